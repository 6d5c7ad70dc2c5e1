import PyProof.Rows.All
import Wide.All
import OpenK.AllK
import Wide.FinOn
import Lean
import PyProof.EqAt
import PyProof.EqKinds
import PyProof.NeKinds
import PyProof.TupleCall
import PySem.Challenge.RW_rinsework_k65_tray_order_looked_at
set_option Elab.async false
set_option linter.all false
set_option maxRecDepth 100000
namespace PySem.W.Fast
def tw10006832744986717774:=0
def tw10901556055353065106:=0
def tw14659819347807149073:=0
def tw1513238998343608747:=0
def tw15325016367014440933:=0
def tw15765728113707166673:=0
def tw16216852973585210007:=0
def tw17968827681419014618:=0
def tw1897114331957376298:=0
def tw2405738382782781033:=0
def tw2579145815950850335:=0
def tw2943605888048109423:=0
def tw3143316422684966448:=0
def tw3429209405594922744:=0
def tw379585581263163297:=0
def tw4005770453380442262:=0
def tw5584681508552125360:=0
def tw7091939635455504026:=0
def tw8785866971193122396:=0
def tw6897841659241817539:=0
def tw16945984458693659784:=0
def tw9860900034688875564:=0
def tw14908715669746621840:=0
def tw15328771641954306682:=0
def tw3565285320410479853:=0
def tw3341438049865096416:=0
def tw9549240081569662952:=0
def tw4026836503720153272:=0
def tw11864733341932522429:=0
def tw3457744787241901472:=0
def tw14020672779860075496:=0
def tw5644911278769615626:=0
def tw17502162222176635771:=0
def tw375330690566238355:=0
def tw6261110197439161914:=0
def tw16651085975420779635:=0
def tw12069238615272830017:=0
def tw13923154576343493226:=0
def tw15343167231294170322:=0
def tw8928684073486686695:=0
def tw17333176031159404267:=0
def tw12477216512161366547:=0
def tw18290397877572062387:=0
def tw3809214089215076246:=0
def tw16351010626811133510:=0
def tw17571233509267538245:=0
def tw8687551848007802409:=0
def tw2214841945325953255:=0
def tw8896094187423518941:=0
def tw5377411821805857002:=0
def tw6257057156012079999:=0
def tw9632714728453350887:=0
def tw8434962636941876238:=0
def tw18078869275124288507:=0
def tw11504965843469665191:=0
def tw4438465115104327865:=0
def tw1704173834070486246:=0
def tw3248774590007639278:=0
def tw1982427931393927377:=0
def tw11533796855653592704:=0
def tw7558366149418261790:=0
def tw18293679014690324093:=0
def tw14286005617962232184:=0
def tw18084766177418518269:=0
def tw3003900174430851655:=0
def tw11464317026573602120:=0
def tw12277544039809889627:=0
def tw15266054938066970879:=0
def tw14211253580259357187:=0
def tw7249920218591113260:=0
def tw17218101974608965321:=0
def tw8475383457698119563:=0
def tw1830934854947660553:=0
def tw3635005534088138092:=0
def tw2557576875696085987:=0
def tw9241503794782440792:=0
def tw12446369258280428419:=0
def tw1619636815603725924:=0
def tw15955149111452660076:=0
def tw16071045815784674397:=0
def tw17442923737652561400:=0
def tw4042924807661628578:=0
def tw14716631085011299451:=0
def tw12014397567298970898:=0
def tw4074292298044887046:=0
def tw4281917389725028935:=0
def tw13237393975266356650:=0
def tw11453895637426674614:=0
def tw10395486586698517837:=0
def tw18300180380016263067:=0
def tw4579659957999788314:=0
def tw12133415264784617125:=0
def tw3295580052393344289:=0
def tw16940213568578429653:=0
def tw6291145998362947459:=0
def tw4900729714370222947:=0
def tw14841789118637680771:=0
def tw13717681063817874915:=0
def tw4435541848412907377:=0
def tw2934725887195079285:=0
def tw6049864478708645825:=0
def tw8709417792844210974:=0
def tw17028582980188985668:=0
def tw2880035769894542702:=0
def tw4821806712541218028:=0
def tw6369005681882167188:=0
def tw12669705973409237213:=0
def tw8320452744167498478:=0
def tw4469781563295261700:=0
def tw17159983900660967690:=0
def tw2830402632701008245:=0
def tw4069058882764827440:=0
def tw2225653359557929907:=0
def tw23545131380205717:=0
def tw9310634979615260035:=0
def tw14303970483160685880:=0
def tw4050495220897042551:=0
def tw6859099335615793039:=0
def tw8504444356422384677:=0
def tw15628535112312761475:=0
def tw10985146418350118605:=0
def tw17737826704231886766:=0
def tw6220798128592714366:=0
def tw11292108980737835010:=0
def tw4672028801635298244:=0
def tw16267799637963083255:=0
def tw11022173209950079551:=0
def tw2184624031608795239:=0
def tw16407390450023061314:=0
def tw7659672195798821154:=0
def tw8084083468244457980:=0
def tw10951847678414967954:=0
def tw5012305836119573000:=0
def tw6786887979626671675:=0
def tw1132601371255030404:=0
def tw18093187212027394892:=0
def tw5422817863804176697:=0
def tw5061730962085193558:=0
def tw12259834549277415157:=0
def tw1515323657581527804:=0
def tw8876956003675787495:=0
def tw12600678310179705495:=0
def tw14362438630378335916:=0
def tw10249503253432805730:=0
def tw326817320294451412:=0
def tw2312188749852029229:=0
def tw14783709555548375813:=0
def tw8351814127593988049:=0
def tw2674932351099629831:=0
def tw6528334022932614234:=0
def tw12051909041531024218:=0
def tw17590446896807696829:=0
def tw17816690107399803228:=0
def tw7193131847033840883:=0
def tw10749687326850228093:=0
def tw13909978445253862622:=0
def tw13044225645613966906:=0
def tw7108612723687783829:=0
def tw9655203496745230952:=0
def tw3786361356397753843:=0
def tw147522909232956673:=0
def tw4563001096694514627:=0
def tw6306890495718955103:=0
def tw11421642861549583202:=0
def tw9656673587497612314:=0
def tw1774998817361211966:=0
def tw4017105806121448693:=0
def tw5101332259417952536:=0
def tw13696375017237416890:=0
def tw14341242705925545773:=0
def tw13775490280187274979:=0
def tw15099419896532085483:=0
def tw17587540075806068804:=0
def tw12146387709650609223:=0
def tw3168185384758013378:=0
def tw13944027319940687036:=0
def tw5298442765218491889:=0
def tw7115836930099676938:=0
def tw9641576575038581498:=0
def tw9177513398505484006:=0
def tw11387934184452616347:=0
def tw13317899626080241255:=0
def tw15957071769148655361:=0
def tw12667825012505850764:=0
def tw11162127501521298427:=0
def tw16266542057499474261:=0
def tw10553219629805289749:=0
def tw7269060599618795497:=0
def tw14697451044505007729:=0
def tw12622866804717716250:=0
def tw8894299444795575294:=0
def tw2085091257749411176:=0
def tw9852049063635365491:=0
def tw9785842067472536254:=0
def tw13211556598392797045:=0
def tw6408533583283591799:=0
def tw13075611957172421432:=0
def tw9368148995814315865:=0
def tw5134965320705449955:=0
def tw14086928512334258388:=0
def tw12751216241542831141:=0
def tw1190281416944710714:=0
def tw15306796199642243335:=0
def tw12959533817782667134:=0
def tw7149011621325271846:=0
def tw10051134008075104161:=0
def tw11455566846843698691:=0
def tw12257206206424561879:=0
def tw16181101838425067830:=0
def tw2521864650923257714:=0
def tw5033765265213941017:=0
def tw17108853757363629561:=0
def tw7135471766205734647:=0
def tw2984621827180283988:=0
def tw1816747495755355125:=0
def tw3423614764102263155:=0
def tw193118759703697153:=0
def tw1685583817344135064:=0
def tw13614803235239456383:=0
def tw13070513911398013295:=0
def tw4921049864174560062:=0
def tw7488168970903323857:=0
def tw7417487453225255016:=0
def tw12573310684185151300:=0
def tw16460579532826289604:=0
def tw15020584323735328607:=0
def tw6318324937903524080:=0
def tw8092242386443212357:=0
def tw14499468520162905039:=0
def tw7832445263584472944:=0
def tw14729266668419900958:=0
def tw16370722862094078067:=0
def tw4547157912255926428:=0
def tw14702216591162818817:=0
def tw18403851546028822013:=0
def tw823991640617880839:=0
def tw4826064644345362048:=0
def tw684124748187490616:=0
def tw915644925304594407:=0
def tw10278714097289210339:=0
def tw2511619013245029119:=0
def tw11949784604273016783:=0
def tw11500574743521945541:=0
def tw9567774412884067426:=0
def tw811074984744603745:=0
def tw8157206832455901419:=0
def tw1319847618848962569:=0
def tw188605631021194569:=0
def tw8266598065353982086:=0
def tw1109662749615173741:=0
def tw11149801449183445340:=0
def tw10760956949868008170:=0
def tw11123264534446281490:=0
def tw13055903711813361841:=0
def tw11677230022314929489:=0
def tw15249508974208286826:=0
def tw17483753829888079568:=0
def tw1609856124038377807:=0
def tw358434602172669569:=0
def tw17901098402816303259:=0
def tw10793557030177043926:=0
def tw17158941035589436945:=0
def tw1140536925526157398:=0
def tw4600797755089771559:=0
def tw13728358721018671427:=0
def tw16269781103581826386:=0
def tw11630852028107754773:=0
def tw4869907472422192311:=0
def tw13848941348916158328:=0
def tw17619214971335705964:=0
def tw17509805273824726825:=0
def tw11710846057537334804:=0
def tw9325461149808521135:=0
def tw10944938174354015376:=0
def tw9400931666075568258:=0
def tw15258104604598138616:=0
def tw16599244689436000030:=0
def tw3887149957548928541:=0
def tw1113551651257010485:=0
def tw2244543682239917933:=0
def tw3775423919114176912:=0
def tw8801017773097268108:=0
def tw15457994500119600526:=0
def tw14986758941893337360:=0
def tw12596747309256426484:=0
def tw6138583469653833789:=0
def tw16922474241716473285:=0
def tw1780034229658641420:=0
def tw15475204890694098881:=0
def tw17395593396543425299:=0
def tw17204021295246427647:=0
def tw3232032684880030783:=0
def tw89337979030247436:=0
def tw10179137864042117228:=0
def tw11182183068646529249:=0
def tw16280796424037070562:=0
def tw2309884601979126981:=0
def tw7646646213792066164:=0
def tw11403769416415525726:=0
def tw12523123735293739905:=0
def tw6398895145590133403:=0
def tw3664165589136864918:=0
def tw1565511127623591923:=0
def tw16253236349115710412:=0
def tw13972682682304219538:=0
def tw1690343294351481436:=0
def tw9960449737538989992:=0
def tw15857987611495020382:=0
def tw6972319408474236828:=0
def tw4849076897064814466:=0
def tw15332934122200473442:=0
def tw9419716910089776173:=0
def tw59605573892548364:=0
def tw9186963011399096207:=0
def tw11757380452262141824:=0
def tw14832072733934506278:=0
def tw9754976310156830273:=0
def tw17220537986965453497:=0
def tw1238227431352679032:=0
def tw17567429948010552234:=0
def tw294215441162443356:=0
def tw11334762234209364995:=0
def tw12480675823619762563:=0
def tw10608141408209380164:=0
def tw16114323665715348196:=0
def tw14385487757626336351:=0
def tw17067280422895348109:=0
def tw12852173131772454715:=0
def tw995039511026686796:=0
def tw4087707418883217412:=0
def tw15843365213906601933:=0
def tw9042220190036530555:=0
def tw1585571423361799884:=0
def tw16453946576198304147:=0
def tw4303210781017760809:=0
def tw3371178582709652474:=0
def tw13738154366926539584:=0
def tw17118705684848993155:=0
def tw6249111932332416047:=0
def tw1141303087789530203:=0
def tw8982532287374915817:=0
def tw618787510731609880:=0
def tw17619778037305015032:=0
def tw18204008725973593505:=0
def tw488901351343804789:=0
def tw13942478626554944223:=0
def tw16358385483882839821:=0
def tw16357712997512570961:=0
def tw4972414082087710194:=0
def tw3001308618742325217:=0
def tw14925718499724158109:=0
def tw8944514523310835389:=0
def tw587275686615132870:=0
def tw3663011889758086548:=0
def tw10917624906782108581:=0
def tw17613800290547063073:=0
def tw6772677775436610011:=0
def tw16570503260801536371:=0
def tw12993025191626267521:=0
def tw17521402955607101744:=0
def tw6679118839966390175:=0
def tw1345938513638032723:=0
def tw4784628826517802636:=0
def tw12056956096075278129:=0
def tw10864978125979213889:=0
def tw13547094776297713916:=0
def tw12711971297348206512:=0
def tw15671848624159130017:=0
def tw16813498050152226898:=0
def tw3385754661837206701:=0
def tw6123668027589399122:=0
def tw3980554487279669656:=0
def tw17226582069870938478:=0
def tw6326055191339813773:=0
def tw6942661118741788160:=0
def tw3460299125766436456:=0
def tw11442940716288901691:=0
def tw10110503192061896084:=0
def tw10169558895995197182:=0
def tw11718850730976779944:=0
def tw17278563283507159073:=0
def tw7122235537211668825:=0
def tw14315618745283130829:=0
def tw10292135629831728495:=0
def tw9345107941652349713:=0
def tw12475678662819715017:=0
def tw906566976633010583:=0
def tw13226920747679014001:=0
def tw8213088322302623186:=0
def tw8168006308490189165:=0
def tw10090732058201764836:=0
def tw2795963075917672119:=0
def tw16518565127062612800:=0
def tw1315928731518266498:=0
def tw11937625795659533357:=0
def tw9039382782284819832:=0
def tw6807874344018141809:=0
def tw14351657597323731151:=0
def tw4958495236772240536:=0
def tw6190979258366851993:=0
def tw13645223293174151725:=0
def tw9131379049431190380:=0
def tw15046417164023365648:=0
def tw6539887436359558863:=0
def tw10928033252664921044:=0
def tw9985257538267793754:=0
def tw15979875404958699929:=0
def tw7802528288865591055:=0
def tw11860779097797320165:=0
def tw16707484961944639246:=0
def tw5358913554798450743:=0
def tw11100996124907893800:=0
def tw16555650879759156990:=0
def tw291088004586222941:=0
def tw13376384923110083604:=0
def tw13581559011599284916:=0
def tw3080953624639063138:=0
def tw15355964791932315659:=0
end PySem.W.Fast
abbrev yZ:=@List.length_map
abbrev yY:=@List.size_toArray
abbrev yX:=@PySem.Heap.get?_push_of_some
abbrev yW:=@List.getElem?_eq_getElem
abbrev yV:=@PySem.wpAny_bind
abbrev yU:=@Nat.le_refl
abbrev yT:=@PySem.Heap.lt_size
abbrev yS:=@Bool.false_ne_true
abbrev yR:=@List.mem_singleton
abbrev yQ:=@List.mem_cons_self
abbrev yP:=@List.mem_cons
abbrev yO:=@List.map_cons
abbrev yN:=@List.mem_cons_of_mem
abbrev yM:=@List.getElem?_map
abbrev yL:=@Option.map_eq_some_iff
abbrev yK:=@Nat.ne_of_lt
abbrev yJ:=@List.length_append
abbrev yI:=@PySem.Heap.get?_push_size
abbrev yH:=@Nat.lt_of_lt_of_le
abbrev yG:=@PySem.wpAny_pure
abbrev yF:=@List.map_map
abbrev yE:=@List.mem_map
abbrev yD:=@decide_eq_false
abbrev yC:=@decide_eq_true
abbrev yB:=@Option.bind_some
abbrev yA:=@List.length_cons
abbrev yz:=@List.getElem?_eq_some_iff
abbrev yy:=@List.getElem?_set
abbrev yx:=@List.nodup_cons
abbrev yw:=@List.map_append
abbrev yv:=@List.mem_append_right
abbrev yu:=@List.mem_append
abbrev yt:=@Int.emod_lt_of_pos
abbrev yr:=@List.getElem_mem
abbrev yq:=@Int.emod_nonneg
abbrev yp:=@Nat.le_trans
abbrev yo:=@Nat.zero_le
abbrev yn:=@List.getElem?_set_ne
abbrev ym:=@List.mem_of_getElem?
abbrev yk:=@List.append_nil
abbrev yj:=@List.flatten_cons
abbrev yi:=@List.not_mem_nil
abbrev yh:=@List.getElem_toArray
abbrev yg:=@List.getElem?_append_left
abbrev yf:=@Bool.and_eq_true
abbrev ye:=@List.pairwise_cons
abbrev yd:=@List.length_set
abbrev yc:=@List.getElem?_append_right
abbrev yb:=@List.getD_eq_getElem?_getD
abbrev ya:=@List.drop_eq_getElem_cons
abbrev uZ:=@List.mem_range
abbrev uY:=@List.mem_map_of_mem
abbrev uX:=@List.map_congr_left
abbrev uW:=@Int.eq_ofNat_of_zero_le
abbrev uV:=@Nat.lt_irrefl
abbrev uU:=@List.perm_middle
abbrev uT:=@List.append_assoc
abbrev uS:=@Nat.le_of_lt
abbrev uR:=@List.getElem?_eq_none
abbrev uQ:=@List.find?_cons
abbrev uP:=@Option.bind_eq_some_iff
abbrev uO:=@List.lookup_cons
abbrev uN:=@of_decide_eq_true
abbrev uM:=@Option.map_some
abbrev uL:=@List.replicate_succ
abbrev uK:=@List.getElem_of_mem
abbrev uJ:=@PySem.Heap.get?_update_other
abbrev uI:=@List.length_take
abbrev uH:=@List.all_eq_true
abbrev uG:=@PySem.Heap.size_push
abbrev uF:=@Bool.false_eq_true
abbrev uE:=@List.mem_filter
abbrev uD:=@List.mem_append_left
abbrev uC:=@Int.mul_le_mul_of_nonneg_right
abbrev uB:=@Nat.lt_succ_self
abbrev uA:=@List.drop_length
abbrev uz:=@List.not_lt
abbrev uy:=@List.length_range
abbrev ux:=@List.flatMap_cons
abbrev uw:=@PySem.Heap.get?_none_of_le
abbrev uu:=@Nat.ne_of_gt
abbrev ut:=@List.length_drop
abbrev ur:=@List.take_length
abbrev uq:=@List.filter_cons
abbrev uo:=@Array.length_toList
abbrev um:=@List.getElem?_replicate
abbrev uk:=@List.pairwise_singleton
abbrev uj:=@List.length_eq_zero_iff
abbrev ui:=@List.of_mem_zip
abbrev ug:=@List.getElem?_set_self
abbrev uf:=@Nat.le_succ
abbrev ue:=@Int.toNat_natCast
abbrev ud:=@List.length_replicate
abbrev ub:=@Array.getElem?_toList
abbrev ua:=@Option.getD_none
abbrev tZ:=@Array.toList_inj
namespace L2
abbrev Fg:=PySem.W.Frag
end L2
namespace L2
open PySem PySem.Spec PyProof.Rows
variable{us:List Value}{C a b dx it:Addr}{u:Value}{P:Program}{w:World}{h:Heap}{g':Array GenState}{j n t':Nat}{d':Drawn}{ch fp:List Addr}{m qual x:Str}{c e tg:Expr}{N ps:List Str}{A:Around}{E Q:Value->Shared->Prop}{s s':Shared}{α:Type}{pins:List (Addr×Obj)}{pos:Pos}{op op':CmpOp}{K:Fg}{f:Value->Value->Sem Value}{es:List Expr}{lo:Int}{body:List Stmt}{mA mg:Str->Option Value}{kw:List (Str×Value)}{fd:FuncData}{outer:List Env}{scope:Scope}
abbrev x8:=Sum Int Str
def jO:x8->Value->Bool
 | .inl k,v=>Value.isInt k v
 | .inr x,v=>Value.isStrOf x v
def keyH (w:World):x8->Int
 | .inl k=>hashInt k
 | .inr x=>hashStr w x
theorem zL:∀{k:x8}{v:Value},jO k v=true->(∃ i t,k=Sum.inl i/\v=Value.int i t)∨(∃ x t,k=Sum.inr x/\v=Value.str x t)
 | .inl i,v,h=>by
  obtain ⟨t,e⟩:=Value.isInt_shape (k:=i) (v:=v) h;exact .inl ⟨i,t,rfl,e⟩
 | .inr x,v,h=>by
  obtain ⟨t,e⟩:=Value.isStrOf_shape (x:=x) (v:=v) h;exact .inr ⟨x,t,rfl,e⟩
theorem Cz (i:Int)(t:Tok):jO (.inl i) (.int i t)=true:=by simp [jO,Value.isInt]
theorem Uu (x:Str)(t:Tok):jO (.inr x) (.str x t)=true:=by simp [jO,Value.isStrOf]
theorem CA (a b:Int):decide ((Sum.inl a:x8)=Sum.inl b)=(a==b):=by
 by_cases e:a=b
 ·subst e;simp
 ·have h:¬ (Sum.inl a:x8)=Sum.inl b:=λq=>e (Sum.inl.inj q);rw [yD h];exact (beq_eq_false_iff_ne.mpr e).symm
theorem CD (a b:Str):decide ((Sum.inr a:x8)=Sum.inr b)=decide (a=b):=by
 by_cases e:a=b
 ·subst e;simp
 ·have h:¬ (Sum.inr a:x8)=Sum.inr b:=λq=>e (Sum.inr.inj q);rw [yD h,yD e]
theorem CB (a:Int)(b:Str):decide ((Sum.inl a:x8)=Sum.inr b)=false:=yD (λq=>nomatch q)
theorem CC (a:Str)(b:Int):decide ((Sum.inr a:x8)=Sum.inl b)=false:=yD (λq=>nomatch q)
def m8 (prog:Program)(w:World):PySem.KeyKind prog w x8 where
 is:=jO
 hash:=keyH w
 inj:=λv a b ha hb=>by
  rcases zL ha with ⟨i,t,rfl,rfl⟩|⟨x,t,rfl,rfl⟩
  ·rcases zL hb with ⟨j,u,rfl,e⟩|⟨y,u,rfl,e⟩
   ·injection e with e1 _;rw [e1]
   ·exact nomatch e
  ·rcases zL hb with ⟨j,u,rfl,e⟩|⟨y,u,rfl,e⟩
   ·exact nomatch e
   ·injection e with e1 _;rw [e1]
 byValue:=λk v h=>by
  rcases zL h with ⟨i,t,rfl,rfl⟩|⟨x,t,rfl,rfl⟩<;>rfl
 pyHash:=λhv h=>by
  rcases zL hv with ⟨i,t,rfl,rfl⟩|⟨x,t,rfl,rfl⟩
  ·exact wpAny_pyHash_int h
  ·exact wpAny_pyHash_str h
 eqBool:=λhu hv h=>by
  rcases zL hu with ⟨i,t,rfl,rfl⟩|⟨x,t,rfl,rfl⟩
  ·rcases zL hv with ⟨j,u,rfl,rfl⟩|⟨y,u,rfl,rfl⟩
   ·rw [CA] at h;exact wpAny_eqBool_int h
   ·rw [CB] at h;exact SeqAt.EqAt.int_str i t y u _ _ _ _ h
  ·rcases zL hv with ⟨j,u,rfl,rfl⟩|⟨y,u,rfl,rfl⟩
   ·rw [CC] at h;exact SeqAt.EqAt.str_int x t j u _ _ _ _ h
   ·rw [CD] at h;exact wpAny_eqBool_str h
 «strs»:=λk x t v h=>by
  rcases zL h with ⟨i,u,rfl,e⟩|⟨y,u,rfl,e⟩
  ·exact nomatch e
  ·injection e with e1 _;subst e1;cases v<;>rfl
theorem De (prog:Program)(w:World)(i:Int)(t:Tok):(m8 prog w).is (.inl i) (.int i t)=true:=Cz i t
theorem ZU (prog:Program)(w:World)(x:Str)(t:Tok):(m8 prog w).is (.inr x) (.str x t)=true:=Uu x t
inductive V where
 |non|bl (b:Bool)|int (i:Int)|str (x:Str)|byt (b:Array UInt8)|flt (b:UInt64)|ref (a:Addr)|ty (n:String)
 deriving DecidableEq
variable{vs xs:List V}{v y:V}
def RelV:V->Value->Prop
 | .non,u=>u=Value.none
 | .bl b,u=>u=Value.bool b
 | .int i,u=>∃ t,u=Value.int i t
 | .str x,u=>∃ t,u=Value.str x t
 | .byt b,u=>∃ t,u=Value.bytes b t
 | .flt b,u=>∃ t,u=Value.float b t
 | .ref a,u=>u=Value.ref a
 | .ty n,u=>u=Value.type n
abbrev Vals:List V->List Value->Prop:=Paired RelV
theorem Vals.length (r:Vals xs us):xs.length=us.length:=Paired.length r
theorem Vals.get:∀{xs:List V}{us:List Value}{i:Nat}{x:V},Vals xs us->xs[i]?=some x->∃ u,us[i]?=some u/\RelV x u
 |_,_,_,_,.nil,e=>by simp at e
 |_,_,0,_,.cons r _,e=>by simp at e;subst e;exact ⟨_,rfl,r⟩
 |_,_,i+1,x,.cons _ t,e=>by
  obtain ⟨u,h1,h2⟩:=Vals.get (i:=i) (x:=x) t (by simpa using e);exact ⟨u,by simpa using h1,h2⟩
theorem Vals.set {x:V}{u:Value}(r:RelV x u):∀{xs:List V}{us:List Value}(i:Nat),Vals xs us->Vals (xs.set i x) (us.set i u)
 |_,_,_,.nil=> .nil
 |_,_,0,.cons _ t=> .cons r t
 |_,_,i+1,.cons q t=> .cons q (Vals.set r i t)
theorem Vals.append:∀{xs ys:List V}{us ws:List Value},Vals xs us->Vals ys ws->Vals (xs++ys) (us++ws)
 |_,_,_,_,.nil,s=>s
 |_,_,_,_,.cons r t,s=> .cons r (Vals.append t s)
theorem Vals.take:∀{xs:List V}{us:List Value}(n:Nat),Vals xs us->Vals (xs.take n) (us.take n)
 |_,_,0,_=> .nil
 |_,_,_+1,.nil=> .nil
 |_,_,n+1,.cons r t=> .cons r (Vals.take n t)
theorem Vals.drop:∀{xs:List V}{us:List Value}(n:Nat),Vals xs us->Vals (xs.drop n) (us.drop n)
 |_,_,0,r=>r
 |_,_,_+1,.nil=> .nil
 |_,_,n+1,.cons _ t=>Vals.drop n t
def RelO:Option V->Option Value->Prop
 |some v,some u=>RelV v u
 |none,none=>True
 |_,_=>False
def KV {κ:Type}:List (κ×V)->List (κ×Value)->Prop:=Paired λ(p:κ×V) (q:κ×Value)=>p.1=q.1/\RelV p.2 q.2
def kV:x8->V
 | .inl i=> .int i
 | .inr x=> .str x
def TABS:List (Addr×Array Value×List (Pos×Str)):=[(89,#[],[((⟨35,30,35,75⟩:Pos),("by_dues.<locals>.<lambda>":Str))]),(514,#[],[((⟨278,38,278,72⟩:Pos),("_law_put_right.<locals>.<lambda>":Str))])]
inductive HO where
 /-- a list -/
 |lst (xs:List V)
 /-- a tuple (never changes) -/
 |tup (xs:List V)
 /-- a dict whose keys are ints and texts;one whose keys are tuples of ints and texts (the empty one is both) -/
 |dK (kvs:List (x8×V))|dT (kvs:List (List x8×V))
 /-- a set of ints: its members,its size -/
 |set (S:Int->Bool) (n:Nat)
 /-- an instance of the class at C,its dict at dx,its attributes -/
 |ins (C dx:Addr) (fs:List (Str×V))
 /-- the dict of the instance at x -/
 |own (x:Addr)
 /-- the dict of an exception -/
 |xd (fs:List (Str×V))
 /-- a bound method,f of x -/
 |met (f x:Addr)
 /-- a range object lo,lo+1,.. below hi -/
 |rng (lo hi:Int)
 /-- a thing that is known to the object (the script;a dict while a loop walks it): read,never written while it is so -/
 |frz (o:Obj) (u:HO)
 /-- a code object's table -/
 |tbl (ps:Array Value) (q:List (Pos×Str))
 /-- any other thing,by what is true of its one object (a def of one's own: jx a S n:=HO.ext λh=> ..) -/
 |ext (φ:Heap->Prop)
variable{o:HO}
abbrev Hp:=Addr->Option HO
variable{H:Hp}{R:V->V->Hp->Prop}
def z5 (H:Hp)(a:Addr)(o:HO):Hp:=λb=>if b=a then some o else H b
theorem v6 :z5 H a o a=some o:=by unfold z5;rw [if_pos rfl]
theorem z0 (h:b≠a):z5 H a o b=H b:=by unfold z5;rw [if_neg h]
theorem ne_of {u:HO}(h:H a=some o)(h':H b=some u)(d:o≠u):a≠b:=by intro e;subst e;rw [h] at h';exact d (Option.some.inj h')
theorem w4 (h:H a=some o)(h':H b=none):a≠b:=by intro e;subst e;rw [h] at h';cases h'
section
variable (P:Program)(w:World)
def ObjOk (H:Hp)(h:Heap)(a:Addr):HO->Prop
 | .lst xs=>xs.length<=sizeLine/\∃ (its:List Value) (n:Nat),Vals xs its/\h.get? a=some { cls:= .type "list",data:= .seq its.toArray n }
 | .tup xs=>xs.length<=sizeLine/\∃ its:List Value,Vals xs its/\IsTup h a its.toArray
 | .dK kvs=>kvs.length<=sizeLine/\(a==sysModules)=false/\∃ vs,KV kvs vs/\h.DictOf (m8 P w) a vs
 | .dT kvs=>kvs.length<=sizeLine/\(a==sysModules)=false/\∃ xs:List (List x8×Addr×Value),
   Paired (λ(p:List x8×V) (q:List x8×Addr×Value)=>p.1=q.1/\H q.2.1=some (.tup (p.1.map kV))/\RelV p.2 q.2.2) kvs xs /\
   ∃ o es ep,h.get? a=some o/\o.ExactDict/\o.data = .dict es ep/\es.toList=xs.map (entryOfKey (tupleKind (m8 P w)))/\(xs.map (·.1)).Nodup
 | .set S n=>h.SetOf (intKind P w) a S n
 | .ins C dx fs=>H dx=some (.own a)/\fs.length<=1000/\dx≠a/\h.get? a=some (PySem.W.instObj C dx) /\
   ∃ mA,h.Ns1 dx mA/\(∀ f,RelO (fs.lookup f) (mA f))/\PySem.Within mA (fs.map (·.1))
 | .own _=>∃ o,h.get? a=some o
 | .xd fs=>∃ mA,h.Ns1 a mA/\∀ f,RelO (fs.lookup f) (mA f)
 | .rng lo hi=>∃ t u v,h.get? a=some { cls:= .type "range",data:= .fields #[.int lo t,.int hi u,.int 1 v] }
 | .frz o u=>h.get? a=some o/\ObjOk H h a u
 | .tbl ps q=>∃ more:Array Value,h.get? a=some { cls:= .none,data:= .fields (ps++more) }/\TriplesOk (ps++more).toList /\
   ∀ p∈q,codeAmong p.1 (ps++more).toList=none∨∃ c o vs t,codeAmong p.1 (ps++more).toList=some (.ref c)/\H c=some (.frz o (.own a))/\o.data = .fields vs/\vs[1]?=some (.str p.2 t)
 | .met f x=>h.get? a=some (PySem.W.methodObj (.ref f) (.ref x))
 | .ext φ=>φ h/\(∃ o,h.get? a=some o)/\∀ h1 h2:Heap,φ h1->(∀ o,h1.get? a=some o->h2.get? a=some o)->φ h2
def HOk (H:Hp)(h:Heap):Prop:=∀ a o,H a=some o->ObjOk P w H h a o
end
section
variable {P:Program}{w:World}{H H':Hp}{h h':Heap}{a:Addr}{o:HO}
theorem ObjOk.lt (x:ObjOk P w H h a o):a<h.objs.size:=by
 cases o with
 |lst xs=>obtain ⟨_,_,_,_,e⟩:=x;exact yT e
 |tup xs=>obtain ⟨_,_,_,p⟩:=x;exact p.lt
 |dK kvs=>obtain ⟨_,_,_,_,o,_,_,e,_⟩:=x;exact yT e
 |dT kvs=>obtain ⟨_,_,_,_,o,_,_,e,_⟩:=x;exact yT e
 |set S n=>obtain ⟨o,_,_,_,e,_⟩:=x;exact yT e
 |ins C dx fs=>obtain ⟨_,_,_,e,_⟩:=x;exact yT e
 |own y=>obtain ⟨_,e⟩:=x;exact yT e
 |xd fs=>obtain ⟨_,⟨_,_,_,e,_⟩,_⟩:=x;exact yT e
 |rng lo hi=>obtain ⟨_,_,_,e⟩:=x;exact yT e
 |frz ob u=>obtain ⟨e,_⟩:=x;exact yT e
 |tbl ps q=>obtain ⟨_,e,_⟩:=x;exact yT e
 |met f y=>exact yT (show h.get? a=some _ from x)
 |ext φ=>obtain ⟨_,⟨_,e⟩,_⟩:=x;exact yT e
theorem Paired.mapP {α β:Type}{F G:α->β->Prop}:∀{l₁:List α}{l₂:List β},Paired F l₁ l₂->(∀ a b,F a b->G a b)->Paired G l₁ l₂
 |_,_,.nil,_=> .nil
 |_,_,.cons r t,f=> .cons (f _ _ r) (Paired.mapP t f)
theorem ObjOk.stay (x:ObjOk P w H h a o)(k:∀ b u,(b=a∨H b=some (.own a))->h.get? b=some u->h'.get? b=some u)(ho:∀ b,H b=some (.own a)->H' b=some (.own a))(ht:∀ b xs,H b=some (.tup xs)->H' b=some (.tup xs))(hz:∀ b o u,H b=some (.frz o u)->H' b=some (.frz o u)):ObjOk P w H' h' a o:=by
 induction o with
 |lst xs=>obtain ⟨z,its,n,r,e⟩:=x;exact ⟨z,its,n,r,k _ _ (.inl rfl) e⟩
 |tup xs=>obtain ⟨z,its,r,ob,e,c⟩:=x;exact ⟨z,its,r,ob,k _ _ (.inl rfl) e,c⟩
 |dK kvs=>obtain ⟨z,y,vs,r,ob,es,ep,e,c⟩:=x;exact ⟨z,y,vs,r,ob,es,ep,k _ _ (.inl rfl) e,c⟩
 |dT kvs=>obtain ⟨z,y,xs,r,ob,es,ep,e,c⟩:=x;exact ⟨z,y,xs,Paired.mapP r λp q z=>⟨z.1,ht _ _ z.2.1,z.2.2⟩,ob,es,ep,k _ _ (.inl rfl) e,c⟩
 |set S n=>obtain ⟨ob,es,ep,t,e,c⟩:=x;exact ⟨ob,es,ep,t,k _ _ (.inl rfl) e,c⟩
 |ins C dx fs=>obtain ⟨d,z,ne,e,mA,⟨od,es,ep,e2,c⟩,r⟩:=x;exact ⟨ho _ d,z,ne,k _ _ (.inl rfl) e,mA,⟨od,es,ep,k _ _ (.inr d) e2,c⟩,r⟩
 |own y=>obtain ⟨ob,e⟩:=x;exact ⟨ob,k _ _ (.inl rfl) e⟩
 |xd fs=>obtain ⟨mA,⟨od,es,ep,e,c⟩,r⟩:=x;exact ⟨mA,⟨od,es,ep,k _ _ (.inl rfl) e,c⟩,r⟩
 |rng lo hi=>obtain ⟨t,u,v,e⟩:=x;exact ⟨t,u,v,k _ _ (.inl rfl) e⟩
 |frz ob u ih=>obtain ⟨e,q⟩:=x;exact ⟨k _ _ (.inl rfl) e,ih q⟩
 |tbl ps q =>
  obtain ⟨more,e,t,r⟩:=x;refine ⟨more,k a _ (.inl rfl) e,t,λp hp=>?_⟩;rcases r p hp with z|⟨c,o,vs,t,z,oc,e2⟩
  ·exact .inl z
  ·exact .inr ⟨c,o,vs,t,z,hz c o _ oc,e2⟩
 |met f y=>have e:h.get? a=some (PySem.W.methodObj (.ref f) (.ref y)):=x;show h'.get? a=some (PySem.W.methodObj (.ref f) (.ref y));exact k a _ (.inl rfl) e
 |ext φ=>obtain ⟨p,⟨o,e⟩,st⟩:=x;exact ⟨st _ _ p λo q=>k _ _ (.inl rfl) q,⟨o,k _ _ (.inl rfl) e⟩,st⟩
theorem HOk.lt (x:HOk P w H h)(e:H a=some o):a<h.objs.size:=(x a o e).lt
theorem HOk.fresh (x:HOk P w H h)(e:h.objs.size<=a):H a=none:=by
 cases q:H a with
 |none=>rfl
 |some u=>exact absurd (yH (x.lt q) e) (uV _)
theorem HOk.kept (x:HOk P w H h)(k:∀ b u,h.get? b=some u->h'.get? b=some u):HOk P w H h':=λa o e =>
 (x a o e).stay (λb u _ q=>k b u q) (λ_ q=>q) (λ_ _ q=>q) λ_ _ _ q=>q
theorem HOk.laid (x:HOk P w H h)(k:∀ b u,h.get? b=some u->h'.get? b=some u)(hp:h.objs.size<=a)(new:ObjOk P w (z5 H a o) h' a o):HOk P w (z5 H a o) h':=λb u e=>by
 have hn:=x.fresh hp;by_cases hb:b=a
 ·subst hb;rw [v6] at e;cases e;exact new
 ·rw [z0 hb] at e;exact (x b u e).stay (λc v _ q=>k c v q) (λc q=>by rw [z0 (w4 q hn)];exact q) (λc xs q=>by rw [z0 (w4 q hn)];exact q) λc _ _ q=>by rw [z0 (w4 q hn)];exact q
end
def Rd (H:Hp)(a:Addr)(u:HO):Prop:=H a=some u∨∃ o,H a=some (.frz o u)
theorem Rd.ok {u:HO}(r:Rd H a u)(x:HOk P w H h):ObjOk P w H h a u:=by
 rcases r with r|⟨o,r⟩
 ·exact x a u r
 ·obtain ⟨_,q⟩:=x a _ r;exact q
def Mut:Option HO->Prop
 |some (.lst _)=>True
 |some (.dK _)=>True
 |some (.dT _)=>True
 |some (.set _ _)=>True
 |some (.ins _ _ _)=>True
 |some (.ext _)=>True
 |_=>False
section
variable {P:Program}{w:World}{H:Hp}{h h':Heap}{x e:Addr}{o':HO}
theorem HOk.write (ok:HOk P w H h)(mu:Mut (H x))(he:e=x∨H e=some (.own x))(k:∀ b u,b≠e->h.get? b=some u->h'.get? b=some u)(heo:∃ u,h'.get? e=some u)(new:ObjOk P w (z5 H x o') h' x o'):HOk P w (z5 H x o') h':=λb u q=>by
 have nown:∀ c y,H c=some (.own y)->c≠x:=λc y r z=>by subst z;rw [r] at mu;exact mu
 have ntup:∀ c xs,H c=some (.tup xs)->c≠x:=λc xs r z=>by subst z;rw [r] at mu;exact mu
 have nfrz:∀ c ob xs,H c=some (.frz ob xs)->c≠x:=λc ob xs r z=>by subst z;rw [r] at mu;exact mu
 by_cases hb:b=x
 ·subst hb;rw [v6] at q;cases q;exact new
 ·rw [z0 hb] at q;by_cases hbe:b=e
  ·have q':H b=some (.own x):=by
    rcases he with z|z
    ·exact absurd (hbe.trans z) hb
    ·rw [hbe];exact z
   rw [q] at q';cases q';obtain ⟨v,hv⟩:=heo;exact ⟨v,by rw [hbe];exact hv⟩
  ·refine (ok b u q).stay (λc v hc r=>k c v ?_ r) (λc r=>by rw [z0 (nown c b r)];exact r) (λc xs r=>by rw [z0 (ntup c xs r)];exact r) λc ob xs r=>by rw [z0 (nfrz c ob xs r)];exact r
   rcases hc with rfl|hc
   ·exact hbe
   ·rintro rfl;rcases he with z|z
    ·exact nown c b hc z
    ·rw [hc] at z;cases z;exact hb rfl
end
structure Un (fs ex:List Addr)(H H':Hp)(h h':Heap):Prop where
 keep:∀ b o,h.get? b=some o->H b=none->b∉fs->b∉ex->h'.get? b=some o
 slot:∀ b o,h.get? b=some o->H b=none->b∈fs->b∉ex->∃ sl,h'.get? b=some { o with slots:=sl }
 free:∀ b o,h.get? b=some o->H b=none->b∉ex->H' b=none
 there:∀ b o,h.get? b=some o->b∉ex->∃ o',h'.get? b=some o'
 tups:∀ b xs,H b=some (.tup xs)->H' b=some (.tup xs)
 frzs:∀ b o u,H b=some (.frz o u)->H' b=some (.frz o u)
 tbls:∀ b ps q,H b=some (.tbl ps q)->H' b=some (.tbl ps q)
section
variable {fs fs' ex ex':List Addr}{H H1 H2:Hp}{h h1 h2 h':Heap}{a x e:Addr}{o:HO}
theorem Un.any (u:Un fs ex H H1 h h1){ob:Obj}(q:h.get? b=some ob)(n:H b=none)(hx:b∉ex):∃ sl,h1.get? b=some { ob with slots:=sl }:=by
 by_cases hb:b∈fs
 ·exact u.slot b ob q n hb hx
 ·exact ⟨ob.slots,u.keep b ob q n hb hx⟩
theorem Un.kept (k:∀ b u,h.get? b=some u->h'.get? b=some u):Un fs ex H H h h' :=
 ⟨λb ob q _ _ _=>k b ob q,λb ob q _ _ _=>⟨ob.slots,k b ob q⟩,λ_ _ _ n _=>n,λb ob q _=>⟨ob,k b ob q⟩,λ_ _ q=>q,λ_ _ _ q=>q,λ_ _ _ q=>q⟩
theorem Un.refl:Un fs ex H H h h:=Un.kept λ_ _ q=>q
theorem Un.laid (k:∀ b u,h.get? b=some u->h'.get? b=some u)(hp:h.objs.size<=a)(hn:H a=none):Un fs ex H (z5 H a o) h h' where
 keep:=λb u q _ _ _=>k b u q
 slot:=λb u q _ _ _=>⟨u.slots,k b u q⟩
 free:=λb u q n _=>by rw [z0 (yK (yH (yT q) hp))];exact n
 there:=λb u q _=>⟨u,k b u q⟩
 tups:=λb xs q=>by rw [z0 (w4 q hn)];exact q
 frzs:=λb u xs q=>by rw [z0 (w4 q hn)];exact q
 tbls:=λb ps z q=>by rw [z0 (w4 q hn)];exact q
theorem Un.write (mu:Mut (H x))(he:e=x∨H e=some (.own x))(k:∀ b u,b≠e->h.get? b=some u->h'.get? b=some u)(heo:∃ u,h'.get? e=some u):Un fs ex H (z5 H x o) h h':=by
 have hx:∀ b,H b=none->b≠x:=λb n z=>by subst z;rw [n] at mu;exact mu
 have hb:∀ b,H b=none->b≠e:=λb n z=>by
  subst z;rcases he with r|r
  ·exact hx b n r
  ·rw [n] at r;cases r
 have hm:∀ b u,H b=some u->¬ Mut (some u)->b≠x:=λb u q nm z=>by subst z;rw [q] at mu;exact nm mu
 refine ⟨λb u q n _ _=>k b u (hb b n) q,λb u q n _ _=>⟨u.slots,k b u (hb b n) q⟩,λb u q n _=>by rw [z0 (hx b n)];exact n,λb u q _=>?_,
  λb xs q=>by rw [z0 (hm b _ q λz=>z)];exact q,λb u xs q=>by rw [z0 (hm b _ q λz=>z)];exact q,λb ps r q=>by rw [z0 (hm b _ q λz=>z)];exact q⟩
 by_cases hbe:b=e
 ·subst hbe;exact heo
 ·exact ⟨u,k b u hbe q⟩
end
def trk (h:Heap)(H:Hp):List Addr:=(List.range h.objs.size).filter λa=>(H a).isSome
def zK (h:Heap)(H:Hp):Heap:=PySem.W.hideAll h (trk h H)
theorem Py (h:Heap)(H:Hp):(zK h H).objs.size=h.objs.size:=PySem.W.hideAll_size _ _
theorem Px {o:Obj}(e:h.get? b=some o)(n:H b=none):(zK h H).get? b=some o :=
 PySem.W.hideAll_get _ e λhm=>by
  have q:(H b).isSome=true:=(uE.mp hm).2;rw [n] at q;simp at q
theorem Dm {o:Obj}(e:(zK h H).get? b=some o):h.get? b=some o/\H b=none:=by
 have e':h.get? b=some o:=PySem.W.of_hideAll (trk h H) e;refine ⟨e',?_⟩;cases q:H b with
 |none=>rfl
 |some x=>have hm:b∈trk h H:=uE.mpr ⟨uZ.mpr (yT e'),by simp [q]⟩;have z:(zK h H).get? b=none:=PySem.W.hideAll_none (trk h H) hm;rw [z] at e;cases e
structure Mod (K:Fg)(mg:Str->Option Value)(base:Heap):Prop where
 kin:K.In base
 glob:base.Ns mainGlobals mg
 blt:∃ mb,base.Ns builtinsNs mb/\∀ x:Str,x ≠ "__name__"->mb x=bootBuiltins x
 nolimit:base.NoLimit
 bmn:∃ bm ob,mg "__builtins__"=some (.ref bm)/\bm≠builtinsNs/\base.get? bm=some ob/\ob.cls = .type "module"/\ob.dict=some builtinsNs/\ob.data = .plain
structure Cx where
 prog:Program
 w:World
 K:Fg
 mg:Str->Option Value
 base:Heap
 A:Around
 N:List Str
 s₀:Shared
 H₀:Hp
 env:Env
 outer:List Env
 stack:List Env
 ex:List Addr
 fn:Str->Bool
 calm:Bool
 pn:List (Addr×Obj)
 xe:Value->Shared->Prop
variable{X:Cx}
def frs (l:List Env):List Addr:=l.filterMap (·.frame)
abbrev Cx.fs (X:Cx):List Addr:=frs X.outer
def Vis (sc:Scope)(x:Str):Prop:=sc.names.lookup x=some .local∨sc.names.lookup x=some .cell∨sc.names.lookup x=some .free
def Loc (sc:Scope)(x:Str):Prop:=sc.names.lookup x=some .local∨sc.names.lookup x=some .cell
def Look (env:Env)(h:Heap)(m:Str->Option Value)(x:Str)(u:Value):Prop :=
 (env.kindOf x=some .local/\m x=some u)∨((env.kindOf x=some .cell∨env.kindOf x=some .free)/\∃ c,env.cells.lookup x=some c/\h.IsCell c (some u))
structure Cx.Ok (X:Cx):Prop where
 mod:Mod X.K X.mg X.base
 kind:X.env.scope.kind = .function
 glob:X.env.globals=mainGlobals
 blt:X.env.builtins=builtinsNs
 above:X.s₀.heap.objs.size<=X.env.locals
 inj:∀ x y c,X.env.cells.lookup x=some c->X.env.cells.lookup y=some c->x=y
 has:∀ x,(X.env.kindOf x=some .cell∨X.env.kindOf x=some .free)->∃ c,X.env.cells.lookup x=some c
 cab:∀ x c,X.fn x=true->X.env.cells.lookup x=some c->X.s₀.heap.objs.size<=c
 hd:X.calm=true->X.A.handled=none
 frames:X.A.frames=some X.stack
 stk:X.stack=X.outer∨(X.stack=X.env::X.outer/\X.env.frame=some X.env.locals)
 exf:∀ b∈X.ex,b≠X.env.locals/\∀ x c,X.env.cells.lookup x=some c->c≠b
 bs:∀ b o,X.base.get? b=some o->X.s₀.heap.get? b=some o/\X.H₀ b=none
 bsz:X.base.objs.size<=X.s₀.heap.objs.size
 noex:∀ b o,X.base.get? b=some o->b∉X.ex
 exfs:∀ b∈X.ex,b∉X.fs
 funs:X.s₀.heap.FunFrames X.base X.outer
 frf:∀ b∈X.fs,X.H₀ b=none
 tbs:∀ p∈TABS,X.H₀ p.1=some (.tbl p.2.1 p.2.2)
structure Inv (X:Cx)(pins:List (Addr×Obj))(σ:List (Option V))(H:Hp)(s:Shared):Prop where
 ok:X.Ok
 os:s.os=X.s₀.os
 bare:AllBare s.gens
 base:Un X.fs X.ex X.H₀ H X.s₀.heap s.heap
 loc:∃ m,s.heap.Ns X.env.locals m/\∀(i:Nat)(x:Str)(v:V),X.N[i]?=some x->σ[i]?=some (some v)->Vis X.env.scope x->∃ u,RelV v u/\Look X.env s.heap m x u
 cell:∀ x c,X.env.cells.lookup x=some c->∃ v,s.heap.IsCell c v
 free:H X.env.locals=none
 freeC:∀ x c,X.env.cells.lookup x=some c->H c=none
 pin:∀ p∈X.pn++pins,s.heap.get? p.1=some p.2/\H p.1=none/\p.1≠X.env.locals/\p.1∉X.fs/\∀ v,p.2.data ≠ .cell v
 hok:HOk X.prog X.w H s.heap
 len:σ.length=X.N.length
section
variable {X:Cx}{pins:List (Addr×Obj)}{σ:List (Option V)}{H H':Hp}{s:Shared}{h':Heap}
theorem Cx.Ok.nofr (ok:X.Ok){o:Obj}(e:X.base.get? b=some o):b∉X.fs:=λhb=>by
 have:=(ok.funs.mem hb).1;rw [e] at this;cases this
theorem Inv.bs (I:Inv X pins σ H s):∀ b o,X.base.get? b=some o->s.heap.get? b=some o/\H b=none:=λb o e =>
 ⟨I.base.keep b o (I.ok.bs b o e).1 (I.ok.bs b o e).2 (I.ok.nofr e) (I.ok.noex b o e),I.base.free b o (I.ok.bs b o e).1 (I.ok.bs b o e).2 (I.ok.noex b o e)⟩
theorem Inv.bk (I:Inv X pins σ H s):∀ b o,X.base.get? b=some o->s.heap.get? b=some o:=λb o e=>(I.bs b o e).1
theorem Inv.mod (I:Inv X pins σ H s):Mod X.K X.mg X.base:=I.ok.mod
theorem Inv.kIn (I:Inv X pins σ H s):X.K.In s.heap:=I.ok.mod.kin.keeps I.bk
theorem Inv.fr (I:Inv X pins σ H s):∃ m,Fr X.base X.env.locals s.heap m :=
 let ⟨m,hn,_⟩:=I.loc
 ⟨m,hn,I.bk,yp I.ok.bsz I.ok.above⟩
theorem Inv.lt (I:Inv X pins σ H s):X.env.locals<s.heap.objs.size:=let ⟨_,hn,_⟩:=I.loc;hn.lt
theorem Inv.sz (I:Inv X pins σ H s):X.s₀.heap.objs.size<=s.heap.objs.size:=yp I.ok.above (uS I.lt)
theorem Inv.nofs (I:Inv X pins σ H s)(h:s.heap.objs.size<=a):a∉X.fs:=λhb=>by
 obtain ⟨_,o,ho,_⟩:=I.ok.funs.mem hb;exact absurd (yH (yT ho) (yp I.sz h)) (uV _)
theorem Inv.cne (I:Inv X pins σ H s):∀ x c,X.env.cells.lookup x=some c->c≠X.env.locals:=λx c e z=>by
 obtain ⟨v,o,ho,hd⟩:=I.cell x c e;obtain ⟨m,⟨o',es,ep,ho',hd',_⟩,_⟩:=I.loc;rw [z,ho'] at ho;cases ho;rw [hd'] at hd;cases hd
theorem Inv.funs (I:Inv X pins σ H s):s.heap.FunFrames X.base X.outer:=by
 have all:∀(l:List Env),(∀ b∈frs l,b∈X.fs)->X.s₀.heap.FunFrames X.base l->s.heap.FunFrames X.base l:=by
  intro l
  induction l with
  |nil=>intro _ _;trivial
  |cons env r ih=>intro hs hl;obtain ⟨hk,⟨L,o,hf,hn,ho,hd⟩,hr⟩:=hl;have hL:L∈X.fs:=hs L (by unfold frs;rw [List.filterMap_cons,hf];exact yQ);obtain ⟨sl,e⟩:=I.base.slot L o ho (I.ok.frf L hL) hL λz=>I.ok.exfs L z hL;exact ⟨hk,⟨L,_,hf,hn,e,hd⟩,ih (λb hb=>hs b (by unfold frs;rw [List.filterMap_cons,hf];exact yN _ hb)) hr⟩
 exact all X.outer (λ_ hb=>hb) I.ok.funs
theorem Inv.stack (I:Inv X pins σ H s):s.heap.FunFrames X.base X.stack:=by
 rcases I.ok.stk with e|⟨e,hf⟩
 ·rw [e];exact I.funs
 ·rw [e];obtain ⟨m,hn,_⟩:=I.loc;refine .cons (by rw [I.ok.kind];decide) hf hn ?_ I.funs;exact uw (yp I.ok.bsz I.ok.above)
theorem Inv.stkSub (I:Inv X pins σ H s):∀ b∈frs X.stack,b∈X.env.locals::X.fs:=λb hb=>by
 rcases I.ok.stk with e|⟨e,hf⟩
 ·rw [e] at hb;exact yN _ hb
 ·rw [e] at hb;unfold frs at hb;rw [List.filterMap_cons,hf] at hb;exact hb
theorem Inv.stkFree (I:Inv X pins σ H s):∀ b∈frs X.stack,H b=none:=λb hb=>by
 rcases yP.mp (I.stkSub b hb) with e|hb
 ·rw [e];exact I.free
 ·obtain ⟨_,o,ho,_⟩:=I.ok.funs.mem hb;exact I.base.free b o ho (I.ok.frf b hb) λz=>I.ok.exfs b z hb
theorem Inv.step (I:Inv X pins σ H s)(hch:∀ b∈ch,(b∈X.ex∨X.s₀.heap.objs.size<=b)/\b≠X.env.locals/\(∀ x c,X.env.cells.lookup x=some c->c≠b)/\∀ p∈X.pn++pins,p.1≠b)(keep:∀ b o,b≠X.env.locals->b∉X.fs->b∉ch->s.heap.get? b=some o->H b=none->h'.get? b=some o)(slot:∀ b o,b≠X.env.locals->b∈X.fs->b∉ch->s.heap.get? b=some o->H b=none->∃ sl,h'.get? b=some { o with slots:=sl })(free:∀ b o,b∉ch->s.heap.get? b=some o->H b=none->H' b=none)(there:∀ b o,b∉ch->s.heap.get? b=some o->∃ o',h'.get? b=some o')(tups:∀ b xs,H b=some (.tup xs)->H' b=some (.tup xs))(frzs:∀ b o u,H b=some (.frz o u)->H' b=some (.frz o u))(tbls:∀ b ps q,H b=some (.tbl ps q)->H' b=some (.tbl ps q))(ns:∀ m,s.heap.Ns X.env.locals m->h'.Ns X.env.locals m)(hok:HOk X.prog X.w H' h')(hg:AllBare g'):Inv X pins σ H' { s with heap:=h',gens:=g',drawn:=d',toks:=t' }:=by
 have neL:∀ b o,X.s₀.heap.get? b=some o->b≠X.env.locals:=λb o e=>yK (yH (yT e) I.ok.above);have neC:∀ b o,X.s₀.heap.get? b=some o->b∉X.ex->b∉ch:=λb o e hx hb=>by
  rcases (hch b hb).1 with z|z
  ·exact hx z
  ·exact absurd (yH (yT e) z) (uV _)
 have cellK:∀ x c,X.env.cells.lookup x=some c->∀ v,s.heap.IsCell c v->h'.IsCell c v:=λx c e v ⟨o,ho,hd⟩=>by
  have nch:c∉ch:=λz=>(hch c z).2.2.1 x c e rfl;by_cases hc:c∈X.fs
  ·obtain ⟨sl,q⟩:=slot c o (I.cne x c e) hc nch ho (I.freeC x c e);exact ⟨_,q,hd⟩
  ·exact ⟨o,keep c o (I.cne x c e) hc nch ho (I.freeC x c e),hd⟩
 refine ⟨I.ok,I.os,hg,⟨λb o e n hb hx=>?_,λb o e n hb hx=>?_,λb o e n hx=>?_,λb o e hx=>?_,λb xs e=>tups b xs (I.base.tups b xs e),λb o xs e=>frzs b o xs (I.base.frzs b o xs e),λb ps q e=>tbls b ps q (I.base.tbls b ps q e)⟩,?_,λx c e=>?_,?_,λx c e=>?_,λp hp=>?_,hok,I.len⟩
 ·exact keep b o (neL b o e) hb (neC b o e hx) (I.base.keep b o e n hb hx) (I.base.free b o e n hx)
 ·obtain ⟨sl,e1⟩:=I.base.slot b o e n hb hx;obtain ⟨sl',e2⟩:=slot b _ (neL b o e) hb (neC b o e hx) e1 (I.base.free b o e n hx);exact ⟨sl',e2⟩
 ·obtain ⟨o',e1⟩:=I.base.there b o e hx;exact free b o' (neC b o e hx) e1 (I.base.free b o e n hx)
 ·obtain ⟨o',e1⟩:=I.base.there b o e hx;exact there b o' (neC b o e hx) e1
 ·obtain ⟨m,hn,hl⟩:=I.loc;refine ⟨m,ns m hn,λi x v e1 e2 e3=>?_⟩;obtain ⟨u,r,l⟩:=hl i x v e1 e2 e3;refine ⟨u,r,?_⟩;rcases l with l|⟨k,c,e,z⟩
  ·exact .inl l
  ·exact .inr ⟨k,c,e,cellK x c e _ z⟩
 ·obtain ⟨v,z⟩:=I.cell x c e;exact ⟨v,cellK x c e v z⟩
 ·obtain ⟨m,⟨o,_,_,ho,_⟩,_⟩:=I.loc;exact free _ o (λz=>(hch _ z).2.1 rfl) ho I.free
 ·obtain ⟨v,o,ho,hd⟩:=I.cell x c e;exact free c o (λz=>(hch c z).2.2.1 x c e rfl) ho (I.freeC x c e)
 ·obtain ⟨e,n,ne,nf,d⟩:=I.pin p hp;have nch:p.1∉ch:=λz=>(hch p.1 z).2.2.2 p hp rfl;exact ⟨keep p.1 p.2 ne nf nch e n,free p.1 p.2 nch e n,ne,nf,d⟩
theorem Inv.un (I:Inv X pins σ H s)(u:Un X.fs [] H H' s.heap h')(hok:HOk X.prog X.w H' h'):Inv X pins σ H' { s with heap:=h',toks:=t' }:=by
 obtain ⟨m,⟨o,es,ep,ho,r⟩,_⟩:=id I.loc;obtain ⟨sl,hL⟩:=u.any ho I.free (by simp);exact I.step (g':=s.gens) (d':=s.drawn) (ch:=[]) (λ_ z=>nomatch z) (λb o _ hb _ e n=>u.keep b o e n hb (by simp)) (λb o _ hb _ e n=>u.slot b o e n hb (by simp)) (λb o _ e n=>u.free b o e n (by simp)) (λb o _ e=>u.there b o e (by simp)) u.tups u.frzs u.tbls (λm' hm=>by
  obtain ⟨o',es',ep',ho',r'⟩:=hm;rw [ho] at ho';cases ho';exact ⟨_,es',ep',hL,r'⟩) hok I.bare
theorem Inv.call (I:Inv X pins σ H s)(u:Un (frs X.stack) ch H H' s.heap h')(hok:HOk X.prog X.w H' h')(hg:AllBare g')(hch:∀ b∈ch,(b∈X.ex∨X.s₀.heap.objs.size<=b)/\b≠X.env.locals/\(∀ x c,X.env.cells.lookup x=some c->c≠b)/\∀ p∈X.pn++pins,p.1≠b):Inv X pins σ H' { s with heap:=h',gens:=g',drawn:=d',toks:=t' }:=by
 obtain ⟨m,⟨o,es,ep,ho,r⟩,_⟩:=id I.loc;obtain ⟨sl,hL⟩:=u.any ho I.free λz=>(hch _ z).2.1 rfl;exact I.step (ch:=ch) hch (λb o hL hb hc e n=>u.keep b o e n (λz=>(yP.mp (I.stkSub b z)).elim hL hb) hc) (λb o _ _ hc e n=>u.any e n hc) (λb o hc e n=>u.free b o e n hc) (λb o hc e=>u.there b o e hc) u.tups u.frzs u.tbls (λm' hm=>by
  obtain ⟨o',es',ep',ho',r'⟩:=hm;rw [ho] at ho';cases ho';exact ⟨_,es',ep',hL,r'⟩) hok hg
theorem Inv.turned (I:Inv X pins σ H s)(k:∀ b o,b≠it->s.heap.get? b=some o->h'.get? b=some o)(hn:H it=none)(hL:it≠X.env.locals)(h1:it∈X.ex∨X.s₀.heap.objs.size<=it)(h2:∀ x c,X.env.cells.lookup x=some c->c≠it)(h3:∀ p∈X.pn++pins,p.1≠it):Inv X pins σ H { s with heap:=h',toks:=t' }:=by
 have nit:∀ b u,H b=some u->b≠it:=λb u e z=>by rw [z,hn] at e;cases e
 refine I.step (g':=s.gens) (d':=s.drawn) (ch:=[it]) (λb hb=>?_) (λb o _ _ hc e _=>k b o (λz=>hc (by simp [z])) e) (λb o _ _ hc e _=>⟨o.slots,k b o (λz=>hc (by simp [z])) e⟩) (λ_ _ _ _ n=>n)
  (λb o hc e=>⟨o,k b o (λz=>hc (by simp [z])) e⟩) (λ_ _ e=>e) (λ_ _ _ e=>e) (λ_ _ _ e=>e) (λm hm=>?_) (λb u e=>?_) I.bare
 ·have e:b=it:=by simpa using hb
  subst e;exact ⟨h1,hL,h2,h3⟩
 ·obtain ⟨o,es,ep,ho,r⟩:=hm;exact ⟨o,es,ep,k _ o (Ne.symm hL) ho,r⟩
 ·refine (I.hok b u e).stay (λc v hc q=>k c v ?_ q) (λ_ q=>q) (λ_ _ q=>q) λ_ _ _ q=>q;rcases hc with z|z
  ·rw [z];exact nit b u e
  ·exact nit c _ z
theorem Inv.tok (I:Inv X pins σ H s)(t:Nat):Inv X pins σ H { s with toks:=t }:=I.un (h':=s.heap) (t':=t) Un.refl I.hok
theorem Inv.kept (I:Inv X pins σ H s)(k:∀ b u,s.heap.get? b=some u->h'.get? b=some u):Inv X pins σ H { s with heap:=h',toks:=t' }:=I.un (Un.kept k) (I.hok.kept k)
theorem Inv.laid (I:Inv X pins σ H s)(k:∀ b u,s.heap.get? b=some u->h'.get? b=some u)(hp:s.heap.objs.size<=a)(new:ObjOk X.prog X.w (z5 H a o) h' a o):Inv X pins σ (z5 H a o) { s with heap:=h',toks:=t' }:=I.un (Un.laid k hp (I.hok.fresh hp)) (I.hok.laid k hp new)
theorem Inv.write {x e:Addr}(I:Inv X pins σ H s)(mu:Mut (H x))(he:e=x∨H e=some (.own x))(k:∀ b u,b≠e->s.heap.get? b=some u->h'.get? b=some u)(heo:∃ u,h'.get? e=some u)(new:ObjOk X.prog X.w (z5 H x o) h' x o):Inv X pins σ (z5 H x o) { s with heap:=h',toks:=t' }:=I.un (Un.write mu he k heo) (I.hok.write mu he k heo new)
theorem Inv.weak {σ':List (Option V)}(I:Inv X pins σ H s)(hl:σ'.length=σ.length)(w:∀(i:Nat) v,σ'[i]?=some (some v)->σ[i]?=some (some v)):Inv X pins σ' H s :=
 ⟨I.ok,I.os,I.bare,I.base,let ⟨m,hn,hl'⟩:=I.loc;⟨m,hn,λi x v e1 e2 e3=>hl' i x v e1 (w i v e2) e3⟩,I.cell,I.free,I.freeC,I.pin,I.hok,hl.trans I.len⟩
theorem Inv.pins_of {pins':List (Addr×Obj)}(I:Inv X pins σ H s)(h:∀ p∈pins',s.heap.get? p.1=some p.2/\H p.1=none/\p.1≠X.env.locals/\p.1∉X.fs/\∀ v,p.2.data ≠ .cell v):Inv X pins' σ H s :=
 ⟨I.ok,I.os,I.bare,I.base,I.loc,I.cell,I.free,I.freeC,λp hp=>(yu.mp hp).elim (λz=>I.pin p (uD _ z)) (h p),I.hok,I.len⟩
theorem UN (hN:N.Nodup){i:Nat}(a:N[i]?=some x)(b:N[j]?=some x):i=j:=by obtain ⟨h1,e1⟩:=yz.mp a;obtain ⟨h2,e2⟩:=yz.mp b;exact (List.getElem_inj hN).mp (e1.trans e2.symm)
theorem Kd {M:Model}{i:Nat}{Q:Unit->Shared->Prop}(I:Inv X pins σ H s)(hN:X.N.Nodup)(hi:X.N[i]?=some x)(hx:Loc X.env.scope x)(r:RelV v u)(h:∀ s',Inv X pins (σ.set i (some v)) H s'->(∃ a,Heap.SameBut a s.heap s'.heap/\(a=X.env.locals∨X.env.cells.lookup x=some a))->Q () s')(hf:X.fn x=true∨X.env.scope.names.lookup x=some .local:=by first|exact .inl rfl|exact .inr rfl|assumption):wpAny M A (storeName X.env x u) Q E s:=by
 obtain ⟨m,hn,hl⟩:=id I.loc;have hcls:(X.env.scope.kind == .class || (X.env.scope.kind == .module&&X.env.locals != X.env.globals))=false:=by rw [I.ok.kind];rfl
 have hiσ:i<σ.length:=by rw [I.len];exact (yz.mp hi).1
 have cne:=I.cne;have tracked:∀{a:Addr}{h':Heap},(∃ o,s.heap.get? a=some o/\H a=none)->Heap.SameBut a s.heap h'->HOk X.prog X.w H h':=λ{a h'} ha hs b ob e=>by
  obtain ⟨_,_,hfree⟩:=ha;refine (I.hok b ob e).stay (λc w' hc q=>(hs.2 c ?_).trans q) (λ_ q=>q) (λ_ _ q=>q) λ_ _ _ q=>q;rintro rfl;rcases hc with rfl|hc
  ·rw [hfree] at e;cases e
  ·rw [hfree] at hc;cases hc
 rcases hx with hk|hk
 ·refine wpAny_storeName_local hk hn (λh' hn' hs=>?_) hcls;obtain ⟨oL,_,_,hoL,_⟩:=id hn;refine h _ ⟨I.ok,I.os,I.bare,⟨λb o e n hb hx=>?_,λb o e n hb hx=>?_,I.base.free,λb o e hx=>?_,I.base.tups,I.base.frzs,I.base.tbls⟩,⟨_,hn',λj y v' e1 e2 e3=>?_⟩,λy c e=>?_,I.free,I.freeC,λp hp=>?_,tracked ⟨oL,hoL,I.free⟩ hs,by simpa using I.len⟩ ⟨_,hs,.inl rfl⟩
  ·exact (hs.2 b (yK (yH (yT e) I.ok.above))).trans (I.base.keep b o e n hb hx)
  ·obtain ⟨sl,e1⟩:=I.base.slot b o e n hb hx;exact ⟨sl,(hs.2 b (yK (yH (yT e) I.ok.above))).trans e1⟩
  ·obtain ⟨o',e1⟩:=I.base.there b o e hx;exact ⟨o',(hs.2 b (yK (yH (yT e) I.ok.above))).trans e1⟩
  ·by_cases hj:j=i
   ·subst hj;rw [hi] at e1;cases e1;rw [ug hiσ] at e2;cases e2;exact ⟨u,r,.inl ⟨hk,by simp⟩⟩
   ·rw [yn (Ne.symm hj)] at e2;obtain ⟨u',r',q⟩:=hl j y v' e1 e2 e3;refine ⟨u',r',?_⟩;rcases q with ⟨k,e⟩|⟨k,c,e,z⟩
    ·refine .inl ⟨k,?_⟩;have:y≠x:=λe=>hj (UN hN e1 (e▸hi));simp [this,e]
    ·exact .inr ⟨k,c,e,z.sameBut hs (cne y c e)⟩
  ·obtain ⟨w',z⟩:=I.cell y c e;exact ⟨w',z.sameBut hs (cne y c e)⟩
  ·obtain ⟨e,n,ne,nf,d⟩:=I.pin p hp;exact ⟨(hs.2 p.1 ne).trans e,n,ne,nf,d⟩
 ·have hfn:X.fn x=true:=by
   rcases hf with z|z
   ·exact z
   ·rw [z] at hk;cases hk
  obtain ⟨c,hc⟩:=I.ok.has x (.inl hk);obtain ⟨w',z⟩:=I.cell x c hc;refine wpAny_storeName_cell I.ok.kind hk hc z (λh' hc' hs=>?_);obtain ⟨oc,hoc,hocd⟩:=id z;refine h { s with heap:=h' } ⟨I.ok,I.os,I.bare,⟨λb o e n hb hx=>?_,λb o e n hb hx=>?_,I.base.free,λb o e hx=>?_,I.base.tups,I.base.frzs,I.base.tbls⟩,⟨m,hn.sameBut hs (Ne.symm (cne x c hc)),λj y v' e1 e2 e3=>?_⟩,λy c' e=>?_,I.free,I.freeC,λp hp=>?_,tracked ⟨oc,hoc,I.freeC x c hc⟩ hs,by simpa using I.len⟩ ⟨c,hs,.inr hc⟩
  ·exact (hs.2 b (yK (yH (yT e) (I.ok.cab x c hfn hc)))).trans (I.base.keep b o e n hb hx)
  ·obtain ⟨sl,e1⟩:=I.base.slot b o e n hb hx;exact ⟨sl,(hs.2 b (yK (yH (yT e) (I.ok.cab x c hfn hc)))).trans e1⟩
  ·obtain ⟨o',e1⟩:=I.base.there b o e hx;exact ⟨o',(hs.2 b (yK (yH (yT e) (I.ok.cab x c hfn hc)))).trans e1⟩
  ·by_cases hj:j=i
   ·subst hj;rw [hi] at e1;cases e1;rw [ug hiσ] at e2;cases e2;exact ⟨u,r,.inr ⟨.inl hk,c,hc,hc'⟩⟩
   ·rw [yn (Ne.symm hj)] at e2;obtain ⟨u',r',q⟩:=hl j y v' e1 e2 e3;refine ⟨u',r',?_⟩;rcases q with q|⟨k,c',e,z'⟩
    ·exact .inl q
    ·refine .inr ⟨k,c',e,z'.sameBut hs ?_⟩;rintro rfl;exact hj (UN hN e1 (I.ok.inj _ _ _ e hc▸hi))
  ·by_cases hcc:c'=c
   ·subst hcc;exact ⟨_,hc'⟩
   ·obtain ⟨w2,z2⟩:=I.cell y c' e;exact ⟨w2,z2.sameBut hs hcc⟩
  ·obtain ⟨e,n,ne,nf,d⟩:=I.pin p hp;refine ⟨(hs.2 p.1 ?_).trans e,n,ne,nf,d⟩;intro q;rw [q,hoc] at e;have q':oc=p.2:=Option.some.inj e;exact d w' (by rw [<- q'];exact hocd)
theorem Kc {M:Model}{i:Nat}{Q:Unit->Shared->Prop}(I:Inv X pins σ H s)(hN:X.N.Nodup)(hi:X.N[i]?=some x)(hx:Loc X.env.scope x)(r:RelV v u)(h:∀ s',Inv X pins (σ.set i (some v)) H s'->Q () s')(hf:X.fn x=true∨X.env.scope.names.lookup x=some .local:=by first|exact .inl rfl|exact .inr rfl|assumption):wpAny M A (storeName X.env x u) Q E s :=
 Kd I hN hi hx r (λs' I' _=>h s' I') hf
theorem Inv.call' (I:Inv X pins σ H s)(ho:s'.os=s.os)(u:Un (frs X.stack) ch H H' s.heap s'.heap)(hok:HOk X.prog X.w H' s'.heap)(hg:AllBare s'.gens)(hch:∀ b∈ch,(b∈X.ex∨X.s₀.heap.objs.size<=b)/\b≠X.env.locals/\(∀ x c,X.env.cells.lookup x=some c->c≠b)/\∀ p∈X.pn++pins,p.1≠b):Inv X pins σ H' s':=by obtain ⟨h',g',d',t',o'⟩:=s';have e:o'=s.os:=ho;subst e;exact I.call (g':=g') (t':=t') (d':=d') u hok hg hch
end
abbrev XK:=Value->Option Addr->Hp->Prop
abbrev St:=List (Option V)
variable{σ:St}
abbrev VK:=V->Hp->Prop
abbrev TE:=St->Hp->VK->Prop
variable{t te:TE}
abbrev TT:=St->Hp->(Bool->Hp->Prop)->Prop
abbrev TA:=St->Hp->(List V->Hp->Prop)->Prop
structure xb where
 nx:St->Hp->Prop
 rt:VK
 bk:St->Hp->Prop:=λ_ _=>False
 ct:St->Hp->Prop:=λ_ _=>False
variable{D:xb}
abbrev TS:=xb->St->Hp->Prop
variable{tb:TS}
def EP (X:Cx)(pins:List (Addr×Obj))(σ:St)(Q:VK)(u:Value)(s':Shared):Prop:=∃ v H',Inv X pins σ H' s'/\RelV v u/\Q v H'
def TP (X:Cx)(pins:List (Addr×Obj))(σ:St)(Q:Bool->Hp->Prop)(b:Bool)(s':Shared):Prop:=∃ H',Inv X pins σ H' s'/\Q b H'
def AP (X:Cx)(pins:List (Addr×Obj))(σ:St)(Q:List V->Hp->Prop)(us:List Value)(s':Shared):Prop:=∃ vs H',Inv X pins σ H' s'/\Vals vs us/\Q vs H'
def SP (X:Cx)(pins:List (Addr×Obj))(D:xb)(f:Flow)(s':Shared):Prop :=
 match f with
 | .next=>∃ σ' H',Inv X pins σ' H' s'/\D.nx σ' H'
 | .brk=>∃ σ' H',Inv X pins σ' H' s'/\D.bk σ' H'
 | .cont=>∃ σ' H',Inv X pins σ' H' s'/\D.ct σ' H'
 | .ret u=>∃ v σ' H',Inv X pins σ' H' s'/\RelV v u/\D.rt v H'
def PE (X:Cx)(e:Expr)(t:TE):Prop :=
 ∀(pins:List (Addr×Obj))(s:Shared)(σ:St)(H:Hp)(Q:VK),Inv X pins σ H s->t σ H Q->wpAny (model X.prog X.w) X.A (eval e X.env) (EP X pins σ Q) X.xe s
def PT (X:Cx)(e:Expr)(t:TT):Prop :=
 ∀(pins:List (Addr×Obj))(s:Shared)(σ:St)(H:Hp)(Q:Bool->Hp->Prop),Inv X pins σ H s->t σ H Q->wpAny (model X.prog X.w) X.A (isTrue e X.env (eval e X.env)) (TP X pins σ Q) X.xe s
def PW (X:Cx)(e:Expr)(t:TT):Prop :=
 ∀(whole:Sem Value)(pins:List (Addr×Obj))(s:Shared)(σ:St)(H:Hp)(Q:Bool->Hp->Prop),Inv X pins σ H s->t σ H Q->wpAny (model X.prog X.w) X.A (isTrue e X.env whole) (TP X pins σ Q) X.xe s
theorem PW.pt {t:TT}(h:PW X e t):PT X e t:=h _
def PA (X:Cx)(es:List Expr)(t:TA):Prop :=
 ∀(pos:Pos)(pins:List (Addr×Obj))(s:Shared)(σ:St)(H:Hp)(Q:List V->Hp->Prop),Inv X pins σ H s->t σ H Q->wpAny (model X.prog X.w) X.A (spliced (backTo pos (starEach es X.env))) (AP X pins σ Q) X.xe s
def PS (X:Cx)(st:Stmt)(t:TS):Prop :=
 ∀(pins:List (Addr×Obj))(s:Shared)(σ:St)(H:Hp)(D:xb),Inv X pins σ H s->t D σ H->wpAny (model X.prog X.w) X.A (exec st X.env) (SP X pins D) X.xe s
def PSs (X:Cx)(st:List Stmt)(t:TS):Prop :=
 ∀(pins:List (Addr×Obj))(s:Shared)(σ:St)(H:Hp)(D:xb),Inv X pins σ H s->t D σ H->wpAny (model X.prog X.w) X.A (execs st X.env) (SP X pins D) X.xe s
theorem z8 {t:Sem α}{Q Q':α->Shared->Prop}{M:Model}(h:wpAny M A t Q E s)(hQ:∀ a s,Q a s->Q' a s):wpAny M A t Q' E s:=wpAny_mono h hQ λ_ _ x=>x
section
variable {X:Cx}
theorem bin {a b:Expr}{ta tb:TE}(ha:PE X a ta)(hb:PE X b tb)(I:Inv X pins σ H s)(h:ta σ H λx H1=>tb σ H1 λy H2=>R x y H2){Q:α->Shared->Prop}{f:Value->Value->Sem α}(hf:∀ v u s2 x y H2,Inv X pins σ H2 s2->RelV x v->RelV y u->R x y H2->wpAny (model X.prog X.w) X.A (f v u) Q X.xe s2):wpAny (model X.prog X.w) X.A (eval a X.env) (λv s₁=>wpAny (model X.prog X.w) X.A (eval b X.env) (λu s₂=>wpAny (model X.prog X.w) X.A (f v u) Q X.xe s₂) X.xe s₁) X.xe s:=by refine z8 (ha pins s σ H _ I h) λv s1 ⟨x,H1,I1,r1,q1⟩=>?_;refine z8 (hb pins s1 σ H1 _ I1 q1) λu s2 ⟨y,H2,I2,r2,q2⟩=>?_;exact hf v u s2 x y H2 I2 r1 r2 q2
def c6 (i:Nat):TE:=λσ H Q=>∃ v,σ[i]?=some (some v)/\Q v H
def tC (v:V):TE:=λ_ H Q=>Q v H
theorem MX {i:Nat}(hN:X.N[i]?=some x)(hv:Vis X.env.scope x)(hd:(x==("__debug__":Str))=false:=by decide)(hcd:(x==("__classdict__":Str))=false:=by decide):PE X (.Name x pos) (c6 i):=by
 intro pins s σ H Q I h;obtain ⟨v,e,h⟩:=h;obtain ⟨m,hn,hl⟩:=I.loc;obtain ⟨u,r,l⟩:=hl i x v hN e hv;have fin:EP X pins σ Q u s:=⟨v,H,I,r,h⟩;rcases l with ⟨hk,hm⟩|⟨hk,c,hc,hcell⟩
 ·exact wpAny_Name (wpAny_loadName_local I.ok.kind hk hn hm fin) hd
 ·rcases hk with hk|hk
  ·exact wpAny_Name (wpAny_loadName_cell I.ok.kind hk hc hcell fin) hd
  ·exact wpAny_Name (wpAny_loadName_free I.ok.kind hk hc hcell fin hcd) hd
theorem z7 {i j pos}:PE X (.Constant (.int i) j pos) (tC (.int i)):=λ_ _ _ H _ I h=>wpAny_Constant_int ⟨.int i,H,I.tok _,⟨_,rfl⟩,h⟩
theorem xD {b j pos}:PE X (.Constant (.bool b) j pos) (tC (.bl b)):=λ_ _ _ H _ I h=>Constant_bool ⟨.bl b,H,I,rfl,h⟩
theorem wZ {j pos}:PE X (.Constant .none j pos) (tC .non):=λ_ _ _ H _ I h=>Constant_none ⟨.non,H,I,rfl,h⟩
theorem xi {x j pos}:PE X (.Constant (.str x) j pos) (tC (.str x)):=λ_ _ _ H _ I h=>Calls.Constant_str ⟨.str x,H,I.tok _,⟨_,rfl⟩,h⟩
def Gl (X:Cx)(x:Str):Prop:=X.env.kindOf x=some .globalImplicit
theorem ZI (I:Inv X pins σ H s)(hg:Gl X x)(hm:X.mg x=some u)(h:Q u s)(hd:(x==("__debug__":Str))=false:=by decide):wpAny (model X.prog X.w) X.A (eval (.Name x pos) X.env) Q E s :=
 Calls.Name_function_global I.ok.kind hg (Calls.loadGlobal_global (by rw [I.ok.glob];exact I.mod.glob.keeps I.bk) hm h) hd
theorem zM (I:Inv X pins σ H s)(hg:Gl X x)(hm:X.mg x=none)(hv:bootBuiltins x=some u)(h:Q u s)(hn:x ≠ "__name__":=by decide)(hd:(x==("__debug__":Str))=false:=by decide):wpAny (model X.prog X.w) X.A (eval (.Name x pos) X.env) Q E s:=by obtain ⟨mb,h1,h2⟩:=I.mod.blt;exact Calls.Name_function_global I.ok.kind hg (Calls.loadGlobal_builtin (by rw [I.ok.glob];exact I.mod.glob.keeps I.bk) hm (by rw [I.ok.blt];exact h1.keeps I.bk) ((h2 x hn).trans hv) h) hd
theorem Xt (hg:Gl X x)(hm:X.mg x=some u)(r:RelV v u)(hd:(x==("__debug__":Str))=false:=by decide):PE X (.Name x pos) (tC v) :=
 λ_ _ _ H _ I h=>ZI I hg hm ⟨v,H,I,r,h⟩ hd
theorem xV (hg:Gl X x)(hm:X.mg x=none)(hv:bootBuiltins x=some u)(r:RelV v u)(hn:x ≠ "__name__":=by decide)(hd:(x==("__debug__":Str))=false:=by decide):PE X (.Name x pos) (tC v) :=
 λ_ _ _ H _ I h=>zM I hg hm hv ⟨v,H,I,r,h⟩ hn hd
variable {a b:Expr}{ta tb:TE}{pos:Pos}
def PC (X:Cx)(op:CmpOp)(a b:Expr)(t:TE):Prop :=
 ∀(pins:List (Addr×Obj))(s:Shared)(σ:St)(H:Hp)(Q:VK),Inv X pins σ H s->t σ H Q ->
  wpAny (model X.prog X.w) X.A (eval a X.env) (λv s₁=>wpAny (model X.prog X.w) X.A (eval b X.env) (λu s₂=>wpAny (model X.prog X.w) X.A (compareOp op v u) (EP X pins σ Q) X.xe s₂) X.xe s₁) X.xe s
def tB (t:TE):TT:=λσ H Q=>t σ H λx H1=>∃ c,x = .bl c/\Q c H1
theorem Gq (h:PC X op a b t)(h1:behindInMarks op b=false:=by first|exact nobehind _ (by decide) (by decide)|rfl):PT X (.Compare a [op] [b] pos) (tB t):=by intro pins s σ H Q I hw;refine wpAny_isTrue_Compare1 (z8 (h pins s σ H _ I hw) λv s1 h1=>z8 h1 λu s2 h2=>z8 h2 λc s3 ⟨x,H1,I1,r1,q1⟩=>?_) h1;obtain ⟨d,rfl,q⟩:=q1;cases r1;exact wpAny_truthy_bool ⟨H1,I1,q⟩
variable {tA tB':TT}{rest:List Expr}
def tAnd (t u:TT):TT:=λσ H Q=>t σ H λc H1=>if c=true then u σ H1 Q else Q false H1
def tOr (t u:TT):TT:=λσ H Q=>t σ H λc H1=>if c=true then Q true H1 else u σ H1 Q
def tNot (t:TT):TT:=λσ H Q=>t σ H λc H1=>Q (!c) H1
theorem XF (ha:PT X a tA):PW X (.BoolOp .And [a] pos) tA:=by
 intro wh pins s σ H Q I h;refine isTrue_and (z8 (ha pins s σ H Q I h) λc s1 e=>?_);cases c with
 |true=>exact isTrue_and_nil e
 |false=>exact e
theorem vc (ha:PT X a tA):PW X (.BoolOp .Or [a] pos) tA:=by
 intro wh pins s σ H Q I h;refine isTrue_or (z8 (ha pins s σ H Q I h) λc s1 e=>?_);cases c with
 |false=>exact isTrue_or_nil e
 |true=>exact e
theorem XE (ha:PT X a tA)(hb:PW X (.BoolOp .And (b::rest) pos) tB'):PW X (.BoolOp .And (a::b::rest) pos) (tAnd tA tB'):=by
 intro wh pins s σ H Q I h;refine isTrue_and (z8 (ha pins s σ H _ I h) λc s1 ⟨H1,I1,q1⟩=>?_);cases c with
 |true=>exact hb wh pins s1 σ H1 Q I1 q1
 |false=>exact ⟨H1,I1,q1⟩
theorem jm (ha:PT X a tA)(hb:PW X (.BoolOp .Or (b::rest) pos) tB'):PW X (.BoolOp .Or (a::b::rest) pos) (tOr tA tB'):=by
 intro wh pins s σ H Q I h;refine isTrue_or (z8 (ha pins s σ H _ I h) λc s1 ⟨H1,I1,q1⟩=>?_);cases c with
 |true=>exact ⟨H1,I1,q1⟩
 |false=>exact hb wh pins s1 σ H1 Q I1 q1
theorem qH (ha:PT X a tA):PT X (.UnaryOp .Not a pos) (tNot tA):=by intro pins s σ H Q I h;exact isTrue_not (ha pins s σ H (λc H1=>Q (!c) H1) I h)
def Kf (ta tb:TE):TE:=λσ H Q=>ta σ H λx H1=>∃ c,x = .bl c/\if c=true then tb σ H1 Q else Q (.bl false) H1
def Kl (ta:TE):TE:=λσ H Q=>ta σ H λx H1=>∃ c,x = .bl c/\Q (.bl (!c)) H1
theorem zP {op}(h:PE X a t):PE X (.BoolOp op [a] pos) t:=λpins s σ H Q I hw=>BoolOp_one (h pins s σ H Q I hw)
theorem zx (ha:PE X a ta)(hb:PE X (.BoolOp .And (b::rest) pos) tb):PE X (.BoolOp .And (a::b::rest) pos) (Kf ta tb):=by
 intro pins s σ H Q I h;refine BoolOp_and (z8 (ha pins s σ H _ I h) λv s1 ⟨x,H1,I1,r1,q1⟩=>?_);obtain ⟨c,rfl,q1⟩:=q1;cases r1;refine wpAny_truthy_bool ?_;cases c with
 |true=>exact hb pins s1 σ H1 Q I1 q1
 |false=>exact ⟨.bl false,H1,I1,rfl,q1⟩
theorem MU (ha:PE X a ta):PE X (.UnaryOp .Not a pos) (Kl ta):=by intro pins s σ H Q I h;refine UnaryOp_ (z8 (ha pins s σ H _ I h) λv s1 ⟨x,H1,I1,r1,q1⟩=>?_);obtain ⟨c,rfl,q1⟩:=q1;cases r1;exact not_of (wpAny_truthy_bool ⟨.bl (!c),H1,I1,rfl,q1⟩)
def tIf (t:TT)(ta tb:TE):TE:=λσ H Q=>t σ H λc H1=>if c=true then ta σ H1 Q else tb σ H1 Q
theorem Ga (hc:PT X c tA)(ha:PE X a ta)(hb:PE X b tb):PE X (.IfExp c a b pos) (tIf tA ta tb):=by
 intro pins s σ H Q I h;refine wpAny_IfExp (z8 (hc pins s σ H _ I h) λd s1 ⟨H1,I1,q1⟩=>?_);cases d with
 |true=>exact ha pins s1 σ H1 Q I1 q1
 |false=>exact hb pins s1 σ H1 Q I1 q1
end
def SqL (K:Fg)(H:Hp)(a:Addr)(xs:List V):Prop :=
 Rd H a (.lst xs) ∨
  ∃ (o:Obj) (its:Array Value) (n:Nat),K.lookup a=some o/\o.cls = .type "list"/\o.dict=none/\o.data = .seq its n/\its.size<=sizeLine/\Vals xs its.toList
def SqT (K:Fg)(H:Hp)(a:Addr)(xs:List V):Prop :=
 Rd H a (.tup xs) ∨
  ∃ (o:Obj) (its:Array Value) (n:Nat),K.lookup a=some o/\o.cls = .type "tuple"/\o.data = .seq its n/\its.size<=sizeLine/\Vals xs its.toList
def absV:Value->Option V
 | .none=>some .non
 | .bool b=>some (.bl b)
 | .int i _=>some (.int i)
 | .str x _=>some (.str x)
 | .bytes b _=>some (.byt b)
 | .float b _=>some (.flt b)
 | .ref a=>some (.ref a)
 | .type n=>some (.ty n)
 |_=>none
theorem RelV.abs {x:V}(r:RelV x u):absV u=some x:=by
 cases x with
 |non=>cases r;rfl
 |bl _=>cases r;rfl
 |int _=>obtain ⟨t,rfl⟩:=r;rfl
 |str _=>obtain ⟨t,rfl⟩:=r;rfl
 |byt _=>obtain ⟨t,rfl⟩:=r;rfl
 |flt _=>obtain ⟨t,rfl⟩:=r;rfl
 |ref _=>cases r;rfl
 |ty _=>cases r;rfl
theorem RelV.inj {x:V}(r:RelV x u)(q:RelV y u):x=y:=Option.some.inj (r.abs.symm.trans q.abs)
theorem Vals.inj:∀{xs ys:List V}{us:List Value},Vals xs us->Vals ys us->xs=ys
 |_,_,_,.nil,.nil=>rfl
 |_,_,_,.cons r t,.cons r' t'=>by rw [r.inj r',Vals.inj t t']
section
variable {X:Cx}{pins:List (Addr×Obj)}{σ:St}{H:Hp}{s:Shared}{a:Addr}{xs ys:List V}
theorem SqL.of (h:H a=some (.lst xs)):SqL K H a xs:= .inl (.inl h)
theorem SqT.of (h:H a=some (.tup xs)):SqT K H a xs:= .inl (.inl h)
theorem Inv.list (I:Inv X pins σ H s)(h:SqL X.K H a xs):∃ its:List Value,Vals xs its/\PlainL s.heap a its.toArray/\xs.length<=sizeLine:=by
 rcases h with h|⟨o,its,n,hk,hc,hd,hs,hz,r⟩
 ·obtain ⟨z,its,n,r,e⟩:=h.ok I.hok;exact ⟨its,r,⟨_,n,e,rfl,rfl,rfl⟩,z⟩
 ·refine ⟨its.toList,r,⟨o,n,I.kIn a o hk,hc,hd,by simpa using hs⟩,?_⟩;have e:=r.length;simp only [uo] at e;omega
theorem Inv.tuple (I:Inv X pins σ H s)(h:SqT X.K H a xs):∃ its:List Value,Vals xs its/\IsTup s.heap a its.toArray/\xs.length<=sizeLine:=by
 rcases h with h|⟨o,its,n,hk,hc,hs,hz,r⟩
 ·obtain ⟨z,its,r,p⟩:=h.ok I.hok;exact ⟨its,r,p,z⟩
 ·refine ⟨its.toList,r,⟨o,I.kIn a o hk,hc,n,by simpa using hs⟩,?_⟩;have e:=r.length;simp only [uo] at e;omega
theorem Inv.list_inj (I:Inv X pins σ H s)(h:SqL X.K H a xs)(h':SqL X.K H a ys):xs=ys:=by
 obtain ⟨its,r,⟨o,n,e,_,_,d⟩,_⟩:=I.list h;obtain ⟨its',r',⟨o',n',e',_,_,d'⟩,_⟩:=I.list h';rw [e] at e';cases e';rw [d] at d';injection d' with d1 _;have:its=its':=by simpa using congrArg Array.toList d1
 subst this;exact r.inj r'
theorem Inv.tuple_inj (I:Inv X pins σ H s)(h:SqT X.K H a xs)(h':SqT X.K H a ys):xs=ys:=by
 obtain ⟨its,r,⟨o,e,_,n,d⟩,_⟩:=I.tuple h;obtain ⟨its',r',⟨o',e',_,n',d'⟩,_⟩:=I.tuple h';rw [e] at e';cases e';rw [d] at d';injection d' with d1 _;have:its=its':=by simpa using congrArg Array.toList d1
 subst this;exact r.inj r'
end
abbrev Cx.wish (X:Cx)(E:Value->Shared->Prop):Cx:={ X with xe:=E }
abbrev Cx.nox (X:Cx):Cx:=X.wish λ_ _=>False
theorem Cx.Ok.wish (ok:X.Ok)(E:Value->Shared->Prop):(X.wish E).Ok :=
 ⟨ok.mod,ok.kind,ok.glob,ok.blt,ok.above,ok.inj,ok.has,ok.cab,ok.hd,ok.frames,ok.stk,ok.exf,ok.bs,ok.bsz,ok.noex,ok.exfs,ok.funs,ok.frf,ok.tbs⟩
theorem Cx.Ok.unwish (ok:(X.wish E).Ok):X.Ok :=
 ⟨ok.mod,ok.kind,ok.glob,ok.blt,ok.above,ok.inj,ok.has,ok.cab,ok.hd,ok.frames,ok.stk,ok.exf,ok.bs,ok.bsz,ok.noex,ok.exfs,ok.funs,ok.frf,ok.tbs⟩
section
variable {X:Cx}{pins:List (Addr×Obj)}{σ:St}{H:Hp}{s:Shared}{E:Value->Shared->Prop}
theorem Inv.wish (I:Inv X pins σ H s)(E:Value->Shared->Prop):Inv (X.wish E) pins σ H s:=⟨I.ok.wish E,I.os,I.bare,I.base,I.loc,I.cell,I.free,I.freeC,I.pin,I.hok,I.len⟩
theorem Inv.unwish (I:Inv (X.wish E) pins σ H s):Inv X pins σ H s:=⟨I.ok.unwish,I.os,I.bare,I.base,I.loc,I.cell,I.free,I.freeC,I.pin,I.hok,I.len⟩
theorem SP.unwish {f:Flow}(h:SP (X.wish E) pins D f s'):SP X pins D f s':=by
 cases f with
 |next=>obtain ⟨σ',H',I,q⟩:=h;exact ⟨σ',H',I.unwish,q⟩
 |brk=>obtain ⟨σ',H',I,q⟩:=h;exact ⟨σ',H',I.unwish,q⟩
 |cont=>obtain ⟨σ',H',I,q⟩:=h;exact ⟨σ',H',I.unwish,q⟩
 |ret u=>obtain ⟨v,σ',H',I,r,q⟩:=h;exact ⟨v,σ',H',I.unwish,r,q⟩
theorem PSs.nox {st:List Stmt}{t:TS}(h:PSs X.nox st t):PSs X st t:=λpins s σ H D I hw =>
 wpAny_mono (h pins s σ H D (I.wish _) hw) (λ_ _ q=>q.unwish) λ_ _ z=>False.elim z
end
section
variable {X:Cx}{st:Stmt}{rest:List Stmt}{t u:TS}{e:Expr}{te:TE}{pos:Pos}
def VD:TS:=λD σ H=>D.nx σ H
def tSeq (t u:TS):TS:=λD σ H=>t { D with nx:=u D } σ H
theorem m6:PSs X [] VD:=λ_ _ σ H _ I h=>wpAny_execs_nil ⟨σ,H,I,h⟩
theorem j9 (h1:PS X st t)(h2:PSs X rest u):PSs X (st::rest) (tSeq t u):=by
 intro pins s σ H D I h;refine wpAny_execs_cons (z8 (h1 pins s σ H { D with nx:=u D } I h) λf s1 q=>?_);cases f with
 |next=>obtain ⟨σ',H',I',q⟩:=q;exact h2 pins s1 σ' H' D I' q
 |ret v=>exact q
 |brk=>exact q
 |cont=>exact q
theorem j3 (h1:PS X st t):PSs X [st] t:=by
 intro pins s σ H D I h;refine wpAny_execs_cons (z8 (h1 pins s σ H D I h) λf s1 q=>?_);cases f with
 |next=>exact wpAny_execs_nil q
 |ret v=>exact q
 |brk=>exact q
 |cont=>exact q
theorem Inv.quiet (I:Inv X pins σ H s):interactive X.env=false:=by simp [interactive,I.ok.kind]
def we (te:TE):TS:=λD σ H=>te σ H λ_ H1=>D.nx σ H1
theorem vb (he:PE X e te)(hs:swapsWith e none pos.line X.env=pure false:=by rfl):PS X (.Expr e pos) (we te):=by intro pins s σ H D I h;exact wpAny_Expr_any (z8 (he pins s σ H _ I h) λv s1 ⟨x,H1,I1,r1,q1⟩=>⟨σ,H1,I1,q1⟩) I.quiet hs
def tRet (te:TE):TS:=λD σ H=>te σ H D.rt
theorem w9 (he:PE X e te):PS X (.Return (some e) pos) (tRet te):=by intro pins s σ H D I h;exact wpAny_Return_some (z8 (he pins s σ H _ I h) λv s1 ⟨x,H1,I1,r1,q1⟩=>⟨x,σ,H1,I1,r1,q1⟩)
def tIfS (c:TT)(t u:TS):TS:=λD σ H=>c σ H λb H1=>if b=true then t D σ H1 else u D σ H1
theorem c8 {a b:List Stmt}{tc:TT}(hc:PT X c tc)(ha:PSs X a t)(hb:PSs X b u):PS X (.If c a b pos) (tIfS tc t u):=by
 intro pins s σ H D I h;refine wpAny_If (z8 (hc pins s σ H _ I h) λd s1 ⟨H1,I1,q1⟩=>?_);cases d with
 |true=>exact ha pins s1 σ H1 D I1 q1
 |false=>exact hb pins s1 σ H1 D I1 q1
def Kj:TS:=λ_ _ _=>False
theorem xY:PS X st Kj:=λ_ _ _ _ _ _ h=>h.elim
end
abbrev TG:=V->St->Hp->(St->Hp->Prop)->Prop
abbrev TGs:=List V->St->Hp->(St->Hp->Prop)->Prop
def PG (X:Cx)(target:Expr)(t:TG):Prop :=
 ∀(pins:List (Addr×Obj))(s:Shared)(σ:St)(H:Hp)(v:V)(u:Value)(Q:St->Hp->Prop),Inv X pins σ H s->RelV v u->t v σ H Q ->
  wpAny (model X.prog X.w) X.A (assign target X.env u) (λ_ s'=>∃ σ' H',Inv X pins σ' H' s'/\Q σ' H') X.xe s
def PGs (X:Cx)(ts:List Expr)(t:TGs):Prop :=
 ∀(pins:List (Addr×Obj))(s:Shared)(σ:St)(H:Hp)(vs:List V)(us:List Value)(Q:St->Hp->Prop),Inv X pins σ H s->Vals vs us->t vs σ H Q ->
  wpAny (model X.prog X.w) X.A (assignInOrder ((assignEach ts X.env).map (·.2)) us) (λ_ s'=>∃ σ' H',Inv X pins σ' H' s'/\Q σ' H') X.xe s
abbrev TSet:=V->V->V->Hp->(Hp->Prop)->Prop
def PSet (X:Cx)(t:TSet):Prop :=
 ∀(pins:List (Addr×Obj))(s:Shared)(σ:St)(H:Hp)(o i v:V)(ov iv u:Value)(Q:Hp->Prop),Inv X pins σ H s->RelV o ov->RelV i iv->RelV v u->t o i v H Q ->
  wpAny (model X.prog X.w) X.A (setItem ov iv u) (λ_ s'=>∃ H',Inv X pins σ H' s'/\Q H') X.xe s
section
variable {X:Cx}{pos:Pos}
def qu (i:Nat):TG:=λv σ H Q=>Q (σ.set i (some v)) H
theorem k6 {i:Nat}(hN:X.N.Nodup)(hi:X.N[i]?=some x)(hx:Loc X.env.scope x)(hf:X.fn x=true∨X.env.scope.names.lookup x=some .local:=by first|exact .inl rfl|exact .inr rfl|assumption):PG X (.Name x pos) (qu i):=by intro pins s σ H v u Q I r h;exact wpAny_assign_Name (Kc I hN hi hx r (λs' I'=>⟨_,H,I',h⟩) hf)
def gNil:TGs:=λvs σ H Q=>vs=[]/\Q σ H
def Zw (t:TG)(u:TGs):TGs:=λvs σ H Q=>∃ v r,vs=v::r/\t v σ H λσ' H'=>u r σ' H' Q
theorem Xy:PGs X [] gNil:=by intro pins s σ H vs us Q I r h;obtain ⟨e,h⟩:=h;subst e;cases r;exact assignInOrder_nil ⟨σ,H,I,h⟩
theorem ji {t:TG}{u:TGs}(h1:PG X e t)(h2:PGs X es u)(hs:(assignEach (e::es) X.env).map (·.2)=assign e X.env::(assignEach es X.env).map (·.2):=by rfl):PGs X (e::es) (Zw t u):=by
 intro pins s σ H vs us Q I r h;obtain ⟨v,vr,e1,h⟩:=h;subst e1;cases r with
 |cons r rr=>rw [hs];refine assignInOrder_cons (z8 (h1 pins s σ H _ _ _ I r h) λ_ s1 ⟨σ1,H1,I1,q1⟩=>?_);exact h2 pins s1 σ1 H1 _ _ Q I1 rr q1
def gTup (K:Fg)(n:Nat)(t:TGs):TG:=λv σ H Q=>∃ a xs,v = .ref a/\SqT K H a xs/\xs.length=n/\t xs σ H Q
theorem MZ {k:Nat}{t:TGs}(hc:X.calm=true)(h:PGs X es t)(hn:(assignEach es X.env).length=n:=by rfl)(hst:(assignEach es X.env).findIdx? (·.1)=none:=by rfl):PG X (.Tuple es k pos) (gTup X.K n t):=by intro pins s σ H v u Q I r hw;obtain ⟨a,xs,e1,hq,hl,hw⟩:=hw;subst e1;cases r;obtain ⟨its,rv,ht,hz⟩:=I.tuple hq;refine assign_Tuple_tuple (I.ok.hd hc) ht (by simp [hn,<- hl,rv.length]) hst λh' hx=>?_;have I1:Inv X pins σ H { s with heap:=h' }:=I.kept (t':=s.toks) λb o e=>hx b o (yK (yT e)) e;exact h pins _ σ H xs _ Q I1 (by simpa using rv) hw
def gSub (to ti:TE)(t:TSet):TG:=λv σ H Q=>to σ H λo H1=>ti σ H1 λi H2=>t o i v H2 λH3=>Q σ H3
theorem MY {o i:Expr}{to ti:TE}{t:TSet}(ho:PE X o to)(hi:PE X i ti)(hs:PSet X t)
  (ha:∀ v,assign (.Subscript o i pos) X.env v=(do
   let ov <- holding [v] (eval o X.env)
   let iv <- holding [v,ov] (eval i X.env)
   standAt pos
   holding [v,ov,iv] (setItem ov iv v)
   release [v,ov,iv] []):=by intro _;rfl):PG X (.Subscript o i pos) (gSub to ti t):=by
 intro pins s σ H v u Q I r h;rw [ha];refine yV (wpAny_holding (z8 (ho pins s σ H _ I h) λov s1 ⟨x,H1,I1,r1,q1⟩=>?_));refine yV (wpAny_holding (z8 (hi pins s1 σ H1 _ I1 q1) λiv s2 ⟨y,H2,I2,r2,q2⟩=>?_));refine yV (wpAny_standAt (yV (wpAny_holding (z8 (hs pins s2 σ H2 x y v ov iv u _ I2 r1 r2 r q2) λ_ s3 ⟨H3,I3,q3⟩=>?_))));exact wpAny_release ⟨σ,H3,I3,q3⟩
def zT (te:TE)(g:TG):TS:=λD σ H=>te σ H λx H1=>g x σ H1 D.nx
theorem Lq {g:TG}(he:PE X e te)(hg:PG X tg g)(hs:swapsWithSole [tg] e pos.line X.env=pure false:=by rfl)(hw:swappedStores [tg] e X.env=pure none:=by rfl)(h1:(assignEach [tg] X.env).map (·.2)=[assign tg X.env]:=by rfl):PS X (.Assign [tg] e pos) (zT te g):=by intro pins s σ H D I h;refine wpAny_Assign_stores (z8 (he pins s σ H _ I h) λv s1 ⟨x,H1,I1,r1,q1⟩=>?_) hs hw;rw [h1];exact z8 (hg pins s1 σ H1 x v _ I1 r1 q1) λ_ s2 q=>q
theorem qc {i:Nat}{x:Str}{e:Expr}{te:TE}{pos':Pos}(hN:X.N.Nodup)(hi:X.N[i]?=some x)(hx:Loc X.env.scope x)(he:PE X e te)(hs:swapsWith e (some (.Name x pos')) pos.line X.env=pure false:=by rfl)(hf:X.fn x=true∨X.env.scope.names.lookup x=some .local:=by first|exact .inl rfl|exact .inr rfl|assumption):PS X (.Assign [.Name x pos'] e pos) (zT te (qu i)):=by intro pins s σ H D I h;refine wpAny_Assign_Name (z8 (he pins s σ H _ I h) λv s1 ⟨y,H1,I1,r1,q1⟩=>?_) hs;exact Kc I1 hN hi hx r1 (λs2 I2=>⟨_,H1,I2,q1⟩) hf
end
structure It where
 go:Nat->Hp->Prop
 yld:Nat->Hp->V->Hp->Prop
 stop:Nat->Hp->Prop
def qO (X:Cx)(pins:List (Addr×Obj))(H:Hp)(b:Addr):Prop :=
 H b=none/\b≠X.env.locals/\b∉X.fs/\(b∈X.ex∨X.s₀.heap.objs.size<=b)/\(∀ x c,X.env.cells.lookup x=some c->c≠b)/\∀ p∈X.pn++pins,p.1≠b
theorem Inv.fpOk {H':Hp}(I:Inv X pins σ H s)(hb:s.heap.objs.size<=b)(hn:H' b=none):qO X pins H' b:=by
 refine ⟨hn,uu (yH I.lt hb),I.nofs hb,.inr (yp I.sz hb),λx c e z=>?_,λp hp z=>?_⟩
 ·obtain ⟨v,q⟩:=I.cell x c e;exact absurd (yH q.lt (by rw [z];exact hb)) (uV _)
 ·exact absurd (yH (yT (I.pin p hp).1) (by rw [z];exact hb)) (uV _)
structure zF (P:Program)(w:World)(K:Fg)(tg:Expr)(J:It)(fp:List Addr)(it:Addr)(tn:Nat->Heap->Prop):Prop where
 mem:it∈fp
 obj:∀ i h,tn i h->∀ b∈fp,∃ o,h.get? b=some o/\∀ v,o.data ≠ .cell v
 keep:∀ i h h',tn i h->(∀ b∈fp,∀ o,h.get? b=some o->h'.get? b=some o)->tn i h'
 item:∀(X:Cx),X.prog=P->X.w=w->X.K=K->X.calm=true->∀(i:Nat)(pins:List (Addr×Obj))(s:Shared)(σ:St)(H:Hp)(E:Value->Shared->Prop),Inv X pins σ H s->(∀ b∈fp,qO X pins H b)->tn i s.heap->J.go i H ->
  wpAny (model P w) X.A (pyNext (.ref it)) (λr s1=>∃ u,r=some u /\
   wpAny (model P w) X.A (letOwnedTupleGo tg (.ref it) u) (λ_ s2=>∃ x H',Inv X pins σ H' s2/\RelV x u/\J.yld i H x H'/\tn (i+1) s2.heap/\∀ b∈fp,H' b=none) E s1) E s
 done:∀(X:Cx),X.prog=P->X.w=w->X.K=K->X.calm=true->∀(i:Nat)(pins:List (Addr×Obj))(s:Shared)(σ:St)(H:Hp)(E:Value->Shared->Prop),Inv X pins σ H s->(∀ b∈fp,qO X pins H b)->tn i s.heap->J.stop i H ->
  wpAny (model P w) X.A (pyNext (.ref it)) (λr s1=>r=none/\Inv X pins σ H s1) E s
 self:∀(A:Around)(i:Nat)(s:Shared)(Q:Value->Shared->Prop)(E:Value->Shared->Prop),tn i s.heap->Q (.ref it) s->wpAny (model P w) A (pyIter (.ref it)) Q E s
abbrev TI:=St->Hp->(It->Hp->Prop)->Prop
def PIE (X:Cx)(pins:List (Addr×Obj))(σ:St)(tg:Expr)(R:It->Hp->Prop)(itv:Value)(s2:Shared):Prop :=
 ∃(it:Addr)(fp:List Addr)(tn:Nat->Heap->Prop)(J:It)(H':Hp),itv = .ref it/\Inv X pins σ H' s2/\zF X.prog X.w X.K tg J fp it tn/\tn 0 s2.heap/\(∀ b∈fp,qO X pins H' b)/\R J H'
def PI (X:Cx)(tg iter:Expr)(wi:TI):Prop :=
 ∀(pins:List (Addr×Obj))(s:Shared)(σ:St)(H:Hp)(R:It->Hp->Prop),Inv X pins σ H s->wi σ H R ->
  wpAny (model X.prog X.w) X.A (eval iter X.env) (λv s1=>wpAny (model X.prog X.w) X.A (pyIter v) (PIE X pins σ tg R) X.xe s1) X.xe s
theorem QT {M:Model}{o:Obj}{n:String}{vs:Array Value}{Q:Unit->Shared->Prop}(ho:s.heap.get? it=some o)(hc:o.cls = .type n)(hd:o.data = .fields vs)(hn:["enumerate","zip","dict_itemiterator","dict_reverseitemiterator","odict_iterator","itertools.zip_longest","itertools.pairwise"].contains n=false)(hQ:Q () s):wpAny M A (letOwnedTupleGo tg (.ref it) u) Q E s:=by
  unfold letOwnedTupleGo;cases tg<;>first
    |exact yG hQ
    | (cases u <;> first
        |exact yG hQ
        | (refine yV (wpAny_load ho ?_)
           rw [hc,hd];show wpAny M A (if (["enumerate","zip","dict_itemiterator","dict_reverseitemiterator","odict_iterator","itertools.zip_longest","itertools.pairwise"].contains n&&vs[0]?==some (rawInt _))=true then _ else _) Q E s;rw [if_neg (by intro h;rw [hn,Bool.false_and] at h;cases h)];exact yG hQ))
def Itl (K:Fg)(a:Addr):It :=
 ⟨λi H=>∃ xs x,SqL K H a xs/\xs[i]?=some x,λi H x H'=>H'=H/\∀ xs,SqL K H a xs->xs[i]?=some x,λi H=>∃ xs,SqL K H a xs/\xs.length<=i⟩
def Itr (lo:Int)(n:Nat):It:=⟨λi _=>i<n,λi H x H'=>H'=H/\x = .int (lo+i),λi _=>n<=i⟩
theorem Hv (a it:Addr):zF P w K tg (Itl K a) [it] it (λi h=>h.IsListIter it a i) where
 mem:=by simp
 obj:=λi h st b hb=>by
  have e:b=it:=by simpa using hb
  subst e;obtain ⟨o,e,c,d⟩:=st;exact ⟨o,e,λv z=>by rw [d] at z;cases z⟩
 keep:=λi h h' st k=>st.at λo e=>k it (by simp) o e
 item:=by intro X hP hw hK hc i pins s σ H E I hf st hg;subst hP hw hK;obtain ⟨xs,x,hq,hx⟩:=hg;obtain ⟨its,rv,p,hz⟩:=I.list hq;obtain ⟨u,hu,ru⟩:=rv.get hx;obtain ⟨f0,f1,f2,f3,f4,f5⟩:=hf it (by simp);refine wpAny_pyNext_list_item st p.isList (x:=u) (by simpa using hu) λh' st' sb=>?_;have I1:Inv X pins σ H { s with heap:=h' }:=I.turned (t':=s.toks) (λb o hb e=>(sb.2 b hb).trans e) f0 f1 f3 f4 f5;obtain ⟨o,e,c,d⟩:=id st';exact ⟨u,rfl,QT (s:={ s with heap:=h' }) e c d (by decide) ⟨x,H,I1,ru,⟨rfl,λys hy=>by rw [I.list_inj hy hq];exact hx⟩,st',λb hb=>(hf b hb).1⟩⟩
 done:=by intro X hP hw hK hc i pins s σ H E I hf st hg;subst hP hw hK;obtain ⟨xs,hq,hx⟩:=hg;obtain ⟨its,rv,p,hz⟩:=I.list hq;obtain ⟨f0,f1,f2,f3,f4,f5⟩:=hf it (by simp);have hl:=rv.length;exact wpAny_pyNext_list_end (I.ok.hd hc) st p.isList (by simp;omega) λh' eb=>⟨rfl,I.turned (t':=s.toks) (λb o hb e=>eb b o hb e) f0 f1 f3 f4 f5⟩
 self:=λ_ _ _ _ _ st h=>wpAny_pyIter_listiter st h
theorem Hw (it:Addr)(lo:Int)(n:Nat):zF P w K tg (Itr lo n) [it] it (λi h=>IsRangeIter h it (lo+(i:Nat)*1) ((n:Int)-(i:Nat)) 1) where
 mem:=by simp
 obj:=λi h st b hb=>by
  have e:b=it:=by simpa using hb
  subst e;exact ⟨_,st,λv z=>by
   have z':Data.fields _=Data.cell v:=z;cases z'⟩
 keep:=λi h h' st k=>k it (by simp) _ st
 item:=by intro X hP hw hK hc i pins s σ H E I hf st hg;subst hP hw hK;obtain ⟨f0,f1,f2,f3,f4,f5⟩:=hf it (by simp);have W:=Walks.range (prog:=X.prog) (w:=X.w) (I.ok.hd hc) it lo 1 n;refine W.item i s _ _ hg st λv h' tk hv st' kk=>?_;obtain ⟨t,rfl⟩:=hv;have I1:Inv X pins σ H { s with heap:=h',toks:=tk }:=I.turned (λb o hb e=>kk b o (by simpa using hb) e) f0 f1 f3 f4 f5;refine ⟨_,rfl,QT (s:={ s with heap:=h',toks:=tk }) (n:="range_iterator") st' rfl rfl (by decide) ⟨.int (lo+i),H,I1,⟨t,?_⟩,⟨rfl,rfl⟩,st',λb hb=>(hf b hb).1⟩⟩;rw [Int.mul_one]
 done:=by intro X hP hw hK hc i pins s σ H E I hf st hg;subst hP hw hK;obtain ⟨f0,f1,f2,f3,f4,f5⟩:=hf it (by simp);exact wpAny_pyNext_range_end (I.ok.hd hc) st (by have:n<=i:=hg;omega) λh' eb=>⟨rfl,I.turned (t':=s.toks) (λb o hb e=>eb b o hb e) f0 f1 f3 f4 f5⟩
 self:=λ_ _ _ _ _ st h=>wpAny_pyIter_rangeiter st h
section
variable {X:Cx}{tg:Expr}
def QU (K:Fg)(tl:TE):TI:=λσ H R=>tl σ H λx H1=>∃ a,x = .ref a/\(∃ xs,SqL K H1 a xs)/\R (Itl K a) H1
theorem Lb {l:Expr}{tl:TE}(hl:PE X l tl):PI X tg l (QU X.K tl):=by
 intro pins s σ H R I h;refine z8 (hl pins s σ H _ I h) λv s1 ⟨x,H1,I1,r1,q1⟩=>?_;obtain ⟨a,e,⟨xs,hq⟩,q⟩:=q1;subst e;cases r1;obtain ⟨its,rv,p,hz⟩:=I1.list hq;refine wpAny_pyIter_list p.isList ?_;refine ⟨s1.heap.objs.size,[s1.heap.objs.size],_,_,H1,rfl,I1.kept (t':=s1.toks) λb o e=>yX _ e,Hv a _,⟨_,yI _ rfl,rfl,rfl⟩,λb hb=>?_,q⟩;have e:b=s1.heap.objs.size:=by simpa using hb
 subst e;exact I1.fpOk (yU _) (I1.hok.fresh (yU _))
theorem LB {R:It->Hp->Prop}{hi:Int}{t u v:Tok}{tk:Nat}(I:Inv X pins σ H s)(h1:-(2 ^ 62)<=lo)(h2:lo<2 ^ 62)(h3:-(2 ^ 62)<=hi)(h4:hi<2 ^ 62)(q:R (Itr lo (hi-lo).toNat) H):wpAny (model X.prog X.w) X.A (pyIter (.ref s.heap.objs.size)) (PIE X pins σ tg R) E { s with heap:=s.heap.push { cls:= .type "range",data:= .fields #[.int lo t,.int hi u,.int 1 v] },toks:=tk }:=by
 refine wpAny_pyIter_range (IsRange.new ..) (small_one h1 h2 h3 h4) ?_;have I1:Inv X pins σ H { s with heap:=s.heap.push { cls:= .type "range",data:= .fields #[.int lo t,.int hi u,.int 1 v] },toks:=tk }:=I.kept λb o e=>yX _ e;refine ⟨(s.heap.push { cls:= .type "range",data:= .fields #[.int lo t,.int hi u,.int 1 v] }).objs.size,[(s.heap.push { cls:= .type "range",data:= .fields #[.int lo t,.int hi u,.int 1 v] }).objs.size],_,_,H,rfl,
  I1.kept (t':=tk) λb o e=>yX _ e,Hw _ lo (hi-lo).toNat,?_,λb hb=>?_,q⟩
 ·have e1:lo+((0:Nat):Int)*1=lo:=by simp
  have e2:(((hi-lo).toNat:Nat):Int)-((0:Nat):Int)=Builtin.Range.rangeSize lo hi 1:=by rw [rangeSize_one];split<;>omega
  show IsRangeIter _ _ (lo+((0:Nat):Int)*1) ((((hi-lo).toNat:Nat):Int)-((0:Nat):Int)) 1;rw [e1,e2];exact yI _ rfl
 ·have e:b=(s.heap.push { cls:= .type "range",data:= .fields #[.int lo t,.int hi u,.int 1 v] }).objs.size:=by simpa using hb
  subst e;exact I1.fpOk (yU _) (I1.hok.fresh (yU _))
def QV (ta:TA):TI:=λσ H R=>ta σ H λvs H1=>∃ j:Int,vs=[.int j]/\-(2 ^ 62)<=j/\j<2 ^ 62/\R (Itr 0 j.toNat) H1
theorem jj {a:Expr}{ta:TA}{p:Pos}(hg:Gl X "range")(hm:X.mg "range"=none)(ha:PA X [a] ta)(hs:starEach [a] X.env=[(false,eval a X.env)]:=by rfl):PI X tg (.Call (.Name "range" p) [a] [] pos) (QV ta):=by
 intro pins s σ H R I h;refine Call_ (zM I hg hm boot_range (PyProof.Rows.callWith_type1 (z8 (ha pos pins s σ H _ I h) λus s1 ⟨vs,H1,I1,r1,q1⟩=>?_) hs rfl));obtain ⟨j,e,q1,q2,q⟩:=q1;subst e;cases r1 with
 |cons r rr=>cases rr;obtain ⟨t,rfl⟩:=r;exact call_range_1 (LB I1 (by omega) (by omega) q1 q2 (by simpa using q))
def tFor (wi:TI)(g:TG)(tb:TS):TS:=λD σ H=>wi σ H λJ H1=>∃ W:Nat->Nat->St->Hp->Prop,(∃ m,W 0 m σ H1)/\∀ i m σ H,W i m σ H ->
 (J.stop i H/\D.nx σ H)∨(J.go i H/\∃ N:St->Hp->Prop,(∀ σ' H',N σ' H'->∃ m',m'<m/\W (i+1) m' σ' H')/\∀ x H',J.yld i H x H'->g x σ H' λσ2 H2=>tb { D with nx:=N,ct:=N,bk:=D.nx } σ2 H2)
def Qa (fp:List Addr)(h:Heap):List (Addr×Obj):=fp.filterMap λb=>(h.get? b).map λo=>(b,o)
theorem Xm {o:Obj}(hb:b∈fp)(e:h.get? b=some o):(b,o)∈Qa fp h:=List.mem_filterMap.mpr ⟨b,hb,by rw [e];rfl⟩
theorem Dn {p:Addr×Obj}(hp:p∈Qa fp h):p.1∈fp/\h.get? p.1=some p.2:=by
 obtain ⟨b,hb,e⟩:=List.mem_filterMap.mp hp;cases q:h.get? b with
 |none=>rw [q] at e;cases e
 |some o=>rw [q] at e;have e':(b,o)=p:=Option.some.inj e;subst e';exact ⟨hb,q⟩
theorem Inv.pinned (I:Inv X pins σ H s)(hf:∀ b∈fp,qO X pins H b)(ho:∀ b∈fp,∃ o,s.heap.get? b=some o/\∀ v,o.data ≠ .cell v):Inv X (pins++Qa fp s.heap) σ H s :=
 I.pins_of λp hp=>(yu.mp hp).elim (λz=>I.pin p (yv _ z)) λz=>by
  obtain ⟨hb,e⟩:=Dn z;obtain ⟨f0,f1,f2,_⟩:=hf p.1 hb;obtain ⟨o,e',d⟩:=ho p.1 hb;rw [e] at e';cases e';exact ⟨e,f0,f1,f2,d⟩
theorem Inv.unpinned {pl:List (Addr×Obj)}(I:Inv X (pins++pl) σ H s):Inv X pins σ H s:=I.pins_of λp hp=>I.pin p (yv _ (uD _ hp))
theorem xr {iter:Expr}{wi:TI}{g:TG}(hp:PassesOwn (model X.prog X.w) X.A X.env X.xe)(hc:X.calm=true)(hi:PI X tg iter wi)(hg:PG X tg g)(hb:PSs X body tb)(hs:∀ x,foldedSetIterable iter X.env x=pure x:=by intro _;rfl):PS X (.For tg iter body [] pos) (tFor wi g tb):=by
 intro pins s σ H D I h;refine wpAny_For (z8 (hi pins s σ H _ I h) λv s1 h1=>z8 h1 λitv s2 h2=>?_) hs;obtain ⟨it,fp,tn,J,H2,e,I2,T,st2,f2,W,⟨m0,w0⟩,turn⟩:=h2;subst e
 -- what stays true of the iterator's objects through the loop
 have stat:∀{H':Hp},(∀ b∈fp,H' b=none)->∀ b∈fp,qO X pins H' b:=λhn b hb=>⟨hn b hb,(f2 b hb).2⟩;refine codeAny_forLoop_any (λn s'=>∃ i σ' H',Inv X pins σ' H' s'/\tn i s'.heap/\(∀ b∈fp,H' b=none)/\W i n σ' H') ?_ m0 ⟨0,σ,H2,I2,st2,λb hb=>(f2 b hb).1,w0⟩;rintro n s3 ⟨i,σ3,H3,I3,st3,fr3,w3⟩;rcases turn i n σ3 H3 w3 with ⟨stop,qn⟩|⟨go,N,hN,step⟩
 ·refine wpAny_passesOwn hp (z8 (T.done X rfl rfl rfl hc i pins s3 σ3 H3 X.xe I3 (stat fr3) st3 stop) λr s4 ⟨hr,I4⟩=>?_);subst hr;exact wpAny_execs_nil ⟨σ3,H3,I4,qn⟩
 ·refine wpAny_passesOwn hp (z8 (T.item X rfl rfl rfl hc i pins s3 σ3 H3 X.xe I3 (stat fr3) st3 go) λr s4 ⟨u,hr,h4⟩=>?_);subst hr;refine wpAny_passesOwn hp (z8 h4 λ_ s5 ⟨x,H5,I5,r5,y5,st5,fr5⟩=>?_);have I5':=I5.pinned (stat fr5) (T.obj _ _ st5);refine wpAny_passesOwn hp (z8 (hg _ s5 σ3 H5 x u _ I5' r5 (step x H5 y5)) λ_ s6 ⟨σ6,H6,I6,q6⟩=>?_);refine wpAny_passesOwn hp (z8 (hb _ s6 σ6 H6 _ I6 q6) λf s7 q7=>?_);have again:∀{σ7:St}{H7:Hp},Inv X (pins++Qa fp s5.heap) σ7 H7 s7->N σ7 H7->∃ m,m<n/\∃ i σ' H',Inv X pins σ' H' s7/\tn i s7.heap/\(∀ b∈fp,H' b=none)/\W i m σ' H':=λ{σ7 H7} I7 n7=>by
   obtain ⟨m',hm,w7⟩:=hN σ7 H7 n7;refine ⟨m',hm,i+1,σ7,H7,I7.unpinned,T.keep _ _ _ st5 λb hb o e=>(I7.pin (b,o) (yv _ (yv _ (Xm hb e)))).1,λb hb=>?_,w7⟩;obtain ⟨o,e,d⟩:=T.obj _ _ st5 b hb;exact (I7.pin (b,o) (yv _ (yv _ (Xm hb e)))).2.1
  cases f with
  |next=>obtain ⟨σ7,H7,I7,n7⟩:=q7;exact again I7 n7
  |cont=>obtain ⟨σ7,H7,I7,n7⟩:=q7;exact again I7 n7
  |brk=>obtain ⟨σ7,H7,I7,q7⟩:=q7;exact ⟨σ7,H7,I7.unpinned,q7⟩
  |ret v=>obtain ⟨x7,σ7,H7,I7,r7,q7⟩:=q7;exact ⟨x7,σ7,H7,I7.unpinned,r7,q7⟩
end
theorem Ue {g:TG}(Pv:Nat->St->Hp->Prop)(h0:Pv 0 σ H)(hs:∀ i σ H,i<n->Pv i σ H->g (.int (lo+i)) σ H λσ2 H2=>tb { D with nx:=Pv (i+1),ct:=Pv (i+1),bk:=D.nx } σ2 H2)(hd:∀ σ H,Pv n σ H->D.nx σ H):∃ W:Nat->Nat->St->Hp->Prop,(∃ m,W 0 m σ H)/\∀ i m σ H,W i m σ H -> ((Itr lo n).stop i H/\D.nx σ H)∨((Itr lo n).go i H/\∃ N:St->Hp->Prop,(∀ σ' H',N σ' H'->∃ m',m'<m/\W (i+1) m' σ' H')/\∀ x H',(Itr lo n).yld i H x H'->g x σ H' λσ2 H2=>tb { D with nx:=N,ct:=N,bk:=D.nx } σ2 H2):=by
 refine ⟨λi m σ H=>m=n-i/\i<=n/\Pv i σ H,⟨n,by simp,yo _,h0⟩,?_⟩;rintro i m σ H ⟨rfl,hi,p⟩;by_cases hlt:i<n
 ·refine .inr ⟨hlt,Pv (i+1),λσ' H' p'=>⟨n-(i+1),by omega,rfl,hlt,p'⟩,λx H' y=>?_⟩;obtain ⟨e,y⟩:=y;subst e y;exact hs i σ _ hlt p
 ·have e:i=n:=by omega
  subst e;exact .inl ⟨yU _,hd σ H p⟩
abbrev R2:=V->V->Hp->VK->Prop
variable{r r':R2}
def OpR (X:Cx)(f:Value->Value->Sem Value)(r:R2):Prop :=
 ∀(pins:List (Addr×Obj))(s:Shared)(σ:St)(H:Hp)(x y:V)(v u:Value)(Q:VK),Inv X pins σ H s->RelV x v->RelV y u->r x y H Q ->
  wpAny (model X.prog X.w) X.A (f v u) (EP X pins σ Q) X.xe s
def UnR (X:Cx)(f:Value->Sem Value)(r:V->Hp->VK->Prop):Prop :=
 ∀(pins:List (Addr×Obj))(s:Shared)(σ:St)(H:Hp)(x:V)(v:Value)(Q:VK),Inv X pins σ H s->RelV x v->r x H Q ->
  wpAny (model X.prog X.w) X.A (f v) (EP X pins σ Q) X.xe s
def CallR (X:Cx)(f:Value)(r:List V->Hp->VK->Prop):Prop :=
 ∀(pins:List (Addr×Obj))(s:Shared)(σ:St)(H:Hp)(xs:List V)(us:List Value)(Q:VK),Inv X pins σ H s->Vals xs us->r xs H Q ->
  wpAny (model X.prog X.w) X.A (call f us) (EP X pins σ Q) X.xe s
def TruR (X:Cx)(r:V->Hp->(Bool->Hp->Prop)->Prop):Prop :=
 ∀(pins:List (Addr×Obj))(s:Shared)(σ:St)(H:Hp)(x:V)(v:Value)(Q:Bool->Hp->Prop),Inv X pins σ H s->RelV x v->r x H Q ->
  wpAny (model X.prog X.w) X.A (truthy v) (TP X pins σ Q) X.xe s
def tOp (r:R2)(ta tb:TE):TE:=λσ H Q=>ta σ H λx H1=>tb σ H1 λy H2=>r x y H2 Q
def tUn (r:V->Hp->VK->Prop)(ta:TE):TE:=λσ H Q=>ta σ H λx H1=>r x H1 Q
def rI (C:Int->Int->Prop)(g:Int->Int->V):R2:=λx y H Q=>∃ i j,x = .int i/\y = .int j/\C i j/\Q (g i j) H
def rI0 (g:Int->Int->V):R2:=λx y H Q=>∃ i j,x = .int i/\y = .int j/\Q (g i j) H
def rU (g:Int->V):V->Hp->VK->Prop:=λx H Q=>∃ i,x = .int i/\Q (g i) H
section
variable {X:Cx}{a b c:Expr}{ta tb tc:TE}{pos:Pos}
theorem binT (ha:PE X a ta)(hb:PE X b tb)(I:Inv X pins σ H s)(h:ta σ H λx H1=>tb σ H1 λy H2=>R x y H2)(hf:∀ v u s2 x y H2,Inv X pins σ H2 s2->RelV x v->RelV y u->R x y H2->wpAny (model X.prog X.w) X.A (f v u) Q X.xe s2):wpAny (model X.prog X.w) X.A (eval a X.env) (λv s₁=>wpAny (model X.prog X.w) X.A (eval b X.env) (λu s₂=>wpAny (model X.prog X.w) X.A (f v u) Q X.xe s₂) X.xe s₁) X.xe s:=by refine z8 (ha pins s σ H _ I h) λv s1 ⟨x,H1,I1,r1,q1⟩=>?_;refine z8 (hb pins s1 σ H1 _ I1 q1) λu s2 ⟨y,H2,I2,r2,q2⟩=>?_;exact hf v u s2 x y H2 I2 r1 r2 q2
theorem y9 {op:Operator}(ho:OpR X (binaryOp op) r)(ha:PE X a ta)(hb:PE X b tb):PE X (.BinOp a op b pos) (tOp r ta tb):=by intro pins s σ H Q I h;exact wpAny_BinOp (binT ha hb I h λv u s2 x y H2 I2 rx ry q=>ho pins s2 σ H2 x y v u Q I2 rx ry q)
theorem Gc {op:UnaryOp}{r:V->Hp->VK->Prop}(ho:UnR X (unaryOp op) r)(ha:PE X a ta):PE X (.UnaryOp op a pos) (tUn r ta):=by intro pins s σ H Q I h;exact UnaryOp_ (z8 (ha pins s σ H _ I h) λv s1 ⟨x,H1,I1,r1,q1⟩=>ho pins s1 σ H1 x v Q I1 r1 q1)
theorem opI {C:Int->Int->Prop}{g:Int->Int->Int}(rule:∀(i j:Int)(t u:Tok)(s:Shared)(Q:Value->Shared->Prop)(E:Value->Shared->Prop),C i j->Q (.int (g i j) s.toks) { s with toks:=s.toks+1 }->wpAny (model X.prog X.w) X.A (f (.int i t) (.int j u)) Q E s):OpR X f (rI C λi j=> .int (g i j)):=by intro pins s σ H x y v u Q I rx ry h;obtain ⟨i,j,rfl,rfl,hc,q⟩:=h;obtain ⟨t,rfl⟩:=rx;obtain ⟨t',rfl⟩:=ry;exact rule i j t t' s _ _ hc ⟨.int (g i j),H,I.tok _,⟨_,rfl⟩,q⟩
theorem opI0 {g:Int->Int->Int}(rule:∀(i j:Int)(t u:Tok)(s:Shared)(Q:Value->Shared->Prop)(E:Value->Shared->Prop),Q (.int (g i j) s.toks) { s with toks:=s.toks+1 }->wpAny (model X.prog X.w) X.A (f (.int i t) (.int j u)) Q E s):OpR X f (rI0 λi j=> .int (g i j)):=by intro pins s σ H x y v u Q I rx ry h;obtain ⟨i,j,rfl,rfl,q⟩:=h;obtain ⟨t,rfl⟩:=rx;obtain ⟨t',rfl⟩:=ry;exact rule i j t t' s _ _ ⟨.int (g i j),H,I.tok _,⟨_,rfl⟩,q⟩
theorem opB0 {g:Int->Int->Bool}(rule:∀(i j:Int)(t u:Tok)(s:Shared)(Q:Value->Shared->Prop)(E:Value->Shared->Prop),Q (.bool (g i j)) s->wpAny (model X.prog X.w) X.A (f (.int i t) (.int j u)) Q E s):OpR X f (rI0 λi j=> .bl (g i j)):=by intro pins s σ H x y v u Q I rx ry h;obtain ⟨i,j,rfl,rfl,q⟩:=h;obtain ⟨t,rfl⟩:=rx;obtain ⟨t',rfl⟩:=ry;exact rule i j t t' s _ _ ⟨.bl (g i j),H,I,rfl,q⟩
def zV (i j:Int):Prop:=0<=j/\j<=1000000/\i.natAbs<2 ^ 64
def CMul (i j:Int):Prop:=(-(2 ^ 64)<i/\i<2 ^ 64)∨(-(2 ^ 64)<j/\j<2 ^ 64)
theorem CMul.ok {i j:Int}(h:CMul i j):IntMulOk i j:=by
 rcases h with ⟨h1,h2⟩|⟨h1,h2⟩
 ·exact .of_left (intBits_le_64 h1 h2)
 ·exact .of_right (intBits_le_64 h1 h2)
theorem op_add:OpR X (binaryOp .Add) (rI0 λi j=> .int (i+j)):=opI0 λ_ _ _ _ _ _ _ q=>add_int q
theorem wV:OpR X (binaryOp .Sub) (rI0 λi j=> .int (i-j)):=opI0 λ_ _ _ _ _ _ _ q=>sub_int q
theorem vU:OpR X (binaryOp .Mult) (rI CMul λi j=> .int (i*j)):=opI λ_ _ _ _ _ _ _ hc q=>mul_int q hc.ok
theorem jV:OpR X (binaryOp .Mod) (rI (λ_ j=>0<j) λi j=> .int (i % j)):=opI λi j _ _ _ _ _ hc q=>by
 have h1:(0:Int)<j:=hc;exact mod_int' (by omega) (by rw [Int.fmod_eq_emod_of_nonneg i (by omega)];exact q)
theorem vV:OpR X (binaryOp .Pow) (rI zV λi j=> .int (i ^ j.toNat)):=opI λ_ _ _ _ _ _ _ hc q=>pow_int_small hc.1 hc.2.1 hc.2.2 q
theorem unI {f:Value->Sem Value}{g:Int->Int}(rule:∀(i:Int)(t:Tok)(s:Shared)(Q:Value->Shared->Prop)(E:Value->Shared->Prop),Q (.int (g i) s.toks) { s with toks:=s.toks+1 }->wpAny (model X.prog X.w) X.A (f (.int i t)) Q E s):UnR X f (rU λi=> .int (g i)):=by intro pins s σ H x v Q I rx h;obtain ⟨i,rfl,q⟩:=h;obtain ⟨t,rfl⟩:=rx;exact rule i t s _ _ ⟨.int (g i),H,I.tok _,⟨_,rfl⟩,q⟩
theorem Kv:UnR X (unaryOp .USub) (rU λi=> .int (-i)):=unI λ_ _ _ _ _ q=>neg_int q
end
section
variable {X:Cx}{a b c:Expr}{ta tb tc:TE}{pos:Pos}
theorem Zs {Q:VK}{k k':Bool}(I:Inv X pins σ H s)(q:Q (.bl k) H)(e:k=k'):EP X pins σ Q (.bool k') s:=by subst e;exact ⟨.bl k,H,I,rfl,q⟩
theorem Xq:OpR X (compareOp .Lt) (rI0 λi j=> .bl (decide (i<j))):=opB0 λ_ _ _ _ _ _ _ q=>lt_int q
theorem Xp:OpR X (compareOp .LtE) (rI0 λi j=> .bl (decide (i<=j))):=opB0 λ_ _ _ _ _ _ _ q=>le_int q
theorem wS:OpR X (compareOp .Gt) (rI0 λi j=> .bl (decide (j<i))):=opB0 λ_ _ _ _ _ _ _ q=>gt_int q
theorem Xo:OpR X (compareOp .GtE) (rI0 λi j=> .bl (decide (j<=i))):=opB0 λ_ _ _ _ _ _ _ q=>ge_int q
theorem Mw:OpR X (compareOp .Is) (λx y H Q=>y = .non/\Q (.bl (decide (x = .non))) H):=by
 intro pins s σ H x y v u Q I rx ry h;obtain ⟨rfl,q⟩:=h;cases ry;refine is_none_gen (Zs I q ?_);cases x<;>first
  |(cases rx;rfl)
  |(obtain ⟨t,rfl⟩:=rx;rfl)
theorem Mz:OpR X (compareOp .IsNot) (λx y H Q=>y = .non/\Q (.bl (!decide (x = .non))) H):=by
 intro pins s σ H x y v u Q I rx ry h;obtain ⟨rfl,q⟩:=h;cases ry;refine isnot_none_gen (Zs I q ?_);cases x<;>first
  |(cases rx;rfl)
  |(obtain ⟨t,rfl⟩:=rx;rfl)
theorem OpR.or (h:OpR X f r)(h':OpR X f r'):OpR X f (λx y H Q=>r x y H Q∨r' x y H Q):=by
 intro pins s σ H x y v u Q I rx ry q;rcases q with q|q
 ·exact h pins s σ H x y v u Q I rx ry q
 ·exact h' pins s σ H x y v u Q I rx ry q
theorem p8 (b:Expr)(h:op ≠ .In:=by decide)(h2:op ≠ .NotIn:=by decide):behindInMarks op b=false:=by
 have e1:(op==CmpOp.In)=false:=by cases op<;>first|rfl|exact absurd rfl h
 have e2:(op==CmpOp.NotIn)=false:=by cases op<;>first|rfl|exact absurd rfl h2
 cases b<;>simp [behindInMarks,e1,e2]
theorem xE (ho:OpR X (compareOp op) r)(ha:PE X a ta)(hb:PE X b tb)(hm:behindInMarks op b=false):PE X (.Compare a [op] [b] pos) (tOp r ta tb):=by intro pins s σ H Q I h;exact wpAny_Compare1 (binT ha hb I h λv u s2 x y H2 I2 rx ry q=>ho pins s2 σ H2 x y v u Q I2 rx ry q) hm
def XO (t:TE):TT:=λσ H Q=>t σ H λx H'=>∃ k,x = .bl k/\Q k H'
theorem o8 (ho:OpR X (compareOp op) r)(ha:PE X a ta)(hb:PE X b tb)(hm:behindInMarks op b=false):PT X (.Compare a [op] [b] pos) (XO (tOp r ta tb)):=by
 intro pins s σ H Q I h;refine wpAny_isTrue_Compare1 (z8 (ha pins s σ H _ I h) λv s1 ⟨x,H1,I1,r1,q1⟩=>z8 (hb pins s1 σ H1 _ I1 q1) λu s2 ⟨y,H2,I2,r2,q2⟩ =>
  z8 (ho pins s2 σ H2 x y v u _ I2 r1 r2 q2) λc s3 ⟨z,H3,I3,r3,k,e,q3⟩=>?_) hm
 subst e;cases r3;exact wpAny_truthy_bool ⟨H3,I3,q3⟩
def VB (r r':R2)(ta tb tc:TE):TE:=λσ H Q=>ta σ H λx H1=>tb σ H1 λy H2=>r x y H2 λz H3=>∃ k,z = .bl k /\
 (if k=true then tc σ H3 λw' H4=>r' y w' H4 Q else Q (.bl false) H3)
theorem MN (ho:OpR X (compareOp op) r)(ho':OpR X (compareOp op') r')(ha:PE X a ta)(hb:PE X b tb)(hc:PE X c tc)(hm:lastMarks [op,op'] [b,c]=false:=by with_unfolding_all rfl):PE X (.Compare a [op,op'] [b,c] pos) (VB r r' ta tb tc):=by
 intro pins s σ H Q I h;refine Compare_chain (z8 (ha pins s σ H _ I h) λv s1 ⟨x,H1,I1,r1,q1⟩=>chain_link (z8 (hb pins s1 σ H1 _ I1 q1) λu s2 ⟨y,H2,I2,r2,q2⟩ =>
  z8 (ho pins s2 σ H2 x y v u _ I2 r1 r2 q2) λd s3 ⟨z,H3,I3,r3,k,e,q3⟩=>?_)) hm
 subst e;cases r3;refine wpAny_truthy_bool ?_;cases k with
 |false=>exact ite_ff ⟨.bl false,H3,I3,rfl,q3⟩
 |true=>exact ite_tt (chain_last (z8 (hc pins s3 σ H3 _ I3 q3) λw' s4 ⟨z',H4,I4,r4,q4⟩=>ho' pins s4 σ H4 y z' u w' Q I4 r2 r4 q4))
theorem Gp (ho:OpR X (compareOp op) r)(ho':OpR X (compareOp op') r')(ha:PE X a ta)(hb:PE X b tb)(hc:PE X c tc)(hm:lastMarks [op,op'] [b,c]=false:=by with_unfolding_all rfl):PT X (.Compare a [op,op'] [b,c] pos) (XO (VB r r' ta tb tc)):=by
 intro pins s σ H Q I h;refine isTrue_chain (z8 (ha pins s σ H _ I h) λv s1 ⟨x,H1,I1,r1,q1⟩=>test_link (z8 (hb pins s1 σ H1 _ I1 q1) λu s2 ⟨y,H2,I2,r2,q2⟩ =>
  z8 (ho pins s2 σ H2 x y v u _ I2 r1 r2 q2) λd s3 ⟨z,H3,I3,r3,k,e,q3⟩=>?_)) hm
 subst e;cases r3;refine wpAny_truthy_bool ?_;cases k with
 |false=>obtain ⟨k',e',q'⟩:=q3;cases e';exact ite_ff ⟨H3,I3,q'⟩
 |true=>refine ite_tt (test_last (z8 (hc pins s3 σ H3 _ I3 q3) λw' s4 ⟨z',H4,I4,r4,q4⟩=>z8 (ho' pins s4 σ H4 y z' u w' _ I4 r2 r4 q4) λd' s5 ⟨z2,H5,I5,r5,k2,e2,q5⟩=>?_));subst e2;cases r5;exact wpAny_truthy_bool ⟨H5,I5,q5⟩
def TruV (K:Fg)(x:V)(H:Hp)(k:Bool):Prop :=
 match x with
 | .non=>k=false
 | .bl b=>k=b
 | .int i=>k=(i != 0)
 | .str y=>y.length<=sizeLine/\k=((y.length:Int) != 0)
 | .byt y=>y.size<=sizeLine/\k=((y.size:Int) != 0)
 | .ref p=>(∃ xs,SqL K H p xs/\k=!xs.isEmpty)∨(∃ xs,SqT K H p xs/\k=!xs.isEmpty)∨∃ kvs,H p=some (.dK kvs)/\k=!kvs.isEmpty
 |_=>False
theorem Cg {κ:Type}{kvs:List (κ×V)}{vs:List (κ×Value)}(r:KV kvs vs):(!vs.isEmpty)=!kvs.isEmpty:=by cases r<;>rfl
theorem Uo {its:List Value}(r:Vals xs its):(!its.toArray.isEmpty)=!xs.isEmpty:=by cases r<;>simp
theorem jQ:(sizeLine:Nat)<2 ^ 63:=by rw [sizeLine_eq];decide
theorem Hn:TruR X (λx H Q=>∃ k,TruV X.K x H k/\Q k H):=by
 intro pins s σ H x v Q I rx h;obtain ⟨k,e,q⟩:=h;have hl:=jQ;have hs:sizeLine=16777216:=sizeLine_eq;cases x with
 |non=>cases rx;have e':k=false:=e;subst e';exact truthy_none ⟨H,I,q⟩
 |bl b=>cases rx;have e':k=b:=e;subst e';exact wpAny_truthy_bool ⟨H,I,q⟩
 |int i=>obtain ⟨t,rfl⟩:=rx;have e':k=(i != 0):=e;subst e';exact PySem.P.truthy_int ⟨H,I,q⟩
 |str y=>obtain ⟨t,rfl⟩:=rx;obtain ⟨hy,e'⟩:y.length<=sizeLine/\k=((y.length:Int) != 0):=e;subst e';exact PySem.P.truthy_str (by omega) ⟨H,I.tok _,q⟩
 |byt y=>obtain ⟨t,rfl⟩:=rx;obtain ⟨hy,e'⟩:y.size<=sizeLine/\k=((y.size:Int) != 0):=e;subst e';exact PySem.W.truthy_bytes (by omega) ⟨H,I.tok _,q⟩
 |ref p =>
  cases rx;have e':(∃ xs,SqL X.K H p xs/\k=!xs.isEmpty)∨(∃ xs,SqT X.K H p xs/\k=!xs.isEmpty)∨∃ kvs,H p=some (.dK kvs)/\k=!kvs.isEmpty:=e;rcases e' with ⟨xs,hx,e'⟩|⟨xs,hx,e'⟩|⟨kvs,hx,e'⟩
  ·subst e';obtain ⟨its,r,pl,hz⟩:=I.list hx;have hlen:=r.length;exact wpAny_truthy_list pl.isList (by simp only [yY];omega) ⟨H,I.tok _,by rw [Uo r];exact q⟩
  ·subst e';obtain ⟨its,r,pl,hz⟩:=I.tuple hx;have hlen:=r.length;exact truthy_tuple pl (by simp only [yY];omega) ⟨H,I.tok _,by rw [Uo r];exact q⟩
  ·subst e';obtain ⟨hz,hS,vs,r,m⟩:kvs.length<=sizeLine/\(p==sysModules)=false/\∃ vs,KV kvs vs/\s.heap.DictOf (m8 X.prog X.w) p vs:=I.hok p _ hx;have hlen:kvs.length=vs.length:=Paired.length r;exact wpAny_truthy_dict hS m (by omega) ⟨H,I.tok _,by rw [Cg r];exact q⟩
 |_=>exact (show False from e).elim
theorem Lu (ha:PE X a ta)(he:∀ whole,isTrue a X.env whole=(do let v <- whole;standAt a.pos;holding [v] (truthy v))):
  PT X a (λσ H Q=>ta σ H λx H'=>∃ k,TruV X.K x H' k/\Q k H'):=by
 intro pins s σ H Q I h;exact isTrue_plain (z8 (ha pins s σ H _ I h) λv s1 ⟨x,H1,I1,r1,q1⟩=>Hn pins s1 σ H1 x v Q I1 r1 q1) (he _)
theorem op_add_str:OpR X (binaryOp .Add) (λx y H Q=>∃ i j,x = .str i/\y = .str j/\i.length+j.length<=sizeLine/\Q (.str (i++j)) H):=by intro pins s σ H x y v u Q I rx ry h;obtain ⟨i,j,rfl,rfl,hz,q⟩:=h;obtain ⟨t,rfl⟩:=rx;obtain ⟨t',rfl⟩:=ry;exact add_str (λt' tk=>⟨.str (i++j),H,I.tok _,⟨_,rfl⟩,q⟩) hz
theorem xJ {x:V}(r:Vals [x] us):∃ u,us=[u]/\RelV x u:=by
 cases r with
 |cons r1 r2=>cases r2;exact ⟨_,rfl,r1⟩
theorem KC {x:V}(r:Vals [x,y] us):∃ u w',us=[u,w']/\RelV x u/\RelV y w':=by
 cases r with
 |cons r1 r2 =>
  cases r2 with
  |cons r3 r4=>cases r4;exact ⟨_,_,rfl,r1,r3⟩
def LenV (K:Fg)(x:V)(H:Hp)(n:Nat):Prop :=
 match x with
 | .str y=>y.length<=sizeLine/\n=y.length
 | .byt y=>y.size<=sizeLine/\n=y.size
 | .ref p=>(∃ xs,SqL K H p xs/\n=xs.length)∨∃ xs,SqT K H p xs/\n=xs.length
 |_=>False
theorem Bu:CallR X (.builtin "len") (λxs H Q=>∃ x n,xs=[x]/\LenV X.K x H n/\Q (.int n) H):=by
 intro pins s σ H xs us Q I r h;obtain ⟨x,n,rfl,e,q⟩:=h;obtain ⟨u,rfl,rx⟩:=xJ r;have hl:=jQ;have hs:sizeLine=16777216:=sizeLine_eq;cases x with
 |str y=>obtain ⟨t,rfl⟩:=rx;obtain ⟨hy,e'⟩:y.length<=sizeLine/\n=y.length:=e;subst e';exact len_str (by omega) ⟨.int _,H,I.tok _,⟨_,rfl⟩,q⟩
 |byt y=>obtain ⟨t,rfl⟩:=rx;obtain ⟨hy,e'⟩:y.size<=sizeLine/\n=y.size:=e;subst e';exact PySem.W.len_bytes (by omega) ⟨.int _,H,I.tok _,⟨_,rfl⟩,q⟩
 |ref p =>
  cases rx;have e':(∃ xs,SqL X.K H p xs/\n=xs.length)∨∃ xs,SqT X.K H p xs/\n=xs.length:=e;rcases e' with ⟨xs,hx,e'⟩|⟨xs,hx,e'⟩
  ·subst e';obtain ⟨its,r',pl,hz⟩:=I.list hx;have hlen:=r'.length;exact Calls.call_len_list pl.isList (by simp only [yY];omega) ⟨.int xs.length,H,I.tok _,⟨_,by simp only [yY];rw [hlen]⟩,q⟩
  ·subst e';obtain ⟨its,r',pl,hz⟩:=I.tuple hx;have hlen:=r'.length;exact len_tuple pl (by simp only [yY];omega) ⟨.int xs.length,H,I.tok _,⟨_,by simp only [yY];rw [hlen]⟩,q⟩
 |_=>exact (show False from e).elim
end
structure ObjM (h:Heap)(x dx C:Addr)(mA:Str->Option Value):Prop where
 obj:h.get? x=some (PySem.W.instObj C dx)
 ns:h.Ns1 dx mA
 ne:dx≠x
theorem CV (n:h.Ns1 dx mA):∃ od,h.get? dx=some od/\∀ name,PySem.W.lookIn name od=some (mA name):=by
 obtain ⟨o,es,ep,ho,hd,hk,_,hm⟩:=n;refine ⟨o,ho,λname=>?_⟩;have e:=hm name;unfold nsFind findBy at e;rw [<- Array.find?_toList] at e;unfold PySem.W.lookIn;rw [hd]
 dsimp only
 split
 ·rename_i y q;rw [q] at e;exact congrArg some e
 ·rename_i q;rw [q] at e;have a:es.toList.any (·.refKey)=false:=by rw [List.any_eq_false];intro y hy;obtain ⟨z,t,hkey⟩:=hk y (Array.mem_toList_iff.mp hy);simp [DictEntry.refKey,hkey]
  have a':¬ es.toList.any (·.refKey)=true:=by rw [a];exact yS
  rw [if_neg a'];exact congrArg some e
theorem ObjM.look {x:Addr}(I:ObjM h x dx C mA):∃ od,PySem.W.InstAt h x (PySem.W.instObj C dx) C (some od)/\∀ name,PySem.W.lookIn name od=some (mA name) :=
 let ⟨od,ho,hl⟩:=CV I.ns
 ⟨od,⟨I.obj,rfl,rfl,ho⟩,hl⟩
section
variable {prog:Program}{w:World}{A:Around}{E:Value->Shared->Prop}{s:Shared}{K:Fg}{x dx C f:Addr}{mA:Str->Option Value}{name:Str}{v:Value}
theorem Pr {expr:Bool}(X:K.In s.heap)(I:ObjM s.heap x dx C mA)(hg:PySem.W.plainGet K C name=true)(hh:PySem.W.hasDictIn K C=true)(ha:PySem.W.findIn K (.ref C) name=some none)(hv:mA name=some v)(hv':PySem.W.handedIn v=true)(h:Q v { s with toks:=s.toks+1 }):wpAny (model prog w) A (getAttr (.ref x) name expr) Q E s:=by obtain ⟨od,J,hl⟩:=I.look;exact PySem.W.get_value X J (PySem.W.plainGet_of hg).1 (PySem.W.findObj_own hh ha rfl (by rw [hl,hv])) hv' h
theorem Ps {pl:Sem Bool}{Q:Value×List Value->Shared->Prop}(X:K.In s.heap)(I:ObjM s.heap x dx C mA)(hg:PySem.W.plainGet K C name=true)(hf:PySem.W.findIn K (.ref C) name=some (some (.ref f)))(ht:PySem.W.isFn K (.ref f)=true)(hv:mA name=none)(h:Q (.ref f,[.ref x]) s):wpAny (model prog w) A (getMethod (.ref x) name pl) Q E s:=by obtain ⟨od,J,hl⟩:=I.look;exact PySem.W.method_fn X J (PySem.W.plainGet_of hg).1 (PySem.W.plainGet_of hg).2 hf (beq_iff_eq.mp ht) (by show (PySem.W.lookIn name od).map (·.isSome)=some false;rw [hl,hv];rfl) h
theorem NM {ns:List Str}{Q:Unit->Shared->Prop}(X:K.In s.heap)(I:ObjM s.heap x dx C mA)(hs:PySem.W.findIn K (.ref C) "__setattr__"=some (some (.builtin "object.__setattr__")))(hp:PySem.W.plainOver K C=true)(ht:PySem.W.takerIn K C name=some none)(hh:PySem.W.hasDictIn K C=true)(hw:PySem.Within mA ns)(hsz:ns.length<=sizeLine)(h:∀ h',ObjM h' x dx C (λy=>if y=name then some v else mA y)->Heap.SameBut dx s.heap h'->Q () { s with heap:=h',toks:=s.toks+2 }):wpAny (model prog w) A (setAttr (.ref x) name v) Q E s:=by obtain ⟨od,J,hl⟩:=I.look;refine PySem.W.set_plain X J hs (PySem.W.osa_open (s:={ s with toks:=s.toks+1 }) (r:=none) X J hp ht λb=>?_);obtain ⟨cd,hc,hd'⟩:=PySem.W.any_some hh;have hx:s.heap.get? x=some ⟨.ref C,some dx,.plain,#[]⟩:=I.obj;refine yV (yG (yV (yV (wpAny_loadPart hx (yV (PySem.W.Looks.here (s:={ s with toks:=s.toks+1 }) (PySem.W.looks_clsIn X hc) ?_))))));rw [hd'];refine yG (a:=some dx) (yV (yG (yV ?_)));refine wpAny_nsSet1 (s:={ s with toks:=s.toks+1 }) I.ns λh' hn2 hs2=>?_;obtain ⟨oD,esD,epD,hoD,hdD,hcD⟩:=hn2.count (PySem.Within.cons name v hw);refine yV (wpAny_lookBehind hoD (by rw [hdD];exact pastItsLine_dict (yp hcD (by rw [yA];omega))) ?_);exact yG (h _ ⟨(hs2.2 _ (Ne.symm I.ne)).trans I.obj,hn2,I.ne⟩ hs2)
theorem Da {R:Result->Shared->Prop}{vs:List Value}(X:K.In s.heap)(hm:PySem.W.makesIn K C=true)(hi:PySem.W.findIn K (.ref C) "__init__"=some (some (.ref f)))(hf:PySem.W.typeIn K (.ref f)=some (.type "function"))(h:codeAny (model prog w) (A.under (.builtin "type.__call__" ⟨.ref C::vs,kw⟩)) (.call (.ref f) ⟨.ref (s.heap.objs.size+1)::vs,kw⟩) (PySem.W.InitBack (s.heap.objs.size+1) R) { s with heap:=(s.heap.push PySem.W.emptyDict).push (PySem.W.instObj C s.heap.objs.size) }):codeAny (model prog w) A (.call (.ref C) ⟨vs,kw⟩) R s:=by obtain ⟨hh,g,d,t,os⟩:=s;exact PySem.W.make_core (PySem.W.makes_of X hm) (PySem.W.looks_findIn X hi) (λself=>PySem.W.bind_fn X self hf) (.inl rfl) h
end
def qI (f:Str)(v:V):List (Str×V)->List (Str×V)
 |[]=>[(f,v)]
 |(g,x)::r=>if g=f then (g,v)::r else (g,x)::qI f v r
theorem UG (f g:Str)(v:V):∀ fs:List (Str×V),(qI f v fs).lookup g=if g=f then some v else fs.lookup g
 |[]=>by
  show List.lookup g [(f,v)]=_;by_cases h:g=f
  ·have hb:(g==f)=true:=beq_iff_eq.mpr h;simp only [List.lookup,hb,if_pos h]
  ·have hb:(g==f)=false:=beq_eq_false_iff_ne.mpr h;simp only [List.lookup,hb,if_neg h]
 |(k,x)::r=>by
  have ih:=UG f g v r;rw [show qI f v ((k,x)::r)=(if k=f then (k,v)::r else (k,x)::qI f v r) from rfl];by_cases hk:k=f
  ·rw [if_pos hk];by_cases h:g=k
   ·have hb:(g==k)=true:=beq_iff_eq.mpr h;simp only [List.lookup,hb,if_pos (h.trans hk)]
   ·have hb:(g==k)=false:=beq_eq_false_iff_ne.mpr h;simp only [List.lookup,hb,if_neg (λe:g=f=>h (e.trans hk.symm))]
  ·rw [if_neg hk];by_cases h:g=k
   ·have hb:(g==k)=true:=beq_iff_eq.mpr h;simp only [List.lookup,hb,if_neg (λe:g=f=>hk (h.symm.trans e))]
   ·have hb:(g==k)=false:=beq_eq_false_iff_ne.mpr h;simp only [List.lookup,hb];exact ih
theorem ZG (f:Str)(v:V):∀ fs:List (Str×V),f∈(qI f v fs).map (·.1)/\∀ g,g∈fs.map (·.1)->g∈(qI f v fs).map (·.1)
 |[]=>⟨by simp [qI],λg h=>by simp at h⟩
 |(k,x)::r=>by
  obtain ⟨i1,i2⟩:=ZG f v r;rw [show qI f v ((k,x)::r)=(if k=f then (k,v)::r else (k,x)::qI f v r) from rfl];by_cases hk:k=f
  ·rw [if_pos hk];subst hk;exact ⟨by simp,λg h=>by simpa using h⟩
  ·rw [if_neg hk];refine ⟨?_,λg h=>?_⟩
   ·rw [yO];exact yN _ i1
   ·rw [yO] at h ⊢;rcases yP.mp h with e|e
    ·exact yP.mpr (.inl e)
    ·exact yN _ (i2 g e)
theorem UB (f:Str)(v:V):∀ fs:List (Str×V),(qI f v fs).length<=fs.length+1
 |[]=>by simp [qI]
 |(k,x)::r=>by
  have ih:=UB f v r;rw [show qI f v ((k,x)::r)=(if k=f then (k,v)::r else (k,x)::qI f v r) from rfl];by_cases hk:k=f
  ·rw [if_pos hk,yA,yA];omega
  ·rw [if_neg hk,yA,yA];omega
theorem RelO.some_of {o:Option Value}(r:RelO (some v) o):∃ u,o=some u/\RelV v u:=by
 cases o with
 |none=>exact (show False from r).elim
 |some u=>exact ⟨u,rfl,r⟩
theorem RelO.none_of {o:Option Value}(r:RelO none o):o=none:=by
 cases o with
 |none=>rfl
 |some u=>exact (show False from r).elim
theorem Pw (r:RelV v u):PySem.W.handedIn u=true:=by
 cases v with
 |non=>cases (show u=Value.none from r);rfl
 |bl b=>cases (show u=Value.bool b from r);rfl
 |int i=>obtain ⟨t,e⟩:=(show ∃ t,u=Value.int i t from r);cases e;rfl
 |str x=>obtain ⟨t,e⟩:=(show ∃ t,u=Value.str x t from r);cases e;rfl
 |byt b=>obtain ⟨t,e⟩:=(show ∃ t,u=Value.bytes b t from r);cases e;rfl
 |flt b=>obtain ⟨t,e⟩:=(show ∃ t,u=Value.float b t from r);cases e;rfl
 |ref a=>cases (show u=Value.ref a from r);rfl
 |ty n=>cases (show u=Value.type n from r);rfl
section
variable {P:Program}{w:World}{H H':Hp}{h h':Heap}{a C dx:Addr}{fs fs':List (Str×V)}
theorem jL (hok:HOk P w H h)(e:H a=some (.ins C dx fs)):∃ mA,ObjM h a dx C mA/\(∀ f,RelO (fs.lookup f) (mA f))/\PySem.Within mA (fs.map (·.1))/\fs.length<=1000/\H dx=some (.own a):=by obtain ⟨d,z,ne,ob,mA,n,r,q⟩:=(show ObjOk P w H h a (.ins C dx fs) from hok a _ e);exact ⟨mA,⟨ob,n,ne⟩,r,q,z,d⟩
end
structure Cls (K:Fg)(C:Addr):Prop where
 pg:PySem.W.plainGet K C Str.empty=true
 hd:PySem.W.hasDictIn K C=true
 po:PySem.W.plainOver K C=true
 sa:PySem.W.findIn K (.ref C) "__setattr__"=some (some (.builtin "object.__setattr__"))
theorem Cls.get (c:Cls K C)(f:Str):PySem.W.plainGet K C f=true:=c.pg
def NoAttr (K:Fg)(C:Addr)(f:Str):Prop:=PySem.W.findIn K (.ref C) f=some none
theorem NoAttr.taker {f:Str}(n:NoAttr K C f):PySem.W.takerIn K C f=some none:=by unfold PySem.W.takerIn;rw [show PySem.W.findIn K (.ref C) f=some none from n];rfl
structure wn (K:Fg)(C:Addr)(m:Str)(f:Addr):Prop where
 at_:PySem.W.findIn K (.ref C) m=some (some (.ref f))
 fn:PySem.W.isFn K (.ref f)=true
 kp:PySem.W.keepIn K (.ref f)=true
section
variable {X:Cx}{pins:List (Addr×Obj)}{σ:St}{H:Hp}{s:Shared}{a C dx:Addr}{fs:List (Str×V)}{f:Str}{v:V}{A:Around}{E:Value->Shared->Prop}
theorem Pu {b:Bool}(I:Inv X pins σ H s)(e:H a=some (.ins C dx fs))(c:Cls X.K C)(n:NoAttr X.K C f)(l:fs.lookup f=some v)(h:∀ u s',Inv X pins σ H s'->RelV v u->Q u s'):wpAny (model X.prog X.w) A (getAttr (.ref a) f b) Q E s:=by obtain ⟨mA,O,r,_,_,_⟩:=jL I.hok e;obtain ⟨u,hu,ru⟩:=RelO.some_of (v:=v) (o:=mA f) (by rw [<- l];exact r f);exact Pr I.kIn O (c.get f) c.hd n hu (Pw ru) (h u _ (I.tok _) ru)
theorem Zy {g:Addr}{pl:Sem Bool}{Q:Value×List Value->Shared->Prop}(I:Inv X pins σ H s)(e:H a=some (.ins C dx fs))(c:Cls X.K C)(k:wn X.K C m g)(l:fs.lookup m=none)(h:Q (.ref g,[.ref a]) s):wpAny (model X.prog X.w) A (getMethod (.ref a) m pl) Q E s:=by obtain ⟨mA,O,r,_,_,_⟩:=jL I.hok e;have hn:mA m=none:=RelO.none_of (by rw [<- l];exact r m);exact Ps I.kIn O (c.get m) k.at_ k.fn hn h
theorem NO {Q:Unit->Shared->Prop}(I:Inv X pins σ H s)(e:H a=some (.ins C dx fs))(c:Cls X.K C)(n:NoAttr X.K C f)(hl:fs.length<1000)(ry:RelV y u)(h:∀ s',Inv X pins σ (z5 H a (.ins C dx (qI f y fs))) s'->Q () s'):wpAny (model X.prog X.w) A (setAttr (.ref a) f u) Q E s:=by
 obtain ⟨mA,O,r,wi,_,ho⟩:=jL I.hok e;have hz:(fs.map (·.1)).length<=sizeLine:=by rw [yZ,sizeLine_eq];omega
 refine NM I.kIn O c.sa c.po n.taker c.hd wi hz λh' O' sb=>h _ ?_;have hd:∃ o,h'.get? dx=some o:=let ⟨o,_,_,e',_⟩:=O'.ns;⟨o,e'⟩
 refine I.write (x:=a) (e:=dx) (by rw [e];exact True.intro) (.inr ho) (λb q hb z=>(sb.2 b hb).trans z) hd ?_;refine ⟨by rw [z0 O.ne];exact ho,?_,O.ne,O'.obj,_,O'.ns,λg=>?_,λg hg=>?_⟩
 ·have:=UB f y fs;omega
 ·show RelO ((qI f y fs).lookup g) (if g=f then some u else mA g);rw [UG];by_cases q:g=f
  ·rw [if_pos q,if_pos q];exact ry
  ·rw [if_neg q,if_neg q];exact r g
 ·by_cases q:g=f
  ·rw [q];exact (ZG f y fs).1
  ·refine (ZG f y fs).2 g (wi g λz=>hg ?_);show (if g=f then some u else mA g)=none;rw [if_neg q];exact z
theorem Inv.made (I:Inv X pins σ H s):Inv X pins σ (z5 (z5 H s.heap.objs.size (.own (s.heap.objs.size+1))) (s.heap.objs.size+1) (.ins C s.heap.objs.size [])) { s with heap:=(s.heap.push PySem.W.emptyDict).push (PySem.W.instObj C s.heap.objs.size) }:=by
 have e1:(s.heap.push PySem.W.emptyDict).get? s.heap.objs.size=some PySem.W.emptyDict:=yI s.heap rfl;have e2:((s.heap.push PySem.W.emptyDict).push (PySem.W.instObj C s.heap.objs.size)).get? (s.heap.objs.size+1)=some (PySem.W.instObj C s.heap.objs.size):=by have:=yI (s.heap.push PySem.W.emptyDict) (o:=PySem.W.instObj C s.heap.objs.size) rfl;rwa [uG] at this
 have e3:(s.heap.push PySem.W.emptyDict).Ns s.heap.objs.size (λ_=>none):=⟨PySem.W.emptyDict,#[],_,e1,rfl,(λe he=>absurd he (by simp)),λ_=>rfl⟩;have I1:=I.laid (a:=s.heap.objs.size) (o:= .own (s.heap.objs.size+1)) (h':=s.heap.push PySem.W.emptyDict) (t':=s.toks) (λb u q=>yX _ q) (yU _) ⟨_,e1⟩;refine I1.laid (a:=s.heap.objs.size+1) (o:= .ins C s.heap.objs.size []) (t':=s.toks) (λb u q=>yX _ q) (Nat.le_of_eq (uG _ _)) ?_;have ne:s.heap.objs.size≠s.heap.objs.size+1:=yK (uB _);refine ⟨by rw [z0 ne,v6],yo _,ne,e2,λ_=>none,(Heap.Ns1.of_empty e3).at λo q=>yX _ q,λ_=>True.intro,λy hy=>absurd rfl hy⟩
theorem Bf {prog:Program}{env:Env}{f:Str}{s:Shared}(hb:attributeBase e f env (eval e env)=eval e env)(h:wpAny (model prog w) A (eval e env) (λo s₁=>wpAny (model prog w) A (getAttr o f true) Q E s₁) E s):wpAny (model prog w) A (eval (.Attribute e f pos) env) Q E s :=
 Attribute_any_ h (by rw [arm_eval_Attribute,hb])
end
def tFld (K:Fg)(ta:TE)(f:Str):TE:=λσ H Q=>ta σ H λx H1=>∃ a C dx fs v,x = .ref a/\H1 a=some (.ins C dx fs)/\Cls K C/\NoAttr K C f/\fs.lookup f=some v/\Q v H1
def Qh (K:Fg)(ta tv:TE)(f:Str):TS:=λD σ H=>tv σ H λy H1=>ta σ H1 λx H2=>∃ a C dx fs,x = .ref a/\H2 a=some (.ins C dx fs)/\Cls K C/\NoAttr K C f/\fs.length<1000 /\
 D.nx σ (z5 H2 a (.ins C dx (qI f y fs)))
section
variable {X:Cx}{o e value:Expr}{f:Str}{pos pos' tpos:Pos}{ta tv:TE}
theorem MP (he:PE X e ta)(hb:attributeBase e f X.env (eval e X.env)=eval e X.env):PE X (.Attribute e f pos) (tFld X.K ta f):=by intro pins s σ H Q I h;refine Bf hb (z8 (he pins s σ H _ I h) λu s1 ⟨x,H1,I1,rx,a,C,dx,fs,v,ex,ea,c,n,l,q⟩=>?_);subst ex;obtain rfl:u=Value.ref a:=rx;exact Pu I1 ea c n l λu' s2 I2 ru=>⟨v,H1,I2,ru,q⟩
theorem Lr (ha:PE X o ta)(hv:PE X value tv)(hs:swapsWith value (some (.Attribute o f pos')) pos.line X.env=pure false):PS X (.Assign [.Attribute o f pos'] value pos) (Qh X.K ta tv f):=by intro pins s σ H D I h;refine plainObj_wpAny_Assign_Attribute (z8 (hv pins s σ H _ I h) λu s1 ⟨y,H1,I1,ry,q⟩=>z8 (ha pins s1 σ H1 _ I1 q) λov s2 ⟨x,H2,I2,rx,a,C,dx,fs,ex,ea,c,n,l,q2⟩=>?_) hs;subst ex;obtain rfl:ov=Value.ref a:=rx;exact NO I2 ea c n l ry λs3 I3=>⟨σ,_,I3,q2⟩
theorem Ry {pl:Sem Bool}{apos:Pos}{args:List Expr}(he:PE X e te)(I:Inv X pins σ H s)
  (h:te σ H λx H1=>∃ a C dx fs g,x = .ref a/\H1 a=some (.ins C dx fs)/\Cls X.K C/\wn X.K C m g/\fs.lookup m=none /\
   ∀ s1,Inv X pins σ H1 s1->wpAny (model X.prog X.w) X.A (callWith pos (.ref g) [.ref a] (backTo pos (starEach args X.env)) (backToKw pos (keywordEach [] X.env))) Q X.xe s1)
  (ht:eval (.Call (.Attribute e m apos) args [] pos) X.env=(do
   let ov <- eval e X.env
   standAt apos.atName
   let (f,first) <- holding [ov] (getMethod ov m pl)
   callWith pos f first (backTo pos (starEach args X.env)) (backToKw pos (keywordEach [] X.env)))) :
  wpAny (model X.prog X.w) X.A (eval (.Call (.Attribute e m apos) args [] pos) X.env) Q X.xe s:=by
 refine PySem.W.methodCall_KW (pl:=pl) (z8 (he pins s σ H _ I h) λu s1 ⟨x,H1,I1,rx,a,C,dx,fs,g,ex,ea,c,k,l,q⟩=>?_) ht;subst ex;obtain rfl:u=Value.ref a:=rx;exact Zy I1 ea c k l (q s1 I1)
end
section
variable {X:Cx}{pins:List (Addr×Obj)}{σ:St}{H:Hp}{s:Shared}{A:Around}{E:Value->Shared->Prop}{Q:Value->Shared->Prop}{c:Value}{b:Bool}
inductive qW (K:Fg)(H:Hp):V->Value->Prop where
 |non:qW K H .non (.type "NoneType")
 |bl (x:Bool):qW K H (.bl x) (.type "bool")
 |int (i:Int):qW K H (.int i) (.type "int")
 |str (x:Str):qW K H (.str x) (.type "str")
 |flt (x:UInt64):qW K H (.flt x) (.type "float")
 |lst {a:Addr} {xs:List V} (e:H a=some (.lst xs)):qW K H (.ref a) (.type "list")
 |frz {a:Addr} {o:Obj} {xs:List V} (e:H a=some (.frz o (.lst xs))):qW K H (.ref a) (.type "list")
 |tup {a:Addr} {xs:List V} (e:H a=some (.tup xs)):qW K H (.ref a) (.type "tuple")
 |dK {a:Addr} {kvs:List (x8×V)} (e:H a=some (.dK kvs)):qW K H (.ref a) (.type "dict")
 |dT {a:Addr} {kvs:List (List x8×V)} (e:H a=some (.dT kvs)):qW K H (.ref a) (.type "dict")
 |ins {a C dx:Addr} {fs:List (Str×V)} (e:H a=some (.ins C dx fs)) (cl:Cls K C) (ha:PySem.W.findIn K (.ref C) "__class__"=some (some (.builtin "object.__class__")))
   (hn:PySem.W.specialIn K (.builtin "object.__class__") "__get__"=some (some (.builtin "getset_descriptor.__get__"))) (htk:PySem.W.takesIn K (.builtin "object.__class__")=some true)
   (hm:PySem.W.mroIn K C (.type "object")=some true):qW K H (.ref a) (.ref C)
theorem Cm {x:V}{t:Value}(I:Inv X pins σ H s)(rx:RelV x u)(ty:qW X.K H x t)(e:PySem.W.kitOne X.K t c=some b)(h:∀ tk,Q (.bool b) { s with toks:=tk }):wpAny (model X.prog X.w) A (call (.builtin "isinstance") [u,c]) Q E s:=by
 cases ty with
 |non=>cases (show u=Value.none from rx);exact PySem.W.kia_one PySem.W.kitx_none I.kIn True.intro e (λz=>nomatch z) h
 |bl y=>cases (show u=Value.bool y from rx);exact PySem.W.kia_one PySem.W.kitx_bool I.kIn True.intro e (λz=>nomatch z) h
 |int i=>obtain ⟨t,q⟩:=(show ∃ t,u=Value.int i t from rx);cases q;exact PySem.W.kia_one PySem.W.kitx_int I.kIn True.intro e (λz=>nomatch z) h
 |str y=>obtain ⟨t,q⟩:=(show ∃ t,u=Value.str y t from rx);cases q;exact PySem.W.kia_one PySem.W.kitx_str I.kIn True.intro e (λz=>nomatch z) h
 |flt y=>obtain ⟨t,q⟩:=(show ∃ t,u=Value.float y t from rx);cases q;exact PySem.W.kia_one PySem.W.kitx_float I.kIn True.intro e (λz=>nomatch z) h
 |@lst a xs ea=>cases (show u=Value.ref a from rx);obtain ⟨_,_,n,_,h1⟩:=(show ObjOk X.prog X.w H s.heap a (.lst xs) from I.hok a _ ea);exact PySem.W.kia_one PySem.W.kitx_list I.kIn ⟨_,h1,rfl⟩ e (λz=>nomatch z) h
 |@frz a ob xs ea=>cases (show u=Value.ref a from rx);obtain ⟨_,_,_,n,_,h1⟩:=(show ObjOk X.prog X.w H s.heap a (.frz ob (.lst xs)) from I.hok a _ ea);exact PySem.W.kia_one PySem.W.kitx_list I.kIn ⟨_,h1,rfl⟩ e (λz=>nomatch z) h
 |@tup a xs ea=>cases (show u=Value.ref a from rx);obtain ⟨_,_,_,p⟩:=(show ObjOk X.prog X.w H s.heap a (.tup xs) from I.hok a _ ea);obtain ⟨o,h1,h2,_⟩:=p;exact PySem.W.kia_one PySem.W.kitx_tuple I.kIn ⟨o,h1,h2⟩ e (λz=>nomatch z) h
 |@dK a kvs ea=>cases (show u=Value.ref a from rx);obtain ⟨_,_,vs,_,p⟩:=(show ObjOk X.prog X.w H s.heap a (.dK kvs) from I.hok a _ ea);obtain ⟨o,es,ep,h1,h2,_⟩:=p;exact PySem.W.kia_one PySem.W.kitx_dict I.kIn ⟨o,h1,h2.1⟩ e (λz=>nomatch z) h
 |@dT a kvs ea=>cases (show u=Value.ref a from rx);obtain ⟨_,_,xs,_,o,es,ep,h1,h2,_⟩:=(show ObjOk X.prog X.w H s.heap a (.dT kvs) from I.hok a _ ea);exact PySem.W.kia_one PySem.W.kitx_dict I.kIn ⟨o,h1,h2.1⟩ e (λz=>nomatch z) h
 |@ins a C dx fs ea cl ha hn htk hm=>cases (show u=Value.ref a from rx);obtain ⟨mA,O,_⟩:=jL I.hok ea;obtain ⟨od,J,_⟩:=O.look;exact PySem.W.kia_one (PySem.W.kitx_own (cl.get _) cl.hd ha hn htk hm) I.kIn J e (λz=>nomatch z) h
end
structure Room (k:Nat)(A:Around):Prop where
 hd:A.handled=none
 dp:A.depth+3*k+5<recursionLimit
 un:A.units+16*k+200<cLine
theorem Room.mono {k:Nat}(r:Room k A)(h:j<=k):Room j A:=⟨r.hd,by have:=r.dp;omega,by have:=r.un;omega⟩
theorem Room.deeper {k:Nat}(r:Room (k+1) A)(env:Env):Room k (A.deeper env) :=
 ⟨r.hd,by have:=r.dp;show A.depth+1+3*k+5<_;omega,by have:=r.un;show A.units+3+16*k+200<_;omega⟩
theorem Room.in1 {k:Nat}(r:Room (k+1) A):Room k A.in1 :=
 ⟨r.hd,by have:=r.dp;show A.depth+3*k+5<_;omega,by have:=r.un;show A.units+1+16*k+200<_;omega⟩
theorem CZ :(A.under (.builtin "type.__call__" ⟨.ref C::us,kw⟩)).depth=A.depth+1:=by first|rfl|simp [Around.under,Code.weight,Code.isCreation,Code.isGuard,Code.isCaller,Code.frames,Code.isFrame,guardIds]
theorem Db :(A.under (.builtin "type.__call__" ⟨.ref C::us,kw⟩)).units=A.units+1:=by first|rfl|simp [Around.under,Code.cUnits,Code.frames,Code.isFrame]
theorem Room.make {k:Nat}(r:Room (k+1) A)(C:Addr)(us:List Value)(kw:List (Str×Value)):Room k (A.under (.builtin "type.__call__" ⟨.ref C::us,kw⟩)) :=
 ⟨r.hd,by have:=r.dp;rw [CZ];omega,by have:=r.un;rw [Db];omega⟩
theorem Room.depth {k:Nat}(r:Room k A):A.depth<recursionLimit:=by have:=r.dp;omega
theorem Room.units {k:Nat}(r:Room k A):A.units+64<cLine:=by have:=r.un;omega
def o5:TA:=λ_ H Q=>Q [] H
def i7 (ta:TE)(tr:TA):TA:=λσ H Q=>ta σ H λx H1=>tr σ H1 λxs H2=>Q (x::xs) H2
section
variable {X:Cx}{e:Expr}{es:List Expr}{te:TE}{t:TA}{pos:Pos}
theorem u5:PA X [] o5:=λ_ _ _ _ H Q I h=>Calls.spliced_nil ⟨[],H,I,.nil,h⟩
theorem j4 (ha:PE X e te)(hr:PA X es t)(hs:starEach (e::es) X.env=(false,eval e X.env)::starEach es X.env:=by rfl):PA X (e::es) (i7 te t):=by intro pos pins s σ H Q I h;rw [hs];show wpAny _ _ (spliced ((false,eval e X.env)::backTo pos (starEach es X.env))) _ _ s;refine Calls.spliced_cons (z8 (ha pins s σ H _ I h) λu s1 ⟨x,H1,I1,r1,q1⟩=>?_);exact z8 (hr pos pins s1 σ H1 _ I1 q1) λus s2 ⟨xs,H2,I2,r2,q2⟩=>⟨x::xs,H2,I2,.cons r1 r2,q2⟩
def tTup (t:TA):TE:=λσ H Q=>t σ H λxs H1=>xs.length<=sizeLine/\∀ p,H1 p=none->Q (.ref p) (z5 H1 p (.tup xs))
def tLst (t:TA):TE:=λσ H Q=>t σ H λxs H1=>xs.length<=sizeLine/\∀ p,H1 p=none->Q (.ref p) (z5 H1 p (.lst xs))
theorem xq {x1}(h:PA X es t):PE X (.Tuple es x1 pos) (tTup t):=by intro pins s σ H Q I hq;refine wpAny_Tuple_spliced (z8 (h pos pins s σ H _ I hq) λus s1 ⟨xs,H1,I1,r,z,q⟩=>⟨by rw [<- r.length];exact z,?_⟩);have hf:H1 s1.heap.objs.size=none:=I1.hok.fresh (yU _);refine ⟨.ref s1.heap.objs.size,z5 H1 s1.heap.objs.size (.tup xs),I1.laid (t':=s1.toks) (λb u e=>yX _ e) (yU _) ?_,rfl,q _ hf⟩;exact ⟨z,us,r,⟨_,yI _ rfl,rfl,_,rfl⟩⟩
theorem zy (h:PA X es t):PE X (.List es pos) (tLst t):=by intro pins s σ H Q I hq;refine wpAny_List_spliced (z8 (h pos pins s σ H _ I hq) λus s1 ⟨xs,H1,I1,r,z,q⟩=>⟨by rw [<- r.length];exact z,?_⟩);have hf:H1 s1.heap.objs.size=none:=I1.hok.fresh (yU _);refine ⟨.ref s1.heap.objs.size,z5 H1 s1.heap.objs.size (.lst xs),I1.laid (t':=s1.toks) (λb u e=>yX _ e) (yU _) ?_,rfl,q _ hf⟩;exact ⟨z,us,0,r,yI _ rfl⟩
end
abbrev Sp:=List V->Hp->VK->XK->Prop
variable{sp:Sp}
abbrev CXT:=List Env->Hp->Shared->XK->Value->Shared->Prop
variable{CX:CXT}
structure Env0 (P:Program)(w:World)(K:Fg)(mg:Str->Option Value)(base:Heap)(A:Around)(outer:List Env)(s:Shared)(H:Hp):Prop where
 frames:A.frames=some outer
 mod:Mod K mg base
 bs:∀ b o,base.get? b=some o->s.heap.get? b=some o/\H b=none
 bsz:base.objs.size<=s.heap.objs.size
 funs:s.heap.FunFrames base outer
 frf:∀ b∈frs outer,H b=none
 hok:HOk P w H s.heap
 bare:AllBare s.gens
 tbs:∀ p∈TABS,H p.1=some (.tbl p.2.1 p.2.2)
def CE (outer:List Env)(P:Program)(w:World)(H:Hp)(s:Shared)(Q:VK)(u:Value)(s':Shared):Prop :=
 ∃ v H',s'.os=s.os/\AllBare s'.gens/\Un (frs outer) [] H H' s.heap s'.heap/\HOk P w H' s'.heap/\RelV v u/\Q v H'
def CR (CX:CXT)(outer:List Env)(P:Program)(w:World)(H:Hp)(s:Shared)(Q:VK)(E:XK)(r:Result)(s':Shared):Prop :=
 match r with
 | .ok (.ret u)=>CE outer P w H s Q u s'
 | .ok _=>False
 | .error e=>CX outer H s E e s'
structure FnOk (P:Program)(w:World)(K:Fg)(mg:Str->Option Value)(base:Heap)(CX:CXT)(k:Nat)(f:Addr)(fd:FuncData)(ps:List Str)(sp:Sp):Prop where
 len:∀ vs H Q E,sp vs H Q E->vs.length=ps.length
 run:∀(A:Around)(outer:List Env)(s:Shared)(H:Hp)(args:Args)(us:List Value)(vs:List V)(Q:VK)(E:XK),Room k A->Env0 P w K mg base A outer s H->BindsTo s fd args (ps.zip us)->Vals vs us->sp vs H Q E ->
  codeAny (model P w) A (.call (.ref f) args) (CR CX outer P w H s Q E) s
theorem FnOk.imp {base:Heap}{k:Nat}{f:Addr}{sp':Sp}(F:FnOk P w K mg base CX k f fd ps sp)(h:∀ vs H Q E,sp' vs H Q E->sp vs H Q E):FnOk P w K mg base CX k f fd ps sp' :=
 ⟨λvs H Q E q=>F.len vs H Q E (h _ _ _ _ q),λA outer s H args us vs Q E hr he hb hv hs=>F.run A outer s H args us vs Q E hr he hb hv (h _ _ _ _ hs)⟩
theorem Env0.make {base:Heap}(e:Env0 P w K mg base A outer s H)(C:Addr)(us:List Value)(kw:List (Str×Value)):Env0 P w K mg base (A.under (.builtin "type.__call__" ⟨.ref C::us,kw⟩)) outer s H:=⟨by first|exact e.frames|(simpa [Around.under,Code.envs,Code.isFrame,pushEnvs] using e.frames),e.mod,e.bs,e.bsz,e.funs,e.frf,e.hok,e.bare,e.tbs⟩
theorem Env0.in1 {base:Heap}(e:Env0 P w K mg base A outer s H):Env0 P w K mg base A.in1 outer s H:=⟨e.frames,e.mod,e.bs,e.bsz,e.funs,e.frf,e.hok,e.bare,e.tbs⟩
section
variable {X:Cx}{pins:List (Addr×Obj)}{σ:St}{H:Hp}{s s':Shared}
theorem Inv.env0 (I:Inv X pins σ H s):Env0 X.prog X.w X.K X.mg X.base X.A X.stack s H :=
 ⟨I.ok.frames,I.ok.mod,I.bs,yp I.ok.bsz I.sz,I.stack,I.stkFree,I.hok,I.bare,λp hp=>I.base.tbls _ _ _ (I.ok.tbs p hp)⟩
theorem Inv.after {Q:VK}(I:Inv X pins σ H s)(h:CE X.stack X.prog X.w H s Q u s'):EP X pins σ Q u s':=by obtain ⟨v,H',os,bare,un,hok,r,q⟩:=h;obtain ⟨hh,g,d,t,os'⟩:=s';obtain rfl:os'=s.os:=os;exact ⟨v,H',I.call (h':=hh) (g':=g) (d':=d) (t':=t) (ch:=[]) un hok bare (λb z=>absurd z (by simp)),r,q⟩
end
def zC (sp:Sp)(dvs:List V)(E:XK)(t:TA):TE:=λσ H Q=>t σ H λvs H1=>sp (vs++dvs) H1 Q E
def vi (C:Addr)(m:Str)(sp:Sp)(dvs:List V)(E:XK)(ta:TE)(t:TA):TE:=λσ H Q=>ta σ H λx H1=>∃ a dx fs,x = .ref a/\H1 a=some (.ins C dx fs)/\fs.lookup m=none /\
 t σ H1 λvs H2=>sp (x::(vs++dvs)) H2 Q E
def Qm (C:Addr)(sp:Sp)(dvs:List V)(E:XK)(t:TA):TE:=λσ H Q=>t σ H λvs H1=>∀ x dx,H1 x=none->H1 dx=none->dx≠x ->
 sp (.ref x::(vs++dvs)) (z5 (z5 H1 dx (.own x)) x (.ins C dx [])) (λv H2=>v = .non/\Q (.ref x) H2) E
def Binds (K:Fg)(fd:FuncData)(ps:List Str)(ds:List Value):Prop :=
 ∀(s:Shared)(us:List Value),K.In s.heap->(us++ds).length=ps.length->BindsTo s fd ⟨us,[]⟩ (ps.zip (us++ds))
theorem Binds.all (h:∀ us:List Value,us.length=ps.length->bindArgs fd ⟨us,[]⟩=pure (ps.zip us)):Binds K fd ps []:=λs us _ hl=>by
 rw [yk] at hl ⊢;exact .of_eq (h us hl)
def ju (CX:CXT)(X:Cx)(E:XK):Prop:=∀(pins:List (Addr×Obj))(σ:St)(H:Hp)(s:Shared)(e:Value)(s':Shared),Inv X pins σ H s->CX X.stack H s E e s'->X.xe e s'
section
variable {X:Cx}{CX:CXT}{k:Nat}{f C:Addr}{fd:FuncData}{ps:List Str}{sp:Sp}{dvs:List V}{ds:List Value}{E:XK}{x m:Str}{p pos apos:Pos}{e o:Expr}{es:List Expr}{ta:TE}{t:TA}
theorem Jw {Q:VK}(F:FnOk X.prog X.w X.K X.mg X.base CX k f fd ps sp)(hr:Room k X.A)(hb:Binds X.K fd ps ds)(hd:Vals dvs ds)(hx:ju CX X E)(I:Inv X pins σ H s)(r:Vals vs us)(h:sp (vs++dvs) H Q E):wpAny (model X.prog X.w) X.A (call (.ref f) us) (EP X pins σ Q) X.xe s:=by
 have r2:Vals (vs++dvs) (us++ds):=r.append hd;have hl:(us++ds).length=ps.length:=by rw [<- r2.length];exact F.len _ _ _ _ h
 refine wpAny_call (codeAny_mono (F.run X.A X.stack s H ⟨us,[]⟩ (us++ds) (vs++dvs) Q E hr I.env0 (hb s us I.kIn hl) r2 h) λr s' hq=>?_);cases r with
 |error e=>exact hx pins σ H s e s' I hq
 |ok fl =>
  cases fl with
  |ret u=>exact I.after hq
  |next=>exact False.elim hq
  |brk=>exact False.elim hq
  |cont=>exact False.elim hq
theorem ML (F:FnOk X.prog X.w X.K X.mg X.base CX k f fd ps sp)(hr:Room k X.A)(hg:Gl X x)(hm:X.mg x=some (.ref f))(hk:PySem.W.keepIn X.K (.ref f)=true)(hb:Binds X.K fd ps ds)(hd:Vals dvs ds)(hx:ju CX X E)(ha:PA X (e::es) t)(hdb:(x==("__debug__":Str))=false:=by decide)(he:starEach (e::es) X.env=(false,eval e X.env)::starEach es X.env:=by rfl)(hpl:(backTo pos (starEach es X.env)).any (·.1)=false:=by rfl):PE X (.Call (.Name x p) (e::es) [] pos) (zC sp dvs E t):=by intro pins s σ H Q I h;refine wpAny_Call_Name_kw (ZI I hg hm ?_ hdb);refine PySem.W.callWith_K (h₀:=X.base) I.ok.mod.kin hk (z8 (ha pos pins s σ H _ I h) λus s1 ⟨vs,H1,I1,r,q⟩=>⟨I1.kIn,?_⟩) he hpl;exact Jw F hr hb hd hx I1 r q
theorem MR {pl:Sem Bool}(he:PE X o ta)(c:Cls X.K C)(hm:wn X.K C m f)(F:FnOk X.prog X.w X.K X.mg X.base CX k f fd ps sp)(hr:Room k X.A)(hb:Binds X.K fd ps ds)(hd:Vals dvs ds)(hx:ju CX X E)(ha:PA X (e::es) t)
  (hst:starEach (e::es) X.env=(false,eval e X.env)::starEach es X.env:=by rfl) (hpl:(backTo pos (starEach es X.env)).any (·.1)=false:=by rfl)
  (ht:eval (.Call (.Attribute o m apos) (e::es) [] pos) X.env=(do
   let ov <- eval o X.env
   standAt apos.atName
   let (f,first) <- holding [ov] (getMethod ov m pl)
   callWith pos f first (backTo pos (starEach (e::es) X.env)) (backToKw pos (keywordEach [] X.env))):=by rfl) :
  PE X (.Call (.Attribute o m apos) (e::es) [] pos) (vi C m sp dvs E ta t):=by
 intro pins s σ H Q I h;refine PySem.W.methodCall_KW (pl:=pl) (z8 (he pins s σ H _ I h) λu s1 ⟨x,H1,I1,rx,a,dx,fs,ex,ea,l,q⟩=>?_) ht;subst ex;obtain rfl:u=Value.ref a:=rx;refine Zy I1 ea c hm l ?_;refine PySem.W.callWith_K (first:=[.ref a]) (h₀:=X.base) I.ok.mod.kin hm.kp (z8 (ha pos pins s1 σ H1 _ I1 q) λus s2 ⟨vs,H2,I2,r,q2⟩=>⟨I2.kIn,?_⟩) hst hpl;exact Jw (us:= .ref a::us) (vs:= .ref a::vs) F hr hb hd hx I2 (.cons rfl r) q2
theorem MT {pl:Sem Bool}(he:PE X o ta)(c:Cls X.K C)(hm:wn X.K C m f)(F:FnOk X.prog X.w X.K X.mg X.base CX k f fd ps sp)(hr:Room k X.A)(hb:Binds X.K fd ps ds)(hd:Vals dvs ds)(hx:ju CX X E)
  (ht:eval (.Call (.Attribute o m apos) [] [] pos) X.env=(do
   let ov <- eval o X.env
   standAt apos.atName
   let (f,first) <- holding [ov] (getMethod ov m pl)
   callWith pos f first (backTo pos (starEach [] X.env)) (backToKw pos (keywordEach [] X.env))):=by rfl) :
  PE X (.Call (.Attribute o m apos) [] [] pos) (vi C m sp dvs E ta o5):=by
 intro pins s σ H Q I h;refine PySem.W.methodCall_KW (pl:=pl) (z8 (he pins s σ H _ I h) λu s1 ⟨x,H1,I1,rx,a,dx,fs,ex,ea,l,q⟩=>?_) ht;subst ex;obtain rfl:u=Value.ref a:=rx;refine Zy I1 ea c hm l ?_;exact PySem.W.callWith_K0 (first:=[.ref a]) I1.kIn hm.kp (Jw (us:=[.ref a]) (vs:=[.ref a]) F hr hb hd hx I1 (.cons rfl .nil) q)
structure Mk (K:Fg)(C f:Addr):Prop where
 makes:PySem.W.makesIn K C=true
 init:PySem.W.findIn K (.ref C) "__init__"=some (some (.ref f))
 fn:PySem.W.isFn K (.ref f)=true
 kp:PySem.W.keepIn K (.ref C)=true
theorem LV {Q:VK}(M:Mk X.K C f)(F:FnOk X.prog X.w X.K X.mg X.base CX k f fd ps sp)(hr:Room (k+1) X.A)(hb:Binds X.K fd ps ds)(hd:Vals dvs ds)(hx:ju CX X E)(I:Inv X pins σ H s)(r:Vals vs us)(h:∀ x dx,H x=none->H dx=none->dx≠x->sp (.ref x::(vs++dvs)) (z5 (z5 H dx (.own x)) x (.ins C dx [])) (λv H2=>v = .non/\Q (.ref x) H2) E):wpAny (model X.prog X.w) X.A (call (.ref C) us) (EP X pins σ Q) X.xe s:=by
 have hq:=h (s.heap.objs.size+1) s.heap.objs.size (I.hok.fresh (uf _)) (I.hok.fresh (yU _)) (yK (uB _));have I2:=Inv.made (C:=C) I;have r2:Vals (V.ref (s.heap.objs.size+1)::(vs++dvs)) (Value.ref (s.heap.objs.size+1)::(us++ds)):= .cons rfl (r.append hd);have hl:(Value.ref (s.heap.objs.size+1)::us++ds).length=ps.length:=by have e:=r2.length;rw [F.len _ _ _ _ hq] at e;exact e.symm
 refine wpAny_call (Da (f:=f) I.kIn M.makes M.init (beq_iff_eq.mp M.fn) (codeAny_mono (F.run _ X.stack _ _ ⟨Value.ref (s.heap.objs.size+1)::us,[]⟩ (Value.ref (s.heap.objs.size+1)::(us++ds)) _ _ E (hr.make C us [])
  (I2.env0.make C us []) (hb _ (Value.ref (s.heap.objs.size+1)::us) I2.kIn hl) r2 hq) λr s' hq'=>?_))
 cases r with
 |error e=>exact hx pins σ _ _ e s' I2 hq'
 |ok fl =>
  cases fl with
  |ret u=>obtain ⟨v,H',I3,rv,ev,q3⟩:=I2.after hq';subst ev;exact ⟨rv,⟨V.ref (s.heap.objs.size+1),H',I3,rfl,q3⟩⟩
  |next=>exact False.elim hq'
  |brk=>exact False.elim hq'
  |cont=>exact False.elim hq'
theorem MQ (M:Mk X.K C f)(F:FnOk X.prog X.w X.K X.mg X.base CX k f fd ps sp)(hr:Room (k+1) X.A)(hg:Gl X x)(hm:X.mg x=some (.ref C))(hb:Binds X.K fd ps ds)(hd:Vals dvs ds)(hx:ju CX X E)(ha:PA X (e::es) t)(hdb:(x==("__debug__":Str))=false:=by decide)(he:starEach (e::es) X.env=(false,eval e X.env)::starEach es X.env:=by rfl)(hpl:(backTo pos (starEach es X.env)).any (·.1)=false:=by rfl):PE X (.Call (.Name x p) (e::es) [] pos) (Qm C sp dvs E t):=by intro pins s σ H Q I h;refine wpAny_Call_Name_kw (ZI I hg hm ?_ hdb);refine PySem.W.callWith_K (h₀:=X.base) I.ok.mod.kin M.kp (z8 (ha pos pins s σ H _ I h) λus s1 ⟨vs,H1,I1,r,q⟩=>⟨I1.kIn,?_⟩) he hpl;exact LV M F hr hb hd hx I1 r q
end
structure v8 (N P:List Str)(sc:Scope):Prop where
 kind:sc.kind = .function
 co:sc.isCoroutine=false
 gen:sc.isGenerator=false
 nd:N.Nodup
 pre:N.take P.length=P
 par:∀ x∈P,sc.names.lookup x=some .local∨sc.names.lookup x=some .cell
 nofree:∀ y∈sc.names,y.2 ≠ .free
theorem Yk {kindOf:Str->Option NameKind}{x:Str}:∀{binds:List (Str×Value)}{m:Str->Option Value},(∀ v,(x,v)∉binds)->bindL kindOf binds m x=m x
 |[],_,_=>rfl
 |(n,v)::r,m,h=>by
  unfold bindL;rw [Yk λw hw=>h w (yN _ hw)];split
  ·have:x≠n:=by rintro rfl;exact h v yQ
   simp [this]
  ·rfl
theorem Yi {kindOf:Str->Option NameKind}{x:Str}:∀{binds:List (Str×Value)}{m:Str->Option Value},(∀ v,(x,v)∉binds)->bindC kindOf binds m x=m x
 |[],_,_=>rfl
 |(n,v)::r,m,h=>by
  unfold bindC;rw [Yi λw hw=>h w (yN _ hw)];split
  ·rfl
  ·have:x≠n:=by rintro rfl;exact h v yQ
   simp [this]
theorem Yj {kindOf:Str->Option NameKind}{x:Str}{v:Value}:∀{P:List Str}{vs:List Value}{i:Nat}{m:Str->Option Value},P.Nodup->P[i]?=some x->vs[i]?=some v->kindOf x=some .local -> bindL kindOf (P.zip vs) m x=some v
 |[],_,_,_,_,h,_,_=>by simp at h
 |_::_,[],_,_,_,_,h,_=>by simp at h
 |p::P,w::vs,0,m,nd,h1,h2,hk=>by
  simp at h1 h2;subst h1;subst h2;show bindL kindOf ((p,w)::P.zip vs) m p=_;unfold bindL;rw [Yk λv hv=>(yx.mp nd).1 (ui hv).1,if_pos hk];simp
 |p::P,w::vs,i+1,m,nd,h1,h2,hk=>by
  show bindL kindOf ((p,w)::P.zip vs) m x=_;unfold bindL;exact Yj (i:=i) (yx.mp nd).2 (by simpa using h1) (by simpa using h2) hk
theorem Yh {kindOf:Str->Option NameKind}{x:Str}{v:Value}:∀{P:List Str}{vs:List Value}{i:Nat}{m:Str->Option Value},P.Nodup->P[i]?=some x->vs[i]?=some v->kindOf x≠some .local -> bindC kindOf (P.zip vs) m x=some v
 |[],_,_,_,_,h,_,_=>by simp at h
 |_::_,[],_,_,_,_,h,_=>by simp at h
 |p::P,w::vs,0,m,nd,h1,h2,hk=>by
  simp at h1 h2;subst h1;subst h2;show bindC kindOf ((p,w)::P.zip vs) m p=_;unfold bindC;rw [Yi λv hv=>(yx.mp nd).1 (ui hv).1,if_neg hk];simp
 |p::P,w::vs,i+1,m,nd,h1,h2,hk=>by
  show bindC kindOf ((p,w)::P.zip vs) m x=_;unfold bindC;exact Yh (i:=i) (yx.mp nd).2 (by simpa using h1) (by simpa using h2) hk
def start (N:List Str)(vs:List V):St:=vs.map some++List.replicate (N.length-vs.length) none
def qR (CX:CXT)(P:Program)(w:World)(K:Fg)(mg:Str->Option Value)(base:Heap)(N:List Str)(qual:Str)(scope:Scope)(f:Addr)(cd:Value)(A:Around)(outer:List Env)(s:Shared)(H:Hp)(E:XK):Cx where
 prog:=P
 w:=w
 K:=K
 mg:=mg
 base:=base
 A:=A.deeper (envOfC qual scope s.heap.objs.size f cd)
 N:=N
 s₀:=s
 H₀:=H
 env:=envOfC qual scope s.heap.objs.size f cd
 outer:=outer
 stack:=envOfC qual scope s.heap.objs.size f cd::outer
 ex:=[]
 calm:=true
 fn:=λ_=>true
 pn:=[]
 xe:=λe s'=>wpAny (model P w) (A.deeper (envOfC qual scope s.heap.objs.size f cd)) (leaving (envOfC qual scope s.heap.objs.size f cd) e) (λ_ s''=>CX outer H s E e s'') (λe' s''=>CX outer H s E e' s'') s'
theorem Yw {sc:Scope}(h:sc.names.lookup x=some .cell):∃ c,(cellsFrom n sc.names []).lookup x=some c:=by have q:=PySem.W.cellsFrom_some sc.names n [] (.inl h);exact Option.isSome_iff_exists.mp q
theorem Cd {base:Heap}{f:Addr}{cd:Value}{s1:Shared}{E:XK}(S:v8 N ps scope)(hd:A.handled=none)(e0:Env0 P w K mg base A outer s H)(hl:vs.length=ps.length)(r:Vals vs us)(x:InCallC s s.heap.objs.size (bindL (envOfC qual scope s.heap.objs.size f cd).kindOf (ps.zip us) λ_=>none) (cellsFrom (s.heap.objs.size+1) scope.names []) (bindC (envOfC qual scope s.heap.objs.size f cd).kindOf (ps.zip us) λ_=>none) s1):Inv (qR CX P w K mg base N qual scope f cd A outer s H E) [] (start N vs) H s1:=by
 have hpl:ps.length<=N.length:=by have:=congrArg List.length S.pre;rw [uI] at this;omega
 obtain ⟨h1,tk,rfl,hk⟩:=x.done;have noA:∀ b:Addr,b∉(qR CX P w K mg base N qual scope f cd A outer s H E).ex:=λb z=>absurd (show b∈([]:List Addr) from z) (by simp);refine ⟨⟨e0.mod,S.kind,rfl,rfl,yU _,λy z c h1 h2=>?_,λy hy=>?_,λy c _ h=>?_,λ_=>hd,Around.frames_deeper e0.frames,.inr ⟨rfl,rfl⟩,λb z=>absurd z (noA b),e0.bs,e0.bsz,λb _ _=>noA b,λb z=>absurd z (noA b),e0.funs,e0.frf,e0.tbs⟩,
  rfl,e0.bare,Un.kept hk,⟨_,x.toInCall.ns,λi y v h1 h2 h3=>?_⟩,λy c h=>⟨_,x.cell y c h⟩,e0.hok.fresh (yU _),λy c h=>?_,λp hp=>absurd (show p∈([]:List (Addr×Obj)) from hp) (by simp),e0.hok.kept hk,?_⟩
 ·exact name_of_addr x.apart (PySem.mem_of_lookup h1) (PySem.mem_of_lookup h2)
 ·have hy:scope.names.lookup y=some .cell∨scope.names.lookup y=some .free:=hy;rcases hy with hy|hy
  ·exact Yw hy
  ·exact absurd rfl (S.nofree _ (PySem.mem_of_lookup hy))
 ·exact uS (x.above y c (PySem.mem_of_lookup h))
 ·have hi:i<vs.length:=by
   unfold start at h2;by_cases hi:i<vs.length
   ·exact hi
   ·rw [yc (by simpa using hi)] at h2;rw [um] at h2;split at h2<;>cases h2
  have ha:vs[i]?=some v:=by
   unfold start at h2;rw [yg (by simpa using hi),yM] at h2;cases e:vs[i]? with
   |none=>rw [e] at h2;cases h2
   |some a=>rw [e] at h2;cases h2;rfl
  obtain ⟨u,hu,rv⟩:=r.get ha;have hp:ps[i]?=some y:=by rw [<- S.pre,List.getElem?_take_of_lt (by omega)];exact h1
  have ndP:ps.Nodup:=by rw [<- S.pre];exact S.nd.sublist (List.take_sublist _ _)
  refine ⟨u,rv,?_⟩;rcases S.par y (ym hp) with k|k
  ·exact .inl ⟨k,Yj ndP hp hu k⟩
  ·obtain ⟨c,e⟩:=Yw (n:=s.heap.objs.size+1) k;refine .inr ⟨.inl k,c,e,?_⟩;have q:=x.cell y c e;rw [Yh ndP hp hu (by show scope.names.lookup y≠_;rw [k];decide)] at q;exact q
 ·exact e0.hok.fresh (uS (x.above y c (PySem.mem_of_lookup h)))
 ·unfold start;show _=N.length;rw [yJ,yZ,ud];omega
theorem Zv {base:Heap}{k:Nat}{f:Addr}{name:Str}{params:Arguments}{dV kV doc pm cdv ct oc:Value}{an od:Option Addr}{osl:Array (Option Value)}(lk:K.lookup f=some ⟨oc,od,.func (PySem.W.fnOf name qual params body scope dV kV doc pm an cdv ct),osl⟩)(hcd:PySem.W.codeIn K cdv qual=true)(S:v8 N ps scope)(len:∀ vs H Q E,sp vs H Q E->vs.length=ps.length)(hbody:∀(A:Around)(outer:List Env)(s:Shared)(H:Hp)(vs:List V)(Q:VK)(E:XK),Room k (A.deeper (envOfC qual scope s.heap.objs.size f cdv))->sp vs H Q E -> ∃ t,PSs (qR CX P w K mg base N qual scope f cdv A outer s H E) body t/\t { nx:=λ_ H'=>Q .non H',rt:=Q } (start N vs) H):FnOk P w K mg base CX (k+1) f (PySem.W.fnOf name qual params body scope dV kV doc pm an cdv ct) ps sp:=by
 refine ⟨len,λA outer s H args us vs Q E hr e0 hb r hsp=>?_⟩;have hl:=len _ _ _ _ hsp;have KX:K.In s.heap:=e0.mod.kin.keeps λb o e=>(e0.bs b o e).1;have lim:s.heap.NoLimit:=e0.mod.nolimit.keeps λb o e=>(e0.bs b o e).1;have hkind:∀ y∈ps.zip us,scope.names.lookup y.1=some .local∨(scope.names.lookup y.1=some .cell/\((cellsFrom (s.heap.objs.size+1) scope.names []).lookup y.1).isSome=true):=λ⟨n,v⟩ hy=>by
  rcases S.par n (ui hy).1 with q|q
  ·exact .inl q
  ·exact .inr ⟨q,PySem.W.cellsFrom_some _ _ _ (.inl q)⟩
 refine codeAny_call_function hr.depth (KX _ _ lk) rfl S.co S.gen rfl (PySem.W.codeRec_of KX hcd) (hb _ _ _ _ ?_);refine wpAny_newFunctionEnv_cells S.kind hkind λenv he s1 x=>?_;subst he;refine ⟨lim.keeps x.toInCall.keep,codeAny_func ?_⟩;obtain ⟨t,ht,hq⟩:=hbody A outer s H vs Q E (hr.deeper _) hsp;have I:Inv (qR CX P w K mg base N qual scope f cdv A outer s H E) [] (start N vs) H s1:=Cd S hr.hd e0 hl r x;refine wpAny_mono (ht [] s1 (start N vs) H _ I hq) (λfl s' hs=>?_) λe s' hs=>hs;have fin:∀{σ':St}{H':Hp}{v:V}{u:Value},Inv (qR CX P w K mg base N qual scope f cdv A outer s H E) [] σ' H' s'->RelV v u->Q v H'->CE outer P w H s Q u s' :=
  λ{σ' H' v u} J rv q=>⟨v,H',J.os,J.bare,J.base,J.hok,rv,q⟩
 cases fl with
 |ret u=>obtain ⟨v,σ',H',J,rv,q⟩:=hs;exact fin J rv q
 |next=>obtain ⟨σ',H',J,q⟩:=hs;exact fin (v:=V.non) (u:=Value.none) J rfl q
 |brk=>obtain ⟨_,_,_,q⟩:=hs;exact False.elim q
 |cont=>obtain ⟨_,_,_,q⟩:=hs;exact False.elim q
section
variable {X:Cx}{x:Str}{p pos:Pos}{e:Expr}{es:List Expr}{t:TA}{id T:String}{r:List V->Hp->VK->Prop}
def tCB (r:List V->Hp->VK->Prop)(t:TA):TE:=λσ H Q=>t σ H λvs H1=>r vs H1 Q
theorem g9 (hc:CallR X (.builtin id) r)(hg:Gl X x)(hm:X.mg x=none)(hv:bootBuiltins x=some (.builtin id))(ha:PA X (e::es) t)(hn:x ≠ "__name__":=by decide)(hdb:(x==("__debug__":Str))=false:=by decide)(he:starEach (e::es) X.env=(false,eval e X.env)::starEach es X.env:=by rfl)(hpl:(backTo pos (starEach es X.env)).any (·.1)=false:=by rfl):PE X (.Call (.Name x p) (e::es) [] pos) (tCB r t):=by intro pins s σ H Q I h;refine wpAny_Call_Name_kw (zM I hg hm hv ?_ hn hdb);exact PyProof.Rows.callWith_builtin1 (z8 (ha pos pins s σ H _ I h) λus s1 ⟨vs,H1,I1,r1,q1⟩=>hc pins s1 σ H1 vs us Q I1 r1 q1) he hpl
theorem jY (hc:CallR X (.type T) r)(hg:Gl X x)(hm:X.mg x=none)(hv:bootBuiltins x=some (.type T))(ha:PA X (e::es) t)(hn:x ≠ "__name__":=by decide)(hdb:(x==("__debug__":Str))=false:=by decide)(he:starEach (e::es) X.env=(false,eval e X.env)::starEach es X.env:=by rfl)(hpl:(backTo pos (starEach es X.env)).any (·.1)=false:=by rfl):PE X (.Call (.Name x p) (e::es) [] pos) (tCB r t):=by intro pins s σ H Q I h;refine wpAny_Call_Name_kw (zM I hg hm hv ?_ hn hdb);exact PyProof.Rows.callWith_type1 (z8 (ha pos pins s σ H _ I h) λus s1 ⟨vs,H1,I1,r1,q1⟩=>hc pins s1 σ H1 vs us Q I1 r1 q1) he hpl
end
end L2
namespace HT
open PySem PyProof.Rows
section
variable {prog:Program}{w:World}{A:Around}{E:Value->Shared->Prop}{s:Shared}
theorem cat_tup {t b:Addr}{vs ws:List Value}{Q:Value->Shared->Prop}(ht:IsTup s.heap t vs.toArray)(hb:IsTup s.heap b ws.toArray)(hv:vs≠[])(h1:ws=[]->Q (.ref t) s)(h2:ws≠[]->Q (.ref s.heap.objs.size) { s with heap:=s.heap.push { cls:= .type "tuple",data:= .seq (vs++ws).toArray } })(hsz:vs.length+ws.length<=sizeLine):wpAny (model prog w) A (binaryOp .Add (.ref t) (.ref b)) Q E s:=by
 obtain ⟨⟨cls,dd,data,sl⟩,ho,hc,n,hd⟩:=id ht;obtain ⟨⟨cls2,dd2,data2,sl2⟩,ho2,hc2,n2,hd2⟩:=id hb;simp only at hc hd hc2 hd2;subst hc hd hc2 hd2;have e:vs.toArray++ws.toArray=(vs++ws).toArray:=by simp
 by_cases hw:ws=[]
 ·exact concat_meets ⟨_,ho,rfl⟩ ⟨_,ho2,rfl⟩ noFill_tuple_add seq_tuple_add PySem.F.slot_tuple_add PySem.F.entry_tuple_add (PySem.F.args_tuple_add_2 _ _)
   (tuple_addW1 t b vs.toArray ws.toArray n n2 dd dd2 sl sl2 (by simpa using hv) (by simp [hw])) ⟨ho,ho2,h1 hw⟩
 ·refine concat_meets ⟨_,ho,rfl⟩ ⟨_,ho2,rfl⟩ noFill_tuple_add seq_tuple_add PySem.F.slot_tuple_add PySem.F.entry_tuple_add (PySem.F.args_tuple_add_2 _ _)
   (tuple_addW2 t b vs.toArray ws.toArray n n2 dd dd2 sl sl2 (by simpa using hv) (by simpa using hw) (by rw [yY,yY];exact hsz)) ⟨ho,ho2,?_⟩
  rw [e];exact h2 hw
def sIx (n d:Nat):Option Int->Nat
 |none=>d
 |some v=>if v<0 then (v+(n:Int)).toNat else min v.toNat n
theorem sIx_none (n d:Nat):sIx n d none=d:=rfl
theorem sIx_nat (n d k:Nat):sIx n d (some (k:Int))=min k n:=by show (if (k:Int)<0 then ((k:Int)+(n:Int)).toNat else min (k:Int).toNat n)=min k n;rw [if_neg (by omega),ue]
end
end HT
namespace L2
open PySem PySem.Spec PyProof.Rows
variable{r:R2}{xs:List (List x8×Addr×Value)}{j n t':Nat}{α:Type}{pins:List (Addr×Obj)}{σ:St}{H H':Hp}{s:Shared}{its its':List Value}{A:Around}{x y:V}{u v:Value}{T:String}{o:Option V}{P:Program}{w:World}{kvs:List (List x8×V)}{a:Addr}{Q:Value->Shared->Prop}{h':Heap}{pos:Pos}{X:Cx}{trs:List (TE×TE)}
abbrev TO:=St->Hp->(Option Int->Hp->Prop)->Prop
def PO (X:Cx)(e:Option Expr)(t:TO):Prop :=
 ∀(pins:List (Addr×Obj))(s:Shared)(σ:St)(H:Hp)(Q:Option Int->Hp->Prop),Inv X pins σ H s->t σ H Q ->
  wpAny (model X.prog X.w) X.A (evalPart e X.env) (λu s'=>∃ o H',Inv X pins σ H' s'/\IsPart u o/\Q o H') X.xe s
def Kk:TO:=λ_ H Q=>Q none H
def Km (t:TE):TO:=λσ H Q=>t σ H λx H1=>∃ i,x = .int i/\Q (some i) H1
section
variable {X:Cx}{e:Expr}{te:TE}{lo hi:Option Expr}{tl th:TO}{pos p2:Pos}
theorem Li:PO X none Kk:=by intro pins s σ H Q I h;rw [evalPart_none];exact yG ⟨none,H,I,.none,h⟩
theorem Lj (h:PE X e te):PO X (some e) (Km te):=by intro pins s σ H Q I hw;rw [evalPart_some];refine z8 (h pins s σ H _ I hw) λu s1 ⟨x,H1,I1,r1,q1⟩=>?_;obtain ⟨i,rfl,q⟩:=q1;obtain ⟨t,rfl⟩:=r1;exact ⟨some i,H1,I1,.int i t,q⟩
def SlR (X:Cx)(r:V->Option Int->Option Int->Hp->VK->Prop):Prop :=
 ∀(pins:List (Addr×Obj))(s:Shared)(σ:St)(H:Hp)(x:V)(v vl vu:Value)(lo hi:Option Int)(sl:Addr)(Q:VK),Inv X pins σ H s->RelV x v->s.heap.IsSliceOf sl vl vu .none->IsPart vl lo->IsPart vu hi->r x lo hi H Q ->
  ∃ T id,typeLookup (.type T) "__getitem__"=pure (some (.builtin id))/\s.TypeIs v T/\wpAny (model X.prog X.w) X.A (getItem v (.ref sl)) (EP X pins σ Q) X.xe s
def tSl (r:V->Option Int->Option Int->Hp->VK->Prop)(te:TE)(tl th:TO):TE:=λσ H Q=>te σ H λx H1=>tl σ H1 λl H2=>th σ H2 λu H3=>r x l u H3 Q
theorem MV {r:V->Option Int->Option Int->Hp->VK->Prop}(hr:SlR X r)(he:PE X e te)(hl:PO X lo tl)(hu:PO X hi th):PE X (.Subscript e (.Slice lo hi none p2) pos) (tSl r te tl th):=by intro pins s σ H Q I h;refine Subscript_ (z8 (he pins s σ H _ I h) λv s1 ⟨x,H1,I1,r1,q1⟩=>?_);refine wpAny_Slice (z8 (hl pins s1 σ H1 _ I1 q1) λvl s2 ⟨l,H2,I2,pl,q2⟩=>z8 (hu pins s2 σ H2 _ I2 q2) λvu s3 ⟨u,H3,I3,pu,q3⟩=>?_);rw [evalPart_none];refine yG ?_;have I4:Inv X pins σ H3 { s3 with heap:=s3.heap.push { cls:= .type "slice",data:= .fields #[vl,vu,.none] } }:=I3.kept (t':=s3.toks) λb ob q=>yX _ q;obtain ⟨T,id,hT,ht,hg⟩:=hr pins { s3 with heap:=s3.heap.push { cls:= .type "slice",data:= .fields #[vl,vu,.none] } } σ H3 x v vl vu l u s3.heap.objs.size Q I4 r1 (Heap.IsSliceOf.new ..) pl pu q3;show wpAny (model X.prog X.w) X.A (subscriptTail e (.Slice lo hi none p2) v (.ref s3.heap.objs.size)) (EP X pins σ Q) X.xe { s3 with heap:=s3.heap.push { cls:= .type "slice",data:= .fields #[vl,vu,.none] } };exact tail_any (ops:=[.ref s3.heap.objs.size,v]) ht hT hg (by with_unfolding_all rfl)
def vA (xs:List V)(lo hi:Option Int):List V:=(xs.drop (HT.sIx xs.length 0 lo)).take (HT.sIx xs.length xs.length hi-HT.sIx xs.length 0 lo)
theorem BL (xs:List V)(lo hi:Option Int):(vA xs lo hi).length<=xs.length:=by unfold vA;rw [uI,ut];omega
def Gx (K:Fg):R2:=λx y H Q=>∃ a b xs ys,x = .ref a/\y = .ref b/\SqT K H a xs/\SqT K H b ys/\xs≠[]/\xs.length+ys.length<=sizeLine /\
 (ys=[]->Q (.ref a) H)/\(ys≠[]->∀ p,H p=none->Q (.ref p) (z5 H p (.tup (xs++ys))))
theorem Vals.nil_iff {xs:List V}{us:List Value}(r:Vals xs us):us=[]↔xs=[]:=by
 cases r with
 |nil=>simp
 |cons _ _=>simp
theorem Mu:OpR X (binaryOp .Add) (Gx X.K):=by intro pins s σ H x y v u Q I rx ry h;obtain ⟨a,b,xs,ys,rfl,rfl,ha,hb,hx,hz,q1,q2⟩:=h;cases rx;cases ry;obtain ⟨its,r1,p1,_⟩:=I.tuple ha;obtain ⟨its2,r2,p2,_⟩:=I.tuple hb;refine HT.cat_tup p1 p2 (λz=>hx (r1.nil_iff.mp z)) (λz=>⟨.ref a,H,I,rfl,q1 (r2.nil_iff.mp z)⟩) (λz=>?_) (by rw [<- r1.length,<- r2.length];exact hz);refine ⟨.ref s.heap.objs.size,_,I.laid (t':=s.toks) (o:= .tup (xs++ys)) (λb ob q=>yX _ q) (yU _) ?_,rfl,q2 (λw=>z (r2.nil_iff.mpr w)) _ (I.hok.fresh (yU _))⟩;exact ⟨by rw [yJ];exact hz,_,r1.append r2,IsTup.new _ _⟩
end
def ixN (n:Nat)(i:Int):Option Nat:=if 0<=i then (if i<n then some i.toNat else none) else if -(n:Int)<=i then some (i+n).toNat else none
def atI {α:Type}(xs:List α)(i:Int):Option α:=(ixN xs.length i).bind λj=>xs[j]?
theorem Ut {i:Int}(h:ixN n i=some j):seqIndex? i n=some j/\j<n/\-(n:Int)<=i/\i<n:=by
 unfold ixN at h;by_cases h0:0<=i
 ·rw [if_pos h0] at h;by_cases h1:i<n
  ·rw [if_pos h1] at h;have e:i.toNat=j:=Option.some.inj h;exact ⟨by rw [seqIndex_of h0 h1,e],by omega,by omega,h1⟩
  ·rw [if_neg h1] at h;cases h
 ·rw [if_neg h0] at h;by_cases h1:-(n:Int)<=i
  ·rw [if_pos h1] at h;have e:(i+n).toNat=j:=Option.some.inj h;exact ⟨by rw [seqIndex_neg (by omega) h1,e],by omega,h1,by omega⟩
  ·rw [if_neg h1] at h;cases h
theorem XY {xs:List α}{i:Int}{v:α}(h:atI xs i=some v):∃ j,seqIndex? i xs.length=some j/\xs[j]?=some v/\j<xs.length/\-(xs.length:Int)<=i/\i<xs.length:=by
 unfold atI at h;cases e:ixN xs.length i with
 |none=>rw [e] at h;cases h
 |some j=>rw [e] at h;obtain ⟨h1,h2,h3,h4⟩:=Ut e;exact ⟨j,h1,h,h2,h3,h4⟩
theorem xN {xs:List α}{v:α}(h:xs[j]?=some v):atI xs (j:Int)=some v:=by
 have hj:j<xs.length:=(yz.mp h).1;have e:ixN xs.length (j:Int)=some j:=by unfold ixN;rw [if_pos (by omega),if_pos (by omega)];simp
 unfold atI;rw [e];exact h
def VY (b:Expr):Prop:=∀ o i,subscripted b false o i=operate [o,i] (getItem o i)
def IxR (X:Cx)(r:R2):Prop :=
 ∀(value slice:Expr)(pins:List (Addr×Obj))(s:Shared)(σ:St)(H:Hp)(x y:V)(v u:Value)(Q:VK),Inv X pins σ H s->RelV x v->RelV y u->r x y H Q ->
  subscripted slice false v u=operate [v,u] (getItem v u)->wpAny (model X.prog X.w) X.A (subscriptTail value slice v u) (EP X pins σ Q) X.xe s
def MtR (X:Cx)(id:String)(r:V->List V->Hp->VK->Prop):Prop :=
 ∀(pins:List (Addr×Obj))(s:Shared)(σ:St)(H:Hp)(x:V)(xs:List V)(v:Value)(us:List Value)(Q:VK),Inv X pins σ H s->RelV x v->Vals xs us->r x xs H Q ->
  wpAny (model X.prog X.w) X.A (call (.builtin id) (v::us)) (EP X pins σ Q) X.xe s
section
variable {X:Cx}{a b:Expr}{ta tb:TE}{pos:Pos}
theorem IxR.or {r':R2}(h:IxR X r)(h':IxR X r'):IxR X (λx y H Q=>r x y H Q∨r' x y H Q):=by
 intro value slice pins s σ H x y v u Q I rx ry q hs;rcases q with q|q
 ·exact h value slice pins s σ H x y v u Q I rx ry q hs
 ·exact h' value slice pins s σ H x y v u Q I rx ry q hs
theorem Xu (hr:IxR X r)(ha:PE X a ta)(hb:PE X b tb)(hs:VY b):PE X (.Subscript a b pos) (tOp r ta tb):=by intro pins s σ H Q I h;exact Subscript_ (binT ha hb I h λv u s2 x y H2 I2 rx ry q=>hr a b pins s2 σ H2 x y v u Q I2 rx ry q (hs _ _))
def rIxL (K:Fg):R2:=λx y H Q=>∃ p xs i v,x = .ref p/\y = .int i/\SqL K H p xs/\atI xs i=some v/\Q v H
def rIxT (K:Fg):R2:=λx y H Q=>∃ p xs i v,x = .ref p/\y = .int i/\SqT K H p xs/\atI xs i=some v/\Q v H
def rIxS:R2:=λx y H Q=>∃ z i c,x = .str z/\y = .int i/\z.length<=sizeLine/\atI z.cps.toList i=some c/\Q (.str ⟨#[c]⟩) H
theorem ix_list:IxR X (rIxL X.K):=by
 intro value slice pins s σ H x y v u Q I rx ry h hs;obtain ⟨p,xs,i,z,rfl,rfl,hq,he,q⟩:=h;cases rx;obtain ⟨t,rfl⟩:=ry;obtain ⟨its,r,pl,hz⟩:=I.list hq;obtain ⟨j,h1,h2,h3,h4,h5⟩:=XY he;obtain ⟨w,ew,rw'⟩:=r.get h2;have hl:=r.length;have hn:=jQ;have fin:EP X pins σ Q w s:=⟨z,H,I,rw',q⟩;by_cases h0:0<=i
 ·have hj:i.toNat=j:=by rw [seqIndex_of h0 h5] at h1;exact Option.some.inj h1
  exact item_listR pl.isList h0 (by omega) (by rw [hj];simpa using ew) fin hs
 ·have hj:(i+(its.toArray.size:Int)).toNat=j:=by rw [seqIndex_neg (by omega) h4] at h1;rw [yY,<- hl];exact Option.some.inj h1
  exact subscriptTail_builtinR (x:=w) pl.isList.typeIs slot_list_getitem.lookup
   (wpAny_getItem_list_neg (Q:=λr s'=>r=w/\EP X pins σ Q r s') pl.isList (by omega) (by rw [yY]<;>omega) (by omega) (by rw [hj];simpa using ew) ⟨rfl,fin⟩) hs
theorem ix_tup:IxR X (rIxT X.K):=by
 intro value slice pins s σ H x y v u Q I rx ry h hs;obtain ⟨p,xs,i,z,rfl,rfl,hq,he,q⟩:=h;cases rx;obtain ⟨t,rfl⟩:=ry;obtain ⟨its,r,pl,hz⟩:=I.tuple hq;obtain ⟨j,h1,h2,h3,h4,h5⟩:=XY he;obtain ⟨w,ew,rw'⟩:=r.get h2;have hl:=r.length;have hn:=jQ;have fin:EP X pins σ Q w s:=⟨z,H,I,rw',q⟩;exact subscriptTail_builtinR (x:=w) pl.typeIs slot_tuple_getitem.lookup
  (getItem_tuple (j:=j) (Q:=λr s'=>r=w/\EP X pins σ Q r s') pl (by omega) (by omega) (by rw [yY,<- hl];exact h1) (by simpa using ew) ⟨rfl,fin⟩) hs
theorem Cw:IxR X rIxS:=by
 intro value slice pins s σ H x y v u Q I rx ry h hs;obtain ⟨z,i,c,rfl,rfl,hz,he,q⟩:=h;obtain ⟨t,rfl⟩:=rx;obtain ⟨t',rfl⟩:=ry;obtain ⟨j,h1,h2,h3,h4,h5⟩:=XY he;have hl:z.cps.toList.length=z.length:=by simp [Str.length]
 rw [hl] at h1 h4 h5;have hn:=jQ;exact tail_any (typeIs_str s z t) slot_str_getitem.lookup (getItem_str (c:=c) (by
  have e1:decide (i < -(2 ^ 63:Int))=false:=yD (by omega);have e2:decide (i >= 2 ^ 63)=false:=yD (by omega);rw [e1,e2,Bool.or_false]) (by rw [h1];simpa using h2) ⟨.str ⟨#[c]⟩,H,I.tok _,⟨_,rfl⟩,q⟩) hs
def rIx (K:Fg):R2:=λx y H Q=>rIxL K x y H Q∨rIxT K x y H Q∨rIxS x y H Q
theorem Cu:IxR X (rIx X.K):=ix_list.or (ix_tup.or Cw)
theorem Dd (its:List Value)(n j:Nat)(u:Value):Obj.mapSeq (·.setIfInBounds j u) { cls:= .type "list",data:= .seq its.toArray n }={ cls:= .type "list",data:= .seq (its.set j u).toArray n }:=by simp [Obj.mapSeq]
theorem Inv.lst {pins:List (Addr×Obj)}{σ:St}{H:Hp}{s:Shared}{p:Addr}{xs:List V}(I:Inv X pins σ H s)(h:H p=some (.lst xs)):∃ (its:List Value) (n:Nat),Vals xs its/\s.heap.get? p=some { cls:= .type "list",data:= .seq its.toArray n }/\xs.length<=sizeLine:=by obtain ⟨z,its,n,r,e⟩:=I.hok p _ h;exact ⟨its,n,r,e,z⟩
theorem Inv.lstUpd {p:Addr}{xs ys:List V}{n':Nat}{f:Obj->Obj}(I:Inv X pins σ H s)(h:H p=some (.lst xs))(ho:s.heap.get? p=some { cls:= .type "list",data:= .seq its.toArray n })(hf:f { cls:= .type "list",data:= .seq its.toArray n }={ cls:= .type "list",data:= .seq its'.toArray n' })(r:Vals ys its')(hz:ys.length<=sizeLine)(t:Nat):Inv X pins σ (z5 H p (.lst ys)) { s with heap:=s.heap.update p f,toks:=t }:=by
 have e:(s.heap.update p f).get? p=some { cls:= .type "list",data:= .seq its'.toArray n' }:=by rw [Heap.get?_update_self f ho (by rw [hf]<;>rfl),hf]
 refine I.write (x:=p) (e:=p) (by rw [h];trivial) (.inl rfl) (λb u hb q=>(uJ _ _ (Ne.symm hb)).trans q) ⟨_,e⟩ ?_;exact ⟨hz,its',n',r,e⟩
def rSetL:V->V->V->Hp->(Hp->Prop)->Prop:=λo i v H Q=>∃ p xs k j,o = .ref p/\i = .int k/\H p=some (.lst xs)/\ixN xs.length k=some j/\Q (z5 H p (.lst (xs.set j v)))
theorem NL:PSet X rSetL:=by
 intro pins s σ H o i v ov iv u Q I ro ri rv h;obtain ⟨p,xs,k,j,rfl,rfl,hp,hj,q⟩:=h;cases ro;obtain ⟨t,rfl⟩:=ri;obtain ⟨its,n,r,ho,hz⟩:=I.lst hp;obtain ⟨h1,h2,h3,h4⟩:=Ut hj;have hl:=r.length;have hn:=jQ;have I':Inv X pins σ (z5 H p (.lst (xs.set j v))) { s with heap:=s.heap.update p (Obj.mapSeq (·.setIfInBounds j u)) } :=
  I.lstUpd hp ho (Dd its n j u) (r.set rv j) (by rw [yd];exact hz) s.toks
 by_cases h0:0<=k
 ·have hk:k.toNat=j:=by rw [seqIndex_of h0 h4] at h1;exact Option.some.inj h1
  exact PySem.W.ki_setAt ho h0 (by omega) (by rw [yY,<- hl];exact h4) (by rw [hk];exact ⟨_,I',q⟩)
 ·have hk:(k+(its.toArray.size:Int)).toNat=j:=by rw [seqIndex_neg (by omega) h3] at h1;rw [yY,<- hl];exact Option.some.inj h1
  exact PySem.W.ki_setBack ho (by omega) (by rw [yY,<- hl];exact h3) (by omega) (by rw [hk];exact ⟨_,I',q⟩)
theorem NS (lo hi:Option Int)(n:Nat):(sliceBounds lo hi none n).1=((HT.sIx n 0 lo:Nat):Int)/\(sliceBounds lo hi none n).2.1=((HT.sIx n n hi:Nat):Int)/\(sliceBounds lo hi none n).2.2=1:=by
 refine ⟨?_,?_,rfl⟩
 ·cases lo with
  |none=>simp [sliceBounds,HT.sIx]
  |some i =>
   simp only [sliceBounds,HT.sIx,ua,show (1:Int) > 0 by decide,if_true];by_cases h:i<0
   ·simp only [h,if_true]<;>omega
   ·simp only [h,if_false]<;>omega
 ·cases hi with
  |none=>simp [sliceBounds,HT.sIx]
  |some i =>
   simp only [sliceBounds,HT.sIx,ua,show (1:Int) > 0 by decide,if_true];by_cases h:i<0
   ·simp only [h,if_true]<;>omega
   ·simp only [h,if_false]<;>omega
theorem NR (its:List Value)(lo hi:Option Int):slicePick its.toArray lo hi none=((its.drop (HT.sIx its.length 0 lo)).take (HT.sIx its.length its.length hi-HT.sIx its.length 0 lo)).toArray:=by obtain ⟨h1,h2,h3⟩:=NS lo hi its.toArray.size;unfold slicePick;rw [h1,h2,h3];simp only [sliceRange_one,pick_run,yY]<;>rfl
def rSlL (K:Fg):V->Option Int->Option Int->Hp->VK->Prop:=λx lo hi H Q=>∃ a xs,x = .ref a/\SqL K H a xs/\∀ p,H p=none->Q (.ref p) (z5 H p (.lst (vA xs lo hi)))
theorem NP:SlR X (rSlL X.K):=by intro pins s σ H x v vl vu lo hi sl Q I rx hs pl pu h;obtain ⟨a,xs,rfl,hx,q⟩:=h;cases rx;obtain ⟨its,r,ht,hz⟩:=I.list hx;have hlen:=r.length;refine ⟨"list",_,slot_list_getitem.lookup,ht.isList.typeIs,?_⟩;refine wpAny_getItem_list_slice ht.isList hs pl pu .none (by simp) ?_ (by rw [yY]<;>omega);rw [NR,<- hlen];refine ⟨.ref s.heap.objs.size,_,I.laid (t':=s.toks) (o:= .lst (vA xs lo hi)) (λb ob q=>yX _ q) (yU _) ?_,rfl,q _ (I.hok.fresh (yU _))⟩;exact ⟨yp (BL xs lo hi) hz,_,0,(r.drop (HT.sIx xs.length 0 lo)).take (HT.sIx xs.length xs.length hi-HT.sIx xs.length 0 lo),yI _ rfl⟩
def y6:V->Bool
 | .non=>true
 | .bl _=>true
 | .int _=>true
 | .str _=>true
 |_=>false
def c5:V->V->Bool
 | .non,.non=>true
 | .bl a,.bl b=>a==b
 | .bl a,.int b=>(if a then 1 else 0)==b
 | .int a,.bl b=>a==(if b then 1 else 0)
 | .int a,.int b=>a==b
 | .str a,.str b=>a==b
 |_,_=>false
theorem Zk (ry:RelV y u)(rx:RelV x v)(fy:y6 y=true)(fx:y6 x=true):SeqAt.EqAt A s u v (c5 y x):=by
 cases y with
 |non =>
  cases ry;cases x with
  |non=>cases rx;exact SeqAt.EqAt.same _
  |bl b=>cases rx;exact SeqAt.EqAt.none_bool b
  |int b=>obtain ⟨t,rfl⟩:=rx;exact SeqAt.EqAt.none_int b t
  |str b=>obtain ⟨t,rfl⟩:=rx;exact SeqAt.EqAt.none_str b t
  |_=>exact absurd (show false=true from fx) yS
 |bl a =>
  cases ry;cases x with
  |non=>cases rx;exact SeqAt.EqAt.bool_none a
  |bl b=>cases rx;exact SeqAt.EqAt.bool_bool a b
  |int b=>obtain ⟨t,rfl⟩:=rx;exact SeqAt.EqAt.bool_int a b t
  |str b=>obtain ⟨t,rfl⟩:=rx;exact SeqAt.EqAt.bool_str a b t
  |_=>exact absurd (show false=true from fx) yS
 |int a =>
  obtain ⟨t',rfl⟩:=ry;cases x with
  |non=>cases rx;exact SeqAt.EqAt.int_none a t'
  |bl b=>cases rx;exact SeqAt.EqAt.int_bool a t' b
  |int b=>obtain ⟨t,rfl⟩:=rx;exact SeqAt.EqAt.int_int a t' b t
  |str b=>obtain ⟨t,rfl⟩:=rx;exact SeqAt.EqAt.int_str a t' b t
  |_=>exact absurd (show false=true from fx) yS
 |str a =>
  obtain ⟨t',rfl⟩:=ry;cases x with
  |non=>cases rx;exact SeqAt.EqAt.str_none a t'
  |bl b=>cases rx;exact SeqAt.EqAt.str_bool a t' b
  |int b=>obtain ⟨t,rfl⟩:=rx;exact SeqAt.EqAt.str_int a t' b t
  |str b=>obtain ⟨t,rfl⟩:=rx;exact SeqAt.EqAt.str_str a t' b t
  |_=>exact absurd (show false=true from fx) yS
 |_=>exact absurd (show false=true from fy) yS
def eqU (x:V)(u:Value):Bool:=match u with
 | .none=>c5 .non x
 | .bool b=>c5 (.bl b) x
 | .int i _=>c5 (.int i) x
 | .str z _=>c5 (.str z) x
 |_=>false
theorem Zl (r:RelV y u)(f:y6 y=true):eqU x u=c5 y x:=by
 cases y with
 |non=>cases r;rfl
 |bl b=>cases r;rfl
 |int i=>obtain ⟨t,rfl⟩:=r;rfl
 |str z=>obtain ⟨t,rfl⟩:=r;rfl
 |_=>exact absurd (show false=true from f) yS
theorem XW {x:V}:∀{xs:List V}{us:List Value},Vals xs us->xs.all y6=true->us.any (eqU x)=xs.any λy=>c5 y x
 |_,_,.nil,_=>rfl
 |y::xs,u::us,.cons r t,f=>by
  rw [List.all_cons,yf] at f;rw [List.any_cons,List.any_cons,Zl r f.1,XW t f.2]
theorem Xl {A:Around}{s:Shared}{x:V}{v:Value}(rx:RelV x v)(fx:y6 x=true):∀{xs:List V}{us:List Value},Vals xs us->xs.all y6=true->∀ u∈us,SeqAt.EqAt A s u v (eqU x u)
 |_,_,.nil,_=>λu hu=>by cases hu
 |y::xs,u::us,.cons r t,f=>λu' hu=>by
  rw [List.all_cons,yf] at f;rcases yP.mp hu with rfl|hu
  ·rw [Zl r f.1];exact Zk r rx f.1 fx
  ·exact Xl rx fx t f.2 u' hu
def inV (x:V)(xs:List V):Bool:=xs.any λy=>c5 y x
def rIn (K:Fg)(neg:Bool):R2:=λx y H Q=>∃ p xs,y = .ref p/\(SqL K H p xs∨SqT K H p xs)/\y6 x=true/\xs.all y6=true/\Q (.bl (if neg then !inV x xs else inV x xs)) H
theorem Mv:OpR X (compareOp .In) (rIn X.K false):=by
 intro pins s σ H x y v u Q I rx ry h;obtain ⟨p,xs,rfl,hq,fx,fs,q⟩:=h;cases ry;rcases hq with hq|hq
 ·obtain ⟨its,r,pl,hz⟩:=I.list hq;refine SeqAt.in_listAt (eqU x) pl.isList (λw hw=>Xl rx fx r fs w (by simpa using hw)) ⟨.bl _,H,I,rfl,?_⟩;rw [show its.toArray.any (eqU x)=its.any (eqU x) by simp,XW r fs];exact q
 ·obtain ⟨its,r,pl,hz⟩:=I.tuple hq;refine SeqAt.in_tupleAt (eqU x) pl (λw hw=>Xl rx fx r fs w (by simpa using hw)) ⟨.bl _,H,I,rfl,?_⟩;rw [show its.toArray.any (eqU x)=its.any (eqU x) by simp,XW r fs];exact q
theorem By:CallR X (.builtin "len") (λxs H Q=>∃ p ys,xs=[.ref p]/\(SqL X.K H p ys∨SqT X.K H p ys)/\Q (.int ys.length) H):=by
 intro pins s σ H xs us Q I r h;obtain ⟨p,ys,rfl,hq,q⟩:=h;obtain ⟨u,rfl,rx⟩:=xJ r;cases rx;have hn:=jQ;rcases hq with hq|hq
 ·obtain ⟨its,r',pl,hz⟩:=I.list hq;have hlen:=r'.length;exact Calls.call_len_list pl.isList (by simp only [yY]<;>omega) ⟨.int ys.length,H,I.tok _,⟨s.toks+1,by rw [yY,hlen]⟩,q⟩
 ·obtain ⟨its,r',pl,hz⟩:=I.tuple hq;have hlen:=r'.length;exact len_tuple pl (by simp only [yY]<;>omega) ⟨.int ys.length,H,I.tok _,⟨s.toks+1,by rw [yY,hlen]⟩,q⟩
theorem CallR.or {f:Value}{r r':List V->Hp->VK->Prop}(h:CallR X f r)(h':CallR X f r'):CallR X f (λxs H Q=>r xs H Q∨r' xs H Q):=by
 intro pins s σ H xs us Q I rs q;rcases q with q|q
 ·exact h pins s σ H xs us Q I rs q
 ·exact h' pins s σ H xs us Q I rs q
theorem Bz:CallR X (.type "list") (λxs H Q=>∃ p ys,xs=[.ref p]/\(SqL X.K H p ys∨SqT X.K H p ys)/\∀ l,H l=none->Q (.ref l) (z5 H l (.lst ys))):=by
 intro pins s σ H xs us Q I r h;obtain ⟨p,ys,rfl,hq,q⟩:=h;obtain ⟨u,rfl,rx⟩:=xJ r;cases rx;have fin:∀(its:List Value),Vals ys its->ys.length<=sizeLine->∀(h':Heap)(c':Nat),(∀ b o',s.heap.get? b=some o'->h'.get? b=some o') ->
   h'.get? s.heap.objs.size=some { cls:= .type "list",dict:=none,data:= .seq its.toArray c',slots:=#[] }->EP X pins σ Q (.ref s.heap.objs.size) { s with heap:=h' }:=λits r' hz h' c' kp e =>
  ⟨.ref s.heap.objs.size,_,I.laid (t':=s.toks) kp (yU _) (show ObjOk X.prog X.w _ h' _ (.lst ys) from ⟨hz,its,c',r',e⟩),rfl,q _ (I.hok.fresh (yU _))⟩
 rcases hq with hq|hq
 ·obtain ⟨its,r',pl,hz⟩:=I.list hq;have hlen:=r'.length;obtain ⟨o,ho,hc,n,hd⟩:=pl.isList;exact call_list_seq p (.inl rfl) ho hc hd (λh' c' kp e=>fin its r' hz h' c' kp e) (by simp only [yY]<;>omega)
 ·obtain ⟨its,r',pl,hz⟩:=I.tuple hq;have hlen:=r'.length;obtain ⟨o,ho,hc,n,hd⟩:=pl;exact call_list_seq p (.inr rfl) ho hc hd (λh' c' kp e=>fin its r' hz h' c' kp e) (by simp only [yY]<;>omega)
def tyV (K:Fg)(T:String)(x:V)(H:Hp):Prop:=match x with
 | .str _=>T = "str"
 | .int _=>T = "int"
 | .ref p=>(T = "list"/\∃ xs,SqL K H p xs)∨(T = "tuple"/\∃ o,K.lookup p=some o/\o.cls = .type "tuple"/\o.dict=none) ∨
   (T = "dict"/\((∃ kvs,H p=some (.dK kvs))∨∃ kvs,H p=some (.dT kvs)))∨(T = "set"/\∃ S n,H p=some (.set S n))
 |_=>False
theorem HE (I:Inv X pins σ H s)(r:RelV x v)(ty:tyV X.K T x H):s.TypeIs v T/\∀ a,v = .ref a->∃ ob,s.heap.get? a=some ob/\ob.dict=none:=by
 cases x with
 |str z=>obtain ⟨t,rfl⟩:=r;cases (show T = "str" from ty);exact ⟨typeIs_str s z t,λ_ e=>nomatch e⟩
 |int i=>obtain ⟨t,rfl⟩:=r;cases (show T = "int" from ty);exact ⟨typeIs_int s i t,λ_ e=>nomatch e⟩
 |ref p =>
  cases r;rcases ty with ⟨rfl,xs,hq⟩|⟨rfl,o,hk,hc,hd⟩|⟨rfl,hk⟩|⟨rfl,S,n,hk⟩
  ·obtain ⟨its,_,pl,_⟩:=I.list hq;refine ⟨pl.isList.typeIs,λa e=>?_⟩;cases e;obtain ⟨o,n,e,c,hd,_⟩:=pl;exact ⟨o,e,hd⟩
  ·refine ⟨⟨o,I.kIn p o hk,hc⟩,λa e=>?_⟩;cases e;exact ⟨o,I.kIn _ o hk,hd⟩
  ·have z:∃ o,s.heap.get? p=some o/\o.ExactDict:=by
    rcases hk with ⟨kvs,hk⟩|⟨kvs,hk⟩
    ·obtain ⟨_,_,_,_,o,_,_,e,ex,_⟩:=I.hok p _ hk;exact ⟨o,e,ex⟩
    ·obtain ⟨_,_,_,_,o,_,_,e,ex,_⟩:=I.hok p _ hk;exact ⟨o,e,ex⟩
   obtain ⟨o,e,ex⟩:=z;refine ⟨⟨o,e,ex.1⟩,λa e2=>?_⟩;cases e2;exact ⟨o,e,ex.2.1⟩
  ·obtain ⟨o,_,_,_,e,ex,_⟩:=I.hok p _ hk;refine ⟨⟨o,e,ex.1⟩,λa e2=>?_⟩;cases e2;exact ⟨o,e,ex.2.1⟩
 |_=>exact False.elim ty
def tBM (K:Fg)(T:String)(r:V->List V->Hp->VK->Prop)(to:TE)(t:TA):TE:=λσ H Q=>to σ H λx H1=>tyV K T x H1/\t σ H1 λxs H2=>r x xs H2 Q
variable {o e:Expr}{es:List Expr}{to:TE}{t:TA}{name:Str}{apos cpos:Pos}{T id:String}{r:V->List V->Hp->VK->Prop}
theorem pe_bm (pa:PlainAttrs T)(slot:Slot T name id)(hty:typeOf (.builtin id)=pure (.type "method_descriptor"))(hm:MtR X id r)(ho:PE X o to)(ha:PA X (e::es) t)(hbase:attributeBase o name X.env (eval o X.env)=eval o X.env:=by rfl)(hfew:((backTo cpos (starEach (e::es) X.env)).all (λx=>!x.1)&&(backToKw cpos (keywordEach [] X.env)).all (λx=>x.1.isSome)&&decide ((e::es).length+([]:List Keyword).length+(if ([]:List Keyword).isEmpty then 0 else 1)<30))=true:=by rfl)(hline:(apos.endLine==cpos.line)=true:=by rfl)(hs:starEach (e::es) X.env=(false,eval e X.env)::starEach es X.env:=by rfl)(hplain:(backTo cpos (starEach es X.env)).any (·.1)=false:=by rfl):PE X (.Call (.Attribute o name apos) (e::es) [] cpos) (tBM X.K T r to t):=by intro pins s σ H Q I h;refine wpAny_Call_method_late hbase hfew hline rfl (z8 (ho pins s σ H _ I h) λv s1 ⟨x,H1,I1,r1,ty,q1⟩=>?_);obtain ⟨h1,h2⟩:=HE I1 r1 ty;refine ⟨T,id,pa,slot,hty,h1,h2,?_⟩;have hA:=ha cpos pins s1 σ H1 _ I1 q1;rw [hs] at hA ⊢;refine Calls.callWith_builtin (by show (false || (backTo cpos (starEach es X.env)).any (·.1))=false;rw [hplain]<;>rfl) (Calls.evalArgs_plain ?_);exact z8 hA λus s2 ⟨vs,H2,I2,r2,q2⟩=>hm pins s2 σ H2 x vs v us Q I2 r1 r2 q2
end
def MtM (X:Cx)(id:String)(r:V->List V->Hp->VK->Prop):Prop :=
 ∀(pins:List (Addr×Obj))(s:Shared)(σ:St)(H:Hp)(x:V)(xs:List V)(v:Value)(us:List Value)(Q:VK),Inv X pins σ H s->RelV x v->Vals xs us->r x xs H Q ->
  wpAny (model X.prog X.w) X.A (call (.builtin id) (v::us)) (EP X pins σ Q) X.xe s
theorem Vals.one:∀{x:V}{us:List Value},Vals [x] us->∃ u,us=[u]/\RelV x u
 |_,_,.cons r .nil=>⟨_,rfl,r⟩
theorem Vals.two:∀{x y:V}{us:List Value},Vals [x,y] us->∃ u v,us=[u,v]/\RelV x u/\RelV y v
 |_,_,_,.cons r (.cons q .nil)=>⟨_,_,rfl,r,q⟩
theorem Vals.eraseIdx:∀{xs:List V}{us:List Value}(i:Nat),Vals xs us->Vals (xs.eraseIdx i) (us.eraseIdx i)
 |_,_,_,.nil=> .nil
 |_,_,0,.cons _ t=>t
 |_,_,i+1,.cons r t=> .cons r (Vals.eraseIdx i t)
theorem Vals.rep {xs:List V}{us:List Value}(h:Vals xs us):∀ k:Nat,Vals (List.replicate k xs).flatten (List.replicate k us).flatten
 |0=> .nil
 |k+1=>by
  rw [uL,uL,yj,yj];exact Vals.append h (Vals.rep h k)
theorem Uz {α:Type}:∀(l:List α)(i:Nat),(l.eraseIdx i).length<=l.length
 |[],_=>yU _
 |_::_,0=>uf _
 |_::r,i+1=>Nat.succ_le_succ (Uz r i)
theorem Uc (its:List Value):∀(k:Nat)(acc:List Value), List.foldl (λx1 x2=>x1++x2) acc.toArray (List.replicate k its.toArray)=(acc++(List.replicate k its).flatten).toArray
 |0,acc=>by simp
 |k+1,acc=>by
  have e:acc.toArray++its.toArray=(acc++its).toArray:=by simp
  have e2:(acc++its)++(List.replicate k its).flatten=acc++(List.replicate (k+1) its).flatten:=by rw [uL,yj,uT]
  rw [<- e2,<- Uc its k (acc++its),<- e,uL,List.foldl_cons]
section
variable {X:Cx}{pins:List (Addr×Obj)}{σ:St}{H:Hp}{s:Shared}{l b:Addr}{xs ys zs:List V}
theorem Inv.lset {f:Array Value->Array Value}(I:Inv X pins σ H s)(hH:H l=some (.lst xs))(e:s.heap.get? l=some { cls:= .type "list",data:= .seq its.toArray n })(hf:f its.toArray=its'.toArray)(hv:Vals ys its')(hz:ys.length<=sizeLine):Inv X pins σ (z5 H l (.lst ys)) { s with heap:=s.heap.update l (Obj.mapSeq f),toks:=t' }:=by have q:=PySem.IsL.update e f;rw [hf] at q;refine I.write (x:=l) (e:=l) (by rw [hH];exact trivial) (.inl rfl) (λb' u hb hu=>(uJ s.heap (Obj.mapSeq f) (Ne.symm hb)).trans hu) ⟨_,q⟩ ?_;exact ⟨hz,its',_,hv,q⟩
theorem Inv.lnew (I:Inv X pins σ H s)(hv:Vals ys its)(hz:ys.length<=sizeLine):Inv X pins σ (z5 H s.heap.objs.size (.lst ys)) { s with heap:=s.heap.push { cls:= .type "list",data:= .seq its.toArray },toks:=t' } :=
 I.laid (λ_ _ q=>yX _ q) (yU _) ⟨hz,its,0,hv,yI _ rfl⟩
theorem Inv.fresh (I:Inv X pins σ H s):H s.heap.objs.size=none:=I.hok.fresh (yU _)
theorem Inv.lstM (I:Inv X pins σ H s)(hH:H l=some (.lst xs)):xs.length<=sizeLine/\∃ (its:List Value) (n:Nat),Vals xs its/\xs.length=its.length/\s.heap.get? l=some { cls:= .type "list",data:= .seq its.toArray n }:=by obtain ⟨z,its,n,r,e⟩:=I.hok l _ hH;exact ⟨z,its,n,r,r.length,e⟩
theorem Dk (h:n<=sizeLine):Builtin.List.listTooLong n=false:=by unfold Builtin.List.listTooLong;exact yD (by omega)
end
section
variable {X:Cx}
def Gw:V->List V->Hp->VK->Prop:=λx vs H Q=>∃ l xs y,x = .ref l/\vs=[y]/\H l=some (.lst xs)/\xs.length<sizeLine/\Q .non (z5 H l (.lst (xs++[y])))
theorem UL:MtM X "list.append" Gw:=by intro pins s σ H x vs v us Q I rx rv h;obtain ⟨l,xs,y,rfl,rfl,hH,hz,q⟩:=h;cases rx;obtain ⟨u,rfl,ru⟩:=rv.one;obtain ⟨z,its,n,r,hl,e⟩:=I.lstM hH;refine call_meets F.slot_list_append ⟨_,e,rfl⟩ F.entry_list_append (F.args_list_append_2 _ _) (PySem.list_append l its.toArray n u (by rw [yY];omega)) ⟨e,?_⟩;refine ⟨.non,_,I.lset (its':=its++[u]) hH e (by simp) (r.append (.cons ru .nil)) ?_,rfl,q⟩;rw [yJ,List.length_singleton];omega
def Jo:V->List V->Hp->VK->Prop:=λx vs H Q=>∃ l xs i k y,x = .ref l/\vs=[.int i]/\H l=some (.lst xs)/\-(2 ^ 63)<=i/\i<2 ^ 63/\seqIndex? i xs.length=some k/\xs[k]?=some y/\Q y (z5 H l (.lst (xs.eraseIdx k)))
theorem ZV:MtM X "list.pop" Jo:=by
 intro pins s σ H x vs v us Q I rx rv h;obtain ⟨l,xs,i,k,y,rfl,rfl,hH,h1,h2,hk,hy,q⟩:=h;cases rx;obtain ⟨u,rfl,ru⟩:=rv.one;obtain ⟨t,rfl⟩:=ru;obtain ⟨z,its,n,r,hl,e⟩:=I.lstM hH;obtain ⟨w,hw,rw'⟩:=r.get hy;refine call_meets F.slot_list_pop ⟨_,e,rfl⟩ F.entry_list_pop (F.args_list_pop_2 _ _)
  (MeetsSeq.list_pop_at l its.toArray n i t k w (fitsIndex_both h1 h2) (by rw [yY,<- hl];exact hk) (by rw [<- ub];exact hw) (by rw [yY];omega)) ⟨e,?_⟩
 refine ⟨y,_,I.lset (its':=its.eraseIdx k) hH e ?_ (r.eraseIdx k) ?_,rw',q⟩
 ·show its.toArray.eraseIdxIfInBounds k=(its.eraseIdx k).toArray;rw [List.eraseIdxIfInBounds_toArray]
 ·have:=Uz xs k;omega
def rRep:R2:=λx y H Q=>∃ l k xs,x = .ref l/\y = .int k/\H l=some (.lst xs)/\-(2 ^ 63)<=k/\k<2 ^ 63/\xs.length*k.toNat<=sizeLine /\
 ∀ p,H p=none->Q (.ref p) (z5 H p (.lst (List.replicate k.toNat xs).flatten))
theorem CP (xs:List α)(k:Nat):(List.replicate k xs).flatten.length=k*xs.length:=by
 induction k with
 |zero=>simp
 |succ k ih=>rw [uL,yj,yJ,ih,Nat.succ_mul,Nat.add_comm]
theorem MD:OpR X (binaryOp .Mult) rRep:=by
 intro pins s σ H x y v u Q I rx ry h;obtain ⟨l,k,xs,rfl,rfl,hH,h1,h2,hz,q⟩:=h;cases rx;obtain ⟨t,rfl⟩:=ry;obtain ⟨z,its,n,r,hl,e⟩:=I.lstM hH;have hlen:its.toArray.size*k.toNat<=sizeLine:=by rw [yY,<- hl];exact hz
 have hcap:¬ its.toArray.size*k.toNat > (2 ^ 63-1) / 8:=by
  have:(sizeLine:Nat)<=(2 ^ 63-1) / 8:=by decide
  omega
 have hfit:¬ (!Builtin.List.listFitsIndex k)=true:=by rw [fitsIndex_both h1 h2];exact yS
 have hlong:¬ Builtin.List.listTooLong (its.toArray.size*k.toNat)=true:=by rw [Dk hlen];exact yS
 have hnew:List.foldl (λx1 x2=>x1++x2) #[] (List.replicate (if its.toArray.isEmpty=true then 0 else k.toNat) its.toArray)=(List.replicate k.toNat its).flatten.toArray:=by
  have f0:∀ m:Nat,List.foldl (λx1 x2=>x1++x2) #[] (List.replicate m its.toArray)=(List.replicate m its).flatten.toArray:=λm=>by
   have:=Uc its m [];rw [List.nil_append] at this;exact this
  rw [f0];cases its with
  |nil=>simp
  |cons a r'=>rw [if_neg (by simp)]
 refine wpAny_binaryOp_repeat_ref (T:="list") (U:="int") (by decide) ⟨_,e,rfl⟩ (λs'=>typeIs_int s' k t) noFill_list_mul F.fills_int_mul F.slot_int_rmul repeat_list F.slot_int_index.lookup
  (call_meets F.slot_int_rmul (typeIs_int s k t) F.entry_int_rmul (F.args_int_rmul_2 _ _) (int___rmul___int_list k t l its.toArray n)
   ⟨e,rfl,⟨_,e,rfl⟩,call_meets F.slot_list_mul ⟨_,e,rfl⟩ F.entry_list_mul (F.args_list_mul_2 _ _) (AutoListH.list___mul___list_int_3 l its.toArray n k t hfit hcap hlong) ⟨e,?_⟩⟩)
 rw [hnew];exact ⟨.ref _,_,I.lnew (t':=s.toks) (r.rep k.toNat) (by rw [CP,Nat.mul_comm];exact hz),rfl,q _ I.fresh⟩
end
section
variable {κ:Type}[DecidableEq κ]
def h8 (kvs:List (κ×V))(k:κ):Option V:=(kvs.find? λkv=>decide (kv.1=k)).map (·.2)
def i6 (kvs:List (κ×V))(k:κ)(v:V):List (κ×V) :=
 if (kvs.any λkv=>decide (kv.1=k))=true then kvs.map (λkv=>if kv.1=k then (kv.1,v) else kv) else kvs++[(k,v)]
theorem VN {p:κ×V}{r:List (κ×V)}{k:κ}(e:p.1=k):h8 (p::r) k=some p.2:=by simp [h8,uQ,e]
theorem VM {p:κ×V}{r:List (κ×V)}{k:κ}(e:¬ p.1=k):h8 (p::r) k=h8 r k:=by simp [h8,uQ,e]
theorem VL (k:κ):∀ kvs:List (κ×V),(kvs.any λkv=>decide (kv.1=k))=(h8 kvs k).isSome
 |[]=>rfl
 |p::r=>by
  rw [List.any_cons];by_cases e:p.1=k
  ·simp only [VN e,yC e,Bool.true_or,Option.isSome_some]
  ·rw [VM e,yD e,Bool.false_or];exact VL k r
theorem ZJ (kvs:List (κ×V))(k:κ)(v:V):(i6 kvs k v).length<=kvs.length+1:=by
 unfold i6;split
 ·rw [yZ];omega
 ·rw [yJ,yA,List.length_nil];omega
theorem RelO.isSome_eq {u:Option Value}(r:RelO o u):o.isSome=u.isSome:=by
 cases o with
 |none=>cases u with
  |none=>rfl
  |some _=>exact (show False from r).elim
 |some _=>cases u with
  |none=>exact (show False from r).elim
  |some _=>rfl
theorem RelO.getD {u:Option Value}{d:V}{d':Value}(r:RelO o u)(rd:RelV d d'):RelV (o.getD d) (u.getD d'):=by
 cases o with
 |none=>cases u with
  |none=>exact rd
  |some _=>exact (show False from r).elim
 |some _=>cases u with
  |none=>exact (show False from r).elim
  |some _=>exact r
theorem KV.val {kvs:List (κ×V)}{vs:List (κ×Value)}(r:KV kvs vs)(k:κ):RelO (h8 kvs k) (valueAt vs k):=by
 unfold KV at r
 induction r with
 |nil=>exact True.intro
 |@cons p q ps qs h t ih =>
  obtain ⟨h1,h2⟩:=h;by_cases e:p.1=k
  ·have e':q.1=k:=h1.symm.trans e;have b:valueAt (q::qs) k=some q.2:=by simp [valueAt,uQ,e']
   rw [VN e,b];exact h2
  ·have e':¬ q.1=k:=λz=>e (h1.trans z);have b:valueAt (q::qs) k=valueAt qs k:=by simp [valueAt,uQ,e']
   rw [VM e,b];exact ih
theorem KV.any {kvs:List (κ×V)}{vs:List (κ×Value)}(r:KV kvs vs)(k:κ):(kvs.any λkv=>decide (kv.1=k))=vs.any λkv=>decide (kv.1=k):=by
 unfold KV at r
 induction r with
 |nil=>rfl
 |cons h t ih=>rw [List.any_cons,List.any_cons,ih,h.1]
theorem KV.repl {kvs:List (κ×V)}{vs:List (κ×Value)}(r:KV kvs vs)(k:κ)(ry:RelV y u):KV (kvs.map λkv=>if kv.1=k then (kv.1,y) else kv) (vs.map λkv=>if kv.1=k then (kv.1,u) else kv):=by
 unfold KV at r ⊢
 induction r with
 |nil=>exact .nil
 |@cons p q ps qs h t ih =>
  rw [yO,yO];refine .cons ?_ ih;obtain ⟨h1,h2⟩:=h;by_cases e:p.1=k
  ·rw [if_pos e,if_pos (h1.symm.trans e)];exact ⟨h1,ry⟩
  ·rw [if_neg e,if_neg (λz=>e (h1.trans z))];exact ⟨h1,h2⟩
theorem KV.put {kvs:List (κ×V)}{vs:List (κ×Value)}(r:KV kvs vs)(k:κ)(ry:RelV y u):KV (i6 kvs k y) (stored vs k u):=by
 unfold i6 stored;rw [r.any k];by_cases e:(vs.any λkv=>decide (kv.1=k))=true
 ·rw [if_pos e,if_pos e];exact r.repl k ry
 ·rw [if_neg e,if_neg e];exact Paired.snoc r ⟨rfl,ry⟩
theorem KV.length {kvs:List (κ×V)}{vs:List (κ×Value)}(r:KV kvs vs):kvs.length=vs.length:=Paired.length r
end
theorem jb {k:x8}(r:RelV (kV k) u):(m8 P w).is k u=true:=by
 cases k with
 |inl i=>obtain ⟨t,e⟩:=(show ∃ t,u=Value.int i t from r);subst e;exact De P w i t
 |inr x=>obtain ⟨t,e⟩:=(show ∃ t,u=Value.str x t from r);subst e;exact ZU P w x t
theorem Us {P:Program}{w:World}:∀{ks:List x8}{us:List Value},Vals (ks.map kV) us->ItemsAre (m8 P w) ks us
 |[],_,r=>by rw [List.map_nil] at r;cases r;exact .nil
 |k::ks,_,r=>by
  rw [yO] at r;cases r with
  |cons h t=>exact .cons (jb h) (Us t)
abbrev KT (H:Hp):List (List x8×V)->List (List x8×Addr×Value)->Prop:=Paired λp q=>p.1=q.1/\H q.2.1=some (.tup (p.1.map kV))/\RelV p.2 q.2.2
theorem KT.val (r:KT H kvs xs)(k:List x8):RelO (h8 kvs k) ((atKey xs k).map (·.2)):=by
 induction r with
 |nil=>exact True.intro
 |@cons p q ps qs h t ih =>
  obtain ⟨h1,_,h2⟩:=h;by_cases e:p.1=k
  ·have e':q.1=k:=h1.symm.trans e;have b:atKey (q::qs) k=some q.2:=by simp [atKey,uQ,e']
   rw [VN e,b];exact h2
  ·have e':¬ q.1=k:=λz=>e (h1.trans z);have b:atKey (q::qs) k=atKey qs k:=by simp [atKey,uQ,e']
   rw [VM e,b];exact ih
theorem KT.repl (r:KT H kvs xs)(k:List x8)(ry:RelV y u):KT H (kvs.map λkv=>if kv.1=k then (kv.1,y) else kv) (xs.map (putAt k u)):=by
 induction r with
 |nil=>exact .nil
 |@cons p q ps qs h t ih =>
  rw [yO,yO];refine .cons ?_ ih;obtain ⟨h1,h2,h3⟩:=h;unfold putAt;by_cases e:p.1=k
  ·rw [if_pos e,if_pos (h1.symm.trans e)];exact ⟨h1,h2,ry⟩
  ·rw [if_neg e,if_neg (λz=>e (h1.trans z))];exact ⟨h1,h2,h3⟩
theorem KT.put (r:KT H kvs xs)(k:List x8){b:Addr}(hb:H b=some (.tup (k.map kV)))(ry:RelV y u):KT H (i6 kvs k y) (storedH xs k b u):=by
 have e:(kvs.any λkv=>decide (kv.1=k))=(atKey xs k).isSome:=by rw [VL,(r.val k).isSome_eq,Option.isSome_map]
 unfold i6 storedH;rw [e];by_cases q:(atKey xs k).isSome=true
 ·rw [if_pos q,if_pos q];exact r.repl k ry
 ·rw [if_neg q,if_neg q];exact Paired.snoc r ⟨rfl,hb,ry⟩
theorem KT.keeps (r:KT H kvs xs)(ht:∀ b ys,H b=some (.tup ys)->H' b=some (.tup ys)):KT H' kvs xs :=
 Paired.mapP r λ_ _ z=>⟨z.1,ht _ _ z.2.1,z.2.2⟩
section
variable {P:Program}{w:World}{H:Hp}{h:Heap}{a:Addr}
theorem GJ {u:HO}(ok:HOk P w H h)(e:Rd H a u):ObjOk P w H h a u:=e.ok ok
theorem zJ {kvs:List (x8×V)}(ok:HOk P w H h)(e:Rd H a (.dK kvs)):kvs.length<=sizeLine/\(a==sysModules)=false/\∃ vs,KV kvs vs/\h.DictOf (m8 P w) a vs :=
 show ObjOk P w H h a (.dK kvs) from GJ ok e
theorem YN {kvs:List (x8×V)}(ok:HOk P w H h)(e:H a=some (.dK kvs)):kvs.length<=sizeLine/\(a==sysModules)=false/\∃ vs,KV kvs vs/\h.DictOf (m8 P w) a vs:=zJ ok (.inl e)
theorem vK {ks:List x8}(ok:HOk P w H h)(e:H a=some (.tup (ks.map kV))):(tupleKind (m8 P w)).is h ks a:=by obtain ⟨_,its,r,o,h1,h2,n,h3⟩:=(show ObjOk P w H h a (.tup (ks.map kV)) from ok a _ e);exact ⟨o,its.toArray,n,h1,h2,h3,by simpa using Us r⟩
theorem jI (ok:HOk P w H h)(e:Rd H a (.dT kvs)):kvs.length<=sizeLine/\(a==sysModules)=false /\ ∃ xs,KT H kvs xs/\h.DictOfH (tupleKind (m8 P w)) a xs:=by
 obtain ⟨z,y,xs,r,o,es,ep,h1,h2,h3,h4,h5⟩:=(show ObjOk P w H h a (.dT kvs) from GJ ok e);refine ⟨z,y,xs,r,o,es,ep,h1,h2,h3,h4,λx hx=>?_,h5⟩;have all:∀{l:List (List x8×V)}{m:List (List x8×Addr×Value)},KT H l m->∀ x∈m,(tupleKind (m8 P w)).is h x.1 x.2.1:=by
  intro l m q
  induction q with
  |nil=>intro x hx;exact nomatch hx
  |@cons p q ps qs hq t ih =>
   intro x hx;rcases yP.mp hx with e|hx
   ·subst e;exact vK ok (by rw [<- hq.1];exact hq.2.1)
   ·exact ih x hx
 exact all r x hx
theorem dt_of (ok:HOk P w H h)(e:H a=some (.dT kvs)):kvs.length<=sizeLine/\(a==sysModules)=false /\ ∃ xs,KT H kvs xs/\h.DictOfH (tupleKind (m8 P w)) a xs:=jI ok (.inl e)
end
def DGet (H:Hp)(a:Addr)(y:V)(r:Option V):Prop :=
 (∃ kvs k,Rd H a (.dK kvs)/\y=kV k/\r=h8 kvs k)∨∃ kvs k b,Rd H a (.dT kvs)/\y = .ref b/\H b=some (.tup (k.map kV))/\r=h8 kvs k
def DPut (H:Hp)(a:Addr)(y v:V)(H':Hp):Prop :=
 (∃ kvs k,H a=some (.dK kvs)/\y=kV k/\kvs.length<sizeLine/\H'=z5 H a (.dK (i6 kvs k v))) ∨
 ∃ kvs k b,H a=some (.dT kvs)/\y = .ref b/\H b=some (.tup (k.map kV))/\kvs.length<sizeLine/\H'=z5 H a (.dT (i6 kvs k v))
theorem DGet.k {kvs:List (x8×V)}{k:x8}(e:H a=some (.dK kvs)):DGet H a (kV k) (h8 kvs k):= .inl ⟨kvs,k,.inl e,rfl,rfl⟩
theorem DPut.k {kvs:List (x8×V)}{k:x8}{v:V}(e:H a=some (.dK kvs))(hl:kvs.length<sizeLine):DPut H a (kV k) v (z5 H a (.dK (i6 kvs k v))):= .inl ⟨kvs,k,e,rfl,hl,rfl⟩
section
variable {X:Cx}{pins:List (Addr×Obj)}{σ:St}{H:Hp}{s:Shared}{a:Addr}{y v:V}{u r:Value}{o:Option V}{A:Around}{E:Value->Shared->Prop}
theorem Inv.big (I:Inv X pins σ H s):sysModules<s.heap.objs.size:=by have h:mainGlobals<s.heap.objs.size:=(I.mod.glob.keeps I.bk).lt;exact Nat.lt_trans (by decide) h
theorem BS (hu:A.units+1<cLine)(I:Inv X pins σ H s)(g:DGet H a y (some v))(ry:RelV y u)(h:∀ w' s',Inv X pins σ H s'->RelV v w'->Q w' s'):wpAny (model X.prog X.w) A (getItem (.ref a) u) Q E s:=by
 rcases g with ⟨kvs,k,e,ey,l⟩|⟨kvs,k,b,e,ey,eb,l⟩
 ·subst ey;obtain ⟨z,hd,vs,rel,dd⟩:=zJ I.hok e;obtain ⟨w',hw,rw'⟩:=RelO.some_of (v:=v) (o:=valueAt vs k) (by rw [l];exact rel.val k);exact wpAny_getItem_of (jb ry) dd.mapOf hw (h w' _ (I.tok _) rw')
 ·subst ey;cases (show u=Value.ref b from ry);obtain ⟨z,hd,xs,rel,dd⟩:=jI I.hok e;obtain ⟨w',hw,rw'⟩:=RelO.some_of (v:=v) (o:=(atKey xs k).map (·.2)) (by rw [l];exact rel.val k);obtain ⟨p,hp,hp2⟩:=yL.mp hw;refine wpAny_getItem_heap (tupleKind_room_in1 hu) (vK I.hok eb) dd hp ?_;rw [hp2];exact h w' _ (I.tok _) rw'
theorem d_in (hu:A.units+1<cLine)(I:Inv X pins σ H s)(g:DGet H a y o)(ry:RelV y u)(h:∀ s',Inv X pins σ H s'->Q (.bool o.isSome) s'):wpAny (model X.prog X.w) A (compareOp .In u (.ref a)) Q E s:=by
 rcases g with ⟨kvs,k,e,ey,l⟩|⟨kvs,k,b,e,ey,eb,l⟩
 ·subst ey;obtain ⟨z,hd,vs,rel,dd⟩:=zJ I.hok e;refine wpAny_in_of (jb ry) hd dd.mapOf ?_;rw [<- (rel.val k).isSome_eq,<- l];exact h _ (I.tok _)
 ·subst ey;cases (show u=Value.ref b from ry);obtain ⟨z,hd,xs,rel,dd⟩:=jI I.hok e;refine wpAny_in_heap (tupleKind_room_in1 hu) (vK I.hok eb) hd dd ?_;have q:=(rel.val k).isSome_eq;rw [Option.isSome_map] at q;rw [<- q,<- l];exact h _ (I.tok _)
theorem BU (hu:A.units+1<cLine)(I:Inv X pins σ H s)(g:DGet H a y o)(ry:RelV y u)(h:∀ s',Inv X pins σ H s'->Q (.bool (!o.isSome)) s'):wpAny (model X.prog X.w) A (compareOp .NotIn u (.ref a)) Q E s:=by
 rcases g with ⟨kvs,k,e,ey,l⟩|⟨kvs,k,b,e,ey,eb,l⟩
 ·subst ey;obtain ⟨z,hd,vs,rel,dd⟩:=zJ I.hok e;refine wpAny_notIn_of (jb ry) hd dd.mapOf ?_;rw [<- (rel.val k).isSome_eq,<- l];exact h _ (I.tok _)
 ·subst ey;cases (show u=Value.ref b from ry);obtain ⟨z,hd,xs,rel,dd⟩:=jI I.hok e;refine wpAny_notIn_heap (tupleKind_room_in1 hu) (vK I.hok eb) hd dd ?_;have q:=(rel.val k).isSome_eq;rw [Option.isSome_map] at q;rw [<- q,<- l];exact h _ (I.tok _)
theorem Zh {ob:HO}(I:Inv X pins σ H s)(mu:Mut (H a))(hs:Heap.SameBut a s.heap h')(he:∃ q,h'.get? a=some q)(new:ObjOk X.prog X.w (z5 H a ob) h' a ob):Inv X pins σ (z5 H a ob) { s with heap:=h',toks:=t' } :=
 I.write (x:=a) (e:=a) mu (.inl rfl) (λb q hb z=>(hs.2 b hb).trans z) he new
theorem Zi {kvs:List (x8×V)}{vs:List (x8×Value)}(z:kvs.length<=sizeLine)(hd:(a==sysModules)=false)(rel:KV kvs vs)(dd:h'.DictOf (m8 P w) a vs):ObjOk P w H' h' a (.dK kvs):=⟨z,hd,vs,rel,dd⟩
theorem BV {Q:Unit->Shared->Prop}(hu:A.units+1<cLine)(I:Inv X pins σ H s)(g:DPut H a y v H')(ry:RelV y u)(rv:RelV v r)(h:∀ s',Inv X pins σ H' s'->Q () s'):wpAny (model X.prog X.w) A (setItem (.ref a) u r) Q E s:=by
 rcases g with ⟨kvs,k,e,ey,l,eH⟩|⟨kvs,k,b,e,ey,eb,l,eH⟩
 ·subst ey eH;obtain ⟨z,hd,vs,rel,dd⟩:=YN I.hok e;have hz:vs.length<=sizeLine:=by rw [<- rel.length];exact z
  have hl:(i6 kvs k v).length<=sizeLine:=by have:=ZJ kvs k v;omega
  refine wpAny_setItem_pairs (hsz:=hz) (jb ry) dd λh' dd' hs=>h _ ?_;have he:∃ q,h'.get? a=some q:=let ⟨q,_,_,hq,_⟩:=dd';⟨q,hq⟩
  exact Zh I (by rw [e];exact True.intro) hs he (Zi hl hd (rel.put k rv) dd')
 ·subst ey eH;cases (show u=Value.ref b from ry);obtain ⟨z,hd,xs,rel,dd⟩:=dt_of I.hok e;have hz:xs.length<=sizeLine:=by rw [<- Paired.length rel];exact z
  have hl:(i6 kvs k v).length<=sizeLine:=by have:=ZJ kvs k v;omega
  refine wpAny_setItem_heap (hsz:=hz) (tupleKind_room_in1 hu) (vK I.hok eb) dd λh' dd' hs=>h _ ?_;obtain ⟨q,es,ep,hq,h2,h3,h4,_,h5⟩:=dd';refine Zh I (by rw [e];exact True.intro) hs ⟨q,hq⟩ ⟨hl,hd,_,(rel.put k eb rv).keeps λc ys ec=>?_,q,es,ep,hq,h2,h3,h4,h5⟩;rw [z0 (ne_of ec e (λz=>nomatch z))];exact ec
end
section
variable {X:Cx}{pins:List (Addr×Obj)}{σ:St}{H:Hp}{s:Shared}{a:Addr}{kvs:List (x8×V)}{k:x8}{u:Value}{A:Around}{E:Value->Shared->Prop}
theorem d_len (I:Inv X pins σ H s)(e:Rd H a (.dK kvs))(h:∀ t s',Inv X pins σ H s'->Q (.int kvs.length t) s'):wpAny (model X.prog X.w) A (call (.builtin "len") [.ref a]) Q E s:=by obtain ⟨z,hd,vs,rel,dd⟩:=zJ I.hok e;refine call_len_dict hd dd (by rw [<- rel.length];rw [sizeLine_eq] at z;omega) ?_;rw [<- rel.length];exact h _ _ (I.tok _)
end
def NoSl (i:Expr):Prop:=∀ ov iv,subscripted i false ov iv=operate [ov,iv] (getItem ov iv)
theorem He {prog:Program}{E:Value->Shared->Prop}{env:Env}{value slice:Expr}{id:String}(hl:typeLookup (.type T) "__getitem__"=pure (some (.builtin id)))(hs:NoSl slice)(h:wpAny (model prog w) A (eval value env) (λo s₁=>wpAny (model prog w) A (eval slice env) (λi s₂=>s₂.TypeIs o T/\wpAny (model prog w) A (getItem o i) Q E s₂) E s₁) E s):wpAny (model prog w) A (eval (.Subscript value slice pos) env) Q E s:=by
 refine Subscript_ (wpAny_mono h (λo s₁ h₁=>wpAny_mono h₁ (λi s₂ h₂=>?_) λ_ _ x=>x) λ_ _ x=>x);obtain ⟨hT,h₂⟩:=h₂;unfold subscriptTail;refine yV ?_;rw [getitemInPython_of_ne hT.not_modules];refine yV (wpAny_specialOf hT hl ?_);have fin:wpAny (model prog w) A (subscripted slice false o i) (λr s₃=>wpAny (model prog w) A (letTemporaryGo value o r >>= λ_=>pure r) Q E s₃) E s₂:=by rw [hs o i];exact wpAny_operating (wpAny_mono h₂ (λr s₃ h₃=>yV (wpAny_letTemporaryGo (yG h₃))) λ_ _ x=>x)
 first
  |exact yG (yV fin)
  |exact yV (yG (yV fin))
  |exact yV fin
theorem BW (I:Inv X pins σ H s)(g:DGet H a y o):s.TypeIs (.ref a) "dict":=by
 rcases g with ⟨kvs,k,e,_,_⟩|⟨kvs,k,b,e,_,_,_⟩
 ·obtain ⟨_,_,vs,_,dd⟩:=zJ I.hok e;exact dd.typeIs
 ·obtain ⟨_,_,xs,_,dd⟩:=jI I.hok e;exact dd.typeIs
def XN (td ty:TE):TE:=λσ H Q=>td σ H λx H1=>ty σ H1 λy H2=>∃ a v,x = .ref a/\DGet H2 a y (some v)/\Q v H2
def tDIn (ty td:TE):TE:=λσ H Q=>ty σ H λy H1=>td σ H1 λx H2=>∃ a o,x = .ref a/\DGet H2 a y o/\Q (.bl o.isSome) H2
def Kh (ty td:TE):TE:=λσ H Q=>ty σ H λy H1=>td σ H1 λx H2=>∃ a o,x = .ref a/\DGet H2 a y o/\Q (.bl (!o.isSome)) H2
def Jx (td ty tv:TE):TS:=λD σ H=>tv σ H λv H1=>td σ H1 λx H2=>ty σ H2 λy H3=>∃ a H4,x = .ref a/\DPut H3 a y v H4/\D.nx σ H4
section
variable {X:Cx}{o i e value:Expr}{pos pos' tpos:Pos}{td ty tv:TE}
theorem jZ (hu:X.A.units+1<cLine)(ho:PE X o td)(hi:PE X i ty)(hs:NoSl i):PE X (.Subscript o i pos) (XN td ty):=by intro pins s σ H Q I h;refine He PySem.F.slot_dict_getitem.lookup hs (z8 (ho pins s σ H _ I h) λu s1 ⟨x,H1,I1,rx,q1⟩=>z8 (hi pins s1 σ H1 _ I1 q1) λiv s2 ⟨y,H2,I2,ry,a,v,ex,g,q2⟩=>?_);subst ex;obtain rfl:u=Value.ref a:=rx;exact ⟨BW I2 g,BS hu I2 g ry λw' s3 I3 rw'=>⟨v,H2,I3,rw',q2⟩⟩
theorem MJ (hu:X.A.units+1<cLine)(hi:PE X i ty)(ho:PE X o td):PC X .In i o (tDIn ty td):=by intro pins s σ H Q I h;refine z8 (hi pins s σ H _ I h) λiv s1 ⟨y,H1,I1,ry,q1⟩=>z8 (ho pins s1 σ H1 _ I1 q1) λu s2 ⟨x,H2,I2,rx,a,ov,ex,g,q2⟩=>?_;subst ex;obtain rfl:u=Value.ref a:=rx;exact d_in hu I2 g ry λs3 I3=>⟨.bl ov.isSome,H2,I3,rfl,q2⟩
theorem MK (hu:X.A.units+1<cLine)(hi:PE X i ty)(ho:PE X o td):PC X .NotIn i o (Kh ty td):=by intro pins s σ H Q I h;refine z8 (hi pins s σ H _ I h) λiv s1 ⟨y,H1,I1,ry,q1⟩=>z8 (ho pins s1 σ H1 _ I1 q1) λu s2 ⟨x,H2,I2,rx,a,ov,ex,g,q2⟩=>?_;subst ex;obtain rfl:u=Value.ref a:=rx;exact BU hu I2 g ry λs3 I3=>⟨.bl (!ov.isSome),H2,I3,rfl,q2⟩
theorem Go (hu:X.A.units+1<cLine)(ho:PE X o td)(hi:PE X i ty)(hv:PE X value tv)(hs:swapsWith value (some (.Subscript o i pos')) pos.line X.env=pure false):PS X (.Assign [.Subscript o i pos'] value pos) (Jx td ty tv):=by intro pins s σ H D I h;refine wpAny_Assign_Subscript (z8 (hv pins s σ H _ I h) λr s1 ⟨v,H1,I1,rv,q1⟩=>z8 (ho pins s1 σ H1 _ I1 q1) λu s2 ⟨x,H2,I2,rx,q2⟩=>z8 (hi pins s2 σ H2 _ I2 q2) λiv s3 ⟨y,H3,I3,ry,a,H4,ex,g,q3⟩=>?_) hs;subst ex;obtain rfl:u=Value.ref a:=rx;exact BV hu I3 g ry rv λs4 I4=>⟨σ,H4,I4,q3⟩
end
theorem YM (h:Heap)(hb:sysModules<h.objs.size):ObjOk P w H (h.push { cls:= .type "dict",data:= .dict #[] }) h.objs.size (.dK []) :=
 ⟨yo _,beq_eq_false_iff_ne.mpr (Ne.symm (yK hb)),[],.nil,Heap.DictOf.new h⟩
def Kg:TE:=λ_ H Q=>∀ p,H p=none->Q (.ref p) (z5 H p (.dK []))
section
variable {X:Cx}{pos:Pos}
theorem UZ:PE X (.Dict [] [] pos) Kg:=λpins s σ H Q I h =>
 wpAny_Dict_empty ⟨.ref s.heap.objs.size,_,I.laid (a:=s.heap.objs.size) (o:= .dK []) (t':=s.toks) (λ_ _ q=>yX _ q) (yU _) (YM s.heap I.big),rfl,h _ (I.hok.fresh (yU _))⟩
end
def VE:List (TE×TE)->St->Hp->(List (V×V)->Hp->Prop)->Prop
 |[],_,H,Q=>Q [] H
 |(tk,tv)::r,σ,H,Q=>tk σ H λx H1=>tv σ H1 λy H2=>VE r σ H2 λps H3=>Q ((x,y)::ps) H3
abbrev VV:List (V×V)->List (Value×Value)->Prop:=Paired λp q=>RelV p.1 q.1/\RelV p.2 q.2
def PPs (X:Cx)(pos:Pos)(keys:List (Option Expr))(values:List Expr)(trs:List (TE×TE)):Prop :=
 ∀(pins:List (Addr×Obj))(s:Shared)(σ:St)(H:Hp)(Q:List (V×V)->Hp->Prop),Inv X pins σ H s->VE trs σ H Q ->
  wpAny (model X.prog X.w) X.A (evalPairs (pairTrees keys values X.env pos)) (λvs s'=>∃ ps H',Inv X pins σ H' s'/\VV ps vs/\Q ps H') X.xe s
theorem Lp :PPs X pos [] [] []:=λpins s σ H Q I h=>pairTrees_nil_walk ⟨[],H,I,.nil,h⟩
theorem Gk {k v:Expr}{ks:List (Option Expr)}{vs:List Expr}{tk tv:TE}(hk:PE X k tk)(hv:PE X v tv)(hr:PPs X pos ks vs trs):PPs X pos (some k::ks) (v::vs) ((tk,tv)::trs):=λpins s σ H Q I h =>
 pairTrees_cons_walk (z8 (hk pins s σ H _ I h) λu s1 ⟨x,H1,I1,rx,q1⟩=>z8 (hv pins s1 σ H1 _ I1 q1) λw2 s2 ⟨y,H2,I2,ry,q2⟩ =>
  z8 (hr pins s2 σ H2 _ I2 q2) λws s3 ⟨ps,H3,I3,rel,q3⟩=>⟨(x,y)::ps,H3,I3,.cons ⟨rx,ry⟩ rel,q3⟩)
def qK (kvs more:List (x8×V)):List (x8×V):=more.foldl (λacc kv=>i6 acc kv.1 kv.2) kvs
theorem KV.merge:∀{more:List (x8×V)}{rs:List (x8×Value)}{kvs:List (x8×V)}{vs:List (x8×Value)},KV more rs->KV kvs vs->KV (qK kvs more) (merged vs rs):=by
 intro more rs kvs vs r;unfold KV at r
 induction r generalizing kvs vs with
 |nil=>intro q;exact q
 |@cons p q ps qs h t ih =>
  intro r0;have e:KV (i6 kvs p.1 p.2) (stored vs q.1 q.2):=by have:=r0.put p.1 h.2;rw [<- h.1];exact this
  exact ih e
theorem UA:∀(more kvs:List (x8×V)),(qK kvs more).length<=kvs.length+more.length
 |[],kvs=>by show kvs.length<=kvs.length+0;omega
 |p::r,kvs=>by
  have h1:=UA r (i6 kvs p.1 p.2);have h2:=ZJ kvs p.1 p.2;show (qK (i6 kvs p.1 p.2) r).length<=_;rw [yA];omega
theorem Yv {P:Program}{w:World}:∀{kvs:List (x8×V)}{ws:List (Value×Value)},VV (kvs.map λkv=>(kV kv.1,kv.2)) ws->∃ rs,Carries (m8 P w) ws rs/\KV kvs rs
 |[],_,r=>by rw [List.map_nil] at r;cases r;exact ⟨[],True.intro,.nil⟩
 |p::kvs,_,r=>by
  rw [yO] at r;cases r with
  |@cons a b as bs h t=>obtain ⟨rs,c,q⟩:=Yv (P:=P) (w:=w) t;obtain ⟨b1,b2⟩:=b;exact ⟨(p.1,b2)::rs,⟨jb h.1,rfl,c⟩,.cons ⟨rfl,h.2⟩ q⟩
def Ki (trs:List (TE×TE)):TE:=λσ H Q=>∀ p,H p=none->VE trs σ (z5 H p (.dK [])) λps H2=>H2 p=some (.dK [])/\∃ kvs:List (x8×V),ps=kvs.map (λkv=>(kV kv.1,kv.2))/\kvs.length<=15/\Q (.ref p) (z5 H2 p (.dK (qK [] kvs)))
theorem MO {keys:List (Option Expr)}{values:List Expr}(h:PPs X pos keys values trs)(hall:keys.all (·.isSome)=true)(hl:keys.length=values.length)(h0:keys≠[])(h15:keys.length<=15):PE X (.Dict keys values pos) (Ki trs):=by
 intro pins s σ H Q I q;have hn:=I.hok.fresh (yU s.heap.objs.size);have I1:=I.laid (a:=s.heap.objs.size) (o:= .dK []) (h':=s.heap.push { cls:= .type "dict",data:= .dict #[] }) (t':=s.toks) (λ_ _ q=>yX _ q) (yU _) (YM s.heap I.big);refine wpAny_Dict_walk (knd:=m8 X.prog X.w) hall hl h0 h15 (z8 (h pins _ σ _ _ I1 (q _ hn)) λws s2 ⟨ps,H2,I2,rel,e,kvs,ep,lk,q2⟩=>?_);subst ep;obtain ⟨rs,c,rk⟩:=Yv (P:=X.prog) (w:=X.w) rel;obtain ⟨z,hd,vs0,r0,dd⟩:=YN I2.hok e;cases r0;refine ⟨rs,c,dd,λh' dd' hs=>⟨.ref s.heap.objs.size,_,?_,rfl,q2⟩⟩;have hz:(qK [] kvs).length<=sizeLine:=by have h1:=UA kvs [];rw [List.length_nil] at h1;rw [sizeLine_eq];omega
 have he:∃ q,h'.get? s.heap.objs.size=some q:=let ⟨q,_,_,hq,_⟩:=dd';⟨q,hq⟩
 exact Zh I2 (by rw [e];exact True.intro) hs he (Zi hz hd (rk.merge .nil) dd')
structure M2 (X:Cx)(o:Expr)(m:Str)(apos:Pos)(e f:Expr)(cpos:Pos):Prop where
 base:attributeBase o m X.env (eval o X.env)=eval o X.env
 few:((backTo cpos (starEach [e,f] X.env)).all (λx=>!x.1)&&(backToKw cpos (keywordEach [] X.env)).all (λx=>x.1.isSome)
  && decide (([e,f]:List Expr).length+([]:List Keyword).length+(if ([]:List Keyword).isEmpty then 0 else 1)<30))=true
 line:(apos.endLine==cpos.line)=true
 trees:backTo cpos (starEach [e,f] X.env)=[(false,eval e X.env),(false,eval f X.env)]
def IsD (H:Hp)(a:Addr):Prop:=(∃ kvs,Rd H a (.dK kvs))∨∃ kvs,Rd H a (.dT kvs)
theorem Cf (I:Inv X pins σ H s)(d:IsD H a):s.TypeIs (.ref a) "dict"/\(∀ b,Value.ref a = .ref b->∃ ob,s.heap.get? b=some ob/\ob.dict=none)/\(a==sysModules)=false:=by
 rcases d with ⟨kvs,e⟩|⟨kvs,e⟩
 ·obtain ⟨_,hd,vs,_,dd⟩:=zJ I.hok e;refine ⟨dd.typeIs,λb q=>?_,hd⟩;cases q;obtain ⟨ob,_,_,h1,h2,_⟩:=dd;exact ⟨ob,h1,h2.2.1⟩
 ·obtain ⟨_,hd,xs,_,dd⟩:=jI I.hok e;refine ⟨dd.typeIs,λb q=>?_,hd⟩;cases q;obtain ⟨ob,_,_,h1,h2,_⟩:=dd;exact ⟨ob,h1,h2.2.1⟩
section
variable {X:Cx}{pins:List (Addr×Obj)}{σ:St}{H:Hp}{s:Shared}{a:Addr}{y d:V}{u r:Value}{o:Option V}{A:Around}{E:Value->Shared->Prop}
theorem BR (hu:A.units+1<cLine)(I:Inv X pins σ H s)(g:DGet H a y o)(ry:RelV y u)(rd:RelV d r)(h:∀ w' s',Inv X pins σ H s'->RelV (o.getD d) w'->Q w' s'):wpAny (model X.prog X.w) A (call (.builtin "dict.get") [.ref a,u,r]) Q E s:=by
 rcases g with ⟨kvs,k,e,ey,l⟩|⟨kvs,k,b,e,ey,eb,l⟩
 ·subst ey;obtain ⟨z,hd,vs,rel,dd⟩:=zJ I.hok e;refine call_meetsIn PySem.F.slot_dict_get dd.typeIs PySem.F.entry_dict_get (PySem.F.args_dict_get_3 _ _ _) (meets_dict_get_default (m8 X.prog X.w) a (jb ry) hd r) ⟨_,dd.mapOf,h _ _ (I.tok _) ?_⟩;rw [l];exact (rel.val k).getD rd
 ·subst ey;cases (show u=Value.ref b from ry);obtain ⟨z,hd,xs,rel,dd⟩:=jI I.hok e;refine call_meetsIn PySem.F.slot_dict_get dd.typeIs PySem.F.entry_dict_get (PySem.F.args_dict_get_3 _ _ _) (meetsH_dict_get_default (tupleKind (m8 X.prog X.w)) a b hd r) ⟨tupleKind_room_in1 hu,k,xs,vK I.hok eb,dd,h _ _ (I.tok _) ?_⟩;rw [l];exact (rel.val k).getD rd
end
def VC (td ty tx:TE):TE:=λσ H Q=>td σ H λx H1=>∃ a,x = .ref a/\IsD H1 a/\ty σ H1 λy H2=>tx σ H2 λz H3=>∃ o,DGet H3 a y o/\Q (o.getD z) H3
section
variable {X:Cx}{o e f:Expr}{apos cpos:Pos}{td ty tx:TE}
theorem UY (hu:X.A.units+1<cLine)(ho:PE X o td)(he:PE X e ty)(hf:PE X f tx)(m:M2 X o "get" apos e f cpos):PE X (.Call (.Attribute o "get" apos) [e,f] [] cpos) (VC td ty tx):=by
 intro pins s σ H Q I h;refine wpAny_Call_method m.base m.few m.line PySem.F.plainAttrs_dict PySem.F.slot_dict_get PySem.F.type_dict_get (z8 (ho pins s σ H _ I h) λu s1 ⟨x,H1,I1,rx,a,ex,d,q1⟩=>?_);subst ex;obtain rfl:u=Value.ref a:=rx;obtain ⟨t1,t2,_⟩:=Cf I1 d;refine ⟨t1,t2,?_⟩;rw [m.trees];refine Calls.callWith_builtin rfl (Calls.evalArgs_plain (Calls.spliced_cons (z8 (he pins s1 σ H1 _ I1 q1) λiv s2 ⟨y,H2,I2,ry,q2⟩ =>
  Calls.spliced_cons (z8 (hf pins s2 σ H2 _ I2 q2) λfv s3 ⟨z,H3,I3,rz,ov,g,q3⟩=>Calls.spliced_nil ?_))))
 exact BR hu I3 g ry rz λw' s4 I4 rw'=>⟨_,H3,I4,rw',q3⟩
end
end L2
namespace Att
open PySem PySem.W PySem.Calls PyProof.Rows
variable{P:Params}{h:Heap}{l:OpenLaw}{n:Nat}
theorem Cb :∀(ns:List Int)(vs:List Value),WellAll P h vs (ns.map WData.int)->IntsAre vs ns:=by
 intro ns
 induction ns with
 |nil=>intro vs w;rw [List.map_nil] at w;cases w;exact .nil
 |cons n ns ih =>
  intro vs w;rw [yO] at w;cases w with
  |cons a b=>cases a;exact .cons _ _ (ih _ b)
theorem NH (hn:l.most=some n){args:List WData}{vals:List Value}(hpre:l.row.toRowW.claim.pre args=true)(hwl:WellAll P h vals args):∃ a vs ns,vals=[Value.ref a]/\args=[WData.list (ns.map WData.int)]/\h.get? a=some { cls:= .type "list",data:= .seq vs.toArray }/\IntsAre vs ns/\ns.length<=n:=by
 have hsh:WShape.hasAll [] args [.list .int]=true:=(pre_splitW hpre).1;have hc:l.pre.holds [] { args:=args }=true:=(pre_splitW hpre).2;obtain ⟨d,r,rfl,h1,h2⟩:=hasAllW_cons hsh;obtain rfl:=hasAllW_nil h2;obtain ⟨xs,rfl,h3⟩:=hasW_list h1;obtain ⟨ns,rfl⟩:=items_int h3;have hlen:ns.length<=n:=by
  unfold OpenLaw.pre at hc;have h4:(WTm.not (.lt (.lit (.int (n:Int))) (.len (.arg 0)))).holds [] { args:=[.list (ns.map .int)] }=true:=by have h4:=(holds_andW hc).1;rw [hn] at h4;exact h4
  have h5:=condW_of h4 (w_not (w_lt w_lit (w_len_list (w_arg rfl))));rw [yZ] at h5;refine Nat.le_of_not_lt λq=>?_;have q':(n:Int)<((ns.length:Nat):Int):=by omega
  first
   |(rw [yC q'] at h5;exact absurd h5 (by decide))
   |(simp at h5;omega)
 cases hwl with
 |cons w1 w2 =>
  cases w2;cases w1 with
  |list ho hall=>exact ⟨_,_,ns,rfl,rfl,ho,Cb ns _ hall,hlen⟩
theorem Ln (l:OpenLaw)(args:List WData):l.row.toRowW.claim.post args (.bool true) args=true :=
 postW_of (r:=l.row.toRowW) (X:=(true==true))
  (show WShape.has [] (.bool true) .bool=true by first|rfl|decide|simp [WShape.has,WShape.arms,WShape.armsAll])
  (show (WTm.eq .res (.lit (.bool true))).value [] { args:=args,res:=some (.bool true),after:=args }=some (.bool (true==true)) from w_eq_bool (w_res rfl) w_lit) rfl
theorem attach_call {q:Program}{loose:List Str}{XP:(Str->Option Value)->Heap->Prop}{YP:World->Heap->Prop}{d:DefRec}(hn:l.most=some n)(hdf:d.params.defaults=[])(call:∀ (w:World) (s₀ s₁:Shared) (mg mb:Str->Option Value) (fa:Addr) (o:Obj) (pm cd doc:Value) (a:Addr) (vs:List Value) (ns:List Int), Ground q loose [] XP w s₀ mg mb s₁.heap->YP w s₁.heap -> s₁.heap.get? fa=some o->o.data = .func (docDef d.name d.params d.body d.scope pm cd doc)->s₁.heap.CodeRec cd d.name->mg d.name=some (.ref fa) -> s₁.heap.get? a=some { cls:= .type "list",data:= .seq vs.toArray }->IntsAre vs ns->ns.length<=n->s₁.gens=#[] -> codeAny (model l.prog w) callerA (.call (.ref fa) ⟨[.ref a],[]⟩) (λr s'=>r = .ok (.ret (.bool true))/\OldK s₁.heap s'.heap/\s'.os=s₁.os/\AllBare s'.gens) s₁):WalkO q loose XP YP l.row.toRowW d [] (λf vs=>PySem.call f vs):=by intro w s₀ s₁ mg mb G Y fa o pm cd doc dV kV ho hd hcd hD hmg hg args vals as hpre hlay hrd hwl hlo;obtain rfl:dV = .none:=Dflts.none hD hdf;obtain rfl:kV = .none:=Dflts.noKw hD;obtain ⟨a,vs,ns,rfl,rfl,hobj,hints,hlen⟩:=NH hn hpre hwl;refine enter_call (codeAny_mono (call w s₀ s₁ mg mb fa o pm cd doc a vs ns G Y ho (fd_plain hd) hcd hmg hobj hints hlen hg) λr s' hq=>?_);obtain ⟨rfl,h2,h3,h4⟩:=hq;exact ⟨.inl ⟨.bool true,.bool true,[],rfl,λ_=>rfl,.bool true,Ln l _,λ_=>⟨List.Pairwise.nil,λ_ hm=>(nomatch hm)⟩⟩,h2,h3,h4⟩
end Att
namespace L2
open PySem PySem.Spec PyProof.Rows
variable{K:Fg}{a f:Addr}{fd:FuncData}{qual x:Str}{sp:Sp}{n:Nat}{st:Stmt}{ps:List Str}{A B:Prop}{H H':Hp}
theorem KE:∀{vs:List Value}{ns:List Int},IntsAre vs ns->Vals (ns.map V.int) vs
 |_,_,.nil=> .nil
 |_,_,.cons n t h=> .cons ⟨t,rfl⟩ (KE h)
def Only (H:Hp):Prop:=∀ b,H b=none∨(∃ o xs,H b=some (.frz o (.lst xs)))∨∃ p∈TABS,p.1=b/\H b=some (.tbl p.2.1 p.2.2)
structure vy (K:Fg)(h:Heap):Prop where
 at_:∀ p∈TABS,h.get? p.1=some { cls:= .none,data:= .fields p.2.1 }
 tri:∀ p∈TABS,TriplesOk p.2.1.toList
 non:∀ p∈TABS,∀ q∈p.2.2,codeAmong q.1 p.2.1.toList=none
 tab:∀ p∈TABS,isCodeTable h p.1
 one:∀ p∈TABS,∀ q∈TABS,p.1=q.1->p=q
 out:∀ p∈TABS,K.lookup p.1=none
def xI:Hp:=λb=>(TABS.find? λp=>p.1==b).map λp=> .tbl p.2.1 p.2.2
theorem XQ {b:Addr}{u:HO}(h:xI b=some u):∃ p∈TABS,p.1=b/\u = .tbl p.2.1 p.2.2:=by unfold xI at h;obtain ⟨p,e,r⟩:=yL.mp h;exact ⟨p,List.mem_of_find?_eq_some e,by have:=List.find?_some e;simpa using this,r.symm⟩
theorem Kq {h:Heap}(T:vy K h){p:Addr×Array Value×List (Pos×Str)}(hp:p∈TABS):xI p.1=some (.tbl p.2.1 p.2.2):=by
 unfold xI;cases e:TABS.find? λq=>q.1==p.1 with
 |none=>exact absurd (List.find?_eq_none.mp e p hp) (by simp)
 |some q =>
  have e1:q.1=p.1:=by have:=List.find?_some e;simpa using this
  rw [T.one q (List.mem_of_find?_eq_some e) p hp e1];rfl
theorem CN {P:Program}{w:World}{mg mb:Str->Option Value}{CX:CXT}{k:Nat}{fa:Addr}{s₁:Shared}{vs:List Value}{ns:List Int}(KX:K.In s₁.heap)(T:vy K s₁.heap)(hns:s₁.heap.Ns mainGlobals mg)(hb:s₁.heap.Ns builtinsNs mb)(hbb:∀ x:Str,x ≠ "__name__"->mb x=bootBuiltins x)(hlim:s₁.heap.NoLimit)(hbm:∃ bm ob,mg "__builtins__"=some (.ref bm)/\bm≠builtinsNs/\s₁.heap.get? bm=some ob/\ob.cls = .type "module"/\ob.dict=some builtinsNs/\ob.data = .plain)(hg:s₁.gens=#[])(ha:s₁.heap.get? a=some { cls:= .type "list",data:= .seq vs.toArray })(hi:IntsAre vs ns)(hl:ns.length<=sizeLine)(hr:Room k callerA)(F:∀ base:Heap,K.In base->base.Ns mainGlobals mg->FnOk P w K mg base CX k fa fd [x] sp)(hbind:∀ (s:Shared) (u:Value),BindsTo s fd ⟨[u],[]⟩ [(x,u)])(hsp:∀ H:Hp,Only H->SqL K H a (ns.map V.int)->sp [.ref a] H (λv _=>v = .bl true) λ_ _ _=>False)(hCX:∀ H e s',CX [] H s₁ (λ_ _ _=>False) e s'->False):codeAny (model P w) callerA (.call (.ref fa) ⟨[.ref a],[]⟩) (λr s'=>r = .ok (.ret (.bool true))/\OldK s₁.heap s'.heap/\s'.os=s₁.os/\AllBare s'.gens) s₁:=by
 have rv:=KE hi;have lenV:=hi.length;have naT:∀ p∈TABS,p.1≠a:=λp hp z=>by
  have e:=T.at_ p hp;rw [z,ha] at e;cases e
 have core:∀ H:Hp,Only H->SqL K H a (ns.map V.int)->HOk P w H s₁.heap->(∀ b,H b≠none->b=a∨∃ p∈TABS,p.1=b)->(∀ b,H b≠none->K.lookup b=none)->(∀ p∈TABS,H p.1=some (.tbl p.2.1 p.2.2)) ->
   codeAny (model P w) callerA (.call (.ref fa) ⟨[.ref a],[]⟩) (λr s'=>r = .ok (.ret (.bool true))/\OldK s₁.heap s'.heap/\s'.os=s₁.os/\AllBare s'.gens) s₁:=by
  intro H hO hS hok hA hK hT;have base_of:∀{b:Addr}{o:Obj},s₁.heap.get? b=some o->H b=none->(zK s₁.heap H).get? b=some o:=λe n=>Px e n;have noA:∀{b:Addr}{o:Obj}{es:Array DictEntry}{ep:Nat},s₁.heap.get? b=some o->o.data = .dict es ep->H b=none:=λ{b o es ep} e d=>by
   cases q:H b with
   |none=>rfl
   |some u =>
    rcases hA b (by rw [q];simp) with e'|⟨p,hp,e'⟩
    ·subst e';rw [ha] at e;cases e;have d':Data.seq vs.toArray _=Data.dict es ep:=d;cases d'
    ·subst e';rw [T.at_ p hp] at e;cases e;have d':Data.fields p.2.1=Data.dict es ep:=d;cases d'
  have nsK:∀{b:Addr}{m:Str->Option Value},s₁.heap.Ns b m->(zK s₁.heap H).Ns b m:=λ{b m} ⟨o,es,ep,e,d,r⟩=>⟨o,es,ep,base_of e (noA e d),d,r⟩;have hKb:K.In (zK s₁.heap H):=λb o e=>base_of (KX b o e) (by
   cases q:H b with
   |none=>rfl
   |some u=>rw [hK b (by rw [q];simp)] at e;cases e)
  have noP:∀{b:Addr}{o:Obj},s₁.heap.get? b=some o->o.data = .plain->H b=none:=λ{b o} e d=>by
   cases q:H b with
   |none=>rfl
   |some u =>
    rcases hA b (by rw [q];simp) with e'|⟨p,hp,e'⟩
    ·subst e';rw [ha] at e;cases e;have d':Data.seq vs.toArray _=Data.plain:=d;cases d'
    ·subst e';rw [T.at_ p hp] at e;cases e;have d':Data.fields p.2.1=Data.plain:=d;cases d'
  have hM:Mod K mg (zK s₁.heap H):=⟨hKb,nsK hns,⟨mb,nsK hb,hbb⟩,let ⟨mc,h1,h2⟩:=hlim;⟨mc,nsK h1,h2⟩,let ⟨bm,ob,b1,b2,b3,b4,b5,b6⟩:=hbm;⟨bm,ob,b1,b2,base_of b3 (noP b3 b6),b4,b5,b6⟩⟩;have e0:Env0 P w K mg (zK s₁.heap H) callerA [] s₁ H:=⟨rfl,hM,λb o e=>Dm e,Nat.le_of_eq (Py _ _),trivial,λb hb=>absurd (show b∈([]:List Addr) from hb) (by simp),hok,.of_eq hg,hT⟩;refine codeAny_mono ((F _ hKb (nsK hns)).run callerA [] s₁ H ⟨[.ref a],[]⟩ [.ref a] [.ref a] _ _ hr e0 (hbind s₁ (.ref a)) (.cons rfl .nil) (hsp H hO hS)) λr s' h=>?_;cases r with
  |error e=>exact (hCX H e s' h).elim
  |ok fl =>
   cases fl with
   |next=>exact False.elim h
   |brk=>exact False.elim h
   |cont=>exact False.elim h
   |ret u =>
    obtain ⟨v,H',os,bare,un,hok',r',q⟩:=h;have q':v = .bl true:=q;subst q';obtain rfl:u=Value.bool true:=r';refine ⟨rfl,⟨λb o e=>?_,λb o e=>un.there b o e (by simp)⟩,os,bare⟩;rcases hO b with z|⟨ob,xs,z⟩|⟨p,hp,rfl,z⟩
    ·exact .inl (un.keep b o e z (by intro z;exact absurd (show b∈([]:List Addr) from z) (by simp)) (by simp))
    ·have z2:=un.frzs b ob _ z;obtain ⟨e1,_⟩:=hok b _ z;obtain ⟨e2,_⟩:=hok' b _ z2;rw [e] at e1;cases e1;exact .inl e2
    ·have z2:=un.tbls p.1 _ _ z;obtain ⟨more,e2,_⟩:=hok' p.1 _ z2;rw [T.at_ p hp] at e;cases e;exact .inr (.inl ⟨T.tab p hp,rfl,p.2.1,more,rfl,e2⟩)
 have tok:∀{H:Hp}{p:Addr×Array Value×List (Pos×Str)},p∈TABS->ObjOk P w H s₁.heap p.1 (.tbl p.2.1 p.2.2):=λ{H p} hp =>
  ⟨#[],by rw [Array.append_empty];exact T.at_ p hp,by rw [Array.append_empty];exact T.tri p hp,λq hq=> .inl (by rw [Array.append_empty];exact T.non p hp q hq)⟩
 have only:∀ b,xI b=none∨(∃ o xs,xI b=some (.frz o (.lst xs)))∨∃ p∈TABS,p.1=b/\xI b=some (.tbl p.2.1 p.2.2):=λb=>by
  cases q:xI b with
  |none=>exact .inl rfl
  |some u=>obtain ⟨p,hp,e1,rfl⟩:=XQ q;exact .inr (.inr ⟨p,hp,e1,rfl⟩)
 have mine:∀ b,xI b≠none->∃ p∈TABS,p.1=b:=λb z=>by
  cases q:xI b with
  |none=>exact absurd q z
  |some u=>obtain ⟨p,hp,e1,_⟩:=XQ q;exact ⟨p,hp,e1⟩
 cases hk:K.lookup a with
 |some o =>
  have e:=KX a o hk;rw [ha] at e;cases e;refine core xI only (.inr ⟨_,vs.toArray,_,hk,rfl,rfl,rfl,by rw [yY,lenV];exact hl,by simpa using rv⟩) (λb u z=>?_) (λb z=> .inr (mine b z)) (λb z=>?_) λp hp=>Kq T hp
  ·obtain ⟨p,hp,rfl,rfl⟩:=XQ z;exact tok hp
  ·obtain ⟨p,hp,rfl⟩:=mine b z;exact T.out p hp
 |none =>
  refine core (λb=>if b=a then some (.frz { cls:= .type "list",data:= .seq vs.toArray } (.lst (ns.map V.int))) else xI b) (λb=>?_) (.inl (.inr ⟨{ cls:= .type "list",data:= .seq vs.toArray },if_pos rfl⟩)) (λb u z=>?_) (λb z=>?_) (λb z=>?_) λp hp=>?_
  ·by_cases hb:b=a
   ·exact .inr (.inl ⟨_,_,if_pos hb⟩)
   ·rcases only b with z|⟨o,xs,z⟩|⟨p,hp,e1,z⟩
    ·exact .inl ((if_neg hb).trans z)
    ·exact .inr (.inl ⟨o,xs,(if_neg hb).trans z⟩)
    ·exact .inr (.inr ⟨p,hp,e1,(if_neg hb).trans z⟩)
  ·by_cases hb:b=a
   ·have z':=(if_pos hb).symm.trans z;cases z';subst hb;exact ⟨ha,by rw [yZ];exact hl,vs,_,rv,ha⟩
   ·have z':=(if_neg hb).symm.trans z;obtain ⟨p,hp,rfl,rfl⟩:=XQ z';exact tok hp
  ·by_cases hb:b=a
   ·exact .inl hb
   ·exact .inr (mine b λq=>z ((if_neg hb).trans q))
  ·by_cases hb:b=a
   ·rw [hb];exact hk
   ·obtain ⟨p,hp,rfl⟩:=mine b λq=>z ((if_neg hb).trans q);exact T.out p hp
  ·exact (if_neg (naT p hp)).trans (Kq T hp)
theorem Rw {l:PySem.W.OpenLaw}{k:Nat}{q:Program}{loose:List Str}{XP:(Str->Option Value)->Heap->Prop}{YP:World->Heap->Prop}{d:DefRec}{K:Params->Fg}{CX:World->CXT}{sp:World->Sp}(hn:l.most=some n)(hn2:n<=sizeLine)(hdf:d.params.defaults=[])(hr:Room k callerA)(hY:∀(w:World)(h:Heap),YP w h->(K w.params).In h)(F:∀(w:World)(mg:Str->Option Value)(fa:Addr)(h:Heap),YP w h->(K w.params).In h->h.Ns mainGlobals mg->mg d.name=some (.ref fa) -> ∃ fd:FuncData,(∀(s:Shared)(u:Value),BindsTo s fd ⟨[u],[]⟩ [(x,u)])/\vy (K w.params) h /\ ∀ base:Heap,(K w.params).In base->base.Ns mainGlobals mg->FnOk l.prog w (K w.params) mg base (CX w) k fa fd [x] (sp w))(hsp:∀(w:World)(H:Hp)(a:Addr)(ns:List Int),ns.length<=n->Only H->SqL (K w.params) H a (ns.map V.int)->sp w [.ref a] H (λv _=>v = .bl true) λ_ _ _=>False)(hCX:∀(w:World)(H:Hp)(s:Shared)(e:Value)(s':Shared),CX w [] H s (λ_ _ _=>False) e s'->False):PySem.W.WalkO q loose XP YP l.row.toRowW d [] (λf vs=>PySem.call f vs):=by refine Att.attach_call hn hdf λw s₀ s₁ mg mb fa o pm cd doc a vs ns G Y ho hd hcd hmg hobj hints hlen hg=>?_;have KX:=hY w _ Y;obtain ⟨fd,hb,hT,hF⟩:=F w mg fa _ Y KX G.T.g hmg;exact CN KX hT G.T.g G.T.b G.T.builtins G.T.nolimit G.T.bmain hg hobj hints (yp hlen hn2) hr hF hb (λH hO hS=>hsp w H a ns hlen hO hS) λH e s'=>hCX w H s₁ e s'
def vJ (s:Stmt)(j:Nat):Stmt:=match s with
 | .ClassDef _ _ _ body _ _ _ _ _ _ _=>body.getD j (.Pass ⟨0,0,0,0⟩)
 |_=> .Pass ⟨0,0,0,0⟩
def xl (s:Stmt):Arguments:=match s with
 | .FunctionDef _ a _ _ _ _ _ _ _ _=>a
 |_=>{ posonlyargs:=[],args:=[],vararg:=none,kwonlyargs:=[],kw_defaults:=[],kwarg:=none,defaults:=[] }
def o3 (s:Stmt):List Stmt:=match s with
 | .FunctionDef _ _ b _ _ _ _ _ _ _=>b
 |_=>[]
def z9 (s:Stmt):Scope:=match s with
 | .FunctionDef _ _ _ _ _ _ sc _ _ _=>sc
 |_=>{ kind:= .function,names:=[],isGenerator:=false,isCoroutine:=false }
abbrev j6:CXT:=λ_ _ _ _ _ _=>False
abbrev E0:XK:=λ_ _ _=>False
theorem Xs {X:Cx}:ju j6 X E0:=λ_ _ _ _ _ _ _ h=>h.elim
structure Fun (K:Fg)(x qual:Str)(st:Stmt)(f:Addr)(fd:FuncData):Prop where
 ex:∃(oc:Value)(od:Option Addr)(kV doc pm:Value)(an:Option Addr)(cdv ct:Value)(osl:Array (Option Value)),
  fd=PySem.W.fnOf x qual (xl st) (o3 st) (z9 st) .none kV doc pm an cdv ct/\K.lookup f=some ⟨oc,od,.func fd,osl⟩/\PySem.W.codeIn K cdv qual=true
 kp:PySem.W.keepIn K (.ref f)=true
section
variable {P:Program}{w:World}{K:Fg}{mg:Str->Option Value}{base:Heap}
theorem Fun.ok {N:List Str}{k:Nat}(F:Fun K x qual st f fd)(S:v8 N ps (z9 st))(len:∀ vs H Q E,sp vs H Q E->vs.length=ps.length)(hbody:∀(cdv:Value)(A:Around)(outer:List Env)(s:Shared)(H:Hp)(vs:List V)(Q:VK)(E:XK),Room k (A.deeper (envOfC qual (z9 st) s.heap.objs.size f cdv))->sp vs H Q E -> ∃ t,PSs (qR j6 P w K mg base N qual (z9 st) f cdv A outer s H E).nox (o3 st) t/\t { nx:=λ_ H'=>Q .non H',rt:=Q } (start N vs) H):FnOk P w K mg base j6 (k+1) f fd ps sp:=by obtain ⟨oc,od,kV,doc,pm,an,cdv,ct,osl,rfl,lk,hcd⟩:=F.ex;refine Zv lk hcd S len λA outer s H vs Q E hr hsp=>?_;obtain ⟨t,h,q⟩:=hbody cdv A outer s H vs Q E hr hsp;exact ⟨t,h.nox,q⟩
theorem Fun.binds (F:Fun K x qual st f fd)(h:∀(kV doc pm:Value)(an:Option Addr)(cdv ct:Value)(us:List Value),us.length=ps.length->bindArgs (PySem.W.fnOf x qual (xl st) (o3 st) (z9 st) .none kV doc pm an cdv ct) ⟨us,[]⟩=pure (ps.zip us)):Binds K fd ps []:=by obtain ⟨oc,od,kV,doc,pm,an,cdv,ct,osl,rfl,lk,hcd⟩:=F.ex;exact .all (h kV doc pm an cdv ct)
theorem jK {oc:Value}{od an:Option Addr}{osl:Array (Option Value)}{kV doc pm cdv ct:Value}(l:K.lookup f=some ⟨oc,od,.func (PySem.W.fnOf x qual (xl st) (o3 st) (z9 st) .none kV doc pm an cdv ct),osl⟩)(c:PySem.W.codeIn K cdv qual=true)(k:PySem.W.keepIn K (.ref f)=true):Fun K x qual st f (PySem.W.fnOf x qual (xl st) (o3 st) (z9 st) .none kV doc pm an cdv ct):=⟨⟨oc,od,kV,doc,pm,an,cdv,ct,osl,rfl,l,c⟩,k⟩
end
theorem xg {A:Around}{k:Nat}(hr:Room k A):A.units+1<cLine:=Nat.lt_of_le_of_lt (Nat.add_le_add_left (by decide:1<=64) _) hr.units
theorem wd (h:n<=1000):n<sizeLine:=Nat.lt_of_le_of_lt h (by decide)
section
variable {X:Cx}
theorem pv (i:Nat){pos:Pos}(hN:X.N[i]?=some x:=by rfl)(hv:Vis X.env.scope x:=by first|exact Or.inl rfl|exact Or.inr (Or.inl rfl)|exact Or.inr (Or.inr rfl))(hd:(x==("__debug__":Str))=false:=by decide)(hcd:(x==("__classdict__":Str))=false:=by decide):PE X (.Name x pos) (c6 i):=MX hN hv hd hcd
theorem Bv:CallR X (.builtin "len") (λxs H Q=>∃ a kvs,xs=[V.ref a]/\H a=some (.dK kvs)/\Q (.int kvs.length) H):=by intro pins s σ H xs us Q I r h;obtain ⟨a,kvs,rfl,ha,q⟩:=h;obtain ⟨u,rfl,ru⟩:=xJ r;cases ru;exact d_len I (.inl ha) λt s' I'=>⟨.int kvs.length,H,I',⟨t,rfl⟩,q⟩
end
theorem qX (h:B):if false=true then A else B:=by rw [if_neg yS];exact h
theorem qY (h:A):if true=true then A else B:=by rw [if_pos rfl];exact h
theorem ite2 {c:Prop}[Decidable c](h1:c->A)(h2:¬ c->B):if c then A else B:=by
 by_cases h:c
 ·rw [if_pos h];exact h1 h
 ·rw [if_neg h];exact h2 h
def Same (H H':Hp):Prop:=∀ b o,H b=some o->H' b=some o
theorem Same.refl (H:Hp):Same H H:=λ_ _ h=>h
theorem Same.trans {H1 H2:Hp}(a:Same H H1)(b:Same H1 H2):Same H H2:=λc o h=>b c o (a c o h)
theorem Same.free (e:Same H H'){l:Addr}(h:H' l=Option.none):H l=Option.none:=by
 cases q:H l with
 |none=>rfl
 |some o=>rw [e l o q] at h;cases h
theorem Same.seq {xs:List V}(e:Same H H')(h:SqL K H a xs):SqL K H' a xs:=by
 rcases h with (h|⟨o,h⟩)|h
 ·exact .inl (.inl (e _ _ h))
 ·exact .inl (.inr ⟨o,e _ _ h⟩)
 ·exact .inr h
end L2
set_option maxHeartbeats 4000000
set_option synthInstance.maxHeartbeats 4000000
set_option synthInstance.maxSize 4096
namespace L2
open PySem PySem.Spec PyProof.Rows
variable{c elt iter tg:Expr}{ifs:List Expr}{scope:Scope}{pos:Pos}{env:Env}{X:Cx}{o:Option V}{σ:St}{tt:TT}{te:TE}{wi:TI}{K:Fg}
section
variable {prog:Program}{w:World}{A:Around}{R:Result->Shared->Prop}{s:Shared}
theorem BJ {target:Expr}{it acc:Value}(I:Nat->Shared->Prop)
  (turn:∀ n s,I n s->wpAny (model prog w) A (pyNext it) (λr s₁=>match r with
   |none=>R (.ok .next) s₁
   |some v=>wpAny (model prog w) A (letOwnedTupleGo target it v) (λ_ s₀=>wpAny (model prog w) A (assign target env v) (λ_ s₂ =>
     wpAny (model prog w) A (forIn ifs true λc r=>if r=true then do let ok <- isTrue c env (eval c env);pure (ForInStep.yield ok) else pure (ForInStep.yield r)) (λok s₃ =>
      if ok=true then wpAny (model prog w) A (eval elt env) (λx s₄ =>
       wpAny (model prog w) A (call (.builtin "list.append") [acc,x]) (λ_ s₅=>∃ m,m<n/\I m s₅) (λ_ _=>False) s₄) (λ_ _=>False) s₃
      else ∃ m,m<n/\I m s₃) (λ_ _=>False) s₂) (λ_ _=>False) s₀) (λ_ _=>False) s₁) (λ_ _=>False) s)
  (n:Nat) (h:I n s) :
  codeAny (model prog w) A (.compLoop (.ListComp elt [⟨target,iter,ifs,0⟩] scope pos) 0 it acc env) R s:=by
 refine codeAny_loop rfl I (λn s hI=>?_) n h;show wpAny _ A ((compTurn (.ListComp elt [⟨target,iter,ifs,0⟩] scope pos) 0 it acc env).onRaise (λx=>do noteFrame x env;theTreesLotGoes x)) _ _ s;refine wpAny_noted (wpAny_noRaise ?_);rw [compTurn_list];refine yV (wpAny_standAt (yV (z8 (turn n s hI) λr s₁ h₁=>?_)));cases r with
 |none=>exact yG h₁
 |some v =>
  refine yV (z8 h₁ λ_ s₀ h₀=>?_);refine yV (z8 h₀ λ_ s₂ h₂=>yV (z8 h₂ λok s₃ h₃=>?_));cases ok with
  |false=>exact yG ⟨rfl,h₃⟩
  |true=>exact yV (yV (z8 h₃ λx s₄ h₄=>yV (z8 h₄ λ_ s₅ h₅=>yG (yG ⟨rfl,h₅⟩))))
end
theorem Ud {α β:Type}{f:α->β->Sem (ForInStep β)}(g:α->β->β):∀(l:List α)(b:β),(∀ a∈l,∀ b,f a b=pure (.yield (g a b)))->forIn l b f=(pure (l.foldl (λb a=>g a b) b):Sem β)
 |[],_,_=>rfl
 |x::l,b,h=>by
  rw [List.forIn_cons,h x yQ,pure_bind];exact Ud g l (g x b) λy hy=>h y (yN _ hy)
def zG (env:Env)(y:Str×NameKind)(cs:List (Str×Addr)):List (Str×Addr):=if y.2 == .free then (y.1,(env.cells.lookup y.1).getD 0)::cs else cs
theorem Yy (env:Env):∀(l:List (Str×NameKind))(cs:List (Str×Addr)),(∀ y∈l,y.2 = .free->∃ c,env.cells.lookup y.1=some c)->(∀ x c,cs.lookup x=some c->env.cells.lookup x=some c) -> (∀ x c,(l.foldl (λb a=>zG env a b) cs).lookup x=some c->env.cells.lookup x=some c)
 |[],_,_,h=>h
 |(n,k)::l,cs,hl,h=>by
  refine Yy env l _ (λy hy=>hl y (yN _ hy)) λx c e=>?_;unfold zG at e
  dsimp only at e
  cases hk:(k==NameKind.free) with
  |false=>rw [hk,if_neg yS] at e;exact h x c e
  |true =>
   rw [hk,if_pos rfl] at e;obtain ⟨c0,e0⟩:=hl (n,k) yQ (by simpa using hk);cases hx:x==n with
   |true =>
    rw [uO,hx] at e;have hx':x=n:=by simpa using hx
    subst hx';have e':(List.lookup x env.cells).getD 0=c:=Option.some.inj e;have e0':List.lookup x env.cells=some c0:=e0;rw [e0'] at e';rw [e0',<- e'];rfl
   |false=>rw [uO,hx] at e;exact h x c e
theorem Yz (env:Env)(x:Str):∀(l:List (Str×NameKind))(cs:List (Str×Addr)),(∃ c,cs.lookup x=some c)->∃ c,(l.foldl (λb a=>zG env a b) cs).lookup x=some c
 |[],_,h=>h
 |(n,k)::l,cs,h=>by
  refine Yz env x l _ ?_;unfold zG
  dsimp only
  split
  ·rw [uO];cases hx:x==n with
   |true=>exact ⟨_,rfl⟩
   |false=>exact h
  ·exact h
theorem Yx (env:Env):∀(l:List (Str×NameKind))(cs:List (Str×Addr)),∀ y∈l,y.2 = .free->∃ c,(l.foldl (λb a=>zG env a b) cs).lookup y.1=some c
 |[],_,_,h,_=>nomatch h
 |z::l,cs,y,h,hf=>by
  rcases yP.mp h with e|h
  ·subst e;refine Yz env y.1 l _ ?_;unfold zG
   dsimp only
   rw [hf,if_pos (by rfl),uO,beq_self_eq_true];exact ⟨_,rfl⟩
  ·exact Yx env l _ y h hf
theorem YA (h:∀ y∈scope.names,y.2 = .free->∃ c,env.cells.lookup y.1=some c):∃ cl,closureFor scope env=pure cl/\(∀ x c,cl.lookup x=some c->env.cells.lookup x=some c)/\∀ y∈scope.names,y.2 = .free->∃ c,cl.lookup y.1=some c:=by
 refine ⟨scope.names.foldl (λb a=>zG env a b) [],?_,Yy env _ _ h (λx c e=>by cases e),Yx env _ _⟩;simp only [closureFor];rw [Ud (zG env) scope.names [] (λy hy b=>?_)]
 ·rfl
 ·obtain ⟨n,k⟩:=y;unfold zG;cases hk:(k==NameKind.free) with
  |false=>simp only [hk,uF,if_false]<;>rfl
  |true=>obtain ⟨c,e⟩:=h (n,k) hy (by simpa using hk);have e':List.lookup n env.cells=some c:=e;simp only [hk,if_true,cellOf,e'];rfl
theorem GM (env:Env)(n:Str)(k:NameKind)(r:List (Str×NameKind))(x:Str):((List.map (λ(n,k)=>if (k==NameKind.free&&env.scope.kind == .function&&env.kindOf n==some .cell) then (n,NameKind.cell) else (n,k)) ((n,k)::r)).lookup x) = (if x==n then some (if (k==NameKind.free&&env.scope.kind == .function&&env.kindOf n==some .cell) then NameKind.cell else k) else (List.map (λ(n,k)=>if (k==NameKind.free&&env.scope.kind == .function&&env.kindOf n==some .cell) then (n,NameKind.cell) else (n,k)) r).lookup x):=by
 rw [yO];show List.lookup x ((if (k==NameKind.free&&env.scope.kind == .function&&env.kindOf n==some .cell)=true then (n,NameKind.cell) else (n,k))::_)=_;by_cases hc:(k==NameKind.free&&env.scope.kind == .function&&env.kindOf n==some .cell)=true
 ·rw [if_pos hc,if_pos hc,uO];cases x==n<;>rfl
 ·rw [if_neg hc,if_neg hc,uO];cases x==n<;>rfl
theorem GO {env:Env}{x:Str}{k:NameKind}:∀{names:List (Str×NameKind)}, (names.map λ(n,k)=>if (k==NameKind.free&&env.scope.kind == .function&&env.kindOf n==some .cell) then (n,NameKind.cell) else (n,k)).lookup x=some k -> ∃ k',names.lookup x=some k'/\(k'=k∨(k' = .free/\k = .cell))
 |[],h=>by simp at h
 |(n,q)::r,h=>by
  rw [GM] at h;rw [uO];cases hx:x==n with
  |true =>
   rw [hx,if_pos rfl] at h;have h':=Option.some.inj h;refine ⟨q,rfl,?_⟩;by_cases hc:(q==NameKind.free&&env.scope.kind == .function&&env.kindOf n==some .cell)=true
   ·rw [if_pos hc] at h';have hq:(q==NameKind.free)=true:=by
     cases z:(q==NameKind.free) with
     |true=>rfl
     |false=>rw [z] at hc;simp at hc
    exact .inr ⟨by simpa using hq,h'.symm⟩
   ·rw [if_neg hc] at h';exact .inl h'
  |false=>rw [hx,if_neg yS] at h;exact GO h
theorem GN {env:Env}{x:Str}:∀{names:List (Str×NameKind)},names.lookup x=some .free -> (names.map λ(n,k)=>if (k==NameKind.free&&env.scope.kind == .function&&env.kindOf n==some .cell) then (n,NameKind.cell) else (n,k)).lookup x=some .cell∨(names.map λ(n,k)=>if (k==NameKind.free&&env.scope.kind == .function&&env.kindOf n==some .cell) then (n,NameKind.cell) else (n,k)).lookup x=some .free
 |[],h=>by simp at h
 |(n,q)::r,h=>by
  rw [GM];rw [uO] at h;cases hx:x==n with
  |true =>
   rw [hx] at h;have h':q = .free:=Option.some.inj h;rw [if_pos rfl];by_cases hc:(q==NameKind.free&&env.scope.kind == .function&&env.kindOf n==some .cell)=true
   ·rw [if_pos hc];exact .inl rfl
   ·rw [if_neg hc,h'];exact .inr rfl
  |false=>rw [hx] at h;rw [if_neg yS];exact GN h
def b7 (cap:List (Option Nat))(σ:St):St:=cap.map λo=>o.bind λi=>(σ[i]?).join
structure vm (X:Cx)(N':List Str)(cap:List (Option Nat))(sc:Scope):Prop where
 kind:sc.kind = .function
 nocell:∀ y∈sc.names,y.2 ≠ .cell
 names:∀ y∈sc.names,y.2 = .local->sc.names.lookup y.1=some .local
 free:∀ y∈sc.names,y.2 = .free->X.env.kindOf y.1=some .cell∨X.env.kindOf y.1=some .free
 len:cap.length=N'.length
 cap:∀(j i:Nat),cap[j]?=some (some i)->∃ x,N'[j]?=some x/\X.N[i]?=some x/\sc.names.lookup x=some .free
def Uy:Option NameKind->Bool
 |some .cell=>true
 |some .free=>true
 |_=>false
theorem CI {k:Option NameKind}(h:Uy k=true):k=some .cell∨k=some .free:=by
 cases k with
 |none=>cases h
 |some k=>cases k<;>first|exact .inl rfl|exact .inr rfl|cases h
def Xn (names:List (Str×NameKind))(kd:Str->Option NameKind)(y:Str×NameKind):Bool :=
 match y.2 with
 | .cell=>false
 | .local=>names.lookup y.1==some .local
 | .free=>Uy (kd y.1)
 |_=>true
def zi (N:List Str)(sc:Scope):List Str->List (Option Nat)->Bool
 |[],[]=>true
 |_::r,none::c=>zi N sc r c
 |x::r,some i::c=>N[i]?==some x&&(sc.names.lookup x==some .free&&zi N sc r c)
 |_,_=>false
theorem Zc {N:List Str}{sc:Scope}:∀{xs:List Str}{c:List (Option Nat)},zi N sc xs c=true->c.length=xs.length
 |[],[],_=>rfl
 |_::r,none::c,h=>by
  have h':zi N sc r c=true:=h;simp [Zc h']
 |x::r,some i::c,h=>by
  have h':(N[i]?==some x&&(sc.names.lookup x==some .free&&zi N sc r c))=true:=h;simp only [yf] at h';simp [Zc h'.2.2]
 |[],_::_,h=>by cases h
 |_::_,[],h=>by cases h
theorem Zb {N:List Str}{sc:Scope}:∀{xs:List Str}{c:List (Option Nat)},zi N sc xs c=true->∀(j i:Nat),c[j]?=some (some i)->∃ x,xs[j]?=some x/\N[i]?=some x/\sc.names.lookup x=some .free
 |[],[],_,j,i,e=>by simp at e
 |_::r,none::c,h,0,i,e=>by simp at e
 |_::r,none::c,h,j+1,i,e=>by
  have h':zi N sc r c=true:=h;obtain ⟨x,h1,h2⟩:=Zb h' j i (by simpa using e);exact ⟨x,by simpa using h1,h2⟩
 |x::r,some k::c,h,0,i,e=>by
  have h':(N[k]?==some x&&(sc.names.lookup x==some .free&&zi N sc r c))=true:=h;simp only [yf] at h';have e':k=i:=by simpa using e
  subst e';exact ⟨x,rfl,by simpa using h'.1,by simpa using h'.2.1⟩
 |x::r,some k::c,h,j+1,i,e=>by
  have h':(N[k]?==some x&&(sc.names.lookup x==some .free&&zi N sc r c))=true:=h;simp only [yf] at h';obtain ⟨x',h1,h2⟩:=Zb h'.2.2 j i (by simpa using e);exact ⟨x',by simpa using h1,h2⟩
 |[],_::_,h,_,_,_=>by cases h
 |_::_,[],h,_,_,_=>by cases h
theorem k8 {N':List Str}{cap:List (Option Nat)}{sc:Scope}(h1:sc.kind = .function)(h2:(sc.names.all λy=>Xn sc.names X.env.kindOf y)=true)(h3:zi X.N sc N' cap=true):vm X N' cap sc:=by
 have h2':=uH.mp h2;refine ⟨h1,λy hy e=>?_,λy hy e=>?_,λy hy e=>?_,Zc h3,Zb h3⟩
 ·have q:=h2' y hy;unfold Xn at q;rw [e] at q;cases q
 ·have q:=h2' y hy;unfold Xn at q;rw [e] at q;simpa using q
 ·have q:=h2' y hy;unfold Xn at q;rw [e] at q;exact CI q
def qj (X:Cx)(N':List Str)(sc:Scope)(cl:List (Str×Addr))(C:Addr)(s:Shared)(H:Hp)(fp:List Addr)(pn:List (Addr×Obj)):Cx where
 prog:=X.prog
 w:=X.w
 K:=X.K
 mg:=X.mg
 base:=X.base
 A:=X.A
 N:=N'
 s₀:=s
 H₀:=H
 env:=compEnvC sc cl C X.env
 outer:=X.stack
 stack:=X.stack
 ex:=fp
 fn:=λ_=>false
 calm:=X.calm
 pn:=pn
 xe:=λ_ _=>False
section
variable {X:Cx}{pins:List (Addr×Obj)}{σ:St}{H:Hp}{s:Shared}{h1:Heap}{N':List Str}{cap:List (Option Nat)}{sc:Scope}{cl:List (Str×Addr)}{fp:List Addr}{C D:Addr}
theorem BN (I:Inv X pins σ H s)(S:vm X N' cap sc)(hc1:∀ x c,cl.lookup x=some c->X.env.cells.lookup x=some c)(hc2:∀ y∈sc.names,y.2 = .free->∃ c,cl.lookup y.1=some c)(hf:∀ b∈fp,qO X pins H b)(ho:∀ b∈fp,b<s.heap.objs.size)(hC:s.heap.objs.size<=C):(qj X N' sc cl C s H fp (X.pn++pins)).Ok where
 mod:=I.ok.mod
 kind:=S.kind
 glob:=I.ok.glob
 blt:=I.ok.blt
 above:=hC
 inj:=λx y c e1 e2=>I.ok.inj x y c (hc1 x c e1) (hc1 y c e2)
 has:=λx hx=>by
  have key:∀ k,(relabel sc X.env).names.lookup x=some k->(k = .cell∨k = .free)->∃ c,cl.lookup x=some c:=λk e hk=>by
   obtain ⟨k',e',q⟩:=GO e;have hm:=PySem.mem_of_lookup e';have hfree:k' = .free:=by
    rcases q with q|q
    ·rcases hk with z|z
     ·exact absurd (q.trans z) (S.nocell _ hm)
     ·exact q.trans z
    ·exact q.1
   exact hc2 (x,k') hm hfree
  rcases hx with e|e
  ·exact key _ e (.inl rfl)
  ·exact key _ e (.inr rfl)
 cab:=λx c hx _=>by cases hx
 hd:=I.ok.hd
 frames:=I.ok.frames
 stk:= .inl rfl
 exf:=λb hb=>⟨yK (yH (ho b hb) hC),λx c e=>(hf b hb).2.2.2.2.1 x c (hc1 x c e)⟩
 bs:=I.bs
 bsz:=yp I.ok.bsz I.sz
 noex:=λb o e hb=>by
  rcases (hf b hb).2.2.2.1 with z|z
  ·exact I.ok.noex b o e z
  ·exact absurd (yH (yT e) (yp I.ok.bsz z)) (uV _)
 exfs:=λb hb hz=>by
  rcases yP.mp (I.stkSub b hz) with e|e
  ·exact (hf b hb).2.1 e
  ·exact (hf b hb).2.2.1 e
 funs:=I.stack
 frf:=I.stkFree
 tbs:=λp hp=>I.base.tbls _ _ _ (I.ok.tbs p hp)
theorem Cc {m0:Str->Option Value}{o:Obj}(I:Inv X pins σ H s)(S:vm X N' cap sc)(hc1:∀ x c,cl.lookup x=some c->X.env.cells.lookup x=some c)(hc2:∀ y∈sc.names,y.2 = .free->∃ c,cl.lookup y.1=some c)(hf:∀ b∈fp,qO X pins H b)(ho:∀ b∈fp,b<s.heap.objs.size)(hD:s.heap.objs.size<=D)(hC:D<C)(hDo:h1.get? D=some o)(hoc:∀ v,o.data ≠ .cell v)(hns:h1.Ns C m0)(hk:∀ b o,s.heap.get? b=some o->h1.get? b=some o)(t:Nat):Inv (qj X N' sc cl C s H fp (X.pn++pins)) [(D,o)] (b7 cap σ) H { s with heap:=h1,toks:=t }:=by
 have hCs:s.heap.objs.size<=C:=yp hD (uS hC);have lt_s:∀ b o,s.heap.get? b=some o->b≠C:=λb o e=>yK (yH (yT e) hCs);refine ⟨BN I S hc1 hc2 hf ho hCs,rfl,I.bare,Un.kept hk,⟨m0,hns,λj x v e1 e2 e3=>?_⟩,λx c e=>?_,I.hok.fresh hCs,λx c e=>I.freeC x c (hc1 x c e),λp hp=>?_,I.hok.kept hk,?_⟩
 ·obtain ⟨i,hi,hσ⟩:∃ i,cap[j]?=some (some i)/\σ[i]?=some (some v):=by
   unfold b7 at e2;rw [yM] at e2;cases hc:cap[j]? with
   |none=>rw [hc] at e2;cases e2
   |some o' =>
    rw [hc] at e2;have e2':(o'.bind λi=>(σ[i]?).join)=some v:=Option.some.inj e2;cases o' with
    |none=>cases e2'
    |some i =>
     refine ⟨i,rfl,?_⟩;have e3':(σ[i]?).join=some v:=e2';cases hs:σ[i]? with
     |none=>rw [hs] at e3';cases e3'
     |some q=>rw [hs] at e3';exact congrArg some e3'
  obtain ⟨x',n1,n2,n3⟩:=S.cap j i hi;have e1':N'[j]?=some x:=e1;rw [n1] at e1';obtain rfl:x'=x:=Option.some.inj e1';have hkd:=S.free (x',.free) (PySem.mem_of_lookup n3) rfl;obtain ⟨m,_,hl⟩:=I.loc;obtain ⟨u,r,l⟩:=hl i x' v n2 hσ (by
   rcases hkd with z|z
   ·exact .inr (.inl z)
   ·exact .inr (.inr z))
  refine ⟨u,r,?_⟩;rcases l with ⟨l1,_⟩|⟨_,c,ec,hcell⟩
  ·rcases hkd with z|z
   ·exact absurd (l1.symm.trans z) (by simp)
   ·exact absurd (l1.symm.trans z) (by simp)
  ·obtain ⟨c',ec'⟩:=hc2 (x',.free) (PySem.mem_of_lookup n3) rfl;have q:=hc1 x' c' ec';rw [ec] at q;obtain rfl:c=c':=Option.some.inj q;refine .inr ⟨GN n3,c,ec',?_⟩;obtain ⟨oc,hoc',hd⟩:=hcell;exact ⟨oc,hk _ _ hoc',hd⟩
 ·obtain ⟨v,oc,hoc',hd⟩:=I.cell x c (hc1 x c e);exact ⟨v,oc,hk _ _ hoc',hd⟩
 ·rcases yu.mp hp with hp|hp
  ·obtain ⟨e,n,ne,nf,d⟩:=I.pin p hp;refine ⟨hk _ _ e,n,lt_s _ _ e,λhz=>?_,d⟩;rcases yP.mp (I.stkSub _ hz) with e'|e'
   ·exact ne e'
   ·exact nf e'
  ·have e:p=(D,o):=by simpa using hp
   subst e;refine ⟨hDo,I.hok.fresh hD,yK hC,λhz=>?_,hoc⟩;rcases yP.mp (I.stkSub _ hz) with e'|e'
   ·exact absurd (yH I.lt hD) (by rw [show X.env.locals=D from e'.symm];exact uV _)
   ·exact I.nofs hD e'
 ·unfold b7;rw [yZ];exact S.len
end
structure Wk (σ σ':St):Prop where
 len:σ.length=σ'.length
 at':∀(i:Nat) v,σ[i]?=some (some v)->σ'[i]?=some (some v)
theorem Wk.refl (σ:St):Wk σ σ:=⟨rfl,λ_ _ h=>h⟩
theorem Wk.set {σ':St}{i:Nat}(w:Wk σ σ')(h:σ[i]?=some none):Wk σ (σ'.set i o):=by
 refine ⟨by rw [yd];exact w.len,λj v e=>?_⟩;have ne:i≠j:=λz=>by rw [<- z,h] at e;cases e
 rw [yn ne];exact w.at' j v e
theorem Wk.one {i:Nat}(h:σ[i]?=some none):Wk σ (σ.set i o):=(Wk.refl σ).set h
def PTs (X:Cx)(ifs:List Expr)(t:TT):Prop :=
 ∀(pins:List (Addr×Obj))(s:Shared)(σ:St)(H:Hp)(Q:Bool->Hp->Prop),Inv X pins σ H s->t σ H Q ->
  wpAny (model X.prog X.w) X.A (forIn ifs true λc r=>if r=true then do let ok <- isTrue c X.env (eval c X.env);pure (ForInStep.yield ok) else pure (ForInStep.yield r)) (TP X pins σ Q) X.xe s
def Qn:TT:=λ_ H Q=>Q true H
theorem p5 :PTs X [] Qn:=λ_ _ _ H _ I h=>wpAny_tests_nil ⟨H,I,h⟩
theorem Gr {t:TT}(h:PT X c t):PTs X [c] t:=λpins s σ H Q I q=>wpAny_tests_one (h pins s σ H Q I q)
def VT (J:It)(g:TG)(tt:TT)(te:TE)(Q:VK)(σ0:St)(H1:Hp):Prop:=∃ W:Nat->Nat->List V->Hp->Prop,(∃ m,W 0 m [] H1)/\∀ i m ys H,W i m ys H->ys.length<=sizeLine /\
  ((J.stop i H/\∀ D,H D=none->Q (.ref D) (z5 H D (.lst ys))) ∨
   (J.go i H/\∀ x H',J.yld i H x H'->g x σ0 H' λσ2 H2=>Wk σ0 σ2/\tt σ2 H2 λb H3 =>
      if b=true then te σ2 H3 λv H4=>∃ m',m'<m/\W (i+1) m' (ys++[v]) H4 else ∃ m',m'<m/\W (i+1) m' ys H3))
def Ql (wi:TI)(g:TG)(tt:TT)(te:TE)(cap:List (Option Nat)):TE:=λσ H Q=>wi σ H λJ H1=>VT J g tt te Q (b7 cap σ) H1
section
variable {X:Cx}{pins:List (Addr×Obj)}{σ:St}{s₂:Shared}{N':List Str}{cap:List (Option Nat)}{sc:Scope}{cl:List (Str×Addr)}{fp:List Addr}
theorem YB {g:TG}{Q:VK}{H2:Hp}{it:Addr}{tn:Nat->Heap->Prop}{J:It}{E:Value->Shared->Prop}{RR:Value->Addr->Result->Shared->Prop}(S:vm X N' cap sc)(hc:X.calm=true)(hc1:∀ x c,cl.lookup x=some c->X.env.cells.lookup x=some c)(hc2:∀ y∈sc.names,y.2 = .free->∃ c,cl.lookup y.1=some c)(hg:∀ C pn,PG (qj X N' sc cl C s₂ H2 fp pn) tg g)(ht:∀ C pn,PTs (qj X N' sc cl C s₂ H2 fp pn) ifs tt)(he:∀ C pn,PE (qj X N' sc cl C s₂ H2 fp pn) elt te)(I2:Inv X pins σ H2 s₂)(T:zF X.prog X.w X.K tg J fp it tn)(st2:tn 0 s₂.heap)(f2:∀ b∈fp,qO X pins H2 b)(W:Nat->Nat->List V->Hp->Prop)(w0:∃ m,W 0 m [] H2)(turn:∀ i m ys H,W i m ys H->ys.length<=sizeLine /\ ((J.stop i H/\∀ D,H D=none->Q (.ref D) (z5 H D (.lst ys)))∨(J.go i H/\∀ x H',J.yld i H x H'->g x (b7 cap σ) H' λσ2 H2=>Wk (b7 cap σ) σ2/\tt σ2 H2 λb H3 => if b=true then te σ2 H3 λv H4=>∃ m',m'<m/\W (i+1) m' (ys++[v]) H4 else ∃ m',m'<m/\W (i+1) m' ys H3)))(hRR:∀ D C H' s' m,Inv X pins σ H' s'->s'.heap.Ns C m->qO X pins H' C->Q (.ref D) H'->RR (.ref D) C (.ok .next) s'):wpAny (model X.prog X.w) X.A (newList []) (λacc s₃=>wpAny (model X.prog X.w) X.A (newFunctionEnv sc X.env.globals cl [] X.env.qual none .none (some X.env)) (λcenv s₄ => codeAny (model X.prog X.w) X.A (.compStart (.ListComp elt [⟨tg,iter,ifs,0⟩] sc pos) 0 (.ref it) acc { cenv with scope:=relabel sc X.env }) (RR acc cenv.locals) s₄) E s₃) E s₂:=by
  refine wpAny_newObj_type (wpAny_newFunctionEnv S.nocell (by intro y hy;simp at hy) (λh₁ hns₁ hsb₁=>?_) S.kind)
  dsimp only at hns₁ hsb₁ ⊢
  generalize hG:s₂.heap.push { cls:= .type "list",dict:=none,data:= .seq ([]:List Value).toArray }=G at hns₁ hsb₁ ⊢;have hC:G.objs.size=s₂.heap.objs.size+1:=by rw [<- hG,uG]
  have hDC:s₂.heap.objs.size<G.objs.size:=by rw [hC];exact uB _
  have old:∀ b o,s₂.heap.get? b=some o->h₁.get? b=some o:=λb o e =>
    hsb₁.extBut b o (yK (Nat.lt_trans (yT e) hDC)) (yX _ (hG▸yX _ e))
  have hacc:h₁.get? s₂.heap.objs.size=some (LCg.lst []):=hsb₁.extBut _ _ (yK hDC) (yX _ (hG▸yI _ rfl));have fl:∀ b∈fp,b<s₂.heap.objs.size:=λb hb=>by obtain ⟨o,e,_⟩:=T.obj _ _ st2 b hb;exact yT e
  have seqd:∀(us:List Value) v,(LCg.lst us).data ≠ .cell v:=λus v z=>by cases z
  have cellt:∀ x c,cl.lookup x=some c->c<s₂.heap.objs.size:=λx c e=>by obtain ⟨v,oc,ho,_⟩:=I2.cell x c (hc1 x c e);exact yT ho
  have pint:∀ p∈X.pn++pins,p.1<s₂.heap.objs.size:=λp hp=>yT (I2.pin p hp).1;have I0:Inv (qj X N' sc cl G.objs.size s₂ H2 fp (X.pn++pins)) [(s₂.heap.objs.size,LCg.lst [])] (b7 cap σ) H2 { s₂ with heap:=h₁,toks:=s₂.toks+([]:List (Str×Value)).length } :=
    Cc I2 S hc1 hc2 f2 fl (yU _) hDC hacc (seqd []) hns₁ old _
  have stat:∀{H':Hp}{us:List Value},(∀ b∈fp,H' b=none)->∀ b∈fp,qO (qj X N' sc cl G.objs.size s₂ H2 fp (X.pn++pins)) [(s₂.heap.objs.size,LCg.lst us)] H' b:=λ{H' us} hn b hb=>by
    obtain ⟨f0,f1,f2',f3,f4,f5⟩:=f2 b hb;refine ⟨hn b hb,yK (Nat.lt_trans (fl b hb) hDC),λhz=>?_,.inl hb,λx c e=>f4 x c (hc1 x c e),λp hp=>?_⟩
    · rcases yP.mp (I2.stkSub b hz) with e|e
      · exact f1 e
      · exact f2' e
    · rcases yu.mp hp with hp|hp
      · exact f5 p hp
      · have e:p=(s₂.heap.objs.size,LCg.lst us):=by simpa using hp
        rw [e];exact Ne.symm (yK (fl b hb))
  have loop:∀ s₃:Shared,s₃={ s₂ with heap:=h₁,toks:=s₂.toks+([]:List (Str×Value)).length } ->
      codeAny (model X.prog X.w) X.A (.compLoop (.ListComp elt [⟨tg,iter,ifs,0⟩] sc pos) 0 (.ref it) (.ref s₂.heap.objs.size) (compEnvC sc cl G.objs.size X.env)) (RR (.ref s₂.heap.objs.size) G.objs.size) s₃:=by
    rintro s₃ rfl;obtain ⟨m0,w0⟩:=w0;refine BJ
      (λn s'=>∃ i ys us H',Inv (qj X N' sc cl G.objs.size s₂ H2 fp (X.pn++pins)) [(s₂.heap.objs.size,LCg.lst us)] (b7 cap σ) H' s'/\Vals ys us/\tn i s'.heap/\(∀ b∈fp,H' b=none)/\W i n ys H') ?_ m0
      ⟨0,[],[],H2,I0,.nil,T.keep _ _ _ st2 λb _ o e=>old b o e,λb hb=>(f2 b hb).1,w0⟩
    rintro n s3 ⟨i,ys,us,H3,I3,rv,st3,fr3,w3⟩;obtain ⟨hz,alt⟩:=turn i n ys H3 w3;rcases alt with ⟨stop,fin⟩|⟨go,step⟩
    · refine z8 (T.done (qj X N' sc cl G.objs.size s₂ H2 fp (X.pn++pins)) rfl rfl rfl hc i _ s3 _ H3 _ I3 (stat fr3) st3 stop) λr s4 ⟨hr,I4⟩=>?_
      subst hr;obtain ⟨gD,nD,_,_,_⟩:=I4.pin (s₂.heap.objs.size,LCg.lst us) (yv _ (yR.mpr rfl));have nD':H3 s₂.heap.objs.size=none:=nD;have gD':s4.heap.get? s₂.heap.objs.size=some (LCg.lst us):=gD;have b4:Un (frs X.stack) fp H2 H3 s₂.heap s4.heap:=I4.base;have n2:H2 s₂.heap.objs.size=none:=I2.hok.fresh (yU _);have un:Un (frs X.stack) fp H2 (z5 H3 s₂.heap.objs.size (.lst ys)) s₂.heap s4.heap :=
        ⟨b4.keep,b4.slot,λb o e n hx=>by rw [z0 (yK (yT e))];exact b4.free b o e n hx,b4.there,
          λb xs e=>by rw [z0 (w4 e n2)];exact b4.tups b xs e,λb o u e=>by rw [z0 (w4 e n2)];exact b4.frzs b o u e,
          λb ps q e=>by rw [z0 (w4 e n2)];exact b4.tbls b ps q e⟩
      have hok:HOk X.prog X.w (z5 H3 s₂.heap.objs.size (.lst ys)) s4.heap:=λb u e=>by
        by_cases hb:b=s₂.heap.objs.size
        · subst hb
          rw [v6] at e;cases e;exact ⟨hz,us,us.length,rv,gD'⟩
        · rw [z0 hb] at e
          exact (I4.hok b u e).stay (λc v _ q=>q) (λc q=>by rw [z0 (w4 q nD')];exact q) (λc xs q=>by rw [z0 (w4 q nD')];exact q) λc _ _ q=>by rw [z0 (w4 q nD')];exact q
      have IF:Inv X pins σ (z5 H3 s₂.heap.objs.size (.lst ys)) s4:=I2.call' (ch:=fp) I4.os un hok I4.bare λb hb=>by
        obtain ⟨f0,f1,f2',f3,f4,f5⟩:=f2 b hb;exact ⟨f3,f1,f4,f5⟩
      obtain ⟨mF,hnF,_⟩:=I4.loc;refine hRR _ _ _ _ mF IF hnF (I2.fpOk (uS hDC) ?_) (fin _ nD');rw [z0 (Ne.symm (yK hDC))];exact I4.free
    · refine z8 (T.item (qj X N' sc cl G.objs.size s₂ H2 fp (X.pn++pins)) rfl rfl rfl hc i _ s3 _ H3 _ I3 (stat fr3) st3 go) λr s4 ⟨u,hr,h4⟩=>?_
      subst hr;refine z8 h4 λ_ s5 ⟨x,H5,I5,r5,y5,st5,fr5⟩=>?_;have I5':=I5.pinned (stat fr5) (T.obj _ _ st5);refine z8 (hg G.objs.size (X.pn++pins) _ s5 _ H5 x u _ I5' r5 (step x H5 y5)) λ_ s6 ⟨σ6,H6,I6,wk,q6⟩=>?_;refine z8 (ht G.objs.size (X.pn++pins) _ s6 σ6 H6 _ I6 q6) λok s7 ⟨H7,I7,q7⟩=>?_;have back:∀{σ8:St}{H8:Hp}{s8:Shared}{us8:List Value},Inv (qj X N' sc cl G.objs.size s₂ H2 fp (X.pn++pins)) ([(s₂.heap.objs.size,LCg.lst us8)]++Qa fp s5.heap) σ8 H8 s8 ->
          tn (i+1) s8.heap/\∀ b∈fp,H8 b=none:=λ{σ8 H8 s8 us8} I8=>by
        refine ⟨T.keep _ _ _ st5 λb hb o e=>(I8.pin (b,o) (yv _ (yv _ (Xm hb e)))).1,λb hb=>?_⟩;obtain ⟨o,e,d⟩:=T.obj _ _ st5 b hb;exact (I8.pin (b,o) (yv _ (yv _ (Xm hb e)))).2.1
      cases ok with
      |false=>obtain ⟨m',hm,w7⟩:=q7;obtain ⟨t7,f7⟩:=back I7;exact ⟨m',hm,i+1,ys,us,H7,I7.unpinned.weak wk.len wk.at',rv,t7,f7,w7⟩
      |true =>
        refine z8 (he G.objs.size (X.pn++pins) _ s7 σ6 H7 _ I7 q7) λuv s8 ⟨v,H8,I8,r8,m',hm,w8⟩=>?_;obtain ⟨t8,f8⟩:=back I8;obtain ⟨gD,nD,lD,fD,_⟩:=I8.pin (s₂.heap.objs.size,LCg.lst us) (yv _ (uD _ (yR.mpr rfl)));have gD':s8.heap.get? s₂.heap.objs.size=some { cls:= .type "list",data:= .seq us.toArray us.length }:=gD;refine append_at (hsz:=by rw [yY,<- rv.length];exact hz) gD' λh9 hs9 hD9=>?_;have I8a:Inv (qj X N' sc cl G.objs.size s₂ H2 fp (X.pn++pins)) [] σ6 H8 s8:=I8.pins_of λp hp=>nomatch hp;have I9:Inv (qj X N' sc cl G.objs.size s₂ H2 fp (X.pn++pins)) [] σ6 H8 { s8 with heap:=h9,toks:=s8.toks } :=
          I8a.turned (it:=s₂.heap.objs.size) (λb o hb e=>hs9.extBut b o hb e) nD lD (.inr (yU _)) (λx c e=>yK (cellt x c e)) λp hp=>by
            rw [yk] at hp;exact yK (pint p hp)
        have I10:Inv (qj X N' sc cl G.objs.size s₂ H2 fp (X.pn++pins)) [(s₂.heap.objs.size,LCg.lst (us++[uv]))] σ6 H8 { s8 with heap:=h9,toks:=s8.toks }:=I9.pins_of λp hp=>by
          have e:p=(s₂.heap.objs.size,LCg.lst (us++[uv])):=by simpa using hp
          subst e;exact ⟨hD9.trans (congrArg some (LCg.lst_snoc us uv)),nD,lD,fD,seqd _⟩
        refine ⟨m',hm,i+1,ys++[v],us++[uv],H8,I10.weak wk.len wk.at',rv.append (.cons r8 .nil),T.keep _ _ _ t8 λb hb o e=>hs9.extBut b o (yK (fl b hb)) e,f8,w8⟩
  have st1:tn 0 h₁:=T.keep _ _ _ st2 λb _ o e=>old b o e;exact codeAny_compStart_list (loop _ rfl) (T.self _ 0 _ _ _ st1 (loop _ rfl))
theorem n9 {g:TG}(S:vm X N' cap sc)(hc:X.calm=true)(hi:PI X tg iter wi)(hg:∀ cl C s H fp pn,PG (qj X N' sc cl C s H fp pn) tg g)(ht:∀ cl C s H fp pn,PTs (qj X N' sc cl C s H fp pn) ifs tt)(he:∀ cl C s H fp pn,PE (qj X N' sc cl C s H fp pn) elt te)(hs:∀ x,foldedSetIterable iter X.env x=pure x:=by intro _;rfl):PE X (.ListComp elt [⟨tg,iter,ifs,0⟩] sc pos) (Ql wi g tt te cap):=by intro pins s σ H Q I h;rw [eval_ListComp];obtain ⟨cl,hcl,hc1,hc2⟩:=YA (scope:=sc) (env:=X.env) λy hy e=>I.ok.has y.1 (S.free y hy e);refine wpAny_comprehension_free (use:=none) rfl hs hcl S.kind S.names (z8 (hi pins s σ H _ I h) λv s1 h1=>z8 h1 λitv s2 h2=>?_);obtain ⟨it,fp,tn,J,H2,e,I2,T,st2,f2,W,w0,turn⟩:=h2;subst e;refine YB (RR:=λacc C=>compPost (model X.prog X.w) X.A X.xe none (EP X pins σ Q) acc C) S hc hc1 hc2 (λC pn=>hg cl C s2 H2 fp pn) (λC pn=>ht cl C s2 H2 fp pn) (λC pn=>he cl C s2 H2 fp pn) I2 T st2 f2 W w0 turn ?_;intro D C H' s' m I' hn F q;obtain ⟨f0,f1,f2',f3,f4,f5⟩:=F;exact ⟨m,hn,λh' hs'=>⟨.ref D,H',I'.turned (t':=s'.toks) (λb o hb e=>hs'.extBut b o hb e) f0 f1 f3 f4 f5,rfl,q⟩⟩
theorem jk {i:Nat}{x:Str}{spos pos':Pos}{g:TG}(S:vm X N' cap sc)(hc:X.calm=true)(hN:X.N.Nodup)(hx:X.N[i]?=some x)(hk:X.env.scope.names.lookup x=some .local)(hi:PI X tg iter wi)
  (hg:∀ cl C s H fp pn,PG (qj X N' sc cl C s H fp pn) tg g) (ht:∀ cl C s H fp pn,PTs (qj X N' sc cl C s H fp pn) ifs tt) (he:∀ cl C s H fp pn,PE (qj X N' sc cl C s H fp pn) elt te)
  (hsw:swapsWith (.ListComp elt [⟨tg,iter,ifs,0⟩] sc pos) (some (.Name x pos')) spos.line X.env=pure true:=by rfl)
  (hs:∀ x,foldedSetIterable iter X.env x=pure x:=by intro _;rfl):PS X (.Assign [.Name x pos'] (.ListComp elt [⟨tg,iter,ifs,0⟩] sc pos) spos) (zT (Ql wi g tt te cap) (qu i)):=by
 intro pins s σ H D I h;rw [exec_Assign_Name_used _ _ _ _ hsw];refine yV (wpAny_standAt (yV ?_));show wpAny _ X.A (do let _ <- comprehension (.ListComp elt [⟨tg,iter,ifs,0⟩] sc pos) sc X.env _ (newList []) false (eval iter X.env) (some (assign (.Name x pos') X.env))) _ _ s;obtain ⟨cl,hcl,hc1,hc2⟩:=YA (scope:=sc) (env:=X.env) λy hy e=>I.ok.has y.1 (S.free y hy e);refine yV (z8 (wpAny_comprehension_free (use:=some (assign (.Name x pos') X.env)) (Q:=λ_ s'=>SP X pins D .next s') rfl hs hcl S.kind S.names
  (z8 (hi pins s σ H _ I h) λv s1 h1=>z8 h1 λitv s2 h2=>?_)) λ_ s' hq=>yG (yG hq))
 obtain ⟨it,fp,tn,J,H2,e,I2,T,st2,f2,W,w0,turn⟩:=h2;subst e;refine YB (Q:=λv H1=>qu i v σ H1 D.nx) (RR:=λacc C=>compPost (model X.prog X.w) X.A X.xe (some (assign (.Name x pos') X.env)) (λ_ s'=>SP X pins D .next s') acc C) S hc hc1 hc2 (λC pn=>hg cl C s2 H2 fp pn) (λC pn=>ht cl C s2 H2 fp pn) (λC pn=>he cl C s2 H2 fp pn) I2 T st2 f2 W w0 turn ?_;intro E C H' s' m I' hn F q;obtain ⟨f0,f1,f2',f3,f4,f5⟩:=F;show wpAny _ X.A (assign (.Name x pos') X.env (.ref E)) _ _ _;refine wpAny_assign_Name (Kd I' hN hx (.inl hk) (v:= .ref E) rfl (λs'' I'' ch=>?_) (.inr hk));obtain ⟨a,sb,ha⟩:=ch;have nC:C≠a:=by
  rcases ha with z|z
  ·rw [z];exact f1
  ·exact Ne.symm (f4 x a z)
 exact ⟨m,hn.sameBut sb nC,λh' hs'=>⟨_,H',I''.turned (t':=s''.toks) (λb o hb e=>hs'.extBut b o hb e) f0 f1 f3 f4 f5,q⟩⟩
end
section
variable {g:TG}{tt:TT}{te:TE}{Q:VK}{H:Hp}{σ0:St}
theorem YD {a:Addr}{xs:List V}(Pv:Nat->List V->Hp->Prop)(h0:Pv 0 [] H)(hz:∀ i ys H,i<=xs.length->Pv i ys H->ys.length<=sizeLine)(hl:∀ i ys H,i<=xs.length->Pv i ys H->SqL K H a xs)(hs:∀ i x ys H (R:List V->Hp->Prop),xs[i]?=some x->Pv i ys H->(∀ ys' H',Pv (i+1) ys' H'->R ys' H')->g x σ0 H λσ2 H2=>Wk σ0 σ2/\tt σ2 H2 λb H3=>if b=true then te σ2 H3 λv H4=>R (ys++[v]) H4 else R ys H3)(hd:∀ ys H,Pv xs.length ys H->∀ D,H D=none->Q (.ref D) (z5 H D (.lst ys))):VT (Itl K a) g tt te Q σ0 H:=by
 refine ⟨λi m ys H=>m=xs.length-i/\i<=xs.length/\Pv i ys H,⟨xs.length,by simp,yo _,h0⟩,?_⟩;rintro i m ys H ⟨rfl,hi,p⟩;have q:=hl i ys H hi p;refine ⟨hz i ys H hi p,?_⟩;by_cases hlt:i<xs.length
 ·refine .inr ⟨⟨xs,xs[i],q,by simp [hlt]⟩,λx H' y=>?_⟩;obtain ⟨e,y⟩:=y;subst e;exact hs i x ys _ (λys' H'=>∃ m',m'<xs.length-i/\m'=xs.length-(i+1)/\i+1<=xs.length/\Pv (i+1) ys' H') (y xs q) p λys' H' p'=>⟨xs.length-(i+1),by omega,rfl,hlt,p'⟩
 ·have e:i=xs.length:=by omega
  subst e;exact .inl ⟨⟨xs,q,yU _⟩,hd ys H p⟩
end
def tyB (T c:String):Option Bool:=if (Value.type T==Value.type c)=true then some true else if PySem.W.kitMeta c=true then (fastBuiltinMro T).map (·.contains (Value.type c)) else none
theorem CJ {T c:String}{b:Bool}(h:tyB T c=some b):PySem.W.kitOne K (.type T) (.type c)=some b:=h
theorem HG:tyB "int" "int"=some true:=by decide +kernel
theorem HF:tyB "int" "bool"=some false:=by decide +kernel
theorem HH:tyB "list" "list"=some true:=by decide +kernel
theorem HI:tyB "str" "str"=some true:=by decide +kernel
theorem xO:bootBuiltins "isinstance"=some (.builtin "isinstance"):=by decide +kernel
theorem jB:bootBuiltins "list"=some (.type "list"):=by decide +kernel
theorem Bm:bootBuiltins "int"=some (.type "int"):=by decide +kernel
theorem Yo:bootBuiltins "bool"=some (.type "bool"):=by decide +kernel
theorem Yq:bootBuiltins "str"=some (.type "str"):=by decide +kernel
theorem jA:bootBuiltins "all"=some (.builtin "all"):=by decide +kernel
theorem Yr:bootBuiltins "sum"=some (.builtin "sum"):=by decide +kernel
theorem Bl:bootBuiltins "enumerate"=some (.type "enumerate"):=by decide +kernel
theorem Bp:bootBuiltins "zip"=some (.type "zip"):=by decide +kernel
section
variable {X:Cx}
theorem Bt:CallR X (.builtin "isinstance") (λxs H Q=>∃ x n T b,xs=[x,.ty n]/\qW X.K H x (.type T)/\tyB T n=some b/\Q (.bl b) H):=by intro pins s σ H xs us Q I r h;obtain ⟨x,n,T,b,rfl,ty,e,q⟩:=h;obtain ⟨u,w',rfl,rx,rw'⟩:=KC r;obtain rfl:w'=Value.type n:=rw';exact Cm I rx ty (CJ e) λtk=>⟨.bl b,H,I.tok _,rfl,q⟩
theorem KD:∀{bs:List Bool}{us:List Value}{i:Nat}{u:Value},Vals (bs.map V.bl) us->us[i]?=some u->u = .bool (bs.getD i false)
 |[],_,_,_,.nil,e=>by simp at e
 |b::_,_,0,_,.cons r _,e=>by
  have e':=Option.some.inj e;subst e';exact r
 |_::bs,_,i+1,u,.cons _ t,e=>by
  have q:=KD (i:=i) (u:=u) t (by simpa using e);simpa using q
theorem KW:∀(bs:List Bool),(List.range bs.length).all (λi=>bs.getD i false)=bs.all id:=by
 intro bs;rw [Bool.eq_iff_iff,uH,uH];constructor
 ·intro h b hb;obtain ⟨i,hi,e⟩:=uK hb;have q:=h i (uZ.mpr hi);rw [yb,yW hi] at q;rw [<- e];exact q
 ·intro h i hi;have hi':=uZ.mp hi;rw [yb,yW hi'];exact h _ (yr hi')
theorem Br (hc:X.calm=true):CallR X (.builtin "all") (λxs H Q=>∃ (a:Addr) (bs:List Bool),xs=[.ref a]/\SqL X.K H a (bs.map V.bl)/\Q (.bl (bs.all id)) H):=by
 intro pins s σ H xs us Q I r h;obtain ⟨a,bs,rfl,hq,q⟩:=h;obtain ⟨u,rfl,ru⟩:=xJ r;obtain rfl:u=Value.ref a:=ru;obtain ⟨its,rv,p,hz⟩:=I.list hq;have hlt:a<s.heap.objs.size:=by obtain ⟨_,_,e,_⟩:=p;exact yT e
 have hl:s.heap.IsList a its.toArray:=p.isList;refine call_all_walk (wpAny_pyIter_list hl ?_);refine ⟨s.heap.objs.size,_,_,_,_,_,λi=>bs.getD i false,rfl,Walks.list (A:=X.A.in1) (I.ok.hd hc) s.heap.objs.size a (yK hlt) its.toArray,⟨⟨_,yI _ rfl,rfl,rfl⟩,hl.push _⟩,?_,λh' tk k=>?_⟩
 ·intro i v s' Q' E' hP hQ;have e:=KD rv (by simpa using hP);subst e;exact wpAny_truthy_bool hQ
 ·have hn:its.toArray.size=bs.length:=by have e:=rv.length;rw [yZ] at e;rw [yY];exact e.symm
  rw [hn,KW];refine ⟨.bl (bs.all id),H,I.kept (t':=tk) (λb o e=>k b o (λhm=>?_) (yX _ e)),rfl,q⟩;have e':b=s.heap.objs.size:=by simpa using hm
  exact absurd (yT e) (by rw [e'];exact uV _)
theorem KF:∀{ns:List Int}{us:List Value},Vals (ns.map V.int) us->IntsAre us ns
 |[],_,.nil=> .nil
 |n::_,_,.cons ⟨t,e⟩ r=>by
  subst e;exact .cons n t (KF r)
theorem BF (hc:X.calm=true):CallR X (.builtin "sum") (λxs H Q=>∃ (a:Addr) (ns:List Int),xs=[.ref a]/\SqL X.K H a (ns.map V.int)/\Q (.int ns.sum) H):=by
 intro pins s σ H xs us Q I r h;obtain ⟨a,ns,rfl,hq,q⟩:=h;obtain ⟨u,rfl,ru⟩:=xJ r;obtain rfl:u=Value.ref a:=ru;obtain ⟨its,rv,p,hz⟩:=I.list hq;have hi:=KF rv;have hl:s.heap.IsList a its.toArray:=p.isList;obtain ⟨xs,ex⟩:=hi.allInts.items;have e2:(numsOf its.toArray.toList).sum=ns.sum:=by rw [show its.toArray.toList=its from rfl,hi.numsOf]
 rw [ex] at hl e2;rw [nums_intItems] at e2;refine sum_intListG (I.ok.hd hc) hl λh' tk t' k=>⟨.int ns.sum,H,I.kept (t':=tk) k,?_,q⟩;rw [preSum_eq,List.take_of_length_le (by simp),e2];exact ⟨_,rfl⟩
def wj (_i j:Int):Prop:=0<j/\j.natAbs.log2<9000
theorem UT:OpR X (binaryOp .FloorDiv) (rI wj λi j=> .int (i / j)):=opI λi j _ _ _ _ _ hc q=>by
 have e:i.fdiv j=i / j:=Int.fdiv_eq_ediv_of_nonneg i (Int.le_of_lt hc.1);exact floordiv_int (Ne.symm (Int.ne_of_lt hc.1)) (by rw [e];exact q) (.inl (PyProof.noPylong_of_log2 hc.2))
def wm (i j:Int):Prop:=Builtin.Int.intBits i<=2 ^ 20/\Builtin.Int.intBits j<=2 ^ 20
theorem Xr:OpR X (binaryOp .Mult) (rI wm λi j=> .int (i*j)):=opI λ_ _ _ _ _ _ _ hc q=>mul_int q (IntMulOk.of_bits hc.1 hc.2)
def Its (lo c:Int)(n:Nat):It:=⟨λi _=>i<n,λi H x H'=>H'=H/\x = .int (lo+i*c),λi _=>n<=i⟩
theorem Hy {P:Program}{w:World}(it:Addr)(lo c:Int)(n:Nat):zF P w K tg (Its lo c n) [it] it (λi h=>IsRangeIter h it (lo+(i:Nat)*c) ((n:Int)-(i:Nat)) c) where
 mem:=by simp
 obj:=λi h st b hb=>by
  have e:b=it:=by simpa using hb
  subst e;exact ⟨_,st,λv z=>by
   have z':Data.fields _=Data.cell v:=z;cases z'⟩
 keep:=λi h h' st k=>k it (by simp) _ st
 item:=by intro X hP hw hK hc i pins s σ H E I hf st hg;subst hP hw hK;obtain ⟨f0,f1,f2,f3,f4,f5⟩:=hf it (by simp);have W:=Walks.range (prog:=X.prog) (w:=X.w) (I.ok.hd hc) it lo c n;refine W.item i s _ _ hg st λv h' tk hv st' kk=>?_;obtain ⟨t,rfl⟩:=hv;have I1:Inv X pins σ H { s with heap:=h',toks:=tk }:=I.turned (λb o hb e=>kk b o (by simpa using hb) e) f0 f1 f3 f4 f5;exact ⟨_,rfl,QT (s:={ s with heap:=h',toks:=tk }) (n:="range_iterator") st' rfl rfl (by decide) ⟨.int (lo+i*c),H,I1,⟨t,rfl⟩,⟨rfl,rfl⟩,st',λb hb=>(hf b hb).1⟩⟩
 done:=by intro X hP hw hK hc i pins s σ H E I hf st hg;subst hP hw hK;obtain ⟨f0,f1,f2,f3,f4,f5⟩:=hf it (by simp);exact wpAny_pyNext_range_end (I.ok.hd hc) st (by have:n<=i:=hg;omega) λh' eb=>⟨rfl,I.turned (t':=s.toks) (λb o hb e=>eb b o hb e) f0 f1 f3 f4 f5⟩
 self:=λ_ _ _ _ _ st h=>wpAny_pyIter_rangeiter st h
def zQ (i j c:Int):Nat:=(Builtin.Range.rangeSize i j c).toNat
def iRng3 (ta:TA):TI:=λσ H R=>ta σ H λvs H1=>∃ i j c:Int,vs=[.int i,.int j,.int c]/\(0<c/\c<1073741824)/\0<=Builtin.Range.rangeSize i j c/\Builtin.Range.small i j c=true/\R (Its i c (zQ i j c)) H1
variable {tg:Expr}
theorem Lc {a b:Expr}{ta:TA}{p:Pos}(hg:Gl X "range")(hm:X.mg "range"=none)(ha:PA X [a,b,c] ta)(hs:starEach [a,b,c] X.env=[(false,eval a X.env),(false,eval b X.env),(false,eval c X.env)]:=by rfl)(hs2:starEach [b,c] X.env=[(false,eval b X.env),(false,eval c X.env)]:=by rfl):PI X tg (.Call (.Name "range" p) [a,b,c] [] pos) (iRng3 ta):=by
 intro pins s σ H R I h;refine Call_ (zM I hg hm boot_range (PyProof.Rows.callWith_type1 (z8 (ha pos pins s σ H _ I h) λus s1 ⟨vs,H1,I1,r1,q1⟩=>?_) (by rw [hs,hs2]) (by rw [hs2];rfl)));obtain ⟨i,j,c,e,⟨q1,q2⟩,q3,q4,q⟩:=q1;subst e;cases r1 with
 |cons r rr =>
  cases rr with
  |cons r' rr =>
   cases rr with
   |cons r'' rr =>
    cases rr;obtain ⟨t,rfl⟩:=r;obtain ⟨t',rfl⟩:=r';obtain ⟨t'',rfl⟩:=r'';refine call_range_3 (Ne.symm (Int.ne_of_lt q1)) ?_ (.inl (PyProof.noPylong_small (by omega)));refine wpAny_pyIter_range (IsRange.new ..) q4 ?_;have I2:Inv X pins σ H1 { s1 with heap:=s1.heap.push { cls:= .type "range",data:= .fields #[.int i t,.int j t',.int c t''] },toks:=s1.toks }:=I1.kept λb o e=>yX _ e;refine ⟨(s1.heap.push { cls:= .type "range",data:= .fields #[.int i t,.int j t',.int c t''] }).objs.size,[(s1.heap.push { cls:= .type "range",data:= .fields #[.int i t,.int j t',.int c t''] }).objs.size],_,_,H1,rfl,
     I2.kept (t':=s1.toks) λb o e=>yX _ e,Hy _ i c (zQ i j c),?_,λb hb=>?_,q⟩
    ·have e1:i+((0:Nat):Int)*c=i:=by simp
     have e2:((zQ i j c:Nat):Int)-((0:Nat):Int)=Builtin.Range.rangeSize i j c:=by unfold zQ;omega
     show IsRangeIter _ _ (i+((0:Nat):Int)*c) (((zQ i j c:Nat):Int)-((0:Nat):Int)) c;rw [e1,e2];exact yI _ rfl
    ·have e:b=(s1.heap.push { cls:= .type "range",data:= .fields #[.int i t,.int j t',.int c t''] }).objs.size:=by simpa using hb
     subst e;exact I2.fpOk (yU _) (I2.hok.fresh (yU _))
end
theorem Pn {lo c:Int}{n:Nat}{g:TG}{tb:TS}{D:xb}{H:Hp}(Pv:Nat->St->Hp->Prop)(h0:Pv 0 σ H)(hs:∀ i σ H,i<n->Pv i σ H->g (.int (lo+i*c)) σ H λσ2 H2=>tb { D with nx:=Pv (i+1),ct:=Pv (i+1),bk:=D.nx } σ2 H2)(hd:∀ σ H,Pv n σ H->D.nx σ H):∃ W:Nat->Nat->St->Hp->Prop,(∃ m,W 0 m σ H)/\∀ i m σ H,W i m σ H -> ((Its lo c n).stop i H/\D.nx σ H)∨((Its lo c n).go i H/\∃ N:St->Hp->Prop,(∀ σ' H',N σ' H'->∃ m',m'<m/\W (i+1) m' σ' H')/\∀ x H',(Its lo c n).yld i H x H'->g x σ H' λσ2 H2=>tb { D with nx:=N,ct:=N,bk:=D.nx } σ2 H2):=by
 refine ⟨λi m σ H=>m=n-i/\i<=n/\Pv i σ H,⟨n,by simp,yo _,h0⟩,?_⟩;rintro i m σ H ⟨rfl,hi,p⟩;by_cases hlt:i<n
 ·refine .inr ⟨hlt,Pv (i+1),λσ' H' p'=>⟨n-(i+1),by omega,rfl,hlt,p'⟩,λx H' y=>?_⟩;obtain ⟨e,y⟩:=y;subst e y;exact hs i σ _ hlt p
 ·have e:i=n:=by omega
  subst e;exact .inl ⟨yU _,hd σ H p⟩
section
open PySem.SeqAt
theorem xp {α β:Type}{F:α->β->Prop}:∀{l₁:List α}{l₂:List β},Paired F l₁ l₂->∀(j:Nat)(h1:j<l₁.length)(h2:j<l₂.length),F l₁[j] l₂[j]
 |_,_,.cons r _,0,_,_=>r
 |_,_,.cons _ t,j+1,h1,h2=>xp t j (by simpa using h1) (by simpa using h2)
variable {X:Cx}
end
structure Fn (P:Program)(w:World)(K:Fg)(mg:Str->Option Value)(base:Heap)(k:Nat)(x:Str)(ps:List Str)(sp:Sp):Prop where
 ex:∃ f fd,FnOk P w K mg base j6 k f fd ps sp/\mg x=some (.ref f)/\PySem.W.keepIn K (.ref f)=true/\Binds K fd ps []
section
variable {X:Cx}{k j:Nat}{x:Str}{ps:List Str}{sp:Sp}{e:Expr}{es:List Expr}{t:TA}{p pos:Pos}
theorem qb (c:Fn X.prog X.w X.K X.mg X.base k x ps sp)(hr:Room j X.A)(hj:k<=j)(hg:Gl X x)(ha:PA X (e::es) t)(hdb:(x==("__debug__":Str))=false:=by decide)(he:starEach (e::es) X.env=(false,eval e X.env)::starEach es X.env:=by rfl)(hpl:(backTo pos (starEach es X.env)).any (·.1)=false:=by rfl):PE X (.Call (.Name x p) (e::es) [] pos) (zC sp [] E0 t):=by obtain ⟨f,fd,F,hm,hk,hb⟩:=c.ex;exact ML F (hr.mono hj) hg hm hk hb .nil Xs ha hdb he hpl
end
end L2
namespace L2
open PySem PySem.Spec PyProof.Rows
variable{p pos px tp:Pos}{a b:Expr}{P:Program}{w:World}{K:Fg}{elts:List Expr}{x1:Nat}{ta:TA}{x:Str}
section
variable {X:Cx}{pins:List (Addr×Obj)}{σ:St}{H:Hp}{s:Shared}{h':Heap}
theorem Inv.turnedL {t':Nat}{ch:List Addr}(I:Inv X pins σ H s)(k:∀ b o,b∉ch->s.heap.get? b=some o->h'.get? b=some o)(hf:∀ b∈ch,qO X pins H b):Inv X pins σ H { s with heap:=h',toks:=t' }:=by
 have nit:∀ b u,H b=some u->b∉ch:=λb u e z=>by rw [(hf b z).1] at e;cases e
 have nL:X.env.locals∉ch:=λz=>(hf _ z).2.1 rfl;refine I.step (g':=s.gens) (d':=s.drawn) (ch:=ch) (λb hb=>?_) (λb o _ _ hc e _=>k b o hc e) (λb o _ _ hc e _=>⟨o.slots,k b o hc e⟩) (λ_ _ _ _ n=>n)
  (λb o hc e=>⟨o,k b o hc e⟩) (λ_ _ e=>e) (λ_ _ _ e=>e) (λ_ _ _ e=>e) (λm hm=>?_) (λb u e=>?_) I.bare
 ·obtain ⟨f0,f1,f2,f3,f4,f5⟩:=hf b hb;exact ⟨f3,f1,f4,f5⟩
 ·obtain ⟨o,es,ep,ho,r⟩:=hm;exact ⟨o,es,ep,k _ o nL ho,r⟩
 ·refine (I.hok b u e).stay (λc v hc q=>k c v ?_ q) (λ_ q=>q) (λ_ _ q=>q) λ_ _ _ q=>q;rcases hc with z|z
  ·rw [z];exact nit b u e
  ·exact nit c _ z
theorem Inv.track {p:Addr}{o:HO}(I:Inv X pins σ H s)(hp:X.s₀.heap.objs.size<=p)(hn:H p=none)(nL:p≠X.env.locals)(nC:∀ x c,X.env.cells.lookup x=some c->c≠p)(nP:∀ q∈X.pn++pins,q.1≠p)(new:ObjOk X.prog X.w (z5 H p o) s.heap p o):Inv X pins σ (z5 H p o) s:=by
 refine ⟨I.ok,I.os,I.bare,⟨I.base.keep,I.base.slot,λb ob e n hx=>?_,I.base.there,λb xs e=>?_,λb ob u e=>?_,λb ps q e=>?_⟩,I.loc,I.cell,?_,λx c e=>?_,λq hq=>?_,λb u e=>?_,I.len⟩
 ·rw [z0 (yK (yH (yT e) hp))];exact I.base.free b ob e n hx
 ·have z:=I.base.tups b xs e;rw [z0 (w4 z hn)];exact z
 ·have z:=I.base.frzs b ob u e;rw [z0 (w4 z hn)];exact z
 ·have z:=I.base.tbls b ps q e;rw [z0 (w4 z hn)];exact z
 ·rw [z0 (Ne.symm nL)];exact I.free
 ·rw [z0 (nC x c e)];exact I.freeC x c e
 ·obtain ⟨a1,a2,a3⟩:=I.pin q hq;exact ⟨a1,by rw [z0 (nP q hq)];exact a2,a3⟩
 ·by_cases hb:b=p
  ·subst hb;rw [v6] at e;cases e;exact new
  ·rw [z0 hb] at e;exact (I.hok b u e).stay (λc v _ q=>q) (λc q=>by rw [z0 (w4 q hn)];exact q) (λc xs q=>by rw [z0 (w4 q hn)];exact q) λc _ _ q=>by rw [z0 (w4 q hn)];exact q
theorem Inv.seq_ne {a b:Addr}{xs:List V}(I:Inv X pins σ H s)(hq:SqL X.K H a xs)(hf:qO X pins H b):a≠b:=by
 rintro rfl;rcases hq with (h|⟨o,h⟩)|⟨o,its,n,hk,_⟩
 ·rw [hf.1] at h;cases h
 ·rw [hf.1] at h;cases h
 ·have e:=I.ok.mod.kin a o hk;rcases hf.2.2.2.1 with z|z
  ·exact I.ok.noex a o e z
  ·exact absurd (yH (yT e) (yp I.ok.bsz z)) (uV _)
end
def Ite (K:Fg)(a:Addr):It :=
 ⟨λi H=>∃ xs x,SqL K H a xs/\xs[i]?=some x,λi H x H'=>∃ p y,H p=none/\x = .ref p/\H'=z5 H p (.tup [.int i,y])/\∀ xs,SqL K H a xs->xs[i]?=some y,λi H=>∃ xs,SqL K H a xs/\xs.length<=i⟩
theorem Ht (a e it:Addr)(hne:e≠it):zF P w K (.Tuple elts x1 tp) (Ite K a) [e,it] e (λi h=>(∃ old,IsEnum h e it ((i:Nat):Int) old)/\h.IsListIter it a i) where
 mem:=by simp
 obj:=λi h st b hb=>by
  obtain ⟨⟨old,he⟩,hit⟩:=st;rcases yP.mp hb with rfl|hb
  ·exact ⟨_,he,λv z=>by
    have z':Data.fields _=Data.cell v:=z;cases z'⟩
  ·have eb:b=it:=by simpa using hb
   subst eb;obtain ⟨o,e1,c,d⟩:=hit;exact ⟨o,e1,λv z=>by rw [d] at z;cases z⟩
 keep:=λi h h' st k=>by
  obtain ⟨⟨old,he⟩,hit⟩:=st;exact ⟨⟨old,k e (by simp) _ he⟩,hit.at λo q=>k it (by simp) o q⟩
 item:=by
  intro X hP hw hK hc i pins s σ H E I hf st hg;subst hP hw hK;obtain ⟨⟨old,he⟩,hit⟩:=st;obtain ⟨xs,x,hq,hx⟩:=hg;obtain ⟨its,rv,p,hz⟩:=I.list hq;obtain ⟨u,hu,ru⟩:=rv.get hx;have fz:qO X pins H s.heap.objs.size:=I.fpOk (yU _) (I.hok.fresh (yU _));have lte:e<s.heap.objs.size:=yT he;have lti:it<s.heap.objs.size:=by obtain ⟨o,q,_⟩:=hit;exact yT q
  refine wpAny_pyNext_enum_item he hit p.isList (x:=u) (by simpa using hu) hne λh1 heo hit1 ht1 hz1 hk1=>⟨_,rfl,?_⟩;refine wpAny_letOwnedTupleGo_enum heo λh2 he2 hs2=>?_;have hs2':Heap.SameBut e h1 h2:=hs2;have I2:Inv X pins σ H { s with heap:=h2,toks:=s.toks+1 }:=I.turnedL (ch:=[e,it]) (λb o hb q=>by
   have n1:b≠e:=λz=>hb (by rw [z];simp);have n2:b≠it:=λz=>hb (by rw [z];simp);exact hs2'.extBut b o n1 (hk1 b o n1 n2 q)) hf
  obtain ⟨f0,f1,f2,f3,f4,f5⟩:=fz;have tup:h2.get? s.heap.objs.size=some { cls:= .type "tuple",data:= .seq #[.int i s.toks,u] }:=hs2'.extBut _ _ (Ne.symm (yK lte)) ht1;refine ⟨.ref s.heap.objs.size,z5 H s.heap.objs.size (.tup [.int i,x]),I2.track I.sz f0 f1 f4 f5 ?_,rfl,⟨s.heap.objs.size,x,f0,rfl,rfl,λys hy=>by rw [I.list_inj hy hq];exact hx⟩,⟨⟨u,?_⟩,?_⟩,λb hb=>?_⟩
  ·exact ⟨by show 2<=sizeLine;decide,[.int i s.toks,u],.cons ⟨_,rfl⟩ (.cons ru .nil),⟨_,tup,rfl,_,rfl⟩⟩
  ·have ei:(((i+1:Nat):Int))=(i:Int)+1:=by omega
   rw [ei];exact he2
  ·exact hit1.at λo q=>hs2'.extBut it o (Ne.symm hne) q
  ·have nb:b≠s.heap.objs.size:=by
    rcases yP.mp hb with rfl|hb
    ·exact yK lte
    ·have eb:b=it:=by simpa using hb
     rw [eb];exact yK lti
   rw [z0 nb];exact (hf b hb).1
 done:=by intro X hP hw hK hc i pins s σ H E I hf st hg;subst hP hw hK;obtain ⟨⟨old,he⟩,hit⟩:=st;obtain ⟨xs,hq,hx⟩:=hg;obtain ⟨its,rv,p,hz⟩:=I.list hq;have hl:=rv.length;exact wpAny_pyNext_enum_end (I.ok.hd hc) he hit p.isList (by simp;omega) λh1 eb=>⟨rfl,I.turnedL (t':=s.toks) (ch:=[e,it]) (λb o hb q=>eb b o (λz=>hb (by rw [z];simp)) q) hf⟩
 self:=λ_ _ _ _ _ st h=>by
  obtain ⟨⟨old,he⟩,hit⟩:=st;exact wpAny_pyIter_enum he h
section
variable {X:Cx}{elts:List Expr}{x1:Nat}{tp:Pos}
def ZA (K:Fg)(ta:TA):TI:=λσ H R=>ta σ H λvs H1=>∃ a,vs=[.ref a]/\(∃ xs,SqL K H1 a xs)/\R (Ite K a) H1
theorem La (hg:Gl X "enumerate")(hm:X.mg "enumerate"=none)(ha:PA X [a] ta)(hs:starEach [a] X.env=[(false,eval a X.env)]:=by rfl):PI X (.Tuple elts x1 tp) (.Call (.Name "enumerate" p) [a] [] pos) (ZA X.K ta):=by
 intro pins s σ H R I h;refine Call_ (zM I hg hm Bl (PyProof.Rows.callWith_type1 (z8 (ha pos pins s σ H _ I h) λus s1 ⟨vs,H1,I1,r1,q1⟩=>?_) hs rfl));obtain ⟨a,e,⟨xs,hq⟩,q⟩:=q1;subst e;cases r1 with
 |cons r rr =>
  cases rr;cases r;obtain ⟨its,rv,p,hz⟩:=I1.list hq;refine call_enumerate_list p.isList λh' he hit hsz hk=>?_;refine wpAny_pyIter_enum he ?_;refine ⟨s1.heap.objs.size+1,[s1.heap.objs.size+1,s1.heap.objs.size],_,_,H1,rfl,I1.kept (t':=s1.toks) hk,Ht a (s1.heap.objs.size+1) s1.heap.objs.size (uu (uB _)),⟨⟨_,he⟩,hit⟩,λb hb=>?_,q⟩;rcases yP.mp hb with rfl|hb
  ·exact I1.fpOk (uf _) (I1.hok.fresh (uf _))
  ·have eb:b=s1.heap.objs.size:=by simpa using hb
   subst eb;exact I1.fpOk (yU _) (I1.hok.fresh (yU _))
end
def Itz (K:Fg)(a b:Addr):It :=
  ⟨λi H=>∃ xs ys x y,SqL K H a xs/\SqL K H b ys/\xs[i]?=some x/\ys[i]?=some y,
   λi H z H'=>∃ p x y,H p=none/\z = .ref p/\H'=z5 H p (.tup [x,y])/\(∀ xs,SqL K H a xs->xs[i]?=some x)/\∀ ys,SqL K H b ys->ys[i]?=some y,
   λi H=>∃ xs ys,SqL K H a xs/\SqL K H b ys/\(xs.length<=i∨ys.length<=i)⟩
theorem HA (a b z TI TO i1 i2:Addr)(d:[z,TI,TO,i1,i2].Nodup):zF P w K (.Tuple elts x1 tp) (Itz K a b) [z,TI,TO,i1,i2] z (λi h=>IsZip h z TI TO .none/\IsPair h TI (.ref i1) (.ref i2)/\(∃ u v,IsPair h TO u v)/\h.IsListIter i1 a i/\h.IsListIter i2 b i) where
 mem:=by simp
 obj:=λi h st c hc=>by
  obtain ⟨hz,hTI,⟨u,v,hTO⟩,h1,h2⟩:=st;have hc':c=z∨c=TI∨c=TO∨c=i1∨c=i2:=by simpa using hc
  rcases hc' with rfl|rfl|rfl|rfl|rfl
  ·exact ⟨_,hz,λv q=>by
    have q':Data.fields _=Data.cell v:=q;cases q'⟩
  ·exact ⟨_,hTI,λv q=>by
    have q':Data.seq _ _=Data.cell v:=q;cases q'⟩
  ·exact ⟨_,hTO,λv q=>by
    have q':Data.seq _ _=Data.cell v:=q;cases q'⟩
  ·obtain ⟨o,e1,cc,dd⟩:=h1;exact ⟨o,e1,λv q=>by rw [dd] at q;cases q⟩
  ·obtain ⟨o,e1,cc,dd⟩:=h2;exact ⟨o,e1,λv q=>by rw [dd] at q;cases q⟩
 keep:=λi h h' st k=>by
  obtain ⟨hz,hTI,⟨u,v,hTO⟩,h1,h2⟩:=st;exact ⟨k z (by simp) _ hz,k TI (by simp) _ hTI,⟨u,v,k TO (by simp) _ hTO⟩,h1.at λo e=>k i1 (by simp) o e,h2.at λo e=>k i2 (by simp) o e⟩
 item:=by
  intro X hP hw hK hc i pins s σ H E I hf st hg;subst hP hw hK;obtain ⟨hz,hTI,⟨u0,v0,hTO⟩,h1,h2⟩:=st;obtain ⟨xs,ys,x,y,hqa,hqb,hx,hy⟩:=hg;obtain ⟨its,rv,p,_⟩:=I.list hqa;obtain ⟨jts,rw',p',_⟩:=I.list hqb;obtain ⟨u,hu,ru⟩:=rv.get hx;obtain ⟨v,hv,rv'⟩:=rw'.get hy;simp only [yx,yP,not_or,yi,not_false_eq_true,List.nodup_nil,and_true] at d;obtain ⟨⟨d1,d2,d3,d4⟩,⟨d5,d6,d7⟩,⟨d8,d9⟩,d10⟩:=d;have ap:ZipApart z TI TO i1 i2 a b:=⟨Ne.symm d1,Ne.symm d2,Ne.symm d3,Ne.symm d4,d5,d6,d7,d8,d9,d10,
   I.seq_ne hqa (hf z (by simp)),I.seq_ne hqa (hf TO (by simp)),I.seq_ne hqa (hf i1 (by simp)),I.seq_ne hqa (hf i2 (by simp)),
   I.seq_ne hqb (hf z (by simp)),I.seq_ne hqb (hf TO (by simp)),I.seq_ne hqb (hf i1 (by simp)),I.seq_ne hqb (hf i2 (by simp))⟩
  have fz:qO X pins H s.heap.objs.size:=I.fpOk (yU _) (I.hok.fresh (yU _));have lt:∀ c∈[z,TI,TO,i1,i2],c<s.heap.objs.size:=λc hc=>by
   have hc':c=z∨c=TI∨c=TO∨c=i1∨c=i2:=by simpa using hc
   rcases hc' with rfl|rfl|rfl|rfl|rfl
   ·exact yT hz
   ·exact yT hTI
   ·exact yT hTO
   ·obtain ⟨o,q,_⟩:=h1;exact yT q
   ·obtain ⟨o,q,_⟩:=h2;exact yT q
  refine wpAny_pyNext_zip_item ap hz hTI hTO h1 h2 p.isList p'.isList (x:=u) (y:=v) (by simpa using hu) (by simpa using hv) λh3 hz3 hTO3 h13 h23 hp3 hs3 hk3=>⟨_,rfl,?_⟩;refine wpAny_letOwnedTupleGo_zip hz3 λh4 hz4 hs4=>?_;have hs4':Heap.SameBut z h3 h4:=hs4;have I4:Inv X pins σ H { s with heap:=h4,toks:=s.toks }:=I.turnedL (ch:=[z,TI,TO,i1,i2]) (λc o hc q=>by
   have n1:c≠z:=λe=>hc (by rw [e];simp);have n2:c≠TO:=λe=>hc (by rw [e];simp);have n3:c≠i1:=λe=>hc (by rw [e];simp);have n4:c≠i2:=λe=>hc (by rw [e];simp);exact hs4'.extBut c o n1 (hk3 c o n1 n2 n3 n4 q)) hf
  obtain ⟨f0,f1,f2,f3,f4,f5⟩:=fz;have tup:h4.get? s.heap.objs.size=some { cls:= .type "tuple",data:= .seq #[u,v] }:=hs4'.extBut _ _ (Ne.symm (yK (lt z (by simp)))) hp3;refine ⟨.ref s.heap.objs.size,z5 H s.heap.objs.size (.tup [x,y]),I4.track I.sz f0 f1 f4 f5 ?_,rfl,⟨s.heap.objs.size,x,y,f0,rfl,rfl,(λzs hy'=>by rw [I.list_inj hy' hqa];exact hx),λzs hy'=>by rw [I.list_inj hy' hqb];exact hy⟩,⟨hz4,?_,⟨u,v,?_⟩,?_,?_⟩,λc hc=>?_⟩
  ·exact ⟨by show 2<=sizeLine;decide,[u,v],.cons ru (.cons rv' .nil),⟨_,tup,rfl,_,rfl⟩⟩
  ·exact hs4'.extBut _ _ (Ne.symm d1) (hk3 _ _ (Ne.symm d1) d5 d6 d7 hTI)
  ·exact hs4'.extBut _ _ (Ne.symm d2) hTO3
  ·exact h13.at λo q=>hs4'.extBut i1 o (Ne.symm d3) q
  ·exact h23.at λo q=>hs4'.extBut i2 o (Ne.symm d4) q
  ·rw [z0 (yK (lt c hc))];exact (hf c hc).1
 done:=by
  intro X hP hw hK hc i pins s σ H E I hf st hg;subst hP hw hK;obtain ⟨hz,hTI,⟨u0,v0,hTO⟩,h1,h2⟩:=st;obtain ⟨xs,ys,hqa,hqb,hend⟩:=hg;obtain ⟨its,rv,p,_⟩:=I.list hqa;obtain ⟨jts,rw',p',_⟩:=I.list hqb;have l1:=rv.length;have l2:=rw'.length;simp only [yx,yP,not_or,yi,not_false_eq_true,List.nodup_nil,and_true] at d;obtain ⟨⟨d1,d2,d3,d4⟩,⟨d5,d6,d7⟩,⟨d8,d9⟩,d10⟩:=d;have ap:ZipApart z TI TO i1 i2 a b:=⟨Ne.symm d1,Ne.symm d2,Ne.symm d3,Ne.symm d4,d5,d6,d7,d8,d9,d10,
   I.seq_ne hqa (hf z (by simp)),I.seq_ne hqa (hf TO (by simp)),I.seq_ne hqa (hf i1 (by simp)),I.seq_ne hqa (hf i2 (by simp)),
   I.seq_ne hqb (hf z (by simp)),I.seq_ne hqb (hf TO (by simp)),I.seq_ne hqb (hf i1 (by simp)),I.seq_ne hqb (hf i2 (by simp))⟩
  refine wpAny_pyNext_zip_end (I.ok.hd hc) ap hz hTI hTO h1 h2 p.isList p'.isList (hend.elim (λq=> .inl (by simp;omega)) (λq=> .inr (by simp;omega))) λh3 hk3=>⟨rfl,I.turnedL (t':=s.toks) (ch:=[z,TI,TO,i1,i2]) (λc o hc q=>?_) hf⟩;exact hk3 c o (λe=>hc (by rw [e];simp)) (λe=>hc (by rw [e];simp)) (λe=>hc (by rw [e];simp)) (λe=>hc (by rw [e];simp)) q
 self:=λ_ _ _ _ _ st h=>wpAny_pyIter_zip st.1 h
section
variable {X:Cx}{elts:List Expr}{x1:Nat}{tp:Pos}
def iZip (K:Fg)(ta:TA):TI:=λσ H R=>ta σ H λvs H1=>∃ a b,vs=[.ref a,.ref b]/\(∃ xs,SqL K H1 a xs)/\(∃ ys,SqL K H1 b ys)/\R (Itz K a b) H1
theorem Lf (hg:Gl X "zip")(hm:X.mg "zip"=none)(ha:PA X [a,b] ta)(hs:starEach [a,b] X.env=[(false,eval a X.env),(false,eval b X.env)]:=by rfl)(hs2:starEach [b] X.env=[(false,eval b X.env)]:=by rfl):PI X (.Tuple elts x1 tp) (.Call (.Name "zip" p) [a,b] [] pos) (iZip X.K ta):=by
 intro pins s σ H R I h;refine Call_ (zM I hg hm Bp (PyProof.Rows.callWith_type1 (z8 (ha pos pins s σ H _ I h) λus s1 ⟨vs,H1,I1,r1,q1⟩=>?_) (by rw [hs,hs2]) (by rw [hs2];rfl)));obtain ⟨a,b,e,⟨xs,hq⟩,⟨ys,hq'⟩,q⟩:=q1;subst e;cases r1 with
 |cons r rr =>
  cases rr with
  |cons r' rr =>
   cases rr;cases r;cases r';obtain ⟨its,rv,p,hz⟩:=I1.list hq;obtain ⟨jts,rw',p',_⟩:=I1.list hq';refine call_zip_2 p.isList p'.isList λh' g1 g2 g3 g4 g5 hsz hk=>?_;refine wpAny_pyIter_zip g1 ?_;refine ⟨s1.heap.objs.size+4,[s1.heap.objs.size+4,s1.heap.objs.size+2,s1.heap.objs.size+3,s1.heap.objs.size,s1.heap.objs.size+1],_,_,H1,rfl,I1.kept (t':=s1.toks) hk,HA a b _ _ _ _ _ ?_,⟨g1,g2,⟨_,_,g3⟩,g4,g5⟩,λc hc=>?_,q⟩
   ·simp only [yx,yP,not_or,yi,not_false_eq_true,List.nodup_nil,and_true];refine ⟨⟨?_,?_,?_,?_⟩,⟨?_,?_,?_⟩,⟨?_,?_⟩,?_⟩<;>(show ¬ (_:Nat)=_;omega)
   ·have hc':s1.heap.objs.size<=c:=by
     have hc2:c=s1.heap.objs.size+4∨c=s1.heap.objs.size+2∨c=s1.heap.objs.size+3∨c=s1.heap.objs.size∨c=s1.heap.objs.size+1:=by simpa using hc
     rcases hc2 with e|e|e|e|e<;>(rw [e];first|exact yU _|exact Nat.le_add_right _ _)
    exact I1.fpOk hc' (I1.hok.fresh hc')
end
section
variable {X:Cx}{K:Fg}
theorem ZD (h:X.K=K):IxR X (rIxL K):=by subst h;exact ix_list
theorem NQ (h:X.K=K):SlR X (rSlL K):=by subst h;exact NP
theorem Ys (h:X.K=K):CallR X (.builtin "len") (λxs H Q=>∃ p ys,xs=[.ref p]/\(SqL K H p ys∨SqT K H p ys)/\Q (.int ys.length) H):=by subst h;exact By
theorem BG (hc:X.calm=true)(h:X.K=K):CallR X (.builtin "sum") (λxs H Q=>∃ (a:Addr) (ns:List Int),xs=[.ref a]/\SqL K H a (ns.map V.int)/\Q (.int ns.sum) H):=by subst h;exact BF hc
theorem Xx {es:List Expr}{k:Nat}{t:TGs}{n:Nat}(hc:X.calm=true)(hK:X.K=K)(h:PGs X es t)(hn:(assignEach es X.env).length=n:=by rfl)(hst:(assignEach es X.env).findIdx? (·.1)=none:=by rfl):PG X (.Tuple es k pos) (gTup K n t):=by subst hK;exact MZ hc h hn hst
theorem b9 {tg l:Expr}{tl:TE}(hK:X.K=K)(hl:PE X l tl):PI X tg l (QU K tl):=by subst hK;exact Lb hl
theorem Gd (hK:X.K=K)(hg:Gl X "enumerate")(hm:X.mg "enumerate"=none)(ha:PA X [a] ta)(hs:starEach [a] X.env=[(false,eval a X.env)]:=by rfl):PI X (.Tuple elts x1 tp) (.Call (.Name "enumerate" p) [a] [] pos) (ZA K ta):=by subst hK;exact La hg hm ha hs
theorem Ge (hK:X.K=K)(hg:Gl X "zip")(hm:X.mg "zip"=none)(ha:PA X [a,b] ta)(hs:starEach [a,b] X.env=[(false,eval a X.env),(false,eval b X.env)]:=by rfl)(hs2:starEach [b] X.env=[(false,eval b X.env)]:=by rfl):PI X (.Tuple elts x1 tp) (.Call (.Name "zip" p) [a,b] [] pos) (iZip K ta):=by subst hK;exact Lf hg hm ha hs hs2
end
section
variable {X:Cx}
theorem Mx:OpR X (compareOp .LtE) (λx y H Q=>∃ i j,x = .str i/\y = .str j/\Q (.bl (!decide (j.cps.toList<i.cps.toList))) H):=by intro pins s σ H x y v u Q I rx ry h;obtain ⟨i,j,rfl,rfl,q⟩:=h;obtain ⟨t,rfl⟩:=rx;obtain ⟨t',rfl⟩:=ry;exact PySem.P.le_str (Zs I q rfl)
def ItS (z:Str):It:=⟨λi _=>i<z.cps.size,λi H x H'=>H'=H/\∃ c,z.cps[i]?=some c/\x = .str ⟨#[c]⟩,λi _=>i=z.cps.size⟩
theorem Ku (it:Addr)(ty:String)(z:Str)(t:Tok)(W:∀ A':Around,A'.handled=none->Walks P w A' it [it] [it] z.cps.size (SignAt z) (λi h=>h.IsStrIter it ty z t i))(sf:∀(A:Around)(i:Nat)(s:Shared)(Q:Value->Shared->Prop)(E:Value->Shared->Prop),s.heap.IsStrIter it ty z t i->Q (.ref it) s->wpAny (model P w) A (pyIter (.ref it)) Q E s):zF P w K (.Name x px) (ItS z) [it] it (λi h=>h.IsStrIter it ty z t i) where
 mem:=by simp
 obj:=λi h st b hb=>by
  have e:b=it:=by simpa using hb
  subst e;obtain ⟨o,e,c,d⟩:=st;exact ⟨o,e,λv q=>by rw [d] at q;cases q⟩
 keep:=λi h h' st k=>by
  obtain ⟨o,e,r⟩:=st;exact ⟨o,k it (by simp) o e,r⟩
 item:=by intro X hP hw hK hc i pins s σ H E I hf st hg;subst hP hw hK;obtain ⟨f0,f1,f2,f3,f4,f5⟩:=hf it (by simp);refine (W X.A (I.ok.hd hc)).item i s _ _ hg st λv h' tk hv st' kk=>?_;obtain ⟨c,u,e1,rfl⟩:=hv;have I1:Inv X pins σ H { s with heap:=h',toks:=tk }:=I.turned (λb o hb e=>kk b o (by simpa using hb) e) f0 f1 f3 f4 f5;refine ⟨_,rfl,?_⟩;show wpAny _ _ (pure ()) _ _ _;exact yG ⟨.str ⟨#[c]⟩,H,I1,⟨u,rfl⟩,⟨rfl,c,e1,rfl⟩,st',λb hb=>(hf b hb).1⟩
 done:=by intro X hP hw hK hc i pins s σ H E I hf st hg;subst hP hw hK;obtain ⟨f0,f1,f2,f3,f4,f5⟩:=hf it (by simp);have hg':i=z.cps.size:=hg;subst hg';exact (W X.A (I.ok.hd hc)).done s _ _ st λh' tk kk=>⟨rfl,I.turned (λb o hb e=>kk b o (by simpa using hb) e) f0 f1 f3 f4 f5⟩
 self:=sf
def iStr (tl:TE):TI:=λσ H R=>tl σ H λx H1=>∃ z,x = .str z/\R (ItS z) H1
theorem Ld {l:Expr}{tl:TE}(hl:PE X l tl):PI X (.Name x px) l (iStr tl):=by
 intro pins s σ H R I h;refine z8 (hl pins s σ H _ I h) λv s1 ⟨x,H1,I1,r1,q1⟩=>?_;obtain ⟨z,e,q⟩:=q1;subst e;obtain ⟨t,rfl⟩:=r1;have fp:∀ b∈[s1.heap.objs.size],qO X pins H1 b:=λb hb=>by
  have e:b=s1.heap.objs.size:=by simpa using hb
  subst e;exact I1.fpOk (yU _) (I1.hok.fresh (yU _))
 cases ha:z.cps.all (·<128)
 ·refine wpAny_pyIter_wide ha ?_;exact ⟨s1.heap.objs.size,[s1.heap.objs.size],_,_,H1,rfl,I1.kept (t':=s1.toks) λb o e=>yX _ e,Ku _ "str_iterator" z t (λA' hA=>Walks.strWide hA _ z t) (λ_ _ _ _ _ st h=>wpAny_pyIter_striter_wide st h),⟨_,yI _ rfl,rfl,rfl⟩,fp,q⟩
 ·refine wpAny_pyIter_ascii ha ?_;exact ⟨s1.heap.objs.size,[s1.heap.objs.size],_,_,H1,rfl,I1.kept (t':=s1.toks) λb o e=>yX _ e,Ku _ "str_ascii_iterator" z t (λA' hA=>Walks.strAscii hA _ z t) (λ_ _ _ _ _ st h=>wpAny_pyIter_striter_ascii st h),⟨_,yI _ rfl,rfl,rfl⟩,fp,q⟩
end
section
variable {X:Cx}{K:Fg}
def Jn (K:Fg):R2:=λx y H Q=>∃ l b xs zs,x = .ref l/\y = .ref b/\SqL K H l xs/\SqL K H b zs/\xs.length+zs.length<=sizeLine/\∀ p,H p=none->Q (.ref p) (z5 H p (.lst (xs++zs)))
theorem op_catL:OpR X (binaryOp .Add) (Jn X.K):=by
 intro pins s σ H x y v u Q I rx ry h;obtain ⟨l,b,xs,zs,rfl,rfl,hH,hB,hz,q⟩:=h;cases rx;cases ry;obtain ⟨its,r,⟨⟨cls,dd,data,sl⟩,n,e,h1,h2,h3⟩,_⟩:=I.list hH;obtain ⟨its2,r2,⟨⟨cls2,dd2,data2,sl2⟩,n2,e2,k1,k2,k3⟩,_⟩:=I.list hB
 dsimp only at h1 h2 h3 k1 k2 k3
 subst h1 h2 h3 k1 k2 k3;have hl:=r.length;have hl2:=r2.length;have hsz:its.toArray.size+its2.toArray.size<=sizeLine:=by rw [yY,yY];omega
 refine concat_meets ⟨_,e,rfl⟩ ⟨_,e2,rfl⟩ noFill_list_add seq_list_add PySem.F.slot_list_add PySem.F.entry_list_add (PySem.F.args_list_add_2 _ _) (list_addW l b its.toArray its2.toArray n n2 none none sl sl2 hsz) ⟨e,e2,?_⟩;have ea:its.toArray++its2.toArray=(its++its2).toArray:=by simp
 rw [ea];exact ⟨.ref _,_,I.lnew (t':=s.toks) (r.append r2) (by rw [yJ];omega),rfl,q _ I.fresh⟩
end
section
variable {X:Cx}
def LA:V->List V->Hp->VK->Prop:=λx vs H Q=>∃(l:Addr)(xs:List V)(i:Int)(y:V),x = .ref l/\vs=[.int i,y]/\H l=some (.lst xs)/\0<=i/\i<=(xs.length:Int)/\xs.length<1000/\Q .non (z5 H l (.lst (xs.take i.toNat++y::xs.drop i.toNat)))
theorem Dg:MtM X "list.insert" LA:=by
 intro pins s σ H x vs v us Q I rx rv h;obtain ⟨l,xs,i,y,rfl,rfl,hH,h0,hi,hz,q⟩:=h;cases rx;obtain ⟨u,w',rfl,⟨t,rfl⟩,rw'⟩:=rv.two;obtain ⟨z,its,n,r,hl,e⟩:=I.lstM hH;have hfit:¬ (!Builtin.List.listFitsIndex i)=true:=by rw [fitsIndex_both (k:=i) (by omega) (by omega)];decide
 have hsz:its.toArray.size<=sizeLine:=by rw [yY,<- hl];exact z
 refine call_meets F.slot_list_insert ⟨_,e,rfl⟩ F.entry_list_insert (F.args_list_insert_3 _ _ _) (AutoSeq1.list_insert_list_int_val_1 l its.toArray n i t w' hfit hsz) ⟨e,?_⟩;refine ⟨.non,_,I.lset (its':=its.take i.toNat++w'::its.drop i.toNat) hH e ?_ ((r.take i.toNat).append (.cons rw' (r.drop i.toNat))) ?_,rfl,q⟩
 ·have e1:¬ (i<0):=by omega
  have e2:min i.toNat its.toArray.size=i.toNat:=by rw [yY];omega
  show (its.toArray.extract 0 (if i<0 then (i+(its.toArray.size:Int)).toNat else min i.toNat its.toArray.size)).push w'++its.toArray.extract (if i<0 then (i+(its.toArray.size:Int)).toNat else min i.toNat its.toArray.size)=_;rw [if_neg e1,e2];apply tZ.mp;simp [List.extract_eq_take_drop]
  try exact List.take_of_length_le (by rw [ut];exact yU _)
 ·rw [yJ,yA,uI,ut];have:=wd (n:=1000) (yU _);omega
end
end L2
namespace L2
open PySem PySem.Spec PyProof.Rows PySem.SeqAt
variable{x y:V}{A:Around}{s:Shared}{u v:Value}{l:Addr}{items:Array Value}{n:Nat}{b:Bool}{K:Fg}
def EqP (K:Fg)(H:Hp):Nat->V->V->Bool->Prop
 |0,x,y,b=>y6 x=true/\y6 y=true/\b=c5 x y
 |n+1,x,y,b=>(y6 x=true/\y6 y=true/\b=c5 x y) ∨
  (∃(a c:Addr)(xs ys:List V),x = .ref a/\y = .ref c/\SqL K H a xs/\SqL K H c ys/\((xs.length≠ys.length/\b=false)∨(xs.length=ys.length/\∃ e:Nat->Bool,(∀ j (h1:j<xs.length) (h2:j<ys.length),EqP K H n xs[j] ys[j] (e j))/\b=(List.range xs.length).all e))) ∨
  (∃(a c:Addr)(xs ys:List V),x = .ref a/\y = .ref c/\SqT K H a xs/\SqT K H c ys/\∃ e:Nat->Bool,(∀ j (h1:j<xs.length) (h2:j<ys.length),EqP K H n xs[j] ys[j] (e j))/\b=((List.range (min xs.length ys.length)).all e&&xs.length==ys.length)) ∨
  (∃(a c:Addr)(xs ys:List V),x = .ref a/\y = .ref c/\SqL K H a xs/\SqT K H c ys/\b=false) ∨
  (∃(a c:Addr)(xs ys:List V),x = .ref a/\y = .ref c/\SqT K H a xs/\SqL K H c ys/\b=false) ∨
  (∃(c:Addr)(ys:List V),y6 x=true/\y = .ref c/\(SqL K H c ys∨SqT K H c ys)/\b=false) ∨
  (∃(a:Addr)(xs:List V),y6 y=true/\x = .ref a/\(SqL K H a xs∨SqT K H a xs)/\b=false)
theorem QO (h:y6 x=true):c5 x x=true:=by cases x<;>first|rfl|exact beq_self_eq_true _|cases h
theorem GF (ry:RelV y u)(rx:RelV x v)(fy:y6 y=true)(fx:y6 x=true):RcAt A s u v (c5 y x):=by
 cases y with
 |non =>
  cases ry;cases x with
  |non=>cases rx;exact RcAt.none_none
  |bl b=>cases rx;exact RcAt.none_bool b
  |int b=>obtain ⟨t2,rfl⟩:=rx;exact RcAt.none_int b t2
  |str b=>obtain ⟨t2,rfl⟩:=rx;exact RcAt.none_str b t2
  |_=>exact absurd (show false=true from fx) yS
 |bl a =>
  cases ry;cases x with
  |non=>cases rx;exact RcAt.bool_none a
  |bl b=>cases rx;exact RcAt.bool_bool a b
  |int b=>obtain ⟨t2,rfl⟩:=rx;exact RcAt.bool_int a b t2
  |str b=>obtain ⟨t2,rfl⟩:=rx;exact RcAt.bool_str a b t2
  |_=>exact absurd (show false=true from fx) yS
 |int a =>
  obtain ⟨t1,rfl⟩:=ry;cases x with
  |non=>cases rx;exact RcAt.int_none a t1
  |bl b=>cases rx;exact RcAt.int_bool a t1 b
  |int b=>obtain ⟨t2,rfl⟩:=rx;exact RcAt.int_int a t1 b t2
  |str b=>obtain ⟨t2,rfl⟩:=rx;exact RcAt.int_str a t1 b t2
  |_=>exact absurd (show false=true from fx) yS
 |str a =>
  obtain ⟨t1,rfl⟩:=ry;cases x with
  |non=>cases rx;exact RcAt.str_none a t1
  |bl b=>cases rx;exact RcAt.str_bool a t1 b
  |int b=>obtain ⟨t2,rfl⟩:=rx;exact RcAt.str_int a t1 b t2
  |str b=>obtain ⟨t2,rfl⟩:=rx;exact RcAt.str_str a t1 b t2
  |_=>exact absurd (show false=true from fx) yS
 |_=>exact absurd (show false=true from fy) yS
theorem GG (ry:RelV y u)(rx:RelV x v)(fy:y6 y=true)(fx:y6 x=true):RcNeAt A s u v (!c5 y x):=by
 cases y with
 |non =>
  cases ry;cases x with
  |non=>cases rx;exact RcNeAt.none_none
  |bl b=>cases rx;exact RcNeAt.none_bool b
  |int b=>obtain ⟨t2,rfl⟩:=rx;exact RcNeAt.none_int b t2
  |str b=>obtain ⟨t2,rfl⟩:=rx;exact RcNeAt.none_str b t2
  |_=>exact absurd (show false=true from fx) yS
 |bl a =>
  cases ry;cases x with
  |non=>cases rx;exact RcNeAt.bool_none a
  |bl b=>cases rx;exact RcNeAt.bool_bool a b
  |int b=>obtain ⟨t2,rfl⟩:=rx;exact RcNeAt.bool_int a b t2
  |str b=>obtain ⟨t2,rfl⟩:=rx;exact RcNeAt.bool_str a b t2
  |_=>exact absurd (show false=true from fx) yS
 |int a =>
  obtain ⟨t1,rfl⟩:=ry;cases x with
  |non=>cases rx;exact RcNeAt.int_none a t1
  |bl b=>cases rx;exact RcNeAt.int_bool a t1 b
  |int b=>obtain ⟨t2,rfl⟩:=rx;exact RcNeAt.int_int a t1 b t2
  |str b=>obtain ⟨t2,rfl⟩:=rx;exact RcNeAt.int_str a t1 b t2
  |_=>exact absurd (show false=true from fx) yS
 |str a =>
  obtain ⟨t1,rfl⟩:=ry;cases x with
  |non=>cases rx;exact RcNeAt.str_none a t1
  |bl b=>cases rx;exact RcNeAt.str_bool a t1 b
  |int b=>obtain ⟨t2,rfl⟩:=rx;exact RcNeAt.str_int a t1 b t2
  |str b=>obtain ⟨t2,rfl⟩:=rx;exact RcNeAt.str_str a t1 b t2
  |_=>exact absurd (show false=true from fx) yS
 |_=>exact absurd (show false=true from fy) yS
theorem BZ (hl:s.heap.IsList l items)(hu:A.units<cLine)(ry:RelV y u)(fy:y6 y=true):EqAt A s u (.ref l) false:=by
 cases y with
 |non=>cases ry;exact EqAt.none_list hl hu
 |bl a=>cases ry;exact EqAt.bool_list a hl hu
 |int a=>obtain ⟨t1,rfl⟩:=ry;exact EqAt.int_list a t1 hl hu
 |str a=>obtain ⟨t1,rfl⟩:=ry;exact EqAt.str_list a t1 hl hu
 |_=>exact absurd (show false=true from fy) yS
theorem Pb (hl:s.heap.IsList l items)(hu:A.units<cLine)(ry:RelV y u)(fy:y6 y=true):EqAt A s (.ref l) u false:=by
 cases y with
 |non=>cases ry;exact EqAt.list_none hl hu
 |bl a=>cases ry;exact EqAt.list_bool a hl hu
 |int a=>obtain ⟨t1,rfl⟩:=ry;exact EqAt.list_int a t1 hl hu
 |str a=>obtain ⟨t1,rfl⟩:=ry;exact EqAt.list_str a t1 hl hu
 |_=>exact absurd (show false=true from fy) yS
theorem Pa (hl:s.heap.IsTuple l items)(hu:A.units<cLine)(ry:RelV y u)(fy:y6 y=true):EqAt A s u (.ref l) false:=by
 cases y with
 |non=>cases ry;exact EqAt.none_tuple hl hu
 |bl a=>cases ry;exact EqAt.bool_tuple a hl hu
 |int a=>obtain ⟨t1,rfl⟩:=ry;exact EqAt.int_tuple a t1 hl hu
 |str a=>obtain ⟨t1,rfl⟩:=ry;exact EqAt.str_tuple a t1 hl hu
 |_=>exact absurd (show false=true from fy) yS
theorem Pc (hl:s.heap.IsTuple l items)(hu:A.units<cLine)(ry:RelV y u)(fy:y6 y=true):EqAt A s (.ref l) u false:=by
 cases y with
 |non=>cases ry;exact EqAt.tuple_none hl hu
 |bl a=>cases ry;exact EqAt.tuple_bool a hl hu
 |int a=>obtain ⟨t1,rfl⟩:=ry;exact EqAt.tuple_int a t1 hl hu
 |str a=>obtain ⟨t1,rfl⟩:=ry;exact EqAt.tuple_str a t1 hl hu
 |_=>exact absurd (show false=true from fy) yS
theorem LC (hl:s.heap.IsList l items)(hu:A.units<cLine)(ry:RelV y u)(fy:y6 y=true):RcAt A s u (.ref l) false:=by
 cases y with
 |non=>cases ry;exact RcAt.none_list hl hu
 |bl a=>cases ry;exact RcAt.bool_list a hl hu
 |int a=>obtain ⟨t1,rfl⟩:=ry;exact RcAt.int_list a t1 hl hu
 |str a=>obtain ⟨t1,rfl⟩:=ry;exact RcAt.str_list a t1 hl hu
 |_=>exact absurd (show false=true from fy) yS
theorem LE (hl:s.heap.IsList l items)(hu:A.units<cLine)(ry:RelV y u)(fy:y6 y=true):RcAt A s (.ref l) u false:=by
 cases y with
 |non=>cases ry;exact RcAt.list_none hl hu
 |bl a=>cases ry;exact RcAt.list_bool a hl hu
 |int a=>obtain ⟨t1,rfl⟩:=ry;exact RcAt.list_int a t1 hl hu
 |str a=>obtain ⟨t1,rfl⟩:=ry;exact RcAt.list_str a t1 hl hu
 |_=>exact absurd (show false=true from fy) yS
theorem LD (hl:s.heap.IsTuple l items)(hu:A.units<cLine)(ry:RelV y u)(fy:y6 y=true):RcAt A s u (.ref l) false:=by
 cases y with
 |non=>cases ry;exact RcAt.none_tuple hl hu
 |bl a=>cases ry;exact RcAt.bool_tuple a hl hu
 |int a=>obtain ⟨t1,rfl⟩:=ry;exact RcAt.int_tuple a t1 hl hu
 |str a=>obtain ⟨t1,rfl⟩:=ry;exact RcAt.str_tuple a t1 hl hu
 |_=>exact absurd (show false=true from fy) yS
theorem LG (hl:s.heap.IsTuple l items)(hu:A.units<cLine)(ry:RelV y u)(fy:y6 y=true):RcAt A s (.ref l) u false:=by
 cases y with
 |non=>cases ry;exact RcAt.tuple_none hl hu
 |bl a=>cases ry;exact RcAt.tuple_bool a hl hu
 |int a=>obtain ⟨t1,rfl⟩:=ry;exact RcAt.tuple_int a t1 hl hu
 |str a=>obtain ⟨t1,rfl⟩:=ry;exact RcAt.tuple_str a t1 hl hu
 |_=>exact absurd (show false=true from fy) yS
theorem LH (hl:s.heap.IsList l items)(hu:A.units<cLine)(ry:RelV y u)(fy:y6 y=true):RcNeAt A s u (.ref l) true:=by
 cases y with
 |non=>cases ry;exact RcNeAt.none_list hl hu
 |bl a=>cases ry;exact RcNeAt.bool_list a hl hu
 |int a=>obtain ⟨t1,rfl⟩:=ry;exact RcNeAt.int_list a t1 hl hu
 |str a=>obtain ⟨t1,rfl⟩:=ry;exact RcNeAt.str_list a t1 hl hu
 |_=>exact absurd (show false=true from fy) yS
theorem LJ (hl:s.heap.IsList l items)(hu:A.units<cLine)(ry:RelV y u)(fy:y6 y=true):RcNeAt A s (.ref l) u true:=by
 cases y with
 |non=>cases ry;exact RcNeAt.list_none hl hu
 |bl a=>cases ry;exact RcNeAt.list_bool a hl hu
 |int a=>obtain ⟨t1,rfl⟩:=ry;exact RcNeAt.list_int a t1 hl hu
 |str a=>obtain ⟨t1,rfl⟩:=ry;exact RcNeAt.list_str a t1 hl hu
 |_=>exact absurd (show false=true from fy) yS
theorem LI (hl:s.heap.IsTuple l items)(hu:A.units<cLine)(ry:RelV y u)(fy:y6 y=true):RcNeAt A s u (.ref l) true:=by
 cases y with
 |non=>cases ry;exact RcNeAt.none_tuple hl hu
 |bl a=>cases ry;exact RcNeAt.bool_tuple a hl hu
 |int a=>obtain ⟨t1,rfl⟩:=ry;exact RcNeAt.int_tuple a t1 hl hu
 |str a=>obtain ⟨t1,rfl⟩:=ry;exact RcNeAt.str_tuple a t1 hl hu
 |_=>exact absurd (show false=true from fy) yS
theorem LK (hl:s.heap.IsTuple l items)(hu:A.units<cLine)(ry:RelV y u)(fy:y6 y=true):RcNeAt A s (.ref l) u true:=by
 cases y with
 |non=>cases ry;exact RcNeAt.tuple_none hl hu
 |bl a=>cases ry;exact RcNeAt.tuple_bool a hl hu
 |int a=>obtain ⟨t1,rfl⟩:=ry;exact RcNeAt.tuple_int a t1 hl hu
 |str a=>obtain ⟨t1,rfl⟩:=ry;exact RcNeAt.tuple_str a t1 hl hu
 |_=>exact absurd (show false=true from fy) yS
section
variable {X:Cx}{pins:List (Addr×Obj)}{σ:St}{H:Hp}{s:Shared}
theorem QN (I:Inv X pins σ H s):∀(n:Nat){x:V}{b:Bool},EqP X.K H n x x b->b=true
 |0,x,b,h=>by obtain ⟨h1,_,rfl⟩:=h;exact QO h1
 |n+1,x,b,h=>by
  rcases h with ⟨h1,_,rfl⟩|⟨a,c,xs,ys,rfl,e2,p1,p2,h⟩|⟨a,c,xs,ys,rfl,e2,p1,p2,e,he,rfl⟩|⟨a,c,xs,ys,rfl,e2,p1,p2,_⟩|⟨a,c,xs,ys,rfl,e2,p1,p2,_⟩|⟨c,ys,f,rfl,_⟩|⟨c,ys,f,rfl,_⟩
  ·exact QO h1
  ·cases e2;cases I.list_inj p1 p2;rcases h with ⟨h,_⟩|⟨_,e,he,rfl⟩
   ·exact absurd rfl h
   ·rw [uH];exact λj hj=>QN I n (he j (uZ.mp hj) (uZ.mp hj))
  ·cases e2;cases I.tuple_inj p1 p2;rw [Nat.min_self,beq_self_eq_true,Bool.and_true,uH];exact λj hj=>QN I n (he j (uZ.mp hj) (uZ.mp hj))
  ·cases e2;obtain ⟨_,_,⟨o1,_,q1,c1,_⟩,_⟩:=I.list p1;obtain ⟨_,_,⟨o2,q2,c2,_⟩,_⟩:=I.tuple p2;rw [q1] at q2;cases q2;rw [c1] at c2;exact absurd c2 (by decide)
  ·cases e2;obtain ⟨_,_,⟨o2,q2,c2,_⟩,_⟩:=I.tuple p1;obtain ⟨_,_,⟨o1,_,q1,c1,_⟩,_⟩:=I.list p2;rw [q1] at q2;cases q2;rw [c1] at c2;exact absurd c2 (by decide)
  ·cases f
  ·cases f
theorem vF (I:Inv X pins σ H s):∀(n:Nat)(A:Around){x y:V}{u v:Value}{b:Bool},A.units+n<cLine->EqP X.K H n x y b->RelV x u->RelV y v->EqAt A s u v b
 |0,A,x,y,u,v,b,hu,h,r1,r2=>by obtain ⟨h1,h2,rfl⟩:=h;exact Zk r1 r2 h1 h2
 |n+1,A,x,y,u,v,b,hu,h,r1,r2=>by
  have h':=h;rcases h with ⟨h1,h2,rfl⟩|⟨a,c,xs,ys,rfl,rfl,p1,p2,h⟩|⟨a,c,xs,ys,rfl,rfl,p1,p2,e,he,rfl⟩|⟨a,c,xs,ys,rfl,rfl,p1,p2,rfl⟩|⟨a,c,xs,ys,rfl,rfl,p1,p2,rfl⟩|⟨c,ys,f,rfl,p,rfl⟩|⟨c,ys,f,rfl,p,rfl⟩
  ·exact Zk r1 r2 h1 h2
  ·cases r1;cases r2;by_cases hac:a=c
   ·subst hac;have hb:=QN I (n+1) h';rw [hb];exact EqAt.same _
   obtain ⟨us,v1,q1,_⟩:=I.list p1;obtain ⟨ws,v2,q2,_⟩:=I.list p2;have l1:=v1.length;have l2:=v2.length;refine EqAt.of_refs hac ?_;rcases h with ⟨h,rfl⟩|⟨hl,e,he,rfl⟩
   ·exact RcAt.lists_lengths q1.isList q2.isList (by rw [yY,yY];simp;omega) (by omega)
   ·have q:=RcAt.lists (A:=A) (s:=s) q1.isList q2.isList (by rw [yY,yY];omega) (by omega) (e:=e) (λj j1 j2=>?_)
    ·rw [yY,<- l1] at q;exact q
    ·have j1':j<us.length:=by simpa using j1
     have j2':j<ws.length:=by simpa using j2
     rw [yh,yh];exact vF I n A.in1 (by show A.units+1+n<cLine;omega) (he j (by omega) (by omega)) (xp v1 j (by omega) j1') (xp v2 j (by omega) j2')
  ·cases r1;cases r2;by_cases hac:a=c
   ·subst hac;have hb:=QN I (n+1) h';rw [hb];exact EqAt.same _
   obtain ⟨us,v1,q1,_⟩:=I.tuple p1;obtain ⟨ws,v2,q2,_⟩:=I.tuple p2;have l1:=v1.length;have l2:=v2.length;refine EqAt.of_refs hac ?_;have q:=RcAt.tuples (A:=A) (s:=s) q1 q2 (by omega) (e:=e) (λj j1 j2=>?_)
   ·rw [yY,yY,<- l1,<- l2] at q;exact q
   ·have j1':j<us.length:=by simpa using j1
    have j2':j<ws.length:=by simpa using j2
    rw [yh,yh];exact vF I n A.in1 (by show A.units+1+n<cLine;omega) (he j (by omega) (by omega)) (xp v1 j (by omega) j1') (xp v2 j (by omega) j2')
  ·cases r1;cases r2;obtain ⟨us,v1,q1,_⟩:=I.list p1;obtain ⟨ws,v2,q2,_⟩:=I.tuple p2;exact EqAt.list_tuple q1.isList q2 (by omega)
  ·cases r1;cases r2;obtain ⟨us,v1,q1,_⟩:=I.tuple p1;obtain ⟨ws,v2,q2,_⟩:=I.list p2;exact EqAt.tuple_list q1 q2.isList (by omega)
  ·cases r2;rcases p with p|p
   ·obtain ⟨us,v1,q1,_⟩:=I.list p;exact BZ q1.isList (by omega) r1 f
   ·obtain ⟨us,v1,q1,_⟩:=I.tuple p;exact Pa q1 (by omega) r1 f
  ·cases r1;rcases p with p|p
   ·obtain ⟨us,v1,q1,_⟩:=I.list p;exact Pb q1.isList (by omega) r2 f
   ·obtain ⟨us,v1,q1,_⟩:=I.tuple p;exact Pc q1 (by omega) r2 f
theorem rc_at (I:Inv X pins σ H s)(hu:A.units+n<cLine)(h:EqP X.K H n x y b)(r1:RelV x u)(r2:RelV y v):RcAt A s u v b:=by
 cases n with
 |zero=>obtain ⟨h1,h2,rfl⟩:=h;exact GF r1 r2 h1 h2
 |succ n =>
  rcases h with ⟨h1,h2,rfl⟩|⟨a,c,xs,ys,rfl,rfl,p1,p2,h⟩|⟨a,c,xs,ys,rfl,rfl,p1,p2,e,he,rfl⟩|⟨a,c,xs,ys,rfl,rfl,p1,p2,rfl⟩|⟨a,c,xs,ys,rfl,rfl,p1,p2,rfl⟩|⟨c,ys,f,rfl,p,rfl⟩|⟨c,ys,f,rfl,p,rfl⟩
  ·exact GF r1 r2 h1 h2
  ·cases r1;cases r2;obtain ⟨us,v1,q1,_⟩:=I.list p1;obtain ⟨ws,v2,q2,_⟩:=I.list p2;have l1:=v1.length;have l2:=v2.length;rcases h with ⟨h,rfl⟩|⟨hl,e,he,rfl⟩
   ·exact RcAt.lists_lengths q1.isList q2.isList (by rw [yY,yY];simp;omega) (by omega)
   ·have q:=RcAt.lists (A:=A) (s:=s) q1.isList q2.isList (by rw [yY,yY];omega) (by omega) (e:=e) (λj j1 j2=>?_)
    ·rw [yY,<- l1] at q;exact q
    ·have j1':j<us.length:=by simpa using j1
     have j2':j<ws.length:=by simpa using j2
     rw [yh,yh];exact vF I n A.in1 (by show A.units+1+n<cLine;omega) (he j (by omega) (by omega)) (xp v1 j (by omega) j1') (xp v2 j (by omega) j2')
  ·cases r1;cases r2;obtain ⟨us,v1,q1,_⟩:=I.tuple p1;obtain ⟨ws,v2,q2,_⟩:=I.tuple p2;have l1:=v1.length;have l2:=v2.length;have q:=RcAt.tuples (A:=A) (s:=s) q1 q2 (by omega) (e:=e) (λj j1 j2=>?_)
   ·rw [yY,yY,<- l1,<- l2] at q;exact q
   ·have j1':j<us.length:=by simpa using j1
    have j2':j<ws.length:=by simpa using j2
    rw [yh,yh];exact vF I n A.in1 (by show A.units+1+n<cLine;omega) (he j (by omega) (by omega)) (xp v1 j (by omega) j1') (xp v2 j (by omega) j2')
  ·cases r1;cases r2;obtain ⟨us,v1,q1,_⟩:=I.list p1;obtain ⟨ws,v2,q2,_⟩:=I.tuple p2;exact RcAt.list_tuple q1.isList q2 (by omega)
  ·cases r1;cases r2;obtain ⟨us,v1,q1,_⟩:=I.tuple p1;obtain ⟨ws,v2,q2,_⟩:=I.list p2;exact RcAt.tuple_list q1 q2.isList (by omega)
  ·cases r2;rcases p with p|p
   ·obtain ⟨us,v1,q1,_⟩:=I.list p;exact LC q1.isList (by omega) r1 f
   ·obtain ⟨us,v1,q1,_⟩:=I.tuple p;exact LD q1 (by omega) r1 f
  ·cases r1;rcases p with p|p
   ·obtain ⟨us,v1,q1,_⟩:=I.list p;exact LE q1.isList (by omega) r2 f
   ·obtain ⟨us,v1,q1,_⟩:=I.tuple p;exact LG q1 (by omega) r2 f
theorem LL (I:Inv X pins σ H s)(hu:A.units+n<cLine)(h:EqP X.K H n x y b)(r1:RelV x u)(r2:RelV y v):RcNeAt A s u v (!b):=by
 cases n with
 |zero=>obtain ⟨h1,h2,rfl⟩:=h;exact GG r1 r2 h1 h2
 |succ n =>
  rcases h with ⟨h1,h2,rfl⟩|⟨a,c,xs,ys,rfl,rfl,p1,p2,h⟩|⟨a,c,xs,ys,rfl,rfl,p1,p2,e,he,rfl⟩|⟨a,c,xs,ys,rfl,rfl,p1,p2,rfl⟩|⟨a,c,xs,ys,rfl,rfl,p1,p2,rfl⟩|⟨c,ys,f,rfl,p,rfl⟩|⟨c,ys,f,rfl,p,rfl⟩
  ·exact GG r1 r2 h1 h2
  ·cases r1;cases r2;obtain ⟨us,v1,q1,_⟩:=I.list p1;obtain ⟨ws,v2,q2,_⟩:=I.list p2;have l1:=v1.length;have l2:=v2.length;rcases h with ⟨h,rfl⟩|⟨hl,e,he,rfl⟩
   ·exact RcNeAt.lists_lengths q1.isList q2.isList (by rw [yY,yY];simp;omega) (by omega)
   ·have q:=RcNeAt.lists (A:=A) (s:=s) q1.isList q2.isList (by rw [yY,yY];omega) (by omega) (e:=e) (λj j1 j2=>?_)
    ·rw [yY,<- l1] at q;exact q
    ·have j1':j<us.length:=by simpa using j1
     have j2':j<ws.length:=by simpa using j2
     rw [yh,yh];exact vF I n A.in1 (by show A.units+1+n<cLine;omega) (he j (by omega) (by omega)) (xp v1 j (by omega) j1') (xp v2 j (by omega) j2')
  ·cases r1;cases r2;obtain ⟨us,v1,q1,_⟩:=I.tuple p1;obtain ⟨ws,v2,q2,_⟩:=I.tuple p2;have l1:=v1.length;have l2:=v2.length;have q:=RcNeAt.tuples (A:=A) (s:=s) q1 q2 (by omega) (e:=e) (λj j1 j2=>?_)
   ·rw [yY,yY,<- l1,<- l2] at q;exact q
   ·have j1':j<us.length:=by simpa using j1
    have j2':j<ws.length:=by simpa using j2
    rw [yh,yh];exact vF I n A.in1 (by show A.units+1+n<cLine;omega) (he j (by omega) (by omega)) (xp v1 j (by omega) j1') (xp v2 j (by omega) j2')
  ·cases r1;cases r2;obtain ⟨us,v1,q1,_⟩:=I.list p1;obtain ⟨ws,v2,q2,_⟩:=I.tuple p2;exact RcNeAt.list_tuple q1.isList q2 (by omega)
  ·cases r1;cases r2;obtain ⟨us,v1,q1,_⟩:=I.tuple p1;obtain ⟨ws,v2,q2,_⟩:=I.list p2;exact RcNeAt.tuple_list q1 q2.isList (by omega)
  ·cases r2;rcases p with p|p
   ·obtain ⟨us,v1,q1,_⟩:=I.list p;exact LH q1.isList (by omega) r1 f
   ·obtain ⟨us,v1,q1,_⟩:=I.tuple p;exact LI q1 (by omega) r1 f
  ·cases r1;rcases p with p|p
   ·obtain ⟨us,v1,q1,_⟩:=I.list p;exact LJ q1.isList (by omega) r2 f
   ·obtain ⟨us,v1,q1,_⟩:=I.tuple p;exact LK q1 (by omega) r2 f
def rEqD (K:Fg)(n:Nat)(neg:Bool):R2:=λx y H Q=>∃ b,EqP K H n x y b/\Q (.bl (if neg then !b else b)) H
theorem zw (hu:X.A.units+n<cLine)(hK:X.K=K):OpR X (compareOp .Eq) (rEqD K n false):=by subst hK;intro pins s σ H x y v u Q I rx ry h;obtain ⟨b,h,q⟩:=h;exact rc_at I hu h rx ry X.prog X.w X.xe _ ⟨.bl b,H,I,rfl,q⟩
theorem wU (hu:X.A.units+n<cLine)(hK:X.K=K):OpR X (compareOp .NotEq) (rEqD K n true):=by subst hK;intro pins s σ H x y v u Q I rx ry h;obtain ⟨b,h,q⟩:=h;exact LL I hu h rx ry X.prog X.w X.xe _ ⟨.bl (!b),H,I,rfl,q⟩
theorem hu6 {k:Nat}(hr:Room k A):A.units+6<cLine:=by have:=hr.units;omega
end
end L2
namespace L2
open PySem PySem.Spec PyProof.Rows
section
variable {X:Cx}{K:Fg}
def rAddS:R2:=λx y H Q=>∃ i j,x = .str i/\y = .str j/\i.length+j.length<=sizeLine/\Q (.str (i++j)) H
def XH (K:Fg):R2:=λx y H Q=>(rI0 λi j=> .int (i+j)) x y H Q∨rAddS x y H Q∨Jn K x y H Q∨Gx K x y H Q
theorem xo (h:X.K=K):OpR X (binaryOp .Add) (XH K):=by subst h;exact op_add.or (op_add_str.or (op_catL.or Mu))
theorem Cv (h:X.K=K):IxR X (rIx K):=by subst h;exact Cu
def wb (K:Fg):List V->Hp->VK->Prop:=λxs H Q=>(∃ x n,xs=[x]/\LenV K x H n/\Q (.int n) H)∨∃ a kvs,xs=[V.ref a]/\H a=some (.dK kvs)/\Q (.int kvs.length) H
theorem qi (h:X.K=K):CallR X (.builtin "len") (wb K):=by subst h;exact CallR.or (f:= .builtin "len") Bu Bv
theorem Ls {a:Expr}{ta:TE}(h:X.K=K)(ha:PE X a ta)(he:∀ whole,isTrue a X.env whole=(do let v <- whole;standAt a.pos;holding [v] (truthy v))):PT X a (λσ H Q=>ta σ H λx H'=>∃ k,TruV K x H' k/\Q k H'):=by subst h;exact Lu ha he
theorem Jb (h:X.K=K):OpR X (compareOp .In) (rIn K false):=by subst h;exact Mv
def GB (K:Fg):List V->Hp->VK->Prop:=λxs H Q=>∃ p ys,xs=[.ref p]/\(SqL K H p ys∨SqT K H p ys)/\∀ l,H l=none->Q (.ref l) (z5 H l (.lst ys))
theorem Yt (h:X.K=K):CallR X (.type "list") (GB K):=by subst h;exact Bz
def rIsi (K:Fg):List V->Hp->VK->Prop:=λxs H Q=>∃ x n T b,xs=[x,.ty n]/\qW K H x (.type T)/\tyB T n=some b/\Q (.bl b) H
theorem xP (h:X.K=K):CallR X (.builtin "isinstance") (rIsi K):=by subst h;exact Bt
def Gv (K:Fg):List V->Hp->VK->Prop:=λxs H Q=>∃(a:Addr)(bs:List Bool),xs=[.ref a]/\SqL K H a (bs.map V.bl)/\Q (.bl (bs.all id)) H
theorem jC (hc:X.calm=true)(h:X.K=K):CallR X (.builtin "all") (Gv K):=by subst h;exact Br hc
def rIsN:R2:=λx y H Q=>y = .non/\Q (.bl (decide (x = .non))) H
def GC:R2:=λx y H Q=>y = .non/\Q (.bl (!decide (x = .non))) H
theorem UU:OpR X (compareOp .Is) rIsN:=Mw
theorem MC:OpR X (compareOp .IsNot) GC:=Mz
theorem Bo:bootBuiltins "tuple"=some (.type "tuple"):=by decide +kernel
theorem Yp:bootBuiltins "sorted"=some (.builtin "sorted"):=by decide +kernel
theorem QB:bootBuiltins "dict"=some (.type "dict"):=by decide +kernel
theorem HJ:tyB "tuple" "tuple"=some true:=by decide +kernel
end
section
variable {X:Cx}{K:Fg}{o e:Expr}{es:List Expr}{to:TE}{t:TA}{name:Str}{apos cpos:Pos}{T id:String}{r:V->List V->Hp->VK->Prop}
theorem jX (hK:X.K=K)(pa:PlainAttrs T)(slot:Slot T name id)(hty:typeOf (.builtin id)=pure (.type "method_descriptor"))(hm:MtR X id r)(ho:PE X o to)(ha:PA X (e::es) t)(hbase:attributeBase o name X.env (eval o X.env)=eval o X.env:=by rfl)(hfew:((backTo cpos (starEach (e::es) X.env)).all (λx=>!x.1)&&(backToKw cpos (keywordEach [] X.env)).all (λx=>x.1.isSome)&&decide ((e::es).length+([]:List Keyword).length+(if ([]:List Keyword).isEmpty then 0 else 1)<30))=true:=by rfl)(hline:(apos.endLine==cpos.line)=true:=by rfl)(hs:starEach (e::es) X.env=(false,eval e X.env)::starEach es X.env:=by rfl)(hplain:(backTo cpos (starEach es X.env)).any (·.1)=false:=by rfl):PE X (.Call (.Attribute o name apos) (e::es) [] cpos) (tBM K T r to t):=by subst hK;exact pe_bm pa slot hty hm ho ha hbase hfew hline hs hplain
end
end L2
namespace L2
open PySem PySem.Spec PySem.Calls
variable{h:Heap}{a:Addr}{n:Nat}{A:Around}
section
variable {P:Program}{w:World}{κ:Type}[DecidableEq κ]{knd:PySem.KeyKind P w κ}
def k9 (val:Nat->κ):Nat->List κ
 |0=>[]
 |i+1=>if val i∈k9 val i then k9 val i else k9 val i++[val i]
theorem GU (val:Nat->κ):∀ i,(k9 val i).length<=i
 |0=>yU _
 |i+1=>by
  have ih:=GU val i;unfold k9;split
  ·omega
  ·rw [yJ,List.length_singleton];omega
theorem GW {S S':κ->Bool}{n':Nat}(x:h.SetOf knd a S n)(e:∀ k,S k=S' k)(en:n=n'):h.SetOf knd a S' n':=by cases (funext e:S=S');cases en;exact x
theorem Vv {h':Heap}{S:κ->Bool}(x:h.SetOf knd a S n)(e:∀ o,h.get? a=some o->h'.get? a=some o):h'.SetOf knd a S n:=by obtain ⟨o,es,ep,t,ho,r⟩:=x;exact ⟨o,es,ep,t,e _ ho,r⟩
theorem NN {R:Result->Shared->Prop}{I:Addr}{fp wr:List Addr}{G:Array GenState->Array GenState->Prop}{Pp:Nat->Value->Prop}{St:Nat->Shared->Prop}(W:WalksS P w A.in1 I fp wr G n Pp St)(a:Addr)(ha:a∉fp)(val:Nat->κ)(hv:∀ i v,Pp i v->knd.is (val i) v=true/\v.scannable=true)(hb:n+1<scanBound):∀ (m i:Nat) (s:Shared),n-i=m->i<=n->St i s->s.heap.SetOf knd a (λx=>decide (x∈k9 val i)) (k9 val i).length -> (∀ s',Moved (a::wr) G s s'->s'.heap.SetOf knd a (λx=>decide (x∈k9 val n)) (k9 val n).length->R (.ok (.ret .none)) s') -> codeAny (model P w) A (.builtin "set.update.loop" ⟨[.ref a,.ref I],[]⟩) R s:=by
 have haw:a∉wr:=λz=>ha (W.sub _ z);have up:∀ b∈wr,b∈a::wr:=λb z=>yN _ z;intro m
 induction m with
 |zero =>
  intro i s hm hi st hS hR;obtain rfl:i=n:=by omega
  refine codeAny_builtin PyProof.Rows.F.entry_set_update_loop ?_;rw [Around.under_plainId PyProof.Rows.F.plain_set_update_loop _];show wpAny _ A.in1 (pyNext (.ref I) >>= _) _ _ s;refine yV (W.done s _ _ st λs' mv=>?_);show wpAny _ A.in1 (ret Value.none) _ _ s';exact yG (hR s' (mv.mono up) (Vv hS λo e=>mv.heap a o haw e))
 |succ m ih =>
  intro i s hm hi st hS hR;have hlt:i<n:=by omega
  refine codeAny_builtin PyProof.Rows.F.entry_set_update_loop ?_;rw [Around.under_plainId PyProof.Rows.F.plain_set_update_loop _];show wpAny _ A.in1 (pyNext (.ref I) >>= _) _ _ s;refine yV (W.item i s _ _ hlt st λv s' hP st' mv=>?_);obtain ⟨hk,hsc⟩:=hv i v hP;have hS':s'.heap.SetOf knd a (λx=>decide (x∈k9 val i)) (k9 val i).length:=Vv hS λo e=>mv.heap a o haw e;show wpAny _ A.in1 (holding [v] (setAdd a v) >>= _) _ _ s';refine yV (wpAny_holding ?_);unfold setAdd;refine wpAny_holding (yV (knd.pyHash (k:=val i) hk ?_));have room:(k9 val i).length+1<scanBound:=by have:=GU val i;omega
  refine wpAny_setAddHashed_of (knd:=knd) (s:={ s' with toks:=s'.toks+1 }) hk hsc hS' room λh' sb hS2=>?_;have hSi:h'.SetOf knd a (λx=>decide (x∈k9 val (i+1))) (k9 val (i+1)).length:=by
   refine GW hS2 (λx=>?_) ?_
   ·by_cases hc:val i∈k9 val i
    ·rw [show k9 val (i+1)=k9 val i from if_pos hc];by_cases hx:x=val i
     ·subst hx;simp [hc]
     ·simp [hx]
    ·rw [show k9 val (i+1)=k9 val i++[val i] from if_neg hc];simp
   ·by_cases hc:val i∈k9 val i
    ·rw [show k9 val (i+1)=k9 val i from if_pos hc];simp [hc]
    ·rw [show k9 val (i+1)=k9 val i++[val i] from if_neg hc];simp [hc]
  refine yG ⟨plainId_quiet PyProof.Rows.F.plain_set_update_loop _,ih (i+1) _ (by omega) hlt (W.frame _ s' _ _ st' (uf _) λb z o e=>?_) hSi λs2 mv2 hS3=>?_⟩
  ·rw [sb.2 b (λq:b=a=>ha (by rw [<- q];exact z))];exact e
  ·refine hR s2 (Moved.trans W.gtrans ((mv.mono up).then_heap (uf _) λb o z e=>?_) mv2) hS3;rw [sb.2 b (λq:b=a=>z (by rw [q];exact yQ))];exact e
theorem BC {E:Value->Shared->Prop}{s:Shared}{l:Addr}{its:Array Value}{val:Nat->κ}{Q:Value->Shared->Prop}(hh:A.handled=none)(hl:s.heap.IsList l its)(hv:∀ (i:Nat) (v:Value),its[i]?=some v->knd.is (val i) v=true/\v.scannable=true)(hb:its.size+1<scanBound)(h:∀ (h':Heap) (tk:Nat),h'.SetOf knd s.heap.objs.size (λx=>decide (x∈k9 val its.size)) (k9 val its.size).length -> (∀ b o,s.heap.get? b=some o->h'.get? b=some o)->Q (.ref s.heap.objs.size) { s with heap:=h',toks:=tk }):wpAny (model P w) A (call (.type "set") [.ref l]) Q E s:=by
 obtain ⟨c,tl,hmro⟩:=PySem.F.called_set.mro;have hmade:=PySem.F.called_set.made;have hsub:=PySem.F.called_set.sub;refine wpAny_call (codeAny_of_tree ?_);show wpAny _ _ (callAny (.type "set") _) _ _ _;refine yG ⟨Code.quiet_builtin _ (by decide +kernel),codeAny_builtin PySem.F.entry_type_call ?_⟩;rw [Around.under_plain (weight_type_call_type "set" [.ref l] []) rfl];have q1:=PySem.F.called_set.notType;have q2:=PySem.F.called_set.canCreate;have q3:=PySem.F.typeCall_set_1 (.ref l)
 (repeat (any_goals (first|assumption|wp_step)))
 refine codeAny_mono (code_set_new_1 (.ref l) (E:=E) (Q₁:=λob s1=>∃ led:Bool,ob = .ref s.heap.objs.size/\s1={ s with heap:=s.heap.push { cls:= .type "set",dict:=none,data:= .set #[] 0 (.fresh 0 0 led) } }) λled=>⟨led,rfl,rfl⟩) λr s1 hr=>?_;cases r with
 |error e=>exact hr
 |ok fl =>
  cases fl with
  |ret ob =>
   obtain ⟨led,rfl,rfl⟩:=hr;have hS:(s.heap.push { cls:= .type "set",dict:=none,data:= .set #[] 0 (.fresh 0 0 led) }).get? s.heap.objs.size=some { cls:= .type "set",dict:=none,data:= .set #[] 0 (.fresh 0 0 led) }:=yI _ rfl;have hT:Shared.TypeIs { s with heap:=s.heap.push { cls:= .type "set",dict:=none,data:= .set #[] 0 (.fresh 0 0 led) } } (.ref s.heap.objs.size) "set":=⟨_,hS,rfl⟩;have hli:=PySem.F.called_set.init.lookup;have hbi:=PySem.F.called_set.init.bind (.ref s.heap.objs.size)
   (repeat (any_goals (first|assumption|wp_step)))
   refine codeAny_mono (codeAny_call_builtin (R:=wants (λr s2=>r = .none/\∃ h' tk,s2={ s with heap:=h',toks:=tk }/\h'.SetOf knd s.heap.objs.size (λx=>decide (x∈k9 val its.size)) (k9 val its.size).length /\
     (∀ b o,s.heap.get? b=some o->h'.get? b=some o)) E) PySem.F.called_set.init.plain PySem.F.entry_set_init (check_set_init_1 hT ?_)) λr2 s2 hr2=>?_
   ·obtain ⟨ol,hol,hcl,nl,hdl⟩:=hl;obtain ⟨ocls,odict,odata,oslots⟩:=ol;simp only at hcl hdl;subst hcl;subst hdl;have hol':(s.heap.push { cls:= .type "set",dict:=none,data:= .set #[] 0 (.fresh 0 0 led) }).get? l=some { cls:= .type "list",dict:=odict,data:= .seq its nl,slots:=oslots }:=yX _ hol;have z1:=PySem.F.sub_list_set;have z2:=PySem.F.sub_list_frozenset;have z3:(Value.type "list" == Value.type "dict")=false:=by decide
    have hl1:(s.heap.push { cls:= .type "set",dict:=none,data:= .set #[] 0 (.fresh 0 0 led) }).IsList l its:=⟨_,hol',rfl,nl,rfl⟩;unfold Builtin.«set.__init__» noKeywords Builtin.Frozenset.updateFrom;generalize hPI:pyIter=PI
    wp_walk
    subst hPI;refine wpAny_pyIter_list hl1 ?_;refine yV (wpAny_runValue ?_);have hlS:l<s.heap.objs.size:=yT hol;have h3:A.in1.in1.in1.handled=none:=by simp [hh]
    have ne1:l≠(s.heap.push { cls:= .type "set",dict:=none,data:= .set #[] 0 (.fresh 0 0 led) }).objs.size:=by rw [uG];exact yK (Nat.lt_succ_of_lt hlS)
    have ne2:s.heap.objs.size∉[(s.heap.push { cls:= .type "set",dict:=none,data:= .set #[] 0 (.fresh 0 0 led) }).objs.size,l]:=by rw [uG];simp only [yP,yi,or_false,not_or];exact ⟨yK (uB _),uu hlS⟩
    refine NN (knd:=knd) ((Walks.list h3 _ l ne1 its).toS) s.heap.objs.size ne2 val hv hb (its.size-0) 0 _ (by omega) (yo _) ⟨⟨_,yI _ rfl,rfl,rfl⟩,(hl1.push _)⟩ ?_ ?_
    ·have hg:((s.heap.push { cls:= .type "set",dict:=none,data:= .set #[] 0 (.fresh 0 0 led) }).push { cls:= .type "list_iterator",data:= .fields #[.ref l,.int 0 0] }).get? s.heap.objs.size=some { cls:= .type "set",dict:=none,data:= .set #[] 0 (.fresh 0 0 led) }:=yX _ hS;exact GW ((PyProof.Rows.setObjOf_fresh (knd:=knd) led).setOf hg (by unfold scanBound;omega)) (λx=>by simp [k9]) rfl
    ·rintro ⟨h',g',d',tk',os'⟩ mv hS';have eg:g'=s.gens:=mv.gens;have ed:d'=s.drawn:=mv.drawn;have eo:os'=s.os:=mv.os;subst eg ed eo;show wpAny _ _ _ _ _ _;refine yG ?_;show wpAny _ _ (ret Value.none) _ _ _;refine yG ⟨rfl,h',tk',rfl,hS',λb o e=>?_⟩;have hb0:=yT e;refine mv.heap b o ?_ (yX _ (yX _ e));rw [uG];simp only [yP,yi,or_false,not_or];exact ⟨yK hb0,yK (Nat.lt_succ_of_lt hb0)⟩
   ·cases r2 with
    |error e=>exact hr2
    |ok fl2 =>
     cases fl2 with
     |ret r =>
      obtain ⟨rfl,h',tk,rfl,hS',hk'⟩:=hr2
      (repeat (any_goals (first|assumption|wp_step)))
      exact h _ _ hS' hk'
     |_=>exact False.elim hr2
  |_=>exact False.elim hr
end
def jx (n:Nat)(a:Addr):HO:= .ext λh=>∃(P:Program)(w:World)(S:x8->Bool),h.SetOf (m8 P w) a S n
section
variable {X:Cx}
theorem Ru {ss:List Str}{us:List Value}(r:Vals (ss.map V.str) us):∀(i:Nat)(v:Value),us[i]?=some v->∃ x t,ss[i]?=some x/\v = .str x t:=by
 have key:∀(ss:List Str)(us:List Value),Vals (ss.map V.str) us->∀(i:Nat)(v:Value),us[i]?=some v->∃ x t,ss[i]?=some x/\v = .str x t:=by
  intro ss
  induction ss with
  |nil=>intro us r i v e;cases r;simp at e
  |cons s ss ih =>
   intro us r i v e;cases r with
   |cons p q =>
    cases i with
    |zero=>obtain ⟨t,rfl⟩:=p;simp at e;exact ⟨s,t,rfl,e.symm⟩
    |succ i=>exact ih _ q i v (by simpa using e)
 intro i v e;exact key ss us r i v e
theorem BB (hc:X.calm=true):CallR X (.type "set") (λxs H Q=>∃ (a:Addr) (ss:List Str),xs=[.ref a]/\SqL X.K H a (ss.map V.str)/\ss.length<=1000 /\ ∀ l,H l=none->Q (.ref l) (z5 H l (jx (k9 (λi=>(Sum.inr (ss.getD i ⟨#[]⟩):x8)) ss.length).length l))):=by
 intro pins s σ H xs us Q I r h;obtain ⟨a,ss,rfl,hq,hl,q⟩:=h;obtain ⟨u,rfl,ru⟩:=xJ r;obtain rfl:u=Value.ref a:=ru;obtain ⟨its,rv,p,hz⟩:=I.list hq;have hn:its.length=ss.length:=by have e:=rv.length;rw [yZ] at e;exact e.symm
 refine BC (knd:=m8 X.prog X.w) (its:=its.toArray) (val:=λi=>(Sum.inr (ss.getD i ⟨#[]⟩):x8)) (I.ok.hd hc) p.isList (λi v e=>?_) (by rw [yY,hn];unfold scanBound;omega) λh' tk hS k=>?_
 ·obtain ⟨x,t,hx,rfl⟩:=Ru rv i v (by simpa using e);rw [yb,hx];exact ⟨ZU _ _ _ _,rfl⟩
 ·have e8:its.toArray.size=ss.length:=by rw [yY];exact hn
  rw [e8] at hS;refine ⟨.ref s.heap.objs.size,_,I.laid (t':=tk) k (yU _) (show ObjOk X.prog X.w _ h' _ (jx _ _) from ⟨⟨_,_,_,hS⟩,?_,?_⟩),rfl,q _ (I.hok.fresh (yU _))⟩
  ·obtain ⟨o,_,_,_,ho,_⟩:=hS;exact ⟨o,ho⟩
  ·rintro h1 h2 ⟨P,w,S,x⟩ e;exact ⟨P,w,S,Vv x e⟩
theorem Bw:CallR X (.builtin "len") (λxs H Q=>∃ (a:Addr) (n:Nat),xs=[.ref a]/\H a=some (jx n a)/\Q (.int n) H):=by
 intro pins s σ H xs us Q I r h;obtain ⟨a,n,rfl,hq,q⟩:=h;obtain ⟨u,rfl,ru⟩:=xJ r;obtain rfl:u=Value.ref a:=ru;obtain ⟨⟨P,w,S,o,es,ep,t,ho,hex,hd,_,_,hb,hf,hn⟩,_⟩:=(show ObjOk X.prog X.w H s.heap a (jx n a) from I.hok a _ hq);subst hn;have h63:((es.size:Nat):Int)<2 ^ 63:=by unfold scanBound at hb;omega
 exact call_len_set ho hex hd hf h63 ⟨.int es.size,H,I.tok _,⟨_,rfl⟩,q⟩
end
end L2
namespace L2
open PySem PySem.Spec PySem.Calls PyProof.Rows
variable{ss:List Str}{P:Program}{w:World}{vs:List Value}{A:Around}{E Q:Value->Shared->Prop}{s:Shared}
section
variable {X:Cx}
def Qy (ss:List Str):Prop:=ss.Pairwise λx y=>¬ (y.cps.toList<x.cps.toList)
theorem GZ (h:sortedS ss=true):Qy ss:=by
 cases ss with
 |nil=>exact List.Pairwise.nil
 |cons x r =>
  have key:∀(l:List Str)(p:Str),risingS p l=true->(p::l).Pairwise λx y=>¬ (y.cps.toList<x.cps.toList):=by
   intro l
   induction l with
   |nil=>intro p _;exact uk _ _
   |cons y l ih =>
    intro p hp;have hp':(!ltCps y.cps.toList p.cps.toList&&risingS y l)=true:=hp;rw [yf] at hp';have i2:=ih y hp'.2;have hyp:¬ (y.cps.toList<p.cps.toList):=by have e:=hp'.1;rw [ltCps_eq] at e;simpa using e
    refine ye.mpr ⟨λz hz=>?_,i2⟩;rcases yP.mp hz with rfl|hz
    ·exact hyp
    ·have hzy:=(ye.mp i2).1 z hz;intro hlt;exact hyp (Std.lt_of_le_of_lt (Std.not_lt.mp hzy) hlt)
  exact key r x h
def GE (K:Fg):List V->Hp->VK->Prop:=λxs H Q=>∃(a:Addr)(ss:List Str),xs=[.ref a]/\(SqL K H a (ss.map V.str)∨∃ kvs,Rd H a (.dK kvs)/\kvs.map (·.1)=ss.map Sum.inr)/\ss.length<64 /\
 ∀ l ss',H l=none->ss'.Perm ss->Qy ss'->Q (.ref l) (z5 H l (.lst (ss'.map V.str)))
theorem Ke:∀{ss:List Str}{us:List Value},Vals (ss.map V.str) us->StrsAre us ss
 |[],_,.nil=> .nil
 |x::_,_,.cons ⟨t,e⟩ r=>by subst e;exact .cons x t (Ke r)
theorem VQ:∀{us:List Value}{ss:List Str},StrsAre us ss->Vals (ss.map V.str) us
 |_,_,.nil=> .nil
 |_,_,.cons x t r=> .cons ⟨t,rfl⟩ (VQ r)
theorem CF:∀{kvs:List (x8×V)}{vs:List (x8×Value)}{ss:List Str},KV kvs vs->kvs.map (·.1)=ss.map Sum.inr->vs.map (·.1)=ss.map Sum.inr:=by
 intro kvs vs ss r e;rw [<- e];clear e
 induction r with
 |nil=>rfl
 |cons p _ ih=>rw [yO,yO,ih,p.1]
theorem Co {vs:List (x8×Value)}{acc:Array Value}(e:vs.map (·.1)=ss.map Sum.inr)(h:ItemsOf (λi v=>∃ k x,vs[i]?=some (k,x)/\(m8 P w).is k v=true) acc vs.length):StrsAre acc.toList ss:=by
 have hl:vs.length=ss.length:=by have:=congrArg List.length e;rwa [yZ,yZ] at this
 have h0:∀ v∈acc.toList,∃ x t,v = .str x t:=by
  intro v hv;obtain ⟨i,hi,rfl⟩:=uK hv;obtain ⟨k,x,hk,his⟩:=h.2 i acc.toList[i] (by simp at hi ⊢);have hk2:(vs.map (·.1))[i]?=some k:=by rw [yM,hk];rfl
  rw [e,yM] at hk2;obtain ⟨z,_,rfl⟩:=yL.mp hk2;cases hv2:acc.toList[i] with
  |str y t=>exact ⟨y,t,rfl⟩
  |_=>rw [hv2] at his;cases his
 have h1:=strsAre_map acc.toList h0;have e2:acc.toList.map strOf=ss:=by
  apply List.ext_getElem?;intro i;rw [yM];by_cases hi:i<acc.size
  ·obtain ⟨k,x,hk,his⟩:=h.2 i acc[i] (Array.getElem?_eq_getElem hi);have hk2:(vs.map (·.1))[i]?=some k:=by rw [yM,hk];rfl
   rw [e,yM] at hk2;obtain ⟨z,hz,rfl⟩:=yL.mp hk2;obtain ⟨y,t,hy⟩:=h0 acc[i] (by simp);rw [hy] at his;have:y=z:=by have q:jO (Sum.inr z) (.str y t)=true:=his;have q2:=Uu y t;have q3:=(m8 P w).inj (.str y t) (Sum.inr z) (Sum.inr y) his (ZU P w y t);injection q3 with q3;exact q3.symm
   rw [hz,ub,Array.getElem?_eq_getElem hi,hy,<- this];rfl
  ·have h1:=h.1;rw [uR (by simp;omega),uR (by omega)];rfl
 rw [e2] at h1;exact h1
theorem Rz (hS:StrsAre vs ss)(h64:vs.length<64)(h:∀ (h':Heap) (out:List Value) (ss':List Str) (e:Nat),(∀ b o,s.heap.get? b=some o->h'.get? b=some o)->h'.get? s.heap.objs.size=some (seqObj "list" out.toArray e)->StrsAre out ss'->ss'.Perm ss->sortedS ss'=true->Q (.ref s.heap.objs.size) { s with heap:=h' }):wpAny (model P w) A (newList vs >>= λl=>holding [l] (call (.builtin "list.sort") [l]) >>= λ_=>pure l) Q E s:=by
 refine yV (wpAny_newList ?_);have ho:(s.heap.push (seqObj "list" vs.toArray 0)).get? s.heap.objs.size=some (seqObj "list" vs.toArray 0):=yI _ rfl;refine yV (wpAny_holding (wpAny_call_entry slot_list_sort (s:={ s with heap:=s.heap.push (seqObj "list" vs.toArray 0) }) ⟨_,ho,rfl⟩ entry_list_sort
  (list_sort_treeK strKind_oneLt (s:={ s with heap:=s.heap.push (seqObj "list" vs.toArray 0) }) ho hS.keysOf (λv1 v2 rest e=>keyKind_strs (by rw [<- e];exact hS)) h64 λst p1 p2=>⟨_,rfl,?_⟩) (args_list_sort _)))
 obtain ⟨ss',a1,a2,a3⟩:=sorted_out_str hS p1 p2;obtain ⟨e,he⟩:=sortedHeap_at (out:=(arrOf st).map (·.2)) ho;refine yG (h _ _ ss' e (λb o hb=>?_) (by rw [Array.toArray_toList];exact he) a1 a2 a3);have hlt:=yT hb;rw [sortedHeap_old (yK hlt) (by rw [uG];exact Nat.lt_succ_of_lt hlt)];exact yX _ hb
theorem NW (hS:StrsAre vs ss)(h64:vs.length<64)(h:∀ (h':Heap) (out:List Value) (ss':List Str) (e:Nat),(∀ b o,s.heap.get? b=some o->h'.get? b=some o)->h'.get? s.heap.objs.size=some (seqObj "list" out.toArray e)->StrsAre out ss'->ss'.Perm ss->sortedS ss'=true->Q (.ref s.heap.objs.size) { s with heap:=h' }):wpAny (model P w) A (newList vs >>= λl=>holding [l] (call (.builtin "list.sort") [l] []) >>= λ_=>ret l) (λfin s'=>∃ v,fin=PySem.Fin.done (.ret v)/\Q v s') E s:=by
 refine yV (wpAny_newList ?_);have ho:(s.heap.push (seqObj "list" vs.toArray 0)).get? s.heap.objs.size=some (seqObj "list" vs.toArray 0):=yI _ rfl;refine yV (wpAny_holding (wpAny_call_entry slot_list_sort (s:={ s with heap:=s.heap.push (seqObj "list" vs.toArray 0) }) ⟨_,ho,rfl⟩ entry_list_sort
  (list_sort_treeK strKind_oneLt (s:={ s with heap:=s.heap.push (seqObj "list" vs.toArray 0) }) ho hS.keysOf (λv1 v2 rest e=>keyKind_strs (by rw [<- e];exact hS)) h64 λst p1 p2=>⟨_,rfl,?_⟩) (args_list_sort _)))
 obtain ⟨ss',a1,a2,a3⟩:=sorted_out_str hS p1 p2;obtain ⟨e,he⟩:=sortedHeap_at (out:=(arrOf st).map (·.2)) ho;refine yG ⟨_,rfl,h _ _ ss' e (λb o hb=>?_) (by rw [Array.toArray_toList];exact he) a1 a2 a3⟩;have hlt:=yT hb;rw [sortedHeap_old (yK hlt) (by rw [uG];exact Nat.lt_succ_of_lt hlt)];exact yX _ hb
theorem BD {K:Fg}(hc:X.calm=true)(hK:X.K=K):CallR X (.builtin "sorted") (GE K):=by
 subst hK;intro pins s σ H xs us Q I r h;obtain ⟨a,ss,rfl,hq,h64,q⟩:=h;obtain ⟨u,rfl,ru⟩:=xJ r;obtain rfl:u=Value.ref a:=ru;rcases hq with hq|⟨kvs,hq,hk⟩
 ·obtain ⟨its,rv,p,hz⟩:=I.list hq;have hS:=Ke rv;have hl:its.length=ss.length:=by have e:=rv.length;rw [yZ] at e;exact e.symm
  refine sorted_strs p.isList hS (by omega) λout ss' a1 a2 a3=>?_;obtain ⟨e,he⟩:=sortedAll_at s.heap its out;refine ⟨.ref _,_,I.laid (t':=s.toks) (o:= .lst (ss'.map V.str)) (λb o hb=>sortedAll_old hb) (uf _) ?_,rfl,q _ ss' (I.hok.fresh (uf _)) a2 (GZ a3)⟩;exact ⟨by rw [yZ,a2.length_eq];exact uS (wd (by omega)),out.toList,e,VQ a1,by simpa [seqObj] using he⟩
 ·obtain ⟨z,hd,vs,rel,dd⟩:=zJ I.hok hq;obtain ⟨ep,hat⟩:=dd.dictAt;have ek:=CF rel hk;have hvl:vs.length=ss.length:=by have:=congrArg List.length ek;rwa [yZ,yZ] at this
  refine Calls.call_function_entry (id:="sorted") kind_sorted plain_sorted entry_sorted (args_sorted1 _) ?_;unfold Builtin.«sorted»;refine yV (m:=checkCount "sorted" 1 1 _) (yG ?_);refine yV (PySem.W.kdu_collect (PySem.W.kdl_dict (knd:=m8 X.prog X.w) (kvs:=vs) (ep:=ep) hd) (by simpa using I.ok.hd hc) hat (uS (wd (by omega))) λh1 tk acc k1 hacc=>?_);have hS:=Co ek hacc;have hal:acc.toList.length=ss.length:=by have:=hacc.1;simp;omega
  refine NW (s:={ s with heap:=h1,toks:=tk }) hS (by omega) λh' out ss' e k2 he a1 a2 a3=>?_;have I1:Inv X pins σ H { s with heap:=h1,toks:=tk }:=I.kept (t':=tk) k1;refine ⟨.ref _,_,I1.laid (t':=tk) (o:= .lst (ss'.map V.str)) k2 (yU _) ?_,rfl,q _ ss' (I1.hok.fresh (yU _)) a2 (GZ a3)⟩;exact ⟨by rw [yZ,a2.length_eq];exact uS (wd (by omega)),out,e,VQ a1,he⟩
end
end L2
namespace L2
open PySem PySem.Spec PySem.Calls
variable{a:Addr}{its:Array Value}{n:Nat}
section
variable {P:Program}{w:World}{A:Around}{E:Value->Shared->Prop}
theorem CT:typeLookup (.type "list") "keys"=pure none:=am_miss_of_fast (by kernel_rfl)
theorem CS:typeLookup (.type "list") "__getattr__"=pure none:=am_miss_of_fast (by kernel_rfl)
theorem Pq {hp:Heap}{g:Array GenState}{d:Drawn}{tk:Nat}{os:_}{u:Tok}{Q:PySem.Fin->Shared->Prop}(ho:hp.get? a=some { cls:= .type "list",data:= .seq its n })(hh:A.handled=none)(h:∀ h' tk' e,Heap.NewAttrErr hp h' e (.ref a) "keys"->E (.ref e) ⟨h',g,d,tk',os⟩):wpAny (model P w) A (Builtin.«object.__getattribute__» ⟨[.ref a,.str "keys" u],[]⟩) Q E ⟨hp,g,d,tk,os⟩:=by
 have hT:(⟨hp,g,d,tk,os⟩:Shared).TypeIs (.ref a) "list":=⟨_,ho,rfl⟩;have f0:=CT;unfold Builtin.«object.__getattribute__»
 (repeat (any_goals (first|assumption|wp_step)))
 exact wpAny_raiseAttrError (s:=⟨hp,g,d,tk,os⟩) hh h (attrMsg_fits (by decide +kernel) (by decide +kernel))
theorem Be {s:Shared}{Q:Option Value->Shared->Prop}(ho:s.heap.get? a=some { cls:= .type "list",data:= .seq its n })(hh:A.handled=none)(h:∀ h' tk,(∀ b o,s.heap.get? b=some o->h'.get? b=some o)->Q none { s with heap:=h',toks:=tk }):wpAny (model P w) A (getAttr? (.ref a) "keys") Q E s:=by
 obtain ⟨hp,g,d,tk,os⟩:=s;have hT:∀ t',(⟨hp,g,d,t',os⟩:Shared).TypeIs (.ref a) "list":=λ_=>⟨_,ho,rfl⟩;have f1:=sub_AttributeError;have f2:=PySem.F.slot_list_getattribute.lookup;have f3:=PySem.F.slot_list_getattribute.bind (.ref a);have f5:=CS;unfold getAttr? getAttrBy? getAttrBy
 (repeat (any_goals (first|assumption|exact hT _|wp_step)))
 refine codeAny_call_builtin PySem.F.slot_list_getattribute.plain PySem.F.entry_list_ga (PySem.F.slot_list_getattribute.check _ _ _ _ _ _ _ _ (hT _) (PySem.F.args_list_getattribute_2 _ _) (Pq ho (by simpa using hh) λh' tk' e hx=>?_));obtain ⟨t',u',he⟩:=hx.there;have hk:=hx.keeps;show wpAny _ _ (getattributeRaised _ _ _ _ _ _ _) _ _ _;unfold getattributeRaised
 (repeat (any_goals (first|assumption|wp_step)))
 exact h _ _ hk
end
end L2
namespace L2
open PySem PySem.Spec PySem.Calls PyProof.Rows
variable{A:Around}{s:Shared}{H:Hp}{kvs:List (x8×V)}{P:Program}{w:World}{o:Obj}{es:Array DictEntry}{ep:Nat}{K:Fg}
theorem Bn:bootBuiltins "set"=some (.type "set"):=by decide +kernel
section
variable {P:Program}{w:World}{κ:Type}[DecidableEq κ]{knd:PySem.KeyKind P w κ}
theorem YQ:entryFor table "dict.update.loop"=some Builtin.«dict.update.loop»:=entryFor_of_tree (by kernel_rfl)
theorem Xz:plainId "dict.update.loop"=true:=by decide +kernel
theorem BX {R:Result->Shared->Prop}{I:Addr}{fp wr:List Addr}{Pp:Nat->Value->Prop}{St:Nat->Heap->Prop}{more:List (κ×Value)}{lo:Addr}(W:Walks P w A.in1 I fp wr more.length Pp St)(d:Addr)(hdf:d∉fp)(hlo:lo<=d)(hwr:∀ b∈wr,lo<=b)(hsz:more.length<=sizeLine):∀ (m i:Nat) (z:Int) (tk:Tok) (s:Shared),more.length-i=m->i<=more.length->St i s.heap->s.heap.DictOf knd d (merged [] (more.take i)) -> (∀ j v kv,Pp j v->more[j]?=some kv->∃ t k,t<lo/\v = .ref t/\knd.is kv.1 k=true/\IsTup s.heap t #[k,kv.2]) -> (∀ h' tk',(∀ b o,b<lo->s.heap.get? b=some o->h'.get? b=some o)->h'.DictOf knd d (merged [] more)->R (.ok (.ret .none)) { s with heap:=h',toks:=tk' }) -> codeAny (model P w) A (.builtin "dict.update.loop" ⟨[.ref d,.ref I,.int z tk,.none],[]⟩) R s:=by
 have hdw:d∉wr:=λq=>hdf (W.sub _ q);intro m
 induction m with
 |zero =>
  intro i z tk s hm hi st hd hp hR;have hin:i=more.length:=by omega
  subst hin;refine codeAny_builtin YQ ?_;rw [Around.under_plainId Xz _];show wpAny _ A.in1 (pyNext (.ref I) >>= _) _ _ s;refine yV (W.done s _ _ st λh' tk' k=>?_);show wpAny _ A.in1 (Builtin.Dict.addKeywords d [] >>= _) _ _ _;refine yV (yG ?_);refine yG (hR h' tk' (λb o hb e=>k b o (λq=>absurd (hwr b q) (Nat.not_le.mpr hb)) e) ?_);rw [ur] at hd;obtain ⟨o,es,ep,ho,r⟩:=hd;exact ⟨o,es,ep,k d o hdw ho,r⟩
 |succ m ih =>
  intro i z tk s hm hi st hd hp hR;have hlt:i<more.length:=by omega
  refine codeAny_builtin YQ ?_;rw [Around.under_plainId Xz _];show wpAny _ A.in1 (pyNext (.ref I) >>= _) _ _ s;refine yV (W.item i s _ _ hlt st λv h' tk' hPv st' k=>?_);obtain ⟨t,kk,ht,rfl,hk,o,ho,hc,n,hdt⟩:=hp i v more[i] hPv (yW hlt);have ho':h'.get? t=some o:=k t o (λq=>absurd (hwr t q) (Nat.not_le.mpr ht)) ho;have hd':h'.DictOf knd d (merged [] (more.take i)):=by obtain ⟨o,es,ep,ho,r⟩:=hd;exact ⟨o,es,ep,k d o hdw ho,r⟩
  have hT:Shared.TypeIs { s with heap:=h',toks:=tk' } (.ref t) "tuple":=⟨o,ho',hc⟩;show wpAny _ A.in1 (holding [.ref t] _ >>= _) _ _ _;refine yV (wpAny_holding (yV (wpAny_tryCatch ?_)));unfold Builtin.Dict.pairItems;refine yV (wpAny_typeOf hT ?_);rw [if_pos (by decide)];refine yV (wpAny_seqItems ho' hdt (yG ?_));show wpAny _ A.in1 (holding [kk,more[i].2] (dictSet d kk more[i].2)) _ _ _;refine wpAny_holding (wpAny_dictSet_pairs (knd:=knd) hk hd' (λh2 hd2 sb=>?_) ?_)
  ·rw [<- merged_take_succ [] more i more[i] (yW hlt)] at hd2;have keep2:∀ b o,b<lo->s.heap.get? b=some o->h2.get? b=some o:=λb o hb e=>by
    rw [sb.2 b (yK (yH hb hlo))];exact k b o (λq=>absurd (hwr b q) (Nat.not_le.mpr hb)) e
   refine yG ⟨plainId_quiet Xz _,ih (i+1) _ _ _ (by omega) hlt (W.frame _ _ _ st' λb hb o e=>?_) hd2 (λj v kv hv hj=>?_) λh3 tk3 k3 hd3=>?_⟩
   ·rw [sb.2 b (λq=>hdf (by rw [<- q];exact hb))];exact e
   ·obtain ⟨t,kk,ht,rfl,hk,o,ho,r⟩:=hp j v kv hv hj;exact ⟨t,kk,ht,rfl,hk,o,keep2 t o ht ho,r⟩
   ·exact hR h3 tk3 (λb o hb e=>k3 b o hb (keep2 b o hb e)) hd3
  ·have:=merged_length_le [] (more.take i);rw [uI,List.length_nil] at this;omega
theorem Bs {E:Value->Shared->Prop}{l:Addr}{its:Array Value}{n:Nat}{more:List (κ×Value)}{Q:Value->Shared->Prop}(hh:A.handled=none)(ho:s.heap.get? l=some { cls:= .type "list",data:= .seq its n })(hlen:its.size=more.length)(hsz:more.length<=sizeLine)(hp:∀ (j:Nat) (v:Value) (kv:κ×Value),its[j]?=some v->more[j]?=some kv->∃ t k,v = .ref t/\knd.is kv.1 k=true/\IsTup s.heap t #[k,kv.2])(h:∀ h' tk',(∀ b o,s.heap.get? b=some o->h'.get? b=some o)->h'.DictOf knd s.heap.objs.size (merged [] more)->Q (.ref s.heap.objs.size) { s with heap:=h',toks:=tk' }):wpAny (model P w) A (call (.type "dict") [.ref l]) Q E s:=by
 refine callType_codes (Q₁:=λob s1=>ob = .ref s.heap.objs.size/\s1={ s with heap:=s.heap.push { cls:= .type "dict",data:= .dict #[] } }) PySem.F.kt_called_dict (PySem.F.kt_typeCall_dict_1 _) PySem.F.entry_dict_init (kt_code_dict_new _ ⟨rfl,rfl⟩) ?_;rintro ob s1 ⟨rfl,rfl⟩;have hnew:(s.heap.push { cls:= .type "dict",data:= .dict #[] }).DictOf knd s.heap.objs.size []:=Heap.DictOf.new s.heap;have ho':(s.heap.push { cls:= .type "dict",data:= .dict #[] }).get? l=some { cls:= .type "list",data:= .seq its n }:=yX _ ho;have hTl:Shared.TypeIs { s with heap:=s.heap.push { cls:= .type "dict",data:= .dict #[] } } (.ref l) "list":=⟨_,ho',rfl⟩;have hlt:l<s.heap.objs.size:=yT ho;refine ⟨hnew.typeIs,PySem.F.args_dict_init_2 _ _,?_⟩;unfold Builtin.«dict.__init__»;refine yV ?_;unfold Builtin.Dict.selfAndRest;refine yV (wpAny_notOrdered_dict hnew.typeIs ?_);show wpAny _ _ (pure (s.heap.objs.size,[Value.ref l])) _ _ _;refine yG ?_;show wpAny _ _ (Builtin.Dict.updateFrom "dict.__init__" s.heap.objs.size (.ref l) [] .none) _ _ _;unfold Builtin.Dict.updateFrom;refine yV (wpAny_typeOf hTl ?_);rw [if_pos (by decide)];refine yV (Be ho' (by simpa using hh) λh1 tk1 k1=>?_);rw [if_pos (show (none:Option Value).isNone=true from rfl)];refine yV (wpAny_rule ?_);have ho1:=k1 _ _ ho';have hl1:h1.IsList l its:=⟨_,ho1,rfl,n,rfl⟩;refine yV (wpAny_pyIter_list (s:={ s with heap:=h1,toks:=tk1 }) hl1 ?_);have hd1:h1.DictOf knd s.heap.objs.size []:=by obtain ⟨o,es,ep,hq,r⟩:=hnew;exact ⟨o,es,ep,k1 _ _ hq,r⟩
 have hdlt:s.heap.objs.size<h1.objs.size:=by obtain ⟨o,es,ep,hq,r⟩:=hd1;exact yT hq
 have hll:l<h1.objs.size:=yT ho1;refine yG ⟨plainId_quiet Xz _,?_⟩;have W:=Walks.list (prog:=P) (w:=w) (A:=A.in1.in1) (by simpa using hh) h1.objs.size l (yK hll) its;rw [hlen] at W;refine BX (knd:=knd) (lo:=s.heap.objs.size) W s.heap.objs.size ?_ (yU _) (λb hb=>?_) hsz more.length 0 _ _ { s with heap:=h1.push { cls:= .type "list_iterator",data:= .fields #[.ref l,.int 0 0] },toks:=tk1 } (by omega) (yo _) ⟨⟨_,yI _ rfl,rfl,rfl⟩,hl1.push _⟩ ?_ (λj v kv hv hj=>?_) λh' tk' kp hd=>?_
 ·simp only [yP,yi,or_false,not_or];exact ⟨yK hdlt,uu hlt⟩
 ·rw [yR.mp hb];exact uS hdlt
 ·obtain ⟨o,es,ep,hq,r⟩:=hd1;exact ⟨o,es,ep,yX _ hq,r⟩
 ·obtain ⟨t,k,rfl,hk,o,hto,r⟩:=hp j v kv hv hj;exact ⟨t,k,yT hto,rfl,hk,o,yX _ (k1 _ _ (yX _ hto)),r⟩
 ·exact ⟨rfl,h h' tk' (λb o e=>kp b o (yT e) (yX _ (k1 _ _ (yX _ e)))) hd⟩
end
section
variable {X:Cx}
theorem MI {pins:List (Addr×Obj)}{σ:St}(I:Inv X pins σ H s){ts:List Addr}(r:Paired (λt (kv:x8×V)=>H t=some (.tup [kV kv.1,kv.2])) ts kvs):∃ more:List (x8×Value),KV kvs more/\∀(j:Nat)(t:Addr)(m:x8×Value),ts[j]?=some t->more[j]?=some m->∃ k,(m8 X.prog X.w).is m.1 k=true/\IsTup s.heap t #[k,m.2]:=by
 induction r with
 |nil=>exact ⟨[],.nil,λj t m h=>by simp at h⟩
 |@cons t kv ts kvs p _ ih =>
  obtain ⟨more,k1,k2⟩:=ih;obtain ⟨_,its,rv,ht⟩:=(show ObjOk X.prog X.w H s.heap t (.tup [kV kv.1,kv.2]) from I.hok t _ p);cases rv with
  |cons p1 r1 =>
   cases r1 with
   |cons p2 r2 =>
    cases r2;rename_i u1 u2;refine ⟨(kv.1,u2)::more,.cons ⟨rfl,p2⟩ k1,λj t' m h1 h2=>?_⟩;cases j with
    |zero=>simp at h1 h2;subst h1 h2;exact ⟨u1,jb p1,ht⟩
    |succ j=>exact k2 j t' m (by simpa using h1) (by simpa using h2)
theorem KI:∀{ts:List Addr}{us:List Value},Vals (ts.map V.ref) us->us=ts.map Value.ref
 |[],_,.nil=>rfl
 |t::ts,_,.cons p r=>by
  obtain rfl:=(show _=Value.ref t from p);rw [KI r];rfl
theorem VW:∀{kvs:List (x8×V)}{vs:List (x8×Value)},KV kvs vs->vs.map (·.1)=kvs.map (·.1)
 |[],_,.nil=>rfl
 |_::_,_,.cons p r=>by rw [yO,yO,VW r,p.1]
end
theorem VU:∀{kvs:List (x8×V)}{vs:List (x8×Value)}{i:Nat}{k:x8}{x:V},KV kvs vs->kvs[i]?=some (k,x)->∃ u,vs[i]?=some (k,u)/\RelV x u
 |[],_,i,_,_,_,e=>by simp at e
 |_::_,_,0,k,x,.cons (b:=q) p _,e=>by
  simp at e;subst e;refine ⟨q.2,?_,p.2⟩;have e1:k=q.1:=p.1;rw [e1];rfl
 |_::_,_,i+1,k,x,.cons _ r,e=>by
  obtain ⟨u,h1,h2⟩:=VU (i:=i) (k:=k) (x:=x) r (by simpa using e);exact ⟨u,by simpa using h1,h2⟩
def Itv (a:Addr)(o:Obj)(kvs:List (x8×V)):It :=
 ⟨λi H=>H a=some (.frz o (.dK kvs))/\i<kvs.length,λi H x H'=>H'=H/\∃ k,kvs[i]?=some (k,x),λi H=>H a=some (.frz o (.dK kvs))/\kvs.length<=i⟩
theorem QS {h:Heap}{a:Addr}(ok:HOk P w H h)(e:H a=some (.frz o (.dK kvs)))(hd:o.data = .dict es ep):(a==sysModules)=false/\∃ vs,KV kvs vs/\h.DictAt (m8 P w) a vs ep:=by obtain ⟨h1,h2,h3,vs,r,o',es',ep',h4,h5,h6,h7⟩:=(show ObjOk P w H h a (.frz o (.dK kvs)) from ok a _ e);rw [h1] at h4;cases h4;rw [hd] at h6;cases h6;exact ⟨h3,vs,r,o,es,h1,h5,hd,h7⟩
theorem Hz {tg:Expr}(a it:Addr)(kvs:List (x8×V))(hd:o.data = .dict es ep):zF P w K tg (Itv a o kvs) [it] it (λi h=>h.IsValIter it a i kvs.length ep) where
 mem:=by simp
 obj:=λi h st b hb=>by
  have e:b=it:=by simpa using hb
  subst e;obtain ⟨o,e,c,d⟩:=st;exact ⟨o,e,λv z=>by rw [d] at z;cases z⟩
 keep:=λi h h' st k=>by
  obtain ⟨o,e,c,d⟩:=st;exact ⟨o,k it (by simp) o e,c,d⟩
 item:=by
  intro X hP hw hK hc i pins s σ H E I hf st hg;subst hP hw hK;obtain ⟨hq,hl⟩:=hg;obtain ⟨_,vs,r,hm⟩:=QS I.hok hq hd;have lv:vs.length=kvs.length:=(KV.length r).symm;obtain ⟨u,hu,ru⟩:=VU (i:=i) (k:=kvs[i].1) (x:=kvs[i].2) r (yW hl);obtain ⟨f0,f1,f2,f3,f4,f5⟩:=hf it (by simp);have st1:s.heap.IsValIter it a i vs.length ep:=by rw [lv];exact st
  refine wpAny_pyNext_values_item st1 hm hu λh' st' sb=>?_;have I1:Inv X pins σ H { s with heap:=h' }:=I.turned (t':=s.toks) (λb o hb e=>(sb.2 b hb).trans e) f0 f1 f3 f4 f5;rw [lv] at st';obtain ⟨o1,e1,c1,d1⟩:=id st';exact ⟨u,rfl,QT (s:={ s with heap:=h' }) e1 c1 d1 (by decide) ⟨kvs[i].2,H,I1,ru,⟨rfl,kvs[i].1,yW hl⟩,st',λb hb=>(hf b hb).1⟩⟩
 done:=by
  intro X hP hw hK hc i pins s σ H E I hf st hg;subst hP hw hK;obtain ⟨hq,hl⟩:=hg;obtain ⟨_,vs,r,hm⟩:=QS I.hok hq hd;have lv:vs.length=kvs.length:=(KV.length r).symm;obtain ⟨f0,f1,f2,f3,f4,f5⟩:=hf it (by simp);have st1:s.heap.IsValIter it a i vs.length ep:=by rw [lv];exact st
  exact wpAny_pyNext_values_end (I.ok.hd hc) st1 hm (uR (by omega)) λh' eb=>⟨rfl,I.turned (t':=s.toks) (λb o hb e=>eb b o hb e) f0 f1 f3 f4 f5⟩
 self:=λ_ _ _ _ _ st h=>wpAny_pyIter_valiter st h
section
variable {X:Cx}{tg:Expr}
def Uh (td:TE):TI:=λσ H R=>td σ H λx H1=>∃ a o kvs,x = .ref a/\H1 a=some (.frz o (.dK kvs))/\R (Itv a o kvs) H1
theorem Le {d:Expr}{td:TE}{apos cpos:Pos}(ho:PE X d td)(hbase:attributeBase d "values" X.env (eval d X.env)=eval d X.env:=by rfl)(hline:(apos.endLine==cpos.line)=true:=by rfl):PI X tg (.Call (.Attribute d "values" apos) [] [] cpos) (Uh td):=by
 intro pins s σ H R I h;refine wpAny_Call_method0_late hbase hline (z8 (ho pins s σ H _ I h) λv s1 ⟨x,H1,I1,r1,q1⟩=>?_);obtain ⟨a,o,kvs,e,hq,q⟩:=q1;subst e;cases r1;obtain ⟨g1,g2,g3,ws,rw',o',es,ep,g4,g5,g6,g7⟩:=(show ObjOk X.prog X.w H1 s1.heap a (.frz o (.dK kvs)) from I1.hok a _ hq);rw [g1] at g4;cases g4;obtain ⟨hs,vs,r,hm⟩:=QS I1.hok hq g6;have lv:vs.length=kvs.length:=(KV.length r).symm;refine ⟨"dict","dict.values",PySem.F.plainAttrs_dict,PySem.F.slot_dict_values,PySem.F.type_dict_values,hm.dictOf.typeIs,λb e=>?_,Calls.callWith_builtin rfl (PySem.evalArgs_none ?_)⟩
 ·cases e;exact ⟨o,g1,g5.2.1⟩
 refine call_meetsIn PySem.F.slot_dict_values hm.dictOf.typeIs PySem.F.entry_dict_values (PySem.F.args_dict_values_1 _) (meets_dict_values (m8 X.prog X.w) a hs) ⟨⟨vs,hm.dictOf⟩,?_⟩;have I2:Inv X pins σ H1 { s1 with heap:=s1.heap.push { cls:= .type "dict_values",data:= .fields #[.ref a] } }:=I1.kept (t':=s1.toks) λb o e=>yX _ e;obtain ⟨_,vs2,r2,hm2⟩:=QS I2.hok hq g6;have lv2:vs2.length=kvs.length:=(KV.length r2).symm;refine wpAny_pyIter_values (knd:=m8 X.prog X.w) (kvs:=vs2) ⟨_,yI _ rfl,rfl,rfl⟩ hm2 ?_;refine ⟨_,[_],_,Itv a o kvs,H1,rfl,I2.kept (t':=s1.toks) λb o e=>yX _ e,Hz a _ kvs g6,⟨_,yI _ rfl,rfl,?_⟩,λb hb=>?_,q⟩
 ·rw [lv2];rfl
 have e:b=(s1.heap.push { cls:= .type "dict_values",data:= .fields #[.ref a] }).objs.size:=by simpa using hb
 subst e;exact I2.fpOk (yU _) (I2.hok.fresh (yU _))
def Gy:List V->Hp->VK->Prop:=λxs H Q=>∃(a:Addr)(ts:List Addr)(kvs:List (x8×V)),xs=[.ref a]/\H a=some (.lst (ts.map V.ref))/\Paired (λt (kv:x8×V)=>H t=some (.tup [kV kv.1,kv.2])) ts kvs/\(kvs.map (·.1)).Nodup/\kvs.length<=1000 /\
  ∀ l o,H l=none->Q (.ref l) (z5 H l (.frz o (.dK kvs)))
theorem QC (hc:X.calm=true)(_:X.K=K):CallR X (.type "dict") Gy:=by
 intro pins s σ H xs us Q I r h;obtain ⟨a,ts,kvs,rfl,hq,hp,hn,h1000,q⟩:=h;obtain ⟨u,rfl,ru⟩:=xJ r;obtain rfl:u=Value.ref a:=ru;obtain ⟨hz,its,n,rv,ho⟩:=(show ObjOk X.prog X.w H s.heap a (.lst (ts.map V.ref)) from I.hok a _ hq);have ei:=KI rv;obtain ⟨more,k1,k2⟩:=MI I hp;have lk:more.length=kvs.length:=k1.length.symm;have lt:=hp.length;have hsl:more.length<=sizeLine:=uS (wd (by omega));refine Bs (knd:=m8 X.prog X.w) (more:=more) (I.ok.hd hc) ho (by rw [yY,ei,yZ];omega) hsl (λj v m hv hm=>?_) λh' tk k hd=>?_
 ·have hv':its[j]?=some v:=by simpa using hv
  rw [ei,yM] at hv';obtain ⟨t,ht,rfl⟩:=yL.mp hv';obtain ⟨kk,x1,x2⟩:=k2 j t m ht hm;exact ⟨t,kk,rfl,x1,x2⟩
 ·rw [merged_nil_of_nodup more (by rw [VW k1];exact hn)] at hd;obtain ⟨o,es,ep,ho',_⟩:=id hd;refine ⟨.ref s.heap.objs.size,_,I.laid (t':=tk) (o:= .frz o (.dK kvs)) k (yU _) ⟨ho',Zi (by omega) (beq_eq_false_iff_ne.mpr (Ne.symm (yK I.big))) k1 hd⟩,rfl,q _ _ (I.hok.fresh (yU _))⟩
end
end L2
namespace Mi
open PySem L2
variable{H H' H0 Hb Hs Hs' Hs0:Hp}{u v:V}{ks:List x8}{C p:Addr}{ns:List Str}{vs:List V}{o:HO}{σ σ':St}{tb te:TE}{r:R2}{ta:TA}{n:Nat}{K:Fg}{t:TT}{E:XK}{nm:Str}{ts:List Nat}{lo:Int}{wi:TI}{tg:TG}
inductive PV where
 |at (v:V)|tup (xs:List PV)|lst (xs:List PV)|dk (ks:List x8) (xs:List PV)|fk (ks:List x8) (xs:List PV)|ob (C:Addr) (ns:List Str) (xs:List PV)|op (φ:Hp->V->Prop)
variable{xs:List PV}{x y:PV}{m:List PV->Option PV}
mutual
def Rep (H:Hp):PV->V->Prop
 | .at u,v=>v=u
 | .tup xs,v=>∃ a vs,v = .ref a/\H a=some (.tup vs)/\Reps H xs vs
 | .lst xs,v=>∃ a vs,v = .ref a/\H a=some (.lst vs)/\Reps H xs vs
 | .dk ks xs,v=>∃ a kvs,v = .ref a/\H a=some (.dK kvs)/\kvs.map (·.1)=ks/\Reps H xs (kvs.map (·.2))
 | .fk ks xs,v=>∃ a o kvs,v = .ref a/\H a=some (.frz o (.dK kvs))/\kvs.map (·.1)=ks/\Reps H xs (kvs.map (·.2))
 | .ob C ns xs,v=>∃ a dx fs,v = .ref a/\H a=some (.ins C dx fs)/\fs.map (·.1)=ns/\Reps H xs (fs.map (·.2))
 | .op φ,v=>∃ H',Same H' H/\φ H' v
def Reps (H:Hp):List PV->List V->Prop
 |[],vs=>vs=[]
 |x::xs,vs=>∃ v r,vs=v::r/\Rep H x v/\Reps H xs r
end
mutual
theorem Rep.mono {H H':Hp}(g:Same H H'):∀{x:PV}{v:V},Rep H x v->Rep H' x v
 | .at u,v,h=>by unfold Rep at h ⊢;exact h
 | .tup xs,v,h=>by unfold Rep at h ⊢;obtain ⟨a,vs,e,p,r⟩:=h;exact ⟨a,vs,e,g _ _ p,Reps.mono g r⟩
 | .lst xs,v,h=>by unfold Rep at h ⊢;obtain ⟨a,vs,e,p,r⟩:=h;exact ⟨a,vs,e,g _ _ p,Reps.mono g r⟩
 | .dk ks xs,v,h=>by unfold Rep at h ⊢;obtain ⟨a,vs,e,p,q,r⟩:=h;exact ⟨a,vs,e,g _ _ p,q,Reps.mono g r⟩
 | .fk ks xs,v,h=>by unfold Rep at h ⊢;obtain ⟨a,o,vs,e,p,q,r⟩:=h;exact ⟨a,o,vs,e,g _ _ p,q,Reps.mono g r⟩
 | .ob C ns xs,v,h=>by unfold Rep at h ⊢;obtain ⟨a,dx,vs,e,p,q,r⟩:=h;exact ⟨a,dx,vs,e,g _ _ p,q,Reps.mono g r⟩
 | .op φ,v,h=>by unfold Rep at h ⊢;obtain ⟨H1,s,p⟩:=h;exact ⟨H1,s.trans g,p⟩
theorem Reps.mono {H H':Hp}(g:Same H H'):∀{xs:List PV}{vs:List V},Reps H xs vs->Reps H' xs vs
 |[],vs,h=>by unfold Reps at h ⊢;exact h
 |x::xs,vs,h=>by unfold Reps at h ⊢;obtain ⟨v,r,e,p,q⟩:=h;exact ⟨v,r,e,Rep.mono g p,Reps.mono g q⟩
end
theorem rep_at :Rep H (.at u) v↔v=u:=by unfold Rep;exact Iff.rfl
theorem rep_tup :Rep H (.tup xs) v↔∃ a vs,v = .ref a/\H a=some (.tup vs)/\Reps H xs vs:=by unfold Rep;exact Iff.rfl
theorem rep_lst :Rep H (.lst xs) v↔∃ a vs,v = .ref a/\H a=some (.lst vs)/\Reps H xs vs:=by unfold Rep;exact Iff.rfl
theorem rep_dk :Rep H (.dk ks xs) v↔∃ a kvs,v = .ref a/\H a=some (.dK kvs)/\kvs.map (·.1)=ks/\Reps H xs (kvs.map (·.2)):=by unfold Rep;exact Iff.rfl
theorem rep_fk :Rep H (.fk ks xs) v↔∃ a o kvs,v = .ref a/\H a=some (.frz o (.dK kvs))/\kvs.map (·.1)=ks/\Reps H xs (kvs.map (·.2)):=by unfold Rep;exact Iff.rfl
theorem rep_ob :Rep H (.ob C ns xs) v↔∃ a dx fs,v = .ref a/\H a=some (.ins C dx fs)/\fs.map (·.1)=ns/\Reps H xs (fs.map (·.2)):=by unfold Rep;exact Iff.rfl
theorem rep_op {φ:Hp->V->Prop}:Rep H (.op φ) v↔∃ H',Same H' H/\φ H' v:=by unfold Rep;exact Iff.rfl
theorem reps_nil :Reps H [] vs↔vs=[]:=by unfold Reps;exact Iff.rfl
theorem reps_cons :Reps H (x::xs) vs↔∃ v r,vs=v::r/\Rep H x v/\Reps H xs r:=by
 constructor
 ·intro h;unfold Reps at h;exact h
 ·intro h;unfold Reps;exact h
theorem Reps.nil :Reps H [] []:=reps_nil.mpr rfl
theorem Reps.cons {H:Hp}{x:PV}{v:V}{xs:List PV}{vs:List V}(p:Rep H x v)(q:Reps H xs vs):Reps H (x::xs) (v::vs):=reps_cons.mpr ⟨v,vs,rfl,p,q⟩
theorem Reps.length {H:Hp}:∀{xs:List PV}{vs:List V},Reps H xs vs->vs.length=xs.length
 |[],vs,h=>by rw [reps_nil.mp h];rfl
 |x::xs,vs,h=>by obtain ⟨v,r,rfl,_,q⟩:=reps_cons.mp h;rw [yA,yA,Reps.length q]
theorem Reps.append {H:Hp}:∀{xs ys:List PV}{vs ws:List V},Reps H xs vs->Reps H ys ws->Reps H (xs++ys) (vs++ws)
 |[],ys,vs,ws,h,k=>by rw [reps_nil.mp h];exact k
 |x::xs,ys,vs,ws,h,k=>by obtain ⟨v,r,rfl,p,q⟩:=reps_cons.mp h;exact .cons p (Reps.append q k)
theorem Reps.one (p:Rep H x v):Reps H [x] [v]:= .cons p .nil
theorem Reps.get {H:Hp}:∀{xs:List PV}{vs:List V}{i:Nat}{x:PV},Reps H xs vs->xs[i]?=some x->∃ v,vs[i]?=some v/\Rep H x v
 |[],_,i,x,_,e=>by simp at e
 |y::xs,vs,0,x,h,e=>by
  obtain ⟨v,r,rfl,p,q⟩:=reps_cons.mp h;simp at e;subst e;exact ⟨v,rfl,p⟩
 |y::xs,vs,i+1,x,h,e=>by
  obtain ⟨v,r,rfl,p,q⟩:=reps_cons.mp h;obtain ⟨w,e1,e2⟩:=Reps.get (i:=i) (x:=x) q (by simpa using e);exact ⟨w,by simpa using e1,e2⟩
theorem Reps.take {H:Hp}:∀(n:Nat){xs:List PV}{vs:List V},Reps H xs vs->Reps H (xs.take n) (vs.take n)
 |0,_,_,_=>by rw [List.take_zero,List.take_zero];exact .nil
 |n+1,[],vs,h=>by rw [reps_nil.mp h];exact .nil
 |n+1,x::xs,vs,h=>by
  obtain ⟨v,r,rfl,p,q⟩:=reps_cons.mp h;exact .cons p (Reps.take n q)
theorem Reps.drop {H:Hp}:∀(n:Nat){xs:List PV}{vs:List V},Reps H xs vs->Reps H (xs.drop n) (vs.drop n)
 |0,_,_,h=>h
 |n+1,[],vs,h=>by rw [reps_nil.mp h];exact .nil
 |n+1,x::xs,vs,h=>by
  obtain ⟨v,r,rfl,p,q⟩:=reps_cons.mp h;exact Reps.drop n q
theorem Reps.ats {H:Hp}:∀{us vs:List V},Reps H (us.map .at) vs->vs=us
 |[],vs,h=>reps_nil.mp h
 |u::us,vs,h=>by
  obtain ⟨v,r,rfl,p,q⟩:=reps_cons.mp h;rw [rep_at.mp p,Reps.ats q]
theorem Reps.ofAts {H:Hp}:∀(us:List V),Reps H (us.map .at) us
 |[]=> .nil
 |u::us=> .cons (rep_at.mpr rfl) (Reps.ofAts us)
structure Ext (Hs H Hs' H':Hp):Prop where
 s1:Same Hs Hs'
 s2:Same H H'
 s3:Same Hs' H'
 s4:∀ b,H b≠none->Hs b=none->Hs' b=none
theorem XM (g:Same H H'){b:Addr}(h:H b≠none):H' b≠none:=λz=>h (g.free z)
theorem Ext.refl (s:Same Hs H):Ext Hs H Hs H:=⟨.refl _,.refl _,s,λ_ _ z=>z⟩
theorem Ext.trans {A B A1 B1 A2 B2:Hp}(x:Ext A B A1 B1)(y:Ext A1 B1 A2 B2):Ext A B A2 B2:=⟨x.s1.trans y.s1,x.s2.trans y.s2,y.s3,λb h z=>y.s4 b (XM x.s2 h) (x.s4 b h z)⟩
theorem Ext.new (s:Same Hs H)(h:H p=none):Ext Hs H (z5 Hs p o) (z5 H p o):=by
 have hs:Hs p=none:=s.free h;refine ⟨λb u e=>?_,λb u e=>?_,λb u e=>?_,λb e z=>?_⟩
 ·rw [z0 (w4 e hs)];exact e
 ·rw [z0 (w4 e h)];exact e
 ·by_cases hb:b=p
  ·subst hb;rw [v6] at e ⊢;exact e
  ·rw [z0 hb] at e ⊢;exact s _ _ e
 ·have hb:b≠p:=λq=>e (by rw [q];exact h);rw [z0 hb];exact z
theorem Ext.newO (s:Same Hs H)(h:H p=none):Ext Hs H Hs (z5 H p o) :=
 ⟨.refl _,λb u e=>by rw [z0 (w4 e h)];exact e,λb u e=>by rw [z0 (w4 (s _ _ e) h)];exact s _ _ e,λ_ _ z=>z⟩
def Top (Hs H:Hp)(a:Addr):PV->Prop
 | .lst xs=>∃ vs,H a=some (.lst vs)/\Reps Hs xs vs
 | .dk ks xs=>∃ kvs,H a=some (.dK kvs)/\kvs.map (·.1)=ks/\Reps Hs xs (kvs.map (·.2))
 | .ob C ns xs=>∃ dx fs,H a=some (.ins C dx fs)/\fs.map (·.1)=ns/\Reps Hs xs (fs.map (·.2))
 |_=>False
theorem Top.there {a:Addr}:∀{x:PV},Top Hs H a x->H a≠none
 | .lst _,h,z=>by obtain ⟨vs,e,_⟩:=h;rw [e] at z;cases z
 | .dk _ _,h,z=>by obtain ⟨vs,e,_⟩:=h;rw [e] at z;cases z
 | .ob _ _ _,h,z=>by obtain ⟨dx,vs,e,_⟩:=h;rw [e] at z;cases z
theorem Top.mono {a:Addr}(g:Same Hs Hs')(e:∀ o,H a=some o->H' a=some o):∀{x:PV},Top Hs H a x->Top Hs' H' a x
 | .lst _,h=>by obtain ⟨vs,q,r⟩:=h;exact ⟨vs,e _ q,r.mono g⟩
 | .dk _ _,h=>by obtain ⟨vs,q,k,r⟩:=h;exact ⟨vs,e _ q,k,r.mono g⟩
 | .ob _ _ _,h=>by obtain ⟨dx,vs,q,k,r⟩:=h;exact ⟨dx,vs,e _ q,k,r.mono g⟩
theorem Top.rep {a:Addr}:∀{x:PV},Top Hs H a x->Hs a=none->∃ o,H a=some o/\Rep (z5 Hs a o) x (.ref a)
 | .lst _,h,n=>by
  obtain ⟨vs,q,r⟩:=h;exact ⟨_,q,rep_lst.mpr ⟨a,vs,rfl,v6,r.mono λb u e=>by rw [z0 (w4 e n)];exact e⟩⟩
 | .dk _ _,h,n=>by
  obtain ⟨vs,q,k,r⟩:=h;exact ⟨_,q,rep_dk.mpr ⟨a,vs,rfl,v6,k,r.mono λb u e=>by rw [z0 (w4 e n)];exact e⟩⟩
 | .ob _ _ _,h,n=>by
  obtain ⟨dx,vs,q,k,r⟩:=h;exact ⟨_,q,rep_ob.mpr ⟨a,dx,vs,rfl,v6,k,r.mono λb u e=>by rw [z0 (w4 e n)];exact e⟩⟩
theorem Ext.share {a:Addr}(x:Ext Hs H Hs' H')(h:H a=none)(n:Hs' a=none)(e:H' a=some o):Ext Hs H (z5 Hs' a o) H':=by
 refine ⟨λb u q=>?_,x.s2,λb u q=>?_,λb q z=>?_⟩
 ·rw [z0 (w4 (x.s1 _ _ q) n)];exact x.s1 _ _ q
 ·by_cases hb:b=a
  ·subst hb;rw [v6] at q;cases q;exact e
  ·rw [z0 hb] at q;exact x.s3 _ _ q
 ·have hb:b≠a:=λr=>q (by rw [r];exact h);rw [z0 hb];exact x.s4 b q z
def RepB (Hs H:Hp)(x:PV)(v:V):Prop:=Rep Hs x v∨∃ a,v = .ref a/\Hs a=none/\Top Hs H a x
theorem RepB.ext (e:Ext Hs H Hs' H')(h:RepB Hs H x v):RepB Hs' H' x v:=by
 rcases h with h|⟨a,rfl,n,t⟩
 ·exact .inl (h.mono e.s1)
 ·exact .inr ⟨a,rfl,e.s4 a t.there n,t.mono e.s1 λo q=>e.s2 _ _ q⟩
inductive MSlot where
 |no|sh (x:PV)|ow (x:PV)|bo (x:PV)
abbrev ME:=List MSlot
variable{ε:ME}
def Own (H0 Hs H:Hp)(a:Addr)(x:PV):Prop:=H0 a=none/\Hs a=none/\Top Hs H a x
structure RS (Hs0 H0 Hs H:Hp)(σ:St)(ε:ME):Prop where
 ext:Ext Hs0 H0 Hs H
 sh:∀(i:Nat)(x:PV),ε[i]?=some (.sh x)->∃ v,σ[i]?=some (some v)/\Rep Hs x v
 ow:∀(i:Nat)(x:PV),ε[i]?=some (.ow x)->∃ a,σ[i]?=some (some (.ref a))/\Own H0 Hs H a x
 nd:∀(i j:Nat)(x y:PV)(a:Addr),ε[i]?=some (.ow x)->ε[j]?=some (.ow y)->σ[i]?=some (some (.ref a))->σ[j]?=some (some (.ref a))->i=j
 len:σ.length=ε.length
 bo:∀(i:Nat)(x:PV),ε[i]?=some (.bo x)->∃ v,σ[i]?=some (some v)/\(Rep Hs x v∨∃ a,v = .ref a/\H0 a≠none/\Hs a=none/\Top Hs H a x)
section
variable {Hs0 H0 Hs H Hs' H':Hp}{σ:St}{ε:ME}
theorem RS.go (r:RS Hs0 H0 Hs H σ ε)(e:Ext Hs H Hs' H'):RS Hs0 H0 Hs' H' σ ε where
 ext:=r.ext.trans e
 sh:=λi x q=>by obtain ⟨v,a,b⟩:=r.sh i x q;exact ⟨v,a,b.mono e.s1⟩
 ow:=λi x q=>by
  obtain ⟨a,b,n0,n,t⟩:=r.ow i x q;exact ⟨a,b,n0,e.s4 a t.there n,t.mono e.s1 λo z=>e.s2 _ _ z⟩
 nd:=r.nd
 len:=r.len
 bo:=λi x q=>by
  obtain ⟨v,b,h|⟨a,rfl,n0,n,t⟩⟩:=r.bo i x q
  ·exact ⟨v,b,.inl (h.mono e.s1)⟩
  ·exact ⟨_,b,.inr ⟨a,rfl,n0,e.s4 a t.there n,t.mono e.s1 λo z=>e.s2 _ _ z⟩⟩
theorem RS.sub (r:RS Hs0 H0 Hs H σ ε):Same Hs H:=r.ext.s3
theorem RS.rebase (r:RS Hs0 H0 Hs H σ ε):RS Hs H0 Hs H σ ε:=⟨⟨.refl _,r.ext.s2,r.ext.s3,λ_ _ z=>z⟩,r.sh,r.ow,r.nd,r.len,r.bo⟩
theorem Ext.unbase (r:Ext Hs0 H0 Hb H)(e:Ext Hb H0 Hs' H'):Ext Hs0 H0 Hs' H':=⟨r.s1.trans e.s1,e.s2,e.s3,λb h z=>e.s4 b h (r.s4 b h z)⟩
theorem RS.unbase {ε':ME}(r:Ext Hs0 H0 Hb H)(e:RS Hb H0 Hs' H' σ' ε'):RS Hs0 H0 Hs' H' σ' ε':=⟨r.unbase e.ext,e.sh,e.ow,e.nd,e.len,e.bo⟩
theorem RS.put (r:RS Hs0 H0 Hs H σ ε){i:Nat}(h:Rep Hs x v):RS Hs0 H0 Hs H (σ.set i (some v)) (ε.set i (.sh x)) where
 ext:=r.ext
 sh:=λj y q=>by
  rw [yy] at q ⊢;split at q
  ·rename_i hij;split at q
   ·rename_i hl;injection q with q;injection q with q;subst q;rw [if_pos hij,if_pos (by rw [r.len,hij];rw [hij] at hl;exact hl)];exact ⟨v,rfl,h⟩
   ·cases q
  ·rename_i hij;rw [if_neg hij];exact r.sh j y q
 ow:=λj y q=>by
  rw [yy] at q ⊢;split at q
  ·split at q<;>cases q
  ·rename_i hij;rw [if_neg hij];exact r.ow j y q
 nd:=λj k x y a h1 h2 h3 h4=>by
  rw [yy] at h1 h2 h3 h4;split at h1
  ·split at h1<;>cases h1
  ·rename_i hj;rw [if_neg hj] at h3;split at h2
   ·split at h2<;>cases h2
   ·rename_i hk;rw [if_neg hk] at h4;exact r.nd j k x y a h1 h2 h3 h4
 len:=by rw [yd,yd,r.len]
 bo:=λj y q=>by
  rw [yy] at q ⊢;split at q
  ·split at q<;>cases q
  ·rename_i hij;rw [if_neg hij];exact r.bo j y q
theorem RS.putO (r:RS Hs0 H0 Hs H σ ε){i:Nat}{a:Addr}(h:Own H0 Hs H a x)(ne:∀(j:Nat)(y:PV),ε[j]?=some (.ow y)->σ[j]?≠some (some (.ref a))):RS Hs0 H0 Hs H (σ.set i (some (.ref a))) (ε.set i (.ow x)) where
 ext:=r.ext
 sh:=λj y q=>by
  rw [yy] at q ⊢;split at q
  ·split at q<;>cases q
  ·rename_i hij;rw [if_neg hij];exact r.sh j y q
 ow:=λj y q=>by
  rw [yy] at q ⊢;split at q
  ·rename_i hij;split at q
   ·rename_i hl;injection q with q;injection q with q;subst q;rw [if_pos hij,if_pos (by rw [r.len,hij];rw [hij] at hl;exact hl)];exact ⟨a,rfl,h⟩
   ·cases q
  ·rename_i hij;rw [if_neg hij];exact r.ow j y q
 nd:=λj k x' y b h1 h2 h3 h4=>by
  rw [yy] at h1 h2 h3 h4;split at h1
  ·rename_i hj;rw [if_pos hj] at h3;split at h1
   ·rename_i hl;rw [if_pos (by rw [r.len];exact hl)] at h3;injection h3 with h3;injection h3 with h3;injection h3 with h3;subst h3;split at h2
    ·rename_i hk;exact hj.symm.trans hk
    ·rename_i hk;rw [if_neg hk] at h4;exact absurd h4 (ne k y h2)
   ·cases h1
  ·rename_i hj;rw [if_neg hj] at h3;split at h2
   ·rename_i hk;rw [if_pos hk] at h4;split at h2
    ·rename_i hl;rw [if_pos (by rw [r.len];exact hl)] at h4;injection h4 with h4;injection h4 with h4;injection h4 with h4;subst h4;exact absurd h3 (ne j x' h1)
    ·cases h2
   ·rename_i hk;rw [if_neg hk] at h4;exact r.nd j k x' y b h1 h2 h3 h4
 len:=by rw [yd,yd,r.len]
 bo:=λj y q=>by
  rw [yy] at q ⊢;split at q
  ·split at q<;>cases q
  ·rename_i hij;rw [if_neg hij];exact r.bo j y q
theorem RS.change (r:RS Hs0 H0 Hs H σ ε){i:Nat}{a:Addr}(hi:ε[i]?=some (.ow x))(ha:σ[i]?=some (some (.ref a)))(t:Top Hs (z5 H a o) a y):RS Hs0 H0 Hs (z5 H a o) σ (ε.set i (.ow y)):=by
 obtain ⟨b,hb,n0,n,tx⟩:=r.ow i x hi;rw [ha] at hb;injection hb with hb;injection hb with hb;injection hb with hb;subst hb;refine ⟨⟨r.ext.s1,λb u e=>?_,λb u e=>?_,r.ext.s4⟩,λj z q=>?_,λj z q=>?_,λj k z z' c h1 h2 h3 h4=>?_,by rw [yd,r.len],λj z q=>?_⟩
 ·rw [z0 (w4 e n0)];exact r.ext.s2 _ _ e
 ·rw [z0 (w4 e n)];exact r.ext.s3 _ _ e
 ·rw [yy] at q;split at q
  ·split at q<;>cases q
  ·exact r.sh j z q
 ·rw [yy] at q;split at q
  ·rename_i hij;split at q
   ·injection q with q;injection q with q;subst q;exact ⟨a,hij▸ha,n0,n,t⟩
   ·cases q
  ·rename_i hij;obtain ⟨c,hc,m0,m,tc⟩:=r.ow j z q;have hne:c≠a:=λe=>hij (r.nd i j x z a hi q ha (e▸hc));exact ⟨c,hc,m0,m,tc.mono (.refl _) λo' e=>by rw [z0 hne];exact e⟩
 ·have down:∀{m:Nat}{w:PV},(ε.set i (.ow y))[m]?=some (.ow w)->∃ w',ε[m]?=some (.ow w'):=by
   intro m w q;rw [yy] at q;split at q
   ·rename_i him;exact ⟨x,him▸hi⟩
   ·exact ⟨w,q⟩
  obtain ⟨w1,q1⟩:=down h1;obtain ⟨w2,q2⟩:=down h2;exact r.nd j k w1 w2 c q1 q2 h3 h4
 ·rw [yy] at q;split at q
  ·split at q<;>cases q
  ·obtain ⟨v,hv,h|⟨c,rfl,m0,m,tc⟩⟩:=r.bo j z q
   ·exact ⟨v,hv,.inl h⟩
   ·have hne:c≠a:=λe=>m0 (e▸n0);exact ⟨_,hv,.inr ⟨c,rfl,m0,m,tc.mono (.refl _) λo' e=>by rw [z0 hne];exact e⟩⟩
def fz (i:Nat)(ε:ME):ME:=match ε[i]? with
 |some (.ow x)=>ε.set i (.sh x)
 |_=>ε
end
theorem vT {j:Nat}{s:MSlot}(h:∀(i:Nat)(x:PV),ε[i]?≠some (.bo x))(hs:∀ x,s ≠ .bo x):∀(i:Nat)(x:PV),(ε.set j s)[i]?≠some (.bo x):=λi x q=>by
 rw [yy] at q;split at q
 ·split at q
  ·injection q with q;exact hs x q
  ·cases q
 ·exact h i x q
abbrev M:=ME->Option PV
variable{a b:M}
abbrev MB:=ME->Option Bool
variable{c:MB}
abbrev MA:=ME->Option (List PV)
variable{as f:MA}
class SemE (te:TE)(f:M):Prop where
 h:∀{ε y},f ε=some y->∀{Hs0 H0 Hs H σ},RS Hs0 H0 Hs H σ ε->∀{Q:VK},(∀ v Hs' H',Ext Hs H Hs' H'->Rep Hs' y v->Q v H')->te σ H Q
class c9 (te:TE)(f:M):Prop where
 h:∀{ε y},f ε=some y->∀{Hs0 H0 Hs H σ},RS Hs0 H0 Hs H σ ε->∀{Q:VK},(∀ v Hs' H',Ext Hs H Hs' H'->RepB Hs' H' y v->Q v H')->te σ H Q
class qU (te:TE)(f:M):Prop where
 h:∀{ε y},f ε=some y->∀{Hs0 H0 Hs H σ},RS Hs0 H0 Hs H σ ε->∀{Q:VK},(∀ a Hs' H',Ext Hs H Hs' H'->H a=none->Hs' a=none->Top Hs' H' a y->Q (.ref a) H')->te σ H Q
class qQ (tt:TT)(f:MB):Prop where
 h:∀{ε y},f ε=some y->∀{Hs0 H0 Hs H σ},RS Hs0 H0 Hs H σ ε->∀{Q:Bool->Hp->Prop},(∀ Hs' H',Ext Hs H Hs' H'->Q y H')->tt σ H Q
class qP (ta:TA)(f:MA):Prop where
 h:∀{ε ys},f ε=some ys->∀{Hs0 H0 Hs H σ},RS Hs0 H0 Hs H σ ε->∀{Q:List V->Hp->Prop},(∀ vs Hs' H',Ext Hs H Hs' H'->Reps Hs' ys vs->Q vs H')->ta σ H Q
def vt (Hs H:Hp):List PV->List V->Prop
 |[],vs=>vs=[]
 |x::xs,vs=>∃ v r,vs=v::r/\RepB Hs H x v/\vt Hs H xs r
class wp (ta:TA)(f:MA):Prop where
 h:∀{ε ys},f ε=some ys->∀{Hs0 H0 Hs H σ},RS Hs0 H0 Hs H σ ε->∀{Q:List V->Hp->Prop},(∀ vs Hs' H',Ext Hs H Hs' H'->vt Hs' H' ys vs->Q vs H')->ta σ H Q
class qV (r:R2)(g:PV->PV->Option PV):Prop where
 h:∀{x y z},g x y=some z->∀{Hs H:Hp}{v w:V},Same Hs H->RepB Hs H x v->RepB Hs H y w->∀{Q:VK},(∀ u Hs' H',Ext Hs H Hs' H'->Rep Hs' z u->Q u H')->r v w H Q
class VZ (r:R2)(g:PV->PV->Option PV):Prop where
 h:∀{x y z},g x y=some z->∀{Hs H:Hp}{v w:V},Same Hs H->RepB Hs H x v->RepB Hs H y w->∀{Q:VK},(∀ a Hs' H',Ext Hs H Hs' H'->H a=none->Hs' a=none->Top Hs' H' a z->Q (.ref a) H')->r v w H Q
instance (priority:=50) semE_O {f:M}[s:qU te f]:SemE te f where
 h:=λe _ _ _ _ _ r _ q=>s.h e r λa Hs' H' x h n t=>by
  obtain ⟨o,ho,hr⟩:=t.rep n;exact q _ _ _ (x.share h n ho) hr
instance (priority:=50) semB_E {f:M}[s:SemE te f]:c9 te f where
 h:=λe _ _ _ _ _ r _ q=>s.h e r λv Hs' H' x h=>q v Hs' H' x (.inl h)
def q8 (i:Nat):M:=λε=>match ε[i]? with
 |some (.sh x)=>some x
 |_=>none
def q9 (i:Nat):M:=λε=>match ε[i]? with
 |some (.sh x)=>some x
 |some (.ow x)=>some x
 |some (.bo x)=>some x
 |_=>none
def dC (v:V):M:=λ_=>some (.at v)
instance {i:Nat}:SemE (c6 i) (q8 i) where
 h:=λ{ε y} e {_ _ _ _ _} r {_} q=>by
  unfold q8 at e;split at e
  ·rename_i x hx;cases e;obtain ⟨v,h1,h2⟩:=r.sh i _ hx;exact ⟨v,h1,q v _ _ (.refl r.sub) h2⟩
  ·cases e
instance {i:Nat}:c9 (c6 i) (q9 i) where
 h:=λ{ε y} e {_ _ _ _ _} r {_} q=>by
  unfold q9 at e;split at e
  ·rename_i x hx;cases e;obtain ⟨v,h1,h2⟩:=r.sh i _ hx;exact ⟨v,h1,q v _ _ (.refl r.sub) (.inl h2)⟩
  ·rename_i x hx;cases e;obtain ⟨a,h1,_,n,t⟩:=r.ow i _ hx;exact ⟨_,h1,q _ _ _ (.refl r.sub) (.inr ⟨a,rfl,n,t⟩)⟩
  ·rename_i x hx;cases e;obtain ⟨v,h1,h2|⟨a,rfl,_,n,t⟩⟩:=r.bo i _ hx
   ·exact ⟨v,h1,q v _ _ (.refl r.sub) (.inl h2)⟩
   ·exact ⟨_,h1,q _ _ _ (.refl r.sub) (.inr ⟨a,rfl,n,t⟩)⟩
  ·cases e
instance :SemE (tC v) (dC v) where
 h:=λe _ _ _ _ _ r _ q=>by cases e;exact q v _ _ (.refl r.sub) (rep_at.mpr rfl)
def x9 (g:PV->PV->Option PV)(a b:M):M:=λε=>(a ε).bind λx=>(b ε).bind λy=>g x y
theorem bind_some {α β:Type}{o:Option α}{f:α->Option β}{y:β}(h:o.bind f=some y):∃ x,o=some x/\f x=some y:=by
 cases o with
 |none=>cases h
 |some x=>exact ⟨x,rfl,h⟩
instance {g:PV->PV->Option PV}{ta:TE}[sr:qV r g][sa:c9 ta a][sb:c9 tb b]:SemE (tOp r ta tb) (x9 g a b) where
 h:=λe _ _ _ _ _ rs _ q=>by
  obtain ⟨x,ex,e⟩:=bind_some e;obtain ⟨y,ey,e⟩:=bind_some e;exact sa.h ex rs λv Hs1 H1 x1 r1=>sb.h ey (rs.go x1) λw Hs2 H2 x2 r2=>sr.h e x2.s3 (r1.ext x2) r2 λu Hs3 H3 x3 r3=>q u _ _ (x1.trans (x2.trans x3)) r3
instance {g:PV->PV->Option PV}{ta:TE}[sr:VZ r g][sa:c9 ta a][sb:c9 tb b]:qU (tOp r ta tb) (x9 g a b) where
 h:=λe _ _ _ _ _ rs _ q=>by
  obtain ⟨x,ex,e⟩:=bind_some e;obtain ⟨y,ey,e⟩:=bind_some e;exact sa.h ex rs λv Hs1 H1 x1 r1=>sb.h ey (rs.go x1) λw Hs2 H2 x2 r2=>sr.h e x2.s3 (r1.ext x2) r2 λu Hs3 H3 x3 n n' r3=>q u _ _ (x1.trans (x2.trans x3)) (x1.s2.free (x2.s2.free n)) n' r3
def x6:MA:=λ_=>some []
def q0 (a:M)(r:MA):MA:=λε=>(a ε).bind λx=>(r ε).bind λxs=>some (x::xs)
instance:qP o5 x6 where
 h:=λe _ _ _ _ _ r _ q=>by cases e;exact q [] _ _ (.refl r.sub) .nil
instance [sa:SemE te a][sr:qP ta f]:qP (i7 te ta) (q0 a f) where
 h:=λe _ _ _ _ _ rs _ q=>by
  obtain ⟨x,ex,e⟩:=bind_some e;obtain ⟨xs,ey,e⟩:=bind_some e;cases e;exact sa.h ex rs λv Hs1 H1 x1 r1=>sr.h ey (rs.go x1) λvs Hs2 H2 x2 r2=>q _ _ _ (x1.trans x2) (.cons (r1.mono x2.s1) r2)
instance:wp o5 x6 where
 h:=λe _ _ _ _ _ r _ q=>by cases e;exact q [] _ _ (.refl r.sub) rfl
instance [sa:c9 te a][sr:wp ta f]:wp (i7 te ta) (q0 a f) where
 h:=λe _ _ _ _ _ rs _ q=>by
  obtain ⟨x,ex,e⟩:=bind_some e;obtain ⟨xs,ey,e⟩:=bind_some e;cases e;exact sa.h ex rs λv Hs1 H1 x1 r1=>sr.h ey (rs.go x1) λvs Hs2 H2 x2 r2=>q _ _ _ (x1.trans x2) ⟨_,_,rfl,r1.ext x2,r2⟩
def lim:Nat:=1000000
theorem qF (h:n<=lim):n<=sizeLine:=yp h (by rw [sizeLine_eq];decide)
theorem QY (h:n<=lim):n<sizeLine:=Nat.lt_of_le_of_lt h (by rw [sizeLine_eq];decide)
def f9 (a:MA):M:=λε=>(a ε).bind λxs=>if xs.length<=lim then some (.tup xs) else none
def zI (a:MA):M:=λε=>(a ε).bind λxs=>if xs.length<=lim then some (.lst xs) else none
instance [sa:qP ta f]:SemE (tTup ta) (f9 f) where
 h:=λe _ _ _ _ _ rs _ q=>by
  obtain ⟨xs,ex,e⟩:=bind_some e;split at e
  ·rename_i hl;cases e;exact sa.h ex rs λvs Hs1 H1 x1 r1=>⟨qF (r1.length▸hl),λp hp=>q _ _ _ (x1.trans (.new x1.s3 hp)) (rep_tup.mpr ⟨p,vs,rfl,v6,r1.mono (Ext.new x1.s3 hp).s1⟩)⟩
  ·cases e
instance [sa:qP ta f]:qU (tLst ta) (zI f) where
 h:=λe _ _ _ _ _ rs _ q=>by
  obtain ⟨xs,ex,e⟩:=bind_some e;split at e
  ·rename_i hl;cases e;exact sa.h ex rs λvs Hs1 H1 x1 r1=>⟨qF (r1.length▸hl),λp hp=>q _ _ _ (x1.trans (.newO x1.s3 hp)) (x1.s2.free hp) (x1.s3.free hp) ⟨vs,v6,r1⟩⟩
  ·cases e
theorem k4 (h:RepB Hs H (.at u) v):v=u:=by
 rcases h with h|⟨a,_,_,t⟩
 ·exact rep_at.mp h
 ·exact t.elim
theorem o9 (s:Same Hs H)(h:RepB Hs H (.lst xs) v):∃ a vs,v = .ref a/\H a=some (.lst vs)/\Reps Hs xs vs:=by
 rcases h with h|⟨a,rfl,_,vs,e,r⟩
 ·obtain ⟨a,vs,rfl,e,r⟩:=rep_lst.mp h;exact ⟨a,vs,rfl,s _ _ e,r⟩
 ·exact ⟨a,vs,rfl,e,r⟩
theorem qM (s:Same Hs H)(h:RepB Hs H (.tup xs) v):∃ a vs,v = .ref a/\H a=some (.tup vs)/\Reps Hs xs vs:=by
 rcases h with h|⟨a,rfl,_,t⟩
 ·obtain ⟨a,vs,rfl,e,r⟩:=rep_tup.mp h;exact ⟨a,vs,rfl,s _ _ e,r⟩
 ·exact t.elim
theorem Qg (s:Same Hs H)(h:RepB Hs H (.fk ks xs) v):∃ a o kvs,v = .ref a/\H a=some (.frz o (.dK kvs))/\kvs.map (·.1)=ks/\Reps Hs xs (kvs.map (·.2)):=by
 rcases h with h|⟨a,rfl,n,t⟩
 ·obtain ⟨a,o,kvs,rfl,e,k,r⟩:=rep_fk.mp h;exact ⟨a,o,kvs,rfl,s _ _ e,k,r⟩
 ·exact t.elim
theorem jn (s:Same Hs H)(h:RepB Hs H (.dk ks xs) v):∃ a kvs,v = .ref a/\H a=some (.dK kvs)/\kvs.map (·.1)=ks/\Reps Hs xs (kvs.map (·.2)):=by
 rcases h with h|⟨a,rfl,_,kvs,e,k,r⟩
 ·obtain ⟨a,kvs,rfl,e,k,r⟩:=rep_dk.mp h;exact ⟨a,kvs,rfl,s _ _ e,k,r⟩
 ·exact ⟨a,kvs,rfl,e,k,r⟩
theorem GP (s:Same Hs H)(h:RepB Hs H (.ob C ns xs) v):∃ a dx fs,v = .ref a/\H a=some (.ins C dx fs)/\fs.map (·.1)=ns/\Reps Hs xs (fs.map (·.2)):=by
 rcases h with h|⟨a,rfl,_,dx,fs,e,k,r⟩
 ·obtain ⟨a,dx,fs,rfl,e,k,r⟩:=rep_ob.mp h;exact ⟨a,dx,fs,rfl,s _ _ e,k,r⟩
 ·exact ⟨a,dx,fs,rfl,e,k,r⟩
def pI (g:Int->Int->Option V):PV->PV->Option PV
 | .at (.int i),.at (.int j)=>(g i j).map .at
 |_,_=>none
theorem UW {g:Int->Int->Option V}{z:PV}(h:pI g x y=some z):∃ i j u,x = .at (.int i)/\y = .at (.int j)/\g i j=some u/\z = .at u:=by
 unfold pI at h;split at h
 ·rename_i i j;obtain ⟨u,e,rfl⟩:=yL.mp h;exact ⟨i,j,u,rfl,rfl,e,rfl⟩
 ·cases h
instance {g:Int->Int->V}:qV (rI0 g) (pI λi j=>some (g i j)) where
 h:=λe _ _ _ _ s a b _ q=>by
  obtain ⟨i,j,u,rfl,rfl,e,rfl⟩:=UW e;cases e;exact ⟨i,j,k4 a,k4 b,q _ _ _ (.refl s) (rep_at.mpr rfl)⟩
instance {C:Int->Int->Prop}[d:∀ i j,Decidable (C i j)]{g:Int->Int->V}:qV (rI C g) (pI λi j=>if C i j then some (g i j) else none) where
 h:=λe _ _ _ _ s a b _ q=>by
  obtain ⟨i,j,u,rfl,rfl,e',rfl⟩:=UW e;split at e'
  ·rename_i hc;cases e';exact ⟨i,j,k4 a,k4 b,hc,q _ _ _ (.refl s) (rep_at.mpr rfl)⟩
  ·cases e'
def j8:PV->PV->Option PV
 | .lst xs,.at (.int i)=>atI xs i
 | .tup xs,.at (.int i)=>atI xs i
 | .at (.str z),.at (.int i)=>if z.length<=lim then (L2.atI z.cps.toList i).map λc=> .at (.str ⟨#[c]⟩) else none
 |_,_=>none
theorem Reps.atI {i:Int}(r:Reps H xs vs)(h:atI xs i=some x):∃ v,L2.atI vs i=some v/\Rep H x v:=by unfold L2.atI at h ⊢;rw [r.length];obtain ⟨j,ej,e⟩:=bind_some h;rw [ej];exact r.get e
instance :qV (rIx K) j8 where
 h:=λ{x y z} e {Hs H v w} s a b {Q} q=>by
  unfold j8 at e;split at e
  ·obtain ⟨p,vs,rfl,e1,r1⟩:=o9 s a;obtain ⟨u,hu,r⟩:=r1.atI e;exact .inl ⟨p,vs,_,u,rfl,k4 b,SqL.of e1,hu,q _ _ _ (.refl s) r⟩
  ·obtain ⟨p,vs,rfl,e1,r1⟩:=qM s a;obtain ⟨u,hu,r⟩:=r1.atI e;exact .inr (.inl ⟨p,vs,_,u,rfl,k4 b,SqT.of e1,hu,q _ _ _ (.refl s) r⟩)
  ·split at e
   ·rename_i hz;obtain ⟨c,hc,rfl⟩:=yL.mp e;exact .inr (.inr ⟨_,_,c,k4 a,k4 b,qF hz,hc,q _ _ _ (.refl s) (rep_at.mpr rfl)⟩)
   ·cases e
  ·cases e
def ats:List PV->Option (List V)
 |[]=>some []
 | .at u::xs=>(ats xs).map (u::·)
 |_::_=>none
theorem jz:∀{xs:List PV}{us:List V},ats xs=some us->xs=us.map .at
 |[],_,h=>by cases h;rfl
 | .at u::xs,us,h=>by
  unfold ats at h;obtain ⟨r,e,rfl⟩:=yL.mp h;rw [yO,jz e]
 | .tup _::_,_,h=>by cases h
 | .lst _::_,_,h=>by cases h
 | .dk _ _::_,_,h=>by cases h
 | .fk _ _::_,_,h=>by cases h
 | .ob _ _ _::_,_,h=>by cases h
 | .op _::_,_,h=>by cases h
def pIn (neg:Bool):PV->PV->Option PV
 | .at u,.lst xs=>(ats xs).bind λus=>if y6 u=true/\us.all y6=true then some (.at (.bl (if neg then !inV u us else inV u us))) else none
 | .at u,.tup xs=>(ats xs).bind λus=>if y6 u=true/\us.all y6=true then some (.at (.bl (if neg then !inV u us else inV u us))) else none
 |_,_=>none
instance {neg:Bool}:qV (rIn K neg) (pIn neg) where
 h:=λ{x y z} e {Hs H v w} s a b {Q} q=>by
  unfold pIn at e;split at e
  ·obtain ⟨us,e1,e⟩:=bind_some e;split at e
   ·rename_i hf;cases e;obtain ⟨p,vs,rfl,e2,r2⟩:=o9 s b;rw [jz e1] at r2;cases r2.ats;cases k4 a;exact ⟨p,_,rfl,.inl (SqL.of e2),hf.1,hf.2,q _ _ _ (.refl s) (rep_at.mpr rfl)⟩
   ·cases e
  ·obtain ⟨us,e1,e⟩:=bind_some e;split at e
   ·rename_i hf;cases e;obtain ⟨p,vs,rfl,e2,r2⟩:=qM s b;rw [jz e1] at r2;cases r2.ats;cases k4 a;exact ⟨p,_,rfl,.inr (SqT.of e2),hf.1,hf.2,q _ _ _ (.refl s) (rep_at.mpr rfl)⟩
   ·cases e
  ·cases e
class SemU (r:V->Hp->VK->Prop)(g:PV->Option PV):Prop where
 h:∀{x z},g x=some z->∀{Hs H:Hp}{v:V},Same Hs H->RepB Hs H x v->∀{Q:VK},(∀ u Hs' H',Ext Hs H Hs' H'->Rep Hs' z u->Q u H')->r v H Q
def dUn (g:PV->Option PV)(a:M):M:=λε=>(a ε).bind g
instance {r:V->Hp->VK->Prop}{g:PV->Option PV}{ta:TE}[sr:SemU r g][sa:c9 ta a]:SemE (tUn r ta) (dUn g a) where
 h:=λe _ _ _ _ _ rs _ q=>by
  obtain ⟨x,ex,e⟩:=bind_some e;exact sa.h ex rs λv Hs1 H1 x1 r1=>sr.h e x1.s3 r1 λu Hs3 H3 x3 r3=>q u _ _ (x1.trans x3) r3
def pU (g:Int->V):PV->Option PV
 | .at (.int i)=>some (.at (g i))
 |_=>none
instance {g:Int->V}:SemU (rU g) (pU g) where
 h:=λ{x z} e {_ _ _} s a {_} q=>by
  unfold pU at e;split at e
  ·cases e;exact ⟨_,k4 a,q _ _ _ (.refl s) (rep_at.mpr rfl)⟩
  ·cases e
def pB:PV->Option Bool
 | .at (.bl b)=>some b
 |_=>none
theorem vW {b:Bool}(h:pB x=some b):x = .at (.bl b):=by
 unfold pB at h;split at h
 ·cases h;rfl
 ·cases h
def dT (a:M):MB:=λε=>(a ε).bind pB
instance [sa:c9 te a]:qQ (XO te) (dT a) where
 h:=λe _ _ _ _ _ rs _ q=>by
  obtain ⟨x,ex,e⟩:=bind_some e;cases vW e;exact sa.h ex rs λv Hs1 H1 x1 r1=>⟨_,k4 r1,q _ _ x1⟩
instance [sa:c9 te a]:qQ (tB te) (dT a) where
 h:=λe _ _ _ _ _ rs _ q=>by
  obtain ⟨x,ex,e⟩:=bind_some e;cases vW e;exact sa.h ex rs λv Hs1 H1 x1 r1=>⟨_,k4 r1,q _ _ x1⟩
def tTru (K:Fg)(ta:TE):TT:=λσ H Q=>ta σ H λx H'=>∃ k,TruV K x H' k/\Q k H'
def pTru:PV->Option Bool
 | .at .non=>some false
 | .at (.bl b)=>some b
 | .at (.int i)=>some (i != 0)
 | .at (.str y)=>if y.length<=lim then some ((y.length:Int) != 0) else none
 | .lst xs=>some (!xs.isEmpty)
 | .tup xs=>some (!xs.isEmpty)
 | .dk ks _=>some (!ks.isEmpty)
 |_=>none
def t0 (a:M):MB:=λε=>(a ε).bind pTru
theorem Reps.isEmpty (r:Reps H xs vs):vs.isEmpty=xs.isEmpty:=by have:=r.length;cases xs<;>cases vs<;>first|rfl|(simp at this)
instance [sa:c9 te a]:qQ (tTru K te) (t0 a) where
 h:=λe _ _ _ _ _ rs _ q=>by
  obtain ⟨x,ex,e⟩:=bind_some e;refine sa.h ex rs λv Hs1 H1 x1 r1=>?_;unfold pTru at e;split at e
  ·cases e;cases k4 r1;exact ⟨_,rfl,q _ _ x1⟩
  ·cases e;cases k4 r1;exact ⟨_,rfl,q _ _ x1⟩
  ·cases e;cases k4 r1;exact ⟨_,rfl,q _ _ x1⟩
  ·split at e
   ·rename_i hl;cases e;cases k4 r1;exact ⟨_,⟨qF hl,rfl⟩,q _ _ x1⟩
   ·cases e
  ·cases e;obtain ⟨p,vs,rfl,e1,r2⟩:=o9 x1.s3 r1;exact ⟨_,.inl ⟨vs,SqL.of e1,by rw [r2.isEmpty]⟩,q _ _ x1⟩
  ·cases e;obtain ⟨p,vs,rfl,e1,r2⟩:=qM x1.s3 r1;exact ⟨_,.inr (.inl ⟨vs,SqT.of e1,by rw [r2.isEmpty]⟩),q _ _ x1⟩
  ·cases e;obtain ⟨p,kvs,rfl,e1,k,r2⟩:=jn x1.s3 r1;refine ⟨_,.inr (.inr ⟨kvs,e1,?_⟩),q _ _ x1⟩;rw [<- k];cases kvs<;>rfl
  ·cases e
def zH (a b:MB):MB:=λε=>(a ε).bind λc=>if c=true then b ε else some false
def dOr (a b:MB):MB:=λε=>(a ε).bind λc=>if c=true then some true else b ε
def i4 (a:MB):MB:=λε=>(a ε).bind λc=>some (!c)
instance {u:TT}{a b:MB}[sa:qQ t a][sb:qQ u b]:qQ (tAnd t u) (zH a b) where
 h:=λe _ _ _ _ _ rs _ q=>by
  obtain ⟨c,ex,e⟩:=bind_some e;refine sa.h ex rs λHs1 H1 x1=>?_;cases c with
  |true=>exact qY (sb.h e (rs.go x1) λHs2 H2 x2=>q _ _ (x1.trans x2))
  |false=>cases e;exact qX (q _ _ x1)
instance {u:TT}{a b:MB}[sa:qQ t a][sb:qQ u b]:qQ (tOr t u) (dOr a b) where
 h:=λe _ _ _ _ _ rs _ q=>by
  obtain ⟨c,ex,e⟩:=bind_some e;refine sa.h ex rs λHs1 H1 x1=>?_;cases c with
  |true=>cases e;exact qY (q _ _ x1)
  |false=>exact qX (sb.h e (rs.go x1) λHs2 H2 x2=>q _ _ (x1.trans x2))
instance {a:MB}[sa:qQ t a]:qQ (tNot t) (i4 a) where
 h:=λe _ _ _ _ _ rs _ q=>by
  obtain ⟨c,ex,e⟩:=bind_some e;cases e;exact sa.h ex rs λHs1 H1 x1=>q _ _ x1
def qJ (a b:M):M:=λε=>(a ε).bind λx=>(pB x).bind λc=>if c=true then b ε else some (.at (.bl false))
def QI (a:M):M:=λε=>(a ε).bind λx=>(pB x).bind λc=>some (.at (.bl (!c)))
instance {t u:TE}[sa:SemE t a][sb:SemE u b]:SemE (Kf t u) (qJ a b) where
 h:=λe _ _ _ _ _ rs _ q=>by
  obtain ⟨x,ex,e⟩:=bind_some e;obtain ⟨c,ec,e⟩:=bind_some e;cases vW ec;refine sa.h ex rs λv Hs1 H1 x1 r1=>⟨c,rep_at.mp r1,?_⟩;cases c with
  |true=>exact qY (sb.h e (rs.go x1) λw Hs2 H2 x2 r2=>q _ _ _ (x1.trans x2) r2)
  |false=>cases e;exact qX (q _ _ _ x1 (rep_at.mpr rfl))
instance {t:TE}[sa:c9 t a]:SemE (Kl t) (QI a) where
 h:=λe _ _ _ _ _ rs _ q=>by
  obtain ⟨x,ex,e⟩:=bind_some e;obtain ⟨c,ec,e⟩:=bind_some e;cases vW ec;cases e;exact sa.h ex rs λv Hs1 H1 x1 r1=>⟨c,k4 r1,q _ _ _ x1 (rep_at.mpr rfl)⟩
def dIf (c:MB)(a b:M):M:=λε=>(c ε).bind λk=>if k=true then a ε else b ε
instance {ta:TE}[sc:qQ t c][sa:SemE ta a][sb:SemE tb b]:SemE (tIf t ta tb) (dIf c a b) where
 h:=λe _ _ _ _ _ rs _ q=>by
  obtain ⟨k,ex,e⟩:=bind_some e;refine sc.h ex rs λHs1 H1 x1=>?_;cases k with
  |true=>exact qY (sa.h e (rs.go x1) λw Hs2 H2 x2 r2=>q _ _ _ (x1.trans x2) r2)
  |false=>exact qX (sb.h e (rs.go x1) λw Hs2 H2 x2 r2=>q _ _ _ (x1.trans x2) r2)
def jF (g g':PV->PV->Option PV)(a b c:M):M:=λε=>(a ε).bind λx=>(b ε).bind λy=>(g x y).bind λz=>(pB z).bind λk=>if k=true then (c ε).bind λw=>g' y w else some (.at (.bl false))
instance {r':R2}{g g':PV->PV->Option PV}{ta tc:TE}{c:M}[sr:qV r g][sr':qV r' g'][sa:c9 ta a][sb:c9 tb b][sc:c9 tc c]:SemE (VB r r' ta tb tc) (jF g g' a b c) where
 h:=λe _ _ _ _ _ rs _ q=>by
  obtain ⟨x,ex,e1⟩:=bind_some e;obtain ⟨y,ey,e2⟩:=bind_some e1;obtain ⟨z,ez,e3⟩:=bind_some e2;obtain ⟨k,ek,e4⟩:=bind_some e3;have ez':=vW ek;subst ez';refine sa.h ex rs λv Hs1 H1 x1 r1=>sb.h ey (rs.go x1) λw Hs2 H2 x2 r2=>sr.h ez x2.s3 (r1.ext x2) r2 λu Hs3 H3 x3 r3=>⟨k,rep_at.mp r3,?_⟩;cases k with
  |true=>obtain ⟨w',ew,e5⟩:=bind_some e4;exact qY (sc.h ew (((rs.go x1).go x2).go x3) λu' Hs4 H4 x4 r4=>sr'.h e5 x4.s3 ((r2.ext x3).ext x4) r4 λu'' Hs5 H5 x5 r5=>q _ _ _ (x1.trans (x2.trans (x3.trans (x4.trans x5)))) r5)
  |false=>cases e4;exact qX (q _ _ _ (x1.trans (x2.trans x3)) (rep_at.mpr rfl))
def j7 (m:List PV->Option PV):Sp:=λvs H Q _=>∃ Hs xs y,Same Hs H/\Reps Hs xs vs/\m xs=some y/\∀ v Hs' H',Ext Hs H Hs' H'->Rep Hs' y v->Q v H'
def m7 (m:List PV->Option PV):Sp:=λvs H Q _=>∃ Hs xs y,Same Hs H/\Reps Hs xs vs/\m xs=some y/\∀ a Hs' H',Ext Hs H Hs' H'->H a=none->Hs' a=none->Top Hs' H' a y->Q (.ref a) H'
def z6 (m:List PV->Option PV)(as:MA):M:=λε=>(as ε).bind m
instance [sa:qP ta as]:SemE (zC (j7 m) [] E ta) (z6 m as) where
 h:=λe _ _ _ _ _ rs _ q=>by
  obtain ⟨xs,ex,e1⟩:=bind_some e;refine sa.h ex rs λvs Hs1 H1 x1 r1=>⟨Hs1,xs,_,x1.s3,by rw [yk];exact r1,e1,λv Hs' H' x r=>q v _ _ (x1.trans x) r⟩
instance [sa:qP ta as]:qU (zC (m7 m) [] E ta) (z6 m as) where
 h:=λe _ _ _ _ _ rs _ q=>by
  obtain ⟨xs,ex,e1⟩:=bind_some e;refine sa.h ex rs λvs Hs1 H1 x1 r1=>⟨Hs1,xs,_,x1.s3,by rw [yk];exact r1,e1,λa Hs' H' x n n' r=>q a _ _ (x1.trans x) (x1.s2.free n) n' r⟩
def Ze (m:List PV->Option PV)(ds:List V)(as:MA):M:=λε=>(as ε).bind λxs=>m (xs++ds.map .at)
def xk (C:Addr)(nm:Str)(m:List PV->Option PV)(a:M)(as:MA):M:=λε=>(a ε).bind λx=>match x with
 | .ob C' ns fs=>if C'=C/\nm∉ns then (as ε).bind λxs=>m (x::xs) else none
 |_=>none
theorem ZM {fs:List (Str×V)}{f:Str}(h:f∉fs.map (·.1)):fs.lookup f=none:=by
 induction fs with
 |nil=>rfl
 |cons p r ih =>
  rw [yO] at h;rw [uO];have h1:(f==p.1)=false:=by rw [beq_eq_false_iff_ne];exact λe=>h (e▸yQ)
  rw [h1];exact ih λz=>h (yN _ z)
theorem YJ (h:xk C nm m a as ε=some y):∃ ns fs xs,a ε=some (.ob C ns fs)/\nm∉ns/\as ε=some xs/\m (.ob C ns fs::xs)=some y:=by
 unfold xk at h;obtain ⟨x,ex,h1⟩:=bind_some h;split at h1
 ·rename_i C' ns fs;split at h1
  ·rename_i hc;obtain ⟨xs,e2,h2⟩:=bind_some h1;obtain ⟨rfl,hn⟩:=hc;exact ⟨ns,fs,xs,ex,hn,e2,h2⟩
  ·cases h1
 ·cases h1
instance [so:SemE te a][sa:qP ta as]:SemE (vi C nm (j7 m) [] E te ta) (xk C nm m a as) where
 h:=λe _ _ _ _ _ rs _ q=>by
  obtain ⟨ns,fs,xs,ea,hn,e1,e2⟩:=YJ e;refine so.h ea rs λv Hs1 H1 x1 r1=>?_;obtain ⟨p,dx,gs,rfl,hp,hk,hr⟩:=rep_ob.mp r1;refine ⟨p,dx,gs,rfl,x1.s3 _ _ hp,ZM (by rw [hk];exact hn),sa.h e1 (rs.go x1) λvs Hs2 H2 x2 r2=>?_⟩;exact ⟨Hs2,_,_,x2.s3,by rw [yk];exact .cons (r1.mono x2.s1) r2,e2,λv Hs' H' x r=>q v _ _ (x1.trans (x2.trans x)) r⟩
instance [so:SemE te a][sa:qP ta as]:qU (vi C nm (m7 m) [] E te ta) (xk C nm m a as) where
 h:=λe _ _ _ _ _ rs _ q=>by
  obtain ⟨ns,fs,xs,ea,hn,e1,e2⟩:=YJ e;refine so.h ea rs λv Hs1 H1 x1 r1=>?_;obtain ⟨p,dx,gs,rfl,hp,hk,hr⟩:=rep_ob.mp r1;refine ⟨p,dx,gs,rfl,x1.s3 _ _ hp,ZM (by rw [hk];exact hn),sa.h e1 (rs.go x1) λvs Hs2 H2 x2 r2=>?_⟩;exact ⟨Hs2,_,_,x2.s3,by rw [yk];exact .cons (r1.mono x2.s1) r2,e2,λv Hs' H' x n n' r=>q v _ _ (x1.trans (x2.trans x)) (x1.s2.free (x2.s2.free n)) n' r⟩
class wq (r:List V->Hp->VK->Prop)(g:List PV->Option PV):Prop where
 h:∀{xs z},g xs=some z->∀{Hs H:Hp}{vs:List V},Same Hs H->vt Hs H xs vs->∀{Q:VK},(∀ u Hs' H',Ext Hs H Hs' H'->Rep Hs' z u->Q u H')->r vs H Q
class XU (r:List V->Hp->VK->Prop)(g:List PV->Option PV):Prop where
 h:∀{xs z},g xs=some z->∀{Hs H:Hp}{vs:List V},Same Hs H->vt Hs H xs vs->∀{Q:VK},(∀ a Hs' H',Ext Hs H Hs' H'->H a=none->Hs' a=none->Top Hs' H' a z->Q (.ref a) H')->r vs H Q
instance {r:List V->Hp->VK->Prop}{g:List PV->Option PV}[sr:wq r g][sa:wp ta as]:SemE (tCB r ta) (z6 g as) where
 h:=λe _ _ _ _ _ rs _ q=>by
  obtain ⟨xs,ex,e1⟩:=bind_some e;exact sa.h ex rs λvs Hs1 H1 x1 r1=>sr.h e1 x1.s3 r1 λv Hs' H' x r=>q v _ _ (x1.trans x) r
instance {r:List V->Hp->VK->Prop}{g:List PV->Option PV}[sr:XU r g][sa:wp ta as]:qU (tCB r ta) (z6 g as) where
 h:=λe _ _ _ _ _ rs _ q=>by
  obtain ⟨xs,ex,e1⟩:=bind_some e;exact sa.h ex rs λvs Hs1 H1 x1 r1=>sr.h e1 x1.s3 r1 λv Hs' H' x n n' r=>q v _ _ (x1.trans x) (x1.s2.free n) n' r
theorem xH (h:vt Hs H [x] vs):∃ v,vs=[v]/\RepB Hs H x v:=by obtain ⟨v,r,rfl,a,b⟩:=h;cases (show r=[] from b);exact ⟨v,rfl,a⟩
theorem LO (h:vt Hs H [x,y] vs):∃ v w,vs=[v,w]/\RepB Hs H x v/\RepB Hs H y w:=by obtain ⟨v,r,rfl,a,b⟩:=h;obtain ⟨w,rfl,c⟩:=xH b;exact ⟨v,w,rfl,a,c⟩
inductive Out where
 |nx (ε:ME)|rt (y:PV)|bk (ε:ME)|ct (ε:ME)
abbrev MS:=ME->Option Out
def OutK (fr:Bool)(Hs0 H0:Hp)(D:xb):Out->Prop
 | .nx ε=>∀ Hs H σ,RS Hs0 H0 Hs H σ ε->D.nx σ H
 | .bk ε=>∀ Hs H σ,RS Hs0 H0 Hs H σ ε->D.bk σ H
 | .ct ε=>∀ Hs H σ,RS Hs0 H0 Hs H σ ε->D.ct σ H
 | .rt y=>match fr with
  |true=>∀ a Hs H,Ext Hs0 H0 Hs H->H0 a=none->Hs a=none->Top Hs H a y->D.rt (.ref a) H
  |false=>∀ v Hs H,Ext Hs0 H0 Hs H->Rep Hs y v->D.rt v H
class qh (fr:Bool)(ts:TS)(f:MS):Prop where
 h:∀{ε o},f ε=some o->∀{Hs0 H0 Hs H σ},RS Hs0 H0 Hs H σ ε->∀{D:xb},OutK fr Hs0 H0 D o->ts D σ H
variable {fr:Bool}
def r6:MS:=λε=>some (.nx ε)
instance:qh fr VD r6 where
 h:=λe _ _ _ _ _ rs _ q=>by cases e;exact q _ _ _ rs
def k5 (a b:MS):MS:=λε=>(a ε).bind λo=>match o with
 | .nx ε'=>b ε'
 |o=>some o
instance {t u:TS}{a b:MS}[sa:qh fr t a][sb:qh fr u b]:qh fr (tSeq t u) (k5 a b) where
 h:=λe _ _ _ _ _ rs D q=>by
  obtain ⟨o,eo,e1⟩:=bind_some e;refine sa.h eo rs ?_;cases o with
  |nx ε'=>exact λHs H σ r=>sb.h e1 r q
  |rt y=>cases e1;exact q
  |bk ε'=>cases e1;exact q
  |ct ε'=>cases e1;exact q
def zZ (a:M):MS:=λε=>(a ε).bind λ_=>some (.nx ε)
instance (priority:=100)[sa:c9 te a]:qh fr (we te) (zZ a) where
 h:=λe _ _ _ _ _ rs _ q=>by
  obtain ⟨x,ex,e1⟩:=bind_some e;cases e1;exact sa.h ex rs λv Hs1 H1 x1 r1=>q _ _ _ (rs.go x1)
def y8 (a:M):MS:=λε=>(a ε).bind λx=>some (.rt x)
instance [sa:SemE te a]:qh false (tRet te) (y8 a) where
 h:=λe _ _ _ _ _ rs _ q=>by
  obtain ⟨x,ex,e1⟩:=bind_some e;cases e1;exact sa.h ex rs λv Hs1 H1 x1 r1=>q _ _ _ (rs.ext.trans x1) r1
instance [sa:qU te a]:qh true (tRet te) (y8 a) where
 h:=λe _ _ _ _ _ rs _ q=>by
  obtain ⟨x,ex,e1⟩:=bind_some e;cases e1;exact sa.h ex rs λv Hs1 H1 x1 n n' r1=>q _ _ _ (rs.ext.trans x1) (rs.ext.s2.free n) n' r1
def m3 (c:MB)(a b:MS):MS:=λε=>(c ε).bind λk=>if k=true then a ε else b ε
instance {ta tb:TS}{a b:MS}[sc:qQ t c][sa:qh fr ta a][sb:qh fr tb b]:qh fr (tIfS t ta tb) (m3 c a b) where
 h:=λe _ _ _ _ _ rs _ q=>by
  obtain ⟨k,ex,e1⟩:=bind_some e;refine sc.h ex rs λHs1 H1 x1=>?_;cases k with
  |true=>exact qY (sa.h e1 (rs.go x1) q)
  |false=>exact qX (sb.h e1 (rs.go x1) q)
def xc:MS:=λ_=>none
instance:qh fr Kj xc where
 h:=λe=>by cases e
abbrev MG:=PV->ME->Option ME
def But (ts:List Nat)(σ σ':St):Prop:=σ'.length=σ.length/\∀ j,j∉ts->σ'[j]?=σ[j]?
theorem But.refl (σ:St):But [] σ σ:=⟨rfl,λ_ _=>rfl⟩
theorem But.trans {a b:List Nat}{σ1 σ2:St}(x:But a σ σ1)(y:But b σ1 σ2):But (a++b) σ σ2 :=
 ⟨y.1.trans x.1,λj hj=>(y.2 j λz=>hj (yu.mpr (.inr z))).trans (x.2 j λz=>hj (yu.mpr (.inl z)))⟩
theorem But.wk (b:But ts σ σ')(h:∀ i∈ts,σ[i]?=some none):Wk σ σ':=by refine ⟨b.1.symm,λi v e=>?_⟩;rw [b.2 i λz=>by rw [h i z] at e;cases e];exact e
class wu (tg:TG)(ts:outParam (List Nat))(g:MG):Prop where
 h:∀{x ε ε'},g x ε=some ε'->∀{Hs0 H0 Hs H σ v},RS Hs0 H0 Hs H σ ε->Rep Hs x v->∀{Q:St->Hp->Prop},(∀ σ',RS Hs0 H0 Hs H σ' ε'->But ts σ σ'->Q σ' H)->tg v σ H Q
class vx (tg:TGs)(ts:outParam (List Nat))(g:List PV->ME->Option ME):Prop where
 h:∀{xs ε ε'},g xs ε=some ε'->∀{Hs0 H0 Hs H σ vs},RS Hs0 H0 Hs H σ ε->Reps Hs xs vs->∀{Q:St->Hp->Prop},(∀ σ',RS Hs0 H0 Hs H σ' ε'->But ts σ σ'->Q σ' H)->tg vs σ H Q
def v5 (i:Nat):MG:=λx ε=>some (ε.set i (.sh x))
instance {i:Nat}:wu (qu i) [i] (v5 i) where
 h:=λe _ _ _ _ _ _ rs r _ q=>by
  cases e;exact q _ (rs.put r) ⟨yd,λj hj=>yn λz=>hj (by rw [<- z];exact yR.mpr rfl)⟩
def zq:List PV->ME->Option ME:=λxs ε=>match xs with
 |[]=>some ε
 |_=>none
def qv (g:MG)(r:List PV->ME->Option ME):List PV->ME->Option ME:=λxs ε=>match xs with
 |x::xs=>(g x ε).bind (r xs)
 |_=>none
instance:vx gNil [] zq where
 h:=λ{xs ε ε'} e {_ _ _ _ _ _} rs r {_} q=>by
  unfold zq at e;split at e
  ·cases e;exact ⟨reps_nil.mp r,q _ rs (.refl _)⟩
  ·cases e
instance NI {t:TG}{u:TGs}{a b:List Nat}{g:MG}{r:List PV->ME->Option ME}[sg:wu t a g][sr:vx u b r]:vx (Zw t u) (a++b) (qv g r) where
 h:=λ{xs ε ε'} e {_ _ _ _ _ _} rs rr {_} q=>by
  unfold qv at e;split at e
  ·obtain ⟨ε1,e1,e2⟩:=bind_some e;obtain ⟨v,w,rfl,r1,r2⟩:=reps_cons.mp rr;exact ⟨v,w,rfl,sg.h e1 rs r1 λσ1 rs1 b1=>sr.h e2 rs1 r2 λσ2 rs2 b2=>q _ rs2 (b1.trans b2)⟩
  ·cases e
instance (priority:=2000){i:Nat}{u:TGs}{b:List Nat}{r:List PV->ME->Option ME}[sr:vx u b r]:vx (Zw (qu i) u) (i::b) (qv (v5 i) r) where
 h:=λe _ _ _ _ _ _ rs rr _ q=>(NI (t:=qu i) (a:=[i]) (g:=v5 i)).h e rs rr q
def zr (n:Nat)(g:List PV->ME->Option ME):MG:=λx ε=>match x with
 | .tup xs=>if xs.length=n then g xs ε else none
 |_=>none
instance {t:TGs}{g:List PV->ME->Option ME}[sg:vx t ts g]:wu (gTup K n t) ts (zr n g) where
 h:=λ{x ε ε'} e {_ _ _ _ _ _} rs rr {_} q=>by
  unfold zr at e;split at e
  ·split at e
   ·rename_i hl;obtain ⟨a,vs,rfl,h,r⟩:=rep_tup.mp rr;exact ⟨a,vs,rfl,SqT.of (rs.sub _ _ h),by rw [r.length];exact hl,sg.h e rs r λσ' rs' b=>q _ rs' b⟩
   ·cases e
  ·cases e
def xf (i:Nat)(a:M):MS:=λε=>(a ε).bind λx=>some (.nx (ε.set i (.sh x)))
def vC (i:Nat)(a:M):MS:=λε=>(a ε).bind λx=>some (.nx (ε.set i (.ow x)))
instance {i:Nat}[sa:SemE te a]:qh fr (zT te (qu i)) (xf i a) where
 h:=λe _ _ _ _ _ rs _ q=>by
  obtain ⟨x,ex,e1⟩:=bind_some e;cases e1;exact sa.h ex rs λv Hs1 H1 x1 r1=>q _ _ _ ((rs.go x1).put r1)
instance {i:Nat}[sa:qU te a]:qh fr (zT te (qu i)) (vC i a) where
 h:=λe _ _ _ _ _ rs _ q=>by
  obtain ⟨x,ex,e1⟩:=bind_some e;cases e1;refine sa.h ex rs λp Hs1 H1 x1 n n' t=>q _ _ _ ((rs.go x1).putO ⟨rs.ext.s2.free n,n',t⟩ λj y hj z=>?_);obtain ⟨b,hb,_,_,tb⟩:=rs.ow j y hj;rw [z] at hb;injection hb with hb;injection hb with hb;injection hb with hb;subst hb;exact tb.there n
def pIp (g:Int->Int->Int):PV->PV->Option PV
 | .at (.int i),.at (.int j)=>some (.at (.int (g i j)))
 |_,_=>none
def dAppend (i:Nat)(a:M):MS:=λε=>(a ε).bind λx=>match ε[i]? with
 |some (.ow (.lst xs))=>if xs.length<=lim then some (.nx (ε.set i (.ow (.lst (xs++[x]))))) else none
 |_=>none
def dExtend (i:Nat)(a:M):MS:=λε=>(a ε).bind λx=>match x with
 | .lst ys=>(match ε[i]? with
  |some (.ow (.lst xs))=>if xs.length+ys.length<=lim then some (.nx (ε.set i (.ow (.lst (xs++ys))))) else none
  |_=>none)
 |_=>none
structure zD (J:It)(xs:List PV)(Hs:Hp):Prop where
 go:∀(i:Nat)(x:PV)(Hs1 H1:Hp),xs[i]?=some x->Same Hs Hs1->Same Hs1 H1->J.go i H1/\∀ v H2,J.yld i H1 v H2->∃ Hs2,Ext Hs1 H1 Hs2 H2/\Rep Hs2 x v
 stop:∀(Hs1 H1:Hp),Same Hs Hs1->Same Hs1 H1->J.stop xs.length H1
class zh (ti:TI)(f:MA):Prop where
 h:∀{ε xs},f ε=some xs->∀{Hs0 H0 Hs H σ},RS Hs0 H0 Hs H σ ε->∀{R:It->Hp->Prop},(∀ J Hs' H',Ext Hs H Hs' H'->zD J xs Hs'->R J H')->ti σ H R
def u4 (a:M):MA:=λε=>(a ε).bind λx=>match x with
 | .lst xs=>some xs
 |_=>none
theorem Cp {a:Addr}(h:Hs a=some (.lst vs))(r:Reps Hs xs vs):zD (Itl K a) xs Hs where
 go:=λi x Hs1 H1 e g1 g2=>by
  obtain ⟨v,ev,rv⟩:=r.get e;refine ⟨⟨vs,v,SqL.of (g2 _ _ (g1 _ _ h)),ev⟩,λw H2 y=>?_⟩;obtain ⟨rfl,y⟩:=y;have z:=y vs (SqL.of (g2 _ _ (g1 _ _ h)));rw [ev] at z;cases z;exact ⟨Hs1,.refl g2,rv.mono g1⟩
 stop:=λHs1 H1 g1 g2=>⟨vs,SqL.of (g2 _ _ (g1 _ _ h)),by rw [r.length];exact yU _⟩
instance [sa:SemE te a]:zh (QU K te) (u4 a) where
 h:=λe _ _ _ _ _ rs _ q=>by
  obtain ⟨x,ex,e1⟩:=bind_some e;split at e1
  ·cases e1;refine sa.h ex rs λv Hs1 H1 x1 r1=>?_;obtain ⟨p,vs,rfl,hp,r⟩:=rep_lst.mp r1;exact ⟨p,rfl,⟨vs,SqL.of (x1.s3 _ _ hp)⟩,q _ _ _ x1 (Cp hp r)⟩
  ·cases e1
def xt (lo:Int)(n:Nat):List PV:=(List.range n).map λ(i:Nat)=> .at (.int (lo+i))
theorem ve :(xt lo n).length=n:=by unfold xt;rw [yZ,uy]
theorem LR {i:Nat}(h:(xt lo n)[i]?=some x):i<n/\x = .at (.int (lo+i)):=by
 have hl:i<n:=by have:=(yz.mp h).1;rw [ve] at this;exact this
 refine ⟨hl,?_⟩;unfold xt at h;rw [yM,List.getElem?_range hl] at h;cases h;rfl
theorem Cq :zD (Itr lo n) (xt lo n) Hs where
 go:=λi x Hs1 H1 e g1 g2=>by
  obtain ⟨hl,rfl⟩:=LR e;refine ⟨hl,λv H2 y=>?_⟩;obtain ⟨rfl,rfl⟩:=y;exact ⟨Hs1,.refl g2,rep_at.mpr rfl⟩
 stop:=λHs1 H1 g1 g2=>by show n<=_;rw [ve];exact yU _
def xT (a:MA):MA:=λε=>(a ε).bind λxs=>match xs with
 |[.at (.int j)]=>if -(lim:Int)<=j/\j<=lim then some (xt 0 j.toNat) else none
 |_=>none
instance {a:MA}[sa:qP ta a]:zh (QV ta) (xT a) where
 h:=λe _ _ _ _ _ rs _ q=>by
  obtain ⟨xs,ex,e1⟩:=bind_some e;split at e1
  ·rename_i j;split at e1
   ·rename_i hl;cases e1;refine sa.h ex rs λvs Hs1 H1 x1 r1=>?_;obtain ⟨v,r,rfl,p1,p2⟩:=reps_cons.mp r1;cases reps_nil.mp p2;cases rep_at.mp p1;have hlim:(lim:Int)=1000000:=rfl;exact ⟨j,rfl,by omega,by omega,q _ _ _ x1 Cq⟩
   ·cases e1
  ·cases e1
def p9 (g:MG)(f:MS):List PV->ME->Option Out
 |[],ε=>some (.nx ε)
 |x::xs,ε=>(g x ε).bind λε1=>(f ε1).bind λo=>match o with
  | .nx ε2=>p9 g f xs ε2
  | .ct ε2=>p9 g f xs ε2
  | .bk ε2=>some (.nx ε2)
  | .rt y=>some (.rt y)
def qS (i:MA)(g:MG)(f:MS):MS:=λε=>(i ε).bind λxs=>p9 g f xs ε
theorem OutK.unbase {D:xb}(x:Ext Hs0 H0 Hb H):∀{o:Out},OutK fr Hs0 H0 D o->OutK fr Hb H0 D o
 | .nx _,h=>λHs H σ r=>h _ _ _ (RS.unbase x r)
 | .bk _,h=>λHs H σ r=>h _ _ _ (RS.unbase x r)
 | .ct _,h=>λHs H σ r=>h _ _ _ (RS.unbase x r)
 | .rt _,h=>by
  cases fr with
  |true=>exact λa Hs H e n n' t=>h a Hs H (x.unbase e) n n' t
  |false=>exact λa Hs H e r=>h a Hs H (x.unbase e) r
instance {tb:TS}{i:MA}{g:MG}{f:MS}[si:zh wi i][sg:wu tg ts g][sf:qh fr tb f]:qh fr (tFor wi tg tb) (qS i g f) where
 h:=λe Hs0 H0 _ _ _ rs D q=>by
  obtain ⟨xs,ex,e1⟩:=bind_some e;refine si.h ex rs λJ Hs1 H1 x1 ok=>?_;have rs1:=rs.go x1;have q1:=OutK.unbase rs1.ext q;refine ⟨λk m σ H=>m=xs.length-k/\k<=xs.length/\∃ Hs ε,RS Hs1 H0 Hs H σ ε/\p9 g f (xs.drop k) ε=some _,⟨xs.length,by simp,yo _,Hs1,_,rs1.rebase,e1⟩,?_⟩;rintro k m σ H ⟨rfl,hk,Hs,ε,r,el⟩;by_cases hlt:k<xs.length
  ·have hd:xs.drop k=xs[k]::xs.drop (k+1):=ya hlt;rw [hd] at el;unfold p9 at el;obtain ⟨ε1,eg,el1⟩:=bind_some el;obtain ⟨o,eo,el2⟩:=bind_some el1;obtain ⟨go,yl⟩:=ok.go k xs[k] Hs H (by simp [hlt]) r.ext.s1 r.ext.s3;refine .inr ⟨go,λσ' H'=>k+1<=xs.length/\∃ Hs ε,RS Hs1 H0 Hs H' σ' ε/\p9 g f (xs.drop (k+1)) ε=some _,λσ' H' p=>⟨xs.length-(k+1),by omega,rfl,p.1,p.2⟩,λv H2 y=>?_⟩;obtain ⟨Hs2,x2,r2⟩:=yl v H2 y;refine sg.h eg (r.go x2) r2 λσ2 rs2 _=>sf.h eo rs2 ?_;cases o with
   |nx ε2=>exact λHs3 H3 σ3 r3=>⟨hlt,Hs3,ε2,r3,el2⟩
   |ct ε2=>exact λHs3 H3 σ3 r3=>⟨hlt,Hs3,ε2,r3,el2⟩
   |bk ε2=>cases el2;exact q1
   |rt y=>cases el2;exact q1
  ·have ek:k=xs.length:=by omega
   subst ek;rw [uA] at el;unfold p9 at el;cases el;exact .inl ⟨ok.stop Hs H r.ext.s1 r.ext.s3,q1 _ _ _ r⟩
def s9 (cap:List (Option Nat))(ε:ME):ME:=cap.map λo=>match o with
 |none=> .no
 |some i=>(ε[i]?).getD .no
def xj (g:MG)(c:MB)(f:M)(ε0:ME):List PV->Option (List PV)
 |[]=>some []
 |x::xs=>(g x ε0).bind λε1=>(c ε1).bind λb=>if b=true then (f ε1).bind λy=>(xj g c f ε0 xs).bind λys=>some (y::ys) else xj g c f ε0 xs
def u8:MB:=λ_=>some true
instance:qQ Qn u8 where
 h:=λe _ _ _ _ _ rs _ q=>by cases e;exact q _ _ (.refl rs.sub)
def jD (cap:List (Option Nat))(ts:List Nat):Bool:=decide (cap.filterMap id).Nodup&&ts.all λi=>decide (cap[i]?=some none)
def u7 (cap:List (Option Nat))(ts:List Nat)(i:MA)(g:MG)(c:MB)(f:M):M:=λε=>(i ε).bind λxs=>if jD cap ts=true/\xs.length<=lim then (xj g c f (s9 cap ε) xs).bind λys=>some (.lst ys) else none
theorem RS.cap {cap:List (Option Nat)}(hc:(cap.filterMap id).Nodup)(r:RS Hs0 H0 Hs H σ ε):RS Hs0 H0 Hs H (b7 cap σ) (s9 cap ε):=by
 have inj:∀(i j k:Nat),cap[i]?=some (some k)->cap[j]?=some (some k)->i=j:=by
  clear r
  induction cap with
  |nil=>intro i j k h;simp at h
  |cons o cap ih =>
   intro i j k hi hj;have no:∀(l:Nat),o=some k->cap[l]?=some (some k)->False:=λl ho hl=>by
    subst ho;rw [List.filterMap_cons_some (by rfl)] at hc;exact (yx.mp hc).1 (List.mem_filterMap.mpr ⟨some k,ym hl,rfl⟩)
   have hc':(cap.filterMap id).Nodup:=by
    cases o with
    |none=>rwa [List.filterMap_cons_none (by rfl)] at hc
    |some m=>rw [List.filterMap_cons_some (by rfl)] at hc;exact (yx.mp hc).2
   cases i with
   |zero =>
    cases j with
    |zero=>rfl
    |succ j=>exact (no j (by simpa using hi) (by simpa using hj)).elim
   |succ i =>
    cases j with
    |zero=>exact (no i (by simpa using hj) (by simpa using hi)).elim
    |succ j=>rw [ih hc' i j k (by simpa using hi) (by simpa using hj)]
 have at1:∀(i:Nat)(sl:MSlot),(s9 cap ε)[i]?=some sl->sl = .no∨∃ k,cap[i]?=some (some k)/\ε[k]?=some sl:=by
  intro i sl h;unfold s9 at h;rw [yM] at h;cases ho:cap[i]? with
  |none=>rw [ho] at h;cases h
  |some o =>
   rw [ho] at h;cases o with
   |none=>cases h;exact .inl rfl
   |some k =>
    cases hk:ε[k]? with
    |none=>simp only [uM,hk,ua] at h;cases h;exact .inl rfl
    |some s=>simp only [uM,hk,Option.getD_some] at h;cases h;exact .inr ⟨k,rfl,hk⟩
 have at2:∀(i k:Nat),cap[i]?=some (some k)->∀ v,σ[k]?=some (some v)->(b7 cap σ)[i]?=some (some v):=by intro i k h v e;unfold b7;rw [yM,h];simp [e]
 have at3:∀(i k:Nat)(v:V),cap[i]?=some (some k)->(b7 cap σ)[i]?=some (some v)->σ[k]?=some (some v):=by
  intro i k v h e;unfold b7 at e;rw [yM,h] at e;simp only [uM,yB,Option.some.injEq] at e;cases hs:σ[k]? with
  |none=>rw [hs] at e;cases e
  |some o=>rw [hs] at e;simp at e;rw [e]
 refine ⟨r.ext,λi x h=>?_,λi x h=>?_,λi j x y a h1 h2 h3 h4=>?_,by unfold b7 s9;rw [yZ,yZ],λi x h=>?_⟩
 ·rcases at1 i _ h with z|⟨k,hk,e⟩
  ·cases z
  ·obtain ⟨v,hv,rv⟩:=r.sh k x e;exact ⟨v,at2 i k hk v hv,rv⟩
 ·rcases at1 i _ h with z|⟨k,hk,e⟩
  ·cases z
  ·obtain ⟨v,hv,rv⟩:=r.ow k x e;exact ⟨v,at2 i k hk _ hv,rv⟩
 ·rcases at1 i _ h1 with z|⟨k,hk,e⟩
  ·cases z
  ·rcases at1 j _ h2 with z|⟨l,hl,e'⟩
   ·cases z
   ·have kl:=r.nd k l x y a e e' (at3 i k _ hk h3) (at3 j l _ hl h4);subst kl;exact inj i j k hk hl
 ·rcases at1 i _ h with z|⟨k,hk,e⟩
  ·cases z
  ·obtain ⟨v,hv,rv⟩:=r.bo k x e;exact ⟨v,at2 i k hk _ hv,rv⟩
theorem Reps.snoc (r:Reps H xs vs)(p:Rep H x v):Reps H (xs++[x]) (vs++[v]):=r.append (.one p)
instance {tt:TT}{cap:List (Option Nat)}{i:MA}{g:MG}{f:M}[si:zh wi i][sg:wu tg ts g][sc:qQ tt c][sf:SemE te f]:qU (Ql wi tg tt te cap) (u7 cap ts i g c f) where
 h:=λe Hs0 H0 Hs H σ rs Q q=>by
  obtain ⟨xs,ex,e1⟩:=bind_some e;split at e1
  ·rename_i hcl;obtain ⟨hcap,hl⟩:=hcl;unfold jD at hcap;rw [yf] at hcap;obtain ⟨ys,ey,e2⟩:=bind_some e1;cases e2;refine si.h ex rs λJ Hs1 H1 x1 ok=>?_;have rc:=((rs.go x1).cap (uN hcap.1)).rebase;have wk:∀ i∈ts,(b7 cap σ)[i]?=some none:=λi hi=>by
    unfold b7;rw [yM,uN (uH.mp hcap.2 i hi)];rfl
   refine ⟨λk m zs H=>m=xs.length-k/\k<=xs.length/\∃ Hs2 ws,Ext Hs1 H1 Hs2 H/\RS Hs1 H0 Hs2 H (b7 cap σ) (s9 cap _)/\Reps Hs2 ws zs/\ws.length<=k/\∃ rest,xj g c f (s9 cap _) (xs.drop k)=some rest/\ys=ws++rest,
    ⟨xs.length,by simp,yo _,Hs1,[],.refl x1.s3,rc,.nil,yU _,ys,ey,rfl⟩,?_⟩
   rintro k m zs H2 ⟨rfl,hk,Hs2,ws,x2,r2,rz,hw,rest,er,eys⟩;refine ⟨qF (by rw [rz.length];omega),?_⟩;by_cases hlt:k<xs.length
   ·have hd:xs.drop k=xs[k]::xs.drop (k+1):=ya hlt;rw [hd] at er;unfold xj at er;obtain ⟨ε1,eg,er1⟩:=bind_some er;obtain ⟨b,eb,er2⟩:=bind_some er1;obtain ⟨go,yl⟩:=ok.go k xs[k] Hs2 H2 (by simp [hlt]) x2.s1 x2.s3;refine .inr ⟨go,λv H3 y=>?_⟩;obtain ⟨Hs3,x3,r3⟩:=yl v H3 y;refine sg.h eg (r2.go x3) r3 λσ2 rs2 bt=>⟨bt.wk wk,sc.h eb rs2 λHs4 H4 x4=>?_⟩;cases b with
    |true =>
     rw [if_pos rfl] at er2;obtain ⟨z,ez,er3⟩:=bind_some er2;obtain ⟨rest',er4,er5⟩:=bind_some er3;cases er5;refine qY (sf.h ez (rs2.go x4) λu Hs5 H5 x5 r5=>⟨xs.length-(k+1),by omega,rfl,hlt,Hs5,ws++[z],x2.trans (x3.trans (x4.trans x5)),((r2.go x3).go x4).go x5,?_,?_,rest',er4,?_⟩)
     ·exact (rz.mono (x3.s1.trans (x4.s1.trans x5.s1))).snoc r5
     ·rw [yJ];simp;omega
     ·rw [uT];exact eys
    |false=>rw [if_neg yS] at er2;exact qX ⟨xs.length-(k+1),by omega,rfl,hlt,Hs4,ws,x2.trans (x3.trans x4),(r2.go x3).go x4,rz.mono (x3.s1.trans x4.s1),by omega,rest,er2,eys⟩
   ·have ek:k=xs.length:=by omega
    subst ek;rw [uA] at er;unfold xj at er;cases er;refine .inl ⟨ok.stop Hs2 H2 x2.s1 x2.s3,λD hD=>?_⟩;rw [yk] at eys;subst eys;have x12:=x1.trans x2;exact q D Hs2 _ (x12.trans (.newO x2.s3 hD)) (x12.s2.free hD) (x2.s3.free hD) ⟨zs,v6,rz⟩
  ·cases e1
def k7 (n k:Nat)(f:MS):List PV->Option PV:=λxs=>if xs.length=k then (f (xs.map .sh++List.replicate (n-k) .no)).bind λo=>match o with
 | .rt y=>some y
 | .nx _=>some (.at .non)
 |_=>none else none
def qA (n k:Nat)(f:MS):List PV->Option PV:=λxs=>if xs.length=k then (f (xs.map .sh++List.replicate (n-k) .no)).bind λo=>match o with
 | .rt y=>some y
 |_=>none else none
end Mi
namespace Mi
open PySem PySem.Spec PyProof.Rows L2
variable{N ps:List Str}{qual x:Str}{st:Stmt}{f:Addr}{fd:FuncData}{b:MS}{m:List PV->Option PV}
theorem zR {Hs H:Hp}{xs:List PV}{vs:List V}(s:Same Hs H)(r:Reps Hs xs vs):RS Hs H Hs H (L2.start N vs) (xs.map .sh++List.replicate (N.length-xs.length) .no):=by
 have el:=r.length;have at1:∀(i:Nat)(sl:MSlot),(xs.map MSlot.sh++List.replicate (N.length-xs.length) .no)[i]?=some sl->sl = .no∨∃ x,xs[i]?=some x/\sl = .sh x:=by
  intro i sl h;by_cases hi:i<xs.length
  ·rw [yg (by rw [yZ];exact hi),yM] at h;obtain ⟨x,hx,rfl⟩:=yL.mp h;exact .inr ⟨x,hx,rfl⟩
  ·rw [yc (by rw [yZ];omega),um] at h;split at h
   ·cases h;exact .inl rfl
   ·cases h
 refine ⟨.refl s,λi x h=>?_,λi x h=>?_,λi j x y a h1 _ _ _=>?_,?_,λi x h=>?_⟩
 ·rcases at1 i _ h with z|⟨y,hy,z⟩
  ·cases z
  ·cases z;obtain ⟨v,hv,rv⟩:=r.get hy;refine ⟨v,?_,rv⟩;unfold L2.start;rw [yg (by rw [yZ];exact (yz.mp hv).1),yM,hv];rfl
 ·rcases at1 i _ h with z|⟨y,hy,z⟩<;>cases z
 ·rcases at1 i _ h1 with z|⟨y,hy,z⟩<;>cases z
 ·unfold L2.start;rw [yJ,yJ,yZ,yZ,ud,ud,el]
 ·rcases at1 i _ h with z|⟨y,hy,z⟩<;>cases z
section
variable {P:Program}{w:World}{K:Fg}{mg:Str->Option Value}{base:Heap}
theorem c7 {k:Nat}(F:Fun K x qual st f fd)(S:v8 N ps (z9 st))(hm:m=k7 N.length ps.length b)(hb:∀(cdv:Value)(A:Around)(outer:List Env)(s:Shared)(H:Hp)(E:XK),Room k (A.deeper (envOfC qual (z9 st) s.heap.objs.size f cdv)) -> ∃ t,PSs (qR j6 P w K mg base N qual (z9 st) f cdv A outer s H E).nox (o3 st) t/\qh false t b):FnOk P w K mg base j6 (k+1) f fd ps (j7 m):=by
 subst hm;refine F.ok S (λvs H Q E h=>?_) (λcdv A outer s H vs Q E hr h=>?_)
 ·obtain ⟨Hs,xs,y,_,r,e,_⟩:=h;unfold k7 at e;split at e
  ·rename_i hl;rw [r.length];exact hl
  ·cases e
 ·obtain ⟨Hs,xs,y,sm,r,e,q⟩:=h;obtain ⟨t,ht,sem⟩:=hb cdv A outer s H E hr;refine ⟨t,ht,?_⟩;unfold k7 at e;split at e
  ·rename_i hl;obtain ⟨o,eo,e1⟩:=bind_some e;refine sem.h eo (by rw [<- hl];exact zR sm r) ?_;cases o with
   |rt z=>cases e1;exact λv Hs' H' x rv=>q v Hs' H' x rv
   |nx ε=>cases e1;exact λHs' H' σ rs=>q _ Hs' H' rs.ext (rep_at.mpr rfl)
   |bk ε=>cases e1
   |ct ε=>cases e1
  ·cases e
theorem okO {k:Nat}(F:Fun K x qual st f fd)(S:v8 N ps (z9 st))(hm:m=qA N.length ps.length b)(hb:∀(cdv:Value)(A:Around)(outer:List Env)(s:Shared)(H:Hp)(E:XK),Room k (A.deeper (envOfC qual (z9 st) s.heap.objs.size f cdv)) -> ∃ t,PSs (qR j6 P w K mg base N qual (z9 st) f cdv A outer s H E).nox (o3 st) t/\qh true t b):FnOk P w K mg base j6 (k+1) f fd ps (m7 m):=by
 subst hm;refine F.ok S (λvs H Q E h=>?_) (λcdv A outer s H vs Q E hr h=>?_)
 ·obtain ⟨Hs,xs,y,_,r,e,_⟩:=h;unfold qA at e;split at e
  ·rename_i hl;rw [r.length];exact hl
  ·cases e
 ·obtain ⟨Hs,xs,y,sm,r,e,q⟩:=h;obtain ⟨t,ht,sem⟩:=hb cdv A outer s H E hr;refine ⟨t,ht,?_⟩;unfold qA at e;split at e
  ·rename_i hl;obtain ⟨o,eo,e1⟩:=bind_some e;refine sem.h eo (by rw [<- hl];exact zR sm r) ?_;cases o with
   |rt z=>cases e1;exact λa Hs' H' x n n' t=>q a Hs' H' x n n' t
   |nx ε=>cases e1
   |bk ε=>cases e1
   |ct ε=>cases e1
  ·cases e
end
end Mi
namespace Mi
open PySem L2
variable{X:Cx}{K:Fg}{ta:TA}{j n:Int}{H H0 Hs Hs0:Hp}{xs ys:List PV}{x y:PV}{v:V}{td te tv ty:TE}{vs ws:List V}{l u:ME->Option (Option Int)}{o:HO}{f nm qual:Str}{tt:TT}{t tb:TS}{S:List Addr}{σ σ':St}{ε ε':ME}{E:XK}{pre:List PV->Prop}{R:List PV->PV->Prop}{as it:MA}{c:MB}{wi:TI}{tg:TG}{ts:List Nat}{N ns ps:List Str}{st:Stmt}{fd:FuncData}{G:MG}{m:List PV->Option PV}{C:Addr}{e:Expr}{pos:Pos}{kvs:List (x8×V)}{α:Type}{sp:Sp}
theorem qw {a:Expr}{ta:TE}(h:X.K=K)(ha:PE X a ta)(he:∀ whole,isTrue a X.env whole=(do let v <- whole;standAt a.pos;holding [v] (truthy v))):PT X a (tTru K ta):=Ls h ha he
abbrev jg:PV->PV->Option PV:=pI λi j=>some (.int (i-j))
abbrev pLt:PV->PV->Option PV:=pI λi j=>some (.bl (decide (i<j)))
abbrev pLe:PV->PV->Option PV:=pI λi j=>some (.bl (decide (i<=j)))
abbrev pGt:PV->PV->Option PV:=pI λi j=>some (.bl (decide (j<i)))
abbrev pGe:PV->PV->Option PV:=pI λi j=>some (.bl (decide (j<=i)))
instance {i:Int}:Decidable (wm i j):=by unfold wm;infer_instance
instance {i:Int}:Decidable (zV i j):=by unfold zV;infer_instance
abbrev wW:PV->PV->Option PV:=pI λi j=>if wm i j then some (.int (i*j)) else none
abbrev pPow:PV->PV->Option PV:=pI λi j=>if zV i j then some (.int (i ^ j.toNat)) else none
abbrev pNeg:PV->Option PV:=pU λi=> .int (-i)
theorem Reps.nil_of (r:Reps H xs []):xs=[]:=uj.mp r.length.symm
def qL:PV->PV->Option PV
 | .at (.int i),.at (.int j)=>some (.at (.int (i+j)))
 | .at (.str x),.at (.str y)=>if x.length+y.length<=lim then some (.at (.str (x++y))) else none
 | .lst xs,.lst ys=>if xs.length+ys.length<=lim then some (.lst (xs++ys)) else none
 | .tup xs,.tup ys=>if xs≠[]/\xs.length+ys.length<=lim then some (.tup (xs++ys)) else none
 |_,_=>none
instance :qV (XH K) qL where
 h:=λ{x y z} e {Hs H v w} s a b {Q} q=>by
  unfold qL at e;split at e
  ·cases e;exact .inl ⟨_,_,k4 a,k4 b,q _ _ _ (.refl s) (rep_at.mpr rfl)⟩
  ·split at e
   ·rename_i hl;cases e;exact .inr (.inl ⟨_,_,k4 a,k4 b,qF hl,q _ _ _ (.refl s) (rep_at.mpr rfl)⟩)
   ·cases e
  ·split at e
   ·rename_i hl;cases e;obtain ⟨p,vs,rfl,e1,r1⟩:=o9 s a;obtain ⟨p',ws,rfl,e2,r2⟩:=o9 s b;refine .inr (.inr (.inl ⟨p,p',vs,ws,rfl,rfl,SqL.of e1,SqL.of e2,qF (by rw [r1.length,r2.length];exact hl),λl hl=>?_⟩));exact q _ _ _ (.new s hl) (rep_lst.mpr ⟨l,_,rfl,v6,(r1.append r2).mono (Ext.new s hl).s1⟩)
   ·cases e
  ·split at e
   ·rename_i hl;cases e;obtain ⟨p,vs,rfl,e1,r1⟩:=qM s a;obtain ⟨p',ws,rfl,e2,r2⟩:=qM s b;have hn:vs≠[]:=λz=>by
     have h1:=r1.length;rw [z] at h1;exact hl.1 (uj.mp h1.symm)
    refine .inr (.inr (.inr ⟨p,p',vs,ws,rfl,rfl,SqT.of e1,SqT.of e2,hn,qF (by rw [r1.length,r2.length];exact hl.2),λz=>?_,λz l hl=>?_⟩))
    ·subst z;cases r2.nil_of;rw [yk] at q;rcases a with a|⟨_,_,_,t⟩
     ·exact q _ _ _ (.refl s) a
     ·exact t.elim
    ·exact q _ _ _ (.new s hl) (rep_tup.mpr ⟨l,_,rfl,v6,(r1.append r2).mono (Ext.new s hl).s1⟩)
   ·cases e
  ·cases e
def qq:List PV->Option PV
 |[.at (.str x)]=>if x.length<=lim then some (.at (.int x.length)) else none
 |[.lst xs]=>some (.at (.int xs.length))
 |[.tup xs]=>some (.at (.int xs.length))
 |[.dk ks _]=>some (.at (.int ks.length))
 |_=>none
instance :wq (wb K) qq where
 h:=λ{xs z} e {Hs H vs} s r {Q} q=>by
  unfold qq at e;split at e
  ·split at e
   ·rename_i hl;cases e;obtain ⟨v,rfl,a⟩:=xH r;cases k4 a;exact .inl ⟨_,_,rfl,⟨qF hl,rfl⟩,q _ _ _ (.refl s) (rep_at.mpr rfl)⟩
   ·cases e
  ·cases e;obtain ⟨v,rfl,a⟩:=xH r;obtain ⟨p,ws,rfl,e1,r1⟩:=o9 s a;exact .inl ⟨_,_,rfl,.inl ⟨ws,SqL.of e1,rfl⟩,q _ _ _ (.refl s) (rep_at.mpr (by rw [r1.length]))⟩
  ·cases e;obtain ⟨v,rfl,a⟩:=xH r;obtain ⟨p,ws,rfl,e1,r1⟩:=qM s a;exact .inl ⟨_,_,rfl,.inr ⟨ws,SqT.of e1,rfl⟩,q _ _ _ (.refl s) (rep_at.mpr (by rw [r1.length]))⟩
  ·cases e;obtain ⟨v,rfl,a⟩:=xH r;obtain ⟨p,kvs,rfl,e1,k,r1⟩:=jn s a;exact .inr ⟨p,kvs,rfl,e1,q _ _ _ (.refl s) (rep_at.mpr (by rw [<- k,yZ]))⟩
  ·cases e
def jW:List PV->Option PV
 |[.lst xs]=>some (.lst xs)
 |[.tup xs]=>some (.lst xs)
 |_=>none
instance :XU (GB K) jW where
 h:=λ{xs z} e {Hs H vs} s r {Q} q=>by
  unfold jW at e;split at e
  ·cases e;obtain ⟨v,rfl,a⟩:=xH r;obtain ⟨p,ws,rfl,e1,r1⟩:=o9 s a;exact ⟨p,ws,rfl,.inl (SqL.of e1),λl hl=>q l _ _ (.newO s hl) hl (s.free hl) ⟨ws,v6,r1⟩⟩
  ·cases e;obtain ⟨v,rfl,a⟩:=xH r;obtain ⟨p,ws,rfl,e1,r1⟩:=qM s a;exact ⟨p,ws,rfl,.inr (SqT.of e1),λl hl=>q l _ _ (.newO s hl) hl (s.free hl) ⟨ws,v6,r1⟩⟩
  ·cases e
def tyP:PV->Option String
 | .at .non=>some "NoneType"
 | .at (.bl _)=>some "bool"
 | .at (.int _)=>some "int"
 | .at (.str _)=>some "str"
 | .lst _=>some "list"
 | .tup _=>some "tuple"
 | .dk _ _=>some "dict"
 |_=>none
theorem HD {T:String}(s:Same Hs H)(r:RepB Hs H x v)(e:tyP x=some T):qW K H v (.type T):=by
 unfold tyP at e;split at e
 ·cases e;cases k4 r;exact .non
 ·cases e;cases k4 r;exact .bl _
 ·cases e;cases k4 r;exact .int _
 ·cases e;cases k4 r;exact .str _
 ·cases e;obtain ⟨p,ws,rfl,e1,r1⟩:=o9 s r;exact .lst e1
 ·cases e;obtain ⟨p,ws,rfl,e1,r1⟩:=qM s r;exact .tup e1
 ·cases e;obtain ⟨p,ws,rfl,e1,_⟩:=jn s r;exact .dK e1
 ·cases e
def m4:List PV->Option PV
 |[x,.at (.ty n)]=>(tyP x).bind λT=>(tyB T n).bind λb=>some (.at (.bl b))
 |_=>none
instance :wq (rIsi K) m4 where
 h:=λ{xs z} e {Hs H vs} s r {Q} q=>by
  unfold m4 at e;split at e
  ·obtain ⟨T,eT,e1⟩:=bind_some e;obtain ⟨b,eb,e2⟩:=bind_some e1;cases e2;obtain ⟨v,w,rfl,a,c⟩:=LO r;cases k4 c;exact ⟨v,_,T,b,rfl,HD s a eT,eb,q _ _ _ (.refl s) (rep_at.mpr rfl)⟩
  ·cases e
def bls:List PV->Option (List Bool)
 |[]=>some []
 | .at (.bl b)::xs=>(bls xs).map (b::·)
 |_::_=>none
theorem Ym:∀{xs:List PV}{bs:List Bool},bls xs=some bs->xs=bs.map λb=> .at (.bl b)
 |[],_,h=>by cases h;rfl
 |x::xs,bs,h=>by
  unfold bls at h;split at h
  ·rename_i heq;cases heq
  ·rename_i b ys heq;injection heq with h1 h2;obtain ⟨r,e,rfl⟩:=yL.mp h;subst h2;rw [h1,yO,Ym e]
  ·cases h
def xC:List PV->Option PV
 |[.lst xs]=>(bls xs).bind λbs=>some (.at (.bl (bs.all id)))
 |_=>none
instance :wq (Gv K) xC where
 h:=λ{xs z} e {Hs H vs} s r {Q} q=>by
  unfold xC at e;split at e
  ·obtain ⟨bs,eb,e1⟩:=bind_some e;cases e1;obtain ⟨v,rfl,a⟩:=xH r;obtain ⟨p,ws,rfl,e1,r1⟩:=o9 s a;rw [Ym eb,show (bs.map λb=>PV.at (.bl b))=(bs.map V.bl).map .at by rw [yF];rfl] at r1;cases r1.ats;exact ⟨p,bs,rfl,SqL.of e1,q _ _ _ (.refl s) (rep_at.mpr rfl)⟩
  ·cases e
def jN:PV->Bool
 | .at .non=>true
 |_=>false
def wB:PV->Bool
 | .op _=>true
 |_=>false
def pIsN:PV->PV->Option PV:=λx y=>if jN y=true/\wB x=false then some (.at (.bl (jN x))) else none
def Jd:PV->PV->Option PV:=λx y=>if jN y=true/\wB x=false then some (.at (.bl (!jN x))) else none
theorem QW (s:Same Hs H)(r:RepB Hs H x v)(ho:wB x=false):decide (v = .non)=jN x:=by
 cases x with
 |«at» u=>cases k4 r;cases v<;>first|rfl|(exact yD (λz=>nomatch z))
 |tup xs=>obtain ⟨p,ws,rfl,_⟩:=qM s r;exact yD (λz=>nomatch z)
 |lst xs=>obtain ⟨p,ws,rfl,_⟩:=o9 s r;exact yD (λz=>nomatch z)
 |dk ks xs=>obtain ⟨p,ws,rfl,_⟩:=jn s r;exact yD (λz=>nomatch z)
 |fk ks xs=>obtain ⟨p,o,ws,rfl,_⟩:=Qg s r;exact yD (λz=>nomatch z)
 |ob C ns xs=>obtain ⟨p,dx,ws,rfl,_⟩:=GP s r;exact yD (λz=>nomatch z)
 |op φ=>cases ho
instance:qV rIsN pIsN where
 h:=λ{x y z} e {Hs H v w} s a b {Q} q=>by
  unfold pIsN at e;split at e
  ·rename_i hy;cases e;have hb:wB y=false:=by cases y<;>first|rfl|(exact absurd hy.1 (by simp [jN]))
   refine ⟨uN ((QW s b hb).trans hy.1),?_⟩;rw [QW s a hy.2];exact q _ _ _ (.refl s) (rep_at.mpr rfl)
  ·cases e
instance:qV GC Jd where
 h:=λ{x y z} e {Hs H v w} s a b {Q} q=>by
  unfold Jd at e;split at e
  ·rename_i hy;cases e;have hb:wB y=false:=by cases y<;>first|rfl|(exact absurd hy.1 (by simp [jN]))
   refine ⟨uN ((QW s b hb).trans hy.1),?_⟩;rw [QW s a hy.2];exact q _ _ _ (.refl s) (rep_at.mpr rfl)
  ·cases e
def xW (f:PV->PV->Option Bool):List PV->List PV->Option Bool
 |x::xs,y::ys=>(f x y).bind λa=>(xW f xs ys).bind λb=>some (a&&b)
 |_,_=>some true
def peq0:PV->PV->Option Bool
 | .at u,.at v=>if y6 u=true/\y6 v=true then some (c5 u v) else none
 |_,_=>none
def peq1 (f:PV->PV->Option Bool):PV->PV->Option Bool
 | .at u,.at v=>if y6 u=true/\y6 v=true then some (c5 u v) else none
 | .lst xs,.lst ys=>if xs.length=ys.length then xW f xs ys else some false
 | .tup xs,.tup ys=>(xW f xs ys).bind λb=>some (b&&xs.length==ys.length)
 | .lst _,.tup _=>some false
 | .tup _,.lst _=>some false
 | .at u,.lst _=>if y6 u=true then some false else none
 | .at u,.tup _=>if y6 u=true then some false else none
 | .lst _,.at u=>if y6 u=true then some false else none
 | .tup _,.at u=>if y6 u=true then some false else none
 |_,_=>none
def peq:Nat->PV->PV->Option Bool
 |0=>peq0
 |n+1=>peq1 (peq n)
theorem Jh {K:Fg}{Hs H:Hp}{n:Nat}(s:Same Hs H)(ih:∀{x y:PV}{v w:V}{b:Bool},peq n x y=some b->Rep Hs x v->Rep Hs y w->EqP K H n v w b):∀{xs ys:List PV}{vs ws:List V}{b:Bool},xW (peq n) xs ys=some b->Reps Hs xs vs->Reps Hs ys ws->∃ e:Nat->Bool,(∀ j (h1:j<vs.length) (h2:j<ws.length),EqP K H n vs[j] ws[j] (e j))/\b=(List.range (min vs.length ws.length)).all e
 |[],ys,vs,ws,b,h,r1,r2=>by
  cases reps_nil.mp r1;unfold xW at h;cases h;exact ⟨λ_=>true,λj h1=>absurd h1 (Nat.not_lt_zero _),by simp⟩
 |x::xs,[],vs,ws,b,h,r1,r2=>by
  cases reps_nil.mp r2;unfold xW at h;cases h;exact ⟨λ_=>true,λj h1 h2=>absurd h2 (Nat.not_lt_zero _),by simp⟩
 |x::xs,y::ys,vs,ws,b,h,r1,r2=>by
  obtain ⟨v,vr,rfl,p1,q1⟩:=reps_cons.mp r1;obtain ⟨w,wr,rfl,p2,q2⟩:=reps_cons.mp r2;unfold xW at h;obtain ⟨a,ea,h1⟩:=bind_some h;obtain ⟨c,ec,h2⟩:=bind_some h1;cases h2;obtain ⟨e,he,hb⟩:=Jh s ih ec q1 q2;refine ⟨λj=>match j with|0=>a|j+1=>e j,λj h1 h2=>?_,?_⟩
  ·cases j with
   |zero=>exact ih ea p1 p2
   |succ j=>exact he j (by simpa using h1) (by simpa using h2)
  ·rw [yA,yA,Nat.succ_min_succ,List.range_succ_eq_map,List.all_cons,List.all_map,hb];rfl
theorem Jg {K:Fg}{Hs H:Hp}(s:Same Hs H):∀(n:Nat){x y:PV}{v w:V}{b:Bool},peq n x y=some b->RepB Hs H x v->RepB Hs H y w->EqP K H n v w b
 |0,x,y,v,w,b,h,r1,r2=>by
  unfold peq peq0 at h;split at h
  ·split at h
   ·rename_i hf;cases h;cases k4 r1;cases k4 r2;exact ⟨hf.1,hf.2,rfl⟩
   ·cases h
  ·cases h
 |n+1,x,y,v,w,b,h,r1,r2=>by
  have ih:∀{x y:PV}{v w:V}{b:Bool},peq n x y=some b->Rep Hs x v->Rep Hs y w->EqP K H n v w b:=λh r1 r2=>Jg s n h (.inl r1) (.inl r2);unfold peq peq1 at h;split at h
  ·split at h
   ·rename_i hf;cases h;cases k4 r1;cases k4 r2;exact .inl ⟨hf.1,hf.2,rfl⟩
   ·cases h
  ·obtain ⟨a,vs,rfl,e1,q1⟩:=o9 s r1;obtain ⟨c,ws,rfl,e2,q2⟩:=o9 s r2;refine .inr (.inl ⟨a,c,vs,ws,rfl,rfl,SqL.of e1,SqL.of e2,?_⟩);split at h
   ·rename_i hl;obtain ⟨e,he,hb⟩:=Jh s ih h q1 q2;have hl':vs.length=ws.length:=by rw [q1.length,q2.length,hl]
    exact .inr ⟨hl',e,he,by rw [hb,<- hl',Nat.min_self]⟩
   ·rename_i hl;cases h;exact .inl ⟨by rw [q1.length,q2.length];exact hl,rfl⟩
  ·obtain ⟨a,vs,rfl,e1,q1⟩:=qM s r1;obtain ⟨c,ws,rfl,e2,q2⟩:=qM s r2;obtain ⟨d,ed,h1⟩:=bind_some h;cases h1;obtain ⟨e,he,hb⟩:=Jh s ih ed q1 q2;exact .inr (.inr (.inl ⟨a,c,vs,ws,rfl,rfl,SqT.of e1,SqT.of e2,e,he,by rw [hb,q1.length,q2.length]⟩))
  ·cases h;obtain ⟨a,vs,rfl,e1,q1⟩:=o9 s r1;obtain ⟨c,ws,rfl,e2,q2⟩:=qM s r2;exact .inr (.inr (.inr (.inl ⟨a,c,vs,ws,rfl,rfl,SqL.of e1,SqT.of e2,rfl⟩)))
  ·cases h;obtain ⟨a,vs,rfl,e1,q1⟩:=qM s r1;obtain ⟨c,ws,rfl,e2,q2⟩:=o9 s r2;exact .inr (.inr (.inr (.inr (.inl ⟨a,c,vs,ws,rfl,rfl,SqT.of e1,SqL.of e2,rfl⟩))))
  ·split at h
   ·rename_i hf;cases h;cases k4 r1;obtain ⟨c,ws,rfl,e2,q2⟩:=o9 s r2;exact .inr (.inr (.inr (.inr (.inr (.inl ⟨c,ws,hf,rfl,.inl (SqL.of e2),rfl⟩)))))
   ·cases h
  ·split at h
   ·rename_i hf;cases h;cases k4 r1;obtain ⟨c,ws,rfl,e2,q2⟩:=qM s r2;exact .inr (.inr (.inr (.inr (.inr (.inl ⟨c,ws,hf,rfl,.inr (SqT.of e2),rfl⟩)))))
   ·cases h
  ·split at h
   ·rename_i hf;cases h;cases k4 r2;obtain ⟨c,ws,rfl,e2,q2⟩:=o9 s r1;exact .inr (.inr (.inr (.inr (.inr (.inr ⟨c,ws,hf,rfl,.inl (SqL.of e2),rfl⟩)))))
   ·cases h
  ·split at h
   ·rename_i hf;cases h;cases k4 r2;obtain ⟨c,ws,rfl,e2,q2⟩:=qM s r1;exact .inr (.inr (.inr (.inr (.inr (.inr ⟨c,ws,hf,rfl,.inr (SqT.of e2),rfl⟩)))))
   ·cases h
  ·cases h
def pEq:PV->PV->Option PV:=λx y=>(peq 6 x y).bind λb=>some (.at (.bl b))
def pNe:PV->PV->Option PV:=λx y=>(peq 6 x y).bind λb=>some (.at (.bl (!b)))
instance :qV (rEqD K 6 false) pEq where
 h:=λ{x y z} e {Hs H v w} s a b {Q} q=>by
  obtain ⟨c,ec,e1⟩:=bind_some e;cases e1;exact ⟨c,Jg s 6 ec a b,q _ _ _ (.refl s) (rep_at.mpr rfl)⟩
instance :qV (rEqD K 6 true) pNe where
 h:=λ{x y z} e {Hs H v w} s a b {Q} q=>by
  obtain ⟨c,ec,e1⟩:=bind_some e;cases e1;exact ⟨c,Jg s 6 ec a b,q _ _ _ (.refl s) (rep_at.mpr rfl)⟩
class SemP (to:TO)(f:ME->Option (Option Int)):Prop where
 h:∀{ε y},f ε=some y->∀{Hs0 H0 Hs H σ},RS Hs0 H0 Hs H σ ε->∀{Q:Option Int->Hp->Prop},(∀ Hs' H',Ext Hs H Hs' H'->Q y H')->to σ H Q
def pNo:ME->Option (Option Int):=λ_=>some none
def pInt:PV->Option Int
 | .at (.int i)=>some i
 |_=>none
def pSo (a:M):ME->Option (Option Int):=λε=>(a ε).bind λx=>(pInt x).bind λi=>some (some i)
instance:SemP Kk pNo where
 h:=λe _ _ _ _ _ rs _ q=>by cases e;exact q _ _ (.refl rs.sub)
instance {a:M}[sa:c9 te a]:SemP (Km te) (pSo a) where
 h:=λe _ _ _ _ _ rs _ q=>by
  obtain ⟨x,ex,e1⟩:=bind_some e;obtain ⟨i,ei,e2⟩:=bind_some e1;cases e2;unfold pInt at ei;split at ei
  ·cases ei;exact sa.h ex rs λv Hs1 H1 x1 r1=>⟨_,k4 r1,q _ _ x1⟩
  ·cases ei
def jE (xs:List PV)(lo hi:Option Int):List PV:=(xs.drop (HT.sIx xs.length 0 lo)).take (HT.sIx xs.length xs.length hi-HT.sIx xs.length 0 lo)
theorem Reps.cut (r:Reps H xs vs)(lo hi:Option Int):Reps H (jE xs lo hi) (vA vs lo hi):=by unfold jE vA;rw [r.length];exact (r.drop _).take _
def vD (a:M)(l u:ME->Option (Option Int)):M:=λε=>(a ε).bind λx=>(l ε).bind λlo=>(u ε).bind λhi=>match x with
 | .lst xs=>some (.lst (jE xs lo hi))
 |_=>none
instance {tl th:TO}{a:M}[sa:c9 te a][sl:SemP tl l][su:SemP th u]:qU (tSl (rSlL K) te tl th) (vD a l u) where
 h:=λe _ _ _ _ _ rs _ q=>by
  obtain ⟨x,ex,e1⟩:=bind_some e;obtain ⟨lo,el,e2⟩:=bind_some e1;obtain ⟨hi,eu,e3⟩:=bind_some e2;split at e3
  ·cases e3;refine sa.h ex rs λv Hs1 H1 x1 r1=>sl.h el (rs.go x1) λHs2 H2 x2=>su.h eu ((rs.go x1).go x2) λHs3 H3 x3=>?_;obtain ⟨p,vs,rfl,e1,r⟩:=o9 x3.s3 ((r1.ext x2).ext x3);have x13:=x1.trans (x2.trans x3);exact ⟨p,vs,rfl,SqL.of e1,λd hd=>q d _ _ (x13.trans (.newO x3.s3 hd)) (x13.s2.free hd) (x3.s3.free hd) ⟨_,v6,r.cut lo hi⟩⟩
  ·cases e3
def qC (n:Nat):List PV->List PV
 |[]=>[]
 |x::xs=> .tup [.at (.int n),x]::qC (n+1) xs
theorem YR:∀{xs:List PV}{n i:Nat}{z:PV},(qC n xs)[i]?=some z->∃ x,xs[i]?=some x/\z = .tup [.at (.int ((n+i:Nat):Int)),x]
 |[],n,i,z,h=>by simp [qC] at h
 |x::xs,n,0,z,h=>by simp [qC] at h;exact ⟨x,rfl,h.symm⟩
 |x::xs,n,i+1,z,h=>by
  obtain ⟨y,h1,h2⟩:=YR (xs:=xs) (n:=n+1) (i:=i) (z:=z) (by simpa [qC] using h);exact ⟨y,by simpa using h1,by rw [h2,show n+1+i=n+(i+1) by omega]⟩
theorem YS:∀{xs:List PV}{n:Nat},(qC n xs).length=xs.length
 |[],_=>rfl
 |x::xs,n=>by simp [qC,YS]
theorem Cn {a:Addr}(h:Hs a=some (.lst vs))(r:Reps Hs xs vs):zD (Ite K a) (qC 0 xs) Hs where
 go:=λi x Hs1 H1 e g1 g2=>by
  obtain ⟨y,ey,rfl⟩:=YR e;obtain ⟨v,ev,rv⟩:=r.get ey;refine ⟨⟨vs,v,SqL.of (g2 _ _ (g1 _ _ h)),ev⟩,λw H2 z=>?_⟩;obtain ⟨p,u,hp,rfl,rfl,hu⟩:=z;have e1:=hu vs (SqL.of (g2 _ _ (g1 _ _ h)));rw [ev] at e1;cases e1;refine ⟨_,.new g2 hp,rep_tup.mpr ⟨p,_,rfl,v6,.cons (rep_at.mpr (by rw [Nat.zero_add])) (.one (rv.mono (g1.trans (Ext.new g2 hp).s1)))⟩⟩
 stop:=λHs1 H1 g1 g2=>⟨vs,SqL.of (g2 _ _ (g1 _ _ h)),by rw [r.length,YS];exact yU _⟩
def jG (a:MA):MA:=λε=>(a ε).bind λxs=>match xs with
 |[.lst ys]=>some (qC 0 ys)
 |_=>none
instance {a:MA}[sa:qP ta a]:zh (ZA K ta) (jG a) where
 h:=λe _ _ _ _ _ rs _ q=>by
  obtain ⟨xs,ex,e1⟩:=bind_some e;split at e1
  ·cases e1;refine sa.h ex rs λvs Hs1 H1 x1 r1=>?_;obtain ⟨v,r,rfl,p1,p2⟩:=reps_cons.mp r1;cases reps_nil.mp p2;obtain ⟨p,ws,rfl,hp,rw⟩:=rep_lst.mp p1;exact ⟨p,rfl,⟨ws,SqL.of (x1.s3 _ _ hp)⟩,q _ _ _ x1 (Cn hp rw)⟩
  ·cases e1
def qd:List PV->List PV->List PV
 |x::xs,y::ys=> .tup [x,y]::qd xs ys
 |_,_=>[]
theorem KN:∀{xs ys:List PV}{i:Nat}{z:PV},(qd xs ys)[i]?=some z->∃ x y,xs[i]?=some x/\ys[i]?=some y/\z = .tup [x,y]
 |[],_,i,z,h=>by simp [qd] at h
 |_::_,[],i,z,h=>by simp [qd] at h
 |x::xs,y::ys,0,z,h=>by simp [qd] at h;exact ⟨x,y,rfl,rfl,h.symm⟩
 |x::xs,y::ys,i+1,z,h=>by
  obtain ⟨u,v,h1,h2,h3⟩:=KN (xs:=xs) (ys:=ys) (i:=i) (z:=z) (by simpa [qd] using h);exact ⟨u,v,by simpa using h1,by simpa using h2,h3⟩
theorem KO:∀{xs ys:List PV},(qd xs ys).length=min xs.length ys.length
 |[],_=>by simp [qd]
 |_::_,[]=>by simp [qd]
 |x::xs,y::ys=>by simp [qd,KO,Nat.succ_min_succ]
theorem Ct {a b:Addr}(h:Hs a=some (.lst vs))(r:Reps Hs xs vs)(h':Hs b=some (.lst ws))(r':Reps Hs ys ws):zD (Itz K a b) (qd xs ys) Hs where
 go:=λi x Hs1 H1 e g1 g2=>by
  obtain ⟨y,z,ey,ez,rfl⟩:=KN e;obtain ⟨v,ev,rv⟩:=r.get ey;obtain ⟨w,ew,rw⟩:=r'.get ez;have q1:SqL K H1 a vs:=SqL.of (g2 _ _ (g1 _ _ h));have q2:SqL K H1 b ws:=SqL.of (g2 _ _ (g1 _ _ h'));refine ⟨⟨vs,ws,v,w,q1,q2,ev,ew⟩,λu H2 z=>?_⟩;obtain ⟨p,v',w',hp,rfl,rfl,hv,hw⟩:=z;have e1:=hv vs q1;have e2:=hw ws q2;rw [ev] at e1;rw [ew] at e2;cases e1;cases e2;have g3:=g1.trans (Ext.new (o:= .tup [v,w]) g2 hp).s1;exact ⟨_,.new g2 hp,rep_tup.mpr ⟨p,_,rfl,v6,.cons (rv.mono g3) (.one (rw.mono g3))⟩⟩
 stop:=λHs1 H1 g1 g2=>⟨vs,ws,SqL.of (g2 _ _ (g1 _ _ h)),SqL.of (g2 _ _ (g1 _ _ h')),by rw [r.length,r'.length,KO];omega⟩
def jH (a:MA):MA:=λε=>(a ε).bind λxs=>match xs with
 |[.lst ys,.lst zs]=>some (qd ys zs)
 |_=>none
instance {a:MA}[sa:qP ta a]:zh (iZip K ta) (jH a) where
 h:=λe _ _ _ _ _ rs _ q=>by
  obtain ⟨xs,ex,e1⟩:=bind_some e;split at e1
  ·cases e1;refine sa.h ex rs λvs Hs1 H1 x1 r1=>?_;obtain ⟨v,r,rfl,p1,p2⟩:=reps_cons.mp r1;obtain ⟨v',r',rfl,p3,p4⟩:=reps_cons.mp p2;cases reps_nil.mp p4;obtain ⟨p,ws,rfl,hp,rw1⟩:=rep_lst.mp p1;obtain ⟨p',ws',rfl,hp',rw2⟩:=rep_lst.mp p3;exact ⟨p,p',rfl,⟨ws,SqL.of (x1.s3 _ _ hp)⟩,⟨ws',SqL.of (x1.s3 _ _ hp')⟩,q _ _ _ x1 (Ct hp rw1 hp' rw2)⟩
  ·cases e1
structure RD (S:List Addr)(Hs0 H0 Hs H:Hp)(σ:St)(ε:ME):Prop where
 s1:Same Hs0 Hs
 s2:∀ b o,H0 b=some o->b∉S->H b=some o
 s3:Same Hs H
 s4:∀ b,H0 b≠none->Hs0 b=none->Hs b=none
 sh:∀(i:Nat)(x:PV),ε[i]?=some (.sh x)->∃ v,σ[i]?=some (some v)/\Rep Hs x v
 ow:∀(i:Nat)(x:PV),ε[i]?=some (.ow x)->∃ a,σ[i]?=some (some (.ref a))/\(H0 a=none∨a∈S)/\Hs a=none/\Top Hs H a x
 nd:∀(i j:Nat)(x y:PV)(a:Addr),ε[i]?=some (.ow x)->ε[j]?=some (.ow y)->σ[i]?=some (some (.ref a))->σ[j]?=some (some (.ref a))->i=j
 len:σ.length=ε.length
 pin:∀ a∈S,σ[0]?=some (some (.ref a))
 live:∀ a∈S,H a≠none
 str:∀ a∈S,∃ y,ε[0]?=some (.ow y)
 nb:∀(i:Nat)(x:PV),ε[i]?≠some (.bo x)
section
variable {S:List Addr}{Hs0 H0 Hs H Hs' H':Hp}{σ:St}{ε:ME}
theorem RD.rs (r:RD S Hs0 H0 Hs H σ ε):RS Hs Hs Hs H σ ε where
 ext:=⟨.refl _,r.s3,r.s3,λ_ h z=>absurd z h⟩
 sh:=r.sh
 ow:=λi x h=>by obtain ⟨a,h1,_,h3,h4⟩:=r.ow i x h;exact ⟨a,h1,h3,h3,h4⟩
 nd:=r.nd
 len:=r.len
 bo:=λi x h=>absurd h (r.nb i x)
theorem RD.there (r:RD S Hs0 H0 Hs H σ ε){b:Addr}(h:H0 b≠none):H b≠none:=by
 by_cases hS:b∈S
 ·exact r.live b hS
 ·cases q:H0 b with
  |none=>exact absurd q h
  |some o=>rw [r.s2 b o q hS];exact λz=>nomatch z
theorem RD.go (r:RD S Hs0 H0 Hs H σ ε)(e:Ext Hs H Hs' H'):RD S Hs0 H0 Hs' H' σ ε where
 s1:=r.s1.trans e.s1
 s2:=λb o h n=>e.s2 _ _ (r.s2 b o h n)
 s3:=e.s3
 s4:=λb h z=>e.s4 b (r.there h) (r.s4 b h z)
 sh:=λi x q=>by obtain ⟨v,a,b⟩:=r.sh i x q;exact ⟨v,a,b.mono e.s1⟩
 ow:=λi x q=>by
  obtain ⟨a,b,n0,n,t⟩:=r.ow i x q;exact ⟨a,b,n0,e.s4 a t.there n,t.mono e.s1 λo z=>e.s2 _ _ z⟩
 nd:=r.nd
 len:=r.len
 pin:=r.pin
 live:=λa h=>XM e.s2 (r.live a h)
 str:=r.str
 nb:=r.nb
theorem RD.change (r:RD S Hs0 H0 Hs H σ ε){i:Nat}{a:Addr}(hi:ε[i]?=some (.ow x))(ha:σ[i]?=some (some (.ref a)))(t:Top Hs (z5 H a o) a y):RD S Hs0 H0 Hs (z5 H a o) σ (ε.set i (.ow y)):=by
 obtain ⟨b,hb,n0,n,tx⟩:=r.ow i x hi;rw [ha] at hb;injection hb with hb;injection hb with hb;injection hb with hb;subst hb;have q:=(r.rs).change hi ha t;refine ⟨r.s1,λb u e hS=>?_,λb u e=>?_,r.s4,q.sh,λj z hz=>?_,q.nd,q.len,r.pin,λb hS=>?_,λb hS=>?_,vT r.nb λ_ z=>nomatch z⟩
 ·have hne:b≠a:=λz=>by
   rcases n0 with n0|n0
   ·rw [z,n0] at e;cases e
   ·exact hS (z▸n0)
  rw [z0 hne];exact r.s2 b u e hS
 ·rw [z0 (w4 e n)];exact r.s3 _ _ e
 ·obtain ⟨c,hc,m1,m2,tc⟩:=q.ow j z hz;refine ⟨c,hc,?_,m2,tc⟩;rw [yy] at hz;split at hz
  ·rename_i hij;rw [<- hij,ha] at hc;injection hc with hc;injection hc with hc;injection hc with hc;rw [<- hc];exact n0
  ·obtain ⟨d,hd,m0,_⟩:=r.ow j z hz;rw [hd] at hc;injection hc with hc;injection hc with hc;injection hc with hc;rw [<- hc];exact m0
 ·by_cases hba:b=a
  ·rw [hba,v6];exact λz=>nomatch z
  ·rw [z0 hba];exact r.live b hS
 ·obtain ⟨y',hy⟩:=r.str b hS;rw [yy];split
  ·rename_i h0;rw [if_pos (by rw [h0];exact (yz.mp hy).1)];exact ⟨y,rfl⟩
  ·exact ⟨y',hy⟩
theorem RD.put (r:RD S Hs0 H0 Hs H σ ε){i:Nat}(h:Rep Hs x v):RD S Hs0 H0 Hs H (σ.set (i+1) (some v)) (ε.set (i+1) (.sh x)):=by
 have q:=(r.rs).put (i:=i+1) h;refine ⟨r.s1,r.s2,r.s3,r.s4,q.sh,λj z hz=>?_,q.nd,q.len,λa hS=>by rw [yn (by omega)];exact r.pin a hS,r.live,λa hS=>by rw [yn (by omega)];exact r.str a hS,vT r.nb λ_ z=>nomatch z⟩;obtain ⟨c,hc,m1,m2,tc⟩:=q.ow j z hz;refine ⟨c,hc,?_,m2,tc⟩;rw [yy] at hz hc;split at hz
 ·split at hz<;>cases hz
 ·rename_i hij;rw [if_neg hij] at hc;obtain ⟨d,hd,m0,_⟩:=r.ow j z hz;rw [hd] at hc;injection hc with hc;injection hc with hc;injection hc with hc;rw [<- hc];exact m0
theorem RD.putO (r:RD S Hs0 H0 Hs H σ ε){i:Nat}{a:Addr}(h0:H0 a=none∨a∈S)(h1:Hs a=none)(h2:Top Hs H a x)(ne:∀(j:Nat)(y:PV),ε[j]?=some (.ow y)->σ[j]?≠some (some (.ref a))):RD S Hs0 H0 Hs H (σ.set (i+1) (some (.ref a))) (ε.set (i+1) (.ow x)):=by
 have q:=(r.rs).putO (i:=i+1) ⟨h1,h1,h2⟩ ne;refine ⟨r.s1,r.s2,r.s3,r.s4,q.sh,λj z hz=>?_,q.nd,q.len,λa hS=>by rw [yn (by omega)];exact r.pin a hS,r.live,λa hS=>by rw [yn (by omega)];exact r.str a hS,vT r.nb λ_ z=>nomatch z⟩;obtain ⟨c,hc,m1,m2,tc⟩:=q.ow j z hz;refine ⟨c,hc,?_,m2,tc⟩;rw [yy] at hz hc;split at hz
 ·rename_i hij;rw [if_pos hij] at hc;split at hc
  ·injection hc with hc;injection hc with hc;injection hc with hc;rw [<- hc];exact h0
  ·cases hc
 ·rename_i hij;rw [if_neg hij] at hc;obtain ⟨d,hd,m0,_⟩:=r.ow j z hz;rw [hd] at hc;injection hc with hc;injection hc with hc;injection hc with hc;rw [<- hc];exact m0
theorem RD.free0 (r:RD S Hs0 H0 Hs H σ ε){a:Addr}(h:H a=none):H0 a=none:=by
 cases q:H0 a with
 |none=>rfl
 |some o=>exact absurd h (r.there (by rw [q];exact λz=>nomatch z))
theorem RD.freeze (r:RD S Hs0 H0 Hs H σ ε)(i:Nat):∃ Hs',Same Hs Hs'/\RD S Hs0 H0 Hs' H σ (fz (i+1) ε):=by
 by_cases h:∃ x,ε[i+1]?=some (.ow x)
 ·obtain ⟨x,hi⟩:=h;obtain ⟨a,ha,n0,n,t⟩:=r.ow (i+1) x hi;have hS:a∉S:=λhS=>by
   obtain ⟨y,hy⟩:=r.str a hS;exact absurd (r.nd 0 (i+1) y x a hy hi (r.pin a hS) ha) (by omega)
  obtain ⟨o,ho,hr⟩:=t.rep n;have g:Same Hs (z5 Hs a o):=λb u e=>by rw [z0 (w4 e n)];exact e
  have ef:fz (i+1) ε=ε.set (i+1) (.sh x):=by unfold fz;rw [hi]
  have n0':H0 a=none:=n0.resolve_right hS;rw [ef];have dn:∀(j:Nat)(y:PV),(ε.set (i+1) (.sh x))[j]?=some (.ow y)->i+1≠j/\ε[j]?=some (.ow y):=λj y q=>by
   rw [yy] at q;split at q
   ·split at q<;>cases q
   ·rename_i hij;exact ⟨hij,q⟩
  refine ⟨z5 Hs a o,g,r.s1.trans g,r.s2,λb u e=>?_,λb h z=>?_,λj y q=>?_,λj y q=>?_,λj k z z' c h1 h2 h3 h4=>r.nd j k z z' c (dn j z h1).2 (dn k z' h2).2 h3 h4,by rw [yd,r.len],r.pin,r.live,(λb hb=>by rw [yn (by omega)];exact r.str b hb),vT r.nb λ_ z=>nomatch z⟩
  ·by_cases hb:b=a
   ·subst hb;rw [v6] at e;cases e;exact ho
   ·rw [z0 hb] at e;exact r.s3 _ _ e
  ·have hb:b≠a:=λe=>h (e▸n0');rw [z0 hb];exact r.s4 b h z
  ·rw [yy] at q;split at q
   ·rename_i hij;split at q
    ·injection q with q;injection q with q;subst q;exact ⟨.ref a,hij▸ha,hr⟩
    ·cases q
   ·obtain ⟨v,e,w⟩:=r.sh j y q;exact ⟨v,e,w.mono g⟩
  ·obtain ⟨hij,hq⟩:=dn j y q;obtain ⟨c,hc,m0,m,tc⟩:=r.ow j y hq;have hne:c≠a:=λe=>hij (r.nd (i+1) j x y a hi hq ha (e▸hc));exact ⟨c,hc,m0,by rw [z0 hne];exact m,tc.mono g λ_ e=>e⟩
 ·refine ⟨Hs,.refl _,?_⟩;unfold fz;split
  ·rename_i x hx;exact absurd ⟨x,hx⟩ h
  ·exact r
end
abbrev W:=ME->(PV->ME->Prop)->Prop
variable{a:W}
abbrev WA:=ME->(List PV->ME->Prop)->Prop
variable{r:WA}
abbrev WT:=ME->(Bool->ME->Prop)->Prop
abbrev WS:=ME->(ME->Prop)->(PV->ME->Prop)->Prop
variable{b:WS}
class SemW (te:TE)(w:W):Prop where
 h:∀{ε Q'},w ε Q'->∀{S Hs0 H0 Hs H σ},RD S Hs0 H0 Hs H σ ε->∀{Q:VK},(∀ y ε' v Hs' H',Q' y ε'->RD S Hs0 H0 Hs' H' σ ε'->Same Hs Hs'->Rep Hs' y v->Q v H')->te σ H Q
class jw (ta:TA)(w:WA):Prop where
 h:∀{ε Q'},w ε Q'->∀{S Hs0 H0 Hs H σ},RD S Hs0 H0 Hs H σ ε->∀{Q:List V->Hp->Prop},(∀ ys ε' vs Hs' H',Q' ys ε'->RD S Hs0 H0 Hs' H' σ ε'->Same Hs Hs'->Reps Hs' ys vs->Q vs H')->ta σ H Q
class zW (tt:TT)(w:WT):Prop where
 h:∀{ε Q'},w ε Q'->∀{S Hs0 H0 Hs H σ},RD S Hs0 H0 Hs H σ ε->∀{Q:Bool->Hp->Prop},(∀ b ε' Hs' H',Q' b ε'->RD S Hs0 H0 Hs' H' σ ε'->Same Hs Hs'->Q b H')->tt σ H Q
class SemWS (ts:TS)(w:WS):Prop where
 h:∀{ε N R},w ε N R->∀{S Hs0 H0 Hs H σ},RD S Hs0 H0 Hs H σ ε->∀{D:xb},(∀ ε' σ' Hs' H',N ε'->RD S Hs0 H0 Hs' H' σ' ε'->Same Hs Hs'->D.nx σ' H') ->
  (∀ y ε' σ' v Hs' H',R y ε'->RD S Hs0 H0 Hs' H' σ' ε'->Same Hs Hs'->Rep Hs' y v->D.rt v H')->ts D σ H
def wP (f:M):W:=λε Q=>∃ y,f ε=some y/\Q y ε
def wPT (f:MB):WT:=λε Q=>∃ y,f ε=some y/\Q y ε
instance (priority:=50){f:M}[s:SemE te f]:SemW te (wP f) where
 h:=λ⟨y,e,q⟩ _ _ _ _ _ _ r _ k=>s.h e r.rs λv Hs' H' x rv=>k y _ v Hs' H' q (r.go x) x.s1 rv
instance (priority:=50){f:MB}[s:qQ tt f]:zW tt (wPT f) where
 h:=λ⟨y,e,q⟩ _ _ _ _ _ _ r _ k=>s.h e r.rs λHs' H' x=>k y _ Hs' H' q (r.go x) x.s1
def qa (g:PV->PV->Option PV)(a b:W):W:=λε Q=>a ε λx ε1=>b ε1 λy ε2=>∃ z,g x y=some z/\Q z ε2
instance {r:R2}{g:PV->PV->Option PV}{ta tb:TE}{b:W}[sr:qV r g][sa:SemW ta a][sb:SemW tb b]:SemW (tOp r ta tb) (qa g a b) where
 h:=λh _ _ _ _ _ _ rd _ k=>sa.h h rd λx ε1 v Hs1 H1 h1 rd1 g1 r1=>sb.h h1 rd1 λy ε2 w Hs2 H2 h2 rd2 g2 r2=>by
  obtain ⟨z,ez,h2⟩:=h2;exact sr.h ez rd2.s3 (.inl (r1.mono g2)) (.inl r2) λu Hs3 H3 x3 r3=>k z ε2 u Hs3 H3 h2 (rd2.go x3) (g1.trans (g2.trans x3.s1)) r3
def wT (a:W):WT:=λε Q=>a ε λx ε1=>∃ b,pB x=some b/\Q b ε1
instance [sa:SemW te a]:zW (XO te) (wT a) where
 h:=λh _ _ _ _ _ _ rd _ k=>sa.h h rd λx ε1 v Hs1 H1 h1 rd1 g1 r1=>by
  obtain ⟨b,eb,h2⟩:=h1;cases vW eb;exact ⟨b,rep_at.mp r1,k b ε1 Hs1 H1 h2 rd1 g1⟩
def wAnd (a b:WT):WT:=λε Q=>a ε λc ε1=>if c=true then b ε1 Q else Q false ε1
instance {t u:TT}{a b:WT}[sa:zW t a][sb:zW u b]:zW (tAnd t u) (wAnd a b) where
 h:=λh _ _ _ _ _ _ rd _ k=>sa.h h rd λc ε1 Hs1 H1 h1 rd1 g1=>by
  cases c with
  |true=>exact qY (sb.h (by simpa using h1) rd1 λc2 ε2 Hs2 H2 h2 rd2 g2=>k c2 ε2 Hs2 H2 h2 rd2 (g1.trans g2))
  |false=>exact qX (k false ε1 Hs1 H1 (by simpa using h1) rd1 g1)
def i8:WA:=λε Q=>Q [] ε
def y3 (a:W)(r:WA):WA:=λε Q=>a ε λx ε1=>r ε1 λxs ε2=>Q (x::xs) ε2
instance:jw o5 i8 where
 h:=λh _ _ _ _ _ _ rd _ k=>k [] _ [] _ _ h rd (.refl _) .nil
instance [sa:SemW te a][sr:jw ta r]:jw (i7 te ta) (y3 a r) where
 h:=λh _ _ _ _ _ _ rd _ k=>sa.h h rd λx ε1 v Hs1 H1 h1 rd1 g1 r1=>sr.h h1 rd1 λxs ε2 vs Hs2 H2 h2 rd2 g2 r2=>k _ ε2 _ Hs2 H2 h2 rd2 (g1.trans g2) (.cons (r1.mono g2) r2)
def wg (a:WA):W:=λε Q=>a ε λxs ε1=>xs.length<=lim/\Q (.tup xs) ε1
instance {a:WA}[sa:jw ta a]:SemW (tTup ta) (wg a) where
 h:=λh _ _ _ _ _ _ rd _ k=>sa.h h rd λxs ε1 vs Hs1 H1 h1 rd1 g1 r1=>⟨qF (r1.length▸h1.1),λp hp=>k _ ε1 _ _ _ h1.2 (rd1.go (.new rd1.s3 hp)) (g1.trans (Ext.new rd1.s3 hp).s1) (rep_tup.mpr ⟨p,vs,rfl,v6,r1.mono (Ext.new rd1.s3 hp).s1⟩)⟩
def xZ:Sp:=λvs H Q _=>∃(a:Addr)(n m:Int),vs=[.ref a,.int m]/\H a=some (.lst [.int n])/\wj n m/\Q (.int (n % m)) (z5 H a (.lst [.int (n / m)]))
def u9 (n:Int):MSlot:= .ow (.lst [.at (.int n)])
def wTake (i:Nat)(a:W):W:=λε Q=>a ε λx ε1=>∃ n k,x = .at (.int k)/\ε1[i]?=some (u9 n)/\wj n k/\Q (.at (.int (n % k))) (ε1.set i (u9 (n / k)))
theorem RD.strm_at {i:Nat}(r:RD S Hs0 H0 Hs H σ ε)(h:ε[i]?=some (u9 n)):∃ a,σ[i]?=some (some (.ref a))/\H a=some (.lst [.int n])/\Hs a=none/\(H0 a=none∨a∈S):=by obtain ⟨a,ha,n0,n1,vs,hv,rv⟩:=r.ow i _ h;obtain ⟨v,w,rfl,p1,p2⟩:=reps_cons.mp rv;cases reps_nil.mp p2;cases rep_at.mp p1;exact ⟨a,ha,hv,n1,n0⟩
def xK (i:Nat):ME->Prop:=λε=>∃ n,ε[i]?=some (u9 n)
def i9 (i:Nat)(a:W):W:=λε Q=>xK i ε/\wTake i a ε Q
instance {i:Nat}[sa:SemW te a]:SemW (zC xZ [] E (i7 (c6 i) (i7 te o5))) (i9 i a) where
 h:=λh _ _ _ _ _ _ rd _ k=>by
  obtain ⟨⟨n0,hn0⟩,h⟩:=h;obtain ⟨p,hp,_⟩:=rd.strm_at hn0;refine ⟨_,hp,sa.h h rd λx ε1 v Hs1 H1 h1 rd1 g1 r1=>?_⟩;obtain ⟨n,m,rfl,hn,hc,h2⟩:=h1;obtain ⟨p',hp',hH,hs,_⟩:=rd1.strm_at hn;rw [hp] at hp';injection hp' with hp';injection hp' with hp';injection hp' with hp';subst hp';cases rep_at.mp r1;exact ⟨p,n,m,rfl,hH,hc,k _ _ _ _ _ h2 (rd1.change hn hp ⟨_,v6,.one (rep_at.mpr rfl)⟩) g1 (rep_at.mpr rfl)⟩
structure ExtD (p:Addr)(Hs H Hs' H':Hp):Prop where
 s1:Same Hs Hs'
 s2:∀ b o,H b=some o->b≠p->H' b=some o
 s3:Same Hs' H'
 s4:∀ b,H b≠none->Hs b=none->Hs' b=none
def spD (pre:List PV->Prop)(R:List PV->PV->Prop):Sp:=λvs H Q _=>∃ Hs a n xs ws,vs = .ref a::ws/\Same Hs H/\Hs a=none/\H a=some (.lst [.int n])/\Reps Hs xs ws/\pre xs /\
 ∀ y v n' Hs' H',R xs y->ExtD a Hs H Hs' H'->Hs' a=none->H' a=some (.lst [.int n'])->Rep Hs' y v->Q v H'
section
variable {S:List Addr}{Hs0 H0 Hs H Hs' H':Hp}{σ:St}{ε:ME}
theorem RD.drawn (r:RD S Hs0 H0 Hs H σ ε){i:Nat}{n':Int}{p:Addr}(hi:ε[i]?=some (u9 n))(hp:σ[i]?=some (some (.ref p)))(x:ExtD p Hs H Hs' H')(np:Hs' p=none)(ep:H' p=some (.lst [.int n'])):RD S Hs0 H0 Hs' H' σ (ε.set i (u9 n')):=by
 obtain ⟨p',hp',hH,hs,h0⟩:=r.strm_at hi;rw [hp] at hp';injection hp' with hp';injection hp' with hp';injection hp' with hp';subst hp';have up:∀(j:Nat)(z:PV),(ε.set i (u9 n'))[j]?=some (.ow z)->(j=i/\z = .lst [.at (.int n')])∨(j≠i/\ε[j]?=some (.ow z)):=λj z q=>by
  rw [yy] at q;split at q
  ·rename_i hij;split at q
   ·injection q with q;unfold u9 at q;injection q with q;exact .inl ⟨hij.symm,q.symm⟩
   ·cases q
  ·rename_i hij;exact .inr ⟨Ne.symm hij,q⟩
 have wasOw:∀(j:Nat)(z:PV),(ε.set i (u9 n'))[j]?=some (.ow z)->∃ z',ε[j]?=some (.ow z'):=λj z q=>by
  rcases up j z q with ⟨rfl,_⟩|⟨_,q⟩
  ·exact ⟨_,hi⟩
  ·exact ⟨z,q⟩
 refine ⟨r.s1.trans x.s1,λb o e hS=>x.s2 b o (r.s2 b o e hS) λz=>?_,x.s3,λb h z=>x.s4 b (r.there h) (r.s4 b h z),λj z q=>?_,λj z q=>?_,λj k z z' c h1 h2 h3 h4=>?_,by rw [yd,r.len],r.pin,λb hS=>?_,λb hS=>?_,vT r.nb λ_ z=>by unfold u9 at z;cases z⟩
 ·rcases h0 with h0|h0
  ·rw [z,h0] at e;cases e
  ·exact hS (z▸h0)
 ·rw [yy] at q;split at q
  ·split at q
   ·unfold u9 at q;cases q
   ·cases q
  ·obtain ⟨v,h1,h2⟩:=r.sh j z q;exact ⟨v,h1,h2.mono x.s1⟩
 ·rcases up j z q with ⟨rfl,rfl⟩|⟨hij,q⟩
  ·exact ⟨p,hp,h0,np,_,ep,.one (rep_at.mpr rfl)⟩
  ·obtain ⟨c,hc,m0,m1,tc⟩:=r.ow j z q;have hne:c≠p:=λe=>hij (r.nd j i z _ p q hi (e▸hc) hp);exact ⟨c,hc,m0,x.s4 c tc.there m1,tc.mono x.s1 λo e=>x.s2 c o e hne⟩
 ·obtain ⟨w1,q1⟩:=wasOw j z h1;obtain ⟨w2,q2⟩:=wasOw k z' h2;exact r.nd j k w1 w2 c q1 q2 h3 h4
 ·by_cases hb:b=p
  ·rw [hb,ep];exact λz=>nomatch z
  ·have:=r.live b hS;cases q:H b with
   |none=>exact absurd q this
   |some o=>rw [x.s2 b o q hb];exact λz=>nomatch z
 ·obtain ⟨y',hy⟩:=r.str b hS;rw [yy];split
  ·rename_i h0;rw [if_pos (by rw [h0];exact (yz.mp hy).1)];exact ⟨_,rfl⟩
  ·exact ⟨y',hy⟩
end
def xa (i:Nat)(pre:List PV->Prop)(R:List PV->PV->Prop)(as:WA):W:=λε Q=>xK i ε/\as ε λxs ε1=>xK i ε1/\pre xs/\∀ y n',R xs y->Q y (ε1.set i (u9 n'))
instance {i:Nat}{as:WA}[sa:jw ta as]:SemW (zC (spD pre R) [] E (i7 (c6 i) ta)) (xa i pre R as) where
 h:=λh _ _ _ _ _ _ rd _ k=>by
  obtain ⟨⟨n0,hn0⟩,h⟩:=h;obtain ⟨p,hp,_⟩:=rd.strm_at hn0;refine ⟨_,hp,sa.h h rd λxs ε1 vs Hs1 H1 h1 rd1 g1 r1=>?_⟩;obtain ⟨⟨n,hn⟩,hpre,h2⟩:=h1;obtain ⟨p',hp',hH,hs,_⟩:=rd1.strm_at hn;rw [hp] at hp';injection hp' with hp';injection hp' with hp';injection hp' with hp';subst hp';refine ⟨Hs1,p,n,xs,vs,by rw [yk],rd1.s3,hs,hH,r1,hpre,λy v n' Hs' H' hR x np ep rv=>?_⟩;exact k y _ v Hs' H' (h2 y n' hR) (rd1.drawn hn hp x np ep) (g1.trans x.s1) rv
def qN:WS:=λε N _=>N ε
def wSeq (a b:WS):WS:=λε N R=>a ε (λε1=>b ε1 N R) R
def p6 (i:Nat)(a:W):WS:=λε N _=>a ε λx ε1=>N (ε1.set i (.sh x))
def VS (i:Nat)(f:M):WS:=λε N _=>∃ x,f ε=some x/\N (ε.set i (.ow x))
def qy (a:W):WS:=λε _ R=>a ε R
def KJ (a:W):WS:=λε N _=>a ε λ_ ε1=>N ε1
def qx (c:WT)(a b:WS):WS:=λε N R=>c ε λk ε1=>if k=true then a ε1 N R else b ε1 N R
def wFz (i:Nat)(a:WS):WS:=λε N R=>a (fz i ε) N R
def Qr (i:Nat)(a:W):WS:=λε N _=>(∃ xs,ε[i]?=some (.ow (.lst xs)))/\a ε λx ε1=>∃ xs,ε1[i]?=some (.ow (.lst xs))/\xs.length<=lim/\N (ε1.set i (.ow (.lst (xs++[x]))))
instance:SemWS VD qN where
 h:=λh _ _ _ _ _ _ rd _ k _=>k _ _ _ _ h rd (.refl _)
instance {u:TS}{a:WS}[sa:SemWS t a][sb:SemWS u b]:SemWS (tSeq t u) (wSeq a b) where
 h:=λh _ _ _ _ _ _ rd _ k r=>sa.h h rd (λε1 σ1 Hs1 H1 h1 rd1 g1=>sb.h h1 rd1 (λε2 σ2 Hs2 H2 h2 rd2 g2=>k ε2 σ2 Hs2 H2 h2 rd2 (g1.trans g2)) λy ε2 σ2 v Hs2 H2 h2 rd2 g2 rv=>r y ε2 σ2 v Hs2 H2 h2 rd2 (g1.trans g2) rv) r
instance {i:Nat}[sa:SemW te a]:SemWS (zT te (qu (i+1))) (p6 (i+1) a) where
 h:=λh _ _ _ _ _ _ rd _ k _=>sa.h h rd λx ε1 v Hs1 H1 h1 rd1 g1 r1=>k _ _ _ _ h1 (rd1.put r1) g1
instance {i:Nat}{f:M}[sa:qU te f]:SemWS (zT te (qu (i+1))) (VS (i+1) f) where
 h:=λ⟨x,e,h⟩ _ _ _ _ _ _ rd _ k _=>sa.h e rd.rs λa Hs1 H1 x1 n n' t=>k _ _ _ _ h ((rd.go x1).putO (.inl (rd.free0 n)) n' t λj y hj z=>by
  obtain ⟨b,hb,_,_,tb⟩:=rd.ow j y hj;rw [z] at hb;injection hb with hb;injection hb with hb;injection hb with hb;subst hb;exact tb.there n) x1.s1
instance [sa:SemW te a]:SemWS (tRet te) (qy a) where
 h:=λh _ _ _ _ _ _ rd _ _ r=>sa.h h rd λx ε1 v Hs1 H1 h1 rd1 g1 r1=>r x ε1 _ v Hs1 H1 h1 rd1 g1 r1
instance [sa:SemW te a]:SemWS (we te) (KJ a) where
 h:=λh _ _ _ _ _ _ rd _ k _=>sa.h h rd λx ε1 v Hs1 H1 h1 rd1 g1 r1=>k ε1 _ Hs1 H1 h1 rd1 g1
instance {t:TT}{ta:TS}{c:WT}{a:WS}[sc:zW t c][sa:SemWS ta a][sb:SemWS tb b]:SemWS (tIfS t ta tb) (qx c a b) where
 h:=λh _ _ _ _ _ _ rd _ k r=>sc.h h rd λc ε1 Hs1 H1 h1 rd1 g1=>by
  cases c with
  |true=>exact qY (sa.h (by simpa using h1) rd1 (λε2 σ2 Hs2 H2 h2 rd2 g2=>k ε2 σ2 Hs2 H2 h2 rd2 (g1.trans g2)) λy ε2 σ2 v Hs2 H2 h2 rd2 g2 rv=>r y ε2 σ2 v Hs2 H2 h2 rd2 (g1.trans g2) rv)
  |false=>exact qX (sb.h (by simpa using h1) rd1 (λε2 σ2 Hs2 H2 h2 rd2 g2=>k ε2 σ2 Hs2 H2 h2 rd2 (g1.trans g2)) λy ε2 σ2 v Hs2 H2 h2 rd2 g2 rv=>r y ε2 σ2 v Hs2 H2 h2 rd2 (g1.trans g2) rv)
instance {i:Nat}{a:WS}[sa:SemWS t a]:SemWS t (wFz (i+1) a) where
 h:=λh _ _ _ _ _ _ rd _ k r=>by
  obtain ⟨Hs',g,rd'⟩:=rd.freeze i;exact sa.h h rd' (λε2 σ2 Hs2 H2 h2 rd2 g2=>k ε2 σ2 Hs2 H2 h2 rd2 (g.trans g2)) λy ε2 σ2 v Hs2 H2 h2 rd2 g2 rv=>r y ε2 σ2 v Hs2 H2 h2 rd2 (g.trans g2) rv
instance {i:Nat}[sa:SemW te a]:SemWS (we (tBM K "list" Gw (c6 i) (i7 te o5))) (Qr i a) where
 h:=λh _ _ _ _ _ _ rd _ k _=>by
  obtain ⟨⟨xs0,hx0⟩,h⟩:=h;obtain ⟨p,hp,n0,n,vs,hv,rv⟩:=rd.ow i _ hx0;refine ⟨_,hp,.inl ⟨rfl,vs,SqL.of hv⟩,sa.h h rd λx ε1 v Hs1 H1 h1 rd1 g1 r1=>?_⟩;obtain ⟨xs,hx,hl,h2⟩:=h1;obtain ⟨p',hp',_,n1,ws,hw,rw⟩:=rd1.ow i _ hx;rw [hp] at hp';injection hp' with hp';injection hp' with hp';injection hp' with hp';subst hp';exact ⟨p,ws,v,rfl,rfl,hw,QY (by rw [rw.length];exact hl),k _ _ _ _ h2 (rd1.change hx hp ⟨_,v6,rw.append (.one r1)⟩) g1⟩
def wPop (i:Nat)(a:W):W:=λε Q=>(∃ xs,ε[i]?=some (.ow (.lst xs)))/\a ε λx ε1=>∃ xs k y,ε1[i]?=some (.ow (.lst xs))/\x = .at (.int k)/\0<=k/\k<xs.length/\xs.length<=lim/\xs[k.toNat]?=some y/\Q y (ε1.set i (.ow (.lst (xs.eraseIdx k.toNat))))
theorem Reps.eraseIdx {H:Hp}:∀(i:Nat){xs:List PV}{vs:List V},Reps H xs vs->Reps H (xs.eraseIdx i) (vs.eraseIdx i)
 |i,[],vs,h=>by rw [reps_nil.mp h];exact .nil
 |0,x::xs,vs,h=>by obtain ⟨v,r,rfl,p,q⟩:=reps_cons.mp h;exact q
 |i+1,x::xs,vs,h=>by obtain ⟨v,r,rfl,p,q⟩:=reps_cons.mp h;exact .cons p (Reps.eraseIdx i q)
instance {i:Nat}[sa:SemW te a]:SemW (tBM K "list" Jo (c6 i) (i7 te o5)) (wPop i a) where
 h:=λh _ _ _ _ _ _ rd _ k=>by
  obtain ⟨⟨xs0,hx0⟩,h⟩:=h;obtain ⟨p,hp,n0,n,vs,hv,rv⟩:=rd.ow i _ hx0;refine ⟨_,hp,.inl ⟨rfl,vs,SqL.of hv⟩,sa.h h rd λx ε1 v Hs1 H1 h1 rd1 g1 r1=>?_⟩;obtain ⟨xs,j,y,hx,rfl,j0,j1,hl,hy,h2⟩:=h1;obtain ⟨p',hp',_,n1,ws,hw,rw⟩:=rd1.ow i _ hx;rw [hp] at hp';injection hp' with hp';injection hp' with hp';injection hp' with hp';subst hp';cases rep_at.mp r1;obtain ⟨u,hu,ru⟩:=rw.get hy;have hlim:lim=1000000:=rfl;refine ⟨p,ws,j,j.toNat,u,rfl,rfl,hw,by omega,by omega,?_,hu,k _ _ _ _ _ h2 (rd1.change hx hp ⟨_,v6,rw.eraseIdx j.toNat⟩) g1 ru⟩;unfold seqIndex?;have e1:(if j<0 then j+(ws.length:Int) else j)=j:=if_neg (by omega);simp only [e1];rw [if_pos];rw [rw.length];simp only [yf,decide_eq_true_eq];exact ⟨j0,j1⟩
class SemWI (ti:TI)(w:WA):Prop where
 h:∀{ε Q'},w ε Q'->∀{S Hs0 H0 Hs H σ},RD S Hs0 H0 Hs H σ ε->∀{R:It->Hp->Prop},(∀ xs ε' J Hs' H',Q' xs ε'->RD S Hs0 H0 Hs' H' σ ε'->Same Hs Hs'->zD J xs Hs'->R J H')->ti σ H R
def wIp (f:MA):WA:=λε Q=>∃ xs,f ε=some xs/\Q xs ε
instance (priority:=50){ti:TI}{f:MA}[s:zh ti f]:SemWI ti (wIp f) where
 h:=λ⟨xs,e,q⟩ _ _ _ _ _ _ r _ k=>s.h e r.rs λJ Hs' H' x ok=>k xs _ J Hs' H' q (r.go x) x.s1 ok
class SemWG (tg:TG)(g:MG):Prop where
 h:∀{x ε ε'},g x ε=some ε'->∀{S Hs0 H0 Hs H σ v},RD S Hs0 H0 Hs H σ ε->Rep Hs x v->∀{Q:St->Hp->Prop},(∀ σ',RD S Hs0 H0 Hs H σ' ε'->Q σ' H)->tg v σ H Q
instance {i:Nat}:SemWG (qu (i+1)) (v5 (i+1)) where
 h:=λe _ _ _ _ _ _ _ rd r _ q=>by cases e;exact q _ (rd.put r)
def Qs (g:MG)(f:WS):List PV->WS
 |[]=>λε N _=>N ε
 |x::xs=>λε N R=>∃ ε1,g x ε=some ε1/\f ε1 (λε2=>Qs g f xs ε2 N R) R
def wFor (it:WA)(g:MG)(f:WS):WS:=λε N R=>it ε λxs ε1=>Qs g f xs ε1 N R
theorem RD.rebase (r:RD S Hs0 H0 Hs H σ ε):RD S Hs H0 Hs H σ ε :=
 ⟨.refl _,r.s2,r.s3,λ_ _ z=>z,r.sh,r.ow,r.nd,r.len,r.pin,r.live,r.str,r.nb⟩
theorem RD.unbase {Hb Hx:Hp}(b:RD S Hs0 H0 Hb Hx σ ε)(r:RD S Hb H0 Hs H σ' ε'):RD S Hs0 H0 Hs H σ' ε' :=
 ⟨b.s1.trans r.s1,r.s2,r.s3,λc h z=>r.s4 c h (b.s4 c h z),r.sh,r.ow,r.nd,r.len,r.pin,r.live,r.str,r.nb⟩
instance {it:WA}{g:MG}{f:WS}[si:SemWI wi it][sg:SemWG tg g][sf:SemWS tb f]:SemWS (tFor wi tg tb) (wFor it g f) where
 h:=λ{ε N R} h S Hs0 H0 _ _ _ rd D k rt=>si.h h rd λxs ε1 J Hs1 H1 h1 rd1 g1 ok=>by
  refine ⟨λn m σ H=>m=xs.length-n/\n<=xs.length/\∃ Hs ε,RD S Hs1 H0 Hs H σ ε/\Qs g f (xs.drop n) ε N R,⟨xs.length,by simp,yo _,Hs1,ε1,rd1.rebase,h1⟩,?_⟩;rintro n m σ H ⟨rfl,hn,Hs,ε2,r2,h2⟩;by_cases hlt:n<xs.length
  ·have hd:xs.drop n=xs[n]::xs.drop (n+1):=ya hlt;rw [hd] at h2;obtain ⟨ε3,e3,h3⟩:=h2;obtain ⟨go,yl⟩:=ok.go n xs[n] Hs H (by simp [hlt]) r2.s1 r2.s3;refine .inr ⟨go,λσ' H'=>n+1<=xs.length/\∃ Hs ε,RD S Hs1 H0 Hs H' σ' ε/\Qs g f (xs.drop (n+1)) ε N R,λσ' H' p=>⟨xs.length-(n+1),by omega,rfl,p.1,p.2⟩,λv H3 y=>?_⟩;obtain ⟨Hs3,x3,r3⟩:=yl v H3 y;refine sg.h e3 (r2.go x3) r3 λσ4 rd4=>sf.h h3 rd4 (λε5 σ5 Hs5 H5 h5 rd5 g5=>⟨hlt,Hs5,ε5,rd5,h5⟩) λy ε5 σ5 v Hs5 H5 h5 rd5 g5 rv=>rt y ε5 σ5 v Hs5 H5 h5 (rd1.unbase rd5) (g1.trans rd5.s1) rv
  ·have en:n=xs.length:=by omega
   subst en;rw [uA] at h2;exact .inl ⟨ok.stop Hs H r2.s1 r2.s3,k _ _ _ _ h2 (rd1.unbase r2) (g1.trans r2.s1)⟩
def qf:List (Option Nat)->ME->ME->ME
 |some i::cap,s::ε2,ε1=>(qf cap ε2 ε1).set i s
 |none::cap,_::ε2,ε1=>qf cap ε2 ε1
 |_,_,ε1=>ε1
theorem Qp:∀(cap:List (Option Nat))(ε2 ε1:ME),(qf cap ε2 ε1).length=ε1.length
 |some i::cap,s::ε2,ε1=>by unfold qf;rw [yd,Qp]
 |none::cap,_::ε2,ε1=>by unfold qf;exact Qp cap ε2 ε1
 |[],_,_=>rfl
 |some _::_,[],_=>rfl
 |none::_,[],_=>rfl
theorem VI:∀(cap:List (Option Nat))(ε2 ε1:ME)(i:Nat),some i∉cap->(qf cap ε2 ε1)[i]?=ε1[i]?
 |some k::cap,s::ε2,ε1,i,h=>by
  unfold qf;rw [yn (λz=>h (by rw [z];exact yQ))];exact VI cap ε2 ε1 i λz=>h (yN _ z)
 |none::cap,_::ε2,ε1,i,h=>by unfold qf;exact VI cap ε2 ε1 i λz=>h (yN _ z)
 |[],_,_,_,_=>rfl
 |some _::_,[],_,_,_=>rfl
 |none::_,[],_,_,_=>rfl
theorem VH:∀(cap:List (Option Nat))(ε2 ε1:ME)(i:Nat),cap.length=ε2.length->some i∈cap->i<ε1.length->(cap.filterMap id).Nodup->∃ j:Nat,cap[j]?=some (some i)/\(qf cap ε2 ε1)[i]?=ε2[j]?
 |some k::cap,s::ε2,ε1,i,hl,h,hi,nd=>by
  rw [List.filterMap_cons_some (by rfl)] at nd;by_cases e:k=i
  ·subst e;refine ⟨0,rfl,?_⟩;unfold qf;rw [ug (by rw [Qp];exact hi)];rfl
  ·obtain ⟨j,h1,h2⟩:=VH cap ε2 ε1 i (by simpa using hl) (by rcases yP.mp h with z|z;exact absurd (Option.some.inj z).symm e;exact z) hi (yx.mp nd).2;refine ⟨j+1,by simpa using h1,?_⟩;unfold qf;rw [yn e];simpa using h2
 |none::cap,s::ε2,ε1,i,hl,h,hi,nd=>by
  rw [List.filterMap_cons_none (by rfl)] at nd;obtain ⟨j,h1,h2⟩:=VH cap ε2 ε1 i (by simpa using hl) (by rcases yP.mp h with z|z;exact nomatch z;exact z) hi nd;exact ⟨j+1,by simpa using h1,by unfold qf;simpa using h2⟩
 |[],_,_,_,_,h,_,_=>nomatch h
 |some _::_,[],_,_,hl,_,_,_=>by simp at hl
 |none::_,[],_,_,hl,_,_,_=>by simp at hl
def rst:List Nat->ME->ME
 |[],ε=>ε
 |t::ts,ε=>(rst ts ε).set t .no
theorem GT:∀(ts:List Nat)(ε:ME),(rst ts ε).length=ε.length
 |[],_=>rfl
 |t::ts,ε=>by unfold rst;rw [yd,GT]
theorem GS:∀(ts:List Nat)(ε:ME)(i:Nat)(s:MSlot),(rst ts ε)[i]?=some s->s = .no∨(i∉ts/\ε[i]?=some s)
 |[],_,_,_,h=> .inr ⟨yi,h⟩
 |t::ts,ε,i,s,h=>by
  unfold rst at h;rw [yy] at h;split at h
  ·split at h
   ·cases h;exact .inl rfl
   ·cases h
  ·rename_i hne;rcases GS ts ε i s h with z|⟨z1,z2⟩
   ·exact .inl z
   ·exact .inr ⟨λm=>by rcases yP.mp m with m|m;exact hne m.symm;exact z1 m,z2⟩
theorem RD.reset (r:RD [] Hs0 H0 Hs H σ' ε)(b:But ts σ σ'):RD [] Hs0 H0 Hs H σ (rst ts ε):=by
 have at1:∀(i:Nat)(s:MSlot),(rst ts ε)[i]?=some s->s = .no∨(σ'[i]?=σ[i]?/\ε[i]?=some s):=λi s h=>by
  rcases GS ts ε i s h with z|⟨z1,z2⟩
  ·exact .inl z
  ·exact .inr ⟨b.2 i z1,z2⟩
 refine ⟨r.s1,r.s2,r.s3,r.s4,λi x h=>?_,λi x h=>?_,λi j x y a h1 h2 h3 h4=>?_,by rw [GT,<- r.len,b.1],(λ_ z=>nomatch z),(λ_ z=>nomatch z),(λ_ z=>nomatch z),λi x h=>by
  rcases at1 i _ h with z|⟨_,z2⟩
  ·cases z
  ·exact r.nb i x z2⟩
 ·rcases at1 i _ h with z|⟨z1,z2⟩
  ·cases z
  ·rw [<- z1];exact r.sh i x z2
 ·rcases at1 i _ h with z|⟨z1,z2⟩
  ·cases z
  ·rw [<- z1];exact r.ow i x z2
 ·rcases at1 i _ h1 with z|⟨z1,z2⟩
  ·cases z
  ·rcases at1 j _ h2 with w|⟨w1,w2⟩
   ·cases w
   ·exact r.nd i j x y a z2 w2 (z1.trans h3) (w1.trans h4)
class Wa (tg:TG)(ts:outParam (List Nat))(g:MG):Prop where
 h:∀{x ε ε'},g x ε=some ε'->∀{Hs0 H0 Hs H σ v},RD [] Hs0 H0 Hs H σ ε->Rep Hs x v->∀{Q:St->Hp->Prop},(∀ σ',RD [] Hs0 H0 Hs H σ' ε'->But ts σ σ'->Q σ' H)->tg v σ H Q
theorem RD.put0 (r:RD [] Hs0 H0 Hs H σ ε){i:Nat}(h:Rep Hs x v):RD [] Hs0 H0 Hs H (σ.set i (some v)) (ε.set i (.sh x)):=by
 have q:=(r.rs).put (i:=i) h;refine ⟨r.s1,r.s2,r.s3,r.s4,q.sh,λj z hz=>?_,q.nd,q.len,(λ_ z=>nomatch z),(λ_ z=>nomatch z),(λ_ z=>nomatch z),vT r.nb λ_ z=>nomatch z⟩;obtain ⟨c,hc,m1,m2,tc⟩:=q.ow j z hz;refine ⟨c,hc,?_,m2,tc⟩;rw [yy] at hz hc;split at hz
 ·split at hz<;>cases hz
 ·rename_i hij;rw [if_neg hij] at hc;obtain ⟨d,hd,m0,_⟩:=r.ow j z hz;rw [hd] at hc;injection hc with hc;injection hc with hc;injection hc with hc;rw [<- hc];exact m0
instance {i:Nat}:Wa (qu i) [i] (v5 i) where
 h:=λe _ _ _ _ _ _ rd r _ q=>by
  cases e;exact q _ (rd.put0 r) ⟨yd,λj hj=>yn λz=>hj (by rw [<- z];exact yR.mpr rfl)⟩
def jr (g:MG)(c:WT)(f:W)(ts:List Nat):List PV->List PV->ME->(List PV->ME->Prop)->Prop
 |[],ys,ε,Q=>Q ys ε
 |x::xs,ys,ε,Q=>∃ ε1,g x ε=some ε1/\c ε1 λb ε2=>if b=true then f ε2 λy ε3=>jr g c f ts xs (ys++[y]) (rst ts ε3) Q else jr g c f ts xs ys (rst ts ε2) Q
def zU:WT:=λε Q=>Q true ε
instance:zW Qn zU where
 h:=λh _ _ _ _ _ _ rd _ k=>k true _ _ _ h rd (.refl _)
def jq (cap:List (Option Nat))(ts:List Nat)(it:WA)(g:MG)(c:WT)(f:W):W:=λε Q=>it ε λxs ε1=>jD cap ts=true/\xs.length<=lim /\
 jr g c f ts xs [] (s9 cap ε1) λys ε2=>((∃ y:PV,ε1[0]?=some (MSlot.ow y))->∃ y:PV,(qf cap ε2 ε1)[0]?=some (MSlot.ow y))/\Q (.lst ys) (qf cap ε2 ε1)
noncomputable def xm (σ:St)(ε:ME)(H:Hp):Hp:=λb=>open Classical in if ∃(i:Nat)(x:PV),ε[i]?=some (MSlot.ow x)/\σ[i]?=some (some (V.ref b)) then none else H b
theorem ZK {b:Addr}(h:xm σ ε H b=some o):H b=some o/\∀(i:Nat)(x:PV),ε[i]?=some (MSlot.ow x)->σ[i]?≠some (some (V.ref b)):=by
 unfold xm at h;split at h
 ·cases h
 ·rename_i hn;exact ⟨h,λi x h1 h2=>hn ⟨i,x,h1,h2⟩⟩
theorem UC {b:Addr}(h:xm σ ε H b=none):H b=none∨∃(i:Nat)(x:PV),ε[i]?=some (MSlot.ow x)/\σ[i]?=some (some (V.ref b)):=by
 unfold xm at h;split at h
 ·rename_i hn;exact .inr hn
 ·exact .inl h
theorem BH {cap:List (Option Nat)}(nb:∀(i:Nat)(x:PV),ε[i]?≠some (.bo x)):∀(i:Nat)(x:PV),(s9 cap ε)[i]?≠some (.bo x):=λi x h=>by
 unfold s9 at h;rw [yM] at h;cases ho:cap[i]? with
 |none=>rw [ho] at h;cases h
 |some o =>
  rw [ho] at h;cases o with
  |none=>cases h
  |some k =>
   cases hk:ε[k]? with
   |none=>simp only [uM,hk,ua] at h;cases h
   |some s=>simp only [uM,hk,Option.getD_some] at h;cases h;exact nb k x hk
theorem RD.block {cap:List (Option Nat)}(hc:(cap.filterMap id).Nodup)(r:RD S Hs0 H0 Hs H σ ε):RD [] Hs (xm (b7 cap σ) (s9 cap ε) H) Hs H (b7 cap σ) (s9 cap ε):=by have q:=(r.rs).cap hc;refine ⟨.refl _,λb o e _=>(ZK e).1,r.s3,λ_ _ z=>z,q.sh,λi x h=>?_,q.nd,q.len,(λ_ z=>nomatch z),(λ_ z=>nomatch z),(λ_ z=>nomatch z),BH r.nb⟩;obtain ⟨a,h1,h2,h3,h4⟩:=q.ow i x h;refine ⟨a,h1,.inl ?_,h3,h4⟩;unfold xm;rw [if_pos ⟨i,x,h,h1⟩]
theorem zX {cap:List (Option Nat)}{i k:Nat}(h:cap[i]?=some (some k))(e:(b7 cap σ)[i]?=some (some v)):σ[k]?=some (some v):=by
 unfold b7 at e;rw [yM,h] at e;simp only [uM,yB,Option.some.injEq] at e;cases hs:σ[k]? with
 |none=>rw [hs] at e;cases e
 |some o=>rw [hs] at e;simp at e;rw [e]
theorem Yu {cap:List (Option Nat)}{i:Nat}(h:(s9 cap ε)[i]?=some (.ow x)):∃ k:Nat,cap[i]?=some (some k)/\ε[k]?=some (.ow x):=by
 unfold s9 at h;rw [yM] at h;cases ho:cap[i]? with
 |none=>rw [ho] at h;cases h
 |some o =>
  rw [ho] at h;cases o with
  |none=>cases h
  |some k =>
   cases hk:ε[k]? with
   |none=>simp only [uM,hk,ua] at h;cases h
   |some s=>simp only [uM,hk,Option.getD_some] at h;cases h;exact ⟨k,rfl,hk⟩
theorem RD.unblock {Hs1 H1 Hs2 H2:Hp}{ε1 ε2:ME}{cap:List (Option Nat)}(hc:(cap.filterMap id).Nodup)(r:RD S Hs0 H0 Hs1 H1 σ ε1)(q:RD [] Hs1 (xm (b7 cap σ) (s9 cap ε1) H1) Hs2 H2 (b7 cap σ) ε2)(st:(∃ y,ε1[0]?=some (.ow y))->∃ y,(qf cap ε2 ε1)[0]?=some (.ow y)):RD S Hs0 H0 Hs2 H2 σ (qf cap ε2 ε1):=by
 have hl:cap.length=ε2.length:=by rw [<- q.len];unfold b7;rw [yZ]
 have at1:∀(i:Nat)(s:MSlot),(qf cap ε2 ε1)[i]?=some s->(some i∉cap/\ε1[i]?=some s)∨∃ j:Nat,cap[j]?=some (some i)/\ε2[j]?=some s:=λi s h=>by
  by_cases hi:some i∈cap
  ·have hlt:i<ε1.length:=by have:=(yz.mp h).1;rwa [Qp] at this
   obtain ⟨j,h1,h2⟩:=VH cap ε2 ε1 i hl hi hlt hc;exact .inr ⟨j,h1,h2▸h⟩
  ·exact .inl ⟨hi,VI cap ε2 ε1 i hi▸h⟩
 have own0:∀ a,xm (b7 cap σ) (s9 cap ε1) H1 a=none->H0 a=none∨a∈S:=λa h=>by
  rcases UC h with h|⟨i,x,h1,h2⟩
  ·exact .inl (r.free0 h)
  ·obtain ⟨k,hk,hx⟩:=Yu h1;obtain ⟨c,hc',m0,_⟩:=r.ow k x hx;rw [zX hk h2] at hc';injection hc' with hc';injection hc' with hc';injection hc' with hc';rw [hc'];exact m0
 have keep:∀(k:Nat)(x:PV)(a:Addr),some k∉cap->ε1[k]?=some (.ow x)->σ[k]?=some (some (.ref a))->∀ o,H1 a=some o->xm (b7 cap σ) (s9 cap ε1) H1 a=some o:=λk x a hk hx ha o ho=>by
  cases z:xm (b7 cap σ) (s9 cap ε1) H1 a with
  |some u=>rw [<- ho,(ZK z).1]
  |none =>
   rcases UC z with z|⟨i,y,h1,h2⟩
   ·rw [z] at ho;cases ho
   ·obtain ⟨m,hm,hy⟩:=Yu h1;have:=r.nd k m x y a hx hy ha (zX hm h2);subst this;exact absurd (ym hm) hk
 have ow':∀(i:Nat)(x:PV),(qf cap ε2 ε1)[i]?=some (.ow x)->∃ a,σ[i]?=some (some (.ref a))/\(H0 a=none∨a∈S)/\Hs2 a=none/\Top Hs2 H2 a x:=λi x h=>by
  rcases at1 i _ h with ⟨hi,e⟩|⟨j,hj,e⟩
  ·obtain ⟨a,ha,m0,m1,t⟩:=r.ow i x e;refine ⟨a,ha,m0,?_,t.mono q.s1 λo ho=>q.s2 a o (keep i x a hi e ha o ho) yi⟩;cases z:H1 a with
   |none=>exact absurd z t.there
   |some o=>exact q.s4 a (by rw [keep i x a hi e ha o z];exact λw=>nomatch w) m1
  ·obtain ⟨a,ha,m0,m1,t⟩:=q.ow j x e;exact ⟨a,zX hj ha,own0 a (m0.resolve_right yi),m1,t⟩
 have str':∀ a∈S,∃ y,(qf cap ε2 ε1)[0]?=some (.ow y):=λa hS=>st (r.str a hS);refine ⟨r.s1.trans q.s1,λb o e hS=>?_,q.s3,λb h z=>?_,λi x h=>?_,ow',λi j x y a h1 h2 h3 h4=>?_,by rw [Qp];exact r.len,r.pin,λb hS=>?_,str',λi x h=>by
  rcases at1 i _ h with ⟨_,e⟩|⟨j,_,e⟩
  ·exact r.nb i x e
  ·exact q.nb j x e⟩
 ·have e1:=r.s2 b o e hS;refine q.s2 b o ?_ yi;cases z:xm (b7 cap σ) (s9 cap ε1) H1 b with
  |some u=>rw [<- e1,(ZK z).1]
  |none =>
   rcases own0 b z with w|w
   ·rw [w] at e;cases e
   ·exact absurd w hS
 ·have z1:=r.s4 b h z;by_cases hL:xm (b7 cap σ) (s9 cap ε1) H1 b=none
  ·rcases own0 b hL with w|w
   ·exact absurd w h
   ·obtain ⟨y,hy⟩:=str' b w;obtain ⟨a,ha,_,m1,_⟩:=ow' 0 y hy;rw [r.pin b w] at ha;injection ha with ha;injection ha with ha;injection ha with ha;rw [ha];exact m1
  ·exact q.s4 b hL z1
 ·rcases at1 i _ h with ⟨hi,e⟩|⟨j,hj,e⟩
  ·obtain ⟨v,hv,rv⟩:=r.sh i x e;exact ⟨v,hv,rv.mono q.s1⟩
  ·obtain ⟨v,hv,rv⟩:=q.sh j x e;exact ⟨v,zX hj hv,rv⟩
 ·rcases at1 i _ h1 with ⟨hi,e⟩|⟨k,hk,e⟩
  ·rcases at1 j _ h2 with ⟨hj,e'⟩|⟨l,hl',e'⟩
   ·exact r.nd i j x y a e e' h3 h4
   ·-- one of the block's own,one that it does not see
    obtain ⟨a',ha',m0,_,_⟩:=q.ow l y e';have ea:=zX hl' ha';rw [h4] at ea;injection ea with ea;injection ea with ea;injection ea with ea;subst ea;obtain ⟨c,hc1,_,_,t⟩:=r.ow i x e;rw [h3] at hc1;injection hc1 with hc1;injection hc1 with hc1;injection hc1 with hc1;subst hc1;cases z:H1 a with
    |none=>exact absurd z t.there
    |some o=>have w:=keep i x a hi e h3 o z;rw [m0.resolve_right yi] at w;cases w
  ·rcases at1 j _ h2 with ⟨hj,e'⟩|⟨l,hl',e'⟩
   ·obtain ⟨a',ha',m0,_,_⟩:=q.ow k x e;have ea:=zX hk ha';rw [h3] at ea;injection ea with ea;injection ea with ea;injection ea with ea;subst ea;obtain ⟨c,hc1,_,_,t⟩:=r.ow j y e';rw [h4] at hc1;injection hc1 with hc1;injection hc1 with hc1;injection hc1 with hc1;subst hc1;cases z:H1 a with
    |none=>exact absurd z t.there
    |some o=>have w:=keep j y a hj e' h4 o z;rw [m0.resolve_right yi] at w;cases w
   ·obtain ⟨a1,ha1,_⟩:=q.ow k x e;obtain ⟨a2,ha2,_⟩:=q.ow l y e';have e1:=zX hk ha1;have e2:=zX hl' ha2;rw [h3] at e1;rw [h4] at e2;injection e1 with e1;injection e1 with e1;injection e1 with e1;injection e2 with e2;injection e2 with e2;injection e2 with e2;subst e1;subst e2;have kl:=q.nd k l x y a e e' ha1 ha2;subst kl;rw [hk] at hl';injection hl' with hl';injection hl' with hl'
 ·obtain ⟨y,hy⟩:=str' b hS;obtain ⟨a,ha,_,_,t⟩:=ow' 0 y hy;rw [r.pin b hS] at ha;injection ha with ha;injection ha with ha;injection ha with ha;rw [ha];exact t.there
instance {cap:List (Option Nat)}{it:WA}{g:MG}{c:WT}{f:W}[si:SemWI wi it][sg:Wa tg ts g][sc:zW tt c][sf:SemW te f]:SemW (Ql wi tg tt te cap) (jq cap ts it g c f) where
 h:=λ{ε Q'} h S Hs0 H0 Hs H σ rd Q k=>si.h h rd λxs ε1 J Hs1 H1 h1 rd1 g1 ok=>by
  obtain ⟨hcap,hl,h1⟩:=h1;unfold jD at hcap;rw [yf] at hcap;have hnd:=uN hcap.1;have wk:∀ i∈ts,(b7 cap σ)[i]?=some none:=λi hi=>by
   unfold b7;rw [yM,uN (uH.mp hcap.2 i hi)];rfl
  refine ⟨λn m zs H=>m=xs.length-n/\n<=xs.length/\∃ Hs2 ws ε2,RD [] Hs1 (xm (b7 cap σ) (s9 cap ε1) H1) Hs2 H (b7 cap σ) ε2/\Reps Hs2 ws zs/\ws.length<=n /\
    jr g c f ts (xs.drop n) ws ε2 (λys ε3=>((∃ y:PV,ε1[0]?=some (MSlot.ow y))->∃ y:PV,(qf cap ε3 ε1)[0]?=some (MSlot.ow y))/\Q' (PV.lst ys) (qf cap ε3 ε1)),
   ⟨xs.length,by simp,yo _,Hs1,[],_,rd1.block hnd,.nil,yU _,h1⟩,?_⟩
  rintro n m zs H2 ⟨rfl,hn,Hs2,ws,ε2,r2,rz,hw,h2⟩;refine ⟨qF (by rw [rz.length];omega),?_⟩;by_cases hlt:n<xs.length
  ·have hd:xs.drop n=xs[n]::xs.drop (n+1):=ya hlt;rw [hd] at h2;obtain ⟨ε3,e3,h3⟩:=h2;obtain ⟨go,yl⟩:=ok.go n xs[n] Hs2 H2 (by simp [hlt]) r2.s1 r2.s3;refine .inr ⟨go,λv H3 y=>?_⟩;obtain ⟨Hs3,x3,r3⟩:=yl v H3 y;refine sg.h e3 (r2.go x3) r3 λσ4 rd4 bt=>⟨bt.wk wk,sc.h h3 rd4 λb ε5 Hs5 H5 h5 rd5 g5=>?_⟩;cases b with
   |true=>refine qY (sf.h (by simpa using h5) rd5 λy ε6 u Hs6 H6 h6 rd6 g6 ru=>⟨xs.length-(n+1),by omega,rfl,hlt,Hs6,ws++[y],_,rd6.reset bt,?_,by rw [yJ];simp;omega,h6⟩);exact (rz.mono (x3.s1.trans (g5.trans g6))).snoc ru
   |false=>exact qX ⟨xs.length-(n+1),by omega,rfl,hlt,Hs5,ws,_,rd5.reset bt,rz.mono (x3.s1.trans g5),by omega,by simpa using h5⟩
  ·have en:n=xs.length:=by omega
   subst en;rw [uA] at h2;refine .inl ⟨ok.stop Hs2 H2 r2.s1 r2.s3,λD hD=>?_⟩;have rd2:=rd1.unblock hnd r2 h2.1;exact k _ _ _ _ _ h2.2 (rd2.go (.new rd2.s3 hD)) (g1.trans (r2.s1.trans (Ext.new rd2.s3 hD).s1)) (rep_lst.mpr ⟨D,zs,rfl,v6,rz.mono (Ext.new rd2.s3 hD).s1⟩)
section
variable {P:Program}{w:World}{K:Fg}{mg:Str->Option Value}{base:Heap}
theorem vf {n i:Nat}:(xs.map MSlot.sh++List.replicate n .no)[i]?≠some (.ow x):=λh=>by
 by_cases hi:i<xs.length
 ·rw [yg (by rw [yZ];exact hi),yM] at h;obtain ⟨y,_,z⟩:=yL.mp h;cases z
 ·rw [yc (by rw [yZ];omega),um] at h;split at h<;>cases h
theorem Jv {n i:Nat}:(xs.map MSlot.sh++List.replicate n .no)[i]?≠some (.bo x):=λh=>by
 by_cases hi:i<xs.length
 ·rw [yg (by rw [yZ];exact hi),yM] at h;obtain ⟨y,_,z⟩:=yL.mp h;cases z
 ·rw [yc (by rw [yZ];omega),um] at h;split at h<;>cases h
theorem LM {a:Addr}(s:Same Hs H)(ha:Hs a=none)(hH:H a=some (.lst [.int n]))(r:Reps Hs xs ws):RD [a] Hs H Hs H (L2.start N (.ref a::ws)) (u9 n::xs.map .sh++List.replicate (N.length-(xs.length+1)) .no):=by
 have q:=zR (N:=N) (xs:= .at (.ref a)::xs) s (.cons (rep_at.mpr rfl) r);have tl:∀(i:Nat)(sl:MSlot),(u9 n::xs.map .sh++List.replicate (N.length-(xs.length+1)) .no)[i+1]?=some sl->((PV.at (.ref a)::xs).map MSlot.sh++List.replicate (N.length-(PV.at (.ref a)::xs).length) .no)[i+1]?=some sl:=λi sl h=>h;refine ⟨.refl _,λb o e _=>e,s,λ_ _ z=>z,λi x h=>?_,λi x h=>?_,λi j x y b h1 h2 _ _=>?_,?_,λb hb=>?_,λb hb=>?_,(λb hb=>⟨_,rfl⟩),λi x h=>by
  cases i with
  |zero=>unfold u9 at h;simp at h
  |succ i=>exact Jv (xs:=PV.at (.ref a)::xs) (tl i _ h)⟩
 ·cases i with
  |zero=>unfold u9 at h;simp at h
  |succ i=>exact q.sh (i+1) x (tl i _ h)
 ·cases i with
  |zero=>unfold u9 at h;simp at h;subst h;refine ⟨a,?_,.inr (yR.mpr rfl),ha,_,hH,.one (rep_at.mpr rfl)⟩;unfold L2.start;rfl
  |succ i =>
   obtain ⟨c,h1,_⟩:=q.ow (i+1) x (tl i _ h);exact absurd (tl i _ h) λz=>by
    have:=vf (i:=i+1) (x:=x) (xs:=PV.at (.ref a)::xs) (n:=N.length-(PV.at (.ref a)::xs).length);exact this z
 ·cases i with
  |zero =>
   cases j with
   |zero=>rfl
   |succ j=>exact absurd (tl j _ h2) (vf (xs:=PV.at (.ref a)::xs))
  |succ i=>exact absurd (tl i _ h1) (vf (xs:=PV.at (.ref a)::xs))
 ·exact q.len
 ·rw [yR.mp hb];unfold L2.start;rfl
 ·rw [yR.mp hb,hH];exact λz=>nomatch z
theorem okD {x:Str}{f:Addr}{k:Nat}(F:Fun K x qual st f fd)(S:v8 N ps (z9 st))(hpre:∀ xs,pre xs->xs.length+1=ps.length)(hb:∀(cdv:Value)(A:Around)(outer:List Env)(s:Shared)(H:Hp)(E:XK),Room k (A.deeper (PyProof.Rows.envOfC qual (z9 st) s.heap.objs.size f cdv)) -> ∃ t,PSs (qR j6 P w K mg base N qual (z9 st) f cdv A outer s H E).nox (o3 st) t/\SemWS t b)(hw:∀ xs n,pre xs->b (u9 n::xs.map .sh++List.replicate (N.length-(xs.length+1)) .no) (λ_=>False) λy ε=>R xs y/\xK 0 ε):FnOk P w K mg base j6 (k+1) f fd ps (spD pre R):=by
 refine F.ok S (λvs H Q E h=>?_) (λcdv A outer s H vs Q E hr h=>?_)
 ·obtain ⟨Hs,a,n,xs,ws,rfl,_,_,_,r,hp,_⟩:=h;rw [yA,r.length];exact hpre xs hp
 ·obtain ⟨Hs,a,n,xs,ws,rfl,sm,ha,hH,r,hp,q⟩:=h;obtain ⟨t,ht,sem⟩:=hb cdv A outer s H E hr;refine ⟨t,ht,sem.h (hw xs n hp) (LM sm ha hH r) (λε σ Hs' H' z _ _=>z.elim) λy ε σ v Hs' H' hR rd g rv=>?_⟩;obtain ⟨hR,n',hn'⟩:=hR;obtain ⟨a',ha',hH',hs',_⟩:=rd.strm_at hn';rw [rd.pin a (yR.mpr rfl)] at ha';injection ha' with ha';injection ha' with ha';injection ha' with ha';subst ha';refine q y v n' Hs' H' hR ⟨g,λb o e hb=>rd.s2 b o e λz=>hb (yR.mp z),rd.s3,λb h z=>rd.s4 b h z⟩ hs' hH' rv
end
def spN (pre:List PV->Prop)(R:List PV->PV->Prop):Sp:=λvs H Q _=>∃ Hs xs,Same Hs H/\Reps Hs xs vs/\pre xs/\∀ y a Hs' H',R xs y->Ext Hs H Hs' H'->H a=none->Hs' a=none->Top Hs' H' a y->Q (.ref a) H'
def spV (pre:List PV->Prop)(R:List PV->PV->Prop):Sp:=λvs H Q _=>∃ Hs xs,Same Hs H/\Reps Hs xs vs/\pre xs/\∀ y v Hs' H',R xs y->Ext Hs H Hs' H'->Rep Hs' y v->Q v H'
def XS (i:Nat)(pre:List PV->Prop)(R:List PV->PV->Prop)(as:WA):WS:=λε N _=>as ε λxs ε1=>pre xs/\∀ y,R xs y->N (ε1.set i (.ow y))
instance {i:Nat}{as:WA}[sa:jw ta as]:SemWS (zT (zC (spN pre R) [] E ta) (qu (i+1))) (XS (i+1) pre R as) where
 h:=λh _ _ _ _ _ _ rd _ k _=>sa.h h rd λxs ε1 vs Hs1 H1 h1 rd1 g1 r1=>by
  refine ⟨Hs1,xs,rd1.s3,by rw [yk];exact r1,h1.1,λy a Hs' H' hR x n n' t=>?_⟩;refine k _ _ _ _ (h1.2 y hR) ((rd1.go x).putO (.inl (rd1.free0 n)) n' t λj z hj e=>?_) (g1.trans x.s1);obtain ⟨b,hb,_,_,tb⟩:=rd1.ow j z hj;rw [e] at hb;injection hb with hb;injection hb with hb;injection hb with hb;subst hb;exact tb.there n
def XR (pre:List PV->Prop)(R:List PV->PV->Prop)(as:WA):W:=λε Q=>as ε λxs ε1=>pre xs/\∀ y,R xs y->Q y ε1
instance {as:WA}[sa:jw ta as]:SemW (zC (spV pre R) [] E ta) (XR pre R as) where
 h:=λh _ _ _ _ _ _ rd _ k=>sa.h h rd λxs ε1 vs Hs1 H1 h1 rd1 g1 r1 =>
  ⟨Hs1,xs,rd1.s3,by rw [yk];exact r1,h1.1,λy v Hs' H' hR x rv=>k y ε1 v Hs' H' (h1.2 y hR) (rd1.go x) (g1.trans x.s1) rv⟩
section
variable {P:Program}{w:World}{K:Fg}{mg:Str->Option Value}{base:Heap}
theorem GK (s:Same Hs H)(r:Reps Hs xs vs):RD [] Hs H Hs H (L2.start N vs) (xs.map .sh++List.replicate (N.length-xs.length) .no):=by have q:=zR (N:=N) s r;exact ⟨.refl _,λb o e _=>e,s,λ_ _ z=>z,q.sh,λi x h=>absurd h vf,q.nd,q.len,(λ_ z=>nomatch z),(λ_ z=>nomatch z),(λ_ z=>nomatch z),λ_ _=>Jv⟩
theorem okV {x:Str}{f:Addr}{k:Nat}(F:Fun K x qual st f fd)(S:v8 N ps (z9 st))(hpre:∀ xs,pre xs->xs.length=ps.length)(hb:∀(cdv:Value)(A:Around)(outer:List Env)(s:Shared)(H:Hp)(E:XK),Room k (A.deeper (PyProof.Rows.envOfC qual (z9 st) s.heap.objs.size f cdv)) -> ∃ t,PSs (qR j6 P w K mg base N qual (z9 st) f cdv A outer s H E).nox (o3 st) t/\SemWS t b)(hw:∀ xs,pre xs->b (xs.map .sh++List.replicate (N.length-xs.length) .no) (λ_=>False) λy _=>R xs y):FnOk P w K mg base j6 (k+1) f fd ps (spV pre R):=by
 refine F.ok S (λvs H Q E h=>?_) (λcdv A outer s H vs Q E hr h=>?_)
 ·obtain ⟨Hs,xs,_,r,hp,_⟩:=h;rw [r.length];exact hpre xs hp
 ·obtain ⟨Hs,xs,sm,r,hp,q⟩:=h;obtain ⟨t,ht,sem⟩:=hb cdv A outer s H E hr;refine ⟨t,ht,sem.h (hw xs hp) (GK sm r) (λε σ Hs' H' z _ _=>z.elim) λy ε σ v Hs' H' hR rd g rv=>?_⟩;exact q y v Hs' H' hR ⟨g,λb o e=>rd.s2 b o e yi,rd.s3,rd.s4⟩ rv
def scr (K:Fg)(ns:List Int):PV:= .op λH v=>∃ a,v = .ref a/\SqL K H a (ns.map V.int)
theorem NG {K:Fg}{ns:List Int}(s:Same Hs H)(r:Rep Hs (scr K ns) v):∃ a,v = .ref a/\SqL K H a (ns.map V.int):=by obtain ⟨H1,s1,a,rfl,q⟩:=rep_op.mp r;exact ⟨a,rfl,(s1.trans s).seq q⟩
def Qk (K:Fg):Sp:=λvs H Q _=>∃(a:Addr)(ns:List Int),vs=[.ref a]/\SqL K H a (ns.map V.int)/\ns.length<=63/\∀ H',Q (.bl true) H'
theorem okL {x:Str}{f:Addr}{k:Nat}(F:Fun K x qual st f fd)(S:v8 N ["script"] (z9 st))(hb:∀ (cdv:Value) (A:Around) (outer:List Env) (s:Shared) (H:Hp) (E:XK),Room k (A.deeper (PyProof.Rows.envOfC qual (z9 st) s.heap.objs.size f cdv)) -> ∃ t,PSs (qR j6 P w K mg base N qual (z9 st) f cdv A outer s H E).nox (o3 st) t/\SemWS t b)(hw:∀ ns:List Int,ns.length<=63->b (.sh (scr K ns)::List.replicate (N.length-1) .no) (λ_=>False) λy _=>y = .at (.bl true)):FnOk P w K mg base j6 (k+1) f fd ["script"] (Qk K):=by
 refine F.ok S (λvs H Q E h=>?_) (λcdv A outer s H vs Q E hr h=>?_)
 ·obtain ⟨a,ns,rfl,_⟩:=h;rfl
 ·obtain ⟨a,ns,rfl,hS,h63,q⟩:=h;obtain ⟨t,ht,sem⟩:=hb cdv A outer s H E hr;have r:Reps H [scr K ns] [.ref a]:= .one (rep_op.mpr ⟨H,.refl _,a,rfl,hS⟩);refine ⟨t,ht,sem.h (hw ns h63) (GK (N:=N) (.refl H) r) (λε σ Hs' H' z _ _=>z.elim) λy ε σ v Hs' H' hR rd g rv=>?_⟩;subst hR;cases rep_at.mp rv;exact q H'
end
class qg (w:W):Prop where
 h:∀{ε:ME}{P P':PV->ME->Prop},(∀ y e,P y e->P' y e)->w ε P->w ε P'
class jt (w:WA):Prop where
 h:∀{ε:ME}{P P':List PV->ME->Prop},(∀ y e,P y e->P' y e)->w ε P->w ε P'
class zg (w:WT):Prop where
 h:∀{ε:ME}{P P':Bool->ME->Prop},(∀ y e,P y e->P' y e)->w ε P->w ε P'
class xL (w:WS):Prop where
 h:∀{ε:ME}{N N':ME->Prop}{R R':PV->ME->Prop},(∀ e,N e->N' e)->(∀ y e,R y e->R' y e)->w ε N R->w ε N' R'
instance {f:M}:qg (wP f) where h:=λk ⟨y,e,q⟩=>⟨y,e,k _ _ q⟩
instance {f:MB}:zg (wPT f) where h:=λk ⟨y,e,q⟩=>⟨y,e,k _ _ q⟩
instance {g:PV->PV->Option PV}{b:W}[A:qg a][B:qg b]:qg (qa g a b) where h:=λk h=>A.h (λ_ _ h1=>B.h (λ_ _ ⟨z,e,q⟩=>⟨z,e,k _ _ q⟩) h1) h
instance [A:qg a]:zg (wT a) where h:=λk h=>A.h (λ_ _ ⟨z,e,q⟩=>⟨z,e,k _ _ q⟩) h
instance:zg zU where h:=λk h=>k _ _ h
theorem QX {c:Bool}{A B A' B':Prop}(h1:A->A')(h2:B->B')(h:if c=true then A else B):if c=true then A' else B':=by
 cases c with
 |true=>exact qY (h1 (by simpa using h))
 |false=>exact qX (h2 (by simpa using h))
instance {a b:WT}[A:zg a][B:zg b]:zg (wAnd a b) where h:=λk h=>A.h (λc _ h1=>QX (λh2=>B.h k h2) (λh2=>k _ _ h2) h1) h
instance:jt i8 where h:=λk h=>k _ _ h
instance [A:qg a][B:jt r]:jt (y3 a r) where h:=λk h=>A.h (λ_ _ h1=>B.h (λ_ _ h2=>k _ _ h2) h1) h
instance {i:Nat}[A:qg a]:qg (i9 i a) where h:=λk h=>⟨h.1,A.h (λ_ _ ⟨n,m,e1,e2,e3,q⟩=>⟨n,m,e1,e2,e3,k _ _ q⟩) h.2⟩
instance {i:Nat}{a:WA}[A:jt a]:qg (xa i pre R a) where h:=λk h=>⟨h.1,A.h (λ_ _ ⟨h1,h2,h3⟩=>⟨h1,h2,λy n r=>k _ _ (h3 y n r)⟩) h.2⟩
instance {a:WA}[A:jt a]:qg (XR pre R a) where h:=λk h=>A.h (λ_ _ ⟨h1,h2⟩=>⟨h1,λy r=>k _ _ (h2 y r)⟩) h
instance {i:Nat}[A:qg a]:qg (wPop i a) where h:=λk h=>⟨h.1,A.h (λ_ _ ⟨xs,j,y,e1,e2,e3,e4,e5,e6,q⟩=>⟨xs,j,y,e1,e2,e3,e4,e5,e6,k _ _ q⟩) h.2⟩
instance {f:MA}:jt (wIp f) where h:=λk ⟨y,e,q⟩=>⟨y,e,k _ _ q⟩
theorem VR {g:MG}{c:WT}{f:W}{ts:List Nat}[C:zg c][F:qg f]{Q Q':List PV->ME->Prop}(k:∀ y e,Q y e->Q' y e):∀(xs ys:List PV)(ε:ME),jr g c f ts xs ys ε Q->jr g c f ts xs ys ε Q'
 |[],ys,ε,h=>k _ _ h
 |x::xs,ys,ε,h=>by
  obtain ⟨ε1,e1,h1⟩:=h;exact ⟨ε1,e1,C.h (λb ε2 h2=>QX (λh3=>F.h (λy ε3 h4=>VR k xs _ _ h4) h3) (λh3=>VR k xs _ _ h3) h2) h1⟩
instance {cap:List (Option Nat)}{it:WA}{g:MG}{c:WT}{f:W}[I:jt it][C:zg c][F:qg f]:qg (jq cap ts it g c f) where
 h:=λk h=>I.h (λ_ _ ⟨h1,h2,h3⟩=>⟨h1,h2,VR (λ_ _ ⟨q1,q2⟩=>⟨q1,k _ _ q2⟩) _ _ _ h3⟩) h
instance:xL qN where h:=λk _ h=>k _ h
instance {a:WS}[A:xL a][B:xL b]:xL (wSeq a b) where h:=λk r h=>A.h (λ_ h1=>B.h k r h1) r h
instance {i:Nat}[A:qg a]:xL (p6 i a) where h:=λk _ h=>A.h (λ_ _ h1=>k _ h1) h
instance [A:qg a]:xL (qy a) where h:=λ_ r h=>A.h r h
instance {c:WT}{a:WS}[C:zg c][A:xL a][B:xL b]:xL (qx c a b) where h:=λk r h=>C.h (λ_ _ h1=>QX (λh2=>A.h k r h2) (λh2=>B.h k r h2) h1) h
instance {i:Nat}[A:qg a]:xL (Qr i a) where h:=λk _ h=>⟨h.1,A.h (λ_ _ ⟨xs,e1,e2,q⟩=>⟨xs,e1,e2,k _ q⟩) h.2⟩
theorem Zd {g:MG}{c:WT}{f:W}{ts:List Nat}{Q:List PV->ME->Prop}[C:zg c][F:qg f](I:List PV->List PV->ME->Prop)(hd:∀ ys ε,I [] ys ε->Q ys ε)(hs:∀ x xs ys ε,I (x::xs) ys ε->∃ ε1,g x ε=some ε1/\c ε1 λb ε2=>if b=true then f ε2 λy ε3=>I xs (ys++[y]) (rst ts ε3) else I xs ys (rst ts ε2)):∀(xs ys:List PV)(ε:ME),I xs ys ε->jr g c f ts xs ys ε Q
 |[],ys,ε,h=>hd ys ε h
 |x::xs,ys,ε,h=>by
  obtain ⟨ε1,e1,h1⟩:=hs x xs ys ε h;exact ⟨ε1,e1,C.h (λb ε2 h2=>QX (λh3=>F.h (λy ε3 h4=>Zd I hd hs xs _ _ h4) h3) (λh3=>Zd I hd hs xs _ _ h3) h2) h1⟩
theorem QD {g:MG}{f:W}{Q:List PV->ME->Prop}[F:qg f](I:List PV->List PV->ME->Prop)(hd:∀ ys ε,I [] ys ε->Q ys ε)(hs:∀ x xs ys ε,I (x::xs) ys ε->∃ ε1,g x ε=some ε1/\f ε1 λy ε3=>I xs (ys++[y]) (rst ts ε3))(xs ys:List PV)(ε:ME)(h:I xs ys ε):jr g zU f ts xs ys ε Q :=
 Zd I hd (λx xs ys ε h=>by
  obtain ⟨ε1,e,q⟩:=hs x xs ys ε h;refine ⟨ε1,e,?_⟩;show if true=true then (f ε1 λy ε3=>I xs (ys++[y]) (rst ts ε3)) else I xs ys (rst ts ε1)
  rw [if_pos rfl];exact q) xs ys ε h
theorem ZO {g:MG}{f:WS}{N:ME->Prop}{R:PV->ME->Prop}[F:xL f](I:List PV->ME->Prop)(hd:∀ ε,I [] ε->N ε)(hs:∀ x xs ε,I (x::xs) ε->∃ ε1,g x ε=some ε1/\f ε1 (λε2=>I xs ε2) R):∀(xs:List PV)(ε:ME),I xs ε->Qs g f xs ε N R
 |[],ε,h=>hd ε h
 |x::xs,ε,h=>by
  obtain ⟨ε1,e1,h1⟩:=hs x xs ε h;exact ⟨ε1,e1,F.h (λε2 h2=>ZO I hd hs xs ε2 h2) (λ_ _ z=>z) h1⟩
section
variable {ε ε1:ME}{a b:MS}{f g:M}{x y z:PV}{i:Nat}{o:Option Out}
theorem b8 (h:a ε=some (.nx ε1))(k:b ε1=o):k5 a b ε=o:=by unfold k5;rw [h];exact k
theorem YY (h:a ε=some (.rt y)):k5 a b ε=some (.rt y):=by unfold k5;rw [h];rfl
theorem zn (h:f ε=some x):xf i f ε=some (.nx (ε.set i (.sh x))):=by unfold xf;rw [h];rfl
theorem Zr (h:f ε=some x):vC i f ε=some (.nx (ε.set i (.ow x))):=by unfold vC;rw [h];rfl
theorem p7 (h:f ε=some x):y8 f ε=some (.rt x):=by unfold y8;rw [h];rfl
theorem v9 {G:PV->PV->Option PV}{r:Option PV}(h1:f ε=some x)(h2:g ε=some y)(h:G x y=r):x9 G f g ε=r:=by unfold x9;rw [h1];show Option.bind (g ε) _=_;rw [h2];exact h
theorem j5 {r:Option PV}(h1:as ε=some xs)(h:m xs=r):z6 m as ε=r:=by unfold z6;rw [h1];exact h
theorem v7 {r:MA}(h1:f ε=some x)(h2:r ε=some xs):q0 f r ε=some (x::xs):=by unfold q0;rw [h1];show Option.bind (r ε) _=_;rw [h2];rfl
theorem Zq (h:c ε=some true)(k:a ε=o):m3 c a b ε=o:=by unfold m3;rw [h];exact k
theorem ql (h:c ε=some false)(k:b ε=o):m3 c a b ε=o:=by unfold m3;rw [h];exact k
theorem xu (h:it ε=some xs)(k:p9 G a xs ε=o):qS it G a ε=o:=by unfold qS;rw [h];exact k
theorem ev_sl {lo hi:Option Int}(h1:f ε=some (.lst xs))(h2:l ε=some lo)(h3:u ε=some hi):vD f l u ε=some (.lst (jE xs lo hi)):=by unfold vD;rw [h1];show Option.bind (l ε) _=_;rw [h2];show Option.bind (u ε) _=_;rw [h3];rfl
theorem YW (h:as ε=some xs)(hl:xs.length<=lim):zI as ε=some (.lst xs):=by unfold zI;rw [h];show (if _ then _ else _)=_;rw [if_pos hl]
theorem zo (h:as ε=some xs)(hl:xs.length<=lim):f9 as ε=some (.tup xs):=by unfold f9;rw [h];show (if _ then _ else _)=_;rw [if_pos hl]
theorem YU {cap:List (Option Nat)}(h:it ε=some xs)(hc:jD cap ts=true)(hl:xs.length<=lim)(k:xj G c f (s9 cap ε) xs=some ys):u7 cap ts it G c f ε=some (.lst ys):=by unfold u7;rw [h];show (if _ then _ else _)=_;rw [if_pos ⟨hc,hl⟩,k];rfl
end
theorem MF (h:xs.length+ys.length<=lim):qL (.lst xs) (.lst ys)=some (.lst (xs++ys)):=by show (if _ then _ else _)=_;rw [if_pos h]
theorem zm {n k:Nat}{b:MS}(hl:xs.length=k)(h:b (xs.map .sh++List.replicate (n-k) .no)=some (.rt y)):qA n k b xs=some y:=by unfold qA;rw [if_pos hl,h];rfl
theorem t9 {n k:Nat}{b:MS}(hl:xs.length=k)(h:b (xs.map .sh++List.replicate (n-k) .no)=some (.rt y)):k7 n k b xs=some y:=by unfold k7;rw [if_pos hl,h];rfl
theorem Ji {f:PV->PV->Option Bool}:∀{xs:List PV},(∀ x∈xs,f x x=some true)->xW f xs xs=some true
 |[],_=>rfl
 |x::xs,h=>by unfold xW;rw [h x yQ];show Option.bind (xW f xs xs) _=_;rw [Ji λy hy=>h y (yN _ hy)];rfl
def vY:Nat->PV->Prop
 |_,.at u=>y6 u=true
 |n+1,.lst xs=>∀ x∈xs,vY n x
 |n+1,.tup xs=>∀ x∈xs,vY n x
 |_,_=>False
theorem Xw:∀(n:Nat){x:PV},vY n x->peq n x x=some true
 |0,x,h=>by
  cases x with
  |«at» u=>show (if _ then _ else _)=_;rw [if_pos ⟨h,h⟩,QO h]
  |_=>exact h.elim
 |n+1,x,h=>by
  cases x with
  |«at» u=>show (if _ then _ else _)=_;rw [if_pos ⟨(show y6 u=true from h),h⟩,QO h]
  |lst xs=>show (if _ then _ else _)=_;rw [if_pos rfl];exact Ji λy hy=>Xw n (h y hy)
  |tup xs=>show Option.bind (xW (peq n) xs xs) _=_;rw [Ji λy hy=>Xw n (h y hy)];show some (true&&(xs.length==xs.length))=_;rw [beq_self_eq_true];rfl
  |_=>exact h.elim
theorem MH (h:vY 6 x):pEq x x=some (.at (.bl true)):=by unfold pEq;rw [Xw 6 h];rfl
theorem Jc (h:vY 6 x):pNe x x=some (.at (.bl false)):=by unfold pNe;rw [Xw 6 h];rfl
class ze (K:Fg)(C:Addr):Prop where
 c:Cls K C
class NoA (K:Fg)(C:Addr)(f:Str):Prop where
 n:NoAttr K C f
def vN (f:Str):List Str->List PV->Option PV
 |n::ns,x::xs=>if f=n then some x else vN f ns xs
 |_,_=>none
theorem UE {H:Hp}{f:Str}{y:PV}:∀{fs:List (Str×V)}{xs:List PV},Reps H xs (fs.map (·.2))->vN f (fs.map (·.1)) xs=some y->∃ v,fs.lookup f=some v/\Rep H y v
 |[],xs,r,h=>by cases xs<;>cases h
 |p::fs,xs,r,h=>by
  cases xs with
  |nil=>cases h
  |cons x xs =>
   obtain ⟨v,w,e,p1,p2⟩:=reps_cons.mp r;rw [yO] at e;injection e with e1 e2;subst e1 e2;rw [yO] at h;unfold vN at h;rw [uO];split at h
   ·rename_i hf;cases h;rw [hf,beq_self_eq_true];exact ⟨p.2,rfl,p1⟩
   ·rename_i hf;rw [beq_eq_false_iff_ne.mpr hf];exact UE p2 h
def xS (C:Addr)(f:Str)(a:M):M:=λε=>(a ε).bind λx=>match x with
 | .ob C' ns xs=>if C'=C then vN f ns xs else none
 |_=>none
theorem BP {a:M}(h:xS C f a ε=some y):∃ ns xs,a ε=some (.ob C ns xs)/\vN f ns xs=some y:=by
 unfold xS at h;obtain ⟨x,ex,h1⟩:=bind_some h;split at h1
 ·split at h1
  ·rename_i hc;subst hc;exact ⟨_,_,ex,h1⟩
  ·cases h1
 ·cases h1
instance {a:M}[c:ze K C][n:NoA K C f][s:c9 te a]:SemE (tFld K te f) (xS C f a) where
 h:=λe _ _ _ _ _ rs _ q=>by
  obtain ⟨ns,xs,ea,el⟩:=BP e;refine s.h ea rs λv Hs1 H1 x1 r1=>?_;obtain ⟨p,dx,fs,rfl,hp,hk,hr⟩:=GP x1.s3 r1;rw [<- hk] at el;obtain ⟨u,hu,ru⟩:=UE hr el;exact ⟨p,C,dx,fs,u,rfl,hp,c.c,n.n,hu,q u _ _ x1 ru⟩
theorem wX {ta:TE}(hK:X.K=K)(he:PE X e ta)(hb:attributeBase e f X.env (eval e X.env)=eval e X.env:=by rfl):PE X (.Attribute e f pos) (tFld K ta f):=by subst hK;exact MP he hb
structure Mt (P:Program)(w:World)(K:Fg)(mg:Str->Option Value)(base:Heap)(k:Nat)(C:Addr)(m:Str)(ps:List Str)(sp:Sp):Prop where
 ex:∃ f fd,FnOk P w K mg base j6 k f fd ps sp/\wn K C m f/\Cls K C/\Binds K fd ps []
section
variable {X:Cx}{k j:Nat}{C:Addr}{m:Str}{ps:List Str}{sp:Sp}{o e:Expr}{es:List Expr}{ta:TE}{t:TA}{apos pos:Pos}
theorem Xv {pl:Sem Bool}(c:Mt X.prog X.w X.K X.mg X.base k C m ps sp)(hr:Room j X.A)(hj:k<=j)(ho:PE X o ta)(ha:PA X (e::es) t)
  (hst:starEach (e::es) X.env=(false,eval e X.env)::starEach es X.env:=by rfl) (hpl:(backTo pos (starEach es X.env)).any (·.1)=false:=by rfl)
  (ht:eval (.Call (.Attribute o m apos) (e::es) [] pos) X.env=(do
   let ov <- eval o X.env
   standAt apos.atName
   let (f,first) <- holding [ov] (getMethod ov m pl)
   callWith pos f first (backTo pos (starEach (e::es) X.env)) (backToKw pos (keywordEach [] X.env))):=by rfl) :
  PE X (.Call (.Attribute o m apos) (e::es) [] pos) (vi C m sp [] E0 ta t):=by
 obtain ⟨f,fd,F,hm,hc,hb⟩:=c.ex;exact MR ho hc hm F (hr.mono hj) hb .nil Xs ha hst hpl ht
theorem wY {pl:Sem Bool}(c:Mt X.prog X.w X.K X.mg X.base k C m ps sp)(hr:Room j X.A)(hj:k<=j)(ho:PE X o ta)
  (ht:eval (.Call (.Attribute o m apos) [] [] pos) X.env=(do
   let ov <- eval o X.env
   standAt apos.atName
   let (f,first) <- holding [ov] (getMethod ov m pl)
   callWith pos f first (backTo pos (starEach [] X.env)) (backToKw pos (keywordEach [] X.env))):=by rfl) :
  PE X (.Call (.Attribute o m apos) [] [] pos) (vi C m sp [] E0 ta o5):=by
 obtain ⟨f,fd,F,hm,hc,hb⟩:=c.ex;exact MT ho hc hm F (hr.mono hj) hb .nil Xs ht
end
variable {fr:Bool}
def xh:PV->Option x8
 | .at (.int i)=>some (.inl i)
 | .at (.str x)=>some (.inr x)
 |_=>none
theorem xz {k:x8}(r:RepB Hs H x v)(h:xh x=some k):v=kV k:=by
 unfold xh at h;split at h
 ·cases h;cases k4 r;rfl
 ·cases h;cases k4 r;rfl
 ·cases h
def i5 (k:x8):List x8->List PV->Option PV
 |n::ns,x::xs=>if n=k then some x else i5 k ns xs
 |_,_=>none
theorem vM {H:Hp}{k:x8}:∀{kvs:List (x8×V)}{xs:List PV},Reps H xs (kvs.map (·.2))->match i5 k (kvs.map (·.1)) xs with
  |some y=>∃ v,h8 kvs k=some v/\Rep H y v
  |none=>h8 kvs k=none
 |[],xs,r=>by
  have hx:xs=[]:=uj.mp r.length.symm;subst hx;rfl
 |p::kvs,xs,r=>by
  cases xs with
  |nil=>have:=r.length;simp at this
  |cons x xs =>
   obtain ⟨v,w,e,p1,p2⟩:=reps_cons.mp r;rw [yO] at e;injection e with e1 e2;subst e1 e2;rw [yO];unfold i5;by_cases hk:p.1=k
   ·rw [if_pos hk];refine ⟨p.2,?_,p1⟩;unfold h8;rw [uQ,yC hk];rfl
   ·rw [if_neg hk];have ih:=vM (k:=k) p2;have ev:h8 (p::kvs) k=h8 kvs k:=by unfold h8;rw [uQ,yD hk]
    rw [ev];exact ih
def zY (a b:M):M:=λε=>(a ε).bind λx=>(b ε).bind λy=>(xh y).bind λk=>match x with
 | .dk ks xs=>i5 k ks xs
 | .fk ks xs=>i5 k ks xs
 |_=>none
instance {a b:M}[sa:c9 td a][sb:c9 ty b]:SemE (XN td ty) (zY a b) where
 h:=λe _ _ _ _ _ rs _ q=>by
  obtain ⟨x,ex,e1⟩:=bind_some e;obtain ⟨y,ey,e2⟩:=bind_some e1;obtain ⟨k,ek,e3⟩:=bind_some e2;split at e3
  ·refine sa.h ex rs λv Hs1 H1 x1 r1=>sb.h ey (rs.go x1) λw Hs2 H2 x2 r2=>?_;obtain ⟨p,kvs,rfl,hp,hk,hr⟩:=jn x2.s3 (r1.ext x2);have l:=vM (k:=k) hr;rw [hk,e3] at l;obtain ⟨u,hu,ru⟩:=l;have ew:=xz r2 ek;subst ew;exact ⟨p,u,rfl,by rw [<- hu];exact DGet.k hp,q u _ _ (x1.trans x2) ru⟩
  ·refine sa.h ex rs λv Hs1 H1 x1 r1=>sb.h ey (rs.go x1) λw Hs2 H2 x2 r2=>?_;obtain ⟨p,o,kvs,rfl,hp,hk,hr⟩:=Qg x2.s3 (r1.ext x2);have l:=vM (k:=k) hr;rw [hk,e3] at l;obtain ⟨u,hu,ru⟩:=l;have ew:=xz r2 ek;subst ew;exact ⟨p,u,rfl,by rw [<- hu];exact .inl ⟨kvs,k,.inr ⟨o,hp⟩,rfl,rfl⟩,q u _ _ (x1.trans x2) ru⟩
  ·cases e3
def dDIn (b a:M):M:=λε=>(b ε).bind λy=>(a ε).bind λx=>(xh y).bind λk=>match x with
 | .dk ks xs=>some (.at (.bl (i5 k ks xs).isSome))
 | .fk ks xs=>some (.at (.bl (i5 k ks xs).isSome))
 |_=>none
def QH (b a:M):M:=λε=>(b ε).bind λy=>(a ε).bind λx=>(xh y).bind λk=>match x with
 | .dk ks xs=>some (.at (.bl (!(i5 k ks xs).isSome)))
 | .fk ks xs=>some (.at (.bl (!(i5 k ks xs).isSome)))
 |_=>none
theorem wC {k:x8}(r:Reps H xs (kvs.map (·.2))):(i5 k (kvs.map (·.1)) xs).isSome=(h8 kvs k).isSome:=by
 have l:=vM (k:=k) r;cases e:i5 k (kvs.map (·.1)) xs with
 |none=>rw [e] at l;rw [show h8 kvs k=none from l];rfl
 |some y=>rw [e] at l;obtain ⟨v,hv,_⟩:=l;rw [hv];rfl
instance {a b:M}[sa:c9 td a][sb:c9 ty b]:SemE (tDIn ty td) (dDIn b a) where
 h:=λe _ _ _ _ _ rs _ q=>by
  obtain ⟨y,ey,e1⟩:=bind_some e;obtain ⟨x,ex,e2⟩:=bind_some e1;obtain ⟨k,ek,e3⟩:=bind_some e2;split at e3
  ·cases e3;refine sb.h ey rs λw Hs1 H1 x1 r1=>sa.h ex (rs.go x1) λv Hs2 H2 x2 r2=>?_;obtain ⟨p,kvs,rfl,hp,hk,hr⟩:=jn x2.s3 r2;have ew:=xz r1 ek;subst ew;exact ⟨p,_,rfl,DGet.k hp,q _ _ _ (x1.trans x2) (rep_at.mpr (by rw [<- hk,wC hr]))⟩
  ·cases e3;refine sb.h ey rs λw Hs1 H1 x1 r1=>sa.h ex (rs.go x1) λv Hs2 H2 x2 r2=>?_;obtain ⟨p,o,kvs,rfl,hp,hk,hr⟩:=Qg x2.s3 r2;have ew:=xz r1 ek;subst ew;exact ⟨p,_,rfl,.inl ⟨kvs,_,.inr ⟨o,hp⟩,rfl,rfl⟩,q _ _ _ (x1.trans x2) (rep_at.mpr (by rw [<- hk,wC hr]))⟩
  ·cases e3
instance {a b:M}[sa:c9 td a][sb:c9 ty b]:SemE (Kh ty td) (QH b a) where
 h:=λe _ _ _ _ _ rs _ q=>by
  obtain ⟨y,ey,e1⟩:=bind_some e;obtain ⟨x,ex,e2⟩:=bind_some e1;obtain ⟨k,ek,e3⟩:=bind_some e2;split at e3
  ·cases e3;refine sb.h ey rs λw Hs1 H1 x1 r1=>sa.h ex (rs.go x1) λv Hs2 H2 x2 r2=>?_;obtain ⟨p,kvs,rfl,hp,hk,hr⟩:=jn x2.s3 r2;have ew:=xz r1 ek;subst ew;exact ⟨p,_,rfl,DGet.k hp,q _ _ _ (x1.trans x2) (rep_at.mpr (by rw [<- hk,wC hr]))⟩
  ·cases e3;refine sb.h ey rs λw Hs1 H1 x1 r1=>sa.h ex (rs.go x1) λv Hs2 H2 x2 r2=>?_;obtain ⟨p,o,kvs,rfl,hp,hk,hr⟩:=Qg x2.s3 r2;have ew:=xz r1 ek;subst ew;exact ⟨p,_,rfl,.inl ⟨kvs,_,.inr ⟨o,hp⟩,rfl,rfl⟩,q _ _ _ (x1.trans x2) (rep_at.mpr (by rw [<- hk,wC hr]))⟩
  ·cases e3
def YK:M:=λ_=>some (.dk [] [])
instance:qU Kg YK where
 h:=λe _ _ _ _ _ rs _ q=>by
  cases e;exact λp hp=>q p _ _ (.newO rs.sub hp) hp (rs.sub.free hp) ⟨[],v6,rfl,.nil⟩
def Qf (k:x8)(y:PV):List x8->List PV->List PV
 |n::ns,x::xs=>if n=k then y::Qf k y ns xs else x::Qf k y ns xs
 |_,xs=>xs
def XD (k:x8)(y:PV)(ks:List x8)(xs:List PV):PV:=if (i5 k ks xs).isSome=true then .dk ks (Qf k y ks xs) else .dk (ks++[k]) (xs++[y])
theorem Gu {H:Hp}{k:x8}{y:PV}{v:V}(ry:Rep H y v):∀{kvs:List (x8×V)}{xs:List PV},Reps H xs (kvs.map (·.2))->Reps H (Qf k y (kvs.map (·.1)) xs) ((kvs.map (λkv=>if kv.1=k then (kv.1,v) else kv)).map (·.2))/\(kvs.map (λkv=>if kv.1=k then (kv.1,v) else kv)).map (·.1)=kvs.map (·.1)
 |[],xs,r=>by
  have hx:xs=[]:=uj.mp r.length.symm;subst hx;exact ⟨.nil,rfl⟩
 |p::kvs,xs,r=>by
  cases xs with
  |nil=>have:=r.length;simp at this
  |cons x xs =>
   obtain ⟨u,w,e,p1,p2⟩:=reps_cons.mp r;rw [yO] at e;injection e with e1 e2;subst e1 e2;obtain ⟨h1,h2⟩:=Gu (k:=k) ry p2;rw [yO,yO,yO,yO];unfold Qf;by_cases hk:p.1=k
   ·rw [if_pos hk,if_pos hk];exact ⟨.cons ry h1,by rw [h2]⟩
   ·rw [if_neg hk,if_neg hk];exact ⟨.cons p1 h1,by rw [h2]⟩
def dPut (i:Nat)(kk vv:M):MS:=λε=>(vv ε).bind λy=>(kk ε).bind λx=>(xh x).bind λk=>match ε[i]? with
 |some (.ow (.dk ks xs))=>if ks.length<=lim then some (.nx (ε.set i (.ow (XD k y ks xs)))) else none
 |_=>none
instance {i:Nat}{kk vv:M}[sk:SemE ty kk][sv:SemE tv vv]:qh fr (Jx (c6 i) ty tv) (dPut i kk vv) where
 h:=λe _ _ _ _ _ rs _ q=>by
  obtain ⟨y,ey,e1⟩:=bind_some e;obtain ⟨x,ex,e2⟩:=bind_some e1;obtain ⟨k,ek,e3⟩:=bind_some e2;split at e3
  ·rename_i ks xs hi;split at e3
   ·rename_i hl;cases e3;refine sv.h ey rs λv Hs1 H1 x1 r1=>?_;obtain ⟨p,hp,n0,n,t⟩:=(rs.go x1).ow i _ hi;refine ⟨_,hp,sk.h ex (rs.go x1) λw Hs2 H2 x2 r2=>?_⟩;obtain ⟨p',hp',_,n2,kvs,hv,hk,hr⟩:=((rs.go x1).go x2).ow i _ hi;rw [hp] at hp';injection hp' with hp';injection hp' with hp';injection hp' with hp';subst hp';have ew:=xz (.inl r2:RepB Hs2 H2 x w) ek;subst ew;have hlen:kvs.length<=lim:=by rw [<- hk,yZ] at hl;exact hl
    refine ⟨p,_,rfl,DPut.k hv (QY hlen),q _ _ _ (((rs.go x1).go x2).change hi hp ?_)⟩;have hs:=wC (k:=k) hr;unfold XD i6;rw [VL,<- hs,hk];by_cases hc:(i5 k ks xs).isSome=true
    ·rw [if_pos hc,if_pos hc];obtain ⟨q1,q2⟩:=Gu (k:=k) (r1.mono x2.s1) hr;exact ⟨_,v6,by rw [q2,hk],by rw [<- hk];exact q1⟩
    ·rw [if_neg hc,if_neg hc];exact ⟨_,v6,by rw [yw,hk];rfl,by rw [yw];exact hr.append (.one (r1.mono x2.s1))⟩
   ·cases e3
  ·cases e3
def rLeS:R2:=λx y H Q=>∃ i j,x = .str i/\y = .str j/\Q (.bl (!decide (j.cps.toList<i.cps.toList))) H
theorem UV :OpR X (compareOp .LtE) rLeS:=Mx
def pLeS:PV->PV->Option PV
 | .at (.str i),.at (.str j)=>some (.at (.bl (!decide (j.cps.toList<i.cps.toList))))
 |_,_=>none
instance:qV rLeS pLeS where
 h:=λ{x y z} e {Hs H v w} s a b {Q} q=>by
  unfold pLeS at e;split at e
  ·cases e;cases k4 a;cases k4 b;exact ⟨_,_,rfl,rfl,q _ _ _ (.refl s) (rep_at.mpr rfl)⟩
  ·cases e
def Qi (z:Str):List PV:=z.cps.toList.map λc=> .at (.str ⟨#[c]⟩)
def dItS (a:M):MA:=λε=>(a ε).bind λx=>match x with
 | .at (.str z)=>some (Qi z)
 |_=>none
theorem Cr {z:Str}:zD (ItS z) (Qi z) Hs where
 go:=λi x Hs1 H1 e g1 g2=>by
  unfold Qi at e;rw [yM] at e;obtain ⟨c,hc,rfl⟩:=yL.mp e;rw [ub] at hc;have hl:i<z.cps.size:=(Array.getElem?_eq_some_iff.mp hc).1;refine ⟨hl,λv H2 y=>?_⟩;obtain ⟨rfl,c',hc',rfl⟩:=y;rw [hc] at hc';cases hc';exact ⟨Hs1,.refl g2,rep_at.mpr rfl⟩
 stop:=λHs1 H1 g1 g2=>by
  show (Qi z).length=z.cps.size;unfold Qi;rw [yZ,uo]
instance {a:M}[sa:SemE te a]:zh (iStr te) (dItS a) where
 h:=λe _ _ _ _ _ rs _ q=>by
  obtain ⟨x,ex,e1⟩:=bind_some e;split at e1
  ·cases e1;exact sa.h ex rs λv Hs1 H1 x1 r1=>⟨_,rep_at.mp r1,q _ _ _ x1 Cr⟩
  ·cases e1
theorem Gs {f:Str}{v:V}:∀{fs:List (Str×V)},f∉fs.map (·.1)->qI f v fs=fs++[(f,v)]
 |[],_=>rfl
 |(g,x)::r,h=>by
  rw [yO] at h;unfold qI;rw [if_neg (show ¬ g=f from λz=>h (by rw [<- z];exact yQ)),Gs λz=>h (yN _ z)];rfl
def KK (C:Addr)(f:Str)(a:W):WS:=λε N _=>a ε λy ε1=>∃ ns xs,ε1[0]?=some (.ow (.ob C ns xs))/\f∉ns/\ns.length<1000/\N (ε1.set 0 (.ow (.ob C (ns++[f]) (xs++[y]))))
instance [c:ze K C][n:NoA K C f][sa:SemW te a]:SemWS (Qh K (c6 0) te f) (KK C f a) where
 h:=λh _ _ _ _ _ _ rd _ k _=>sa.h h rd λy ε1 v Hs1 H1 h1 rd1 g1 r1=>by
  obtain ⟨ns,xs,he,hf,hl,h2⟩:=h1;obtain ⟨p,hp,h0,hs,dx,fs,hH,hk,hr⟩:=rd1.ow 0 _ he;have hf':f∉fs.map (·.1):=by rw [hk];exact hf
  have hl':fs.length<1000:=by rw [<- yZ (f:=(·.1)),hk];exact hl
  refine ⟨_,hp,p,C,dx,fs,rfl,hH,c.c,n.n,hl',?_⟩;rw [Gs hf'];exact k _ _ _ _ h2 (rd1.change he hp ⟨dx,_,v6,by rw [yw,hk];rfl,by rw [yw];exact hr.append (.one r1)⟩) g1
def vB (C:Addr)(nm:Str)(m:List PV->Option PV)(i:Nat)(as:MA):M:=λε=>match ε[i]? with
 |some (.ow (.ob C' ns fs))=>if C'=C/\nm∉ns then (as ε).bind λxs=>(m (.ob C ns fs::xs)).bind λy=>match y with
  | .at u=>some (.at u)
  |_=>none else none
 |_=>none
instance {i:Nat}[sa:qP ta as]:SemE (vi C nm (j7 m) [] E (c6 i) ta) (vB C nm m i as) where
 h:=λ{ε y} e {Hs0 H0 Hs H σ} rs {Q} q=>by
  unfold vB at e;split at e
  ·rename_i C' ns fs hi;split at e
   ·rename_i hc;obtain ⟨rfl,hn⟩:=hc;obtain ⟨xs,ex,e1⟩:=bind_some e;obtain ⟨z,ez,e2⟩:=bind_some e1;split at e2
    ·rename_i u;cases e2;obtain ⟨p,hp,n0,n,dx,gs,hH,hk,hr⟩:=rs.ow i _ hi;refine ⟨_,hp,p,dx,gs,rfl,hH,ZM (by rw [hk];exact hn),sa.h ex rs λvs Hs1 H1 x1 r1=>?_⟩;have hH1:=x1.s2 _ _ hH;have n1:Hs1 p=none:=x1.s4 p (by rw [hH];exact λz=>nomatch z) n;have g:Same Hs1 (z5 Hs1 p (.ins C' dx gs)):=λb w e=>by rw [z0 (w4 e n1)];exact e
     refine ⟨z5 Hs1 p (.ins C' dx gs),_,_,?_,?_,ez,λv Hs' H' x r=>?_⟩
     ·intro b w e;by_cases hb:b=p
      ·subst hb;rw [v6] at e;cases e;exact hH1
      ·rw [z0 hb] at e;exact x1.s3 _ _ e
     ·rw [yk];exact .cons (rep_ob.mpr ⟨p,dx,gs,rfl,v6,hk,(hr.mono x1.s1).mono g⟩) (r1.mono g)
     ·cases rep_at.mp r;refine q _ (λb=>if b=p then none else Hs' b) H' (x1.trans ⟨λb w e=>?_,x.s2,λb w e=>?_,λb hb w=>?_⟩) (rep_at.mpr rfl)
      ·rw [if_neg (w4 e n1)];exact x.s1 _ _ (g _ _ e)
      ·split at e
       ·cases e
       ·exact x.s3 _ _ e
      ·by_cases hbp:b=p
       ·rw [if_pos hbp]
       ·rw [if_neg hbp];exact x.s4 b hb (by rw [z0 hbp];exact w)
    ·cases e2
   ·cases e
  ·cases e
def spI (C:Addr)(m:List PV->Option PV):Sp:=λvs H Q _=>∃ Hs x dx xs ws y,vs = .ref x::ws/\Same Hs H/\H x=some (.ins C dx [])/\Hs x=none/\Reps Hs xs ws/\m xs=some y /\
 ∀ Hs' H',Same Hs Hs'->(∀ b o,H b=some o->b≠x->H' b=some o)->Same Hs' H'->(∀ b,H b≠none->b≠x->Hs b=none->Hs' b=none)->Rep Hs' y (.ref x)->Q .non H'
instance {ds:List V}[sa:qP ta as]:SemE (Qm C (spI C m) ds E ta) (Ze m ds as) where
 h:=λe _ _ _ _ _ rs _ q=>by
  obtain ⟨xs,ex,e1⟩:=bind_some e;refine sa.h ex rs λvs Hs1 H1 x1 r1=>λx dx hx hdx hne=>?_;have s3:Same Hs1 (z5 (z5 H1 dx (.own x)) x (.ins C dx [])):=λb o e=>by
   have e':=x1.s3 _ _ e;rw [z0 (w4 e' hx),z0 (w4 e' hdx)];exact e'
  refine ⟨Hs1,x,dx,_,_,_,rfl,s3,v6,x1.s3.free hx,r1.append (.ofAts ds),e1,λHs' H' g1 g2 g3 g4 r=>⟨rfl,q _ _ _ (x1.trans ⟨g1,λb o e=>?_,g3,λb hb z=>?_⟩) r⟩⟩
  ·refine g2 b o ?_ (w4 e hx);rw [z0 (w4 e hx),z0 (w4 e hdx)];exact e
  ·have hbx:b≠x:=λw=>hb (by rw [w];exact hx);have hbd:b≠dx:=λw=>hb (by rw [w];exact hdx);exact g4 b (by rw [z0 hbx,z0 hbd];exact hb) hbx z
section
variable {P:Program}{w:World}{K:Fg}{mg:Str->Option Value}{base:Heap}
theorem LN {a:Addr}(s:Same Hs H)(ha:Hs a=none)(t:Top Hs H a y)(r:Reps Hs xs ws):RD [a] Hs H Hs H (L2.start N (.ref a::ws)) (.ow y::xs.map .sh++List.replicate (N.length-(xs.length+1)) .no):=by
 have q:=zR (N:=N) (xs:= .at (.ref a)::xs) s (.cons (rep_at.mpr rfl) r);have tl:∀(i:Nat)(sl:MSlot),(MSlot.ow y::xs.map .sh++List.replicate (N.length-(xs.length+1)) .no)[i+1]?=some sl->((PV.at (.ref a)::xs).map MSlot.sh++List.replicate (N.length-(PV.at (.ref a)::xs).length) .no)[i+1]?=some sl:=λi sl h=>h;refine ⟨.refl _,λb o e _=>e,s,λ_ _ z=>z,λi x h=>?_,λi x h=>?_,λi j x y b h1 h2 _ _=>?_,?_,λb hb=>?_,λb hb=>?_,(λb hb=>⟨_,rfl⟩),λi x h=>by
  cases i with
  |zero=>simp at h
  |succ i=>exact Jv (xs:=PV.at (.ref a)::xs) (tl i _ h)⟩
 ·cases i with
  |zero=>simp at h
  |succ i=>exact q.sh (i+1) x (tl i _ h)
 ·cases i with
  |zero=>simp at h;subst h;exact ⟨a,by unfold L2.start;rfl,.inr (yR.mpr rfl),ha,t⟩
  |succ i=>exact absurd (tl i _ h) (vf (xs:=PV.at (.ref a)::xs))
 ·cases i with
  |zero =>
   cases j with
   |zero=>rfl
   |succ j=>exact absurd (tl j _ h2) (vf (xs:=PV.at (.ref a)::xs))
  |succ i=>exact absurd (tl i _ h1) (vf (xs:=PV.at (.ref a)::xs))
 ·exact q.len
 ·rw [yR.mp hb];unfold L2.start;rfl
 ·rw [yR.mp hb];exact t.there
end
variable {fr:Bool}
section
variable {ε:ME}{c d:MB}{f:M}{a b:WS}{N:ME->Prop}{R:PV->ME->Prop}
theorem vk (h:c ε=some false)(k:b ε N R):qx (wPT c) a b ε N R:=by
 refine ⟨false,h,?_⟩;show if false=true then a ε N R else b ε N R
 rw [if_neg yS];exact k
theorem Qt (h:c ε=some true)(k:a ε N R):qx (wPT c) a b ε N R:=by
 refine ⟨true,h,?_⟩;show if true=true then a ε N R else b ε N R
 rw [if_pos rfl];exact k
theorem ja (h1:c ε=some false)(h2:d ε=some false):dOr c d ε=some false:=by unfold dOr;rw [h1];show (if false=true then some true else d ε)=_;rw [if_neg yS];exact h2
theorem BO (h1:c ε=some false):zH c d ε=some false:=by unfold zH;rw [h1];rfl
theorem QF {v:Bool}(h1:c ε=some true)(h2:d ε=some v):zH c d ε=some v:=by unfold zH;rw [h1];show (if true=true then d ε else some false)=_;rw [if_pos rfl];exact h2
theorem qB (h:c ε=some true):i4 c ε=some false:=by unfold i4;rw [h];rfl
theorem qt {v:Bool}(h:f ε=some (.at (.bl v))):t0 f ε=some v:=by unfold t0;rw [h];rfl
theorem r9 {v:Bool}(h:f ε=some (.at (.bl v))):dT f ε=some v:=by unfold dT;rw [h];rfl
theorem ZC :m4 [.lst xs,.at (.ty "list")]=some (.at (.bl true)):=by unfold m4 tyP;simp only [yB,HH]
end
variable {fr:Bool}
theorem YE {g:MG}{f:M}{ε0:ME}{α:Type}(F G:α->PV):∀(l:List α),(∀ a∈l,∃ ε1,g (F a) ε0=some ε1/\f ε1=some (G a))->xj g u8 f ε0 (l.map F)=some (l.map G)
 |[],_=>rfl
 |a::l,h=>by
  obtain ⟨ε1,e1,e2⟩:=h a yQ;have ih:=YE F G l λb hb=>h b (yN _ hb);show Option.bind (g (F a) ε0) (λε1=>Option.bind (u8 ε1) λb=>if b=true then (f ε1).bind λy=>(xj g u8 f ε0 (l.map F)).bind λys=>some (y::ys) else xj g u8 f ε0 (l.map F))=_;rw [e1,ih];show (if true=true then (f ε1).bind λy=>some (y::l.map G) else some (l.map G))=_;rw [if_pos rfl,e2];rfl
theorem YC {g:MG}{c:MB}{f:M}{ε0:ME}{α:Type}(F G:α->PV)(p:α->Bool):∀(l:List α),(∀ a∈l,∃ ε1,g (F a) ε0=some ε1/\c ε1=some (p a)/\(p a=true->f ε1=some (G a)))->xj g c f ε0 (l.map F)=some ((l.filter p).map G)
 |[],_=>rfl
 |a::l,h=>by
  obtain ⟨ε1,e1,e2,e3⟩:=h a yQ;have ih:=YC F G p l λb hb=>h b (yN _ hb);show Option.bind (g (F a) ε0) (λε1=>Option.bind (c ε1) λb=>if b=true then (f ε1).bind λy=>(xj g c f ε0 (l.map F)).bind λys=>some (y::ys) else xj g c f ε0 (l.map F))=_;rw [e1,ih];show Option.bind (c ε1) (λb=>if b=true then (f ε1).bind λy=>some (y::(l.filter p).map G) else some ((l.filter p).map G))=_;rw [e2,yB,uq];cases hp:p a with
  |true=>rw [if_pos rfl,if_pos rfl,e3 hp];rfl
  |false=>rw [if_neg yS,if_neg yS]
theorem t6 {cap:List (Option Nat)}{g:MG}{f:M}(F G:α->PV)(l:List α)(h:it ε=some (l.map F))(hc:jD cap ts=true)(hl:l.length<=lim)(k:∀ a∈l,∃ ε1,g (F a) (s9 cap ε)=some ε1/\f ε1=some (G a)):u7 cap ts it g u8 f ε=some (.lst (l.map G)):=YU h hc (by rw [yZ];exact hl) (YE F G l k)
theorem ev_cf {cap:List (Option Nat)}{g:MG}{f:M}(F G:α->PV)(p:α->Bool)(l:List α)(h:it ε=some (l.map F))(hc:jD cap ts=true)(hl:l.length<=lim)(k:∀ a∈l,∃ ε1,g (F a) (s9 cap ε)=some ε1/\c ε1=some (p a)/\(p a=true->f ε1=some (G a))):u7 cap ts it g c f ε=some (.lst ((l.filter p).map G)):=YU h hc (by rw [yZ];exact hl) (YC F G p l k)
theorem ZP {g:MG}{f:MS}{α:Type}(F:α->PV)(I:List α->ME->Prop)(h:∀ a l ε,I (a::l) ε->∃ ε1 ε2,g (F a) ε=some ε1/\f ε1=some (.nx ε2)/\I l ε2):∀(l:List α)(ε:ME),I l ε->∃ ε',p9 g f (l.map F) ε=some (.nx ε')/\I [] ε'
 |[],ε,i=>⟨ε,rfl,i⟩
 |a::l,ε,i=>by
  obtain ⟨ε1,ε2,e1,e2,i2⟩:=h a l ε i;obtain ⟨ε',e3,i3⟩:=ZP F I h l ε2 i2;refine ⟨ε',?_,i3⟩;show Option.bind (g (F a) ε) (λε1=>Option.bind (f ε1) λo=>match o with
   | .nx ε2=>p9 g f (l.map F) ε2
   | .ct ε2=>p9 g f (l.map F) ε2
   | .bk ε2=>some (.nx ε2)
   | .rt y=>some (.rt y))=_
  rw [e1,yB,e2];exact e3
section
variable {ε:ME}{a b:M}{v w:Bool}
theorem zk (h1:a ε=some (.at (.bl true)))(h2:b ε=some (.at (.bl w))):qJ a b ε=some (.at (.bl w)):=by unfold qJ;rw [h1];exact h2
theorem Pd (h1:a ε=some (.at (.bl false))):qJ a b ε=some (.at (.bl false)):=by unfold qJ;rw [h1];rfl
theorem Pg (h1:a ε=some (.at (.bl v))):QI a ε=some (.at (.bl (!v))):=by unfold QI;rw [h1];rfl
theorem Pf (h:c ε=some true)(k:a ε=some x):dIf c a b ε=some x:=by unfold dIf;rw [h];exact k
theorem YV (h:c ε=some false)(k:b ε=some x):dIf c a b ε=some x:=by unfold dIf;rw [h];exact k
theorem Zo {g g':PV->PV->Option PV}{c:M}{z:PV}{r:Bool}(h1:a ε=some x)(h2:b ε=some y)(h3:g x y=some (.at (.bl true)))(h4:c ε=some z)(h5:g' y z=some (.at (.bl r))):jF g g' a b c ε=some (.at (.bl r)):=by unfold jF;rw [h1,yB,h2,yB,h3];show Option.bind (c ε) _=_;rw [h4];exact h5
theorem QP (h:a ε=some x):zZ a ε=some (.nx ε):=by unfold zZ;rw [h];rfl
theorem qD:r6 ε=some (.nx ε):=rfl
theorem xw (h:a ε=some (.lst xs)):u4 a ε=some xs:=by unfold u4;rw [h];rfl
theorem vH (h:a ε=some (.ob C ns xs))(k:vN f ns xs=some y):xS C f a ε=some y:=by unfold xS;rw [h,yB];show (if C=C then _ else _)=_;rw [if_pos rfl];exact k
theorem jJ {fs:List PV}{y:Option PV}(h:a ε=some (.ob C ns fs))(hn:nm∉ns)(k:as ε=some xs)(e:m (.ob C ns fs::xs)=y):xk C nm m a as ε=y:=by unfold xk;rw [h,yB];show (if C=C/\nm∉ns then _ else _)=_;rw [if_pos ⟨rfl,hn⟩,k];exact e
theorem QQ {n k:Nat}{bd:MS}(hl:xs.length=k)(h:bd (xs.map .sh++List.replicate (n-k) .no)=some (.nx ε')):k7 n k bd xs=some (.at .non):=by unfold k7;rw [if_pos hl,h];rfl
theorem Ci :m4 [.at (.int n),.at (.ty "int")]=some (.at (.bl true)):=by unfold m4 tyP;simp only [yB,HG]
theorem Cj :m4 [.at (.int n),.at (.ty "bool")]=some (.at (.bl false)):=by unfold m4 tyP;simp only [yB,HF]
theorem Ur {n:Str}:m4 [.at (.str n),.at (.ty "str")]=some (.at (.bl true)):=by unfold m4 tyP;simp only [yB,HI]
theorem Ck {n:List PV}:m4 [.tup n,.at (.ty "tuple")]=some (.at (.bl true)):=by unfold m4 tyP;simp only [yB,HJ]
theorem Yn:∀ bs:List Bool,bls (bs.map λb=> .at (.bl b))=some bs
 |[]=>rfl
 |b::bs=>by
  have ih:=Yn bs;rw [yO];unfold bls;rw [ih];rfl
theorem KY (bs:List Bool):xC [.lst (bs.map λb=> .at (.bl b))]=some (.at (.bl (bs.all id))):=by show (bls _).bind _=_;rw [Yn];rfl
theorem jy (l:List α):xC [.lst (l.map λ_=> .at (.bl true))]=some (.at (.bl true)):=by
 have e:(l.map λ_=>PV.at (.bl true))=((l.map λ_=>true).map λb=>PV.at (.bl b)):=by rw [yF];rfl
 rw [e,KY];have:(l.map λ_=>true).all id=true:=by simp
 rw [this]
end
def leS (a b:Str):Bool:=!decide (b.cps.toList<a.cps.toList)
def zS (ss:List Str):List Str:=ss.mergeSort leS
theorem Vy (ss:List Str):(zS ss).Perm ss:=List.mergeSort_perm ss leS
theorem NU (ss:List Str):Qy (zS ss):=by
 have:=List.pairwise_mergeSort (le:=leS) (λa b c h1 h2=>by
  unfold leS at h1 h2 ⊢;simp only [Bool.not_eq_true',decide_eq_false_iff_not] at h1 h2 ⊢;exact uz.mpr (List.le_trans (uz.mp h1) (uz.mp h2))) (λa b=>by
  unfold leS;by_cases h:b.cps.toList<a.cps.toList
  ·have h2:¬ (a.cps.toList<b.cps.toList):=λk=>List.lt_irrefl _ (List.lt_trans h k);simp [h2]
  ·simp [h]) ss
 exact this.imp λh=>by unfold leS at h;simpa using h
theorem Vx {ss ss':List Str}(p:ss'.Perm ss)(u:Qy ss'):ss'=zS ss :=
 List.Perm.eq_of_pairwise (λa b _ _ h1 h2=>by
  have e:=List.le_antisymm (uz.mp h1) (uz.mp h2);cases a;cases b;simp only [Str.mk.injEq];exact tZ.mp e) u (NU ss) (p.trans (Vy ss).symm)
def jp:List PV->Option (List Str)
 |[]=>some []
 | .at (.str s)::xs=>(jp xs).map (s::·)
 |_::_=>none
theorem VA:∀{xs:List PV}{ss:List Str},jp xs=some ss->xs=ss.map λs=> .at (.str s)
 |[],_,h=>by cases h;rfl
 |x::xs,ss,h=>by
  unfold jp at h;split at h
  ·rename_i e;cases e
  ·rename_i s' xs' e;injection e with e1 e2;subst e1 e2;obtain ⟨r,hr,rfl⟩:=yL.mp h;rw [VA hr];rfl
  ·cases h
def jc:List x8->Option (List Str)
 |[]=>some []
 | .inr s::xs=>(jc xs).map (s::·)
 |_::_=>none
theorem ZF:∀{xs:List x8}{ss:List Str},jc xs=some ss->xs=ss.map Sum.inr
 |[],_,h=>by cases h;rfl
 |x::xs,ss,h=>by
  unfold jc at h;split at h
  ·rename_i e;cases e
  ·rename_i s' xs' e;injection e with e1 e2;subst e1 e2;obtain ⟨r,hr,rfl⟩:=yL.mp h;rw [ZF hr];rfl
  ·cases h
def Jf:List PV->Option PV
 |[.lst xs]=>(jp xs).bind λss=>if ss.length<64 then some (.lst ((zS ss).map λs=> .at (.str s))) else none
 |[.dk ks _]=>(jc ks).bind λss=>if ss.length<64 then some (.lst ((zS ss).map λs=> .at (.str s))) else none
 |[.fk ks _]=>(jc ks).bind λss=>if ss.length<64 then some (.lst ((zS ss).map λs=> .at (.str s))) else none
 |_=>none
theorem Jr (ss:List Str):Reps H (ss.map λs=> .at (.str s)) (ss.map V.str):=by have:=Reps.ofAts (H:=H) (ss.map V.str);rwa [yF] at this
instance :XU (GE K) Jf where
 h:=λ{xs z} e {Hs H vs} s r {Q} q=>by
  unfold Jf at e;split at e
  ·obtain ⟨ss,eb,e1⟩:=bind_some e;split at e1
   ·rename_i hl;cases e1;obtain ⟨v,rfl,a⟩:=xH r;obtain ⟨p,ws,rfl,e1,r1⟩:=o9 s a;rw [VA eb,show (ss.map λb=>PV.at (.str b))=(ss.map V.str).map .at by rw [yF];rfl] at r1;cases r1.ats;refine ⟨p,ss,rfl,.inl (SqL.of e1),hl,λl ss' hn p1 p2=>?_⟩;rw [Vx p1 p2];exact q l _ _ (.newO s hn) hn (s.free hn) ⟨_,v6,Jr _⟩
   ·cases e1
  ·obtain ⟨ss,eb,e1⟩:=bind_some e;split at e1
   ·rename_i hl;cases e1;obtain ⟨v,rfl,a⟩:=xH r;obtain ⟨p,kvs,rfl,hp,hk,hr⟩:=jn s a;refine ⟨p,ss,rfl,.inr ⟨kvs,.inl hp,by rw [hk,ZF eb]⟩,hl,λl ss' hn p1 p2=>?_⟩;rw [Vx p1 p2];exact q l _ _ (.newO s hn) hn (s.free hn) ⟨_,v6,Jr _⟩
   ·cases e1
  ·obtain ⟨ss,eb,e1⟩:=bind_some e;split at e1
   ·rename_i hl;cases e1;obtain ⟨v,rfl,a⟩:=xH r;obtain ⟨p,o,kvs,rfl,hp,hk,hr⟩:=Qg s a;refine ⟨p,ss,rfl,.inr ⟨kvs,.inr ⟨o,hp⟩,by rw [hk,ZF eb]⟩,hl,λl ss' hn p1 p2=>?_⟩;rw [Vx p1 p2];exact q l _ _ (.newO s hn) hn (s.free hn) ⟨_,v6,Jr _⟩
   ·cases e1
  ·cases e
def GD (K:Fg):List V->Hp->VK->Prop:=λxs H Q=>∃(a:Addr)(ss:List Str),xs=[.ref a]/\SqL K H a (ss.map V.str)/\ss.length<=1000 /\
  ∀ l,H l=none->Q (.ref l) (z5 H l (jx (k9 (λi=>(Sum.inr (ss.getD i ⟨#[]⟩):x8)) ss.length).length l))
theorem BA (hc:X.calm=true)(h:X.K=K):CallR X (.type "set") (GD K):=by subst h;exact BB hc
def ZS (ss:List Str):Nat:=(k9 (λi=>(Sum.inr (ss.getD i ⟨#[]⟩):x8)) ss.length).length
def GA:List V->Hp->VK->Prop:=λxs H Q=>∃(a:Addr)(n:Nat),xs=[.ref a]/\H a=some (jx n a)/\Q (.int n) H
theorem Bx :CallR X (.builtin "len") GA:=Bw
def YI (a:M):M:=λε=>(a ε).bind λx=>match x with
 | .lst xs=>(jp xs).bind λss=>if ss.length<=1000 then some (.at (.int (ZS ss))) else none
 |_=>none
instance {a:M}[sa:c9 te a]:SemE (tCB GA (i7 (tCB (GD K) (i7 te o5)) o5)) (YI a) where
 h:=λe _ _ _ _ _ rs _ q=>by
  obtain ⟨x,ex,e1⟩:=bind_some e;split at e1
  ·obtain ⟨ss,eb,e2⟩:=bind_some e1;split at e2
   ·rename_i hl;cases e2;refine sa.h ex rs λv Hs1 H1 x1 r1=>?_;obtain ⟨p,ws,rfl,ep,r2⟩:=o9 x1.s3 r1;rw [VA eb,show (ss.map λb=>PV.at (.str b))=(ss.map V.str).map .at by rw [yF];rfl] at r2;cases r2.ats;refine ⟨p,ss,rfl,SqL.of ep,hl,λl hn=>⟨l,_,rfl,v6,q _ _ _ (x1.trans (.newO x1.s3 hn)) (rep_at.mpr rfl)⟩⟩
   ·cases e2
  ·cases e1
structure Mkr (P:Program)(w:World)(K:Fg)(mg:Str->Option Value)(base:Heap)(k:Nat)(C:Addr)(ps:List Str)(sp:Sp):Prop where
 ex:∃ f fd,FnOk P w K mg base j6 k f fd ps sp/\Mk K C f/\Binds K fd ps []
theorem pe_mk {k j:Nat}{x:Str}{p:Pos}{es:List Expr}{t:TA}(c:Mkr X.prog X.w X.K X.mg X.base k C ps sp)(hr:Room j X.A)(hj:k+1<=j)(hg:Gl X x)(hm:X.mg x=some (.ref C))(ha:PA X (e::es) t)(hdb:(x==("__debug__":Str))=false:=by decide)(he:starEach (e::es) X.env=(false,eval e X.env)::starEach es X.env:=by rfl)(hpl:(backTo pos (starEach es X.env)).any (·.1)=false:=by rfl):PE X (.Call (.Name x p) (e::es) [] pos) (Qm C sp [] E0 t):=by obtain ⟨f,fd,F,hm',hb⟩:=c.ex;exact MQ hm' F (hr.mono hj) hg hm hb .nil Xs ha hdb he hpl
instance (priority:=1100)[sa:qP ta as]:SemE (Qm C (spI C m) [] E ta) (z6 m as) where
 h:=λ{ε y} e=>SemE.h (te:=Qm C (spI C m) [] E ta) (f:=Ze m [] as) (by
  unfold Ze;unfold z6 at e;simpa using e)
structure FunD (K:Fg)(x qual:Str)(st:Stmt)(f:Addr)(fd:FuncData):Prop where
 ex:∃(oc:Value)(od:Option Addr)(dV kV doc pm:Value)(an:Option Addr)(cdv ct:Value)(osl:Array (Option Value)),
  fd=PySem.W.fnOf x qual (xl st) (o3 st) (z9 st) dV kV doc pm an cdv ct/\K.lookup f=some ⟨oc,od,.func fd,osl⟩/\PySem.W.codeIn K cdv qual=true
 kp:PySem.W.keepIn K (.ref f)=true
section
variable {P:Program}{w:World}{K:Fg}{mg:Str->Option Value}{base:Heap}
theorem FunD.ok {x:Str}{f:Addr}{k:Nat}(F:FunD K x qual st f fd)(S:v8 N ps (z9 st))(len:∀ vs H Q E,sp vs H Q E->vs.length=ps.length)(hbody:∀(cdv:Value)(A:Around)(outer:List Env)(s:Shared)(H:Hp)(vs:List V)(Q:VK)(E:XK),Room k (A.deeper (PyProof.Rows.envOfC qual (z9 st) s.heap.objs.size f cdv))->sp vs H Q E -> ∃ t,PSs (qR j6 P w K mg base N qual (z9 st) f cdv A outer s H E).nox (o3 st) t/\t { nx:=λ_ H'=>Q .non H',rt:=Q } (L2.start N vs) H):FnOk P w K mg base j6 (k+1) f fd ps sp:=by obtain ⟨oc,od,dV,kV,doc,pm,an,cdv,ct,osl,rfl,lk,hcd⟩:=F.ex;refine Zv lk hcd S len λA outer s H vs Q E hr hsp=>?_;obtain ⟨t,h,q⟩:=hbody cdv A outer s H vs Q E hr hsp;exact ⟨t,h.nox,q⟩
theorem Po {x:Str}{f:Addr}{oc:Value}{od an:Option Addr}{osl:Array (Option Value)}{dV kV doc pm cdv ct:Value}(l:K.lookup f=some ⟨oc,od,.func (PySem.W.fnOf x qual (xl st) (o3 st) (z9 st) dV kV doc pm an cdv ct),osl⟩)(c:PySem.W.codeIn K cdv qual=true)(k:PySem.W.keepIn K (.ref f)=true):FunD K x qual st f (PySem.W.fnOf x qual (xl st) (o3 st) (z9 st) dV kV doc pm an cdv ct):=⟨⟨oc,od,dV,kV,doc,pm,an,cdv,ct,osl,rfl,l,c⟩,k⟩
theorem Qe {o value:Expr}{ta:TE}{pos':Pos}(hK:X.K=K)(ha:PE X o ta)(hv:PE X value tv)(hs:swapsWith value (some (.Attribute o f pos')) pos.line X.env=pure false:=by rfl):PS X (.Assign [.Attribute o f pos'] value pos) (Qh K ta tv f):=by subst hK;exact Lr ha hv hs
theorem okI' {x:Str}{f:Addr}{k:Nat}(F:FunD K x qual st f fd)(S:v8 N ps (z9 st))(hm:∀ xs y,m xs=some y->xs.length+1=ps.length)(hb:∀(cdv:Value)(A:Around)(outer:List Env)(s:Shared)(H:Hp)(E:XK),Room k (A.deeper (PyProof.Rows.envOfC qual (z9 st) s.heap.objs.size f cdv)) -> ∃ t,PSs (qR j6 P w K mg base N qual (z9 st) f cdv A outer s H E).nox (o3 st) t/\SemWS t b)(hw:∀ xs y,m xs=some y->b (.ow (.ob C [] [])::xs.map .sh++List.replicate (N.length-(xs.length+1)) .no) (λε=>ε[0]?=some (.ow y)) λ_ _=>False):FnOk P w K mg base j6 (k+1) f fd ps (spI C m):=by
 refine F.ok S (λvs H Q E h=>?_) (λcdv A outer s H vs Q E hr h=>?_)
 ·obtain ⟨Hs,x,dx,xs,ws,y,rfl,_,_,_,r,e,_⟩:=h;rw [yA,r.length];exact hm xs y e
 ·obtain ⟨Hs,x,dx,xs,ws,y,rfl,sm,hx,hs,r,e,q⟩:=h;obtain ⟨t,ht,sem⟩:=hb cdv A outer s H E hr;refine ⟨t,ht,sem.h (hw xs y e) (LN sm hs ⟨dx,[],hx,rfl,.nil⟩ r) (λε σ Hs' H' z rd g=>?_) λ_ _ _ _ _ _ z _ _ _=>z.elim⟩;obtain ⟨a,ha,_,n,tp⟩:=rd.ow 0 y z;rw [rd.pin x (yR.mpr rfl)] at ha;injection ha with ha;injection ha with ha;injection ha with ha;subst ha;obtain ⟨o,ho,ro⟩:=tp.rep n;have g2:Same Hs' (z5 Hs' x o):=λb u e=>by rw [z0 (w4 e n)];exact e
  refine q (z5 Hs' x o) H' (g.trans g2) (λb u e hb=>rd.s2 b u e λw=>hb (yR.mp w)) (λb u e=>?_) (λb hb hbx w=>?_) ro
  ·by_cases hbx:b=x
   ·subst hbx;rw [v6] at e;cases e;exact ho
   ·rw [z0 hbx] at e;exact rd.s3 _ _ e
  ·rw [z0 hbx];exact rd.s4 b hb w
end
def zj (C:Addr)(f:Str)(a:M):MS:=λε=>(a ε).bind λy=>match (ε[0]?:Option MSlot) with
 |some (.ow (.ob C' ns xs))=>if C'=C/\f∉ns/\ns.length<1000 then some (.nx (ε.set 0 (.ow (.ob C (ns++[f]) (xs++[y]))))) else none
 |_=>none
def wPN (f:MS):WS:=λε N _=>∃ ε',f ε=some (.nx ε')/\N ε'
theorem BQ {a:M}{o:Out}(h:zj C f a ε=some o):∃ y ns xs,a ε=some y/\ε[0]?=some (.ow (.ob C ns xs))/\f∉ns/\ns.length<1000/\o = .nx (ε.set 0 (.ow (.ob C (ns++[f]) (xs++[y])))):=by
 unfold zj at h;obtain ⟨y,ey,h1⟩:=bind_some h;split at h1
 ·rename_i C' ns xs he;split at h1
  ·rename_i hc;cases h1;obtain ⟨rfl,h2,h3⟩:=hc;exact ⟨y,ns,xs,ey,he,h2,h3,rfl⟩
  ·cases h1
 ·cases h1
instance {a:M}[c:ze K C][n:NoA K C f][sa:SemE te a]:SemWS (Qh K (c6 0) te f) (wPN (zj C f a)) where
 h:=λ{ε N R} h=>by
  obtain ⟨ε',e,h1⟩:=h;obtain ⟨y,ns,xs,ey,he,h2,h3,e4⟩:=BQ e;injection e4 with e4;subst e4;exact SemWS.h (ts:=Qh K (c6 0) te f) (w:=KK C f (wP a)) ⟨y,ey,ns,xs,he,h2,h3,h1⟩
instance {a:M}[sa:SemE te a]:SemWS (we te) (wPN (zZ a)) where
 h:=λ{ε N R} h=>by
  obtain ⟨ε',e,h1⟩:=h;obtain ⟨y,ey,e2⟩:=bind_some e;cases e2;exact SemWS.h (ts:=we te) (w:=KJ (wP a)) ⟨y,ey,h1⟩
instance NJ {u:TS}{a b:MS}[sa:SemWS t (wPN a)][sb:SemWS u (wPN b)]:SemWS (tSeq t u) (wPN (k5 a b)) where
 h:=λ{ε N R} h S Hs0 H0 Hs H σ rd D k rt=>by
  obtain ⟨ε',e,h1⟩:=h;obtain ⟨o1,e1,e2⟩:=bind_some e;refine SemWS.h (ts:=tSeq t u) (w:=wSeq (wPN a) (wPN b)) (ε:=ε) (N:=N) (R:=R) ?_ rd k rt;cases o1 with
  |nx ε1=>exact ⟨ε1,e1,ε',e2,h1⟩
  |rt y=>cases e2
  |bk ε1=>cases e2
  |ct ε1=>cases e2
def wv (n k:Nat)(C:Addr)(f:MS):List PV->Option PV:=λxs=>if xs.length+1=k then (f (.ow (.ob C [] [])::xs.map .sh++List.replicate (n-k) .no)).bind λo=>match o with
 | .nx ε=>(match (ε[0]?:Option MSlot) with
  |some (.ow y)=>some y
  |_=>none)
 |_=>none else none
theorem okID {P:Program}{w:World}{mg:Str->Option Value}{base:Heap}{x:Str}{f:Addr}{k:Nat}{b:MS}(F:FunD K x qual st f fd)(S:v8 N ps (z9 st))(hm:m=wv N.length ps.length C b)(hb:∀(cdv:Value)(A:Around)(outer:List Env)(s:Shared)(H:Hp)(E:XK),Room k (A.deeper (PyProof.Rows.envOfC qual (z9 st) s.heap.objs.size f cdv)) -> ∃ t,PSs (qR j6 P w K mg base N qual (z9 st) f cdv A outer s H E).nox (o3 st) t/\SemWS t (wPN b)):FnOk P w K mg base j6 (k+1) f fd ps (spI C m):=by
 subst hm;refine okI' F S (λxs y e=>?_) hb (λxs y e=>?_)
 ·unfold wv at e;split at e
  ·rename_i hl;exact hl
  ·cases e
 ·unfold wv at e;split at e
  ·rename_i hl;obtain ⟨o,eo,e1⟩:=bind_some e;rw [hl];cases o with
   |nx ε =>
    refine ⟨ε,eo,?_⟩;have e2:(match (ε[0]?:Option MSlot) with
     |some (.ow y)=>some y
     |_=>none)=some y:=e1
    show ε[0]?=some (.ow y);split at e2
    ·rename_i z hz;cases e2;exact hz
    ·cases e2
   |rt z=>cases e1
   |bk z=>cases e1
   |ct z=>cases e1
  ·cases e
def xG:List PV->Option (List (x8×PV))
 |[]=>some []
 | .tup [k,v]::xs=>(xh k).bind λkk=>(xG xs).map ((kk,v)::·)
 |_::_=>none
def jf:List PV->Option PV
 |[.lst xs]=>(xG xs).bind λps=>if (ps.map (·.1)).Nodup/\ps.length<=1000 then some (.fk (ps.map (·.1)) (ps.map (·.2))) else none
 |_=>none
theorem Gm {Hs H:Hp}(s:Same Hs H):∀{xs:List PV}{ps:List (x8×PV)}{vs:List V},xG xs=some ps->Reps Hs xs vs->∃(ts:List Addr)(kvs:List (x8×V)),vs=ts.map V.ref/\Paired (λt (kv:x8×V)=>H t=some (.tup [kV kv.1,kv.2])) ts kvs/\kvs.map (·.1)=ps.map (·.1)/\Reps Hs (ps.map (·.2)) (kvs.map (·.2))
 |[],ps,vs,h,r=>by
  cases h;cases reps_nil.mp r;exact ⟨[],[],rfl,.nil,rfl,.nil⟩
 |x::xs,ps,vs,h,r=>by
  unfold xG at h;split at h
  ·rename_i e;cases e
  ·rename_i k v xs' e;injection e with e1 e2;subst e1 e2;obtain ⟨kk,ek,h1⟩:=bind_some h;obtain ⟨ps',hp,rfl⟩:=yL.mp h1;obtain ⟨w,ws,rfl,r1,r2⟩:=reps_cons.mp r;obtain ⟨t,us,rfl,ht,ru⟩:=rep_tup.mp r1;obtain ⟨u1,us1,rfl,p1,p2⟩:=reps_cons.mp ru;obtain ⟨u2,us2,rfl,p3,p4⟩:=reps_cons.mp p2;cases reps_nil.mp p4;have ew:=xz (H:=H) (.inl p1) ek;subst ew;obtain ⟨ts,kvs,rfl,q1,q2,q3⟩:=Gm s hp r2;exact ⟨t::ts,(kk,u2)::kvs,rfl,.cons (s _ _ ht) q1,by rw [yO,yO,q2],.cons p3 q3⟩
  ·cases h
instance:wq Gy jf where
 h:=λ{xs z} e {Hs H vs} s r {Q} q=>by
  unfold jf at e;split at e
  ·obtain ⟨ps,eb,e1⟩:=bind_some e;split at e1
   ·rename_i hl;cases e1;obtain ⟨v,rfl,a⟩:=xH r;obtain ⟨p,ws,rfl,ep,r1⟩:=o9 s a;obtain ⟨ts,kvs,rfl,q1,q2,q3⟩:=Gm s eb r1;have hk:kvs.length=ps.length:=by have:=congrArg List.length q2;rwa [yZ,yZ] at this
    refine ⟨p,ts,kvs,rfl,ep,q1,by rw [q2];exact hl.1,by omega,λl o hn=>?_⟩;exact q _ _ _ (.new s hn) (rep_fk.mpr ⟨l,o,kvs,rfl,v6,q2,q3.mono (Ext.new s hn).s1⟩)
   ·cases e1
  ·cases e
def dItV (a:M):MA:=λε=>(a ε).bind λx=>match x with
 | .fk _ xs=>some xs
 |_=>none
theorem Cs {a:Addr}{o:Obj}(h:Hs a=some (.frz o (.dK kvs)))(r:Reps Hs xs (kvs.map (·.2))):zD (Itv a o kvs) xs Hs where
 go:=λi x Hs1 H1 e g1 g2=>by
  obtain ⟨v,ev,rv⟩:=r.get e;have hl:i<kvs.length:=by have:=(yz.mp ev).1;rwa [yZ] at this
  refine ⟨⟨g2 _ _ (g1 _ _ h),hl⟩,λw H2 y=>?_⟩;obtain ⟨rfl,k,y⟩:=y;rw [yM,y] at ev;cases ev;exact ⟨Hs1,.refl g2,rv.mono g1⟩
 stop:=λHs1 H1 g1 g2=>⟨g2 _ _ (g1 _ _ h),by have:=r.length;rw [yZ] at this;omega⟩
instance {a:M}[sa:SemE te a]:zh (Uh te) (dItV a) where
 h:=λe _ _ _ _ _ rs _ q=>by
  obtain ⟨x,ex,e1⟩:=bind_some e;split at e1
  ·cases e1;refine sa.h ex rs λv Hs1 H1 x1 r1=>?_;obtain ⟨p,o,kvs,rfl,hp,_,r⟩:=rep_fk.mp r1;exact ⟨p,o,kvs,rfl,x1.s3 _ _ hp,q _ _ _ x1 (Cs hp r)⟩
  ·cases e1
end Mi
namespace L2
open PySem PySem.Spec PyProof.Rows
variable{pos:Pos}{l:List Value}
theorem Hm:∀{l:List Value}{i j:Int}{t u:Tok}{c:Value},TriplesOk l->TriplesOk (l++[.int i t,.int j u,c]):=by
 intro l i j t u c h
 fun_induction TriplesOk l with
 |case1=>trivial
 |case2 _ _ _ _ _ rest ih=>exact ih h
 |case3=>exact h.elim
theorem Ba {c:Value}{r:List Value}(h:codeAmong pos l=some c):codeAmong pos (l++r)=some c:=by
 fun_induction codeAmong pos l with
 |case1 line t col u d rest e=>show codeAmong pos (.int line t:: .int col u::d::(rest++r))=some c;unfold codeAmong;rw [if_pos e];exact h
 |case2 line t col u d rest e ih=>show codeAmong pos (.int line t:: .int col u::d::(rest++r))=some c;unfold codeAmong;rw [if_neg e];exact ih h
 |case3=>cases h
theorem KZ {i j:Int}{t u:Tok}{d:Value}(ok:TriplesOk l)(h:codeAmong pos l=none):codeAmong pos (l++[.int i t,.int j u,d])=if i==pos.line&&j==pos.col then some d else none:=by
 fun_induction TriplesOk l with
 |case1=>show codeAmong pos (.int i t:: .int j u::d::[])=_;unfold codeAmong;rfl
 |case2 a b c e f rest ih =>
  unfold codeAmong at h;split at h
  ·cases h
  ·rename_i ne;show codeAmong pos (.int a b:: .int c e::f::(rest++_))=_;unfold codeAmong;rw [if_neg ne];exact ih ok h
 |case3=>exact ok.elim
section
variable {X:Cx}{pins:List (Addr×Obj)}{σ:St}{H:Hp}{s:Shared}{Pt c:Addr}{ps:Array Value}{wt:List (Pos×Str)}{params:Arguments}{body:Expr}{scope:Scope}{pos:Pos}{clos:List (Str×Addr)}{Q:Value->Shared->Prop}{E:Value->Shared->Prop}
theorem Inv.trackN {h':Heap}{tk:Tok}{o:HO}{ob:Obj}(I':Inv X pins σ H { s with heap:=h',toks:=tk })(nb:H h'.objs.size=none)(J:Inv X pins σ H { s with heap:=h'.push ob,toks:=tk })(new:ObjOk X.prog X.w (z5 H h'.objs.size o) (h'.push ob) h'.objs.size o):Inv X pins σ (z5 H h'.objs.size o) { s with heap:=h'.push ob,toks:=tk }:=by
 refine J.track I'.sz nb (uu I'.lt) (λx c e=>?_) (λq hq=>?_) new
 ·obtain ⟨v,oc,e1,_⟩:=I'.cell x c e;exact yK (yT e1)
 ·exact yK (yT (I'.pin q hq).1)
theorem CM (I:Inv X pins σ H s)(hP:(Pt,ps,wt)∈TABS)(hw:(pos,X.env.qual ++ "<lambda>")∈wt)(hu:∀ p∈wt,(p.1.line==pos.line&&p.1.col==pos.col)=true->p.2=X.env.qual ++ "<lambda>")(hcode:X.env.code = .ref c)(C:PySem.W.CodeHd X.base c Pt)(hcl:closureFor scope X.env=pure clos)(hdef:defaultsOf params X.env=([],[]))(h:∀ (f c':Addr) (oc:Obj) (vs:Array Value) (tq:Tok) (ctv:Value) (H':Hp) (h':Heap) (tk:Tok),Inv X pins σ H' { s with heap:=h',toks:=tk }->(∀ b o,H b=some o->H' b=some o)->(∀ b,H b=none->H' b≠none->s.heap.get? b=none) -> H' f=some (.frz (PySem.W.kla_obj "<lambda>" (X.env.qual ++ "<lambda>") params body scope clos ((X.mg "__name__").getD .none) c' ctv) (.own Pt))->H' c'=some (.frz oc (.own Pt))->oc.data = .fields vs->vs[1]?=some (.str (X.env.qual ++ "<lambda>") tq)->Q (.ref f) { s with heap:=h',toks:=tk }):wpAny (model X.prog X.w) X.A (eval (.Lambda params body scope pos) X.env) Q E s:=by
 have hT:H Pt=some (.tbl ps wt):=I.base.tbls _ _ _ (I.ok.tbs _ hP);obtain ⟨more,eP,tri,wk⟩:=I.hok Pt _ hT;obtain ⟨bm,ob,b1,b2,b3,b4,b5,b6⟩:=I.mod.bmn;have hgs:=(I.mod.glob).keeps I.bk;have hgP:mainGlobals≠Pt:=λz=>by
  obtain ⟨o,_,_,e,_⟩:=I.mod.glob;have:=(I.bs _ _ e).2;rw [z,hT] at this;cases this
 have hbP:bm≠Pt:=λz=>by
  have:=(I.bs _ _ b3).2;rw [z,hT] at this;cases this
 have hbG:bm≠mainGlobals:=λz=>by
  obtain ⟨o,es,ep,e,hd,_⟩:=I.mod.glob;rw [z,e] at b3;cases b3;rw [hd] at b6;cases b6
 have hB:s.heap.BuiltinsAt X.mg Pt:=⟨bm,ob,b1,b2,hbG,hbP,I.bk _ _ b3,b4,b5,b6⟩;refine PySem.W.kla_eval hdef ?_;rcases wk _ hw with hn|⟨cc,o1,vs1,t1,hf,oc,e2,e3⟩
 ·refine PySem.W.kla_makeFunction (mg:=X.mg) hcl I.ok.glob hgs hcode (C.keeps I.bk) eP tri hn hgP hB λc' ctv h' tk hx hge hlt hrec htb=>?_;obtain ⟨c2,oc,vs,tq,z1,z2,z3,z4⟩:=hrec;cases z1;have nc:H c'=none:=I.hok.fresh hge;have un:Un X.fs [] H (z5 H c' (.frz oc (.own Pt))) s.heap h':=by
   refine ⟨λb o e n _ _=>hx b o (λz=>by rw [z,hT] at n;cases n) e,λb o e n _ _=>⟨o.slots,hx b o (λz=>by rw [z,hT] at n;cases n) e⟩,λb o e n _=>?_,λb o e _=>?_,λb xs e=>?_,λb o u e=>?_,λb q r e=>?_⟩
   ·rw [z0 (yK (yH (yT e) hge))];exact n
   ·by_cases hb:b=Pt
    ·exact ⟨_,hb▸htb⟩
    ·exact ⟨o,hx b o hb e⟩
   ·rw [z0 (w4 e nc)];exact e
   ·rw [z0 (w4 e nc)];exact e
   ·rw [z0 (w4 e nc)];exact e
  have hok:HOk X.prog X.w (z5 H c' (.frz oc (.own Pt))) h':=λb u e=>by
   by_cases hb:b=c'
   ·subst hb;rw [v6] at e;cases e;exact ⟨z2,oc,z2⟩
   ·rw [z0 hb] at e;by_cases hb2:b=Pt
    ·rw [hb2] at e ⊢;rw [hT] at e;cases e;have ea:ps++(more++#[rawInt pos.line,rawInt pos.col,.ref c'])=ps++more++#[rawInt pos.line,rawInt pos.col,.ref c']:=(Array.append_assoc).symm;have el:(ps++more++#[rawInt pos.line,rawInt pos.col,.ref c']).toList=(ps++more).toList++[rawInt pos.line,rawInt pos.col,.ref c']:=Array.toList_append;refine ⟨more++#[rawInt pos.line,rawInt pos.col,.ref c'],by rw [ea];exact htb,by rw [ea,el];exact Hm tri,λp hp=>?_⟩;rw [ea,el];rcases wk p hp with z|⟨d,o2,vs2,t2,z,od,z2⟩
     ·have am:=KZ (pos:=p.1) (i:=pos.line) (j:=pos.col) (t:=0) (u:=0) (d:= .ref c') tri z;by_cases hm:(((pos.line:Int)==p.1.line&&(pos.col:Int)==p.1.col)=true)
      ·rw [if_pos hm] at am;have hq:p.2=X.env.qual ++ "<lambda>":=hu p hp (by
        simp only [yf,beq_iff_eq] at hm ⊢;omega)
       exact .inr ⟨c',oc,vs,tq,am,v6,z3,by rw [hq];exact z4⟩
      ·rw [if_neg hm] at am;exact .inl am
     ·exact .inr ⟨d,o2,vs2,t2,Ba z,by rw [z0 (w4 od nc)];exact od,z2⟩
    ·refine (I.hok b u e).stay (λd v hd q=>hx d v ?_ q) (λd q=>by rw [z0 (w4 q nc)];exact q) (λd xs q=>by rw [z0 (w4 q nc)];exact q) λd _ xs q=>by rw [z0 (w4 q nc)];exact q
     rcases hd with z|z
     ·rw [z];exact hb2
     ·intro q;rw [q,hT] at z;cases z
  have I':=I.un (t':=tk) un hok;have ncf:c'≠h'.objs.size:=yK hlt;have sz:s.heap.objs.size<=h'.objs.size:=yp hge (uS hlt);have nf:z5 H c' (.frz oc (.own Pt)) h'.objs.size=none:=by rw [z0 (Ne.symm ncf)];exact I.hok.fresh sz
  have kp:∀ b o,h'.get? b=some o->(h'.push (PySem.W.kla_obj "<lambda>" (X.env.qual ++ "<lambda>") params body scope clos ((X.mg "__name__").getD .none) c' ctv)).get? b=some o:=λb o e=>yX _ e;have J:=I'.un (t':=tk) (Un.kept kp) (I'.hok.kept kp);have f1:=yI (h:=h') (o:=PySem.W.kla_obj "<lambda>" (X.env.qual ++ "<lambda>") params body scope clos ((X.mg "__name__").getD .none) c' ctv) rfl;refine h _ c' oc vs tq ctv _ _ tk (Inv.trackN (o:= .frz (PySem.W.kla_obj "<lambda>" (X.env.qual ++ "<lambda>") params body scope clos ((X.mg "__name__").getD .none) c' ctv) (.own Pt)) I' nf J ⟨f1,_,f1⟩) (λb o e=>?_) (λb n n'=>?_) v6 (by rw [z0 ncf];exact v6) z3 z4
  ·have n1:b≠c':=w4 e nc;have e':z5 H c' (.frz oc (.own Pt)) b=some o:=by rw [z0 n1];exact e
   rw [z0 (w4 e' nf)];exact e'
  ·by_cases hb:b=h'.objs.size
   ·rw [hb];exact uw sz
   ·rw [z0 hb] at n';by_cases hb2:b=c'
    ·rw [hb2];exact uw hge
    ·rw [z0 hb2] at n';exact absurd n n'
 ·refine PySem.W.kla_makeFunctionHit (mg:=X.mg) hcl I.ok.glob hgs hcode (C.keeps I.bk) eP tri hf hB λctv h' tk hk hsz=>?_;have I':=I.un (t':=tk) (Un.kept hk) (I.hok.kept hk);have kp:∀ b o,h'.get? b=some o->(h'.push (PySem.W.kla_obj "<lambda>" (X.env.qual ++ "<lambda>") params body scope clos ((X.mg "__name__").getD .none) cc ctv)).get? b=some o:=λb o e=>yX _ e;have nf:H h'.objs.size=none:=I.hok.fresh hsz;have J:=I'.un (t':=tk) (Un.kept kp) (I'.hok.kept kp);have f1:=yI (h:=h') (o:=PySem.W.kla_obj "<lambda>" (X.env.qual ++ "<lambda>") params body scope clos ((X.mg "__name__").getD .none) cc ctv) rfl;refine h _ cc o1 vs1 t1 ctv _ _ tk (Inv.trackN (o:= .frz (PySem.W.kla_obj "<lambda>" (X.env.qual ++ "<lambda>") params body scope clos ((X.mg "__name__").getD .none) cc ctv) (.own Pt)) I' nf J ⟨f1,_,f1⟩) (λb o e=>by rw [z0 (w4 e nf)];exact e) (λb n n'=>?_) v6 (by rw [z0 (w4 oc nf)];exact oc) e2 e3;by_cases hb:b=h'.objs.size
  ·rw [hb];exact uw hsz
  ·rw [z0 hb] at n';exact absurd n n'
end
def QE (P:Program)(w:World)(K:Fg)(mg:Str->Option Value)(base:Heap)(N:List Str)(qual:Str)(scope:Scope)(f c':Addr)(clos:List (Str×Addr))(A:Around)(outer:List Env)(s:Shared)(H:Hp):Cx where
 prog:=P
 w:=w
 K:=K
 mg:=mg
 base:=base
 A:=A.deeper (PySem.W.envX qual scope s.heap.objs.size f (.ref c') clos)
 N:=N
 s₀:=s
 H₀:=H
 env:=PySem.W.envX qual scope s.heap.objs.size f (.ref c') clos
 outer:=outer
 stack:=PySem.W.envX qual scope s.heap.objs.size f (.ref c') clos::outer
 ex:=[]
 calm:=true
 fn:=λ_=>false
 pn:=[]
 xe:=λ_ _=>False
structure VX (ps fr:List Str)(scope:Scope):Prop where
 co:scope.isCoroutine=false
 gen:scope.isGenerator=false
 kind:scope.kind = .function
 nocell:∀ x∈scope.names,x.2 ≠ .cell
 par:∀ x∈ps,scope.names.lookup x=some .local
 fre:∀ x,scope.names.lookup x=some .free->x∈fr
 nd:ps.Nodup
theorem KR:∀{ps:List Str}{us:List Value}{i:Nat}{x:Str}{u:Value},ps.Nodup->ps[i]?=some x->us[i]?=some u->(ps.zip us).reverse.lookup x=some u
 |[],_,i,x,u,_,h,_=>by simp at h
 |_::_,[],i,x,u,_,_,h=>by simp at h
 |p::ps,v::us,0,x,u,nd,h1,h2=>by
  simp at h1 h2;subst h1;subst h2;rw [List.zip_cons_cons,List.reverse_cons,List.lookup_append];have n:(ps.zip us).reverse.lookup p=none:=by rw [List.lookup_eq_none_iff];intro q hq;have hq':=List.mem_reverse.mp hq;obtain ⟨a,b⟩:=q;have:=(ui hq').1;simp only [bne_iff_ne,ne_eq,beq_eq_false_iff_ne];intro e;subst e;exact (yx.mp nd).1 this
  rw [n];simp
 |p::ps,v::us,i+1,x,u,nd,h1,h2=>by
  rw [List.zip_cons_cons,List.reverse_cons,List.lookup_append,KR (i:=i) (yx.mp nd).2 (by simpa using h1) (by simpa using h2)];rfl
section
variable {P:Program}{w:World}{K:Fg}{mg:Str->Option Value}{base:Heap}{A:Around}{outer:List Env}{s:Shared}{H:Hp}{f c':Addr}{pm ctv:Value}{params:Arguments}{body:Expr}{scope:Scope}{qual:Str}{clos:List (Str×Addr)}{ps fr:List Str}
 {us:List Value} {vs cv:List V} {t:TE} {Q:VK} {E:XK}
theorem CL (S:VX ps fr scope)(hdp:A.depth<recursionLimit)(hhd:A.handled=none)(e0:Env0 P w K mg base A outer s H)(hf:s.heap.get? f=some (PySem.W.kla_obj "<lambda>" qual params body scope clos pm c' ctv))(hcd:s.heap.CodeRec (.ref c') qual)(hbind:bindArgs (PySem.W.kla_fn "<lambda>" qual params body scope clos pm (.ref c') ctv) ⟨us,[]⟩=pure (ps.zip us))(hl:vs.length=ps.length)(r:Vals vs us)(inj:∀ x y c,clos.lookup x=some c->clos.lookup y=some c->x=y)(hc:∀ x c,clos.lookup x=some c->(∃ v,s.heap.IsCell c v)/\H c=none)(hlc:cv.length=fr.length)(hcv:∀ (i:Nat) (x:Str) (v:V),fr[i]?=some x->cv[i]?=some v->scope.names.lookup x=some .free/\∃ c u,clos.lookup x=some c/\s.heap.IsCell c (some u)/\RelV v u)(hb:PE (QE P w K mg base (ps++fr) qual scope f c' clos A outer s H) body t)(hq:t ((vs++cv).map some) H Q):codeAny (model P w) A (.call (.ref f) ⟨us,[]⟩) (CR j6 outer P w H s Q E) s:=by
 have lim:s.heap.NoLimit:=e0.mod.nolimit.keeps λb o e=>(e0.bs b o e).1;refine PySem.W.kla_callFunE hdp hf rfl S.co S.gen rfl hcd ?_;rw [hbind];refine yG (wpAny_newFunctionEnv S.nocell (λy hy=>S.par _ (ui (show (y.1,y.2)∈ps.zip us from hy)).1) (λh₁ hns hsb=>⟨lim.fresh _ hsb,?_⟩) S.kind);show codeAny _ _ (.expr body (PySem.W.envX qual scope s.heap.objs.size f (.ref c') clos)) _ _;have hk₁:∀ b o,s.heap.get? b=some o->h₁.get? b=some o:=λb o e=>hsb.extBut b o (yK (yT e)) (yX _ e);have noA:∀ b:Addr,b∉(QE P w K mg base (ps++fr) qual scope f c' clos A outer s H).ex:=λb z=>absurd (show b∈([]:List Addr) from z) (by simp);have cellK:∀{c:Addr}{v:Option Value},s.heap.IsCell c v->h₁.IsCell c v:=λ{c v} ⟨o,e,d⟩=>⟨o,hk₁ _ _ e,d⟩;have I:Inv (QE P w K mg base (ps++fr) qual scope f c' clos A outer s H) [] ((vs++cv).map some) H { s with heap:=h₁,toks:=s.toks+(ps.zip us).length }:=by
  refine ⟨⟨e0.mod,S.kind,rfl,rfl,yU _,inj,λx hx=>?_,λx c z=>absurd (show false=true from z) (by decide),λ_=>hhd,Around.frames_deeper e0.frames,.inr ⟨rfl,rfl⟩,λb z=>absurd z (noA b),e0.bs,e0.bsz,λb _ _=>noA b,λb z=>absurd z (noA b),e0.funs,e0.frf,e0.tbs⟩,
   rfl,e0.bare,Un.kept hk₁,⟨_,hns,λi x v h1 h2 h3=>?_⟩,λx c e=>?_,e0.hok.fresh (yU _),λx c e=>(hc x c e).2,λp hp=>absurd (show p∈([]:List (Addr×Obj)) from hp) (by simp),e0.hok.kept hk₁,?_⟩
  ·have hx:scope.names.lookup x=some .cell∨scope.names.lookup x=some .free:=hx;rcases hx with z|z
   ·exact absurd rfl (S.nocell _ (PySem.mem_of_lookup z))
   ·obtain ⟨i,hi,e⟩:=uK (S.fre x z);have hic:i<cv.length:=by omega
    obtain ⟨_,c,u,e1,_⟩:=hcv i x cv[i] (by rw [yW hi,e]) (yW hic);exact ⟨c,e1⟩
  ·have h1':(ps++fr)[i]?=some x:=h1;rw [yM] at h2;obtain ⟨v',e1,e2⟩:=yL.mp h2;cases e2;by_cases hi:i<ps.length
   ·rw [yg hi] at h1';rw [yg (by omega)] at e1;obtain ⟨u,hu,rv⟩:=r.get e1;exact ⟨u,rv,.inl ⟨S.par x (ym h1'),KR S.nd h1' hu⟩⟩
   ·rw [yc (by omega)] at h1';rw [yc (by omega),hl] at e1;obtain ⟨k,c,u,a1,a2,a3⟩:=hcv _ x _ h1' e1;exact ⟨u,a3,.inr ⟨.inr k,c,a1,cellK a2⟩⟩
  ·obtain ⟨⟨v,z⟩,_⟩:=hc x c e;exact ⟨v,cellK z⟩
  ·show ((vs++cv).map some).length=(ps++fr).length;rw [yZ,yJ,yJ,hl,hlc]
 refine PySem.W.kla_codeExpr (wpAny_mono (hb [] _ _ H Q I hq) (λu s' z=>?_) λe s' z=>z.elim);obtain ⟨v,H',J,rv,q⟩:=z;exact ⟨v,H',J.os,J.bare,J.base,J.hok,rv,q⟩
end
end L2
namespace Ka
open PySem.W PyProof.Rows
variable{a b j n nrem:Nat}{p:Array Nat}
def ev {α:Type}(ans:Nat->Nat->Bool):KasT α->α
 | .ret a=>a
 | .ask i j k=>ev ans (k (ans i j))
theorem vG {α β:Type}{ans:Nat->Nat->Bool}{f:α->KasT β}:∀ t:KasT α,ev ans (t.bind f)=ev ans (f (ev ans t))
 | .ret _=>rfl
 | .ask i j k=>vG (k (ans i j))
structure Ord (lt:Nat->Nat->Bool):Prop where
 irr:∀ a,lt a a=false
 tr:∀ a b c,lt a b=true->lt b c=true->lt a c=true
 neg:∀ a b c,lt a c=true->lt a b=true∨lt b c=true
section
variable {lt:Nat->Nat->Bool}(O:Ord lt)
def le (lt:Nat->Nat->Bool)(a b:Nat):Prop:=lt b a=false
include O in
theorem le_refl (a:Nat):le lt a a:=O.irr a
include O in
theorem le_trans {c:Nat}(h:le lt a b)(k:le lt b c):le lt a c:=by
 unfold le at *
 cases e:lt c a with
 |false=>rfl
 |true =>
  rcases O.neg c b a e with z|z
  ·rw [k] at z;cases z
  ·rw [h] at z;cases z
include O in
theorem le_of_lt (h:lt a b=true):le lt a b:=by
 unfold le;cases e:lt b a with
 |false=>rfl
 |true=>have:=O.tr a b a h e;rw [O.irr] at this;cases this
def g (p:Array Nat)(i:Nat):Nat:=p.getD i 0
theorem wz {q:Array Nat}{i:Nat}(h:p[i]?=q[j]?):g p i=g q j:=by unfold g;rw [Array.getD_eq_getD_getElem?,Array.getD_eq_getD_getElem?,h]
def Up (lt:Nat->Nat->Bool)(p:Array Nat)(k:Nat):Prop:=∀ i j,i<=j->j<k->le lt (g p i) (g p j)
def zf (lt:Nat->Nat->Bool)(p:Array Nat)(k:Nat):Prop:=∀ i j,i<=j->j<k->le lt (g p j) (g p i)
def Eqs (lt:Nat->Nat->Bool)(p:Array Nat)(a b:Nat):Prop:=∀ i j,a<=i->i<b->a<=j->j<b->le lt (g p i) (g p j)
include O in
theorem HL (p:Array Nat):Up lt p 1:=λi j h k=>by
 have:i=j:=by omega
 subst this;exact le_refl O _
include O in
theorem HK (h1:1<=n)(h:Up lt p n)(k:le lt (g p (n-1)) (g p n)):Up lt p (n+1):=λi j hij hj=>by
 by_cases e:j=n
 ·subst e;by_cases e2:i=j
  ·subst e2;exact le_refl O _
  ·exact le_trans O (h i (j-1) (by omega) (by omega)) k
 ·exact h i j hij (by omega)
include O in
theorem QL (h1:1<=n)(h:zf lt p n)(k:le lt (g p n) (g p (n-1))):zf lt p (n+1):=λi j hij hj=>by
 by_cases e:j=n
 ·subst e;by_cases e2:i=j
  ·subst e2;exact le_refl O _
  ·exact le_trans O k (h i (j-1) (by omega) (by omega))
 ·exact h i j hij (by omega)
theorem wA {i:Nat}(hj:j<=p.size)(k:Nat):g (kas_rev p i j) k=if i<=k/\k<j then g p (i+j-1-k) else g p k:=by
 have e:=getElem?_mirror_all (xs:=p) (i:=i) hj k;unfold kas_rev;split
 ·rename_i h;rw [if_pos h] at e;exact wz e
 ·rename_i h;rw [if_neg h] at e;exact wz e
theorem vd {i:Nat}:(kas_rev p i j).size=p.size:=mirror_size _ _ _ _
theorem rev_perm {i:Nat}:(kas_rev p i j).Perm p:=mirror_perm _ _ _ _
include O in
theorem XX {p:Array Nat}:∀(f n:Nat),1<=n->Up lt p n -> n<=ev lt (kas_asc p f n)/\ev lt (kas_asc p f n)<=n+f/\Up lt p (ev lt (kas_asc p f n))/\(ev lt (kas_asc p f n)=n+f∨lt (g p (ev lt (kas_asc p f n))) (g p (ev lt (kas_asc p f n)-1))=true)
 |0,n,_,h=>⟨yU _,yU _,h,.inl rfl⟩
 |f+1,n,h1,h=>by
  have e:ev lt (kas_asc p (f+1) n)=ev lt (if lt (g p n) (g p (n-1))=true then KasT.ret n else kas_asc p f (n+1)):=rfl;cases c:lt (g p n) (g p (n-1)) with
  |true=>rw [c,if_pos rfl] at e;rw [e];exact ⟨yU _,by show n<=_;omega,h,.inr c⟩
  |false=>rw [c,if_neg (by simp)] at e;rw [e];obtain ⟨a1,a2,a3,a4⟩:=XX f (n+1) (by omega) (HK O h1 h c);exact ⟨by omega,by omega,a3,by rcases a4 with z|z;exact .inl (by omega);exact .inr z⟩
include O in
theorem Zj (ha:a<=n)(hn:n<=p.size)(h:zf lt p n)(q:Eqs lt p a n):zf lt (kas_rev p a n) n/\∀ i,i<n->le lt (g p (n-1)) (g (kas_rev p a n) i):=by
 have eqv:∀ i,i<n->le lt (g (kas_rev p a n) i) (g p i)/\le lt (g p i) (g (kas_rev p a n) i):=λi hi=>by
  rw [wA hn];split
  ·rename_i z;exact ⟨q _ _ (by omega) (by omega) (by omega) (by omega),q _ _ (by omega) (by omega) (by omega) (by omega)⟩
  ·exact ⟨le_refl O _,le_refl O _⟩
 refine ⟨λi j hij hj=>?_,λi hi=>?_⟩
 ·exact le_trans O (le_trans O (eqv j hj).1 (h i j hij hj)) (eqv i (by omega)).2
 ·exact le_trans O (h i (n-1) (by omega) (by omega)) (eqv i hi).2
include O in
theorem QK:∀(f:Nat)(p:Array Nat)(n q:Nat),q+1<=n->n+f<=p.size->zf lt p n->Eqs lt p (n-(q+1)) n -> ∃ p' n' q',ev lt (kas_desc f p n q)=(p',n',q')/\p'.Perm p/\p'.size=p.size/\n<=n'/\n'<=n+f/\zf lt p' n'/\q'+1<=n'/\Eqs lt p' (n'-(q'+1)) n'
 |0,p,n,q,hq,_,h,e=>⟨p,n,q,rfl,.refl _,rfl,yU _,yU _,h,hq,e⟩
 |f+1,p,n,q,hq,hs,h,he=>by
  have ee:ev lt (kas_desc (f+1) p n q)=ev lt (if lt (g p n) (g p (n-1))=true then (if q > 0 then kas_desc f (kas_rev p (n-(q+1)) n) (n+1) 0 else kas_desc f p (n+1) 0) else KasT.ask (g p (n-1)) (g p n) λd=>if d=true then .ret (p,n,q) else kas_desc f p (n+1) (q+1)):=rfl;cases c:lt (g p n) (g p (n-1)) with
  |true =>
   rw [c,if_pos rfl] at ee;by_cases hq0:q > 0
   ·rw [if_pos hq0] at ee;obtain ⟨d1,d2⟩:=Zj O (a:=n-(q+1)) (by omega) (by omega) h he;have gn:g (kas_rev p (n-(q+1)) n) n=g p n:=by rw [wA (by omega),if_neg (by omega)]
    have dn:zf lt (kas_rev p (n-(q+1)) n) (n+1):=QL O (by omega) d1 (by rw [gn];exact le_trans O (le_of_lt O c) (d2 (n-1) (by omega)));obtain ⟨p',n',q',a1,a2,a3,a4,a5,a6⟩:=QK f (kas_rev p (n-(q+1)) n) (n+1) 0 (by omega) (by rw [vd];omega) dn (λi j i1 i2 j1 j2=>(show i=j by omega)▸le_refl O _);exact ⟨p',n',q',ee.trans a1,a2.trans rev_perm,a3.trans vd,by omega,by omega,a6⟩
   ·rw [if_neg hq0] at ee;obtain ⟨p',n',q',a1,a2,a3,a4,a5,a6⟩:=QK f p (n+1) 0 (by omega) (by omega) (QL O (by omega) h (le_of_lt O c)) (λi j i1 i2 j1 j2=>(show i=j by omega)▸le_refl O _);exact ⟨p',n',q',ee.trans a1,a2,a3,by omega,by omega,a6⟩
  |false =>
   rw [c,if_neg (by simp)] at ee;have e2:ev lt (kas_desc (f+1) p n q)=ev lt (if lt (g p (n-1)) (g p n)=true then KasT.ret (p,n,q) else kas_desc f p (n+1) (q+1)):=ee;cases d:lt (g p (n-1)) (g p n) with
   |true=>rw [d,if_pos rfl] at e2;exact ⟨p,n,q,e2,.refl _,rfl,yU _,by omega,h,hq,he⟩
   |false =>
    rw [d,if_neg (by simp)] at e2;have dn:=QL O (by omega) h (show le lt (g p n) (g p (n-1)) from d);obtain ⟨p',n',q',a1,a2,a3,a4,a5,a6⟩:=QK f p (n+1) (q+1) (by omega) (by omega) dn (λi j i1 i2 j1 j2=>by
     have lo:∀ k,n-(q+1)<=k->k<n+1->le lt (g p k) (g p (n-1))/\le lt (g p (n-1)) (g p k):=λk k1 k2=>by
      by_cases hk:k=n
      ·subst hk;exact ⟨d,c⟩
      ·exact ⟨he _ _ (by omega) (by omega) (by omega) (by omega),he _ _ (by omega) (by omega) (by omega) (by omega)⟩
     exact le_trans O (lo i (by omega) i2).1 (lo j (by omega) j2).2)
    exact ⟨p',n',q',e2.trans a1,a2,a3,by omega,by omega,a6⟩
include O in
theorem Kr (h1:1<=n)(hn:n<=nrem)(hs:nrem<=p.size)(h:zf lt p n):∃ m p',ev lt (kas_tail3 n nrem p)=(m,p')/\p'.Perm p/\p'.size=p.size/\1<=m/\m<=nrem/\Up lt p' m:=by
 unfold kas_tail3;rw [vG];have up:Up lt (kas_rev p 0 n) n:=λi j hij hj=>by
  rw [wA (by omega),wA (by omega),if_pos (by omega),if_pos (by omega)];exact h _ _ (by omega) (by omega)
 obtain ⟨a1,a2,a3,_⟩:=XX O (nrem-n) n h1 up;exact ⟨_,_,rfl,rev_perm,vd,by omega,by omega,a3⟩
include O in
theorem YL (hn:n+1<=nrem)(hs:nrem<=p.size)(h:zf lt p (n+1)):∃ m p',ev lt (kas_descPart n nrem p)=(m,p')/\p'.Perm p/\p'.size=p.size/\1<=m/\m<=nrem/\Up lt p' m:=by
 unfold kas_descPart;rw [vG];obtain ⟨p',n',q',a1,a2,a3,a4,a5,a6,a7,a8⟩:=QK O (nrem-(n+1)) p (n+1) 0 (by omega) (by omega) h (λi j i1 i2 j1 j2=>(show i=j by omega)▸le_refl O _);rw [a1]
 dsimp only
 split
 ·obtain ⟨d1,_⟩:=Zj O (a:=n'-(q'+1)) (by omega) (by omega) a6 a8;obtain ⟨m,p2,b1,b2,b3,b4⟩:=Kr O (nrem:=nrem) (by omega) (by omega) (by rw [vd];omega) d1;exact ⟨m,p2,b1,b2.trans (rev_perm.trans a2),by rw [b3,vd,a3],b4⟩
 ·obtain ⟨m,p2,b1,b2,b3,b4⟩:=Kr O (nrem:=nrem) (by omega) (by omega) (by omega) a6;exact ⟨m,p2,b1,b2.trans a2,by rw [b3,a3],b4⟩
include O in
theorem BK (h0:1<=nrem)(hs:nrem<=p.size):∃ m p',ev lt (kas_count nrem p)=(m,p')/\p'.Perm p/\p'.size=p.size/\1<=m/\m<=nrem/\Up lt p' m:=by
 unfold kas_count;rw [vG];obtain ⟨a1,a2,a3,a4⟩:=XX O (p:=p) (nrem-1) 1 (yU _) (HL O p);generalize hm:ev lt (kas_asc p (nrem-1) 1)=m at a1 a2 a3 a4 ⊢;by_cases e1:(m==nrem)=true
 ·rw [if_pos e1];exact ⟨m,p,rfl,.refl _,rfl,a1,by omega,a3⟩
 ·rw [if_neg e1];have ne:m≠nrem:=λz=>e1 (by rw [z];exact beq_self_eq_true _);have c:lt (g p m) (g p (m-1))=true:=by
   rcases a4 with z|z
   ·omega
   ·exact z
  by_cases e2:m > 1
  ·rw [if_pos e2];have ee:ev lt (KasT.ask (p.getD 0 0) (p.getD (m-1) 0) λc=>if c=true then KasT.ret (m,p) else kas_descPart m nrem (kas_rev p 0 m))=ev lt (if lt (g p 0) (g p (m-1))=true then KasT.ret (m,p) else kas_descPart m nrem (kas_rev p 0 m)):=rfl;rw [ee];cases d:lt (g p 0) (g p (m-1)) with
   |true=>rw [if_pos rfl];exact ⟨m,p,rfl,.refl _,rfl,a1,by omega,a3⟩
   |false =>
    rw [if_neg (by simp)];have all:Eqs lt p 0 m:=λi j _ i2 _ j2=>le_trans O (le_trans O (a3 i (m-1) (by omega) (by omega)) (show le lt (g p (m-1)) (g p 0) from d)) (a3 0 j (by omega) j2);obtain ⟨d1,d2⟩:=Zj O (a:=0) (by omega) (by omega) (λi j hij hj=>all _ _ (by omega) (by omega) (by omega) (by omega)) all;have gm:g (kas_rev p 0 m) m=g p m:=by rw [wA (by omega),if_neg (by omega)]
    have dn:zf lt (kas_rev p 0 m) (m+1):=QL O (by omega) d1 (by rw [gm];exact le_trans O (le_of_lt O c) (d2 (m-1) (by omega)));obtain ⟨m2,p2,b1,b2,b3,b4⟩:=YL O (nrem:=nrem) (by omega) (by rw [vd];omega) dn;exact ⟨m2,p2,b1,b2.trans rev_perm,by rw [b3,vd],b4⟩
  ·rw [if_neg e2];have e3:m=1:=by omega
   subst e3;exact YL O (by omega) hs (λi j hij hj=>by
    by_cases z:i=j
    ·subst z;exact le_refl O _
    ·have z1:i=0:=by omega
     have z2:j=1:=by omega
     subst z1 z2;exact le_of_lt O c)
include O in
theorem Jl {p:Array Nat}{k:Nat}(up:Up lt p k):∀(f l r:Nat),r-l<=f->l<=r->r<=k->(∀ i,i<l->le lt (g p i) (g p k))->(∀ i,r<=i->i<k->le lt (g p k) (g p i)) -> ev lt (kas_place p k f l r)<=k/\(∀ i,i<ev lt (kas_place p k f l r)->le lt (g p i) (g p k))/\∀ i,ev lt (kas_place p k f l r)<=i->i<k->le lt (g p k) (g p i)
 |0,l,r,hf,hl,hr,h1,h2=>by
  have e:l=r:=by omega
  subst e;exact ⟨hr,h1,h2⟩
 |f+1,l,r,hf,hl,hr,h1,h2=>by
  have e:ev lt (kas_place p k (f+1) l r)=ev lt (if l >= r then KasT.ret l else KasT.ask (p.getD k 0) (p.getD ((l+r) / 2) 0) λc=>if c=true then kas_place p k f l ((l+r) / 2) else kas_place p k f ((l+r) / 2+1) r):=rfl;by_cases c:l >= r
  ·rw [if_pos c] at e;have e':l=r:=by omega
   subst e';rw [e];exact ⟨hr,h1,h2⟩
  ·rw [if_neg c] at e;have e2:ev lt (kas_place p k (f+1) l r)=ev lt (if lt (g p k) (g p ((l+r) / 2))=true then kas_place p k f l ((l+r) / 2) else kas_place p k f ((l+r) / 2+1) r):=e;cases d:lt (g p k) (g p ((l+r) / 2)) with
   |true=>rw [d,if_pos rfl] at e2;rw [e2];exact Jl up f l ((l+r) / 2) (by omega) (by omega) (by omega) h1 λi i1 i2=>le_trans O (le_of_lt O d) (up _ _ i1 i2)
   |false=>rw [d,if_neg (by simp)] at e2;rw [e2];exact Jl up f ((l+r) / 2+1) r (by omega) (by omega) hr (λi hi=>le_trans O (up i ((l+r) / 2) (by omega) (by omega)) d) h2
include O in
theorem Yg:∀(f:Nat)(p:Array Nat)(k:Nat),k+f<=p.size->Up lt p k->∃ p',ev lt (kas_bin f p k)=p'/\p'.Perm p/\p'.size=p.size/\Up lt p' (k+f)
 |0,p,k,_,h=>⟨p,rfl,.refl _,rfl,h⟩
 |f+1,p,k,hs,h=>by
  have e:ev lt (kas_bin (f+1) p k)=ev lt ((kas_place p k k 0 k).bind λl=>kas_bin f (bubble p k (k-l)) (k+1)):=rfl;rw [vG] at e;obtain ⟨a1,a2,a3⟩:=Jl O h k 0 k (by omega) (by omega) (yU _) (λi hi=>absurd hi (by omega)) λi i1 i2=>absurd i1 (by omega);generalize ev lt (kas_place p k k 0 k)=l at e a1 a2 a3;have gb:∀ i,g (bubble p k (k-l)) i=if i=l then g p k else if l<i/\i<=k then g p (i-1) else g p i:=λi=>by
   have z:=getElem?_bubble (xs:=p) (src:=k) (by omega) (k-l) (by omega) i;have el:k-(k-l)=l:=by omega
   rw [el] at z;split
   ·rename_i q;rw [if_pos q] at z;exact wz z
   ·rename_i q;rw [if_neg q] at z;split
    ·rename_i q2;rw [if_pos q2] at z;exact wz z
    ·rename_i q2;rw [if_neg q2] at z;exact wz z
  have up:Up lt (bubble p k (k-l)) (k+1):=λi j hij hj=>by
   by_cases e0:i=j
   ·subst e0;exact le_refl O _
   rw [gb,gb];by_cases i1:i=l
   ·rw [if_pos i1,if_neg (by omega),if_pos (by omega)];exact a3 _ (by omega) (by omega)
   ·rw [if_neg i1];by_cases j1:j=l
    ·rw [if_neg (by omega),if_pos j1];exact a2 _ (by omega)
    ·rw [if_neg j1];by_cases i2:l<i/\i<=k
     ·rw [if_pos i2,if_pos (by omega)];exact h _ _ (by omega) (by omega)
     ·rw [if_neg i2];by_cases j2:l<j/\j<=k
      ·rw [if_pos j2];exact h _ _ (by omega) (by omega)
      ·rw [if_neg j2];exact h _ _ (by omega) (by omega)
  obtain ⟨p',b1,b2,b3,b4⟩:=Yg f (bubble p k (k-l)) (k+1) (by rw [bubble_size];omega) up;exact ⟨p',e.trans b1,b2.trans (bubble_perm _ _ _),by rw [b3,bubble_size],by rw [show k+1+f=k+(f+1) by omega] at b4;exact b4⟩
include O in
theorem NV (h:1<=n):∃ p,ev lt (kas_sort n)=p/\p.Perm (List.toArray (List.range n))/\p.size=n/\Up lt p n:=by
 unfold kas_sort;rw [vG];obtain ⟨m,p,a1,a2,a3,a4,a5,a6⟩:=BK O (p:=List.toArray (List.range n)) (nrem:=n) h (by simp);have hp:p.size=n:=by rw [a3];simp
 rw [a1]
 dsimp only
 split
 ·have mx:max m 1=m:=by omega
  rw [mx];obtain ⟨p',b1,b2,b3,b4⟩:=Yg O (n-m) p m (by omega) a6;exact ⟨p',b1,b2.trans a2,by omega,by rw [show m+(n-m)=n by omega] at b4;exact b4⟩
 ·have e:m=n:=by omega
  subst e;exact ⟨p,rfl,a2,hp,a6⟩
end
end Ka
namespace Ka
open PySem PySem.W PyProof.Rows
variable{m n r:Nat}{p:Array Nat}
def Bd {α:Type}(n:Nat):KasT α->Prop
 | .ret _=>True
 | .ask i j k=>i<n/\j<n/\∀ b,Bd n (k b)
def BdP {α:Type}(n:Nat)(R:α->Prop):KasT α->Prop
 | .ret a=>R a
 | .ask i j k=>i<n/\j<n/\∀ b,BdP n R (k b)
theorem vz {α β:Type}{n:Nat}{R:α->Prop}{S:β->Prop}{f:α->KasT β}:∀{t:KasT α},BdP n R t->(∀ a,R a->BdP n S (f a))->BdP n S (t.bind f)
 | .ret a,h,k=>k a h
 | .ask _ _ _,⟨a,b,c⟩,k=>⟨a,b,λx=>vz (c x) k⟩
def Lo (n:Nat)(p:Array Nat):Prop:=1<=n/\∀ x∈p.toList,x<n
theorem Lo.g (h:Lo n p)(i:Nat):p.getD i 0<n:=by
 rw [Array.getD_eq_getD_getElem?];cases e:p[i]? with
 |none=>exact h.1
 |some x=>exact h.2 x (by rw [<- ub] at e;exact ym e)
theorem Lo.perm {q:Array Nat}(h:Lo n p)(k:q.Perm p):Lo n q:=⟨h.1,λx hx=>h.2 x ((Array.perm_iff_toList_perm.mp k).mem_iff.mp hx)⟩
section
variable {n:Nat}
theorem XZ {p:Array Nat}(h:Lo n p):∀ f m,BdP n (λ_=>True) (kas_asc p f m)
 |0,_=>trivial
 |f+1,m=>⟨h.g _,h.g _,λb=>by
  cases b with
  |true=>exact trivial
  |false=>exact XZ h f (m+1)⟩
theorem QA:∀(f:Nat){p:Array Nat}(m q:Nat),Lo n p->BdP n (λr=>Lo n r.1) (kas_desc f p m q)
 |0,_,_,_,h=>h
 |f+1,p,m,q,h=>⟨h.g _,h.g _,λb=>by
  cases b with
  |true =>
   show BdP n _ (if q > 0 then kas_desc f (kas_rev p (m-(q+1)) m) (m+1) 0 else kas_desc f p (m+1) 0);split
   ·exact QA f _ _ (h.perm rev_perm)
   ·exact QA f _ _ h
  |false=>exact ⟨h.g _,h.g _,λd=>by
    cases d with
    |true=>exact h
    |false=>exact QA f _ _ h⟩⟩
theorem Yf (h:Lo n p):BdP n (λq=>Lo n q.2) (kas_tail3 m r p):=vz (XZ (h.perm rev_perm) _ _) λ_ _=>h.perm rev_perm
theorem Ye (h:Lo n p):BdP n (λq=>Lo n q.2) (kas_descPart m r p):=vz (QA _ _ _ h) λa ha=>by
 split
 ·exact Yf (ha.perm rev_perm)
 ·exact Yf ha
theorem Bg (h:Lo n p):BdP n (λq=>Lo n q.2) (kas_count r p):=vz (XZ h _ _) λm _=>by
 split
 ·exact h
 ·split
  ·exact ⟨h.g _,h.g _,λb=>by
    cases b with
    |true=>exact h
    |false=>exact Ye (h.perm rev_perm)⟩
  ·exact Ye h
theorem Za {p:Array Nat}{k:Nat}(h:Lo n p):∀ f l r,BdP n (λ_=>True) (kas_place p k f l r)
 |0,_,_=>trivial
 |f+1,l,r=>by
  show BdP n _ (if l >= r then _ else _);split
  ·exact trivial
  ·exact ⟨h.g _,h.g _,λb=>by
    cases b with
    |true=>exact Za h f _ _
    |false=>exact Za h f _ _⟩
theorem Yd:∀(f:Nat){p:Array Nat}(k:Nat),Lo n p->BdP n (λ_=>True) (kas_bin f p k)
 |0,_,_,_=>trivial
 |f+1,p,k,h=>vz (Za h _ _ _) λ_ _=>Yd f _ (h.perm (bubble_perm _ _ _))
theorem Bh (h:1<=n):BdP n (λ_=>True) (kas_sort n):=vz (Bg ⟨h,λx hx=>by simpa using hx⟩) λr hr=>by
 split
 ·exact Yd _ _ hr
 ·exact trivial
theorem KL {α:Type}{cmp:Nat->Nat->(Bool->Shared->Prop)->Shared->Prop}{lt:Nat->Nat->Bool}{s:Shared}{R:α->Prop}{G:α->Shared->Prop}(hc:∀ i j (C:Bool->Shared->Prop),i<n->j<n->C (lt i j) s->cmp i j C s):∀{t:KasT α},BdP n R t->G (ev lt t) s->t.kasWp cmp G s
 | .ret _,_,h=>h
 | .ask i j k,⟨a,b,c⟩,h=>hc i j _ a b (KL hc (c (lt i j)) h)
end
theorem sort_wp {cmp:Nat->Nat->(Bool->Shared->Prop)->Shared->Prop}{lt:Nat->Nat->Bool}{s:Shared}{G:Array Nat->Shared->Prop}(O:Ord lt)(h:1<=n)(hc:∀ i j (C:Bool->Shared->Prop),i<n->j<n->C (lt i j) s->cmp i j C s)(hG:∀ p:Array Nat,p.Perm (List.toArray (List.range n))->p.size=n->(∀ i j,i<=j->j<n->lt (p.getD j 0) (p.getD i 0)=false)->G p s):(kas_sort n).kasWp cmp G s:=by obtain ⟨p,e,a1,a2,a3⟩:=NV O h;refine KL hc (Bh h) ?_;rw [e];exact hG p a1 a2 λi j hij hj=>a3 i j hij hj
end Ka
namespace L2
open PySem PySem.Spec PyProof.Rows
variable{e n:Nat}{H H1:Hp}{kf:Nat->Int×Str}{ks:List Value}{s1:Shared}
def u6 (p q:Int×Str):Bool:=decide (p.1<q.1) || (p.1==q.1&&decide (p.2.cps.toList<q.2.cps.toList))
theorem ltK_iff {p q:Int×Str}:u6 p q=true↔p.1<q.1∨(p.1=q.1/\p.2.cps.toList<q.2.cps.toList):=by unfold u6;simp only [Bool.or_eq_true,yf,decide_eq_true_eq,beq_iff_eq]
theorem QZ (kf:Nat->Int×Str):Ka.Ord λi j=>u6 (kf i) (kf j) where
 irr a:=by
  cases e:u6 (kf a) (kf a) with
  |false=>rfl
  |true =>
   rcases ltK_iff.mp e with z|⟨_,z⟩
   ·omega
   ·exact absurd z (List.lt_irrefl _)
 tr a b c h k:=by
  refine ltK_iff.mpr ?_;rcases ltK_iff.mp h with z|⟨z1,z2⟩<;>rcases ltK_iff.mp k with y|⟨y1,y2⟩
  ·exact .inl (by omega)
  ·exact .inl (by omega)
  ·exact .inl (by omega)
  ·exact .inr ⟨by omega,List.lt_trans z2 y2⟩
 neg a b c h:=by
  rcases ltK_iff.mp h with z|⟨z1,z2⟩
  ·by_cases q:(kf a).1<(kf b).1
   ·exact .inl (ltK_iff.mpr (.inl q))
   ·exact .inr (ltK_iff.mpr (.inl (by omega)))
  ·by_cases q:(kf a).1<(kf b).1
   ·exact .inl (ltK_iff.mpr (.inl q))
   ·by_cases q2:(kf b).1<(kf c).1
    ·exact .inr (ltK_iff.mpr (.inl q2))
    ·by_cases q3:(kf a).2.cps.toList<(kf b).2.cps.toList
     ·exact .inl (ltK_iff.mpr (.inr ⟨by omega,q3⟩))
     ·exact .inr (ltK_iff.mpr (.inr ⟨by omega,List.lt_of_le_of_lt (uz.mp q3) z2⟩))
section
variable {prog:Program}{w:World}{A:Around}{E:Value->Shared->Prop}{s:Shared}
theorem Ho {x y:Addr}{ox oy:Obj}{i j:Int}{a b:Str}{t u t' u':Tok}{k:Nat}{Q:Bool->Shared->Prop}(hx:s.heap.get? x=some ox)(dx:ox.data = .seq #[.int i t,.str a u] n)(hy:s.heap.get? y=some oy)(dy:oy.data = .seq #[.int j t',.str b u'] k)(h:Q (u6 (i,a) (j,b)) s):wpAny (model prog w) A (keyLt' (tuples' true) (.ref x) (.ref y)) Q E s:=by
 refine PySem.W.kat_lt hx dx hy dy ?_;show PySem.W.KatLex prog w A true _ Q [(.int i t,.int j t'),(.str a u,.str b u')] 0 s;refine PySem.W.kat_cons (wpAny_eqBool_int ?_);by_cases e:i=j
 ·subst e;rw [beq_self_eq_true];refine PySem.W.kat_yes (PySem.W.kat_cons (wpAny_eqBool_str ?_));by_cases e2:a=b
  ·subst e2;rw [yC rfl];refine PySem.W.kat_yes (PySem.W.kat_nil ?_);have z:u6 (i,a) (i,a)=false:=(QZ λ_=>(i,a)).irr 0;rw [z] at h;exact h
  ·rw [yD e2];refine PySem.W.kat_no (PySem.W.kat_one _ _ (PyProof.Rows.lt_str ?_));have z:u6 (i,a) (i,b)=decide (a.cps.toList<b.cps.toList):=by unfold u6;simp
   rw [z] at h;exact h
 ·have e':(i==j)=false:=by simpa using e
  rw [e'];refine PySem.W.kat_no ?_;show wpAny _ _ (oneLt' true (.int i t) (.int j t')) Q _ s;refine oneLt_int ?_;have z:u6 (i,a) (j,b)=decide (i<j):=by unfold u6;simp [e']
  rw [z] at h;exact h
end
def Grow (H H':Hp):Prop:=∀ b o,H b=some o->H' b=some o
theorem Grow.refl :Grow H H:=λ_ _ e=>e
theorem Grow.trans {H2:Hp}(a:Grow H H1)(b:Grow H1 H2):Grow H H2:=λc o e=>b c o (a c o e)
structure KeysIn (kf:Nat->Int×Str)(H:Hp)(xs:List V)(ks:List Value):Prop where
 len:ks.length=xs.length
 at_:∀(i:Nat)(x:V),xs[i]?=some x->∃ p,ks[i]?=some (.ref p)/\H p=some (.tup [.int (kf i).1,.str (kf i).2])
theorem KeysIn.nil :KeysIn kf H [] []:=⟨rfl,λi x e=>by simp at e⟩
theorem KeysIn.snoc {H':Hp}{xs:List V}{x:V}{p:Addr}(h:KeysIn kf H xs ks)(g:Grow H H')(e:H' p=some (.tup [.int (kf xs.length).1,.str (kf xs.length).2])):KeysIn kf H' (xs++[x]) (ks++[.ref p]):=by
 refine ⟨by rw [yJ,yJ,h.len];rfl,λi y q=>?_⟩;by_cases hi:i<xs.length
 ·rw [yg hi] at q;obtain ⟨a,e1,e2⟩:=h.at_ i y q;exact ⟨a,by rw [yg (by rw [h.len];exact hi)];exact e1,g _ _ e2⟩
 ·rw [yc (by omega)] at q;have hz:i-xs.length=0:=by
   cases hd:i-xs.length with
   |zero=>rfl
   |succ k=>rw [hd] at q;simp at q
  rw [hz] at q;simp at q;have hi':i=xs.length:=by omega
  refine ⟨p,?_,by rw [hi'];exact e⟩;rw [yc (by rw [h.len];omega),h.len,hz];rfl
structure zE (X:Cx)(pins:List (Addr×Obj))(b:Addr):Prop where
 s0:X.s₀.heap.objs.size<=b
 nL:b≠X.env.locals
 nC:∀ x c,X.env.cells.lookup x=some c->c≠b
 nP:∀ p∈X.pn++pins,p.1≠b
 nS:b∉frs X.stack
section
variable {X:Cx}{pins:List (Addr×Obj)}{σ:St}{H:Hp}{s:Shared}{h':Heap}{b:Addr}
theorem Inv.mine (I:Inv X pins σ H s)(h:s.heap.objs.size<=b):zE X pins b where
 s0:=yp I.sz h
 nL:=uu (yH I.lt h)
 nC:=λx c e=>by
  obtain ⟨v,o,e1,_⟩:=I.cell x c e;exact yK (yH (yT e1) h)
 nP:=λp hp=>yK (yH (yT (I.pin p hp).1) h)
 nS:=λz=>by
  rcases yP.mp (I.stkSub b z) with q|q
  ·exact absurd q (uu (yH I.lt h))
  ·exact I.nofs h q
theorem Inv.turn {t':Nat}(I:Inv X pins σ H s)(m:zE X pins b)(hn:H b=none)(k:∀ c o,c≠b->s.heap.get? c=some o->h'.get? c=some o):Inv X pins σ H { s with heap:=h',toks:=t' } :=
 I.turned k hn m.nL (.inr m.s0) m.nC m.nP
theorem wf {h:Heap}{a c:Addr}{g:Array Value->Array Value}{o:Obj}(n:c≠a)(e:h.get? c=some o):(h.update a (Obj.mapSeq g)).get? c=some o:=(Heap.get?_update_ne _ _ _ _ n).trans e
end
section
variable {X:Cx}{pins:List (Addr×Obj)}{σ:St}{H:Hp}{s:Shared}{A2:Around}{D kS f:Addr}{e1:Nat}{xs:List V}{us:List Value}{kf:Nat->Int×Str}{P:PySem.Fin->Shared->Prop}{E:Value->Shared->Prop}
def Wb (X:Cx)(pins:List (Addr×Obj))(σ:St)(H:Hp)(kf:Nat->Int×Str)(D:Addr)(xs:List V)(R:Shared->Prop):Prop:=∀(l:List Nat)(out:List Value)(H':Hp)(s':Shared)(e':Nat),Inv X pins σ H' s'->Grow H H'->H' D=none ->
 s'.heap.get? D=some (seqObj "list" out.toArray e')->l.Perm (List.range xs.length)->Vals (l.map λi=>xs.getD i .non) out->l.Pairwise (λa b=>u6 (kf b) (kf a)=false)->R s'
theorem Ks {st:SortSt}{out:List Value}(I:Inv X pins σ H1 s1)(mD:zE X pins D)(mK:zE X pins kS)(ne:D≠kS)(nD:H1 D=none)(nK:H1 kS=none)(hD:s1.heap.get? D=some (seqObj "list" #[] e1))(hk:s1.heap.get? kS=some (seqObj "list" ks.toArray e))(hout:(arrOf st).map (·.2)=out.toArray)(hz:out.length<64)(hkz:ks.length<64)(hf:failedOf st=none)(h:∀ (h':Heap) (e':Nat),Inv X pins σ H1 { s1 with heap:=h' }->h'.get? D=some (seqObj "list" out.toArray e')->P (.done (.ret .none)) { s1 with heap:=h' }):wpAny (model X.prog X.w) A2 (ksk_tail D false e1 (.ref kS) st) P E s1:=by
 have hD1:(s1.heap.update kS (Obj.mapSeq λ_=>(#[]:Array Value))).get? D=some (seqObj "list" #[] e1):=wf ne hD;obtain ⟨c2,hc2⟩:∃ c2,((s1.heap.update kS (Obj.mapSeq λ_=>(#[]:Array Value))).update D (Obj.mapSeq λ_=>out.toArray)).get? D=some (seqObj "list" out.toArray c2):=⟨_,get?_update_seq hD1 λ_=>out.toArray⟩;have I1:=I.turn (t':=s1.toks) mK nK (h':=s1.heap.update kS (Obj.mapSeq λ_=>(#[]:Array Value))) λc o n q=>wf n q;have I2:=I1.turn (t':=s1.toks) mD nD (h':=(s1.heap.update kS (Obj.mapSeq λ_=>(#[]:Array Value))).update D (Obj.mapSeq λ_=>out.toArray)) λc o n q=>wf n q;unfold ksk_tail
 dsimp only
 rw [hout];refine yV (listUpdate_at hk rfl ?_ (by rw [yY,sizeLine_eq];omega) (yo _));refine yV (wpAny_letGo ?_);refine yV (seqEpoch_at hD1 rfl ?_);refine yV (listUpdate_at hD1 rfl ?_ (yo _) (by show out.toArray.size<=_;rw [yY,sizeLine_eq];omega));rw [hf];simp only [bne_self_eq_false,uF,if_false];exact yG (h _ c2 I2 hc2)
end
section
variable {X:Cx}{pins:List (Addr×Obj)}{σ:St}{H:Hp}{s:Shared}{A2:Around}{D kS f:Addr}{e1:Nat}{xs:List V}{us:List Value}{kf:Nat->Int×Str}{P:PySem.Fin->Shared->Prop}{E:Value->Shared->Prop}
theorem VP:∀{xs:List V}{us:List Value}{i:Nat},Vals xs us->i<xs.length->RelV (xs.getD i .non) (us.getD i Value.none)
 |_,_,i,.nil,h=>by simp at h
 |_,_,0,.cons r _,_=>r
 |_,_,i+1,.cons _ q,h=>by
  have:=VP (i:=i) q (by simpa using h);simpa using this
theorem KH {xs:List V}{us:List Value}(rv:Vals xs us):∀{l:List Nat},(∀ i∈l,i<xs.length)->Vals (l.map λi=>xs.getD i .non) (l.map λi=>us.getD i Value.none)
 |[],_=> .nil
 |i::l,h=> .cons (VP rv (h i yQ)) (KH rv λj hj=>h j (yN _ hj))
theorem ZT {α:Type}{d:α}:∀ xs:List α,(List.range xs.length).map (λi=>xs.getD i d)=xs:=λxs=>by
 apply List.ext_getElem?;intro i;rw [yM];by_cases h:i<xs.length
 ·rw [List.getElem?_range h,yW h];simp [h]
 ·rw [uR (by simpa using h),uR (by simpa using h)];rfl
theorem end_K (I:Inv X pins σ H1 s1)(mD:zE X pins D)(mK:zE X pins kS)(ne:D≠kS)(nD:H1 D=none)(nK:H1 kS=none)(hD:s1.heap.get? D=some (seqObj "list" #[] e1))(hk:s1.heap.get? kS=some (seqObj "list" ks.toArray e))(rv:Vals xs us)(hK:KeysIn kf H1 xs ks)(h64:xs.length<64)(h:∀ (l:List Nat) (out:List Value) (h':Heap) (e':Nat),Inv X pins σ H1 { s1 with heap:=h' }->h'.get? D=some (seqObj "list" out.toArray e')->l.Perm (List.range xs.length)->Vals (l.map λi=>xs.getD i .non) out->l.Pairwise (λa b=>u6 (kf b) (kf a)=false)->P (.done (.ret .none)) { s1 with heap:=h' }):wpAny (model X.prog X.w) A2 (ksk_end D false us.toArray e1 (.ref kS) ks.toArray) P E s1:=by
 have hul:us.length=xs.length:=rv.length.symm;have hkl:ks.length=us.length:=by rw [hK.len,hul]
 unfold ksk_end
 dsimp only
 simp only [uF,if_false];by_cases h2:us.toArray.size<2
 ·rw [if_pos h2,if_pos h2];refine yV (yG ?_);refine yV (yG ?_);refine Ks (out:=us) (ks:=ks) I mD mK ne nD nK hD hk ?_ (by omega) (by omega) rfl λh' e' I' hd=>h (List.range xs.length) us h' e' I' hd (.refl _) (by rw [ZT];exact rv) ?_
  ·show ((ks.toArray.zip us.toArray)).map (·.2)=us.toArray;apply tZ.mp;rw [Array.toList_map,ksk_zip];exact List.map_snd_zip (by simp;omega)
  ·have hx:xs.length<2:=by rw [yY] at h2;omega
   have hr:xs.length=0∨xs.length=1:=by omega
   rcases hr with z|z
   ·rw [z];exact List.Pairwise.nil
   ·rw [z];exact uk _ _
 ·rw [if_neg h2,if_neg h2];have h2':2<=us.length:=by rw [yY] at h2;omega
  have tup:∀ i,i<xs.length->∃ p ox t u n,ks.getD i Value.none = .ref p/\s1.heap.get? p=some ox/\ox.cls = .type "tuple"/\ox.data = .seq #[.int (kf i).1 t,.str (kf i).2 u] n:=λi hi=>by
   obtain ⟨p,a1,a2⟩:=hK.at_ i (xs.getD i .non) (by rw [yW hi];simp [hi]);obtain ⟨_,its,r,o,e1,e2,n,e3⟩:=I.hok p _ a2;obtain ⟨u1,u2,rfl,z1,z2⟩:=KC r;obtain ⟨t,rfl⟩:∃ t,u1 = .int (kf i).1 t:=z1;obtain ⟨u,rfl⟩:∃ u,u2 = .str (kf i).2 u:=z2;exact ⟨p,o,t,u,n,by simp [a1],e1,e2,e3⟩
  have kt:∀{l:List Nat},(∀ i∈l,i<xs.length)->∃ fs,PySem.W.KatTups s1.heap (l.map λi=>ks.getD i Value.none) fs/\fs.length=l.length/\∀ v∈fs,∃ i t,v=Value.int i t:=λ{l}=>by
   induction l with
   |nil=>exact λ_=>⟨[],.nil,rfl,λv hv=>by simp at hv⟩
   |cons i l ih =>
    intro hl;obtain ⟨fs,b1,b2,b3⟩:=ih λj hj=>hl j (yN _ hj);obtain ⟨p,ox,t,u,n,c1,c2,c3,c4⟩:=tup i (hl i yQ);refine ⟨Value.int (kf i).1 t::fs,?_,by rw [yA,yA,b2],λv hv=>?_⟩
    ·rw [yO,c1];exact .cons c2 c3 c4 rfl b1
    ·rcases yP.mp hv with z|z
     ·exact ⟨_,_,z⟩
     ·exact b3 v z
  obtain ⟨fs,f1,f2,f3⟩:=kt (l:=List.range ks.length) λi hi=>by rw [uZ,hK.len] at hi;exact hi
  rw [ZT] at f1;rw [uy] at f2;refine yV (PySem.W.kat_kind (T:= .type "int") f1 (by omega) (λv hv=>?_) rfl ?_)
  ·obtain ⟨i,t,rfl⟩:=f3 v hv;exact .now
  have O:=QZ λi=>kf i;refine yV (wpAny_mono (PySem.W.kat_run (vs:=us) (ks:=ks) (Q:=λst' s'=>s'=s1/\∃ p:Array Nat,p.Perm (List.toArray (List.range us.length))/\p.size=us.length/\(∀ i j,i<=j->j<us.length->u6 (kf (p.getD j 0)) (kf (p.getD i 0))=false)/\arrOf st'=p.map (PySem.W.kas_item (ks.toArray.zip us.toArray))/\failedOf st'=none)
   (G:=λp s'=>s'=s1/\p.Perm (List.toArray (List.range us.length))/\p.size=us.length/\∀ i j,i<=j->j<us.length->u6 (kf (p.getD j 0)) (kf (p.getD i 0))=false) hkl h2' (by omega)
   (λp st' s' z1 z2 z3 z4=>⟨z4.1,p,z4.2.1,z4.2.2.1,z4.2.2.2,z2,z3⟩)
   (Ka.sort_wp O (by omega) (λi j C hi hj hC=>?_) λp z1 z2 z3=>⟨rfl,z1,z2,z3⟩)) (λr s' hr=>?_) λ_ _ z=>z)
  ·obtain ⟨p,ox,t,u,n,c1,c2,c3,c4⟩:=tup i (by omega);obtain ⟨q,oy,t',u',m,d1,d2,d3,d4⟩:=tup j (by omega);show wpAny _ _ (keyLt' _ (ks.getD i Value.none) (ks.getD j Value.none)) C _ _;rw [c1,d1];exact Ho c2 c4 d2 d4 hC
  ·obtain ⟨⟨⟩,st⟩:=r;obtain ⟨rfl,p,q1,q2,q3,q4,q5⟩:=hr
   dsimp only
   have pl:p.toList.Perm (List.range us.length):=Array.perm_iff_toList_perm.mp q1;have lo:∀ i∈p.toList,i<xs.length:=λi hi=>by
    have:=pl.mem_iff.mp hi;rw [uZ] at this;omega
   refine Ks (out:=p.toList.map λi=>us.getD i Value.none) (ks:=ks) I mD mK ne nD nK hD hk (PySem.W.kat_snds hkl q4) (by rw [yZ,uo,q2];omega) (by omega) q5 λh' e' I' hd=>h p.toList _ h' e' I' hd (by rw [<- hul];exact pl) (KH rv lo) ?_;rw [List.pairwise_iff_getElem];intro i j hi hj hij;rw [uo,q2] at hi hj;have:=q3 i j (by omega) hj;have gi:∀ k,(hk:k<p.size)->p.getD k 0=p[k]:=λk hk=>by simp [Array.getD,hk]
   rw [gi i (by omega),gi j (by omega)] at this;simpa using this
end
section
variable {X:Cx}{pins:List (Addr×Obj)}{σ:St}{H:Hp}{s:Shared}{A2:Around}{D kS f:Addr}{e1:Nat}{xs:List V}{us:List Value}{kf:Nat->Int×Str}{P:PySem.Fin->Shared->Prop}{E:Value->Shared->Prop}
def XT (X:Cx)(pins:List (Addr×Obj))(σ:St)(H:Hp)(A2:Around)(f:Addr)(kf:Nat->Int×Str)(xs:List V):Prop:=∀(H':Hp)(s':Shared)(i:Nat)(x:V)(u:Value),xs[i]?=some x->RelV x u->Inv X pins σ H' s'->Grow H H' ->
 wpAny (model X.prog X.w) A2 (call (.ref f) [u]) (λu' s''=>CE X.stack X.prog X.w H' s' (λv H''=>Grow H' H''/\∃ p,v = .ref p/\H'' p=some (.tup [.int (kf i).1,.str (kf i).2])) u' s'') (λ_ _=>False) s'
theorem LP (I:Inv X pins σ H s)(mD:zE X pins D)(mK:zE X pins kS)(ne:D≠kS)(nD:H D=none)(nK:H kS=none)(hD:s.heap.get? D=some (seqObj "list" #[] e1))(hk:s.heap.get? kS=some (seqObj "list" #[] 0))(rv:Vals xs us)(h64:xs.length<64)(hkey:XT X pins σ H A2 f kf xs)(h:Wb X pins σ H kf D xs λs'=>P (.done (.ret .none)) s'):wpAny (model X.prog X.w) A2 (ksk_rest D (.ref f) false us.toArray e1 (.ref kS)) P E s:=by
 have hul:us.length=xs.length:=rv.length.symm;unfold ksk_rest;refine yV (wpAny_rule ?_)
 first
  |rw [List.forIn_toArray]
  |(rw [<- Array.forIn_toList];simp only [List.toList_toArray])
 refine yV (ksk_fold (λj s'=>∃ (H':Hp) (ks:List Value) (e:Nat),Inv X pins σ H' s'/\Grow H H'/\H' D=none/\H' kS=none/\s'.heap.get? D=some (seqObj "list" #[] e1)/\s'.heap.get? kS=some (seqObj "list" ks.toArray e)/\KeysIn kf H' (xs.take j) ks) us 0 s
  ⟨H,[],0,I,.refl,nD,nK,hD,hk,by rw [List.take_zero];exact .nil⟩ (λj u s' hu hI=>?_) λs' hI=>?_)
 ·rw [Nat.zero_add] at hI ⊢;obtain ⟨H',ks,e,I',g,n1,n2,d1,d2,kk⟩:=hI;have hj:j<us.length:=by
   rcases Nat.lt_or_ge j us.length with z|z
   ·exact z
   ·rw [uR z] at hu;cases hu
  obtain ⟨x,hx,rx⟩:∃ x,xs[j]?=some x/\RelV x u:=by
   have z:=VP (i:=j) rv (by omega);refine ⟨xs.getD j .non,by rw [yW (by omega)];simp [show j<xs.length by omega],?_⟩;have e2:us.getD j Value.none=u:=by simp [hu]
   rw [e2] at z;exact z
  have lk:ks.length<64:=by rw [kk.len,uI];omega
  refine yV (wpAny_attempt (wpAny_mono (hkey H' s' j x u hx rx I' g) (λu' s'' ce=>?_) λ_ _ z=>z.elim));have ep:=I'.after ce;obtain ⟨v,H'',os,bare,un,hok,r,g2,p,rfl,hp⟩:=ce;obtain rfl:u'=Value.ref p:=r;have I'':Inv X pins σ H'' s'':=by obtain ⟨hh,gg,dd,tt,os'⟩:=s'';obtain rfl:os'=s'.os:=os;exact I'.call (h':=hh) (g':=gg) (d':=dd) (t':=tt) (ch:=[]) un hok bare (λb z=>absurd z (by simp))
  have d1':=un.keep D _ d1 n1 mD.nS (by simp);have d2':=un.keep kS _ d2 n2 mK.nS (by simp);have n1':=un.free D _ d1 n1 (by simp);have n2':=un.free kS _ d2 n2 (by simp);have ea:ks.toArray.push (.ref p)=(ks++[Value.ref p]).toArray:=by simp
  obtain ⟨c2,hc2⟩:∃ c2,(s''.heap.update kS (Obj.mapSeq (·.push (Value.ref p)))).get? kS=some (seqObj "list" (ks++[Value.ref p]).toArray c2):=⟨_,by rw [<- ea];exact get?_update_seq d2' (·.push (Value.ref p))⟩
  dsimp only
  refine yV (listUpdate_at d2' rfl ?_ (by rw [yY,sizeLine_eq];omega) (by show (ks.toArray.push (Value.ref p)).size<=_;rw [Array.size_push,yY,sizeLine_eq];omega));refine yG ⟨rfl,H'',ks++[Value.ref p],c2,I''.turn (t':=s''.toks) mK n2' λc o n q=>wf n q,g.trans g2,n1',n2',wf ne d1',hc2,?_⟩;have et:xs.take (j+1)=xs.take j++[x]:=by rw [List.take_add_one,hx];rfl
  rw [et];exact kk.snoc g2 (by rw [uI,Nat.min_eq_left (by omega)];exact hp)
 ·rw [Nat.zero_add] at hI;obtain ⟨H',ks,e,I',g,n1,n2,d1,d2,kk⟩:=hI;rw [hul,ur] at kk;refine yV (listItems_at d2 rfl ?_);exact end_K I' mD mK ne n1 n2 d1 d2 rv kk h64 λl out h' e' J hd p r q=>h l out H' _ e' J g n1 hd p r q
theorem Hk (I:Inv X pins σ H s)(mD:zE X pins D)(nD:H D=none)(hD:s.heap.get? D=some (seqObj "list" us.toArray n))(rv:Vals xs us)(h64:xs.length<64)(hkey:XT X pins σ H A2 f kf xs)(h:Wb X pins σ H kf D xs λs'=>P (.done (.ret .none)) s'):wpAny (model X.prog X.w) A2 (ksk_tree D (.ref f) false) P E s:=by have hul:us.length=xs.length:=rv.length.symm;obtain ⟨e1,hD1⟩:∃ e1,(s.heap.update D (Obj.mapSeq λ_=>(#[]:Array Value))).get? D=some (seqObj "list" #[] e1):=⟨_,get?_update_seq hD λ_=>#[]⟩;have I1:=I.turn (t':=s.toks) mD nD (h':=s.heap.update D (Obj.mapSeq λ_=>(#[]:Array Value))) λc o n q=>wf n q;have k2:∀ b o,(s.heap.update D (Obj.mapSeq λ_=>(#[]:Array Value))).get? b=some o->((s.heap.update D (Obj.mapSeq λ_=>(#[]:Array Value))).push (seqObj "tuple" us.toArray 0)).get? b=some o:=λb o e=>yX _ e;have I2:=I1.kept (t':=s.toks) k2;have k3:∀ b o,((s.heap.update D (Obj.mapSeq λ_=>(#[]:Array Value))).push (seqObj "tuple" us.toArray 0)).get? b=some o->(((s.heap.update D (Obj.mapSeq λ_=>(#[]:Array Value))).push (seqObj "tuple" us.toArray 0)).push (seqObj "list" #[] 0)).get? b=some o:=λb o e=>yX _ e;have I3:=I2.kept (t':=s.toks) k3;have mK:=I2.mine (b:=((s.heap.update D (Obj.mapSeq λ_=>(#[]:Array Value))).push (seqObj "tuple" us.toArray 0)).objs.size) (yU _);have nK:=I2.hok.fresh (a:=((s.heap.update D (Obj.mapSeq λ_=>(#[]:Array Value))).push (seqObj "tuple" us.toArray 0)).objs.size) (yU _);unfold ksk_tree;refine yV (listItems_at hD rfl ?_);refine yV (listUpdate_at hD rfl ?_ (by rw [yY,sizeLine_eq];omega) (yo _));refine yV (seqEpoch_at hD1 rfl ?_);refine yV (wpAny_newTuple ?_ (by show us.length<=_;rw [sizeLine_eq];omega));refine yV (wpAny_newList ?_ (yo _));refine wpAny_holding ?_;exact LP (s:={ s with heap:=((s.heap.update D (Obj.mapSeq λ_=>(#[]:Array Value))).push (seqObj "tuple" us.toArray 0)).push (seqObj "list" #[] 0) }) I3 mD mK (yK (yT (k2 _ _ hD1))) nD nK (k3 _ _ (k2 _ _ hD1)) (yI _ rfl) rv h64 hkey h
end
section
variable {X:Cx}{pins:List (Addr×Obj)}{σ:St}{H:Hp}{s:Shared}{a f:Addr}{xs:List V}{kf:Nat->Int×Str}{Q:VK}{E:Value->Shared->Prop}
theorem BE (I:Inv X pins σ H s)(hl:SqL X.K H a xs)(h64:xs.length<64)(hkey:XT X pins σ H X.A.in1.in1 f kf xs)(h:∀ (D:Addr) (l:List Nat) (H':Hp),Grow H H'->H' D=none->l.Perm (List.range xs.length)->l.Pairwise (λa b=>u6 (kf b) (kf a)=false)->Q (.ref D) (z5 H' D (.lst (l.map λi=>xs.getD i .non)))):wpAny (model X.prog X.w) X.A (call (.builtin "sorted") [.ref a] [(Str.ofString "key",.ref f)]) (EP X pins σ Q) E s:=by
 obtain ⟨us,rv,p,hz⟩:=I.list hl;have hul:us.length=xs.length:=rv.length.symm;refine call_function_entry_kw kind_sorted plain_sorted entry_sorted (ksk_s1 _ _) ?_;unfold Builtin.«sorted»;refine yV (m:=checkCount "sorted" 1 1 _) (yG ?_);refine yV (collect_list p.isList ?_ (by rw [sizeLine_eq];omega));refine yV (wpAny_newList ?_ (by rw [sizeLine_eq];omega));have keep:∀ b o,s.heap.get? b=some o->((s.heap.push (seqObj "list" #[] 0)).update s.heap.objs.size (Obj.mapSeq (·++us.toArray))).get? b=some o:=λb o q=>by
  rw [Heap.get?_update_ne _ _ _ _ (yK (yT q))];exact yX _ q
 have I1:=I.kept (t':=s.toks) keep;have k2:∀ b o,((s.heap.push (seqObj "list" #[] 0)).update s.heap.objs.size (Obj.mapSeq (·++us.toArray))).get? b=some o->(((s.heap.push (seqObj "list" #[] 0)).update s.heap.objs.size (Obj.mapSeq (·++us.toArray))).push (seqObj "list" us.toArray 0)).get? b=some o:=λb o e=>yX _ e;have I2:=I1.kept (t':=s.toks) k2;have mD:=I1.mine (b:=((s.heap.push (seqObj "list" #[] 0)).update s.heap.objs.size (Obj.mapSeq (·++us.toArray))).objs.size) (yU _);have nD:=I1.hok.fresh (a:=((s.heap.push (seqObj "list" #[] 0)).update s.heap.objs.size (Obj.mapSeq (·++us.toArray))).objs.size) (yU _);have hoL:(((s.heap.push (seqObj "list" #[] 0)).update s.heap.objs.size (Obj.mapSeq (·++us.toArray))).push (seqObj "list" us.toArray 0)).get? ((s.heap.push (seqObj "list" #[] 0)).update s.heap.objs.size (Obj.mapSeq (·++us.toArray))).objs.size=some (seqObj "list" us.toArray 0):=yI _ rfl;refine yV (wpAny_holding (wpAny_call_entry_kw slot_list_sort (s:={ s with heap:=((s.heap.push (seqObj "list" #[] 0)).update s.heap.objs.size (Obj.mapSeq (·++us.toArray))).push (seqObj "list" us.toArray 0) }) ⟨_,hoL,rfl⟩ entry_list_sort ?body (ksk_l1 _ _)));show wpAny (model X.prog X.w) X.A.in1.in1 (Builtin.«list.sort» ⟨[.ref _],[(Str.ofString "key",.ref f)]⟩) _ _ _;rw [ksk_t1];refine Hk (s:={ s with heap:=((s.heap.push (seqObj "list" #[] 0)).update s.heap.objs.size (Obj.mapSeq (·++us.toArray))).push (seqObj "list" us.toArray 0) }) (kf:=kf) I2 mD nD hoL rv h64 hkey λl out H' s' e' J g n hd pm r pw=>⟨_,rfl,yG ⟨_,rfl,.ref _,_,J.track mD.s0 n mD.nL mD.nC mD.nP (o:= .lst (l.map λi=>xs.getD i .non)) ?_,rfl,h _ l H' g n pm pw⟩⟩;exact ⟨by rw [yZ,pm.length_eq,uy];exact hz,out,e',r,hd⟩
end
end L2
namespace L2
open PySem PySem.Spec PySem.Calls PyProof.Rows
variable{x:Str}{K:Fg}
section
variable {P:Program}{w:World}{K:Fg}{mg:Str->Option Value}{base:Heap}
theorem Fun.okC {qual:Str}{st:Stmt}{f:Addr}{fd:FuncData}{N ps:List Str}{k:Nat}{sp:Sp}(F:Fun K x qual st f fd)(S:v8 N ps (z9 st))(len:∀ vs H Q E,sp vs H Q E->vs.length=ps.length)(hbody:∀(A:Around)(outer:List Env)(s:Shared)(H:Hp)(vs:List V)(Q:VK)(E:XK),Room k (A.deeper (envOfC qual (z9 st) s.heap.objs.size f fd.code))->sp vs H Q E -> ∃ t,PSs (qR j6 P w K mg base N qual (z9 st) f fd.code A outer s H E).nox (o3 st) t/\t { nx:=λ_ H'=>Q .non H',rt:=Q } (start N vs) H):FnOk P w K mg base j6 (k+1) f fd ps sp:=by obtain ⟨oc,od,kV,doc,pm,an,cdv,ct,osl,rfl,lk,hcd⟩:=F.ex;refine Zv lk hcd S len λA outer s H vs Q E hr hsp=>?_;obtain ⟨t,h,q⟩:=hbody A outer s H vs Q E hr hsp;exact ⟨t,h.nox,q⟩
end
theorem SqL.grow {H H':Hp}{a:Addr}{xs:List V}(h:SqL K H a xs)(g:Grow H H'):SqL K H' a xs:=by
 rcases h with (h|⟨o,h⟩)|h
 ·exact .inl (.inl (g _ _ h))
 ·exact .inl (.inr ⟨o,g _ _ h⟩)
 ·exact .inr h
section
variable {X:Cx}
def Kn (K:Fg)(fi:List Nat)(t:TA)(tb:TE):TE:=λσ H Q=>t σ H λvs H1=>∃(a:Addr)(xs:List V)(kf:Nat->Int×Str)(cv:List V),vs=[.ref a]/\(fi.map λi=>σ[i]?)=cv.map (λv=>some (some v))/\SqL K H1 a xs/\xs.length<64 /\
 (∀(i:Nat)(x:V),xs[i]?=some x->∀(H':Hp)(Q':VK),Grow H1 H'->(∀ p H'',Grow H' H''->H'' p=some (.tup [.int (kf i).1,.str (kf i).2])->Q' (.ref p) H'')->tb (([x]++cv).map some) H' Q') /\
 ∀(D:Addr)(l:List Nat)(H':Hp),Grow H1 H'->H' D=none->l.Perm (List.range xs.length)->l.Pairwise (λa b=>u6 (kf b) (kf a)=false)->Q (.ref D) (z5 H' D (.lst (l.map λi=>xs.getD i .non)))
structure KS (X:Cx)(scope:Scope)(clos:List (Str×Addr))(fr:List Str)(fi:List Nat):Prop where
 len:fi.length=fr.length
 at_:∀(j:Nat)(y:Str)(i:Nat),fr[j]?=some y->fi[j]?=some i->X.N[i]?=some y/\X.env.kindOf y=some .cell/\scope.names.lookup y=some .free/\Vis X.env.scope y
 sub:∀ y c,clos.lookup y=some c->X.env.cells.lookup y=some c
 has:∀ y c,y∈fr->X.env.cells.lookup y=some c->clos.lookup y=some c
theorem Gb {e body:Expr}{t:TA}{tb:TE}{p pos kp lp:Pos}{params:Arguments}{scope:Scope}{c Pt:Addr}{ps:Array Value}{wt:List (Pos×Str)}{k:Nat}{clos:List (Str×Addr)}{fr:List Str}{fi:List Nat}(hK:X.K=K)(hr:Room (k+3) X.A)(hg:Gl X "sorted")(hm:X.mg "sorted"=none)(ha:PA X [e] t)(hP:(Pt,ps,wt)∈TABS)(hw:(lp,X.env.qual ++ "<lambda>")∈wt)(hu:∀ p∈wt,(p.1.line==lp.line&&p.1.col==lp.col)=true->p.2=X.env.qual ++ "<lambda>")(hcode:X.env.code = .ref c)(hC:∀ h:Heap,X.K.In h->PySem.W.CodeHd h c Pt)(S:VX [x] fr scope)(LF:KS X scope clos fr fi)(hb:∀ (f c':Addr) (s:Shared) (H:Hp),Room k (X.A.in1.in1.deeper (PySem.W.envX (X.env.qual ++ "<lambda>") scope s.heap.objs.size f (.ref c') clos))->PE (QE X.prog X.w X.K X.mg X.base ([x]++fr) (X.env.qual ++ "<lambda>") scope f c' clos X.A.in1.in1 X.stack s H) body tb)(hbd:∀ (qual:Str) (pm cdv ctv u:Value),bindArgs (PySem.W.kla_fn "<lambda>" qual params body scope clos pm cdv ctv) ⟨[u],[]⟩=pure [(x,u)])(hcl:closureFor scope X.env=pure clos:=by rfl)(hdef:defaultsOf params X.env=([],[]):=by rfl)(hs:backTo pos (starEach [e] X.env)=(false,eval e X.env)::backTo pos (starEach [] X.env):=by rfl)(hpl:(backTo pos (starEach [e] X.env)).any (·.1)=false:=by rfl):PE X (.Call (.Name "sorted" p) [e] [⟨some "key",.Lambda params body scope lp,kp⟩] pos) (Kn K fi t tb):=by
 subst hK;intro pins s σ H Q I h;refine wpAny_Call_Name_kw (zM I hg hm Yp ?_ (by decide) (by decide));refine PyProof.Rows.callWith_kw (z8 (ha pos pins s σ H _ I h) λus s1 ⟨vs,H1,I1,r1,q1⟩=>?_) hs hpl;obtain ⟨a,xs,kf,cv,rfl,hcv,hq,h64,qk,qe⟩:=q1;obtain ⟨u,rfl,ru⟩:=xJ r1;obtain rfl:u=Value.ref a:=ru;refine PyProof.Rows.kws_cons (CM I1 hP hw hu hcode (hC _ I1.mod.kin) hcl hdef λf c' oc vs tq ctv H' h' tk I2 g _ hf hc hd hv=>PyProof.Rows.kws_nil ?_);show wpAny _ _ (call (.builtin "sorted") [.ref a] [(Str.ofString "key",Value.ref f)]) _ _ _;refine BE I2 (hq.grow g) h64 (kf:=kf) (λH3 s3 i3 x3 u3 hx rx I3 g3=>?_) λD l H3 g3 n pm pw=>qe D l H3 (Grow.trans g g3) n pm pw;obtain ⟨hf3,_⟩:=I3.hok f _ (g3 _ _ hf);obtain ⟨hc3,_⟩:=I3.hok c' _ (g3 _ _ hc);have room:=hr.in1.in1;have lcv:cv.length=fr.length:=by have z:=congrArg List.length hcv;rw [yZ,yZ] at z;rw [<- z,LF.len]
 refine wpAny_call (codeAny_mono (CL (vs:=[x3]) (cv:=cv) (t:=tb) (E:=λ_ _ _=>False) (Q:=λv H''=>Grow H3 H''/\∃ p,v = .ref p/\H'' p=some (.tup [.int (kf i3).1,.str (kf i3).2])) S room.depth room.hd I3.env0.in1.in1 hf3 ⟨c',oc,vs,tq,rfl,hc3,hd,hv⟩ (hbd _ _ _ _ _) rfl (.cons rx .nil)
  (λy z d e1 e2=>I3.ok.inj y z d (LF.sub y d e1) (LF.sub z d e2)) (λy d e1=>⟨I3.cell y d (LF.sub y d e1),I3.freeC y d (LF.sub y d e1)⟩) lcv
  (λj y v e1 e2=>?_) (hb f c' s3 H3 (room.deeper _)) (qk i3 x3 hx H3 _ (Grow.trans g g3) λp H'' g4 hp=>⟨g4,p,rfl,hp⟩)) λr s' z=>?_)
 ·have hj:j<fi.length:=by
   rw [LF.len];rcases Nat.lt_or_ge j fr.length with q|q
   ·exact q
   ·rw [uR q] at e1;cases e1
  obtain ⟨n1,n2,n3,n4⟩:=LF.at_ j y fi[j] e1 (yW hj);have es:σ[fi[j]]?=some (some v):=by have z:=congrArg (λl=>l[j]?) hcv;simp only [yM,e2,yW hj,uM,Option.some.injEq] at z;exact z
  obtain ⟨m,_,lk⟩:=I3.loc;obtain ⟨u,rv,look⟩:=lk fi[j] y v n1 es n4;refine ⟨n3,?_⟩;rcases look with ⟨q,_⟩|⟨_,d,q1,q2⟩
  ·rw [n2] at q;cases q
  ·exact ⟨d,u,LF.has y d (ym e1) q1,q2,rv⟩
 ·cases r with
  |error e=>exact z.elim
  |ok fl =>
   cases fl with
   |ret u=>exact z
   |next=>exact False.elim z
   |brk=>exact False.elim z
   |cont=>exact False.elim z
end
end L2
namespace Mi
open PySem L2
def ZE:PV->Option (Int×Str)
 | .tup [.at (.int i),.at (.str n)]=>some (i,n)
 |_=>none
theorem Cy {y:PV}{k:Int×Str}(h:ZE y=some k):y = .tup [.at (.int k.1),.at (.str k.2)]:=by
 unfold ZE at h;split at h
 ·cases h;rfl
 ·cases h
def jP (kb:PV->Option PV):List PV->Option (List (Int×Str))
 |[]=>some []
 |x::xs=>((kb x).bind ZE).bind λk=>(jP kb xs).map (k::·)
theorem Uw {kb:PV->Option PV}:∀{xs:List PV}{ks:List (Int×Str)},jP kb xs=some ks->ks.length=xs.length
 |[],ks,h=>by cases h;rfl
 |x::xs,ks,h=>by
  obtain ⟨k,_,h2⟩:=uP.mp h;obtain ⟨r,h3,rfl⟩:=yL.mp h2;rw [yA,yA,Uw h3]
theorem Uv {kb:PV->Option PV}:∀{xs:List PV}{ks:List (Int×Str)}{i:Nat}{x:PV},jP kb xs=some ks->xs[i]?=some x->∃ k,ks[i]?=some k/\kb x=some (.tup [.at (.int k.1),.at (.str k.2)])
 |[],_,_,_,_,e=>by simp at e
 |y::xs,ks,0,x,h,e=>by
  obtain ⟨k,h1,h2⟩:=uP.mp h;obtain ⟨r,h3,rfl⟩:=yL.mp h2;obtain ⟨z,h4,h5⟩:=uP.mp h1;simp at e;subst e;exact ⟨k,rfl,by rw [h4,Cy h5]⟩
 |y::xs,ks,i+1,x,h,e=>by
  obtain ⟨k,h1,h2⟩:=uP.mp h;obtain ⟨r,h3,rfl⟩:=yL.mp h2;obtain ⟨k',a,b⟩:=Uv (i:=i) h3 (by simpa using e);exact ⟨k',by simpa using a,b⟩
def qm (ks:List (Int×Str))(i:Nat):Int×Str:=ks.getD i (0, "")
def leI (ks:List (Int×Str))(a b:Nat):Bool:=!u6 (qm ks b) (qm ks a)
def jo (ks:List (Int×Str)):List Nat:=(List.range ks.length).mergeSort (leI ks)
theorem Qj (ks:List (Int×Str)):(jo ks).Perm (List.range ks.length):=List.mergeSort_perm _ _
theorem GY (ks:List (Int×Str)):(jo ks).Pairwise λa b=>u6 (qm ks b) (qm ks a)=false:=by
 have O:=QZ (qm ks);have:=List.pairwise_mergeSort (le:=leI ks) (λa b c h1 h2=>by
  unfold leI at h1 h2 ⊢;simp only [Bool.not_eq_true'] at h1 h2 ⊢;exact Ka.le_trans (lt:=λi j=>u6 (qm ks i) (qm ks j)) O (a:=a) (b:=b) (c:=c) h1 h2) (λa b=>by
  unfold leI;cases h:u6 (qm ks b) (qm ks a) with
  |false=>rfl
  |true =>
   have h2:u6 (qm ks a) (qm ks b)=false:=Ka.le_of_lt (lt:=λi j=>u6 (qm ks i) (qm ks j)) O (a:=b) (b:=a) h;rw [h2];rfl) (List.range ks.length)
 exact this.imp λh=>by unfold leI at h;simpa using h
theorem CW {p q:Int×Str}(h1:u6 p q=false)(h2:u6 q p=false):p=q:=by
 have n1:¬ (p.1<q.1∨(p.1=q.1/\p.2.cps.toList<q.2.cps.toList)):=λz=>by rw [ltK_iff.mpr z] at h1;cases h1
 have n2:¬ (q.1<p.1∨(q.1=p.1/\q.2.cps.toList<p.2.cps.toList)):=λz=>by rw [ltK_iff.mpr z] at h2;cases h2
 have e1:p.1=q.1:=by omega
 have e2:p.2.cps.toList=q.2.cps.toList:=List.le_antisymm (uz.mp λz=>n2 (.inr ⟨e1.symm,z⟩)) (uz.mp λz=>n1 (.inr ⟨e1,z⟩));obtain ⟨i,⟨s⟩⟩:=p;obtain ⟨j,⟨t⟩⟩:=q;cases e1;cases tZ.mp e2;rfl
theorem NT {ks:List (Int×Str)}(nd:ks.Nodup){l:List Nat}(p:l.Perm (List.range ks.length))(u:l.Pairwise λa b=>u6 (qm ks b) (qm ks a)=false):l=jo ks :=
 List.Perm.eq_of_pairwise (λa b ha hb h1 h2=>by
  have la:a<ks.length:=uZ.mp (p.mem_iff.mp ha);have lb:b<ks.length:=uZ.mp ((Qj ks).mem_iff.mp hb);have e:=CW h2 h1;unfold qm at e;simp only [yb,yW la,yW lb,Option.getD_some] at e;have nd':=List.pairwise_iff_getElem.mp nd;rcases Nat.lt_trichotomy a b with z|z|z
  ·exact absurd e (nd' a b la lb z)
  ·exact z
  ·exact absurd e.symm (nd' b a lb la z)) u (GY ks) (p.trans (Qj ks).symm)
def Je (kb:PV->Option PV):List PV->Option PV
 |[.lst xs]=>(jP kb xs).bind λks=>if xs.length<64/\ks.Nodup then some (.lst ((jo ks).map λi=>xs.getD i (.at .non))) else none
 |_=>none
theorem GR {H:Hp}{xs:List PV}{vs:List V}(r:Reps H xs vs):∀{l:List Nat},(∀ i∈l,i<xs.length)->Reps H (l.map λi=>xs.getD i (.at .non)) (l.map λi=>vs.getD i .non)
 |[],_=> .nil
 |i::l,h=>by
  have hi:=h i yQ;obtain ⟨v,e1,e2⟩:=r.get (i:=i) (x:=xs.getD i (.at .non)) (by rw [yW hi];simp [hi]);refine .cons ?_ (GR r λj hj=>h j (yN _ hj));have:vs.getD i .non=v:=by simp [e1]
  show Rep H (xs.getD i (.at .non)) (vs.getD i .non);rw [this];exact e2
section
variable {K:Fg}{t:TA}{tb:TE}{as:MA}{kb:M}
def shs (ε:ME):List Nat->Option (List PV)
 |[]=>some []
 |i::l=>match ε[i]? with
  |some (.sh x)=>(shs ε l).map (x::·)
  |_=>none
theorem GX {Hs0 H0 Hs H:Hp}{σ:St}{ε:ME}(r:RS Hs0 H0 Hs H σ ε):∀{l:List Nat}{cs:List PV},shs ε l=some cs->∃ cv,(l.map λi=>σ[i]?)=cv.map (λv=>some (some v))/\Reps Hs cs cv
 |[],_,h=>by cases h;exact ⟨[],rfl,.nil⟩
 |i::l,cs,h=>by
  unfold shs at h;split at h
  ·rename_i x hx;obtain ⟨r',h2,rfl⟩:=yL.mp h;obtain ⟨v,e1,e2⟩:=r.sh i x hx;obtain ⟨cv,e3,e4⟩:=GX r h2;exact ⟨v::cv,by rw [yO,yO,e1,e3],.cons e2 e4⟩
  ·cases h
def Zg (fi:List Nat)(as:MA)(kb:M):M:=λε=>(shs ε fi).bind λcs=>(as ε).bind (Je λx=>kb (.sh x::cs.map .sh))
instance {fi:List Nat}[sa:qP t as][sb:SemE tb kb]:qU (Kn K fi t tb) (Zg fi as kb) where
 h:=λ{ε y} h {Hs0 H0 Hs H σ} rs {Q} q=>by
  obtain ⟨cs,h0,h⟩:=uP.mp h;obtain ⟨ys,h1,h2⟩:=uP.mp h;unfold Je at h2;split at h2
  ·rename_i xs;obtain ⟨ks,h3,h4⟩:=uP.mp h2;split at h4
   ·rename_i hc;cases h4;obtain ⟨cv,ec,rc⟩:=GX rs h0;refine sa.h h1 rs λvs Hs1 H1 x1 r1=>?_;obtain ⟨v,w,rfl,p1,p2⟩:=reps_cons.mp r1;cases reps_nil.mp p2;obtain ⟨a,xv,rfl,e1,e2⟩:=rep_lst.mp p1;have lx:xv.length=xs.length:=e2.length;have lk:ks.length=xs.length:=Uw h3;refine ⟨a,xv,qm ks,cv,rfl,ec,SqL.of (x1.s3 _ _ e1),by omega,λi x hx H' Q' g hq=>?_,λD l H' g n pm pw=>?_⟩
    ·have hi:i<xs.length:=by
      rcases Nat.lt_or_ge i xv.length with z|z
      ·omega
      ·rw [uR z] at hx;cases hx
     obtain ⟨x',e3,e4⟩:=e2.get (i:=i) (x:=xs[i]) (yW hi);rw [hx] at e3;cases e3;obtain ⟨k,e5,e6⟩:=Uv h3 (yW hi);have ek:qm ks i=k:=by unfold qm;simp [e5]
     have st:=zR (N:=List.replicate (([x]++cv).length) "") (xs:=xs[i]::cs) (vs:=x::cv) (show Same Hs1 H' from λb o e=>g b o (x1.s3 b o e)) (.cons e4 (rc.mono x1.s1));have lc:cv.length=cs.length:=rc.length;refine sb.h e6 (σ:=([x]++cv).map some) (Hs0:=Hs1) (H0:=H') (Hs:=Hs1) ?_ λv Hs2 H2 x2 r2=>?_
     ·simpa [L2.start,lc] using st
     ·obtain ⟨p,us,rfl,e7,e8⟩:=rep_tup.mp r2;have e9:=e8;rw [show [PV.at (.int k.1),PV.at (.str k.2)]=[V.int k.1,V.str k.2].map .at from rfl] at e9;cases Reps.ats e9;exact hq p H2 (λb o e=>x2.s2 b o e) (by rw [ek];exact x2.s3 _ _ e7)
    ·have el:l=jo ks:=NT hc.2 (by rw [lk,<- lx];exact pm) pw;subst el;have nH1:H1 D=none:=by
      cases z:H1 D with
      |none=>rfl
      |some o=>rw [g D o z] at n;cases n
     have nH:H D=none:=x1.s2.free nH1;have nS:Hs1 D=none:=x1.s3.free nH1;refine q D Hs1 _ (x1.trans ⟨.refl _,λb o e=>?_,λb o e=>?_,λ_ _ z=>z⟩) nH nS ⟨_,v6,GR e2 λi hi=>?_⟩
     ·rw [z0 (w4 (g b o e) n)];exact g b o e
     ·have e':=g b o (x1.s3 b o e);rw [z0 (w4 e' n)];exact e'
     ·have:=uZ.mp ((Qj ks).mem_iff.mp hi);omega
   ·cases h4
  ·cases h2
end
end Mi
namespace Mi
open PySem L2 PyProof.Rows
section
variable {P:Program}{w:World}{K:Fg}{mg:Str->Option Value}{base:Heap}
theorem okOC {x qual:Str}{st:Stmt}{f:Addr}{fd:FuncData}{N ps:List Str}{k:Nat}{b:MS}{m:List PV->Option PV}(F:Fun K x qual st f fd)(S:v8 N ps (z9 st))(hm:m=qA N.length ps.length b)(hb:∀(A:Around)(outer:List Env)(s:Shared)(H:Hp)(E:XK),Room k (A.deeper (envOfC qual (z9 st) s.heap.objs.size f fd.code)) -> ∃ t,PSs (qR j6 P w K mg base N qual (z9 st) f fd.code A outer s H E).nox (o3 st) t/\qh true t b):FnOk P w K mg base j6 (k+1) f fd ps (m7 m):=by
 subst hm;refine F.okC S (λvs H Q E h=>?_) (λA outer s H vs Q E hr h=>?_)
 ·obtain ⟨Hs,xs,y,_,r,e,_⟩:=h;unfold qA at e;split at e
  ·rename_i hl;rw [r.length];exact hl
  ·cases e
 ·obtain ⟨Hs,xs,y,sm,r,e,q⟩:=h;obtain ⟨t,ht,sem⟩:=hb A outer s H E hr;refine ⟨t,ht,?_⟩;unfold qA at e;split at e
  ·rename_i hl;obtain ⟨o,eo,e1⟩:=bind_some e;refine sem.h eo (by rw [<- hl];exact zR sm r) ?_;cases o with
   |rt z=>cases e1;exact λa Hs' H' x n n' t=>q a Hs' H' x n n' t
   |nx ε=>cases e1
   |bk ε=>cases e1
   |ct ε=>cases e1
  ·cases e
end
end Mi
namespace L2
open PySem PySem.Spec PyProof.Rows
section
variable {X:Cx}{K:Fg}
def Gz (K:Fg):V->List V->Hp->VK->Prop:=λo vs H Q=>∃ p xs x j,o = .ref p/\vs=[x]/\SqL K H p xs/\y6 x=true/\xs.all y6=true/\xs.length<=1000000/\(xs[j]?.map λy=>c5 y x)=some true/\(∀(m:Nat)(y:V),m<j->xs[m]?=some y->c5 y x=false)/\Q (.int j) H
theorem Zm {x:V}:∀{xs:List V}{us:List Value}{i:Nat}{y:V},Vals xs us->xs.all y6=true->xs[i]?=some y->∃ u,us[i]?=some u/\eqU x u=c5 y x
 |_,_,_,_,.nil,_,h=>by simp at h
 |z::xs,u::us,0,y,.cons r t,f,h=>by
  rw [List.all_cons,yf] at f;cases h;exact ⟨u,rfl,Zl r f.1⟩
 |z::xs,u::us,i+1,y,.cons r t,f,h=>by
  rw [List.all_cons,yf] at f;exact Zm (i:=i) t f.2 (by simpa using h)
theorem Df (hK:X.K=K):MtM X "list.index" (Gz K):=by
 subst hK;intro pins s σ H o vs v us Q I ro rv h;obtain ⟨p,xs,x,j,rfl,rfl,hq,fx,fs,hl,hj,hno,q⟩:=h;cases ro;obtain ⟨u,rfl,ru⟩:=rv.one;obtain ⟨its,r,⟨⟨cls,dd,data,sl⟩,n,ho,hc,hd,hs⟩,hz⟩:=I.list hq;simp only at hc hd hs;subst hc hd hs;obtain ⟨y,hy,hyt⟩:=yL.mp hj;obtain ⟨w,hw,ew⟩:=Zm (x:=x) r fs hy;have hlen:=r.length;have jl:j<its.length:=(yz.mp hw).1;have ej:its.toArray[j]'(by simpa using jl)=w:=by have:=(yz.mp hw).2;simpa using this
 refine call_meets F.slot_list_index ⟨_,ho,rfl⟩ F.entry_list_index (F.args_list_index_2 _ _)
  (SeqAt.list_indexAt p its.toArray n none sl u (eqU x) j (by simpa using jl) (by omega) (by rw [ej,ew];exact hyt) (λm hm hmj=>?_)) ⟨ho,λw hw=>Xl ru fx r fs w (by simpa using hw),?_⟩
 ·have ml:m<its.length:=by simpa using hm
  obtain ⟨z,hz⟩:∃ z,xs[m]?=some z:=⟨xs[m]'(by omega),yW _⟩;obtain ⟨w2,hw2,ew2⟩:=Zm (x:=x) r fs hz;have:its.toArray[m]'hm=w2:=by have:=(yz.mp hw2).2;simpa using this
  rw [this,ew2];exact hno m z hmj hz
 ·exact ⟨.int j,H,I.kept (t':=s.toks+1) λb o e=>e,⟨_,rfl⟩,q⟩
theorem Hq (l b:Addr)(i j:Int)(x y:Str)(t u t' u':Tok)(n n2:Nat)(dd dd2:Option Addr)(sl sl2:Array (Option Value)):Meets (Builtin.«tuple.__lt__» ⟨[.ref l,.ref b],[]⟩) (λ_ R s=>s.heap.get? l=some { cls:= .type "tuple",dict:=dd,data:= .seq #[.int i t,.str x u] n,slots:=sl }/\s.heap.get? b=some { cls:= .type "tuple",dict:=dd2,data:= .seq #[.int j t',.str y u'] n2,slots:=sl2 } /\ R (.ok (.ret (.bool (u6 (i,x) (j,y))))) s) :=
 .of_wp λprog w A R s h=>by
  obtain ⟨hp,g,d,tk,os⟩:=s;obtain ⟨hl,hb,h⟩:=h;have f2:=AutoSeq1.sub_tuple_tuple
  wp_walk using wpAny_loadPart' hl,wpAny_loadPart' hb
  show wpAny _ _ (eqBool (.int i t) (.int j t')) _ _ _;refine wpAny_eqBool_int ?_;by_cases e:i=j
  ·subst e;rw [beq_self_eq_true]
   wp_walk
   show wpAny _ _ (eqBool (.str x u) (.str y u')) _ _ _;refine wpAny_eqBool_str ?_;by_cases e2:x=y
   ·subst e2;rw [yC rfl]
    wp_walk
    refine ⟨_,rfl,?_⟩;have z:u6 (i,x) (i,x)=false:=(QZ λ_=>(i,x)).irr 0;rw [z] at h;exact h
   ·rw [yD e2];refine yV (wpAny_rule (yV (show wpAny _ _ (richCompare .Lt (.str x u) (.str y u')) _ _ _ from PyProof.Rows.lt_str ?_)))
    wp_walk
    refine ⟨_,rfl,?_⟩;have z:u6 (i,x) (i,y)=decide (x.cps.toList<y.cps.toList):=by unfold u6;simp
    rw [z] at h;exact h
  ·have e':(i==j)=false:=by simpa using e
   rw [e'];refine yV (wpAny_rule (yV (show wpAny _ _ (richCompare .Lt (.int i t) (.int j t')) _ _ _ from PyProof.Rows.lt_int ?_)))
   wp_walk
   refine ⟨_,rfl,?_⟩;have z:u6 (i,x) (j,y)=decide (i<j):=by unfold u6;simp [e']
   rw [z] at h;exact h
end
section
variable {X:Cx}{K:Fg}
def rLtP (K:Fg):R2:=λx y H Q=>∃ p q i a j b,x = .ref p/\y = .ref q/\SqT K H p [.int i,.str a]/\SqT K H q [.int j,.str b]/\Q (.bl (u6 (i,a) (j,b))) H
theorem KG {i:Int}{a:Str}{us:List Value}(r:Vals [.int i,.str a] us):∃ t u,us=[.int i t,.str a u]:=by
 cases r with
 |cons p q =>
  cases q with
  |cons p' q'=>cases q';obtain ⟨t,rfl⟩:=p;obtain ⟨u,rfl⟩:=p';exact ⟨t,u,rfl⟩
theorem My (hu:X.A.units+1<cLine)(hK:X.K=K):OpR X (compareOp .Lt) (rLtP K):=by
 subst hK;intro pins s σ H x y v u Q I rx ry h;obtain ⟨p,q,i,a,j,b,rfl,rfl,h1,h2,k⟩:=h;cases rx;cases ry;obtain ⟨its,r,hl,_⟩:=I.tuple h1;obtain ⟨its2,r2,hl2,_⟩:=I.tuple h2;obtain ⟨t,u,rfl⟩:=KG r;obtain ⟨t',u',rfl⟩:=KG r2;obtain ⟨⟨cls,dd,data,sl⟩,ho,hc,n,hd⟩:=id hl;obtain ⟨⟨cls2,dd2,data2,sl2⟩,ho2,hc2,n2,hd2⟩:=id hl2;simp only at hc hd hc2 hd2;subst hc hd hc2 hd2;exact richCompare_meets_room (op:= .Lt) ⟨_,ho,rfl⟩ ⟨_,ho2,rfl⟩ F.slot_tuple_lt F.entry_tuple_lt (F.args_tuple_lt_2 _ _) (Hq p q i j a b t u t' u' n n2 dd dd2 sl sl2)
  ⟨ho,ho2,show Value.bool (u6 (i,a) (j,b))≠Value.notImplemented/\EP X pins σ Q (.bool (u6 (i,a) (j,b))) s from ⟨(λx=>nomatch x),.bl _,H,I,rfl,k⟩⟩ (by omega)
end
end L2
namespace Mi
open PySem L2
variable{K:Fg}
variable {fr:Bool}
def vX:PV->PV->Option PV
 | .tup [.at (.int i),.at (.str x)],.tup [.at (.int j),.at (.str y)]=>some (.at (.bl (u6 (i,x) (j,y))))
 |_,_=>none
theorem GQ {H:Hp}{i:Int}{x:Str}{vs:List V}(r:Reps H [.at (.int i),.at (.str x)] vs):vs=[.int i,.str x]:=Reps.ats (us:=[.int i,.str x]) r
instance :qV (rLtP K) vX where
 h:=λ{x y z} e {Hs H v w} s a b {Q} q=>by
  unfold vX at e;split at e
  ·cases e;obtain ⟨p,vs,rfl,e1,r1⟩:=qM s a;obtain ⟨p',ws,rfl,e2,r2⟩:=qM s b;rw [GQ r1] at e1;rw [GQ r2] at e2;exact ⟨p,p',_,_,_,_,rfl,rfl,SqT.of e1,SqT.of e2,q _ _ _ (.refl s) (rep_at.mpr rfl)⟩
  ·cases e
def pRep:PV->PV->Option PV
 | .lst xs,.at (.int k)=>if -(lim:Int)<=k/\k<=lim/\xs.length*k.toNat<=lim then some (.lst (List.replicate k.toNat xs).flatten) else none
 |_,_=>none
theorem Reps.rep {H:Hp}{xs:List PV}{vs:List V}(r:Reps H xs vs):∀ k:Nat,Reps H (List.replicate k xs).flatten (List.replicate k vs).flatten
 |0=> .nil
 |k+1=>by
  rw [uL,uL,yj,yj];exact r.append (Reps.rep r k)
instance:VZ rRep pRep where
 h:=λ{x y z} e {Hs H v w} s a b {Q} q=>by
  unfold pRep at e;split at e
  ·split at e
   ·rename_i xs k hl;cases e;obtain ⟨p,vs,rfl,e1,r1⟩:=o9 s a;cases k4 b;have hlim:(lim:Int)=1000000:=rfl;exact ⟨p,k,vs,rfl,rfl,e1,by omega,by omega,qF (by rw [r1.length];exact hl.2.2),λl hl=>q l _ _ (.newO s hl) hl (s.free hl) ⟨_,v6,r1.rep _⟩⟩
   ·cases e
  ·cases e
def vI (u:V):List V->Option Nat
 |[]=>none
 |y::ys=>if c5 y u=true then some 0 else (vI u ys).map (·+1)
theorem Ui {u:V}:∀{us:List V}{j:Nat},vI u us=some j->(us[j]?.map λy=>c5 y u)=some true/\∀(m:Nat)(y:V),m<j->us[m]?=some y->c5 y u=false
 |[],_,h=>by cases h
 |y::ys,j,h=>by
  unfold vI at h;split at h
  ·rename_i hy;cases h;exact ⟨by simp [hy],λm y hm=>absurd hm (Nat.not_lt_zero _)⟩
  ·rename_i hy;obtain ⟨k,hk,rfl⟩:=yL.mp h;obtain ⟨h1,h2⟩:=Ui hk;refine ⟨by simpa using h1,λm z hm hz=>?_⟩;cases m with
   |zero=>cases hz;simpa using hy
   |succ m=>exact h2 m z (by omega) (by simpa using hz)
def Zf (a b:M):M:=λε=>(a ε).bind λx=>(b ε).bind λy=>match x,y with
 | .lst xs,.at u=>(ats xs).bind λus=>if y6 u=true/\us.all y6=true/\us.length<=lim then (vI u us).map λ(j:Nat)=>PV.at (.int (j:Int)) else none
 |_,_=>none
instance {to te:TE}{a b:M}[sa:c9 to a][sb:SemE te b]:SemE (tBM K "list" (Gz K) to (i7 te o5)) (Zf a b) where
 h:=λe _ _ _ _ _ rs _ q=>by
  obtain ⟨x,ex,e⟩:=bind_some e;obtain ⟨y,ey,e⟩:=bind_some e;split at e
  ·rename_i xs u;obtain ⟨us,eu,e⟩:=bind_some e;split at e
   ·rename_i hf;obtain ⟨j,hj,rfl⟩:=yL.mp e;refine sa.h ex rs λv Hs1 H1 x1 r1=>?_;obtain ⟨p,vs,rfl,e1,r2⟩:=o9 x1.s3 r1;rw [jz eu] at r2;cases r2.ats;refine ⟨.inl ⟨rfl,_,SqL.of e1⟩,sb.h ey (rs.go x1) λw Hs2 H2 x2 r3=>?_⟩;cases rep_at.mp r3;obtain ⟨j1,j2⟩:=Ui hj;exact ⟨p,us,_,j,rfl,rfl,SqL.of (x2.s2 _ _ e1),hf.1,hf.2.1,hf.2.2,j1,j2,q _ _ _ (x1.trans x2) (rep_at.mpr rfl)⟩
   ·cases e
  ·cases e
def fndR (g:MG)(f:MS)(xs:List PV)(ε:ME)(I:ME->Prop):Option PV->Prop
 |some y=>p9 g f xs ε=some (.rt y)
 |none=>∃ ε',p9 g f xs ε=some (.nx ε')/\I ε'
def stpR (f:MS)(ε:ME)(I:ME->Prop):Option PV->Prop
 |some y=>f ε=some (.rt y)
 |none=>∃ ε',f ε=some (.nx ε')/\I ε'
theorem ZN {g:MG}{f:MS}{α:Type}(F:α->PV)(I:ME->Prop)(r:α->Option PV):∀(l:List α)(_:∀ a∈l,∀ ε,I ε->∃ ε1,g (F a) ε=some ε1/\stpR f ε1 I (r a))(ε:ME),I ε->fndR g f (l.map F) ε I (l.findSome? r)
 |[],_,ε,i=>⟨ε,rfl,i⟩
 |a::l,h,ε,i=>by
  obtain ⟨ε1,e1,s⟩:=h a yQ ε i;have ih:=ZN F I r l λb hb=>h b (yN _ hb);rw [List.findSome?_cons];have st:∀ o,f ε1=some o->p9 g f ((a::l).map F) ε=match o with
   | .nx ε2=>p9 g f (l.map F) ε2
   | .ct ε2=>p9 g f (l.map F) ε2
   | .bk ε2=>some (.nx ε2)
   | .rt y=>some (.rt y):=λo eo=>by
   show Option.bind (g (F a) ε) (λε1=>Option.bind (f ε1) λo=>match o with
    | .nx ε2=>p9 g f (l.map F) ε2
    | .ct ε2=>p9 g f (l.map F) ε2
    | .bk ε2=>some (.nx ε2)
    | .rt y=>some (.rt y))=_
   rw [e1,yB,eo];rfl
  cases hr:r a with
  |some y=>rw [hr] at s;exact st _ s
  |none=>rw [hr] at s;obtain ⟨ε2,e2,i2⟩:=s;have:=st _ e2;have q:=ih ε2 i2;unfold fndR at q ⊢;rw [this];exact q
theorem Pm {it:MA}{g:MG}{f:MS}{xs:List PV}{ε:ME}{I:ME->Prop}{o:Option PV}(h:it ε=some xs)(k:fndR g f xs ε I o):stpR (qS it g f) ε I o:=by
 cases o with
 |some y=>exact xu h k
 |none=>obtain ⟨ε',e,i⟩:=k;exact ⟨ε',xu h e,i⟩
end Mi
namespace L2
open PySem PySem.Spec PySem.Calls PyProof.Rows
variable{x:Str}{e:Expr}{te:TE}{p pos:Pos}{es:List Expr}{t:TA}{h0:Heap}
section
variable {X:Cx}{K:Fg}
theorem y4 {N P:List Str}{sc:Scope}(h1:sc.kind = .function:=by rfl)(h2:sc.isCoroutine=false:=by rfl)(h3:sc.isGenerator=false:=by rfl)(h4:N.Nodup:=by decide +kernel)(h5:N.take P.length=P:=by rfl)(h6:∀ x∈P,sc.names.lookup x=some .local∨sc.names.lookup x=some .cell:=by decide +kernel)(h7:∀ y∈sc.names,y.2 ≠ .free:=by decide +kernel):v8 N P sc:=⟨h1,h2,h3,h4,h5,h6,h7⟩
theorem sW (i:Nat){pos':Pos}(hN:X.N.Nodup)(he:PE X e te)(hi:X.N[i]?=some x:=by rfl)(hx:Loc X.env.scope x:=by first|exact Or.inl rfl|exact Or.inr rfl)(hs:swapsWith e (some (.Name x pos')) pos.line X.env=pure false:=by rfl)(hf:X.fn x=true∨X.env.scope.names.lookup x=some .local:=by first|exact .inl rfl|exact .inr rfl):PS X (.Assign [.Name x pos'] e pos) (zT te (qu i)):=qc hN hi hx he hs hf
theorem aW (ha:PE X e te)(hs:starEach [e] X.env=(false,eval e X.env)::starEach [] X.env:=by rfl):PA X [e] (i7 te o5):=j4 ha u5 hs
theorem aC (ha:PE X e te)(hr:PA X es t)(hs:starEach (e::es) X.env=(false,eval e X.env)::starEach es X.env:=by rfl):PA X (e::es) (i7 te t):=j4 ha hr hs
theorem iW {a b:Expr}{ta tb:TE}(hK:X.K=K)(ha:PE X a ta)(hb:PE X b tb)(hs:VY b:=by exact λ_ _=>rfl):PE X (.Subscript a b pos) (tOp (rIx K) ta tb):=Xu (Cv hK) ha hb hs
end
section
variable {X:Cx}{K:Fg}
theorem fW {ps:List Str}{sp:Sp}{k j:Nat}(c:Fn X.prog X.w X.K X.mg X.base k x ps sp)(hr:Room j X.A)(ha:PA X (e::es) t)(hj:k<=j:=by decide)(hg:Gl X x:=by rfl)(hdb:(x==("__debug__":Str))=false:=by decide)(he:starEach (e::es) X.env=(false,eval e X.env)::starEach es X.env:=by rfl)(hpl:(backTo pos (starEach es X.env)).any (·.1)=false:=by rfl):PE X (.Call (.Name x p) (e::es) [] pos) (zC sp [] E0 t):=qb c hr hj hg ha hdb he hpl
theorem gW (i:Nat)(hN:X.N.Nodup)(hi:X.N[i]?=some x:=by rfl)(hx:Loc X.env.scope x:=by first|exact Or.inl rfl|exact Or.inr rfl)(hf:X.fn x=true∨X.env.scope.names.lookup x=some .local:=by first|exact .inl rfl|exact .inr rfl):PG X (.Name x pos) (qu i):=k6 hN hi hx hf
end
section
variable {P:Program}{w:World}{A:Around}{R:Result->Shared->Prop}{I S:Addr}{fp wr:List Addr}{n:Nat}{Pp:Nat->Value->Prop}{St:Nat->Heap->Prop}
theorem BI (W:Walks P w A.in1 I fp wr n Pp St)(its:Nat->List Value)(hSf:S∉fp)(lo:h0.objs.size<=S)(hw:∀ b∈wr,h0.get? b=none)(lv:∀ i h,St i h->∀ b∈wr,b<h.objs.size)(hv:∀ i v,Pp i v->∃ b c,v = .ref b/\IsL h0 b (its i).toArray c):∀ (m i:Nat) (s:Shared) (t c ct:Nat) (acc:List Value),n-i=m->i<=n->St i s.heap->(∀ b o,h0.get? b=some o->s.heap.get? b=some o) -> s.heap.get? S=some { cls:= .type "list",dict:=none,data:= .seq #[.ref t] c,slots:=#[] }->IsL s.heap t acc.toArray ct->t∉wr->t≠S->h0.objs.size<=t -> acc.length+((List.range' i (n-i)).flatMap its).length<=sizeLine -> (∀ h' tk t' c',(∀ b o,h0.get? b=some o->h'.get? b=some o)->IsL h' t' (acc++(List.range' i (n-i)).flatMap its).toArray c'->h0.objs.size<=t'->R (.ok (.ret (.ref t'))) { s with heap:=h',toks:=tk }) -> codeAny (model P w) A (.builtin "sum.loop" ⟨[.ref I,.ref S,rawInt 2,rawInt 0],[]⟩) R s:=by
 have hSw:S∉wr:=λz=>hSf (W.sub _ z);have new:∀ b o,h0.get? b=some o->b≠S:=λb o e z=>uV _ (yH (z▸yT e) lo);intro m
 induction m with
 |zero =>
  intro i s t c ct acc hm hi st k0 hS ht tw tS lt sz hR;have hin:i=n:=by omega
  subst hin;refine codeAny_builtin PySem.F.entry_sum_loop ?_;rw [Around.under_plainId PySem.F.plain_sum_loop _];show wpAny _ A.in1 (seqItems? (.ref S) >>= _) _ _ s;refine yV (wpAny_seqItems hS rfl ?_);show wpAny _ A.in1 (tryCatch (pyNext (.ref I)) _ >>= _) _ _ s;refine yV (wpAny_tryCatch (W.done s _ _ st λh' tk kk=>?_));refine yG (hR h' tk t ct (λb o e=>kk b o (λz=>by rw [hw b z] at e;cases e) (k0 b o e)) ?_ lt);rw [Nat.sub_self];simp only [List.range'_zero,List.flatMap_nil,yk];exact kk t _ tw ht
 |succ m ih =>
  intro i s t c ct acc hm hi st k0 hS ht tw tS lt sz hR;have hlt:i<n:=by omega
  have er:List.range' i (n-i)=i::List.range' (i+1) (n-(i+1)):=by rw [show n-i=(n-(i+1))+1 by omega];rfl
  rw [er,ux] at sz hR;rw [yJ] at sz;refine codeAny_builtin PySem.F.entry_sum_loop ?_;rw [Around.under_plainId PySem.F.plain_sum_loop _];show wpAny _ A.in1 (seqItems? (.ref S) >>= _) _ _ s;refine yV (wpAny_seqItems hS rfl ?_);show wpAny _ A.in1 (tryCatch (pyNext (.ref I)) _ >>= _) _ _ s;refine yV (wpAny_tryCatch (W.item i s _ _ hlt st λv h' tk hP st' kk=>?_));obtain ⟨b,cb,rfl,hb⟩:=hv i v hP;have hS':=kk S _ hSw hS;have ht':=kk t _ tw ht;have k1:∀ b o,h0.get? b=some o->h'.get? b=some o:=λb o e=>kk b o (λz=>by rw [hw b z] at e;cases e) (k0 b o e);show wpAny _ A.in1 ((holding [Value.ref b] (binaryOp .Add (.ref t) (.ref b))).attempt >>= _) _ _ _;refine yV (wpAny_attempt (wpAny_holding (PySem.P.add_list ht' (k1 _ _ hb) ?_ (by rw [yY,yY];omega))));have hS1:=yX { cls:= .type "list",data:= .seq (acc.toArray++(its i).toArray) } hS';show wpAny _ A.in1 (updateSeq S (λ_=>#[Value.ref h'.objs.size]) >>= _) _ _ _;refine yV (wpAny_updateSeq hS1 rfl ?_);have hS2:=Heap.get?_update_self (Obj.mapSeq λ_=>#[Value.ref h'.objs.size]) hS1 rfl;refine yV (wpAny_letGo ?_);have ne:h'.objs.size≠S:=uu (yT hS');have hlo:h0.objs.size<=h'.objs.size:=uS (Nat.lt_of_le_of_lt lo (yT hS'));have oth:∀ b o,b≠S->h'.get? b=some o->(((h'.push { cls:= .type "list",data:= .seq (acc.toArray++(its i).toArray) }).update S (Obj.mapSeq λ_=>#[Value.ref h'.objs.size])).update S (Obj.mapSeq λ_=>#[Value.ref h'.objs.size])).get? b=some o:=λb o nb e=>by
   rw [uJ _ _ (Ne.symm nb),uJ _ _ (Ne.symm nb)];exact yX _ e
  refine yV (wpAny_updateSeq hS2 rfl (yG ⟨plainId_quiet PySem.F.plain_sum_loop _,ih (i+1) _ h'.objs.size _ 0 (acc++its i) (by omega) hlt (W.frame _ _ _ st' λb z o e=>oth b o (λq=>hSf (q▸z)) e) (λb o e=>oth b o (new b o e) (k1 b o e)) (Heap.get?_update_self _ hS2 rfl) ?_ (λz=>uV _ (lv _ _ st' _ z)) ne hlo (by rw [yJ];omega) λh2 tk2 t2 c2 k2 l2 lo2=>?_⟩))
  ·show (((h'.push { cls:= .type "list",data:= .seq (acc.toArray++(its i).toArray) }).update S _).update S _).get? h'.objs.size=_;rw [uJ _ _ (Ne.symm ne),uJ _ _ (Ne.symm ne),yI _ rfl,List.append_toArray]
  ·rw [uT] at l2;exact hR h2 tk2 t2 c2 k2 l2 lo2
end
section
variable {P:Program}{w:World}{A:Around}{E:Value->Shared->Prop}{s:Shared}{l z:Addr}{bs:List Addr}
theorem Bb (v u:Value):argsOk "sum" ⟨[v],[(Str.ofString "start",u)]⟩:=by unfold argsOk;kernel_rfl
theorem Bq (u:Value):Builtin.Builtins.bindParams "sum" ["start"] 0 ⟨[],[(Str.ofString "start",u)]⟩=pure [some u]:=by kernel_rfl
theorem Pk:∀(its:List (List Value)),(List.range' 0 its.length).flatMap (λi=>its.getD i [])=its.flatten:=λits=>by
 have go:∀(m i:Nat),its.length-i=m->i<=its.length->(List.range' i m).flatMap (λi=>its.getD i [])=(its.drop i).flatten:=by
  intro m
  induction m with
  |zero=>intro i h hi;rw [List.drop_of_length_le (by omega)];rfl
  |succ m ih =>
   intro i h hi;have hl:i<its.length:=by omega
   rw [List.range'_succ,ux,ih (i+1) (by omega) hl,ya hl,yj,yb,yW hl];rfl
 exact go its.length 0 rfl (yo _)
theorem Hf:isSubtype (.type "list") (.type "bytearray")=pure false:=by rw [isSubtype_type];kernel_rfl
theorem Hg {Q:Value->Shared->Prop}{its:List (List Value)}{cz:Nat}(hh:A.handled=none)(k0:∀ b o,h0.get? b=some o->s.heap.get? b=some o)(hl:s.heap.IsList l (bs.map Value.ref).toArray)(hz:IsL s.heap z #[] cz)(lz:h0.objs.size<=z)(hb:∀ (i:Nat) (b:Addr),bs[i]?=some b->∃ c,IsL h0 b (its.getD i []).toArray c)(el:its.length=bs.length)(sz:its.flatten.length<=sizeLine)(h:∀ h' tk t' c',(∀ b o,h0.get? b=some o->h'.get? b=some o)->IsL h' t' its.flatten.toArray c'->h0.objs.size<=t'->Q (.ref t') { s with heap:=h',toks:=tk }):wpAny (model P w) A (call (.builtin "sum") [.ref l] [(Str.ofString "start",Value.ref z)]) Q E s:=by
 have hTz:s.TypeIs (.ref z) "list":=⟨_,hz,rfl⟩;refine kmb_tree PySem.F.kind_sum PySem.F.plain_sum PySem.F.entry_sum (Bb _ _) ?_;show wpAny _ A.in1 (Builtin.Builtins.bindParams "sum" ["start"] 0 ⟨[],[(Str.ofString "start",Value.ref z)]⟩ >>= _) _ _ s;refine yV (wpAny_of_eq (Bq _) ?_);have hlt:l<s.heap.objs.size:=by obtain ⟨_,e,_⟩:=hl;exact yT e
 refine yV (wpAny_pyIter_list hl ?_);refine yV (yG ?_);have hz1:=yX { cls:= .type "list_iterator",data:= .fields #[.ref l,.int 0 0] } hz;have hT1:Shared.TypeIs { s with heap:=s.heap.push { cls:= .type "list_iterator",data:= .fields #[.ref l,.int 0 0] } } (.ref z) "list":=⟨_,hz1,rfl⟩;simp only [List.forIn_cons,List.forIn_nil];refine yV (yV (yV (wpAny_isInstance (b:=false) hT1 PySem.F.sub_list_str ?_)));simp only [uF,if_false];refine yG (yV (yV (wpAny_isInstance (b:=false) hT1 PySem.F.sub_list_bytes ?_)));simp only [uF,if_false];refine yG (yV (yV (wpAny_isInstance (b:=false) hT1 Hf ?_)));simp only [uF,if_false];refine yG (yG (yV (wpAny_newObj_type ?_)));have hI:l≠s.heap.objs.size:=yK hlt;have hlo:h0.objs.size<=s.heap.objs.size:=yp lz (uS (yT hz));have zz:z<s.heap.objs.size:=yT hz;have sp:(s.heap.push { cls:= .type "list_iterator",data:= .fields #[.ref l,.int 0 0] }).objs.size=s.heap.objs.size+1:=uG _ _;have en:(bs.map Value.ref).toArray.size=its.length:=by rw [yY,yZ,el]
 have ef:(List.range' 0 ((bs.map Value.ref).toArray.size-0)).flatMap (λi=>its.getD i [])=its.flatten:=by rw [en];exact Pk its
 refine yG ⟨plainId_quiet PySem.F.plain_sum_loop _,BI (h0:=h0) (S:=(s.heap.push { cls:= .type "list_iterator",data:= .fields #[.ref l,.int 0 0] }).objs.size) (Walks.list (A:=A.in1) hh s.heap.objs.size l hI (bs.map Value.ref).toArray) (λi=>its.getD i []) (λq=>?_) (by rw [sp];exact Nat.le_succ_of_le hlo) (λb hb=>?_) (λi h st b hb=>?_) (λi v hv=>?_) _ 0 _ z _ cz [] rfl (yo _) ⟨⟨_,yX _ (yI _ rfl),rfl,rfl⟩,(hl.push _).push _⟩ (λb o e=>yX _ (yX _ (k0 b o e))) (yI _ rfl) (yX _ hz1) (λq=>?_) (λq=>?_) lz (by rw [ef];simpa using sz) λh' tk t' c' k l' lo'=>?_⟩
 ·rcases yP.mp q with q|q
  ·rw [sp] at q;exact absurd q (Nat.succ_ne_self _)
  ·have q:=yR.mp q;rw [sp] at q;exact uV _ (Nat.lt_trans (uB _) (q▸hlt))
 ·rw [yR.mp hb];exact uw hlo
 ·rw [yR.mp hb];obtain ⟨⟨o,e,_⟩,_⟩:=st;exact yT e
 ·rw [List.getElem?_toArray,yM] at hv;obtain ⟨b,e1,rfl⟩:=yL.mp hv;obtain ⟨c,e2⟩:=hb i b e1;exact ⟨b,c,rfl,e2⟩
 ·exact uV _ (yR.mp q▸zz)
 ·rw [sp] at q;exact uV _ (Nat.lt_trans (uB _) (q▸zz))
 ·rw [ef,List.nil_append] at l';exact h h' tk t' c' k l' lo'
end
section
variable {X:Cx}
theorem GL:∀{bs:List Addr}{us:List Value},Vals (bs.map V.ref) us->us=bs.map Value.ref
 |[],us,r=>by cases r;rfl
 |b::bs,us,r=>by
  cases r with
  |cons r1 r2=>rw [GL r2,show _=Value.ref b from r1];rfl
theorem UD {pins:List (Addr×Obj)}{σ:St}{H:Hp}{s:Shared}(I:Inv X pins σ H s):∀{bs:List Addr}{xss:List (List V)},xss.length=bs.length->(∀(i:Nat)(b:Addr),bs[i]?=some b->H b=some (.lst (xss.getD i []))) -> ∃ iss:List (List Value),iss.length=bs.length/\Vals xss.flatten iss.flatten/\∀(i:Nat)(b:Addr),bs[i]?=some b->∃ c,IsL s.heap b (iss.getD i []).toArray c
 |[],[],_,_=>⟨[],rfl,.nil,λi b z=>by simp at z⟩
 |b::bs,xs::xss,hl,h=>by
  obtain ⟨iss,e1,e2,e3⟩:=UD I (bs:=bs) (xss:=xss) (by simpa using hl) λi b e=>h (i+1) b e;obtain ⟨z,its,n,r,hz,e⟩:=I.lstM (h 0 b rfl);refine ⟨its::iss,by simp [e1],r.append e2,λi b' q=>?_⟩;cases i with
  |zero=>cases q;exact ⟨n,e⟩
  |succ i=>exact e3 i b' q
def Ko (K:Fg)(t:TA):TE:=λσ H Q=>t σ H λvs H1=>∃(a:Addr)(bs:List Addr)(xss:List (List V)),vs=[.ref a]/\SqL K H1 a (bs.map V.ref)/\(∀(i:Nat)(b:Addr),bs[i]?=some b->H1 b=some (.lst (xss.getD i [])))/\xss.length=bs.length/\xss.flatten.length<=sizeLine/\∀ p,H1 p=none->Q (.ref p) (z5 H1 p (.lst xss.flatten))
theorem MW {K:Fg}{kp lp:Pos}(hK:X.K=K)(hc:X.calm=true)(hg:Gl X "sum")(hm:X.mg "sum"=none)(ha:PA X [e] t)(hs:backTo pos (starEach [e] X.env)=(false,eval e X.env)::backTo pos (starEach [] X.env):=by rfl)(hpl:(backTo pos (starEach [e] X.env)).any (·.1)=false:=by rfl):PE X (.Call (.Name "sum" p) [e] [⟨some "start",.List [] lp,kp⟩] pos) (Ko K t):=by subst hK;intro pins s σ H Q I h;refine wpAny_Call_Name_kw (zM I hg hm Yr ?_ (by decide) (by decide));refine PyProof.Rows.callWith_kw (z8 (ha pos pins s σ H _ I h) λus s1 ⟨vs,H1,I1,r1,q1⟩=>?_) hs hpl;refine PyProof.Rows.kws_cons (wpAny_List_spliced ?_);obtain ⟨a,bs,xss,rfl,hq,hb,el,sz,q⟩:=q1;obtain ⟨u,rfl,ru⟩:=xJ r1;obtain rfl:u=Value.ref a:=ru;obtain ⟨its,rv,pl,hz⟩:=I1.list hq;have ei:its=bs.map Value.ref:=GL rv;subst ei;obtain ⟨iss,e1,e2,e3⟩:=UD I1 el hb;have hl:s1.heap.IsList a (bs.map Value.ref).toArray:=pl.isList;refine Calls.spliced_nil ⟨yo _,PyProof.Rows.kws_nil ?_⟩;show wpAny _ _ (call (.builtin "sum") [.ref a] [(Str.ofString "start",Value.ref s1.heap.objs.size)]) _ _ _;refine Hg (its:=iss) (bs:=bs) (h0:=s1.heap) (cz:=0) (I1.ok.hd hc) (λb o e=>yX _ e) (hl.push _) (yI _ rfl) (yU _) e3 e1 (by rw [<- e2.length];exact sz) λh' tk t' c' k l' lo'=>?_;exact ⟨.ref t',_,I1.laid (o:= .lst xss.flatten) (t':=tk) k lo' ⟨sz,_,c',e2,l'⟩,rfl,q t' (I1.hok.fresh lo')⟩
end
end L2
namespace Mi
open PySem L2
variable{a:M}
def jd:List PV->Option (List (List PV))
 |[]=>some []
 | .lst ys::xs=>(jd xs).map (ys::·)
 |_::_=>none
theorem UJ {Hs:Hp}:∀{xs:List PV}{yss:List (List PV)}{ws:List V},jd xs=some yss->Reps Hs xs ws->∃(bs:List Addr)(xss:List (List V)),ws=bs.map V.ref/\xss.length=bs.length/\(∀(i:Nat)(b:Addr),bs[i]?=some b->Hs b=some (.lst (xss.getD i [])))/\Reps Hs yss.flatten xss.flatten
 |[],yss,ws,h,r=>by
  cases h;cases reps_nil.mp r;exact ⟨[],[],rfl,rfl,λi b z=>by simp at z,.nil⟩
 |x::xs,yss,ws,h,r=>by
  unfold jd at h;split at h
  ·rename_i e;cases e
  ·rename_i ys xs' e;injection e with e1 e2;subst e1 e2;obtain ⟨zss,hz,rfl⟩:=yL.mp h;obtain ⟨w,ws',rfl,p,q⟩:=reps_cons.mp r;obtain ⟨b,us,rfl,hb,ru⟩:=rep_lst.mp p;obtain ⟨bs,xss,rfl,e1,e2,e3⟩:=UJ hz q;refine ⟨b::bs,us::xss,rfl,by simp [e1],λi b' z=>?_,ru.append e3⟩;cases i with
   |zero=>cases z;exact hb
   |succ i=>exact e2 i b' z
  ·cases h
def QJ (a:M):M:=λε=>(a ε).bind λx=>match x with
 | .lst xs=>(jd xs).bind λyss=>if yss.flatten.length<=lim then some (.lst yss.flatten) else none
 |_=>none
instance {K:Fg}{te:TE}[sa:c9 te a]:qU (Ko K (i7 te o5)) (QJ a) where
 h:=λe _ _ _ _ _ rs _ q=>by
  obtain ⟨x,ex,e1⟩:=bind_some e;split at e1
  ·obtain ⟨yss,ey,e2⟩:=bind_some e1;split at e2
   ·rename_i hl;cases e2;refine sa.h ex rs λv Hs1 H1 x1 r1=>?_;obtain ⟨p,ws,rfl,ep,r2⟩:=o9 x1.s3 r1;obtain ⟨bs,xss,rfl,a1,a2,a3⟩:=UJ ey r2;exact ⟨p,bs,xss,rfl,SqL.of ep,λi b z=>x1.s3 _ _ (a2 i b z),a1,qF (by rw [a3.length];exact hl),λp' hp=>q _ _ _ (x1.trans (.newO x1.s3 hp)) (x1.s2.free hp) (x1.s3.free hp) ⟨_,v6,a3⟩⟩
   ·cases e2
  ·cases e1
theorem Ph {ε:ME}{xs:List PV}{yss:List (List PV)}(h:a ε=some (.lst xs))(k:jd xs=some yss)(l:yss.flatten.length<=lim):QJ a ε=some (.lst yss.flatten):=by unfold QJ;rw [h];show (jd xs).bind _=_;rw [k];exact if_pos l
end Mi
namespace Mi
open PySem PySem.Spec PyProof.Rows L2
structure Deep (H0 Hs H:Hp)(a:Addr)(ps:List (Addr×PV)):Prop where
 top:H a=some (.lst (ps.map λp=>V.ref p.1))
 each:∀ p∈ps,Top Hs H p.1 p.2
 nd:(a::ps.map (·.1)).Nodup
 new:∀ b∈a::ps.map (·.1),H0 b=none/\Hs b=none
end Mi
namespace Mi
open PySem L2
variable{a b c:M}{td:TE}
section
variable {S:List Addr}{Hs0 H0 Hs H HR:Hp}{σ:St}{ε:ME}
theorem Deep.clean {Hl H Hs1 H1:Hp}{a:Addr}{ps:List (Addr×PV)}{ls:List (List V)}(s3:Same Hs H)(x:Ext Hl H Hs1 H1)(d:Deep H Hs1 H1 a ps)(e:ls.map (λl=>PV.lst (l.map .at))=ps.map (·.2)):∃ Hs',Ext Hs H Hs' H1/\Rep Hs' (.lst (ls.map λl=> .lst (l.map .at))) (.ref a):=by
 open Classical in
 let Hs':Hp:=λb=>if b∈a::ps.map (·.1) then H1 b else Hs b
 have hin:∀ b,b∈a::ps.map (·.1)->Hs' b=H1 b:=λb hb=>if_pos hb;have hout:∀ b,b∉a::ps.map (·.1)->Hs' b=Hs b:=λb hb=>if_neg hb
 clear_value Hs'
 have nin:∀ b,H b≠none->b∉a::ps.map (·.1):=λb hb z=>hb (d.new b z).1;refine ⟨Hs',⟨λb o q=>?_,x.s2,λb o q=>?_,λb h z=>?_⟩,rep_lst.mpr ⟨a,ps.map λp=>V.ref p.1,rfl,?_,?_⟩⟩
 ·rw [hout b (nin b (XM s3 (by rw [q];exact λz=>nomatch z)))];exact q
 ·by_cases hb:b∈a::ps.map (·.1)
  ·rw [hin b hb] at q;exact q
  ·rw [hout b hb] at q;exact x.s2 _ _ (s3 _ _ q)
 ·rw [hout b (nin b h)];exact z
 ·rw [hin a yQ];exact d.top
 ·rw [e];have main:∀(qs:List (Addr×PV)),(∀ p∈qs,p∈ps)->Reps Hs' (qs.map (·.2)) (qs.map λp=>V.ref p.1):=by
   intro qs
   induction qs with
   |nil=>intro _;exact .nil
   |cons p qs ih =>
    intro h;have hp:=h p yQ;refine .cons ?_ (ih λq hq=>h q (yN _ hq));have m:p.2∈ls.map (λl=>PV.lst (l.map .at)):=by rw [e];exact uY hp
    obtain ⟨l,_,el⟩:=yE.mp m;have t:=d.each p hp;show Rep Hs' p.2 (V.ref p.1);rw [<- el] at t ⊢;obtain ⟨vs,hv,rv⟩:=t;rw [rv.ats] at hv;exact rep_lst.mpr ⟨p.1,l,rfl,by rw [hin _ (yN _ (uY hp))];exact hv,.ofAts l⟩
  exact main ps λ_ h=>h
end
def QG (a b c:M):M:=λε=>(a ε).bind λx=>(b ε).bind λy=>(c ε).bind λz=>(xh y).bind λk=>match x with
 | .dk ks xs=>some ((i5 k ks xs).getD z)
 | .fk ks xs=>some ((i5 k ks xs).getD z)
 |_=>none
instance {ty tz:TE}[sa:SemE td a][sb:c9 ty b][sc:SemE tz c]:SemE (VC td ty tz) (QG a b c) where
 h:=λe _ _ _ _ _ rs _ q=>by
  obtain ⟨x,ex,e1⟩:=bind_some e;obtain ⟨y,ey,e2⟩:=bind_some e1;obtain ⟨z,ez,e3⟩:=bind_some e2;obtain ⟨k,ek,e4⟩:=bind_some e3;split at e4
  ·rename_i ks xs;cases e4;refine sa.h ex rs λv Hs1 H1 x1 r1=>?_;obtain ⟨p,kvs,rfl,hp,hk,hr⟩:=rep_dk.mp r1;refine ⟨p,rfl,.inl ⟨kvs,.inl (x1.s3 _ _ hp)⟩,sb.h ey (rs.go x1) λw Hs2 H2 x2 r2=>sc.h ez ((rs.go x1).go x2) λu Hs3 H3 x3 r3=>?_⟩;have ew:=xz r2 ek;subst ew;have hp3:=x3.s3 _ _ (x3.s1 _ _ (x2.s1 _ _ hp));refine ⟨_,DGet.k hp3,?_⟩;have l:=vM (k:=k) hr;rw [hk] at l;cases hl:i5 k ks xs with
   |none=>rw [hl] at l;rw [show L2.h8 kvs k=none from l];rw [hl] at q;exact q _ _ _ (x1.trans (x2.trans x3)) r3
   |some o=>rw [hl] at l;obtain ⟨t,ht,rt⟩:=l;rw [ht];rw [hl] at q;exact q _ _ _ (x1.trans (x2.trans x3)) ((rt.mono x2.s1).mono x3.s1)
  ·rename_i ks xs;cases e4;refine sa.h ex rs λv Hs1 H1 x1 r1=>?_;obtain ⟨p,o,kvs,rfl,hp,hk,hr⟩:=rep_fk.mp r1;refine ⟨p,rfl,.inl ⟨kvs,.inr ⟨o,x1.s3 _ _ hp⟩⟩,sb.h ey (rs.go x1) λw Hs2 H2 x2 r2=>sc.h ez ((rs.go x1).go x2) λu Hs3 H3 x3 r3=>?_⟩;have ew:=xz r2 ek;subst ew;have hp3:=x3.s3 _ _ (x3.s1 _ _ (x2.s1 _ _ hp));refine ⟨_,.inl ⟨kvs,k,.inr ⟨o,hp3⟩,rfl,rfl⟩,?_⟩;have l:=vM (k:=k) hr;rw [hk] at l;cases hl:i5 k ks xs with
   |none=>rw [hl] at l;rw [show L2.h8 kvs k=none from l];rw [hl] at q;exact q _ _ _ (x1.trans (x2.trans x3)) r3
   |some o=>rw [hl] at l;obtain ⟨t,ht,rt⟩:=l;rw [ht];rw [hl] at q;exact q _ _ _ (x1.trans (x2.trans x3)) ((rt.mono x2.s1).mono x3.s1)
  ·cases e4
def YH (a b c d:M):M:=λε=>(a ε).bind λx=>(b ε).bind λy=>(c ε).bind λz=>(d ε).bind λw=>(xh x).bind λk=>(xh z).bind λl=>match y,w with
 | .at u,.at v=>some (.dk ((qK [] [(k,u),(l,v)]).map (·.1)) ((qK [] [(k,u),(l,v)]).map λp=> .at p.2))
 |_,_=>none
instance {ta tb tc:TE}{d:M}[sa:SemE ta a][sb:SemE tb b][sc:SemE tc c][sd:SemE td d]:qU (Ki [(ta,tb),(tc,td)]) (YH a b c d) where
 h:=λe Hs0 H0 Hs H σ rs Q q=>by
  obtain ⟨x,ex,e1⟩:=bind_some e;obtain ⟨y,ey,e2⟩:=bind_some e1;obtain ⟨z,ez,e3⟩:=bind_some e2;obtain ⟨w,ew,e4⟩:=bind_some e3;obtain ⟨k,ek,e5⟩:=bind_some e4;obtain ⟨l,el,e6⟩:=bind_some e5;split at e6
  ·rename_i u v;cases e6;intro p hp;have x0:Ext Hs H Hs (z5 H p (.dK [])):= .newO rs.sub hp;have r0:=rs.go x0;refine sa.h ex r0 λv1 Hs1 H1 x1 r1=>sb.h ey (r0.go x1) λv2 Hs2 H2 x2 r2=>sc.h ez ((r0.go x1).go x2) λv3 Hs3 H3 x3 r3=>sd.h ew (((r0.go x1).go x2).go x3) λv4 Hs4 H4 x4 r4=>?_;have xA:=x1.trans (x2.trans (x3.trans x4));have hp4:H4 p=some (.dK []):=xA.s2 _ _ v6;have n4:Hs4 p=none:=xA.s4 p (by rw [v6];exact λz=>nomatch z) (rs.sub.free hp);have h1:v1=kV k:=xz (.inl r1:RepB Hs1 H1 x v1) ek;have h3:v3=kV l:=xz (.inl r3:RepB Hs3 H3 z v3) el;have h2:v2=u:=rep_at.mp r2;have h4:v4=v:=rep_at.mp r4;subst h1 h2 h3 h4;have x5:Ext Hs H Hs4 (z5 H4 p (.dK (qK [] [(k,v2),(l,v4)]))):=by
    refine ⟨xA.s1,λb o z=>?_,λb o z=>?_,λb h z=>?_⟩
    ·rw [z0 (w4 z hp)];exact xA.s2 _ _ (x0.s2 _ _ z)
    ·rw [z0 (w4 z n4)];exact xA.s3 _ _ z
    ·exact xA.s4 b (XM x0.s2 h) z
   refine ⟨hp4,[(k,_),(l,_)],rfl,by show 2<=15;decide,q p Hs4 _ x5 hp n4 ⟨_,v6,rfl,?_⟩⟩
   ·have:=Reps.ofAts (H:=Hs4) ((qK [] [(k,v2),(l,v4)]).map (·.2));rw [yF] at this;exact this
  ·cases e6
end Mi
namespace Lw
open PySem L2 Mi
variable{α β:Type}{h:Nat}{rss:List (List Int)}{a:M}{Aa P_l R b c_l p:Addr}{H H0 Hb Hs Hs0:Hp}{j n:Int}{r:List Int}{vs:List V}{Q:VK}{E:XK}{ε:ME}{A5 B4 D2 E1:Tok}{p_l:Array Value}{q qual s x:Str}{l:PySem.W.OpenLaw}{ks:List (Int×Str)}{xs:List PV}{y:PV}{σ:St}{u:TS}{D:xb}{v:V}{ps:List Str}{st:Stmt}{cd ct dc oc pm:Value}{an od:Option Addr}{sl:Array (Option Value)}
variable {P:Program}{w:World}{K:Fg}{mg:Str->Option Value}{base:Heap}{f:Addr}{fd:FuncData}
theorem l0:0<=lim:=by decide
theorem l1:1<=lim:=by decide
theorem l2:2<=lim:=by decide
theorem l3:3<=lim:=by decide
theorem l4:4<=lim:=by decide
theorem l5:5<=lim:=by decide
theorem l6:6<=lim:=by decide
theorem l7:7<=lim:=by decide
theorem l8:8<=lim:=by decide
theorem l9:9<=lim:=by decide
structure qT (h:Nat)(rss:List (List Int)):Prop where
 len:rss.length=h+1
 row:∀ r∈rss,r.length=h/\∀ v∈r,0<=v/\v<10 ^ 30
def rin (rss:List (List Int))(f g:Int):Int:=((atI rss f).bind λr=>atI r g).getD 0
def zd (rss:List (List Int)):Int->List Int->Int
 |_,[]=>0
 |f,h::r=>rin rss f h+zd rss h r
abbrev Wy:=Int×List Int
variable{T:List (List Wy)}{onw ws:List Wy}
def zp (a b:Wy):Wy:=if b.1<a.1 then b else a
def xU (a b:Wy):Wy:=(a.1+b.1,a.2++b.2)
def thr (ws:List Wy)(k:Nat)(onw:List Wy):List Wy:=List.zipWith (λw m=>zp w (xU (ws.getD k (0,[])) m)) ws onw
def qE (T:List (List Wy))(k:Nat):List (List Wy):=T.map λrow=>thr row k (T.getD k [])
def za (row:List Int):List Wy:=row.mapIdx λi v=>(v,[(i:Int)])
def n8 (rss:List (List Int)):Nat->List (List Wy)
 |0=>rss.map za
 |k+1=>qE (n8 rss k) k
def y0 (T:List (List Wy))(f g:Nat):Wy:=(T.getD f []).getD g (0,[])
def jR (rss:List (List Int))(h:Nat):List (List Int):=(n8 rss h).map λrow=>row.map (·.1)
structure Shp (h:Nat)(T:List (List Wy)):Prop where
 len:T.length=h+1
 row:∀ r∈T,r.length=h
theorem o7 {l:List α}{i:Nat}{d:α}(h:i<l.length):l.getD i d=l[i]:=by rw [yb,yW h];rfl
theorem Shp.rowAt (S:Shp h T){f:Nat}(hf:f<=h):(T.getD f []).length=h:=by
 have hl:f<T.length:=by have:=S.len;omega
 rw [o7 hl];exact S.row _ (yr hl)
theorem Kt {k:Nat}(h:ws.length=onw.length):(thr ws k onw).length=ws.length:=by unfold thr;rw [List.length_zipWith,h,Nat.min_self]
theorem Shp.step (S:Shp h T){k:Nat}(hk:k<h):Shp h (qE T k):=by refine ⟨by unfold qE;rw [yZ];exact S.len,λr hr=>?_⟩;unfold qE at hr;obtain ⟨row,hm,rfl⟩:=yE.mp hr;have e1:=S.row row hm;rw [Kt (by rw [e1,S.rowAt (by omega)]),e1]
theorem vE (S:Shp h T){k f g:Nat}(hk:k<h)(hf:f<=h)(hg:g<h):y0 (qE T k) f g=zp (y0 T f g) (xU (y0 T f k) (y0 T k g)):=by
 have hl:f<T.length:=by have:=S.len;omega
 have hl2:f<(qE T k).length:=by unfold qE;rw [yZ];exact hl
 have e1:(qE T k).getD f []=thr (T.getD f []) k (T.getD k []):=by unfold qE;rw [o7 (by rw [yZ];exact hl),List.getElem_map,o7 hl]
 have r1:=S.rowAt hf;have r2:=S.rowAt (f:=k) (by omega);unfold y0;rw [e1,o7 (by rw [Kt (by rw [r1,r2])];omega),o7 (l:=T.getD f []) (i:=g) (by omega),o7 (l:=T.getD k []) (i:=g) (by omega)];unfold thr;rw [List.getElem_zipWith]
theorem Shp.start (G:qT h rss):Shp h (n8 rss 0):=by refine ⟨by show (rss.map za).length=_;rw [yZ];exact G.len,λr hr=>?_⟩;obtain ⟨row,hm,rfl⟩:=yE.mp hr;unfold za;rw [List.length_mapIdx];exact (G.row row hm).1
theorem Shp.all {h:Nat}{rss:List (List Int)}(G:qT h rss):∀ k,k<=h->Shp h (n8 rss k)
 |0,_=>Shp.start G
 |k+1,hk=>(Shp.all G k (by omega)).step (by omega)
theorem Js (G:qT h rss){f g:Nat}(hf:f<=h)(hg:g<h):rin rss (f:Int) (g:Int)=(rss.getD f []).getD g 0:=by
 have hl:f<rss.length:=by have:=G.len;omega
 have e1:atI rss (f:Int)=some rss[f]:=xN (yW hl);have hg2:g<rss[f].length:=by rw [(G.row _ (yr hl)).1];exact hg
 have e2:atI rss[f] (g:Int)=some rss[f][g]:=xN (yW hg2);unfold rin;rw [e1];show (atI rss[f] (g:Int)).getD 0=_;rw [e2,o7 hl,o7 hg2];rfl
theorem QM (G:qT h rss){f g:Nat}(hf:f<=h)(hg:g<h):y0 (n8 rss 0) f g=(rin rss (f:Int) (g:Int),[(g:Int)]):=by
 have hl:f<rss.length:=by have:=G.len;omega
 have hl2:f<(rss.map za).length:=by rw [yZ];exact hl
 have hg2:g<rss[f].length:=by rw [(G.row _ (yr hl)).1];exact hg
 rw [Js G hf hg];unfold y0;show ((rss.map za).getD f []).getD g (0,[])=_;rw [o7 hl2,List.getElem_map,o7 (by unfold za;rw [List.length_mapIdx];exact hg2),o7 hl,o7 hg2];unfold za;rw [List.getElem_mapIdx]
theorem LQ (G:qT h rss){f g:Nat}(hf:f<=h)(hg:g<h):0<=rin rss (f:Int) (g:Int):=by
 have hl:f<rss.length:=by have:=G.len;omega
 have hg2:g<rss[f].length:=by rw [(G.row _ (yr hl)).1];exact hg
 rw [Js G hf hg,o7 hl,o7 hg2];exact ((G.row _ (yr hl)).2 _ (yr hg2)).1
theorem KM {rss:List (List Int)}:∀{xs ys:List Int}{f g:Int},xs.getLast?=some g->zd rss f (xs++ys)=zd rss f xs+zd rss g ys
 |[],_,_,_,e=>by simp at e
 |[x],ys,f,g,e=>by
  have e':x=g:=by simpa using e
  subst e';show rin rss f x+zd rss x ys=rin rss f x+0+zd rss x ys;omega
 |x::y::r,ys,f,g,e=>by
  have q:=KM (rss:=rss) (xs:=y::r) (ys:=ys) (f:=x) (g:=g) (by simpa [List.getLast?_cons_cons] using e);show rin rss f x+zd rss x (y::r++ys)=rin rss f x+zd rss x (y::r)+zd rss g ys;rw [q];omega
structure WayOk (rss:List (List Int))(h:Nat)(f g:Nat)(w:Wy):Prop where
 sum:w.1=zd rss (f:Int) w.2
 last:w.2.getLast?=some (g:Int)
 ok:∀ x∈w.2,0<=x/\x<(h:Int)
structure FW (rss:List (List Int))(h k:Nat)(T:List (List Wy)):Prop where
 way:∀ f g,f<=h->g<h->WayOk rss h f g (y0 T f g)
 pos:∀ f g,f<=h->g<h->0<=(y0 T f g).1
 le:∀ f g,f<=h->g<h->(y0 T f g).1<=rin rss (f:Int) (g:Int)
 tri:∀ j f g,j<k->f<=h->g<h->(y0 T f g).1<=(y0 T f j).1+(y0 T j g).1
 len:∀ f g,f<=h->g<h->(y0 T f g).2.length<=2 ^ k
theorem vL (a b:Wy):(zp a b=a/\a.1<=b.1)∨(zp a b=b/\b.1<a.1):=by
 unfold zp;by_cases h:b.1<a.1
 ·rw [if_pos h];exact .inr ⟨rfl,h⟩
 ·rw [if_neg h];exact .inl ⟨rfl,by omega⟩
theorem CQ (a b:Wy):(zp a b).1<=a.1/\(zp a b).1<=b.1:=by
 rcases vL a b with ⟨e,q⟩|⟨e,q⟩
 ·rw [e];exact ⟨Int.le_refl _,q⟩
 ·rw [e];exact ⟨Int.le_of_lt q,Int.le_refl _⟩
theorem WayOk.join {f k g:Nat}{a b:Wy}(x:WayOk rss h f k a)(y:WayOk rss h k g b):WayOk rss h f g (xU a b):=by
 refine ⟨?_,?_,λz hz=>?_⟩
 ·show a.1+b.1=zd rss f (a.2++b.2);rw [KM x.last,x.sum,y.sum]
 ·show (a.2++b.2).getLast?=_;rw [List.getLast?_append,y.last];rfl
 ·rcases yu.mp hz with q|q
  ·exact x.ok z q
  ·exact y.ok z q
theorem FW.start (G:qT h rss):FW rss h 0 (n8 rss 0):=by
 refine ⟨λf g hf hg=>?_,λf g hf hg=>?_,λf g hf hg=>?_,λj f g hj=>absurd hj (by omega),λf g hf hg=>?_⟩
 ·rw [QM G hf hg];refine ⟨?_,rfl,λx hx=>?_⟩
  ·show rin rss f g=rin rss f g+0;omega
  ·have e:x=(g:Int):=by simpa using hx
   rw [e];omega
 ·rw [QM G hf hg];exact LQ G hf hg
 ·rw [QM G hf hg];exact Int.le_refl _
 ·rw [QM G hf hg];exact yU 1
theorem FW.step {k:Nat}(S:Shp h T)(x:FW rss h k T)(hk:k<h):FW rss h (k+1) (qE T k):=by
 have kl:k<=h:=by omega
 have toK:∀ f,f<=h->(y0 (qE T k) f k).1=(y0 T f k).1:=λf hf=>by
  rw [vE S hk hf hk];rcases vL (y0 T f k) (xU (y0 T f k) (y0 T k k)) with ⟨e,q⟩|⟨e,q⟩
  ·rw [e]
  ·have p:=x.pos k k kl hk;have q':(y0 T f k).1+(y0 T k k).1<(y0 T f k).1:=q;omega
 have ofK:∀ g,g<h->(y0 (qE T k) k g).1=(y0 T k g).1:=λg hg=>by
  rw [vE S hk kl hg];rcases vL (y0 T k g) (xU (y0 T k k) (y0 T k g)) with ⟨e,q⟩|⟨e,q⟩
  ·rw [e]
  ·have p:=x.pos k k kl hk;have q':(y0 T k k).1+(y0 T k g).1<(y0 T k g).1:=q;omega
 have bound:∀ f g,f<=h->g<h->(y0 (qE T k) f g).1<=(y0 T f g).1/\(y0 (qE T k) f g).1<=(y0 T f k).1+(y0 T k g).1:=λf g hf hg=>by
  rw [vE S hk hf hg];exact CQ _ _
 have alt:∀ f g,f<=h->g<h->(y0 (qE T k) f g).1=(y0 T f g).1∨(y0 (qE T k) f g).1=(y0 T f k).1+(y0 T k g).1:=λf g hf hg=>by
  rw [vE S hk hf hg];rcases vL (y0 T f g) (xU (y0 T f k) (y0 T k g)) with ⟨e,q⟩|⟨e,q⟩
  ·rw [e];exact .inl rfl
  ·rw [e];exact .inr rfl
 refine ⟨λf g hf hg=>?_,λf g hf hg=>?_,λf g hf hg=>Int.le_trans (bound f g hf hg).1 (x.le f g hf hg),λj f g hj hf hg=>?_,λf g hf hg=>?_⟩
 ·rw [vE S hk hf hg];rcases vL (y0 T f g) (xU (y0 T f k) (y0 T k g)) with ⟨e,_⟩|⟨e,_⟩
  ·rw [e];exact x.way f g hf hg
  ·rw [e];exact (x.way f k hf hk).join (x.way k g kl hg)
 ·rcases alt f g hf hg with e|e
  ·rw [e];exact x.pos f g hf hg
  ·rw [e];have p1:=x.pos f k hf hk;have p2:=x.pos k g kl hg;omega
 ·by_cases hjk:j=k
  ·subst hjk;rw [toK f hf,ofK g hg];exact (bound f g hf hg).2
  ·have hj':j<k:=by omega
   have jl:j<=h:=by omega
   have jh:j<h:=by omega
   have b:=bound f g hf hg;have t1:=x.tri j f g hj' hf hg;have t2:=x.tri j f k hj' hf hk;have t3:=x.tri j k g hj' kl hg;have t4:=x.pos k j kl jh;have t5:=x.pos j k jl hk;rcases alt f j hf jh with e1|e1<;>rcases alt j g jl hg with e2|e2<;>rw [e1,e2]<;>omega
 ·rw [vE S hk hf hg];have e:2 ^ (k+1)=2 ^ k+2 ^ k:=by rw [Nat.pow_succ];omega
  rcases vL (y0 T f g) (xU (y0 T f k) (y0 T k g)) with ⟨q,_⟩|⟨q,_⟩
  ·rw [q];have:=x.len f g hf hg;omega
  ·rw [q];have a1:=x.len f k hf hk;have a2:=x.len k g kl hg;show ((y0 T f k).2++(y0 T k g).2).length<=_;rw [yJ];omega
theorem FW.all {h:Nat}{rss:List (List Int)}(G:qT h rss):∀ k,k<=h->FW rss h k (n8 rss k)
 |0,_=>FW.start G
 |k+1,hk=>FW.step (Shp.all G k (by omega)) (FW.all G k (by omega)) (by omega)
theorem UH (G:qT h rss):qT h (jR rss h):=by
 have S:=Shp.all G h (yU _);have F:=FW.all G h (yU _);refine ⟨by unfold jR;rw [yZ];exact S.len,λr hr=>?_⟩;unfold jR at hr;obtain ⟨row,hm,rfl⟩:=yE.mp hr;refine ⟨by rw [yZ];exact S.row row hm,λv hv=>?_⟩;obtain ⟨w,hw,rfl⟩:=yE.mp hv;obtain ⟨f,hf,rfl⟩:=uK hm;obtain ⟨g,hg,rfl⟩:=uK hw;have hf':f<=h:=by have:=S.len;omega
 have hg':g<h:=by rw [<- S.row _ hm];exact hg
 have e:y0 (n8 rss h) f g=(n8 rss h)[f][g]:=by unfold y0;rw [o7 hf,o7 hg]
 have p:=F.pos f g hf' hg';have l:=F.le f g hf' hg';rw [e] at p l;refine ⟨p,Int.lt_of_le_of_lt l ?_⟩;have hl:f<rss.length:=by have:=G.len;omega
 have hg2:g<rss[f].length:=by rw [(G.row _ (yr hl)).1];exact hg'
 rw [Js G hf' hg',o7 hl,o7 hg2];exact ((G.row _ (yr hl)).2 _ (yr hg2)).2
theorem UO {α:Type}[DecidableEq α]:∀{ms left:List α},ms.Nodup->(∀ x∈ms,x∈left)->ms.length<=left.length
 |[],_,_,_=>yo _
 |x::r,left,hn,hs=>by
  have hn':=yx.mp hn;have q:=UO (ms:=r) (left:=left.erase x) hn'.2 (λy hy=>(List.mem_erase_of_ne (λe=>hn'.1 (by rw [e] at hy;exact hy))).mpr (hs y (yN _ hy)));have hx:=hs x yQ;rw [List.length_erase_of_mem hx] at q;have pos:0<left.length:=List.length_pos_of_mem hx;show r.length+1<=_;omega
def top (i:Nat):Stmt:=PySem.Challenge.pw_rinsework_k65_tray_order_looked_at.main.body.getD i (.Pass ⟨0,0,0,0⟩)
abbrev Vd:Stmt:=top 56
abbrev XL:Stmt:=top 57
abbrev JL:Stmt:=top 58
theorem Vu (h:H p=none)(o:HO):Same H (z5 H p o):=λb u q=>by rw [z0 (w4 q h)];exact q
theorem sizes {n:Nat}(h:n<=1000):n<=sizeLine:=uS (wd h)
def Vz:Sp:=λvs H Q _=>∃ c k:Int,vs=[.int c,.int k]/\0<=k/\k<=100/\∀ v:Int,0<=v->v<2147483648->Q (.int v) H
def Kb (K:Fg):Sp:=λvs H Q _=>∃(a:Addr)(ns:List Int)(k:Int),vs=[.ref a,.int k]/\SqL K H a (ns.map V.int)/\ns.length<=63/\0<=k/\k<=12 /\
 ∀(r:Addr)(n:Int)(H':Hp),H r=none->Same H H'->H' r=some (.lst [.int n])->Q (.ref r) H'
section
theorem sc_digit:v8 ["row","many","digit"] ["row","many"] (z9 JL):=y4
theorem DE (F:Fun K "_law_digit" "_law_digit" JL f fd):FnOk P w K mg base j6 1 f fd ["row","many"] xZ:=by
 refine F.ok sc_digit (λvs H Q E h=>?_) (λcdv A outer s H vs Q E hr h=>?_)
 ·obtain ⟨a,n,m,rfl,_⟩:=h;rfl
 obtain ⟨a,n,m,rfl,hH,hm,q⟩:=h;refine ⟨_,(j9 (qc (i:=2) sc_digit.nd rfl (Or.inl rfl) (y9 jV (Xu (ZD (K:=K) rfl) (pv 0) z7 (λ_ _=>rfl)) (pv 1)))
  (j9 (Lq (y9 UT (Xu (ZD (K:=K) rfl) (pv 0) z7 (λ_ _=>rfl)) (pv 1)) (MY (pv 0) z7 NL))
  (j3 (w9 (pv 2))))),?_⟩
 refine ⟨_,rfl,a,_,0,_,rfl,rfl,SqL.of hH,rfl,_,rfl,n,m,rfl,rfl,hm.1,?_⟩;refine ⟨_,rfl,a,_,0,_,rfl,rfl,SqL.of hH,rfl,_,rfl,n,m,rfl,rfl,hm,?_⟩;refine ⟨_,rfl,a,_,0,0,rfl,rfl,hH,rfl,?_⟩;exact ⟨_,rfl,q⟩
theorem sc_mixed:v8 ["cell","k","stir"] ["cell","k"] (z9 Vd):=y4
theorem DX (F:Fun K "_law_mixed" "_law_mixed" Vd f fd):FnOk P w K mg base j6 1 f fd ["cell","k"] Vz:=by
 refine F.ok sc_mixed (λvs H Q E h=>?_) (λcdv A outer s H vs Q E hr h=>?_)
 ·obtain ⟨c,k,rfl,_⟩:=h;rfl
 obtain ⟨c,k,rfl,k0,k1,q⟩:=h;refine ⟨_,(j9 (qc (i:=2) sc_mixed.nd rfl (Or.inl rfl) (y9 jV (y9 vU (y9 op_add (y9 op_add (y9 jV (pv 0) z7) (y9 vU z7 (pv 1))) z7) z7) z7))
  (j3 (w9 (y9 jV (y9 vU (y9 jV (y9 vU (pv 2) (pv 2)) z7) z7) z7)))),?_⟩
 refine ⟨_,rfl,_,_,rfl,rfl,(by show (0:Int)<1000000007;decide),_,rfl,_,_,rfl,rfl,.inl ⟨by decide,by decide⟩,_,_,rfl,rfl,_,_,rfl,rfl,_,_,rfl,rfl,.inr ⟨by decide,by decide⟩,_,_,rfl,rfl,(by show (0:Int)<2147483647;decide),?_⟩;generalize hone:(c % 1000000007+7919*k+1)*48271 % 2147483647=one;have o0:0<=one:=by rw [<- hone];exact yq _ (by decide)
 have o1:one<2147483647:=by rw [<- hone];exact yt _ (by decide)
 refine ⟨_,rfl,_,rfl,_,_,rfl,rfl,.inl ⟨by omega,by omega⟩,_,_,rfl,rfl,(by show (0:Int)<2147483629;decide),_,_,rfl,rfl,.inr ⟨by decide,by decide⟩,_,_,rfl,rfl,(by show (0:Int)<2147483647;decide),?_⟩;exact q _ (yq _ (by decide)) (Int.lt_trans (yt _ (by decide)) (by decide))
end
def MM:Int:=10 ^ (60:Int).toNat
theorem Qu:0<MM:=by decide +kernel
theorem YG:zV 10 60:=⟨by decide,by decide,by decide⟩
theorem YF:zV 10 18:=⟨by decide,by decide,by decide⟩
theorem Bj:Builtin.Int.intBits MM<=2 ^ 20:=by decide +kernel
theorem NX {M c r:Int}{i:Nat}(hM:0<M)(h0:0<=c)(h:c<M ^ i)(r0:0<=r)(r1:r<M):0<=c*M+r/\c*M+r<M ^ (i+1):=by
 have e:M ^ (i+1)=M ^ i*M:=Int.pow_succ M i;have h1:(c+1)*M<=M ^ i*M:=uC (by omega) (Int.le_of_lt hM);have h2:(c+1)*M=c*M+M:=by rw [Int.add_mul,Int.one_mul]
 have h3:0<=c*M:=Int.mul_nonneg h0 (Int.le_of_lt hM);rw [e];omega
theorem KU:∀ i:_root_.Fin 14,(MM ^ (i:Nat)).toNat<2 ^ 2700:=by decide +kernel
theorem Bk {c:Int}{i:Nat}(hi:i<=13)(h0:0<=c)(h:c<MM ^ i):Builtin.Int.intBits c<=2 ^ 20:=by
 obtain ⟨n,rfl⟩:=uW h0;have q:=KU ⟨i,by omega⟩;have q2:n<2 ^ 2700:=by have q':(MM ^ i).toNat<2 ^ 2700:=q;omega
 exact yp (PyProof.Rows.intBits_le (by rw [Int.natAbs_natCast];exact q2)) (by decide)
theorem LU:∀ i:_root_.Fin 13,∀ j:_root_.Fin 64,Builtin.Range.small ((i:Nat):Int) ((j:Nat):Int) 5=true:=by decide +kernel
theorem Jt {i:Int}:Builtin.Range.rangeSize i j 5=if i<j then (j-i-1) / 5+1 else 0:=rfl
theorem LS {i:Int}(h0:0<=i)(h1:i<=12)(h2:0<=j)(h3:j<=63):0<=Builtin.Range.rangeSize i j 5/\Builtin.Range.small i j 5=true/\zQ i j 5<=13/\∀ t:Nat,t<zQ i j 5->i+t*5<j:=by
 refine ⟨?_,?_,?_,λt ht=>?_⟩
 ·rw [Jt];split<;>omega
 ·have q:=LU ⟨i.toNat,by omega⟩ ⟨j.toNat,by omega⟩;have e1:((i.toNat:Nat):Int)=i:=by omega
  have e2:((j.toNat:Nat):Int)=j:=by omega
  have q':Builtin.Range.small ((i.toNat:Nat):Int) ((j.toNat:Nat):Int) 5=true:=q;rw [e1,e2] at q';exact q'
 ·unfold zQ;rw [Jt];split<;>omega
 ·unfold zQ at ht;rw [Jt] at ht;split at ht<;>omega
theorem Bc {ns:List Int}{k:Int}(h0:0<=k)(h:k<(ns.length:Int)):∃ v:Int,atI (ns.map V.int) k=some (.int v):=by
 have hk:k.toNat<ns.length:=by omega
 have ek:k=((k.toNat:Nat):Int):=by omega
 have q:atI (ns.map V.int) ((k.toNat:Nat):Int)=some (.int ns[k.toNat]):=xN (by rw [yM,yW hk]<;>rfl);rw [<- ek] at q;exact ⟨_,q⟩
section
theorem sc_stream:v8 ["script","k","cell","j","found"] ["script","k"] (z9 XL):=y4
theorem Mm (F:Fun K "_law_stream" "_law_stream" XL f fd)(Eb:Fn P w K mg base 1 "_law_mixed" ["cell","k"] Vz)(Ad:mg "len"=none)(Ae:mg "range"=none)(Ei:mg "sum"=none):FnOk P w K mg base j6 2 f fd ["script","k"] (Kb K):=by
 refine F.ok sc_stream (λvs H Q E h=>?_) (λcdv A outer s H vs Q E hr h=>?_)
 ·obtain ⟨a,ns,k,rfl,_⟩:=h;rfl
 obtain ⟨a,ns,k,rfl,hS,h63,k0,k1,q⟩:=h;refine ⟨_,(j9 (qc (i:=2) sc_stream.nd rfl (Or.inl rfl) z7)
  (j9 (xr PassesOwn.never rfl (Lc rfl Ae (j4 (pv 1) (j4 (g9 (Ys (K:=K) rfl) rfl Ad PySem.boot_len (j4 (pv 0) u5)) (j4 z7 u5)))) (gW 3 sc_stream.nd)
   (j3 (qc (i:=2) sc_stream.nd rfl (Or.inl rfl) (y9 op_add (y9 Xr (pv 2) (y9 vV z7 z7)) (y9 jV (Xu (ZD (K:=K) rfl) (pv 0) (pv 3) (λ_ _=>rfl)) (y9 vV z7 z7))))))
  (j9 (c8 (o8 Xo (pv 2) (y9 vV z7 z7) (p8 _)) (j3 (w9 (zy (j4 (pv 2) u5)))) m6)
  (j9 (qc (i:=2) sc_stream.nd rfl (Or.inl rfl) (y9 op_add (pv 2) (g9 (BG (K:=K) rfl rfl) rfl Ei Yr (j4 (n9 (N':=["one"]) (cap:=[none]) (k8 rfl rfl rfl) rfl (b9 (K:=K) rfl (pv 0)) (λ_ _ _ _ _ _=>(k6 (i:=0) (by show (["one"]:List Str).Nodup;decide +kernel) rfl (Or.inl rfl))) (λ_ _ _ _ _ _=>p5) (λ_ _ _ _ _ _=>(y9 jV (pv 0) (y9 vV z7 z7)))) u5))))
  (j9 (qc (i:=4) sc_stream.nd rfl (Or.inl rfl) z7)
  (j9 (xr PassesOwn.never rfl (jj rfl Ae (j4 z7 u5)) (gW 3 sc_stream.nd)
   (j3 (qc (i:=4) sc_stream.nd rfl (Or.inl rfl) (y9 op_add (y9 vU (pv 4) z7) (fW Eb hr (j4 (y9 op_add (y9 op_add (pv 2) (y9 vU z7 (pv 1))) (g9 (Ys (K:=K) rfl) rfl Ad PySem.boot_len (j4 (pv 0) u5))) (j4 (pv 3) u5)))))))
  (j3 (w9 (zy (j4 (y9 UT (pv 4) z7) u5)))))))))),?_⟩
 have hl:(((ns.map V.int).length:Nat):Int)=(ns.length:Int):=by rw [yZ]
 obtain ⟨z1,z2,z3,z4⟩:=LS (i:=k) (j:=(((ns.map V.int).length:Nat):Int)) k0 k1 (by omega) (by omega);refine ⟨_,rfl,_,rfl,a,_,rfl,.inl hS,k,_,5,rfl,⟨by decide,by decide⟩,z1,z2,Pn (λi σ H2=>∃(c:Int)(j:Option V),σ=[some (.ref a),some (.int k),some (.int c),j,none]/\H2=H/\0<=c/\c<MM ^ i)
  ⟨0,none,rfl,rfl,Int.le_refl 0,by decide⟩ ?_ ?_⟩
 ·rintro i σ H2 hi ⟨c,j,rfl,rfl,c0,c1⟩;obtain ⟨v,hv⟩:=Bc (ns:=ns) (k:=k+i*5) (by omega) (by have:=z4 i hi;omega);refine ⟨_,rfl,_,_,rfl,rfl,YG,_,_,rfl,rfl,⟨Bk (by omega) c0 c1,Bj⟩,_,rfl,_,rfl,a,_,_,_,rfl,rfl,hS,hv,
   _,_,rfl,rfl,YG,_,_,rfl,rfl,Qu,_,_,rfl,rfl,?_⟩
  have sb:=NX (i:=i) Qu c0 c1 (yq v (Ne.symm (Int.ne_of_lt Qu))) (yt v Qu);exact ⟨_,_,rfl,rfl,sb.1,sb.2⟩
 ·rintro σ H2 ⟨c,j,rfl,rfl,c0,c1⟩;refine ⟨_,rfl,_,_,rfl,rfl,YF,_,_,rfl,rfl,_,rfl,ite2 (λ_=>?_) (λ_=>?_)⟩
  ·refine ⟨_,rfl,(by show 1<=sizeLine;decide),λp hp=>?_⟩;exact q p c _ hp (Vu hp _) v6
  ·refine ⟨_,rfl,_,rfl,a,rfl,⟨_,hS⟩,YD (K:=K) (a:=a) (xs:=ns.map V.int) (λi ys H3=>H3=H2/\∃ ms:List Int,ys=ms.map V.int/\ms.length=i) ⟨rfl,[],rfl,rfl⟩ ?_ ?_ ?_ ?_⟩
   ·rintro i ys H3 hi ⟨_,ms,rfl,rfl⟩;rw [yZ] at hi ⊢;exact sizes (by omega)
   ·rintro i ys H3 hi ⟨rfl,_⟩;exact hS
   ·rintro i x ys H3 R hx ⟨rfl,ms,rfl,rfl⟩ hR;rw [yM] at hx;obtain ⟨v,hv,rfl⟩:=yL.mp hx;refine ⟨Wk.one rfl,⟨_,rfl,_,_,rfl,rfl,YF,_,_,rfl,rfl,(by show (0:Int)<10 ^ (18:Int).toNat;decide),?_⟩⟩;exact hR _ _ ⟨rfl,ms++[_],by rw [yw];rfl,by rw [yJ];rfl⟩
   ·rintro ys H3 ⟨rfl,ms,rfl,_⟩ D hD;refine ⟨D,ms,rfl,SqL.of v6,_,_,rfl,rfl,?_⟩;have g1:Same H3 (z5 H3 D (.lst (ms.map V.int))):=Vu hD _;refine ⟨12,rfl,by decide,by decide,Ue (n:=12) (λi σ H4=>∃(f:Int)(j:Option V),σ=[some (.ref a),some (.int k),some (.int (c+ms.sum)),j,some (.int f)]/\H4=z5 H3 D (.lst (ms.map V.int))) ⟨0,_,rfl,rfl⟩ ?_ ?_⟩
    ·rintro i σ H4 hi ⟨f,j,rfl,rfl⟩;refine ⟨_,rfl,_,_,rfl,rfl,.inr ⟨by decide,by decide⟩,_,rfl,_,rfl,_,_,rfl,rfl,.inl ⟨by decide,by decide⟩,_,_,rfl,rfl,_,rfl,a,_,rfl,.inl (g1.seq hS),_,_,rfl,rfl,_,rfl,_,_,rfl,by omega,by omega,λv v0 v1=>?_⟩;exact ⟨_,_,rfl,rfl,_,_,rfl,rfl⟩
    ·rintro σ H4 ⟨f,j,rfl,rfl⟩;refine ⟨_,rfl,_,_,rfl,rfl,⟨by decide,by decide +kernel⟩,(by show 1<=sizeLine;decide),λp hp=>?_⟩;exact q p (f / 64) _ (g1.free hp) (g1.trans (Vu hp _)) v6
end
def va (K:Fg):List PV->Prop:=λxs=>∃(ns:List Int)(k:Int),xs=[scr K ns,.at (.int k)]/\ns.length<=63/\0<=k/\k<=12
def jv:List PV->PV->Prop:=λ_ y=>∃ n:Int,y = .lst [.at (.int n)]
theorem NY {K:Fg}(h:spN (va K) jv vs H Q E):Kb K vs H Q E:=by obtain ⟨Hs,xs,sm,r,⟨ns,k,rfl,h63,k0,k1⟩,q⟩:=h;obtain ⟨v,w,rfl,p1,p2⟩:=reps_cons.mp r;obtain ⟨u,z,rfl,p3,p4⟩:=reps_cons.mp p2;cases reps_nil.mp p4;cases rep_at.mp p3;obtain ⟨a,rfl,hS⟩:=NG sm p1;exact ⟨a,ns,k,rfl,hS,h63,k0,k1,λb n H' nb g e=>q _ b Hs H' ⟨n,rfl⟩ ⟨.refl _,g,sm.trans g,λ_ _ z=>z⟩ nb (sm.free nb) ⟨_,e,.one (rep_at.mpr rfl)⟩⟩
section
theorem Ml (F:Fun K "_law_stream" "_law_stream" XL f fd)(Eb:Fn P w K mg base 1 "_law_mixed" ["cell","k"] Vz)(Ad:mg "len"=none)(Ae:mg "range"=none)(Ei:mg "sum"=none):FnOk P w K mg base j6 2 f fd ["script","k"] (spN (va K) jv):=(Mm F Eb Ad Ae Ei).imp λ_ _ _ _ h=>NY h
end
def f6:Int:=10 ^ 30
theorem CU {k:Int}(h0:0<=k)(h1:k<=2*f6):k.natAbs.log2<9000:=by
 have hb:(2*f6).toNat<2 ^ 9000:=yH (show (2*f6).toNat<2 ^ 110 by decide +kernel) (Nat.pow_le_pow_right (by decide) (by decide));have:k.natAbs<2 ^ 9000:=by omega
 by_cases hz:k.natAbs=0
 ·rw [hz];decide
 ·exact (Nat.log2_lt hz).mpr this
theorem xQ {k:Int}(h0:0<k)(h1:k<=2*f6):wj n k:=⟨h0,CU (by omega) h1⟩
theorem js:(1000:Int)<=f6:=by decide +kernel
def o4 (rss:List (List Int)):PV:= .lst (rss.map λr=> .lst (r.map λn=> .at (.int n)))
theorem wc {a:MA}{k:Nat}(h:a ε=some [.at (.int (k:Int))])(hk:k<=lim):xT a ε=some (xt 0 k):=by have hlim:(lim:Int)=1000000:=rfl;have hl:lim=1000000:=rfl;unfold xT;rw [h];show (if -(lim:Int)<=(k:Int)/\(k:Int)<=(lim:Int) then some (xt 0 (k:Int).toNat) else none)=_;rw [if_pos ⟨by omega,by omega⟩,ue]
def w5 (ss:List Str):List PV:=ss.map λs=> .at (.str s)
theorem zb (ss:List Str):(w5 ss).length=ss.length:=yZ _
def Low (x:Str):Prop:=∀ c∈x.cps.toList,97<=c/\c<=122
structure vn (x:Str):Prop where
 low:Low x
 one:1<=x.length
 eight:x.length<=8
theorem Wc:∀ ss:List Str,ats (w5 ss)=some (ss.map V.str)
 |[]=>rfl
 |s::ss=>by
  show (ats (w5 ss)).map (V.str s::·)=_;rw [Wc ss];rfl
theorem Ul (x:Str):∀ ss:List Str,inV (.str x) (ss.map V.str)=decide (x∈ss)
 |[]=>by simp [inV]
 |s::ss=>by
  have ih:=Ul x ss;unfold inV at ih ⊢;rw [yO,List.any_cons,ih];have e:c5 (.str s) (.str x)=decide (s=x):=rfl;rw [e];by_cases h:s=x
  ·subst h;simp
  ·simp [h,Ne.symm h]
theorem Pl (ss:List Str):(ss.map V.str).all y6=true:=by rw [uH];intro v hv;obtain ⟨s,_,rfl⟩:=yE.mp hv;rfl
theorem ZB (neg:Bool)(x:Str)(ss:List Str):pIn neg (.at (.str x)) (.lst (w5 ss))=some (.at (.bl (if neg then !decide (x∈ss) else decide (x∈ss)))):=by show (ats (w5 ss)).bind _=_;rw [Wc,yB,if_pos ⟨rfl,Pl ss⟩,Ul]
structure Cl where
 name:Str
 hue:Nat
 len:Int
 due:Int
 wt:Int
variable{c:Cl}{cs ns rem t:List Cl}
def Cl.pv (c:Cl):PV:= .tup [.at (.str c.name),.at (.int c.hue),.at (.int c.len),.at (.int c.due),.at (.int c.wt)]
structure Cl.Ok (h:Nat)(c:Cl):Prop where
 nm:vn c.name
 hu:c.hue<h
 l1:1<=c.len
 l2:c.len<=f6
 d1:-f6<=c.due
 d2:c.due<=f6
 w1:1<=c.wt
 w2:c.wt<=f6
theorem UK {α β:Type}{f:α->β}(hf:∀ x y,f x=f y->x=y):∀{a b:List α},a.map f=b.map f->a=b
 |[],[],_=>rfl
 |[],_::_,h=>by cases h
 |_::_,[],h=>by cases h
 |x::a,y::b,h=>by
  rw [yO,yO] at h;injection h with h1 h2;rw [hf x y h1,UK hf h2]
theorem Zn {α β:Type}(f:α->β):∀(l:List α)(i:Nat),(l.map f).eraseIdx i=(l.eraseIdx i).map f
 |[],_=>rfl
 |_::_,0=>rfl
 |x::l,i+1=>by simp [Zn f l i]
theorem Jj {α:Type}:∀{ss:List α}{j:Nat}(h:j<ss.length),(ss[j]::ss.eraseIdx j).Perm ss
 |x::ss,0,_=>List.Perm.refl _
 |x::ss,j+1,h=>by
  have hj:j<ss.length:=by simpa using h
  have ih:=Jj hj;show (ss[j]::x::ss.eraseIdx j).Perm (x::ss);exact (List.Perm.swap _ _ _).trans (ih.cons x)
structure Dr where
 h:Nat
 rss:List (List Int)
 cls:List Cl
 last:Int
 time:Int
variable{d e:Dr}
def Dr.pv (d:Dr):PV:= .tup [o4 d.rss,.lst (d.cls.map Cl.pv),.at (.int d.last),.at (.int d.time)]
structure Dr.Ok (d:Dr):Prop where
 h1:1<=d.h
 h4:d.h<=4
 rin:qT d.h d.rss
 ten:d.cls.length<=10
 cl:∀ c∈d.cls,c.Ok d.h
 nd:(d.cls.map Cl.name).Nodup
 l1:-1<=d.last
 l2:d.last<d.h
 t1:0<=d.time
 t2:d.time<60*f6
theorem Lz {a b:Cl}(h:a.pv=b.pv):a=b:=by cases a;cases b;unfold Cl.pv at h;injection h with h;simp only [List.cons.injEq,PV.at.injEq,V.str.injEq,V.int.injEq] at h;obtain ⟨h1,h2,h3,h4,h5,_⟩:=h;have h2:=Int.ofNat.inj h2;subst h1 h2 h3 h4 h5;rfl
theorem BY (h:d.pv=e.pv):d.cls=e.cls:=by unfold Dr.pv at h;injection h with h;injection h with _ h;injection h with h _;injection h with h;exact UK (λ_ _=>Lz) h
def T26:Int:=10 ^ 26
def T27:Int:=10 ^ 27
theorem Ts:T27=10*T26/\f6=1000*T27/\1000<T26:=by decide +kernel
theorem pow26:pPow (.at (.int 10)) (.at (.int 26))=some (.at (.int T26)):=by show (if zV 10 26 then some (V.int (10 ^ (26:Int).toNat)) else none).map PV.at=_;rw [if_pos ⟨by decide,by decide,by decide⟩];rfl
theorem pow27:pPow (.at (.int 10)) (.at (.int 27))=some (.at (.int T27)):=by show (if zV 10 27 then some (V.int (10 ^ (27:Int).toNat)) else none).map PV.at=_;rw [if_pos ⟨by decide,by decide,by decide⟩];rfl
theorem Yl (h0:-f6<=n)(h1:n<=f6):Builtin.Int.intBits n<=2 ^ 20:=by
 have hb:f6<2 ^ 120:=by decide +kernel
 exact yp (PyProof.Rows.intBits_le (k:=120) (by omega)) (by decide)
theorem ZW {a b:Int}(a0:-f6<=a)(a1:a<=f6)(b0:-f6<=b)(b1:b<=f6):wW (.at (.int a)) (.at (.int b))=some (.at (.int (a*b))):=by show (if wm a b then some (V.int (a*b)) else none).map PV.at=_;rw [if_pos ⟨Yl a0 a1,Yl b0 b1⟩];rfl
def xF:List PV->Prop:=λxs=>∃ b:Bool,xs=[.at (.bl b)]
def xM:List PV->PV->Prop:=λ_ y=>∃ n:Int,y = .at (.int n)/\0<=n/\n<10*T27
abbrev Vi:Stmt:=top 59
abbrev WQ (K:Fg):WS:=(wSeq (p6 2 (i9 0 (wP (dC (.int 10)))))
  (wSeq (qx (wPT (t0 (q9 1))) (p6 2 (qa qL (wP (x9 wW (q9 2) (x9 pPow (dC (.int 10)) (dC (.int 27))))) (i9 0 (wP (dC (.int 3)))))) qN)
  (qy (wP (q8 2)))))
theorem sc_number:v8 ["row","great","number"] ["row","great"] (z9 Vi):=y4
theorem PJ:∀ xs,xF xs->xs.length+1=(["row","great"]:List Str).length:=by rintro xs ⟨b,rfl⟩;rfl
theorem PU {K:Fg}:∀ xs n,xF xs->WQ K (u9 n::xs.map .sh++List.replicate ((["row","great","number"]:List Str).length-(xs.length+1)) .no) (λ_=>False) λy ε=>xM xs y/\xK 0 ε:=by
 rintro xs n ⟨b,rfl⟩;have hB:=js;obtain ⟨t1,t2,t3⟩:=Ts;refine ⟨⟨n,rfl⟩,_,rfl,n,10,rfl,rfl,⟨by decide,by decide⟩,?_⟩;have a0:0<=n % 10:=yq _ (by decide);have a1:n % 10<10:=yt _ (by decide);cases b with
 |false=>exact vk rfl ⟨_,rfl,⟨_,rfl,a0,by omega⟩,_,rfl⟩
 |true =>
  have b0:0<=n / 10 % 3:=yq _ (by decide);have b1:n / 10 % 3<3:=yt _ (by decide);refine Qt rfl ⟨_,v9 rfl (v9 rfl rfl pow27) (ZW (a:=n % 10) (b:=T27) (by omega) (by omega) (by omega) (by omega)),⟨_,rfl⟩,_,rfl,n / 10,3,rfl,rfl,⟨by decide,by decide⟩,_,rfl,_,rfl,⟨_,rfl,?_,?_⟩,_,rfl⟩
  ·generalize n % 10=p at a0 a1 ⊢;have:=Int.mul_nonneg a0 (show 0<=T27 by omega);omega
  ·generalize n % 10=p at a0 a1 ⊢;have:p*T27<=9*T27:=uC (by omega) (by omega);omega
theorem Mc (F:Fun K "_law_number" "_law_number" Vi f fd)(Ac:Fn P w K mg base 1 "_law_digit" ["row","many"] xZ):FnOk P w K mg base j6 2 f fd ["row","great"] (spD xF xM) :=
 okD (k:=1) (b:=WQ K) F sc_number PJ (λcdv A outer s H E hr=>⟨_,(@j9 _ _ _ _ _ (@qc _ _ 2 _ _ _ _ sc_number.nd rfl (Or.inl rfl) (qb Ac hr (by decide) rfl (@j4 _ _ _ _ _ (pv 0) (@j4 _ _ _ _ _ z7 u5 (by rfl)) (by rfl))) (by rfl) (.inl rfl))
  (@j9 _ _ _ _ _ (c8 (qw (K:=K) rfl (pv 1) (λ_=>rfl)) (@j3 _ _ _ (@qc _ _ 2 _ _ _ _ sc_number.nd rfl (Or.inl rfl) (y9 (xo (K:=K) rfl) (y9 (Xr) (pv 2) (y9 (vV) z7 z7)) (qb Ac hr (by decide) rfl (@j4 _ _ _ _ _ (pv 0) (@j4 _ _ _ _ _ z7 u5 (by rfl)) (by rfl)))) (by rfl) (.inl rfl))) m6)
  (@j3 _ _ _ (w9 (pv 2))))),
  (by repeat' first|infer_instance|(refine @Mi.instSemWSTSeqWSeq _ _ _ _ ?_ ?_)|(apply @Mi.instSemWSTForWForOfSemWIOfSemWG))⟩) PU
def zB (r:List Int):PV:= .lst (r.map λn=> .at (.int n))
def Qd:List PV->Prop:=λxs=>∃(h:Nat)(b:Bool),xs=[.at (.int h),.at (.bl b)]/\1<=h/\h<=4
def vq:List PV->PV->Prop:=λxs y=>∃(h:Nat)(b:Bool)(rss:List (List Int)),xs=[.at (.int h),.at (.bl b)]/\y=o4 rss/\qT h rss
abbrev Vm:Stmt:=top 60
abbrev WW (K:Fg):WS:=(wSeq (p6 3 (i9 0 (wP (dC (.int 4)))))
  (wSeq (VS 4 (zI x6))
  (wSeq (wFor (wIp (xT (q0 (x9 qL (q9 1) (dC (.int 1))) x6))) (v5 5) (wSeq (p6 6 (jq [none,some 0,some 2] [0] (wIp (xT (q0 (q8 1) x6))) (v5 0) zU (xa 1 xF xM (y3 (wP (q8 2)) i8))))
  (wSeq (qx (wPT (dT (x9 pEq (q9 3) (dC (.int 0))))) (p6 6 (wP (x9 pRep (zI (q0 (dC (.int 0)) x6)) (q9 1)))) qN)
  (wSeq (qx (wPT (dT (x9 pEq (q9 3) (dC (.int 1))))) (p6 6 (jq [none,some 0] [0] (wIp (u4 (q8 6))) (v5 0) zU (qa wW (wP (q8 0)) (i9 1 (wP (dC (.int 2))))))) qN)
  (Qr 4 (wP (q8 6)))))))
  (wFz 4 (qy (wP (q8 4)))))))
theorem sc_rinses:v8 ["row","hues","great","way","found","first","numbers"] ["row","hues","great"] (z9 Vm):=y4
theorem PL:∀ xs,Qd xs->xs.length+1=(["row","hues","great"]:List Str).length:=by rintro xs ⟨h,b,rfl,_⟩;rfl
structure vw (h:Nat)(r:List Int):Prop where
 len:r.length=h
 lo:∀ v∈r,0<=v/\v<10 ^ 30
theorem PY {K:Fg}:∀ xs n,Qd xs->WW K (u9 n::xs.map .sh++List.replicate ((["row","hues","great","way","found","first","numbers"]:List Str).length-(xs.length+1)) .no) (λ_=>False) λy ε=>vq xs y/\xK 0 ε:=by
 rintro xs n ⟨h,b,rfl,h1,h4⟩;have hl:lim=1000000:=rfl;obtain ⟨t1,t2,t3⟩:=Ts;have eB:f6=10 ^ 30:=rfl;refine ⟨⟨n,rfl⟩,_,rfl,n,4,rfl,rfl,⟨by decide,by decide⟩,_,rfl,?_⟩;generalize n % 4=way;generalize n / 4=n1;refine ⟨xt 0 (h+1),wc rfl (by omega),?_⟩;refine ZO (λrest ε=>∃(m:Int)(rss:List (List Int))(s5 s6:MSlot),rss.length+rest.length=h+1/\(∀ r∈rss,vw h r)/\ε=[u9 m,.sh (.at (.int (h:Int))),.sh (.at (.bl b)),.sh (.at (.int way)),.ow (.lst (rss.map zB)),s5,s6]) ?_ ?_ _ _ ⟨n1,[],_,_,by rw [ve];simp,(λ_ z=>nomatch z),rfl⟩
 ·rintro ε ⟨m,rss,s5,s6,e1,e2,rfl⟩;exact ⟨_,rfl,⟨h,b,rss,rfl,rfl,by simpa using e1,λr hr=>⟨(e2 r hr).len,(e2 r hr).lo⟩⟩,m,rfl⟩
 ·rintro x rest ε ⟨m,rss,s5,s6,e1,e2,rfl⟩;simp only [yA] at e1;refine ⟨_,rfl,xt 0 h,wc rfl (by omega),rfl,by rw [ve];omega,?_⟩;have app:∀(m:Int)(r:List Int),vw h r->Qr 4 (wP (q8 6)) [u9 m,.sh (.at (.int (h:Int))),.sh (.at (.bl b)),.sh (.at (.int way)),.ow (.lst (rss.map zB)),.sh x,.sh (zB r)] (λε=>∃(m:Int)(rss:List (List Int))(s5 s6:MSlot),rss.length+rest.length=h+1/\(∀ r∈rss,vw h r)/\ε=[u9 m,.sh (.at (.int (h:Int))),.sh (.at (.bl b)),.sh (.at (.int way)),.ow (.lst (rss.map zB)),s5,s6]) (λy ε=>vq [.at (.int h),.at (.bl b)] y/\xK 0 ε):=by
   intro m r hr;refine ⟨⟨_,rfl⟩,_,rfl,_,rfl,by rw [yZ];omega,m,rss++[r],.sh x,.sh (zB r),by rw [yJ];simp;omega,?_,by rw [yw];rfl⟩;intro q hq;rcases yu.mp hq with hq|hq
   ·exact e2 q hq
   ·rw [yR.mp hq];exact hr
  have if1:∀(m:Int)(r:List Int),vw h r->(wSeq (qx (wPT (dT (x9 pEq (q9 3) (dC (.int 1))))) (p6 6 (jq [none,some 0] [0] (wIp (u4 (q8 6))) (v5 0) zU (qa wW (wP (q8 0)) (i9 1 (wP (dC (.int 2))))))) qN) (Qr 4 (wP (q8 6)))) [u9 m,.sh (.at (.int (h:Int))),.sh (.at (.bl b)),.sh (.at (.int way)),.ow (.lst (rss.map zB)),.sh x,.sh (zB r)] (λε=>∃(m:Int)(rss:List (List Int))(s5 s6:MSlot),rss.length+rest.length=h+1/\(∀ r∈rss,vw h r)/\ε=[u9 m,.sh (.at (.int (h:Int))),.sh (.at (.bl b)),.sh (.at (.int way)),.ow (.lst (rss.map zB)),s5,s6]) (λy ε=>vq [.at (.int h),.at (.bl b)] y/\xK 0 ε):=by
   intro m r hr;by_cases hw:way=1
   ·subst hw;refine Qt (r9 (v:=true) rfl) ⟨_,rfl,rfl,by rw [yZ,hr.len];omega,?_⟩;refine QD (λtodo zs ε=>∃(m:Int)(done left:List Int),ε=[.no,u9 m]/\todo=left.map (λn=>PV.at (.int n))/\zs=done.map (λn=>PV.at (.int n))/\done.length+left.length=h/\(∀ v∈left,0<=v/\v<10 ^ 30)/\∀ v∈done,0<=v/\v<10 ^ 30) ?_ ?_ _ [] _ ⟨m,[],r,rfl,rfl,rfl,by rw [hr.len];simp,hr.lo,(λ_ z=>nomatch z)⟩
    ·rintro zs ε ⟨m2,done,left,rfl,z,rfl,g1,g2,g3⟩;have e:left=[]:=by cases left with|nil=>rfl|cons _ _=>cases z
     subst e;exact ⟨λ_=>⟨_,rfl⟩,app _ done ⟨by simpa using g1,g3⟩⟩
    ·rintro x2 rest2 zs ε ⟨m2,done,left,rfl,z,rfl,g1,g2,g3⟩;cases left with
     |nil=>cases z
     |cons v left =>
      rw [yO] at z;injection z with z1 z2;subst z1;simp only [yA] at g1;have v0:=g2 v yQ;rw [<- eB] at v0;have c0:0<=m2 % 2:=yq _ (by decide);have c1:m2 % 2<2:=yt _ (by decide);refine ⟨_,rfl,_,rfl,⟨_,rfl⟩,_,rfl,m2,2,rfl,rfl,⟨by decide,by decide⟩,_,ZW (a:=v) (b:=m2 % 2) (by omega) (by omega) (by omega) (by omega),m2 / 2,done++[v*(m2 % 2)],left,rfl,z2,by rw [yw];rfl,by rw [yJ];simp;omega,λw hw=>g2 w (yN _ hw),λw hw=>?_⟩;rcases yu.mp hw with hw|hw
      ·exact g3 w hw
      ·rw [yR.mp hw,<- eB];have:m2 % 2=0∨m2 % 2=1:=by omega
       rcases this with e|e<;>rw [e]<;>omega
   ·refine vk (r9 (v:=false) ?_) (app m r hr);show some (PV.at (.bl (decide (way=1))))=_;rw [yD hw]
  refine QD (λrest2 zs ε=>∃(m:Int)(r:List Int),ε=[.no,u9 m,.sh (.at (.bl b))]/\zs=r.map (λn=>PV.at (.int n))/\r.length+rest2.length=h/\(∀ v∈r,0<=v/\v<10 ^ 30)) ?_ ?_ _ [] _ ⟨m,[],rfl,rfl,by rw [ve];simp,(λ_ z=>nomatch z)⟩
  ·rintro zs ε ⟨m2,r,rfl,rfl,g1,g2⟩;have hr:vw h r:=⟨by simpa using g1,g2⟩;refine ⟨λ_=>⟨_,rfl⟩,?_⟩;by_cases hw:way=0
   ·subst hw;refine Qt (r9 (v:=true) rfl) ⟨zB (List.replicate h 0),?_,if1 m2 _ ⟨ud,λv hv=>?_⟩⟩
    ·refine v9 (YW (xs:=[.at (.int 0)]) rfl l1) rfl ?_;show (if -(lim:Int)<=(h:Int)/\(h:Int)<=lim/\[PV.at (.int 0)].length*(h:Int).toNat<=lim then some (PV.lst (List.replicate (h:Int).toNat [PV.at (.int 0)]).flatten) else none)=_;rw [if_pos ⟨by omega,by omega,by simp;omega⟩];unfold zB;simp
    ·rw [List.eq_of_mem_replicate hv];decide
   ·refine vk (r9 (v:=false) ?_) (if1 m2 r hr);show some (PV.at (.bl (decide (way=0))))=_;rw [yD hw]
  ·rintro x2 rest2 zs ε ⟨m2,r,rfl,rfl,g1,g2⟩;simp only [yA] at g1;refine ⟨_,rfl,⟨_,rfl⟩,_,rfl,⟨_,rfl⟩,⟨b,rfl⟩,?_⟩;rintro y n' ⟨v,rfl,v0,v1⟩;refine ⟨n',r++[v],rfl,by rw [yw];rfl,by rw [yJ];simp;omega,λq hq=>?_⟩;rcases yu.mp hq with hq|hq
   ·exact g2 q hq
   ·rw [yR.mp hq,<- eB];exact ⟨v0,by omega⟩
theorem Mh (F:Fun K "_law_rinses" "_law_rinses" Vm f fd)(Ac:Fn P w K mg base 1 "_law_digit" ["row","many"] xZ)(Aq:Fn P w K mg base 2 "_law_number" ["row","great"] (spD xF xM))(Ae:mg "range"=none):FnOk P w K mg base j6 3 f fd ["row","hues","great"] (spD Qd vq) :=
 okD (k:=2) (b:=WW K) F sc_rinses PL (λcdv A outer s H E hr=>⟨_,(@j9 _ _ _ _ _ (@qc _ _ 3 _ _ _ _ sc_rinses.nd rfl (Or.inl rfl) (qb Ac hr (by decide) rfl (@j4 _ _ _ _ _ (pv 0) (@j4 _ _ _ _ _ z7 u5 (by rfl)) (by rfl))) (by rfl) (.inl rfl))
  (@j9 _ _ _ _ _ (@qc _ _ 4 _ _ _ _ sc_rinses.nd rfl (Or.inl rfl) (@zy _ _ _ _ u5) (by rfl) (.inl rfl))
  (@j9 _ _ _ _ _ (xr PassesOwn.never rfl (jj rfl Ae (@j4 _ _ _ _ _ (y9 (xo (K:=K) rfl) (pv 1) z7) u5 (by rfl))) (k6 (i:=5) sc_rinses.nd rfl (Or.inl rfl))
   (@j9 _ _ _ _ _ (jk (i:=6) (N':=["hue","row","great"]) (cap:=[none,some 0,some 2]) (k8 rfl rfl rfl) rfl sc_rinses.nd rfl rfl (jj rfl Ae (@j4 _ _ _ _ _ (pv 1) u5 (by rfl))) (λ_ _ _ _ _ _=>(k6 (i:=0) (by show (["hue","row","great"]:List Str).Nodup;decide +kernel) rfl (Or.inl rfl))) (λ_ _ _ _ _ _=>p5) (λ_ _ _ _ _ _=>(qb Aq hr (by decide) rfl (@j4 _ _ _ _ _ (pv 1) (@j4 _ _ _ _ _ (pv 2) u5 (by rfl)) (by rfl)))))
  (@j9 _ _ _ _ _ (c8 (o8 (zw (K:=K) (hu6 hr) rfl) (pv 3) z7 (p8 _)) (@j3 _ _ _ (@qc _ _ 6 _ _ _ _ sc_rinses.nd rfl (Or.inl rfl) (y9 (MD) (@zy _ _ _ _ (@j4 _ _ _ _ _ z7 u5 (by rfl))) (pv 1)) (by rfl) (.inl rfl))) m6)
  (@j9 _ _ _ _ _ (c8 (o8 (zw (K:=K) (hu6 hr) rfl) (pv 3) z7 (p8 _)) (@j3 _ _ _ (jk (i:=6) (N':=["number","row"]) (cap:=[none,some 0]) (k8 rfl rfl rfl) rfl sc_rinses.nd rfl rfl (@b9 _ K _ _ _ rfl (pv 6)) (λ_ _ _ _ _ _=>(k6 (i:=0) (by show (["number","row"]:List Str).Nodup;decide +kernel) rfl (Or.inl rfl))) (λ_ _ _ _ _ _=>p5) (λ_ _ _ _ _ _=>(y9 (Xr) (pv 0) (qb Ac hr (by decide) rfl (@j4 _ _ _ _ _ (pv 1) (@j4 _ _ _ _ _ z7 u5 (by rfl)) (by rfl))))))) m6)
  (@j3 _ _ _ (vb (jX (K:=K) rfl PySem.F.plainAttrs_list PySem.F.slot_list_append PySem.F.type_list_append UL (pv 4) (j4 (pv 6) u5))))))))
  (@j3 _ _ _ (w9 (pv 4)))))),
  (by repeat' first|infer_instance|(refine @Mi.instSemWSTSeqWSeq _ _ _ _ ?_ ?_)|(apply @Mi.instSemWSTForWForOfSemWIOfSemWG))⟩) PY
def twelve:List Str:=["b","ab","a","abc","ba","aa","z","abcdefgh","abcdefgi","zz","abcd","bb"]
theorem HB:twelve.Nodup:=by decide +kernel
theorem HC:∀ s∈twelve,vn s:=by
 have:∀ s∈twelve,(∀ c∈s.cps.toList,97<=c/\c<=122)/\1<=s.length/\s.length<=8:=by decide +kernel
 exact λs hs=>⟨(this s hs).1,(this s hs).2.1,(this s hs).2.2⟩
def Qb:List PV->Prop:=λxs=>∃ k:Nat,xs=[.at (.int k)]/\k<=12
def Qv:List PV->PV->Prop:=λxs y=>∃ ss:List Str,y = .lst (w5 ss)/\xs=[.at (.int ss.length)]/\ss.Nodup/\∀ s∈ss,vn s
abbrev Vf:Stmt:=top 61
abbrev WN (K:Fg):WS:=(wSeq (VS 2 (zI (q0 (dC (.str "b")) (q0 (dC (.str "ab")) (q0 (dC (.str "a")) (q0 (dC (.str "abc")) (q0 (dC (.str "ba")) (q0 (dC (.str "aa")) (q0 (dC (.str "z")) (q0 (dC (.str "abcdefgh")) (q0 (dC (.str "abcdefgi")) (q0 (dC (.str "zz")) (q0 (dC (.str "abcd")) (q0 (dC (.str "bb")) x6))))))))))))))
  (qy (jq [none,some 2,some 0] [0] (wIp (xT (q0 (q8 1) x6))) (v5 0) zU (wPop 1 (i9 2 (wP (z6 qq (q0 (q9 1) x6))))))))
theorem sc_names:v8 ["row","many","free"] ["row","many"] (z9 Vf):=y4
theorem PH:∀ xs,Qb xs->xs.length+1=(["row","many"]:List Str).length:=by rintro xs ⟨k,rfl,_⟩;rfl
theorem Lm {free got all:List Str}{j:Nat}(h:j<free.length)(p:(got++free).Perm all):((got++[free[j]])++free.eraseIdx j).Perm all:=by rw [uT];exact ((Jj h).append_left got).trans p
theorem PR {K:Fg}:∀ xs n,Qb xs->WN K (u9 n::xs.map .sh++List.replicate ((["row","many","free"]:List Str).length-(xs.length+1)) .no) (λ_=>False) λy ε=>Qv xs y/\xK 0 ε:=by
 rintro xs n ⟨k,rfl,hk⟩;have hl:lim=1000000:=rfl;have hB:=js;refine ⟨_,rfl,?_⟩;refine ⟨xt 0 k,wc rfl (by omega),rfl,by rw [ve];omega,?_⟩;refine QD (λrest ys ε=>∃(m:Int)(free got:List Str),ε=[.no,.ow (.lst (w5 free)),u9 m]/\ys=w5 got/\got.length+rest.length=k/\(got++free).Perm twelve) ?_ ?_ (xt 0 k) [] _ ⟨n,twelve,[],rfl,rfl,by rw [ve];simp,.refl _⟩
 ·rintro ys ε ⟨m,free,got,rfl,rfl,h1,h2⟩;have nd:(got++free).Nodup:=h2.nodup_iff.mpr HB;refine ⟨λ_=>⟨_,rfl⟩,⟨got,rfl,?_,(List.nodup_append.mp nd).1,λs hs=>HC s (h2.mem_iff.mp (uD _ hs))⟩,m,rfl⟩;simp at h1;rw [h1]
 ·rintro x rest ys ε ⟨m,free,got,rfl,rfl,h1,h2⟩;simp only [yA] at h1;have hlen:=h2.length_eq;rw [yJ,show twelve.length=12 from rfl] at hlen;refine ⟨_,rfl,?_⟩;have hf:0<free.length:=by omega
  have c0:0<=m % (((w5 free).length:Nat):Int):=yq _ (by rw [zb];omega);have c1:m % (((w5 free).length:Nat):Int)<(((w5 free).length:Nat):Int):=yt _ (by rw [zb];omega);refine ⟨⟨_,rfl⟩,⟨m,rfl⟩,_,rfl,m,(((w5 free).length:Nat):Int),rfl,rfl,xQ (by rw [zb];omega) (by rw [zb];omega),?_⟩;generalize hj:m % (((w5 free).length:Nat):Int)=j at c0 c1;rw [zb] at c1;have hjl:j.toNat<free.length:=by omega
  refine ⟨w5 free,j,.at (.str free[j.toNat]),rfl,rfl,c0,by rw [zb];exact c1,by rw [zb];omega,?_,?_⟩
  ·unfold w5;rw [yM,yW hjl];rfl
  ·refine ⟨m / (((w5 free).length:Nat):Int),free.eraseIdx j.toNat,got++[free[j.toNat]],?_,?_,?_,Lm hjl h2⟩
   ·show [MSlot.no,MSlot.ow (.lst ((w5 free).eraseIdx j.toNat)),u9 _]=_;unfold w5;rw [Zn]
   ·unfold w5;rw [yw];rfl
   ·rw [yJ];simp only [yA,List.length_nil];omega
theorem DZ (F:Fun K "_law_names" "_law_names" Vf f fd)(Ac:Fn P w K mg base 1 "_law_digit" ["row","many"] xZ)(Ad:mg "len"=none)(Ae:mg "range"=none):FnOk P w K mg base j6 2 f fd ["row","many"] (spD Qb Qv) :=
 okD (k:=1) (b:=WN K) F sc_names PH (λcdv A outer s H E hr=>⟨_,(@j9 _ _ _ _ _ (@qc _ _ 2 _ _ _ _ sc_names.nd rfl (Or.inr rfl) (@zy _ _ _ _ (@j4 _ _ _ _ _ xi (@j4 _ _ _ _ _ xi (@j4 _ _ _ _ _ xi (@j4 _ _ _ _ _ xi (@j4 _ _ _ _ _ xi (@j4 _ _ _ _ _ xi (@j4 _ _ _ _ _ xi (@j4 _ _ _ _ _ xi (@j4 _ _ _ _ _ xi (@j4 _ _ _ _ _ xi (@j4 _ _ _ _ _ xi (@j4 _ _ _ _ _ xi u5 (by rfl)) (by rfl)) (by rfl)) (by rfl)) (by rfl)) (by rfl)) (by rfl)) (by rfl)) (by rfl)) (by rfl)) (by rfl)) (by rfl))) (by rfl) (.inl rfl))
  (@j3 _ _ _ (w9 (n9 (N':=["k","free","row"]) (cap:=[none,some 2,some 0]) (k8 rfl rfl rfl) rfl (jj rfl Ae (@j4 _ _ _ _ _ (pv 1) u5 (by rfl))) (λ_ _ _ _ _ _=>(k6 (i:=0) (by show (["k","free","row"]:List Str).Nodup;decide +kernel) rfl (Or.inl rfl))) (λ_ _ _ _ _ _=>p5) (λ_ _ _ _ _ _=>(jX (K:=K) rfl PySem.F.plainAttrs_list PySem.F.slot_list_pop PySem.F.type_list_pop ZV (pv 1) (j4 (qb Ac hr (by decide) rfl (@j4 _ _ _ _ _ (pv 2) (@j4 _ _ _ _ _ (g9 (qi (K:=K) rfl) rfl Ad PySem.boot_len (@j4 _ _ _ _ _ (pv 1) u5 (by rfl))) u5 (by rfl)) (by rfl))) u5))))))),
  (by repeat' first|infer_instance|(refine @Mi.instSemWSTSeqWSeq _ _ _ _ ?_ ?_)|(apply @Mi.instSemWSTForWForOfSemWIOfSemWG))⟩) PR
def vZ:List PV->Prop:=λxs=>∃(s:Str)(h:Nat)(b:Bool),xs=[.at (.str s),.at (.int h),.at (.bl b)]/\vn s/\1<=h/\h<=4
def vo:List PV->PV->Prop:=λxs y=>∃(s:Str)(h:Nat)(b:Bool)(c:Cl),xs=[.at (.str s),.at (.int h),.at (.bl b)]/\y=c.pv/\c.name=s/\c.Ok h
abbrev JJ:Stmt:=top 62
abbrev Wq (K:Fg):WS:=(wSeq (p6 4 (qa jg (i9 0 (wP (dC (.int 40)))) (wP (dC (.int 6)))))
  (wSeq (qx (wPT (t0 (q9 3))) (p6 4 (qa qL (wP (x9 wW (q9 4) (x9 pPow (dC (.int 10)) (dC (.int 26))))) (i9 0 (wP (dC (.int 3)))))) qN)
  (qy (wg (y3 (wP (q8 1)) (y3 (i9 0 (wP (q8 2))) (y3 (qa qL (wP (dC (.int 1))) (xa 0 xF xM (y3 (wP (q8 3)) i8))) (y3 (wP (q8 4)) (y3 (qa qL (wP (dC (.int 1))) (i9 0 (wP (dC (.int 9))))) i8)))))))))
theorem sc_cloth:v8 ["row","name","hues","great","due"] ["row","name","hues","great"] (z9 JJ):=y4
theorem PD:∀ xs,vZ xs->xs.length+1=(["row","name","hues","great"]:List Str).length:=by rintro xs ⟨s,h,b,rfl,_⟩;rfl
theorem PN {K:Fg}:∀ xs n,vZ xs->Wq K (u9 n::xs.map .sh++List.replicate ((["row","name","hues","great","due"]:List Str).length-(xs.length+1)) .no) (λ_=>False) λy ε=>vo xs y/\xK 0 ε:=by
 rintro xs n ⟨s,h,b,rfl,hs,h1,h4⟩;have hB:=js;obtain ⟨t1,t2,t3⟩:=Ts;have rest:∀(n due:Int),-f6<=due->due<=f6->((qy (wg (y3 (wP (q8 1)) (y3 (i9 0 (wP (q8 2))) (y3 (qa qL (wP (dC (.int 1))) (xa 0 xF xM (y3 (wP (q8 3)) i8))) (y3 (wP (q8 4)) (y3 (qa qL (wP (dC (.int 1))) (i9 0 (wP (dC (.int 9))))) i8))))))):WS) [u9 n,.sh (.at (.str s)),.sh (.at (.int (h:Int))),.sh (.at (.bl b)),.sh (.at (.int due))] (λ_=>False) λy ε=>vo [.at (.str s),.at (.int h),.at (.bl b)] y/\xK 0 ε:=by intro n due d1 d2;refine ⟨_,rfl,⟨_,rfl⟩,_,rfl,n,(h:Int),rfl,rfl,xQ (by omega) (by omega),_,rfl,⟨_,rfl⟩,_,rfl,⟨_,rfl⟩,⟨b,rfl⟩,?_⟩;rintro y n' ⟨v,rfl,v0,v1⟩;have u0:0<=n % (h:Int):=yq _ (by omega);have u1:n % (h:Int)<h:=yt _ (by omega);obtain ⟨u,hu⟩:=uW u0;rw [hu] at u1 ⊢;have w0:0<=n' % 9:=yq _ (by decide);have w1:n' % 9<9:=yt _ (by decide);exact ⟨_,rfl,_,rfl,_,rfl,⟨_,rfl⟩,_,rfl,n',9,rfl,rfl,⟨by decide,by decide⟩,_,rfl,l5,⟨s,h,b,⟨s,u,1+v,due,1+n' % 9⟩,rfl,rfl,rfl,⟨hs,(show u<h by omega),(show (1:Int)<=1+v by omega),(show 1+v<=f6 by omega),d1,d2,(show (1:Int)<=1+n' % 9 by omega),(show 1+n' % 9<=f6 by omega)⟩⟩,_,rfl⟩
 refine ⟨⟨n,rfl⟩,_,rfl,n,40,rfl,rfl,⟨by decide,by decide⟩,_,rfl,_,rfl,?_⟩;have a0:0<=n % 40:=yq _ (by decide);have a1:n % 40<40:=yt _ (by decide);generalize n % 40=p at a0 a1 ⊢;generalize n / 40=n1;cases b with
 |false=>exact vk rfl (rest _ _ (by omega) (by omega))
 |true=>have b0:0<=n1 % 3:=yq _ (by decide);have b1:n1 % 3<3:=yt _ (by decide);have m1:(p-6)*T26<=34*T26:=uC (by omega) (by omega);have m2:-6*T26<=(p-6)*T26:=uC (by omega) (by omega);exact Qt rfl ⟨_,v9 rfl (v9 rfl rfl pow26) (ZW (a:=p-6) (b:=T26) (by omega) (by omega) (by omega) (by omega)),⟨_,rfl⟩,_,rfl,n1,3,rfl,rfl,⟨by decide,by decide⟩,_,rfl,rest _ _ (by omega) (by omega)⟩
theorem DC (F:Fun K "_law_cloth" "_law_cloth" JJ f fd)(Ac:Fn P w K mg base 1 "_law_digit" ["row","many"] xZ)(Aq:Fn P w K mg base 2 "_law_number" ["row","great"] (spD xF xM)):FnOk P w K mg base j6 3 f fd ["row","name","hues","great"] (spD vZ vo) :=
 okD (k:=2) (b:=Wq K) F sc_cloth PD (λcdv A outer s H E hr=>⟨_,(@j9 _ _ _ _ _ (@qc _ _ 4 _ _ _ _ sc_cloth.nd rfl (Or.inl rfl) (y9 (wV) (qb Ac hr (by decide) rfl (@j4 _ _ _ _ _ (pv 0) (@j4 _ _ _ _ _ z7 u5 (by rfl)) (by rfl))) z7) (by rfl) (.inl rfl))
  (@j9 _ _ _ _ _ (c8 (qw (K:=K) rfl (pv 3) (λ_=>rfl)) (@j3 _ _ _ (@qc _ _ 4 _ _ _ _ sc_cloth.nd rfl (Or.inl rfl) (y9 (xo (K:=K) rfl) (y9 (Xr) (pv 4) (y9 (vV) z7 z7)) (qb Ac hr (by decide) rfl (@j4 _ _ _ _ _ (pv 0) (@j4 _ _ _ _ _ z7 u5 (by rfl)) (by rfl)))) (by rfl) (.inl rfl))) m6)
  (@j3 _ _ _ (w9 (@xq _ _ _ _ _ (@j4 _ _ _ _ _ (pv 1) (@j4 _ _ _ _ _ (qb Ac hr (by decide) rfl (@j4 _ _ _ _ _ (pv 0) (@j4 _ _ _ _ _ (pv 2) u5 (by rfl)) (by rfl))) (@j4 _ _ _ _ _ (y9 (xo (K:=K) rfl) z7 (qb Aq hr (by decide) rfl (@j4 _ _ _ _ _ (pv 0) (@j4 _ _ _ _ _ (pv 3) u5 (by rfl)) (by rfl)))) (@j4 _ _ _ _ _ (pv 4) (@j4 _ _ _ _ _ (y9 (xo (K:=K) rfl) z7 (qb Ac hr (by decide) rfl (@j4 _ _ _ _ _ (pv 0) (@j4 _ _ _ _ _ z7 u5 (by rfl)) (by rfl)))) u5 (by rfl)) (by rfl)) (by rfl)) (by rfl)) (by rfl))))))),
  (by repeat' first|infer_instance|(refine @Mi.instSemWSTSeqWSeq _ _ _ _ ?_ ?_)|(apply @Mi.instSemWSTForWForOfSemWIOfSemWG))⟩) PN
def Qc (K:Fg):List PV->Prop:=λxs=>∃(ns:List Int)(m:Nat),xs=[scr K ns,.at (.int m)]/\ns.length<=63/\m<=10
def vp:List PV->PV->Prop:=λxs y=>∃(d:Dr)(z:PV)(m:Nat),xs=[z,.at (.int m)]/\y=d.pv/\d.Ok/\d.cls.length<=m
abbrev Vj:Stmt:=top 63
abbrev WR (K:Fg):WS:=(wSeq (XS 2 (va K) jv (y3 (wP (q8 0)) (y3 (wP (dC (.int 0))) i8)))
  (wSeq (p6 3 (qa pEq (i9 2 (wP (dC (.int 6)))) (wP (dC (.int 5)))))
  (wSeq (p6 4 (qa qL (wP (dC (.int 1))) (i9 2 (wP (dC (.int 4))))))
  (wSeq (p6 5 (xa 2 Qd vq (y3 (wP (q8 4)) (y3 (wP (q8 3)) i8))))
  (wSeq (XS 6 (va K) jv (y3 (wP (q8 0)) (y3 (wP (dC (.int 1))) i8)))
  (wSeq (p6 7 (xa 6 Qb Qv (y3 (i9 6 (wP (x9 qL (q9 1) (dC (.int 1))))) i8)))
  (wSeq (p6 8 (jq [none,some 6,some 4,some 3] [0] (wIp (u4 (q8 7))) (v5 0) zU (xa 1 vZ vo (y3 (wP (q8 0)) (y3 (wP (q8 2)) (y3 (wP (q8 3)) i8))))))
  (qy (wg (y3 (wP (q8 5)) (y3 (wP (q8 8)) (y3 (qa jg (i9 2 (wP (x9 qL (q9 4) (dC (.int 1))))) (wP (dC (.int 1)))) (y3 (xa 2 xF xM (y3 (wP (q8 3)) i8)) i8)))))))))))))
theorem sc_parts:v8 ["script","most","row","great","hues","rinses","more","names","cloths"] ["script","most"] (z9 Vj):=y4
theorem PK {K:Fg}:∀ xs,Qc K xs->xs.length=(["script","most"]:List Str).length:=by rintro xs ⟨ns,m,rfl,_⟩;rfl
theorem PX {K:Fg}:∀ xs,Qc K xs->WR K (xs.map .sh++List.replicate ((["script","most","row","great","hues","rinses","more","names","cloths"]:List Str).length-xs.length) .no) (λ_=>False) λy _=>vp xs y:=by
 rintro xs ⟨ns,mo,rfl,h63,hmo⟩;have hB:=js;obtain ⟨t1,t2,t3⟩:=Ts;have hlim:lim=1000000:=rfl;refine ⟨_,rfl,_,rfl,⟨ns,0,rfl,h63,by decide,by decide⟩,?_⟩;rintro y ⟨n,rfl⟩
 -- great,hues
 refine ⟨⟨n,rfl⟩,_,rfl,n,6,rfl,rfl,⟨by decide,by decide⟩,_,rfl,_,rfl,?_⟩;generalize c5 (.int (n % 6)) (.int 5)=great;generalize n / 6=n1;refine ⟨_,rfl,⟨_,rfl⟩,_,rfl,n1,4,rfl,rfl,⟨by decide,by decide⟩,_,rfl,?_⟩;have a0:0<=n1 % 4:=yq _ (by decide);have a1:n1 % 4<4:=yt _ (by decide);obtain ⟨h,hh⟩:=uW (show 0<=1+n1 % 4 by omega);generalize n1 / 4=n2;have hh1:1<=h:=by omega
 have hh4:h<=4:=by omega
 rw [hh];clear a0 a1 hh
 -- rinses
 refine ⟨⟨_,rfl⟩,_,rfl,_,rfl,⟨_,rfl⟩,⟨h,great,rfl,hh1,hh4⟩,?_⟩;rintro y n3 ⟨h',b',rss,e,rfl,hr⟩;have e':h'=h:=by injection e with e _;injection e with e;injection e with e;omega
 subst e';have fin:∀(n3 m:Int)(z:MSlot)(cs:List Cl),cs.length<=10->cs.length<=mo->(∀ c∈cs,c.Ok h')->(cs.map Cl.name).Nodup->((qy (wg (y3 (wP (q8 5)) (y3 (wP (q8 8)) (y3 (qa jg (i9 2 (wP (x9 qL (q9 4) (dC (.int 1))))) (wP (dC (.int 1)))) (y3 (xa 2 xF xM (y3 (wP (q8 3)) i8)) i8)))))):WS) [.sh (scr K ns),.sh (.at (.int (mo:Int))),u9 n3,.sh (.at (.bl great)),.sh (.at (.int (h':Int))),.sh (o4 rss),u9 m,z,.sh (.lst (cs.map Cl.pv))] (λ_=>False) λy _=>vp [scr K ns,.at (.int (mo:Int))] y:=by intro n3 m z cs l10 lmo g1 nd;have d0:0<=n3 % ((h':Int)+1):=yq _ (by omega);have d1:n3 % ((h':Int)+1)<(h':Int)+1:=yt _ (by omega);refine ⟨_,rfl,_,rfl,⟨n3,rfl⟩,_,rfl,n3,(h':Int)+1,rfl,rfl,xQ (by omega) (by omega),_,rfl,_,rfl,⟨_,rfl⟩,_,rfl,⟨_,rfl⟩,⟨great,rfl⟩,?_⟩;rintro y n4 ⟨ti,rfl,ti0,ti1⟩;exact ⟨by show 4<=lim;decide,⟨h',rss,cs,n3 % ((h':Int)+1)-1,ti⟩,scr K ns,mo,rfl,rfl,⟨hh1,hh4,hr,l10,g1,nd,(by show -1<=n3 % ((h':Int)+1)-1;omega),(by show n3 % ((h':Int)+1)-1<(h':Int);omega),ti0,(by show ti<60*f6;omega)⟩,lmo⟩
 -- cloths
 have cloths:∀(n3 q2:Int)(ss:List Str)(k:Nat),ss.length=k->k<=mo->ss.Nodup->(∀ s∈ss,vn s)->((wSeq (p6 8 (jq [none,some 6,some 4,some 3] [0] (wIp (u4 (q8 7))) (v5 0) zU (xa 1 vZ vo (y3 (wP (q8 0)) (y3 (wP (q8 2)) (y3 (wP (q8 3)) i8))))))
  (qy (wg (y3 (wP (q8 5)) (y3 (wP (q8 8)) (y3 (qa jg (i9 2 (wP (x9 qL (q9 4) (dC (.int 1))))) (wP (dC (.int 1)))) (y3 (xa 2 xF xM (y3 (wP (q8 3)) i8)) i8))))))):WS) [.sh (scr K ns),.sh (.at (.int (mo:Int))),u9 n3,.sh (.at (.bl great)),.sh (.at (.int (h':Int))),.sh (o4 rss),u9 q2,.sh (.lst (w5 ss)),.no] (λ_=>False) λy _=>vp [scr K ns,.at (.int (mo:Int))] y:=by
  intro n3 q2 ss k el hkm nd nok;refine ⟨_,rfl,rfl,by rw [zb];omega,?_⟩;refine QD (λrest ys ε=>∃(m:Int)(todo:List Str)(cs:List Cl),rest=w5 todo/\ε=[.no,u9 m,.sh (.at (.int (h':Int))),.sh (.at (.bl great))]/\ys=cs.map Cl.pv/\cs.map Cl.name++todo=ss/\(∀ c∈cs,c.Ok h')) ?_ ?_ _ [] _ ⟨q2,ss,[],rfl,rfl,rfl,rfl,(λ_ z=>nomatch z)⟩
  ·rintro ys ε ⟨m,todo,cs,e2,rfl,rfl,e3,g1⟩;have:todo=[]:=by
    cases todo with
    |nil=>rfl
    |cons _ _=>cases e2
   subst this;rw [yk] at e3;have cl:cs.length=k:=by rw [<- el,<- e3,yZ]
   refine ⟨(λ⟨y,e⟩=>nomatch (show some (MSlot.sh (scr K ns))=some (MSlot.ow y) from e)),?_⟩;exact fin n3 m _ cs (by omega) (by omega) g1 (by rw [e3];exact nd)
  ·rintro x rest ys ε ⟨m,todo,cs,e2,rfl,rfl,e3,g1⟩;cases todo with
   |nil=>cases e2
   |cons s todo =>
    have e2':x = .at (.str s)/\rest=w5 todo:=by injection e2 with e4 e5;exact ⟨e4,e5⟩
    obtain ⟨rfl,rfl⟩:=e2';have hs:s∈ss:=by rw [<- e3];exact yv _ yQ
    refine ⟨_,rfl,⟨_,rfl⟩,_,rfl,_,rfl,_,rfl,⟨_,rfl⟩,⟨s,h',great,rfl,nok s hs,hh1,hh4⟩,?_⟩;rintro y m2 ⟨s2,h2,b2,c,e4,rfl,en,ok⟩;injection e4 with e4 e5;injection e4 with e4;injection e4 with e4;injection e5 with e5 _;injection e5 with e5;injection e5 with e5;have e6:h'=h2:=by omega
    subst e4 e6;refine ⟨m2,todo,cs++[c],rfl,rfl,by rw [yw];rfl,by rw [yw,uT,<- e3];show _++(c.name::todo)=_;rw [en],λx hx=>?_⟩;rcases yu.mp hx with hx|hx
    ·exact g1 x hx
    ·rw [yR.mp hx];exact ok
 -- names
 refine ⟨_,rfl,_,rfl,⟨ns,1,rfl,h63,by decide,by decide⟩,?_⟩;rintro y ⟨q,rfl⟩;have c0:0<=q % ((mo:Int)+1):=yq _ (by omega);have c1:q % ((mo:Int)+1)<(mo:Int)+1:=yt _ (by omega);obtain ⟨k,hk⟩:=uW c0;refine ⟨⟨_,rfl⟩,⟨_,rfl⟩,_,rfl,q,(mo:Int)+1,rfl,rfl,xQ (by omega) (by omega),⟨_,rfl⟩,⟨k,by rw [hk],by omega⟩,?_⟩;rintro y q2 ⟨ss,rfl,e1,nd,nok⟩;have el:ss.length=k:=by injection e1 with e1 _;injection e1 with e1;injection e1 with e1;rw [hk] at e1;omega
 exact cloths n3 q2 ss k el (by omega) nd nok
theorem Md (F:Fun K "_law_parts" "_law_parts" Vj f fd)(E6:Fn P w K mg base 3 "_law_cloth" ["row","name","hues","great"] (spD vZ vo))(Ac:Fn P w K mg base 1 "_law_digit" ["row","many"] xZ)(Ey:Fn P w K mg base 2 "_law_names" ["row","many"] (spD Qb Qv))(Aq:Fn P w K mg base 2 "_law_number" ["row","great"] (spD xF xM))(Ek:Fn P w K mg base 3 "_law_rinses" ["row","hues","great"] (spD Qd vq))(A7:Fn P w K mg base 2 "_law_stream" ["script","k"] (spN (va K) jv)):FnOk P w K mg base j6 4 f fd ["script","most"] (spV (Qc K) vp) :=
 okV (k:=3) (b:=WR K) F sc_parts PK (λcdv A outer s H E hr=>⟨_,(@j9 _ _ _ _ _ (@qc _ _ 2 _ _ _ _ sc_parts.nd rfl (Or.inl rfl) (qb A7 hr (by decide) rfl (@j4 _ _ _ _ _ (pv 0) (@j4 _ _ _ _ _ z7 u5 (by rfl)) (by rfl))) (by rfl) (.inl rfl))
  (@j9 _ _ _ _ _ (@qc _ _ 3 _ _ _ _ sc_parts.nd rfl (Or.inr rfl) (xE (zw (K:=K) (hu6 hr) rfl) (qb Ac hr (by decide) rfl (@j4 _ _ _ _ _ (pv 2) (@j4 _ _ _ _ _ z7 u5 (by rfl)) (by rfl))) z7 (p8 _)) (by rfl) (.inl rfl))
  (@j9 _ _ _ _ _ (@qc _ _ 4 _ _ _ _ sc_parts.nd rfl (Or.inr rfl) (y9 (xo (K:=K) rfl) z7 (qb Ac hr (by decide) rfl (@j4 _ _ _ _ _ (pv 2) (@j4 _ _ _ _ _ z7 u5 (by rfl)) (by rfl)))) (by rfl) (.inl rfl))
  (@j9 _ _ _ _ _ (@qc _ _ 5 _ _ _ _ sc_parts.nd rfl (Or.inl rfl) (qb Ek hr (by decide) rfl (@j4 _ _ _ _ _ (pv 2) (@j4 _ _ _ _ _ (pv 4) (@j4 _ _ _ _ _ (pv 3) u5 (by rfl)) (by rfl)) (by rfl))) (by rfl) (.inl rfl))
  (@j9 _ _ _ _ _ (@qc _ _ 6 _ _ _ _ sc_parts.nd rfl (Or.inr rfl) (qb A7 hr (by decide) rfl (@j4 _ _ _ _ _ (pv 0) (@j4 _ _ _ _ _ z7 u5 (by rfl)) (by rfl))) (by rfl) (.inl rfl))
  (@j9 _ _ _ _ _ (@qc _ _ 7 _ _ _ _ sc_parts.nd rfl (Or.inl rfl) (qb Ey hr (by decide) rfl (@j4 _ _ _ _ _ (pv 6) (@j4 _ _ _ _ _ (qb Ac hr (by decide) rfl (@j4 _ _ _ _ _ (pv 6) (@j4 _ _ _ _ _ (y9 (xo (K:=K) rfl) (pv 1) z7) u5 (by rfl)) (by rfl))) u5 (by rfl)) (by rfl))) (by rfl) (.inl rfl))
  (@j9 _ _ _ _ _ (jk (i:=8) (N':=["name","more","hues","great"]) (cap:=[none,some 6,some 4,some 3]) (k8 rfl rfl rfl) rfl sc_parts.nd rfl rfl (@b9 _ K _ _ _ rfl (pv 7)) (λ_ _ _ _ _ _=>(k6 (i:=0) (by show (["name","more","hues","great"]:List Str).Nodup;decide +kernel) rfl (Or.inl rfl))) (λ_ _ _ _ _ _=>p5) (λ_ _ _ _ _ _=>(qb E6 hr (by decide) rfl (@j4 _ _ _ _ _ (pv 1) (@j4 _ _ _ _ _ (pv 0) (@j4 _ _ _ _ _ (pv 2) (@j4 _ _ _ _ _ (pv 3) u5 (by rfl)) (by rfl)) (by rfl)) (by rfl)))))
  (@j3 _ _ _ (w9 (@xq _ _ _ _ _ (@j4 _ _ _ _ _ (pv 5) (@j4 _ _ _ _ _ (pv 8) (@j4 _ _ _ _ _ (y9 (wV) (qb Ac hr (by decide) rfl (@j4 _ _ _ _ _ (pv 2) (@j4 _ _ _ _ _ (y9 (xo (K:=K) rfl) (pv 4) z7) u5 (by rfl)) (by rfl))) z7) (@j4 _ _ _ _ _ (qb Aq hr (by decide) rfl (@j4 _ _ _ _ _ (pv 2) (@j4 _ _ _ _ _ (pv 3) u5 (by rfl)) (by rfl))) u5 (by rfl)) (by rfl)) (by rfl)) (by rfl)))))))))))),
  (by repeat' first|infer_instance|(refine @Mi.instSemWSTSeqWSeq _ _ _ _ ?_ ?_)|(apply @Mi.instSemWSTForWForOfSemWIOfSemWG))⟩) PX
abbrev JX:Stmt:=top 4
abbrev WF:MS:=(y8 (qJ (z6 m4 (q0 (q9 0) (q0 (dC (.ty "int")) x6))) (QI (z6 m4 (q0 (q9 0) (q0 (dC (.ty "bool")) x6))))))
def je:List PV->Option PV:=k7 1 1 WF
theorem Nt:v8 ["thing"] ["thing"] (z9 JX):=y4
theorem DQ (F:Fun K "is_whole" "is_whole" JX f fd)(Ed:mg "bool"=none)(Ik:mg "int"=none)(Ab:mg "isinstance"=none):FnOk P w K mg base j6 1 f fd ["thing"] (j7 je) :=
 c7 (k:=0) (b:=WF) F Nt rfl λcdv A outer s H E hr=>⟨_,(j3 (w9 (zx (g9 (xP (K:=K) rfl) rfl Ab xO (aC (pv 0) (aW (xV (v:= .ty "int") rfl Ik Bm rfl)))) (zP (MU (g9 (xP (K:=K) rfl) rfl Ab xO (aC (pv 0) (aW (xV (v:= .ty "bool") rfl Ed Yo rfl))))))))),
  inferInstance⟩
abbrev Ve:Stmt:=top 7
abbrev WM:MS:=(y8 (x9 j8 (q9 0) (dC (.int 0))))
def xn:List PV->Option PV:=k7 1 1 WM
theorem Ny:v8 ["cloth"] ["cloth"] (z9 Ve):=y4
theorem DY (F:Fun K "name_of" "name_of" Ve f fd):FnOk P w K mg base j6 1 f fd ["cloth"] (j7 xn) :=
 c7 (k:=0) (b:=WM) F Ny rfl λcdv A outer s H E hr=>⟨_,(j3 (w9 (iW (K:=K) rfl (pv 0) z7))),
  inferInstance⟩
abbrev JP:Stmt:=top 8
abbrev Wv:MS:=(y8 (x9 j8 (q9 0) (dC (.int 1))))
def zt:List PV->Option PV:=k7 1 1 Wv
theorem Nk:v8 ["cloth"] ["cloth"] (z9 JP):=y4
theorem DI (F:Fun K "hue_of" "hue_of" JP f fd):FnOk P w K mg base j6 1 f fd ["cloth"] (j7 zt) :=
 c7 (k:=0) (b:=Wv) F Nk rfl λcdv A outer s H E hr=>⟨_,(j3 (w9 (iW (K:=K) rfl (pv 0) z7))),
  inferInstance⟩
abbrev Vb:Stmt:=top 9
abbrev WK:MS:=(y8 (x9 j8 (q9 0) (dC (.int 2))))
def ZQ:List PV->Option PV:=k7 1 1 WK
theorem Nw:v8 ["cloth"] ["cloth"] (z9 Vb):=y4
theorem DV (F:Fun K "length_of" "length_of" Vb f fd):FnOk P w K mg base j6 1 f fd ["cloth"] (j7 ZQ) :=
 c7 (k:=0) (b:=WK) F Nw rfl λcdv A outer s H E hr=>⟨_,(j3 (w9 (iW (K:=K) rfl (pv 0) z7))),
  inferInstance⟩
abbrev JM:Stmt:=top 10
abbrev Ws:MS:=(y8 (x9 j8 (q9 0) (dC (.int 3))))
def wH:List PV->Option PV:=k7 1 1 Ws
theorem Ni:v8 ["cloth"] ["cloth"] (z9 JM):=y4
theorem DF (F:Fun K "due_of" "due_of" JM f fd):FnOk P w K mg base j6 1 f fd ["cloth"] (j7 wH) :=
 c7 (k:=0) (b:=Ws) F Ni rfl λcdv A outer s H E hr=>⟨_,(j3 (w9 (iW (K:=K) rfl (pv 0) z7))),
  inferInstance⟩
abbrev Vt:Stmt:=top 11
abbrev Yc:MS:=(y8 (x9 j8 (q9 0) (dC (.int 4))))
def ZR:List PV->Option PV:=k7 1 1 Yc
theorem NF:v8 ["cloth"] ["cloth"] (z9 Vt):=y4
theorem Ms (F:Fun K "weight_of" "weight_of" Vt f fd):FnOk P w K mg base j6 1 f fd ["cloth"] (j7 ZR) :=
 c7 (k:=0) (b:=Yc) F NF rfl λcdv A outer s H E hr=>⟨_,(j3 (w9 (iW (K:=K) rfl (pv 0) z7))),
  inferInstance⟩
abbrev JS:Stmt:=top 12
abbrev Wz:MS:=(y8 (qJ (z6 je (q0 (q8 0) x6)) (x9 pGe (q9 0) (q9 1))))
def zu:List PV->Option PV:=k7 2 2 Wz
theorem Nn:v8 ["thing","least"] ["thing","least"] (z9 JS):=y4
theorem DL (F:Fun K "is_from" "is_from" JS f fd)(Aj:Fn P w K mg base 1 "is_whole" ["thing"] (j7 je)):FnOk P w K mg base j6 2 f fd ["thing","least"] (j7 zu) :=
 c7 (k:=1) (b:=Wz) F Nn rfl λcdv A outer s H E hr=>⟨_,(j3 (w9 (zx (fW Aj hr (aW (pv 0))) (zP (xE (Xo) (pv 0) (pv 1) (p8 _)))))),
  inferInstance⟩
abbrev JT:Stmt:=top 3
abbrev WB:MS:=(k5 (m3 (dOr (i4 (t0 (z6 m4 (q0 (q9 0) (q0 (dC (.ty "str")) x6))))) (i4 (dT (jF pLe pLe (dC (.int 1)) (z6 qq (q0 (q9 0) x6)) (dC (.int 8)))))) (y8 (dC (.bl false))) r6)
  (y8 (z6 xC (q0 (u7 [none] [0] (dItS (q8 0)) (v5 0) u8 (jF pLeS pLeS (dC (.str "a")) (q9 0) (dC (.str "z")))) x6))))
def Xg:List PV->Option PV:=k7 1 1 WB
theorem No:v8 ["thing"] ["thing"] (z9 JT):=y4
theorem DM (F:Fun K "is_name" "is_name" JT f fd)(An:mg "all"=none)(Ab:mg "isinstance"=none)(Ad:mg "len"=none)(Et:mg "str"=none)(A3:mg "LONGEST_NAME"=some (.int 8 A5)):FnOk P w K mg base j6 1 f fd ["thing"] (j7 Xg) :=
 c7 (k:=0) (b:=WB) F No rfl λcdv A outer s H E hr=>⟨_,(j9 (c8 (PW.pt (jm (qH (qw (K:=K) rfl (g9 (xP (K:=K) rfl) rfl Ab xO (aC (pv 0) (aW (xV (v:= .ty "str") rfl Et Yq rfl)))) (λ_=>rfl))) (vc (qH (Gp (Xp) (Xp) z7 (g9 (qi (K:=K) rfl) rfl Ad PySem.boot_len (aW (pv 0))) (Xt (v:= .int 8) rfl A3 ⟨_,rfl⟩)))))) (j3 (w9 xD)) m6)
  (j3 (w9 (g9 (jC (K:=K) rfl rfl) rfl An jA (aW (n9 (N':=["sign"]) (cap:=[none]) (k8 rfl rfl rfl) rfl (Ld (pv 0)) (λ_ _ _ _ _ _=>(k6 (i:=0) (by show (["sign"]:List Str).Nodup;decide +kernel) rfl (Or.inl rfl))) (λ_ _ _ _ _ _=>p5) (λ_ _ _ _ _ _=>(MN (UV) (UV) xi (pv 0) xi)))))))),
  inferInstance⟩
abbrev JR:Stmt:=top 13
abbrev Wx:MS:=(k5 (m3 (dOr (i4 (t0 (z6 m4 (q0 (q9 0) (q0 (dC (.ty "tuple")) x6))))) (dT (x9 pNe (z6 qq (q0 (q9 0) x6)) (dC (.int 5))))) (y8 (dC (.bl false))) r6)
  (k5 (m3 (dOr (i4 (t0 (z6 Xg (q0 (z6 xn (q0 (q8 0) x6)) x6)))) (dOr (i4 (t0 (z6 zu (q0 (z6 zt (q0 (q8 0) x6)) (q0 (dC (.int 0)) x6))))) (dT (x9 pGe (z6 zt (q0 (q8 0) x6)) (q9 1))))) (y8 (dC (.bl false))) r6)
  (y8 (qJ (z6 zu (q0 (z6 ZQ (q0 (q8 0) x6)) (q0 (dC (.int 1)) x6))) (qJ (z6 je (q0 (z6 wH (q0 (q8 0) x6)) x6)) (z6 zu (q0 (z6 ZR (q0 (q8 0) x6)) (q0 (dC (.int 1)) x6))))))))
def Xf:List PV->Option PV:=k7 2 2 Wx
theorem Nm:v8 ["thing","hues"] ["thing","hues"] (z9 JR):=y4
theorem DK (F:Fun K "is_cloth" "is_cloth" JR f fd)(B6:Fn P w K mg base 1 "due_of" ["cloth"] (j7 wH))(Ag:Fn P w K mg base 1 "hue_of" ["cloth"] (j7 zt))(Am:Fn P w K mg base 2 "is_from" ["thing","least"] (j7 zu))(Ee:Fn P w K mg base 1 "is_name" ["thing"] (j7 Xg))(Aj:Fn P w K mg base 1 "is_whole" ["thing"] (j7 je))(B8:Fn P w K mg base 1 "length_of" ["cloth"] (j7 ZQ))(Af:Fn P w K mg base 1 "name_of" ["cloth"] (j7 xn))(D1:Fn P w K mg base 1 "weight_of" ["cloth"] (j7 ZR))(Ab:mg "isinstance"=none)(Ad:mg "len"=none)(E4:mg "tuple"=none)(Ez:mg "PARTS"=some (.int 5 E1)):FnOk P w K mg base j6 3 f fd ["thing","hues"] (j7 Xf) :=
 c7 (k:=2) (b:=Wx) F Nm rfl λcdv A outer s H E hr=>⟨_,(j9 (c8 (PW.pt (jm (qH (qw (K:=K) rfl (g9 (xP (K:=K) rfl) rfl Ab xO (aC (pv 0) (aW (xV (v:= .ty "tuple") rfl E4 Bo rfl)))) (λ_=>rfl))) (vc (o8 (wU (K:=K) (hu6 hr) rfl) (g9 (qi (K:=K) rfl) rfl Ad PySem.boot_len (aW (pv 0))) (Xt (v:= .int 5) rfl Ez ⟨_,rfl⟩) (p8 _))))) (j3 (w9 xD)) m6)
  (j9 (c8 (PW.pt (jm (qH (qw (K:=K) rfl (fW Ee hr (aW (fW Af hr (aW (pv 0))))) (λ_=>rfl))) (jm (qH (qw (K:=K) rfl (fW Am hr (aC (fW Ag hr (aW (pv 0))) (aW z7))) (λ_=>rfl))) (vc (o8 (Xo) (fW Ag hr (aW (pv 0))) (pv 1) (p8 _)))))) (j3 (w9 xD)) m6)
  (j3 (w9 (zx (fW Am hr (aC (fW B8 hr (aW (pv 0))) (aW z7))) (zx (fW Aj hr (aW (fW B6 hr (aW (pv 0))))) (zP (fW Am hr (aC (fW D1 hr (aW (pv 0))) (aW z7)))))))))),
  inferInstance⟩
abbrev JW:Stmt:=top 41
abbrev WE:MS:=(k5 (m3 (dOr (i4 (t0 (z6 m4 (q0 (q9 0) (q0 (dC (.ty "list")) x6))))) (dT (x9 pNe (z6 qq (q0 (q9 0) x6)) (q9 1)))) (y8 (dC (.bl false))) r6)
  (y8 (z6 xC (q0 (u7 [none] [0] (u4 (q8 0)) (v5 0) u8 (qJ (z6 je (q0 (q8 0) x6)) (x9 pGe (q9 0) (dC (.int 0))))) x6))))
def wK:List PV->Option PV:=k7 2 2 WE
theorem Nr:v8 ["row","hues"] ["row","hues"] (z9 JW):=y4
theorem DP (F:Fun K "is_rinse_row" "is_rinse_row" JW f fd)(Aj:Fn P w K mg base 1 "is_whole" ["thing"] (j7 je))(An:mg "all"=none)(Ab:mg "isinstance"=none)(Ad:mg "len"=none)(Ah:mg "list"=none):FnOk P w K mg base j6 2 f fd ["row","hues"] (j7 wK) :=
 c7 (k:=1) (b:=WE) F Nr rfl λcdv A outer s H E hr=>⟨_,(j9 (c8 (PW.pt (jm (qH (qw (K:=K) rfl (g9 (xP (K:=K) rfl) rfl Ab xO (aC (pv 0) (aW (xV (v:= .ty "list") rfl Ah jB rfl)))) (λ_=>rfl))) (vc (o8 (wU (K:=K) (hu6 hr) rfl) (g9 (qi (K:=K) rfl) rfl Ad PySem.boot_len (aW (pv 0))) (pv 1) (p8 _))))) (j3 (w9 xD)) m6)
  (j3 (w9 (g9 (jC (K:=K) rfl rfl) rfl An jA (aW (n9 (N':=["number"]) (cap:=[none]) (k8 rfl rfl rfl) rfl (@b9 _ K _ _ _ rfl (pv 0)) (λ_ _ _ _ _ _=>(k6 (i:=0) (by show (["number"]:List Str).Nodup;decide +kernel) rfl (Or.inl rfl))) (λ_ _ _ _ _ _=>p5) (λ_ _ _ _ _ _=>(zx (fW Aj hr (aW (pv 0))) (zP (xE (Xo) (pv 0) z7 (p8 _))))))))))),
  inferInstance⟩
abbrev JG:Stmt:=top 42
abbrev Wn:MS:=(k5 (m3 (i4 (t0 (z6 m4 (q0 (q9 0) (q0 (dC (.ty "list")) x6))))) xc r6)
  (k5 (xf 1 (x9 jg (z6 qq (q0 (q9 0) x6)) (dC (.int 1))))
  (k5 (m3 (i4 (dT (jF pLe pLe (dC (.int 1)) (q9 1) (dC (.int 4))))) xc r6)
  (m3 (i4 (t0 (z6 xC (q0 (u7 [none,some 1] [0] (u4 (q8 0)) (v5 0) u8 (z6 wK (q0 (q8 0) (q0 (q8 1) x6)))) x6)))) xc r6))))
def Xd:List PV->Option PV:=k7 2 1 Wn
theorem sc_check_rinses:v8 ["rinses","hues"] ["rinses"] (z9 JG):=y4
theorem Dz (F:Fun K "check_rinses" "check_rinses" JG f fd)(A4:Fn P w K mg base 2 "is_rinse_row" ["row","hues"] (j7 wK))(An:mg "all"=none)(Ab:mg "isinstance"=none)(Ad:mg "len"=none)(Ah:mg "list"=none)(D3:mg "MOST_HUES"=some (.int 4 D2)):FnOk P w K mg base j6 3 f fd ["rinses"] (j7 Xd) :=
 c7 (k:=2) (b:=Wn) F sc_check_rinses rfl λcdv A outer s H E hr=>⟨_,(j9 (c8 (qH (qw (K:=K) rfl (g9 (xP (K:=K) rfl) rfl Ab xO (aC (pv 0) (aW (xV (v:= .ty "list") rfl Ah jB rfl)))) (λ_=>rfl))) (j3 xY) m6)
  (j9 (sW 1 sc_check_rinses.nd (y9 (wV) (g9 (qi (K:=K) rfl) rfl Ad PySem.boot_len (aW (pv 0))) z7))
  (j9 (c8 (qH (Gp (Xp) (Xp) z7 (pv 1) (Xt (v:= .int 4) rfl D3 ⟨_,rfl⟩))) (j3 xY) m6)
  (j3 (c8 (qH (qw (K:=K) rfl (g9 (jC (K:=K) rfl rfl) rfl An jA (aW (n9 (N':=["row","hues"]) (cap:=[none,some 1]) (k8 rfl rfl rfl) rfl (@b9 _ K _ _ _ rfl (pv 0)) (λ_ _ _ _ _ _=>(k6 (i:=0) (by show (["row","hues"]:List Str).Nodup;decide +kernel) rfl (Or.inl rfl))) (λ_ _ _ _ _ _=>p5) (λ_ _ _ _ _ _=>(fW A4 hr (aC (pv 0) (aW (pv 1)))))))) (λ_=>rfl))) (j3 xY) m6))))),
  inferInstance⟩
abbrev Vn:Stmt:=top 43
abbrev WX:MS:=(y8 (u7 [none,none] [0,1] (jG (q0 (q8 0) x6)) (zr 2 (qv (v5 0) (qv (v5 1) zq))) u8 (f9 (q0 (q8 1) (q0 (zI (q0 (q8 0) x6)) x6)))))
def wO:List PV->Option PV:=qA 1 1 WX
theorem NB:v8 ["row"] ["row"] (z9 Vn):=y4
theorem Mj (F:Fun K "straight_ways" "straight_ways" Vn f fd)(Ao:mg "enumerate"=none):FnOk P w K mg base j6 1 f fd ["row"] (m7 wO) :=
 okO (k:=0) (b:=WX) F NB rfl λcdv A outer s H E hr=>⟨_,(j3 (w9 (n9 (N':=["hue","number"]) (cap:=[none,none]) (k8 rfl rfl rfl) rfl (Gd (K:=K) rfl rfl Ao (aW (pv 0))) (λ_ _ _ _ _ _=>(Xx (K:=K) (n:=2) rfl rfl (ji (k6 (i:=0) (by show (["hue","number"]:List Str).Nodup;decide +kernel) rfl (Or.inl rfl)) (ji (k6 (i:=1) (by show (["hue","number"]:List Str).Nodup;decide +kernel) rfl (Or.inl rfl)) Xy)))) (λ_ _ _ _ _ _=>p5) (λ_ _ _ _ _ _=>(@xq _ _ _ _ _ (aC (pv 1) (aW (@zy _ _ _ _ (aW (pv 0)))))))))),
  inferInstance⟩
abbrev JY:Stmt:=top 44
abbrev WG:MS:=(y8 (f9 (q0 (x9 qL (x9 j8 (q9 0) (dC (.int 0))) (x9 j8 (q9 1) (dC (.int 0)))) (q0 (x9 qL (x9 j8 (q9 0) (dC (.int 1))) (x9 j8 (q9 1) (dC (.int 1)))) x6))))
def wL:List PV->Option PV:=k7 2 2 WG
theorem Nu:v8 ["way","onward"] ["way","onward"] (z9 JY):=y4
theorem DR (F:Fun K "joined" "joined" JY f fd):FnOk P w K mg base j6 1 f fd ["way","onward"] (j7 wL) :=
 c7 (k:=0) (b:=WG) F Nu rfl λcdv A outer s H E hr=>⟨_,(j3 (w9 (@xq _ _ _ _ _ (aC (y9 (xo (K:=K) rfl) (iW (K:=K) rfl (pv 0) z7) (iW (K:=K) rfl (pv 1) z7)) (aW (y9 (xo (K:=K) rfl) (iW (K:=K) rfl (pv 0) z7) (iW (K:=K) rfl (pv 1) z7))))))),
  inferInstance⟩
abbrev Vc:Stmt:=top 45
abbrev WL:MS:=(y8 (dIf (dT (x9 pLt (x9 j8 (q9 1) (dC (.int 0))) (x9 j8 (q9 0) (dC (.int 0))))) (q8 1) (q8 0)))
def wM:List PV->Option PV:=k7 2 2 WL
theorem Nx:v8 ["way","other"] ["way","other"] (z9 Vc):=y4
theorem DW (F:Fun K "lesser" "lesser" Vc f fd):FnOk P w K mg base j6 1 f fd ["way","other"] (j7 wM) :=
 c7 (k:=0) (b:=WL) F Nx rfl λcdv A outer s H E hr=>⟨_,(j3 (w9 (Ga (o8 (Xq) (iW (K:=K) rfl (pv 1) z7) (iW (K:=K) rfl (pv 0) z7) (p8 _)) (pv 1) (pv 0)))),
  inferInstance⟩
abbrev Vs:Stmt:=top 46
abbrev Yb:MS:=(y8 (u7 [none,none,some 0,some 1] [0,1] (jH (q0 (q8 0) (q0 (q8 2) x6))) (zr 2 (qv (v5 0) (qv (v5 1) zq))) u8 (z6 wM (q0 (q8 0) (q0 (z6 wL (q0 (x9 j8 (q9 2) (q9 3)) (q0 (q8 1) x6))) x6)))))
def vS:List PV->Option PV:=qA 3 3 Yb
theorem NE:v8 ["ways","hue","onward"] ["ways","hue","onward"] (z9 Vs):=y4
theorem Mr (F:Fun K "ways_through" "ways_through" Vs f fd)(En:Fn P w K mg base 1 "joined" ["way","onward"] (j7 wL))(El:Fn P w K mg base 1 "lesser" ["way","other"] (j7 wM))(Es:mg "zip"=none):FnOk P w K mg base j6 2 f fd ["ways","hue","onward"] (m7 vS) :=
 okO (k:=1) (b:=Yb) F NE rfl λcdv A outer s H E hr=>⟨_,(j3 (w9 (n9 (N':=["way","more","ways","hue"]) (cap:=[none,none,some 0,some 1]) (k8 rfl rfl rfl) rfl (Ge (K:=K) rfl rfl Es (aC (pv 0) (aW (pv 2)))) (λ_ _ _ _ _ _=>(Xx (K:=K) (n:=2) rfl rfl (ji (k6 (i:=0) (by show (["way","more","ways","hue"]:List Str).Nodup;decide +kernel) rfl (Or.inl rfl)) (ji (k6 (i:=1) (by show (["way","more","ways","hue"]:List Str).Nodup;decide +kernel) rfl (Or.inl rfl)) Xy)))) (λ_ _ _ _ _ _=>p5) (λ_ _ _ _ _ _=>(fW El hr (aC (pv 0) (aW (fW En hr (aC (iW (K:=K) rfl (pv 2) (pv 3)) (aW (pv 1))))))))))),
  inferInstance⟩
abbrev Va:Stmt:=top 47
abbrev WJ:MS:=(k5 (xf 1 (u7 [none] [0] (u4 (q8 0)) (v5 0) u8 (z6 wO (q0 (q8 0) x6))))
  (k5 (qS (xT (q0 (x9 jg (z6 qq (q0 (q9 0) x6)) (dC (.int 1))) x6)) (v5 2) (k5 (xf 3 (x9 j8 (q9 1) (q9 2)))
  (xf 1 (u7 [none,some 2,some 3] [0] (u4 (q8 1)) (v5 0) u8 (z6 vS (q0 (q8 0) (q0 (q8 1) (q0 (q8 2) x6))))))))
  (y8 (q8 1))))
def Xi:List PV->Option PV:=k7 4 1 WJ
theorem sc_least_ways:v8 ["rinses","table","hue","onward"] ["rinses"] (z9 Va):=y4
theorem DU (F:Fun K "least_ways" "least_ways" Va f fd)(Ay:Fn P w K mg base 1 "straight_ways" ["row"] (m7 wO))(A8:Fn P w K mg base 2 "ways_through" ["ways","hue","onward"] (m7 vS))(Ad:mg "len"=none)(Ae:mg "range"=none):FnOk P w K mg base j6 3 f fd ["rinses"] (j7 Xi) :=
 c7 (k:=2) (b:=WJ) F sc_least_ways rfl λcdv A outer s H E hr=>⟨_,(j9 (jk (i:=1) (N':=["row"]) (cap:=[none]) (k8 rfl rfl rfl) rfl sc_least_ways.nd rfl rfl (@b9 _ K _ _ _ rfl (pv 0)) (λ_ _ _ _ _ _=>(k6 (i:=0) (by show (["row"]:List Str).Nodup;decide +kernel) rfl (Or.inl rfl))) (λ_ _ _ _ _ _=>p5) (λ_ _ _ _ _ _=>(fW Ay hr (aW (pv 0)))))
  (j9 (xr PassesOwn.never rfl (jj rfl Ae (aW (y9 (wV) (g9 (qi (K:=K) rfl) rfl Ad PySem.boot_len (aW (pv 0))) z7))) (gW 2 sc_least_ways.nd)
   (j9 (sW 3 sc_least_ways.nd (iW (K:=K) rfl (pv 1) (pv 2)))
  (j3 (jk (i:=1) (N':=["ways","hue","onward"]) (cap:=[none,some 2,some 3]) (k8 rfl rfl rfl) rfl sc_least_ways.nd rfl rfl (@b9 _ K _ _ _ rfl (pv 1)) (λ_ _ _ _ _ _=>(k6 (i:=0) (by show (["ways","hue","onward"]:List Str).Nodup;decide +kernel) rfl (Or.inl rfl))) (λ_ _ _ _ _ _=>p5) (λ_ _ _ _ _ _=>(fW A8 hr (aC (pv 0) (aC (pv 1) (aW (pv 2))))))))))
  (j3 (w9 (pv 1))))),
  inferInstance⟩
abbrev Vo:Stmt:=top 48
abbrev WY:MS:=(y8 (u7 [none] [0] (u4 (q8 0)) (v5 0) u8 (x9 j8 (q9 0) (dC (.int 0)))))
def Xk:List PV->Option PV:=qA 1 1 WY
theorem NC:v8 ["ways"] ["ways"] (z9 Vo):=y4
theorem Mn (F:Fun K "sums_of" "sums_of" Vo f fd):FnOk P w K mg base j6 1 f fd ["ways"] (m7 Xk) :=
 okO (k:=0) (b:=WY) F NC rfl λcdv A outer s H E hr=>⟨_,(j3 (w9 (n9 (N':=["way"]) (cap:=[none]) (k8 rfl rfl rfl) rfl (@b9 _ K _ _ _ rfl (pv 0)) (λ_ _ _ _ _ _=>(k6 (i:=0) (by show (["way"]:List Str).Nodup;decide +kernel) rfl (Or.inl rfl))) (λ_ _ _ _ _ _=>p5) (λ_ _ _ _ _ _=>(iW (K:=K) rfl (pv 0) z7))))),
  inferInstance⟩
abbrev JZ:Stmt:=top 49
abbrev WI:MS:=(k5 (zZ (z6 Xd (q0 (q8 0) x6)))
  (y8 (u7 [none] [0] (u4 (z6 Xi (q0 (q8 0) x6))) (v5 0) u8 (z6 Xk (q0 (q8 0) x6)))))
def Xh:List PV->Option PV:=qA 1 1 WI
theorem Nv:v8 ["rinses"] ["rinses"] (z9 JZ):=y4
theorem DT (F:Fun K "least_rinses" "least_rinses" JZ f fd)(A6:Fn P w K mg base 3 "check_rinses" ["rinses"] (j7 Xd))(B7:Fn P w K mg base 3 "least_ways" ["rinses"] (j7 Xi))(Ef:Fn P w K mg base 1 "sums_of" ["ways"] (m7 Xk)):FnOk P w K mg base j6 4 f fd ["rinses"] (m7 Xh) :=
 okO (k:=3) (b:=WI) F Nv rfl λcdv A outer s H E hr=>⟨_,(j9 (vb (fW A6 hr (aW (pv 0))))
  (j3 (w9 (n9 (N':=["ways"]) (cap:=[none]) (k8 rfl rfl rfl) rfl (@b9 _ K _ _ _ rfl (fW B7 hr (aW (pv 0)))) (λ_ _ _ _ _ _=>(k6 (i:=0) (by show (["ways"]:List Str).Nodup;decide +kernel) rfl (Or.inl rfl))) (λ_ _ _ _ _ _=>p5) (λ_ _ _ _ _ _=>(fW Ef hr (aW (pv 0)))))))),
  inferInstance⟩
abbrev JH:Stmt:=top 52
abbrev Wo:MS:=(k5 (m3 (zH (dT (x9 Jd (q9 0) (dC .non))) (i4 (zH (t0 (z6 zu (q0 (q8 0) (q0 (dUn pNeg (dC (.int 1))) x6)))) (dT (x9 pLt (q9 0) (q9 2)))))) xc r6)
  (m3 (i4 (t0 (z6 zu (q0 (q8 1) (q0 (dC (.int 0)) x6))))) xc r6))
def Xe:List PV->Option PV:=k7 3 3 Wo
theorem Nf:v8 ["last","time","hues"] ["last","time","hues"] (z9 JH):=y4
theorem DA (F:Fun K "check_start" "check_start" JH f fd)(Am:Fn P w K mg base 2 "is_from" ["thing","least"] (j7 zu)):FnOk P w K mg base j6 3 f fd ["last","time","hues"] (j7 Xe) :=
 c7 (k:=2) (b:=Wo) F Nf rfl λcdv A outer s H E hr=>⟨_,(j9 (c8 (PW.pt (XE (o8 (MC) (pv 0) wZ (p8 _)) (XF (qH (PW.pt (XE (qw (K:=K) rfl (fW Am hr (aC (pv 0) (aW (Gc Kv z7)))) (λ_=>rfl)) (XF (o8 (Xq) (pv 0) (pv 2) (p8 _))))))))) (j3 xY) m6)
  (j3 (c8 (qH (qw (K:=K) rfl (fW Am hr (aC (pv 1) (aW z7))) (λ_=>rfl))) (j3 xY) m6))),
  inferInstance⟩
abbrev JF:Stmt:=top 53
abbrev Wm:MS:=(k5 (m3 (dT (x9 pGt (z6 qq (q0 (q9 0) x6)) (dC (.int 10)))) xc r6)
  (k5 (vC 2 YK)
  (qS (u4 (q8 0)) (v5 3) (k5 (m3 (i4 (t0 (z6 Xf (q0 (q8 3) (q0 (q8 1) x6))))) xc r6)
  (k5 (m3 (dT (dDIn (z6 xn (q0 (q8 3) x6)) (q9 2))) xc r6)
  (dPut 2 (z6 xn (q0 (q8 3) x6)) (dC (.bl true))))))))
def Xc:List PV->Option PV:=k7 4 2 Wm
theorem sc_check_cloths:v8 ["cloths","hues","seen","cloth"] ["cloths","hues"] (z9 JF):=y4
theorem Dy (F:Fun K "check_cloths" "check_cloths" JF f fd)(D9:Fn P w K mg base 3 "is_cloth" ["thing","hues"] (j7 Xf))(Af:Fn P w K mg base 1 "name_of" ["cloth"] (j7 xn))(Ad:mg "len"=none)(B3:mg "MOST_CLOTHS"=some (.int 10 B4)):FnOk P w K mg base j6 4 f fd ["cloths","hues"] (j7 Xc) :=
 c7 (k:=3) (b:=Wm) F sc_check_cloths rfl λcdv A outer s H E hr=>⟨_,(j9 (c8 (o8 (wS) (g9 (qi (K:=K) rfl) rfl Ad PySem.boot_len (aW (pv 0))) (Xt (v:= .int 10) rfl B3 ⟨_,rfl⟩) (p8 _)) (j3 xY) m6)
  (j9 (sW 2 sc_check_cloths.nd UZ)
  (j3 (xr PassesOwn.never rfl (@b9 _ K _ _ _ rfl (pv 0)) (gW 3 sc_check_cloths.nd)
   (j9 (c8 (qH (qw (K:=K) rfl (fW D9 hr (aC (pv 3) (aW (pv 1)))) (λ_=>rfl))) (j3 xY) m6)
  (j9 (c8 (Gq (MJ (xg hr) (fW Af hr (aW (pv 3))) (pv 2))) (j3 xY) m6)
  (j3 (Go (xg hr) (pv 2) (fW Af hr (aW (pv 3))) xD rfl)))))))),
  inferInstance⟩
abbrev JB:Stmt:=vJ (top 54) 1
abbrev Wg (Aa:Addr):MS:=(y8 (x9 jg (z6 qq (q0 (xS Aa "least" (q8 0)) x6)) (dC (.int 1))))
def zN (Aa:Addr):List PV->Option PV:=k7 1 1 (Wg Aa)
theorem LZ:v8 ["self"] ["self"] (z9 JB):=y4
theorem Ds (F:Fun K "hues" "Works.hues" JB f fd)(Ad:mg "len"=none)[ze K Aa][NoA K Aa "least"]:FnOk P w K mg base j6 1 f fd ["self"] (j7 (zN Aa)) :=
 c7 (k:=0) (b:=(Wg Aa)) F LZ rfl λcdv A outer s H E hr=>⟨_,(j3 (w9 (y9 (wV) (g9 (qi (K:=K) rfl) rfl Ad PySem.boot_len (aW (wX (K:=K) rfl (pv 0) rfl))) z7))),
  inferInstance⟩
abbrev JC:Stmt:=vJ (top 54) 6
abbrev Wh (Aa:Addr):MS:=(y8 (z6 Jf (q0 (xS Aa "held" (q8 0)) x6)))
def jT (Aa:Addr):List PV->Option PV:=qA 1 1 (Wh Aa)
theorem Nb:v8 ["self"] ["self"] (z9 JC):=y4
theorem Du (F:Fun K "names" "Works.names" JC f fd)(Ap:mg "sorted"=none)[ze K Aa][NoA K Aa "held"]:FnOk P w K mg base j6 1 f fd ["self"] (m7 (jT Aa)) :=
 okO (k:=0) (b:=(Wh Aa)) F Nb rfl λcdv A outer s H E hr=>⟨_,(j3 (w9 (g9 (BD (K:=K) rfl rfl) rfl Ap Yp (aW (wX (K:=K) rfl (pv 0) rfl))))),
  inferInstance⟩
abbrev Vg:Stmt:=top 14
abbrev WO:MS:=(y8 (u7 [none] [0] (u4 (q8 0)) (v5 0) u8 (z6 xn (q0 (q8 0) x6))))
def Xj:List PV->Option PV:=qA 1 1 WO
theorem Nz:v8 ["cloths"] ["cloths"] (z9 Vg):=y4
theorem Ma (F:Fun K "names_of" "names_of" Vg f fd)(Af:Fn P w K mg base 1 "name_of" ["cloth"] (j7 xn)):FnOk P w K mg base j6 2 f fd ["cloths"] (m7 Xj) :=
 okO (k:=1) (b:=WO) F Nz rfl λcdv A outer s H E hr=>⟨_,(j3 (w9 (n9 (N':=["cloth"]) (cap:=[none]) (k8 rfl rfl rfl) rfl (@b9 _ K _ _ _ rfl (pv 0)) (λ_ _ _ _ _ _=>(k6 (i:=0) (by show (["cloth"]:List Str).Nodup;decide +kernel) rfl (Or.inl rfl))) (λ_ _ _ _ _ _=>p5) (λ_ _ _ _ _ _=>(fW Af hr (aW (pv 0))))))),
  inferInstance⟩
abbrev XI:Stmt:=top 15
abbrev Wl:MS:=(y8 (Zg [] (q0 (q8 0) x6) (f9 (q0 (z6 wH (q0 (q8 0) x6)) (q0 (z6 xn (q0 (q8 0) x6)) x6)))))
def Xb:List PV->Option PV:=qA 1 1 Wl
theorem Nd:v8 ["cloths"] ["cloths"] (z9 XI):=y4
theorem Dx (F:Fun K "by_dues" "by_dues" XI f fd)(B6:Fn P w K mg base 1 "due_of" ["cloth"] (j7 wH))(Af:Fn P w K mg base 1 "name_of" ["cloth"] (j7 xn))(Ap:mg "sorted"=none)(l_f:fd.code = .ref c_l)(l_C:∀ h:Heap,K.In h->PySem.W.CodeHd h c_l P_l)(l_P:(P_l,p_l,[((⟨35,30,35,75⟩:Pos),("by_dues.<locals>.<lambda>":Str))])∈TABS):FnOk P w K mg base j6 6 f fd ["cloths"] (m7 Xb) :=
 okOC (k:=5) (b:=Wl) F Nd rfl λA outer s H E hr=>⟨_,(j3 (w9 (Gb (K:=K) (k:=2) (x:="cloth") (fr:=[]) (fi:=[]) (clos:=[]) rfl (hr.mono (by decide)) rfl Ap (aW (pv 0)) l_P
  (by exact yR.mpr rfl) (λp hp _=>by rw [yR.mp hp];rfl) l_f l_C ⟨rfl,rfl,rfl,by decide +kernel,by decide +kernel,(λx h=>by
   exfalso
   revert h
   show ¬ (List.lookup x _=_);simp only [List.lookup]
   repeat' split
   all_goals simp),by decide +kernel⟩ ⟨rfl,(λj y i e=>by simp at e),(λy c e=>by cases e),(λy c hy=>by simp at hy)⟩
  (λf c' s H hr2=>(@xq _ _ _ _ _ (aC (fW B6 hr2 (aW (pv 0))) (aW (fW Af hr2 (aW (pv 0)))))))
  (λ_ _ _ _ _=>rfl)))),
  inferInstance⟩
abbrev Jz:Stmt:=vJ (top 54) 8
abbrev We (Aa:Addr):MS:=(y8 (u7 [none,some 1] [0] (dItV (xS Aa "held" (q8 0))) (v5 0) (dT (x9 pEq (z6 zt (q0 (q8 0) x6)) (q9 1))) (q8 0)))
def wD (Aa:Addr):List PV->Option PV:=qA 2 2 (We Aa)
theorem LX:v8 ["self","hue"] ["self","hue"] (z9 Jz):=y4
theorem Dp (F:Fun K "cloths_in" "Works.cloths_in" Jz f fd)(Ag:Fn P w K mg base 1 "hue_of" ["cloth"] (j7 zt))[ze K Aa][NoA K Aa "held"]:FnOk P w K mg base j6 2 f fd ["self","hue"] (m7 (wD Aa)) :=
 okO (k:=1) (b:=(We Aa)) F LX rfl λcdv A outer s H E hr=>⟨_,(j3 (w9 (n9 (N':=["cloth","hue"]) (cap:=[none,some 1]) (k8 rfl rfl rfl) rfl (Le (wX (K:=K) rfl (pv 0) rfl)) (λ_ _ _ _ _ _=>(k6 (i:=0) (by show (["cloth","hue"]:List Str).Nodup;decide +kernel) rfl (Or.inl rfl))) (λ_ _ _ _ _ _=>(Gr (o8 (zw (K:=K) (hu6 hr) rfl) (fW Ag hr (aW (pv 0))) (pv 1) (p8 _)))) (λ_ _ _ _ _ _=>(pv 0))))),
  inferInstance⟩
abbrev JA:Stmt:=vJ (top 54) 9
abbrev Wf (Aa:Addr):MS:=(y8 (z6 Xj (q0 (z6 Xb (q0 (xk Aa "cloths_in" (wD Aa) (q8 0) (q0 (q8 1) x6)) x6)) x6)))
def vO (Aa:Addr):List PV->Option PV:=qA 2 2 (Wf Aa)
theorem LY:v8 ["self","hue"] ["self","hue"] (z9 JA):=y4
theorem Dq (F:Fun K "due_row" "Works.due_row" JA f fd)(Eg:Fn P w K mg base 6 "by_dues" ["cloths"] (m7 Xb))(D8:Fn P w K mg base 2 "names_of" ["cloths"] (m7 Xj))(Ar:Mt P w K mg base 2 Aa "cloths_in" ["self","hue"] (m7 (wD Aa))):FnOk P w K mg base j6 7 f fd ["self","hue"] (m7 (vO Aa)) :=
 okO (k:=6) (b:=(Wf Aa)) F LY rfl λcdv A outer s H E hr=>⟨_,(j3 (w9 (fW D8 hr (aW (fW Eg hr (aW (Xv Ar hr (by decide) (pv 0) (aW (pv 1))))))))),
  inferInstance⟩
abbrev Jy:Stmt:=vJ (top 54) 7
abbrev Wd (Aa:Addr):MS:=(k5 (m3 (dOr (i4 (t0 (z6 m4 (q0 (q9 1) (q0 (dC (.ty "str")) x6))))) (dT (QH (q9 1) (xS Aa "held" (q8 0))))) xc r6)
  (y8 (zY (xS Aa "held" (q8 0)) (q9 1))))
def jS (Aa:Addr):List PV->Option PV:=k7 2 2 (Wd Aa)
theorem LW:v8 ["self","name"] ["self","name"] (z9 Jy):=y4
theorem Do (F:Fun K "cloth" "Works.cloth" Jy f fd)(Ab:mg "isinstance"=none)(Et:mg "str"=none)[ze K Aa][NoA K Aa "held"]:FnOk P w K mg base j6 1 f fd ["self","name"] (j7 (jS Aa)) :=
 c7 (k:=0) (b:=(Wd Aa)) F LW rfl λcdv A outer s H E hr=>⟨_,(j9 (c8 (PW.pt (jm (qH (qw (K:=K) rfl (g9 (xP (K:=K) rfl) rfl Ab xO (aC (pv 1) (aW (xV (v:= .ty "str") rfl Et Yq rfl)))) (λ_=>rfl))) (vc (Gq (MK (xg hr) (pv 1) (wX (K:=K) rfl (pv 0) rfl)))))) (j3 xY) m6)
  (j3 (w9 (jZ (xg hr) (wX (K:=K) rfl (pv 0) rfl) (pv 1) (λ_ _=>rfl))))),
  inferInstance⟩
abbrev JE:Stmt:=top 26
abbrev Wj (Aa:Addr):MS:=(k5 (m3 (i4 (t0 (z6 m4 (q0 (q9 1) (q0 (dC (.ty "list")) x6))))) (y8 (dC (.bl false))) r6)
  (k5 (xf 2 (xk Aa "names" (jT Aa) (q8 0) x6))
  (y8 (qJ (z6 xC (q0 (u7 [none,some 2] [0] (u4 (q8 1)) (v5 0) u8 (x9 (pIn false) (q9 0) (q9 1))) x6)) (x9 pEq (YI (q9 1)) (z6 qq (q0 (q9 1) x6)))))))
def wE (Aa:Addr):List PV->Option PV:=k7 3 2 (Wj Aa)
theorem sc_are_names:v8 ["works","names","known"] ["works","names"] (z9 JE):=y4
theorem Dw (F:Fun K "are_names" "are_names" JE f fd)(An:mg "all"=none)(Ab:mg "isinstance"=none)(Ad:mg "len"=none)(Ah:mg "list"=none)(Ia:mg "set"=none)(Ak:Mt P w K mg base 1 Aa "names" ["self"] (m7 (jT Aa))):FnOk P w K mg base j6 2 f fd ["works","names"] (j7 (wE Aa)) :=
 c7 (k:=1) (b:=(Wj Aa)) F sc_are_names rfl λcdv A outer s H E hr=>⟨_,(j9 (c8 (qH (qw (K:=K) rfl (g9 (xP (K:=K) rfl) rfl Ab xO (aC (pv 1) (aW (xV (v:= .ty "list") rfl Ah jB rfl)))) (λ_=>rfl))) (j3 (w9 xD)) m6)
  (j9 (sW 2 sc_are_names.nd (wY Ak hr (by decide) (pv 0)))
  (j3 (w9 (zx (g9 (jC (K:=K) rfl rfl) rfl An jA (aW (n9 (N':=["thing","known"]) (cap:=[none,some 2]) (k8 rfl rfl rfl) rfl (@b9 _ K _ _ _ rfl (pv 1)) (λ_ _ _ _ _ _=>(k6 (i:=0) (by show (["thing","known"]:List Str).Nodup;decide +kernel) rfl (Or.inl rfl))) (λ_ _ _ _ _ _=>p5) (λ_ _ _ _ _ _=>(xE (Jb (K:=K) rfl) (pv 0) (pv 1) (by with_unfolding_all rfl)))))) (zP (xE (zw (K:=K) (hu6 hr) rfl) (g9 Bx rfl Ad PySem.boot_len (aW (jY (BA (K:=K) rfl rfl) rfl Ia Bn (aW (pv 1))))) (g9 (qi (K:=K) rfl) rfl Ad PySem.boot_len (aW (pv 1))) (p8 _)))))))),
  inferInstance⟩
abbrev JV:Stmt:=top 27
abbrev WD (Aa:Addr):MS:=(y8 (qJ (z6 (wE Aa) (q0 (q8 0) (q0 (q8 1) x6))) (x9 pEq (z6 qq (q0 (q9 1) x6)) (z6 qq (q0 (xk Aa "names" (jT Aa) (q8 0) x6) x6)))))
def wJ (Aa:Addr):List PV->Option PV:=k7 2 2 (WD Aa)
theorem Nq:v8 ["works","names"] ["works","names"] (z9 JV):=y4
theorem DO (F:Fun K "is_plan" "is_plan" JV f fd)(D4:Fn P w K mg base 2 "are_names" ["works","names"] (j7 (wE Aa)))(Ad:mg "len"=none)(Ak:Mt P w K mg base 1 Aa "names" ["self"] (m7 (jT Aa))):FnOk P w K mg base j6 3 f fd ["works","names"] (j7 (wJ Aa)) :=
 c7 (k:=2) (b:=(WD Aa)) F Nq rfl λcdv A outer s H E hr=>⟨_,(j3 (w9 (zx (fW D4 hr (aC (pv 0) (aW (pv 1)))) (zP (xE (zw (K:=K) (hu6 hr) rfl) (g9 (qi (K:=K) rfl) rfl Ad PySem.boot_len (aW (pv 1))) (g9 (qi (K:=K) rfl) rfl Ad PySem.boot_len (aW (wY Ak hr (by decide) (pv 0)))) (p8 _)))))),
  inferInstance⟩
abbrev JK:Stmt:=top 31
abbrev Wr (Aa:Addr):MS:=(y8 (u7 [none,some 0] [0] (u4 (q8 1)) (v5 0) u8 (xk Aa "cloth" (jS Aa) (q8 1) (q0 (q8 0) x6))))
def wG (Aa:Addr):List PV->Option PV:=k7 2 2 (Wr Aa)
theorem Nh:v8 ["works","tray"] ["works","tray"] (z9 JK):=y4
theorem DD (F:Fun K "cloths_of" "cloths_of" JK f fd)(Al:Mt P w K mg base 1 Aa "cloth" ["self","name"] (j7 (jS Aa))):FnOk P w K mg base j6 2 f fd ["works","tray"] (j7 (wG Aa)) :=
 c7 (k:=1) (b:=(Wr Aa)) F Nh rfl λcdv A outer s H E hr=>⟨_,(j3 (w9 (n9 (N':=["name","works"]) (cap:=[none,some 0]) (k8 rfl rfl rfl) rfl (@b9 _ K _ _ _ rfl (pv 1)) (λ_ _ _ _ _ _=>(k6 (i:=0) (by show (["name","works"]:List Str).Nodup;decide +kernel) rfl (Or.inl rfl))) (λ_ _ _ _ _ _=>p5) (λ_ _ _ _ _ _=>(Xv Al hr (by decide) (pv 1) (aW (pv 0))))))),
  inferInstance⟩
abbrev Vp:Stmt:=top 32
abbrev WZ (Aa:Addr):MS:=(y8 (z6 zt (q0 (xk Aa "cloth" (jS Aa) (q8 0) (q0 (x9 j8 (q9 1) (dC (.int 0))) x6)) x6)))
def wQ (Aa:Addr):List PV->Option PV:=k7 2 2 (WZ Aa)
theorem ND:v8 ["works","tray"] ["works","tray"] (z9 Vp):=y4
theorem Mo (F:Fun K "tray_hue" "tray_hue" Vp f fd)(Ag:Fn P w K mg base 1 "hue_of" ["cloth"] (j7 zt))(Al:Mt P w K mg base 1 Aa "cloth" ["self","name"] (j7 (jS Aa))):FnOk P w K mg base j6 2 f fd ["works","tray"] (j7 (wQ Aa)) :=
 c7 (k:=1) (b:=(WZ Aa)) F ND rfl λcdv A outer s H E hr=>⟨_,(j3 (w9 (fW Ag hr (aW (Xv Al hr (by decide) (pv 0) (aW (iW (K:=K) rfl (pv 1) z7))))))),
  inferInstance⟩
abbrev JU:Stmt:=top 33
abbrev WC (Aa:Addr):MS:=(y8 (z6 xC (q0 (u7 [none,some 0,some 1] [0] (u4 (z6 (wG Aa) (q0 (q8 0) (q0 (q8 1) x6)))) (v5 0) u8 (x9 pEq (z6 zt (q0 (q8 0) x6)) (z6 (wQ Aa) (q0 (q8 1) (q0 (q8 2) x6))))) x6)))
def wI (Aa:Addr):List PV->Option PV:=k7 2 2 (WC Aa)
theorem Np:v8 ["works","tray"] ["works","tray"] (z9 JU):=y4
theorem DN (F:Fun K "is_of_one_hue" "is_of_one_hue" JU f fd)(D6:Fn P w K mg base 2 "cloths_of" ["works","tray"] (j7 (wG Aa)))(Ag:Fn P w K mg base 1 "hue_of" ["cloth"] (j7 zt))(D7:Fn P w K mg base 2 "tray_hue" ["works","tray"] (j7 (wQ Aa)))(An:mg "all"=none):FnOk P w K mg base j6 3 f fd ["works","tray"] (j7 (wI Aa)) :=
 c7 (k:=2) (b:=(WC Aa)) F Np rfl λcdv A outer s H E hr=>⟨_,(j3 (w9 (g9 (jC (K:=K) rfl rfl) rfl An jA (aW (n9 (N':=["cloth","works","tray"]) (cap:=[none,some 0,some 1]) (k8 rfl rfl rfl) rfl (@b9 _ K _ _ _ rfl (fW D6 hr (aC (pv 0) (aW (pv 1))))) (λ_ _ _ _ _ _=>(k6 (i:=0) (by show (["cloth","works","tray"]:List Str).Nodup;decide +kernel) rfl (Or.inl rfl))) (λ_ _ _ _ _ _=>p5) (λ_ _ _ _ _ _=>(xE (zw (K:=K) (hu6 hr) rfl) (fW Ag hr (aW (pv 0))) (fW D7 hr (aC (pv 1) (aW (pv 2)))) (p8 _)))))))),
  inferInstance⟩
abbrev JD:Stmt:=top 34
abbrev Wi:MS:=(y8 (qJ (z6 m4 (q0 (q9 0) (q0 (dC (.ty "list")) x6))) (z6 xC (q0 (u7 [none] [0] (u4 (q8 0)) (v5 0) u8 (qJ (z6 m4 (q0 (q9 0) (q0 (dC (.ty "list")) x6))) (x9 pGt (z6 qq (q0 (q9 0) x6)) (dC (.int 0))))) x6))))
def Xa:List PV->Option PV:=k7 1 1 Wi
theorem Nc:v8 ["trays"] ["trays"] (z9 JD):=y4
theorem Dv (F:Fun K "are_full_lists" "are_full_lists" JD f fd)(An:mg "all"=none)(Ab:mg "isinstance"=none)(Ad:mg "len"=none)(Ah:mg "list"=none):FnOk P w K mg base j6 1 f fd ["trays"] (j7 Xa) :=
 c7 (k:=0) (b:=Wi) F Nc rfl λcdv A outer s H E hr=>⟨_,(j3 (w9 (zx (g9 (xP (K:=K) rfl) rfl Ab xO (aC (pv 0) (aW (xV (v:= .ty "list") rfl Ah jB rfl)))) (zP (g9 (jC (K:=K) rfl rfl) rfl An jA (aW (n9 (N':=["tray"]) (cap:=[none]) (k8 rfl rfl rfl) rfl (@b9 _ K _ _ _ rfl (pv 0)) (λ_ _ _ _ _ _=>(k6 (i:=0) (by show (["tray"]:List Str).Nodup;decide +kernel) rfl (Or.inl rfl))) (λ_ _ _ _ _ _=>p5) (λ_ _ _ _ _ _=>(zx (g9 (xP (K:=K) rfl) rfl Ab xO (aC (pv 0) (aW (xV (v:= .ty "list") rfl Ah jB rfl)))) (zP (xE (wS) (g9 (qi (K:=K) rfl) rfl Ad PySem.boot_len (aW (pv 0))) z7 (p8 _)))))))))))),
  inferInstance⟩
abbrev JI:Stmt:=top 35
abbrev Wp (Aa:Addr):MS:=(k5 (m3 (dOr (i4 (t0 (z6 Xa (q0 (q8 1) x6)))) (i4 (t0 (z6 (wJ Aa) (q0 (q8 0) (q0 (QJ (q9 1)) x6)))))) xc r6)
  (m3 (i4 (t0 (z6 xC (q0 (u7 [none,some 0] [0] (u4 (q8 1)) (v5 0) u8 (z6 (wI Aa) (q0 (q8 1) (q0 (q8 0) x6)))) x6)))) xc r6))
def wF (Aa:Addr):List PV->Option PV:=k7 2 2 (Wp Aa)
theorem Ng:v8 ["works","trays"] ["works","trays"] (z9 JI):=y4
theorem DB (F:Fun K "check_trays" "check_trays" JI f fd)(As:Fn P w K mg base 1 "are_full_lists" ["trays"] (j7 Xa))(Av:Fn P w K mg base 3 "is_of_one_hue" ["works","tray"] (j7 (wI Aa)))(Eh:Fn P w K mg base 3 "is_plan" ["works","names"] (j7 (wJ Aa)))(An:mg "all"=none)(Ei:mg "sum"=none):FnOk P w K mg base j6 4 f fd ["works","trays"] (j7 (wF Aa)) :=
 c7 (k:=3) (b:=(Wp Aa)) F Ng rfl λcdv A outer s H E hr=>⟨_,(j9 (c8 (PW.pt (jm (qH (qw (K:=K) rfl (fW As hr (aW (pv 1))) (λ_=>rfl))) (vc (qH (qw (K:=K) rfl (fW Eh hr (aC (pv 0) (aW (MW (K:=K) rfl rfl rfl Ei (aW (pv 1)))))) (λ_=>rfl)))))) (j3 xY) m6)
  (j3 (c8 (qH (qw (K:=K) rfl (g9 (jC (K:=K) rfl rfl) rfl An jA (aW (n9 (N':=["tray","works"]) (cap:=[none,some 0]) (k8 rfl rfl rfl) rfl (@b9 _ K _ _ _ rfl (pv 1)) (λ_ _ _ _ _ _=>(k6 (i:=0) (by show (["tray","works"]:List Str).Nodup;decide +kernel) rfl (Or.inl rfl))) (λ_ _ _ _ _ _=>p5) (λ_ _ _ _ _ _=>(fW Av hr (aC (pv 1) (aW (pv 0)))))))) (λ_=>rfl))) (j3 xY) m6))),
  inferInstance⟩
abbrev JN:Stmt:=top 29
abbrev Wt (Aa:Addr):MS:=(y8 (u7 [none,some 0] [0] (xT (q0 (xk Aa "hues" (zN Aa) (q8 0) x6) x6)) (v5 0) u8 (xk Aa "due_row" (vO Aa) (q8 1) (q0 (q8 0) x6))))
def vQ (Aa:Addr):List PV->Option PV:=qA 1 1 (Wt Aa)
theorem Nj:v8 ["works"] ["works"] (z9 JN):=y4
theorem DG (F:Fun K "due_rows" "due_rows" JN f fd)(Ae:mg "range"=none)(Ax:Mt P w K mg base 7 Aa "due_row" ["self","hue"] (m7 (vO Aa)))(Ai:Mt P w K mg base 1 Aa "hues" ["self"] (j7 (zN Aa))):FnOk P w K mg base j6 8 f fd ["works"] (m7 (vQ Aa)) :=
 okO (k:=7) (b:=(Wt Aa)) F Nj rfl λcdv A outer s H E hr=>⟨_,(j3 (w9 (n9 (N':=["hue","works"]) (cap:=[none,some 0]) (k8 rfl rfl rfl) rfl (jj rfl Ae (aW (wY Ai hr (by decide) (pv 0)))) (λ_ _ _ _ _ _=>(k6 (i:=0) (by show (["hue","works"]:List Str).Nodup;decide +kernel) rfl (Or.inl rfl))) (λ_ _ _ _ _ _=>p5) (λ_ _ _ _ _ _=>(Xv Ax hr (by decide) (pv 1) (aW (pv 0))))))),
  inferInstance⟩
abbrev Vl:Stmt:=top 36
abbrev WV:MS:=(k5 (qS (jG (q0 (q8 0) x6)) (zr 2 (qv (v5 2) (qv (v5 3) zq))) (m3 (dT (x9 (pIn false) (q9 1) (q9 3))) (y8 (q8 2)) r6))
  (y8 (dC .non)))
def xB:List PV->Option PV:=k7 4 2 WV
theorem sc_place_of:v8 ["trays","name","place","tray"] ["trays","name"] (z9 Vl):=y4
theorem Mf (F:Fun K "place_of" "place_of" Vl f fd)(Ao:mg "enumerate"=none):FnOk P w K mg base j6 1 f fd ["trays","name"] (j7 xB) :=
 c7 (k:=0) (b:=WV) F sc_place_of rfl λcdv A outer s H E hr=>⟨_,(j9 (xr PassesOwn.never rfl (Gd (K:=K) rfl rfl Ao (aW (pv 0))) (Xx (K:=K) (n:=2) rfl rfl (ji (gW 2 sc_place_of.nd) (ji (gW 3 sc_place_of.nd) Xy)))
   (j3 (c8 (o8 (Jb (K:=K) rfl) (pv 1) (pv 3) (by with_unfolding_all rfl)) (j3 (w9 (pv 2))) m6)))
  (j3 (w9 wZ))),
  inferInstance⟩
abbrev Vh:Stmt:=top 37
abbrev WP (Aa:Addr):MS:=(k5 (qS (u4 (z6 (vQ Aa) (q0 (q8 0) x6))) (v5 2) (qS (jH (q0 (q8 2) (q0 (vD (q9 2) (pSo (dC (.int 1))) pNo) x6))) (zr 2 (qv (v5 3) (qv (v5 4) zq))) (m3 (dT (x9 pLt (z6 xB (q0 (q8 1) (q0 (q8 4) x6))) (z6 xB (q0 (q8 1) (q0 (q8 3) x6))))) (y8 (f9 (q0 (q8 4) (q0 (z6 xB (q0 (q8 1) (q0 (q8 3) x6))) x6)))) r6)))
  (y8 (dC .non)))
def wN (Aa:Addr):List PV->Option PV:=k7 5 2 (WP Aa)
theorem sc_next_move:v8 ["works","trays","row","ahead","behind"] ["works","trays"] (z9 Vh):=y4
theorem Mb (F:Fun K "next_move" "next_move" Vh f fd)(Ea:Fn P w K mg base 8 "due_rows" ["works"] (m7 (vQ Aa)))(Az:Fn P w K mg base 1 "place_of" ["trays","name"] (j7 xB))(Es:mg "zip"=none):FnOk P w K mg base j6 9 f fd ["works","trays"] (j7 (wN Aa)) :=
 c7 (k:=8) (b:=(WP Aa)) F sc_next_move rfl λcdv A outer s H E hr=>⟨_,(j9 (xr PassesOwn.never rfl (@b9 _ K _ _ _ rfl (fW Ea hr (aW (pv 0)))) (gW 2 sc_next_move.nd)
   (j3 (xr PassesOwn.never rfl (Ge (K:=K) rfl rfl Es (aC (pv 2) (aW (MV (NQ (K:=K) rfl) (pv 2) (Lj z7) Li)))) (Xx (K:=K) (n:=2) rfl rfl (ji (gW 3 sc_next_move.nd) (ji (gW 4 sc_next_move.nd) Xy)))
   (j3 (c8 (o8 (Xq) (fW Az hr (aC (pv 1) (aW (pv 4)))) (fW Az hr (aC (pv 1) (aW (pv 3)))) (p8 _)) (j3 (w9 (@xq _ _ _ _ _ (aC (pv 4) (aW (fW Az hr (aC (pv 1) (aW (pv 3))))))))) m6)))))
  (j3 (w9 wZ))),
  inferInstance⟩
abbrev JQ:Stmt:=top 38
abbrev Ww (Aa:Addr):MS:=(k5 (zZ (z6 (wF Aa) (q0 (q8 0) (q0 (q8 1) x6))))
  (y8 (x9 pIsN (z6 (wN Aa) (q0 (q8 0) (q0 (q8 1) x6))) (dC .non))))
def jU (Aa:Addr):List PV->Option PV:=k7 2 2 (Ww Aa)
theorem Nl:v8 ["works","trays"] ["works","trays"] (z9 JQ):=y4
theorem DJ (F:Fun K "in_tray_order" "in_tray_order" JQ f fd)(B0:Fn P w K mg base 4 "check_trays" ["works","trays"] (j7 (wF Aa)))(D0:Fn P w K mg base 9 "next_move" ["works","trays"] (j7 (wN Aa))):FnOk P w K mg base j6 10 f fd ["works","trays"] (j7 (jU Aa)) :=
 c7 (k:=9) (b:=(Ww Aa)) F Nl rfl λcdv A outer s H E hr=>⟨_,(j9 (vb (fW B0 hr (aC (pv 0) (aW (pv 1)))))
  (j3 (w9 (xE (UU) (fW D0 hr (aC (pv 0) (aW (pv 1)))) wZ (p8 _))))),
  inferInstance⟩
abbrev vg:Stmt:=vJ (top 54) 0
abbrev Qz (Aa:Addr):MS:=(k5 (zj Aa "least" (z6 Xh (q0 (q8 1) x6)))
  (k5 (zZ (z6 Xe (q0 (q8 3) (q0 (q8 4) (q0 (vB Aa "hues" (zN Aa) 0 x6) x6)))))
  (k5 (zZ (z6 Xc (q0 (q8 2) (q0 (vB Aa "hues" (zN Aa) 0 x6) x6))))
  (k5 (zj Aa "given" (u7 [none] [0] (u4 (q8 1)) (v5 0) u8 (z6 jW (q0 (q9 0) x6))))
  (k5 (zj Aa "held" (z6 jf (q0 (u7 [none] [0] (u4 (q8 2)) (v5 0) u8 (f9 (q0 (z6 xn (q0 (q8 0) x6)) (q0 (q8 0) x6)))) x6)))
  (k5 (zj Aa "last" (dIf (dT (x9 pIsN (q9 3) (dC .non))) (dUn pNeg (dC (.int 1))) (q8 3)))
  (zj Aa "time" (q8 4))))))))
def vP (Aa:Addr):List PV->Option PV:=wv 5 5 Aa (Qz Aa)
theorem Na:v8 ["self","rinses","cloths","last","time"] ["self","rinses","cloths","last","time"] (z9 vg):=y4
theorem Dt (F:FunD K "__init__" "Works.__init__" vg f fd)(A0:Fn P w K mg base 4 "check_cloths" ["cloths","hues"] (j7 Xc))(B5:Fn P w K mg base 3 "check_start" ["last","time","hues"] (j7 Xe))(A9:Fn P w K mg base 4 "least_rinses" ["rinses"] (m7 Xh))(Af:Fn P w K mg base 1 "name_of" ["cloth"] (j7 xn))(Au:mg "dict"=none)(Ah:mg "list"=none)[ze K Aa][NoA K Aa "given"][NoA K Aa "held"][NoA K Aa "last"][NoA K Aa "least"][NoA K Aa "time"](Ai:Mt P w K mg base 1 Aa "hues" ["self"] (j7 (zN Aa))):FnOk P w K mg base j6 5 f fd ["self","rinses","cloths","last","time"] (spI Aa (vP Aa)) :=
 okID (k:=4) (b:=Qz Aa) F Na rfl (λcdv A outer s H E hr=>⟨_,(j9 (Qe (K:=K) rfl (pv 0) (fW A9 hr (aW (pv 1))))
  (j9 (vb (fW B5 hr (aC (pv 3) (aC (pv 4) (aW (wY Ai hr (by decide) (pv 0)))))))
  (j9 (vb (fW A0 hr (aC (pv 2) (aW (wY Ai hr (by decide) (pv 0))))))
  (j9 (Qe (K:=K) rfl (pv 0) (n9 (N':=["row"]) (cap:=[none]) (k8 rfl rfl rfl) rfl (@b9 _ K _ _ _ rfl (pv 1)) (λ_ _ _ _ _ _=>(k6 (i:=0) (by show (["row"]:List Str).Nodup;decide +kernel) rfl (Or.inl rfl))) (λ_ _ _ _ _ _=>p5) (λ_ _ _ _ _ _=>(jY (Yt (K:=K) rfl) rfl Ah jB (aW (pv 0))))))
  (j9 (Qe (K:=K) rfl (pv 0) (jY (QC (K:=K) rfl rfl) rfl Au QB (aW (n9 (N':=["cloth"]) (cap:=[none]) (k8 rfl rfl rfl) rfl (@b9 _ K _ _ _ rfl (pv 2)) (λ_ _ _ _ _ _=>(k6 (i:=0) (by show (["cloth"]:List Str).Nodup;decide +kernel) rfl (Or.inl rfl))) (λ_ _ _ _ _ _=>p5) (λ_ _ _ _ _ _=>(@xq _ _ _ _ _ (aC (fW Af hr (aW (pv 0))) (aW (pv 0)))))))))
  (j9 (Qe (K:=K) rfl (pv 0) (Ga (o8 (UU) (pv 3) wZ (p8 _)) (Gc Kv z7) (pv 3)))
  (j3 (Qe (K:=K) rfl (pv 0) (pv 4))))))))),
  (by repeat' first|infer_instance|(refine @Mi.NJ _ _ _ _ ?_ ?_))⟩)
abbrev Vk:Stmt:=top 65
abbrev WU:MS:=(y8 (Zf (u7 [none,some 1] [0] (u4 (q8 0)) (v5 0) u8 (x9 (pIn false) (q9 1) (q9 0))) (dC (.bl true))))
def zv:List PV->Option PV:=k7 2 2 WU
theorem NA:v8 ["trays","name"] ["trays","name"] (z9 Vk):=y4
theorem Me (F:Fun K "_law_place" "_law_place" Vk f fd):FnOk P w K mg base j6 1 f fd ["trays","name"] (j7 zv) :=
 c7 (k:=0) (b:=WU) F NA rfl λcdv A outer s H E hr=>⟨_,(j3 (w9 (jX (K:=K) rfl PySem.F.plainAttrs_list PySem.F.slot_list_index PySem.F.type_list_index (Df (K:=K) rfl) (n9 (N':=["tray","name"]) (cap:=[none,some 1]) (k8 rfl rfl rfl) rfl (@b9 _ K _ _ _ rfl (pv 0)) (λ_ _ _ _ _ _=>(k6 (i:=0) (by show (["tray","name"]:List Str).Nodup;decide +kernel) rfl (Or.inl rfl))) (λ_ _ _ _ _ _=>p5) (λ_ _ _ _ _ _=>(xE (Jb (K:=K) rfl) (pv 1) (pv 0) (by with_unfolding_all rfl)))) (j4 xD u5)))),
  inferInstance⟩
abbrev Vr:Stmt:=top 66
abbrev Ya:MS:=(k5 (qS (u4 (x9 j8 (q9 0) (dC (.int 1)))) (v5 2) (qS (u4 (x9 j8 (q9 0) (dC (.int 1)))) (v5 3) (k5 (xf 4 (qJ (x9 pEq (x9 j8 (q9 2) (dC (.int 1))) (x9 j8 (q9 3) (dC (.int 1)))) (x9 vX (f9 (q0 (x9 j8 (q9 2) (dC (.int 3))) (q0 (x9 j8 (q9 2) (dC (.int 0))) x6))) (f9 (q0 (x9 j8 (q9 3) (dC (.int 3))) (q0 (x9 j8 (q9 3) (dC (.int 0))) x6))))))
  (m3 (zH (t0 (q9 4)) (dT (x9 pGt (z6 zv (q0 (q8 1) (q0 (x9 j8 (q9 2) (dC (.int 0))) x6))) (z6 zv (q0 (q8 1) (q0 (x9 j8 (q9 3) (dC (.int 0))) x6)))))) (y8 (dC (.bl false))) r6))))
  (y8 (dC (.bl true))))
def vR:List PV->Option PV:=k7 5 2 Ya
theorem sc_trays_in_order:v8 ["parts","trays","one","other","ahead"] ["parts","trays"] (z9 Vr):=y4
theorem Mq (F:Fun K "_law_trays_in_order" "_law_trays_in_order" Vr f fd)(Ej:Fn P w K mg base 1 "_law_place" ["trays","name"] (j7 zv)):FnOk P w K mg base j6 2 f fd ["parts","trays"] (j7 vR) :=
 c7 (k:=1) (b:=Ya) F sc_trays_in_order rfl λcdv A outer s H E hr=>⟨_,(j9 (xr PassesOwn.never rfl (@b9 _ K _ _ _ rfl (iW (K:=K) rfl (pv 0) z7)) (gW 2 sc_trays_in_order.nd)
   (j3 (xr PassesOwn.never rfl (@b9 _ K _ _ _ rfl (iW (K:=K) rfl (pv 0) z7)) (gW 3 sc_trays_in_order.nd)
   (j9 (sW 4 sc_trays_in_order.nd (zx (xE (zw (K:=K) (hu6 hr) rfl) (iW (K:=K) rfl (pv 2) z7) (iW (K:=K) rfl (pv 3) z7) (p8 _)) (zP (xE (My (xg hr) (K:=K) rfl) (@xq _ _ _ _ _ (aC (iW (K:=K) rfl (pv 2) z7) (aW (iW (K:=K) rfl (pv 2) z7)))) (@xq _ _ _ _ _ (aC (iW (K:=K) rfl (pv 3) z7) (aW (iW (K:=K) rfl (pv 3) z7)))) (p8 _)))))
  (j3 (c8 (PW.pt (XE (qw (K:=K) rfl (pv 4) (λ_=>rfl)) (XF (o8 (wS) (fW Ej hr (aC (pv 1) (aW (iW (K:=K) rfl (pv 2) z7)))) (fW Ej hr (aC (pv 1) (aW (iW (K:=K) rfl (pv 3) z7)))) (p8 _))))) (j3 (w9 xD)) m6))))))
  (j3 (w9 xD))),
  inferInstance⟩
theorem VJ (n:Int):je [.at (.int n)]=some (.at (.bl true)):=t9 rfl (p7 (zk (j5 rfl Ci) (Pg (v:=false) (j5 rfl Cj))))
theorem HY (n k:Int):zu [.at (.int n),.at (.int k)]=some (.at (.bl (decide (k<=n)))):=t9 rfl (p7 (zk (j5 rfl (VJ n)) rfl))
theorem Qq {k:Int}(h:k<=n):zu [.at (.int n),.at (.int k)]=some (.at (.bl true)):=(HY n k).trans (by rw [yC h])
theorem Rf (h:vn s):Xg [.at (.str s)]=some (.at (.bl true)):=by
 have hl:lim=1000000:=rfl;have l1:=h.one;have l8:=h.eight;have ln:qq [.at (.str s)]=some (.at (.int s.length)):=if_pos (by omega);refine t9 rfl (b8 (ql (ja (qB (qt (j5 rfl Ur))) (qB (r9 (Zo (r:=true) rfl (j5 rfl ln) ?_ rfl ?_)))) qD) (p7 (j5 (v7 (t6 (λc:Nat=>PV.at (.str ⟨#[c]⟩)) (λ_=>PV.at (.bl true)) s.cps.toList rfl rfl ?_ ?_) rfl) (jy _))))
 ·show some (PV.at (.bl (decide ((1:Int)<=(s.length:Int)))))=_;rw [yC (by omega)]
 ·show some (PV.at (.bl (decide ((s.length:Int)<=8))))=_;rw [yC (by omega)]
 ·have:s.cps.toList.length=s.length:=by simp [Str.length]
  omega
 ·intro c hc;obtain ⟨c1,c2⟩:=h.low c hc;refine ⟨_,rfl,Zo rfl rfl ?_ rfl ?_⟩
  ·show some (PV.at (.bl (!decide ([c]<("a":Str).cps.toList))))=_;have e:¬ ([c]<[97]):=by rw [List.cons_lt_cons_iff];simp;omega
   rw [show ("a":Str).cps.toList=[97] by decide +kernel,yD e];rfl
  ·show some (PV.at (.bl (!decide (("z":Str).cps.toList<[c]))))=_;have e:¬ ([122]<[c]):=by rw [List.cons_lt_cons_iff];simp;omega
   rw [show ("z":Str).cps.toList=[122] by decide +kernel,yD e];rfl
theorem Re (ok:c.Ok h):Xf [c.pv,.at (.int h)]=some (.at (.bl true)):=by refine t9 rfl (b8 (ql (ja (qB (qt (j5 rfl Ck))) (r9 (v:=false) rfl)) qD) (b8 (ql (ja (qB (qt (j5 (v7 (j5 rfl rfl) rfl) (Rf ok.nm)))) (ja (qB (qt (j5 (v7 (j5 rfl rfl) rfl) (Qq (n:=(c.hue:Int)) (k:=0) (by omega))))) (r9 (v:=false) (v9 (j5 rfl rfl) rfl ?_)))) qD) (p7 (zk (j5 (v7 (j5 rfl rfl) rfl) (Qq ok.l1)) (zk (j5 (v7 (j5 rfl rfl) rfl) (VJ _)) (j5 (v7 (j5 rfl rfl) rfl) (Qq ok.w1)))))));show some (PV.at (.bl (decide ((h:Int)<=(c.hue:Int)))))=_;have:=ok.hu;rw [yD (by omega)]
theorem HS {l t:Int}(h1:-1<=l)(h2:l<(h:Int))(h3:0<=t):Xe [.at (.int l),.at (.int t),.at (.int h)]=some (.at .non):=by refine QQ rfl (b8 (ql (QF (v:=false) (r9 (v:=true) rfl) (qB (QF (v:=true) (qt (j5 rfl (Qq h1))) (r9 (v:=true) ?_)))) qD) (ql (qB (qt (j5 rfl (Qq h3)))) qD));show some (PV.at (.bl (decide (l<(h:Int)))))=_;rw [yC h2]
def keysOf (cs:List Cl):List x8:=cs.map λc=>Sum.inr c.name
theorem UF {x:Str}{α:Type}(f:Cl->PV):∀{cs:List Cl},x∉cs.map Cl.name->i5 (.inr x) (keysOf cs) (cs.map f)=none
 |[],_=>rfl
 |c::cs,h=>by
  rw [yO] at h;show (if (Sum.inr c.name:x8) = .inr x then _ else i5 (.inr x) (keysOf cs) (cs.map f))=_;rw [if_neg (λe=>h (by injection e with e;rw [e];exact yQ)),UF (α:=α) f λz=>h (yN _ z)]
theorem ZL (f:Cl->PV):∀{cs:List Cl},(cs.map Cl.name).Nodup->∀ c∈cs,i5 (.inr c.name) (keysOf cs) (cs.map f)=some (f c)
 |[],_,_,h=>nomatch h
 |d::cs,nd,c,h=>by
  rw [yO] at nd;have nd':=yx.mp nd;show (if (Sum.inr d.name:x8) = .inr c.name then some (f d) else i5 (.inr c.name) (keysOf cs) (cs.map f))=_;rcases yP.mp h with rfl|h
  ·rw [if_pos rfl]
  ·rw [if_neg (λe=>nd'.1 (by injection e with e;rw [e];exact yE.mpr ⟨c,h,rfl⟩)),ZL f nd'.2 c h]
theorem HP {cls:List Cl}(hok:∀ c∈cls,c.Ok h)(nd:(cls.map Cl.name).Nodup)(ten:cls.length<=10):Xc [.lst (cls.map Cl.pv),.at (.int h)]=some (.at .non):=by
 have hl:lim=1000000:=rfl;refine QQ rfl (b8 (ql (r9 (v:=false) (v9 (j5 rfl rfl) rfl ?_)) qD) (b8 (Zr rfl) (xu rfl (ZP Cl.pv (λl ε=>∃(done:List Cl)(s3:MSlot),done++l=cls/\ε=[.sh (.lst (cls.map Cl.pv)),.sh (.at (.int h)),.ow (.dk (keysOf done) (done.map λ_=>PV.at (.bl true))),s3]) ?_ cls _ ⟨[],.no,rfl,rfl⟩).choose_spec.1)))
 ·show some (PV.at (.bl (decide ((10:Int)<((cls.map Cl.pv).length:Int)))))=_;rw [yZ,yD (by omega)]
 ·rintro c l ε ⟨done,s3,e,rfl⟩;have hc:c∈cls:=by rw [<- e];exact yv _ yQ
  have hn:c.name∉done.map Cl.name:=λz=>by
   rw [<- e,yw,yO] at nd;exact (List.nodup_append.mp nd).2.2 _ z _ yQ rfl
  have ln:=UF (α:=Unit) (λ_=>PV.at (.bl true)) hn;have hd:done.length<=10:=by rw [<- e] at ten;rw [yJ] at ten;omega
  refine ⟨_,_,rfl,b8 (ql (qB (qt (j5 rfl (Re (hok c hc))))) qD) (b8 (ql (r9 (v:=false) ?_) qD) ?_),done++[c],.sh c.pv,by rw [<- e,uT];rfl,rfl⟩
  ·show some (PV.at (.bl (i5 (.inr c.name) (keysOf done) (done.map λ_=>PV.at (.bl true))).isSome))=_;rw [ln];rfl
  ·show (if (keysOf done).length<=lim then some (Out.nx [_,_,.ow (XD (.inr c.name) (.at (.bl true)) (keysOf done) (done.map λ_=>PV.at (.bl true))),_]) else none)=_;unfold XD;rw [if_pos (by unfold keysOf;rw [yZ];omega),ln];simp only [Option.isSome_none,uF,if_false];unfold keysOf;rw [yw,yw];rfl
def jM (n:Int):PV:= .at (.int n)
def qZ (r:List Int):PV:= .lst (r.map jM)
def wyP (w:Wy):PV:= .tup [.at (.int w.1),.lst (w.2.map jM)]
def qr (ws:List Wy):PV:= .lst (ws.map wyP)
theorem Rp (hl:r.length=h)(h4:h<=4)(hv:∀ v∈r,0<=v):wK [qZ r,.at (.int h)]=some (.at (.bl true)):=by
 have hlim:lim=1000000:=rfl;refine t9 rfl (b8 (ql (ja (qB (qt (j5 rfl ZC))) (r9 (v:=false) (v9 (j5 rfl rfl) rfl ?_))) qD) (p7 (j5 (v7 (t6 jM (λ_=>PV.at (.bl true)) r rfl rfl (by omega) λv hvm=>?_) rfl) (jy _))))
 ·show (peq 6 (.at (.int ((r.map jM).length:Int))) (.at (.int (h:Int)))).bind _=_;rw [yZ,hl];exact Jc (x:= .at (.int (h:Int))) rfl
 ·refine ⟨_,rfl,zk (j5 rfl (VJ v)) ?_⟩;show some (PV.at (.bl (decide ((0:Int)<=v))))=_;rw [yC (hv v hvm)]
theorem HQ (G:qT h rss)(h1:1<=h)(h4:h<=4):Xd [o4 rss]=some (.at .non):=by
 have hlim:lim=1000000:=rfl;have hlen:=G.len;have eh:((rss.map qZ).length:Int)-1=(h:Int):=by rw [yZ,hlen];omega
 have step:∀(k:Int),k=(h:Int)->k5 (m3 (i4 (dT (jF pLe pLe (dC (.int 1)) (q9 1) (dC (.int 4))))) xc r6)
  (m3 (i4 (t0 (z6 xC (q0 (u7 [none,some 1] [0] (u4 (q8 0)) (v5 0) u8 (z6 wK (q0 (q8 0) (q0 (q8 1) x6)))) x6)))) xc r6) [.sh (o4 rss),.sh (.at (.int k))]=some (.nx [.sh (o4 rss),.sh (.at (.int k))]):=by
  rintro k rfl;refine b8 (ql (qB (r9 (Zo (r:=true) rfl rfl ?_ rfl ?_))) qD) (ql (qB (qt (j5 (v7 (t6 qZ (λ_=>PV.at (.bl true)) rss rfl rfl (by omega) λr hr=>⟨_,rfl,j5 rfl (Rp (G.row r hr).1 h4 λv hv=>((G.row r hr).2 v hv).1)⟩) rfl) (jy _)))) qD)
  ·show some (PV.at (.bl (decide ((1:Int)<=(h:Int)))))=_;rw [yC (by omega)]
  ·show some (PV.at (.bl (decide ((h:Int)<=4))))=_;rw [yC (by omega)]
 exact QQ rfl (b8 (ql (qB (qt (j5 rfl ZC))) qD) (b8 (zn rfl) (step _ eh)))
theorem YT {α:Type}(f:α->PV):∀(l:List α)(n:Nat),qC n (l.map f)=(l.zipIdx n).map λp=>PV.tup [.at (.int ((p.2:Nat):Int)),f p.1]
 |[],_=>rfl
 |x::l,n=>by
  rw [yO,List.zipIdx_cons,yO];show PV.tup [.at (.int n),f x]::qC (n+1) (l.map f)=_;rw [YT f l (n+1)]
theorem Rq (h:r.length<=4):wO [qZ r]=some (qr (za r)):=by
 have hlim:lim=1000000:=rfl;refine zm rfl (p7 ?_);have e:=t6 (cap:=[none,none]) (ts:=[0,1]) (it:=jG (q0 (q8 0) x6)) (g:=zr 2 (qv (v5 0) (qv (v5 1) zq))) (f:=f9 (q0 (q8 1) (q0 (zI (q0 (q8 0) x6)) x6))) (ε:=[.sh (qZ r)])
  (λp:Int×Nat=>PV.tup [.at (.int ((p.2:Nat):Int)),jM p.1]) (λp:Int×Nat=>wyP (p.1,[(p.2:Int)])) (r.zipIdx 0) (by show some (qC 0 (r.map jM))=_;rw [YT]) rfl (by rw [List.length_zipIdx];omega) λp _=>⟨_,rfl,rfl⟩
 refine e.trans ?_;unfold qr za;rw [List.mapIdx_eq_zipIdx_map,yF];rfl
theorem Rg {a b:Wy}(h:a.2.length+b.2.length<=1000):wL [wyP a,wyP b]=some (wyP (xU a b)):=by have hlim:lim=1000000:=rfl;refine t9 rfl (p7 (zo (v7 (v9 rfl rfl rfl) (v7 (v9 rfl rfl (MF (by rw [yZ,yZ];omega))) rfl)) (by first|decide|(show 1<=lim;decide)|(show 2<=lim;decide)|(show 3<=lim;decide))) |>.trans ?_);unfold wyP xU;rw [yw]
theorem Rj (a b:Wy):wM [wyP a,wyP b]=some (wyP (zp a b)):=by
 unfold zp;by_cases h:b.1<a.1
 ·rw [if_pos h];exact t9 rfl (p7 (Pf (r9 (v:=true) (v9 rfl rfl (show some (PV.at (.bl (decide (b.1<a.1))))=_ by rw [yC h]))) rfl))
 ·rw [if_neg h];exact t9 rfl (p7 (YV (r9 (v:=false) (v9 rfl rfl (show some (PV.at (.bl (decide (b.1<a.1))))=_ by rw [yD h]))) rfl))
theorem KP {α β:Type}(f:α->PV)(g:β->PV):∀(l:List α)(m:List β),qd (l.map f) (m.map g)=(l.zip m).map λp=>PV.tup [f p.1,g p.2]
 |[],_=>by cases ‹List β›<;>rfl
 |_::_,[]=>rfl
 |x::l,y::m=>by
  show PV.tup [f x,g y]::qd (l.map f) (m.map g)=_;rw [KP f g l m];rfl
theorem KQ {α β γ:Type}(f:α->β->γ):∀(l:List α)(m:List β),List.zipWith f l m=(l.zip m).map λp=>f p.1 p.2
 |[],_=>by simp
 |_::_,[]=>rfl
 |x::l,y::m=>by
  show f x y::List.zipWith f l m=_;rw [KQ f l m];rfl
theorem Rs {k:Nat}(hk:k<ws.length)(h4:ws.length<=4)(l1:∀ w∈ws,w.2.length<=100)(l2:∀ w∈onw,w.2.length<=100):vS [qr ws,.at (.int (k:Int)),qr onw]=some (qr (thr ws k onw)):=by
 have hlim:lim=1000000:=rfl;have hg:ws.getD k (0,[])=ws[k]:=o7 hk;have hw:=yr hk;refine zm rfl (p7 ?_);have e:=t6 (cap:=[none,none,some 0,some 1]) (ts:=[0,1]) (it:=jH (q0 (q8 0) (q0 (q8 2) x6))) (g:=zr 2 (qv (v5 0) (qv (v5 1) zq))) (f:=z6 wM (q0 (q8 0) (q0 (z6 wL (q0 (x9 j8 (q9 2) (q9 3)) (q0 (q8 1) x6))) x6))) (ε:=[.sh (qr ws),.sh (.at (.int (k:Int))),.sh (qr onw)])
  (λp:Wy×Wy=>PV.tup [wyP p.1,wyP p.2]) (λp:Wy×Wy=>wyP (zp p.1 (xU ws[k] p.2))) (ws.zip onw) (by show some (qd (ws.map wyP) (onw.map wyP))=_;rw [KP]) rfl (by rw [List.length_zip];omega) λp hp=>⟨_,rfl,j5 (v7 rfl (v7 (j5 (v7 (v9 rfl rfl (xN (v:=wyP ws[k]) (by rw [yM,yW hk];rfl))) (v7 rfl rfl)) (Rg (by
   have q1:=l1 _ hw;have q2:=l2 p.2 (ui hp).2;omega))) rfl)) (Rj _ _)⟩
 refine e.trans ?_;unfold qr thr;rw [hg,KQ,yF];rfl
theorem Rx {k:Nat}(G:qT h rss)(hk:k<=h)(h4:h<=4):∀ r∈n8 rss k,∀ w∈r,w.2.length<=100:=by
 intro r hr w hw;have S:=Shp.all G k hk;have F:=FW.all G k hk;obtain ⟨f,hf,rfl⟩:=uK hr;obtain ⟨g,hg,rfl⟩:=uK hw;have hf':f<=h:=by have:=S.len;omega
 have hg':g<h:=by rw [<- S.row _ hr];exact hg
 have e:y0 (n8 rss k) f g=(n8 rss k)[f][g]:=by unfold y0;rw [o7 hf,o7 hg]
 have q:=F.len f g hf' hg';rw [e] at q;have:2 ^ k<=2 ^ 4:=Nat.pow_le_pow_right (by decide) (by omega);omega
def Qo (T:List (List Wy)):PV:= .lst (T.map qr)
theorem Ri (G:qT h rss)(h1:1<=h)(h4:h<=4):Xi [o4 rss]=some (Qo (n8 rss h)):=by
 have hlim:lim=1000000:=rfl;have hlimI:(lim:Int)=1000000:=rfl;have hlen:=G.len;have st:u7 [none] [0] (u4 (q8 0)) (v5 0) u8 (z6 wO (q0 (q8 0) x6)) [.sh (o4 rss),.no,.no,.no]=some (Qo (n8 rss 0)):=by refine (t6 qZ (λr=>qr (za r)) rss rfl rfl (by omega) λr hr=>⟨_,rfl,j5 rfl (Rq (by rw [(G.row r hr).1];exact h4))⟩).trans ?_;show _=some (PV.lst ((rss.map za).map qr));rw [yF];rfl
 have rg:xT (q0 (x9 jg (z6 qq (q0 (q9 0) x6)) (dC (.int 1))) x6) [.sh (o4 rss),.sh (Qo (n8 rss 0)),.no,.no]=some ((List.range h).map λ(i:Nat)=>PV.at (.int ((0:Int)+i))):=by refine wc (k:=h) (v7 (v9 (j5 rfl rfl) rfl ?_) rfl) (by omega);show some (PV.at (.int (((rss.map qZ).length:Int)-1)))=_;rw [yZ,hlen,show ((h+1:Nat):Int)-1=(h:Int) by omega]
 have lp:=ZP (g:=v5 2) (f:=k5 (xf 3 (x9 j8 (q9 1) (q9 2))) (xf 1 (u7 [none,some 2,some 3] [0] (u4 (q8 1)) (v5 0) u8 (z6 vS (q0 (q8 0) (q0 (q8 1) (q0 (q8 2) x6)))))))
  (λ(i:Nat)=>PV.at (.int ((0:Int)+i))) (λl ε=>∃(k:Nat)(s2 s3:MSlot),l=(List.range h).drop k/\k<=h/\ε=[.sh (o4 rss),.sh (Qo (n8 rss k)),s2,s3]) (by
   rintro i l ε ⟨k,s2,s3,el,hk,rfl⟩;have hkl:k<h:=by
    have e5:(i::l).length=((List.range h).drop k).length:=by rw [<- el]
    rw [ut,uy,yA] at e5;omega
   have ei:i=k:=by
    have:((List.range h).drop k)[0]?=some i:=by rw [<- el];rfl
    rw [List.getElem?_drop,List.getElem?_range (by omega)] at this;simpa using this.symm
   have er:l=(List.range h).drop (k+1):=by
    have:((List.range h).drop k).tail=l:=by rw [<- el];rfl
    rw [<- this,List.tail_drop]
   subst ei;have S:=Shp.all G i hk;have hT:i<(n8 rss i).length:=by rw [S.len];omega
   have gD:(n8 rss i).getD i []=(n8 rss i)[i]:=o7 hT;have wl:=Rx G hk h4;refine ⟨_,_,rfl,b8 (zn (x:=qr (n8 rss i)[i]) (v9 rfl rfl ?_)) (zn (x:=Qo (n8 rss (i+1))) ?_),i+1,_,_,er,hkl,rfl⟩
   ·show atI ((n8 rss i).map qr) (0+(i:Int))=_;rw [Int.zero_add];exact xN (by rw [yM,yW hT];rfl)
   ·refine (t6 qr (λrow=>qr (thr row i (n8 rss i)[i])) (n8 rss i) rfl rfl (by rw [S.len];omega) λrow hr=>⟨_,rfl,j5 rfl ?_⟩).trans ?_
    ·show vS [qr row,.at (.int (0+(i:Int))),qr (n8 rss i)[i]]=_;rw [Int.zero_add];exact Rs (by rw [S.row row hr];exact hkl) (by rw [S.row row hr];exact h4) (wl row hr) (wl _ (yr hT))
    ·show _=some (PV.lst ((qE (n8 rss i) i).map qr));unfold qE;rw [yF,gD];rfl) (List.range h) _ ⟨0,.no,.no,rfl,yo _,rfl⟩
 obtain ⟨ε',e',k,s2,s3,el,hk,rfl⟩:=lp;have ek:k=h:=by have:=congrArg List.length el;rw [ut,uy] at this;simp at this;omega
 subst ek;exact t9 rfl (b8 (zn st) (b8 (xu rg e') (p7 rfl)))
theorem Rr (h4:ws.length<=4):Xk [qr ws]=some (qZ (ws.map (·.1))):=by have hlim:lim=1000000:=rfl;refine zm rfl (p7 ((t6 wyP (λw=>jM w.1) ws rfl rfl (by omega) λw _=>⟨_,rfl,rfl⟩).trans ?_));unfold qZ;rw [yF];rfl
theorem Rh (G:qT h rss)(h1:1<=h)(h4:h<=4):Xh [o4 rss]=some (o4 (jR rss h)):=by have hlim:lim=1000000:=rfl;have S:=Shp.all G h (yU _);refine zm rfl (b8 (QP (j5 rfl (HQ G h1 h4))) (p7 ((t6 qr (λws=>qZ (ws.map (·.1))) (n8 rss h) (xw (j5 rfl (Ri G h1 h4))) rfl (by rw [S.len];omega) λws hw=>⟨_,rfl,j5 rfl (Rr (by rw [S.row ws hw];exact h4))⟩).trans ?_)));show _=some (PV.lst ((jR rss h).map qZ));unfold jR;rw [yF];rfl
def Dr.low (d:Dr):List (List Int):=jR d.rss d.h
def Pi:List Str:=["least","given","held","last","time"]
def Dr.ob (C:Addr)(d:Dr):PV:= .ob C Pi [o4 d.low,o4 d.rss,.fk (keysOf d.cls) (d.cls.map Cl.pv),.at (.int d.last),.at (.int d.time)]
def Dr.names (d:Dr):List Str:=d.cls.map Cl.name
section
variable {C:Addr}{d:Dr}
theorem Ra (ok:d.Ok):zN C [d.ob C]=some (.at (.int d.h)):=by have G:=UH ok.rin;refine t9 rfl (p7 (v9 (j5 (v7 (vH rfl rfl) rfl) rfl) rfl ?_));show some (PV.at (.int (((d.low.map qZ).length:Int)-1)))=_;rw [yZ,show d.low.length=d.h+1 from G.len,show ((d.h+1:Nat):Int)-1=(d.h:Int) by omega]
theorem Zp {b:M}{ks:List x8}{z:PV}{k:x8}(h1:a ε=some (.fk ks xs))(h2:b ε=some y)(h3:xh y=some k)(h4:i5 k ks xs=some z):zY a b ε=some z:=by unfold zY;rw [h1,h2];show (xh y).bind _=_;rw [h3];exact h4
theorem Pe {b:M}{ks:List x8}{k:x8}{o:Option PV}(h1:a ε=some (.fk ks xs))(h2:b ε=some y)(h3:xh y=some k)(h4:i5 k ks xs=o):QH b a ε=some (.at (.bl (!o.isSome))):=by unfold QH;rw [h1,h2];show (xh y).bind _=_;rw [h3,<- h4];rfl
theorem Kw (ok:d.Ok)(hc:c∈d.cls):jS C [d.ob C,.at (.str c.name)]=some c.pv:=by
 have lk:=ZL Cl.pv ok.nd c hc;refine t9 rfl (b8 (ql (ja (qB (qt (j5 rfl Ur))) (r9 (v:=false) ?_)) qD) (p7 ?_))
 ·exact Pe (vH rfl rfl) rfl rfl lk
 ·exact Zp (vH rfl rfl) rfl rfl lk
theorem wx (a b:Int):pEq (.at (.int a)) (.at (.int b))=some (.at (.bl (decide (a=b)))):=by show some (PV.at (.bl (c5 (.int a) (.int b))))=_;have:c5 (.int a) (.int b)=decide (a=b):=rfl;rw [this]
theorem Di (a b:Int):pNe (.at (.int a)) (.at (.int b))=some (.at (.bl (!decide (a=b)))):=by show some (PV.at (.bl (!c5 (.int a) (.int b))))=_;have:c5 (.int a) (.int b)=decide (a=b):=rfl;rw [this]
structure Lst (d:Dr)(ns:List Cl):Prop where
 sub:∀ c∈ns,c∈d.cls
 nd:(ns.map Cl.name).Nodup
def w6 (cs:List Cl):PV:= .lst (w5 (cs.map Cl.name))
theorem Lst.len (ok:d.Ok)(L:Lst d ns):ns.length<=10:=by
 have:=UO L.nd (left:=d.cls.map Cl.name) λx hx=>by
  obtain ⟨c,hc,rfl⟩:=yE.mp hx;exact yE.mpr ⟨c,L.sub c hc,rfl⟩
 rw [yZ,yZ] at this;have:=ok.ten;omega
end
theorem CO {K:Fg}{R:It->Hp->Prop}{i:Nat}{xs:List V}(hi:σ[i]?=some (some (.ref p)))(hp:SqL K H p xs)(hl:xs.length<=1000)(q:R (Itr 0 xs.length) H):QV (i7 (tCB (wb K) (i7 (c6 i) o5)) o5) σ H R :=
 ⟨_,hi,.inl ⟨_,_,rfl,.inl ⟨xs,hp,rfl⟩,(xs.length:Int),rfl,by omega,by omega,by rw [ue];exact q⟩⟩
structure Tray (t:List Cl):Prop where
 ne:t≠[]
 one:∀ c∈t,∀ e∈t,c.hue=e.hue
structure Trays (d:Dr)(T:List (List Cl)):Prop where
 perm:T.flatten.Perm d.cls
 each:∀ t∈T,Tray t
def XB:List PV->Prop:=λxs=>∃ d:Dr,xs=[d.pv]/\d.Ok
def Qx:List PV->PV->Prop:=λxs y=>∃(d:Dr)(T:List (List Cl)),xs=[d.pv]/\y = .lst (T.map w6)/\Trays d T
theorem PB (h:spD XB Qx vs H Q E):vs.length=(["row","parts"]:List Str).length:=by obtain ⟨Hs,a,n,xs,ws,rfl,_,_,_,r,⟨d,rfl,_⟩,_⟩:=h;rw [yA,r.length];rfl
def y7 (cs:List Cl):List V:=cs.map λc=>V.str c.name
theorem zO (cs:List Cl):(y7 cs).length=cs.length:=yZ _
theorem wR (cs:List Cl):w5 (cs.map Cl.name)=(y7 cs).map PV.at:=by unfold w5 y7;rw [yF,yF];rfl
structure TI (H3:Hp)(a fr F:Addr)(H:Hp)(n:Int)(free:List Cl)(as:List Addr)(T:List (List Cl)):Prop where
 row:H a=some (.lst [.int n])
 fre:H fr=some (.lst (y7 free))
 top:H F=some (.lst (as.map V.ref))
 len:as.length=T.length
 tr:∀(i:Nat)(b:Addr)(t:List Cl),as[i]?=some b->T[i]?=some t->H b=some (.lst (y7 t))
 nd:(a::fr::F::as).Nodup
 new:∀ b∈as,H3 b=none
 kp:∀ b o,b≠a->b≠fr->b≠F->H3 b=some o->H b=some o
section
variable {H3 H:Hp}{a fr F p:Addr}{n m:Int}{free fre2:List Cl}{as:List Addr}{T:List (List Cl)}{o:HO}
theorem TI.ne (x:TI H3 a fr F H n free as T):a≠fr/\a≠F/\a∉as/\fr≠F/\fr∉as/\F∉as/\as.Nodup:=by obtain ⟨h1,h2⟩:=yx.mp x.nd;obtain ⟨h3,h4⟩:=yx.mp h2;obtain ⟨h5,h6⟩:=yx.mp h4;simp only [yP,not_or] at h1 h3;exact ⟨h1.1,h1.2.1,h1.2.2,h3.1,h3.2,h5,h6⟩
theorem TI.nb (x:TI H3 a fr F H n free as T)(hb:b∈as):b≠a/\b≠fr/\b≠F:=by obtain ⟨_,_,n3,_,n5,n6,_⟩:=x.ne;exact ⟨λz=>n3 (z▸hb),λz=>n5 (z▸hb),λz=>n6 (z▸hb)⟩
theorem TI.mem (x:TI H3 a fr F H n free as T)(hb:b∈as):∃(i:Nat)(t:List Cl),as[i]?=some b/\T[i]?=some t:=by obtain ⟨i,hi,e⟩:=List.mem_iff_getElem.mp hb;exact ⟨i,T[i]'(by rw [<- x.len];exact hi),by rw [yW hi,e],yW _⟩
theorem TI.setRow (x:TI H3 a fr F H n free as T):TI H3 a fr F (z5 H a (.lst [.int m])) m free as T:=by obtain ⟨n1,n2,n3,n4,n5,n6,_⟩:=x.ne;refine ⟨v6,by rw [z0 n1.symm];exact x.fre,by rw [z0 n2.symm];exact x.top,x.len,λi b t hb ht=>?_,x.nd,x.new,λb u h1 h2 h3 e=>by rw [z0 h1];exact x.kp b u h1 h2 h3 e⟩;rw [z0 (x.nb (ym hb)).1];exact x.tr i b t hb ht
theorem TI.setFre (x:TI H3 a fr F H n free as T):TI H3 a fr F (z5 H fr (.lst (y7 fre2))) n fre2 as T:=by obtain ⟨n1,n2,n3,n4,n5,n6,_⟩:=x.ne;refine ⟨by rw [z0 n1];exact x.row,v6,by rw [z0 n4.symm];exact x.top,x.len,λi b t hb ht=>?_,x.nd,x.new,λb u h1 h2 h3 e=>by rw [z0 h2];exact x.kp b u h1 h2 h3 e⟩;rw [z0 (x.nb (ym hb)).2.1];exact x.tr i b t hb ht
theorem TI.lay (x:TI H3 a fr F H n free as T)(hp:H p=none):TI H3 a fr F (z5 H p o) n free as T:=by
 have k:∀{b:Addr}{u:HO},H b=some u->z5 H p o b=some u:=λ{b u} e=>by rw [z0 (w4 e hp)];exact e
 exact ⟨k x.row,k x.fre,k x.top,x.len,λi b t hb ht=>k (x.tr i b t hb ht),x.nd,x.new,λb u h1 h2 h3 e=>k (x.kp b u h1 h2 h3 e)⟩
theorem TI.app (x:TI H3 a fr F H n free as T){i:Nat}(hb:as[i]?=some b)(ht:T[i]?=some t):TI H3 a fr F (z5 H b (.lst (y7 (t++[c])))) n free as (T.set i (t++[c])):=by
 obtain ⟨n1,n2,n3,n4,n5,n6,nd⟩:=x.ne;have bm:=ym hb;have hi:i<T.length:=(yz.mp ht).1;refine ⟨by rw [z0 (x.nb bm).1.symm];exact x.row,by rw [z0 (x.nb bm).2.1.symm];exact x.fre,by rw [z0 (x.nb bm).2.2.symm];exact x.top,by rw [yd];exact x.len,λj e u he hu=>?_,x.nd,x.new,λe u h1 h2 h3 z=>?_⟩
 ·by_cases hj:i=j
  ·subst hj;rw [hb] at he;cases he;rw [ug hi] at hu;cases hu;exact v6
  ·rw [yn hj] at hu;rw [z0 (λz=>?_)]
   ·exact x.tr j e u he hu
   ·subst z;obtain ⟨q1,e1⟩:=yz.mp hb;obtain ⟨q2,e2⟩:=yz.mp he;exact hj ((List.getElem_inj (h₀:=q1) (h₁:=q2) nd).mp (e1.trans e2.symm))
 ·rw [z0 (λy=>by rw [y,x.new b bm] at z;cases z)];exact x.kp e u h1 h2 h3 z
theorem jL {l:List α}{j i:Nat}{y b:α}(hj:j<=l.length)(h:(l.take j++y::l.drop j)[i]?=some b):(i<j/\l[i]?=some b)∨(i=j/\b=y)∨(j<i/\l[i-1]?=some b):=by
 rw [List.getElem?_append] at h;have tl:(l.take j).length=j:=by rw [uI];omega
 split at h
 ·rename_i hi;rw [tl] at hi;rw [List.getElem?_take_of_lt hi] at h;exact .inl ⟨hi,h⟩
 ·rename_i hi;rw [tl] at hi h;cases hk:i-j with
  |zero=>rw [hk] at h;cases h;exact .inr (.inl ⟨by omega,rfl⟩)
  |succ k=>rw [hk,List.getElem?_cons_succ,List.getElem?_drop] at h;refine .inr (.inr ⟨by omega,?_⟩);rw [show i-1=j+k by omega];exact h
theorem TI.ins (x:TI H3 a fr F H n free as T)(hp:H p=none)(h3:H3 p=none){c:Cl}{j:Nat}(hj:j<=as.length):TI H3 a fr F (z5 (z5 H p (.lst (y7 [c]))) F (.lst ((as.take j++p::as.drop j).map V.ref))) n free (as.take j++p::as.drop j) (T.take j++[c]::T.drop j):=by
 obtain ⟨n1,n2,n3,n4,n5,n6,nd⟩:=x.ne;have k:∀{b:Addr}{u:HO},H b=some u->z5 H p (.lst (y7 [c])) b=some u:=λ{b u} e=>by rw [z0 (w4 e hp)];exact e
 have pa:p≠a:=λz=>by rw [z,x.row] at hp;cases hp
 have pf:p≠fr:=λz=>by rw [z,x.fre] at hp;cases hp
 have pF:p≠F:=λz=>by rw [z,x.top] at hp;cases hp
 have ps:p∉as:=λz=>by
  obtain ⟨i,t,h1,h2⟩:=x.mem z;rw [x.tr i p t h1 h2] at hp;cases hp
 have pm:(as.take j++p::as.drop j).Perm (p::as):=by have:=uU (a:=p) (l₁:=as.take j) (l₂:=as.drop j);rwa [List.take_append_drop] at this
 have hT:j<=T.length:=by rw [<- x.len];exact hj
 refine ⟨by rw [z0 n2];exact k x.row,by rw [z0 n4];exact k x.fre,v6,by simp [x.len],λi b t hb ht=>?_,?_,λb hb=>?_,λb u h1 h2 h4 e=>by rw [z0 h4];exact k (x.kp b u h1 h2 h4 e)⟩
 ·have fb:b≠F:=λz=>by
   have:=pm.mem_iff.mp (ym hb);rw [z] at this;rcases yP.mp this with h|h
   ·exact pF h.symm
   ·exact n6 h
  rw [z0 fb];rcases jL hj hb with ⟨q1,q2⟩|⟨q1,rfl⟩|⟨q1,q2⟩<;>rcases jL hT ht with ⟨w1,w2⟩|⟨w1,rfl⟩|⟨w1,w2⟩<;>first|omega|exact k (x.tr _ b t q2 w2)|exact v6
 ·have:(a::fr::F::(as.take j++p::as.drop j)).Perm (p::a::fr::F::as):=by refine (((pm.cons F).cons fr).cons a).trans ?_;exact (((List.Perm.swap p F as).cons fr).cons a).trans ((List.Perm.swap p fr (F::as)).cons a |>.trans (List.Perm.swap p a (fr::F::as)))
  refine this.nodup_iff.mpr (yx.mpr ⟨?_,x.nd⟩);simp only [yP,not_or];exact ⟨pa,pf,pF,ps⟩
 ·rcases yP.mp (pm.mem_iff.mp hb) with rfl|h
  ·exact h3
  ·exact x.new b h
end
section
variable {K:Fg}{σ:St}{H:Hp}{Q:VK}{i:Nat}{p a:Addr}{xs:List V}{n m:Int}
theorem Jp (hi:σ[i]?=some (some (.ref p)))(hp:H p=some (.lst xs))(q:Q (.int xs.length) H):tCB (wb K) (i7 (c6 i) o5) σ H Q:=⟨_,hi,.inl ⟨_,_,rfl,.inl ⟨xs,SqL.of hp,rfl⟩,q⟩⟩
theorem GI (hi:σ[i]?=some (some (.ref p)))(hp:H p=some (.lst xs))(q:Q (.int (xs.length+1)) H):tOp (XH K) (tCB (wb K) (i7 (c6 i) o5)) (tC (.int 1)) σ H Q:=Jp hi hp (.inl ⟨_,_,rfl,rfl,q⟩)
theorem Jq {te:TE}(hi:σ[0]?=some (some (.ref a)))(ha:H a=some (.lst [.int n]))(h:∀{R:VK},R (.int m) H->te σ H R)(hc:wj n m)(q:Q (.int (n % m)) (z5 H a (.lst [.int (n / m)]))):zC xZ [] E0 (i7 (c6 0) (i7 te o5)) σ H Q :=
 ⟨_,hi,h ⟨a,n,m,rfl,ha,hc,q⟩⟩
end
theorem VG {K:Fg}{xs:List V}(h:H p=some (.lst xs)):tyV K "list" (.ref p) H:= .inl ⟨rfl,xs,SqL.of h⟩
theorem ZH:∀{kvs:List (x8×V)}{cs:List Cl},kvs.map (·.1)=keysOf cs->(kvs.map (·.2)=cs.map λc=>V.int c.hue)->kvs=cs.map λc=>((Sum.inr c.name:x8),V.int c.hue)
 |[],[],_,_=>rfl
 |[],_::_,h,_=>by cases h
 |_::_,[],h,_=>by cases h
 |(k,v)::kvs,c::cs,h1,h2=>by
  injection h1 with a1 b1;injection h2 with a2 b2;rw [ZH b1 b2,yO]
  congr 1
  exact Prod.ext a1 a2
theorem XC (f:Cl->PV):∀ cs:List Cl,xG (cs.map λc=>PV.tup [.at (.str c.name),f c])=some (cs.map λc=>((.inr c.name:x8),f c))
 |[]=>rfl
 |c::cs=>by
  show Option.bind (some (Sum.inr c.name:x8)) (λkk=>(xG (cs.map λc=>PV.tup [.at (.str c.name),f c])).map ((kk,f c)::·))=_;rw [XC f cs];rfl
theorem Zu {α:Type}:∀{T:List (List α)},(∀ t∈T,t≠[])->T.length<=T.flatten.length
 |[],_=>yU _
 |t::T,h=>by
  rw [yj,yJ,yA];have:=Zu (T:=T) λx hx=>h x (yN _ hx);have:=List.length_pos_iff.mpr (h t yQ);omega
theorem QR {α:Type}:∀{T:List (List α)}{t:List α},t∈T->t.length<=T.flatten.length
 |x::T,t,h=>by
  rw [yj,yJ];rcases yP.mp h with rfl|h
  ·omega
  ·have:=QR h;omega
theorem Ub {α:Type}:∀{T:List (List α)}{i:Nat}{t:List α}{c:α},T[i]?=some t->(T.set i (t++[c])).flatten.Perm (c::T.flatten)
 |[],i,_,_,h=>by simp at h
 |x::T,0,t,c,h=>by
  cases h;rw [List.set_cons_zero,yj,yj,uT];exact uU
 |x::T,i+1,t,c,h=>by
  rw [List.set_cons_succ,yj,yj];exact ((Ub (T:=T) (c:=c) (by simpa using h)).append_left x).trans uU
theorem Pj (T:List (List α))(j:Nat)(c:α):(T.take j++[c]::T.drop j).flatten.Perm (c::T.flatten):=by
 rw [List.flatten_append,yj];have:T.flatten=(T.take j).flatten++(T.drop j).flatten:=by rw [<- List.flatten_append,List.take_append_drop]
 rw [this];exact uU
theorem keyN (h:(cs.map Cl.name).Nodup):(keysOf cs).Nodup:=by
 have e:keysOf cs=(cs.map Cl.name).map λs=>(Sum.inr s:x8):=by unfold keysOf;rw [yF];rfl
 rw [e];exact List.Pairwise.map _ (λa b hab z=>hab (Sum.inr.inj z)) h
theorem nine {l:List α}(h:l.length=9):∃ a b c d e f g i j,l=[a,b,c,d,e,f,g,i,j]:=by
 match l,h with
 |[a,b,c,d,e,f,g,i,j],_=>exact ⟨a,b,c,d,e,f,g,i,j,rfl⟩
theorem Zz (nd:(cs.map Cl.name).Nodup)(hc:c∈cs):h8 (cs.map λc=>((Sum.inr c.name:x8),V.int c.hue)) (Sum.inr c.name)=some (.int c.hue):=by
 unfold L2.h8
 induction cs with
 |nil=>cases hc
 |cons x cs ih =>
  rw [yO,yx] at nd;rw [yO,uQ];rcases yP.mp hc with rfl|hc
  ·simp
  ·have:x.name≠c.name:=λe=>nd.1 (e▸yE.mpr ⟨c,hc,rfl⟩);rw [show decide ((Sum.inr x.name:x8)=Sum.inr c.name)=false by simp [this]];exact ih nd.2 hc
theorem seqS {t:TS}{f:MS}[sf:qh false t f]{ε':ME}(e:f ε=some (.nx ε'))(rs:RS Hs0 H0 Hs H σ ε)(k:∀ Hs H σ,RS Hs0 H0 Hs H σ ε'->u D σ H):tSeq t u D σ H:=sf.h e rs k
abbrev Vq:Stmt:=top 64
theorem sc_trays:v8 ["row","parts","hues","free","found","k","name","same","pick"] ["row","parts"] (z9 Vq):=y4
theorem Mp (F:Fun K "_law_trays" "_law_trays" Vq f fd)(Ac:Fn P w K mg base 1 "_law_digit" ["row","many"] xZ)(Au:mg "dict"=none)(Ad:mg "len"=none)(Ae:mg "range"=none):FnOk P w K mg base j6 2 f fd ["row","parts"] (spD XB Qx):=by
 refine F.ok (k:=1) sc_trays (λvs H Q E h=>PB h) (λcdv A outer s H vs Q E hr h=>⟨_,(j9 (sW 2 sc_trays.nd (jY (QC (K:=K) rfl rfl) rfl Au QB (aW (n9 (N':=["cloth"]) (cap:=[none]) (k8 rfl rfl rfl) rfl (@b9 _ K _ _ _ rfl (iW (K:=K) rfl (pv 1) z7)) (λ_ _ _ _ _ _=>(k6 (i:=0) (by show (["cloth"]:List Str).Nodup;decide +kernel) rfl (Or.inl rfl))) (λ_ _ _ _ _ _=>p5) (λ_ _ _ _ _ _=>(@xq _ _ _ _ _ (aC (iW (K:=K) rfl (pv 0) z7) (aW (iW (K:=K) rfl (pv 0) z7)))))))))
  (j9 (jk (i:=3) (N':=["cloth"]) (cap:=[none]) (k8 rfl rfl rfl) rfl sc_trays.nd rfl rfl (@b9 _ K _ _ _ rfl (iW (K:=K) rfl (pv 1) z7)) (λ_ _ _ _ _ _=>(k6 (i:=0) (by show (["cloth"]:List Str).Nodup;decide +kernel) rfl (Or.inl rfl))) (λ_ _ _ _ _ _=>p5) (λ_ _ _ _ _ _=>(iW (K:=K) rfl (pv 0) z7)))
  (j9 (sW 4 sc_trays.nd (@zy _ _ _ _ u5))
  (j9 (xr PassesOwn.never rfl (jj rfl Ae (aW (g9 (qi (K:=K) rfl) rfl Ad PySem.boot_len (aW (pv 3))))) (gW 5 sc_trays.nd)
   (j9 (sW 6 sc_trays.nd (jX (K:=K) rfl PySem.F.plainAttrs_list PySem.F.slot_list_pop PySem.F.type_list_pop ZV (pv 3) (j4 (fW Ac hr (aC (pv 0) (aW (g9 (qi (K:=K) rfl) rfl Ad PySem.boot_len (aW (pv 3)))))) u5)))
  (j9 (jk (i:=7) (N':=["tray","hues","name"]) (cap:=[none,some 2,some 6]) (k8 rfl rfl rfl) rfl sc_trays.nd rfl rfl (@b9 _ K _ _ _ rfl (pv 4)) (λ_ _ _ _ _ _=>(k6 (i:=0) (by show (["tray","hues","name"]:List Str).Nodup;decide +kernel) rfl (Or.inl rfl))) (λ_ _ _ _ _ _=>(Gr (o8 (zw (K:=K) (hu6 hr) rfl) (jZ (xg hr) (pv 1) (iW (K:=K) rfl (pv 0) z7) (λ_ _=>rfl)) (jZ (xg hr) (pv 1) (pv 2) (λ_ _=>rfl)) (p8 _)))) (λ_ _ _ _ _ _=>(pv 0)))
  (j9 (sW 8 sc_trays.nd (fW Ac hr (aC (pv 0) (aW (y9 (xo (K:=K) rfl) (g9 (qi (K:=K) rfl) rfl Ad PySem.boot_len (aW (pv 7))) z7)))))
  (j3 (c8 (o8 (Xq) (pv 8) (g9 (qi (K:=K) rfl) rfl Ad PySem.boot_len (aW (pv 7))) (p8 _)) (j3 (vb (jX (K:=K) rfl PySem.F.plainAttrs_list PySem.F.slot_list_append PySem.F.type_list_append UL (iW (K:=K) rfl (pv 7) (pv 8)) (j4 (pv 6) u5)))) (j3 (vb (jX (K:=K) rfl PySem.F.plainAttrs_list PySem.F.slot_list_insert PySem.F.type_list_insert Dg (pv 4) (j4 (fW Ac hr (aC (pv 0) (aW (y9 (xo (K:=K) rfl) (g9 (qi (K:=K) rfl) rfl Ad PySem.boot_len (aW (pv 4))) z7)))) (j4 (@zy _ _ _ _ (aW (pv 6))) u5)))))))))))
  (j3 (w9 (pv 4))))))),?_⟩)
 obtain ⟨Hs,a,n,xs,ws,rfl,sm,na,ha,r,⟨d,rfl,ok⟩,q⟩:=h;obtain ⟨v1,rr,rfl,p1,p2⟩:=reps_cons.mp r;cases reps_nil.mp p2;have hlim:lim=1000000:=rfl;have ten:=ok.ten;have rs0:RS Hs H Hs H _ _:=zR (N:=["row","parts","hues","free","found","k","name","same","pick"]) (xs:=[.op λ_ v=>v = .ref a,d.pv]) (vs:=[.ref a,v1]) sm (.cons (rep_op.mpr ⟨Hs,.refl _,rfl⟩) (.one p1));have e1:xf 2 (z6 jf (q0 (u7 [none] [0] (u4 (x9 j8 (q9 1) (dC (.int 1)))) (v5 0) u8 (f9 (q0 (x9 j8 (q9 0) (dC (.int 0))) (q0 (x9 j8 (q9 0) (dC (.int 1))) x6)))) x6)) [.sh (.op λ_ v=>v = .ref a),.sh d.pv,.no,.no,.no,.no,.no,.no,.no]=some (.nx [.sh (.op λ_ v=>v = .ref a),.sh d.pv,.sh (.fk (keysOf d.cls) (d.cls.map λc=> .at (.int c.hue))),.no,.no,.no,.no,.no,.no]):=by
  refine zn (j5 (v7 (t6 Cl.pv (λc=>PV.tup [.at (.str c.name),.at (.int c.hue)]) d.cls (xw (v9 rfl rfl rfl)) rfl (by omega) λc _=>⟨_,rfl,zo (v7 (v9 rfl rfl rfl) (v7 (v9 rfl rfl rfl) rfl)) l2⟩) rfl) ?_);show (xG (d.cls.map λc=>PV.tup [.at (.str c.name),.at (.int c.hue)])).bind _=_;have q1:(d.cls.map λc=>((.inr c.name:x8),PV.at (.int c.hue))).map (·.1)=keysOf d.cls:=by rw [yF];rfl
  have q2:(d.cls.map λc=>((.inr c.name:x8),PV.at (.int c.hue))).map (·.2)=d.cls.map λc=>PV.at (.int c.hue):=by rw [yF];rfl
  rw [XC,yB,q1,q2];exact if_pos ⟨keyN ok.nd,by rw [yZ];omega⟩
 have e2:vC 3 (u7 [none] [0] (u4 (x9 j8 (q9 1) (dC (.int 1)))) (v5 0) u8 (x9 j8 (q9 0) (dC (.int 0)))) [.sh (.op λ_ v=>v = .ref a),.sh d.pv,.sh (.fk (keysOf d.cls) (d.cls.map λc=> .at (.int c.hue))),.no,.no,.no,.no,.no,.no]=some (.nx [.sh (.op λ_ v=>v = .ref a),.sh d.pv,.sh (.fk (keysOf d.cls) (d.cls.map λc=> .at (.int c.hue))),.ow (.lst (d.cls.map λc=> .at (.str c.name))),.no,.no,.no,.no,.no]) :=
  Zr (t6 Cl.pv (λc=>PV.at (.str c.name)) d.cls (xw (v9 rfl rfl rfl)) rfl (by omega) λc _=>⟨_,rfl,v9 rfl rfl rfl⟩)
 have e3:vC 4 (zI x6) [.sh (.op λ_ v=>v = .ref a),.sh d.pv,.sh (.fk (keysOf d.cls) (d.cls.map λc=> .at (.int c.hue))),.ow (.lst (d.cls.map λc=> .at (.str c.name))),.no,.no,.no,.no,.no]=some (.nx [.sh (.op λ_ v=>v = .ref a),.sh d.pv,.sh (.fk (keysOf d.cls) (d.cls.map λc=> .at (.int c.hue))),.ow (.lst (d.cls.map λc=> .at (.str c.name))),.ow (.lst []),.no,.no,.no,.no]):=Zr (YW rfl l0);refine seqS e1 rs0 λHs1 H1 σ1 r1=>seqS e2 r1 λHs2 H2 σ2 r2=>seqS e3 r2 λHs3 H3 σ3 r3=>?_;clear r1 r2 e1 e2 e3 rs0;obtain ⟨w0,g0,c0⟩:=r3.sh 0 _ rfl;obtain ⟨_,_,rfl⟩:=rep_op.mp c0;obtain ⟨w1,g1,c1⟩:=r3.sh 1 _ rfl;obtain ⟨w2,g2,c2⟩:=r3.sh 2 _ rfl;obtain ⟨hu,oo,kvs,rfl,hk,k1,k2⟩:=rep_fk.mp c2;obtain ⟨fr,g3,n3,s3,fv,hf,rf⟩:=r3.ow 3 _ rfl;obtain ⟨F0,g4,n4,s4,ov,hF,rF⟩:=r3.ow 4 _ rfl;cases reps_nil.mp rF;have ffr:fr≠F0:=λz=>by
  subst z;exact absurd (r3.nd 3 4 _ _ fr rfl rfl g3 g4) (by decide)
 have efv:fv=y7 d.cls:=by
  have:Reps Hs3 ((y7 d.cls).map PV.at) fv:=by rw [<- wR];unfold w5;rw [yF];exact rf
  exact this.ats
 subst efv;have a3:H3 a=some (.lst [.int n]):=r3.ext.s2 _ _ ha;have sa:Hs3 a=none:=r3.ext.s4 a (by rw [ha];exact λz=>nomatch z) na;have anf:a≠fr:=λz=>by rw [<- z,ha] at n3;cases n3
 have anF:a≠F0:=λz=>by rw [<- z,ha] at n4;cases n4
 have ekv:kvs=d.cls.map λc=>((Sum.inr c.name:x8),V.int c.hue):=by
  have k3:kvs.map (·.2)=d.cls.map λc=>V.int c.hue:=by
   have:Reps Hs3 ((d.cls.map λc=>V.int c.hue).map PV.at) (kvs.map (·.2)):=by rw [yF];exact k2
   exact this.ats
  exact ZH k1 k3
 have T0:TI H3 a fr F0 H3 n d.cls [] []:=⟨a3,hf,hF,rfl,(λi b t z=>by simp at z),by simp [anf,anF,ffr],(λ_ z=>nomatch z),λ_ _ _ _ _ e=>e⟩;obtain ⟨x0,x1,x2,x3,x4,s5,s6,s7,s8,rfl⟩:=nine r3.len;obtain rfl:x0=some (.ref a):=Option.some.inj g0;obtain rfl:x1=some w1:=Option.some.inj g1;obtain rfl:x2=some (.ref hu):=Option.some.inj g2;obtain rfl:x3=some (.ref fr):=Option.some.inj g3;obtain rfl:x4=some (.ref F0):=Option.some.inj g4;show tFor (QV (i7 (tCB (wb K) (i7 (c6 3) o5)) o5)) (qu 5) _ _ [some (.ref a),some w1,some (.ref hu),some (.ref fr),some (.ref F0),s5,s6,s7,s8] _;refine CO (K:=K) (i:=3) (p:=fr) (xs:=y7 d.cls) (σ:=[some (.ref a),some w1,some (.ref hu),some (.ref fr),some (.ref F0),s5,s6,s7,s8]) rfl (SqL.of hf) (by rw [zO];omega) ?_;rw [zO];have hua:hu≠a:=λz=>by rw [z,sa] at hk;cases hk
 have huf:hu≠fr:=λz=>by rw [z,s3] at hk;cases hk
 have huF:hu≠F0:=λz=>by rw [z,s4] at hk;cases hk
 have BT:=js;refine Ue (λi σ H2=>∃(n:Int)(free:List Cl)(as:List Addr)(T:List (List Cl))(s5 s6 s7 s8:Option V),σ=[some (.ref a),some w1,some (.ref hu),some (.ref fr),some (.ref F0),s5,s6,s7,s8]/\TI H3 a fr F0 H2 n free as T/\free.length+i=d.cls.length/\(T.flatten++free).Perm d.cls/\∀ t∈T,Tray t) ⟨n,d.cls,[],[],_,_,_,_,rfl,T0,rfl,.refl _,(λ_ z=>nomatch z)⟩ ?_ ?_
 ·rintro i σ H2 hi ⟨n2,free,as,T,s5,s6,s7,s8,rfl,X,fl,pm,tr⟩;have hfl:0<free.length:=by omega
  have tl:T.length<=10:=by have:=Zu λt ht=>(tr t ht).ne;have:=pm.length_eq;rw [yJ] at this;omega
  have c0:0<=n2 % (free.length:Int):=yq _ (by omega);have c1:n2 % (free.length:Int)<(free.length:Int):=yt _ (by omega);obtain ⟨j,hj⟩:=uW c0;have jl:j<free.length:=by omega
  refine ⟨_,rfl,VG X.fre,Jq (m:=(free.length:Int)) rfl X.row (λ{R} z=>Jp (K:=K) (i:=3) rfl X.fre (by rw [zO];exact z)) (xQ (by omega) (by omega)) ?_⟩;have X1:=X.setRow (m:=n2 / (free.length:Int));refine ⟨fr,y7 free,_,j,.str free[j].name,rfl,rfl,X1.fre,by omega,by omega,?_,?_,?_⟩
  ·rw [hj,PySem.StrLaws.seqIndex_nonneg (by omega) (by rw [zO];omega),ue]
  ·unfold y7;rw [yM,yW jl];rfl
  have X2:=X1.setFre (fre2:=free.eraseIdx j);rw [show (y7 free).eraseIdx j=y7 (free.eraseIdx j) from Zn _ _ _];generalize z5 (z5 H2 a (.lst [.int (n2 / (free.length:Int))])) fr (.lst (y7 (free.eraseIdx j)))=Ha at X2 ⊢;clear X X1;have pe:=Jj jl;generalize hc:free[j]=c at pe ⊢;have cm:c∈d.cls:=pm.mem_iff.mp (yv _ (hc▸yr jl));have lf:(free.eraseIdx j).length+(i+1)=d.cls.length:=by rw [List.length_eraseIdx_of_lt jl];omega
  have pm2:(T.flatten++c::free.eraseIdx j).Perm d.cls:=(pe.append_left _).trans pm;have hd:Rd Ha hu (.dK kvs):= .inr ⟨oo,X2.kp hu _ hua huf huF (r3.ext.s3 _ _ hk)⟩;have tm:∀ t∈T,∀ e∈t,e∈d.cls:=λt ht e he=>pm.mem_iff.mp (uD _ (List.mem_flatten.mpr ⟨t,ht,he⟩));have al:(as.map V.ref).length<=10:=by rw [yZ,X2.len];exact tl
  refine ⟨_,rfl,F0,rfl,⟨_,SqL.of X2.top⟩,YD (xs:=as.map V.ref) (λi ys H=>H=Ha/\ys.length<=i/\∀ y∈ys,∃(k:Nat)(b:Addr)(t:List Cl),as[k]?=some b/\T[k]?=some t/\y = .ref b/\∀ e∈t,e.hue=c.hue) ⟨rfl,yU _,(λ_ z=>nomatch z)⟩ (λi ys H hi h=>qF (by have:=h.2.1;omega)) (λi ys H _ h=>h.1▸SqL.of X2.top) ?_ ?_⟩
  ·rintro k x ys _ R hx ⟨rfl,hl,hy⟩ hR;rw [yM] at hx;obtain ⟨b,hb,rfl⟩:=yL.mp hx;obtain ⟨kl,_⟩:=yz.mp hb;have kT:k<T.length:=by rw [<- X2.len];exact kl
   have ht:=yW kT;generalize T[k]=t at ht;have mt:=ym ht;have Tt:=tr t mt;have hH:=X2.tr k b t hb ht;obtain ⟨e0,t',rfl⟩:=List.exists_cons_of_ne_nil Tt.ne;have em:e0∈d.cls:=tm _ mt e0 yQ;refine ⟨Wk.one rfl,⟨_,rfl,⟨_,rfl,.inl ⟨b,y7 (e0::t'),0,.str e0.name,rfl,rfl,SqL.of hH,xN (j:=0) (show (y7 (e0::t'))[0]?=_ from rfl),⟨hu,.int e0.hue,rfl,.inl ⟨kvs,.inr e0.name,hd,rfl,by rw [ekv];exact (Zz ok.nd em).symm⟩,⟨_,rfl,⟨_,rfl,⟨hu,.int c.hue,rfl,.inl ⟨kvs,.inr c.name,hd,rfl,by rw [ekv];exact (Zz ok.nd cm).symm⟩,⟨c5 (.int e0.hue) (.int c.hue),.inl ⟨rfl,rfl,rfl⟩,⟨_,rfl,?_⟩⟩⟩⟩⟩⟩⟩⟩⟩⟩;have ev:c5 (.int e0.hue) (.int c.hue)=decide ((e0.hue:Int)=c.hue):=rfl;show (if c5 (.int e0.hue) (.int c.hue)=true then _ else _);rw [ev];by_cases he:(e0.hue:Int)=c.hue
   ·rw [if_pos (yC he)];refine ⟨_,rfl,hR _ _ ⟨rfl,by rw [yJ];simp;omega,λy hm=>?_⟩⟩;rcases yu.mp hm with hm|hm
    ·exact hy y hm
    ·exact ⟨k,b,_,hb,ht,yR.mp hm,λe h=>by have:=Tt.one e h e0 yQ;omega⟩
   ·rw [if_neg (by rw [yD he];exact yS)];exact hR _ _ ⟨rfl,by omega,hy⟩
  rintro ys Ha ⟨rfl,hl,hy⟩ S hS;have X3:=X2.lay (o:= .lst ys) hS;have hSl:z5 Ha S (.lst ys) S=some (.lst ys):=v6;have Sa:S≠a:=λz=>by rw [z,X2.row] at hS;cases hS
  generalize z5 Ha S (.lst ys)=Hb at X3 hSl ⊢;clear X2 hd hS;refine Jq (m:=(ys.length:Int)+1) rfl X3.row (λ{R} z=>GI (K:=K) (i:=7) rfl hSl z) (xQ (by omega) (by omega)) ?_;generalize n2 / (free.length:Int)=n3 at X3 ⊢;have X4:=X3.setRow (m:=n3 / ((ys.length:Int)+1));have d0:0<=n3 % ((ys.length:Int)+1):=yq _ (by omega);have d1:n3 % ((ys.length:Int)+1)<(ys.length:Int)+1:=yt _ (by omega);obtain ⟨k,hk2⟩:=uW d0;rw [hk2];have hS2:z5 Hb a (.lst [.int (n3 / ((ys.length:Int)+1))]) S=some (.lst ys):=by rw [z0 Sa];exact hSl
  generalize n3 / ((ys.length:Int)+1)=n4 at X4 hS2 ⊢;generalize z5 Hb a (.lst [.int n4])=Hc at X4 hS2 ⊢;clear X3 hSl;refine ⟨_,rfl,Jp (K:=K) (i:=7) rfl hS2 ⟨_,_,rfl,rfl,⟨_,rfl,?_⟩⟩⟩;by_cases hp:(k:Int)<(ys.length:Int)
  ·refine Eq.mpr (if_pos (yC hp)) ?_;have kl:k<ys.length:=by omega
   obtain ⟨i2,b,t,hb,ht,ey,hh⟩:=hy ys[k] (yr kl);have mt:=ym ht;have tl2:(y7 t).length<sizeLine:=QY (by
    have:=QR mt;have:=pm.length_eq;rw [yJ] at this;rw [zO];omega)
   have hH:=X4.tr i2 b t hb ht;refine ⟨_,rfl,_,rfl,.inl ⟨S,ys,(k:Int),.ref b,rfl,rfl,SqL.of hS2,xN (by rw [yW kl,ey]),VG hH,_,rfl,b,y7 t,_,rfl,rfl,hH,tl2,?_⟩⟩;have X5:=X4.app (c:=c) hb ht;rw [show y7 t++[V.str c.name]=y7 (t++[c]) by unfold y7;rw [yw];rfl];refine ⟨n4,free.eraseIdx j,as,T.set i2 (t++[c]),_,_,_,_,rfl,X5,lf,?_,λu hu2=>?_⟩
   ·refine ((Ub ht).append_right _).trans (List.Perm.trans ?_ pm2);exact uU.symm
   ·rcases List.mem_or_eq_of_mem_set hu2 with h|rfl
    ·exact tr u h
    ·refine ⟨by simp,λx hx e he=>?_⟩;have hx':x.hue=c.hue:=by
      rcases yu.mp hx with h|h
      ·exact hh x h
      ·rw [yR.mp h]
     have he':e.hue=c.hue:=by
      rcases yu.mp he with h|h
      ·exact hh e h
      ·rw [yR.mp h]
     rw [hx',he']
  ·refine Eq.mpr (if_neg (by rw [yD hp];exact yS)) ?_;have al2:(as.map V.ref).length=as.length:=yZ _;refine ⟨_,rfl,VG X4.top,Jq (m:=((as.map V.ref).length:Int)+1) rfl X4.row (λ{R} z=>GI (K:=K) (i:=4) rfl X4.top z) (xQ (by omega) (by omega)) ?_⟩;have X5:=X4.setRow (m:=n4 / (((as.map V.ref).length:Int)+1));have f0:0<=n4 % (((as.map V.ref).length:Int)+1):=yq _ (by omega);have f1:n4 % (((as.map V.ref).length:Int)+1)<((as.map V.ref).length:Int)+1:=yt _ (by omega);obtain ⟨z,hz⟩:=uW f0;rw [hz];generalize n4 / (((as.map V.ref).length:Int)+1)=n5 at X5 ⊢;generalize z5 Hc a (.lst [.int n5])=Hd at X5 ⊢;clear X4 hS2;refine ⟨_,rfl,(by show 1<=sizeLine;exact qF l1),λp hp2=>⟨F0,as.map V.ref,(z:Int),.ref p,rfl,rfl,?_,by omega,by omega,by omega,?_⟩⟩
   ·exact (X5.lay hp2).top
   have h3p:H3 p=none:=by
    cases hq:H3 p with
    |none=>rfl
    |some o =>
     by_cases h1:p=a
     ·rw [h1,X5.row] at hp2;cases hp2
     ·by_cases h2:p=fr
      ·rw [h2,X5.fre] at hp2;cases hp2
      ·by_cases h3:p=F0
       ·rw [h3,X5.top] at hp2;cases hp2
       ·rw [X5.kp p o h1 h2 h3 hq] at hp2;cases hp2
   have X6:=X5.ins hp2 h3p (c:=c) (j:=z) (by omega);rw [ue];rw [show (as.map V.ref).take z++V.ref p::(as.map V.ref).drop z=(as.take z++p::as.drop z).map V.ref by rw [yw,yO,List.map_take,List.map_drop]];refine ⟨n5,free.eraseIdx j,_,_,_,_,_,_,rfl,X6,lf,?_,λu hu2=>?_⟩
   ·exact ((Pj T z c).append_right _).trans (uU.symm.trans pm2)
   ·rcases yu.mp hu2 with h|h
    ·exact tr u (List.mem_of_mem_take h)
    ·rcases yP.mp h with rfl|h
     ·exact ⟨by simp,λx hx e he=>by rw [yR.mp hx,yR.mp he]⟩
     ·exact tr u (List.mem_of_mem_drop h)
 ·rintro σ H2 ⟨n2,free,as,T,s5,s6,s7,s8,rfl,X,fl,pm,tr⟩;have f0:free=[]:=List.eq_nil_of_length_eq_zero (by omega);subst f0;rw [yk] at pm;have nn:∀ b,b=F0∨b∈as->H b=none:=λb hb=>by
   rcases hb with rfl|hb
   ·exact n4
   ·have:=X.new b hb;cases z:H b with
    |none=>rfl
    |some o=>rw [r3.ext.s2 _ _ z] at this;cases this
  have sn:∀ b,b=F0∨b∈as->Hs3 b=none:=λb hb=>by
   rcases hb with rfl|hb
   ·exact s4
   ·have:=X.new b hb;cases z:Hs3 b with
    |none=>rfl
    |some o=>rw [r3.ext.s3 _ _ z] at this;cases this
  have sm3:Same Hs3 H2:=λb o z=>X.kp b o (λy=>by rw [y,sa] at z;cases z) (λy=>by rw [y,s3] at z;cases z) (λy=>by rw [y,s4] at z;cases z) (r3.ext.s3 _ _ z)
  open Classical in
  let Hs':Hp:=λb=>if b=F0∨b∈as then H2 b else Hs3 b
  have hin:∀ b,(b=F0∨b∈as)->Hs' b=H2 b:=λb hb=>if_pos hb;have hout:∀ b,¬ (b=F0∨b∈as)->Hs' b=Hs3 b:=λb hb=>if_neg hb
  clear_value Hs'
  have ao:¬ (a=F0∨a∈as):=λy=>by rw [nn a y] at ha;cases ha
  refine ⟨_,rfl,q (.lst (T.map w6)) (.ref F0) n2 Hs' H2 ⟨d,T,rfl,rfl,pm,tr⟩ ⟨λb o z=>?_,λb o z nb=>?_,λb o z=>?_,λb hb z=>?_⟩ (by rw [hout a ao];exact sa) X.row (rep_lst.mpr ⟨F0,as.map V.ref,rfl,by rw [hin F0 (.inl rfl)];exact X.top,?_⟩)⟩
  ·have z1:=r3.ext.s1 _ _ z;rw [hout b (λy=>by rw [sn b y] at z1;cases z1)];exact z1
  ·have z1:=r3.ext.s2 _ _ z;exact X.kp b o nb (λy=>by rw [y,n3] at z;cases z) (λy=>by rw [y,n4] at z;cases z) z1
  ·by_cases hb:b=F0∨b∈as
   ·rw [hin b hb] at z;exact z
   ·rw [hout b hb] at z;exact sm3 _ _ z
  ·rw [hout b (λy=>hb (nn b y))];exact r3.ext.s4 b hb z
  ·have go:∀(as2:List Addr)(T2:List (List Cl)),as2.length=T2.length->(∀(i:Nat)(b:Addr)(t:List Cl),as2[i]?=some b->T2[i]?=some t->Hs' b=some (.lst (y7 t)))->Reps Hs' (T2.map w6) (as2.map V.ref):=by
    intro as2
    induction as2 with
    |nil =>
     intro T2 hl _;cases T2 with
     |nil=>exact .nil
     |cons _ _=>cases hl
    |cons b as2 ih =>
     intro T2 hl hr;cases T2 with
     |nil=>cases hl
     |cons t T2=>refine .cons (rep_lst.mpr ⟨b,y7 t,rfl,hr 0 b t rfl rfl,?_⟩) (ih T2 (by simpa using hl) λi e u he hu=>hr (i+1) e u he hu);rw [wR];exact Reps.ofAts _
   exact go as T X.len λi b t hb ht=>by rw [hin b (.inr (ym hb))];exact X.tr i b t hb ht
section
variable {C:Addr}{d:Dr}
theorem wy {f:Str}{ns:List Str}(h1:a ε=some y)(h0:ε[0]?=some (.ow (.ob C ns xs)))(hf:f∉ns)(hl:ns.length<1000):zj C f a ε=some (.nx (ε.set 0 (.ow (.ob C (ns++[f]) (xs++[y]))))):=by unfold zj;rw [h1,yB,h0];exact if_pos ⟨rfl,hf,hl⟩
theorem YX {nm:Str}{m:List PV->Option PV}{i:Nat}{as:MA}{ns:List Str}{fs:List PV}{u:V}(h0:ε[i]?=some (.ow (.ob C ns fs)))(hn:nm∉ns)(k:as ε=some xs)(e:m (.ob C ns fs::xs)=some (.at u)):vB C nm m i as ε=some (.at u):=by unfold vB;rw [h0];show (if C=C/\nm∉ns then _ else _)=_;rw [if_pos ⟨rfl,hn⟩,k,yB,e];rfl
theorem Kx (ok:d.Ok):zN C [.ob C ["least"] [o4 d.low]]=some (.at (.int d.h)):=by have G:=UH ok.rin;refine t9 rfl (p7 (v9 (j5 (v7 (vH rfl rfl) rfl) rfl) rfl ?_));show some (PV.at (.int (((d.low.map qZ).length:Int)-1)))=_;rw [yZ,show d.low.length=d.h+1 from G.len,show ((d.h+1:Nat):Int)-1=(d.h:Int) by omega]
theorem Gn:∀ cs:List Cl,xG (cs.map λc=>PV.tup [.at (.str c.name),c.pv])=some (cs.map λc=>((.inr c.name:x8),c.pv))
 |[]=>rfl
 |c::cs=>by
  show Option.bind (some (Sum.inr c.name)) (λkk=>(xG (cs.map λc=>PV.tup [.at (.str c.name),c.pv])).map ((kk,c.pv)::·))=_;rw [yB,Gn cs];rfl
theorem CH (h:(cs.map Cl.name).Nodup):(keysOf cs).Nodup:=by
 induction cs with
 |nil=>exact List.nodup_nil
 |cons c cs ih=>rw [yO] at h;have h':=yx.mp h;refine yx.mpr ⟨λz=>?_,ih h'.2⟩;obtain ⟨y,hy,e⟩:=yE.mp z;injection e with e;exact h'.1 (yE.mpr ⟨y,hy,e⟩)
theorem Rb (ok:d.Ok):vP C [o4 d.rss,.lst (d.cls.map Cl.pv),.at (.int d.last),.at (.int d.time)]=some (d.ob C):=by
 have hlim:lim=1000000:=rfl;have ten:=ok.ten;have glen:=ok.rin.len;have h4:=ok.h4;have cp:∀(s0 s2 s3 s4:MSlot),u7 [none] [0] (u4 (q8 1)) (v5 0) u8 (z6 jW (q0 (q9 0) x6)) [s0,.sh (o4 d.rss),s2,s3,s4]=some (o4 d.rss):=λs0 s2 s3 s4 =>
  t6 qZ qZ d.rss rfl rfl (by omega) λr _=>⟨_,rfl,rfl⟩
 have dk:∀(s0 s1 s3 s4:MSlot),z6 jf (q0 (u7 [none] [0] (u4 (q8 2)) (v5 0) u8 (f9 (q0 (z6 xn (q0 (q8 0) x6)) (q0 (q8 0) x6)))) x6) [s0,s1,.sh (.lst (d.cls.map Cl.pv)),s3,s4]=some (.fk (keysOf d.cls) (d.cls.map Cl.pv)):=λs0 s1 s3 s4=>by
  refine j5 (v7 (t6 Cl.pv (λc=>PV.tup [.at (.str c.name),c.pv]) d.cls rfl rfl (by omega) λc _=>⟨_,rfl,zo (v7 (j5 rfl rfl) (v7 rfl rfl)) l2⟩) rfl) ?_;show (xG (d.cls.map λc=>PV.tup [.at (.str c.name),c.pv])).bind _=_;have k1:(d.cls.map λc=>((.inr c.name:x8),c.pv)).map (·.1)=keysOf d.cls:=by rw [yF];rfl
  have k2:(d.cls.map λc=>((.inr c.name:x8),c.pv)).map (·.2)=d.cls.map Cl.pv:=by rw [yF];rfl
  rw [Gn,yB,k1,k2];exact if_pos ⟨CH ok.nd,by rw [yZ];omega⟩
 have run:Qz C [.ow (.ob C [] []),.sh (o4 d.rss),.sh (.lst (d.cls.map Cl.pv)),.sh (.at (.int d.last)),.sh (.at (.int d.time))]=some (.nx [.ow (d.ob C),.sh (o4 d.rss),.sh (.lst (d.cls.map Cl.pv)),.sh (.at (.int d.last)),.sh (.at (.int d.time))]) :=
  b8 (wy (j5 rfl (Rh ok.rin ok.h1 ok.h4)) rfl (by decide) (by decide)) (b8 (QP (j5 (v7 rfl (v7 rfl (v7 (YX rfl (by decide) rfl (Kx ok)) rfl))) (HS ok.l1 ok.l2 ok.t1)))
   (b8 (QP (j5 (v7 rfl (v7 (YX rfl (by decide) rfl (Kx ok)) rfl)) (HP ok.cl ok.nd ok.ten)))
   (b8 (wy (cp _ _ _ _) rfl (by decide) (by decide)) (b8 (wy (dk _ _ _ _) rfl (by decide) (by decide)) (b8 (wy (y:= .at (.int d.last)) (f:="last") (ns:=["least","given","held"]) (YV (r9 (v:=false) (v9 rfl rfl rfl)) rfl) rfl (by decide) (by decide)) (wy (y:= .at (.int d.time)) (f:="time") (ns:=["least","given","held","last"]) (xs:=[o4 d.low,o4 d.rss,.fk (keysOf d.cls) (d.cls.map Cl.pv),.at (.int d.last)]) rfl rfl (by decide) (by decide)))))))
 unfold vP wv;refine (if_pos rfl).trans ?_;show (Qz C [.ow (.ob C [] []),.sh (o4 d.rss),.sh (.lst (d.cls.map Cl.pv)),.sh (.at (.int d.last)),.sh (.at (.int d.time))]).bind _=_;rw [run];rfl
end
section
variable {C:Addr}{d:Dr}
theorem CG (cs:List Cl):jc (keysOf cs)=some (cs.map Cl.name):=by
 induction cs with
 |nil=>rfl
 |cons c cs ih=>show (jc (keysOf cs)).map (c.name::·)=_;rw [ih];rfl
theorem NZ (ss:List Str):jp (w5 ss)=some ss:=by
 induction ss with
 |nil=>rfl
 |cons s ss ih=>show (jp (w5 ss)).map (s::·)=_;rw [ih];rfl
theorem Kz (ok:d.Ok):jT C [d.ob C]=some (.lst (w5 (zS d.names))):=by refine zm rfl (p7 (j5 (v7 (vH rfl rfl) rfl) ?_));show (jc (keysOf d.cls)).bind _=_;rw [CG,yB,if_pos (by rw [yZ];have:=ok.ten;omega)];rfl
theorem GV {ss:List Str}(h:ss.Nodup):∀ i,i<=ss.length->k9 (λi=>(Sum.inr (ss.getD i ⟨#[]⟩):x8)) i=(ss.take i).map Sum.inr
 |0,_=>rfl
 |i+1,hi=>by
  have ih:=GV h i (by omega);have hl:i<ss.length:=by omega
  have eg:ss.getD i ⟨#[]⟩=ss[i]:=o7 hl;have hn:ss[i]∉ss.take i:=λz=>by
   have e:ss=ss.take i++ss[i]::ss.drop (i+1):=by rw [<- ya hl,List.take_append_drop]
   rw [e] at h;exact (List.nodup_append.mp h).2.2 _ z _ yQ rfl
  unfold k9;rw [ih,eg,if_neg (λz=>hn (by
   obtain ⟨y,hy,e⟩:=yE.mp z;injection e with e;rw [<- e];exact hy)),List.take_add_one,yW hl,yw]
  rfl
theorem Dc {ss:List Str}(h:ss.Nodup):ZS ss=ss.length:=by unfold ZS;rw [GV h _ (yU _),yZ,ur]
theorem v_are (ok:d.Ok)(L:Lst d ns):wE C [d.ob C,w6 ns]=some (.at (.bl true)):=by
 have hlim:lim=1000000:=rfl;have l10:=L.len ok;have en:w5 (ns.map Cl.name)=(ns.map Cl.name).map λs=>PV.at (.str s):=rfl;refine t9 rfl (b8 (ql (qB (qt (j5 rfl ZC))) qD) (b8 (zn (jJ rfl (by decide) rfl (Kz ok))) (p7 (zk (j5 (v7 (t6 (λs:Str=>PV.at (.str s)) (λ_=>PV.at (.bl true)) (ns.map Cl.name) rfl rfl (by rw [yZ];omega) λs hs=>⟨_,rfl,v9 rfl rfl ((ZB false s _).trans ?_)⟩) rfl) (jy _)) (v9 (y:= .at (.int (ns.length:Int))) (x:= .at (.int (ns.length:Int))) ?_ ?_ (MH rfl))))))
 ·obtain ⟨c,hc,rfl⟩:=yE.mp hs;have:c.name∈zS d.names:=(Vy d.names).mem_iff.mpr (yE.mpr ⟨c,L.sub c hc,rfl⟩);simp [this]
 ·show (jp (w5 (ns.map Cl.name))).bind _=_;rw [NZ,yB,if_pos (by rw [yZ];omega),Dc L.nd,yZ]
 ·refine j5 rfl ?_;show some (PV.at (.int ((w5 (ns.map Cl.name)).length:Int)))=_;rw [zb,yZ]
end
section
variable {α:Type}
def xX (d0:α)(ks:List (Int×Str))(xs:List α):List α:=(jo ks).map λi=>xs.getD i d0
theorem Vw {i:Nat}(h:i∈jo ks):i<ks.length:=uZ.mp ((Qj ks).mem_iff.mp h)
theorem Gf (d0:α){xs:List α}(h:ks.length=xs.length):(xX d0 ks xs).Perm xs:=by have:=(Qj ks).map λi=>xs.getD i d0;rw [h,ZT] at this;exact this
theorem Zx (f:α->β)(d0:α)(e0:β){xs:List α}{i:Nat}(h:i<xs.length):(xs.map f).getD i e0=f (xs.getD i d0):=by rw [yb,yb,yM,yW h];rfl
theorem Lg (f:α->β)(d0:α)(e0:β){xs:List α}(h:ks.length=xs.length):(jo ks).map (λi=>(xs.map f).getD i e0)=(xX d0 ks xs).map f:=by unfold xX;rw [yF];exact uX λi hi=>Zx f d0 e0 (h▸Vw hi)
theorem Jk (d0:α)(key:α->Int×Str)(xs:List α):(xX d0 (xs.map key) xs).Pairwise λa b=>u6 (key b) (key a)=false:=by unfold xX;rw [List.pairwise_map];refine (GY (xs.map key)).imp_of_mem λ{a b} ha hb h=>?_;have la:=Vw ha;have lb:=Vw hb;rw [yZ] at la lb;unfold qm at h;rw [Zx key d0 _ la,Zx key d0 _ lb] at h;exact h
theorem Ux {kb:PV->Option PV}(f:α->PV)(key:α->Int×Str):∀{xs:List α},(∀ x∈xs,kb (f x)=some (.tup [.at (.int (key x).1),.at (.str (key x).2)]))->jP kb (xs.map f)=some (xs.map key)
 |[],_=>rfl
 |x::xs,h=>by
  rw [yO];unfold jP;rw [h x yQ,Ux f key λy hy=>h y (yN _ hy)];rfl
theorem KA (d0:α){kb:PV->Option PV}(f:α->PV)(key:α->Int×Str){xs:List α}(h:∀ x∈xs,kb (f x)=some (.tup [.at (.int (key x).1),.at (.str (key x).2)]))(l:xs.length<64)(nd:(xs.map key).Nodup):Je kb [.lst (xs.map f)]=some (.lst ((xX d0 (xs.map key) xs).map f)):=by show (jP kb (xs.map f)).bind _=_;rw [Ux f key h,yB,if_pos ⟨by rw [yZ];exact l,nd⟩,Lg f d0 _ (yZ _)]
end
theorem Dh (f:α->β){l:List α}(h:(l.map f).Nodup):l.Nodup:=List.Pairwise.of_map f (λ_ _ h e=>h (congrArg f e)) h
theorem UM {xs:List Cl}{g:Cl->Int}(nd:(xs.map Cl.name).Nodup):(xs.map λc=>(g c,c.name)).Nodup:=by refine Dh Prod.snd ?_;rw [yF];exact nd
def c0:Cl:=⟨"",0,0,0,0⟩
def m9 (c:Cl):Int×Str:=(c.due,c.name)
theorem HM {xs:List Cl}(nd:(xs.map Cl.name).Nodup)(l:xs.length<=10):Xb [.lst (xs.map Cl.pv)]=some (.lst ((xX c0 (xs.map m9) xs).map Cl.pv)) :=
 zm rfl (p7 (KA c0 Cl.pv m9 (λc _=>zo (v7 (j5 rfl rfl) (v7 (j5 rfl rfl) rfl)) l2) (by omega) (UM nd)))
theorem Rl {xs:List Cl}(l:xs.length<=10):Xj [.lst (xs.map Cl.pv)]=some (.lst (w5 (xs.map Cl.name))):=by have hlim:lim=1000000:=rfl;refine zm rfl (p7 ((t6 Cl.pv (λc=>PV.at (.str c.name)) xs rfl rfl (by omega) λc _=>⟨_,rfl,j5 rfl rfl⟩).trans ?_));unfold w5;rw [yF];rfl
section
variable {C:Addr}{d:Dr}
def Dr.inH (d:Dr)(h:Nat):List Cl:=d.cls.filter λc=>decide (c.hue=h)
theorem Uk (ok:d.Ok):(d.inH h).length<=10:=yp (List.length_filter_le _ _) ok.ten
theorem Ca (hc:c∈d.inH h):c∈d.cls:=(uE.mp hc).1
theorem PZ (ok:d.Ok):((d.inH h).map Cl.name).Nodup:=ok.nd.sublist (List.filter_sublist.map _)
theorem HV (ok:d.Ok)(h:Nat):wD C [d.ob C,.at (.int h)]=some (.lst ((d.inH h).map Cl.pv)):=by
 have hlim:lim=1000000:=rfl;have:=ok.ten;refine zm rfl (p7 (ev_cf Cl.pv Cl.pv (λc=>decide (c.hue=h)) d.cls ?_ rfl (by omega) λc _=>⟨_,rfl,r9 (v9 (j5 rfl rfl) rfl ((wx _ _).trans ?_)),λ_=>rfl⟩))
 ·show (xS C "held" (q8 0) _).bind _=_;rw [vH rfl rfl];rfl
 ·rw [show decide ((c.hue:Int)=(h:Int))=decide (c.hue=h) by rw [decide_eq_decide];omega]
def Dr.dueR (d:Dr)(h:Nat):List Cl:=xX c0 ((d.inH h).map m9) (d.inH h)
theorem ww (h:Nat):(d.dueR h).Perm (d.inH h):=Gf c0 (yZ _)
theorem HW (ok:d.Ok)(h:Nat):vO C [d.ob C,.at (.int h)]=some (.lst (w5 ((d.dueR h).map Cl.name))) :=
 zm rfl (p7 (j5 (v7 (j5 (v7 (jJ rfl (by decide) rfl (HV ok h)) rfl) (HM (PZ ok) (Uk ok))) rfl) (Rl (by have:=(ww (d:=d) h).length_eq;have:=Uk ok (h:=h);show (d.dueR h).length<=10;omega))))
end
theorem nm_F (l:List Cl):w5 (l.map Cl.name)=l.map λc=>PV.at (.str c.name):=by unfold w5;rw [yF];rfl
theorem ZY :(w5 (ns.map Cl.name)).length=ns.length:=by rw [zb,yZ]
def hueT:List Cl->Nat
 |[]=>0
 |c::_=>c.hue
def g8 (T:List (List Cl)):PV:= .lst (T.map w6)
section
variable {C:Addr}{d:Dr}{T:List (List Cl)}{t:List Cl}
theorem Trays.sub (x:Trays d T)(ht:t∈T):∀ c∈t,c∈d.cls:=λc hc=>x.perm.mem_iff.mp (List.mem_flatten.mpr ⟨t,ht,hc⟩)
theorem Trays.fl (x:Trays d T)(ok:d.Ok):T.flatten.length<=10:=by rw [x.perm.length_eq];exact ok.ten
theorem Trays.len (x:Trays d T)(ok:d.Ok):T.length<=10:=yp (Zu λt ht=>(x.each t ht).ne) (x.fl ok)
theorem Trays.tl (x:Trays d T)(ok:d.Ok)(ht:t∈T):t.length<=10:=yp (QR ht) (x.fl ok)
theorem Trays.lst (x:Trays d T)(ok:d.Ok):Lst d T.flatten:=⟨λc h=>x.perm.mem_iff.mp h,(x.perm.map Cl.name).nodup_iff.mpr ok.nd⟩
theorem HU (ok:d.Ok)(h:∀ c∈t,c∈d.cls)(hl:t.length<=10):wG C [d.ob C,w6 t]=some (.lst (t.map Cl.pv)):=by have hlim:lim=1000000:=rfl;exact t9 rfl (p7 (t6 (λc:Cl=>PV.at (.str c.name)) Cl.pv t (by show some (w5 (t.map Cl.name))=_;rw [nm_F]) rfl (by omega) λc hc=>⟨_,rfl,jJ rfl (by decide) rfl (Kw ok (h c hc))⟩))
theorem ix0 (c:Cl)(t:List Cl):j8 (w6 (c::t)) (.at (.int 0))=some (.at (.str c.name)):=xN (xs:=w5 ((c::t).map Cl.name)) (j:=0) rfl
theorem Rt (ok:d.Ok)(h:∀ c∈t,c∈d.cls)(ne:t≠[]):wQ C [d.ob C,w6 t]=some (.at (.int (hueT t))):=by
 cases t with
 |nil=>exact absurd rfl ne
 |cons c t=>exact t9 rfl (p7 (j5 (v7 (jJ rfl (by decide) (v7 (v9 rfl rfl (ix0 c t)) rfl) (Kw ok (h c yQ))) rfl) rfl))
theorem Tray.hue (x:Tray t):∀ c∈t,c.hue=hueT t:=λc hc=>by
 cases t with
 |nil=>cases hc
 |cons e t=>exact x.one c hc e yQ
theorem v_one (ok:d.Ok)(h:∀ c∈t,c∈d.cls)(hl:t.length<=10)(x:Tray t):wI C [d.ob C,w6 t]=some (.at (.bl true)):=by have hlim:lim=1000000:=rfl;refine t9 rfl (p7 (j5 (v7 (t6 Cl.pv (λ_=>PV.at (.bl true)) t (xw (j5 rfl (HU ok h hl))) rfl (by omega) λc hc=>⟨_,rfl,v9 (x:= .at (.int c.hue)) (j5 rfl rfl) (j5 rfl (Rt ok h x.ne)) ?_⟩) rfl) (jy _)));rw [x.hue c hc];exact (wx _ _).trans (by rw [yC rfl])
theorem Uq (xs:List PV):m4 [.lst xs,.at (.ty "list")]=some (.at (.bl true)):=by unfold m4 tyP;rfl
theorem HZ (ok:d.Ok)(x:Trays d T):Xa [g8 T]=some (.at (.bl true)):=by have hlim:lim=1000000:=rfl;have tl:=x.len ok;refine t9 rfl (p7 (zk (j5 rfl (Uq _)) (j5 (v7 (t6 w6 (λ_=>PV.at (.bl true)) T rfl rfl (by omega) λt ht=>⟨_,rfl,zk (j5 rfl (Uq _)) (v9 (x:= .at (.int (t.length:Int))) (j5 rfl (by show some (PV.at (.int ((w5 (t.map Cl.name)).length:Int)))=_;rw [ZY])) rfl ?_)⟩) rfl) (jy _))));have:=List.length_pos_iff.mpr (x.each t ht).ne;show some (PV.at (.bl (decide ((0:Int)<(t.length:Int)))))=_;rw [yC (by omega)]
theorem Ro (ok:d.Ok)(L:Lst d ns)(p:ns.Perm d.cls):wJ C [d.ob C,w6 ns]=some (.at (.bl true)):=by refine t9 rfl (p7 (zk (j5 rfl (v_are ok L)) (v9 (x:= .at (.int (ns.length:Int))) (y:= .at (.int (ns.length:Int))) (j5 rfl (by show some (PV.at (.int ((w5 (ns.map Cl.name)).length:Int)))=_;rw [ZY])) (j5 (v7 (jJ rfl (by decide) rfl (Kz ok)) rfl) ?_) ((wx _ _).trans (by rw [yC rfl])))));show some (PV.at (.int ((w5 (zS d.names)).length:Int)))=_;rw [zb,(Vy _).length_eq,p.length_eq];unfold Dr.names;rw [yZ]
theorem UI:∀ T:List (List Cl),jd (T.map w6)=some (T.map λt=>w5 (t.map Cl.name))
 |[]=>rfl
 |t::T=>by
  show (jd (T.map w6)).map (w5 (t.map Cl.name)::·)=_;rw [UI T];rfl
theorem Ua (T:List (List Cl)):(T.map λt=>w5 (t.map Cl.name)).flatten=w5 (T.flatten.map Cl.name):=by unfold w5;rw [List.map_flatten,List.map_flatten,yF];rfl
theorem HN (ok:d.Ok)(x:Trays d T):wF C [d.ob C,g8 T]=some (.at .non):=by have hlim:lim=1000000:=rfl;have tl:=x.len ok;have fl:=x.fl ok;refine QQ rfl (b8 (ql (ja (qB (qt (j5 rfl (HZ ok x)))) (qB (qt (j5 (v7 rfl (v7 ((Ph rfl (UI T) ?_).trans (by rw [Ua];rfl)) rfl)) (Ro ok (x.lst ok) x.perm))))) qD) (ql (qB (qt (j5 (v7 (t6 w6 (λ_=>PV.at (.bl true)) T rfl rfl (by omega) λt ht=>⟨_,rfl,j5 rfl (v_one ok (x.sub ht) (x.tl ok ht) (x.each t ht))⟩) rfl) (jy _)))) qD));rw [Ua,ZY];omega
def xy (s:Str)(t:List Cl):Bool:=decide (s∈t.map Cl.name)
def plc:List (List Cl)->Str->Option Nat
 |[],_=>none
 |t::T,s=>if xy s t=true then some 0 else (plc T s).map (·+1)
theorem Gh {t:List Cl}{T:List (List Cl)}:plc (t::T) s=if xy s t=true then some 0 else (plc T s).map (·+1):=rfl
def plP:Option Nat->PV
 |some k=> .at (.int k)
 |none=> .at .non
theorem Gi {s:Str}:∀{T:List (List Cl)}{t:List Cl},t∈T->s∈t.map Cl.name->∃ k,plc T s=some k
 |u::T,t,ht,hs=>by
  unfold plc;split
  ·exact ⟨0,rfl⟩
  ·rename_i h1;rcases yP.mp ht with rfl|ht
   ·exact absurd (yC hs) h1
   ·obtain ⟨k,hk⟩:=Gi ht hs;exact ⟨k+1,by rw [hk];rfl⟩
abbrev plG:MG:=zr 2 (qv (v5 2) (qv (v5 3) zq))
abbrev plB:MS:=m3 (dT (x9 (pIn false) (q9 1) (q9 3))) (y8 (q8 2)) r6
theorem Gg {x0:PV}{s:Str}:∀{T:List (List Cl)}{k:Nat}{u v:MSlot},(∃ j,plc T s=some j/\p9 plG plB (qC k (T.map w6)) [.sh x0,.sh (.at (.str s)),u,v]=some (.rt (.at (.int ((k+j:Nat):Int)))))∨(plc T s=none/\∃ u' v',p9 plG plB (qC k (T.map w6)) [.sh x0,.sh (.at (.str s)),u,v]=some (.nx [.sh x0,.sh (.at (.str s)),u',v']))
 |[],k,u,v=> .inr ⟨rfl,u,v,rfl⟩
 |t::T,k,u,v=>by
  have c1:dT (x9 (pIn false) (q9 1) (q9 3)) [.sh x0,.sh (.at (.str s)),.sh (.at (.int k)),.sh (w6 t)]=some (xy s t):=r9 (v9 rfl rfl (ZB false s (t.map Cl.name)));cases h:xy s t with
  |true=>refine .inl ⟨0,by unfold plc;rw [h];rfl,?_⟩;have b1:plB [.sh x0,.sh (.at (.str s)),.sh (.at (.int k)),.sh (w6 t)]=some (.rt (.at (.int k))):=Zq (c1.trans (by rw [h])) rfl;show Option.bind (plB [.sh x0,.sh (.at (.str s)),.sh (.at (.int k)),.sh (w6 t)]) _=_;rw [b1];rfl
  |false =>
   have b1:plB [.sh x0,.sh (.at (.str s)),.sh (.at (.int k)),.sh (w6 t)]=some (.nx [.sh x0,.sh (.at (.str s)),.sh (.at (.int k)),.sh (w6 t)]):=ql (c1.trans (by rw [h])) rfl;have st:p9 plG plB (qC k ((t::T).map w6)) [.sh x0,.sh (.at (.str s)),u,v]=p9 plG plB (qC (k+1) (T.map w6)) [.sh x0,.sh (.at (.str s)),.sh (.at (.int k)),.sh (w6 t)]:=by show Option.bind (plB [.sh x0,.sh (.at (.str s)),.sh (.at (.int k)),.sh (w6 t)]) _=_;rw [b1];rfl
   have ep:plc (t::T) s=(plc T s).map (·+1):=by rw [Gh,h];rfl
   rcases Gg (x0:=x0) (s:=s) (T:=T) (k:=k+1) (u:= .sh (.at (.int k))) (v:= .sh (w6 t)) with ⟨j,e1,e2⟩|⟨e1,u',v',e2⟩
   ·refine .inl ⟨j+1,by rw [ep,e1];rfl,?_⟩;rw [st,e2,show k+1+j=k+(j+1) by omega]
   ·exact .inr ⟨by rw [ep,e1];rfl,u',v',by rw [st,e2]⟩
theorem Rn :xB [g8 T,.at (.str s)]=some (plP (plc T s)):=by
 rcases Gg (x0:=g8 T) (s:=s) (T:=T) (k:=0) (u:= .no) (v:= .no) with ⟨j,e1,e2⟩|⟨e1,u',v',e2⟩
 ·rw [e1];refine t9 rfl ?_;show k5 (qS (jG (q0 (q8 0) x6)) plG plB) _ _=_;have:qS (jG (q0 (q8 0) x6)) plG plB [.sh (g8 T),.sh (.at (.str s)),.no,.no]=some (.rt (.at (.int ((0+j:Nat):Int)))):=xu (xs:=qC 0 (T.map w6)) rfl e2;unfold k5;show Option.bind (qS (jG (q0 (q8 0) x6)) plG plB [.sh (g8 T),.sh (.at (.str s)),.no,.no]) _=_;rw [this,Nat.zero_add];rfl
 ·rw [e1];exact t9 rfl (b8 (xu (xs:=qC 0 (T.map w6)) rfl e2) rfl)
def mvT (m:Str×Int):PV:= .tup [.at (.str m.1),.at (.int m.2)]
end
section
variable {C:Addr}{d:Dr}{T:List (List Cl)}{t:List Cl}{s:Str}{c:Cl}
theorem Uj (s:Str):∀ T:List (List Cl),vI (.bl true) (T.map λt=>V.bl (xy s t))=plc T s
 |[]=>rfl
 |t::T=>by
  show (if c5 (.bl (xy s t)) (.bl true)=true then some 0 else (vI (.bl true) (T.map λt=>V.bl (xy s t))).map (·+1))=_;rw [Uj s T,Gh];cases xy s t<;>rfl
theorem jz {α:Type}(f:α->V):∀ l:List α,ats (l.map λa=>PV.at (f a))=some (l.map f)
 |[]=>rfl
 |a::l=>by
  show (ats (l.map λa=>PV.at (f a))).map (f a::·)=_;rw [jz f l];rfl
theorem Rk {k:Nat}(hl:T.length<=10)(h:plc T s=some k):zv [g8 T,.at (.str s)]=some (.at (.int k)):=by have hlim:lim=1000000:=rfl;have cp:u7 [none,some 1] [0] (u4 (q8 0)) (v5 0) u8 (x9 (pIn false) (q9 1) (q9 0)) [.sh (g8 T),.sh (.at (.str s))]=some (.lst (T.map λt=>PV.at (.bl (xy s t)))):=t6 w6 (λt=>PV.at (.bl (xy s t))) T rfl rfl (by omega) λt _=>⟨_,rfl,v9 rfl rfl (ZB false s (t.map Cl.name))⟩;refine t9 rfl (p7 ?_);unfold Zf;show Option.bind (u7 [none,some 1] [0] (u4 (q8 0)) (v5 0) u8 (x9 (pIn false) (q9 1) (q9 0)) [.sh (g8 T),.sh (.at (.str s))]) _=_;rw [cp,yB];show (ats (T.map λt=>PV.at (.bl (xy s t)))).bind _=_;rw [jz (λt=>V.bl (xy s t)) T,yB,if_pos ⟨rfl,by simp [y6],by rw [yZ];omega⟩,Uj,h];rfl
theorem YZ:∀{l:List Cl}{c:Cl},(l.map Cl.name).Nodup->c∈l->l.filter (λe=>decide (e.name=c.name))=[c]
 |e::l,c,nd,hc=>by
  obtain ⟨h1,h2⟩:=yx.mp nd;rw [uq];by_cases he:e.name=c.name
  ·have ec:e=c:=by
    rcases yP.mp hc with z|z
    ·exact z.symm
    ·exact absurd (he▸yE.mpr ⟨c,z,rfl⟩) h1
   subst ec;rw [if_pos (yC rfl),List.filter_eq_nil_iff.mpr λa ha=>?_];have:a.name≠e.name:=λz=>h1 (z▸yE.mpr ⟨a,ha,rfl⟩);simp [this]
  ·have hc':c∈l:=by
    rcases yP.mp hc with z|z
    ·exact absurd (by rw [z]) he
    ·exact z
   rw [if_neg (by simp [he]),YZ h2 hc']
end
section
variable {C:Addr}{d:Dr}{T:List (List Cl)}{t:List Cl}{a b c:Cl}
theorem ZX (ok:d.Ok){c e:Cl}(hc:c∈d.cls)(he:e∈d.cls)(h:e.name=c.name):e=c:=by have p:=YZ ok.nd hc;have q:e∈d.cls.filter (λe=>decide (e.name=c.name)):=uE.mpr ⟨he,yC h⟩;rw [p] at q;exact yR.mp q
end
section
variable {C:Addr}{d:Dr}{T:List (List Cl)}{t:List Cl}
def pl (T:List (List Cl))(c:Cl):Nat:=(plc T c.name).getD 0
theorem hasP (x:Trays d T)(hc:c∈d.cls):∃ k,plc T c.name=some k:=by obtain ⟨t,ht,hct⟩:=List.mem_flatten.mp (x.perm.mem_iff.mpr hc);exact Gi ht (yE.mpr ⟨c,hct,rfl⟩)
theorem v_pl (x:Trays d T)(hc:c∈d.cls):xB [g8 T,.at (.str c.name)]=some (.at (.int (pl T c))):=by obtain ⟨k,hk⟩:=hasP x hc;rw [Rn,hk];unfold pl;rw [hk];rfl
def nxR (T:List (List Cl)):List Cl->Option (Cl×Cl)
 |a::b::r=>if pl T b<pl T a then some (a,b) else nxR T (b::r)
 |_=>none
def qp (T:List (List Cl)):List (List Cl)->Option (Cl×Cl)
 |[]=>none
 |r::R=>match nxR T r with
  |some p=>some p
  |none=>qp T R
def mvO (T:List (List Cl)):Option (Cl×Cl)->PV
 |none=> .at .non
 |some p=>mvT (p.2.name,(pl T p.1:Int))
abbrev nxG:MG:=zr 2 (qv (v5 3) (qv (v5 4) zq))
abbrev nxB:MS:=m3 (dT (x9 pLt (z6 xB (q0 (q8 1) (q0 (q8 4) x6))) (z6 xB (q0 (q8 1) (q0 (q8 3) x6))))) (y8 (f9 (q0 (q8 4) (q0 (z6 xB (q0 (q8 1) (q0 (q8 3) x6))) x6)))) r6
abbrev nxE (C:Addr)(d:Dr)(T:List (List Cl))(r u v:MSlot):ME:=[.sh (d.ob C),.sh (g8 T),r,u,v]
theorem UR (x:Trays d T){s2:MSlot}:∀{r:List Cl}{u v:MSlot},(∀ c∈r,c∈d.cls) -> (∃ p,nxR T r=some p/\p9 nxG nxB (qd (w5 (r.map Cl.name)) ((w5 (r.map Cl.name)).drop 1)) (nxE C d T s2 u v)=some (.rt (mvO T (some p))))∨(nxR T r=none/\∃ u' v',p9 nxG nxB (qd (w5 (r.map Cl.name)) ((w5 (r.map Cl.name)).drop 1)) (nxE C d T s2 u v)=some (.nx (nxE C d T s2 u' v')))
 |[],u,v,_=> .inr ⟨rfl,u,v,rfl⟩
 |[a],u,v,_=> .inr ⟨rfl,u,v,rfl⟩
 |a::b::r,u,v,h=>by
  have ha:=v_pl x (h a yQ);have hb:=v_pl x (h b (yN _ yQ));have c1:dT (x9 pLt (z6 xB (q0 (q8 1) (q0 (q8 4) x6))) (z6 xB (q0 (q8 1) (q0 (q8 3) x6)))) (nxE C d T s2 (.sh (.at (.str a.name))) (.sh (.at (.str b.name))))=some (decide ((pl T b:Int)<pl T a)):=r9 (v9 (j5 rfl hb) (j5 rfl ha) rfl);have st:∀ o,nxB (nxE C d T s2 (.sh (.at (.str a.name))) (.sh (.at (.str b.name))))=some o->p9 nxG nxB (qd (w5 ((a::b::r).map Cl.name)) ((w5 ((a::b::r).map Cl.name)).drop 1)) (nxE C d T s2 u v)=(match o with
   | .nx ε'=>p9 nxG nxB (qd (w5 ((b::r).map Cl.name)) ((w5 ((b::r).map Cl.name)).drop 1)) ε'
   | .ct ε'=>p9 nxG nxB (qd (w5 ((b::r).map Cl.name)) ((w5 ((b::r).map Cl.name)).drop 1)) ε'
   | .bk ε'=>some (.nx ε')
   | .rt y=>some (.rt y)):=λo e=>by
   show Option.bind (nxB (nxE C d T s2 (.sh (.at (.str a.name))) (.sh (.at (.str b.name))))) _=_;rw [e];cases o<;>rfl
  by_cases hl:pl T b<pl T a
  ·refine .inl ⟨(a,b),by unfold nxR;rw [if_pos hl],?_⟩;rw [yC (by omega)] at c1;rw [st _ (Zq c1 (p7 (zo (v7 rfl (v7 (j5 rfl ha) rfl)) l2)))];rfl
  ·rw [yD (by omega)] at c1;have en:nxR T (a::b::r)=nxR T (b::r):=by show (if pl T b<pl T a then some (a,b) else nxR T (b::r))=_;rw [if_neg hl]
   rw [en,st _ (ql c1 rfl)];exact UR x (r:=b::r) (λc hc=>h c (yN _ hc))
theorem BM (xs:List PV)(a:Nat):jE xs (some (a:Int)) none=xs.drop a:=by
 unfold jE;rw [HT.sIx_nat,HT.sIx_none];by_cases h:a<=xs.length
 ·rw [Nat.min_eq_left h,List.take_of_length_le (by rw [ut];omega)]
 ·rw [Nat.min_eq_right (by omega),uA,List.take_nil,List.drop_of_length_le (by omega)]
theorem LT {a:MA}{k:Nat}(h:a ε=some [.at (.int (k:Int))])(hk:k<=1000):xT a ε=some ((List.range k).map λ(i:Nat)=>PV.at (.int ((0:Int)+i))):=wc h (by have:lim=1000000:=rfl;omega)
def Dr.rows (d:Dr):List (List Cl):=(List.range d.h).map d.dueR
theorem HX (ok:d.Ok):vQ C [d.ob C]=some (.lst (d.rows.map w6)):=by
 have hlim:lim=1000000:=rfl;have h4:=ok.h4;refine zm rfl (p7 ((t6 (λ(i:Nat)=>PV.at (.int ((0:Int)+i))) (λi=>w6 (d.dueR i)) (List.range d.h) (LT (v7 (jJ rfl (by decide) rfl (Ra ok)) rfl) (by omega)) rfl (by rw [uy];omega) λi _=>⟨_,rfl,jJ rfl (by decide) rfl ?_⟩).trans ?_))
 ·show vO C [d.ob C,.at (.int ((0:Int)+i))]=_;rw [Int.zero_add];exact HW ok i
 ·unfold Dr.rows;rw [yF];rfl
abbrev nxF:MS:=qS (jH (q0 (q8 2) (q0 (vD (q9 2) (pSo (dC (.int 1))) pNo) x6))) nxG nxB
theorem US (x:Trays d T):∀{R:List (List Cl)}{s2 u v:MSlot},(∀ r∈R,∀ c∈r,c∈d.cls) -> (∃ p,qp T R=some p/\p9 (v5 2) nxF (R.map w6) (nxE C d T s2 u v)=some (.rt (mvO T (some p))))∨(qp T R=none/\∃ s2' u' v',p9 (v5 2) nxF (R.map w6) (nxE C d T s2 u v)=some (.nx (nxE C d T s2' u' v')))
 |[],s2,u,v,_=> .inr ⟨rfl,s2,u,v,rfl⟩
 |r::R,s2,u,v,h=>by
  have ez:jH (q0 (q8 2) (q0 (vD (q9 2) (pSo (dC (.int 1))) pNo) x6)) (nxE C d T (.sh (w6 r)) u v)=some (qd (w5 (r.map Cl.name)) ((w5 (r.map Cl.name)).drop 1)):=by unfold jH;rw [v7 rfl (v7 (ev_sl (xs:=w5 (r.map Cl.name)) rfl rfl rfl) rfl),yB];show some (qd (w5 (r.map Cl.name)) (jE (w5 (r.map Cl.name)) (some ((1:Nat):Int)) none))=_;rw [BM]
  rcases UR (C:=C) x (s2:= .sh (w6 r)) (r:=r) (u:=u) (v:=v) (h r yQ) with ⟨p,e1,e2⟩|⟨e1,u',v',e2⟩
  ·refine .inl ⟨p,by unfold qp;rw [e1],?_⟩;have e3:nxF (nxE C d T (.sh (w6 r)) u v)=some (.rt (mvO T (some p))):=xu ez e2;show Option.bind (nxF (nxE C d T (.sh (w6 r)) u v)) _=_;rw [e3];rfl
  ·have e3:nxF (nxE C d T (.sh (w6 r)) u v)=some (.nx (nxE C d T (.sh (w6 r)) u' v')):=xu ez e2;have en:qp T (r::R)=qp T R:=by show (match nxR T r with|some p=>some p|none=>qp T R)=_;rw [e1]
   have st:p9 (v5 2) nxF ((r::R).map w6) (nxE C d T s2 u v)=p9 (v5 2) nxF (R.map w6) (nxE C d T (.sh (w6 r)) u' v'):=by show Option.bind (nxF (nxE C d T (.sh (w6 r)) u v)) _=_;rw [e3];rfl
   rw [en,st];exact US x λq hq=>h q (yN _ hq)
theorem Ju:∀ r∈d.rows,∀ c∈r,c∈d.cls:=λr hr c hc=>by
 obtain ⟨h,_,rfl⟩:=yE.mp hr;exact Ca ((ww h).mem_iff.mp hc)
theorem Rm (ok:d.Ok)(x:Trays d T):wN C [d.ob C,g8 T]=some (mvO T (qp T d.rows)):=by
 have er:u4 (z6 (vQ C) (q0 (q8 0) x6)) (nxE C d T .no .no .no)=some (d.rows.map w6):=xw (j5 rfl (HX ok));rcases US (C:=C) x (R:=d.rows) (s2:= .no) (u:= .no) (v:= .no) Ju with ⟨p,e1,e2⟩|⟨e1,s2,u,v,e2⟩
 ·rw [e1];exact t9 rfl (YY (xu er e2))
 ·rw [e1];exact t9 rfl (b8 (xu er e2) rfl)
theorem Ja:∀{r:List Cl}{p:Cl×Cl},nxR T r=some p->p.1∈r/\p.2∈r/\pl T p.2<pl T p.1/\∃ l m,r=l++p.1::p.2::m
 |a::b::r,p,h=>by
  have h':(if pl T b<pl T a then some (a,b) else nxR T (b::r))=some p:=h;split at h'
  ·rename_i hl;cases h';exact ⟨by simp,by simp,hl,[],r,rfl⟩
  ·obtain ⟨h1,h2,h3,l,m,e⟩:=Ja h';exact ⟨yN _ h1,yN _ h2,h3,a::l,m,by rw [e];rfl⟩
 |[],_,h=>by cases h
 |[_],_,h=>by cases h
theorem ZZ:∀{R:List (List Cl)}{p:Cl×Cl},qp T R=some p->∃ r∈R,nxR T r=some p
 |r::R,p,h=>by
  unfold qp at h;split at h
  ·rename_i q e;cases h;exact ⟨r,yQ,e⟩
  ·obtain ⟨q,hq,e⟩:=ZZ h;exact ⟨q,yN _ hq,e⟩
 |[],_,h=>by cases h
end
section
variable {C:Addr}{d:Dr}{T:List (List Cl)}{a b c:Cl}{t2:List Cl}
theorem YO (hc:c∈d.dueR h):c.hue=h:=uN (uE.mp ((ww h).mem_iff.mp hc)).2
structure Pair (d:Dr)(T:List (List Cl))(a b:Cl):Prop where
 a1:a∈d.cls
 b1:b∈d.cls
 hue:a.hue=b.hue
 due:a.due<=b.due
 lt:pl T b<pl T a
theorem Dl {p:Cl×Cl}(h:qp T d.rows=some p):Pair d T p.1 p.2:=by
 obtain ⟨r,hr,e⟩:=ZZ h;obtain ⟨h1,h2,h3,l,m,el⟩:=Ja e;have s1:=Ju r hr _ h1;have s2:=Ju r hr _ h2;obtain ⟨g,_,rfl⟩:=yE.mp hr;refine ⟨s1,s2,by rw [YO h1,YO h2],?_,h3⟩;have pw:(d.dueR g).Pairwise λa b=>u6 (m9 b) (m9 a)=false:=Jk c0 m9 (d.inH g);rw [el] at pw;have q:=(ye.mp (List.pairwise_append.mp pw).2.1).1 p.2 yQ;have:¬ (p.2.due<p.1.due):=λz=>by
  have:u6 (m9 p.2) (m9 p.1)=true:=ltK_iff.mpr (.inl z);rw [this] at q;cases q
 omega
theorem Uf (a b:Int):pGt (.at (.int a)) (.at (.int b))=some (.at (.bl (decide (b<a)))):=rfl
def vj (T:List (List Cl))(o e:Cl):Bool:=(decide ((o.hue:Int)=e.hue)&&u6 (m9 o) (m9 e))&&decide ((pl T e:Int)<pl T o)
def zc (T:List (List Cl))(o e:Cl):Option PV:=if vj T o e=true then some (.at (.bl false)) else none
theorem Ky (ok:d.Ok)(x:Trays d T)(hc:c∈d.cls):zv [g8 T,.at (.str c.name)]=some (.at (.int (pl T c))):=by obtain ⟨k,hk⟩:=hasP x hc;rw [Rk (x.len ok) hk];unfold pl;rw [hk];rfl
abbrev ioB:MS:=k5 (xf 4 (qJ (x9 pEq (x9 j8 (q9 2) (dC (.int 1))) (x9 j8 (q9 3) (dC (.int 1)))) (x9 vX (f9 (q0 (x9 j8 (q9 2) (dC (.int 3))) (q0 (x9 j8 (q9 2) (dC (.int 0))) x6))) (f9 (q0 (x9 j8 (q9 3) (dC (.int 3))) (q0 (x9 j8 (q9 3) (dC (.int 0))) x6))))))
  (m3 (zH (t0 (q9 4)) (dT (x9 pGt (z6 zv (q0 (q8 1) (q0 (x9 j8 (q9 2) (dC (.int 0))) x6))) (z6 zv (q0 (q8 1) (q0 (x9 j8 (q9 3) (dC (.int 0))) x6)))))) (y8 (dC (.bl false))) r6)
theorem Ce (ok:d.Ok)(x:Trays d T){o e:Cl}(ho:o∈d.cls)(he:e∈d.cls){s4:MSlot}:stpR ioB [.sh d.pv,.sh (g8 T),.sh o.pv,.sh e.pv,s4] (λε=>∃ s3 s4,ε=[.sh d.pv,.sh (g8 T),.sh o.pv,s3,s4]) (zc T o e):=by
 have v1:qJ (x9 pEq (x9 j8 (q9 2) (dC (.int 1))) (x9 j8 (q9 3) (dC (.int 1)))) (x9 vX (f9 (q0 (x9 j8 (q9 2) (dC (.int 3))) (q0 (x9 j8 (q9 2) (dC (.int 0))) x6))) (f9 (q0 (x9 j8 (q9 3) (dC (.int 3))) (q0 (x9 j8 (q9 3) (dC (.int 0))) x6)))) [.sh d.pv,.sh (g8 T),.sh o.pv,.sh e.pv,s4]=some (.at (.bl (decide ((o.hue:Int)=e.hue)&&u6 (m9 o) (m9 e)))):=by
  have q1:x9 pEq (x9 j8 (q9 2) (dC (.int 1))) (x9 j8 (q9 3) (dC (.int 1))) [.sh d.pv,.sh (g8 T),.sh o.pv,.sh e.pv,s4]=some (.at (.bl (decide ((o.hue:Int)=e.hue)))):=v9 (v9 rfl rfl rfl) (v9 rfl rfl rfl) (wx _ _);have q2:x9 vX (f9 (q0 (x9 j8 (q9 2) (dC (.int 3))) (q0 (x9 j8 (q9 2) (dC (.int 0))) x6))) (f9 (q0 (x9 j8 (q9 3) (dC (.int 3))) (q0 (x9 j8 (q9 3) (dC (.int 0))) x6))) [.sh d.pv,.sh (g8 T),.sh o.pv,.sh e.pv,s4]=some (.at (.bl (u6 (m9 o) (m9 e)))) :=
   v9 (zo (v7 (v9 rfl rfl rfl) (v7 (v9 rfl rfl rfl) rfl)) (by exact (by decide:2<=lim))) (zo (v7 (v9 rfl rfl rfl) (v7 (v9 rfl rfl rfl) rfl)) (by exact (by decide:2<=lim))) rfl
  cases h:decide ((o.hue:Int)=e.hue) with
  |true=>rw [h] at q1;exact zk q1 q2
  |false=>rw [h] at q1;exact Pd q1
 have c2:∀ s:MSlot,dT (x9 pGt (z6 zv (q0 (q8 1) (q0 (x9 j8 (q9 2) (dC (.int 0))) x6))) (z6 zv (q0 (q8 1) (q0 (x9 j8 (q9 3) (dC (.int 0))) x6)))) [.sh d.pv,.sh (g8 T),.sh o.pv,.sh e.pv,s]=some (decide ((pl T e:Int)<pl T o)):=λs=>r9 (v9 (j5 (v7 rfl (v7 (v9 rfl rfl rfl) rfl)) (Ky ok x ho)) (j5 (v7 rfl (v7 (v9 rfl rfl rfl) rfl)) (Ky ok x he)) (Uf _ _));unfold zc vj;cases h1:(decide ((o.hue:Int)=e.hue)&&u6 (m9 o) (m9 e)) with
 |false=>rw [h1] at v1;rw [Bool.false_and,if_neg yS];exact ⟨_,b8 (zn v1) (ql (BO (qt rfl)) qD),_,_,rfl⟩
 |true =>
  rw [h1] at v1;rw [Bool.true_and];cases h2:decide ((pl T e:Int)<pl T o) with
  |false=>rw [if_neg yS];exact ⟨_,b8 (zn v1) (ql (QF (qt rfl) ((c2 _).trans (by rw [h2]))) qD),_,_,rfl⟩
  |true=>rw [if_pos rfl];exact b8 (zn v1) (Zq (QF (qt rfl) ((c2 _).trans (by rw [h2]))) (p7 rfl))
end
section
variable {C:Addr}{d:Dr}{T:List (List Cl)}{a b c:Cl}
theorem vio_none:(d.cls.findSome? λo=>d.cls.findSome? (zc T o))=none↔∀ o∈d.cls,∀ e∈d.cls,vj T o e=false:=by
 rw [List.findSome?_eq_none_iff];constructor
 ·intro h o ho e he;have:=List.findSome?_eq_none_iff.mp (h o ho) e he;unfold zc at this;split at this
  ·cases this
  ·rename_i q;simpa using q
 ·intro h o ho;refine List.findSome?_eq_none_iff.mpr λe he=>?_;unfold zc;rw [h o ho e he];rfl
theorem Rv (h:(d.cls.findSome? λo=>d.cls.findSome? (zc T o))=some y):y = .at (.bl false):=by
 obtain ⟨o,_,h1⟩:=List.exists_of_findSome?_eq_some h;obtain ⟨e,_,h2⟩:=List.exists_of_findSome?_eq_some h1;unfold zc at h2;split at h2
 ·cases h2;rfl
 ·cases h2
theorem UQ:∀{r:List Cl},nxR T r=none->r.Pairwise λa b=>pl T a<=pl T b
 |[],_=> .nil
 |[_],_=>uk _ _
 |a::b::r,h=>by
  have h':(if pl T b<pl T a then some (a,b) else nxR T (b::r))=none:=h;split at h'
  ·cases h'
  ·rename_i hl;have ih:=UQ h';refine ye.mpr ⟨λc hc=>?_,ih⟩;rcases yP.mp hc with rfl|hc
   ·omega
   ·have:=(ye.mp ih).1 c hc;omega
theorem UP:∀{R:List (List Cl)},qp T R=none->∀ r∈R,nxR T r=none
 |r::R,h,q,hq=>by
  unfold qp at h;split at h
  ·cases h
  ·rename_i e;rcases yP.mp hq with rfl|hq
   ·exact e
   ·exact UP h q hq
 |[],_,_,hq=>nomatch hq
theorem UX {α:Type}{R:α->α->Prop}:∀{l:List α}{x y:α},l.Pairwise R->x∈l->y∈l->x≠y->R x y∨R y x
 |z::l,x,y,h,hx,hy,ne=>by
  obtain ⟨h1,h2⟩:=ye.mp h;rcases yP.mp hx with ex|hx'
  ·rcases yP.mp hy with ey|hy'
   ·exact absurd (ex.trans ey.symm) ne
   ·rw [ex];exact .inl (h1 y hy')
  ·rcases yP.mp hy with ey|hy'
   ·rw [ey];exact .inr (h1 x hx')
   ·exact UX h2 hx' hy' ne
theorem CY {p q:Int×Str}(h:u6 p q=false)(ne:p.2≠q.2):u6 q p=true:=by
 rw [ltK_iff];have h':¬ (p.1<q.1∨(p.1=q.1/\p.2.cps.toList<q.2.cps.toList)):=λz=>by rw [ltK_iff.mpr z] at h;cases h
 by_cases h1:p.1=q.1
 ·refine .inr ⟨h1.symm,?_⟩;have a1:¬ p.2.cps.toList<q.2.cps.toList:=λz=>h' (.inr ⟨h1,z⟩);by_cases a2:q.2.cps.toList<p.2.cps.toList
  ·exact a2
  ·exfalso;have e:=List.le_antisymm (uz.mp a2) (uz.mp a1);apply ne;have e2:p.2.cps=q.2.cps:=tZ.mp e;obtain ⟨i,⟨x⟩⟩:=p;obtain ⟨j,⟨y⟩⟩:=q;exact congrArg Str.mk e2
 ·exact .inl (by omega)
theorem Um (ok:d.Ok):qp T d.rows=none↔∀ o∈d.cls,∀ e∈d.cls,vj T o e=false:=by
 constructor
 ·intro h o ho e he;cases hv:vj T o e with
  |false=>rfl
  |true =>
   exfalso;unfold vj at hv;simp only [yf,decide_eq_true_eq] at hv;obtain ⟨⟨h1,h2⟩,h3⟩:=hv;have hg:o.hue<d.h:=(ok.cl o ho).hu;have hr:d.dueR o.hue∈d.rows:=yE.mpr ⟨o.hue,uZ.mpr hg,rfl⟩;have up:=UQ (UP h _ hr);have pw:(d.dueR o.hue).Pairwise λa b=>u6 (m9 b) (m9 a)=false:=Jk c0 m9 (d.inH o.hue);have mo:o∈d.dueR o.hue:=(ww _).mem_iff.mpr (uE.mpr ⟨ho,yC rfl⟩);have me:e∈d.dueR o.hue:=(ww _).mem_iff.mpr (uE.mpr ⟨he,yC (by omega)⟩);have ne:o≠e:=λz=>by rw [z] at h3;omega
   rcases UX (up.and pw) mo me ne with ⟨q1,_⟩|⟨_,q2⟩
   ·omega
   ·rw [h2] at q2;cases q2
 ·intro h;cases e:qp T d.rows with
  |none=>rfl
  |some p =>
   exfalso;have P:=Dl e;have ne:p.1.name≠p.2.name:=λz=>by
    have:=ZX ok P.a1 P.b1 z.symm;have lt:=P.lt;rw [this] at lt;omega
   obtain ⟨r,hr,er⟩:=ZZ e;obtain ⟨_,_,_,l,m,el⟩:=Ja er;obtain ⟨g,_,rfl⟩:=yE.mp hr;have pw:(d.dueR g).Pairwise λa b=>u6 (m9 b) (m9 a)=false:=Jk c0 m9 (d.inH g);rw [el] at pw;have q:=(ye.mp (List.pairwise_append.mp pw).2.1).1 p.2 yQ;have q2:=CY q (λz=>ne z.symm);have:=h p.1 P.a1 p.2 P.b1;unfold vj at this;rw [q2,yC (show (p.1.hue:Int)=p.2.hue by have:=P.hue;omega),yC (show (pl T p.2:Int)<pl T p.1 by have:=P.lt;omega)] at this;cases this
theorem Rc (ok:d.Ok)(x:Trays d T):vR [d.pv,g8 T]=some (.at (.bl (qp T d.rows).isNone)):=by
 have hlim:lim=1000000:=rfl;have o:=ZN (g:=v5 2) (f:=qS (u4 (x9 j8 (q9 0) (dC (.int 1)))) (v5 3) ioB) Cl.pv (λε=>∃ s2 s3 s4:MSlot,ε=[.sh d.pv,.sh (g8 T),s2,s3,s4]) (λo=>d.cls.findSome? (zc T o)) d.cls (by
  rintro o ho ε ⟨s2,s3,s4,rfl⟩;have inn:=ZN (g:=v5 3) (f:=ioB) Cl.pv (λε=>∃ s3 s4:MSlot,ε=[.sh d.pv,.sh (g8 T),.sh o.pv,s3,s4]) (zc T o) d.cls (by
   rintro e he ε ⟨s3,s4,rfl⟩;exact ⟨_,rfl,Ce ok x ho he⟩) [.sh d.pv,.sh (g8 T),.sh o.pv,s3,s4] ⟨s3,s4,rfl⟩
  refine ⟨_,rfl,?_⟩;have ff:=Pm (it:=u4 (x9 j8 (q9 0) (dC (.int 1)))) (xw (v9 rfl rfl rfl)) inn;cases e:d.cls.findSome? (zc T o) with
  |some y=>rw [e] at ff;exact ff
  |none =>
   rw [e] at ff;obtain ⟨ε',e1,s3',s4',rfl⟩:=ff;exact ⟨_,e1,_,_,_,rfl⟩) [.sh d.pv,.sh (g8 T),.no,.no,.no] ⟨.no,.no,.no,rfl⟩
 cases e:(d.cls.findSome? λo=>d.cls.findSome? (zc T o)) with
 |none=>rw [e] at o;obtain ⟨ε',e1,s2,s3,s4,rfl⟩:=o;rw [(Um ok).mpr (vio_none.mp e)];exact t9 rfl (b8 (xu (xw (v9 rfl rfl rfl)) e1) rfl)
 |some y =>
  rw [e] at o;cases Rv e;have:(qp T d.rows).isNone=false:=by
   cases q:qp T d.rows with
   |none=>rw [vio_none.mpr ((Um ok).mp q)] at e;cases e
   |some p=>rfl
  rw [this];exact t9 rfl (YY (xu (xw (v9 rfl rfl rfl)) o))
end
def XA:List PV->Prop:=λxs=>∃(d:Dr)(T:List (List Cl)),xs=[d.pv,g8 T]/\d.Ok/\Trays d T
def Qw:List PV->PV->Prop:=λxs y=>∃(d:Dr)(T T2:List (List Cl)),xs=[d.pv,g8 T]/\y=g8 T2/\Trays d T2
theorem Pz (h:spV XA Qw vs H Q E):vs.length=(["parts","trays"]:List Str).length:=by obtain ⟨Hs,xs,_,r,⟨d,T,rfl,_⟩,_⟩:=h;rw [r.length];rfl
abbrev o6:=Nat×Addr×List Cl
def qo (ks:List o6):List (x8×V):=ks.map λk=>((Sum.inl (k.1:Int):x8),V.ref k.2.1)
def m5 (ks:List o6):List Cl:=ks.flatMap (·.2.2)
structure RI (Hb H:Hp)(R:Addr)(ks:List o6):Prop where
 dict:H R=some (.dK (qo ks))
 lst:∀ k∈ks,H k.2.1=some (.lst (y7 k.2.2))
 pw:ks.Pairwise λa b=>a.1≠b.1/\a.2.1≠b.2.1
 rn:∀ k∈ks,k.2.1≠R
 fr:Hb R=none/\∀ k∈ks,Hb k.2.1=none
 kp:∀ b o,Hb b=some o->H b=some o
 ph:∀ k∈ks,∀ c∈k.2.2,c.hue=k.1
section
variable {Hb H H1:Hp}{R:Addr}{ks:List o6}{c e:Cl}{k:o6}{dd:Addr}{g:Nat}
theorem RI.grow (x:RI Hb H R ks)(s:Same H H1):RI Hb H1 R ks:=⟨s _ _ x.dict,λk hk=>s _ _ (x.lst k hk),x.pw,x.rn,x.fr,λb o q=>s _ _ (x.kp b o q),x.ph⟩
theorem XG:∀{ks:List o6},ks.Pairwise (λa b=>a.1≠b.1/\a.2.1≠b.2.1)->∀{a b:o6},a∈ks->b∈ks->a.1=b.1->a=b
 |q::ks,h,a,b,ha,hb,e=>by
  obtain ⟨h1,h2⟩:=ye.mp h;rcases yP.mp ha with rfl|ha'<;>rcases yP.mp hb with rfl|hb'
  ·rfl
  ·exact absurd e (h1 b hb').1
  ·exact absurd e.symm (h1 a ha').1
  ·exact XG h2 ha' hb' e
theorem VO:∀{ks:List o6},ks.Pairwise (λa b=>a.1≠b.1/\a.2.1≠b.2.1)->∀{k:o6},k∈ks->L2.h8 (qo ks) (Sum.inl (k.1:Int))=some (.ref k.2.1)
 |q::ks,h,k,hk=>by
  obtain ⟨h1,h2⟩:=ye.mp h;unfold L2.h8 qo;rw [yO,uQ];rcases yP.mp hk with rfl|hk'
  ·simp
  ·have:(q.1:Int)≠k.1:=λz=>(h1 k hk').1 (by omega);rw [show decide ((Sum.inl (q.1:Int):x8)=Sum.inl (k.1:Int))=false by simp;omega];exact VO h2 hk'
theorem KB:∀{ks:List o6},(∀ k∈ks,k.1≠g)->L2.h8 (qo ks) (Sum.inl (g:Int))=none
 |[],_=>rfl
 |q::ks,h=>by
  unfold L2.h8 qo;rw [yO,uQ];have:(q.1:Int)≠g:=λz=>h q yQ (by omega);rw [show decide ((Sum.inl (q.1:Int):x8)=Sum.inl (g:Int))=false by simp;omega];exact KB λk hk=>h k (yN _ hk)
def qz (c:Cl)(dd:Addr)(k:o6):o6:=if k.1=c.hue then (k.1,dd,k.2.2++[c]) else k
theorem XV (k:o6):(qz c dd k).1=k.1:=by unfold qz;split<;>rfl
theorem Lv (h:k∈ks)(hg:k.1=c.hue):i6 (qo ks) (Sum.inl (c.hue:Int)) (.ref dd)=qo (ks.map (qz c dd)):=by
 unfold i6;rw [if_pos ?_]
 ·unfold qo;rw [yF,yF];refine uX λq _=>?_;show (if (Sum.inl (q.1:Int):x8)=Sum.inl (c.hue:Int) then ((Sum.inl (q.1:Int):x8),V.ref dd) else ((Sum.inl (q.1:Int):x8),V.ref q.2.1))=((Sum.inl ((qz c dd q).1:Int):x8),V.ref (qz c dd q).2.1);rw [XV];unfold qz;by_cases e:q.1=c.hue
  ·rw [if_pos e,if_pos (by rw [e])]
  ·rw [if_neg e,if_neg (λz=>e (by injection z with z;omega))]
 ·rw [List.any_eq_true];exact ⟨(Sum.inl (k.1:Int),V.ref k.2.1),yE.mpr ⟨k,h,rfl⟩,by rw [hg];simp⟩
theorem Lx (h:∀ k∈ks,k.1≠c.hue):i6 (qo ks) (Sum.inl (c.hue:Int)) (.ref dd)=qo (ks++[(c.hue,dd,[c])]):=by
 unfold i6;rw [if_neg ?_]
 ·unfold qo;rw [yw];rfl
 ·intro z;rw [List.any_eq_true] at z;obtain ⟨p,hp,e⟩:=z;obtain ⟨k,hk,rfl⟩:=yE.mp hp;have e':(Sum.inl (k.1:Int):x8)=Sum.inl (c.hue:Int):=uN e;injection e' with e';exact h k hk (by omega)
theorem RI.addIn (x:RI Hb H R ks)(hk:k∈ks)(hg:k.1=c.hue)(s:Same H H1)(hd:H1 dd=none):RI Hb (z5 (z5 H1 dd (.lst (y7 (k.2.2++[c])))) R (.dK (qo (ks.map (qz c dd))))) R (ks.map (qz c dd)):=by
 have dR:dd≠R:=λz=>by rw [z,s _ _ x.dict] at hd;cases hd
 have dk:∀ q∈ks,q.2.1≠dd:=λq hq z=>by rw [<- z,s _ _ (x.lst q hq)] at hd;cases hd
 have hbd:Hb dd=none:=by
  cases q:Hb dd with
  |none=>rfl
  |some o=>rw [s _ _ (x.kp _ _ q)] at hd;cases hd
 have each:∀ q∈ks,(qz c dd q=(q.1,dd,k.2.2++[c])/\q.1=c.hue)∨(qz c dd q=q/\q.1≠c.hue):=λq hq=>by
  unfold qz;by_cases e:q.1=c.hue
  ·rw [if_pos e,XG x.pw hq hk (e.trans hg.symm)];exact .inl ⟨rfl,hg⟩
  ·rw [if_neg e];exact .inr ⟨rfl,e⟩
 refine ⟨v6,λq hq=>?_,?_,λq hq=>?_,⟨x.fr.1,λq hq=>?_⟩,λb o q=>?_,λq hq=>?_⟩
 ·obtain ⟨p,hp,rfl⟩:=yE.mp hq;rcases each p hp with ⟨e,_⟩|⟨e,_⟩
  ·rw [e,z0 dR];exact v6
  ·rw [e,z0 (x.rn p hp),z0 (dk p hp)];exact s _ _ (x.lst p hp)
 ·rw [List.pairwise_map];refine List.Pairwise.imp_of_mem (λ{a b} ha hb h=>⟨by rw [XV,XV];exact h.1,?_⟩) x.pw;rcases each a ha with ⟨e1,g1⟩|⟨e1,g1⟩<;>rcases each b hb with ⟨e2,g2⟩|⟨e2,g2⟩
  ·exact absurd (g1.trans g2.symm) h.1
  ·rw [e1,e2];exact (dk b hb).symm
  ·rw [e1,e2];exact dk a ha
  ·rw [e1,e2];exact h.2
 ·obtain ⟨p,hp,rfl⟩:=yE.mp hq;rcases each p hp with ⟨e,_⟩|⟨e,_⟩
  ·rw [e];exact dR
  ·rw [e];exact x.rn p hp
 ·obtain ⟨p,hp,rfl⟩:=yE.mp hq;rcases each p hp with ⟨e,_⟩|⟨e,_⟩
  ·rw [e];exact hbd
  ·rw [e];exact x.fr.2 p hp
 ·rw [z0 (w4 q x.fr.1),z0 (w4 q hbd)];exact s _ _ (x.kp b o q)
 ·obtain ⟨p,hp,rfl⟩:=yE.mp hq;rcases each p hp with ⟨e,eg⟩|⟨e,_⟩
  ·rw [e];intro y hy;rcases yu.mp hy with h|h
   ·rw [x.ph k hk y h,hg,eg]
   ·rw [yR.mp h,eg]
  ·rw [e];exact x.ph p hp
theorem RI.addNo (x:RI Hb H R ks)(hn:∀ k∈ks,k.1≠c.hue)(s:Same H H1)(hd:H1 dd=none):RI Hb (z5 (z5 H1 dd (.lst (y7 [c]))) R (.dK (qo (ks++[(c.hue,dd,[c])])))) R (ks++[(c.hue,dd,[c])]):=by
 have dR:dd≠R:=λz=>by rw [z,s _ _ x.dict] at hd;cases hd
 have dk:∀ q∈ks,q.2.1≠dd:=λq hq z=>by rw [<- z,s _ _ (x.lst q hq)] at hd;cases hd
 have hbd:Hb dd=none:=by
  cases q:Hb dd with
  |none=>rfl
  |some o=>rw [s _ _ (x.kp _ _ q)] at hd;cases hd
 refine ⟨v6,λq hq=>?_,?_,λq hq=>?_,⟨x.fr.1,λq hq=>?_⟩,λb o q=>?_,λq hq=>?_⟩
 ·rcases yu.mp hq with h|h
  ·rw [z0 (x.rn q h),z0 (dk q h)];exact s _ _ (x.lst q h)
  ·rw [yR.mp h,z0 dR];exact v6
 ·refine List.pairwise_append.mpr ⟨x.pw,uk _ _,λa ha b hb=>?_⟩;rw [yR.mp hb];exact ⟨hn a ha,dk a ha⟩
 ·rcases yu.mp hq with h|h
  ·exact x.rn q h
  ·rw [yR.mp h];exact dR
 ·rcases yu.mp hq with h|h
  ·exact x.fr.2 q h
  ·rw [yR.mp h];exact hbd
 ·rw [z0 (w4 q x.fr.1),z0 (w4 q hbd)];exact s _ _ (x.kp b o q)
 ·rcases yu.mp hq with h|h
  ·exact x.ph q h
  ·rw [yR.mp h];intro y hy;rw [yR.mp hy]
theorem Gj:∀{ks:List o6},ks.Pairwise (λa b=>a.1≠b.1/\a.2.1≠b.2.1)->k∈ks->k.1=c.hue->(m5 (ks.map (qz c dd))).Perm (c::m5 ks)
 |q::ks,h,hk,hg=>by
  obtain ⟨h1,h2⟩:=ye.mp h;unfold m5;rw [yO,ux,ux];by_cases e:q.1=c.hue
  ·have same:ks.map (qz c dd)=ks:=by refine (uX λp hp=>?_).trans (List.map_id ks);unfold qz;rw [if_neg λz=>(h1 p hp).1 (e.trans z.symm)];rfl
   rw [same];have:(qz c dd q).2.2=q.2.2++[c]:=by unfold qz;rw [if_pos e]
   rw [this,uT];exact uU
  ·have hk':k∈ks:=by
    rcases yP.mp hk with rfl|h
    ·exact absurd hg e
    ·exact h
   have:(qz c dd q).2.2=q.2.2:=by unfold qz;rw [if_neg e]
   rw [this];exact ((Gj h2 hk' hg).append_left _).trans uU
theorem Ll:(m5 (ks++[(c.hue,dd,[c])])).Perm (c::m5 ks):=by unfold m5;rw [List.flatMap_append];exact List.perm_append_comm.trans (by simp)
def qG (g:Nat)(k:o6):o6:=if k.1=g then (k.1,k.2.1,k.2.2.tail) else k
theorem zA (k:o6):(qG g k).1=k.1/\(qG g k).2.1=k.2.1:=by unfold qG;split<;>exact ⟨rfl,rfl⟩
theorem CK:qo (ks.map (qG g))=qo ks:=by unfold qo;rw [yF];refine uX λq _=>?_;show ((Sum.inl ((qG g q).1:Int):x8),V.ref (qG g q).2.1)=_;rw [(zA q).1,(zA q).2]
theorem RI.pop (x:RI Hb H R ks)(hk:k∈ks){l:List Cl}(hl:k.2.2=e::l):RI Hb (z5 H k.2.1 (.lst (y7 l))) R (ks.map (qG k.1)):=by
 refine ⟨by rw [z0 (x.rn k hk).symm,CK];exact x.dict,λq hq=>?_,?_,λq hq=>?_,⟨x.fr.1,λq hq=>?_⟩,λb o q=>?_,λq hq=>?_⟩
 ·obtain ⟨p,hp,rfl⟩:=yE.mp hq;rw [(zA p).2];by_cases e1:p.1=k.1
  ·rw [XG x.pw hp hk e1,v6];unfold qG;rw [if_pos rfl,hl];rfl
  ·have ne:p.2.1≠k.2.1:=by
    intro z;have hpk:p≠k:=λw=>e1 (by rw [w]);have main:∀{ks:List o6},ks.Pairwise (λa b=>a.1≠b.1/\a.2.1≠b.2.1)->p∈ks->k∈ks->p.2.1≠k.2.1:=by
     intro ks
     induction ks with
     |nil=>intro _ h;cases h
     |cons q ks ih =>
      intro h h1 h2;obtain ⟨a1,a2⟩:=ye.mp h;rcases yP.mp h1 with rfl|h1'<;>rcases yP.mp h2 with rfl|h2'
      ·exact absurd rfl hpk
      ·exact (a1 k h2').2
      ·exact (a1 p h1').2.symm
      ·exact ih a2 h1' h2'
    exact main x.pw hp hk z
   rw [z0 ne];unfold qG;rw [if_neg e1];exact x.lst p hp
 ·rw [List.pairwise_map];exact x.pw.imp λ{a b} h=>⟨by rw [(zA a).1,(zA b).1];exact h.1,by rw [(zA a).2,(zA b).2];exact h.2⟩
 ·obtain ⟨p,hp,rfl⟩:=yE.mp hq;rw [(zA p).2];exact x.rn p hp
 ·obtain ⟨p,hp,rfl⟩:=yE.mp hq;rw [(zA p).2];exact x.fr.2 p hp
 ·rw [z0 (w4 q (x.fr.2 k hk))];exact x.kp b o q
 ·obtain ⟨p,hp,rfl⟩:=yE.mp hq;rw [(zA p).1];intro y hy;unfold qG at hy;split at hy
  ·exact x.ph p hp y (List.mem_of_mem_tail hy)
  ·exact x.ph p hp y hy
theorem Jm:∀{ks:List o6},ks.Pairwise (λa b=>a.1≠b.1/\a.2.1≠b.2.1)->k∈ks->∀{l:List Cl},k.2.2=e::l->(e::m5 (ks.map (qG k.1))).Perm (m5 ks)
 |q::ks,h,hk,l,hl=>by
  obtain ⟨h1,h2⟩:=ye.mp h;unfold m5;rw [yO,ux,ux];by_cases e1:q.1=k.1
  ·have qk:=XG h yQ hk e1;have same:ks.map (qG k.1)=ks:=by refine (uX λp hp=>?_).trans (List.map_id ks);unfold qG;rw [if_neg λz=>(h1 p hp).1 (e1.trans z.symm)];rfl
   have:(qG k.1 q).2.2=l:=by unfold qG;rw [if_pos e1,qk,hl];rfl
   rw [same,this,qk,hl];exact List.Perm.refl _
  ·have hk':k∈ks:=by
    rcases yP.mp hk with rfl|h
    ·exact absurd rfl e1
    ·exact h
   have:(qG k.1 q).2.2=q.2.2:=by unfold qG;rw [if_neg e1]
   rw [this];exact uU.symm.trans ((Jm h2 hk' hl).append_left _)
def Cnt (rem p:List Cl):Prop:=∀ g,(rem.filter λc=>decide (c.hue=g)).length=(p.filter λc=>decide (c.hue=g)).length
theorem Cnt.step {p p':List Cl}(h:Cnt (c::rem) p)(hp:(e::p').Perm p)(he:e.hue=c.hue):Cnt rem p':=λg=>by
 have a:=h g;rw [<- (hp.filter _).length_eq,uq,uq,he] at a;split at a
 ·simpa using a
 ·exact a
theorem Cnt.some (h:Cnt (c::rem) (m5 ks))(ph:∀ k∈ks,∀ c∈k.2.2,c.hue=k.1):∃ k∈ks,k.1=c.hue/\∃ e l,k.2.2=e::l:=by have a:=h c.hue;rw [uq,if_pos (yC rfl),yA] at a;obtain ⟨y,hy⟩:=List.exists_mem_of_length_pos (l:=(m5 ks).filter λx=>decide (x.hue=c.hue)) (by omega);obtain ⟨h1,h2⟩:=uE.mp hy;obtain ⟨k,hk,hyk⟩:=List.mem_flatMap.mp h1;refine ⟨k,hk,(ph k hk y hyk).symm.trans (uN h2),?_⟩;obtain ⟨a,l,e⟩:=List.exists_cons_of_ne_nil (List.ne_nil_of_mem hyk);exact ⟨a,l,e⟩
end
theorem five {l:List α}(h:l.length=5):∃ a b c d e,l=[a,b,c,d,e]:=by
 match l,h with
 |[a,b,c,d,e],_=>exact ⟨a,b,c,d,e,rfl⟩
def clV (c:Cl):List V:=[.str c.name,.int c.hue,.int c.len,.int c.due,.int c.wt]
theorem cl_at (s:Same Hs H)(r:Rep Hs c.pv v):∃ a,v = .ref a/\H a=some (.tup (clV c)):=by obtain ⟨a,vs,rfl,h,rv⟩:=rep_tup.mp r;have:vs=clV c:=Reps.ats (us:=clV c) rv;subst this;exact ⟨a,rfl,s _ _ h⟩
theorem tr_at {T:List (List Cl)}(s:Same Hs H)(r:Rep Hs (g8 T) v):∃ a vs,v = .ref a/\H a=some (.lst vs)/\vs.length=T.length/\∀(i:Nat)(t:List Cl),T[i]?=some t->∃ b,vs[i]?=some (.ref b)/\H b=some (.lst (y7 t)):=by
 obtain ⟨a,vs,rfl,h,rv⟩:=rep_lst.mp r;refine ⟨a,vs,rfl,s _ _ h,by rw [rv.length,yZ],λi t ht=>?_⟩;obtain ⟨w,hw,rw'⟩:=rv.get (i:=i) (x:=w6 t) (by rw [yM,ht];rfl);obtain ⟨b,us,rfl,hb,ru⟩:=rep_lst.mp rw';have:us=y7 t:=by
  have:Reps Hs ((y7 t).map PV.at) us:=by rw [<- wR];exact ru
  exact this.ats
 subst this;exact ⟨b,hw,s _ _ hb⟩
theorem Deep.clean2 {Hx H1:Hp}{a:Addr}{ps:List (Addr×PV)}{ls:List (List V)}(s3:Same Hs H)(s2:Same H H1)(d:Deep H Hx H1 a ps)(e:ls.map (λl=>PV.lst (l.map .at))=ps.map (·.2)):∃ Hs',Ext Hs H Hs' H1/\Rep Hs' (.lst (ls.map λl=> .lst (l.map .at))) (.ref a):=by
 have x:Ext Hs H Hs H1:=⟨.refl _,s2,s3.trans s2,λ_ _ z=>z⟩;refine Deep.clean s3 x ⟨d.top,λp hp=>?_,d.nd,λb hb=>⟨(d.new b hb).1,?_⟩⟩ e
 ·have m:p.2∈ls.map (λl=>PV.lst (l.map .at)):=by rw [e];exact uY hp
  obtain ⟨l,_,el⟩:=yE.mp m;have t:=d.each p hp;rw [<- el] at t ⊢;obtain ⟨vs,hv,rv⟩:=t;rw [rv.ats] at hv;exact ⟨l,hv,.ofAts l⟩
 ·exact s3.free (d.new b hb).1
theorem Kp {A B:Hp->Prop}(h:A H):Qn σ H λb H3=>if b=true then A H3 else B H3:=qY (A:=A H) (B:=B H) h
theorem gn {i:Nat}{Q:St->Hp->Prop}(h:Q (σ.set i (some v)) H):qu i v σ H Q:=h
theorem NK {wi:L2.TI}{g:TG}{tb:TS}{it:MA}[si:zh wi it](ex:it ε=some xs)(rs:RS Hs0 H0 Hs H σ ε)(k:∀ J Hs' H',Ext Hs H Hs' H'->zD J xs Hs'->∃ W:Nat->Nat->St->Hp->Prop,(∃ m,W 0 m σ H')/\∀ i m σ H,W i m σ H -> (J.stop i H/\u D σ H)∨(J.go i H/\∃ N:St->Hp->Prop,(∀ σ' H',N σ' H'->∃ m',m'<m/\W (i+1) m' σ' H')/\∀ x H',J.yld i H x H'->g x σ H' λσ2 H2=>tb { D with nx:=N,ct:=N,bk:=u D } σ2 H2)):tSeq (tFor wi g tb) u D σ H:=si.h ex rs λJ Hs' H' x ok=>k J Hs' H' x ok
section
variable {K:Fg}{σ:St}{H:Hp}{Q:VK}{i:Nat}{a:Addr}{c:Cl}
theorem GH (hi:σ[i]?=some (some (.ref a)))(ha:H a=some (.tup (clV c)))(q:Q (.int c.hue) H):tOp (rIx K) (c6 i) (tC (.int 1)) σ H Q:=⟨_,hi,.inr (.inl ⟨a,clV c,1,.int c.hue,rfl,rfl,SqT.of ha,xN (j:=1) rfl,q⟩)⟩
theorem rd_nm (hi:σ[i]?=some (some (.ref a)))(ha:H a=some (.tup (clV c)))(q:Q (.str c.name) H):tOp (rIx K) (c6 i) (tC (.int 0)) σ H Q:=⟨_,hi,.inr (.inl ⟨a,clV c,0,.str c.name,rfl,rfl,SqT.of ha,xN (j:=0) rfl,q⟩)⟩
end
theorem Dj (l:List Cl)(c:Cl):y7 l++[V.str c.name]=y7 (l++[c]):=by unfold y7;rw [yw];rfl
theorem Ly {K:Fg}{a:Addr}{ks:List o6}{v0 v1 v2:Option V}(x:RI Hb H R ks)(ha:H a=some (.tup (clV c)))(aR:a≠R)(small:∀ k∈ks,k.2.2.length<=1000)(sk:ks.length<=1000)(q:∀ ks' H',RI Hb H' R ks'->(m5 ks').Perm (c::m5 ks)->ks'.length<=ks.length+1->D.nx [v0,v1,v2,some (.ref R),some (.ref a)] H'):Jx (c6 3) (tOp (rIx K) (c6 4) (tC (.int 1))) (tOp (XH K) (VC (c6 3) (tOp (rIx K) (c6 4) (tC (.int 1))) (tLst o5)) (tLst (i7 (tOp (rIx K) (c6 4) (tC (.int 0))) o5))) D [v0,v1,v2,some (.ref R),some (.ref a)] H:=by
 have line:=sizeLine_eq;refine ⟨.ref R,rfl,R,rfl,.inl ⟨_,.inl x.dict⟩,GH rfl ha ⟨(by show 0<=sizeLine;decide),λp0 hp0=>?_⟩⟩;have s0:Same H (z5 H p0 (.lst [])):=λb o e=>by rw [z0 (w4 e hp0)];exact e
 have h00:z5 H p0 (.lst []) p0=some (.lst []):=v6;generalize z5 H p0 (.lst [])=H0 at s0 h00 ⊢;refine ⟨_,DGet.k (k:=Sum.inl (c.hue:Int)) (s0 _ _ x.dict),rd_nm rfl (s0 _ _ ha) ⟨(by show 1<=sizeLine;decide),λp1 hp1=>?_⟩⟩;have s1:Same H0 (z5 H0 p1 (.lst [.str c.name])):=λb o e=>by rw [z0 (w4 e hp1)];exact e
 have h11:z5 H0 p1 (.lst [.str c.name]) p1=some (.lst [.str c.name]):=v6;generalize z5 H0 p1 (.lst [.str c.name])=H1 at s1 h11 ⊢;have s01:=s0.trans s1;refine .inr (.inr (.inl ?_));have fin:∀(l:List Cl)(b:Addr),H1 b=some (.lst (y7 l))->l.length<=1000->(∀ dd,H1 dd=none->∃ ks',i6 (qo ks) (Sum.inl (c.hue:Int)) (.ref dd)=qo ks'/\RI Hb (z5 (z5 H1 dd (.lst (y7 (l++[c])))) R (.dK (qo ks'))) R ks'/\(m5 ks').Perm (c::m5 ks)/\ks'.length<=ks.length+1) ->
   Jn K (.ref b) (.ref p1) H1 λv H1=>c6 3 [v0,v1,v2,some (.ref R),some (.ref a)] H1 λx H2=>tOp (rIx K) (c6 4) (tC (.int 1)) [v0,v1,v2,some (.ref R),some (.ref a)] H2 λy H3=>∃ a' H4,x = .ref a'/\DPut H3 a' y v H4/\D.nx [v0,v1,v2,some (.ref R),some (.ref a)] H4:=by
  intro l b hb hl hks;refine ⟨b,p1,y7 l,[.str c.name],rfl,rfl,SqL.of hb,SqL.of h11,qF (by rw [zO];show l.length+1<=lim;have:lim=1000000:=rfl;omega),λdd hd=>?_⟩;obtain ⟨ks',e1,e2,e3,e4⟩:=hks dd hd;rw [Dj];have hdR:R≠dd:=λz=>by rw [<- z,s01 _ _ x.dict] at hd;cases hd
  have hda:a≠dd:=λz=>by rw [<- z,s01 _ _ ha] at hd;cases hd
  refine ⟨.ref R,rfl,GH rfl (by rw [z0 hda];exact s01 _ _ ha) ⟨R,_,rfl,DPut.k (k:=Sum.inl (c.hue:Int)) (by rw [z0 hdR];exact s01 _ _ x.dict) (QY (by unfold qo;rw [yZ];have:lim=1000000:=rfl;omega)),?_⟩⟩;rw [e1];exact q ks' _ e2 e3 e4
 by_cases hk:∃ k∈ks,k.1=c.hue
 ·obtain ⟨k,hk,hg⟩:=hk;have hv:=VO x.pw hk;rw [hg] at hv;rw [hv];exact fin k.2.2 k.2.1 (s01 _ _ (x.lst k hk)) (small k hk) λdd hd=>⟨_,Lv hk hg,x.addIn hk hg s01 hd,Gj x.pw hk hg,by rw [yZ];omega⟩
 ·have hn:∀ k∈ks,k.1≠c.hue:=λk h z=>hk ⟨k,h,z⟩;rw [KB hn];exact fin [] p0 (s1 _ _ h00) (yo _) λdd hd=>⟨_,Lx hn,x.addNo hn s01 hd,Ll,by simp⟩
theorem RI.bse {ks:List o6}{o:HO}(x:RI Hb H R ks)(hp:H p=none):RI (z5 Hb p o) (z5 H p o) R ks:=by
 have pR:R≠p:=λz=>by rw [<- z,x.dict] at hp;cases hp
 have pk:∀ k∈ks,k.2.1≠p:=λk hk z=>by rw [<- z,x.lst k hk] at hp;cases hp
 refine ⟨by rw [z0 pR];exact x.dict,λk hk=>by rw [z0 (pk k hk)];exact x.lst k hk,x.pw,x.rn,⟨by rw [z0 pR];exact x.fr.1,λk hk=>by rw [z0 (pk k hk)];exact x.fr.2 k hk⟩,λb u e=>?_,x.ph⟩;by_cases hb:b=p
 ·subst hb;rw [v6] at e ⊢;exact e
 ·rw [z0 hb] at e ⊢;exact x.kp b u e
theorem Hj {K:Fg}{hu:Addr}{oo:Obj}{ks:List o6}(ok:d.Ok)(x:RI Hb H R ks)(hb:Hb b=some (.lst (y7 t)))(hh:Hb hu=some (.frz oo (.dK (d.cls.map λc=>((Sum.inr c.name:x8),V.int c.hue)))))(sub:∀ c∈t,c∈d.cls)(ht:t.length<=1000)(cn:Cnt (t++rem) (m5 ks))(q:∀ ks' H' us,RI Hb H' R ks'->us.map Cl.hue=t.map Cl.hue->(us++m5 ks').Perm (m5 ks)->Cnt rem (m5 ks')->∀ p,H' p=none->Q (.ref p) (z5 H' p (.lst (y7 us)))):Ql (QU K (c6 0)) (qu 0) Qn (tBM K "list" Jo (XN (c6 1) (XN (c6 2) (c6 0))) (i7 (tC (.int 0)) o5)) [none,some 1,some 2] [some (.ref b),some (.ref R),some (.ref hu)] H Q:=by
 have hlim:lim=1000000:=rfl;refine ⟨.ref b,rfl,b,rfl,⟨_,SqL.of (x.kp _ _ hb)⟩,λj m zs H'=>m=t.length-j/\j<=t.length/\∃ ks' us,zs=y7 us/\us.length=j/\RI Hb H' R ks'/\us.map Cl.hue=(t.take j).map Cl.hue/\(us++m5 ks').Perm (m5 ks)/\Cnt (t.drop j++rem) (m5 ks'),⟨t.length,by simp,yo _,ks,[],rfl,rfl,x,by simp,List.Perm.refl _,cn⟩,?_⟩;rintro j m zs H' ⟨rfl,hj,ks',us,rfl,ul,x',uh,up,uc⟩;refine ⟨qF (by rw [zO];omega),?_⟩;have hb':=x'.kp _ _ hb;by_cases hlt:j<t.length
 ·have hd:t.drop j=t[j]::t.drop (j+1):=ya hlt;rw [hd,List.cons_append] at uc;obtain ⟨k,hk,hg,e,l,hl⟩:=uc.some x'.ph;have hc:=sub _ (yr hlt);refine .inr ⟨⟨y7 t,.str t[j].name,SqL.of hb',by unfold y7;rw [yM,yW hlt];rfl⟩,λv H2 y=>?_⟩;obtain ⟨rfl,y⟩:=y;have hv:=y _ (SqL.of hb');unfold y7 at hv;rw [yM,yW hlt] at hv;obtain rfl:V.str t[j].name=v:=Option.some.inj hv;refine ⟨Wk.one rfl,Kp (show _ from ⟨.ref R,rfl,.ref hu,rfl,.str t[j].name,rfl,hu,.int t[j].hue,rfl,.inl ⟨_,Sum.inr t[j].name,.inr ⟨oo,x'.kp _ _ hh⟩,rfl,(Zz ok.nd hc).symm⟩,R,.ref k.2.1,rfl,?_,.inl ⟨rfl,_,SqL.of (x'.lst k hk)⟩,k.2.1,y7 k.2.2,0,0,.str e.name,rfl,rfl,x'.lst k hk,by decide,by decide,?_,by rw [hl];rfl,t.length-(j+1),by omega,rfl,hlt,ks'.map (qG k.1),us++[e],by unfold y7;rw [yw];rfl,by rw [yJ];simp;omega,?_,?_,?_,?_⟩)⟩
  ·have hq:=DGet.k (k:=Sum.inl (t[j].hue:Int)) x'.dict;rw [<- hg,VO x'.pw hk,hg] at hq;exact hq
  ·rw [zO,hl];unfold seqIndex?;simp
  ·have:=x'.pop hk hl;rw [hl];exact this
  ·rw [yw,uh,List.take_succ,yW hlt,yw];have:e.hue=t[j].hue:=(x'.ph k hk e (by rw [hl];exact yQ)).trans hg;show _++[e.hue]=_++[t[j].hue];rw [this]
  ·have:=Jm x'.pw hk hl;refine List.Perm.trans ?_ up;rw [uT];exact this.append_left us
  ·exact uc.step (Jm x'.pw hk hl) ((x'.ph k hk e (by rw [hl];exact yQ)).trans hg)
 ·have ej:j=t.length:=by omega
  subst ej;rw [ur] at uh;rw [uA,List.nil_append] at uc;exact .inl ⟨⟨_,SqL.of hb',by rw [zO];exact yU _⟩,q ks' H' us x' uh up uc⟩
theorem Lk {p:List Cl}(h:Cnt [] p):p=[]:=by
 cases p with
 |nil=>rfl
 |cons c p=>have:=h c.hue;rw [uq,if_pos (yC rfl)] at this;simp at this
theorem Ug {u:List Cl}(h:u.map Cl.hue=t.map Cl.hue)(x:Tray t):Tray u:=by
 refine ⟨λz=>x.ne ?_,λa ha b hb=>?_⟩
 ·rw [z] at h;cases t with
  |nil=>rfl
  |cons _ _=>cases h
 ·have ma:a.hue∈t.map Cl.hue:=by rw [<- h];exact uY ha
  have mb:b.hue∈t.map Cl.hue:=by rw [<- h];exact uY hb
  obtain ⟨a',ha',ea⟩:=yE.mp ma;obtain ⟨b',hb',eb⟩:=yE.mp mb;rw [<- ea,<- eb];exact x.one a' ha' b' hb'
abbrev XJ:Stmt:=top 67
theorem sc_put_right:v8 ["parts","trays","hues","rows","cloth"] ["parts","trays"] (z9 XJ):=y4
theorem Mg (F:Fun K "_law_put_right" "_law_put_right" XJ f fd)(Au:mg "dict"=none)(Ap:mg "sorted"=none)(l_f:fd.code = .ref c_l)(l_C:∀ h:Heap,K.In h->PySem.W.CodeHd h c_l P_l)(l_P:(P_l,p_l,[((⟨278,38,278,72⟩:Pos),("_law_put_right.<locals>.<lambda>":Str))])∈TABS):FnOk P w K mg base j6 6 f fd ["parts","trays"] (spV XA Qw):=by
 refine F.okC (k:=5) sc_put_right (λvs H Q E h=>Pz h) (λA outer s H vs Q E hr h=>⟨_,(j9 (sW 2 sc_put_right.nd (jY (QC (K:=K) rfl rfl) rfl Au QB (aW (n9 (N':=["cloth"]) (cap:=[none]) (k8 rfl rfl rfl) rfl (@b9 _ K _ _ _ rfl (iW (K:=K) rfl (pv 0) z7)) (λ_ _ _ _ _ _=>(k6 (i:=0) (by show (["cloth"]:List Str).Nodup;decide +kernel) rfl (Or.inl rfl))) (λ_ _ _ _ _ _=>p5) (λ_ _ _ _ _ _=>(@xq _ _ _ _ _ (aC (iW (K:=K) rfl (pv 0) z7) (aW (iW (K:=K) rfl (pv 0) z7)))))))))
  (j9 (sW 3 sc_put_right.nd UZ)
  (j9 (xr PassesOwn.never rfl (@b9 _ K _ _ _ rfl (Gb (K:=K) (k:=2) (x:="cloth") (fr:=[]) (fi:=[]) (clos:=[]) rfl (hr.mono (by decide)) rfl Ap (aW (iW (K:=K) rfl (pv 0) z7)) l_P
  (by exact yR.mpr rfl) (λp hp _=>by rw [yR.mp hp];rfl) l_f l_C ⟨rfl,rfl,rfl,by decide +kernel,by decide +kernel,(λx h=>by
   exfalso
   revert h
   show ¬ (List.lookup x _=_);simp only [List.lookup]
   repeat' split
   all_goals simp),by decide +kernel⟩ ⟨rfl,(λj y i e=>by simp at e),(λy c e=>by cases e),(λy c hy=>by simp at hy)⟩
  (λf c' s H hr2=>(@xq _ _ _ _ _ (aC (iW (K:=K) rfl (pv 0) z7) (aW (iW (K:=K) rfl (pv 0) z7)))))
  (λ_ _ _ _ _=>rfl))) (gW 4 sc_put_right.nd)
   (j3 (Go (xg hr) (pv 3) (iW (K:=K) rfl (pv 4) z7) (y9 (xo (K:=K) rfl) (UY (xg hr) (pv 3) (iW (K:=K) rfl (pv 4) z7) (@zy _ _ _ _ u5) ⟨rfl,rfl,rfl,rfl⟩) (@zy _ _ _ _ (aW (iW (K:=K) rfl (pv 4) z7)))) rfl)))
  (j3 (w9 (n9 (N':=["tray","rows","hues"]) (cap:=[none,some 3,some 2]) (k8 rfl rfl rfl) rfl (@b9 _ K _ _ _ rfl (pv 1)) (λ_ _ _ _ _ _=>(k6 (i:=0) (by show (["tray","rows","hues"]:List Str).Nodup;decide +kernel) rfl (Or.inl rfl))) (λ_ _ _ _ _ _=>p5) (λ_ _ _ _ _ _=>(n9 (N':=["name","rows","hues"]) (cap:=[none,some 1,some 2]) (k8 rfl rfl rfl) rfl (@b9 _ K _ _ _ rfl (pv 0)) (λ_ _ _ _ _ _=>(k6 (i:=0) (by show (["name","rows","hues"]:List Str).Nodup;decide +kernel) rfl (Or.inl rfl))) (λ_ _ _ _ _ _=>p5) (λ_ _ _ _ _ _=>(jX (K:=K) rfl PySem.F.plainAttrs_list PySem.F.slot_list_pop PySem.F.type_list_pop ZV (jZ (xg hr) (pv 1) (jZ (xg hr) (pv 2) (pv 0) (λ_ _=>rfl)) (λ_ _=>rfl)) (j4 z7 u5))))))))))),?_⟩)
 obtain ⟨Hs,xs,sm,r,⟨d,T,rfl,ok,X⟩,q⟩:=h;have hlim:lim=1000000:=rfl;have ten:=ok.ten;have rs0:=zR (N:=["parts","trays","hues","rows","cloth"]) sm r;have e1:xf 2 (z6 jf (q0 (u7 [none] [0] (u4 (x9 j8 (q9 0) (dC (.int 1)))) (v5 0) u8 (f9 (q0 (x9 j8 (q9 0) (dC (.int 0))) (q0 (x9 j8 (q9 0) (dC (.int 1))) x6)))) x6)) [.sh d.pv,.sh (g8 T),.no,.no,.no]=some (.nx [.sh d.pv,.sh (g8 T),.sh (.fk (keysOf d.cls) (d.cls.map λc=> .at (.int c.hue))),.no,.no]):=by
  refine zn (j5 (v7 (t6 Cl.pv (λc=>PV.tup [.at (.str c.name),.at (.int c.hue)]) d.cls (xw (v9 rfl rfl rfl)) rfl (by omega) λc _=>⟨_,rfl,zo (v7 (v9 rfl rfl rfl) (v7 (v9 rfl rfl rfl) rfl)) l2⟩) rfl) ?_);show (xG (d.cls.map λc=>PV.tup [.at (.str c.name),.at (.int c.hue)])).bind _=_;have q1:(d.cls.map λc=>((.inr c.name:x8),PV.at (.int c.hue))).map (·.1)=keysOf d.cls:=by rw [yF];rfl
  have q2:(d.cls.map λc=>((.inr c.name:x8),PV.at (.int c.hue))).map (·.2)=d.cls.map λc=>PV.at (.int c.hue):=by rw [yF];rfl
  rw [XC,yB,q1,q2];exact if_pos ⟨keyN ok.nd,by rw [yZ];omega⟩
 refine seqS e1 rs0 λHs1 H1 σ1 r1=>?_;intro R hR;have xR:Ext Hs1 H1 Hs1 (z5 H1 R (.dK [])):= .newO r1.sub hR;have hRR:z5 H1 R (.dK []) R=some (.dK []):=v6;have sR:Hs1 R=none:=r1.sub.free hR;generalize z5 H1 R (.dK [])=H2 at xR hRR ⊢;have r2:=(r1.go xR).put (i:=3) (x:= .at (.ref R)) (v:= .ref R) (rep_at.mpr rfl);have kl:(d.cls.map m9).Nodup:=UM ok.nd;have ex:u4 (Zg [] (q0 (x9 j8 (q9 0) (dC (.int 1))) x6) (f9 (q0 (x9 j8 (q9 0) (dC (.int 3))) (q0 (x9 j8 (q9 0) (dC (.int 0))) x6)))) [.sh d.pv,.sh (g8 T),.sh (.fk (keysOf d.cls) (d.cls.map λc=> .at (.int c.hue))),.sh (.at (.ref R)),.no]=some ((xX c0 (d.cls.map m9) d.cls).map Cl.pv):=by refine xw ?_;show (some ([]:List PV)).bind (λcs=>_)=_;exact KA c0 Cl.pv m9 (λc _=>zo (v7 (v9 rfl rfl rfl) (v7 (v9 rfl rfl rfl) rfl)) l2) (by omega) kl
 have lp:(xX c0 (d.cls.map m9) d.cls).Perm d.cls:=Gf c0 (yZ _);generalize xX c0 (d.cls.map m9) d.cls=L at ex lp;refine gn ?_
 dsimp only
 refine NK ex r2 λJ Hs3 H3 x3 itk=>?_
 -- the slots
 have r3:=r2.go x3;obtain ⟨w0,g0,c0'⟩:=r3.sh 0 _ rfl;obtain ⟨w1,g1,c1⟩:=r3.sh 1 _ rfl;obtain ⟨w2,g2,c2⟩:=r3.sh 2 _ rfl;obtain ⟨w3,g3,c3⟩:=r3.sh 3 _ rfl;obtain rfl:=rep_at.mp c3;obtain ⟨hu,oo,kvs,rfl,hk,k1,k2⟩:=rep_fk.mp c2;have ekv:kvs=d.cls.map λc=>((Sum.inr c.name:x8),V.int c.hue):=by
  have k3:kvs.map (·.2)=d.cls.map λc=>V.int c.hue:=by
   have:Reps Hs3 ((d.cls.map λc=>V.int c.hue).map PV.at) (kvs.map (·.2)):=by rw [yF];exact k2
   exact this.ats
  exact ZH k1 k3
 subst ekv;obtain ⟨x0,x1,x2,x3',s4,eσ⟩:=five r3.len;rw [eσ] at g0 g1 g2 g3 ⊢;obtain rfl:x0=some w0:=Option.some.inj g0;obtain rfl:x1=some w1:=Option.some.inj g1;obtain rfl:x2=some (.ref hu):=Option.some.inj g2;obtain rfl:x3'=some (.ref R):=Option.some.inj g3;have s3R:Hs3 R=none:=x3.s4 R (by rw [hRR];exact λz=>nomatch z) sR;have h3R:H3 R=some (.dK []):=x3.s2 _ _ hRR
 -- what stays
 open Classical in
 let Hb:Hp:=λb=>if b=R then none else H3 b
 have hbR:Hb R=none:=if_pos rfl;have hbo:∀ b,b≠R->Hb b=H3 b:=λb h=>if_neg h
 clear_value Hb
 have s3b:Same Hs3 Hb:=λb o e=>by
  rw [hbo b (w4 e s3R)];exact x3.s3 _ _ e
 have hHb:Same H Hb:=λb o e=>by
  have e1:=r1.ext.s2 _ _ e;rw [hbo b (w4 e1 hR)];exact x3.s2 _ _ (xR.s2 _ _ e1)
 have i0:RI Hb H3 R []:=⟨h3R,(λ_ z=>nomatch z),.nil,(λ_ z=>nomatch z),⟨hbR,λ_ z=>nomatch z⟩,λb o e=>by rw [hbo b (w4 e hbR)] at e;exact e,λ_ z=>nomatch z⟩;have ll:L.length<=10:=by rw [lp.length_eq];exact ten
 refine ⟨λk m σ H'=>m=L.length-k/\k<=L.length/\(∃ s4,σ=[some w0,some w1,some (.ref hu),some (.ref R),s4])/\∃ ks,RI Hb H' R ks/\(m5 ks).Perm (L.take k)/\ks.length<=k,⟨L.length,by simp,yo _,⟨_,rfl⟩,[],i0,by rw [List.take_zero];exact List.Perm.refl _,yU _⟩,?_⟩;rintro k m σ H4 ⟨rfl,hkL,⟨s4,rfl⟩,ks,ri,pp,kln⟩;have s34:Same Hs3 H4:=λb o e=>ri.kp b o (s3b b o e);have ksl:ks.length<=1000:=by omega
 have sml:∀ q∈ks,q.2.2.length<=1000:=λq hq=>by
  have h1:q.2.2.length<=(m5 ks).length:=by unfold m5;rw [List.flatMap_def];exact QR (uY hq)
  rw [pp.length_eq,uI] at h1;omega
 by_cases hlt:k<L.length
 ·obtain ⟨go,yl⟩:=itk.go k (L[k]).pv Hs3 H4 (by rw [yM,yW hlt];rfl) (.refl _) s34;refine .inr ⟨go,λσ' H'=>k+1<=L.length/\(∃ s4,σ'=[some w0,some w1,some (.ref hu),some (.ref R),s4])/\∃ ks,RI Hb H' R ks/\(m5 ks).Perm (L.take (k+1))/\ks.length<=k+1,λσ' H' p=>⟨L.length-(k+1),by omega,rfl,p.1,p.2⟩,λv H5 y=>?_⟩;obtain ⟨Hs5,x5,r5⟩:=yl v H5 y;obtain ⟨a,rfl,ha⟩:=cl_at x5.s3 r5;have ri5:=ri.grow x5.s2;refine Ly ri5 ha (λz=>by rw [z,ri5.dict] at ha;cases ha) sml ksl λks' H' ri' pp' ln'=>⟨hlt,⟨_,rfl⟩,ks',ri',?_,by omega⟩;rw [List.take_succ,yW hlt];exact pp'.trans ((pp.cons _).trans (List.perm_append_comm (l₁:=[L[k]])))
 ·have ek:k=L.length:=by omega
  subst ek;rw [ur] at pp;refine .inl ⟨by have:=itk.stop Hs3 H4 (.refl _) s34;rw [yZ] at this;exact this,?_⟩;obtain ⟨tr,tvs,rfl,htr,tl,tat⟩:=tr_at s3b c1;have p0:(m5 ks).Perm d.cls:=pp.trans lp;have tn:=X.len ok;refine ⟨.ref tr,rfl,tr,rfl,⟨_,SqL.of (ri.kp _ _ htr)⟩,λi m zs H'=>m=T.length-i/\i<=T.length/\∃(Hb2:Hp)(ks2:List o6)(as:List Addr)(T2:List (List Cl)),Same Hb Hb2/\RI Hb2 H' R ks2/\zs=as.map V.ref/\as.length=i/\T2.length=i/\(∀(j:Nat)(b:Addr)(t:List Cl),as[j]?=some b->T2[j]?=some t->Hb2 b=some (.lst (y7 t)))/\as.Nodup/\(∀ b∈as,H b=none/\Hb2 b≠none)/\T2.map (List.map Cl.hue)=(T.take i).map (List.map Cl.hue)/\(T2.flatten++m5 ks2).Perm d.cls/\Cnt (T.drop i).flatten (m5 ks2),
   ⟨T.length,by simp,yo _,Hb,ks,[],[],.refl _,ri,rfl,rfl,rfl,(λj b t h=>by simp at h),.nil,(λ_ z=>nomatch z),by simp,by simpa using p0,λg=>?_⟩,?_⟩
  ·rw [List.drop_zero];exact ((X.perm.trans p0.symm).filter _).length_eq
  rintro i m zs H5 ⟨rfl,hi,Hb2,ks2,as,T2,sb,ri2,rfl,al,tl2,at2,nd2,fr2,hu2,pm2,cn2⟩;refine ⟨qF (by rw [yZ];omega),?_⟩;have htr5:=ri2.kp _ _ (sb _ _ htr);by_cases hlt:i<T.length
  ·obtain ⟨b,hbv,hb⟩:=tat i T[i] (yW hlt);refine .inr ⟨⟨tvs,.ref b,SqL.of htr5,hbv⟩,λv H6 y=>?_⟩;obtain ⟨rfl,y⟩:=y;have hv:=y _ (SqL.of htr5);rw [hbv] at hv;obtain rfl:V.ref b=v:=Option.some.inj hv;have hd:T.drop i=T[i]::T.drop (i+1):=ya hlt;rw [hd,yj] at cn2;have mt:=yr hlt;refine ⟨Wk.one rfl,Kp (Hj (d:=d) (oo:=oo) ok ri2 (sb _ _ hb) (sb _ _ (s3b _ _ hk)) (X.sub mt) (by have:=X.tl ok mt;omega) cn2 λks3 H7 us ri3 uh up uc p hp=>⟨T.length-(i+1),by omega,rfl,hlt,z5 Hb2 p (.lst (y7 us)),ks3,as++[p],T2++[us],?_,ri3.bse hp,by rw [yw];rfl,by rw [yJ];simp;omega,by rw [yJ];simp;omega,?_,?_,?_,?_,?_,uc⟩)⟩
   ·intro c o e;have e2:=sb _ _ e;have:c≠p:=λz=>by rw [z] at e2;rw [ri3.kp _ _ e2] at hp;cases hp
    rw [z0 this];exact e2
   ·intro j c t hc htt;rw [List.getElem?_append] at hc htt;rw [al] at hc;rw [tl2] at htt;split at hc
    ·rename_i hj;rw [if_pos hj] at htt;have:=at2 j c t hc htt;have ne:c≠p:=λz=>by rw [z] at this;rw [ri3.kp _ _ this] at hp;cases hp
     rw [z0 ne];exact this
    ·rename_i hj;rw [if_neg hj] at htt;cases hji:j-i with
     |zero=>rw [hji] at hc htt;cases hc;cases htt;exact v6
     |succ n=>rw [hji] at hc;cases hc
   ·refine List.nodup_append.mpr ⟨nd2,by simp,λa ha c hc z=>?_⟩;rw [yR.mp hc] at z;subst z;cases e:Hb2 a with
    |none=>exact (fr2 a ha).2 e
    |some o=>rw [ri3.kp _ _ e] at hp;cases hp
   ·intro c hc;rcases yu.mp hc with h|h
    ·refine ⟨(fr2 c h).1,?_⟩;cases e:Hb2 c with
     |none=>exact absurd e (fr2 c h).2
     |some o =>
      have ne:c≠p:=λz=>by rw [z] at e;rw [ri3.kp _ _ e] at hp;cases hp
      rw [z0 ne,e];exact λz=>nomatch z
    ·rw [yR.mp h];refine ⟨?_,by rw [v6];exact λz=>nomatch z⟩;cases e:H p with
     |none=>rfl
     |some o=>rw [ri3.kp _ _ (sb _ _ (hHb _ _ e))] at hp;cases hp
   ·rw [yw,hu2,List.take_succ,yW hlt,yw];show _++[us.map Cl.hue]=_++[T[i].map Cl.hue];rw [uh]
   ·rw [List.flatten_append];refine List.Perm.trans ?_ pm2;rw [uT];refine List.Perm.append_left _ ?_;simpa using up
  ·have ei:i=T.length:=by omega
   subst ei;rw [uA] at cn2;rw [ur] at hu2;have pn:=Lk cn2;rw [pn,yk] at pm2;refine .inl ⟨⟨_,SqL.of htr5,by omega⟩,λF hF=>?_⟩;have X2:Trays d T2:=by
    refine ⟨pm2,λu hu'=>?_⟩;have:u.map Cl.hue∈T.map (List.map Cl.hue):=by rw [<- hu2];exact uY hu'
    obtain ⟨t,ht,et⟩:=yE.mp this;exact Ug et.symm (X.each t ht)
   have keep:Same H5 (z5 H5 F (.lst (as.map V.ref))):=λb o e=>by rw [z0 (w4 e hF)];exact e
   have sH:Same H (z5 H5 F (.lst (as.map V.ref))):=λb o e=>keep _ _ (ri2.kp _ _ (sb _ _ (hHb _ _ e)));have zl:as.length=(T2.map w6).length:=by rw [al,yZ,tl2]
   have m1:(as.zip (T2.map w6)).map (·.1)=as:=List.map_fst_zip (by omega);have m2:(as.zip (T2.map w6)).map (·.2)=T2.map w6:=List.map_snd_zip (by omega);have mF:F∉as:=λz=>by
    cases e:Hb2 F with
    |none=>exact (fr2 F z).2 e
    |some o=>rw [ri2.kp _ _ e] at hF;cases hF
   have dp:Deep H Hs (z5 H5 F (.lst (as.map V.ref))) F (as.zip (T2.map w6)):=by
    refine ⟨?_,λp hp=>?_,by rw [m1];exact yx.mpr ⟨mF,nd2⟩,λb hb=>?_⟩
    ·rw [v6,show (as.zip (T2.map w6)).map (λp=>V.ref p.1)=((as.zip (T2.map w6)).map (·.1)).map V.ref by rw [yF];rfl,m1]
    ·obtain ⟨j,hj,ej⟩:=List.mem_iff_getElem.mp hp;have hj1:j<as.length:=by rw [List.length_zip] at hj;omega
     have hj2:j<T2.length:=by omega
     have ep:p=(as[j],w6 T2[j]):=by rw [<- ej,List.getElem_zip,List.getElem_map]
     rw [ep];have:=at2 j as[j] T2[j] (yW hj1) (yW hj2);exact ⟨y7 T2[j],keep _ _ (ri2.kp _ _ this),by rw [wR];exact .ofAts _⟩
    ·rw [m1] at hb;rcases yP.mp hb with rfl|hb
     ·have:H b=none:=by
       cases e:H b with
       |none=>rfl
       |some o=>rw [ri2.kp _ _ (sb _ _ (hHb _ _ e))] at hF;cases hF
      exact ⟨this,sm.free this⟩
     ·exact ⟨(fr2 b hb).1,sm.free (fr2 b hb).1⟩
   have el:(T2.map y7).map (λl=>PV.lst (l.map .at))=(as.zip (T2.map w6)).map (·.2):=by rw [m2,yF];refine uX λt _=>?_;show PV.lst ((y7 t).map .at)=w6 t;unfold w6;rw [wR]
   obtain ⟨Hs',xx,rr⟩:=Deep.clean2 sm sH dp el;rw [el,m2] at rr;exact q (g8 T2) _ Hs' _ ⟨d,T,T2,rfl,rfl,X2⟩ xx rr
section
variable {d:Dr}{T:List (List Cl)}{t:List Cl}{a b c:Cl}
def swn (a b:Cl)(s:Str):Str:=if s=a.name then b.name else if s=b.name then a.name else s
def sw (a b c:Cl):Cl:=if c.name=a.name then b else if c.name=b.name then a else c
theorem Hh (c:Cl):(sw a b c).name=swn a b c.name:=by
 unfold sw swn;split
 ·rfl
 ·split<;>rfl
theorem Hi (nd:(d.cls.map Cl.name).Nodup)(ha:a∈d.cls)(hb:b∈d.cls):(d.cls.map (sw a b)).Perm d.cls:=by
 have uniq:∀{l:List Cl},(l.map Cl.name).Nodup->∀{x y:Cl},x∈l->y∈l->x.name=y.name->x=y:=by
  intro l
  induction l with
  |nil=>intro _ x y h;cases h
  |cons z l ih =>
   intro h x y hx hy e;obtain ⟨h1,h2⟩:=yx.mp h;rcases yP.mp hx with rfl|hx'<;>rcases yP.mp hy with rfl|hy'
   ·rfl
   ·exact absurd (e▸uY hy') h1
   ·exact absurd (e▸uY hx') h1
   ·exact ih h2 hx' hy' e
 by_cases eab:a.name=b.name
 ·have:a=b:=uniq nd ha hb eab;subst this;have:d.cls.map (sw a a)=d.cls:=(uX λx hx=>by
   unfold sw;split
   ·rename_i h;rw [uniq nd ha hx h.symm];rfl
   ·rfl).trans (List.map_id _)
  rw [this]
 ·obtain ⟨l1,l2,el⟩:=List.append_of_mem ha;have hb':b∈l1++l2:=by
   rw [el] at hb;rcases yu.mp hb with h|h
   ·exact uD _ h
   ·rcases yP.mp h with h|h
    ·exact absurd (by rw [h]) eab
    ·exact yv _ h
  obtain ⟨m1,m2,em⟩:=List.append_of_mem hb';have p:d.cls.Perm (a::b::(m1++m2)):=by rw [el];refine uU.trans (List.Perm.cons a ?_);rw [em];exact uU
  have nd2:=(p.map Cl.name).nodup_iff.mp nd;rw [yO,yO] at nd2;obtain ⟨n1,n2⟩:=yx.mp nd2;obtain ⟨n3,_⟩:=yx.mp n2;have rest:(m1++m2).map (sw a b)=m1++m2:=(uX λx hx=>by
   unfold sw;have mx:x.name∈(m1++m2).map Cl.name:=uY hx;have q1:x.name≠a.name:=λz=>n1 (yN _ (z▸mx));have q2:x.name≠b.name:=λz=>n3 (z▸mx);rw [if_neg q1,if_neg q2];rfl).trans (List.map_id _)
  refine (p.map (sw a b)).trans (List.Perm.trans ?_ p.symm);rw [yO,yO,rest];have e1:sw a b a=b:=by unfold sw;rw [if_pos rfl]
  have e2:sw a b b=a:=by unfold sw;rw [if_neg λz=>eab z.symm,if_pos rfl]
  rw [e1,e2];exact List.Perm.swap a b _
theorem Trays.sw (ok:d.Ok)(x:Trays d T)(ha:a∈d.cls)(hb:b∈d.cls)(hh:a.hue=b.hue):Trays d (T.map (List.map (Lw.sw a b))):=by
 have hue:∀ c∈d.cls,(Lw.sw a b c).hue=c.hue:=λc hc=>by
  unfold Lw.sw;split
  ·rename_i h;rw [ZX ok ha hc h,hh]
  ·split
   ·rename_i h;rw [ZX ok hb hc h,hh]
   ·rfl
 refine ⟨?_,λu hu=>?_⟩
 ·rw [<- List.map_flatten];exact (x.perm.map _).trans (Hi ok.nd ha hb)
 ·obtain ⟨t,ht,rfl⟩:=yE.mp hu;refine Ug (t:=t) ?_ (x.each t ht);rw [yF];exact uX λc hc=>hue c (x.sub ht c hc)
def VF (a b:Cl):PV:= .dk ((qK [] [((Sum.inr a.name:x8),V.str b.name),(Sum.inr b.name,V.str a.name)]).map (·.1)) ((qK [] [((Sum.inr a.name:x8),V.str b.name),(Sum.inr b.name,V.str a.name)]).map λp=> .at p.2)
theorem Hu (s:Str):QG (q8 1) (q9 0) (q8 0) [.sh (.at (.str s)),.sh (VF a b)]=some (.at (.str (swn a b s))):=by
 show some ((i5 (Sum.inr s) ((qK [] [((Sum.inr a.name:x8),V.str b.name),(Sum.inr b.name,V.str a.name)]).map (·.1)) ((qK [] [((Sum.inr a.name:x8),V.str b.name),(Sum.inr b.name,V.str a.name)]).map λp=>PV.at p.2)).getD (.at (.str s)))=_;unfold swn;by_cases e:a.name=b.name
 ·have m:qK [] [((Sum.inr a.name:x8),V.str b.name),(Sum.inr b.name,V.str a.name)]=[((Sum.inr a.name:x8),V.str a.name)]:=by unfold qK i6;simp [e,i6]
  rw [m];show some ((if (Sum.inr a.name:x8)=Sum.inr s then some (PV.at (.str a.name)) else none).getD (.at (.str s)))=_;by_cases h:s=a.name
  ·rw [if_pos (by rw [h]),if_pos h,<- e];rfl
  ·rw [if_neg (λz=>h (by injection z with z;exact z.symm)),if_neg h,if_neg (λz=>h (z.trans e.symm))];rfl
 ·have m:qK [] [((Sum.inr a.name:x8),V.str b.name),(Sum.inr b.name,V.str a.name)]=[((Sum.inr a.name:x8),V.str b.name),(Sum.inr b.name,V.str a.name)]:=by unfold qK i6;simp [e,i6]
  rw [m];show some ((if (Sum.inr a.name:x8)=Sum.inr s then some (PV.at (.str b.name)) else if (Sum.inr b.name:x8)=Sum.inr s then some (PV.at (.str a.name)) else none).getD (.at (.str s)))=_;by_cases h:s=a.name
  ·rw [if_pos (by rw [h]),if_pos h];rfl
  ·rw [if_neg (λz=>h (by injection z with z;exact z.symm)),if_neg h];by_cases h2:s=b.name
   ·rw [if_pos (by rw [h2]),if_pos h2];rfl
   ·rw [if_neg (λz=>h2 (by injection z with z;exact z.symm)),if_neg h2];rfl
theorem Hr (ok:d.Ok)(x:Trays d T)(h2:q8 2 ε=some (g8 T))(h6:s9 [none,some 6] ε=[.no,.sh (VF a b)]):u7 [none,some 6] [0] (u4 (q8 2)) (v5 0) u8 (u7 [none,some 1] [0] (u4 (q8 0)) (v5 0) u8 (QG (q8 1) (q9 0) (q8 0))) ε=some (g8 (T.map (List.map (sw a b)))):=by
 have hlim:lim=1000000:=rfl;have tl:=x.len ok;refine (t6 w6 (λt=>w6 (t.map (sw a b))) T (xw h2) rfl (by omega) λt ht=>?_).trans ?_
 ·rw [h6];refine ⟨_,rfl,?_⟩;have:=x.tl ok ht;refine (t6 (λc:Cl=>PV.at (.str c.name)) (λc=>PV.at (.str (swn a b c.name))) t (by show some (w5 (t.map Cl.name))=_;rw [nm_F]) rfl (by omega) λc _=>⟨_,rfl,Hu c.name⟩).trans ?_;unfold w6;rw [nm_F,yF]
  congr 2
  refine uX λc _=>?_;show PV.at (.str (swn a b c.name))=PV.at (.str (sw a b c).name);rw [Hh]
 ·unfold g8;rw [yF];rfl
theorem PM (ok:d.Ok)(h:q9 1 ε=some d.pv):z6 jf (q0 (u7 [none] [0] (u4 (x9 j8 (q9 1) (dC (.int 1)))) (v5 0) u8 (f9 (q0 (x9 j8 (q9 0) (dC (.int 0))) (q0 (x9 j8 (q9 0) (dC (.int 1))) x6)))) x6) ε=some (.fk (keysOf d.cls) (d.cls.map λc=> .at (.int c.hue))):=by
 have hlim:lim=1000000:=rfl;have ten:=ok.ten;refine j5 (v7 (t6 Cl.pv (λc=>PV.tup [.at (.str c.name),.at (.int c.hue)]) d.cls (xw (v9 h rfl rfl)) rfl (by omega) λc _=>⟨_,rfl,zo (v7 (v9 rfl rfl rfl) (v7 (v9 rfl rfl rfl) rfl)) l2⟩) rfl) ?_;show (xG (d.cls.map λc=>PV.tup [.at (.str c.name),.at (.int c.hue)])).bind _=_;have q1:(d.cls.map λc=>((.inr c.name:x8),PV.at (.int c.hue))).map (·.1)=keysOf d.cls:=by rw [yF];rfl
 have q2:(d.cls.map λc=>((.inr c.name:x8),PV.at (.int c.hue))).map (·.2)=d.cls.map λc=>PV.at (.int c.hue):=by rw [yF];rfl
 rw [XC,yB,q1,q2];exact if_pos ⟨keyN ok.nd,by rw [yZ];omega⟩
end
def wa:List PV->Prop:=λxs=>∃(d:Dr)(T:List (List Cl)),xs=[d.pv,g8 T]/\d.Ok/\Trays d T/\d.cls≠[]
def wo:List PV->PV->Prop:=λxs y=>∃(d:Dr)(T T2:List (List Cl)),xs=[d.pv,g8 T]/\y=g8 T2/\Trays d T2
abbrev JO:Stmt:=top 68
abbrev Wu (K:Fg):WS:=(wSeq (p6 3 (wP (z6 jf (q0 (u7 [none] [0] (u4 (x9 j8 (q9 1) (dC (.int 1)))) (v5 0) u8 (f9 (q0 (x9 j8 (q9 0) (dC (.int 0))) (q0 (x9 j8 (q9 0) (dC (.int 1))) x6)))) x6))))
  (wSeq (p6 4 (qa j8 (qa j8 (wP (x9 j8 (q9 1) (dC (.int 1)))) (i9 0 (wP (z6 qq (q0 (x9 j8 (q9 1) (dC (.int 1))) x6))))) (wP (dC (.int 0)))))
  (wSeq (p6 5 (qa j8 (qa j8 (wP (x9 j8 (q9 1) (dC (.int 1)))) (i9 0 (wP (z6 qq (q0 (x9 j8 (q9 1) (dC (.int 1))) x6))))) (wP (dC (.int 0)))))
  (wSeq (qx (wPT (dT (x9 pNe (zY (q9 3) (q9 4)) (zY (q9 3) (q9 5))))) (qy (wP (q8 2))) qN)
  (wSeq (p6 6 (wP (YH (q8 4) (q8 5) (q8 5) (q8 4))))
  (qy (wP (u7 [none,some 6] [0] (u4 (q8 2)) (v5 0) u8 (u7 [none,some 1] [0] (u4 (q8 0)) (v5 0) u8 (QG (q8 1) (q9 0) (q8 0)))))))))))
theorem sc_exchanged:v8 ["row","parts","trays","hues","one","other","turned"] ["row","parts","trays"] (z9 JO):=y4
theorem PF:∀ xs,wa xs->xs.length+1=(["row","parts","trays"]:List Str).length:=by rintro xs ⟨d,T,rfl,_,_⟩;rfl
theorem PP {K:Fg}:∀ xs n,wa xs->Wu K (u9 n::xs.map .sh++List.replicate ((["row","parts","trays","hues","one","other","turned"]:List Str).length-(xs.length+1)) .no) (λ_=>False) λy ε=>wo xs y/\xK 0 ε:=by
 rintro xs n ⟨d,T,rfl,ok,x,ne⟩;have hlim:lim=1000000:=rfl;have ten:=ok.ten;have BT:=js;have cl:0<d.cls.length:=List.length_pos_iff.mpr ne;have e2:((d.cls.map Cl.pv).length:Int)=d.cls.length:=by rw [yZ]
 have draw:∀ n:Int,∃ c∈d.cls,atI (d.cls.map Cl.pv) (n % ((d.cls.map Cl.pv).length:Int))=some c.pv:=λn=>by
  have c0:0<=n % ((d.cls.map Cl.pv).length:Int):=yq _ (by omega);have c1:n % ((d.cls.map Cl.pv).length:Int)<((d.cls.map Cl.pv).length:Int):=yt _ (by omega);obtain ⟨j,hj0⟩:=uW c0;have hj:j<d.cls.length:=by omega
  refine ⟨d.cls[j],yr hj,?_⟩;rw [hj0];exact xN (by rw [yM,yW hj];rfl)
 obtain ⟨a,ha,ea⟩:=draw n;refine ⟨_,PM ok rfl,_,rfl,⟨n,rfl⟩,_,rfl,n,_,rfl,rfl,xQ (by omega) (by omega),a.pv,ea,_,rfl,.at (.str a.name),rfl,?_⟩;generalize n / ((d.cls.map Cl.pv).length:Int)=n1;obtain ⟨b,hb,eb⟩:=draw n1;refine ⟨_,rfl,⟨n1,rfl⟩,_,rfl,n1,_,rfl,rfl,xQ (by omega) (by omega),b.pv,eb,_,rfl,.at (.str b.name),rfl,?_⟩;generalize n1 / ((d.cls.map Cl.pv).length:Int)=n2;have lk:=λc hc=>ZL (λc:Cl=>PV.at (.int c.hue)) ok.nd c hc;have ct:dT (x9 pNe (zY (q9 3) (q9 4)) (zY (q9 3) (q9 5))) [u9 n2,.sh d.pv,.sh (g8 T),.sh (.fk (keysOf d.cls) (d.cls.map λc=> .at (.int c.hue))),.sh (.at (.str a.name)),.sh (.at (.str b.name)),.no]=some (!decide ((a.hue:Int)=b.hue)):=r9 (v9 (Zp rfl rfl rfl (lk a ha)) (Zp rfl rfl rfl (lk b hb)) (Di _ _));by_cases hh:(a.hue:Int)=b.hue
 ·rw [yC hh] at ct;refine vk ct ?_;refine ⟨VF a b,rfl,?_⟩;exact ⟨_,Hr ok x rfl rfl,⟨d,T,_,rfl,rfl,x.sw ok ha hb (by omega)⟩,n2,rfl⟩
 ·rw [yD hh] at ct;refine Qt ct ⟨_,rfl,⟨d,T,T,rfl,rfl,x⟩,n2,rfl⟩
theorem DH (F:Fun K "_law_exchanged" "_law_exchanged" JO f fd)(Ac:Fn P w K mg base 1 "_law_digit" ["row","many"] xZ)(Au:mg "dict"=none)(Ad:mg "len"=none):FnOk P w K mg base j6 2 f fd ["row","parts","trays"] (spD wa wo) :=
 okD (k:=1) (b:=Wu K) F sc_exchanged PF (λcdv A outer s H E hr=>⟨_,(j9 (sW 3 sc_exchanged.nd (jY (QC (K:=K) rfl rfl) rfl Au QB (aW (n9 (N':=["cloth"]) (cap:=[none]) (k8 rfl rfl rfl) rfl (@b9 _ K _ _ _ rfl (iW (K:=K) rfl (pv 1) z7)) (λ_ _ _ _ _ _=>(k6 (i:=0) (by show (["cloth"]:List Str).Nodup;decide +kernel) rfl (Or.inl rfl))) (λ_ _ _ _ _ _=>p5) (λ_ _ _ _ _ _=>(@xq _ _ _ _ _ (aC (iW (K:=K) rfl (pv 0) z7) (aW (iW (K:=K) rfl (pv 0) z7)))))))))
  (j9 (sW 4 sc_exchanged.nd (iW (K:=K) rfl (iW (K:=K) rfl (iW (K:=K) rfl (pv 1) z7) (fW Ac hr (aC (pv 0) (aW (g9 (qi (K:=K) rfl) rfl Ad PySem.boot_len (aW (iW (K:=K) rfl (pv 1) z7))))))) z7))
  (j9 (sW 5 sc_exchanged.nd (iW (K:=K) rfl (iW (K:=K) rfl (iW (K:=K) rfl (pv 1) z7) (fW Ac hr (aC (pv 0) (aW (g9 (qi (K:=K) rfl) rfl Ad PySem.boot_len (aW (iW (K:=K) rfl (pv 1) z7))))))) z7))
  (j9 (c8 (o8 (wU (K:=K) (hu6 hr) rfl) (jZ (xg hr) (pv 3) (pv 4) (λ_ _=>rfl)) (jZ (xg hr) (pv 3) (pv 5) (λ_ _=>rfl)) (p8 _)) (j3 (w9 (pv 2))) m6)
  (j9 (sW 6 sc_exchanged.nd (MO (Gk (pv 4) (pv 5) (Gk (pv 5) (pv 4) Lp)) rfl rfl (by decide) (by decide)))
  (j3 (w9 (n9 (N':=["tray","turned"]) (cap:=[none,some 6]) (k8 rfl rfl rfl) rfl (@b9 _ K _ _ _ rfl (pv 2)) (λ_ _ _ _ _ _=>(k6 (i:=0) (by show (["tray","turned"]:List Str).Nodup;decide +kernel) rfl (Or.inl rfl))) (λ_ _ _ _ _ _=>p5) (λ_ _ _ _ _ _=>(n9 (N':=["name","turned"]) (cap:=[none,some 1]) (k8 rfl rfl rfl) rfl (@b9 _ K _ _ _ rfl (pv 0)) (λ_ _ _ _ _ _=>(k6 (i:=0) (by show (["name","turned"]:List Str).Nodup;decide +kernel) rfl (Or.inl rfl))) (λ_ _ _ _ _ _=>p5) (λ_ _ _ _ _ _=>(UY (xg hr) (pv 1) (pv 0) (pv 0) ⟨rfl,rfl,rfl,rfl⟩)))))))))))),
  (by repeat' first|infer_instance|(refine @Mi.instSemWSTSeqWSeq _ _ _ _ ?_ ?_)|(apply @Mi.instSemWSTForWForOfSemWIOfSemWG))⟩) PP
theorem Lh (T:List (List Cl)):vY 6 (g8 T):=λx hx=>by
 obtain ⟨t,_,rfl⟩:=yE.mp hx;intro y hy;obtain ⟨s,_,rfl⟩:=yE.mp hy;exact rfl
section
variable {C:Addr}{d:Dr}{T T':List (List Cl)}
theorem v_ord (ok:d.Ok)(x:Trays d T):jU C [d.ob C,g8 T]=some (.at (.bl (qp T d.rows).isNone)):=by refine t9 rfl (b8 (QP (j5 rfl (HN ok x))) (p7 (v9 (j5 rfl (Rm ok x)) rfl ?_)));cases qp T d.rows<;>rfl
theorem Ch {b:Bool}:m4 [.at (.bl b),.at (.ty "bool")]=some (.at (.bl true)):=by unfold m4 tyP;rfl
theorem Trays.of (h:e.pv=d.pv)(x:Trays e T):Trays d T:=⟨by rw [<- BY h];exact x.perm,x.each⟩
end
abbrev vh:Stmt:=top 69
abbrev WH (K:Fg)(Aa:Addr):WS:=(wSeq (p6 1 (XR (Qc K) vp (y3 (wP (q8 0)) (y3 (wP (dC (.int 8))) i8))))
  (wSeq (p6 2 (wP (z6 (vP Aa) (q0 (x9 j8 (q9 1) (dC (.int 0))) (q0 (x9 j8 (q9 1) (dC (.int 1))) (q0 (x9 j8 (q9 1) (dC (.int 2))) (q0 (x9 j8 (q9 1) (dC (.int 3))) x6)))))))
  (wSeq (XS 3 (va K) jv (y3 (wP (q8 0)) (y3 (wP (dC (.int 2))) i8)))
  (wSeq (wFor (wIp (xT (q0 (dC (.int 8)) x6))) (v5 4) (wSeq (p6 5 (xa 3 XB Qx (y3 (wP (q8 1)) i8)))
  (wSeq (qx (wT (qa pGt (i9 3 (wP (dC (.int 3)))) (wP (dC (.int 0))))) (p6 5 (XR XA Qw (y3 (wP (q8 1)) (y3 (wP (q8 5)) i8)))) qN)
  (wSeq (qx (wAnd (wPT (dT (x9 pGt (z6 qq (q0 (x9 j8 (q9 1) (dC (.int 1))) x6)) (dC (.int 0))))) (wT (qa pEq (i9 3 (wP (dC (.int 2)))) (wP (dC (.int 0)))))) (p6 5 (xa 3 wa wo (y3 (wP (q8 1)) (y3 (wP (q8 5)) i8)))) qN)
  (wSeq (p6 6 (wP (u7 [none] [0] (u4 (q8 5)) (v5 0) u8 (z6 jW (q0 (q9 0) x6)))))
  (wSeq (p6 7 (wP (z6 (jU Aa) (q0 (q8 2) (q0 (q8 6) x6)))))
  (wSeq (qx (wPT (dOr (i4 (t0 (z6 m4 (q0 (q9 7) (q0 (dC (.ty "bool")) x6))))) (dT (x9 pNe (q9 7) (z6 vR (q0 (q8 1) (q0 (q8 5) x6))))))) (qy (wP (dC (.bl false)))) qN)
  (qx (wPT (dT (x9 pNe (q9 6) (q9 5)))) (qy (wP (dC (.bl false)))) qN))))))))
  (qy (wP (dC (.bl true))))))))
theorem sc_law:v8 ["script","parts","works","row","turn","trays","handed","found"] ["script"] (z9 vh):=y4
theorem PQ {K:Fg}:∀ ns:List Int,ns.length<=63->WH K Aa (.sh (scr K ns)::List.replicate ((["script","parts","works","row","turn","trays","handed","found"]:List Str).length-1) .no) (λ_=>False) λy _=>y = .at (.bl true):=by
 intro ns h63;have hlim:lim=1000000:=rfl;have BT:=js;refine ⟨_,rfl,_,rfl,⟨ns,8,rfl,h63,by decide⟩,?_⟩;rintro _ ⟨d,z,m,_,rfl,ok,_⟩;refine ⟨d.ob Aa,j5 (v7 (v9 rfl rfl rfl) (v7 (v9 rfl rfl rfl) (v7 (v9 rfl rfl rfl) (v7 (v9 rfl rfl rfl) rfl)))) (Rb ok),?_⟩;refine ⟨_,rfl,_,rfl,⟨ns,2,rfl,h63,by decide,by decide⟩,?_⟩;rintro _ ⟨n,rfl⟩;refine ⟨xt 0 8,wc (k:=8) rfl (by omega),?_⟩;refine ZO (λ_ ε=>∃(n:Int)(s4 s5 s6 s7:MSlot),ε=[.sh (scr K ns),.sh d.pv,.sh (d.ob Aa),u9 n,s4,s5,s6,s7]) ?_ ?_ _ _ ⟨n,_,_,_,_,rfl⟩
 ·rintro ε ⟨n,s4,s5,s6,s7,rfl⟩;exact ⟨.at (.bl true),rfl,rfl⟩
 ·rintro y rest ε ⟨n,s4,s5,s6,s7,rfl⟩;refine ⟨_,rfl,⟨n,rfl⟩,_,rfl,⟨n,rfl⟩,⟨d,rfl,ok⟩,?_⟩;rintro _ n1 ⟨e,T,he,rfl,X0⟩;injection he with he _;have X:Trays d T:=X0.of he.symm
  -- behind what may put them right,and what may exchange two
  have fin:∀ (n3:Int) (T:List (List Cl)),Trays d T->(wSeq (p6 6 (wP (u7 [none] [0] (u4 (q8 5)) (v5 0) u8 (z6 jW (q0 (q9 0) x6))))) (wSeq (p6 7 (wP (z6 (jU Aa) (q0 (q8 2) (q0 (q8 6) x6))))) (wSeq (qx (wPT (dOr (i4 (t0 (z6 m4 (q0 (q9 7) (q0 (dC (.ty "bool")) x6))))) (dT (x9 pNe (q9 7) (z6 vR (q0 (q8 1) (q0 (q8 5) x6))))))) (qy (wP (dC (.bl false)))) qN) (qx (wPT (dT (x9 pNe (q9 6) (q9 5)))) (qy (wP (dC (.bl false)))) qN))):WS) [.sh (scr K ns),.sh d.pv,.sh (d.ob Aa),u9 n3,.sh y,.sh (g8 T),s6,s7] (λε=>∃ (n:Int) (s4 s5 s6 s7:MSlot),ε=[.sh (scr K ns),.sh d.pv,.sh (d.ob Aa),u9 n,s4,s5,s6,s7]) λy _=>y = .at (.bl true):=by intro n3 T X;have tl:=X.len ok;refine ⟨g8 T,t6 w6 w6 T rfl rfl (by omega) λt _=>⟨_,rfl,j5 rfl rfl⟩,?_⟩;refine ⟨_,j5 rfl (v_ord ok X),?_⟩;refine vk (ja (qB (qt (j5 rfl Ch))) (r9 (v:=false) (v9 rfl (j5 rfl (Rc ok X)) (Jc rfl)))) ?_;exact vk (r9 (v:=false) (v9 rfl rfl (Jc (Lh T)))) ⟨n3,_,_,_,_,rfl⟩
  have mid:∀ (n2:Int) (T:List (List Cl)),Trays d T->(wSeq (qx (wAnd (wPT (dT (x9 pGt (z6 qq (q0 (x9 j8 (q9 1) (dC (.int 1))) x6)) (dC (.int 0))))) (wT (qa pEq (i9 3 (wP (dC (.int 2)))) (wP (dC (.int 0)))))) (p6 5 (xa 3 wa wo (y3 (wP (q8 1)) (y3 (wP (q8 5)) i8)))) qN) (wSeq (p6 6 (wP (u7 [none] [0] (u4 (q8 5)) (v5 0) u8 (z6 jW (q0 (q9 0) x6))))) (wSeq (p6 7 (wP (z6 (jU Aa) (q0 (q8 2) (q0 (q8 6) x6))))) (wSeq (qx (wPT (dOr (i4 (t0 (z6 m4 (q0 (q9 7) (q0 (dC (.ty "bool")) x6))))) (dT (x9 pNe (q9 7) (z6 vR (q0 (q8 1) (q0 (q8 5) x6))))))) (qy (wP (dC (.bl false)))) qN) (qx (wPT (dT (x9 pNe (q9 6) (q9 5)))) (qy (wP (dC (.bl false)))) qN)))):WS) [.sh (scr K ns),.sh d.pv,.sh (d.ob Aa),u9 n2,.sh y,.sh (g8 T),s6,s7] (λε=>∃ (n:Int) (s4 s5 s6 s7:MSlot),ε=[.sh (scr K ns),.sh d.pv,.sh (d.ob Aa),u9 n,s4,s5,s6,s7]) λy _=>y = .at (.bl true):=by
   intro n2 T X;by_cases h0:d.cls=[]
   ·refine ⟨false,r9 (v:=false) (v9 (j5 (v7 (v9 rfl rfl rfl) rfl) rfl) rfl ?_),qX (qX (fin n2 T X))⟩;show some (PV.at (.bl (decide ((0:Int)<((d.cls.map Cl.pv).length:Int)))))=_;rw [h0];rfl
   ·refine ⟨true,r9 (v:=true) (v9 (j5 (v7 (v9 rfl rfl rfl) rfl) rfl) rfl ?_),qY ⟨⟨n2,rfl⟩,_,rfl,n2,2,rfl,rfl,xQ (by decide) (by omega),_,rfl,_,wx _ _,_,rfl,?_⟩⟩
    ·show some (PV.at (.bl (decide ((0:Int)<((d.cls.map Cl.pv).length:Int)))))=_;have:=List.length_pos_iff.mpr h0;rw [yZ,yC (by omega)]
    by_cases h2:n2 % 2=0
    ·rw [yC h2];refine qY ⟨⟨_,rfl⟩,_,rfl,_,rfl,⟨_,rfl⟩,⟨d,T,rfl,ok,X,h0⟩,?_⟩;rintro _ n3 ⟨e,T1,T2,he,rfl,X2⟩;injection he with he _;exact fin n3 T2 (X2.of he.symm)
    ·rw [yD h2];exact qX (fin _ T X)
  refine ⟨⟨n1,rfl⟩,_,rfl,n1,3,rfl,rfl,xQ (by decide) (by omega),_,rfl,_,Uf _ _,_,rfl,?_⟩;by_cases h3:(0:Int)<n1 % 3
  ·rw [yC h3];refine qY ⟨_,rfl,_,rfl,⟨d,T,rfl,ok,X⟩,?_⟩;rintro _ ⟨e,T1,T2,he,rfl,X2⟩;injection he with he _;exact mid _ T2 (X2.of he.symm)
  ·rw [yD h3];exact qX (mid _ T X)
theorem DS (F:Fun K "law" "law" vh f fd)(Ac:Fn P w K mg base 1 "_law_digit" ["row","many"] xZ)(B9:Fn P w K mg base 2 "_law_exchanged" ["row","parts","trays"] (spD wa wo))(Aw:Fn P w K mg base 10 "in_tray_order" ["works","trays"] (j7 (jU Aa)))(Ew:Fn P w K mg base 4 "_law_parts" ["script","most"] (spV (Qc K) vp))(D5:Fn P w K mg base 6 "_law_put_right" ["parts","trays"] (spV XA Qw))(A7:Fn P w K mg base 2 "_law_stream" ["script","k"] (spN (va K) jv))(E7:Fn P w K mg base 2 "_law_trays" ["row","parts"] (spD XB Qx))(At:Fn P w K mg base 2 "_law_trays_in_order" ["parts","trays"] (j7 vR))(Ed:mg "bool"=none)(Ab:mg "isinstance"=none)(Ad:mg "len"=none)(Ah:mg "list"=none)(Ae:mg "range"=none)(Ex:mg "Works"=some (.ref Aa))(E2:Mkr P w K mg base 5 Aa ["self","rinses","cloths","last","time"] (spI Aa (vP Aa))):FnOk P w K mg base j6 11 f fd ["script"] (Qk K) :=
 okL (k:=10) (b:=WH K Aa) F sc_law (λcdv A outer s H E hr=>⟨_,(j9 (sW 1 sc_law.nd (fW Ew hr (aC (pv 0) (aW z7))))
  (j9 (sW 2 sc_law.nd (pe_mk E2 hr (by decide) rfl Ex (aC (iW (K:=K) rfl (pv 1) z7) (aC (iW (K:=K) rfl (pv 1) z7) (aC (iW (K:=K) rfl (pv 1) z7) (aW (iW (K:=K) rfl (pv 1) z7)))))))
  (j9 (sW 3 sc_law.nd (fW A7 hr (aC (pv 0) (aW z7))))
  (j9 (xr PassesOwn.never rfl (jj rfl Ae (aW z7)) (gW 4 sc_law.nd)
   (j9 (sW 5 sc_law.nd (fW E7 hr (aC (pv 3) (aW (pv 1)))))
  (j9 (c8 (o8 (wS) (fW Ac hr (aC (pv 3) (aW z7))) z7 (p8 _)) (j3 (sW 5 sc_law.nd (fW D5 hr (aC (pv 1) (aW (pv 5)))))) m6)
  (j9 (c8 (PW.pt (XE (o8 (wS) (g9 (qi (K:=K) rfl) rfl Ad PySem.boot_len (aW (iW (K:=K) rfl (pv 1) z7))) z7 (p8 _)) (XF (o8 (zw (K:=K) (hu6 hr) rfl) (fW Ac hr (aC (pv 3) (aW z7))) z7 (p8 _))))) (j3 (sW 5 sc_law.nd (fW B9 hr (aC (pv 3) (aC (pv 1) (aW (pv 5))))))) m6)
  (j9 (jk (i:=6) (N':=["tray"]) (cap:=[none]) (k8 rfl rfl rfl) rfl sc_law.nd rfl rfl (@b9 _ K _ _ _ rfl (pv 5)) (λ_ _ _ _ _ _=>(k6 (i:=0) (by show (["tray"]:List Str).Nodup;decide +kernel) rfl (Or.inl rfl))) (λ_ _ _ _ _ _=>p5) (λ_ _ _ _ _ _=>(jY (Yt (K:=K) rfl) rfl Ah jB (aW (pv 0)))))
  (j9 (sW 7 sc_law.nd (fW Aw hr (aC (pv 2) (aW (pv 6)))))
  (j9 (c8 (PW.pt (jm (qH (qw (K:=K) rfl (g9 (xP (K:=K) rfl) rfl Ab xO (aC (pv 7) (aW (xV (v:= .ty "bool") rfl Ed Yo rfl)))) (λ_=>rfl))) (vc (o8 (wU (K:=K) (hu6 hr) rfl) (pv 7) (fW At hr (aC (pv 1) (aW (pv 5)))) (p8 _))))) (j3 (w9 xD)) m6)
  (j3 (c8 (o8 (wU (K:=K) (hu6 hr) rfl) (pv 6) (pv 5) (p8 _)) (j3 (w9 xD)) m6)))))))))
  (j3 (w9 xD)))))),
  (by repeat' first|infer_instance|(refine @Mi.instSemWSTSeqWSeq _ _ _ _ ?_ ?_)|(apply @Mi.instSemWSTForWForOfSemWIOfSemWG))⟩) PQ
theorem Bi {K:Fg}{fd:FuncData}{T:Addr}{ob:Obj}{items:Array Value}{n:Nat}(hd:fd.defaults = .ref T)(q:K.lookup T=some ob)(hs:ob.data = .seq items n)(h:∀ us:List Value,us.length=ps.length->∃ k:Option (Array Value)->Sem (List (Str×Value)),bindArgs fd ⟨us,[]⟩=seqItems? fd.defaults >>= k/\k (some items)=pure (ps.zip us)):Binds K fd ps []:=λs us X hl=>by
 rw [yk] at hl ⊢;obtain ⟨k,e1,e2⟩:=h us hl;exact BindsTo.of_defaults hd (X _ _ q) hs e1 e2
abbrev so (f:Addr):Option (Option Value):=some (some (.ref f))
abbrev fO (oc:Value)(od:Option Addr)(x q:Str)(st:Stmt)(dV kV dc pm:Value)(an:Option Addr)(cd ct:Value)(sl:Array (Option Value)):Option Obj:=some ⟨oc,od,.func (PySem.W.fnOf x q (xl st) (o3 st) (z9 st) dV kV dc pm an cd ct),sl⟩
theorem fnM (P:Program)(w:World)(base:Heap){K:Fg}{mg:Str->Option Value}{k:Nat}{f:Addr}{fd:FuncData}{sp:Sp}(h:FnOk P w K mg base j6 k f fd ps sp)(a:mg x=some (.ref f))(kp:PySem.W.keepIn K (.ref f)=true)(b:Binds K fd ps []):Fn P w K mg base k x ps sp:=⟨f,fd,h,a,kp,b⟩
theorem bi1 {K:Fg}{f:Addr}{fd:FuncData}{p:Str}(F:Fun K x qual st f fd)(h:∀(kV doc pm:Value)(an:Option Addr)(cdv ct u:Value),bindArgs (PySem.W.fnOf x qual (xl st) (o3 st) (z9 st) .none kV doc pm an cdv ct) ⟨[u],[]⟩=pure [(p,u)]):Binds K fd [p] []:=F.binds λa b c d e g us hl=>match us,hl with|[_],_=>h a b c d e g _
theorem bi2 {K:Fg}{f:Addr}{fd:FuncData}{p:Str}(F:Fun K x qual st f fd)(h:∀(kV doc pm:Value)(an:Option Addr)(cdv ct u v:Value),bindArgs (PySem.W.fnOf x qual (xl st) (o3 st) (z9 st) .none kV doc pm an cdv ct) ⟨[u,v],[]⟩=pure [(p,u),(q,v)]):Binds K fd [p,q] []:=F.binds λa b c d e g us hl=>match us,hl with|[_,_],_=>h a b c d e g _ _
structure Zt (P:Program)(w:World)(K:Fg)(mg:Str->Option Value)(base h:Heap):Prop where
 X:K.In h
 G:h.Ns mainGlobals mg
def FG (K:Fg)(x:Str)(st:Stmt):Prop:=∃ f oc od kV dc pm an cd ct sl,PySem.W.nsIn K mainGlobals x=so f/\K.lookup f=fO oc od x x st .none kV dc pm an cd ct sl/\PySem.W.codeIn K cd x=true/\PySem.W.keepIn K (.ref f)=true
theorem FG.i {K:Fg}{f:Addr}{kV:Value}(a:PySem.W.nsIn K mainGlobals x=so f)(l:K.lookup f=fO oc od x x st .none kV dc pm an cd ct sl)(c:PySem.W.codeIn K cd x=true)(k:PySem.W.keepIn K (.ref f)=true):FG K x st:=⟨_,_,_,_,_,_,_,_,_,_,a,l,c,k⟩
def FM (K:Fg)(C:Addr)(x q:Str)(st:Stmt):Prop:=∃ f oc od kV dc pm an cd ct sl,PySem.W.findIn K (.ref C) x=so f/\PySem.W.isFn K (.ref f)=true/\K.lookup f=fO oc od x q st .none kV dc pm an cd ct sl/\PySem.W.codeIn K cd q=true/\PySem.W.keepIn K (.ref f)=true
theorem FM.i {K:Fg}{C:Addr}{f:Addr}{kV:Value}(a:PySem.W.findIn K (.ref C) x=so f)(i:PySem.W.isFn K (.ref f)=true)(l:K.lookup f=fO oc od x q st .none kV dc pm an cd ct sl)(c:PySem.W.codeIn K cd q=true)(k:PySem.W.keepIn K (.ref f)=true):FM K C x q st:=⟨_,_,_,_,_,_,_,_,_,_,a,i,l,c,k⟩
abbrev BdA (x q:Str)(st:Stmt)(ps:List Str):Prop:=∀(kV doc pm:Value)(an:Option Addr)(cdv ct:Value)(us:List Value),us.length=ps.length->bindArgs (PySem.W.fnOf x q (xl st) (o3 st) (z9 st) .none kV doc pm an cdv ct) ⟨us,[]⟩=pure (ps.zip us)
section
variable {P:Program}{w:World}{K:Fg}{mg:Str->Option Value}{base h:Heap}{k:Nat}{ps:List Str}{sp:Sp}{x q:Str}{st:Stmt}{C:Addr}
theorem fG (Z:Zt P w K mg base h)(a:FG K x st)(H:∀{f fd},Fun K x x st f fd->FnOk P w K mg base j6 k f fd ps sp)(b:BdA x x st ps:=by intro _ _ _ _ _ _ us hl;first|exact (match us,hl with|[_],_=>rfl)|exact (match us,hl with|[_,_],_=>rfl)|exact (match us,hl with|[_,_,_],_=>rfl)|exact (match us,hl with|[_,_,_,_],_=>rfl)|exact (match us,hl with|[_,_,_,_,_],_=>rfl)):Fn P w K mg base k x ps sp:=by obtain ⟨f,oc,od,kV,dc,pm,an,cd,ct,sl,a,l,c,kp⟩:=a;exact ⟨f,_,H (jK l c kp),PySem.W.mg_of Z.X Z.G a,kp,(jK l c kp).binds b⟩
theorem fM (Z:Zt P w K mg base h)(kc:ze K C)(a:FM K C x q st)(H:∀{f fd},Fun K x q st f fd->FnOk P w K mg base j6 k f fd ps sp)(b:BdA x q st ps:=by intro _ _ _ _ _ _ us hl;first|exact (match us,hl with|[_],_=>rfl)|exact (match us,hl with|[_,_],_=>rfl)|exact (match us,hl with|[_,_,_],_=>rfl)|exact (match us,hl with|[_,_,_,_],_=>rfl)|exact (match us,hl with|[_,_,_,_,_],_=>rfl)):Mt P w K mg base k C x ps sp:=by obtain ⟨f,oc,od,kV,dc,pm,an,cd,ct,sl,a,i,l,c,kp⟩:=a;exact ⟨f,_,H (jK l c kp),⟨a,i,kp⟩,kc.c,(jK l c kp).binds b⟩
end
theorem all_mk {w:World}{K:Fg}{h:Heap}{mg:Str->Option Value}{fa f31 f46 f50 f52:Addr}{od31 od46 od50 od52 an31 an46 an50 an52:Option Addr}{sl31 sl46 sl50 sl52:Array (Option Value)}{oc31 oc46 oc50 oc52 kV31 kV46 kV50 kV52 dc31 dc46 dc50 dc52 pm31 pm46 pm50 pm52 ct31 ct46 ct50 ct52 cd46 cd52:Value}{cc31 cc50:Addr}{T46:Addr}{qc46 qv46_0 qv46_1:Value}{qd46:Option Addr}{qn46:Nat}{qs46:Array (Option Value)}(X:K.In h)(TT:∀ P∈[514,89],h.get? P=some (PySem.W.tabObj #[]))(hTB:TABS=[(89,#[],[((⟨35,30,35,75⟩:Pos),("by_dues.<locals>.<lambda>":Str))]),(514,#[],[((⟨278,38,278,72⟩:Pos),("_law_put_right.<locals>.<lambda>":Str))])])(G:h.Ns mainGlobals mg)(hfa:mg "law"=some (.ref fa))(Iu:W.nsIn K mainGlobals "Works"=some (some (.ref Aa)))(Ic:PySem.W.plainGet K Aa Str.empty=true)(Ig:PySem.W.hasDictIn K Aa=true)(Id:PySem.W.plainOver K Aa=true)(Ih:W.findIn K (.ref Aa) "__setattr__"=some (some (.builtin "object.__setattr__")))(Ib:PySem.W.makesIn K Aa=true)(Ii:W.keepIn K (.ref Aa)=true)(Ep:W.findIn K (.ref Aa) "given"=some none)(Eu:W.findIn K (.ref Aa) "held"=some none)(Ev:W.findIn K (.ref Aa) "last"=some none)(Er:W.findIn K (.ref Aa) "least"=some none)(E3:W.findIn K (.ref Aa) "time"=some none)(a0:FG K "_law_mixed" Vd)(a1:FG K "_law_digit" JL)(a2:FG K "_law_stream" XL)(a3:FG K "_law_number" Vi)(a4:FG K "_law_rinses" Vm)(a5:FG K "_law_names" Vf)(a6:FG K "_law_cloth" JJ)(a7:FG K "_law_parts" Vj)(a8:FG K "is_whole" JX)(a9:FG K "name_of" Ve)(a10:FG K "hue_of" JP)(a11:FG K "length_of" Vb)(a12:FG K "due_of" JM)(a13:FG K "weight_of" Vt)(a14:FG K "is_from" JS)(a15:FG K "is_name" JT)(a16:FG K "is_cloth" JR)(a17:FG K "is_rinse_row" JW)(a18:FG K "check_rinses" JG)(a19:FG K "straight_ways" Vn)(a20:FG K "joined" JY)(a21:FG K "lesser" Vc)(a22:FG K "ways_through" Vs)(a23:FG K "least_ways" Va)(a24:FG K "sums_of" Vo)(a25:FG K "least_rinses" JZ)(a26:FG K "check_start" JH)(a27:FG K "check_cloths" JF)(a28:FM K Aa "hues" "Works.hues" JB)(a29:FM K Aa "names" "Works.names" JC)(a30:FG K "names_of" Vg)(a31:W.nsIn K mainGlobals "by_dues"=so f31)(l31:K.lookup f31=fO oc31 od31 "by_dues" "by_dues" XI .none kV31 dc31 pm31 an31 (.ref cc31) ct31 sl31)(c31:W.codeIn K (.ref cc31) "by_dues"=true)(k31:W.keepIn K (.ref f31)=true)(a32:FM K Aa "cloths_in" "Works.cloths_in" Jz)(a33:FM K Aa "due_row" "Works.due_row" JA)(a34:FM K Aa "cloth" "Works.cloth" Jy)(a35:FG K "are_names" JE)(a36:FG K "is_plan" JV)(a37:FG K "cloths_of" JK)(a38:FG K "tray_hue" Vp)(a39:FG K "is_of_one_hue" JU)(a40:FG K "are_full_lists" JD)(a41:FG K "check_trays" JI)(a42:FG K "due_rows" JN)(a43:FG K "place_of" Vl)(a44:FG K "next_move" Vh)(a45:FG K "in_tray_order" JQ)(a46:W.findIn K (.ref Aa) "__init__"=so f46)(i46:W.isFn K (.ref f46)=true)(l46:K.lookup f46=fO oc46 od46 "__init__" "Works.__init__" vg (.ref T46) kV46 dc46 pm46 an46 cd46 ct46 sl46)(c46:W.codeIn K cd46 "Works.__init__"=true)(k46:W.keepIn K (.ref f46)=true)(q46:K.lookup T46=some ⟨qc46,qd46,.seq #[qv46_0,qv46_1] qn46,qs46⟩)(a47:FG K "_law_place" Vk)(a48:FG K "_law_trays_in_order" Vr)(a49:FG K "_law_trays" Vq)(a50:W.nsIn K mainGlobals "_law_put_right"=so f50)(l50:K.lookup f50=fO oc50 od50 "_law_put_right" "_law_put_right" XJ .none kV50 dc50 pm50 an50 (.ref cc50) ct50 sl50)(c50:W.codeIn K (.ref cc50) "_law_put_right"=true)(k50:W.keepIn K (.ref f50)=true)(a51:FG K "_law_exchanged" JO)(a52:W.nsIn K mainGlobals "law"=so f52)(l52:K.lookup f52=fO oc52 od52 "law" "law" vh .none kV52 dc52 pm52 an52 cd52 ct52 sl52)(c52:W.codeIn K cd52 "law"=true)(k52:W.keepIn K (.ref f52)=true)(Iz:W.nsIn K mainGlobals "all"=some none)(Iy:W.nsIn K mainGlobals "bool"=some none)(Iw:W.nsIn K mainGlobals "dict"=some none)(E9:W.nsIn K mainGlobals "enumerate"=some none)(J3:W.nsIn K mainGlobals "int"=some none)(E5:W.nsIn K mainGlobals "isinstance"=some none)(J2:W.nsIn K mainGlobals "len"=some none)(Ix:W.nsIn K mainGlobals "list"=some none)(Iq:W.nsIn K mainGlobals "range"=some none)(J0:W.nsIn K mainGlobals "set"=some none)(Ie:W.nsIn K mainGlobals "sorted"=some none)(J1:W.nsIn K mainGlobals "str"=some none)(J5:W.nsIn K mainGlobals "sum"=some none)(Ir:W.nsIn K mainGlobals "tuple"=some none)(J4:W.nsIn K mainGlobals "zip"=some none)(Em:W.nsIn K mainGlobals "LONGEST_NAME"=some (some (.int 8 A5)))(Eo:W.nsIn K mainGlobals "MOST_CLOTHS"=some (some (.int 10 B4)))(E8:W.nsIn K mainGlobals "MOST_HUES"=some (some (.int 4 D2)))(Iv:W.nsIn K mainGlobals "PARTS"=some (some (.int 5 E1)))(hC31:PySem.W.codeHdIn K cc31 89=true)(o31:K.lookup 89=none)(hC50:PySem.W.codeHdIn K cc50 514=true)(o50:K.lookup 514=none):∃ fd:FuncData,(∀ (s:Shared) (v:Value),BindsTo s fd ⟨[v],[]⟩ [("script",v)])/\vy K h/\∀ base:Heap,K.In base->base.Ns mainGlobals mg->FnOk l.prog w K mg base j6 11 fa fd ["script"] (Qk K):=by
 have e:=hfa.symm.trans (W.mg_of X G a52);cases e;have An:=W.mg_none_of X G Iz;have Ed:=W.mg_none_of X G Iy;have Au:=W.mg_none_of X G Iw;have Ao:=W.mg_none_of X G E9;have Ik:=W.mg_none_of X G J3;have Ab:=W.mg_none_of X G E5;have Ad:=W.mg_none_of X G J2;have Ah:=W.mg_none_of X G Ix;have Ae:=W.mg_none_of X G Iq;have Ia:=W.mg_none_of X G J0;have Ap:=W.mg_none_of X G Ie;have Et:=W.mg_none_of X G J1;have Ei:=W.mg_none_of X G J5;have E4:=W.mg_none_of X G Ir;have Es:=W.mg_none_of X G J4;have A3:=W.mg_of X G Em;have B3:=W.mg_of X G Eo;have D3:=W.mg_of X G E8;have Ez:=W.mg_of X G Iv;have Ex:=W.mg_of X G Iu;have Ec:ze K Aa:=⟨⟨Ic,Ig,Id,Ih⟩⟩;have Il:NoA K Aa "given":=⟨Ep⟩;have Io:NoA K Aa "held":=⟨Eu⟩;have Im:NoA K Aa "last":=⟨Ev⟩;have Ij:NoA K Aa "least":=⟨Er⟩;have Ip:NoA K Aa "time":=⟨E3⟩;have F31:=jK (st:=XI) l31 c31 k31;have F46:=Po (st:=vg) l46 c46 k46;have F50:=jK (st:=XJ) l50 c50 k50;have F52:=jK (st:=vh) l52 c52 k52;have b31:=bi1 (p:="cloths") F31 λ_ _ _ _ _ _ _=>rfl;have b46:Binds K (W.fnOf "__init__" "Works.__init__" (xl vg) (o3 vg) (z9 vg) (.ref T46) kV46 dc46 pm46 an46 cd46 ct46) ["self","rinses","cloths","last","time"] []:=Bi (T:=T46) rfl q46 rfl λus hl=>match us,hl with|[_,_,_,_,_],_=>⟨_,rfl,rfl⟩
 have b50:=bi2 (p:="parts") (q:="trays") F50 λ_ _ _ _ _ _ _ _=>rfl;have tB31:(89,#[],[((⟨35,30,35,75⟩:Pos),("by_dues.<locals>.<lambda>":Str))])∈TABS:=by rw [hTB];simp
 have tB50:(514,#[],[((⟨278,38,278,72⟩:Pos),("_law_put_right.<locals>.<lambda>":Str))])∈TABS:=by rw [hTB];simp
 have TK:vy K h:=by
  have hd31:=PySem.W.codeHd_of_K X hC31;have hd50:=PySem.W.codeHd_of_K X hC50;refine ⟨λp hp=>?_,λp hp=>?_,λp hp q hq=>?_,λp hp=>?_,λp hp q hq e=>?_,λp hp=>?_⟩<;>rw [hTB] at hp<;>(try rw [hTB] at hq)<;>simp only [yP,yi,or_false] at hp
  ·rcases hp with rfl|rfl
   ·exact TT 89 (by simp)
   ·exact TT 514 (by simp)
  ·rcases hp with rfl|rfl
   ·exact trivial
   ·exact trivial
  ·rcases hp with rfl|rfl
   ·rfl
   ·rfl
  ·rcases hp with rfl|rfl
   ·exact (hd31.tab (TT 89 (by simp))).isCodeTable
   ·exact (hd50.tab (TT 514 (by simp))).isCodeTable
  ·simp only [yP,yi,or_false] at hq;rcases hp with rfl|rfl<;>rcases hq with rfl|rfl<;>first|rfl|exact absurd e (by decide)
  ·rcases hp with rfl|rfl
   ·exact o31
   ·exact o50
 refine ⟨W.fnOf "law" "law" (xl vh) (o3 vh) (z9 vh) .none kV52 dc52 pm52 an52 cd52 ct52,λs v=> .of_eq rfl,TK,λbase _ _=>?_⟩;have Z:Zt l.prog w K mg base h:=⟨X,G⟩;have Eb:=fG Z a0 λF=>DX F;have Ac:=fG Z a1 λF=>DE F;have A7:=fG Z a2 λF=>Ml F Eb Ad Ae Ei;have Aq:=fG Z a3 λF=>Mc F Ac;have Ek:=fG Z a4 λF=>Mh F Ac Aq Ae;have Ey:=fG Z a5 λF=>DZ F Ac Ad Ae;have E6:=fG Z a6 λF=>DC F Ac Aq;have Ew:=fG Z a7 λF=>Md F E6 Ac Ey Aq Ek A7;have Aj:=fG Z a8 λF=>DQ F Ed Ik Ab;have Af:=fG Z a9 λF=>DY F;have Ag:=fG Z a10 λF=>DI F;have B8:=fG Z a11 λF=>DV F;have B6:=fG Z a12 λF=>DF F;have D1:=fG Z a13 λF=>Ms F;have Am:=fG Z a14 λF=>DL F Aj;have Ee:=fG Z a15 λF=>DM F An Ab Ad Et A3;have D9:=fG Z a16 λF=>DK F B6 Ag Am Ee Aj B8 Af D1 Ab Ad E4 Ez;have A4:=fG Z a17 λF=>DP F Aj An Ab Ad Ah;have A6:=fG Z a18 λF=>Dz F A4 An Ab Ad Ah D3;have Ay:=fG Z a19 λF=>Mj F Ao;have En:=fG Z a20 λF=>DR F;have El:=fG Z a21 λF=>DW F;have A8:=fG Z a22 λF=>Mr F En El Es;have B7:=fG Z a23 λF=>DU F Ay A8 Ad Ae;have Ef:=fG Z a24 λF=>Mn F;have A9:=fG Z a25 λF=>DT F A6 B7 Ef;have B5:=fG Z a26 λF=>DA F Am;have A0:=fG Z a27 λF=>Dy F D9 Af Ad B3;have Ai:=fM (sp:=(j7 (zN Aa))) Z Ec a28 λF=>Ds F Ad;have Ak:=fM (sp:=(m7 (jT Aa))) Z Ec a29 λF=>Du F Ap;have D8:=fG Z a30 λF=>Ma F Af;have Eg:=fnM l.prog w base (Dx F31 B6 Af Ap rfl (λ_ X2=>PySem.W.codeHd_of_K X2 hC31) tB31) (W.mg_of X G a31) k31 b31;have Ar:=fM (sp:=(m7 (wD Aa))) Z Ec a32 λF=>Dp F Ag;have Ax:=fM (sp:=(m7 (vO Aa))) Z Ec a33 λF=>Dq F Eg D8 Ar;have Al:=fM (sp:=(j7 (jS Aa))) Z Ec a34 λF=>Do F Ab Et;have D4:=fG (sp:=(j7 (wE Aa))) Z a35 λF=>Dw F An Ab Ad Ah Ia Ak;have Eh:=fG (sp:=(j7 (wJ Aa))) Z a36 λF=>DO F D4 Ad Ak;have D6:=fG (sp:=(j7 (wG Aa))) Z a37 λF=>DD F Al;have D7:=fG (sp:=(j7 (wQ Aa))) Z a38 λF=>Mo F Ag Al;have Av:=fG (sp:=(j7 (wI Aa))) Z a39 λF=>DN F D6 Ag D7 An;have As:=fG Z a40 λF=>Dv F An Ab Ad Ah;have B0:=fG (sp:=(j7 (wF Aa))) Z a41 λF=>DB F As Av Eh An Ei;have Ea:=fG (sp:=(m7 (vQ Aa))) Z a42 λF=>DG F Ae Ax Ai;have Az:=fG Z a43 λF=>Mf F Ao;have D0:=fG (sp:=(j7 (wN Aa))) Z a44 λF=>Mb F Ea Az Es;have Aw:=fG (sp:=(j7 (jU Aa))) Z a45 λF=>DJ F B0 D0;have E2:Mkr l.prog w K mg base _ Aa _ (spI Aa (vP Aa)):=⟨_,_,Dt F46 A0 B5 A9 Af Au Ah Ai,⟨Ib,a46,i46,Ii⟩,b46⟩;have Ej:=fG Z a47 λF=>Me F;have At:=fG Z a48 λF=>Mq F Ej;have E7:=fG Z a49 λF=>Mp F Ac Au Ad Ae;have D5:=fnM l.prog w base (Mg F50 Au Ap rfl (λ_ X2=>PySem.W.codeHd_of_K X2 hC50) tB50) (W.mg_of X G a50) k50 b50;have B9:=fG Z a51 λF=>DH F Ac Au Ad;exact DS F52 Ac B9 Aw Ew D5 A7 E7 At Ed Ab Ad Ah Ae Ex E2
theorem walk {q:Program}{loose:List Str}{XP:(Str->Option Value)->Heap->Prop}{YP:World->Heap->Prop}{d:DefRec}{K:Params->Fg}(hn:l.most=some 63)(hdf:d.params.defaults=[])(hY:∀ (w:World) (h:Heap),YP w h->(K w.params).In h)(F:∀ (w:World) (mg:Str->Option Value) (fa:Addr) (h:Heap),YP w h->(K w.params).In h->h.Ns mainGlobals mg->mg d.name=some (.ref fa) -> ∃ fd:FuncData,(∀ (s:Shared) (u:Value),BindsTo s fd ⟨[u],[]⟩ [("script",u)])/\vy (K w.params) h/\∀ base:Heap,(K w.params).In base->base.Ns mainGlobals mg->FnOk l.prog w (K w.params) mg base j6 11 fa fd ["script"] (Qk (K w.params))):PySem.W.WalkO q loose XP YP l.row.toRowW d [] (λf vs=>PySem.call f vs) :=
 L2.Rw (n:=63) (k:=11) (x:="script") (CX:=λ_=>j6) (sp:=λw=>Qk (K w.params)) hn (by decide) hdf ⟨rfl,by decide,by decide⟩ hY F (λ_ _ a ns hl _ hS=>⟨a,ns,rfl,hS,hl,λ_=>rfl⟩) λ_ _ _ _ _ z=>z
end Lw
open PySem PySem.W PyProof.Rows
set_option maxRecDepth 100000 in
set_option maxHeartbeats 0 in
theorem PySem.Challenge.cw_rinsework_k65_tray_order_looked_at_holds : PySem.Challenge.rw_rinsework_k65_tray_order_looked_at.Holds := by
  w_on; o_law; k_head; (case hw => w_witness2)
  k_fill
  refine Lw.walk (l := PySem.Challenge.rw_rinsework_k65_tray_order_looked_at) rfl rfl (λw h Y => PySem.W.km_in_of Y) ?F
  case F =>
    intro w mg fa h Y KX G hmg
    apply Lw.all_mk KX (PySem.W.km_tabs_of Y) rfl G hmg
    iterate 12 k_is
    iterate 28 (apply Lw.FG.i;iterate 4 k_is)
    iterate 2 (apply Lw.FM.i;iterate 5 k_is)
    iterate 1 (apply Lw.FG.i;iterate 4 k_is)
    iterate 4 k_is
    iterate 3 (apply Lw.FM.i;iterate 5 k_is)
    iterate 11 (apply Lw.FG.i;iterate 4 k_is)
    iterate 6 k_is
    iterate 3 (apply Lw.FG.i;iterate 4 k_is)
    iterate 4 k_is
    iterate 1 (apply Lw.FG.i;iterate 4 k_is)
    iterate 23 k_is
    iterate 4 kernel_rfl
