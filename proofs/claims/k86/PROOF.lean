import PyProof.Rows.All
import Wide.All
import OpenK.AllK
import Wide.FinOn
import Lean
import PyProof.EqAt
import PyProof.EqKinds
import PyProof.NeKinds
import PyProof.TupleCall
import PySem.Challenge.RW_rinsework_k86_texts_there_and_back
set_option Elab.async false
set_option linter.all false
set_option maxRecDepth 100000
namespace PySem.W.Fast
def tw11599237768234579535:=0
def tw12305007778390797196:=0
def tw1232843524218198175:=0
def tw12761203470812447890:=0
def tw13863842080343952391:=0
def tw14479183296144096251:=0
def tw14763282727183330625:=0
def tw14921445488883606861:=0
def tw16453756913135121536:=0
def tw16794973418039354319:=0
def tw18237072844331147540:=0
def tw241932431596128145:=0
def tw3023924371796266375:=0
def tw5201570191039395901:=0
def tw6215449222991639573:=0
def tw6803840580300713481:=0
def tw7486374661823254949:=0
def tw8436707424636904949:=0
def tw959472347497117512:=0
def tw12240523614419224944:=0
def tw10397269472910131515:=0
def tw10136980897404116634:=0
def tw14347288648397746396:=0
def tw3231208455906075277:=0
def tw5018920511989143128:=0
def tw8450827595993453589:=0
def tw15935983700188294364:=0
def tw12394723474084296731:=0
def tw12561261755151560630:=0
def tw6528752218552257936:=0
def tw11603466045898327569:=0
def tw10470383048543490176:=0
def tw17467969380742295874:=0
def tw8278916792202537146:=0
def tw12366789735596196858:=0
def tw10715591774548550855:=0
def tw10726954502388631460:=0
def tw577391841020889644:=0
def tw11191125585549592523:=0
def tw8655605437730667974:=0
def tw7424014491300182145:=0
def tw14397475294107633667:=0
def tw14975458642172988753:=0
def tw8141795754590962069:=0
def tw8233753781916676262:=0
def tw8159895065285483153:=0
def tw6020157705201241907:=0
def tw8273483034678526660:=0
def tw7004283123892043335:=0
def tw6355004122640379770:=0
def tw14286202204127677415:=0
def tw1803936194209618310:=0
def tw3840558744465397647:=0
def tw5384799777113029182:=0
def tw1350464036254727120:=0
def tw164449098830780790:=0
def tw13495711380978327068:=0
def tw4731677115948783143:=0
def tw14165049901447672084:=0
def tw16851154041834438029:=0
def tw5654953748350505588:=0
def tw501903312975600206:=0
def tw781599770786237910:=0
def tw12847382484623829423:=0
def tw2564196322613132280:=0
def tw4416295632320807911:=0
def tw13092977474555038681:=0
def tw8455454863316502985:=0
def tw9526617143076742777:=0
def tw1953921860812474144:=0
def tw4316106857869588994:=0
def tw8861885412235610089:=0
def tw7118855833784848041:=0
def tw14178481048563991244:=0
def tw11432855776967385913:=0
def tw7815716241086507915:=0
def tw5754852692076714927:=0
def tw2828472167470382312:=0
def tw7367111315561204505:=0
def tw13776800609506169852:=0
def tw15014019558568667827:=0
def tw16703650307010578467:=0
def tw658468664215325162:=0
def tw11067380653026974002:=0
def tw10272334611987915563:=0
def tw7771648940767805566:=0
def tw8256786093159835287:=0
def tw13893853604220228779:=0
def tw7647198242006625461:=0
def tw5749631988111272962:=0
def tw15147295227677654915:=0
def tw14462008105389323782:=0
def tw15343161549817821374:=0
def tw16277748201666003751:=0
def tw11681422144635263355:=0
def tw3853076308400857050:=0
def tw17519759946697465822:=0
def tw4254426210224886405:=0
def tw11861405940374149929:=0
def tw14024612975058300524:=0
def tw13986636654036747847:=0
def tw2465799494414437556:=0
def tw16171198151300896294:=0
def tw3940117041884607360:=0
def tw12645423286343678850:=0
def tw14062402596674329364:=0
def tw6644907012779108110:=0
def tw5130575490705973817:=0
def tw15555929164395983546:=0
def tw6940088409546501561:=0
def tw12759716245710247416:=0
def tw17334269028499666895:=0
def tw17666815054190194250:=0
def tw1806394084697217024:=0
def tw16330358780200749557:=0
def tw6701038163087549633:=0
def tw11755160379344566899:=0
def tw12666286293157878497:=0
def tw16249612035789390901:=0
def tw3827801745508918749:=0
def tw14062002592356845567:=0
def tw477014598185945717:=0
def tw1745071870227761368:=0
def tw8323542506551983685:=0
def tw6931373863249799077:=0
def tw499718926070406926:=0
def tw8767100502262011384:=0
def tw10916131898107128944:=0
def tw5188284169410507381:=0
def tw982900483425242031:=0
def tw10652730949789112456:=0
def tw3521862725478954603:=0
def tw17386801835837844695:=0
def tw10113790259276635520:=0
def tw10984431528076482849:=0
def tw14375673328088066046:=0
def tw15003320074207193566:=0
def tw9239854313187433335:=0
def tw2622529607988819356:=0
def tw9195977390647492680:=0
def tw4238428938770000448:=0
def tw121002324655361620:=0
def tw17164505692209600967:=0
def tw13666532194594613570:=0
def tw3419740880901417647:=0
def tw7258132677587527037:=0
def tw11312496956832964554:=0
def tw6069672437944430872:=0
def tw2014508419279385239:=0
def tw15011813583646974755:=0
def tw12425545272287122201:=0
def tw14537332886347174345:=0
def tw16567472512211463068:=0
def tw12535663927918822768:=0
def tw8752506171321951357:=0
def tw9571246439460967895:=0
def tw6711748296569187956:=0
def tw11152508322179345619:=0
def tw11705285486584230813:=0
def tw14961455081064832945:=0
def tw15841294196245666861:=0
def tw15216390538663975264:=0
def tw12427384173082356353:=0
def tw14130586856876409300:=0
def tw1587234691779472384:=0
def tw16636464227166841862:=0
def tw711521575017810717:=0
def tw7220097644571349063:=0
def tw2113142933843023973:=0
def tw5523417992589704080:=0
def tw17685805580237389587:=0
def tw3838580191506134024:=0
def tw5920671273544610768:=0
def tw17427653083126660158:=0
def tw2942571794098296832:=0
def tw7038855949603325476:=0
def tw5635998481227081303:=0
def tw4853464508738620389:=0
def tw2756819630082139936:=0
def tw2320427258478967928:=0
def tw8205937652179782948:=0
def tw16785380317461402577:=0
def tw8848941064213919687:=0
def tw14467098702176835421:=0
def tw6478287994793610830:=0
def tw3875203814939335117:=0
def tw1118557519398200822:=0
def tw96448044569716812:=0
def tw16016084660170714126:=0
def tw16314408147419511651:=0
def tw6147592574252258695:=0
def tw6156211611870868469:=0
def tw11151096470798425249:=0
def tw17436121742580776553:=0
def tw7787054819933311941:=0
def tw15293353961035385186:=0
def tw14896772060098916966:=0
def tw80093557017656680:=0
def tw17588971968162309236:=0
def tw12461299424558723000:=0
def tw1154410704495660446:=0
def tw12968057261603118652:=0
def tw11139320544770687018:=0
def tw5176440052730401933:=0
def tw10318780666649720549:=0
def tw458599387806917889:=0
def tw7724140081902483845:=0
def tw11654889819662919127:=0
def tw15870568314535596051:=0
def tw9555472389786207547:=0
def tw12479796155686016253:=0
def tw16276944718932648950:=0
def tw2984772595219381952:=0
def tw134402831448479271:=0
def tw6958264241643660099:=0
def tw2274587219356140344:=0
def tw14912934199700073673:=0
def tw7081185162549248105:=0
def tw1673228180904138057:=0
def tw11976895410924860593:=0
def tw14417307688041215175:=0
def tw17773339180264312237:=0
def tw9805370194996816948:=0
def tw10577876608518107287:=0
def tw5357204996433490667:=0
def tw16710237958047659390:=0
def tw4899890777891178033:=0
def tw359000227262808584:=0
def tw10381890610364050330:=0
def tw7667839331760148291:=0
def tw10193386393376511478:=0
def tw7771500615389923631:=0
def tw7846600252673232992:=0
def tw8581642007086540309:=0
def tw12080191899441683949:=0
def tw950607211625420892:=0
def tw8511672343736185576:=0
def tw4187096363008251004:=0
def tw992886079888667627:=0
def tw10956449266849484637:=0
def tw1904981492144988707:=0
def tw13379030607682518700:=0
def tw1915501720453851710:=0
def tw16215556889328262957:=0
def tw16804106198608290197:=0
def tw2533578436523367938:=0
def tw16405162374314284197:=0
def tw2385249834904859100:=0
def tw12561302932136650912:=0
def tw8538996336229904935:=0
def tw7919348067044599318:=0
def tw18100817766829660441:=0
def tw8764189268715833207:=0
def tw4510755875359501387:=0
def tw6262625290684992012:=0
def tw5533145640984204067:=0
def tw18093046940470147540:=0
def tw6381457848920794635:=0
def tw13105177017379744474:=0
def tw16554512611151250183:=0
def tw14140688351929685154:=0
def tw12352608079696464311:=0
def tw7452727548316474361:=0
def tw5248117900767012809:=0
def tw5515303051121758690:=0
def tw15293595994458592827:=0
def tw6716316076551294180:=0
def tw4796201154666565219:=0
def tw474832931154439007:=0
def tw4426256757080602703:=0
def tw3576267223376935346:=0
def tw16654451162167854666:=0
def tw402334962426245177:=0
def tw11033750400553116431:=0
def tw4278294887198937960:=0
def tw101522553169319025:=0
def tw17983687245067880544:=0
def tw10698951210221768405:=0
def tw8658423847886584416:=0
def tw1982467746537516945:=0
def tw15818245171769504172:=0
def tw14973718004275091634:=0
def tw7420761995881373762:=0
def tw9912202335988472955:=0
def tw13683025786251293825:=0
def tw16324095495099996219:=0
def tw6202420580769110464:=0
def tw18060029763881172971:=0
def tw9978740316394962627:=0
def tw6625817693057389937:=0
def tw12941067185952834702:=0
def tw6529148931417313454:=0
def tw57396870639726028:=0
def tw4880216717929144289:=0
def tw14726627717953163788:=0
def tw13161991911879613702:=0
def tw14619830175641631392:=0
def tw90225028092991215:=0
def tw13395548425682332498:=0
def tw18360817578018526821:=0
def tw5959689579647031679:=0
def tw9270654362948135874:=0
def tw6617848532750829903:=0
def tw17043275558951402422:=0
def tw15304422314165153041:=0
def tw13264777316499166350:=0
def tw8260178120110010414:=0
def tw17663078610161002434:=0
def tw3923722379919242629:=0
def tw3423963701543932883:=0
def tw18410135717133155192:=0
def tw4453337755233951144:=0
def tw12146857295542776411:=0
def tw11642579827715964016:=0
def tw14286981716133787298:=0
def tw6841942868927641188:=0
def tw14744608709180846801:=0
def tw17776726974314687431:=0
def tw18427250521506603943:=0
def tw8735254331039572424:=0
def tw1181308882812764925:=0
def tw10737264351081810751:=0
def tw10864874024042776272:=0
def tw819943417742119568:=0
def tw4764380623450988057:=0
def tw1774678308098184216:=0
def tw16957565752467995030:=0
def tw17318059614982094517:=0
def tw4601861779427415169:=0
def tw6047802632099635592:=0
def tw18314267654445913804:=0
def tw9455490731738137821:=0
def tw13565046222866575403:=0
def tw8354181451333686249:=0
def tw14582384475271003882:=0
def tw6143167136206890378:=0
def tw17478607591005977289:=0
def tw133625302133231535:=0
def tw10942681721519680846:=0
def tw12219848719037826318:=0
def tw15603831605081536136:=0
def tw4418370379727656749:=0
def tw12297767690729203873:=0
def tw10266526018231107793:=0
def tw10650993439317212755:=0
def tw14701109922059121054:=0
def tw7231072304927754117:=0
def tw5363982802328718849:=0
def tw6773776290796037914:=0
def tw4449294831229779939:=0
def tw18132201249106188019:=0
def tw15073948388465319587:=0
def tw13456304820614010521:=0
def tw7878472270140896352:=0
def tw5730450972930168981:=0
def tw6919087617691653330:=0
def tw3054562288923972634:=0
def tw12320827663475620795:=0
def tw10258186004465838430:=0
def tw10128162841570276542:=0
def tw16731696060888094901:=0
def tw12791549547307016083:=0
def tw892962490061741398:=0
def tw745736939616967204:=0
def tw6328477119368072282:=0
def tw15543395853650684423:=0
def tw10110914607828555208:=0
def tw11257690349343612111:=0
def tw14529449773472561385:=0
def tw6963402451317686140:=0
def tw12681680547426418240:=0
def tw13867979762083170880:=0
def tw1681427286875364720:=0
def tw1242437497083345429:=0
def tw15792248027138637692:=0
def tw15466589633962275977:=0
def tw2536242431508644479:=0
def tw17433994108116718988:=0
def tw4772087623768098892:=0
def tw5831383161024816160:=0
def tw3503432538650327545:=0
def tw4498876062018685588:=0
def tw595811617451649844:=0
def tw492832032253315531:=0
def tw16951901703980223073:=0
def tw5938479712223400190:=0
def tw10164054364400133942:=0
def tw9934160044881307316:=0
def tw7559926457929772911:=0
def tw2937934087150484201:=0
def tw6601778386642602971:=0
def tw3418138288583916430:=0
def tw17244968255854386638:=0
def tw15766877797527464763:=0
def tw10601552501553579269:=0
def tw7919384825444944508:=0
def tw2248605808423517460:=0
def tw2903083785646201570:=0
def tw12371093806674693352:=0
def tw13927812981430047589:=0
def tw2863453112787548817:=0
def tw11896087270633764305:=0
def tw10309058053174307553:=0
def tw14041686241426748646:=0
def tw5641471409508872228:=0
def tw13043576164951229010:=0
def tw4931946964305556448:=0
def tw7146973920835051828:=0
def tw7745622947774613453:=0
def tw11389151662503546999:=0
def tw13574227094333876934:=0
def tw7927678937896921477:=0
def tw3959456548527599274:=0
def tw7565702398908078930:=0
def tw6486427436808159893:=0
def tw13085104162174872344:=0
def tw982114451168204543:=0
def tw1270796310664308056:=0
def tw13107881608168717000:=0
def tw15723387316470395304:=0
def tw14007418690973512407:=0
def tw6610425643462522238:=0
def tw9620638679235655374:=0
def tw6706773012121979184:=0
def tw9799178449980145747:=0
def tw8013938806872343920:=0
def tw990300391833335933:=0
def tw17035106366429763210:=0
def tw2886075933706696667:=0
def tw15761321956457222603:=0
def tw17902465691256958075:=0
def tw15938352799634005081:=0
def tw4907609025383580229:=0
def tw15675608442958377592:=0
def tw15801998238676427574:=0
def tw13706005253596862963:=0
def tw1341244931387238559:=0
def tw5311346090423385474:=0
def tw10881384674566417551:=0
def tw16764534614740215236:=0
def tw17227538584929220752:=0
def tw8688023958593871332:=0
def tw1605032454855395094:=0
def tw14065195989812817710:=0
def tw16326331129545591680:=0
def tw9447490586496816855:=0
def tw1682116814979228160:=0
def tw11098555665813407003:=0
def tw9255960538043683859:=0
end PySem.W.Fast
abbrev yZ:=@List.length_map
abbrev yY:=@Nat.le_refl
abbrev yX:=@List.size_toArray
abbrev yW:=@PySem.wpAny_bind
abbrev yV:=@PySem.Heap.get?_push_of_some
abbrev yU:=@Bool.false_ne_true
abbrev yT:=@List.map_cons
abbrev yS:=@List.length_cons
abbrev yR:=@PySem.wpAny_pure
abbrev yQ:=@PySem.Heap.lt_size
abbrev yP:=@List.mem_cons
abbrev yO:=@decide_eq_false
abbrev yN:=@List.mem_cons_of_mem
abbrev yM:=@List.getElem?_map
abbrev yL:=@List.getElem?_eq_getElem
abbrev yK:=@List.mem_cons_self
abbrev yJ:=@Nat.ne_of_lt
abbrev yI:=@PySem.Heap.get?_push_size
abbrev yH:=@List.length_append
abbrev yG:=@Nat.lt_of_lt_of_le
abbrev yF:=@Option.map_eq_some_iff
abbrev yE:=@Option.bind_some
abbrev yD:=@List.getElem?_set
abbrev yC:=@List.mem_singleton
abbrev yB:=@Int.emod_lt_of_pos
abbrev yA:=@List.append_nil
abbrev yz:=@List.map_map
abbrev yy:=@decide_eq_true
abbrev yx:=@List.mem_map
abbrev yw:=@Int.emod_nonneg
abbrev yv:=@List.getElem?_eq_some_iff
abbrev yu:=@List.map_append
abbrev yt:=@List.not_mem_nil
abbrev yr:=@Nat.le_trans
abbrev yq:=@List.mem_append_right
abbrev yp:=@Bool.and_eq_true
abbrev yo:=@Nat.zero_le
abbrev yn:=@List.getElem?_append_left
abbrev ym:=@List.mem_append
abbrev yk:=@List.getElem?_set_ne
abbrev yj:=@List.getElem_toArray
abbrev yi:=@Array.length_toList
abbrev yh:=@List.nodup_cons
abbrev yg:=@List.mem_range
abbrev yf:=@List.length_set
abbrev ye:=@List.getElem_mem
abbrev yd:=@of_decide_eq_true
abbrev yc:=@List.getElem?_append_right
abbrev yb:=@List.getD_eq_getElem?_getD
abbrev ya:=@List.mem_nil_iff
abbrev uZ:=@List.append_assoc
abbrev uY:=@List.lookup_cons
abbrev uX:=@Nat.le_of_lt
abbrev uW:=@List.drop_eq_getElem_cons
abbrev uV:=@List.all_eq_true
abbrev uU:=@List.mem_of_getElem?
abbrev uT:=@List.mem_filterMap
abbrev uS:=@List.nodup_nil
abbrev uR:=@List.find?_cons
abbrev uQ:=@List.filterMap_cons_some
abbrev uP:=@Option.map_some
abbrev uO:=@Nat.lt_irrefl
abbrev uN:=@List.getElem?_replicate
abbrev uM:=@Option.bind_eq_some_iff
abbrev uL:=@Int.eq_ofNat_of_zero_le
abbrev uK:=@List.filterMap_cons
abbrev uJ:=@List.getElem_of_mem
abbrev uI:=@PySem.Heap.size_push
abbrev uH:=@List.length_drop
abbrev uG:=@Bool.false_eq_true
abbrev uF:=@List.length_replicate
abbrev uE:=@Array.getElem?_toList
abbrev uD:=@List.getElem?_eq_none
abbrev uC:=@List.length_range
abbrev uB:=@Nat.lt_succ_self
abbrev uA:=@Array.toList_append
abbrev uz:=@List.length_eq_zero_iff
abbrev uy:=@Nat.lt_of_le_of_lt
abbrev ux:=@List.getElem?_drop
abbrev uw:=@Nat.le_succ
abbrev uu:=@List.not_lt
abbrev ut:=@List.cons_lt_cons_iff
abbrev ur:=@Option.getD_none
abbrev uq:=@List.drop_length
abbrev uo:=@Option.getD_some
abbrev um:=@Array.toList_inj
abbrev ul:=@List.cons_ne_nil
namespace Nk
open PySem
variable{a b:Addr}{h:Heap}{Q:Bool->Shared->Prop}
variable {P:Program}{w:World}{K L:Type}[DecidableEq K][DecidableEq L](B:HeapKind P w K)(kd:KeyKind P w L)
def IsP (h:Heap)(x:K×List L)(a:Addr):Prop:=∃ o c vs n,h.get? a=some o/\o.cls = .type "tuple"/\o.data = .seq (Value.ref c::vs).toArray n/\B.is h x.1 c/\ItemsAre kd x.2 vs
variable {B kd}
theorem IsP.ty {s:Shared}{x:K×List L}(p:IsP B kd s.heap x a):s.TypeIs (.ref a) "tuple":=by obtain ⟨o,_,_,_,e,f,_⟩:=p;exact ⟨o,e,f⟩
theorem IsP.inj {x y:K×List L}(p:IsP B kd h x a)(q:IsP B kd h y a):x=y:=by obtain ⟨o,c,vs,n,e1,_,e2,b1,i1⟩:=p;obtain ⟨o',c',vs',n',f1,_,f2,b2,i2⟩:=q;rw [e1] at f1;cases f1;rw [e2] at f2;injection f2 with g _;have g:Value.ref c::vs=Value.ref c'::vs':=congrArg Array.toList g;injection g with g1 g2;injection g1 with g1;subst g1 g2;exact Prod.ext (B.inj b1 b2) (i1.inj i2)
theorem IsP.keeps {h':Heap}{x:K×List L}{d:Addr}{o:Obj}{es ep}(p:IsP B kd h x a)(e:h.get? d=some o)(f:o.data = .dict es ep)(k:Heap.SameBut d h h'):IsP B kd h' x a:=by
 obtain ⟨o',c,vs,n,e1,e2,e3,b,i⟩:=p;have ne:a≠d:=λz=>by subst z;rw [e] at e1;cases e1;rw [f] at e3;cases e3
 exact ⟨o',c,vs,n,(k.2 a ne).trans e1,e2,e3,B.keeps b e f k,i⟩
def Gk (B:HeapKind P w K)(kd:KeyKind P w L)(x:K×List L):Int:=reduceHash (Builtin.Tuple.tupleHashOf (B.hash x.1::x.2.map kd.hash))
variable {A:Around}{E:Value->Shared->Prop}{s:Shared}
theorem DA {x:K×List L}{Q:Int->Shared->Prop}(hu:A.units<cLine)(hB:∀ A':Around,A'.units<=A.units+1->B.room A')(p:IsP B kd s.heap x a)(h:Q (Gk B kd x) { s with toks:=s.toks+(B.draws x.1+x.2.length+1) }):wpAny (model P w) A (pyHash (.ref a)) Q E s:=by
 have T:=p.ty;obtain ⟨o,c,vs,n,e1,e2,e3,b,i⟩:=p;obtain ⟨k,ls⟩:=x;unfold pyHash
 first|unfold pyHashByItsType|skip
 first|refine yW (wpAny_cRoomFor_or (.inr hu) ?_)|skip
 refine yW (wpAny_specialOf T F.slot_tuple_hash.lookup ?_);rw [if_neg (by rw [beq_builtin_none];exact yU)];refine yW (wpAny_specialOf T F.slot_tuple_hash.lookup ?_);refine yW (wpAny_callSpecialIfBoundUnlessNone?_slot T F.slot_tuple_hash (wpAny_call_entry F.slot_tuple_hash T F.entry_tuple_hash ?_ (F.args_tuple_hash_1 _)))
 change wpAny _ _ (Bind.bind (Builtin.Tuple.tupleItemsOf (Value.ref a)) _) _ _ _
 refine yW (wpAny_tupleItemsOf e1 e3 (yW ?_));rw [<- Array.forIn_toList];refine wpAny_forIn_list _ (λr (z:Array Int) t=>(r=Value.ref c::vs/\z=#[]/\t=s)∨∃ d l,ls=d++l/\ItemsAre kd l r/\z.toList=B.hash k::d.map kd.hash/\t={ s with toks:=s.toks+(B.draws k+d.length) }) _ ?_ ?_ _ _ (.inl ⟨rfl,rfl,rfl⟩)
 ·rintro v r z t (⟨q1,rfl,rfl⟩|⟨d,l,rfl,q1,q2,rfl⟩)
  ·injection q1 with q1 q2;subst q1 q2;refine yW (B.pyHash (hB _ (yY _)) b ?_)
   first
    |exact yR (.inr ⟨[],ls,rfl,i,rfl,rfl⟩)
    |exact yW (yR (yR (.inr ⟨[],ls,rfl,i,rfl,rfl⟩)))
  ·cases q1 with
   |@cons k' _ l' _ g g' =>
    have en:({ s with toks:=s.toks+(B.draws k+d.length)+1 }:Shared)={ s with toks:=s.toks+(B.draws k+(d++[k']).length) }:=by rw [yH];rfl
    refine yW (kd.pyHash g ?_)
    first
     |exact yR (.inr ⟨d++[k'],l',by rw [uZ];rfl,g',by simp [q2],en⟩)
     |exact yW (yR (yR (.inr ⟨d++[k'],l',by rw [uZ];rfl,g',by simp [q2],en⟩)))
 ·rintro z t (⟨q1,_⟩|⟨d,l,rfl,q1,q2,rfl⟩)
  ·cases q1
  ·cases q1;rw [yA] at h;have hd:Builtin.Tuple.tupleHashOf z.toList=Builtin.Tuple.tupleHashOf (B.hash k::d.map kd.hash):=by rw [q2]
   have h':Q (reduceHash (Builtin.Tuple.tupleHashOf z.toList)) { s with toks:=s.toks+(B.draws k+d.length)+1 }:=by rw [hd];exact h
   clear h hd;refine wpAny_ret_mkInt ?_;generalize Builtin.Tuple.tupleHashOf z.toList=N at h' ⊢
   change wpAny _ _ (ite (and (decide (-(2:Int) ^ 63<=N)) (decide (N<2 ^ 63))=true) _ _) _ _ _
   unfold reduceHash at h';split
   next z1=>rw [if_pos z1] at h';exact yR h'
   next z1=>rw [if_neg z1] at h';exact yW (wpAny_rule (yR h'))
theorem Dd {x y:K×List L}{Z:Fin->Shared->Prop}(hB:B.room A)(p:IsP B kd s.heap x a)(q:IsP B kd s.heap y b)(h:Z (.done (.ret (.bool (decide (x=y))))) s):wpAny (model P w) A (Builtin.«tuple.__eq__» ⟨[.ref a,.ref b],[]⟩) Z E s:=by
 have T:=q.ty;obtain ⟨o,c,vs,n,e1,e2,e3,b1,i1⟩:=p;obtain ⟨o',c',us,n',f1,f2,f3,b2,i2⟩:=q;obtain ⟨k,ls⟩:=x;obtain ⟨k',ls'⟩:=y
 change wpAny _ _ (Bind.bind (isInstance (Value.ref b) (Value.type "tuple")) _) _ _ _
 refine yW (wpAny_isInstance T isSubtype_tuple_tuple ?_);simp only [Bool.not_true,uG,if_false];refine yW (wpAny_tupleItemsOf e1 e3 (yW (wpAny_tupleItemsOf f1 f3 (yW ?_))));refine wpAny_forIn_list _ (λr (z:Option Fin×Unit) t=>z.1=none/\t=s/\(r=(Value.ref c,Value.ref c')::vs.zip us∨(k=k'/\∃ x' y' xs ys,r=List.zip xs ys/\ItemsAre kd x' xs/\ItemsAre kd y' ys/\(x'=y'↔ls=ls')/\(xs.length=ys.length↔vs.length=us.length)))) _ ?_ ?_ _ _ ⟨rfl,rfl,.inl rfl⟩
 ·rintro ⟨u,v⟩ r z t ⟨hz,rfl,g⟩;rcases g with g|⟨kk,x',y',xs,ys,g,g1,g2,g3,g4⟩
  ·injection g with g g';injection g with g1 g2;subst g1 g2 g';refine yW (B.eqBool hB b1 b2 ?_);by_cases kk:k=k'
   ·rw [yy kk];exact yR ⟨rfl,rfl,.inr ⟨kk,ls,ls',vs,us,rfl,i1,i2,Iff.rfl,Iff.rfl⟩⟩
   ·rw [yO kk];have:decide ((k,ls)=(k',ls'))=false:=yO λz=>kk (Prod.mk.inj z).1;rw [this] at h;exact yW (yR (yR (yR h)))
  ·cases g1 with
   |nil=>cases g
   |@cons m1 v1 l1 r1 c1 d1 =>
    cases g2 with
    |nil=>cases g
    |@cons m2 v2 l2 r2 c2 d2 =>
     injection g with g g';injection g with g1 g2;subst g1 g2 g';refine yW (kd.eqBool c1 c2 ?_);by_cases mm:m1=m2
     ·rw [yy mm];refine yR ⟨rfl,rfl,.inr ⟨kk,l1,l2,r1,r2,rfl,d1,d2,?_,?_⟩⟩
      ·rw [<- g3,mm];exact ⟨λz=>by rw [z],λz=>(List.cons.inj z).2⟩
      ·rw [<- g4,yS,yS];omega
     ·rw [yO mm];have:decide ((k,ls)=(k',ls'))=false:=yO λz=>mm (List.cons.inj (g3.mpr (Prod.mk.inj z).2)).1;rw [this] at h;exact yW (yR (yR (yR h)))
 ·rintro ⟨z,z'⟩ t ⟨hz,rfl,g⟩;obtain rfl:z=none:=hz;rcases g with g|⟨kk,x',y',xs,ys,g,g1,g2,g3,g4⟩
  ·cases g
  ·refine yR ?_;have key:((Value.ref c::vs).toArray.size==(Value.ref c'::us).toArray.size)=decide ((k,ls)=(k',ls')):=by
    have e1:vs.length=us.length↔ls=ls':=by rw [<- g3,<- g4];cases g1<;>cases g2<;>first|(simp;done)|cases g
    rw [yX,yX,yS,yS];by_cases q:ls=ls'
    ·rw [e1.mpr q,kk,q];simp
    ·have n1:¬ vs.length=us.length:=λz=>q (e1.mp z);rw [yO λz=>q (Prod.mk.inj z).2];exact beq_false_of_ne (by omega)
   change Z (.done (.ret (.bool ((Value.ref c::vs).toArray.size==(Value.ref c'::us).toArray.size)))) _
   rw [key];exact h
theorem Db {x y:K×List L}(hu:A.units<cLine)(hB:∀ A':Around,A'.units<=A.units+1->B.room A')(p:IsP B kd s.heap x a)(q:IsP B kd s.heap y b)(h:Q (decide (x=y)) s):wpAny (model P w) A (eqBool (.ref a) (.ref b)) Q E s:=by
 unfold eqBool
 try with_reducible refine wpAny_holding ?_
 change wpAny _ _ (ite ((Value.ref a==Value.ref b)=true) _ _) _ _ _
 split
 next z =>
  have z':a=b:=by have:=eq_of_beq z;injection this
  subst z';rw [yy (p.inj q)] at h;exact yW (wpAny_rule (yR h))
 next z =>
  refine yW (wpAny_richCompare_same_room (op:= .Eq) p.ty q.ty F.slot_tuple_eq (wpAny_call_entry F.slot_tuple_eq p.ty F.entry_tuple_eq (Dd (hB _ ?_) p q ⟨_,rfl,(λe=>nomatch e),wpAny_truthy_bool h⟩) (F.args_tuple_eq_2 _ _)) hu);exact yY _
theorem Hd {ks:List L}{n:Nat}(p:IsTupleKey kd s.heap ks a)(h:Q true s):wpAny (model P w) A (eqIsQuiet (n+1) (.ref a)) Q E s:=by
 have T:=p.typeIs;obtain ⟨o,its,m,e1,e2,e3,i⟩:=p;unfold eqIsQuiet;refine yW (wpAny_specialOf T F.slot_tuple_eq.lookup ?_)
 change wpAny _ _ (Bind.bind (isInstance (Value.ref a) (Value.type "tuple")) _) _ _ _
 refine yW (wpAny_isInstance T isSubtype_tuple_tuple ?_);simp only [Bool.not_true,uG,if_false];refine yW (wpAny_seqItems e1 e3 (yW ?_))
 change wpAny _ _ (forIn its _ _) _ _ _
 rw [<- Array.forIn_toList];refine wpAny_forIn_list _ (λr (z:Option Bool×Unit) t=>z.1=none/\t=s/\∀ v∈r,carriedByValue v=true) _ ?_ ?_ _ _ ⟨rfl,rfl,i.byValue⟩
 ·rintro v r z t ⟨hz,rfl,g⟩;rw [eqIsQuiet_byValue _ (g v yK)];exact yW (yR (yR ⟨rfl,rfl,λu hu=>g u (yN _ hu)⟩))
 ·rintro ⟨z,z'⟩ t ⟨hz,rfl,_⟩;obtain rfl:z=none:=hz;exact yR h
theorem He (hq:∀{A:Around}{E:Value->Shared->Prop}{s:Shared}{k:K}{c:Addr}{Q:Bool->Shared->Prop},B.is s.heap k c->Q true s->wpAny (model P w) A (eqIsQuiet 7 (.ref c)) Q E s){x:K×List L}(p:IsP B kd s.heap x a)(h:Q true s):wpAny (model P w) A (eqIsQuiet 8 (.ref a)) Q E s:=by
 have T:=p.ty;obtain ⟨o,c,vs,n,e1,e2,e3,b,i⟩:=p;unfold eqIsQuiet;refine yW (wpAny_specialOf T F.slot_tuple_eq.lookup ?_)
 change wpAny _ _ (Bind.bind (isInstance (Value.ref a) (Value.type "tuple")) _) _ _ _
 refine yW (wpAny_isInstance T isSubtype_tuple_tuple ?_);simp only [Bool.not_true,uG,if_false];refine yW (wpAny_seqItems e1 e3 (yW ?_))
 change wpAny _ _ (forIn (Value.ref c::vs).toArray _ _) _ _ _
 rw [<- Array.forIn_toList];refine wpAny_forIn_list _ (λr (z:Option Bool×Unit) t=>z.1=none/\t=s/\∀ v∈r,v=Value.ref c∨carriedByValue v=true) _ ?_ ?_ _ _ ⟨rfl,rfl,λv hv=>(yP.mp hv).imp id (i.byValue v)⟩
 ·rintro v r z t ⟨hz,rfl,g⟩;rcases g v yK with rfl|gv
  ·exact yW (hq b (yR ⟨rfl,rfl,λu hu=>g u (yN _ hu)⟩))
  ·rw [eqIsQuiet_byValue _ gv];exact yW (yR (yR ⟨rfl,rfl,λu hu=>g u (yN _ hu)⟩))
 ·rintro ⟨z,z'⟩ t ⟨hz,rfl,_⟩;obtain rfl:z=none:=hz;exact yR h
def MV (kd:KeyKind P w L):HeapKind P w (List L×List L) where
 is:=IsP (tupleKind kd) kd
 hash:=Gk (tupleKind kd) kd
 draws:=λx=>(tupleKind kd).draws x.1+x.2.length+1
 room:=λA=>A.units+1<cLine
 inj:=λp q=>p.inj q
 keeps:=λp e f k=>p.keeps e f k
 pyHash:=λhu p h=>DA (Nat.lt_of_succ_lt hu) (λ_ l=>uy l hu) p h
 eqBool:=λhu p q h=>Db (Nat.lt_of_succ_lt hu) (λ_ l=>uy l hu) p q h
 quiet:=λp h=>He (λb g=>Hd (n:=6) b g) p h
def Do (kd:KeyKind P w L):HeapKind P w (List L×List L) where
 is:=λh x a=>x.1=[]/\(tupleKind kd).is h x.2 a
 hash:=λx=>(tupleKind kd).hash x.2
 draws:=λx=>(tupleKind kd).draws x.2
 room:=λA=>A.units+1<cLine
 inj:=λp q=>Prod.ext (p.1.trans q.1.symm) ((tupleKind kd).inj p.2 q.2)
 keeps:=λp e f k=>⟨p.1,(tupleKind kd).keeps p.2 e f k⟩
 pyHash:=λhu p h=>(tupleKind kd).pyHash (Nat.lt_of_succ_lt hu) p.2 h
 eqBool:=λ{_ _ _ x y _ _ _} hu p q h=>(tupleKind kd).eqBool (Nat.lt_of_succ_lt hu) p.2 q.2 (by
  have e:decide (x.2=y.2)=decide (x=y):=decide_eq_decide.mpr ⟨λz=>Prod.ext (p.1.trans q.1.symm) z,λz=>by rw [z]⟩;rw [e];exact h)
 quiet:=λp h=>(tupleKind kd).quiet p.2 h
def anyKind (fl:Bool)(kd:KeyKind P w L):HeapKind P w (List L×List L):=match fl with
 |true=>Do kd
 |false=>MV kd
theorem any_room {fl:Bool}{kd:KeyKind P w L}{A:Around}(hu:A.units+2<cLine):(anyKind fl kd).room A.in1:=by cases fl<;>exact hu
end Nk
namespace L2
abbrev Fg:=PySem.W.Frag
end L2
namespace L2
open PySem PySem.Spec PyProof.Rows
variable{us:List Value}{C a b dx it:Addr}{u:Value}{P:Program}{w:World}{base h:Heap}{g':Array GenState}{j n t':Nat}{d':Drawn}{ch fp:List Addr}{m qual x:Str}{c e l tg:Expr}{N ps:List Str}{A:Around}{E Q:Value->Shared->Prop}{s s':Shared}{α:Type}{pins:List (Addr×Obj)}{p pos:Pos}{op op':CmpOp}{K:Fg}{f:Value->Value->Sem Value}{es:List Expr}{body:List Stmt}{lo:Int}{pl:Sem Bool}{mA mg:Str->Option Value}{kw:List (Str×Value)}{fd:FuncData}{outer:List Env}{scope:Scope}
abbrev v9:=Sum Int Str
def vm:v9->Value->Bool
 | .inl k,v=>Value.isInt k v
 | .inr x,v=>Value.isStrOf x v
def keyH (w:World):v9->Int
 | .inl k=>hashInt k
 | .inr x=>hashStr w x
theorem ja:∀{k:v9}{v:Value},vm k v=true->(∃ i t,k=Sum.inl i/\v=Value.int i t)∨(∃ x t,k=Sum.inr x/\v=Value.str x t)
 | .inl i,v,h=>by
  obtain ⟨t,e⟩:=Value.isInt_shape (k:=i) (v:=v) h;exact .inl ⟨i,t,rfl,e⟩
 | .inr x,v,h=>by
  obtain ⟨t,e⟩:=Value.isStrOf_shape (x:=x) (v:=v) h;exact .inr ⟨x,t,rfl,e⟩
theorem Mg (i:Int)(t:Tok):vm (.inl i) (.int i t)=true:=by simp [vm,Value.isInt]
theorem Gv (x:Str)(t:Tok):vm (.inr x) (.str x t)=true:=by simp [vm,Value.isStrOf]
theorem Mh (a b:Int):decide ((Sum.inl a:v9)=Sum.inl b)=(a==b):=by
 by_cases e:a=b
 ·subst e;simp
 ·have h:¬ (Sum.inl a:v9)=Sum.inl b:=λq=>e (Sum.inl.inj q);rw [yO h];exact (beq_eq_false_iff_ne.mpr e).symm
theorem Mm (a b:Str):decide ((Sum.inr a:v9)=Sum.inr b)=decide (a=b):=by
 by_cases e:a=b
 ·subst e;simp
 ·have h:¬ (Sum.inr a:v9)=Sum.inr b:=λq=>e (Sum.inr.inj q);rw [yO h,yO e]
theorem Mj (a:Int)(b:Str):decide ((Sum.inl a:v9)=Sum.inr b)=false:=yO (λq=>nomatch q)
theorem Ml (a:Str)(b:Int):decide ((Sum.inr a:v9)=Sum.inl b)=false:=yO (λq=>nomatch q)
def qe (prog:Program)(w:World):PySem.KeyKind prog w v9 where
 is:=vm
 hash:=keyH w
 inj:=λv a b ha hb=>by
  rcases ja ha with ⟨i,t,rfl,rfl⟩|⟨x,t,rfl,rfl⟩
  ·rcases ja hb with ⟨j,u,rfl,e⟩|⟨y,u,rfl,e⟩
   ·injection e with e1 _;rw [e1]
   ·exact nomatch e
  ·rcases ja hb with ⟨j,u,rfl,e⟩|⟨y,u,rfl,e⟩
   ·exact nomatch e
   ·injection e with e1 _;rw [e1]
 byValue:=λk v h=>by
  rcases ja h with ⟨i,t,rfl,rfl⟩|⟨x,t,rfl,rfl⟩<;>rfl
 pyHash:=λhv h=>by
  rcases ja hv with ⟨i,t,rfl,rfl⟩|⟨x,t,rfl,rfl⟩
  ·exact wpAny_pyHash_int h
  ·exact wpAny_pyHash_str h
 eqBool:=λhu hv h=>by
  rcases ja hu with ⟨i,t,rfl,rfl⟩|⟨x,t,rfl,rfl⟩
  ·rcases ja hv with ⟨j,u,rfl,rfl⟩|⟨y,u,rfl,rfl⟩
   ·rw [Mh] at h;exact wpAny_eqBool_int h
   ·rw [Mj] at h;exact SeqAt.EqAt.int_str i t y u _ _ _ _ h
  ·rcases ja hv with ⟨j,u,rfl,rfl⟩|⟨y,u,rfl,rfl⟩
   ·rw [Ml] at h;exact SeqAt.EqAt.str_int x t j u _ _ _ _ h
   ·rw [Mm] at h;exact wpAny_eqBool_str h
 «strs»:=λk x t v h=>by
  rcases ja h with ⟨i,u,rfl,e⟩|⟨y,u,rfl,e⟩
  ·exact nomatch e
  ·injection e with e1 _;subst e1;cases v<;>rfl
theorem MO (prog:Program)(w:World)(i:Int)(t:Tok):(qe prog w).is (.inl i) (.int i t)=true:=Mg i t
theorem JQ (prog:Program)(w:World)(x:Str)(t:Tok):(qe prog w).is (.inr x) (.str x t)=true:=Gv x t
inductive V where
 |non|bl (b:Bool)|int (i:Int)|str (x:Str)|byt (b:Array UInt8)|flt (b:UInt64)|ref (a:Addr)|ty (n:String)
 deriving DecidableEq
variable{vs xs:List V}{v y:V}
def RelV:V->Value->Prop
 | .non,u=>u=Value.none
 | .bl b,u=>u=Value.bool b
 | .int i,u=>∃ t,u=Value.int i t
 | .str x,u=>∃ t,u=Value.str x t
 | .byt b,u=>∃ t,u=Value.bytes b t
 | .flt b,u=>∃ t,u=Value.float b t
 | .ref a,u=>u=Value.ref a
 | .ty n,u=>u=Value.type n
abbrev Vals:List V->List Value->Prop:=Paired RelV
theorem Vals.length (r:Vals xs us):xs.length=us.length:=Paired.length r
theorem Vals.get:∀{xs:List V}{us:List Value}{i:Nat}{x:V},Vals xs us->xs[i]?=some x->∃ u,us[i]?=some u/\RelV x u
 |_,_,_,_,.nil,e=>by simp at e
 |_,_,0,_,.cons r _,e=>by simp at e;subst e;exact ⟨_,rfl,r⟩
 |_,_,i+1,x,.cons _ t,e=>by
  obtain ⟨u,h1,h2⟩:=Vals.get (i:=i) (x:=x) t (by simpa using e);exact ⟨u,by simpa using h1,h2⟩
theorem Vals.set {x:V}{u:Value}(r:RelV x u):∀{xs:List V}{us:List Value}(i:Nat),Vals xs us->Vals (xs.set i x) (us.set i u)
 |_,_,_,.nil=> .nil
 |_,_,0,.cons _ t=> .cons r t
 |_,_,i+1,.cons q t=> .cons q (Vals.set r i t)
theorem Vals.append:∀{xs ys:List V}{us ws:List Value},Vals xs us->Vals ys ws->Vals (xs++ys) (us++ws)
 |_,_,_,_,.nil,s=>s
 |_,_,_,_,.cons r t,s=> .cons r (Vals.append t s)
theorem Vals.take:∀{xs:List V}{us:List Value}(n:Nat),Vals xs us->Vals (xs.take n) (us.take n)
 |_,_,0,_=> .nil
 |_,_,_+1,.nil=> .nil
 |_,_,n+1,.cons r t=> .cons r (Vals.take n t)
theorem Vals.drop:∀{xs:List V}{us:List Value}(n:Nat),Vals xs us->Vals (xs.drop n) (us.drop n)
 |_,_,0,r=>r
 |_,_,_+1,.nil=> .nil
 |_,_,n+1,.cons _ t=>Vals.drop n t
def RelO:Option V->Option Value->Prop
 |some v,some u=>RelV v u
 |none,none=>True
 |_,_=>False
def KV {κ:Type}:List (κ×V)->List (κ×Value)->Prop:=Paired λ(p:κ×V) (q:κ×Value)=>p.1=q.1/\RelV p.2 q.2
def kV:v9->V
 | .inl i=> .int i
 | .inr x=> .str x
def TABS:List (Addr×Array Value×List (Pos×Str)):=[]
abbrev b9:=List v9×List v9
inductive HO where
 /-- a list -/
 |lst (xs:List V)
 /-- a tuple (never changes) -/
 |tup (xs:List V)
 /-- a dict whose keys are ints and texts;one whose keys are tuples of ints and texts (the empty one is both) -/
 |dK (kvs:List (v9×V))|dT (fl:Bool) (as:List Addr) (kvs:List (b9×V))
 /-- a set of ints: its members,its size -/
 |set (S:Int->Bool) (n:Nat)
 /-- an instance of the class at C,its dict at dx,its attributes -/
 |ins (C dx:Addr) (fs:List (Str×V))
 /-- the dict of the instance at x -/
 |own (x:Addr)
 /-- the dict of an exception -/
 |xd (fs:List (Str×V))
 /-- a bound method,f of x -/
 |met (f x:Addr)
 /-- a range object lo,lo+1,.. below hi -/
 |rng (lo hi:Int)
 /-- a thing that is known to the object (the script;a dict while a loop walks it): read,never written while it is so -/
 |frz (o:Obj) (u:HO)
 /-- a code object's table -/
 |tbl (ps:Array Value) (q:List (Pos×Str))
 /-- any other thing,by what is true of its one object (a def of one's own: jS a S n:=HO.ext λh=> ..) -/
 |ext (φ:Heap->Prop)
variable{o:HO}
abbrev Hp:=Addr->Option HO
variable{H H':Hp}{R:V->V->Hp->Prop}
def j9 (H:Hp)(a:Addr)(o:HO):Hp:=λb=>if b=a then some o else H b
theorem y4 :j9 H a o a=some o:=by unfold j9;rw [if_pos rfl]
theorem v6 (h:b≠a):j9 H a o b=H b:=by unfold j9;rw [if_neg h]
theorem ne_of {u:HO}(h:H a=some o)(h':H b=some u)(d:o≠u):a≠b:=by intro e;subst e;rw [h] at h';exact d (Option.some.inj h')
theorem k7 (h:H a=some o)(h':H b=none):a≠b:=by intro e;subst e;rw [h] at h';cases h'
def KeyH (fl:Bool)(H:Hp)(b:Addr)(k:b9):Prop:=(fl=true/\k.1=[]/\H b=some (.tup (k.2.map kV)))∨(fl=false/\∃ c,H b=some (.tup (.ref c::k.2.map kV))/\H c=some (.tup (k.1.map kV)))
theorem KeyH.keeps {fl:Bool}{k:b9}(x:KeyH fl H b k)(ht:∀ b xs,H b=some (.tup xs)->H' b=some (.tup xs)):KeyH fl H' b k:=by
 rcases x with ⟨f,n,p⟩|⟨f,c,p,q⟩
 ·exact .inl ⟨f,n,ht _ _ p⟩
 ·exact .inr ⟨f,c,ht _ _ p,ht _ _ q⟩
section
variable (P:Program)(w:World)
def ObjOk (H:Hp)(h:Heap)(a:Addr):HO->Prop
 | .lst xs=>xs.length<=sizeLine/\∃ (its:List Value) (n:Nat),Vals xs its/\h.get? a=some { cls:= .type "list",data:= .seq its.toArray n }
 | .tup xs=>xs.length<=sizeLine/\∃ its:List Value,Vals xs its/\IsTup h a its.toArray
 | .dK kvs=>kvs.length<=sizeLine/\(a==sysModules)=false/\∃ vs,KV kvs vs/\h.DictOf (qe P w) a vs
 | .dT fl as kvs=>kvs.length<=sizeLine/\(a==sysModules)=false/\∃ xs:List (b9×Addr×Value),
   Paired (λ(p:b9×V) (q:b9×Addr×Value)=>p.1=q.1/\KeyH fl H q.2.1 p.1/\RelV p.2 q.2.2) kvs xs /\
   ∃ o es ep,h.get? a=some o/\o.ExactDict/\o.data = .dict es ep/\es.toList=xs.map (entryOfKey (Nk.anyKind fl (qe P w)))/\(xs.map (·.1)).Nodup/\xs.map (·.2.1)=as
 | .set S n=>h.SetOf (intKind P w) a S n
 | .ins C dx fs=>H dx=some (.own a)/\fs.length<=1000/\dx≠a/\h.get? a=some (PySem.W.instObj C dx) /\
   ∃ mA,h.Ns1 dx mA/\(∀ f,RelO (fs.lookup f) (mA f))/\PySem.Within mA (fs.map (·.1))
 | .own _=>∃ o,h.get? a=some o
 | .xd fs=>∃ mA,h.Ns1 a mA/\∀ f,RelO (fs.lookup f) (mA f)
 | .rng lo hi=>∃ t u v,h.get? a=some { cls:= .type "range",data:= .fields #[.int lo t,.int hi u,.int 1 v] }
 | .frz o u=>h.get? a=some o/\ObjOk H h a u
 | .tbl ps q=>∃ more:Array Value,h.get? a=some { cls:= .none,data:= .fields (ps++more) }/\TriplesOk (ps++more).toList /\
   ∀ p∈q,codeAmong p.1 (ps++more).toList=none∨∃ c o vs t,codeAmong p.1 (ps++more).toList=some (.ref c)/\H c=some (.frz o (.own a))/\o.data = .fields vs/\vs[1]?=some (.str p.2 t)
 | .met f x=>h.get? a=some (PySem.W.methodObj (.ref f) (.ref x))
 | .ext φ=>φ h/\(∃ o,h.get? a=some o)/\∀ h1 h2:Heap,φ h1->(∀ o,h1.get? a=some o->h2.get? a=some o)->φ h2
def HOk (H:Hp)(h:Heap):Prop:=∀ a o,H a=some o->ObjOk P w H h a o
end
section
variable {P:Program}{w:World}{H H':Hp}{h h':Heap}{a:Addr}{o:HO}
theorem ObjOk.lt (x:ObjOk P w H h a o):a<h.objs.size:=by
 cases o with
 |lst xs=>obtain ⟨_,_,_,_,e⟩:=x;exact yQ e
 |tup xs=>obtain ⟨_,_,_,p⟩:=x;exact p.lt
 |dK kvs=>obtain ⟨_,_,_,_,o,_,_,e,_⟩:=x;exact yQ e
 |dT fl as kvs=>obtain ⟨_,_,_,_,o,_,_,e,_⟩:=x;exact yQ e
 |set S n=>obtain ⟨o,_,_,_,e,_⟩:=x;exact yQ e
 |ins C dx fs=>obtain ⟨_,_,_,e,_⟩:=x;exact yQ e
 |own y=>obtain ⟨_,e⟩:=x;exact yQ e
 |xd fs=>obtain ⟨_,⟨_,_,_,e,_⟩,_⟩:=x;exact yQ e
 |rng lo hi=>obtain ⟨_,_,_,e⟩:=x;exact yQ e
 |frz ob u=>obtain ⟨e,_⟩:=x;exact yQ e
 |tbl ps q=>obtain ⟨_,e,_⟩:=x;exact yQ e
 |met f y=>exact yQ (show h.get? a=some _ from x)
 |ext φ=>obtain ⟨_,⟨_,e⟩,_⟩:=x;exact yQ e
theorem Paired.mapP {α β:Type}{F G:α->β->Prop}:∀{l₁:List α}{l₂:List β},Paired F l₁ l₂->(∀ a b,F a b->G a b)->Paired G l₁ l₂
 |_,_,.nil,_=> .nil
 |_,_,.cons r t,f=> .cons (f _ _ r) (Paired.mapP t f)
theorem ObjOk.stay (x:ObjOk P w H h a o)(k:∀ b u,(b=a∨H b=some (.own a))->h.get? b=some u->h'.get? b=some u)(ho:∀ b,H b=some (.own a)->H' b=some (.own a))(ht:∀ b xs,H b=some (.tup xs)->H' b=some (.tup xs))(hz:∀ b o u,H b=some (.frz o u)->H' b=some (.frz o u)):ObjOk P w H' h' a o:=by
 induction o with
 |lst xs=>obtain ⟨z,its,n,r,e⟩:=x;exact ⟨z,its,n,r,k _ _ (.inl rfl) e⟩
 |tup xs=>obtain ⟨z,its,r,ob,e,c⟩:=x;exact ⟨z,its,r,ob,k _ _ (.inl rfl) e,c⟩
 |dK kvs=>obtain ⟨z,y,vs,r,ob,es,ep,e,c⟩:=x;exact ⟨z,y,vs,r,ob,es,ep,k _ _ (.inl rfl) e,c⟩
 |dT fl as kvs=>obtain ⟨z,y,xs,r,ob,es,ep,e,c⟩:=x;exact ⟨z,y,xs,Paired.mapP r λp q z=>⟨z.1,z.2.1.keeps ht,z.2.2⟩,ob,es,ep,k _ _ (.inl rfl) e,c⟩
 |set S n=>obtain ⟨ob,es,ep,t,e,c⟩:=x;exact ⟨ob,es,ep,t,k _ _ (.inl rfl) e,c⟩
 |ins C dx fs=>obtain ⟨d,z,ne,e,mA,⟨od,es,ep,e2,c⟩,r⟩:=x;exact ⟨ho _ d,z,ne,k _ _ (.inl rfl) e,mA,⟨od,es,ep,k _ _ (.inr d) e2,c⟩,r⟩
 |own y=>obtain ⟨ob,e⟩:=x;exact ⟨ob,k _ _ (.inl rfl) e⟩
 |xd fs=>obtain ⟨mA,⟨od,es,ep,e,c⟩,r⟩:=x;exact ⟨mA,⟨od,es,ep,k _ _ (.inl rfl) e,c⟩,r⟩
 |rng lo hi=>obtain ⟨t,u,v,e⟩:=x;exact ⟨t,u,v,k _ _ (.inl rfl) e⟩
 |frz ob u ih=>obtain ⟨e,q⟩:=x;exact ⟨k _ _ (.inl rfl) e,ih q⟩
 |tbl ps q =>
  obtain ⟨more,e,t,r⟩:=x;refine ⟨more,k a _ (.inl rfl) e,t,λp hp=>?_⟩;rcases r p hp with z|⟨c,o,vs,t,z,oc,e2⟩
  ·exact .inl z
  ·exact .inr ⟨c,o,vs,t,z,hz c o _ oc,e2⟩
 |met f y=>have e:h.get? a=some (PySem.W.methodObj (.ref f) (.ref y)):=x;show h'.get? a=some (PySem.W.methodObj (.ref f) (.ref y));exact k a _ (.inl rfl) e
 |ext φ=>obtain ⟨p,⟨o,e⟩,st⟩:=x;exact ⟨st _ _ p λo q=>k _ _ (.inl rfl) q,⟨o,k _ _ (.inl rfl) e⟩,st⟩
theorem HOk.lt (x:HOk P w H h)(e:H a=some o):a<h.objs.size:=(x a o e).lt
theorem HOk.fresh (x:HOk P w H h)(e:h.objs.size<=a):H a=none:=by
 cases q:H a with
 |none=>rfl
 |some u=>exact absurd (yG (x.lt q) e) (uO _)
theorem HOk.kept (x:HOk P w H h)(k:∀ b u,h.get? b=some u->h'.get? b=some u):HOk P w H h':=λa o e =>
 (x a o e).stay (λb u _ q=>k b u q) (λ_ q=>q) (λ_ _ q=>q) λ_ _ _ q=>q
theorem HOk.laid (x:HOk P w H h)(k:∀ b u,h.get? b=some u->h'.get? b=some u)(hp:h.objs.size<=a)(new:ObjOk P w (j9 H a o) h' a o):HOk P w (j9 H a o) h':=λb u e=>by
 have hn:=x.fresh hp;by_cases hb:b=a
 ·subst hb;rw [y4] at e;cases e;exact new
 ·rw [v6 hb] at e;exact (x b u e).stay (λc v _ q=>k c v q) (λc q=>by rw [v6 (k7 q hn)];exact q) (λc xs q=>by rw [v6 (k7 q hn)];exact q) λc _ _ q=>by rw [v6 (k7 q hn)];exact q
end
def Rd (H:Hp)(a:Addr)(u:HO):Prop:=H a=some u∨∃ o,H a=some (.frz o u)
theorem Rd.ok {u:HO}(r:Rd H a u)(x:HOk P w H h):ObjOk P w H h a u:=by
 rcases r with r|⟨o,r⟩
 ·exact x a u r
 ·obtain ⟨_,q⟩:=x a _ r;exact q
def Mut:Option HO->Prop
 |some (.lst _)=>True
 |some (.dK _)=>True
 |some (.dT _ _ _)=>True
 |some (.set _ _)=>True
 |some (.ins _ _ _)=>True
 |some (.ext _)=>True
 |_=>False
section
variable {P:Program}{w:World}{H:Hp}{h h':Heap}{x e:Addr}{o':HO}
theorem HOk.write (ok:HOk P w H h)(mu:Mut (H x))(he:e=x∨H e=some (.own x))(k:∀ b u,b≠e->h.get? b=some u->h'.get? b=some u)(heo:∃ u,h'.get? e=some u)(new:ObjOk P w (j9 H x o') h' x o'):HOk P w (j9 H x o') h':=λb u q=>by
 have nown:∀ c y,H c=some (.own y)->c≠x:=λc y r z=>by subst z;rw [r] at mu;exact mu
 have ntup:∀ c xs,H c=some (.tup xs)->c≠x:=λc xs r z=>by subst z;rw [r] at mu;exact mu
 have nfrz:∀ c ob xs,H c=some (.frz ob xs)->c≠x:=λc ob xs r z=>by subst z;rw [r] at mu;exact mu
 by_cases hb:b=x
 ·subst hb;rw [y4] at q;cases q;exact new
 ·rw [v6 hb] at q;by_cases hbe:b=e
  ·have q':H b=some (.own x):=by
    rcases he with z|z
    ·exact absurd (hbe.trans z) hb
    ·rw [hbe];exact z
   rw [q] at q';cases q';obtain ⟨v,hv⟩:=heo;exact ⟨v,by rw [hbe];exact hv⟩
  ·refine (ok b u q).stay (λc v hc r=>k c v ?_ r) (λc r=>by rw [v6 (nown c b r)];exact r) (λc xs r=>by rw [v6 (ntup c xs r)];exact r) λc ob xs r=>by rw [v6 (nfrz c ob xs r)];exact r
   rcases hc with rfl|hc
   ·exact hbe
   ·rintro rfl;rcases he with z|z
    ·exact nown c b hc z
    ·rw [hc] at z;cases z;exact hb rfl
end
structure Un (fs ex:List Addr)(H H':Hp)(h h':Heap):Prop where
 keep:∀ b o,h.get? b=some o->H b=none->b∉fs->b∉ex->h'.get? b=some o
 slot:∀ b o,h.get? b=some o->H b=none->b∈fs->b∉ex->∃ sl,h'.get? b=some { o with slots:=sl }
 free:∀ b o,h.get? b=some o->H b=none->b∉ex->H' b=none
 there:∀ b o,h.get? b=some o->b∉ex->∃ o',h'.get? b=some o'
 tups:∀ b xs,H b=some (.tup xs)->H' b=some (.tup xs)
 frzs:∀ b o u,H b=some (.frz o u)->H' b=some (.frz o u)
 tbls:∀ b ps q,H b=some (.tbl ps q)->H' b=some (.tbl ps q)
section
variable {fs fs' ex ex':List Addr}{H H1 H2:Hp}{h h1 h2 h':Heap}{a x e:Addr}{o:HO}
theorem Un.any (u:Un fs ex H H1 h h1){ob:Obj}(q:h.get? b=some ob)(n:H b=none)(hx:b∉ex):∃ sl,h1.get? b=some { ob with slots:=sl }:=by
 by_cases hb:b∈fs
 ·exact u.slot b ob q n hb hx
 ·exact ⟨ob.slots,u.keep b ob q n hb hx⟩
theorem Un.kept (k:∀ b u,h.get? b=some u->h'.get? b=some u):Un fs ex H H h h' :=
 ⟨λb ob q _ _ _=>k b ob q,λb ob q _ _ _=>⟨ob.slots,k b ob q⟩,λ_ _ _ n _=>n,λb ob q _=>⟨ob,k b ob q⟩,λ_ _ q=>q,λ_ _ _ q=>q,λ_ _ _ q=>q⟩
theorem Un.refl:Un fs ex H H h h:=Un.kept λ_ _ q=>q
theorem Un.laid (k:∀ b u,h.get? b=some u->h'.get? b=some u)(hp:h.objs.size<=a)(hn:H a=none):Un fs ex H (j9 H a o) h h' where
 keep:=λb u q _ _ _=>k b u q
 slot:=λb u q _ _ _=>⟨u.slots,k b u q⟩
 free:=λb u q n _=>by rw [v6 (yJ (yG (yQ q) hp))];exact n
 there:=λb u q _=>⟨u,k b u q⟩
 tups:=λb xs q=>by rw [v6 (k7 q hn)];exact q
 frzs:=λb u xs q=>by rw [v6 (k7 q hn)];exact q
 tbls:=λb ps z q=>by rw [v6 (k7 q hn)];exact q
theorem Un.write (mu:Mut (H x))(he:e=x∨H e=some (.own x))(k:∀ b u,b≠e->h.get? b=some u->h'.get? b=some u)(heo:∃ u,h'.get? e=some u):Un fs ex H (j9 H x o) h h':=by
 have hx:∀ b,H b=none->b≠x:=λb n z=>by subst z;rw [n] at mu;exact mu
 have hb:∀ b,H b=none->b≠e:=λb n z=>by
  subst z;rcases he with r|r
  ·exact hx b n r
  ·rw [n] at r;cases r
 have hm:∀ b u,H b=some u->¬ Mut (some u)->b≠x:=λb u q nm z=>by subst z;rw [q] at mu;exact nm mu
 refine ⟨λb u q n _ _=>k b u (hb b n) q,λb u q n _ _=>⟨u.slots,k b u (hb b n) q⟩,λb u q n _=>by rw [v6 (hx b n)];exact n,λb u q _=>?_,
  λb xs q=>by rw [v6 (hm b _ q λz=>z)];exact q,λb u xs q=>by rw [v6 (hm b _ q λz=>z)];exact q,λb ps r q=>by rw [v6 (hm b _ q λz=>z)];exact q⟩
 by_cases hbe:b=e
 ·subst hbe;exact heo
 ·exact ⟨u,k b u hbe q⟩
end
def trk (h:Heap)(H:Hp):List Addr:=(List.range h.objs.size).filter λa=>(H a).isSome
def zZ (h:Heap)(H:Hp):Heap:=PySem.W.hideAll h (trk h H)
theorem DC (h:Heap)(H:Hp):(zZ h H).objs.size=h.objs.size:=PySem.W.hideAll_size _ _
theorem DB {o:Obj}(e:h.get? b=some o)(n:H b=none):(zZ h H).get? b=some o :=
 PySem.W.hideAll_get _ e λhm=>by
  have q:(H b).isSome=true:=(List.mem_filter.mp hm).2;rw [n] at q;simp at q
theorem MW {o:Obj}(e:(zZ h H).get? b=some o):h.get? b=some o/\H b=none:=by
 have e':h.get? b=some o:=PySem.W.of_hideAll (trk h H) e;refine ⟨e',?_⟩;cases q:H b with
 |none=>rfl
 |some x=>have hm:b∈trk h H:=List.mem_filter.mpr ⟨yg.mpr (yQ e'),by simp [q]⟩;have z:(zZ h H).get? b=none:=PySem.W.hideAll_none (trk h H) hm;rw [z] at e;cases e
structure Mod (K:Fg)(mg:Str->Option Value)(base:Heap):Prop where
 kin:K.In base
 glob:base.Ns mainGlobals mg
 blt:∃ mb,base.Ns builtinsNs mb/\∀ x:Str,x ≠ "__name__"->mb x=bootBuiltins x
 nolimit:base.NoLimit
 bmn:∃ bm ob,mg "__builtins__"=some (.ref bm)/\bm≠builtinsNs/\base.get? bm=some ob/\ob.cls = .type "module"/\ob.dict=some builtinsNs/\ob.data = .plain
structure Cx where
 prog:Program
 w:World
 K:Fg
 mg:Str->Option Value
 base:Heap
 A:Around
 N:List Str
 s₀:Shared
 H₀:Hp
 env:Env
 outer:List Env
 stack:List Env
 ex:List Addr
 fn:Str->Bool
 calm:Bool
 pn:List (Addr×Obj)
 xe:Value->Shared->Prop
variable{X:Cx}
def qa (l:List Env):List Addr:=l.filterMap (·.frame)
abbrev Cx.fs (X:Cx):List Addr:=qa X.outer
def Vis (sc:Scope)(x:Str):Prop:=sc.names.lookup x=some .local∨sc.names.lookup x=some .cell∨sc.names.lookup x=some .free
def Loc (sc:Scope)(x:Str):Prop:=sc.names.lookup x=some .local∨sc.names.lookup x=some .cell
def Look (env:Env)(h:Heap)(m:Str->Option Value)(x:Str)(u:Value):Prop :=
 (env.kindOf x=some .local/\m x=some u)∨((env.kindOf x=some .cell∨env.kindOf x=some .free)/\∃ c,env.cells.lookup x=some c/\h.IsCell c (some u))
structure Cx.Ok (X:Cx):Prop where
 mod:Mod X.K X.mg X.base
 kind:X.env.scope.kind = .function
 glob:X.env.globals=mainGlobals
 blt:X.env.builtins=builtinsNs
 above:X.s₀.heap.objs.size<=X.env.locals
 inj:∀ x y c,X.env.cells.lookup x=some c->X.env.cells.lookup y=some c->x=y
 has:∀ x,(X.env.kindOf x=some .cell∨X.env.kindOf x=some .free)->∃ c,X.env.cells.lookup x=some c
 cab:∀ x c,X.fn x=true->X.env.cells.lookup x=some c->X.s₀.heap.objs.size<=c
 hd:X.calm=true->X.A.handled=none
 frames:X.A.frames=some X.stack
 stk:X.stack=X.outer∨(X.stack=X.env::X.outer/\X.env.frame=some X.env.locals)
 exf:∀ b∈X.ex,b≠X.env.locals/\∀ x c,X.env.cells.lookup x=some c->c≠b
 bs:∀ b o,X.base.get? b=some o->X.s₀.heap.get? b=some o/\X.H₀ b=none
 bsz:X.base.objs.size<=X.s₀.heap.objs.size
 noex:∀ b o,X.base.get? b=some o->b∉X.ex
 exfs:∀ b∈X.ex,b∉X.fs
 funs:X.s₀.heap.FunFrames X.base X.outer
 frf:∀ b∈X.fs,X.H₀ b=none
 tbs:∀ p∈TABS,X.H₀ p.1=some (.tbl p.2.1 p.2.2)
structure Inv (X:Cx)(pins:List (Addr×Obj))(U:List (Option V))(H:Hp)(s:Shared):Prop where
 ok:X.Ok
 os:s.os=X.s₀.os
 bare:AllBare s.gens
 base:Un X.fs X.ex X.H₀ H X.s₀.heap s.heap
 loc:∃ m,s.heap.Ns X.env.locals m/\∀(i:Nat)(x:Str)(v:V),X.N[i]?=some x->U[i]?=some (some v)->Vis X.env.scope x->∃ u,RelV v u/\Look X.env s.heap m x u
 cell:∀ x c,X.env.cells.lookup x=some c->∃ v,s.heap.IsCell c v
 free:H X.env.locals=none
 freeC:∀ x c,X.env.cells.lookup x=some c->H c=none
 pin:∀ p∈X.pn++pins,s.heap.get? p.1=some p.2/\H p.1=none/\p.1≠X.env.locals/\p.1∉X.fs/\∀ v,p.2.data ≠ .cell v
 hok:HOk X.prog X.w H s.heap
 len:U.length=X.N.length
section
variable {X:Cx}{pins:List (Addr×Obj)}{U:List (Option V)}{H H':Hp}{s:Shared}{h':Heap}
theorem Cx.Ok.nofr (ok:X.Ok){o:Obj}(e:X.base.get? b=some o):b∉X.fs:=λhb=>by
 have:=(ok.funs.mem hb).1;rw [e] at this;cases this
theorem Inv.bs (I:Inv X pins U H s):∀ b o,X.base.get? b=some o->s.heap.get? b=some o/\H b=none:=λb o e =>
 ⟨I.base.keep b o (I.ok.bs b o e).1 (I.ok.bs b o e).2 (I.ok.nofr e) (I.ok.noex b o e),I.base.free b o (I.ok.bs b o e).1 (I.ok.bs b o e).2 (I.ok.noex b o e)⟩
theorem Inv.bk (I:Inv X pins U H s):∀ b o,X.base.get? b=some o->s.heap.get? b=some o:=λb o e=>(I.bs b o e).1
theorem Inv.mod (I:Inv X pins U H s):Mod X.K X.mg X.base:=I.ok.mod
theorem Inv.kIn (I:Inv X pins U H s):X.K.In s.heap:=I.ok.mod.kin.keeps I.bk
theorem Inv.fr (I:Inv X pins U H s):∃ m,Fr X.base X.env.locals s.heap m :=
 let ⟨m,hn,_⟩:=I.loc
 ⟨m,hn,I.bk,yr I.ok.bsz I.ok.above⟩
theorem Inv.lt (I:Inv X pins U H s):X.env.locals<s.heap.objs.size:=let ⟨_,hn,_⟩:=I.loc;hn.lt
theorem Inv.sz (I:Inv X pins U H s):X.s₀.heap.objs.size<=s.heap.objs.size:=yr I.ok.above (uX I.lt)
theorem Inv.nofs (I:Inv X pins U H s)(h:s.heap.objs.size<=a):a∉X.fs:=λhb=>by
 obtain ⟨_,o,ho,_⟩:=I.ok.funs.mem hb;exact absurd (yG (yQ ho) (yr I.sz h)) (uO _)
theorem Inv.cne (I:Inv X pins U H s):∀ x c,X.env.cells.lookup x=some c->c≠X.env.locals:=λx c e z=>by
 obtain ⟨v,o,ho,hd⟩:=I.cell x c e;obtain ⟨m,⟨o',es,ep,ho',hd',_⟩,_⟩:=I.loc;rw [z,ho'] at ho;cases ho;rw [hd'] at hd;cases hd
theorem Inv.funs (I:Inv X pins U H s):s.heap.FunFrames X.base X.outer:=by
 have all:∀(l:List Env),(∀ b∈qa l,b∈X.fs)->X.s₀.heap.FunFrames X.base l->s.heap.FunFrames X.base l:=by
  intro l
  induction l with
  |nil=>intro _ _;trivial
  |cons env r ih=>intro hs hl;obtain ⟨hk,⟨L,o,hf,hn,ho,hd⟩,hr⟩:=hl;have hL:L∈X.fs:=hs L (by unfold qa;rw [uK,hf];exact yK);obtain ⟨sl,e⟩:=I.base.slot L o ho (I.ok.frf L hL) hL λz=>I.ok.exfs L z hL;exact ⟨hk,⟨L,_,hf,hn,e,hd⟩,ih (λb hb=>hs b (by unfold qa;rw [uK,hf];exact yN _ hb)) hr⟩
 exact all X.outer (λ_ hb=>hb) I.ok.funs
theorem Inv.stack (I:Inv X pins U H s):s.heap.FunFrames X.base X.stack:=by
 rcases I.ok.stk with e|⟨e,hf⟩
 ·rw [e];exact I.funs
 ·rw [e];obtain ⟨m,hn,_⟩:=I.loc;refine .cons (by rw [I.ok.kind];decide) hf hn ?_ I.funs;exact Heap.get?_none_of_le (yr I.ok.bsz I.ok.above)
theorem Inv.stkSub (I:Inv X pins U H s):∀ b∈qa X.stack,b∈X.env.locals::X.fs:=λb hb=>by
 rcases I.ok.stk with e|⟨e,hf⟩
 ·rw [e] at hb;exact yN _ hb
 ·rw [e] at hb;unfold qa at hb;rw [uK,hf] at hb;exact hb
theorem Inv.stkFree (I:Inv X pins U H s):∀ b∈qa X.stack,H b=none:=λb hb=>by
 rcases yP.mp (I.stkSub b hb) with e|hb
 ·rw [e];exact I.free
 ·obtain ⟨_,o,ho,_⟩:=I.ok.funs.mem hb;exact I.base.free b o ho (I.ok.frf b hb) λz=>I.ok.exfs b z hb
theorem Inv.step (I:Inv X pins U H s)(hch:∀ b∈ch,(b∈X.ex∨X.s₀.heap.objs.size<=b)/\b≠X.env.locals/\(∀ x c,X.env.cells.lookup x=some c->c≠b)/\∀ p∈X.pn++pins,p.1≠b)(keep:∀ b o,b≠X.env.locals->b∉X.fs->b∉ch->s.heap.get? b=some o->H b=none->h'.get? b=some o)(slot:∀ b o,b≠X.env.locals->b∈X.fs->b∉ch->s.heap.get? b=some o->H b=none->∃ sl,h'.get? b=some { o with slots:=sl })(free:∀ b o,b∉ch->s.heap.get? b=some o->H b=none->H' b=none)(there:∀ b o,b∉ch->s.heap.get? b=some o->∃ o',h'.get? b=some o')(tups:∀ b xs,H b=some (.tup xs)->H' b=some (.tup xs))(frzs:∀ b o u,H b=some (.frz o u)->H' b=some (.frz o u))(tbls:∀ b ps q,H b=some (.tbl ps q)->H' b=some (.tbl ps q))(ns:∀ m,s.heap.Ns X.env.locals m->h'.Ns X.env.locals m)(hok:HOk X.prog X.w H' h')(hg:AllBare g'):Inv X pins U H' { s with heap:=h',gens:=g',drawn:=d',toks:=t' }:=by
 have neL:∀ b o,X.s₀.heap.get? b=some o->b≠X.env.locals:=λb o e=>yJ (yG (yQ e) I.ok.above);have neC:∀ b o,X.s₀.heap.get? b=some o->b∉X.ex->b∉ch:=λb o e hx hb=>by
  rcases (hch b hb).1 with z|z
  ·exact hx z
  ·exact absurd (yG (yQ e) z) (uO _)
 have cellK:∀ x c,X.env.cells.lookup x=some c->∀ v,s.heap.IsCell c v->h'.IsCell c v:=λx c e v ⟨o,ho,hd⟩=>by
  have nch:c∉ch:=λz=>(hch c z).2.2.1 x c e rfl;by_cases hc:c∈X.fs
  ·obtain ⟨sl,q⟩:=slot c o (I.cne x c e) hc nch ho (I.freeC x c e);exact ⟨_,q,hd⟩
  ·exact ⟨o,keep c o (I.cne x c e) hc nch ho (I.freeC x c e),hd⟩
 refine ⟨I.ok,I.os,hg,⟨λb o e n hb hx=>?_,λb o e n hb hx=>?_,λb o e n hx=>?_,λb o e hx=>?_,λb xs e=>tups b xs (I.base.tups b xs e),λb o xs e=>frzs b o xs (I.base.frzs b o xs e),λb ps q e=>tbls b ps q (I.base.tbls b ps q e)⟩,?_,λx c e=>?_,?_,λx c e=>?_,λp hp=>?_,hok,I.len⟩
 ·exact keep b o (neL b o e) hb (neC b o e hx) (I.base.keep b o e n hb hx) (I.base.free b o e n hx)
 ·obtain ⟨sl,e1⟩:=I.base.slot b o e n hb hx;obtain ⟨sl',e2⟩:=slot b _ (neL b o e) hb (neC b o e hx) e1 (I.base.free b o e n hx);exact ⟨sl',e2⟩
 ·obtain ⟨o',e1⟩:=I.base.there b o e hx;exact free b o' (neC b o e hx) e1 (I.base.free b o e n hx)
 ·obtain ⟨o',e1⟩:=I.base.there b o e hx;exact there b o' (neC b o e hx) e1
 ·obtain ⟨m,hn,hl⟩:=I.loc;refine ⟨m,ns m hn,λi x v e1 e2 e3=>?_⟩;obtain ⟨u,r,l⟩:=hl i x v e1 e2 e3;refine ⟨u,r,?_⟩;rcases l with l|⟨k,c,e,z⟩
  ·exact .inl l
  ·exact .inr ⟨k,c,e,cellK x c e _ z⟩
 ·obtain ⟨v,z⟩:=I.cell x c e;exact ⟨v,cellK x c e v z⟩
 ·obtain ⟨m,⟨o,_,_,ho,_⟩,_⟩:=I.loc;exact free _ o (λz=>(hch _ z).2.1 rfl) ho I.free
 ·obtain ⟨v,o,ho,hd⟩:=I.cell x c e;exact free c o (λz=>(hch c z).2.2.1 x c e rfl) ho (I.freeC x c e)
 ·obtain ⟨e,n,ne,nf,d⟩:=I.pin p hp;have nch:p.1∉ch:=λz=>(hch p.1 z).2.2.2 p hp rfl;exact ⟨keep p.1 p.2 ne nf nch e n,free p.1 p.2 nch e n,ne,nf,d⟩
theorem Inv.un (I:Inv X pins U H s)(u:Un X.fs [] H H' s.heap h')(hok:HOk X.prog X.w H' h'):Inv X pins U H' { s with heap:=h',toks:=t' }:=by
 obtain ⟨m,⟨o,es,ep,ho,r⟩,_⟩:=id I.loc;obtain ⟨sl,hL⟩:=u.any ho I.free (by simp);exact I.step (g':=s.gens) (d':=s.drawn) (ch:=[]) (λ_ z=>nomatch z) (λb o _ hb _ e n=>u.keep b o e n hb (by simp)) (λb o _ hb _ e n=>u.slot b o e n hb (by simp)) (λb o _ e n=>u.free b o e n (by simp)) (λb o _ e=>u.there b o e (by simp)) u.tups u.frzs u.tbls (λm' hm=>by
  obtain ⟨o',es',ep',ho',r'⟩:=hm;rw [ho] at ho';cases ho';exact ⟨_,es',ep',hL,r'⟩) hok I.bare
theorem Inv.call (I:Inv X pins U H s)(u:Un (qa X.stack) ch H H' s.heap h')(hok:HOk X.prog X.w H' h')(hg:AllBare g')(hch:∀ b∈ch,(b∈X.ex∨X.s₀.heap.objs.size<=b)/\b≠X.env.locals/\(∀ x c,X.env.cells.lookup x=some c->c≠b)/\∀ p∈X.pn++pins,p.1≠b):Inv X pins U H' { s with heap:=h',gens:=g',drawn:=d',toks:=t' }:=by
 obtain ⟨m,⟨o,es,ep,ho,r⟩,_⟩:=id I.loc;obtain ⟨sl,hL⟩:=u.any ho I.free λz=>(hch _ z).2.1 rfl;exact I.step (ch:=ch) hch (λb o hL hb hc e n=>u.keep b o e n (λz=>(yP.mp (I.stkSub b z)).elim hL hb) hc) (λb o _ _ hc e n=>u.any e n hc) (λb o hc e n=>u.free b o e n hc) (λb o hc e=>u.there b o e hc) u.tups u.frzs u.tbls (λm' hm=>by
  obtain ⟨o',es',ep',ho',r'⟩:=hm;rw [ho] at ho';cases ho';exact ⟨_,es',ep',hL,r'⟩) hok hg
theorem Inv.turned (I:Inv X pins U H s)(k:∀ b o,b≠it->s.heap.get? b=some o->h'.get? b=some o)(hn:H it=none)(hL:it≠X.env.locals)(h1:it∈X.ex∨X.s₀.heap.objs.size<=it)(h2:∀ x c,X.env.cells.lookup x=some c->c≠it)(h3:∀ p∈X.pn++pins,p.1≠it):Inv X pins U H { s with heap:=h',toks:=t' }:=by
 have nit:∀ b u,H b=some u->b≠it:=λb u e z=>by rw [z,hn] at e;cases e
 refine I.step (g':=s.gens) (d':=s.drawn) (ch:=[it]) (λb hb=>?_) (λb o _ _ hc e _=>k b o (λz=>hc (by simp [z])) e) (λb o _ _ hc e _=>⟨o.slots,k b o (λz=>hc (by simp [z])) e⟩) (λ_ _ _ _ n=>n)
  (λb o hc e=>⟨o,k b o (λz=>hc (by simp [z])) e⟩) (λ_ _ e=>e) (λ_ _ _ e=>e) (λ_ _ _ e=>e) (λm hm=>?_) (λb u e=>?_) I.bare
 ·have e:b=it:=by simpa using hb
  subst e;exact ⟨h1,hL,h2,h3⟩
 ·obtain ⟨o,es,ep,ho,r⟩:=hm;exact ⟨o,es,ep,k _ o (Ne.symm hL) ho,r⟩
 ·refine (I.hok b u e).stay (λc v hc q=>k c v ?_ q) (λ_ q=>q) (λ_ _ q=>q) λ_ _ _ q=>q;rcases hc with z|z
  ·rw [z];exact nit b u e
  ·exact nit c _ z
theorem Inv.tok (I:Inv X pins U H s)(t:Nat):Inv X pins U H { s with toks:=t }:=I.un (h':=s.heap) (t':=t) Un.refl I.hok
theorem Inv.kept (I:Inv X pins U H s)(k:∀ b u,s.heap.get? b=some u->h'.get? b=some u):Inv X pins U H { s with heap:=h',toks:=t' }:=I.un (Un.kept k) (I.hok.kept k)
theorem Inv.laid (I:Inv X pins U H s)(k:∀ b u,s.heap.get? b=some u->h'.get? b=some u)(hp:s.heap.objs.size<=a)(new:ObjOk X.prog X.w (j9 H a o) h' a o):Inv X pins U (j9 H a o) { s with heap:=h',toks:=t' }:=I.un (Un.laid k hp (I.hok.fresh hp)) (I.hok.laid k hp new)
theorem Inv.write {x e:Addr}(I:Inv X pins U H s)(mu:Mut (H x))(he:e=x∨H e=some (.own x))(k:∀ b u,b≠e->s.heap.get? b=some u->h'.get? b=some u)(heo:∃ u,h'.get? e=some u)(new:ObjOk X.prog X.w (j9 H x o) h' x o):Inv X pins U (j9 H x o) { s with heap:=h',toks:=t' }:=I.un (Un.write mu he k heo) (I.hok.write mu he k heo new)
theorem Inv.weak {σ':List (Option V)}(I:Inv X pins U H s)(hl:σ'.length=U.length)(w:∀(i:Nat) v,σ'[i]?=some (some v)->U[i]?=some (some v)):Inv X pins σ' H s :=
 ⟨I.ok,I.os,I.bare,I.base,let ⟨m,hn,hl'⟩:=I.loc;⟨m,hn,λi x v e1 e2 e3=>hl' i x v e1 (w i v e2) e3⟩,I.cell,I.free,I.freeC,I.pin,I.hok,hl.trans I.len⟩
theorem Inv.pins_of {pins':List (Addr×Obj)}(I:Inv X pins U H s)(h:∀ p∈pins',s.heap.get? p.1=some p.2/\H p.1=none/\p.1≠X.env.locals/\p.1∉X.fs/\∀ v,p.2.data ≠ .cell v):Inv X pins' U H s :=
 ⟨I.ok,I.os,I.bare,I.base,I.loc,I.cell,I.free,I.freeC,λp hp=>(ym.mp hp).elim (λz=>I.pin p (List.mem_append_left _ z)) (h p),I.hok,I.len⟩
theorem GO (hN:N.Nodup){i:Nat}(a:N[i]?=some x)(b:N[j]?=some x):i=j:=by obtain ⟨h1,e1⟩:=yv.mp a;obtain ⟨h2,e2⟩:=yv.mp b;exact (List.getElem_inj hN).mp (e1.trans e2.symm)
theorem Br {M:Model}{i:Nat}{Q:Unit->Shared->Prop}(I:Inv X pins U H s)(hN:X.N.Nodup)(hi:X.N[i]?=some x)(hx:Loc X.env.scope x)(r:RelV v u)(h:∀ s',Inv X pins (U.set i (some v)) H s'->(∃ a,Heap.SameBut a s.heap s'.heap/\(a=X.env.locals∨X.env.cells.lookup x=some a))->Q () s')(hf:X.fn x=true∨X.env.scope.names.lookup x=some .local:=by first|exact .inl rfl|exact .inr rfl|assumption):wpAny M A (storeName X.env x u) Q E s:=by
 obtain ⟨m,hn,hl⟩:=id I.loc;have hcls:(X.env.scope.kind == .class || (X.env.scope.kind == .module&&X.env.locals != X.env.globals))=false:=by rw [I.ok.kind];rfl
 have hiσ:i<U.length:=by rw [I.len];exact (yv.mp hi).1
 have cne:=I.cne;have tracked:∀{a:Addr}{h':Heap},(∃ o,s.heap.get? a=some o/\H a=none)->Heap.SameBut a s.heap h'->HOk X.prog X.w H h':=λ{a h'} ha hs b ob e=>by
  obtain ⟨_,_,hfree⟩:=ha;refine (I.hok b ob e).stay (λc w' hc q=>(hs.2 c ?_).trans q) (λ_ q=>q) (λ_ _ q=>q) λ_ _ _ q=>q;rintro rfl;rcases hc with rfl|hc
  ·rw [hfree] at e;cases e
  ·rw [hfree] at hc;cases hc
 rcases hx with hk|hk
 ·refine wpAny_storeName_local hk hn (λh' hn' hs=>?_) hcls;obtain ⟨oL,_,_,hoL,_⟩:=id hn;refine h _ ⟨I.ok,I.os,I.bare,⟨λb o e n hb hx=>?_,λb o e n hb hx=>?_,I.base.free,λb o e hx=>?_,I.base.tups,I.base.frzs,I.base.tbls⟩,⟨_,hn',λj y v' e1 e2 e3=>?_⟩,λy c e=>?_,I.free,I.freeC,λp hp=>?_,tracked ⟨oL,hoL,I.free⟩ hs,by simpa using I.len⟩ ⟨_,hs,.inl rfl⟩
  ·exact (hs.2 b (yJ (yG (yQ e) I.ok.above))).trans (I.base.keep b o e n hb hx)
  ·obtain ⟨sl,e1⟩:=I.base.slot b o e n hb hx;exact ⟨sl,(hs.2 b (yJ (yG (yQ e) I.ok.above))).trans e1⟩
  ·obtain ⟨o',e1⟩:=I.base.there b o e hx;exact ⟨o',(hs.2 b (yJ (yG (yQ e) I.ok.above))).trans e1⟩
  ·by_cases hj:j=i
   ·subst hj;rw [hi] at e1;cases e1;rw [List.getElem?_set_self hiσ] at e2;cases e2;exact ⟨u,r,.inl ⟨hk,by simp⟩⟩
   ·rw [yk (Ne.symm hj)] at e2;obtain ⟨u',r',q⟩:=hl j y v' e1 e2 e3;refine ⟨u',r',?_⟩;rcases q with ⟨k,e⟩|⟨k,c,e,z⟩
    ·refine .inl ⟨k,?_⟩;have:y≠x:=λe=>hj (GO hN e1 (e▸hi));simp [this,e]
    ·exact .inr ⟨k,c,e,z.sameBut hs (cne y c e)⟩
  ·obtain ⟨w',z⟩:=I.cell y c e;exact ⟨w',z.sameBut hs (cne y c e)⟩
  ·obtain ⟨e,n,ne,nf,d⟩:=I.pin p hp;exact ⟨(hs.2 p.1 ne).trans e,n,ne,nf,d⟩
 ·have hfn:X.fn x=true:=by
   rcases hf with z|z
   ·exact z
   ·rw [z] at hk;cases hk
  obtain ⟨c,hc⟩:=I.ok.has x (.inl hk);obtain ⟨w',z⟩:=I.cell x c hc;refine wpAny_storeName_cell I.ok.kind hk hc z (λh' hc' hs=>?_);obtain ⟨oc,hoc,hocd⟩:=id z;refine h { s with heap:=h' } ⟨I.ok,I.os,I.bare,⟨λb o e n hb hx=>?_,λb o e n hb hx=>?_,I.base.free,λb o e hx=>?_,I.base.tups,I.base.frzs,I.base.tbls⟩,⟨m,hn.sameBut hs (Ne.symm (cne x c hc)),λj y v' e1 e2 e3=>?_⟩,λy c' e=>?_,I.free,I.freeC,λp hp=>?_,tracked ⟨oc,hoc,I.freeC x c hc⟩ hs,by simpa using I.len⟩ ⟨c,hs,.inr hc⟩
  ·exact (hs.2 b (yJ (yG (yQ e) (I.ok.cab x c hfn hc)))).trans (I.base.keep b o e n hb hx)
  ·obtain ⟨sl,e1⟩:=I.base.slot b o e n hb hx;exact ⟨sl,(hs.2 b (yJ (yG (yQ e) (I.ok.cab x c hfn hc)))).trans e1⟩
  ·obtain ⟨o',e1⟩:=I.base.there b o e hx;exact ⟨o',(hs.2 b (yJ (yG (yQ e) (I.ok.cab x c hfn hc)))).trans e1⟩
  ·by_cases hj:j=i
   ·subst hj;rw [hi] at e1;cases e1;rw [List.getElem?_set_self hiσ] at e2;cases e2;exact ⟨u,r,.inr ⟨.inl hk,c,hc,hc'⟩⟩
   ·rw [yk (Ne.symm hj)] at e2;obtain ⟨u',r',q⟩:=hl j y v' e1 e2 e3;refine ⟨u',r',?_⟩;rcases q with q|⟨k,c',e,z'⟩
    ·exact .inl q
    ·refine .inr ⟨k,c',e,z'.sameBut hs ?_⟩;rintro rfl;exact hj (GO hN e1 (I.ok.inj _ _ _ e hc▸hi))
  ·by_cases hcc:c'=c
   ·subst hcc;exact ⟨_,hc'⟩
   ·obtain ⟨w2,z2⟩:=I.cell y c' e;exact ⟨w2,z2.sameBut hs hcc⟩
  ·obtain ⟨e,n,ne,nf,d⟩:=I.pin p hp;refine ⟨(hs.2 p.1 ?_).trans e,n,ne,nf,d⟩;intro q;rw [q,hoc] at e;have q':oc=p.2:=Option.some.inj e;exact d w' (by rw [<- q'];exact hocd)
theorem Bq {M:Model}{i:Nat}{Q:Unit->Shared->Prop}(I:Inv X pins U H s)(hN:X.N.Nodup)(hi:X.N[i]?=some x)(hx:Loc X.env.scope x)(r:RelV v u)(h:∀ s',Inv X pins (U.set i (some v)) H s'->Q () s')(hf:X.fn x=true∨X.env.scope.names.lookup x=some .local:=by first|exact .inl rfl|exact .inr rfl|assumption):wpAny M A (storeName X.env x u) Q E s :=
 Br I hN hi hx r (λs' I' _=>h s' I') hf
theorem Inv.call' (I:Inv X pins U H s)(ho:s'.os=s.os)(u:Un (qa X.stack) ch H H' s.heap s'.heap)(hok:HOk X.prog X.w H' s'.heap)(hg:AllBare s'.gens)(hch:∀ b∈ch,(b∈X.ex∨X.s₀.heap.objs.size<=b)/\b≠X.env.locals/\(∀ x c,X.env.cells.lookup x=some c->c≠b)/\∀ p∈X.pn++pins,p.1≠b):Inv X pins U H' s':=by obtain ⟨h',g',d',t',o'⟩:=s';have e:o'=s.os:=ho;subst e;exact I.call (g':=g') (t':=t') (d':=d') u hok hg hch
end
abbrev XK:=Value->Option Addr->Hp->Prop
abbrev St:=List (Option V)
variable{U:St}
abbrev VK:=V->Hp->Prop
abbrev TE:=St->Hp->VK->Prop
variable{t te tl:TE}
abbrev TT:=St->Hp->(Bool->Hp->Prop)->Prop
variable{tc:TT}
abbrev TA:=St->Hp->(List V->Hp->Prop)->Prop
variable{ta:TA}
structure xD where
 nx:St->Hp->Prop
 rt:VK
 bk:St->Hp->Prop:=λ_ _=>False
 ct:St->Hp->Prop:=λ_ _=>False
variable{D:xD}
abbrev TS:=xD->St->Hp->Prop
variable{tb:TS}
def EP (X:Cx)(pins:List (Addr×Obj))(U:St)(Q:VK)(u:Value)(s':Shared):Prop:=∃ v H',Inv X pins U H' s'/\RelV v u/\Q v H'
def TP (X:Cx)(pins:List (Addr×Obj))(U:St)(Q:Bool->Hp->Prop)(b:Bool)(s':Shared):Prop:=∃ H',Inv X pins U H' s'/\Q b H'
def AP (X:Cx)(pins:List (Addr×Obj))(U:St)(Q:List V->Hp->Prop)(us:List Value)(s':Shared):Prop:=∃ vs H',Inv X pins U H' s'/\Vals vs us/\Q vs H'
def SP (X:Cx)(pins:List (Addr×Obj))(D:xD)(f:Flow)(s':Shared):Prop :=
 match f with
 | .next=>∃ σ' H',Inv X pins σ' H' s'/\D.nx σ' H'
 | .brk=>∃ σ' H',Inv X pins σ' H' s'/\D.bk σ' H'
 | .cont=>∃ σ' H',Inv X pins σ' H' s'/\D.ct σ' H'
 | .ret u=>∃ v σ' H',Inv X pins σ' H' s'/\RelV v u/\D.rt v H'
def PE (X:Cx)(e:Expr)(t:TE):Prop :=
 ∀(pins:List (Addr×Obj))(s:Shared)(U:St)(H:Hp)(Q:VK),Inv X pins U H s->t U H Q->wpAny (model X.prog X.w) X.A (eval e X.env) (EP X pins U Q) X.xe s
def PT (X:Cx)(e:Expr)(t:TT):Prop :=
 ∀(pins:List (Addr×Obj))(s:Shared)(U:St)(H:Hp)(Q:Bool->Hp->Prop),Inv X pins U H s->t U H Q->wpAny (model X.prog X.w) X.A (isTrue e X.env (eval e X.env)) (TP X pins U Q) X.xe s
def PW (X:Cx)(e:Expr)(t:TT):Prop :=
 ∀(whole:Sem Value)(pins:List (Addr×Obj))(s:Shared)(U:St)(H:Hp)(Q:Bool->Hp->Prop),Inv X pins U H s->t U H Q->wpAny (model X.prog X.w) X.A (isTrue e X.env whole) (TP X pins U Q) X.xe s
theorem PW.pt {t:TT}(h:PW X e t):PT X e t:=h _
def PA (X:Cx)(es:List Expr)(t:TA):Prop :=
 ∀(pos:Pos)(pins:List (Addr×Obj))(s:Shared)(U:St)(H:Hp)(Q:List V->Hp->Prop),Inv X pins U H s->t U H Q->wpAny (model X.prog X.w) X.A (spliced (backTo pos (starEach es X.env))) (AP X pins U Q) X.xe s
def PS (X:Cx)(st:Stmt)(t:TS):Prop :=
 ∀(pins:List (Addr×Obj))(s:Shared)(U:St)(H:Hp)(D:xD),Inv X pins U H s->t D U H->wpAny (model X.prog X.w) X.A (exec st X.env) (SP X pins D) X.xe s
def PSs (X:Cx)(st:List Stmt)(t:TS):Prop :=
 ∀(pins:List (Addr×Obj))(s:Shared)(U:St)(H:Hp)(D:xD),Inv X pins U H s->t D U H->wpAny (model X.prog X.w) X.A (execs st X.env) (SP X pins D) X.xe s
theorem z7 {t:Sem α}{Q Q':α->Shared->Prop}{M:Model}(h:wpAny M A t Q E s)(hQ:∀ a s,Q a s->Q' a s):wpAny M A t Q' E s:=wpAny_mono h hQ λ_ _ x=>x
section
variable {X:Cx}
theorem bin {a b:Expr}{ta tb:TE}(ha:PE X a ta)(hb:PE X b tb)(I:Inv X pins U H s)(h:ta U H λx H1=>tb U H1 λy H2=>R x y H2){Q:α->Shared->Prop}{f:Value->Value->Sem α}(hf:∀ v u s2 x y H2,Inv X pins U H2 s2->RelV x v->RelV y u->R x y H2->wpAny (model X.prog X.w) X.A (f v u) Q X.xe s2):wpAny (model X.prog X.w) X.A (eval a X.env) (λv s₁=>wpAny (model X.prog X.w) X.A (eval b X.env) (λu s₂=>wpAny (model X.prog X.w) X.A (f v u) Q X.xe s₂) X.xe s₁) X.xe s:=by refine z7 (ha pins s U H _ I h) λv s1 zq=>?_;obtain ⟨x,H1,I1,r1,q1⟩:=zq;refine z7 (hb pins s1 U H1 _ I1 q1) λu s2 zq=>?_;obtain ⟨y,H2,I2,r2,q2⟩:=zq;exact hf v u s2 x y H2 I2 r1 r2 q2
def xt (i:Nat):TE:=λU H Q=>∃ v,U[i]?=some (some v)/\Q v H
def tC (v:V):TE:=λ_ H Q=>Q v H
theorem ND {i:Nat}(hN:X.N[i]?=some x)(hv:Vis X.env.scope x)(hd:(x==("__debug__":Str))=false:=by decide)(hcd:(x==("__classdict__":Str))=false:=by decide):PE X (.Name x pos) (xt i):=by
 intro pins s U H Q I h;obtain ⟨v,e,h⟩:=h;obtain ⟨m,hn,hl⟩:=I.loc;obtain ⟨u,r,l⟩:=hl i x v hN e hv;have fin:EP X pins U Q u s:=⟨v,H,I,r,h⟩;rcases l with ⟨hk,hm⟩|⟨hk,c,hc,hcell⟩
 ·exact wpAny_Name (wpAny_loadName_local I.ok.kind hk hn hm fin) hd
 ·rcases hk with hk|hk
  ·exact wpAny_Name (wpAny_loadName_cell I.ok.kind hk hc hcell fin) hd
  ·exact wpAny_Name (wpAny_loadName_free I.ok.kind hk hc hcell fin hcd) hd
theorem z0 {i j pos}:PE X (.Constant (.int i) j pos) (tC (.int i)):=λ_ _ _ H _ I h=>wpAny_Constant_int ⟨.int i,H,I.tok _,⟨_,rfl⟩,h⟩
theorem zm {b j pos}:PE X (.Constant (.bool b) j pos) (tC (.bl b)):=λ_ _ _ H _ I h=>Constant_bool ⟨.bl b,H,I,rfl,h⟩
theorem Kf {j pos}:PE X (.Constant .none j pos) (tC .non):=λ_ _ _ H _ I h=>Constant_none ⟨.non,H,I,rfl,h⟩
theorem n6 {x j pos}:PE X (.Constant (.str x) j pos) (tC (.str x)):=λ_ _ _ H _ I h=>Calls.Constant_str ⟨.str x,H,I.tok _,⟨_,rfl⟩,h⟩
def Gl (X:Cx)(x:Str):Prop:=X.env.kindOf x=some .globalImplicit
theorem XR (I:Inv X pins U H s)(hg:Gl X x)(hm:X.mg x=some u)(h:Q u s)(hd:(x==("__debug__":Str))=false:=by decide):wpAny (model X.prog X.w) X.A (eval (.Name x pos) X.env) Q E s :=
 Calls.Name_function_global I.ok.kind hg (Calls.loadGlobal_global (by rw [I.ok.glob];exact I.mod.glob.keeps I.bk) hm h) hd
theorem jA (I:Inv X pins U H s)(hg:Gl X x)(hm:X.mg x=none)(hv:bootBuiltins x=some u)(h:Q u s)(hn:x ≠ "__name__":=by decide)(hd:(x==("__debug__":Str))=false:=by decide):wpAny (model X.prog X.w) X.A (eval (.Name x pos) X.env) Q E s:=by obtain ⟨mb,h1,h2⟩:=I.mod.blt;exact Calls.Name_function_global I.ok.kind hg (Calls.loadGlobal_builtin (by rw [I.ok.glob];exact I.mod.glob.keeps I.bk) hm (by rw [I.ok.blt];exact h1.keeps I.bk) ((h2 x hn).trans hv) h) hd
theorem wD (hg:Gl X x)(hm:X.mg x=some u)(r:RelV v u)(hd:(x==("__debug__":Str))=false:=by decide):PE X (.Name x pos) (tC v) :=
 λ_ _ _ H _ I h=>XR I hg hm ⟨v,H,I,r,h⟩ hd
theorem jg (hg:Gl X x)(hm:X.mg x=none)(hv:bootBuiltins x=some u)(r:RelV v u)(hn:x ≠ "__name__":=by decide)(hd:(x==("__debug__":Str))=false:=by decide):PE X (.Name x pos) (tC v) :=
 λ_ _ _ H _ I h=>jA I hg hm hv ⟨v,H,I,r,h⟩ hn hd
variable {a b:Expr}{ta tb:TE}{pos:Pos}
def PC (X:Cx)(op:CmpOp)(a b:Expr)(t:TE):Prop :=
 ∀(pins:List (Addr×Obj))(s:Shared)(U:St)(H:Hp)(Q:VK),Inv X pins U H s->t U H Q ->
  wpAny (model X.prog X.w) X.A (eval a X.env) (λv s₁=>wpAny (model X.prog X.w) X.A (eval b X.env) (λu s₂=>wpAny (model X.prog X.w) X.A (compareOp op v u) (EP X pins U Q) X.xe s₂) X.xe s₁) X.xe s
def tB (t:TE):TT:=λU H Q=>t U H λx H1=>∃ c,x = .bl c/\Q c H1
theorem Kn (h:PC X op a b t)(h1:behindInMarks op b=false:=by first|exact nobehind _ (by decide) (by decide)|rfl):PT X (.Compare a [op] [b] pos) (tB t):=by intro pins s U H Q I hw;refine wpAny_isTrue_Compare1 (z7 (h pins s U H _ I hw) λv s1 h1=>z7 h1 λu s2 h2=>z7 h2 λc s3 zq=>?_) h1;obtain ⟨x,H1,I1,r1,q1⟩:=zq;obtain ⟨d,rfl,q⟩:=q1;cases r1;exact wpAny_truthy_bool ⟨H1,I1,q⟩
variable {tA tB':TT}{rest:List Expr}
def tAnd (t u:TT):TT:=λU H Q=>t U H λc H1=>if c=true then u U H1 Q else Q false H1
def tOr (t u:TT):TT:=λU H Q=>t U H λc H1=>if c=true then Q true H1 else u U H1 Q
def tNot (t:TT):TT:=λU H Q=>t U H λc H1=>Q (!c) H1
theorem ZD (ha:PT X a tA):PW X (.BoolOp .And [a] pos) tA:=by
 intro wh pins s U H Q I h;refine isTrue_and (z7 (ha pins s U H Q I h) λc s1 e=>?_);cases c with
 |true=>exact isTrue_and_nil e
 |false=>exact e
theorem zI (ha:PT X a tA):PW X (.BoolOp .Or [a] pos) tA:=by
 intro wh pins s U H Q I h;refine isTrue_or (z7 (ha pins s U H Q I h) λc s1 e=>?_);cases c with
 |false=>exact isTrue_or_nil e
 |true=>exact e
theorem ZC (ha:PT X a tA)(hb:PW X (.BoolOp .And (b::rest) pos) tB'):PW X (.BoolOp .And (a::b::rest) pos) (tAnd tA tB'):=by
 intro wh pins s U H Q I h;refine isTrue_and (z7 (ha pins s U H _ I h) λc s1 zq=>?_);obtain ⟨H1,I1,q1⟩:=zq;cases c with
 |true=>exact hb wh pins s1 U H1 Q I1 q1
 |false=>exact ⟨H1,I1,q1⟩
theorem xZ (ha:PT X a tA)(hb:PW X (.BoolOp .Or (b::rest) pos) tB'):PW X (.BoolOp .Or (a::b::rest) pos) (tOr tA tB'):=by
 intro wh pins s U H Q I h;refine isTrue_or (z7 (ha pins s U H _ I h) λc s1 zq=>?_);obtain ⟨H1,I1,q1⟩:=zq;cases c with
 |true=>exact ⟨H1,I1,q1⟩
 |false=>exact hb wh pins s1 U H1 Q I1 q1
theorem qu (ha:PT X a tA):PT X (.UnaryOp .Not a pos) (tNot tA):=by intro pins s U H Q I h;exact isTrue_not (ha pins s U H (λc H1=>Q (!c) H1) I h)
def Bx (ta tb:TE):TE:=λU H Q=>ta U H λx H1=>∃ c,x = .bl c/\if c=true then tb U H1 Q else Q (.bl false) H1
def tOrV (ta tb:TE):TE:=λU H Q=>ta U H λx H1=>∃ c,x = .bl c/\if c=true then Q (.bl true) H1 else tb U H1 Q
def BE (ta:TE):TE:=λU H Q=>ta U H λx H1=>∃ c,x = .bl c/\Q (.bl (!c)) H1
theorem vF {op}(h:PE X a t):PE X (.BoolOp op [a] pos) t:=λpins s U H Q I hw=>BoolOp_one (h pins s U H Q I hw)
theorem vD (ha:PE X a ta)(hb:PE X (.BoolOp .And (b::rest) pos) tb):PE X (.BoolOp .And (a::b::rest) pos) (Bx ta tb):=by
 intro pins s U H Q I h;refine BoolOp_and (z7 (ha pins s U H _ I h) λv s1 zq=>?_);obtain ⟨x,H1,I1,r1,q1⟩:=zq;obtain ⟨c,rfl,q1⟩:=q1;cases r1;refine wpAny_truthy_bool ?_;cases c with
 |true=>exact hb pins s1 U H1 Q I1 q1
 |false=>exact ⟨.bl false,H1,I1,rfl,q1⟩
theorem pe_or (ha:PE X a ta)(hb:PE X (.BoolOp .Or (b::rest) pos) tb):PE X (.BoolOp .Or (a::b::rest) pos) (tOrV ta tb):=by
 intro pins s U H Q I h;refine BoolOp_or (z7 (ha pins s U H _ I h) λv s1 zq=>?_);obtain ⟨x,H1,I1,r1,q1⟩:=zq;obtain ⟨c,rfl,q1⟩:=q1;cases r1;refine wpAny_truthy_bool ?_;cases c with
 |false=>exact hb pins s1 U H1 Q I1 q1
 |true=>exact ⟨.bl true,H1,I1,rfl,q1⟩
theorem Kg (ha:PE X a ta):PE X (.UnaryOp .Not a pos) (BE ta):=by intro pins s U H Q I h;refine UnaryOp_ (z7 (ha pins s U H _ I h) λv s1 zq=>?_);obtain ⟨x,H1,I1,r1,q1⟩:=zq;obtain ⟨c,rfl,q1⟩:=q1;cases r1;exact not_of (wpAny_truthy_bool ⟨.bl (!c),H1,I1,rfl,q1⟩)
def tIf (t:TT)(ta tb:TE):TE:=λU H Q=>t U H λc H1=>if c=true then ta U H1 Q else tb U H1 Q
theorem Zv (hc:PT X c tA)(ha:PE X a ta)(hb:PE X b tb):PE X (.IfExp c a b pos) (tIf tA ta tb):=by
 intro pins s U H Q I h;refine wpAny_IfExp (z7 (hc pins s U H _ I h) λd s1 zq=>?_);obtain ⟨H1,I1,q1⟩:=zq;cases d with
 |true=>exact ha pins s1 U H1 Q I1 q1
 |false=>exact hb pins s1 U H1 Q I1 q1
end
def SqL (K:Fg)(H:Hp)(a:Addr)(xs:List V):Prop :=
 Rd H a (.lst xs) ∨
  ∃ (o:Obj) (its:Array Value) (n:Nat),K.lookup a=some o/\o.cls = .type "list"/\o.dict=none/\o.data = .seq its n/\its.size<=sizeLine/\Vals xs its.toList
def SqT (K:Fg)(H:Hp)(a:Addr)(xs:List V):Prop :=
 Rd H a (.tup xs) ∨
  ∃ (o:Obj) (its:Array Value) (n:Nat),K.lookup a=some o/\o.cls = .type "tuple"/\o.data = .seq its n/\its.size<=sizeLine/\Vals xs its.toList
def absV:Value->Option V
 | .none=>some .non
 | .bool b=>some (.bl b)
 | .int i _=>some (.int i)
 | .str x _=>some (.str x)
 | .bytes b _=>some (.byt b)
 | .float b _=>some (.flt b)
 | .ref a=>some (.ref a)
 | .type n=>some (.ty n)
 |_=>none
theorem RelV.abs {x:V}(r:RelV x u):absV u=some x:=by
 cases x with
 |non=>cases r;rfl
 |bl _=>cases r;rfl
 |int _=>obtain ⟨t,rfl⟩:=r;rfl
 |str _=>obtain ⟨t,rfl⟩:=r;rfl
 |byt _=>obtain ⟨t,rfl⟩:=r;rfl
 |flt _=>obtain ⟨t,rfl⟩:=r;rfl
 |ref _=>cases r;rfl
 |ty _=>cases r;rfl
theorem RelV.inj {x:V}(r:RelV x u)(q:RelV y u):x=y:=Option.some.inj (r.abs.symm.trans q.abs)
theorem Vals.inj:∀{xs ys:List V}{us:List Value},Vals xs us->Vals ys us->xs=ys
 |_,_,_,.nil,.nil=>rfl
 |_,_,_,.cons r t,.cons r' t'=>by rw [r.inj r',Vals.inj t t']
section
variable {X:Cx}{pins:List (Addr×Obj)}{U:St}{H:Hp}{s:Shared}{a:Addr}{xs ys:List V}
theorem SqL.of (h:H a=some (.lst xs)):SqL K H a xs:= .inl (.inl h)
theorem SqT.of (h:H a=some (.tup xs)):SqT K H a xs:= .inl (.inl h)
theorem Inv.list (I:Inv X pins U H s)(h:SqL X.K H a xs):∃ its:List Value,Vals xs its/\PlainL s.heap a its.toArray/\xs.length<=sizeLine:=by
 rcases h with h|⟨o,its,n,hk,hc,hd,hs,hz,r⟩
 ·obtain ⟨z,its,n,r,e⟩:=h.ok I.hok;exact ⟨its,r,⟨_,n,e,rfl,rfl,rfl⟩,z⟩
 ·refine ⟨its.toList,r,⟨o,n,I.kIn a o hk,hc,hd,by simpa using hs⟩,?_⟩;have e:=r.length;simp only [yi] at e;omega
theorem Inv.tuple (I:Inv X pins U H s)(h:SqT X.K H a xs):∃ its:List Value,Vals xs its/\IsTup s.heap a its.toArray/\xs.length<=sizeLine:=by
 rcases h with h|⟨o,its,n,hk,hc,hs,hz,r⟩
 ·obtain ⟨z,its,r,p⟩:=h.ok I.hok;exact ⟨its,r,p,z⟩
 ·refine ⟨its.toList,r,⟨o,I.kIn a o hk,hc,n,by simpa using hs⟩,?_⟩;have e:=r.length;simp only [yi] at e;omega
theorem Inv.list_inj (I:Inv X pins U H s)(h:SqL X.K H a xs)(h':SqL X.K H a ys):xs=ys:=by
 obtain ⟨its,r,⟨o,n,e,_,_,d⟩,_⟩:=I.list h;obtain ⟨its',r',⟨o',n',e',_,_,d'⟩,_⟩:=I.list h';rw [e] at e';cases e';rw [d] at d';injection d' with d1 _;have:its=its':=by simpa using congrArg Array.toList d1
 subst this;exact r.inj r'
theorem Inv.tuple_inj (I:Inv X pins U H s)(h:SqT X.K H a xs)(h':SqT X.K H a ys):xs=ys:=by
 obtain ⟨its,r,⟨o,e,_,n,d⟩,_⟩:=I.tuple h;obtain ⟨its',r',⟨o',e',_,n',d'⟩,_⟩:=I.tuple h';rw [e] at e';cases e';rw [d] at d';injection d' with d1 _;have:its=its':=by simpa using congrArg Array.toList d1
 subst this;exact r.inj r'
end
abbrev Cx.wish (X:Cx)(E:Value->Shared->Prop):Cx:={ X with xe:=E }
abbrev Cx.nox (X:Cx):Cx:=X.wish λ_ _=>False
theorem Cx.Ok.wish (ok:X.Ok)(E:Value->Shared->Prop):(X.wish E).Ok :=
 ⟨ok.mod,ok.kind,ok.glob,ok.blt,ok.above,ok.inj,ok.has,ok.cab,ok.hd,ok.frames,ok.stk,ok.exf,ok.bs,ok.bsz,ok.noex,ok.exfs,ok.funs,ok.frf,ok.tbs⟩
theorem Cx.Ok.unwish (ok:(X.wish E).Ok):X.Ok :=
 ⟨ok.mod,ok.kind,ok.glob,ok.blt,ok.above,ok.inj,ok.has,ok.cab,ok.hd,ok.frames,ok.stk,ok.exf,ok.bs,ok.bsz,ok.noex,ok.exfs,ok.funs,ok.frf,ok.tbs⟩
section
variable {X:Cx}{pins:List (Addr×Obj)}{U:St}{H:Hp}{s:Shared}{E:Value->Shared->Prop}
theorem Inv.wish (I:Inv X pins U H s)(E:Value->Shared->Prop):Inv (X.wish E) pins U H s:=⟨I.ok.wish E,I.os,I.bare,I.base,I.loc,I.cell,I.free,I.freeC,I.pin,I.hok,I.len⟩
theorem Inv.unwish (I:Inv (X.wish E) pins U H s):Inv X pins U H s:=⟨I.ok.unwish,I.os,I.bare,I.base,I.loc,I.cell,I.free,I.freeC,I.pin,I.hok,I.len⟩
theorem SP.unwish {f:Flow}(h:SP (X.wish E) pins D f s'):SP X pins D f s':=by
 cases f with
 |next=>obtain ⟨σ',H',I,q⟩:=h;exact ⟨σ',H',I.unwish,q⟩
 |brk=>obtain ⟨σ',H',I,q⟩:=h;exact ⟨σ',H',I.unwish,q⟩
 |cont=>obtain ⟨σ',H',I,q⟩:=h;exact ⟨σ',H',I.unwish,q⟩
 |ret u=>obtain ⟨v,σ',H',I,r,q⟩:=h;exact ⟨v,σ',H',I.unwish,r,q⟩
theorem PSs.nox {st:List Stmt}{t:TS}(h:PSs X.nox st t):PSs X st t:=λpins s U H D I hw =>
 wpAny_mono (h pins s U H D (I.wish _) hw) (λ_ _ q=>q.unwish) λ_ _ z=>False.elim z
end
section
variable {X:Cx}{st:Stmt}{rest:List Stmt}{t u:TS}{e:Expr}{te:TE}{pos:Pos}
def WE:TS:=λD U H=>D.nx U H
def tSeq (t u:TS):TS:=λD U H=>t { D with nx:=u D } U H
theorem m8:PSs X [] WE:=λ_ _ U H _ I h=>wpAny_execs_nil ⟨U,H,I,h⟩
theorem j8 (h1:PS X st t)(h2:PSs X rest u):PSs X (st::rest) (tSeq t u):=by
 intro pins s U H D I h;refine wpAny_execs_cons (z7 (h1 pins s U H { D with nx:=u D } I h) λf s1 q=>?_);cases f with
 |next=>obtain ⟨σ',H',I',q⟩:=q;exact h2 pins s1 σ' H' D I' q
 |ret v=>exact q
 |brk=>exact q
 |cont=>exact q
theorem j6 (h1:PS X st t):PSs X [st] t:=by
 intro pins s U H D I h;refine wpAny_execs_cons (z7 (h1 pins s U H D I h) λf s1 q=>?_);cases f with
 |next=>exact wpAny_execs_nil q
 |ret v=>exact q
 |brk=>exact q
 |cont=>exact q
theorem Inv.quiet (I:Inv X pins U H s):interactive X.env=false:=by simp [interactive,I.ok.kind]
def vO (te:TE):TS:=λD U H=>te U H λ_ H1=>D.nx U H1
theorem jI (he:PE X e te)(hs:swapsWith e none pos.line X.env=pure false:=by rfl):PS X (.Expr e pos) (vO te):=by intro pins s U H D I h;exact wpAny_Expr_any (z7 (he pins s U H _ I h) λv s1 ⟨x,H1,I1,r1,q1⟩=>⟨U,H1,I1,q1⟩) I.quiet hs
def tRet (te:TE):TS:=λD U H=>te U H D.rt
theorem w9 (he:PE X e te):PS X (.Return (some e) pos) (tRet te):=by intro pins s U H D I h;exact wpAny_Return_some (z7 (he pins s U H _ I h) λv s1 ⟨x,H1,I1,r1,q1⟩=>⟨x,U,H1,I1,r1,q1⟩)
def tIfS (c:TT)(t u:TS):TS:=λD U H=>c U H λb H1=>if b=true then t D U H1 else u D U H1
theorem m7 {a b:List Stmt}(hc:PT X c tc)(ha:PSs X a t)(hb:PSs X b u):PS X (.If c a b pos) (tIfS tc t u):=by
 intro pins s U H D I h;refine wpAny_If (z7 (hc pins s U H _ I h) λd s1 zq=>?_);obtain ⟨H1,I1,q1⟩:=zq;cases d with
 |true=>exact ha pins s1 U H1 D I1 q1
 |false=>exact hb pins s1 U H1 D I1 q1
def BC:TS:=λ_ _ _=>False
theorem xX:PS X st BC:=λ_ _ _ _ _ _ h=>h.elim
end
abbrev TG:=V->St->Hp->(St->Hp->Prop)->Prop
abbrev TGs:=List V->St->Hp->(St->Hp->Prop)->Prop
def PG (X:Cx)(target:Expr)(t:TG):Prop :=
 ∀(pins:List (Addr×Obj))(s:Shared)(U:St)(H:Hp)(v:V)(u:Value)(Q:St->Hp->Prop),Inv X pins U H s->RelV v u->t v U H Q ->
  wpAny (model X.prog X.w) X.A (assign target X.env u) (λ_ s'=>∃ σ' H',Inv X pins σ' H' s'/\Q σ' H') X.xe s
def PGs (X:Cx)(ts:List Expr)(t:TGs):Prop :=
 ∀(pins:List (Addr×Obj))(s:Shared)(U:St)(H:Hp)(vs:List V)(us:List Value)(Q:St->Hp->Prop),Inv X pins U H s->Vals vs us->t vs U H Q ->
  wpAny (model X.prog X.w) X.A (assignInOrder ((assignEach ts X.env).map (·.2)) us) (λ_ s'=>∃ σ' H',Inv X pins σ' H' s'/\Q σ' H') X.xe s
abbrev TSet:=V->V->V->Hp->(Hp->Prop)->Prop
def PSet (X:Cx)(t:TSet):Prop :=
 ∀(pins:List (Addr×Obj))(s:Shared)(U:St)(H:Hp)(o i v:V)(ov iv u:Value)(Q:Hp->Prop),Inv X pins U H s->RelV o ov->RelV i iv->RelV v u->t o i v H Q ->
  wpAny (model X.prog X.w) X.A (setItem ov iv u) (λ_ s'=>∃ H',Inv X pins U H' s'/\Q H') X.xe s
section
variable {X:Cx}{pos:Pos}
def xk (i:Nat):TG:=λv U H Q=>Q (U.set i (some v)) H
theorem k8 {i:Nat}(hN:X.N.Nodup)(hi:X.N[i]?=some x)(hx:Loc X.env.scope x)(hf:X.fn x=true∨X.env.scope.names.lookup x=some .local:=by first|exact .inl rfl|exact .inr rfl|assumption):PG X (.Name x pos) (xk i):=by intro pins s U H v u Q I r h;exact wpAny_assign_Name (Bq I hN hi hx r (λs' I'=>⟨_,H,I',h⟩) hf)
def gNil:TGs:=λvs U H Q=>vs=[]/\Q U H
def XF (t:TG)(u:TGs):TGs:=λvs U H Q=>∃ v r,vs=v::r/\t v U H λσ' H'=>u r σ' H' Q
theorem Ve:PGs X [] gNil:=by intro pins s U H vs us Q I r h;obtain ⟨e,h⟩:=h;subst e;cases r;exact assignInOrder_nil ⟨U,H,I,h⟩
theorem jG {t:TG}{u:TGs}(h1:PG X e t)(h2:PGs X es u)(hs:(assignEach (e::es) X.env).map (·.2)=assign e X.env::(assignEach es X.env).map (·.2):=by rfl):PGs X (e::es) (XF t u):=by
 intro pins s U H vs us Q I r h;obtain ⟨v,vr,e1,h⟩:=h;subst e1;cases r with
 |cons r rr=>rw [hs];refine assignInOrder_cons (z7 (h1 pins s U H _ _ _ I r h) λ_ s1 zq=>?_);obtain ⟨σ1,H1,I1,q1⟩:=zq;exact h2 pins s1 σ1 H1 _ _ Q I1 rr q1
def gTup (K:Fg)(n:Nat)(t:TGs):TG:=λv U H Q=>∃ a xs,v = .ref a/\SqT K H a xs/\xs.length=n/\t xs U H Q
theorem NE {k:Nat}{t:TGs}(hc:X.calm=true)(h:PGs X es t)(hn:(assignEach es X.env).length=n:=by rfl)(hst:(assignEach es X.env).findIdx? (·.1)=none:=by rfl):PG X (.Tuple es k pos) (gTup X.K n t):=by intro pins s U H v u Q I r hw;obtain ⟨a,xs,e1,hq,hl,hw⟩:=hw;subst e1;cases r;obtain ⟨its,rv,ht,hz⟩:=I.tuple hq;refine assign_Tuple_tuple (I.ok.hd hc) ht (by simp [hn,<- hl,rv.length]) hst λh' hx=>?_;have I1:Inv X pins U H { s with heap:=h' }:=I.kept (t':=s.toks) λb o e=>hx b o (yJ (yQ e)) e;exact h pins _ U H xs _ Q I1 (by simpa using rv) hw
def gSub (to ti:TE)(t:TSet):TG:=λv U H Q=>to U H λo H1=>ti U H1 λi H2=>t o i v H2 λH3=>Q U H3
theorem Kj {o i:Expr}{to ti:TE}{t:TSet}(ho:PE X o to)(hi:PE X i ti)(hs:PSet X t)
  (ha:∀ v,assign (.Subscript o i pos) X.env v=(do
   let ov <- holding [v] (eval o X.env)
   let iv <- holding [v,ov] (eval i X.env)
   standAt pos
   holding [v,ov,iv] (setItem ov iv v)
   release [v,ov,iv] []):=by intro _;rfl):PG X (.Subscript o i pos) (gSub to ti t):=by
 intro pins s U H v u Q I r h;rw [ha];refine yW (wpAny_holding (z7 (ho pins s U H _ I h) λov s1 zq=>?_));obtain ⟨x,H1,I1,r1,q1⟩:=zq;refine yW (wpAny_holding (z7 (hi pins s1 U H1 _ I1 q1) λiv s2 zq=>?_));obtain ⟨y,H2,I2,r2,q2⟩:=zq;refine yW (wpAny_standAt (yW (wpAny_holding (z7 (hs pins s2 U H2 x y v ov iv u _ I2 r1 r2 r q2) λ_ s3 zq=>?_))));obtain ⟨H3,I3,q3⟩:=zq;exact wpAny_release ⟨U,H3,I3,q3⟩
def zr (te:TE)(g:TG):TS:=λD U H=>te U H λx H1=>g x U H1 D.nx
theorem Vi {g:TG}(he:PE X e te)(hg:PG X tg g)(hs:swapsWithSole [tg] e pos.line X.env=pure false:=by rfl)(hw:swappedStores [tg] e X.env=pure none:=by rfl)(h1:(assignEach [tg] X.env).map (·.2)=[assign tg X.env]:=by rfl):PS X (.Assign [tg] e pos) (zr te g):=by intro pins s U H D I h;refine wpAny_Assign_stores (z7 (he pins s U H _ I h) λv s1 zq=>?_) hs hw;obtain ⟨x,H1,I1,r1,q1⟩:=zq;rw [h1];exact z7 (hg pins s1 U H1 x v _ I1 r1 q1) λ_ s2 q=>q
theorem p9 {i:Nat}{x:Str}{e:Expr}{te:TE}{pos':Pos}(hN:X.N.Nodup)(hi:X.N[i]?=some x)(hx:Loc X.env.scope x)(he:PE X e te)(hs:swapsWith e (some (.Name x pos')) pos.line X.env=pure false:=by rfl)(hf:X.fn x=true∨X.env.scope.names.lookup x=some .local:=by first|exact .inl rfl|exact .inr rfl|assumption):PS X (.Assign [.Name x pos'] e pos) (zr te (xk i)):=by intro pins s U H D I h;refine wpAny_Assign_Name (z7 (he pins s U H _ I h) λv s1 zq=>?_) hs;obtain ⟨y,H1,I1,r1,q1⟩:=zq;exact Bq I1 hN hi hx r1 (λs2 I2=>⟨_,H1,I2,q1⟩) hf
end
section
variable {X:Cx}{pos:Pos}
def BH (c:TT)(tb:TS):TS:=λD U H=>∃ W:Nat->St->Hp->Prop,(∃ m,W m U H)/\∀ m U H,W m U H ->
 c U H λb H1=>if b=true then ∃ N:St->Hp->Prop,(∀ σ' H',N σ' H'->∃ m',m'<m/\W m' σ' H')/\tb { D with nx:=N,ct:=N,bk:=D.nx } U H1 else D.nx U H1
theorem NX (hp:PassesOwn (model X.prog X.w) X.A X.env X.xe)(hc:PT X c tc)(hb:PSs X body tb):PS X (.While c body [] pos) (BH tc tb):=by
 intro pins s U H D I h;obtain ⟨W,⟨m0,w0⟩,turn⟩:=h;refine wpAny_While (codeAny_whileLoop (λn s'=>∃ σ' H',Inv X pins σ' H' s'/\W n σ' H') ?_ m0 ⟨U,H,I,w0⟩);rintro n s1 ⟨σ1,H1,I1,w1⟩;refine wpAny_passesOwn hp (z7 (hc pins s1 σ1 H1 _ I1 (turn n σ1 H1 w1)) λb s2 zq=>?_);obtain ⟨H2,I2,q2⟩:=zq;cases b with
 |true =>
  obtain ⟨N,hN,q2⟩:=q2;rw [if_pos rfl];refine wpAny_passesOwn hp (z7 (hb pins s2 σ1 H2 _ I2 q2) λf s3 q3=>?_);cases f with
  |next=>obtain ⟨σ3,H3,I3,n3⟩:=q3;obtain ⟨m',hm,w3⟩:=hN σ3 H3 n3;exact ⟨m',hm,σ3,H3,I3,w3⟩
  |cont=>obtain ⟨σ3,H3,I3,n3⟩:=q3;obtain ⟨m',hm,w3⟩:=hN σ3 H3 n3;exact ⟨m',hm,σ3,H3,I3,w3⟩
  |brk=>exact q3
  |ret v=>exact q3
 |false=>rw [if_neg yU];exact wpAny_execs_nil ⟨σ1,H2,I2,q2⟩
end
structure It where
 go:Nat->Hp->Prop
 yld:Nat->Hp->V->Hp->Prop
 stop:Nat->Hp->Prop
def xi (X:Cx)(pins:List (Addr×Obj))(H:Hp)(b:Addr):Prop :=
 H b=none/\b≠X.env.locals/\b∉X.fs/\(b∈X.ex∨X.s₀.heap.objs.size<=b)/\(∀ x c,X.env.cells.lookup x=some c->c≠b)/\∀ p∈X.pn++pins,p.1≠b
theorem Inv.fpOk (I:Inv X pins U H s)(hb:s.heap.objs.size<=b)(hn:H' b=none):xi X pins H' b:=by
 refine ⟨hn,Nat.ne_of_gt (yG I.lt hb),I.nofs hb,.inr (yr I.sz hb),λx c e z=>?_,λp hp z=>?_⟩
 ·obtain ⟨v,q⟩:=I.cell x c e;exact absurd (yG q.lt (by rw [z];exact hb)) (uO _)
 ·exact absurd (yG (yQ (I.pin p hp).1) (by rw [z];exact hb)) (uO _)
structure zQ (P:Program)(w:World)(K:Fg)(tg:Expr)(J:It)(fp:List Addr)(it:Addr)(tn:Nat->Heap->Prop):Prop where
 mem:it∈fp
 obj:∀ i h,tn i h->∀ b∈fp,∃ o,h.get? b=some o/\∀ v,o.data ≠ .cell v
 keep:∀ i h h',tn i h->(∀ b∈fp,∀ o,h.get? b=some o->h'.get? b=some o)->tn i h'
 item:∀(X:Cx),X.prog=P->X.w=w->X.K=K->X.calm=true->∀(i:Nat)(pins:List (Addr×Obj))(s:Shared)(U:St)(H:Hp)(E:Value->Shared->Prop),Inv X pins U H s->(∀ b∈fp,xi X pins H b)->tn i s.heap->J.go i H ->
  wpAny (model P w) X.A (pyNext (.ref it)) (λr s1=>∃ u,r=some u /\
   wpAny (model P w) X.A (letOwnedTupleGo tg (.ref it) u) (λ_ s2=>∃ x H',Inv X pins U H' s2/\RelV x u/\J.yld i H x H'/\tn (i+1) s2.heap/\∀ b∈fp,H' b=none) E s1) E s
 done:∀(X:Cx),X.prog=P->X.w=w->X.K=K->X.calm=true->∀(i:Nat)(pins:List (Addr×Obj))(s:Shared)(U:St)(H:Hp)(E:Value->Shared->Prop),Inv X pins U H s->(∀ b∈fp,xi X pins H b)->tn i s.heap->J.stop i H ->
  wpAny (model P w) X.A (pyNext (.ref it)) (λr s1=>r=none/\Inv X pins U H s1) E s
 self:∀(A:Around)(i:Nat)(s:Shared)(Q:Value->Shared->Prop)(E:Value->Shared->Prop),tn i s.heap->Q (.ref it) s->wpAny (model P w) A (pyIter (.ref it)) Q E s
abbrev TI:=St->Hp->(It->Hp->Prop)->Prop
def PIE (X:Cx)(pins:List (Addr×Obj))(U:St)(tg:Expr)(R:It->Hp->Prop)(itv:Value)(s2:Shared):Prop :=
 ∃(it:Addr)(fp:List Addr)(tn:Nat->Heap->Prop)(J:It)(H':Hp),itv = .ref it/\Inv X pins U H' s2/\zQ X.prog X.w X.K tg J fp it tn/\tn 0 s2.heap/\(∀ b∈fp,xi X pins H' b)/\R J H'
def PI (X:Cx)(tg iter:Expr)(wi:TI):Prop :=
 ∀(pins:List (Addr×Obj))(s:Shared)(U:St)(H:Hp)(R:It->Hp->Prop),Inv X pins U H s->wi U H R ->
  wpAny (model X.prog X.w) X.A (eval iter X.env) (λv s1=>wpAny (model X.prog X.w) X.A (pyIter v) (PIE X pins U tg R) X.xe s1) X.xe s
theorem XG {M:Model}{o:Obj}{n:String}{vs:Array Value}{Q:Unit->Shared->Prop}(ho:s.heap.get? it=some o)(hc:o.cls = .type n)(hd:o.data = .fields vs)(hn:["enumerate","zip","dict_itemiterator","dict_reverseitemiterator","odict_iterator","itertools.zip_longest","itertools.pairwise"].contains n=false)(hQ:Q () s):wpAny M A (letOwnedTupleGo tg (.ref it) u) Q E s:=by
  unfold letOwnedTupleGo;cases tg<;>first
    |exact yR hQ
    | (cases u <;> first
        |exact yR hQ
        | (refine yW (wpAny_load ho ?_)
           rw [hc,hd];show wpAny M A (if (["enumerate","zip","dict_itemiterator","dict_reverseitemiterator","odict_iterator","itertools.zip_longest","itertools.pairwise"].contains n&&vs[0]?==some (rawInt _))=true then _ else _) Q E s;rw [if_neg (by intro h;rw [hn,Bool.false_and] at h;cases h)];exact yR hQ))
def Itl (K:Fg)(a:Addr):It :=
 ⟨λi H=>∃ xs x,SqL K H a xs/\xs[i]?=some x,λi H x H'=>H'=H/\∀ xs,SqL K H a xs->xs[i]?=some x,λi H=>∃ xs,SqL K H a xs/\xs.length<=i⟩
def Itt (K:Fg)(a:Addr):It :=
 ⟨λi H=>∃ xs x,SqT K H a xs/\xs[i]?=some x,λi H x H'=>H'=H/\∀ xs,SqT K H a xs->xs[i]?=some x,λi H=>∃ xs,SqT K H a xs/\xs.length<=i⟩
def Itr (lo:Int)(n:Nat):It:=⟨λi _=>i<n,λi H x H'=>H'=H/\x = .int (lo+i),λi _=>n<=i⟩
theorem BL (a it:Addr):zQ P w K tg (Itl K a) [it] it (λi h=>h.IsListIter it a i) where
 mem:=by simp
 obj:=λi h st b hb=>by
  have e:b=it:=by simpa using hb
  subst e;obtain ⟨o,e,c,d⟩:=st;exact ⟨o,e,λv z=>by rw [d] at z;cases z⟩
 keep:=λi h h' st k=>st.at λo e=>k it (by simp) o e
 item:=by intro X hP hw hK hc i pins s U H E I hf st hg;subst hP hw hK;obtain ⟨xs,x,hq,hx⟩:=hg;obtain ⟨its,rv,p,hz⟩:=I.list hq;obtain ⟨u,hu,ru⟩:=rv.get hx;obtain ⟨f0,f1,f2,f3,f4,f5⟩:=hf it (by simp);refine wpAny_pyNext_list_item st p.isList (x:=u) (by simpa using hu) λh' st' sb=>?_;have I1:Inv X pins U H { s with heap:=h' }:=I.turned (t':=s.toks) (λb o hb e=>(sb.2 b hb).trans e) f0 f1 f3 f4 f5;obtain ⟨o,e,c,d⟩:=id st';exact ⟨u,rfl,XG (s:={ s with heap:=h' }) e c d (by decide) ⟨x,H,I1,ru,⟨rfl,λys hy=>by rw [I.list_inj hy hq];exact hx⟩,st',λb hb=>(hf b hb).1⟩⟩
 done:=by intro X hP hw hK hc i pins s U H E I hf st hg;subst hP hw hK;obtain ⟨xs,hq,hx⟩:=hg;obtain ⟨its,rv,p,hz⟩:=I.list hq;obtain ⟨f0,f1,f2,f3,f4,f5⟩:=hf it (by simp);have hl:=rv.length;exact wpAny_pyNext_list_end (I.ok.hd hc) st p.isList (by simp;omega) λh' eb=>⟨rfl,I.turned (t':=s.toks) (λb o hb e=>eb b o hb e) f0 f1 f3 f4 f5⟩
 self:=λ_ _ _ _ _ st h=>wpAny_pyIter_listiter st h
theorem BN (a it:Addr):zQ P w K tg (Itt K a) [it] it (λi h=>h.IsTupleIter it a i) where
 mem:=by simp
 obj:=λi h st b hb=>by
  have e:b=it:=by simpa using hb
  subst e;obtain ⟨o,e,c,d⟩:=st;exact ⟨o,e,λv z=>by rw [d] at z;cases z⟩
 keep:=λi h h' st k=>st.at λo e=>k it (by simp) o e
 item:=by intro X hP hw hK hc i pins s U H E I hf st hg;subst hP hw hK;obtain ⟨xs,x,hq,hx⟩:=hg;obtain ⟨its,rv,p,hz⟩:=I.tuple hq;obtain ⟨u,hu,ru⟩:=rv.get hx;obtain ⟨f0,f1,f2,f3,f4,f5⟩:=hf it (by simp);refine wpAny_pyNext_tuple_item st (show s.heap.IsTuple a its.toArray from p) (x:=u) (by simpa using hu) λh' st' sb=>?_;have I1:Inv X pins U H { s with heap:=h' }:=I.turned (t':=s.toks) (λb o hb e=>(sb.2 b hb).trans e) f0 f1 f3 f4 f5;obtain ⟨o,e,c,d⟩:=id st';exact ⟨u,rfl,XG (s:={ s with heap:=h' }) e c d (by decide) ⟨x,H,I1,ru,⟨rfl,λys hy=>by rw [I.tuple_inj hy hq];exact hx⟩,st',λb hb=>(hf b hb).1⟩⟩
 done:=by intro X hP hw hK hc i pins s U H E I hf st hg;subst hP hw hK;obtain ⟨xs,hq,hx⟩:=hg;obtain ⟨its,rv,p,hz⟩:=I.tuple hq;obtain ⟨f0,f1,f2,f3,f4,f5⟩:=hf it (by simp);have hl:=rv.length;exact wpAny_pyNext_tuple_end (I.ok.hd hc) st (show s.heap.IsTuple a its.toArray from p) (by simp;omega) λh' eb=>⟨rfl,I.turned (t':=s.toks) (λb o hb e=>eb b o hb e) f0 f1 f3 f4 f5⟩
 self:=λ_ _ _ _ _ st h=>wpAny_pyIter_tupleiter st h
theorem RT (it:Addr)(lo:Int)(n:Nat):zQ P w K tg (Itr lo n) [it] it (λi h=>IsRangeIter h it (lo+(i:Nat)*1) ((n:Int)-(i:Nat)) 1) where
 mem:=by simp
 obj:=λi h st b hb=>by
  have e:b=it:=by simpa using hb
  subst e;exact ⟨_,st,λv z=>by
   have z':Data.fields _=Data.cell v:=z;cases z'⟩
 keep:=λi h h' st k=>k it (by simp) _ st
 item:=by intro X hP hw hK hc i pins s U H E I hf st hg;subst hP hw hK;obtain ⟨f0,f1,f2,f3,f4,f5⟩:=hf it (by simp);have W:=Walks.range (prog:=X.prog) (w:=X.w) (I.ok.hd hc) it lo 1 n;refine W.item i s _ _ hg st λv h' tk hv st' kk=>?_;obtain ⟨t,rfl⟩:=hv;have I1:Inv X pins U H { s with heap:=h',toks:=tk }:=I.turned (λb o hb e=>kk b o (by simpa using hb) e) f0 f1 f3 f4 f5;refine ⟨_,rfl,XG (s:={ s with heap:=h',toks:=tk }) (n:="range_iterator") st' rfl rfl (by decide) ⟨.int (lo+i),H,I1,⟨t,?_⟩,⟨rfl,rfl⟩,st',λb hb=>(hf b hb).1⟩⟩;rw [Int.mul_one]
 done:=by intro X hP hw hK hc i pins s U H E I hf st hg;subst hP hw hK;obtain ⟨f0,f1,f2,f3,f4,f5⟩:=hf it (by simp);exact wpAny_pyNext_range_end (I.ok.hd hc) st (by have:n<=i:=hg;omega) λh' eb=>⟨rfl,I.turned (t':=s.toks) (λb o hb e=>eb b o hb e) f0 f1 f3 f4 f5⟩
 self:=λ_ _ _ _ _ st h=>wpAny_pyIter_rangeiter st h
section
variable {X:Cx}{tg:Expr}
def XH (K:Fg)(tl:TE):TI:=λU H R=>tl U H λx H1=>∃ a,x = .ref a/\(∃ xs,SqL K H1 a xs)/\R (Itl K a) H1
def iTup (K:Fg)(tl:TE):TI:=λU H R=>tl U H λx H1=>∃ a,x = .ref a/\(∃ xs,SqT K H1 a xs)/\R (Itt K a) H1
theorem NH (hl:PE X l tl):PI X tg l (XH X.K tl):=by
 intro pins s U H R I h;refine z7 (hl pins s U H _ I h) λv s1 zq=>?_;obtain ⟨x,H1,I1,r1,q1⟩:=zq;obtain ⟨a,e,⟨xs,hq⟩,q⟩:=q1;subst e;cases r1;obtain ⟨its,rv,p,hz⟩:=I1.list hq;refine wpAny_pyIter_list p.isList ?_;refine ⟨s1.heap.objs.size,[s1.heap.objs.size],_,_,H1,rfl,I1.kept (t':=s1.toks) λb o e=>yV _ e,BL a _,⟨_,yI _ rfl,rfl,rfl⟩,λb hb=>?_,q⟩;have e:b=s1.heap.objs.size:=by simpa using hb
 subst e;exact I1.fpOk (yY _) (I1.hok.fresh (yY _))
theorem NK (hl:PE X l tl):PI X tg l (iTup X.K tl):=by
 intro pins s U H R I h;refine z7 (hl pins s U H _ I h) λv s1 zq=>?_;obtain ⟨x,H1,I1,r1,q1⟩:=zq;obtain ⟨a,e,⟨xs,hq⟩,q⟩:=q1;subst e;cases r1;obtain ⟨its,rv,p,hz⟩:=I1.tuple hq;refine wpAny_pyIter_tuple (show s1.heap.IsTuple a its.toArray from p) ?_;refine ⟨s1.heap.objs.size,[s1.heap.objs.size],_,_,H1,rfl,I1.kept (t':=s1.toks) λb o e=>yV _ e,BN a _,⟨_,yI _ rfl,rfl,rfl⟩,λb hb=>?_,q⟩;have e:b=s1.heap.objs.size:=by simpa using hb
 subst e;exact I1.fpOk (yY _) (I1.hok.fresh (yY _))
theorem KM {R:It->Hp->Prop}{hi:Int}{t u v:Tok}{tk:Nat}(I:Inv X pins U H s)(h1:-(2 ^ 62)<=lo)(h2:lo<2 ^ 62)(h3:-(2 ^ 62)<=hi)(h4:hi<2 ^ 62)(q:R (Itr lo (hi-lo).toNat) H):wpAny (model X.prog X.w) X.A (pyIter (.ref s.heap.objs.size)) (PIE X pins U tg R) E { s with heap:=s.heap.push { cls:= .type "range",data:= .fields #[.int lo t,.int hi u,.int 1 v] },toks:=tk }:=by
 refine wpAny_pyIter_range (IsRange.new ..) (small_one h1 h2 h3 h4) ?_;have I1:Inv X pins U H { s with heap:=s.heap.push { cls:= .type "range",data:= .fields #[.int lo t,.int hi u,.int 1 v] },toks:=tk }:=I.kept λb o e=>yV _ e;refine ⟨(s.heap.push { cls:= .type "range",data:= .fields #[.int lo t,.int hi u,.int 1 v] }).objs.size,[(s.heap.push { cls:= .type "range",data:= .fields #[.int lo t,.int hi u,.int 1 v] }).objs.size],_,_,H,rfl,
  I1.kept (t':=tk) λb o e=>yV _ e,RT _ lo (hi-lo).toNat,?_,λb hb=>?_,q⟩
 ·have e1:lo+((0:Nat):Int)*1=lo:=by simp
  have e2:(((hi-lo).toNat:Nat):Int)-((0:Nat):Int)=Builtin.Range.rangeSize lo hi 1:=by rw [rangeSize_one];split<;>omega
  show IsRangeIter _ _ (lo+((0:Nat):Int)*1) ((((hi-lo).toNat:Nat):Int)-((0:Nat):Int)) 1;rw [e1,e2];exact yI _ rfl
 ·have e:b=(s.heap.push { cls:= .type "range",data:= .fields #[.int lo t,.int hi u,.int 1 v] }).objs.size:=by simpa using hb
  subst e;exact I1.fpOk (yY _) (I1.hok.fresh (yY _))
def Jw (ta:TA):TI:=λU H R=>ta U H λvs H1=>∃ j:Int,vs=[.int j]/\-(2 ^ 62)<=j/\j<2 ^ 62/\R (Itr 0 j.toNat) H1
def Gm (ta:TA):TI:=λU H R=>ta U H λvs H1=>∃ i j:Int,vs=[.int i,.int j]/\(-(2 ^ 62)<=i/\i<2 ^ 62/\-(2 ^ 62)<=j/\j<2 ^ 62)/\R (Itr i (j-i).toNat) H1
theorem wE {a:Expr}(hg:Gl X "range")(hm:X.mg "range"=none)(ha:PA X [a] ta)(hs:starEach [a] X.env=[(false,eval a X.env)]:=by rfl):PI X tg (.Call (.Name "range" p) [a] [] pos) (Jw ta):=by
 intro pins s U H R I h;refine Call_ (jA I hg hm boot_range (PyProof.Rows.callWith_type1 (z7 (ha pos pins s U H _ I h) λus s1 zq=>?_) hs rfl));obtain ⟨vs,H1,I1,r1,q1⟩:=zq;obtain ⟨j,e,q1,q2,q⟩:=q1;subst e;cases r1 with
 |cons r rr=>cases rr;obtain ⟨t,rfl⟩:=r;exact call_range_1 (KM I1 (by omega) (by omega) q1 q2 (by simpa using q))
theorem NI {a b:Expr}(hg:Gl X "range")(hm:X.mg "range"=none)(ha:PA X [a,b] ta)(hs:starEach [a,b] X.env=[(false,eval a X.env),(false,eval b X.env)]:=by rfl)(hs2:starEach [b] X.env=[(false,eval b X.env)]:=by rfl):PI X tg (.Call (.Name "range" p) [a,b] [] pos) (Gm ta):=by
 intro pins s U H R I h;refine Call_ (jA I hg hm boot_range (PyProof.Rows.callWith_type1 (z7 (ha pos pins s U H _ I h) λus s1 ⟨vs,H1,I1,r1,q1⟩=>?_) (by rw [hs,hs2]) (by rw [hs2];rfl)));obtain ⟨i,j,e,⟨q1,q2,q3,q4⟩,q⟩:=q1;subst e;cases r1 with
 |cons r rr =>
  cases rr with
  |cons r' rr=>cases rr;obtain ⟨t,rfl⟩:=r;obtain ⟨t',rfl⟩:=r';exact call_range_2 (KM I1 q1 q2 q3 q4 q)
def tFor (wi:TI)(g:TG)(tb:TS):TS:=λD U H=>wi U H λJ H1=>∃ W:Nat->Nat->St->Hp->Prop,(∃ m,W 0 m U H1)/\∀ i m U H,W i m U H ->
 (J.stop i H/\D.nx U H)∨(J.go i H/\∃ N:St->Hp->Prop,(∀ σ' H',N σ' H'->∃ m',m'<m/\W (i+1) m' σ' H')/\∀ x H',J.yld i H x H'->g x U H' λσ2 H2=>tb { D with nx:=N,ct:=N,bk:=D.nx } σ2 H2)
def QJ (fp:List Addr)(h:Heap):List (Addr×Obj):=fp.filterMap λb=>(h.get? b).map λo=>(b,o)
theorem Zi {o:Obj}(hb:b∈fp)(e:h.get? b=some o):(b,o)∈QJ fp h:=uT.mpr ⟨b,hb,by rw [e];rfl⟩
theorem MX {p:Addr×Obj}(hp:p∈QJ fp h):p.1∈fp/\h.get? p.1=some p.2:=by
 obtain ⟨b,hb,e⟩:=uT.mp hp;cases q:h.get? b with
 |none=>rw [q] at e;cases e
 |some o=>rw [q] at e;have e':(b,o)=p:=Option.some.inj e;subst e';exact ⟨hb,q⟩
theorem Inv.pinned (I:Inv X pins U H s)(hf:∀ b∈fp,xi X pins H b)(ho:∀ b∈fp,∃ o,s.heap.get? b=some o/\∀ v,o.data ≠ .cell v):Inv X (pins++QJ fp s.heap) U H s :=
 I.pins_of λp hp=>(ym.mp hp).elim (λz=>I.pin p (yq _ z)) λz=>by
  obtain ⟨hb,e⟩:=MX z;obtain ⟨f0,f1,f2,_⟩:=hf p.1 hb;obtain ⟨o,e',d⟩:=ho p.1 hb;rw [e] at e';cases e';exact ⟨e,f0,f1,f2,d⟩
theorem Inv.unpinned {pl:List (Addr×Obj)}(I:Inv X (pins++pl) U H s):Inv X pins U H s:=I.pins_of λp hp=>I.pin p (yq _ (List.mem_append_left _ hp))
theorem jJ {iter:Expr}{wi:TI}{g:TG}(hp:PassesOwn (model X.prog X.w) X.A X.env X.xe)(hc:X.calm=true)(hi:PI X tg iter wi)(hg:PG X tg g)(hb:PSs X body tb)(hs:∀ x,foldedSetIterable iter X.env x=pure x:=by intro _;rfl):PS X (.For tg iter body [] pos) (tFor wi g tb):=by
 intro pins s U H D I h;refine wpAny_For (z7 (hi pins s U H _ I h) λv s1 h1=>z7 h1 λitv s2 h2=>?_) hs;obtain ⟨it,fp,tn,J,H2,e,I2,T,st2,f2,W,⟨m0,w0⟩,turn⟩:=h2;subst e
 -- what stays true of the iterator's objects through the loop
 have stat:∀{H':Hp},(∀ b∈fp,H' b=none)->∀ b∈fp,xi X pins H' b:=λhn b hb=>⟨hn b hb,(f2 b hb).2⟩;refine codeAny_forLoop_any (λn s'=>∃ i σ' H',Inv X pins σ' H' s'/\tn i s'.heap/\(∀ b∈fp,H' b=none)/\W i n σ' H') ?_ m0 ⟨0,U,H2,I2,st2,λb hb=>(f2 b hb).1,w0⟩;rintro n s3 ⟨i,σ3,H3,I3,st3,fr3,w3⟩;rcases turn i n σ3 H3 w3 with ⟨stop,qn⟩|⟨go,N,hN,step⟩
 ·refine wpAny_passesOwn hp (z7 (T.done X rfl rfl rfl hc i pins s3 σ3 H3 X.xe I3 (stat fr3) st3 stop) λr s4 zq=>?_);obtain ⟨hr,I4⟩:=zq;subst hr;exact wpAny_execs_nil ⟨σ3,H3,I4,qn⟩
 ·refine wpAny_passesOwn hp (z7 (T.item X rfl rfl rfl hc i pins s3 σ3 H3 X.xe I3 (stat fr3) st3 go) λr s4 zq=>?_);obtain ⟨u,hr,h4⟩:=zq;subst hr;refine wpAny_passesOwn hp (z7 h4 λ_ s5 zq=>?_);obtain ⟨x,H5,I5,r5,y5,st5,fr5⟩:=zq;have I5':=I5.pinned (stat fr5) (T.obj _ _ st5);refine wpAny_passesOwn hp (z7 (hg _ s5 σ3 H5 x u _ I5' r5 (step x H5 y5)) λ_ s6 zq=>?_);obtain ⟨σ6,H6,I6,q6⟩:=zq;refine wpAny_passesOwn hp (z7 (hb _ s6 σ6 H6 _ I6 q6) λf s7 q7=>?_);have again:∀{σ7:St}{H7:Hp},Inv X (pins++QJ fp s5.heap) σ7 H7 s7->N σ7 H7->∃ m,m<n/\∃ i σ' H',Inv X pins σ' H' s7/\tn i s7.heap/\(∀ b∈fp,H' b=none)/\W i m σ' H':=λ{σ7 H7} I7 n7=>by
   obtain ⟨m',hm,w7⟩:=hN σ7 H7 n7;refine ⟨m',hm,i+1,σ7,H7,I7.unpinned,T.keep _ _ _ st5 λb hb o e=>(I7.pin (b,o) (yq _ (yq _ (Zi hb e)))).1,λb hb=>?_,w7⟩;obtain ⟨o,e,d⟩:=T.obj _ _ st5 b hb;exact (I7.pin (b,o) (yq _ (yq _ (Zi hb e)))).2.1
  cases f with
  |next=>obtain ⟨σ7,H7,I7,n7⟩:=q7;exact again I7 n7
  |cont=>obtain ⟨σ7,H7,I7,n7⟩:=q7;exact again I7 n7
  |brk=>obtain ⟨σ7,H7,I7,q7⟩:=q7;exact ⟨σ7,H7,I7.unpinned,q7⟩
  |ret v=>obtain ⟨x7,σ7,H7,I7,r7,q7⟩:=q7;exact ⟨x7,σ7,H7,I7.unpinned,r7,q7⟩
end
theorem Ds {g:TG}(Pv:Nat->St->Hp->Prop)(h0:Pv 0 U H)(hs:∀ i U H,i<n->Pv i U H->g (.int (lo+i)) U H λσ2 H2=>tb { D with nx:=Pv (i+1),ct:=Pv (i+1),bk:=D.nx } σ2 H2)(hd:∀ U H,Pv n U H->D.nx U H):∃ W:Nat->Nat->St->Hp->Prop,(∃ m,W 0 m U H)/\∀ i m U H,W i m U H -> ((Itr lo n).stop i H/\D.nx U H)∨((Itr lo n).go i H/\∃ N:St->Hp->Prop,(∀ σ' H',N σ' H'->∃ m',m'<m/\W (i+1) m' σ' H')/\∀ x H',(Itr lo n).yld i H x H'->g x U H' λσ2 H2=>tb { D with nx:=N,ct:=N,bk:=D.nx } σ2 H2):=by
 refine ⟨λi m U H=>m=n-i/\i<=n/\Pv i U H,⟨n,by simp,yo _,h0⟩,?_⟩;rintro i m U H ⟨rfl,hi,p⟩;by_cases hlt:i<n
 ·refine .inr ⟨hlt,Pv (i+1),λσ' H' p'=>⟨n-(i+1),by omega,rfl,hlt,p'⟩,λx H' y=>?_⟩;obtain ⟨e,y⟩:=y;subst e y;exact hs i U _ hlt p
 ·have e:i=n:=by omega
  subst e;exact .inl ⟨yY _,hd U H p⟩
abbrev R2:=V->V->Hp->VK->Prop
variable{r r':R2}
def OpR (X:Cx)(f:Value->Value->Sem Value)(r:R2):Prop :=
 ∀(pins:List (Addr×Obj))(s:Shared)(U:St)(H:Hp)(x y:V)(v u:Value)(Q:VK),Inv X pins U H s->RelV x v->RelV y u->r x y H Q ->
  wpAny (model X.prog X.w) X.A (f v u) (EP X pins U Q) X.xe s
def UnR (X:Cx)(f:Value->Sem Value)(r:V->Hp->VK->Prop):Prop :=
 ∀(pins:List (Addr×Obj))(s:Shared)(U:St)(H:Hp)(x:V)(v:Value)(Q:VK),Inv X pins U H s->RelV x v->r x H Q ->
  wpAny (model X.prog X.w) X.A (f v) (EP X pins U Q) X.xe s
def CallR (X:Cx)(f:Value)(r:List V->Hp->VK->Prop):Prop :=
 ∀(pins:List (Addr×Obj))(s:Shared)(U:St)(H:Hp)(xs:List V)(us:List Value)(Q:VK),Inv X pins U H s->Vals xs us->r xs H Q ->
  wpAny (model X.prog X.w) X.A (call f us) (EP X pins U Q) X.xe s
def TruR (X:Cx)(r:V->Hp->(Bool->Hp->Prop)->Prop):Prop :=
 ∀(pins:List (Addr×Obj))(s:Shared)(U:St)(H:Hp)(x:V)(v:Value)(Q:Bool->Hp->Prop),Inv X pins U H s->RelV x v->r x H Q ->
  wpAny (model X.prog X.w) X.A (truthy v) (TP X pins U Q) X.xe s
def tOp (r:R2)(ta tb:TE):TE:=λU H Q=>ta U H λx H1=>tb U H1 λy H2=>r x y H2 Q
def tUn (r:V->Hp->VK->Prop)(ta:TE):TE:=λU H Q=>ta U H λx H1=>r x H1 Q
def rI (C:Int->Int->Prop)(g:Int->Int->V):R2:=λx y H Q=>∃ i j,x = .int i/\y = .int j/\C i j/\Q (g i j) H
def rI0 (g:Int->Int->V):R2:=λx y H Q=>∃ i j,x = .int i/\y = .int j/\Q (g i j) H
def rU (g:Int->V):V->Hp->VK->Prop:=λx H Q=>∃ i,x = .int i/\Q (g i) H
section
variable {X:Cx}{a b c:Expr}{ta tb tc:TE}{pos:Pos}
theorem binT (ha:PE X a ta)(hb:PE X b tb)(I:Inv X pins U H s)(h:ta U H λx H1=>tb U H1 λy H2=>R x y H2)(hf:∀ v u s2 x y H2,Inv X pins U H2 s2->RelV x v->RelV y u->R x y H2->wpAny (model X.prog X.w) X.A (f v u) Q X.xe s2):wpAny (model X.prog X.w) X.A (eval a X.env) (λv s₁=>wpAny (model X.prog X.w) X.A (eval b X.env) (λu s₂=>wpAny (model X.prog X.w) X.A (f v u) Q X.xe s₂) X.xe s₁) X.xe s:=by refine z7 (ha pins s U H _ I h) λv s1 zq=>?_;obtain ⟨x,H1,I1,r1,q1⟩:=zq;refine z7 (hb pins s1 U H1 _ I1 q1) λu s2 zq=>?_;obtain ⟨y,H2,I2,r2,q2⟩:=zq;exact hf v u s2 x y H2 I2 r1 r2 q2
theorem w4 {op:Operator}(ho:OpR X (binaryOp op) r)(ha:PE X a ta)(hb:PE X b tb):PE X (.BinOp a op b pos) (tOp r ta tb):=by intro pins s U H Q I h;exact wpAny_BinOp (binT ha hb I h λv u s2 x y H2 I2 rx ry q=>ho pins s2 U H2 x y v u Q I2 rx ry q)
theorem Zx {op:UnaryOp}{r:V->Hp->VK->Prop}(ho:UnR X (unaryOp op) r)(ha:PE X a ta):PE X (.UnaryOp op a pos) (tUn r ta):=by intro pins s U H Q I h;exact UnaryOp_ (z7 (ha pins s U H _ I h) λv s1 ⟨x,H1,I1,r1,q1⟩=>ho pins s1 U H1 x v Q I1 r1 q1)
theorem opI {C:Int->Int->Prop}{g:Int->Int->Int}(rule:∀(i j:Int)(t u:Tok)(s:Shared)(Q:Value->Shared->Prop)(E:Value->Shared->Prop),C i j->Q (.int (g i j) s.toks) { s with toks:=s.toks+1 }->wpAny (model X.prog X.w) X.A (f (.int i t) (.int j u)) Q E s):OpR X f (rI C λi j=> .int (g i j)):=by intro pins s U H x y v u Q I rx ry h;obtain ⟨i,j,rfl,rfl,hc,q⟩:=h;obtain ⟨t,rfl⟩:=rx;obtain ⟨t',rfl⟩:=ry;exact rule i j t t' s _ _ hc ⟨.int (g i j),H,I.tok _,⟨_,rfl⟩,q⟩
theorem opI0 {g:Int->Int->Int}(rule:∀(i j:Int)(t u:Tok)(s:Shared)(Q:Value->Shared->Prop)(E:Value->Shared->Prop),Q (.int (g i j) s.toks) { s with toks:=s.toks+1 }->wpAny (model X.prog X.w) X.A (f (.int i t) (.int j u)) Q E s):OpR X f (rI0 λi j=> .int (g i j)):=by intro pins s U H x y v u Q I rx ry h;obtain ⟨i,j,rfl,rfl,q⟩:=h;obtain ⟨t,rfl⟩:=rx;obtain ⟨t',rfl⟩:=ry;exact rule i j t t' s _ _ ⟨.int (g i j),H,I.tok _,⟨_,rfl⟩,q⟩
theorem opB0 {g:Int->Int->Bool}(rule:∀(i j:Int)(t u:Tok)(s:Shared)(Q:Value->Shared->Prop)(E:Value->Shared->Prop),Q (.bool (g i j)) s->wpAny (model X.prog X.w) X.A (f (.int i t) (.int j u)) Q E s):OpR X f (rI0 λi j=> .bl (g i j)):=by intro pins s U H x y v u Q I rx ry h;obtain ⟨i,j,rfl,rfl,q⟩:=h;obtain ⟨t,rfl⟩:=rx;obtain ⟨t',rfl⟩:=ry;exact rule i j t t' s _ _ ⟨.bl (g i j),H,I,rfl,q⟩
def zL (i j:Int):Prop:=0<=j/\j<=1000000/\i.natAbs<2 ^ 64
def CMul (i j:Int):Prop:=(-(2 ^ 64)<i/\i<2 ^ 64)∨(-(2 ^ 64)<j/\j<2 ^ 64)
theorem CMul.ok {i j:Int}(h:CMul i j):IntMulOk i j:=by
 rcases h with ⟨h1,h2⟩|⟨h1,h2⟩
 ·exact .of_left (intBits_le_64 h1 h2)
 ·exact .of_right (intBits_le_64 h1 h2)
theorem op_add:OpR X (binaryOp .Add) (rI0 λi j=> .int (i+j)):=opI0 λ_ _ _ _ _ _ _ q=>add_int q
theorem zl:OpR X (binaryOp .Sub) (rI0 λi j=> .int (i-j)):=opI0 λ_ _ _ _ _ _ _ q=>sub_int q
theorem wB:OpR X (binaryOp .Mult) (rI CMul λi j=> .int (i*j)):=opI λ_ _ _ _ _ _ _ hc q=>mul_int q hc.ok
theorem vA:OpR X (binaryOp .Mod) (rI (λ_ j=>0<j) λi j=> .int (i % j)):=opI λi j _ _ _ _ _ hc q=>by
 have h1:(0:Int)<j:=hc;exact mod_int' (by omega) (by rw [Int.fmod_eq_emod_of_nonneg i (by omega)];exact q)
theorem xB:OpR X (binaryOp .Pow) (rI zL λi j=> .int (i ^ j.toNat)):=opI λ_ _ _ _ _ _ _ hc q=>pow_int_small hc.1 hc.2.1 hc.2.2 q
theorem unI {f:Value->Sem Value}{g:Int->Int}(rule:∀(i:Int)(t:Tok)(s:Shared)(Q:Value->Shared->Prop)(E:Value->Shared->Prop),Q (.int (g i) s.toks) { s with toks:=s.toks+1 }->wpAny (model X.prog X.w) X.A (f (.int i t)) Q E s):UnR X f (rU λi=> .int (g i)):=by intro pins s U H x v Q I rx h;obtain ⟨i,rfl,q⟩:=h;obtain ⟨t,rfl⟩:=rx;exact rule i t s _ _ ⟨.int (g i),H,I.tok _,⟨_,rfl⟩,q⟩
theorem ZO:UnR X (unaryOp .USub) (rU λi=> .int (-i)):=unI λ_ _ _ _ _ q=>neg_int q
end
section
variable {X:Cx}{a b c:Expr}{ta tb tc:TE}{pos:Pos}
theorem Jr {Q:VK}{k k':Bool}(I:Inv X pins U H s)(q:Q (.bl k) H)(e:k=k'):EP X pins U Q (.bool k') s:=by subst e;exact ⟨.bl k,H,I,rfl,q⟩
theorem QD:OpR X (compareOp .Lt) (rI0 λi j=> .bl (decide (i<j))):=opB0 λ_ _ _ _ _ _ _ q=>lt_int q
theorem wA:OpR X (compareOp .LtE) (rI0 λi j=> .bl (decide (i<=j))):=opB0 λ_ _ _ _ _ _ _ q=>le_int q
theorem GS:OpR X (compareOp .Gt) (rI0 λi j=> .bl (decide (j<i))):=opB0 λ_ _ _ _ _ _ _ q=>gt_int q
theorem Zm:OpR X (compareOp .GtE) (rI0 λi j=> .bl (decide (j<=i))):=opB0 λ_ _ _ _ _ _ _ q=>ge_int q
theorem Ng:OpR X (compareOp .Is) (λx y H Q=>y = .non/\Q (.bl (decide (x = .non))) H):=by
 intro pins s U H x y v u Q I rx ry h;obtain ⟨rfl,q⟩:=h;cases ry;refine is_none_gen (Jr I q ?_);cases x<;>first
  |(cases rx;rfl)
  |(obtain ⟨t,rfl⟩:=rx;rfl)
theorem Nm:OpR X (compareOp .IsNot) (λx y H Q=>y = .non/\Q (.bl (!decide (x = .non))) H):=by
 intro pins s U H x y v u Q I rx ry h;obtain ⟨rfl,q⟩:=h;cases ry;refine isnot_none_gen (Jr I q ?_);cases x<;>first
  |(cases rx;rfl)
  |(obtain ⟨t,rfl⟩:=rx;rfl)
theorem OpR.or (h:OpR X f r)(h':OpR X f r'):OpR X f (λx y H Q=>r x y H Q∨r' x y H Q):=by
 intro pins s U H x y v u Q I rx ry q;rcases q with q|q
 ·exact h pins s U H x y v u Q I rx ry q
 ·exact h' pins s U H x y v u Q I rx ry q
theorem m6 (b:Expr)(h:op ≠ .In:=by decide)(h2:op ≠ .NotIn:=by decide):behindInMarks op b=false:=by
 have e1:(op==CmpOp.In)=false:=by cases op<;>first|rfl|exact absurd rfl h
 have e2:(op==CmpOp.NotIn)=false:=by cases op<;>first|rfl|exact absurd rfl h2
 cases b<;>simp [behindInMarks,e1,e2]
theorem vE (ho:OpR X (compareOp op) r)(ha:PE X a ta)(hb:PE X b tb)(hm:behindInMarks op b=false):PE X (.Compare a [op] [b] pos) (tOp r ta tb):=by intro pins s U H Q I h;exact wpAny_Compare1 (binT ha hb I h λv u s2 x y H2 I2 rx ry q=>ho pins s2 U H2 x y v u Q I2 rx ry q) hm
def ZL (t:TE):TT:=λU H Q=>t U H λx H'=>∃ k,x = .bl k/\Q k H'
theorem i7 (ho:OpR X (compareOp op) r)(ha:PE X a ta)(hb:PE X b tb)(hm:behindInMarks op b=false):PT X (.Compare a [op] [b] pos) (ZL (tOp r ta tb)):=by
 intro pins s U H Q I h;refine wpAny_isTrue_Compare1 (z7 (ha pins s U H _ I h) λv s1 ⟨x,H1,I1,r1,q1⟩=>z7 (hb pins s1 U H1 _ I1 q1) λu s2 ⟨y,H2,I2,r2,q2⟩ =>
  z7 (ho pins s2 U H2 x y v u _ I2 r1 r2 q2) λc s3 ⟨z,H3,I3,r3,k,e,q3⟩=>?_) hm
 subst e;cases r3;exact wpAny_truthy_bool ⟨H3,I3,q3⟩
def WD (r r':R2)(ta tb tc:TE):TE:=λU H Q=>ta U H λx H1=>tb U H1 λy H2=>r x y H2 λz H3=>∃ k,z = .bl k /\
 (if k=true then tc U H3 λw' H4=>r' y w' H4 Q else Q (.bl false) H3)
theorem GZ (ho:OpR X (compareOp op) r)(ho':OpR X (compareOp op') r')(ha:PE X a ta)(hb:PE X b tb)(hc:PE X c tc)(hm:lastMarks [op,op'] [b,c]=false:=by with_unfolding_all rfl):PE X (.Compare a [op,op'] [b,c] pos) (WD r r' ta tb tc):=by
 intro pins s U H Q I h;refine Compare_chain (z7 (ha pins s U H _ I h) λv s1 ⟨x,H1,I1,r1,q1⟩=>chain_link (z7 (hb pins s1 U H1 _ I1 q1) λu s2 ⟨y,H2,I2,r2,q2⟩ =>
  z7 (ho pins s2 U H2 x y v u _ I2 r1 r2 q2) λd s3 ⟨z,H3,I3,r3,k,e,q3⟩=>?_)) hm
 subst e;cases r3;refine wpAny_truthy_bool ?_;cases k with
 |false=>exact ite_ff ⟨.bl false,H3,I3,rfl,q3⟩
 |true=>exact ite_tt (chain_last (z7 (hc pins s3 U H3 _ I3 q3) λw' s4 ⟨z',H4,I4,r4,q4⟩=>ho' pins s4 U H4 y z' u w' Q I4 r2 r4 q4))
theorem Vk (ho:OpR X (compareOp op) r)(ho':OpR X (compareOp op') r')(ha:PE X a ta)(hb:PE X b tb)(hc:PE X c tc)(hm:lastMarks [op,op'] [b,c]=false:=by with_unfolding_all rfl):PT X (.Compare a [op,op'] [b,c] pos) (ZL (WD r r' ta tb tc)):=by
 intro pins s U H Q I h;refine isTrue_chain (z7 (ha pins s U H _ I h) λv s1 ⟨x,H1,I1,r1,q1⟩=>test_link (z7 (hb pins s1 U H1 _ I1 q1) λu s2 ⟨y,H2,I2,r2,q2⟩ =>
  z7 (ho pins s2 U H2 x y v u _ I2 r1 r2 q2) λd s3 ⟨z,H3,I3,r3,k,e,q3⟩=>?_)) hm
 subst e;cases r3;refine wpAny_truthy_bool ?_;cases k with
 |false=>obtain ⟨k',e',q'⟩:=q3;cases e';exact ite_ff ⟨H3,I3,q'⟩
 |true=>refine ite_tt (test_last (z7 (hc pins s3 U H3 _ I3 q3) λw' s4 ⟨z',H4,I4,r4,q4⟩=>z7 (ho' pins s4 U H4 y z' u w' _ I4 r2 r4 q4) λd' s5 zq=>?_));obtain ⟨z2,H5,I5,r5,k2,e2,q5⟩:=zq;subst e2;cases r5;exact wpAny_truthy_bool ⟨H5,I5,q5⟩
def TruV (K:Fg)(x:V)(H:Hp)(k:Bool):Prop :=
 match x with
 | .non=>k=false
 | .bl b=>k=b
 | .int i=>k=(i != 0)
 | .str y=>y.length<=sizeLine/\k=((y.length:Int) != 0)
 | .byt y=>y.size<=sizeLine/\k=((y.size:Int) != 0)
 | .ref p=>(∃ xs,SqL K H p xs/\k=!xs.isEmpty)∨(∃ xs,SqT K H p xs/\k=!xs.isEmpty)∨∃ kvs,H p=some (.dK kvs)/\k=!kvs.isEmpty
 |_=>False
theorem DT {κ:Type}{kvs:List (κ×V)}{vs:List (κ×Value)}(r:KV kvs vs):(!vs.isEmpty)=!kvs.isEmpty:=by cases r<;>rfl
theorem Go {its:List Value}(r:Vals xs its):(!its.toArray.isEmpty)=!xs.isEmpty:=by cases r<;>simp
theorem vq:(sizeLine:Nat)<2 ^ 63:=by rw [sizeLine_eq];decide
theorem RP:TruR X (λx H Q=>∃ k,TruV X.K x H k/\Q k H):=by
 intro pins s U H x v Q I rx h;obtain ⟨k,e,q⟩:=h;have hl:=vq;have hs:sizeLine=16777216:=sizeLine_eq;cases x with
 |non=>cases rx;have e':k=false:=e;subst e';exact truthy_none ⟨H,I,q⟩
 |bl b=>cases rx;have e':k=b:=e;subst e';exact wpAny_truthy_bool ⟨H,I,q⟩
 |int i=>obtain ⟨t,rfl⟩:=rx;have e':k=(i != 0):=e;subst e';exact PySem.P.truthy_int ⟨H,I,q⟩
 |str y=>obtain ⟨t,rfl⟩:=rx;obtain ⟨hy,e'⟩:y.length<=sizeLine/\k=((y.length:Int) != 0):=e;subst e';exact PySem.P.truthy_str (by omega) ⟨H,I.tok _,q⟩
 |byt y=>obtain ⟨t,rfl⟩:=rx;obtain ⟨hy,e'⟩:y.size<=sizeLine/\k=((y.size:Int) != 0):=e;subst e';exact PySem.W.truthy_bytes (by omega) ⟨H,I.tok _,q⟩
 |ref p =>
  cases rx;have e':(∃ xs,SqL X.K H p xs/\k=!xs.isEmpty)∨(∃ xs,SqT X.K H p xs/\k=!xs.isEmpty)∨∃ kvs,H p=some (.dK kvs)/\k=!kvs.isEmpty:=e;rcases e' with ⟨xs,hx,e'⟩|⟨xs,hx,e'⟩|⟨kvs,hx,e'⟩
  ·subst e';obtain ⟨its,r,pl,hz⟩:=I.list hx;have hlen:=r.length;exact wpAny_truthy_list pl.isList (by simp only [yX];omega) ⟨H,I.tok _,by rw [Go r];exact q⟩
  ·subst e';obtain ⟨its,r,pl,hz⟩:=I.tuple hx;have hlen:=r.length;exact truthy_tuple pl (by simp only [yX];omega) ⟨H,I.tok _,by rw [Go r];exact q⟩
  ·subst e';obtain ⟨hz,hS,vs,r,m⟩:kvs.length<=sizeLine/\(p==sysModules)=false/\∃ vs,KV kvs vs/\s.heap.DictOf (qe X.prog X.w) p vs:=I.hok p _ hx;have hlen:kvs.length=vs.length:=Paired.length r;exact wpAny_truthy_dict hS m (by omega) ⟨H,I.tok _,by rw [DT r];exact q⟩
 |_=>exact (show False from e).elim
theorem NZ (ha:PE X a ta)(he:∀ whole,isTrue a X.env whole=(do let v <- whole;standAt a.pos;holding [v] (truthy v))):
  PT X a (λU H Q=>ta U H λx H'=>∃ k,TruV X.K x H' k/\Q k H'):=by
 intro pins s U H Q I h;exact isTrue_plain (z7 (ha pins s U H _ I h) λv s1 ⟨x,H1,I1,r1,q1⟩=>RP pins s1 U H1 x v Q I1 r1 q1) (he _)
theorem op_add_str:OpR X (binaryOp .Add) (λx y H Q=>∃ i j,x = .str i/\y = .str j/\i.length+j.length<=sizeLine/\Q (.str (i++j)) H):=by intro pins s U H x y v u Q I rx ry h;obtain ⟨i,j,rfl,rfl,hz,q⟩:=h;obtain ⟨t,rfl⟩:=rx;obtain ⟨t',rfl⟩:=ry;exact add_str (λt' tk=>⟨.str (i++j),H,I.tok _,⟨_,rfl⟩,q⟩) hz
theorem xN {x:V}(r:Vals [x] us):∃ u,us=[u]/\RelV x u:=by
 cases r with
 |cons r1 r2=>cases r2;exact ⟨_,rfl,r1⟩
theorem WX {x:V}(r:Vals [x,y] us):∃ u w',us=[u,w']/\RelV x u/\RelV y w':=by
 cases r with
 |cons r1 r2 =>
  cases r2 with
  |cons r3 r4=>cases r4;exact ⟨_,_,rfl,r1,r3⟩
theorem Co (hc:X.calm=true):CallR X (.builtin "min") (λxs H Q=>∃ i j,xs=[.int i,.int j]/\Q (.int (if j<i then j else i)) H):=by
 intro pins s U H xs us Q I r h;obtain ⟨i,j,rfl,q⟩:=h;obtain ⟨u,w',rfl,⟨t,rfl⟩,⟨t',rfl⟩⟩:=WX r;refine min_two_ints (I.ok.hd hc) λh' tk k=>⟨_,H,I.kept k,?_,q⟩;by_cases hj:j<i
 ·rw [if_pos hj,if_pos hj];exact ⟨_,rfl⟩
 ·rw [if_neg hj,if_neg hj];exact ⟨_,rfl⟩
def LenV (K:Fg)(x:V)(H:Hp)(n:Nat):Prop :=
 match x with
 | .str y=>y.length<=sizeLine/\n=y.length
 | .byt y=>y.size<=sizeLine/\n=y.size
 | .ref p=>(∃ xs,SqL K H p xs/\n=xs.length)∨∃ xs,SqT K H p xs/\n=xs.length
 |_=>False
theorem Cg:CallR X (.builtin "len") (λxs H Q=>∃ x n,xs=[x]/\LenV X.K x H n/\Q (.int n) H):=by
 intro pins s U H xs us Q I r h;obtain ⟨x,n,rfl,e,q⟩:=h;obtain ⟨u,rfl,rx⟩:=xN r;have hl:=vq;have hs:sizeLine=16777216:=sizeLine_eq;cases x with
 |str y=>obtain ⟨t,rfl⟩:=rx;obtain ⟨hy,e'⟩:y.length<=sizeLine/\n=y.length:=e;subst e';exact len_str (by omega) ⟨.int _,H,I.tok _,⟨_,rfl⟩,q⟩
 |byt y=>obtain ⟨t,rfl⟩:=rx;obtain ⟨hy,e'⟩:y.size<=sizeLine/\n=y.size:=e;subst e';exact PySem.W.len_bytes (by omega) ⟨.int _,H,I.tok _,⟨_,rfl⟩,q⟩
 |ref p =>
  cases rx;have e':(∃ xs,SqL X.K H p xs/\n=xs.length)∨∃ xs,SqT X.K H p xs/\n=xs.length:=e;rcases e' with ⟨xs,hx,e'⟩|⟨xs,hx,e'⟩
  ·subst e';obtain ⟨its,r',pl,hz⟩:=I.list hx;have hlen:=r'.length;exact Calls.call_len_list pl.isList (by simp only [yX];omega) ⟨.int xs.length,H,I.tok _,⟨_,by simp only [yX];rw [hlen]⟩,q⟩
  ·subst e';obtain ⟨its,r',pl,hz⟩:=I.tuple hx;have hlen:=r'.length;exact len_tuple pl (by simp only [yX];omega) ⟨.int xs.length,H,I.tok _,⟨_,by simp only [yX];rw [hlen]⟩,q⟩
 |_=>exact (show False from e).elim
end
structure ObjM (h:Heap)(x dx C:Addr)(mA:Str->Option Value):Prop where
 obj:h.get? x=some (PySem.W.instObj C dx)
 ns:h.Ns1 dx mA
 ne:dx≠x
theorem MC (n:h.Ns1 dx mA):∃ od,h.get? dx=some od/\∀ name,PySem.W.lookIn name od=some (mA name):=by
 obtain ⟨o,es,ep,ho,hd,hk,_,hm⟩:=n;refine ⟨o,ho,λname=>?_⟩;have e:=hm name;unfold nsFind findBy at e;rw [<- Array.find?_toList] at e;unfold PySem.W.lookIn;rw [hd]
 dsimp only
 split
 ·rename_i y q;rw [q] at e;exact congrArg some e
 ·rename_i q;rw [q] at e;have a:es.toList.any (·.refKey)=false:=by rw [List.any_eq_false];intro y hy;obtain ⟨z,t,hkey⟩:=hk y (Array.mem_toList_iff.mp hy);simp [DictEntry.refKey,hkey]
  have a':¬ es.toList.any (·.refKey)=true:=by rw [a];exact yU
  rw [if_neg a'];exact congrArg some e
theorem ObjM.look {x:Addr}(I:ObjM h x dx C mA):∃ od,PySem.W.InstAt h x (PySem.W.instObj C dx) C (some od)/\∀ name,PySem.W.lookIn name od=some (mA name) :=
 let ⟨od,ho,hl⟩:=MC I.ns
 ⟨od,⟨I.obj,rfl,rfl,ho⟩,hl⟩
section
variable {prog:Program}{w:World}{A:Around}{E:Value->Shared->Prop}{s:Shared}{K:Fg}{x dx C f:Addr}{mA:Str->Option Value}{name:Str}{v:Value}
theorem Dw {expr:Bool}(X:K.In s.heap)(I:ObjM s.heap x dx C mA)(hg:PySem.W.plainGet K C name=true)(hh:PySem.W.hasDictIn K C=true)(ha:PySem.W.findIn K (.ref C) name=some none)(hv:mA name=some v)(hv':PySem.W.handedIn v=true)(h:Q v { s with toks:=s.toks+1 }):wpAny (model prog w) A (getAttr (.ref x) name expr) Q E s:=by obtain ⟨od,J,hl⟩:=I.look;exact PySem.W.get_value X J (PySem.W.plainGet_of hg).1 (PySem.W.findObj_own hh ha rfl (by rw [hl,hv])) hv' h
theorem Dx {Q:Value×List Value->Shared->Prop}(X:K.In s.heap)(I:ObjM s.heap x dx C mA)(hg:PySem.W.plainGet K C name=true)(hf:PySem.W.findIn K (.ref C) name=some (some (.ref f)))(ht:PySem.W.isFn K (.ref f)=true)(hv:mA name=none)(h:Q (.ref f,[.ref x]) s):wpAny (model prog w) A (getMethod (.ref x) name pl) Q E s:=by obtain ⟨od,J,hl⟩:=I.look;exact PySem.W.method_fn X J (PySem.W.plainGet_of hg).1 (PySem.W.plainGet_of hg).2 hf (beq_iff_eq.mp ht) (by show (PySem.W.lookIn name od).map (·.isSome)=some false;rw [hl,hv];rfl) h
theorem Rr {ns:List Str}{Q:Unit->Shared->Prop}(X:K.In s.heap)(I:ObjM s.heap x dx C mA)(hs:PySem.W.findIn K (.ref C) "__setattr__"=some (some (.builtin "object.__setattr__")))(hp:PySem.W.plainOver K C=true)(ht:PySem.W.takerIn K C name=some none)(hh:PySem.W.hasDictIn K C=true)(hw:PySem.Within mA ns)(hsz:ns.length<=sizeLine)(h:∀ h',ObjM h' x dx C (λy=>if y=name then some v else mA y)->Heap.SameBut dx s.heap h'->Q () { s with heap:=h',toks:=s.toks+2 }):wpAny (model prog w) A (setAttr (.ref x) name v) Q E s:=by obtain ⟨od,J,hl⟩:=I.look;refine PySem.W.set_plain X J hs (PySem.W.osa_open (s:={ s with toks:=s.toks+1 }) (r:=none) X J hp ht λb=>?_);obtain ⟨cd,hc,hd'⟩:=PySem.W.any_some hh;have hx:s.heap.get? x=some ⟨.ref C,some dx,.plain,#[]⟩:=I.obj;refine yW (yR (yW (yW (wpAny_loadPart hx (yW (PySem.W.Looks.here (s:={ s with toks:=s.toks+1 }) (PySem.W.looks_clsIn X hc) ?_))))));rw [hd'];refine yR (a:=some dx) (yW (yR (yW ?_)));refine wpAny_nsSet1 (s:={ s with toks:=s.toks+1 }) I.ns λh' hn2 hs2=>?_;obtain ⟨oD,esD,epD,hoD,hdD,hcD⟩:=hn2.count (PySem.Within.cons name v hw);refine yW (wpAny_lookBehind hoD (by rw [hdD];exact pastItsLine_dict (yr hcD (by rw [yS];omega))) ?_);exact yR (h _ ⟨(hs2.2 _ (Ne.symm I.ne)).trans I.obj,hn2,I.ne⟩ hs2)
theorem MI {R:Result->Shared->Prop}{vs:List Value}(X:K.In s.heap)(hm:PySem.W.makesIn K C=true)(hi:PySem.W.findIn K (.ref C) "__init__"=some (some (.ref f)))(hf:PySem.W.typeIn K (.ref f)=some (.type "function"))(h:codeAny (model prog w) (A.under (.builtin "type.__call__" ⟨.ref C::vs,kw⟩)) (.call (.ref f) ⟨.ref (s.heap.objs.size+1)::vs,kw⟩) (PySem.W.InitBack (s.heap.objs.size+1) R) { s with heap:=(s.heap.push PySem.W.emptyDict).push (PySem.W.instObj C s.heap.objs.size) }):codeAny (model prog w) A (.call (.ref C) ⟨vs,kw⟩) R s:=by obtain ⟨hh,g,d,t,os⟩:=s;exact PySem.W.make_core (PySem.W.makes_of X hm) (PySem.W.looks_findIn X hi) (λself=>PySem.W.bind_fn X self hf) (.inl rfl) h
end
def qV (f:Str)(v:V):List (Str×V)->List (Str×V)
 |[]=>[(f,v)]
 |(g,x)::r=>if g=f then (g,v)::r else (g,x)::qV f v r
theorem GG (f g:Str)(v:V):∀ fs:List (Str×V),(qV f v fs).lookup g=if g=f then some v else fs.lookup g
 |[]=>by
  show List.lookup g [(f,v)]=_;by_cases h:g=f
  ·have hb:(g==f)=true:=beq_iff_eq.mpr h;simp only [List.lookup,hb,if_pos h]
  ·have hb:(g==f)=false:=beq_eq_false_iff_ne.mpr h;simp only [List.lookup,hb,if_neg h]
 |(k,x)::r=>by
  have ih:=GG f g v r;rw [show qV f v ((k,x)::r)=(if k=f then (k,v)::r else (k,x)::qV f v r) from rfl];by_cases hk:k=f
  ·rw [if_pos hk];by_cases h:g=k
   ·have hb:(g==k)=true:=beq_iff_eq.mpr h;simp only [List.lookup,hb,if_pos (h.trans hk)]
   ·have hb:(g==k)=false:=beq_eq_false_iff_ne.mpr h;simp only [List.lookup,hb,if_neg (λe:g=f=>h (e.trans hk.symm))]
  ·rw [if_neg hk];by_cases h:g=k
   ·have hb:(g==k)=true:=beq_iff_eq.mpr h;simp only [List.lookup,hb,if_neg (λe:g=f=>hk (h.symm.trans e))]
   ·have hb:(g==k)=false:=beq_eq_false_iff_ne.mpr h;simp only [List.lookup,hb];exact ih
theorem JC (f:Str)(v:V):∀ fs:List (Str×V),f∈(qV f v fs).map (·.1)/\∀ g,g∈fs.map (·.1)->g∈(qV f v fs).map (·.1)
 |[]=>⟨by simp [qV],λg h=>by simp at h⟩
 |(k,x)::r=>by
  obtain ⟨i1,i2⟩:=JC f v r;rw [show qV f v ((k,x)::r)=(if k=f then (k,v)::r else (k,x)::qV f v r) from rfl];by_cases hk:k=f
  ·rw [if_pos hk];subst hk;exact ⟨by simp,λg h=>by simpa using h⟩
  ·rw [if_neg hk];refine ⟨?_,λg h=>?_⟩
   ·rw [yT];exact yN _ i1
   ·rw [yT] at h ⊢;rcases yP.mp h with e|e
    ·exact yP.mpr (.inl e)
    ·exact yN _ (i2 g e)
theorem GB (f:Str)(v:V):∀ fs:List (Str×V),(qV f v fs).length<=fs.length+1
 |[]=>by simp [qV]
 |(k,x)::r=>by
  have ih:=GB f v r;rw [show qV f v ((k,x)::r)=(if k=f then (k,v)::r else (k,x)::qV f v r) from rfl];by_cases hk:k=f
  ·rw [if_pos hk,yS,yS];omega
  ·rw [if_neg hk,yS,yS];omega
theorem RelO.some_of {o:Option Value}(r:RelO (some v) o):∃ u,o=some u/\RelV v u:=by
 cases o with
 |none=>exact (show False from r).elim
 |some u=>exact ⟨u,rfl,r⟩
theorem RelO.none_of {o:Option Value}(r:RelO none o):o=none:=by
 cases o with
 |none=>rfl
 |some u=>exact (show False from r).elim
theorem Dz (r:RelV v u):PySem.W.handedIn u=true:=by
 cases v with
 |non=>cases (show u=Value.none from r);rfl
 |bl b=>cases (show u=Value.bool b from r);rfl
 |int i=>obtain ⟨t,e⟩:=(show ∃ t,u=Value.int i t from r);cases e;rfl
 |str x=>obtain ⟨t,e⟩:=(show ∃ t,u=Value.str x t from r);cases e;rfl
 |byt b=>obtain ⟨t,e⟩:=(show ∃ t,u=Value.bytes b t from r);cases e;rfl
 |flt b=>obtain ⟨t,e⟩:=(show ∃ t,u=Value.float b t from r);cases e;rfl
 |ref a=>cases (show u=Value.ref a from r);rfl
 |ty n=>cases (show u=Value.type n from r);rfl
section
variable {P:Program}{w:World}{H H':Hp}{h h':Heap}{a C dx:Addr}{fs fs':List (Str×V)}
theorem XJ (hok:HOk P w H h)(e:H a=some (.ins C dx fs)):∃ mA,ObjM h a dx C mA/\(∀ f,RelO (fs.lookup f) (mA f))/\PySem.Within mA (fs.map (·.1))/\fs.length<=1000/\H dx=some (.own a):=by obtain ⟨d,z,ne,ob,mA,n,r,q⟩:=(show ObjOk P w H h a (.ins C dx fs) from hok a _ e);exact ⟨mA,⟨ob,n,ne⟩,r,q,z,d⟩
end
structure Cls (K:Fg)(C:Addr):Prop where
 pg:PySem.W.plainGet K C Str.empty=true
 hd:PySem.W.hasDictIn K C=true
 po:PySem.W.plainOver K C=true
 sa:PySem.W.findIn K (.ref C) "__setattr__"=some (some (.builtin "object.__setattr__"))
theorem Cls.get (c:Cls K C)(f:Str):PySem.W.plainGet K C f=true:=c.pg
def NoAttr (K:Fg)(C:Addr)(f:Str):Prop:=PySem.W.findIn K (.ref C) f=some none
theorem NoAttr.taker {f:Str}(n:NoAttr K C f):PySem.W.takerIn K C f=some none:=by unfold PySem.W.takerIn;rw [show PySem.W.findIn K (.ref C) f=some none from n];rfl
structure vQ (K:Fg)(C:Addr)(m:Str)(f:Addr):Prop where
 at_:PySem.W.findIn K (.ref C) m=some (some (.ref f))
 fn:PySem.W.isFn K (.ref f)=true
 kp:PySem.W.keepIn K (.ref f)=true
section
variable {X:Cx}{pins:List (Addr×Obj)}{U:St}{H:Hp}{s:Shared}{a C dx:Addr}{fs:List (Str×V)}{f:Str}{v:V}{A:Around}{E:Value->Shared->Prop}
theorem Dy {b:Bool}(I:Inv X pins U H s)(e:H a=some (.ins C dx fs))(c:Cls X.K C)(n:NoAttr X.K C f)(l:fs.lookup f=some v)(h:∀ u s',Inv X pins U H s'->RelV v u->Q u s'):wpAny (model X.prog X.w) A (getAttr (.ref a) f b) Q E s:=by obtain ⟨mA,O,r,_,_,_⟩:=XJ I.hok e;obtain ⟨u,hu,ru⟩:=RelO.some_of (v:=v) (o:=mA f) (by rw [<- l];exact r f);exact Dw I.kIn O (c.get f) c.hd n hu (Dz ru) (h u _ (I.tok _) ru)
theorem Ju {g:Addr}{Q:Value×List Value->Shared->Prop}(I:Inv X pins U H s)(e:H a=some (.ins C dx fs))(c:Cls X.K C)(k:vQ X.K C m g)(l:fs.lookup m=none)(h:Q (.ref g,[.ref a]) s):wpAny (model X.prog X.w) A (getMethod (.ref a) m pl) Q E s:=by obtain ⟨mA,O,r,_,_,_⟩:=XJ I.hok e;have hn:mA m=none:=RelO.none_of (by rw [<- l];exact r m);exact Dx I.kIn O (c.get m) k.at_ k.fn hn h
theorem Rt {Q:Unit->Shared->Prop}(I:Inv X pins U H s)(e:H a=some (.ins C dx fs))(c:Cls X.K C)(n:NoAttr X.K C f)(hl:fs.length<1000)(ry:RelV y u)(h:∀ s',Inv X pins U (j9 H a (.ins C dx (qV f y fs))) s'->Q () s'):wpAny (model X.prog X.w) A (setAttr (.ref a) f u) Q E s:=by
 obtain ⟨mA,O,r,wi,_,ho⟩:=XJ I.hok e;have hz:(fs.map (·.1)).length<=sizeLine:=by rw [yZ,sizeLine_eq];omega
 refine Rr I.kIn O c.sa c.po n.taker c.hd wi hz λh' O' sb=>h _ ?_;have hd:∃ o,h'.get? dx=some o:=let ⟨o,_,_,e',_⟩:=O'.ns;⟨o,e'⟩
 refine I.write (x:=a) (e:=dx) (by rw [e];exact True.intro) (.inr ho) (λb q hb z=>(sb.2 b hb).trans z) hd ?_;refine ⟨by rw [v6 O.ne];exact ho,?_,O.ne,O'.obj,_,O'.ns,λg=>?_,λg hg=>?_⟩
 ·have:=GB f y fs;omega
 ·show RelO ((qV f y fs).lookup g) (if g=f then some u else mA g);rw [GG];by_cases q:g=f
  ·rw [if_pos q,if_pos q];exact ry
  ·rw [if_neg q,if_neg q];exact r g
 ·by_cases q:g=f
  ·rw [q];exact (JC f y fs).1
  ·refine (JC f y fs).2 g (wi g λz=>hg ?_);show (if g=f then some u else mA g)=none;rw [if_neg q];exact z
theorem Inv.made (I:Inv X pins U H s):Inv X pins U (j9 (j9 H s.heap.objs.size (.own (s.heap.objs.size+1))) (s.heap.objs.size+1) (.ins C s.heap.objs.size [])) { s with heap:=(s.heap.push PySem.W.emptyDict).push (PySem.W.instObj C s.heap.objs.size) }:=by
 have e1:(s.heap.push PySem.W.emptyDict).get? s.heap.objs.size=some PySem.W.emptyDict:=yI s.heap rfl;have e2:((s.heap.push PySem.W.emptyDict).push (PySem.W.instObj C s.heap.objs.size)).get? (s.heap.objs.size+1)=some (PySem.W.instObj C s.heap.objs.size):=by have:=yI (s.heap.push PySem.W.emptyDict) (o:=PySem.W.instObj C s.heap.objs.size) rfl;rwa [uI] at this
 have e3:(s.heap.push PySem.W.emptyDict).Ns s.heap.objs.size (λ_=>none):=⟨PySem.W.emptyDict,#[],_,e1,rfl,(λe he=>absurd he (by simp)),λ_=>rfl⟩;have I1:=I.laid (a:=s.heap.objs.size) (o:= .own (s.heap.objs.size+1)) (h':=s.heap.push PySem.W.emptyDict) (t':=s.toks) (λb u q=>yV _ q) (yY _) ⟨_,e1⟩;refine I1.laid (a:=s.heap.objs.size+1) (o:= .ins C s.heap.objs.size []) (t':=s.toks) (λb u q=>yV _ q) (Nat.le_of_eq (uI _ _)) ?_;have ne:s.heap.objs.size≠s.heap.objs.size+1:=yJ (uB _);refine ⟨by rw [v6 ne,y4],yo _,ne,e2,λ_=>none,(Heap.Ns1.of_empty e3).at λo q=>yV _ q,λ_=>True.intro,λy hy=>absurd rfl hy⟩
theorem PD {prog:Program}{env:Env}{f:Str}{s:Shared}(hb:attributeBase e f env (eval e env)=eval e env)(h:wpAny (model prog w) A (eval e env) (λo s₁=>wpAny (model prog w) A (getAttr o f true) Q E s₁) E s):wpAny (model prog w) A (eval (.Attribute e f pos) env) Q E s :=
 Attribute_any_ h (by rw [arm_eval_Attribute,hb])
end
def tFld (K:Fg)(ta:TE)(f:Str):TE:=λU H Q=>ta U H λx H1=>∃ a C dx fs v,x = .ref a/\H1 a=some (.ins C dx fs)/\Cls K C/\NoAttr K C f/\fs.lookup f=some v/\Q v H1
def QS (K:Fg)(ta tv:TE)(f:Str):TS:=λD U H=>tv U H λy H1=>ta U H1 λx H2=>∃ a C dx fs,x = .ref a/\H2 a=some (.ins C dx fs)/\Cls K C/\NoAttr K C f/\fs.length<1000 /\
 D.nx U (j9 H2 a (.ins C dx (qV f y fs)))
section
variable {X:Cx}{o e value:Expr}{f:Str}{pos pos' tpos:Pos}{ta tv:TE}
theorem Nx (he:PE X e ta)(hb:attributeBase e f X.env (eval e X.env)=eval e X.env):PE X (.Attribute e f pos) (tFld X.K ta f):=by intro pins s U H Q I h;refine PD hb (z7 (he pins s U H _ I h) λu s1 zq=>?_);obtain ⟨x,H1,I1,rx,a,C,dx,fs,v,ex,ea,c,n,l,q⟩:=zq;subst ex;obtain rfl:u=Value.ref a:=rx;exact Dy I1 ea c n l λu' s2 I2 ru=>⟨v,H1,I2,ru,q⟩
theorem NV (ha:PE X o ta)(hv:PE X value tv)(hs:swapsWith value (some (.Attribute o f pos')) pos.line X.env=pure false):PS X (.Assign [.Attribute o f pos'] value pos) (QS X.K ta tv f):=by intro pins s U H D I h;refine plainObj_wpAny_Assign_Attribute (z7 (hv pins s U H _ I h) λu s1 ⟨y,H1,I1,ry,q⟩=>z7 (ha pins s1 U H1 _ I1 q) λov s2 zq=>?_) hs;obtain ⟨x,H2,I2,rx,a,C,dx,fs,ex,ea,c,n,l,q2⟩:=zq;subst ex;obtain rfl:ov=Value.ref a:=rx;exact Rt I2 ea c n l ry λs3 I3=>⟨U,_,I3,q2⟩
theorem TN {apos:Pos}{args:List Expr}(he:PE X e te)(I:Inv X pins U H s)
  (h:te U H λx H1=>∃ a C dx fs g,x = .ref a/\H1 a=some (.ins C dx fs)/\Cls X.K C/\vQ X.K C m g/\fs.lookup m=none /\
   ∀ s1,Inv X pins U H1 s1->wpAny (model X.prog X.w) X.A (callWith pos (.ref g) [.ref a] (backTo pos (starEach args X.env)) (backToKw pos (keywordEach [] X.env))) Q X.xe s1)
  (ht:eval (.Call (.Attribute e m apos) args [] pos) X.env=(do
   let ov <- eval e X.env
   standAt apos.atName
   let (f,first) <- holding [ov] (getMethod ov m pl)
   callWith pos f first (backTo pos (starEach args X.env)) (backToKw pos (keywordEach [] X.env)))) :
  wpAny (model X.prog X.w) X.A (eval (.Call (.Attribute e m apos) args [] pos) X.env) Q X.xe s:=by
 refine PySem.W.methodCall_KW (pl:=pl) (z7 (he pins s U H _ I h) λu s1 zq=>?_) ht;obtain ⟨x,H1,I1,rx,a,C,dx,fs,g,ex,ea,c,k,l,q⟩:=zq;subst ex;obtain rfl:u=Value.ref a:=rx;exact Ju I1 ea c k l (q s1 I1)
end
section
variable {X:Cx}{pins:List (Addr×Obj)}{U:St}{H:Hp}{s:Shared}{A:Around}{E:Value->Shared->Prop}{Q:Value->Shared->Prop}{c:Value}{b:Bool}
inductive xo (K:Fg)(H:Hp):V->Value->Prop where
 |non:xo K H .non (.type "NoneType")
 |bl (x:Bool):xo K H (.bl x) (.type "bool")
 |int (i:Int):xo K H (.int i) (.type "int")
 |str (x:Str):xo K H (.str x) (.type "str")
 |flt (x:UInt64):xo K H (.flt x) (.type "float")
 |lst {a:Addr} {xs:List V} (e:H a=some (.lst xs)):xo K H (.ref a) (.type "list")
 |frz {a:Addr} {o:Obj} {xs:List V} (e:H a=some (.frz o (.lst xs))):xo K H (.ref a) (.type "list")
 |tup {a:Addr} {xs:List V} (e:H a=some (.tup xs)):xo K H (.ref a) (.type "tuple")
 |dK {a:Addr} {kvs:List (v9×V)} (e:H a=some (.dK kvs)):xo K H (.ref a) (.type "dict")
 |dT {a:Addr} {fl:Bool} {as:List Addr} {kvs:List (b9×V)} (e:H a=some (.dT fl as kvs)):xo K H (.ref a) (.type "dict")
 |ins {a C dx:Addr} {fs:List (Str×V)} (e:H a=some (.ins C dx fs)) (cl:Cls K C) (ha:PySem.W.findIn K (.ref C) "__class__"=some (some (.builtin "object.__class__")))
   (hn:PySem.W.specialIn K (.builtin "object.__class__") "__get__"=some (some (.builtin "getset_descriptor.__get__"))) (htk:PySem.W.takesIn K (.builtin "object.__class__")=some true)
   (hm:PySem.W.mroIn K C (.type "object")=some true):xo K H (.ref a) (.ref C)
theorem Gp {x:V}{t:Value}(I:Inv X pins U H s)(rx:RelV x u)(ty:xo X.K H x t)(e:PySem.W.kitOne X.K t c=some b)(h:∀ tk,Q (.bool b) { s with toks:=tk }):wpAny (model X.prog X.w) A (call (.builtin "isinstance") [u,c]) Q E s:=by
 cases ty with
 |non=>cases (show u=Value.none from rx);exact PySem.W.kia_one PySem.W.kitx_none I.kIn True.intro e (λz=>nomatch z) h
 |bl y=>cases (show u=Value.bool y from rx);exact PySem.W.kia_one PySem.W.kitx_bool I.kIn True.intro e (λz=>nomatch z) h
 |int i=>obtain ⟨t,q⟩:=(show ∃ t,u=Value.int i t from rx);cases q;exact PySem.W.kia_one PySem.W.kitx_int I.kIn True.intro e (λz=>nomatch z) h
 |str y=>obtain ⟨t,q⟩:=(show ∃ t,u=Value.str y t from rx);cases q;exact PySem.W.kia_one PySem.W.kitx_str I.kIn True.intro e (λz=>nomatch z) h
 |flt y=>obtain ⟨t,q⟩:=(show ∃ t,u=Value.float y t from rx);cases q;exact PySem.W.kia_one PySem.W.kitx_float I.kIn True.intro e (λz=>nomatch z) h
 |@lst a xs ea=>cases (show u=Value.ref a from rx);obtain ⟨_,_,n,_,h1⟩:=(show ObjOk X.prog X.w H s.heap a (.lst xs) from I.hok a _ ea);exact PySem.W.kia_one PySem.W.kitx_list I.kIn ⟨_,h1,rfl⟩ e (λz=>nomatch z) h
 |@frz a ob xs ea=>cases (show u=Value.ref a from rx);obtain ⟨_,_,_,n,_,h1⟩:=(show ObjOk X.prog X.w H s.heap a (.frz ob (.lst xs)) from I.hok a _ ea);exact PySem.W.kia_one PySem.W.kitx_list I.kIn ⟨_,h1,rfl⟩ e (λz=>nomatch z) h
 |@tup a xs ea=>cases (show u=Value.ref a from rx);obtain ⟨_,_,_,p⟩:=(show ObjOk X.prog X.w H s.heap a (.tup xs) from I.hok a _ ea);obtain ⟨o,h1,h2,_⟩:=p;exact PySem.W.kia_one PySem.W.kitx_tuple I.kIn ⟨o,h1,h2⟩ e (λz=>nomatch z) h
 |@dK a kvs ea=>cases (show u=Value.ref a from rx);obtain ⟨_,_,vs,_,p⟩:=(show ObjOk X.prog X.w H s.heap a (.dK kvs) from I.hok a _ ea);obtain ⟨o,es,ep,h1,h2,_⟩:=p;exact PySem.W.kia_one PySem.W.kitx_dict I.kIn ⟨o,h1,h2.1⟩ e (λz=>nomatch z) h
 |@dT a fl as kvs ea=>cases (show u=Value.ref a from rx);obtain ⟨_,_,xs,_,o,es,ep,h1,h2,_⟩:=(show ObjOk X.prog X.w H s.heap a (.dT fl as kvs) from I.hok a _ ea);exact PySem.W.kia_one PySem.W.kitx_dict I.kIn ⟨o,h1,h2.1⟩ e (λz=>nomatch z) h
 |@ins a C dx fs ea cl ha hn htk hm=>cases (show u=Value.ref a from rx);obtain ⟨mA,O,_⟩:=XJ I.hok ea;obtain ⟨od,J,_⟩:=O.look;exact PySem.W.kia_one (PySem.W.kitx_own (cl.get _) cl.hd ha hn htk hm) I.kIn J e (λz=>nomatch z) h
end
structure Room (k:Nat)(A:Around):Prop where
 hd:A.handled=none
 dp:A.depth+3*k+5<recursionLimit
 un:A.units+16*k+200<cLine
theorem Room.mono {k:Nat}(r:Room k A)(h:j<=k):Room j A:=⟨r.hd,by have:=r.dp;omega,by have:=r.un;omega⟩
theorem Room.deeper {k:Nat}(r:Room (k+1) A)(env:Env):Room k (A.deeper env) :=
 ⟨r.hd,by have:=r.dp;show A.depth+1+3*k+5<_;omega,by have:=r.un;show A.units+3+16*k+200<_;omega⟩
theorem MH :(A.under (.builtin "type.__call__" ⟨.ref C::us,kw⟩)).depth=A.depth+1:=by first|rfl|simp [Around.under,Code.weight,Code.isCreation,Code.isGuard,Code.isCaller,Code.frames,Code.isFrame,guardIds]
theorem MJ :(A.under (.builtin "type.__call__" ⟨.ref C::us,kw⟩)).units=A.units+1:=by first|rfl|simp [Around.under,Code.cUnits,Code.frames,Code.isFrame]
theorem Room.make {k:Nat}(r:Room (k+1) A)(C:Addr)(us:List Value)(kw:List (Str×Value)):Room k (A.under (.builtin "type.__call__" ⟨.ref C::us,kw⟩)) :=
 ⟨r.hd,by have:=r.dp;rw [MH];omega,by have:=r.un;rw [MJ];omega⟩
theorem Room.depth {k:Nat}(r:Room k A):A.depth<recursionLimit:=by have:=r.dp;omega
theorem Room.units {k:Nat}(r:Room k A):A.units+64<cLine:=by have:=r.un;omega
def qM:TA:=λ_ H Q=>Q [] H
def qv (ta:TE)(tr:TA):TA:=λU H Q=>ta U H λx H1=>tr U H1 λxs H2=>Q (x::xs) H2
section
variable {X:Cx}{e:Expr}{es:List Expr}{te:TE}{t:TA}{pos:Pos}
theorem v3:PA X [] qM:=λ_ _ _ _ H Q I h=>Calls.spliced_nil ⟨[],H,I,.nil,h⟩
theorem x8 (ha:PE X e te)(hr:PA X es t)(hs:starEach (e::es) X.env=(false,eval e X.env)::starEach es X.env:=by rfl):PA X (e::es) (qv te t):=by intro pos pins s U H Q I h;rw [hs];show wpAny _ _ (spliced ((false,eval e X.env)::backTo pos (starEach es X.env))) _ _ s;refine Calls.spliced_cons (z7 (ha pins s U H _ I h) λu s1 zq=>?_);obtain ⟨x,H1,I1,r1,q1⟩:=zq;exact z7 (hr pos pins s1 U H1 _ I1 q1) λus s2 ⟨xs,H2,I2,r2,q2⟩=>⟨x::xs,H2,I2,.cons r1 r2,q2⟩
def tTup (t:TA):TE:=λU H Q=>t U H λxs H1=>xs.length<=sizeLine/\∀ p,H1 p=none->Q (.ref p) (j9 H1 p (.tup xs))
def tLst (t:TA):TE:=λU H Q=>t U H λxs H1=>xs.length<=sizeLine/\∀ p,H1 p=none->Q (.ref p) (j9 H1 p (.lst xs))
theorem zn {x1}(h:PA X es t):PE X (.Tuple es x1 pos) (tTup t):=by intro pins s U H Q I hq;refine wpAny_Tuple_spliced (z7 (h pos pins s U H _ I hq) λus s1 ⟨xs,H1,I1,r,z,q⟩=>⟨by rw [<- r.length];exact z,?_⟩);have hf:H1 s1.heap.objs.size=none:=I1.hok.fresh (yY _);refine ⟨.ref s1.heap.objs.size,j9 H1 s1.heap.objs.size (.tup xs),I1.laid (t':=s1.toks) (λb u e=>yV _ e) (yY _) ?_,rfl,q _ hf⟩;exact ⟨z,us,r,⟨_,yI _ rfl,rfl,_,rfl⟩⟩
theorem qL (h:PA X es t):PE X (.List es pos) (tLst t):=by intro pins s U H Q I hq;refine wpAny_List_spliced (z7 (h pos pins s U H _ I hq) λus s1 ⟨xs,H1,I1,r,z,q⟩=>⟨by rw [<- r.length];exact z,?_⟩);have hf:H1 s1.heap.objs.size=none:=I1.hok.fresh (yY _);refine ⟨.ref s1.heap.objs.size,j9 H1 s1.heap.objs.size (.lst xs),I1.laid (t':=s1.toks) (λb u e=>yV _ e) (yY _) ?_,rfl,q _ hf⟩;exact ⟨z,us,0,r,yI _ rfl⟩
end
abbrev Sp:=List V->Hp->VK->XK->Prop
variable{sp:Sp}
abbrev CXT:=List Env->Hp->Shared->XK->Value->Shared->Prop
variable{CX:CXT}
structure Env0 (P:Program)(w:World)(K:Fg)(mg:Str->Option Value)(base:Heap)(A:Around)(outer:List Env)(s:Shared)(H:Hp):Prop where
 frames:A.frames=some outer
 mod:Mod K mg base
 bs:∀ b o,base.get? b=some o->s.heap.get? b=some o/\H b=none
 bsz:base.objs.size<=s.heap.objs.size
 funs:s.heap.FunFrames base outer
 frf:∀ b∈qa outer,H b=none
 hok:HOk P w H s.heap
 bare:AllBare s.gens
 tbs:∀ p∈TABS,H p.1=some (.tbl p.2.1 p.2.2)
def CE (outer:List Env)(P:Program)(w:World)(H:Hp)(s:Shared)(Q:VK)(u:Value)(s':Shared):Prop :=
 ∃ v H',s'.os=s.os/\AllBare s'.gens/\Un (qa outer) [] H H' s.heap s'.heap/\HOk P w H' s'.heap/\RelV v u/\Q v H'
def CR (CX:CXT)(outer:List Env)(P:Program)(w:World)(H:Hp)(s:Shared)(Q:VK)(E:XK)(r:Result)(s':Shared):Prop :=
 match r with
 | .ok (.ret u)=>CE outer P w H s Q u s'
 | .ok _=>False
 | .error e=>CX outer H s E e s'
structure FnOk (P:Program)(w:World)(K:Fg)(mg:Str->Option Value)(base:Heap)(CX:CXT)(k:Nat)(f:Addr)(fd:FuncData)(ps:List Str)(sp:Sp):Prop where
 len:∀ vs H Q E,sp vs H Q E->vs.length=ps.length
 run:∀(A:Around)(outer:List Env)(s:Shared)(H:Hp)(args:Args)(us:List Value)(vs:List V)(Q:VK)(E:XK),Room k A->Env0 P w K mg base A outer s H->BindsTo s fd args (ps.zip us)->Vals vs us->sp vs H Q E ->
  codeAny (model P w) A (.call (.ref f) args) (CR CX outer P w H s Q E) s
theorem FnOk.imp {k:Nat}{f:Addr}{sp':Sp}(F:FnOk P w K mg base CX k f fd ps sp)(h:∀ vs H Q E,sp' vs H Q E->sp vs H Q E):FnOk P w K mg base CX k f fd ps sp' :=
 ⟨λvs H Q E q=>F.len vs H Q E (h _ _ _ _ q),λA outer s H args us vs Q E hr he hb hv hs=>F.run A outer s H args us vs Q E hr he hb hv (h _ _ _ _ hs)⟩
theorem Env0.make (e:Env0 P w K mg base A outer s H)(C:Addr)(us:List Value)(kw:List (Str×Value)):Env0 P w K mg base (A.under (.builtin "type.__call__" ⟨.ref C::us,kw⟩)) outer s H:=⟨by first|exact e.frames|(simpa [Around.under,Code.envs,Code.isFrame,pushEnvs] using e.frames),e.mod,e.bs,e.bsz,e.funs,e.frf,e.hok,e.bare,e.tbs⟩
section
variable {X:Cx}{pins:List (Addr×Obj)}{U:St}{H:Hp}{s s':Shared}
theorem Inv.env0 (I:Inv X pins U H s):Env0 X.prog X.w X.K X.mg X.base X.A X.stack s H :=
 ⟨I.ok.frames,I.ok.mod,I.bs,yr I.ok.bsz I.sz,I.stack,I.stkFree,I.hok,I.bare,λp hp=>I.base.tbls _ _ _ (I.ok.tbs p hp)⟩
theorem Inv.after {Q:VK}(I:Inv X pins U H s)(h:CE X.stack X.prog X.w H s Q u s'):EP X pins U Q u s':=by obtain ⟨v,H',os,bare,un,hok,r,q⟩:=h;obtain ⟨hh,g,d,t,os'⟩:=s';obtain rfl:os'=s.os:=os;exact ⟨v,H',I.call (h':=hh) (g':=g) (d':=d) (t':=t) (ch:=[]) un hok bare (λb z=>absurd z (by simp)),r,q⟩
end
def xL (sp:Sp)(dvs:List V)(E:XK)(t:TA):TE:=λU H Q=>t U H λvs H1=>sp (vs++dvs) H1 Q E
def zJ (C:Addr)(m:Str)(sp:Sp)(dvs:List V)(E:XK)(ta:TE)(t:TA):TE:=λU H Q=>ta U H λx H1=>∃ a dx fs,x = .ref a/\H1 a=some (.ins C dx fs)/\fs.lookup m=none /\
 t U H1 λvs H2=>sp (x::(vs++dvs)) H2 Q E
def QY (C:Addr)(sp:Sp)(dvs:List V)(E:XK)(t:TA):TE:=λU H Q=>t U H λvs H1=>∀ x dx,H1 x=none->H1 dx=none->dx≠x ->
 sp (.ref x::(vs++dvs)) (j9 (j9 H1 dx (.own x)) x (.ins C dx [])) (λv H2=>v = .non/\Q (.ref x) H2) E
def Binds (K:Fg)(fd:FuncData)(ps:List Str)(ds:List Value):Prop :=
 ∀(s:Shared)(us:List Value),K.In s.heap->(us++ds).length=ps.length->BindsTo s fd ⟨us,[]⟩ (ps.zip (us++ds))
theorem Binds.all (h:∀ us:List Value,us.length=ps.length->bindArgs fd ⟨us,[]⟩=pure (ps.zip us)):Binds K fd ps []:=λs us _ hl=>by
 rw [yA] at hl ⊢;exact .of_eq (h us hl)
def zN (CX:CXT)(X:Cx)(E:XK):Prop:=∀(pins:List (Addr×Obj))(U:St)(H:Hp)(s:Shared)(e:Value)(s':Shared),Inv X pins U H s->CX X.stack H s E e s'->X.xe e s'
section
variable {X:Cx}{CX:CXT}{k:Nat}{f C:Addr}{fd:FuncData}{ps:List Str}{sp:Sp}{dvs:List V}{ds:List Value}{E:XK}{x m:Str}{p pos apos:Pos}{e o:Expr}{es:List Expr}{ta:TE}{t:TA}
theorem Vu {Q:VK}(F:FnOk X.prog X.w X.K X.mg X.base CX k f fd ps sp)(hr:Room k X.A)(hb:Binds X.K fd ps ds)(hd:Vals dvs ds)(hx:zN CX X E)(I:Inv X pins U H s)(r:Vals vs us)(h:sp (vs++dvs) H Q E):wpAny (model X.prog X.w) X.A (call (.ref f) us) (EP X pins U Q) X.xe s:=by
 have r2:Vals (vs++dvs) (us++ds):=r.append hd;have hl:(us++ds).length=ps.length:=by rw [<- r2.length];exact F.len _ _ _ _ h
 refine wpAny_call (codeAny_mono (F.run X.A X.stack s H ⟨us,[]⟩ (us++ds) (vs++dvs) Q E hr I.env0 (hb s us I.kIn hl) r2 h) λr s' hq=>?_);cases r with
 |error e=>exact hx pins U H s e s' I hq
 |ok fl =>
  cases fl with
  |ret u=>exact I.after hq
  |next=>exact False.elim hq
  |brk=>exact False.elim hq
  |cont=>exact False.elim hq
theorem Nv (F:FnOk X.prog X.w X.K X.mg X.base CX k f fd ps sp)(hr:Room k X.A)(hg:Gl X x)(hm:X.mg x=some (.ref f))(hk:PySem.W.keepIn X.K (.ref f)=true)(hb:Binds X.K fd ps ds)(hd:Vals dvs ds)(hx:zN CX X E)(ha:PA X (e::es) t)(hdb:(x==("__debug__":Str))=false:=by decide)(he:starEach (e::es) X.env=(false,eval e X.env)::starEach es X.env:=by rfl)(hpl:(backTo pos (starEach es X.env)).any (·.1)=false:=by rfl):PE X (.Call (.Name x p) (e::es) [] pos) (xL sp dvs E t):=by intro pins s U H Q I h;refine wpAny_Call_Name_kw (XR I hg hm ?_ hdb);refine PySem.W.callWith_K (h₀:=X.base) I.ok.mod.kin hk (z7 (ha pos pins s U H _ I h) λus s1 ⟨vs,H1,I1,r,q⟩=>⟨I1.kIn,?_⟩) he hpl;exact Vu F hr hb hd hx I1 r q
theorem Kc (he:PE X o ta)(c:Cls X.K C)(hm:vQ X.K C m f)(F:FnOk X.prog X.w X.K X.mg X.base CX k f fd ps sp)(hr:Room k X.A)(hb:Binds X.K fd ps ds)(hd:Vals dvs ds)(hx:zN CX X E)(ha:PA X (e::es) t)
  (hst:starEach (e::es) X.env=(false,eval e X.env)::starEach es X.env:=by rfl) (hpl:(backTo pos (starEach es X.env)).any (·.1)=false:=by rfl)
  (ht:eval (.Call (.Attribute o m apos) (e::es) [] pos) X.env=(do
   let ov <- eval o X.env
   standAt apos.atName
   let (f,first) <- holding [ov] (getMethod ov m pl)
   callWith pos f first (backTo pos (starEach (e::es) X.env)) (backToKw pos (keywordEach [] X.env))):=by rfl) :
  PE X (.Call (.Attribute o m apos) (e::es) [] pos) (zJ C m sp dvs E ta t):=by
 intro pins s U H Q I h;refine PySem.W.methodCall_KW (pl:=pl) (z7 (he pins s U H _ I h) λu s1 zq=>?_) ht;obtain ⟨x,H1,I1,rx,a,dx,fs,ex,ea,l,q⟩:=zq;subst ex;obtain rfl:u=Value.ref a:=rx;refine Ju I1 ea c hm l ?_;refine PySem.W.callWith_K (first:=[.ref a]) (h₀:=X.base) I.ok.mod.kin hm.kp (z7 (ha pos pins s1 U H1 _ I1 q) λus s2 ⟨vs,H2,I2,r,q2⟩=>⟨I2.kIn,?_⟩) hst hpl;exact Vu (us:= .ref a::us) (vs:= .ref a::vs) F hr hb hd hx I2 (.cons rfl r) q2
theorem Nz (he:PE X o ta)(c:Cls X.K C)(hm:vQ X.K C m f)(F:FnOk X.prog X.w X.K X.mg X.base CX k f fd ps sp)(hr:Room k X.A)(hb:Binds X.K fd ps ds)(hd:Vals dvs ds)(hx:zN CX X E)
  (ht:eval (.Call (.Attribute o m apos) [] [] pos) X.env=(do
   let ov <- eval o X.env
   standAt apos.atName
   let (f,first) <- holding [ov] (getMethod ov m pl)
   callWith pos f first (backTo pos (starEach [] X.env)) (backToKw pos (keywordEach [] X.env))):=by rfl) :
  PE X (.Call (.Attribute o m apos) [] [] pos) (zJ C m sp dvs E ta qM):=by
 intro pins s U H Q I h;refine PySem.W.methodCall_KW (pl:=pl) (z7 (he pins s U H _ I h) λu s1 zq=>?_) ht;obtain ⟨x,H1,I1,rx,a,dx,fs,ex,ea,l,q⟩:=zq;subst ex;obtain rfl:u=Value.ref a:=rx;refine Ju I1 ea c hm l ?_;exact PySem.W.callWith_K0 (first:=[.ref a]) I1.kIn hm.kp (Vu (us:=[.ref a]) (vs:=[.ref a]) F hr hb hd hx I1 (.cons rfl .nil) q)
structure Mk (K:Fg)(C f:Addr):Prop where
 makes:PySem.W.makesIn K C=true
 init:PySem.W.findIn K (.ref C) "__init__"=some (some (.ref f))
 fn:PySem.W.isFn K (.ref f)=true
 kp:PySem.W.keepIn K (.ref C)=true
theorem HC {Q:VK}(M:Mk X.K C f)(F:FnOk X.prog X.w X.K X.mg X.base CX k f fd ps sp)(hr:Room (k+1) X.A)(hb:Binds X.K fd ps ds)(hd:Vals dvs ds)(hx:zN CX X E)(I:Inv X pins U H s)(r:Vals vs us)(h:∀ x dx,H x=none->H dx=none->dx≠x->sp (.ref x::(vs++dvs)) (j9 (j9 H dx (.own x)) x (.ins C dx [])) (λv H2=>v = .non/\Q (.ref x) H2) E):wpAny (model X.prog X.w) X.A (call (.ref C) us) (EP X pins U Q) X.xe s:=by
 have hq:=h (s.heap.objs.size+1) s.heap.objs.size (I.hok.fresh (uw _)) (I.hok.fresh (yY _)) (yJ (uB _));have I2:=Inv.made (C:=C) I;have r2:Vals (V.ref (s.heap.objs.size+1)::(vs++dvs)) (Value.ref (s.heap.objs.size+1)::(us++ds)):= .cons rfl (r.append hd);have hl:(Value.ref (s.heap.objs.size+1)::us++ds).length=ps.length:=by have e:=r2.length;rw [F.len _ _ _ _ hq] at e;exact e.symm
 refine wpAny_call (MI (f:=f) I.kIn M.makes M.init (beq_iff_eq.mp M.fn) (codeAny_mono (F.run _ X.stack _ _ ⟨Value.ref (s.heap.objs.size+1)::us,[]⟩ (Value.ref (s.heap.objs.size+1)::(us++ds)) _ _ E (hr.make C us [])
  (I2.env0.make C us []) (hb _ (Value.ref (s.heap.objs.size+1)::us) I2.kIn hl) r2 hq) λr s' hq'=>?_))
 cases r with
 |error e=>exact hx pins U _ _ e s' I2 hq'
 |ok fl =>
  cases fl with
  |ret u=>obtain ⟨v,H',I3,rv,ev,q3⟩:=I2.after hq';subst ev;exact ⟨rv,⟨V.ref (s.heap.objs.size+1),H',I3,rfl,q3⟩⟩
  |next=>exact False.elim hq'
  |brk=>exact False.elim hq'
  |cont=>exact False.elim hq'
theorem Ny (M:Mk X.K C f)(F:FnOk X.prog X.w X.K X.mg X.base CX k f fd ps sp)(hr:Room (k+1) X.A)(hg:Gl X x)(hm:X.mg x=some (.ref C))(hb:Binds X.K fd ps ds)(hd:Vals dvs ds)(hx:zN CX X E)(ha:PA X (e::es) t)(hdb:(x==("__debug__":Str))=false:=by decide)(he:starEach (e::es) X.env=(false,eval e X.env)::starEach es X.env:=by rfl)(hpl:(backTo pos (starEach es X.env)).any (·.1)=false:=by rfl):PE X (.Call (.Name x p) (e::es) [] pos) (QY C sp dvs E t):=by intro pins s U H Q I h;refine wpAny_Call_Name_kw (XR I hg hm ?_ hdb);refine PySem.W.callWith_K (h₀:=X.base) I.ok.mod.kin M.kp (z7 (ha pos pins s U H _ I h) λus s1 ⟨vs,H1,I1,r,q⟩=>⟨I1.kIn,?_⟩) he hpl;exact HC M F hr hb hd hx I1 r q
end
structure w5 (N P:List Str)(sc:Scope):Prop where
 kind:sc.kind = .function
 co:sc.isCoroutine=false
 gen:sc.isGenerator=false
 nd:N.Nodup
 pre:N.take P.length=P
 par:∀ x∈P,sc.names.lookup x=some .local∨sc.names.lookup x=some .cell
 nofree:∀ y∈sc.names,y.2 ≠ .free
theorem Uu {kindOf:Str->Option NameKind}{x:Str}:∀{binds:List (Str×Value)}{m:Str->Option Value},(∀ v,(x,v)∉binds)->bindL kindOf binds m x=m x
 |[],_,_=>rfl
 |(n,v)::r,m,h=>by
  unfold bindL;rw [Uu λw hw=>h w (yN _ hw)];split
  ·have:x≠n:=by rintro rfl;exact h v yK
   simp [this]
  ·rfl
theorem Us {kindOf:Str->Option NameKind}{x:Str}:∀{binds:List (Str×Value)}{m:Str->Option Value},(∀ v,(x,v)∉binds)->bindC kindOf binds m x=m x
 |[],_,_=>rfl
 |(n,v)::r,m,h=>by
  unfold bindC;rw [Us λw hw=>h w (yN _ hw)];split
  ·rfl
  ·have:x≠n:=by rintro rfl;exact h v yK
   simp [this]
theorem Ut {kindOf:Str->Option NameKind}{x:Str}{v:Value}:∀{P:List Str}{vs:List Value}{i:Nat}{m:Str->Option Value},P.Nodup->P[i]?=some x->vs[i]?=some v->kindOf x=some .local -> bindL kindOf (P.zip vs) m x=some v
 |[],_,_,_,_,h,_,_=>by simp at h
 |_::_,[],_,_,_,_,h,_=>by simp at h
 |p::P,w::vs,0,m,nd,h1,h2,hk=>by
  simp at h1 h2;subst h1;subst h2;show bindL kindOf ((p,w)::P.zip vs) m p=_;unfold bindL;rw [Uu λv hv=>(yh.mp nd).1 (List.of_mem_zip hv).1,if_pos hk];simp
 |p::P,w::vs,i+1,m,nd,h1,h2,hk=>by
  show bindL kindOf ((p,w)::P.zip vs) m x=_;unfold bindL;exact Ut (i:=i) (yh.mp nd).2 (by simpa using h1) (by simpa using h2) hk
theorem Ur {kindOf:Str->Option NameKind}{x:Str}{v:Value}:∀{P:List Str}{vs:List Value}{i:Nat}{m:Str->Option Value},P.Nodup->P[i]?=some x->vs[i]?=some v->kindOf x≠some .local -> bindC kindOf (P.zip vs) m x=some v
 |[],_,_,_,_,h,_,_=>by simp at h
 |_::_,[],_,_,_,_,h,_=>by simp at h
 |p::P,w::vs,0,m,nd,h1,h2,hk=>by
  simp at h1 h2;subst h1;subst h2;show bindC kindOf ((p,w)::P.zip vs) m p=_;unfold bindC;rw [Us λv hv=>(yh.mp nd).1 (List.of_mem_zip hv).1,if_neg hk];simp
 |p::P,w::vs,i+1,m,nd,h1,h2,hk=>by
  show bindC kindOf ((p,w)::P.zip vs) m x=_;unfold bindC;exact Ur (i:=i) (yh.mp nd).2 (by simpa using h1) (by simpa using h2) hk
def start (N:List Str)(vs:List V):St:=vs.map some++List.replicate (N.length-vs.length) none
def qQ (CX:CXT)(P:Program)(w:World)(K:Fg)(mg:Str->Option Value)(base:Heap)(N:List Str)(qual:Str)(scope:Scope)(f:Addr)(cd:Value)(A:Around)(outer:List Env)(s:Shared)(H:Hp)(E:XK):Cx where
 prog:=P
 w:=w
 K:=K
 mg:=mg
 base:=base
 A:=A.deeper (envOfC qual scope s.heap.objs.size f cd)
 N:=N
 s₀:=s
 H₀:=H
 env:=envOfC qual scope s.heap.objs.size f cd
 outer:=outer
 stack:=envOfC qual scope s.heap.objs.size f cd::outer
 ex:=[]
 calm:=true
 fn:=λ_=>true
 pn:=[]
 xe:=λe s'=>wpAny (model P w) (A.deeper (envOfC qual scope s.heap.objs.size f cd)) (leaving (envOfC qual scope s.heap.objs.size f cd) e) (λ_ s''=>CX outer H s E e s'') (λe' s''=>CX outer H s E e' s'') s'
theorem UC {sc:Scope}(h:sc.names.lookup x=some .cell):∃ c,(cellsFrom n sc.names []).lookup x=some c:=by have q:=PySem.W.cellsFrom_some sc.names n [] (.inl h);exact Option.isSome_iff_exists.mp q
theorem DS {f:Addr}{cd:Value}{s1:Shared}{E:XK}(S:w5 N ps scope)(hd:A.handled=none)(e0:Env0 P w K mg base A outer s H)(hl:vs.length=ps.length)(r:Vals vs us)(x:InCallC s s.heap.objs.size (bindL (envOfC qual scope s.heap.objs.size f cd).kindOf (ps.zip us) λ_=>none) (cellsFrom (s.heap.objs.size+1) scope.names []) (bindC (envOfC qual scope s.heap.objs.size f cd).kindOf (ps.zip us) λ_=>none) s1):Inv (qQ CX P w K mg base N qual scope f cd A outer s H E) [] (start N vs) H s1:=by
 have hpl:ps.length<=N.length:=by have:=congrArg List.length S.pre;rw [List.length_take] at this;omega
 obtain ⟨h1,tk,rfl,hk⟩:=x.done;have noA:∀ b:Addr,b∉(qQ CX P w K mg base N qual scope f cd A outer s H E).ex:=λb z=>absurd (show b∈([]:List Addr) from z) (by simp);refine ⟨⟨e0.mod,S.kind,rfl,rfl,yY _,λy z c h1 h2=>?_,λy hy=>?_,λy c _ h=>?_,λ_=>hd,Around.frames_deeper e0.frames,.inr ⟨rfl,rfl⟩,λb z=>absurd z (noA b),e0.bs,e0.bsz,λb _ _=>noA b,λb z=>absurd z (noA b),e0.funs,e0.frf,e0.tbs⟩,
  rfl,e0.bare,Un.kept hk,⟨_,x.toInCall.ns,λi y v h1 h2 h3=>?_⟩,λy c h=>⟨_,x.cell y c h⟩,e0.hok.fresh (yY _),λy c h=>?_,λp hp=>absurd (show p∈([]:List (Addr×Obj)) from hp) (by simp),e0.hok.kept hk,?_⟩
 ·exact name_of_addr x.apart (PySem.mem_of_lookup h1) (PySem.mem_of_lookup h2)
 ·have hy:scope.names.lookup y=some .cell∨scope.names.lookup y=some .free:=hy;rcases hy with hy|hy
  ·exact UC hy
  ·exact absurd rfl (S.nofree _ (PySem.mem_of_lookup hy))
 ·exact uX (x.above y c (PySem.mem_of_lookup h))
 ·have hi:i<vs.length:=by
   unfold start at h2;by_cases hi:i<vs.length
   ·exact hi
   ·rw [yc (by simpa using hi)] at h2;rw [uN] at h2;split at h2<;>cases h2
  have ha:vs[i]?=some v:=by
   unfold start at h2;rw [yn (by simpa using hi),yM] at h2;cases e:vs[i]? with
   |none=>rw [e] at h2;cases h2
   |some a=>rw [e] at h2;cases h2;rfl
  obtain ⟨u,hu,rv⟩:=r.get ha;have hp:ps[i]?=some y:=by rw [<- S.pre,List.getElem?_take_of_lt (by omega)];exact h1
  have ndP:ps.Nodup:=by rw [<- S.pre];exact S.nd.sublist (List.take_sublist _ _)
  refine ⟨u,rv,?_⟩;rcases S.par y (uU hp) with k|k
  ·exact .inl ⟨k,Ut ndP hp hu k⟩
  ·obtain ⟨c,e⟩:=UC (n:=s.heap.objs.size+1) k;refine .inr ⟨.inl k,c,e,?_⟩;have q:=x.cell y c e;rw [Ur ndP hp hu (by show scope.names.lookup y≠_;rw [k];decide)] at q;exact q
 ·exact e0.hok.fresh (uX (x.above y c (PySem.mem_of_lookup h)))
 ·unfold start;show _=N.length;rw [yH,yZ,uF];omega
theorem Jt {k:Nat}{f:Addr}{name:Str}{params:Arguments}{dV kV doc pm cdv ct oc:Value}{an od:Option Addr}{osl:Array (Option Value)}(lk:K.lookup f=some ⟨oc,od,.func (PySem.W.fnOf name qual params body scope dV kV doc pm an cdv ct),osl⟩)(hcd:PySem.W.codeIn K cdv qual=true)(S:w5 N ps scope)(len:∀ vs H Q E,sp vs H Q E->vs.length=ps.length)(hbody:∀(A:Around)(outer:List Env)(s:Shared)(H:Hp)(vs:List V)(Q:VK)(E:XK),Room k (A.deeper (envOfC qual scope s.heap.objs.size f cdv))->sp vs H Q E -> ∃ t,PSs (qQ CX P w K mg base N qual scope f cdv A outer s H E) body t/\t { nx:=λ_ H'=>Q .non H',rt:=Q } (start N vs) H):FnOk P w K mg base CX (k+1) f (PySem.W.fnOf name qual params body scope dV kV doc pm an cdv ct) ps sp:=by
 refine ⟨len,λA outer s H args us vs Q E hr e0 hb r hsp=>?_⟩;have hl:=len _ _ _ _ hsp;have KX:K.In s.heap:=e0.mod.kin.keeps λb o e=>(e0.bs b o e).1;have lim:s.heap.NoLimit:=e0.mod.nolimit.keeps λb o e=>(e0.bs b o e).1;have hkind:∀ y∈ps.zip us,scope.names.lookup y.1=some .local∨(scope.names.lookup y.1=some .cell/\((cellsFrom (s.heap.objs.size+1) scope.names []).lookup y.1).isSome=true):=λ⟨n,v⟩ hy=>by
  rcases S.par n (List.of_mem_zip hy).1 with q|q
  ·exact .inl q
  ·exact .inr ⟨q,PySem.W.cellsFrom_some _ _ _ (.inl q)⟩
 refine codeAny_call_function hr.depth (KX _ _ lk) rfl S.co S.gen rfl (PySem.W.codeRec_of KX hcd) (hb _ _ _ _ ?_);refine wpAny_newFunctionEnv_cells S.kind hkind λenv he s1 x=>?_;subst he;refine ⟨lim.keeps x.toInCall.keep,codeAny_func ?_⟩;obtain ⟨t,ht,hq⟩:=hbody A outer s H vs Q E (hr.deeper _) hsp;have I:Inv (qQ CX P w K mg base N qual scope f cdv A outer s H E) [] (start N vs) H s1:=DS S hr.hd e0 hl r x;refine wpAny_mono (ht [] s1 (start N vs) H _ I hq) (λfl s' hs=>?_) λe s' hs=>hs;have fin:∀{σ':St}{H':Hp}{v:V}{u:Value},Inv (qQ CX P w K mg base N qual scope f cdv A outer s H E) [] σ' H' s'->RelV v u->Q v H'->CE outer P w H s Q u s' :=
  λ{σ' H' v u} J rv q=>⟨v,H',J.os,J.bare,J.base,J.hok,rv,q⟩
 cases fl with
 |ret u=>obtain ⟨v,σ',H',J,rv,q⟩:=hs;exact fin J rv q
 |next=>obtain ⟨σ',H',J,q⟩:=hs;exact fin (v:=V.non) (u:=Value.none) J rfl q
 |brk=>obtain ⟨_,_,_,q⟩:=hs;exact False.elim q
 |cont=>obtain ⟨_,_,_,q⟩:=hs;exact False.elim q
section
variable {X:Cx}{x:Str}{p pos:Pos}{e:Expr}{es:List Expr}{t:TA}{id T:String}{r:List V->Hp->VK->Prop}
def tCB (r:List V->Hp->VK->Prop)(t:TA):TE:=λU H Q=>t U H λvs H1=>r vs H1 Q
theorem p5 (hc:CallR X (.builtin id) r)(hg:Gl X x)(hm:X.mg x=none)(hv:bootBuiltins x=some (.builtin id))(ha:PA X (e::es) t)(hn:x ≠ "__name__":=by decide)(hdb:(x==("__debug__":Str))=false:=by decide)(he:starEach (e::es) X.env=(false,eval e X.env)::starEach es X.env:=by rfl)(hpl:(backTo pos (starEach es X.env)).any (·.1)=false:=by rfl):PE X (.Call (.Name x p) (e::es) [] pos) (tCB r t):=by intro pins s U H Q I h;refine wpAny_Call_Name_kw (jA I hg hm hv ?_ hn hdb);exact PyProof.Rows.callWith_builtin1 (z7 (ha pos pins s U H _ I h) λus s1 ⟨vs,H1,I1,r1,q1⟩=>hc pins s1 U H1 vs us Q I1 r1 q1) he hpl
theorem xJ (hc:CallR X (.type T) r)(hg:Gl X x)(hm:X.mg x=none)(hv:bootBuiltins x=some (.type T))(ha:PA X (e::es) t)(hn:x ≠ "__name__":=by decide)(hdb:(x==("__debug__":Str))=false:=by decide)(he:starEach (e::es) X.env=(false,eval e X.env)::starEach es X.env:=by rfl)(hpl:(backTo pos (starEach es X.env)).any (·.1)=false:=by rfl):PE X (.Call (.Name x p) (e::es) [] pos) (tCB r t):=by intro pins s U H Q I h;refine wpAny_Call_Name_kw (jA I hg hm hv ?_ hn hdb);exact PyProof.Rows.callWith_type1 (z7 (ha pos pins s U H _ I h) λus s1 ⟨vs,H1,I1,r1,q1⟩=>hc pins s1 U H1 vs us Q I1 r1 q1) he hpl
end
end L2
namespace HT
open PySem PyProof.Rows
section
variable {prog:Program}{w:World}{A:Around}{E:Value->Shared->Prop}{s:Shared}
theorem cat_tup {t b:Addr}{vs ws:List Value}{Q:Value->Shared->Prop}(ht:IsTup s.heap t vs.toArray)(hb:IsTup s.heap b ws.toArray)(hv:vs≠[])(h1:ws=[]->Q (.ref t) s)(h2:ws≠[]->Q (.ref s.heap.objs.size) { s with heap:=s.heap.push { cls:= .type "tuple",data:= .seq (vs++ws).toArray } })(hsz:vs.length+ws.length<=sizeLine):wpAny (model prog w) A (binaryOp .Add (.ref t) (.ref b)) Q E s:=by
 obtain ⟨⟨cls,dd,data,sl⟩,ho,hc,n,hd⟩:=id ht;obtain ⟨⟨cls2,dd2,data2,sl2⟩,ho2,hc2,n2,hd2⟩:=id hb;simp only at hc hd hc2 hd2;subst hc hd hc2 hd2;have e:vs.toArray++ws.toArray=(vs++ws).toArray:=by simp
 by_cases hw:ws=[]
 ·exact concat_meets ⟨_,ho,rfl⟩ ⟨_,ho2,rfl⟩ noFill_tuple_add seq_tuple_add PySem.F.slot_tuple_add PySem.F.entry_tuple_add (PySem.F.args_tuple_add_2 _ _)
   (tuple_addW1 t b vs.toArray ws.toArray n n2 dd dd2 sl sl2 (by simpa using hv) (by simp [hw])) ⟨ho,ho2,h1 hw⟩
 ·refine concat_meets ⟨_,ho,rfl⟩ ⟨_,ho2,rfl⟩ noFill_tuple_add seq_tuple_add PySem.F.slot_tuple_add PySem.F.entry_tuple_add (PySem.F.args_tuple_add_2 _ _)
   (tuple_addW2 t b vs.toArray ws.toArray n n2 dd dd2 sl sl2 (by simpa using hv) (by simpa using hw) (by rw [yX,yX];exact hsz)) ⟨ho,ho2,?_⟩
  rw [e];exact h2 hw
def sIx (n d:Nat):Option Int->Nat
 |none=>d
 |some v=>if v<0 then (v+(n:Int)).toNat else min v.toNat n
theorem sIx_none (n d:Nat):sIx n d none=d:=rfl
theorem sIx_nat (n d k:Nat):sIx n d (some (k:Int))=min k n:=by show (if (k:Int)<0 then ((k:Int)+(n:Int)).toNat else min (k:Int).toNat n)=min k n;rw [if_neg (by omega),Int.toNat_natCast]
end
end HT
namespace L2
open PySem PySem.Spec PyProof.Rows
variable{r:R2}{xs:List (b9×Addr×Value)}{j n t':Nat}{α:Type}{pins:List (Addr×Obj)}{U:St}{H H':Hp}{s:Shared}{its its':List Value}{A:Around}{x y:V}{u v:Value}{T:String}{o:Option V}{P:Program}{w:World}{fl:Bool}{kvs:List (b9×V)}{a:Addr}{Q:Value->Shared->Prop}{h':Heap}
abbrev TO:=St->Hp->(Option Int->Hp->Prop)->Prop
def PO (X:Cx)(e:Option Expr)(t:TO):Prop :=
 ∀(pins:List (Addr×Obj))(s:Shared)(U:St)(H:Hp)(Q:Option Int->Hp->Prop),Inv X pins U H s->t U H Q ->
  wpAny (model X.prog X.w) X.A (evalPart e X.env) (λu s'=>∃ o H',Inv X pins U H' s'/\IsPart u o/\Q o H') X.xe s
def BD:TO:=λ_ H Q=>Q none H
def BF (t:TE):TO:=λU H Q=>t U H λx H1=>∃ i,x = .int i/\Q (some i) H1
section
variable {X:Cx}{e:Expr}{te:TE}{lo hi:Option Expr}{tl th:TO}{pos p2:Pos}
theorem QK:PO X none BD:=by intro pins s U H Q I h;rw [evalPart_none];exact yR ⟨none,H,I,.none,h⟩
theorem wF (h:PE X e te):PO X (some e) (BF te):=by intro pins s U H Q I hw;rw [evalPart_some];refine z7 (h pins s U H _ I hw) λu s1 zq=>?_;obtain ⟨x,H1,I1,r1,q1⟩:=zq;obtain ⟨i,rfl,q⟩:=q1;obtain ⟨t,rfl⟩:=r1;exact ⟨some i,H1,I1,.int i t,q⟩
def SlR (X:Cx)(r:V->Option Int->Option Int->Hp->VK->Prop):Prop :=
 ∀(pins:List (Addr×Obj))(s:Shared)(U:St)(H:Hp)(x:V)(v vl vu:Value)(lo hi:Option Int)(sl:Addr)(Q:VK),Inv X pins U H s->RelV x v->s.heap.IsSliceOf sl vl vu .none->IsPart vl lo->IsPart vu hi->r x lo hi H Q ->
  ∃ T id,typeLookup (.type T) "__getitem__"=pure (some (.builtin id))/\s.TypeIs v T/\wpAny (model X.prog X.w) X.A (getItem v (.ref sl)) (EP X pins U Q) X.xe s
def tSl (r:V->Option Int->Option Int->Hp->VK->Prop)(te:TE)(tl th:TO):TE:=λU H Q=>te U H λx H1=>tl U H1 λl H2=>th U H2 λu H3=>r x l u H3 Q
theorem JZ {r:V->Option Int->Option Int->Hp->VK->Prop}(hr:SlR X r)(he:PE X e te)(hl:PO X lo tl)(hu:PO X hi th):PE X (.Subscript e (.Slice lo hi none p2) pos) (tSl r te tl th):=by intro pins s U H Q I h;refine Subscript_ (z7 (he pins s U H _ I h) λv s1 zq=>?_);obtain ⟨x,H1,I1,r1,q1⟩:=zq;refine wpAny_Slice (z7 (hl pins s1 U H1 _ I1 q1) λvl s2 ⟨l,H2,I2,pl,q2⟩=>z7 (hu pins s2 U H2 _ I2 q2) λvu s3 zq=>?_);obtain ⟨u,H3,I3,pu,q3⟩:=zq;rw [evalPart_none];refine yR ?_;have I4:Inv X pins U H3 { s3 with heap:=s3.heap.push { cls:= .type "slice",data:= .fields #[vl,vu,.none] } }:=I3.kept (t':=s3.toks) λb ob q=>yV _ q;obtain ⟨T,id,hT,ht,hg⟩:=hr pins { s3 with heap:=s3.heap.push { cls:= .type "slice",data:= .fields #[vl,vu,.none] } } U H3 x v vl vu l u s3.heap.objs.size Q I4 r1 (Heap.IsSliceOf.new ..) pl pu q3;show wpAny (model X.prog X.w) X.A (subscriptTail e (.Slice lo hi none p2) v (.ref s3.heap.objs.size)) (EP X pins U Q) X.xe { s3 with heap:=s3.heap.push { cls:= .type "slice",data:= .fields #[vl,vu,.none] } };exact tail_any (ops:=[.ref s3.heap.objs.size,v]) ht hT hg (by with_unfolding_all rfl)
def vX (xs:List V)(lo hi:Option Int):List V:=(xs.drop (HT.sIx xs.length 0 lo)).take (HT.sIx xs.length xs.length hi-HT.sIx xs.length 0 lo)
theorem CH (xs:List V)(lo hi:Option Int):(vX xs lo hi).length<=xs.length:=by unfold vX;rw [List.length_take,uH];omega
def Kt (K:Fg):R2:=λx y H Q=>∃ a b xs ys,x = .ref a/\y = .ref b/\SqT K H a xs/\SqT K H b ys/\xs≠[]/\xs.length+ys.length<=sizeLine /\
 (ys=[]->Q (.ref a) H)/\(ys≠[]->∀ p,H p=none->Q (.ref p) (j9 H p (.tup (xs++ys))))
theorem Vals.nil_iff {xs:List V}{us:List Value}(r:Vals xs us):us=[]↔xs=[]:=by
 cases r with
 |nil=>simp
 |cons _ _=>simp
theorem Nd:OpR X (binaryOp .Add) (Kt X.K):=by intro pins s U H x y v u Q I rx ry h;obtain ⟨a,b,xs,ys,rfl,rfl,ha,hb,hx,hz,q1,q2⟩:=h;cases rx;cases ry;obtain ⟨its,r1,p1,_⟩:=I.tuple ha;obtain ⟨its2,r2,p2,_⟩:=I.tuple hb;refine HT.cat_tup p1 p2 (λz=>hx (r1.nil_iff.mp z)) (λz=>⟨.ref a,H,I,rfl,q1 (r2.nil_iff.mp z)⟩) (λz=>?_) (by rw [<- r1.length,<- r2.length];exact hz);refine ⟨.ref s.heap.objs.size,_,I.laid (t':=s.toks) (o:= .tup (xs++ys)) (λb ob q=>yV _ q) (yY _) ?_,rfl,q2 (λw=>z (r2.nil_iff.mpr w)) _ (I.hok.fresh (yY _))⟩;exact ⟨by rw [yH];exact hz,_,r1.append r2,IsTup.new _ _⟩
end
def ixN (n:Nat)(i:Int):Option Nat:=if 0<=i then (if i<n then some i.toNat else none) else if -(n:Int)<=i then some (i+n).toNat else none
def atI {α:Type}(xs:List α)(i:Int):Option α:=(ixN xs.length i).bind λj=>xs[j]?
theorem Gs {i:Int}(h:ixN n i=some j):seqIndex? i n=some j/\j<n/\-(n:Int)<=i/\i<n:=by
 unfold ixN at h;by_cases h0:0<=i
 ·rw [if_pos h0] at h;by_cases h1:i<n
  ·rw [if_pos h1] at h;have e:i.toNat=j:=Option.some.inj h;exact ⟨by rw [seqIndex_of h0 h1,e],by omega,by omega,h1⟩
  ·rw [if_neg h1] at h;cases h
 ·rw [if_neg h0] at h;by_cases h1:-(n:Int)<=i
  ·rw [if_pos h1] at h;have e:(i+n).toNat=j:=Option.some.inj h;exact ⟨by rw [seqIndex_neg (by omega) h1,e],by omega,h1,by omega⟩
  ·rw [if_neg h1] at h;cases h
theorem ZV {xs:List α}{i:Int}{v:α}(h:atI xs i=some v):∃ j,seqIndex? i xs.length=some j/\xs[j]?=some v/\j<xs.length/\-(xs.length:Int)<=i/\i<xs.length:=by
 unfold atI at h;cases e:ixN xs.length i with
 |none=>rw [e] at h;cases h
 |some j=>rw [e] at h;obtain ⟨h1,h2,h3,h4⟩:=Gs e;exact ⟨j,h1,h,h2,h3,h4⟩
theorem zR {xs:List α}{v:α}(h:xs[j]?=some v):atI xs (j:Int)=some v:=by
 have hj:j<xs.length:=(yv.mp h).1;have e:ixN xs.length (j:Int)=some j:=by unfold ixN;rw [if_pos (by omega),if_pos (by omega)];simp
 unfold atI;rw [e];exact h
def Yi (b:Expr):Prop:=∀ o i,subscripted b false o i=operate [o,i] (getItem o i)
def IxR (X:Cx)(r:R2):Prop :=
 ∀(value slice:Expr)(pins:List (Addr×Obj))(s:Shared)(U:St)(H:Hp)(x y:V)(v u:Value)(Q:VK),Inv X pins U H s->RelV x v->RelV y u->r x y H Q ->
  subscripted slice false v u=operate [v,u] (getItem v u)->wpAny (model X.prog X.w) X.A (subscriptTail value slice v u) (EP X pins U Q) X.xe s
def MtR (X:Cx)(id:String)(r:V->List V->Hp->VK->Prop):Prop :=
 ∀(pins:List (Addr×Obj))(s:Shared)(U:St)(H:Hp)(x:V)(xs:List V)(v:Value)(us:List Value)(Q:VK),Inv X pins U H s->RelV x v->Vals xs us->r x xs H Q ->
  wpAny (model X.prog X.w) X.A (call (.builtin id) (v::us)) (EP X pins U Q) X.xe s
section
variable {X:Cx}{a b:Expr}{ta tb:TE}{pos:Pos}
theorem IxR.or {r':R2}(h:IxR X r)(h':IxR X r'):IxR X (λx y H Q=>r x y H Q∨r' x y H Q):=by
 intro value slice pins s U H x y v u Q I rx ry q hs;rcases q with q|q
 ·exact h value slice pins s U H x y v u Q I rx ry q hs
 ·exact h' value slice pins s U H x y v u Q I rx ry q hs
theorem QI (hr:IxR X r)(ha:PE X a ta)(hb:PE X b tb)(hs:Yi b):PE X (.Subscript a b pos) (tOp r ta tb):=by intro pins s U H Q I h;exact Subscript_ (binT ha hb I h λv u s2 x y H2 I2 rx ry q=>hr a b pins s2 U H2 x y v u Q I2 rx ry q (hs _ _))
def rIxL (K:Fg):R2:=λx y H Q=>∃ p xs i v,x = .ref p/\y = .int i/\SqL K H p xs/\atI xs i=some v/\Q v H
def rIxT (K:Fg):R2:=λx y H Q=>∃ p xs i v,x = .ref p/\y = .int i/\SqT K H p xs/\atI xs i=some v/\Q v H
def rIxS:R2:=λx y H Q=>∃ z i c,x = .str z/\y = .int i/\z.length<=sizeLine/\atI z.cps.toList i=some c/\Q (.str ⟨#[c]⟩) H
theorem ix_list:IxR X (rIxL X.K):=by
 intro value slice pins s U H x y v u Q I rx ry h hs;obtain ⟨p,xs,i,z,rfl,rfl,hq,he,q⟩:=h;cases rx;obtain ⟨t,rfl⟩:=ry;obtain ⟨its,r,pl,hz⟩:=I.list hq;obtain ⟨j,h1,h2,h3,h4,h5⟩:=ZV he;obtain ⟨w,ew,rw'⟩:=r.get h2;have hl:=r.length;have hn:=vq;have fin:EP X pins U Q w s:=⟨z,H,I,rw',q⟩;by_cases h0:0<=i
 ·have hj:i.toNat=j:=by rw [seqIndex_of h0 h5] at h1;exact Option.some.inj h1
  exact item_listR pl.isList h0 (by omega) (by rw [hj];simpa using ew) fin hs
 ·have hj:(i+(its.toArray.size:Int)).toNat=j:=by rw [seqIndex_neg (by omega) h4] at h1;rw [yX,<- hl];exact Option.some.inj h1
  exact subscriptTail_builtinR (x:=w) pl.isList.typeIs slot_list_getitem.lookup
   (wpAny_getItem_list_neg (Q:=λr s'=>r=w/\EP X pins U Q r s') pl.isList (by omega) (by rw [yX]<;>omega) (by omega) (by rw [hj];simpa using ew) ⟨rfl,fin⟩) hs
theorem ix_tup:IxR X (rIxT X.K):=by
 intro value slice pins s U H x y v u Q I rx ry h hs;obtain ⟨p,xs,i,z,rfl,rfl,hq,he,q⟩:=h;cases rx;obtain ⟨t,rfl⟩:=ry;obtain ⟨its,r,pl,hz⟩:=I.tuple hq;obtain ⟨j,h1,h2,h3,h4,h5⟩:=ZV he;obtain ⟨w,ew,rw'⟩:=r.get h2;have hl:=r.length;have hn:=vq;have fin:EP X pins U Q w s:=⟨z,H,I,rw',q⟩;exact subscriptTail_builtinR (x:=w) pl.typeIs slot_tuple_getitem.lookup
  (getItem_tuple (j:=j) (Q:=λr s'=>r=w/\EP X pins U Q r s') pl (by omega) (by omega) (by rw [yX,<- hl];exact h1) (by simpa using ew) ⟨rfl,fin⟩) hs
theorem Md:IxR X rIxS:=by
 intro value slice pins s U H x y v u Q I rx ry h hs;obtain ⟨z,i,c,rfl,rfl,hz,he,q⟩:=h;obtain ⟨t,rfl⟩:=rx;obtain ⟨t',rfl⟩:=ry;obtain ⟨j,h1,h2,h3,h4,h5⟩:=ZV he;have hl:z.cps.toList.length=z.length:=by simp [Str.length]
 rw [hl] at h1 h4 h5;have hn:=vq;exact tail_any (typeIs_str s z t) slot_str_getitem.lookup (getItem_str (c:=c) (by
  have e1:decide (i < -(2 ^ 63:Int))=false:=yO (by omega);have e2:decide (i >= 2 ^ 63)=false:=yO (by omega);rw [e1,e2,Bool.or_false]) (by rw [h1];simpa using h2) ⟨.str ⟨#[c]⟩,H,I.tok _,⟨_,rfl⟩,q⟩) hs
def rIx (K:Fg):R2:=λx y H Q=>rIxL K x y H Q∨rIxT K x y H Q∨rIxS x y H Q
theorem Mb:IxR X (rIx X.K):=ix_list.or (ix_tup.or Md)
theorem ML (its:List Value)(n j:Nat)(u:Value):Obj.mapSeq (·.setIfInBounds j u) { cls:= .type "list",data:= .seq its.toArray n }={ cls:= .type "list",data:= .seq (its.set j u).toArray n }:=by simp [Obj.mapSeq]
theorem Inv.lst {pins:List (Addr×Obj)}{U:St}{H:Hp}{s:Shared}{p:Addr}{xs:List V}(I:Inv X pins U H s)(h:H p=some (.lst xs)):∃ (its:List Value) (n:Nat),Vals xs its/\s.heap.get? p=some { cls:= .type "list",data:= .seq its.toArray n }/\xs.length<=sizeLine:=by obtain ⟨z,its,n,r,e⟩:=I.hok p _ h;exact ⟨its,n,r,e,z⟩
theorem Inv.lstUpd {p:Addr}{xs ys:List V}{n':Nat}{f:Obj->Obj}(I:Inv X pins U H s)(h:H p=some (.lst xs))(ho:s.heap.get? p=some { cls:= .type "list",data:= .seq its.toArray n })(hf:f { cls:= .type "list",data:= .seq its.toArray n }={ cls:= .type "list",data:= .seq its'.toArray n' })(r:Vals ys its')(hz:ys.length<=sizeLine)(t:Nat):Inv X pins U (j9 H p (.lst ys)) { s with heap:=s.heap.update p f,toks:=t }:=by
 have e:(s.heap.update p f).get? p=some { cls:= .type "list",data:= .seq its'.toArray n' }:=by rw [Heap.get?_update_self f ho (by rw [hf]<;>rfl),hf]
 refine I.write (x:=p) (e:=p) (by rw [h];trivial) (.inl rfl) (λb u hb q=>(Heap.get?_update_other _ _ (Ne.symm hb)).trans q) ⟨_,e⟩ ?_;exact ⟨hz,its',n',r,e⟩
def KE:V->V->V->Hp->(Hp->Prop)->Prop:=λo i v H Q=>∃ p xs k j,o = .ref p/\i = .int k/\H p=some (.lst xs)/\ixN xs.length k=some j/\Q (j9 H p (.lst (xs.set j v)))
theorem Bg:PSet X KE:=by
 intro pins s U H o i v ov iv u Q I ro ri rv h;obtain ⟨p,xs,k,j,rfl,rfl,hp,hj,q⟩:=h;cases ro;obtain ⟨t,rfl⟩:=ri;obtain ⟨its,n,r,ho,hz⟩:=I.lst hp;obtain ⟨h1,h2,h3,h4⟩:=Gs hj;have hl:=r.length;have hn:=vq;have I':Inv X pins U (j9 H p (.lst (xs.set j v))) { s with heap:=s.heap.update p (Obj.mapSeq (·.setIfInBounds j u)) } :=
  I.lstUpd hp ho (ML its n j u) (r.set rv j) (by rw [yf];exact hz) s.toks
 by_cases h0:0<=k
 ·have hk:k.toNat=j:=by rw [seqIndex_of h0 h4] at h1;exact Option.some.inj h1
  exact PySem.W.ki_setAt ho h0 (by omega) (by rw [yX,<- hl];exact h4) (by rw [hk];exact ⟨_,I',q⟩)
 ·have hk:(k+(its.toArray.size:Int)).toNat=j:=by rw [seqIndex_neg (by omega) h3] at h1;rw [yX,<- hl];exact Option.some.inj h1
  exact PySem.W.ki_setBack ho (by omega) (by rw [yX,<- hl];exact h3) (by omega) (by rw [hk];exact ⟨_,I',q⟩)
theorem Ry (lo hi:Option Int)(n:Nat):(sliceBounds lo hi none n).1=((HT.sIx n 0 lo:Nat):Int)/\(sliceBounds lo hi none n).2.1=((HT.sIx n n hi:Nat):Int)/\(sliceBounds lo hi none n).2.2=1:=by
 refine ⟨?_,?_,rfl⟩
 ·cases lo with
  |none=>simp [sliceBounds,HT.sIx]
  |some i =>
   simp only [sliceBounds,HT.sIx,ur,show (1:Int) > 0 by decide,if_true];by_cases h:i<0
   ·simp only [h,if_true]<;>omega
   ·simp only [h,if_false]<;>omega
 ·cases hi with
  |none=>simp [sliceBounds,HT.sIx]
  |some i =>
   simp only [sliceBounds,HT.sIx,ur,show (1:Int) > 0 by decide,if_true];by_cases h:i<0
   ·simp only [h,if_true]<;>omega
   ·simp only [h,if_false]<;>omega
theorem Rx (its:List Value)(lo hi:Option Int):slicePick its.toArray lo hi none=((its.drop (HT.sIx its.length 0 lo)).take (HT.sIx its.length its.length hi-HT.sIx its.length 0 lo)).toArray:=by obtain ⟨h1,h2,h3⟩:=Ry lo hi its.toArray.size;unfold slicePick;rw [h1,h2,h3];simp only [sliceRange_one,pick_run,yX]<;>rfl
def rSlL (K:Fg):V->Option Int->Option Int->Hp->VK->Prop:=λx lo hi H Q=>∃ a xs,x = .ref a/\SqL K H a xs/\∀ p,H p=none->Q (.ref p) (j9 H p (.lst (vX xs lo hi)))
theorem Rv:SlR X (rSlL X.K):=by intro pins s U H x v vl vu lo hi sl Q I rx hs pl pu h;obtain ⟨a,xs,rfl,hx,q⟩:=h;cases rx;obtain ⟨its,r,ht,hz⟩:=I.list hx;have hlen:=r.length;refine ⟨"list",_,slot_list_getitem.lookup,ht.isList.typeIs,?_⟩;refine wpAny_getItem_list_slice ht.isList hs pl pu .none (by simp) ?_ (by rw [yX]<;>omega);rw [Rx,<- hlen];refine ⟨.ref s.heap.objs.size,_,I.laid (t':=s.toks) (o:= .lst (vX xs lo hi)) (λb ob q=>yV _ q) (yY _) ?_,rfl,q _ (I.hok.fresh (yY _))⟩;exact ⟨yr (CH xs lo hi) hz,_,0,(r.drop (HT.sIx xs.length 0 lo)).take (HT.sIx xs.length xs.length hi-HT.sIx xs.length 0 lo),yI _ rfl⟩
def g0:V->Bool
 | .non=>true
 | .bl _=>true
 | .int _=>true
 | .str _=>true
 |_=>false
def qd:V->V->Bool
 | .non,.non=>true
 | .bl a,.bl b=>a==b
 | .bl a,.int b=>(if a then 1 else 0)==b
 | .int a,.bl b=>a==(if b then 1 else 0)
 | .int a,.int b=>a==b
 | .str a,.str b=>a==b
 |_,_=>false
theorem Jj (ry:RelV y u)(rx:RelV x v)(fy:g0 y=true)(fx:g0 x=true):SeqAt.EqAt A s u v (qd y x):=by
 cases y with
 |non =>
  cases ry;cases x with
  |non=>cases rx;exact SeqAt.EqAt.same _
  |bl b=>cases rx;exact SeqAt.EqAt.none_bool b
  |int b=>obtain ⟨t,rfl⟩:=rx;exact SeqAt.EqAt.none_int b t
  |str b=>obtain ⟨t,rfl⟩:=rx;exact SeqAt.EqAt.none_str b t
  |_=>exact absurd (show false=true from fx) yU
 |bl a =>
  cases ry;cases x with
  |non=>cases rx;exact SeqAt.EqAt.bool_none a
  |bl b=>cases rx;exact SeqAt.EqAt.bool_bool a b
  |int b=>obtain ⟨t,rfl⟩:=rx;exact SeqAt.EqAt.bool_int a b t
  |str b=>obtain ⟨t,rfl⟩:=rx;exact SeqAt.EqAt.bool_str a b t
  |_=>exact absurd (show false=true from fx) yU
 |int a =>
  obtain ⟨t',rfl⟩:=ry;cases x with
  |non=>cases rx;exact SeqAt.EqAt.int_none a t'
  |bl b=>cases rx;exact SeqAt.EqAt.int_bool a t' b
  |int b=>obtain ⟨t,rfl⟩:=rx;exact SeqAt.EqAt.int_int a t' b t
  |str b=>obtain ⟨t,rfl⟩:=rx;exact SeqAt.EqAt.int_str a t' b t
  |_=>exact absurd (show false=true from fx) yU
 |str a =>
  obtain ⟨t',rfl⟩:=ry;cases x with
  |non=>cases rx;exact SeqAt.EqAt.str_none a t'
  |bl b=>cases rx;exact SeqAt.EqAt.str_bool a t' b
  |int b=>obtain ⟨t,rfl⟩:=rx;exact SeqAt.EqAt.str_int a t' b t
  |str b=>obtain ⟨t,rfl⟩:=rx;exact SeqAt.EqAt.str_str a t' b t
  |_=>exact absurd (show false=true from fx) yU
 |_=>exact absurd (show false=true from fy) yU
def eqU (x:V)(u:Value):Bool:=match u with
 | .none=>qd .non x
 | .bool b=>qd (.bl b) x
 | .int i _=>qd (.int i) x
 | .str z _=>qd (.str z) x
 |_=>false
theorem UY (r:RelV y u)(f:g0 y=true):eqU x u=qd y x:=by
 cases y with
 |non=>cases r;rfl
 |bl b=>cases r;rfl
 |int i=>obtain ⟨t,rfl⟩:=r;rfl
 |str z=>obtain ⟨t,rfl⟩:=r;rfl
 |_=>exact absurd (show false=true from f) yU
theorem wZ {x:V}:∀{xs:List V}{us:List Value},Vals xs us->xs.all g0=true->us.any (eqU x)=xs.any λy=>qd y x
 |_,_,.nil,_=>rfl
 |y::xs,u::us,.cons r t,f=>by
  rw [List.all_cons,yp] at f;rw [List.any_cons,List.any_cons,UY r f.1,wZ t f.2]
theorem QB {A:Around}{s:Shared}{x:V}{v:Value}(rx:RelV x v)(fx:g0 x=true):∀{xs:List V}{us:List Value},Vals xs us->xs.all g0=true->∀ u∈us,SeqAt.EqAt A s u v (eqU x u)
 |_,_,.nil,_=>λu hu=>by cases hu
 |y::xs,u::us,.cons r t,f=>λu' hu=>by
  rw [List.all_cons,yp] at f;rcases yP.mp hu with rfl|hu
  ·rw [UY r f.1];exact Jj r rx f.1 fx
  ·exact QB rx fx t f.2 u' hu
def inV (x:V)(xs:List V):Bool:=xs.any λy=>qd y x
def rIn (K:Fg)(neg:Bool):R2:=λx y H Q=>∃ p xs,y = .ref p/\(SqL K H p xs∨SqT K H p xs)/\g0 x=true/\xs.all g0=true/\Q (.bl (if neg then !inV x xs else inV x xs)) H
theorem Nf:OpR X (compareOp .In) (rIn X.K false):=by
 intro pins s U H x y v u Q I rx ry h;obtain ⟨p,xs,rfl,hq,fx,fs,q⟩:=h;cases ry;rcases hq with hq|hq
 ·obtain ⟨its,r,pl,hz⟩:=I.list hq;refine SeqAt.in_listAt (eqU x) pl.isList (λw hw=>QB rx fx r fs w (by simpa using hw)) ⟨.bl _,H,I,rfl,?_⟩;rw [show its.toArray.any (eqU x)=its.any (eqU x) by simp,wZ r fs];exact q
 ·obtain ⟨its,r,pl,hz⟩:=I.tuple hq;refine SeqAt.in_tupleAt (eqU x) pl (λw hw=>QB rx fx r fs w (by simpa using hw)) ⟨.bl _,H,I,rfl,?_⟩;rw [show its.toArray.any (eqU x)=its.any (eqU x) by simp,wZ r fs];exact q
theorem Nj:OpR X (compareOp .NotIn) (rIn X.K true):=by
 intro pins s U H x y v u Q I rx ry h;obtain ⟨p,xs,rfl,hq,fx,fs,q⟩:=h;cases ry;rcases hq with hq|hq
 ·obtain ⟨its,r,pl,hz⟩:=I.list hq;refine SeqAt.notIn_listAt (eqU x) pl.isList (λw hw=>QB rx fx r fs w (by simpa using hw)) ⟨.bl _,H,I,rfl,?_⟩;rw [show its.toArray.any (eqU x)=its.any (eqU x) by simp,wZ r fs];exact q
 ·obtain ⟨its,r,pl,hz⟩:=I.tuple hq;refine SeqAt.notIn_tupleAt (eqU x) pl (λw hw=>QB rx fx r fs w (by simpa using hw)) ⟨.bl _,H,I,rfl,?_⟩;rw [show its.toArray.any (eqU x)=its.any (eqU x) by simp,wZ r fs];exact q
theorem Ck:CallR X (.builtin "len") (λxs H Q=>∃ p ys,xs=[.ref p]/\(SqL X.K H p ys∨SqT X.K H p ys)/\Q (.int ys.length) H):=by
 intro pins s U H xs us Q I r h;obtain ⟨p,ys,rfl,hq,q⟩:=h;obtain ⟨u,rfl,rx⟩:=xN r;cases rx;have hn:=vq;rcases hq with hq|hq
 ·obtain ⟨its,r',pl,hz⟩:=I.list hq;have hlen:=r'.length;exact Calls.call_len_list pl.isList (by simp only [yX]<;>omega) ⟨.int ys.length,H,I.tok _,⟨s.toks+1,by rw [yX,hlen]⟩,q⟩
 ·obtain ⟨its,r',pl,hz⟩:=I.tuple hq;have hlen:=r'.length;exact len_tuple pl (by simp only [yX]<;>omega) ⟨.int ys.length,H,I.tok _,⟨s.toks+1,by rw [yX,hlen]⟩,q⟩
theorem CallR.or {f:Value}{r r':List V->Hp->VK->Prop}(h:CallR X f r)(h':CallR X f r'):CallR X f (λxs H Q=>r xs H Q∨r' xs H Q):=by
 intro pins s U H xs us Q I rs q;rcases q with q|q
 ·exact h pins s U H xs us Q I rs q
 ·exact h' pins s U H xs us Q I rs q
theorem Cn:CallR X (.type "list") (λxs H Q=>∃ p ys,xs=[.ref p]/\(SqL X.K H p ys∨SqT X.K H p ys)/\∀ l,H l=none->Q (.ref l) (j9 H l (.lst ys))):=by
 intro pins s U H xs us Q I r h;obtain ⟨p,ys,rfl,hq,q⟩:=h;obtain ⟨u,rfl,rx⟩:=xN r;cases rx;have fin:∀(its:List Value),Vals ys its->ys.length<=sizeLine->∀(h':Heap)(c':Nat),(∀ b o',s.heap.get? b=some o'->h'.get? b=some o') ->
   h'.get? s.heap.objs.size=some { cls:= .type "list",dict:=none,data:= .seq its.toArray c',slots:=#[] }->EP X pins U Q (.ref s.heap.objs.size) { s with heap:=h' }:=λits r' hz h' c' kp e =>
  ⟨.ref s.heap.objs.size,_,I.laid (t':=s.toks) kp (yY _) (show ObjOk X.prog X.w _ h' _ (.lst ys) from ⟨hz,its,c',r',e⟩),rfl,q _ (I.hok.fresh (yY _))⟩
 rcases hq with hq|hq
 ·obtain ⟨its,r',pl,hz⟩:=I.list hq;have hlen:=r'.length;obtain ⟨o,ho,hc,n,hd⟩:=pl.isList;exact call_list_seq p (.inl rfl) ho hc hd (λh' c' kp e=>fin its r' hz h' c' kp e) (by simp only [yX]<;>omega)
 ·obtain ⟨its,r',pl,hz⟩:=I.tuple hq;have hlen:=r'.length;obtain ⟨o,ho,hc,n,hd⟩:=pl;exact call_list_seq p (.inr rfl) ho hc hd (λh' c' kp e=>fin its r' hz h' c' kp e) (by simp only [yX]<;>omega)
theorem Cw:CallR X (.type "tuple") (λxs H Q=>∃ p ys,xs=[.ref p]/\((SqL X.K H p ys/\∀ l,H l=none->Q (.ref l) (j9 H l (.tup ys)))∨(SqT X.K H p ys/\Q (.ref p) H))):=by
 intro pins s U H xs us Q I r h;obtain ⟨p,ys,rfl,h⟩:=h;obtain ⟨u,rfl,rx⟩:=xN r;cases rx;rcases h with ⟨hq,q⟩|⟨hq,q⟩
 ·obtain ⟨its,r',pl,hz⟩:=I.list hq;have hlen:=r'.length;refine call_tuple_list pl.isList (λh' kp=>?_) (by simp only [yX]<;>omega);have I1:Inv X pins U H { s with heap:=h' }:=I.kept (t':=s.toks) kp;have I2:Inv X pins U (j9 H h'.objs.size (.tup ys)) { s with heap:=h'.push { cls:= .type "tuple",data:= .seq its.toArray } } :=
   I1.laid (t':=s.toks) (λb o e=>yV _ e) (yY _) (show ObjOk X.prog X.w _ _ _ (.tup ys) from ⟨hz,its,r',IsTup.new _ _⟩)
  exact ⟨.ref h'.objs.size,_,I2,rfl,q _ (I1.hok.fresh (yY _))⟩
 ·obtain ⟨its,r',pl,hz⟩:=I.tuple hq;exact call_tuple_same pl ⟨.ref p,H,I,rfl,q⟩
def tyV (K:Fg)(T:String)(x:V)(H:Hp):Prop:=match x with
 | .str _=>T = "str"
 | .int _=>T = "int"
 | .ref p=>(T = "list"/\∃ xs,SqL K H p xs)∨(T = "tuple"/\∃ o,K.lookup p=some o/\o.cls = .type "tuple"/\o.dict=none) ∨
   (T = "dict"/\((∃ kvs,H p=some (.dK kvs))∨∃ fl as kvs,H p=some (.dT fl as kvs)))∨(T = "set"/\∃ S n,H p=some (.set S n))
 |_=>False
theorem Tb (I:Inv X pins U H s)(r:RelV x v)(ty:tyV X.K T x H):s.TypeIs v T/\∀ a,v = .ref a->∃ ob,s.heap.get? a=some ob/\ob.dict=none:=by
 cases x with
 |str z=>obtain ⟨t,rfl⟩:=r;cases (show T = "str" from ty);exact ⟨typeIs_str s z t,λ_ e=>nomatch e⟩
 |int i=>obtain ⟨t,rfl⟩:=r;cases (show T = "int" from ty);exact ⟨typeIs_int s i t,λ_ e=>nomatch e⟩
 |ref p =>
  cases r;rcases ty with ⟨rfl,xs,hq⟩|⟨rfl,o,hk,hc,hd⟩|⟨rfl,hk⟩|⟨rfl,S,n,hk⟩
  ·obtain ⟨its,_,pl,_⟩:=I.list hq;refine ⟨pl.isList.typeIs,λa e=>?_⟩;cases e;obtain ⟨o,n,e,c,hd,_⟩:=pl;exact ⟨o,e,hd⟩
  ·refine ⟨⟨o,I.kIn p o hk,hc⟩,λa e=>?_⟩;cases e;exact ⟨o,I.kIn _ o hk,hd⟩
  ·have z:∃ o,s.heap.get? p=some o/\o.ExactDict:=by
    rcases hk with ⟨kvs,hk⟩|⟨fl,as,kvs,hk⟩
    ·obtain ⟨_,_,_,_,o,_,_,e,ex,_⟩:=I.hok p _ hk;exact ⟨o,e,ex⟩
    ·obtain ⟨_,_,_,_,o,_,_,e,ex,_⟩:=I.hok p _ hk;exact ⟨o,e,ex⟩
   obtain ⟨o,e,ex⟩:=z;refine ⟨⟨o,e,ex.1⟩,λa e2=>?_⟩;cases e2;exact ⟨o,e,ex.2.1⟩
  ·obtain ⟨o,_,_,_,e,ex,_⟩:=I.hok p _ hk;refine ⟨⟨o,e,ex.1⟩,λa e2=>?_⟩;cases e2;exact ⟨o,e,ex.2.1⟩
 |_=>exact False.elim ty
def tBM (K:Fg)(T:String)(r:V->List V->Hp->VK->Prop)(to:TE)(t:TA):TE:=λU H Q=>to U H λx H1=>tyV K T x H1/\t U H1 λxs H2=>r x xs H2 Q
variable {o e:Expr}{es:List Expr}{to:TE}{t:TA}{name:Str}{apos cpos:Pos}{T id:String}{r:V->List V->Hp->VK->Prop}
theorem pe_bm (pa:PlainAttrs T)(slot:Slot T name id)(hty:typeOf (.builtin id)=pure (.type "method_descriptor"))(hm:MtR X id r)(ho:PE X o to)(ha:PA X (e::es) t)(hbase:attributeBase o name X.env (eval o X.env)=eval o X.env:=by rfl)(hfew:((backTo cpos (starEach (e::es) X.env)).all (λx=>!x.1)&&(backToKw cpos (keywordEach [] X.env)).all (λx=>x.1.isSome)&&decide ((e::es).length+([]:List Keyword).length+(if ([]:List Keyword).isEmpty then 0 else 1)<30))=true:=by rfl)(hline:(apos.endLine==cpos.line)=true:=by rfl)(hs:starEach (e::es) X.env=(false,eval e X.env)::starEach es X.env:=by rfl)(hplain:(backTo cpos (starEach es X.env)).any (·.1)=false:=by rfl):PE X (.Call (.Attribute o name apos) (e::es) [] cpos) (tBM X.K T r to t):=by intro pins s U H Q I h;refine wpAny_Call_method_late hbase hfew hline rfl (z7 (ho pins s U H _ I h) λv s1 zq=>?_);obtain ⟨x,H1,I1,r1,ty,q1⟩:=zq;obtain ⟨h1,h2⟩:=Tb I1 r1 ty;refine ⟨T,id,pa,slot,hty,h1,h2,?_⟩;have hA:=ha cpos pins s1 U H1 _ I1 q1;rw [hs] at hA ⊢;refine Calls.callWith_builtin (by show (false || (backTo cpos (starEach es X.env)).any (·.1))=false;rw [hplain]<;>rfl) (Calls.evalArgs_plain ?_);exact z7 hA λus s2 ⟨vs,H2,I2,r2,q2⟩=>hm pins s2 U H2 x vs v us Q I2 r1 r2 q2
end
def MtM (X:Cx)(id:String)(r:V->List V->Hp->VK->Prop):Prop :=
 ∀(pins:List (Addr×Obj))(s:Shared)(U:St)(H:Hp)(x:V)(xs:List V)(v:Value)(us:List Value)(Q:VK),Inv X pins U H s->RelV x v->Vals xs us->r x xs H Q ->
  wpAny (model X.prog X.w) X.A (call (.builtin id) (v::us)) (EP X pins U Q) X.xe s
theorem Vals.one:∀{x:V}{us:List Value},Vals [x] us->∃ u,us=[u]/\RelV x u
 |_,_,.cons r .nil=>⟨_,rfl,r⟩
theorem Vals.eraseIdx:∀{xs:List V}{us:List Value}(i:Nat),Vals xs us->Vals (xs.eraseIdx i) (us.eraseIdx i)
 |_,_,_,.nil=> .nil
 |_,_,0,.cons _ t=>t
 |_,_,i+1,.cons r t=> .cons r (Vals.eraseIdx i t)
theorem GA {α:Type}:∀(l:List α)(i:Nat),(l.eraseIdx i).length<=l.length
 |[],_=>yY _
 |_::_,0=>uw _
 |_::r,i+1=>Nat.succ_le_succ (GA r i)
section
variable {X:Cx}{pins:List (Addr×Obj)}{U:St}{H:Hp}{s:Shared}{l b:Addr}{xs ys zs:List V}
theorem Inv.lset {f:Array Value->Array Value}(I:Inv X pins U H s)(hH:H l=some (.lst xs))(e:s.heap.get? l=some { cls:= .type "list",data:= .seq its.toArray n })(hf:f its.toArray=its'.toArray)(hv:Vals ys its')(hz:ys.length<=sizeLine):Inv X pins U (j9 H l (.lst ys)) { s with heap:=s.heap.update l (Obj.mapSeq f),toks:=t' }:=by have q:=PySem.IsL.update e f;rw [hf] at q;refine I.write (x:=l) (e:=l) (by rw [hH];exact trivial) (.inl rfl) (λb' u hb hu=>(Heap.get?_update_other s.heap (Obj.mapSeq f) (Ne.symm hb)).trans hu) ⟨_,q⟩ ?_;exact ⟨hz,its',_,hv,q⟩
theorem Inv.lnew (I:Inv X pins U H s)(hv:Vals ys its)(hz:ys.length<=sizeLine):Inv X pins U (j9 H s.heap.objs.size (.lst ys)) { s with heap:=s.heap.push { cls:= .type "list",data:= .seq its.toArray },toks:=t' } :=
 I.laid (λ_ _ q=>yV _ q) (yY _) ⟨hz,its,0,hv,yI _ rfl⟩
theorem Inv.fresh (I:Inv X pins U H s):H s.heap.objs.size=none:=I.hok.fresh (yY _)
theorem Inv.lstM (I:Inv X pins U H s)(hH:H l=some (.lst xs)):xs.length<=sizeLine/\∃ (its:List Value) (n:Nat),Vals xs its/\xs.length=its.length/\s.heap.get? l=some { cls:= .type "list",data:= .seq its.toArray n }:=by obtain ⟨z,its,n,r,e⟩:=I.hok l _ hH;exact ⟨z,its,n,r,r.length,e⟩
end
section
variable {X:Cx}
def Vl:V->List V->Hp->VK->Prop:=λx vs H Q=>∃ l xs y,x = .ref l/\vs=[y]/\H l=some (.lst xs)/\xs.length<sizeLine/\Q .non (j9 H l (.lst (xs++[y])))
theorem JR:MtM X "list.append" Vl:=by intro pins s U H x vs v us Q I rx rv h;obtain ⟨l,xs,y,rfl,rfl,hH,hz,q⟩:=h;cases rx;obtain ⟨u,rfl,ru⟩:=rv.one;obtain ⟨z,its,n,r,hl,e⟩:=I.lstM hH;refine call_meets F.slot_list_append ⟨_,e,rfl⟩ F.entry_list_append (F.args_list_append_2 _ _) (PySem.list_append l its.toArray n u (by rw [yX];omega)) ⟨e,?_⟩;refine ⟨.non,_,I.lset (its':=its++[u]) hH e (by simp) (r.append (.cons ru .nil)) ?_,rfl,q⟩;rw [yH,List.length_singleton];omega
def KD:V->List V->Hp->VK->Prop:=λx vs H Q=>∃ l xs i k y,x = .ref l/\vs=[.int i]/\H l=some (.lst xs)/\-(2 ^ 63)<=i/\i<2 ^ 63/\seqIndex? i xs.length=some k/\xs[k]?=some y/\Q y (j9 H l (.lst (xs.eraseIdx k)))
theorem MP:MtM X "list.pop" KD:=by
 intro pins s U H x vs v us Q I rx rv h;obtain ⟨l,xs,i,k,y,rfl,rfl,hH,h1,h2,hk,hy,q⟩:=h;cases rx;obtain ⟨u,rfl,ru⟩:=rv.one;obtain ⟨t,rfl⟩:=ru;obtain ⟨z,its,n,r,hl,e⟩:=I.lstM hH;obtain ⟨w,hw,rw'⟩:=r.get hy;refine call_meets F.slot_list_pop ⟨_,e,rfl⟩ F.entry_list_pop (F.args_list_pop_2 _ _)
  (MeetsSeq.list_pop_at l its.toArray n i t k w (fitsIndex_both h1 h2) (by rw [yX,<- hl];exact hk) (by rw [<- uE];exact hw) (by rw [yX];omega)) ⟨e,?_⟩
 refine ⟨y,_,I.lset (its':=its.eraseIdx k) hH e ?_ (r.eraseIdx k) ?_,rw',q⟩
 ·show its.toArray.eraseIdxIfInBounds k=(its.eraseIdx k).toArray;rw [List.eraseIdxIfInBounds_toArray]
 ·have:=GA xs k;omega
end
section
variable {κ:Type}[DecidableEq κ]
def qN (kvs:List (κ×V))(k:κ):Option V:=(kvs.find? λkv=>decide (kv.1=k)).map (·.2)
def xY (kvs:List (κ×V))(k:κ)(v:V):List (κ×V) :=
 if (kvs.any λkv=>decide (kv.1=k))=true then kvs.map (λkv=>if kv.1=k then (kv.1,v) else kv) else kvs++[(k,v)]
theorem WW {p:κ×V}{r:List (κ×V)}{k:κ}(e:p.1=k):qN (p::r) k=some p.2:=by simp [qN,uR,e]
theorem WV {p:κ×V}{r:List (κ×V)}{k:κ}(e:¬ p.1=k):qN (p::r) k=qN r k:=by simp [qN,uR,e]
theorem ZQ (k:κ):∀ kvs:List (κ×V),(kvs.any λkv=>decide (kv.1=k))=(qN kvs k).isSome
 |[]=>rfl
 |p::r=>by
  rw [List.any_cons];by_cases e:p.1=k
  ·simp only [WW e,yy e,Bool.true_or,Option.isSome_some]
  ·rw [WV e,yO e,Bool.false_or];exact ZQ k r
theorem GC (kvs:List (κ×V))(k:κ)(v:V):(xY kvs k v).length<=kvs.length+1:=by
 unfold xY;split
 ·rw [yZ];omega
 ·rw [yH,yS,List.length_nil];omega
theorem RelO.isSome_eq {u:Option Value}(r:RelO o u):o.isSome=u.isSome:=by
 cases o with
 |none=>cases u with
  |none=>rfl
  |some _=>exact (show False from r).elim
 |some _=>cases u with
  |none=>exact (show False from r).elim
  |some _=>rfl
theorem KV.val {kvs:List (κ×V)}{vs:List (κ×Value)}(r:KV kvs vs)(k:κ):RelO (qN kvs k) (valueAt vs k):=by
 unfold KV at r
 induction r with
 |nil=>exact True.intro
 |@cons p q ps qs h t ih =>
  obtain ⟨h1,h2⟩:=h;by_cases e:p.1=k
  ·have e':q.1=k:=h1.symm.trans e;have b:valueAt (q::qs) k=some q.2:=by simp [valueAt,uR,e']
   rw [WW e,b];exact h2
  ·have e':¬ q.1=k:=λz=>e (h1.trans z);have b:valueAt (q::qs) k=valueAt qs k:=by simp [valueAt,uR,e']
   rw [WV e,b];exact ih
theorem KV.any {kvs:List (κ×V)}{vs:List (κ×Value)}(r:KV kvs vs)(k:κ):(kvs.any λkv=>decide (kv.1=k))=vs.any λkv=>decide (kv.1=k):=by
 unfold KV at r
 induction r with
 |nil=>rfl
 |cons h t ih=>rw [List.any_cons,List.any_cons,ih,h.1]
theorem KV.repl {kvs:List (κ×V)}{vs:List (κ×Value)}(r:KV kvs vs)(k:κ)(ry:RelV y u):KV (kvs.map λkv=>if kv.1=k then (kv.1,y) else kv) (vs.map λkv=>if kv.1=k then (kv.1,u) else kv):=by
 unfold KV at r ⊢
 induction r with
 |nil=>exact .nil
 |@cons p q ps qs h t ih =>
  rw [yT,yT];refine .cons ?_ ih;obtain ⟨h1,h2⟩:=h;by_cases e:p.1=k
  ·rw [if_pos e,if_pos (h1.symm.trans e)];exact ⟨h1,ry⟩
  ·rw [if_neg e,if_neg (λz=>e (h1.trans z))];exact ⟨h1,h2⟩
theorem KV.put {kvs:List (κ×V)}{vs:List (κ×Value)}(r:KV kvs vs)(k:κ)(ry:RelV y u):KV (xY kvs k y) (stored vs k u):=by
 unfold xY stored;rw [r.any k];by_cases e:(vs.any λkv=>decide (kv.1=k))=true
 ·rw [if_pos e,if_pos e];exact r.repl k ry
 ·rw [if_neg e,if_neg e];exact Paired.snoc r ⟨rfl,ry⟩
theorem KV.length {kvs:List (κ×V)}{vs:List (κ×Value)}(r:KV kvs vs):kvs.length=vs.length:=Paired.length r
end
theorem wg {k:v9}(r:RelV (kV k) u):(qe P w).is k u=true:=by
 cases k with
 |inl i=>obtain ⟨t,e⟩:=(show ∃ t,u=Value.int i t from r);subst e;exact MO P w i t
 |inr x=>obtain ⟨t,e⟩:=(show ∃ t,u=Value.str x t from r);subst e;exact JQ P w x t
theorem XO {P:Program}{w:World}:∀{ks:List v9}{us:List Value},Vals (ks.map kV) us->ItemsAre (qe P w) ks us
 |[],_,r=>by rw [List.map_nil] at r;cases r;exact .nil
 |k::ks,_,r=>by
  rw [yT] at r;cases r with
  |cons h t=>exact .cons (wg h) (XO t)
abbrev KT (fl:Bool)(H:Hp):List (b9×V)->List (b9×Addr×Value)->Prop:=Paired λp q=>p.1=q.1/\KeyH fl H q.2.1 p.1/\RelV p.2 q.2.2
theorem KT.val (r:KT fl H kvs xs)(k:b9):RelO (qN kvs k) ((atKey xs k).map (·.2)):=by
 induction r with
 |nil=>exact True.intro
 |@cons p q ps qs h t ih =>
  obtain ⟨h1,_,h2⟩:=h;by_cases e:p.1=k
  ·have e':q.1=k:=h1.symm.trans e;have b:atKey (q::qs) k=some q.2:=by simp [atKey,uR,e']
   rw [WW e,b];exact h2
  ·have e':¬ q.1=k:=λz=>e (h1.trans z);have b:atKey (q::qs) k=atKey qs k:=by simp [atKey,uR,e']
   rw [WV e,b];exact ih
theorem KT.repl (r:KT fl H kvs xs)(k:b9)(ry:RelV y u):KT fl H (kvs.map λkv=>if kv.1=k then (kv.1,y) else kv) (xs.map (putAt k u)):=by
 induction r with
 |nil=>exact .nil
 |@cons p q ps qs h t ih =>
  rw [yT,yT];refine .cons ?_ ih;obtain ⟨h1,h2,h3⟩:=h;unfold putAt;by_cases e:p.1=k
  ·rw [if_pos e,if_pos (h1.symm.trans e)];exact ⟨h1,h2,ry⟩
  ·rw [if_neg e,if_neg (λz=>e (h1.trans z))];exact ⟨h1,h2,h3⟩
theorem KT.put (r:KT fl H kvs xs)(k:b9){b:Addr}(hb:KeyH fl H b k)(ry:RelV y u):KT fl H (xY kvs k y) (storedH xs k b u):=by
 have e:(kvs.any λkv=>decide (kv.1=k))=(atKey xs k).isSome:=by rw [ZQ,(r.val k).isSome_eq,Option.isSome_map]
 unfold xY storedH;rw [e];by_cases q:(atKey xs k).isSome=true
 ·rw [if_pos q,if_pos q];exact r.repl k ry
 ·rw [if_neg q,if_neg q];exact Paired.snoc r ⟨rfl,hb,ry⟩
theorem KT.keeps (r:KT fl H kvs xs)(ht:∀ b ys,H b=some (.tup ys)->H' b=some (.tup ys)):KT fl H' kvs xs :=
 Paired.mapP r λ_ _ z=>⟨z.1,z.2.1.keeps ht,z.2.2⟩
section
variable {P:Program}{w:World}{H:Hp}{h:Heap}{a:Addr}
theorem KP {u:HO}(ok:HOk P w H h)(e:Rd H a u):ObjOk P w H h a u:=e.ok ok
theorem va {kvs:List (v9×V)}(ok:HOk P w H h)(e:Rd H a (.dK kvs)):kvs.length<=sizeLine/\(a==sysModules)=false/\∃ vs,KV kvs vs/\h.DictOf (qe P w) a vs :=
 show ObjOk P w H h a (.dK kvs) from KP ok e
theorem dk_of {kvs:List (v9×V)}(ok:HOk P w H h)(e:H a=some (.dK kvs)):kvs.length<=sizeLine/\(a==sysModules)=false/\∃ vs,KV kvs vs/\h.DictOf (qe P w) a vs:=va ok (.inl e)
theorem Qp {ks:b9}(ok:HOk P w H h)(e:KeyH fl H a ks):(Nk.anyKind fl (qe P w)).is h ks a:=by
 rcases e with ⟨rfl,n0,e1⟩|⟨rfl,c,e1,e2⟩
 ·obtain ⟨_,its,r,o,h1,h2,n,h3⟩:=(show ObjOk P w H h a (.tup (ks.2.map kV)) from ok a _ e1);exact ⟨n0,o,its.toArray,n,h1,h2,h3,by simpa using XO r⟩
 obtain ⟨_,its,r,o,h1,h2,n,h3⟩:=(show ObjOk P w H h a (.tup (.ref c::ks.2.map kV)) from ok a _ e1);obtain ⟨_,its',r',o',g1,g2,n',g3⟩:=(show ObjOk P w H h c (.tup (ks.1.map kV)) from ok c _ e2);cases r with
 |cons q t=>cases (show _=Value.ref c from q);exact ⟨o,c,_,n,h1,h2,h3,⟨o',its'.toArray,n',g1,g2,g3,by simpa using XO r'⟩,XO t⟩
theorem UT {as:List Addr}(ok:HOk P w H h)(e:Rd H a (.dT fl as kvs)):kvs.length<=sizeLine/\(a==sysModules)=false /\ ∃ xs,KT fl H kvs xs/\h.DictOfH (Nk.anyKind fl (qe P w)) a xs/\xs.map (·.2.1)=as:=by
 obtain ⟨z,y,xs,r,o,es,ep,h1,h2,h3,h4,h5,h6⟩:=(show ObjOk P w H h a (.dT fl as kvs) from KP ok e);refine ⟨z,y,xs,r,⟨o,es,ep,h1,h2,h3,h4,λx hx=>?_,h5⟩,h6⟩;have all:∀{l:List (b9×V)}{m:List (b9×Addr×Value)},KT fl H l m->∀ x∈m,(Nk.anyKind fl (qe P w)).is h x.1 x.2.1:=by
  intro l m q
  induction q with
  |nil=>intro x hx;exact nomatch hx
  |@cons p q ps qs hq t ih =>
   intro x hx;rcases yP.mp hx with e|hx
   ·subst e;exact Qp ok (by rw [<- hq.1];exact hq.2.1)
   ·exact ih x hx
 exact all r x hx
theorem Xy (ok:HOk P w H h)(e:∃ as,Rd H a (.dT fl as kvs)):kvs.length<=sizeLine/\(a==sysModules)=false /\ ∃ xs,KT fl H kvs xs/\h.DictOfH (Nk.anyKind fl (qe P w)) a xs:=by obtain ⟨as,e⟩:=e;obtain ⟨z,y,xs,r,q,_⟩:=UT ok e;exact ⟨z,y,xs,r,q⟩
end
def DGet (H:Hp)(a:Addr)(y:V)(r:Option V):Prop :=
 (∃ kvs k,Rd H a (.dK kvs)/\y=kV k/\r=qN kvs k)∨∃ fl kvs k b,(∃ as,Rd H a (.dT fl as kvs))/\y = .ref b/\KeyH fl H b k/\r=qN kvs k
def putA (as:List Addr)(kvs:List (b9×V))(k:b9)(b:Addr):List Addr:=if (kvs.any λkv=>decide (kv.1=k))=true then as else as++[b]
theorem KT.putA (r:KT fl H kvs xs)(k:b9)(b:Addr)(u:Value):(storedH xs k b u).map (·.2.1)=L2.putA (xs.map (·.2.1)) kvs k b:=by
 have e:(kvs.any λkv=>decide (kv.1=k))=(atKey xs k).isSome:=by rw [ZQ,(r.val k).isSome_eq,Option.isSome_map]
 unfold L2.putA storedH;rw [e];by_cases q:(atKey xs k).isSome=true
 ·rw [if_pos q,if_pos q,yz];refine List.map_congr_left λx _=>?_;show (putAt k u x).2.1=x.2.1;unfold putAt;split<;>rfl
 ·rw [if_neg q,if_neg q,yu];rfl
def DPut (H:Hp)(a:Addr)(y v:V)(H':Hp):Prop :=
 (∃ kvs k,H a=some (.dK kvs)/\y=kV k/\kvs.length<sizeLine/\H'=j9 H a (.dK (xY kvs k v))) ∨
 ∃ fl as kvs k b,H a=some (.dT fl as kvs)/\y = .ref b/\KeyH fl H b k/\kvs.length<sizeLine/\H'=j9 H a (.dT fl (putA as kvs k b) (xY kvs k v))
theorem DGet.k {kvs:List (v9×V)}{k:v9}(e:H a=some (.dK kvs)):DGet H a (kV k) (qN kvs k):= .inl ⟨kvs,k,.inl e,rfl,rfl⟩
theorem DPut.k {kvs:List (v9×V)}{k:v9}{v:V}(e:H a=some (.dK kvs))(hl:kvs.length<sizeLine):DPut H a (kV k) v (j9 H a (.dK (xY kvs k v))):= .inl ⟨kvs,k,e,rfl,hl,rfl⟩
section
variable {X:Cx}{pins:List (Addr×Obj)}{U:St}{H:Hp}{s:Shared}{a:Addr}{y v:V}{u r:Value}{o:Option V}{A:Around}{E:Value->Shared->Prop}
theorem Inv.big (I:Inv X pins U H s):sysModules<s.heap.objs.size:=by have h:mainGlobals<s.heap.objs.size:=(I.mod.glob.keeps I.bk).lt;exact Nat.lt_trans (by decide) h
theorem CM (hu:A.units+2<cLine)(I:Inv X pins U H s)(g:DGet H a y (some v))(ry:RelV y u)(h:∀ w' s',Inv X pins U H s'->RelV v w'->Q w' s'):wpAny (model X.prog X.w) A (getItem (.ref a) u) Q E s:=by
 rcases g with ⟨kvs,k,e,ey,l⟩|⟨fl,kvs,k,b,e,ey,eb,l⟩
 ·subst ey;obtain ⟨z,hd,vs,rel,dd⟩:=va I.hok e;obtain ⟨w',hw,rw'⟩:=RelO.some_of (v:=v) (o:=valueAt vs k) (by rw [l];exact rel.val k);exact wpAny_getItem_of (wg ry) dd.mapOf hw (h w' _ (I.tok _) rw')
 ·subst ey;cases (show u=Value.ref b from ry);obtain ⟨z,hd,xs,rel,dd⟩:=Xy I.hok e;obtain ⟨w',hw,rw'⟩:=RelO.some_of (v:=v) (o:=(atKey xs k).map (·.2)) (by rw [l];exact rel.val k);obtain ⟨p,hp,hp2⟩:=yF.mp hw;refine wpAny_getItem_heap (Nk.any_room hu) (Qp I.hok eb) dd hp ?_;rw [hp2];exact h w' _ (I.tok _) rw'
theorem d_in (hu:A.units+2<cLine)(I:Inv X pins U H s)(g:DGet H a y o)(ry:RelV y u)(h:∀ s',Inv X pins U H s'->Q (.bool o.isSome) s'):wpAny (model X.prog X.w) A (compareOp .In u (.ref a)) Q E s:=by
 rcases g with ⟨kvs,k,e,ey,l⟩|⟨fl,kvs,k,b,e,ey,eb,l⟩
 ·subst ey;obtain ⟨z,hd,vs,rel,dd⟩:=va I.hok e;refine wpAny_in_of (wg ry) hd dd.mapOf ?_;rw [<- (rel.val k).isSome_eq,<- l];exact h _ (I.tok _)
 ·subst ey;cases (show u=Value.ref b from ry);obtain ⟨z,hd,xs,rel,dd⟩:=Xy I.hok e;refine wpAny_in_heap (Nk.any_room hu) (Qp I.hok eb) hd dd ?_;have q:=(rel.val k).isSome_eq;rw [Option.isSome_map] at q;rw [<- q,<- l];exact h _ (I.tok _)
theorem CN (hu:A.units+2<cLine)(I:Inv X pins U H s)(g:DGet H a y o)(ry:RelV y u)(h:∀ s',Inv X pins U H s'->Q (.bool (!o.isSome)) s'):wpAny (model X.prog X.w) A (compareOp .NotIn u (.ref a)) Q E s:=by
 rcases g with ⟨kvs,k,e,ey,l⟩|⟨fl,kvs,k,b,e,ey,eb,l⟩
 ·subst ey;obtain ⟨z,hd,vs,rel,dd⟩:=va I.hok e;refine wpAny_notIn_of (wg ry) hd dd.mapOf ?_;rw [<- (rel.val k).isSome_eq,<- l];exact h _ (I.tok _)
 ·subst ey;cases (show u=Value.ref b from ry);obtain ⟨z,hd,xs,rel,dd⟩:=Xy I.hok e;refine wpAny_notIn_heap (Nk.any_room hu) (Qp I.hok eb) hd dd ?_;have q:=(rel.val k).isSome_eq;rw [Option.isSome_map] at q;rw [<- q,<- l];exact h _ (I.tok _)
theorem UQ {ob:HO}(I:Inv X pins U H s)(mu:Mut (H a))(hs:Heap.SameBut a s.heap h')(he:∃ q,h'.get? a=some q)(new:ObjOk X.prog X.w (j9 H a ob) h' a ob):Inv X pins U (j9 H a ob) { s with heap:=h',toks:=t' } :=
 I.write (x:=a) (e:=a) mu (.inl rfl) (λb q hb z=>(hs.2 b hb).trans z) he new
theorem US {kvs:List (v9×V)}{vs:List (v9×Value)}(z:kvs.length<=sizeLine)(hd:(a==sysModules)=false)(rel:KV kvs vs)(dd:h'.DictOf (qe P w) a vs):ObjOk P w H' h' a (.dK kvs):=⟨z,hd,vs,rel,dd⟩
theorem CO {Q:Unit->Shared->Prop}(hu:A.units+2<cLine)(I:Inv X pins U H s)(g:DPut H a y v H')(ry:RelV y u)(rv:RelV v r)(h:∀ s',Inv X pins U H' s'->Q () s'):wpAny (model X.prog X.w) A (setItem (.ref a) u r) Q E s:=by
 rcases g with ⟨kvs,k,e,ey,l,eH⟩|⟨fl,as,kvs,k,b,e,ey,eb,l,eH⟩
 ·subst ey eH;obtain ⟨z,hd,vs,rel,dd⟩:=dk_of I.hok e;have hz:vs.length<=sizeLine:=by rw [<- rel.length];exact z
  have hl:(xY kvs k v).length<=sizeLine:=by have:=GC kvs k v;omega
  refine wpAny_setItem_pairs (hsz:=hz) (wg ry) dd λh' dd' hs=>h _ ?_;have he:∃ q,h'.get? a=some q:=let ⟨q,_,_,hq,_⟩:=dd';⟨q,hq⟩
  exact UQ I (by rw [e];exact True.intro) hs he (US hl hd (rel.put k rv) dd')
 ·subst ey eH;cases (show u=Value.ref b from ry);obtain ⟨z,hd,xs,rel,dd,ha⟩:=UT I.hok (.inl e);have hz:xs.length<=sizeLine:=by rw [<- Paired.length rel];exact z
  have hl:(xY kvs k v).length<=sizeLine:=by have:=GC kvs k v;omega
  refine wpAny_setItem_heap (hsz:=hz) (Nk.any_room hu) (Qp I.hok eb) dd λh' dd' hs=>h _ ?_;obtain ⟨q,es,ep,hq,h2,h3,h4,_,h5⟩:=dd';refine UQ I (by rw [e];exact True.intro) hs ⟨q,hq⟩ ⟨hl,hd,_,(rel.put k eb rv).keeps λc ys ec=>?_,q,es,ep,hq,h2,h3,h4,h5,by rw [rel.putA k b,ha]⟩;rw [v6 (ne_of ec e (λz=>nomatch z))];exact ec
end
section
variable {X:Cx}{pins:List (Addr×Obj)}{U:St}{H:Hp}{s:Shared}{a:Addr}{kvs:List (v9×V)}{k:v9}{u:Value}{A:Around}{E:Value->Shared->Prop}
theorem d_len (I:Inv X pins U H s)(e:Rd H a (.dK kvs))(h:∀ t s',Inv X pins U H s'->Q (.int kvs.length t) s'):wpAny (model X.prog X.w) A (call (.builtin "len") [.ref a]) Q E s:=by obtain ⟨z,hd,vs,rel,dd⟩:=va I.hok e;refine call_len_dict hd dd (by rw [<- rel.length];rw [sizeLine_eq] at z;omega) ?_;rw [<- rel.length];exact h _ _ (I.tok _)
end
def NoSl (i:Expr):Prop:=∀ ov iv,subscripted i false ov iv=operate [ov,iv] (getItem ov iv)
theorem RN {prog:Program}{E:Value->Shared->Prop}{env:Env}{value slice:Expr}{pos:Pos}{id:String}(hl:typeLookup (.type T) "__getitem__"=pure (some (.builtin id)))(hs:NoSl slice)(h:wpAny (model prog w) A (eval value env) (λo s₁=>wpAny (model prog w) A (eval slice env) (λi s₂=>s₂.TypeIs o T/\wpAny (model prog w) A (getItem o i) Q E s₂) E s₁) E s):wpAny (model prog w) A (eval (.Subscript value slice pos) env) Q E s:=by
 refine Subscript_ (wpAny_mono h (λo s₁ h₁=>wpAny_mono h₁ (λi s₂ h₂=>?_) λ_ _ x=>x) λ_ _ x=>x);obtain ⟨hT,h₂⟩:=h₂;unfold subscriptTail;refine yW ?_;rw [getitemInPython_of_ne hT.not_modules];refine yW (wpAny_specialOf hT hl ?_);have fin:wpAny (model prog w) A (subscripted slice false o i) (λr s₃=>wpAny (model prog w) A (letTemporaryGo value o r >>= λ_=>pure r) Q E s₃) E s₂:=by rw [hs o i];exact wpAny_operating (wpAny_mono h₂ (λr s₃ h₃=>yW (wpAny_letTemporaryGo (yR h₃))) λ_ _ x=>x)
 first
  |exact yR (yW fin)
  |exact yW (yR (yW fin))
  |exact yW fin
theorem CQ {X:Cx}(I:Inv X pins U H s)(g:DGet H a y o):s.TypeIs (.ref a) "dict":=by
 rcases g with ⟨kvs,k,e,_,_⟩|⟨fl,kvs,k,b,e,_,_,_⟩
 ·obtain ⟨_,_,vs,_,dd⟩:=va I.hok e;exact dd.typeIs
 ·obtain ⟨_,_,xs,_,dd⟩:=Xy I.hok e;exact dd.typeIs
def By (td ty:TE):TE:=λU H Q=>td U H λx H1=>ty U H1 λy H2=>∃ a v,x = .ref a/\DGet H2 a y (some v)/\Q v H2
def tDIn (ty td:TE):TE:=λU H Q=>ty U H λy H1=>td U H1 λx H2=>∃ a o,x = .ref a/\DGet H2 a y o/\Q (.bl o.isSome) H2
def BA (ty td:TE):TE:=λU H Q=>ty U H λy H1=>td U H1 λx H2=>∃ a o,x = .ref a/\DGet H2 a y o/\Q (.bl (!o.isSome)) H2
def Bb (td ty tv:TE):TS:=λD U H=>tv U H λv H1=>td U H1 λx H2=>ty U H2 λy H3=>∃ a H4,x = .ref a/\DPut H3 a y v H4/\D.nx U H4
section
variable {X:Cx}{o i e value:Expr}{pos pos' tpos:Pos}{td ty tv:TE}
theorem Kb (hu:X.A.units+2<cLine)(ho:PE X o td)(hi:PE X i ty)(hs:NoSl i):PE X (.Subscript o i pos) (By td ty):=by intro pins s U H Q I h;refine RN PySem.F.slot_dict_getitem.lookup hs (z7 (ho pins s U H _ I h) λu s1 ⟨x,H1,I1,rx,q1⟩=>z7 (hi pins s1 U H1 _ I1 q1) λiv s2 zq=>?_);obtain ⟨y,H2,I2,ry,a,v,ex,g,q2⟩:=zq;subst ex;obtain rfl:u=Value.ref a:=rx;exact ⟨CQ I2 g,CM hu I2 g ry λw' s3 I3 rw'=>⟨v,H2,I3,rw',q2⟩⟩
theorem Nt (hu:X.A.units+2<cLine)(hi:PE X i ty)(ho:PE X o td):PC X .In i o (tDIn ty td):=by intro pins s U H Q I h;refine z7 (hi pins s U H _ I h) λiv s1 ⟨y,H1,I1,ry,q1⟩=>z7 (ho pins s1 U H1 _ I1 q1) λu s2 zq=>?_;obtain ⟨x,H2,I2,rx,a,ov,ex,g,q2⟩:=zq;subst ex;obtain rfl:u=Value.ref a:=rx;exact d_in hu I2 g ry λs3 I3=>⟨.bl ov.isSome,H2,I3,rfl,q2⟩
theorem Nu (hu:X.A.units+2<cLine)(hi:PE X i ty)(ho:PE X o td):PC X .NotIn i o (BA ty td):=by intro pins s U H Q I h;refine z7 (hi pins s U H _ I h) λiv s1 ⟨y,H1,I1,ry,q1⟩=>z7 (ho pins s1 U H1 _ I1 q1) λu s2 zq=>?_;obtain ⟨x,H2,I2,rx,a,ov,ex,g,q2⟩:=zq;subst ex;obtain rfl:u=Value.ref a:=rx;exact CN hu I2 g ry λs3 I3=>⟨.bl (!ov.isSome),H2,I3,rfl,q2⟩
theorem NU (hu:X.A.units+2<cLine)(ho:PE X o td)(hi:PE X i ty)(hv:PE X value tv)(hs:swapsWith value (some (.Subscript o i pos')) pos.line X.env=pure false):PS X (.Assign [.Subscript o i pos'] value pos) (Bb td ty tv):=by intro pins s U H D I h;refine wpAny_Assign_Subscript (z7 (hv pins s U H _ I h) λr s1 ⟨v,H1,I1,rv,q1⟩=>z7 (ho pins s1 U H1 _ I1 q1) λu s2 ⟨x,H2,I2,rx,q2⟩=>z7 (hi pins s2 U H2 _ I2 q2) λiv s3 zq=>?_) hs;obtain ⟨y,H3,I3,ry,a,H4,ex,g,q3⟩:=zq;subst ex;obtain rfl:u=Value.ref a:=rx;exact CO hu I3 g ry rv λs4 I4=>⟨U,H4,I4,q3⟩
end
theorem CU (h:Heap)(hb:sysModules<h.objs.size):ObjOk P w H (h.push { cls:= .type "dict",data:= .dict #[] }) h.objs.size (.dK []) :=
 ⟨yo _,beq_eq_false_iff_ne.mpr (Ne.symm (yJ hb)),[],.nil,Heap.DictOf.new h⟩
def Bz:TE:=λ_ H Q=>∀ p,H p=none->Q (.ref p) (j9 H p (.dK []))
section
variable {X:Cx}{pos:Pos}
theorem Nw:PE X (.Dict [] [] pos) Bz:=λpins s U H Q I h =>
 wpAny_Dict_empty ⟨.ref s.heap.objs.size,_,I.laid (a:=s.heap.objs.size) (o:= .dK []) (t':=s.toks) (λ_ _ q=>yV _ q) (yY _) (CU s.heap I.big),rfl,h _ (I.hok.fresh (yY _))⟩
end
end L2
namespace Att
open PySem PySem.W PySem.Calls PyProof.Rows
variable{P:Params}{h:Heap}{l:OpenLaw}{n:Nat}
theorem DQ :∀(ns:List Int)(vs:List Value),WellAll P h vs (ns.map WData.int)->IntsAre vs ns:=by
 intro ns
 induction ns with
 |nil=>intro vs w;rw [List.map_nil] at w;cases w;exact .nil
 |cons n ns ih =>
  intro vs w;rw [yT] at w;cases w with
  |cons a b=>cases a;exact .cons _ _ (ih _ b)
theorem Rm (hn:l.most=some n){args:List WData}{vals:List Value}(hpre:l.row.toRowW.claim.pre args=true)(hwl:WellAll P h vals args):∃ a vs ns,vals=[Value.ref a]/\args=[WData.list (ns.map WData.int)]/\h.get? a=some { cls:= .type "list",data:= .seq vs.toArray }/\IntsAre vs ns/\ns.length<=n:=by
 have hsh:WShape.hasAll [] args [.list .int]=true:=(pre_splitW hpre).1;have hc:l.pre.holds [] { args:=args }=true:=(pre_splitW hpre).2;obtain ⟨d,r,rfl,h1,h2⟩:=hasAllW_cons hsh;obtain rfl:=hasAllW_nil h2;obtain ⟨xs,rfl,h3⟩:=hasW_list h1;obtain ⟨ns,rfl⟩:=items_int h3;have hlen:ns.length<=n:=by
  unfold OpenLaw.pre at hc;have h4:(WTm.not (.lt (.lit (.int (n:Int))) (.len (.arg 0)))).holds [] { args:=[.list (ns.map .int)] }=true:=by have h4:=(holds_andW hc).1;rw [hn] at h4;exact h4
  have h5:=condW_of h4 (w_not (w_lt w_lit (w_len_list (w_arg rfl))));rw [yZ] at h5;refine Nat.le_of_not_lt λq=>?_;have q':(n:Int)<((ns.length:Nat):Int):=by omega
  first
   |(rw [yy q'] at h5;exact absurd h5 (by decide))
   |(simp at h5;omega)
 cases hwl with
 |cons w1 w2 =>
  cases w2;cases w1 with
  |list ho hall=>exact ⟨_,_,ns,rfl,rfl,ho,DQ ns _ hall,hlen⟩
theorem NT (l:OpenLaw)(args:List WData):l.row.toRowW.claim.post args (.bool true) args=true :=
 postW_of (r:=l.row.toRowW) (X:=(true==true))
  (show WShape.has [] (.bool true) .bool=true by first|rfl|decide|simp [WShape.has,WShape.arms,WShape.armsAll])
  (show (WTm.eq .res (.lit (.bool true))).value [] { args:=args,res:=some (.bool true),after:=args }=some (.bool (true==true)) from w_eq_bool (w_res rfl) w_lit) rfl
theorem attach_call {q:Program}{loose:List Str}{XP:(Str->Option Value)->Heap->Prop}{YP:World->Heap->Prop}{d:DefRec}(hn:l.most=some n)(hdf:d.params.defaults=[])(call:∀ (w:World) (s₀ s₁:Shared) (mg mb:Str->Option Value) (fa:Addr) (o:Obj) (pm cd doc:Value) (a:Addr) (vs:List Value) (ns:List Int), Ground q loose [] XP w s₀ mg mb s₁.heap->YP w s₁.heap -> s₁.heap.get? fa=some o->o.data = .func (docDef d.name d.params d.body d.scope pm cd doc)->s₁.heap.CodeRec cd d.name->mg d.name=some (.ref fa) -> s₁.heap.get? a=some { cls:= .type "list",data:= .seq vs.toArray }->IntsAre vs ns->ns.length<=n->s₁.gens=#[] -> codeAny (model l.prog w) callerA (.call (.ref fa) ⟨[.ref a],[]⟩) (λr s'=>r = .ok (.ret (.bool true))/\OldK s₁.heap s'.heap/\s'.os=s₁.os/\AllBare s'.gens) s₁):WalkO q loose XP YP l.row.toRowW d [] (λf vs=>PySem.call f vs):=by intro w s₀ s₁ mg mb G Y fa o pm cd doc dV kV ho hd hcd hD hmg hg args vals as hpre hlay hrd hwl hlo;obtain rfl:dV = .none:=Dflts.none hD hdf;obtain rfl:kV = .none:=Dflts.noKw hD;obtain ⟨a,vs,ns,rfl,rfl,hobj,hints,hlen⟩:=Rm hn hpre hwl;refine enter_call (codeAny_mono (call w s₀ s₁ mg mb fa o pm cd doc a vs ns G Y ho (fd_plain hd) hcd hmg hobj hints hlen hg) λr s' hq=>?_);obtain ⟨rfl,h2,h3,h4⟩:=hq;exact ⟨.inl ⟨.bool true,.bool true,[],rfl,λ_=>rfl,.bool true,NT l _,λ_=>⟨List.Pairwise.nil,λ_ hm=>(nomatch hm)⟩⟩,h2,h3,h4⟩
end Att
namespace L2
open PySem PySem.Spec PyProof.Rows
variable{K:Fg}{a f:Addr}{fd:FuncData}{qual x:Str}{sp:Sp}{n:Nat}{st:Stmt}{ps:List Str}{A B:Prop}{H H':Hp}
theorem BW:∀{vs:List Value}{ns:List Int},IntsAre vs ns->Vals (ns.map V.int) vs
 |_,_,.nil=> .nil
 |_,_,.cons n t h=> .cons ⟨t,rfl⟩ (BW h)
def Only (H:Hp):Prop:=∀ b,H b=none∨(∃ o xs,H b=some (.frz o (.lst xs)))∨∃ p∈TABS,p.1=b/\H b=some (.tbl p.2.1 p.2.2)
structure vV (K:Fg)(h:Heap):Prop where
 at_:∀ p∈TABS,h.get? p.1=some { cls:= .none,data:= .fields p.2.1 }
 tri:∀ p∈TABS,TriplesOk p.2.1.toList
 non:∀ p∈TABS,∀ q∈p.2.2,codeAmong q.1 p.2.1.toList=none
 tab:∀ p∈TABS,isCodeTable h p.1
 one:∀ p∈TABS,∀ q∈TABS,p.1=q.1->p=q
 out:∀ p∈TABS,K.lookup p.1=none
def zc:Hp:=λb=>(TABS.find? λp=>p.1==b).map λp=> .tbl p.2.1 p.2.2
theorem ZM {b:Addr}{u:HO}(h:zc b=some u):∃ p∈TABS,p.1=b/\u = .tbl p.2.1 p.2.2:=by unfold zc at h;obtain ⟨p,e,r⟩:=yF.mp h;exact ⟨p,List.mem_of_find?_eq_some e,by have:=List.find?_some e;simpa using this,r.symm⟩
theorem BI {h:Heap}(T:vV K h){p:Addr×Array Value×List (Pos×Str)}(hp:p∈TABS):zc p.1=some (.tbl p.2.1 p.2.2):=by
 unfold zc;cases e:TABS.find? λq=>q.1==p.1 with
 |none=>exact absurd (List.find?_eq_none.mp e p hp) (by simp)
 |some q =>
  have e1:q.1=p.1:=by have:=List.find?_some e;simpa using this
  rw [T.one q (List.mem_of_find?_eq_some e) p hp e1];rfl
theorem Ms {P:Program}{w:World}{mg mb:Str->Option Value}{CX:CXT}{k:Nat}{fa:Addr}{s₁:Shared}{vs:List Value}{ns:List Int}(KX:K.In s₁.heap)(T:vV K s₁.heap)(hns:s₁.heap.Ns mainGlobals mg)(hb:s₁.heap.Ns builtinsNs mb)(hbb:∀ x:Str,x ≠ "__name__"->mb x=bootBuiltins x)(hlim:s₁.heap.NoLimit)(hbm:∃ bm ob,mg "__builtins__"=some (.ref bm)/\bm≠builtinsNs/\s₁.heap.get? bm=some ob/\ob.cls = .type "module"/\ob.dict=some builtinsNs/\ob.data = .plain)(hg:s₁.gens=#[])(ha:s₁.heap.get? a=some { cls:= .type "list",data:= .seq vs.toArray })(hi:IntsAre vs ns)(hl:ns.length<=sizeLine)(hr:Room k callerA)(F:∀ base:Heap,K.In base->base.Ns mainGlobals mg->FnOk P w K mg base CX k fa fd [x] sp)(hbind:∀ (s:Shared) (u:Value),BindsTo s fd ⟨[u],[]⟩ [(x,u)])(hsp:∀ H:Hp,Only H->SqL K H a (ns.map V.int)->sp [.ref a] H (λv _=>v = .bl true) λ_ _ _=>False)(hCX:∀ H e s',CX [] H s₁ (λ_ _ _=>False) e s'->False):codeAny (model P w) callerA (.call (.ref fa) ⟨[.ref a],[]⟩) (λr s'=>r = .ok (.ret (.bool true))/\OldK s₁.heap s'.heap/\s'.os=s₁.os/\AllBare s'.gens) s₁:=by
 have rv:=BW hi;have lenV:=hi.length;have naT:∀ p∈TABS,p.1≠a:=λp hp z=>by
  have e:=T.at_ p hp;rw [z,ha] at e;cases e
 have core:∀ H:Hp,Only H->SqL K H a (ns.map V.int)->HOk P w H s₁.heap->(∀ b,H b≠none->b=a∨∃ p∈TABS,p.1=b)->(∀ b,H b≠none->K.lookup b=none)->(∀ p∈TABS,H p.1=some (.tbl p.2.1 p.2.2)) ->
   codeAny (model P w) callerA (.call (.ref fa) ⟨[.ref a],[]⟩) (λr s'=>r = .ok (.ret (.bool true))/\OldK s₁.heap s'.heap/\s'.os=s₁.os/\AllBare s'.gens) s₁:=by
  intro H hO hS hok hA hK hT;have base_of:∀{b:Addr}{o:Obj},s₁.heap.get? b=some o->H b=none->(zZ s₁.heap H).get? b=some o:=λe n=>DB e n;have noA:∀{b:Addr}{o:Obj}{es:Array DictEntry}{ep:Nat},s₁.heap.get? b=some o->o.data = .dict es ep->H b=none:=λ{b o es ep} e d=>by
   cases q:H b with
   |none=>rfl
   |some u =>
    rcases hA b (by rw [q];simp) with e'|⟨p,hp,e'⟩
    ·subst e';rw [ha] at e;cases e;have d':Data.seq vs.toArray _=Data.dict es ep:=d;cases d'
    ·subst e';rw [T.at_ p hp] at e;cases e;have d':Data.fields p.2.1=Data.dict es ep:=d;cases d'
  have nsK:∀{b:Addr}{m:Str->Option Value},s₁.heap.Ns b m->(zZ s₁.heap H).Ns b m:=λ{b m} ⟨o,es,ep,e,d,r⟩=>⟨o,es,ep,base_of e (noA e d),d,r⟩;have hKb:K.In (zZ s₁.heap H):=λb o e=>base_of (KX b o e) (by
   cases q:H b with
   |none=>rfl
   |some u=>rw [hK b (by rw [q];simp)] at e;cases e)
  have noP:∀{b:Addr}{o:Obj},s₁.heap.get? b=some o->o.data = .plain->H b=none:=λ{b o} e d=>by
   cases q:H b with
   |none=>rfl
   |some u =>
    rcases hA b (by rw [q];simp) with e'|⟨p,hp,e'⟩
    ·subst e';rw [ha] at e;cases e;have d':Data.seq vs.toArray _=Data.plain:=d;cases d'
    ·subst e';rw [T.at_ p hp] at e;cases e;have d':Data.fields p.2.1=Data.plain:=d;cases d'
  have hM:Mod K mg (zZ s₁.heap H):=⟨hKb,nsK hns,⟨mb,nsK hb,hbb⟩,let ⟨mc,h1,h2⟩:=hlim;⟨mc,nsK h1,h2⟩,let ⟨bm,ob,b1,b2,b3,b4,b5,b6⟩:=hbm;⟨bm,ob,b1,b2,base_of b3 (noP b3 b6),b4,b5,b6⟩⟩;have e0:Env0 P w K mg (zZ s₁.heap H) callerA [] s₁ H:=⟨rfl,hM,λb o e=>MW e,Nat.le_of_eq (DC _ _),trivial,λb hb=>absurd (show b∈([]:List Addr) from hb) (by simp),hok,.of_eq hg,hT⟩;refine codeAny_mono ((F _ hKb (nsK hns)).run callerA [] s₁ H ⟨[.ref a],[]⟩ [.ref a] [.ref a] _ _ hr e0 (hbind s₁ (.ref a)) (.cons rfl .nil) (hsp H hO hS)) λr s' h=>?_;cases r with
  |error e=>exact (hCX H e s' h).elim
  |ok fl =>
   cases fl with
   |next=>exact False.elim h
   |brk=>exact False.elim h
   |cont=>exact False.elim h
   |ret u =>
    obtain ⟨v,H',os,bare,un,hok',r',q⟩:=h;have q':v = .bl true:=q;subst q';obtain rfl:u=Value.bool true:=r';refine ⟨rfl,⟨λb o e=>?_,λb o e=>un.there b o e (by simp)⟩,os,bare⟩;rcases hO b with z|⟨ob,xs,z⟩|⟨p,hp,rfl,z⟩
    ·exact .inl (un.keep b o e z (by intro z;exact absurd (show b∈([]:List Addr) from z) (by simp)) (by simp))
    ·have z2:=un.frzs b ob _ z;obtain ⟨e1,_⟩:=hok b _ z;obtain ⟨e2,_⟩:=hok' b _ z2;rw [e] at e1;cases e1;exact .inl e2
    ·have z2:=un.tbls p.1 _ _ z;obtain ⟨more,e2,_⟩:=hok' p.1 _ z2;rw [T.at_ p hp] at e;cases e;exact .inr (.inl ⟨T.tab p hp,rfl,p.2.1,more,rfl,e2⟩)
 have tok:∀{H:Hp}{p:Addr×Array Value×List (Pos×Str)},p∈TABS->ObjOk P w H s₁.heap p.1 (.tbl p.2.1 p.2.2):=λ{H p} hp =>
  ⟨#[],by rw [Array.append_empty];exact T.at_ p hp,by rw [Array.append_empty];exact T.tri p hp,λq hq=> .inl (by rw [Array.append_empty];exact T.non p hp q hq)⟩
 have only:∀ b,zc b=none∨(∃ o xs,zc b=some (.frz o (.lst xs)))∨∃ p∈TABS,p.1=b/\zc b=some (.tbl p.2.1 p.2.2):=λb=>by
  cases q:zc b with
  |none=>exact .inl rfl
  |some u=>obtain ⟨p,hp,e1,rfl⟩:=ZM q;exact .inr (.inr ⟨p,hp,e1,rfl⟩)
 have mine:∀ b,zc b≠none->∃ p∈TABS,p.1=b:=λb z=>by
  cases q:zc b with
  |none=>exact absurd q z
  |some u=>obtain ⟨p,hp,e1,_⟩:=ZM q;exact ⟨p,hp,e1⟩
 cases hk:K.lookup a with
 |some o =>
  have e:=KX a o hk;rw [ha] at e;cases e;refine core zc only (.inr ⟨_,vs.toArray,_,hk,rfl,rfl,rfl,by rw [yX,lenV];exact hl,by simpa using rv⟩) (λb u z=>?_) (λb z=> .inr (mine b z)) (λb z=>?_) λp hp=>BI T hp
  ·obtain ⟨p,hp,rfl,rfl⟩:=ZM z;exact tok hp
  ·obtain ⟨p,hp,rfl⟩:=mine b z;exact T.out p hp
 |none =>
  refine core (λb=>if b=a then some (.frz { cls:= .type "list",data:= .seq vs.toArray } (.lst (ns.map V.int))) else zc b) (λb=>?_) (.inl (.inr ⟨{ cls:= .type "list",data:= .seq vs.toArray },if_pos rfl⟩)) (λb u z=>?_) (λb z=>?_) (λb z=>?_) λp hp=>?_
  ·by_cases hb:b=a
   ·exact .inr (.inl ⟨_,_,if_pos hb⟩)
   ·rcases only b with z|⟨o,xs,z⟩|⟨p,hp,e1,z⟩
    ·exact .inl ((if_neg hb).trans z)
    ·exact .inr (.inl ⟨o,xs,(if_neg hb).trans z⟩)
    ·exact .inr (.inr ⟨p,hp,e1,(if_neg hb).trans z⟩)
  ·by_cases hb:b=a
   ·have z':=(if_pos hb).symm.trans z;cases z';subst hb;exact ⟨ha,by rw [yZ];exact hl,vs,_,rv,ha⟩
   ·have z':=(if_neg hb).symm.trans z;obtain ⟨p,hp,rfl,rfl⟩:=ZM z';exact tok hp
  ·by_cases hb:b=a
   ·exact .inl hb
   ·exact .inr (mine b λq=>z ((if_neg hb).trans q))
  ·by_cases hb:b=a
   ·rw [hb];exact hk
   ·obtain ⟨p,hp,rfl⟩:=mine b λq=>z ((if_neg hb).trans q);exact T.out p hp
  ·exact (if_neg (naT p hp)).trans (BI T hp)
theorem TJ {l:PySem.W.OpenLaw}{k:Nat}{q:Program}{loose:List Str}{XP:(Str->Option Value)->Heap->Prop}{YP:World->Heap->Prop}{d:DefRec}{K:Params->Fg}{CX:World->CXT}{sp:World->Sp}(hn:l.most=some n)(hn2:n<=sizeLine)(hdf:d.params.defaults=[])(hr:Room k callerA)(hY:∀(w:World)(h:Heap),YP w h->(K w.params).In h)(F:∀(w:World)(mg:Str->Option Value)(fa:Addr)(h:Heap),YP w h->(K w.params).In h->h.Ns mainGlobals mg->mg d.name=some (.ref fa) -> ∃ fd:FuncData,(∀(s:Shared)(u:Value),BindsTo s fd ⟨[u],[]⟩ [(x,u)])/\vV (K w.params) h /\ ∀ base:Heap,(K w.params).In base->base.Ns mainGlobals mg->FnOk l.prog w (K w.params) mg base (CX w) k fa fd [x] (sp w))(hsp:∀(w:World)(H:Hp)(a:Addr)(ns:List Int),ns.length<=n->Only H->SqL (K w.params) H a (ns.map V.int)->sp w [.ref a] H (λv _=>v = .bl true) λ_ _ _=>False)(hCX:∀(w:World)(H:Hp)(s:Shared)(e:Value)(s':Shared),CX w [] H s (λ_ _ _=>False) e s'->False):PySem.W.WalkO q loose XP YP l.row.toRowW d [] (λf vs=>PySem.call f vs):=by refine Att.attach_call hn hdf λw s₀ s₁ mg mb fa o pm cd doc a vs ns G Y ho hd hcd hmg hobj hints hlen hg=>?_;have KX:=hY w _ Y;obtain ⟨fd,hb,hT,hF⟩:=F w mg fa _ Y KX G.T.g hmg;exact Ms KX hT G.T.g G.T.b G.T.builtins G.T.nolimit G.T.bmain hg hobj hints (yr hlen hn2) hr hF hb (λH hO hS=>hsp w H a ns hlen hO hS) λH e s'=>hCX w H s₁ e s'
def jx (s:Stmt)(j:Nat):Stmt:=match s with
 | .ClassDef _ _ _ body _ _ _ _ _ _ _=>body.getD j (.Pass ⟨0,0,0,0⟩)
 |_=> .Pass ⟨0,0,0,0⟩
def xj (s:Stmt):Arguments:=match s with
 | .FunctionDef _ a _ _ _ _ _ _ _ _=>a
 |_=>{ posonlyargs:=[],args:=[],vararg:=none,kwonlyargs:=[],kw_defaults:=[],kwarg:=none,defaults:=[] }
def i0 (s:Stmt):List Stmt:=match s with
 | .FunctionDef _ _ b _ _ _ _ _ _ _=>b
 |_=>[]
def z9 (s:Stmt):Scope:=match s with
 | .FunctionDef _ _ _ _ _ _ sc _ _ _=>sc
 |_=>{ kind:= .function,names:=[],isGenerator:=false,isCoroutine:=false }
abbrev v5:CXT:=λ_ _ _ _ _ _=>False
abbrev E0:XK:=λ_ _ _=>False
theorem Zu {X:Cx}:zN v5 X E0:=λ_ _ _ _ _ _ _ h=>h.elim
structure Fun (K:Fg)(x qual:Str)(st:Stmt)(f:Addr)(fd:FuncData):Prop where
 ex:∃(oc:Value)(od:Option Addr)(kV doc pm:Value)(an:Option Addr)(cdv ct:Value)(osl:Array (Option Value)),
  fd=PySem.W.fnOf x qual (xj st) (i0 st) (z9 st) .none kV doc pm an cdv ct/\K.lookup f=some ⟨oc,od,.func fd,osl⟩/\PySem.W.codeIn K cdv qual=true
 kp:PySem.W.keepIn K (.ref f)=true
section
variable {P:Program}{w:World}{K:Fg}{mg:Str->Option Value}{base:Heap}
theorem Fun.ok {N:List Str}{k:Nat}(F:Fun K x qual st f fd)(S:w5 N ps (z9 st))(len:∀ vs H Q E,sp vs H Q E->vs.length=ps.length)(hbody:∀(cdv:Value)(A:Around)(outer:List Env)(s:Shared)(H:Hp)(vs:List V)(Q:VK)(E:XK),Room k (A.deeper (envOfC qual (z9 st) s.heap.objs.size f cdv))->sp vs H Q E -> ∃ t,PSs (qQ v5 P w K mg base N qual (z9 st) f cdv A outer s H E).nox (i0 st) t/\t { nx:=λ_ H'=>Q .non H',rt:=Q } (start N vs) H):FnOk P w K mg base v5 (k+1) f fd ps sp:=by obtain ⟨oc,od,kV,doc,pm,an,cdv,ct,osl,rfl,lk,hcd⟩:=F.ex;refine Jt lk hcd S len λA outer s H vs Q E hr hsp=>?_;obtain ⟨t,h,q⟩:=hbody cdv A outer s H vs Q E hr hsp;exact ⟨t,h.nox,q⟩
theorem Fun.binds (F:Fun K x qual st f fd)(h:∀(kV doc pm:Value)(an:Option Addr)(cdv ct:Value)(us:List Value),us.length=ps.length->bindArgs (PySem.W.fnOf x qual (xj st) (i0 st) (z9 st) .none kV doc pm an cdv ct) ⟨us,[]⟩=pure (ps.zip us)):Binds K fd ps []:=by obtain ⟨oc,od,kV,doc,pm,an,cdv,ct,osl,rfl,lk,hcd⟩:=F.ex;exact .all (h kV doc pm an cdv ct)
theorem vg {oc:Value}{od an:Option Addr}{osl:Array (Option Value)}{kV doc pm cdv ct:Value}(l:K.lookup f=some ⟨oc,od,.func (PySem.W.fnOf x qual (xj st) (i0 st) (z9 st) .none kV doc pm an cdv ct),osl⟩)(c:PySem.W.codeIn K cdv qual=true)(k:PySem.W.keepIn K (.ref f)=true):Fun K x qual st f (PySem.W.fnOf x qual (xj st) (i0 st) (z9 st) .none kV doc pm an cdv ct):=⟨⟨oc,od,kV,doc,pm,an,cdv,ct,osl,rfl,l,c⟩,k⟩
end
theorem Qn {A:Around}{k:Nat}(hr:Room k A)(hn:n<=64:=by decide):A.units+n<cLine:=uy (Nat.add_le_add_left hn _) hr.units
theorem vM (h:n<=1000):n<sizeLine:=uy h (by decide)
section
variable {X:Cx}
theorem pv (i:Nat){pos:Pos}(hN:X.N[i]?=some x:=by rfl)(hv:Vis X.env.scope x:=by first|exact Or.inl rfl|exact Or.inr (Or.inl rfl)|exact Or.inr (Or.inr rfl))(hd:(x==("__debug__":Str))=false:=by decide)(hcd:(x==("__classdict__":Str))=false:=by decide):PE X (.Name x pos) (xt i):=ND hN hv hd hcd
theorem Ch:CallR X (.builtin "len") (λxs H Q=>∃ a kvs,xs=[V.ref a]/\H a=some (.dK kvs)/\Q (.int kvs.length) H):=by intro pins s U H xs us Q I r h;obtain ⟨a,kvs,rfl,ha,q⟩:=h;obtain ⟨u,rfl,ru⟩:=xN r;cases ru;exact d_len I (.inl ha) λt s' I'=>⟨.int kvs.length,H,I',⟨t,rfl⟩,q⟩
end
theorem qT (h:B):if false=true then A else B:=by rw [if_neg yU];exact h
theorem xg (h:A):if true=true then A else B:=by rw [if_pos rfl];exact h
theorem ite2 {c:Prop}[Decidable c](h1:c->A)(h2:¬ c->B):if c then A else B:=by
 by_cases h:c
 ·rw [if_pos h];exact h1 h
 ·rw [if_neg h];exact h2 h
def Same (H H':Hp):Prop:=∀ b o,H b=some o->H' b=some o
theorem Same.refl (H:Hp):Same H H:=λ_ _ h=>h
theorem Same.trans {H1 H2:Hp}(a:Same H H1)(b:Same H1 H2):Same H H2:=λc o h=>b c o (a c o h)
theorem Same.free (e:Same H H'){l:Addr}(h:H' l=Option.none):H l=Option.none:=by
 cases q:H l with
 |none=>rfl
 |some o=>rw [e l o q] at h;cases h
theorem Same.seq {xs:List V}(e:Same H H')(h:SqL K H a xs):SqL K H' a xs:=by
 rcases h with (h|⟨o,h⟩)|h
 ·exact .inl (.inl (e _ _ h))
 ·exact .inl (.inr ⟨o,e _ _ h⟩)
 ·exact .inr h
end L2
set_option maxHeartbeats 4000000
set_option synthInstance.maxHeartbeats 4000000
set_option synthInstance.maxSize 4096
namespace L2
open PySem PySem.Spec PyProof.Rows
variable{c elt iter tg:Expr}{ifs:List Expr}{scope:Scope}{pos:Pos}{env:Env}{X:Cx}{o:Option V}{U:St}{tt:TT}{te:TE}{wi:TI}{K:Fg}
section
variable {prog:Program}{w:World}{A:Around}{R:Result->Shared->Prop}{s:Shared}
theorem CA {target:Expr}{it acc:Value}(I:Nat->Shared->Prop)
  (turn:∀ n s,I n s->wpAny (model prog w) A (pyNext it) (λr s₁=>match r with
   |none=>R (.ok .next) s₁
   |some v=>wpAny (model prog w) A (letOwnedTupleGo target it v) (λ_ s₀=>wpAny (model prog w) A (assign target env v) (λ_ s₂ =>
     wpAny (model prog w) A (forIn ifs true λc r=>if r=true then do let ok <- isTrue c env (eval c env);pure (ForInStep.yield ok) else pure (ForInStep.yield r)) (λok s₃ =>
      if ok=true then wpAny (model prog w) A (eval elt env) (λx s₄ =>
       wpAny (model prog w) A (call (.builtin "list.append") [acc,x]) (λ_ s₅=>∃ m,m<n/\I m s₅) (λ_ _=>False) s₄) (λ_ _=>False) s₃
      else ∃ m,m<n/\I m s₃) (λ_ _=>False) s₂) (λ_ _=>False) s₀) (λ_ _=>False) s₁) (λ_ _=>False) s)
  (n:Nat) (h:I n s) :
  codeAny (model prog w) A (.compLoop (.ListComp elt [⟨target,iter,ifs,0⟩] scope pos) 0 it acc env) R s:=by
 refine codeAny_loop rfl I (λn s hI=>?_) n h;show wpAny _ A ((compTurn (.ListComp elt [⟨target,iter,ifs,0⟩] scope pos) 0 it acc env).onRaise (λx=>do noteFrame x env;theTreesLotGoes x)) _ _ s;refine wpAny_noted (wpAny_noRaise ?_);rw [compTurn_list];refine yW (wpAny_standAt (yW (z7 (turn n s hI) λr s₁ h₁=>?_)));cases r with
 |none=>exact yR h₁
 |some v =>
  refine yW (z7 h₁ λ_ s₀ h₀=>?_);refine yW (z7 h₀ λ_ s₂ h₂=>yW (z7 h₂ λok s₃ h₃=>?_));cases ok with
  |false=>exact yR ⟨rfl,h₃⟩
  |true=>exact yW (yW (z7 h₃ λx s₄ h₄=>yW (z7 h₄ λ_ s₅ h₅=>yR (yR ⟨rfl,h₅⟩))))
end
theorem Gh {α β:Type}{f:α->β->Sem (ForInStep β)}(g:α->β->β):∀(l:List α)(b:β),(∀ a∈l,∀ b,f a b=pure (.yield (g a b)))->forIn l b f=(pure (l.foldl (λb a=>g a b) b):Sem β)
 |[],_,_=>rfl
 |x::l,b,h=>by
  rw [List.forIn_cons,h x yK,pure_bind];exact Gh g l (g x b) λy hy=>h y (yN _ hy)
def zT (env:Env)(y:Str×NameKind)(cs:List (Str×Addr)):List (Str×Addr):=if y.2 == .free then (y.1,(env.cells.lookup y.1).getD 0)::cs else cs
theorem UE (env:Env):∀(l:List (Str×NameKind))(cs:List (Str×Addr)),(∀ y∈l,y.2 = .free->∃ c,env.cells.lookup y.1=some c)->(∀ x c,cs.lookup x=some c->env.cells.lookup x=some c) -> (∀ x c,(l.foldl (λb a=>zT env a b) cs).lookup x=some c->env.cells.lookup x=some c)
 |[],_,_,h=>h
 |(n,k)::l,cs,hl,h=>by
  refine UE env l _ (λy hy=>hl y (yN _ hy)) λx c e=>?_;unfold zT at e
  dsimp only at e
  cases hk:(k==NameKind.free) with
  |false=>rw [hk,if_neg yU] at e;exact h x c e
  |true =>
   rw [hk,if_pos rfl] at e;obtain ⟨c0,e0⟩:=hl (n,k) yK (by simpa using hk);cases hx:x==n with
   |true =>
    rw [uY,hx] at e;have hx':x=n:=by simpa using hx
    subst hx';have e':(List.lookup x env.cells).getD 0=c:=Option.some.inj e;have e0':List.lookup x env.cells=some c0:=e0;rw [e0'] at e';rw [e0',<- e'];rfl
   |false=>rw [uY,hx] at e;exact h x c e
theorem UF (env:Env)(x:Str):∀(l:List (Str×NameKind))(cs:List (Str×Addr)),(∃ c,cs.lookup x=some c)->∃ c,(l.foldl (λb a=>zT env a b) cs).lookup x=some c
 |[],_,h=>h
 |(n,k)::l,cs,h=>by
  refine UF env x l _ ?_;unfold zT
  dsimp only
  split
  ·rw [uY];cases hx:x==n with
   |true=>exact ⟨_,rfl⟩
   |false=>exact h
  ·exact h
theorem UD (env:Env):∀(l:List (Str×NameKind))(cs:List (Str×Addr)),∀ y∈l,y.2 = .free->∃ c,(l.foldl (λb a=>zT env a b) cs).lookup y.1=some c
 |[],_,_,h,_=>nomatch h
 |z::l,cs,y,h,hf=>by
  rcases yP.mp h with e|h
  ·subst e;refine UF env y.1 l _ ?_;unfold zT
   dsimp only
   rw [hf,if_pos (by rfl),uY,beq_self_eq_true];exact ⟨_,rfl⟩
  ·exact UD env l _ y h hf
theorem UG (h:∀ y∈scope.names,y.2 = .free->∃ c,env.cells.lookup y.1=some c):∃ cl,closureFor scope env=pure cl/\(∀ x c,cl.lookup x=some c->env.cells.lookup x=some c)/\∀ y∈scope.names,y.2 = .free->∃ c,cl.lookup y.1=some c:=by
 refine ⟨scope.names.foldl (λb a=>zT env a b) [],?_,UE env _ _ h (λx c e=>by cases e),UD env _ _⟩;simp only [closureFor];rw [Gh (zT env) scope.names [] (λy hy b=>?_)]
 ·rfl
 ·obtain ⟨n,k⟩:=y;unfold zT;cases hk:(k==NameKind.free) with
  |false=>simp only [hk,uG,if_false]<;>rfl
  |true=>obtain ⟨c,e⟩:=h (n,k) hy (by simpa using hk);have e':List.lookup n env.cells=some c:=e;simp only [hk,if_true,cellOf,e'];rfl
theorem KR (env:Env)(n:Str)(k:NameKind)(r:List (Str×NameKind))(x:Str):((List.map (λ(n,k)=>if (k==NameKind.free&&env.scope.kind == .function&&env.kindOf n==some .cell) then (n,NameKind.cell) else (n,k)) ((n,k)::r)).lookup x) = (if x==n then some (if (k==NameKind.free&&env.scope.kind == .function&&env.kindOf n==some .cell) then NameKind.cell else k) else (List.map (λ(n,k)=>if (k==NameKind.free&&env.scope.kind == .function&&env.kindOf n==some .cell) then (n,NameKind.cell) else (n,k)) r).lookup x):=by
 rw [yT];show List.lookup x ((if (k==NameKind.free&&env.scope.kind == .function&&env.kindOf n==some .cell)=true then (n,NameKind.cell) else (n,k))::_)=_;by_cases hc:(k==NameKind.free&&env.scope.kind == .function&&env.kindOf n==some .cell)=true
 ·rw [if_pos hc,if_pos hc,uY];cases x==n<;>rfl
 ·rw [if_neg hc,if_neg hc,uY];cases x==n<;>rfl
theorem KU {env:Env}{x:Str}{k:NameKind}:∀{names:List (Str×NameKind)}, (names.map λ(n,k)=>if (k==NameKind.free&&env.scope.kind == .function&&env.kindOf n==some .cell) then (n,NameKind.cell) else (n,k)).lookup x=some k -> ∃ k',names.lookup x=some k'/\(k'=k∨(k' = .free/\k = .cell))
 |[],h=>by simp at h
 |(n,q)::r,h=>by
  rw [KR] at h;rw [uY];cases hx:x==n with
  |true =>
   rw [hx,if_pos rfl] at h;have h':=Option.some.inj h;refine ⟨q,rfl,?_⟩;by_cases hc:(q==NameKind.free&&env.scope.kind == .function&&env.kindOf n==some .cell)=true
   ·rw [if_pos hc] at h';have hq:(q==NameKind.free)=true:=by
     cases z:(q==NameKind.free) with
     |true=>rfl
     |false=>rw [z] at hc;simp at hc
    exact .inr ⟨by simpa using hq,h'.symm⟩
   ·rw [if_neg hc] at h';exact .inl h'
  |false=>rw [hx,if_neg yU] at h;exact KU h
theorem KS {env:Env}{x:Str}:∀{names:List (Str×NameKind)},names.lookup x=some .free -> (names.map λ(n,k)=>if (k==NameKind.free&&env.scope.kind == .function&&env.kindOf n==some .cell) then (n,NameKind.cell) else (n,k)).lookup x=some .cell∨(names.map λ(n,k)=>if (k==NameKind.free&&env.scope.kind == .function&&env.kindOf n==some .cell) then (n,NameKind.cell) else (n,k)).lookup x=some .free
 |[],h=>by simp at h
 |(n,q)::r,h=>by
  rw [KR];rw [uY] at h;cases hx:x==n with
  |true =>
   rw [hx] at h;have h':q = .free:=Option.some.inj h;rw [if_pos rfl];by_cases hc:(q==NameKind.free&&env.scope.kind == .function&&env.kindOf n==some .cell)=true
   ·rw [if_pos hc];exact .inl rfl
   ·rw [if_neg hc,h'];exact .inr rfl
  |false=>rw [hx] at h;rw [if_neg yU];exact KS h
def p6 (cap:List (Option Nat))(U:St):St:=cap.map λo=>o.bind λi=>(U[i]?).join
structure vP (X:Cx)(N':List Str)(cap:List (Option Nat))(sc:Scope):Prop where
 kind:sc.kind = .function
 nocell:∀ y∈sc.names,y.2 ≠ .cell
 names:∀ y∈sc.names,y.2 = .local->sc.names.lookup y.1=some .local
 free:∀ y∈sc.names,y.2 = .free->X.env.kindOf y.1=some .cell∨X.env.kindOf y.1=some .free
 len:cap.length=N'.length
 cap:∀(j i:Nat),cap[j]?=some (some i)->∃ x,N'[j]?=some x/\X.N[i]?=some x/\sc.names.lookup x=some .free
def Gz:Option NameKind->Bool
 |some .cell=>true
 |some .free=>true
 |_=>false
theorem Mq {k:Option NameKind}(h:Gz k=true):k=some .cell∨k=some .free:=by
 cases k with
 |none=>cases h
 |some k=>cases k<;>first|exact .inl rfl|exact .inr rfl|cases h
def Zk (names:List (Str×NameKind))(kd:Str->Option NameKind)(y:Str×NameKind):Bool :=
 match y.2 with
 | .cell=>false
 | .local=>names.lookup y.1==some .local
 | .free=>Gz (kd y.1)
 |_=>true
def zy (N:List Str)(sc:Scope):List Str->List (Option Nat)->Bool
 |[],[]=>true
 |_::r,none::c=>zy N sc r c
 |x::r,some i::c=>N[i]?==some x&&(sc.names.lookup x==some .free&&zy N sc r c)
 |_,_=>false
theorem Jc {N:List Str}{sc:Scope}:∀{xs:List Str}{c:List (Option Nat)},zy N sc xs c=true->c.length=xs.length
 |[],[],_=>rfl
 |_::r,none::c,h=>by
  have h':zy N sc r c=true:=h;simp [Jc h']
 |x::r,some i::c,h=>by
  have h':(N[i]?==some x&&(sc.names.lookup x==some .free&&zy N sc r c))=true:=h;simp only [yp] at h';simp [Jc h'.2.2]
 |[],_::_,h=>by cases h
 |_::_,[],h=>by cases h
theorem Jb {N:List Str}{sc:Scope}:∀{xs:List Str}{c:List (Option Nat)},zy N sc xs c=true->∀(j i:Nat),c[j]?=some (some i)->∃ x,xs[j]?=some x/\N[i]?=some x/\sc.names.lookup x=some .free
 |[],[],_,j,i,e=>by simp at e
 |_::r,none::c,h,0,i,e=>by simp at e
 |_::r,none::c,h,j+1,i,e=>by
  have h':zy N sc r c=true:=h;obtain ⟨x,h1,h2⟩:=Jb h' j i (by simpa using e);exact ⟨x,by simpa using h1,h2⟩
 |x::r,some k::c,h,0,i,e=>by
  have h':(N[k]?==some x&&(sc.names.lookup x==some .free&&zy N sc r c))=true:=h;simp only [yp] at h';have e':k=i:=by simpa using e
  subst e';exact ⟨x,rfl,by simpa using h'.1,by simpa using h'.2.1⟩
 |x::r,some k::c,h,j+1,i,e=>by
  have h':(N[k]?==some x&&(sc.names.lookup x==some .free&&zy N sc r c))=true:=h;simp only [yp] at h';obtain ⟨x',h1,h2⟩:=Jb h'.2.2 j i (by simpa using e);exact ⟨x',by simpa using h1,h2⟩
 |[],_::_,h,_,_,_=>by cases h
 |_::_,[],h,_,_,_=>by cases h
theorem m5 {N':List Str}{cap:List (Option Nat)}{sc:Scope}(h1:sc.kind = .function)(h2:(sc.names.all λy=>Zk sc.names X.env.kindOf y)=true)(h3:zy X.N sc N' cap=true):vP X N' cap sc:=by
 have h2':=uV.mp h2;refine ⟨h1,λy hy e=>?_,λy hy e=>?_,λy hy e=>?_,Jc h3,Jb h3⟩
 ·have q:=h2' y hy;unfold Zk at q;rw [e] at q;cases q
 ·have q:=h2' y hy;unfold Zk at q;rw [e] at q;simpa using q
 ·have q:=h2' y hy;unfold Zk at q;rw [e] at q;exact Mq q
def qD (X:Cx)(N':List Str)(sc:Scope)(cl:List (Str×Addr))(C:Addr)(s:Shared)(H:Hp)(fp:List Addr)(pn:List (Addr×Obj)):Cx where
 prog:=X.prog
 w:=X.w
 K:=X.K
 mg:=X.mg
 base:=X.base
 A:=X.A
 N:=N'
 s₀:=s
 H₀:=H
 env:=compEnvC sc cl C X.env
 outer:=X.stack
 stack:=X.stack
 ex:=fp
 fn:=λ_=>false
 calm:=X.calm
 pn:=pn
 xe:=λ_ _=>False
section
variable {X:Cx}{pins:List (Addr×Obj)}{U:St}{H:Hp}{s:Shared}{h1:Heap}{N':List Str}{cap:List (Option Nat)}{sc:Scope}{cl:List (Str×Addr)}{fp:List Addr}{C D:Addr}
theorem CJ (I:Inv X pins U H s)(S:vP X N' cap sc)(hc1:∀ x c,cl.lookup x=some c->X.env.cells.lookup x=some c)(hc2:∀ y∈sc.names,y.2 = .free->∃ c,cl.lookup y.1=some c)(hf:∀ b∈fp,xi X pins H b)(ho:∀ b∈fp,b<s.heap.objs.size)(hC:s.heap.objs.size<=C):(qD X N' sc cl C s H fp (X.pn++pins)).Ok where
 mod:=I.ok.mod
 kind:=S.kind
 glob:=I.ok.glob
 blt:=I.ok.blt
 above:=hC
 inj:=λx y c e1 e2=>I.ok.inj x y c (hc1 x c e1) (hc1 y c e2)
 has:=λx hx=>by
  have key:∀ k,(relabel sc X.env).names.lookup x=some k->(k = .cell∨k = .free)->∃ c,cl.lookup x=some c:=λk e hk=>by
   obtain ⟨k',e',q⟩:=KU e;have hm:=PySem.mem_of_lookup e';have hfree:k' = .free:=by
    rcases q with q|q
    ·rcases hk with z|z
     ·exact absurd (q.trans z) (S.nocell _ hm)
     ·exact q.trans z
    ·exact q.1
   exact hc2 (x,k') hm hfree
  rcases hx with e|e
  ·exact key _ e (.inl rfl)
  ·exact key _ e (.inr rfl)
 cab:=λx c hx _=>by cases hx
 hd:=I.ok.hd
 frames:=I.ok.frames
 stk:= .inl rfl
 exf:=λb hb=>⟨yJ (yG (ho b hb) hC),λx c e=>(hf b hb).2.2.2.2.1 x c (hc1 x c e)⟩
 bs:=I.bs
 bsz:=yr I.ok.bsz I.sz
 noex:=λb o e hb=>by
  rcases (hf b hb).2.2.2.1 with z|z
  ·exact I.ok.noex b o e z
  ·exact absurd (yG (yQ e) (yr I.ok.bsz z)) (uO _)
 exfs:=λb hb hz=>by
  rcases yP.mp (I.stkSub b hz) with e|e
  ·exact (hf b hb).2.1 e
  ·exact (hf b hb).2.2.1 e
 funs:=I.stack
 frf:=I.stkFree
 tbs:=λp hp=>I.base.tbls _ _ _ (I.ok.tbs p hp)
theorem DR {m0:Str->Option Value}{o:Obj}(I:Inv X pins U H s)(S:vP X N' cap sc)(hc1:∀ x c,cl.lookup x=some c->X.env.cells.lookup x=some c)(hc2:∀ y∈sc.names,y.2 = .free->∃ c,cl.lookup y.1=some c)(hf:∀ b∈fp,xi X pins H b)(ho:∀ b∈fp,b<s.heap.objs.size)(hD:s.heap.objs.size<=D)(hC:D<C)(hDo:h1.get? D=some o)(hoc:∀ v,o.data ≠ .cell v)(hns:h1.Ns C m0)(hk:∀ b o,s.heap.get? b=some o->h1.get? b=some o)(t:Nat):Inv (qD X N' sc cl C s H fp (X.pn++pins)) [(D,o)] (p6 cap U) H { s with heap:=h1,toks:=t }:=by
 have hCs:s.heap.objs.size<=C:=yr hD (uX hC);have lt_s:∀ b o,s.heap.get? b=some o->b≠C:=λb o e=>yJ (yG (yQ e) hCs);refine ⟨CJ I S hc1 hc2 hf ho hCs,rfl,I.bare,Un.kept hk,⟨m0,hns,λj x v e1 e2 e3=>?_⟩,λx c e=>?_,I.hok.fresh hCs,λx c e=>I.freeC x c (hc1 x c e),λp hp=>?_,I.hok.kept hk,?_⟩
 ·obtain ⟨i,hi,hσ⟩:∃ i,cap[j]?=some (some i)/\U[i]?=some (some v):=by
   unfold p6 at e2;rw [yM] at e2;cases hc:cap[j]? with
   |none=>rw [hc] at e2;cases e2
   |some o' =>
    rw [hc] at e2;have e2':(o'.bind λi=>(U[i]?).join)=some v:=Option.some.inj e2;cases o' with
    |none=>cases e2'
    |some i =>
     refine ⟨i,rfl,?_⟩;have e3':(U[i]?).join=some v:=e2';cases hs:U[i]? with
     |none=>rw [hs] at e3';cases e3'
     |some q=>rw [hs] at e3';exact congrArg some e3'
  obtain ⟨x',n1,n2,n3⟩:=S.cap j i hi;have e1':N'[j]?=some x:=e1;rw [n1] at e1';obtain rfl:x'=x:=Option.some.inj e1';have hkd:=S.free (x',.free) (PySem.mem_of_lookup n3) rfl;obtain ⟨m,_,hl⟩:=I.loc;obtain ⟨u,r,l⟩:=hl i x' v n2 hσ (by
   rcases hkd with z|z
   ·exact .inr (.inl z)
   ·exact .inr (.inr z))
  refine ⟨u,r,?_⟩;rcases l with ⟨l1,_⟩|⟨_,c,ec,hcell⟩
  ·rcases hkd with z|z
   ·exact absurd (l1.symm.trans z) (by simp)
   ·exact absurd (l1.symm.trans z) (by simp)
  ·obtain ⟨c',ec'⟩:=hc2 (x',.free) (PySem.mem_of_lookup n3) rfl;have q:=hc1 x' c' ec';rw [ec] at q;obtain rfl:c=c':=Option.some.inj q;refine .inr ⟨KS n3,c,ec',?_⟩;obtain ⟨oc,hoc',hd⟩:=hcell;exact ⟨oc,hk _ _ hoc',hd⟩
 ·obtain ⟨v,oc,hoc',hd⟩:=I.cell x c (hc1 x c e);exact ⟨v,oc,hk _ _ hoc',hd⟩
 ·rcases ym.mp hp with hp|hp
  ·obtain ⟨e,n,ne,nf,d⟩:=I.pin p hp;refine ⟨hk _ _ e,n,lt_s _ _ e,λhz=>?_,d⟩;rcases yP.mp (I.stkSub _ hz) with e'|e'
   ·exact ne e'
   ·exact nf e'
  ·have e:p=(D,o):=by simpa using hp
   subst e;refine ⟨hDo,I.hok.fresh hD,yJ hC,λhz=>?_,hoc⟩;rcases yP.mp (I.stkSub _ hz) with e'|e'
   ·exact absurd (yG I.lt hD) (by rw [show X.env.locals=D from e'.symm];exact uO _)
   ·exact I.nofs hD e'
 ·unfold p6;rw [yZ];exact S.len
end
structure Wk (U σ':St):Prop where
 len:U.length=σ'.length
 at':∀(i:Nat) v,U[i]?=some (some v)->σ'[i]?=some (some v)
theorem Wk.refl (U:St):Wk U U:=⟨rfl,λ_ _ h=>h⟩
theorem Wk.set {σ':St}{i:Nat}(w:Wk U σ')(h:U[i]?=some none):Wk U (σ'.set i o):=by
 refine ⟨by rw [yf];exact w.len,λj v e=>?_⟩;have ne:i≠j:=λz=>by rw [<- z,h] at e;cases e
 rw [yk ne];exact w.at' j v e
theorem Wk.one {i:Nat}(h:U[i]?=some none):Wk U (U.set i o):=(Wk.refl U).set h
def PTs (X:Cx)(ifs:List Expr)(t:TT):Prop :=
 ∀(pins:List (Addr×Obj))(s:Shared)(U:St)(H:Hp)(Q:Bool->Hp->Prop),Inv X pins U H s->t U H Q ->
  wpAny (model X.prog X.w) X.A (forIn ifs true λc r=>if r=true then do let ok <- isTrue c X.env (eval c X.env);pure (ForInStep.yield ok) else pure (ForInStep.yield r)) (TP X pins U Q) X.xe s
def tYes:TT:=λ_ H Q=>Q true H
theorem m9 :PTs X [] tYes:=λ_ _ _ H _ I h=>wpAny_tests_nil ⟨H,I,h⟩
theorem Ha {t:TT}(h:PT X c t):PTs X [c] t:=λpins s U H Q I q=>wpAny_tests_one (h pins s U H Q I q)
def Yg (J:It)(g:TG)(tt:TT)(te:TE)(Q:VK)(σ0:St)(H1:Hp):Prop:=∃ W:Nat->Nat->List V->Hp->Prop,(∃ m,W 0 m [] H1)/\∀ i m ys H,W i m ys H->ys.length<=sizeLine /\
  ((J.stop i H/\∀ D,H D=none->Q (.ref D) (j9 H D (.lst ys))) ∨
   (J.go i H/\∀ x H',J.yld i H x H'->g x σ0 H' λσ2 H2=>Wk σ0 σ2/\tt σ2 H2 λb H3 =>
      if b=true then te σ2 H3 λv H4=>∃ m',m'<m/\W (i+1) m' (ys++[v]) H4 else ∃ m',m'<m/\W (i+1) m' ys H3))
def QX (wi:TI)(g:TG)(tt:TT)(te:TE)(cap:List (Option Nat)):TE:=λU H Q=>wi U H λJ H1=>Yg J g tt te Q (p6 cap U) H1
section
variable {X:Cx}{pins:List (Addr×Obj)}{U:St}{s₂:Shared}{N':List Str}{cap:List (Option Nat)}{sc:Scope}{cl:List (Str×Addr)}{fp:List Addr}
theorem UH {g:TG}{Q:VK}{H2:Hp}{it:Addr}{tn:Nat->Heap->Prop}{J:It}{E:Value->Shared->Prop}{RR:Value->Addr->Result->Shared->Prop}(S:vP X N' cap sc)(hc:X.calm=true)(hc1:∀ x c,cl.lookup x=some c->X.env.cells.lookup x=some c)(hc2:∀ y∈sc.names,y.2 = .free->∃ c,cl.lookup y.1=some c)(hg:∀ C pn,PG (qD X N' sc cl C s₂ H2 fp pn) tg g)(ht:∀ C pn,PTs (qD X N' sc cl C s₂ H2 fp pn) ifs tt)(he:∀ C pn,PE (qD X N' sc cl C s₂ H2 fp pn) elt te)(I2:Inv X pins U H2 s₂)(T:zQ X.prog X.w X.K tg J fp it tn)(st2:tn 0 s₂.heap)(f2:∀ b∈fp,xi X pins H2 b)(W:Nat->Nat->List V->Hp->Prop)(w0:∃ m,W 0 m [] H2)(turn:∀ i m ys H,W i m ys H->ys.length<=sizeLine /\ ((J.stop i H/\∀ D,H D=none->Q (.ref D) (j9 H D (.lst ys)))∨(J.go i H/\∀ x H',J.yld i H x H'->g x (p6 cap U) H' λσ2 H2=>Wk (p6 cap U) σ2/\tt σ2 H2 λb H3 => if b=true then te σ2 H3 λv H4=>∃ m',m'<m/\W (i+1) m' (ys++[v]) H4 else ∃ m',m'<m/\W (i+1) m' ys H3)))(hRR:∀ D C H' s' m,Inv X pins U H' s'->s'.heap.Ns C m->xi X pins H' C->Q (.ref D) H'->RR (.ref D) C (.ok .next) s'):wpAny (model X.prog X.w) X.A (newList []) (λacc s₃=>wpAny (model X.prog X.w) X.A (newFunctionEnv sc X.env.globals cl [] X.env.qual none .none (some X.env)) (λcenv s₄ => codeAny (model X.prog X.w) X.A (.compStart (.ListComp elt [⟨tg,iter,ifs,0⟩] sc pos) 0 (.ref it) acc { cenv with scope:=relabel sc X.env }) (RR acc cenv.locals) s₄) E s₃) E s₂:=by
  refine wpAny_newObj_type (wpAny_newFunctionEnv S.nocell (by intro y hy;simp at hy) (λh₁ hns₁ hsb₁=>?_) S.kind)
  dsimp only at hns₁ hsb₁ ⊢
  generalize hG:s₂.heap.push { cls:= .type "list",dict:=none,data:= .seq ([]:List Value).toArray }=G at hns₁ hsb₁ ⊢;have hC:G.objs.size=s₂.heap.objs.size+1:=by rw [<- hG,uI]
  have hDC:s₂.heap.objs.size<G.objs.size:=by rw [hC];exact uB _
  have old:∀ b o,s₂.heap.get? b=some o->h₁.get? b=some o:=λb o e =>
    hsb₁.extBut b o (yJ (Nat.lt_trans (yQ e) hDC)) (yV _ (hG▸yV _ e))
  have hacc:h₁.get? s₂.heap.objs.size=some (LCg.lst []):=hsb₁.extBut _ _ (yJ hDC) (yV _ (hG▸yI _ rfl));have fl:∀ b∈fp,b<s₂.heap.objs.size:=λb hb=>by obtain ⟨o,e,_⟩:=T.obj _ _ st2 b hb;exact yQ e
  have seqd:∀(us:List Value) v,(LCg.lst us).data ≠ .cell v:=λus v z=>by cases z
  have cellt:∀ x c,cl.lookup x=some c->c<s₂.heap.objs.size:=λx c e=>by obtain ⟨v,oc,ho,_⟩:=I2.cell x c (hc1 x c e);exact yQ ho
  have pint:∀ p∈X.pn++pins,p.1<s₂.heap.objs.size:=λp hp=>yQ (I2.pin p hp).1;have I0:Inv (qD X N' sc cl G.objs.size s₂ H2 fp (X.pn++pins)) [(s₂.heap.objs.size,LCg.lst [])] (p6 cap U) H2 { s₂ with heap:=h₁,toks:=s₂.toks+([]:List (Str×Value)).length } :=
    DR I2 S hc1 hc2 f2 fl (yY _) hDC hacc (seqd []) hns₁ old _
  have stat:∀{H':Hp}{us:List Value},(∀ b∈fp,H' b=none)->∀ b∈fp,xi (qD X N' sc cl G.objs.size s₂ H2 fp (X.pn++pins)) [(s₂.heap.objs.size,LCg.lst us)] H' b:=λ{H' us} hn b hb=>by
    obtain ⟨f0,f1,f2',f3,f4,f5⟩:=f2 b hb;refine ⟨hn b hb,yJ (Nat.lt_trans (fl b hb) hDC),λhz=>?_,.inl hb,λx c e=>f4 x c (hc1 x c e),λp hp=>?_⟩
    · rcases yP.mp (I2.stkSub b hz) with e|e
      · exact f1 e
      · exact f2' e
    · rcases ym.mp hp with hp|hp
      · exact f5 p hp
      · have e:p=(s₂.heap.objs.size,LCg.lst us):=by simpa using hp
        rw [e];exact Ne.symm (yJ (fl b hb))
  have loop:∀ s₃:Shared,s₃={ s₂ with heap:=h₁,toks:=s₂.toks+([]:List (Str×Value)).length } ->
      codeAny (model X.prog X.w) X.A (.compLoop (.ListComp elt [⟨tg,iter,ifs,0⟩] sc pos) 0 (.ref it) (.ref s₂.heap.objs.size) (compEnvC sc cl G.objs.size X.env)) (RR (.ref s₂.heap.objs.size) G.objs.size) s₃:=by
    rintro s₃ rfl;obtain ⟨m0,w0⟩:=w0;refine CA
      (λn s'=>∃ i ys us H',Inv (qD X N' sc cl G.objs.size s₂ H2 fp (X.pn++pins)) [(s₂.heap.objs.size,LCg.lst us)] (p6 cap U) H' s'/\Vals ys us/\tn i s'.heap/\(∀ b∈fp,H' b=none)/\W i n ys H') ?_ m0
      ⟨0,[],[],H2,I0,.nil,T.keep _ _ _ st2 λb _ o e=>old b o e,λb hb=>(f2 b hb).1,w0⟩
    rintro n s3 ⟨i,ys,us,H3,I3,rv,st3,fr3,w3⟩;obtain ⟨hz,alt⟩:=turn i n ys H3 w3;rcases alt with ⟨stop,fin⟩|⟨go,step⟩
    · refine z7 (T.done (qD X N' sc cl G.objs.size s₂ H2 fp (X.pn++pins)) rfl rfl rfl hc i _ s3 _ H3 _ I3 (stat fr3) st3 stop) λr s4 zq=>?_
      obtain ⟨hr,I4⟩:=zq;subst hr;obtain ⟨gD,nD,_,_,_⟩:=I4.pin (s₂.heap.objs.size,LCg.lst us) (yq _ (yC.mpr rfl));have nD':H3 s₂.heap.objs.size=none:=nD;have gD':s4.heap.get? s₂.heap.objs.size=some (LCg.lst us):=gD;have b4:Un (qa X.stack) fp H2 H3 s₂.heap s4.heap:=I4.base;have n2:H2 s₂.heap.objs.size=none:=I2.hok.fresh (yY _);have un:Un (qa X.stack) fp H2 (j9 H3 s₂.heap.objs.size (.lst ys)) s₂.heap s4.heap :=
        ⟨b4.keep,b4.slot,λb o e n hx=>by rw [v6 (yJ (yQ e))];exact b4.free b o e n hx,b4.there,
          λb xs e=>by rw [v6 (k7 e n2)];exact b4.tups b xs e,λb o u e=>by rw [v6 (k7 e n2)];exact b4.frzs b o u e,
          λb ps q e=>by rw [v6 (k7 e n2)];exact b4.tbls b ps q e⟩
      have hok:HOk X.prog X.w (j9 H3 s₂.heap.objs.size (.lst ys)) s4.heap:=λb u e=>by
        by_cases hb:b=s₂.heap.objs.size
        · subst hb
          rw [y4] at e;cases e;exact ⟨hz,us,us.length,rv,gD'⟩
        · rw [v6 hb] at e
          exact (I4.hok b u e).stay (λc v _ q=>q) (λc q=>by rw [v6 (k7 q nD')];exact q) (λc xs q=>by rw [v6 (k7 q nD')];exact q) λc _ _ q=>by rw [v6 (k7 q nD')];exact q
      have IF:Inv X pins U (j9 H3 s₂.heap.objs.size (.lst ys)) s4:=I2.call' (ch:=fp) I4.os un hok I4.bare λb hb=>by
        obtain ⟨f0,f1,f2',f3,f4,f5⟩:=f2 b hb;exact ⟨f3,f1,f4,f5⟩
      obtain ⟨mF,hnF,_⟩:=I4.loc;refine hRR _ _ _ _ mF IF hnF (I2.fpOk (uX hDC) ?_) (fin _ nD');rw [v6 (Ne.symm (yJ hDC))];exact I4.free
    · refine z7 (T.item (qD X N' sc cl G.objs.size s₂ H2 fp (X.pn++pins)) rfl rfl rfl hc i _ s3 _ H3 _ I3 (stat fr3) st3 go) λr s4 zq=>?_
      obtain ⟨u,hr,h4⟩:=zq;subst hr;refine z7 h4 λ_ s5 zq=>?_;obtain ⟨x,H5,I5,r5,y5,st5,fr5⟩:=zq;have I5':=I5.pinned (stat fr5) (T.obj _ _ st5);refine z7 (hg G.objs.size (X.pn++pins) _ s5 _ H5 x u _ I5' r5 (step x H5 y5)) λ_ s6 zq=>?_;obtain ⟨σ6,H6,I6,wk,q6⟩:=zq;refine z7 (ht G.objs.size (X.pn++pins) _ s6 σ6 H6 _ I6 q6) λok s7 zq=>?_;obtain ⟨H7,I7,q7⟩:=zq;have back:∀{σ8:St}{H8:Hp}{s8:Shared}{us8:List Value},Inv (qD X N' sc cl G.objs.size s₂ H2 fp (X.pn++pins)) ([(s₂.heap.objs.size,LCg.lst us8)]++QJ fp s5.heap) σ8 H8 s8 ->
          tn (i+1) s8.heap/\∀ b∈fp,H8 b=none:=λ{σ8 H8 s8 us8} I8=>by
        refine ⟨T.keep _ _ _ st5 λb hb o e=>(I8.pin (b,o) (yq _ (yq _ (Zi hb e)))).1,λb hb=>?_⟩;obtain ⟨o,e,d⟩:=T.obj _ _ st5 b hb;exact (I8.pin (b,o) (yq _ (yq _ (Zi hb e)))).2.1
      cases ok with
      |false=>obtain ⟨m',hm,w7⟩:=q7;obtain ⟨t7,f7⟩:=back I7;exact ⟨m',hm,i+1,ys,us,H7,I7.unpinned.weak wk.len wk.at',rv,t7,f7,w7⟩
      |true =>
        refine z7 (he G.objs.size (X.pn++pins) _ s7 σ6 H7 _ I7 q7) λuv s8 zq=>?_;obtain ⟨v,H8,I8,r8,m',hm,w8⟩:=zq;obtain ⟨t8,f8⟩:=back I8;obtain ⟨gD,nD,lD,fD,_⟩:=I8.pin (s₂.heap.objs.size,LCg.lst us) (yq _ (List.mem_append_left _ (yC.mpr rfl)));have gD':s8.heap.get? s₂.heap.objs.size=some { cls:= .type "list",data:= .seq us.toArray us.length }:=gD;refine append_at (hsz:=by rw [yX,<- rv.length];exact hz) gD' λh9 hs9 hD9=>?_;have I8a:Inv (qD X N' sc cl G.objs.size s₂ H2 fp (X.pn++pins)) [] σ6 H8 s8:=I8.pins_of λp hp=>nomatch hp;have I9:Inv (qD X N' sc cl G.objs.size s₂ H2 fp (X.pn++pins)) [] σ6 H8 { s8 with heap:=h9,toks:=s8.toks } :=
          I8a.turned (it:=s₂.heap.objs.size) (λb o hb e=>hs9.extBut b o hb e) nD lD (.inr (yY _)) (λx c e=>yJ (cellt x c e)) λp hp=>by
            rw [yA] at hp;exact yJ (pint p hp)
        have I10:Inv (qD X N' sc cl G.objs.size s₂ H2 fp (X.pn++pins)) [(s₂.heap.objs.size,LCg.lst (us++[uv]))] σ6 H8 { s8 with heap:=h9,toks:=s8.toks }:=I9.pins_of λp hp=>by
          have e:p=(s₂.heap.objs.size,LCg.lst (us++[uv])):=by simpa using hp
          subst e;exact ⟨hD9.trans (congrArg some (LCg.lst_snoc us uv)),nD,lD,fD,seqd _⟩
        refine ⟨m',hm,i+1,ys++[v],us++[uv],H8,I10.weak wk.len wk.at',rv.append (.cons r8 .nil),T.keep _ _ _ t8 λb hb o e=>hs9.extBut b o (yJ (fl b hb)) e,f8,w8⟩
  have st1:tn 0 h₁:=T.keep _ _ _ st2 λb _ o e=>old b o e;exact codeAny_compStart_list (loop _ rfl) (T.self _ 0 _ _ _ st1 (loop _ rfl))
theorem i6 {g:TG}(S:vP X N' cap sc)(hc:X.calm=true)(hi:PI X tg iter wi)(hg:∀ cl C s H fp pn,PG (qD X N' sc cl C s H fp pn) tg g)(ht:∀ cl C s H fp pn,PTs (qD X N' sc cl C s H fp pn) ifs tt)(he:∀ cl C s H fp pn,PE (qD X N' sc cl C s H fp pn) elt te)(hs:∀ x,foldedSetIterable iter X.env x=pure x:=by intro _;rfl):PE X (.ListComp elt [⟨tg,iter,ifs,0⟩] sc pos) (QX wi g tt te cap):=by intro pins s U H Q I h;rw [eval_ListComp];obtain ⟨cl,hcl,hc1,hc2⟩:=UG (scope:=sc) (env:=X.env) λy hy e=>I.ok.has y.1 (S.free y hy e);refine wpAny_comprehension_free (use:=none) rfl hs hcl S.kind S.names (z7 (hi pins s U H _ I h) λv s1 h1=>z7 h1 λitv s2 h2=>?_);obtain ⟨it,fp,tn,J,H2,e,I2,T,st2,f2,W,w0,turn⟩:=h2;subst e;refine UH (RR:=λacc C=>compPost (model X.prog X.w) X.A X.xe none (EP X pins U Q) acc C) S hc hc1 hc2 (λC pn=>hg cl C s2 H2 fp pn) (λC pn=>ht cl C s2 H2 fp pn) (λC pn=>he cl C s2 H2 fp pn) I2 T st2 f2 W w0 turn ?_;intro D C H' s' m I' hn F q;obtain ⟨f0,f1,f2',f3,f4,f5⟩:=F;exact ⟨m,hn,λh' hs'=>⟨.ref D,H',I'.turned (t':=s'.toks) (λb o hb e=>hs'.extBut b o hb e) f0 f1 f3 f4 f5,rfl,q⟩⟩
theorem ZA {i:Nat}{x:Str}{spos pos':Pos}{g:TG}(S:vP X N' cap sc)(hc:X.calm=true)(hN:X.N.Nodup)(hx:X.N[i]?=some x)(hk:X.env.scope.names.lookup x=some .local)(hi:PI X tg iter wi)
  (hg:∀ cl C s H fp pn,PG (qD X N' sc cl C s H fp pn) tg g) (ht:∀ cl C s H fp pn,PTs (qD X N' sc cl C s H fp pn) ifs tt) (he:∀ cl C s H fp pn,PE (qD X N' sc cl C s H fp pn) elt te)
  (hsw:swapsWith (.ListComp elt [⟨tg,iter,ifs,0⟩] sc pos) (some (.Name x pos')) spos.line X.env=pure true:=by rfl)
  (hs:∀ x,foldedSetIterable iter X.env x=pure x:=by intro _;rfl):PS X (.Assign [.Name x pos'] (.ListComp elt [⟨tg,iter,ifs,0⟩] sc pos) spos) (zr (QX wi g tt te cap) (xk i)):=by
 intro pins s U H D I h;rw [exec_Assign_Name_used _ _ _ _ hsw];refine yW (wpAny_standAt (yW ?_));show wpAny _ X.A (do let _ <- comprehension (.ListComp elt [⟨tg,iter,ifs,0⟩] sc pos) sc X.env _ (newList []) false (eval iter X.env) (some (assign (.Name x pos') X.env))) _ _ s;obtain ⟨cl,hcl,hc1,hc2⟩:=UG (scope:=sc) (env:=X.env) λy hy e=>I.ok.has y.1 (S.free y hy e);refine yW (z7 (wpAny_comprehension_free (use:=some (assign (.Name x pos') X.env)) (Q:=λ_ s'=>SP X pins D .next s') rfl hs hcl S.kind S.names
  (z7 (hi pins s U H _ I h) λv s1 h1=>z7 h1 λitv s2 h2=>?_)) λ_ s' hq=>yR (yR hq))
 obtain ⟨it,fp,tn,J,H2,e,I2,T,st2,f2,W,w0,turn⟩:=h2;subst e;refine UH (Q:=λv H1=>xk i v U H1 D.nx) (RR:=λacc C=>compPost (model X.prog X.w) X.A X.xe (some (assign (.Name x pos') X.env)) (λ_ s'=>SP X pins D .next s') acc C) S hc hc1 hc2 (λC pn=>hg cl C s2 H2 fp pn) (λC pn=>ht cl C s2 H2 fp pn) (λC pn=>he cl C s2 H2 fp pn) I2 T st2 f2 W w0 turn ?_;intro E C H' s' m I' hn F q;obtain ⟨f0,f1,f2',f3,f4,f5⟩:=F;show wpAny _ X.A (assign (.Name x pos') X.env (.ref E)) _ _ _;refine wpAny_assign_Name (Br I' hN hx (.inl hk) (v:= .ref E) rfl (λs'' I'' ch=>?_) (.inr hk));obtain ⟨a,sb,ha⟩:=ch;have nC:C≠a:=by
  rcases ha with z|z
  ·rw [z];exact f1
  ·exact Ne.symm (f4 x a z)
 exact ⟨m,hn.sameBut sb nC,λh' hs'=>⟨_,H',I''.turned (t':=s''.toks) (λb o hb e=>hs'.extBut b o hb e) f0 f1 f3 f4 f5,q⟩⟩
end
section
variable {g:TG}{tt:TT}{te:TE}{Q:VK}{H:Hp}{σ0:St}
theorem CB {a:Addr}{xs:List V}(Pv:Nat->List V->Hp->Prop)(h0:Pv 0 [] H)(hz:∀ i ys H,i<=xs.length->Pv i ys H->ys.length<=sizeLine)(hl:∀ i ys H,i<=xs.length->Pv i ys H->SqL K H a xs)(hs:∀ i x ys H (R:List V->Hp->Prop),xs[i]?=some x->Pv i ys H->(∀ ys' H',Pv (i+1) ys' H'->R ys' H')->g x σ0 H λσ2 H2=>Wk σ0 σ2/\tt σ2 H2 λb H3=>if b=true then te σ2 H3 λv H4=>R (ys++[v]) H4 else R ys H3)(hd:∀ ys H,Pv xs.length ys H->∀ D,H D=none->Q (.ref D) (j9 H D (.lst ys))):Yg (Itl K a) g tt te Q σ0 H:=by
 refine ⟨λi m ys H=>m=xs.length-i/\i<=xs.length/\Pv i ys H,⟨xs.length,by simp,yo _,h0⟩,?_⟩;rintro i m ys H ⟨rfl,hi,p⟩;have q:=hl i ys H hi p;refine ⟨hz i ys H hi p,?_⟩;by_cases hlt:i<xs.length
 ·refine .inr ⟨⟨xs,xs[i],q,by simp [hlt]⟩,λx H' y=>?_⟩;obtain ⟨e,y⟩:=y;subst e;exact hs i x ys _ (λys' H'=>∃ m',m'<xs.length-i/\m'=xs.length-(i+1)/\i+1<=xs.length/\Pv (i+1) ys' H') (y xs q) p λys' H' p'=>⟨xs.length-(i+1),by omega,rfl,hlt,p'⟩
 ·have e:i=xs.length:=by omega
  subst e;exact .inl ⟨⟨xs,q,yY _⟩,hd ys H p⟩
end
def tyB (T c:String):Option Bool:=if (Value.type T==Value.type c)=true then some true else if PySem.W.kitMeta c=true then (fastBuiltinMro T).map (·.contains (Value.type c)) else none
theorem Mr {T c:String}{b:Bool}(h:tyB T c=some b):PySem.W.kitOne K (.type T) (.type c)=some b:=h
theorem Td:tyB "int" "int"=some true:=by decide +kernel
theorem Tc:tyB "int" "bool"=some false:=by decide +kernel
theorem Te:tyB "list" "list"=some true:=by decide +kernel
theorem Tf:tyB "str" "str"=some true:=by decide +kernel
theorem zx:bootBuiltins "isinstance"=some (.builtin "isinstance"):=by decide +kernel
theorem jV:bootBuiltins "list"=some (.type "list"):=by decide +kernel
theorem Ux:bootBuiltins "int"=some (.type "int"):=by decide +kernel
theorem PP:bootBuiltins "bool"=some (.type "bool"):=by decide +kernel
theorem jr:bootBuiltins "str"=some (.type "str"):=by decide +kernel
theorem jU:bootBuiltins "all"=some (.builtin "all"):=by decide +kernel
theorem PY:bootBuiltins "sum"=some (.builtin "sum"):=by decide +kernel
theorem PU:bootBuiltins "min"=some (.builtin "min"):=by decide +kernel
theorem PR:bootBuiltins "enumerate"=some (.type "enumerate"):=by decide +kernel
theorem PZ:bootBuiltins "zip"=some (.type "zip"):=by decide +kernel
section
variable {X:Cx}
theorem Cf:CallR X (.builtin "isinstance") (λxs H Q=>∃ x n T b,xs=[x,.ty n]/\xo X.K H x (.type T)/\tyB T n=some b/\Q (.bl b) H):=by intro pins s U H xs us Q I r h;obtain ⟨x,n,T,b,rfl,ty,e,q⟩:=h;obtain ⟨u,w',rfl,rx,rw'⟩:=WX r;obtain rfl:w'=Value.type n:=rw';exact Gp I rx ty (Mr e) λtk=>⟨.bl b,H,I.tok _,rfl,q⟩
theorem BV:∀{bs:List Bool}{us:List Value}{i:Nat}{u:Value},Vals (bs.map V.bl) us->us[i]?=some u->u = .bool (bs.getD i false)
 |[],_,_,_,.nil,e=>by simp at e
 |b::_,_,0,_,.cons r _,e=>by
  have e':=Option.some.inj e;subst e';exact r
 |_::bs,_,i+1,u,.cons _ t,e=>by
  have q:=BV (i:=i) (u:=u) t (by simpa using e);simpa using q
theorem Pt:∀(bs:List Bool),(List.range bs.length).all (λi=>bs.getD i false)=bs.all id:=by
 intro bs;rw [Bool.eq_iff_iff,uV,uV];constructor
 ·intro h b hb;obtain ⟨i,hi,e⟩:=uJ hb;have q:=h i (yg.mpr hi);rw [yb,yL hi] at q;rw [<- e];exact q
 ·intro h i hi;have hi':=yg.mp hi;rw [yb,yL hi'];exact h _ (ye hi')
theorem Ca (hc:X.calm=true):CallR X (.builtin "all") (λxs H Q=>∃ (a:Addr) (bs:List Bool),xs=[.ref a]/\SqL X.K H a (bs.map V.bl)/\Q (.bl (bs.all id)) H):=by
 intro pins s U H xs us Q I r h;obtain ⟨a,bs,rfl,hq,q⟩:=h;obtain ⟨u,rfl,ru⟩:=xN r;obtain rfl:u=Value.ref a:=ru;obtain ⟨its,rv,p,hz⟩:=I.list hq;have hlt:a<s.heap.objs.size:=by obtain ⟨_,_,e,_⟩:=p;exact yQ e
 have hl:s.heap.IsList a its.toArray:=p.isList;refine call_all_walk (wpAny_pyIter_list hl ?_);refine ⟨s.heap.objs.size,_,_,_,_,_,λi=>bs.getD i false,rfl,Walks.list (A:=X.A.in1) (I.ok.hd hc) s.heap.objs.size a (yJ hlt) its.toArray,⟨⟨_,yI _ rfl,rfl,rfl⟩,hl.push _⟩,?_,λh' tk k=>?_⟩
 ·intro i v s' Q' E' hP hQ;have e:=BV rv (by simpa using hP);subst e;exact wpAny_truthy_bool hQ
 ·have hn:its.toArray.size=bs.length:=by have e:=rv.length;rw [yZ] at e;rw [yX];exact e.symm
  rw [hn,Pt];refine ⟨.bl (bs.all id),H,I.kept (t':=tk) (λb o e=>k b o (λhm=>?_) (yV _ e)),rfl,q⟩;have e':b=s.heap.objs.size:=by simpa using hm
  exact absurd (yQ e) (by rw [e'];exact uO _)
theorem BX:∀{ns:List Int}{us:List Value},Vals (ns.map V.int) us->IntsAre us ns
 |[],_,.nil=> .nil
 |n::_,_,.cons ⟨t,e⟩ r=>by
  subst e;exact .cons n t (BX r)
theorem Cu (hc:X.calm=true):CallR X (.builtin "sum") (λxs H Q=>∃ (a:Addr) (ns:List Int),xs=[.ref a]/\SqL X.K H a (ns.map V.int)/\Q (.int ns.sum) H):=by
 intro pins s U H xs us Q I r h;obtain ⟨a,ns,rfl,hq,q⟩:=h;obtain ⟨u,rfl,ru⟩:=xN r;obtain rfl:u=Value.ref a:=ru;obtain ⟨its,rv,p,hz⟩:=I.list hq;have hi:=BX rv;have hl:s.heap.IsList a its.toArray:=p.isList;obtain ⟨xs,ex⟩:=hi.allInts.items;have e2:(numsOf its.toArray.toList).sum=ns.sum:=by rw [show its.toArray.toList=its from rfl,hi.numsOf]
 rw [ex] at hl e2;rw [nums_intItems] at e2;refine sum_intListG (I.ok.hd hc) hl λh' tk t' k=>⟨.int ns.sum,H,I.kept (t':=tk) k,?_,q⟩;rw [preSum_eq,List.take_of_length_le (by simp),e2];exact ⟨_,rfl⟩
def Xh (_i j:Int):Prop:=0<j/\j.natAbs.log2<9000
theorem GR:OpR X (binaryOp .FloorDiv) (rI Xh λi j=> .int (i / j)):=opI λi j _ _ _ _ _ hc q=>by
 have e:i.fdiv j=i / j:=Int.fdiv_eq_ediv_of_nonneg i (Int.le_of_lt hc.1);exact floordiv_int (Ne.symm (Int.ne_of_lt hc.1)) (by rw [e];exact q) (.inl (PyProof.noPylong_of_log2 hc.2))
def wR (i j:Int):Prop:=Builtin.Int.intBits i<=2 ^ 20/\Builtin.Int.intBits j<=2 ^ 20
theorem Zo:OpR X (binaryOp .Mult) (rI wR λi j=> .int (i*j)):=opI λ_ _ _ _ _ _ _ hc q=>mul_int q (IntMulOk.of_bits hc.1 hc.2)
def Its (lo c:Int)(n:Nat):It:=⟨λi _=>i<n,λi H x H'=>H'=H/\x = .int (lo+i*c),λi _=>n<=i⟩
theorem RU {P:Program}{w:World}(it:Addr)(lo c:Int)(n:Nat):zQ P w K tg (Its lo c n) [it] it (λi h=>IsRangeIter h it (lo+(i:Nat)*c) ((n:Int)-(i:Nat)) c) where
 mem:=by simp
 obj:=λi h st b hb=>by
  have e:b=it:=by simpa using hb
  subst e;exact ⟨_,st,λv z=>by
   have z':Data.fields _=Data.cell v:=z;cases z'⟩
 keep:=λi h h' st k=>k it (by simp) _ st
 item:=by intro X hP hw hK hc i pins s U H E I hf st hg;subst hP hw hK;obtain ⟨f0,f1,f2,f3,f4,f5⟩:=hf it (by simp);have W:=Walks.range (prog:=X.prog) (w:=X.w) (I.ok.hd hc) it lo c n;refine W.item i s _ _ hg st λv h' tk hv st' kk=>?_;obtain ⟨t,rfl⟩:=hv;have I1:Inv X pins U H { s with heap:=h',toks:=tk }:=I.turned (λb o hb e=>kk b o (by simpa using hb) e) f0 f1 f3 f4 f5;exact ⟨_,rfl,XG (s:={ s with heap:=h',toks:=tk }) (n:="range_iterator") st' rfl rfl (by decide) ⟨.int (lo+i*c),H,I1,⟨t,rfl⟩,⟨rfl,rfl⟩,st',λb hb=>(hf b hb).1⟩⟩
 done:=by intro X hP hw hK hc i pins s U H E I hf st hg;subst hP hw hK;obtain ⟨f0,f1,f2,f3,f4,f5⟩:=hf it (by simp);exact wpAny_pyNext_range_end (I.ok.hd hc) st (by have:n<=i:=hg;omega) λh' eb=>⟨rfl,I.turned (t':=s.toks) (λb o hb e=>eb b o hb e) f0 f1 f3 f4 f5⟩
 self:=λ_ _ _ _ _ st h=>wpAny_pyIter_rangeiter st h
def jm (i j c:Int):Nat:=(Builtin.Range.rangeSize i j c).toNat
def iRng3 (ta:TA):TI:=λU H R=>ta U H λvs H1=>∃ i j c:Int,vs=[.int i,.int j,.int c]/\(0<c/\c<1073741824)/\0<=Builtin.Range.rangeSize i j c/\Builtin.Range.small i j c=true/\R (Its i c (jm i j c)) H1
variable {tg:Expr}
theorem NJ {a b:Expr}{ta:TA}{p:Pos}(hg:Gl X "range")(hm:X.mg "range"=none)(ha:PA X [a,b,c] ta)(hs:starEach [a,b,c] X.env=[(false,eval a X.env),(false,eval b X.env),(false,eval c X.env)]:=by rfl)(hs2:starEach [b,c] X.env=[(false,eval b X.env),(false,eval c X.env)]:=by rfl):PI X tg (.Call (.Name "range" p) [a,b,c] [] pos) (iRng3 ta):=by
 intro pins s U H R I h;refine Call_ (jA I hg hm boot_range (PyProof.Rows.callWith_type1 (z7 (ha pos pins s U H _ I h) λus s1 ⟨vs,H1,I1,r1,q1⟩=>?_) (by rw [hs,hs2]) (by rw [hs2];rfl)));obtain ⟨i,j,c,e,⟨q1,q2⟩,q3,q4,q⟩:=q1;subst e;cases r1 with
 |cons r rr =>
  cases rr with
  |cons r' rr =>
   cases rr with
   |cons r'' rr =>
    cases rr;obtain ⟨t,rfl⟩:=r;obtain ⟨t',rfl⟩:=r';obtain ⟨t'',rfl⟩:=r'';refine call_range_3 (Ne.symm (Int.ne_of_lt q1)) ?_ (.inl (PyProof.noPylong_small (by omega)));refine wpAny_pyIter_range (IsRange.new ..) q4 ?_;have I2:Inv X pins U H1 { s1 with heap:=s1.heap.push { cls:= .type "range",data:= .fields #[.int i t,.int j t',.int c t''] },toks:=s1.toks }:=I1.kept λb o e=>yV _ e;refine ⟨(s1.heap.push { cls:= .type "range",data:= .fields #[.int i t,.int j t',.int c t''] }).objs.size,[(s1.heap.push { cls:= .type "range",data:= .fields #[.int i t,.int j t',.int c t''] }).objs.size],_,_,H1,rfl,
     I2.kept (t':=s1.toks) λb o e=>yV _ e,RU _ i c (jm i j c),?_,λb hb=>?_,q⟩
    ·have e1:i+((0:Nat):Int)*c=i:=by simp
     have e2:((jm i j c:Nat):Int)-((0:Nat):Int)=Builtin.Range.rangeSize i j c:=by unfold jm;omega
     show IsRangeIter _ _ (i+((0:Nat):Int)*c) (((jm i j c:Nat):Int)-((0:Nat):Int)) c;rw [e1,e2];exact yI _ rfl
    ·have e:b=(s1.heap.push { cls:= .type "range",data:= .fields #[.int i t,.int j t',.int c t''] }).objs.size:=by simpa using hb
     subst e;exact I2.fpOk (yY _) (I2.hok.fresh (yY _))
end
theorem Dq {lo c:Int}{n:Nat}{g:TG}{tb:TS}{D:xD}{H:Hp}(Pv:Nat->St->Hp->Prop)(h0:Pv 0 U H)(hs:∀ i U H,i<n->Pv i U H->g (.int (lo+i*c)) U H λσ2 H2=>tb { D with nx:=Pv (i+1),ct:=Pv (i+1),bk:=D.nx } σ2 H2)(hd:∀ U H,Pv n U H->D.nx U H):∃ W:Nat->Nat->St->Hp->Prop,(∃ m,W 0 m U H)/\∀ i m U H,W i m U H -> ((Its lo c n).stop i H/\D.nx U H)∨((Its lo c n).go i H/\∃ N:St->Hp->Prop,(∀ σ' H',N σ' H'->∃ m',m'<m/\W (i+1) m' σ' H')/\∀ x H',(Its lo c n).yld i H x H'->g x U H' λσ2 H2=>tb { D with nx:=N,ct:=N,bk:=D.nx } σ2 H2):=by
 refine ⟨λi m U H=>m=n-i/\i<=n/\Pv i U H,⟨n,by simp,yo _,h0⟩,?_⟩;rintro i m U H ⟨rfl,hi,p⟩;by_cases hlt:i<n
 ·refine .inr ⟨hlt,Pv (i+1),λσ' H' p'=>⟨n-(i+1),by omega,rfl,hlt,p'⟩,λx H' y=>?_⟩;obtain ⟨e,y⟩:=y;subst e y;exact hs i U _ hlt p
 ·have e:i=n:=by omega
  subst e;exact .inl ⟨yY _,hd U H p⟩
section
open PySem.SeqAt
theorem xI {α β:Type}{F:α->β->Prop}:∀{l₁:List α}{l₂:List β},Paired F l₁ l₂->∀(j:Nat)(h1:j<l₁.length)(h2:j<l₂.length),F l₁[j] l₂[j]
 |_,_,.cons r _,0,_,_=>r
 |_,_,.cons _ t,j+1,h1,h2=>xI t j (by simpa using h1) (by simpa using h2)
variable {X:Cx}
end
structure Fn (P:Program)(w:World)(K:Fg)(mg:Str->Option Value)(base:Heap)(k:Nat)(x:Str)(ps:List Str)(sp:Sp):Prop where
 ex:∃ f fd,FnOk P w K mg base v5 k f fd ps sp/\mg x=some (.ref f)/\PySem.W.keepIn K (.ref f)=true/\Binds K fd ps []
section
variable {X:Cx}{k j:Nat}{x:Str}{ps:List Str}{sp:Sp}{e:Expr}{es:List Expr}{t:TA}{p pos:Pos}
theorem u9 (c:Fn X.prog X.w X.K X.mg X.base k x ps sp)(hr:Room j X.A)(hj:k<=j)(hg:Gl X x)(ha:PA X (e::es) t)(hdb:(x==("__debug__":Str))=false:=by decide)(he:starEach (e::es) X.env=(false,eval e X.env)::starEach es X.env:=by rfl)(hpl:(backTo pos (starEach es X.env)).any (·.1)=false:=by rfl):PE X (.Call (.Name x p) (e::es) [] pos) (xL sp [] E0 t):=by obtain ⟨f,fd,F,hm,hk,hb⟩:=c.ex;exact Nv F (hr.mono hj) hg hm hk hb .nil Zu ha hdb he hpl
end
end L2
namespace L2
open PySem PySem.Spec PyProof.Rows
variable{p pos px tp:Pos}{a:Expr}{b:Addr}{P:Program}{w:World}{K:Fg}{elts:List Expr}{x1:Nat}{ta:TA}{x:Str}{l:List Env}{S:List Addr}{h1:Heap}{p2:List (Addr×Obj)}
section
variable {X:Cx}{pins:List (Addr×Obj)}{U:St}{H:Hp}{s:Shared}{h':Heap}
theorem Inv.turnedL {t':Nat}{ch:List Addr}(I:Inv X pins U H s)(k:∀ b o,b∉ch->s.heap.get? b=some o->h'.get? b=some o)(hf:∀ b∈ch,xi X pins H b):Inv X pins U H { s with heap:=h',toks:=t' }:=by
 have nit:∀ b u,H b=some u->b∉ch:=λb u e z=>by rw [(hf b z).1] at e;cases e
 have nL:X.env.locals∉ch:=λz=>(hf _ z).2.1 rfl;refine I.step (g':=s.gens) (d':=s.drawn) (ch:=ch) (λb hb=>?_) (λb o _ _ hc e _=>k b o hc e) (λb o _ _ hc e _=>⟨o.slots,k b o hc e⟩) (λ_ _ _ _ n=>n)
  (λb o hc e=>⟨o,k b o hc e⟩) (λ_ _ e=>e) (λ_ _ _ e=>e) (λ_ _ _ e=>e) (λm hm=>?_) (λb u e=>?_) I.bare
 ·obtain ⟨f0,f1,f2,f3,f4,f5⟩:=hf b hb;exact ⟨f3,f1,f4,f5⟩
 ·obtain ⟨o,es,ep,ho,r⟩:=hm;exact ⟨o,es,ep,k _ o nL ho,r⟩
 ·refine (I.hok b u e).stay (λc v hc q=>k c v ?_ q) (λ_ q=>q) (λ_ _ q=>q) λ_ _ _ q=>q;rcases hc with z|z
  ·rw [z];exact nit b u e
  ·exact nit c _ z
theorem Inv.track {p:Addr}{o:HO}(I:Inv X pins U H s)(hp:X.s₀.heap.objs.size<=p)(hn:H p=none)(nL:p≠X.env.locals)(nC:∀ x c,X.env.cells.lookup x=some c->c≠p)(nP:∀ q∈X.pn++pins,q.1≠p)(new:ObjOk X.prog X.w (j9 H p o) s.heap p o):Inv X pins U (j9 H p o) s:=by
 refine ⟨I.ok,I.os,I.bare,⟨I.base.keep,I.base.slot,λb ob e n hx=>?_,I.base.there,λb xs e=>?_,λb ob u e=>?_,λb ps q e=>?_⟩,I.loc,I.cell,?_,λx c e=>?_,λq hq=>?_,λb u e=>?_,I.len⟩
 ·rw [v6 (yJ (yG (yQ e) hp))];exact I.base.free b ob e n hx
 ·have z:=I.base.tups b xs e;rw [v6 (k7 z hn)];exact z
 ·have z:=I.base.frzs b ob u e;rw [v6 (k7 z hn)];exact z
 ·have z:=I.base.tbls b ps q e;rw [v6 (k7 z hn)];exact z
 ·rw [v6 (Ne.symm nL)];exact I.free
 ·rw [v6 (nC x c e)];exact I.freeC x c e
 ·obtain ⟨a1,a2,a3⟩:=I.pin q hq;exact ⟨a1,by rw [v6 (nP q hq)];exact a2,a3⟩
 ·by_cases hb:b=p
  ·subst hb;rw [y4] at e;cases e;exact new
  ·rw [v6 hb] at e;exact (I.hok b u e).stay (λc v _ q=>q) (λc q=>by rw [v6 (k7 q hn)];exact q) (λc xs q=>by rw [v6 (k7 q hn)];exact q) λc _ _ q=>by rw [v6 (k7 q hn)];exact q
theorem Inv.seq_ne {a:Addr}{xs:List V}(I:Inv X pins U H s)(hq:SqL X.K H a xs)(hf:xi X pins H b):a≠b:=by
 rintro rfl;rcases hq with (h|⟨o,h⟩)|⟨o,its,n,hk,_⟩
 ·rw [hf.1] at h;cases h
 ·rw [hf.1] at h;cases h
 ·have e:=I.ok.mod.kin a o hk;rcases hf.2.2.2.1 with z|z
  ·exact I.ok.noex a o e z
  ·exact absurd (yG (yQ e) (yr I.ok.bsz z)) (uO _)
end
def Ite (K:Fg)(a:Addr):It :=
 ⟨λi H=>∃ xs x,SqL K H a xs/\xs[i]?=some x,λi H x H'=>∃ p y,H p=none/\x = .ref p/\H'=j9 H p (.tup [.int i,y])/\∀ xs,SqL K H a xs->xs[i]?=some y,λi H=>∃ xs,SqL K H a xs/\xs.length<=i⟩
theorem RQ (a e it:Addr)(hne:e≠it):zQ P w K (.Tuple elts x1 tp) (Ite K a) [e,it] e (λi h=>(∃ old,IsEnum h e it ((i:Nat):Int) old)/\h.IsListIter it a i) where
 mem:=by simp
 obj:=λi h st b hb=>by
  obtain ⟨⟨old,he⟩,hit⟩:=st;rcases yP.mp hb with rfl|hb
  ·exact ⟨_,he,λv z=>by
    have z':Data.fields _=Data.cell v:=z;cases z'⟩
  ·have eb:b=it:=by simpa using hb
   subst eb;obtain ⟨o,e1,c,d⟩:=hit;exact ⟨o,e1,λv z=>by rw [d] at z;cases z⟩
 keep:=λi h h' st k=>by
  obtain ⟨⟨old,he⟩,hit⟩:=st;exact ⟨⟨old,k e (by simp) _ he⟩,hit.at λo q=>k it (by simp) o q⟩
 item:=by
  intro X hP hw hK hc i pins s U H E I hf st hg;subst hP hw hK;obtain ⟨⟨old,he⟩,hit⟩:=st;obtain ⟨xs,x,hq,hx⟩:=hg;obtain ⟨its,rv,p,hz⟩:=I.list hq;obtain ⟨u,hu,ru⟩:=rv.get hx;have fz:xi X pins H s.heap.objs.size:=I.fpOk (yY _) (I.hok.fresh (yY _));have lte:e<s.heap.objs.size:=yQ he;have lti:it<s.heap.objs.size:=by obtain ⟨o,q,_⟩:=hit;exact yQ q
  refine wpAny_pyNext_enum_item he hit p.isList (x:=u) (by simpa using hu) hne λh1 heo hit1 ht1 hz1 hk1=>⟨_,rfl,?_⟩;refine wpAny_letOwnedTupleGo_enum heo λh2 he2 hs2=>?_;have hs2':Heap.SameBut e h1 h2:=hs2;have I2:Inv X pins U H { s with heap:=h2,toks:=s.toks+1 }:=I.turnedL (ch:=[e,it]) (λb o hb q=>by
   have n1:b≠e:=λz=>hb (by rw [z];simp);have n2:b≠it:=λz=>hb (by rw [z];simp);exact hs2'.extBut b o n1 (hk1 b o n1 n2 q)) hf
  obtain ⟨f0,f1,f2,f3,f4,f5⟩:=fz;have tup:h2.get? s.heap.objs.size=some { cls:= .type "tuple",data:= .seq #[.int i s.toks,u] }:=hs2'.extBut _ _ (Ne.symm (yJ lte)) ht1;refine ⟨.ref s.heap.objs.size,j9 H s.heap.objs.size (.tup [.int i,x]),I2.track I.sz f0 f1 f4 f5 ?_,rfl,⟨s.heap.objs.size,x,f0,rfl,rfl,λys hy=>by rw [I.list_inj hy hq];exact hx⟩,⟨⟨u,?_⟩,?_⟩,λb hb=>?_⟩
  ·exact ⟨by show 2<=sizeLine;decide,[.int i s.toks,u],.cons ⟨_,rfl⟩ (.cons ru .nil),⟨_,tup,rfl,_,rfl⟩⟩
  ·have ei:(((i+1:Nat):Int))=(i:Int)+1:=by omega
   rw [ei];exact he2
  ·exact hit1.at λo q=>hs2'.extBut it o (Ne.symm hne) q
  ·have nb:b≠s.heap.objs.size:=by
    rcases yP.mp hb with rfl|hb
    ·exact yJ lte
    ·have eb:b=it:=by simpa using hb
     rw [eb];exact yJ lti
   rw [v6 nb];exact (hf b hb).1
 done:=by intro X hP hw hK hc i pins s U H E I hf st hg;subst hP hw hK;obtain ⟨⟨old,he⟩,hit⟩:=st;obtain ⟨xs,hq,hx⟩:=hg;obtain ⟨its,rv,p,hz⟩:=I.list hq;have hl:=rv.length;exact wpAny_pyNext_enum_end (I.ok.hd hc) he hit p.isList (by simp;omega) λh1 eb=>⟨rfl,I.turnedL (t':=s.toks) (ch:=[e,it]) (λb o hb q=>eb b o (λz=>hb (by rw [z];simp)) q) hf⟩
 self:=λ_ _ _ _ _ st h=>by
  obtain ⟨⟨old,he⟩,hit⟩:=st;exact wpAny_pyIter_enum he h
section
variable {X:Cx}{elts:List Expr}{x1:Nat}{tp:Pos}
def Jv (K:Fg)(ta:TA):TI:=λU H R=>ta U H λvs H1=>∃ a,vs=[.ref a]/\(∃ xs,SqL K H1 a xs)/\R (Ite K a) H1
theorem NF (hg:Gl X "enumerate")(hm:X.mg "enumerate"=none)(ha:PA X [a] ta)(hs:starEach [a] X.env=[(false,eval a X.env)]:=by rfl):PI X (.Tuple elts x1 tp) (.Call (.Name "enumerate" p) [a] [] pos) (Jv X.K ta):=by
 intro pins s U H R I h;refine Call_ (jA I hg hm PR (PyProof.Rows.callWith_type1 (z7 (ha pos pins s U H _ I h) λus s1 zq=>?_) hs rfl));obtain ⟨vs,H1,I1,r1,q1⟩:=zq;obtain ⟨a,e,⟨xs,hq⟩,q⟩:=q1;subst e;cases r1 with
 |cons r rr =>
  cases rr;cases r;obtain ⟨its,rv,p,hz⟩:=I1.list hq;refine call_enumerate_list p.isList λh' he hit hsz hk=>?_;refine wpAny_pyIter_enum he ?_;refine ⟨s1.heap.objs.size+1,[s1.heap.objs.size+1,s1.heap.objs.size],_,_,H1,rfl,I1.kept (t':=s1.toks) hk,RQ a (s1.heap.objs.size+1) s1.heap.objs.size (Nat.ne_of_gt (uB _)),⟨⟨_,he⟩,hit⟩,λb hb=>?_,q⟩;rcases yP.mp hb with rfl|hb
  ·exact I1.fpOk (uw _) (I1.hok.fresh (uw _))
  ·have eb:b=s1.heap.objs.size:=by simpa using hb
   subst eb;exact I1.fpOk (yY _) (I1.hok.fresh (yY _))
end
def Itz (K:Fg)(a b:Addr):It :=
  ⟨λi H=>∃ xs ys x y,SqL K H a xs/\SqL K H b ys/\xs[i]?=some x/\ys[i]?=some y,
   λi H z H'=>∃ p x y,H p=none/\z = .ref p/\H'=j9 H p (.tup [x,y])/\(∀ xs,SqL K H a xs->xs[i]?=some x)/\∀ ys,SqL K H b ys->ys[i]?=some y,
   λi H=>∃ xs ys,SqL K H a xs/\SqL K H b ys/\(xs.length<=i∨ys.length<=i)⟩
theorem RV (a b z TI TO i1 i2:Addr)(d:[z,TI,TO,i1,i2].Nodup):zQ P w K (.Tuple elts x1 tp) (Itz K a b) [z,TI,TO,i1,i2] z (λi h=>IsZip h z TI TO .none/\IsPair h TI (.ref i1) (.ref i2)/\(∃ u v,IsPair h TO u v)/\h.IsListIter i1 a i/\h.IsListIter i2 b i) where
 mem:=by simp
 obj:=λi h st c hc=>by
  obtain ⟨hz,hTI,⟨u,v,hTO⟩,h1,h2⟩:=st;have hc':c=z∨c=TI∨c=TO∨c=i1∨c=i2:=by simpa using hc
  rcases hc' with rfl|rfl|rfl|rfl|rfl
  ·exact ⟨_,hz,λv q=>by
    have q':Data.fields _=Data.cell v:=q;cases q'⟩
  ·exact ⟨_,hTI,λv q=>by
    have q':Data.seq _ _=Data.cell v:=q;cases q'⟩
  ·exact ⟨_,hTO,λv q=>by
    have q':Data.seq _ _=Data.cell v:=q;cases q'⟩
  ·obtain ⟨o,e1,cc,dd⟩:=h1;exact ⟨o,e1,λv q=>by rw [dd] at q;cases q⟩
  ·obtain ⟨o,e1,cc,dd⟩:=h2;exact ⟨o,e1,λv q=>by rw [dd] at q;cases q⟩
 keep:=λi h h' st k=>by
  obtain ⟨hz,hTI,⟨u,v,hTO⟩,h1,h2⟩:=st;exact ⟨k z (by simp) _ hz,k TI (by simp) _ hTI,⟨u,v,k TO (by simp) _ hTO⟩,h1.at λo e=>k i1 (by simp) o e,h2.at λo e=>k i2 (by simp) o e⟩
 item:=by
  intro X hP hw hK hc i pins s U H E I hf st hg;subst hP hw hK;obtain ⟨hz,hTI,⟨u0,v0,hTO⟩,h1,h2⟩:=st;obtain ⟨xs,ys,x,y,hqa,hqb,hx,hy⟩:=hg;obtain ⟨its,rv,p,_⟩:=I.list hqa;obtain ⟨jts,rw',p',_⟩:=I.list hqb;obtain ⟨u,hu,ru⟩:=rv.get hx;obtain ⟨v,hv,rv'⟩:=rw'.get hy;simp only [yh,yP,not_or,yt,not_false_eq_true,uS,and_true] at d;obtain ⟨⟨d1,d2,d3,d4⟩,⟨d5,d6,d7⟩,⟨d8,d9⟩,d10⟩:=d;have ap:ZipApart z TI TO i1 i2 a b:=⟨Ne.symm d1,Ne.symm d2,Ne.symm d3,Ne.symm d4,d5,d6,d7,d8,d9,d10,
   I.seq_ne hqa (hf z (by simp)),I.seq_ne hqa (hf TO (by simp)),I.seq_ne hqa (hf i1 (by simp)),I.seq_ne hqa (hf i2 (by simp)),
   I.seq_ne hqb (hf z (by simp)),I.seq_ne hqb (hf TO (by simp)),I.seq_ne hqb (hf i1 (by simp)),I.seq_ne hqb (hf i2 (by simp))⟩
  have fz:xi X pins H s.heap.objs.size:=I.fpOk (yY _) (I.hok.fresh (yY _));have lt:∀ c∈[z,TI,TO,i1,i2],c<s.heap.objs.size:=λc hc=>by
   have hc':c=z∨c=TI∨c=TO∨c=i1∨c=i2:=by simpa using hc
   rcases hc' with rfl|rfl|rfl|rfl|rfl
   ·exact yQ hz
   ·exact yQ hTI
   ·exact yQ hTO
   ·obtain ⟨o,q,_⟩:=h1;exact yQ q
   ·obtain ⟨o,q,_⟩:=h2;exact yQ q
  refine wpAny_pyNext_zip_item ap hz hTI hTO h1 h2 p.isList p'.isList (x:=u) (y:=v) (by simpa using hu) (by simpa using hv) λh3 hz3 hTO3 h13 h23 hp3 hs3 hk3=>⟨_,rfl,?_⟩;refine wpAny_letOwnedTupleGo_zip hz3 λh4 hz4 hs4=>?_;have hs4':Heap.SameBut z h3 h4:=hs4;have I4:Inv X pins U H { s with heap:=h4,toks:=s.toks }:=I.turnedL (ch:=[z,TI,TO,i1,i2]) (λc o hc q=>by
   have n1:c≠z:=λe=>hc (by rw [e];simp);have n2:c≠TO:=λe=>hc (by rw [e];simp);have n3:c≠i1:=λe=>hc (by rw [e];simp);have n4:c≠i2:=λe=>hc (by rw [e];simp);exact hs4'.extBut c o n1 (hk3 c o n1 n2 n3 n4 q)) hf
  obtain ⟨f0,f1,f2,f3,f4,f5⟩:=fz;have tup:h4.get? s.heap.objs.size=some { cls:= .type "tuple",data:= .seq #[u,v] }:=hs4'.extBut _ _ (Ne.symm (yJ (lt z (by simp)))) hp3;refine ⟨.ref s.heap.objs.size,j9 H s.heap.objs.size (.tup [x,y]),I4.track I.sz f0 f1 f4 f5 ?_,rfl,⟨s.heap.objs.size,x,y,f0,rfl,rfl,(λzs hy'=>by rw [I.list_inj hy' hqa];exact hx),λzs hy'=>by rw [I.list_inj hy' hqb];exact hy⟩,⟨hz4,?_,⟨u,v,?_⟩,?_,?_⟩,λc hc=>?_⟩
  ·exact ⟨by show 2<=sizeLine;decide,[u,v],.cons ru (.cons rv' .nil),⟨_,tup,rfl,_,rfl⟩⟩
  ·exact hs4'.extBut _ _ (Ne.symm d1) (hk3 _ _ (Ne.symm d1) d5 d6 d7 hTI)
  ·exact hs4'.extBut _ _ (Ne.symm d2) hTO3
  ·exact h13.at λo q=>hs4'.extBut i1 o (Ne.symm d3) q
  ·exact h23.at λo q=>hs4'.extBut i2 o (Ne.symm d4) q
  ·rw [v6 (yJ (lt c hc))];exact (hf c hc).1
 done:=by
  intro X hP hw hK hc i pins s U H E I hf st hg;subst hP hw hK;obtain ⟨hz,hTI,⟨u0,v0,hTO⟩,h1,h2⟩:=st;obtain ⟨xs,ys,hqa,hqb,hend⟩:=hg;obtain ⟨its,rv,p,_⟩:=I.list hqa;obtain ⟨jts,rw',p',_⟩:=I.list hqb;have l1:=rv.length;have l2:=rw'.length;simp only [yh,yP,not_or,yt,not_false_eq_true,uS,and_true] at d;obtain ⟨⟨d1,d2,d3,d4⟩,⟨d5,d6,d7⟩,⟨d8,d9⟩,d10⟩:=d;have ap:ZipApart z TI TO i1 i2 a b:=⟨Ne.symm d1,Ne.symm d2,Ne.symm d3,Ne.symm d4,d5,d6,d7,d8,d9,d10,
   I.seq_ne hqa (hf z (by simp)),I.seq_ne hqa (hf TO (by simp)),I.seq_ne hqa (hf i1 (by simp)),I.seq_ne hqa (hf i2 (by simp)),
   I.seq_ne hqb (hf z (by simp)),I.seq_ne hqb (hf TO (by simp)),I.seq_ne hqb (hf i1 (by simp)),I.seq_ne hqb (hf i2 (by simp))⟩
  refine wpAny_pyNext_zip_end (I.ok.hd hc) ap hz hTI hTO h1 h2 p.isList p'.isList (hend.elim (λq=> .inl (by simp;omega)) (λq=> .inr (by simp;omega))) λh3 hk3=>⟨rfl,I.turnedL (t':=s.toks) (ch:=[z,TI,TO,i1,i2]) (λc o hc q=>?_) hf⟩;exact hk3 c o (λe=>hc (by rw [e];simp)) (λe=>hc (by rw [e];simp)) (λe=>hc (by rw [e];simp)) (λe=>hc (by rw [e];simp)) q
 self:=λ_ _ _ _ _ st h=>wpAny_pyIter_zip st.1 h
section
variable {X:Cx}{elts:List Expr}{x1:Nat}{tp:Pos}
def iZip (K:Fg)(ta:TA):TI:=λU H R=>ta U H λvs H1=>∃ a b,vs=[.ref a,.ref b]/\(∃ xs,SqL K H1 a xs)/\(∃ ys,SqL K H1 b ys)/\R (Itz K a b) H1
theorem NM {b:Expr}(hg:Gl X "zip")(hm:X.mg "zip"=none)(ha:PA X [a,b] ta)(hs:starEach [a,b] X.env=[(false,eval a X.env),(false,eval b X.env)]:=by rfl)(hs2:starEach [b] X.env=[(false,eval b X.env)]:=by rfl):PI X (.Tuple elts x1 tp) (.Call (.Name "zip" p) [a,b] [] pos) (iZip X.K ta):=by
 intro pins s U H R I h;refine Call_ (jA I hg hm PZ (PyProof.Rows.callWith_type1 (z7 (ha pos pins s U H _ I h) λus s1 ⟨vs,H1,I1,r1,q1⟩=>?_) (by rw [hs,hs2]) (by rw [hs2];rfl)));obtain ⟨a,b,e,⟨xs,hq⟩,⟨ys,hq'⟩,q⟩:=q1;subst e;cases r1 with
 |cons r rr =>
  cases rr with
  |cons r' rr =>
   cases rr;cases r;cases r';obtain ⟨its,rv,p,hz⟩:=I1.list hq;obtain ⟨jts,rw',p',_⟩:=I1.list hq';refine call_zip_2 p.isList p'.isList λh' g1 g2 g3 g4 g5 hsz hk=>?_;refine wpAny_pyIter_zip g1 ?_;refine ⟨s1.heap.objs.size+4,[s1.heap.objs.size+4,s1.heap.objs.size+2,s1.heap.objs.size+3,s1.heap.objs.size,s1.heap.objs.size+1],_,_,H1,rfl,I1.kept (t':=s1.toks) hk,RV a b _ _ _ _ _ ?_,⟨g1,g2,⟨_,_,g3⟩,g4,g5⟩,λc hc=>?_,q⟩
   ·simp only [yh,yP,not_or,yt,not_false_eq_true,uS,and_true];refine ⟨⟨?_,?_,?_,?_⟩,⟨?_,?_,?_⟩,⟨?_,?_⟩,?_⟩<;>(show ¬ (_:Nat)=_;omega)
   ·have hc':s1.heap.objs.size<=c:=by
     have hc2:c=s1.heap.objs.size+4∨c=s1.heap.objs.size+2∨c=s1.heap.objs.size+3∨c=s1.heap.objs.size∨c=s1.heap.objs.size+1:=by simpa using hc
     rcases hc2 with e|e|e|e|e<;>(rw [e];first|exact yY _|exact Nat.le_add_right _ _)
    exact I1.fpOk hc' (I1.hok.fresh hc')
end
section
variable {X:Cx}{K:Fg}
theorem XQ (h:X.K=K):IxR X (rIxL K):=by subst h;exact ix_list
theorem Ww (h:X.K=K):SlR X (rSlL K):=by subst h;exact Rv
theorem Uz (h:X.K=K):CallR X (.builtin "len") (λxs H Q=>∃ p ys,xs=[.ref p]/\(SqL K H p ys∨SqT K H p ys)/\Q (.int ys.length) H):=by subst h;exact Ck
theorem Cv (hc:X.calm=true)(h:X.K=K):CallR X (.builtin "sum") (λxs H Q=>∃ (a:Addr) (ns:List Int),xs=[.ref a]/\SqL K H a (ns.map V.int)/\Q (.int ns.sum) H):=by subst h;exact Cu hc
theorem Vd {es:List Expr}{k:Nat}{t:TGs}{n:Nat}(hc:X.calm=true)(hK:X.K=K)(h:PGs X es t)(hn:(assignEach es X.env).length=n:=by rfl)(hst:(assignEach es X.env).findIdx? (·.1)=none:=by rfl):PG X (.Tuple es k pos) (gTup K n t):=by subst hK;exact NE hc h hn hst
theorem qb {tg l:Expr}{tl:TE}(hK:X.K=K)(hl:PE X l tl):PI X tg l (XH K tl):=by subst hK;exact NH hl
theorem NG (hK:X.K=K)(hg:Gl X "enumerate")(hm:X.mg "enumerate"=none)(ha:PA X [a] ta)(hs:starEach [a] X.env=[(false,eval a X.env)]:=by rfl):PI X (.Tuple elts x1 tp) (.Call (.Name "enumerate" p) [a] [] pos) (Jv K ta):=by subst hK;exact NF hg hm ha hs
theorem NN {b:Expr}(hK:X.K=K)(hg:Gl X "zip")(hm:X.mg "zip"=none)(ha:PA X [a,b] ta)(hs:starEach [a,b] X.env=[(false,eval a X.env),(false,eval b X.env)]:=by rfl)(hs2:starEach [b] X.env=[(false,eval b X.env)]:=by rfl):PI X (.Tuple elts x1 tp) (.Call (.Name "zip" p) [a,b] [] pos) (iZip K ta):=by subst hK;exact NM hg hm ha hs hs2
end
section
variable {X:Cx}
theorem Ni:OpR X (compareOp .LtE) (λx y H Q=>∃ i j,x = .str i/\y = .str j/\Q (.bl (!decide (j.cps.toList<i.cps.toList))) H):=by intro pins s U H x y v u Q I rx ry h;obtain ⟨i,j,rfl,rfl,q⟩:=h;obtain ⟨t,rfl⟩:=rx;obtain ⟨t',rfl⟩:=ry;exact PySem.P.le_str (Jr I q rfl)
def ItS (z:Str):It:=⟨λi _=>i<z.cps.size,λi H x H'=>H'=H/\∃ c,z.cps[i]?=some c/\x = .str ⟨#[c]⟩,λi _=>i=z.cps.size⟩
theorem BM (it:Addr)(ty:String)(z:Str)(t:Tok)(W:∀ A':Around,A'.handled=none->Walks P w A' it [it] [it] z.cps.size (SignAt z) (λi h=>h.IsStrIter it ty z t i))(sf:∀(A:Around)(i:Nat)(s:Shared)(Q:Value->Shared->Prop)(E:Value->Shared->Prop),s.heap.IsStrIter it ty z t i->Q (.ref it) s->wpAny (model P w) A (pyIter (.ref it)) Q E s):zQ P w K (.Name x px) (ItS z) [it] it (λi h=>h.IsStrIter it ty z t i) where
 mem:=by simp
 obj:=λi h st b hb=>by
  have e:b=it:=by simpa using hb
  subst e;obtain ⟨o,e,c,d⟩:=st;exact ⟨o,e,λv q=>by rw [d] at q;cases q⟩
 keep:=λi h h' st k=>by
  obtain ⟨o,e,r⟩:=st;exact ⟨o,k it (by simp) o e,r⟩
 item:=by intro X hP hw hK hc i pins s U H E I hf st hg;subst hP hw hK;obtain ⟨f0,f1,f2,f3,f4,f5⟩:=hf it (by simp);refine (W X.A (I.ok.hd hc)).item i s _ _ hg st λv h' tk hv st' kk=>?_;obtain ⟨c,u,e1,rfl⟩:=hv;have I1:Inv X pins U H { s with heap:=h',toks:=tk }:=I.turned (λb o hb e=>kk b o (by simpa using hb) e) f0 f1 f3 f4 f5;refine ⟨_,rfl,?_⟩;show wpAny _ _ (pure ()) _ _ _;exact yR ⟨.str ⟨#[c]⟩,H,I1,⟨u,rfl⟩,⟨rfl,c,e1,rfl⟩,st',λb hb=>(hf b hb).1⟩
 done:=by intro X hP hw hK hc i pins s U H E I hf st hg;subst hP hw hK;obtain ⟨f0,f1,f2,f3,f4,f5⟩:=hf it (by simp);have hg':i=z.cps.size:=hg;subst hg';exact (W X.A (I.ok.hd hc)).done s _ _ st λh' tk kk=>⟨rfl,I.turned (λb o hb e=>kk b o (by simpa using hb) e) f0 f1 f3 f4 f5⟩
 self:=sf
def iStr (tl:TE):TI:=λU H R=>tl U H λx H1=>∃ z,x = .str z/\R (ItS z) H1
theorem Vf {l:Expr}{tl:TE}(hl:PE X l tl):PI X (.Name x px) l (iStr tl):=by
 intro pins s U H R I h;refine z7 (hl pins s U H _ I h) λv s1 zq=>?_;obtain ⟨x,H1,I1,r1,q1⟩:=zq;obtain ⟨z,e,q⟩:=q1;subst e;obtain ⟨t,rfl⟩:=r1;have fp:∀ b∈[s1.heap.objs.size],xi X pins H1 b:=λb hb=>by
  have e:b=s1.heap.objs.size:=by simpa using hb
  subst e;exact I1.fpOk (yY _) (I1.hok.fresh (yY _))
 cases ha:z.cps.all (·<128)
 ·refine wpAny_pyIter_wide ha ?_;exact ⟨s1.heap.objs.size,[s1.heap.objs.size],_,_,H1,rfl,I1.kept (t':=s1.toks) λb o e=>yV _ e,BM _ "str_iterator" z t (λA' hA=>Walks.strWide hA _ z t) (λ_ _ _ _ _ st h=>wpAny_pyIter_striter_wide st h),⟨_,yI _ rfl,rfl,rfl⟩,fp,q⟩
 ·refine wpAny_pyIter_ascii ha ?_;exact ⟨s1.heap.objs.size,[s1.heap.objs.size],_,_,H1,rfl,I1.kept (t':=s1.toks) λb o e=>yV _ e,BM _ "str_ascii_iterator" z t (λA' hA=>Walks.strAscii hA _ z t) (λ_ _ _ _ _ st h=>wpAny_pyIter_striter_ascii st h),⟨_,yI _ rfl,rfl,rfl⟩,fp,q⟩
def tSlS (te:TE)(tl th:TO):TE:=λU H Q=>te U H λx H1=>tl U H1 λl H2=>th U H2 λu H3=>∃ z,x = .str z/\z.length<=sizeLine/\((l=none/\∃ j,u=some j)∨(u=none/\∃ i,l=some i))/\Q (.str (Txt.slice z l u)) H3
end
section
variable {X:Cx}{K:Fg}
def Ks (K:Fg):R2:=λx y H Q=>∃ l b xs zs,x = .ref l/\y = .ref b/\SqL K H l xs/\SqL K H b zs/\xs.length+zs.length<=sizeLine/\∀ p,H p=none->Q (.ref p) (j9 H p (.lst (xs++zs)))
theorem op_catL:OpR X (binaryOp .Add) (Ks X.K):=by
 intro pins s U H x y v u Q I rx ry h;obtain ⟨l,b,xs,zs,rfl,rfl,hH,hB,hz,q⟩:=h;cases rx;cases ry;obtain ⟨its,r,⟨⟨cls,dd,data,sl⟩,n,e,h1,h2,h3⟩,_⟩:=I.list hH;obtain ⟨its2,r2,⟨⟨cls2,dd2,data2,sl2⟩,n2,e2,k1,k2,k3⟩,_⟩:=I.list hB
 dsimp only at h1 h2 h3 k1 k2 k3
 subst h1 h2 h3 k1 k2 k3;have hl:=r.length;have hl2:=r2.length;have hsz:its.toArray.size+its2.toArray.size<=sizeLine:=by rw [yX,yX];omega
 refine concat_meets ⟨_,e,rfl⟩ ⟨_,e2,rfl⟩ noFill_list_add seq_list_add PySem.F.slot_list_add PySem.F.entry_list_add (PySem.F.args_list_add_2 _ _) (list_addW l b its.toArray its2.toArray n n2 none none sl sl2 hsz) ⟨e,e2,?_⟩;have ea:its.toArray++its2.toArray=(its++its2).toArray:=by simp
 rw [ea];exact ⟨.ref _,_,I.lnew (t':=s.toks) (r.append r2) (by rw [yH];omega),rfl,q _ I.fresh⟩
end
section
variable {P:Program}{w:World}{H H' H0:Hp}{h h' h0:Heap}{a:Addr}{o:HO}
theorem ObjOk.here (x:ObjOk P w H h a o):∃ u,h.get? a=some u:=by
 cases o with
 |lst xs=>obtain ⟨_,_,_,_,e⟩:=x;exact ⟨_,e⟩
 |tup xs=>obtain ⟨_,_,_,_,e,_⟩:=x;exact ⟨_,e⟩
 |dK kvs=>obtain ⟨_,_,_,_,_,_,_,e,_⟩:=x;exact ⟨_,e⟩
 |dT fl as kvs=>obtain ⟨_,_,_,_,_,_,_,e,_⟩:=x;exact ⟨_,e⟩
 |set S n=>obtain ⟨_,_,_,_,e,_⟩:=x;exact ⟨_,e⟩
 |ins C dx fs=>obtain ⟨_,_,_,e,_⟩:=x;exact ⟨_,e⟩
 |own y=>obtain ⟨_,e⟩:=x;exact ⟨_,e⟩
 |xd fs=>obtain ⟨_,⟨_,_,_,e,_⟩,_⟩:=x;exact ⟨_,e⟩
 |rng lo hi=>obtain ⟨_,_,_,e⟩:=x;exact ⟨_,e⟩
 |frz ob u=>obtain ⟨e,_⟩:=x;exact ⟨_,e⟩
 |tbl ps q=>obtain ⟨_,e,_⟩:=x;exact ⟨_,e⟩
 |met f y=>exact ⟨_,(show h.get? a=some _ from x)⟩
 |ext φ=>obtain ⟨_,⟨_,e⟩,_⟩:=x;exact ⟨_,e⟩
theorem HOk.gone (x:HOk P w H h)(e:h.get? a=none):H a=none:=by
 cases q:H a with
 |none=>rfl
 |some u=>obtain ⟨v,z⟩:=(x a u q).here;rw [e] at z;cases z
theorem HOk.off (x:HOk P w H h)(k:∀ b u,b∉S->h.get? b=some u->h'.get? b=some u)(hS:∀ b∈S,H b=none):HOk P w H h':=λb u e=>by
 have out:∀ c v,H c=some v->c∉S:=λc v q z=>by
  have n:=hS c z;rw [q] at n;cases n
 refine (x b u e).stay (λc v hc q=>k c v ?_ q) (λ_ q=>q) (λ_ _ q=>q) λ_ _ _ q=>q;rcases hc with z|z
 ·rw [z];exact out b u e
 ·exact out c _ z
theorem Un.off {fs ex:List Addr}(u:Un fs ex H0 H h0 h)(k:∀ b o,b∉S->h.get? b=some o->h'.get? b=some o)(hS:∀ b∈S,b∈fs∨h0.get? b=none)(sl:∀ b o,b∈fs->h.get? b=some o->∃ z,h'.get? b=some { o with slots:=z }):Un fs ex H0 H h0 h' where
 keep:=λb o e n hb hx=>k b o (λz=>by
  rcases hS b z with q|q
  ·exact hb q
  ·rw [e] at q;cases q) (u.keep b o e n hb hx)
 slot:=λb o e n hb hx=>by
  obtain ⟨z,q⟩:=u.slot b o e n hb hx;obtain ⟨z2,q2⟩:=sl b _ hb q;exact ⟨z2,q2⟩
 free:=u.free
 there:=λb o e hx=>by
  obtain ⟨o',q⟩:=u.there b o e hx;by_cases hb:b∈fs
  ·obtain ⟨z,q2⟩:=sl b _ hb q;exact ⟨_,q2⟩
  ·exact ⟨o',k b o' (λz=>by
    rcases hS b z with y|y
    ·exact hb y
    ·rw [e] at y;cases y) q⟩
 tups:=u.tups
 frzs:=u.frzs
 tbls:=u.tbls
end
structure Fly (h0 h:Heap)(H:Hp)(e:Addr)(cls:Value):Prop where
 ex:∃ oe vs T oT ts a0,h.get? e=some oe/\oe.cls=cls/\vs[0]?=some a0/\oe.data = .fields vs/\vs[1]?=some (.ref T)/\T≠e/\h.get? T=some oT/\oT.data = .fields ts/\ts[3]?=some .none/\H T=none/\h0.get? T=none
 free:H e=none
 new:h0.get? e=none
def CX1 (P:Program)(w:World):CXT:=λouter H s E e s'=>∃ ea cls H',e = .ref ea/\s'.os=s.os/\AllBare s'.gens/\Un (qa outer) [] H H' s.heap s'.heap/\HOk P w H' s'.heap/\Fly s.heap s'.heap H' ea cls/\E cls none H'
theorem MN {env:Env}(h:env∈l)(hf:env.frame=some b):b∈qa l:=uT.mpr ⟨env,h,hf⟩
section
variable {M:Model}{A:Around}{Er:Value->Shared->Prop}{s:Shared}{h0 base:Heap}{H:Hp}{P:Program}{w:World}{env:Env}{outer:List Env}{L e:Addr}{cls:Value}{Q:Unit->Shared->Prop}
structure Kept (S:List Addr)(l:List Env)(h h':Heap):Prop where
 keep:∀ b o,b∉S->h.get? b=some o->h'.get? b=some o
 slot:∀ b o,b∈qa l->h.get? b=some o->∃ z,h'.get? b=some { o with slots:=z }
theorem CV {B h':Heap}{T:Addr}{oT:Obj}{ts:Array Value}(hok:HOk P w H h1)(hp:∀ b o,h0.get? b=some o->∃ o',h1.get? b=some o')(fr:h1.FunFrames base l)(hB:B=PySem.W.hideAll h1 (S++qa l))(up:∀ b o,b∈qa l->h1.get? b=some o->∃ z,h'.get? b=some { o with slots:=z })(hn:B.get? T=none)(hT:h'.get? T=some oT)(hd:oT.data = .fields ts)(hS:T∈S->H T=none/\h0.get? T=none):H T=none/\h0.get? T=none:=by
 cases q:h1.get? T with
 |none =>
  refine ⟨hok.gone q,?_⟩;cases z:h0.get? T with
  |none=>rfl
  |some o=>obtain ⟨o',z2⟩:=hp T o z;rw [q] at z2;cases z2
 |some o =>
  by_cases m:T∈S++qa l
  ·rcases ym.mp m with m|m
   ·exact hS m
   ·obtain ⟨z,z2⟩:=up T o m q;obtain ⟨_,o2,z3,z4⟩:=fr.mem m;rw [q] at z3;cases z3;rw [hT] at z2;have e:=Option.some.inj z2;rw [e] at hd;exact absurd hd (z4 ts)
  ·rw [hB,PySem.W.hideAll_get _ q m] at hn;cases hn
theorem Mu {args:List Value}(hfr:A.frames=some (env::outer))(hf:env.frame=some L)(fr:h1.FunFrames base (env::outer))(hok:HOk P w H h1)(hp:∀ b o,h0.get? b=some o->∃ o',h1.get? b=some o')(mk:Heap.MadeExcOf h1 s.heap e cls args)(hQ:∀ h',Kept (qa (env::outer)) (env::outer) h1 h'->Fly h0 h' H e cls->Q () { s with heap:=h' }):wpAny M A (leaving env (.ref e)) Q Er s:=by
 have hin:∀ x∈env::outer,∀ b,x.frame=some b->b∈[]++qa (env::outer):=λx hx b hb=>yq _ (MN hx hb);refine wpAny_leaves_madeW (base:=PySem.W.hideAll h1 ([]++qa (env::outer))) hfr hf (λb o q=>PySem.W.of_hideAll _ q) (PySem.W.funFrames_hide fr hin) mk λh' t x _ _ up=>?_;obtain ⟨f1,f2,f3,oe',vs',T',oT',ts',g1,⟨g2,g3⟩,g4,g5,g6,g7,g8,g9,g10⟩:=x;have sl:∀ b o,b∈qa (env::outer)->h1.get? b=some o->∃ z,h'.get? b=some { o with slots:=z }:=λb o hb q=>up b o (mk.keeps b o q) (by
  obtain ⟨_,o2,z3,z4⟩:=fr.mem hb;rw [q] at z3;cases z3;exact z4)
 obtain ⟨n1,n2⟩:=CV (S:=[]) hok hp fr rfl sl g6 g8 g9 (λz=>nomatch z);refine hQ h' ⟨λb o nb q=>f1 b o (PySem.W.hideAll_get _ q (by simpa using nb)),sl⟩ ⟨⟨oe',vs',T',oT',ts',_,g1,g2,g3,g4,g5,g7,g8,g9,g10,n1,n2⟩,hok.gone mk.new,?_⟩;cases z:h0.get? e with
 |none=>rfl
 |some o=>obtain ⟨o',z2⟩:=hp e o z;rw [mk.new] at z2;cases z2
end
def Yl (X:Cx)(E:XK):Prop:=∀(pins:List (Addr×Obj))(U:St)(H:Hp)(s:Shared)(ea:Addr)(h':Heap)(C:Addr)(args:List Value),Inv X pins U H s->Heap.MadeExcOf s.heap h' ea (.ref C) args->E (.ref C) none H->X.xe (.ref ea) { s with heap:=h' }
section
variable {P:Program}{w:World}{K:Fg}{mg:Str->Option Value}{base:Heap}{N:List Str}{qual:Str}{scope:Scope}{f:Addr}{cd:Value}{A:Around}{outer:List Env}{s:Shared}{H:Hp}{E:XK}
theorem RO:Yl (qQ (CX1 P w) P w K mg base N qual scope f cd A outer s H E) E:=by
 intro pins U H1 s1 ea h' C args I mk q;refine Mu (h0:=s.heap) (H:=H1) (P:=P) (w:=w) (base:=base) (L:=s.heap.objs.size) I.ok.frames rfl I.stack I.hok (λb o e=>I.base.there b o e (λz=>nomatch z)) mk λh2 k F=>?_;refine ⟨ea,.ref C,H1,rfl,I.os,I.bare,Un.off (S:=qa (envOfC qual scope s.heap.objs.size f cd::outer)) I.base k.keep (λb hb=>?_) (λb o hb e=>k.slot b o (uT.mpr ?_) e),I.hok.off k.keep (λb hb=>I.stkFree b hb),F,q⟩
 ·rcases yP.mp (I.stkSub b hb) with z|z
  ·refine .inr ?_;rw [z];exact Heap.get?_none_of_le (yY _)
  ·exact .inl z
 ·obtain ⟨x,hx,hf⟩:=uT.mp hb;exact ⟨x,yN _ hx,hf⟩
theorem Fun.ok1 {qual:Str}{st:Stmt}{f:Addr}{fd:FuncData}{N ps:List Str}{k:Nat}{sp:Sp}(F:Fun K x qual st f fd)(S:w5 N ps (z9 st))(len:∀ vs H Q E,sp vs H Q E->vs.length=ps.length)(hbody:∀(cdv:Value)(A:Around)(outer:List Env)(s:Shared)(H:Hp)(vs:List V)(Q:VK)(E:XK),Room k (A.deeper (envOfC qual (z9 st) s.heap.objs.size f cdv))->sp vs H Q E -> ∃ t,PSs (qQ (CX1 P w) P w K mg base N qual (z9 st) f cdv A outer s H E) (i0 st) t/\t { nx:=λ_ H'=>Q .non H',rt:=Q } (start N vs) H):FnOk P w K mg base (CX1 P w) (k+1) f fd ps sp:=by obtain ⟨oc,od,kV,doc,pm,an,cdv,ct,osl,rfl,lk,hcd⟩:=F.ex;exact Jt lk hcd S len λA outer s H vs Q E hr hsp=>hbody cdv A outer s H vs Q E hr hsp
end
theorem No {h:Heap}{mg:Str->Option Value}{C:Addr}{bmB:List Value}{newId:String}(X:K.In h)(hm:mg x=some (.ref C))(q:PySem.W.excIn K C bmB newId=true):OwnCls x C bmB newId mg h:=by
 constructor
 ·exact hm
 unfold PySem.W.excIn at q;split at q
 next dA cA sA lk =>
  split at q
  next D mr s0 s1 s2 s3 nw s5 em es =>
   rw [yp,yp,yp,yp,yp] at q;obtain ⟨⟨⟨⟨⟨q1,q2⟩,q3⟩,q4⟩,q5⟩,q6⟩:=q;have r1:D=C:=beq_iff_eq.mp q1;have r2:nw=newId:=beq_iff_eq.mp q2;have r6:=beq_iff_eq.mp q6;subst r1 r2;cases cA with
   |mk f1 f2 f3 f4 f5 f6 f7 f8 f9 f10 f11 =>
    have em':f3 = .ref D::mr:=em;have q3':f11=false:=by simpa using q3
    have es':sA=#[s0,s1,s2,s3,some (.builtin nw),s5]:=by
     cases sA with
     |mk l=>exact congrArg Array.mk es
    subst em' q3' es';have nsx:=PySem.W.isNs_of_in X (show PySem.W.nsOkIn K f4=true from q5);refine ⟨mr,f4,f1,f5,f2,f6,f7,f8,f9,f10,dA,s0,s1,s2,s3,s5,_,X _ _ lk,Heap.Ns.of_isNs nsx,?_,PySem.W.tail_of_in X q4⟩;exact PySem.W.nsMap_none_of_in X q5 r6
  next=>cases q
 next=>cases q
def Pc:List Value:=[.type "ValueError",.type "Exception",.type "BaseException",.type "object"]
section
variable {X:Cx}{x:Str}{C:Addr}{E:XK}{np cpos pos:Pos}
def WF (C:Addr)(E:XK):TS:=λ_ _ H=>E (.ref C) none H
theorem NW (hc:X.calm=true)(hg:Gl X x)(hm:X.mg x=some (.ref C))(q:PySem.W.excIn X.K C Pc "ValueError.__new__"=true)(ht:Yl X E)(hd:(x==("__debug__":Str))=false:=by decide):PS X (.Raise (some (.Call (.Name x np) [] [] cpos)) none pos) (WF C E):=by
 intro pins s U H D I h;obtain ⟨tl,N,nm,qn,bs,hdct,sn,sub,ab,col,dd,k0,k1,k2,k3,k5,mN,hC,hN,hni,TL⟩:=(No (mg:=X.mg) I.kIn hm q).obj;refine wpAny_Raise_call_subU (C:=C) (nm:=nm) (q:=qn) (N:=N) (bs:=bs) (bm:=tl) (hdct:=hdct) (sn:=sn) (sub:=sub) (ab:=ab) (col:=col) (dd:=dd) (k0:=k0) (k1:=k1) (k2:=k2) (k3:=k3) (k5:=k5)
  PySem.F.excBase_ValueError (by decide) PySem.F.excBase_ValueError (mN:=mN) (TL.hasType PySem.F.excBase_ValueError.hasBase) (I.ok.hd hc) rfl hni (XR I hg hm ⟨rfl,?_⟩ hd)
 exact evalArgs_empty ⟨rfl,yo _,hC,hN,TL,λh' ea mk=>ht pins U H s ea h' C [] I mk h⟩
end
abbrev Cx.tried (X:Cx)(pn:List (Addr×Obj))(W:Value->Shared->Prop):Cx:={ X with pn:=pn,xe:=W }
section
variable {X:Cx}{pins:List (Addr×Obj)}{U:St}{H:Hp}{s:Shared}{W:Value->Shared->Prop}{b ea:Addr}
theorem Cx.Ok.tried (ok:X.Ok)(pn:List (Addr×Obj))(W:Value->Shared->Prop):(X.tried pn W).Ok :=
 ⟨ok.mod,ok.kind,ok.glob,ok.blt,ok.above,ok.inj,ok.has,ok.cab,ok.hd,ok.frames,ok.stk,ok.exf,ok.bs,ok.bsz,ok.noex,ok.exfs,ok.funs,ok.frf,ok.tbs⟩
theorem Inv.tried (I:Inv X pins U H s)(W:Value->Shared->Prop):Inv (X.tried (X.pn++pins) W) [] U H s :=
 ⟨I.ok.tried _ _,I.os,I.bare,I.base,I.loc,I.cell,I.free,I.freeC,λp hp=>I.pin p (by simpa using hp),I.hok,I.len⟩
theorem Inv.untried (ok:X.Ok)(I:Inv (X.tried (X.pn++pins) W) p2 U H s):Inv X pins U H s :=
 ⟨ok,I.os,I.bare,I.base,I.loc,I.cell,I.free,I.freeC,λp hp=>I.pin p (List.mem_append_left _ hp),I.hok,I.len⟩
end
theorem SP.untried {X:Cx}{pins:List (Addr×Obj)}{W:Value->Shared->Prop}{D:xD}{f:Flow}{s:Shared}(ok:X.Ok)(h:SP (X.tried (X.pn++pins) W) p2 D f s):SP X pins D f s:=by
 cases f with
 |next=>obtain ⟨σ',H',I,q⟩:=h;exact ⟨σ',H',I.untried ok,q⟩
 |brk=>obtain ⟨σ',H',I,q⟩:=h;exact ⟨σ',H',I.untried ok,q⟩
 |cont=>obtain ⟨σ',H',I,q⟩:=h;exact ⟨σ',H',I.untried ok,q⟩
 |ret u=>obtain ⟨v,σ',H',I,r,q⟩:=h;exact ⟨v,σ',H',I.untried ok,r,q⟩
end L2
namespace L2
open PySem PySem.Spec PyProof.Rows PySem.SeqAt
variable{x y:V}{A:Around}{s:Shared}{u v:Value}{l:Addr}{items:Array Value}{n:Nat}{b:Bool}{K:Fg}
def EqP (K:Fg)(H:Hp):Nat->V->V->Bool->Prop
 |0,x,y,b=>g0 x=true/\g0 y=true/\b=qd x y
 |n+1,x,y,b=>(g0 x=true/\g0 y=true/\b=qd x y) ∨
  (∃(a c:Addr)(xs ys:List V),x = .ref a/\y = .ref c/\SqL K H a xs/\SqL K H c ys/\((xs.length≠ys.length/\b=false)∨(xs.length=ys.length/\∃ e:Nat->Bool,(∀ j (h1:j<xs.length) (h2:j<ys.length),EqP K H n xs[j] ys[j] (e j))/\b=(List.range xs.length).all e))) ∨
  (∃(a c:Addr)(xs ys:List V),x = .ref a/\y = .ref c/\SqT K H a xs/\SqT K H c ys/\∃ e:Nat->Bool,(∀ j (h1:j<xs.length) (h2:j<ys.length),EqP K H n xs[j] ys[j] (e j))/\b=((List.range (min xs.length ys.length)).all e&&xs.length==ys.length)) ∨
  (∃(a c:Addr)(xs ys:List V),x = .ref a/\y = .ref c/\SqL K H a xs/\SqT K H c ys/\b=false) ∨
  (∃(a c:Addr)(xs ys:List V),x = .ref a/\y = .ref c/\SqT K H a xs/\SqL K H c ys/\b=false) ∨
  (∃(c:Addr)(ys:List V),g0 x=true/\y = .ref c/\(SqL K H c ys∨SqT K H c ys)/\b=false) ∨
  (∃(a:Addr)(xs:List V),g0 y=true/\x = .ref a/\(SqL K H a xs∨SqT K H a xs)/\b=false)
theorem XB (h:g0 x=true):qd x x=true:=by cases x<;>first|rfl|exact beq_self_eq_true _|cases h
theorem KN (ry:RelV y u)(rx:RelV x v)(fy:g0 y=true)(fx:g0 x=true):RcAt A s u v (qd y x):=by
 cases y with
 |non =>
  cases ry;cases x with
  |non=>cases rx;exact RcAt.none_none
  |bl b=>cases rx;exact RcAt.none_bool b
  |int b=>obtain ⟨t2,rfl⟩:=rx;exact RcAt.none_int b t2
  |str b=>obtain ⟨t2,rfl⟩:=rx;exact RcAt.none_str b t2
  |_=>exact absurd (show false=true from fx) yU
 |bl a =>
  cases ry;cases x with
  |non=>cases rx;exact RcAt.bool_none a
  |bl b=>cases rx;exact RcAt.bool_bool a b
  |int b=>obtain ⟨t2,rfl⟩:=rx;exact RcAt.bool_int a b t2
  |str b=>obtain ⟨t2,rfl⟩:=rx;exact RcAt.bool_str a b t2
  |_=>exact absurd (show false=true from fx) yU
 |int a =>
  obtain ⟨t1,rfl⟩:=ry;cases x with
  |non=>cases rx;exact RcAt.int_none a t1
  |bl b=>cases rx;exact RcAt.int_bool a t1 b
  |int b=>obtain ⟨t2,rfl⟩:=rx;exact RcAt.int_int a t1 b t2
  |str b=>obtain ⟨t2,rfl⟩:=rx;exact RcAt.int_str a t1 b t2
  |_=>exact absurd (show false=true from fx) yU
 |str a =>
  obtain ⟨t1,rfl⟩:=ry;cases x with
  |non=>cases rx;exact RcAt.str_none a t1
  |bl b=>cases rx;exact RcAt.str_bool a t1 b
  |int b=>obtain ⟨t2,rfl⟩:=rx;exact RcAt.str_int a t1 b t2
  |str b=>obtain ⟨t2,rfl⟩:=rx;exact RcAt.str_str a t1 b t2
  |_=>exact absurd (show false=true from fx) yU
 |_=>exact absurd (show false=true from fy) yU
theorem KO (ry:RelV y u)(rx:RelV x v)(fy:g0 y=true)(fx:g0 x=true):RcNeAt A s u v (!qd y x):=by
 cases y with
 |non =>
  cases ry;cases x with
  |non=>cases rx;exact RcNeAt.none_none
  |bl b=>cases rx;exact RcNeAt.none_bool b
  |int b=>obtain ⟨t2,rfl⟩:=rx;exact RcNeAt.none_int b t2
  |str b=>obtain ⟨t2,rfl⟩:=rx;exact RcNeAt.none_str b t2
  |_=>exact absurd (show false=true from fx) yU
 |bl a =>
  cases ry;cases x with
  |non=>cases rx;exact RcNeAt.bool_none a
  |bl b=>cases rx;exact RcNeAt.bool_bool a b
  |int b=>obtain ⟨t2,rfl⟩:=rx;exact RcNeAt.bool_int a b t2
  |str b=>obtain ⟨t2,rfl⟩:=rx;exact RcNeAt.bool_str a b t2
  |_=>exact absurd (show false=true from fx) yU
 |int a =>
  obtain ⟨t1,rfl⟩:=ry;cases x with
  |non=>cases rx;exact RcNeAt.int_none a t1
  |bl b=>cases rx;exact RcNeAt.int_bool a t1 b
  |int b=>obtain ⟨t2,rfl⟩:=rx;exact RcNeAt.int_int a t1 b t2
  |str b=>obtain ⟨t2,rfl⟩:=rx;exact RcNeAt.int_str a t1 b t2
  |_=>exact absurd (show false=true from fx) yU
 |str a =>
  obtain ⟨t1,rfl⟩:=ry;cases x with
  |non=>cases rx;exact RcNeAt.str_none a t1
  |bl b=>cases rx;exact RcNeAt.str_bool a t1 b
  |int b=>obtain ⟨t2,rfl⟩:=rx;exact RcNeAt.str_int a t1 b t2
  |str b=>obtain ⟨t2,rfl⟩:=rx;exact RcNeAt.str_str a t1 b t2
  |_=>exact absurd (show false=true from fx) yU
 |_=>exact absurd (show false=true from fy) yU
theorem CW (hl:s.heap.IsList l items)(hu:A.units<cLine)(ry:RelV y u)(fy:g0 y=true):EqAt A s u (.ref l) false:=by
 cases y with
 |non=>cases ry;exact EqAt.none_list hl hu
 |bl a=>cases ry;exact EqAt.bool_list a hl hu
 |int a=>obtain ⟨t1,rfl⟩:=ry;exact EqAt.int_list a t1 hl hu
 |str a=>obtain ⟨t1,rfl⟩:=ry;exact EqAt.str_list a t1 hl hu
 |_=>exact absurd (show false=true from fy) yU
theorem CZ (hl:s.heap.IsList l items)(hu:A.units<cLine)(ry:RelV y u)(fy:g0 y=true):EqAt A s (.ref l) u false:=by
 cases y with
 |non=>cases ry;exact EqAt.list_none hl hu
 |bl a=>cases ry;exact EqAt.list_bool a hl hu
 |int a=>obtain ⟨t1,rfl⟩:=ry;exact EqAt.list_int a t1 hl hu
 |str a=>obtain ⟨t1,rfl⟩:=ry;exact EqAt.list_str a t1 hl hu
 |_=>exact absurd (show false=true from fy) yU
theorem CY (hl:s.heap.IsTuple l items)(hu:A.units<cLine)(ry:RelV y u)(fy:g0 y=true):EqAt A s u (.ref l) false:=by
 cases y with
 |non=>cases ry;exact EqAt.none_tuple hl hu
 |bl a=>cases ry;exact EqAt.bool_tuple a hl hu
 |int a=>obtain ⟨t1,rfl⟩:=ry;exact EqAt.int_tuple a t1 hl hu
 |str a=>obtain ⟨t1,rfl⟩:=ry;exact EqAt.str_tuple a t1 hl hu
 |_=>exact absurd (show false=true from fy) yU
theorem Da (hl:s.heap.IsTuple l items)(hu:A.units<cLine)(ry:RelV y u)(fy:g0 y=true):EqAt A s (.ref l) u false:=by
 cases y with
 |non=>cases ry;exact EqAt.tuple_none hl hu
 |bl a=>cases ry;exact EqAt.tuple_bool a hl hu
 |int a=>obtain ⟨t1,rfl⟩:=ry;exact EqAt.tuple_int a t1 hl hu
 |str a=>obtain ⟨t1,rfl⟩:=ry;exact EqAt.tuple_str a t1 hl hu
 |_=>exact absurd (show false=true from fy) yU
theorem Hh (hl:s.heap.IsList l items)(hu:A.units<cLine)(ry:RelV y u)(fy:g0 y=true):RcAt A s u (.ref l) false:=by
 cases y with
 |non=>cases ry;exact RcAt.none_list hl hu
 |bl a=>cases ry;exact RcAt.bool_list a hl hu
 |int a=>obtain ⟨t1,rfl⟩:=ry;exact RcAt.int_list a t1 hl hu
 |str a=>obtain ⟨t1,rfl⟩:=ry;exact RcAt.str_list a t1 hl hu
 |_=>exact absurd (show false=true from fy) yU
theorem Hj (hl:s.heap.IsList l items)(hu:A.units<cLine)(ry:RelV y u)(fy:g0 y=true):RcAt A s (.ref l) u false:=by
 cases y with
 |non=>cases ry;exact RcAt.list_none hl hu
 |bl a=>cases ry;exact RcAt.list_bool a hl hu
 |int a=>obtain ⟨t1,rfl⟩:=ry;exact RcAt.list_int a t1 hl hu
 |str a=>obtain ⟨t1,rfl⟩:=ry;exact RcAt.list_str a t1 hl hu
 |_=>exact absurd (show false=true from fy) yU
theorem Hi (hl:s.heap.IsTuple l items)(hu:A.units<cLine)(ry:RelV y u)(fy:g0 y=true):RcAt A s u (.ref l) false:=by
 cases y with
 |non=>cases ry;exact RcAt.none_tuple hl hu
 |bl a=>cases ry;exact RcAt.bool_tuple a hl hu
 |int a=>obtain ⟨t1,rfl⟩:=ry;exact RcAt.int_tuple a t1 hl hu
 |str a=>obtain ⟨t1,rfl⟩:=ry;exact RcAt.str_tuple a t1 hl hu
 |_=>exact absurd (show false=true from fy) yU
theorem Hk (hl:s.heap.IsTuple l items)(hu:A.units<cLine)(ry:RelV y u)(fy:g0 y=true):RcAt A s (.ref l) u false:=by
 cases y with
 |non=>cases ry;exact RcAt.tuple_none hl hu
 |bl a=>cases ry;exact RcAt.tuple_bool a hl hu
 |int a=>obtain ⟨t1,rfl⟩:=ry;exact RcAt.tuple_int a t1 hl hu
 |str a=>obtain ⟨t1,rfl⟩:=ry;exact RcAt.tuple_str a t1 hl hu
 |_=>exact absurd (show false=true from fy) yU
theorem Hl (hl:s.heap.IsList l items)(hu:A.units<cLine)(ry:RelV y u)(fy:g0 y=true):RcNeAt A s u (.ref l) true:=by
 cases y with
 |non=>cases ry;exact RcNeAt.none_list hl hu
 |bl a=>cases ry;exact RcNeAt.bool_list a hl hu
 |int a=>obtain ⟨t1,rfl⟩:=ry;exact RcNeAt.int_list a t1 hl hu
 |str a=>obtain ⟨t1,rfl⟩:=ry;exact RcNeAt.str_list a t1 hl hu
 |_=>exact absurd (show false=true from fy) yU
theorem Hn (hl:s.heap.IsList l items)(hu:A.units<cLine)(ry:RelV y u)(fy:g0 y=true):RcNeAt A s (.ref l) u true:=by
 cases y with
 |non=>cases ry;exact RcNeAt.list_none hl hu
 |bl a=>cases ry;exact RcNeAt.list_bool a hl hu
 |int a=>obtain ⟨t1,rfl⟩:=ry;exact RcNeAt.list_int a t1 hl hu
 |str a=>obtain ⟨t1,rfl⟩:=ry;exact RcNeAt.list_str a t1 hl hu
 |_=>exact absurd (show false=true from fy) yU
theorem Hm (hl:s.heap.IsTuple l items)(hu:A.units<cLine)(ry:RelV y u)(fy:g0 y=true):RcNeAt A s u (.ref l) true:=by
 cases y with
 |non=>cases ry;exact RcNeAt.none_tuple hl hu
 |bl a=>cases ry;exact RcNeAt.bool_tuple a hl hu
 |int a=>obtain ⟨t1,rfl⟩:=ry;exact RcNeAt.int_tuple a t1 hl hu
 |str a=>obtain ⟨t1,rfl⟩:=ry;exact RcNeAt.str_tuple a t1 hl hu
 |_=>exact absurd (show false=true from fy) yU
theorem Ho (hl:s.heap.IsTuple l items)(hu:A.units<cLine)(ry:RelV y u)(fy:g0 y=true):RcNeAt A s (.ref l) u true:=by
 cases y with
 |non=>cases ry;exact RcNeAt.tuple_none hl hu
 |bl a=>cases ry;exact RcNeAt.tuple_bool a hl hu
 |int a=>obtain ⟨t1,rfl⟩:=ry;exact RcNeAt.tuple_int a t1 hl hu
 |str a=>obtain ⟨t1,rfl⟩:=ry;exact RcNeAt.tuple_str a t1 hl hu
 |_=>exact absurd (show false=true from fy) yU
section
variable {X:Cx}{pins:List (Addr×Obj)}{U:St}{H:Hp}{s:Shared}
theorem XA (I:Inv X pins U H s):∀(n:Nat){x:V}{b:Bool},EqP X.K H n x x b->b=true
 |0,x,b,h=>by obtain ⟨h1,_,rfl⟩:=h;exact XB h1
 |n+1,x,b,h=>by
  rcases h with ⟨h1,_,rfl⟩|⟨a,c,xs,ys,rfl,e2,p1,p2,h⟩|⟨a,c,xs,ys,rfl,e2,p1,p2,e,he,rfl⟩|⟨a,c,xs,ys,rfl,e2,p1,p2,_⟩|⟨a,c,xs,ys,rfl,e2,p1,p2,_⟩|⟨c,ys,f,rfl,_⟩|⟨c,ys,f,rfl,_⟩
  ·exact XB h1
  ·cases e2;cases I.list_inj p1 p2;rcases h with ⟨h,_⟩|⟨_,e,he,rfl⟩
   ·exact absurd rfl h
   ·rw [uV];exact λj hj=>XA I n (he j (yg.mp hj) (yg.mp hj))
  ·cases e2;cases I.tuple_inj p1 p2;rw [Nat.min_self,beq_self_eq_true,Bool.and_true,uV];exact λj hj=>XA I n (he j (yg.mp hj) (yg.mp hj))
  ·cases e2;obtain ⟨_,_,⟨o1,_,q1,c1,_⟩,_⟩:=I.list p1;obtain ⟨_,_,⟨o2,q2,c2,_⟩,_⟩:=I.tuple p2;rw [q1] at q2;cases q2;rw [c1] at c2;exact absurd c2 (by decide)
  ·cases e2;obtain ⟨_,_,⟨o2,q2,c2,_⟩,_⟩:=I.tuple p1;obtain ⟨_,_,⟨o1,_,q1,c1,_⟩,_⟩:=I.list p2;rw [q1] at q2;cases q2;rw [c1] at c2;exact absurd c2 (by decide)
  ·cases f
  ·cases f
theorem we (I:Inv X pins U H s):∀(n:Nat)(A:Around){x y:V}{u v:Value}{b:Bool},A.units+n<cLine->EqP X.K H n x y b->RelV x u->RelV y v->EqAt A s u v b
 |0,A,x,y,u,v,b,hu,h,r1,r2=>by obtain ⟨h1,h2,rfl⟩:=h;exact Jj r1 r2 h1 h2
 |n+1,A,x,y,u,v,b,hu,h,r1,r2=>by
  have h':=h;rcases h with ⟨h1,h2,rfl⟩|⟨a,c,xs,ys,rfl,rfl,p1,p2,h⟩|⟨a,c,xs,ys,rfl,rfl,p1,p2,e,he,rfl⟩|⟨a,c,xs,ys,rfl,rfl,p1,p2,rfl⟩|⟨a,c,xs,ys,rfl,rfl,p1,p2,rfl⟩|⟨c,ys,f,rfl,p,rfl⟩|⟨c,ys,f,rfl,p,rfl⟩
  ·exact Jj r1 r2 h1 h2
  ·cases r1;cases r2;by_cases hac:a=c
   ·subst hac;have hb:=XA I (n+1) h';rw [hb];exact EqAt.same _
   obtain ⟨us,v1,q1,_⟩:=I.list p1;obtain ⟨ws,v2,q2,_⟩:=I.list p2;have l1:=v1.length;have l2:=v2.length;refine EqAt.of_refs hac ?_;rcases h with ⟨h,rfl⟩|⟨hl,e,he,rfl⟩
   ·exact RcAt.lists_lengths q1.isList q2.isList (by rw [yX,yX];simp;omega) (by omega)
   ·have q:=RcAt.lists (A:=A) (s:=s) q1.isList q2.isList (by rw [yX,yX];omega) (by omega) (e:=e) (λj j1 j2=>?_)
    ·rw [yX,<- l1] at q;exact q
    ·have j1':j<us.length:=by simpa using j1
     have j2':j<ws.length:=by simpa using j2
     rw [yj,yj];exact we I n A.in1 (by show A.units+1+n<cLine;omega) (he j (by omega) (by omega)) (xI v1 j (by omega) j1') (xI v2 j (by omega) j2')
  ·cases r1;cases r2;by_cases hac:a=c
   ·subst hac;have hb:=XA I (n+1) h';rw [hb];exact EqAt.same _
   obtain ⟨us,v1,q1,_⟩:=I.tuple p1;obtain ⟨ws,v2,q2,_⟩:=I.tuple p2;have l1:=v1.length;have l2:=v2.length;refine EqAt.of_refs hac ?_;have q:=RcAt.tuples (A:=A) (s:=s) q1 q2 (by omega) (e:=e) (λj j1 j2=>?_)
   ·rw [yX,yX,<- l1,<- l2] at q;exact q
   ·have j1':j<us.length:=by simpa using j1
    have j2':j<ws.length:=by simpa using j2
    rw [yj,yj];exact we I n A.in1 (by show A.units+1+n<cLine;omega) (he j (by omega) (by omega)) (xI v1 j (by omega) j1') (xI v2 j (by omega) j2')
  ·cases r1;cases r2;obtain ⟨us,v1,q1,_⟩:=I.list p1;obtain ⟨ws,v2,q2,_⟩:=I.tuple p2;exact EqAt.list_tuple q1.isList q2 (by omega)
  ·cases r1;cases r2;obtain ⟨us,v1,q1,_⟩:=I.tuple p1;obtain ⟨ws,v2,q2,_⟩:=I.list p2;exact EqAt.tuple_list q1 q2.isList (by omega)
  ·cases r2;rcases p with p|p
   ·obtain ⟨us,v1,q1,_⟩:=I.list p;exact CW q1.isList (by omega) r1 f
   ·obtain ⟨us,v1,q1,_⟩:=I.tuple p;exact CY q1 (by omega) r1 f
  ·cases r1;rcases p with p|p
   ·obtain ⟨us,v1,q1,_⟩:=I.list p;exact CZ q1.isList (by omega) r2 f
   ·obtain ⟨us,v1,q1,_⟩:=I.tuple p;exact Da q1 (by omega) r2 f
theorem rc_at (I:Inv X pins U H s)(hu:A.units+n<cLine)(h:EqP X.K H n x y b)(r1:RelV x u)(r2:RelV y v):RcAt A s u v b:=by
 cases n with
 |zero=>obtain ⟨h1,h2,rfl⟩:=h;exact KN r1 r2 h1 h2
 |succ n =>
  rcases h with ⟨h1,h2,rfl⟩|⟨a,c,xs,ys,rfl,rfl,p1,p2,h⟩|⟨a,c,xs,ys,rfl,rfl,p1,p2,e,he,rfl⟩|⟨a,c,xs,ys,rfl,rfl,p1,p2,rfl⟩|⟨a,c,xs,ys,rfl,rfl,p1,p2,rfl⟩|⟨c,ys,f,rfl,p,rfl⟩|⟨c,ys,f,rfl,p,rfl⟩
  ·exact KN r1 r2 h1 h2
  ·cases r1;cases r2;obtain ⟨us,v1,q1,_⟩:=I.list p1;obtain ⟨ws,v2,q2,_⟩:=I.list p2;have l1:=v1.length;have l2:=v2.length;rcases h with ⟨h,rfl⟩|⟨hl,e,he,rfl⟩
   ·exact RcAt.lists_lengths q1.isList q2.isList (by rw [yX,yX];simp;omega) (by omega)
   ·have q:=RcAt.lists (A:=A) (s:=s) q1.isList q2.isList (by rw [yX,yX];omega) (by omega) (e:=e) (λj j1 j2=>?_)
    ·rw [yX,<- l1] at q;exact q
    ·have j1':j<us.length:=by simpa using j1
     have j2':j<ws.length:=by simpa using j2
     rw [yj,yj];exact we I n A.in1 (by show A.units+1+n<cLine;omega) (he j (by omega) (by omega)) (xI v1 j (by omega) j1') (xI v2 j (by omega) j2')
  ·cases r1;cases r2;obtain ⟨us,v1,q1,_⟩:=I.tuple p1;obtain ⟨ws,v2,q2,_⟩:=I.tuple p2;have l1:=v1.length;have l2:=v2.length;have q:=RcAt.tuples (A:=A) (s:=s) q1 q2 (by omega) (e:=e) (λj j1 j2=>?_)
   ·rw [yX,yX,<- l1,<- l2] at q;exact q
   ·have j1':j<us.length:=by simpa using j1
    have j2':j<ws.length:=by simpa using j2
    rw [yj,yj];exact we I n A.in1 (by show A.units+1+n<cLine;omega) (he j (by omega) (by omega)) (xI v1 j (by omega) j1') (xI v2 j (by omega) j2')
  ·cases r1;cases r2;obtain ⟨us,v1,q1,_⟩:=I.list p1;obtain ⟨ws,v2,q2,_⟩:=I.tuple p2;exact RcAt.list_tuple q1.isList q2 (by omega)
  ·cases r1;cases r2;obtain ⟨us,v1,q1,_⟩:=I.tuple p1;obtain ⟨ws,v2,q2,_⟩:=I.list p2;exact RcAt.tuple_list q1 q2.isList (by omega)
  ·cases r2;rcases p with p|p
   ·obtain ⟨us,v1,q1,_⟩:=I.list p;exact Hh q1.isList (by omega) r1 f
   ·obtain ⟨us,v1,q1,_⟩:=I.tuple p;exact Hi q1 (by omega) r1 f
  ·cases r1;rcases p with p|p
   ·obtain ⟨us,v1,q1,_⟩:=I.list p;exact Hj q1.isList (by omega) r2 f
   ·obtain ⟨us,v1,q1,_⟩:=I.tuple p;exact Hk q1 (by omega) r2 f
theorem Hq (I:Inv X pins U H s)(hu:A.units+n<cLine)(h:EqP X.K H n x y b)(r1:RelV x u)(r2:RelV y v):RcNeAt A s u v (!b):=by
 cases n with
 |zero=>obtain ⟨h1,h2,rfl⟩:=h;exact KO r1 r2 h1 h2
 |succ n =>
  rcases h with ⟨h1,h2,rfl⟩|⟨a,c,xs,ys,rfl,rfl,p1,p2,h⟩|⟨a,c,xs,ys,rfl,rfl,p1,p2,e,he,rfl⟩|⟨a,c,xs,ys,rfl,rfl,p1,p2,rfl⟩|⟨a,c,xs,ys,rfl,rfl,p1,p2,rfl⟩|⟨c,ys,f,rfl,p,rfl⟩|⟨c,ys,f,rfl,p,rfl⟩
  ·exact KO r1 r2 h1 h2
  ·cases r1;cases r2;obtain ⟨us,v1,q1,_⟩:=I.list p1;obtain ⟨ws,v2,q2,_⟩:=I.list p2;have l1:=v1.length;have l2:=v2.length;rcases h with ⟨h,rfl⟩|⟨hl,e,he,rfl⟩
   ·exact RcNeAt.lists_lengths q1.isList q2.isList (by rw [yX,yX];simp;omega) (by omega)
   ·have q:=RcNeAt.lists (A:=A) (s:=s) q1.isList q2.isList (by rw [yX,yX];omega) (by omega) (e:=e) (λj j1 j2=>?_)
    ·rw [yX,<- l1] at q;exact q
    ·have j1':j<us.length:=by simpa using j1
     have j2':j<ws.length:=by simpa using j2
     rw [yj,yj];exact we I n A.in1 (by show A.units+1+n<cLine;omega) (he j (by omega) (by omega)) (xI v1 j (by omega) j1') (xI v2 j (by omega) j2')
  ·cases r1;cases r2;obtain ⟨us,v1,q1,_⟩:=I.tuple p1;obtain ⟨ws,v2,q2,_⟩:=I.tuple p2;have l1:=v1.length;have l2:=v2.length;have q:=RcNeAt.tuples (A:=A) (s:=s) q1 q2 (by omega) (e:=e) (λj j1 j2=>?_)
   ·rw [yX,yX,<- l1,<- l2] at q;exact q
   ·have j1':j<us.length:=by simpa using j1
    have j2':j<ws.length:=by simpa using j2
    rw [yj,yj];exact we I n A.in1 (by show A.units+1+n<cLine;omega) (he j (by omega) (by omega)) (xI v1 j (by omega) j1') (xI v2 j (by omega) j2')
  ·cases r1;cases r2;obtain ⟨us,v1,q1,_⟩:=I.list p1;obtain ⟨ws,v2,q2,_⟩:=I.tuple p2;exact RcNeAt.list_tuple q1.isList q2 (by omega)
  ·cases r1;cases r2;obtain ⟨us,v1,q1,_⟩:=I.tuple p1;obtain ⟨ws,v2,q2,_⟩:=I.list p2;exact RcNeAt.tuple_list q1 q2.isList (by omega)
  ·cases r2;rcases p with p|p
   ·obtain ⟨us,v1,q1,_⟩:=I.list p;exact Hl q1.isList (by omega) r1 f
   ·obtain ⟨us,v1,q1,_⟩:=I.tuple p;exact Hm q1 (by omega) r1 f
  ·cases r1;rcases p with p|p
   ·obtain ⟨us,v1,q1,_⟩:=I.list p;exact Hn q1.isList (by omega) r2 f
   ·obtain ⟨us,v1,q1,_⟩:=I.tuple p;exact Ho q1 (by omega) r2 f
def rEqD (K:Fg)(n:Nat)(neg:Bool):R2:=λx y H Q=>∃ b,EqP K H n x y b/\Q (.bl (if neg then !b else b)) H
theorem vz (hu:X.A.units+n<cLine)(hK:X.K=K):OpR X (compareOp .Eq) (rEqD K n false):=by subst hK;intro pins s U H x y v u Q I rx ry h;obtain ⟨b,h,q⟩:=h;exact rc_at I hu h rx ry X.prog X.w X.xe _ ⟨.bl b,H,I,rfl,q⟩
theorem xW (hu:X.A.units+n<cLine)(hK:X.K=K):OpR X (compareOp .NotEq) (rEqD K n true):=by subst hK;intro pins s U H x y v u Q I rx ry h;obtain ⟨b,h,q⟩:=h;exact Hq I hu h rx ry X.prog X.w X.xe _ ⟨.bl (!b),H,I,rfl,q⟩
theorem hu6 {k:Nat}(hr:Room k A):A.units+6<cLine:=by have:=hr.units;omega
end
end L2
namespace L2
open PySem PySem.Spec PyProof.Rows
section
variable {X:Cx}{K:Fg}
def rAddS:R2:=λx y H Q=>∃ i j,x = .str i/\y = .str j/\i.length+j.length<=sizeLine/\Q (.str (i++j)) H
def Kq (K:Fg):R2:=λx y H Q=>(rI0 λi j=> .int (i+j)) x y H Q∨rAddS x y H Q∨Ks K x y H Q∨Kt K x y H Q
theorem qr (h:X.K=K):OpR X (binaryOp .Add) (Kq K):=by subst h;exact op_add.or (op_add_str.or (op_catL.or Nd))
theorem Mc (h:X.K=K):IxR X (rIx K):=by subst h;exact Mb
def rLen (K:Fg):List V->Hp->VK->Prop:=λxs H Q=>(∃ x n,xs=[x]/\LenV K x H n/\Q (.int n) H)∨∃ a kvs,xs=[V.ref a]/\H a=some (.dK kvs)/\Q (.int kvs.length) H
theorem xx (h:X.K=K):CallR X (.builtin "len") (rLen K):=by subst h;exact CallR.or (f:= .builtin "len") Cg Ch
theorem NY {a:Expr}{ta:TE}(h:X.K=K)(ha:PE X a ta)(he:∀ whole,isTrue a X.env whole=(do let v <- whole;standAt a.pos;holding [v] (truthy v))):PT X a (λU H Q=>ta U H λx H'=>∃ k,TruV K x H' k/\Q k H'):=by subst h;exact NZ ha he
theorem GT (h:X.K=K):OpR X (compareOp .In) (rIn K false):=by subst h;exact Nf
theorem Nl (h:X.K=K):OpR X (compareOp .NotIn) (rIn K true):=by subst h;exact Nj
theorem NL {tg l:Expr}{tl:TE}(hK:X.K=K)(hl:PE X l tl):PI X tg l (iTup K tl):=by subst hK;exact NK hl
def KL (K:Fg):List V->Hp->VK->Prop:=λxs H Q=>∃ p ys,xs=[.ref p]/\((SqL K H p ys/\∀ l,H l=none->Q (.ref l) (j9 H l (.tup ys)))∨(SqT K H p ys/\Q (.ref p) H))
theorem Cy (h:X.K=K):CallR X (.type "tuple") (KL K):=by subst h;exact Cw
def Kz (K:Fg):List V->Hp->VK->Prop:=λxs H Q=>∃ p ys,xs=[.ref p]/\(SqL K H p ys∨SqT K H p ys)/\∀ l,H l=none->Q (.ref l) (j9 H l (.lst ys))
theorem Ja (h:X.K=K):CallR X (.type "list") (Kz K):=by subst h;exact Cn
def rIsi (K:Fg):List V->Hp->VK->Prop:=λxs H Q=>∃ x n T b,xs=[x,.ty n]/\xo K H x (.type T)/\tyB T n=some b/\Q (.bl b) H
theorem zS (h:X.K=K):CallR X (.builtin "isinstance") (rIsi K):=by subst h;exact Cf
def Kr (K:Fg):List V->Hp->VK->Prop:=λxs H Q=>∃(a:Addr)(bs:List Bool),xs=[.ref a]/\SqL K H a (bs.map V.bl)/\Q (.bl (bs.all id)) H
theorem jW (hc:X.calm=true)(h:X.K=K):CallR X (.builtin "all") (Kr K):=by subst h;exact Ca hc
def KB:List V->Hp->VK->Prop:=λxs H Q=>∃ i j,xs=[.int i,.int j]/\Q (.int (if j<i then j else i)) H
theorem Cp (hc:X.calm=true):CallR X (.builtin "min") KB:=Co hc
def rIsN:R2:=λx y H Q=>y = .non/\Q (.bl (decide (x = .non))) H
def KC:R2:=λx y H Q=>y = .non/\Q (.bl (!decide (x = .non))) H
theorem Nh:OpR X (compareOp .Is) rIsN:=Ng
theorem Nn:OpR X (compareOp .IsNot) KC:=Nm
theorem Uy:bootBuiltins "tuple"=some (.type "tuple"):=by decide +kernel
theorem ZZ:bootBuiltins "sorted"=some (.builtin "sorted"):=by decide +kernel
theorem PQ:bootBuiltins "dict"=some (.type "dict"):=by decide +kernel
theorem Tg:tyB "tuple" "tuple"=some true:=by decide +kernel
end
section
variable {X:Cx}{K:Fg}{o e:Expr}{es:List Expr}{to:TE}{t:TA}{name:Str}{apos cpos:Pos}{T id:String}{r:V->List V->Hp->VK->Prop}
theorem qU (hK:X.K=K)(pa:PlainAttrs T)(slot:Slot T name id)(hty:typeOf (.builtin id)=pure (.type "method_descriptor"))(hm:MtR X id r)(ho:PE X o to)(ha:PA X (e::es) t)(hbase:attributeBase o name X.env (eval o X.env)=eval o X.env:=by rfl)(hfew:((backTo cpos (starEach (e::es) X.env)).all (λx=>!x.1)&&(backToKw cpos (keywordEach [] X.env)).all (λx=>x.1.isSome)&&decide ((e::es).length+([]:List Keyword).length+(if ([]:List Keyword).isEmpty then 0 else 1)<30))=true:=by rfl)(hline:(apos.endLine==cpos.line)=true:=by rfl)(hs:starEach (e::es) X.env=(false,eval e X.env)::starEach es X.env:=by rfl)(hplain:(backTo cpos (starEach es X.env)).any (·.1)=false:=by rfl):PE X (.Call (.Attribute o name apos) (e::es) [] cpos) (tBM K T r to t):=by subst hK;exact pe_bm pa slot hty hm ho ha hbase hfew hline hs hplain
end
end L2
namespace L2
open PySem PySem.Spec PySem.Calls
variable{h:Heap}{a:Addr}{n:Nat}{A:Around}
section
variable {P:Program}{w:World}{κ:Type}[DecidableEq κ]{knd:PySem.KeyKind P w κ}
def c7 (val:Nat->κ):Nat->List κ
 |0=>[]
 |i+1=>if val i∈c7 val i then c7 val i else c7 val i++[val i]
theorem Bc (val:Nat->κ):∀ i,(c7 val i).length<=i
 |0=>yY _
 |i+1=>by
  have ih:=Bc val i;unfold c7;split
  ·omega
  ·rw [yH,List.length_singleton];omega
theorem Bf {S S':κ->Bool}{n':Nat}(x:h.SetOf knd a S n)(e:∀ k,S k=S' k)(en:n=n'):h.SetOf knd a S' n':=by cases (funext e:S=S');cases en;exact x
theorem Wv {h':Heap}{S:κ->Bool}(x:h.SetOf knd a S n)(e:∀ o,h.get? a=some o->h'.get? a=some o):h'.SetOf knd a S n:=by obtain ⟨o,es,ep,t,ho,r⟩:=x;exact ⟨o,es,ep,t,e _ ho,r⟩
theorem Rs {R:Result->Shared->Prop}{I:Addr}{fp wr:List Addr}{G:Array GenState->Array GenState->Prop}{Pp:Nat->Value->Prop}{St:Nat->Shared->Prop}(W:WalksS P w A.in1 I fp wr G n Pp St)(a:Addr)(ha:a∉fp)(val:Nat->κ)(hv:∀ i v,Pp i v->knd.is (val i) v=true/\v.scannable=true)(hb:n+1<scanBound):∀ (m i:Nat) (s:Shared),n-i=m->i<=n->St i s->s.heap.SetOf knd a (λx=>decide (x∈c7 val i)) (c7 val i).length -> (∀ s',Moved (a::wr) G s s'->s'.heap.SetOf knd a (λx=>decide (x∈c7 val n)) (c7 val n).length->R (.ok (.ret .none)) s') -> codeAny (model P w) A (.builtin "set.update.loop" ⟨[.ref a,.ref I],[]⟩) R s:=by
 have haw:a∉wr:=λz=>ha (W.sub _ z);have up:∀ b∈wr,b∈a::wr:=λb z=>yN _ z;intro m
 induction m with
 |zero =>
  intro i s hm hi st hS hR;obtain rfl:i=n:=by omega
  refine codeAny_builtin PyProof.Rows.F.entry_set_update_loop ?_;rw [Around.under_plainId PyProof.Rows.F.plain_set_update_loop _];show wpAny _ A.in1 (pyNext (.ref I) >>= _) _ _ s;refine yW (W.done s _ _ st λs' mv=>?_);show wpAny _ A.in1 (ret Value.none) _ _ s';exact yR (hR s' (mv.mono up) (Wv hS λo e=>mv.heap a o haw e))
 |succ m ih =>
  intro i s hm hi st hS hR;have hlt:i<n:=by omega
  refine codeAny_builtin PyProof.Rows.F.entry_set_update_loop ?_;rw [Around.under_plainId PyProof.Rows.F.plain_set_update_loop _];show wpAny _ A.in1 (pyNext (.ref I) >>= _) _ _ s;refine yW (W.item i s _ _ hlt st λv s' hP st' mv=>?_);obtain ⟨hk,hsc⟩:=hv i v hP;have hS':s'.heap.SetOf knd a (λx=>decide (x∈c7 val i)) (c7 val i).length:=Wv hS λo e=>mv.heap a o haw e;show wpAny _ A.in1 (holding [v] (setAdd a v) >>= _) _ _ s';refine yW (wpAny_holding ?_);unfold setAdd;refine wpAny_holding (yW (knd.pyHash (k:=val i) hk ?_));have room:(c7 val i).length+1<scanBound:=by have:=Bc val i;omega
  refine wpAny_setAddHashed_of (knd:=knd) (s:={ s' with toks:=s'.toks+1 }) hk hsc hS' room λh' sb hS2=>?_;have hSi:h'.SetOf knd a (λx=>decide (x∈c7 val (i+1))) (c7 val (i+1)).length:=by
   refine Bf hS2 (λx=>?_) ?_
   ·by_cases hc:val i∈c7 val i
    ·rw [show c7 val (i+1)=c7 val i from if_pos hc];by_cases hx:x=val i
     ·subst hx;simp [hc]
     ·simp [hx]
    ·rw [show c7 val (i+1)=c7 val i++[val i] from if_neg hc];simp
   ·by_cases hc:val i∈c7 val i
    ·rw [show c7 val (i+1)=c7 val i from if_pos hc];simp [hc]
    ·rw [show c7 val (i+1)=c7 val i++[val i] from if_neg hc];simp [hc]
  refine yR ⟨plainId_quiet PyProof.Rows.F.plain_set_update_loop _,ih (i+1) _ (by omega) hlt (W.frame _ s' _ _ st' (uw _) λb z o e=>?_) hSi λs2 mv2 hS3=>?_⟩
  ·rw [sb.2 b (λq:b=a=>ha (by rw [<- q];exact z))];exact e
  ·refine hR s2 (Moved.trans W.gtrans ((mv.mono up).then_heap (uw _) λb o z e=>?_) mv2) hS3;rw [sb.2 b (λq:b=a=>z (by rw [q];exact yK))];exact e
theorem Cs {E:Value->Shared->Prop}{s:Shared}{l:Addr}{its:Array Value}{val:Nat->κ}{Q:Value->Shared->Prop}(hh:A.handled=none)(hl:s.heap.IsList l its)(hv:∀ (i:Nat) (v:Value),its[i]?=some v->knd.is (val i) v=true/\v.scannable=true)(hb:its.size+1<scanBound)(h:∀ (h':Heap) (tk:Nat),h'.SetOf knd s.heap.objs.size (λx=>decide (x∈c7 val its.size)) (c7 val its.size).length -> (∀ b o,s.heap.get? b=some o->h'.get? b=some o)->Q (.ref s.heap.objs.size) { s with heap:=h',toks:=tk }):wpAny (model P w) A (call (.type "set") [.ref l]) Q E s:=by
 obtain ⟨c,tl,hmro⟩:=PySem.F.called_set.mro;have hmade:=PySem.F.called_set.made;have hsub:=PySem.F.called_set.sub;refine wpAny_call (codeAny_of_tree ?_);show wpAny _ _ (callAny (.type "set") _) _ _ _;refine yR ⟨Code.quiet_builtin _ (by decide +kernel),codeAny_builtin PySem.F.entry_type_call ?_⟩;rw [Around.under_plain (weight_type_call_type "set" [.ref l] []) rfl];have q1:=PySem.F.called_set.notType;have q2:=PySem.F.called_set.canCreate;have q3:=PySem.F.typeCall_set_1 (.ref l)
 (repeat (any_goals (first|assumption|wp_step)))
 refine codeAny_mono (code_set_new_1 (.ref l) (E:=E) (Q₁:=λob s1=>∃ led:Bool,ob = .ref s.heap.objs.size/\s1={ s with heap:=s.heap.push { cls:= .type "set",dict:=none,data:= .set #[] 0 (.fresh 0 0 led) } }) λled=>⟨led,rfl,rfl⟩) λr s1 hr=>?_;cases r with
 |error e=>exact hr
 |ok fl =>
  cases fl with
  |ret ob =>
   obtain ⟨led,rfl,rfl⟩:=hr;have hS:(s.heap.push { cls:= .type "set",dict:=none,data:= .set #[] 0 (.fresh 0 0 led) }).get? s.heap.objs.size=some { cls:= .type "set",dict:=none,data:= .set #[] 0 (.fresh 0 0 led) }:=yI _ rfl;have hT:Shared.TypeIs { s with heap:=s.heap.push { cls:= .type "set",dict:=none,data:= .set #[] 0 (.fresh 0 0 led) } } (.ref s.heap.objs.size) "set":=⟨_,hS,rfl⟩;have hli:=PySem.F.called_set.init.lookup;have hbi:=PySem.F.called_set.init.bind (.ref s.heap.objs.size)
   (repeat (any_goals (first|assumption|wp_step)))
   refine codeAny_mono (codeAny_call_builtin (R:=wants (λr s2=>r = .none/\∃ h' tk,s2={ s with heap:=h',toks:=tk }/\h'.SetOf knd s.heap.objs.size (λx=>decide (x∈c7 val its.size)) (c7 val its.size).length /\
     (∀ b o,s.heap.get? b=some o->h'.get? b=some o)) E) PySem.F.called_set.init.plain PySem.F.entry_set_init (check_set_init_1 hT ?_)) λr2 s2 hr2=>?_
   ·obtain ⟨ol,hol,hcl,nl,hdl⟩:=hl;obtain ⟨ocls,odict,odata,oslots⟩:=ol;simp only at hcl hdl;subst hcl;subst hdl;have hol':(s.heap.push { cls:= .type "set",dict:=none,data:= .set #[] 0 (.fresh 0 0 led) }).get? l=some { cls:= .type "list",dict:=odict,data:= .seq its nl,slots:=oslots }:=yV _ hol;have z1:=PySem.F.sub_list_set;have z2:=PySem.F.sub_list_frozenset;have z3:(Value.type "list" == Value.type "dict")=false:=by decide
    have hl1:(s.heap.push { cls:= .type "set",dict:=none,data:= .set #[] 0 (.fresh 0 0 led) }).IsList l its:=⟨_,hol',rfl,nl,rfl⟩;unfold Builtin.«set.__init__» noKeywords Builtin.Frozenset.updateFrom;generalize hPI:pyIter=PI
    wp_walk
    subst hPI;refine wpAny_pyIter_list hl1 ?_;refine yW (wpAny_runValue ?_);have hlS:l<s.heap.objs.size:=yQ hol;have h3:A.in1.in1.in1.handled=none:=by simp [hh]
    have ne1:l≠(s.heap.push { cls:= .type "set",dict:=none,data:= .set #[] 0 (.fresh 0 0 led) }).objs.size:=by rw [uI];exact yJ (Nat.lt_succ_of_lt hlS)
    have ne2:s.heap.objs.size∉[(s.heap.push { cls:= .type "set",dict:=none,data:= .set #[] 0 (.fresh 0 0 led) }).objs.size,l]:=by rw [uI];simp only [yP,yt,or_false,not_or];exact ⟨yJ (uB _),Nat.ne_of_gt hlS⟩
    refine Rs (knd:=knd) ((Walks.list h3 _ l ne1 its).toS) s.heap.objs.size ne2 val hv hb (its.size-0) 0 _ (by omega) (yo _) ⟨⟨_,yI _ rfl,rfl,rfl⟩,(hl1.push _)⟩ ?_ ?_
    ·have hg:((s.heap.push { cls:= .type "set",dict:=none,data:= .set #[] 0 (.fresh 0 0 led) }).push { cls:= .type "list_iterator",data:= .fields #[.ref l,.int 0 0] }).get? s.heap.objs.size=some { cls:= .type "set",dict:=none,data:= .set #[] 0 (.fresh 0 0 led) }:=yV _ hS;exact Bf ((PyProof.Rows.setObjOf_fresh (knd:=knd) led).setOf hg (by unfold scanBound;omega)) (λx=>by simp [c7]) rfl
    ·rintro ⟨h',g',d',tk',os'⟩ mv hS';have eg:g'=s.gens:=mv.gens;have ed:d'=s.drawn:=mv.drawn;have eo:os'=s.os:=mv.os;subst eg ed eo;show wpAny _ _ _ _ _ _;refine yR ?_;show wpAny _ _ (ret Value.none) _ _ _;refine yR ⟨rfl,h',tk',rfl,hS',λb o e=>?_⟩;have hb0:=yQ e;refine mv.heap b o ?_ (yV _ (yV _ e));rw [uI];simp only [yP,yt,or_false,not_or];exact ⟨yJ hb0,yJ (Nat.lt_succ_of_lt hb0)⟩
   ·cases r2 with
    |error e=>exact hr2
    |ok fl2 =>
     cases fl2 with
     |ret r =>
      obtain ⟨rfl,h',tk,rfl,hS',hk'⟩:=hr2
      (repeat (any_goals (first|assumption|wp_step)))
      exact h _ _ hS' hk'
     |_=>exact False.elim hr2
  |_=>exact False.elim hr
end
def jS (n:Nat)(a:Addr):HO:= .ext λh=>∃(P:Program)(w:World)(S:v9->Bool),h.SetOf (qe P w) a S n
section
variable {X:Cx}
theorem TH {ss:List Str}{us:List Value}(r:Vals (ss.map V.str) us):∀(i:Nat)(v:Value),us[i]?=some v->∃ x t,ss[i]?=some x/\v = .str x t:=by
 have key:∀(ss:List Str)(us:List Value),Vals (ss.map V.str) us->∀(i:Nat)(v:Value),us[i]?=some v->∃ x t,ss[i]?=some x/\v = .str x t:=by
  intro ss
  induction ss with
  |nil=>intro us r i v e;cases r;simp at e
  |cons s ss ih =>
   intro us r i v e;cases r with
   |cons p q =>
    cases i with
    |zero=>obtain ⟨t,rfl⟩:=p;simp at e;exact ⟨s,t,rfl,e.symm⟩
    |succ i=>exact ih _ q i v (by simpa using e)
 intro i v e;exact key ss us r i v e
theorem Cr (hc:X.calm=true):CallR X (.type "set") (λxs H Q=>∃ (a:Addr) (ss:List Str),xs=[.ref a]/\SqL X.K H a (ss.map V.str)/\ss.length<=1000 /\ ∀ l,H l=none->Q (.ref l) (j9 H l (jS (c7 (λi=>(Sum.inr (ss.getD i ⟨#[]⟩):v9)) ss.length).length l))):=by
 intro pins s U H xs us Q I r h;obtain ⟨a,ss,rfl,hq,hl,q⟩:=h;obtain ⟨u,rfl,ru⟩:=xN r;obtain rfl:u=Value.ref a:=ru;obtain ⟨its,rv,p,hz⟩:=I.list hq;have hn:its.length=ss.length:=by have e:=rv.length;rw [yZ] at e;exact e.symm
 refine Cs (knd:=qe X.prog X.w) (its:=its.toArray) (val:=λi=>(Sum.inr (ss.getD i ⟨#[]⟩):v9)) (I.ok.hd hc) p.isList (λi v e=>?_) (by rw [yX,hn];unfold scanBound;omega) λh' tk hS k=>?_
 ·obtain ⟨x,t,hx,rfl⟩:=TH rv i v (by simpa using e);rw [yb,hx];exact ⟨JQ _ _ _ _,rfl⟩
 ·have e8:its.toArray.size=ss.length:=by rw [yX];exact hn
  rw [e8] at hS;refine ⟨.ref s.heap.objs.size,_,I.laid (t':=tk) k (yY _) (show ObjOk X.prog X.w _ h' _ (jS _ _) from ⟨⟨_,_,_,hS⟩,?_,?_⟩),rfl,q _ (I.hok.fresh (yY _))⟩
  ·obtain ⟨o,_,_,_,ho,_⟩:=hS;exact ⟨o,ho⟩
  ·rintro h1 h2 ⟨P,w,S,x⟩ e;exact ⟨P,w,S,Wv x e⟩
theorem Ci:CallR X (.builtin "len") (λxs H Q=>∃ (a:Addr) (n:Nat),xs=[.ref a]/\H a=some (jS n a)/\Q (.int n) H):=by
 intro pins s U H xs us Q I r h;obtain ⟨a,n,rfl,hq,q⟩:=h;obtain ⟨u,rfl,ru⟩:=xN r;obtain rfl:u=Value.ref a:=ru;obtain ⟨⟨P,w,S,o,es,ep,t,ho,hex,hd,_,_,hb,hf,hn⟩,_⟩:=(show ObjOk X.prog X.w H s.heap a (jS n a) from I.hok a _ hq);subst hn;have h63:((es.size:Nat):Int)<2 ^ 63:=by unfold scanBound at hb;omega
 exact call_len_set ho hex hd hf h63 ⟨.int es.size,H,I.tok _,⟨_,rfl⟩,q⟩
end
end L2
namespace L2
open PySem PySem.Spec PySem.Calls PyProof.Rows
variable{ss:List Str}{P:Program}{w:World}{vs:List Value}{A:Around}{E Q:Value->Shared->Prop}{s:Shared}
section
variable {X:Cx}
def Xm (ss:List Str):Prop:=ss.Pairwise λx y=>¬ (y.cps.toList<x.cps.toList)
theorem Bm (h:sortedS ss=true):Xm ss:=by
 cases ss with
 |nil=>exact List.Pairwise.nil
 |cons x r =>
  have key:∀(l:List Str)(p:Str),risingS p l=true->(p::l).Pairwise λx y=>¬ (y.cps.toList<x.cps.toList):=by
   intro l
   induction l with
   |nil=>intro p _;exact List.pairwise_singleton _ _
   |cons y l ih =>
    intro p hp;have hp':(!ltCps y.cps.toList p.cps.toList&&risingS y l)=true:=hp;rw [yp] at hp';have i2:=ih y hp'.2;have hyp:¬ (y.cps.toList<p.cps.toList):=by have e:=hp'.1;rw [ltCps_eq] at e;simpa using e
    refine List.pairwise_cons.mpr ⟨λz hz=>?_,i2⟩;rcases yP.mp hz with rfl|hz
    ·exact hyp
    ·have hzy:=(List.pairwise_cons.mp i2).1 z hz;intro hlt;exact hyp (Std.lt_of_le_of_lt (Std.not_lt.mp hzy) hlt)
  exact key r x h
def KH (K:Fg):List V->Hp->VK->Prop:=λxs H Q=>∃(a:Addr)(ss:List Str),xs=[.ref a]/\(SqL K H a (ss.map V.str)∨∃ kvs,Rd H a (.dK kvs)/\kvs.map (·.1)=ss.map Sum.inr)/\ss.length<64 /\
 ∀ l ss',H l=none->ss'.Perm ss->Xm ss'->Q (.ref l) (j9 H l (.lst (ss'.map V.str)))
theorem Bw:∀{ss:List Str}{us:List Value},Vals (ss.map V.str) us->StrsAre us ss
 |[],_,.nil=> .nil
 |x::_,_,.cons ⟨t,e⟩ r=>by subst e;exact .cons x t (Bw r)
theorem WZ:∀{us:List Value}{ss:List Str},StrsAre us ss->Vals (ss.map V.str) us
 |_,_,.nil=> .nil
 |_,_,.cons x t r=> .cons ⟨t,rfl⟩ (WZ r)
theorem Mn:∀{kvs:List (v9×V)}{vs:List (v9×Value)}{ss:List Str},KV kvs vs->kvs.map (·.1)=ss.map Sum.inr->vs.map (·.1)=ss.map Sum.inr:=by
 intro kvs vs ss r e;rw [<- e];clear e
 induction r with
 |nil=>rfl
 |cons p _ ih=>rw [yT,yT,ih,p.1]
theorem DY {vs:List (v9×Value)}{acc:Array Value}(e:vs.map (·.1)=ss.map Sum.inr)(h:ItemsOf (λi v=>∃ k x,vs[i]?=some (k,x)/\(qe P w).is k v=true) acc vs.length):StrsAre acc.toList ss:=by
 have hl:vs.length=ss.length:=by have:=congrArg List.length e;rwa [yZ,yZ] at this
 have h0:∀ v∈acc.toList,∃ x t,v = .str x t:=by
  intro v hv;obtain ⟨i,hi,rfl⟩:=uJ hv;obtain ⟨k,x,hk,his⟩:=h.2 i acc.toList[i] (by simp at hi ⊢);have hk2:(vs.map (·.1))[i]?=some k:=by rw [yM,hk];rfl
  rw [e,yM] at hk2;obtain ⟨z,_,rfl⟩:=yF.mp hk2;cases hv2:acc.toList[i] with
  |str y t=>exact ⟨y,t,rfl⟩
  |_=>rw [hv2] at his;cases his
 have h1:=strsAre_map acc.toList h0;have e2:acc.toList.map strOf=ss:=by
  apply List.ext_getElem?;intro i;rw [yM];by_cases hi:i<acc.size
  ·obtain ⟨k,x,hk,his⟩:=h.2 i acc[i] (Array.getElem?_eq_getElem hi);have hk2:(vs.map (·.1))[i]?=some k:=by rw [yM,hk];rfl
   rw [e,yM] at hk2;obtain ⟨z,hz,rfl⟩:=yF.mp hk2;obtain ⟨y,t,hy⟩:=h0 acc[i] (by simp);rw [hy] at his;have:y=z:=by have q:vm (Sum.inr z) (.str y t)=true:=his;have q2:=Gv y t;have q3:=(qe P w).inj (.str y t) (Sum.inr z) (Sum.inr y) his (JQ P w y t);injection q3 with q3;exact q3.symm
   rw [hz,uE,Array.getElem?_eq_getElem hi,hy,<- this];rfl
  ·have h1:=h.1;rw [uD (by simp;omega),uD (by omega)];rfl
 rw [e2] at h1;exact h1
theorem TQ (hS:StrsAre vs ss)(h64:vs.length<64)(h:∀ (h':Heap) (out:List Value) (ss':List Str) (e:Nat),(∀ b o,s.heap.get? b=some o->h'.get? b=some o)->h'.get? s.heap.objs.size=some (seqObj "list" out.toArray e)->StrsAre out ss'->ss'.Perm ss->sortedS ss'=true->Q (.ref s.heap.objs.size) { s with heap:=h' }):wpAny (model P w) A (newList vs >>= λl=>holding [l] (call (.builtin "list.sort") [l]) >>= λ_=>pure l) Q E s:=by
 refine yW (wpAny_newList ?_);have ho:(s.heap.push (seqObj "list" vs.toArray 0)).get? s.heap.objs.size=some (seqObj "list" vs.toArray 0):=yI _ rfl;refine yW (wpAny_holding (wpAny_call_entry slot_list_sort (s:={ s with heap:=s.heap.push (seqObj "list" vs.toArray 0) }) ⟨_,ho,rfl⟩ entry_list_sort
  (list_sort_treeK strKind_oneLt (s:={ s with heap:=s.heap.push (seqObj "list" vs.toArray 0) }) ho hS.keysOf (λv1 v2 rest e=>keyKind_strs (by rw [<- e];exact hS)) h64 λst p1 p2=>⟨_,rfl,?_⟩) (args_list_sort _)))
 obtain ⟨ss',a1,a2,a3⟩:=sorted_out_str hS p1 p2;obtain ⟨e,he⟩:=sortedHeap_at (out:=(arrOf st).map (·.2)) ho;refine yR (h _ _ ss' e (λb o hb=>?_) (by rw [Array.toArray_toList];exact he) a1 a2 a3);have hlt:=yQ hb;rw [sortedHeap_old (yJ hlt) (by rw [uI];exact Nat.lt_succ_of_lt hlt)];exact yV _ hb
theorem RE (hS:StrsAre vs ss)(h64:vs.length<64)(h:∀ (h':Heap) (out:List Value) (ss':List Str) (e:Nat),(∀ b o,s.heap.get? b=some o->h'.get? b=some o)->h'.get? s.heap.objs.size=some (seqObj "list" out.toArray e)->StrsAre out ss'->ss'.Perm ss->sortedS ss'=true->Q (.ref s.heap.objs.size) { s with heap:=h' }):wpAny (model P w) A (newList vs >>= λl=>holding [l] (call (.builtin "list.sort") [l] []) >>= λ_=>ret l) (λfin s'=>∃ v,fin=PySem.Fin.done (.ret v)/\Q v s') E s:=by
 refine yW (wpAny_newList ?_);have ho:(s.heap.push (seqObj "list" vs.toArray 0)).get? s.heap.objs.size=some (seqObj "list" vs.toArray 0):=yI _ rfl;refine yW (wpAny_holding (wpAny_call_entry slot_list_sort (s:={ s with heap:=s.heap.push (seqObj "list" vs.toArray 0) }) ⟨_,ho,rfl⟩ entry_list_sort
  (list_sort_treeK strKind_oneLt (s:={ s with heap:=s.heap.push (seqObj "list" vs.toArray 0) }) ho hS.keysOf (λv1 v2 rest e=>keyKind_strs (by rw [<- e];exact hS)) h64 λst p1 p2=>⟨_,rfl,?_⟩) (args_list_sort _)))
 obtain ⟨ss',a1,a2,a3⟩:=sorted_out_str hS p1 p2;obtain ⟨e,he⟩:=sortedHeap_at (out:=(arrOf st).map (·.2)) ho;refine yR ⟨_,rfl,h _ _ ss' e (λb o hb=>?_) (by rw [Array.toArray_toList];exact he) a1 a2 a3⟩;have hlt:=yQ hb;rw [sortedHeap_old (yJ hlt) (by rw [uI];exact Nat.lt_succ_of_lt hlt)];exact yV _ hb
theorem UA {K:Fg}(hc:X.calm=true)(hK:X.K=K):CallR X (.builtin "sorted") (KH K):=by
 subst hK;intro pins s U H xs us Q I r h;obtain ⟨a,ss,rfl,hq,h64,q⟩:=h;obtain ⟨u,rfl,ru⟩:=xN r;obtain rfl:u=Value.ref a:=ru;rcases hq with hq|⟨kvs,hq,hk⟩
 ·obtain ⟨its,rv,p,hz⟩:=I.list hq;have hS:=Bw rv;have hl:its.length=ss.length:=by have e:=rv.length;rw [yZ] at e;exact e.symm
  refine sorted_strs p.isList hS (by omega) λout ss' a1 a2 a3=>?_;obtain ⟨e,he⟩:=sortedAll_at s.heap its out;refine ⟨.ref _,_,I.laid (t':=s.toks) (o:= .lst (ss'.map V.str)) (λb o hb=>sortedAll_old hb) (uw _) ?_,rfl,q _ ss' (I.hok.fresh (uw _)) a2 (Bm a3)⟩;exact ⟨by rw [yZ,a2.length_eq];exact uX (vM (by omega)),out.toList,e,WZ a1,by simpa [seqObj] using he⟩
 ·obtain ⟨z,hd,vs,rel,dd⟩:=va I.hok hq;obtain ⟨ep,hat⟩:=dd.dictAt;have ek:=Mn rel hk;have hvl:vs.length=ss.length:=by have:=congrArg List.length ek;rwa [yZ,yZ] at this
  refine Calls.call_function_entry (id:="sorted") kind_sorted plain_sorted entry_sorted (args_sorted1 _) ?_;unfold Builtin.«sorted»;refine yW (m:=checkCount "sorted" 1 1 _) (yR ?_);refine yW (PySem.W.kdu_collect (PySem.W.kdl_dict (knd:=qe X.prog X.w) (kvs:=vs) (ep:=ep) hd) (by simpa using I.ok.hd hc) hat (uX (vM (by omega))) λh1 tk acc k1 hacc=>?_);have hS:=DY ek hacc;have hal:acc.toList.length=ss.length:=by have:=hacc.1;simp;omega
  refine RE (s:={ s with heap:=h1,toks:=tk }) hS (by omega) λh' out ss' e k2 he a1 a2 a3=>?_;have I1:Inv X pins U H { s with heap:=h1,toks:=tk }:=I.kept (t':=tk) k1;refine ⟨.ref _,_,I1.laid (t':=tk) (o:= .lst (ss'.map V.str)) k2 (yY _) ?_,rfl,q _ ss' (I1.hok.fresh (yY _)) a2 (Bm a3)⟩;exact ⟨by rw [yZ,a2.length_eq];exact uX (vM (by omega)),out,e,WZ a1,he⟩
end
end L2
namespace L2
open PySem PySem.Spec PySem.Calls
variable{a:Addr}{its:Array Value}{n:Nat}
section
variable {P:Program}{w:World}{A:Around}{E:Value->Shared->Prop}
theorem My:typeLookup (.type "list") "keys"=pure none:=am_miss_of_fast (by kernel_rfl)
theorem Mw:typeLookup (.type "list") "__getattr__"=pure none:=am_miss_of_fast (by kernel_rfl)
theorem Dv {hp:Heap}{g:Array GenState}{d:Drawn}{tk:Nat}{os:_}{u:Tok}{Q:PySem.Fin->Shared->Prop}(ho:hp.get? a=some { cls:= .type "list",data:= .seq its n })(hh:A.handled=none)(h:∀ h' tk' e,Heap.NewAttrErr hp h' e (.ref a) "keys"->E (.ref e) ⟨h',g,d,tk',os⟩):wpAny (model P w) A (Builtin.«object.__getattribute__» ⟨[.ref a,.str "keys" u],[]⟩) Q E ⟨hp,g,d,tk,os⟩:=by
 have hT:(⟨hp,g,d,tk,os⟩:Shared).TypeIs (.ref a) "list":=⟨_,ho,rfl⟩;have f0:=My;unfold Builtin.«object.__getattribute__»
 (repeat (any_goals (first|assumption|wp_step)))
 exact wpAny_raiseAttrError (s:=⟨hp,g,d,tk,os⟩) hh h (attrMsg_fits (by decide +kernel) (by decide +kernel))
theorem PB {s:Shared}{Q:Option Value->Shared->Prop}(ho:s.heap.get? a=some { cls:= .type "list",data:= .seq its n })(hh:A.handled=none)(h:∀ h' tk,(∀ b o,s.heap.get? b=some o->h'.get? b=some o)->Q none { s with heap:=h',toks:=tk }):wpAny (model P w) A (getAttr? (.ref a) "keys") Q E s:=by
 obtain ⟨hp,g,d,tk,os⟩:=s;have hT:∀ t',(⟨hp,g,d,t',os⟩:Shared).TypeIs (.ref a) "list":=λ_=>⟨_,ho,rfl⟩;have f1:=sub_AttributeError;have f2:=PySem.F.slot_list_getattribute.lookup;have f3:=PySem.F.slot_list_getattribute.bind (.ref a);have f5:=Mw;unfold getAttr? getAttrBy? getAttrBy
 (repeat (any_goals (first|assumption|exact hT _|wp_step)))
 refine codeAny_call_builtin PySem.F.slot_list_getattribute.plain PySem.F.entry_list_ga (PySem.F.slot_list_getattribute.check _ _ _ _ _ _ _ _ (hT _) (PySem.F.args_list_getattribute_2 _ _) (Dv ho (by simpa using hh) λh' tk' e hx=>?_));obtain ⟨t',u',he⟩:=hx.there;have hk:=hx.keeps;show wpAny _ _ (getattributeRaised _ _ _ _ _ _ _) _ _ _;unfold getattributeRaised
 (repeat (any_goals (first|assumption|wp_step)))
 exact h _ _ hk
end
end L2
namespace L2
open PySem PySem.Spec PySem.Calls PyProof.Rows
variable{K:Fg}{e:Expr}{te:TE}{p2 pos:Pos}{A:Around}{s:Shared}{H:Hp}{kvs:List (v9×V)}
section
variable {X:Cx}
theorem Pb:∀{xs:List V}{us:List Value},Vals xs us->Vals xs.reverse us.reverse
 |[],_,.nil=> .nil
 |_::_,_,.cons p r=>by rw [List.reverse_cons,List.reverse_cons];exact Vals.append (Pb r) (.cons p .nil)
theorem Hf {α:Type}(l:List α):(List.range l.length).filterMap (λk=>l[l.length-1-k]?)=l.reverse:=by
 have e:∀ ks:List Nat,(∀ k∈ks,k<l.length)->ks.filterMap (λk=>l[l.length-1-k]?)=ks.filterMap (λk=>l.reverse[k]?):=by
  intro ks
  induction ks with
  |nil=>intro _;rfl
  |cons k ks ih=>intro h;rw [uK,uK,ih λj hj=>h j (yN _ hj),List.getElem?_reverse (h k yK)]
 rw [e _ λk hk=>yg.mp hk,<- List.length_reverse];generalize l.reverse=r
 induction r with
 |nil=>rfl
 |cons x r ih=>rw [yS,List.range_succ_eq_map,uK,List.filterMap_map];simp only [List.getElem?_cons_zero];show x::(List.range r.length).filterMap (λk=>(x::r)[k+1]?)=_;simp only [List.getElem?_cons_succ];rw [ih]
theorem NO (its:List Value):slicePick its.toArray none none (some (-1))=its.reverse.toArray:=by
 unfold slicePick
 congr 1
 rw [<- Hf its];have e:sliceRange (sliceBounds none none (some (-1)) its.toArray.size).1 (sliceBounds none none (some (-1)) its.toArray.size).2.1 (sliceBounds none none (some (-1)) its.toArray.size).2.2=(List.range its.length).map λk=>its.length-1-k:=by
  show sliceRange ((its.toArray.size:Int)-1) (-1) (-1)=_;rw [yX];unfold sliceRange;have c:(if (-1:Int) > 0 then (if (its.length:Int)-1 < -1 then (-1-((its.length:Int)-1) + -1-1) / -1 else 0) else (if (its.length:Int)-1 > -1 then ((its.length:Int)-1 - -1 - -1-1) / (- -1) else 0))=(its.length:Int):=by rw [if_neg (by decide),show (- -1:Int)=1 from rfl,Int.ediv_one];split<;>omega
  simp only [];rw [c,Int.toNat_natCast];refine List.map_congr_left λk hk=>?_;have:=yg.mp hk;omega
 rw [e,List.filterMap_map]
 congr 1
 funext k
 show its.toArray[its.length-1-k]?=_;simp
def tRev (K:Fg)(te:TE)(ts:TO):TE:=λU H Q=>te U H λx H1=>ts U H1 λo H2=>o=some (-1)/\∃ a xs,x = .ref a/\SqL K H2 a xs/\∀ l,H2 l=none->Q (.ref l) (j9 H2 l (.lst xs.reverse))
theorem NA {st:Expr}{ts:TO}(hK:X.K=K)(he:PE X e te)(hs:PO X (some st) ts):PE X (.Subscript e (.Slice none none (some st) p2) pos) (tRev K te ts):=by subst hK;intro pins s U H Q I h;refine Subscript_ (z7 (he pins s U H _ I h) λv s1 zq=>?_);obtain ⟨x,H1,I1,r1,q1⟩:=zq;refine wpAny_Slice ?_;rw [evalPart_none];refine yR (yR (z7 (hs pins s1 U H1 _ I1 q1) λvs s3 zq=>?_));obtain ⟨o,H3,I3,ps,q3⟩:=zq;obtain ⟨rfl,a,xs,rfl,hx,q⟩:=q3;cases r1;have I4:Inv X pins U H3 { s3 with heap:=s3.heap.push { cls:= .type "slice",data:= .fields #[.none,.none,vs] } }:=I3.kept (t':=s3.toks) λb ob q=>yV _ q;obtain ⟨its,r,ht,hz⟩:=I4.list hx;have hlen:=r.length;refine tail_any (ops:=[.ref a,.ref s3.heap.objs.size]) ht.isList.typeIs slot_list_getitem.lookup ?_ (by with_unfolding_all rfl);refine wpAny_getItem_list_slice ht.isList (Heap.IsSliceOf.new ..) .none .none ps (by decide) ?_ (by rw [yX];omega);rw [NO];refine ⟨.ref _,_,I4.laid (t':=s3.toks) (o:= .lst xs.reverse) (λb ob q=>yV _ q) (yY _) ?_,rfl,q _ (I4.hok.fresh (yY _))⟩;exact ⟨by rw [List.length_reverse];exact hz,_,0,Pb r,yI _ rfl⟩
end
theorem PX:bootBuiltins "set"=some (.type "set"):=by decide +kernel
theorem GI (e:Expr)(z:Str)(t:Tok):∀ r,letTemporaryGo e (.str z t) r=pure ():=λr=>by cases e<;>rfl
section
variable {X:Cx}
theorem Kh {lo hi:Option Expr}{tl th:TO}(he:PE X e te)(hl:PO X lo tl)(hu:PO X hi th):PE X (.Subscript e (.Slice lo hi none p2) pos) (tSlS te tl th):=by
 intro pins s U H Q I h;refine Subscript_ (z7 (he pins s U H _ I h) λv s1 zq=>?_);obtain ⟨x,H1,I1,r1,q1⟩:=zq;refine wpAny_Slice (z7 (hl pins s1 U H1 _ I1 q1) λvl s2 ⟨l,H2,I2,pl,q2⟩=>z7 (hu pins s2 U H2 _ I2 q2) λvu s3 zq=>?_);obtain ⟨u,H3,I3,pu,q3⟩:=zq;rw [evalPart_none];refine yR ?_;obtain ⟨z,e1,hz,alt,q⟩:=q3;subst e1;obtain ⟨t,rfl⟩:=r1;have kp:KeptH (λh=>∀ k,Inv X pins U H3 { s3 with heap:=h,toks:=k }):=λh ob a k=>(a k).kept (t':=k) λb o e=>yV _ e;have I0:∀ k,Inv X pins U H3 { s3 with heap:=s3.heap,toks:=k }:=λk=>I3.tok k;rcases alt with ⟨rfl,j,rfl⟩|⟨rfl,i,rfl⟩
 ·cases pl;cases pu with
  |int j' uj=>exact tail_of_ItemOn (SBH.sliceItem_ns kp I0 (λh' t' k a=>⟨.str _,H3,a k,⟨_,rfl⟩,q⟩) hz) (by with_unfolding_all rfl) (GI _ _ _)
 ·cases pu;cases pl with
  |int i' ui=>exact tail_of_ItemOn (SBH.sliceItem_sn kp I0 (λh' t' k a=>⟨.str _,H3,a k,⟨_,rfl⟩,q⟩) hz) (by with_unfolding_all rfl) (GI _ _ _)
end
section
variable {P:Program}{w:World}{κ:Type}[DecidableEq κ]{knd:PySem.KeyKind P w κ}
theorem UU:entryFor table "dict.update.loop"=some Builtin.«dict.update.loop»:=entryFor_of_tree (by kernel_rfl)
theorem Zz:plainId "dict.update.loop"=true:=by decide +kernel
theorem CS {R:Result->Shared->Prop}{I:Addr}{fp wr:List Addr}{Pp:Nat->Value->Prop}{St:Nat->Heap->Prop}{more:List (κ×Value)}{lo:Addr}(W:Walks P w A.in1 I fp wr more.length Pp St)(d:Addr)(hdf:d∉fp)(hlo:lo<=d)(hwr:∀ b∈wr,lo<=b)(hsz:more.length<=sizeLine):∀ (m i:Nat) (z:Int) (tk:Tok) (s:Shared),more.length-i=m->i<=more.length->St i s.heap->s.heap.DictOf knd d (merged [] (more.take i)) -> (∀ j v kv,Pp j v->more[j]?=some kv->∃ t k,t<lo/\v = .ref t/\knd.is kv.1 k=true/\IsTup s.heap t #[k,kv.2]) -> (∀ h' tk',(∀ b o,b<lo->s.heap.get? b=some o->h'.get? b=some o)->h'.DictOf knd d (merged [] more)->R (.ok (.ret .none)) { s with heap:=h',toks:=tk' }) -> codeAny (model P w) A (.builtin "dict.update.loop" ⟨[.ref d,.ref I,.int z tk,.none],[]⟩) R s:=by
 have hdw:d∉wr:=λq=>hdf (W.sub _ q);intro m
 induction m with
 |zero =>
  intro i z tk s hm hi st hd hp hR;have hin:i=more.length:=by omega
  subst hin;refine codeAny_builtin UU ?_;rw [Around.under_plainId Zz _];show wpAny _ A.in1 (pyNext (.ref I) >>= _) _ _ s;refine yW (W.done s _ _ st λh' tk' k=>?_);show wpAny _ A.in1 (Builtin.Dict.addKeywords d [] >>= _) _ _ _;refine yW (yR ?_);refine yR (hR h' tk' (λb o hb e=>k b o (λq=>absurd (hwr b q) (Nat.not_le.mpr hb)) e) ?_);rw [List.take_length] at hd;obtain ⟨o,es,ep,ho,r⟩:=hd;exact ⟨o,es,ep,k d o hdw ho,r⟩
 |succ m ih =>
  intro i z tk s hm hi st hd hp hR;have hlt:i<more.length:=by omega
  refine codeAny_builtin UU ?_;rw [Around.under_plainId Zz _];show wpAny _ A.in1 (pyNext (.ref I) >>= _) _ _ s;refine yW (W.item i s _ _ hlt st λv h' tk' hPv st' k=>?_);obtain ⟨t,kk,ht,rfl,hk,o,ho,hc,n,hdt⟩:=hp i v more[i] hPv (yL hlt);have ho':h'.get? t=some o:=k t o (λq=>absurd (hwr t q) (Nat.not_le.mpr ht)) ho;have hd':h'.DictOf knd d (merged [] (more.take i)):=by obtain ⟨o,es,ep,ho,r⟩:=hd;exact ⟨o,es,ep,k d o hdw ho,r⟩
  have hT:Shared.TypeIs { s with heap:=h',toks:=tk' } (.ref t) "tuple":=⟨o,ho',hc⟩;show wpAny _ A.in1 (holding [.ref t] _ >>= _) _ _ _;refine yW (wpAny_holding (yW (wpAny_tryCatch ?_)));unfold Builtin.Dict.pairItems;refine yW (wpAny_typeOf hT ?_);rw [if_pos (by decide)];refine yW (wpAny_seqItems ho' hdt (yR ?_));show wpAny _ A.in1 (holding [kk,more[i].2] (dictSet d kk more[i].2)) _ _ _;refine wpAny_holding (wpAny_dictSet_pairs (knd:=knd) hk hd' (λh2 hd2 sb=>?_) ?_)
  ·rw [<- merged_take_succ [] more i more[i] (yL hlt)] at hd2;have keep2:∀ b o,b<lo->s.heap.get? b=some o->h2.get? b=some o:=λb o hb e=>by
    rw [sb.2 b (yJ (yG hb hlo))];exact k b o (λq=>absurd (hwr b q) (Nat.not_le.mpr hb)) e
   refine yR ⟨plainId_quiet Zz _,ih (i+1) _ _ _ (by omega) hlt (W.frame _ _ _ st' λb hb o e=>?_) hd2 (λj v kv hv hj=>?_) λh3 tk3 k3 hd3=>?_⟩
   ·rw [sb.2 b (λq=>hdf (by rw [<- q];exact hb))];exact e
   ·obtain ⟨t,kk,ht,rfl,hk,o,ho,r⟩:=hp j v kv hv hj;exact ⟨t,kk,ht,rfl,hk,o,keep2 t o ht ho,r⟩
   ·exact hR h3 tk3 (λb o hb e=>k3 b o hb (keep2 b o hb e)) hd3
  ·have:=merged_length_le [] (more.take i);rw [List.length_take,List.length_nil] at this;omega
theorem Cc {E:Value->Shared->Prop}{l:Addr}{its:Array Value}{n:Nat}{more:List (κ×Value)}{Q:Value->Shared->Prop}(hh:A.handled=none)(ho:s.heap.get? l=some { cls:= .type "list",data:= .seq its n })(hlen:its.size=more.length)(hsz:more.length<=sizeLine)(hp:∀ (j:Nat) (v:Value) (kv:κ×Value),its[j]?=some v->more[j]?=some kv->∃ t k,v = .ref t/\knd.is kv.1 k=true/\IsTup s.heap t #[k,kv.2])(h:∀ h' tk',(∀ b o,s.heap.get? b=some o->h'.get? b=some o)->h'.DictOf knd s.heap.objs.size (merged [] more)->Q (.ref s.heap.objs.size) { s with heap:=h',toks:=tk' }):wpAny (model P w) A (call (.type "dict") [.ref l]) Q E s:=by
 refine callType_codes (Q₁:=λob s1=>ob = .ref s.heap.objs.size/\s1={ s with heap:=s.heap.push { cls:= .type "dict",data:= .dict #[] } }) PySem.F.kt_called_dict (PySem.F.kt_typeCall_dict_1 _) PySem.F.entry_dict_init (kt_code_dict_new _ ⟨rfl,rfl⟩) ?_;rintro ob s1 ⟨rfl,rfl⟩;have hnew:(s.heap.push { cls:= .type "dict",data:= .dict #[] }).DictOf knd s.heap.objs.size []:=Heap.DictOf.new s.heap;have ho':(s.heap.push { cls:= .type "dict",data:= .dict #[] }).get? l=some { cls:= .type "list",data:= .seq its n }:=yV _ ho;have hTl:Shared.TypeIs { s with heap:=s.heap.push { cls:= .type "dict",data:= .dict #[] } } (.ref l) "list":=⟨_,ho',rfl⟩;have hlt:l<s.heap.objs.size:=yQ ho;refine ⟨hnew.typeIs,PySem.F.args_dict_init_2 _ _,?_⟩;unfold Builtin.«dict.__init__»;refine yW ?_;unfold Builtin.Dict.selfAndRest;refine yW (wpAny_notOrdered_dict hnew.typeIs ?_);show wpAny _ _ (pure (s.heap.objs.size,[Value.ref l])) _ _ _;refine yR ?_;show wpAny _ _ (Builtin.Dict.updateFrom "dict.__init__" s.heap.objs.size (.ref l) [] .none) _ _ _;unfold Builtin.Dict.updateFrom;refine yW (wpAny_typeOf hTl ?_);rw [if_pos (by decide)];refine yW (PB ho' (by simpa using hh) λh1 tk1 k1=>?_);rw [if_pos (show (none:Option Value).isNone=true from rfl)];refine yW (wpAny_rule ?_);have ho1:=k1 _ _ ho';have hl1:h1.IsList l its:=⟨_,ho1,rfl,n,rfl⟩;refine yW (wpAny_pyIter_list (s:={ s with heap:=h1,toks:=tk1 }) hl1 ?_);have hd1:h1.DictOf knd s.heap.objs.size []:=by obtain ⟨o,es,ep,hq,r⟩:=hnew;exact ⟨o,es,ep,k1 _ _ hq,r⟩
 have hdlt:s.heap.objs.size<h1.objs.size:=by obtain ⟨o,es,ep,hq,r⟩:=hd1;exact yQ hq
 have hll:l<h1.objs.size:=yQ ho1;refine yR ⟨plainId_quiet Zz _,?_⟩;have W:=Walks.list (prog:=P) (w:=w) (A:=A.in1.in1) (by simpa using hh) h1.objs.size l (yJ hll) its;rw [hlen] at W;refine CS (knd:=knd) (lo:=s.heap.objs.size) W s.heap.objs.size ?_ (yY _) (λb hb=>?_) hsz more.length 0 _ _ { s with heap:=h1.push { cls:= .type "list_iterator",data:= .fields #[.ref l,.int 0 0] },toks:=tk1 } (by omega) (yo _) ⟨⟨_,yI _ rfl,rfl,rfl⟩,hl1.push _⟩ ?_ (λj v kv hv hj=>?_) λh' tk' kp hd=>?_
 ·simp only [yP,yt,or_false,not_or];exact ⟨yJ hdlt,Nat.ne_of_gt hlt⟩
 ·rw [yC.mp hb];exact uX hdlt
 ·obtain ⟨o,es,ep,hq,r⟩:=hd1;exact ⟨o,es,ep,yV _ hq,r⟩
 ·obtain ⟨t,k,rfl,hk,o,hto,r⟩:=hp j v kv hv hj;exact ⟨t,k,yQ hto,rfl,hk,o,yV _ (k1 _ _ (yV _ hto)),r⟩
 ·exact ⟨rfl,h h' tk' (λb o e=>kp b o (yQ e) (yV _ (k1 _ _ (yV _ e)))) hd⟩
end
section
variable {X:Cx}
theorem Np {pins:List (Addr×Obj)}{U:St}(I:Inv X pins U H s){ts:List Addr}(r:Paired (λt (kv:v9×V)=>H t=some (.tup [kV kv.1,kv.2])) ts kvs):∃ more:List (v9×Value),KV kvs more/\∀(j:Nat)(t:Addr)(m:v9×Value),ts[j]?=some t->more[j]?=some m->∃ k,(qe X.prog X.w).is m.1 k=true/\IsTup s.heap t #[k,m.2]:=by
 induction r with
 |nil=>exact ⟨[],.nil,λj t m h=>by simp at h⟩
 |@cons t kv ts kvs p _ ih =>
  obtain ⟨more,k1,k2⟩:=ih;obtain ⟨_,its,rv,ht⟩:=(show ObjOk X.prog X.w H s.heap t (.tup [kV kv.1,kv.2]) from I.hok t _ p);cases rv with
  |cons p1 r1 =>
   cases r1 with
   |cons p2 r2 =>
    cases r2;rename_i u1 u2;refine ⟨(kv.1,u2)::more,.cons ⟨rfl,p2⟩ k1,λj t' m h1 h2=>?_⟩;cases j with
    |zero=>simp at h1 h2;subst h1 h2;exact ⟨u1,wg p1,ht⟩
    |succ j=>exact k2 j t' m (by simpa using h1) (by simpa using h2)
theorem Pa:∀{ts:List Addr}{us:List Value},Vals (ts.map V.ref) us->us=ts.map Value.ref
 |[],_,.nil=>rfl
 |t::ts,_,.cons p r=>by
  obtain rfl:=(show _=Value.ref t from p);rw [Pa r];rfl
theorem Yh:∀{kvs:List (v9×V)}{vs:List (v9×Value)},KV kvs vs->vs.map (·.1)=kvs.map (·.1)
 |[],_,.nil=>rfl
 |_::_,_,.cons p r=>by rw [yT,yT,Yh r,p.1]
end
theorem Gj {P:Program}{w:World}{h:Heap}{a:Addr}{o:Obj}{es:Array DictEntry}{ep:Nat}(ok:HOk P w H h)(e:H a=some (.frz o (.dK kvs)))(hd:o.data = .dict es ep):(a==sysModules)=false/\∃ vs,KV kvs vs/\h.DictAt (qe P w) a vs ep:=by obtain ⟨h1,h2,h3,vs,r,o',es',ep',h4,h5,h6,h7⟩:=(show ObjOk P w H h a (.frz o (.dK kvs)) from ok a _ e);rw [h1] at h4;cases h4;rw [hd] at h6;cases h6;exact ⟨h3,vs,r,o,es,h1,h5,hd,h7⟩
section
variable {X:Cx}{tg:Expr}
def Ku:List V->Hp->VK->Prop:=λxs H Q=>∃(a:Addr)(ts:List Addr)(kvs:List (v9×V)),xs=[.ref a]/\H a=some (.lst (ts.map V.ref))/\Paired (λt (kv:v9×V)=>H t=some (.tup [kV kv.1,kv.2])) ts kvs/\(kvs.map (·.1)).Nodup/\kvs.length<=1000 /\
  ∀ l o,H l=none->Q (.ref l) (j9 H l (.frz o (.dK kvs)))
theorem Cb (hc:X.calm=true)(_:X.K=K):CallR X (.type "dict") Ku:=by
 intro pins s U H xs us Q I r h;obtain ⟨a,ts,kvs,rfl,hq,hp,hn,h1000,q⟩:=h;obtain ⟨u,rfl,ru⟩:=xN r;obtain rfl:u=Value.ref a:=ru;obtain ⟨hz,its,n,rv,ho⟩:=(show ObjOk X.prog X.w H s.heap a (.lst (ts.map V.ref)) from I.hok a _ hq);have ei:=Pa rv;obtain ⟨more,k1,k2⟩:=Np I hp;have lk:more.length=kvs.length:=k1.length.symm;have lt:=hp.length;have hsl:more.length<=sizeLine:=uX (vM (by omega));refine Cc (knd:=qe X.prog X.w) (more:=more) (I.ok.hd hc) ho (by rw [yX,ei,yZ];omega) hsl (λj v m hv hm=>?_) λh' tk k hd=>?_
 ·have hv':its[j]?=some v:=by simpa using hv
  rw [ei,yM] at hv';obtain ⟨t,ht,rfl⟩:=yF.mp hv';obtain ⟨kk,x1,x2⟩:=k2 j t m ht hm;exact ⟨t,kk,rfl,x1,x2⟩
 ·rw [merged_nil_of_nodup more (by rw [Yh k1];exact hn)] at hd;obtain ⟨o,es,ep,ho',_⟩:=id hd;refine ⟨.ref s.heap.objs.size,_,I.laid (t':=tk) (o:= .frz o (.dK kvs)) k (yY _) ⟨ho',US (by omega) (beq_eq_false_iff_ne.mpr (Ne.symm (yJ I.big))) k1 hd⟩,rfl,q _ _ (I.hok.fresh (yY _))⟩
end
section
variable {X:Cx}
def vwO (v a:Addr):HO:= .ext λh=>h.IsValuesView v a
def BG (td:TE):TE:=λU H Q=>td U H λx H1=>∃ a o kvs,x = .ref a/\H1 a=some (.frz o (.dK kvs))/\∀ v,H1 v=none->Q (.ref v) (j9 H1 v (vwO v a))
theorem NC {d:Expr}{td:TE}{apos cpos:Pos}(ho:PE X d td)(hbase:attributeBase d "values" X.env (eval d X.env)=eval d X.env:=by rfl)(hline:(apos.endLine==cpos.line)=true:=by rfl):PE X (.Call (.Attribute d "values" apos) [] [] cpos) (BG td):=by
 intro pins s U H Q I h;refine wpAny_Call_method0_late hbase hline (z7 (ho pins s U H _ I h) λv s1 zq=>?_);obtain ⟨x,H1,I1,r1,q1⟩:=zq;obtain ⟨a,o,kvs,e,hq,q⟩:=q1;subst e;cases r1;obtain ⟨g1,g2,g3,ws,rw',o',es,ep,g4,g5,g6,g7⟩:=(show ObjOk X.prog X.w H1 s1.heap a (.frz o (.dK kvs)) from I1.hok a _ hq);rw [g1] at g4;cases g4;obtain ⟨hs,vs,r,hm⟩:=Gj I1.hok hq g6;refine ⟨"dict","dict.values",PySem.F.plainAttrs_dict,PySem.F.slot_dict_values,PySem.F.type_dict_values,hm.dictOf.typeIs,λb e=>?_,Calls.callWith_builtin rfl (PySem.evalArgs_none ?_)⟩
 ·cases e;exact ⟨o,g1,g5.2.1⟩
 refine call_meetsIn PySem.F.slot_dict_values hm.dictOf.typeIs PySem.F.entry_dict_values (PySem.F.args_dict_values_1 _) (meets_dict_values (qe X.prog X.w) a hs) ⟨⟨vs,hm.dictOf⟩,?_⟩;refine ⟨.ref s1.heap.objs.size,_,I1.laid (t':=s1.toks) (o:=vwO s1.heap.objs.size a) (λb o e=>yV _ e) (yY _) ⟨⟨_,yI _ rfl,rfl,rfl⟩,⟨_,yI _ rfl⟩,λh1 h2 ⟨o,e,c⟩ k=>⟨o,k o e,c⟩⟩,rfl,q _ (I1.hok.fresh (yY _))⟩
theorem Pq {vs:List (v9×Value)}(r:KV kvs vs):Vals (kvs.map (·.2)) (vs.map (·.2)):=by
 unfold KV at r
 induction r with
 |nil=>exact .nil
 |cons p _ ih=>exact .cons p.2 ih
def KA:List V->Hp->VK->Prop:=λxs H Q=>∃ v a o kvs,xs=[.ref v]/\H v=some (vwO v a)/\H a=some (.frz o (.dK kvs))/\kvs.length<=1000/\∀ l,H l=none->Q (.ref l) (j9 H l (.lst (kvs.map (·.2))))
theorem Cm (hc:X.calm=true):CallR X (.type "list") KA:=by intro pins s U H xs us Q I r h;obtain ⟨v,a,o,kvs,rfl,hv,hq,h1000,q⟩:=h;obtain ⟨u,rfl,ru⟩:=xN r;obtain rfl:u=Value.ref v:=ru;have hvw:s.heap.IsValuesView v a:=(show ObjOk X.prog X.w H s.heap v (vwO v a) from I.hok v _ hv).1;obtain ⟨g1,g2,g3,ws,rw',o',es,ep,g4,g5,g6,g7⟩:=(show ObjOk X.prog X.w H s.heap a (.frz o (.dK kvs)) from I.hok a _ hq);rw [g1] at g4;cases g4;obtain ⟨hs,vs,rk,hm⟩:=Gj I.hok hq g6;have lv:vs.length=kvs.length:=(KV.length rk).symm;refine PySem.W.kdl_call (PySem.W.kdl_values (knd:=qe X.prog X.w) (kvs:=vs) (ep:=ep)) (I.ok.hd hc) ⟨hvw,hm⟩ (uX (vM (by omega))) λh' tk acc c hk hS hacc=>?_;have ea:acc.toList=vs.map (·.2):=PySem.W.kdl_vals_eq acc.toList (by rw [yi];exact hacc.1) λj v e=>hacc.2 j v (by rw [<- uE];exact e);refine ⟨.ref s.heap.objs.size,_,I.laid (t':=tk) (o:= .lst (kvs.map (·.2))) hk (yY _) ⟨by rw [yZ];exact uX (vM (by omega)),acc.toList,c,by rw [ea];exact Pq rk,?_⟩,rfl,q _ (I.hok.fresh (yY _))⟩;rw [Array.toArray_toList];exact hS
end
end L2
namespace Mi
open PySem L2
variable{fl:Bool}{H H' H0 Hb Hs Hs' Hs0:Hp}{ks:List b9}{u v:V}{C p:Addr}{ns:List Str}{vs:List V}{o:HO}{U σ':St}{tb te:TE}{r:R2}{ta:TA}{n:Nat}{K:Fg}{t:TT}{E:XK}{nm:Str}{ts:List Nat}{lo:Int}{wi:TI}{tg:TG}
def KAs (fl:Bool)(H:Hp)(as:List Addr)(ks:List b9):Prop:=Paired (KeyH fl H) as ks
theorem KAs.keeps {as:List Addr}(x:KAs fl H as ks)(ht:∀ b xs,H b=some (.tup xs)->H' b=some (.tup xs)):KAs fl H' as ks:=Paired.mapP x λ_ _ z=>z.keeps ht
theorem KAs.mono {as:List Addr}(x:KAs fl H as ks)(g:Same H H'):KAs fl H' as ks:=x.keeps λ_ _ z=>g _ _ z
inductive PV where
 |at (v:V)|tup (xs:List PV)|lst (xs:List PV)|dk (ks:List v9) (xs:List PV)|dn (fl:Bool) (ks:List b9) (xs:List PV)|fn (fl:Bool) (ks:List b9) (xs:List PV)|fk (ks:List v9) (xs:List PV)|ob (C:Addr) (ns:List Str) (xs:List PV)|op (φ:Hp->V->Prop)
variable{xs:List PV}{x y:PV}{m:List PV->Option PV}
mutual
def Rep (H:Hp):PV->V->Prop
 | .at u,v=>v=u
 | .tup xs,v=>∃ a vs,v = .ref a/\H a=some (.tup vs)/\Reps H xs vs
 | .lst xs,v=>∃ a vs,v = .ref a/\H a=some (.lst vs)/\Reps H xs vs
 | .dk ks xs,v=>∃ a kvs,v = .ref a/\H a=some (.dK kvs)/\kvs.map (·.1)=ks/\Reps H xs (kvs.map (·.2))
 | .dn fl ks xs,v=>∃ a as kvs,v = .ref a/\H a=some (.dT fl as kvs)/\(kvs.map (·.1)=ks/\KAs fl H as ks)/\Reps H xs (kvs.map (·.2))
 | .fn fl ks xs,v=>∃ a o as kvs,v = .ref a/\H a=some (.frz o (.dT fl as kvs))/\(kvs.map (·.1)=ks/\KAs fl H as ks)/\Reps H xs (kvs.map (·.2))
 | .fk ks xs,v=>∃ a o kvs,v = .ref a/\H a=some (.frz o (.dK kvs))/\kvs.map (·.1)=ks/\Reps H xs (kvs.map (·.2))
 | .ob C ns xs,v=>∃ a dx fs,v = .ref a/\H a=some (.ins C dx fs)/\fs.map (·.1)=ns/\Reps H xs (fs.map (·.2))
 | .op φ,v=>∃ H',Same H' H/\φ H' v
def Reps (H:Hp):List PV->List V->Prop
 |[],vs=>vs=[]
 |x::xs,vs=>∃ v r,vs=v::r/\Rep H x v/\Reps H xs r
end
mutual
theorem Rep.mono {H H':Hp}(g:Same H H'):∀{x:PV}{v:V},Rep H x v->Rep H' x v
 | .at u,v,h=>by unfold Rep at h ⊢;exact h
 | .tup xs,v,h=>by unfold Rep at h ⊢;obtain ⟨a,vs,e,p,r⟩:=h;exact ⟨a,vs,e,g _ _ p,Reps.mono g r⟩
 | .lst xs,v,h=>by unfold Rep at h ⊢;obtain ⟨a,vs,e,p,r⟩:=h;exact ⟨a,vs,e,g _ _ p,Reps.mono g r⟩
 | .dk ks xs,v,h=>by unfold Rep at h ⊢;obtain ⟨a,vs,e,p,q,r⟩:=h;exact ⟨a,vs,e,g _ _ p,q,Reps.mono g r⟩
 | .dn fl ks xs,v,h=>by unfold Rep at h ⊢;obtain ⟨a,as,vs,e,p,q,r⟩:=h;exact ⟨a,as,vs,e,g _ _ p,⟨q.1,q.2.mono g⟩,Reps.mono g r⟩
 | .fn fl ks xs,v,h=>by unfold Rep at h ⊢;obtain ⟨a,o,as,vs,e,p,q,r⟩:=h;exact ⟨a,o,as,vs,e,g _ _ p,⟨q.1,q.2.mono g⟩,Reps.mono g r⟩
 | .fk ks xs,v,h=>by unfold Rep at h ⊢;obtain ⟨a,o,vs,e,p,q,r⟩:=h;exact ⟨a,o,vs,e,g _ _ p,q,Reps.mono g r⟩
 | .ob C ns xs,v,h=>by unfold Rep at h ⊢;obtain ⟨a,dx,vs,e,p,q,r⟩:=h;exact ⟨a,dx,vs,e,g _ _ p,q,Reps.mono g r⟩
 | .op φ,v,h=>by unfold Rep at h ⊢;obtain ⟨H1,s,p⟩:=h;exact ⟨H1,s.trans g,p⟩
theorem Reps.mono {H H':Hp}(g:Same H H'):∀{xs:List PV}{vs:List V},Reps H xs vs->Reps H' xs vs
 |[],vs,h=>by unfold Reps at h ⊢;exact h
 |x::xs,vs,h=>by unfold Reps at h ⊢;obtain ⟨v,r,e,p,q⟩:=h;exact ⟨v,r,e,Rep.mono g p,Reps.mono g q⟩
end
theorem rep_at :Rep H (.at u) v↔v=u:=by unfold Rep;exact Iff.rfl
theorem rep_tup :Rep H (.tup xs) v↔∃ a vs,v = .ref a/\H a=some (.tup vs)/\Reps H xs vs:=by unfold Rep;exact Iff.rfl
theorem rep_lst :Rep H (.lst xs) v↔∃ a vs,v = .ref a/\H a=some (.lst vs)/\Reps H xs vs:=by unfold Rep;exact Iff.rfl
theorem rep_dk {ks:List v9}:Rep H (.dk ks xs) v↔∃ a kvs,v = .ref a/\H a=some (.dK kvs)/\kvs.map (·.1)=ks/\Reps H xs (kvs.map (·.2)):=by unfold Rep;exact Iff.rfl
theorem rep_dn :Rep H (.dn fl ks xs) v↔∃ a as kvs,v = .ref a/\H a=some (.dT fl as kvs)/\(kvs.map (·.1)=ks/\KAs fl H as ks)/\Reps H xs (kvs.map (·.2)):=by unfold Rep;exact Iff.rfl
theorem rep_fn :Rep H (.fn fl ks xs) v↔∃ a o as kvs,v = .ref a/\H a=some (.frz o (.dT fl as kvs))/\(kvs.map (·.1)=ks/\KAs fl H as ks)/\Reps H xs (kvs.map (·.2)):=by unfold Rep;exact Iff.rfl
theorem rep_fk {ks:List v9}:Rep H (.fk ks xs) v↔∃ a o kvs,v = .ref a/\H a=some (.frz o (.dK kvs))/\kvs.map (·.1)=ks/\Reps H xs (kvs.map (·.2)):=by unfold Rep;exact Iff.rfl
theorem rep_ob :Rep H (.ob C ns xs) v↔∃ a dx fs,v = .ref a/\H a=some (.ins C dx fs)/\fs.map (·.1)=ns/\Reps H xs (fs.map (·.2)):=by unfold Rep;exact Iff.rfl
theorem rep_op {φ:Hp->V->Prop}:Rep H (.op φ) v↔∃ H',Same H' H/\φ H' v:=by unfold Rep;exact Iff.rfl
theorem reps_nil :Reps H [] vs↔vs=[]:=by unfold Reps;exact Iff.rfl
theorem reps_cons :Reps H (x::xs) vs↔∃ v r,vs=v::r/\Rep H x v/\Reps H xs r:=by
 constructor
 ·intro h;unfold Reps at h;exact h
 ·intro h;unfold Reps;exact h
theorem Reps.nil :Reps H [] []:=reps_nil.mpr rfl
theorem Reps.cons {H:Hp}{x:PV}{v:V}{xs:List PV}{vs:List V}(p:Rep H x v)(q:Reps H xs vs):Reps H (x::xs) (v::vs):=reps_cons.mpr ⟨v,vs,rfl,p,q⟩
theorem Reps.length {H:Hp}:∀{xs:List PV}{vs:List V},Reps H xs vs->vs.length=xs.length
 |[],vs,h=>by rw [reps_nil.mp h];rfl
 |x::xs,vs,h=>by obtain ⟨v,r,rfl,_,q⟩:=reps_cons.mp h;rw [yS,yS,Reps.length q]
theorem Reps.append {H:Hp}:∀{xs ys:List PV}{vs ws:List V},Reps H xs vs->Reps H ys ws->Reps H (xs++ys) (vs++ws)
 |[],ys,vs,ws,h,k=>by rw [reps_nil.mp h];exact k
 |x::xs,ys,vs,ws,h,k=>by obtain ⟨v,r,rfl,p,q⟩:=reps_cons.mp h;exact .cons p (Reps.append q k)
theorem Reps.one (p:Rep H x v):Reps H [x] [v]:= .cons p .nil
theorem Reps.get {H:Hp}:∀{xs:List PV}{vs:List V}{i:Nat}{x:PV},Reps H xs vs->xs[i]?=some x->∃ v,vs[i]?=some v/\Rep H x v
 |[],_,i,x,_,e=>by simp at e
 |y::xs,vs,0,x,h,e=>by
  obtain ⟨v,r,rfl,p,q⟩:=reps_cons.mp h;simp at e;subst e;exact ⟨v,rfl,p⟩
 |y::xs,vs,i+1,x,h,e=>by
  obtain ⟨v,r,rfl,p,q⟩:=reps_cons.mp h;obtain ⟨w,e1,e2⟩:=Reps.get (i:=i) (x:=x) q (by simpa using e);exact ⟨w,by simpa using e1,e2⟩
theorem Reps.take {H:Hp}:∀(n:Nat){xs:List PV}{vs:List V},Reps H xs vs->Reps H (xs.take n) (vs.take n)
 |0,_,_,_=>by rw [List.take_zero,List.take_zero];exact .nil
 |n+1,[],vs,h=>by rw [reps_nil.mp h];exact .nil
 |n+1,x::xs,vs,h=>by
  obtain ⟨v,r,rfl,p,q⟩:=reps_cons.mp h;exact .cons p (Reps.take n q)
theorem Reps.drop {H:Hp}:∀(n:Nat){xs:List PV}{vs:List V},Reps H xs vs->Reps H (xs.drop n) (vs.drop n)
 |0,_,_,h=>h
 |n+1,[],vs,h=>by rw [reps_nil.mp h];exact .nil
 |n+1,x::xs,vs,h=>by
  obtain ⟨v,r,rfl,p,q⟩:=reps_cons.mp h;exact Reps.drop n q
theorem Reps.set {H:Hp}{y:PV}{w:V}(r:Rep H y w):∀(i:Nat){xs:List PV}{vs:List V},Reps H xs vs->Reps H (xs.set i y) (vs.set i w)
 |_,[],vs,h=>by rw [reps_nil.mp h];exact .nil
 |0,x::xs,vs,h=>by
  obtain ⟨v,r',rfl,p,q⟩:=reps_cons.mp h;exact .cons r q
 |i+1,x::xs,vs,h=>by
  obtain ⟨v,r',rfl,p,q⟩:=reps_cons.mp h;exact .cons p (Reps.set r i q)
theorem Reps.reverse {H:Hp}:∀{xs:List PV}{vs:List V},Reps H xs vs->Reps H xs.reverse vs.reverse
 |[],vs,h=>by rw [reps_nil.mp h];exact .nil
 |x::xs,vs,h=>by
  obtain ⟨v,r,rfl,p,q⟩:=reps_cons.mp h;rw [List.reverse_cons,List.reverse_cons];exact (Reps.reverse q).append (.one p)
theorem Reps.ats {H:Hp}:∀{us vs:List V},Reps H (us.map .at) vs->vs=us
 |[],vs,h=>reps_nil.mp h
 |u::us,vs,h=>by
  obtain ⟨v,r,rfl,p,q⟩:=reps_cons.mp h;rw [rep_at.mp p,Reps.ats q]
theorem Reps.ofAts {H:Hp}:∀(us:List V),Reps H (us.map .at) us
 |[]=> .nil
 |u::us=> .cons (rep_at.mpr rfl) (Reps.ofAts us)
structure Ext (Hs H Hs' H':Hp):Prop where
 s1:Same Hs Hs'
 s2:Same H H'
 s3:Same Hs' H'
 s4:∀ b,H b≠none->Hs b=none->Hs' b=none
theorem Bj (g:Same H H'){b:Addr}(h:H b≠none):H' b≠none:=λz=>h (g.free z)
theorem Ext.refl (s:Same Hs H):Ext Hs H Hs H:=⟨.refl _,.refl _,s,λ_ _ z=>z⟩
theorem Ext.trans {A B A1 B1 A2 B2:Hp}(x:Ext A B A1 B1)(y:Ext A1 B1 A2 B2):Ext A B A2 B2:=⟨x.s1.trans y.s1,x.s2.trans y.s2,y.s3,λb h z=>y.s4 b (Bj x.s2 h) (x.s4 b h z)⟩
theorem Ext.new (s:Same Hs H)(h:H p=none):Ext Hs H (j9 Hs p o) (j9 H p o):=by
 have hs:Hs p=none:=s.free h;refine ⟨λb u e=>?_,λb u e=>?_,λb u e=>?_,λb e z=>?_⟩
 ·rw [v6 (k7 e hs)];exact e
 ·rw [v6 (k7 e h)];exact e
 ·by_cases hb:b=p
  ·subst hb;rw [y4] at e ⊢;exact e
  ·rw [v6 hb] at e ⊢;exact s _ _ e
 ·have hb:b≠p:=λq=>e (by rw [q];exact h);rw [v6 hb];exact z
theorem Ext.newO (s:Same Hs H)(h:H p=none):Ext Hs H Hs (j9 H p o) :=
 ⟨.refl _,λb u e=>by rw [v6 (k7 e h)];exact e,λb u e=>by rw [v6 (k7 (s _ _ e) h)];exact s _ _ e,λ_ _ z=>z⟩
def Top (Hs H:Hp)(a:Addr):PV->Prop
 | .lst xs=>∃ vs,H a=some (.lst vs)/\Reps Hs xs vs
 | .dk ks xs=>∃ kvs,H a=some (.dK kvs)/\kvs.map (·.1)=ks/\Reps Hs xs (kvs.map (·.2))
 | .dn fl ks xs=>∃ as kvs,H a=some (.dT fl as kvs)/\(kvs.map (·.1)=ks/\KAs fl Hs as ks)/\Reps Hs xs (kvs.map (·.2))
 | .fn fl ks xs=>∃ o as kvs,H a=some (.frz o (.dT fl as kvs))/\(kvs.map (·.1)=ks/\KAs fl Hs as ks)/\Reps Hs xs (kvs.map (·.2))
 | .ob C ns xs=>∃ dx fs,H a=some (.ins C dx fs)/\fs.map (·.1)=ns/\Reps Hs xs (fs.map (·.2))
 |_=>False
theorem Top.there {a:Addr}:∀{x:PV},Top Hs H a x->H a≠none
 | .lst _,h,z=>by obtain ⟨vs,e,_⟩:=h;rw [e] at z;cases z
 | .dk _ _,h,z=>by obtain ⟨vs,e,_⟩:=h;rw [e] at z;cases z
 | .dn _ _ _,h,z=>by obtain ⟨as,vs,e,_⟩:=h;rw [e] at z;cases z
 | .fn _ _ _,h,z=>by obtain ⟨o,as,vs,e,_⟩:=h;rw [e] at z;cases z
 | .ob _ _ _,h,z=>by obtain ⟨dx,vs,e,_⟩:=h;rw [e] at z;cases z
theorem Top.mono {a:Addr}(g:Same Hs Hs')(e:∀ o,H a=some o->H' a=some o):∀{x:PV},Top Hs H a x->Top Hs' H' a x
 | .lst _,h=>by obtain ⟨vs,q,r⟩:=h;exact ⟨vs,e _ q,r.mono g⟩
 | .dk _ _,h=>by obtain ⟨vs,q,k,r⟩:=h;exact ⟨vs,e _ q,k,r.mono g⟩
 | .dn _ _ _,h=>by obtain ⟨as,vs,q,k,r⟩:=h;exact ⟨as,vs,e _ q,⟨k.1,k.2.mono g⟩,r.mono g⟩
 | .fn _ _ _,h=>by obtain ⟨o,as,vs,q,k,r⟩:=h;exact ⟨o,as,vs,e _ q,⟨k.1,k.2.mono g⟩,r.mono g⟩
 | .ob _ _ _,h=>by obtain ⟨dx,vs,q,k,r⟩:=h;exact ⟨dx,vs,e _ q,k,r.mono g⟩
theorem Top.rep {a:Addr}:∀{x:PV},Top Hs H a x->Hs a=none->∃ o,H a=some o/\Rep (j9 Hs a o) x (.ref a)
 | .lst _,h,n=>by
  obtain ⟨vs,q,r⟩:=h;exact ⟨_,q,rep_lst.mpr ⟨a,vs,rfl,y4,r.mono λb u e=>by rw [v6 (k7 e n)];exact e⟩⟩
 | .dk _ _,h,n=>by
  obtain ⟨vs,q,k,r⟩:=h;exact ⟨_,q,rep_dk.mpr ⟨a,vs,rfl,y4,k,r.mono λb u e=>by rw [v6 (k7 e n)];exact e⟩⟩
 | .dn fl _ _,h,n=>by
  obtain ⟨as,vs,q,k,r⟩:=h;have g:Same Hs (j9 Hs a (.dT fl as vs)):=λb u e=>by rw [v6 (k7 e n)];exact e
  exact ⟨_,q,rep_dn.mpr ⟨a,as,vs,rfl,y4,⟨k.1,k.2.mono g⟩,r.mono g⟩⟩
 | .fn fl _ _,h,n=>by
  obtain ⟨o,as,vs,q,k,r⟩:=h;have g:Same Hs (j9 Hs a (.frz o (.dT fl as vs))):=λb u e=>by rw [v6 (k7 e n)];exact e
  exact ⟨_,q,rep_fn.mpr ⟨a,o,as,vs,rfl,y4,⟨k.1,k.2.mono g⟩,r.mono g⟩⟩
 | .ob _ _ _,h,n=>by
  obtain ⟨dx,vs,q,k,r⟩:=h;exact ⟨_,q,rep_ob.mpr ⟨a,dx,vs,rfl,y4,k,r.mono λb u e=>by rw [v6 (k7 e n)];exact e⟩⟩
theorem Ext.share {a:Addr}(x:Ext Hs H Hs' H')(h:H a=none)(n:Hs' a=none)(e:H' a=some o):Ext Hs H (j9 Hs' a o) H':=by
 refine ⟨λb u q=>?_,x.s2,λb u q=>?_,λb q z=>?_⟩
 ·rw [v6 (k7 (x.s1 _ _ q) n)];exact x.s1 _ _ q
 ·by_cases hb:b=a
  ·subst hb;rw [y4] at q;cases q;exact e
  ·rw [v6 hb] at q;exact x.s3 _ _ q
 ·have hb:b≠a:=λr=>q (by rw [r];exact h);rw [v6 hb];exact x.s4 b q z
def RepB (Hs H:Hp)(x:PV)(v:V):Prop:=Rep Hs x v∨∃ a,v = .ref a/\Hs a=none/\Top Hs H a x
theorem RepB.ext (e:Ext Hs H Hs' H')(h:RepB Hs H x v):RepB Hs' H' x v:=by
 rcases h with h|⟨a,rfl,n,t⟩
 ·exact .inl (h.mono e.s1)
 ·exact .inr ⟨a,rfl,e.s4 a t.there n,t.mono e.s1 λo q=>e.s2 _ _ q⟩
inductive MSlot where
 |no|sh (x:PV)|ow (x:PV)|bo (x:PV)
abbrev ME:=List MSlot
variable{ε:ME}
def Own (H0 Hs H:Hp)(a:Addr)(x:PV):Prop:=H0 a=none/\Hs a=none/\Top Hs H a x
structure RS (Hs0 H0 Hs H:Hp)(U:St)(ε:ME):Prop where
 ext:Ext Hs0 H0 Hs H
 sh:∀(i:Nat)(x:PV),ε[i]?=some (.sh x)->∃ v,U[i]?=some (some v)/\Rep Hs x v
 ow:∀(i:Nat)(x:PV),ε[i]?=some (.ow x)->∃ a,U[i]?=some (some (.ref a))/\Own H0 Hs H a x
 nd:∀(i j:Nat)(x y:PV)(a:Addr),ε[i]?=some (.ow x)->ε[j]?=some (.ow y)->U[i]?=some (some (.ref a))->U[j]?=some (some (.ref a))->i=j
 len:U.length=ε.length
 bo:∀(i:Nat)(x:PV),ε[i]?=some (.bo x)->∃ v,U[i]?=some (some v)/\(Rep Hs x v∨∃ a,v = .ref a/\H0 a≠none/\Hs a=none/\Top Hs H a x)
section
variable {Hs0 H0 Hs H Hs' H':Hp}{U:St}{ε:ME}
theorem RS.go (r:RS Hs0 H0 Hs H U ε)(e:Ext Hs H Hs' H'):RS Hs0 H0 Hs' H' U ε where
 ext:=r.ext.trans e
 sh:=λi x q=>by obtain ⟨v,a,b⟩:=r.sh i x q;exact ⟨v,a,b.mono e.s1⟩
 ow:=λi x q=>by
  obtain ⟨a,b,n0,n,t⟩:=r.ow i x q;exact ⟨a,b,n0,e.s4 a t.there n,t.mono e.s1 λo z=>e.s2 _ _ z⟩
 nd:=r.nd
 len:=r.len
 bo:=λi x q=>by
  obtain ⟨v,b,h|⟨a,rfl,n0,n,t⟩⟩:=r.bo i x q
  ·exact ⟨v,b,.inl (h.mono e.s1)⟩
  ·exact ⟨_,b,.inr ⟨a,rfl,n0,e.s4 a t.there n,t.mono e.s1 λo z=>e.s2 _ _ z⟩⟩
theorem RS.sub (r:RS Hs0 H0 Hs H U ε):Same Hs H:=r.ext.s3
theorem RS.rebase (r:RS Hs0 H0 Hs H U ε):RS Hs H0 Hs H U ε:=⟨⟨.refl _,r.ext.s2,r.ext.s3,λ_ _ z=>z⟩,r.sh,r.ow,r.nd,r.len,r.bo⟩
theorem Ext.unbase (r:Ext Hs0 H0 Hb H)(e:Ext Hb H0 Hs' H'):Ext Hs0 H0 Hs' H':=⟨r.s1.trans e.s1,e.s2,e.s3,λb h z=>e.s4 b h (r.s4 b h z)⟩
theorem RS.unbase {ε':ME}(r:Ext Hs0 H0 Hb H)(e:RS Hb H0 Hs' H' σ' ε'):RS Hs0 H0 Hs' H' σ' ε':=⟨r.unbase e.ext,e.sh,e.ow,e.nd,e.len,e.bo⟩
theorem RS.put (r:RS Hs0 H0 Hs H U ε){i:Nat}(h:Rep Hs x v):RS Hs0 H0 Hs H (U.set i (some v)) (ε.set i (.sh x)) where
 ext:=r.ext
 sh:=λj y q=>by
  rw [yD] at q ⊢;split at q
  ·rename_i hij;split at q
   ·rename_i hl;injection q with q;injection q with q;subst q;rw [if_pos hij,if_pos (by rw [r.len,hij];rw [hij] at hl;exact hl)];exact ⟨v,rfl,h⟩
   ·cases q
  ·rename_i hij;rw [if_neg hij];exact r.sh j y q
 ow:=λj y q=>by
  rw [yD] at q ⊢;split at q
  ·split at q<;>cases q
  ·rename_i hij;rw [if_neg hij];exact r.ow j y q
 nd:=λj k x y a h1 h2 h3 h4=>by
  rw [yD] at h1 h2 h3 h4;split at h1
  ·split at h1<;>cases h1
  ·rename_i hj;rw [if_neg hj] at h3;split at h2
   ·split at h2<;>cases h2
   ·rename_i hk;rw [if_neg hk] at h4;exact r.nd j k x y a h1 h2 h3 h4
 len:=by rw [yf,yf,r.len]
 bo:=λj y q=>by
  rw [yD] at q ⊢;split at q
  ·split at q<;>cases q
  ·rename_i hij;rw [if_neg hij];exact r.bo j y q
theorem RS.putO (r:RS Hs0 H0 Hs H U ε){i:Nat}{a:Addr}(h:Own H0 Hs H a x)(ne:∀(j:Nat)(y:PV),ε[j]?=some (.ow y)->U[j]?≠some (some (.ref a))):RS Hs0 H0 Hs H (U.set i (some (.ref a))) (ε.set i (.ow x)) where
 ext:=r.ext
 sh:=λj y q=>by
  rw [yD] at q ⊢;split at q
  ·split at q<;>cases q
  ·rename_i hij;rw [if_neg hij];exact r.sh j y q
 ow:=λj y q=>by
  rw [yD] at q ⊢;split at q
  ·rename_i hij;split at q
   ·rename_i hl;injection q with q;injection q with q;subst q;rw [if_pos hij,if_pos (by rw [r.len,hij];rw [hij] at hl;exact hl)];exact ⟨a,rfl,h⟩
   ·cases q
  ·rename_i hij;rw [if_neg hij];exact r.ow j y q
 nd:=λj k x' y b h1 h2 h3 h4=>by
  rw [yD] at h1 h2 h3 h4;split at h1
  ·rename_i hj;rw [if_pos hj] at h3;split at h1
   ·rename_i hl;rw [if_pos (by rw [r.len];exact hl)] at h3;injection h3 with h3;injection h3 with h3;injection h3 with h3;subst h3;split at h2
    ·rename_i hk;exact hj.symm.trans hk
    ·rename_i hk;rw [if_neg hk] at h4;exact absurd h4 (ne k y h2)
   ·cases h1
  ·rename_i hj;rw [if_neg hj] at h3;split at h2
   ·rename_i hk;rw [if_pos hk] at h4;split at h2
    ·rename_i hl;rw [if_pos (by rw [r.len];exact hl)] at h4;injection h4 with h4;injection h4 with h4;injection h4 with h4;subst h4;exact absurd h3 (ne j x' h1)
    ·cases h2
   ·rename_i hk;rw [if_neg hk] at h4;exact r.nd j k x' y b h1 h2 h3 h4
 len:=by rw [yf,yf,r.len]
 bo:=λj y q=>by
  rw [yD] at q ⊢;split at q
  ·split at q<;>cases q
  ·rename_i hij;rw [if_neg hij];exact r.bo j y q
theorem RS.change (r:RS Hs0 H0 Hs H U ε){i:Nat}{a:Addr}(hi:ε[i]?=some (.ow x))(ha:U[i]?=some (some (.ref a)))(t:Top Hs (j9 H a o) a y):RS Hs0 H0 Hs (j9 H a o) U (ε.set i (.ow y)):=by
 obtain ⟨b,hb,n0,n,tx⟩:=r.ow i x hi;rw [ha] at hb;injection hb with hb;injection hb with hb;injection hb with hb;subst hb;refine ⟨⟨r.ext.s1,λb u e=>?_,λb u e=>?_,r.ext.s4⟩,λj z q=>?_,λj z q=>?_,λj k z z' c h1 h2 h3 h4=>?_,by rw [yf,r.len],λj z q=>?_⟩
 ·rw [v6 (k7 e n0)];exact r.ext.s2 _ _ e
 ·rw [v6 (k7 e n)];exact r.ext.s3 _ _ e
 ·rw [yD] at q;split at q
  ·split at q<;>cases q
  ·exact r.sh j z q
 ·rw [yD] at q;split at q
  ·rename_i hij;split at q
   ·injection q with q;injection q with q;subst q;exact ⟨a,hij▸ha,n0,n,t⟩
   ·cases q
  ·rename_i hij;obtain ⟨c,hc,m0,m,tc⟩:=r.ow j z q;have hne:c≠a:=λe=>hij (r.nd i j x z a hi q ha (e▸hc));exact ⟨c,hc,m0,m,tc.mono (.refl _) λo' e=>by rw [v6 hne];exact e⟩
 ·have down:∀{m:Nat}{w:PV},(ε.set i (.ow y))[m]?=some (.ow w)->∃ w',ε[m]?=some (.ow w'):=by
   intro m w q;rw [yD] at q;split at q
   ·rename_i him;exact ⟨x,him▸hi⟩
   ·exact ⟨w,q⟩
  obtain ⟨w1,q1⟩:=down h1;obtain ⟨w2,q2⟩:=down h2;exact r.nd j k w1 w2 c q1 q2 h3 h4
 ·rw [yD] at q;split at q
  ·split at q<;>cases q
  ·obtain ⟨v,hv,h|⟨c,rfl,m0,m,tc⟩⟩:=r.bo j z q
   ·exact ⟨v,hv,.inl h⟩
   ·have hne:c≠a:=λe=>m0 (e▸n0);exact ⟨_,hv,.inr ⟨c,rfl,m0,m,tc.mono (.refl _) λo' e=>by rw [v6 hne];exact e⟩⟩
def fz (i:Nat)(ε:ME):ME:=match ε[i]? with
 |some (.ow x)=>ε.set i (.sh x)
 |_=>ε
end
theorem wz {j:Nat}{s:MSlot}(h:∀(i:Nat)(x:PV),ε[i]?≠some (.bo x))(hs:∀ x,s ≠ .bo x):∀(i:Nat)(x:PV),(ε.set j s)[i]?≠some (.bo x):=λi x q=>by
 rw [yD] at q;split at q
 ·split at q
  ·injection q with q;exact hs x q
  ·cases q
 ·exact h i x q
abbrev M:=ME->Option PV
variable{a b:M}
abbrev MB:=ME->Option Bool
variable{c:MB}
abbrev MA:=ME->Option (List PV)
variable{as f:MA}
class SemE (te:TE)(f:M):Prop where
 h:∀{ε y},f ε=some y->∀{Hs0 H0 Hs H U},RS Hs0 H0 Hs H U ε->∀{Q:VK},(∀ v Hs' H',Ext Hs H Hs' H'->Rep Hs' y v->Q v H')->te U H Q
class n8 (te:TE)(f:M):Prop where
 h:∀{ε y},f ε=some y->∀{Hs0 H0 Hs H U},RS Hs0 H0 Hs H U ε->∀{Q:VK},(∀ v Hs' H',Ext Hs H Hs' H'->RepB Hs' H' y v->Q v H')->te U H Q
class xn (te:TE)(f:M):Prop where
 h:∀{ε y},f ε=some y->∀{Hs0 H0 Hs H U},RS Hs0 H0 Hs H U ε->∀{Q:VK},(∀ a Hs' H',Ext Hs H Hs' H'->H a=none->Hs' a=none->Top Hs' H' a y->Q (.ref a) H')->te U H Q
class qP (tt:TT)(f:MB):Prop where
 h:∀{ε y},f ε=some y->∀{Hs0 H0 Hs H U},RS Hs0 H0 Hs H U ε->∀{Q:Bool->Hp->Prop},(∀ Hs' H',Ext Hs H Hs' H'->Q y H')->tt U H Q
class qO (ta:TA)(f:MA):Prop where
 h:∀{ε ys},f ε=some ys->∀{Hs0 H0 Hs H U},RS Hs0 H0 Hs H U ε->∀{Q:List V->Hp->Prop},(∀ vs Hs' H',Ext Hs H Hs' H'->Reps Hs' ys vs->Q vs H')->ta U H Q
def vS (Hs H:Hp):List PV->List V->Prop
 |[],vs=>vs=[]
 |x::xs,vs=>∃ v r,vs=v::r/\RepB Hs H x v/\vS Hs H xs r
class wY (ta:TA)(f:MA):Prop where
 h:∀{ε ys},f ε=some ys->∀{Hs0 H0 Hs H U},RS Hs0 H0 Hs H U ε->∀{Q:List V->Hp->Prop},(∀ vs Hs' H',Ext Hs H Hs' H'->vS Hs' H' ys vs->Q vs H')->ta U H Q
class xw (r:R2)(g:PV->PV->Option PV):Prop where
 h:∀{x y z},g x y=some z->∀{Hs H:Hp}{v w:V},Same Hs H->RepB Hs H x v->RepB Hs H y w->∀{Q:VK},(∀ u Hs' H',Ext Hs H Hs' H'->Rep Hs' z u->Q u H')->r v w H Q
instance (priority:=50) semE_O {f:M}[s:xn te f]:SemE te f where
 h:=λe _ _ _ _ _ r _ q=>s.h e r λa Hs' H' x h n t=>by
  obtain ⟨o,ho,hr⟩:=t.rep n;exact q _ _ _ (x.share h n ho) hr
instance (priority:=50) semB_E {f:M}[s:SemE te f]:n8 te f where
 h:=λe _ _ _ _ _ r _ q=>s.h e r λv Hs' H' x h=>q v Hs' H' x (.inl h)
def q9 (i:Nat):M:=λε=>match ε[i]? with
 |some (.sh x)=>some x
 |_=>none
def x6 (i:Nat):M:=λε=>match ε[i]? with
 |some (.sh x)=>some x
 |some (.ow x)=>some x
 |some (.bo x)=>some x
 |_=>none
def dC (v:V):M:=λ_=>some (.at v)
instance {i:Nat}:SemE (xt i) (q9 i) where
 h:=λ{ε y} e {_ _ _ _ _} r {_} q=>by
  unfold q9 at e;split at e
  ·rename_i x hx;cases e;obtain ⟨v,h1,h2⟩:=r.sh i _ hx;exact ⟨v,h1,q v _ _ (.refl r.sub) h2⟩
  ·cases e
instance {i:Nat}:n8 (xt i) (x6 i) where
 h:=λ{ε y} e {_ _ _ _ _} r {_} q=>by
  unfold x6 at e;split at e
  ·rename_i x hx;cases e;obtain ⟨v,h1,h2⟩:=r.sh i _ hx;exact ⟨v,h1,q v _ _ (.refl r.sub) (.inl h2)⟩
  ·rename_i x hx;cases e;obtain ⟨a,h1,_,n,t⟩:=r.ow i _ hx;exact ⟨_,h1,q _ _ _ (.refl r.sub) (.inr ⟨a,rfl,n,t⟩)⟩
  ·rename_i x hx;cases e;obtain ⟨v,h1,h2|⟨a,rfl,_,n,t⟩⟩:=r.bo i _ hx
   ·exact ⟨v,h1,q v _ _ (.refl r.sub) (.inl h2)⟩
   ·exact ⟨_,h1,q _ _ _ (.refl r.sub) (.inr ⟨a,rfl,n,t⟩)⟩
  ·cases e
instance :SemE (tC v) (dC v) where
 h:=λe _ _ _ _ _ r _ q=>by cases e;exact q v _ _ (.refl r.sub) (rep_at.mpr rfl)
def z6 (g:PV->PV->Option PV)(a b:M):M:=λε=>(a ε).bind λx=>(b ε).bind λy=>g x y
theorem bind_some {α β:Type}{o:Option α}{f:α->Option β}{y:β}(h:o.bind f=some y):∃ x,o=some x/\f x=some y:=by
 cases o with
 |none=>cases h
 |some x=>exact ⟨x,rfl,h⟩
instance {g:PV->PV->Option PV}{ta:TE}[sr:xw r g][sa:n8 ta a][sb:n8 tb b]:SemE (tOp r ta tb) (z6 g a b) where
 h:=λe _ _ _ _ _ rs _ q=>by
  obtain ⟨x,ex,e⟩:=bind_some e;obtain ⟨y,ey,e⟩:=bind_some e;exact sa.h ex rs λv Hs1 H1 x1 r1=>sb.h ey (rs.go x1) λw Hs2 H2 x2 r2=>sr.h e x2.s3 (r1.ext x2) r2 λu Hs3 H3 x3 r3=>q u _ _ (x1.trans (x2.trans x3)) r3
def x0:MA:=λ_=>some []
def q8 (a:M)(r:MA):MA:=λε=>(a ε).bind λx=>(r ε).bind λxs=>some (x::xs)
instance:qO qM x0 where
 h:=λe _ _ _ _ _ r _ q=>by cases e;exact q [] _ _ (.refl r.sub) .nil
instance [sa:SemE te a][sr:qO ta f]:qO (qv te ta) (q8 a f) where
 h:=λe _ _ _ _ _ rs _ q=>by
  obtain ⟨x,ex,e⟩:=bind_some e;obtain ⟨xs,ey,e⟩:=bind_some e;cases e;exact sa.h ex rs λv Hs1 H1 x1 r1=>sr.h ey (rs.go x1) λvs Hs2 H2 x2 r2=>q _ _ _ (x1.trans x2) (.cons (r1.mono x2.s1) r2)
instance:wY qM x0 where
 h:=λe _ _ _ _ _ r _ q=>by cases e;exact q [] _ _ (.refl r.sub) rfl
instance [sa:n8 te a][sr:wY ta f]:wY (qv te ta) (q8 a f) where
 h:=λe _ _ _ _ _ rs _ q=>by
  obtain ⟨x,ex,e⟩:=bind_some e;obtain ⟨xs,ey,e⟩:=bind_some e;cases e;exact sa.h ex rs λv Hs1 H1 x1 r1=>sr.h ey (rs.go x1) λvs Hs2 H2 x2 r2=>q _ _ _ (x1.trans x2) ⟨_,_,rfl,r1.ext x2,r2⟩
def lim:Nat:=1000000
theorem xy (h:n<=lim):n<=sizeLine:=yr h (by rw [sizeLine_eq];decide)
theorem JG (h:n<=lim):n<sizeLine:=uy h (by rw [sizeLine_eq];decide)
def qR (a:MA):M:=λε=>(a ε).bind λxs=>if xs.length<=lim then some (.tup xs) else none
def n9 (a:MA):M:=λε=>(a ε).bind λxs=>if xs.length<=lim then some (.lst xs) else none
instance [sa:qO ta f]:SemE (tTup ta) (qR f) where
 h:=λe _ _ _ _ _ rs _ q=>by
  obtain ⟨xs,ex,e⟩:=bind_some e;split at e
  ·rename_i hl;cases e;exact sa.h ex rs λvs Hs1 H1 x1 r1=>⟨xy (r1.length▸hl),λp hp=>q _ _ _ (x1.trans (.new x1.s3 hp)) (rep_tup.mpr ⟨p,vs,rfl,y4,r1.mono (Ext.new x1.s3 hp).s1⟩)⟩
  ·cases e
instance [sa:qO ta f]:xn (tLst ta) (n9 f) where
 h:=λe _ _ _ _ _ rs _ q=>by
  obtain ⟨xs,ex,e⟩:=bind_some e;split at e
  ·rename_i hl;cases e;exact sa.h ex rs λvs Hs1 H1 x1 r1=>⟨xy (r1.length▸hl),λp hp=>q _ _ _ (x1.trans (.newO x1.s3 hp)) (x1.s2.free hp) (x1.s3.free hp) ⟨vs,y4,r1⟩⟩
  ·cases e
theorem u8 (h:RepB Hs H (.at u) v):v=u:=by
 rcases h with h|⟨a,_,_,t⟩
 ·exact rep_at.mp h
 ·exact t.elim
theorem qc (s:Same Hs H)(h:RepB Hs H (.lst xs) v):∃ a vs,v = .ref a/\H a=some (.lst vs)/\Reps Hs xs vs:=by
 rcases h with h|⟨a,rfl,_,vs,e,r⟩
 ·obtain ⟨a,vs,rfl,e,r⟩:=rep_lst.mp h;exact ⟨a,vs,rfl,s _ _ e,r⟩
 ·exact ⟨a,vs,rfl,e,r⟩
theorem xl (s:Same Hs H)(h:RepB Hs H (.tup xs) v):∃ a vs,v = .ref a/\H a=some (.tup vs)/\Reps Hs xs vs:=by
 rcases h with h|⟨a,rfl,_,t⟩
 ·obtain ⟨a,vs,rfl,e,r⟩:=rep_tup.mp h;exact ⟨a,vs,rfl,s _ _ e,r⟩
 ·exact t.elim
theorem QQ {ks:List v9}(s:Same Hs H)(h:RepB Hs H (.fk ks xs) v):∃ a o kvs,v = .ref a/\H a=some (.frz o (.dK kvs))/\kvs.map (·.1)=ks/\Reps Hs xs (kvs.map (·.2)):=by
 rcases h with h|⟨a,rfl,n,t⟩
 ·obtain ⟨a,o,kvs,rfl,e,k,r⟩:=rep_fk.mp h;exact ⟨a,o,kvs,rfl,s _ _ e,k,r⟩
 ·exact t.elim
theorem jK {ks:List v9}(s:Same Hs H)(h:RepB Hs H (.dk ks xs) v):∃ a kvs,v = .ref a/\H a=some (.dK kvs)/\kvs.map (·.1)=ks/\Reps Hs xs (kvs.map (·.2)):=by
 rcases h with h|⟨a,rfl,_,kvs,e,k,r⟩
 ·obtain ⟨a,kvs,rfl,e,k,r⟩:=rep_dk.mp h;exact ⟨a,kvs,rfl,s _ _ e,k,r⟩
 ·exact ⟨a,kvs,rfl,e,k,r⟩
theorem Hv (s:Same Hs H)(h:RepB Hs H (.dn fl ks xs) v):∃ a as kvs,v = .ref a/\H a=some (.dT fl as kvs)/\(kvs.map (·.1)=ks/\KAs fl Hs as ks)/\Reps Hs xs (kvs.map (·.2)):=by
 rcases h with h|⟨a,rfl,_,as,kvs,e,k,r⟩
 ·obtain ⟨a,as,kvs,rfl,e,k,r⟩:=rep_dn.mp h;exact ⟨a,as,kvs,rfl,s _ _ e,k,r⟩
 ·exact ⟨a,as,kvs,rfl,e,k,r⟩
theorem Hw (s:Same Hs H)(h:RepB Hs H (.fn fl ks xs) v):∃ a o as kvs,v = .ref a/\H a=some (.frz o (.dT fl as kvs))/\(kvs.map (·.1)=ks/\KAs fl Hs as ks)/\Reps Hs xs (kvs.map (·.2)):=by
 rcases h with h|⟨a,rfl,_,o,as,kvs,e,k,r⟩
 ·obtain ⟨a,o,as,kvs,rfl,e,k,r⟩:=rep_fn.mp h;exact ⟨a,o,as,kvs,rfl,s _ _ e,k,r⟩
 ·exact ⟨a,o,as,kvs,rfl,e,k,r⟩
theorem Vm (s:Same Hs H)(h:RepB Hs H (.ob C ns xs) v):∃ a dx fs,v = .ref a/\H a=some (.ins C dx fs)/\fs.map (·.1)=ns/\Reps Hs xs (fs.map (·.2)):=by
 rcases h with h|⟨a,rfl,_,dx,fs,e,k,r⟩
 ·obtain ⟨a,dx,fs,rfl,e,k,r⟩:=rep_ob.mp h;exact ⟨a,dx,fs,rfl,s _ _ e,k,r⟩
 ·exact ⟨a,dx,fs,rfl,e,k,r⟩
def pI (g:Int->Int->Option V):PV->PV->Option PV
 | .at (.int i),.at (.int j)=>(g i j).map .at
 |_,_=>none
theorem GU {g:Int->Int->Option V}{z:PV}(h:pI g x y=some z):∃ i j u,x = .at (.int i)/\y = .at (.int j)/\g i j=some u/\z = .at u:=by
 unfold pI at h;split at h
 ·rename_i i j;obtain ⟨u,e,rfl⟩:=yF.mp h;exact ⟨i,j,u,rfl,rfl,e,rfl⟩
 ·cases h
instance {g:Int->Int->V}:xw (rI0 g) (pI λi j=>some (g i j)) where
 h:=λe _ _ _ _ s a b _ q=>by
  obtain ⟨i,j,u,rfl,rfl,e,rfl⟩:=GU e;cases e;exact ⟨i,j,u8 a,u8 b,q _ _ _ (.refl s) (rep_at.mpr rfl)⟩
instance {C:Int->Int->Prop}[d:∀ i j,Decidable (C i j)]{g:Int->Int->V}:xw (rI C g) (pI λi j=>if C i j then some (g i j) else none) where
 h:=λe _ _ _ _ s a b _ q=>by
  obtain ⟨i,j,u,rfl,rfl,e',rfl⟩:=GU e;split at e'
  ·rename_i hc;cases e';exact ⟨i,j,u8 a,u8 b,hc,q _ _ _ (.refl s) (rep_at.mpr rfl)⟩
  ·cases e'
def y6:PV->PV->Option PV
 | .lst xs,.at (.int i)=>atI xs i
 | .tup xs,.at (.int i)=>atI xs i
 | .at (.str z),.at (.int i)=>if z.length<=lim then (L2.atI z.cps.toList i).map λc=> .at (.str ⟨#[c]⟩) else none
 |_,_=>none
theorem Reps.atI {i:Int}(r:Reps H xs vs)(h:atI xs i=some x):∃ v,L2.atI vs i=some v/\Rep H x v:=by unfold L2.atI at h ⊢;rw [r.length];obtain ⟨j,ej,e⟩:=bind_some h;rw [ej];exact r.get e
instance :xw (rIx K) y6 where
 h:=λ{x y z} e {Hs H v w} s a b {Q} q=>by
  unfold y6 at e;split at e
  ·obtain ⟨p,vs,rfl,e1,r1⟩:=qc s a;obtain ⟨u,hu,r⟩:=r1.atI e;exact .inl ⟨p,vs,_,u,rfl,u8 b,SqL.of e1,hu,q _ _ _ (.refl s) r⟩
  ·obtain ⟨p,vs,rfl,e1,r1⟩:=xl s a;obtain ⟨u,hu,r⟩:=r1.atI e;exact .inr (.inl ⟨p,vs,_,u,rfl,u8 b,SqT.of e1,hu,q _ _ _ (.refl s) r⟩)
  ·split at e
   ·rename_i hz;obtain ⟨c,hc,rfl⟩:=yF.mp e;exact .inr (.inr ⟨_,_,c,u8 a,u8 b,xy hz,hc,q _ _ _ (.refl s) (rep_at.mpr rfl)⟩)
   ·cases e
  ·cases e
def ats:List PV->Option (List V)
 |[]=>some []
 | .at u::xs=>(ats xs).map (u::·)
 |_::_=>none
theorem ZW:∀{xs:List PV}{us:List V},ats xs=some us->xs=us.map .at
 |[],_,h=>by cases h;rfl
 | .at u::xs,us,h=>by
  unfold ats at h;obtain ⟨r,e,rfl⟩:=yF.mp h;rw [yT,ZW e]
 | .tup _::_,_,h=>by cases h
 | .lst _::_,_,h=>by cases h
 | .dk _ _::_,_,h=>by cases h
 | .dn _ _ _::_,_,h=>by cases h
 | .fn _ _ _::_,_,h=>by cases h
 | .fk _ _::_,_,h=>by cases h
 | .ob _ _ _::_,_,h=>by cases h
 | .op _::_,_,h=>by cases h
def pIn (neg:Bool):PV->PV->Option PV
 | .at u,.lst xs=>(ats xs).bind λus=>if g0 u=true/\us.all g0=true then some (.at (.bl (if neg then !inV u us else inV u us))) else none
 | .at u,.tup xs=>(ats xs).bind λus=>if g0 u=true/\us.all g0=true then some (.at (.bl (if neg then !inV u us else inV u us))) else none
 |_,_=>none
instance {neg:Bool}:xw (rIn K neg) (pIn neg) where
 h:=λ{x y z} e {Hs H v w} s a b {Q} q=>by
  unfold pIn at e;split at e
  ·obtain ⟨us,e1,e⟩:=bind_some e;split at e
   ·rename_i hf;cases e;obtain ⟨p,vs,rfl,e2,r2⟩:=qc s b;rw [ZW e1] at r2;cases r2.ats;cases u8 a;exact ⟨p,_,rfl,.inl (SqL.of e2),hf.1,hf.2,q _ _ _ (.refl s) (rep_at.mpr rfl)⟩
   ·cases e
  ·obtain ⟨us,e1,e⟩:=bind_some e;split at e
   ·rename_i hf;cases e;obtain ⟨p,vs,rfl,e2,r2⟩:=xl s b;rw [ZW e1] at r2;cases r2.ats;cases u8 a;exact ⟨p,_,rfl,.inr (SqT.of e2),hf.1,hf.2,q _ _ _ (.refl s) (rep_at.mpr rfl)⟩
   ·cases e
  ·cases e
class SemU (r:V->Hp->VK->Prop)(g:PV->Option PV):Prop where
 h:∀{x z},g x=some z->∀{Hs H:Hp}{v:V},Same Hs H->RepB Hs H x v->∀{Q:VK},(∀ u Hs' H',Ext Hs H Hs' H'->Rep Hs' z u->Q u H')->r v H Q
def dUn (g:PV->Option PV)(a:M):M:=λε=>(a ε).bind g
instance {r:V->Hp->VK->Prop}{g:PV->Option PV}{ta:TE}[sr:SemU r g][sa:n8 ta a]:SemE (tUn r ta) (dUn g a) where
 h:=λe _ _ _ _ _ rs _ q=>by
  obtain ⟨x,ex,e⟩:=bind_some e;exact sa.h ex rs λv Hs1 H1 x1 r1=>sr.h e x1.s3 r1 λu Hs3 H3 x3 r3=>q u _ _ (x1.trans x3) r3
def pU (g:Int->V):PV->Option PV
 | .at (.int i)=>some (.at (g i))
 |_=>none
instance {g:Int->V}:SemU (rU g) (pU g) where
 h:=λ{x z} e {_ _ _} s a {_} q=>by
  unfold pU at e;split at e
  ·cases e;exact ⟨_,u8 a,q _ _ _ (.refl s) (rep_at.mpr rfl)⟩
  ·cases e
def pB:PV->Option Bool
 | .at (.bl b)=>some b
 |_=>none
theorem vB {b:Bool}(h:pB x=some b):x = .at (.bl b):=by
 unfold pB at h;split at h
 ·cases h;rfl
 ·cases h
def dT (a:M):MB:=λε=>(a ε).bind pB
instance [sa:n8 te a]:qP (ZL te) (dT a) where
 h:=λe _ _ _ _ _ rs _ q=>by
  obtain ⟨x,ex,e⟩:=bind_some e;cases vB e;exact sa.h ex rs λv Hs1 H1 x1 r1=>⟨_,u8 r1,q _ _ x1⟩
instance [sa:n8 te a]:qP (tB te) (dT a) where
 h:=λe _ _ _ _ _ rs _ q=>by
  obtain ⟨x,ex,e⟩:=bind_some e;cases vB e;exact sa.h ex rs λv Hs1 H1 x1 r1=>⟨_,u8 r1,q _ _ x1⟩
def tTru (K:Fg)(ta:TE):TT:=λU H Q=>ta U H λx H'=>∃ k,TruV K x H' k/\Q k H'
def pTru:PV->Option Bool
 | .at .non=>some false
 | .at (.bl b)=>some b
 | .at (.int i)=>some (i != 0)
 | .at (.str y)=>if y.length<=lim then some ((y.length:Int) != 0) else none
 | .lst xs=>some (!xs.isEmpty)
 | .tup xs=>some (!xs.isEmpty)
 | .dk ks _=>some (!ks.isEmpty)
 |_=>none
def r9 (a:M):MB:=λε=>(a ε).bind pTru
theorem Reps.isEmpty (r:Reps H xs vs):vs.isEmpty=xs.isEmpty:=by have:=r.length;cases xs<;>cases vs<;>first|rfl|(simp at this)
instance [sa:n8 te a]:qP (tTru K te) (r9 a) where
 h:=λe _ _ _ _ _ rs _ q=>by
  obtain ⟨x,ex,e⟩:=bind_some e;refine sa.h ex rs λv Hs1 H1 x1 r1=>?_;unfold pTru at e;split at e
  ·cases e;cases u8 r1;exact ⟨_,rfl,q _ _ x1⟩
  ·cases e;cases u8 r1;exact ⟨_,rfl,q _ _ x1⟩
  ·cases e;cases u8 r1;exact ⟨_,rfl,q _ _ x1⟩
  ·split at e
   ·rename_i hl;cases e;cases u8 r1;exact ⟨_,⟨xy hl,rfl⟩,q _ _ x1⟩
   ·cases e
  ·cases e;obtain ⟨p,vs,rfl,e1,r2⟩:=qc x1.s3 r1;exact ⟨_,.inl ⟨vs,SqL.of e1,by rw [r2.isEmpty]⟩,q _ _ x1⟩
  ·cases e;obtain ⟨p,vs,rfl,e1,r2⟩:=xl x1.s3 r1;exact ⟨_,.inr (.inl ⟨vs,SqT.of e1,by rw [r2.isEmpty]⟩),q _ _ x1⟩
  ·cases e;obtain ⟨p,kvs,rfl,e1,k,r2⟩:=jK x1.s3 r1;refine ⟨_,.inr (.inr ⟨kvs,e1,?_⟩),q _ _ x1⟩;rw [<- k];cases kvs<;>rfl
  ·cases e
def Qb (a b:MB):MB:=λε=>(a ε).bind λc=>if c=true then b ε else some false
def qE (a b:MB):MB:=λε=>(a ε).bind λc=>if c=true then some true else b ε
def c9 (a:MB):MB:=λε=>(a ε).bind λc=>some (!c)
instance {u:TT}{a b:MB}[sa:qP t a][sb:qP u b]:qP (tAnd t u) (Qb a b) where
 h:=λe _ _ _ _ _ rs _ q=>by
  obtain ⟨c,ex,e⟩:=bind_some e;refine sa.h ex rs λHs1 H1 x1=>?_;cases c with
  |true=>exact xg (sb.h e (rs.go x1) λHs2 H2 x2=>q _ _ (x1.trans x2))
  |false=>cases e;exact qT (q _ _ x1)
instance {u:TT}{a b:MB}[sa:qP t a][sb:qP u b]:qP (tOr t u) (qE a b) where
 h:=λe _ _ _ _ _ rs _ q=>by
  obtain ⟨c,ex,e⟩:=bind_some e;refine sa.h ex rs λHs1 H1 x1=>?_;cases c with
  |true=>cases e;exact xg (q _ _ x1)
  |false=>exact qT (sb.h e (rs.go x1) λHs2 H2 x2=>q _ _ (x1.trans x2))
instance {a:MB}[sa:qP t a]:qP (tNot t) (c9 a) where
 h:=λe _ _ _ _ _ rs _ q=>by
  obtain ⟨c,ex,e⟩:=bind_some e;cases e;exact sa.h ex rs λHs1 H1 x1=>q _ _ x1
def zf (a b:M):M:=λε=>(a ε).bind λx=>(pB x).bind λc=>if c=true then b ε else some (.at (.bl false))
def jZ (a b:M):M:=λε=>(a ε).bind λx=>(pB x).bind λc=>if c=true then some (.at (.bl true)) else b ε
def wb (a:M):M:=λε=>(a ε).bind λx=>(pB x).bind λc=>some (.at (.bl (!c)))
instance {t u:TE}[sa:SemE t a][sb:SemE u b]:SemE (Bx t u) (zf a b) where
 h:=λe _ _ _ _ _ rs _ q=>by
  obtain ⟨x,ex,e⟩:=bind_some e;obtain ⟨c,ec,e⟩:=bind_some e;cases vB ec;refine sa.h ex rs λv Hs1 H1 x1 r1=>⟨c,rep_at.mp r1,?_⟩;cases c with
  |true=>exact xg (sb.h e (rs.go x1) λw Hs2 H2 x2 r2=>q _ _ _ (x1.trans x2) r2)
  |false=>cases e;exact qT (q _ _ _ x1 (rep_at.mpr rfl))
instance {t u:TE}[sa:SemE t a][sb:SemE u b]:SemE (tOrV t u) (jZ a b) where
 h:=λe _ _ _ _ _ rs _ q=>by
  obtain ⟨x,ex,e⟩:=bind_some e;obtain ⟨c,ec,e⟩:=bind_some e;cases vB ec;refine sa.h ex rs λv Hs1 H1 x1 r1=>⟨c,rep_at.mp r1,?_⟩;cases c with
  |true=>cases e;exact xg (q _ _ _ x1 (rep_at.mpr rfl))
  |false=>exact qT (sb.h e (rs.go x1) λw Hs2 H2 x2 r2=>q _ _ _ (x1.trans x2) r2)
instance {t:TE}[sa:n8 t a]:SemE (BE t) (wb a) where
 h:=λe _ _ _ _ _ rs _ q=>by
  obtain ⟨x,ex,e⟩:=bind_some e;obtain ⟨c,ec,e⟩:=bind_some e;cases vB ec;cases e;exact sa.h ex rs λv Hs1 H1 x1 r1=>⟨c,u8 r1,q _ _ _ x1 (rep_at.mpr rfl)⟩
def dIf (c:MB)(a b:M):M:=λε=>(c ε).bind λk=>if k=true then a ε else b ε
instance {ta:TE}[sc:qP t c][sa:SemE ta a][sb:SemE tb b]:SemE (tIf t ta tb) (dIf c a b) where
 h:=λe _ _ _ _ _ rs _ q=>by
  obtain ⟨k,ex,e⟩:=bind_some e;refine sc.h ex rs λHs1 H1 x1=>?_;cases k with
  |true=>exact xg (sa.h e (rs.go x1) λw Hs2 H2 x2 r2=>q _ _ _ (x1.trans x2) r2)
  |false=>exact qT (sb.h e (rs.go x1) λw Hs2 H2 x2 r2=>q _ _ _ (x1.trans x2) r2)
def zg (g g':PV->PV->Option PV)(a b c:M):M:=λε=>(a ε).bind λx=>(b ε).bind λy=>(g x y).bind λz=>(pB z).bind λk=>if k=true then (c ε).bind λw=>g' y w else some (.at (.bl false))
instance {r':R2}{g g':PV->PV->Option PV}{ta tc:TE}{c:M}[sr:xw r g][sr':xw r' g'][sa:n8 ta a][sb:n8 tb b][sc:n8 tc c]:SemE (WD r r' ta tb tc) (zg g g' a b c) where
 h:=λe _ _ _ _ _ rs _ q=>by
  obtain ⟨x,ex,e1⟩:=bind_some e;obtain ⟨y,ey,e2⟩:=bind_some e1;obtain ⟨z,ez,e3⟩:=bind_some e2;obtain ⟨k,ek,e4⟩:=bind_some e3;have ez':=vB ek;subst ez';refine sa.h ex rs λv Hs1 H1 x1 r1=>sb.h ey (rs.go x1) λw Hs2 H2 x2 r2=>sr.h ez x2.s3 (r1.ext x2) r2 λu Hs3 H3 x3 r3=>⟨k,rep_at.mp r3,?_⟩;cases k with
  |true=>obtain ⟨w',ew,e5⟩:=bind_some e4;exact xg (sc.h ew (((rs.go x1).go x2).go x3) λu' Hs4 H4 x4 r4=>sr'.h e5 x4.s3 ((r2.ext x3).ext x4) r4 λu'' Hs5 H5 x5 r5=>q _ _ _ (x1.trans (x2.trans (x3.trans (x4.trans x5)))) r5)
  |false=>cases e4;exact qT (q _ _ _ (x1.trans (x2.trans x3)) (rep_at.mpr rfl))
def v8 (m:List PV->Option PV):Sp:=λvs H Q _=>∃ Hs xs y,Same Hs H/\Reps Hs xs vs/\m xs=some y/\∀ v Hs' H',Ext Hs H Hs' H'->Rep Hs' y v->Q v H'
def i8 (m:List PV->Option PV):Sp:=λvs H Q _=>∃ Hs xs y,Same Hs H/\Reps Hs xs vs/\m xs=some y/\∀ a Hs' H',Ext Hs H Hs' H'->H a=none->Hs' a=none->Top Hs' H' a y->Q (.ref a) H'
def x9 (m:List PV->Option PV)(as:MA):M:=λε=>(as ε).bind m
instance [sa:qO ta as]:SemE (xL (v8 m) [] E ta) (x9 m as) where
 h:=λe _ _ _ _ _ rs _ q=>by
  obtain ⟨xs,ex,e1⟩:=bind_some e;refine sa.h ex rs λvs Hs1 H1 x1 r1=>⟨Hs1,xs,_,x1.s3,by rw [yA];exact r1,e1,λv Hs' H' x r=>q v _ _ (x1.trans x) r⟩
instance [sa:qO ta as]:xn (xL (i8 m) [] E ta) (x9 m as) where
 h:=λe _ _ _ _ _ rs _ q=>by
  obtain ⟨xs,ex,e1⟩:=bind_some e;refine sa.h ex rs λvs Hs1 H1 x1 r1=>⟨Hs1,xs,_,x1.s3,by rw [yA];exact r1,e1,λa Hs' H' x n n' r=>q a _ _ (x1.trans x) (x1.s2.free n) n' r⟩
def Jf (m:List PV->Option PV)(ds:List V)(as:MA):M:=λε=>(as ε).bind λxs=>m (xs++ds.map .at)
def qj (C:Addr)(nm:Str)(m:List PV->Option PV)(a:M)(as:MA):M:=λε=>(a ε).bind λx=>match x with
 | .ob C' ns fs=>if C'=C/\nm∉ns then (as ε).bind λxs=>m (x::xs) else none
 |_=>none
theorem Qt {fs:List (Str×V)}{f:Str}(h:f∉fs.map (·.1)):fs.lookup f=none:=by
 induction fs with
 |nil=>rfl
 |cons p r ih =>
  rw [yT] at h;rw [uY];have h1:(f==p.1)=false:=by rw [beq_eq_false_iff_ne];exact λe=>h (e▸yK)
  rw [h1];exact ih λz=>h (yN _ z)
theorem Xt (h:qj C nm m a as ε=some y):∃ ns fs xs,a ε=some (.ob C ns fs)/\nm∉ns/\as ε=some xs/\m (.ob C ns fs::xs)=some y:=by
 unfold qj at h;obtain ⟨x,ex,h1⟩:=bind_some h;split at h1
 ·rename_i C' ns fs;split at h1
  ·rename_i hc;obtain ⟨xs,e2,h2⟩:=bind_some h1;obtain ⟨rfl,hn⟩:=hc;exact ⟨ns,fs,xs,ex,hn,e2,h2⟩
  ·cases h1
 ·cases h1
instance [so:SemE te a][sa:qO ta as]:SemE (zJ C nm (v8 m) [] E te ta) (qj C nm m a as) where
 h:=λe _ _ _ _ _ rs _ q=>by
  obtain ⟨ns,fs,xs,ea,hn,e1,e2⟩:=Xt e;refine so.h ea rs λv Hs1 H1 x1 r1=>?_;obtain ⟨p,dx,gs,rfl,hp,hk,hr⟩:=rep_ob.mp r1;refine ⟨p,dx,gs,rfl,x1.s3 _ _ hp,Qt (by rw [hk];exact hn),sa.h e1 (rs.go x1) λvs Hs2 H2 x2 r2=>?_⟩;exact ⟨Hs2,_,_,x2.s3,by rw [yA];exact .cons (r1.mono x2.s1) r2,e2,λv Hs' H' x r=>q v _ _ (x1.trans (x2.trans x)) r⟩
instance [so:SemE te a][sa:qO ta as]:xn (zJ C nm (i8 m) [] E te ta) (qj C nm m a as) where
 h:=λe _ _ _ _ _ rs _ q=>by
  obtain ⟨ns,fs,xs,ea,hn,e1,e2⟩:=Xt e;refine so.h ea rs λv Hs1 H1 x1 r1=>?_;obtain ⟨p,dx,gs,rfl,hp,hk,hr⟩:=rep_ob.mp r1;refine ⟨p,dx,gs,rfl,x1.s3 _ _ hp,Qt (by rw [hk];exact hn),sa.h e1 (rs.go x1) λvs Hs2 H2 x2 r2=>?_⟩;exact ⟨Hs2,_,_,x2.s3,by rw [yA];exact .cons (r1.mono x2.s1) r2,e2,λv Hs' H' x n n' r=>q v _ _ (x1.trans (x2.trans x)) (x1.s2.free (x2.s2.free n)) n' r⟩
class zw (r:List V->Hp->VK->Prop)(g:List PV->Option PV):Prop where
 h:∀{xs z},g xs=some z->∀{Hs H:Hp}{vs:List V},Same Hs H->vS Hs H xs vs->∀{Q:VK},(∀ u Hs' H',Ext Hs H Hs' H'->Rep Hs' z u->Q u H')->r vs H Q
class Xk (r:List V->Hp->VK->Prop)(g:List PV->Option PV):Prop where
 h:∀{xs z},g xs=some z->∀{Hs H:Hp}{vs:List V},Same Hs H->vS Hs H xs vs->∀{Q:VK},(∀ a Hs' H',Ext Hs H Hs' H'->H a=none->Hs' a=none->Top Hs' H' a z->Q (.ref a) H')->r vs H Q
instance {r:List V->Hp->VK->Prop}{g:List PV->Option PV}[sr:zw r g][sa:wY ta as]:SemE (tCB r ta) (x9 g as) where
 h:=λe _ _ _ _ _ rs _ q=>by
  obtain ⟨xs,ex,e1⟩:=bind_some e;exact sa.h ex rs λvs Hs1 H1 x1 r1=>sr.h e1 x1.s3 r1 λv Hs' H' x r=>q v _ _ (x1.trans x) r
instance {r:List V->Hp->VK->Prop}{g:List PV->Option PV}[sr:Xk r g][sa:wY ta as]:xn (tCB r ta) (x9 g as) where
 h:=λe _ _ _ _ _ rs _ q=>by
  obtain ⟨xs,ex,e1⟩:=bind_some e;exact sa.h ex rs λvs Hs1 H1 x1 r1=>sr.h e1 x1.s3 r1 λv Hs' H' x n n' r=>q v _ _ (x1.trans x) (x1.s2.free n) n' r
theorem qW (h:vS Hs H [x] vs):∃ v,vs=[v]/\RepB Hs H x v:=by obtain ⟨v,r,rfl,a,b⟩:=h;cases (show r=[] from b);exact ⟨v,rfl,a⟩
theorem Vn (h:vS Hs H [x,y] vs):∃ v w,vs=[v,w]/\RepB Hs H x v/\RepB Hs H y w:=by obtain ⟨v,r,rfl,a,b⟩:=h;obtain ⟨w,rfl,c⟩:=qW b;exact ⟨v,w,rfl,a,c⟩
inductive Out where
 |nx (ε:ME)|rt (y:PV)|bk (ε:ME)|ct (ε:ME)
abbrev MS:=ME->Option Out
def OutK (fr:Bool)(Hs0 H0:Hp)(D:xD):Out->Prop
 | .nx ε=>∀ Hs H U,RS Hs0 H0 Hs H U ε->D.nx U H
 | .bk ε=>∀ Hs H U,RS Hs0 H0 Hs H U ε->D.bk U H
 | .ct ε=>∀ Hs H U,RS Hs0 H0 Hs H U ε->D.ct U H
 | .rt y=>match fr with
  |true=>∀ a Hs H,Ext Hs0 H0 Hs H->H0 a=none->Hs a=none->Top Hs H a y->D.rt (.ref a) H
  |false=>∀ v Hs H,Ext Hs0 H0 Hs H->Rep Hs y v->D.rt v H
class qh (fr:Bool)(ts:TS)(f:MS):Prop where
 h:∀{ε o},f ε=some o->∀{Hs0 H0 Hs H U},RS Hs0 H0 Hs H U ε->∀{D:xD},OutK fr Hs0 H0 D o->ts D U H
variable {fr:Bool}
def o7:MS:=λε=>some (.nx ε)
instance:qh fr WE o7 where
 h:=λe _ _ _ _ _ rs _ q=>by cases e;exact q _ _ _ rs
def y0 (a b:MS):MS:=λε=>(a ε).bind λo=>match o with
 | .nx ε'=>b ε'
 |o=>some o
instance {t u:TS}{a b:MS}[sa:qh fr t a][sb:qh fr u b]:qh fr (tSeq t u) (y0 a b) where
 h:=λe _ _ _ _ _ rs D q=>by
  obtain ⟨o,eo,e1⟩:=bind_some e;refine sa.h eo rs ?_;cases o with
  |nx ε'=>exact λHs H U r=>sb.h e1 r q
  |rt y=>cases e1;exact q
  |bk ε'=>cases e1;exact q
  |ct ε'=>cases e1;exact q
def zW (a:M):MS:=λε=>(a ε).bind λ_=>some (.nx ε)
instance (priority:=100)[sa:n8 te a]:qh fr (vO te) (zW a) where
 h:=λe _ _ _ _ _ rs _ q=>by
  obtain ⟨x,ex,e1⟩:=bind_some e;cases e1;exact sa.h ex rs λv Hs1 H1 x1 r1=>q _ _ _ (rs.go x1)
def u7 (a:M):MS:=λε=>(a ε).bind λx=>some (.rt x)
instance [sa:SemE te a]:qh false (tRet te) (u7 a) where
 h:=λe _ _ _ _ _ rs _ q=>by
  obtain ⟨x,ex,e1⟩:=bind_some e;cases e1;exact sa.h ex rs λv Hs1 H1 x1 r1=>q _ _ _ (rs.ext.trans x1) r1
instance [sa:xn te a]:qh true (tRet te) (u7 a) where
 h:=λe _ _ _ _ _ rs _ q=>by
  obtain ⟨x,ex,e1⟩:=bind_some e;cases e1;exact sa.h ex rs λv Hs1 H1 x1 n n' r1=>q _ _ _ (rs.ext.trans x1) (rs.ext.s2.free n) n' r1
def oVar (i:Nat):M:=λε=>match ε[i]? with
 |some (.ow x)=>some x
 |_=>none
def o3 (c:MB)(a b:MS):MS:=λε=>(c ε).bind λk=>if k=true then a ε else b ε
instance {ta tb:TS}{a b:MS}[sc:qP t c][sa:qh fr ta a][sb:qh fr tb b]:qh fr (tIfS t ta tb) (o3 c a b) where
 h:=λe _ _ _ _ _ rs _ q=>by
  obtain ⟨k,ex,e1⟩:=bind_some e;refine sc.h ex rs λHs1 H1 x1=>?_;cases k with
  |true=>exact xg (sa.h e1 (rs.go x1) q)
  |false=>exact qT (sb.h e1 (rs.go x1) q)
def xf:MS:=λ_=>none
instance:qh fr BC xf where
 h:=λe=>by cases e
abbrev MG:=PV->ME->Option ME
def But (ts:List Nat)(U σ':St):Prop:=σ'.length=U.length/\∀ j,j∉ts->σ'[j]?=U[j]?
theorem But.refl (U:St):But [] U U:=⟨rfl,λ_ _=>rfl⟩
theorem But.trans {a b:List Nat}{σ1 σ2:St}(x:But a U σ1)(y:But b σ1 σ2):But (a++b) U σ2 :=
 ⟨y.1.trans x.1,λj hj=>(y.2 j λz=>hj (ym.mpr (.inr z))).trans (x.2 j λz=>hj (ym.mpr (.inl z)))⟩
theorem But.wk (b:But ts U σ')(h:∀ i∈ts,U[i]?=some none):Wk U σ':=by refine ⟨b.1.symm,λi v e=>?_⟩;rw [b.2 i λz=>by rw [h i z] at e;cases e];exact e
class vT (tg:TG)(ts:outParam (List Nat))(g:MG):Prop where
 h:∀{x ε ε'},g x ε=some ε'->∀{Hs0 H0 Hs H U v},RS Hs0 H0 Hs H U ε->Rep Hs x v->∀{Q:St->Hp->Prop},(∀ σ',RS Hs0 H0 Hs H σ' ε'->But ts U σ'->Q σ' H)->tg v U H Q
class vU (tg:TGs)(ts:outParam (List Nat))(g:List PV->ME->Option ME):Prop where
 h:∀{xs ε ε'},g xs ε=some ε'->∀{Hs0 H0 Hs H U vs},RS Hs0 H0 Hs H U ε->Reps Hs xs vs->∀{Q:St->Hp->Prop},(∀ σ',RS Hs0 H0 Hs H σ' ε'->But ts U σ'->Q σ' H)->tg vs U H Q
def v7 (i:Nat):MG:=λx ε=>some (ε.set i (.sh x))
instance {i:Nat}:vT (xk i) [i] (v7 i) where
 h:=λe _ _ _ _ _ _ rs r _ q=>by
  cases e;exact q _ (rs.put r) ⟨yf,λj hj=>yk λz=>hj (by rw [<- z];exact yC.mpr rfl)⟩
def jb:List PV->ME->Option ME:=λxs ε=>match xs with
 |[]=>some ε
 |_=>none
def xh (g:MG)(r:List PV->ME->Option ME):List PV->ME->Option ME:=λxs ε=>match xs with
 |x::xs=>(g x ε).bind (r xs)
 |_=>none
instance:vU gNil [] jb where
 h:=λ{xs ε ε'} e {_ _ _ _ _ _} rs r {_} q=>by
  unfold jb at e;split at e
  ·cases e;exact ⟨reps_nil.mp r,q _ rs (.refl _)⟩
  ·cases e
instance Rn {t:TG}{u:TGs}{a b:List Nat}{g:MG}{r:List PV->ME->Option ME}[sg:vT t a g][sr:vU u b r]:vU (XF t u) (a++b) (xh g r) where
 h:=λ{xs ε ε'} e {_ _ _ _ _ _} rs rr {_} q=>by
  unfold xh at e;split at e
  ·obtain ⟨ε1,e1,e2⟩:=bind_some e;obtain ⟨v,w,rfl,r1,r2⟩:=reps_cons.mp rr;exact ⟨v,w,rfl,sg.h e1 rs r1 λσ1 rs1 b1=>sr.h e2 rs1 r2 λσ2 rs2 b2=>q _ rs2 (b1.trans b2)⟩
  ·cases e
instance (priority:=2000){i:Nat}{u:TGs}{b:List Nat}{r:List PV->ME->Option ME}[sr:vU u b r]:vU (XF (xk i) u) (i::b) (xh (v7 i) r) where
 h:=λe _ _ _ _ _ _ rs rr _ q=>(Rn (t:=xk i) (a:=[i]) (g:=v7 i)).h e rs rr q
def jc (n:Nat)(g:List PV->ME->Option ME):MG:=λx ε=>match x with
 | .tup xs=>if xs.length=n then g xs ε else none
 |_=>none
instance {t:TGs}{g:List PV->ME->Option ME}[sg:vU t ts g]:vT (gTup K n t) ts (jc n g) where
 h:=λ{x ε ε'} e {_ _ _ _ _ _} rs rr {_} q=>by
  unfold jc at e;split at e
  ·split at e
   ·rename_i hl;obtain ⟨a,vs,rfl,h,r⟩:=rep_tup.mp rr;exact ⟨a,vs,rfl,SqT.of (rs.sub _ _ h),by rw [r.length];exact hl,sg.h e rs r λσ' rs' b=>q _ rs' b⟩
   ·cases e
  ·cases e
def o6 (i:Nat)(a:M):MS:=λε=>(a ε).bind λx=>some (.nx (ε.set i (.sh x)))
def Qf (i:Nat)(a:M):MS:=λε=>(a ε).bind λx=>some (.nx (ε.set i (.ow x)))
instance {i:Nat}[sa:SemE te a]:qh fr (zr te (xk i)) (o6 i a) where
 h:=λe _ _ _ _ _ rs _ q=>by
  obtain ⟨x,ex,e1⟩:=bind_some e;cases e1;exact sa.h ex rs λv Hs1 H1 x1 r1=>q _ _ _ ((rs.go x1).put r1)
instance {i:Nat}[sa:xn te a]:qh fr (zr te (xk i)) (Qf i a) where
 h:=λe _ _ _ _ _ rs _ q=>by
  obtain ⟨x,ex,e1⟩:=bind_some e;cases e1;refine sa.h ex rs λp Hs1 H1 x1 n n' t=>q _ _ _ ((rs.go x1).putO ⟨rs.ext.s2.free n,n',t⟩ λj y hj z=>?_);obtain ⟨b,hb,_,_,tb⟩:=rs.ow j y hj;rw [z] at hb;injection hb with hb;injection hb with hb;injection hb with hb;subst hb;exact tb.there n
def pIp (g:Int->Int->Int):PV->PV->Option PV
 | .at (.int i),.at (.int j)=>some (.at (.int (g i j)))
 |_,_=>none
def Qc (i:Nat)(a:M):MS:=λε=>(a ε).bind λx=>match ε[i]? with
 |some (.ow (.lst xs))=>if xs.length<=lim then some (.nx (ε.set i (.ow (.lst (xs++[x]))))) else none
 |_=>none
instance {i:Nat}[sa:SemE te a]:qh fr (vO (tBM K "list" Vl (xt i) (qv te qM))) (Qc i a) where
 h:=λe _ _ _ _ _ rs _ q=>by
  obtain ⟨x,ex,e1⟩:=bind_some e;split at e1
  ·rename_i xs hi;split at e1
   ·rename_i hl;cases e1;obtain ⟨p,hp,n0,n,vs,hv,rv⟩:=rs.ow i _ hi;refine ⟨_,hp,.inl ⟨rfl,vs,SqL.of hv⟩,sa.h ex rs λv Hs1 H1 x1 r1=>?_⟩;have hv1:=x1.s2 _ _ hv;refine ⟨p,vs,v,rfl,rfl,hv1,JG (by rw [rv.length];exact hl),q _ _ _ ((rs.go x1).change hi hp ⟨_,y4,(rv.mono x1.s1).append (.one r1)⟩)⟩
   ·cases e1
  ·cases e1
def dExtend (i:Nat)(a:M):MS:=λε=>(a ε).bind λx=>match x with
 | .lst ys=>(match ε[i]? with
  |some (.ow (.lst xs))=>if xs.length+ys.length<=lim then some (.nx (ε.set i (.ow (.lst (xs++ys))))) else none
  |_=>none)
 |_=>none
structure jn (J:It)(xs:List PV)(Hs:Hp):Prop where
 go:∀(i:Nat)(x:PV)(Hs1 H1:Hp),xs[i]?=some x->Same Hs Hs1->Same Hs1 H1->J.go i H1/\∀ v H2,J.yld i H1 v H2->∃ Hs2,Ext Hs1 H1 Hs2 H2/\Rep Hs2 x v
 stop:∀(Hs1 H1:Hp),Same Hs Hs1->Same Hs1 H1->J.stop xs.length H1
class zd (ti:TI)(f:MA):Prop where
 h:∀{ε xs},f ε=some xs->∀{Hs0 H0 Hs H U},RS Hs0 H0 Hs H U ε->∀{R:It->Hp->Prop},(∀ J Hs' H',Ext Hs H Hs' H'->jn J xs Hs'->R J H')->ti U H R
def b7 (a:M):MA:=λε=>(a ε).bind λx=>match x with
 | .lst xs=>some xs
 |_=>none
def dItT (a:M):MA:=λε=>(a ε).bind λx=>match x with
 | .tup xs=>some xs
 |_=>none
theorem Gq {a:Addr}(h:Hs a=some (.lst vs))(r:Reps Hs xs vs):jn (Itl K a) xs Hs where
 go:=λi x Hs1 H1 e g1 g2=>by
  obtain ⟨v,ev,rv⟩:=r.get e;refine ⟨⟨vs,v,SqL.of (g2 _ _ (g1 _ _ h)),ev⟩,λw H2 y=>?_⟩;obtain ⟨rfl,y⟩:=y;have z:=y vs (SqL.of (g2 _ _ (g1 _ _ h)));rw [ev] at z;cases z;exact ⟨Hs1,.refl g2,rv.mono g1⟩
 stop:=λHs1 H1 g1 g2=>⟨vs,SqL.of (g2 _ _ (g1 _ _ h)),by rw [r.length];exact yY _⟩
theorem Gr {a:Addr}(h:Hs a=some (.tup vs))(r:Reps Hs xs vs):jn (Itt K a) xs Hs where
 go:=λi x Hs1 H1 e g1 g2=>by
  obtain ⟨v,ev,rv⟩:=r.get e;refine ⟨⟨vs,v,SqT.of (g2 _ _ (g1 _ _ h)),ev⟩,λw H2 y=>?_⟩;obtain ⟨rfl,y⟩:=y;have z:=y vs (SqT.of (g2 _ _ (g1 _ _ h)));rw [ev] at z;cases z;exact ⟨Hs1,.refl g2,rv.mono g1⟩
 stop:=λHs1 H1 g1 g2=>⟨vs,SqT.of (g2 _ _ (g1 _ _ h)),by rw [r.length];exact yY _⟩
instance [sa:SemE te a]:zd (XH K te) (b7 a) where
 h:=λe _ _ _ _ _ rs _ q=>by
  obtain ⟨x,ex,e1⟩:=bind_some e;split at e1
  ·cases e1;refine sa.h ex rs λv Hs1 H1 x1 r1=>?_;obtain ⟨p,vs,rfl,hp,r⟩:=rep_lst.mp r1;exact ⟨p,rfl,⟨vs,SqL.of (x1.s3 _ _ hp)⟩,q _ _ _ x1 (Gq hp r)⟩
  ·cases e1
instance [sa:SemE te a]:zd (iTup K te) (dItT a) where
 h:=λe _ _ _ _ _ rs _ q=>by
  obtain ⟨x,ex,e1⟩:=bind_some e;split at e1
  ·cases e1;refine sa.h ex rs λv Hs1 H1 x1 r1=>?_;obtain ⟨p,vs,rfl,hp,r⟩:=rep_tup.mp r1;exact ⟨p,rfl,⟨vs,SqT.of (x1.s3 _ _ hp)⟩,q _ _ _ x1 (Gr hp r)⟩
  ·cases e1
def qB (lo:Int)(n:Nat):List PV:=(List.range n).map λ(i:Nat)=> .at (.int (lo+i))
theorem jL :(qB lo n).length=n:=by unfold qB;rw [yZ,uC]
theorem KY {i:Nat}(h:(qB lo n)[i]?=some x):i<n/\x = .at (.int (lo+i)):=by
 have hl:i<n:=by have:=(yv.mp h).1;rw [jL] at this;exact this
 refine ⟨hl,?_⟩;unfold qB at h;rw [yM,List.getElem?_range hl] at h;cases h;rfl
theorem Jz :jn (Itr lo n) (qB lo n) Hs where
 go:=λi x Hs1 H1 e g1 g2=>by
  obtain ⟨hl,rfl⟩:=KY e;refine ⟨hl,λv H2 y=>?_⟩;obtain ⟨rfl,rfl⟩:=y;exact ⟨Hs1,.refl g2,rep_at.mpr rfl⟩
 stop:=λHs1 H1 g1 g2=>by show n<=_;rw [jL];exact yY _
def zz (a:MA):MA:=λε=>(a ε).bind λxs=>match xs with
 |[.at (.int j)]=>if -(lim:Int)<=j/\j<=lim then some (qB 0 j.toNat) else none
 |_=>none
instance {a:MA}[sa:qO ta a]:zd (Jw ta) (zz a) where
 h:=λe _ _ _ _ _ rs _ q=>by
  obtain ⟨xs,ex,e1⟩:=bind_some e;split at e1
  ·rename_i j;split at e1
   ·rename_i hl;cases e1;refine sa.h ex rs λvs Hs1 H1 x1 r1=>?_;obtain ⟨v,r,rfl,p1,p2⟩:=reps_cons.mp r1;cases reps_nil.mp p2;cases rep_at.mp p1;have hlim:(lim:Int)=1000000:=rfl;exact ⟨j,rfl,by omega,by omega,q _ _ _ x1 Jz⟩
   ·cases e1
  ·cases e1
def zh (g:MG)(f:MS):List PV->ME->Option Out
 |[],ε=>some (.nx ε)
 |x::xs,ε=>(g x ε).bind λε1=>(f ε1).bind λo=>match o with
  | .nx ε2=>zh g f xs ε2
  | .ct ε2=>zh g f xs ε2
  | .bk ε2=>some (.nx ε2)
  | .rt y=>some (.rt y)
def jX (i:MA)(g:MG)(f:MS):MS:=λε=>(i ε).bind λxs=>zh g f xs ε
theorem OutK.unbase {D:xD}(x:Ext Hs0 H0 Hb H):∀{o:Out},OutK fr Hs0 H0 D o->OutK fr Hb H0 D o
 | .nx _,h=>λHs H U r=>h _ _ _ (RS.unbase x r)
 | .bk _,h=>λHs H U r=>h _ _ _ (RS.unbase x r)
 | .ct _,h=>λHs H U r=>h _ _ _ (RS.unbase x r)
 | .rt _,h=>by
  cases fr with
  |true=>exact λa Hs H e n n' t=>h a Hs H (x.unbase e) n n' t
  |false=>exact λa Hs H e r=>h a Hs H (x.unbase e) r
instance {tb:TS}{i:MA}{g:MG}{f:MS}[si:zd wi i][sg:vT tg ts g][sf:qh fr tb f]:qh fr (tFor wi tg tb) (jX i g f) where
 h:=λe Hs0 H0 _ _ _ rs D q=>by
  obtain ⟨xs,ex,e1⟩:=bind_some e;refine si.h ex rs λJ Hs1 H1 x1 ok=>?_;have rs1:=rs.go x1;have q1:=OutK.unbase rs1.ext q;refine ⟨λk m U H=>m=xs.length-k/\k<=xs.length/\∃ Hs ε,RS Hs1 H0 Hs H U ε/\zh g f (xs.drop k) ε=some _,⟨xs.length,by simp,yo _,Hs1,_,rs1.rebase,e1⟩,?_⟩;rintro k m U H ⟨rfl,hk,Hs,ε,r,el⟩;by_cases hlt:k<xs.length
  ·have hd:xs.drop k=xs[k]::xs.drop (k+1):=uW hlt;rw [hd] at el;unfold zh at el;obtain ⟨ε1,eg,el1⟩:=bind_some el;obtain ⟨o,eo,el2⟩:=bind_some el1;obtain ⟨go,yl⟩:=ok.go k xs[k] Hs H (by simp [hlt]) r.ext.s1 r.ext.s3;refine .inr ⟨go,λσ' H'=>k+1<=xs.length/\∃ Hs ε,RS Hs1 H0 Hs H' σ' ε/\zh g f (xs.drop (k+1)) ε=some _,λσ' H' p=>⟨xs.length-(k+1),by omega,rfl,p.1,p.2⟩,λv H2 y=>?_⟩;obtain ⟨Hs2,x2,r2⟩:=yl v H2 y;refine sg.h eg (r.go x2) r2 λσ2 rs2 _=>sf.h eo rs2 ?_;cases o with
   |nx ε2=>exact λHs3 H3 σ3 r3=>⟨hlt,Hs3,ε2,r3,el2⟩
   |ct ε2=>exact λHs3 H3 σ3 r3=>⟨hlt,Hs3,ε2,r3,el2⟩
   |bk ε2=>cases el2;exact q1
   |rt y=>cases el2;exact q1
  ·have ek:k=xs.length:=by omega
   subst ek;rw [uq] at el;unfold zh at el;cases el;exact .inl ⟨ok.stop Hs H r.ext.s1 r.ext.s3,q1 _ _ _ r⟩
def t9 (cap:List (Option Nat))(ε:ME):ME:=cap.map λo=>match o with
 |none=> .no
 |some i=>(ε[i]?).getD .no
def qi (g:MG)(c:MB)(f:M)(ε0:ME):List PV->Option (List PV)
 |[]=>some []
 |x::xs=>(g x ε0).bind λε1=>(c ε1).bind λb=>if b=true then (f ε1).bind λy=>(qi g c f ε0 xs).bind λys=>some (y::ys) else qi g c f ε0 xs
def u5:MB:=λ_=>some true
instance:qP tYes u5 where
 h:=λe _ _ _ _ _ rs _ q=>by cases e;exact q _ _ (.refl rs.sub)
def ze (cap:List (Option Nat))(ts:List Nat):Bool:=decide (cap.filterMap id).Nodup&&ts.all λi=>decide (cap[i]?=some none)
def k6 (cap:List (Option Nat))(ts:List Nat)(i:MA)(g:MG)(c:MB)(f:M):M:=λε=>(i ε).bind λxs=>if ze cap ts=true/\xs.length<=lim then (qi g c f (t9 cap ε) xs).bind λys=>some (.lst ys) else none
theorem RS.cap {cap:List (Option Nat)}(hc:(cap.filterMap id).Nodup)(r:RS Hs0 H0 Hs H U ε):RS Hs0 H0 Hs H (p6 cap U) (t9 cap ε):=by
 have inj:∀(i j k:Nat),cap[i]?=some (some k)->cap[j]?=some (some k)->i=j:=by
  clear r
  induction cap with
  |nil=>intro i j k h;simp at h
  |cons o cap ih =>
   intro i j k hi hj;have no:∀(l:Nat),o=some k->cap[l]?=some (some k)->False:=λl ho hl=>by
    subst ho;rw [uQ (by rfl)] at hc;exact (yh.mp hc).1 (uT.mpr ⟨some k,uU hl,rfl⟩)
   have hc':(cap.filterMap id).Nodup:=by
    cases o with
    |none=>rwa [List.filterMap_cons_none (by rfl)] at hc
    |some m=>rw [uQ (by rfl)] at hc;exact (yh.mp hc).2
   cases i with
   |zero =>
    cases j with
    |zero=>rfl
    |succ j=>exact (no j (by simpa using hi) (by simpa using hj)).elim
   |succ i =>
    cases j with
    |zero=>exact (no i (by simpa using hj) (by simpa using hi)).elim
    |succ j=>rw [ih hc' i j k (by simpa using hi) (by simpa using hj)]
 have at1:∀(i:Nat)(sl:MSlot),(t9 cap ε)[i]?=some sl->sl = .no∨∃ k,cap[i]?=some (some k)/\ε[k]?=some sl:=by
  intro i sl h;unfold t9 at h;rw [yM] at h;cases ho:cap[i]? with
  |none=>rw [ho] at h;cases h
  |some o =>
   rw [ho] at h;cases o with
   |none=>cases h;exact .inl rfl
   |some k =>
    cases hk:ε[k]? with
    |none=>simp only [uP,hk,ur] at h;cases h;exact .inl rfl
    |some s=>simp only [uP,hk,uo] at h;cases h;exact .inr ⟨k,rfl,hk⟩
 have at2:∀(i k:Nat),cap[i]?=some (some k)->∀ v,U[k]?=some (some v)->(p6 cap U)[i]?=some (some v):=by intro i k h v e;unfold p6;rw [yM,h];simp [e]
 have at3:∀(i k:Nat)(v:V),cap[i]?=some (some k)->(p6 cap U)[i]?=some (some v)->U[k]?=some (some v):=by
  intro i k v h e;unfold p6 at e;rw [yM,h] at e;simp only [uP,yE,Option.some.injEq] at e;cases hs:U[k]? with
  |none=>rw [hs] at e;cases e
  |some o=>rw [hs] at e;simp at e;rw [e]
 refine ⟨r.ext,λi x h=>?_,λi x h=>?_,λi j x y a h1 h2 h3 h4=>?_,by unfold p6 t9;rw [yZ,yZ],λi x h=>?_⟩
 ·rcases at1 i _ h with z|⟨k,hk,e⟩
  ·cases z
  ·obtain ⟨v,hv,rv⟩:=r.sh k x e;exact ⟨v,at2 i k hk v hv,rv⟩
 ·rcases at1 i _ h with z|⟨k,hk,e⟩
  ·cases z
  ·obtain ⟨v,hv,rv⟩:=r.ow k x e;exact ⟨v,at2 i k hk _ hv,rv⟩
 ·rcases at1 i _ h1 with z|⟨k,hk,e⟩
  ·cases z
  ·rcases at1 j _ h2 with z|⟨l,hl,e'⟩
   ·cases z
   ·have kl:=r.nd k l x y a e e' (at3 i k _ hk h3) (at3 j l _ hl h4);subst kl;exact inj i j k hk hl
 ·rcases at1 i _ h with z|⟨k,hk,e⟩
  ·cases z
  ·obtain ⟨v,hv,rv⟩:=r.bo k x e;exact ⟨v,at2 i k hk _ hv,rv⟩
theorem Reps.snoc (r:Reps H xs vs)(p:Rep H x v):Reps H (xs++[x]) (vs++[v]):=r.append (.one p)
instance {tt:TT}{cap:List (Option Nat)}{i:MA}{g:MG}{f:M}[si:zd wi i][sg:vT tg ts g][sc:qP tt c][sf:SemE te f]:xn (QX wi tg tt te cap) (k6 cap ts i g c f) where
 h:=λe Hs0 H0 Hs H U rs Q q=>by
  obtain ⟨xs,ex,e1⟩:=bind_some e;split at e1
  ·rename_i hcl;obtain ⟨hcap,hl⟩:=hcl;unfold ze at hcap;rw [yp] at hcap;obtain ⟨ys,ey,e2⟩:=bind_some e1;cases e2;refine si.h ex rs λJ Hs1 H1 x1 ok=>?_;have rc:=((rs.go x1).cap (yd hcap.1)).rebase;have wk:∀ i∈ts,(p6 cap U)[i]?=some none:=λi hi=>by
    unfold p6;rw [yM,yd (uV.mp hcap.2 i hi)];rfl
   refine ⟨λk m zs H=>m=xs.length-k/\k<=xs.length/\∃ Hs2 ws,Ext Hs1 H1 Hs2 H/\RS Hs1 H0 Hs2 H (p6 cap U) (t9 cap _)/\Reps Hs2 ws zs/\ws.length<=k/\∃ rest,qi g c f (t9 cap _) (xs.drop k)=some rest/\ys=ws++rest,
    ⟨xs.length,by simp,yo _,Hs1,[],.refl x1.s3,rc,.nil,yY _,ys,ey,rfl⟩,?_⟩
   rintro k m zs H2 ⟨rfl,hk,Hs2,ws,x2,r2,rz,hw,rest,er,eys⟩;refine ⟨xy (by rw [rz.length];omega),?_⟩;by_cases hlt:k<xs.length
   ·have hd:xs.drop k=xs[k]::xs.drop (k+1):=uW hlt;rw [hd] at er;unfold qi at er;obtain ⟨ε1,eg,er1⟩:=bind_some er;obtain ⟨b,eb,er2⟩:=bind_some er1;obtain ⟨go,yl⟩:=ok.go k xs[k] Hs2 H2 (by simp [hlt]) x2.s1 x2.s3;refine .inr ⟨go,λv H3 y=>?_⟩;obtain ⟨Hs3,x3,r3⟩:=yl v H3 y;refine sg.h eg (r2.go x3) r3 λσ2 rs2 bt=>⟨bt.wk wk,sc.h eb rs2 λHs4 H4 x4=>?_⟩;cases b with
    |true =>
     rw [if_pos rfl] at er2;obtain ⟨z,ez,er3⟩:=bind_some er2;obtain ⟨rest',er4,er5⟩:=bind_some er3;cases er5;refine xg (sf.h ez (rs2.go x4) λu Hs5 H5 x5 r5=>⟨xs.length-(k+1),by omega,rfl,hlt,Hs5,ws++[z],x2.trans (x3.trans (x4.trans x5)),((r2.go x3).go x4).go x5,?_,?_,rest',er4,?_⟩)
     ·exact (rz.mono (x3.s1.trans (x4.s1.trans x5.s1))).snoc r5
     ·rw [yH];simp;omega
     ·rw [uZ];exact eys
    |false=>rw [if_neg yU] at er2;exact qT ⟨xs.length-(k+1),by omega,rfl,hlt,Hs4,ws,x2.trans (x3.trans x4),(r2.go x3).go x4,rz.mono (x3.s1.trans x4.s1),by omega,rest,er2,eys⟩
   ·have ek:k=xs.length:=by omega
    subst ek;rw [uq] at er;unfold qi at er;cases er;refine .inl ⟨ok.stop Hs2 H2 x2.s1 x2.s3,λD hD=>?_⟩;rw [yA] at eys;subst eys;have x12:=x1.trans x2;exact q D Hs2 _ (x12.trans (.newO x2.s3 hD)) (x12.s2.free hD) (x2.s3.free hD) ⟨zs,y4,rz⟩
  ·cases e1
def p8 (n k:Nat)(f:MS):List PV->Option PV:=λxs=>if xs.length=k then (f (xs.map .sh++List.replicate (n-k) .no)).bind λo=>match o with
 | .rt y=>some y
 | .nx _=>some (.at .non)
 |_=>none else none
def xE (n k:Nat)(f:MS):List PV->Option PV:=λxs=>if xs.length=k then (f (xs.map .sh++List.replicate (n-k) .no)).bind λo=>match o with
 | .rt y=>some y
 |_=>none else none
end Mi
namespace Mi
open PySem PySem.Spec PyProof.Rows L2
variable{N ps:List Str}{qual x:Str}{st:Stmt}{f:Addr}{fd:FuncData}{b:MS}{m:List PV->Option PV}
theorem QR {Hs H:Hp}{xs:List PV}{vs:List V}(s:Same Hs H)(r:Reps Hs xs vs):RS Hs H Hs H (L2.start N vs) (xs.map .sh++List.replicate (N.length-xs.length) .no):=by
 have el:=r.length;have at1:∀(i:Nat)(sl:MSlot),(xs.map MSlot.sh++List.replicate (N.length-xs.length) .no)[i]?=some sl->sl = .no∨∃ x,xs[i]?=some x/\sl = .sh x:=by
  intro i sl h;by_cases hi:i<xs.length
  ·rw [yn (by rw [yZ];exact hi),yM] at h;obtain ⟨x,hx,rfl⟩:=yF.mp h;exact .inr ⟨x,hx,rfl⟩
  ·rw [yc (by rw [yZ];omega),uN] at h;split at h
   ·cases h;exact .inl rfl
   ·cases h
 refine ⟨.refl s,λi x h=>?_,λi x h=>?_,λi j x y a h1 _ _ _=>?_,?_,λi x h=>?_⟩
 ·rcases at1 i _ h with z|⟨y,hy,z⟩
  ·cases z
  ·cases z;obtain ⟨v,hv,rv⟩:=r.get hy;refine ⟨v,?_,rv⟩;unfold L2.start;rw [yn (by rw [yZ];exact (yv.mp hv).1),yM,hv];rfl
 ·rcases at1 i _ h with z|⟨y,hy,z⟩<;>cases z
 ·rcases at1 i _ h1 with z|⟨y,hy,z⟩<;>cases z
 ·unfold L2.start;rw [yH,yH,yZ,yZ,uF,uF,el]
 ·rcases at1 i _ h with z|⟨y,hy,z⟩<;>cases z
section
variable {P:Program}{w:World}{K:Fg}{mg:Str->Option Value}{base:Heap}
theorem i5 {k:Nat}(F:Fun K x qual st f fd)(S:w5 N ps (z9 st))(hm:m=p8 N.length ps.length b)(hb:∀(cdv:Value)(A:Around)(outer:List Env)(s:Shared)(H:Hp)(E:XK),Room k (A.deeper (envOfC qual (z9 st) s.heap.objs.size f cdv)) -> ∃ t,PSs (qQ v5 P w K mg base N qual (z9 st) f cdv A outer s H E).nox (i0 st) t/\qh false t b):FnOk P w K mg base v5 (k+1) f fd ps (v8 m):=by
 subst hm;refine F.ok S (λvs H Q E h=>?_) (λcdv A outer s H vs Q E hr h=>?_)
 ·obtain ⟨Hs,xs,y,_,r,e,_⟩:=h;unfold p8 at e;split at e
  ·rename_i hl;rw [r.length];exact hl
  ·cases e
 ·obtain ⟨Hs,xs,y,sm,r,e,q⟩:=h;obtain ⟨t,ht,sem⟩:=hb cdv A outer s H E hr;refine ⟨t,ht,?_⟩;unfold p8 at e;split at e
  ·rename_i hl;obtain ⟨o,eo,e1⟩:=bind_some e;refine sem.h eo (by rw [<- hl];exact QR sm r) ?_;cases o with
   |rt z=>cases e1;exact λv Hs' H' x rv=>q v Hs' H' x rv
   |nx ε=>cases e1;exact λHs' H' U rs=>q _ Hs' H' rs.ext (rep_at.mpr rfl)
   |bk ε=>cases e1
   |ct ε=>cases e1
  ·cases e
theorem okO {k:Nat}(F:Fun K x qual st f fd)(S:w5 N ps (z9 st))(hm:m=xE N.length ps.length b)(hb:∀(cdv:Value)(A:Around)(outer:List Env)(s:Shared)(H:Hp)(E:XK),Room k (A.deeper (envOfC qual (z9 st) s.heap.objs.size f cdv)) -> ∃ t,PSs (qQ v5 P w K mg base N qual (z9 st) f cdv A outer s H E).nox (i0 st) t/\qh true t b):FnOk P w K mg base v5 (k+1) f fd ps (i8 m):=by
 subst hm;refine F.ok S (λvs H Q E h=>?_) (λcdv A outer s H vs Q E hr h=>?_)
 ·obtain ⟨Hs,xs,y,_,r,e,_⟩:=h;unfold xE at e;split at e
  ·rename_i hl;rw [r.length];exact hl
  ·cases e
 ·obtain ⟨Hs,xs,y,sm,r,e,q⟩:=h;obtain ⟨t,ht,sem⟩:=hb cdv A outer s H E hr;refine ⟨t,ht,?_⟩;unfold xE at e;split at e
  ·rename_i hl;obtain ⟨o,eo,e1⟩:=bind_some e;refine sem.h eo (by rw [<- hl];exact QR sm r) ?_;cases o with
   |rt z=>cases e1;exact λa Hs' H' x n n' t=>q a Hs' H' x n n' t
   |nx ε=>cases e1
   |bk ε=>cases e1
   |ct ε=>cases e1
  ·cases e
end
end Mi
namespace Mi
open PySem L2
variable{X:Cx}{K:Fg}{ta:TA}{j:Int}{H H0 Hs Hs0:Hp}{xs ys:List PV}{x y:PV}{v:V}{td te tv:TE}{vs ws:List V}{th tl:TO}{l u:ME->Option (Option Int)}{o:HO}{f nm qual:Str}{t tt:TT}{r:Option PV}{tb:TS}{S:List Addr}{U σ':St}{ε ε':ME}{n:Nat}{E:XK}{pre pre0:List PV->Prop}{R R0:List PV->PV->Prop}{a0 as:MA}{wi:TI}{tg:TG}{ts:List Nat}{N ns ps:List Str}{st:Stmt}{fd:FuncData}{m:List PV->Option PV}{G:MG}{C:Addr}{e:Expr}{pos:Pos}{pl:Sem Bool}{α:Type}{sp:Sp}
theorem qG {a:Expr}{ta:TE}(h:X.K=K)(ha:PE X a ta)(he:∀ whole,isTrue a X.env whole=(do let v <- whole;standAt a.pos;holding [v] (truthy v))):PT X a (tTru K ta):=NY h ha he
abbrev xH:PV->PV->Option PV:=pI λi j=>some (.int (i-j))
abbrev pLt:PV->PV->Option PV:=pI λi j=>some (.bl (decide (i<j)))
abbrev pLe:PV->PV->Option PV:=pI λi j=>some (.bl (decide (i<=j)))
abbrev pGt:PV->PV->Option PV:=pI λi j=>some (.bl (decide (j<i)))
abbrev pGe:PV->PV->Option PV:=pI λi j=>some (.bl (decide (j<=i)))
instance {i:Int}:Decidable (wR i j):=by unfold wR;infer_instance
instance {i:Int}:Decidable (zL i j):=by unfold zL;infer_instance
abbrev pMul:PV->PV->Option PV:=pI λi j=>if wR i j then some (.int (i*j)) else none
abbrev jf:PV->PV->Option PV:=pI λi j=>if zL i j then some (.int (i ^ j.toNat)) else none
abbrev QG:PV->Option PV:=pU λi=> .int (-i)
theorem Reps.nil_of (r:Reps H xs []):xs=[]:=uz.mp r.length.symm
def p7:PV->PV->Option PV
 | .at (.int i),.at (.int j)=>some (.at (.int (i+j)))
 | .at (.str x),.at (.str y)=>if x.length+y.length<=lim then some (.at (.str (x++y))) else none
 | .lst xs,.lst ys=>if xs.length+ys.length<=lim then some (.lst (xs++ys)) else none
 | .tup xs,.tup ys=>if xs≠[]/\xs.length+ys.length<=lim then some (.tup (xs++ys)) else none
 |_,_=>none
instance :xw (Kq K) p7 where
 h:=λ{x y z} e {Hs H v w} s a b {Q} q=>by
  unfold p7 at e;split at e
  ·cases e;exact .inl ⟨_,_,u8 a,u8 b,q _ _ _ (.refl s) (rep_at.mpr rfl)⟩
  ·split at e
   ·rename_i hl;cases e;exact .inr (.inl ⟨_,_,u8 a,u8 b,xy hl,q _ _ _ (.refl s) (rep_at.mpr rfl)⟩)
   ·cases e
  ·split at e
   ·rename_i hl;cases e;obtain ⟨p,vs,rfl,e1,r1⟩:=qc s a;obtain ⟨p',ws,rfl,e2,r2⟩:=qc s b;refine .inr (.inr (.inl ⟨p,p',vs,ws,rfl,rfl,SqL.of e1,SqL.of e2,xy (by rw [r1.length,r2.length];exact hl),λl hl=>?_⟩));exact q _ _ _ (.new s hl) (rep_lst.mpr ⟨l,_,rfl,y4,(r1.append r2).mono (Ext.new s hl).s1⟩)
   ·cases e
  ·split at e
   ·rename_i hl;cases e;obtain ⟨p,vs,rfl,e1,r1⟩:=xl s a;obtain ⟨p',ws,rfl,e2,r2⟩:=xl s b;have hn:vs≠[]:=λz=>by
     have h1:=r1.length;rw [z] at h1;exact hl.1 (uz.mp h1.symm)
    refine .inr (.inr (.inr ⟨p,p',vs,ws,rfl,rfl,SqT.of e1,SqT.of e2,hn,xy (by rw [r1.length,r2.length];exact hl.2),λz=>?_,λz l hl=>?_⟩))
    ·subst z;cases r2.nil_of;rw [yA] at q;rcases a with a|⟨_,_,_,t⟩
     ·exact q _ _ _ (.refl s) a
     ·exact t.elim
    ·exact q _ _ _ (.new s hl) (rep_tup.mpr ⟨l,_,rfl,y4,(r1.append r2).mono (Ext.new s hl).s1⟩)
   ·cases e
  ·cases e
def qf:List PV->Option PV
 |[.at (.str x)]=>if x.length<=lim then some (.at (.int x.length)) else none
 |[.lst xs]=>some (.at (.int xs.length))
 |[.tup xs]=>some (.at (.int xs.length))
 |[.dk ks _]=>some (.at (.int ks.length))
 |_=>none
instance :zw (rLen K) qf where
 h:=λ{xs z} e {Hs H vs} s r {Q} q=>by
  unfold qf at e;split at e
  ·split at e
   ·rename_i hl;cases e;obtain ⟨v,rfl,a⟩:=qW r;cases u8 a;exact .inl ⟨_,_,rfl,⟨xy hl,rfl⟩,q _ _ _ (.refl s) (rep_at.mpr rfl)⟩
   ·cases e
  ·cases e;obtain ⟨v,rfl,a⟩:=qW r;obtain ⟨p,ws,rfl,e1,r1⟩:=qc s a;exact .inl ⟨_,_,rfl,.inl ⟨ws,SqL.of e1,rfl⟩,q _ _ _ (.refl s) (rep_at.mpr (by rw [r1.length]))⟩
  ·cases e;obtain ⟨v,rfl,a⟩:=qW r;obtain ⟨p,ws,rfl,e1,r1⟩:=xl s a;exact .inl ⟨_,_,rfl,.inr ⟨ws,SqT.of e1,rfl⟩,q _ _ _ (.refl s) (rep_at.mpr (by rw [r1.length]))⟩
  ·cases e;obtain ⟨v,rfl,a⟩:=qW r;obtain ⟨p,kvs,rfl,e1,k,r1⟩:=jK s a;exact .inr ⟨p,kvs,rfl,e1,q _ _ _ (.refl s) (rep_at.mpr (by rw [<- k,yZ]))⟩
  ·cases e
def wC:List PV->Option PV
 |[.lst xs]=>some (.lst xs)
 |[.tup xs]=>some (.lst xs)
 |_=>none
instance :Xk (Kz K) wC where
 h:=λ{xs z} e {Hs H vs} s r {Q} q=>by
  unfold wC at e;split at e
  ·cases e;obtain ⟨v,rfl,a⟩:=qW r;obtain ⟨p,ws,rfl,e1,r1⟩:=qc s a;exact ⟨p,ws,rfl,.inl (SqL.of e1),λl hl=>q l _ _ (.newO s hl) hl (s.free hl) ⟨ws,y4,r1⟩⟩
  ·cases e;obtain ⟨v,rfl,a⟩:=qW r;obtain ⟨p,ws,rfl,e1,r1⟩:=xl s a;exact ⟨p,ws,rfl,.inr (SqT.of e1),λl hl=>q l _ _ (.newO s hl) hl (s.free hl) ⟨ws,y4,r1⟩⟩
  ·cases e
def JX:List PV->Option PV
 |[.lst xs]=>some (.tup xs)
 |[.tup xs]=>some (.tup xs)
 |_=>none
instance :zw (KL K) JX where
 h:=λ{xs z} e {Hs H vs} s r {Q} q=>by
  unfold JX at e;split at e
  ·cases e;obtain ⟨v,rfl,a⟩:=qW r;obtain ⟨p,ws,rfl,e1,r1⟩:=qc s a;exact ⟨p,ws,rfl,.inl ⟨SqL.of e1,λl hl=>q _ _ _ (.new s hl) (rep_tup.mpr ⟨l,_,rfl,y4,r1.mono (Ext.new s hl).s1⟩)⟩⟩
  ·cases e;obtain ⟨v,rfl,a⟩:=qW r;obtain ⟨p,ws,rfl,e1,r1⟩:=xl s a;rcases a with a|⟨_,_,_,t⟩
   ·exact ⟨p,ws,rfl,.inr ⟨SqT.of e1,q _ _ _ (.refl s) a⟩⟩
   ·exact t.elim
  ·cases e
def tyP:PV->Option String
 | .at .non=>some "NoneType"
 | .at (.bl _)=>some "bool"
 | .at (.int _)=>some "int"
 | .at (.str _)=>some "str"
 | .lst _=>some "list"
 | .tup _=>some "tuple"
 | .dk _ _=>some "dict"
 |_=>none
theorem Ta {T:String}(s:Same Hs H)(r:RepB Hs H x v)(e:tyP x=some T):xo K H v (.type T):=by
 unfold tyP at e;split at e
 ·cases e;cases u8 r;exact .non
 ·cases e;cases u8 r;exact .bl _
 ·cases e;cases u8 r;exact .int _
 ·cases e;cases u8 r;exact .str _
 ·cases e;obtain ⟨p,ws,rfl,e1,r1⟩:=qc s r;exact .lst e1
 ·cases e;obtain ⟨p,ws,rfl,e1,r1⟩:=xl s r;exact .tup e1
 ·cases e;obtain ⟨p,ws,rfl,e1,_⟩:=jK s r;exact .dK e1
 ·cases e
def qm:List PV->Option PV
 |[x,.at (.ty n)]=>(tyP x).bind λT=>(tyB T n).bind λb=>some (.at (.bl b))
 |_=>none
instance :zw (rIsi K) qm where
 h:=λ{xs z} e {Hs H vs} s r {Q} q=>by
  unfold qm at e;split at e
  ·obtain ⟨T,eT,e1⟩:=bind_some e;obtain ⟨b,eb,e2⟩:=bind_some e1;cases e2;obtain ⟨v,w,rfl,a,c⟩:=Vn r;cases u8 c;exact ⟨v,_,T,b,rfl,Ta s a eT,eb,q _ _ _ (.refl s) (rep_at.mpr rfl)⟩
  ·cases e
def bls:List PV->Option (List Bool)
 |[]=>some []
 | .at (.bl b)::xs=>(bls xs).map (b::·)
 |_::_=>none
theorem Uv:∀{xs:List PV}{bs:List Bool},bls xs=some bs->xs=bs.map λb=> .at (.bl b)
 |[],_,h=>by cases h;rfl
 |x::xs,bs,h=>by
  unfold bls at h;split at h
  ·rename_i heq;cases heq
  ·rename_i b ys heq;injection heq with h1 h2;obtain ⟨r,e,rfl⟩:=yF.mp h;subst h2;rw [h1,yT,Uv e]
  ·cases h
def xG:List PV->Option PV
 |[.lst xs]=>(bls xs).bind λbs=>some (.at (.bl (bs.all id)))
 |_=>none
instance :zw (Kr K) xG where
 h:=λ{xs z} e {Hs H vs} s r {Q} q=>by
  unfold xG at e;split at e
  ·obtain ⟨bs,eb,e1⟩:=bind_some e;cases e1;obtain ⟨v,rfl,a⟩:=qW r;obtain ⟨p,ws,rfl,e1,r1⟩:=qc s a;rw [Uv eb,show (bs.map λb=>PV.at (.bl b))=(bs.map V.bl).map .at by rw [yz];rfl] at r1;cases r1.ats;exact ⟨p,bs,rfl,SqL.of e1,q _ _ _ (.refl s) (rep_at.mpr rfl)⟩
  ·cases e
def QF:List PV->Option PV
 |[.at (.int i),.at (.int j)]=>some (.at (.int (if j<i then j else i)))
 |_=>none
instance:zw KB QF where
 h:=λ{xs z} e {Hs H vs} s r {Q} q=>by
  unfold QF at e;split at e
  ·cases e;obtain ⟨v,w,rfl,a,b⟩:=Vn r;cases u8 a;cases u8 b;exact ⟨_,_,rfl,q _ _ _ (.refl s) (rep_at.mpr rfl)⟩
  ·cases e
def vj:PV->Bool
 | .at .non=>true
 |_=>false
def Qo:PV->Bool
 | .op _=>true
 |_=>false
def pIsN:PV->PV->Option PV:=λx y=>if vj y=true/\Qo x=false then some (.at (.bl (vj x))) else none
def JW:PV->PV->Option PV:=λx y=>if vj y=true/\Qo x=false then some (.at (.bl (!vj x))) else none
theorem XL (s:Same Hs H)(r:RepB Hs H x v)(ho:Qo x=false):decide (v = .non)=vj x:=by
 cases x with
 |«at» u=>cases u8 r;cases v<;>first|rfl|(exact yO (λz=>nomatch z))
 |tup xs=>obtain ⟨p,ws,rfl,_⟩:=xl s r;exact yO (λz=>nomatch z)
 |lst xs=>obtain ⟨p,ws,rfl,_⟩:=qc s r;exact yO (λz=>nomatch z)
 |dk ks xs=>obtain ⟨p,ws,rfl,_⟩:=jK s r;exact yO (λz=>nomatch z)
 |dn fl ks xs=>obtain ⟨p,as,ws,rfl,_⟩:=Hv s r;exact yO (λz=>nomatch z)
 |fn fl ks xs=>obtain ⟨p,o,as,ws,rfl,_⟩:=Hw s r;exact yO (λz=>nomatch z)
 |fk ks xs=>obtain ⟨p,o,ws,rfl,_⟩:=QQ s r;exact yO (λz=>nomatch z)
 |ob C ns xs=>obtain ⟨p,dx,ws,rfl,_⟩:=Vm s r;exact yO (λz=>nomatch z)
 |op φ=>cases ho
instance:xw rIsN pIsN where
 h:=λ{x y z} e {Hs H v w} s a b {Q} q=>by
  unfold pIsN at e;split at e
  ·rename_i hy;cases e;have hb:Qo y=false:=by cases y<;>first|rfl|(exact absurd hy.1 (by simp [vj]))
   refine ⟨yd ((XL s b hb).trans hy.1),?_⟩;rw [XL s a hy.2];exact q _ _ _ (.refl s) (rep_at.mpr rfl)
  ·cases e
instance:xw KC JW where
 h:=λ{x y z} e {Hs H v w} s a b {Q} q=>by
  unfold JW at e;split at e
  ·rename_i hy;cases e;have hb:Qo y=false:=by cases y<;>first|rfl|(exact absurd hy.1 (by simp [vj]))
   refine ⟨yd ((XL s b hb).trans hy.1),?_⟩;rw [XL s a hy.2];exact q _ _ _ (.refl s) (rep_at.mpr rfl)
  ·cases e
def zo (f:PV->PV->Option Bool):List PV->List PV->Option Bool
 |x::xs,y::ys=>(f x y).bind λa=>(zo f xs ys).bind λb=>some (a&&b)
 |_,_=>some true
def peq0:PV->PV->Option Bool
 | .at u,.at v=>if g0 u=true/\g0 v=true then some (qd u v) else none
 |_,_=>none
def peq1 (f:PV->PV->Option Bool):PV->PV->Option Bool
 | .at u,.at v=>if g0 u=true/\g0 v=true then some (qd u v) else none
 | .lst xs,.lst ys=>if xs.length=ys.length then zo f xs ys else some false
 | .tup xs,.tup ys=>(zo f xs ys).bind λb=>some (b&&xs.length==ys.length)
 | .lst _,.tup _=>some false
 | .tup _,.lst _=>some false
 | .at u,.lst _=>if g0 u=true then some false else none
 | .at u,.tup _=>if g0 u=true then some false else none
 | .lst _,.at u=>if g0 u=true then some false else none
 | .tup _,.at u=>if g0 u=true then some false else none
 |_,_=>none
def peq:Nat->PV->PV->Option Bool
 |0=>peq0
 |n+1=>peq1 (peq n)
theorem Vb {K:Fg}{Hs H:Hp}{n:Nat}(s:Same Hs H)(ih:∀{x y:PV}{v w:V}{b:Bool},peq n x y=some b->Rep Hs x v->Rep Hs y w->EqP K H n v w b):∀{xs ys:List PV}{vs ws:List V}{b:Bool},zo (peq n) xs ys=some b->Reps Hs xs vs->Reps Hs ys ws->∃ e:Nat->Bool,(∀ j (h1:j<vs.length) (h2:j<ws.length),EqP K H n vs[j] ws[j] (e j))/\b=(List.range (min vs.length ws.length)).all e
 |[],ys,vs,ws,b,h,r1,r2=>by
  cases reps_nil.mp r1;unfold zo at h;cases h;exact ⟨λ_=>true,λj h1=>absurd h1 (Nat.not_lt_zero _),by simp⟩
 |x::xs,[],vs,ws,b,h,r1,r2=>by
  cases reps_nil.mp r2;unfold zo at h;cases h;exact ⟨λ_=>true,λj h1 h2=>absurd h2 (Nat.not_lt_zero _),by simp⟩
 |x::xs,y::ys,vs,ws,b,h,r1,r2=>by
  obtain ⟨v,vr,rfl,p1,q1⟩:=reps_cons.mp r1;obtain ⟨w,wr,rfl,p2,q2⟩:=reps_cons.mp r2;unfold zo at h;obtain ⟨a,ea,h1⟩:=bind_some h;obtain ⟨c,ec,h2⟩:=bind_some h1;cases h2;obtain ⟨e,he,hb⟩:=Vb s ih ec q1 q2;refine ⟨λj=>match j with|0=>a|j+1=>e j,λj h1 h2=>?_,?_⟩
  ·cases j with
   |zero=>exact ih ea p1 p2
   |succ j=>exact he j (by simpa using h1) (by simpa using h2)
  ·rw [yS,yS,Nat.succ_min_succ,List.range_succ_eq_map,List.all_cons,List.all_map,hb];rfl
theorem Va {K:Fg}{Hs H:Hp}(s:Same Hs H):∀(n:Nat){x y:PV}{v w:V}{b:Bool},peq n x y=some b->RepB Hs H x v->RepB Hs H y w->EqP K H n v w b
 |0,x,y,v,w,b,h,r1,r2=>by
  unfold peq peq0 at h;split at h
  ·split at h
   ·rename_i hf;cases h;cases u8 r1;cases u8 r2;exact ⟨hf.1,hf.2,rfl⟩
   ·cases h
  ·cases h
 |n+1,x,y,v,w,b,h,r1,r2=>by
  have ih:∀{x y:PV}{v w:V}{b:Bool},peq n x y=some b->Rep Hs x v->Rep Hs y w->EqP K H n v w b:=λh r1 r2=>Va s n h (.inl r1) (.inl r2);unfold peq peq1 at h;split at h
  ·split at h
   ·rename_i hf;cases h;cases u8 r1;cases u8 r2;exact .inl ⟨hf.1,hf.2,rfl⟩
   ·cases h
  ·obtain ⟨a,vs,rfl,e1,q1⟩:=qc s r1;obtain ⟨c,ws,rfl,e2,q2⟩:=qc s r2;refine .inr (.inl ⟨a,c,vs,ws,rfl,rfl,SqL.of e1,SqL.of e2,?_⟩);split at h
   ·rename_i hl;obtain ⟨e,he,hb⟩:=Vb s ih h q1 q2;have hl':vs.length=ws.length:=by rw [q1.length,q2.length,hl]
    exact .inr ⟨hl',e,he,by rw [hb,<- hl',Nat.min_self]⟩
   ·rename_i hl;cases h;exact .inl ⟨by rw [q1.length,q2.length];exact hl,rfl⟩
  ·obtain ⟨a,vs,rfl,e1,q1⟩:=xl s r1;obtain ⟨c,ws,rfl,e2,q2⟩:=xl s r2;obtain ⟨d,ed,h1⟩:=bind_some h;cases h1;obtain ⟨e,he,hb⟩:=Vb s ih ed q1 q2;exact .inr (.inr (.inl ⟨a,c,vs,ws,rfl,rfl,SqT.of e1,SqT.of e2,e,he,by rw [hb,q1.length,q2.length]⟩))
  ·cases h;obtain ⟨a,vs,rfl,e1,q1⟩:=qc s r1;obtain ⟨c,ws,rfl,e2,q2⟩:=xl s r2;exact .inr (.inr (.inr (.inl ⟨a,c,vs,ws,rfl,rfl,SqL.of e1,SqT.of e2,rfl⟩)))
  ·cases h;obtain ⟨a,vs,rfl,e1,q1⟩:=xl s r1;obtain ⟨c,ws,rfl,e2,q2⟩:=qc s r2;exact .inr (.inr (.inr (.inr (.inl ⟨a,c,vs,ws,rfl,rfl,SqT.of e1,SqL.of e2,rfl⟩))))
  ·split at h
   ·rename_i hf;cases h;cases u8 r1;obtain ⟨c,ws,rfl,e2,q2⟩:=qc s r2;exact .inr (.inr (.inr (.inr (.inr (.inl ⟨c,ws,hf,rfl,.inl (SqL.of e2),rfl⟩)))))
   ·cases h
  ·split at h
   ·rename_i hf;cases h;cases u8 r1;obtain ⟨c,ws,rfl,e2,q2⟩:=xl s r2;exact .inr (.inr (.inr (.inr (.inr (.inl ⟨c,ws,hf,rfl,.inr (SqT.of e2),rfl⟩)))))
   ·cases h
  ·split at h
   ·rename_i hf;cases h;cases u8 r2;obtain ⟨c,ws,rfl,e2,q2⟩:=qc s r1;exact .inr (.inr (.inr (.inr (.inr (.inr ⟨c,ws,hf,rfl,.inl (SqL.of e2),rfl⟩)))))
   ·cases h
  ·split at h
   ·rename_i hf;cases h;cases u8 r2;obtain ⟨c,ws,rfl,e2,q2⟩:=xl s r1;exact .inr (.inr (.inr (.inr (.inr (.inr ⟨c,ws,hf,rfl,.inr (SqT.of e2),rfl⟩)))))
   ·cases h
  ·cases h
def pEq:PV->PV->Option PV:=λx y=>(peq 6 x y).bind λb=>some (.at (.bl b))
def qt:PV->PV->Option PV:=λx y=>(peq 6 x y).bind λb=>some (.at (.bl (!b)))
instance :xw (rEqD K 6 false) pEq where
 h:=λ{x y z} e {Hs H v w} s a b {Q} q=>by
  obtain ⟨c,ec,e1⟩:=bind_some e;cases e1;exact ⟨c,Va s 6 ec a b,q _ _ _ (.refl s) (rep_at.mpr rfl)⟩
instance :xw (rEqD K 6 true) qt where
 h:=λ{x y z} e {Hs H v w} s a b {Q} q=>by
  obtain ⟨c,ec,e1⟩:=bind_some e;cases e1;exact ⟨c,Va s 6 ec a b,q _ _ _ (.refl s) (rep_at.mpr rfl)⟩
class jR (to:TO)(f:ME->Option (Option Int)):Prop where
 h:∀{ε y},f ε=some y->∀{Hs0 H0 Hs H U},RS Hs0 H0 Hs H U ε->∀{Q:Option Int->Hp->Prop},(∀ Hs' H',Ext Hs H Hs' H'->Q y H')->to U H Q
def pNo:ME->Option (Option Int):=λ_=>some none
def pInt:PV->Option Int
 | .at (.int i)=>some i
 |_=>none
def pSo (a:M):ME->Option (Option Int):=λε=>(a ε).bind λx=>(pInt x).bind λi=>some (some i)
instance:jR BD pNo where
 h:=λe _ _ _ _ _ rs _ q=>by cases e;exact q _ _ (.refl rs.sub)
instance {a:M}[sa:n8 te a]:jR (BF te) (pSo a) where
 h:=λe _ _ _ _ _ rs _ q=>by
  obtain ⟨x,ex,e1⟩:=bind_some e;obtain ⟨i,ei,e2⟩:=bind_some e1;cases e2;unfold pInt at ei;split at ei
  ·cases ei;exact sa.h ex rs λv Hs1 H1 x1 r1=>⟨_,u8 r1,q _ _ x1⟩
  ·cases ei
def zU (xs:List PV)(lo hi:Option Int):List PV:=(xs.drop (HT.sIx xs.length 0 lo)).take (HT.sIx xs.length xs.length hi-HT.sIx xs.length 0 lo)
theorem Reps.cut (r:Reps H xs vs)(lo hi:Option Int):Reps H (zU xs lo hi) (vX vs lo hi):=by unfold zU vX;rw [r.length];exact (r.drop _).take _
def zB (a:M)(l u:ME->Option (Option Int)):M:=λε=>(a ε).bind λx=>(l ε).bind λlo=>(u ε).bind λhi=>match x with
 | .lst xs=>some (.lst (zU xs lo hi))
 |_=>none
instance {a:M}[sa:n8 te a][sl:jR tl l][su:jR th u]:xn (tSl (rSlL K) te tl th) (zB a l u) where
 h:=λe _ _ _ _ _ rs _ q=>by
  obtain ⟨x,ex,e1⟩:=bind_some e;obtain ⟨lo,el,e2⟩:=bind_some e1;obtain ⟨hi,eu,e3⟩:=bind_some e2;split at e3
  ·cases e3;refine sa.h ex rs λv Hs1 H1 x1 r1=>sl.h el (rs.go x1) λHs2 H2 x2=>su.h eu ((rs.go x1).go x2) λHs3 H3 x3=>?_;obtain ⟨p,vs,rfl,e1,r⟩:=qc x3.s3 ((r1.ext x2).ext x3);have x13:=x1.trans (x2.trans x3);exact ⟨p,vs,rfl,SqL.of e1,λd hd=>q d _ _ (x13.trans (.newO x3.s3 hd)) (x13.s2.free hd) (x3.s3.free hd) ⟨_,y4,r.cut lo hi⟩⟩
  ·cases e3
def xS (n:Nat):List PV->List PV
 |[]=>[]
 |x::xs=> .tup [.at (.int n),x]::xS (n+1) xs
theorem UV:∀{xs:List PV}{n i:Nat}{z:PV},(xS n xs)[i]?=some z->∃ x,xs[i]?=some x/\z = .tup [.at (.int ((n+i:Nat):Int)),x]
 |[],n,i,z,h=>by simp [xS] at h
 |x::xs,n,0,z,h=>by simp [xS] at h;exact ⟨x,rfl,h.symm⟩
 |x::xs,n,i+1,z,h=>by
  obtain ⟨y,h1,h2⟩:=UV (xs:=xs) (n:=n+1) (i:=i) (z:=z) (by simpa [xS] using h);exact ⟨y,by simpa using h1,by rw [h2,show n+1+i=n+(i+1) by omega]⟩
theorem UW:∀{xs:List PV}{n:Nat},(xS n xs).length=xs.length
 |[],_=>rfl
 |x::xs,n=>by simp [xS,UW]
theorem DX {a:Addr}(h:Hs a=some (.lst vs))(r:Reps Hs xs vs):jn (Ite K a) (xS 0 xs) Hs where
 go:=λi x Hs1 H1 e g1 g2=>by
  obtain ⟨y,ey,rfl⟩:=UV e;obtain ⟨v,ev,rv⟩:=r.get ey;refine ⟨⟨vs,v,SqL.of (g2 _ _ (g1 _ _ h)),ev⟩,λw H2 z=>?_⟩;obtain ⟨p,u,hp,rfl,rfl,hu⟩:=z;have e1:=hu vs (SqL.of (g2 _ _ (g1 _ _ h)));rw [ev] at e1;cases e1;refine ⟨_,.new g2 hp,rep_tup.mpr ⟨p,_,rfl,y4,.cons (rep_at.mpr (by rw [Nat.zero_add])) (.one (rv.mono (g1.trans (Ext.new g2 hp).s1)))⟩⟩
 stop:=λHs1 H1 g1 g2=>⟨vs,SqL.of (g2 _ _ (g1 _ _ h)),by rw [r.length,UW];exact yY _⟩
def Jg (a:MA):MA:=λε=>(a ε).bind λxs=>match xs with
 |[.lst ys]=>some (xS 0 ys)
 |_=>none
instance {a:MA}[sa:qO ta a]:zd (Jv K ta) (Jg a) where
 h:=λe _ _ _ _ _ rs _ q=>by
  obtain ⟨xs,ex,e1⟩:=bind_some e;split at e1
  ·cases e1;refine sa.h ex rs λvs Hs1 H1 x1 r1=>?_;obtain ⟨v,r,rfl,p1,p2⟩:=reps_cons.mp r1;cases reps_nil.mp p2;obtain ⟨p,ws,rfl,hp,rw⟩:=rep_lst.mp p1;exact ⟨p,rfl,⟨ws,SqL.of (x1.s3 _ _ hp)⟩,q _ _ _ x1 (DX hp rw)⟩
  ·cases e1
def xu:List PV->List PV->List PV
 |x::xs,y::ys=> .tup [x,y]::xu xs ys
 |_,_=>[]
theorem Pl:∀{xs ys:List PV}{i:Nat}{z:PV},(xu xs ys)[i]?=some z->∃ x y,xs[i]?=some x/\ys[i]?=some y/\z = .tup [x,y]
 |[],_,i,z,h=>by simp [xu] at h
 |_::_,[],i,z,h=>by simp [xu] at h
 |x::xs,y::ys,0,z,h=>by simp [xu] at h;exact ⟨x,y,rfl,rfl,h.symm⟩
 |x::xs,y::ys,i+1,z,h=>by
  obtain ⟨u,v,h1,h2,h3⟩:=Pl (xs:=xs) (ys:=ys) (i:=i) (z:=z) (by simpa [xu] using h);exact ⟨u,v,by simpa using h1,by simpa using h2,h3⟩
theorem Pm:∀{xs ys:List PV},(xu xs ys).length=min xs.length ys.length
 |[],_=>by simp [xu]
 |_::_,[]=>by simp [xu]
 |x::xs,y::ys=>by simp [xu,Pm,Nat.succ_min_succ]
theorem Ma {a b:Addr}(h:Hs a=some (.lst vs))(r:Reps Hs xs vs)(h':Hs b=some (.lst ws))(r':Reps Hs ys ws):jn (Itz K a b) (xu xs ys) Hs where
 go:=λi x Hs1 H1 e g1 g2=>by
  obtain ⟨y,z,ey,ez,rfl⟩:=Pl e;obtain ⟨v,ev,rv⟩:=r.get ey;obtain ⟨w,ew,rw⟩:=r'.get ez;have q1:SqL K H1 a vs:=SqL.of (g2 _ _ (g1 _ _ h));have q2:SqL K H1 b ws:=SqL.of (g2 _ _ (g1 _ _ h'));refine ⟨⟨vs,ws,v,w,q1,q2,ev,ew⟩,λu H2 z=>?_⟩;obtain ⟨p,v',w',hp,rfl,rfl,hv,hw⟩:=z;have e1:=hv vs q1;have e2:=hw ws q2;rw [ev] at e1;rw [ew] at e2;cases e1;cases e2;have g3:=g1.trans (Ext.new (o:= .tup [v,w]) g2 hp).s1;exact ⟨_,.new g2 hp,rep_tup.mpr ⟨p,_,rfl,y4,.cons (rv.mono g3) (.one (rw.mono g3))⟩⟩
 stop:=λHs1 H1 g1 g2=>⟨vs,ws,SqL.of (g2 _ _ (g1 _ _ h)),SqL.of (g2 _ _ (g1 _ _ h')),by rw [r.length,r'.length,Pm];omega⟩
def dZip (a:MA):MA:=λε=>(a ε).bind λxs=>match xs with
 |[.lst ys,.lst zs]=>some (xu ys zs)
 |_=>none
instance {a:MA}[sa:qO ta a]:zd (iZip K ta) (dZip a) where
 h:=λe _ _ _ _ _ rs _ q=>by
  obtain ⟨xs,ex,e1⟩:=bind_some e;split at e1
  ·cases e1;refine sa.h ex rs λvs Hs1 H1 x1 r1=>?_;obtain ⟨v,r,rfl,p1,p2⟩:=reps_cons.mp r1;obtain ⟨v',r',rfl,p3,p4⟩:=reps_cons.mp p2;cases reps_nil.mp p4;obtain ⟨p,ws,rfl,hp,rw1⟩:=rep_lst.mp p1;obtain ⟨p',ws',rfl,hp',rw2⟩:=rep_lst.mp p3;exact ⟨p,p',rfl,⟨ws,SqL.of (x1.s3 _ _ hp)⟩,⟨ws',SqL.of (x1.s3 _ _ hp')⟩,q _ _ _ x1 (Ma hp rw1 hp' rw2)⟩
  ·cases e1
structure RD (S:List Addr)(Hs0 H0 Hs H:Hp)(U:St)(ε:ME):Prop where
 s1:Same Hs0 Hs
 s2:∀ b o,H0 b=some o->b∉S->H b=some o
 s3:Same Hs H
 s4:∀ b,H0 b≠none->Hs0 b=none->Hs b=none
 sh:∀(i:Nat)(x:PV),ε[i]?=some (.sh x)->∃ v,U[i]?=some (some v)/\Rep Hs x v
 ow:∀(i:Nat)(x:PV),ε[i]?=some (.ow x)->∃ a,U[i]?=some (some (.ref a))/\(H0 a=none∨a∈S)/\Hs a=none/\Top Hs H a x
 nd:∀(i j:Nat)(x y:PV)(a:Addr),ε[i]?=some (.ow x)->ε[j]?=some (.ow y)->U[i]?=some (some (.ref a))->U[j]?=some (some (.ref a))->i=j
 len:U.length=ε.length
 pin:∀ a∈S,U[0]?=some (some (.ref a))
 live:∀ a∈S,H a≠none
 str:∀ a∈S,∃ y,ε[0]?=some (.ow y)
 nb:∀(i:Nat)(x:PV),ε[i]?≠some (.bo x)
section
variable {S:List Addr}{Hs0 H0 Hs H Hs' H':Hp}{U:St}{ε:ME}
theorem RD.rs (r:RD S Hs0 H0 Hs H U ε):RS Hs Hs Hs H U ε where
 ext:=⟨.refl _,r.s3,r.s3,λ_ h z=>absurd z h⟩
 sh:=r.sh
 ow:=λi x h=>by obtain ⟨a,h1,_,h3,h4⟩:=r.ow i x h;exact ⟨a,h1,h3,h3,h4⟩
 nd:=r.nd
 len:=r.len
 bo:=λi x h=>absurd h (r.nb i x)
theorem RD.there (r:RD S Hs0 H0 Hs H U ε){b:Addr}(h:H0 b≠none):H b≠none:=by
 by_cases hS:b∈S
 ·exact r.live b hS
 ·cases q:H0 b with
  |none=>exact absurd q h
  |some o=>rw [r.s2 b o q hS];exact λz=>nomatch z
theorem RD.go (r:RD S Hs0 H0 Hs H U ε)(e:Ext Hs H Hs' H'):RD S Hs0 H0 Hs' H' U ε where
 s1:=r.s1.trans e.s1
 s2:=λb o h n=>e.s2 _ _ (r.s2 b o h n)
 s3:=e.s3
 s4:=λb h z=>e.s4 b (r.there h) (r.s4 b h z)
 sh:=λi x q=>by obtain ⟨v,a,b⟩:=r.sh i x q;exact ⟨v,a,b.mono e.s1⟩
 ow:=λi x q=>by
  obtain ⟨a,b,n0,n,t⟩:=r.ow i x q;exact ⟨a,b,n0,e.s4 a t.there n,t.mono e.s1 λo z=>e.s2 _ _ z⟩
 nd:=r.nd
 len:=r.len
 pin:=r.pin
 live:=λa h=>Bj e.s2 (r.live a h)
 str:=r.str
 nb:=r.nb
theorem RD.change (r:RD S Hs0 H0 Hs H U ε){i:Nat}{a:Addr}(hi:ε[i]?=some (.ow x))(ha:U[i]?=some (some (.ref a)))(t:Top Hs (j9 H a o) a y):RD S Hs0 H0 Hs (j9 H a o) U (ε.set i (.ow y)):=by
 obtain ⟨b,hb,n0,n,tx⟩:=r.ow i x hi;rw [ha] at hb;injection hb with hb;injection hb with hb;injection hb with hb;subst hb;have q:=(r.rs).change hi ha t;refine ⟨r.s1,λb u e hS=>?_,λb u e=>?_,r.s4,q.sh,λj z hz=>?_,q.nd,q.len,r.pin,λb hS=>?_,λb hS=>?_,wz r.nb λ_ z=>nomatch z⟩
 ·have hne:b≠a:=λz=>by
   rcases n0 with n0|n0
   ·rw [z,n0] at e;cases e
   ·exact hS (z▸n0)
  rw [v6 hne];exact r.s2 b u e hS
 ·rw [v6 (k7 e n)];exact r.s3 _ _ e
 ·obtain ⟨c,hc,m1,m2,tc⟩:=q.ow j z hz;refine ⟨c,hc,?_,m2,tc⟩;rw [yD] at hz;split at hz
  ·rename_i hij;rw [<- hij,ha] at hc;injection hc with hc;injection hc with hc;injection hc with hc;rw [<- hc];exact n0
  ·obtain ⟨d,hd,m0,_⟩:=r.ow j z hz;rw [hd] at hc;injection hc with hc;injection hc with hc;injection hc with hc;rw [<- hc];exact m0
 ·by_cases hba:b=a
  ·rw [hba,y4];exact λz=>nomatch z
  ·rw [v6 hba];exact r.live b hS
 ·obtain ⟨y',hy⟩:=r.str b hS;rw [yD];split
  ·rename_i h0;rw [if_pos (by rw [h0];exact (yv.mp hy).1)];exact ⟨y,rfl⟩
  ·exact ⟨y',hy⟩
theorem RD.put (r:RD S Hs0 H0 Hs H U ε){i:Nat}(h:Rep Hs x v):RD S Hs0 H0 Hs H (U.set (i+1) (some v)) (ε.set (i+1) (.sh x)):=by
 have q:=(r.rs).put (i:=i+1) h;refine ⟨r.s1,r.s2,r.s3,r.s4,q.sh,λj z hz=>?_,q.nd,q.len,λa hS=>by rw [yk (by omega)];exact r.pin a hS,r.live,λa hS=>by rw [yk (by omega)];exact r.str a hS,wz r.nb λ_ z=>nomatch z⟩;obtain ⟨c,hc,m1,m2,tc⟩:=q.ow j z hz;refine ⟨c,hc,?_,m2,tc⟩;rw [yD] at hz hc;split at hz
 ·split at hz<;>cases hz
 ·rename_i hij;rw [if_neg hij] at hc;obtain ⟨d,hd,m0,_⟩:=r.ow j z hz;rw [hd] at hc;injection hc with hc;injection hc with hc;injection hc with hc;rw [<- hc];exact m0
theorem RD.putO (r:RD S Hs0 H0 Hs H U ε){i:Nat}{a:Addr}(h0:H0 a=none∨a∈S)(h1:Hs a=none)(h2:Top Hs H a x)(ne:∀(j:Nat)(y:PV),ε[j]?=some (.ow y)->U[j]?≠some (some (.ref a))):RD S Hs0 H0 Hs H (U.set (i+1) (some (.ref a))) (ε.set (i+1) (.ow x)):=by
 have q:=(r.rs).putO (i:=i+1) ⟨h1,h1,h2⟩ ne;refine ⟨r.s1,r.s2,r.s3,r.s4,q.sh,λj z hz=>?_,q.nd,q.len,λa hS=>by rw [yk (by omega)];exact r.pin a hS,r.live,λa hS=>by rw [yk (by omega)];exact r.str a hS,wz r.nb λ_ z=>nomatch z⟩;obtain ⟨c,hc,m1,m2,tc⟩:=q.ow j z hz;refine ⟨c,hc,?_,m2,tc⟩;rw [yD] at hz hc;split at hz
 ·rename_i hij;rw [if_pos hij] at hc;split at hc
  ·injection hc with hc;injection hc with hc;injection hc with hc;rw [<- hc];exact h0
  ·cases hc
 ·rename_i hij;rw [if_neg hij] at hc;obtain ⟨d,hd,m0,_⟩:=r.ow j z hz;rw [hd] at hc;injection hc with hc;injection hc with hc;injection hc with hc;rw [<- hc];exact m0
theorem RD.free0 (r:RD S Hs0 H0 Hs H U ε){a:Addr}(h:H a=none):H0 a=none:=by
 cases q:H0 a with
 |none=>rfl
 |some o=>exact absurd h (r.there (by rw [q];exact λz=>nomatch z))
theorem RD.freeze (r:RD S Hs0 H0 Hs H U ε)(i:Nat):∃ Hs',Same Hs Hs'/\RD S Hs0 H0 Hs' H U (fz (i+1) ε):=by
 by_cases h:∃ x,ε[i+1]?=some (.ow x)
 ·obtain ⟨x,hi⟩:=h;obtain ⟨a,ha,n0,n,t⟩:=r.ow (i+1) x hi;have hS:a∉S:=λhS=>by
   obtain ⟨y,hy⟩:=r.str a hS;exact absurd (r.nd 0 (i+1) y x a hy hi (r.pin a hS) ha) (by omega)
  obtain ⟨o,ho,hr⟩:=t.rep n;have g:Same Hs (j9 Hs a o):=λb u e=>by rw [v6 (k7 e n)];exact e
  have ef:fz (i+1) ε=ε.set (i+1) (.sh x):=by unfold fz;rw [hi]
  have n0':H0 a=none:=n0.resolve_right hS;rw [ef];have dn:∀(j:Nat)(y:PV),(ε.set (i+1) (.sh x))[j]?=some (.ow y)->i+1≠j/\ε[j]?=some (.ow y):=λj y q=>by
   rw [yD] at q;split at q
   ·split at q<;>cases q
   ·rename_i hij;exact ⟨hij,q⟩
  refine ⟨j9 Hs a o,g,r.s1.trans g,r.s2,λb u e=>?_,λb h z=>?_,λj y q=>?_,λj y q=>?_,λj k z z' c h1 h2 h3 h4=>r.nd j k z z' c (dn j z h1).2 (dn k z' h2).2 h3 h4,by rw [yf,r.len],r.pin,r.live,(λb hb=>by rw [yk (by omega)];exact r.str b hb),wz r.nb λ_ z=>nomatch z⟩
  ·by_cases hb:b=a
   ·subst hb;rw [y4] at e;cases e;exact ho
   ·rw [v6 hb] at e;exact r.s3 _ _ e
  ·have hb:b≠a:=λe=>h (e▸n0');rw [v6 hb];exact r.s4 b h z
  ·rw [yD] at q;split at q
   ·rename_i hij;split at q
    ·injection q with q;injection q with q;subst q;exact ⟨.ref a,hij▸ha,hr⟩
    ·cases q
   ·obtain ⟨v,e,w⟩:=r.sh j y q;exact ⟨v,e,w.mono g⟩
  ·obtain ⟨hij,hq⟩:=dn j y q;obtain ⟨c,hc,m0,m,tc⟩:=r.ow j y hq;have hne:c≠a:=λe=>hij (r.nd (i+1) j x y a hi hq ha (e▸hc));exact ⟨c,hc,m0,by rw [v6 hne];exact m,tc.mono g λ_ e=>e⟩
 ·refine ⟨Hs,.refl _,?_⟩;unfold fz;split
  ·rename_i x hx;exact absurd ⟨x,hx⟩ h
  ·exact r
end
abbrev W:=ME->(PV->ME->Prop)->Prop
variable{a:W}
abbrev WA:=ME->(List PV->ME->Prop)->Prop
variable{it:WA}
abbrev WT:=ME->(Bool->ME->Prop)->Prop
variable{c:WT}
abbrev WS:=ME->(ME->Prop)->(PV->ME->Prop)->Prop
variable{b:WS}
class SemW (te:TE)(w:W):Prop where
 h:∀{ε Q'},w ε Q'->∀{S Hs0 H0 Hs H U},RD S Hs0 H0 Hs H U ε->∀{Q:VK},(∀ y ε' v Hs' H',Q' y ε'->RD S Hs0 H0 Hs' H' U ε'->Same Hs Hs'->Rep Hs' y v->Q v H')->te U H Q
class jq (ta:TA)(w:WA):Prop where
 h:∀{ε Q'},w ε Q'->∀{S Hs0 H0 Hs H U},RD S Hs0 H0 Hs H U ε->∀{Q:List V->Hp->Prop},(∀ ys ε' vs Hs' H',Q' ys ε'->RD S Hs0 H0 Hs' H' U ε'->Same Hs Hs'->Reps Hs' ys vs->Q vs H')->ta U H Q
class zO (tt:TT)(w:WT):Prop where
 h:∀{ε Q'},w ε Q'->∀{S Hs0 H0 Hs H U},RD S Hs0 H0 Hs H U ε->∀{Q:Bool->Hp->Prop},(∀ b ε' Hs' H',Q' b ε'->RD S Hs0 H0 Hs' H' U ε'->Same Hs Hs'->Q b H')->tt U H Q
class SemWS (ts:TS)(w:WS):Prop where
 h:∀{ε N R},w ε N R->∀{S Hs0 H0 Hs H U},RD S Hs0 H0 Hs H U ε->∀{D:xD},(∀ ε' σ' Hs' H',N ε'->RD S Hs0 H0 Hs' H' σ' ε'->Same Hs Hs'->D.nx σ' H') ->
  (∀ y ε' σ' v Hs' H',R y ε'->RD S Hs0 H0 Hs' H' σ' ε'->Same Hs Hs'->Rep Hs' y v->D.rt v H')->ts D U H
def wP (f:M):W:=λε Q=>∃ y,f ε=some y/\Q y ε
def qJ (f:MB):WT:=λε Q=>∃ y,f ε=some y/\Q y ε
instance (priority:=50){f:M}[s:SemE te f]:SemW te (wP f) where
 h:=λ⟨y,e,q⟩ _ _ _ _ _ _ r _ k=>s.h e r.rs λv Hs' H' x rv=>k y _ v Hs' H' q (r.go x) x.s1 rv
instance (priority:=50){f:MB}[s:qP tt f]:zO tt (qJ f) where
 h:=λ⟨y,e,q⟩ _ _ _ _ _ _ r _ k=>s.h e r.rs λHs' H' x=>k y _ Hs' H' q (r.go x) x.s1
def o9 (g:PV->PV->Option PV)(a b:W):W:=λε Q=>a ε λx ε1=>b ε1 λy ε2=>∃ z,g x y=some z/\Q z ε2
instance {r:R2}{g:PV->PV->Option PV}{ta tb:TE}{b:W}[sr:xw r g][sa:SemW ta a][sb:SemW tb b]:SemW (tOp r ta tb) (o9 g a b) where
 h:=λh _ _ _ _ _ _ rd _ k=>sa.h h rd λx ε1 v Hs1 H1 h1 rd1 g1 r1=>sb.h h1 rd1 λy ε2 w Hs2 H2 h2 rd2 g2 r2=>by
  obtain ⟨z,ez,h2⟩:=h2;exact sr.h ez rd2.s3 (.inl (r1.mono g2)) (.inl r2) λu Hs3 H3 x3 r3=>k z ε2 u Hs3 H3 h2 (rd2.go x3) (g1.trans (g2.trans x3.s1)) r3
def wT (a:W):WT:=λε Q=>a ε λx ε1=>∃ b,pB x=some b/\Q b ε1
instance [sa:SemW te a]:zO (ZL te) (wT a) where
 h:=λh _ _ _ _ _ _ rd _ k=>sa.h h rd λx ε1 v Hs1 H1 h1 rd1 g1 r1=>by
  obtain ⟨b,eb,h2⟩:=h1;cases vB eb;exact ⟨b,rep_at.mp r1,k b ε1 Hs1 H1 h2 rd1 g1⟩
def Xc (a b:WT):WT:=λε Q=>a ε λc ε1=>if c=true then b ε1 Q else Q false ε1
instance {u:TT}{a b:WT}[sa:zO t a][sb:zO u b]:zO (tAnd t u) (Xc a b) where
 h:=λh _ _ _ _ _ _ rd _ k=>sa.h h rd λc ε1 Hs1 H1 h1 rd1 g1=>by
  cases c with
  |true=>exact xg (sb.h (by simpa using h1) rd1 λc2 ε2 Hs2 H2 h2 rd2 g2=>k c2 ε2 Hs2 H2 h2 rd2 (g1.trans g2))
  |false=>exact qT (k false ε1 Hs1 H1 (by simpa using h1) rd1 g1)
def xO:WA:=λε Q=>Q [] ε
def o5 (a:W)(r:WA):WA:=λε Q=>a ε λx ε1=>r ε1 λxs ε2=>Q (x::xs) ε2
instance:jq qM xO where
 h:=λh _ _ _ _ _ _ rd _ k=>k [] _ [] _ _ h rd (.refl _) .nil
instance {r:WA}[sa:SemW te a][sr:jq ta r]:jq (qv te ta) (o5 a r) where
 h:=λh _ _ _ _ _ _ rd _ k=>sa.h h rd λx ε1 v Hs1 H1 h1 rd1 g1 r1=>sr.h h1 rd1 λxs ε2 vs Hs2 H2 h2 rd2 g2 r2=>k _ ε2 _ Hs2 H2 h2 rd2 (g1.trans g2) (.cons (r1.mono g2) r2)
def wTup (a:WA):W:=λε Q=>a ε λxs ε1=>xs.length<=lim/\Q (.tup xs) ε1
instance {a:WA}[sa:jq ta a]:SemW (tTup ta) (wTup a) where
 h:=λh _ _ _ _ _ _ rd _ k=>sa.h h rd λxs ε1 vs Hs1 H1 h1 rd1 g1 r1=>⟨xy (r1.length▸h1.1),λp hp=>k _ ε1 _ _ _ h1.2 (rd1.go (.new rd1.s3 hp)) (g1.trans (Ext.new rd1.s3 hp).s1) (rep_tup.mpr ⟨p,vs,rfl,y4,r1.mono (Ext.new rd1.s3 hp).s1⟩)⟩
def jN:Sp:=λvs H Q _=>∃(a:Addr)(n m:Int),vs=[.ref a,.int m]/\H a=some (.lst [.int n])/\Xh n m/\Q (.int (n % m)) (j9 H a (.lst [.int (n / m)]))
def k9 (n:Int):MSlot:= .ow (.lst [.at (.int n)])
def wTake (i:Nat)(a:W):W:=λε Q=>a ε λx ε1=>∃ n k,x = .at (.int k)/\ε1[i]?=some (k9 n)/\Xh n k/\Q (.at (.int (n % k))) (ε1.set i (k9 (n / k)))
theorem RD.strm_at {i:Nat}{n:Int}(r:RD S Hs0 H0 Hs H U ε)(h:ε[i]?=some (k9 n)):∃ a,U[i]?=some (some (.ref a))/\H a=some (.lst [.int n])/\Hs a=none/\(H0 a=none∨a∈S):=by obtain ⟨a,ha,n0,n1,vs,hv,rv⟩:=r.ow i _ h;obtain ⟨v,w,rfl,p1,p2⟩:=reps_cons.mp rv;cases reps_nil.mp p2;cases rep_at.mp p1;exact ⟨a,ha,hv,n1,n0⟩
def zt (i:Nat):ME->Prop:=λε=>∃ n,ε[i]?=some (k9 n)
def n5 (i:Nat)(a:W):W:=λε Q=>zt i ε/\wTake i a ε Q
instance {i:Nat}[sa:SemW te a]:SemW (xL jN [] E (qv (xt i) (qv te qM))) (n5 i a) where
 h:=λh _ _ _ _ _ _ rd _ k=>by
  obtain ⟨⟨n0,hn0⟩,h⟩:=h;obtain ⟨p,hp,_⟩:=rd.strm_at hn0;refine ⟨_,hp,sa.h h rd λx ε1 v Hs1 H1 h1 rd1 g1 r1=>?_⟩;obtain ⟨n,m,rfl,hn,hc,h2⟩:=h1;obtain ⟨p',hp',hH,hs,_⟩:=rd1.strm_at hn;rw [hp] at hp';injection hp' with hp';injection hp' with hp';injection hp' with hp';subst hp';cases rep_at.mp r1;exact ⟨p,n,m,rfl,hH,hc,k _ _ _ _ _ h2 (rd1.change hn hp ⟨_,y4,.one (rep_at.mpr rfl)⟩) g1 (rep_at.mpr rfl)⟩
structure ExtD (p:Addr)(Hs H Hs' H':Hp):Prop where
 s1:Same Hs Hs'
 s2:∀ b o,H b=some o->b≠p->H' b=some o
 s3:Same Hs' H'
 s4:∀ b,H b≠none->Hs b=none->Hs' b=none
def spD (pre:List PV->Prop)(R:List PV->PV->Prop):Sp:=λvs H Q _=>∃ Hs a n xs ws,vs = .ref a::ws/\Same Hs H/\Hs a=none/\H a=some (.lst [.int n])/\Reps Hs xs ws/\pre xs /\
 ∀ y v n' Hs' H',R xs y->ExtD a Hs H Hs' H'->Hs' a=none->H' a=some (.lst [.int n'])->Rep Hs' y v->Q v H'
section
variable {S:List Addr}{Hs0 H0 Hs H Hs' H':Hp}{U:St}{ε:ME}
theorem RD.drawn (r:RD S Hs0 H0 Hs H U ε){i:Nat}{n n':Int}{p:Addr}(hi:ε[i]?=some (k9 n))(hp:U[i]?=some (some (.ref p)))(x:ExtD p Hs H Hs' H')(np:Hs' p=none)(ep:H' p=some (.lst [.int n'])):RD S Hs0 H0 Hs' H' U (ε.set i (k9 n')):=by
 obtain ⟨p',hp',hH,hs,h0⟩:=r.strm_at hi;rw [hp] at hp';injection hp' with hp';injection hp' with hp';injection hp' with hp';subst hp';have up:∀(j:Nat)(z:PV),(ε.set i (k9 n'))[j]?=some (.ow z)->(j=i/\z = .lst [.at (.int n')])∨(j≠i/\ε[j]?=some (.ow z)):=λj z q=>by
  rw [yD] at q;split at q
  ·rename_i hij;split at q
   ·injection q with q;unfold k9 at q;injection q with q;exact .inl ⟨hij.symm,q.symm⟩
   ·cases q
  ·rename_i hij;exact .inr ⟨Ne.symm hij,q⟩
 have wasOw:∀(j:Nat)(z:PV),(ε.set i (k9 n'))[j]?=some (.ow z)->∃ z',ε[j]?=some (.ow z'):=λj z q=>by
  rcases up j z q with ⟨rfl,_⟩|⟨_,q⟩
  ·exact ⟨_,hi⟩
  ·exact ⟨z,q⟩
 refine ⟨r.s1.trans x.s1,λb o e hS=>x.s2 b o (r.s2 b o e hS) λz=>?_,x.s3,λb h z=>x.s4 b (r.there h) (r.s4 b h z),λj z q=>?_,λj z q=>?_,λj k z z' c h1 h2 h3 h4=>?_,by rw [yf,r.len],r.pin,λb hS=>?_,λb hS=>?_,wz r.nb λ_ z=>by unfold k9 at z;cases z⟩
 ·rcases h0 with h0|h0
  ·rw [z,h0] at e;cases e
  ·exact hS (z▸h0)
 ·rw [yD] at q;split at q
  ·split at q
   ·unfold k9 at q;cases q
   ·cases q
  ·obtain ⟨v,h1,h2⟩:=r.sh j z q;exact ⟨v,h1,h2.mono x.s1⟩
 ·rcases up j z q with ⟨rfl,rfl⟩|⟨hij,q⟩
  ·exact ⟨p,hp,h0,np,_,ep,.one (rep_at.mpr rfl)⟩
  ·obtain ⟨c,hc,m0,m1,tc⟩:=r.ow j z q;have hne:c≠p:=λe=>hij (r.nd j i z _ p q hi (e▸hc) hp);exact ⟨c,hc,m0,x.s4 c tc.there m1,tc.mono x.s1 λo e=>x.s2 c o e hne⟩
 ·obtain ⟨w1,q1⟩:=wasOw j z h1;obtain ⟨w2,q2⟩:=wasOw k z' h2;exact r.nd j k w1 w2 c q1 q2 h3 h4
 ·by_cases hb:b=p
  ·rw [hb,ep];exact λz=>nomatch z
  ·have:=r.live b hS;cases q:H b with
   |none=>exact absurd q this
   |some o=>rw [x.s2 b o q hb];exact λz=>nomatch z
 ·obtain ⟨y',hy⟩:=r.str b hS;rw [yD];split
  ·rename_i h0;rw [if_pos (by rw [h0];exact (yv.mp hy).1)];exact ⟨_,rfl⟩
  ·exact ⟨y',hy⟩
end
def wK (i:Nat)(pre:List PV->Prop)(R:List PV->PV->Prop)(as:WA):W:=λε Q=>zt i ε/\as ε λxs ε1=>zt i ε1/\pre xs/\∀ y n',R xs y->Q y (ε1.set i (k9 n'))
instance {i:Nat}{as:WA}[sa:jq ta as]:SemW (xL (spD pre R) [] E (qv (xt i) ta)) (wK i pre R as) where
 h:=λh _ _ _ _ _ _ rd _ k=>by
  obtain ⟨⟨n0,hn0⟩,h⟩:=h;obtain ⟨p,hp,_⟩:=rd.strm_at hn0;refine ⟨_,hp,sa.h h rd λxs ε1 vs Hs1 H1 h1 rd1 g1 r1=>?_⟩;obtain ⟨⟨n,hn⟩,hpre,h2⟩:=h1;obtain ⟨p',hp',hH,hs,_⟩:=rd1.strm_at hn;rw [hp] at hp';injection hp' with hp';injection hp' with hp';injection hp' with hp';subst hp';refine ⟨Hs1,p,n,xs,vs,by rw [yA],rd1.s3,hs,hH,r1,hpre,λy v n' Hs' H' hR x np ep rv=>?_⟩;exact k y _ v Hs' H' (h2 y n' hR) (rd1.drawn hn hp x np ep) (g1.trans x.s1) rv
def xm:WS:=λε N _=>N ε
def wSeq (a b:WS):WS:=λε N R=>a ε (λε1=>b ε1 N R) R
def c8 (i:Nat)(a:W):WS:=λε N _=>a ε λx ε1=>N (ε1.set i (.sh x))
def wM (i:Nat)(f:M):WS:=λε N _=>∃ x,f ε=some x/\N (ε.set i (.ow x))
def qY (a:W):WS:=λε _ R=>a ε R
def Pe (a:W):WS:=λε N _=>a ε λ_ ε1=>N ε1
def qX (c:WT)(a b:WS):WS:=λε N R=>c ε λk ε1=>if k=true then a ε1 N R else b ε1 N R
def wFz (i:Nat)(a:WS):WS:=λε N R=>a (fz i ε) N R
def Xd (i:Nat)(a:W):WS:=λε N _=>(∃ xs,ε[i]?=some (.ow (.lst xs)))/\a ε λx ε1=>∃ xs,ε1[i]?=some (.ow (.lst xs))/\xs.length<=lim/\N (ε1.set i (.ow (.lst (xs++[x]))))
instance:SemWS WE xm where
 h:=λh _ _ _ _ _ _ rd _ k _=>k _ _ _ _ h rd (.refl _)
instance {t u:TS}{a:WS}[sa:SemWS t a][sb:SemWS u b]:SemWS (tSeq t u) (wSeq a b) where
 h:=λh _ _ _ _ _ _ rd _ k r=>sa.h h rd (λε1 σ1 Hs1 H1 h1 rd1 g1=>sb.h h1 rd1 (λε2 σ2 Hs2 H2 h2 rd2 g2=>k ε2 σ2 Hs2 H2 h2 rd2 (g1.trans g2)) λy ε2 σ2 v Hs2 H2 h2 rd2 g2 rv=>r y ε2 σ2 v Hs2 H2 h2 rd2 (g1.trans g2) rv) r
instance {i:Nat}[sa:SemW te a]:SemWS (zr te (xk (i+1))) (c8 (i+1) a) where
 h:=λh _ _ _ _ _ _ rd _ k _=>sa.h h rd λx ε1 v Hs1 H1 h1 rd1 g1 r1=>k _ _ _ _ h1 (rd1.put r1) g1
instance {i:Nat}{f:M}[sa:xn te f]:SemWS (zr te (xk (i+1))) (wM (i+1) f) where
 h:=λ⟨x,e,h⟩ _ _ _ _ _ _ rd _ k _=>sa.h e rd.rs λa Hs1 H1 x1 n n' t=>k _ _ _ _ h ((rd.go x1).putO (.inl (rd.free0 n)) n' t λj y hj z=>by
  obtain ⟨b,hb,_,_,tb⟩:=rd.ow j y hj;rw [z] at hb;injection hb with hb;injection hb with hb;injection hb with hb;subst hb;exact tb.there n) x1.s1
instance [sa:SemW te a]:SemWS (tRet te) (qY a) where
 h:=λh _ _ _ _ _ _ rd _ _ r=>sa.h h rd λx ε1 v Hs1 H1 h1 rd1 g1 r1=>r x ε1 _ v Hs1 H1 h1 rd1 g1 r1
instance [sa:SemW te a]:SemWS (vO te) (Pe a) where
 h:=λh _ _ _ _ _ _ rd _ k _=>sa.h h rd λx ε1 v Hs1 H1 h1 rd1 g1 r1=>k ε1 _ Hs1 H1 h1 rd1 g1
instance {ta:TS}{a:WS}[sc:zO t c][sa:SemWS ta a][sb:SemWS tb b]:SemWS (tIfS t ta tb) (qX c a b) where
 h:=λh _ _ _ _ _ _ rd _ k r=>sc.h h rd λc ε1 Hs1 H1 h1 rd1 g1=>by
  cases c with
  |true=>exact xg (sa.h (by simpa using h1) rd1 (λε2 σ2 Hs2 H2 h2 rd2 g2=>k ε2 σ2 Hs2 H2 h2 rd2 (g1.trans g2)) λy ε2 σ2 v Hs2 H2 h2 rd2 g2 rv=>r y ε2 σ2 v Hs2 H2 h2 rd2 (g1.trans g2) rv)
  |false=>exact qT (sb.h (by simpa using h1) rd1 (λε2 σ2 Hs2 H2 h2 rd2 g2=>k ε2 σ2 Hs2 H2 h2 rd2 (g1.trans g2)) λy ε2 σ2 v Hs2 H2 h2 rd2 g2 rv=>r y ε2 σ2 v Hs2 H2 h2 rd2 (g1.trans g2) rv)
instance {i:Nat}{t:TS}{a:WS}[sa:SemWS t a]:SemWS t (wFz (i+1) a) where
 h:=λh _ _ _ _ _ _ rd _ k r=>by
  obtain ⟨Hs',g,rd'⟩:=rd.freeze i;exact sa.h h rd' (λε2 σ2 Hs2 H2 h2 rd2 g2=>k ε2 σ2 Hs2 H2 h2 rd2 (g.trans g2)) λy ε2 σ2 v Hs2 H2 h2 rd2 g2 rv=>r y ε2 σ2 v Hs2 H2 h2 rd2 (g.trans g2) rv
instance {i:Nat}[sa:SemW te a]:SemWS (vO (tBM K "list" Vl (xt i) (qv te qM))) (Xd i a) where
 h:=λh _ _ _ _ _ _ rd _ k _=>by
  obtain ⟨⟨xs0,hx0⟩,h⟩:=h;obtain ⟨p,hp,n0,n,vs,hv,rv⟩:=rd.ow i _ hx0;refine ⟨_,hp,.inl ⟨rfl,vs,SqL.of hv⟩,sa.h h rd λx ε1 v Hs1 H1 h1 rd1 g1 r1=>?_⟩;obtain ⟨xs,hx,hl,h2⟩:=h1;obtain ⟨p',hp',_,n1,ws,hw,rw⟩:=rd1.ow i _ hx;rw [hp] at hp';injection hp' with hp';injection hp' with hp';injection hp' with hp';subst hp';exact ⟨p,ws,v,rfl,rfl,hw,JG (by rw [rw.length];exact hl),k _ _ _ _ h2 (rd1.change hx hp ⟨_,y4,rw.append (.one r1)⟩) g1⟩
def wPop (i:Nat)(a:W):W:=λε Q=>(∃ xs,ε[i]?=some (.ow (.lst xs)))/\a ε λx ε1=>∃ xs k y,ε1[i]?=some (.ow (.lst xs))/\x = .at (.int k)/\0<=k/\k<xs.length/\xs.length<=lim/\xs[k.toNat]?=some y/\Q y (ε1.set i (.ow (.lst (xs.eraseIdx k.toNat))))
theorem Reps.eraseIdx {H:Hp}:∀(i:Nat){xs:List PV}{vs:List V},Reps H xs vs->Reps H (xs.eraseIdx i) (vs.eraseIdx i)
 |i,[],vs,h=>by rw [reps_nil.mp h];exact .nil
 |0,x::xs,vs,h=>by obtain ⟨v,r,rfl,p,q⟩:=reps_cons.mp h;exact q
 |i+1,x::xs,vs,h=>by obtain ⟨v,r,rfl,p,q⟩:=reps_cons.mp h;exact .cons p (Reps.eraseIdx i q)
instance {i:Nat}[sa:SemW te a]:SemW (tBM K "list" KD (xt i) (qv te qM)) (wPop i a) where
 h:=λh _ _ _ _ _ _ rd _ k=>by
  obtain ⟨⟨xs0,hx0⟩,h⟩:=h;obtain ⟨p,hp,n0,n,vs,hv,rv⟩:=rd.ow i _ hx0;refine ⟨_,hp,.inl ⟨rfl,vs,SqL.of hv⟩,sa.h h rd λx ε1 v Hs1 H1 h1 rd1 g1 r1=>?_⟩;obtain ⟨xs,j,y,hx,rfl,j0,j1,hl,hy,h2⟩:=h1;obtain ⟨p',hp',_,n1,ws,hw,rw⟩:=rd1.ow i _ hx;rw [hp] at hp';injection hp' with hp';injection hp' with hp';injection hp' with hp';subst hp';cases rep_at.mp r1;obtain ⟨u,hu,ru⟩:=rw.get hy;have hlim:lim=1000000:=rfl;refine ⟨p,ws,j,j.toNat,u,rfl,rfl,hw,by omega,by omega,?_,hu,k _ _ _ _ _ h2 (rd1.change hx hp ⟨_,y4,rw.eraseIdx j.toNat⟩) g1 ru⟩;unfold seqIndex?;have e1:(if j<0 then j+(ws.length:Int) else j)=j:=if_neg (by omega);simp only [e1];rw [if_pos];rw [rw.length];simp only [yp,decide_eq_true_eq];exact ⟨j0,j1⟩
class SemWI (ti:TI)(w:WA):Prop where
 h:∀{ε Q'},w ε Q'->∀{S Hs0 H0 Hs H U},RD S Hs0 H0 Hs H U ε->∀{R:It->Hp->Prop},(∀ xs ε' J Hs' H',Q' xs ε'->RD S Hs0 H0 Hs' H' U ε'->Same Hs Hs'->jn J xs Hs'->R J H')->ti U H R
def wIp (f:MA):WA:=λε Q=>∃ xs,f ε=some xs/\Q xs ε
instance (priority:=50){ti:TI}{f:MA}[s:zd ti f]:SemWI ti (wIp f) where
 h:=λ⟨xs,e,q⟩ _ _ _ _ _ _ r _ k=>s.h e r.rs λJ Hs' H' x ok=>k xs _ J Hs' H' q (r.go x) x.s1 ok
def Yc (a:W):WA:=λε Q=>a ε λx ε1=>∃ j:Int,x = .at (.int j)/\-(lim:Int)<=j/\j<=lim/\Q (qB 0 j.toNat) ε1
instance [sa:SemW te a]:SemWI (Jw (qv te qM)) (Yc a) where
 h:=λh _ _ _ _ _ _ rd _ k=>sa.h h rd λx ε1 v Hs1 H1 h1 rd1 g1 r1=>by
  obtain ⟨j,rfl,h2,h3,h4⟩:=h1;cases rep_at.mp r1;have hlim:(lim:Int)=1000000:=rfl;exact ⟨j,rfl,by omega,by omega,k _ ε1 _ Hs1 H1 h4 rd1 g1 Jz⟩
class SemWG (tg:TG)(g:MG):Prop where
 h:∀{x ε ε'},g x ε=some ε'->∀{S Hs0 H0 Hs H U v},RD S Hs0 H0 Hs H U ε->Rep Hs x v->∀{Q:St->Hp->Prop},(∀ σ',RD S Hs0 H0 Hs H σ' ε'->Q σ' H)->tg v U H Q
instance {i:Nat}:SemWG (xk (i+1)) (v7 (i+1)) where
 h:=λe _ _ _ _ _ _ _ rd r _ q=>by cases e;exact q _ (rd.put r)
def Xe (g:MG)(f:WS):List PV->WS
 |[]=>λε N _=>N ε
 |x::xs=>λε N R=>∃ ε1,g x ε=some ε1/\f ε1 (λε2=>Xe g f xs ε2 N R) R
def wFor (it:WA)(g:MG)(f:WS):WS:=λε N R=>it ε λxs ε1=>Xe g f xs ε1 N R
theorem RD.rebase (r:RD S Hs0 H0 Hs H U ε):RD S Hs H0 Hs H U ε :=
 ⟨.refl _,r.s2,r.s3,λ_ _ z=>z,r.sh,r.ow,r.nd,r.len,r.pin,r.live,r.str,r.nb⟩
theorem RD.unbase {Hb Hx:Hp}(b:RD S Hs0 H0 Hb Hx U ε)(r:RD S Hb H0 Hs H σ' ε'):RD S Hs0 H0 Hs H σ' ε' :=
 ⟨b.s1.trans r.s1,r.s2,r.s3,λc h z=>r.s4 c h (b.s4 c h z),r.sh,r.ow,r.nd,r.len,r.pin,r.live,r.str,r.nb⟩
instance {g:MG}{f:WS}[si:SemWI wi it][sg:SemWG tg g][sf:SemWS tb f]:SemWS (tFor wi tg tb) (wFor it g f) where
 h:=λ{ε N R} h S Hs0 H0 _ _ _ rd D k rt=>si.h h rd λxs ε1 J Hs1 H1 h1 rd1 g1 ok=>by
  refine ⟨λn m U H=>m=xs.length-n/\n<=xs.length/\∃ Hs ε,RD S Hs1 H0 Hs H U ε/\Xe g f (xs.drop n) ε N R,⟨xs.length,by simp,yo _,Hs1,ε1,rd1.rebase,h1⟩,?_⟩;rintro n m U H ⟨rfl,hn,Hs,ε2,r2,h2⟩;by_cases hlt:n<xs.length
  ·have hd:xs.drop n=xs[n]::xs.drop (n+1):=uW hlt;rw [hd] at h2;obtain ⟨ε3,e3,h3⟩:=h2;obtain ⟨go,yl⟩:=ok.go n xs[n] Hs H (by simp [hlt]) r2.s1 r2.s3;refine .inr ⟨go,λσ' H'=>n+1<=xs.length/\∃ Hs ε,RD S Hs1 H0 Hs H' σ' ε/\Xe g f (xs.drop (n+1)) ε N R,λσ' H' p=>⟨xs.length-(n+1),by omega,rfl,p.1,p.2⟩,λv H3 y=>?_⟩;obtain ⟨Hs3,x3,r3⟩:=yl v H3 y;refine sg.h e3 (r2.go x3) r3 λσ4 rd4=>sf.h h3 rd4 (λε5 σ5 Hs5 H5 h5 rd5 g5=>⟨hlt,Hs5,ε5,rd5,h5⟩) λy ε5 σ5 v Hs5 H5 h5 rd5 g5 rv=>rt y ε5 σ5 v Hs5 H5 h5 (rd1.unbase rd5) (g1.trans rd5.s1) rv
  ·have en:n=xs.length:=by omega
   subst en;rw [uq] at h2;exact .inl ⟨ok.stop Hs H r2.s1 r2.s3,k _ _ _ _ h2 (rd1.unbase r2) (g1.trans r2.s1)⟩
def qC:List (Option Nat)->ME->ME->ME
 |some i::cap,s::ε2,ε1=>(qC cap ε2 ε1).set i s
 |none::cap,_::ε2,ε1=>qC cap ε2 ε1
 |_,_,ε1=>ε1
theorem Xa:∀(cap:List (Option Nat))(ε2 ε1:ME),(qC cap ε2 ε1).length=ε1.length
 |some i::cap,s::ε2,ε1=>by unfold qC;rw [yf,Xa]
 |none::cap,_::ε2,ε1=>by unfold qC;exact Xa cap ε2 ε1
 |[],_,_=>rfl
 |some _::_,[],_=>rfl
 |none::_,[],_=>rfl
theorem WK:∀(cap:List (Option Nat))(ε2 ε1:ME)(i:Nat),some i∉cap->(qC cap ε2 ε1)[i]?=ε1[i]?
 |some k::cap,s::ε2,ε1,i,h=>by
  unfold qC;rw [yk (λz=>h (by rw [z];exact yK))];exact WK cap ε2 ε1 i λz=>h (yN _ z)
 |none::cap,_::ε2,ε1,i,h=>by unfold qC;exact WK cap ε2 ε1 i λz=>h (yN _ z)
 |[],_,_,_,_=>rfl
 |some _::_,[],_,_,_=>rfl
 |none::_,[],_,_,_=>rfl
theorem WJ:∀(cap:List (Option Nat))(ε2 ε1:ME)(i:Nat),cap.length=ε2.length->some i∈cap->i<ε1.length->(cap.filterMap id).Nodup->∃ j:Nat,cap[j]?=some (some i)/\(qC cap ε2 ε1)[i]?=ε2[j]?
 |some k::cap,s::ε2,ε1,i,hl,h,hi,nd=>by
  rw [uQ (by rfl)] at nd;by_cases e:k=i
  ·subst e;refine ⟨0,rfl,?_⟩;unfold qC;rw [List.getElem?_set_self (by rw [Xa];exact hi)];rfl
  ·obtain ⟨j,h1,h2⟩:=WJ cap ε2 ε1 i (by simpa using hl) (by rcases yP.mp h with z|z;exact absurd (Option.some.inj z).symm e;exact z) hi (yh.mp nd).2;refine ⟨j+1,by simpa using h1,?_⟩;unfold qC;rw [yk e];simpa using h2
 |none::cap,s::ε2,ε1,i,hl,h,hi,nd=>by
  rw [List.filterMap_cons_none (by rfl)] at nd;obtain ⟨j,h1,h2⟩:=WJ cap ε2 ε1 i (by simpa using hl) (by rcases yP.mp h with z|z;exact nomatch z;exact z) hi nd;exact ⟨j+1,by simpa using h1,by unfold qC;simpa using h2⟩
 |[],_,_,_,_,h,_,_=>nomatch h
 |some _::_,[],_,_,hl,_,_,_=>by simp at hl
 |none::_,[],_,_,hl,_,_,_=>by simp at hl
def rst:List Nat->ME->ME
 |[],ε=>ε
 |t::ts,ε=>(rst ts ε).set t .no
theorem Ba:∀(ts:List Nat)(ε:ME),(rst ts ε).length=ε.length
 |[],_=>rfl
 |t::ts,ε=>by unfold rst;rw [yf,Ba]
theorem KZ:∀(ts:List Nat)(ε:ME)(i:Nat)(s:MSlot),(rst ts ε)[i]?=some s->s = .no∨(i∉ts/\ε[i]?=some s)
 |[],_,_,_,h=> .inr ⟨yt,h⟩
 |t::ts,ε,i,s,h=>by
  unfold rst at h;rw [yD] at h;split at h
  ·split at h
   ·cases h;exact .inl rfl
   ·cases h
  ·rename_i hne;rcases KZ ts ε i s h with z|⟨z1,z2⟩
   ·exact .inl z
   ·exact .inr ⟨λm=>by rcases yP.mp m with m|m;exact hne m.symm;exact z1 m,z2⟩
theorem RD.reset (r:RD [] Hs0 H0 Hs H σ' ε)(b:But ts U σ'):RD [] Hs0 H0 Hs H U (rst ts ε):=by
 have at1:∀(i:Nat)(s:MSlot),(rst ts ε)[i]?=some s->s = .no∨(σ'[i]?=U[i]?/\ε[i]?=some s):=λi s h=>by
  rcases KZ ts ε i s h with z|⟨z1,z2⟩
  ·exact .inl z
  ·exact .inr ⟨b.2 i z1,z2⟩
 refine ⟨r.s1,r.s2,r.s3,r.s4,λi x h=>?_,λi x h=>?_,λi j x y a h1 h2 h3 h4=>?_,by rw [Ba,<- r.len,b.1],(λ_ z=>nomatch z),(λ_ z=>nomatch z),(λ_ z=>nomatch z),λi x h=>by
  rcases at1 i _ h with z|⟨_,z2⟩
  ·cases z
  ·exact r.nb i x z2⟩
 ·rcases at1 i _ h with z|⟨z1,z2⟩
  ·cases z
  ·rw [<- z1];exact r.sh i x z2
 ·rcases at1 i _ h with z|⟨z1,z2⟩
  ·cases z
  ·rw [<- z1];exact r.ow i x z2
 ·rcases at1 i _ h1 with z|⟨z1,z2⟩
  ·cases z
  ·rcases at1 j _ h2 with w|⟨w1,w2⟩
   ·cases w
   ·exact r.nd i j x y a z2 w2 (z1.trans h3) (w1.trans h4)
class Yk (tg:TG)(ts:outParam (List Nat))(g:MG):Prop where
 h:∀{x ε ε'},g x ε=some ε'->∀{Hs0 H0 Hs H U v},RD [] Hs0 H0 Hs H U ε->Rep Hs x v->∀{Q:St->Hp->Prop},(∀ σ',RD [] Hs0 H0 Hs H σ' ε'->But ts U σ'->Q σ' H)->tg v U H Q
theorem RD.put0 (r:RD [] Hs0 H0 Hs H U ε){i:Nat}(h:Rep Hs x v):RD [] Hs0 H0 Hs H (U.set i (some v)) (ε.set i (.sh x)):=by
 have q:=(r.rs).put (i:=i) h;refine ⟨r.s1,r.s2,r.s3,r.s4,q.sh,λj z hz=>?_,q.nd,q.len,(λ_ z=>nomatch z),(λ_ z=>nomatch z),(λ_ z=>nomatch z),wz r.nb λ_ z=>nomatch z⟩;obtain ⟨c,hc,m1,m2,tc⟩:=q.ow j z hz;refine ⟨c,hc,?_,m2,tc⟩;rw [yD] at hz hc;split at hz
 ·split at hz<;>cases hz
 ·rename_i hij;rw [if_neg hij] at hc;obtain ⟨d,hd,m0,_⟩:=r.ow j z hz;rw [hd] at hc;injection hc with hc;injection hc with hc;injection hc with hc;rw [<- hc];exact m0
instance {i:Nat}:Yk (xk i) [i] (v7 i) where
 h:=λe _ _ _ _ _ _ rd r _ q=>by
  cases e;exact q _ (rd.put0 r) ⟨yf,λj hj=>yk λz=>hj (by rw [<- z];exact yC.mpr rfl)⟩
def jP (g:MG)(c:WT)(f:W)(ts:List Nat):List PV->List PV->ME->(List PV->ME->Prop)->Prop
 |[],ys,ε,Q=>Q ys ε
 |x::xs,ys,ε,Q=>∃ ε1,g x ε=some ε1/\c ε1 λb ε2=>if b=true then f ε2 λy ε3=>jP g c f ts xs (ys++[y]) (rst ts ε3) Q else jP g c f ts xs ys (rst ts ε2) Q
def Xf:WT:=λε Q=>Q true ε
instance:zO tYes Xf where
 h:=λh _ _ _ _ _ _ rd _ k=>k true _ _ _ h rd (.refl _)
def ZR (cap:List (Option Nat))(ts:List Nat)(it:WA)(g:MG)(c:WT)(f:W):W:=λε Q=>it ε λxs ε1=>ze cap ts=true/\xs.length<=lim /\
 jP g c f ts xs [] (t9 cap ε1) λys ε2=>((∃ y:PV,ε1[0]?=some (MSlot.ow y))->∃ y:PV,(qC cap ε2 ε1)[0]?=some (MSlot.ow y))/\Q (.lst ys) (qC cap ε2 ε1)
noncomputable def xF (U:St)(ε:ME)(H:Hp):Hp:=λb=>open Classical in if ∃(i:Nat)(x:PV),ε[i]?=some (MSlot.ow x)/\U[i]?=some (some (V.ref b)) then none else H b
theorem JF {b:Addr}(h:xF U ε H b=some o):H b=some o/\∀(i:Nat)(x:PV),ε[i]?=some (MSlot.ow x)->U[i]?≠some (some (V.ref b)):=by
 unfold xF at h;split at h
 ·cases h
 ·rename_i hn;exact ⟨h,λi x h1 h2=>hn ⟨i,x,h1,h2⟩⟩
theorem GD {b:Addr}(h:xF U ε H b=none):H b=none∨∃(i:Nat)(x:PV),ε[i]?=some (MSlot.ow x)/\U[i]?=some (some (V.ref b)):=by
 unfold xF at h;split at h
 ·rename_i hn;exact .inr hn
 ·exact .inl h
theorem Cz {cap:List (Option Nat)}(nb:∀(i:Nat)(x:PV),ε[i]?≠some (.bo x)):∀(i:Nat)(x:PV),(t9 cap ε)[i]?≠some (.bo x):=λi x h=>by
 unfold t9 at h;rw [yM] at h;cases ho:cap[i]? with
 |none=>rw [ho] at h;cases h
 |some o =>
  rw [ho] at h;cases o with
  |none=>cases h
  |some k =>
   cases hk:ε[k]? with
   |none=>simp only [uP,hk,ur] at h;cases h
   |some s=>simp only [uP,hk,uo] at h;cases h;exact nb k x hk
theorem RD.block {cap:List (Option Nat)}(hc:(cap.filterMap id).Nodup)(r:RD S Hs0 H0 Hs H U ε):RD [] Hs (xF (p6 cap U) (t9 cap ε) H) Hs H (p6 cap U) (t9 cap ε):=by have q:=(r.rs).cap hc;refine ⟨.refl _,λb o e _=>(JF e).1,r.s3,λ_ _ z=>z,q.sh,λi x h=>?_,q.nd,q.len,(λ_ z=>nomatch z),(λ_ z=>nomatch z),(λ_ z=>nomatch z),Cz r.nb⟩;obtain ⟨a,h1,h2,h3,h4⟩:=q.ow i x h;refine ⟨a,h1,.inl ?_,h3,h4⟩;unfold xF;rw [if_pos ⟨i,x,h,h1⟩]
theorem js {cap:List (Option Nat)}{i k:Nat}(h:cap[i]?=some (some k))(e:(p6 cap U)[i]?=some (some v)):U[k]?=some (some v):=by
 unfold p6 at e;rw [yM,h] at e;simp only [uP,yE,Option.some.injEq] at e;cases hs:U[k]? with
 |none=>rw [hs] at e;cases e
 |some o=>rw [hs] at e;simp at e;rw [e]
theorem UB {cap:List (Option Nat)}{i:Nat}(h:(t9 cap ε)[i]?=some (.ow x)):∃ k:Nat,cap[i]?=some (some k)/\ε[k]?=some (.ow x):=by
 unfold t9 at h;rw [yM] at h;cases ho:cap[i]? with
 |none=>rw [ho] at h;cases h
 |some o =>
  rw [ho] at h;cases o with
  |none=>cases h
  |some k =>
   cases hk:ε[k]? with
   |none=>simp only [uP,hk,ur] at h;cases h
   |some s=>simp only [uP,hk,uo] at h;cases h;exact ⟨k,rfl,hk⟩
theorem RD.unblock {Hs1 H1 Hs2 H2:Hp}{ε1 ε2:ME}{cap:List (Option Nat)}(hc:(cap.filterMap id).Nodup)(r:RD S Hs0 H0 Hs1 H1 U ε1)(q:RD [] Hs1 (xF (p6 cap U) (t9 cap ε1) H1) Hs2 H2 (p6 cap U) ε2)(st:(∃ y,ε1[0]?=some (.ow y))->∃ y,(qC cap ε2 ε1)[0]?=some (.ow y)):RD S Hs0 H0 Hs2 H2 U (qC cap ε2 ε1):=by
 have hl:cap.length=ε2.length:=by rw [<- q.len];unfold p6;rw [yZ]
 have at1:∀(i:Nat)(s:MSlot),(qC cap ε2 ε1)[i]?=some s->(some i∉cap/\ε1[i]?=some s)∨∃ j:Nat,cap[j]?=some (some i)/\ε2[j]?=some s:=λi s h=>by
  by_cases hi:some i∈cap
  ·have hlt:i<ε1.length:=by have:=(yv.mp h).1;rwa [Xa] at this
   obtain ⟨j,h1,h2⟩:=WJ cap ε2 ε1 i hl hi hlt hc;exact .inr ⟨j,h1,h2▸h⟩
  ·exact .inl ⟨hi,WK cap ε2 ε1 i hi▸h⟩
 have own0:∀ a,xF (p6 cap U) (t9 cap ε1) H1 a=none->H0 a=none∨a∈S:=λa h=>by
  rcases GD h with h|⟨i,x,h1,h2⟩
  ·exact .inl (r.free0 h)
  ·obtain ⟨k,hk,hx⟩:=UB h1;obtain ⟨c,hc',m0,_⟩:=r.ow k x hx;rw [js hk h2] at hc';injection hc' with hc';injection hc' with hc';injection hc' with hc';rw [hc'];exact m0
 have keep:∀(k:Nat)(x:PV)(a:Addr),some k∉cap->ε1[k]?=some (.ow x)->U[k]?=some (some (.ref a))->∀ o,H1 a=some o->xF (p6 cap U) (t9 cap ε1) H1 a=some o:=λk x a hk hx ha o ho=>by
  cases z:xF (p6 cap U) (t9 cap ε1) H1 a with
  |some u=>rw [<- ho,(JF z).1]
  |none =>
   rcases GD z with z|⟨i,y,h1,h2⟩
   ·rw [z] at ho;cases ho
   ·obtain ⟨m,hm,hy⟩:=UB h1;have:=r.nd k m x y a hx hy ha (js hm h2);subst this;exact absurd (uU hm) hk
 have ow':∀(i:Nat)(x:PV),(qC cap ε2 ε1)[i]?=some (.ow x)->∃ a,U[i]?=some (some (.ref a))/\(H0 a=none∨a∈S)/\Hs2 a=none/\Top Hs2 H2 a x:=λi x h=>by
  rcases at1 i _ h with ⟨hi,e⟩|⟨j,hj,e⟩
  ·obtain ⟨a,ha,m0,m1,t⟩:=r.ow i x e;refine ⟨a,ha,m0,?_,t.mono q.s1 λo ho=>q.s2 a o (keep i x a hi e ha o ho) yt⟩;cases z:H1 a with
   |none=>exact absurd z t.there
   |some o=>exact q.s4 a (by rw [keep i x a hi e ha o z];exact λw=>nomatch w) m1
  ·obtain ⟨a,ha,m0,m1,t⟩:=q.ow j x e;exact ⟨a,js hj ha,own0 a (m0.resolve_right yt),m1,t⟩
 have str':∀ a∈S,∃ y,(qC cap ε2 ε1)[0]?=some (.ow y):=λa hS=>st (r.str a hS);refine ⟨r.s1.trans q.s1,λb o e hS=>?_,q.s3,λb h z=>?_,λi x h=>?_,ow',λi j x y a h1 h2 h3 h4=>?_,by rw [Xa];exact r.len,r.pin,λb hS=>?_,str',λi x h=>by
  rcases at1 i _ h with ⟨_,e⟩|⟨j,_,e⟩
  ·exact r.nb i x e
  ·exact q.nb j x e⟩
 ·have e1:=r.s2 b o e hS;refine q.s2 b o ?_ yt;cases z:xF (p6 cap U) (t9 cap ε1) H1 b with
  |some u=>rw [<- e1,(JF z).1]
  |none =>
   rcases own0 b z with w|w
   ·rw [w] at e;cases e
   ·exact absurd w hS
 ·have z1:=r.s4 b h z;by_cases hL:xF (p6 cap U) (t9 cap ε1) H1 b=none
  ·rcases own0 b hL with w|w
   ·exact absurd w h
   ·obtain ⟨y,hy⟩:=str' b w;obtain ⟨a,ha,_,m1,_⟩:=ow' 0 y hy;rw [r.pin b w] at ha;injection ha with ha;injection ha with ha;injection ha with ha;rw [ha];exact m1
  ·exact q.s4 b hL z1
 ·rcases at1 i _ h with ⟨hi,e⟩|⟨j,hj,e⟩
  ·obtain ⟨v,hv,rv⟩:=r.sh i x e;exact ⟨v,hv,rv.mono q.s1⟩
  ·obtain ⟨v,hv,rv⟩:=q.sh j x e;exact ⟨v,js hj hv,rv⟩
 ·rcases at1 i _ h1 with ⟨hi,e⟩|⟨k,hk,e⟩
  ·rcases at1 j _ h2 with ⟨hj,e'⟩|⟨l,hl',e'⟩
   ·exact r.nd i j x y a e e' h3 h4
   ·-- one of the block's own,one that it does not see
    obtain ⟨a',ha',m0,_,_⟩:=q.ow l y e';have ea:=js hl' ha';rw [h4] at ea;injection ea with ea;injection ea with ea;injection ea with ea;subst ea;obtain ⟨c,hc1,_,_,t⟩:=r.ow i x e;rw [h3] at hc1;injection hc1 with hc1;injection hc1 with hc1;injection hc1 with hc1;subst hc1;cases z:H1 a with
    |none=>exact absurd z t.there
    |some o=>have w:=keep i x a hi e h3 o z;rw [m0.resolve_right yt] at w;cases w
  ·rcases at1 j _ h2 with ⟨hj,e'⟩|⟨l,hl',e'⟩
   ·obtain ⟨a',ha',m0,_,_⟩:=q.ow k x e;have ea:=js hk ha';rw [h3] at ea;injection ea with ea;injection ea with ea;injection ea with ea;subst ea;obtain ⟨c,hc1,_,_,t⟩:=r.ow j y e';rw [h4] at hc1;injection hc1 with hc1;injection hc1 with hc1;injection hc1 with hc1;subst hc1;cases z:H1 a with
    |none=>exact absurd z t.there
    |some o=>have w:=keep j y a hj e' h4 o z;rw [m0.resolve_right yt] at w;cases w
   ·obtain ⟨a1,ha1,_⟩:=q.ow k x e;obtain ⟨a2,ha2,_⟩:=q.ow l y e';have e1:=js hk ha1;have e2:=js hl' ha2;rw [h3] at e1;rw [h4] at e2;injection e1 with e1;injection e1 with e1;injection e1 with e1;injection e2 with e2;injection e2 with e2;injection e2 with e2;subst e1;subst e2;have kl:=q.nd k l x y a e e' ha1 ha2;subst kl;rw [hk] at hl';injection hl' with hl';injection hl' with hl'
 ·obtain ⟨y,hy⟩:=str' b hS;obtain ⟨a,ha,_,_,t⟩:=ow' 0 y hy;rw [r.pin b hS] at ha;injection ha with ha;injection ha with ha;injection ha with ha;rw [ha];exact t.there
instance {cap:List (Option Nat)}{g:MG}{f:W}[si:SemWI wi it][sg:Yk tg ts g][sc:zO tt c][sf:SemW te f]:SemW (QX wi tg tt te cap) (ZR cap ts it g c f) where
 h:=λ{ε Q'} h S Hs0 H0 Hs H U rd Q k=>si.h h rd λxs ε1 J Hs1 H1 h1 rd1 g1 ok=>by
  obtain ⟨hcap,hl,h1⟩:=h1;unfold ze at hcap;rw [yp] at hcap;have hnd:=yd hcap.1;have wk:∀ i∈ts,(p6 cap U)[i]?=some none:=λi hi=>by
   unfold p6;rw [yM,yd (uV.mp hcap.2 i hi)];rfl
  refine ⟨λn m zs H=>m=xs.length-n/\n<=xs.length/\∃ Hs2 ws ε2,RD [] Hs1 (xF (p6 cap U) (t9 cap ε1) H1) Hs2 H (p6 cap U) ε2/\Reps Hs2 ws zs/\ws.length<=n /\
    jP g c f ts (xs.drop n) ws ε2 (λys ε3=>((∃ y:PV,ε1[0]?=some (MSlot.ow y))->∃ y:PV,(qC cap ε3 ε1)[0]?=some (MSlot.ow y))/\Q' (PV.lst ys) (qC cap ε3 ε1)),
   ⟨xs.length,by simp,yo _,Hs1,[],_,rd1.block hnd,.nil,yY _,h1⟩,?_⟩
  rintro n m zs H2 ⟨rfl,hn,Hs2,ws,ε2,r2,rz,hw,h2⟩;refine ⟨xy (by rw [rz.length];omega),?_⟩;by_cases hlt:n<xs.length
  ·have hd:xs.drop n=xs[n]::xs.drop (n+1):=uW hlt;rw [hd] at h2;obtain ⟨ε3,e3,h3⟩:=h2;obtain ⟨go,yl⟩:=ok.go n xs[n] Hs2 H2 (by simp [hlt]) r2.s1 r2.s3;refine .inr ⟨go,λv H3 y=>?_⟩;obtain ⟨Hs3,x3,r3⟩:=yl v H3 y;refine sg.h e3 (r2.go x3) r3 λσ4 rd4 bt=>⟨bt.wk wk,sc.h h3 rd4 λb ε5 Hs5 H5 h5 rd5 g5=>?_⟩;cases b with
   |true=>refine xg (sf.h (by simpa using h5) rd5 λy ε6 u Hs6 H6 h6 rd6 g6 ru=>⟨xs.length-(n+1),by omega,rfl,hlt,Hs6,ws++[y],_,rd6.reset bt,?_,by rw [yH];simp;omega,h6⟩);exact (rz.mono (x3.s1.trans (g5.trans g6))).snoc ru
   |false=>exact qT ⟨xs.length-(n+1),by omega,rfl,hlt,Hs5,ws,_,rd5.reset bt,rz.mono (x3.s1.trans g5),by omega,by simpa using h5⟩
  ·have en:n=xs.length:=by omega
   subst en;rw [uq] at h2;refine .inl ⟨ok.stop Hs2 H2 r2.s1 r2.s3,λD hD=>?_⟩;have rd2:=rd1.unblock hnd r2 h2.1;exact k _ _ _ _ _ h2.2 (rd2.go (.new rd2.s3 hD)) (g1.trans (r2.s1.trans (Ext.new rd2.s3 hD).s1)) (rep_lst.mpr ⟨D,zs,rfl,y4,rz.mono (Ext.new rd2.s3 hD).s1⟩)
section
variable {P:Program}{w:World}{K:Fg}{mg:Str->Option Value}{base:Heap}
theorem vJ {i:Nat}:(xs.map MSlot.sh++List.replicate n .no)[i]?≠some (.ow x):=λh=>by
 by_cases hi:i<xs.length
 ·rw [yn (by rw [yZ];exact hi),yM] at h;obtain ⟨y,_,z⟩:=yF.mp h;cases z
 ·rw [yc (by rw [yZ];omega),uN] at h;split at h<;>cases h
theorem Vs {i:Nat}:(xs.map MSlot.sh++List.replicate n .no)[i]?≠some (.bo x):=λh=>by
 by_cases hi:i<xs.length
 ·rw [yn (by rw [yZ];exact hi),yM] at h;obtain ⟨y,_,z⟩:=yF.mp h;cases z
 ·rw [yc (by rw [yZ];omega),uN] at h;split at h<;>cases h
theorem Hr {a:Addr}{n:Int}(s:Same Hs H)(ha:Hs a=none)(hH:H a=some (.lst [.int n]))(r:Reps Hs xs ws):RD [a] Hs H Hs H (L2.start N (.ref a::ws)) (k9 n::xs.map .sh++List.replicate (N.length-(xs.length+1)) .no):=by
 have q:=QR (N:=N) (xs:= .at (.ref a)::xs) s (.cons (rep_at.mpr rfl) r);have tl:∀(i:Nat)(sl:MSlot),(k9 n::xs.map .sh++List.replicate (N.length-(xs.length+1)) .no)[i+1]?=some sl->((PV.at (.ref a)::xs).map MSlot.sh++List.replicate (N.length-(PV.at (.ref a)::xs).length) .no)[i+1]?=some sl:=λi sl h=>h;refine ⟨.refl _,λb o e _=>e,s,λ_ _ z=>z,λi x h=>?_,λi x h=>?_,λi j x y b h1 h2 _ _=>?_,?_,λb hb=>?_,λb hb=>?_,(λb hb=>⟨_,rfl⟩),λi x h=>by
  cases i with
  |zero=>unfold k9 at h;simp at h
  |succ i=>exact Vs (xs:=PV.at (.ref a)::xs) (tl i _ h)⟩
 ·cases i with
  |zero=>unfold k9 at h;simp at h
  |succ i=>exact q.sh (i+1) x (tl i _ h)
 ·cases i with
  |zero=>unfold k9 at h;simp at h;subst h;refine ⟨a,?_,.inr (yC.mpr rfl),ha,_,hH,.one (rep_at.mpr rfl)⟩;unfold L2.start;rfl
  |succ i =>
   obtain ⟨c,h1,_⟩:=q.ow (i+1) x (tl i _ h);exact absurd (tl i _ h) λz=>by
    have:=vJ (i:=i+1) (x:=x) (xs:=PV.at (.ref a)::xs) (n:=N.length-(PV.at (.ref a)::xs).length);exact this z
 ·cases i with
  |zero =>
   cases j with
   |zero=>rfl
   |succ j=>exact absurd (tl j _ h2) (vJ (xs:=PV.at (.ref a)::xs))
  |succ i=>exact absurd (tl i _ h1) (vJ (xs:=PV.at (.ref a)::xs))
 ·exact q.len
 ·rw [yC.mp hb];unfold L2.start;rfl
 ·rw [yC.mp hb,hH];exact λz=>nomatch z
theorem okD {x:Str}{f:Addr}{k:Nat}(F:Fun K x qual st f fd)(S:w5 N ps (z9 st))(hpre:∀ xs,pre xs->xs.length+1=ps.length)(hb:∀(cdv:Value)(A:Around)(outer:List Env)(s:Shared)(H:Hp)(E:XK),Room k (A.deeper (PyProof.Rows.envOfC qual (z9 st) s.heap.objs.size f cdv)) -> ∃ t,PSs (qQ v5 P w K mg base N qual (z9 st) f cdv A outer s H E).nox (i0 st) t/\SemWS t b)(hw:∀ xs n,pre xs->b (k9 n::xs.map .sh++List.replicate (N.length-(xs.length+1)) .no) (λ_=>False) λy ε=>R xs y/\zt 0 ε):FnOk P w K mg base v5 (k+1) f fd ps (spD pre R):=by
 refine F.ok S (λvs H Q E h=>?_) (λcdv A outer s H vs Q E hr h=>?_)
 ·obtain ⟨Hs,a,n,xs,ws,rfl,_,_,_,r,hp,_⟩:=h;rw [yS,r.length];exact hpre xs hp
 ·obtain ⟨Hs,a,n,xs,ws,rfl,sm,ha,hH,r,hp,q⟩:=h;obtain ⟨t,ht,sem⟩:=hb cdv A outer s H E hr;refine ⟨t,ht,sem.h (hw xs n hp) (Hr sm ha hH r) (λε U Hs' H' z _ _=>z.elim) λy ε U v Hs' H' hR rd g rv=>?_⟩;obtain ⟨hR,n',hn'⟩:=hR;obtain ⟨a',ha',hH',hs',_⟩:=rd.strm_at hn';rw [rd.pin a (yC.mpr rfl)] at ha';injection ha' with ha';injection ha' with ha';injection ha' with ha';subst ha';refine q y v n' Hs' H' hR ⟨g,λb o e hb=>rd.s2 b o e λz=>hb (yC.mp z),rd.s3,λb h z=>rd.s4 b h z⟩ hs' hH' rv
end
def spN (pre:List PV->Prop)(R:List PV->PV->Prop):Sp:=λvs H Q _=>∃ Hs xs,Same Hs H/\Reps Hs xs vs/\pre xs/\∀ y a Hs' H',R xs y->Ext Hs H Hs' H'->H a=none->Hs' a=none->Top Hs' H' a y->Q (.ref a) H'
def spV (pre:List PV->Prop)(R:List PV->PV->Prop):Sp:=λvs H Q _=>∃ Hs xs,Same Hs H/\Reps Hs xs vs/\pre xs/\∀ y v Hs' H',R xs y->Ext Hs H Hs' H'->Rep Hs' y v->Q v H'
def Ye (i:Nat)(pre:List PV->Prop)(R:List PV->PV->Prop)(as:WA):WS:=λε N _=>as ε λxs ε1=>pre xs/\∀ y,R xs y->N (ε1.set i (.ow y))
instance {i:Nat}{as:WA}[sa:jq ta as]:SemWS (zr (xL (spN pre R) [] E ta) (xk (i+1))) (Ye (i+1) pre R as) where
 h:=λh _ _ _ _ _ _ rd _ k _=>sa.h h rd λxs ε1 vs Hs1 H1 h1 rd1 g1 r1=>by
  refine ⟨Hs1,xs,rd1.s3,by rw [yA];exact r1,h1.1,λy a Hs' H' hR x n n' t=>?_⟩;refine k _ _ _ _ (h1.2 y hR) ((rd1.go x).putO (.inl (rd1.free0 n)) n' t λj z hj e=>?_) (g1.trans x.s1);obtain ⟨b,hb,_,_,tb⟩:=rd1.ow j z hj;rw [e] at hb;injection hb with hb;injection hb with hb;injection hb with hb;subst hb;exact tb.there n
def Pd (pre:List PV->Prop)(R:List PV->PV->Prop)(as:WA):W:=λε Q=>as ε λxs ε1=>pre xs/\∀ y,R xs y->Q y ε1
instance {as:WA}[sa:jq ta as]:SemW (xL (spV pre R) [] E ta) (Pd pre R as) where
 h:=λh _ _ _ _ _ _ rd _ k=>sa.h h rd λxs ε1 vs Hs1 H1 h1 rd1 g1 r1 =>
  ⟨Hs1,xs,rd1.s3,by rw [yA];exact r1,h1.1,λy v Hs' H' hR x rv=>k y ε1 v Hs' H' (h1.2 y hR) (rd1.go x) (g1.trans x.s1) rv⟩
def wL (pre0:List PV->Prop)(R0:List PV->PV->Prop)(a0:MA)(pre:List PV->Prop)(R:List PV->PV->Prop)(as:MA):W:=λε Q=>∃ xs0 xs,a0 ε=some xs0/\as ε=some xs/\pre0 xs0/\(∀ y,R0 xs0 y->∃ n,y = .lst [.at (.int n)])/\pre xs/\∀ y,R xs y->Q y ε
instance {t0:TA}{E':XK}[s0:qO t0 a0][sa:qO ta as]:SemW (xL (spD pre R) [] E (qv (xL (spN pre0 R0) [] E' t0) ta)) (wL pre0 R0 a0 pre R as) where
 h:=λ{ε Q'} hh S Hs0 H0 Hs H U rd Q k=>by
  obtain ⟨xs0,xs,e0,e1,hp0,hR0,hp,h⟩:=hh;refine s0.h e0 rd.rs λvs0 Hs1 H1 x1 r1=>?_;refine ⟨Hs1,xs0,x1.s3,by rw [yA];exact r1,hp0,λy a Hs2 H2 hR x2 n n' t=>?_⟩;obtain ⟨m,rfl⟩:=hR0 y hR;have rd2:=(rd.go x1).go x2;refine sa.h e1 rd2.rs λvs Hs3 H3 x3 r3=>?_;obtain ⟨ws,hw,rw⟩:=t;obtain ⟨v,r,rfl,p1,p2⟩:=reps_cons.mp rw;cases reps_nil.mp p2;cases rep_at.mp p1;have hw3:=x3.s2 _ _ hw;have n3:Hs3 a=none:=x3.s4 a (by rw [hw];exact λz=>nomatch z) n';refine ⟨Hs3,a,m,xs,vs,by rw [yA],x3.s3,n3,hw3,r3,hp,λz u m' Hs' H' hRz xd na ea ru=>?_⟩;have rd3:=rd2.go x3;have an:∀(j:Nat)(y:PV),ε[j]?=some (MSlot.ow y)->U[j]?≠some (some (V.ref a)):=λj y hj e=>by
   obtain ⟨b,hb,_,_,tb⟩:=(rd.go x1).ow j y hj;rw [e] at hb;injection hb with hb;injection hb with hb;injection hb with hb;subst hb;exact tb.there n
  have h0a:=(rd.go x1).free0 n;refine k z _ u Hs' H' (h z hRz) ⟨rd3.s1.trans xd.s1,λb o e hS=>xd.s2 b o (rd3.s2 b o e hS) (λw=>by rw [w,h0a] at e;cases e),xd.s3,λb hb w=>xd.s4 b (rd3.there hb) (rd3.s4 b hb w),λi x hx=>?_,λi x hx=>?_,rd3.nd,rd3.len,rd3.pin,λb hS=>?_,rd3.str,rd3.nb⟩ (x1.s1.trans (x2.s1.trans (x3.s1.trans xd.s1))) ru
  ·obtain ⟨v,hv,rv⟩:=rd3.sh i x hx;exact ⟨v,hv,rv.mono xd.s1⟩
  ·obtain ⟨b,hb,m0,m1,tb⟩:=rd3.ow i x hx;have hne:b≠a:=λw=>an i x hx (w▸hb);exact ⟨b,hb,m0,xd.s4 b tb.there m1,tb.mono xd.s1 λo ho=>xd.s2 b o ho hne⟩
  ·have hl:=rd3.live b hS;have hne:b≠a:=λw=>by
    have:=(rd.go x1).live b hS;rw [w] at this;exact this n
   cases q:H3 b with
   |none=>exact absurd q hl
   |some o=>rw [xd.s2 b o q hne];exact λz=>nomatch z
section
variable {P:Program}{w:World}{K:Fg}{mg:Str->Option Value}{base:Heap}
theorem KQ (s:Same Hs H)(r:Reps Hs xs vs):RD [] Hs H Hs H (L2.start N vs) (xs.map .sh++List.replicate (N.length-xs.length) .no):=by have q:=QR (N:=N) s r;exact ⟨.refl _,λb o e _=>e,s,λ_ _ z=>z,q.sh,λi x h=>absurd h vJ,q.nd,q.len,(λ_ z=>nomatch z),(λ_ z=>nomatch z),(λ_ z=>nomatch z),λ_ _=>Vs⟩
theorem okV {x:Str}{f:Addr}{k:Nat}(F:Fun K x qual st f fd)(S:w5 N ps (z9 st))(hpre:∀ xs,pre xs->xs.length=ps.length)(hb:∀(cdv:Value)(A:Around)(outer:List Env)(s:Shared)(H:Hp)(E:XK),Room k (A.deeper (PyProof.Rows.envOfC qual (z9 st) s.heap.objs.size f cdv)) -> ∃ t,PSs (qQ v5 P w K mg base N qual (z9 st) f cdv A outer s H E).nox (i0 st) t/\SemWS t b)(hw:∀ xs,pre xs->b (xs.map .sh++List.replicate (N.length-xs.length) .no) (λ_=>False) λy _=>R xs y):FnOk P w K mg base v5 (k+1) f fd ps (spV pre R):=by
 refine F.ok S (λvs H Q E h=>?_) (λcdv A outer s H vs Q E hr h=>?_)
 ·obtain ⟨Hs,xs,_,r,hp,_⟩:=h;rw [r.length];exact hpre xs hp
 ·obtain ⟨Hs,xs,sm,r,hp,q⟩:=h;obtain ⟨t,ht,sem⟩:=hb cdv A outer s H E hr;refine ⟨t,ht,sem.h (hw xs hp) (KQ sm r) (λε U Hs' H' z _ _=>z.elim) λy ε U v Hs' H' hR rd g rv=>?_⟩;exact q y v Hs' H' hR ⟨g,λb o e=>rd.s2 b o e yt,rd.s3,rd.s4⟩ rv
def scr (K:Fg)(ns:List Int):PV:= .op λH v=>∃ a,v = .ref a/\SqL K H a (ns.map V.int)
theorem Rl {K:Fg}{ns:List Int}(s:Same Hs H)(r:Rep Hs (scr K ns) v):∃ a,v = .ref a/\SqL K H a (ns.map V.int):=by obtain ⟨H1,s1,a,rfl,q⟩:=rep_op.mp r;exact ⟨a,rfl,(s1.trans s).seq q⟩
def QV (K:Fg):Sp:=λvs H Q _=>∃(a:Addr)(ns:List Int),vs=[.ref a]/\SqL K H a (ns.map V.int)/\ns.length<=63/\∀ H',Q (.bl true) H'
theorem okL {x:Str}{f:Addr}{k:Nat}(F:Fun K x qual st f fd)(S:w5 N ["script"] (z9 st))(hb:∀ (cdv:Value) (A:Around) (outer:List Env) (s:Shared) (H:Hp) (E:XK),Room k (A.deeper (PyProof.Rows.envOfC qual (z9 st) s.heap.objs.size f cdv)) -> ∃ t,PSs (qQ v5 P w K mg base N qual (z9 st) f cdv A outer s H E).nox (i0 st) t/\SemWS t b)(hw:∀ ns:List Int,ns.length<=63->b (.sh (scr K ns)::List.replicate (N.length-1) .no) (λ_=>False) λy _=>y = .at (.bl true)):FnOk P w K mg base v5 (k+1) f fd ["script"] (QV K):=by
 refine F.ok S (λvs H Q E h=>?_) (λcdv A outer s H vs Q E hr h=>?_)
 ·obtain ⟨a,ns,rfl,_⟩:=h;rfl
 ·obtain ⟨a,ns,rfl,hS,h63,q⟩:=h;obtain ⟨t,ht,sem⟩:=hb cdv A outer s H E hr;have r:Reps H [scr K ns] [.ref a]:= .one (rep_op.mpr ⟨H,.refl _,a,rfl,hS⟩);refine ⟨t,ht,sem.h (hw ns h63) (KQ (N:=N) (.refl H) r) (λε U Hs' H' z _ _=>z.elim) λy ε U v Hs' H' hR rd g rv=>?_⟩;subst hR;cases rep_at.mp rv;exact q H'
end
variable {fr:Bool}
def Ya (m:List PV->Option PV)(as:WA):W:=λε Q=>as ε λxs ε1=>∃ y,m xs=some y/\Q y ε1
instance {as:WA}[sa:jq ta as]:SemW (xL (v8 m) [] E ta) (Ya m as) where
 h:=λh _ _ _ _ _ _ rd _ k=>sa.h h rd λxs ε1 vs Hs1 H1 h1 rd1 g1 r1=>by
  obtain ⟨y,ey,h2⟩:=h1;exact ⟨Hs1,xs,y,rd1.s3,by rw [yA];exact r1,ey,λv Hs' H' x rv=>k y ε1 v Hs' H' h2 (rd1.go x) (g1.trans x.s1) rv⟩
class Xl (tg:TGs)(g:List PV->ME->Option ME):Prop where
 h:∀{xs ε ε'},g xs ε=some ε'->∀{S Hs0 H0 Hs H U vs},RD S Hs0 H0 Hs H U ε->Reps Hs xs vs->∀{Q:St->Hp->Prop},(∀ σ',RD S Hs0 H0 Hs H σ' ε'->Q σ' H)->tg vs U H Q
instance:Xl gNil jb where
 h:=λ{xs ε ε'} e {_ _ _ _ _ _ _} rs r {_} q=>by
  unfold jb at e;split at e
  ·cases e;exact ⟨reps_nil.mp r,q _ rs⟩
  ·cases e
instance {t:TG}{u:TGs}{g:MG}{r:List PV->ME->Option ME}[sg:SemWG t g][sr:Xl u r]:Xl (XF t u) (xh g r) where
 h:=λ{xs ε ε'} e {_ _ _ _ _ _ _} rs rr {_} q=>by
  unfold xh at e;split at e
  ·obtain ⟨ε1,e1,e2⟩:=bind_some e;obtain ⟨v,w,rfl,r1,r2⟩:=reps_cons.mp rr;exact ⟨v,w,rfl,sg.h e1 rs r1 λσ1 rs1=>sr.h e2 rs1 r2 λσ2 rs2=>q _ rs2⟩
  ·cases e
instance {t:TGs}{g:List PV->ME->Option ME}[sg:Xl t g]:SemWG (gTup K n t) (jc n g) where
 h:=λ{x ε ε'} e {_ _ _ _ _ _ _} rs rr {_} q=>by
  unfold jc at e;split at e
  ·split at e
   ·rename_i hl;obtain ⟨a,vs,rfl,h,r⟩:=rep_tup.mp rr;exact ⟨a,vs,rfl,SqT.of (rs.s3 _ _ h),by rw [r.length];exact hl,sg.h e rs r λσ' rs'=>q _ rs'⟩
   ·cases e
  ·cases e
class qZ (w:W):Prop where
 h:∀{ε:ME}{P P':PV->ME->Prop},(∀ y e,P y e->P' y e)->w ε P->w ε P'
class Xj (w:WA):Prop where
 h:∀{ε:ME}{P P':List PV->ME->Prop},(∀ y e,P y e->P' y e)->w ε P->w ε P'
class jQ (w:WT):Prop where
 h:∀{ε:ME}{P P':Bool->ME->Prop},(∀ y e,P y e->P' y e)->w ε P->w ε P'
class jo (w:WS):Prop where
 h:∀{ε:ME}{N N':ME->Prop}{R R':PV->ME->Prop},(∀ e,N e->N' e)->(∀ y e,R y e->R' y e)->w ε N R->w ε N' R'
instance {f:M}:qZ (wP f) where h:=λk ⟨y,e,q⟩=>⟨y,e,k _ _ q⟩
instance {f:MB}:jQ (qJ f) where h:=λk ⟨y,e,q⟩=>⟨y,e,k _ _ q⟩
instance {g:PV->PV->Option PV}{b:W}[A:qZ a][B:qZ b]:qZ (o9 g a b) where h:=λk h=>A.h (λ_ _ h1=>B.h (λ_ _ ⟨z,e,q⟩=>⟨z,e,k _ _ q⟩) h1) h
instance:jQ Xf where h:=λk h=>k _ _ h
theorem XN {c:Bool}{A B A' B':Prop}(h1:A->A')(h2:B->B')(h:if c=true then A else B):if c=true then A' else B':=by
 cases c with
 |true=>exact xg (h1 (by simpa using h))
 |false=>exact qT (h2 (by simpa using h))
instance:Xj xO where h:=λk h=>k _ _ h
instance {i:Nat}[A:qZ a]:qZ (n5 i a) where h:=λk h=>⟨h.1,A.h (λ_ _ ⟨n,m,e1,e2,e3,q⟩=>⟨n,m,e1,e2,e3,k _ _ q⟩) h.2⟩
instance {i:Nat}{a:WA}[A:Xj a]:qZ (wK i pre R a) where h:=λk h=>⟨h.1,A.h (λ_ _ ⟨h1,h2,h3⟩=>⟨h1,h2,λy n r=>k _ _ (h3 y n r)⟩) h.2⟩
instance :qZ (wL pre0 R0 a0 pre R as) where
 h:=λk ⟨xs0,xs,e0,e1,h1,h2,h3,h4⟩=>⟨xs0,xs,e0,e1,h1,h2,h3,λy r=>k _ _ (h4 y r)⟩
instance {i:Nat}[A:qZ a]:qZ (wPop i a) where h:=λk h=>⟨h.1,A.h (λ_ _ ⟨xs,j,y,e1,e2,e3,e4,e5,e6,q⟩=>⟨xs,j,y,e1,e2,e3,e4,e5,e6,k _ _ q⟩) h.2⟩
instance {f:MA}:Xj (wIp f) where h:=λk ⟨y,e,q⟩=>⟨y,e,k _ _ q⟩
theorem Yb {g:MG}{c:WT}{f:W}{ts:List Nat}[C:jQ c][F:qZ f]{Q Q':List PV->ME->Prop}(k:∀ y e,Q y e->Q' y e):∀(xs ys:List PV)(ε:ME),jP g c f ts xs ys ε Q->jP g c f ts xs ys ε Q'
 |[],ys,ε,h=>k _ _ h
 |x::xs,ys,ε,h=>by
  obtain ⟨ε1,e1,h1⟩:=h;exact ⟨ε1,e1,C.h (λb ε2 h2=>XN (λh3=>F.h (λy ε3 h4=>Yb k xs _ _ h4) h3) (λh3=>Yb k xs _ _ h3) h2) h1⟩
instance {cap:List (Option Nat)}{g:MG}{f:W}[I:Xj it][C:jQ c][F:qZ f]:qZ (ZR cap ts it g c f) where
 h:=λk h=>I.h (λ_ _ ⟨h1,h2,h3⟩=>⟨h1,h2,Yb (λ_ _ ⟨q1,q2⟩=>⟨q1,k _ _ q2⟩) _ _ _ h3⟩) h
instance:jo xm where h:=λk _ h=>k _ h
instance {i:Nat}[A:qZ a]:jo (c8 i a) where h:=λk _ h=>A.h (λ_ _ h1=>k _ h1) h
instance {a:WS}[C:jQ c][A:jo a][B:jo b]:jo (qX c a b) where h:=λk r h=>C.h (λ_ _ h1=>XN (λh2=>A.h k r h2) (λh2=>B.h k r h2) h1) h
instance {i:Nat}[A:qZ a]:jo (Xd i a) where h:=λk _ h=>⟨h.1,A.h (λ_ _ ⟨xs,e1,e2,q⟩=>⟨xs,e1,e2,k _ q⟩) h.2⟩
theorem Jd {g:MG}{c:WT}{f:W}{ts:List Nat}{Q:List PV->ME->Prop}[C:jQ c][F:qZ f](I:List PV->List PV->ME->Prop)(hd:∀ ys ε,I [] ys ε->Q ys ε)(hs:∀ x xs ys ε,I (x::xs) ys ε->∃ ε1,g x ε=some ε1/\c ε1 λb ε2=>if b=true then f ε2 λy ε3=>I xs (ys++[y]) (rst ts ε3) else I xs ys (rst ts ε2)):∀(xs ys:List PV)(ε:ME),I xs ys ε->jP g c f ts xs ys ε Q
 |[],ys,ε,h=>hd ys ε h
 |x::xs,ys,ε,h=>by
  obtain ⟨ε1,e1,h1⟩:=hs x xs ys ε h;exact ⟨ε1,e1,C.h (λb ε2 h2=>XN (λh3=>F.h (λy ε3 h4=>Jd I hd hs xs _ _ h4) h3) (λh3=>Jd I hd hs xs _ _ h3) h2) h1⟩
theorem UJ {g:MG}{f:W}{Q:List PV->ME->Prop}[F:qZ f](I:List PV->List PV->ME->Prop)(hd:∀ ys ε,I [] ys ε->Q ys ε)(hs:∀ x xs ys ε,I (x::xs) ys ε->∃ ε1,g x ε=some ε1/\f ε1 λy ε3=>I xs (ys++[y]) (rst ts ε3))(xs ys:List PV)(ε:ME)(h:I xs ys ε):jP g Xf f ts xs ys ε Q :=
 Jd I hd (λx xs ys ε h=>by
  obtain ⟨ε1,e,q⟩:=hs x xs ys ε h;refine ⟨ε1,e,?_⟩;show if true=true then (f ε1 λy ε3=>I xs (ys++[y]) (rst ts ε3)) else I xs ys (rst ts ε1)
  rw [if_pos rfl];exact q) xs ys ε h
theorem JI {g:MG}{f:WS}{N:ME->Prop}{R:PV->ME->Prop}[F:jo f](I:List PV->ME->Prop)(hd:∀ ε,I [] ε->N ε)(hs:∀ x xs ε,I (x::xs) ε->∃ ε1,g x ε=some ε1/\f ε1 (λε2=>I xs ε2) R):∀(xs:List PV)(ε:ME),I xs ε->Xe g f xs ε N R
 |[],ε,h=>hd ε h
 |x::xs,ε,h=>by
  obtain ⟨ε1,e1,h1⟩:=hs x xs ε h;exact ⟨ε1,e1,F.h (λε2 h2=>JI I hd hs xs ε2 h2) (λ_ _ z=>z) h1⟩
section
variable {ε ε1:ME}{a b:MS}{f g:M}{x y z:PV}{i:Nat}{o:Option Out}
theorem u6 (h:a ε=some (.nx ε1))(k:b ε1=o):y0 a b ε=o:=by unfold y0;rw [h];exact k
theorem qz (h:f ε=some x):o6 i f ε=some (.nx (ε.set i (.sh x))):=by unfold o6;rw [h];rfl
theorem Gg (h:f ε=some x):Qf i f ε=some (.nx (ε.set i (.ow x))):=by unfold Qf;rw [h];rfl
theorem m4 (h:f ε=some x):u7 f ε=some (.rt x):=by unfold u7;rw [h];rfl
theorem w6 {G:PV->PV->Option PV}(h1:f ε=some x)(h2:g ε=some y)(h:G x y=r):z6 G f g ε=r:=by unfold z6;rw [h1];show Option.bind (g ε) _=_;rw [h2];exact h
theorem j5 (h1:as ε=some xs)(h:m xs=r):x9 m as ε=r:=by unfold x9;rw [h1];exact h
theorem v4 {r:MA}(h1:f ε=some x)(h2:r ε=some xs):q8 f r ε=some (x::xs):=by unfold q8;rw [h1];show Option.bind (r ε) _=_;rw [h2];rfl
theorem qy {c:MB}(h:c ε=some false)(k:b ε=o):o3 c a b ε=o:=by unfold o3;rw [h];exact k
theorem XC {it:MA}(h:it ε=some xs)(k:zh G a xs ε=o):jX it G a ε=o:=by unfold jX;rw [h];exact k
theorem Jp {lo hi:Option Int}(h1:f ε=some (.lst xs))(h2:l ε=some lo)(h3:u ε=some hi):zB f l u ε=some (.lst (zU xs lo hi)):=by unfold zB;rw [h1];show Option.bind (l ε) _=_;rw [h2];show Option.bind (u ε) _=_;rw [h3];rfl
theorem zY (h:as ε=some xs)(hl:xs.length<=lim):n9 as ε=some (.lst xs):=by unfold n9;rw [h];show (if _ then _ else _)=_;rw [if_pos hl]
theorem vd (h:as ε=some xs)(hl:xs.length<=lim):qR as ε=some (.tup xs):=by unfold qR;rw [h];show (if _ then _ else _)=_;rw [if_pos hl]
theorem Gc {cap:List (Option Nat)}{it:MA}{c:MB}(h:it ε=some xs)(hc:ze cap ts=true)(hl:xs.length<=lim)(k:qi G c f (t9 cap ε) xs=some ys):k6 cap ts it G c f ε=some (.lst ys):=by unfold k6;rw [h];show (if _ then _ else _)=_;rw [if_pos ⟨hc,hl⟩,k];rfl
end
theorem Zp (h:xs.length+ys.length<=lim):p7 (.lst xs) (.lst ys)=some (.lst (xs++ys)):=by show (if _ then _ else _)=_;rw [if_pos h]
theorem jw {k:Nat}{b:MS}(hl:xs.length=k)(h:b (xs.map .sh++List.replicate (n-k) .no)=some (.rt y)):xE n k b xs=some y:=by unfold xE;rw [if_pos hl,h];rfl
theorem qk {k:Nat}{b:MS}(hl:xs.length=k)(h:b (xs.map .sh++List.replicate (n-k) .no)=some (.rt y)):p8 n k b xs=some y:=by unfold p8;rw [if_pos hl,h];rfl
theorem Vc {f:PV->PV->Option Bool}:∀{xs:List PV},(∀ x∈xs,f x x=some true)->zo f xs xs=some true
 |[],_=>rfl
 |x::xs,h=>by unfold zo;rw [h x yK];show Option.bind (zo f xs xs) _=_;rw [Vc λy hy=>h y (yN _ hy)];rfl
def jH:Nat->PV->Prop
 |_,.at u=>g0 u=true
 |n+1,.lst xs=>∀ x∈xs,jH n x
 |n+1,.tup xs=>∀ x∈xs,jH n x
 |_,_=>False
theorem Zy:∀(n:Nat){x:PV},jH n x->peq n x x=some true
 |0,x,h=>by
  cases x with
  |«at» u=>show (if _ then _ else _)=_;rw [if_pos ⟨h,h⟩,XB h]
  |_=>exact h.elim
 |n+1,x,h=>by
  cases x with
  |«at» u=>show (if _ then _ else _)=_;rw [if_pos ⟨(show g0 u=true from h),h⟩,XB h]
  |lst xs=>show (if _ then _ else _)=_;rw [if_pos rfl];exact Vc λy hy=>Zy n (h y hy)
  |tup xs=>show Option.bind (zo (peq n) xs xs) _=_;rw [Vc λy hy=>Zy n (h y hy)];show some (true&&(xs.length==xs.length))=_;rw [beq_self_eq_true];rfl
  |_=>exact h.elim
theorem JU (h:jH 6 x):pEq x x=some (.at (.bl true)):=by unfold pEq;rw [Zy 6 h];rfl
theorem vC (h:jH 6 x):qt x x=some (.at (.bl false)):=by unfold qt;rw [Zy 6 h];rfl
class xv (K:Fg)(C:Addr):Prop where
 c:Cls K C
class i9 (K:Fg)(C:Addr)(f:Str):Prop where
 n:NoAttr K C f
def wm (f:Str):List Str->List PV->Option PV
 |n::ns,x::xs=>if f=n then some x else wm f ns xs
 |_,_=>none
theorem GE {H:Hp}{f:Str}{y:PV}:∀{fs:List (Str×V)}{xs:List PV},Reps H xs (fs.map (·.2))->wm f (fs.map (·.1)) xs=some y->∃ v,fs.lookup f=some v/\Rep H y v
 |[],xs,r,h=>by cases xs<;>cases h
 |p::fs,xs,r,h=>by
  cases xs with
  |nil=>cases h
  |cons x xs =>
   obtain ⟨v,w,e,p1,p2⟩:=reps_cons.mp r;rw [yT] at e;injection e with e1 e2;subst e1 e2;rw [yT] at h;unfold wm at h;rw [uY];split at h
   ·rename_i hf;cases h;rw [hf,beq_self_eq_true];exact ⟨p.2,rfl,p1⟩
   ·rename_i hf;rw [beq_eq_false_iff_ne.mpr hf];exact GE p2 h
def qo (C:Addr)(f:Str)(a:M):M:=λε=>(a ε).bind λx=>match x with
 | .ob C' ns xs=>if C'=C then wm f ns xs else none
 |_=>none
theorem CK {a:M}(h:qo C f a ε=some y):∃ ns xs,a ε=some (.ob C ns xs)/\wm f ns xs=some y:=by
 unfold qo at h;obtain ⟨x,ex,h1⟩:=bind_some h;split at h1
 ·split at h1
  ·rename_i hc;subst hc;exact ⟨_,_,ex,h1⟩
  ·cases h1
 ·cases h1
instance {a:M}[c:xv K C][n:i9 K C f][s:n8 te a]:SemE (tFld K te f) (qo C f a) where
 h:=λe _ _ _ _ _ rs _ q=>by
  obtain ⟨ns,xs,ea,el⟩:=CK e;refine s.h ea rs λv Hs1 H1 x1 r1=>?_;obtain ⟨p,dx,fs,rfl,hp,hk,hr⟩:=Vm x1.s3 r1;rw [<- hk] at el;obtain ⟨u,hu,ru⟩:=GE hr el;exact ⟨p,C,dx,fs,u,rfl,hp,c.c,n.n,hu,q u _ _ x1 ru⟩
theorem xq {ta:TE}(hK:X.K=K)(he:PE X e ta)(hb:attributeBase e f X.env (eval e X.env)=eval e X.env:=by rfl):PE X (.Attribute e f pos) (tFld K ta f):=by subst hK;exact Nx he hb
structure Mt (P:Program)(w:World)(K:Fg)(mg:Str->Option Value)(base:Heap)(k:Nat)(C:Addr)(m:Str)(ps:List Str)(sp:Sp):Prop where
 ex:∃ f fd,FnOk P w K mg base v5 k f fd ps sp/\vQ K C m f/\Cls K C/\Binds K fd ps []
section
variable {X:Cx}{k j:Nat}{C:Addr}{m:Str}{ps:List Str}{sp:Sp}{o e:Expr}{es:List Expr}{ta:TE}{t:TA}{apos pos:Pos}
theorem Kd (c:Mt X.prog X.w X.K X.mg X.base k C m ps sp)(hr:Room j X.A)(hj:k<=j)(ho:PE X o ta)(ha:PA X (e::es) t)
  (hst:starEach (e::es) X.env=(false,eval e X.env)::starEach es X.env:=by rfl) (hpl:(backTo pos (starEach es X.env)).any (·.1)=false:=by rfl)
  (ht:eval (.Call (.Attribute o m apos) (e::es) [] pos) X.env=(do
   let ov <- eval o X.env
   standAt apos.atName
   let (f,first) <- holding [ov] (getMethod ov m pl)
   callWith pos f first (backTo pos (starEach (e::es) X.env)) (backToKw pos (keywordEach [] X.env))):=by rfl) :
  PE X (.Call (.Attribute o m apos) (e::es) [] pos) (zJ C m sp [] E0 ta t):=by
 obtain ⟨f,fd,F,hm,hc,hb⟩:=c.ex;exact Kc ho hc hm F (hr.mono hj) hb .nil Zu ha hst hpl ht
theorem ji (c:Mt X.prog X.w X.K X.mg X.base k C m ps sp)(hr:Room j X.A)(hj:k<=j)(ho:PE X o ta)
  (ht:eval (.Call (.Attribute o m apos) [] [] pos) X.env=(do
   let ov <- eval o X.env
   standAt apos.atName
   let (f,first) <- holding [ov] (getMethod ov m pl)
   callWith pos f first (backTo pos (starEach [] X.env)) (backToKw pos (keywordEach [] X.env))):=by rfl) :
  PE X (.Call (.Attribute o m apos) [] [] pos) (zJ C m sp [] E0 ta qM):=by
 obtain ⟨f,fd,F,hm,hc,hb⟩:=c.ex;exact Nz ho hc hm F (hr.mono hj) hb .nil Zu ht
end
variable {fr:Bool}
def zk:PV->Option v9
 | .at (.int i)=>some (.inl i)
 | .at (.str x)=>some (.inr x)
 |_=>none
theorem jy {k:v9}(r:RepB Hs H x v)(h:zk x=some k):v=kV k:=by
 unfold zk at h;split at h
 ·cases h;cases u8 r;rfl
 ·cases h;cases u8 r;rfl
 ·cases h
def qF {κ:Type}[DecidableEq κ](k:κ):List κ->List PV->Option PV
 |n::ns,x::xs=>if n=k then some x else qF k ns xs
 |_,_=>none
theorem XX {κ:Type}[DecidableEq κ]{H:Hp}{k:κ}:∀{kvs:List (κ×V)}{xs:List PV},Reps H xs (kvs.map (·.2))->match qF k (kvs.map (·.1)) xs with
  |some y=>∃ v,qN kvs k=some v/\Rep H y v
  |none=>qN kvs k=none
 |[],xs,r=>by
  have hx:xs=[]:=uz.mp r.length.symm;subst hx;rfl
 |p::kvs,xs,r=>by
  cases xs with
  |nil=>have:=r.length;simp at this
  |cons x xs =>
   obtain ⟨v,w,e,p1,p2⟩:=reps_cons.mp r;rw [yT] at e;injection e with e1 e2;subst e1 e2;rw [yT];unfold qF;by_cases hk:p.1=k
   ·rw [if_pos hk];refine ⟨p.2,?_,p1⟩;unfold qN;rw [uR,yy hk];rfl
   ·rw [if_neg hk];have ih:=XX (k:=k) p2;have ev:qN (p::kvs) k=qN kvs k:=by unfold qN;rw [uR,yO hk]
    rw [ev];exact ih
def vY (a b:M):M:=λε=>(a ε).bind λx=>(b ε).bind λy=>(zk y).bind λk=>match x with
 | .dk ks xs=>qF k ks xs
 | .fk ks xs=>qF k ks xs
 |_=>none
instance {ty:TE}{a b:M}[sa:n8 td a][sb:n8 ty b]:SemE (By td ty) (vY a b) where
 h:=λe _ _ _ _ _ rs _ q=>by
  obtain ⟨x,ex,e1⟩:=bind_some e;obtain ⟨y,ey,e2⟩:=bind_some e1;obtain ⟨k,ek,e3⟩:=bind_some e2;split at e3
  ·refine sa.h ex rs λv Hs1 H1 x1 r1=>sb.h ey (rs.go x1) λw Hs2 H2 x2 r2=>?_;obtain ⟨p,kvs,rfl,hp,hk,hr⟩:=jK x2.s3 (r1.ext x2);have l:=XX (k:=k) hr;rw [hk,e3] at l;obtain ⟨u,hu,ru⟩:=l;have ew:=jy r2 ek;subst ew;exact ⟨p,u,rfl,by rw [<- hu];exact DGet.k hp,q u _ _ (x1.trans x2) ru⟩
  ·refine sa.h ex rs λv Hs1 H1 x1 r1=>sb.h ey (rs.go x1) λw Hs2 H2 x2 r2=>?_;obtain ⟨p,o,kvs,rfl,hp,hk,hr⟩:=QQ x2.s3 (r1.ext x2);have l:=XX (k:=k) hr;rw [hk,e3] at l;obtain ⟨u,hu,ru⟩:=l;have ew:=jy r2 ek;subst ew;exact ⟨p,u,rfl,by rw [<- hu];exact .inl ⟨kvs,k,.inr ⟨o,hp⟩,rfl,rfl⟩,q u _ _ (x1.trans x2) ru⟩
  ·cases e3
def dDIn (b a:M):M:=λε=>(b ε).bind λy=>(a ε).bind λx=>(zk y).bind λk=>match x with
 | .dk ks xs=>some (.at (.bl (qF k ks xs).isSome))
 | .fk ks xs=>some (.at (.bl (qF k ks xs).isSome))
 |_=>none
def Qd (b a:M):M:=λε=>(b ε).bind λy=>(a ε).bind λx=>(zk y).bind λk=>match x with
 | .dk ks xs=>some (.at (.bl (!(qF k ks xs).isSome)))
 | .fk ks xs=>some (.at (.bl (!(qF k ks xs).isSome)))
 |_=>none
theorem Qs {κ:Type}[DecidableEq κ]{k:κ}{kvs:List (κ×V)}(r:Reps H xs (kvs.map (·.2))):(qF k (kvs.map (·.1)) xs).isSome=(qN kvs k).isSome:=by
 have l:=XX (k:=k) r;cases e:qF k (kvs.map (·.1)) xs with
 |none=>rw [e] at l;rw [show qN kvs k=none from l];rfl
 |some y=>rw [e] at l;obtain ⟨v,hv,_⟩:=l;rw [hv];rfl
instance {ty:TE}{a b:M}[sa:n8 td a][sb:n8 ty b]:SemE (tDIn ty td) (dDIn b a) where
 h:=λe _ _ _ _ _ rs _ q=>by
  obtain ⟨y,ey,e1⟩:=bind_some e;obtain ⟨x,ex,e2⟩:=bind_some e1;obtain ⟨k,ek,e3⟩:=bind_some e2;split at e3
  ·cases e3;refine sb.h ey rs λw Hs1 H1 x1 r1=>sa.h ex (rs.go x1) λv Hs2 H2 x2 r2=>?_;obtain ⟨p,kvs,rfl,hp,hk,hr⟩:=jK x2.s3 r2;have ew:=jy r1 ek;subst ew;exact ⟨p,_,rfl,DGet.k hp,q _ _ _ (x1.trans x2) (rep_at.mpr (by rw [<- hk,Qs hr]))⟩
  ·cases e3;refine sb.h ey rs λw Hs1 H1 x1 r1=>sa.h ex (rs.go x1) λv Hs2 H2 x2 r2=>?_;obtain ⟨p,o,kvs,rfl,hp,hk,hr⟩:=QQ x2.s3 r2;have ew:=jy r1 ek;subst ew;exact ⟨p,_,rfl,.inl ⟨kvs,_,.inr ⟨o,hp⟩,rfl,rfl⟩,q _ _ _ (x1.trans x2) (rep_at.mpr (by rw [<- hk,Qs hr]))⟩
  ·cases e3
instance {ty:TE}{a b:M}[sa:n8 td a][sb:n8 ty b]:SemE (BA ty td) (Qd b a) where
 h:=λe _ _ _ _ _ rs _ q=>by
  obtain ⟨y,ey,e1⟩:=bind_some e;obtain ⟨x,ex,e2⟩:=bind_some e1;obtain ⟨k,ek,e3⟩:=bind_some e2;split at e3
  ·cases e3;refine sb.h ey rs λw Hs1 H1 x1 r1=>sa.h ex (rs.go x1) λv Hs2 H2 x2 r2=>?_;obtain ⟨p,kvs,rfl,hp,hk,hr⟩:=jK x2.s3 r2;have ew:=jy r1 ek;subst ew;exact ⟨p,_,rfl,DGet.k hp,q _ _ _ (x1.trans x2) (rep_at.mpr (by rw [<- hk,Qs hr]))⟩
  ·cases e3;refine sb.h ey rs λw Hs1 H1 x1 r1=>sa.h ex (rs.go x1) λv Hs2 H2 x2 r2=>?_;obtain ⟨p,o,kvs,rfl,hp,hk,hr⟩:=QQ x2.s3 r2;have ew:=jy r1 ek;subst ew;exact ⟨p,_,rfl,.inl ⟨kvs,_,.inr ⟨o,hp⟩,rfl,rfl⟩,q _ _ _ (x1.trans x2) (rep_at.mpr (by rw [<- hk,Qs hr]))⟩
  ·cases e3
def UP:M:=λ_=>some (.dk [] [])
instance:xn Bz UP where
 h:=λe _ _ _ _ _ rs _ q=>by
  cases e;exact λp hp=>q p _ _ (.newO rs.sub hp) hp (rs.sub.free hp) ⟨[],y4,rfl,.nil⟩
def QP {κ:Type}[DecidableEq κ](k:κ)(y:PV):List κ->List PV->List PV
 |n::ns,x::xs=>if n=k then y::QP k y ns xs else x::QP k y ns xs
 |_,xs=>xs
def ZB (k:v9)(y:PV)(ks:List v9)(xs:List PV):PV:=if (qF k ks xs).isSome=true then .dk ks (QP k y ks xs) else .dk (ks++[k]) (xs++[y])
theorem Kp {κ:Type}[DecidableEq κ]{H:Hp}{k:κ}{y:PV}{v:V}(ry:Rep H y v):∀{kvs:List (κ×V)}{xs:List PV},Reps H xs (kvs.map (·.2))->Reps H (QP k y (kvs.map (·.1)) xs) ((kvs.map (λkv=>if kv.1=k then (kv.1,v) else kv)).map (·.2))/\(kvs.map (λkv=>if kv.1=k then (kv.1,v) else kv)).map (·.1)=kvs.map (·.1)
 |[],xs,r=>by
  have hx:xs=[]:=uz.mp r.length.symm;subst hx;exact ⟨.nil,rfl⟩
 |p::kvs,xs,r=>by
  cases xs with
  |nil=>have:=r.length;simp at this
  |cons x xs =>
   obtain ⟨u,w,e,p1,p2⟩:=reps_cons.mp r;rw [yT] at e;injection e with e1 e2;subst e1 e2;obtain ⟨h1,h2⟩:=Kp (k:=k) ry p2;rw [yT,yT,yT,yT];unfold QP;by_cases hk:p.1=k
   ·rw [if_pos hk,if_pos hk];exact ⟨.cons ry h1,by rw [h2]⟩
   ·rw [if_neg hk,if_neg hk];exact ⟨.cons p1 h1,by rw [h2]⟩
def dPut (i:Nat)(kk vv:M):MS:=λε=>(vv ε).bind λy=>(kk ε).bind λx=>(zk x).bind λk=>match ε[i]? with
 |some (.ow (.dk ks xs))=>if ks.length<=lim then some (.nx (ε.set i (.ow (ZB k y ks xs)))) else none
 |_=>none
instance {i:Nat}{ty:TE}{kk vv:M}[sk:SemE ty kk][sv:SemE tv vv]:qh fr (Bb (xt i) ty tv) (dPut i kk vv) where
 h:=λe _ _ _ _ _ rs _ q=>by
  obtain ⟨y,ey,e1⟩:=bind_some e;obtain ⟨x,ex,e2⟩:=bind_some e1;obtain ⟨k,ek,e3⟩:=bind_some e2;split at e3
  ·rename_i ks xs hi;split at e3
   ·rename_i hl;cases e3;refine sv.h ey rs λv Hs1 H1 x1 r1=>?_;obtain ⟨p,hp,n0,n,t⟩:=(rs.go x1).ow i _ hi;refine ⟨_,hp,sk.h ex (rs.go x1) λw Hs2 H2 x2 r2=>?_⟩;obtain ⟨p',hp',_,n2,kvs,hv,hk,hr⟩:=((rs.go x1).go x2).ow i _ hi;rw [hp] at hp';injection hp' with hp';injection hp' with hp';injection hp' with hp';subst hp';have ew:=jy (.inl r2:RepB Hs2 H2 x w) ek;subst ew;have hlen:kvs.length<=lim:=by rw [<- hk,yZ] at hl;exact hl
    refine ⟨p,_,rfl,DPut.k hv (JG hlen),q _ _ _ (((rs.go x1).go x2).change hi hp ?_)⟩;have hs:=Qs (k:=k) hr;unfold ZB xY;rw [ZQ,<- hs,hk];by_cases hc:(qF k ks xs).isSome=true
    ·rw [if_pos hc,if_pos hc];obtain ⟨q1,q2⟩:=Kp (k:=k) (r1.mono x2.s1) hr;exact ⟨_,y4,by rw [q2,hk],by rw [<- hk];exact q1⟩
    ·rw [if_neg hc,if_neg hc];exact ⟨_,y4,by rw [yu,hk];rfl,by rw [yu];exact hr.append (.one (r1.mono x2.s1))⟩
   ·cases e3
  ·cases e3
def rLeS:R2:=λx y H Q=>∃ i j,x = .str i/\y = .str j/\Q (.bl (!decide (j.cps.toList<i.cps.toList))) H
theorem Zn :OpR X (compareOp .LtE) rLeS:=Ni
def jF:PV->PV->Option PV
 | .at (.str i),.at (.str j)=>some (.at (.bl (!decide (j.cps.toList<i.cps.toList))))
 |_,_=>none
instance:xw rLeS jF where
 h:=λ{x y z} e {Hs H v w} s a b {Q} q=>by
  unfold jF at e;split at e
  ·cases e;cases u8 a;cases u8 b;exact ⟨_,_,rfl,rfl,q _ _ _ (.refl s) (rep_at.mpr rfl)⟩
  ·cases e
def jM (z:Str):List PV:=z.cps.toList.map λc=> .at (.str ⟨#[c]⟩)
def jY (a:M):MA:=λε=>(a ε).bind λx=>match x with
 | .at (.str z)=>some (jM z)
 |_=>none
theorem DZ {z:Str}:jn (ItS z) (jM z) Hs where
 go:=λi x Hs1 H1 e g1 g2=>by
  unfold jM at e;rw [yM] at e;obtain ⟨c,hc,rfl⟩:=yF.mp e;rw [uE] at hc;have hl:i<z.cps.size:=(Array.getElem?_eq_some_iff.mp hc).1;refine ⟨hl,λv H2 y=>?_⟩;obtain ⟨rfl,c',hc',rfl⟩:=y;rw [hc] at hc';cases hc';exact ⟨Hs1,.refl g2,rep_at.mpr rfl⟩
 stop:=λHs1 H1 g1 g2=>by
  show (jM z).length=z.cps.size;unfold jM;rw [yZ,yi]
instance {a:M}[sa:SemE te a]:zd (iStr te) (jY a) where
 h:=λe _ _ _ _ _ rs _ q=>by
  obtain ⟨x,ex,e1⟩:=bind_some e;split at e1
  ·cases e1;exact sa.h ex rs λv Hs1 H1 x1 r1=>⟨_,rep_at.mp r1,q _ _ _ x1 DZ⟩
  ·cases e1
theorem Ko {f:Str}{v:V}:∀{fs:List (Str×V)},f∉fs.map (·.1)->qV f v fs=fs++[(f,v)]
 |[],_=>rfl
 |(g,x)::r,h=>by
  rw [yT] at h;unfold qV;rw [if_neg (show ¬ g=f from λz=>h (by rw [<- z];exact yK)),Ko λz=>h (yN _ z)];rfl
def Pf (C:Addr)(f:Str)(a:W):WS:=λε N _=>a ε λy ε1=>∃ ns xs,ε1[0]?=some (.ow (.ob C ns xs))/\f∉ns/\ns.length<1000/\N (ε1.set 0 (.ow (.ob C (ns++[f]) (xs++[y]))))
instance [c:xv K C][n:i9 K C f][sa:SemW te a]:SemWS (QS K (xt 0) te f) (Pf C f a) where
 h:=λh _ _ _ _ _ _ rd _ k _=>sa.h h rd λy ε1 v Hs1 H1 h1 rd1 g1 r1=>by
  obtain ⟨ns,xs,he,hf,hl,h2⟩:=h1;obtain ⟨p,hp,h0,hs,dx,fs,hH,hk,hr⟩:=rd1.ow 0 _ he;have hf':f∉fs.map (·.1):=by rw [hk];exact hf
  have hl':fs.length<1000:=by rw [<- yZ (f:=(·.1)),hk];exact hl
  refine ⟨_,hp,p,C,dx,fs,rfl,hH,c.c,n.n,hl',?_⟩;rw [Ko hf'];exact k _ _ _ _ h2 (rd1.change he hp ⟨dx,_,y4,by rw [yu,hk];rfl,by rw [yu];exact hr.append (.one r1)⟩) g1
def wa (C:Addr)(nm:Str)(m:List PV->Option PV)(i:Nat)(as:MA):M:=λε=>match ε[i]? with
 |some (.ow (.ob C' ns fs))=>if C'=C/\nm∉ns then (as ε).bind λxs=>(m (.ob C ns fs::xs)).bind λy=>match y with
  | .at u=>some (.at u)
  |_=>none else none
 |_=>none
instance {i:Nat}[sa:qO ta as]:SemE (zJ C nm (v8 m) [] E (xt i) ta) (wa C nm m i as) where
 h:=λ{ε y} e {Hs0 H0 Hs H U} rs {Q} q=>by
  unfold wa at e;split at e
  ·rename_i C' ns fs hi;split at e
   ·rename_i hc;obtain ⟨rfl,hn⟩:=hc;obtain ⟨xs,ex,e1⟩:=bind_some e;obtain ⟨z,ez,e2⟩:=bind_some e1;split at e2
    ·rename_i u;cases e2;obtain ⟨p,hp,n0,n,dx,gs,hH,hk,hr⟩:=rs.ow i _ hi;refine ⟨_,hp,p,dx,gs,rfl,hH,Qt (by rw [hk];exact hn),sa.h ex rs λvs Hs1 H1 x1 r1=>?_⟩;have hH1:=x1.s2 _ _ hH;have n1:Hs1 p=none:=x1.s4 p (by rw [hH];exact λz=>nomatch z) n;have g:Same Hs1 (j9 Hs1 p (.ins C' dx gs)):=λb w e=>by rw [v6 (k7 e n1)];exact e
     refine ⟨j9 Hs1 p (.ins C' dx gs),_,_,?_,?_,ez,λv Hs' H' x r=>?_⟩
     ·intro b w e;by_cases hb:b=p
      ·subst hb;rw [y4] at e;cases e;exact hH1
      ·rw [v6 hb] at e;exact x1.s3 _ _ e
     ·rw [yA];exact .cons (rep_ob.mpr ⟨p,dx,gs,rfl,y4,hk,(hr.mono x1.s1).mono g⟩) (r1.mono g)
     ·cases rep_at.mp r;refine q _ (λb=>if b=p then none else Hs' b) H' (x1.trans ⟨λb w e=>?_,x.s2,λb w e=>?_,λb hb w=>?_⟩) (rep_at.mpr rfl)
      ·rw [if_neg (k7 e n1)];exact x.s1 _ _ (g _ _ e)
      ·split at e
       ·cases e
       ·exact x.s3 _ _ e
      ·by_cases hbp:b=p
       ·rw [if_pos hbp]
       ·rw [if_neg hbp];exact x.s4 b hb (by rw [v6 hbp];exact w)
    ·cases e2
   ·cases e
  ·cases e
def spI (C:Addr)(m:List PV->Option PV):Sp:=λvs H Q _=>∃ Hs x dx xs ws y,vs = .ref x::ws/\Same Hs H/\H x=some (.ins C dx [])/\Hs x=none/\Reps Hs xs ws/\m xs=some y /\
 ∀ Hs' H',Same Hs Hs'->(∀ b o,H b=some o->b≠x->H' b=some o)->Same Hs' H'->(∀ b,H b≠none->b≠x->Hs b=none->Hs' b=none)->Rep Hs' y (.ref x)->Q .non H'
instance {ds:List V}[sa:qO ta as]:SemE (QY C (spI C m) ds E ta) (Jf m ds as) where
 h:=λe _ _ _ _ _ rs _ q=>by
  obtain ⟨xs,ex,e1⟩:=bind_some e;refine sa.h ex rs λvs Hs1 H1 x1 r1=>λx dx hx hdx hne=>?_;have s3:Same Hs1 (j9 (j9 H1 dx (.own x)) x (.ins C dx [])):=λb o e=>by
   have e':=x1.s3 _ _ e;rw [v6 (k7 e' hx),v6 (k7 e' hdx)];exact e'
  refine ⟨Hs1,x,dx,_,_,_,rfl,s3,y4,x1.s3.free hx,r1.append (.ofAts ds),e1,λHs' H' g1 g2 g3 g4 r=>⟨rfl,q _ _ _ (x1.trans ⟨g1,λb o e=>?_,g3,λb hb z=>?_⟩) r⟩⟩
  ·refine g2 b o ?_ (k7 e hx);rw [v6 (k7 e hx),v6 (k7 e hdx)];exact e
  ·have hbx:b≠x:=λw=>hb (by rw [w];exact hx);have hbd:b≠dx:=λw=>hb (by rw [w];exact hdx);exact g4 b (by rw [v6 hbx,v6 hbd];exact hb) hbx z
section
variable {P:Program}{w:World}{K:Fg}{mg:Str->Option Value}{base:Heap}
theorem Ht {a:Addr}(s:Same Hs H)(ha:Hs a=none)(t:Top Hs H a y)(r:Reps Hs xs ws):RD [a] Hs H Hs H (L2.start N (.ref a::ws)) (.ow y::xs.map .sh++List.replicate (N.length-(xs.length+1)) .no):=by
 have q:=QR (N:=N) (xs:= .at (.ref a)::xs) s (.cons (rep_at.mpr rfl) r);have tl:∀(i:Nat)(sl:MSlot),(MSlot.ow y::xs.map .sh++List.replicate (N.length-(xs.length+1)) .no)[i+1]?=some sl->((PV.at (.ref a)::xs).map MSlot.sh++List.replicate (N.length-(PV.at (.ref a)::xs).length) .no)[i+1]?=some sl:=λi sl h=>h;refine ⟨.refl _,λb o e _=>e,s,λ_ _ z=>z,λi x h=>?_,λi x h=>?_,λi j x y b h1 h2 _ _=>?_,?_,λb hb=>?_,λb hb=>?_,(λb hb=>⟨_,rfl⟩),λi x h=>by
  cases i with
  |zero=>simp at h
  |succ i=>exact Vs (xs:=PV.at (.ref a)::xs) (tl i _ h)⟩
 ·cases i with
  |zero=>simp at h
  |succ i=>exact q.sh (i+1) x (tl i _ h)
 ·cases i with
  |zero=>simp at h;subst h;exact ⟨a,by unfold L2.start;rfl,.inr (yC.mpr rfl),ha,t⟩
  |succ i=>exact absurd (tl i _ h) (vJ (xs:=PV.at (.ref a)::xs))
 ·cases i with
  |zero =>
   cases j with
   |zero=>rfl
   |succ j=>exact absurd (tl j _ h2) (vJ (xs:=PV.at (.ref a)::xs))
  |succ i=>exact absurd (tl i _ h1) (vJ (xs:=PV.at (.ref a)::xs))
 ·exact q.len
 ·rw [yC.mp hb];unfold L2.start;rfl
 ·rw [yC.mp hb];exact t.there
end
variable {fr:Bool}
def wN (c:WT)(b:WS):Nat->WS
 |0=>λ_ _ _=>False
 |n+1=>λε N R=>c ε λk ε1=>if k=true then b ε1 (λε2=>wN c b n ε2 N R) R else N ε1
instance [sc:zO t c][sb:SemWS tb b]:SemWS (BH t tb) (wN c b n) where
 h:=λ{ε N R} h S Hs0 H0 Hs H U rd D k rt=>by
  refine ⟨λm U H=>∃ Hs1 ε,RD S Hs H0 Hs1 H U ε/\wN c b m ε N R,⟨n,Hs,ε,rd.rebase,h⟩,?_⟩;rintro m σ1 H1 ⟨Hs1,ε1,r1,h1⟩;cases m with
  |zero=>exact h1.elim
  |succ m =>
   refine sc.h h1 r1 λv ε2 Hs2 H2 h2 r2 g2=>?_;cases v with
   |true=>refine xg ⟨λσ' H'=>∃ Hs3 ε,RD S Hs H0 Hs3 H' σ' ε/\wN c b m ε N R,λσ' H' p=>⟨m,uB m,p⟩,sb.h (by simpa using h2) r2 (λε3 σ3 Hs3 H3 h3 r3 _=>⟨Hs3,ε3,r3,h3⟩) λy ε3 σ3 v Hs3 H3 h3 r3 g3 rv=>?_⟩;exact rt y ε3 σ3 v Hs3 H3 h3 (rd.unbase r3) r3.s1 rv
   |false=>exact qT (k _ _ _ _ (by simpa using h2) (rd.unbase r2) r2.s1)
theorem Pg {c:WT}{b:WS}{N:ME->Prop}{R:PV->ME->Prop}[C:jQ c][B:jo b](I:Nat->ME->Prop)(hs:∀ m ε,I m ε->c ε λk ε1=>if k=true then ∃ m',m=m'+1/\b ε1 (λε2=>I m' ε2) R else N ε1):∀(n m:Nat)(ε:ME),I m ε->m<n->wN c b n ε N R
 |0,_,_,_,h=>absurd h (Nat.not_lt_zero _)
 |n+1,m,ε,h,hn=>C.h (λv ε1 h1=>XN (λ⟨m',e,h2⟩=>B.h (λε2 h3=>Pg I hs n m' ε2 h3 (by omega)) (λ_ _ q=>q) h2) (λh2=>h2) h1) (hs m ε h)
structure ItOkB (J:It)(xs:List PV)(Hs H:Hp):Prop where
 go:∀(i:Nat)(x:PV)(Hs1 H1:Hp),xs[i]?=some x->Same Hs Hs1->Same H H1->Same Hs1 H1->J.go i H1/\∀ v H2,J.yld i H1 v H2->∃ Hs2,Ext Hs1 H1 Hs2 H2/\Rep Hs2 x v
 stop:∀(Hs1 H1:Hp),Same Hs Hs1->Same H H1->Same Hs1 H1->J.stop xs.length H1
class Yj (ti:TI)(f:MA):Prop where
 h:∀{ε xs},f ε=some xs->∀{Hs0 H0 Hs H U},RS Hs0 H0 Hs H U ε->∀{R:It->Hp->Prop},(∀ J Hs' H',Ext Hs H Hs' H'->ItOkB J xs Hs' H'->R J H')->ti U H R
instance {a:M}[sa:n8 te a]:Yj (XH K te) (b7 a) where
 h:=λe _ _ _ _ _ rs _ q=>by
  obtain ⟨x,ex,e1⟩:=bind_some e;split at e1
  ·cases e1;refine sa.h ex rs λv Hs1 H1 x1 r1=>?_;obtain ⟨p,vs,rfl,hp,r⟩:=qc x1.s3 r1;refine ⟨p,rfl,⟨vs,SqL.of hp⟩,q _ _ _ x1 ⟨λi x Hs2 H2 ei g1 g2 g3=>?_,λHs2 H2 g1 g2 g3=>⟨vs,SqL.of (g2 _ _ hp),by rw [r.length];exact yY _⟩⟩⟩;obtain ⟨v,ev,rv⟩:=r.get ei;refine ⟨⟨vs,v,SqL.of (g2 _ _ hp),ev⟩,λw H3 y=>?_⟩;obtain ⟨rfl,y⟩:=y;have z:=y vs (SqL.of (g2 _ _ hp));rw [ev] at z;cases z;exact ⟨Hs2,.refl g3,rv.mono g1⟩
  ·cases e1
def zV (cap:List (Option Nat))(ts:List Nat)(i:MA)(g:MG)(c:MB)(f:M):M:=λε=>(i ε).bind λxs=>if ze cap ts=true/\xs.length<=lim then (qi g c f (t9 cap ε) xs).bind λys=>some (.lst ys) else none
instance {cap:List (Option Nat)}{i:MA}{g:MG}{c:MB}{f:M}[si:Yj wi i][sg:vT tg ts g][sc:qP tt c][sf:SemE te f]:xn (QX wi tg tt te cap) (zV cap ts i g c f) where
 h:=λe Hs0 H0 Hs H U rs Q q=>by
  obtain ⟨xs,ex,e1⟩:=bind_some e;split at e1
  ·rename_i hcl;obtain ⟨hcap,hl⟩:=hcl;unfold ze at hcap;rw [yp] at hcap;obtain ⟨ys,ey,e2⟩:=bind_some e1;cases e2;refine si.h ex rs λJ Hs1 H1 x1 ok=>?_;have rc:=((rs.go x1).cap (yd hcap.1)).rebase;have wk:∀ i∈ts,(p6 cap U)[i]?=some none:=λi hi=>by
    unfold p6;rw [yM,yd (uV.mp hcap.2 i hi)];rfl
   refine ⟨λk m zs H=>m=xs.length-k/\k<=xs.length/\∃ Hs2 ws,Ext Hs1 H1 Hs2 H/\RS Hs1 H0 Hs2 H (p6 cap U) (t9 cap _)/\Reps Hs2 ws zs/\ws.length<=k/\∃ rest,qi g c f (t9 cap _) (xs.drop k)=some rest/\ys=ws++rest,
    ⟨xs.length,by simp,yo _,Hs1,[],.refl x1.s3,rc,.nil,yY _,ys,ey,rfl⟩,?_⟩
   rintro k m zs H2 ⟨rfl,hk,Hs2,ws,x2,r2,rz,hw,rest,er,eys⟩;refine ⟨xy (by rw [rz.length];omega),?_⟩;by_cases hlt:k<xs.length
   ·have hd:xs.drop k=xs[k]::xs.drop (k+1):=uW hlt;rw [hd] at er;unfold qi at er;obtain ⟨ε1,eg,er1⟩:=bind_some er;obtain ⟨b,eb,er2⟩:=bind_some er1;obtain ⟨go,yl⟩:=ok.go k xs[k] Hs2 H2 (by simp [hlt]) x2.s1 x2.s2 x2.s3;refine .inr ⟨go,λv H3 y=>?_⟩;obtain ⟨Hs3,x3,r3⟩:=yl v H3 y;refine sg.h eg (r2.go x3) r3 λσ2 rs2 bt=>⟨bt.wk wk,sc.h eb rs2 λHs4 H4 x4=>?_⟩;cases b with
    |true =>
     rw [if_pos rfl] at er2;obtain ⟨z,ez,er3⟩:=bind_some er2;obtain ⟨rest',er4,er5⟩:=bind_some er3;cases er5;refine xg (sf.h ez (rs2.go x4) λu Hs5 H5 x5 r5=>⟨xs.length-(k+1),by omega,rfl,hlt,Hs5,ws++[z],x2.trans (x3.trans (x4.trans x5)),((r2.go x3).go x4).go x5,?_,?_,rest',er4,?_⟩)
     ·exact (rz.mono (x3.s1.trans (x4.s1.trans x5.s1))).snoc r5
     ·rw [yH];simp;omega
     ·rw [uZ];exact eys
    |false=>rw [if_neg yU] at er2;exact qT ⟨xs.length-(k+1),by omega,rfl,hlt,Hs4,ws,x2.trans (x3.trans x4),(r2.go x3).go x4,rz.mono (x3.s1.trans x4.s1),by omega,rest,er2,eys⟩
   ·have ek:k=xs.length:=by omega
    subst ek;rw [uq] at er;unfold qi at er;cases er;refine .inl ⟨ok.stop Hs2 H2 x2.s1 x2.s2 x2.s3,λD hD=>?_⟩;rw [yA] at eys;subst eys;have x12:=x1.trans x2;exact q D Hs2 _ (x12.trans (.newO x2.s3 hD)) (x12.s2.free hD) (x2.s3.free hD) ⟨zs,y4,rz⟩
  ·cases e1
def Qg (a:M)(l u:ME->Option (Option Int)):M:=λε=>(a ε).bind λx=>(l ε).bind λlo=>(u ε).bind λhi=>match x,lo,hi with
 | .at (.str z),none,some j=>if z.length<=lim then some (.at (.str (Txt.slice z none (some j)))) else none
 | .at (.str z),some i,none=>if z.length<=lim then some (.at (.str (Txt.slice z (some i) none))) else none
 |_,_,_=>none
instance {a:M}[sa:n8 te a][sl:jR tl l][su:jR th u]:SemE (tSlS te tl th) (Qg a l u) where
 h:=λe _ _ _ _ _ rs _ q=>by
  obtain ⟨x,ex,e1⟩:=bind_some e;obtain ⟨lo,el,e2⟩:=bind_some e1;obtain ⟨hi,eu,e3⟩:=bind_some e2;refine sa.h ex rs λv Hs1 H1 x1 r1=>sl.h el (rs.go x1) λHs2 H2 x2=>su.h eu ((rs.go x1).go x2) λHs3 H3 x3=>?_;split at e3
  ·split at e3
   ·rename_i hz;cases e3;exact ⟨_,u8 r1,xy hz,.inl ⟨rfl,_,rfl⟩,q _ _ _ (x1.trans (x2.trans x3)) (rep_at.mpr rfl)⟩
   ·cases e3
  ·split at e3
   ·rename_i hz;cases e3;exact ⟨_,u8 r1,xy hz,.inr ⟨rfl,_,rfl⟩,q _ _ _ (x1.trans (x2.trans x3)) (rep_at.mpr rfl)⟩
   ·cases e3
  ·cases e3
section
variable {ε:ME}{c d:MB}{f:M}{a b:WS}{N:ME->Prop}{R:PV->ME->Prop}
theorem wO (h:c ε=some false)(k:b ε N R):qX (qJ c) a b ε N R:=by
 refine ⟨false,h,?_⟩;show if false=true then a ε N R else b ε N R
 rw [if_neg yU];exact k
theorem ZS (h:c ε=some true)(k:a ε N R):qX (qJ c) a b ε N R:=by
 refine ⟨true,h,?_⟩;show if true=true then a ε N R else b ε N R
 rw [if_pos rfl];exact k
theorem xR (h1:c ε=some false)(h2:d ε=some false):qE c d ε=some false:=by unfold qE;rw [h1];show (if false=true then some true else d ε)=_;rw [if_neg yU];exact h2
theorem UM {v:Bool}(h1:c ε=some true)(h2:d ε=some v):Qb c d ε=some v:=by unfold Qb;rw [h1];show (if true=true then d ε else some false)=_;rw [if_pos rfl];exact h2
theorem qp (h:c ε=some true):c9 c ε=some false:=by unfold c9;rw [h];rfl
theorem qx {v:Bool}(h:f ε=some (.at (.bl v))):r9 f ε=some v:=by unfold r9;rw [h];rfl
theorem m3 {v:Bool}(h:f ε=some (.at (.bl v))):dT f ε=some v:=by unfold dT;rw [h];rfl
theorem Jx :qm [.lst xs,.at (.ty "list")]=some (.at (.bl true)):=by unfold qm tyP;simp only [yE,Te]
end
variable {fr:Bool}
theorem Je {g:MG}{f:M}{ε0:ME}{α:Type}(F G:α->PV):∀(l:List α),(∀ a∈l,∃ ε1,g (F a) ε0=some ε1/\f ε1=some (G a))->qi g u5 f ε0 (l.map F)=some (l.map G)
 |[],_=>rfl
 |a::l,h=>by
  obtain ⟨ε1,e1,e2⟩:=h a yK;have ih:=Je F G l λb hb=>h b (yN _ hb);show Option.bind (g (F a) ε0) (λε1=>Option.bind (u5 ε1) λb=>if b=true then (f ε1).bind λy=>(qi g u5 f ε0 (l.map F)).bind λys=>some (y::ys) else qi g u5 f ε0 (l.map F))=_;rw [e1,ih];show (if true=true then (f ε1).bind λy=>some (y::l.map G) else some (l.map G))=_;rw [if_pos rfl,e2];rfl
theorem UI {g:MG}{c:MB}{f:M}{ε0:ME}{α:Type}(F G:α->PV)(p:α->Bool):∀(l:List α),(∀ a∈l,∃ ε1,g (F a) ε0=some ε1/\c ε1=some (p a)/\(p a=true->f ε1=some (G a)))->qi g c f ε0 (l.map F)=some ((l.filter p).map G)
 |[],_=>rfl
 |a::l,h=>by
  obtain ⟨ε1,e1,e2,e3⟩:=h a yK;have ih:=UI F G p l λb hb=>h b (yN _ hb);show Option.bind (g (F a) ε0) (λε1=>Option.bind (c ε1) λb=>if b=true then (f ε1).bind λy=>(qi g c f ε0 (l.map F)).bind λys=>some (y::ys) else qi g c f ε0 (l.map F))=_;rw [e1,ih];show Option.bind (c ε1) (λb=>if b=true then (f ε1).bind λy=>some (y::(l.filter p).map G) else some ((l.filter p).map G))=_;rw [e2,yE,List.filter_cons];cases hp:p a with
  |true=>rw [if_pos rfl,if_pos rfl,e3 hp];rfl
  |false=>rw [if_neg yU,if_neg yU]
theorem o8 {cap:List (Option Nat)}{it:MA}{g:MG}{f:M}(F G:α->PV)(l:List α)(h:it ε=some (l.map F))(hc:ze cap ts=true)(hl:l.length<=lim)(k:∀ a∈l,∃ ε1,g (F a) (t9 cap ε)=some ε1/\f ε1=some (G a)):k6 cap ts it g u5 f ε=some (.lst (l.map G)):=Gc h hc (by rw [yZ];exact hl) (Je F G l k)
theorem Qu {g:MG}{f:MS}{α:Type}(F:α->PV)(I:List α->ME->Prop)(h:∀ a l ε,I (a::l) ε->∃ ε1 ε2,g (F a) ε=some ε1/\f ε1=some (.nx ε2)/\I l ε2):∀(l:List α)(ε:ME),I l ε->∃ ε',zh g f (l.map F) ε=some (.nx ε')/\I [] ε'
 |[],ε,i=>⟨ε,rfl,i⟩
 |a::l,ε,i=>by
  obtain ⟨ε1,ε2,e1,e2,i2⟩:=h a l ε i;obtain ⟨ε',e3,i3⟩:=Qu F I h l ε2 i2;refine ⟨ε',?_,i3⟩;show Option.bind (g (F a) ε) (λε1=>Option.bind (f ε1) λo=>match o with
   | .nx ε2=>zh g f (l.map F) ε2
   | .ct ε2=>zh g f (l.map F) ε2
   | .bk ε2=>some (.nx ε2)
   | .rt y=>some (.rt y))=_
  rw [e1,yE,e2];exact e3
section
variable {ε:ME}{a b:M}{v w:Bool}
theorem vc (h1:a ε=some (.at (.bl true)))(h2:b ε=some (.at (.bl w))):zf a b ε=some (.at (.bl w)):=by unfold zf;rw [h1];exact h2
theorem Dk (h1:a ε=some (.at (.bl true))):jZ a b ε=some (.at (.bl true)):=by unfold jZ;rw [h1];rfl
theorem Dj (h1:a ε=some (.at (.bl false)))(h2:b ε=some (.at (.bl w))):jZ a b ε=some (.at (.bl w)):=by unfold jZ;rw [h1];exact h2
theorem Gf (h1:a ε=some (.at (.bl v))):wb a ε=some (.at (.bl (!v))):=by unfold wb;rw [h1];rfl
theorem Jn {c:MB}(h:c ε=some true)(k:a ε=some x):dIf c a b ε=some x:=by unfold dIf;rw [h];exact k
theorem Jo {c:MB}(h:c ε=some false)(k:b ε=some x):dIf c a b ε=some x:=by unfold dIf;rw [h];exact k
theorem Qi {g g':PV->PV->Option PV}{c:M}{z:PV}{r:Bool}(h1:a ε=some x)(h2:b ε=some y)(h3:g x y=some (.at (.bl true)))(h4:c ε=some z)(h5:g' y z=some (.at (.bl r))):zg g g' a b c ε=some (.at (.bl r)):=by unfold zg;rw [h1,yE,h2,yE,h3];show Option.bind (c ε) _=_;rw [h4];exact h5
theorem Qj (h:a ε=some x):zW a ε=some (.nx ε):=by unfold zW;rw [h];rfl
theorem qA:o7 ε=some (.nx ε):=rfl
theorem XD (h:a ε=some (.lst xs)):b7 a ε=some xs:=by unfold b7;rw [h];rfl
theorem xp (h:a ε=some (.ob C ns xs))(k:wm f ns xs=some y):qo C f a ε=some y:=by unfold qo;rw [h,yE];show (if C=C then _ else _)=_;rw [if_pos rfl];exact k
theorem zi {fs:List PV}{y:Option PV}(h:a ε=some (.ob C ns fs))(hn:nm∉ns)(k:as ε=some xs)(e:m (.ob C ns fs::xs)=y):qj C nm m a as ε=y:=by unfold qj;rw [h,yE];show (if C=C/\nm∉ns then _ else _)=_;rw [if_pos ⟨rfl,hn⟩,k];exact e
theorem Jl {k:Nat}{bd:MS}(hl:xs.length=k)(h:bd (xs.map .sh++List.replicate (n-k) .no)=some (.nx ε')):p8 n k bd xs=some (.at .non):=by unfold p8;rw [if_pos hl,h];rfl
theorem DU {n:Int}:qm [.at (.int n),.at (.ty "int")]=some (.at (.bl true)):=by unfold qm tyP;simp only [yE,Td]
theorem DV {n:Int}:qm [.at (.int n),.at (.ty "bool")]=some (.at (.bl false)):=by unfold qm tyP;simp only [yE,Tc]
theorem Jy {n:Str}:qm [.at (.str n),.at (.ty "str")]=some (.at (.bl true)):=by unfold qm tyP;simp only [yE,Tf]
theorem DW {n:List PV}:qm [.tup n,.at (.ty "tuple")]=some (.at (.bl true)):=by unfold qm tyP;simp only [yE,Tg]
theorem Uw:∀ bs:List Bool,bls (bs.map λb=> .at (.bl b))=some bs
 |[]=>rfl
 |b::bs=>by
  have ih:=Uw bs;rw [yT];unfold bls;rw [ih];rfl
theorem Pu (bs:List Bool):xG [.lst (bs.map λb=> .at (.bl b))]=some (.at (.bl (bs.all id))):=by show (bls _).bind _=_;rw [Uw];rfl
theorem jT (l:List α):xG [.lst (l.map λ_=> .at (.bl true))]=some (.at (.bl true)):=by
 have e:(l.map λ_=>PV.at (.bl true))=((l.map λ_=>true).map λb=>PV.at (.bl b)):=by rw [yz];rfl
 rw [e,Pu];have:(l.map λ_=>true).all id=true:=by simp
 rw [this]
end
def leS (a b:Str):Bool:=!decide (b.cps.toList<a.cps.toList)
def qI (ss:List Str):List Str:=ss.mergeSort leS
theorem QU (ss:List Str):(qI ss).Perm ss:=List.mergeSort_perm ss leS
theorem Bl (ss:List Str):Xm (qI ss):=by
 have:=List.pairwise_mergeSort (le:=leS) (λa b c h1 h2=>by
  unfold leS at h1 h2 ⊢;simp only [Bool.not_eq_true',decide_eq_false_iff_not] at h1 h2 ⊢;exact uu.mpr (List.le_trans (uu.mp h1) (uu.mp h2))) (λa b=>by
  unfold leS;by_cases h:b.cps.toList<a.cps.toList
  ·have h2:¬ (a.cps.toList<b.cps.toList):=λk=>List.lt_irrefl _ (List.lt_trans h k);simp [h2]
  ·simp [h]) ss
 exact this.imp λh=>by unfold leS at h;simpa using h
theorem QT {ss ss':List Str}(p:ss'.Perm ss)(u:Xm ss'):ss'=qI ss :=
 List.Perm.eq_of_pairwise (λa b _ _ h1 h2=>by
  have e:=List.le_antisymm (uu.mp h1) (uu.mp h2);cases a;cases b;simp only [Str.mk.injEq];exact um.mp e) u (Bl ss) (p.trans (QU ss).symm)
def xK:List PV->Option (List Str)
 |[]=>some []
 | .at (.str s)::xs=>(xK xs).map (s::·)
 |_::_=>none
theorem ZK:∀{xs:List PV}{ss:List Str},xK xs=some ss->xs=ss.map λs=> .at (.str s)
 |[],_,h=>by cases h;rfl
 |x::xs,ss,h=>by
  unfold xK at h;split at h
  ·rename_i e;cases e
  ·rename_i s' xs' e;injection e with e1 e2;subst e1 e2;obtain ⟨r,hr,rfl⟩:=yF.mp h;rw [ZK hr];rfl
  ·cases h
def jz:List v9->Option (List Str)
 |[]=>some []
 | .inr s::xs=>(jz xs).map (s::·)
 |_::_=>none
theorem JB:∀{xs:List v9}{ss:List Str},jz xs=some ss->xs=ss.map Sum.inr
 |[],_,h=>by cases h;rfl
 |x::xs,ss,h=>by
  unfold jz at h;split at h
  ·rename_i e;cases e
  ·rename_i s' xs' e;injection e with e1 e2;subst e1 e2;obtain ⟨r,hr,rfl⟩:=yF.mp h;rw [JB hr];rfl
  ·cases h
def QH:List PV->Option PV
 |[.lst xs]=>(xK xs).bind λss=>if ss.length<64 then some (.lst ((qI ss).map λs=> .at (.str s))) else none
 |[.dk ks _]=>(jz ks).bind λss=>if ss.length<64 then some (.lst ((qI ss).map λs=> .at (.str s))) else none
 |[.fk ks _]=>(jz ks).bind λss=>if ss.length<64 then some (.lst ((qI ss).map λs=> .at (.str s))) else none
 |_=>none
theorem Vo (ss:List Str):Reps H (ss.map λs=> .at (.str s)) (ss.map V.str):=by have:=Reps.ofAts (H:=H) (ss.map V.str);rwa [yz] at this
instance :Xk (KH K) QH where
 h:=λ{xs z} e {Hs H vs} s r {Q} q=>by
  unfold QH at e;split at e
  ·obtain ⟨ss,eb,e1⟩:=bind_some e;split at e1
   ·rename_i hl;cases e1;obtain ⟨v,rfl,a⟩:=qW r;obtain ⟨p,ws,rfl,e1,r1⟩:=qc s a;rw [ZK eb,show (ss.map λb=>PV.at (.str b))=(ss.map V.str).map .at by rw [yz];rfl] at r1;cases r1.ats;refine ⟨p,ss,rfl,.inl (SqL.of e1),hl,λl ss' hn p1 p2=>?_⟩;rw [QT p1 p2];exact q l _ _ (.newO s hn) hn (s.free hn) ⟨_,y4,Vo _⟩
   ·cases e1
  ·obtain ⟨ss,eb,e1⟩:=bind_some e;split at e1
   ·rename_i hl;cases e1;obtain ⟨v,rfl,a⟩:=qW r;obtain ⟨p,kvs,rfl,hp,hk,hr⟩:=jK s a;refine ⟨p,ss,rfl,.inr ⟨kvs,.inl hp,by rw [hk,JB eb]⟩,hl,λl ss' hn p1 p2=>?_⟩;rw [QT p1 p2];exact q l _ _ (.newO s hn) hn (s.free hn) ⟨_,y4,Vo _⟩
   ·cases e1
  ·obtain ⟨ss,eb,e1⟩:=bind_some e;split at e1
   ·rename_i hl;cases e1;obtain ⟨v,rfl,a⟩:=qW r;obtain ⟨p,o,kvs,rfl,hp,hk,hr⟩:=QQ s a;refine ⟨p,ss,rfl,.inr ⟨kvs,.inr ⟨o,hp⟩,by rw [hk,JB eb]⟩,hl,λl ss' hn p1 p2=>?_⟩;rw [QT p1 p2];exact q l _ _ (.newO s hn) hn (s.free hn) ⟨_,y4,Vo _⟩
   ·cases e1
  ·cases e
def KF (K:Fg):List V->Hp->VK->Prop:=λxs H Q=>∃(a:Addr)(ss:List Str),xs=[.ref a]/\SqL K H a (ss.map V.str)/\ss.length<=1000 /\
  ∀ l,H l=none->Q (.ref l) (j9 H l (jS (c7 (λi=>(Sum.inr (ss.getD i ⟨#[]⟩):v9)) ss.length).length l))
theorem Cq (hc:X.calm=true)(h:X.K=K):CallR X (.type "set") (KF K):=by subst h;exact Cr hc
def JN (ss:List Str):Nat:=(c7 (λi=>(Sum.inr (ss.getD i ⟨#[]⟩):v9)) ss.length).length
def Ky:List V->Hp->VK->Prop:=λxs H Q=>∃(a:Addr)(n:Nat),xs=[.ref a]/\H a=some (jS n a)/\Q (.int n) H
theorem Cj :CallR X (.builtin "len") Ky:=Ci
def UO (a:M):M:=λε=>(a ε).bind λx=>match x with
 | .lst xs=>(xK xs).bind λss=>if ss.length<=1000 then some (.at (.int (JN ss))) else none
 |_=>none
instance {a:M}[sa:n8 te a]:SemE (tCB Ky (qv (tCB (KF K) (qv te qM)) qM)) (UO a) where
 h:=λe _ _ _ _ _ rs _ q=>by
  obtain ⟨x,ex,e1⟩:=bind_some e;split at e1
  ·obtain ⟨ss,eb,e2⟩:=bind_some e1;split at e2
   ·rename_i hl;cases e2;refine sa.h ex rs λv Hs1 H1 x1 r1=>?_;obtain ⟨p,ws,rfl,ep,r2⟩:=qc x1.s3 r1;rw [ZK eb,show (ss.map λb=>PV.at (.str b))=(ss.map V.str).map .at by rw [yz];rfl] at r2;cases r2.ats;refine ⟨p,ss,rfl,SqL.of ep,hl,λl hn=>⟨l,_,rfl,y4,q _ _ _ (x1.trans (.newO x1.s3 hn)) (rep_at.mpr rfl)⟩⟩
   ·cases e2
  ·cases e1
def dRev (a:M)(st:ME->Option (Option Int)):M:=λε=>(a ε).bind λx=>(st ε).bind λo=>match x with
 | .lst xs=>if o=some (-1) then some (.lst xs.reverse) else none
 |_=>none
instance {ts:TO}{a:M}{st:ME->Option (Option Int)}[sa:n8 te a][ss:jR ts st]:xn (tRev K te ts) (dRev a st) where
 h:=λe _ _ _ _ _ rs _ q=>by
  obtain ⟨x,ex,e1⟩:=bind_some e;obtain ⟨o,eo,e2⟩:=bind_some e1;split at e2
  ·split at e2
   ·rename_i ho;cases e2;refine sa.h ex rs λv Hs1 H1 x1 r1=>ss.h eo (rs.go x1) λHs2 H2 x2=>?_;obtain ⟨p,ws,rfl,ep,r2⟩:=qc x2.s3 (r1.ext x2);refine ⟨ho,p,ws,rfl,SqL.of ep,λl hn=>?_⟩;exact q l _ _ ((x1.trans x2).trans (.newO x2.s3 hn)) ((x1.trans x2).s2.free hn) (x2.s3.free hn) ⟨_,y4,r2.reverse⟩
   ·cases e2
  ·cases e2
structure Mkr (P:Program)(w:World)(K:Fg)(mg:Str->Option Value)(base:Heap)(k:Nat)(C:Addr)(ps:List Str)(sp:Sp):Prop where
 ex:∃ f fd,FnOk P w K mg base v5 k f fd ps sp/\Mk K C f/\Binds K fd ps []
theorem Zw {k j:Nat}{x:Str}{p:Pos}{es:List Expr}{t:TA}(c:Mkr X.prog X.w X.K X.mg X.base k C ps sp)(hr:Room j X.A)(hj:k+1<=j)(hg:Gl X x)(hm:X.mg x=some (.ref C))(ha:PA X (e::es) t)(hdb:(x==("__debug__":Str))=false:=by decide)(he:starEach (e::es) X.env=(false,eval e X.env)::starEach es X.env:=by rfl)(hpl:(backTo pos (starEach es X.env)).any (·.1)=false:=by rfl):PE X (.Call (.Name x p) (e::es) [] pos) (QY C sp [] E0 t):=by obtain ⟨f,fd,F,hm',hb⟩:=c.ex;exact Ny hm' F (hr.mono hj) hg hm hb .nil Zu ha hdb he hpl
instance (priority:=1100)[sa:qO ta as]:SemE (QY C (spI C m) [] E ta) (x9 m as) where
 h:=λ{ε y} e=>SemE.h (te:=QY C (spI C m) [] E ta) (f:=Jf m [] as) (by
  unfold Jf;unfold x9 at e;simpa using e)
structure FunD (K:Fg)(x qual:Str)(st:Stmt)(f:Addr)(fd:FuncData):Prop where
 ex:∃(oc:Value)(od:Option Addr)(dV kV doc pm:Value)(an:Option Addr)(cdv ct:Value)(osl:Array (Option Value)),
  fd=PySem.W.fnOf x qual (xj st) (i0 st) (z9 st) dV kV doc pm an cdv ct/\K.lookup f=some ⟨oc,od,.func fd,osl⟩/\PySem.W.codeIn K cdv qual=true
 kp:PySem.W.keepIn K (.ref f)=true
section
variable {P:Program}{w:World}{K:Fg}{mg:Str->Option Value}{base:Heap}
theorem FunD.ok {x:Str}{f:Addr}{k:Nat}(F:FunD K x qual st f fd)(S:w5 N ps (z9 st))(len:∀ vs H Q E,sp vs H Q E->vs.length=ps.length)(hbody:∀(cdv:Value)(A:Around)(outer:List Env)(s:Shared)(H:Hp)(vs:List V)(Q:VK)(E:XK),Room k (A.deeper (PyProof.Rows.envOfC qual (z9 st) s.heap.objs.size f cdv))->sp vs H Q E -> ∃ t,PSs (qQ v5 P w K mg base N qual (z9 st) f cdv A outer s H E).nox (i0 st) t/\t { nx:=λ_ H'=>Q .non H',rt:=Q } (L2.start N vs) H):FnOk P w K mg base v5 (k+1) f fd ps sp:=by obtain ⟨oc,od,dV,kV,doc,pm,an,cdv,ct,osl,rfl,lk,hcd⟩:=F.ex;refine Jt lk hcd S len λA outer s H vs Q E hr hsp=>?_;obtain ⟨t,h,q⟩:=hbody cdv A outer s H vs Q E hr hsp;exact ⟨t,h.nox,q⟩
theorem Du {x:Str}{f:Addr}{oc:Value}{od an:Option Addr}{osl:Array (Option Value)}{dV kV doc pm cdv ct:Value}(l:K.lookup f=some ⟨oc,od,.func (PySem.W.fnOf x qual (xj st) (i0 st) (z9 st) dV kV doc pm an cdv ct),osl⟩)(c:PySem.W.codeIn K cdv qual=true)(k:PySem.W.keepIn K (.ref f)=true):FunD K x qual st f (PySem.W.fnOf x qual (xj st) (i0 st) (z9 st) dV kV doc pm an cdv ct):=⟨⟨oc,od,dV,kV,doc,pm,an,cdv,ct,osl,rfl,l,c⟩,k⟩
theorem QO {o value:Expr}{ta:TE}{pos':Pos}(hK:X.K=K)(ha:PE X o ta)(hv:PE X value tv)(hs:swapsWith value (some (.Attribute o f pos')) pos.line X.env=pure false:=by rfl):PS X (.Assign [.Attribute o f pos'] value pos) (QS K ta tv f):=by subst hK;exact NV ha hv hs
theorem okI' {x:Str}{f:Addr}{k:Nat}(F:FunD K x qual st f fd)(S:w5 N ps (z9 st))(hm:∀ xs y,m xs=some y->xs.length+1=ps.length)(hb:∀(cdv:Value)(A:Around)(outer:List Env)(s:Shared)(H:Hp)(E:XK),Room k (A.deeper (PyProof.Rows.envOfC qual (z9 st) s.heap.objs.size f cdv)) -> ∃ t,PSs (qQ v5 P w K mg base N qual (z9 st) f cdv A outer s H E).nox (i0 st) t/\SemWS t b)(hw:∀ xs y,m xs=some y->b (.ow (.ob C [] [])::xs.map .sh++List.replicate (N.length-(xs.length+1)) .no) (λε=>ε[0]?=some (.ow y)) λ_ _=>False):FnOk P w K mg base v5 (k+1) f fd ps (spI C m):=by
 refine F.ok S (λvs H Q E h=>?_) (λcdv A outer s H vs Q E hr h=>?_)
 ·obtain ⟨Hs,x,dx,xs,ws,y,rfl,_,_,_,r,e,_⟩:=h;rw [yS,r.length];exact hm xs y e
 ·obtain ⟨Hs,x,dx,xs,ws,y,rfl,sm,hx,hs,r,e,q⟩:=h;obtain ⟨t,ht,sem⟩:=hb cdv A outer s H E hr;refine ⟨t,ht,sem.h (hw xs y e) (Ht sm hs ⟨dx,[],hx,rfl,.nil⟩ r) (λε U Hs' H' z rd g=>?_) λ_ _ _ _ _ _ z _ _ _=>z.elim⟩;obtain ⟨a,ha,_,n,tp⟩:=rd.ow 0 y z;rw [rd.pin x (yC.mpr rfl)] at ha;injection ha with ha;injection ha with ha;injection ha with ha;subst ha;obtain ⟨o,ho,ro⟩:=tp.rep n;have g2:Same Hs' (j9 Hs' x o):=λb u e=>by rw [v6 (k7 e n)];exact e
  refine q (j9 Hs' x o) H' (g.trans g2) (λb u e hb=>rd.s2 b u e λw=>hb (yC.mp w)) (λb u e=>?_) (λb hb hbx w=>?_) ro
  ·by_cases hbx:b=x
   ·subst hbx;rw [y4] at e;cases e;exact ho
   ·rw [v6 hbx] at e;exact rd.s3 _ _ e
  ·rw [v6 hbx];exact rd.s4 b hb w
end
def zA (C:Addr)(f:Str)(a:M):MS:=λε=>(a ε).bind λy=>match (ε[0]?:Option MSlot) with
 |some (.ow (.ob C' ns xs))=>if C'=C/\f∉ns/\ns.length<1000 then some (.nx (ε.set 0 (.ow (.ob C (ns++[f]) (xs++[y]))))) else none
 |_=>none
def wPN (f:MS):WS:=λε N _=>∃ ε',f ε=some (.nx ε')/\N ε'
theorem CL {a:M}{o:Out}(h:zA C f a ε=some o):∃ y ns xs,a ε=some y/\ε[0]?=some (.ow (.ob C ns xs))/\f∉ns/\ns.length<1000/\o = .nx (ε.set 0 (.ow (.ob C (ns++[f]) (xs++[y])))):=by
 unfold zA at h;obtain ⟨y,ey,h1⟩:=bind_some h;split at h1
 ·rename_i C' ns xs he;split at h1
  ·rename_i hc;cases h1;obtain ⟨rfl,h2,h3⟩:=hc;exact ⟨y,ns,xs,ey,he,h2,h3,rfl⟩
  ·cases h1
 ·cases h1
instance {a:M}[c:xv K C][n:i9 K C f][sa:SemE te a]:SemWS (QS K (xt 0) te f) (wPN (zA C f a)) where
 h:=λ{ε N R} h=>by
  obtain ⟨ε',e,h1⟩:=h;obtain ⟨y,ns,xs,ey,he,h2,h3,e4⟩:=CL e;injection e4 with e4;subst e4;exact SemWS.h (ts:=QS K (xt 0) te f) (w:=Pf C f (wP a)) ⟨y,ey,ns,xs,he,h2,h3,h1⟩
instance {a:M}[sa:SemE te a]:SemWS (vO te) (wPN (zW a)) where
 h:=λ{ε N R} h=>by
  obtain ⟨ε',e,h1⟩:=h;obtain ⟨y,ey,e2⟩:=bind_some e;cases e2;exact SemWS.h (ts:=vO te) (w:=Pe (wP a)) ⟨y,ey,h1⟩
instance Ro {t u:TS}{a b:MS}[sa:SemWS t (wPN a)][sb:SemWS u (wPN b)]:SemWS (tSeq t u) (wPN (y0 a b)) where
 h:=λ{ε N R} h S Hs0 H0 Hs H U rd D k rt=>by
  obtain ⟨ε',e,h1⟩:=h;obtain ⟨o1,e1,e2⟩:=bind_some e;refine SemWS.h (ts:=tSeq t u) (w:=wSeq (wPN a) (wPN b)) (ε:=ε) (N:=N) (R:=R) ?_ rd k rt;cases o1 with
  |nx ε1=>exact ⟨ε1,e1,ε',e2,h1⟩
  |rt y=>cases e2
  |bk ε1=>cases e2
  |ct ε1=>cases e2
def Qe (n k:Nat)(C:Addr)(f:MS):List PV->Option PV:=λxs=>if xs.length+1=k then (f (.ow (.ob C [] [])::xs.map .sh++List.replicate (n-k) .no)).bind λo=>match o with
 | .nx ε=>(match (ε[0]?:Option MSlot) with
  |some (.ow y)=>some y
  |_=>none)
 |_=>none else none
theorem okID {P:Program}{w:World}{mg:Str->Option Value}{base:Heap}{x:Str}{f:Addr}{k:Nat}{b:MS}(F:FunD K x qual st f fd)(S:w5 N ps (z9 st))(hm:m=Qe N.length ps.length C b)(hb:∀(cdv:Value)(A:Around)(outer:List Env)(s:Shared)(H:Hp)(E:XK),Room k (A.deeper (PyProof.Rows.envOfC qual (z9 st) s.heap.objs.size f cdv)) -> ∃ t,PSs (qQ v5 P w K mg base N qual (z9 st) f cdv A outer s H E).nox (i0 st) t/\SemWS t (wPN b)):FnOk P w K mg base v5 (k+1) f fd ps (spI C m):=by
 subst hm;refine okI' F S (λxs y e=>?_) hb (λxs y e=>?_)
 ·unfold Qe at e;split at e
  ·rename_i hl;exact hl
  ·cases e
 ·unfold Qe at e;split at e
  ·rename_i hl;obtain ⟨o,eo,e1⟩:=bind_some e;rw [hl];cases o with
   |nx ε =>
    refine ⟨ε,eo,?_⟩;have e2:(match (ε[0]?:Option MSlot) with
     |some (.ow y)=>some y
     |_=>none)=some y:=e1
    show ε[0]?=some (.ow y);split at e2
    ·rename_i z hz;cases e2;exact hz
    ·cases e2
   |rt z=>cases e1
   |bk z=>cases e1
   |ct z=>cases e1
  ·cases e
def vH:List PV->Option (List (v9×PV))
 |[]=>some []
 | .tup [k,v]::xs=>(zk k).bind λkk=>(vH xs).map ((kk,v)::·)
 |_::_=>none
def Zq:List PV->Option PV
 |[.lst xs]=>(vH xs).bind λps=>if (ps.map (·.1)).Nodup/\ps.length<=1000 then some (.fk (ps.map (·.1)) (ps.map (·.2))) else none
 |_=>none
theorem Kl {Hs H:Hp}(s:Same Hs H):∀{xs:List PV}{ps:List (v9×PV)}{vs:List V},vH xs=some ps->Reps Hs xs vs->∃(ts:List Addr)(kvs:List (v9×V)),vs=ts.map V.ref/\Paired (λt (kv:v9×V)=>H t=some (.tup [kV kv.1,kv.2])) ts kvs/\kvs.map (·.1)=ps.map (·.1)/\Reps Hs (ps.map (·.2)) (kvs.map (·.2))
 |[],ps,vs,h,r=>by
  cases h;cases reps_nil.mp r;exact ⟨[],[],rfl,.nil,rfl,.nil⟩
 |x::xs,ps,vs,h,r=>by
  unfold vH at h;split at h
  ·rename_i e;cases e
  ·rename_i k v xs' e;injection e with e1 e2;subst e1 e2;obtain ⟨kk,ek,h1⟩:=bind_some h;obtain ⟨ps',hp,rfl⟩:=yF.mp h1;obtain ⟨w,ws,rfl,r1,r2⟩:=reps_cons.mp r;obtain ⟨t,us,rfl,ht,ru⟩:=rep_tup.mp r1;obtain ⟨u1,us1,rfl,p1,p2⟩:=reps_cons.mp ru;obtain ⟨u2,us2,rfl,p3,p4⟩:=reps_cons.mp p2;cases reps_nil.mp p4;have ew:=jy (H:=H) (.inl p1) ek;subst ew;obtain ⟨ts,kvs,rfl,q1,q2,q3⟩:=Kl s hp r2;exact ⟨t::ts,(kk,u2)::kvs,rfl,.cons (s _ _ ht) q1,by rw [yT,yT,q2],.cons p3 q3⟩
  ·cases h
instance:zw Ku Zq where
 h:=λ{xs z} e {Hs H vs} s r {Q} q=>by
  unfold Zq at e;split at e
  ·obtain ⟨ps,eb,e1⟩:=bind_some e;split at e1
   ·rename_i hl;cases e1;obtain ⟨v,rfl,a⟩:=qW r;obtain ⟨p,ws,rfl,ep,r1⟩:=qc s a;obtain ⟨ts,kvs,rfl,q1,q2,q3⟩:=Kl s eb r1;have hk:kvs.length=ps.length:=by have:=congrArg List.length q2;rwa [yZ,yZ] at this
    refine ⟨p,ts,kvs,rfl,ep,q1,by rw [q2];exact hl.1,by omega,λl o hn=>?_⟩;exact q _ _ _ (.new s hn) (rep_fk.mpr ⟨l,o,kvs,rfl,y4,q2,q3.mono (Ext.new s hn).s1⟩)
   ·cases e1
  ·cases e
def wAsg (g:MG)(a:W):WS:=λε N _=>a ε λx ε1=>∃ ε2,g x ε1=some ε2/\N ε2
instance (priority:=500){g:MG}[sa:SemW te a][sg:SemWG tg g]:SemWS (zr te tg) (wAsg g a) where
 h:=λh _ _ _ _ _ _ rd _ k _=>sa.h h rd λx ε1 v Hs1 H1 h1 rd1 g1 r1=>by
  obtain ⟨ε2,e,h2⟩:=h1;exact sg.h e rd1 r1 λσ' rd2=>k _ _ _ _ h2 rd2 g1
def Xs (a:M):M:=λε=>(a ε).bind λx=>match x with
 | .fk _ xs=>if xs.length<=1000 then some (.lst xs) else none
 |_=>none
instance {a:M}[sa:SemE td a]:xn (tCB KA (qv (BG td) qM)) (Xs a) where
 h:=λe _ _ _ _ _ rs _ q=>by
  obtain ⟨x,ex,e1⟩:=bind_some e;split at e1
  ·split at e1
   ·rename_i hl;cases e1;refine sa.h ex rs λv Hs1 H1 x1 r1=>?_;obtain ⟨p,o,kvs,rfl,hp,_,r⟩:=rep_fk.mp r1;refine ⟨p,o,kvs,rfl,x1.s3 _ _ hp,λw hw=>?_⟩;have x2:Ext Hs1 H1 Hs1 (j9 H1 w (vwO w p)):= .newO x1.s3 hw;have hl2:kvs.length<=1000:=by have:=r.length;rw [yZ] at this;omega
    refine ⟨w,p,o,kvs,rfl,y4,x2.s3 _ _ hp,hl2,λl hn=>?_⟩;have x3:=Ext.newO (o:= .lst (kvs.map (·.2))) x2.s3 hn;exact q l _ _ ((x1.trans x2).trans x3) ((x1.trans x2).s2.free hn) (x2.s3.free hn) ⟨_,y4,r⟩
   ·cases e1
  ·cases e1
def pIntB:List PV->Option PV
 |[.at (.bl b)]=>some (.at (.int (if b then 1 else 0)))
 |_=>none
def Xu (a:MA):MA:=λε=>(a ε).bind λxs=>match xs with
 |[.at (.int i),.at (.int j)]=>if (-(lim:Int)<=i/\i<=lim)/\-(lim:Int)<=j/\j<=lim then some (qB i (j-i).toNat) else none
 |_=>none
instance {a:MA}[sa:qO ta a]:zd (Gm ta) (Xu a) where
 h:=λe _ _ _ _ _ rs _ q=>by
  obtain ⟨xs,ex,e1⟩:=bind_some e;split at e1
  ·rename_i i j;split at e1
   ·rename_i hl;cases e1;refine sa.h ex rs λvs Hs1 H1 x1 r1=>?_;obtain ⟨v,r,rfl,p1,p2⟩:=reps_cons.mp r1;obtain ⟨v2,r2,rfl,p3,p4⟩:=reps_cons.mp p2;cases reps_nil.mp p4;cases rep_at.mp p1;cases rep_at.mp p3;have hlim:(lim:Int)=1000000:=rfl;exact ⟨i,j,rfl,⟨by omega,by omega,by omega,by omega⟩,q _ _ _ x1 Jz⟩
   ·cases e1
  ·cases e1
end Mi
namespace Mi
open PySem PySem.Spec PyProof.Rows L2
variable{N:List Str}{ms:List Bool}{xs:List PV}{te:TE}{ta:TA}{a:M}{as f it:MA}{m:List PV->Option PV}{E:XK}{b:MS}{n:Nat}{ε:ME}{ts:List Nat}
variable {fr:Bool}
def RepsM (Hs H:Hp):List Bool->List PV->List V->Prop
 |[],xs,vs=>xs=[]/\vs=[]
 |b::ms,xs,vs=>∃ x xr v vr,xs=x::xr/\vs=v::vr/\(if b=true then RepB Hs H x v else Rep Hs x v)/\RepsM Hs H ms xr vr
theorem RepsM.length {Hs H:Hp}:∀{ms:List Bool}{xs:List PV}{vs:List V},RepsM Hs H ms xs vs->xs.length=ms.length/\vs.length=ms.length
 |[],_,_,h=>by rw [h.1,h.2];exact ⟨rfl,rfl⟩
 |b::ms,_,_,h=>by
  obtain ⟨x,xr,v,vr,rfl,rfl,_,r⟩:=h;have q:=RepsM.length r;exact ⟨congrArg (·+1) q.1,congrArg (·+1) q.2⟩
def za:List Bool->List PV->ME
 |b::ms,x::xs=>(if b=true then .bo x else .sh x)::za ms xs
 |_,_=>[]
theorem Bi:∀{ms:List Bool}{xs:List PV},xs.length=ms.length->(za ms xs).length=ms.length
 |[],[],_=>rfl
 |_::ms,_::xs,h=>congrArg (·+1) (Bi (ms:=ms) (xs:=xs) (by simpa using h))
theorem Bh {Hs H:Hp}:∀{ms:List Bool}{xs:List PV}{vs:List V}{i:Nat}{sl:MSlot},RepsM Hs H ms xs vs->(za ms xs)[i]?=some sl->∃(x:PV)(v:V),vs[i]?=some v/\((sl = .bo x/\RepB Hs H x v)∨(sl = .sh x/\Rep Hs x v))
 |[],_,_,i,sl,h,e=>by rw [h.1] at e;simp [za] at e
 |b::ms,_,_,0,sl,h,e=>by
  obtain ⟨x,xr,v,vr,rfl,rfl,p,r⟩:=h;simp only [za,List.getElem?_cons_zero,Option.some.injEq] at e;refine ⟨x,v,rfl,?_⟩;cases b with
  |true=>exact .inl ⟨e.symm,p⟩
  |false=>exact .inr ⟨e.symm,p⟩
 |b::ms,_,_,i+1,sl,h,e=>by
  obtain ⟨x,xr,v,vr,rfl,rfl,p,r⟩:=h;obtain ⟨y,w,h1,h2⟩:=Bh (i:=i) (sl:=sl) r (by simpa [za] using e);exact ⟨y,w,by simpa using h1,h2⟩
theorem Vt {Hs H:Hp}{vs:List V}(s:Same Hs H)(r:RepsM Hs H ms xs vs):RS Hs H Hs H (L2.start N vs) (za ms xs++List.replicate (N.length-ms.length) .no):=by
 obtain ⟨lx,lv⟩:=r.length;have ls:=Bi lx;have at1:∀(i:Nat)(sl:MSlot),(za ms xs++List.replicate (N.length-ms.length) .no)[i]?=some sl->sl = .no∨∃(x:PV)(v:V),(L2.start N vs)[i]?=some (some v)/\((sl = .bo x/\RepB Hs H x v)∨(sl = .sh x/\Rep Hs x v)):=by
  intro i sl h;by_cases hi:i<ms.length
  ·rw [yn (by rw [ls];exact hi)] at h;obtain ⟨x,v,h1,h2⟩:=Bh r h;refine .inr ⟨x,v,?_,h2⟩;unfold L2.start;rw [yn (by rw [yZ,lv];exact hi),yM,h1];rfl
  ·rw [yc (by rw [ls];omega),uN] at h;split at h
   ·cases h;exact .inl rfl
   ·cases h
 refine ⟨.refl s,λi x h=>?_,λi x h=>?_,λi j x y a h1 _ _ _=>?_,?_,λi x h=>?_⟩
 ·rcases at1 i _ h with z|⟨y,v,hv,⟨z,_⟩|⟨z,q⟩⟩
  ·cases z
  ·cases z
  ·cases z;exact ⟨v,hv,q⟩
 ·rcases at1 i _ h with z|⟨y,v,hv,⟨z,_⟩|⟨z,q⟩⟩<;>cases z
 ·rcases at1 i _ h1 with z|⟨y,v,hv,⟨z,_⟩|⟨z,q⟩⟩<;>cases z
 ·unfold L2.start;rw [yH,yH,yZ,uF,uF,ls,lv]
 ·rcases at1 i _ h with z|⟨y,v,hv,⟨z,q⟩|⟨z,_⟩⟩
  ·cases z
  ·cases z;refine ⟨v,hv,?_⟩;rcases q with q|⟨a,e,n,t⟩
   ·exact .inl q
   ·exact .inr ⟨a,e,t.there,n,t⟩
  ·cases z
def zb (ms:List Bool)(m:List PV->Option PV):Sp:=λvs H Q _=>∃ Hs xs y,Same Hs H/\RepsM Hs H ms xs vs/\m xs=some y/\∀ v Hs' H',Ext Hs H Hs' H'->Rep Hs' y v->Q v H'
class jp (ms:List Bool)(ta:TA)(f:MA):Prop where
 h:∀{ε ys},f ε=some ys->∀{Hs0 H0 Hs H U},RS Hs0 H0 Hs H U ε->∀{Q:List V->Hp->Prop},(∀ vs Hs' H',Ext Hs H Hs' H'->RepsM Hs' H' ms ys vs->Q vs H')->ta U H Q
instance:jp [] qM x0 where
 h:=λe _ _ _ _ _ rs _ q=>by cases e;exact q _ _ _ (.refl rs.sub) ⟨rfl,rfl⟩
instance [sa:n8 te a][sr:jp ms ta f]:jp (true::ms) (qv te ta) (q8 a f) where
 h:=λe _ _ _ _ _ rs _ q=>by
  obtain ⟨x,ex,e⟩:=bind_some e;obtain ⟨xs,ey,e⟩:=bind_some e;cases e;exact sa.h ex rs λv Hs1 H1 x1 r1=>sr.h ey (rs.go x1) λvs Hs2 H2 x2 r2=>q _ _ _ (x1.trans x2) ⟨_,_,_,_,rfl,rfl,r1.ext x2,r2⟩
instance [sa:SemE te a][sr:jp ms ta f]:jp (false::ms) (qv te ta) (q8 a f) where
 h:=λe _ _ _ _ _ rs _ q=>by
  obtain ⟨x,ex,e⟩:=bind_some e;obtain ⟨xs,ey,e⟩:=bind_some e;cases e;exact sa.h ex rs λv Hs1 H1 x1 r1=>sr.h ey (rs.go x1) λvs Hs2 H2 x2 r2=>q _ _ _ (x1.trans x2) ⟨_,_,_,_,rfl,rfl,r1.mono x2.s1,r2⟩
instance [sa:jp ms ta as]:SemE (xL (zb ms m) [] E ta) (x9 m as) where
 h:=λe _ _ _ _ _ rs _ q=>by
  obtain ⟨xs,ex,e1⟩:=bind_some e;refine sa.h ex rs λvs Hs1 H1 x1 r1=>⟨Hs1,xs,_,x1.s3,by rw [yA];exact r1,e1,λv Hs' H' x r=>q v _ _ (x1.trans x) r⟩
instance {C:Addr}{nm:Str}[so:SemE te a][sa:jp ms ta as]:SemE (zJ C nm (zb (false::ms) m) [] E te ta) (qj C nm m a as) where
 h:=λe _ _ _ _ _ rs _ q=>by
  obtain ⟨ns,fs,xs,ea,hn,e1,e2⟩:=Xt e;refine so.h ea rs λv Hs1 H1 x1 r1=>?_;obtain ⟨p,dx,gs,rfl,hp,hk,hr⟩:=rep_ob.mp r1;refine ⟨p,dx,gs,rfl,x1.s3 _ _ hp,Qt (by rw [hk];exact hn),sa.h e1 (rs.go x1) λvs Hs2 H2 x2 r2=>?_⟩;exact ⟨Hs2,_,_,x2.s3,by rw [yA];exact ⟨_,_,_,_,rfl,rfl,r1.mono x2.s1,r2⟩,e2,λv Hs' H' x r=>q v _ _ (x1.trans (x2.trans x)) r⟩
def xQ (n:Nat)(ms:List Bool)(f:MS):List PV->Option PV:=λxs=>if xs.length=ms.length then (f (za ms xs++List.replicate (n-ms.length) .no)).bind λo=>match o with
 | .rt y=>some y
 | .nx _=>some (.at .non)
 |_=>none else none
section
variable {P:Program}{w:World}{K:Fg}{mg:Str->Option Value}{base:Heap}
theorem okPB {x qual:Str}{st:Stmt}{f:Addr}{fd:FuncData}{ps:List Str}{k:Nat}(F:Fun K x qual st f fd)(S:w5 N ps (z9 st))(hm:m=xQ N.length ms b)(hk:ms.length=ps.length)(hb:∀(cdv:Value)(A:Around)(outer:List Env)(s:Shared)(H:Hp)(E:XK),Room k (A.deeper (envOfC qual (z9 st) s.heap.objs.size f cdv)) -> ∃ t,PSs (qQ v5 P w K mg base N qual (z9 st) f cdv A outer s H E).nox (i0 st) t/\qh false t b):FnOk P w K mg base v5 (k+1) f fd ps (zb ms m):=by
 subst hm;refine F.ok S (λvs H Q E h=>?_) (λcdv A outer s H vs Q E hr h=>?_)
 ·obtain ⟨Hs,xs,y,_,r,e,_⟩:=h;rw [r.length.2];exact hk
 ·obtain ⟨Hs,xs,y,sm,r,e,q⟩:=h;obtain ⟨t,ht,sem⟩:=hb cdv A outer s H E hr;refine ⟨t,ht,?_⟩;unfold xQ at e;split at e
  ·obtain ⟨o,eo,e1⟩:=bind_some e;refine sem.h eo (Vt sm r) ?_;cases o with
   |rt z=>cases e1;exact λv Hs' H' x rv=>q v Hs' H' x rv
   |nx ε=>cases e1;exact λHs' H' U rs=>q _ Hs' H' rs.ext (rep_at.mpr rfl)
   |bk ε=>cases e1
   |ct ε=>cases e1
  ·cases e
theorem Jk {y:PV}(hl:xs.length=ms.length)(h:b (za ms xs++List.replicate (n-ms.length) .no)=some (.rt y)):xQ n ms b xs=some y:=by unfold xQ;rw [if_pos hl,h];rfl
theorem Dh (hl:xs.length=ms.length)(h:b (za ms xs++List.replicate (n-ms.length) .no)=some (.nx ε)):xQ n ms b xs=some (.at .non):=by unfold xQ;rw [if_pos hl,h];rfl
theorem Df {f:M}{cap:List (Option Nat)}{G:MG}{c:MB}{ys:List PV}(h:it ε=some xs)(hc:ze cap ts=true)(hl:xs.length<=lim)(k:qi G c f (t9 cap ε) xs=some ys):zV cap ts it G c f ε=some (.lst ys):=by unfold zV;rw [h];show (if _ then _ else _)=_;rw [if_pos ⟨hc,hl⟩,k];rfl
theorem Gb {cap:List (Option Nat)}{g:MG}{f:M}{α:Type}(F G:α->PV)(l:List α)(h:it ε=some (l.map F))(hc:ze cap ts=true)(hl:l.length<=lim)(k:∀ a∈l,∃ ε1,g (F a) (t9 cap ε)=some ε1/\f ε1=some (G a)):zV cap ts it g u5 f ε=some (.lst (l.map G)):=Df h hc (by rw [yZ];exact hl) (Je F G l k)
end
end Mi
namespace L2
open PySem PySem.Spec PyProof.Rows
theorem GY {P:Program}{w:World}{X:Cx}:zN (CX1 P w) X E0:=λ_ _ _ _ _ _ _ h=>by
 obtain ⟨_,_,_,_,_,_,_,_,_,q⟩:=h;exact q.elim
structure Mx (P:Program)(w:World)(K:Fg)(mg:Str->Option Value)(base:Heap)(k:Nat)(C:Addr)(m:Str)(ps:List Str)(sp:Sp):Prop where
 ex:∃ f fd,FnOk P w K mg base (CX1 P w) k f fd ps sp/\vQ K C m f/\Cls K C/\Binds K fd ps []
section
variable {X:Cx}{k j:Nat}{C:Addr}{m x:Str}{ps:List Str}{sp:Sp}{o e c:Expr}{es:List Expr}{te ta:TE}{t:TA}{tc:TT}{apos pos p:Pos}{E:XK}{U:St}{st:Stmt}{a b:List Stmt}{u v:TS}
theorem Ke {pl:Sem Bool}(c:Mx X.prog X.w X.K X.mg X.base k C m ps sp)(hr:Room j X.A)(hj:k<=j)(hx:zN (CX1 X.prog X.w) X E)(ho:PE X o ta)(ha:PA X (e::es) t)
  (hst:starEach (e::es) X.env=(false,eval e X.env)::starEach es X.env:=by rfl) (hpl:(backTo pos (starEach es X.env)).any (·.1)=false:=by rfl)
  (ht:eval (.Call (.Attribute o m apos) (e::es) [] pos) X.env=(do
   let ov <- eval o X.env
   standAt apos.atName
   let (f,first) <- holding [ov] (getMethod ov m pl)
   callWith pos f first (backTo pos (starEach (e::es) X.env)) (backToKw pos (keywordEach [] X.env))):=by rfl) :
  PE X (.Call (.Attribute o m apos) (e::es) [] pos) (zJ C m sp [] E ta t):=by
 obtain ⟨f,fd,F,hm,hc,hb⟩:=c.ex;exact Kc ho hc hm F (hr.mono hj) hb .nil hx ha hst hpl ht
end
section
variable {X:Cx}{K:Fg}{x n:Str}{i:Nat}{D0:Addr}{cs:List Addr}{body suite:List Stmt}{b₀:Stmt}{tb:XK->TS}{ts:Addr->Addr->TS}{np hpos pos:Pos}
theorem Vj {t:TS}(hK:X.K=K)(hb:∀(pn:List (Addr×Obj)),PSs (X.tried pn λ_ _=>False) body t){h0:ExceptHandler}{hs:List ExceptHandler}:PS X (.Try body (h0::hs) [] [] pos) t:=by
 intro pins s U H D I h;refine wpAny_Try_except (wpAny_mono (hb (X.pn++pins) [] s U H D (I.tried _) h) (λf s1 q=>?_) λe s1 q=>q.elim);have q':=SP.untried I.ok q;cases f with
 |next=>exact wpAny_execs_nil q'
 |brk=>exact q'
 |cont=>exact q'
 |ret u=>exact q'
end
end L2
namespace Mi
open PySem L2
variable{E:XK}{C:Addr}
abbrev XM:=ME->Addr->Prop
variable{xa xb:XM}
class zP (E:XK)(ts:TS)(f:XM):Prop where
 h:∀{ε c},f ε c->∀{Hs0 H0 Hs H U},RS Hs0 H0 Hs H U ε->(∀ Hs' H',Ext Hs0 H0 Hs' H'->E (.ref c) none H')->∀{D:xD},ts D U H
def xNo:XM:=λ_ _=>False
instance (priority:=2000){ts:TS}:zP E ts xNo where
 h:=λh=>h.elim
def Pj (C:Addr):XM:=λ_ c=>c=C
instance :zP E (WF C E) (Pj C) where
 h:=λh _ _ _ _ _ rs q _=>by cases h;exact q _ _ rs.ext
instance {fr:Bool}:qh fr (WF C E) xf where
 h:=λe=>by cases e
def xSeq (fr:Bool)(a:MS)(xa xr:XM):XM:=λε c=>xa ε c∨∃ ε',a ε=some (.nx ε')/\xr ε' c
instance {fr:Bool}{t u:TS}{a:MS}{xr:XM}[sa:qh fr t a][s1:zP E t xa][s2:zP E u xr]:zP E (tSeq t u) (xSeq fr a xa xr) where
 h:=λh _ _ _ _ _ rs q D=>by
  rcases h with h|⟨ε',e,h⟩
  ·exact s1.h h rs q
  ·exact sa.h e rs λHs H U r=>s2.h h r q
def xIf (c:MB)(xa xb:XM):XM:=λε k=>∃ b,c ε=some b/\if b=true then xa ε k else xb ε k
instance {t:TT}{ta tb:TS}{c:MB}[sc:qP t c][sa:zP E ta xa][sb:zP E tb xb]:zP E (tIfS t ta tb) (xIf c xa xb) where
 h:=λh _ _ _ _ _ rs q _=>by
  obtain ⟨b,e,h⟩:=h;refine sc.h e rs λHs1 H1 x1=>?_;cases b with
  |true=>exact xg (sa.h (by simpa using h) (rs.go x1) q)
  |false=>exact qT (sb.h (by simpa using h) (rs.go x1) q)
def wJ (ms:List Bool)(m:List PV->Option PV)(x:List PV->Addr->Prop):Sp:=λvs H Q E=>∃ Hs xs,Same Hs H/\RepsM Hs H ms xs vs/\((∃ y,m xs=some y/\∀ v Hs' H',Ext Hs H Hs' H'->Rep Hs' y v->Q v H')∨∃ c,x xs c/\∀ Hs' H',Ext Hs H Hs' H'->E (.ref c) none H')
section
variable {ms:List Bool}{m:List PV->Option PV}{x:List PV->Addr->Prop}{ta:TA}{as:MA}{E:XK}{C:Addr}{nm:Str}{te:TE}{a:M}
instance [so:SemE te a][sa:jp ms ta as]:SemE (zJ C nm (wJ (false::ms) m x) [] E te ta) (qj C nm m a as) where
 h:=λe _ _ _ _ _ rs _ q=>by
  obtain ⟨ns,fs,xs,ea,hn,e1,e2⟩:=Xt e;refine so.h ea rs λv Hs1 H1 x1 r1=>?_;obtain ⟨p,dx,gs,rfl,hp,hk,hr⟩:=rep_ob.mp r1;refine ⟨p,dx,gs,rfl,x1.s3 _ _ hp,Qt (by rw [hk];exact hn),sa.h e1 (rs.go x1) λvs Hs2 H2 x2 r2=>?_⟩;exact ⟨Hs2,_,x2.s3,by rw [yA];exact ⟨_,_,_,_,rfl,rfl,r1.mono x2.s1,r2⟩,.inl ⟨_,e2,λv Hs' H' x r=>q v _ _ (x1.trans (x2.trans x)) r⟩⟩
end
def xFnB (n:Nat)(ms:List Bool)(f:XM):List PV->Addr->Prop:=λxs c=>xs.length=ms.length/\f (za ms xs++List.replicate (n-ms.length) .no) c
section
variable {P:Program}{w:World}{K:Fg}{mg:Str->Option Value}{base:Heap}
theorem okPX {y qual:Str}{st:Stmt}{f:Addr}{fd:FuncData}{N ps:List Str}{k:Nat}{b:MS}{ms:List Bool}{m:List PV->Option PV}{x:List PV->Addr->Prop}(F:Fun K y qual st f fd)(S:w5 N ps (z9 st))(hm:m=xQ N.length ms b)(hx:x=xFnB N.length ms xb)(hk:ms.length=ps.length)(hb:∀(cdv:Value)(A:Around)(outer:List Env)(s:Shared)(H:Hp)(E:XK),Room k (A.deeper (PyProof.Rows.envOfC qual (z9 st) s.heap.objs.size f cdv)) -> ∃ t,PSs (qQ (CX1 P w) P w K mg base N qual (z9 st) f cdv A outer s H E) (i0 st) t/\qh false t b/\zP E t xb):FnOk P w K mg base (CX1 P w) (k+1) f fd ps (wJ ms m x):=by
 subst hm;subst hx;refine F.ok1 S (λvs H Q E h=>?_) (λcdv A outer s H vs Q E hr h=>?_)
 ·obtain ⟨Hs,xs,_,r,_⟩:=h;rw [r.length.2];exact hk
 ·obtain ⟨Hs,xs,sm,r,h⟩:=h;obtain ⟨t,ht,sem,semx⟩:=hb cdv A outer s H E hr;refine ⟨t,ht,?_⟩;rcases h with ⟨y,e,q⟩|⟨c,h,q⟩
  ·unfold xQ at e;split at e
   ·obtain ⟨o,eo,e1⟩:=bind_some e;refine sem.h eo (Vt sm r) ?_;cases o with
    |rt z=>cases e1;exact λv Hs' H' x rv=>q v Hs' H' x rv
    |nx ε=>cases e1;exact λHs' H' U rs=>q _ Hs' H' rs.ext (rep_at.mpr rfl)
    |bk ε=>cases e1
    |ct ε=>cases e1
   ·cases e
  ·exact semx.h h.2 (Vt sm r) q
end
variable {fr:Bool}
end Mi
namespace L2
open PySem PySem.Spec PyProof.Rows
section
variable {P:Program}{w:World}{K:Fg}{mg:Str->Option Value}{base:Heap}{A:Around}{outer:List Env}{s:Shared}{H:Hp}{f c':Addr}{pm ctv:Value}{params:Arguments}{body:Expr}{scope:Scope}{qual:Str}{clos:List (Str×Addr)}{ps fr:List Str}
 {us:List Value} {vs cv:List V} {t:TE} {Q:VK} {E:XK}
end
end L2
namespace Ka
open PySem.W PyProof.Rows
variable{a b j n nrem:Nat}{p:Array Nat}
def ev {α:Type}(ans:Nat->Nat->Bool):KasT α->α
 | .ret a=>a
 | .ask i j k=>ev ans (k (ans i j))
theorem wf {α β:Type}{ans:Nat->Nat->Bool}{f:α->KasT β}:∀ t:KasT α,ev ans (t.bind f)=ev ans (f (ev ans t))
 | .ret _=>rfl
 | .ask i j k=>wf (k (ans i j))
structure Ord (lt:Nat->Nat->Bool):Prop where
 irr:∀ a,lt a a=false
 tr:∀ a b c,lt a b=true->lt b c=true->lt a c=true
 neg:∀ a b c,lt a c=true->lt a b=true∨lt b c=true
section
variable {lt:Nat->Nat->Bool}(O:Ord lt)
def le (lt:Nat->Nat->Bool)(a b:Nat):Prop:=lt b a=false
include O in
theorem le_refl (a:Nat):le lt a a:=O.irr a
include O in
theorem le_trans {c:Nat}(h:le lt a b)(k:le lt b c):le lt a c:=by
 unfold le at *
 cases e:lt c a with
 |false=>rfl
 |true =>
  rcases O.neg c b a e with z|z
  ·rw [k] at z;cases z
  ·rw [h] at z;cases z
include O in
theorem le_of_lt (h:lt a b=true):le lt a b:=by
 unfold le;cases e:lt b a with
 |false=>rfl
 |true=>have:=O.tr a b a h e;rw [O.irr] at this;cases this
def g (p:Array Nat)(i:Nat):Nat:=p.getD i 0
theorem Ql {q:Array Nat}{i:Nat}(h:p[i]?=q[j]?):g p i=g q j:=by unfold g;rw [Array.getD_eq_getD_getElem?,Array.getD_eq_getD_getElem?,h]
def Up (lt:Nat->Nat->Bool)(p:Array Nat)(k:Nat):Prop:=∀ i j,i<=j->j<k->le lt (g p i) (g p j)
def zv (lt:Nat->Nat->Bool)(p:Array Nat)(k:Nat):Prop:=∀ i j,i<=j->j<k->le lt (g p j) (g p i)
def Eqs (lt:Nat->Nat->Bool)(p:Array Nat)(a b:Nat):Prop:=∀ i j,a<=i->i<b->a<=j->j<b->le lt (g p i) (g p j)
include O in
theorem Ti (p:Array Nat):Up lt p 1:=λi j h k=>by
 have:i=j:=by omega
 subst this;exact le_refl O _
include O in
theorem Th (h1:1<=n)(h:Up lt p n)(k:le lt (g p (n-1)) (g p n)):Up lt p (n+1):=λi j hij hj=>by
 by_cases e:j=n
 ·subst e;by_cases e2:i=j
  ·subst e2;exact le_refl O _
  ·exact le_trans O (h i (j-1) (by omega) (by omega)) k
 ·exact h i j hij (by omega)
include O in
theorem Xx (h1:1<=n)(h:zv lt p n)(k:le lt (g p n) (g p (n-1))):zv lt p (n+1):=λi j hij hj=>by
 by_cases e:j=n
 ·subst e;by_cases e2:i=j
  ·subst e2;exact le_refl O _
  ·exact le_trans O k (h i (j-1) (by omega) (by omega))
 ·exact h i j hij (by omega)
theorem Qm {i:Nat}(hj:j<=p.size)(k:Nat):g (kas_rev p i j) k=if i<=k/\k<j then g p (i+j-1-k) else g p k:=by
 have e:=getElem?_mirror_all (xs:=p) (i:=i) hj k;unfold kas_rev;split
 ·rename_i h;rw [if_pos h] at e;exact Ql e
 ·rename_i h;rw [if_neg h] at e;exact Ql e
theorem vI {i:Nat}:(kas_rev p i j).size=p.size:=mirror_size _ _ _ _
theorem rev_perm {i:Nat}:(kas_rev p i j).Perm p:=mirror_perm _ _ _ _
include O in
theorem ZU {p:Array Nat}:∀(f n:Nat),1<=n->Up lt p n -> n<=ev lt (kas_asc p f n)/\ev lt (kas_asc p f n)<=n+f/\Up lt p (ev lt (kas_asc p f n))/\(ev lt (kas_asc p f n)=n+f∨lt (g p (ev lt (kas_asc p f n))) (g p (ev lt (kas_asc p f n)-1))=true)
 |0,n,_,h=>⟨yY _,yY _,h,.inl rfl⟩
 |f+1,n,h1,h=>by
  have e:ev lt (kas_asc p (f+1) n)=ev lt (if lt (g p n) (g p (n-1))=true then KasT.ret n else kas_asc p f (n+1)):=rfl;cases c:lt (g p n) (g p (n-1)) with
  |true=>rw [c,if_pos rfl] at e;rw [e];exact ⟨yY _,by show n<=_;omega,h,.inr c⟩
  |false=>rw [c,if_neg (by simp)] at e;rw [e];obtain ⟨a1,a2,a3,a4⟩:=ZU f (n+1) (by omega) (Th O h1 h c);exact ⟨by omega,by omega,a3,by rcases a4 with z|z;exact .inl (by omega);exact .inr z⟩
include O in
theorem Ji (ha:a<=n)(hn:n<=p.size)(h:zv lt p n)(q:Eqs lt p a n):zv lt (kas_rev p a n) n/\∀ i,i<n->le lt (g p (n-1)) (g (kas_rev p a n) i):=by
 have eqv:∀ i,i<n->le lt (g (kas_rev p a n) i) (g p i)/\le lt (g p i) (g (kas_rev p a n) i):=λi hi=>by
  rw [Qm hn];split
  ·rename_i z;exact ⟨q _ _ (by omega) (by omega) (by omega) (by omega),q _ _ (by omega) (by omega) (by omega) (by omega)⟩
  ·exact ⟨le_refl O _,le_refl O _⟩
 refine ⟨λi j hij hj=>?_,λi hi=>?_⟩
 ·exact le_trans O (le_trans O (eqv j hj).1 (h i j hij hj)) (eqv i (by omega)).2
 ·exact le_trans O (h i (n-1) (by omega) (by omega)) (eqv i hi).2
include O in
theorem Xv:∀(f:Nat)(p:Array Nat)(n q:Nat),q+1<=n->n+f<=p.size->zv lt p n->Eqs lt p (n-(q+1)) n -> ∃ p' n' q',ev lt (kas_desc f p n q)=(p',n',q')/\p'.Perm p/\p'.size=p.size/\n<=n'/\n'<=n+f/\zv lt p' n'/\q'+1<=n'/\Eqs lt p' (n'-(q'+1)) n'
 |0,p,n,q,hq,_,h,e=>⟨p,n,q,rfl,.refl _,rfl,yY _,yY _,h,hq,e⟩
 |f+1,p,n,q,hq,hs,h,he=>by
  have ee:ev lt (kas_desc (f+1) p n q)=ev lt (if lt (g p n) (g p (n-1))=true then (if q > 0 then kas_desc f (kas_rev p (n-(q+1)) n) (n+1) 0 else kas_desc f p (n+1) 0) else KasT.ask (g p (n-1)) (g p n) λd=>if d=true then .ret (p,n,q) else kas_desc f p (n+1) (q+1)):=rfl;cases c:lt (g p n) (g p (n-1)) with
  |true =>
   rw [c,if_pos rfl] at ee;by_cases hq0:q > 0
   ·rw [if_pos hq0] at ee;obtain ⟨d1,d2⟩:=Ji O (a:=n-(q+1)) (by omega) (by omega) h he;have gn:g (kas_rev p (n-(q+1)) n) n=g p n:=by rw [Qm (by omega),if_neg (by omega)]
    have dn:zv lt (kas_rev p (n-(q+1)) n) (n+1):=Xx O (by omega) d1 (by rw [gn];exact le_trans O (le_of_lt O c) (d2 (n-1) (by omega)));obtain ⟨p',n',q',a1,a2,a3,a4,a5,a6⟩:=Xv f (kas_rev p (n-(q+1)) n) (n+1) 0 (by omega) (by rw [vI];omega) dn (λi j i1 i2 j1 j2=>(show i=j by omega)▸le_refl O _);exact ⟨p',n',q',ee.trans a1,a2.trans rev_perm,a3.trans vI,by omega,by omega,a6⟩
   ·rw [if_neg hq0] at ee;obtain ⟨p',n',q',a1,a2,a3,a4,a5,a6⟩:=Xv f p (n+1) 0 (by omega) (by omega) (Xx O (by omega) h (le_of_lt O c)) (λi j i1 i2 j1 j2=>(show i=j by omega)▸le_refl O _);exact ⟨p',n',q',ee.trans a1,a2,a3,by omega,by omega,a6⟩
  |false =>
   rw [c,if_neg (by simp)] at ee;have e2:ev lt (kas_desc (f+1) p n q)=ev lt (if lt (g p (n-1)) (g p n)=true then KasT.ret (p,n,q) else kas_desc f p (n+1) (q+1)):=ee;cases d:lt (g p (n-1)) (g p n) with
   |true=>rw [d,if_pos rfl] at e2;exact ⟨p,n,q,e2,.refl _,rfl,yY _,by omega,h,hq,he⟩
   |false =>
    rw [d,if_neg (by simp)] at e2;have dn:=Xx O (by omega) h (show le lt (g p n) (g p (n-1)) from d);obtain ⟨p',n',q',a1,a2,a3,a4,a5,a6⟩:=Xv f p (n+1) (q+1) (by omega) (by omega) dn (λi j i1 i2 j1 j2=>by
     have lo:∀ k,n-(q+1)<=k->k<n+1->le lt (g p k) (g p (n-1))/\le lt (g p (n-1)) (g p k):=λk k1 k2=>by
      by_cases hk:k=n
      ·subst hk;exact ⟨d,c⟩
      ·exact ⟨he _ _ (by omega) (by omega) (by omega) (by omega),he _ _ (by omega) (by omega) (by omega) (by omega)⟩
     exact le_trans O (lo i (by omega) i2).1 (lo j (by omega) j2).2)
    exact ⟨p',n',q',e2.trans a1,a2,a3,by omega,by omega,a6⟩
include O in
theorem BJ (h1:1<=n)(hn:n<=nrem)(hs:nrem<=p.size)(h:zv lt p n):∃ m p',ev lt (kas_tail3 n nrem p)=(m,p')/\p'.Perm p/\p'.size=p.size/\1<=m/\m<=nrem/\Up lt p' m:=by
 unfold kas_tail3;rw [wf];have up:Up lt (kas_rev p 0 n) n:=λi j hij hj=>by
  rw [Qm (by omega),Qm (by omega),if_pos (by omega),if_pos (by omega)];exact h _ _ (by omega) (by omega)
 obtain ⟨a1,a2,a3,_⟩:=ZU O (nrem-n) n h1 up;exact ⟨_,_,rfl,rev_perm,vI,by omega,by omega,a3⟩
include O in
theorem UR (hn:n+1<=nrem)(hs:nrem<=p.size)(h:zv lt p (n+1)):∃ m p',ev lt (kas_descPart n nrem p)=(m,p')/\p'.Perm p/\p'.size=p.size/\1<=m/\m<=nrem/\Up lt p' m:=by
 unfold kas_descPart;rw [wf];obtain ⟨p',n',q',a1,a2,a3,a4,a5,a6,a7,a8⟩:=Xv O (nrem-(n+1)) p (n+1) 0 (by omega) (by omega) h (λi j i1 i2 j1 j2=>(show i=j by omega)▸le_refl O _);rw [a1]
 dsimp only
 split
 ·obtain ⟨d1,_⟩:=Ji O (a:=n'-(q'+1)) (by omega) (by omega) a6 a8;obtain ⟨m,p2,b1,b2,b3,b4⟩:=BJ O (nrem:=nrem) (by omega) (by omega) (by rw [vI];omega) d1;exact ⟨m,p2,b1,b2.trans (rev_perm.trans a2),by rw [b3,vI,a3],b4⟩
 ·obtain ⟨m,p2,b1,b2,b3,b4⟩:=BJ O (nrem:=nrem) (by omega) (by omega) (by omega) a6;exact ⟨m,p2,b1,b2.trans a2,by rw [b3,a3],b4⟩
include O in
theorem CD (h0:1<=nrem)(hs:nrem<=p.size):∃ m p',ev lt (kas_count nrem p)=(m,p')/\p'.Perm p/\p'.size=p.size/\1<=m/\m<=nrem/\Up lt p' m:=by
 unfold kas_count;rw [wf];obtain ⟨a1,a2,a3,a4⟩:=ZU O (p:=p) (nrem-1) 1 (yY _) (Ti O p);generalize hm:ev lt (kas_asc p (nrem-1) 1)=m at a1 a2 a3 a4 ⊢;by_cases e1:(m==nrem)=true
 ·rw [if_pos e1];exact ⟨m,p,rfl,.refl _,rfl,a1,by omega,a3⟩
 ·rw [if_neg e1];have ne:m≠nrem:=λz=>e1 (by rw [z];exact beq_self_eq_true _);have c:lt (g p m) (g p (m-1))=true:=by
   rcases a4 with z|z
   ·omega
   ·exact z
  by_cases e2:m > 1
  ·rw [if_pos e2];have ee:ev lt (KasT.ask (p.getD 0 0) (p.getD (m-1) 0) λc=>if c=true then KasT.ret (m,p) else kas_descPart m nrem (kas_rev p 0 m))=ev lt (if lt (g p 0) (g p (m-1))=true then KasT.ret (m,p) else kas_descPart m nrem (kas_rev p 0 m)):=rfl;rw [ee];cases d:lt (g p 0) (g p (m-1)) with
   |true=>rw [if_pos rfl];exact ⟨m,p,rfl,.refl _,rfl,a1,by omega,a3⟩
   |false =>
    rw [if_neg (by simp)];have all:Eqs lt p 0 m:=λi j _ i2 _ j2=>le_trans O (le_trans O (a3 i (m-1) (by omega) (by omega)) (show le lt (g p (m-1)) (g p 0) from d)) (a3 0 j (by omega) j2);obtain ⟨d1,d2⟩:=Ji O (a:=0) (by omega) (by omega) (λi j hij hj=>all _ _ (by omega) (by omega) (by omega) (by omega)) all;have gm:g (kas_rev p 0 m) m=g p m:=by rw [Qm (by omega),if_neg (by omega)]
    have dn:zv lt (kas_rev p 0 m) (m+1):=Xx O (by omega) d1 (by rw [gm];exact le_trans O (le_of_lt O c) (d2 (m-1) (by omega)));obtain ⟨m2,p2,b1,b2,b3,b4⟩:=UR O (nrem:=nrem) (by omega) (by rw [vI];omega) dn;exact ⟨m2,p2,b1,b2.trans rev_perm,by rw [b3,vI],b4⟩
  ·rw [if_neg e2];have e3:m=1:=by omega
   subst e3;exact UR O (by omega) hs (λi j hij hj=>by
    by_cases z:i=j
    ·subst z;exact le_refl O _
    ·have z1:i=0:=by omega
     have z2:j=1:=by omega
     subst z1 z2;exact le_of_lt O c)
include O in
theorem Vg {p:Array Nat}{k:Nat}(up:Up lt p k):∀(f l r:Nat),r-l<=f->l<=r->r<=k->(∀ i,i<l->le lt (g p i) (g p k))->(∀ i,r<=i->i<k->le lt (g p k) (g p i)) -> ev lt (kas_place p k f l r)<=k/\(∀ i,i<ev lt (kas_place p k f l r)->le lt (g p i) (g p k))/\∀ i,ev lt (kas_place p k f l r)<=i->i<k->le lt (g p k) (g p i)
 |0,l,r,hf,hl,hr,h1,h2=>by
  have e:l=r:=by omega
  subst e;exact ⟨hr,h1,h2⟩
 |f+1,l,r,hf,hl,hr,h1,h2=>by
  have e:ev lt (kas_place p k (f+1) l r)=ev lt (if l >= r then KasT.ret l else KasT.ask (p.getD k 0) (p.getD ((l+r) / 2) 0) λc=>if c=true then kas_place p k f l ((l+r) / 2) else kas_place p k f ((l+r) / 2+1) r):=rfl;by_cases c:l >= r
  ·rw [if_pos c] at e;have e':l=r:=by omega
   subst e';rw [e];exact ⟨hr,h1,h2⟩
  ·rw [if_neg c] at e;have e2:ev lt (kas_place p k (f+1) l r)=ev lt (if lt (g p k) (g p ((l+r) / 2))=true then kas_place p k f l ((l+r) / 2) else kas_place p k f ((l+r) / 2+1) r):=e;cases d:lt (g p k) (g p ((l+r) / 2)) with
   |true=>rw [d,if_pos rfl] at e2;rw [e2];exact Vg up f l ((l+r) / 2) (by omega) (by omega) (by omega) h1 λi i1 i2=>le_trans O (le_of_lt O d) (up _ _ i1 i2)
   |false=>rw [d,if_neg (by simp)] at e2;rw [e2];exact Vg up f ((l+r) / 2+1) r (by omega) (by omega) hr (λi hi=>le_trans O (up i ((l+r) / 2) (by omega) (by omega)) d) h2
include O in
theorem Uq:∀(f:Nat)(p:Array Nat)(k:Nat),k+f<=p.size->Up lt p k->∃ p',ev lt (kas_bin f p k)=p'/\p'.Perm p/\p'.size=p.size/\Up lt p' (k+f)
 |0,p,k,_,h=>⟨p,rfl,.refl _,rfl,h⟩
 |f+1,p,k,hs,h=>by
  have e:ev lt (kas_bin (f+1) p k)=ev lt ((kas_place p k k 0 k).bind λl=>kas_bin f (bubble p k (k-l)) (k+1)):=rfl;rw [wf] at e;obtain ⟨a1,a2,a3⟩:=Vg O h k 0 k (by omega) (by omega) (yY _) (λi hi=>absurd hi (by omega)) λi i1 i2=>absurd i1 (by omega);generalize ev lt (kas_place p k k 0 k)=l at e a1 a2 a3;have gb:∀ i,g (bubble p k (k-l)) i=if i=l then g p k else if l<i/\i<=k then g p (i-1) else g p i:=λi=>by
   have z:=getElem?_bubble (xs:=p) (src:=k) (by omega) (k-l) (by omega) i;have el:k-(k-l)=l:=by omega
   rw [el] at z;split
   ·rename_i q;rw [if_pos q] at z;exact Ql z
   ·rename_i q;rw [if_neg q] at z;split
    ·rename_i q2;rw [if_pos q2] at z;exact Ql z
    ·rename_i q2;rw [if_neg q2] at z;exact Ql z
  have up:Up lt (bubble p k (k-l)) (k+1):=λi j hij hj=>by
   by_cases e0:i=j
   ·subst e0;exact le_refl O _
   rw [gb,gb];by_cases i1:i=l
   ·rw [if_pos i1,if_neg (by omega),if_pos (by omega)];exact a3 _ (by omega) (by omega)
   ·rw [if_neg i1];by_cases j1:j=l
    ·rw [if_neg (by omega),if_pos j1];exact a2 _ (by omega)
    ·rw [if_neg j1];by_cases i2:l<i/\i<=k
     ·rw [if_pos i2,if_pos (by omega)];exact h _ _ (by omega) (by omega)
     ·rw [if_neg i2];by_cases j2:l<j/\j<=k
      ·rw [if_pos j2];exact h _ _ (by omega) (by omega)
      ·rw [if_neg j2];exact h _ _ (by omega) (by omega)
  obtain ⟨p',b1,b2,b3,b4⟩:=Uq f (bubble p k (k-l)) (k+1) (by rw [bubble_size];omega) up;exact ⟨p',e.trans b1,b2.trans (bubble_perm _ _ _),by rw [b3,bubble_size],by rw [show k+1+f=k+(f+1) by omega] at b4;exact b4⟩
include O in
theorem RC (h:1<=n):∃ p,ev lt (kas_sort n)=p/\p.Perm (List.toArray (List.range n))/\p.size=n/\Up lt p n:=by
 unfold kas_sort;rw [wf];obtain ⟨m,p,a1,a2,a3,a4,a5,a6⟩:=CD O (p:=List.toArray (List.range n)) (nrem:=n) h (by simp);have hp:p.size=n:=by rw [a3];simp
 rw [a1]
 dsimp only
 split
 ·have mx:max m 1=m:=by omega
  rw [mx];obtain ⟨p',b1,b2,b3,b4⟩:=Uq O (n-m) p m (by omega) a6;exact ⟨p',b1,b2.trans a2,by omega,by rw [show m+(n-m)=n by omega] at b4;exact b4⟩
 ·have e:m=n:=by omega
  subst e;exact ⟨p,rfl,a2,hp,a6⟩
end
end Ka
namespace Ka
open PySem PySem.W PyProof.Rows
variable{m n r:Nat}{p:Array Nat}
def Bd {α:Type}(n:Nat):KasT α->Prop
 | .ret _=>True
 | .ask i j k=>i<n/\j<n/\∀ b,Bd n (k b)
def BdP {α:Type}(n:Nat)(R:α->Prop):KasT α->Prop
 | .ret a=>R a
 | .ask i j k=>i<n/\j<n/\∀ b,BdP n R (k b)
theorem vW {α β:Type}{n:Nat}{R:α->Prop}{S:β->Prop}{f:α->KasT β}:∀{t:KasT α},BdP n R t->(∀ a,R a->BdP n S (f a))->BdP n S (t.bind f)
 | .ret a,h,k=>k a h
 | .ask _ _ _,⟨a,b,c⟩,k=>⟨a,b,λx=>vW (c x) k⟩
def Lo (n:Nat)(p:Array Nat):Prop:=1<=n/\∀ x∈p.toList,x<n
theorem Lo.g (h:Lo n p)(i:Nat):p.getD i 0<n:=by
 rw [Array.getD_eq_getD_getElem?];cases e:p[i]? with
 |none=>exact h.1
 |some x=>exact h.2 x (by rw [<- uE] at e;exact uU e)
theorem Lo.perm {q:Array Nat}(h:Lo n p)(k:q.Perm p):Lo n q:=⟨h.1,λx hx=>h.2 x ((Array.perm_iff_toList_perm.mp k).mem_iff.mp hx)⟩
section
variable {n:Nat}
theorem ZX {p:Array Nat}(h:Lo n p):∀ f m,BdP n (λ_=>True) (kas_asc p f m)
 |0,_=>trivial
 |f+1,m=>⟨h.g _,h.g _,λb=>by
  cases b with
  |true=>exact trivial
  |false=>exact ZX h f (m+1)⟩
theorem Xo:∀(f:Nat){p:Array Nat}(m q:Nat),Lo n p->BdP n (λr=>Lo n r.1) (kas_desc f p m q)
 |0,_,_,_,h=>h
 |f+1,p,m,q,h=>⟨h.g _,h.g _,λb=>by
  cases b with
  |true =>
   show BdP n _ (if q > 0 then kas_desc f (kas_rev p (m-(q+1)) m) (m+1) 0 else kas_desc f p (m+1) 0);split
   ·exact Xo f _ _ (h.perm rev_perm)
   ·exact Xo f _ _ h
  |false=>exact ⟨h.g _,h.g _,λd=>by
    cases d with
    |true=>exact h
    |false=>exact Xo f _ _ h⟩⟩
theorem Uo (h:Lo n p):BdP n (λq=>Lo n q.2) (kas_tail3 m r p):=vW (ZX (h.perm rev_perm) _ _) λ_ _=>h.perm rev_perm
theorem Um (h:Lo n p):BdP n (λq=>Lo n q.2) (kas_descPart m r p):=vW (Xo _ _ _ h) λa ha=>by
 split
 ·exact Uo (ha.perm rev_perm)
 ·exact Uo ha
theorem PF (h:Lo n p):BdP n (λq=>Lo n q.2) (kas_count r p):=vW (ZX h _ _) λm _=>by
 split
 ·exact h
 ·split
  ·exact ⟨h.g _,h.g _,λb=>by
    cases b with
    |true=>exact h
    |false=>exact Um (h.perm rev_perm)⟩
  ·exact Um h
theorem ZY {p:Array Nat}{k:Nat}(h:Lo n p):∀ f l r,BdP n (λ_=>True) (kas_place p k f l r)
 |0,_,_=>trivial
 |f+1,l,r=>by
  show BdP n _ (if l >= r then _ else _);split
  ·exact trivial
  ·exact ⟨h.g _,h.g _,λb=>by
    cases b with
    |true=>exact ZY h f _ _
    |false=>exact ZY h f _ _⟩
theorem Ul:∀(f:Nat){p:Array Nat}(k:Nat),Lo n p->BdP n (λ_=>True) (kas_bin f p k)
 |0,_,_,_=>trivial
 |f+1,p,k,h=>vW (ZY h _ _ _) λ_ _=>Ul f _ (h.perm (bubble_perm _ _ _))
theorem PH (h:1<=n):BdP n (λ_=>True) (kas_sort n):=vW (PF ⟨h,λx hx=>by simpa using hx⟩) λr hr=>by
 split
 ·exact Ul _ _ hr
 ·exact trivial
theorem Ph {α:Type}{cmp:Nat->Nat->(Bool->Shared->Prop)->Shared->Prop}{lt:Nat->Nat->Bool}{s:Shared}{R:α->Prop}{G:α->Shared->Prop}(hc:∀ i j (C:Bool->Shared->Prop),i<n->j<n->C (lt i j) s->cmp i j C s):∀{t:KasT α},BdP n R t->G (ev lt t) s->t.kasWp cmp G s
 | .ret _,_,h=>h
 | .ask i j k,⟨a,b,c⟩,h=>hc i j _ a b (Ph hc (c (lt i j)) h)
end
theorem sort_wp {cmp:Nat->Nat->(Bool->Shared->Prop)->Shared->Prop}{lt:Nat->Nat->Bool}{s:Shared}{G:Array Nat->Shared->Prop}(O:Ord lt)(h:1<=n)(hc:∀ i j (C:Bool->Shared->Prop),i<n->j<n->C (lt i j) s->cmp i j C s)(hG:∀ p:Array Nat,p.Perm (List.toArray (List.range n))->p.size=n->(∀ i j,i<=j->j<n->lt (p.getD j 0) (p.getD i 0)=false)->G p s):(kas_sort n).kasWp cmp G s:=by obtain ⟨p,e,a1,a2,a3⟩:=RC O h;refine Ph hc (PH h) ?_;rw [e];exact hG p a1 a2 λi j hij hj=>a3 i j hij hj
end Ka
namespace L2
open PySem PySem.Spec PyProof.Rows
def qq (p q:Int×Str):Bool:=decide (p.1<q.1) || (p.1==q.1&&decide (p.2.cps.toList<q.2.cps.toList))
theorem ltK_iff {p q:Int×Str}:qq p q=true↔p.1<q.1∨(p.1=q.1/\p.2.cps.toList<q.2.cps.toList):=by unfold qq;simp only [Bool.or_eq_true,yp,decide_eq_true_eq,beq_iff_eq]
theorem GH (kf:Nat->Int×Str):Ka.Ord λi j=>qq (kf i) (kf j) where
 irr a:=by
  cases e:qq (kf a) (kf a) with
  |false=>rfl
  |true =>
   rcases ltK_iff.mp e with z|⟨_,z⟩
   ·omega
   ·exact absurd z (List.lt_irrefl _)
 tr a b c h k:=by
  refine ltK_iff.mpr ?_;rcases ltK_iff.mp h with z|⟨z1,z2⟩<;>rcases ltK_iff.mp k with y|⟨y1,y2⟩
  ·exact .inl (by omega)
  ·exact .inl (by omega)
  ·exact .inl (by omega)
  ·exact .inr ⟨by omega,List.lt_trans z2 y2⟩
 neg a b c h:=by
  rcases ltK_iff.mp h with z|⟨z1,z2⟩
  ·by_cases q:(kf a).1<(kf b).1
   ·exact .inl (ltK_iff.mpr (.inl q))
   ·exact .inr (ltK_iff.mpr (.inl (by omega)))
  ·by_cases q:(kf a).1<(kf b).1
   ·exact .inl (ltK_iff.mpr (.inl q))
   ·by_cases q2:(kf b).1<(kf c).1
    ·exact .inr (ltK_iff.mpr (.inl q2))
    ·by_cases q3:(kf a).2.cps.toList<(kf b).2.cps.toList
     ·exact .inl (ltK_iff.mpr (.inr ⟨by omega,q3⟩))
     ·exact .inr (ltK_iff.mpr (.inr ⟨by omega,List.lt_of_le_of_lt (uu.mp q3) z2⟩))
def Grow (H H':Hp):Prop:=∀ b o,H b=some o->H' b=some o
theorem Grow.refl {H:Hp}:Grow H H:=λ_ _ e=>e
structure Mine (X:Cx)(pins:List (Addr×Obj))(b:Addr):Prop where
 s0:X.s₀.heap.objs.size<=b
 nL:b≠X.env.locals
 nC:∀ x c,X.env.cells.lookup x=some c->c≠b
 nP:∀ p∈X.pn++pins,p.1≠b
 nS:b∉qa X.stack
section
variable {X:Cx}{pins:List (Addr×Obj)}{U:St}{H:Hp}{s:Shared}{h':Heap}{b:Addr}
theorem Inv.mine (I:Inv X pins U H s)(h:s.heap.objs.size<=b):Mine X pins b where
 s0:=yr I.sz h
 nL:=Nat.ne_of_gt (yG I.lt h)
 nC:=λx c e=>by
  obtain ⟨v,o,e1,_⟩:=I.cell x c e;exact yJ (yG (yQ e1) h)
 nP:=λp hp=>yJ (yG (yQ (I.pin p hp).1) h)
 nS:=λz=>by
  rcases yP.mp (I.stkSub b z) with q|q
  ·exact absurd q (Nat.ne_of_gt (yG I.lt h))
  ·exact I.nofs h q
theorem Inv.turn {t':Nat}(I:Inv X pins U H s)(m:Mine X pins b)(hn:H b=none)(k:∀ c o,c≠b->s.heap.get? c=some o->h'.get? c=some o):Inv X pins U H { s with heap:=h',toks:=t' } :=
 I.turned k hn m.nL (.inr m.s0) m.nC m.nP
theorem BO {h:Heap}{a c:Addr}{g:Array Value->Array Value}{o:Obj}(n:c≠a)(e:h.get? c=some o):(h.update a (Obj.mapSeq g)).get? c=some o:=(Heap.get?_update_ne _ _ _ _ n).trans e
end
section
variable {X:Cx}{pins:List (Addr×Obj)}{U:St}{H:Hp}{s:Shared}{A2:Around}{D kS f:Addr}{e1:Nat}{xs:List V}{us:List Value}{kf:Nat->Int×Str}{P:PySem.Fin->Shared->Prop}{E:Value->Shared->Prop}
theorem WY:∀{xs:List V}{us:List Value}{i:Nat},Vals xs us->i<xs.length->RelV (xs.getD i .non) (us.getD i Value.none)
 |_,_,i,.nil,h=>by simp at h
 |_,_,0,.cons r _,_=>r
 |_,_,i+1,.cons _ q,h=>by
  have:=WY (i:=i) q (by simpa using h);simpa using this
theorem BZ {xs:List V}{us:List Value}(rv:Vals xs us):∀{l:List Nat},(∀ i∈l,i<xs.length)->Vals (l.map λi=>xs.getD i .non) (l.map λi=>us.getD i Value.none)
 |[],_=> .nil
 |i::l,h=> .cons (WY rv (h i yK)) (BZ rv λj hj=>h j (yN _ hj))
theorem GJ {α:Type}{d:α}:∀ xs:List α,(List.range xs.length).map (λi=>xs.getD i d)=xs:=λxs=>by
 apply List.ext_getElem?;intro i;rw [yM];by_cases h:i<xs.length
 ·rw [List.getElem?_range h,yL h];simp [h]
 ·rw [uD (by simpa using h),uD (by simpa using h)];rfl
end
end L2
namespace Mi
open PySem L2
variable{y:PV}
def JA:PV->Option (Int×Str)
 | .tup [.at (.int i),.at (.str n)]=>some (i,n)
 |_=>none
theorem Mf {k:Int×Str}(h:JA y=some k):y = .tup [.at (.int k.1),.at (.str k.2)]:=by
 unfold JA at h;split at h
 ·cases h;rfl
 ·cases h
def vo (kb:PV->Option PV):List PV->Option (List (Int×Str))
 |[]=>some []
 |x::xs=>((kb x).bind JA).bind λk=>(vo kb xs).map (k::·)
theorem Gy {kb:PV->Option PV}:∀{xs:List PV}{ks:List (Int×Str)},vo kb xs=some ks->ks.length=xs.length
 |[],ks,h=>by cases h;rfl
 |x::xs,ks,h=>by
  obtain ⟨k,_,h2⟩:=uM.mp h;obtain ⟨r,h3,rfl⟩:=yF.mp h2;rw [yS,yS,Gy h3]
theorem Gx {kb:PV->Option PV}:∀{xs:List PV}{ks:List (Int×Str)}{i:Nat}{x:PV},vo kb xs=some ks->xs[i]?=some x->∃ k,ks[i]?=some k/\kb x=some (.tup [.at (.int k.1),.at (.str k.2)])
 |[],_,_,_,_,e=>by simp at e
 |y::xs,ks,0,x,h,e=>by
  obtain ⟨k,h1,h2⟩:=uM.mp h;obtain ⟨r,h3,rfl⟩:=yF.mp h2;obtain ⟨z,h4,h5⟩:=uM.mp h1;simp at e;subst e;exact ⟨k,rfl,by rw [h4,Mf h5]⟩
 |y::xs,ks,i+1,x,h,e=>by
  obtain ⟨k,h1,h2⟩:=uM.mp h;obtain ⟨r,h3,rfl⟩:=yF.mp h2;obtain ⟨k',a,b⟩:=Gx (i:=i) h3 (by simpa using e);exact ⟨k',by simpa using a,b⟩
def b8 (ks:List (Int×Str))(i:Nat):Int×Str:=ks.getD i (0, "")
def leI (ks:List (Int×Str))(a b:Nat):Bool:=!qq (b8 ks b) (b8 ks a)
def vN (ks:List (Int×Str)):List Nat:=(List.range ks.length).mergeSort (leI ks)
theorem ZH (ks:List (Int×Str)):(vN ks).Perm (List.range ks.length):=List.mergeSort_perm _ _
theorem Bk (ks:List (Int×Str)):(vN ks).Pairwise λa b=>qq (b8 ks b) (b8 ks a)=false:=by
 have O:=GH (b8 ks);have:=List.pairwise_mergeSort (le:=leI ks) (λa b c h1 h2=>by
  unfold leI at h1 h2 ⊢;simp only [Bool.not_eq_true'] at h1 h2 ⊢;exact Ka.le_trans (lt:=λi j=>qq (b8 ks i) (b8 ks j)) O (a:=a) (b:=b) (c:=c) h1 h2) (λa b=>by
  unfold leI;cases h:qq (b8 ks b) (b8 ks a) with
  |false=>rfl
  |true =>
   have h2:qq (b8 ks a) (b8 ks b)=false:=Ka.le_of_lt (lt:=λi j=>qq (b8 ks i) (b8 ks j)) O (a:=b) (b:=a) h;rw [h2];rfl) (List.range ks.length)
 exact this.imp λh=>by unfold leI at h;simpa using h
theorem MF {p q:Int×Str}(h1:qq p q=false)(h2:qq q p=false):p=q:=by
 have n1:¬ (p.1<q.1∨(p.1=q.1/\p.2.cps.toList<q.2.cps.toList)):=λz=>by rw [ltK_iff.mpr z] at h1;cases h1
 have n2:¬ (q.1<p.1∨(q.1=p.1/\q.2.cps.toList<p.2.cps.toList)):=λz=>by rw [ltK_iff.mpr z] at h2;cases h2
 have e1:p.1=q.1:=by omega
 have e2:p.2.cps.toList=q.2.cps.toList:=List.le_antisymm (uu.mp λz=>n2 (.inr ⟨e1.symm,z⟩)) (uu.mp λz=>n1 (.inr ⟨e1,z⟩));obtain ⟨i,⟨s⟩⟩:=p;obtain ⟨j,⟨t⟩⟩:=q;cases e1;cases um.mp e2;rfl
theorem RA {ks:List (Int×Str)}(nd:ks.Nodup){l:List Nat}(p:l.Perm (List.range ks.length))(u:l.Pairwise λa b=>qq (b8 ks b) (b8 ks a)=false):l=vN ks :=
 List.Perm.eq_of_pairwise (λa b ha hb h1 h2=>by
  have la:a<ks.length:=yg.mp (p.mem_iff.mp ha);have lb:b<ks.length:=yg.mp ((ZH ks).mem_iff.mp hb);have e:=MF h2 h1;unfold b8 at e;simp only [yb,yL la,yL lb,uo] at e;have nd':=List.pairwise_iff_getElem.mp nd;rcases Nat.lt_trichotomy a b with z|z|z
  ·exact absurd e (nd' a b la lb z)
  ·exact z
  ·exact absurd e.symm (nd' b a lb la z)) u (Bk ks) (p.trans (ZH ks).symm)
def GV (kb:PV->Option PV):List PV->Option PV
 |[.lst xs]=>(vo kb xs).bind λks=>if xs.length<64/\ks.Nodup then some (.lst ((vN ks).map λi=>xs.getD i (.at .non))) else none
 |_=>none
theorem KW {H:Hp}{xs:List PV}{vs:List V}(r:Reps H xs vs):∀{l:List Nat},(∀ i∈l,i<xs.length)->Reps H (l.map λi=>xs.getD i (.at .non)) (l.map λi=>vs.getD i .non)
 |[],_=> .nil
 |i::l,h=>by
  have hi:=h i yK;obtain ⟨v,e1,e2⟩:=r.get (i:=i) (x:=xs.getD i (.at .non)) (by rw [yL hi];simp [hi]);refine .cons ?_ (KW r λj hj=>h j (yN _ hj));have:vs.getD i .non=v:=by simp [e1]
  show Rep H (xs.getD i (.at .non)) (vs.getD i .non);rw [this];exact e2
variable {fr:Bool}
def ZG (xs:List PV)(k:Int)(y:PV):Option (List PV):=(ixN xs.length k).map λj=>xs.set j y
theorem Rp {H:Hp}{xs ys:List PV}{k:Int}{vs:List V}{v:V}(h:ZG xs k y=some ys)(r:Reps H xs vs)(ry:Rep H y v):∃ j,ixN vs.length k=some j/\Reps H ys (vs.set j v):=by obtain ⟨j,hj,rfl⟩:=yF.mp h;exact ⟨j,by rw [r.length];exact hj,r.set ry j⟩
theorem Hu {U:St}{i:Nat}{p p':Addr}(hp:U[i]?=some (some (V.ref p)))(hp':U[i]?=some (some (V.ref p'))):p=p':=by rw [hp] at hp';injection hp' with hp';injection hp' with hp';injection hp' with hp'
def Yd (i:Nat)(kk vv:M):WS:=λε N _=>∃ y k xs ys,vv ε=some y/\kk ε=some (.at (.int k))/\ε[i]?=some (.ow (.lst xs))/\ZG xs k y=some ys/\N (ε.set i (.ow (.lst ys)))
instance {i:Nat}{ty tv:TE}{kk vv:M}[sk:SemE ty kk][sv:SemE tv vv]:SemWS (zr tv (gSub (xt i) ty KE)) (Yd i kk vv) where
 h:=λ⟨y,k,xs,ys,ey,ex,hi,es,h⟩ _ _ _ _ _ _ rd _ q _=>by
  refine sv.h ey rd.rs λv Hs1 H1 x1 r1=>?_;obtain ⟨p,hp,n0,n,t⟩:=(rd.go x1).ow i _ hi;refine ⟨_,hp,sk.h ex (rd.go x1).rs λw Hs2 H2 x2 r2=>?_⟩;obtain ⟨p',hp',_,n2,vs,hv,hr⟩:=((rd.go x1).go x2).ow i _ hi;cases Hu hp hp';cases rep_at.mp r2;obtain ⟨j,hj,hr'⟩:=Rp es hr (r1.mono x2.s1);exact ⟨p,vs,k,j,rfl,rfl,hv,hj,q _ _ _ _ h (((rd.go x1).go x2).change hi hp ⟨_,y4,hr'⟩) (x1.s1.trans x2.s1)⟩
end Mi
namespace L2
open PySem PySem.Spec PySem.Calls PyProof.Rows
variable{x:Str}{e:Expr}{te:TE}{pos:Pos}{es:List Expr}{t:TA}
section
variable {X:Cx}{K:Fg}
theorem y7 {N P:List Str}{sc:Scope}(h1:sc.kind = .function:=by rfl)(h2:sc.isCoroutine=false:=by rfl)(h3:sc.isGenerator=false:=by rfl)(h4:N.Nodup:=by decide +kernel)(h5:N.take P.length=P:=by rfl)(h6:∀ x∈P,sc.names.lookup x=some .local∨sc.names.lookup x=some .cell:=by decide +kernel)(h7:∀ y∈sc.names,y.2 ≠ .free:=by decide +kernel):w5 N P sc:=⟨h1,h2,h3,h4,h5,h6,h7⟩
theorem sW (i:Nat){pos':Pos}(hN:X.N.Nodup)(he:PE X e te)(hi:X.N[i]?=some x:=by rfl)(hx:Loc X.env.scope x:=by first|exact Or.inl rfl|exact Or.inr rfl)(hs:swapsWith e (some (.Name x pos')) pos.line X.env=pure false:=by rfl)(hf:X.fn x=true∨X.env.scope.names.lookup x=some .local:=by first|exact .inl rfl|exact .inr rfl):PS X (.Assign [.Name x pos'] e pos) (zr te (xk i)):=p9 hN hi hx he hs hf
theorem aW (ha:PE X e te)(hs:starEach [e] X.env=(false,eval e X.env)::starEach [] X.env:=by rfl):PA X [e] (qv te qM):=x8 ha v3 hs
theorem aC (ha:PE X e te)(hr:PA X es t)(hs:starEach (e::es) X.env=(false,eval e X.env)::starEach es X.env:=by rfl):PA X (e::es) (qv te t):=x8 ha hr hs
theorem iW {a b:Expr}{ta tb:TE}(hK:X.K=K)(ha:PE X a ta)(hb:PE X b tb)(hs:Yi b:=by exact λ_ _=>rfl):PE X (.Subscript a b pos) (tOp (rIx K) ta tb):=QI (Mc hK) ha hb hs
end
section
variable {X:Cx}{K:Fg}
theorem fW {ps:List Str}{sp:Sp}{k j:Nat}{p:Pos}(c:Fn X.prog X.w X.K X.mg X.base k x ps sp)(hr:Room j X.A)(ha:PA X (e::es) t)(hj:k<=j:=by decide)(hg:Gl X x:=by rfl)(hdb:(x==("__debug__":Str))=false:=by decide)(he:starEach (e::es) X.env=(false,eval e X.env)::starEach es X.env:=by rfl)(hpl:(backTo pos (starEach es X.env)).any (·.1)=false:=by rfl):PE X (.Call (.Name x p) (e::es) [] pos) (xL sp [] E0 t):=u9 c hr hj hg ha hdb he hpl
theorem gW (i:Nat)(hN:X.N.Nodup)(hi:X.N[i]?=some x:=by rfl)(hx:Loc X.env.scope x:=by first|exact Or.inl rfl|exact Or.inr rfl)(hf:X.fn x=true∨X.env.scope.names.lookup x=some .local:=by first|exact .inl rfl|exact .inr rfl):PG X (.Name x pos) (xk i):=k8 hN hi hx hf
end
section
variable {X:Cx}{pins:List (Addr×Obj)}{U:St}{H:Hp}{s:Shared}{A2:Around}{D kS f a:Addr}{e1:Nat}{xs:List V}{us:List Value}{lt:Nat->Nat->Bool}{P:PySem.Fin->Shared->Prop}{E:Value->Shared->Prop}{Q:VK}
def Ps (X:Cx)(pins:List (Addr×Obj))(U:St)(H:Hp)(lt:Nat->Nat->Bool)(D:Addr)(xs:List V)(R:Shared->Prop):Prop:=∀(l:List Nat)(out:List Value)(H':Hp)(s':Shared)(e':Nat),Inv X pins U H' s'->Grow H H'->H' D=none ->
 s'.heap.get? D=some (seqObj "list" out.toArray e')->l.Perm (List.range xs.length)->Vals (l.map λi=>xs.getD i .non) out->l.Pairwise (λa b=>lt b a=false)->R s'
def Yf (X:Cx)(A2:Around)(lt:Nat->Nat->Bool)(us:List Value)(s':Shared):Prop:=∃ κ:SortKind,(∀(Q:SortKind->Shared->Prop)(E:Value->Shared->Prop),Q κ s'->wpAny (model X.prog X.w) A2 (keyKind' us.toArray) Q E s') /\
 ∀(i j:Nat)(C:Bool->Shared->Prop),i<us.length->j<us.length->C (lt i j) s'->wpAny (model X.prog X.w) A2 (keyLt' κ (us.getD i Value.none) (us.getD j Value.none)) C (λ_ _=>False) s'
theorem NP {n:Nat}(I:Inv X pins U H s)(mD:Mine X pins D)(nD:H D=none)(hD:s.heap.get? D=some (seqObj "list" us.toArray n))(rv:Vals xs us)(h64:xs.length<64)(O:Ka.Ord lt)(hT:∀ s',Inv X pins U H s'->2<=us.length->Yf X A2 lt us s')(h:Ps X pins U H lt D xs λs'=>P (.done (.ret .none)) s'):wpAny (model X.prog X.w) A2 (Builtin.«list.sort» ⟨[.ref D],[]⟩) P E s:=by
 have hul:us.length=xs.length:=rv.length.symm;obtain ⟨e1,hD1⟩:∃ e1,(s.heap.update D (Obj.mapSeq λ_=>(#[]:Array Value))).get? D=some (seqObj "list" #[] e1):=⟨_,get?_update_seq hD λ_=>#[]⟩;have I1:=I.turn (t':=s.toks) mD nD (h':=s.heap.update D (Obj.mapSeq λ_=>(#[]:Array Value))) λc o n q=>BO n q;have k2:∀ b o,(s.heap.update D (Obj.mapSeq λ_=>(#[]:Array Value))).get? b=some o->((s.heap.update D (Obj.mapSeq λ_=>(#[]:Array Value))).push (seqObj "tuple" us.toArray 0)).get? b=some o:=λb o e=>yV _ e;have I2:=I1.kept (t':=s.toks) k2;have k3:∀ b o,((s.heap.update D (Obj.mapSeq λ_=>(#[]:Array Value))).push (seqObj "tuple" us.toArray 0)).get? b=some o->(((s.heap.update D (Obj.mapSeq λ_=>(#[]:Array Value))).push (seqObj "tuple" us.toArray 0)).push (seqObj "list" #[] 0)).get? b=some o:=λb o e=>yV _ e;have I3:=I2.kept (t':=s.toks) k3;have mK:=I2.mine (b:=((s.heap.update D (Obj.mapSeq λ_=>(#[]:Array Value))).push (seqObj "tuple" us.toArray 0)).objs.size) (yY _);have nK:=I2.hok.fresh (a:=((s.heap.update D (Obj.mapSeq λ_=>(#[]:Array Value))).push (seqObj "tuple" us.toArray 0)).objs.size) (yY _);rw [list_sort_plain];refine yW (listItems_at hD rfl ?_);refine yW (listUpdate_at hD rfl ?_ (by rw [yX,sizeLine_eq];omega) (yo _));refine yW (seqEpoch_at hD1 rfl ?_);refine yW (wpAny_newTuple ?_ (by show us.length<=_;rw [sizeLine_eq];omega));refine yW (wpAny_newList ?_ (yo _));refine wpAny_holding ?_;generalize hS3:({ s with heap:=((s.heap.update D (Obj.mapSeq λ_=>(#[]:Array Value))).push (seqObj "tuple" us.toArray 0)).push (seqObj "list" #[] 0) }:Shared)=S3;have I:Inv X pins U H S3:=hS3▸I3;have hD3:S3.heap.get? D=some (seqObj "list" #[] e1):=by rw [<- hS3];exact k3 _ _ (k2 _ _ hD1)
 have hkl:us.length=us.length:=rfl;clear I3 I2 I1 mK nK k2 k3 hS3
 dsimp only
 have ptail:∀{st:SortSt}{out:List Value},(arrOf st).map (·.2)=out.toArray->out.length<64->failedOf st=none->∀ l:List Nat,l.Perm (List.range xs.length)->Vals (l.map λi=>xs.getD i .non) out->l.Pairwise (λa b=>lt b a=false) ->
   wpAny (model X.prog X.w) A2 (do
    let touched:=(<- seqEpoch D) != e1
    Builtin.List.listUpdate (.ref D) λ_=>(arrOf st).map (·.2)
    if let some e:=failedOf st then rule "list.sort.comparison-raised";throw e
    if touched then rule "list.sort.modified";raiseError "ValueError" "list modified during sort"
    ret .none) P E S3:=by
  intro st out hout hz hf l pm r pw;obtain ⟨c2,hc2⟩:∃ c2,(S3.heap.update D (Obj.mapSeq λ_=>out.toArray)).get? D=some (seqObj "list" out.toArray c2):=⟨_,get?_update_seq hD3 λ_=>out.toArray⟩;have J:=I.turn (t':=S3.toks) mD nD (h':=S3.heap.update D (Obj.mapSeq λ_=>out.toArray)) λc o n q=>BO n q;rw [hout];refine yW (seqEpoch_at hD3 rfl ?_);refine yW (listUpdate_at hD3 rfl ?_ (yo _) (by show out.toArray.size<=_;rw [yX,sizeLine_eq];omega));rw [hf];simp only [bne_self_eq_false,uG,if_false];exact yR (h l out H _ c2 J .refl nD hc2 pm r pw)
 by_cases h2:us.toArray.size<2
 ·rw [if_pos h2,if_pos h2];refine yW (yR ?_);refine yW (yR ?_);refine ptail (out:=us) ?_ (by omega) rfl (List.range xs.length) (.refl _) (by rw [GJ];exact rv) ?_
  ·show ((us.toArray.zip us.toArray)).map (·.2)=us.toArray;apply um.mp;rw [Array.toList_map,ksk_zip];exact List.map_snd_zip (by simp)
  ·have hx:xs.length<2:=by rw [yX] at h2;omega
   have hr:xs.length=0∨xs.length=1:=by omega
   rcases hr with z|z
   ·rw [z];exact List.Pairwise.nil
   ·rw [z];exact List.pairwise_singleton _ _
 ·rw [if_neg h2,if_neg h2];have h2':2<=us.length:=by rw [yX] at h2;omega
  obtain ⟨κ,hkind,hcmp⟩:=hT S3 I h2';refine yW (hkind _ _ ?_);refine yW (wpAny_mono (PySem.W.kat_run (vs:=us) (ks:=us) (Q:=λst' s'=>s'=S3/\∃ p:Array Nat,p.Perm (List.toArray (List.range us.length))/\p.size=us.length/\(∀ i j,i<=j->j<us.length->lt (p.getD j 0) (p.getD i 0)=false)/\arrOf st'=p.map (PySem.W.kas_item (us.toArray.zip us.toArray))/\failedOf st'=none)
   (G:=λp s'=>s'=S3/\p.Perm (List.toArray (List.range us.length))/\p.size=us.length/\∀ i j,i<=j->j<us.length->lt (p.getD j 0) (p.getD i 0)=false) hkl h2' (by omega)
   (λp st' s' z1 z2 z3 z4=>⟨z4.1,p,z4.2.1,z4.2.2.1,z4.2.2.2,z2,z3⟩)
   (Ka.sort_wp O (by omega) (λi j C hi hj hC=>?_) λp z1 z2 z3=>⟨rfl,z1,z2,z3⟩)) (λr s' hr=>?_) λ_ _ z=>z)
  ·exact hcmp i j C hi hj hC
  ·obtain ⟨⟨⟩,st⟩:=r;obtain ⟨rfl,p,q1,q2,q3,q4,q5⟩:=hr
   dsimp only
   have pl:p.toList.Perm (List.range us.length):=Array.perm_iff_toList_perm.mp q1;have lo:∀ i∈p.toList,i<xs.length:=λi hi=>by
    have:=pl.mem_iff.mp hi;rw [yg] at this;omega
   refine ptail (out:=p.toList.map λi=>us.getD i Value.none) (PySem.W.kat_snds rfl q4) (by rw [yZ,yi,q2];omega) q5 p.toList (by rw [<- hul];exact pl) (BZ rv lo) ?_;rw [List.pairwise_iff_getElem];intro i j hi hj hij;rw [yi,q2] at hi hj;have:=q3 i j (by omega) hj;have gi:∀ k,(hk:k<p.size)->p.getD k 0=p[k]:=λk hk=>by simp [Array.getD,hk]
   rw [gi i (by omega),gi j (by omega)] at this;simpa using this
end
end L2
namespace L2
open PySem PySem.Spec PyProof.Rows Builtin Builtin.Str
section
variable {X:Cx}
theorem BY:∀(n:Nat)(l:List Str),Vals (l.map V.str) (strsFrom n l)
 |_,[]=> .nil
 |n,x::l=> .cons ⟨_,rfl⟩ (BY (n+1) l)
def KI:V->List V->Hp->VK->Prop:=λx xs H Q=>∃ a b:Str,x = .str a/\xs=[.str b]/\1<=b.length/\a.length<=100000/\(Txt.split a b).length<=100000/\∀ p,H p=none->Q (.ref p) (j9 H p (.lst ((Txt.split a b).map .str)))
theorem Nr (x y:Str)(h:x.length<=100000):(partsBetween x (occurrences x y 0 x.length (x.length+1)) y.length).length<=200000:=by have h1:=StrLaws.occ_length_le x y 0 x.length (x.length+1);unfold partsBetween;simp only [yZ,List.length_zip,yH,yS,List.length_nil];omega
theorem Zj:MtR X "str.split" KI:=by
 intro pins s U H x xs v us Q I rx rv h;obtain ⟨a,b,rfl,rfl,hb,ha,hn,q⟩:=h;obtain ⟨t,rfl⟩:=rx;obtain ⟨u,rfl,ru⟩:=rv.one;obtain ⟨tu,rfl⟩:=ru;have hz:sizeLine=16777216:=rfl;have hy:(b.length==0)=false:=beq_eq_false_iff_ne.mpr (by omega);have one:Txt.split a b=[a]->EP X pins U Q (.ref s.heap.objs.size) { s with heap:=s.heap.push { cls:= .type "list",data:= .seq [Value.str a t].toArray },toks:=s.toks }:=λe=>by
  rw [e] at q;exact ⟨.ref _,_,I.lnew (ys:=[V.str a]) (its:=[Value.str a t]) (t':=s.toks) (.cons ⟨t,rfl⟩ .nil) (by show 1<=sizeLine;omega),rfl,q _ I.fresh⟩
 cases h1:(decide (a.length<b.length) || decide (strKind a<strKind b))
 ·cases hf:(occurrences a b 0 a.length (a.length+1)).isEmpty
  ·refine call_meets F.slot_str_split (typeIs_str _ _ _) F.entry_str_split (F.args_str_split_2 _ _) (meets_str_split_sep a b t tu h1 hy hf (by omega) (by have:=Nr a b ha;omega)) ?_;have e:Txt.split a b=partsBetween a (occurrences a b 0 a.length (a.length+1)) b.length:=by unfold Txt.split;rw [if_neg (ne_true_of_eq_false h1),if_neg (ne_true_of_eq_false hf)]
   rw [e] at q hn;exact ⟨.ref _,_,I.lnew (ys:=(partsBetween a (occurrences a b 0 a.length (a.length+1)) b.length).map V.str) (BY _ _) (by rw [yZ];omega),rfl,q _ I.fresh⟩
  ·refine call_meets F.slot_str_split (typeIs_str _ _ _) F.entry_str_split (F.args_str_split_2 _ _) (meets_str_split_not_found a b t tu h1 hy hf) (one ?_);unfold Txt.split;rw [if_neg (ne_true_of_eq_false h1),if_pos hf]
 ·refine call_meets F.slot_str_split (typeIs_str _ _ _) F.entry_str_split (F.args_str_split_2 _ _) (meets_str_split_cannot_occur a b t tu h1) (one ?_);unfold Txt.split;rw [if_pos h1]
def KJ:V->List V->Hp->VK->Prop:=λx xs H Q=>∃ a b:Str,x = .str a/\xs=[.str b]/\Q (.bl (Txt.startswith a b)) H
theorem GL:MtR X "str.startswith" KJ:=by intro pins s U H x xs v us Q I rx rv h;obtain ⟨a,b,rfl,rfl,q⟩:=h;obtain ⟨t,rfl⟩:=rx;obtain ⟨u,rfl,ru⟩:=rv.one;obtain ⟨tu,rfl⟩:=ru;exact SC.startswith ⟨.bl _,H,I,rfl,q⟩
theorem Bv:∀{ts:List Str}{us:List Value},Vals (ts.map V.str) us->∃ l:List (Str×Tok),us=strValues l/\l.map (·.1)=ts
 |[],us,h=>by cases h;exact ⟨[],rfl,rfl⟩
 |t::ts,us,h=>by
  cases h with
  |cons h1 h2=>obtain ⟨k,rfl⟩:=h1;obtain ⟨l,rfl,e⟩:=Bv h2;exact ⟨(t,k)::l,rfl,by rw [yT,e]⟩
def Kx (K:Fg):V->List V->Hp->VK->Prop:=λx xs H Q=>∃(a:Str)(p:Addr)(ts:List Str),x = .str a/\xs=[.ref p]/\SqL K H p (ts.map .str)/\JoinOk a ts=true/\Q (.str (Str.join a ts)) H
theorem jE {K:Fg}(hK:X.K=K):MtR X "str.join" (Kx K):=by subst hK;intro pins s U H x xs v us Q I rx rv h;obtain ⟨a,p,ts,rfl,rfl,hp,ok,q⟩:=h;obtain ⟨t,rfl⟩:=rx;obtain ⟨u,rfl,ru⟩:=rv.one;obtain rfl:u=Value.ref p:=ru;obtain ⟨its,hv,hl,_⟩:=I.list hp;obtain ⟨l,rfl,e⟩:=Bv hv;refine SC.join hl.isList e ok λt' k=>⟨.str _,H,I.tok k,⟨t',?_⟩,q⟩;show Value.str (glued a ts) t'=_;rw [StrLaws.glued_eq_join]
def KK:List V->Hp->VK->Prop:=λxs H Q=>(∃ i:Int,xs=[.int i]/\i.natAbs.log2<1920/\Q (.str (Str.ofString (toString i))) H)∨∃ a:Str,xs=[.str a]/\Q (.str a) H
theorem Qa:CallR X (.type "str") KK:=by
 intro pins s U H xs us Q I r h;rcases h with ⟨i,rfl,hi,q⟩|⟨a,rfl,q⟩
 ·obtain ⟨u,rfl,t,rfl⟩:=r.one;exact P.str_of_int hi ⟨.str _,H,I.tok _,⟨_,rfl⟩,q⟩
 ·obtain ⟨u,rfl,t,rfl⟩:=r.one;exact P.str_of_str ⟨.str _,H,I,⟨_,rfl⟩,q⟩
def Kv:List V->Hp->VK->Prop:=λxs H Q=>∃(a:Str)(n:Int),xs=[.str a]/\intText? a=some n/\a.length<=640/\Q (.int n) H
theorem Cd:CallR X (.type "int") Kv:=by intro pins s U H xs us Q I r h;obtain ⟨a,n,rfl,hn,hl,q⟩:=h;obtain ⟨u,rfl,t,rfl⟩:=r.one;exact PySem.W.KIN.call_text hn hl ⟨.int _,H,I.tok _,⟨_,rfl⟩,q⟩
def BB (x:Str)(te:TE):TE:=λU H Q=>te U H λv H1=>∃ a:Str,v = .str a/\x.length+a.length<=200000/\Q (.str (x++a)) H1
theorem JY {x:Str}{j}{p1 p2 pos:Pos}{e:Expr}{te:TE}(he:PE X e te)(hx:x.length<=1000:=by decide):PE X (.JoinedStr [.Constant (.str x) j p1,.FormattedValue e (-1) none p2] pos) (BB x te):=by
 intro pins s U H Q I h;have hz:sizeLine=16777216:=rfl;have e0:∀ y:Str,Str.empty++x++y=x++y:=λy=>by rw [Str.empty_append]
 refine wpAny_JoinedStr ?_;show wpAny _ _ (eval (.Constant (.str x) j p1) X.env) _ _ s;refine Calls.Constant_str ⟨x,_,rfl,?_,?_⟩
 ·rw [Str.empty_append];omega
 ·show wpAny _ _ (eval (.FormattedValue e (-1) none p2) X.env) _ _ _;refine wpAny_FormattedValue_plain (z7 (he pins _ U H _ (I.tok _) h) λv s1 zq=>?_);obtain ⟨y,H1,I1,r1,a,ey,hl,q⟩:=zq;subst ey;obtain ⟨t,rfl⟩:=r1;have hl2:(Str.empty++x++a).length<=sizeLine:=by rw [e0,Str.length_append];omega
  have fin:∀ s2:Shared,(∃ k,s2={ s1 with toks:=k })->∀ t2:Tok,∃ y t',Value.str a t2 = .str y t'/\(Str.empty++x++y).length<=sizeLine/\Joins (model X.prog X.w) X.A X.xe [] (Str.empty++x++y) (λout s₁=>out.length<=sizeLine/\EP X pins U Q (.str out s₁.toks) { s₁ with toks:=s₁.toks+1 }) s2:=λs2 ⟨k,ek⟩ t2=>by
   subst ek;refine ⟨a,t2,rfl,hl2,hl2,?_⟩;rw [e0];exact ⟨.str _,H1,I1.tok _,⟨_,rfl⟩,q⟩
  exact wpAny_formatField_str (fin s1 ⟨s1.toks,rfl⟩ t) (fin _ ⟨_,rfl⟩ _) (by omega)
end
end L2
namespace Mi
open PySem L2
variable{K:Fg}{tb te:TE}{a b:M}
theorem Bt:∀ ts:List Str,xK (ts.map λt=>PV.at (.str t))=some ts
 |[]=>rfl
 |t::ts=>by rw [yT];show (xK _).map _=_;rw [Bt ts];rfl
def jv (a b:M):M:=λε=>(a ε).bind λx=>(b ε).bind λy=>match x,y with
 | .at (.str s),.at (.str t)=>if 1<=t.length/\s.length<=100000/\(PySem.Txt.split s t).length<=100000 then some (.lst ((PySem.Txt.split s t).map λz=> .at (.str z))) else none
 |_,_=>none
instance [sa:SemE te a][sb:SemE tb b]:xn (tBM K "str" KI te (qv tb qM)) (jv a b) where
 h:=λe _ _ _ _ _ rs _ q=>by
  obtain ⟨x,ex,e⟩:=bind_some e;obtain ⟨y,ey,e⟩:=bind_some e;split at e
  ·split at e
   ·rename_i hc;cases e;refine sa.h ex rs λv Hs1 H1 x1 r1=>?_;cases rep_at.mp r1;refine ⟨rfl,sb.h ey (rs.go x1) λw Hs2 H2 x2 r2=>?_⟩;cases rep_at.mp r2;refine ⟨_,_,rfl,rfl,hc.1,hc.2.1,hc.2.2,λp hp=>q p _ _ ((x1.trans x2).trans (.newO x2.s3 hp)) ((x1.trans x2).s2.free hp) (x2.s3.free hp) ⟨_,y4,?_⟩⟩;rw [show ∀ l:List Str,(l.map λz=>PV.at (.str z))=(l.map V.str).map .at from λl=>by rw [yz];rfl];exact Reps.ofAts _
   ·cases e
  ·cases e
def wc (a b:M):M:=λε=>(a ε).bind λx=>(b ε).bind λy=>match x,y with
 | .at (.str s),.at (.str t)=>some (.at (.bl (PySem.Txt.startswith s t)))
 |_,_=>none
instance [sa:SemE te a][sb:SemE tb b]:SemE (tBM K "str" KJ te (qv tb qM)) (wc a b) where
 h:=λe _ _ _ _ _ rs _ q=>by
  obtain ⟨x,ex,e⟩:=bind_some e;obtain ⟨y,ey,e⟩:=bind_some e;split at e
  ·cases e;refine sa.h ex rs λv Hs1 H1 x1 r1=>?_;cases rep_at.mp r1;refine ⟨rfl,sb.h ey (rs.go x1) λw Hs2 H2 x2 r2=>?_⟩;cases rep_at.mp r2;exact ⟨_,_,rfl,rfl,q _ _ _ (x1.trans x2) (rep_at.mpr rfl)⟩
  ·cases e
def xc (a b:M):M:=λε=>(a ε).bind λx=>(b ε).bind λy=>match x,y with
 | .at (.str s),.lst ys=>(xK ys).bind λts=>if PySem.JoinOk s ts=true then some (.at (.str (PySem.Str.join s ts))) else none
 |_,_=>none
instance [sa:SemE te a][sb:n8 tb b]:SemE (tBM K "str" (Kx K) te (qv tb qM)) (xc a b) where
 h:=λe _ _ _ _ _ rs _ q=>by
  obtain ⟨x,ex,e⟩:=bind_some e;obtain ⟨y,ey,e⟩:=bind_some e;split at e
  ·obtain ⟨ts,et,e⟩:=bind_some e;split at e
   ·rename_i hj;cases e;refine sa.h ex rs λv Hs1 H1 x1 r1=>?_;cases rep_at.mp r1;refine ⟨rfl,sb.h ey (rs.go x1) λw Hs2 H2 x2 r2=>?_⟩;obtain ⟨p,ws,rfl,ep,r3⟩:=qc x2.s3 r2;rw [ZK et,show (ts.map λt=>PV.at (.str t))=(ts.map V.str).map .at by rw [yz];rfl] at r3;cases r3.ats;exact ⟨_,p,ts,rfl,rfl,SqL.of ep,hj,q _ _ _ (x1.trans x2) (rep_at.mpr rfl)⟩
   ·cases e
  ·cases e
def xC:List PV->Option PV
 |[.at (.int i)]=>if i.natAbs.log2<1920 then some (.at (.str (PySem.Str.ofString (toString i)))) else none
 |[.at (.str s)]=>some (.at (.str s))
 |_=>none
instance:zw KK xC where
 h:=λ{xs z} e {Hs H vs} s r {Q} q=>by
  unfold xC at e;split at e
  ·split at e
   ·rename_i hi;cases e;obtain ⟨v,rfl,a⟩:=qW r;cases u8 a;exact .inl ⟨_,rfl,hi,q _ _ _ (.refl s) (rep_at.mpr rfl)⟩
   ·cases e
  ·cases e;obtain ⟨v,rfl,a⟩:=qW r;cases u8 a;exact .inr ⟨_,rfl,q _ _ _ (.refl s) (rep_at.mpr rfl)⟩
  ·cases e
def JV:List PV->Option PV
 |[.at (.str s)]=>(PySem.intText? s).bind λn=>if s.length<=640 then some (.at (.int n)) else none
 |_=>none
instance:zw Kv JV where
 h:=λ{xs z} e {Hs H vs} s r {Q} q=>by
  unfold JV at e;split at e
  ·obtain ⟨n,en,e⟩:=bind_some e;split at e
   ·rename_i hl;cases e;obtain ⟨v,rfl,a⟩:=qW r;cases u8 a;exact ⟨_,n,rfl,en,hl,q _ _ _ (.refl s) (rep_at.mpr rfl)⟩
   ·cases e
  ·cases e
def vZ (x:Str)(a:M):M:=λε=>(a ε).bind λy=>match y with
 | .at (.str s)=>if x.length+s.length<=200000 then some (.at (.str (x++s))) else none
 |_=>none
instance {x:Str}[sa:SemE te a]:SemE (BB x te) (vZ x a) where
 h:=λe _ _ _ _ _ rs _ q=>by
  obtain ⟨y,ey,e⟩:=bind_some e;split at e
  ·split at e
   ·rename_i hl;cases e;refine sa.h ey rs λv Hs1 H1 x1 r1=>?_;cases rep_at.mp r1;exact ⟨_,rfl,hl,q _ _ _ x1 (rep_at.mpr rfl)⟩
   ·cases e
  ·cases e
end Mi
namespace L2
open PySem PySem.Spec PyProof.Rows
variable{K:Fg}
section
variable {X:Cx}{tg:Expr}
def iLT (K:Fg)(tl:TE):TI:=λU H R=>tl U H λx H1=>∃ a,x = .ref a/\(((∃ xs,SqL K H1 a xs)/\R (Itl K a) H1)∨((∃ xs,SqT K H1 a xs)/\R (Itt K a) H1))
theorem pi_LT {l:Expr}{tl:TE}(hK:X.K=K)(hl:PE X l tl):PI X tg l (iLT K tl):=by
 subst hK;intro pins s U H R I h;refine z7 (hl pins s U H _ I h) λv s1 zq=>?_;obtain ⟨x,H1,I1,r1,q1⟩:=zq;obtain ⟨a,e,⟨⟨xs,hq⟩,q⟩|⟨⟨xs,hq⟩,q⟩⟩:=q1
 ·subst e;cases r1;obtain ⟨its,rv,p,hz⟩:=I1.list hq;refine wpAny_pyIter_list p.isList ?_;refine ⟨s1.heap.objs.size,[s1.heap.objs.size],_,_,H1,rfl,I1.kept (t':=s1.toks) λb o e=>yV _ e,BL a _,⟨_,yI _ rfl,rfl,rfl⟩,λb hb=>?_,q⟩;have e:b=s1.heap.objs.size:=by simpa using hb
  subst e;exact I1.fpOk (yY _) (I1.hok.fresh (yY _))
 ·subst e;cases r1;obtain ⟨its,rv,p,hz⟩:=I1.tuple hq;refine wpAny_pyIter_tuple (show s1.heap.IsTuple a its.toArray from p) ?_;refine ⟨s1.heap.objs.size,[s1.heap.objs.size],_,_,H1,rfl,I1.kept (t':=s1.toks) λb o e=>yV _ e,BN a _,⟨_,yI _ rfl,rfl,rfl⟩,λb hb=>?_,q⟩;have e:b=s1.heap.objs.size:=by simpa using hb
  subst e;exact I1.fpOk (yY _) (I1.hok.fresh (yY _))
structure InsK (K:Fg)(C:Addr):Prop where
 cl:Cls K C
 ha:PySem.W.findIn K (.ref C) "__class__"=some (some (.builtin "object.__class__"))
 hn:PySem.W.specialIn K (.builtin "object.__class__") "__get__"=some (some (.builtin "getset_descriptor.__get__"))
 ht:PySem.W.takesIn K (.builtin "object.__class__")=some true
 hm:PySem.W.mroIn K C (.type "object")=some true
 hk:PySem.W.kitOne K (.ref C) (.ref C)=some true
def Kw (C:Addr):List V->Hp->VK->Prop:=λxs H Q=>∃ a dx fs,xs=[.ref a,.ref C]/\H a=some (.ins C dx fs)/\Q (.bl true) H
theorem Ce {C:Addr}(hK:X.K=K)(T:InsK K C):CallR X (.builtin "isinstance") (Kw C):=by subst hK;intro pins s U H xs us Q I r h;obtain ⟨a,dx,fs,rfl,ha,q⟩:=h;obtain ⟨u,w,rfl,ru,rw'⟩:=WX r;obtain rfl:w=Value.ref C:=rw';exact Gp I ru (.ins ha T.cl T.ha T.hn T.ht T.hm) T.hk λtk=>⟨.bl true,H,I.tok tk,rfl,q⟩
end
end L2
namespace Mi
open PySem L2
def UN (a:M):MA:=λε=>(a ε).bind λx=>match x with
 | .lst xs=>some xs
 | .tup xs=>some xs
 |_=>none
instance {K:Fg}{te:TE}{a:M}[sa:SemE te a]:zd (iLT K te) (UN a) where
 h:=λe _ _ _ _ _ rs _ q=>by
  obtain ⟨x,ex,e1⟩:=bind_some e;split at e1
  ·cases e1;refine sa.h ex rs λv Hs1 H1 x1 r1=>?_;obtain ⟨p,vs,rfl,hp,rp⟩:=rep_lst.mp r1;exact ⟨p,rfl,.inl ⟨⟨vs,SqL.of (x1.s3 _ _ hp)⟩,q _ _ _ x1 (Gq hp rp)⟩⟩
  ·cases e1;refine sa.h ex rs λv Hs1 H1 x1 r1=>?_;obtain ⟨p,vs,rfl,hp,rp⟩:=rep_tup.mp r1;exact ⟨p,rfl,.inr ⟨⟨vs,SqT.of (x1.s3 _ _ hp)⟩,q _ _ _ x1 (Gr hp rp)⟩⟩
  ·cases e1
def Zr (C:Addr):List PV->Option PV
 |[.ob D _ _,.at (.ref E)]=>if D=C/\E=C then some (.at (.bl true)) else none
 |_=>none
instance {C:Addr}:zw (Kw C) (Zr C) where
 h:=λ{xs z} e {Hs H vs} s r {Q} q=>by
  unfold Zr at e;split at e
  ·split at e
   ·rename_i hc;obtain ⟨rfl,rfl⟩:=hc;cases e;obtain ⟨v,w,rfl,a,b⟩:=Vn r;cases u8 b;obtain ⟨p,dx,fs,rfl,hp,_⟩:=Vm s a;exact ⟨p,dx,fs,rfl,hp,q _ _ _ (.refl s) (rep_at.mpr rfl)⟩
   ·cases e
  ·cases e
end Mi
namespace L2
open PySem PySem.Spec PySem.Calls PyProof.Rows
section
variable {prog:Program}{w:World}{A:Around}{E:Value->Shared->Prop}{s:Shared}
theorem JJ (a b:Str):qq (0,a) (0,b)=decide (a.cps.toList<b.cps.toList):=by unfold qq;simp
theorem HB {x y:Addr}{ox oy:Obj}{a b:Str}{i1 i2 i3 i4 j1 j2 j3 j4:Int}{t t1 t2 t3 t4 u u1 u2 u3 u4:Tok}{n k:Nat}{Q:Bool->Shared->Prop}(hx:s.heap.get? x=some ox)(dx:ox.data = .seq #[.str a t,.int i1 t1,.int i2 t2,.int i3 t3,.int i4 t4] n)(hy:s.heap.get? y=some oy)(dy:oy.data = .seq #[.str b u,.int j1 u1,.int j2 u2,.int j3 u3,.int j4 u4] k)(hab:a=b->i1=j1/\i2=j2/\i3=j3/\i4=j4)(h:Q (qq (0,a) (0,b)) s):wpAny (model prog w) A (keyLt' (tuples' true) (.ref x) (.ref y)) Q E s:=by
 refine PySem.W.kat_lt hx dx hy dy ?_;show PySem.W.KatLex prog w A true _ Q [(.str a t,.str b u),(.int i1 t1,.int j1 u1),(.int i2 t2,.int j2 u2),(.int i3 t3,.int j3 u3),(.int i4 t4,.int j4 u4)] 0 s;refine PySem.W.kat_cons (wpAny_eqBool_str ?_);by_cases e:a=b
 ·obtain ⟨rfl,rfl,rfl,rfl⟩:=hab e;subst e;rw [yy rfl];have yes:∀(i:Int)(t t':Tok)(r:List (Value×Value))(m:Nat)(fin:Bool),PySem.W.KatLex prog w A true fin Q r (m+1) s->PySem.W.KatLex prog w A true fin Q ((.int i t,.int i t')::r) m s:=λi t t' r m fin hr=>PySem.W.kat_cons (wpAny_eqBool_int (by rw [beq_self_eq_true];exact PySem.W.kat_yes hr));refine PySem.W.kat_yes (yes _ _ _ _ _ _ (yes _ _ _ _ _ _ (yes _ _ _ _ _ _ (yes _ _ _ _ _ _ (PySem.W.kat_nil ?_)))));rw [JJ,yO (List.lt_irrefl _)] at h;exact h
 ·rw [yO e];refine PySem.W.kat_no ?_;show wpAny _ _ (oneLt' true (.str a t) (.str b u)) Q _ s;refine oneLt_str ?_;rw [JJ] at h;exact h
end
section
variable {X:Cx}{pins:List (Addr×Obj)}{U:St}{H:Hp}{s:Shared}{A2:Around}{xs:List V}{us:List Value}{kf:Nat->Str}
def RowsS (kf:Nat->Str)(H:Hp)(xs:List V):Prop:=∀(i:Nat)(x:V),xs[i]?=some x->∃(p:Addr)(a b c d:Int),x = .ref p/\H p=some (.tup [.str (kf i),.int a,.int b,.int c,.int d])
theorem RowsS.ask (I:Inv X pins U H s)(hT:RowsS kf H xs)(rv:Vals xs us)(h2:2<=us.length)(hi:∀ i j,i<xs.length->j<xs.length->kf i=kf j->i=j):Yf X A2 (λi j=>qq (0,kf i) (0,kf j)) us s:=by
 have hul:us.length=xs.length:=rv.length.symm;have row:∀ i,i<us.length->∃ (p:Addr) (a b c d:Int) (ox:Obj) (t t1 t2 t3 t4:Tok) (n:Nat),us.getD i Value.none = .ref p/\s.heap.get? p=some ox/\ox.cls = .type "tuple"/\ox.data = .seq #[.str (kf i) t,.int a t1,.int b t2,.int c t3,.int d t4] n/\H p=some (.tup [.str (kf i),.int a,.int b,.int c,.int d]):=λi hi=>by
  obtain ⟨p,a,b,c,d,e0,a1⟩:=hT i (xs.getD i .non) (by rw [yL (by omega)];simp [show i<xs.length by omega]);have ri:=WY (i:=i) rv (by omega);rw [e0] at ri;have ru:us.getD i Value.none=Value.ref p:=ri;obtain ⟨_,its,r,o,b1,b2,n,b3⟩:=I.hok p _ a1;cases r with
  |cons z1 r =>
   cases r with
   |cons z2 r =>
    cases r with
    |cons z3 r =>
     cases r with
     |cons z4 r =>
      cases r with
      |cons z5 r=>cases r;obtain ⟨t,rfl⟩:=z1;obtain ⟨t1,rfl⟩:=z2;obtain ⟨t2,rfl⟩:=z3;obtain ⟨t3,rfl⟩:=z4;obtain ⟨t4,rfl⟩:=z5;exact ⟨p,a,b,c,d,o,t,t1,t2,t3,t4,n,ru,b1,b2,b3,a1⟩
 have kt:∀{l:List Nat},(∀ i∈l,i<us.length)->∃ fs,PySem.W.KatTups s.heap (l.map λi=>us.getD i Value.none) fs/\fs.length=l.length/\∀ v∈fs,∃(z:Str)(t:Tok),v=Value.str z t:=λ{l}=>by
  induction l with
  |nil=>exact λ_=>⟨[],.nil,rfl,λv hv=>by simp at hv⟩
  |cons i l ih =>
   intro hl;obtain ⟨fs,b1,b2,b3⟩:=ih λj hj=>hl j (yN _ hj);obtain ⟨p,a,b,c,d,ox,t,t1,t2,t3,t4,n,c1,c2,c3,c4,c5⟩:=row i (hl i yK);refine ⟨Value.str (kf i) t::fs,?_,by rw [yS,yS,b2],λv hv=>?_⟩
   ·rw [yT,c1];exact .cons c2 c3 c4 rfl b1
   ·rcases yP.mp hv with z|z
    ·exact ⟨_,_,z⟩
    ·exact b3 v z
 obtain ⟨fs,f1,f2,f3⟩:=kt (l:=List.range us.length) λi hi=>yg.mp hi;rw [GJ] at f1;rw [uC] at f2;refine ⟨tuples' true,λQ E q=>PySem.W.kat_kind (T:= .type "str") f1 (by omega) (λv hv=>?_) rfl q,λi j C hi' hj' hC=>?_⟩
 ·obtain ⟨z,t,rfl⟩:=f3 v hv;exact .now
 obtain ⟨p,a,b,c,d,ox,t,t1,t2,t3,t4,n,c1,c2,c3,c4,c5⟩:=row i hi';obtain ⟨p',a',b',c',d',ox',u,u1,u2,u3,u4,n',d1,d2,d3,d4,d5⟩:=row j hj';rw [c1,d1];refine HB c2 c4 d2 d4 (λe=>?_) hC;have eij:i=j:=hi i j (by omega) (by omega) e;subst eij;rw [c1] at d1;injection d1 with d1;subst d1;rw [c5] at d5;injection d5 with d5;injection d5 with d5;injection d5 with _ d5;injection d5 with e1 d5;injection d5 with e2 d5;injection d5 with e3 d5;injection d5 with e4 _;injection e1 with e1;injection e2 with e2;injection e3 with e3;injection e4 with e4;exact ⟨e1,e2,e3,e4⟩
end
section
variable {X:Cx}
def KG (K:Fg):List V->Hp->VK->Prop:=λvs H Q=>∃(a:Addr)(xs:List V)(kf:Nat->Str),vs=[.ref a]/\SqL K H a xs/\xs.length<64/\RowsS kf H xs/\(∀ i j,i<xs.length->j<xs.length->kf i=kf j->i=j) /\
 ∀(D:Addr)(l:List Nat)(H':Hp),Grow H H'->H' D=none->l.Perm (List.range xs.length)->l.Pairwise (λa b=>qq (0,kf b) (0,kf a)=false)->Q (.ref D) (j9 H' D (.lst (l.map λi=>xs.getD i .non)))
theorem Ct {K:Fg}(hK:X.K=K):CallR X (.builtin "sorted") (KG K):=by
 subst hK;intro pins s U H xs us Q I r h;obtain ⟨a,xs,kf,rfl,hl,h64,hT,hi,h⟩:=h;obtain ⟨u,rfl,ru⟩:=xN r;obtain rfl:u=Value.ref a:=ru;obtain ⟨us,rv,p,hz⟩:=I.list hl;have hul:us.length=xs.length:=rv.length.symm;refine Calls.call_function_entry (id:="sorted") kind_sorted plain_sorted entry_sorted (args_sorted1 _) ?_;unfold Builtin.«sorted»;refine yW (m:=checkCount "sorted" 1 1 _) (yR ?_);refine yW (collect_list p.isList ?_ (by rw [sizeLine_eq];omega));refine yW (wpAny_newList ?_ (by rw [sizeLine_eq];omega));have keep:∀ b o,s.heap.get? b=some o->((s.heap.push (seqObj "list" #[] 0)).update s.heap.objs.size (Obj.mapSeq (·++us.toArray))).get? b=some o:=λb o q=>by
  rw [Heap.get?_update_ne _ _ _ _ (yJ (yQ q))];exact yV _ q
 have I1:=I.kept (t':=s.toks) keep;have k2:∀ b o,((s.heap.push (seqObj "list" #[] 0)).update s.heap.objs.size (Obj.mapSeq (·++us.toArray))).get? b=some o->(((s.heap.push (seqObj "list" #[] 0)).update s.heap.objs.size (Obj.mapSeq (·++us.toArray))).push (seqObj "list" us.toArray 0)).get? b=some o:=λb o e=>yV _ e;have I2:=I1.kept (t':=s.toks) k2;have mD:=I1.mine (b:=((s.heap.push (seqObj "list" #[] 0)).update s.heap.objs.size (Obj.mapSeq (·++us.toArray))).objs.size) (yY _);have nD:=I1.hok.fresh (a:=((s.heap.push (seqObj "list" #[] 0)).update s.heap.objs.size (Obj.mapSeq (·++us.toArray))).objs.size) (yY _);have hoL:(((s.heap.push (seqObj "list" #[] 0)).update s.heap.objs.size (Obj.mapSeq (·++us.toArray))).push (seqObj "list" us.toArray 0)).get? ((s.heap.push (seqObj "list" #[] 0)).update s.heap.objs.size (Obj.mapSeq (·++us.toArray))).objs.size=some (seqObj "list" us.toArray 0):=yI _ rfl;refine yW (wpAny_holding (wpAny_call_entry slot_list_sort (s:={ s with heap:=((s.heap.push (seqObj "list" #[] 0)).update s.heap.objs.size (Obj.mapSeq (·++us.toArray))).push (seqObj "list" us.toArray 0) }) ⟨_,hoL,rfl⟩ entry_list_sort ?body (args_list_sort _)));refine NP (s:={ s with heap:=((s.heap.push (seqObj "list" #[] 0)).update s.heap.objs.size (Obj.mapSeq (·++us.toArray))).push (seqObj "list" us.toArray 0) }) (lt:=λi j=>qq (0,kf i) (0,kf j)) I2 mD nD hoL rv h64 (GH λi=>(0,kf i)) (λs' J h2=>hT.ask J rv h2 hi) λl out H' s' e' J g n hd pm r pw=>⟨_,rfl,yR ⟨_,rfl,.ref _,_,J.track mD.s0 n mD.nL mD.nC mD.nP (o:= .lst (l.map λi=>xs.getD i .non)) ?_,rfl,h _ l H' g n pm pw⟩⟩;exact ⟨by rw [yZ,pm.length_eq,uC];exact hz,out,e',r,hd⟩
end
end L2
namespace Mi
open PySem L2
def kbC:PV->Option PV
 | .tup [.at (.str s),.at (.int _),.at (.int _),.at (.int _),.at (.int _)]=>some (.tup [.at (.int 0),.at (.str s)])
 |_=>none
abbrev Zs:List PV->Option PV:=GV kbC
theorem Me {x:PV}{k:Int×Str}(h:kbC x=some (.tup [.at (.int k.1),.at (.str k.2)])):∃ a b c d:Int,k.1=0/\x = .tup [.at (.str k.2),.at (.int a),.at (.int b),.at (.int c),.at (.int d)]:=by
 unfold kbC at h;split at h
 ·injection h with h;injection h with h;injection h with h1 h2;injection h2 with h2 _;injection h1 with h1;injection h1 with h1;injection h2 with h2;injection h2 with h2;exact ⟨_,_,_,_,h1.symm,by rw [h2]⟩
 ·cases h
instance {K:Fg}:Xk (KG K) Zs where
 h:=λ{xs z} e {Hs H vs} s r {Q} q=>by
  unfold Zs GV at e;split at e
  ·rename_i xs;obtain ⟨ks,h3,h4⟩:=uM.mp e;split at h4
   ·rename_i hc;cases h4;obtain ⟨v,rfl,a⟩:=qW r;obtain ⟨p,ws,rfl,e1,r1⟩:=qc s a;have lx:ws.length=xs.length:=r1.length;have lk:ks.length=xs.length:=Gy h3;have key:∀ i,i<xs.length->∃ a b c d:Int,b8 ks i=(0,(b8 ks i).2)/\xs[i]?=some (.tup [.at (.str (b8 ks i).2),.at (.int a),.at (.int b),.at (.int c),.at (.int d)]):=λi hi=>by
     obtain ⟨k,e5,e6⟩:=Gx h3 (yL hi);have ek:b8 ks i=k:=by unfold b8;simp [e5]
     obtain ⟨a,b,c,d,e7,e8⟩:=Me e6;rw [ek];exact ⟨a,b,c,d,by rw [<- e7],by rw [yL hi,e8]⟩
    have klt:∀ i j,i<xs.length->j<xs.length->qq (0,(b8 ks i).2) (0,(b8 ks j).2)=qq (b8 ks i) (b8 ks j):=λi j hi hj=>by
     obtain ⟨_,_,_,_,e1,_⟩:=key i hi;obtain ⟨_,_,_,_,e2,_⟩:=key j hj;rw [<- e1,<- e2]
    refine ⟨p,ws,λi=>(b8 ks i).2,rfl,SqL.of e1,by omega,λi x hx=>?_,λi j hi hj ee=>?_,λD l H' g n pm pw=>?_⟩
    ·have hi:i<xs.length:=by
      rcases Nat.lt_or_ge i ws.length with z|z
      ·omega
      ·rw [uD z] at hx;cases hx
     obtain ⟨a,b,c,d,_,e8⟩:=key i hi;obtain ⟨x',e3,e4⟩:=r1.get e8;rw [hx] at e3;cases e3;obtain ⟨bb,us,rfl,e7,e9⟩:=rep_tup.mp e4;rw [show [PV.at (.str (b8 ks i).2),PV.at (.int a),PV.at (.int b),PV.at (.int c),PV.at (.int d)]=[V.str (b8 ks i).2,V.int a,V.int b,V.int c,V.int d].map .at from rfl] at e9;cases Reps.ats e9;exact ⟨bb,a,b,c,d,rfl,s _ _ e7⟩
    ·obtain ⟨_,_,_,_,e1,_⟩:=key i (by omega);obtain ⟨_,_,_,_,e2,_⟩:=key j (by omega);have ee':(b8 ks i).2=(b8 ks j).2:=ee;have ek:b8 ks i=b8 ks j:=by rw [e1,e2,ee']
     unfold b8 at ek;simp only [yb,yL (show i<ks.length by omega),yL (show j<ks.length by omega),uo] at ek;have nd':=List.pairwise_iff_getElem.mp hc.2;rcases Nat.lt_trichotomy i j with z|z|z
     ·exact absurd ek (nd' i j (by omega) (by omega) z)
     ·exact z
     ·exact absurd ek.symm (nd' j i (by omega) (by omega) z)
    ·have lm:∀ i∈l,i<xs.length:=λi hi=>by
      have:=yg.mp (pm.mem_iff.mp hi);omega
     have pw2:l.Pairwise λa b=>qq (b8 ks b) (b8 ks a)=false:=pw.imp_of_mem λ{a b} ha hb h=>by rw [<- klt b a (lm b hb) (lm a ha)];exact h
     have el:l=vN ks:=RA hc.2 (by rw [lk,<- lx];exact pm) pw2;subst el;have nH:H D=none:=by
      cases z:H D with
      |none=>rfl
      |some o=>rw [g D o z] at n;cases n
     refine q D Hs _ ⟨.refl _,λb o e=>?_,λb o e=>?_,λ_ _ z=>z⟩ nH (s.free nH) ⟨_,y4,KW r1 λi hi=>?_⟩
     ·rw [v6 (k7 (g b o e) n)];exact g b o e
     ·have e':=g b o (s b o e);rw [v6 (k7 e' n)];exact e'
     ·have:=yg.mp ((ZH ks).mem_iff.mp hi);omega
   ·cases h4
  ·cases e
end Mi
namespace Lw
open PySem L2 Mi
variable{α:Type}{B h m:Nat}{rss:List (List Int)}{a b:M}{H:Hp}{p p0 p1 p2 p3 q s x y z:Str}{j l n t:Int}{r:List Int}{ε:ME}{A6 A8 B7 E4 Ec:Tok}{Aa Ai C:Addr}{xs:List PV}{ks:List v9}{ps ss:List Str}{st:Stmt}{cd ct dc oc pm:Value}{an od:Option Addr}{sl:Array (Option Value)}
variable {P:Program}{w:World}{K:Fg}{mg:Str->Option Value}{base:Heap}{f:Addr}{fd:FuncData}
theorem l0:0<=lim:=by decide
theorem l1:1<=lim:=by decide
theorem l2:2<=lim:=by decide
theorem l3:3<=lim:=by decide
theorem l4:4<=lim:=by decide
theorem l5:5<=lim:=by decide
theorem l6:6<=lim:=by decide
theorem l7:7<=lim:=by decide
theorem l8:8<=lim:=by decide
theorem l9:9<=lim:=by decide
structure qg (h:Nat)(rss:List (List Int)):Prop where
 len:rss.length=h+1
 row:∀ r∈rss,r.length=h/\∀ v∈r,0<=v/\v<10 ^ 30
def rin (rss:List (List Int))(f g:Int):Int:=((atI rss f).bind λr=>atI r g).getD 0
def zu (rss:List (List Int)):Int->List Int->Int
 |_,[]=>0
 |f,h::r=>rin rss f h+zu rss h r
abbrev Wy:=Int×List Int
variable{T:List (List Wy)}{onw ws:List Wy}
def zC (a b:Wy):Wy:=if b.1<a.1 then b else a
def zj (a b:Wy):Wy:=(a.1+b.1,a.2++b.2)
def thr (ws:List Wy)(k:Nat)(onw:List Wy):List Wy:=List.zipWith (λw m=>zC w (zj (ws.getD k (0,[])) m)) ws onw
def qS (T:List (List Wy))(k:Nat):List (List Wy):=T.map λrow=>thr row k (T.getD k [])
def zp (row:List Int):List Wy:=row.mapIdx λi v=>(v,[(i:Int)])
def o4 (rss:List (List Int)):Nat->List (List Wy)
 |0=>rss.map zp
 |k+1=>qS (o4 rss k) k
def y3 (T:List (List Wy))(f g:Nat):Wy:=(T.getD f []).getD g (0,[])
def vx (rss:List (List Int))(h:Nat):List (List Int):=(o4 rss h).map λrow=>row.map (·.1)
structure Shp (h:Nat)(T:List (List Wy)):Prop where
 len:T.length=h+1
 row:∀ r∈T,r.length=h
theorem ql {l:List α}{i:Nat}{d:α}(h:i<l.length):l.getD i d=l[i]:=by rw [yb,yL h];rfl
theorem Shp.rowAt (S:Shp h T){f:Nat}(hf:f<=h):(T.getD f []).length=h:=by
 have hl:f<T.length:=by have:=S.len;omega
 rw [ql hl];exact S.row _ (ye hl)
theorem BK {k:Nat}(h:ws.length=onw.length):(thr ws k onw).length=ws.length:=by unfold thr;rw [List.length_zipWith,h,Nat.min_self]
theorem Shp.step (S:Shp h T){k:Nat}(hk:k<h):Shp h (qS T k):=by refine ⟨by unfold qS;rw [yZ];exact S.len,λr hr=>?_⟩;unfold qS at hr;obtain ⟨row,hm,rfl⟩:=yx.mp hr;have e1:=S.row row hm;rw [BK (by rw [e1,S.rowAt (by omega)]),e1]
theorem wd (S:Shp h T){k f g:Nat}(hk:k<h)(hf:f<=h)(hg:g<h):y3 (qS T k) f g=zC (y3 T f g) (zj (y3 T f k) (y3 T k g)):=by
 have hl:f<T.length:=by have:=S.len;omega
 have hl2:f<(qS T k).length:=by unfold qS;rw [yZ];exact hl
 have e1:(qS T k).getD f []=thr (T.getD f []) k (T.getD k []):=by unfold qS;rw [ql (by rw [yZ];exact hl),List.getElem_map,ql hl]
 have r1:=S.rowAt hf;have r2:=S.rowAt (f:=k) (by omega);unfold y3;rw [e1,ql (by rw [BK (by rw [r1,r2])];omega),ql (l:=T.getD f []) (i:=g) (by omega),ql (l:=T.getD k []) (i:=g) (by omega)];unfold thr;rw [List.getElem_zipWith]
theorem Shp.start (G:qg h rss):Shp h (o4 rss 0):=by refine ⟨by show (rss.map zp).length=_;rw [yZ];exact G.len,λr hr=>?_⟩;obtain ⟨row,hm,rfl⟩:=yx.mp hr;unfold zp;rw [List.length_mapIdx];exact (G.row row hm).1
theorem Shp.all {h:Nat}{rss:List (List Int)}(G:qg h rss):∀ k,k<=h->Shp h (o4 rss k)
 |0,_=>Shp.start G
 |k+1,hk=>(Shp.all G k (by omega)).step (by omega)
theorem Vq (G:qg h rss){f g:Nat}(hf:f<=h)(hg:g<h):rin rss (f:Int) (g:Int)=(rss.getD f []).getD g 0:=by
 have hl:f<rss.length:=by have:=G.len;omega
 have e1:atI rss (f:Int)=some rss[f]:=zR (yL hl);have hg2:g<rss[f].length:=by rw [(G.row _ (ye hl)).1];exact hg
 have e2:atI rss[f] (g:Int)=some rss[f][g]:=zR (yL hg2);unfold rin;rw [e1];show (atI rss[f] (g:Int)).getD 0=_;rw [e2,ql hl,ql hg2];rfl
theorem Xz (G:qg h rss){f g:Nat}(hf:f<=h)(hg:g<h):y3 (o4 rss 0) f g=(rin rss (f:Int) (g:Int),[(g:Int)]):=by
 have hl:f<rss.length:=by have:=G.len;omega
 have hl2:f<(rss.map zp).length:=by rw [yZ];exact hl
 have hg2:g<rss[f].length:=by rw [(G.row _ (ye hl)).1];exact hg
 rw [Vq G hf hg];unfold y3;show ((rss.map zp).getD f []).getD g (0,[])=_;rw [ql hl2,List.getElem_map,ql (by unfold zp;rw [List.length_mapIdx];exact hg2),ql hl,ql hg2];unfold zp;rw [List.getElem_mapIdx]
theorem Hy (G:qg h rss){f g:Nat}(hf:f<=h)(hg:g<h):0<=rin rss (f:Int) (g:Int):=by
 have hl:f<rss.length:=by have:=G.len;omega
 have hg2:g<rss[f].length:=by rw [(G.row _ (ye hl)).1];exact hg
 rw [Vq G hf hg,ql hl,ql hg2];exact ((G.row _ (ye hl)).2 _ (ye hg2)).1
theorem Pi {rss:List (List Int)}:∀{xs ys:List Int}{f g:Int},xs.getLast?=some g->zu rss f (xs++ys)=zu rss f xs+zu rss g ys
 |[],_,_,_,e=>by simp at e
 |[x],ys,f,g,e=>by
  have e':x=g:=by simpa using e
  subst e';show rin rss f x+zu rss x ys=rin rss f x+0+zu rss x ys;omega
 |x::y::r,ys,f,g,e=>by
  have q:=Pi (rss:=rss) (xs:=y::r) (ys:=ys) (f:=x) (g:=g) (by simpa [List.getLast?_cons_cons] using e);show rin rss f x+zu rss x (y::r++ys)=rin rss f x+zu rss x (y::r)+zu rss g ys;rw [q];omega
structure WayOk (rss:List (List Int))(h:Nat)(f g:Nat)(w:Wy):Prop where
 sum:w.1=zu rss (f:Int) w.2
 last:w.2.getLast?=some (g:Int)
 ok:∀ x∈w.2,0<=x/\x<(h:Int)
structure FW (rss:List (List Int))(h k:Nat)(T:List (List Wy)):Prop where
 way:∀ f g,f<=h->g<h->WayOk rss h f g (y3 T f g)
 pos:∀ f g,f<=h->g<h->0<=(y3 T f g).1
 le:∀ f g,f<=h->g<h->(y3 T f g).1<=rin rss (f:Int) (g:Int)
 tri:∀ j f g,j<k->f<=h->g<h->(y3 T f g).1<=(y3 T f j).1+(y3 T j g).1
 len:∀ f g,f<=h->g<h->(y3 T f g).2.length<=2 ^ k
theorem wj (a b:Wy):(zC a b=a/\a.1<=b.1)∨(zC a b=b/\b.1<a.1):=by
 unfold zC;by_cases h:b.1<a.1
 ·rw [if_pos h];exact .inr ⟨rfl,h⟩
 ·rw [if_neg h];exact .inl ⟨rfl,by omega⟩
theorem Mv (a b:Wy):(zC a b).1<=a.1/\(zC a b).1<=b.1:=by
 rcases wj a b with ⟨e,q⟩|⟨e,q⟩
 ·rw [e];exact ⟨Int.le_refl _,q⟩
 ·rw [e];exact ⟨Int.le_of_lt q,Int.le_refl _⟩
theorem WayOk.join {f k g:Nat}{a b:Wy}(x:WayOk rss h f k a)(y:WayOk rss h k g b):WayOk rss h f g (zj a b):=by
 refine ⟨?_,?_,λz hz=>?_⟩
 ·show a.1+b.1=zu rss f (a.2++b.2);rw [Pi x.last,x.sum,y.sum]
 ·show (a.2++b.2).getLast?=_;rw [List.getLast?_append,y.last];rfl
 ·rcases ym.mp hz with q|q
  ·exact x.ok z q
  ·exact y.ok z q
theorem FW.start (G:qg h rss):FW rss h 0 (o4 rss 0):=by
 refine ⟨λf g hf hg=>?_,λf g hf hg=>?_,λf g hf hg=>?_,λj f g hj=>absurd hj (by omega),λf g hf hg=>?_⟩
 ·rw [Xz G hf hg];refine ⟨?_,rfl,λx hx=>?_⟩
  ·show rin rss f g=rin rss f g+0;omega
  ·have e:x=(g:Int):=by simpa using hx
   rw [e];omega
 ·rw [Xz G hf hg];exact Hy G hf hg
 ·rw [Xz G hf hg];exact Int.le_refl _
 ·rw [Xz G hf hg];exact yY 1
theorem FW.step {k:Nat}(S:Shp h T)(x:FW rss h k T)(hk:k<h):FW rss h (k+1) (qS T k):=by
 have kl:k<=h:=by omega
 have toK:∀ f,f<=h->(y3 (qS T k) f k).1=(y3 T f k).1:=λf hf=>by
  rw [wd S hk hf hk];rcases wj (y3 T f k) (zj (y3 T f k) (y3 T k k)) with ⟨e,q⟩|⟨e,q⟩
  ·rw [e]
  ·have p:=x.pos k k kl hk;have q':(y3 T f k).1+(y3 T k k).1<(y3 T f k).1:=q;omega
 have ofK:∀ g,g<h->(y3 (qS T k) k g).1=(y3 T k g).1:=λg hg=>by
  rw [wd S hk kl hg];rcases wj (y3 T k g) (zj (y3 T k k) (y3 T k g)) with ⟨e,q⟩|⟨e,q⟩
  ·rw [e]
  ·have p:=x.pos k k kl hk;have q':(y3 T k k).1+(y3 T k g).1<(y3 T k g).1:=q;omega
 have bound:∀ f g,f<=h->g<h->(y3 (qS T k) f g).1<=(y3 T f g).1/\(y3 (qS T k) f g).1<=(y3 T f k).1+(y3 T k g).1:=λf g hf hg=>by
  rw [wd S hk hf hg];exact Mv _ _
 have alt:∀ f g,f<=h->g<h->(y3 (qS T k) f g).1=(y3 T f g).1∨(y3 (qS T k) f g).1=(y3 T f k).1+(y3 T k g).1:=λf g hf hg=>by
  rw [wd S hk hf hg];rcases wj (y3 T f g) (zj (y3 T f k) (y3 T k g)) with ⟨e,q⟩|⟨e,q⟩
  ·rw [e];exact .inl rfl
  ·rw [e];exact .inr rfl
 refine ⟨λf g hf hg=>?_,λf g hf hg=>?_,λf g hf hg=>Int.le_trans (bound f g hf hg).1 (x.le f g hf hg),λj f g hj hf hg=>?_,λf g hf hg=>?_⟩
 ·rw [wd S hk hf hg];rcases wj (y3 T f g) (zj (y3 T f k) (y3 T k g)) with ⟨e,_⟩|⟨e,_⟩
  ·rw [e];exact x.way f g hf hg
  ·rw [e];exact (x.way f k hf hk).join (x.way k g kl hg)
 ·rcases alt f g hf hg with e|e
  ·rw [e];exact x.pos f g hf hg
  ·rw [e];have p1:=x.pos f k hf hk;have p2:=x.pos k g kl hg;omega
 ·by_cases hjk:j=k
  ·subst hjk;rw [toK f hf,ofK g hg];exact (bound f g hf hg).2
  ·have hj':j<k:=by omega
   have jl:j<=h:=by omega
   have jh:j<h:=by omega
   have b:=bound f g hf hg;have t1:=x.tri j f g hj' hf hg;have t2:=x.tri j f k hj' hf hk;have t3:=x.tri j k g hj' kl hg;have t4:=x.pos k j kl jh;have t5:=x.pos j k jl hk;rcases alt f j hf jh with e1|e1<;>rcases alt j g jl hg with e2|e2<;>rw [e1,e2]<;>omega
 ·rw [wd S hk hf hg];have e:2 ^ (k+1)=2 ^ k+2 ^ k:=by rw [Nat.pow_succ];omega
  rcases wj (y3 T f g) (zj (y3 T f k) (y3 T k g)) with ⟨q,_⟩|⟨q,_⟩
  ·rw [q];have:=x.len f g hf hg;omega
  ·rw [q];have a1:=x.len f k hf hk;have a2:=x.len k g kl hg;show ((y3 T f k).2++(y3 T k g).2).length<=_;rw [yH];omega
theorem FW.all {h:Nat}{rss:List (List Int)}(G:qg h rss):∀ k,k<=h->FW rss h k (o4 rss k)
 |0,_=>FW.start G
 |k+1,hk=>FW.step (Shp.all G k (by omega)) (FW.all G k (by omega)) (by omega)
theorem MD (G:qg h rss):qg h (vx rss h):=by
 have S:=Shp.all G h (yY _);have F:=FW.all G h (yY _);refine ⟨by unfold vx;rw [yZ];exact S.len,λr hr=>?_⟩;unfold vx at hr;obtain ⟨row,hm,rfl⟩:=yx.mp hr;refine ⟨by rw [yZ];exact S.row row hm,λv hv=>?_⟩;obtain ⟨w,hw,rfl⟩:=yx.mp hv;obtain ⟨f,hf,rfl⟩:=uJ hm;obtain ⟨g,hg,rfl⟩:=uJ hw;have hf':f<=h:=by have:=S.len;omega
 have hg':g<h:=by rw [<- S.row _ hm];exact hg
 have e:y3 (o4 rss h) f g=(o4 rss h)[f][g]:=by unfold y3;rw [ql hf,ql hg]
 have p:=F.pos f g hf' hg';have l:=F.le f g hf' hg';rw [e] at p l;refine ⟨p,Int.lt_of_le_of_lt l ?_⟩;have hl:f<rss.length:=by have:=G.len;omega
 have hg2:g<rss[f].length:=by rw [(G.row _ (ye hl)).1];exact hg'
 rw [Vq G hf' hg',ql hl,ql hg2];exact ((G.row _ (ye hl)).2 _ (ye hg2)).2
theorem JT {α:Type}[DecidableEq α]:∀{ms left:List α},ms.Nodup->(∀ x∈ms,x∈left)->ms.length<=left.length
 |[],_,_,_=>yo _
 |x::r,left,hn,hs=>by
  have hn':=yh.mp hn;have q:=JT (ms:=r) (left:=left.erase x) hn'.2 (λy hy=>(List.mem_erase_of_ne (λe=>hn'.1 (by rw [e] at hy;exact hy))).mpr (hs y (yN _ hy)));have hx:=hs x yK;rw [List.length_erase_of_mem hx] at q;have pos:0<left.length:=List.length_pos_of_mem hx;show r.length+1<=_;omega
def y9 (i:Nat):Stmt:=PySem.Challenge.pw_rinsework_k86_texts_there_and_back.main.body.getD i (.Pass ⟨0,0,0,0⟩)
abbrev VW:Stmt:=y9 55
abbrev ZF:Stmt:=y9 56
abbrev Wl:Stmt:=y9 57
theorem Wu {p:Addr}(h:H p=none)(o:HO):Same H (j9 H p o):=λb u q=>by rw [v6 (k7 q h)];exact q
theorem sizes {n:Nat}(h:n<=1000):n<=sizeLine:=uX (vM h)
def Wx:Sp:=λvs H Q _=>∃ c k:Int,vs=[.int c,.int k]/\0<=k/\k<=100/\∀ v:Int,0<=v->v<2147483648->Q (.int v) H
def Bn (K:Fg):Sp:=λvs H Q _=>∃(a:Addr)(ns:List Int)(k:Int),vs=[.ref a,.int k]/\SqL K H a (ns.map V.int)/\ns.length<=63/\0<=k/\k<=12 /\
 ∀(r:Addr)(n:Int)(H':Hp),H r=none->Same H H'->H' r=some (.lst [.int n])->Q (.ref r) H'
section
theorem sc_take:w5 ["stream","many","digit"] ["stream","many"] (z9 Wl):=y7
theorem LT (F:Fun K "_law_take" "_law_take" Wl f fd):FnOk P w K mg base v5 1 f fd ["stream","many"] jN:=by
 refine F.ok sc_take (λvs H Q E h=>?_) (λcdv A outer s H vs Q E hr h=>?_)
 ·obtain ⟨a,n,m,rfl,_⟩:=h;rfl
 obtain ⟨a,n,m,rfl,hH,hm,q⟩:=h;refine ⟨_,(j8 (p9 (i:=2) sc_take.nd rfl (Or.inl rfl) (w4 vA (QI (XQ (K:=K) rfl) (pv 0) z0 (λ_ _=>rfl)) (pv 1)))
  (j8 (Vi (w4 GR (QI (XQ (K:=K) rfl) (pv 0) z0 (λ_ _=>rfl)) (pv 1)) (Kj (pv 0) z0 Bg))
  (j6 (w9 (pv 2))))),?_⟩
 refine ⟨_,rfl,a,_,0,_,rfl,rfl,SqL.of hH,rfl,_,rfl,n,m,rfl,rfl,hm.1,?_⟩;refine ⟨_,rfl,a,_,0,_,rfl,rfl,SqL.of hH,rfl,_,rfl,n,m,rfl,rfl,hm,?_⟩;refine ⟨_,rfl,a,_,0,0,rfl,rfl,hH,rfl,?_⟩;exact ⟨_,rfl,q⟩
theorem sc_mixed:w5 ["cell","k","one"] ["cell","k"] (z9 VW):=y7
theorem LD (F:Fun K "_law_mixed" "_law_mixed" VW f fd):FnOk P w K mg base v5 1 f fd ["cell","k"] Wx:=by
 refine F.ok sc_mixed (λvs H Q E h=>?_) (λcdv A outer s H vs Q E hr h=>?_)
 ·obtain ⟨c,k,rfl,_⟩:=h;rfl
 obtain ⟨c,k,rfl,k0,k1,q⟩:=h;refine ⟨_,(j8 (p9 (i:=2) sc_mixed.nd rfl (Or.inl rfl) (w4 vA (w4 wB (w4 op_add (w4 op_add (w4 vA (pv 0) z0) (w4 wB z0 (pv 1))) z0) z0) z0))
  (j6 (w9 (w4 vA (w4 wB (w4 vA (w4 wB (pv 2) (pv 2)) z0) z0) z0)))),?_⟩
 refine ⟨_,rfl,_,_,rfl,rfl,(by show (0:Int)<1000000007;decide),_,rfl,_,_,rfl,rfl,.inl ⟨by decide,by decide⟩,_,_,rfl,rfl,_,_,rfl,rfl,_,_,rfl,rfl,.inr ⟨by decide,by decide⟩,_,_,rfl,rfl,(by show (0:Int)<2147483647;decide),?_⟩;generalize hone:(c % 1000000007+7919*k+101)*48271 % 2147483647=one;have o0:0<=one:=by rw [<- hone];exact yw _ (by decide)
 have o1:one<2147483647:=by rw [<- hone];exact yB _ (by decide)
 refine ⟨_,rfl,_,rfl,_,_,rfl,rfl,.inl ⟨by omega,by omega⟩,_,_,rfl,rfl,(by show (0:Int)<2147483629;decide),_,_,rfl,rfl,.inr ⟨by decide,by decide⟩,_,_,rfl,rfl,(by show (0:Int)<2147483647;decide),?_⟩;exact q _ (yw _ (by decide)) (Int.lt_trans (yB _ (by decide)) (by decide))
end
def MM:Int:=10 ^ (60:Int).toNat
theorem Xr:zL 10 60:=⟨by decide,by decide,by decide⟩
theorem UK:zL 10 18:=⟨by decide,by decide,by decide⟩
theorem Xp:Builtin.Int.intBits MM<=2 ^ 20:=by decide +kernel
def M2:Int:=MM*MM
theorem Xi:0<M2:=by decide +kernel
theorem PK:Builtin.Int.intBits M2<=2 ^ 20:=by decide +kernel
theorem RL {M c r:Int}{i:Nat}(hM:0<M)(h0:0<=c)(h:c<M ^ i)(r0:0<=r)(r1:r<M):0<=c*M+r/\c*M+r<M ^ (i+1):=by
 have e:M ^ (i+1)=M ^ i*M:=Int.pow_succ M i;have h1:(c+1)*M<=M ^ i*M:=Int.mul_le_mul_of_nonneg_right (by omega) (Int.le_of_lt hM);have h2:(c+1)*M=c*M+M:=by rw [Int.add_mul,Int.one_mul]
 have h3:0<=c*M:=Int.mul_nonneg h0 (Int.le_of_lt hM);rw [e];omega
theorem Pr:∀ i:_root_.Fin 8,(M2 ^ (i:Nat)).toNat<2 ^ 2800:=by decide +kernel
theorem PM {c:Int}{i:Nat}(hi:i<=7)(h0:0<=c)(h:c<M2 ^ i):Builtin.Int.intBits c<=2 ^ 20:=by
 obtain ⟨n,rfl⟩:=uL h0;have q:=Pr ⟨i,by omega⟩;have q2:n<2 ^ 2800:=by have q':(M2 ^ i).toNat<2 ^ 2800:=q;omega
 exact yr (PyProof.Rows.intBits_le (by rw [Int.natAbs_natCast];exact q2)) (by decide)
theorem HA:∀ i:_root_.Fin 13,∀ j:_root_.Fin 64,Builtin.Range.small ((i:Nat):Int) ((j:Nat):Int) 12=true:=by decide +kernel
theorem Vr {i:Int}:Builtin.Range.rangeSize i j 12=if i<j then (j-i-1) / 12+1 else 0:=rfl
theorem Hz {i:Int}(h0:0<=i)(h1:i<=12)(h2:0<=j)(h3:j<=63):0<=Builtin.Range.rangeSize i j 12/\Builtin.Range.small i j 12=true/\jm i j 12<=6/\∀ t:Nat,t<jm i j 12->i+t*12<j:=by
 refine ⟨?_,?_,?_,λt ht=>?_⟩
 ·rw [Vr];split<;>omega
 ·have q:=HA ⟨i.toNat,by omega⟩ ⟨j.toNat,by omega⟩;have e1:((i.toNat:Nat):Int)=i:=by omega
  have e2:((j.toNat:Nat):Int)=j:=by omega
  have q':Builtin.Range.small ((i.toNat:Nat):Int) ((j.toNat:Nat):Int) 12=true:=q;rw [e1,e2] at q';exact q'
 ·unfold jm;rw [Vr];split<;>omega
 ·unfold jm at ht;rw [Vr] at ht;split at ht<;>omega
theorem Pz {ns:List Int}{k:Int}(h0:0<=k)(h:k<(ns.length:Int)):∃ v:Int,atI (ns.map V.int) k=some (.int v):=by
 have hk:k.toNat<ns.length:=by omega
 have ek:k=((k.toNat:Nat):Int):=by omega
 have q:atI (ns.map V.int) ((k.toNat:Nat):Int)=some (.int ns[k.toNat]):=zR (by rw [yM,yL hk]<;>rfl);rw [<- ek] at q;exact ⟨_,q⟩
section
theorem sc_stream:w5 ["script","k","cell","j","found"] ["script","k"] (z9 ZF):=y7
theorem LR (F:Fun K "_law_stream" "_law_stream" ZF f fd)(Eh:Fn P w K mg base 1 "_law_mixed" ["cell","k"] Wx)(Ac:mg "len"=none)(Af:mg "range"=none)(Ih:mg "sum"=none):FnOk P w K mg base v5 2 f fd ["script","k"] (Bn K):=by
 refine F.ok sc_stream (λvs H Q E h=>?_) (λcdv A outer s H vs Q E hr h=>?_)
 ·obtain ⟨a,ns,k,rfl,_⟩:=h;rfl
 obtain ⟨a,ns,k,rfl,hS,h63,k0,k1,q⟩:=h;refine ⟨_,(j8 (p9 (i:=2) sc_stream.nd rfl (Or.inl rfl) z0)
  (j8 (jJ PassesOwn.never rfl (NJ rfl Af (x8 (pv 1) (x8 (p5 (Uz (K:=K) rfl) rfl Ac PySem.boot_len (x8 (pv 0) v3)) (x8 z0 v3)))) (k8 (i:=3) sc_stream.nd rfl (Or.inl rfl))
   (j6 (p9 (i:=2) sc_stream.nd rfl (Or.inl rfl) (w4 op_add (w4 Zo (pv 2) (w4 Zo (w4 xB z0 z0) (w4 xB z0 z0))) (w4 vA (QI (XQ (K:=K) rfl) (pv 0) (pv 3) (λ_ _=>rfl)) (w4 Zo (w4 xB z0 z0) (w4 xB z0 z0)))))))
  (j8 (m7 (i7 Zm (pv 2) (w4 xB z0 z0) (m6 _)) (j6 (w9 (qL (x8 (pv 2) v3)))) m8)
  (j8 (p9 (i:=2) sc_stream.nd rfl (Or.inl rfl) (w4 op_add (pv 2) (p5 (Cv (K:=K) rfl rfl) rfl Ih PY (x8 (i6 (N':=["one"]) (cap:=[none]) (m5 rfl rfl rfl) rfl (qb (K:=K) rfl (pv 0)) (λ_ _ _ _ _ _=>(k8 (i:=0) (by show (["one"]:List Str).Nodup;decide +kernel) rfl (Or.inl rfl))) (λ_ _ _ _ _ _=>m9) (λ_ _ _ _ _ _=>(w4 vA (pv 0) (w4 xB z0 z0)))) v3))))
  (j8 (p9 (i:=4) sc_stream.nd rfl (Or.inl rfl) z0)
  (j8 (jJ PassesOwn.never rfl (wE rfl Af (x8 z0 v3)) (k8 (i:=3) sc_stream.nd rfl (Or.inl rfl))
   (j6 (p9 (i:=4) sc_stream.nd rfl (Or.inl rfl) (w4 op_add (w4 wB (pv 4) z0) (u9 Eh hr (by decide) rfl (x8 (w4 op_add (w4 op_add (pv 2) (w4 wB z0 (pv 1))) (p5 (Uz (K:=K) rfl) rfl Ac PySem.boot_len (x8 (pv 0) v3))) (x8 (pv 3) v3)))))))
  (j6 (w9 (qL (x8 (pv 4) v3)))))))))),?_⟩
 have hl:(((ns.map V.int).length:Nat):Int)=(ns.length:Int):=by rw [yZ]
 obtain ⟨z1,z2,z3,z4⟩:=Hz (i:=k) (j:=(((ns.map V.int).length:Nat):Int)) k0 k1 (by omega) (by omega);refine ⟨_,rfl,_,rfl,a,_,rfl,.inl hS,k,_,12,rfl,⟨by decide,by decide⟩,z1,z2,Dq (λi U H2=>∃(c:Int)(j:Option V),U=[some (.ref a),some (.int k),some (.int c),j,none]/\H2=H/\0<=c/\c<M2 ^ i)
  ⟨0,none,rfl,rfl,Int.le_refl 0,by decide⟩ ?_ ?_⟩
 ·rintro i U H2 hi ⟨c,j,rfl,rfl,c0,c1⟩;obtain ⟨v,hv⟩:=Pz (ns:=ns) (k:=k+i*12) (by omega) (by have:=z4 i hi;omega);refine ⟨_,rfl,_,_,rfl,rfl,Xr,_,_,rfl,rfl,Xr,_,_,rfl,rfl,⟨Xp,Xp⟩,_,_,rfl,rfl,⟨PM (by omega) c0 c1,PK⟩,_,rfl,_,rfl,a,_,_,_,rfl,rfl,hS,hv,
   _,_,rfl,rfl,Xr,_,_,rfl,rfl,Xr,_,_,rfl,rfl,⟨Xp,Xp⟩,_,_,rfl,rfl,Xi,_,_,rfl,rfl,?_⟩
  have sb:=RL (i:=i) Xi c0 c1 (yw v (Ne.symm (Int.ne_of_lt Xi))) (yB v Xi);exact ⟨_,_,rfl,rfl,sb.1,sb.2⟩
 ·rintro U H2 ⟨c,j,rfl,rfl,c0,c1⟩;refine ⟨_,rfl,_,_,rfl,rfl,UK,_,_,rfl,rfl,_,rfl,ite2 (λ_=>?_) (λ_=>?_)⟩
  ·refine ⟨_,rfl,(by show 1<=sizeLine;decide),λp hp=>?_⟩;exact q p c _ hp (Wu hp _) y4
  ·refine ⟨_,rfl,_,rfl,a,rfl,⟨_,hS⟩,CB (K:=K) (a:=a) (xs:=ns.map V.int) (λi ys H3=>H3=H2/\∃ ms:List Int,ys=ms.map V.int/\ms.length=i) ⟨rfl,[],rfl,rfl⟩ ?_ ?_ ?_ ?_⟩
   ·rintro i ys H3 hi ⟨_,ms,rfl,rfl⟩;rw [yZ] at hi ⊢;exact sizes (by omega)
   ·rintro i ys H3 hi ⟨rfl,_⟩;exact hS
   ·rintro i x ys H3 R hx ⟨rfl,ms,rfl,rfl⟩ hR;rw [yM] at hx;obtain ⟨v,hv,rfl⟩:=yF.mp hx;refine ⟨Wk.one rfl,⟨_,rfl,_,_,rfl,rfl,UK,_,_,rfl,rfl,(by show (0:Int)<10 ^ (18:Int).toNat;decide),?_⟩⟩;exact hR _ _ ⟨rfl,ms++[_],by rw [yu];rfl,by rw [yH];rfl⟩
   ·rintro ys H3 ⟨rfl,ms,rfl,_⟩ D hD;refine ⟨D,ms,rfl,SqL.of y4,_,_,rfl,rfl,?_⟩;have g1:Same H3 (j9 H3 D (.lst (ms.map V.int))):=Wu hD _;refine ⟨12,rfl,by decide,by decide,Ds (n:=12) (λi U H4=>∃(f:Int)(j:Option V),U=[some (.ref a),some (.int k),some (.int (c+ms.sum)),j,some (.int f)]/\H4=j9 H3 D (.lst (ms.map V.int))) ⟨0,_,rfl,rfl⟩ ?_ ?_⟩
    ·rintro i U H4 hi ⟨f,j,rfl,rfl⟩;refine ⟨_,rfl,_,_,rfl,rfl,.inr ⟨by decide,by decide⟩,_,rfl,_,rfl,_,_,rfl,rfl,.inl ⟨by decide,by decide⟩,_,_,rfl,rfl,_,rfl,a,_,rfl,.inl (g1.seq hS),_,_,rfl,rfl,_,rfl,_,_,rfl,by omega,by omega,λv v0 v1=>?_⟩;exact ⟨_,_,rfl,rfl,_,_,rfl,rfl⟩
    ·rintro U H4 ⟨f,j,rfl,rfl⟩;refine ⟨_,rfl,(by show 1<=sizeLine;decide),λp hp=>?_⟩;exact q p f _ (g1.free hp) (g1.trans (Wu hp _)) y4
end
def jj (K:Fg):List PV->Prop:=λxs=>∃(ns:List Int)(k:Int),xs=[scr K ns,.at (.int k)]/\ns.length<=63/\0<=k/\k<=12
def xP:List PV->PV->Prop:=λ_ y=>∃ n:Int,y = .lst [.at (.int n)]
theorem RM {K:Fg}{vs:List V}{Q:VK}{E:XK}(h:spN (jj K) xP vs H Q E):Bn K vs H Q E:=by obtain ⟨Hs,xs,sm,r,⟨ns,k,rfl,h63,k0,k1⟩,q⟩:=h;obtain ⟨v,w,rfl,p1,p2⟩:=reps_cons.mp r;obtain ⟨u,z,rfl,p3,p4⟩:=reps_cons.mp p2;cases reps_nil.mp p4;cases rep_at.mp p3;obtain ⟨a,rfl,hS⟩:=Rl sm p1;exact ⟨a,ns,k,rfl,hS,h63,k0,k1,λb n H' nb g e=>q _ b Hs H' ⟨n,rfl⟩ ⟨.refl _,g,sm.trans g,λ_ _ z=>z⟩ nb (sm.free nb) ⟨_,e,.one (rep_at.mpr rfl)⟩⟩
section
theorem LQ (F:Fun K "_law_stream" "_law_stream" ZF f fd)(Eh:Fn P w K mg base 1 "_law_mixed" ["cell","k"] Wx)(Ac:mg "len"=none)(Af:mg "range"=none)(Ih:mg "sum"=none):FnOk P w K mg base v5 2 f fd ["script","k"] (spN (jj K) xP):=(LR F Eh Ac Af Ih).imp λ_ _ _ _ h=>RM h
theorem CG:zL 10 40:=⟨by decide,by decide,by decide⟩
abbrev VX:Stmt:=y9 58
theorem Ra:w5 ["script"] ["script"] (z9 VX):=y7
def Vh (K:Fg):List PV->Prop:=λxs=>∃ ns:List Int,xs=[scr K ns]/\ns.length<=63
theorem LE (F:Fun K "_law_more" "_law_more" VX f fd)(A0:Fn P w K mg base 2 "_law_stream" ["script","k"] (spN (jj K) xP)):FnOk P w K mg base v5 3 f fd ["script"] (spN (Vh K) xP):=by
 refine F.ok Ra (λvs H Q E h=>?_) (λcdv A outer s H vs Q E hr h=>?_)
 ·obtain ⟨Hs,xs,_,r,⟨ns,rfl,_⟩,_⟩:=h;rw [r.length];rfl
 obtain ⟨Hs,xs,sm,r,⟨ns,rfl,h63⟩,q⟩:=h;obtain ⟨v,w,rfl,p1,p2⟩:=reps_cons.mp r;cases reps_nil.mp p2;refine ⟨_,(j6 (w9 (qL (x8 (w4 GR (QI (XQ (K:=K) rfl) (u9 A0 hr (by decide) rfl (x8 (pv 0) (x8 z0 v3))) z0 (λ_ _=>rfl)) (w4 xB z0 z0)) v3)))),?_⟩;refine ⟨_,rfl,Hs,[scr K ns,.at (.int 0)],sm,.cons p1 (.one (rep_at.mpr rfl)),⟨ns,0,rfl,h63,by decide,by decide⟩,λy b Hs' H' hR x n n' t=>?_⟩;obtain ⟨m,rfl⟩:=hR;obtain ⟨ws,hw,rw⟩:=t;obtain ⟨u,z,rfl,p3,p4⟩:=reps_cons.mp rw;cases reps_nil.mp p4;cases rep_at.mp p3;refine ⟨b,_,0,_,rfl,rfl,SqL.of hw,rfl,_,_,rfl,rfl,CG,_,_,rfl,rfl,⟨by decide +kernel,by decide +kernel⟩,(by show 1<=sizeLine;decide),λp hp=>?_⟩;exact q _ p Hs' _ ⟨_,rfl⟩ (x.trans (.newO x.s3 hp)) (x.s2.free hp) (x.s3.free hp) ⟨_,y4,.one (rep_at.mpr rfl)⟩
end
def j7:Int:=10 ^ 30
theorem Xg:0<j7:=by decide +kernel
theorem CF:zL 10 30:=⟨by decide,by decide,by decide⟩
theorem vG:jf (.at (.int 10)) (.at (.int 30))=some (.at (.int j7)):=by show (if zL 10 30 then some (V.int (10 ^ (30:Int).toNat)) else none).map PV.at=_;rw [if_pos CF];rfl
theorem Mz {k:Int}(h0:0<=k)(h1:k<=2*j7):k.natAbs.log2<9000:=by
 have hb:(2*j7).toNat<2 ^ 9000:=yG (show (2*j7).toNat<2 ^ 110 by decide +kernel) (Nat.pow_le_pow_right (by decide) (by decide));have:k.natAbs<2 ^ 9000:=by omega
 by_cases hz:k.natAbs=0
 ·rw [hz];decide
 ·exact (Nat.log2_lt hz).mpr this
theorem jt {k:Int}(h0:0<k)(h1:k<=2*j7):Xh n k:=⟨h0,Mz (by omega) h1⟩
theorem wQ:(1000:Int)<=j7:=by decide +kernel
def k4 (rss:List (List Int)):PV:= .lst (rss.map λr=> .lst (r.map λn=> .at (.int n)))
def QM:List PV->Prop:=λxs=>xs=[]
def wV:List PV->PV->Prop:=λ_ y=>∃ n:Int,y = .at (.int n)/\0<=n/\n<j7
abbrev Wg:Stmt:=y9 59
abbrev YZ (K:Fg):WS:=(wSeq (c8 1 (n5 0 (wP (dC (.int 5)))))
  (wSeq (qX (qJ (dT (z6 pLt (x6 1) (dC (.int 4))))) (qY (n5 0 (wP (z6 y6 (n9 (q8 (dC (.int 1)) (q8 (dC (.int 4)) (q8 (dC (.int 10)) (q8 (dC (.int 1000)) x0))))) (x6 1))))) xm)
  (qY (n5 0 (wP (z6 jf (dC (.int 10)) (dC (.int 30))))))))
theorem sc_rinse:w5 ["stream","kind"] ["stream"] (z9 Wg):=y7
theorem DG:∀ xs,QM xs->xs.length+1=(["stream"]:List Str).length:=by rintro xs rfl;rfl
theorem QC {m k:Int}(h0:0<k)(h1:k<=j7):wV [] (.at (.int (m % k))):=⟨_,rfl,yw _ (by omega),Int.lt_of_lt_of_le (yB _ h0) h1⟩
theorem DN {K:Fg}:∀ xs n,QM xs->YZ K (k9 n::xs.map .sh++List.replicate ((["stream","kind"]:List Str).length-(xs.length+1)) .no) (λ_=>False) λy ε=>wV xs y/\zt 0 ε:=by
 rintro xs n rfl;have h0:0<=n % 5:=yw _ (by decide);have h5:n % 5<5:=yB _ (by decide);have hB:=wQ;refine ⟨⟨n,rfl⟩,_,rfl,n,5,rfl,rfl,⟨by decide,by decide⟩,?_⟩;by_cases hk:n % 5<4
 ·refine ZS (m3 (v:=true) (show some (PV.at (.bl (decide (n % 5<4))))=_ by rw [yy hk])) ?_;have c:n % 5=0∨n % 5=1∨n % 5=2∨n % 5=3:=by omega
  rcases c with e|e|e|e
  ·exact ⟨⟨n / 5,rfl⟩,_,(by show z6 y6 _ (x6 1) [k9 (n / 5),.sh (.at (.int (n % 5)))]=_;rw [e];rfl),n / 5,1,rfl,rfl,⟨by decide,by decide⟩,QC (by decide) (by omega),_,rfl⟩
  ·exact ⟨⟨n / 5,rfl⟩,_,(by show z6 y6 _ (x6 1) [k9 (n / 5),.sh (.at (.int (n % 5)))]=_;rw [e];rfl),n / 5,4,rfl,rfl,⟨by decide,by decide⟩,QC (by decide) (by omega),_,rfl⟩
  ·exact ⟨⟨n / 5,rfl⟩,_,(by show z6 y6 _ (x6 1) [k9 (n / 5),.sh (.at (.int (n % 5)))]=_;rw [e];rfl),n / 5,10,rfl,rfl,⟨by decide,by decide⟩,QC (by decide) (by omega),_,rfl⟩
  ·exact ⟨⟨n / 5,rfl⟩,_,(by show z6 y6 _ (x6 1) [k9 (n / 5),.sh (.at (.int (n % 5)))]=_;rw [e];rfl),n / 5,1000,rfl,rfl,⟨by decide,by decide⟩,QC (by decide) (by omega),_,rfl⟩
 ·refine wO (m3 (v:=false) (show some (PV.at (.bl (decide (n % 5<4))))=_ by rw [yO hk])) ?_;exact ⟨⟨n / 5,rfl⟩,_,w6 rfl rfl vG,n / 5,j7,rfl,rfl,jt Xg (by omega),QC Xg (Int.le_refl _),_,rfl⟩
theorem LN (F:Fun K "_law_rinse" "_law_rinse" Wg f fd)(Ad:Fn P w K mg base 1 "_law_take" ["stream","many"] jN):FnOk P w K mg base v5 2 f fd ["stream"] (spD QM wV) :=
 okD (k:=1) (b:=YZ K) F sc_rinse DG (λcdv A outer s H E hr=>⟨_,(@j8 _ _ _ _ _ (@p9 _ _ 1 _ _ _ _ sc_rinse.nd rfl (Or.inl rfl) (u9 Ad hr (by decide) rfl (@x8 _ _ _ _ _ (pv 0) (@x8 _ _ _ _ _ z0 v3 (by rfl)) (by rfl))) (by rfl) (.inl rfl))
  (@j8 _ _ _ _ _ (m7 (i7 (QD) (pv 1) z0 (m6 _)) (@j6 _ _ _ (w9 (u9 Ad hr (by decide) rfl (@x8 _ _ _ _ _ (pv 0) (@x8 _ _ _ _ _ (iW (K:=K) rfl (@qL _ _ _ _ (@x8 _ _ _ _ _ z0 (@x8 _ _ _ _ _ z0 (@x8 _ _ _ _ _ z0 (@x8 _ _ _ _ _ z0 v3 (by rfl)) (by rfl)) (by rfl)) (by rfl))) (pv 1)) v3 (by rfl)) (by rfl))))) m8)
  (@j6 _ _ _ (w9 (u9 Ad hr (by decide) rfl (@x8 _ _ _ _ _ (pv 0) (@x8 _ _ _ _ _ (w4 (xB) z0 z0) v3 (by rfl)) (by rfl))))))),
  (by repeat' first|infer_instance|(refine @Mi.instSemWSTSeqWSeq _ _ _ _ ?_ ?_)|(apply @Mi.instSemWSTForWForOfSemWIOfSemWG))⟩) DN
def wI:List PV->Prop:=λxs=>∃ h:Nat,xs=[.at (.int h)]/\1<=h/\h<=4
def wW:List PV->PV->Prop:=λxs y=>∃(h:Nat)(rss:List (List Int)),xs=[.at (.int h)]/\y=k4 rss/\qg h rss
abbrev Wh:Stmt:=y9 60
abbrev Ua (K:Fg):WS:=(qY (ZR [none,some 1,some 0] [0] (wIp (zz (q8 (z6 p7 (x6 1) (dC (.int 1))) x0))) (v7 0) Xf (ZR [none,some 2] [0] (wIp (zz (q8 (q9 1) x0))) (v7 0) Xf (wK 1 QM wV xO))))
theorem Rf:w5 ["stream","hues"] ["stream","hues"] (z9 Wh):=y7
theorem DH:∀ xs,wI xs->xs.length+1=(["stream","hues"]:List Str).length:=by rintro xs ⟨h,rfl,_⟩;rfl
theorem ZE {a:MA}{k:Nat}(h:a ε=some [.at (.int (k:Int))])(hk:k<=lim):zz a ε=some (qB 0 k):=by have hlim:(lim:Int)=1000000:=rfl;have hl:lim=1000000:=rfl;unfold zz;rw [h];show (if -(lim:Int)<=(k:Int)/\(k:Int)<=(lim:Int) then some (qB 0 (k:Int).toNat) else none)=_;rw [if_pos ⟨by omega,by omega⟩,Int.toNat_natCast]
theorem DO {K:Fg}:∀ xs n,wI xs->Ua K (k9 n::xs.map .sh++List.replicate ((["stream","hues"]:List Str).length-(xs.length+1)) .no) (λ_=>False) λy ε=>wW xs y/\zt 0 ε:=by
 rintro xs n ⟨h,rfl,h1,h4⟩;have hl:lim=1000000:=rfl;refine ⟨qB 0 (h+1),ZE rfl (by omega),rfl,by rw [jL];omega,?_⟩;refine UJ (λrest ys ε=>∃(m:Int)(rss:List (List Int)),ε=[.no,.sh (.at (.int (h:Int))),k9 m]/\ys=rss.map (λr=>PV.lst (r.map λn=> .at (.int n)))/\rss.length+rest.length=h+1/\(∀ r∈rss,r.length=h)/\(∀ r∈rss,∀ n∈r,0<=n/\n<j7)) ?_ ?_ _ [] _ ⟨n,[],rfl,rfl,by rw [jL];simp,(λ_ z=>nomatch z),(λ_ z=>nomatch z)⟩
 ·rintro ys ε ⟨m,rss,rfl,rfl,e1,e2,e3⟩;exact ⟨λ_=>⟨_,rfl⟩,⟨h,rss,rfl,rfl,by simpa using e1,λr hr=>⟨e2 r hr,e3 r hr⟩⟩,m,rfl⟩
 ·rintro x rest ys ε ⟨m,rss,rfl,rfl,e1,e2,e3⟩;simp only [yS] at e1;refine ⟨_,rfl,?_⟩;refine ⟨qB 0 h,ZE rfl (by omega),rfl,by rw [jL];omega,?_⟩;refine UJ (λrest2 zs ε=>∃(m:Int)(r:List Int),ε=[.no,k9 m]/\zs=r.map (λn=>PV.at (.int n))/\r.length+rest2.length=h/\(∀ n∈r,0<=n/\n<j7)) ?_ ?_ _ [] _ ⟨m,[],rfl,rfl,by rw [jL];simp,(λ_ z=>nomatch z)⟩
  ·rintro zs ε ⟨m2,r,rfl,rfl,g1,g2⟩;refine ⟨(λ⟨y,e⟩=>nomatch (show some (MSlot.sh x)=some (MSlot.ow y) from e)),⟨m2,rss++[r],rfl,by rw [yu];rfl,by rw [yH];simp;omega,?_,?_⟩⟩
   ·intro q hq;rcases ym.mp hq with hq|hq
    ·exact e2 q hq
    ·rw [yC.mp hq];simpa using g1
   ·intro q hq;rcases ym.mp hq with hq|hq
    ·exact e3 q hq
    ·rw [yC.mp hq];exact g2
  ·rintro x2 rest2 zs ε ⟨m2,r,rfl,rfl,g1,g2⟩;simp only [yS] at g1;refine ⟨_,rfl,⟨_,rfl⟩,⟨_,rfl⟩,rfl,?_⟩;rintro y n' ⟨v,rfl,v0,v1⟩;refine ⟨n',r++[v],rfl,by rw [yu];rfl,by rw [yH];simp;omega,λq hq=>?_⟩;rcases ym.mp hq with hq|hq
   ·exact g2 q hq
   ·rw [yC.mp hq];exact ⟨v0,v1⟩
theorem LO (F:Fun K "_law_rinses" "_law_rinses" Wh f fd)(E2:Fn P w K mg base 2 "_law_rinse" ["stream"] (spD QM wV))(Af:mg "range"=none):FnOk P w K mg base v5 3 f fd ["stream","hues"] (spD wI wW) :=
 okD (k:=2) (b:=Ua K) F Rf DH (λcdv A outer s H E hr=>⟨_,(@j6 _ _ _ (w9 (i6 (N':=["j","hues","stream"]) (cap:=[none,some 1,some 0]) (m5 rfl rfl rfl) rfl (wE rfl Af (@x8 _ _ _ _ _ (w4 (qr (K:=K) rfl) (pv 1) z0) v3 (by rfl))) (λ_ _ _ _ _ _=>(k8 (i:=0) (by show (["j","hues","stream"]:List Str).Nodup;decide +kernel) rfl (Or.inl rfl))) (λ_ _ _ _ _ _=>m9) (λ_ _ _ _ _ _=>(i6 (N':=["k","stream"]) (cap:=[none,some 2]) (m5 rfl rfl rfl) rfl (wE rfl Af (@x8 _ _ _ _ _ (pv 1) v3 (by rfl))) (λ_ _ _ _ _ _=>(k8 (i:=0) (by show (["k","stream"]:List Str).Nodup;decide +kernel) rfl (Or.inl rfl))) (λ_ _ _ _ _ _=>m9) (λ_ _ _ _ _ _=>(u9 E2 hr (by decide) rfl (@x8 _ _ _ _ _ (pv 1) v3 (by rfl))))))))),
  (by repeat' first|infer_instance|(refine @Mi.instSemWSTSeqWSeq _ _ _ _ ?_ ?_)|(apply @Mi.instSemWSTForWForOfSemWIOfSemWG))⟩) DO
def z8 (ss:List Str):List PV:=ss.map λs=> .at (.str s)
theorem QW (ss:List Str):(z8 ss).length=ss.length:=yZ _
def Low (x:Str):Prop:=∀ c∈x.cps.toList,97<=c/\c<=122
structure zM (x:Str):Prop where
 low:Low x
 one:1<=x.length
 eight:x.length<=8
def QL:List PV->Prop:=λxs=>∃ ss:List Str,xs=[.lst (z8 ss)]/\ss.length<=10/\∀ s∈ss,zM s
def vR:List PV->PV->Prop:=λxs y=>∃(ss:List Str)(x:Str),xs=[.lst (z8 ss)]/\y = .at (.str x)/\zM x/\x∉ss
abbrev VY:Stmt:=y9 61
abbrev YR (K:Fg):WS:=(wSeq (c8 2 (wP (dC (.str ""))))
  (wSeq (qX (Xc (qJ (dT (z6 qt (x6 1) (n9 x0)))) (wT (o9 pEq (n5 0 (wP (dC (.int 3)))) (wP (dC (.int 0)))))) (c8 2 (wP (Qg (z6 y6 (x6 1) (dUn QG (dC (.int 1)))) pNo (pSo (dC (.int 7)))))) xm)
  (wSeq (wFor (Yc (o9 p7 (wP (dC (.int 1))) (n5 0 (wP (dC (.int 8)))))) (v7 3) (qX (qJ (dT (z6 pLt (x9 qf (q8 (x6 2) x0)) (dC (.int 8))))) (c8 2 (o9 p7 (wP (q9 2)) (o9 y6 (wP (dC (.str "abcdefghijklmnopqrstuvwxyz"))) (n5 0 (wP (dC (.int 26))))))) xm))
  (wSeq (qX (qJ (dT (z6 (pIn false) (x6 2) (x6 1)))) (c8 2 (wP (z6 y6 (k6 [none,some 1] [0] (jY (dC (.str "abcdefghijk"))) (v7 0) (dT (z6 (pIn true) (x6 0) (x6 1))) (q9 0)) (dC (.int 0))))) xm)
  (qY (wP (q9 2)))))))
theorem sc_name:w5 ["stream","names","word","k"] ["stream","names"] (z9 VY):=y7
theorem DE:∀ xs,QL xs->xs.length+1=(["stream","names"]:List Str).length:=by rintro xs ⟨ss,rfl,_⟩;rfl
theorem Yn:∀ ss:List Str,ats (z8 ss)=some (ss.map V.str)
 |[]=>rfl
 |s::ss=>by
  show (ats (z8 ss)).map (V.str s::·)=_;rw [Yn ss];rfl
theorem Gn (x:Str):∀ ss:List Str,inV (.str x) (ss.map V.str)=decide (x∈ss)
 |[]=>by simp [inV]
 |s::ss=>by
  have ih:=Gn x ss;unfold inV at ih ⊢;rw [yT,List.any_cons,ih];have e:qd (.str s) (.str x)=decide (s=x):=rfl;rw [e];by_cases h:s=x
  ·subst h;simp
  ·simp [h,Ne.symm h]
theorem Dp (ss:List Str):(ss.map V.str).all g0=true:=by rw [uV];intro v hv;obtain ⟨s,_,rfl⟩:=yx.mp hv;rfl
theorem XI (neg:Bool)(x:Str)(ss:List Str):pIn neg (.at (.str x)) (.lst (z8 ss))=some (.at (.bl (if neg then !decide (x∈ss) else decide (x∈ss)))):=by show (ats (z8 ss)).bind _=_;rw [Yn,yE,if_pos ⟨rfl,Dp ss⟩,Gn]
theorem Rw (h:Low x)(l u:Option Int):Low (Txt.slice x l u):=λc hc=>by
 unfold Txt.slice at hc;split at hc
 ·exact h c hc
 ·dsimp only at hc
  obtain ⟨i,_,e⟩:=uT.mp hc;refine h c ?_;rw [Array.mem_toList_iff];exact Array.mem_of_getElem? e
theorem Ru {k:Nat}(h:z.length<=k)(l u:Option Int):(Txt.slice z l u).length<=k:=yr (Txt.slice_le z l u) h
def eleven:List Str:=[⟨#[97]⟩,⟨#[98]⟩,⟨#[99]⟩,⟨#[100]⟩,⟨#[101]⟩,⟨#[102]⟩,⟨#[103]⟩,⟨#[104]⟩,⟨#[105]⟩,⟨#[106]⟩,⟨#[107]⟩]
theorem Py (hx:Low x)(hy:Low y):Low (x++y):=λc hc=>by
 have e:(x++y).cps.toList=x.cps.toList++y.cps.toList:=by show (x.cps++y.cps).toList=_;simp
 rw [e] at hc;rcases ym.mp hc with h|h
 ·exact hx c h
 ·exact hy c h
theorem Px (x y:Str):(x++y).length=x.length+y.length:=by show (x.cps++y.cps).size=_;simp [Str.length]
theorem Pw {k:Int}(h0:0<=k)(h1:k<26):∃ c:Nat,y6 (.at (.str "abcdefghijklmnopqrstuvwxyz")) (.at (.int k))=some (.at (.str ⟨#[c]⟩))/\97<=c/\c<=122:=by
 have q:∀ j:_root_.Fin 26,L2.atI (("abcdefghijklmnopqrstuvwxyz":Str).cps.toList) ((j:Nat):Int)=some (97+(j:Nat)):=by decide +kernel
 have e:=q ⟨k.toNat,by omega⟩;have e2:((k.toNat:Nat):Int)=k:=by omega
 have e':L2.atI (("abcdefghijklmnopqrstuvwxyz":Str).cps.toList) ((k.toNat:Nat):Int)=some (97+k.toNat):=e;rw [e2] at e';refine ⟨97+k.toNat,?_,by omega,by omega⟩;show (if ("abcdefghijklmnopqrstuvwxyz":Str).length<=lim then (L2.atI (("abcdefghijklmnopqrstuvwxyz":Str).cps.toList) k).map _ else none)=_;rw [if_pos (by decide +kernel),e'];rfl
theorem CC (ss ls:List Str):qi (v7 0) (dT (z6 (pIn true) (x6 0) (x6 1))) (q9 0) [.no,.sh (.lst (z8 ss))] (z8 ls)=some (z8 (ls.filter λx=>!decide (x∈ss))) :=
 UI (λs:Str=>PV.at (.str s)) (λs:Str=>PV.at (.str s)) (λx=>!decide (x∈ss)) ls λx _=>⟨_,rfl,m3 (w6 rfl rfl (XI true x ss)),λ_=>rfl⟩
theorem Dm (h:a ε=some (.at (.str z)))(hz:z.length<=lim):Qg a pNo (pSo (dC (.int j))) ε=some (.at (.str (Txt.slice z none (some j)))):=by unfold Qg;rw [h];show (if z.length<=lim then some (PV.at (.str (Txt.slice z none (some j)))) else none)=_;rw [if_pos hz]
theorem DL {K:Fg}:∀ xs n,QL xs->YR K (k9 n::xs.map .sh++List.replicate ((["stream","names","word","k"]:List Str).length-(xs.length+1)) .no) (λ_=>False) λy ε=>vR xs y/\zt 0 ε:=by
 rintro xs n ⟨ss,rfl,h10,hok⟩;have hl:lim=1000000:=rfl;have hlI:(lim:Int)=1000000:=rfl;refine ⟨_,rfl,?_⟩;have fin:∀ (m:Int) (x:Str) (s3:MSlot),Low x->1<=x.length->x.length<=8->(wSeq (qX (qJ (dT (z6 (pIn false) (x6 2) (x6 1)))) (c8 2 (wP (z6 y6 (k6 [none,some 1] [0] (jY (dC (.str "abcdefghijk"))) (v7 0) (dT (z6 (pIn true) (x6 0) (x6 1))) (q9 0)) (dC (.int 0))))) xm) (qY (wP (q9 2)))) [k9 m,.sh (.lst (z8 ss)),.sh (.at (.str x)),s3] (λ_=>False) λy ε=>vR [.lst (z8 ss)] y/\zt 0 ε:=by
  intro m x s3 lx l1 l8;by_cases hin:x∈ss
  ·refine ZS (m3 (v:=true) (w6 rfl rfl ((XI false x ss).trans (by simp [hin])))) ?_;have hs:jM "abcdefghijk"=z8 eleven:=by unfold jM;rw [show ("abcdefghijk":Str).cps.toList=[97,98,99,100,101,102,103,104,105,106,107] by decide +kernel];rfl
   have hne:eleven.filter (λx=>!decide (x∈ss))≠[]:=λz=>by
    have:eleven.length<=ss.length:=JT (by decide +kernel) λy hy=>by
     by_cases hys:y∈ss
     ·exact hys
     ·have:y∈eleven.filter (λx=>!decide (x∈ss)):=List.mem_filter.mpr ⟨hy,by simp [hys]⟩;rw [z] at this;exact nomatch this
    have e11:eleven.length=11:=rfl;omega
   obtain ⟨y,rest,hy⟩:=List.exists_cons_of_ne_nil hne;have hym:y∈eleven.filter (λx=>!decide (x∈ss)):=by rw [hy];exact yK
   obtain ⟨h1,h2⟩:=List.mem_filter.mp hym;have hyn:y∉ss:=by simpa using h2
   have hyo:zM y:=by
    have q:∀ z∈eleven,(z.length=1/\∀ c∈z.cps.toList,97<=c/\c<=122):=by decide +kernel
    exact ⟨(q y h1).2,by rw [(q y h1).1];exact yY _,by rw [(q y h1).1];decide⟩
   refine ⟨.at (.str y),?_,_,rfl,⟨ss,y,rfl,rfl,hyo,hyn⟩,_,rfl⟩;refine w6 (Gc (xs:=z8 eleven) (ys:=z8 (y::rest)) ?_ rfl (by decide) ?_) rfl (zR (j:=0) rfl)
   ·show some (jM "abcdefghijk")=_;rw [hs]
   ·rw [<- hy];exact CC ss eleven
  ·refine wO (m3 (v:=false) (w6 rfl rfl ((XI false x ss).trans (by simp [hin])))) ?_;exact ⟨_,rfl,⟨ss,x,rfl,rfl,⟨lx,l1,l8⟩,hin⟩,_,rfl⟩
 have loop:∀ (m:Int) (x:Str),Low x->x.length<=8->(wSeq (wFor (Yc (o9 p7 (wP (dC (.int 1))) (n5 0 (wP (dC (.int 8)))))) (v7 3) (qX (qJ (dT (z6 pLt (x9 qf (q8 (x6 2) x0)) (dC (.int 8))))) (c8 2 (o9 p7 (wP (q9 2)) (o9 y6 (wP (dC (.str "abcdefghijklmnopqrstuvwxyz"))) (n5 0 (wP (dC (.int 26))))))) xm))
   (wSeq (qX (qJ (dT (z6 (pIn false) (x6 2) (x6 1)))) (c8 2 (wP (z6 y6 (k6 [none,some 1] [0] (jY (dC (.str "abcdefghijk"))) (v7 0) (dT (z6 (pIn true) (x6 0) (x6 1))) (q9 0)) (dC (.int 0))))) xm) (qY (wP (q9 2))))) [k9 m,.sh (.lst (z8 ss)),.sh (.at (.str x)),.no] (λ_=>False) λy ε=>vR [.lst (z8 ss)] y/\zt 0 ε:=by
  intro m x lx l8;have c0:0<=m % 8:=yw _ (by decide);have c1:m % 8<8:=yB _ (by decide);refine ⟨_,rfl,⟨⟨m,rfl⟩,_,rfl,m,8,rfl,rfl,⟨by decide,by decide⟩,_,rfl,1+m % 8,rfl,by omega,by omega,?_⟩⟩;refine JI (λrest ε=>∃(m:Int)(y:Str)(s3:MSlot),ε=[k9 m,.sh (.lst (z8 ss)),.sh (.at (.str y)),s3]/\Low y/\y.length<=8/\(rest.length<(1+m % 8*0+1)->True)/\(1<=y.length∨1<=rest.length)) ?_ ?_ _ _ ⟨_,x,_,rfl,lx,l8,λ_=>trivial,.inr (by rw [jL];omega)⟩
  ·rintro ε ⟨m2,y,s3,rfl,ly,y8,_,h1⟩;exact fin m2 y s3 ly (h1.resolve_right (by simp)) y8
  ·rintro z rest ε ⟨m2,y,s3,rfl,ly,y8,_,h1⟩;refine ⟨_,rfl,?_⟩;have ln:z6 pLt (x9 qf (q8 (x6 2) x0)) (dC (.int 8)) [k9 m2,.sh (.lst (z8 ss)),.sh (.at (.str y)),.sh z]=some (.at (.bl (decide ((y.length:Int)<8)))):=by refine w6 (j5 rfl (show (if y.length<=lim then some (PV.at (.int y.length)) else none)=_ from if_pos (by omega))) rfl rfl
   by_cases h8:y.length<8
   ·refine ZS (m3 (v:=true) (ln.trans (by rw [yy (by omega)]))) ?_;have d0:0<=m2 % 26:=yw _ (by decide);have d1:m2 % 26<26:=yB _ (by decide);obtain ⟨c,hc,c97,c122⟩:=Pw d0 d1;have ly2:Low (y++⟨#[c]⟩):=Py ly λd hd=>by
     have:d=c:=by simpa using hd
     rw [this];exact ⟨c97,c122⟩
    have len2:(y++(⟨#[c]⟩:Str)).length=y.length+1:=Px _ _;refine ⟨_,rfl,_,rfl,⟨m2,rfl⟩,_,rfl,m2,26,rfl,rfl,⟨by decide,by decide⟩,_,hc,_,(show (if y.length+(⟨#[c]⟩:Str).length<=lim then _ else none)=_ from if_pos (by show y.length+1<=_;omega)),?_⟩;exact ⟨_,_,_,rfl,ly2,by omega,λ_=>trivial,.inl (by omega)⟩
   ·refine wO (m3 (v:=false) (ln.trans (by rw [yO (by omega)]))) ?_;exact ⟨_,_,_,rfl,ly,y8,λ_=>trivial,.inl (by omega)⟩
 by_cases hne:ss=[]
 ·subst hne;have e:Xc (qJ (dT (z6 qt (x6 1) (n9 x0)))) (wT (o9 pEq (n5 0 (wP (dC (.int 3)))) (wP (dC (.int 0))))) [k9 n,.sh (.lst (z8 [])),.sh (.at (.str "")),.no]=Xc (qJ (dT (z6 qt (x6 1) (n9 x0)))) (wT (o9 pEq (n5 0 (wP (dC (.int 3)))) (wP (dC (.int 0))))) [k9 n,.sh (.lst []),.sh (.at (.str "")),.no]:=rfl;refine ⟨false,rfl,?_⟩;exact loop n "" (λc hc=>nomatch hc) (by decide)
 ·obtain ⟨s0,r0,rfl⟩:=List.exists_cons_of_ne_nil hne;refine ⟨true,rfl,?_⟩;have z3:0<=n % 3:=yw _ (by decide);refine ⟨⟨n,rfl⟩,_,rfl,n,3,rfl,rfl,⟨by decide,by decide⟩,_,rfl,?_⟩;by_cases h3:n % 3=0
  ·refine ⟨_,(show pEq (.at (.int (n % 3))) (.at (.int 0))=some (.at (.bl true)) from ?_),true,rfl,?_⟩
   ·rw [h3];rfl
   ·have hg:(s0::r0).getLast (ul _ _)∈s0::r0:=List.getLast_mem _;have hk:=hok _ hg;have ix:y6 (.lst (z8 (s0::r0))) (.at (.int (-1)))=some (.at (.str ((s0::r0).getLast (ul _ _)))):=by show atI (z8 (s0::r0)) (-1)=_;unfold atI ixN;rw [if_neg (by decide),if_pos (by rw [QW,yS];omega),yE,QW,show ((-1:Int)+((s0::r0).length:Nat)).toNat=(s0::r0).length-1 by rw [yS];omega];unfold z8;rw [yM,yL (by simp),List.getLast_eq_getElem];rfl
    have e8:=hk.eight;exact ⟨_,Dm (w6 rfl rfl ix) (by omega),loop _ _ (Rw hk.low _ _) (Ru hk.eight _ _)⟩
  ·refine ⟨_,(show pEq (.at (.int (n % 3))) (.at (.int 0))=some (.at (.bl false)) from ?_),false,rfl,?_⟩
   ·show some (PV.at (.bl (qd (.int (n % 3)) (.int 0))))=_;rw [show qd (.int (n % 3)) (.int 0)=decide (n % 3=0) from rfl,yO h3]
   ·exact loop _ "" (λc hc=>nomatch hc) (by decide)
theorem LF (F:Fun K "_law_name" "_law_name" VY f fd)(Ad:Fn P w K mg base 1 "_law_take" ["stream","many"] jN)(Ac:mg "len"=none)(Af:mg "range"=none):FnOk P w K mg base v5 2 f fd ["stream","names"] (spD QL vR) :=
 okD (k:=1) (b:=YR K) F sc_name DE (λcdv A outer s H E hr=>⟨_,(@j8 _ _ _ _ _ (@p9 _ _ 2 _ _ _ _ sc_name.nd rfl (Or.inl rfl) n6 (by rfl) (.inl rfl))
  (@j8 _ _ _ _ _ (m7 (PW.pt (ZC (i7 (xW (K:=K) (hu6 hr) rfl) (pv 1) (@qL _ _ _ _ v3) (m6 _)) (ZD (i7 (vz (K:=K) (hu6 hr) rfl) (u9 Ad hr (by decide) rfl (@x8 _ _ _ _ _ (pv 0) (@x8 _ _ _ _ _ z0 v3 (by rfl)) (by rfl))) z0 (m6 _))))) (@j6 _ _ _ (@p9 _ _ 2 _ _ _ _ sc_name.nd rfl (Or.inl rfl) (Kh (iW (K:=K) rfl (pv 1) (Zx ZO z0)) QK (wF z0)) (by rfl) (.inl rfl))) m8)
  (@j8 _ _ _ _ _ (jJ PassesOwn.never rfl (wE rfl Af (@x8 _ _ _ _ _ (w4 (qr (K:=K) rfl) z0 (u9 Ad hr (by decide) rfl (@x8 _ _ _ _ _ (pv 0) (@x8 _ _ _ _ _ z0 v3 (by rfl)) (by rfl)))) v3 (by rfl))) (k8 (i:=3) sc_name.nd rfl (Or.inl rfl))
   (@j6 _ _ _ (m7 (i7 (QD) (p5 (xx (K:=K) rfl) rfl Ac PySem.boot_len (@x8 _ _ _ _ _ (pv 2) v3 (by rfl))) z0 (m6 _)) (@j6 _ _ _ (@p9 _ _ 2 _ _ _ _ sc_name.nd rfl (Or.inl rfl) (w4 (qr (K:=K) rfl) (pv 2) (iW (K:=K) rfl n6 (u9 Ad hr (by decide) rfl (@x8 _ _ _ _ _ (pv 0) (@x8 _ _ _ _ _ z0 v3 (by rfl)) (by rfl))))) (by rfl) (.inl rfl))) m8)))
  (@j8 _ _ _ _ _ (m7 (i7 (GT (K:=K) rfl) (pv 2) (pv 1) (by with_unfolding_all rfl)) (@j6 _ _ _ (@p9 _ _ 2 _ _ _ _ sc_name.nd rfl (Or.inl rfl) (iW (K:=K) rfl (i6 (N':=["sign","names"]) (cap:=[none,some 1]) (m5 rfl rfl rfl) rfl (Vf n6) (λ_ _ _ _ _ _=>(k8 (i:=0) (by show (["sign","names"]:List Str).Nodup;decide +kernel) rfl (Or.inl rfl))) (λ_ _ _ _ _ _=>(Ha (i7 (Nl (K:=K) rfl) (pv 0) (pv 1) (by with_unfolding_all rfl)))) (λ_ _ _ _ _ _=>(pv 0))) z0) (by rfl) (.inl rfl))) m8)
  (@j6 _ _ _ (w9 (pv 2))))))),
  (by repeat' first|infer_instance|(refine @Mi.instSemWSTSeqWSeq _ _ _ _ ?_ ?_)|(apply @Mi.instSemWSTForWForOfSemWIOfSemWG))⟩) DL
structure Cl where
 name:Str
 hue:Nat
 len:Int
 due:Int
 wt:Int
variable{c:Cl}{cs es ns:List Cl}
def Cl.pv (c:Cl):PV:= .tup [.at (.str c.name),.at (.int c.hue),.at (.int c.len),.at (.int c.due),.at (.int c.wt)]
structure Cl.Ok (h:Nat)(c:Cl):Prop where
 nm:zM c.name
 hu:c.hue<h
 l1:1<=c.len
 l2:c.len<j7
 d1:-j7<c.due
 d2:c.due<j7
 w1:1<=c.wt
 w2:c.wt<j7
theorem JO {α β:Type}{f:α->β}(hf:∀ x y,f x=f y->x=y):∀{a b:List α},a.map f=b.map f->a=b
 |[],[],_=>rfl
 |[],_::_,h=>by cases h
 |_::_,[],h=>by cases h
 |x::a,y::b,h=>by
  rw [yT,yT] at h;injection h with h1 h2;rw [hf x y h1,JO hf h2]
theorem Bu {a b:List Str}(h:z8 a=z8 b):a=b:=JO (λx y e=>by injection e with e;injection e) h
def wG:List PV->Prop:=λxs=>∃(ss:List Str)(h:Nat),xs=[.lst (z8 ss),.at (.int h)]/\ss.length<=10/\(∀ s∈ss,zM s)/\1<=h/\h<=4
def wS:List PV->PV->Prop:=λxs y=>∃(ss:List Str)(h:Nat)(c:Cl),xs=[.lst (z8 ss),.at (.int h)]/\y=c.pv/\c.Ok h/\c.name∉ss
abbrev VH:Stmt:=y9 62
abbrev YB (K:Fg):WS:=(wSeq (c8 3 (wK 0 QL vR (o5 (wP (q9 1)) xO)))
  (wSeq (c8 4 (n5 0 (wP (q9 2))))
  (wSeq (qX (wT (o9 pGt (n5 0 (wP (dC (.int 5)))) (wP (dC (.int 0))))) (qY (wTup (o5 (wP (q9 3)) (o5 (wP (q9 4)) (o5 (o9 p7 (wP (dC (.int 1))) (n5 0 (wP (dC (.int 9))))) (o5 (o9 xH (n5 0 (wP (dC (.int 60)))) (wP (dC (.int 9)))) (o5 (o9 p7 (wP (dC (.int 1))) (n5 0 (wP (dC (.int 9))))) xO))))))) xm)
  (qY (wTup (o5 (wP (q9 3)) (o5 (wP (q9 4)) (o5 (o9 p7 (wP (dC (.int 1))) (n5 0 (wP (z6 xH (z6 jf (dC (.int 10)) (dC (.int 30))) (dC (.int 1)))))) (o5 (o9 p7 (o9 xH (n5 0 (wP (z6 xH (z6 pMul (dC (.int 2)) (z6 jf (dC (.int 10)) (dC (.int 30)))) (dC (.int 1))))) (wP (z6 jf (dC (.int 10)) (dC (.int 30))))) (wP (dC (.int 1)))) (o5 (o9 p7 (wP (dC (.int 1))) (n5 0 (wP (z6 xH (z6 jf (dC (.int 10)) (dC (.int 30))) (dC (.int 1)))))) xO))))))))))
theorem sc_cloth:w5 ["stream","names","hues","name","hue"] ["stream","names","hues"] (z9 VH):=y7
theorem DD:∀ xs,wG xs->xs.length+1=(["stream","names","hues"]:List Str).length:=by rintro xs ⟨ss,h,rfl,_⟩;rfl
theorem PN:Builtin.Int.intBits 2<=2 ^ 20:=by decide +kernel
theorem PL:Builtin.Int.intBits j7<=2 ^ 20:=by decide +kernel
theorem mul2:pMul (.at (.int 2)) (.at (.int j7))=some (.at (.int (2*j7))):=by show (if wR 2 j7 then some (V.int (2*j7)) else none).map PV.at=_;rw [if_pos ⟨PN,PL⟩];rfl
theorem DJ {K:Fg}:∀ xs n,wG xs->YB K (k9 n::xs.map .sh++List.replicate ((["stream","names","hues","name","hue"]:List Str).length-(xs.length+1)) .no) (λ_=>False) λy ε=>wS xs y/\zt 0 ε:=by
 rintro xs n ⟨ss,h,rfl,h10,hok,h1,h4⟩;have hB:=wQ;refine ⟨⟨n,rfl⟩,_,rfl,⟨n,rfl⟩,⟨ss,rfl,h10,hok⟩,?_⟩;rintro y n1 ⟨ss',x,e,rfl,hx,hn⟩;have e':ss'=ss:=by injection e with e _;injection e with e;exact (Bu e).symm
 subst e';refine ⟨⟨n1,rfl⟩,_,rfl,n1,(h:Int),rfl,rfl,jt (by omega) (by omega),?_⟩;have u0:0<=n1 % (h:Int):=yw _ (by omega);have u1:n1 % (h:Int)<h:=yB _ (by omega);obtain ⟨u,hu⟩:=uL u0;rw [hu] at u1 ⊢;generalize n1 / (h:Int)=n2;refine ⟨⟨n2,rfl⟩,_,rfl,n2,5,rfl,rfl,⟨by decide,by decide⟩,_,rfl,_,rfl,decide (0<n2 % 5),rfl,?_⟩;generalize n2 / 5=n3;by_cases h5:0<n2 % 5
 ·rw [yy h5,if_pos rfl];refine ⟨_,rfl,_,rfl,_,rfl,⟨n3,rfl⟩,_,rfl,n3,9,rfl,rfl,⟨by decide,by decide⟩,_,rfl,⟨_,rfl⟩,_,rfl,n3 / 9,60,rfl,rfl,⟨by decide,by decide⟩,_,rfl,_,rfl,_,rfl,⟨_,rfl⟩,_,rfl,n3 / 9 / 60,9,rfl,rfl,⟨by decide,by decide⟩,_,rfl,l5,?_,_,rfl⟩;have a0:0<=n3 % 9:=yw _ (by decide);have a1:n3 % 9<9:=yB _ (by decide);have b0:0<=n3 / 9 % 60:=yw _ (by decide);have b1:n3 / 9 % 60<60:=yB _ (by decide);have c0:0<=n3 / 9 / 60 % 9:=yw _ (by decide);have c1:n3 / 9 / 60 % 9<9:=yB _ (by decide);exact ⟨ss',h,⟨x,u,1+n3 % 9,n3 / 9 % 60-9,1+n3 / 9 / 60 % 9⟩,rfl,rfl,⟨hx,(show u<h by omega),(show (1:Int)<=1+n3 % 9 by omega),(show 1+n3 % 9<j7 by omega),(show -j7<n3 / 9 % 60-9 by omega),(show n3 / 9 % 60-9<j7 by omega),(show (1:Int)<=1+n3 / 9 / 60 % 9 by omega),(show 1+n3 / 9 / 60 % 9<j7 by omega)⟩,hn⟩
 ·rw [yO h5,if_neg yU];refine ⟨_,rfl,_,rfl,_,rfl,⟨n3,rfl⟩,_,w6 (w6 rfl rfl vG) rfl rfl,n3,j7-1,rfl,rfl,jt (by omega) (by omega),_,rfl,⟨_,rfl⟩,_,w6 (w6 rfl (w6 rfl rfl vG) mul2) rfl rfl,n3 / (j7-1),2*j7-1,rfl,rfl,jt (by omega) (by omega),_,w6 rfl rfl vG,_,rfl,_,rfl,_,rfl,_,rfl,⟨_,rfl⟩,_,w6 (w6 rfl rfl vG) rfl rfl,n3 / (j7-1) / (2*j7-1),j7-1,rfl,rfl,jt (by omega) (by omega),_,rfl,l5,?_,_,rfl⟩;have a0:0<=n3 % (j7-1):=yw _ (by omega);have a1:n3 % (j7-1)<j7-1:=yB _ (by omega);have b0:0<=n3 / (j7-1) % (2*j7-1):=yw _ (by omega);have b1:n3 / (j7-1) % (2*j7-1)<2*j7-1:=yB _ (by omega);have c0:0<=n3 / (j7-1) / (2*j7-1) % (j7-1):=yw _ (by omega);have c1:n3 / (j7-1) / (2*j7-1) % (j7-1)<j7-1:=yB _ (by omega);generalize n3 % (j7-1)=p1 at a0 a1 ⊢;generalize n3 / (j7-1) % (2*j7-1)=p2 at b0 b1 ⊢;generalize n3 / (j7-1) / (2*j7-1) % (j7-1)=p3 at c0 c1 ⊢;exact ⟨ss',h,⟨x,u,1+p1,p2-j7+1,1+p3⟩,rfl,rfl,⟨hx,(show u<h by omega),(show (1:Int)<=1+p1 by omega),(show 1+p1<j7 by omega),(show -j7<p2-j7+1 by omega),(show p2-j7+1<j7 by omega),(show (1:Int)<=1+p3 by omega),(show 1+p3<j7 by omega)⟩,hn⟩
theorem Ll (F:Fun K "_law_cloth" "_law_cloth" VH f fd)(Im:Fn P w K mg base 2 "_law_name" ["stream","names"] (spD QL vR))(Ad:Fn P w K mg base 1 "_law_take" ["stream","many"] jN):FnOk P w K mg base v5 3 f fd ["stream","names","hues"] (spD wG wS) :=
 okD (k:=2) (b:=YB K) F sc_cloth DD (λcdv A outer s H E hr=>⟨_,(@j8 _ _ _ _ _ (@p9 _ _ 3 _ _ _ _ sc_cloth.nd rfl (Or.inl rfl) (u9 Im hr (by decide) rfl (@x8 _ _ _ _ _ (pv 0) (@x8 _ _ _ _ _ (pv 1) v3 (by rfl)) (by rfl))) (by rfl) (.inl rfl))
  (@j8 _ _ _ _ _ (@p9 _ _ 4 _ _ _ _ sc_cloth.nd rfl (Or.inl rfl) (u9 Ad hr (by decide) rfl (@x8 _ _ _ _ _ (pv 0) (@x8 _ _ _ _ _ (pv 2) v3 (by rfl)) (by rfl))) (by rfl) (.inl rfl))
  (@j8 _ _ _ _ _ (m7 (i7 (GS) (u9 Ad hr (by decide) rfl (@x8 _ _ _ _ _ (pv 0) (@x8 _ _ _ _ _ z0 v3 (by rfl)) (by rfl))) z0 (m6 _)) (@j6 _ _ _ (w9 (@zn _ _ _ _ _ (@x8 _ _ _ _ _ (pv 3) (@x8 _ _ _ _ _ (pv 4) (@x8 _ _ _ _ _ (w4 (qr (K:=K) rfl) z0 (u9 Ad hr (by decide) rfl (@x8 _ _ _ _ _ (pv 0) (@x8 _ _ _ _ _ z0 v3 (by rfl)) (by rfl)))) (@x8 _ _ _ _ _ (w4 (zl) (u9 Ad hr (by decide) rfl (@x8 _ _ _ _ _ (pv 0) (@x8 _ _ _ _ _ z0 v3 (by rfl)) (by rfl))) z0) (@x8 _ _ _ _ _ (w4 (qr (K:=K) rfl) z0 (u9 Ad hr (by decide) rfl (@x8 _ _ _ _ _ (pv 0) (@x8 _ _ _ _ _ z0 v3 (by rfl)) (by rfl)))) v3 (by rfl)) (by rfl)) (by rfl)) (by rfl)) (by rfl))))) m8)
  (@j6 _ _ _ (w9 (@zn _ _ _ _ _ (@x8 _ _ _ _ _ (pv 3) (@x8 _ _ _ _ _ (pv 4) (@x8 _ _ _ _ _ (w4 (qr (K:=K) rfl) z0 (u9 Ad hr (by decide) rfl (@x8 _ _ _ _ _ (pv 0) (@x8 _ _ _ _ _ (w4 (zl) (w4 (xB) z0 z0) z0) v3 (by rfl)) (by rfl)))) (@x8 _ _ _ _ _ (w4 (qr (K:=K) rfl) (w4 (zl) (u9 Ad hr (by decide) rfl (@x8 _ _ _ _ _ (pv 0) (@x8 _ _ _ _ _ (w4 (zl) (w4 (Zo) z0 (w4 (xB) z0 z0)) z0) v3 (by rfl)) (by rfl))) (w4 (xB) z0 z0)) z0) (@x8 _ _ _ _ _ (w4 (qr (K:=K) rfl) z0 (u9 Ad hr (by decide) rfl (@x8 _ _ _ _ _ (pv 0) (@x8 _ _ _ _ _ (w4 (zl) (w4 (xB) z0 z0) z0) v3 (by rfl)) (by rfl)))) v3 (by rfl)) (by rfl)) (by rfl)) (by rfl)) (by rfl)))))))),
  (by repeat' first|infer_instance|(refine @Mi.instSemWSTSeqWSeq _ _ _ _ ?_ ?_)|(apply @Mi.instSemWSTForWForOfSemWIOfSemWG))⟩) DJ
structure Dr where
 h:Nat
 rss:List (List Int)
 cls:List Cl
 last:Int
 time:Int
variable{d:Dr}
def Dr.pv (d:Dr):PV:= .tup [k4 d.rss,.lst (d.cls.map Cl.pv),.at (.int d.last),.at (.int d.time)]
structure Dr.Ok (d:Dr):Prop where
 h1:1<=d.h
 h4:d.h<=4
 rin:qg d.h d.rss
 ten:d.cls.length<=10
 cl:∀ c∈d.cls,c.Ok d.h
 nd:(d.cls.map Cl.name).Nodup
 l1:-1<=d.last
 l2:d.last<d.h
 t1:0<=d.time
 t2:d.time<60*j7
def QN (K:Fg):List PV->Prop:=λxs=>∃(ns:List Int)(m:Nat),xs=[scr K ns,.at (.int m)]/\ns.length<=63/\m<=10
def wX:List PV->PV->Prop:=λxs y=>∃ d:Dr,y=d.pv/\d.Ok/\d.time<j7/\∃(s:PV)(m:Nat),xs=[s,.at (.int m)]/\d.cls.length<=m
abbrev Ws:Stmt:=y9 63
abbrev Uj (K:Fg):WS:=(wSeq (Ye 2 (jj K) xP (o5 (wP (q9 0)) (o5 (wP (dC (.int 0))) xO)))
  (wSeq (c8 3 (o9 p7 (wP (dC (.int 1))) (n5 2 (wP (dC (.int 4))))))
  (wSeq (c8 4 (n5 2 (wP (dC (.int 8)))))
  (wSeq (qX (qJ (dT (z6 pEq (x6 4) (dC (.int 7))))) (c8 4 (o9 p7 (wP (dC (.int 7))) (n5 2 (wP (dC (.int 4)))))) xm)
  (wSeq (c8 5 (o9 xH (n5 2 (wP (z6 p7 (x6 3) (dC (.int 1))))) (wP (dC (.int 1)))))
  (wSeq (c8 6 (n5 2 (o9 y6 (wP (n9 (q8 (dC (.int 1)) (q8 (dC (.int 50)) (q8 (z6 jf (dC (.int 10)) (dC (.int 30))) x0))))) (n5 2 (wP (dC (.int 3)))))))
  (wSeq (c8 7 (wL (jj K) xP (q8 (q9 0) (q8 (dC (.int 1)) x0)) wI wW (q8 (q9 3) x0)))
  (wSeq (wM 8 (n9 x0))
  (wSeq (wFor (wIp (zz (q8 (x9 QF (q8 (x6 4) (q8 (x6 1) x0))) x0))) (v7 9) (Xd 8 (wL (jj K) xP (q8 (q9 0) (q8 (z6 p7 (dC (.int 2)) (x6 9)) x0)) wG wS (q8 (zV [none] [0] (b7 (x6 8)) (v7 0) u5 (z6 y6 (x6 0) (dC (.int 0)))) (q8 (q9 3) x0)))))
  (wFz 8 (qY (wP (qR (q8 (q9 7) (q8 (q9 8) (q8 (q9 5) (q8 (q9 6) x0)))))))))))))))))
theorem sc_works:w5 ["script","most","stream","hues","many","last","time","rinses","cloths","k"] ["script","most"] (z9 Ws):=y7
theorem DI {K:Fg}:∀ xs,QN K xs->xs.length=(["script","most"]:List Str).length:=by rintro xs ⟨ns,m,rfl,_⟩;rfl
theorem MQ (cs:List Cl):qi (v7 0) u5 (z6 y6 (x6 0) (dC (.int 0))) [.no] (cs.map Cl.pv)=some (z8 (cs.map Cl.name)):=by
 induction cs with
 |nil=>rfl
 |cons c cs ih=>show Option.bind (some (PV.at (.str c.name))) (λy=>Option.bind (qi _ _ _ _ (cs.map Cl.pv)) λys=>some (y::ys))=_;rw [ih];rfl
theorem DP {K:Fg}:∀ xs,QN K xs->Uj K (xs.map .sh++List.replicate ((["script","most","stream","hues","many","last","time","rinses","cloths","k"]:List Str).length-xs.length) .no) (λ_=>False) λy _=>wX xs y:=by
 rintro xs ⟨ns,mo,rfl,h63,hmo⟩;have hB:=wQ;have hlim:lim=1000000:=rfl;refine ⟨_,rfl,_,rfl,⟨ns,0,rfl,h63,by decide,by decide⟩,?_⟩;rintro y ⟨n,rfl⟩
 -- hues
 refine ⟨_,rfl,⟨n,rfl⟩,_,rfl,n,4,rfl,rfl,⟨by decide,by decide⟩,_,rfl,?_⟩;have a0:0<=n % 4:=yw _ (by decide);have a1:n % 4<4:=yB _ (by decide);obtain ⟨h,hh⟩:=uL (show 0<=1+n % 4 by omega);generalize n / 4=n1;have hh1:1<=h:=by omega
 have hh4:h<=4:=by omega
 rw [hh];clear a0 a1 hh
 -- many
 refine ⟨⟨n1,rfl⟩,_,rfl,n1,8,rfl,rfl,⟨by decide,by decide⟩,?_⟩;have b0:0<=n1 % 8:=yw _ (by decide);have b1:n1 % 8<8:=yB _ (by decide);obtain ⟨q,hq⟩:=uL b0;rw [hq] at b1 ⊢;generalize n1 / 8=n2;have rest:∀(n2:Int)(q:Nat),q<=10->((wSeq (c8 5 (o9 xH (n5 2 (wP (z6 p7 (x6 3) (dC (.int 1))))) (wP (dC (.int 1)))))
  (wSeq (c8 6 (n5 2 (o9 y6 (wP (n9 (q8 (dC (.int 1)) (q8 (dC (.int 50)) (q8 (z6 jf (dC (.int 10)) (dC (.int 30))) x0))))) (n5 2 (wP (dC (.int 3)))))))
  (wSeq (c8 7 (wL (jj K) xP (q8 (q9 0) (q8 (dC (.int 1)) x0)) wI wW (q8 (q9 3) x0)))
  (wSeq (wM 8 (n9 x0))
  (wSeq (wFor (wIp (zz (q8 (x9 QF (q8 (x6 4) (q8 (x6 1) x0))) x0))) (v7 9) (Xd 8 (wL (jj K) xP (q8 (q9 0) (q8 (z6 p7 (dC (.int 2)) (x6 9)) x0)) wG wS (q8 (zV [none] [0] (b7 (x6 8)) (v7 0) u5 (z6 y6 (x6 0) (dC (.int 0)))) (q8 (q9 3) x0)))))
  (wFz 8 (qY (wP (qR (q8 (q9 7) (q8 (q9 8) (q8 (q9 5) (q8 (q9 6) x0))))))))))))):WS) [.sh (scr K ns),.sh (.at (.int (mo:Int))),k9 n2,.sh (.at (.int (h:Int))),.sh (.at (.int (q:Int))),.no,.no,.no,.no,.no] (λ_=>False) λy _=>wX [scr K ns,.at (.int mo)] y:=by
  clear b0 b1 hq q n2;intro n2 q hq10
  -- last
  refine ⟨⟨n2,rfl⟩,_,rfl,n2,(h:Int)+1,rfl,rfl,jt (by omega) (by omega),_,rfl,_,rfl,?_⟩;have c0:0<=n2 % ((h:Int)+1):=yw _ (by omega);have c1:n2 % ((h:Int)+1)<(h:Int)+1:=yB _ (by omega);generalize n2 % ((h:Int)+1)=la at c0 c1;generalize n2 / ((h:Int)+1)=n3
  -- time
  refine ⟨⟨n3,rfl⟩,_,zY (v4 rfl (v4 rfl (v4 (w6 rfl rfl vG) rfl))) (by decide),⟨n3,rfl⟩,_,rfl,n3,3,rfl,rfl,⟨by decide,by decide⟩,?_⟩;have d0:0<=n3 % 3:=yw _ (by decide);have d1:n3 % 3<3:=yB _ (by decide);have ixt:∃ k:Int,y6 (.lst [.at (.int 1),.at (.int 50),.at (.int j7)]) (.at (.int (n3 % 3)))=some (.at (.int k))/\0<k/\k<=j7:=by
   have c:n3 % 3=0∨n3 % 3=1∨n3 % 3=2:=by omega
   rcases c with e|e|e<;>rw [e]
   ·exact ⟨1,rfl,by decide,by omega⟩
   ·exact ⟨50,rfl,by decide,by omega⟩
   ·exact ⟨j7,rfl,Xg,Int.le_refl _⟩
  obtain ⟨k,ek,k0,k1⟩:=ixt;refine ⟨_,ek,n3 / 3,k,rfl,rfl,jt k0 (by omega),?_⟩;have t0:0<=n3 / 3 % k:=yw _ (by omega);have t1:n3 / 3 % k<k:=yB _ k0;generalize n3 / 3 % k=ti at t0 t1;generalize n3 / 3 / k=n4
  -- rinses
  refine ⟨_,_,rfl,rfl,⟨ns,1,rfl,h63,by decide,by decide⟩,λy hy=>hy,⟨h,rfl,hh1,hh4⟩,?_⟩;rintro y ⟨h',rss,e,rfl,hr⟩;have e':h'=h:=by injection e with e _;injection e with e;injection e with e;omega
  subst e'
  -- cloths
  refine ⟨_,rfl,?_⟩;have mn:zz (q8 (x9 QF (q8 (x6 4) (q8 (x6 1) x0))) x0) [.sh (scr K ns),.sh (.at (.int (mo:Int))),k9 n4,.sh (.at (.int (h':Int))),.sh (.at (.int (q:Int))),.sh (.at (.int (la-1))),.sh (.at (.int ti)),.sh (k4 rss),.ow (.lst []),.no]=some (qB 0 (min q mo)):=by refine ZE (v4 (j5 rfl ?_) rfl) (by omega);show some (PV.at (.int (if (mo:Int)<(q:Int) then (mo:Int) else (q:Int))))=_;rw [show (if (mo:Int)<(q:Int) then (mo:Int) else (q:Int))=((min q mo:Nat):Int) by split<;>omega]
  refine ⟨_,mn,?_⟩;refine JI (λrest ε=>∃(cs:List Cl)(s9:MSlot),ε=[.sh (scr K ns),.sh (.at (.int (mo:Int))),k9 n4,.sh (.at (.int (h':Int))),.sh (.at (.int (q:Int))),.sh (.at (.int (la-1))),.sh (.at (.int ti)),.sh (k4 rss),.ow (.lst (cs.map Cl.pv)),s9]/\(∃ m0:Nat,rest=(qB 0 (min q mo)).drop m0/\cs.length=m0/\m0<=min q mo)/\(∀ c∈cs,c.Ok h')/\(cs.map Cl.name).Nodup) ?_ ?_ _ _ ⟨[],_,rfl,⟨0,rfl,rfl,yo _⟩,(λ_ z=>nomatch z),uS⟩
  ·rintro ε ⟨cs,s9,rfl,⟨m0,e1,e2,e3⟩,g1,g2⟩;exact ⟨_,rfl,⟨h',rss,cs,la-1,ti⟩,rfl,⟨hh1,hh4,hr,(by show cs.length<=10;omega),g1,g2,(by show -1<=la-1;omega),(by show la-1<(h':Int);omega),t0,(by have:=Xg;show ti<60*j7;omega)⟩,(by show ti<j7;omega),_,mo,rfl,(by show cs.length<=mo;omega)⟩
  ·rintro x rest ε ⟨cs,s9,rfl,⟨m0,e1,e2,e3⟩,g1,g2⟩;have hm:m0<min q mo:=by
    have e5:(x::rest).length=((qB 0 (min q mo)).drop m0).length:=by rw [<- e1]
    rw [uH,jL,yS] at e5;omega
   have ex:x = .at (.int ((0:Int)+m0)):=by
    have q0:(qB 0 (min q mo))[m0]?=some x:=by
     have:((qB 0 (min q mo)).drop m0)[0]?=some x:=by rw [<- e1];rfl
     rw [ux] at this;simpa using this
    exact (KY q0).2
   have er:rest=(qB 0 (min q mo)).drop (m0+1):=by
    have:((qB 0 (min q mo)).drop m0).tail=rest:=by rw [<- e1];rfl
    rw [<- this,List.tail_drop]
   subst ex;refine ⟨_,rfl,⟨_,rfl⟩,?_⟩;refine ⟨[scr K ns,.at (.int (2+(0+(m0:Int))))],[.lst (z8 (cs.map Cl.name)),.at (.int (h':Int))],rfl,?_,⟨ns,2+(0+(m0:Int)),rfl,h63,by omega,by omega⟩,λy hy=>hy,⟨cs.map Cl.name,h',rfl,by rw [yZ];omega,?_,hh1,hh4⟩,?_⟩
   ·refine v4 (x:= .lst (z8 (cs.map Cl.name))) ?_ rfl;show Option.bind (some (cs.map Cl.pv)) (λxs=>if ze [none] [0]=true/\xs.length<=lim then (qi _ _ _ _ xs).bind λys=>some (PV.lst ys) else none)=_;rw [yE,if_pos ⟨rfl,by rw [yZ];omega⟩];show (qi (v7 0) u5 (z6 y6 (x6 0) (dC (.int 0))) [.no] (cs.map Cl.pv)).bind _=_;rw [MQ];rfl
   ·intro s hs;obtain ⟨c,hc,rfl⟩:=yx.mp hs;exact (g1 c hc).nm
   ·rintro y ⟨ss,h2,c,e6,rfl,ok,hn⟩;injection e6 with e6 e7;injection e6 with e6;injection e7 with e7 _;injection e7 with e7;injection e7 with e7;have e8:=Bu e6;have e9:h'=h2:=by omega
    subst e8 e9;refine ⟨_,rfl,by rw [yZ];omega,cs++[c],.sh (.at (.int (0+(m0:Int)))),?_,⟨m0+1,er,by rw [yH];simp;omega,hm⟩,?_,?_⟩
    ·show [MSlot.sh (scr K ns),_,_,_,_,_,_,_,.ow (.lst (cs.map Cl.pv++[c.pv])),_]=_;rw [yu];rfl
    ·intro d hd;rcases ym.mp hd with hd|hd
     ·exact g1 d hd
     ·rw [yC.mp hd];exact ok
    ·rw [yu];refine List.nodup_append.mpr ⟨g2,(yh.mpr ⟨by simp,uS⟩),λa ha b hb=>?_⟩;rw [yC.mp hb];exact λe=>hn (e▸ha)
 by_cases h7:q=7
 ·subst h7;refine ZS (m3 (v:=true) rfl) ?_;have d0:0<=n2 % 4:=yw _ (by decide);have d1:n2 % 4<4:=yB _ (by decide);refine ⟨_,rfl,⟨n2,rfl⟩,_,rfl,n2,4,rfl,rfl,⟨by decide,by decide⟩,_,rfl,?_⟩;obtain ⟨q,hq⟩:=uL (show 0<=7+n2 % 4 by omega);rw [hq];exact rest _ q (by omega)
 ·refine wO (m3 (v:=false) ?_) (rest _ q (by omega));show some (PV.at (.bl (decide ((q:Int)=7))))=_;rw [yO (by omega)]
theorem Nb (F:Fun K "_law_works" "_law_works" Ws f fd)(Ia:Fn P w K mg base 3 "_law_cloth" ["stream","names","hues"] (spD wG wS))(Em:Fn P w K mg base 3 "_law_rinses" ["stream","hues"] (spD wI wW))(A0:Fn P w K mg base 2 "_law_stream" ["script","k"] (spN (jj K) xP))(Ad:Fn P w K mg base 1 "_law_take" ["stream","many"] jN)(Iw:mg "min"=none)(Af:mg "range"=none):FnOk P w K mg base v5 4 f fd ["script","most"] (spV (QN K) wX) :=
 okV (k:=3) (b:=Uj K) F sc_works DI (λcdv A outer s H E hr=>⟨_,(@j8 _ _ _ _ _ (@p9 _ _ 2 _ _ _ _ sc_works.nd rfl (Or.inl rfl) (u9 A0 hr (by decide) rfl (@x8 _ _ _ _ _ (pv 0) (@x8 _ _ _ _ _ z0 v3 (by rfl)) (by rfl))) (by rfl) (.inl rfl))
  (@j8 _ _ _ _ _ (@p9 _ _ 3 _ _ _ _ sc_works.nd rfl (Or.inl rfl) (w4 (qr (K:=K) rfl) z0 (u9 Ad hr (by decide) rfl (@x8 _ _ _ _ _ (pv 2) (@x8 _ _ _ _ _ z0 v3 (by rfl)) (by rfl)))) (by rfl) (.inl rfl))
  (@j8 _ _ _ _ _ (@p9 _ _ 4 _ _ _ _ sc_works.nd rfl (Or.inl rfl) (u9 Ad hr (by decide) rfl (@x8 _ _ _ _ _ (pv 2) (@x8 _ _ _ _ _ z0 v3 (by rfl)) (by rfl))) (by rfl) (.inl rfl))
  (@j8 _ _ _ _ _ (m7 (i7 (vz (K:=K) (hu6 hr) rfl) (pv 4) z0 (m6 _)) (@j6 _ _ _ (@p9 _ _ 4 _ _ _ _ sc_works.nd rfl (Or.inl rfl) (w4 (qr (K:=K) rfl) z0 (u9 Ad hr (by decide) rfl (@x8 _ _ _ _ _ (pv 2) (@x8 _ _ _ _ _ z0 v3 (by rfl)) (by rfl)))) (by rfl) (.inl rfl))) m8)
  (@j8 _ _ _ _ _ (@p9 _ _ 5 _ _ _ _ sc_works.nd rfl (Or.inl rfl) (w4 (zl) (u9 Ad hr (by decide) rfl (@x8 _ _ _ _ _ (pv 2) (@x8 _ _ _ _ _ (w4 (qr (K:=K) rfl) (pv 3) z0) v3 (by rfl)) (by rfl))) z0) (by rfl) (.inl rfl))
  (@j8 _ _ _ _ _ (@p9 _ _ 6 _ _ _ _ sc_works.nd rfl (Or.inl rfl) (u9 Ad hr (by decide) rfl (@x8 _ _ _ _ _ (pv 2) (@x8 _ _ _ _ _ (iW (K:=K) rfl (@qL _ _ _ _ (@x8 _ _ _ _ _ z0 (@x8 _ _ _ _ _ z0 (@x8 _ _ _ _ _ (w4 (xB) z0 z0) v3 (by rfl)) (by rfl)) (by rfl))) (u9 Ad hr (by decide) rfl (@x8 _ _ _ _ _ (pv 2) (@x8 _ _ _ _ _ z0 v3 (by rfl)) (by rfl)))) v3 (by rfl)) (by rfl))) (by rfl) (.inl rfl))
  (@j8 _ _ _ _ _ (@p9 _ _ 7 _ _ _ _ sc_works.nd rfl (Or.inl rfl) (u9 Em hr (by decide) rfl (@x8 _ _ _ _ _ (u9 A0 hr (by decide) rfl (@x8 _ _ _ _ _ (pv 0) (@x8 _ _ _ _ _ z0 v3 (by rfl)) (by rfl))) (@x8 _ _ _ _ _ (pv 3) v3 (by rfl)) (by rfl))) (by rfl) (.inl rfl))
  (@j8 _ _ _ _ _ (@p9 _ _ 8 _ _ _ _ sc_works.nd rfl (Or.inl rfl) (@qL _ _ _ _ v3) (by rfl) (.inl rfl))
  (@j8 _ _ _ _ _ (jJ PassesOwn.never rfl (wE rfl Af (@x8 _ _ _ _ _ (p5 (Cp rfl) rfl Iw PU (@x8 _ _ _ _ _ (pv 4) (@x8 _ _ _ _ _ (pv 1) v3 (by rfl)) (by rfl))) v3 (by rfl))) (k8 (i:=9) sc_works.nd rfl (Or.inl rfl))
   (@j6 _ _ _ (jI (qU (K:=K) rfl PySem.F.plainAttrs_list PySem.F.slot_list_append PySem.F.type_list_append JR (pv 8) (x8 (u9 Ia hr (by decide) rfl (@x8 _ _ _ _ _ (u9 A0 hr (by decide) rfl (@x8 _ _ _ _ _ (pv 0) (@x8 _ _ _ _ _ (w4 (qr (K:=K) rfl) z0 (pv 9)) v3 (by rfl)) (by rfl))) (@x8 _ _ _ _ _ (i6 (N':=["cloth"]) (cap:=[none]) (m5 rfl rfl rfl) rfl (@qb _ K _ _ _ rfl (pv 8)) (λ_ _ _ _ _ _=>(k8 (i:=0) (by show (["cloth"]:List Str).Nodup;decide +kernel) rfl (Or.inl rfl))) (λ_ _ _ _ _ _=>m9) (λ_ _ _ _ _ _=>(iW (K:=K) rfl (pv 0) z0))) (@x8 _ _ _ _ _ (pv 3) v3 (by rfl)) (by rfl)) (by rfl))) v3)))))
  (@j6 _ _ _ (w9 (@zn _ _ _ _ _ (@x8 _ _ _ _ _ (pv 7) (@x8 _ _ _ _ _ (pv 8) (@x8 _ _ _ _ _ (pv 5) (@x8 _ _ _ _ _ (pv 6) v3 (by rfl)) (by rfl)) (by rfl)) (by rfl)))))))))))))),
  (by repeat' first|infer_instance|(refine @Mi.instSemWSTSeqWSeq _ _ _ _ ?_ ?_)|(apply @Mi.instSemWSTForWForOfSemWIOfSemWG))⟩) DP
def qw (cs:List Cl):List PV:=cs.map Cl.pv
theorem ju (cs:List Cl):(qw cs).length=cs.length:=yZ _
def wH:List PV->Prop:=λxs=>∃ ss:List Cl,xs=[.lst (qw ss)]/\ss.length<=10
def wU:List PV->PV->Prop:=λxs y=>∃ ss os:List Cl,xs=[.lst (qw ss)]/\y = .lst (qw os)/\os.Perm ss
abbrev Wb:Stmt:=y9 64
abbrev YU (K:Fg):WS:=(wSeq (wM 2 (x9 wC (q8 (x6 1) x0)))
  (wSeq (wM 3 (n9 x0))
  (wSeq (wN (qJ (dT (z6 qt (x6 2) (n9 x0)))) (Xd 3 (wPop 2 (n5 0 (wP (x9 qf (q8 (x6 2) x0)))))) 11)
  (wFz 3 (qY (wP (q9 3)))))))
theorem sc_order:w5 ["stream","names","left","found"] ["stream","names"] (z9 Wb):=y7
theorem DF:∀ xs,wH xs->xs.length+1=(["stream","names"]:List Str).length:=by rintro xs ⟨ss,rfl,_⟩;rfl
theorem Ga {α β:Type}(f:α->β):∀(l:List α)(i:Nat),(l.map f).eraseIdx i=(l.eraseIdx i).map f
 |[],_=>rfl
 |_::_,0=>rfl
 |x::l,i+1=>by simp [Ga f l i]
theorem MT (ss:List Cl):qt (.lst (qw ss)) (.lst [])=some (.at (.bl (!ss.isEmpty))):=by
 cases ss with
 |nil=>rfl
 |cons s ss=>rfl
theorem Ki {α:Type}:∀{ss:List α}{j:Nat}(h:j<ss.length),(ss[j]::ss.eraseIdx j).Perm ss
 |x::ss,0,_=>List.Perm.refl _
 |x::ss,j+1,h=>by
  have hj:j<ss.length:=by simpa using h
  have ih:=Ki hj;show (ss[j]::x::ss.eraseIdx j).Perm (x::ss);exact (List.Perm.swap _ _ _).trans (ih.cons x)
theorem DM {K:Fg}:∀ xs n,wH xs->YU K (k9 n::xs.map .sh++List.replicate ((["stream","names","left","found"]:List Str).length-(xs.length+1)) .no) (λ_=>False) λy ε=>wU xs y/\zt 0 ε:=by
 rintro xs n ⟨ss,rfl,h10⟩;have hlim:lim=1000000:=rfl;have hB:=wQ;refine ⟨_,rfl,_,rfl,?_⟩;refine Pg (λm ε=>∃(k:Int)(left found:List Cl),ε=[k9 k,.sh (.lst (qw ss)),.ow (.lst (qw left)),.ow (.lst (qw found))]/\left.length=m/\(found++left).Perm ss) ?_ 11 ss.length _ ⟨n,ss,[],rfl,rfl,List.Perm.refl _⟩ (by omega);rintro m ε ⟨k,left,found,rfl,hl,hp⟩;refine ⟨!left.isEmpty,m3 (w6 rfl rfl (MT left)),?_⟩;have hlen:=hp.length_eq;rw [yH] at hlen;cases left with
 |nil =>
  show if false=true then _ else _
  rw [if_neg yU];rw [yA] at hp;exact ⟨_,rfl,⟨ss,found,rfl,rfl,hp⟩,_,rfl⟩
 |cons s0 r0 =>
  show if true=true then _ else _
  rw [if_pos rfl];generalize hL:s0::r0=left at hl hp hlen ⊢;have hpos:0<left.length:=by rw [<- hL];simp
  have c0:0<=k % (((qw left).length:Nat):Int):=yw _ (by rw [ju];omega);have c1:k % (((qw left).length:Nat):Int)<(((qw left).length:Nat):Int):=yB _ (by rw [ju];omega);refine ⟨m-1,by omega,⟨_,rfl⟩,⟨_,rfl⟩,⟨k,rfl⟩,_,rfl,k,(((qw left).length:Nat):Int),rfl,rfl,jt (by rw [ju];omega) (by rw [ju];omega),?_⟩;generalize hj:k % (((qw left).length:Nat):Int)=j at c0 c1;rw [ju] at c1;have hjl:j.toNat<left.length:=by omega
  refine ⟨qw left,j,(left[j.toNat]).pv,rfl,rfl,c0,by rw [ju];exact c1,by rw [ju];omega,?_,qw found,rfl,by rw [ju];omega,?_⟩
  ·unfold qw;rw [yM,yL hjl];rfl
  ·refine ⟨k / (((qw left).length:Nat):Int),left.eraseIdx j.toNat,found++[left[j.toNat]],?_,by rw [List.length_eraseIdx_of_lt hjl];omega,?_⟩
   ·show [k9 _,MSlot.sh (.lst (qw ss)),MSlot.ow (.lst ((qw left).eraseIdx j.toNat)),MSlot.ow (.lst (qw found++[(left[j.toNat]).pv]))]=_;unfold qw;rw [Ga,yu];rfl
   ·rw [uZ];exact ((Ki hjl).append_left found).trans hp
theorem LI (F:Fun K "_law_order" "_law_order" Wb f fd)(Ad:Fn P w K mg base 1 "_law_take" ["stream","many"] jN)(Ac:mg "len"=none)(Aj:mg "list"=none):FnOk P w K mg base v5 2 f fd ["stream","names"] (spD wH wU) :=
 okD (k:=1) (b:=YU K) F sc_order DF (λcdv A outer s H E hr=>⟨_,(@j8 _ _ _ _ _ (@p9 _ _ 2 _ _ _ _ sc_order.nd rfl (Or.inl rfl) (xJ (Ja (K:=K) rfl) rfl Aj jV (@x8 _ _ _ _ _ (pv 1) v3 (by rfl))) (by rfl) (.inl rfl))
  (@j8 _ _ _ _ _ (@p9 _ _ 3 _ _ _ _ sc_order.nd rfl (Or.inl rfl) (@qL _ _ _ _ v3) (by rfl) (.inl rfl))
  (@j8 _ _ _ _ _ (NX PassesOwn.never (i7 (xW (K:=K) (hu6 hr) rfl) (pv 2) (@qL _ _ _ _ v3) (m6 _))
   (@j6 _ _ _ (jI (qU (K:=K) rfl PySem.F.plainAttrs_list PySem.F.slot_list_append PySem.F.type_list_append JR (pv 3) (x8 (qU (K:=K) rfl PySem.F.plainAttrs_list PySem.F.slot_list_pop PySem.F.type_list_pop MP (pv 2) (x8 (u9 Ad hr (by decide) rfl (@x8 _ _ _ _ _ (pv 0) (@x8 _ _ _ _ _ (p5 (xx (K:=K) rfl) rfl Ac PySem.boot_len (@x8 _ _ _ _ _ (pv 2) v3 (by rfl))) v3 (by rfl)) (by rfl))) v3)) v3)))))
  (@j6 _ _ _ (w9 (pv 3)))))),
  (by repeat' first|infer_instance|(refine @Mi.instSemWSTSeqWSeq _ _ _ _ ?_ ?_)|(apply @Mi.instSemWSTForWForOfSemWIOfSemWG))⟩) DM
abbrev VQ:Stmt:=y9 14
abbrev YJ:MS:=(u7 (zf (x9 qm (q8 (x6 0) (q8 (dC (.ty "int")) x0))) (wb (x9 qm (q8 (x6 0) (q8 (dC (.ty "bool")) x0))))))
def jD:List PV->Option PV:=p8 1 1 YJ
theorem HV:w5 ["thing"] ["thing"] (z9 VQ):=y7
theorem Lv (F:Fun K "is_whole" "is_whole" VQ f fd)(Io:mg "bool"=none)(Ez:mg "int"=none)(Ab:mg "isinstance"=none):FnOk P w K mg base v5 1 f fd ["thing"] (v8 jD) :=
 i5 (k:=0) (b:=YJ) F HV rfl λcdv A outer s H E hr=>⟨_,(j6 (w9 (vD (p5 (zS (K:=K) rfl) rfl Ab zx (aC (pv 0) (aW (jg (v:= .ty "int") rfl Ez Ux rfl)))) (vF (Kg (p5 (zS (K:=K) rfl) rfl Ab zx (aC (pv 0) (aW (jg (v:= .ty "bool") rfl Io PP rfl))))))))),
  inferInstance⟩
abbrev VZ:Stmt:=y9 28
abbrev YS:MS:=(u7 (z6 y6 (x6 0) (dC (.int 0))))
def jd:List PV->Option PV:=p8 1 1 YS
theorem Rb:w5 ["cloth"] ["cloth"] (z9 VZ):=y7
theorem LG (F:Fun K "name_of" "name_of" VZ f fd):FnOk P w K mg base v5 1 f fd ["cloth"] (v8 jd) :=
 i5 (k:=0) (b:=YS) F Rb rfl λcdv A outer s H E hr=>⟨_,(j6 (w9 (iW (K:=K) rfl (pv 0) z0))),
  inferInstance⟩
abbrev VJ:Stmt:=y9 29
abbrev YD:MS:=(u7 (z6 y6 (x6 0) (dC (.int 1))))
def Za:List PV->Option PV:=p8 1 1 YD
theorem HP:w5 ["cloth"] ["cloth"] (z9 VJ):=y7
theorem Ln (F:Fun K "hue_of" "hue_of" VJ f fd):FnOk P w K mg base v5 1 f fd ["cloth"] (v8 Za) :=
 i5 (k:=0) (b:=YD) F HP rfl λcdv A outer s H E hr=>⟨_,(j6 (w9 (iW (K:=K) rfl (pv 0) z0))),
  inferInstance⟩
abbrev VU:Stmt:=y9 30
abbrev YO:MS:=(u7 (z6 y6 (x6 0) (dC (.int 2))))
def JL:List PV->Option PV:=p8 1 1 YO
theorem HY:w5 ["cloth"] ["cloth"] (z9 VU):=y7
theorem LB (F:Fun K "length_of" "length_of" VU f fd):FnOk P w K mg base v5 1 f fd ["cloth"] (v8 JL) :=
 i5 (k:=0) (b:=YO) F HY rfl λcdv A outer s H E hr=>⟨_,(j6 (w9 (iW (K:=K) rfl (pv 0) z0))),
  inferInstance⟩
abbrev VI:Stmt:=y9 31
abbrev YC:MS:=(u7 (z6 y6 (x6 0) (dC (.int 3))))
def JK:List PV->Option PV:=p8 1 1 YC
theorem HN:w5 ["cloth"] ["cloth"] (z9 VI):=y7
theorem Lm (F:Fun K "due_of" "due_of" VI f fd):FnOk P w K mg base v5 1 f fd ["cloth"] (v8 JK) :=
 i5 (k:=0) (b:=YC) F HN rfl λcdv A outer s H E hr=>⟨_,(j6 (w9 (iW (K:=K) rfl (pv 0) z0))),
  inferInstance⟩
abbrev Wo:Stmt:=y9 32
abbrev Uf:MS:=(u7 (z6 y6 (x6 0) (dC (.int 4))))
def JM:List PV->Option PV:=p8 1 1 Uf
theorem Rj:w5 ["cloth"] ["cloth"] (z9 Wo):=y7
theorem LW (F:Fun K "weight_of" "weight_of" Wo f fd):FnOk P w K mg base v5 1 f fd ["cloth"] (v8 JM) :=
 i5 (k:=0) (b:=Uf) F Rj rfl λcdv A outer s H E hr=>⟨_,(j6 (w9 (iW (K:=K) rfl (pv 0) z0))),
  inferInstance⟩
abbrev VM:Stmt:=y9 33
abbrev YF:MS:=(u7 (zf (x9 jD (q8 (q9 0) x0)) (z6 pGe (x6 0) (x6 1))))
def zE:List PV->Option PV:=p8 2 2 YF
theorem HR:w5 ["thing","least"] ["thing","least"] (z9 VM):=y7
theorem Lq (F:Fun K "is_from" "is_from" VM f fd)(An:Fn P w K mg base 1 "is_whole" ["thing"] (v8 jD)):FnOk P w K mg base v5 2 f fd ["thing","least"] (v8 zE) :=
 i5 (k:=1) (b:=YF) F HR rfl λcdv A outer s H E hr=>⟨_,(j6 (w9 (vD (fW An hr (aW (pv 0))) (vF (vE (Zm) (pv 0) (pv 1) (m6 _)))))),
  inferInstance⟩
abbrev VN:Stmt:=y9 13
abbrev YG:MS:=(y0 (o3 (qE (c9 (r9 (x9 qm (q8 (x6 0) (q8 (dC (.ty "str")) x0))))) (c9 (dT (zg pLe pLe (dC (.int 1)) (x9 qf (q8 (x6 0) x0)) (dC (.int 8)))))) (u7 (dC (.bl false))) o7)
  (u7 (x9 xG (q8 (k6 [none] [0] (jY (q9 0)) (v7 0) u5 (zg jF jF (dC (.str "a")) (x6 0) (dC (.str "z")))) x0))))
def Zc:List PV->Option PV:=p8 1 1 YG
theorem HS:w5 ["thing"] ["thing"] (z9 VN):=y7
theorem Lr (F:Fun K "is_name" "is_name" VN f fd)(As:mg "all"=none)(Ab:mg "isinstance"=none)(Ac:mg "len"=none)(Az:mg "str"=none)(A5:mg "LONGEST_NAME"=some (.int 8 A6)):FnOk P w K mg base v5 1 f fd ["thing"] (v8 Zc) :=
 i5 (k:=0) (b:=YG) F HS rfl λcdv A outer s H E hr=>⟨_,(j8 (m7 (PW.pt (xZ (qu (qG (K:=K) rfl (p5 (zS (K:=K) rfl) rfl Ab zx (aC (pv 0) (aW (jg (v:= .ty "str") rfl Az jr rfl)))) (λ_=>rfl))) (zI (qu (Vk (wA) (wA) z0 (p5 (xx (K:=K) rfl) rfl Ac PySem.boot_len (aW (pv 0))) (wD (v:= .int 8) rfl A5 ⟨_,rfl⟩)))))) (j6 (w9 zm)) m8)
  (j6 (w9 (p5 (jW (K:=K) rfl rfl) rfl As jU (aW (i6 (N':=["sign"]) (cap:=[none]) (m5 rfl rfl rfl) rfl (Vf (pv 0)) (λ_ _ _ _ _ _=>(k8 (i:=0) (by show (["sign"]:List Str).Nodup;decide +kernel) rfl (Or.inl rfl))) (λ_ _ _ _ _ _=>m9) (λ_ _ _ _ _ _=>(GZ (Zn) (Zn) n6 (pv 0) n6)))))))),
  inferInstance⟩
abbrev VL:Stmt:=y9 34
abbrev YE:MS:=(y0 (o3 (qE (c9 (r9 (x9 qm (q8 (x6 0) (q8 (dC (.ty "tuple")) x0))))) (dT (z6 qt (x9 qf (q8 (x6 0) x0)) (dC (.int 5))))) (u7 (dC (.bl false))) o7)
  (y0 (o3 (qE (c9 (r9 (x9 Zc (q8 (x9 jd (q8 (q9 0) x0)) x0)))) (qE (c9 (r9 (x9 zE (q8 (x9 Za (q8 (q9 0) x0)) (q8 (dC (.int 0)) x0))))) (dT (z6 pGe (x9 Za (q8 (q9 0) x0)) (x6 1))))) (u7 (dC (.bl false))) o7)
  (u7 (zf (x9 zE (q8 (x9 JL (q8 (q9 0) x0)) (q8 (dC (.int 1)) x0))) (zf (x9 jD (q8 (x9 JK (q8 (q9 0) x0)) x0)) (x9 zE (q8 (x9 JM (q8 (q9 0) x0)) (q8 (dC (.int 1)) x0))))))))
def Zb:List PV->Option PV:=p8 2 2 YE
theorem HQ:w5 ["thing","hues"] ["thing","hues"] (z9 VL):=y7
theorem Lp (F:Fun K "is_cloth" "is_cloth" VL f fd)(Ev:Fn P w K mg base 1 "due_of" ["cloth"] (v8 JK))(Ei:Fn P w K mg base 1 "hue_of" ["cloth"] (v8 Za))(Ar:Fn P w K mg base 2 "is_from" ["thing","least"] (v8 zE))(Ej:Fn P w K mg base 1 "is_name" ["thing"] (v8 Zc))(An:Fn P w K mg base 1 "is_whole" ["thing"] (v8 jD))(D7:Fn P w K mg base 1 "length_of" ["cloth"] (v8 JL))(Aq:Fn P w K mg base 1 "name_of" ["cloth"] (v8 jd))(D8:Fn P w K mg base 1 "weight_of" ["cloth"] (v8 JM))(Ab:mg "isinstance"=none)(Ac:mg "len"=none)(Ed:mg "tuple"=none)(E7:mg "PARTS"=some (.int 5 E4)):FnOk P w K mg base v5 3 f fd ["thing","hues"] (v8 Zb) :=
 i5 (k:=2) (b:=YE) F HQ rfl λcdv A outer s H E hr=>⟨_,(j8 (m7 (PW.pt (xZ (qu (qG (K:=K) rfl (p5 (zS (K:=K) rfl) rfl Ab zx (aC (pv 0) (aW (jg (v:= .ty "tuple") rfl Ed Uy rfl)))) (λ_=>rfl))) (zI (i7 (xW (K:=K) (hu6 hr) rfl) (p5 (xx (K:=K) rfl) rfl Ac PySem.boot_len (aW (pv 0))) (wD (v:= .int 5) rfl E7 ⟨_,rfl⟩) (m6 _))))) (j6 (w9 zm)) m8)
  (j8 (m7 (PW.pt (xZ (qu (qG (K:=K) rfl (fW Ej hr (aW (fW Aq hr (aW (pv 0))))) (λ_=>rfl))) (xZ (qu (qG (K:=K) rfl (fW Ar hr (aC (fW Ei hr (aW (pv 0))) (aW z0))) (λ_=>rfl))) (zI (i7 (Zm) (fW Ei hr (aW (pv 0))) (pv 1) (m6 _)))))) (j6 (w9 zm)) m8)
  (j6 (w9 (vD (fW Ar hr (aC (fW D7 hr (aW (pv 0))) (aW z0))) (vD (fW An hr (aW (fW Ev hr (aW (pv 0))))) (vF (fW Ar hr (aC (fW D8 hr (aW (pv 0))) (aW z0)))))))))),
  inferInstance⟩
abbrev VP:Stmt:=y9 17
abbrev YI:MS:=(y0 (o3 (qE (c9 (r9 (x9 qm (q8 (x6 0) (q8 (dC (.ty "list")) x0))))) (dT (z6 qt (x9 qf (q8 (x6 0) x0)) (x6 1)))) (u7 (dC (.bl false))) o7)
  (u7 (x9 xG (q8 (k6 [none] [0] (b7 (q9 0)) (v7 0) u5 (zf (x9 jD (q8 (q9 0) x0)) (z6 pGe (x6 0) (dC (.int 0))))) x0))))
def Qx:List PV->Option PV:=p8 2 2 YI
theorem HU:w5 ["row","hues"] ["row","hues"] (z9 VP):=y7
theorem Lu (F:Fun K "is_rinse_row" "is_rinse_row" VP f fd)(An:Fn P w K mg base 1 "is_whole" ["thing"] (v8 jD))(As:mg "all"=none)(Ab:mg "isinstance"=none)(Ac:mg "len"=none)(Aj:mg "list"=none):FnOk P w K mg base v5 2 f fd ["row","hues"] (v8 Qx) :=
 i5 (k:=1) (b:=YI) F HU rfl λcdv A outer s H E hr=>⟨_,(j8 (m7 (PW.pt (xZ (qu (qG (K:=K) rfl (p5 (zS (K:=K) rfl) rfl Ab zx (aC (pv 0) (aW (jg (v:= .ty "list") rfl Aj jV rfl)))) (λ_=>rfl))) (zI (i7 (xW (K:=K) (hu6 hr) rfl) (p5 (xx (K:=K) rfl) rfl Ac PySem.boot_len (aW (pv 0))) (pv 1) (m6 _))))) (j6 (w9 zm)) m8)
  (j6 (w9 (p5 (jW (K:=K) rfl rfl) rfl As jU (aW (i6 (N':=["number"]) (cap:=[none]) (m5 rfl rfl rfl) rfl (@qb _ K _ _ _ rfl (pv 0)) (λ_ _ _ _ _ _=>(k8 (i:=0) (by show (["number"]:List Str).Nodup;decide +kernel) rfl (Or.inl rfl))) (λ_ _ _ _ _ _=>m9) (λ_ _ _ _ _ _=>(vD (fW An hr (aW (pv 0))) (vF (vE (Zm) (pv 0) z0 (m6 _))))))))))),
  inferInstance⟩
abbrev VF:Stmt:=y9 18
abbrev Yz:MS:=(y0 (o3 (c9 (r9 (x9 qm (q8 (x6 0) (q8 (dC (.ty "list")) x0))))) xf o7)
  (y0 (o6 1 (z6 xH (x9 qf (q8 (x6 0) x0)) (dC (.int 1))))
  (y0 (o3 (c9 (dT (zg pLe pLe (dC (.int 1)) (x6 1) (dC (.int 4))))) xf o7)
  (o3 (c9 (r9 (x9 xG (q8 (k6 [none,some 1] [0] (b7 (q9 0)) (v7 0) u5 (x9 Qx (q8 (q9 0) (q8 (q9 1) x0)))) x0)))) xf o7))))
def wq:List PV->Option PV:=p8 2 1 Yz
theorem sc_check_rinses:w5 ["rinses","hues"] ["rinses"] (z9 VF):=y7
theorem Lj (F:Fun K "check_rinses" "check_rinses" VF f fd)(B0:Fn P w K mg base 2 "is_rinse_row" ["row","hues"] (v8 Qx))(As:mg "all"=none)(Ab:mg "isinstance"=none)(Ac:mg "len"=none)(Aj:mg "list"=none)(D5:mg "MOST_HUES"=some (.int 4 Ec)):FnOk P w K mg base v5 3 f fd ["rinses"] (v8 wq) :=
 i5 (k:=2) (b:=Yz) F sc_check_rinses rfl λcdv A outer s H E hr=>⟨_,(j8 (m7 (qu (qG (K:=K) rfl (p5 (zS (K:=K) rfl) rfl Ab zx (aC (pv 0) (aW (jg (v:= .ty "list") rfl Aj jV rfl)))) (λ_=>rfl))) (j6 xX) m8)
  (j8 (sW 1 sc_check_rinses.nd (w4 (zl) (p5 (xx (K:=K) rfl) rfl Ac PySem.boot_len (aW (pv 0))) z0))
  (j8 (m7 (qu (Vk (wA) (wA) z0 (pv 1) (wD (v:= .int 4) rfl D5 ⟨_,rfl⟩))) (j6 xX) m8)
  (j6 (m7 (qu (qG (K:=K) rfl (p5 (jW (K:=K) rfl rfl) rfl As jU (aW (i6 (N':=["row","hues"]) (cap:=[none,some 1]) (m5 rfl rfl rfl) rfl (@qb _ K _ _ _ rfl (pv 0)) (λ_ _ _ _ _ _=>(k8 (i:=0) (by show (["row","hues"]:List Str).Nodup;decide +kernel) rfl (Or.inl rfl))) (λ_ _ _ _ _ _=>m9) (λ_ _ _ _ _ _=>(fW B0 hr (aC (pv 0) (aW (pv 1)))))))) (λ_=>rfl))) (j6 xX) m8))))),
  inferInstance⟩
abbrev Wi:Stmt:=y9 19
abbrev Ub:MS:=(u7 (k6 [none,none] [0,1] (Jg (q8 (q9 0) x0)) (jc 2 (xh (v7 0) (xh (v7 1) jb))) u5 (qR (q8 (q9 1) (q8 (n9 (q8 (q9 0) x0)) x0)))))
def QA:List PV->Option PV:=xE 1 1 Ub
theorem Rg:w5 ["row"] ["row"] (z9 Wi):=y7
theorem LP (F:Fun K "straight_ways" "straight_ways" Wi f fd)(D9:mg "enumerate"=none):FnOk P w K mg base v5 1 f fd ["row"] (i8 QA) :=
 okO (k:=0) (b:=Ub) F Rg rfl λcdv A outer s H E hr=>⟨_,(j6 (w9 (i6 (N':=["hue","number"]) (cap:=[none,none]) (m5 rfl rfl rfl) rfl (NG (K:=K) rfl rfl D9 (aW (pv 0))) (λ_ _ _ _ _ _=>(Vd (K:=K) (n:=2) rfl rfl (jG (k8 (i:=0) (by show (["hue","number"]:List Str).Nodup;decide +kernel) rfl (Or.inl rfl)) (jG (k8 (i:=1) (by show (["hue","number"]:List Str).Nodup;decide +kernel) rfl (Or.inl rfl)) Ve)))) (λ_ _ _ _ _ _=>m9) (λ_ _ _ _ _ _=>(@zn _ _ _ _ _ (aC (pv 1) (aW (@qL _ _ _ _ (aW (pv 0)))))))))),
  inferInstance⟩
abbrev VR:Stmt:=y9 20
abbrev YK:MS:=(u7 (qR (q8 (z6 p7 (z6 y6 (x6 0) (dC (.int 0))) (z6 y6 (x6 1) (dC (.int 0)))) (q8 (z6 p7 (z6 y6 (x6 0) (dC (.int 1))) (z6 y6 (x6 1) (dC (.int 1)))) x0))))
def Qy:List PV->Option PV:=p8 2 2 YK
theorem HW:w5 ["way","onward"] ["way","onward"] (z9 VR):=y7
theorem Lx (F:Fun K "joined" "joined" VR f fd):FnOk P w K mg base v5 1 f fd ["way","onward"] (v8 Qy) :=
 i5 (k:=0) (b:=YK) F HW rfl λcdv A outer s H E hr=>⟨_,(j6 (w9 (@zn _ _ _ _ _ (aC (w4 (qr (K:=K) rfl) (iW (K:=K) rfl (pv 0) z0) (iW (K:=K) rfl (pv 1) z0)) (aW (w4 (qr (K:=K) rfl) (iW (K:=K) rfl (pv 0) z0) (iW (K:=K) rfl (pv 1) z0))))))),
  inferInstance⟩
abbrev VV:Stmt:=y9 21
abbrev YQ:MS:=(u7 (dIf (dT (z6 pLt (z6 y6 (x6 1) (dC (.int 0))) (z6 y6 (x6 0) (dC (.int 0))))) (q9 1) (q9 0)))
def Qz:List PV->Option PV:=p8 2 2 YQ
theorem HZ:w5 ["way","other"] ["way","other"] (z9 VV):=y7
theorem LC (F:Fun K "lesser" "lesser" VV f fd):FnOk P w K mg base v5 1 f fd ["way","other"] (v8 Qz) :=
 i5 (k:=0) (b:=YQ) F HZ rfl λcdv A outer s H E hr=>⟨_,(j6 (w9 (Zv (i7 (QD) (iW (K:=K) rfl (pv 1) z0) (iW (K:=K) rfl (pv 0) z0) (m6 _)) (pv 1) (pv 0)))),
  inferInstance⟩
abbrev Wn:Stmt:=y9 22
abbrev Ue:MS:=(u7 (k6 [none,none,some 0,some 1] [0,1] (dZip (q8 (q9 0) (q8 (q9 2) x0))) (jc 2 (xh (v7 0) (xh (v7 1) jb))) u5 (x9 Qz (q8 (q9 0) (q8 (x9 Qy (q8 (z6 y6 (x6 2) (x6 3)) (q8 (q9 1) x0))) x0)))))
def wv:List PV->Option PV:=xE 3 3 Ue
theorem Ri:w5 ["ways","hue","onward"] ["ways","hue","onward"] (z9 Wn):=y7
theorem LV (F:Fun K "ways_through" "ways_through" Wn f fd)(En:Fn P w K mg base 1 "joined" ["way","onward"] (v8 Qy))(Eo:Fn P w K mg base 1 "lesser" ["way","other"] (v8 Qz))(Iz:mg "zip"=none):FnOk P w K mg base v5 2 f fd ["ways","hue","onward"] (i8 wv) :=
 okO (k:=1) (b:=Ue) F Ri rfl λcdv A outer s H E hr=>⟨_,(j6 (w9 (i6 (N':=["way","more","ways","hue"]) (cap:=[none,none,some 0,some 1]) (m5 rfl rfl rfl) rfl (NN (K:=K) rfl rfl Iz (aC (pv 0) (aW (pv 2)))) (λ_ _ _ _ _ _=>(Vd (K:=K) (n:=2) rfl rfl (jG (k8 (i:=0) (by show (["way","more","ways","hue"]:List Str).Nodup;decide +kernel) rfl (Or.inl rfl)) (jG (k8 (i:=1) (by show (["way","more","ways","hue"]:List Str).Nodup;decide +kernel) rfl (Or.inl rfl)) Ve)))) (λ_ _ _ _ _ _=>m9) (λ_ _ _ _ _ _=>(fW Eo hr (aC (pv 0) (aW (fW En hr (aC (iW (K:=K) rfl (pv 2) (pv 3)) (aW (pv 1))))))))))),
  inferInstance⟩
abbrev VT:Stmt:=y9 23
abbrev YN:MS:=(y0 (o6 1 (k6 [none] [0] (b7 (q9 0)) (v7 0) u5 (x9 QA (q8 (q9 0) x0))))
  (y0 (jX (zz (q8 (z6 xH (x9 qf (q8 (x6 0) x0)) (dC (.int 1))) x0)) (v7 2) (y0 (o6 3 (z6 y6 (x6 1) (x6 2)))
  (o6 1 (k6 [none,some 2,some 3] [0] (b7 (q9 1)) (v7 0) u5 (x9 wv (q8 (q9 0) (q8 (q9 1) (q8 (q9 2) x0))))))))
  (u7 (q9 1))))
def Zf:List PV->Option PV:=p8 4 1 YN
theorem sc_least_ways:w5 ["rinses","table","hue","onward"] ["rinses"] (z9 VT):=y7
theorem LA (F:Fun K "least_ways" "least_ways" VT f fd)(A3:Fn P w K mg base 1 "straight_ways" ["row"] (i8 QA))(A7:Fn P w K mg base 2 "ways_through" ["ways","hue","onward"] (i8 wv))(Ac:mg "len"=none)(Af:mg "range"=none):FnOk P w K mg base v5 3 f fd ["rinses"] (v8 Zf) :=
 i5 (k:=2) (b:=YN) F sc_least_ways rfl λcdv A outer s H E hr=>⟨_,(j8 (ZA (i:=1) (N':=["row"]) (cap:=[none]) (m5 rfl rfl rfl) rfl sc_least_ways.nd rfl rfl (@qb _ K _ _ _ rfl (pv 0)) (λ_ _ _ _ _ _=>(k8 (i:=0) (by show (["row"]:List Str).Nodup;decide +kernel) rfl (Or.inl rfl))) (λ_ _ _ _ _ _=>m9) (λ_ _ _ _ _ _=>(fW A3 hr (aW (pv 0)))))
  (j8 (jJ PassesOwn.never rfl (wE rfl Af (aW (w4 (zl) (p5 (xx (K:=K) rfl) rfl Ac PySem.boot_len (aW (pv 0))) z0))) (gW 2 sc_least_ways.nd)
   (j8 (sW 3 sc_least_ways.nd (iW (K:=K) rfl (pv 1) (pv 2)))
  (j6 (ZA (i:=1) (N':=["ways","hue","onward"]) (cap:=[none,some 2,some 3]) (m5 rfl rfl rfl) rfl sc_least_ways.nd rfl rfl (@qb _ K _ _ _ rfl (pv 1)) (λ_ _ _ _ _ _=>(k8 (i:=0) (by show (["ways","hue","onward"]:List Str).Nodup;decide +kernel) rfl (Or.inl rfl))) (λ_ _ _ _ _ _=>m9) (λ_ _ _ _ _ _=>(fW A7 hr (aC (pv 0) (aC (pv 1) (aW (pv 2))))))))))
  (j6 (w9 (pv 1))))),
  inferInstance⟩
abbrev Wj:Stmt:=y9 24
abbrev Uc:MS:=(u7 (k6 [none] [0] (b7 (q9 0)) (v7 0) u5 (z6 y6 (x6 0) (dC (.int 0)))))
def Zh:List PV->Option PV:=xE 1 1 Uc
theorem Rh:w5 ["ways"] ["ways"] (z9 Wj):=y7
theorem LS (F:Fun K "sums_of" "sums_of" Wj f fd):FnOk P w K mg base v5 1 f fd ["ways"] (i8 Zh) :=
 okO (k:=0) (b:=Uc) F Rh rfl λcdv A outer s H E hr=>⟨_,(j6 (w9 (i6 (N':=["way"]) (cap:=[none]) (m5 rfl rfl rfl) rfl (@qb _ K _ _ _ rfl (pv 0)) (λ_ _ _ _ _ _=>(k8 (i:=0) (by show (["way"]:List Str).Nodup;decide +kernel) rfl (Or.inl rfl))) (λ_ _ _ _ _ _=>m9) (λ_ _ _ _ _ _=>(iW (K:=K) rfl (pv 0) z0))))),
  inferInstance⟩
abbrev VS:Stmt:=y9 25
abbrev YM:MS:=(y0 (zW (x9 wq (q8 (q9 0) x0)))
  (u7 (k6 [none] [0] (b7 (x9 Zf (q8 (q9 0) x0))) (v7 0) u5 (x9 Zh (q8 (q9 0) x0)))))
def Ze:List PV->Option PV:=xE 1 1 YM
theorem HX:w5 ["rinses"] ["rinses"] (z9 VS):=y7
theorem Lz (F:Fun K "least_rinses" "least_rinses" VS f fd)(Al:Fn P w K mg base 3 "check_rinses" ["rinses"] (v8 wq))(D1:Fn P w K mg base 3 "least_ways" ["rinses"] (v8 Zf))(Ek:Fn P w K mg base 1 "sums_of" ["ways"] (i8 Zh)):FnOk P w K mg base v5 4 f fd ["rinses"] (i8 Ze) :=
 okO (k:=3) (b:=YM) F HX rfl λcdv A outer s H E hr=>⟨_,(j8 (jI (fW Al hr (aW (pv 0))))
  (j6 (w9 (i6 (N':=["ways"]) (cap:=[none]) (m5 rfl rfl rfl) rfl (@qb _ K _ _ _ rfl (fW D1 hr (aW (pv 0)))) (λ_ _ _ _ _ _=>(k8 (i:=0) (by show (["ways"]:List Str).Nodup;decide +kernel) rfl (Or.inl rfl))) (λ_ _ _ _ _ _=>m9) (λ_ _ _ _ _ _=>(fW Ek hr (aW (pv 0)))))))),
  inferInstance⟩
abbrev VG:Stmt:=y9 40
abbrev YA:MS:=(y0 (o3 (Qb (dT (z6 JW (x6 0) (dC .non))) (c9 (Qb (r9 (x9 zE (q8 (q9 0) (q8 (dUn QG (dC (.int 1))) x0)))) (dT (z6 pLt (x6 0) (x6 2)))))) xf o7)
  (o3 (c9 (r9 (x9 zE (q8 (q9 1) (q8 (dC (.int 0)) x0))))) xf o7))
def XZ:List PV->Option PV:=p8 3 3 YA
theorem HM:w5 ["last","time","hues"] ["last","time","hues"] (z9 VG):=y7
theorem Lk (F:Fun K "check_start" "check_start" VG f fd)(Ar:Fn P w K mg base 2 "is_from" ["thing","least"] (v8 zE)):FnOk P w K mg base v5 3 f fd ["last","time","hues"] (v8 XZ) :=
 i5 (k:=2) (b:=YA) F HM rfl λcdv A outer s H E hr=>⟨_,(j8 (m7 (PW.pt (ZC (i7 (Nn) (pv 0) Kf (m6 _)) (ZD (qu (PW.pt (ZC (qG (K:=K) rfl (fW Ar hr (aC (pv 0) (aW (Zx ZO z0)))) (λ_=>rfl)) (ZD (i7 (QD) (pv 0) (pv 2) (m6 _))))))))) (j6 xX) m8)
  (j6 (m7 (qu (qG (K:=K) rfl (fW Ar hr (aC (pv 1) (aW z0))) (λ_=>rfl))) (j6 xX) m8))),
  inferInstance⟩
abbrev VD:Stmt:=y9 41
abbrev Yx:MS:=(y0 (o3 (dT (z6 pGt (x9 qf (q8 (x6 0) x0)) (dC (.int 10)))) xf o7)
  (y0 (Qf 2 UP)
  (jX (b7 (q9 0)) (v7 3) (y0 (o3 (c9 (r9 (x9 Zb (q8 (q9 3) (q8 (q9 1) x0))))) xf o7)
  (y0 (o3 (dT (dDIn (x9 jd (q8 (q9 3) x0)) (x6 2))) xf o7)
  (dPut 2 (x9 jd (q8 (q9 3) x0)) (dC (.bl true))))))))
def XY:List PV->Option PV:=p8 4 2 Yx
theorem sc_check_cloths:w5 ["cloths","hues","seen","cloth"] ["cloths","hues"] (z9 VD):=y7
theorem Lh (F:Fun K "check_cloths" "check_cloths" VD f fd)(Ee:Fn P w K mg base 3 "is_cloth" ["thing","hues"] (v8 Zb))(Aq:Fn P w K mg base 1 "name_of" ["cloth"] (v8 jd))(Ac:mg "len"=none)(B5:mg "MOST_CLOTHS"=some (.int 10 B7)):FnOk P w K mg base v5 4 f fd ["cloths","hues"] (v8 XY) :=
 i5 (k:=3) (b:=Yx) F sc_check_cloths rfl λcdv A outer s H E hr=>⟨_,(j8 (m7 (i7 (GS) (p5 (xx (K:=K) rfl) rfl Ac PySem.boot_len (aW (pv 0))) (wD (v:= .int 10) rfl B5 ⟨_,rfl⟩) (m6 _)) (j6 xX) m8)
  (j8 (sW 2 sc_check_cloths.nd Nw)
  (j6 (jJ PassesOwn.never rfl (@qb _ K _ _ _ rfl (pv 0)) (gW 3 sc_check_cloths.nd)
   (j8 (m7 (qu (qG (K:=K) rfl (fW Ee hr (aC (pv 3) (aW (pv 1)))) (λ_=>rfl))) (j6 xX) m8)
  (j8 (m7 (Kn (Nt (Qn hr) (fW Aq hr (aW (pv 3))) (pv 2))) (j6 xX) m8)
  (j6 (NU (Qn hr) (pv 2) (fW Aq hr (aW (pv 3))) zm rfl)))))))),
  inferInstance⟩
abbrev Vw:Stmt:=jx (y9 42) 1
abbrev Yq (Aa:Addr):MS:=(u7 (z6 xH (x9 qf (q8 (qo Aa "least" (q9 0)) x0)) (dC (.int 1))))
def wn (Aa:Addr):List PV->Option PV:=p8 1 1 (Yq Aa)
theorem HE:w5 ["self"] ["self"] (z9 Vw):=y7
theorem MZ (F:Fun K "hues" "Works.hues" Vw f fd)(Ac:mg "len"=none)[xv K Aa][i9 K Aa "least"]:FnOk P w K mg base v5 1 f fd ["self"] (v8 (wn Aa)) :=
 i5 (k:=0) (b:=(Yq Aa)) F HE rfl λcdv A outer s H E hr=>⟨_,(j6 (w9 (w4 (zl) (p5 (xx (K:=K) rfl) rfl Ac PySem.boot_len (aW (xq (K:=K) rfl (pv 0) rfl))) z0))),
  inferInstance⟩
abbrev VB:Stmt:=jx (y9 42) 5
abbrev Yv (Aa:Addr):MS:=(u7 (qR (q8 (qo Aa "last" (q9 0)) (q8 (qo Aa "time" (q9 0)) x0))))
def vy (Aa:Addr):List PV->Option PV:=p8 1 1 (Yv Aa)
theorem HK:w5 ["self"] ["self"] (z9 VB):=y7
theorem Lf (F:Fun K "start" "Works.start" VB f fd)[xv K Aa][i9 K Aa "last"][i9 K Aa "time"]:FnOk P w K mg base v5 1 f fd ["self"] (v8 (vy Aa)) :=
 i5 (k:=0) (b:=(Yv Aa)) F HK rfl λcdv A outer s H E hr=>⟨_,(j6 (w9 (@zn _ _ _ _ _ (aC (xq (K:=K) rfl (pv 0) rfl) (aW (xq (K:=K) rfl (pv 0) rfl)))))),
  inferInstance⟩
abbrev Vx:Stmt:=jx (y9 42) 6
abbrev Yr (Aa:Addr):MS:=(u7 (x9 QH (q8 (qo Aa "held" (q9 0)) x0)))
def zD (Aa:Addr):List PV->Option PV:=xE 1 1 (Yr Aa)
theorem HG:w5 ["self"] ["self"] (z9 Vx):=y7
theorem Lb (F:Fun K "names" "Works.names" Vx f fd)(Ay:mg "sorted"=none)[xv K Aa][i9 K Aa "held"]:FnOk P w K mg base v5 1 f fd ["self"] (i8 (zD Aa)) :=
 okO (k:=0) (b:=(Yr Aa)) F HG rfl λcdv A outer s H E hr=>⟨_,(j6 (w9 (p5 (UA (K:=K) rfl rfl) rfl Ay ZZ (aW (xq (K:=K) rfl (pv 0) rfl))))),
  inferInstance⟩
abbrev VA:Stmt:=jx (y9 42) 2
abbrev Yu (Aa:Addr):MS:=(u7 (k6 [none] [0] (b7 (qo Aa "given" (q9 0))) (v7 0) u5 (x9 wC (q8 (x6 0) x0))))
def jC (Aa:Addr):List PV->Option PV:=xE 1 1 (Yu Aa)
theorem HJ:w5 ["self"] ["self"] (z9 VA):=y7
theorem Le (F:Fun K "rinses" "Works.rinses" VA f fd)(Aj:mg "list"=none)[xv K Aa][i9 K Aa "given"]:FnOk P w K mg base v5 1 f fd ["self"] (i8 (jC Aa)) :=
 okO (k:=0) (b:=(Yu Aa)) F HJ rfl λcdv A outer s H E hr=>⟨_,(j6 (w9 (i6 (N':=["row"]) (cap:=[none]) (m5 rfl rfl rfl) rfl (@qb _ K _ _ _ rfl (xq (K:=K) rfl (pv 0) rfl)) (λ_ _ _ _ _ _=>(k8 (i:=0) (by show (["row"]:List Str).Nodup;decide +kernel) rfl (Or.inl rfl))) (λ_ _ _ _ _ _=>m9) (λ_ _ _ _ _ _=>(xJ (Ja (K:=K) rfl) rfl Aj jV (aW (pv 0))))))),
  inferInstance⟩
abbrev Vv:Stmt:=jx (y9 42) 7
abbrev Yo (Aa:Addr):MS:=(o3 (qE (c9 (r9 (x9 qm (q8 (x6 1) (q8 (dC (.ty "str")) x0))))) (dT (Qd (x6 1) (qo Aa "held" (q9 0))))) xf o7)
abbrev Yp (Aa:Addr):MS:=(y0 (Yo Aa)
  (u7 (vY (qo Aa "held" (q9 0)) (x6 1))))
abbrev Pk (Ai:Addr)(Aa:Addr):XM:=(xSeq false (Yo Aa) (xIf (qE (c9 (r9 (x9 qm (q8 (x6 1) (q8 (dC (.ty "str")) x0))))) (dT (Qd (x6 1) (qo Aa "held" (q9 0))))) (Pj Ai) xNo)
  xNo)
def jB (Aa:Addr):List PV->Option PV:=xQ 2 [false,false] (Yp Aa)
def ZT (Ai:Addr)(Aa:Addr):List PV->Addr->Prop:=xFnB 2 [false,false] (Pk Ai Aa)
theorem HD:w5 ["self","name"] ["self","name"] (z9 Vv):=y7
theorem MY (F:Fun K "cloth" "Works.cloth" Vv f fd)(Ab:mg "isinstance"=none)(Az:mg "str"=none)(Es:mg "NoName"=some (.ref Ai))[xv K Aa][i9 K Aa "held"](Eu:PySem.W.excIn K Ai Pc "ValueError.__new__"=true):FnOk P w K mg base (CX1 P w) 1 f fd ["self","name"] (wJ [false,false] (jB Aa) (ZT Ai Aa)) :=
 okPX (k:=0) (b:=(Yp Aa)) (xb:=(Pk Ai Aa)) F HD rfl rfl rfl λcdv A outer s H E hr=>⟨_,(j8 (m7 (PW.pt (xZ (qu (qG (K:=K) rfl (p5 (zS (K:=K) rfl) rfl Ab zx (aC (pv 1) (aW (jg (v:= .ty "str") rfl Az jr rfl)))) (λ_=>rfl))) (zI (Kn (Nu (Qn hr) (pv 1) (xq (K:=K) rfl (pv 0) rfl)))))) (j6 (NW rfl rfl Es Eu RO)) m8)
  (j6 (w9 (Kb (Qn hr) (xq (K:=K) rfl (pv 0) rfl) (pv 1) (λ_ _=>rfl))))),
  inferInstance,inferInstance⟩
abbrev VC:Stmt:=y9 36
abbrev Yw (Aa:Addr):MS:=(y0 (o3 (c9 (r9 (x9 qm (q8 (x6 1) (q8 (dC (.ty "list")) x0))))) (u7 (dC (.bl false))) o7)
  (y0 (o6 2 (qj Aa "names" (zD Aa) (q9 0) x0))
  (u7 (zf (x9 xG (q8 (zV [none,some 2] [0] (b7 (x6 1)) (v7 0) u5 (z6 (pIn false) (x6 0) (x6 1))) x0)) (z6 pEq (UO (x6 1)) (x9 qf (q8 (x6 1) x0)))))))
def wp (Aa:Addr):List PV->Option PV:=xQ 3 [false,true] (Yw Aa)
theorem sc_are_names:w5 ["works","names","known"] ["works","names"] (z9 VC):=y7
theorem Lg (F:Fun K "are_names" "are_names" VC f fd)(As:mg "all"=none)(Ab:mg "isinstance"=none)(Ac:mg "len"=none)(Aj:mg "list"=none)(J2:mg "set"=none)(Ag:Mt P w K mg base 1 Aa "names" ["self"] (i8 (zD Aa))):FnOk P w K mg base v5 2 f fd ["works","names"] (zb [false,true] (wp Aa)) :=
 okPB (k:=1) (b:=(Yw Aa)) F sc_are_names rfl rfl λcdv A outer s H E hr=>⟨_,(j8 (m7 (qu (qG (K:=K) rfl (p5 (zS (K:=K) rfl) rfl Ab zx (aC (pv 1) (aW (jg (v:= .ty "list") rfl Aj jV rfl)))) (λ_=>rfl))) (j6 (w9 zm)) m8)
  (j8 (sW 2 sc_are_names.nd (ji Ag hr (by decide) (pv 0)))
  (j6 (w9 (vD (p5 (jW (K:=K) rfl rfl) rfl As jU (aW (i6 (N':=["thing","known"]) (cap:=[none,some 2]) (m5 rfl rfl rfl) rfl (@qb _ K _ _ _ rfl (pv 1)) (λ_ _ _ _ _ _=>(k8 (i:=0) (by show (["thing","known"]:List Str).Nodup;decide +kernel) rfl (Or.inl rfl))) (λ_ _ _ _ _ _=>m9) (λ_ _ _ _ _ _=>(vE (GT (K:=K) rfl) (pv 0) (pv 1) (by with_unfolding_all rfl)))))) (vF (vE (vz (K:=K) (hu6 hr) rfl) (p5 Cj rfl Ac PySem.boot_len (aW (xJ (Cq (K:=K) rfl rfl) rfl J2 PX (aW (pv 1))))) (p5 (xx (K:=K) rfl) rfl Ac PySem.boot_len (aW (pv 1))) (m6 _)))))))),
  inferInstance⟩
abbrev VE:Stmt:=y9 37
abbrev Yy (Aa:Addr):MS:=(o3 (c9 (r9 (x9 (wp Aa) (q8 (q9 0) (q8 (x6 1) x0))))) xf o7)
def Qw (Aa:Addr):List PV->Option PV:=xQ 2 [false,true] (Yy Aa)
theorem HL:w5 ["works","names"] ["works","names"] (z9 VE):=y7
theorem Li (F:Fun K "check_names" "check_names" VE f fd)(Ea:Fn P w K mg base 2 "are_names" ["works","names"] (zb [false,true] (wp Aa))):FnOk P w K mg base v5 3 f fd ["works","names"] (zb [false,true] (Qw Aa)) :=
 okPB (k:=2) (b:=(Yy Aa)) F HL rfl rfl λcdv A outer s H E hr=>⟨_,(j6 (m7 (qu (qG (K:=K) rfl (fW Ea hr (aC (pv 0) (aW (pv 1)))) (λ_=>rfl))) (j6 xX) m8)),
  inferInstance⟩
abbrev vK:Stmt:=jx (y9 42) 0
abbrev Xn (Aa:Addr):MS:=(y0 (zA Aa "least" (x9 Ze (q8 (q9 1) x0)))
  (y0 (zW (x9 XZ (q8 (q9 3) (q8 (q9 4) (q8 (wa Aa "hues" (wn Aa) 0 x0) x0)))))
  (y0 (zW (x9 XY (q8 (q9 2) (q8 (wa Aa "hues" (wn Aa) 0 x0) x0))))
  (y0 (zA Aa "given" (k6 [none] [0] (b7 (q9 1)) (v7 0) u5 (x9 wC (q8 (x6 0) x0))))
  (y0 (zA Aa "held" (x9 Zq (q8 (k6 [none] [0] (b7 (q9 2)) (v7 0) u5 (qR (q8 (x9 jd (q8 (q9 0) x0)) (q8 (q9 0) x0)))) x0)))
  (y0 (zA Aa "last" (dIf (dT (z6 pIsN (x6 3) (dC .non))) (dUn QG (dC (.int 1))) (q9 3)))
  (zA Aa "time" (q9 4))))))))
def xz (Aa:Addr):List PV->Option PV:=Qe 5 5 Aa (Xn Aa)
theorem HF:w5 ["self","rinses","cloths","last","time"] ["self","rinses","cloths","last","time"] (z9 vK):=y7
theorem La (F:FunD K "__init__" "Works.__init__" vK f fd)(B4:Fn P w K mg base 4 "check_cloths" ["cloths","hues"] (v8 XY))(B9:Fn P w K mg base 3 "check_start" ["last","time","hues"] (v8 XZ))(A9:Fn P w K mg base 4 "least_rinses" ["rinses"] (i8 Ze))(Aq:Fn P w K mg base 1 "name_of" ["cloth"] (v8 jd))(Il:mg "dict"=none)(Aj:mg "list"=none)[xv K Aa][i9 K Aa "given"][i9 K Aa "held"][i9 K Aa "last"][i9 K Aa "least"][i9 K Aa "time"](A4:Mt P w K mg base 1 Aa "hues" ["self"] (v8 (wn Aa))):FnOk P w K mg base v5 5 f fd ["self","rinses","cloths","last","time"] (spI Aa (xz Aa)) :=
 okID (k:=4) (b:=Xn Aa) F HF rfl (λcdv A outer s H E hr=>⟨_,(j8 (QO (K:=K) rfl (pv 0) (fW A9 hr (aW (pv 1))))
  (j8 (jI (fW B9 hr (aC (pv 3) (aC (pv 4) (aW (ji A4 hr (by decide) (pv 0)))))))
  (j8 (jI (fW B4 hr (aC (pv 2) (aW (ji A4 hr (by decide) (pv 0))))))
  (j8 (QO (K:=K) rfl (pv 0) (i6 (N':=["row"]) (cap:=[none]) (m5 rfl rfl rfl) rfl (@qb _ K _ _ _ rfl (pv 1)) (λ_ _ _ _ _ _=>(k8 (i:=0) (by show (["row"]:List Str).Nodup;decide +kernel) rfl (Or.inl rfl))) (λ_ _ _ _ _ _=>m9) (λ_ _ _ _ _ _=>(xJ (Ja (K:=K) rfl) rfl Aj jV (aW (pv 0))))))
  (j8 (QO (K:=K) rfl (pv 0) (xJ (Cb (K:=K) rfl rfl) rfl Il PQ (aW (i6 (N':=["cloth"]) (cap:=[none]) (m5 rfl rfl rfl) rfl (@qb _ K _ _ _ rfl (pv 2)) (λ_ _ _ _ _ _=>(k8 (i:=0) (by show (["cloth"]:List Str).Nodup;decide +kernel) rfl (Or.inl rfl))) (λ_ _ _ _ _ _=>m9) (λ_ _ _ _ _ _=>(@zn _ _ _ _ _ (aC (fW Aq hr (aW (pv 0))) (aW (pv 0)))))))))
  (j8 (QO (K:=K) rfl (pv 0) (Zv (i7 (Nh) (pv 3) Kf (m6 _)) (Zx ZO z0) (pv 3)))
  (j6 (QO (K:=K) rfl (pv 0) (pv 4))))))))),
  (by repeat' first|infer_instance|(refine @Mi.Ro _ _ _ _ ?_ ?_))⟩)
abbrev Vz:Stmt:=jx (y9 42) 11
abbrev Yt (Aa:Addr):MS:=(u7 (x9 (xz Aa) (q8 (qo Aa "given" (q9 0)) (q8 (z6 p7 (Xs (qo Aa "held" (q9 0))) (n9 (q8 (q9 1) x0))) (q8 (qo Aa "last" (q9 0)) (q8 (qo Aa "time" (q9 0)) x0))))))
def Qv (Aa:Addr):List PV->Option PV:=p8 2 2 (Yt Aa)
theorem HI:w5 ["self","cloth"] ["self","cloth"] (z9 Vz):=y7
theorem Ld (F:Fun K "put" "Works.put" Vz f fd)(Aj:mg "list"=none)(Am:mg "Works"=some (.ref Aa))[xv K Aa][i9 K Aa "given"][i9 K Aa "held"][i9 K Aa "last"][i9 K Aa "time"](Au:Mkr P w K mg base 5 Aa ["self","rinses","cloths","last","time"] (spI Aa (xz Aa))):FnOk P w K mg base v5 7 f fd ["self","cloth"] (v8 (Qv Aa)) :=
 i5 (k:=6) (b:=(Yt Aa)) F HI rfl λcdv A outer s H E hr=>⟨_,(j6 (w9 (Zw Au hr (by decide) rfl Am (aC (xq (K:=K) rfl (pv 0) rfl) (aC (w4 (qr (K:=K) rfl) (xJ (Cm rfl) rfl Aj jV (aW (NC (xq (K:=K) rfl (pv 0) rfl)))) (@qL _ _ _ _ (aW (pv 1)))) (aC (xq (K:=K) rfl (pv 0) rfl) (aW (xq (K:=K) rfl (pv 0) rfl)))))))),
  inferInstance⟩
abbrev Vy:Stmt:=jx (y9 42) 13
abbrev Ys (Aa:Addr):MS:=(y0 (zW (x9 (Qw Aa) (q8 (q9 0) (q8 (x6 1) x0))))
  (u7 (x9 (xz Aa) (q8 (qo Aa "given" (q9 0)) (q8 (zV [none,some 0] [0] (b7 (x6 1)) (v7 0) u5 (vY (qo Aa "held" (q9 1)) (x6 0))) (q8 (qo Aa "last" (q9 0)) (q8 (qo Aa "time" (q9 0)) x0)))))))
def wo (Aa:Addr):List PV->Option PV:=xQ 2 [false,true] (Ys Aa)
theorem HH:w5 ["self","names"] ["self","names"] (z9 Vy):=y7
theorem Lc (F:Fun K "only" "Works.only" Vy f fd)(B6:Fn P w K mg base 3 "check_names" ["works","names"] (zb [false,true] (Qw Aa)))(Am:mg "Works"=some (.ref Aa))[xv K Aa][i9 K Aa "given"][i9 K Aa "held"][i9 K Aa "last"][i9 K Aa "time"](Au:Mkr P w K mg base 5 Aa ["self","rinses","cloths","last","time"] (spI Aa (xz Aa))):FnOk P w K mg base v5 7 f fd ["self","names"] (zb [false,true] (wo Aa)) :=
 okPB (k:=6) (b:=(Ys Aa)) F HH rfl rfl λcdv A outer s H E hr=>⟨_,(j8 (jI (fW B6 hr (aC (pv 0) (aW (pv 1)))))
  (j6 (w9 (Zw Au hr (by decide) rfl Am (aC (xq (K:=K) rfl (pv 0) rfl) (aC (i6 (N':=["name","self"]) (cap:=[none,some 0]) (m5 rfl rfl rfl) rfl (@qb _ K _ _ _ rfl (pv 1)) (λ_ _ _ _ _ _=>(k8 (i:=0) (by show (["name","self"]:List Str).Nodup;decide +kernel) rfl (Or.inl rfl))) (λ_ _ _ _ _ _=>m9) (λ_ _ _ _ _ _=>(Kb (Qn hr) (xq (K:=K) rfl (pv 1) rfl) (pv 0) (λ_ _=>rfl)))) (aC (xq (K:=K) rfl (pv 0) rfl) (aW (xq (K:=K) rfl (pv 0) rfl))))))))),
  inferInstance⟩
abbrev Wr:Stmt:=y9 45
abbrev Ui:MS:=(u7 (xc (dC (.str " ")) (k6 [none] [0] (UN (q9 0)) (v7 0) u5 (x9 xC (q8 (q9 0) x0)))))
def xU:List PV->Option PV:=p8 1 1 Ui
theorem Rk:w5 ["things"] ["things"] (z9 Wr):=y7
theorem Na (F:Fun K "words_text" "words_text" Wr f fd)(Az:mg "str"=none):FnOk P w K mg base v5 1 f fd ["things"] (v8 xU) :=
 i5 (k:=0) (b:=Ui) F Rk rfl λcdv A outer s H E hr=>⟨_,(j6 (w9 (qU (K:=K) rfl PySem.F.plainAttrs_str PySem.F.slot_str_join PySem.F.type_str_join (jE (K:=K) rfl) n6 (aW (i6 (N':=["thing"]) (cap:=[none]) (m5 rfl rfl rfl) rfl (pi_LT (K:=K) rfl (pv 0)) (λ_ _ _ _ _ _=>(k8 (i:=0) (by show (["thing"]:List Str).Nodup;decide +kernel) rfl (Or.inl rfl))) (λ_ _ _ _ _ _=>m9) (λ_ _ _ _ _ _=>(xJ Qa rfl Az jr (aW (pv 0))))))))),
  inferInstance⟩
abbrev Wt:Stmt:=y9 46
abbrev Uk (Aa:Addr):MS:=(y0 (o6 1 (xc (dC (.str " / ")) (k6 [none] [0] (b7 (qj Aa "rinses" (jC Aa) (q9 0) x0)) (v7 0) u5 (x9 xU (q8 (q9 0) x0)))))
  (y0 (o6 2 (x9 xU (q8 (qj Aa "start" (vy Aa) (q9 0) x0) x0)))
  (y0 (o6 3 (k6 [none,some 0] [0] (b7 (qj Aa "names" (zD Aa) (q9 0) x0)) (v7 0) u5 (x9 xU (q8 (qj Aa "cloth" (jB Aa) (q9 1) (q8 (q9 0) x0)) x0))))
  (u7 (xc (dC (.str "; ")) (z6 p7 (n9 (q8 (vZ "rinses " (q9 1)) (q8 (vZ "start " (q9 2)) x0))) (k6 [none] [0] (b7 (q9 3)) (v7 0) u5 (vZ "cloth " (q9 0)))))))))
def zH (Aa:Addr):List PV->Option PV:=p8 4 1 (Uk Aa)
theorem sc_works_text:w5 ["works","rinses","start","cloths"] ["works"] (z9 Wt):=y7
theorem Nc (F:Fun K "works_text" "works_text" Wt f fd)(Aw:Fn P w K mg base 1 "words_text" ["things"] (v8 xU))(Ap:Mx P w K mg base 1 Aa "cloth" ["self","name"] (wJ [false,false] (jB Aa) (ZT Ai Aa)))(Ag:Mt P w K mg base 1 Aa "names" ["self"] (i8 (zD Aa)))(Ak:Mt P w K mg base 1 Aa "rinses" ["self"] (i8 (jC Aa)))(Ao:Mt P w K mg base 1 Aa "start" ["self"] (v8 (vy Aa))):FnOk P w K mg base v5 2 f fd ["works"] (v8 (zH Aa)) :=
 i5 (k:=1) (b:=(Uk Aa)) F sc_works_text rfl λcdv A outer s H E hr=>⟨_,(j8 (sW 1 sc_works_text.nd (qU (K:=K) rfl PySem.F.plainAttrs_str PySem.F.slot_str_join PySem.F.type_str_join (jE (K:=K) rfl) n6 (aW (i6 (N':=["row"]) (cap:=[none]) (m5 rfl rfl rfl) rfl (@qb _ K _ _ _ rfl (ji Ak hr (by decide) (pv 0))) (λ_ _ _ _ _ _=>(k8 (i:=0) (by show (["row"]:List Str).Nodup;decide +kernel) rfl (Or.inl rfl))) (λ_ _ _ _ _ _=>m9) (λ_ _ _ _ _ _=>(fW Aw hr (aW (pv 0))))))))
  (j8 (sW 2 sc_works_text.nd (fW Aw hr (aW (ji Ao hr (by decide) (pv 0)))))
  (j8 (ZA (i:=3) (N':=["name","works"]) (cap:=[none,some 0]) (m5 rfl rfl rfl) rfl sc_works_text.nd rfl rfl (@qb _ K _ _ _ rfl (ji Ag hr (by decide) (pv 0))) (λ_ _ _ _ _ _=>(k8 (i:=0) (by show (["name","works"]:List Str).Nodup;decide +kernel) rfl (Or.inl rfl))) (λ_ _ _ _ _ _=>m9) (λ_ _ _ _ _ _=>(fW Aw hr (aW (Ke Ap hr (by decide) GY (pv 1) (aW (pv 0)))))))
  (j6 (w9 (qU (K:=K) rfl PySem.F.plainAttrs_str PySem.F.slot_str_join PySem.F.type_str_join (jE (K:=K) rfl) n6 (aW (w4 (qr (K:=K) rfl) (@qL _ _ _ _ (aC (JY (pv 1)) (aW (JY (pv 2))))) (i6 (N':=["cloth"]) (cap:=[none]) (m5 rfl rfl rfl) rfl (@qb _ K _ _ _ rfl (pv 3)) (λ_ _ _ _ _ _=>(k8 (i:=0) (by show (["cloth"]:List Str).Nodup;decide +kernel) rfl (Or.inl rfl))) (λ_ _ _ _ _ _=>m9) (λ_ _ _ _ _ _=>(JY (pv 0)))))))))))),
  inferInstance⟩
abbrev VO:Stmt:=y9 47
abbrev YH:MS:=(y0 (o6 1 (dIf (r9 (wc (q9 0) (dC (.str "-")))) (Qg (x6 0) (pSo (dC (.int 1))) pNo) (q9 0)))
  (y0 (o3 (qE (c9 (dT (zg pLe pLe (dC (.int 1)) (x9 qf (q8 (x6 1) x0)) (dC (.int 30))))) (c9 (r9 (x9 xG (q8 (k6 [none] [0] (jY (q9 1)) (v7 0) u5 (zg jF jF (dC (.str "0")) (x6 0) (dC (.str "9")))) x0))))) (u7 (dC (.bl false))) o7)
  (u7 (jZ (z6 pEq (x6 0) (dC (.str "0"))) (wb (wc (q9 1) (dC (.str "0"))))))))
def Zd:List PV->Option PV:=p8 2 1 YH
theorem sc_is_number:w5 ["word","figures"] ["word"] (z9 VO):=y7
theorem Ls (F:Fun K "is_number" "is_number" VO f fd)(As:mg "all"=none)(Ac:mg "len"=none)(B3:mg "MOST_FIGURES"=some (.int 30 A8)):FnOk P w K mg base v5 1 f fd ["word"] (v8 Zd) :=
 i5 (k:=0) (b:=YH) F sc_is_number rfl λcdv A outer s H E hr=>⟨_,(j8 (sW 1 sc_is_number.nd (Zv (qG (K:=K) rfl (qU (K:=K) rfl PySem.F.plainAttrs_str PySem.F.slot_str_startswith PySem.F.type_str_startswith GL (pv 0) (aW n6)) (λ_=>rfl)) (Kh (pv 0) (wF z0) QK) (pv 0)))
  (j8 (m7 (PW.pt (xZ (qu (Vk (wA) (wA) z0 (p5 (xx (K:=K) rfl) rfl Ac PySem.boot_len (aW (pv 1))) (wD (v:= .int 30) rfl B3 ⟨_,rfl⟩))) (zI (qu (qG (K:=K) rfl (p5 (jW (K:=K) rfl rfl) rfl As jU (aW (i6 (N':=["sign"]) (cap:=[none]) (m5 rfl rfl rfl) rfl (Vf (pv 1)) (λ_ _ _ _ _ _=>(k8 (i:=0) (by show (["sign"]:List Str).Nodup;decide +kernel) rfl (Or.inl rfl))) (λ_ _ _ _ _ _=>m9) (λ_ _ _ _ _ _=>(GZ (Zn) (Zn) n6 (pv 0) n6))))) (λ_=>rfl)))))) (j6 (w9 zm)) m8)
  (j6 (w9 (pe_or (vE (vz (K:=K) (hu6 hr) rfl) (pv 0) n6 (m6 _)) (vF (Kg (qU (K:=K) rfl PySem.F.plainAttrs_str PySem.F.slot_str_startswith PySem.F.type_str_startswith GL (pv 1) (aW n6))))))))),
  inferInstance⟩
abbrev Wq:Stmt:=y9 48
abbrev Uh:MS:=(y0 (o6 3 (dIf (dT (z6 pLt (x6 1) (x9 qf (q8 (x6 0) x0)))) (jv (z6 y6 (x6 0) (x6 1)) (dC (.str " "))) (n9 (q8 (dC (.str "")) x0))))
  (y0 (o3 (dT (z6 qt (z6 y6 (x6 3) (dC (.int 0))) (x6 2))) xf o7)
  (u7 (zB (x6 3) (pSo (dC (.int 1))) pNo))))
def xA:List PV->Option PV:=xE 4 3 Uh
theorem sc_words_behind:w5 ["parts","number","first","words"] ["parts","number","first"] (z9 Wq):=y7
theorem LZ (F:Fun K "words_behind" "words_behind" Wq f fd)(Ac:mg "len"=none):FnOk P w K mg base v5 1 f fd ["parts","number","first"] (i8 xA) :=
 okO (k:=0) (b:=Uh) F sc_words_behind rfl λcdv A outer s H E hr=>⟨_,(j8 (sW 3 sc_words_behind.nd (Zv (i7 (QD) (pv 1) (p5 (xx (K:=K) rfl) rfl Ac PySem.boot_len (aW (pv 0))) (m6 _)) (qU (K:=K) rfl PySem.F.plainAttrs_str PySem.F.slot_str_split PySem.F.type_str_split Zj (iW (K:=K) rfl (pv 0) (pv 1)) (aW n6)) (@qL _ _ _ _ (aW n6))))
  (j8 (m7 (i7 (xW (K:=K) (hu6 hr) rfl) (iW (K:=K) rfl (pv 3) z0) (pv 2) (m6 _)) (j6 xX) m8)
  (j6 (w9 (JZ (Ww (K:=K) rfl) (pv 3) (wF z0) QK))))),
  inferInstance⟩
abbrev Wa:Stmt:=y9 49
abbrev YT:MS:=(y0 (o3 (c9 (r9 (x9 xG (q8 (k6 [none] [0] (b7 (q9 0)) (v7 0) u5 (x9 Zd (q8 (q9 0) x0))) x0)))) xf o7)
  (u7 (k6 [none] [0] (b7 (q9 0)) (v7 0) u5 (x9 JV (q8 (q9 0) x0)))))
def xT:List PV->Option PV:=xE 2 2 YT
theorem Rc:w5 ["words","number"] ["words","number"] (z9 Wa):=y7
theorem LH (F:Fun K "numbers_of" "numbers_of" Wa f fd)(D6:Fn P w K mg base 1 "is_number" ["word"] (v8 Zd))(As:mg "all"=none)(Ez:mg "int"=none):FnOk P w K mg base v5 2 f fd ["words","number"] (i8 xT) :=
 okO (k:=1) (b:=YT) F Rc rfl λcdv A outer s H E hr=>⟨_,(j8 (m7 (qu (qG (K:=K) rfl (p5 (jW (K:=K) rfl rfl) rfl As jU (aW (i6 (N':=["word"]) (cap:=[none]) (m5 rfl rfl rfl) rfl (@qb _ K _ _ _ rfl (pv 0)) (λ_ _ _ _ _ _=>(k8 (i:=0) (by show (["word"]:List Str).Nodup;decide +kernel) rfl (Or.inl rfl))) (λ_ _ _ _ _ _=>m9) (λ_ _ _ _ _ _=>(fW D6 hr (aW (pv 0))))))) (λ_=>rfl))) (j6 xX) m8)
  (j6 (w9 (i6 (N':=["word"]) (cap:=[none]) (m5 rfl rfl rfl) rfl (@qb _ K _ _ _ rfl (pv 0)) (λ_ _ _ _ _ _=>(k8 (i:=0) (by show (["word"]:List Str).Nodup;decide +kernel) rfl (Or.inl rfl))) (λ_ _ _ _ _ _=>m9) (λ_ _ _ _ _ _=>(xJ Cd rfl Ez Ux (aW (pv 0)))))))),
  inferInstance⟩
abbrev Wc:Stmt:=y9 50
abbrev YV:MS:=(y0 (o6 1 (jv (xc (dC (.str " ")) (x9 xA (q8 (q9 0) (q8 (dC (.int 0)) (q8 (dC (.str "rinses")) x0))))) (dC (.str " / "))))
  (y0 (o6 2 (k6 [none] [0] (b7 (q9 1)) (v7 0) u5 (x9 xT (q8 (jv (q9 0) (dC (.str " "))) (q8 (dC (.int 0)) x0)))))
  (y0 (zW (x9 wq (q8 (q9 2) x0)))
  (u7 (q9 2)))))
def Zg:List PV->Option PV:=p8 3 1 YV
theorem sc_read_rinses:w5 ["parts","rows","rinses"] ["parts"] (z9 Wc):=y7
theorem LJ (F:Fun K "read_rinses" "read_rinses" Wc f fd)(Al:Fn P w K mg base 3 "check_rinses" ["rinses"] (v8 wq))(Ah:Fn P w K mg base 2 "numbers_of" ["words","number"] (i8 xT))(Ae:Fn P w K mg base 1 "words_behind" ["parts","number","first"] (i8 xA)):FnOk P w K mg base v5 4 f fd ["parts"] (v8 Zg) :=
 i5 (k:=3) (b:=YV) F sc_read_rinses rfl λcdv A outer s H E hr=>⟨_,(j8 (sW 1 sc_read_rinses.nd (qU (K:=K) rfl PySem.F.plainAttrs_str PySem.F.slot_str_split PySem.F.type_str_split Zj (qU (K:=K) rfl PySem.F.plainAttrs_str PySem.F.slot_str_join PySem.F.type_str_join (jE (K:=K) rfl) n6 (aW (fW Ae hr (aC (pv 0) (aC z0 (aW n6)))))) (aW n6)))
  (j8 (ZA (i:=2) (N':=["row"]) (cap:=[none]) (m5 rfl rfl rfl) rfl sc_read_rinses.nd rfl rfl (@qb _ K _ _ _ rfl (pv 1)) (λ_ _ _ _ _ _=>(k8 (i:=0) (by show (["row"]:List Str).Nodup;decide +kernel) rfl (Or.inl rfl))) (λ_ _ _ _ _ _=>m9) (λ_ _ _ _ _ _=>(fW Ah hr (aC (qU (K:=K) rfl PySem.F.plainAttrs_str PySem.F.slot_str_split PySem.F.type_str_split Zj (pv 0) (aW n6)) (aW z0)))))
  (j8 (Vj (K:=K) rfl (λ_=>by exact (j6 (jI (fW Al hr (aW (pv 2)))))))
  (j6 (w9 (pv 2)))))),
  inferInstance⟩
abbrev Wd:Stmt:=y9 51
abbrev YW (Aa:Addr):MS:=(y0 (o6 1 (x9 Zg (q8 (q9 0) x0)))
  (y0 (o6 2 (x9 xT (q8 (x9 xA (q8 (q9 0) (q8 (dC (.int 1)) (q8 (dC (.str "start")) x0)))) (q8 (dC (.int 1)) x0))))
  (y0 (o3 (dT (z6 qt (x9 qf (q8 (x6 2) x0)) (dC (.int 2)))) xf o7)
  (u7 (x9 (xz Aa) (q8 (q9 1) (q8 (n9 x0) (q8 (z6 y6 (x6 2) (dC (.int 0))) (q8 (z6 y6 (x6 2) (dC (.int 1))) x0)))))))))
def wu (Aa:Addr):List PV->Option PV:=p8 3 1 (YW Aa)
theorem sc_read_vat:w5 ["parts","rinses","start"] ["parts"] (z9 Wd):=y7
theorem LK (F:Fun K "read_vat" "read_vat" Wd f fd)(Ah:Fn P w K mg base 2 "numbers_of" ["words","number"] (i8 xT))(B8:Fn P w K mg base 4 "read_rinses" ["parts"] (v8 Zg))(Ae:Fn P w K mg base 1 "words_behind" ["parts","number","first"] (i8 xA))(Ac:mg "len"=none)(Am:mg "Works"=some (.ref Aa))(Au:Mkr P w K mg base 5 Aa ["self","rinses","cloths","last","time"] (spI Aa (xz Aa))):FnOk P w K mg base v5 7 f fd ["parts"] (v8 (wu Aa)) :=
 i5 (k:=6) (b:=(YW Aa)) F sc_read_vat rfl λcdv A outer s H E hr=>⟨_,(j8 (sW 1 sc_read_vat.nd (fW B8 hr (aW (pv 0))))
  (j8 (sW 2 sc_read_vat.nd (fW Ah hr (aC (fW Ae hr (aC (pv 0) (aC z0 (aW n6)))) (aW z0))))
  (j8 (m7 (i7 (xW (K:=K) (hu6 hr) rfl) (p5 (xx (K:=K) rfl) rfl Ac PySem.boot_len (aW (pv 2))) z0 (m6 _)) (j6 xX) m8)
  (j6 (Vj (K:=K) rfl (λ_=>by exact (j6 (w9 (Zw Au hr (by decide) rfl Am (aC (pv 1) (aC (@qL _ _ _ _ v3) (aC (iW (K:=K) rfl (pv 2) z0) (aW (iW (K:=K) rfl (pv 2) z0)))))))))))))),
  inferInstance⟩
abbrev Wp:Stmt:=y9 52
abbrev Ug (Aa:Addr):MS:=(y0 (o6 3 (x9 xA (q8 (q9 1) (q8 (q9 2) (q8 (dC (.str "cloth")) x0)))))
  (y0 (o6 4 (z6 p7 (zB (x6 3) pNo (pSo (dC (.int 1)))) (x9 xT (q8 (zB (x6 3) (pSo (dC (.int 1))) pNo) (q8 (q9 2) x0)))))
  (u7 (qj Aa "put" (Qv Aa) (q9 0) (q8 (x9 JX (q8 (x6 4) x0)) x0)))))
def ww (Aa:Addr):List PV->Option PV:=p8 5 3 (Ug Aa)
theorem sc_with_cloth:w5 ["works","parts","number","words","cloth"] ["works","parts","number"] (z9 Wp):=y7
theorem LY (F:Fun K "with_cloth" "with_cloth" Wp f fd)(Ah:Fn P w K mg base 2 "numbers_of" ["words","number"] (i8 xT))(Ae:Fn P w K mg base 1 "words_behind" ["parts","number","first"] (i8 xA))(Ed:mg "tuple"=none)(Eb:Mt P w K mg base 7 Aa "put" ["self","cloth"] (v8 (Qv Aa))):FnOk P w K mg base v5 8 f fd ["works","parts","number"] (v8 (ww Aa)) :=
 i5 (k:=7) (b:=(Ug Aa)) F sc_with_cloth rfl λcdv A outer s H E hr=>⟨_,(j8 (sW 3 sc_with_cloth.nd (fW Ae hr (aC (pv 1) (aC (pv 2) (aW n6)))))
  (j8 (sW 4 sc_with_cloth.nd (w4 (qr (K:=K) rfl) (JZ (Ww (K:=K) rfl) (pv 3) QK (wF z0)) (fW Ah hr (aC (JZ (Ww (K:=K) rfl) (pv 3) (wF z0) QK) (aW (pv 2))))))
  (j6 (Vj (K:=K) rfl (λ_=>by exact (j6 (w9 (Kd Eb hr (by decide) (pv 0) (aW (xJ (Cy (K:=K) rfl) rfl Ed Uy (aW (pv 4)))))))))))),
  inferInstance⟩
abbrev We:Stmt:=y9 53
abbrev YX (Aa:Addr):MS:=(y0 (o6 1 (jv (q9 0) (dC (.str "; "))))
  (y0 (o6 2 (x9 (wu Aa) (q8 (q9 1) x0)))
  (y0 (jX (Xu (q8 (dC (.int 2)) (q8 (x9 qf (q8 (x6 1) x0)) x0))) (v7 3) (o6 2 (x9 (ww Aa) (q8 (q9 2) (q8 (q9 1) (q8 (q9 3) x0))))))
  (u7 (q9 2)))))
def zF (Aa:Addr):List PV->Option PV:=p8 4 1 (YX Aa)
theorem sc_read_works:w5 ["text","parts","works","number"] ["text"] (z9 We):=y7
theorem LL (F:Fun K "read_works" "read_works" We f fd)(Ef:Fn P w K mg base 7 "read_vat" ["parts"] (v8 (wu Aa)))(D4:Fn P w K mg base 8 "with_cloth" ["works","parts","number"] (v8 (ww Aa)))(Ac:mg "len"=none)(Af:mg "range"=none):FnOk P w K mg base v5 9 f fd ["text"] (v8 (zF Aa)) :=
 i5 (k:=8) (b:=(YX Aa)) F sc_read_works rfl λcdv A outer s H E hr=>⟨_,(j8 (sW 1 sc_read_works.nd (qU (K:=K) rfl PySem.F.plainAttrs_str PySem.F.slot_str_split PySem.F.type_str_split Zj (pv 0) (aW n6)))
  (j8 (sW 2 sc_read_works.nd (fW Ef hr (aW (pv 1))))
  (j8 (jJ PassesOwn.never rfl (NI rfl Af (aC z0 (aW (p5 (xx (K:=K) rfl) rfl Ac PySem.boot_len (aW (pv 1)))))) (gW 3 sc_read_works.nd)
   (j6 (sW 2 sc_read_works.nd (fW D4 hr (aC (pv 2) (aC (pv 1) (aW (pv 3))))))))
  (j6 (w9 (pv 2)))))),
  inferInstance⟩
abbrev Wm:Stmt:=y9 65
abbrev Ud:MS:=(y0 (o6 4 (xc (dC (.str " / ")) (k6 [none] [0] (b7 (q9 0)) (v7 0) u5 (xc (dC (.str " ")) (k6 [none] [0] (b7 (q9 0)) (v7 0) u5 (x9 xC (q8 (q9 0) x0)))))))
  (y0 (Qf 5 (n9 (q8 (z6 p7 (dC (.str "rinses ")) (x6 4)) (q8 (z6 p7 (z6 p7 (z6 p7 (dC (.str "start ")) (x9 xC (q8 (q9 2) x0))) (dC (.str " "))) (x9 xC (q8 (q9 3) x0))) x0))))
  (y0 (jX (b7 (q9 1)) (v7 6) (Qc 5 (z6 p7 (dC (.str "cloth ")) (xc (dC (.str " ")) (k6 [none] [0] (dItT (q9 6)) (v7 0) u5 (x9 xC (q8 (q9 0) x0)))))))
  (u7 (xc (dC (.str "; ")) (x6 5))))))
def je:List PV->Option PV:=p8 7 4 Ud
theorem sc_text:w5 ["rinses","cloths","last","time","lists","parts","cloth"] ["rinses","cloths","last","time"] (z9 Wm):=y7
theorem LU (F:Fun K "_law_text" "_law_text" Wm f fd)(Az:mg "str"=none):FnOk P w K mg base v5 1 f fd ["rinses","cloths","last","time"] (v8 je) :=
 i5 (k:=0) (b:=Ud) F sc_text rfl λcdv A outer s H E hr=>⟨_,(j8 (sW 4 sc_text.nd (qU (K:=K) rfl PySem.F.plainAttrs_str PySem.F.slot_str_join PySem.F.type_str_join (jE (K:=K) rfl) n6 (aW (i6 (N':=["row"]) (cap:=[none]) (m5 rfl rfl rfl) rfl (@qb _ K _ _ _ rfl (pv 0)) (λ_ _ _ _ _ _=>(k8 (i:=0) (by show (["row"]:List Str).Nodup;decide +kernel) rfl (Or.inl rfl))) (λ_ _ _ _ _ _=>m9) (λ_ _ _ _ _ _=>(qU (K:=K) rfl PySem.F.plainAttrs_str PySem.F.slot_str_join PySem.F.type_str_join (jE (K:=K) rfl) n6 (aW (i6 (N':=["number"]) (cap:=[none]) (m5 rfl rfl rfl) rfl (@qb _ K _ _ _ rfl (pv 0)) (λ_ _ _ _ _ _=>(k8 (i:=0) (by show (["number"]:List Str).Nodup;decide +kernel) rfl (Or.inl rfl))) (λ_ _ _ _ _ _=>m9) (λ_ _ _ _ _ _=>(xJ Qa rfl Az jr (aW (pv 0))))))))))))
  (j8 (sW 5 sc_text.nd (@qL _ _ _ _ (aC (w4 (qr (K:=K) rfl) n6 (pv 4)) (aW (w4 (qr (K:=K) rfl) (w4 (qr (K:=K) rfl) (w4 (qr (K:=K) rfl) n6 (xJ Qa rfl Az jr (aW (pv 2)))) n6) (xJ Qa rfl Az jr (aW (pv 3))))))))
  (j8 (jJ PassesOwn.never rfl (@qb _ K _ _ _ rfl (pv 1)) (gW 6 sc_text.nd)
   (j6 (jI (qU (K:=K) rfl PySem.F.plainAttrs_list PySem.F.slot_list_append PySem.F.type_list_append JR (pv 5) (x8 (w4 (qr (K:=K) rfl) n6 (qU (K:=K) rfl PySem.F.plainAttrs_str PySem.F.slot_str_join PySem.F.type_str_join (jE (K:=K) rfl) n6 (aW (i6 (N':=["part"]) (cap:=[none]) (m5 rfl rfl rfl) rfl (NL (K:=K) rfl (pv 6)) (λ_ _ _ _ _ _=>(k8 (i:=0) (by show (["part"]:List Str).Nodup;decide +kernel) rfl (Or.inl rfl))) (λ_ _ _ _ _ _=>m9) (λ_ _ _ _ _ _=>(xJ Qa rfl Az jr (aW (pv 0)))))))) v3)))))
  (j6 (w9 (qU (K:=K) rfl PySem.F.plainAttrs_str PySem.F.slot_str_join PySem.F.type_str_join (jE (K:=K) rfl) n6 (aW (pv 5)))))))),
  inferInstance⟩
abbrev Wf:Stmt:=y9 66
abbrev YY (Aa:Addr):MS:=(y0 (o3 (qE (c9 (r9 (x9 (Zr Aa) (q8 (q9 0) (q8 (dC (.ref Aa)) x0))))) (dT (z6 qt (qj Aa "names" (zD Aa) (q9 0) x0) (x9 QH (q8 (k6 [none] [0] (b7 (q9 2)) (v7 0) u5 (z6 y6 (x6 0) (dC (.int 0)))) x0))))) (u7 (dC (.bl false))) o7)
  (y0 (o3 (qE (dT (z6 qt (qj Aa "start" (vy Aa) (q9 0) x0) (x6 3))) (dT (z6 qt (qj Aa "rinses" (jC Aa) (q9 0) x0) (x6 1)))) (u7 (dC (.bl false))) o7)
  (u7 (x9 xG (q8 (k6 [none,some 0] [0] (b7 (q9 2)) (v7 0) u5 (z6 pEq (qj Aa "cloth" (jB Aa) (q9 1) (q8 (z6 y6 (x6 0) (dC (.int 0))) x0)) (x6 0))) x0)))))
def zG (Aa:Addr):List PV->Option PV:=p8 4 4 (YY Aa)
theorem Re:w5 ["works","rinses","cloths","start"] ["works","rinses","cloths","start"] (z9 Wf):=y7
theorem LM (F:Fun K "_law_right" "_law_right" Wf f fd)(As:mg "all"=none)(Ab:mg "isinstance"=none)(Ay:mg "sorted"=none)(Am:mg "Works"=some (.ref Aa))(E1:InsK K Aa)(Ap:Mx P w K mg base 1 Aa "cloth" ["self","name"] (wJ [false,false] (jB Aa) (ZT Ai Aa)))(Ag:Mt P w K mg base 1 Aa "names" ["self"] (i8 (zD Aa)))(Ak:Mt P w K mg base 1 Aa "rinses" ["self"] (i8 (jC Aa)))(Ao:Mt P w K mg base 1 Aa "start" ["self"] (v8 (vy Aa))):FnOk P w K mg base v5 2 f fd ["works","rinses","cloths","start"] (v8 (zG Aa)) :=
 i5 (k:=1) (b:=(YY Aa)) F Re rfl λcdv A outer s H E hr=>⟨_,(j8 (m7 (PW.pt (xZ (qu (qG (K:=K) rfl (p5 (Ce (K:=K) rfl E1) rfl Ab zx (aC (pv 0) (aW (wD (v:= .ref Aa) rfl Am rfl)))) (λ_=>rfl))) (zI (i7 (xW (K:=K) (hu6 hr) rfl) (ji Ag hr (by decide) (pv 0)) (p5 (UA (K:=K) rfl rfl) rfl Ay ZZ (aW (i6 (N':=["cloth"]) (cap:=[none]) (m5 rfl rfl rfl) rfl (@qb _ K _ _ _ rfl (pv 2)) (λ_ _ _ _ _ _=>(k8 (i:=0) (by show (["cloth"]:List Str).Nodup;decide +kernel) rfl (Or.inl rfl))) (λ_ _ _ _ _ _=>m9) (λ_ _ _ _ _ _=>(iW (K:=K) rfl (pv 0) z0))))) (m6 _))))) (j6 (w9 zm)) m8)
  (j8 (m7 (PW.pt (xZ (i7 (xW (K:=K) (hu6 hr) rfl) (ji Ao hr (by decide) (pv 0)) (pv 3) (m6 _)) (zI (i7 (xW (K:=K) (hu6 hr) rfl) (ji Ak hr (by decide) (pv 0)) (pv 1) (m6 _))))) (j6 (w9 zm)) m8)
  (j6 (w9 (p5 (jW (K:=K) rfl rfl) rfl As jU (aW (i6 (N':=["cloth","works"]) (cap:=[none,some 0]) (m5 rfl rfl rfl) rfl (@qb _ K _ _ _ rfl (pv 2)) (λ_ _ _ _ _ _=>(k8 (i:=0) (by show (["cloth","works"]:List Str).Nodup;decide +kernel) rfl (Or.inl rfl))) (λ_ _ _ _ _ _=>m9) (λ_ _ _ _ _ _=>(vE (vz (K:=K) (hu6 hr) rfl) (Ke Ap hr (by decide) GY (pv 1) (aW (iW (K:=K) rfl (pv 0) z0))) (pv 0) (m6 _)))))))))),
  inferInstance⟩
theorem WR (n:Int):jD [.at (.int n)]=some (.at (.bl true)):=qk rfl (m4 (vc (j5 rfl DU) (Gf (v:=false) (j5 rfl DV))))
theorem Tm (n k:Int):zE [.at (.int n),.at (.int k)]=some (.at (.bl (decide (k<=n)))):=qk rfl (m4 (vc (j5 rfl (WR n)) rfl))
theorem Xb {k:Int}(h:k<=n):zE [.at (.int n),.at (.int k)]=some (.at (.bl true)):=(Tm n k).trans (by rw [yy h])
theorem To (h:zM s):Zc [.at (.str s)]=some (.at (.bl true)):=by
 have hl:lim=1000000:=rfl;have l1:=h.one;have l8:=h.eight;have ln:qf [.at (.str s)]=some (.at (.int s.length)):=if_pos (by omega);refine qk rfl (u6 (qy (xR (qp (qx (j5 rfl Jy))) (qp (m3 (Qi (r:=true) rfl (j5 rfl ln) ?_ rfl ?_)))) qA) (m4 (j5 (v4 (o8 (λc:Nat=>PV.at (.str ⟨#[c]⟩)) (λ_=>PV.at (.bl true)) s.cps.toList rfl rfl ?_ ?_) rfl) (jT _))))
 ·show some (PV.at (.bl (decide ((1:Int)<=(s.length:Int)))))=_;rw [yy (by omega)]
 ·show some (PV.at (.bl (decide ((s.length:Int)<=8))))=_;rw [yy (by omega)]
 ·have:s.cps.toList.length=s.length:=by simp [Str.length]
  omega
 ·intro c hc;obtain ⟨c1,c2⟩:=h.low c hc;refine ⟨_,rfl,Qi rfl rfl ?_ rfl ?_⟩
  ·show some (PV.at (.bl (!decide ([c]<("a":Str).cps.toList))))=_;have e:¬ ([c]<[97]):=by rw [ut];simp;omega
   rw [show ("a":Str).cps.toList=[97] by decide +kernel,yO e];rfl
  ·show some (PV.at (.bl (!decide (("z":Str).cps.toList<[c]))))=_;have e:¬ ([122]<[c]):=by rw [ut];simp;omega
   rw [show ("z":Str).cps.toList=[122] by decide +kernel,yO e];rfl
theorem Tn (ok:c.Ok h):Zb [c.pv,.at (.int h)]=some (.at (.bl true)):=by refine qk rfl (u6 (qy (xR (qp (qx (j5 rfl DW))) (m3 (v:=false) rfl)) qA) (u6 (qy (xR (qp (qx (j5 (v4 (j5 rfl rfl) rfl) (To ok.nm)))) (xR (qp (qx (j5 (v4 (j5 rfl rfl) rfl) (Xb (n:=(c.hue:Int)) (k:=0) (by omega))))) (m3 (v:=false) (w6 (j5 rfl rfl) rfl ?_)))) qA) (m4 (vc (j5 (v4 (j5 rfl rfl) rfl) (Xb ok.l1)) (vc (j5 (v4 (j5 rfl rfl) rfl) (WR _)) (j5 (v4 (j5 rfl rfl) rfl) (Xb ok.w1)))))));show some (PV.at (.bl (decide ((h:Int)<=(c.hue:Int)))))=_;have:=ok.hu;rw [yO (by omega)]
theorem Tl (h1:-1<=l)(h2:l<(h:Int))(h3:0<=t):XZ [.at (.int l),.at (.int t),.at (.int h)]=some (.at .non):=by refine Jl rfl (u6 (qy (UM (v:=false) (m3 (v:=true) rfl) (qp (UM (v:=true) (qx (j5 rfl (Xb h1))) (m3 (v:=true) ?_)))) qA) (qy (qp (qx (j5 rfl (Xb h3)))) qA));show some (PV.at (.bl (decide (l<(h:Int)))))=_;rw [yy h2]
def keysOf (cs:List Cl):List v9:=cs.map λc=>Sum.inr c.name
theorem GF {x:Str}{α:Type}(f:Cl->PV):∀{cs:List Cl},x∉cs.map Cl.name->qF (.inr x) (keysOf cs) (cs.map f)=none
 |[],_=>rfl
 |c::cs,h=>by
  rw [yT] at h;show (if (Sum.inr c.name:v9) = .inr x then _ else qF (.inr x) (keysOf cs) (cs.map f))=_;rw [if_neg (λe=>h (by injection e with e;rw [e];exact yK)),GF (α:=α) f λz=>h (yN _ z)]
theorem JH (f:Cl->PV):∀{cs:List Cl},(cs.map Cl.name).Nodup->∀ c∈cs,qF (.inr c.name) (keysOf cs) (cs.map f)=some (f c)
 |[],_,_,h=>nomatch h
 |d::cs,nd,c,h=>by
  rw [yT] at nd;have nd':=yh.mp nd;show (if (Sum.inr d.name:v9) = .inr c.name then some (f d) else qF (.inr c.name) (keysOf cs) (cs.map f))=_;rcases yP.mp h with rfl|h
  ·rw [if_pos rfl]
  ·rw [if_neg (λe=>nd'.1 (by injection e with e;rw [e];exact yx.mpr ⟨c,h,rfl⟩)),JH f nd'.2 c h]
theorem Tj {cls:List Cl}(hok:∀ c∈cls,c.Ok h)(nd:(cls.map Cl.name).Nodup)(ten:cls.length<=10):XY [.lst (cls.map Cl.pv),.at (.int h)]=some (.at .non):=by
 have hl:lim=1000000:=rfl;refine Jl rfl (u6 (qy (m3 (v:=false) (w6 (j5 rfl rfl) rfl ?_)) qA) (u6 (Gg rfl) (XC rfl (Qu Cl.pv (λl ε=>∃(done:List Cl)(s3:MSlot),done++l=cls/\ε=[.sh (.lst (cls.map Cl.pv)),.sh (.at (.int h)),.ow (.dk (keysOf done) (done.map λ_=>PV.at (.bl true))),s3]) ?_ cls _ ⟨[],.no,rfl,rfl⟩).choose_spec.1)))
 ·show some (PV.at (.bl (decide ((10:Int)<((cls.map Cl.pv).length:Int)))))=_;rw [yZ,yO (by omega)]
 ·rintro c l ε ⟨done,s3,e,rfl⟩;have hc:c∈cls:=by rw [<- e];exact yq _ yK
  have hn:c.name∉done.map Cl.name:=λz=>by
   rw [<- e,yu,yT] at nd;exact (List.nodup_append.mp nd).2.2 _ z _ yK rfl
  have ln:=GF (α:=Unit) (λ_=>PV.at (.bl true)) hn;have hd:done.length<=10:=by rw [<- e] at ten;rw [yH] at ten;omega
  refine ⟨_,_,rfl,u6 (qy (qp (qx (j5 rfl (Tn (hok c hc))))) qA) (u6 (qy (m3 (v:=false) ?_) qA) ?_),done++[c],.sh c.pv,by rw [<- e,uZ];rfl,rfl⟩
  ·show some (PV.at (.bl (qF (.inr c.name) (keysOf done) (done.map λ_=>PV.at (.bl true))).isSome))=_;rw [ln];rfl
  ·show (if (keysOf done).length<=lim then some (Out.nx [_,_,.ow (ZB (.inr c.name) (.at (.bl true)) (keysOf done) (done.map λ_=>PV.at (.bl true))),_]) else none)=_;unfold ZB;rw [if_pos (by unfold keysOf;rw [yZ];omega),ln];simp only [Option.isSome_none,uG,if_false];unfold keysOf;rw [yu,yu];rfl
def vh (n:Int):PV:= .at (.int n)
def qH (r:List Int):PV:= .lst (r.map vh)
def wyP (w:Wy):PV:= .tup [.at (.int w.1),.lst (w.2.map vh)]
def qK (ws:List Wy):PV:= .lst (ws.map wyP)
theorem Tx (hl:r.length=h)(h4:h<=4)(hv:∀ v∈r,0<=v):Qx [qH r,.at (.int h)]=some (.at (.bl true)):=by
 have hlim:lim=1000000:=rfl;refine qk rfl (u6 (qy (xR (qp (qx (j5 rfl Jx))) (m3 (v:=false) (w6 (j5 rfl rfl) rfl ?_))) qA) (m4 (j5 (v4 (o8 vh (λ_=>PV.at (.bl true)) r rfl rfl (by omega) λv hvm=>?_) rfl) (jT _))))
 ·show (peq 6 (.at (.int ((r.map vh).length:Int))) (.at (.int (h:Int)))).bind _=_;rw [yZ,hl];exact vC (x:= .at (.int (h:Int))) rfl
 ·refine ⟨_,rfl,vc (j5 rfl (WR v)) ?_⟩;show some (PV.at (.bl (decide ((0:Int)<=v))))=_;rw [yy (hv v hvm)]
theorem BP (G:qg h rss)(h1:1<=h)(h4:h<=4):wq [k4 rss]=some (.at .non):=by
 have hlim:lim=1000000:=rfl;have hlen:=G.len;have eh:((rss.map qH).length:Int)-1=(h:Int):=by rw [yZ,hlen];omega
 have step:∀(k:Int),k=(h:Int)->y0 (o3 (c9 (dT (zg pLe pLe (dC (.int 1)) (x6 1) (dC (.int 4))))) xf o7)
  (o3 (c9 (r9 (x9 xG (q8 (k6 [none,some 1] [0] (b7 (q9 0)) (v7 0) u5 (x9 Qx (q8 (q9 0) (q8 (q9 1) x0)))) x0)))) xf o7) [.sh (k4 rss),.sh (.at (.int k))]=some (.nx [.sh (k4 rss),.sh (.at (.int k))]):=by
  rintro k rfl;refine u6 (qy (qp (m3 (Qi (r:=true) rfl rfl ?_ rfl ?_))) qA) (qy (qp (qx (j5 (v4 (o8 qH (λ_=>PV.at (.bl true)) rss rfl rfl (by omega) λr hr=>⟨_,rfl,j5 rfl (Tx (G.row r hr).1 h4 λv hv=>((G.row r hr).2 v hv).1)⟩) rfl) (jT _)))) qA)
  ·show some (PV.at (.bl (decide ((1:Int)<=(h:Int)))))=_;rw [yy (by omega)]
  ·show some (PV.at (.bl (decide ((h:Int)<=4))))=_;rw [yy (by omega)]
 exact Jl rfl (u6 (qy (qp (qx (j5 rfl Jx))) qA) (u6 (qz rfl) (step _ eh)))
theorem UX {α:Type}(f:α->PV):∀(l:List α)(n:Nat),xS n (l.map f)=(l.zipIdx n).map λp=>PV.tup [.at (.int ((p.2:Nat):Int)),f p.1]
 |[],_=>rfl
 |x::l,n=>by
  rw [yT,List.zipIdx_cons,yT];show PV.tup [.at (.int n),f x]::xS (n+1) (l.map f)=_;rw [UX f l (n+1)]
theorem Tz (h:r.length<=4):QA [qH r]=some (qK (zp r)):=by
 have hlim:lim=1000000:=rfl;refine jw rfl (m4 ?_);have e:=o8 (cap:=[none,none]) (ts:=[0,1]) (it:=Jg (q8 (q9 0) x0)) (g:=jc 2 (xh (v7 0) (xh (v7 1) jb))) (f:=qR (q8 (q9 1) (q8 (n9 (q8 (q9 0) x0)) x0))) (ε:=[.sh (qH r)])
  (λp:Int×Nat=>PV.tup [.at (.int ((p.2:Nat):Int)),vh p.1]) (λp:Int×Nat=>wyP (p.1,[(p.2:Int)])) (r.zipIdx 0) (by show some (xS 0 (r.map vh))=_;rw [UX]) rfl (by rw [List.length_zipIdx];omega) λp _=>⟨_,rfl,rfl⟩
 refine e.trans ?_;unfold qK zp;rw [List.mapIdx_eq_zipIdx_map,yz];rfl
theorem Tp {a b:Wy}(h:a.2.length+b.2.length<=1000):Qy [wyP a,wyP b]=some (wyP (zj a b)):=by have hlim:lim=1000000:=rfl;refine qk rfl (m4 (vd (v4 (w6 rfl rfl rfl) (v4 (w6 rfl rfl (Zp (by rw [yZ,yZ];omega))) rfl)) (by first|decide|(show 1<=lim;decide)|(show 2<=lim;decide)|(show 3<=lim;decide))) |>.trans ?_);unfold wyP zj;rw [yu]
theorem Ts (a b:Wy):Qz [wyP a,wyP b]=some (wyP (zC a b)):=by
 unfold zC;by_cases h:b.1<a.1
 ·rw [if_pos h];exact qk rfl (m4 (Jn (m3 (v:=true) (w6 rfl rfl (show some (PV.at (.bl (decide (b.1<a.1))))=_ by rw [yy h]))) rfl))
 ·rw [if_neg h];exact qk rfl (m4 (Jo (m3 (v:=false) (w6 rfl rfl (show some (PV.at (.bl (decide (b.1<a.1))))=_ by rw [yO h]))) rfl))
theorem Pn {α β:Type}(f:α->PV)(g:β->PV):∀(l:List α)(m:List β),xu (l.map f) (m.map g)=(l.zip m).map λp=>PV.tup [f p.1,g p.2]
 |[],_=>by cases ‹List β›<;>rfl
 |_::_,[]=>rfl
 |x::l,y::m=>by
  show PV.tup [f x,g y]::xu (l.map f) (m.map g)=_;rw [Pn f g l m];rfl
theorem Po {α β γ:Type}(f:α->β->γ):∀(l:List α)(m:List β),List.zipWith f l m=(l.zip m).map λp=>f p.1 p.2
 |[],_=>by simp
 |_::_,[]=>rfl
 |x::l,y::m=>by
  show f x y::List.zipWith f l m=_;rw [Po f l m];rfl
theorem TC {k:Nat}(hk:k<ws.length)(h4:ws.length<=4)(l1:∀ w∈ws,w.2.length<=100)(l2:∀ w∈onw,w.2.length<=100):wv [qK ws,.at (.int (k:Int)),qK onw]=some (qK (thr ws k onw)):=by
 have hlim:lim=1000000:=rfl;have hg:ws.getD k (0,[])=ws[k]:=ql hk;have hw:=ye hk;refine jw rfl (m4 ?_);have e:=o8 (cap:=[none,none,some 0,some 1]) (ts:=[0,1]) (it:=dZip (q8 (q9 0) (q8 (q9 2) x0))) (g:=jc 2 (xh (v7 0) (xh (v7 1) jb))) (f:=x9 Qz (q8 (q9 0) (q8 (x9 Qy (q8 (z6 y6 (x6 2) (x6 3)) (q8 (q9 1) x0))) x0))) (ε:=[.sh (qK ws),.sh (.at (.int (k:Int))),.sh (qK onw)])
  (λp:Wy×Wy=>PV.tup [wyP p.1,wyP p.2]) (λp:Wy×Wy=>wyP (zC p.1 (zj ws[k] p.2))) (ws.zip onw) (by show some (xu (ws.map wyP) (onw.map wyP))=_;rw [Pn]) rfl (by rw [List.length_zip];omega) λp hp=>⟨_,rfl,j5 (v4 rfl (v4 (j5 (v4 (w6 rfl rfl (zR (v:=wyP ws[k]) (by rw [yM,yL hk];rfl))) (v4 rfl rfl)) (Tp (by
   have q1:=l1 _ hw;have q2:=l2 p.2 (List.of_mem_zip hp).2;omega))) rfl)) (Ts _ _)⟩
 refine e.trans ?_;unfold qK thr;rw [hg,Po,yz];rfl
theorem TM {k:Nat}(G:qg h rss)(hk:k<=h)(h4:h<=4):∀ r∈o4 rss k,∀ w∈r,w.2.length<=100:=by
 intro r hr w hw;have S:=Shp.all G k hk;have F:=FW.all G k hk;obtain ⟨f,hf,rfl⟩:=uJ hr;obtain ⟨g,hg,rfl⟩:=uJ hw;have hf':f<=h:=by have:=S.len;omega
 have hg':g<h:=by rw [<- S.row _ hr];exact hg
 have e:y3 (o4 rss k) f g=(o4 rss k)[f][g]:=by unfold y3;rw [ql hf,ql hg]
 have q:=F.len f g hf' hg';rw [e] at q;have:2 ^ k<=2 ^ 4:=Nat.pow_le_pow_right (by decide) (by omega);omega
def QZ (T:List (List Wy)):PV:= .lst (T.map qK)
theorem Tr (G:qg h rss)(h1:1<=h)(h4:h<=4):Zf [k4 rss]=some (QZ (o4 rss h)):=by
 have hlim:lim=1000000:=rfl;have hlimI:(lim:Int)=1000000:=rfl;have hlen:=G.len;have st:k6 [none] [0] (b7 (q9 0)) (v7 0) u5 (x9 QA (q8 (q9 0) x0)) [.sh (k4 rss),.no,.no,.no]=some (QZ (o4 rss 0)):=by refine (o8 qH (λr=>qK (zp r)) rss rfl rfl (by omega) λr hr=>⟨_,rfl,j5 rfl (Tz (by rw [(G.row r hr).1];exact h4))⟩).trans ?_;show _=some (PV.lst ((rss.map zp).map qK));rw [yz];rfl
 have rg:zz (q8 (z6 xH (x9 qf (q8 (x6 0) x0)) (dC (.int 1))) x0) [.sh (k4 rss),.sh (QZ (o4 rss 0)),.no,.no]=some ((List.range h).map λ(i:Nat)=>PV.at (.int ((0:Int)+i))):=by refine ZE (k:=h) (v4 (w6 (j5 rfl rfl) rfl ?_) rfl) (by omega);show some (PV.at (.int (((rss.map qH).length:Int)-1)))=_;rw [yZ,hlen,show ((h+1:Nat):Int)-1=(h:Int) by omega]
 have lp:=Qu (g:=v7 2) (f:=y0 (o6 3 (z6 y6 (x6 1) (x6 2))) (o6 1 (k6 [none,some 2,some 3] [0] (b7 (q9 1)) (v7 0) u5 (x9 wv (q8 (q9 0) (q8 (q9 1) (q8 (q9 2) x0)))))))
  (λ(i:Nat)=>PV.at (.int ((0:Int)+i))) (λl ε=>∃(k:Nat)(s2 s3:MSlot),l=(List.range h).drop k/\k<=h/\ε=[.sh (k4 rss),.sh (QZ (o4 rss k)),s2,s3]) (by
   rintro i l ε ⟨k,s2,s3,el,hk,rfl⟩;have hkl:k<h:=by
    have e5:(i::l).length=((List.range h).drop k).length:=by rw [<- el]
    rw [uH,uC,yS] at e5;omega
   have ei:i=k:=by
    have:((List.range h).drop k)[0]?=some i:=by rw [<- el];rfl
    rw [ux,List.getElem?_range (by omega)] at this;simpa using this.symm
   have er:l=(List.range h).drop (k+1):=by
    have:((List.range h).drop k).tail=l:=by rw [<- el];rfl
    rw [<- this,List.tail_drop]
   subst ei;have S:=Shp.all G i hk;have hT:i<(o4 rss i).length:=by rw [S.len];omega
   have gD:(o4 rss i).getD i []=(o4 rss i)[i]:=ql hT;have wl:=TM G hk h4;refine ⟨_,_,rfl,u6 (qz (x:=qK (o4 rss i)[i]) (w6 rfl rfl ?_)) (qz (x:=QZ (o4 rss (i+1))) ?_),i+1,_,_,er,hkl,rfl⟩
   ·show atI ((o4 rss i).map qK) (0+(i:Int))=_;rw [Int.zero_add];exact zR (by rw [yM,yL hT];rfl)
   ·refine (o8 qK (λrow=>qK (thr row i (o4 rss i)[i])) (o4 rss i) rfl rfl (by rw [S.len];omega) λrow hr=>⟨_,rfl,j5 rfl ?_⟩).trans ?_
    ·show wv [qK row,.at (.int (0+(i:Int))),qK (o4 rss i)[i]]=_;rw [Int.zero_add];exact TC (by rw [S.row row hr];exact hkl) (by rw [S.row row hr];exact h4) (wl row hr) (wl _ (ye hT))
    ·show _=some (PV.lst ((qS (o4 rss i) i).map qK));unfold qS;rw [yz,gD];rfl) (List.range h) _ ⟨0,.no,.no,rfl,yo _,rfl⟩
 obtain ⟨ε',e',k,s2,s3,el,hk,rfl⟩:=lp;have ek:k=h:=by have:=congrArg List.length el;rw [uH,uC] at this;simp at this;omega
 subst ek;exact qk rfl (u6 (qz st) (u6 (XC rg e') (m4 rfl)))
theorem TB (h4:ws.length<=4):Zh [qK ws]=some (qH (ws.map (·.1))):=by have hlim:lim=1000000:=rfl;refine jw rfl (m4 ((o8 wyP (λw=>vh w.1) ws rfl rfl (by omega) λw _=>⟨_,rfl,rfl⟩).trans ?_));unfold qH;rw [yz];rfl
theorem Tq (G:qg h rss)(h1:1<=h)(h4:h<=4):Ze [k4 rss]=some (k4 (vx rss h)):=by have hlim:lim=1000000:=rfl;have S:=Shp.all G h (yY _);refine jw rfl (u6 (Qj (j5 rfl (BP G h1 h4))) (m4 ((o8 qK (λws=>qH (ws.map (·.1))) (o4 rss h) (XD (j5 rfl (Tr G h1 h4))) rfl (by rw [S.len];omega) λws hw=>⟨_,rfl,j5 rfl (TB (by rw [S.row ws hw];exact h4))⟩).trans ?_)));show _=some (PV.lst ((vx rss h).map qH));unfold vx;rw [yz];rfl
def Dr.low (d:Dr):List (List Int):=vx d.rss d.h
def Dn:List Str:=["least","given","held","last","time"]
def Dr.ob (C:Addr)(d:Dr):PV:= .ob C Dn [k4 d.low,k4 d.rss,.fk (keysOf d.cls) (d.cls.map Cl.pv),.at (.int d.last),.at (.int d.time)]
def Dr.names (d:Dr):List Str:=d.cls.map Cl.name
section
variable {C:Addr}{d:Dr}
theorem BT:vy C [d.ob C]=some (.tup [.at (.int d.last),.at (.int d.time)]):=qk rfl (m4 (vd (v4 (xp rfl rfl) (v4 (xp rfl rfl) rfl)) (by first|decide|(show 1<=lim;decide)|(show 2<=lim;decide)|(show 3<=lim;decide))))
theorem De {i:Nat}{x:PV}(h1:a ε=some x)(h2:ε[i]?=some (.ow (.lst xs)))(h3:xs.length<=lim):Qc i a ε=some (.nx (ε.set i (.ow (.lst (xs++[x]))))):=by unfold Qc;rw [h1];show (match ε[i]? with|some (.ow (.lst xs))=>if xs.length<=lim then some (Out.nx (ε.set i (.ow (.lst (xs++[x]))))) else none|_=>none)=_;rw [h2];exact if_pos h3
theorem Gd {y z:PV}{k:v9}(h1:a ε=some (.fk ks xs))(h2:b ε=some y)(h3:zk y=some k)(h4:qF k ks xs=some z):vY a b ε=some z:=by unfold vY;rw [h1,h2];show (zk y).bind _=_;rw [h3];exact h4
theorem Dg {y:PV}{k:v9}{o:Option PV}(h1:a ε=some (.fk ks xs))(h2:b ε=some y)(h3:zk y=some k)(h4:qF k ks xs=o):Qd b a ε=some (.at (.bl (!o.isSome))):=by unfold Qd;rw [h1,h2];show (zk y).bind _=_;rw [h3,<- h4];rfl
theorem BQ (ok:d.Ok)(hc:c∈d.cls):jB C [d.ob C,.at (.str c.name)]=some c.pv:=by
 have lk:=JH Cl.pv ok.nd c hc;refine Jk rfl (u6 (qy (xR (qp (qx (j5 rfl Jy))) (m3 (v:=false) ?_)) qA) (m4 ?_))
 ·exact Dg (xp rfl rfl) rfl rfl lk
 ·exact Gd (xp rfl rfl) rfl rfl lk
theorem Dc (a b:Int):pEq (.at (.int a)) (.at (.int b))=some (.at (.bl (decide (a=b)))):=by show some (PV.at (.bl (qd (.int a) (.int b))))=_;have:qd (.int a) (.int b)=decide (a=b):=rfl;rw [this]
theorem MR (a b:Int):qt (.at (.int a)) (.at (.int b))=some (.at (.bl (!decide (a=b)))):=by show some (PV.at (.bl (!qd (.int a) (.int b))))=_;have:qd (.int a) (.int b)=decide (a=b):=rfl;rw [this]
structure Lst (d:Dr)(ns:List Cl):Prop where
 sub:∀ c∈ns,c∈d.cls
 nd:(ns.map Cl.name).Nodup
def nmP (cs:List Cl):PV:= .lst (z8 (cs.map Cl.name))
theorem Lst.len (ok:d.Ok)(L:Lst d ns):ns.length<=10:=by
 have:=JT L.nd (left:=d.cls.map Cl.name) λx hx=>by
  obtain ⟨c,hc,rfl⟩:=yx.mp hx;exact yx.mpr ⟨c,L.sub c hc,rfl⟩
 rw [yZ,yZ] at this;have:=ok.ten;omega
theorem Tk (ok:d.Ok)(L:Lst d ns)(hN:wp C [d.ob C,nmP ns]=some (.at (.bl true))):Qw C [d.ob C,nmP ns]=some (.at .non):=Dh rfl (qy (qp (qx (j5 rfl hN))) qA)
end
section
variable {C:Addr}{d:Dr}
theorem Mo (cs:List Cl):jz (keysOf cs)=some (cs.map Cl.name):=by
 induction cs with
 |nil=>rfl
 |cons c cs ih=>show (jz (keysOf cs)).map (c.name::·)=_;rw [ih];rfl
theorem Bs (ss:List Str):xK (z8 ss)=some ss:=by
 induction ss with
 |nil=>rfl
 |cons s ss ih=>show (xK (z8 ss)).map (s::·)=_;rw [ih];rfl
theorem WM (ok:d.Ok):zD C [d.ob C]=some (.lst (z8 (qI d.names))):=by refine jw rfl (m4 (j5 (v4 (xp rfl rfl) rfl) ?_));show (jz (keysOf d.cls)).bind _=_;rw [Mo,yE,if_pos (by rw [yZ];have:=ok.ten;omega)];rfl
theorem Be {ss:List Str}(h:ss.Nodup):∀ i,i<=ss.length->c7 (λi=>(Sum.inr (ss.getD i ⟨#[]⟩):v9)) i=(ss.take i).map Sum.inr
 |0,_=>rfl
 |i+1,hi=>by
  have ih:=Be h i (by omega);have hl:i<ss.length:=by omega
  have eg:ss.getD i ⟨#[]⟩=ss[i]:=ql hl;have hn:ss[i]∉ss.take i:=λz=>by
   have e:ss=ss.take i++ss[i]::ss.drop (i+1):=by rw [<- uW hl,List.take_append_drop]
   rw [e] at h;exact (List.nodup_append.mp h).2.2 _ z _ yK rfl
  unfold c7;rw [ih,eg,if_neg (λz=>hn (by
   obtain ⟨y,hy,e⟩:=yx.mp z;injection e with e;rw [<- e];exact hy)),List.take_add_one,yL hl,yu]
  rfl
theorem MK (h:ss.Nodup):JN ss=ss.length:=by unfold JN;rw [Be h _ (yY _),yZ,List.take_length]
theorem v_are (ok:d.Ok)(L:Lst d ns):wp C [d.ob C,nmP ns]=some (.at (.bl true)):=by
 have hlim:lim=1000000:=rfl;have l10:=L.len ok;have en:z8 (ns.map Cl.name)=(ns.map Cl.name).map λs=>PV.at (.str s):=rfl;refine Jk rfl (u6 (qy (qp (qx (j5 rfl Jx))) qA) (u6 (qz (zi rfl (by decide) rfl (WM ok))) (m4 (vc (j5 (v4 (Gb (λs:Str=>PV.at (.str s)) (λ_=>PV.at (.bl true)) (ns.map Cl.name) rfl rfl (by rw [yZ];omega) λs hs=>⟨_,rfl,w6 rfl rfl ((XI false s _).trans ?_)⟩) rfl) (jT _)) (w6 (y:= .at (.int (ns.length:Int))) (x:= .at (.int (ns.length:Int))) ?_ ?_ (JU rfl))))))
 ·obtain ⟨c,hc,rfl⟩:=yx.mp hs;have:c.name∈qI d.names:=(QU d.names).mem_iff.mpr (yx.mpr ⟨c,L.sub c hc,rfl⟩);simp [this]
 ·show (xK (z8 (ns.map Cl.name))).bind _=_;rw [Bs,yE,if_pos (by rw [yZ];omega),MK L.nd,yZ]
 ·refine j5 rfl ?_;show some (PV.at (.int ((z8 (ns.map Cl.name)).length:Int)))=_;rw [QW,yZ]
end
section
variable {C:Addr}{d:Dr}
theorem Qk {f:Str}{y:PV}{ns:List Str}(h1:a ε=some y)(h0:ε[0]?=some (.ow (.ob C ns xs)))(hf:f∉ns)(hl:ns.length<1000):zA C f a ε=some (.nx (ε.set 0 (.ow (.ob C (ns++[f]) (xs++[y]))))):=by unfold zA;rw [h1,yE,h0];exact if_pos ⟨rfl,hf,hl⟩
theorem Ge {nm:Str}{m:List PV->Option PV}{i:Nat}{as:MA}{ns:List Str}{fs:List PV}{u:V}(h0:ε[i]?=some (.ow (.ob C ns fs)))(hn:nm∉ns)(k:as ε=some xs)(e:m (.ob C ns fs::xs)=some (.at u)):wa C nm m i as ε=some (.at u):=by unfold wa;rw [h0];show (if C=C/\nm∉ns then _ else _)=_;rw [if_pos ⟨rfl,hn⟩,k,yE,e];rfl
theorem BR (ok:d.Ok):wn C [.ob C ["least"] [k4 d.low]]=some (.at (.int d.h)):=by have G:=MD ok.rin;refine qk rfl (m4 (w6 (j5 (v4 (xp rfl rfl) rfl) rfl) rfl ?_));show some (PV.at (.int (((d.low.map qH).length:Int)-1)))=_;rw [yZ,show d.low.length=d.h+1 from G.len,show ((d.h+1:Nat):Int)-1=(d.h:Int) by omega]
theorem Km:∀ cs:List Cl,vH (cs.map λc=>PV.tup [.at (.str c.name),c.pv])=some (cs.map λc=>((.inr c.name:v9),c.pv))
 |[]=>rfl
 |c::cs=>by
  show Option.bind (some (Sum.inr c.name)) (λkk=>(vH (cs.map λc=>PV.tup [.at (.str c.name),c.pv])).map ((kk,c.pv)::·))=_;rw [yE,Km cs];rfl
theorem Mp (h:(cs.map Cl.name).Nodup):(keysOf cs).Nodup:=by
 induction cs with
 |nil=>exact uS
 |cons c cs ih=>rw [yT] at h;have h':=yh.mp h;refine yh.mpr ⟨λz=>?_,ih h'.2⟩;obtain ⟨y,hy,e⟩:=yx.mp z;injection e with e;exact h'.1 (yx.mpr ⟨y,hy,e⟩)
theorem ZP (ok:d.Ok):xz C [k4 d.rss,.lst (d.cls.map Cl.pv),.at (.int d.last),.at (.int d.time)]=some (d.ob C):=by
 have hlim:lim=1000000:=rfl;have ten:=ok.ten;have glen:=ok.rin.len;have h4:=ok.h4;have cp:∀(s0 s2 s3 s4:MSlot),k6 [none] [0] (b7 (q9 1)) (v7 0) u5 (x9 wC (q8 (x6 0) x0)) [s0,.sh (k4 d.rss),s2,s3,s4]=some (k4 d.rss):=λs0 s2 s3 s4 =>
  o8 qH qH d.rss rfl rfl (by omega) λr _=>⟨_,rfl,rfl⟩
 have dk:∀(s0 s1 s3 s4:MSlot),x9 Zq (q8 (k6 [none] [0] (b7 (q9 2)) (v7 0) u5 (qR (q8 (x9 jd (q8 (q9 0) x0)) (q8 (q9 0) x0)))) x0) [s0,s1,.sh (.lst (d.cls.map Cl.pv)),s3,s4]=some (.fk (keysOf d.cls) (d.cls.map Cl.pv)):=λs0 s1 s3 s4=>by
  refine j5 (v4 (o8 Cl.pv (λc=>PV.tup [.at (.str c.name),c.pv]) d.cls rfl rfl (by omega) λc _=>⟨_,rfl,vd (v4 (j5 rfl rfl) (v4 rfl rfl)) l2⟩) rfl) ?_;show (vH (d.cls.map λc=>PV.tup [.at (.str c.name),c.pv])).bind _=_;have k1:(d.cls.map λc=>((.inr c.name:v9),c.pv)).map (·.1)=keysOf d.cls:=by rw [yz];rfl
  have k2:(d.cls.map λc=>((.inr c.name:v9),c.pv)).map (·.2)=d.cls.map Cl.pv:=by rw [yz];rfl
  rw [Km,yE,k1,k2];exact if_pos ⟨Mp ok.nd,by rw [yZ];omega⟩
 have run:Xn C [.ow (.ob C [] []),.sh (k4 d.rss),.sh (.lst (d.cls.map Cl.pv)),.sh (.at (.int d.last)),.sh (.at (.int d.time))]=some (.nx [.ow (d.ob C),.sh (k4 d.rss),.sh (.lst (d.cls.map Cl.pv)),.sh (.at (.int d.last)),.sh (.at (.int d.time))]) :=
  u6 (Qk (j5 rfl (Tq ok.rin ok.h1 ok.h4)) rfl (by decide) (by decide)) (u6 (Qj (j5 (v4 rfl (v4 rfl (v4 (Ge rfl (by decide) rfl (BR ok)) rfl))) (Tl ok.l1 ok.l2 ok.t1)))
   (u6 (Qj (j5 (v4 rfl (v4 (Ge rfl (by decide) rfl (BR ok)) rfl)) (Tj ok.cl ok.nd ok.ten)))
   (u6 (Qk (cp _ _ _ _) rfl (by decide) (by decide)) (u6 (Qk (dk _ _ _ _) rfl (by decide) (by decide)) (u6 (Qk (y:= .at (.int d.last)) (f:="last") (ns:=["least","given","held"]) (Jo (m3 (v:=false) (w6 rfl rfl rfl)) rfl) rfl (by decide) (by decide)) (Qk (y:= .at (.int d.time)) (f:="time") (ns:=["least","given","held","last"]) (xs:=[k4 d.low,k4 d.rss,.fk (keysOf d.cls) (d.cls.map Cl.pv),.at (.int d.last)]) rfl rfl (by decide) (by decide)))))))
 unfold xz Qe;refine (if_pos rfl).trans ?_;show (Xn C [.ow (.ob C [] []),.sh (k4 d.rss),.sh (.lst (d.cls.map Cl.pv)),.sh (.at (.int d.last)),.sh (.at (.int d.time))]).bind _=_;rw [run];rfl
end
def Dr.with (d:Dr)(cs:List Cl):Dr:=⟨d.h,d.rss,cs,d.last,d.time⟩
section
variable {C:Addr}{d:Dr}
theorem LX (ok:d.Ok)(h10:cs.length<=10)(hc:∀ c∈cs,c∈d.cls)(nd:(cs.map Cl.name).Nodup):(d.with cs).Ok:=⟨ok.h1,ok.h4,ok.rin,h10,λc h=>ok.cl c (hc c h),nd,ok.l1,ok.l2,ok.t1,ok.t2⟩
theorem Tu (ok:d.Ok)(L:Lst d ns):wo C [d.ob C,nmP ns]=some ((d.with ns).ob C):=by
 have hlim:lim=1000000:=rfl;have l10:=L.len ok;have okw:(d.with ns).Ok:=LX ok l10 L.sub L.nd;have cm:zV [none,some 0] [0] (b7 (x6 1)) (v7 0) u5 (vY (qo C "held" (q9 1)) (x6 0)) [.sh (d.ob C),.bo (nmP ns)]=some (.lst (ns.map Cl.pv)):=by refine Gb (λc:Cl=>PV.at (.str c.name)) Cl.pv ns ?_ rfl (by omega) λc hc=>⟨_,rfl,Gd (xp rfl rfl) rfl rfl (JH Cl.pv ok.nd c (L.sub c hc))⟩;show some (z8 (ns.map Cl.name))=_;unfold z8;rw [yz];rfl
 exact Jk rfl (u6 (Qj (j5 rfl (Tk ok L (v_are ok L)))) (m4 (j5 (v4 (xp rfl rfl) (v4 cm (v4 (xp rfl rfl) (v4 (xp rfl rfl) rfl)))) (ZP okw))))
end
theorem UZ (a b:Str):pEq (.at (.str a)) (.at (.str b))=some (.at (.bl (decide (a=b)))):=by show some (PV.at (.bl (qd (.str a) (.str b))))=_;have:qd (.str a) (.str b)=decide (a=b):=rfl;rw [this]
section
variable {C:Addr}{d:Dr}
theorem Di (h:a ε=some (.fk ks xs))(hl:xs.length<=1000):Xs a ε=some (.lst xs):=by unfold Xs;rw [h];exact if_pos hl
theorem v_put (ok:d.Ok)(okw:(d.with (d.cls++[c])).Ok):Qv C [d.ob C,c.pv]=some ((d.with (d.cls++[c])).ob C):=by
 have hlim:lim=1000000:=rfl;have ten:=ok.ten;have e:(d.cls++[c]).map Cl.pv=d.cls.map Cl.pv++[c.pv]:=by rw [yu];rfl
 have vi:=ZP (C:=C) okw;rw [show (d.with (d.cls++[c])).cls.map Cl.pv=d.cls.map Cl.pv++[c.pv] from e] at vi;exact qk rfl (m4 (j5 (v4 (xp rfl rfl) (v4 (w6 (Di (xp rfl rfl) (by rw [yZ];omega)) (zY rfl l1) (Zp (by rw [yZ];show d.cls.length+1<=lim;omega))) (v4 (xp rfl rfl) (v4 (xp rfl rfl) rfl)))) vi))
theorem NS :jH 6 (.lst (z8 ss)):=λx hx=>by
 obtain ⟨s,_,rfl⟩:=yx.mp hx;rfl
theorem NQ (c:Cl):jH 6 c.pv:=by
 intro y hy;have h:y = .at (.str c.name)∨y = .at (.int (c.hue:Int))∨y = .at (.int c.len)∨y = .at (.int c.due)∨y = .at (.int c.wt):=by simpa using hy
 rcases h with rfl|rfl|rfl|rfl|rfl<;>rfl
theorem NR (rss:List (List Int)):jH 6 (k4 rss):=by intro x hx;obtain ⟨r,_,rfl⟩:=yx.mp hx;intro y hy;obtain ⟨n,_,rfl⟩:=yx.mp hy;rfl
theorem BS (ok:d.Ok):jC C [d.ob C]=some (k4 d.rss):=by have hlim:lim=1000000:=rfl;have glen:=ok.rin.len;have h4:=ok.h4;exact jw rfl (m4 (o8 qH qH d.rss (XD (xp rfl rfl)) rfl (by omega) λr _=>⟨_,rfl,rfl⟩))
theorem ZI {a b:List Str}(p:a.Perm b):qI a=qI b:=QT ((QU a).trans p) (Bl a)
theorem WP (ok:d.Ok)(p:cs.Perm d.cls):zG C [d.ob C,k4 d.rss,.lst (cs.map Cl.pv),.tup [.at (.int d.last),.at (.int d.time)]]=some (.at (.bl true)):=by
 have hlim:lim=1000000:=rfl;have ten:=ok.ten;have pl:=p.length_eq;have so:QH [.lst (z8 (cs.map Cl.name))]=some (.lst (z8 (qI d.names))):=by show (xK (z8 (cs.map Cl.name))).bind _=_;rw [Bs,yE,if_pos (by rw [yZ];omega),ZI (p.map Cl.name)];rfl
 have cm:k6 [none] [0] (b7 (q9 2)) (v7 0) u5 (z6 y6 (x6 0) (dC (.int 0))) [.sh (d.ob C),.sh (k4 d.rss),.sh (.lst (cs.map Cl.pv)),.sh (.tup [.at (.int d.last),.at (.int d.time)])]=some (.lst (z8 (cs.map Cl.name))):=by refine (o8 Cl.pv (λc=>PV.at (.str c.name)) cs rfl rfl (by omega) λc _=>⟨_,rfl,w6 rfl rfl rfl⟩).trans ?_;unfold z8;rw [yz];rfl
 refine qk rfl (u6 (qy (xR (qp (qx (j5 rfl (show Zr C [d.ob C,.at (.ref C)]=some (.at (.bl true)) from if_pos ⟨rfl,rfl⟩)))) (m3 (v:=false) (w6 (zi rfl (by decide) rfl (WM ok)) (j5 (v4 cm rfl) so) (vC NS)))) qA) (u6 (qy (xR (m3 (v:=false) (w6 (zi rfl (by decide) rfl BT) rfl (vC ?_))) (m3 (v:=false) (w6 (zi rfl (by decide) rfl (BS ok)) rfl (vC (NR _))))) qA) (m4 (j5 (v4 (o8 Cl.pv (λ_=>PV.at (.bl true)) cs rfl rfl (by omega) λc hc=>⟨_,rfl,w6 (zi rfl (by decide) (v4 (w6 rfl rfl rfl) rfl) (BQ ok (p.mem_iff.mp hc))) rfl (JU (NQ c))⟩) rfl) (jT _)))));intro y hy;have h:y = .at (.int d.last)∨y = .at (.int d.time):=by simpa using hy
 rcases h with rfl|rfl<;>rfl
end
open PySem
section
variable {x y:Str}{c o:Nat}
theorem at_list {k:Nat}:StrLaws.At x y x.length k↔k+y.cps.toList.length<=x.cps.toList.length/\(x.cps.toList.drop k).take y.cps.toList.length=y.cps.toList:=by
 unfold StrLaws.At;rw [StrLaws.subAt_eq];have e1:y.length=y.cps.toList.length:=(yi).symm;have e2:x.length=x.cps.toList.length:=(yi).symm;rw [e1,e2];constructor
 ·rintro ⟨h1,h2⟩;exact ⟨h1,by simpa using h2⟩
 ·rintro ⟨h1,h2⟩;exact ⟨h1,by simpa using h2⟩
theorem Ym {k:Nat}(h:StrLaws.At x y x.length k)(hy:y.cps.toList[o]?=some c):x.cps.toList[k+o]?=some c:=by obtain ⟨h1,h2⟩:=at_list.mp h;have ho:o<y.cps.toList.length:=(yv.mp hy).1;rw [<- h2,List.getElem?_take,if_pos ho,ux] at hy;exact hy
theorem GX (hy:y.cps.toList[o]?=some c)(hf:∀ i,i<o->y.cps.toList[i]?≠some c):∀(r:List Str)(p:Str)(a:Nat)(cuts:List Nat)(f:Nat),(∀ q∈p::r,c∉q.cps.toList)->x.cps.toList.drop a=(Str.join y (p::r)).cps.toList->StrLaws.ChainG x y x.length a cuts f->(∀ k,f<=k->¬ StrLaws.At x y x.length k) -> StrLaws.partsFrom x y.length a cuts=p::r
 |[],p,a,cuts,f,hc,hd,hg,he=>by
  have hd:x.cps.toList.drop a=p.cps.toList:=hd;have no:∀ k,a<=k->¬ StrLaws.At x y x.length k:=λk hk h=>by
   have h1:=Ym h hy;have h2:p.cps.toList[k-a+o]?=some c:=by rw [<- hd,ux,show a+(k-a+o)=k+o by omega];exact h1
   exact hc p yK (uU h2)
  cases cuts with
  |nil =>
   show [Builtin.Str.strSub x a x.length]=[p]
   congr 1
   refine Str.ext' (um.mp ?_);rw [StrLaws.strSub_toList,hd,List.take_of_length_le];rw [<- hd,uH,yi];exact yY _
  |cons k cs=>exact absurd hg.2.1 (no k hg.1)
 |q::r,p,a,cuts,f,hc,hd,hg,he=>by
  have hj:(Str.join y (p::q::r)).cps.toList=p.cps.toList++(y.cps.toList++(Str.join y (q::r)).cps.toList):=by show (p++y++Str.join y (q::r)).cps.toList=_;rw [Str.cps_append,Str.cps_append,uA,uA,uZ]
  rw [hj] at hd;have ho:o<y.cps.toList.length:=(yv.mp hy).1;have ea:StrLaws.At x y x.length (a+p.cps.toList.length):=by
   have e2:x.cps.toList.drop (a+p.cps.toList.length)=y.cps.toList++(Str.join y (q::r)).cps.toList:=by rw [<- List.drop_drop,hd,List.drop_left' rfl]
   refine at_list.mpr ⟨?_,?_⟩
   ·have:=congrArg List.length e2;rw [uH,yH] at this;omega
   ·rw [e2,List.take_left' rfl]
  cases cuts with
  |nil=>have e:f=a:=hg;exact absurd ea (he _ (by omega))
  |cons k cs =>
   obtain ⟨h1,h2,h3,h4⟩:=hg;have k1:k<=a+p.cps.toList.length:=Classical.byContradiction λz=>h3 (a+p.cps.toList.length) (by omega) (by omega) ea;have k2:¬ k<a+p.cps.toList.length:=λz=>by
    have g:=Ym h2 hy;have g2:(p.cps.toList++(y.cps.toList++(Str.join y (q::r)).cps.toList))[k-a+o]?=some c:=by rw [<- hd,ux,show a+(k-a+o)=k+o by omega];exact g
    by_cases hl:k-a+o<p.cps.toList.length
    ·rw [yn hl] at g2;exact hc p yK (uU g2)
    ·rw [yc (by omega),yn (by omega)] at g2;exact hf _ (by omega) g2
   have ek:k=a+p.cps.toList.length:=by omega
   subst ek;show Builtin.Str.strSub x a (a+p.cps.toList.length)::StrLaws.partsFrom x y.length (a+p.cps.toList.length+y.length) cs=_;rw [GX hy hf r q _ cs f (λz hz=>hc z (yN _ hz)) ?_ h4 he]
   ·congr 1
    refine Str.ext' (um.mp ?_);rw [StrLaws.strSub_toList,hd,Nat.add_sub_cancel_left,List.take_left' rfl]
   ·rw [show y.length=y.cps.toList.length from yi.symm,<- List.drop_drop,<- List.drop_drop,hd,List.drop_left' rfl,List.drop_left' rfl]
theorem Wz (hy:y.cps.toList[o]?=some c)(hf:∀ i,i<o->y.cps.toList[i]?≠some c)(hk:∀ x:Str,¬ Builtin.Str.strKind x<Builtin.Str.strKind y){r:List Str}(hc:∀ q∈p::r,c∉q.cps.toList):Txt.split (Str.join y (p::r)) y=p::r:=by
 have ho:o<y.cps.toList.length:=(yv.mp hy).1;have hw:1<=y.length:=by have:y.cps.toList.length=y.length:=yi;omega
 obtain ⟨f,hg,he⟩:=StrLaws.occ_tight (Str.join y (p::r)) y hw;have key:=GX hy hf r p 0 _ f hc rfl hg he;have one:∀{cuts:List Nat},cuts=[]->StrLaws.partsFrom (Str.join y (p::r)) y.length 0 cuts=[Str.join y (p::r)]:=λe=>by
  subst e;show [Builtin.Str.strSub _ 0 _]=_;rw [StrLaws.sub_whole]
 unfold Txt.split;split
 ·rename_i hl;have hl:(Str.join y (p::r)).length<y.length:=by
   rcases (Bool.or_eq_true _ _).mp hl with h|h
   ·exact yd h
   ·exact absurd (yd h) (hk _)
  have e:Builtin.Str.occurrences (Str.join y (p::r)) y 0 (Str.join y (p::r)).length ((Str.join y (p::r)).length+1)=[]:=by
   cases hc:Builtin.Str.occurrences (Str.join y (p::r)) y 0 (Str.join y (p::r)).length ((Str.join y (p::r)).length+1) with
   |nil=>rfl
   |cons k cs=>rw [hc] at hg;have:=hg.2.1.1;omega
  exact (one e).symm.trans key
 ·split
  ·rename_i hm;exact (one (List.isEmpty_iff.mp hm)).symm.trans key
  ·rw [StrLaws.partsBetween_eq];exact key
end
theorem JD (h:Builtin.Str.strKind y=1):∀ x:Str,¬ Builtin.Str.strKind x<Builtin.Str.strKind y:=λx=>by
 rw [h];unfold Builtin.Str.strKind;split
 ·decide
 ·split<;>decide
theorem ZJ {r:List Str}(hc:∀ q∈p::r,32∉q.cps.toList):Txt.split (Str.join " " (p::r)) " "=p::r:=Wz (c:=32) (o:=0) (by decide +kernel) (λi hi=>absurd hi (Nat.not_lt_zero _)) (JD (by decide +kernel)) hc
theorem RF {r:List Str}(hc:∀ q∈p::r,59∉q.cps.toList):Txt.split (Str.join "; " (p::r)) "; "=p::r:=Wz (c:=59) (o:=0) (by decide +kernel) (λi hi=>absurd hi (Nat.not_lt_zero _)) (JD (by decide +kernel)) hc
theorem RG {r:List Str}(hc:∀ q∈p::r,47∉q.cps.toList):Txt.split (Str.join " / " (p::r)) " / "=p::r:=Wz (c:=47) (o:=1) (by decide +kernel) (λi hi=>by
 have e:i=0:=by omega
 subst e;decide +kernel) (JD (by decide +kernel)) hc
theorem wx {y:Str}{c:Nat}:∀{r:List Str},c∈(Str.join y r).cps.toList->c∈y.cps.toList∨∃ q∈r,c∈q.cps.toList
 |[],h=>absurd h (by show ¬ c∈([]:List Nat);exact yt)
 |[p],h=> .inr ⟨p,yK,h⟩
 |p::q::r,h=>by
  have hj:(Str.join y (p::q::r)).cps.toList=p.cps.toList++(y.cps.toList++(Str.join y (q::r)).cps.toList):=by show (p++y++Str.join y (q::r)).cps.toList=_;rw [Str.cps_append,Str.cps_append,uA,uA,uZ]
  rw [hj] at h;rcases ym.mp h with h|h
  ·exact .inr ⟨p,yK,h⟩
  ·rcases ym.mp h with h|h
   ·exact .inl h
   ·rcases wx h with h|⟨z,hz,h⟩
    ·exact .inl h
    ·exact .inr ⟨z,yN _ hz,h⟩
theorem Qq {r:List Str}(h:∀ q∈r,q.length<=B):(Str.join y r).length<=r.length*B+r.length*y.length:=by have h1:=StrLaws.join_length_le y r;have h2:=StrLaws.sumLen_le r h;omega
theorem Gu {r:List Str}(h:∀ q∈r,q.length<=B)(hb:r.length*B+r.length*y.length<=16777216):JoinOk y r=true:=by unfold JoinOk;rw [StrLaws.joinFits h hb];rfl
open PySem
def tx (n:Int):Str:=Str.ofString (toString n)
def dg (m:Nat):List Nat:=(Nat.toDigits 10 m).map Char.toNat
theorem Xw (m:Nat):∀ c∈dg m,48<=c/\c<=57:=λc hc=>by
 obtain ⟨ch,hch,e⟩:=yx.mp hc;rw [<- e];exact PyProof.Rows.digit_range (Nat.isDigit_of_mem_toDigits (by decide) (by decide) hch)
theorem Qh (m:Nat):1<=(dg m).length:=by unfold dg;rw [yZ];exact PySem.toDigits_len_ge 10 m
theorem Jh (h:m<10 ^ 30):(dg m).length<=30:=by unfold dg;rw [yZ];exact PyProof.Rows.digits10_le (by decide) h
theorem CT:∀ d:Nat,d<10->0<d->(Nat.digitChar d).toNat≠48:=by decide
theorem CP:∀ m:Nat,0<m->(dg m)[0]?≠some 48:=by
 intro m
 induction m using Nat.strongRecOn with
 |_ m ih =>
  intro hm;by_cases h:m<10
  ·unfold dg;rw [Nat.toDigits_of_lt_base h];intro z;exact CT m h hm (by simpa using z)
  ·have hm':m % 10<10:=Nat.mod_lt m (by decide);have t:Nat.toDigits 10 (m / 10)++Nat.toDigits 10 (m % 10)=Nat.toDigits 10 (10*(m / 10)+m % 10):=Nat.toDigits_append_toDigits (by decide) (by omega) hm';rw [Nat.div_add_mod] at t;unfold dg;rw [<- t,yu];have hp:=Qh (m / 10);rw [yn (show 0<((Nat.toDigits 10 (m / 10)).map Char.toNat).length from hp)];exact ih (m / 10) (by omega) (by omega)
theorem RX (m:Nat):(tx (m:Int)).cps.toList=dg m:=PySem.W.KIN.signs_num m
theorem RY (m:Nat):(tx (-((m+1:Nat):Int))).cps.toList=45::dg (m+1):=by have e:(-((m+1:Nat):Int))=Int.negSucc m:=rfl;unfold tx;rw [e,PyProof.Rows.signs_ofString];show (("-"++Nat.repr (m+1)).toList.map Char.toNat)=_;rw [String.toList_append,yu,Nat.toList_repr];rfl
theorem WH (n:Int):(∃ m:Nat,n=(m:Int)/\(tx n).cps.toList=dg m)∨∃ m:Nat,n=-((m+1:Nat):Int)/\(tx n).cps.toList=45::dg (m+1):=by
 cases n with
 |ofNat m=>exact .inl ⟨m,rfl,RX m⟩
 |negSucc m=>exact .inr ⟨m,rfl,RY m⟩
theorem WI {k:Nat}(hk:k≠45/\(k<48∨57<k))(n:Int):k∉(tx n).cps.toList:=PyProof.Rows.int_text_free' k hk n
theorem WC (x:Str):x.length=x.cps.toList.length:=yi.symm
abbrev NB (n:Int):Prop:=n.natAbs<10 ^ 30
theorem xM (h:NB n):(tx n).length<=31/\1<=(tx n).length:=by
 rw [WC];rcases WH n with ⟨m,rfl,e⟩|⟨m,rfl,e⟩
 ·have h1:=Jh (m:=m) (by simpa using h);have h2:=Qh m;rw [e];omega
 ·have h1:=Jh (m:=m+1) (by have h:(-((m+1:Nat):Int)).natAbs<10 ^ 30:=h;rw [Int.natAbs_neg,Int.natAbs_natCast] at h;exact h);rw [e,yS];omega
theorem RW (h:NB n):n.natAbs.log2<1920:=by
 have:n.natAbs<2 ^ 1920:=Nat.lt_trans h (by decide +kernel);by_cases h0:n.natAbs=0
 ·rw [h0];decide
 ·exact (Nat.log2_lt h0).mpr this
theorem RZ (h:NB n):intText? (tx n)=some n:=by
 have hl:=(xM h).1;rcases WH n with ⟨m,rfl,e⟩|⟨m,rfl,e⟩
 ·have:=PySem.intText_digits (x:=tx (m:Int)) (by rw [e];exact Xw m) (by rw [e];intro z;have:=Qh m;rw [z] at this;exact absurd this (by decide)) (by omega);rw [this,e];unfold dg;rw [PySem.W.KIN.val_back]
 ·have:=PySem.intText_neg (x:=tx (-((m+1:Nat):Int))) (cs:=dg (m+1)) e (Xw _) (by intro z;have:=Qh (m+1);rw [z] at this;exact absurd this (by decide)) (by omega);rw [this];unfold dg;rw [PySem.W.KIN.val_back]
theorem WB {c:Nat}(hy:y=⟨#[c]⟩){b:Bool}(h:decide (x.cps.toList[0]?=some c)=b):Txt.startswith x y=b:=by
 subst hy;have e:=StrLaws.subAt_one x c 0;unfold Txt.startswith;rw [<- h];cases hd:decide (x.cps.toList[0]?=some c) with
 |true=>have:=e.mpr (yd hd);rw [yy this.1,this.2];rfl
 |false =>
  have hn:=of_decide_eq_false hd;cases h1:Builtin.Str.subAt x ⟨#[c]⟩ 0 with
  |false=>rw [Bool.and_false]
  |true=>rw [Bool.and_true];exact yO λz=>hn (e.mp ⟨z,h1⟩)
theorem Rz (h:1<=x.length):(Txt.slice x (some 1) none).cps.toList=x.cps.toList.drop 1:=by
 have e:Builtin.Str.strSliceIndices (some 1) none 1 x.length=Builtin.Str.strSliceIndices (some ((1:Nat):Int)) (some (x.length:Int)) 1 x.length:=by simp only [Builtin.Str.strSliceIndices,sliceRange];rw [if_neg (show ¬ ((x.length:Int)<0) by omega)];simp
 have hl:(Builtin.Str.strSliceIndices (some ((1:Nat):Int)) (some (x.length:Int)) 1 x.length).length=x.length-1:=by rw [StrLaws.strSliceIndices_plain h (yY _),yZ,uC]
 unfold Txt.slice;rw [e,hl,if_neg (by simp;omega),StrLaws.sliced_plain x h (yY _)];rw [List.take_of_length_le];rw [uH,<- WC];exact yY _
def c6 (r:List Int):Str:=Str.join " " (r.map tx)
def ctx (c:Cl):Str:=Str.join " " [c.name,tx c.hue,tx c.len,tx c.due,tx c.wt]
def stx (last time:Int):Str:=Str.join " " [tx last,tx time]
def t6 (rss:List (List Int))(cs:List Cl)(last time:Int):List Str:=(("rinses ":Str)++Str.join " / " (rss.map c6))::(("start ":Str)++stx last time)::cs.map λc=>("cloth ":Str)++ctx c
def TX (rss:List (List Int))(cs:List Cl)(last time:Int):Str:=Str.join "; " (t6 rss cs last time)
theorem zX {ts:List Str}(h1:a ε=some (.at (.str s)))(h2:b ε=some (.lst (ts.map λt=>PV.at (.str t))))(h3:JoinOk s ts=true):xc a b ε=some (.at (.str (Str.join s ts))):=by unfold xc;rw [h1,h2];show (xK (ts.map λt=>PV.at (.str t))).bind _=_;rw [Bt,yE,if_pos h3]
theorem XE {t:Str}{l:List Str}(h1:a ε=some (.at (.str s)))(h2:b ε=some (.at (.str t)))(ht:1<=t.length)(hs:s.length<=100000)(hl:Txt.split s t=l)(hn:l.length<=100000):jv a b ε=some (.lst (l.map λz=>PV.at (.str z))):=by unfold jv;rw [h1,h2];subst hl;exact if_pos ⟨ht,hs,hn⟩
theorem Jm (h:a ε=some (.at (.str s)))(hl:x.length+s.length<=200000):vZ x a ε=some (.at (.str (x++s))):=by unfold vZ;rw [h];exact if_pos hl
theorem Jq {t:Str}{v:Bool}(h1:a ε=some (.at (.str s)))(h2:b ε=some (.at (.str t)))(h:Txt.startswith s t=v):wc a b ε=some (.at (.bl v)):=by unfold wc;rw [h1,h2,<- h];rfl
theorem QE {t:Str}(h:s.length+t.length<=200000):p7 (.at (.str s)) (.at (.str t))=some (.at (.str (s++t))):=if_pos (by have:lim=1000000:=rfl;omega)
theorem zK (h:NB n):xC [.at (.int n)]=some (.at (.str (tx n))):=if_pos (RW h)
theorem xV:(" ":Str).length=1:=by decide +kernel
theorem WG:("; ":Str).length=2:=by decide +kernel
theorem ZN:(" / ":Str).length=3:=by decide +kernel
theorem vk (hy:y.length<=3)(g:α->Str){l:List α}(hg:∀ a∈l,(g a).length<=5000)(hl:l.length<=20):JoinOk y (l.map g)=true:=by
 refine Gu (B:=5000) (λq hq=>?_) ?_
 ·obtain ⟨a,ha,rfl⟩:=yx.mp hq;exact hg a ha
 ·rw [yZ];have h1:l.length*5000<=20*5000:=Nat.mul_le_mul_right _ hl;have h2:l.length*y.length<=20*3:=Nat.mul_le_mul hl hy;omega
section
variable {α:Type}(f:α->PV)(g:α->Str)(l:List α)(hfa:∀ a∈l,xC [f a]=some (.at (.str (g a))))(hg:∀ a∈l,(g a).length<=5000)(hl:l.length<=20)
include hfa hg hl
theorem TF:xU [.lst (l.map f)]=some (.at (.str (Str.join " " (l.map g)))):=by have hlim:lim=1000000:=rfl;refine qk rfl (m4 (zX (ts:=l.map g) rfl ?_ (vk (by rw [xV];decide) g hg hl)));rw [yz];exact o8 f (λa=>PV.at (.str (g a))) l rfl rfl (by omega) λa ha=>⟨_,rfl,j5 rfl (hfa a ha)⟩
theorem BU:xU [.tup (l.map f)]=some (.at (.str (Str.join " " (l.map g)))):=by have hlim:lim=1000000:=rfl;refine qk rfl (m4 (zX (ts:=l.map g) rfl ?_ (vk (by rw [xV];decide) g hg hl)));rw [yz];exact o8 f (λa=>PV.at (.str (g a))) l rfl rfl (by omega) λa ha=>⟨_,rfl,j5 rfl (hfa a ha)⟩
end
theorem wy (G:qg h rss)(hr:r∈rss):∀ v∈r,NB v:=λv hv=>by
 have:=(G.row r hr).2 v hv;show v.natAbs<10 ^ 30;omega
theorem JS (ok:c.Ok h)(h4:h<=4):NB c.hue/\NB c.len/\NB c.due/\NB c.wt:=by
 have hB:j7=10 ^ 30:=rfl;obtain ⟨_,h1,h2,h3,d1,d2,w1,w2⟩:=ok;rw [hB] at h3 d1 d2 w2;refine ⟨?_,?_,?_,?_⟩
 ·show (c.hue:Int).natAbs<10 ^ 30;omega
 ·show c.len.natAbs<10 ^ 30;omega
 ·show c.due.natAbs<10 ^ 30;omega
 ·show c.wt.natAbs<10 ^ 30;omega
theorem jO (h:NB n):(tx n).length<=5000:=yr (xM h).1 (by decide)
theorem XW (G:qg h rss)(h4:h<=4)(hr:r∈rss):(c6 r).length<=200:=by
 have:=Qq (y:=" ") (B:=31) (r:=r.map tx) λq hq=>by
  obtain ⟨v,hv,rfl⟩:=yx.mp hq;exact (xM (wy G hr v hv)).1
 rw [yZ,xV,(G.row r hr).1] at this;unfold c6;omega
theorem XT (ok:c.Ok h)(h4:h<=4):(ctx c).length<=200:=by
 obtain ⟨b1,b2,b3,b4⟩:=JS ok h4;have:=Qq (y:=" ") (B:=31) (r:=[c.name,tx c.hue,tx c.len,tx c.due,tx c.wt]) λq hq=>by
  simp only [yP,ya,or_false] at hq;rcases hq with rfl|rfl|rfl|rfl|rfl
  ·exact yr ok.nm.eight (by decide)
  ·exact (xM b1).1
  ·exact (xM b2).1
  ·exact (xM b3).1
  ·exact (xM b4).1
 rw [xV] at this;unfold ctx;have e:[c.name,tx c.hue,tx c.len,tx c.due,tx c.wt].length=5:=rfl;omega
theorem JE (h1:NB l)(h2:NB t):(stx l t).length<=200:=by
 have:=Qq (y:=" ") (B:=31) (r:=[tx l,tx t]) λq hq=>by
  simp only [yP,ya,or_false] at hq;rcases hq with rfl|rfl
  ·exact (xM h1).1
  ·exact (xM h2).1
 rw [xV] at this;unfold stx;have e:[tx l,tx t].length=2:=rfl;omega
theorem XV (G:qg h rss)(h4:h<=4):(Str.join " / " (rss.map c6)).length<=2000:=by
 have:=Qq (y:=" / ") (B:=200) (r:=rss.map c6) λq hq=>by
  obtain ⟨r,hr,rfl⟩:=yx.mp hq;exact XW G h4 hr
 rw [yZ,ZN,G.len] at this;omega
theorem v_row (G:qg h rss)(h4:h<=4)(hr:r∈rss):xU [qH r]=some (.at (.str (c6 r))) :=
 TF (λn:Int=>PV.at (.int n)) tx r (λv hv=>zK (wy G hr v hv)) (λv hv=>jO (wy G hr v hv)) (by rw [(G.row r hr).1];omega)
theorem Xq (ok:c.Ok h)(h4:h<=4):∀ a∈[(PV.at (.str c.name),c.name),(PV.at (.int c.hue),tx c.hue),(PV.at (.int c.len),tx c.len),(PV.at (.int c.due),tx c.due),(PV.at (.int c.wt),tx c.wt)],xC [a.1]=some (.at (.str a.2))/\a.2.length<=5000:=λa ha=>by
 obtain ⟨b1,b2,b3,b4⟩:=JS ok h4;simp only [yP,ya,or_false] at ha;rcases ha with rfl|rfl|rfl|rfl|rfl
 ·exact ⟨rfl,yr ok.nm.eight (by decide)⟩
 ·exact ⟨zK b1,jO b1⟩
 ·exact ⟨zK b2,jO b2⟩
 ·exact ⟨zK b3,jO b3⟩
 ·exact ⟨zK b4,jO b4⟩
theorem v_cl (ok:c.Ok h)(h4:h<=4):xU [c.pv]=some (.at (.str (ctx c))) :=
 BU Prod.fst Prod.snd [(PV.at (.str c.name),c.name),(PV.at (.int c.hue),tx c.hue),(PV.at (.int c.len),tx c.len),(PV.at (.int c.due),tx c.due),(PV.at (.int c.wt),tx c.wt)] (λa ha=>(Xq ok h4 a ha).1) (λa ha=>(Xq ok h4 a ha).2) (by show 5<=20;decide)
theorem v_st (h1:NB l)(h2:NB t):xU [.tup [.at (.int l),.at (.int t)]]=some (.at (.str (stx l t))) :=
 BU (λn:Int=>PV.at (.int n)) tx [l,t] (λv hv=>by
  simp only [yP,ya,or_false] at hv;rcases hv with rfl|rfl
  ·exact zK h1
  ·exact zK h2) (λv hv=>by
  simp only [yP,ya,or_false] at hv;rcases hv with rfl|rfl
  ·exact jO h1
  ·exact jO h2) (by show 2<=20;decide)
theorem XU:("rinses ":Str).length=7:=by decide +kernel
theorem Qr:("start ":Str).length=6:=by decide +kernel
theorem XS:("cloth ":Str).length=6:=by decide +kernel
theorem GW (G:qg h rss)(h4:h<=4)(hc:∀ c∈cs,c.Ok h)(h1:NB l)(h2:NB t):∀ q∈t6 rss cs l t,q.length<=5000:=λq hq=>by
 rcases yP.mp hq with rfl|hq
 ·have:=XV G h4;rw [Str.length_append,XU];omega
 ·rcases yP.mp hq with rfl|hq
  ·have:=JE h1 h2;rw [Str.length_append,Qr];omega
  ·obtain ⟨c,hcc,rfl⟩:=yx.mp hq;have:=XT (hc c hcc) h4;rw [Str.length_append,XS];omega
theorem GQ (G:qg h rss)(h4:h<=4)(hc:∀ c∈cs,c.Ok h)(h10:cs.length<=10)(h1:NB l)(h2:NB t):JoinOk "; " (t6 rss cs l t)=true:=by have:=vk (y:="; ") (by rw [WG];decide) id (l:=t6 rss cs l t) (GW G h4 hc h1 h2) (by unfold t6;rw [yS,yS,yZ];omega);rwa [List.map_id] at this
section
variable {C:Addr}{d:Dr}
theorem GM (ok:d.Ok):NB d.last:=by have:=ok.l1;have:=ok.l2;have:=ok.h4;show d.last.natAbs<10 ^ 30;omega
theorem GN (ok:d.Ok)(ht:d.time<j7):NB d.time:=by have:=ok.t1;have hB:j7=10 ^ 30:=rfl;rw [hB] at ht;show d.time.natAbs<10 ^ 30;omega
theorem WU (ok:d.Ok)(ht:d.time<j7)(ee:es.map Cl.name=qI d.names)(hes:∀ c∈es,c∈d.cls)(e10:es.length<=10):zH C [d.ob C]=some (.at (.str (TX d.rss es d.last d.time))):=by
 have hlim:lim=1000000:=rfl;have h4:=ok.h4;have gl:=ok.rin.len;have nl:=GM ok;have nt:=GN ok ht;have okc:∀ c∈es,c.Ok d.h:=λc hc=>ok.cl c (hes c hc);have lr:=XV ok.rin h4;have ls:=JE nl nt;have e1:∀ s1 s2 s3:MSlot,xc (dC (.str " / ")) (k6 [none] [0] (b7 (qj C "rinses" (jC C) (q9 0) x0)) (v7 0) u5 (x9 xU (q8 (q9 0) x0))) [.sh (d.ob C),s1,s2,s3]=some (.at (.str (Str.join " / " (d.rss.map c6)))):=λs1 s2 s3=>by
  refine zX rfl ?_ (vk (by rw [ZN];decide) c6 (λr hr=>yr (XW ok.rin h4 hr) (by decide)) (by omega));rw [yz];exact o8 qH (λr=>PV.at (.str (c6 r))) d.rss (XD (zi rfl (by decide) rfl (BS ok))) rfl (by omega) λr hr=>⟨_,rfl,j5 rfl (v_row ok.rin h4 hr)⟩
 have en:(PV.lst (z8 (qI d.names))) = .lst (es.map λc:Cl=>PV.at (.str c.name)):=by rw [<- ee];unfold z8;rw [yz];rfl
 have e3:∀ s1 s2 s3:MSlot,k6 [none,some 0] [0] (b7 (qj C "names" (zD C) (q9 0) x0)) (v7 0) u5 (x9 xU (q8 (qj C "cloth" (jB C) (q9 1) (q8 (q9 0) x0)) x0)) [.sh (d.ob C),s1,s2,s3]=some (.lst (es.map λc=>PV.at (.str (ctx c)))):=λs1 s2 s3 =>
  o8 (λc:Cl=>PV.at (.str c.name)) (λc=>PV.at (.str (ctx c))) es (XD ((zi rfl (by decide) rfl (WM ok)).trans (by rw [en]))) rfl (by omega) λc hc=>⟨_,rfl,j5 (v4 (zi rfl (by decide) rfl (BQ ok (hes c hc))) rfl) (v_cl (okc c hc) h4)⟩
 refine qk rfl (u6 (qz (e1 _ _ _)) (u6 (qz (j5 (v4 (zi rfl (by decide) rfl BT) rfl) (v_st nl nt))) (u6 (qz (e3 _ _ _)) (m4 (zX (ts:=t6 d.rss es d.last d.time) rfl ?_ (GQ ok.rin h4 okc e10 nl nt))))));refine (w6 (zY (v4 (Jm (s:=Str.join " / " (d.rss.map c6)) rfl (by rw [XU];omega)) (v4 (Jm (s:=stx d.last d.time) rfl (by rw [Qr];omega)) rfl)) (by exact (by decide:2<=lim))) (o8 (λc:Cl=>PV.at (.str (ctx c))) (λc=>PV.at (.str (("cloth ":Str)++ctx c))) es rfl rfl (by omega) λc hc=>⟨_,rfl,Jm rfl (by have:=XT (okc c hc) h4;rw [XS];omega)⟩) (Zp (by rw [yZ];show 2+es.length<=lim;omega))).trans ?_;unfold t6;rw [yT,yT,yz];rfl
end
theorem WQ (G:qg h rss)(h4:h<=4)(hc:∀ c∈cs,c.Ok h)(h10:cs.length<=10)(h1:NB l)(h2:NB t):je [k4 rss,.lst (cs.map Cl.pv),.at (.int l),.at (.int t)]=some (.at (.str (TX rss cs l t))):=by
 have hlim:lim=1000000:=rfl;have gl:=G.len;have lr:=XV G h4;have ll:=(xM h1).1;have lt:=(xM h2).1;have e1:∀ s4 s5 s6:MSlot,xc (dC (.str " / ")) (k6 [none] [0] (b7 (q9 0)) (v7 0) u5 (xc (dC (.str " ")) (k6 [none] [0] (b7 (q9 0)) (v7 0) u5 (x9 xC (q8 (q9 0) x0))))) [.sh (k4 rss),.sh (.lst (cs.map Cl.pv)),.sh (.at (.int l)),.sh (.at (.int t)),s4,s5,s6]=some (.at (.str (Str.join " / " (rss.map c6)))):=λs4 s5 s6=>by
  refine zX rfl ?_ (vk (by rw [ZN];decide) c6 (λr hr=>yr (XW G h4 hr) (by decide)) (by omega));rw [yz];refine o8 qH (λr=>PV.at (.str (c6 r))) rss rfl rfl (by omega) λr hr=>⟨_,rfl,?_⟩;have lr4:r.length<=20:=by rw [(G.row r hr).1];omega
  refine zX rfl ?_ (vk (by rw [xV];decide) tx (λv hv=>jO (wy G hr v hv)) lr4);rw [yz];exact o8 (λn:Int=>PV.at (.int n)) (λn=>PV.at (.str (tx n))) r rfl rfl (by omega) λv hv=>⟨_,rfl,j5 rfl (zK (wy G hr v hv))⟩
 have es:("start ":Str)++tx l ++ " "++tx t=("start ":Str)++stx l t:=by show _=("start ":Str)++(tx l++(" ":Str)++tx t);rw [Str.append_assoc,Str.append_assoc,Str.append_assoc]
 have lx1:(("start ":Str)++tx l).length<=40:=by rw [Str.length_append,Qr];omega
 have lx2:(("start ":Str)++tx l ++ " ").length<=41:=by rw [Str.length_append,xV];omega
 have e5:∀ s5 s6:MSlot,n9 (q8 (z6 p7 (dC (.str "rinses ")) (x6 4)) (q8 (z6 p7 (z6 p7 (z6 p7 (dC (.str "start ")) (x9 xC (q8 (q9 2) x0))) (dC (.str " "))) (x9 xC (q8 (q9 3) x0))) x0)) [.sh (k4 rss),.sh (.lst (cs.map Cl.pv)),.sh (.at (.int l)),.sh (.at (.int t)),.sh (.at (.str (Str.join " / " (rss.map c6)))),s5,s6]=some (.lst [.at (.str (("rinses ":Str)++Str.join " / " (rss.map c6))),.at (.str (("start ":Str)++stx l t))]):=λs5 s6=>by
  refine zY (v4 (w6 rfl rfl (QE (by rw [XU];omega))) (v4 ?_ rfl)) l2;rw [<- es];exact w6 (w6 (w6 rfl (j5 rfl (zK h1)) (QE (by rw [Qr];omega))) rfl (QE (by rw [xV];omega))) (j5 rfl (zK h2)) (QE (by omega))
 refine qk rfl (u6 (qz (e1 _ _ _)) (u6 (Gg (e5 _ _)) ?_));obtain ⟨ε',e',rest⟩:=Qu (g:=v7 6) (f:=Qc 5 (z6 p7 (dC (.str "cloth ")) (xc (dC (.str " ")) (k6 [none] [0] (dItT (q9 6)) (v7 0) u5 (x9 xC (q8 (q9 0) x0))))))
  Cl.pv (λrest ε=>∃ (done:List Cl) (s6:MSlot),done++rest=cs/\ε=[.sh (k4 rss),.sh (.lst (cs.map Cl.pv)),.sh (.at (.int l)),.sh (.at (.int t)),.sh (.at (.str (Str.join " / " (rss.map c6)))),.ow (.lst ((t6 rss done l t).map λz=>PV.at (.str z))),s6]) (by
   rintro c rest ε ⟨done,s6,e,rfl⟩;have hcc:c∈cs:=by rw [<- e];simp
   have okc:=hc c hcc;have ld:done.length<=10:=by have:=congrArg List.length e;rw [yH] at this;omega
   refine ⟨_,_,rfl,De (x:= .at (.str (("cloth ":Str)++ctx c))) (w6 rfl (y:= .at (.str (ctx c))) ?_ (QE (by have:=XT okc h4;rw [XS];omega))) rfl (by rw [yZ];unfold t6;rw [yS,yS,yZ];omega),?_⟩
   ·refine zX (ts:=[c.name,tx c.hue,tx c.len,tx c.due,tx c.wt]) rfl ?_ ?_
    ·exact o8 Prod.fst (λa=>PV.at (.str a.2)) [(PV.at (.str c.name),c.name),(PV.at (.int c.hue),tx c.hue),(PV.at (.int c.len),tx c.len),(PV.at (.int c.due),tx c.due),(PV.at (.int c.wt),tx c.wt)] rfl rfl l5 λa ha=>⟨_,rfl,j5 rfl (Xq okc h4 a ha).1⟩
    ·exact vk (y:=" ") (by rw [xV];decide) Prod.snd (l:=[(PV.at (.str c.name),c.name),(PV.at (.int c.hue),tx c.hue),(PV.at (.int c.len),tx c.len),(PV.at (.int c.due),tx c.due),(PV.at (.int c.wt),tx c.wt)]) (λa ha=>(Xq okc h4 a ha).2) (by show 5<=20;decide)
   ·refine ⟨done++[c],.sh c.pv,by rw [uZ];exact e,?_⟩;unfold t6;rw [yu,yT,yT,yT,yT,yu];rfl) cs _ ⟨[],.no,rfl,rfl⟩
 obtain ⟨done,s6,e,rfl⟩:=rest;rw [yA] at e;subst e;exact u6 (XC rfl e') (m4 (zX rfl rfl (GQ G h4 hc h10 h1 h2)))
theorem B_lit:(" ":Str)=⟨#[32]⟩:=by decide +kernel
theorem RI (x y:Str):Txt.split x y≠[]:=by
 unfold Txt.split;split
 ·exact ul _ _
 ·split
  ·exact ul _ _
  ·rw [StrLaws.partsBetween_eq];obtain ⟨p,r,e⟩:=StrLaws.partsFrom_ne x y.length 0 (Builtin.Str.occurrences x y 0 x.length (x.length+1));rw [e];exact ul _ _
theorem Bp {f:Str}(hf:32∉f.cps.toList):Txt.split (f++(" ":Str)++y) " "=f::Txt.split y " ":=by
 have hfree:∀ q∈Txt.split y " ",32∉q.cps.toList:=by rw [B_lit];exact StrLaws.split_free y 32
 have hj:Str.join " " (Txt.split y " ")=y:=StrLaws.join_split y " ";cases hs:Txt.split y " " with
 |nil=>exact absurd hs (RI _ _)
 |cons p r =>
  rw [hs] at hfree hj;have e:Str.join " " (f::p::r)=f++(" ":Str)++y:=by show f++(" ":Str)++Str.join " " (p::r)=_;rw [hj]
  rw [<- e];exact ZJ λq hq=>by
   rcases yP.mp hq with rfl|hq
   ·exact hf
   ·exact hfree q hq
theorem Bo (x y:Str):(Txt.split x y).length<=x.length+2:=by
 have hp:=StrLaws.occ_length_le x y 0 x.length (x.length+1);unfold Txt.split;split
 ·show 1<=x.length+2;omega
 ·split
  ·show 1<=x.length+2;omega
  ·unfold Builtin.Str.partsBetween;simp only [yZ,List.length_zip,yH,yS,List.length_nil];omega
theorem GK {y q:Str}:∀{r:List Str},q∈r->q.length<=(Str.join y r).length
 |[p],h=>by rw [yC.mp h];exact yY _
 |p::z::r,h=>by
  show q.length<=(p++y++Str.join y (z::r)).length;rw [Str.length_append,Str.length_append];rcases yP.mp h with rfl|h
  ·omega
  ·have:=GK (y:=y) h;omega
theorem UL (x:PV)(xs:List PV):zU (x::xs) (some 1) none=xs:=by unfold zU;rw [show (some (1:Int))=some ((1:Nat):Int) from rfl,HT.sIx_nat,HT.sIx_none,yS,Nat.min_eq_left (by omega)];show List.take (xs.length+1-1) xs=xs;rw [Nat.add_sub_cancel,List.take_length]
theorem CI (x:PV)(xs:List PV):zU (x::xs) none (some 1)=[x]:=by unfold zU;rw [show (some (1:Int))=some ((1:Nat):Int) from rfl,HT.sIx_nat,HT.sIx_none,yS,Nat.min_eq_left (by omega)];rfl
theorem WL {i:Nat}{f:Str}(hp:ps[i]?=some (f++(" ":Str)++y))(hf:32∉f.cps.toList)(hl:(f++(" ":Str)++y).length<=50000)(hn:ps.length<=1000):xA [.lst (z8 ps),.at (.int (i:Int)),.at (.str f)]=some (.lst (z8 (Txt.split y " "))):=by
 have hlim:lim=1000000:=rfl;have hi:i<ps.length:=(yv.mp hp).1;have ln:qf [.lst (z8 ps)]=some (.at (.int (ps.length:Int))):=by show some (PV.at (.int ((z8 ps).length:Int)))=_;rw [QW]
 have ix:L2.atI (z8 ps) (i:Int)=some (.at (.str (f++(" ":Str)++y))):=zR (by unfold z8;rw [yM,hp];rfl);refine jw rfl (u6 (qz (x:= .lst (z8 (f::Txt.split y " "))) (Jn (m3 (v:=true) (w6 rfl (j5 rfl ln) ?_)) (XE (w6 rfl rfl ix) rfl (by rw [xV];decide) (yr hl (by decide)) (Bp hf) ?_))) (u6 (qy (m3 (v:=false) (w6 (w6 rfl rfl (show L2.atI (z8 (f::Txt.split y " ")) ((0:Nat):Int)=some (.at (.str f)) from zR rfl)) rfl (vC rfl))) qA) (m4 ?_)))
 ·show some (PV.at (.bl (decide ((i:Int)<(ps.length:Int)))))=_;rw [yy (by omega)]
 ·rw [<- Bp hf];have:=Bo (f++(" ":Str)++y) " ";omega
 ·refine (Jp rfl rfl rfl).trans ?_;show some (PV.lst (zU (PV.at (.str f)::z8 (Txt.split y " ")) (some 1) none))=_;rw [UL]
theorem GP {w fig:Str}(hd:fig.cps.toList=dg m)(hm:m<10 ^ 30)(h0:m=0->w = "0"):(y0 (o3 (qE (c9 (dT (zg pLe pLe (dC (.int 1)) (x9 qf (q8 (x6 1) x0)) (dC (.int 30))))) (c9 (r9 (x9 xG (q8 (k6 [none] [0] (jY (q9 1)) (v7 0) u5 (zg jF jF (dC (.str "0")) (x6 0) (dC (.str "9")))) x0))))) (u7 (dC (.bl false))) o7) (u7 (jZ (z6 pEq (x6 0) (dC (.str "0"))) (wb (wc (q9 1) (dC (.str "0"))))))) [.sh (.at (.str w)),.sh (.at (.str fig))]=some (.rt (.at (.bl true))):=by
 have hlim:lim=1000000:=rfl;have lp:=Qh m;have ll:=Jh hm;have lf:fig.length=(dg m).length:=by rw [WC,hd]
 have ln:qf [.at (.str fig)]=some (.at (.int fig.length)):=if_pos (by omega);refine u6 (qy (xR (qp (m3 (Qi (r:=true) rfl (j5 rfl ln) ?_ rfl ?_))) (qp (qx (j5 (v4 (o8 (λc:Nat=>PV.at (.str ⟨#[c]⟩)) (λ_=>PV.at (.bl true)) fig.cps.toList rfl rfl ?_ ?_) rfl) (jT _))))) qA) (m4 ?_)
 ·show some (PV.at (.bl (decide ((1:Int)<=(fig.length:Int)))))=_;rw [yy (by omega)]
 ·show some (PV.at (.bl (decide ((fig.length:Int)<=30))))=_;rw [yy (by omega)]
 ·rw [hd];omega
 ·intro c hc;rw [hd] at hc;obtain ⟨c1,c2⟩:=Xw m c hc;refine ⟨_,rfl,Qi rfl rfl ?_ rfl ?_⟩
  ·show some (PV.at (.bl (!decide ([c]<("0":Str).cps.toList))))=_;have e:¬ ([c]<[48]):=by rw [ut];simp;omega
   rw [show ("0":Str).cps.toList=[48] by decide +kernel,yO e];rfl
  ·show some (PV.at (.bl (!decide (("9":Str).cps.toList<[c]))))=_;have e:¬ ([57]<[c]):=by rw [ut];simp;omega
   rw [show ("9":Str).cps.toList=[57] by decide +kernel,yO e];rfl
 ·by_cases hw:w = "0"
  ·exact Dk (w6 rfl rfl ((UZ _ _).trans (by rw [yy hw])))
  ·have hpos:0<m:=Nat.pos_of_ne_zero λz=>hw (h0 z);refine Dj (w6 rfl rfl ((UZ _ _).trans (by rw [yO hw]))) (Gf (v:=false) (Jq rfl rfl (WB (c:=48) (by decide +kernel) ?_)));rw [hd];exact yO (CP m hpos)
theorem Tt (h:NB n):Zd [.at (.str (tx n))]=some (.at (.bl true)):=by
 have hlim:lim=1000000:=rfl;have hl:=xM h;rcases WH n with ⟨m,rfl,e⟩|⟨m,rfl,e⟩
 ·refine qk rfl (u6 (qz (x:= .at (.str (tx (m:Int)))) (Jo (qx (v:=false) (Jq rfl rfl (WB (c:=45) (by decide +kernel) ?_))) rfl)) (GP e (by have h:((m:Int)).natAbs<10 ^ 30:=h;rwa [Int.natAbs_natCast] at h) λz=>by subst z;decide +kernel));rw [e];refine yO λz=>?_;have:=Xw m 45 (uU z);omega
 ·have hm:m+1<10 ^ 30:=by have h:(-((m+1:Nat):Int)).natAbs<10 ^ 30:=h;rwa [Int.natAbs_neg,Int.natAbs_natCast] at h
  refine qk rfl (u6 (qz (x:= .at (.str (Txt.slice (tx (-((m+1:Nat):Int))) (some 1) none))) (Jn (qx (v:=true) (Jq rfl rfl (WB (c:=45) (by decide +kernel) ?_))) ?_)) (GP (m:=m+1) ?_ hm λz=>absurd z (by omega)))
  ·rw [e];exact yy rfl
  ·exact if_pos (by omega)
  ·rw [Rz hl.2,e];rfl
theorem WN {l:List Int}{k:Int}(h:∀ n∈l,NB n)(hl:l.length<=1000):xT [.lst (z8 (l.map tx)),.at (.int k)]=some (.lst (l.map λn=>PV.at (.int n))):=by
 have hlim:lim=1000000:=rfl;have es:z8 (l.map tx)=l.map λn=>PV.at (.str (tx n)):=by unfold z8;rw [yz];rfl
 rw [es];refine jw rfl (u6 (qy (qp (qx (j5 (v4 (o8 (λn:Int=>PV.at (.str (tx n))) (λ_=>PV.at (.bl true)) l rfl rfl (by omega) λn hn=>⟨_,rfl,j5 rfl (Tt (h n hn))⟩) rfl) (jT _)))) qA) (m4 (o8 (λn:Int=>PV.at (.str (tx n))) (λn=>PV.at (.int n)) l rfl rfl (by omega) λn hn=>⟨_,rfl,j5 rfl ?_⟩)));show (intText? (tx n)).bind _=_;rw [RZ (h n hn),yE,if_pos (by have:=(xM (h n hn)).1;omega)]
theorem ve (n:Int):32∉(tx n).cps.toList:=WI ⟨by decide,by decide⟩ n
theorem Dt (n:Int):47∉(tx n).cps.toList:=WI ⟨by decide,by decide⟩ n
theorem vf (n:Int):59∉(tx n).cps.toList:=WI ⟨by decide,by decide⟩ n
theorem Gi (h:zM x){k:Nat}(hk:k<97):k∉x.cps.toList:=λz=>by
 have:=h.low k z;omega
theorem rtx_S :47∉(c6 r).cps.toList:=λz=>by
 rcases wx z with z|⟨q,hq,z⟩
 ·exact absurd z (by decide +kernel)
 ·obtain ⟨v,_,rfl⟩:=yx.mp hq;exact Dt v z
theorem rtx_P :59∉(c6 r).cps.toList:=λz=>by
 rcases wx z with z|⟨q,hq,z⟩
 ·exact absurd z (by decide +kernel)
 ·obtain ⟨v,_,rfl⟩:=yx.mp hq;exact vf v z
theorem RJ (h:1<=r.length):Txt.split (c6 r) " "=r.map tx:=by
 cases r with
 |nil=>exact absurd h (by decide)
 |cons v r=>unfold c6;rw [yT];refine ZJ λq hq=>?_;rw [<- yT] at hq;obtain ⟨u,_,rfl⟩:=yx.mp hq;exact ve u
theorem RK :Txt.split (stx l t) " "=[tx l,tx t]:=ZJ λq hq=>by
 simp only [yP,ya,or_false] at hq;rcases hq with rfl|rfl
 ·exact ve l
 ·exact ve t
theorem RH (h:zM c.name):Txt.split (ctx c) " "=[c.name,tx c.hue,tx c.len,tx c.due,tx c.wt]:=ZJ λq hq=>by
 simp only [yP,ya,or_false] at hq;rcases hq with rfl|rfl|rfl|rfl|rfl
 ·exact Gi h (by decide)
 ·exact ve _
 ·exact ve _
 ·exact ve _
 ·exact ve _
theorem JP {a b:Str}{k:Nat}(h:k∈(a++b).cps.toList):k∈a.cps.toList∨k∈b.cps.toList:=by rw [Str.cps_append,uA] at h;exact ym.mp h
theorem Nq (hc:∀ c∈cs,zM c.name):∀ q∈t6 rss cs l t,59∉q.cps.toList:=λq hq z=>by
 rcases yP.mp hq with rfl|hq
 ·rcases JP z with z|z
  ·exact absurd z (by decide +kernel)
  ·rcases wx z with z|⟨q,hq,z⟩
   ·exact absurd z (by decide +kernel)
   ·obtain ⟨r,_,rfl⟩:=yx.mp hq;exact rtx_P z
 ·rcases yP.mp hq with rfl|hq
  ·rcases JP z with z|z
   ·exact absurd z (by decide +kernel)
   ·rcases wx z with z|⟨q,hq,z⟩
    ·exact absurd z (by decide +kernel)
    ·simp only [yP,ya,or_false] at hq;rcases hq with rfl|rfl
     ·exact vf l z
     ·exact vf t z
  ·obtain ⟨c,hcc,rfl⟩:=yx.mp hq;rcases JP z with z|z
   ·exact absurd z (by decide +kernel)
   ·rcases wx z with z|⟨q,hq,z⟩
    ·exact absurd z (by decide +kernel)
    ·simp only [yP,ya,or_false] at hq;rcases hq with rfl|rfl|rfl|rfl|rfl
     ·exact Gi (hc c hcc) (by decide) z
     ·exact vf _ z
     ·exact vf _ z
     ·exact vf _ z
     ·exact vf _ z
theorem Js {w f:Str}(h:w=f++(" ":Str))(y:Str):w++y=f++(" ":Str)++y:=by rw [h]
section
variable {C:Addr}{h:Nat}{rss:List (List Int)}{ps:List Str}
theorem Tv (G:qg h rss)(h1:1<=h)(h4:h<=4)(hp:ps[0]?=some (("rinses ":Str)++Str.join " / " (rss.map c6)))(hn:ps.length<=1000):Zg [.lst (z8 ps)]=some (k4 rss):=by
 have hlim:lim=1000000:=rfl;have gl:=G.len;have lr:=XV G h4;have e0:("rinses ":Str)++Str.join " / " (rss.map c6)=("rinses":Str)++(" ":Str)++Str.join " / " (rss.map c6):=Js (by decide +kernel) _;have lw:(("rinses":Str)++(" ":Str)++Str.join " / " (rss.map c6)).length<=50000:=by rw [<- e0,Str.length_append,XU];omega
 rw [e0] at hp;have vb:xA [.lst (z8 ps),.at (.int 0),.at (.str "rinses")]=some (.lst (z8 (Txt.split (Str.join " / " (rss.map c6)) " "))):=WL (i:=0) hp (by decide +kernel) lw hn;have few:=Bo (Str.join " / " (rss.map c6)) " ";have jk:JoinOk " " (Txt.split (Str.join " / " (rss.map c6)) " ")=true:=by
  refine Gu (B:=2000) (λq hq=>?_) ?_
  ·have:=GK (y:=" ") hq;rw [StrLaws.join_split] at this;omega
  ·rw [xV];have h1:(Txt.split (Str.join " / " (rss.map c6)) " ").length*2000<=2002*2000:=Nat.mul_le_mul_right _ (by omega);omega
 have es:Txt.split (Str.join " / " (rss.map c6)) " / "=rss.map c6:=by
  cases rss with
  |nil=>exact absurd gl (by show ¬ (0=h+1);omega)
  |cons r rs=>rw [yT];refine RG λq hq=>?_;rw [<- yT] at hq;obtain ⟨u,_,rfl⟩:=yx.mp hq;exact rtx_S
 have e1:∀ s1 s2:MSlot,jv (xc (dC (.str " ")) (x9 xA (q8 (q9 0) (q8 (dC (.int 0)) (q8 (dC (.str "rinses")) x0))))) (dC (.str " / ")) [.sh (.lst (z8 ps)),s1,s2]=some (.lst ((rss.map c6).map λz=>PV.at (.str z))):=λs1 s2=>by
  have ej:xc (dC (.str " ")) (x9 xA (q8 (q9 0) (q8 (dC (.int 0)) (q8 (dC (.str "rinses")) x0)))) [.sh (.lst (z8 ps)),s1,s2]=some (.at (.str (Str.join " / " (rss.map c6)))):=by refine (zX rfl (j5 rfl vb) jk).trans ?_;rw [StrLaws.join_split]
  exact XE ej rfl (by rw [ZN];decide) (by omega) es (by rw [yZ];omega)
 refine qk rfl (u6 (qz (e1 _ _)) (u6 (qz (x:=k4 rss) ?_) (u6 (Qj (j5 rfl (BP G h1 h4))) (m4 rfl))));rw [yz];refine o8 (λr=>PV.at (.str (c6 r))) qH rss rfl rfl (by omega) λr hr=>⟨_,rfl,j5 (xs:=[.lst (z8 (r.map tx)),.at (.int 0)]) (v4 (XE rfl rfl (by rw [xV];decide) (yr (XW G h4 hr) (by decide)) (RJ (by rw [(G.row r hr).1];exact h1)) (by rw [yZ,(G.row r hr).1];omega)) rfl) (WN (wy G hr) (by rw [(G.row r hr).1];omega))⟩
end
section
variable {C:Addr}{h:Nat}{rss:List (List Int)}{ps:List Str}
theorem Tw (ok:(⟨h,rss,[],l,t⟩:Dr).Ok)(nl:NB l)(nt:NB t)(hp:ps[0]?=some (("rinses ":Str)++Str.join " / " (rss.map c6)))(hq:ps[1]?=some (("start ":Str)++stx l t))(hn:ps.length<=1000):wu C [.lst (z8 ps)]=some ((⟨h,rss,[],l,t⟩:Dr).ob C):=by
 have hlim:lim=1000000:=rfl;have e0:("start ":Str)++stx l t=("start":Str)++(" ":Str)++stx l t:=Js (by decide +kernel) _;have ls:=JE nl nt;have lw:(("start":Str)++(" ":Str)++stx l t).length<=50000:=by rw [<- e0,Str.length_append,Qr];omega
 rw [e0] at hq;have vb:xA [.lst (z8 ps),.at (.int 1),.at (.str "start")]=some (.lst (z8 ([l,t].map tx))):=by have:=WL (i:=1) hq (by decide +kernel) lw hn;rw [RK] at this;exact this
 have vn:xT [.lst (z8 ([l,t].map tx)),.at (.int 1)]=some (.lst [.at (.int l),.at (.int t)]):=WN (l:=[l,t]) (λn hn=>by
  simp only [yP,ya,or_false] at hn;rcases hn with rfl|rfl
  ·exact nl
  ·exact nt) (by show 2<=1000;decide)
 have vr:=Tv (ps:=ps) ok.rin ok.h1 ok.h4 hp hn;have vi:=ZP (C:=C) ok;have e2:∀ s2:MSlot,x9 xT (q8 (x9 xA (q8 (q9 0) (q8 (dC (.int 1)) (q8 (dC (.str "start")) x0)))) (q8 (dC (.int 1)) x0)) [.sh (.lst (z8 ps)),.sh (k4 rss),s2]=some (.lst [.at (.int l),.at (.int t)]):=λs2=>j5 (xs:=[.lst (z8 ([l,t].map tx)),.at (.int 1)]) (v4 (j5 (xs:=[.lst (z8 ps),.at (.int 1),.at (.str "start")]) rfl vb) rfl) vn;have e3:x9 (xz C) (q8 (q9 1) (q8 (n9 x0) (q8 (z6 y6 (x6 2) (dC (.int 0))) (q8 (z6 y6 (x6 2) (dC (.int 1))) x0)))) [.sh (.lst (z8 ps)),.sh (k4 rss),.sh (.lst [.at (.int l),.at (.int t)])]=some ((⟨h,rss,[],l,t⟩:Dr).ob C):=j5 (xs:=[k4 rss,.lst [],.at (.int l),.at (.int t)]) (v4 rfl (v4 (zY rfl l0) (v4 (w6 rfl rfl rfl) (v4 (w6 rfl rfl rfl) rfl)))) vi;refine qk rfl ?_;refine u6 (ε1:=[.sh (.lst (z8 ps)),.sh (k4 rss),.no]) (qz (j5 (xs:=[.lst (z8 ps)]) rfl vr)) ?_;refine u6 (ε1:=[.sh (.lst (z8 ps)),.sh (k4 rss),.sh (.lst [.at (.int l),.at (.int t)])]) (qz (e2 _)) ?_;refine u6 (qy (m3 (v:=false) (w6 (x:= .at (.int 2)) (j5 rfl rfl) rfl (MR 2 2))) qA) (m4 e3)
theorem TD {i:Nat}(ok:d.Ok)(okw:(d.with (d.cls++[c])).Ok)(okc:c.Ok d.h)(hp:ps[i]?=some (("cloth ":Str)++ctx c))(hn:ps.length<=1000):ww C [d.ob C,.lst (z8 ps),.at (.int (i:Int))]=some ((d.with (d.cls++[c])).ob C):=by
 have hlim:lim=1000000:=rfl;have e0:("cloth ":Str)++ctx c=("cloth":Str)++(" ":Str)++ctx c:=Js (by decide +kernel) _;have lc:=XT okc ok.h4;have lw:(("cloth":Str)++(" ":Str)++ctx c).length<=50000:=by rw [<- e0,Str.length_append,XS];omega
 rw [e0] at hp;obtain ⟨b1,b2,b3,b4⟩:=JS okc ok.h4;have vb:xA [.lst (z8 ps),.at (.int (i:Int)),.at (.str "cloth")]=some (.lst (PV.at (.str c.name)::z8 ([(c.hue:Int),c.len,c.due,c.wt].map tx))):=by have:=WL (i:=i) hp (by decide +kernel) lw hn;rw [RH okc.nm] at this;exact this
 have vn:xT [.lst (z8 ([(c.hue:Int),c.len,c.due,c.wt].map tx)),.at (.int (i:Int))]=some (.lst [.at (.int c.hue),.at (.int c.len),.at (.int c.due),.at (.int c.wt)]):=WN (l:=[(c.hue:Int),c.len,c.due,c.wt]) (λn hn=>by
  simp only [yP,ya,or_false] at hn;rcases hn with rfl|rfl|rfl|rfl
  ·exact b1
  ·exact b2
  ·exact b3
  ·exact b4) (by show 4<=1000;decide)
 have e4:∀ s4:MSlot,z6 p7 (zB (x6 3) pNo (pSo (dC (.int 1)))) (x9 xT (q8 (zB (x6 3) (pSo (dC (.int 1))) pNo) (q8 (q9 2) x0))) [.sh (d.ob C),.sh (.lst (z8 ps)),.sh (.at (.int (i:Int))),.sh (.lst (PV.at (.str c.name)::z8 ([(c.hue:Int),c.len,c.due,c.wt].map tx))),s4]=some (.lst [.at (.str c.name),.at (.int c.hue),.at (.int c.len),.at (.int c.due),.at (.int c.wt)]):=λs4=>by
  have a1:zB (x6 3) pNo (pSo (dC (.int 1))) [.sh (d.ob C),.sh (.lst (z8 ps)),.sh (.at (.int (i:Int))),.sh (.lst (PV.at (.str c.name)::z8 ([(c.hue:Int),c.len,c.due,c.wt].map tx))),s4]=some (.lst [.at (.str c.name)]):=(Jp (xs:=PV.at (.str c.name)::z8 ([(c.hue:Int),c.len,c.due,c.wt].map tx)) (lo:=none) (hi:=some 1) rfl rfl rfl).trans (by rw [CI]);have a2:zB (x6 3) (pSo (dC (.int 1))) pNo [.sh (d.ob C),.sh (.lst (z8 ps)),.sh (.at (.int (i:Int))),.sh (.lst (PV.at (.str c.name)::z8 ([(c.hue:Int),c.len,c.due,c.wt].map tx))),s4]=some (.lst (z8 ([(c.hue:Int),c.len,c.due,c.wt].map tx))):=(Jp (xs:=PV.at (.str c.name)::z8 ([(c.hue:Int),c.len,c.due,c.wt].map tx)) (lo:=some 1) (hi:=none) rfl rfl rfl).trans (by rw [UL]);exact w6 a1 (j5 (xs:=[.lst (z8 ([(c.hue:Int),c.len,c.due,c.wt].map tx)),.at (.int (i:Int))]) (v4 a2 rfl) vn) (Zp (by show 1+4<=lim;decide))
 have vp:=v_put (C:=C) ok okw;refine qk rfl ?_;refine u6 (ε1:=[.sh (d.ob C),.sh (.lst (z8 ps)),.sh (.at (.int (i:Int))),.sh (.lst (PV.at (.str c.name)::z8 ([(c.hue:Int),c.len,c.due,c.wt].map tx))),.no]) (qz (j5 (xs:=[.lst (z8 ps),.at (.int (i:Int)),.at (.str "cloth")]) rfl vb)) ?_;refine u6 (ε1:=[.sh (d.ob C),.sh (.lst (z8 ps)),.sh (.at (.int (i:Int))),.sh (.lst (PV.at (.str c.name)::z8 ([(c.hue:Int),c.len,c.due,c.wt].map tx))),.sh (.lst [.at (.str c.name),.at (.int c.hue),.at (.int c.len),.at (.int c.due),.at (.int c.wt)])]) (qz (e4 _)) ?_;exact m4 (zi rfl (by decide) (v4 (j5 (r:=some c.pv) (xs:=[.lst [.at (.str c.name),.at (.int c.hue),.at (.int c.len),.at (.int c.due),.at (.int c.wt)]]) rfl rfl) rfl) vp)
theorem Dl {i:Int}(h1:a ε=some (.at (.int i)))(h2:b ε=some (.at (.int j)))(hi:-(lim:Int)<=i/\i<=lim)(hj:-(lim:Int)<=j/\j<=lim):Xu (q8 a (q8 b x0)) ε=some (qB i (j-i).toNat):=by unfold Xu;rw [v4 h1 (v4 h2 rfl)];exact if_pos ⟨hi,hj⟩
theorem WO (ok:(⟨h,rss,cs,l,t⟩:Dr).Ok)(nl:NB l)(nt:NB t):zF C [.at (.str (TX rss cs l t))]=some ((⟨h,rss,cs,l,t⟩:Dr).ob C):=by
 have hlim:lim=1000000:=rfl;have h4:=ok.h4;have ten:cs.length<=10:=ok.ten;have lp:=GW ok.rin h4 ok.cl nl nt;have lx:(TX rss cs l t).length<=100000:=by
  have:=Qq (y:="; ") (B:=5000) (r:=t6 rss cs l t) lp;have e:(t6 rss cs l t).length=cs.length+2:=by unfold t6;rw [yS,yS,yZ]
  rw [e,WG] at this;unfold TX;omega
 have lT:(t6 rss cs l t).length=cs.length+2:=by unfold t6;rw [yS,yS,yZ]
 have es:Txt.split (TX rss cs l t) "; "=t6 rss cs l t:=RF (Nq λc hc=>(ok.cl c hc).nm);have ok0:(⟨h,rss,[],l,t⟩:Dr).Ok:=⟨ok.h1,ok.h4,ok.rin,yo _,λc hc=>absurd hc yt,uS,ok.l1,ok.l2,ok.t1,ok.t2⟩;have vv:wu C [.lst (z8 (t6 rss cs l t))]=some ((⟨h,rss,[],l,t⟩:Dr).ob C):=Tw ok0 nl nt rfl rfl (by omega);refine qk rfl ?_;refine u6 (ε1:=[.sh (.at (.str (TX rss cs l t))),.sh (.lst (z8 (t6 rss cs l t))),.no,.no]) (qz (XE (s:=TX rss cs l t) (t:="; ") rfl rfl (by rw [WG];decide) lx es (by omega))) ?_;refine u6 (ε1:=[.sh (.at (.str (TX rss cs l t))),.sh (.lst (z8 (t6 rss cs l t))),.sh ((⟨h,rss,[],l,t⟩:Dr).ob C),.no]) (qz (j5 (xs:=[.lst (z8 (t6 rss cs l t))]) rfl vv)) ?_;have z1:[]++((List.range' 2 cs.length).zip cs).map Prod.snd=cs:=by rw [List.nil_append,List.map_snd_zip (by rw [List.length_range'];exact yY _)]
 have z2:((List.range' 2 cs.length).zip cs).map Prod.fst=List.range' (([]:List Cl).length+2) ((List.range' 2 cs.length).zip cs).length:=by rw [List.map_fst_zip (by rw [List.length_range'];exact yY _),List.length_zip,List.length_range',Nat.min_self];rfl
 obtain ⟨ε',e',rest⟩:=Qu (g:=v7 3) (f:=o6 2 (x9 (ww C) (q8 (q9 2) (q8 (q9 1) (q8 (q9 3) x0)))))
  (λp:Nat×Cl=>PV.at (.int ((p.1:Nat):Int))) (λrest ε=>∃(done:List Cl)(s3:MSlot),done++rest.map Prod.snd=cs/\rest.map Prod.fst=List.range' (done.length+2) rest.length/\ε=[.sh (.at (.str (TX rss cs l t))),.sh (.lst (z8 (t6 rss cs l t))),.sh ((⟨h,rss,done,l,t⟩:Dr).ob C),s3]) (by
   rintro ⟨i,c⟩ rest ε ⟨done,s3,e,er,rfl⟩;rw [yT] at e er;rw [yS,List.range'_succ] at er;injection er with ei er;have ei:i=done.length+2:=ei;have e:done++c::rest.map Prod.snd=cs:=e;have e2:(done++[c])++rest.map Prod.snd=cs:=by rw [uZ];exact e
   have okp:∀ zs:List Cl,(∃ ys,zs++ys=cs)->(⟨h,rss,zs,l,t⟩:Dr).Ok:=λzs ⟨ys,ey⟩=>by
    have sub:zs.Sublist cs:=by rw [<- ey];exact List.sublist_append_left _ _
    exact ⟨ok.h1,ok.h4,ok.rin,yr sub.length_le ten,λx hx=>ok.cl x (sub.subset hx),ok.nd.sublist (sub.map _),ok.l1,ok.l2,ok.t1,ok.t2⟩
   have o1:=okp done ⟨_,e⟩;have o2:=okp (done++[c]) ⟨_,e2⟩;have hg:(t6 rss cs l t)[i]?=some (("cloth ":Str)++ctx c):=by rw [ei];show (cs.map λc=>("cloth ":Str)++ctx c)[done.length]?=_;rw [yM,<- e,yc (yY _),Nat.sub_self];rfl
   have vw:=TD (C:=C) (d:=⟨h,rss,done,l,t⟩) o1 o2 (ok.cl c (by rw [<- e];simp)) hg (by omega);refine ⟨[.sh (.at (.str (TX rss cs l t))),.sh (.lst (z8 (t6 rss cs l t))),.sh ((⟨h,rss,done,l,t⟩:Dr).ob C),.sh (.at (.int (i:Int)))],[.sh (.at (.str (TX rss cs l t))),.sh (.lst (z8 (t6 rss cs l t))),.sh ((⟨h,rss,done++[c],l,t⟩:Dr).ob C),.sh (.at (.int (i:Int)))],rfl,qz (j5 (xs:=[(⟨h,rss,done,l,t⟩:Dr).ob C,.lst (z8 (t6 rss cs l t)),.at (.int (i:Int))]) rfl vw),?_⟩;refine ⟨done++[c],.sh (.at (.int (i:Int))),e2,?_,rfl⟩;rw [er,yH];rfl) ((List.range' 2 cs.length).zip cs) _ ⟨[],.no,z1,z2,rfl⟩
 ·obtain ⟨done,s3,e,_,rfl⟩:=rest;rw [List.map_nil,yA] at e;subst e;have lnn:x9 qf (q8 (x6 1) x0) [.sh (.at (.str (TX rss done l t))),.sh (.lst (z8 (t6 rss done l t))),.sh ((⟨h,rss,[],l,t⟩:Dr).ob C),.no]=some (.at (.int ((done.length+2:Nat):Int))):=by refine j5 rfl ?_;show some (PV.at (.int ((z8 (t6 rss done l t)).length:Int)))=_;rw [QW,lT]
  refine u6 (XC ((Dl (i:=2) rfl lnn ⟨by omega,by omega⟩ ⟨by omega,by omega⟩).trans ?_) e') (m4 rfl);rw [show (((done.length+2:Nat):Int)-2).toNat=done.length by omega]
  congr 1
  rw [show (λp:Nat×Cl=>PV.at (.int ((p.1:Nat):Int)))=(λi:Nat=>PV.at (.int (i:Int))) ∘ Prod.fst from rfl,<- yz,List.map_fst_zip (by rw [List.length_range'];exact yY _),List.range'_eq_map_range,yz];unfold qB;refine List.map_congr_left λi _=>?_;show PV.at (.int ((2:Int)+(i:Int)))=PV.at (.int ((2+i:Nat):Int));rw [Int.natCast_add];rfl
end
theorem Gw:∀ cs:List Cl,vo kbC (cs.map Cl.pv)=some (cs.map λc=>((0:Int),c.name))
 |[]=>rfl
 |c::cs=>by
  show (vo kbC (cs.map Cl.pv)).map (((0:Int),c.name)::·)=_;rw [Gw cs];rfl
theorem Hg (cs:List Cl):(List.range cs.length).filterMap (λi=>cs[i]?)=cs:=by have:=PySem.W.krv_all cs.toArray;simpa using this
theorem Kk {cs:List Cl}:∀{l:List Nat},(∀ i∈l,i<cs.length)->(l.map λi=>(cs.map Cl.pv).getD i (.at .non))=(l.filterMap λi=>cs[i]?).map Cl.pv/\(l.filterMap λi=>cs[i]?).map Cl.name=l.map λi=>(b8 (cs.map λc=>((0:Int),c.name)) i).2
 |[],_=>⟨rfl,rfl⟩
 |i::l,h=>by
  have hi:=h i yK;obtain ⟨h1,h2⟩:=Kk (cs:=cs) (l:=l) λj hj=>h j (yN _ hj);have e:cs[i]?=some cs[i]:=yL hi;constructor
  ·rw [yT,uQ e,yT,h1]
   congr 1
   simp [List.getD,e]
  ·rw [yT,uQ e,yT,h2]
   congr 1
   unfold b8;simp [List.getD,e]
theorem Ty (nd:(cs.map Cl.name).Nodup)(h10:cs.length<=10):∃ es:List Cl,es.Perm cs/\es.map Cl.name=qI (cs.map Cl.name)/\Zs [.lst (cs.map Cl.pv)]=some (.lst (es.map Cl.pv)):=by
 have pm:=ZH (cs.map λc=>((0:Int),c.name));have up:=Bk (cs.map λc=>((0:Int),c.name));rw [yZ] at pm;have lt:∀ i∈vN (cs.map λc=>((0:Int),c.name)),i<cs.length:=λi hi=>yg.mp (pm.mem_iff.mp hi);obtain ⟨h1,h2⟩:=Kk (cs:=cs) lt;have pe:((vN (cs.map λc=>((0:Int),c.name))).filterMap λi=>cs[i]?).Perm cs:=by have:=pm.filterMap (λi=>cs[i]?);rwa [Hg] at this
 refine ⟨_,pe,QT (pe.map _) ?_,?_⟩
 ·rw [h2];have k0:∀ i,b8 (cs.map λc=>((0:Int),c.name)) i=(0,(b8 (cs.map λc=>((0:Int),c.name)) i).2):=λi=>by
   unfold b8;rw [yb,yM];cases cs[i]?<;>rfl
  refine List.pairwise_map.mpr (up.imp λ{a b} h=>?_);rw [k0 a,k0 b,JJ] at h;exact of_decide_eq_false h
 ·show (vo kbC (cs.map Cl.pv)).bind _=_;have nd2:(cs.map λc=>((0:Int),c.name)).Nodup:=List.pairwise_map.mpr ((List.pairwise_map.mp nd).imp λh z=>h (Prod.mk.inj z).2);rw [Gw,yE,if_pos ⟨by rw [yZ];omega,nd2⟩,h1]
theorem Hc {a b:Cl}(h:a.pv=b.pv):a=b:=by obtain ⟨a1,a2,a3,a4,a5⟩:=a;obtain ⟨b1,b2,b3,b4,b5⟩:=b;unfold Cl.pv at h;injection h with h;injection h with e1 h;injection h with e2 h;injection h with e3 h;injection h with e4 h;injection h with e5 _;injection e1 with e1;injection e1 with e1;injection e2 with e2;injection e2 with e2;injection e3 with e3;injection e3 with e3;injection e4 with e4;injection e4 with e4;injection e5 with e5;injection e5 with e5;have f1:a1=b1:=e1;have f2:a2=b2:=Int.ofNat.inj e2;have f3:a3=b3:=e3;have f4:a4=b4:=e4;have f5:a5=b5:=e5;rw [f1,f2,f3,f4,f5]
abbrev vL:Stmt:=y9 67
abbrev YL (K:Fg)(Aa:Addr):WS:=(wSeq (wAsg (jc 4 (xh (v7 1) (xh (v7 2) (xh (v7 3) (xh (v7 4) jb))))) (Pd (QN K) wX (o5 (wP (q9 0)) (o5 (wP (dC (.int 10))) xO))))
  (wSeq (Ye 5 (Vh K) xP (o5 (wP (q9 0)) xO))
  (wSeq (wM 2 (x9 Zs (q8 (x6 2) x0)))
  (wSeq (qX (Xc (qJ (dT (z6 qt (x6 2) (n9 x0)))) (wT (o9 pEq (n5 5 (wP (dC (.int 3)))) (wP (dC (.int 0)))))) (wSeq (c8 6 (wP (z6 xH (z6 jf (dC (.int 10)) (dC (.int 30))) (dC (.int 1)))))
  (Yd 2 (dC (.int 0)) (qR (q8 (z6 y6 (z6 y6 (x6 2) (dC (.int 0))) (dC (.int 0))) (q8 (z6 y6 (z6 y6 (x6 2) (dC (.int 0))) (dC (.int 1))) (q8 (q9 6) (q8 (z6 xH (dC (.int 0)) (x6 6)) (q8 (q9 6) x0)))))))) xm)
  (wSeq (wFz 2 (c8 7 (wP (x9 je (q8 (q9 1) (q8 (q9 2) (q8 (q9 3) (q8 (q9 4) x0))))))))
  (wSeq (c8 8 (wP (x9 (xz Aa) (q8 (q9 1) (q8 (dRev (x6 2) (pSo (dUn QG (dC (.int 1))))) (q8 (q9 3) (q8 (q9 4) x0)))))))
  (wSeq (c8 9 (wP (x9 (zH Aa) (q8 (q9 8) x0))))
  (wSeq (wFz 2 (qX (qJ (qE (c9 (r9 (x9 qm (q8 (x6 9) (q8 (dC (.ty "str")) x0))))) (qE (dT (z6 qt (x6 9) (x6 7))) (c9 (r9 (x9 (zG Aa) (q8 (x9 (zF Aa) (q8 (q9 7) x0)) (q8 (q9 1) (q8 (q9 2) (q8 (qR (q8 (q9 3) (q8 (q9 4) x0))) x0)))))))))) (qY (wP (dC (.bl false)))) xm))
  (wSeq (wFz 2 (c8 10 (Ya je (o5 (wP (q9 1)) (o5 (wK 5 wH wU (o5 (wP (q9 2)) xO)) (o5 (wP (q9 3)) (o5 (wP (q9 4)) xO)))))))
  (wSeq (c8 11 (wP (x9 (zF Aa) (q8 (q9 10) x0))))
  (wSeq (wFz 2 (qX (qJ (qE (c9 (r9 (x9 (zG Aa) (q8 (q9 11) (q8 (q9 1) (q8 (q9 2) (q8 (qR (q8 (q9 3) (q8 (q9 4) x0))) x0))))))) (dT (z6 qt (x9 (zH Aa) (q8 (q9 11) x0)) (x6 7))))) (qY (wP (dC (.bl false)))) xm))
  (wSeq (c8 12 (wP (x9 je (q8 (q9 1) (q8 (n9 x0) (q8 (q9 3) (q8 (q9 4) x0)))))))
  (qY (wP (zf (x9 (zG Aa) (q8 (x9 (zF Aa) (q8 (q9 12) x0)) (q8 (q9 1) (q8 (n9 x0) (q8 (qR (q8 (q9 3) (q8 (q9 4) x0))) x0))))) (z6 pEq (x9 (zH Aa) (q8 (qj Aa "only" (wo Aa) (q9 8) (q8 (n9 x0) x0)) x0)) (x6 12)))))))))))))))))
theorem sc_law:w5 ["script","rinses","cloths","last","time","stream","big","due","works","found","turned","again","bare"] ["script"] (z9 vL):=y7
theorem MU (cs:List Cl):qt (.lst (cs.map Cl.pv)) (.lst [])=some (.at (.bl (!cs.isEmpty))):=by cases cs<;>rfl
theorem Zl (ok:d.Ok)(h10:cs.length<=10)(hc:∀ c∈cs,c.Ok d.h)(nd:(cs.map Cl.name).Nodup):(⟨d.h,d.rss,cs,d.last,d.time⟩:Dr).Ok:=⟨ok.h1,ok.h4,ok.rin,h10,hc,nd,ok.l1,ok.l2,ok.t1,ok.t2⟩
theorem RB :qI (qI ss)=qI ss:=ZI (QU ss)
abbrev el (K:Fg)(ns:List Int)(d:Dr)(s2:MSlot)(n:Int)(s6 s7 s8 s9 s10 s11 s12:MSlot):ME:=[.sh (scr K ns),.sh (k4 d.rss),s2,.sh (.at (.int d.last)),.sh (.at (.int d.time)),k9 n,s6,s7,s8,s9,s10,s11,s12]
abbrev lawR (Aa:Addr):WS:=((wSeq (wFz 2 (c8 7 (wP (x9 je (q8 (q9 1) (q8 (q9 2) (q8 (q9 3) (q8 (q9 4) x0))))))))
  (wSeq (c8 8 (wP (x9 (xz Aa) (q8 (q9 1) (q8 (dRev (x6 2) (pSo (dUn QG (dC (.int 1))))) (q8 (q9 3) (q8 (q9 4) x0)))))))
  (wSeq (c8 9 (wP (x9 (zH Aa) (q8 (q9 8) x0))))
  (wSeq (wFz 2 (qX (qJ (qE (c9 (r9 (x9 qm (q8 (x6 9) (q8 (dC (.ty "str")) x0))))) (qE (dT (z6 qt (x6 9) (x6 7))) (c9 (r9 (x9 (zG Aa) (q8 (x9 (zF Aa) (q8 (q9 7) x0)) (q8 (q9 1) (q8 (q9 2) (q8 (qR (q8 (q9 3) (q8 (q9 4) x0))) x0)))))))))) (qY (wP (dC (.bl false)))) xm))
  (wSeq (wFz 2 (c8 10 (Ya je (o5 (wP (q9 1)) (o5 (wK 5 wH wU (o5 (wP (q9 2)) xO)) (o5 (wP (q9 3)) (o5 (wP (q9 4)) xO)))))))
  (wSeq (c8 11 (wP (x9 (zF Aa) (q8 (q9 10) x0))))
  (wSeq (wFz 2 (qX (qJ (qE (c9 (r9 (x9 (zG Aa) (q8 (q9 11) (q8 (q9 1) (q8 (q9 2) (q8 (qR (q8 (q9 3) (q8 (q9 4) x0))) x0))))))) (dT (z6 qt (x9 (zH Aa) (q8 (q9 11) x0)) (x6 7))))) (qY (wP (dC (.bl false)))) xm))
  (wSeq (c8 12 (wP (x9 je (q8 (q9 1) (q8 (n9 x0) (q8 (q9 3) (q8 (q9 4) x0)))))))
  (qY (wP (zf (x9 (zG Aa) (q8 (x9 (zF Aa) (q8 (q9 12) x0)) (q8 (q9 1) (q8 (n9 x0) (q8 (qR (q8 (q9 3) (q8 (q9 4) x0))) x0))))) (z6 pEq (x9 (zH Aa) (q8 (qj Aa "only" (wo Aa) (q9 8) (q8 (n9 x0) x0)) x0)) (x6 12))))))))))))):WS)
theorem Vp {K:Fg}{ns:List Int}(ok:d.Ok)(ht:d.time<j7)(h10:es.length<=10)(hc:∀ c∈es,c.Ok d.h)(nd:(es.map Cl.name).Nodup)(hs:es.map Cl.name=qI (es.map Cl.name))(n:Int)(s6:MSlot):lawR C (el K ns d (.ow (.lst (es.map Cl.pv))) n s6 .no .no .no .no .no .no) (λ_=>False) (λy _=>y = .at (.bl true)):=by
 have hlim:lim=1000000:=rfl;have h4:=ok.h4;have nl:=GM ok;have nt:=GN ok ht;have okE:=Zl ok h10 hc nd;have ndr:(es.reverse.map Cl.name).Nodup:=by rw [List.map_reverse];exact (List.reverse_perm _).nodup_iff.mpr nd
 have okR:=Zl ok (cs:=es.reverse) (by rw [List.length_reverse];exact h10) (λc h=>hc c (List.mem_reverse.mp h)) ndr;have vt:=WQ ok.rin h4 hc h10 nl nt;have viR:=ZP (C:=C) okR;have vwR:=WU (C:=C) okR ht (es:=es) (by
  show es.map Cl.name=qI (es.reverse.map Cl.name);rw [hs]
  conv=>lhs;rw [<- hs]
  exact hs.trans (ZI (by rw [List.map_reverse];exact (List.reverse_perm _).symm))) (λc h=>List.mem_reverse.mpr h) h10
 have vrE:=WO (C:=C) (h:=d.h) (rss:=d.rss) (cs:=es) (l:=d.last) (t:=d.time) okE nl nt;have vgE:=WP (C:=C) okE (List.Perm.refl es);refine ⟨_,j5 (xs:=[k4 d.rss,.lst (es.map Cl.pv),.at (.int d.last),.at (.int d.time)]) rfl vt,?_⟩;show wSeq _ _ (el K ns d (.sh (.lst (es.map Cl.pv))) n s6 (.sh (.at (.str (TX d.rss es d.last d.time)))) .no .no .no .no .no) _ _;refine ⟨_,j5 (xs:=[k4 d.rss,.lst (es.reverse.map Cl.pv),.at (.int d.last),.at (.int d.time)]) (v4 rfl (v4 ?_ (v4 rfl (v4 rfl rfl)))) viR,?_⟩
 ·rw [List.map_reverse];rfl
 refine ⟨_,j5 (xs:=[(⟨d.h,d.rss,es.reverse,d.last,d.time⟩:Dr).ob C]) rfl vwR,?_⟩;show wSeq _ _ (el K ns d (.sh (.lst (es.map Cl.pv))) n s6 (.sh (.at (.str (TX d.rss es d.last d.time)))) (.sh ((⟨d.h,d.rss,es.reverse,d.last,d.time⟩:Dr).ob C)) (.sh (.at (.str (TX d.rss es d.last d.time)))) .no .no .no) _ _;refine wO (xR (qp (qx (j5 rfl Jy))) (xR (m3 (v:=false) (w6 rfl rfl (vC rfl))) (qp (qx (j5 (xs:=[(⟨d.h,d.rss,es,d.last,d.time⟩:Dr).ob C,k4 d.rss,.lst (es.map Cl.pv),.tup [.at (.int d.last),.at (.int d.time)]]) (v4 (j5 (xs:=[.at (.str (TX d.rss es d.last d.time))]) rfl vrE) (v4 rfl (v4 rfl (v4 (vd rfl l2) rfl)))) vgE))))) ?_;refine ⟨_,rfl,⟨n,rfl⟩,_,rfl,⟨n,rfl⟩,⟨es,rfl,h10⟩,?_⟩;rintro _ n2 ⟨ss,os,e,rfl,pm⟩;have e':ss=es:=by injection e with e _;injection e with e;exact (JO (λ_ _ h=>Hc h) e).symm
 subst e';have ocl:∀ c∈os,c.Ok d.h:=λc h=>hc c (pm.mem_iff.mp h);have ond:(os.map Cl.name).Nodup:=(pm.map _).nodup_iff.mpr nd;have o10:os.length<=10:=by rw [pm.length_eq];exact h10
 have okO:=Zl ok o10 ocl ond;have vtO:=WQ ok.rin h4 ocl o10 nl nt;have vrO:=WO (C:=C) (h:=d.h) (rss:=d.rss) (cs:=os) (l:=d.last) (t:=d.time) okO nl nt;have vgO:=WP (C:=C) okO pm.symm;have vwO:=WU (C:=C) okO ht (es:=ss) (hs.trans (ZI (pm.symm.map _))) (λc h=>pm.mem_iff.mpr h) h10;refine ⟨_,rfl,_,rfl,_,vtO,?_⟩;show wSeq _ _ (el K ns d (.sh (.lst (ss.map Cl.pv))) n2 s6 (.sh (.at (.str (TX d.rss ss d.last d.time)))) (.sh ((⟨d.h,d.rss,ss.reverse,d.last,d.time⟩:Dr).ob C)) (.sh (.at (.str (TX d.rss ss d.last d.time)))) (.sh (.at (.str (TX d.rss os d.last d.time)))) .no .no) _ _;refine ⟨_,j5 (xs:=[.at (.str (TX d.rss os d.last d.time))]) rfl vrO,?_⟩;show wSeq _ _ (el K ns d (.sh (.lst (ss.map Cl.pv))) n2 s6 (.sh (.at (.str (TX d.rss ss d.last d.time)))) (.sh ((⟨d.h,d.rss,ss.reverse,d.last,d.time⟩:Dr).ob C)) (.sh (.at (.str (TX d.rss ss d.last d.time)))) (.sh (.at (.str (TX d.rss os d.last d.time)))) (.sh ((⟨d.h,d.rss,os,d.last,d.time⟩:Dr).ob C)) .no) _ _;refine wO (xR (qp (qx (j5 (xs:=[(⟨d.h,d.rss,os,d.last,d.time⟩:Dr).ob C,k4 d.rss,.lst (ss.map Cl.pv),.tup [.at (.int d.last),.at (.int d.time)]]) (v4 rfl (v4 rfl (v4 rfl (v4 (vd rfl l2) rfl)))) vgO))) (m3 (v:=false) (w6 (j5 (xs:=[(⟨d.h,d.rss,os,d.last,d.time⟩:Dr).ob C]) rfl vwO) rfl (vC rfl)))) ?_;have okN:=Zl ok (cs:=[]) (yo _) (λc h=>absurd h yt) uS;have vtN:=WQ ok.rin h4 (cs:=[]) (λc h=>absurd h yt) (yo _) nl nt;have vrN:=WO (C:=C) (h:=d.h) (rss:=d.rss) (cs:=[]) (l:=d.last) (t:=d.time) okN nl nt;have vgN:=WP (C:=C) okN (List.Perm.refl []);have voN:=Tu (C:=C) okR (ns:=[]) ⟨λc h=>absurd h yt,uS⟩;have vwN:=WU (C:=C) okN ht (es:=[]) (List.perm_nil.mp (QU [])).symm (λc h=>absurd h yt) (yo _);refine ⟨_,j5 (xs:=[k4 d.rss,.lst [],.at (.int d.last),.at (.int d.time)]) (v4 rfl (v4 (zY rfl l0) rfl)) vtN,?_⟩;refine ⟨_,vc (w:=true) (j5 (xs:=[(⟨d.h,d.rss,[],d.last,d.time⟩:Dr).ob C,k4 d.rss,.lst [],.tup [.at (.int d.last),.at (.int d.time)]]) (v4 (j5 (xs:=[.at (.str (TX d.rss [] d.last d.time))]) rfl vrN) (v4 rfl (v4 (zY rfl l0) (v4 (vd rfl l2) rfl)))) vgN) (w6 (j5 (xs:=[(⟨d.h,d.rss,[],d.last,d.time⟩:Dr).ob C]) (v4 (zi rfl (by decide) (v4 (zY rfl l0) rfl) voN) rfl) vwN) rfl (JU rfl)),rfl⟩
theorem Rq (x y:PV)(xs:List PV):ZG (x::xs) 0 y=some (y::xs):=by unfold ZG ixN;rw [if_pos (by omega),if_pos (by rw [yS];omega)];rfl
theorem DK {K:Fg}:∀ ns:List Int,ns.length<=63->YL K Aa (.sh (scr K ns)::List.replicate ((["script","rinses","cloths","last","time","stream","big","due","works","found","turned","again","bare"]:List Str).length-1) .no) (λ_=>False) λy _=>y = .at (.bl true):=by
 intro ns h63;have hlim:lim=1000000:=rfl;have big:=wQ;refine ⟨_,rfl,_,rfl,⟨ns,10,rfl,h63,by decide⟩,?_⟩;rintro _ ⟨d,rfl,ok,ht,_,_,_,_⟩;have ten:=ok.ten;refine ⟨_,rfl,_,rfl,⟨ns,rfl,h63⟩,?_⟩;rintro _ ⟨n,rfl⟩;obtain ⟨es,pm,hs,vs⟩:=Ty ok.nd ten;have e10:es.length<=10:=by rw [pm.length_eq];exact ten
 have hc:∀ c∈es,c.Ok d.h:=λc h=>ok.cl c (pm.mem_iff.mp h);have nd:(es.map Cl.name).Nodup:=(pm.map _).nodup_iff.mpr ok.nd;have hss:es.map Cl.name=qI (es.map Cl.name):=by rw [hs,RB]
 refine ⟨_,j5 (xs:=[.lst (d.cls.map Cl.pv)]) rfl vs,?_⟩;show wSeq _ (lawR Aa) (el K ns d (.ow (.lst (es.map Cl.pv))) n .no .no .no .no .no .no .no) _ _;refine ⟨!es.isEmpty,m3 (w6 rfl (zY rfl l0) (MU es)),?_⟩;cases es with
 |nil=>exact qT (qT (Vp ok ht e10 hc nd hss _ _))
 |cons c r =>
  refine xg ⟨⟨n,rfl⟩,_,rfl,n,3,rfl,rfl,⟨by decide,by decide⟩,_,rfl,_,Dc _ _,_,rfl,?_⟩;cases decide (n % 3=0) with
  |false=>exact qT (Vp ok ht e10 hc nd hss _ _)
  |true =>
   refine xg ?_;have okc:=hc c yK;refine ⟨.at (.int (j7-1)),w6 (w6 rfl rfl vG) rfl rfl,?_⟩;show Yd 2 _ _ (el K ns d (.ow (.lst ((c::r).map Cl.pv))) (n / 3) (.sh (.at (.int (j7-1)))) .no .no .no .no .no .no) _ _;have e0:z6 y6 (x6 2) (dC (.int 0)) (el K ns d (.ow (.lst ((c::r).map Cl.pv))) (n / 3) (.sh (.at (.int (j7-1)))) .no .no .no .no .no .no)=some c.pv:=w6 rfl rfl (show L2.atI ((c::r).map Cl.pv) ((0:Nat):Int)=_ from zR rfl);refine ⟨(⟨c.name,c.hue,j7-1,0-(j7-1),j7-1⟩:Cl).pv,0,(c::r).map Cl.pv,((⟨c.name,c.hue,j7-1,0-(j7-1),j7-1⟩:Cl)::r).map Cl.pv,vd (v4 (w6 e0 rfl rfl) (v4 (w6 e0 rfl rfl) (v4 rfl (v4 (w6 rfl rfl rfl) (v4 rfl rfl))))) l5,rfl,rfl,Rq _ _ _,?_⟩;refine Vp (es:=(⟨c.name,c.hue,j7-1,0-(j7-1),j7-1⟩:Cl)::r) ok ht e10 (λx hx=>?_) nd hss _ _;rcases yP.mp hx with rfl|hx
   ·exact ⟨okc.nm,okc.hu,by show (1:Int)<=j7-1;omega,by show j7-1<j7;omega,by show -j7<0-(j7-1);omega,by show 0-(j7-1)<j7;omega,by show (1:Int)<=j7-1;omega,by show j7-1<j7;omega⟩
   ·exact hc x (yN _ hx)
theorem Ly (F:Fun K "law" "law" vL f fd)(Ik:Fn P w K mg base 3 "_law_more" ["script"] (spN (Vh K) xP))(Ib:Fn P w K mg base 2 "_law_order" ["stream","names"] (spD wH wU))(Av:Fn P w K mg base 9 "read_works" ["text"] (v8 (zF Aa)))(Eg:Fn P w K mg base 2 "_law_right" ["works","rinses","cloths","start"] (v8 (zG Aa)))(Ad:Fn P w K mg base 1 "_law_take" ["stream","many"] jN)(El:Fn P w K mg base 1 "_law_text" ["rinses","cloths","last","time"] (v8 je))(E5:Fn P w K mg base 4 "_law_works" ["script","most"] (spV (QN K) wX))(Ax:Fn P w K mg base 2 "works_text" ["works"] (v8 (zH Aa)))(Ab:mg "isinstance"=none)(Ay:mg "sorted"=none)(Az:mg "str"=none)(Am:mg "Works"=some (.ref Aa))(D2:Mt P w K mg base 7 Aa "only" ["self","names"] (zb [false,true] (wo Aa)))(Au:Mkr P w K mg base 5 Aa ["self","rinses","cloths","last","time"] (spI Aa (xz Aa))):FnOk P w K mg base v5 10 f fd ["script"] (QV K) :=
 okL (k:=9) (b:=YL K Aa) F sc_law (λcdv A outer s H E hr=>⟨_,(@j8 _ _ _ _ _ (Vi (u9 E5 hr (by decide) rfl (@x8 _ _ _ _ _ (pv 0) (@x8 _ _ _ _ _ z0 v3 (by rfl)) (by rfl))) (Vd (K:=K) (n:=4) rfl rfl (jG (k8 (i:=1) sc_law.nd rfl (Or.inl rfl)) (jG (k8 (i:=2) sc_law.nd rfl (Or.inl rfl)) (jG (k8 (i:=3) sc_law.nd rfl (Or.inl rfl)) (jG (k8 (i:=4) sc_law.nd rfl (Or.inl rfl)) Ve))))))
  (@j8 _ _ _ _ _ (@p9 _ _ 5 _ _ _ _ sc_law.nd rfl (Or.inl rfl) (u9 Ik hr (by decide) rfl (@x8 _ _ _ _ _ (pv 0) v3 (by rfl))) (by rfl) (.inl rfl))
  (@j8 _ _ _ _ _ (@p9 _ _ 2 _ _ _ _ sc_law.nd rfl (Or.inl rfl) (p5 (Ct (K:=K) rfl) rfl Ay ZZ (@x8 _ _ _ _ _ (pv 2) v3 (by rfl))) (by rfl) (.inl rfl))
  (@j8 _ _ _ _ _ (m7 (PW.pt (ZC (i7 (xW (K:=K) (hu6 hr) rfl) (pv 2) (@qL _ _ _ _ v3) (m6 _)) (ZD (i7 (vz (K:=K) (hu6 hr) rfl) (u9 Ad hr (by decide) rfl (@x8 _ _ _ _ _ (pv 5) (@x8 _ _ _ _ _ z0 v3 (by rfl)) (by rfl))) z0 (m6 _))))) (@j8 _ _ _ _ _ (@p9 _ _ 6 _ _ _ _ sc_law.nd rfl (Or.inl rfl) (w4 (zl) (w4 (xB) z0 z0) z0) (by rfl) (.inl rfl))
  (@j6 _ _ _ (Vi (@zn _ _ _ _ _ (@x8 _ _ _ _ _ (iW (K:=K) rfl (iW (K:=K) rfl (pv 2) z0) z0) (@x8 _ _ _ _ _ (iW (K:=K) rfl (iW (K:=K) rfl (pv 2) z0) z0) (@x8 _ _ _ _ _ (pv 6) (@x8 _ _ _ _ _ (w4 (zl) z0 (pv 6)) (@x8 _ _ _ _ _ (pv 6) v3 (by rfl)) (by rfl)) (by rfl)) (by rfl)) (by rfl))) (Kj (pv 2) z0 Bg)))) m8)
  (@j8 _ _ _ _ _ (@p9 _ _ 7 _ _ _ _ sc_law.nd rfl (Or.inl rfl) (u9 El hr (by decide) rfl (@x8 _ _ _ _ _ (pv 1) (@x8 _ _ _ _ _ (pv 2) (@x8 _ _ _ _ _ (pv 3) (@x8 _ _ _ _ _ (pv 4) v3 (by rfl)) (by rfl)) (by rfl)) (by rfl))) (by rfl) (.inl rfl))
  (@j8 _ _ _ _ _ (@p9 _ _ 8 _ _ _ _ sc_law.nd rfl (Or.inl rfl) (Zw Au hr (by decide) rfl Am (@x8 _ _ _ _ _ (pv 1) (@x8 _ _ _ _ _ (NA (K:=K) rfl (pv 2) (wF (Zx ZO z0))) (@x8 _ _ _ _ _ (pv 3) (@x8 _ _ _ _ _ (pv 4) v3 (by rfl)) (by rfl)) (by rfl)) (by rfl))) (by rfl) (.inl rfl))
  (@j8 _ _ _ _ _ (@p9 _ _ 9 _ _ _ _ sc_law.nd rfl (Or.inl rfl) (u9 Ax hr (by decide) rfl (@x8 _ _ _ _ _ (pv 8) v3 (by rfl))) (by rfl) (.inl rfl))
  (@j8 _ _ _ _ _ (m7 (PW.pt (xZ (qu (qG (K:=K) rfl (p5 (zS (K:=K) rfl) rfl Ab zx (@x8 _ _ _ _ _ (pv 9) (@x8 _ _ _ _ _ (jg (v:= .ty "str") rfl Az jr rfl) v3 (by rfl)) (by rfl))) (λ_=>rfl))) (xZ (i7 (xW (K:=K) (hu6 hr) rfl) (pv 9) (pv 7) (m6 _)) (zI (qu (qG (K:=K) rfl (u9 Eg hr (by decide) rfl (@x8 _ _ _ _ _ (u9 Av hr (by decide) rfl (@x8 _ _ _ _ _ (pv 7) v3 (by rfl))) (@x8 _ _ _ _ _ (pv 1) (@x8 _ _ _ _ _ (pv 2) (@x8 _ _ _ _ _ (@zn _ _ _ _ _ (@x8 _ _ _ _ _ (pv 3) (@x8 _ _ _ _ _ (pv 4) v3 (by rfl)) (by rfl))) v3 (by rfl)) (by rfl)) (by rfl)) (by rfl))) (λ_=>rfl))))))) (@j6 _ _ _ (w9 zm)) m8)
  (@j8 _ _ _ _ _ (@p9 _ _ 10 _ _ _ _ sc_law.nd rfl (Or.inl rfl) (u9 El hr (by decide) rfl (@x8 _ _ _ _ _ (pv 1) (@x8 _ _ _ _ _ (u9 Ib hr (by decide) rfl (@x8 _ _ _ _ _ (pv 5) (@x8 _ _ _ _ _ (pv 2) v3 (by rfl)) (by rfl))) (@x8 _ _ _ _ _ (pv 3) (@x8 _ _ _ _ _ (pv 4) v3 (by rfl)) (by rfl)) (by rfl)) (by rfl))) (by rfl) (.inl rfl))
  (@j8 _ _ _ _ _ (@p9 _ _ 11 _ _ _ _ sc_law.nd rfl (Or.inl rfl) (u9 Av hr (by decide) rfl (@x8 _ _ _ _ _ (pv 10) v3 (by rfl))) (by rfl) (.inl rfl))
  (@j8 _ _ _ _ _ (m7 (PW.pt (xZ (qu (qG (K:=K) rfl (u9 Eg hr (by decide) rfl (@x8 _ _ _ _ _ (pv 11) (@x8 _ _ _ _ _ (pv 1) (@x8 _ _ _ _ _ (pv 2) (@x8 _ _ _ _ _ (@zn _ _ _ _ _ (@x8 _ _ _ _ _ (pv 3) (@x8 _ _ _ _ _ (pv 4) v3 (by rfl)) (by rfl))) v3 (by rfl)) (by rfl)) (by rfl)) (by rfl))) (λ_=>rfl))) (zI (i7 (xW (K:=K) (hu6 hr) rfl) (u9 Ax hr (by decide) rfl (@x8 _ _ _ _ _ (pv 11) v3 (by rfl))) (pv 7) (m6 _))))) (@j6 _ _ _ (w9 zm)) m8)
  (@j8 _ _ _ _ _ (@p9 _ _ 12 _ _ _ _ sc_law.nd rfl (Or.inl rfl) (u9 El hr (by decide) rfl (@x8 _ _ _ _ _ (pv 1) (@x8 _ _ _ _ _ (@qL _ _ _ _ v3) (@x8 _ _ _ _ _ (pv 3) (@x8 _ _ _ _ _ (pv 4) v3 (by rfl)) (by rfl)) (by rfl)) (by rfl))) (by rfl) (.inl rfl))
  (@j6 _ _ _ (w9 (vD (u9 Eg hr (by decide) rfl (@x8 _ _ _ _ _ (u9 Av hr (by decide) rfl (@x8 _ _ _ _ _ (pv 12) v3 (by rfl))) (@x8 _ _ _ _ _ (pv 1) (@x8 _ _ _ _ _ (@qL _ _ _ _ v3) (@x8 _ _ _ _ _ (@zn _ _ _ _ _ (@x8 _ _ _ _ _ (pv 3) (@x8 _ _ _ _ _ (pv 4) v3 (by rfl)) (by rfl))) v3 (by rfl)) (by rfl)) (by rfl)) (by rfl))) (vF (vE (vz (K:=K) (hu6 hr) rfl) (u9 Ax hr (by decide) rfl (@x8 _ _ _ _ _ (Kd D2 hr (by decide) (pv 8) (@x8 _ _ _ _ _ (@qL _ _ _ _ v3) v3 (by rfl))) v3 (by rfl))) (pv 12) (m6 _)))))))))))))))))),
  (by repeat' first|infer_instance|(refine @Mi.instSemWSTSeqWSeq _ _ _ _ ?_ ?_)|(apply @Mi.instSemWSTForWForOfSemWIOfSemWG))⟩) DK
theorem PJ {K:Fg}{fd:FuncData}{T:Addr}{ob:Obj}{items:Array Value}{n:Nat}(hd:fd.defaults = .ref T)(q:K.lookup T=some ob)(hs:ob.data = .seq items n)(h:∀ us:List Value,us.length=ps.length->∃ k:Option (Array Value)->Sem (List (Str×Value)),bindArgs fd ⟨us,[]⟩=seqItems? fd.defaults >>= k/\k (some items)=pure (ps.zip us)):Binds K fd ps []:=λs us X hl=>by
 rw [yA] at hl ⊢;obtain ⟨k,e1,e2⟩:=h us hl;exact BindsTo.of_defaults hd (X _ _ q) hs e1 e2
abbrev so (f:Addr):Option (Option Value):=some (some (.ref f))
abbrev fO (oc:Value)(od:Option Addr)(x q:Str)(st:Stmt)(dV kV dc pm:Value)(an:Option Addr)(cd ct:Value)(sl:Array (Option Value)):Option Obj:=some ⟨oc,od,.func (PySem.W.fnOf x q (xj st) (i0 st) (z9 st) dV kV dc pm an cd ct),sl⟩
structure Zt (P:Program)(w:World)(K:Fg)(mg:Str->Option Value)(base h:Heap):Prop where
 X:K.In h
 G:h.Ns mainGlobals mg
def FG (K:Fg)(x:Str)(st:Stmt):Prop:=∃ f oc od kV dc pm an cd ct sl,PySem.W.nsIn K mainGlobals x=so f/\K.lookup f=fO oc od x x st .none kV dc pm an cd ct sl/\PySem.W.codeIn K cd x=true/\PySem.W.keepIn K (.ref f)=true
theorem FG.i {K:Fg}{f:Addr}{kV:Value}(a:PySem.W.nsIn K mainGlobals x=so f)(l:K.lookup f=fO oc od x x st .none kV dc pm an cd ct sl)(c:PySem.W.codeIn K cd x=true)(k:PySem.W.keepIn K (.ref f)=true):FG K x st:=⟨_,_,_,_,_,_,_,_,_,_,a,l,c,k⟩
def FM (K:Fg)(C:Addr)(x q:Str)(st:Stmt):Prop:=∃ f oc od kV dc pm an cd ct sl,PySem.W.findIn K (.ref C) x=so f/\PySem.W.isFn K (.ref f)=true/\K.lookup f=fO oc od x q st .none kV dc pm an cd ct sl/\PySem.W.codeIn K cd q=true/\PySem.W.keepIn K (.ref f)=true
theorem FM.i {K:Fg}{f:Addr}{kV:Value}(a:PySem.W.findIn K (.ref C) x=so f)(i:PySem.W.isFn K (.ref f)=true)(l:K.lookup f=fO oc od x q st .none kV dc pm an cd ct sl)(c:PySem.W.codeIn K cd q=true)(k:PySem.W.keepIn K (.ref f)=true):FM K C x q st:=⟨_,_,_,_,_,_,_,_,_,_,a,i,l,c,k⟩
abbrev BdA (x q:Str)(st:Stmt)(ps:List Str):Prop:=∀(kV doc pm:Value)(an:Option Addr)(cdv ct:Value)(us:List Value),us.length=ps.length->bindArgs (PySem.W.fnOf x q (xj st) (i0 st) (z9 st) .none kV doc pm an cdv ct) ⟨us,[]⟩=pure (ps.zip us)
theorem bd1 (h:∀(kV doc pm:Value)(an:Option Addr)(cdv ct a0:Value),bindArgs (PySem.W.fnOf x q (xj st) (i0 st) (z9 st) .none kV doc pm an cdv ct) ⟨[a0],[]⟩=pure [(p0,a0)]):BdA x q st [p0]:=λ_ _ _ _ _ _ us hl=>match us,hl with|[_],_=>h _ _ _ _ _ _ _
theorem bd2 (h:∀(kV doc pm:Value)(an:Option Addr)(cdv ct a0 a1:Value),bindArgs (PySem.W.fnOf x q (xj st) (i0 st) (z9 st) .none kV doc pm an cdv ct) ⟨[a0,a1],[]⟩=pure [(p0,a0),(p1,a1)]):BdA x q st [p0,p1]:=λ_ _ _ _ _ _ us hl=>match us,hl with|[_,_],_=>h _ _ _ _ _ _ _ _
theorem bd3 (h:∀(kV doc pm:Value)(an:Option Addr)(cdv ct a0 a1 a2:Value),bindArgs (PySem.W.fnOf x q (xj st) (i0 st) (z9 st) .none kV doc pm an cdv ct) ⟨[a0,a1,a2],[]⟩=pure [(p0,a0),(p1,a1),(p2,a2)]):BdA x q st [p0,p1,p2]:=λ_ _ _ _ _ _ us hl=>match us,hl with|[_,_,_],_=>h _ _ _ _ _ _ _ _ _
theorem bd4 (h:∀(kV doc pm:Value)(an:Option Addr)(cdv ct a0 a1 a2 a3:Value),bindArgs (PySem.W.fnOf x q (xj st) (i0 st) (z9 st) .none kV doc pm an cdv ct) ⟨[a0,a1,a2,a3],[]⟩=pure [(p0,a0),(p1,a1),(p2,a2),(p3,a3)]):BdA x q st [p0,p1,p2,p3]:=λ_ _ _ _ _ _ us hl=>match us,hl with|[_,_,_,_],_=>h _ _ _ _ _ _ _ _ _ _
theorem bd5 {p4:Str}(h:∀(kV doc pm:Value)(an:Option Addr)(cdv ct a0 a1 a2 a3 a4:Value),bindArgs (PySem.W.fnOf x q (xj st) (i0 st) (z9 st) .none kV doc pm an cdv ct) ⟨[a0,a1,a2,a3,a4],[]⟩=pure [(p0,a0),(p1,a1),(p2,a2),(p3,a3),(p4,a4)]):BdA x q st [p0,p1,p2,p3,p4]:=λ_ _ _ _ _ _ us hl=>match us,hl with|[_,_,_,_,_],_=>h _ _ _ _ _ _ _ _ _ _ _
section
variable {P:Program}{w:World}{K:Fg}{mg:Str->Option Value}{base h:Heap}{k:Nat}{ps:List Str}{sp:Sp}{x q:Str}{st:Stmt}{C:Addr}
theorem fG (Z:Zt P w K mg base h)(a:FG K x st)(H:∀{f fd},Fun K x x st f fd->FnOk P w K mg base v5 k f fd ps sp)(b:BdA x x st ps:=by first|exact bd1 λ_ _ _ _ _ _ _=>rfl|exact bd2 λ_ _ _ _ _ _ _ _=>rfl|exact bd3 λ_ _ _ _ _ _ _ _ _=>rfl|exact bd4 λ_ _ _ _ _ _ _ _ _ _=>rfl|exact bd5 λ_ _ _ _ _ _ _ _ _ _ _=>rfl):Fn P w K mg base k x ps sp:=by obtain ⟨f,oc,od,kV,dc,pm,an,cd,ct,sl,a,l,c,kp⟩:=a;exact ⟨f,_,H (vg l c kp),PySem.W.mg_of Z.X Z.G a,kp,(vg l c kp).binds b⟩
theorem fM (Z:Zt P w K mg base h)(kc:xv K C)(a:FM K C x q st)(H:∀{f fd},Fun K x q st f fd->FnOk P w K mg base v5 k f fd ps sp)(b:BdA x q st ps:=by first|exact bd1 λ_ _ _ _ _ _ _=>rfl|exact bd2 λ_ _ _ _ _ _ _ _=>rfl|exact bd3 λ_ _ _ _ _ _ _ _ _=>rfl|exact bd4 λ_ _ _ _ _ _ _ _ _ _=>rfl|exact bd5 λ_ _ _ _ _ _ _ _ _ _ _=>rfl):Mt P w K mg base k C x ps sp:=by obtain ⟨f,oc,od,kV,dc,pm,an,cd,ct,sl,a,i,l,c,kp⟩:=a;exact ⟨f,_,H (vg l c kp),⟨a,i,kp⟩,kc.c,(vg l c kp).binds b⟩
theorem fMX (Z:Zt P w K mg base h)(kc:xv K C)(a:FM K C x q st)(H:∀{f fd},Fun K x q st f fd->FnOk P w K mg base (CX1 P w) k f fd ps sp)(b:BdA x q st ps:=by first|exact bd1 λ_ _ _ _ _ _ _=>rfl|exact bd2 λ_ _ _ _ _ _ _ _=>rfl|exact bd3 λ_ _ _ _ _ _ _ _ _=>rfl|exact bd4 λ_ _ _ _ _ _ _ _ _ _=>rfl|exact bd5 λ_ _ _ _ _ _ _ _ _ _ _=>rfl):Mx P w K mg base k C x ps sp:=by obtain ⟨f,oc,od,kV,dc,pm,an,cd,ct,sl,a,i,l,c,kp⟩:=a;exact ⟨f,_,H (vg l c kp),⟨a,i,kp⟩,kc.c,(vg l c kp).binds b⟩
end
theorem all_mk {l:PySem.W.OpenLaw}{w:World}{K:Fg}{h:Heap}{mg:Str->Option Value}{fa f37 f51:Addr}{od37 od51 an37 an51:Option Addr}{sl37 sl51:Array (Option Value)}{oc37 oc51 kV37 kV51 dc37 dc51 pm37 pm51 ct37 ct51 cd37 cd51:Value}{T37:Addr}{qc37 qv37_0 qv37_1:Value}{qd37:Option Addr}{qn37:Nat}{qs37:Array (Option Value)}(X:K.In h)(TT:∀ P∈[],h.get? P=some (PySem.W.tabObj #[]))(hTB:TABS=[])(G:h.Ns mainGlobals mg)(hfa:mg "law"=some (.ref fa))(Iy:W.nsIn K mainGlobals "NoName"=some (some (.ref Ai)))(J8:W.nsIn K mainGlobals "Works"=some (some (.ref Aa)))(Ii:PySem.W.plainGet K Aa Str.empty=true)(Ij:PySem.W.hasDictIn K Aa=true)(Ic:PySem.W.plainOver K Aa=true)(Ie:W.findIn K (.ref Aa) "__setattr__"=some (some (.builtin "object.__setattr__")))(Iv:PySem.W.makesIn K Aa=true)(J1:W.keepIn K (.ref Aa)=true)(Ey:W.findIn K (.ref Aa) "given"=some none)(E8:W.findIn K (.ref Aa) "held"=some none)(E9:W.findIn K (.ref Aa) "last"=some none)(Ew:W.findIn K (.ref Aa) "least"=some none)(E3:W.findIn K (.ref Aa) "time"=some none)(a0:FG K "_law_mixed" VW)(a1:FG K "_law_take" Wl)(a2:FG K "_law_stream" ZF)(a3:FG K "_law_more" VX)(a4:FG K "_law_rinse" Wg)(a5:FG K "_law_rinses" Wh)(a6:FG K "_law_name" VY)(a7:FG K "_law_cloth" VH)(a8:FG K "_law_works" Ws)(a9:FG K "_law_order" Wb)(a10:FG K "is_whole" VQ)(a11:FG K "name_of" VZ)(a12:FG K "hue_of" VJ)(a13:FG K "length_of" VU)(a14:FG K "due_of" VI)(a15:FG K "weight_of" Wo)(a16:FG K "is_from" VM)(a17:FG K "is_name" VN)(a18:FG K "is_cloth" VL)(a19:FG K "is_rinse_row" VP)(a20:FG K "check_rinses" VF)(a21:FG K "straight_ways" Wi)(a22:FG K "joined" VR)(a23:FG K "lesser" VV)(a24:FG K "ways_through" Wn)(a25:FG K "least_ways" VT)(a26:FG K "sums_of" Wj)(a27:FG K "least_rinses" VS)(a28:FG K "check_start" VG)(a29:FG K "check_cloths" VD)(a30:FM K Aa "hues" "Works.hues" Vw)(a31:FM K Aa "start" "Works.start" VB)(a32:FM K Aa "names" "Works.names" Vx)(a33:FM K Aa "rinses" "Works.rinses" VA)(a34:FM K Aa "cloth" "Works.cloth" Vv)(a35:FG K "are_names" VC)(a36:FG K "check_names" VE)(a37:W.findIn K (.ref Aa) "__init__"=so f37)(i37:W.isFn K (.ref f37)=true)(l37:K.lookup f37=fO oc37 od37 "__init__" "Works.__init__" vK (.ref T37) kV37 dc37 pm37 an37 cd37 ct37 sl37)(c37:W.codeIn K cd37 "Works.__init__"=true)(k37:W.keepIn K (.ref f37)=true)(q37:K.lookup T37=some ⟨qc37,qd37,.seq #[qv37_0,qv37_1] qn37,qs37⟩)(a38:FM K Aa "put" "Works.put" Vz)(a39:FM K Aa "only" "Works.only" Vy)(a40:FG K "words_text" Wr)(a41:FG K "works_text" Wt)(a42:FG K "is_number" VO)(a43:FG K "words_behind" Wq)(a44:FG K "numbers_of" Wa)(a45:FG K "read_rinses" Wc)(a46:FG K "read_vat" Wd)(a47:FG K "with_cloth" Wp)(a48:FG K "read_works" We)(a49:FG K "_law_text" Wm)(a50:FG K "_law_right" Wf)(a51:W.nsIn K mainGlobals "law"=so f51)(l51:K.lookup f51=fO oc51 od51 "law" "law" vL .none kV51 dc51 pm51 an51 cd51 ct51 sl51)(c51:W.codeIn K cd51 "law"=true)(k51:W.keepIn K (.ref f51)=true)(Q0:W.nsIn K mainGlobals "all"=some none)(N0:W.nsIn K mainGlobals "bool"=some none)(N1:W.nsIn K mainGlobals "dict"=some none)(Id:W.nsIn K mainGlobals "enumerate"=some none)(N9:W.nsIn K mainGlobals "int"=some none)(E6:W.nsIn K mainGlobals "isinstance"=some none)(N8:W.nsIn K mainGlobals "len"=some none)(N2:W.nsIn K mainGlobals "list"=some none)(N3:W.nsIn K mainGlobals "min"=some none)(J6:W.nsIn K mainGlobals "range"=some none)(N5:W.nsIn K mainGlobals "set"=some none)(Ix:W.nsIn K mainGlobals "sorted"=some none)(N7:W.nsIn K mainGlobals "str"=some none)(N6:W.nsIn K mainGlobals "sum"=some none)(J9:W.nsIn K mainGlobals "tuple"=some none)(N4:W.nsIn K mainGlobals "zip"=some none)(Et:W.nsIn K mainGlobals "LONGEST_NAME"=some (some (.int 8 A6)))(Ex:W.nsIn K mainGlobals "MOST_CLOTHS"=some (some (.int 10 B7)))(Ep:W.nsIn K mainGlobals "MOST_FIGURES"=some (some (.int 30 A8)))(Ig:W.nsIn K mainGlobals "MOST_HUES"=some (some (.int 4 Ec)))(J7:W.nsIn K mainGlobals "PARTS"=some (some (.int 5 E4)))(Eu:PySem.W.excIn K Ai [.type "ValueError",.type "Exception",.type "BaseException",.type "object"] "ValueError.__new__"=true)(Ir:W.findIn K (.ref Aa) "__class__"=some (some (.builtin "object.__class__")))(Iq:PySem.W.mroIn K Aa (.type "object")=some true)(Ip:PySem.W.kitOne K (.ref Aa) (.ref Aa)=some true)(usp:PySem.W.specialIn K (.builtin "object.__class__") "__get__"=some (some (.builtin "getset_descriptor.__get__")))(utk:PySem.W.takesIn K (.builtin "object.__class__")=some true):∃ fd:FuncData,(∀ (s:Shared) (v:Value),BindsTo s fd ⟨[v],[]⟩ [("script",v)])/\vV K h/\∀ base:Heap,K.In base->base.Ns mainGlobals mg->FnOk l.prog w K mg base v5 10 fa fd ["script"] (QV K):=by
 have e:=hfa.symm.trans (W.mg_of X G a51);cases e;have As:=W.mg_none_of X G Q0;have Io:=W.mg_none_of X G N0;have Il:=W.mg_none_of X G N1;have D9:=W.mg_none_of X G Id;have Ez:=W.mg_none_of X G N9;have Ab:=W.mg_none_of X G E6;have Ac:=W.mg_none_of X G N8;have Aj:=W.mg_none_of X G N2;have Iw:=W.mg_none_of X G N3;have Af:=W.mg_none_of X G J6;have J2:=W.mg_none_of X G N5;have Ay:=W.mg_none_of X G Ix;have Az:=W.mg_none_of X G N7;have Ih:=W.mg_none_of X G N6;have Ed:=W.mg_none_of X G J9;have Iz:=W.mg_none_of X G N4;have A5:=W.mg_of X G Et;have B5:=W.mg_of X G Ex;have B3:=W.mg_of X G Ep;have D5:=W.mg_of X G Ig;have E7:=W.mg_of X G J7;have Es:=W.mg_of X G Iy;have Am:=W.mg_of X G J8;have D3:xv K Aa:=⟨⟨Ii,Ij,Ic,Ie⟩⟩;have E1:InsK K Aa:=⟨⟨Ii,Ij,Ic,Ie⟩,Ir,usp,utk,Iq,Ip⟩;have Iu:i9 K Aa "given":=⟨Ey⟩;have J5:i9 K Aa "held":=⟨E8⟩;have J4:i9 K Aa "last":=⟨E9⟩;have J0:i9 K Aa "least":=⟨Ew⟩;have J3:i9 K Aa "time":=⟨E3⟩;have F37:=Du (st:=vK) l37 c37 k37;have F51:=vg (st:=vL) l51 c51 k51;have b37:Binds K (W.fnOf "__init__" "Works.__init__" (xj vK) (i0 vK) (z9 vK) (.ref T37) kV37 dc37 pm37 an37 cd37 ct37) ["self","rinses","cloths","last","time"] []:=PJ (T:=T37) rfl q37 rfl λus hl=>match us,hl with|[_,_,_,_,_],_=>⟨_,rfl,rfl⟩
 have TK:vV K h:=by refine ⟨λp hp=>?_,λp hp=>?_,λp hp q hq=>?_,λp hp=>?_,λp hp q hq e=>?_,λp hp=>?_⟩<;>rw [hTB] at hp<;>cases hp
 refine ⟨W.fnOf "law" "law" (xj vL) (i0 vL) (z9 vL) .none kV51 dc51 pm51 an51 cd51 ct51,λs v=> .of_eq rfl,TK,λbase _ _=>?_⟩;have Z:Zt l.prog w K mg base h:=⟨X,G⟩;have Eh:=fG Z a0 λF=>LD F;have Ad:=fG Z a1 λF=>LT F;have A0:=fG Z a2 λF=>LQ F Eh Ac Af Ih;have Ik:=fG Z a3 λF=>LE F A0;have E2:=fG Z a4 λF=>LN F Ad;have Em:=fG Z a5 λF=>LO F E2 Af;have Im:=fG Z a6 λF=>LF F Ad Ac Af;have Ia:=fG Z a7 λF=>Ll F Im Ad;have E5:=fG Z a8 λF=>Nb F Ia Em A0 Ad Iw Af;have Ib:=fG Z a9 λF=>LI F Ad Ac Aj;have An:=fG Z a10 λF=>Lv F Io Ez Ab;have Aq:=fG Z a11 λF=>LG F;have Ei:=fG Z a12 λF=>Ln F;have D7:=fG Z a13 λF=>LB F;have Ev:=fG Z a14 λF=>Lm F;have D8:=fG Z a15 λF=>LW F;have Ar:=fG Z a16 λF=>Lq F An;have Ej:=fG Z a17 λF=>Lr F As Ab Ac Az A5;have Ee:=fG Z a18 λF=>Lp F Ev Ei Ar Ej An D7 Aq D8 Ab Ac Ed E7;have B0:=fG Z a19 λF=>Lu F An As Ab Ac Aj;have Al:=fG Z a20 λF=>Lj F B0 As Ab Ac Aj D5;have A3:=fG Z a21 λF=>LP F D9;have En:=fG Z a22 λF=>Lx F;have Eo:=fG Z a23 λF=>LC F;have A7:=fG Z a24 λF=>LV F En Eo Iz;have D1:=fG Z a25 λF=>LA F A3 A7 Ac Af;have Ek:=fG Z a26 λF=>LS F;have A9:=fG Z a27 λF=>Lz F Al D1 Ek;have B9:=fG Z a28 λF=>Lk F Ar;have B4:=fG Z a29 λF=>Lh F Ee Aq Ac B5;have A4:=fM (sp:=(v8 (wn Aa))) Z D3 a30 λF=>MZ F Ac;have Ao:=fM (sp:=(v8 (vy Aa))) Z D3 a31 λF=>Lf F;have Ag:=fM (sp:=(i8 (zD Aa))) Z D3 a32 λF=>Lb F Ay;have Ak:=fM (sp:=(i8 (jC Aa))) Z D3 a33 λF=>Le F Aj;have Ap:=fMX (sp:=(wJ [false,false] (jB Aa) (ZT Ai Aa))) Z D3 a34 λF=>MY F Ab Az Es Eu;have Ea:=fG (sp:=(zb [false,true] (wp Aa))) Z a35 λF=>Lg F As Ab Ac Aj J2 Ag;have B6:=fG (sp:=(zb [false,true] (Qw Aa))) Z a36 λF=>Li F Ea;have Au:Mkr l.prog w K mg base _ Aa _ (spI Aa (xz Aa)):=⟨_,_,La F37 B4 B9 A9 Aq Il Aj A4,⟨Iv,a37,i37,J1⟩,b37⟩;have Eb:=fM (sp:=(v8 (Qv Aa))) Z D3 a38 λF=>Ld F Aj Am Au;have D2:=fM (sp:=(zb [false,true] (wo Aa))) Z D3 a39 λF=>Lc F B6 Am Au;have Aw:=fG Z a40 λF=>Na F Az;have Ax:=fG (sp:=(v8 (zH Aa))) Z a41 λF=>Nc F Aw Ap Ag Ak Ao;have D6:=fG Z a42 λF=>Ls F As Ac B3;have Ae:=fG Z a43 λF=>LZ F Ac;have Ah:=fG Z a44 λF=>LH F D6 As Ez;have B8:=fG Z a45 λF=>LJ F Al Ah Ae;have Ef:=fG (sp:=(v8 (wu Aa))) Z a46 λF=>LK F Ah B8 Ae Ac Am Au;have D4:=fG (sp:=(v8 (ww Aa))) Z a47 λF=>LY F Ah Ae Ed Eb;have Av:=fG (sp:=(v8 (zF Aa))) Z a48 λF=>LL F Ef D4 Ac Af;have El:=fG Z a49 λF=>LU F Az;have Eg:=fG (sp:=(v8 (zG Aa))) Z a50 λF=>LM F As Ab Ay Am E1 Ap Ag Ak Ao;exact Ly F51 Ik Ib Av Eg Ad El E5 Ax Ab Ay Az Am D2 Au
theorem walk {l:PySem.W.OpenLaw}{q:Program}{loose:List Str}{XP:(Str->Option Value)->Heap->Prop}{YP:World->Heap->Prop}{d:DefRec}{K:Params->Fg}(hn:l.most=some 63)(hdf:d.params.defaults=[])(hY:∀ (w:World) (h:Heap),YP w h->(K w.params).In h)(F:∀ (w:World) (mg:Str->Option Value) (fa:Addr) (h:Heap),YP w h->(K w.params).In h->h.Ns mainGlobals mg->mg d.name=some (.ref fa) -> ∃ fd:FuncData,(∀ (s:Shared) (u:Value),BindsTo s fd ⟨[u],[]⟩ [("script",u)])/\vV (K w.params) h/\∀ base:Heap,(K w.params).In base->base.Ns mainGlobals mg->FnOk l.prog w (K w.params) mg base v5 10 fa fd ["script"] (QV (K w.params))):PySem.W.WalkO q loose XP YP l.row.toRowW d [] (λf vs=>PySem.call f vs) :=
 L2.TJ (n:=63) (k:=10) (x:="script") (CX:=λ_=>v5) (sp:=λw=>QV (K w.params)) hn (by decide) hdf ⟨rfl,by decide,by decide⟩ hY F (λ_ _ a ns hl _ hS=>⟨a,ns,rfl,hS,hl,λ_=>rfl⟩) λ_ _ _ _ _ z=>z
end Lw
open PySem PySem.W PyProof.Rows
set_option maxRecDepth 100000 in
set_option maxHeartbeats 0 in
theorem PySem.Challenge.cw_rinsework_k86_texts_there_and_back_holds : PySem.Challenge.rw_rinsework_k86_texts_there_and_back.Holds := by
  w_on; o_law; k_head; (case hw => w_witness2)
  k_fill
  refine Lw.walk (l := PySem.Challenge.rw_rinsework_k86_texts_there_and_back) rfl rfl (λw h Y => PySem.W.kIn_of Y) ?F
  case F =>
    intro w mg fa h Y KX G hmg
    apply Lw.all_mk KX (λ_ z => nomatch z) rfl G hmg
    iterate 13 k_is
    iterate 30 (apply Lw.FG.i;iterate 4 k_is)
    iterate 5 (apply Lw.FM.i;iterate 5 k_is)
    iterate 2 (apply Lw.FG.i;iterate 4 k_is)
    iterate 6 k_is
    iterate 2 (apply Lw.FM.i;iterate 5 k_is)
    iterate 11 (apply Lw.FG.i;iterate 4 k_is)
    iterate 25 k_is
    iterate 1 k_exc
    iterate 2 k_is
    iterate 1 kit_is
    iterate 2 k_is
