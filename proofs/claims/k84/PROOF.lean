import PyProof.Rows.All
import Wide.All
import OpenK.AllK
import Wide.FinOn
import Lean
import PyProof.EqAt
import PyProof.EqKinds
import PyProof.NeKinds
import PyProof.TupleCall
import PySem.Challenge.RW_rinsework_k84_house_keeps_its_own
set_option Elab.async false
set_option linter.all false
set_option maxRecDepth 100000
namespace PySem.W.Fast
def tw1048692398554341006:=0
def tw10896020898021485124:=0
def tw10936865378957088988:=0
def tw13328292734157019045:=0
def tw13563797889867734371:=0
def tw13586633631290934610:=0
def tw13983599255476422256:=0
def tw14169705412446004009:=0
def tw15235262200772721575:=0
def tw16125727231737187948:=0
def tw17929491700105941039:=0
def tw193152011334559237:=0
def tw2033924141794813878:=0
def tw3852797687224658182:=0
def tw5752475453522214361:=0
def tw7208462990314635036:=0
def tw8549888237171303113:=0
def tw8714739650697887841:=0
def tw9013536684179009503:=0
def tw9620743400658374262:=0
def tw9730844263044358902:=0
def tw12352252031606848233:=0
def tw7221078351966055346:=0
def tw4222335854168909257:=0
def tw3079135215740331969:=0
def tw4072987998772313880:=0
def tw7398901048065444963:=0
def tw7659056657350864275:=0
def tw2091755333796304903:=0
def tw10048611624651639664:=0
def tw15528985136906309514:=0
def tw10405852456577324325:=0
def tw809527072040287970:=0
def tw7951411197078755818:=0
def tw7674971545486530393:=0
def tw9196308168640471689:=0
def tw8163863953796439806:=0
def tw14669114324948131975:=0
def tw4331770031539744389:=0
def tw8466204436662270737:=0
def tw15360398002087092396:=0
def tw516529284130850393:=0
def tw531397846668196198:=0
def tw16013606134006539474:=0
def tw4936253744565119443:=0
def tw7774211220581959693:=0
def tw1683776996070681360:=0
def tw2487922875711154331:=0
def tw17099522976549564423:=0
def tw17281620722366319391:=0
def tw6267456371500529501:=0
def tw9548955591667636117:=0
def tw18004972306969663817:=0
def tw14461455986472378488:=0
def tw1517972653767632709:=0
def tw15258000295462952157:=0
def tw14843789135557258028:=0
def tw15921758585042602084:=0
def tw11654126400783760532:=0
def tw5009599828616366254:=0
def tw8460069187152309057:=0
def tw18035838934589263217:=0
def tw12745846630008301727:=0
def tw1848494334516674791:=0
def tw2872561512365793915:=0
def tw4995533078601535008:=0
def tw7363079147906972426:=0
def tw13596124644730669172:=0
def tw10968332236702645215:=0
def tw956304118514556307:=0
def tw3294475955374180518:=0
def tw12390290328136660091:=0
def tw17781160971381169823:=0
def tw11724054267893416160:=0
def tw408540146364495135:=0
def tw3707664230594915655:=0
def tw3762463933454663710:=0
def tw7857454928051226693:=0
def tw12901827734801956022:=0
def tw4225424720920536328:=0
def tw7590457681895317915:=0
def tw16283878837326362024:=0
def tw8033153421689221912:=0
def tw16173436918696949999:=0
def tw14616659526930883064:=0
def tw15259448005470697591:=0
def tw13655681357299014148:=0
def tw12703691257019227104:=0
def tw9393616498093172227:=0
def tw18103493217286906222:=0
def tw7993442228267612803:=0
def tw18011138355111397175:=0
def tw4707593021744860333:=0
def tw11758960733718469348:=0
def tw14924590050936561129:=0
def tw5060053566697373918:=0
def tw9011534681665052842:=0
def tw15264998334465433930:=0
def tw15322936801962876903:=0
def tw18441395322162931151:=0
def tw10117704562079456804:=0
def tw10558402599865839716:=0
def tw14832480900721357726:=0
def tw2308015335328073305:=0
def tw11748083081627174041:=0
def tw1562621264343961436:=0
def tw4302093117377102768:=0
def tw5809130132384811117:=0
def tw15240537618589944734:=0
def tw11223443973532148375:=0
def tw8758382635879118947:=0
def tw2605324056288531984:=0
def tw16132827196170240169:=0
def tw13365043684828602682:=0
def tw643267308706980338:=0
def tw6753724493712975506:=0
def tw17853071880776457205:=0
def tw130555847718143029:=0
def tw14747706402774626067:=0
def tw9293783902451634710:=0
def tw12924579826295151242:=0
def tw15027701789967165205:=0
def tw942792896378297013:=0
def tw12865383776930587057:=0
def tw15728278378649316190:=0
def tw2426720825614435622:=0
def tw13552765317460539015:=0
def tw12001765324780479418:=0
def tw17717426137125846377:=0
def tw15840392366803810337:=0
def tw15877904171099581850:=0
def tw3562512842146564313:=0
def tw1432377812627326042:=0
def tw14720982312968247331:=0
def tw12531665774856958661:=0
def tw3722395831427805174:=0
def tw3902235958171060007:=0
def tw17731992463053170866:=0
def tw6225194396555044383:=0
def tw5328032351470466276:=0
def tw16976877773690390134:=0
def tw11227848872391595165:=0
def tw4684501697819354863:=0
def tw1237357938345856045:=0
def tw12521898246186777753:=0
def tw12569206318389768633:=0
def tw10018443689326621511:=0
def tw372351978547512011:=0
def tw4596132688648485707:=0
def tw14693725668834623738:=0
def tw4260867241426921994:=0
def tw6060139839034190272:=0
def tw4998551105523597762:=0
def tw2816122712813970960:=0
def tw10545891649349416166:=0
def tw4243744698478987417:=0
def tw12751928958610650992:=0
def tw9823698765402933884:=0
def tw1802911114495263245:=0
def tw7564331325518784998:=0
def tw11268157062972766129:=0
def tw2664559876832014784:=0
def tw9978166618376203774:=0
def tw8720956926613090935:=0
def tw17811768378159170404:=0
def tw15787100204531989002:=0
def tw7572408309457275958:=0
def tw16076123591823510084:=0
def tw18194665670246858805:=0
def tw16732958718308632998:=0
def tw9127662862243072567:=0
def tw11469117101984151785:=0
def tw7326836040351326543:=0
def tw10049058199190637017:=0
def tw17246759572671351459:=0
def tw7321095694590610779:=0
def tw7131638888557271345:=0
def tw3120506201794997018:=0
def tw11546563540421134301:=0
def tw17878133972603537503:=0
def tw7147116712442169420:=0
def tw11659188670929329969:=0
def tw16720214558112614581:=0
def tw15395919226833124816:=0
def tw11436389405964933970:=0
def tw9147303830553189389:=0
def tw13390078289468939385:=0
def tw17087140631269807945:=0
def tw8128716777742068335:=0
def tw15303162419397401849:=0
def tw10396070083103891463:=0
def tw16772008492919197049:=0
def tw13854889608995591160:=0
def tw8187914293247361838:=0
def tw10864944213867071306:=0
def tw17546957642063270540:=0
def tw12050220056075502532:=0
def tw15959187726787429075:=0
def tw10960085625595498063:=0
def tw10747306173296450342:=0
def tw11160010961174866745:=0
def tw15874805565401837662:=0
def tw17477696844116003297:=0
def tw17042695586763555150:=0
def tw17438121251420297398:=0
def tw2734999459269357270:=0
def tw6033127788974722730:=0
def tw18026579695086622632:=0
def tw8788478299368798005:=0
def tw3349439569213116710:=0
def tw5136733450149716921:=0
def tw5510865346522570733:=0
def tw10513062499431169722:=0
def tw8139725954281180133:=0
def tw3804203067898859172:=0
def tw142839354732822200:=0
def tw13170896194105020235:=0
def tw8751800602624856668:=0
def tw16942866595603211889:=0
def tw10244742586499545368:=0
def tw7660906997872635131:=0
def tw1632855850287404893:=0
def tw6904510512797182442:=0
def tw162320293246751163:=0
def tw2794673354063393394:=0
def tw11860915847641099607:=0
def tw17388598524570542645:=0
def tw5483165031728684193:=0
def tw14755084882580219813:=0
def tw14024209047021282984:=0
def tw5570768332542637094:=0
def tw1723243867435818650:=0
def tw13193884271278618681:=0
def tw8950907115730991194:=0
def tw14755343110833411193:=0
def tw17052493670339755761:=0
def tw9411879410266339198:=0
def tw11260071530001429478:=0
def tw8817648517643541139:=0
def tw8498507592258567173:=0
def tw6118443952275535334:=0
def tw9854529197394389240:=0
def tw12753481904071290818:=0
def tw17034874988197874438:=0
def tw8047606785448390499:=0
def tw4411191548769412586:=0
def tw11136721483883255826:=0
def tw1235112253632769056:=0
def tw15477590637773269258:=0
def tw13241663116315777201:=0
def tw17434980374197329751:=0
def tw13266869543176677327:=0
def tw14357465966788555518:=0
def tw11842731943869847009:=0
def tw6617247665087291740:=0
def tw17561158205026721394:=0
def tw8995902786085436211:=0
def tw8611901038228386833:=0
def tw11012634917421681709:=0
def tw6237982231207682349:=0
def tw6780178375668900161:=0
def tw6653374664196329408:=0
def tw4596334391826029579:=0
def tw14412569909805499552:=0
def tw535916411074112179:=0
def tw4016588323577388653:=0
def tw1016832168198988092:=0
def tw15003822626952823538:=0
def tw18213666766500749062:=0
def tw4378115877953531134:=0
def tw16673610781495873101:=0
def tw5359451146068050235:=0
def tw8488476550979636809:=0
def tw4864756834409250718:=0
def tw5475442020205792895:=0
def tw6972312675485940932:=0
def tw10949414748158034556:=0
def tw8347078422969404450:=0
def tw5676939306487544416:=0
def tw14970827910844801979:=0
def tw17341731730580034614:=0
def tw10851055938149857327:=0
def tw1362795027208640649:=0
def tw13083179179629481958:=0
def tw1354773592845440485:=0
def tw2424907884941309407:=0
def tw10159199396939697671:=0
def tw1629474366382907562:=0
def tw2726755469864155513:=0
def tw15744883537736421144:=0
def tw13631658436506700354:=0
def tw3498641184982781427:=0
def tw15113209684985450602:=0
def tw18327307500580134737:=0
def tw9772674917863856478:=0
def tw18377296472471909242:=0
def tw17852960955531904930:=0
def tw11639316975118193280:=0
def tw15768173959621001096:=0
def tw11700809161723487647:=0
def tw18339886066630712385:=0
def tw17485231819668750993:=0
def tw3894985999702963471:=0
def tw4997625123729510573:=0
def tw2223349144227728866:=0
def tw10001394699399362501:=0
def tw4959318638396314714:=0
def tw14342544163779756468:=0
def tw8524936227111321927:=0
def tw6809547714688080049:=0
def tw4208933547266272029:=0
def tw17427234304148079067:=0
def tw4930089965464448069:=0
def tw16636890787566386678:=0
def tw2757968073525575803:=0
def tw8588157149407044145:=0
def tw10822224847373547694:=0
def tw2650822555473835615:=0
def tw14790191872815819682:=0
def tw9239584946012861188:=0
def tw13302268968015218392:=0
def tw7914144428120385656:=0
def tw15990119517918168785:=0
def tw14404424803353195067:=0
def tw9917187193240923576:=0
def tw10186677990221938370:=0
def tw5722794173099349108:=0
def tw17713265029451425817:=0
def tw14461932197467690847:=0
def tw14583240814736707660:=0
def tw16129998940054191378:=0
def tw1085531783281483323:=0
def tw9909709044393250138:=0
def tw13040163993576631785:=0
def tw5910855006588805464:=0
def tw3816610400381182385:=0
def tw2789770280201028893:=0
def tw16085000205839545131:=0
def tw13179250820021858421:=0
def tw10493519735518287321:=0
def tw4873463470183805207:=0
def tw11735448214403856539:=0
def tw14082829938843387522:=0
def tw6359693455482743084:=0
def tw9891222030454814125:=0
def tw6416989072500463751:=0
def tw8790238912892589089:=0
def tw8391771332092124606:=0
def tw11451149727560934446:=0
def tw2550084847537869778:=0
def tw11945473996255344112:=0
def tw3318197021043409362:=0
def tw13142904773280731835:=0
def tw14773563623903207332:=0
def tw18159879050737961768:=0
def tw12752905611379557593:=0
def tw17641802762701415747:=0
def tw14596990496466331495:=0
def tw16720180726780570851:=0
def tw9882997886171190140:=0
def tw6933621045015717610:=0
def tw11603710807486114353:=0
def tw12057425932596256996:=0
def tw8883268881597771558:=0
def tw14708250658934816081:=0
def tw1109039382869689519:=0
def tw11091694024894188627:=0
def tw8669374919875802886:=0
def tw16132476353423678709:=0
def tw14093853471173081699:=0
def tw3635155258989554740:=0
def tw10595626456906714330:=0
def tw14923672928066972372:=0
def tw15791133457167467803:=0
def tw13629777598055002113:=0
def tw14946308872839067919:=0
def tw10636672478933238778:=0
def tw14653555511447491536:=0
def tw10457379999599820854:=0
def tw8144450484251012988:=0
def tw6772919274175436117:=0
def tw14143592948683654464:=0
def tw11729695023167170538:=0
def tw11646651522689040723:=0
def tw12541981950309998040:=0
def tw14400331986543995176:=0
def tw6447270935142741637:=0
def tw16099651663746792960:=0
def tw7602727788323880521:=0
def tw15636521223557861987:=0
def tw14444300241620633796:=0
def tw9587185410191444793:=0
def tw1648485657105248166:=0
def tw12588634714679297062:=0
def tw17113818868418582774:=0
def tw8681869796890763435:=0
def tw15308197697395299673:=0
def tw972723518569278657:=0
def tw8268157562878461684:=0
def tw10354853099497208017:=0
def tw6917095133202751265:=0
def tw6662667628310403935:=0
def tw17886144530766401684:=0
def tw5474410591878975346:=0
def tw17903981321503564187:=0
def tw5851626112349001327:=0
def tw3911912541070106644:=0
def tw15981246139399049164:=0
def tw2476855800869980746:=0
def tw5456631740920175204:=0
def tw2319642560115153316:=0
def tw2616332018111127620:=0
def tw1708319795325173451:=0
def tw12045792453740490149:=0
def tw3875004816660842928:=0
def tw7524917639812656285:=0
def tw10563281500103397023:=0
def tw5563065918750455952:=0
def tw16802120049363811276:=0
def tw57986578846298580:=0
def tw10635604867479741317:=0
def tw14100000099513598954:=0
def tw7819693060741705302:=0
def tw9937167592048089548:=0
def tw18253609433736499782:=0
def tw16607715510122245540:=0
def tw9968436739597045849:=0
def tw18345042644682710085:=0
def tw13695421901610827301:=0
def tw7223829482692462960:=0
def tw1572487346221092898:=0
def tw4718168012373010885:=0
def tw11251886093102028589:=0
def tw10503384072558410760:=0
def tw17288879661184134777:=0
def tw18169309971128137795:=0
def tw6149807321300717274:=0
def tw2681490179567011010:=0
def tw11813728926728104355:=0
def tw995331661694825232:=0
def tw17689431966564399269:=0
def tw1931434369191050828:=0
def tw2564431866264639536:=0
def tw9127355560919414252:=0
def tw14361740664114864220:=0
def tw13478200503848165281:=0
def tw1058206264974311983:=0
def tw1040484519180232542:=0
def tw924652484785604962:=0
def tw519256532599751935:=0
def tw13436304572879237527:=0
end PySem.W.Fast
abbrev yZ:=@List.length_map
abbrev yY:=@PySem.wpAny_bind
abbrev yW:=@PySem.Heap.get?_push_of_some
abbrev yV:=@List.size_toArray
abbrev yU:=@List.mem_cons_self
abbrev yT:=@Nat.le_refl
abbrev yS:=@List.mem_cons_of_mem
abbrev yR:=@Bool.false_ne_true
abbrev yQ:=@PySem.Heap.lt_size
abbrev yP:=@decide_eq_false
abbrev yO:=@List.append_nil
abbrev yN:=@PySem.wpAny_pure
abbrev yM:=@List.mem_singleton
abbrev yL:=@List.length_append
abbrev yK:=@List.getElem?_map
abbrev yJ:=@List.not_mem_nil
abbrev yI:=@List.map_cons
abbrev yH:=@List.length_cons
abbrev yG:=@Option.bind_some
abbrev yF:=@Nat.ne_of_lt
abbrev yE:=@List.map_append
abbrev yD:=@List.mem_cons
abbrev yC:=@PySem.Heap.get?_push_size
abbrev yB:=@List.getElem?_set
abbrev yA:=@Nat.lt_of_lt_of_le
abbrev yz:=@List.getElem?_eq_getElem
abbrev yy:=@List.mem_append
abbrev yx:=@Option.map_eq_some_iff
abbrev yw:=@List.mem_map
abbrev yv:=@Int.emod_lt_of_pos
abbrev yu:=@decide_eq_true
abbrev yt:=@List.mem_append_right
abbrev yr:=@Int.emod_nonneg
abbrev yq:=@List.map_map
abbrev yp:=@List.getElem_mem
abbrev yo:=@List.getElem?_set_ne
abbrev yn:=@Bool.and_eq_true
abbrev ym:=@List.nodup_cons
abbrev yk:=@List.getElem?_eq_some_iff
abbrev yj:=@List.drop_eq_getElem_cons
abbrev yi:=@List.length_set
abbrev yh:=@List.getElem_toArray
abbrev yg:=@List.lookup_cons
abbrev yf:=@of_decide_eq_true
abbrev ye:=@Nat.le_trans
abbrev yd:=@Nat.zero_le
abbrev yc:=@List.mem_append_left
abbrev yb:=@Nat.le_of_lt
abbrev ya:=@List.mem_filterMap
abbrev uZ:=@List.getElem?_append_left
abbrev uY:=@List.mem_map_of_mem
abbrev uX:=@List.append_assoc
abbrev uW:=@Int.eq_ofNat_of_zero_le
abbrev uV:=@List.all_eq_true
abbrev uU:=@PySem.Heap.get?_update_other
abbrev uT:=@List.drop_length
abbrev uS:=@Nat.lt_irrefl
abbrev uR:=@PySem.Heap.get?_none_of_le
abbrev uQ:=@List.getElem?_append_right
abbrev uP:=@Array.getElem?_eq_some_iff
abbrev uO:=@Bool.false_eq_true
abbrev uN:=@List.cons_lt_cons_iff
abbrev uM:=@Nat.le_succ
abbrev uL:=@List.find?_cons
abbrev uK:=@Option.map_some
abbrev uJ:=@List.getElem?_replicate
abbrev uI:=@List.length_eq_zero_iff
abbrev uH:=@List.getElem_of_mem
abbrev uG:=@PySem.Heap.size_push
abbrev uF:=@List.length_replicate
abbrev uE:=@List.getD_eq_getElem?_getD
abbrev uD:=@List.nodup_append
abbrev uC:=@List.mem_of_getElem?
abbrev uB:=@List.mem_range
abbrev uA:=@Nat.lt_of_le_of_lt
abbrev uz:=@List.getElem?_set_self
abbrev uy:=@Int.le_refl
abbrev ux:=@PySem.Heap.get?_update_self
abbrev uw:=@Array.getElem?_toList
abbrev ut:=@Nat.lt_succ_self
namespace Nk
open PySem
variable{a b:Addr}{h:Heap}{Q:Bool->Shared->Prop}
variable {P:Program}{w:World}{K L:Type}[DecidableEq K][DecidableEq L](B:HeapKind P w K)(kd:KeyKind P w L)
def IsP (h:Heap)(x:K×List L)(a:Addr):Prop:=∃ o c vs n,h.get? a=some o/\o.cls = .type "tuple"/\o.data = .seq (Value.ref c::vs).toArray n/\B.is h x.1 c/\ItemsAre kd x.2 vs
variable {B kd}
theorem IsP.ty {s:Shared}{x:K×List L}(p:IsP B kd s.heap x a):s.TypeIs (.ref a) "tuple":=by obtain ⟨o,_,_,_,e,f,_⟩:=p;exact ⟨o,e,f⟩
theorem IsP.inj {x y:K×List L}(p:IsP B kd h x a)(q:IsP B kd h y a):x=y:=by obtain ⟨o,c,vs,n,e1,_,e2,b1,i1⟩:=p;obtain ⟨o',c',vs',n',f1,_,f2,b2,i2⟩:=q;rw [e1] at f1;cases f1;rw [e2] at f2;injection f2 with g _;have g:Value.ref c::vs=Value.ref c'::vs':=congrArg Array.toList g;injection g with g1 g2;injection g1 with g1;subst g1 g2;exact Prod.ext (B.inj b1 b2) (i1.inj i2)
theorem IsP.keeps {h':Heap}{x:K×List L}{d:Addr}{o:Obj}{es ep}(p:IsP B kd h x a)(e:h.get? d=some o)(f:o.data = .dict es ep)(k:Heap.SameBut d h h'):IsP B kd h' x a:=by
 obtain ⟨o',c,vs,n,e1,e2,e3,b,i⟩:=p;have ne:a≠d:=λz=>by subst z;rw [e] at e1;cases e1;rw [f] at e3;cases e3
 exact ⟨o',c,vs,n,(k.2 a ne).trans e1,e2,e3,B.keeps b e f k,i⟩
def Kk (B:HeapKind P w K)(kd:KeyKind P w L)(x:K×List L):Int:=reduceHash (Builtin.Tuple.tupleHashOf (B.hash x.1::x.2.map kd.hash))
variable {A:Around}{E:Value->Shared->Prop}{s:Shared}
theorem MD {x:K×List L}{Q:Int->Shared->Prop}(hu:A.units<cLine)(hB:∀ A':Around,A'.units<=A.units+1->B.room A')(p:IsP B kd s.heap x a)(h:Q (Kk B kd x) { s with toks:=s.toks+(B.draws x.1+x.2.length+1) }):wpAny (model P w) A (pyHash (.ref a)) Q E s:=by
 have T:=p.ty;obtain ⟨o,c,vs,n,e1,e2,e3,b,i⟩:=p;obtain ⟨k,ls⟩:=x;unfold pyHash
 first|unfold pyHashByItsType|skip
 first|refine yY (wpAny_cRoomFor_or (.inr hu) ?_)|skip
 refine yY (wpAny_specialOf T F.slot_tuple_hash.lookup ?_);rw [if_neg (by rw [beq_builtin_none];exact yR)];refine yY (wpAny_specialOf T F.slot_tuple_hash.lookup ?_);refine yY (wpAny_callSpecialIfBoundUnlessNone?_slot T F.slot_tuple_hash (wpAny_call_entry F.slot_tuple_hash T F.entry_tuple_hash ?_ (F.args_tuple_hash_1 _)))
 change wpAny _ _ (Bind.bind (Builtin.Tuple.tupleItemsOf (Value.ref a)) _) _ _ _
 refine yY (wpAny_tupleItemsOf e1 e3 (yY ?_));rw [<- Array.forIn_toList];refine wpAny_forIn_list _ (λr (z:Array Int) t=>(r=Value.ref c::vs/\z=#[]/\t=s)∨∃ d l,ls=d++l/\ItemsAre kd l r/\z.toList=B.hash k::d.map kd.hash/\t={ s with toks:=s.toks+(B.draws k+d.length) }) _ ?_ ?_ _ _ (.inl ⟨rfl,rfl,rfl⟩)
 ·rintro v r z t (⟨q1,rfl,rfl⟩|⟨d,l,rfl,q1,q2,rfl⟩)
  ·injection q1 with q1 q2;subst q1 q2;refine yY (B.pyHash (hB _ (yT _)) b ?_)
   first
    |exact yN (.inr ⟨[],ls,rfl,i,rfl,rfl⟩)
    |exact yY (yN (yN (.inr ⟨[],ls,rfl,i,rfl,rfl⟩)))
  ·cases q1 with
   |@cons k' _ l' _ g g' =>
    have en:({ s with toks:=s.toks+(B.draws k+d.length)+1 }:Shared)={ s with toks:=s.toks+(B.draws k+(d++[k']).length) }:=by rw [yL];rfl
    refine yY (kd.pyHash g ?_)
    first
     |exact yN (.inr ⟨d++[k'],l',by rw [uX];rfl,g',by simp [q2],en⟩)
     |exact yY (yN (yN (.inr ⟨d++[k'],l',by rw [uX];rfl,g',by simp [q2],en⟩)))
 ·rintro z t (⟨q1,_⟩|⟨d,l,rfl,q1,q2,rfl⟩)
  ·cases q1
  ·cases q1;rw [yO] at h;have hd:Builtin.Tuple.tupleHashOf z.toList=Builtin.Tuple.tupleHashOf (B.hash k::d.map kd.hash):=by rw [q2]
   have h':Q (reduceHash (Builtin.Tuple.tupleHashOf z.toList)) { s with toks:=s.toks+(B.draws k+d.length)+1 }:=by rw [hd];exact h
   clear h hd;refine wpAny_ret_mkInt ?_;generalize Builtin.Tuple.tupleHashOf z.toList=N at h' ⊢
   change wpAny _ _ (ite (and (decide (-(2:Int) ^ 63<=N)) (decide (N<2 ^ 63))=true) _ _) _ _ _
   unfold reduceHash at h';split
   next z1=>rw [if_pos z1] at h';exact yN h'
   next z1=>rw [if_neg z1] at h';exact yY (wpAny_rule (yN h'))
theorem DU {x y:K×List L}{Z:Fin->Shared->Prop}(hB:B.room A)(p:IsP B kd s.heap x a)(q:IsP B kd s.heap y b)(h:Z (.done (.ret (.bool (decide (x=y))))) s):wpAny (model P w) A (Builtin.«tuple.__eq__» ⟨[.ref a,.ref b],[]⟩) Z E s:=by
 have T:=q.ty;obtain ⟨o,c,vs,n,e1,e2,e3,b1,i1⟩:=p;obtain ⟨o',c',us,n',f1,f2,f3,b2,i2⟩:=q;obtain ⟨k,ls⟩:=x;obtain ⟨k',ls'⟩:=y
 change wpAny _ _ (Bind.bind (isInstance (Value.ref b) (Value.type "tuple")) _) _ _ _
 refine yY (wpAny_isInstance T isSubtype_tuple_tuple ?_);simp only [Bool.not_true,uO,if_false];refine yY (wpAny_tupleItemsOf e1 e3 (yY (wpAny_tupleItemsOf f1 f3 (yY ?_))));refine wpAny_forIn_list _ (λr (z:Option Fin×Unit) t=>z.1=none/\t=s/\(r=(Value.ref c,Value.ref c')::vs.zip us∨(k=k'/\∃ x' y' xs ys,r=List.zip xs ys/\ItemsAre kd x' xs/\ItemsAre kd y' ys/\(x'=y'↔ls=ls')/\(xs.length=ys.length↔vs.length=us.length)))) _ ?_ ?_ _ _ ⟨rfl,rfl,.inl rfl⟩
 ·rintro ⟨u,v⟩ r z t ⟨hz,rfl,g⟩;rcases g with g|⟨kk,x',y',xs,ys,g,g1,g2,g3,g4⟩
  ·injection g with g g';injection g with g1 g2;subst g1 g2 g';refine yY (B.eqBool hB b1 b2 ?_);by_cases kk:k=k'
   ·rw [yu kk];exact yN ⟨rfl,rfl,.inr ⟨kk,ls,ls',vs,us,rfl,i1,i2,Iff.rfl,Iff.rfl⟩⟩
   ·rw [yP kk];have:decide ((k,ls)=(k',ls'))=false:=yP λz=>kk (Prod.mk.inj z).1;rw [this] at h;exact yY (yN (yN (yN h)))
  ·cases g1 with
   |nil=>cases g
   |@cons m1 v1 l1 r1 c1 d1 =>
    cases g2 with
    |nil=>cases g
    |@cons m2 v2 l2 r2 c2 d2 =>
     injection g with g g';injection g with g1 g2;subst g1 g2 g';refine yY (kd.eqBool c1 c2 ?_);by_cases mm:m1=m2
     ·rw [yu mm];refine yN ⟨rfl,rfl,.inr ⟨kk,l1,l2,r1,r2,rfl,d1,d2,?_,?_⟩⟩
      ·rw [<- g3,mm];exact ⟨λz=>by rw [z],λz=>(List.cons.inj z).2⟩
      ·rw [<- g4,yH,yH];omega
     ·rw [yP mm];have:decide ((k,ls)=(k',ls'))=false:=yP λz=>mm (List.cons.inj (g3.mpr (Prod.mk.inj z).2)).1;rw [this] at h;exact yY (yN (yN (yN h)))
 ·rintro ⟨z,z'⟩ t ⟨hz,rfl,g⟩;obtain rfl:z=none:=hz;rcases g with g|⟨kk,x',y',xs,ys,g,g1,g2,g3,g4⟩
  ·cases g
  ·refine yN ?_;have key:((Value.ref c::vs).toArray.size==(Value.ref c'::us).toArray.size)=decide ((k,ls)=(k',ls')):=by
    have e1:vs.length=us.length↔ls=ls':=by rw [<- g3,<- g4];cases g1<;>cases g2<;>first|(simp;done)|cases g
    rw [yV,yV,yH,yH];by_cases q:ls=ls'
    ·rw [e1.mpr q,kk,q];simp
    ·have n1:¬ vs.length=us.length:=λz=>q (e1.mp z);rw [yP λz=>q (Prod.mk.inj z).2];exact beq_false_of_ne (by omega)
   change Z (.done (.ret (.bool ((Value.ref c::vs).toArray.size==(Value.ref c'::us).toArray.size)))) _
   rw [key];exact h
theorem DT {x y:K×List L}(hu:A.units<cLine)(hB:∀ A':Around,A'.units<=A.units+1->B.room A')(p:IsP B kd s.heap x a)(q:IsP B kd s.heap y b)(h:Q (decide (x=y)) s):wpAny (model P w) A (eqBool (.ref a) (.ref b)) Q E s:=by
 unfold eqBool
 try with_reducible refine wpAny_holding ?_
 change wpAny _ _ (ite ((Value.ref a==Value.ref b)=true) _ _) _ _ _
 split
 next z =>
  have z':a=b:=by have:=eq_of_beq z;injection this
  subst z';rw [yu (p.inj q)] at h;exact yY (wpAny_rule (yN h))
 next z =>
  refine yY (wpAny_richCompare_same_room (op:= .Eq) p.ty q.ty F.slot_tuple_eq (wpAny_call_entry F.slot_tuple_eq p.ty F.entry_tuple_eq (DU (hB _ ?_) p q ⟨_,rfl,(λe=>nomatch e),wpAny_truthy_bool h⟩) (F.args_tuple_eq_2 _ _)) hu);exact yT _
theorem RP {ks:List L}{n:Nat}(p:IsTupleKey kd s.heap ks a)(h:Q true s):wpAny (model P w) A (eqIsQuiet (n+1) (.ref a)) Q E s:=by
 have T:=p.typeIs;obtain ⟨o,its,m,e1,e2,e3,i⟩:=p;unfold eqIsQuiet;refine yY (wpAny_specialOf T F.slot_tuple_eq.lookup ?_)
 change wpAny _ _ (Bind.bind (isInstance (Value.ref a) (Value.type "tuple")) _) _ _ _
 refine yY (wpAny_isInstance T isSubtype_tuple_tuple ?_);simp only [Bool.not_true,uO,if_false];refine yY (wpAny_seqItems e1 e3 (yY ?_))
 change wpAny _ _ (forIn its _ _) _ _ _
 rw [<- Array.forIn_toList];refine wpAny_forIn_list _ (λr (z:Option Bool×Unit) t=>z.1=none/\t=s/\∀ v∈r,carriedByValue v=true) _ ?_ ?_ _ _ ⟨rfl,rfl,i.byValue⟩
 ·rintro v r z t ⟨hz,rfl,g⟩;rw [eqIsQuiet_byValue _ (g v yU)];exact yY (yN (yN ⟨rfl,rfl,λu hu=>g u (yS _ hu)⟩))
 ·rintro ⟨z,z'⟩ t ⟨hz,rfl,_⟩;obtain rfl:z=none:=hz;exact yN h
theorem RQ (hq:∀{A:Around}{E:Value->Shared->Prop}{s:Shared}{k:K}{c:Addr}{Q:Bool->Shared->Prop},B.is s.heap k c->Q true s->wpAny (model P w) A (eqIsQuiet 7 (.ref c)) Q E s){x:K×List L}(p:IsP B kd s.heap x a)(h:Q true s):wpAny (model P w) A (eqIsQuiet 8 (.ref a)) Q E s:=by
 have T:=p.ty;obtain ⟨o,c,vs,n,e1,e2,e3,b,i⟩:=p;unfold eqIsQuiet;refine yY (wpAny_specialOf T F.slot_tuple_eq.lookup ?_)
 change wpAny _ _ (Bind.bind (isInstance (Value.ref a) (Value.type "tuple")) _) _ _ _
 refine yY (wpAny_isInstance T isSubtype_tuple_tuple ?_);simp only [Bool.not_true,uO,if_false];refine yY (wpAny_seqItems e1 e3 (yY ?_))
 change wpAny _ _ (forIn (Value.ref c::vs).toArray _ _) _ _ _
 rw [<- Array.forIn_toList];refine wpAny_forIn_list _ (λr (z:Option Bool×Unit) t=>z.1=none/\t=s/\∀ v∈r,v=Value.ref c∨carriedByValue v=true) _ ?_ ?_ _ _ ⟨rfl,rfl,λv hv=>(yD.mp hv).imp id (i.byValue v)⟩
 ·rintro v r z t ⟨hz,rfl,g⟩;rcases g v yU with rfl|gv
  ·exact yY (hq b (yN ⟨rfl,rfl,λu hu=>g u (yS _ hu)⟩))
  ·rw [eqIsQuiet_byValue _ gv];exact yY (yN (yN ⟨rfl,rfl,λu hu=>g u (yS _ hu)⟩))
 ·rintro ⟨z,z'⟩ t ⟨hz,rfl,_⟩;obtain rfl:z=none:=hz;exact yN h
def Ng (kd:KeyKind P w L):HeapKind P w (List L×List L) where
 is:=IsP (tupleKind kd) kd
 hash:=Kk (tupleKind kd) kd
 draws:=λx=>(tupleKind kd).draws x.1+x.2.length+1
 room:=λA=>A.units+1<cLine
 inj:=λp q=>p.inj q
 keeps:=λp e f k=>p.keeps e f k
 pyHash:=λhu p h=>MD (Nat.lt_of_succ_lt hu) (λ_ l=>uA l hu) p h
 eqBool:=λhu p q h=>DT (Nat.lt_of_succ_lt hu) (λ_ l=>uA l hu) p q h
 quiet:=λp h=>RQ (λb g=>RP (n:=6) b g) p h
def Me (kd:KeyKind P w L):HeapKind P w (List L×List L) where
 is:=λh x a=>x.1=[]/\(tupleKind kd).is h x.2 a
 hash:=λx=>(tupleKind kd).hash x.2
 draws:=λx=>(tupleKind kd).draws x.2
 room:=λA=>A.units+1<cLine
 inj:=λp q=>Prod.ext (p.1.trans q.1.symm) ((tupleKind kd).inj p.2 q.2)
 keeps:=λp e f k=>⟨p.1,(tupleKind kd).keeps p.2 e f k⟩
 pyHash:=λhu p h=>(tupleKind kd).pyHash (Nat.lt_of_succ_lt hu) p.2 h
 eqBool:=λ{_ _ _ x y _ _ _} hu p q h=>(tupleKind kd).eqBool (Nat.lt_of_succ_lt hu) p.2 q.2 (by
  have e:decide (x.2=y.2)=decide (x=y):=decide_eq_decide.mpr ⟨λz=>Prod.ext (p.1.trans q.1.symm) z,λz=>by rw [z]⟩;rw [e];exact h)
 quiet:=λp h=>(tupleKind kd).quiet p.2 h
def anyKind (fl:Bool)(kd:KeyKind P w L):HeapKind P w (List L×List L):=match fl with
 |true=>Me kd
 |false=>Ng kd
theorem any_room {fl:Bool}{kd:KeyKind P w L}{A:Around}(hu:A.units+2<cLine):(anyKind fl kd).room A.in1:=by cases fl<;>exact hu
end Nk
namespace L2
abbrev Fg:=PySem.W.Frag
end L2
namespace L2
open PySem PySem.Spec PyProof.Rows
variable{us:List Value}{C a b dx it:Addr}{u:Value}{P:Program}{w:World}{base h:Heap}{g':Array GenState}{j n t':Nat}{d':Drawn}{ch fp:List Addr}{m qual x:Str}{c e tg:Expr}{N ps:List Str}{A:Around}{E Q:Value->Shared->Prop}{s s':Shared}{α:Type}{pins:List (Addr×Obj)}{pos:Pos}{op op':CmpOp}{K:Fg}{f:Value->Value->Sem Value}{es:List Expr}{lo:Int}{pl:Sem Bool}{body:List Stmt}{mA mg:Str->Option Value}{kw:List (Str×Value)}{fd:FuncData}{outer:List Env}{scope:Scope}
abbrev v3:=Sum Int Str
def wj:v3->Value->Bool
 | .inl k,v=>Value.isInt k v
 | .inr x,v=>Value.isStrOf x v
def keyH (w:World):v3->Int
 | .inl k=>hashInt k
 | .inr x=>hashStr w x
theorem jZ:∀{k:v3}{v:Value},wj k v=true->(∃ i t,k=Sum.inl i/\v=Value.int i t)∨(∃ x t,k=Sum.inr x/\v=Value.str x t)
 | .inl i,v,h=>by
  obtain ⟨t,e⟩:=Value.isInt_shape (k:=i) (v:=v) h;exact .inl ⟨i,t,rfl,e⟩
 | .inr x,v,h=>by
  obtain ⟨t,e⟩:=Value.isStrOf_shape (x:=x) (v:=v) h;exact .inr ⟨x,t,rfl,e⟩
theorem Ls (i:Int)(t:Tok):wj (.inl i) (.int i t)=true:=by simp [wj,Value.isInt]
theorem Kx (x:Str)(t:Tok):wj (.inr x) (.str x t)=true:=by simp [wj,Value.isStrOf]
theorem Lu (a b:Int):decide ((Sum.inl a:v3)=Sum.inl b)=(a==b):=by
 by_cases e:a=b
 ·subst e;simp
 ·have h:¬ (Sum.inl a:v3)=Sum.inl b:=λq=>e (Sum.inl.inj q);rw [yP h];exact (beq_eq_false_iff_ne.mpr e).symm
theorem Ly (a b:Str):decide ((Sum.inr a:v3)=Sum.inr b)=decide (a=b):=by
 by_cases e:a=b
 ·subst e;simp
 ·have h:¬ (Sum.inr a:v3)=Sum.inr b:=λq=>e (Sum.inr.inj q);rw [yP h,yP e]
theorem Lv (a:Int)(b:Str):decide ((Sum.inl a:v3)=Sum.inr b)=false:=yP (λq=>nomatch q)
theorem Lx (a:Str)(b:Int):decide ((Sum.inr a:v3)=Sum.inl b)=false:=yP (λq=>nomatch q)
def qc (prog:Program)(w:World):PySem.KeyKind prog w v3 where
 is:=wj
 hash:=keyH w
 inj:=λv a b ha hb=>by
  rcases jZ ha with ⟨i,t,rfl,rfl⟩|⟨x,t,rfl,rfl⟩
  ·rcases jZ hb with ⟨j,u,rfl,e⟩|⟨y,u,rfl,e⟩
   ·injection e with e1 _;rw [e1]
   ·exact nomatch e
  ·rcases jZ hb with ⟨j,u,rfl,e⟩|⟨y,u,rfl,e⟩
   ·exact nomatch e
   ·injection e with e1 _;rw [e1]
 byValue:=λk v h=>by
  rcases jZ h with ⟨i,t,rfl,rfl⟩|⟨x,t,rfl,rfl⟩<;>rfl
 pyHash:=λhv h=>by
  rcases jZ hv with ⟨i,t,rfl,rfl⟩|⟨x,t,rfl,rfl⟩
  ·exact wpAny_pyHash_int h
  ·exact wpAny_pyHash_str h
 eqBool:=λhu hv h=>by
  rcases jZ hu with ⟨i,t,rfl,rfl⟩|⟨x,t,rfl,rfl⟩
  ·rcases jZ hv with ⟨j,u,rfl,rfl⟩|⟨y,u,rfl,rfl⟩
   ·rw [Lu] at h;exact wpAny_eqBool_int h
   ·rw [Lv] at h;exact SeqAt.EqAt.int_str i t y u _ _ _ _ h
  ·rcases jZ hv with ⟨j,u,rfl,rfl⟩|⟨y,u,rfl,rfl⟩
   ·rw [Lx] at h;exact SeqAt.EqAt.str_int x t j u _ _ _ _ h
   ·rw [Ly] at h;exact wpAny_eqBool_str h
 «strs»:=λk x t v h=>by
  rcases jZ h with ⟨i,u,rfl,e⟩|⟨y,u,rfl,e⟩
  ·exact nomatch e
  ·injection e with e1 _;subst e1;cases v<;>rfl
theorem LW (prog:Program)(w:World)(i:Int)(t:Tok):(qc prog w).is (.inl i) (.int i t)=true:=Ls i t
theorem VT (prog:Program)(w:World)(x:Str)(t:Tok):(qc prog w).is (.inr x) (.str x t)=true:=Kx x t
inductive V where
 |non|bl (b:Bool)|int (i:Int)|str (x:Str)|byt (b:Array UInt8)|flt (b:UInt64)|ref (a:Addr)|ty (n:String)
 deriving DecidableEq
variable{vs xs:List V}{v y:V}
def RelV:V->Value->Prop
 | .non,u=>u=Value.none
 | .bl b,u=>u=Value.bool b
 | .int i,u=>∃ t,u=Value.int i t
 | .str x,u=>∃ t,u=Value.str x t
 | .byt b,u=>∃ t,u=Value.bytes b t
 | .flt b,u=>∃ t,u=Value.float b t
 | .ref a,u=>u=Value.ref a
 | .ty n,u=>u=Value.type n
abbrev Vals:List V->List Value->Prop:=Paired RelV
theorem Vals.length (r:Vals xs us):xs.length=us.length:=Paired.length r
theorem Vals.get:∀{xs:List V}{us:List Value}{i:Nat}{x:V},Vals xs us->xs[i]?=some x->∃ u,us[i]?=some u/\RelV x u
 |_,_,_,_,.nil,e=>by simp at e
 |_,_,0,_,.cons r _,e=>by simp at e;subst e;exact ⟨_,rfl,r⟩
 |_,_,i+1,x,.cons _ t,e=>by
  obtain ⟨u,h1,h2⟩:=Vals.get (i:=i) (x:=x) t (by simpa using e);exact ⟨u,by simpa using h1,h2⟩
theorem Vals.set {x:V}{u:Value}(r:RelV x u):∀{xs:List V}{us:List Value}(i:Nat),Vals xs us->Vals (xs.set i x) (us.set i u)
 |_,_,_,.nil=> .nil
 |_,_,0,.cons _ t=> .cons r t
 |_,_,i+1,.cons q t=> .cons q (Vals.set r i t)
theorem Vals.append:∀{xs ys:List V}{us ws:List Value},Vals xs us->Vals ys ws->Vals (xs++ys) (us++ws)
 |_,_,_,_,.nil,s=>s
 |_,_,_,_,.cons r t,s=> .cons r (Vals.append t s)
def RelO:Option V->Option Value->Prop
 |some v,some u=>RelV v u
 |none,none=>True
 |_,_=>False
def KV {κ:Type}:List (κ×V)->List (κ×Value)->Prop:=Paired λ(p:κ×V) (q:κ×Value)=>p.1=q.1/\RelV p.2 q.2
def kV:v3->V
 | .inl i=> .int i
 | .inr x=> .str x
def TABS:List (Addr×Array Value×List (Pos×Str)):=[]
abbrev b7:=List v3×List v3
inductive HO where
 /-- a list -/
 |lst (xs:List V)
 /-- a tuple (never changes) -/
 |tup (xs:List V)
 /-- a dict whose keys are ints and texts;one whose keys are tuples of ints and texts (the empty one is qy) -/
 |dK (kvs:List (v3×V))|dT (fl:Bool) (as:List Addr) (kvs:List (b7×V))
 /-- a set of ints: its members,its size -/
 |set (S:Int->Bool) (n:Nat)
 /-- an instance of the class at C,its dict at dx,its attributes -/
 |ins (C dx:Addr) (fs:List (Str×V))
 /-- the dict of the instance at x -/
 |own (x:Addr)
 /-- the dict of an exception -/
 |xd (fs:List (Str×V))
 /-- a bound method,f of x -/
 |met (f x:Addr)
 /-- a range object lo,lo+1,.. below hi -/
 |rng (lo hi:Int)
 /-- a thing that is known to the object (the script;a dict while a loop walks it): read,never written while it is so -/
 |frz (o:Obj) (u:HO)
 /-- a code object's table -/
 |tbl (ps:Array Value) (q:List (Pos×Str))
 /-- any other thing,by what is true of its one object (a def of one's own: wa a S n:=HO.ext λh=> ..) -/
 |ext (φ:Heap->Prop)
variable{o:HO}
abbrev Hp:=Addr->Option HO
variable{H H':Hp}{R:V->V->Hp->Prop}
def z7 (H:Hp)(a:Addr)(o:HO):Hp:=λb=>if b=a then some o else H b
theorem j9 :z7 H a o a=some o:=by unfold z7;rw [if_pos rfl]
theorem z6 (h:b≠a):z7 H a o b=H b:=by unfold z7;rw [if_neg h]
theorem ne_of {u:HO}(h:H a=some o)(h':H b=some u)(d:o≠u):a≠b:=by intro e;subst e;rw [h] at h';exact d (Option.some.inj h')
theorem y0 (h:H a=some o)(h':H b=none):a≠b:=by intro e;subst e;rw [h] at h';cases h'
def KeyH (fl:Bool)(H:Hp)(b:Addr)(k:b7):Prop:=(fl=true/\k.1=[]/\H b=some (.tup (k.2.map kV)))∨(fl=false/\∃ c,H b=some (.tup (.ref c::k.2.map kV))/\H c=some (.tup (k.1.map kV)))
theorem KeyH.keeps {fl:Bool}{k:b7}(x:KeyH fl H b k)(ht:∀ b xs,H b=some (.tup xs)->H' b=some (.tup xs)):KeyH fl H' b k:=by
 rcases x with ⟨f,n,p⟩|⟨f,c,p,q⟩
 ·exact .inl ⟨f,n,ht _ _ p⟩
 ·exact .inr ⟨f,c,ht _ _ p,ht _ _ q⟩
section
variable (P:Program)(w:World)
def ObjOk (H:Hp)(h:Heap)(a:Addr):HO->Prop
 | .lst xs=>xs.length<=sizeLine/\∃ (its:List Value) (n:Nat),Vals xs its/\h.get? a=some { cls:= .type "list",data:= .seq its.toArray n }
 | .tup xs=>xs.length<=sizeLine/\∃ its:List Value,Vals xs its/\IsTup h a its.toArray
 | .dK kvs=>kvs.length<=sizeLine/\(a==sysModules)=false/\∃ vs,KV kvs vs/\h.DictOf (qc P w) a vs
 | .dT fl as kvs=>kvs.length<=sizeLine/\(a==sysModules)=false/\∃ xs:List (b7×Addr×Value),
   Paired (λ(p:b7×V) (q:b7×Addr×Value)=>p.1=q.1/\KeyH fl H q.2.1 p.1/\RelV p.2 q.2.2) kvs xs /\
   ∃ o es ep,h.get? a=some o/\o.ExactDict/\o.data = .dict es ep/\es.toList=xs.map (entryOfKey (Nk.anyKind fl (qc P w)))/\(xs.map (·.1)).Nodup/\xs.map (·.2.1)=as
 | .set S n=>h.SetOf (intKind P w) a S n
 | .ins C dx fs=>H dx=some (.own a)/\fs.length<=1000/\dx≠a/\h.get? a=some (PySem.W.instObj C dx) /\
   ∃ mA,h.Ns1 dx mA/\(∀ f,RelO (fs.lookup f) (mA f))/\PySem.Within mA (fs.map (·.1))
 | .own _=>∃ o,h.get? a=some o
 | .xd fs=>∃ mA,h.Ns1 a mA/\∀ f,RelO (fs.lookup f) (mA f)
 | .rng lo hi=>∃ t u v,h.get? a=some { cls:= .type "range",data:= .fields #[.int lo t,.int hi u,.int 1 v] }
 | .frz o u=>h.get? a=some o/\ObjOk H h a u
 | .tbl ps q=>∃ more:Array Value,h.get? a=some { cls:= .none,data:= .fields (ps++more) }/\TriplesOk (ps++more).toList /\
   ∀ p∈q,codeAmong p.1 (ps++more).toList=none∨∃ c o vs t,codeAmong p.1 (ps++more).toList=some (.ref c)/\H c=some (.frz o (.own a))/\o.data = .fields vs/\vs[1]?=some (.str p.2 t)
 | .met f x=>h.get? a=some (PySem.W.methodObj (.ref f) (.ref x))
 | .ext φ=>φ h/\(∃ o,h.get? a=some o)/\∀ h1 h2:Heap,φ h1->(∀ o,h1.get? a=some o->h2.get? a=some o)->φ h2
def HOk (H:Hp)(h:Heap):Prop:=∀ a o,H a=some o->ObjOk P w H h a o
end
section
variable {P:Program}{w:World}{H H':Hp}{h h':Heap}{a:Addr}{o:HO}
theorem ObjOk.lt (x:ObjOk P w H h a o):a<h.objs.size:=by
 cases o with
 |lst xs=>obtain ⟨_,_,_,_,e⟩:=x;exact yQ e
 |tup xs=>obtain ⟨_,_,_,p⟩:=x;exact p.lt
 |dK kvs=>obtain ⟨_,_,_,_,o,_,_,e,_⟩:=x;exact yQ e
 |dT fl as kvs=>obtain ⟨_,_,_,_,o,_,_,e,_⟩:=x;exact yQ e
 |set S n=>obtain ⟨o,_,_,_,e,_⟩:=x;exact yQ e
 |ins C dx fs=>obtain ⟨_,_,_,e,_⟩:=x;exact yQ e
 |own y=>obtain ⟨_,e⟩:=x;exact yQ e
 |xd fs=>obtain ⟨_,⟨_,_,_,e,_⟩,_⟩:=x;exact yQ e
 |rng lo hi=>obtain ⟨_,_,_,e⟩:=x;exact yQ e
 |frz ob u=>obtain ⟨e,_⟩:=x;exact yQ e
 |tbl ps q=>obtain ⟨_,e,_⟩:=x;exact yQ e
 |met f y=>exact yQ (show h.get? a=some _ from x)
 |ext φ=>obtain ⟨_,⟨_,e⟩,_⟩:=x;exact yQ e
theorem Paired.mapP {α β:Type}{F G:α->β->Prop}:∀{l₁:List α}{l₂:List β},Paired F l₁ l₂->(∀ a b,F a b->G a b)->Paired G l₁ l₂
 |_,_,.nil,_=> .nil
 |_,_,.cons r t,f=> .cons (f _ _ r) (Paired.mapP t f)
theorem ObjOk.stay (x:ObjOk P w H h a o)(k:∀ b u,(b=a∨H b=some (.own a))->h.get? b=some u->h'.get? b=some u)(ho:∀ b,H b=some (.own a)->H' b=some (.own a))(ht:∀ b xs,H b=some (.tup xs)->H' b=some (.tup xs))(hz:∀ b o u,H b=some (.frz o u)->H' b=some (.frz o u)):ObjOk P w H' h' a o:=by
 induction o with
 |lst xs=>obtain ⟨z,its,n,r,e⟩:=x;exact ⟨z,its,n,r,k _ _ (.inl rfl) e⟩
 |tup xs=>obtain ⟨z,its,r,ob,e,c⟩:=x;exact ⟨z,its,r,ob,k _ _ (.inl rfl) e,c⟩
 |dK kvs=>obtain ⟨z,y,vs,r,ob,es,ep,e,c⟩:=x;exact ⟨z,y,vs,r,ob,es,ep,k _ _ (.inl rfl) e,c⟩
 |dT fl as kvs=>obtain ⟨z,y,xs,r,ob,es,ep,e,c⟩:=x;exact ⟨z,y,xs,Paired.mapP r λp q z=>⟨z.1,z.2.1.keeps ht,z.2.2⟩,ob,es,ep,k _ _ (.inl rfl) e,c⟩
 |set S n=>obtain ⟨ob,es,ep,t,e,c⟩:=x;exact ⟨ob,es,ep,t,k _ _ (.inl rfl) e,c⟩
 |ins C dx fs=>obtain ⟨d,z,ne,e,mA,⟨od,es,ep,e2,c⟩,r⟩:=x;exact ⟨ho _ d,z,ne,k _ _ (.inl rfl) e,mA,⟨od,es,ep,k _ _ (.inr d) e2,c⟩,r⟩
 |own y=>obtain ⟨ob,e⟩:=x;exact ⟨ob,k _ _ (.inl rfl) e⟩
 |xd fs=>obtain ⟨mA,⟨od,es,ep,e,c⟩,r⟩:=x;exact ⟨mA,⟨od,es,ep,k _ _ (.inl rfl) e,c⟩,r⟩
 |rng lo hi=>obtain ⟨t,u,v,e⟩:=x;exact ⟨t,u,v,k _ _ (.inl rfl) e⟩
 |frz ob u ih=>obtain ⟨e,q⟩:=x;exact ⟨k _ _ (.inl rfl) e,ih q⟩
 |tbl ps q =>
  obtain ⟨more,e,t,r⟩:=x;refine ⟨more,k a _ (.inl rfl) e,t,λp hp=>?_⟩;rcases r p hp with z|⟨c,o,vs,t,z,oc,e2⟩
  ·exact .inl z
  ·exact .inr ⟨c,o,vs,t,z,hz c o _ oc,e2⟩
 |met f y=>have e:h.get? a=some (PySem.W.methodObj (.ref f) (.ref y)):=x;show h'.get? a=some (PySem.W.methodObj (.ref f) (.ref y));exact k a _ (.inl rfl) e
 |ext φ=>obtain ⟨p,⟨o,e⟩,st⟩:=x;exact ⟨st _ _ p λo q=>k _ _ (.inl rfl) q,⟨o,k _ _ (.inl rfl) e⟩,st⟩
theorem HOk.lt (x:HOk P w H h)(e:H a=some o):a<h.objs.size:=(x a o e).lt
theorem HOk.fresh (x:HOk P w H h)(e:h.objs.size<=a):H a=none:=by
 cases q:H a with
 |none=>rfl
 |some u=>exact absurd (yA (x.lt q) e) (uS _)
theorem HOk.kept (x:HOk P w H h)(k:∀ b u,h.get? b=some u->h'.get? b=some u):HOk P w H h':=λa o e =>
 (x a o e).stay (λb u _ q=>k b u q) (λ_ q=>q) (λ_ _ q=>q) λ_ _ _ q=>q
theorem HOk.laid (x:HOk P w H h)(k:∀ b u,h.get? b=some u->h'.get? b=some u)(hp:h.objs.size<=a)(new:ObjOk P w (z7 H a o) h' a o):HOk P w (z7 H a o) h':=λb u e=>by
 have hn:=x.fresh hp;by_cases hb:b=a
 ·subst hb;rw [j9] at e;cases e;exact new
 ·rw [z6 hb] at e;exact (x b u e).stay (λc v _ q=>k c v q) (λc q=>by rw [z6 (y0 q hn)];exact q) (λc xs q=>by rw [z6 (y0 q hn)];exact q) λc _ _ q=>by rw [z6 (y0 q hn)];exact q
end
def Rd (H:Hp)(a:Addr)(u:HO):Prop:=H a=some u∨∃ o,H a=some (.frz o u)
theorem Rd.ok {u:HO}(r:Rd H a u)(x:HOk P w H h):ObjOk P w H h a u:=by
 rcases r with r|⟨o,r⟩
 ·exact x a u r
 ·obtain ⟨_,q⟩:=x a _ r;exact q
def Mut:Option HO->Prop
 |some (.lst _)=>True
 |some (.dK _)=>True
 |some (.dT _ _ _)=>True
 |some (.set _ _)=>True
 |some (.ins _ _ _)=>True
 |some (.ext _)=>True
 |_=>False
section
variable {P:Program}{w:World}{H:Hp}{h h':Heap}{x e:Addr}{o':HO}
theorem HOk.write (ok:HOk P w H h)(mu:Mut (H x))(he:e=x∨H e=some (.own x))(k:∀ b u,b≠e->h.get? b=some u->h'.get? b=some u)(heo:∃ u,h'.get? e=some u)(new:ObjOk P w (z7 H x o') h' x o'):HOk P w (z7 H x o') h':=λb u q=>by
 have nown:∀ c y,H c=some (.own y)->c≠x:=λc y r z=>by subst z;rw [r] at mu;exact mu
 have ntup:∀ c xs,H c=some (.tup xs)->c≠x:=λc xs r z=>by subst z;rw [r] at mu;exact mu
 have nfrz:∀ c ob xs,H c=some (.frz ob xs)->c≠x:=λc ob xs r z=>by subst z;rw [r] at mu;exact mu
 by_cases hb:b=x
 ·subst hb;rw [j9] at q;cases q;exact new
 ·rw [z6 hb] at q;by_cases hbe:b=e
  ·have q':H b=some (.own x):=by
    rcases he with z|z
    ·exact absurd (hbe.trans z) hb
    ·rw [hbe];exact z
   rw [q] at q';cases q';obtain ⟨v,hv⟩:=heo;exact ⟨v,by rw [hbe];exact hv⟩
  ·refine (ok b u q).stay (λc v hc r=>k c v ?_ r) (λc r=>by rw [z6 (nown c b r)];exact r) (λc xs r=>by rw [z6 (ntup c xs r)];exact r) λc ob xs r=>by rw [z6 (nfrz c ob xs r)];exact r
   rcases hc with rfl|hc
   ·exact hbe
   ·rintro rfl;rcases he with z|z
    ·exact nown c b hc z
    ·rw [hc] at z;cases z;exact hb rfl
end
structure Un (fs ex:List Addr)(H H':Hp)(h h':Heap):Prop where
 keep:∀ b o,h.get? b=some o->H b=none->b∉fs->b∉ex->h'.get? b=some o
 slot:∀ b o,h.get? b=some o->H b=none->b∈fs->b∉ex->∃ sl,h'.get? b=some { o with slots:=sl }
 free:∀ b o,h.get? b=some o->H b=none->b∉ex->H' b=none
 there:∀ b o,h.get? b=some o->b∉ex->∃ o',h'.get? b=some o'
 tups:∀ b xs,H b=some (.tup xs)->H' b=some (.tup xs)
 frzs:∀ b o u,H b=some (.frz o u)->H' b=some (.frz o u)
 tbls:∀ b ps q,H b=some (.tbl ps q)->H' b=some (.tbl ps q)
section
variable {fs fs' ex ex':List Addr}{H H1 H2:Hp}{h h1 h2 h':Heap}{a x e:Addr}{o:HO}
theorem Un.any (u:Un fs ex H H1 h h1){ob:Obj}(q:h.get? b=some ob)(n:H b=none)(hx:b∉ex):∃ sl,h1.get? b=some { ob with slots:=sl }:=by
 by_cases hb:b∈fs
 ·exact u.slot b ob q n hb hx
 ·exact ⟨ob.slots,u.keep b ob q n hb hx⟩
theorem Un.kept (k:∀ b u,h.get? b=some u->h'.get? b=some u):Un fs ex H H h h' :=
 ⟨λb ob q _ _ _=>k b ob q,λb ob q _ _ _=>⟨ob.slots,k b ob q⟩,λ_ _ _ n _=>n,λb ob q _=>⟨ob,k b ob q⟩,λ_ _ q=>q,λ_ _ _ q=>q,λ_ _ _ q=>q⟩
theorem Un.refl:Un fs ex H H h h:=Un.kept λ_ _ q=>q
theorem Un.laid (k:∀ b u,h.get? b=some u->h'.get? b=some u)(hp:h.objs.size<=a)(hn:H a=none):Un fs ex H (z7 H a o) h h' where
 keep:=λb u q _ _ _=>k b u q
 slot:=λb u q _ _ _=>⟨u.slots,k b u q⟩
 free:=λb u q n _=>by rw [z6 (yF (yA (yQ q) hp))];exact n
 there:=λb u q _=>⟨u,k b u q⟩
 tups:=λb xs q=>by rw [z6 (y0 q hn)];exact q
 frzs:=λb u xs q=>by rw [z6 (y0 q hn)];exact q
 tbls:=λb ps z q=>by rw [z6 (y0 q hn)];exact q
theorem Un.write (mu:Mut (H x))(he:e=x∨H e=some (.own x))(k:∀ b u,b≠e->h.get? b=some u->h'.get? b=some u)(heo:∃ u,h'.get? e=some u):Un fs ex H (z7 H x o) h h':=by
 have hx:∀ b,H b=none->b≠x:=λb n z=>by subst z;rw [n] at mu;exact mu
 have hb:∀ b,H b=none->b≠e:=λb n z=>by
  subst z;rcases he with r|r
  ·exact hx b n r
  ·rw [n] at r;cases r
 have hm:∀ b u,H b=some u->¬ Mut (some u)->b≠x:=λb u q nm z=>by subst z;rw [q] at mu;exact nm mu
 refine ⟨λb u q n _ _=>k b u (hb b n) q,λb u q n _ _=>⟨u.slots,k b u (hb b n) q⟩,λb u q n _=>by rw [z6 (hx b n)];exact n,λb u q _=>?_,
  λb xs q=>by rw [z6 (hm b _ q λz=>z)];exact q,λb u xs q=>by rw [z6 (hm b _ q λz=>z)];exact q,λb ps r q=>by rw [z6 (hm b _ q λz=>z)];exact q⟩
 by_cases hbe:b=e
 ·subst hbe;exact heo
 ·exact ⟨u,k b u hbe q⟩
end
def trk (h:Heap)(H:Hp):List Addr:=(List.range h.objs.size).filter λa=>(H a).isSome
def jX (h:Heap)(H:Hp):Heap:=PySem.W.hideAll h (trk h H)
theorem MH (h:Heap)(H:Hp):(jX h H).objs.size=h.objs.size:=PySem.W.hideAll_size _ _
theorem MF {o:Obj}(e:h.get? b=some o)(n:H b=none):(jX h H).get? b=some o :=
 PySem.W.hideAll_get _ e λhm=>by
  have q:(H b).isSome=true:=(List.mem_filter.mp hm).2;rw [n] at q;simp at q
theorem Nn {o:Obj}(e:(jX h H).get? b=some o):h.get? b=some o/\H b=none:=by
 have e':h.get? b=some o:=PySem.W.of_hideAll (trk h H) e;refine ⟨e',?_⟩;cases q:H b with
 |none=>rfl
 |some x=>have hm:b∈trk h H:=List.mem_filter.mpr ⟨uB.mpr (yQ e'),by simp [q]⟩;have z:(jX h H).get? b=none:=PySem.W.hideAll_none (trk h H) hm;rw [z] at e;cases e
structure Mod (K:Fg)(mg:Str->Option Value)(base:Heap):Prop where
 kin:K.In base
 glob:base.Ns mainGlobals mg
 blt:∃ mb,base.Ns builtinsNs mb/\∀ x:Str,x ≠ "__name__"->mb x=bootBuiltins x
 nolimit:base.NoLimit
 bmn:∃ bm ob,mg "__builtins__"=some (.ref bm)/\bm≠builtinsNs/\base.get? bm=some ob/\ob.cls = .type "module"/\ob.dict=some builtinsNs/\ob.data = .plain
structure Cx where
 prog:Program
 w:World
 K:Fg
 mg:Str->Option Value
 base:Heap
 A:Around
 N:List Str
 s₀:Shared
 H₀:Hp
 env:Env
 outer:List Env
 stack:List Env
 ex:List Addr
 fn:Str->Bool
 calm:Bool
 pn:List (Addr×Obj)
 xe:Value->Shared->Prop
variable{X:Cx}
def p8 (l:List Env):List Addr:=l.filterMap (·.frame)
abbrev Cx.fs (X:Cx):List Addr:=p8 X.outer
def Vis (sc:Scope)(x:Str):Prop:=sc.names.lookup x=some .local∨sc.names.lookup x=some .cell∨sc.names.lookup x=some .free
def Loc (sc:Scope)(x:Str):Prop:=sc.names.lookup x=some .local∨sc.names.lookup x=some .cell
def Look (env:Env)(h:Heap)(m:Str->Option Value)(x:Str)(u:Value):Prop :=
 (env.kindOf x=some .local/\m x=some u)∨((env.kindOf x=some .cell∨env.kindOf x=some .free)/\∃ c,env.cells.lookup x=some c/\h.IsCell c (some u))
structure Cx.Ok (X:Cx):Prop where
 mod:Mod X.K X.mg X.base
 kind:X.env.scope.kind = .function
 glob:X.env.globals=mainGlobals
 blt:X.env.builtins=builtinsNs
 above:X.s₀.heap.objs.size<=X.env.locals
 inj:∀ x y c,X.env.cells.lookup x=some c->X.env.cells.lookup y=some c->x=y
 has:∀ x,(X.env.kindOf x=some .cell∨X.env.kindOf x=some .free)->∃ c,X.env.cells.lookup x=some c
 cab:∀ x c,X.fn x=true->X.env.cells.lookup x=some c->X.s₀.heap.objs.size<=c
 hd:X.calm=true->X.A.handled=none
 frames:X.A.frames=some X.stack
 stk:X.stack=X.outer∨(X.stack=X.env::X.outer/\X.env.frame=some X.env.locals)
 exf:∀ b∈X.ex,b≠X.env.locals/\∀ x c,X.env.cells.lookup x=some c->c≠b
 bs:∀ b o,X.base.get? b=some o->X.s₀.heap.get? b=some o/\X.H₀ b=none
 bsz:X.base.objs.size<=X.s₀.heap.objs.size
 noex:∀ b o,X.base.get? b=some o->b∉X.ex
 exfs:∀ b∈X.ex,b∉X.fs
 funs:X.s₀.heap.FunFrames X.base X.outer
 frf:∀ b∈X.fs,X.H₀ b=none
 tbs:∀ p∈TABS,X.H₀ p.1=some (.tbl p.2.1 p.2.2)
structure Inv (X:Cx)(pins:List (Addr×Obj))(U:List (Option V))(H:Hp)(s:Shared):Prop where
 ok:X.Ok
 os:s.os=X.s₀.os
 bare:AllBare s.gens
 base:Un X.fs X.ex X.H₀ H X.s₀.heap s.heap
 loc:∃ m,s.heap.Ns X.env.locals m/\∀(i:Nat)(x:Str)(v:V),X.N[i]?=some x->U[i]?=some (some v)->Vis X.env.scope x->∃ u,RelV v u/\Look X.env s.heap m x u
 cell:∀ x c,X.env.cells.lookup x=some c->∃ v,s.heap.IsCell c v
 free:H X.env.locals=none
 freeC:∀ x c,X.env.cells.lookup x=some c->H c=none
 pin:∀ p∈X.pn++pins,s.heap.get? p.1=some p.2/\H p.1=none/\p.1≠X.env.locals/\p.1∉X.fs/\∀ v,p.2.data ≠ .cell v
 hok:HOk X.prog X.w H s.heap
 len:U.length=X.N.length
section
variable {X:Cx}{pins:List (Addr×Obj)}{U:List (Option V)}{H H':Hp}{s:Shared}{h':Heap}
theorem Cx.Ok.nofr (ok:X.Ok){o:Obj}(e:X.base.get? b=some o):b∉X.fs:=λhb=>by
 have:=(ok.funs.mem hb).1;rw [e] at this;cases this
theorem Inv.bs (I:Inv X pins U H s):∀ b o,X.base.get? b=some o->s.heap.get? b=some o/\H b=none:=λb o e =>
 ⟨I.base.keep b o (I.ok.bs b o e).1 (I.ok.bs b o e).2 (I.ok.nofr e) (I.ok.noex b o e),I.base.free b o (I.ok.bs b o e).1 (I.ok.bs b o e).2 (I.ok.noex b o e)⟩
theorem Inv.bk (I:Inv X pins U H s):∀ b o,X.base.get? b=some o->s.heap.get? b=some o:=λb o e=>(I.bs b o e).1
theorem Inv.mod (I:Inv X pins U H s):Mod X.K X.mg X.base:=I.ok.mod
theorem Inv.kIn (I:Inv X pins U H s):X.K.In s.heap:=I.ok.mod.kin.keeps I.bk
theorem Inv.fr (I:Inv X pins U H s):∃ m,Fr X.base X.env.locals s.heap m :=
 let ⟨m,hn,_⟩:=I.loc
 ⟨m,hn,I.bk,ye I.ok.bsz I.ok.above⟩
theorem Inv.lt (I:Inv X pins U H s):X.env.locals<s.heap.objs.size:=let ⟨_,hn,_⟩:=I.loc;hn.lt
theorem Inv.sz (I:Inv X pins U H s):X.s₀.heap.objs.size<=s.heap.objs.size:=ye I.ok.above (yb I.lt)
theorem Inv.nofs (I:Inv X pins U H s)(h:s.heap.objs.size<=a):a∉X.fs:=λhb=>by
 obtain ⟨_,o,ho,_⟩:=I.ok.funs.mem hb;exact absurd (yA (yQ ho) (ye I.sz h)) (uS _)
theorem Inv.cne (I:Inv X pins U H s):∀ x c,X.env.cells.lookup x=some c->c≠X.env.locals:=λx c e z=>by
 obtain ⟨v,o,ho,hd⟩:=I.cell x c e;obtain ⟨m,⟨o',es,ep,ho',hd',_⟩,_⟩:=I.loc;rw [z,ho'] at ho;cases ho;rw [hd'] at hd;cases hd
theorem Inv.funs (I:Inv X pins U H s):s.heap.FunFrames X.base X.outer:=by
 have all:∀(l:List Env),(∀ b∈p8 l,b∈X.fs)->X.s₀.heap.FunFrames X.base l->s.heap.FunFrames X.base l:=by
  intro l
  induction l with
  |nil=>intro _ _;trivial
  |cons env r ih=>intro hs hl;obtain ⟨hk,⟨L,o,hf,hn,ho,hd⟩,hr⟩:=hl;have hL:L∈X.fs:=hs L (by unfold p8;rw [List.filterMap_cons,hf];exact yU);obtain ⟨sl,e⟩:=I.base.slot L o ho (I.ok.frf L hL) hL λz=>I.ok.exfs L z hL;exact ⟨hk,⟨L,_,hf,hn,e,hd⟩,ih (λb hb=>hs b (by unfold p8;rw [List.filterMap_cons,hf];exact yS _ hb)) hr⟩
 exact all X.outer (λ_ hb=>hb) I.ok.funs
theorem Inv.stack (I:Inv X pins U H s):s.heap.FunFrames X.base X.stack:=by
 rcases I.ok.stk with e|⟨e,hf⟩
 ·rw [e];exact I.funs
 ·rw [e];obtain ⟨m,hn,_⟩:=I.loc;refine .cons (by rw [I.ok.kind];decide) hf hn ?_ I.funs;exact uR (ye I.ok.bsz I.ok.above)
theorem Inv.stkSub (I:Inv X pins U H s):∀ b∈p8 X.stack,b∈X.env.locals::X.fs:=λb hb=>by
 rcases I.ok.stk with e|⟨e,hf⟩
 ·rw [e] at hb;exact yS _ hb
 ·rw [e] at hb;unfold p8 at hb;rw [List.filterMap_cons,hf] at hb;exact hb
theorem Inv.stkFree (I:Inv X pins U H s):∀ b∈p8 X.stack,H b=none:=λb hb=>by
 rcases yD.mp (I.stkSub b hb) with e|hb
 ·rw [e];exact I.free
 ·obtain ⟨_,o,ho,_⟩:=I.ok.funs.mem hb;exact I.base.free b o ho (I.ok.frf b hb) λz=>I.ok.exfs b z hb
theorem Inv.step (I:Inv X pins U H s)(hch:∀ b∈ch,(b∈X.ex∨X.s₀.heap.objs.size<=b)/\b≠X.env.locals/\(∀ x c,X.env.cells.lookup x=some c->c≠b)/\∀ p∈X.pn++pins,p.1≠b)(keep:∀ b o,b≠X.env.locals->b∉X.fs->b∉ch->s.heap.get? b=some o->H b=none->h'.get? b=some o)(slot:∀ b o,b≠X.env.locals->b∈X.fs->b∉ch->s.heap.get? b=some o->H b=none->∃ sl,h'.get? b=some { o with slots:=sl })(free:∀ b o,b∉ch->s.heap.get? b=some o->H b=none->H' b=none)(there:∀ b o,b∉ch->s.heap.get? b=some o->∃ o',h'.get? b=some o')(tups:∀ b xs,H b=some (.tup xs)->H' b=some (.tup xs))(frzs:∀ b o u,H b=some (.frz o u)->H' b=some (.frz o u))(tbls:∀ b ps q,H b=some (.tbl ps q)->H' b=some (.tbl ps q))(ns:∀ m,s.heap.Ns X.env.locals m->h'.Ns X.env.locals m)(hok:HOk X.prog X.w H' h')(hg:AllBare g'):Inv X pins U H' { s with heap:=h',gens:=g',drawn:=d',toks:=t' }:=by
 have neL:∀ b o,X.s₀.heap.get? b=some o->b≠X.env.locals:=λb o e=>yF (yA (yQ e) I.ok.above);have neC:∀ b o,X.s₀.heap.get? b=some o->b∉X.ex->b∉ch:=λb o e hx hb=>by
  rcases (hch b hb).1 with z|z
  ·exact hx z
  ·exact absurd (yA (yQ e) z) (uS _)
 have cellK:∀ x c,X.env.cells.lookup x=some c->∀ v,s.heap.IsCell c v->h'.IsCell c v:=λx c e v ⟨o,ho,hd⟩=>by
  have nch:c∉ch:=λz=>(hch c z).2.2.1 x c e rfl;by_cases hc:c∈X.fs
  ·obtain ⟨sl,q⟩:=slot c o (I.cne x c e) hc nch ho (I.freeC x c e);exact ⟨_,q,hd⟩
  ·exact ⟨o,keep c o (I.cne x c e) hc nch ho (I.freeC x c e),hd⟩
 refine ⟨I.ok,I.os,hg,⟨λb o e n hb hx=>?_,λb o e n hb hx=>?_,λb o e n hx=>?_,λb o e hx=>?_,λb xs e=>tups b xs (I.base.tups b xs e),λb o xs e=>frzs b o xs (I.base.frzs b o xs e),λb ps q e=>tbls b ps q (I.base.tbls b ps q e)⟩,?_,λx c e=>?_,?_,λx c e=>?_,λp hp=>?_,hok,I.len⟩
 ·exact keep b o (neL b o e) hb (neC b o e hx) (I.base.keep b o e n hb hx) (I.base.free b o e n hx)
 ·obtain ⟨sl,e1⟩:=I.base.slot b o e n hb hx;obtain ⟨sl',e2⟩:=slot b _ (neL b o e) hb (neC b o e hx) e1 (I.base.free b o e n hx);exact ⟨sl',e2⟩
 ·obtain ⟨o',e1⟩:=I.base.there b o e hx;exact free b o' (neC b o e hx) e1 (I.base.free b o e n hx)
 ·obtain ⟨o',e1⟩:=I.base.there b o e hx;exact there b o' (neC b o e hx) e1
 ·obtain ⟨m,hn,hl⟩:=I.loc;refine ⟨m,ns m hn,λi x v e1 e2 e3=>?_⟩;obtain ⟨u,r,l⟩:=hl i x v e1 e2 e3;refine ⟨u,r,?_⟩;rcases l with l|⟨k,c,e,z⟩
  ·exact .inl l
  ·exact .inr ⟨k,c,e,cellK x c e _ z⟩
 ·obtain ⟨v,z⟩:=I.cell x c e;exact ⟨v,cellK x c e v z⟩
 ·obtain ⟨m,⟨o,_,_,ho,_⟩,_⟩:=I.loc;exact free _ o (λz=>(hch _ z).2.1 rfl) ho I.free
 ·obtain ⟨v,o,ho,hd⟩:=I.cell x c e;exact free c o (λz=>(hch c z).2.2.1 x c e rfl) ho (I.freeC x c e)
 ·obtain ⟨e,n,ne,nf,d⟩:=I.pin p hp;have nch:p.1∉ch:=λz=>(hch p.1 z).2.2.2 p hp rfl;exact ⟨keep p.1 p.2 ne nf nch e n,free p.1 p.2 nch e n,ne,nf,d⟩
theorem Inv.un (I:Inv X pins U H s)(u:Un X.fs [] H H' s.heap h')(hok:HOk X.prog X.w H' h'):Inv X pins U H' { s with heap:=h',toks:=t' }:=by
 obtain ⟨m,⟨o,es,ep,ho,r⟩,_⟩:=id I.loc;obtain ⟨sl,hL⟩:=u.any ho I.free (by simp);exact I.step (g':=s.gens) (d':=s.drawn) (ch:=[]) (λ_ z=>nomatch z) (λb o _ hb _ e n=>u.keep b o e n hb (by simp)) (λb o _ hb _ e n=>u.slot b o e n hb (by simp)) (λb o _ e n=>u.free b o e n (by simp)) (λb o _ e=>u.there b o e (by simp)) u.tups u.frzs u.tbls (λm' hm=>by
  obtain ⟨o',es',ep',ho',r'⟩:=hm;rw [ho] at ho';cases ho';exact ⟨_,es',ep',hL,r'⟩) hok I.bare
theorem Inv.call (I:Inv X pins U H s)(u:Un (p8 X.stack) ch H H' s.heap h')(hok:HOk X.prog X.w H' h')(hg:AllBare g')(hch:∀ b∈ch,(b∈X.ex∨X.s₀.heap.objs.size<=b)/\b≠X.env.locals/\(∀ x c,X.env.cells.lookup x=some c->c≠b)/\∀ p∈X.pn++pins,p.1≠b):Inv X pins U H' { s with heap:=h',gens:=g',drawn:=d',toks:=t' }:=by
 obtain ⟨m,⟨o,es,ep,ho,r⟩,_⟩:=id I.loc;obtain ⟨sl,hL⟩:=u.any ho I.free λz=>(hch _ z).2.1 rfl;exact I.step (ch:=ch) hch (λb o hL hb hc e n=>u.keep b o e n (λz=>(yD.mp (I.stkSub b z)).elim hL hb) hc) (λb o _ _ hc e n=>u.any e n hc) (λb o hc e n=>u.free b o e n hc) (λb o hc e=>u.there b o e hc) u.tups u.frzs u.tbls (λm' hm=>by
  obtain ⟨o',es',ep',ho',r'⟩:=hm;rw [ho] at ho';cases ho';exact ⟨_,es',ep',hL,r'⟩) hok hg
theorem Inv.turned (I:Inv X pins U H s)(k:∀ b o,b≠it->s.heap.get? b=some o->h'.get? b=some o)(hn:H it=none)(hL:it≠X.env.locals)(h1:it∈X.ex∨X.s₀.heap.objs.size<=it)(h2:∀ x c,X.env.cells.lookup x=some c->c≠it)(h3:∀ p∈X.pn++pins,p.1≠it):Inv X pins U H { s with heap:=h',toks:=t' }:=by
 have nit:∀ b u,H b=some u->b≠it:=λb u e z=>by rw [z,hn] at e;cases e
 refine I.step (g':=s.gens) (d':=s.drawn) (ch:=[it]) (λb hb=>?_) (λb o _ _ hc e _=>k b o (λz=>hc (by simp [z])) e) (λb o _ _ hc e _=>⟨o.slots,k b o (λz=>hc (by simp [z])) e⟩) (λ_ _ _ _ n=>n)
  (λb o hc e=>⟨o,k b o (λz=>hc (by simp [z])) e⟩) (λ_ _ e=>e) (λ_ _ _ e=>e) (λ_ _ _ e=>e) (λm hm=>?_) (λb u e=>?_) I.bare
 ·have e:b=it:=by simpa using hb
  subst e;exact ⟨h1,hL,h2,h3⟩
 ·obtain ⟨o,es,ep,ho,r⟩:=hm;exact ⟨o,es,ep,k _ o (Ne.symm hL) ho,r⟩
 ·refine (I.hok b u e).stay (λc v hc q=>k c v ?_ q) (λ_ q=>q) (λ_ _ q=>q) λ_ _ _ q=>q;rcases hc with z|z
  ·rw [z];exact nit b u e
  ·exact nit c _ z
theorem Inv.tok (I:Inv X pins U H s)(t:Nat):Inv X pins U H { s with toks:=t }:=I.un (h':=s.heap) (t':=t) Un.refl I.hok
theorem Inv.kept (I:Inv X pins U H s)(k:∀ b u,s.heap.get? b=some u->h'.get? b=some u):Inv X pins U H { s with heap:=h',toks:=t' }:=I.un (Un.kept k) (I.hok.kept k)
theorem Inv.laid (I:Inv X pins U H s)(k:∀ b u,s.heap.get? b=some u->h'.get? b=some u)(hp:s.heap.objs.size<=a)(new:ObjOk X.prog X.w (z7 H a o) h' a o):Inv X pins U (z7 H a o) { s with heap:=h',toks:=t' }:=I.un (Un.laid k hp (I.hok.fresh hp)) (I.hok.laid k hp new)
theorem Inv.write {x e:Addr}(I:Inv X pins U H s)(mu:Mut (H x))(he:e=x∨H e=some (.own x))(k:∀ b u,b≠e->s.heap.get? b=some u->h'.get? b=some u)(heo:∃ u,h'.get? e=some u)(new:ObjOk X.prog X.w (z7 H x o) h' x o):Inv X pins U (z7 H x o) { s with heap:=h',toks:=t' }:=I.un (Un.write mu he k heo) (I.hok.write mu he k heo new)
theorem Inv.weak {σ':List (Option V)}(I:Inv X pins U H s)(hl:σ'.length=U.length)(w:∀(i:Nat) v,σ'[i]?=some (some v)->U[i]?=some (some v)):Inv X pins σ' H s :=
 ⟨I.ok,I.os,I.bare,I.base,let ⟨m,hn,hl'⟩:=I.loc;⟨m,hn,λi x v e1 e2 e3=>hl' i x v e1 (w i v e2) e3⟩,I.cell,I.free,I.freeC,I.pin,I.hok,hl.trans I.len⟩
theorem Inv.pins_of {pins':List (Addr×Obj)}(I:Inv X pins U H s)(h:∀ p∈pins',s.heap.get? p.1=some p.2/\H p.1=none/\p.1≠X.env.locals/\p.1∉X.fs/\∀ v,p.2.data ≠ .cell v):Inv X pins' U H s :=
 ⟨I.ok,I.os,I.bare,I.base,I.loc,I.cell,I.free,I.freeC,λp hp=>(yy.mp hp).elim (λz=>I.pin p (yc _ z)) (h p),I.hok,I.len⟩
theorem KR (hN:N.Nodup){i:Nat}(a:N[i]?=some x)(b:N[j]?=some x):i=j:=by obtain ⟨h1,e1⟩:=yk.mp a;obtain ⟨h2,e2⟩:=yk.mp b;exact (List.getElem_inj hN).mp (e1.trans e2.symm)
theorem Pi {M:Model}{i:Nat}{Q:Unit->Shared->Prop}(I:Inv X pins U H s)(hN:X.N.Nodup)(hi:X.N[i]?=some x)(hx:Loc X.env.scope x)(r:RelV v u)(h:∀ s',Inv X pins (U.set i (some v)) H s'->(∃ a,Heap.SameBut a s.heap s'.heap/\(a=X.env.locals∨X.env.cells.lookup x=some a))->Q () s')(hf:X.fn x=true∨X.env.scope.names.lookup x=some .local:=by first|exact .inl rfl|exact .inr rfl|assumption):wpAny M A (storeName X.env x u) Q E s:=by
 obtain ⟨m,hn,hl⟩:=id I.loc;have hcls:(X.env.scope.kind == .class || (X.env.scope.kind == .module&&X.env.locals != X.env.globals))=false:=by rw [I.ok.kind];rfl
 have hiσ:i<U.length:=by rw [I.len];exact (yk.mp hi).1
 have cne:=I.cne;have tracked:∀{a:Addr}{h':Heap},(∃ o,s.heap.get? a=some o/\H a=none)->Heap.SameBut a s.heap h'->HOk X.prog X.w H h':=λ{a h'} ha hs b ob e=>by
  obtain ⟨_,_,hfree⟩:=ha;refine (I.hok b ob e).stay (λc w' hc q=>(hs.2 c ?_).trans q) (λ_ q=>q) (λ_ _ q=>q) λ_ _ _ q=>q;rintro rfl;rcases hc with rfl|hc
  ·rw [hfree] at e;cases e
  ·rw [hfree] at hc;cases hc
 rcases hx with hk|hk
 ·refine wpAny_storeName_local hk hn (λh' hn' hs=>?_) hcls;obtain ⟨oL,_,_,hoL,_⟩:=id hn;refine h _ ⟨I.ok,I.os,I.bare,⟨λb o e n hb hx=>?_,λb o e n hb hx=>?_,I.base.free,λb o e hx=>?_,I.base.tups,I.base.frzs,I.base.tbls⟩,⟨_,hn',λj y v' e1 e2 e3=>?_⟩,λy c e=>?_,I.free,I.freeC,λp hp=>?_,tracked ⟨oL,hoL,I.free⟩ hs,by simpa using I.len⟩ ⟨_,hs,.inl rfl⟩
  ·exact (hs.2 b (yF (yA (yQ e) I.ok.above))).trans (I.base.keep b o e n hb hx)
  ·obtain ⟨sl,e1⟩:=I.base.slot b o e n hb hx;exact ⟨sl,(hs.2 b (yF (yA (yQ e) I.ok.above))).trans e1⟩
  ·obtain ⟨o',e1⟩:=I.base.there b o e hx;exact ⟨o',(hs.2 b (yF (yA (yQ e) I.ok.above))).trans e1⟩
  ·by_cases hj:j=i
   ·subst hj;rw [hi] at e1;cases e1;rw [uz hiσ] at e2;cases e2;exact ⟨u,r,.inl ⟨hk,by simp⟩⟩
   ·rw [yo (Ne.symm hj)] at e2;obtain ⟨u',r',q⟩:=hl j y v' e1 e2 e3;refine ⟨u',r',?_⟩;rcases q with ⟨k,e⟩|⟨k,c,e,z⟩
    ·refine .inl ⟨k,?_⟩;have:y≠x:=λe=>hj (KR hN e1 (e▸hi));simp [this,e]
    ·exact .inr ⟨k,c,e,z.sameBut hs (cne y c e)⟩
  ·obtain ⟨w',z⟩:=I.cell y c e;exact ⟨w',z.sameBut hs (cne y c e)⟩
  ·obtain ⟨e,n,ne,nf,d⟩:=I.pin p hp;exact ⟨(hs.2 p.1 ne).trans e,n,ne,nf,d⟩
 ·have hfn:X.fn x=true:=by
   rcases hf with z|z
   ·exact z
   ·rw [z] at hk;cases hk
  obtain ⟨c,hc⟩:=I.ok.has x (.inl hk);obtain ⟨w',z⟩:=I.cell x c hc;refine wpAny_storeName_cell I.ok.kind hk hc z (λh' hc' hs=>?_);obtain ⟨oc,hoc,hocd⟩:=id z;refine h { s with heap:=h' } ⟨I.ok,I.os,I.bare,⟨λb o e n hb hx=>?_,λb o e n hb hx=>?_,I.base.free,λb o e hx=>?_,I.base.tups,I.base.frzs,I.base.tbls⟩,⟨m,hn.sameBut hs (Ne.symm (cne x c hc)),λj y v' e1 e2 e3=>?_⟩,λy c' e=>?_,I.free,I.freeC,λp hp=>?_,tracked ⟨oc,hoc,I.freeC x c hc⟩ hs,by simpa using I.len⟩ ⟨c,hs,.inr hc⟩
  ·exact (hs.2 b (yF (yA (yQ e) (I.ok.cab x c hfn hc)))).trans (I.base.keep b o e n hb hx)
  ·obtain ⟨sl,e1⟩:=I.base.slot b o e n hb hx;exact ⟨sl,(hs.2 b (yF (yA (yQ e) (I.ok.cab x c hfn hc)))).trans e1⟩
  ·obtain ⟨o',e1⟩:=I.base.there b o e hx;exact ⟨o',(hs.2 b (yF (yA (yQ e) (I.ok.cab x c hfn hc)))).trans e1⟩
  ·by_cases hj:j=i
   ·subst hj;rw [hi] at e1;cases e1;rw [uz hiσ] at e2;cases e2;exact ⟨u,r,.inr ⟨.inl hk,c,hc,hc'⟩⟩
   ·rw [yo (Ne.symm hj)] at e2;obtain ⟨u',r',q⟩:=hl j y v' e1 e2 e3;refine ⟨u',r',?_⟩;rcases q with q|⟨k,c',e,z'⟩
    ·exact .inl q
    ·refine .inr ⟨k,c',e,z'.sameBut hs ?_⟩;rintro rfl;exact hj (KR hN e1 (I.ok.inj _ _ _ e hc▸hi))
  ·by_cases hcc:c'=c
   ·subst hcc;exact ⟨_,hc'⟩
   ·obtain ⟨w2,z2⟩:=I.cell y c' e;exact ⟨w2,z2.sameBut hs hcc⟩
  ·obtain ⟨e,n,ne,nf,d⟩:=I.pin p hp;refine ⟨(hs.2 p.1 ?_).trans e,n,ne,nf,d⟩;intro q;rw [q,hoc] at e;have q':oc=p.2:=Option.some.inj e;exact d w' (by rw [<- q'];exact hocd)
theorem Ph {M:Model}{i:Nat}{Q:Unit->Shared->Prop}(I:Inv X pins U H s)(hN:X.N.Nodup)(hi:X.N[i]?=some x)(hx:Loc X.env.scope x)(r:RelV v u)(h:∀ s',Inv X pins (U.set i (some v)) H s'->Q () s')(hf:X.fn x=true∨X.env.scope.names.lookup x=some .local:=by first|exact .inl rfl|exact .inr rfl|assumption):wpAny M A (storeName X.env x u) Q E s :=
 Pi I hN hi hx r (λs' I' _=>h s' I') hf
theorem Inv.call' (I:Inv X pins U H s)(ho:s'.os=s.os)(u:Un (p8 X.stack) ch H H' s.heap s'.heap)(hok:HOk X.prog X.w H' s'.heap)(hg:AllBare s'.gens)(hch:∀ b∈ch,(b∈X.ex∨X.s₀.heap.objs.size<=b)/\b≠X.env.locals/\(∀ x c,X.env.cells.lookup x=some c->c≠b)/\∀ p∈X.pn++pins,p.1≠b):Inv X pins U H' s':=by obtain ⟨h',g',d',t',o'⟩:=s';have e:o'=s.os:=ho;subst e;exact I.call (g':=g') (t':=t') (d':=d') u hok hg hch
end
abbrev XK:=Value->Option Addr->Hp->Prop
abbrev St:=List (Option V)
variable{U:St}
abbrev VK:=V->Hp->Prop
abbrev TE:=St->Hp->VK->Prop
variable{t te:TE}
abbrev TT:=St->Hp->(Bool->Hp->Prop)->Prop
abbrev TA:=St->Hp->(List V->Hp->Prop)->Prop
structure qN where
 nx:St->Hp->Prop
 rt:VK
 bk:St->Hp->Prop:=λ_ _=>False
 ct:St->Hp->Prop:=λ_ _=>False
variable{D:qN}
abbrev TS:=qN->St->Hp->Prop
variable{tb:TS}
def EP (X:Cx)(pins:List (Addr×Obj))(U:St)(Q:VK)(u:Value)(s':Shared):Prop:=∃ v H',Inv X pins U H' s'/\RelV v u/\Q v H'
def TP (X:Cx)(pins:List (Addr×Obj))(U:St)(Q:Bool->Hp->Prop)(b:Bool)(s':Shared):Prop:=∃ H',Inv X pins U H' s'/\Q b H'
def AP (X:Cx)(pins:List (Addr×Obj))(U:St)(Q:List V->Hp->Prop)(us:List Value)(s':Shared):Prop:=∃ vs H',Inv X pins U H' s'/\Vals vs us/\Q vs H'
def SP (X:Cx)(pins:List (Addr×Obj))(D:qN)(f:Flow)(s':Shared):Prop :=
 match f with
 | .next=>∃ σ' H',Inv X pins σ' H' s'/\D.nx σ' H'
 | .brk=>∃ σ' H',Inv X pins σ' H' s'/\D.bk σ' H'
 | .cont=>∃ σ' H',Inv X pins σ' H' s'/\D.ct σ' H'
 | .ret u=>∃ v σ' H',Inv X pins σ' H' s'/\RelV v u/\D.rt v H'
def PE (X:Cx)(e:Expr)(t:TE):Prop :=
 ∀(pins:List (Addr×Obj))(s:Shared)(U:St)(H:Hp)(Q:VK),Inv X pins U H s->t U H Q->wpAny (model X.prog X.w) X.A (eval e X.env) (EP X pins U Q) X.xe s
def PT (X:Cx)(e:Expr)(t:TT):Prop :=
 ∀(pins:List (Addr×Obj))(s:Shared)(U:St)(H:Hp)(Q:Bool->Hp->Prop),Inv X pins U H s->t U H Q->wpAny (model X.prog X.w) X.A (isTrue e X.env (eval e X.env)) (TP X pins U Q) X.xe s
def PW (X:Cx)(e:Expr)(t:TT):Prop :=
 ∀(whole:Sem Value)(pins:List (Addr×Obj))(s:Shared)(U:St)(H:Hp)(Q:Bool->Hp->Prop),Inv X pins U H s->t U H Q->wpAny (model X.prog X.w) X.A (isTrue e X.env whole) (TP X pins U Q) X.xe s
theorem PW.pt {t:TT}(h:PW X e t):PT X e t:=h _
def PA (X:Cx)(es:List Expr)(t:TA):Prop :=
 ∀(pos:Pos)(pins:List (Addr×Obj))(s:Shared)(U:St)(H:Hp)(Q:List V->Hp->Prop),Inv X pins U H s->t U H Q->wpAny (model X.prog X.w) X.A (spliced (backTo pos (starEach es X.env))) (AP X pins U Q) X.xe s
def PS (X:Cx)(st:Stmt)(t:TS):Prop :=
 ∀(pins:List (Addr×Obj))(s:Shared)(U:St)(H:Hp)(D:qN),Inv X pins U H s->t D U H->wpAny (model X.prog X.w) X.A (exec st X.env) (SP X pins D) X.xe s
def PSs (X:Cx)(st:List Stmt)(t:TS):Prop :=
 ∀(pins:List (Addr×Obj))(s:Shared)(U:St)(H:Hp)(D:qN),Inv X pins U H s->t D U H->wpAny (model X.prog X.w) X.A (execs st X.env) (SP X pins D) X.xe s
theorem j7 {t:Sem α}{Q Q':α->Shared->Prop}{M:Model}(h:wpAny M A t Q E s)(hQ:∀ a s,Q a s->Q' a s):wpAny M A t Q' E s:=wpAny_mono h hQ λ_ _ x=>x
section
variable {X:Cx}
theorem bin {a b:Expr}{ta tb:TE}(ha:PE X a ta)(hb:PE X b tb)(I:Inv X pins U H s)(h:ta U H λx H1=>tb U H1 λy H2=>R x y H2){Q:α->Shared->Prop}{f:Value->Value->Sem α}(hf:∀ v u s2 x y H2,Inv X pins U H2 s2->RelV x v->RelV y u->R x y H2->wpAny (model X.prog X.w) X.A (f v u) Q X.xe s2):wpAny (model X.prog X.w) X.A (eval a X.env) (λv s₁=>wpAny (model X.prog X.w) X.A (eval b X.env) (λu s₂=>wpAny (model X.prog X.w) X.A (f v u) Q X.xe s₂) X.xe s₁) X.xe s:=by refine j7 (ha pins s U H _ I h) λv s1 zq=>?_;obtain ⟨x,H1,I1,r1,q1⟩:=zq;refine j7 (hb pins s1 U H1 _ I1 q1) λu s2 zq=>?_;obtain ⟨y,H2,I2,r2,q2⟩:=zq;exact hf v u s2 x y H2 I2 r1 r2 q2
def b9 (i:Nat):TE:=λU H Q=>∃ v,U[i]?=some (some v)/\Q v H
def tC (v:V):TE:=λ_ H Q=>Q v H
theorem Rp {i:Nat}(hN:X.N[i]?=some x)(hv:Vis X.env.scope x)(hd:(x==("__debug__":Str))=false:=by decide)(hcd:(x==("__classdict__":Str))=false:=by decide):PE X (.Name x pos) (b9 i):=by
 intro pins s U H Q I h;obtain ⟨v,e,h⟩:=h;obtain ⟨m,hn,hl⟩:=I.loc;obtain ⟨u,r,l⟩:=hl i x v hN e hv;have fin:EP X pins U Q u s:=⟨v,H,I,r,h⟩;rcases l with ⟨hk,hm⟩|⟨hk,c,hc,hcell⟩
 ·exact wpAny_Name (wpAny_loadName_local I.ok.kind hk hn hm fin) hd
 ·rcases hk with hk|hk
  ·exact wpAny_Name (wpAny_loadName_cell I.ok.kind hk hc hcell fin) hd
  ·exact wpAny_Name (wpAny_loadName_free I.ok.kind hk hc hcell fin hcd) hd
theorem z8 {i j pos}:PE X (.Constant (.int i) j pos) (tC (.int i)):=λ_ _ _ H _ I h=>wpAny_Constant_int ⟨.int i,H,I.tok _,⟨_,rfl⟩,h⟩
theorem zh {b j pos}:PE X (.Constant (.bool b) j pos) (tC (.bl b)):=λ_ _ _ H _ I h=>Constant_bool ⟨.bl b,H,I,rfl,h⟩
theorem vi {j pos}:PE X (.Constant .none j pos) (tC .non):=λ_ _ _ H _ I h=>Constant_none ⟨.non,H,I,rfl,h⟩
theorem xl {x j pos}:PE X (.Constant (.str x) j pos) (tC (.str x)):=λ_ _ _ H _ I h=>Calls.Constant_str ⟨.str x,H,I.tok _,⟨_,rfl⟩,h⟩
def Gl (X:Cx)(x:Str):Prop:=X.env.kindOf x=some .globalImplicit
theorem wn (I:Inv X pins U H s)(hg:Gl X x)(hm:X.mg x=some u)(h:Q u s)(hd:(x==("__debug__":Str))=false:=by decide):wpAny (model X.prog X.w) X.A (eval (.Name x pos) X.env) Q E s :=
 Calls.Name_function_global I.ok.kind hg (Calls.loadGlobal_global (by rw [I.ok.glob];exact I.mod.glob.keeps I.bk) hm h) hd
theorem wm (I:Inv X pins U H s)(hg:Gl X x)(hm:X.mg x=none)(hv:bootBuiltins x=some u)(h:Q u s)(hn:x ≠ "__name__":=by decide)(hd:(x==("__debug__":Str))=false:=by decide):wpAny (model X.prog X.w) X.A (eval (.Name x pos) X.env) Q E s:=by obtain ⟨mb,h1,h2⟩:=I.mod.blt;exact Calls.Name_function_global I.ok.kind hg (Calls.loadGlobal_builtin (by rw [I.ok.glob];exact I.mod.glob.keeps I.bk) hm (by rw [I.ok.blt];exact h1.keeps I.bk) ((h2 x hn).trans hv) h) hd
theorem JH (hg:Gl X x)(hm:X.mg x=some u)(r:RelV v u)(hd:(x==("__debug__":Str))=false:=by decide):PE X (.Name x pos) (tC v) :=
 λ_ _ _ H _ I h=>wn I hg hm ⟨v,H,I,r,h⟩ hd
theorem vQ (hg:Gl X x)(hm:X.mg x=none)(hv:bootBuiltins x=some u)(r:RelV v u)(hn:x ≠ "__name__":=by decide)(hd:(x==("__debug__":Str))=false:=by decide):PE X (.Name x pos) (tC v) :=
 λ_ _ _ H _ I h=>wm I hg hm hv ⟨v,H,I,r,h⟩ hn hd
variable {a b:Expr}{ta tb:TE}{pos:Pos}
def PC (X:Cx)(op:CmpOp)(a b:Expr)(t:TE):Prop :=
 ∀(pins:List (Addr×Obj))(s:Shared)(U:St)(H:Hp)(Q:VK),Inv X pins U H s->t U H Q ->
  wpAny (model X.prog X.w) X.A (eval a X.env) (λv s₁=>wpAny (model X.prog X.w) X.A (eval b X.env) (λu s₂=>wpAny (model X.prog X.w) X.A (compareOp op v u) (EP X pins U Q) X.xe s₂) X.xe s₁) X.xe s
def tB (t:TE):TT:=λU H Q=>t U H λx H1=>∃ c,x = .bl c/\Q c H1
theorem Br (h:PC X op a b t)(h1:behindInMarks op b=false:=by first|exact nobehind _ (by decide) (by decide)|rfl):PT X (.Compare a [op] [b] pos) (tB t):=by intro pins s U H Q I hw;refine wpAny_isTrue_Compare1 (j7 (h pins s U H _ I hw) λv s1 h1=>j7 h1 λu s2 h2=>j7 h2 λc s3 zq=>?_) h1;obtain ⟨x,H1,I1,r1,q1⟩:=zq;obtain ⟨d,rfl,q⟩:=q1;cases r1;exact wpAny_truthy_bool ⟨H1,I1,q⟩
variable {tA tB':TT}{rest:List Expr}
def tAnd (t u:TT):TT:=λU H Q=>t U H λc H1=>if c=true then u U H1 Q else Q false H1
def tOr (t u:TT):TT:=λU H Q=>t U H λc H1=>if c=true then Q true H1 else u U H1 Q
def tNot (t:TT):TT:=λU H Q=>t U H λc H1=>Q (!c) H1
theorem Wi (ha:PT X a tA):PW X (.BoolOp .And [a] pos) tA:=by
 intro wh pins s U H Q I h;refine isTrue_and (j7 (ha pins s U H Q I h) λc s1 e=>?_);cases c with
 |true=>exact isTrue_and_nil e
 |false=>exact e
theorem Xc (ha:PT X a tA):PW X (.BoolOp .Or [a] pos) tA:=by
 intro wh pins s U H Q I h;refine isTrue_or (j7 (ha pins s U H Q I h) λc s1 e=>?_);cases c with
 |false=>exact isTrue_or_nil e
 |true=>exact e
theorem Wh (ha:PT X a tA)(hb:PW X (.BoolOp .And (b::rest) pos) tB'):PW X (.BoolOp .And (a::b::rest) pos) (tAnd tA tB'):=by
 intro wh pins s U H Q I h;refine isTrue_and (j7 (ha pins s U H _ I h) λc s1 zq=>?_);obtain ⟨H1,I1,q1⟩:=zq;cases c with
 |true=>exact hb wh pins s1 U H1 Q I1 q1
 |false=>exact ⟨H1,I1,q1⟩
theorem wG (ha:PT X a tA)(hb:PW X (.BoolOp .Or (b::rest) pos) tB'):PW X (.BoolOp .Or (a::b::rest) pos) (tOr tA tB'):=by
 intro wh pins s U H Q I h;refine isTrue_or (j7 (ha pins s U H _ I h) λc s1 zq=>?_);obtain ⟨H1,I1,q1⟩:=zq;cases c with
 |true=>exact ⟨H1,I1,q1⟩
 |false=>exact hb wh pins s1 U H1 Q I1 q1
theorem xH (ha:PT X a tA):PT X (.UnaryOp .Not a pos) (tNot tA):=by intro pins s U H Q I h;exact isTrue_not (ha pins s U H (λc H1=>Q (!c) H1) I h)
def Pm (ta tb:TE):TE:=λU H Q=>ta U H λx H1=>∃ c,x = .bl c/\if c=true then tb U H1 Q else Q (.bl false) H1
def Pu (ta:TE):TE:=λU H Q=>ta U H λx H1=>∃ c,x = .bl c/\Q (.bl (!c)) H1
theorem Zg {op}(h:PE X a t):PE X (.BoolOp op [a] pos) t:=λpins s U H Q I hw=>BoolOp_one (h pins s U H Q I hw)
theorem QW (ha:PE X a ta)(hb:PE X (.BoolOp .And (b::rest) pos) tb):PE X (.BoolOp .And (a::b::rest) pos) (Pm ta tb):=by
 intro pins s U H Q I h;refine BoolOp_and (j7 (ha pins s U H _ I h) λv s1 zq=>?_);obtain ⟨x,H1,I1,r1,q1⟩:=zq;obtain ⟨c,rfl,q1⟩:=q1;cases r1;refine wpAny_truthy_bool ?_;cases c with
 |true=>exact hb pins s1 U H1 Q I1 q1
 |false=>exact ⟨.bl false,H1,I1,rfl,q1⟩
theorem Rn (ha:PE X a ta):PE X (.UnaryOp .Not a pos) (Pu ta):=by intro pins s U H Q I h;refine UnaryOp_ (j7 (ha pins s U H _ I h) λv s1 zq=>?_);obtain ⟨x,H1,I1,r1,q1⟩:=zq;obtain ⟨c,rfl,q1⟩:=q1;cases r1;exact not_of (wpAny_truthy_bool ⟨.bl (!c),H1,I1,rfl,q1⟩)
def tIf (t:TT)(ta tb:TE):TE:=λU H Q=>t U H λc H1=>if c=true then ta U H1 Q else tb U H1 Q
theorem wB (hc:PT X c tA)(ha:PE X a ta)(hb:PE X b tb):PE X (.IfExp c a b pos) (tIf tA ta tb):=by
 intro pins s U H Q I h;refine wpAny_IfExp (j7 (hc pins s U H _ I h) λd s1 zq=>?_);obtain ⟨H1,I1,q1⟩:=zq;cases d with
 |true=>exact ha pins s1 U H1 Q I1 q1
 |false=>exact hb pins s1 U H1 Q I1 q1
end
def SqL (K:Fg)(H:Hp)(a:Addr)(xs:List V):Prop :=
 Rd H a (.lst xs) ∨
  ∃ (o:Obj) (its:Array Value) (n:Nat),K.lookup a=some o/\o.cls = .type "list"/\o.dict=none/\o.data = .seq its n/\its.size<=sizeLine/\Vals xs its.toList
def SqT (K:Fg)(H:Hp)(a:Addr)(xs:List V):Prop :=
 Rd H a (.tup xs) ∨
  ∃ (o:Obj) (its:Array Value) (n:Nat),K.lookup a=some o/\o.cls = .type "tuple"/\o.data = .seq its n/\its.size<=sizeLine/\Vals xs its.toList
def absV:Value->Option V
 | .none=>some .non
 | .bool b=>some (.bl b)
 | .int i _=>some (.int i)
 | .str x _=>some (.str x)
 | .bytes b _=>some (.byt b)
 | .float b _=>some (.flt b)
 | .ref a=>some (.ref a)
 | .type n=>some (.ty n)
 |_=>none
theorem RelV.abs {x:V}(r:RelV x u):absV u=some x:=by
 cases x with
 |non=>cases r;rfl
 |bl _=>cases r;rfl
 |int _=>obtain ⟨t,rfl⟩:=r;rfl
 |str _=>obtain ⟨t,rfl⟩:=r;rfl
 |byt _=>obtain ⟨t,rfl⟩:=r;rfl
 |flt _=>obtain ⟨t,rfl⟩:=r;rfl
 |ref _=>cases r;rfl
 |ty _=>cases r;rfl
theorem RelV.inj {x:V}(r:RelV x u)(q:RelV y u):x=y:=Option.some.inj (r.abs.symm.trans q.abs)
theorem Vals.inj:∀{xs ys:List V}{us:List Value},Vals xs us->Vals ys us->xs=ys
 |_,_,_,.nil,.nil=>rfl
 |_,_,_,.cons r t,.cons r' t'=>by rw [r.inj r',Vals.inj t t']
section
variable {X:Cx}{pins:List (Addr×Obj)}{U:St}{H:Hp}{s:Shared}{a:Addr}{xs ys:List V}
theorem SqL.of (h:H a=some (.lst xs)):SqL K H a xs:= .inl (.inl h)
theorem SqT.of (h:H a=some (.tup xs)):SqT K H a xs:= .inl (.inl h)
theorem Inv.list (I:Inv X pins U H s)(h:SqL X.K H a xs):∃ its:List Value,Vals xs its/\PlainL s.heap a its.toArray/\xs.length<=sizeLine:=by
 rcases h with h|⟨o,its,n,hk,hc,hd,hs,hz,r⟩
 ·obtain ⟨z,its,n,r,e⟩:=h.ok I.hok;exact ⟨its,r,⟨_,n,e,rfl,rfl,rfl⟩,z⟩
 ·refine ⟨its.toList,r,⟨o,n,I.kIn a o hk,hc,hd,by simpa using hs⟩,?_⟩;have e:=r.length;simp only [Array.length_toList] at e;omega
theorem Inv.tuple (I:Inv X pins U H s)(h:SqT X.K H a xs):∃ its:List Value,Vals xs its/\IsTup s.heap a its.toArray/\xs.length<=sizeLine:=by
 rcases h with h|⟨o,its,n,hk,hc,hs,hz,r⟩
 ·obtain ⟨z,its,r,p⟩:=h.ok I.hok;exact ⟨its,r,p,z⟩
 ·refine ⟨its.toList,r,⟨o,I.kIn a o hk,hc,n,by simpa using hs⟩,?_⟩;have e:=r.length;simp only [Array.length_toList] at e;omega
theorem Inv.list_inj (I:Inv X pins U H s)(h:SqL X.K H a xs)(h':SqL X.K H a ys):xs=ys:=by
 obtain ⟨its,r,⟨o,n,e,_,_,d⟩,_⟩:=I.list h;obtain ⟨its',r',⟨o',n',e',_,_,d'⟩,_⟩:=I.list h';rw [e] at e';cases e';rw [d] at d';injection d' with d1 _;have:its=its':=by simpa using congrArg Array.toList d1
 subst this;exact r.inj r'
theorem Inv.tuple_inj (I:Inv X pins U H s)(h:SqT X.K H a xs)(h':SqT X.K H a ys):xs=ys:=by
 obtain ⟨its,r,⟨o,e,_,n,d⟩,_⟩:=I.tuple h;obtain ⟨its',r',⟨o',e',_,n',d'⟩,_⟩:=I.tuple h';rw [e] at e';cases e';rw [d] at d';injection d' with d1 _;have:its=its':=by simpa using congrArg Array.toList d1
 subst this;exact r.inj r'
end
abbrev Cx.wish (X:Cx)(E:Value->Shared->Prop):Cx:={ X with xe:=E }
abbrev Cx.nox (X:Cx):Cx:=X.wish λ_ _=>False
theorem Cx.Ok.wish (ok:X.Ok)(E:Value->Shared->Prop):(X.wish E).Ok :=
 ⟨ok.mod,ok.kind,ok.glob,ok.blt,ok.above,ok.inj,ok.has,ok.cab,ok.hd,ok.frames,ok.stk,ok.exf,ok.bs,ok.bsz,ok.noex,ok.exfs,ok.funs,ok.frf,ok.tbs⟩
theorem Cx.Ok.unwish (ok:(X.wish E).Ok):X.Ok :=
 ⟨ok.mod,ok.kind,ok.glob,ok.blt,ok.above,ok.inj,ok.has,ok.cab,ok.hd,ok.frames,ok.stk,ok.exf,ok.bs,ok.bsz,ok.noex,ok.exfs,ok.funs,ok.frf,ok.tbs⟩
section
variable {X:Cx}{pins:List (Addr×Obj)}{U:St}{H:Hp}{s:Shared}{E:Value->Shared->Prop}
theorem Inv.wish (I:Inv X pins U H s)(E:Value->Shared->Prop):Inv (X.wish E) pins U H s:=⟨I.ok.wish E,I.os,I.bare,I.base,I.loc,I.cell,I.free,I.freeC,I.pin,I.hok,I.len⟩
theorem Inv.unwish (I:Inv (X.wish E) pins U H s):Inv X pins U H s:=⟨I.ok.unwish,I.os,I.bare,I.base,I.loc,I.cell,I.free,I.freeC,I.pin,I.hok,I.len⟩
theorem SP.unwish {f:Flow}(h:SP (X.wish E) pins D f s'):SP X pins D f s':=by
 cases f with
 |next=>obtain ⟨σ',H',I,q⟩:=h;exact ⟨σ',H',I.unwish,q⟩
 |brk=>obtain ⟨σ',H',I,q⟩:=h;exact ⟨σ',H',I.unwish,q⟩
 |cont=>obtain ⟨σ',H',I,q⟩:=h;exact ⟨σ',H',I.unwish,q⟩
 |ret u=>obtain ⟨v,σ',H',I,r,q⟩:=h;exact ⟨v,σ',H',I.unwish,r,q⟩
theorem PSs.nox {st:List Stmt}{t:TS}(h:PSs X.nox st t):PSs X st t:=λpins s U H D I hw =>
 wpAny_mono (h pins s U H D (I.wish _) hw) (λ_ _ q=>q.unwish) λ_ _ z=>False.elim z
end
section
variable {X:Cx}{st:Stmt}{rest:List Stmt}{t u:TS}{e:Expr}{te:TE}{pos:Pos}
def Zw:TS:=λD U H=>D.nx U H
def tSeq (t u:TS):TS:=λD U H=>t { D with nx:=u D } U H
theorem m4:PSs X [] Zw:=λ_ _ U H _ I h=>wpAny_execs_nil ⟨U,H,I,h⟩
theorem j0 (h1:PS X st t)(h2:PSs X rest u):PSs X (st::rest) (tSeq t u):=by
 intro pins s U H D I h;refine wpAny_execs_cons (j7 (h1 pins s U H { D with nx:=u D } I h) λf s1 q=>?_);cases f with
 |next=>obtain ⟨σ',H',I',q⟩:=q;exact h2 pins s1 σ' H' D I' q
 |ret v=>exact q
 |brk=>exact q
 |cont=>exact q
theorem j6 (h1:PS X st t):PSs X [st] t:=by
 intro pins s U H D I h;refine wpAny_execs_cons (j7 (h1 pins s U H D I h) λf s1 q=>?_);cases f with
 |next=>exact wpAny_execs_nil q
 |ret v=>exact q
 |brk=>exact q
 |cont=>exact q
theorem Inv.quiet (I:Inv X pins U H s):interactive X.env=false:=by simp [interactive,I.ok.kind]
def xi (te:TE):TS:=λD U H=>te U H λ_ H1=>D.nx U H1
theorem qU (he:PE X e te)(hs:swapsWith e none pos.line X.env=pure false:=by rfl):PS X (.Expr e pos) (xi te):=by intro pins s U H D I h;exact wpAny_Expr_any (j7 (he pins s U H _ I h) λv s1 ⟨x,H1,I1,r1,q1⟩=>⟨U,H1,I1,q1⟩) I.quiet hs
def vt (te:TE):TS:=λD U H=>te U H D.rt
theorem w6 (he:PE X e te):PS X (.Return (some e) pos) (vt te):=by intro pins s U H D I h;exact wpAny_Return_some (j7 (he pins s U H _ I h) λv s1 ⟨x,H1,I1,r1,q1⟩=>⟨x,U,H1,I1,r1,q1⟩)
def vT (c:TT)(t u:TS):TS:=λD U H=>c U H λb H1=>if b=true then t D U H1 else u D U H1
theorem c9 {a b:List Stmt}{tc:TT}(hc:PT X c tc)(ha:PSs X a t)(hb:PSs X b u):PS X (.If c a b pos) (vT tc t u):=by
 intro pins s U H D I h;refine wpAny_If (j7 (hc pins s U H _ I h) λd s1 zq=>?_);obtain ⟨H1,I1,q1⟩:=zq;cases d with
 |true=>exact ha pins s1 U H1 D I1 q1
 |false=>exact hb pins s1 U H1 D I1 q1
def Pt:TS:=λ_ _ _=>False
theorem RG:PS X st Pt:=λ_ _ _ _ _ _ h=>h.elim
end
abbrev TG:=V->St->Hp->(St->Hp->Prop)->Prop
variable{g:TG}
abbrev TGs:=List V->St->Hp->(St->Hp->Prop)->Prop
def PG (X:Cx)(target:Expr)(t:TG):Prop :=
 ∀(pins:List (Addr×Obj))(s:Shared)(U:St)(H:Hp)(v:V)(u:Value)(Q:St->Hp->Prop),Inv X pins U H s->RelV v u->t v U H Q ->
  wpAny (model X.prog X.w) X.A (assign target X.env u) (λ_ s'=>∃ σ' H',Inv X pins σ' H' s'/\Q σ' H') X.xe s
def PGs (X:Cx)(ts:List Expr)(t:TGs):Prop :=
 ∀(pins:List (Addr×Obj))(s:Shared)(U:St)(H:Hp)(vs:List V)(us:List Value)(Q:St->Hp->Prop),Inv X pins U H s->Vals vs us->t vs U H Q ->
  wpAny (model X.prog X.w) X.A (assignInOrder ((assignEach ts X.env).map (·.2)) us) (λ_ s'=>∃ σ' H',Inv X pins σ' H' s'/\Q σ' H') X.xe s
abbrev TSet:=V->V->V->Hp->(Hp->Prop)->Prop
def PSet (X:Cx)(t:TSet):Prop :=
 ∀(pins:List (Addr×Obj))(s:Shared)(U:St)(H:Hp)(o i v:V)(ov iv u:Value)(Q:Hp->Prop),Inv X pins U H s->RelV o ov->RelV i iv->RelV v u->t o i v H Q ->
  wpAny (model X.prog X.w) X.A (setItem ov iv u) (λ_ s'=>∃ H',Inv X pins U H' s'/\Q H') X.xe s
section
variable {X:Cx}{pos:Pos}
def qS (i:Nat):TG:=λv U H Q=>Q (U.set i (some v)) H
theorem r9 {i:Nat}(hN:X.N.Nodup)(hi:X.N[i]?=some x)(hx:Loc X.env.scope x)(hf:X.fn x=true∨X.env.scope.names.lookup x=some .local:=by first|exact .inl rfl|exact .inr rfl|assumption):PG X (.Name x pos) (qS i):=by intro pins s U H v u Q I r h;exact wpAny_assign_Name (Ph I hN hi hx r (λs' I'=>⟨_,H,I',h⟩) hf)
def gNil:TGs:=λvs U H Q=>vs=[]/\Q U H
def Jk (t:TG)(u:TGs):TGs:=λvs U H Q=>∃ v r,vs=v::r/\t v U H λσ' H'=>u r σ' H' Q
theorem wD:PGs X [] gNil:=by intro pins s U H vs us Q I r h;obtain ⟨e,h⟩:=h;subst e;cases r;exact assignInOrder_nil ⟨U,H,I,h⟩
theorem qE {t:TG}{u:TGs}(h1:PG X e t)(h2:PGs X es u)(hs:(assignEach (e::es) X.env).map (·.2)=assign e X.env::(assignEach es X.env).map (·.2):=by rfl):PGs X (e::es) (Jk t u):=by
 intro pins s U H vs us Q I r h;obtain ⟨v,vr,e1,h⟩:=h;subst e1;cases r with
 |cons r rr=>rw [hs];refine assignInOrder_cons (j7 (h1 pins s U H _ _ _ I r h) λ_ s1 zq=>?_);obtain ⟨σ1,H1,I1,q1⟩:=zq;exact h2 pins s1 σ1 H1 _ _ Q I1 rr q1
def gTup (K:Fg)(n:Nat)(t:TGs):TG:=λv U H Q=>∃ a xs,v = .ref a/\SqT K H a xs/\xs.length=n/\t xs U H Q
theorem Rs {k:Nat}{t:TGs}(hc:X.calm=true)(h:PGs X es t)(hn:(assignEach es X.env).length=n:=by rfl)(hst:(assignEach es X.env).findIdx? (·.1)=none:=by rfl):PG X (.Tuple es k pos) (gTup X.K n t):=by intro pins s U H v u Q I r hw;obtain ⟨a,xs,e1,hq,hl,hw⟩:=hw;subst e1;cases r;obtain ⟨its,rv,ht,hz⟩:=I.tuple hq;refine assign_Tuple_tuple (I.ok.hd hc) ht (by simp [hn,<- hl,rv.length]) hst λh' hx=>?_;have I1:Inv X pins U H { s with heap:=h' }:=I.kept (t':=s.toks) λb o e=>hx b o (yF (yQ e)) e;exact h pins _ U H xs _ Q I1 (by simpa using rv) hw
def gSub (to ti:TE)(t:TSet):TG:=λv U H Q=>to U H λo H1=>ti U H1 λi H2=>t o i v H2 λH3=>Q U H3
theorem Rr {o i:Expr}{to ti:TE}{t:TSet}(ho:PE X o to)(hi:PE X i ti)(hs:PSet X t)
  (ha:∀ v,assign (.Subscript o i pos) X.env v=(do
   let ov <- holding [v] (eval o X.env)
   let iv <- holding [v,ov] (eval i X.env)
   standAt pos
   holding [v,ov,iv] (setItem ov iv v)
   release [v,ov,iv] []):=by intro _;rfl):PG X (.Subscript o i pos) (gSub to ti t):=by
 intro pins s U H v u Q I r h;rw [ha];refine yY (wpAny_holding (j7 (ho pins s U H _ I h) λov s1 zq=>?_));obtain ⟨x,H1,I1,r1,q1⟩:=zq;refine yY (wpAny_holding (j7 (hi pins s1 U H1 _ I1 q1) λiv s2 zq=>?_));obtain ⟨y,H2,I2,r2,q2⟩:=zq;refine yY (wpAny_standAt (yY (wpAny_holding (j7 (hs pins s2 U H2 x y v ov iv u _ I2 r1 r2 r q2) λ_ s3 zq=>?_))));obtain ⟨H3,I3,q3⟩:=zq;exact wpAny_release ⟨U,H3,I3,q3⟩
def xS (te:TE)(g:TG):TS:=λD U H=>te U H λx H1=>g x U H1 D.nx
theorem JN (he:PE X e te)(hg:PG X tg g)(hs:swapsWithSole [tg] e pos.line X.env=pure false:=by rfl)(hw:swappedStores [tg] e X.env=pure none:=by rfl)(h1:(assignEach [tg] X.env).map (·.2)=[assign tg X.env]:=by rfl):PS X (.Assign [tg] e pos) (xS te g):=by intro pins s U H D I h;refine wpAny_Assign_stores (j7 (he pins s U H _ I h) λv s1 zq=>?_) hs hw;obtain ⟨x,H1,I1,r1,q1⟩:=zq;rw [h1];exact j7 (hg pins s1 U H1 x v _ I1 r1 q1) λ_ s2 q=>q
theorem qh {i:Nat}{x:Str}{e:Expr}{te:TE}{pos':Pos}(hN:X.N.Nodup)(hi:X.N[i]?=some x)(hx:Loc X.env.scope x)(he:PE X e te)(hs:swapsWith e (some (.Name x pos')) pos.line X.env=pure false:=by rfl)(hf:X.fn x=true∨X.env.scope.names.lookup x=some .local:=by first|exact .inl rfl|exact .inr rfl|assumption):PS X (.Assign [.Name x pos'] e pos) (xS te (qS i)):=by intro pins s U H D I h;refine wpAny_Assign_Name (j7 (he pins s U H _ I h) λv s1 zq=>?_) hs;obtain ⟨y,H1,I1,r1,q1⟩:=zq;exact Ph I1 hN hi hx r1 (λs2 I2=>⟨_,H1,I2,q1⟩) hf
end
structure It where
 go:Nat->Hp->Prop
 yld:Nat->Hp->V->Hp->Prop
 stop:Nat->Hp->Prop
def xM (X:Cx)(pins:List (Addr×Obj))(H:Hp)(b:Addr):Prop :=
 H b=none/\b≠X.env.locals/\b∉X.fs/\(b∈X.ex∨X.s₀.heap.objs.size<=b)/\(∀ x c,X.env.cells.lookup x=some c->c≠b)/\∀ p∈X.pn++pins,p.1≠b
theorem Inv.fpOk (I:Inv X pins U H s)(hb:s.heap.objs.size<=b)(hn:H' b=none):xM X pins H' b:=by
 refine ⟨hn,Nat.ne_of_gt (yA I.lt hb),I.nofs hb,.inr (ye I.sz hb),λx c e z=>?_,λp hp z=>?_⟩
 ·obtain ⟨v,q⟩:=I.cell x c e;exact absurd (yA q.lt (by rw [z];exact hb)) (uS _)
 ·exact absurd (yA (yQ (I.pin p hp).1) (by rw [z];exact hb)) (uS _)
structure jQ (P:Program)(w:World)(K:Fg)(tg:Expr)(J:It)(fp:List Addr)(it:Addr)(tn:Nat->Heap->Prop):Prop where
 mem:it∈fp
 obj:∀ i h,tn i h->∀ b∈fp,∃ o,h.get? b=some o/\∀ v,o.data ≠ .cell v
 keep:∀ i h h',tn i h->(∀ b∈fp,∀ o,h.get? b=some o->h'.get? b=some o)->tn i h'
 item:∀(X:Cx),X.prog=P->X.w=w->X.K=K->X.calm=true->∀(i:Nat)(pins:List (Addr×Obj))(s:Shared)(U:St)(H:Hp)(E:Value->Shared->Prop),Inv X pins U H s->(∀ b∈fp,xM X pins H b)->tn i s.heap->J.go i H ->
  wpAny (model P w) X.A (pyNext (.ref it)) (λr s1=>∃ u,r=some u /\
   wpAny (model P w) X.A (letOwnedTupleGo tg (.ref it) u) (λ_ s2=>∃ x H',Inv X pins U H' s2/\RelV x u/\J.yld i H x H'/\tn (i+1) s2.heap/\∀ b∈fp,H' b=none) E s1) E s
 done:∀(X:Cx),X.prog=P->X.w=w->X.K=K->X.calm=true->∀(i:Nat)(pins:List (Addr×Obj))(s:Shared)(U:St)(H:Hp)(E:Value->Shared->Prop),Inv X pins U H s->(∀ b∈fp,xM X pins H b)->tn i s.heap->J.stop i H ->
  wpAny (model P w) X.A (pyNext (.ref it)) (λr s1=>r=none/\Inv X pins U H s1) E s
 self:∀(A:Around)(i:Nat)(s:Shared)(Q:Value->Shared->Prop)(E:Value->Shared->Prop),tn i s.heap->Q (.ref it) s->wpAny (model P w) A (pyIter (.ref it)) Q E s
abbrev TI:=St->Hp->(It->Hp->Prop)->Prop
def PIE (X:Cx)(pins:List (Addr×Obj))(U:St)(tg:Expr)(R:It->Hp->Prop)(itv:Value)(s2:Shared):Prop :=
 ∃(it:Addr)(fp:List Addr)(tn:Nat->Heap->Prop)(J:It)(H':Hp),itv = .ref it/\Inv X pins U H' s2/\jQ X.prog X.w X.K tg J fp it tn/\tn 0 s2.heap/\(∀ b∈fp,xM X pins H' b)/\R J H'
def PI (X:Cx)(tg iter:Expr)(wi:TI):Prop :=
 ∀(pins:List (Addr×Obj))(s:Shared)(U:St)(H:Hp)(R:It->Hp->Prop),Inv X pins U H s->wi U H R ->
  wpAny (model X.prog X.w) X.A (eval iter X.env) (λv s1=>wpAny (model X.prog X.w) X.A (pyIter v) (PIE X pins U tg R) X.xe s1) X.xe s
theorem Jl {M:Model}{o:Obj}{n:String}{vs:Array Value}{Q:Unit->Shared->Prop}(ho:s.heap.get? it=some o)(hc:o.cls = .type n)(hd:o.data = .fields vs)(hn:["enumerate","zip","dict_itemiterator","dict_reverseitemiterator","odict_iterator","itertools.zip_longest","itertools.pairwise"].contains n=false)(hQ:Q () s):wpAny M A (letOwnedTupleGo tg (.ref it) u) Q E s:=by
  unfold letOwnedTupleGo;cases tg<;>first
    |exact yN hQ
    | (cases u <;> first
        |exact yN hQ
        | (refine yY (wpAny_load ho ?_)
           rw [hc,hd];show wpAny M A (if (["enumerate","zip","dict_itemiterator","dict_reverseitemiterator","odict_iterator","itertools.zip_longest","itertools.pairwise"].contains n&&vs[0]?==some (rawInt _))=true then _ else _) Q E s;rw [if_neg (by intro h;rw [hn,Bool.false_and] at h;cases h)];exact yN hQ))
def Itl (K:Fg)(a:Addr):It :=
 ⟨λi H=>∃ xs x,SqL K H a xs/\xs[i]?=some x,λi H x H'=>H'=H/\∀ xs,SqL K H a xs->xs[i]?=some x,λi H=>∃ xs,SqL K H a xs/\xs.length<=i⟩
def Itr (lo:Int)(n:Nat):It:=⟨λi _=>i<n,λi H x H'=>H'=H/\x = .int (lo+i),λi _=>n<=i⟩
theorem SG (a it:Addr):jQ P w K tg (Itl K a) [it] it (λi h=>h.IsListIter it a i) where
 mem:=by simp
 obj:=λi h st b hb=>by
  have e:b=it:=by simpa using hb
  subst e;obtain ⟨o,e,c,d⟩:=st;exact ⟨o,e,λv z=>by rw [d] at z;cases z⟩
 keep:=λi h h' st k=>st.at λo e=>k it (by simp) o e
 item:=by intro X hP hw hK hc i pins s U H E I hf st hg;subst hP hw hK;obtain ⟨xs,x,hq,hx⟩:=hg;obtain ⟨its,rv,p,hz⟩:=I.list hq;obtain ⟨u,hu,ru⟩:=rv.get hx;obtain ⟨f0,f1,f2,f3,f4,f5⟩:=hf it (by simp);refine wpAny_pyNext_list_item st p.isList (x:=u) (by simpa using hu) λh' st' sb=>?_;have I1:Inv X pins U H { s with heap:=h' }:=I.turned (t':=s.toks) (λb o hb e=>(sb.2 b hb).trans e) f0 f1 f3 f4 f5;obtain ⟨o,e,c,d⟩:=id st';exact ⟨u,rfl,Jl (s:={ s with heap:=h' }) e c d (by decide) ⟨x,H,I1,ru,⟨rfl,λys hy=>by rw [I.list_inj hy hq];exact hx⟩,st',λb hb=>(hf b hb).1⟩⟩
 done:=by intro X hP hw hK hc i pins s U H E I hf st hg;subst hP hw hK;obtain ⟨xs,hq,hx⟩:=hg;obtain ⟨its,rv,p,hz⟩:=I.list hq;obtain ⟨f0,f1,f2,f3,f4,f5⟩:=hf it (by simp);have hl:=rv.length;exact wpAny_pyNext_list_end (I.ok.hd hc) st p.isList (by simp;omega) λh' eb=>⟨rfl,I.turned (t':=s.toks) (λb o hb e=>eb b o hb e) f0 f1 f3 f4 f5⟩
 self:=λ_ _ _ _ _ st h=>wpAny_pyIter_listiter st h
theorem SH (it:Addr)(lo:Int)(n:Nat):jQ P w K tg (Itr lo n) [it] it (λi h=>IsRangeIter h it (lo+(i:Nat)*1) ((n:Int)-(i:Nat)) 1) where
 mem:=by simp
 obj:=λi h st b hb=>by
  have e:b=it:=by simpa using hb
  subst e;exact ⟨_,st,λv z=>by
   have z':Data.fields _=Data.cell v:=z;cases z'⟩
 keep:=λi h h' st k=>k it (by simp) _ st
 item:=by intro X hP hw hK hc i pins s U H E I hf st hg;subst hP hw hK;obtain ⟨f0,f1,f2,f3,f4,f5⟩:=hf it (by simp);have W:=Walks.range (prog:=X.prog) (w:=X.w) (I.ok.hd hc) it lo 1 n;refine W.item i s _ _ hg st λv h' tk hv st' kk=>?_;obtain ⟨t,rfl⟩:=hv;have I1:Inv X pins U H { s with heap:=h',toks:=tk }:=I.turned (λb o hb e=>kk b o (by simpa using hb) e) f0 f1 f3 f4 f5;refine ⟨_,rfl,Jl (s:={ s with heap:=h',toks:=tk }) (n:="range_iterator") st' rfl rfl (by decide) ⟨.int (lo+i),H,I1,⟨t,?_⟩,⟨rfl,rfl⟩,st',λb hb=>(hf b hb).1⟩⟩;rw [Int.mul_one]
 done:=by intro X hP hw hK hc i pins s U H E I hf st hg;subst hP hw hK;obtain ⟨f0,f1,f2,f3,f4,f5⟩:=hf it (by simp);exact wpAny_pyNext_range_end (I.ok.hd hc) st (by have:n<=i:=hg;omega) λh' eb=>⟨rfl,I.turned (t':=s.toks) (λb o hb e=>eb b o hb e) f0 f1 f3 f4 f5⟩
 self:=λ_ _ _ _ _ st h=>wpAny_pyIter_rangeiter st h
section
variable {X:Cx}{tg:Expr}
def XI (K:Fg)(tl:TE):TI:=λU H R=>tl U H λx H1=>∃ a,x = .ref a/\(∃ xs,SqL K H1 a xs)/\R (Itl K a) H1
theorem Ru {l:Expr}{tl:TE}(hl:PE X l tl):PI X tg l (XI X.K tl):=by
 intro pins s U H R I h;refine j7 (hl pins s U H _ I h) λv s1 zq=>?_;obtain ⟨x,H1,I1,r1,q1⟩:=zq;obtain ⟨a,e,⟨xs,hq⟩,q⟩:=q1;subst e;cases r1;obtain ⟨its,rv,p,hz⟩:=I1.list hq;refine wpAny_pyIter_list p.isList ?_;refine ⟨s1.heap.objs.size,[s1.heap.objs.size],_,_,H1,rfl,I1.kept (t':=s1.toks) λb o e=>yW _ e,SG a _,⟨_,yC _ rfl,rfl,rfl⟩,λb hb=>?_,q⟩;have e:b=s1.heap.objs.size:=by simpa using hb
 subst e;exact I1.fpOk (yT _) (I1.hok.fresh (yT _))
theorem RT {R:It->Hp->Prop}{hi:Int}{t u v:Tok}{tk:Nat}(I:Inv X pins U H s)(h1:-(2 ^ 62)<=lo)(h2:lo<2 ^ 62)(h3:-(2 ^ 62)<=hi)(h4:hi<2 ^ 62)(q:R (Itr lo (hi-lo).toNat) H):wpAny (model X.prog X.w) X.A (pyIter (.ref s.heap.objs.size)) (PIE X pins U tg R) E { s with heap:=s.heap.push { cls:= .type "range",data:= .fields #[.int lo t,.int hi u,.int 1 v] },toks:=tk }:=by
 refine wpAny_pyIter_range (IsRange.new ..) (small_one h1 h2 h3 h4) ?_;have I1:Inv X pins U H { s with heap:=s.heap.push { cls:= .type "range",data:= .fields #[.int lo t,.int hi u,.int 1 v] },toks:=tk }:=I.kept λb o e=>yW _ e;refine ⟨(s.heap.push { cls:= .type "range",data:= .fields #[.int lo t,.int hi u,.int 1 v] }).objs.size,[(s.heap.push { cls:= .type "range",data:= .fields #[.int lo t,.int hi u,.int 1 v] }).objs.size],_,_,H,rfl,
  I1.kept (t':=tk) λb o e=>yW _ e,SH _ lo (hi-lo).toNat,?_,λb hb=>?_,q⟩
 ·have e1:lo+((0:Nat):Int)*1=lo:=by simp
  have e2:(((hi-lo).toNat:Nat):Int)-((0:Nat):Int)=Builtin.Range.rangeSize lo hi 1:=by rw [rangeSize_one];split<;>omega
  show IsRangeIter _ _ (lo+((0:Nat):Int)*1) ((((hi-lo).toNat:Nat):Int)-((0:Nat):Int)) 1;rw [e1,e2];exact yC _ rfl
 ·have e:b=(s.heap.push { cls:= .type "range",data:= .fields #[.int lo t,.int hi u,.int 1 v] }).objs.size:=by simpa using hb
  subst e;exact I1.fpOk (yT _) (I1.hok.fresh (yT _))
def Ko (ta:TA):TI:=λU H R=>ta U H λvs H1=>∃ j:Int,vs=[.int j]/\-(2 ^ 62)<=j/\j<2 ^ 62/\R (Itr 0 j.toNat) H1
theorem QZ {a:Expr}{ta:TA}{p:Pos}(hg:Gl X "range")(hm:X.mg "range"=none)(ha:PA X [a] ta)(hs:starEach [a] X.env=[(false,eval a X.env)]:=by rfl):PI X tg (.Call (.Name "range" p) [a] [] pos) (Ko ta):=by
 intro pins s U H R I h;refine Call_ (wm I hg hm boot_range (PyProof.Rows.callWith_type1 (j7 (ha pos pins s U H _ I h) λus s1 zq=>?_) hs rfl));obtain ⟨vs,H1,I1,r1,q1⟩:=zq;obtain ⟨j,e,q1,q2,q⟩:=q1;subst e;cases r1 with
 |cons r rr=>cases rr;obtain ⟨t,rfl⟩:=r;exact call_range_1 (RT I1 (by omega) (by omega) q1 q2 (by simpa using q))
def tFor (wi:TI)(g:TG)(tb:TS):TS:=λD U H=>wi U H λJ H1=>∃ W:Nat->Nat->St->Hp->Prop,(∃ m,W 0 m U H1)/\∀ i m U H,W i m U H ->
 (J.stop i H/\D.nx U H)∨(J.go i H/\∃ N:St->Hp->Prop,(∀ σ' H',N σ' H'->∃ m',m'<m/\W (i+1) m' σ' H')/\∀ x H',J.yld i H x H'->g x U H' λσ2 H2=>tb { D with nx:=N,ct:=N,bk:=D.nx } σ2 H2)
def Zi (fp:List Addr)(h:Heap):List (Addr×Obj):=fp.filterMap λb=>(h.get? b).map λo=>(b,o)
theorem JB {o:Obj}(hb:b∈fp)(e:h.get? b=some o):(b,o)∈Zi fp h:=ya.mpr ⟨b,hb,by rw [e];rfl⟩
theorem No {p:Addr×Obj}(hp:p∈Zi fp h):p.1∈fp/\h.get? p.1=some p.2:=by
 obtain ⟨b,hb,e⟩:=ya.mp hp;cases q:h.get? b with
 |none=>rw [q] at e;cases e
 |some o=>rw [q] at e;have e':(b,o)=p:=Option.some.inj e;subst e';exact ⟨hb,q⟩
theorem Inv.pinned (I:Inv X pins U H s)(hf:∀ b∈fp,xM X pins H b)(ho:∀ b∈fp,∃ o,s.heap.get? b=some o/\∀ v,o.data ≠ .cell v):Inv X (pins++Zi fp s.heap) U H s :=
 I.pins_of λp hp=>(yy.mp hp).elim (λz=>I.pin p (yt _ z)) λz=>by
  obtain ⟨hb,e⟩:=No z;obtain ⟨f0,f1,f2,_⟩:=hf p.1 hb;obtain ⟨o,e',d⟩:=ho p.1 hb;rw [e] at e';cases e';exact ⟨e,f0,f1,f2,d⟩
theorem Inv.unpinned {pl:List (Addr×Obj)}(I:Inv X (pins++pl) U H s):Inv X pins U H s:=I.pins_of λp hp=>I.pin p (yt _ (yc _ hp))
theorem vk {iter:Expr}{wi:TI}(hp:PassesOwn (model X.prog X.w) X.A X.env X.xe)(hc:X.calm=true)(hi:PI X tg iter wi)(hg:PG X tg g)(hb:PSs X body tb)(hs:∀ x,foldedSetIterable iter X.env x=pure x:=by intro _;rfl):PS X (.For tg iter body [] pos) (tFor wi g tb):=by
 intro pins s U H D I h;refine wpAny_For (j7 (hi pins s U H _ I h) λv s1 h1=>j7 h1 λitv s2 h2=>?_) hs;obtain ⟨it,fp,tn,J,H2,e,I2,T,st2,f2,W,⟨m0,w0⟩,turn⟩:=h2;subst e
 -- what stays true of the iterator's objects through the loop
 have stat:∀{H':Hp},(∀ b∈fp,H' b=none)->∀ b∈fp,xM X pins H' b:=λhn b hb=>⟨hn b hb,(f2 b hb).2⟩;refine codeAny_forLoop_any (λn s'=>∃ i σ' H',Inv X pins σ' H' s'/\tn i s'.heap/\(∀ b∈fp,H' b=none)/\W i n σ' H') ?_ m0 ⟨0,U,H2,I2,st2,λb hb=>(f2 b hb).1,w0⟩;rintro n s3 ⟨i,σ3,H3,I3,st3,fr3,w3⟩;rcases turn i n σ3 H3 w3 with ⟨stop,qn⟩|⟨go,N,hN,step⟩
 ·refine wpAny_passesOwn hp (j7 (T.done X rfl rfl rfl hc i pins s3 σ3 H3 X.xe I3 (stat fr3) st3 stop) λr s4 zq=>?_);obtain ⟨hr,I4⟩:=zq;subst hr;exact wpAny_execs_nil ⟨σ3,H3,I4,qn⟩
 ·refine wpAny_passesOwn hp (j7 (T.item X rfl rfl rfl hc i pins s3 σ3 H3 X.xe I3 (stat fr3) st3 go) λr s4 zq=>?_);obtain ⟨u,hr,h4⟩:=zq;subst hr;refine wpAny_passesOwn hp (j7 h4 λ_ s5 zq=>?_);obtain ⟨x,H5,I5,r5,y5,st5,fr5⟩:=zq;have I5':=I5.pinned (stat fr5) (T.obj _ _ st5);refine wpAny_passesOwn hp (j7 (hg _ s5 σ3 H5 x u _ I5' r5 (step x H5 y5)) λ_ s6 zq=>?_);obtain ⟨σ6,H6,I6,q6⟩:=zq;refine wpAny_passesOwn hp (j7 (hb _ s6 σ6 H6 _ I6 q6) λf s7 q7=>?_);have again:∀{σ7:St}{H7:Hp},Inv X (pins++Zi fp s5.heap) σ7 H7 s7->N σ7 H7->∃ m,m<n/\∃ i σ' H',Inv X pins σ' H' s7/\tn i s7.heap/\(∀ b∈fp,H' b=none)/\W i m σ' H':=λ{σ7 H7} I7 n7=>by
   obtain ⟨m',hm,w7⟩:=hN σ7 H7 n7;refine ⟨m',hm,i+1,σ7,H7,I7.unpinned,T.keep _ _ _ st5 λb hb o e=>(I7.pin (b,o) (yt _ (yt _ (JB hb e)))).1,λb hb=>?_,w7⟩;obtain ⟨o,e,d⟩:=T.obj _ _ st5 b hb;exact (I7.pin (b,o) (yt _ (yt _ (JB hb e)))).2.1
  cases f with
  |next=>obtain ⟨σ7,H7,I7,n7⟩:=q7;exact again I7 n7
  |cont=>obtain ⟨σ7,H7,I7,n7⟩:=q7;exact again I7 n7
  |brk=>obtain ⟨σ7,H7,I7,q7⟩:=q7;exact ⟨σ7,H7,I7.unpinned,q7⟩
  |ret v=>obtain ⟨x7,σ7,H7,I7,r7,q7⟩:=q7;exact ⟨x7,σ7,H7,I7.unpinned,r7,q7⟩
end
theorem Ke (Pv:Nat->St->Hp->Prop)(h0:Pv 0 U H)(hs:∀ i U H,i<n->Pv i U H->g (.int (lo+i)) U H λσ2 H2=>tb { D with nx:=Pv (i+1),ct:=Pv (i+1),bk:=D.nx } σ2 H2)(hd:∀ U H,Pv n U H->D.nx U H):∃ W:Nat->Nat->St->Hp->Prop,(∃ m,W 0 m U H)/\∀ i m U H,W i m U H -> ((Itr lo n).stop i H/\D.nx U H)∨((Itr lo n).go i H/\∃ N:St->Hp->Prop,(∀ σ' H',N σ' H'->∃ m',m'<m/\W (i+1) m' σ' H')/\∀ x H',(Itr lo n).yld i H x H'->g x U H' λσ2 H2=>tb { D with nx:=N,ct:=N,bk:=D.nx } σ2 H2):=by
 refine ⟨λi m U H=>m=n-i/\i<=n/\Pv i U H,⟨n,by simp,yd _,h0⟩,?_⟩;rintro i m U H ⟨rfl,hi,p⟩;by_cases hlt:i<n
 ·refine .inr ⟨hlt,Pv (i+1),λσ' H' p'=>⟨n-(i+1),by omega,rfl,hlt,p'⟩,λx H' y=>?_⟩;obtain ⟨e,y⟩:=y;subst e y;exact hs i U _ hlt p
 ·have e:i=n:=by omega
  subst e;exact .inl ⟨yT _,hd U H p⟩
abbrev R2:=V->V->Hp->VK->Prop
variable{r r':R2}
def OpR (X:Cx)(f:Value->Value->Sem Value)(r:R2):Prop :=
 ∀(pins:List (Addr×Obj))(s:Shared)(U:St)(H:Hp)(x y:V)(v u:Value)(Q:VK),Inv X pins U H s->RelV x v->RelV y u->r x y H Q ->
  wpAny (model X.prog X.w) X.A (f v u) (EP X pins U Q) X.xe s
def UnR (X:Cx)(f:Value->Sem Value)(r:V->Hp->VK->Prop):Prop :=
 ∀(pins:List (Addr×Obj))(s:Shared)(U:St)(H:Hp)(x:V)(v:Value)(Q:VK),Inv X pins U H s->RelV x v->r x H Q ->
  wpAny (model X.prog X.w) X.A (f v) (EP X pins U Q) X.xe s
def CallR (X:Cx)(f:Value)(r:List V->Hp->VK->Prop):Prop :=
 ∀(pins:List (Addr×Obj))(s:Shared)(U:St)(H:Hp)(xs:List V)(us:List Value)(Q:VK),Inv X pins U H s->Vals xs us->r xs H Q ->
  wpAny (model X.prog X.w) X.A (call f us) (EP X pins U Q) X.xe s
def TruR (X:Cx)(r:V->Hp->(Bool->Hp->Prop)->Prop):Prop :=
 ∀(pins:List (Addr×Obj))(s:Shared)(U:St)(H:Hp)(x:V)(v:Value)(Q:Bool->Hp->Prop),Inv X pins U H s->RelV x v->r x H Q ->
  wpAny (model X.prog X.w) X.A (truthy v) (TP X pins U Q) X.xe s
def tOp (r:R2)(ta tb:TE):TE:=λU H Q=>ta U H λx H1=>tb U H1 λy H2=>r x y H2 Q
def tUn (r:V->Hp->VK->Prop)(ta:TE):TE:=λU H Q=>ta U H λx H1=>r x H1 Q
def rI (C:Int->Int->Prop)(g:Int->Int->V):R2:=λx y H Q=>∃ i j,x = .int i/\y = .int j/\C i j/\Q (g i j) H
def rI0 (g:Int->Int->V):R2:=λx y H Q=>∃ i j,x = .int i/\y = .int j/\Q (g i j) H
def rU (g:Int->V):V->Hp->VK->Prop:=λx H Q=>∃ i,x = .int i/\Q (g i) H
section
variable {X:Cx}{a b c:Expr}{ta tb tc:TE}{pos:Pos}
theorem binT (ha:PE X a ta)(hb:PE X b tb)(I:Inv X pins U H s)(h:ta U H λx H1=>tb U H1 λy H2=>R x y H2)(hf:∀ v u s2 x y H2,Inv X pins U H2 s2->RelV x v->RelV y u->R x y H2->wpAny (model X.prog X.w) X.A (f v u) Q X.xe s2):wpAny (model X.prog X.w) X.A (eval a X.env) (λv s₁=>wpAny (model X.prog X.w) X.A (eval b X.env) (λu s₂=>wpAny (model X.prog X.w) X.A (f v u) Q X.xe s₂) X.xe s₁) X.xe s:=by refine j7 (ha pins s U H _ I h) λv s1 zq=>?_;obtain ⟨x,H1,I1,r1,q1⟩:=zq;refine j7 (hb pins s1 U H1 _ I1 q1) λu s2 zq=>?_;obtain ⟨y,H2,I2,r2,q2⟩:=zq;exact hf v u s2 x y H2 I2 r1 r2 q2
theorem v7 {op:Operator}(ho:OpR X (binaryOp op) r)(ha:PE X a ta)(hb:PE X b tb):PE X (.BinOp a op b pos) (tOp r ta tb):=by intro pins s U H Q I h;exact wpAny_BinOp (binT ha hb I h λv u s2 x y H2 I2 rx ry q=>ho pins s2 U H2 x y v u Q I2 rx ry q)
theorem Zh {op:UnaryOp}{r:V->Hp->VK->Prop}(ho:UnR X (unaryOp op) r)(ha:PE X a ta):PE X (.UnaryOp op a pos) (tUn r ta):=by intro pins s U H Q I h;exact UnaryOp_ (j7 (ha pins s U H _ I h) λv s1 ⟨x,H1,I1,r1,q1⟩=>ho pins s1 U H1 x v Q I1 r1 q1)
theorem opI {C:Int->Int->Prop}{g:Int->Int->Int}(rule:∀(i j:Int)(t u:Tok)(s:Shared)(Q:Value->Shared->Prop)(E:Value->Shared->Prop),C i j->Q (.int (g i j) s.toks) { s with toks:=s.toks+1 }->wpAny (model X.prog X.w) X.A (f (.int i t) (.int j u)) Q E s):OpR X f (rI C λi j=> .int (g i j)):=by intro pins s U H x y v u Q I rx ry h;obtain ⟨i,j,rfl,rfl,hc,q⟩:=h;obtain ⟨t,rfl⟩:=rx;obtain ⟨t',rfl⟩:=ry;exact rule i j t t' s _ _ hc ⟨.int (g i j),H,I.tok _,⟨_,rfl⟩,q⟩
theorem opI0 {g:Int->Int->Int}(rule:∀(i j:Int)(t u:Tok)(s:Shared)(Q:Value->Shared->Prop)(E:Value->Shared->Prop),Q (.int (g i j) s.toks) { s with toks:=s.toks+1 }->wpAny (model X.prog X.w) X.A (f (.int i t) (.int j u)) Q E s):OpR X f (rI0 λi j=> .int (g i j)):=by intro pins s U H x y v u Q I rx ry h;obtain ⟨i,j,rfl,rfl,q⟩:=h;obtain ⟨t,rfl⟩:=rx;obtain ⟨t',rfl⟩:=ry;exact rule i j t t' s _ _ ⟨.int (g i j),H,I.tok _,⟨_,rfl⟩,q⟩
theorem opB0 {g:Int->Int->Bool}(rule:∀(i j:Int)(t u:Tok)(s:Shared)(Q:Value->Shared->Prop)(E:Value->Shared->Prop),Q (.bool (g i j)) s->wpAny (model X.prog X.w) X.A (f (.int i t) (.int j u)) Q E s):OpR X f (rI0 λi j=> .bl (g i j)):=by intro pins s U H x y v u Q I rx ry h;obtain ⟨i,j,rfl,rfl,q⟩:=h;obtain ⟨t,rfl⟩:=rx;obtain ⟨t',rfl⟩:=ry;exact rule i j t t' s _ _ ⟨.bl (g i j),H,I,rfl,q⟩
def jm (i j:Int):Prop:=0<=j/\j<=1000000/\i.natAbs<2 ^ 64
def CMul (i j:Int):Prop:=(-(2 ^ 64)<i/\i<2 ^ 64)∨(-(2 ^ 64)<j/\j<2 ^ 64)
theorem CMul.ok {i j:Int}(h:CMul i j):IntMulOk i j:=by
 rcases h with ⟨h1,h2⟩|⟨h1,h2⟩
 ·exact .of_left (intBits_le_64 h1 h2)
 ·exact .of_right (intBits_le_64 h1 h2)
theorem op_add:OpR X (binaryOp .Add) (rI0 λi j=> .int (i+j)):=opI0 λ_ _ _ _ _ _ _ q=>add_int q
theorem zZ:OpR X (binaryOp .Sub) (rI0 λi j=> .int (i-j)):=opI0 λ_ _ _ _ _ _ _ q=>sub_int q
theorem vP:OpR X (binaryOp .Mult) (rI CMul λi j=> .int (i*j)):=opI λ_ _ _ _ _ _ _ hc q=>mul_int q hc.ok
theorem zX:OpR X (binaryOp .Mod) (rI (λ_ j=>0<j) λi j=> .int (i % j)):=opI λi j _ _ _ _ _ hc q=>by
 have h1:(0:Int)<j:=hc;exact mod_int' (by omega) (by rw [Int.fmod_eq_emod_of_nonneg i (by omega)];exact q)
theorem zY:OpR X (binaryOp .Pow) (rI jm λi j=> .int (i ^ j.toNat)):=opI λ_ _ _ _ _ _ _ hc q=>pow_int_small hc.1 hc.2.1 hc.2.2 q
theorem unI {f:Value->Sem Value}{g:Int->Int}(rule:∀(i:Int)(t:Tok)(s:Shared)(Q:Value->Shared->Prop)(E:Value->Shared->Prop),Q (.int (g i) s.toks) { s with toks:=s.toks+1 }->wpAny (model X.prog X.w) X.A (f (.int i t)) Q E s):UnR X f (rU λi=> .int (g i)):=by intro pins s U H x v Q I rx h;obtain ⟨i,rfl,q⟩:=h;obtain ⟨t,rfl⟩:=rx;exact rule i t s _ _ ⟨.int (g i),H,I.tok _,⟨_,rfl⟩,q⟩
theorem Zz:UnR X (unaryOp .USub) (rU λi=> .int (-i)):=unI λ_ _ _ _ _ q=>neg_int q
end
section
variable {X:Cx}{a b c:Expr}{ta tb tc:TE}{pos:Pos}
theorem VB {Q:VK}{k k':Bool}(I:Inv X pins U H s)(q:Q (.bl k) H)(e:k=k'):EP X pins U Q (.bool k') s:=by subst e;exact ⟨.bl k,H,I,rfl,q⟩
theorem QR:OpR X (compareOp .Lt) (rI0 λi j=> .bl (decide (i<j))):=opB0 λ_ _ _ _ _ _ _ q=>lt_int q
theorem JE:OpR X (compareOp .LtE) (rI0 λi j=> .bl (decide (i<=j))):=opB0 λ_ _ _ _ _ _ _ q=>le_int q
theorem Bc:OpR X (compareOp .Gt) (rI0 λi j=> .bl (decide (j<i))):=opB0 λ_ _ _ _ _ _ _ q=>gt_int q
theorem QQ:OpR X (compareOp .GtE) (rI0 λi j=> .bl (decide (j<=i))):=opB0 λ_ _ _ _ _ _ _ q=>ge_int q
theorem HQ:OpR X (compareOp .Is) (λx y H Q=>y = .non/\Q (.bl (decide (x = .non))) H):=by
 intro pins s U H x y v u Q I rx ry h;obtain ⟨rfl,q⟩:=h;cases ry;refine is_none_gen (VB I q ?_);cases x<;>first
  |(cases rx;rfl)
  |(obtain ⟨t,rfl⟩:=rx;rfl)
theorem HZ:OpR X (compareOp .IsNot) (λx y H Q=>y = .non/\Q (.bl (!decide (x = .non))) H):=by
 intro pins s U H x y v u Q I rx ry h;obtain ⟨rfl,q⟩:=h;cases ry;refine isnot_none_gen (VB I q ?_);cases x<;>first
  |(cases rx;rfl)
  |(obtain ⟨t,rfl⟩:=rx;rfl)
theorem OpR.or (h:OpR X f r)(h':OpR X f r'):OpR X f (λx y H Q=>r x y H Q∨r' x y H Q):=by
 intro pins s U H x y v u Q I rx ry q;rcases q with q|q
 ·exact h pins s U H x y v u Q I rx ry q
 ·exact h' pins s U H x y v u Q I rx ry q
theorem c5 (b:Expr)(h:op ≠ .In:=by decide)(h2:op ≠ .NotIn:=by decide):behindInMarks op b=false:=by
 have e1:(op==CmpOp.In)=false:=by cases op<;>first|rfl|exact absurd rfl h
 have e2:(op==CmpOp.NotIn)=false:=by cases op<;>first|rfl|exact absurd rfl h2
 cases b<;>simp [behindInMarks,e1,e2]
theorem QX (ho:OpR X (compareOp op) r)(ha:PE X a ta)(hb:PE X b tb)(hm:behindInMarks op b=false):PE X (.Compare a [op] [b] pos) (tOp r ta tb):=by intro pins s U H Q I h;exact wpAny_Compare1 (binT ha hb I h λv u s2 x y H2 I2 rx ry q=>ho pins s2 U H2 x y v u Q I2 rx ry q) hm
def Zx (t:TE):TT:=λU H Q=>t U H λx H'=>∃ k,x = .bl k/\Q k H'
theorem i5 (ho:OpR X (compareOp op) r)(ha:PE X a ta)(hb:PE X b tb)(hm:behindInMarks op b=false):PT X (.Compare a [op] [b] pos) (Zx (tOp r ta tb)):=by
 intro pins s U H Q I h;refine wpAny_isTrue_Compare1 (j7 (ha pins s U H _ I h) λv s1 ⟨x,H1,I1,r1,q1⟩=>j7 (hb pins s1 U H1 _ I1 q1) λu s2 ⟨y,H2,I2,r2,q2⟩ =>
  j7 (ho pins s2 U H2 x y v u _ I2 r1 r2 q2) λc s3 ⟨z,H3,I3,r3,k,e,q3⟩=>?_) hm
 subst e;cases r3;exact wpAny_truthy_bool ⟨H3,I3,q3⟩
def YD (r r':R2)(ta tb tc:TE):TE:=λU H Q=>ta U H λx H1=>tb U H1 λy H2=>r x y H2 λz H3=>∃ k,z = .bl k /\
 (if k=true then tc U H3 λw' H4=>r' y w' H4 Q else Q (.bl false) H3)
theorem Ri (ho:OpR X (compareOp op) r)(ho':OpR X (compareOp op') r')(ha:PE X a ta)(hb:PE X b tb)(hc:PE X c tc)(hm:lastMarks [op,op'] [b,c]=false:=by with_unfolding_all rfl):PE X (.Compare a [op,op'] [b,c] pos) (YD r r' ta tb tc):=by
 intro pins s U H Q I h;refine Compare_chain (j7 (ha pins s U H _ I h) λv s1 ⟨x,H1,I1,r1,q1⟩=>chain_link (j7 (hb pins s1 U H1 _ I1 q1) λu s2 ⟨y,H2,I2,r2,q2⟩ =>
  j7 (ho pins s2 U H2 x y v u _ I2 r1 r2 q2) λd s3 ⟨z,H3,I3,r3,k,e,q3⟩=>?_)) hm
 subst e;cases r3;refine wpAny_truthy_bool ?_;cases k with
 |false=>exact ite_ff ⟨.bl false,H3,I3,rfl,q3⟩
 |true=>exact ite_tt (chain_last (j7 (hc pins s3 U H3 _ I3 q3) λw' s4 ⟨z',H4,I4,r4,q4⟩=>ho' pins s4 U H4 y z' u w' Q I4 r2 r4 q4))
theorem Bq (ho:OpR X (compareOp op) r)(ho':OpR X (compareOp op') r')(ha:PE X a ta)(hb:PE X b tb)(hc:PE X c tc)(hm:lastMarks [op,op'] [b,c]=false:=by with_unfolding_all rfl):PT X (.Compare a [op,op'] [b,c] pos) (Zx (YD r r' ta tb tc)):=by
 intro pins s U H Q I h;refine isTrue_chain (j7 (ha pins s U H _ I h) λv s1 ⟨x,H1,I1,r1,q1⟩=>test_link (j7 (hb pins s1 U H1 _ I1 q1) λu s2 ⟨y,H2,I2,r2,q2⟩ =>
  j7 (ho pins s2 U H2 x y v u _ I2 r1 r2 q2) λd s3 ⟨z,H3,I3,r3,k,e,q3⟩=>?_)) hm
 subst e;cases r3;refine wpAny_truthy_bool ?_;cases k with
 |false=>obtain ⟨k',e',q'⟩:=q3;cases e';exact ite_ff ⟨H3,I3,q'⟩
 |true=>refine ite_tt (test_last (j7 (hc pins s3 U H3 _ I3 q3) λw' s4 ⟨z',H4,I4,r4,q4⟩=>j7 (ho' pins s4 U H4 y z' u w' _ I4 r2 r4 q4) λd' s5 zq=>?_));obtain ⟨z2,H5,I5,r5,k2,e2,q5⟩:=zq;subst e2;cases r5;exact wpAny_truthy_bool ⟨H5,I5,q5⟩
def TruV (K:Fg)(x:V)(H:Hp)(k:Bool):Prop :=
 match x with
 | .non=>k=false
 | .bl b=>k=b
 | .int i=>k=(i != 0)
 | .str y=>y.length<=sizeLine/\k=((y.length:Int) != 0)
 | .byt y=>y.size<=sizeLine/\k=((y.size:Int) != 0)
 | .ref p=>(∃ xs,SqL K H p xs/\k=!xs.isEmpty)∨(∃ xs,SqT K H p xs/\k=!xs.isEmpty)∨∃ kvs,H p=some (.dK kvs)/\k=!kvs.isEmpty
 |_=>False
theorem Ks {κ:Type}{kvs:List (κ×V)}{vs:List (κ×Value)}(r:KV kvs vs):(!vs.isEmpty)=!kvs.isEmpty:=by cases r<;>rfl
theorem Kt {its:List Value}(r:Vals xs its):(!its.toArray.isEmpty)=!xs.isEmpty:=by cases r<;>simp
theorem wo:(sizeLine:Nat)<2 ^ 63:=by rw [sizeLine_eq];decide
theorem SD:TruR X (λx H Q=>∃ k,TruV X.K x H k/\Q k H):=by
 intro pins s U H x v Q I rx h;obtain ⟨k,e,q⟩:=h;have hl:=wo;have hs:sizeLine=16777216:=sizeLine_eq;cases x with
 |non=>cases rx;have e':k=false:=e;subst e';exact truthy_none ⟨H,I,q⟩
 |bl b=>cases rx;have e':k=b:=e;subst e';exact wpAny_truthy_bool ⟨H,I,q⟩
 |int i=>obtain ⟨t,rfl⟩:=rx;have e':k=(i != 0):=e;subst e';exact PySem.P.truthy_int ⟨H,I,q⟩
 |str y=>obtain ⟨t,rfl⟩:=rx;obtain ⟨hy,e'⟩:y.length<=sizeLine/\k=((y.length:Int) != 0):=e;subst e';exact PySem.P.truthy_str (by omega) ⟨H,I.tok _,q⟩
 |byt y=>obtain ⟨t,rfl⟩:=rx;obtain ⟨hy,e'⟩:y.size<=sizeLine/\k=((y.size:Int) != 0):=e;subst e';exact PySem.W.truthy_bytes (by omega) ⟨H,I.tok _,q⟩
 |ref p =>
  cases rx;have e':(∃ xs,SqL X.K H p xs/\k=!xs.isEmpty)∨(∃ xs,SqT X.K H p xs/\k=!xs.isEmpty)∨∃ kvs,H p=some (.dK kvs)/\k=!kvs.isEmpty:=e;rcases e' with ⟨xs,hx,e'⟩|⟨xs,hx,e'⟩|⟨kvs,hx,e'⟩
  ·subst e';obtain ⟨its,r,pl,hz⟩:=I.list hx;have hlen:=r.length;exact wpAny_truthy_list pl.isList (by simp only [yV];omega) ⟨H,I.tok _,by rw [Kt r];exact q⟩
  ·subst e';obtain ⟨its,r,pl,hz⟩:=I.tuple hx;have hlen:=r.length;exact truthy_tuple pl (by simp only [yV];omega) ⟨H,I.tok _,by rw [Kt r];exact q⟩
  ·subst e';obtain ⟨hz,hS,vs,r,m⟩:kvs.length<=sizeLine/\(p==sysModules)=false/\∃ vs,KV kvs vs/\s.heap.DictOf (qc X.prog X.w) p vs:=I.hok p _ hx;have hlen:kvs.length=vs.length:=Paired.length r;exact wpAny_truthy_dict hS m (by omega) ⟨H,I.tok _,by rw [Ks r];exact q⟩
 |_=>exact (show False from e).elim
theorem RM (ha:PE X a ta)(he:∀ whole,isTrue a X.env whole=(do let v <- whole;standAt a.pos;holding [v] (truthy v))):
  PT X a (λU H Q=>ta U H λx H'=>∃ k,TruV X.K x H' k/\Q k H'):=by
 intro pins s U H Q I h;exact isTrue_plain (j7 (ha pins s U H _ I h) λv s1 ⟨x,H1,I1,r1,q1⟩=>SD pins s1 U H1 x v Q I1 r1 q1) (he _)
theorem op_add_str:OpR X (binaryOp .Add) (λx y H Q=>∃ i j,x = .str i/\y = .str j/\i.length+j.length<=sizeLine/\Q (.str (i++j)) H):=by intro pins s U H x y v u Q I rx ry h;obtain ⟨i,j,rfl,rfl,hz,q⟩:=h;obtain ⟨t,rfl⟩:=rx;obtain ⟨t',rfl⟩:=ry;exact add_str (λt' tk=>⟨.str (i++j),H,I.tok _,⟨_,rfl⟩,q⟩) hz
theorem zk {x:V}(r:Vals [x] us):∃ u,us=[u]/\RelV x u:=by
 cases r with
 |cons r1 r2=>cases r2;exact ⟨_,rfl,r1⟩
theorem PN {x:V}(r:Vals [x,y] us):∃ u w',us=[u,w']/\RelV x u/\RelV y w':=by
 cases r with
 |cons r1 r2 =>
  cases r2 with
  |cons r3 r4=>cases r4;exact ⟨_,_,rfl,r1,r3⟩
theorem Dp (hc:X.calm=true):CallR X (.builtin "max") (λxs H Q=>∃ i j,xs=[.int i,.int j]/\Q (.int (if j > i then j else i)) H):=by
 intro pins s U H xs us Q I r h;obtain ⟨i,j,rfl,q⟩:=h;obtain ⟨u,w',rfl,⟨t,rfl⟩,⟨t',rfl⟩⟩:=PN r;refine max_two_ints (I.ok.hd hc) λh' tk k=>⟨_,H,I.kept k,?_,q⟩;by_cases hj:j > i
 ·rw [if_pos hj,if_pos hj];exact ⟨_,rfl⟩
 ·rw [if_neg hj,if_neg hj];exact ⟨_,rfl⟩
def LenV (K:Fg)(x:V)(H:Hp)(n:Nat):Prop :=
 match x with
 | .str y=>y.length<=sizeLine/\n=y.length
 | .byt y=>y.size<=sizeLine/\n=y.size
 | .ref p=>(∃ xs,SqL K H p xs/\n=xs.length)∨∃ xs,SqT K H p xs/\n=xs.length
 |_=>False
theorem Di:CallR X (.builtin "len") (λxs H Q=>∃ x n,xs=[x]/\LenV X.K x H n/\Q (.int n) H):=by
 intro pins s U H xs us Q I r h;obtain ⟨x,n,rfl,e,q⟩:=h;obtain ⟨u,rfl,rx⟩:=zk r;have hl:=wo;have hs:sizeLine=16777216:=sizeLine_eq;cases x with
 |str y=>obtain ⟨t,rfl⟩:=rx;obtain ⟨hy,e'⟩:y.length<=sizeLine/\n=y.length:=e;subst e';exact len_str (by omega) ⟨.int _,H,I.tok _,⟨_,rfl⟩,q⟩
 |byt y=>obtain ⟨t,rfl⟩:=rx;obtain ⟨hy,e'⟩:y.size<=sizeLine/\n=y.size:=e;subst e';exact PySem.W.len_bytes (by omega) ⟨.int _,H,I.tok _,⟨_,rfl⟩,q⟩
 |ref p =>
  cases rx;have e':(∃ xs,SqL X.K H p xs/\n=xs.length)∨∃ xs,SqT X.K H p xs/\n=xs.length:=e;rcases e' with ⟨xs,hx,e'⟩|⟨xs,hx,e'⟩
  ·subst e';obtain ⟨its,r',pl,hz⟩:=I.list hx;have hlen:=r'.length;exact Calls.call_len_list pl.isList (by simp only [yV];omega) ⟨.int xs.length,H,I.tok _,⟨_,by simp only [yV];rw [hlen]⟩,q⟩
  ·subst e';obtain ⟨its,r',pl,hz⟩:=I.tuple hx;have hlen:=r'.length;exact len_tuple pl (by simp only [yV];omega) ⟨.int xs.length,H,I.tok _,⟨_,by simp only [yV];rw [hlen]⟩,q⟩
 |_=>exact (show False from e).elim
end
structure ObjM (h:Heap)(x dx C:Addr)(mA:Str->Option Value):Prop where
 obj:h.get? x=some (PySem.W.instObj C dx)
 ns:h.Ns1 dx mA
 ne:dx≠x
theorem LP (n:h.Ns1 dx mA):∃ od,h.get? dx=some od/\∀ name,PySem.W.lookIn name od=some (mA name):=by
 obtain ⟨o,es,ep,ho,hd,hk,_,hm⟩:=n;refine ⟨o,ho,λname=>?_⟩;have e:=hm name;unfold nsFind findBy at e;rw [<- Array.find?_toList] at e;unfold PySem.W.lookIn;rw [hd]
 dsimp only
 split
 ·rename_i y q;rw [q] at e;exact congrArg some e
 ·rename_i q;rw [q] at e;have a:es.toList.any (·.refKey)=false:=by rw [List.any_eq_false];intro y hy;obtain ⟨z,t,hkey⟩:=hk y (Array.mem_toList_iff.mp hy);simp [DictEntry.refKey,hkey]
  have a':¬ es.toList.any (·.refKey)=true:=by rw [a];exact yR
  rw [if_neg a'];exact congrArg some e
theorem ObjM.look {x:Addr}(I:ObjM h x dx C mA):∃ od,PySem.W.InstAt h x (PySem.W.instObj C dx) C (some od)/\∀ name,PySem.W.lookIn name od=some (mA name) :=
 let ⟨od,ho,hl⟩:=LP I.ns
 ⟨od,⟨I.obj,rfl,rfl,ho⟩,hl⟩
section
variable {prog:Program}{w:World}{A:Around}{E:Value->Shared->Prop}{s:Shared}{K:Fg}{x dx C f:Addr}{mA:Str->Option Value}{name:Str}{v:Value}
theorem Ml {expr:Bool}(X:K.In s.heap)(I:ObjM s.heap x dx C mA)(hg:PySem.W.plainGet K C name=true)(hh:PySem.W.hasDictIn K C=true)(ha:PySem.W.findIn K (.ref C) name=some none)(hv:mA name=some v)(hv':PySem.W.handedIn v=true)(h:Q v { s with toks:=s.toks+1 }):wpAny (model prog w) A (getAttr (.ref x) name expr) Q E s:=by obtain ⟨od,J,hl⟩:=I.look;exact PySem.W.get_value X J (PySem.W.plainGet_of hg).1 (PySem.W.findObj_own hh ha rfl (by rw [hl,hv])) hv' h
theorem Mm {Q:Value×List Value->Shared->Prop}(X:K.In s.heap)(I:ObjM s.heap x dx C mA)(hg:PySem.W.plainGet K C name=true)(hf:PySem.W.findIn K (.ref C) name=some (some (.ref f)))(ht:PySem.W.isFn K (.ref f)=true)(hv:mA name=none)(h:Q (.ref f,[.ref x]) s):wpAny (model prog w) A (getMethod (.ref x) name pl) Q E s:=by obtain ⟨od,J,hl⟩:=I.look;exact PySem.W.method_fn X J (PySem.W.plainGet_of hg).1 (PySem.W.plainGet_of hg).2 hf (beq_iff_eq.mp ht) (by show (PySem.W.lookIn name od).map (·.isSome)=some false;rw [hl,hv];rfl) h
theorem Ss {ns:List Str}{Q:Unit->Shared->Prop}(X:K.In s.heap)(I:ObjM s.heap x dx C mA)(hs:PySem.W.findIn K (.ref C) "__setattr__"=some (some (.builtin "object.__setattr__")))(hp:PySem.W.plainOver K C=true)(ht:PySem.W.takerIn K C name=some none)(hh:PySem.W.hasDictIn K C=true)(hw:PySem.Within mA ns)(hsz:ns.length<=sizeLine)(h:∀ h',ObjM h' x dx C (λy=>if y=name then some v else mA y)->Heap.SameBut dx s.heap h'->Q () { s with heap:=h',toks:=s.toks+2 }):wpAny (model prog w) A (setAttr (.ref x) name v) Q E s:=by obtain ⟨od,J,hl⟩:=I.look;refine PySem.W.set_plain X J hs (PySem.W.osa_open (s:={ s with toks:=s.toks+1 }) (r:=none) X J hp ht λb=>?_);obtain ⟨cd,hc,hd'⟩:=PySem.W.any_some hh;have hx:s.heap.get? x=some ⟨.ref C,some dx,.plain,#[]⟩:=I.obj;refine yY (yN (yY (yY (wpAny_loadPart hx (yY (PySem.W.Looks.here (s:={ s with toks:=s.toks+1 }) (PySem.W.looks_clsIn X hc) ?_))))));rw [hd'];refine yN (a:=some dx) (yY (yN (yY ?_)));refine wpAny_nsSet1 (s:={ s with toks:=s.toks+1 }) I.ns λh' hn2 hs2=>?_;obtain ⟨oD,esD,epD,hoD,hdD,hcD⟩:=hn2.count (PySem.Within.cons name v hw);refine yY (wpAny_lookBehind hoD (by rw [hdD];exact pastItsLine_dict (ye hcD (by rw [yH];omega))) ?_);exact yN (h _ ⟨(hs2.2 _ (Ne.symm I.ne)).trans I.obj,hn2,I.ne⟩ hs2)
theorem LR {R:Result->Shared->Prop}{vs:List Value}(X:K.In s.heap)(hm:PySem.W.makesIn K C=true)(hi:PySem.W.findIn K (.ref C) "__init__"=some (some (.ref f)))(hf:PySem.W.typeIn K (.ref f)=some (.type "function"))(h:codeAny (model prog w) (A.under (.builtin "type.__call__" ⟨.ref C::vs,kw⟩)) (.call (.ref f) ⟨.ref (s.heap.objs.size+1)::vs,kw⟩) (PySem.W.InitBack (s.heap.objs.size+1) R) { s with heap:=(s.heap.push PySem.W.emptyDict).push (PySem.W.instObj C s.heap.objs.size) }):codeAny (model prog w) A (.call (.ref C) ⟨vs,kw⟩) R s:=by obtain ⟨hh,g,d,t,os⟩:=s;exact PySem.W.make_core (PySem.W.makes_of X hm) (PySem.W.looks_findIn X hi) (λself=>PySem.W.bind_fn X self hf) (.inl rfl) h
end
def xm (f:Str)(v:V):List (Str×V)->List (Str×V)
 |[]=>[(f,v)]
 |(g,x)::r=>if g=f then (g,v)::r else (g,x)::xm f v r
theorem KL (f g:Str)(v:V):∀ fs:List (Str×V),(xm f v fs).lookup g=if g=f then some v else fs.lookup g
 |[]=>by
  show List.lookup g [(f,v)]=_;by_cases h:g=f
  ·have hb:(g==f)=true:=beq_iff_eq.mpr h;simp only [List.lookup,hb,if_pos h]
  ·have hb:(g==f)=false:=beq_eq_false_iff_ne.mpr h;simp only [List.lookup,hb,if_neg h]
 |(k,x)::r=>by
  have ih:=KL f g v r;rw [show xm f v ((k,x)::r)=(if k=f then (k,v)::r else (k,x)::xm f v r) from rfl];by_cases hk:k=f
  ·rw [if_pos hk];by_cases h:g=k
   ·have hb:(g==k)=true:=beq_iff_eq.mpr h;simp only [List.lookup,hb,if_pos (h.trans hk)]
   ·have hb:(g==k)=false:=beq_eq_false_iff_ne.mpr h;simp only [List.lookup,hb,if_neg (λe:g=f=>h (e.trans hk.symm))]
  ·rw [if_neg hk];by_cases h:g=k
   ·have hb:(g==k)=true:=beq_iff_eq.mpr h;simp only [List.lookup,hb,if_neg (λe:g=f=>hk (h.symm.trans e))]
   ·have hb:(g==k)=false:=beq_eq_false_iff_ne.mpr h;simp only [List.lookup,hb];exact ih
theorem VN (f:Str)(v:V):∀ fs:List (Str×V),f∈(xm f v fs).map (·.1)/\∀ g,g∈fs.map (·.1)->g∈(xm f v fs).map (·.1)
 |[]=>⟨by simp [xm],λg h=>by simp at h⟩
 |(k,x)::r=>by
  obtain ⟨i1,i2⟩:=VN f v r;rw [show xm f v ((k,x)::r)=(if k=f then (k,v)::r else (k,x)::xm f v r) from rfl];by_cases hk:k=f
  ·rw [if_pos hk];subst hk;exact ⟨by simp,λg h=>by simpa using h⟩
  ·rw [if_neg hk];refine ⟨?_,λg h=>?_⟩
   ·rw [yI];exact yS _ i1
   ·rw [yI] at h ⊢;rcases yD.mp h with e|e
    ·exact yD.mpr (.inl e)
    ·exact yS _ (i2 g e)
theorem KF (f:Str)(v:V):∀ fs:List (Str×V),(xm f v fs).length<=fs.length+1
 |[]=>by simp [xm]
 |(k,x)::r=>by
  have ih:=KF f v r;rw [show xm f v ((k,x)::r)=(if k=f then (k,v)::r else (k,x)::xm f v r) from rfl];by_cases hk:k=f
  ·rw [if_pos hk,yH,yH];omega
  ·rw [if_neg hk,yH,yH];omega
theorem RelO.some_of {o:Option Value}(r:RelO (some v) o):∃ u,o=some u/\RelV v u:=by
 cases o with
 |none=>exact (show False from r).elim
 |some u=>exact ⟨u,rfl,r⟩
theorem RelO.none_of {o:Option Value}(r:RelO none o):o=none:=by
 cases o with
 |none=>rfl
 |some u=>exact (show False from r).elim
theorem MC (r:RelV v u):PySem.W.handedIn u=true:=by
 cases v with
 |non=>cases (show u=Value.none from r);rfl
 |bl b=>cases (show u=Value.bool b from r);rfl
 |int i=>obtain ⟨t,e⟩:=(show ∃ t,u=Value.int i t from r);cases e;rfl
 |str x=>obtain ⟨t,e⟩:=(show ∃ t,u=Value.str x t from r);cases e;rfl
 |byt b=>obtain ⟨t,e⟩:=(show ∃ t,u=Value.bytes b t from r);cases e;rfl
 |flt b=>obtain ⟨t,e⟩:=(show ∃ t,u=Value.float b t from r);cases e;rfl
 |ref a=>cases (show u=Value.ref a from r);rfl
 |ty n=>cases (show u=Value.type n from r);rfl
section
variable {P:Program}{w:World}{H H':Hp}{h h':Heap}{a C dx:Addr}{fs fs':List (Str×V)}
theorem Jq (hok:HOk P w H h)(e:H a=some (.ins C dx fs)):∃ mA,ObjM h a dx C mA/\(∀ f,RelO (fs.lookup f) (mA f))/\PySem.Within mA (fs.map (·.1))/\fs.length<=1000/\H dx=some (.own a):=by obtain ⟨d,z,ne,ob,mA,n,r,q⟩:=(show ObjOk P w H h a (.ins C dx fs) from hok a _ e);exact ⟨mA,⟨ob,n,ne⟩,r,q,z,d⟩
end
structure Cls (K:Fg)(C:Addr):Prop where
 pg:PySem.W.plainGet K C Str.empty=true
 hd:PySem.W.hasDictIn K C=true
 po:PySem.W.plainOver K C=true
 sa:PySem.W.findIn K (.ref C) "__setattr__"=some (some (.builtin "object.__setattr__"))
theorem Cls.get (c:Cls K C)(f:Str):PySem.W.plainGet K C f=true:=c.pg
def NoAttr (K:Fg)(C:Addr)(f:Str):Prop:=PySem.W.findIn K (.ref C) f=some none
theorem NoAttr.taker {f:Str}(n:NoAttr K C f):PySem.W.takerIn K C f=some none:=by unfold PySem.W.takerIn;rw [show PySem.W.findIn K (.ref C) f=some none from n];rfl
structure wO (K:Fg)(C:Addr)(m:Str)(f:Addr):Prop where
 at_:PySem.W.findIn K (.ref C) m=some (some (.ref f))
 fn:PySem.W.isFn K (.ref f)=true
 kp:PySem.W.keepIn K (.ref f)=true
section
variable {X:Cx}{pins:List (Addr×Obj)}{U:St}{H:Hp}{s:Shared}{a C dx:Addr}{fs:List (Str×V)}{f:Str}{v:V}{A:Around}{E:Value->Shared->Prop}
theorem Mn {b:Bool}(I:Inv X pins U H s)(e:H a=some (.ins C dx fs))(c:Cls X.K C)(n:NoAttr X.K C f)(l:fs.lookup f=some v)(h:∀ u s',Inv X pins U H s'->RelV v u->Q u s'):wpAny (model X.prog X.w) A (getAttr (.ref a) f b) Q E s:=by obtain ⟨mA,O,r,_,_,_⟩:=Jq I.hok e;obtain ⟨u,hu,ru⟩:=RelO.some_of (v:=v) (o:=mA f) (by rw [<- l];exact r f);exact Ml I.kIn O (c.get f) c.hd n hu (MC ru) (h u _ (I.tok _) ru)
theorem VC {g:Addr}{Q:Value×List Value->Shared->Prop}(I:Inv X pins U H s)(e:H a=some (.ins C dx fs))(c:Cls X.K C)(k:wO X.K C m g)(l:fs.lookup m=none)(h:Q (.ref g,[.ref a]) s):wpAny (model X.prog X.w) A (getMethod (.ref a) m pl) Q E s:=by obtain ⟨mA,O,r,_,_,_⟩:=Jq I.hok e;have hn:mA m=none:=RelO.none_of (by rw [<- l];exact r m);exact Mm I.kIn O (c.get m) k.at_ k.fn hn h
theorem Sv {Q:Unit->Shared->Prop}(I:Inv X pins U H s)(e:H a=some (.ins C dx fs))(c:Cls X.K C)(n:NoAttr X.K C f)(hl:fs.length<1000)(ry:RelV y u)(h:∀ s',Inv X pins U (z7 H a (.ins C dx (xm f y fs))) s'->Q () s'):wpAny (model X.prog X.w) A (setAttr (.ref a) f u) Q E s:=by
 obtain ⟨mA,O,r,wi,_,ho⟩:=Jq I.hok e;have hz:(fs.map (·.1)).length<=sizeLine:=by rw [yZ,sizeLine_eq];omega
 refine Ss I.kIn O c.sa c.po n.taker c.hd wi hz λh' O' sb=>h _ ?_;have hd:∃ o,h'.get? dx=some o:=let ⟨o,_,_,e',_⟩:=O'.ns;⟨o,e'⟩
 refine I.write (x:=a) (e:=dx) (by rw [e];exact True.intro) (.inr ho) (λb q hb z=>(sb.2 b hb).trans z) hd ?_;refine ⟨by rw [z6 O.ne];exact ho,?_,O.ne,O'.obj,_,O'.ns,λg=>?_,λg hg=>?_⟩
 ·have:=KF f y fs;omega
 ·show RelO ((xm f y fs).lookup g) (if g=f then some u else mA g);rw [KL];by_cases q:g=f
  ·rw [if_pos q,if_pos q];exact ry
  ·rw [if_neg q,if_neg q];exact r g
 ·by_cases q:g=f
  ·rw [q];exact (VN f y fs).1
  ·refine (VN f y fs).2 g (wi g λz=>hg ?_);show (if g=f then some u else mA g)=none;rw [if_neg q];exact z
theorem Inv.made (I:Inv X pins U H s):Inv X pins U (z7 (z7 H s.heap.objs.size (.own (s.heap.objs.size+1))) (s.heap.objs.size+1) (.ins C s.heap.objs.size [])) { s with heap:=(s.heap.push PySem.W.emptyDict).push (PySem.W.instObj C s.heap.objs.size) }:=by
 have e1:(s.heap.push PySem.W.emptyDict).get? s.heap.objs.size=some PySem.W.emptyDict:=yC s.heap rfl;have e2:((s.heap.push PySem.W.emptyDict).push (PySem.W.instObj C s.heap.objs.size)).get? (s.heap.objs.size+1)=some (PySem.W.instObj C s.heap.objs.size):=by have:=yC (s.heap.push PySem.W.emptyDict) (o:=PySem.W.instObj C s.heap.objs.size) rfl;rwa [uG] at this
 have e3:(s.heap.push PySem.W.emptyDict).Ns s.heap.objs.size (λ_=>none):=⟨PySem.W.emptyDict,#[],_,e1,rfl,(λe he=>absurd he (by simp)),λ_=>rfl⟩;have I1:=I.laid (a:=s.heap.objs.size) (o:= .own (s.heap.objs.size+1)) (h':=s.heap.push PySem.W.emptyDict) (t':=s.toks) (λb u q=>yW _ q) (yT _) ⟨_,e1⟩;refine I1.laid (a:=s.heap.objs.size+1) (o:= .ins C s.heap.objs.size []) (t':=s.toks) (λb u q=>yW _ q) (Nat.le_of_eq (uG _ _)) ?_;have ne:s.heap.objs.size≠s.heap.objs.size+1:=yF (ut _);refine ⟨by rw [z6 ne,j9],yd _,ne,e2,λ_=>none,(Heap.Ns1.of_empty e3).at λo q=>yW _ q,λ_=>True.intro,λy hy=>absurd rfl hy⟩
theorem CP {prog:Program}{env:Env}{f:Str}{s:Shared}(hb:attributeBase e f env (eval e env)=eval e env)(h:wpAny (model prog w) A (eval e env) (λo s₁=>wpAny (model prog w) A (getAttr o f true) Q E s₁) E s):wpAny (model prog w) A (eval (.Attribute e f pos) env) Q E s :=
 Attribute_any_ h (by rw [arm_eval_Attribute,hb])
end
def tFld (K:Fg)(ta:TE)(f:Str):TE:=λU H Q=>ta U H λx H1=>∃ a C dx fs v,x = .ref a/\H1 a=some (.ins C dx fs)/\Cls K C/\NoAttr K C f/\fs.lookup f=some v/\Q v H1
def jE (K:Fg)(ta tv:TE)(f:Str):TS:=λD U H=>tv U H λy H1=>ta U H1 λx H2=>∃ a C dx fs,x = .ref a/\H2 a=some (.ins C dx fs)/\Cls K C/\NoAttr K C f/\fs.length<1000 /\
 D.nx U (z7 H2 a (.ins C dx (xm f y fs)))
section
variable {X:Cx}{o e value:Expr}{f:Str}{pos pos' tpos:Pos}{ta tv:TE}
theorem Rj (he:PE X e ta)(hb:attributeBase e f X.env (eval e X.env)=eval e X.env):PE X (.Attribute e f pos) (tFld X.K ta f):=by intro pins s U H Q I h;refine CP hb (j7 (he pins s U H _ I h) λu s1 zq=>?_);obtain ⟨x,H1,I1,rx,a,C,dx,fs,v,ex,ea,c,n,l,q⟩:=zq;subst ex;obtain rfl:u=Value.ref a:=rx;exact Mn I1 ea c n l λu' s2 I2 ru=>⟨v,H1,I2,ru,q⟩
theorem RE (ha:PE X o ta)(hv:PE X value tv)(hs:swapsWith value (some (.Attribute o f pos')) pos.line X.env=pure false):PS X (.Assign [.Attribute o f pos'] value pos) (jE X.K ta tv f):=by intro pins s U H D I h;refine plainObj_wpAny_Assign_Attribute (j7 (hv pins s U H _ I h) λu s1 ⟨y,H1,I1,ry,q⟩=>j7 (ha pins s1 U H1 _ I1 q) λov s2 zq=>?_) hs;obtain ⟨x,H2,I2,rx,a,C,dx,fs,ex,ea,c,n,l,q2⟩:=zq;subst ex;obtain rfl:ov=Value.ref a:=rx;exact Sv I2 ea c n l ry λs3 I3=>⟨U,_,I3,q2⟩
theorem Iw {apos:Pos}{args:List Expr}(he:PE X e te)(I:Inv X pins U H s)
  (h:te U H λx H1=>∃ a C dx fs g,x = .ref a/\H1 a=some (.ins C dx fs)/\Cls X.K C/\wO X.K C m g/\fs.lookup m=none /\
   ∀ s1,Inv X pins U H1 s1->wpAny (model X.prog X.w) X.A (callWith pos (.ref g) [.ref a] (backTo pos (starEach args X.env)) (backToKw pos (keywordEach [] X.env))) Q X.xe s1)
  (ht:eval (.Call (.Attribute e m apos) args [] pos) X.env=(do
   let ov <- eval e X.env
   standAt apos.atName
   let (f,first) <- holding [ov] (getMethod ov m pl)
   callWith pos f first (backTo pos (starEach args X.env)) (backToKw pos (keywordEach [] X.env)))) :
  wpAny (model X.prog X.w) X.A (eval (.Call (.Attribute e m apos) args [] pos) X.env) Q X.xe s:=by
 refine PySem.W.methodCall_KW (pl:=pl) (j7 (he pins s U H _ I h) λu s1 zq=>?_) ht;obtain ⟨x,H1,I1,rx,a,C,dx,fs,g,ex,ea,c,k,l,q⟩:=zq;subst ex;obtain rfl:u=Value.ref a:=rx;exact VC I1 ea c k l (q s1 I1)
end
section
variable {X:Cx}{pins:List (Addr×Obj)}{U:St}{H:Hp}{s:Shared}{A:Around}{E:Value->Shared->Prop}{Q:Value->Shared->Prop}{c:Value}{b:Bool}
inductive xX (K:Fg)(H:Hp):V->Value->Prop where
 |non:xX K H .non (.type "NoneType")
 |bl (x:Bool):xX K H (.bl x) (.type "bool")
 |int (i:Int):xX K H (.int i) (.type "int")
 |str (x:Str):xX K H (.str x) (.type "str")
 |flt (x:UInt64):xX K H (.flt x) (.type "float")
 |lst {a:Addr} {xs:List V} (e:H a=some (.lst xs)):xX K H (.ref a) (.type "list")
 |frz {a:Addr} {o:Obj} {xs:List V} (e:H a=some (.frz o (.lst xs))):xX K H (.ref a) (.type "list")
 |tup {a:Addr} {xs:List V} (e:H a=some (.tup xs)):xX K H (.ref a) (.type "tuple")
 |dK {a:Addr} {kvs:List (v3×V)} (e:H a=some (.dK kvs)):xX K H (.ref a) (.type "dict")
 |dT {a:Addr} {fl:Bool} {as:List Addr} {kvs:List (b7×V)} (e:H a=some (.dT fl as kvs)):xX K H (.ref a) (.type "dict")
 |ins {a C dx:Addr} {fs:List (Str×V)} (e:H a=some (.ins C dx fs)) (cl:Cls K C) (ha:PySem.W.findIn K (.ref C) "__class__"=some (some (.builtin "object.__class__")))
   (hn:PySem.W.specialIn K (.builtin "object.__class__") "__get__"=some (some (.builtin "getset_descriptor.__get__"))) (htk:PySem.W.takesIn K (.builtin "object.__class__")=some true)
   (hm:PySem.W.mroIn K C (.type "object")=some true):xX K H (.ref a) (.ref C)
theorem Li {x:V}{t:Value}(I:Inv X pins U H s)(rx:RelV x u)(ty:xX X.K H x t)(e:PySem.W.kitOne X.K t c=some b)(h:∀ tk,Q (.bool b) { s with toks:=tk }):wpAny (model X.prog X.w) A (call (.builtin "isinstance") [u,c]) Q E s:=by
 cases ty with
 |non=>cases (show u=Value.none from rx);exact PySem.W.kia_one PySem.W.kitx_none I.kIn True.intro e (λz=>nomatch z) h
 |bl y=>cases (show u=Value.bool y from rx);exact PySem.W.kia_one PySem.W.kitx_bool I.kIn True.intro e (λz=>nomatch z) h
 |int i=>obtain ⟨t,q⟩:=(show ∃ t,u=Value.int i t from rx);cases q;exact PySem.W.kia_one PySem.W.kitx_int I.kIn True.intro e (λz=>nomatch z) h
 |str y=>obtain ⟨t,q⟩:=(show ∃ t,u=Value.str y t from rx);cases q;exact PySem.W.kia_one PySem.W.kitx_str I.kIn True.intro e (λz=>nomatch z) h
 |flt y=>obtain ⟨t,q⟩:=(show ∃ t,u=Value.float y t from rx);cases q;exact PySem.W.kia_one PySem.W.kitx_float I.kIn True.intro e (λz=>nomatch z) h
 |@lst a xs ea=>cases (show u=Value.ref a from rx);obtain ⟨_,_,n,_,h1⟩:=(show ObjOk X.prog X.w H s.heap a (.lst xs) from I.hok a _ ea);exact PySem.W.kia_one PySem.W.kitx_list I.kIn ⟨_,h1,rfl⟩ e (λz=>nomatch z) h
 |@frz a ob xs ea=>cases (show u=Value.ref a from rx);obtain ⟨_,_,_,n,_,h1⟩:=(show ObjOk X.prog X.w H s.heap a (.frz ob (.lst xs)) from I.hok a _ ea);exact PySem.W.kia_one PySem.W.kitx_list I.kIn ⟨_,h1,rfl⟩ e (λz=>nomatch z) h
 |@tup a xs ea=>cases (show u=Value.ref a from rx);obtain ⟨_,_,_,p⟩:=(show ObjOk X.prog X.w H s.heap a (.tup xs) from I.hok a _ ea);obtain ⟨o,h1,h2,_⟩:=p;exact PySem.W.kia_one PySem.W.kitx_tuple I.kIn ⟨o,h1,h2⟩ e (λz=>nomatch z) h
 |@dK a kvs ea=>cases (show u=Value.ref a from rx);obtain ⟨_,_,vs,_,p⟩:=(show ObjOk X.prog X.w H s.heap a (.dK kvs) from I.hok a _ ea);obtain ⟨o,es,ep,h1,h2,_⟩:=p;exact PySem.W.kia_one PySem.W.kitx_dict I.kIn ⟨o,h1,h2.1⟩ e (λz=>nomatch z) h
 |@dT a fl as kvs ea=>cases (show u=Value.ref a from rx);obtain ⟨_,_,xs,_,o,es,ep,h1,h2,_⟩:=(show ObjOk X.prog X.w H s.heap a (.dT fl as kvs) from I.hok a _ ea);exact PySem.W.kia_one PySem.W.kitx_dict I.kIn ⟨o,h1,h2.1⟩ e (λz=>nomatch z) h
 |@ins a C dx fs ea cl ha hn htk hm=>cases (show u=Value.ref a from rx);obtain ⟨mA,O,_⟩:=Jq I.hok ea;obtain ⟨od,J,_⟩:=O.look;exact PySem.W.kia_one (PySem.W.kitx_own (cl.get _) cl.hd ha hn htk hm) I.kIn J e (λz=>nomatch z) h
end
structure Room (k:Nat)(A:Around):Prop where
 hd:A.handled=none
 dp:A.depth+3*k+5<recursionLimit
 un:A.units+16*k+200<cLine
theorem Room.mono {k:Nat}(r:Room k A)(h:j<=k):Room j A:=⟨r.hd,by have:=r.dp;omega,by have:=r.un;omega⟩
theorem Room.deeper {k:Nat}(r:Room (k+1) A)(env:Env):Room k (A.deeper env) :=
 ⟨r.hd,by have:=r.dp;show A.depth+1+3*k+5<_;omega,by have:=r.un;show A.units+3+16*k+200<_;omega⟩
theorem LQ :(A.under (.builtin "type.__call__" ⟨.ref C::us,kw⟩)).depth=A.depth+1:=by first|rfl|simp [Around.under,Code.weight,Code.isCreation,Code.isGuard,Code.isCaller,Code.frames,Code.isFrame,guardIds]
theorem LS :(A.under (.builtin "type.__call__" ⟨.ref C::us,kw⟩)).units=A.units+1:=by first|rfl|simp [Around.under,Code.cUnits,Code.frames,Code.isFrame]
theorem Room.make {k:Nat}(r:Room (k+1) A)(C:Addr)(us:List Value)(kw:List (Str×Value)):Room k (A.under (.builtin "type.__call__" ⟨.ref C::us,kw⟩)) :=
 ⟨r.hd,by have:=r.dp;rw [LQ];omega,by have:=r.un;rw [LS];omega⟩
theorem Room.depth {k:Nat}(r:Room k A):A.depth<recursionLimit:=by have:=r.dp;omega
theorem Room.units {k:Nat}(r:Room k A):A.units+64<cLine:=by have:=r.un;omega
def qF:TA:=λ_ H Q=>Q [] H
def o5 (ta:TE)(tr:TA):TA:=λU H Q=>ta U H λx H1=>tr U H1 λxs H2=>Q (x::xs) H2
section
variable {X:Cx}{e:Expr}{es:List Expr}{te:TE}{t:TA}{pos:Pos}
theorem y2:PA X [] qF:=λ_ _ _ _ H Q I h=>Calls.spliced_nil ⟨[],H,I,.nil,h⟩
theorem j8 (ha:PE X e te)(hr:PA X es t)(hs:starEach (e::es) X.env=(false,eval e X.env)::starEach es X.env:=by rfl):PA X (e::es) (o5 te t):=by intro pos pins s U H Q I h;rw [hs];show wpAny _ _ (spliced ((false,eval e X.env)::backTo pos (starEach es X.env))) _ _ s;refine Calls.spliced_cons (j7 (ha pins s U H _ I h) λu s1 zq=>?_);obtain ⟨x,H1,I1,r1,q1⟩:=zq;exact j7 (hr pos pins s1 U H1 _ I1 q1) λus s2 ⟨xs,H2,I2,r2,q2⟩=>⟨x::xs,H2,I2,.cons r1 r2,q2⟩
def tTup (t:TA):TE:=λU H Q=>t U H λxs H1=>xs.length<=sizeLine/\∀ p,H1 p=none->Q (.ref p) (z7 H1 p (.tup xs))
def tLst (t:TA):TE:=λU H Q=>t U H λxs H1=>xs.length<=sizeLine/\∀ p,H1 p=none->Q (.ref p) (z7 H1 p (.lst xs))
theorem qJ {x1}(h:PA X es t):PE X (.Tuple es x1 pos) (tTup t):=by intro pins s U H Q I hq;refine wpAny_Tuple_spliced (j7 (h pos pins s U H _ I hq) λus s1 ⟨xs,H1,I1,r,z,q⟩=>⟨by rw [<- r.length];exact z,?_⟩);have hf:H1 s1.heap.objs.size=none:=I1.hok.fresh (yT _);refine ⟨.ref s1.heap.objs.size,z7 H1 s1.heap.objs.size (.tup xs),I1.laid (t':=s1.toks) (λb u e=>yW _ e) (yT _) ?_,rfl,q _ hf⟩;exact ⟨z,us,r,⟨_,yC _ rfl,rfl,_,rfl⟩⟩
theorem qg (h:PA X es t):PE X (.List es pos) (tLst t):=by intro pins s U H Q I hq;refine wpAny_List_spliced (j7 (h pos pins s U H _ I hq) λus s1 ⟨xs,H1,I1,r,z,q⟩=>⟨by rw [<- r.length];exact z,?_⟩);have hf:H1 s1.heap.objs.size=none:=I1.hok.fresh (yT _);refine ⟨.ref s1.heap.objs.size,z7 H1 s1.heap.objs.size (.lst xs),I1.laid (t':=s1.toks) (λb u e=>yW _ e) (yT _) ?_,rfl,q _ hf⟩;exact ⟨z,us,0,r,yC _ rfl⟩
end
abbrev Sp:=List V->Hp->VK->XK->Prop
variable{sp:Sp}
abbrev CXT:=List Env->Hp->Shared->XK->Value->Shared->Prop
variable{CX:CXT}
structure Env0 (P:Program)(w:World)(K:Fg)(mg:Str->Option Value)(base:Heap)(A:Around)(outer:List Env)(s:Shared)(H:Hp):Prop where
 frames:A.frames=some outer
 mod:Mod K mg base
 bs:∀ b o,base.get? b=some o->s.heap.get? b=some o/\H b=none
 bsz:base.objs.size<=s.heap.objs.size
 funs:s.heap.FunFrames base outer
 frf:∀ b∈p8 outer,H b=none
 hok:HOk P w H s.heap
 bare:AllBare s.gens
 tbs:∀ p∈TABS,H p.1=some (.tbl p.2.1 p.2.2)
def CE (outer:List Env)(P:Program)(w:World)(H:Hp)(s:Shared)(Q:VK)(u:Value)(s':Shared):Prop :=
 ∃ v H',s'.os=s.os/\AllBare s'.gens/\Un (p8 outer) [] H H' s.heap s'.heap/\HOk P w H' s'.heap/\RelV v u/\Q v H'
def CR (CX:CXT)(outer:List Env)(P:Program)(w:World)(H:Hp)(s:Shared)(Q:VK)(E:XK)(r:Result)(s':Shared):Prop :=
 match r with
 | .ok (.ret u)=>CE outer P w H s Q u s'
 | .ok _=>False
 | .error e=>CX outer H s E e s'
structure FnOk (P:Program)(w:World)(K:Fg)(mg:Str->Option Value)(base:Heap)(CX:CXT)(k:Nat)(f:Addr)(fd:FuncData)(ps:List Str)(sp:Sp):Prop where
 len:∀ vs H Q E,sp vs H Q E->vs.length=ps.length
 run:∀(A:Around)(outer:List Env)(s:Shared)(H:Hp)(args:Args)(us:List Value)(vs:List V)(Q:VK)(E:XK),Room k A->Env0 P w K mg base A outer s H->BindsTo s fd args (ps.zip us)->Vals vs us->sp vs H Q E ->
  codeAny (model P w) A (.call (.ref f) args) (CR CX outer P w H s Q E) s
theorem FnOk.imp {k:Nat}{f:Addr}{sp':Sp}(F:FnOk P w K mg base CX k f fd ps sp)(h:∀ vs H Q E,sp' vs H Q E->sp vs H Q E):FnOk P w K mg base CX k f fd ps sp' :=
 ⟨λvs H Q E q=>F.len vs H Q E (h _ _ _ _ q),λA outer s H args us vs Q E hr he hb hv hs=>F.run A outer s H args us vs Q E hr he hb hv (h _ _ _ _ hs)⟩
theorem Env0.make (e:Env0 P w K mg base A outer s H)(C:Addr)(us:List Value)(kw:List (Str×Value)):Env0 P w K mg base (A.under (.builtin "type.__call__" ⟨.ref C::us,kw⟩)) outer s H:=⟨by first|exact e.frames|(simpa [Around.under,Code.envs,Code.isFrame,pushEnvs] using e.frames),e.mod,e.bs,e.bsz,e.funs,e.frf,e.hok,e.bare,e.tbs⟩
section
variable {X:Cx}{pins:List (Addr×Obj)}{U:St}{H:Hp}{s s':Shared}
theorem Inv.env0 (I:Inv X pins U H s):Env0 X.prog X.w X.K X.mg X.base X.A X.stack s H :=
 ⟨I.ok.frames,I.ok.mod,I.bs,ye I.ok.bsz I.sz,I.stack,I.stkFree,I.hok,I.bare,λp hp=>I.base.tbls _ _ _ (I.ok.tbs p hp)⟩
theorem Inv.after {Q:VK}(I:Inv X pins U H s)(h:CE X.stack X.prog X.w H s Q u s'):EP X pins U Q u s':=by obtain ⟨v,H',os,bare,un,hok,r,q⟩:=h;obtain ⟨hh,g,d,t,os'⟩:=s';obtain rfl:os'=s.os:=os;exact ⟨v,H',I.call (h':=hh) (g':=g) (d':=d) (t':=t) (ch:=[]) un hok bare (λb z=>absurd z (by simp)),r,q⟩
end
def qL (sp:Sp)(dvs:List V)(E:XK)(t:TA):TE:=λU H Q=>t U H λvs H1=>sp (vs++dvs) H1 Q E
def qi (C:Addr)(m:Str)(sp:Sp)(dvs:List V)(E:XK)(ta:TE)(t:TA):TE:=λU H Q=>ta U H λx H1=>∃ a dx fs,x = .ref a/\H1 a=some (.ins C dx fs)/\fs.lookup m=none /\
 t U H1 λvs H2=>sp (x::(vs++dvs)) H2 Q E
def wL (C:Addr)(sp:Sp)(dvs:List V)(E:XK)(t:TA):TE:=λU H Q=>t U H λvs H1=>∀ x dx,H1 x=none->H1 dx=none->dx≠x ->
 sp (.ref x::(vs++dvs)) (z7 (z7 H1 dx (.own x)) x (.ins C dx [])) (λv H2=>v = .non/\Q (.ref x) H2) E
def Binds (K:Fg)(fd:FuncData)(ps:List Str)(ds:List Value):Prop :=
 ∀(s:Shared)(us:List Value),K.In s.heap->(us++ds).length=ps.length->BindsTo s fd ⟨us,[]⟩ (ps.zip (us++ds))
theorem Binds.all (h:∀ us:List Value,us.length=ps.length->bindArgs fd ⟨us,[]⟩=pure (ps.zip us)):Binds K fd ps []:=λs us _ hl=>by
 rw [yO] at hl ⊢;exact .of_eq (h us hl)
def zl (CX:CXT)(X:Cx)(E:XK):Prop:=∀(pins:List (Addr×Obj))(U:St)(H:Hp)(s:Shared)(e:Value)(s':Shared),Inv X pins U H s->CX X.stack H s E e s'->X.xe e s'
section
variable {X:Cx}{CX:CXT}{k:Nat}{f C:Addr}{fd:FuncData}{ps:List Str}{sp:Sp}{dvs:List V}{ds:List Value}{E:XK}{x m:Str}{p pos apos:Pos}{e o:Expr}{es:List Expr}{ta:TE}{t:TA}
theorem Wp {Q:VK}(F:FnOk X.prog X.w X.K X.mg X.base CX k f fd ps sp)(hr:Room k X.A)(hb:Binds X.K fd ps ds)(hd:Vals dvs ds)(hx:zl CX X E)(I:Inv X pins U H s)(r:Vals vs us)(h:sp (vs++dvs) H Q E):wpAny (model X.prog X.w) X.A (call (.ref f) us) (EP X pins U Q) X.xe s:=by
 have r2:Vals (vs++dvs) (us++ds):=r.append hd;have hl:(us++ds).length=ps.length:=by rw [<- r2.length];exact F.len _ _ _ _ h
 refine wpAny_call (codeAny_mono (F.run X.A X.stack s H ⟨us,[]⟩ (us++ds) (vs++dvs) Q E hr I.env0 (hb s us I.kIn hl) r2 h) λr s' hq=>?_);cases r with
 |error e=>exact hx pins U H s e s' I hq
 |ok fl =>
  cases fl with
  |ret u=>exact I.after hq
  |next=>exact False.elim hq
  |brk=>exact False.elim hq
  |cont=>exact False.elim hq
theorem Bh (F:FnOk X.prog X.w X.K X.mg X.base CX k f fd ps sp)(hr:Room k X.A)(hg:Gl X x)(hm:X.mg x=some (.ref f))(hk:PySem.W.keepIn X.K (.ref f)=true)(hb:Binds X.K fd ps ds)(hd:Vals dvs ds)(hx:zl CX X E)(ha:PA X (e::es) t)(hdb:(x==("__debug__":Str))=false:=by decide)(he:starEach (e::es) X.env=(false,eval e X.env)::starEach es X.env:=by rfl)(hpl:(backTo pos (starEach es X.env)).any (·.1)=false:=by rfl):PE X (.Call (.Name x p) (e::es) [] pos) (qL sp dvs E t):=by intro pins s U H Q I h;refine wpAny_Call_Name_kw (wn I hg hm ?_ hdb);refine PySem.W.callWith_K (h₀:=X.base) I.ok.mod.kin hk (j7 (ha pos pins s U H _ I h) λus s1 ⟨vs,H1,I1,r,q⟩=>⟨I1.kIn,?_⟩) he hpl;exact Wp F hr hb hd hx I1 r q
theorem Bj (he:PE X o ta)(c:Cls X.K C)(hm:wO X.K C m f)(F:FnOk X.prog X.w X.K X.mg X.base CX k f fd ps sp)(hr:Room k X.A)(hb:Binds X.K fd ps ds)(hd:Vals dvs ds)(hx:zl CX X E)(ha:PA X (e::es) t)
  (hst:starEach (e::es) X.env=(false,eval e X.env)::starEach es X.env:=by rfl) (hpl:(backTo pos (starEach es X.env)).any (·.1)=false:=by rfl)
  (ht:eval (.Call (.Attribute o m apos) (e::es) [] pos) X.env=(do
   let ov <- eval o X.env
   standAt apos.atName
   let (f,first) <- holding [ov] (getMethod ov m pl)
   callWith pos f first (backTo pos (starEach (e::es) X.env)) (backToKw pos (keywordEach [] X.env))):=by rfl) :
  PE X (.Call (.Attribute o m apos) (e::es) [] pos) (qi C m sp dvs E ta t):=by
 intro pins s U H Q I h;refine PySem.W.methodCall_KW (pl:=pl) (j7 (he pins s U H _ I h) λu s1 zq=>?_) ht;obtain ⟨x,H1,I1,rx,a,dx,fs,ex,ea,l,q⟩:=zq;subst ex;obtain rfl:u=Value.ref a:=rx;refine VC I1 ea c hm l ?_;refine PySem.W.callWith_K (first:=[.ref a]) (h₀:=X.base) I.ok.mod.kin hm.kp (j7 (ha pos pins s1 U H1 _ I1 q) λus s2 ⟨vs,H2,I2,r,q2⟩=>⟨I2.kIn,?_⟩) hst hpl;exact Wp (us:= .ref a::us) (vs:= .ref a::vs) F hr hb hd hx I2 (.cons rfl r) q2
theorem Bk (he:PE X o ta)(c:Cls X.K C)(hm:wO X.K C m f)(F:FnOk X.prog X.w X.K X.mg X.base CX k f fd ps sp)(hr:Room k X.A)(hb:Binds X.K fd ps ds)(hd:Vals dvs ds)(hx:zl CX X E)
  (ht:eval (.Call (.Attribute o m apos) [] [] pos) X.env=(do
   let ov <- eval o X.env
   standAt apos.atName
   let (f,first) <- holding [ov] (getMethod ov m pl)
   callWith pos f first (backTo pos (starEach [] X.env)) (backToKw pos (keywordEach [] X.env))):=by rfl) :
  PE X (.Call (.Attribute o m apos) [] [] pos) (qi C m sp dvs E ta qF):=by
 intro pins s U H Q I h;refine PySem.W.methodCall_KW (pl:=pl) (j7 (he pins s U H _ I h) λu s1 zq=>?_) ht;obtain ⟨x,H1,I1,rx,a,dx,fs,ex,ea,l,q⟩:=zq;subst ex;obtain rfl:u=Value.ref a:=rx;refine VC I1 ea c hm l ?_;exact PySem.W.callWith_K0 (first:=[.ref a]) I1.kIn hm.kp (Wp (us:=[.ref a]) (vs:=[.ref a]) F hr hb hd hx I1 (.cons rfl .nil) q)
structure Mk (K:Fg)(C f:Addr):Prop where
 makes:PySem.W.makesIn K C=true
 init:PySem.W.findIn K (.ref C) "__init__"=some (some (.ref f))
 fn:PySem.W.isFn K (.ref f)=true
 kp:PySem.W.keepIn K (.ref C)=true
theorem To {Q:VK}(M:Mk X.K C f)(F:FnOk X.prog X.w X.K X.mg X.base CX k f fd ps sp)(hr:Room (k+1) X.A)(hb:Binds X.K fd ps ds)(hd:Vals dvs ds)(hx:zl CX X E)(I:Inv X pins U H s)(r:Vals vs us)(h:∀ x dx,H x=none->H dx=none->dx≠x->sp (.ref x::(vs++dvs)) (z7 (z7 H dx (.own x)) x (.ins C dx [])) (λv H2=>v = .non/\Q (.ref x) H2) E):wpAny (model X.prog X.w) X.A (call (.ref C) us) (EP X pins U Q) X.xe s:=by
 have hq:=h (s.heap.objs.size+1) s.heap.objs.size (I.hok.fresh (uM _)) (I.hok.fresh (yT _)) (yF (ut _));have I2:=Inv.made (C:=C) I;have r2:Vals (V.ref (s.heap.objs.size+1)::(vs++dvs)) (Value.ref (s.heap.objs.size+1)::(us++ds)):= .cons rfl (r.append hd);have hl:(Value.ref (s.heap.objs.size+1)::us++ds).length=ps.length:=by have e:=r2.length;rw [F.len _ _ _ _ hq] at e;exact e.symm
 refine wpAny_call (LR (f:=f) I.kIn M.makes M.init (beq_iff_eq.mp M.fn) (codeAny_mono (F.run _ X.stack _ _ ⟨Value.ref (s.heap.objs.size+1)::us,[]⟩ (Value.ref (s.heap.objs.size+1)::(us++ds)) _ _ E (hr.make C us [])
  (I2.env0.make C us []) (hb _ (Value.ref (s.heap.objs.size+1)::us) I2.kIn hl) r2 hq) λr s' hq'=>?_))
 cases r with
 |error e=>exact hx pins U _ _ e s' I2 hq'
 |ok fl =>
  cases fl with
  |ret u=>obtain ⟨v,H',I3,rv,ev,q3⟩:=I2.after hq';subst ev;exact ⟨rv,⟨V.ref (s.heap.objs.size+1),H',I3,rfl,q3⟩⟩
  |next=>exact False.elim hq'
  |brk=>exact False.elim hq'
  |cont=>exact False.elim hq'
theorem Rl (M:Mk X.K C f)(F:FnOk X.prog X.w X.K X.mg X.base CX k f fd ps sp)(hr:Room (k+1) X.A)(hg:Gl X x)(hm:X.mg x=some (.ref C))(hb:Binds X.K fd ps ds)(hd:Vals dvs ds)(hx:zl CX X E)(ha:PA X (e::es) t)(hdb:(x==("__debug__":Str))=false:=by decide)(he:starEach (e::es) X.env=(false,eval e X.env)::starEach es X.env:=by rfl)(hpl:(backTo pos (starEach es X.env)).any (·.1)=false:=by rfl):PE X (.Call (.Name x p) (e::es) [] pos) (wL C sp dvs E t):=by intro pins s U H Q I h;refine wpAny_Call_Name_kw (wn I hg hm ?_ hdb);refine PySem.W.callWith_K (h₀:=X.base) I.ok.mod.kin M.kp (j7 (ha pos pins s U H _ I h) λus s1 ⟨vs,H1,I1,r,q⟩=>⟨I1.kIn,?_⟩) he hpl;exact To M F hr hb hd hx I1 r q
end
structure v4 (N P:List Str)(sc:Scope):Prop where
 kind:sc.kind = .function
 co:sc.isCoroutine=false
 gen:sc.isGenerator=false
 nd:N.Nodup
 pre:N.take P.length=P
 par:∀ x∈P,sc.names.lookup x=some .local∨sc.names.lookup x=some .cell
 nofree:∀ y∈sc.names,y.2 ≠ .free
theorem Gi {kindOf:Str->Option NameKind}{x:Str}:∀{binds:List (Str×Value)}{m:Str->Option Value},(∀ v,(x,v)∉binds)->bindL kindOf binds m x=m x
 |[],_,_=>rfl
 |(n,v)::r,m,h=>by
  unfold bindL;rw [Gi λw hw=>h w (yS _ hw)];split
  ·have:x≠n:=by rintro rfl;exact h v yU
   simp [this]
  ·rfl
theorem Gg {kindOf:Str->Option NameKind}{x:Str}:∀{binds:List (Str×Value)}{m:Str->Option Value},(∀ v,(x,v)∉binds)->bindC kindOf binds m x=m x
 |[],_,_=>rfl
 |(n,v)::r,m,h=>by
  unfold bindC;rw [Gg λw hw=>h w (yS _ hw)];split
  ·rfl
  ·have:x≠n:=by rintro rfl;exact h v yU
   simp [this]
theorem Gh {kindOf:Str->Option NameKind}{x:Str}{v:Value}:∀{P:List Str}{vs:List Value}{i:Nat}{m:Str->Option Value},P.Nodup->P[i]?=some x->vs[i]?=some v->kindOf x=some .local -> bindL kindOf (P.zip vs) m x=some v
 |[],_,_,_,_,h,_,_=>by simp at h
 |_::_,[],_,_,_,_,h,_=>by simp at h
 |p::P,w::vs,0,m,nd,h1,h2,hk=>by
  simp at h1 h2;subst h1;subst h2;show bindL kindOf ((p,w)::P.zip vs) m p=_;unfold bindL;rw [Gi λv hv=>(ym.mp nd).1 (List.of_mem_zip hv).1,if_pos hk];simp
 |p::P,w::vs,i+1,m,nd,h1,h2,hk=>by
  show bindL kindOf ((p,w)::P.zip vs) m x=_;unfold bindL;exact Gh (i:=i) (ym.mp nd).2 (by simpa using h1) (by simpa using h2) hk
theorem Gf {kindOf:Str->Option NameKind}{x:Str}{v:Value}:∀{P:List Str}{vs:List Value}{i:Nat}{m:Str->Option Value},P.Nodup->P[i]?=some x->vs[i]?=some v->kindOf x≠some .local -> bindC kindOf (P.zip vs) m x=some v
 |[],_,_,_,_,h,_,_=>by simp at h
 |_::_,[],_,_,_,_,h,_=>by simp at h
 |p::P,w::vs,0,m,nd,h1,h2,hk=>by
  simp at h1 h2;subst h1;subst h2;show bindC kindOf ((p,w)::P.zip vs) m p=_;unfold bindC;rw [Gg λv hv=>(ym.mp nd).1 (List.of_mem_zip hv).1,if_neg hk];simp
 |p::P,w::vs,i+1,m,nd,h1,h2,hk=>by
  show bindC kindOf ((p,w)::P.zip vs) m x=_;unfold bindC;exact Gf (i:=i) (ym.mp nd).2 (by simpa using h1) (by simpa using h2) hk
def start (N:List Str)(vs:List V):St:=vs.map some++List.replicate (N.length-vs.length) none
def qr (CX:CXT)(P:Program)(w:World)(K:Fg)(mg:Str->Option Value)(base:Heap)(N:List Str)(qual:Str)(scope:Scope)(f:Addr)(cd:Value)(A:Around)(outer:List Env)(s:Shared)(H:Hp)(E:XK):Cx where
 prog:=P
 w:=w
 K:=K
 mg:=mg
 base:=base
 A:=A.deeper (envOfC qual scope s.heap.objs.size f cd)
 N:=N
 s₀:=s
 H₀:=H
 env:=envOfC qual scope s.heap.objs.size f cd
 outer:=outer
 stack:=envOfC qual scope s.heap.objs.size f cd::outer
 ex:=[]
 calm:=true
 fn:=λ_=>true
 pn:=[]
 xe:=λe s'=>wpAny (model P w) (A.deeper (envOfC qual scope s.heap.objs.size f cd)) (leaving (envOfC qual scope s.heap.objs.size f cd) e) (λ_ s''=>CX outer H s E e s'') (λe' s''=>CX outer H s E e' s'') s'
theorem Gw {sc:Scope}(h:sc.names.lookup x=some .cell):∃ c,(cellsFrom n sc.names []).lookup x=some c:=by have q:=PySem.W.cellsFrom_some sc.names n [] (.inl h);exact Option.isSome_iff_exists.mp q
theorem Le {f:Addr}{cd:Value}{s1:Shared}{E:XK}(S:v4 N ps scope)(hd:A.handled=none)(e0:Env0 P w K mg base A outer s H)(hl:vs.length=ps.length)(r:Vals vs us)(x:InCallC s s.heap.objs.size (bindL (envOfC qual scope s.heap.objs.size f cd).kindOf (ps.zip us) λ_=>none) (cellsFrom (s.heap.objs.size+1) scope.names []) (bindC (envOfC qual scope s.heap.objs.size f cd).kindOf (ps.zip us) λ_=>none) s1):Inv (qr CX P w K mg base N qual scope f cd A outer s H E) [] (start N vs) H s1:=by
 have hpl:ps.length<=N.length:=by have:=congrArg List.length S.pre;rw [List.length_take] at this;omega
 obtain ⟨h1,tk,rfl,hk⟩:=x.done;have noA:∀ b:Addr,b∉(qr CX P w K mg base N qual scope f cd A outer s H E).ex:=λb z=>absurd (show b∈([]:List Addr) from z) (by simp);refine ⟨⟨e0.mod,S.kind,rfl,rfl,yT _,λy z c h1 h2=>?_,λy hy=>?_,λy c _ h=>?_,λ_=>hd,Around.frames_deeper e0.frames,.inr ⟨rfl,rfl⟩,λb z=>absurd z (noA b),e0.bs,e0.bsz,λb _ _=>noA b,λb z=>absurd z (noA b),e0.funs,e0.frf,e0.tbs⟩,
  rfl,e0.bare,Un.kept hk,⟨_,x.toInCall.ns,λi y v h1 h2 h3=>?_⟩,λy c h=>⟨_,x.cell y c h⟩,e0.hok.fresh (yT _),λy c h=>?_,λp hp=>absurd (show p∈([]:List (Addr×Obj)) from hp) (by simp),e0.hok.kept hk,?_⟩
 ·exact name_of_addr x.apart (PySem.mem_of_lookup h1) (PySem.mem_of_lookup h2)
 ·have hy:scope.names.lookup y=some .cell∨scope.names.lookup y=some .free:=hy;rcases hy with hy|hy
  ·exact Gw hy
  ·exact absurd rfl (S.nofree _ (PySem.mem_of_lookup hy))
 ·exact yb (x.above y c (PySem.mem_of_lookup h))
 ·have hi:i<vs.length:=by
   unfold start at h2;by_cases hi:i<vs.length
   ·exact hi
   ·rw [uQ (by simpa using hi)] at h2;rw [uJ] at h2;split at h2<;>cases h2
  have ha:vs[i]?=some v:=by
   unfold start at h2;rw [uZ (by simpa using hi),yK] at h2;cases e:vs[i]? with
   |none=>rw [e] at h2;cases h2
   |some a=>rw [e] at h2;cases h2;rfl
  obtain ⟨u,hu,rv⟩:=r.get ha;have hp:ps[i]?=some y:=by rw [<- S.pre,List.getElem?_take_of_lt (by omega)];exact h1
  have ndP:ps.Nodup:=by rw [<- S.pre];exact S.nd.sublist (List.take_sublist _ _)
  refine ⟨u,rv,?_⟩;rcases S.par y (uC hp) with k|k
  ·exact .inl ⟨k,Gh ndP hp hu k⟩
  ·obtain ⟨c,e⟩:=Gw (n:=s.heap.objs.size+1) k;refine .inr ⟨.inl k,c,e,?_⟩;have q:=x.cell y c e;rw [Gf ndP hp hu (by show scope.names.lookup y≠_;rw [k];decide)] at q;exact q
 ·exact e0.hok.fresh (yb (x.above y c (PySem.mem_of_lookup h)))
 ·unfold start;show _=N.length;rw [yL,yZ,uF];omega
theorem Jj {k:Nat}{f:Addr}{name:Str}{params:Arguments}{dV kV doc pm cdv ct oc:Value}{an od:Option Addr}{osl:Array (Option Value)}(lk:K.lookup f=some ⟨oc,od,.func (PySem.W.fnOf name qual params body scope dV kV doc pm an cdv ct),osl⟩)(hcd:PySem.W.codeIn K cdv qual=true)(S:v4 N ps scope)(len:∀ vs H Q E,sp vs H Q E->vs.length=ps.length)(hbody:∀(A:Around)(outer:List Env)(s:Shared)(H:Hp)(vs:List V)(Q:VK)(E:XK),Room k (A.deeper (envOfC qual scope s.heap.objs.size f cdv))->sp vs H Q E -> ∃ t,PSs (qr CX P w K mg base N qual scope f cdv A outer s H E) body t/\t { nx:=λ_ H'=>Q .non H',rt:=Q } (start N vs) H):FnOk P w K mg base CX (k+1) f (PySem.W.fnOf name qual params body scope dV kV doc pm an cdv ct) ps sp:=by
 refine ⟨len,λA outer s H args us vs Q E hr e0 hb r hsp=>?_⟩;have hl:=len _ _ _ _ hsp;have KX:K.In s.heap:=e0.mod.kin.keeps λb o e=>(e0.bs b o e).1;have lim:s.heap.NoLimit:=e0.mod.nolimit.keeps λb o e=>(e0.bs b o e).1;have hkind:∀ y∈ps.zip us,scope.names.lookup y.1=some .local∨(scope.names.lookup y.1=some .cell/\((cellsFrom (s.heap.objs.size+1) scope.names []).lookup y.1).isSome=true):=λ⟨n,v⟩ hy=>by
  rcases S.par n (List.of_mem_zip hy).1 with q|q
  ·exact .inl q
  ·exact .inr ⟨q,PySem.W.cellsFrom_some _ _ _ (.inl q)⟩
 refine codeAny_call_function hr.depth (KX _ _ lk) rfl S.co S.gen rfl (PySem.W.codeRec_of KX hcd) (hb _ _ _ _ ?_);refine wpAny_newFunctionEnv_cells S.kind hkind λenv he s1 x=>?_;subst he;refine ⟨lim.keeps x.toInCall.keep,codeAny_func ?_⟩;obtain ⟨t,ht,hq⟩:=hbody A outer s H vs Q E (hr.deeper _) hsp;have I:Inv (qr CX P w K mg base N qual scope f cdv A outer s H E) [] (start N vs) H s1:=Le S hr.hd e0 hl r x;refine wpAny_mono (ht [] s1 (start N vs) H _ I hq) (λfl s' hs=>?_) λe s' hs=>hs;have fin:∀{σ':St}{H':Hp}{v:V}{u:Value},Inv (qr CX P w K mg base N qual scope f cdv A outer s H E) [] σ' H' s'->RelV v u->Q v H'->CE outer P w H s Q u s' :=
  λ{σ' H' v u} J rv q=>⟨v,H',J.os,J.bare,J.base,J.hok,rv,q⟩
 cases fl with
 |ret u=>obtain ⟨v,σ',H',J,rv,q⟩:=hs;exact fin J rv q
 |next=>obtain ⟨σ',H',J,q⟩:=hs;exact fin (v:=V.non) (u:=Value.none) J rfl q
 |brk=>obtain ⟨_,_,_,q⟩:=hs;exact False.elim q
 |cont=>obtain ⟨_,_,_,q⟩:=hs;exact False.elim q
section
variable {X:Cx}{x:Str}{p pos:Pos}{e:Expr}{es:List Expr}{t:TA}{id T:String}{r:List V->Hp->VK->Prop}
def tCB (r:List V->Hp->VK->Prop)(t:TA):TE:=λU H Q=>t U H λvs H1=>r vs H1 Q
theorem i8 (hc:CallR X (.builtin id) r)(hg:Gl X x)(hm:X.mg x=none)(hv:bootBuiltins x=some (.builtin id))(ha:PA X (e::es) t)(hn:x ≠ "__name__":=by decide)(hdb:(x==("__debug__":Str))=false:=by decide)(he:starEach (e::es) X.env=(false,eval e X.env)::starEach es X.env:=by rfl)(hpl:(backTo pos (starEach es X.env)).any (·.1)=false:=by rfl):PE X (.Call (.Name x p) (e::es) [] pos) (tCB r t):=by intro pins s U H Q I h;refine wpAny_Call_Name_kw (wm I hg hm hv ?_ hn hdb);exact PyProof.Rows.callWith_builtin1 (j7 (ha pos pins s U H _ I h) λus s1 ⟨vs,H1,I1,r1,q1⟩=>hc pins s1 U H1 vs us Q I1 r1 q1) he hpl
theorem ja (hc:CallR X (.type T) r)(hg:Gl X x)(hm:X.mg x=none)(hv:bootBuiltins x=some (.type T))(ha:PA X (e::es) t)(hn:x ≠ "__name__":=by decide)(hdb:(x==("__debug__":Str))=false:=by decide)(he:starEach (e::es) X.env=(false,eval e X.env)::starEach es X.env:=by rfl)(hpl:(backTo pos (starEach es X.env)).any (·.1)=false:=by rfl):PE X (.Call (.Name x p) (e::es) [] pos) (tCB r t):=by intro pins s U H Q I h;refine wpAny_Call_Name_kw (wm I hg hm hv ?_ hn hdb);exact PyProof.Rows.callWith_type1 (j7 (ha pos pins s U H _ I h) λus s1 ⟨vs,H1,I1,r1,q1⟩=>hc pins s1 U H1 vs us Q I1 r1 q1) he hpl
end
end L2
namespace HT
open PySem PyProof.Rows
section
variable {prog:Program}{w:World}{A:Around}{E:Value->Shared->Prop}{s:Shared}
theorem cat_tup {t b:Addr}{vs ws:List Value}{Q:Value->Shared->Prop}(ht:IsTup s.heap t vs.toArray)(hb:IsTup s.heap b ws.toArray)(hv:vs≠[])(h1:ws=[]->Q (.ref t) s)(h2:ws≠[]->Q (.ref s.heap.objs.size) { s with heap:=s.heap.push { cls:= .type "tuple",data:= .seq (vs++ws).toArray } })(hsz:vs.length+ws.length<=sizeLine):wpAny (model prog w) A (binaryOp .Add (.ref t) (.ref b)) Q E s:=by
 obtain ⟨⟨cls,dd,data,sl⟩,ho,hc,n,hd⟩:=id ht;obtain ⟨⟨cls2,dd2,data2,sl2⟩,ho2,hc2,n2,hd2⟩:=id hb;simp only at hc hd hc2 hd2;subst hc hd hc2 hd2;have e:vs.toArray++ws.toArray=(vs++ws).toArray:=by simp
 by_cases hw:ws=[]
 ·exact concat_meets ⟨_,ho,rfl⟩ ⟨_,ho2,rfl⟩ noFill_tuple_add seq_tuple_add PySem.F.slot_tuple_add PySem.F.entry_tuple_add (PySem.F.args_tuple_add_2 _ _)
   (tuple_addW1 t b vs.toArray ws.toArray n n2 dd dd2 sl sl2 (by simpa using hv) (by simp [hw])) ⟨ho,ho2,h1 hw⟩
 ·refine concat_meets ⟨_,ho,rfl⟩ ⟨_,ho2,rfl⟩ noFill_tuple_add seq_tuple_add PySem.F.slot_tuple_add PySem.F.entry_tuple_add (PySem.F.args_tuple_add_2 _ _)
   (tuple_addW2 t b vs.toArray ws.toArray n n2 dd dd2 sl sl2 (by simpa using hv) (by simpa using hw) (by rw [yV,yV];exact hsz)) ⟨ho,ho2,?_⟩
  rw [e];exact h2 hw
end
end HT
namespace L2
open PySem PySem.Spec PyProof.Rows
variable{xs:List (b7×Addr×Value)}{its its' us:List Value}{j n t':Nat}{α:Type}{r:R2}{pins:List (Addr×Obj)}{U:St}{H H':Hp}{s:Shared}{A:Around}{x y:V}{u v:Value}{T:String}{o:Option V}{P:Program}{w:World}{fl:Bool}{kvs:List (b7×V)}{a:Addr}{Q:Value->Shared->Prop}{h':Heap}
section
variable {X:Cx}{e:Expr}{te:TE}{lo hi:Option Expr}{pos p2:Pos}
def Bw (K:Fg):R2:=λx y H Q=>∃ a b xs ys,x = .ref a/\y = .ref b/\SqT K H a xs/\SqT K H b ys/\xs≠[]/\xs.length+ys.length<=sizeLine /\
 (ys=[]->Q (.ref a) H)/\(ys≠[]->∀ p,H p=none->Q (.ref p) (z7 H p (.tup (xs++ys))))
theorem Vals.nil_iff {xs:List V}(r:Vals xs us):us=[]↔xs=[]:=by
 cases r with
 |nil=>simp
 |cons _ _=>simp
theorem HL:OpR X (binaryOp .Add) (Bw X.K):=by intro pins s U H x y v u Q I rx ry h;obtain ⟨a,b,xs,ys,rfl,rfl,ha,hb,hx,hz,q1,q2⟩:=h;cases rx;cases ry;obtain ⟨its,r1,p1,_⟩:=I.tuple ha;obtain ⟨its2,r2,p2,_⟩:=I.tuple hb;refine HT.cat_tup p1 p2 (λz=>hx (r1.nil_iff.mp z)) (λz=>⟨.ref a,H,I,rfl,q1 (r2.nil_iff.mp z)⟩) (λz=>?_) (by rw [<- r1.length,<- r2.length];exact hz);refine ⟨.ref s.heap.objs.size,_,I.laid (t':=s.toks) (o:= .tup (xs++ys)) (λb ob q=>yW _ q) (yT _) ?_,rfl,q2 (λw=>z (r2.nil_iff.mpr w)) _ (I.hok.fresh (yT _))⟩;exact ⟨by rw [yL];exact hz,_,r1.append r2,IsTup.new _ _⟩
end
def ixN (n:Nat)(i:Int):Option Nat:=if 0<=i then (if i<n then some i.toNat else none) else if -(n:Int)<=i then some (i+n).toNat else none
def atI {α:Type}(xs:List α)(i:Int):Option α:=(ixN xs.length i).bind λj=>xs[j]?
theorem Kw {i:Int}(h:ixN n i=some j):seqIndex? i n=some j/\j<n/\-(n:Int)<=i/\i<n:=by
 unfold ixN at h;by_cases h0:0<=i
 ·rw [if_pos h0] at h;by_cases h1:i<n
  ·rw [if_pos h1] at h;have e:i.toNat=j:=Option.some.inj h;exact ⟨by rw [seqIndex_of h0 h1,e],by omega,by omega,h1⟩
  ·rw [if_neg h1] at h;cases h
 ·rw [if_neg h0] at h;by_cases h1:-(n:Int)<=i
  ·rw [if_pos h1] at h;have e:(i+n).toNat=j:=Option.some.inj h;exact ⟨by rw [seqIndex_neg (by omega) h1,e],by omega,h1,by omega⟩
  ·rw [if_neg h1] at h;cases h
theorem Vk {xs:List α}{i:Int}{v:α}(h:atI xs i=some v):∃ j,seqIndex? i xs.length=some j/\xs[j]?=some v/\j<xs.length/\-(xs.length:Int)<=i/\i<xs.length:=by
 unfold atI at h;cases e:ixN xs.length i with
 |none=>rw [e] at h;cases h
 |some j=>rw [e] at h;obtain ⟨h1,h2,h3,h4⟩:=Kw e;exact ⟨j,h1,h,h2,h3,h4⟩
theorem xz {xs:List α}{v:α}(h:xs[j]?=some v):atI xs (j:Int)=some v:=by
 have hj:j<xs.length:=(yk.mp h).1;have e:ixN xs.length (j:Int)=some j:=by unfold ixN;rw [if_pos (by omega),if_pos (by omega)];simp
 unfold atI;rw [e];exact h
def Uc (b:Expr):Prop:=∀ o i,subscripted b false o i=operate [o,i] (getItem o i)
def IxR (X:Cx)(r:R2):Prop :=
 ∀(value slice:Expr)(pins:List (Addr×Obj))(s:Shared)(U:St)(H:Hp)(x y:V)(v u:Value)(Q:VK),Inv X pins U H s->RelV x v->RelV y u->r x y H Q ->
  subscripted slice false v u=operate [v,u] (getItem v u)->wpAny (model X.prog X.w) X.A (subscriptTail value slice v u) (EP X pins U Q) X.xe s
def MtR (X:Cx)(id:String)(r:V->List V->Hp->VK->Prop):Prop :=
 ∀(pins:List (Addr×Obj))(s:Shared)(U:St)(H:Hp)(x:V)(xs:List V)(v:Value)(us:List Value)(Q:VK),Inv X pins U H s->RelV x v->Vals xs us->r x xs H Q ->
  wpAny (model X.prog X.w) X.A (call (.builtin id) (v::us)) (EP X pins U Q) X.xe s
section
variable {X:Cx}{a b:Expr}{ta tb:TE}{pos:Pos}
theorem IxR.or {r':R2}(h:IxR X r)(h':IxR X r'):IxR X (λx y H Q=>r x y H Q∨r' x y H Q):=by
 intro value slice pins s U H x y v u Q I rx ry q hs;rcases q with q|q
 ·exact h value slice pins s U H x y v u Q I rx ry q hs
 ·exact h' value slice pins s U H x y v u Q I rx ry q hs
theorem JI (hr:IxR X r)(ha:PE X a ta)(hb:PE X b tb)(hs:Uc b):PE X (.Subscript a b pos) (tOp r ta tb):=by intro pins s U H Q I h;exact Subscript_ (binT ha hb I h λv u s2 x y H2 I2 rx ry q=>hr a b pins s2 U H2 x y v u Q I2 rx ry q (hs _ _))
def rIxL (K:Fg):R2:=λx y H Q=>∃ p xs i v,x = .ref p/\y = .int i/\SqL K H p xs/\atI xs i=some v/\Q v H
def rIxT (K:Fg):R2:=λx y H Q=>∃ p xs i v,x = .ref p/\y = .int i/\SqT K H p xs/\atI xs i=some v/\Q v H
def rIxS:R2:=λx y H Q=>∃ z i c,x = .str z/\y = .int i/\z.length<=sizeLine/\atI z.cps.toList i=some c/\Q (.str ⟨#[c]⟩) H
theorem ix_list:IxR X (rIxL X.K):=by
 intro value slice pins s U H x y v u Q I rx ry h hs;obtain ⟨p,xs,i,z,rfl,rfl,hq,he,q⟩:=h;cases rx;obtain ⟨t,rfl⟩:=ry;obtain ⟨its,r,pl,hz⟩:=I.list hq;obtain ⟨j,h1,h2,h3,h4,h5⟩:=Vk he;obtain ⟨w,ew,rw'⟩:=r.get h2;have hl:=r.length;have hn:=wo;have fin:EP X pins U Q w s:=⟨z,H,I,rw',q⟩;by_cases h0:0<=i
 ·have hj:i.toNat=j:=by rw [seqIndex_of h0 h5] at h1;exact Option.some.inj h1
  exact item_listR pl.isList h0 (by omega) (by rw [hj];simpa using ew) fin hs
 ·have hj:(i+(its.toArray.size:Int)).toNat=j:=by rw [seqIndex_neg (by omega) h4] at h1;rw [yV,<- hl];exact Option.some.inj h1
  exact subscriptTail_builtinR (x:=w) pl.isList.typeIs slot_list_getitem.lookup
   (wpAny_getItem_list_neg (Q:=λr s'=>r=w/\EP X pins U Q r s') pl.isList (by omega) (by rw [yV]<;>omega) (by omega) (by rw [hj];simpa using ew) ⟨rfl,fin⟩) hs
theorem ix_tup:IxR X (rIxT X.K):=by
 intro value slice pins s U H x y v u Q I rx ry h hs;obtain ⟨p,xs,i,z,rfl,rfl,hq,he,q⟩:=h;cases rx;obtain ⟨t,rfl⟩:=ry;obtain ⟨its,r,pl,hz⟩:=I.tuple hq;obtain ⟨j,h1,h2,h3,h4,h5⟩:=Vk he;obtain ⟨w,ew,rw'⟩:=r.get h2;have hl:=r.length;have hn:=wo;have fin:EP X pins U Q w s:=⟨z,H,I,rw',q⟩;exact subscriptTail_builtinR (x:=w) pl.typeIs slot_tuple_getitem.lookup
  (getItem_tuple (j:=j) (Q:=λr s'=>r=w/\EP X pins U Q r s') pl (by omega) (by omega) (by rw [yV,<- hl];exact h1) (by simpa using ew) ⟨rfl,fin⟩) hs
theorem Lr:IxR X rIxS:=by
 intro value slice pins s U H x y v u Q I rx ry h hs;obtain ⟨z,i,c,rfl,rfl,hz,he,q⟩:=h;obtain ⟨t,rfl⟩:=rx;obtain ⟨t',rfl⟩:=ry;obtain ⟨j,h1,h2,h3,h4,h5⟩:=Vk he;have hl:z.cps.toList.length=z.length:=by simp [Str.length]
 rw [hl] at h1 h4 h5;have hn:=wo;exact tail_any (typeIs_str s z t) slot_str_getitem.lookup (getItem_str (c:=c) (by
  have e1:decide (i < -(2 ^ 63:Int))=false:=yP (by omega);have e2:decide (i >= 2 ^ 63)=false:=yP (by omega);rw [e1,e2,Bool.or_false]) (by rw [h1];simpa using h2) ⟨.str ⟨#[c]⟩,H,I.tok _,⟨_,rfl⟩,q⟩) hs
def rIx (K:Fg):R2:=λx y H Q=>rIxL K x y H Q∨rIxT K x y H Q∨rIxS x y H Q
theorem Lp:IxR X (rIx X.K):=ix_list.or (ix_tup.or Lr)
theorem LV (its:List Value)(n j:Nat)(u:Value):Obj.mapSeq (·.setIfInBounds j u) { cls:= .type "list",data:= .seq its.toArray n }={ cls:= .type "list",data:= .seq (its.set j u).toArray n }:=by simp [Obj.mapSeq]
theorem Inv.lst {pins:List (Addr×Obj)}{U:St}{H:Hp}{s:Shared}{p:Addr}{xs:List V}(I:Inv X pins U H s)(h:H p=some (.lst xs)):∃ (its:List Value) (n:Nat),Vals xs its/\s.heap.get? p=some { cls:= .type "list",data:= .seq its.toArray n }/\xs.length<=sizeLine:=by obtain ⟨z,its,n,r,e⟩:=I.hok p _ h;exact ⟨its,n,r,e,z⟩
theorem Inv.lstUpd {p:Addr}{xs ys:List V}{n':Nat}{f:Obj->Obj}(I:Inv X pins U H s)(h:H p=some (.lst xs))(ho:s.heap.get? p=some { cls:= .type "list",data:= .seq its.toArray n })(hf:f { cls:= .type "list",data:= .seq its.toArray n }={ cls:= .type "list",data:= .seq its'.toArray n' })(r:Vals ys its')(hz:ys.length<=sizeLine)(t:Nat):Inv X pins U (z7 H p (.lst ys)) { s with heap:=s.heap.update p f,toks:=t }:=by
 have e:(s.heap.update p f).get? p=some { cls:= .type "list",data:= .seq its'.toArray n' }:=by rw [ux f ho (by rw [hf]<;>rfl),hf]
 refine I.write (x:=p) (e:=p) (by rw [h];trivial) (.inl rfl) (λb u hb q=>(uU _ _ (Ne.symm hb)).trans q) ⟨_,e⟩ ?_;exact ⟨hz,its',n',r,e⟩
def rSetL:V->V->V->Hp->(Hp->Prop)->Prop:=λo i v H Q=>∃ p xs k j,o = .ref p/\i = .int k/\H p=some (.lst xs)/\ixN xs.length k=some j/\Q (z7 H p (.lst (xs.set j v)))
theorem Sr:PSet X rSetL:=by
 intro pins s U H o i v ov iv u Q I ro ri rv h;obtain ⟨p,xs,k,j,rfl,rfl,hp,hj,q⟩:=h;cases ro;obtain ⟨t,rfl⟩:=ri;obtain ⟨its,n,r,ho,hz⟩:=I.lst hp;obtain ⟨h1,h2,h3,h4⟩:=Kw hj;have hl:=r.length;have hn:=wo;have I':Inv X pins U (z7 H p (.lst (xs.set j v))) { s with heap:=s.heap.update p (Obj.mapSeq (·.setIfInBounds j u)) } :=
  I.lstUpd hp ho (LV its n j u) (r.set rv j) (by rw [yi];exact hz) s.toks
 by_cases h0:0<=k
 ·have hk:k.toNat=j:=by rw [seqIndex_of h0 h4] at h1;exact Option.some.inj h1
  exact PySem.W.ki_setAt ho h0 (by omega) (by rw [yV,<- hl];exact h4) (by rw [hk];exact ⟨_,I',q⟩)
 ·have hk:(k+(its.toArray.size:Int)).toNat=j:=by rw [seqIndex_neg (by omega) h3] at h1;rw [yV,<- hl];exact Option.some.inj h1
  exact PySem.W.ki_setBack ho (by omega) (by rw [yV,<- hl];exact h3) (by omega) (by rw [hk];exact ⟨_,I',q⟩)
def u4:V->Bool
 | .non=>true
 | .bl _=>true
 | .int _=>true
 | .str _=>true
 |_=>false
def qQ:V->V->Bool
 | .non,.non=>true
 | .bl a,.bl b=>a==b
 | .bl a,.int b=>(if a then 1 else 0)==b
 | .int a,.bl b=>a==(if b then 1 else 0)
 | .int a,.int b=>a==b
 | .str a,.str b=>a==b
 |_,_=>false
theorem Vv (ry:RelV y u)(rx:RelV x v)(fy:u4 y=true)(fx:u4 x=true):SeqAt.EqAt A s u v (qQ y x):=by
 cases y with
 |non =>
  cases ry;cases x with
  |non=>cases rx;exact SeqAt.EqAt.same _
  |bl b=>cases rx;exact SeqAt.EqAt.none_bool b
  |int b=>obtain ⟨t,rfl⟩:=rx;exact SeqAt.EqAt.none_int b t
  |str b=>obtain ⟨t,rfl⟩:=rx;exact SeqAt.EqAt.none_str b t
  |_=>exact absurd (show false=true from fx) yR
 |bl a =>
  cases ry;cases x with
  |non=>cases rx;exact SeqAt.EqAt.bool_none a
  |bl b=>cases rx;exact SeqAt.EqAt.bool_bool a b
  |int b=>obtain ⟨t,rfl⟩:=rx;exact SeqAt.EqAt.bool_int a b t
  |str b=>obtain ⟨t,rfl⟩:=rx;exact SeqAt.EqAt.bool_str a b t
  |_=>exact absurd (show false=true from fx) yR
 |int a =>
  obtain ⟨t',rfl⟩:=ry;cases x with
  |non=>cases rx;exact SeqAt.EqAt.int_none a t'
  |bl b=>cases rx;exact SeqAt.EqAt.int_bool a t' b
  |int b=>obtain ⟨t,rfl⟩:=rx;exact SeqAt.EqAt.int_int a t' b t
  |str b=>obtain ⟨t,rfl⟩:=rx;exact SeqAt.EqAt.int_str a t' b t
  |_=>exact absurd (show false=true from fx) yR
 |str a =>
  obtain ⟨t',rfl⟩:=ry;cases x with
  |non=>cases rx;exact SeqAt.EqAt.str_none a t'
  |bl b=>cases rx;exact SeqAt.EqAt.str_bool a t' b
  |int b=>obtain ⟨t,rfl⟩:=rx;exact SeqAt.EqAt.str_int a t' b t
  |str b=>obtain ⟨t,rfl⟩:=rx;exact SeqAt.EqAt.str_str a t' b t
  |_=>exact absurd (show false=true from fx) yR
 |_=>exact absurd (show false=true from fy) yR
def eqU (x:V)(u:Value):Bool:=match u with
 | .none=>qQ .non x
 | .bool b=>qQ (.bl b) x
 | .int i _=>qQ (.int i) x
 | .str z _=>qQ (.str z) x
 |_=>false
theorem GS (r:RelV y u)(f:u4 y=true):eqU x u=qQ y x:=by
 cases y with
 |non=>cases r;rfl
 |bl b=>cases r;rfl
 |int i=>obtain ⟨t,rfl⟩:=r;rfl
 |str z=>obtain ⟨t,rfl⟩:=r;rfl
 |_=>exact absurd (show false=true from f) yR
theorem Xu {x:V}:∀{xs:List V}{us:List Value},Vals xs us->xs.all u4=true->us.any (eqU x)=xs.any λy=>qQ y x
 |_,_,.nil,_=>rfl
 |y::xs,u::us,.cons r t,f=>by
  rw [List.all_cons,yn] at f;rw [List.any_cons,List.any_cons,GS r f.1,Xu t f.2]
theorem Za {A:Around}{s:Shared}{x:V}{v:Value}(rx:RelV x v)(fx:u4 x=true):∀{xs:List V}{us:List Value},Vals xs us->xs.all u4=true->∀ u∈us,SeqAt.EqAt A s u v (eqU x u)
 |_,_,.nil,_=>λu hu=>by cases hu
 |y::xs,u::us,.cons r t,f=>λu' hu=>by
  rw [List.all_cons,yn] at f;rcases yD.mp hu with rfl|hu
  ·rw [GS r f.1];exact Vv r rx f.1 fx
  ·exact Za rx fx t f.2 u' hu
def inV (x:V)(xs:List V):Bool:=xs.any λy=>qQ y x
def rIn (K:Fg)(neg:Bool):R2:=λx y H Q=>∃ p xs,y = .ref p/\(SqL K H p xs∨SqT K H p xs)/\u4 x=true/\xs.all u4=true/\Q (.bl (if neg then !inV x xs else inV x xs)) H
theorem HN:OpR X (compareOp .In) (rIn X.K false):=by
 intro pins s U H x y v u Q I rx ry h;obtain ⟨p,xs,rfl,hq,fx,fs,q⟩:=h;cases ry;rcases hq with hq|hq
 ·obtain ⟨its,r,pl,hz⟩:=I.list hq;refine SeqAt.in_listAt (eqU x) pl.isList (λw hw=>Za rx fx r fs w (by simpa using hw)) ⟨.bl _,H,I,rfl,?_⟩;rw [show its.toArray.any (eqU x)=its.any (eqU x) by simp,Xu r fs];exact q
 ·obtain ⟨its,r,pl,hz⟩:=I.tuple hq;refine SeqAt.in_tupleAt (eqU x) pl (λw hw=>Za rx fx r fs w (by simpa using hw)) ⟨.bl _,H,I,rfl,?_⟩;rw [show its.toArray.any (eqU x)=its.any (eqU x) by simp,Xu r fs];exact q
theorem HW:OpR X (compareOp .NotIn) (rIn X.K true):=by
 intro pins s U H x y v u Q I rx ry h;obtain ⟨p,xs,rfl,hq,fx,fs,q⟩:=h;cases ry;rcases hq with hq|hq
 ·obtain ⟨its,r,pl,hz⟩:=I.list hq;refine SeqAt.notIn_listAt (eqU x) pl.isList (λw hw=>Za rx fx r fs w (by simpa using hw)) ⟨.bl _,H,I,rfl,?_⟩;rw [show its.toArray.any (eqU x)=its.any (eqU x) by simp,Xu r fs];exact q
 ·obtain ⟨its,r,pl,hz⟩:=I.tuple hq;refine SeqAt.notIn_tupleAt (eqU x) pl (λw hw=>Za rx fx r fs w (by simpa using hw)) ⟨.bl _,H,I,rfl,?_⟩;rw [show its.toArray.any (eqU x)=its.any (eqU x) by simp,Xu r fs];exact q
theorem Dm:CallR X (.builtin "len") (λxs H Q=>∃ p ys,xs=[.ref p]/\(SqL X.K H p ys∨SqT X.K H p ys)/\Q (.int ys.length) H):=by
 intro pins s U H xs us Q I r h;obtain ⟨p,ys,rfl,hq,q⟩:=h;obtain ⟨u,rfl,rx⟩:=zk r;cases rx;have hn:=wo;rcases hq with hq|hq
 ·obtain ⟨its,r',pl,hz⟩:=I.list hq;have hlen:=r'.length;exact Calls.call_len_list pl.isList (by simp only [yV]<;>omega) ⟨.int ys.length,H,I.tok _,⟨s.toks+1,by rw [yV,hlen]⟩,q⟩
 ·obtain ⟨its,r',pl,hz⟩:=I.tuple hq;have hlen:=r'.length;exact len_tuple pl (by simp only [yV]<;>omega) ⟨.int ys.length,H,I.tok _,⟨s.toks+1,by rw [yV,hlen]⟩,q⟩
theorem CallR.or {f:Value}{r r':List V->Hp->VK->Prop}(h:CallR X f r)(h':CallR X f r'):CallR X f (λxs H Q=>r xs H Q∨r' xs H Q):=by
 intro pins s U H xs us Q I rs q;rcases q with q|q
 ·exact h pins s U H xs us Q I rs q
 ·exact h' pins s U H xs us Q I rs q
theorem Do:CallR X (.type "list") (λxs H Q=>∃ p ys,xs=[.ref p]/\(SqL X.K H p ys∨SqT X.K H p ys)/\∀ l,H l=none->Q (.ref l) (z7 H l (.lst ys))):=by
 intro pins s U H xs us Q I r h;obtain ⟨p,ys,rfl,hq,q⟩:=h;obtain ⟨u,rfl,rx⟩:=zk r;cases rx;have fin:∀(its:List Value),Vals ys its->ys.length<=sizeLine->∀(h':Heap)(c':Nat),(∀ b o',s.heap.get? b=some o'->h'.get? b=some o') ->
   h'.get? s.heap.objs.size=some { cls:= .type "list",dict:=none,data:= .seq its.toArray c',slots:=#[] }->EP X pins U Q (.ref s.heap.objs.size) { s with heap:=h' }:=λits r' hz h' c' kp e =>
  ⟨.ref s.heap.objs.size,_,I.laid (t':=s.toks) kp (yT _) (show ObjOk X.prog X.w _ h' _ (.lst ys) from ⟨hz,its,c',r',e⟩),rfl,q _ (I.hok.fresh (yT _))⟩
 rcases hq with hq|hq
 ·obtain ⟨its,r',pl,hz⟩:=I.list hq;have hlen:=r'.length;obtain ⟨o,ho,hc,n,hd⟩:=pl.isList;exact call_list_seq p (.inl rfl) ho hc hd (λh' c' kp e=>fin its r' hz h' c' kp e) (by simp only [yV]<;>omega)
 ·obtain ⟨its,r',pl,hz⟩:=I.tuple hq;have hlen:=r'.length;obtain ⟨o,ho,hc,n,hd⟩:=pl;exact call_list_seq p (.inr rfl) ho hc hd (λh' c' kp e=>fin its r' hz h' c' kp e) (by simp only [yV]<;>omega)
def tyV (K:Fg)(T:String)(x:V)(H:Hp):Prop:=match x with
 | .str _=>T = "str"
 | .int _=>T = "int"
 | .ref p=>(T = "list"/\∃ xs,SqL K H p xs)∨(T = "tuple"/\∃ o,K.lookup p=some o/\o.cls = .type "tuple"/\o.dict=none) ∨
   (T = "dict"/\((∃ kvs,H p=some (.dK kvs))∨∃ fl as kvs,H p=some (.dT fl as kvs)))∨(T = "set"/\∃ S n,H p=some (.set S n))
 |_=>False
theorem PB (I:Inv X pins U H s)(r:RelV x v)(ty:tyV X.K T x H):s.TypeIs v T/\∀ a,v = .ref a->∃ ob,s.heap.get? a=some ob/\ob.dict=none:=by
 cases x with
 |str z=>obtain ⟨t,rfl⟩:=r;cases (show T = "str" from ty);exact ⟨typeIs_str s z t,λ_ e=>nomatch e⟩
 |int i=>obtain ⟨t,rfl⟩:=r;cases (show T = "int" from ty);exact ⟨typeIs_int s i t,λ_ e=>nomatch e⟩
 |ref p =>
  cases r;rcases ty with ⟨rfl,xs,hq⟩|⟨rfl,o,hk,hc,hd⟩|⟨rfl,hk⟩|⟨rfl,S,n,hk⟩
  ·obtain ⟨its,_,pl,_⟩:=I.list hq;refine ⟨pl.isList.typeIs,λa e=>?_⟩;cases e;obtain ⟨o,n,e,c,hd,_⟩:=pl;exact ⟨o,e,hd⟩
  ·refine ⟨⟨o,I.kIn p o hk,hc⟩,λa e=>?_⟩;cases e;exact ⟨o,I.kIn _ o hk,hd⟩
  ·have z:∃ o,s.heap.get? p=some o/\o.ExactDict:=by
    rcases hk with ⟨kvs,hk⟩|⟨fl,as,kvs,hk⟩
    ·obtain ⟨_,_,_,_,o,_,_,e,ex,_⟩:=I.hok p _ hk;exact ⟨o,e,ex⟩
    ·obtain ⟨_,_,_,_,o,_,_,e,ex,_⟩:=I.hok p _ hk;exact ⟨o,e,ex⟩
   obtain ⟨o,e,ex⟩:=z;refine ⟨⟨o,e,ex.1⟩,λa e2=>?_⟩;cases e2;exact ⟨o,e,ex.2.1⟩
  ·obtain ⟨o,_,_,_,e,ex,_⟩:=I.hok p _ hk;refine ⟨⟨o,e,ex.1⟩,λa e2=>?_⟩;cases e2;exact ⟨o,e,ex.2.1⟩
 |_=>exact False.elim ty
def tBM0 (K:Fg)(T:String)(r:V->List V->Hp->VK->Prop)(to:TE):TE:=λU H Q=>to U H λx H1=>tyV K T x H1/\r x [] H1 Q
def tBM (K:Fg)(T:String)(r:V->List V->Hp->VK->Prop)(to:TE)(t:TA):TE:=λU H Q=>to U H λx H1=>tyV K T x H1/\t U H1 λxs H2=>r x xs H2 Q
variable {o e:Expr}{es:List Expr}{to:TE}{t:TA}{name:Str}{apos cpos:Pos}{T id:String}{r:V->List V->Hp->VK->Prop}
theorem Rh (pa:PlainAttrs T)(slot:Slot T name id)(hty:typeOf (.builtin id)=pure (.type "method_descriptor"))(hm:MtR X id r)(ho:PE X o to)(hbase:attributeBase o name X.env (eval o X.env)=eval o X.env:=by rfl)(hline:(apos.endLine==cpos.line)=true:=by rfl):PE X (.Call (.Attribute o name apos) [] [] cpos) (tBM0 X.K T r to):=by intro pins s U H Q I h;refine wpAny_Call_method0_late hbase hline (j7 (ho pins s U H _ I h) λv s1 zq=>?_);obtain ⟨x,H1,I1,r1,ty,q1⟩:=zq;obtain ⟨h1,h2⟩:=PB I1 r1 ty;exact ⟨T,id,pa,slot,hty,h1,h2,Calls.callWith_builtin rfl (PySem.evalArgs_none (hm pins s1 U H1 x [] v [] Q I1 r1 .nil q1))⟩
theorem pe_bm (pa:PlainAttrs T)(slot:Slot T name id)(hty:typeOf (.builtin id)=pure (.type "method_descriptor"))(hm:MtR X id r)(ho:PE X o to)(ha:PA X (e::es) t)(hbase:attributeBase o name X.env (eval o X.env)=eval o X.env:=by rfl)(hfew:((backTo cpos (starEach (e::es) X.env)).all (λx=>!x.1)&&(backToKw cpos (keywordEach [] X.env)).all (λx=>x.1.isSome)&&decide ((e::es).length+([]:List Keyword).length+(if ([]:List Keyword).isEmpty then 0 else 1)<30))=true:=by rfl)(hline:(apos.endLine==cpos.line)=true:=by rfl)(hs:starEach (e::es) X.env=(false,eval e X.env)::starEach es X.env:=by rfl)(hplain:(backTo cpos (starEach es X.env)).any (·.1)=false:=by rfl):PE X (.Call (.Attribute o name apos) (e::es) [] cpos) (tBM X.K T r to t):=by intro pins s U H Q I h;refine wpAny_Call_method_late hbase hfew hline rfl (j7 (ho pins s U H _ I h) λv s1 zq=>?_);obtain ⟨x,H1,I1,r1,ty,q1⟩:=zq;obtain ⟨h1,h2⟩:=PB I1 r1 ty;refine ⟨T,id,pa,slot,hty,h1,h2,?_⟩;have hA:=ha cpos pins s1 U H1 _ I1 q1;rw [hs] at hA ⊢;refine Calls.callWith_builtin (by show (false || (backTo cpos (starEach es X.env)).any (·.1))=false;rw [hplain]<;>rfl) (Calls.evalArgs_plain ?_);exact j7 hA λus s2 ⟨vs,H2,I2,r2,q2⟩=>hm pins s2 U H2 x vs v us Q I2 r1 r2 q2
end
def MtM (X:Cx)(id:String)(r:V->List V->Hp->VK->Prop):Prop :=
 ∀(pins:List (Addr×Obj))(s:Shared)(U:St)(H:Hp)(x:V)(xs:List V)(v:Value)(us:List Value)(Q:VK),Inv X pins U H s->RelV x v->Vals xs us->r x xs H Q ->
  wpAny (model X.prog X.w) X.A (call (.builtin id) (v::us)) (EP X pins U Q) X.xe s
theorem Vals.one:∀{x:V}{us:List Value},Vals [x] us->∃ u,us=[u]/\RelV x u
 |_,_,.cons r .nil=>⟨_,rfl,r⟩
theorem Vals.zero:∀{us:List Value},Vals [] us->us=[]
 |_,.nil=>rfl
theorem Vals.dropLast {xs:List V}(h:Vals xs us):Vals xs.dropLast us.dropLast:=by
 induction h with
 |nil=>exact .nil
 |cons r t ih =>
  cases t with
  |nil=>exact .nil
  |cons q t'=>exact .cons r ih
theorem Vals.reverse {xs:List V}(h:Vals xs us):Vals xs.reverse us.reverse:=by
 induction h with
 |nil=>exact .nil
 |cons r t ih=>rw [List.reverse_cons,List.reverse_cons];exact Vals.append ih (.cons r .nil)
theorem DV (l:List α):l.eraseIdx (l.length-1)=l.dropLast:=by
 induction l with
 |nil=>rfl
 |cons a r ih =>
  cases r with
  |nil=>rfl
  |cons b r =>
   have e:(a::b::r).length-1=((b::r).length-1)+1:=by have h1:(a::b::r).length=r.length+2:=rfl;have h2:(b::r).length=r.length+1:=rfl;omega
   rw [e,List.eraseIdx_cons_succ,ih]
   all_goals rfl
section
variable {X:Cx}{pins:List (Addr×Obj)}{U:St}{H:Hp}{s:Shared}{l b:Addr}{xs ys zs:List V}
theorem Inv.lset {f:Array Value->Array Value}(I:Inv X pins U H s)(hH:H l=some (.lst xs))(e:s.heap.get? l=some { cls:= .type "list",data:= .seq its.toArray n })(hf:f its.toArray=its'.toArray)(hv:Vals ys its')(hz:ys.length<=sizeLine):Inv X pins U (z7 H l (.lst ys)) { s with heap:=s.heap.update l (Obj.mapSeq f),toks:=t' }:=by have q:=PySem.IsL.update e f;rw [hf] at q;refine I.write (x:=l) (e:=l) (by rw [hH];exact trivial) (.inl rfl) (λb' u hb hu=>(uU s.heap (Obj.mapSeq f) (Ne.symm hb)).trans hu) ⟨_,q⟩ ?_;exact ⟨hz,its',_,hv,q⟩
theorem Inv.lnew (I:Inv X pins U H s)(hv:Vals ys its)(hz:ys.length<=sizeLine):Inv X pins U (z7 H s.heap.objs.size (.lst ys)) { s with heap:=s.heap.push { cls:= .type "list",data:= .seq its.toArray },toks:=t' } :=
 I.laid (λ_ _ q=>yW _ q) (yT _) ⟨hz,its,0,hv,yC _ rfl⟩
theorem Inv.fresh (I:Inv X pins U H s):H s.heap.objs.size=none:=I.hok.fresh (yT _)
theorem Inv.lstM (I:Inv X pins U H s)(hH:H l=some (.lst xs)):xs.length<=sizeLine/\∃ (its:List Value) (n:Nat),Vals xs its/\xs.length=its.length/\s.heap.get? l=some { cls:= .type "list",data:= .seq its.toArray n }:=by obtain ⟨z,its,n,r,e⟩:=I.hok l _ hH;exact ⟨z,its,n,r,r.length,e⟩
end
section
variable {X:Cx}
def Xd:V->List V->Hp->VK->Prop:=λx vs H Q=>∃ l xs y,x = .ref l/\vs=[y]/\H l=some (.lst xs)/\xs.length<sizeLine/\Q .non (z7 H l (.lst (xs++[y])))
theorem wv:MtM X "list.append" Xd:=by intro pins s U H x vs v us Q I rx rv h;obtain ⟨l,xs,y,rfl,rfl,hH,hz,q⟩:=h;cases rx;obtain ⟨u,rfl,ru⟩:=rv.one;obtain ⟨z,its,n,r,hl,e⟩:=I.lstM hH;refine call_meets F.slot_list_append ⟨_,e,rfl⟩ F.entry_list_append (F.args_list_append_2 _ _) (PySem.list_append l its.toArray n u (by rw [yV];omega)) ⟨e,?_⟩;refine ⟨.non,_,I.lset (its':=its++[u]) hH e (by simp) (r.append (.cons ru .nil)) ?_,rfl,q⟩;rw [yL,List.length_singleton];omega
def rPop:V->List V->Hp->VK->Prop:=λx vs H Q=>∃ l xs y,x = .ref l/\vs=[]/\H l=some (.lst xs)/\xs[xs.length-1]?=some y/\Q y (z7 H l (.lst xs.dropLast))
theorem KO:MtM X "list.pop" rPop:=by
 intro pins s U H x vs v us Q I rx rv h;obtain ⟨l,xs,y,rfl,rfl,hH,hy,q⟩:=h;cases rx;have hus:=rv.zero;subst hus;obtain ⟨z,its,n,r,hl,e⟩:=I.lstM hH;obtain ⟨u,hu,ru⟩:=r.get hy;have hy':its.toArray[its.toArray.size-1]?=some u:=by show its.toArray[its.length-1]?=some u;rw [<- uw,<- hl];exact hu
 refine call_meets F.slot_list_pop ⟨_,e,rfl⟩ F.entry_list_pop (F.args_list_pop_1 _) (MeetsSeq.list_pop_last l its.toArray n u hy' (by rw [yV];omega)) ⟨e,?_⟩;refine ⟨y,_,I.lset (its':=its.dropLast) hH e ?_ r.dropLast ?_,ru,q⟩
 ·show its.toArray.eraseIdxIfInBounds (its.toArray.size-1)=its.dropLast.toArray;rw [yV,List.eraseIdxIfInBounds_toArray,DV]
 ·rw [List.length_dropLast];omega
def BF:V->List V->Hp->VK->Prop:=λx vs H Q=>∃ l xs,x = .ref l/\vs=[]/\H l=some (.lst xs)/\Q .non (z7 H l (.lst xs.reverse))
theorem LX:MtM X "list.reverse" BF:=by intro pins s U H x vs v us Q I rx rv h;obtain ⟨l,xs,rfl,rfl,hH,q⟩:=h;cases rx;have hus:=rv.zero;subst hus;obtain ⟨z,its,n,r,hl,e⟩:=I.lstM hH;refine call_meets F.slot_list_reverse ⟨_,e,rfl⟩ F.entry_list_reverse (F.args_list_reverse_1 _) (AutoSeq1.list_reverse_list_0 l its.toArray n (by rw [yV];omega)) ⟨e,?_⟩;refine ⟨.non,_,I.lset (its':=its.reverse) hH e (by simp) r.reverse ?_,rfl,q⟩;rw [List.length_reverse];omega
end
section
variable {κ:Type}[DecidableEq κ]
def xn (kvs:List (κ×V))(k:κ):Option V:=(kvs.find? λkv=>decide (kv.1=k)).map (·.2)
def zw (kvs:List (κ×V))(k:κ)(v:V):List (κ×V) :=
 if (kvs.any λkv=>decide (kv.1=k))=true then kvs.map (λkv=>if kv.1=k then (kv.1,v) else kv) else kvs++[(k,v)]
theorem YO {p:κ×V}{r:List (κ×V)}{k:κ}(e:p.1=k):xn (p::r) k=some p.2:=by simp [xn,uL,e]
theorem YN {p:κ×V}{r:List (κ×V)}{k:κ}(e:¬ p.1=k):xn (p::r) k=xn r k:=by simp [xn,uL,e]
theorem ZB (k:κ):∀ kvs:List (κ×V),(kvs.any λkv=>decide (kv.1=k))=(xn kvs k).isSome
 |[]=>rfl
 |p::r=>by
  rw [List.any_cons];by_cases e:p.1=k
  ·simp only [YO e,yu e,Bool.true_or,Option.isSome_some]
  ·rw [YN e,yP e,Bool.false_or];exact ZB k r
theorem KG (kvs:List (κ×V))(k:κ)(v:V):(zw kvs k v).length<=kvs.length+1:=by
 unfold zw;split
 ·rw [yZ];omega
 ·rw [yL,yH,List.length_nil];omega
theorem RelO.isSome_eq {u:Option Value}(r:RelO o u):o.isSome=u.isSome:=by
 cases o with
 |none=>cases u with
  |none=>rfl
  |some _=>exact (show False from r).elim
 |some _=>cases u with
  |none=>exact (show False from r).elim
  |some _=>rfl
theorem KV.val {kvs:List (κ×V)}{vs:List (κ×Value)}(r:KV kvs vs)(k:κ):RelO (xn kvs k) (valueAt vs k):=by
 unfold KV at r
 induction r with
 |nil=>exact True.intro
 |@cons p q ps qs h t ih =>
  obtain ⟨h1,h2⟩:=h;by_cases e:p.1=k
  ·have e':q.1=k:=h1.symm.trans e;have b:valueAt (q::qs) k=some q.2:=by simp [valueAt,uL,e']
   rw [YO e,b];exact h2
  ·have e':¬ q.1=k:=λz=>e (h1.trans z);have b:valueAt (q::qs) k=valueAt qs k:=by simp [valueAt,uL,e']
   rw [YN e,b];exact ih
theorem KV.any {kvs:List (κ×V)}{vs:List (κ×Value)}(r:KV kvs vs)(k:κ):(kvs.any λkv=>decide (kv.1=k))=vs.any λkv=>decide (kv.1=k):=by
 unfold KV at r
 induction r with
 |nil=>rfl
 |cons h t ih=>rw [List.any_cons,List.any_cons,ih,h.1]
theorem KV.repl {kvs:List (κ×V)}{vs:List (κ×Value)}(r:KV kvs vs)(k:κ)(ry:RelV y u):KV (kvs.map λkv=>if kv.1=k then (kv.1,y) else kv) (vs.map λkv=>if kv.1=k then (kv.1,u) else kv):=by
 unfold KV at r ⊢
 induction r with
 |nil=>exact .nil
 |@cons p q ps qs h t ih =>
  rw [yI,yI];refine .cons ?_ ih;obtain ⟨h1,h2⟩:=h;by_cases e:p.1=k
  ·rw [if_pos e,if_pos (h1.symm.trans e)];exact ⟨h1,ry⟩
  ·rw [if_neg e,if_neg (λz=>e (h1.trans z))];exact ⟨h1,h2⟩
theorem KV.put {kvs:List (κ×V)}{vs:List (κ×Value)}(r:KV kvs vs)(k:κ)(ry:RelV y u):KV (zw kvs k y) (stored vs k u):=by
 unfold zw stored;rw [r.any k];by_cases e:(vs.any λkv=>decide (kv.1=k))=true
 ·rw [if_pos e,if_pos e];exact r.repl k ry
 ·rw [if_neg e,if_neg e];exact Paired.snoc r ⟨rfl,ry⟩
theorem KV.length {kvs:List (κ×V)}{vs:List (κ×Value)}(r:KV kvs vs):kvs.length=vs.length:=Paired.length r
end
theorem QD {k:v3}(r:RelV (kV k) u):(qc P w).is k u=true:=by
 cases k with
 |inl i=>obtain ⟨t,e⟩:=(show ∃ t,u=Value.int i t from r);subst e;exact LW P w i t
 |inr x=>obtain ⟨t,e⟩:=(show ∃ t,u=Value.str x t from r);subst e;exact VT P w x t
theorem Js {P:Program}{w:World}:∀{ks:List v3}{us:List Value},Vals (ks.map kV) us->ItemsAre (qc P w) ks us
 |[],_,r=>by rw [List.map_nil] at r;cases r;exact .nil
 |k::ks,_,r=>by
  rw [yI] at r;cases r with
  |cons h t=>exact .cons (QD h) (Js t)
abbrev KT (fl:Bool)(H:Hp):List (b7×V)->List (b7×Addr×Value)->Prop:=Paired λp q=>p.1=q.1/\KeyH fl H q.2.1 p.1/\RelV p.2 q.2.2
theorem KT.val (r:KT fl H kvs xs)(k:b7):RelO (xn kvs k) ((atKey xs k).map (·.2)):=by
 induction r with
 |nil=>exact True.intro
 |@cons p q ps qs h t ih =>
  obtain ⟨h1,_,h2⟩:=h;by_cases e:p.1=k
  ·have e':q.1=k:=h1.symm.trans e;have b:atKey (q::qs) k=some q.2:=by simp [atKey,uL,e']
   rw [YO e,b];exact h2
  ·have e':¬ q.1=k:=λz=>e (h1.trans z);have b:atKey (q::qs) k=atKey qs k:=by simp [atKey,uL,e']
   rw [YN e,b];exact ih
theorem KT.repl (r:KT fl H kvs xs)(k:b7)(ry:RelV y u):KT fl H (kvs.map λkv=>if kv.1=k then (kv.1,y) else kv) (xs.map (putAt k u)):=by
 induction r with
 |nil=>exact .nil
 |@cons p q ps qs h t ih =>
  rw [yI,yI];refine .cons ?_ ih;obtain ⟨h1,h2,h3⟩:=h;unfold putAt;by_cases e:p.1=k
  ·rw [if_pos e,if_pos (h1.symm.trans e)];exact ⟨h1,h2,ry⟩
  ·rw [if_neg e,if_neg (λz=>e (h1.trans z))];exact ⟨h1,h2,h3⟩
theorem KT.put (r:KT fl H kvs xs)(k:b7){b:Addr}(hb:KeyH fl H b k)(ry:RelV y u):KT fl H (zw kvs k y) (storedH xs k b u):=by
 have e:(kvs.any λkv=>decide (kv.1=k))=(atKey xs k).isSome:=by rw [ZB,(r.val k).isSome_eq,Option.isSome_map]
 unfold zw storedH;rw [e];by_cases q:(atKey xs k).isSome=true
 ·rw [if_pos q,if_pos q];exact r.repl k ry
 ·rw [if_neg q,if_neg q];exact Paired.snoc r ⟨rfl,hb,ry⟩
theorem KT.keeps (r:KT fl H kvs xs)(ht:∀ b ys,H b=some (.tup ys)->H' b=some (.tup ys)):KT fl H' kvs xs :=
 Paired.mapP r λ_ _ z=>⟨z.1,z.2.1.keeps ht,z.2.2⟩
section
variable {P:Program}{w:World}{H:Hp}{h:Heap}{a:Addr}
theorem BL {u:HO}(ok:HOk P w H h)(e:Rd H a u):ObjOk P w H h a u:=e.ok ok
theorem jW {kvs:List (v3×V)}(ok:HOk P w H h)(e:Rd H a (.dK kvs)):kvs.length<=sizeLine/\(a==sysModules)=false/\∃ vs,KV kvs vs/\h.DictOf (qc P w) a vs :=
 show ObjOk P w H h a (.dK kvs) from BL ok e
theorem dk_of {kvs:List (v3×V)}(ok:HOk P w H h)(e:H a=some (.dK kvs)):kvs.length<=sizeLine/\(a==sysModules)=false/\∃ vs,KV kvs vs/\h.DictOf (qc P w) a vs:=jW ok (.inl e)
theorem XM {ks:b7}(ok:HOk P w H h)(e:KeyH fl H a ks):(Nk.anyKind fl (qc P w)).is h ks a:=by
 rcases e with ⟨rfl,n0,e1⟩|⟨rfl,c,e1,e2⟩
 ·obtain ⟨_,its,r,o,h1,h2,n,h3⟩:=(show ObjOk P w H h a (.tup (ks.2.map kV)) from ok a _ e1);exact ⟨n0,o,its.toArray,n,h1,h2,h3,by simpa using Js r⟩
 obtain ⟨_,its,r,o,h1,h2,n,h3⟩:=(show ObjOk P w H h a (.tup (.ref c::ks.2.map kV)) from ok a _ e1);obtain ⟨_,its',r',o',g1,g2,n',g3⟩:=(show ObjOk P w H h c (.tup (ks.1.map kV)) from ok c _ e2);cases r with
 |cons q t=>cases (show _=Value.ref c from q);exact ⟨o,c,_,n,h1,h2,h3,⟨o',its'.toArray,n',g1,g2,g3,by simpa using Js r'⟩,Js t⟩
theorem GL {as:List Addr}(ok:HOk P w H h)(e:Rd H a (.dT fl as kvs)):kvs.length<=sizeLine/\(a==sysModules)=false /\ ∃ xs,KT fl H kvs xs/\h.DictOfH (Nk.anyKind fl (qc P w)) a xs/\xs.map (·.2.1)=as:=by
 obtain ⟨z,y,xs,r,o,es,ep,h1,h2,h3,h4,h5,h6⟩:=(show ObjOk P w H h a (.dT fl as kvs) from BL ok e);refine ⟨z,y,xs,r,⟨o,es,ep,h1,h2,h3,h4,λx hx=>?_,h5⟩,h6⟩;have all:∀{l:List (b7×V)}{m:List (b7×Addr×Value)},KT fl H l m->∀ x∈m,(Nk.anyKind fl (qc P w)).is h x.1 x.2.1:=by
  intro l m q
  induction q with
  |nil=>intro x hx;exact nomatch hx
  |@cons p q ps qs hq t ih =>
   intro x hx;rcases yD.mp hx with e|hx
   ·subst e;exact XM ok (by rw [<- hq.1];exact hq.2.1)
   ·exact ih x hx
 exact all r x hx
theorem Ja (ok:HOk P w H h)(e:∃ as,Rd H a (.dT fl as kvs)):kvs.length<=sizeLine/\(a==sysModules)=false /\ ∃ xs,KT fl H kvs xs/\h.DictOfH (Nk.anyKind fl (qc P w)) a xs:=by obtain ⟨as,e⟩:=e;obtain ⟨z,y,xs,r,q,_⟩:=GL ok e;exact ⟨z,y,xs,r,q⟩
end
def DGet (H:Hp)(a:Addr)(y:V)(r:Option V):Prop :=
 (∃ kvs k,Rd H a (.dK kvs)/\y=kV k/\r=xn kvs k)∨∃ fl kvs k b,(∃ as,Rd H a (.dT fl as kvs))/\y = .ref b/\KeyH fl H b k/\r=xn kvs k
def putA (as:List Addr)(kvs:List (b7×V))(k:b7)(b:Addr):List Addr:=if (kvs.any λkv=>decide (kv.1=k))=true then as else as++[b]
theorem KT.putA (r:KT fl H kvs xs)(k:b7)(b:Addr)(u:Value):(storedH xs k b u).map (·.2.1)=L2.putA (xs.map (·.2.1)) kvs k b:=by
 have e:(kvs.any λkv=>decide (kv.1=k))=(atKey xs k).isSome:=by rw [ZB,(r.val k).isSome_eq,Option.isSome_map]
 unfold L2.putA storedH;rw [e];by_cases q:(atKey xs k).isSome=true
 ·rw [if_pos q,if_pos q,yq];refine List.map_congr_left λx _=>?_;show (putAt k u x).2.1=x.2.1;unfold putAt;split<;>rfl
 ·rw [if_neg q,if_neg q,yE];rfl
def DPut (H:Hp)(a:Addr)(y v:V)(H':Hp):Prop :=
 (∃ kvs k,H a=some (.dK kvs)/\y=kV k/\kvs.length<sizeLine/\H'=z7 H a (.dK (zw kvs k v))) ∨
 ∃ fl as kvs k b,H a=some (.dT fl as kvs)/\y = .ref b/\KeyH fl H b k/\kvs.length<sizeLine/\H'=z7 H a (.dT fl (putA as kvs k b) (zw kvs k v))
theorem DGet.k {kvs:List (v3×V)}{k:v3}(e:H a=some (.dK kvs)):DGet H a (kV k) (xn kvs k):= .inl ⟨kvs,k,.inl e,rfl,rfl⟩
theorem DPut.k {kvs:List (v3×V)}{k:v3}{v:V}(e:H a=some (.dK kvs))(hl:kvs.length<sizeLine):DPut H a (kV k) v (z7 H a (.dK (zw kvs k v))):= .inl ⟨kvs,k,e,rfl,hl,rfl⟩
section
variable {X:Cx}{pins:List (Addr×Obj)}{U:St}{H:Hp}{s:Shared}{a:Addr}{y v:V}{u r:Value}{o:Option V}{A:Around}{E:Value->Shared->Prop}
theorem Inv.big (I:Inv X pins U H s):sysModules<s.heap.objs.size:=by have h:mainGlobals<s.heap.objs.size:=(I.mod.glob.keeps I.bk).lt;exact Nat.lt_trans (by decide) h
theorem DH (hu:A.units+2<cLine)(I:Inv X pins U H s)(g:DGet H a y (some v))(ry:RelV y u)(h:∀ w' s',Inv X pins U H s'->RelV v w'->Q w' s'):wpAny (model X.prog X.w) A (getItem (.ref a) u) Q E s:=by
 rcases g with ⟨kvs,k,e,ey,l⟩|⟨fl,kvs,k,b,e,ey,eb,l⟩
 ·subst ey;obtain ⟨z,hd,vs,rel,dd⟩:=jW I.hok e;obtain ⟨w',hw,rw'⟩:=RelO.some_of (v:=v) (o:=valueAt vs k) (by rw [l];exact rel.val k);exact wpAny_getItem_of (QD ry) dd.mapOf hw (h w' _ (I.tok _) rw')
 ·subst ey;cases (show u=Value.ref b from ry);obtain ⟨z,hd,xs,rel,dd⟩:=Ja I.hok e;obtain ⟨w',hw,rw'⟩:=RelO.some_of (v:=v) (o:=(atKey xs k).map (·.2)) (by rw [l];exact rel.val k);obtain ⟨p,hp,hp2⟩:=yx.mp hw;refine wpAny_getItem_heap (Nk.any_room hu) (XM I.hok eb) dd hp ?_;rw [hp2];exact h w' _ (I.tok _) rw'
theorem d_in (hu:A.units+2<cLine)(I:Inv X pins U H s)(g:DGet H a y o)(ry:RelV y u)(h:∀ s',Inv X pins U H s'->Q (.bool o.isSome) s'):wpAny (model X.prog X.w) A (compareOp .In u (.ref a)) Q E s:=by
 rcases g with ⟨kvs,k,e,ey,l⟩|⟨fl,kvs,k,b,e,ey,eb,l⟩
 ·subst ey;obtain ⟨z,hd,vs,rel,dd⟩:=jW I.hok e;refine wpAny_in_of (QD ry) hd dd.mapOf ?_;rw [<- (rel.val k).isSome_eq,<- l];exact h _ (I.tok _)
 ·subst ey;cases (show u=Value.ref b from ry);obtain ⟨z,hd,xs,rel,dd⟩:=Ja I.hok e;refine wpAny_in_heap (Nk.any_room hu) (XM I.hok eb) hd dd ?_;have q:=(rel.val k).isSome_eq;rw [Option.isSome_map] at q;rw [<- q,<- l];exact h _ (I.tok _)
theorem DI (hu:A.units+2<cLine)(I:Inv X pins U H s)(g:DGet H a y o)(ry:RelV y u)(h:∀ s',Inv X pins U H s'->Q (.bool (!o.isSome)) s'):wpAny (model X.prog X.w) A (compareOp .NotIn u (.ref a)) Q E s:=by
 rcases g with ⟨kvs,k,e,ey,l⟩|⟨fl,kvs,k,b,e,ey,eb,l⟩
 ·subst ey;obtain ⟨z,hd,vs,rel,dd⟩:=jW I.hok e;refine wpAny_notIn_of (QD ry) hd dd.mapOf ?_;rw [<- (rel.val k).isSome_eq,<- l];exact h _ (I.tok _)
 ·subst ey;cases (show u=Value.ref b from ry);obtain ⟨z,hd,xs,rel,dd⟩:=Ja I.hok e;refine wpAny_notIn_heap (Nk.any_room hu) (XM I.hok eb) hd dd ?_;have q:=(rel.val k).isSome_eq;rw [Option.isSome_map] at q;rw [<- q,<- l];exact h _ (I.tok _)
theorem GH {ob:HO}(I:Inv X pins U H s)(mu:Mut (H a))(hs:Heap.SameBut a s.heap h')(he:∃ q,h'.get? a=some q)(new:ObjOk X.prog X.w (z7 H a ob) h' a ob):Inv X pins U (z7 H a ob) { s with heap:=h',toks:=t' } :=
 I.write (x:=a) (e:=a) mu (.inl rfl) (λb q hb z=>(hs.2 b hb).trans z) he new
theorem GI {kvs:List (v3×V)}{vs:List (v3×Value)}(z:kvs.length<=sizeLine)(hd:(a==sysModules)=false)(rel:KV kvs vs)(dd:h'.DictOf (qc P w) a vs):ObjOk P w H' h' a (.dK kvs):=⟨z,hd,vs,rel,dd⟩
theorem DJ {Q:Unit->Shared->Prop}(hu:A.units+2<cLine)(I:Inv X pins U H s)(g:DPut H a y v H')(ry:RelV y u)(rv:RelV v r)(h:∀ s',Inv X pins U H' s'->Q () s'):wpAny (model X.prog X.w) A (setItem (.ref a) u r) Q E s:=by
 rcases g with ⟨kvs,k,e,ey,l,eH⟩|⟨fl,as,kvs,k,b,e,ey,eb,l,eH⟩
 ·subst ey eH;obtain ⟨z,hd,vs,rel,dd⟩:=dk_of I.hok e;have hz:vs.length<=sizeLine:=by rw [<- rel.length];exact z
  have hl:(zw kvs k v).length<=sizeLine:=by have:=KG kvs k v;omega
  refine wpAny_setItem_pairs (hsz:=hz) (QD ry) dd λh' dd' hs=>h _ ?_;have he:∃ q,h'.get? a=some q:=let ⟨q,_,_,hq,_⟩:=dd';⟨q,hq⟩
  exact GH I (by rw [e];exact True.intro) hs he (GI hl hd (rel.put k rv) dd')
 ·subst ey eH;cases (show u=Value.ref b from ry);obtain ⟨z,hd,xs,rel,dd,ha⟩:=GL I.hok (.inl e);have hz:xs.length<=sizeLine:=by rw [<- Paired.length rel];exact z
  have hl:(zw kvs k v).length<=sizeLine:=by have:=KG kvs k v;omega
  refine wpAny_setItem_heap (hsz:=hz) (Nk.any_room hu) (XM I.hok eb) dd λh' dd' hs=>h _ ?_;obtain ⟨q,es,ep,hq,h2,h3,h4,_,h5⟩:=dd';refine GH I (by rw [e];exact True.intro) hs ⟨q,hq⟩ ⟨hl,hd,_,(rel.put k eb rv).keeps λc ys ec=>?_,q,es,ep,hq,h2,h3,h4,h5,by rw [rel.putA k b,ha]⟩;rw [z6 (ne_of ec e (λz=>nomatch z))];exact ec
end
section
variable {X:Cx}{pins:List (Addr×Obj)}{U:St}{H:Hp}{s:Shared}{a:Addr}{kvs:List (v3×V)}{k:v3}{u:Value}{A:Around}{E:Value->Shared->Prop}
theorem d_len (I:Inv X pins U H s)(e:Rd H a (.dK kvs))(h:∀ t s',Inv X pins U H s'->Q (.int kvs.length t) s'):wpAny (model X.prog X.w) A (call (.builtin "len") [.ref a]) Q E s:=by obtain ⟨z,hd,vs,rel,dd⟩:=jW I.hok e;refine call_len_dict hd dd (by rw [<- rel.length];rw [sizeLine_eq] at z;omega) ?_;rw [<- rel.length];exact h _ _ (I.tok _)
end
def NoSl (i:Expr):Prop:=∀ ov iv,subscripted i false ov iv=operate [ov,iv] (getItem ov iv)
theorem SB {prog:Program}{E:Value->Shared->Prop}{env:Env}{value slice:Expr}{pos:Pos}{id:String}(hl:typeLookup (.type T) "__getitem__"=pure (some (.builtin id)))(hs:NoSl slice)(h:wpAny (model prog w) A (eval value env) (λo s₁=>wpAny (model prog w) A (eval slice env) (λi s₂=>s₂.TypeIs o T/\wpAny (model prog w) A (getItem o i) Q E s₂) E s₁) E s):wpAny (model prog w) A (eval (.Subscript value slice pos) env) Q E s:=by
 refine Subscript_ (wpAny_mono h (λo s₁ h₁=>wpAny_mono h₁ (λi s₂ h₂=>?_) λ_ _ x=>x) λ_ _ x=>x);obtain ⟨hT,h₂⟩:=h₂;unfold subscriptTail;refine yY ?_;rw [getitemInPython_of_ne hT.not_modules];refine yY (wpAny_specialOf hT hl ?_);have fin:wpAny (model prog w) A (subscripted slice false o i) (λr s₃=>wpAny (model prog w) A (letTemporaryGo value o r >>= λ_=>pure r) Q E s₃) E s₂:=by rw [hs o i];exact wpAny_operating (wpAny_mono h₂ (λr s₃ h₃=>yY (wpAny_letTemporaryGo (yN h₃))) λ_ _ x=>x)
 first
  |exact yN (yY fin)
  |exact yY (yN (yY fin))
  |exact yY fin
theorem DM {X:Cx}(I:Inv X pins U H s)(g:DGet H a y o):s.TypeIs (.ref a) "dict":=by
 rcases g with ⟨kvs,k,e,_,_⟩|⟨fl,kvs,k,b,e,_,_,_⟩
 ·obtain ⟨_,_,vs,_,dd⟩:=jW I.hok e;exact dd.typeIs
 ·obtain ⟨_,_,xs,_,dd⟩:=Ja I.hok e;exact dd.typeIs
def Pn (td ty:TE):TE:=λU H Q=>td U H λx H1=>ty U H1 λy H2=>∃ a v,x = .ref a/\DGet H2 a y (some v)/\Q v H2
def tDIn (ty td:TE):TE:=λU H Q=>ty U H λy H1=>td U H1 λx H2=>∃ a o,x = .ref a/\DGet H2 a y o/\Q (.bl o.isSome) H2
def Pq (ty td:TE):TE:=λU H Q=>ty U H λy H1=>td U H1 λx H2=>∃ a o,x = .ref a/\DGet H2 a y o/\Q (.bl (!o.isSome)) H2
def Wq (td ty tv:TE):TS:=λD U H=>tv U H λv H1=>td U H1 λx H2=>ty U H2 λy H3=>∃ a H4,x = .ref a/\DPut H3 a y v H4/\D.nx U H4
section
variable {X:Cx}{o i e value:Expr}{pos pos' tpos:Pos}{td ty tv:TE}
theorem Bi (hu:X.A.units+2<cLine)(ho:PE X o td)(hi:PE X i ty)(hs:NoSl i):PE X (.Subscript o i pos) (Pn td ty):=by intro pins s U H Q I h;refine SB PySem.F.slot_dict_getitem.lookup hs (j7 (ho pins s U H _ I h) λu s1 ⟨x,H1,I1,rx,q1⟩=>j7 (hi pins s1 U H1 _ I1 q1) λiv s2 zq=>?_);obtain ⟨y,H2,I2,ry,a,v,ex,g,q2⟩:=zq;subst ex;obtain rfl:u=Value.ref a:=rx;exact ⟨DM I2 g,DH hu I2 g ry λw' s3 I3 rw'=>⟨v,H2,I3,rw',q2⟩⟩
theorem Rf (hu:X.A.units+2<cLine)(hi:PE X i ty)(ho:PE X o td):PC X .In i o (tDIn ty td):=by intro pins s U H Q I h;refine j7 (hi pins s U H _ I h) λiv s1 ⟨y,H1,I1,ry,q1⟩=>j7 (ho pins s1 U H1 _ I1 q1) λu s2 zq=>?_;obtain ⟨x,H2,I2,rx,a,ov,ex,g,q2⟩:=zq;subst ex;obtain rfl:u=Value.ref a:=rx;exact d_in hu I2 g ry λs3 I3=>⟨.bl ov.isSome,H2,I3,rfl,q2⟩
theorem Rg (hu:X.A.units+2<cLine)(hi:PE X i ty)(ho:PE X o td):PC X .NotIn i o (Pq ty td):=by intro pins s U H Q I h;refine j7 (hi pins s U H _ I h) λiv s1 ⟨y,H1,I1,ry,q1⟩=>j7 (ho pins s1 U H1 _ I1 q1) λu s2 zq=>?_;obtain ⟨x,H2,I2,rx,a,ov,ex,g,q2⟩:=zq;subst ex;obtain rfl:u=Value.ref a:=rx;exact DI hu I2 g ry λs3 I3=>⟨.bl (!ov.isSome),H2,I3,rfl,q2⟩
theorem Bp (hu:X.A.units+2<cLine)(ho:PE X o td)(hi:PE X i ty)(hv:PE X value tv)(hs:swapsWith value (some (.Subscript o i pos')) pos.line X.env=pure false):PS X (.Assign [.Subscript o i pos'] value pos) (Wq td ty tv):=by intro pins s U H D I h;refine wpAny_Assign_Subscript (j7 (hv pins s U H _ I h) λr s1 ⟨v,H1,I1,rv,q1⟩=>j7 (ho pins s1 U H1 _ I1 q1) λu s2 ⟨x,H2,I2,rx,q2⟩=>j7 (hi pins s2 U H2 _ I2 q2) λiv s3 zq=>?_) hs;obtain ⟨y,H3,I3,ry,a,H4,ex,g,q3⟩:=zq;subst ex;obtain rfl:u=Value.ref a:=rx;exact DJ hu I3 g ry rv λs4 I4=>⟨U,H4,I4,q3⟩
end
theorem DO (h:Heap)(hb:sysModules<h.objs.size):ObjOk P w H (h.push { cls:= .type "dict",data:= .dict #[] }) h.objs.size (.dK []) :=
 ⟨yd _,beq_eq_false_iff_ne.mpr (Ne.symm (yF hb)),[],.nil,Heap.DictOf.new h⟩
def Po:TE:=λ_ H Q=>∀ p,H p=none->Q (.ref p) (z7 H p (.dK []))
section
variable {X:Cx}{pos:Pos}
theorem Wb:PE X (.Dict [] [] pos) Po:=λpins s U H Q I h =>
 wpAny_Dict_empty ⟨.ref s.heap.objs.size,_,I.laid (a:=s.heap.objs.size) (o:= .dK []) (t':=s.toks) (λ_ _ q=>yW _ q) (yT _) (DO s.heap I.big),rfl,h _ (I.hok.fresh (yT _))⟩
end
end L2
namespace Att
open PySem PySem.W PySem.Calls PyProof.Rows
variable{P:Params}{h:Heap}{l:OpenLaw}{n:Nat}
theorem Lc :∀(ns:List Int)(vs:List Value),WellAll P h vs (ns.map WData.int)->IntsAre vs ns:=by
 intro ns
 induction ns with
 |nil=>intro vs w;rw [List.map_nil] at w;cases w;exact .nil
 |cons n ns ih =>
  intro vs w;rw [yI] at w;cases w with
  |cons a b=>cases a;exact .cons _ _ (ih _ b)
theorem Sn (hn:l.most=some n){args:List WData}{vals:List Value}(hpre:l.row.toRowW.claim.pre args=true)(hwl:WellAll P h vals args):∃ a vs ns,vals=[Value.ref a]/\args=[WData.list (ns.map WData.int)]/\h.get? a=some { cls:= .type "list",data:= .seq vs.toArray }/\IntsAre vs ns/\ns.length<=n:=by
 have hsh:WShape.hasAll [] args [.list .int]=true:=(pre_splitW hpre).1;have hc:l.pre.holds [] { args:=args }=true:=(pre_splitW hpre).2;obtain ⟨d,r,rfl,h1,h2⟩:=hasAllW_cons hsh;obtain rfl:=hasAllW_nil h2;obtain ⟨xs,rfl,h3⟩:=hasW_list h1;obtain ⟨ns,rfl⟩:=items_int h3;have hlen:ns.length<=n:=by
  unfold OpenLaw.pre at hc;have h4:(WTm.not (.lt (.lit (.int (n:Int))) (.len (.arg 0)))).holds [] { args:=[.list (ns.map .int)] }=true:=by have h4:=(holds_andW hc).1;rw [hn] at h4;exact h4
  have h5:=condW_of h4 (w_not (w_lt w_lit (w_len_list (w_arg rfl))));rw [yZ] at h5;refine Nat.le_of_not_lt λq=>?_;have q':(n:Int)<((ns.length:Nat):Int):=by omega
  first
   |(rw [yu q'] at h5;exact absurd h5 (by decide))
   |(simp at h5;omega)
 cases hwl with
 |cons w1 w2 =>
  cases w2;cases w1 with
  |list ho hall=>exact ⟨_,_,ns,rfl,rfl,ho,Lc ns _ hall,hlen⟩
theorem RC (l:OpenLaw)(args:List WData):l.row.toRowW.claim.post args (.bool true) args=true :=
 postW_of (r:=l.row.toRowW) (X:=(true==true))
  (show WShape.has [] (.bool true) .bool=true by first|rfl|decide|simp [WShape.has,WShape.arms,WShape.armsAll])
  (show (WTm.eq .res (.lit (.bool true))).value [] { args:=args,res:=some (.bool true),after:=args }=some (.bool (true==true)) from w_eq_bool (w_res rfl) w_lit) rfl
theorem attach_call {q:Program}{loose:List Str}{XP:(Str->Option Value)->Heap->Prop}{YP:World->Heap->Prop}{d:DefRec}(hn:l.most=some n)(hdf:d.params.defaults=[])(call:∀ (w:World) (s₀ s₁:Shared) (mg mb:Str->Option Value) (fa:Addr) (o:Obj) (pm cd doc:Value) (a:Addr) (vs:List Value) (ns:List Int), Ground q loose [] XP w s₀ mg mb s₁.heap->YP w s₁.heap -> s₁.heap.get? fa=some o->o.data = .func (docDef d.name d.params d.body d.scope pm cd doc)->s₁.heap.CodeRec cd d.name->mg d.name=some (.ref fa) -> s₁.heap.get? a=some { cls:= .type "list",data:= .seq vs.toArray }->IntsAre vs ns->ns.length<=n->s₁.gens=#[] -> codeAny (model l.prog w) callerA (.call (.ref fa) ⟨[.ref a],[]⟩) (λr s'=>r = .ok (.ret (.bool true))/\OldK s₁.heap s'.heap/\s'.os=s₁.os/\AllBare s'.gens) s₁):WalkO q loose XP YP l.row.toRowW d [] (λf vs=>PySem.call f vs):=by intro w s₀ s₁ mg mb G Y fa o pm cd doc dV kV ho hd hcd hD hmg hg args vals as hpre hlay hrd hwl hlo;obtain rfl:dV = .none:=Dflts.none hD hdf;obtain rfl:kV = .none:=Dflts.noKw hD;obtain ⟨a,vs,ns,rfl,rfl,hobj,hints,hlen⟩:=Sn hn hpre hwl;refine enter_call (codeAny_mono (call w s₀ s₁ mg mb fa o pm cd doc a vs ns G Y ho (fd_plain hd) hcd hmg hobj hints hlen hg) λr s' hq=>?_);obtain ⟨rfl,h2,h3,h4⟩:=hq;exact ⟨.inl ⟨.bool true,.bool true,[],rfl,λ_=>rfl,.bool true,RC l _,λ_=>⟨List.Pairwise.nil,λ_ hm=>(nomatch hm)⟩⟩,h2,h3,h4⟩
end Att
namespace L2
open PySem PySem.Spec PyProof.Rows
variable{K:Fg}{a f:Addr}{fd:FuncData}{qual x:Str}{sp:Sp}{n:Nat}{st:Stmt}{ps:List Str}{A B:Prop}{H H':Hp}
theorem PP:∀{vs:List Value}{ns:List Int},IntsAre vs ns->Vals (ns.map V.int) vs
 |_,_,.nil=> .nil
 |_,_,.cons n t h=> .cons ⟨t,rfl⟩ (PP h)
def Only (H:Hp):Prop:=∀ b,H b=none∨(∃ o xs,H b=some (.frz o (.lst xs)))∨∃ p∈TABS,p.1=b/\H b=some (.tbl p.2.1 p.2.2)
structure Qe (K:Fg)(h:Heap):Prop where
 at_:∀ p∈TABS,h.get? p.1=some { cls:= .none,data:= .fields p.2.1 }
 tri:∀ p∈TABS,TriplesOk p.2.1.toList
 non:∀ p∈TABS,∀ q∈p.2.2,codeAmong q.1 p.2.1.toList=none
 tab:∀ p∈TABS,isCodeTable h p.1
 one:∀ p∈TABS,∀ q∈TABS,p.1=q.1->p=q
 out:∀ p∈TABS,K.lookup p.1=none
def zI:Hp:=λb=>(TABS.find? λp=>p.1==b).map λp=> .tbl p.2.1 p.2.2
theorem JX {b:Addr}{u:HO}(h:zI b=some u):∃ p∈TABS,p.1=b/\u = .tbl p.2.1 p.2.2:=by unfold zI at h;obtain ⟨p,e,r⟩:=yx.mp h;exact ⟨p,List.mem_of_find?_eq_some e,by have:=List.find?_some e;simpa using this,r.symm⟩
theorem Px {h:Heap}(T:Qe K h){p:Addr×Array Value×List (Pos×Str)}(hp:p∈TABS):zI p.1=some (.tbl p.2.1 p.2.2):=by
 unfold zI;cases e:TABS.find? λq=>q.1==p.1 with
 |none=>exact absurd (List.find?_eq_none.mp e p hp) (by simp)
 |some q =>
  have e1:q.1=p.1:=by have:=List.find?_some e;simpa using this
  rw [T.one q (List.mem_of_find?_eq_some e) p hp e1];rfl
theorem LB {P:Program}{w:World}{mg mb:Str->Option Value}{CX:CXT}{k:Nat}{fa:Addr}{s₁:Shared}{vs:List Value}{ns:List Int}(KX:K.In s₁.heap)(T:Qe K s₁.heap)(hns:s₁.heap.Ns mainGlobals mg)(hb:s₁.heap.Ns builtinsNs mb)(hbb:∀ x:Str,x ≠ "__name__"->mb x=bootBuiltins x)(hlim:s₁.heap.NoLimit)(hbm:∃ bm ob,mg "__builtins__"=some (.ref bm)/\bm≠builtinsNs/\s₁.heap.get? bm=some ob/\ob.cls = .type "module"/\ob.dict=some builtinsNs/\ob.data = .plain)(hg:s₁.gens=#[])(ha:s₁.heap.get? a=some { cls:= .type "list",data:= .seq vs.toArray })(hi:IntsAre vs ns)(hl:ns.length<=sizeLine)(hr:Room k callerA)(F:∀ base:Heap,K.In base->base.Ns mainGlobals mg->FnOk P w K mg base CX k fa fd [x] sp)(hbind:∀ (s:Shared) (u:Value),BindsTo s fd ⟨[u],[]⟩ [(x,u)])(hsp:∀ H:Hp,Only H->SqL K H a (ns.map V.int)->sp [.ref a] H (λv _=>v = .bl true) λ_ _ _=>False)(hCX:∀ H e s',CX [] H s₁ (λ_ _ _=>False) e s'->False):codeAny (model P w) callerA (.call (.ref fa) ⟨[.ref a],[]⟩) (λr s'=>r = .ok (.ret (.bool true))/\OldK s₁.heap s'.heap/\s'.os=s₁.os/\AllBare s'.gens) s₁:=by
 have rv:=PP hi;have lenV:=hi.length;have naT:∀ p∈TABS,p.1≠a:=λp hp z=>by
  have e:=T.at_ p hp;rw [z,ha] at e;cases e
 have core:∀ H:Hp,Only H->SqL K H a (ns.map V.int)->HOk P w H s₁.heap->(∀ b,H b≠none->b=a∨∃ p∈TABS,p.1=b)->(∀ b,H b≠none->K.lookup b=none)->(∀ p∈TABS,H p.1=some (.tbl p.2.1 p.2.2)) ->
   codeAny (model P w) callerA (.call (.ref fa) ⟨[.ref a],[]⟩) (λr s'=>r = .ok (.ret (.bool true))/\OldK s₁.heap s'.heap/\s'.os=s₁.os/\AllBare s'.gens) s₁:=by
  intro H hO hS hok hA hK hT;have base_of:∀{b:Addr}{o:Obj},s₁.heap.get? b=some o->H b=none->(jX s₁.heap H).get? b=some o:=λe n=>MF e n;have noA:∀{b:Addr}{o:Obj}{es:Array DictEntry}{ep:Nat},s₁.heap.get? b=some o->o.data = .dict es ep->H b=none:=λ{b o es ep} e d=>by
   cases q:H b with
   |none=>rfl
   |some u =>
    rcases hA b (by rw [q];simp) with e'|⟨p,hp,e'⟩
    ·subst e';rw [ha] at e;cases e;have d':Data.seq vs.toArray _=Data.dict es ep:=d;cases d'
    ·subst e';rw [T.at_ p hp] at e;cases e;have d':Data.fields p.2.1=Data.dict es ep:=d;cases d'
  have nsK:∀{b:Addr}{m:Str->Option Value},s₁.heap.Ns b m->(jX s₁.heap H).Ns b m:=λ{b m} ⟨o,es,ep,e,d,r⟩=>⟨o,es,ep,base_of e (noA e d),d,r⟩;have hKb:K.In (jX s₁.heap H):=λb o e=>base_of (KX b o e) (by
   cases q:H b with
   |none=>rfl
   |some u=>rw [hK b (by rw [q];simp)] at e;cases e)
  have noP:∀{b:Addr}{o:Obj},s₁.heap.get? b=some o->o.data = .plain->H b=none:=λ{b o} e d=>by
   cases q:H b with
   |none=>rfl
   |some u =>
    rcases hA b (by rw [q];simp) with e'|⟨p,hp,e'⟩
    ·subst e';rw [ha] at e;cases e;have d':Data.seq vs.toArray _=Data.plain:=d;cases d'
    ·subst e';rw [T.at_ p hp] at e;cases e;have d':Data.fields p.2.1=Data.plain:=d;cases d'
  have hM:Mod K mg (jX s₁.heap H):=⟨hKb,nsK hns,⟨mb,nsK hb,hbb⟩,let ⟨mc,h1,h2⟩:=hlim;⟨mc,nsK h1,h2⟩,let ⟨bm,ob,b1,b2,b3,b4,b5,b6⟩:=hbm;⟨bm,ob,b1,b2,base_of b3 (noP b3 b6),b4,b5,b6⟩⟩;have e0:Env0 P w K mg (jX s₁.heap H) callerA [] s₁ H:=⟨rfl,hM,λb o e=>Nn e,Nat.le_of_eq (MH _ _),trivial,λb hb=>absurd (show b∈([]:List Addr) from hb) (by simp),hok,.of_eq hg,hT⟩;refine codeAny_mono ((F _ hKb (nsK hns)).run callerA [] s₁ H ⟨[.ref a],[]⟩ [.ref a] [.ref a] _ _ hr e0 (hbind s₁ (.ref a)) (.cons rfl .nil) (hsp H hO hS)) λr s' h=>?_;cases r with
  |error e=>exact (hCX H e s' h).elim
  |ok fl =>
   cases fl with
   |next=>exact False.elim h
   |brk=>exact False.elim h
   |cont=>exact False.elim h
   |ret u =>
    obtain ⟨v,H',os,bare,un,hok',r',q⟩:=h;have q':v = .bl true:=q;subst q';obtain rfl:u=Value.bool true:=r';refine ⟨rfl,⟨λb o e=>?_,λb o e=>un.there b o e (by simp)⟩,os,bare⟩;rcases hO b with z|⟨ob,xs,z⟩|⟨p,hp,rfl,z⟩
    ·exact .inl (un.keep b o e z (by intro z;exact absurd (show b∈([]:List Addr) from z) (by simp)) (by simp))
    ·have z2:=un.frzs b ob _ z;obtain ⟨e1,_⟩:=hok b _ z;obtain ⟨e2,_⟩:=hok' b _ z2;rw [e] at e1;cases e1;exact .inl e2
    ·have z2:=un.tbls p.1 _ _ z;obtain ⟨more,e2,_⟩:=hok' p.1 _ z2;rw [T.at_ p hp] at e;cases e;exact .inr (.inl ⟨T.tab p hp,rfl,p.2.1,more,rfl,e2⟩)
 have tok:∀{H:Hp}{p:Addr×Array Value×List (Pos×Str)},p∈TABS->ObjOk P w H s₁.heap p.1 (.tbl p.2.1 p.2.2):=λ{H p} hp =>
  ⟨#[],by rw [Array.append_empty];exact T.at_ p hp,by rw [Array.append_empty];exact T.tri p hp,λq hq=> .inl (by rw [Array.append_empty];exact T.non p hp q hq)⟩
 have only:∀ b,zI b=none∨(∃ o xs,zI b=some (.frz o (.lst xs)))∨∃ p∈TABS,p.1=b/\zI b=some (.tbl p.2.1 p.2.2):=λb=>by
  cases q:zI b with
  |none=>exact .inl rfl
  |some u=>obtain ⟨p,hp,e1,rfl⟩:=JX q;exact .inr (.inr ⟨p,hp,e1,rfl⟩)
 have mine:∀ b,zI b≠none->∃ p∈TABS,p.1=b:=λb z=>by
  cases q:zI b with
  |none=>exact absurd q z
  |some u=>obtain ⟨p,hp,e1,_⟩:=JX q;exact ⟨p,hp,e1⟩
 cases hk:K.lookup a with
 |some o =>
  have e:=KX a o hk;rw [ha] at e;cases e;refine core zI only (.inr ⟨_,vs.toArray,_,hk,rfl,rfl,rfl,by rw [yV,lenV];exact hl,by simpa using rv⟩) (λb u z=>?_) (λb z=> .inr (mine b z)) (λb z=>?_) λp hp=>Px T hp
  ·obtain ⟨p,hp,rfl,rfl⟩:=JX z;exact tok hp
  ·obtain ⟨p,hp,rfl⟩:=mine b z;exact T.out p hp
 |none =>
  refine core (λb=>if b=a then some (.frz { cls:= .type "list",data:= .seq vs.toArray } (.lst (ns.map V.int))) else zI b) (λb=>?_) (.inl (.inr ⟨{ cls:= .type "list",data:= .seq vs.toArray },if_pos rfl⟩)) (λb u z=>?_) (λb z=>?_) (λb z=>?_) λp hp=>?_
  ·by_cases hb:b=a
   ·exact .inr (.inl ⟨_,_,if_pos hb⟩)
   ·rcases only b with z|⟨o,xs,z⟩|⟨p,hp,e1,z⟩
    ·exact .inl ((if_neg hb).trans z)
    ·exact .inr (.inl ⟨o,xs,(if_neg hb).trans z⟩)
    ·exact .inr (.inr ⟨p,hp,e1,(if_neg hb).trans z⟩)
  ·by_cases hb:b=a
   ·have z':=(if_pos hb).symm.trans z;cases z';subst hb;exact ⟨ha,by rw [yZ];exact hl,vs,_,rv,ha⟩
   ·have z':=(if_neg hb).symm.trans z;obtain ⟨p,hp,rfl,rfl⟩:=JX z';exact tok hp
  ·by_cases hb:b=a
   ·exact .inl hb
   ·exact .inr (mine b λq=>z ((if_neg hb).trans q))
  ·by_cases hb:b=a
   ·rw [hb];exact hk
   ·obtain ⟨p,hp,rfl⟩:=mine b λq=>z ((if_neg hb).trans q);exact T.out p hp
  ·exact (if_neg (naT p hp)).trans (Px T hp)
theorem Ip {l:PySem.W.OpenLaw}{k:Nat}{q:Program}{loose:List Str}{XP:(Str->Option Value)->Heap->Prop}{YP:World->Heap->Prop}{d:DefRec}{K:Params->Fg}{CX:World->CXT}{sp:World->Sp}(hn:l.most=some n)(hn2:n<=sizeLine)(hdf:d.params.defaults=[])(hr:Room k callerA)(hY:∀(w:World)(h:Heap),YP w h->(K w.params).In h)(F:∀(w:World)(mg:Str->Option Value)(fa:Addr)(h:Heap),YP w h->(K w.params).In h->h.Ns mainGlobals mg->mg d.name=some (.ref fa) -> ∃ fd:FuncData,(∀(s:Shared)(u:Value),BindsTo s fd ⟨[u],[]⟩ [(x,u)])/\Qe (K w.params) h /\ ∀ base:Heap,(K w.params).In base->base.Ns mainGlobals mg->FnOk l.prog w (K w.params) mg base (CX w) k fa fd [x] (sp w))(hsp:∀(w:World)(H:Hp)(a:Addr)(ns:List Int),ns.length<=n->Only H->SqL (K w.params) H a (ns.map V.int)->sp w [.ref a] H (λv _=>v = .bl true) λ_ _ _=>False)(hCX:∀(w:World)(H:Hp)(s:Shared)(e:Value)(s':Shared),CX w [] H s (λ_ _ _=>False) e s'->False):PySem.W.WalkO q loose XP YP l.row.toRowW d [] (λf vs=>PySem.call f vs):=by refine Att.attach_call hn hdf λw s₀ s₁ mg mb fa o pm cd doc a vs ns G Y ho hd hcd hmg hobj hints hlen hg=>?_;have KX:=hY w _ Y;obtain ⟨fd,hb,hT,hF⟩:=F w mg fa _ Y KX G.T.g hmg;exact LB KX hT G.T.g G.T.b G.T.builtins G.T.nolimit G.T.bmain hg hobj hints (ye hlen hn2) hr hF hb (λH hO hS=>hsp w H a ns hlen hO hS) λH e s'=>hCX w H s₁ e s'
def qB (s:Stmt)(j:Nat):Stmt:=match s with
 | .ClassDef _ _ _ body _ _ _ _ _ _ _=>body.getD j (.Pass ⟨0,0,0,0⟩)
 |_=> .Pass ⟨0,0,0,0⟩
def xB (s:Stmt):Arguments:=match s with
 | .FunctionDef _ a _ _ _ _ _ _ _ _=>a
 |_=>{ posonlyargs:=[],args:=[],vararg:=none,kwonlyargs:=[],kw_defaults:=[],kwarg:=none,defaults:=[] }
def n9 (s:Stmt):List Stmt:=match s with
 | .FunctionDef _ _ b _ _ _ _ _ _ _=>b
 |_=>[]
def j3 (s:Stmt):Scope:=match s with
 | .FunctionDef _ _ _ _ _ _ sc _ _ _=>sc
 |_=>{ kind:= .function,names:=[],isGenerator:=false,isCoroutine:=false }
abbrev v5:CXT:=λ_ _ _ _ _ _=>False
abbrev E0:XK:=λ_ _ _=>False
theorem VZ {X:Cx}:zl v5 X E0:=λ_ _ _ _ _ _ _ h=>h.elim
structure Fun (K:Fg)(x qual:Str)(st:Stmt)(f:Addr)(fd:FuncData):Prop where
 ex:∃(oc:Value)(od:Option Addr)(kV doc pm:Value)(an:Option Addr)(cdv ct:Value)(osl:Array (Option Value)),
  fd=PySem.W.fnOf x qual (xB st) (n9 st) (j3 st) .none kV doc pm an cdv ct/\K.lookup f=some ⟨oc,od,.func fd,osl⟩/\PySem.W.codeIn K cdv qual=true
 kp:PySem.W.keepIn K (.ref f)=true
section
variable {P:Program}{w:World}{K:Fg}{mg:Str->Option Value}{base:Heap}
theorem Fun.ok {N:List Str}{k:Nat}(F:Fun K x qual st f fd)(S:v4 N ps (j3 st))(len:∀ vs H Q E,sp vs H Q E->vs.length=ps.length)(hbody:∀(cdv:Value)(A:Around)(outer:List Env)(s:Shared)(H:Hp)(vs:List V)(Q:VK)(E:XK),Room k (A.deeper (envOfC qual (j3 st) s.heap.objs.size f cdv))->sp vs H Q E -> ∃ t,PSs (qr v5 P w K mg base N qual (j3 st) f cdv A outer s H E).nox (n9 st) t/\t { nx:=λ_ H'=>Q .non H',rt:=Q } (start N vs) H):FnOk P w K mg base v5 (k+1) f fd ps sp:=by obtain ⟨oc,od,kV,doc,pm,an,cdv,ct,osl,rfl,lk,hcd⟩:=F.ex;refine Jj lk hcd S len λA outer s H vs Q E hr hsp=>?_;obtain ⟨t,h,q⟩:=hbody cdv A outer s H vs Q E hr hsp;exact ⟨t,h.nox,q⟩
theorem Fun.binds (F:Fun K x qual st f fd)(h:∀(kV doc pm:Value)(an:Option Addr)(cdv ct:Value)(us:List Value),us.length=ps.length->bindArgs (PySem.W.fnOf x qual (xB st) (n9 st) (j3 st) .none kV doc pm an cdv ct) ⟨us,[]⟩=pure (ps.zip us)):Binds K fd ps []:=by obtain ⟨oc,od,kV,doc,pm,an,cdv,ct,osl,rfl,lk,hcd⟩:=F.ex;exact .all (h kV doc pm an cdv ct)
theorem zS {oc:Value}{od an:Option Addr}{osl:Array (Option Value)}{kV doc pm cdv ct:Value}(l:K.lookup f=some ⟨oc,od,.func (PySem.W.fnOf x qual (xB st) (n9 st) (j3 st) .none kV doc pm an cdv ct),osl⟩)(c:PySem.W.codeIn K cdv qual=true)(k:PySem.W.keepIn K (.ref f)=true):Fun K x qual st f (PySem.W.fnOf x qual (xB st) (n9 st) (j3 st) .none kV doc pm an cdv ct):=⟨⟨oc,od,kV,doc,pm,an,cdv,ct,osl,rfl,l,c⟩,k⟩
end
theorem QB {A:Around}{k:Nat}(hr:Room k A)(hn:n<=64:=by decide):A.units+n<cLine:=uA (Nat.add_le_add_left hn _) hr.units
theorem jF (h:n<=1000):n<sizeLine:=uA h (by decide)
section
variable {X:Cx}
theorem pv (i:Nat){pos:Pos}(hN:X.N[i]?=some x:=by rfl)(hv:Vis X.env.scope x:=by first|exact Or.inl rfl|exact Or.inr (Or.inl rfl)|exact Or.inr (Or.inr rfl))(hd:(x==("__debug__":Str))=false:=by decide)(hcd:(x==("__classdict__":Str))=false:=by decide):PE X (.Name x pos) (b9 i):=Rp hN hv hd hcd
theorem Dj:CallR X (.builtin "len") (λxs H Q=>∃ a kvs,xs=[V.ref a]/\H a=some (.dK kvs)/\Q (.int kvs.length) H):=by intro pins s U H xs us Q I r h;obtain ⟨a,kvs,rfl,ha,q⟩:=h;obtain ⟨u,rfl,ru⟩:=zk r;cases ru;exact d_len I (.inl ha) λt s' I'=>⟨.int kvs.length,H,I',⟨t,rfl⟩,q⟩
end
theorem qf (h:B):if false=true then A else B:=by rw [if_neg yR];exact h
theorem qb (h:A):if true=true then A else B:=by rw [if_pos rfl];exact h
theorem ite2 {c:Prop}[Decidable c](h1:c->A)(h2:¬ c->B):if c then A else B:=by
 by_cases h:c
 ·rw [if_pos h];exact h1 h
 ·rw [if_neg h];exact h2 h
def Same (H H':Hp):Prop:=∀ b o,H b=some o->H' b=some o
theorem Same.refl (H:Hp):Same H H:=λ_ _ h=>h
theorem Same.trans {H1 H2:Hp}(a:Same H H1)(b:Same H1 H2):Same H H2:=λc o h=>b c o (a c o h)
theorem Same.free (e:Same H H'){l:Addr}(h:H' l=Option.none):H l=Option.none:=by
 cases q:H l with
 |none=>rfl
 |some o=>rw [e l o q] at h;cases h
theorem Same.seq {xs:List V}(e:Same H H')(h:SqL K H a xs):SqL K H' a xs:=by
 rcases h with (h|⟨o,h⟩)|h
 ·exact .inl (.inl (e _ _ h))
 ·exact .inl (.inr ⟨o,e _ _ h⟩)
 ·exact .inr h
end L2
set_option maxHeartbeats 4000000
set_option synthInstance.maxHeartbeats 4000000
set_option synthInstance.maxSize 4096
namespace L2
open PySem PySem.Spec PyProof.Rows
variable{c elt iter tg:Expr}{ifs:List Expr}{scope:Scope}{pos:Pos}{env:Env}{X:Cx}{o:Option V}{U:St}{g:TG}{tt:TT}{te:TE}{wi:TI}{K:Fg}
section
variable {prog:Program}{w:World}{A:Around}{R:Result->Shared->Prop}{s:Shared}
theorem DA {target:Expr}{it acc:Value}(I:Nat->Shared->Prop)
  (turn:∀ n s,I n s->wpAny (model prog w) A (pyNext it) (λr s₁=>match r with
   |none=>R (.ok .next) s₁
   |some v=>wpAny (model prog w) A (letOwnedTupleGo target it v) (λ_ s₀=>wpAny (model prog w) A (assign target env v) (λ_ s₂ =>
     wpAny (model prog w) A (forIn ifs true λc r=>if r=true then do let ok <- isTrue c env (eval c env);pure (ForInStep.yield ok) else pure (ForInStep.yield r)) (λok s₃ =>
      if ok=true then wpAny (model prog w) A (eval elt env) (λx s₄ =>
       wpAny (model prog w) A (call (.builtin "list.append") [acc,x]) (λ_ s₅=>∃ m,m<n/\I m s₅) (λ_ _=>False) s₄) (λ_ _=>False) s₃
      else ∃ m,m<n/\I m s₃) (λ_ _=>False) s₂) (λ_ _=>False) s₀) (λ_ _=>False) s₁) (λ_ _=>False) s)
  (n:Nat) (h:I n s) :
  codeAny (model prog w) A (.compLoop (.ListComp elt [⟨target,iter,ifs,0⟩] scope pos) 0 it acc env) R s:=by
 refine codeAny_loop rfl I (λn s hI=>?_) n h;show wpAny _ A ((compTurn (.ListComp elt [⟨target,iter,ifs,0⟩] scope pos) 0 it acc env).onRaise (λx=>do noteFrame x env;theTreesLotGoes x)) _ _ s;refine wpAny_noted (wpAny_noRaise ?_);rw [compTurn_list];refine yY (wpAny_standAt (yY (j7 (turn n s hI) λr s₁ h₁=>?_)));cases r with
 |none=>exact yN h₁
 |some v =>
  refine yY (j7 h₁ λ_ s₀ h₀=>?_);refine yY (j7 h₀ λ_ s₂ h₂=>yY (j7 h₂ λok s₃ h₃=>?_));cases ok with
  |false=>exact yN ⟨rfl,h₃⟩
  |true=>exact yY (yY (j7 h₃ λx s₄ h₄=>yY (j7 h₄ λ_ s₅ h₅=>yN (yN ⟨rfl,h₅⟩))))
end
theorem Kd {α β:Type}{f:α->β->Sem (ForInStep β)}(g:α->β->β):∀(l:List α)(b:β),(∀ a∈l,∀ b,f a b=pure (.yield (g a b)))->forIn l b f=(pure (l.foldl (λb a=>g a b) b):Sem β)
 |[],_,_=>rfl
 |x::l,b,h=>by
  rw [List.forIn_cons,h x yU,pure_bind];exact Kd g l (g x b) λy hy=>h y (yS _ hy)
def jT (env:Env)(y:Str×NameKind)(cs:List (Str×Addr)):List (Str×Addr):=if y.2 == .free then (y.1,(env.cells.lookup y.1).getD 0)::cs else cs
theorem Gz (env:Env):∀(l:List (Str×NameKind))(cs:List (Str×Addr)),(∀ y∈l,y.2 = .free->∃ c,env.cells.lookup y.1=some c)->(∀ x c,cs.lookup x=some c->env.cells.lookup x=some c) -> (∀ x c,(l.foldl (λb a=>jT env a b) cs).lookup x=some c->env.cells.lookup x=some c)
 |[],_,_,h=>h
 |(n,k)::l,cs,hl,h=>by
  refine Gz env l _ (λy hy=>hl y (yS _ hy)) λx c e=>?_;unfold jT at e
  dsimp only at e
  cases hk:(k==NameKind.free) with
  |false=>rw [hk,if_neg yR] at e;exact h x c e
  |true =>
   rw [hk,if_pos rfl] at e;obtain ⟨c0,e0⟩:=hl (n,k) yU (by simpa using hk);cases hx:x==n with
   |true =>
    rw [yg,hx] at e;have hx':x=n:=by simpa using hx
    subst hx';have e':(List.lookup x env.cells).getD 0=c:=Option.some.inj e;have e0':List.lookup x env.cells=some c0:=e0;rw [e0'] at e';rw [e0',<- e'];rfl
   |false=>rw [yg,hx] at e;exact h x c e
theorem GA (env:Env)(x:Str):∀(l:List (Str×NameKind))(cs:List (Str×Addr)),(∃ c,cs.lookup x=some c)->∃ c,(l.foldl (λb a=>jT env a b) cs).lookup x=some c
 |[],_,h=>h
 |(n,k)::l,cs,h=>by
  refine GA env x l _ ?_;unfold jT
  dsimp only
  split
  ·rw [yg];cases hx:x==n with
   |true=>exact ⟨_,rfl⟩
   |false=>exact h
  ·exact h
theorem Gy (env:Env):∀(l:List (Str×NameKind))(cs:List (Str×Addr)),∀ y∈l,y.2 = .free->∃ c,(l.foldl (λb a=>jT env a b) cs).lookup y.1=some c
 |[],_,_,h,_=>nomatch h
 |z::l,cs,y,h,hf=>by
  rcases yD.mp h with e|h
  ·subst e;refine GA env y.1 l _ ?_;unfold jT
   dsimp only
   rw [hf,if_pos (by rfl),yg,beq_self_eq_true];exact ⟨_,rfl⟩
  ·exact Gy env l _ y h hf
theorem GB (h:∀ y∈scope.names,y.2 = .free->∃ c,env.cells.lookup y.1=some c):∃ cl,closureFor scope env=pure cl/\(∀ x c,cl.lookup x=some c->env.cells.lookup x=some c)/\∀ y∈scope.names,y.2 = .free->∃ c,cl.lookup y.1=some c:=by
 refine ⟨scope.names.foldl (λb a=>jT env a b) [],?_,Gz env _ _ h (λx c e=>by cases e),Gy env _ _⟩;simp only [closureFor];rw [Kd (jT env) scope.names [] (λy hy b=>?_)]
 ·rfl
 ·obtain ⟨n,k⟩:=y;unfold jT;cases hk:(k==NameKind.free) with
  |false=>simp only [hk,uO,if_false]<;>rfl
  |true=>obtain ⟨c,e⟩:=h (n,k) hy (by simpa using hk);have e':List.lookup n env.cells=some c:=e;simp only [hk,if_true,cellOf,e'];rfl
theorem BM (env:Env)(n:Str)(k:NameKind)(r:List (Str×NameKind))(x:Str):((List.map (λ(n,k)=>if (k==NameKind.free&&env.scope.kind == .function&&env.kindOf n==some .cell) then (n,NameKind.cell) else (n,k)) ((n,k)::r)).lookup x) = (if x==n then some (if (k==NameKind.free&&env.scope.kind == .function&&env.kindOf n==some .cell) then NameKind.cell else k) else (List.map (λ(n,k)=>if (k==NameKind.free&&env.scope.kind == .function&&env.kindOf n==some .cell) then (n,NameKind.cell) else (n,k)) r).lookup x):=by
 rw [yI];show List.lookup x ((if (k==NameKind.free&&env.scope.kind == .function&&env.kindOf n==some .cell)=true then (n,NameKind.cell) else (n,k))::_)=_;by_cases hc:(k==NameKind.free&&env.scope.kind == .function&&env.kindOf n==some .cell)=true
 ·rw [if_pos hc,if_pos hc,yg];cases x==n<;>rfl
 ·rw [if_neg hc,if_neg hc,yg];cases x==n<;>rfl
theorem BO {env:Env}{x:Str}{k:NameKind}:∀{names:List (Str×NameKind)}, (names.map λ(n,k)=>if (k==NameKind.free&&env.scope.kind == .function&&env.kindOf n==some .cell) then (n,NameKind.cell) else (n,k)).lookup x=some k -> ∃ k',names.lookup x=some k'/\(k'=k∨(k' = .free/\k = .cell))
 |[],h=>by simp at h
 |(n,q)::r,h=>by
  rw [BM] at h;rw [yg];cases hx:x==n with
  |true =>
   rw [hx,if_pos rfl] at h;have h':=Option.some.inj h;refine ⟨q,rfl,?_⟩;by_cases hc:(q==NameKind.free&&env.scope.kind == .function&&env.kindOf n==some .cell)=true
   ·rw [if_pos hc] at h';have hq:(q==NameKind.free)=true:=by
     cases z:(q==NameKind.free) with
     |true=>rfl
     |false=>rw [z] at hc;simp at hc
    exact .inr ⟨by simpa using hq,h'.symm⟩
   ·rw [if_neg hc] at h';exact .inl h'
  |false=>rw [hx,if_neg yR] at h;exact BO h
theorem BN {env:Env}{x:Str}:∀{names:List (Str×NameKind)},names.lookup x=some .free -> (names.map λ(n,k)=>if (k==NameKind.free&&env.scope.kind == .function&&env.kindOf n==some .cell) then (n,NameKind.cell) else (n,k)).lookup x=some .cell∨(names.map λ(n,k)=>if (k==NameKind.free&&env.scope.kind == .function&&env.kindOf n==some .cell) then (n,NameKind.cell) else (n,k)).lookup x=some .free
 |[],h=>by simp at h
 |(n,q)::r,h=>by
  rw [BM];rw [yg] at h;cases hx:x==n with
  |true =>
   rw [hx] at h;have h':q = .free:=Option.some.inj h;rw [if_pos rfl];by_cases hc:(q==NameKind.free&&env.scope.kind == .function&&env.kindOf n==some .cell)=true
   ·rw [if_pos hc];exact .inl rfl
   ·rw [if_neg hc,h'];exact .inr rfl
  |false=>rw [hx] at h;rw [if_neg yR];exact BN h
def b8 (cap:List (Option Nat))(U:St):St:=cap.map λo=>o.bind λi=>(U[i]?).join
structure wM (X:Cx)(N':List Str)(cap:List (Option Nat))(sc:Scope):Prop where
 kind:sc.kind = .function
 nocell:∀ y∈sc.names,y.2 ≠ .cell
 names:∀ y∈sc.names,y.2 = .local->sc.names.lookup y.1=some .local
 free:∀ y∈sc.names,y.2 = .free->X.env.kindOf y.1=some .cell∨X.env.kindOf y.1=some .free
 len:cap.length=N'.length
 cap:∀(j i:Nat),cap[j]?=some (some i)->∃ x,N'[j]?=some x/\X.N[i]?=some x/\sc.names.lookup x=some .free
def KB:Option NameKind->Bool
 |some .cell=>true
 |some .free=>true
 |_=>false
theorem Lz {k:Option NameKind}(h:KB k=true):k=some .cell∨k=some .free:=by
 cases k with
 |none=>cases h
 |some k=>cases k<;>first|exact .inl rfl|exact .inr rfl|cases h
def JC (names:List (Str×NameKind))(kd:Str->Option NameKind)(y:Str×NameKind):Bool :=
 match y.2 with
 | .cell=>false
 | .local=>names.lookup y.1==some .local
 | .free=>KB (kd y.1)
 |_=>true
def jp (N:List Str)(sc:Scope):List Str->List (Option Nat)->Bool
 |[],[]=>true
 |_::r,none::c=>jp N sc r c
 |x::r,some i::c=>N[i]?==some x&&(sc.names.lookup x==some .free&&jp N sc r c)
 |_,_=>false
theorem Vo {N:List Str}{sc:Scope}:∀{xs:List Str}{c:List (Option Nat)},jp N sc xs c=true->c.length=xs.length
 |[],[],_=>rfl
 |_::r,none::c,h=>by
  have h':jp N sc r c=true:=h;simp [Vo h']
 |x::r,some i::c,h=>by
  have h':(N[i]?==some x&&(sc.names.lookup x==some .free&&jp N sc r c))=true:=h;simp only [yn] at h';simp [Vo h'.2.2]
 |[],_::_,h=>by cases h
 |_::_,[],h=>by cases h
theorem Vn {N:List Str}{sc:Scope}:∀{xs:List Str}{c:List (Option Nat)},jp N sc xs c=true->∀(j i:Nat),c[j]?=some (some i)->∃ x,xs[j]?=some x/\N[i]?=some x/\sc.names.lookup x=some .free
 |[],[],_,j,i,e=>by simp at e
 |_::r,none::c,h,0,i,e=>by simp at e
 |_::r,none::c,h,j+1,i,e=>by
  have h':jp N sc r c=true:=h;obtain ⟨x,h1,h2⟩:=Vn h' j i (by simpa using e);exact ⟨x,by simpa using h1,h2⟩
 |x::r,some k::c,h,0,i,e=>by
  have h':(N[k]?==some x&&(sc.names.lookup x==some .free&&jp N sc r c))=true:=h;simp only [yn] at h';have e':k=i:=by simpa using e
  subst e';exact ⟨x,rfl,by simpa using h'.1,by simpa using h'.2.1⟩
 |x::r,some k::c,h,j+1,i,e=>by
  have h':(N[k]?==some x&&(sc.names.lookup x==some .free&&jp N sc r c))=true:=h;simp only [yn] at h';obtain ⟨x',h1,h2⟩:=Vn h'.2.2 j i (by simpa using e);exact ⟨x',by simpa using h1,h2⟩
 |[],_::_,h,_,_,_=>by cases h
 |_::_,[],h,_,_,_=>by cases h
theorem qz {N':List Str}{cap:List (Option Nat)}{sc:Scope}(h1:sc.kind = .function)(h2:(sc.names.all λy=>JC sc.names X.env.kindOf y)=true)(h3:jp X.N sc N' cap=true):wM X N' cap sc:=by
 have h2':=uV.mp h2;refine ⟨h1,λy hy e=>?_,λy hy e=>?_,λy hy e=>?_,Vo h3,Vn h3⟩
 ·have q:=h2' y hy;unfold JC at q;rw [e] at q;cases q
 ·have q:=h2' y hy;unfold JC at q;rw [e] at q;simpa using q
 ·have q:=h2' y hy;unfold JC at q;rw [e] at q;exact Lz q
def qW (X:Cx)(N':List Str)(sc:Scope)(cl:List (Str×Addr))(C:Addr)(s:Shared)(H:Hp)(fp:List Addr)(pn:List (Addr×Obj)):Cx where
 prog:=X.prog
 w:=X.w
 K:=X.K
 mg:=X.mg
 base:=X.base
 A:=X.A
 N:=N'
 s₀:=s
 H₀:=H
 env:=compEnvC sc cl C X.env
 outer:=X.stack
 stack:=X.stack
 ex:=fp
 fn:=λ_=>false
 calm:=X.calm
 pn:=pn
 xe:=λ_ _=>False
section
variable {X:Cx}{pins:List (Addr×Obj)}{U:St}{H:Hp}{s:Shared}{h1:Heap}{N':List Str}{cap:List (Option Nat)}{sc:Scope}{cl:List (Str×Addr)}{fp:List Addr}{C D:Addr}
theorem DE (I:Inv X pins U H s)(S:wM X N' cap sc)(hc1:∀ x c,cl.lookup x=some c->X.env.cells.lookup x=some c)(hc2:∀ y∈sc.names,y.2 = .free->∃ c,cl.lookup y.1=some c)(hf:∀ b∈fp,xM X pins H b)(ho:∀ b∈fp,b<s.heap.objs.size)(hC:s.heap.objs.size<=C):(qW X N' sc cl C s H fp (X.pn++pins)).Ok where
 mod:=I.ok.mod
 kind:=S.kind
 glob:=I.ok.glob
 blt:=I.ok.blt
 above:=hC
 inj:=λx y c e1 e2=>I.ok.inj x y c (hc1 x c e1) (hc1 y c e2)
 has:=λx hx=>by
  have key:∀ k,(relabel sc X.env).names.lookup x=some k->(k = .cell∨k = .free)->∃ c,cl.lookup x=some c:=λk e hk=>by
   obtain ⟨k',e',q⟩:=BO e;have hm:=PySem.mem_of_lookup e';have hfree:k' = .free:=by
    rcases q with q|q
    ·rcases hk with z|z
     ·exact absurd (q.trans z) (S.nocell _ hm)
     ·exact q.trans z
    ·exact q.1
   exact hc2 (x,k') hm hfree
  rcases hx with e|e
  ·exact key _ e (.inl rfl)
  ·exact key _ e (.inr rfl)
 cab:=λx c hx _=>by cases hx
 hd:=I.ok.hd
 frames:=I.ok.frames
 stk:= .inl rfl
 exf:=λb hb=>⟨yF (yA (ho b hb) hC),λx c e=>(hf b hb).2.2.2.2.1 x c (hc1 x c e)⟩
 bs:=I.bs
 bsz:=ye I.ok.bsz I.sz
 noex:=λb o e hb=>by
  rcases (hf b hb).2.2.2.1 with z|z
  ·exact I.ok.noex b o e z
  ·exact absurd (yA (yQ e) (ye I.ok.bsz z)) (uS _)
 exfs:=λb hb hz=>by
  rcases yD.mp (I.stkSub b hz) with e|e
  ·exact (hf b hb).2.1 e
  ·exact (hf b hb).2.2.1 e
 funs:=I.stack
 frf:=I.stkFree
 tbs:=λp hp=>I.base.tbls _ _ _ (I.ok.tbs p hp)
theorem Ld {m0:Str->Option Value}{o:Obj}(I:Inv X pins U H s)(S:wM X N' cap sc)(hc1:∀ x c,cl.lookup x=some c->X.env.cells.lookup x=some c)(hc2:∀ y∈sc.names,y.2 = .free->∃ c,cl.lookup y.1=some c)(hf:∀ b∈fp,xM X pins H b)(ho:∀ b∈fp,b<s.heap.objs.size)(hD:s.heap.objs.size<=D)(hC:D<C)(hDo:h1.get? D=some o)(hoc:∀ v,o.data ≠ .cell v)(hns:h1.Ns C m0)(hk:∀ b o,s.heap.get? b=some o->h1.get? b=some o)(t:Nat):Inv (qW X N' sc cl C s H fp (X.pn++pins)) [(D,o)] (b8 cap U) H { s with heap:=h1,toks:=t }:=by
 have hCs:s.heap.objs.size<=C:=ye hD (yb hC);have lt_s:∀ b o,s.heap.get? b=some o->b≠C:=λb o e=>yF (yA (yQ e) hCs);refine ⟨DE I S hc1 hc2 hf ho hCs,rfl,I.bare,Un.kept hk,⟨m0,hns,λj x v e1 e2 e3=>?_⟩,λx c e=>?_,I.hok.fresh hCs,λx c e=>I.freeC x c (hc1 x c e),λp hp=>?_,I.hok.kept hk,?_⟩
 ·obtain ⟨i,hi,hσ⟩:∃ i,cap[j]?=some (some i)/\U[i]?=some (some v):=by
   unfold b8 at e2;rw [yK] at e2;cases hc:cap[j]? with
   |none=>rw [hc] at e2;cases e2
   |some o' =>
    rw [hc] at e2;have e2':(o'.bind λi=>(U[i]?).join)=some v:=Option.some.inj e2;cases o' with
    |none=>cases e2'
    |some i =>
     refine ⟨i,rfl,?_⟩;have e3':(U[i]?).join=some v:=e2';cases hs:U[i]? with
     |none=>rw [hs] at e3';cases e3'
     |some q=>rw [hs] at e3';exact congrArg some e3'
  obtain ⟨x',n1,n2,n3⟩:=S.cap j i hi;have e1':N'[j]?=some x:=e1;rw [n1] at e1';obtain rfl:x'=x:=Option.some.inj e1';have hkd:=S.free (x',.free) (PySem.mem_of_lookup n3) rfl;obtain ⟨m,_,hl⟩:=I.loc;obtain ⟨u,r,l⟩:=hl i x' v n2 hσ (by
   rcases hkd with z|z
   ·exact .inr (.inl z)
   ·exact .inr (.inr z))
  refine ⟨u,r,?_⟩;rcases l with ⟨l1,_⟩|⟨_,c,ec,hcell⟩
  ·rcases hkd with z|z
   ·exact absurd (l1.symm.trans z) (by simp)
   ·exact absurd (l1.symm.trans z) (by simp)
  ·obtain ⟨c',ec'⟩:=hc2 (x',.free) (PySem.mem_of_lookup n3) rfl;have q:=hc1 x' c' ec';rw [ec] at q;obtain rfl:c=c':=Option.some.inj q;refine .inr ⟨BN n3,c,ec',?_⟩;obtain ⟨oc,hoc',hd⟩:=hcell;exact ⟨oc,hk _ _ hoc',hd⟩
 ·obtain ⟨v,oc,hoc',hd⟩:=I.cell x c (hc1 x c e);exact ⟨v,oc,hk _ _ hoc',hd⟩
 ·rcases yy.mp hp with hp|hp
  ·obtain ⟨e,n,ne,nf,d⟩:=I.pin p hp;refine ⟨hk _ _ e,n,lt_s _ _ e,λhz=>?_,d⟩;rcases yD.mp (I.stkSub _ hz) with e'|e'
   ·exact ne e'
   ·exact nf e'
  ·have e:p=(D,o):=by simpa using hp
   subst e;refine ⟨hDo,I.hok.fresh hD,yF hC,λhz=>?_,hoc⟩;rcases yD.mp (I.stkSub _ hz) with e'|e'
   ·exact absurd (yA I.lt hD) (by rw [show X.env.locals=D from e'.symm];exact uS _)
   ·exact I.nofs hD e'
 ·unfold b8;rw [yZ];exact S.len
end
structure Wk (U σ':St):Prop where
 len:U.length=σ'.length
 at':∀(i:Nat) v,U[i]?=some (some v)->σ'[i]?=some (some v)
theorem Wk.refl (U:St):Wk U U:=⟨rfl,λ_ _ h=>h⟩
theorem Wk.set {σ':St}{i:Nat}(w:Wk U σ')(h:U[i]?=some none):Wk U (σ'.set i o):=by
 refine ⟨by rw [yi];exact w.len,λj v e=>?_⟩;have ne:i≠j:=λz=>by rw [<- z,h] at e;cases e
 rw [yo ne];exact w.at' j v e
theorem Wk.one {i:Nat}(h:U[i]?=some none):Wk U (U.set i o):=(Wk.refl U).set h
def PTs (X:Cx)(ifs:List Expr)(t:TT):Prop :=
 ∀(pins:List (Addr×Obj))(s:Shared)(U:St)(H:Hp)(Q:Bool->Hp->Prop),Inv X pins U H s->t U H Q ->
  wpAny (model X.prog X.w) X.A (forIn ifs true λc r=>if r=true then do let ok <- isTrue c X.env (eval c X.env);pure (ForInStep.yield ok) else pure (ForInStep.yield r)) (TP X pins U Q) X.xe s
def tYes:TT:=λ_ H Q=>Q true H
theorem qK :PTs X [] tYes:=λ_ _ _ H _ I h=>wpAny_tests_nil ⟨H,I,h⟩
theorem RN {t:TT}(h:PT X c t):PTs X [c] t:=λpins s U H Q I q=>wpAny_tests_one (h pins s U H Q I q)
def YZ (J:It)(g:TG)(tt:TT)(te:TE)(Q:VK)(σ0:St)(H1:Hp):Prop:=∃ W:Nat->Nat->List V->Hp->Prop,(∃ m,W 0 m [] H1)/\∀ i m ys H,W i m ys H->ys.length<=sizeLine /\
  ((J.stop i H/\∀ D,H D=none->Q (.ref D) (z7 H D (.lst ys))) ∨
   (J.go i H/\∀ x H',J.yld i H x H'->g x σ0 H' λσ2 H2=>Wk σ0 σ2/\tt σ2 H2 λb H3 =>
      if b=true then te σ2 H3 λv H4=>∃ m',m'<m/\W (i+1) m' (ys++[v]) H4 else ∃ m',m'<m/\W (i+1) m' ys H3))
def Xh (wi:TI)(g:TG)(tt:TT)(te:TE)(cap:List (Option Nat)):TE:=λU H Q=>wi U H λJ H1=>YZ J g tt te Q (b8 cap U) H1
section
variable {X:Cx}{pins:List (Addr×Obj)}{U:St}{s₂:Shared}{N':List Str}{cap:List (Option Nat)}{sc:Scope}{cl:List (Str×Addr)}{fp:List Addr}
theorem GC {Q:VK}{H2:Hp}{it:Addr}{tn:Nat->Heap->Prop}{J:It}{E:Value->Shared->Prop}{RR:Value->Addr->Result->Shared->Prop}(S:wM X N' cap sc)(hc:X.calm=true)(hc1:∀ x c,cl.lookup x=some c->X.env.cells.lookup x=some c)(hc2:∀ y∈sc.names,y.2 = .free->∃ c,cl.lookup y.1=some c)(hg:∀ C pn,PG (qW X N' sc cl C s₂ H2 fp pn) tg g)(ht:∀ C pn,PTs (qW X N' sc cl C s₂ H2 fp pn) ifs tt)(he:∀ C pn,PE (qW X N' sc cl C s₂ H2 fp pn) elt te)(I2:Inv X pins U H2 s₂)(T:jQ X.prog X.w X.K tg J fp it tn)(st2:tn 0 s₂.heap)(f2:∀ b∈fp,xM X pins H2 b)(W:Nat->Nat->List V->Hp->Prop)(w0:∃ m,W 0 m [] H2)(turn:∀ i m ys H,W i m ys H->ys.length<=sizeLine /\ ((J.stop i H/\∀ D,H D=none->Q (.ref D) (z7 H D (.lst ys)))∨(J.go i H/\∀ x H',J.yld i H x H'->g x (b8 cap U) H' λσ2 H2=>Wk (b8 cap U) σ2/\tt σ2 H2 λb H3 => if b=true then te σ2 H3 λv H4=>∃ m',m'<m/\W (i+1) m' (ys++[v]) H4 else ∃ m',m'<m/\W (i+1) m' ys H3)))(hRR:∀ D C H' s' m,Inv X pins U H' s'->s'.heap.Ns C m->xM X pins H' C->Q (.ref D) H'->RR (.ref D) C (.ok .next) s'):wpAny (model X.prog X.w) X.A (newList []) (λacc s₃=>wpAny (model X.prog X.w) X.A (newFunctionEnv sc X.env.globals cl [] X.env.qual none .none (some X.env)) (λcenv s₄ => codeAny (model X.prog X.w) X.A (.compStart (.ListComp elt [⟨tg,iter,ifs,0⟩] sc pos) 0 (.ref it) acc { cenv with scope:=relabel sc X.env }) (RR acc cenv.locals) s₄) E s₃) E s₂:=by
  refine wpAny_newObj_type (wpAny_newFunctionEnv S.nocell (by intro y hy;simp at hy) (λh₁ hns₁ hsb₁=>?_) S.kind)
  dsimp only at hns₁ hsb₁ ⊢
  generalize hG:s₂.heap.push { cls:= .type "list",dict:=none,data:= .seq ([]:List Value).toArray }=G at hns₁ hsb₁ ⊢;have hC:G.objs.size=s₂.heap.objs.size+1:=by rw [<- hG,uG]
  have hDC:s₂.heap.objs.size<G.objs.size:=by rw [hC];exact ut _
  have old:∀ b o,s₂.heap.get? b=some o->h₁.get? b=some o:=λb o e =>
    hsb₁.extBut b o (yF (Nat.lt_trans (yQ e) hDC)) (yW _ (hG▸yW _ e))
  have hacc:h₁.get? s₂.heap.objs.size=some (LCg.lst []):=hsb₁.extBut _ _ (yF hDC) (yW _ (hG▸yC _ rfl));have fl:∀ b∈fp,b<s₂.heap.objs.size:=λb hb=>by obtain ⟨o,e,_⟩:=T.obj _ _ st2 b hb;exact yQ e
  have seqd:∀(us:List Value) v,(LCg.lst us).data ≠ .cell v:=λus v z=>by cases z
  have cellt:∀ x c,cl.lookup x=some c->c<s₂.heap.objs.size:=λx c e=>by obtain ⟨v,oc,ho,_⟩:=I2.cell x c (hc1 x c e);exact yQ ho
  have pint:∀ p∈X.pn++pins,p.1<s₂.heap.objs.size:=λp hp=>yQ (I2.pin p hp).1;have I0:Inv (qW X N' sc cl G.objs.size s₂ H2 fp (X.pn++pins)) [(s₂.heap.objs.size,LCg.lst [])] (b8 cap U) H2 { s₂ with heap:=h₁,toks:=s₂.toks+([]:List (Str×Value)).length } :=
    Ld I2 S hc1 hc2 f2 fl (yT _) hDC hacc (seqd []) hns₁ old _
  have stat:∀{H':Hp}{us:List Value},(∀ b∈fp,H' b=none)->∀ b∈fp,xM (qW X N' sc cl G.objs.size s₂ H2 fp (X.pn++pins)) [(s₂.heap.objs.size,LCg.lst us)] H' b:=λ{H' us} hn b hb=>by
    obtain ⟨f0,f1,f2',f3,f4,f5⟩:=f2 b hb;refine ⟨hn b hb,yF (Nat.lt_trans (fl b hb) hDC),λhz=>?_,.inl hb,λx c e=>f4 x c (hc1 x c e),λp hp=>?_⟩
    · rcases yD.mp (I2.stkSub b hz) with e|e
      · exact f1 e
      · exact f2' e
    · rcases yy.mp hp with hp|hp
      · exact f5 p hp
      · have e:p=(s₂.heap.objs.size,LCg.lst us):=by simpa using hp
        rw [e];exact Ne.symm (yF (fl b hb))
  have loop:∀ s₃:Shared,s₃={ s₂ with heap:=h₁,toks:=s₂.toks+([]:List (Str×Value)).length } ->
      codeAny (model X.prog X.w) X.A (.compLoop (.ListComp elt [⟨tg,iter,ifs,0⟩] sc pos) 0 (.ref it) (.ref s₂.heap.objs.size) (compEnvC sc cl G.objs.size X.env)) (RR (.ref s₂.heap.objs.size) G.objs.size) s₃:=by
    rintro s₃ rfl;obtain ⟨m0,w0⟩:=w0;refine DA
      (λn s'=>∃ i ys us H',Inv (qW X N' sc cl G.objs.size s₂ H2 fp (X.pn++pins)) [(s₂.heap.objs.size,LCg.lst us)] (b8 cap U) H' s'/\Vals ys us/\tn i s'.heap/\(∀ b∈fp,H' b=none)/\W i n ys H') ?_ m0
      ⟨0,[],[],H2,I0,.nil,T.keep _ _ _ st2 λb _ o e=>old b o e,λb hb=>(f2 b hb).1,w0⟩
    rintro n s3 ⟨i,ys,us,H3,I3,rv,st3,fr3,w3⟩;obtain ⟨hz,alt⟩:=turn i n ys H3 w3;rcases alt with ⟨stop,fin⟩|⟨go,step⟩
    · refine j7 (T.done (qW X N' sc cl G.objs.size s₂ H2 fp (X.pn++pins)) rfl rfl rfl hc i _ s3 _ H3 _ I3 (stat fr3) st3 stop) λr s4 zq=>?_
      obtain ⟨hr,I4⟩:=zq;subst hr;obtain ⟨gD,nD,_,_,_⟩:=I4.pin (s₂.heap.objs.size,LCg.lst us) (yt _ (yM.mpr rfl));have nD':H3 s₂.heap.objs.size=none:=nD;have gD':s4.heap.get? s₂.heap.objs.size=some (LCg.lst us):=gD;have b4:Un (p8 X.stack) fp H2 H3 s₂.heap s4.heap:=I4.base;have n2:H2 s₂.heap.objs.size=none:=I2.hok.fresh (yT _);have un:Un (p8 X.stack) fp H2 (z7 H3 s₂.heap.objs.size (.lst ys)) s₂.heap s4.heap :=
        ⟨b4.keep,b4.slot,λb o e n hx=>by rw [z6 (yF (yQ e))];exact b4.free b o e n hx,b4.there,
          λb xs e=>by rw [z6 (y0 e n2)];exact b4.tups b xs e,λb o u e=>by rw [z6 (y0 e n2)];exact b4.frzs b o u e,
          λb ps q e=>by rw [z6 (y0 e n2)];exact b4.tbls b ps q e⟩
      have hok:HOk X.prog X.w (z7 H3 s₂.heap.objs.size (.lst ys)) s4.heap:=λb u e=>by
        by_cases hb:b=s₂.heap.objs.size
        · subst hb
          rw [j9] at e;cases e;exact ⟨hz,us,us.length,rv,gD'⟩
        · rw [z6 hb] at e
          exact (I4.hok b u e).stay (λc v _ q=>q) (λc q=>by rw [z6 (y0 q nD')];exact q) (λc xs q=>by rw [z6 (y0 q nD')];exact q) λc _ _ q=>by rw [z6 (y0 q nD')];exact q
      have IF:Inv X pins U (z7 H3 s₂.heap.objs.size (.lst ys)) s4:=I2.call' (ch:=fp) I4.os un hok I4.bare λb hb=>by
        obtain ⟨f0,f1,f2',f3,f4,f5⟩:=f2 b hb;exact ⟨f3,f1,f4,f5⟩
      obtain ⟨mF,hnF,_⟩:=I4.loc;refine hRR _ _ _ _ mF IF hnF (I2.fpOk (yb hDC) ?_) (fin _ nD');rw [z6 (Ne.symm (yF hDC))];exact I4.free
    · refine j7 (T.item (qW X N' sc cl G.objs.size s₂ H2 fp (X.pn++pins)) rfl rfl rfl hc i _ s3 _ H3 _ I3 (stat fr3) st3 go) λr s4 zq=>?_
      obtain ⟨u,hr,h4⟩:=zq;subst hr;refine j7 h4 λ_ s5 zq=>?_;obtain ⟨x,H5,I5,r5,y5,st5,fr5⟩:=zq;have I5':=I5.pinned (stat fr5) (T.obj _ _ st5);refine j7 (hg G.objs.size (X.pn++pins) _ s5 _ H5 x u _ I5' r5 (step x H5 y5)) λ_ s6 zq=>?_;obtain ⟨σ6,H6,I6,wk,q6⟩:=zq;refine j7 (ht G.objs.size (X.pn++pins) _ s6 σ6 H6 _ I6 q6) λok s7 zq=>?_;obtain ⟨H7,I7,q7⟩:=zq;have back:∀{σ8:St}{H8:Hp}{s8:Shared}{us8:List Value},Inv (qW X N' sc cl G.objs.size s₂ H2 fp (X.pn++pins)) ([(s₂.heap.objs.size,LCg.lst us8)]++Zi fp s5.heap) σ8 H8 s8 ->
          tn (i+1) s8.heap/\∀ b∈fp,H8 b=none:=λ{σ8 H8 s8 us8} I8=>by
        refine ⟨T.keep _ _ _ st5 λb hb o e=>(I8.pin (b,o) (yt _ (yt _ (JB hb e)))).1,λb hb=>?_⟩;obtain ⟨o,e,d⟩:=T.obj _ _ st5 b hb;exact (I8.pin (b,o) (yt _ (yt _ (JB hb e)))).2.1
      cases ok with
      |false=>obtain ⟨m',hm,w7⟩:=q7;obtain ⟨t7,f7⟩:=back I7;exact ⟨m',hm,i+1,ys,us,H7,I7.unpinned.weak wk.len wk.at',rv,t7,f7,w7⟩
      |true =>
        refine j7 (he G.objs.size (X.pn++pins) _ s7 σ6 H7 _ I7 q7) λuv s8 zq=>?_;obtain ⟨v,H8,I8,r8,m',hm,w8⟩:=zq;obtain ⟨t8,f8⟩:=back I8;obtain ⟨gD,nD,lD,fD,_⟩:=I8.pin (s₂.heap.objs.size,LCg.lst us) (yt _ (yc _ (yM.mpr rfl)));have gD':s8.heap.get? s₂.heap.objs.size=some { cls:= .type "list",data:= .seq us.toArray us.length }:=gD;refine append_at (hsz:=by rw [yV,<- rv.length];exact hz) gD' λh9 hs9 hD9=>?_;have I8a:Inv (qW X N' sc cl G.objs.size s₂ H2 fp (X.pn++pins)) [] σ6 H8 s8:=I8.pins_of λp hp=>nomatch hp;have I9:Inv (qW X N' sc cl G.objs.size s₂ H2 fp (X.pn++pins)) [] σ6 H8 { s8 with heap:=h9,toks:=s8.toks } :=
          I8a.turned (it:=s₂.heap.objs.size) (λb o hb e=>hs9.extBut b o hb e) nD lD (.inr (yT _)) (λx c e=>yF (cellt x c e)) λp hp=>by
            rw [yO] at hp;exact yF (pint p hp)
        have I10:Inv (qW X N' sc cl G.objs.size s₂ H2 fp (X.pn++pins)) [(s₂.heap.objs.size,LCg.lst (us++[uv]))] σ6 H8 { s8 with heap:=h9,toks:=s8.toks }:=I9.pins_of λp hp=>by
          have e:p=(s₂.heap.objs.size,LCg.lst (us++[uv])):=by simpa using hp
          subst e;exact ⟨hD9.trans (congrArg some (LCg.lst_snoc us uv)),nD,lD,fD,seqd _⟩
        refine ⟨m',hm,i+1,ys++[v],us++[uv],H8,I10.weak wk.len wk.at',rv.append (.cons r8 .nil),T.keep _ _ _ t8 λb hb o e=>hs9.extBut b o (yF (fl b hb)) e,f8,w8⟩
  have st1:tn 0 h₁:=T.keep _ _ _ st2 λb _ o e=>old b o e;exact codeAny_compStart_list (loop _ rfl) (T.self _ 0 _ _ _ st1 (loop _ rfl))
theorem xG (S:wM X N' cap sc)(hc:X.calm=true)(hi:PI X tg iter wi)(hg:∀ cl C s H fp pn,PG (qW X N' sc cl C s H fp pn) tg g)(ht:∀ cl C s H fp pn,PTs (qW X N' sc cl C s H fp pn) ifs tt)(he:∀ cl C s H fp pn,PE (qW X N' sc cl C s H fp pn) elt te)(hs:∀ x,foldedSetIterable iter X.env x=pure x:=by intro _;rfl):PE X (.ListComp elt [⟨tg,iter,ifs,0⟩] sc pos) (Xh wi g tt te cap):=by intro pins s U H Q I h;rw [eval_ListComp];obtain ⟨cl,hcl,hc1,hc2⟩:=GB (scope:=sc) (env:=X.env) λy hy e=>I.ok.has y.1 (S.free y hy e);refine wpAny_comprehension_free (use:=none) rfl hs hcl S.kind S.names (j7 (hi pins s U H _ I h) λv s1 h1=>j7 h1 λitv s2 h2=>?_);obtain ⟨it,fp,tn,J,H2,e,I2,T,st2,f2,W,w0,turn⟩:=h2;subst e;refine GC (RR:=λacc C=>compPost (model X.prog X.w) X.A X.xe none (EP X pins U Q) acc C) S hc hc1 hc2 (λC pn=>hg cl C s2 H2 fp pn) (λC pn=>ht cl C s2 H2 fp pn) (λC pn=>he cl C s2 H2 fp pn) I2 T st2 f2 W w0 turn ?_;intro D C H' s' m I' hn F q;obtain ⟨f0,f1,f2',f3,f4,f5⟩:=F;exact ⟨m,hn,λh' hs'=>⟨.ref D,H',I'.turned (t':=s'.toks) (λb o hb e=>hs'.extBut b o hb e) f0 f1 f3 f4 f5,rfl,q⟩⟩
theorem Xb {i:Nat}{x:Str}{spos pos':Pos}(S:wM X N' cap sc)(hc:X.calm=true)(hN:X.N.Nodup)(hx:X.N[i]?=some x)(hk:X.env.scope.names.lookup x=some .local)(hi:PI X tg iter wi)
  (hg:∀ cl C s H fp pn,PG (qW X N' sc cl C s H fp pn) tg g) (ht:∀ cl C s H fp pn,PTs (qW X N' sc cl C s H fp pn) ifs tt) (he:∀ cl C s H fp pn,PE (qW X N' sc cl C s H fp pn) elt te)
  (hsw:swapsWith (.ListComp elt [⟨tg,iter,ifs,0⟩] sc pos) (some (.Name x pos')) spos.line X.env=pure true:=by rfl)
  (hs:∀ x,foldedSetIterable iter X.env x=pure x:=by intro _;rfl):PS X (.Assign [.Name x pos'] (.ListComp elt [⟨tg,iter,ifs,0⟩] sc pos) spos) (xS (Xh wi g tt te cap) (qS i)):=by
 intro pins s U H D I h;rw [exec_Assign_Name_used _ _ _ _ hsw];refine yY (wpAny_standAt (yY ?_));show wpAny _ X.A (do let _ <- comprehension (.ListComp elt [⟨tg,iter,ifs,0⟩] sc pos) sc X.env _ (newList []) false (eval iter X.env) (some (assign (.Name x pos') X.env))) _ _ s;obtain ⟨cl,hcl,hc1,hc2⟩:=GB (scope:=sc) (env:=X.env) λy hy e=>I.ok.has y.1 (S.free y hy e);refine yY (j7 (wpAny_comprehension_free (use:=some (assign (.Name x pos') X.env)) (Q:=λ_ s'=>SP X pins D .next s') rfl hs hcl S.kind S.names
  (j7 (hi pins s U H _ I h) λv s1 h1=>j7 h1 λitv s2 h2=>?_)) λ_ s' hq=>yN (yN hq))
 obtain ⟨it,fp,tn,J,H2,e,I2,T,st2,f2,W,w0,turn⟩:=h2;subst e;refine GC (Q:=λv H1=>qS i v U H1 D.nx) (RR:=λacc C=>compPost (model X.prog X.w) X.A X.xe (some (assign (.Name x pos') X.env)) (λ_ s'=>SP X pins D .next s') acc C) S hc hc1 hc2 (λC pn=>hg cl C s2 H2 fp pn) (λC pn=>ht cl C s2 H2 fp pn) (λC pn=>he cl C s2 H2 fp pn) I2 T st2 f2 W w0 turn ?_;intro E C H' s' m I' hn F q;obtain ⟨f0,f1,f2',f3,f4,f5⟩:=F;show wpAny _ X.A (assign (.Name x pos') X.env (.ref E)) _ _ _;refine wpAny_assign_Name (Pi I' hN hx (.inl hk) (v:= .ref E) rfl (λs'' I'' ch=>?_) (.inr hk));obtain ⟨a,sb,ha⟩:=ch;have nC:C≠a:=by
  rcases ha with z|z
  ·rw [z];exact f1
  ·exact Ne.symm (f4 x a z)
 exact ⟨m,hn.sameBut sb nC,λh' hs'=>⟨_,H',I''.turned (t':=s''.toks) (λb o hb e=>hs'.extBut b o hb e) f0 f1 f3 f4 f5,q⟩⟩
end
section
variable {g:TG}{tt:TT}{te:TE}{Q:VK}{H:Hp}{σ0:St}
theorem DB {a:Addr}{xs:List V}(Pv:Nat->List V->Hp->Prop)(h0:Pv 0 [] H)(hz:∀ i ys H,i<=xs.length->Pv i ys H->ys.length<=sizeLine)(hl:∀ i ys H,i<=xs.length->Pv i ys H->SqL K H a xs)(hs:∀ i x ys H (R:List V->Hp->Prop),xs[i]?=some x->Pv i ys H->(∀ ys' H',Pv (i+1) ys' H'->R ys' H')->g x σ0 H λσ2 H2=>Wk σ0 σ2/\tt σ2 H2 λb H3=>if b=true then te σ2 H3 λv H4=>R (ys++[v]) H4 else R ys H3)(hd:∀ ys H,Pv xs.length ys H->∀ D,H D=none->Q (.ref D) (z7 H D (.lst ys))):YZ (Itl K a) g tt te Q σ0 H:=by
 refine ⟨λi m ys H=>m=xs.length-i/\i<=xs.length/\Pv i ys H,⟨xs.length,by simp,yd _,h0⟩,?_⟩;rintro i m ys H ⟨rfl,hi,p⟩;have q:=hl i ys H hi p;refine ⟨hz i ys H hi p,?_⟩;by_cases hlt:i<xs.length
 ·refine .inr ⟨⟨xs,xs[i],q,by simp [hlt]⟩,λx H' y=>?_⟩;obtain ⟨e,y⟩:=y;subst e;exact hs i x ys _ (λys' H'=>∃ m',m'<xs.length-i/\m'=xs.length-(i+1)/\i+1<=xs.length/\Pv (i+1) ys' H') (y xs q) p λys' H' p'=>⟨xs.length-(i+1),by omega,rfl,hlt,p'⟩
 ·have e:i=xs.length:=by omega
  subst e;exact .inl ⟨⟨xs,q,yT _⟩,hd ys H p⟩
end
def tyB (T c:String):Option Bool:=if (Value.type T==Value.type c)=true then some true else if PySem.W.kitMeta c=true then (fastBuiltinMro T).map (·.contains (Value.type c)) else none
theorem LA {T c:String}{b:Bool}(h:tyB T c=some b):PySem.W.kitOne K (.type T) (.type c)=some b:=h
theorem SN:tyB "int" "int"=some true:=by decide +kernel
theorem SM:tyB "int" "bool"=some false:=by decide +kernel
theorem SO:tyB "list" "list"=some true:=by decide +kernel
theorem SQ:tyB "str" "str"=some true:=by decide +kernel
theorem vF:bootBuiltins "isinstance"=some (.builtin "isinstance"):=by decide +kernel
theorem jo:bootBuiltins "list"=some (.type "list"):=by decide +kernel
theorem Gp:bootBuiltins "int"=some (.type "int"):=by decide +kernel
theorem CU:bootBuiltins "bool"=some (.type "bool"):=by decide +kernel
theorem Gr:bootBuiltins "str"=some (.type "str"):=by decide +kernel
theorem ZR:bootBuiltins "all"=some (.builtin "all"):=by decide +kernel
theorem CZ:bootBuiltins "sum"=some (.builtin "sum"):=by decide +kernel
theorem CV:bootBuiltins "enumerate"=some (.type "enumerate"):=by decide +kernel
theorem Db:bootBuiltins "zip"=some (.type "zip"):=by decide +kernel
section
variable {X:Cx}
theorem Dh:CallR X (.builtin "isinstance") (λxs H Q=>∃ x n T b,xs=[x,.ty n]/\xX X.K H x (.type T)/\tyB T n=some b/\Q (.bl b) H):=by intro pins s U H xs us Q I r h;obtain ⟨x,n,T,b,rfl,ty,e,q⟩:=h;obtain ⟨u,w',rfl,rx,rw'⟩:=PN r;obtain rfl:w'=Value.type n:=rw';exact Li I rx ty (LA e) λtk=>⟨.bl b,H,I.tok _,rfl,q⟩
theorem PO:∀{bs:List Bool}{us:List Value}{i:Nat}{u:Value},Vals (bs.map V.bl) us->us[i]?=some u->u = .bool (bs.getD i false)
 |[],_,_,_,.nil,e=>by simp at e
 |b::_,_,0,_,.cons r _,e=>by
  have e':=Option.some.inj e;subst e';exact r
 |_::bs,_,i+1,u,.cons _ t,e=>by
  have q:=PO (i:=i) (u:=u) t (by simpa using e);simpa using q
theorem CJ:∀(bs:List Bool),(List.range bs.length).all (λi=>bs.getD i false)=bs.all id:=by
 intro bs;rw [Bool.eq_iff_iff,uV,uV];constructor
 ·intro h b hb;obtain ⟨i,hi,e⟩:=uH hb;have q:=h i (uB.mpr hi);rw [uE,yz hi] at q;rw [<- e];exact q
 ·intro h i hi;have hi':=uB.mp hi;rw [uE,yz hi'];exact h _ (yp hi')
theorem Dc (hc:X.calm=true):CallR X (.builtin "all") (λxs H Q=>∃ (a:Addr) (bs:List Bool),xs=[.ref a]/\SqL X.K H a (bs.map V.bl)/\Q (.bl (bs.all id)) H):=by
 intro pins s U H xs us Q I r h;obtain ⟨a,bs,rfl,hq,q⟩:=h;obtain ⟨u,rfl,ru⟩:=zk r;obtain rfl:u=Value.ref a:=ru;obtain ⟨its,rv,p,hz⟩:=I.list hq;have hlt:a<s.heap.objs.size:=by obtain ⟨_,_,e,_⟩:=p;exact yQ e
 have hl:s.heap.IsList a its.toArray:=p.isList;refine call_all_walk (wpAny_pyIter_list hl ?_);refine ⟨s.heap.objs.size,_,_,_,_,_,λi=>bs.getD i false,rfl,Walks.list (A:=X.A.in1) (I.ok.hd hc) s.heap.objs.size a (yF hlt) its.toArray,⟨⟨_,yC _ rfl,rfl,rfl⟩,hl.push _⟩,?_,λh' tk k=>?_⟩
 ·intro i v s' Q' E' hP hQ;have e:=PO rv (by simpa using hP);subst e;exact wpAny_truthy_bool hQ
 ·have hn:its.toArray.size=bs.length:=by have e:=rv.length;rw [yZ] at e;rw [yV];exact e.symm
  rw [hn,CJ];refine ⟨.bl (bs.all id),H,I.kept (t':=tk) (λb o e=>k b o (λhm=>?_) (yW _ e)),rfl,q⟩;have e':b=s.heap.objs.size:=by simpa using hm
  exact absurd (yQ e) (by rw [e'];exact uS _)
theorem PQ:∀{ns:List Int}{us:List Value},Vals (ns.map V.int) us->IntsAre us ns
 |[],_,.nil=> .nil
 |n::_,_,.cons ⟨t,e⟩ r=>by
  subst e;exact .cons n t (PQ r)
theorem Dx (hc:X.calm=true):CallR X (.builtin "sum") (λxs H Q=>∃ (a:Addr) (ns:List Int),xs=[.ref a]/\SqL X.K H a (ns.map V.int)/\Q (.int ns.sum) H):=by
 intro pins s U H xs us Q I r h;obtain ⟨a,ns,rfl,hq,q⟩:=h;obtain ⟨u,rfl,ru⟩:=zk r;obtain rfl:u=Value.ref a:=ru;obtain ⟨its,rv,p,hz⟩:=I.list hq;have hi:=PQ rv;have hl:s.heap.IsList a its.toArray:=p.isList;obtain ⟨xs,ex⟩:=hi.allInts.items;have e2:(numsOf its.toArray.toList).sum=ns.sum:=by rw [show its.toArray.toList=its from rfl,hi.numsOf]
 rw [ex] at hl e2;rw [nums_intItems] at e2;refine sum_intListG (I.ok.hd hc) hl λh' tk t' k=>⟨.int ns.sum,H,I.kept (t':=tk) k,?_,q⟩;rw [preSum_eq,List.take_of_length_le (by simp),e2];exact ⟨_,rfl⟩
def vW (_i j:Int):Prop:=0<j/\j.natAbs.log2<9000
theorem Bb:OpR X (binaryOp .FloorDiv) (rI vW λi j=> .int (i / j)):=opI λi j _ _ _ _ _ hc q=>by
 have e:i.fdiv j=i / j:=Int.fdiv_eq_ediv_of_nonneg i (Int.le_of_lt hc.1);exact floordiv_int (Ne.symm (Int.ne_of_lt hc.1)) (by rw [e];exact q) (.inl (PyProof.noPylong_of_log2 hc.2))
def Xo (i j:Int):Prop:=Builtin.Int.intBits i<=2 ^ 20/\Builtin.Int.intBits j<=2 ^ 20
theorem Zc:OpR X (binaryOp .Mult) (rI Xo λi j=> .int (i*j)):=opI λ_ _ _ _ _ _ _ hc q=>mul_int q (IntMulOk.of_bits hc.1 hc.2)
def Its (lo c:Int)(n:Nat):It:=⟨λi _=>i<n,λi H x H'=>H'=H/\x = .int (lo+i*c),λi _=>n<=i⟩
theorem SI {P:Program}{w:World}(it:Addr)(lo c:Int)(n:Nat):jQ P w K tg (Its lo c n) [it] it (λi h=>IsRangeIter h it (lo+(i:Nat)*c) ((n:Int)-(i:Nat)) c) where
 mem:=by simp
 obj:=λi h st b hb=>by
  have e:b=it:=by simpa using hb
  subst e;exact ⟨_,st,λv z=>by
   have z':Data.fields _=Data.cell v:=z;cases z'⟩
 keep:=λi h h' st k=>k it (by simp) _ st
 item:=by intro X hP hw hK hc i pins s U H E I hf st hg;subst hP hw hK;obtain ⟨f0,f1,f2,f3,f4,f5⟩:=hf it (by simp);have W:=Walks.range (prog:=X.prog) (w:=X.w) (I.ok.hd hc) it lo c n;refine W.item i s _ _ hg st λv h' tk hv st' kk=>?_;obtain ⟨t,rfl⟩:=hv;have I1:Inv X pins U H { s with heap:=h',toks:=tk }:=I.turned (λb o hb e=>kk b o (by simpa using hb) e) f0 f1 f3 f4 f5;exact ⟨_,rfl,Jl (s:={ s with heap:=h',toks:=tk }) (n:="range_iterator") st' rfl rfl (by decide) ⟨.int (lo+i*c),H,I1,⟨t,rfl⟩,⟨rfl,rfl⟩,st',λb hb=>(hf b hb).1⟩⟩
 done:=by intro X hP hw hK hc i pins s U H E I hf st hg;subst hP hw hK;obtain ⟨f0,f1,f2,f3,f4,f5⟩:=hf it (by simp);exact wpAny_pyNext_range_end (I.ok.hd hc) st (by have:n<=i:=hg;omega) λh' eb=>⟨rfl,I.turned (t':=s.toks) (λb o hb e=>eb b o hb e) f0 f1 f3 f4 f5⟩
 self:=λ_ _ _ _ _ st h=>wpAny_pyIter_rangeiter st h
def vm (i j c:Int):Nat:=(Builtin.Range.rangeSize i j c).toNat
def iRng3 (ta:TA):TI:=λU H R=>ta U H λvs H1=>∃ i j c:Int,vs=[.int i,.int j,.int c]/\(0<c/\c<1073741824)/\0<=Builtin.Range.rangeSize i j c/\Builtin.Range.small i j c=true/\R (Its i c (vm i j c)) H1
variable {tg:Expr}
theorem Rv {a b:Expr}{ta:TA}{p:Pos}(hg:Gl X "range")(hm:X.mg "range"=none)(ha:PA X [a,b,c] ta)(hs:starEach [a,b,c] X.env=[(false,eval a X.env),(false,eval b X.env),(false,eval c X.env)]:=by rfl)(hs2:starEach [b,c] X.env=[(false,eval b X.env),(false,eval c X.env)]:=by rfl):PI X tg (.Call (.Name "range" p) [a,b,c] [] pos) (iRng3 ta):=by
 intro pins s U H R I h;refine Call_ (wm I hg hm boot_range (PyProof.Rows.callWith_type1 (j7 (ha pos pins s U H _ I h) λus s1 ⟨vs,H1,I1,r1,q1⟩=>?_) (by rw [hs,hs2]) (by rw [hs2];rfl)));obtain ⟨i,j,c,e,⟨q1,q2⟩,q3,q4,q⟩:=q1;subst e;cases r1 with
 |cons r rr =>
  cases rr with
  |cons r' rr =>
   cases rr with
   |cons r'' rr =>
    cases rr;obtain ⟨t,rfl⟩:=r;obtain ⟨t',rfl⟩:=r';obtain ⟨t'',rfl⟩:=r'';refine call_range_3 (Ne.symm (Int.ne_of_lt q1)) ?_ (.inl (PyProof.noPylong_small (by omega)));refine wpAny_pyIter_range (IsRange.new ..) q4 ?_;have I2:Inv X pins U H1 { s1 with heap:=s1.heap.push { cls:= .type "range",data:= .fields #[.int i t,.int j t',.int c t''] },toks:=s1.toks }:=I1.kept λb o e=>yW _ e;refine ⟨(s1.heap.push { cls:= .type "range",data:= .fields #[.int i t,.int j t',.int c t''] }).objs.size,[(s1.heap.push { cls:= .type "range",data:= .fields #[.int i t,.int j t',.int c t''] }).objs.size],_,_,H1,rfl,
     I2.kept (t':=s1.toks) λb o e=>yW _ e,SI _ i c (vm i j c),?_,λb hb=>?_,q⟩
    ·have e1:i+((0:Nat):Int)*c=i:=by simp
     have e2:((vm i j c:Nat):Int)-((0:Nat):Int)=Builtin.Range.rangeSize i j c:=by unfold vm;omega
     show IsRangeIter _ _ (i+((0:Nat):Int)*c) (((vm i j c:Nat):Int)-((0:Nat):Int)) c;rw [e1,e2];exact yC _ rfl
    ·have e:b=(s1.heap.push { cls:= .type "range",data:= .fields #[.int i t,.int j t',.int c t''] }).objs.size:=by simpa using hb
     subst e;exact I2.fpOk (yT _) (I2.hok.fresh (yT _))
end
theorem Mg {lo c:Int}{n:Nat}{tb:TS}{D:qN}{H:Hp}(Pv:Nat->St->Hp->Prop)(h0:Pv 0 U H)(hs:∀ i U H,i<n->Pv i U H->g (.int (lo+i*c)) U H λσ2 H2=>tb { D with nx:=Pv (i+1),ct:=Pv (i+1),bk:=D.nx } σ2 H2)(hd:∀ U H,Pv n U H->D.nx U H):∃ W:Nat->Nat->St->Hp->Prop,(∃ m,W 0 m U H)/\∀ i m U H,W i m U H -> ((Its lo c n).stop i H/\D.nx U H)∨((Its lo c n).go i H/\∃ N:St->Hp->Prop,(∀ σ' H',N σ' H'->∃ m',m'<m/\W (i+1) m' σ' H')/\∀ x H',(Its lo c n).yld i H x H'->g x U H' λσ2 H2=>tb { D with nx:=N,ct:=N,bk:=D.nx } σ2 H2):=by
 refine ⟨λi m U H=>m=n-i/\i<=n/\Pv i U H,⟨n,by simp,yd _,h0⟩,?_⟩;rintro i m U H ⟨rfl,hi,p⟩;by_cases hlt:i<n
 ·refine .inr ⟨hlt,Pv (i+1),λσ' H' p'=>⟨n-(i+1),by omega,rfl,hlt,p'⟩,λx H' y=>?_⟩;obtain ⟨e,y⟩:=y;subst e y;exact hs i U _ hlt p
 ·have e:i=n:=by omega
  subst e;exact .inl ⟨yT _,hd U H p⟩
section
open PySem.SeqAt
theorem zv {α β:Type}{F:α->β->Prop}:∀{l₁:List α}{l₂:List β},Paired F l₁ l₂->∀(j:Nat)(h1:j<l₁.length)(h2:j<l₂.length),F l₁[j] l₂[j]
 |_,_,.cons r _,0,_,_=>r
 |_,_,.cons _ t,j+1,h1,h2=>zv t j (by simpa using h1) (by simpa using h2)
variable {X:Cx}
end
structure Fn (P:Program)(w:World)(K:Fg)(mg:Str->Option Value)(base:Heap)(k:Nat)(x:Str)(ps:List Str)(sp:Sp):Prop where
 ex:∃ f fd,FnOk P w K mg base v5 k f fd ps sp/\mg x=some (.ref f)/\PySem.W.keepIn K (.ref f)=true/\Binds K fd ps []
section
variable {X:Cx}{k j:Nat}{x:Str}{ps:List Str}{sp:Sp}{e:Expr}{es:List Expr}{t:TA}{p pos:Pos}
theorem qT (c:Fn X.prog X.w X.K X.mg X.base k x ps sp)(hr:Room j X.A)(hj:k<=j)(hg:Gl X x)(ha:PA X (e::es) t)(hdb:(x==("__debug__":Str))=false:=by decide)(he:starEach (e::es) X.env=(false,eval e X.env)::starEach es X.env:=by rfl)(hpl:(backTo pos (starEach es X.env)).any (·.1)=false:=by rfl):PE X (.Call (.Name x p) (e::es) [] pos) (qL sp [] E0 t):=by obtain ⟨f,fd,F,hm,hk,hb⟩:=c.ex;exact Bh F (hr.mono hj) hg hm hk hb .nil VZ ha hdb he hpl
end
end L2
namespace L2
open PySem PySem.Spec PyProof.Rows
variable{p pos px tp:Pos}{a:Expr}{b:Addr}{P:Program}{w:World}{K:Fg}{elts:List Expr}{x1:Nat}{ta:TA}{x:Str}{l:List Env}{S:List Addr}{h h':Heap}{p2:List (Addr×Obj)}{oe:Obj}
section
variable {X:Cx}{pins:List (Addr×Obj)}{U:St}{H:Hp}{s:Shared}{h':Heap}
theorem Inv.turnedL {t':Nat}{ch:List Addr}(I:Inv X pins U H s)(k:∀ b o,b∉ch->s.heap.get? b=some o->h'.get? b=some o)(hf:∀ b∈ch,xM X pins H b):Inv X pins U H { s with heap:=h',toks:=t' }:=by
 have nit:∀ b u,H b=some u->b∉ch:=λb u e z=>by rw [(hf b z).1] at e;cases e
 have nL:X.env.locals∉ch:=λz=>(hf _ z).2.1 rfl;refine I.step (g':=s.gens) (d':=s.drawn) (ch:=ch) (λb hb=>?_) (λb o _ _ hc e _=>k b o hc e) (λb o _ _ hc e _=>⟨o.slots,k b o hc e⟩) (λ_ _ _ _ n=>n)
  (λb o hc e=>⟨o,k b o hc e⟩) (λ_ _ e=>e) (λ_ _ _ e=>e) (λ_ _ _ e=>e) (λm hm=>?_) (λb u e=>?_) I.bare
 ·obtain ⟨f0,f1,f2,f3,f4,f5⟩:=hf b hb;exact ⟨f3,f1,f4,f5⟩
 ·obtain ⟨o,es,ep,ho,r⟩:=hm;exact ⟨o,es,ep,k _ o nL ho,r⟩
 ·refine (I.hok b u e).stay (λc v hc q=>k c v ?_ q) (λ_ q=>q) (λ_ _ q=>q) λ_ _ _ q=>q;rcases hc with z|z
  ·rw [z];exact nit b u e
  ·exact nit c _ z
theorem Inv.track {p:Addr}{o:HO}(I:Inv X pins U H s)(hp:X.s₀.heap.objs.size<=p)(hn:H p=none)(nL:p≠X.env.locals)(nC:∀ x c,X.env.cells.lookup x=some c->c≠p)(nP:∀ q∈X.pn++pins,q.1≠p)(new:ObjOk X.prog X.w (z7 H p o) s.heap p o):Inv X pins U (z7 H p o) s:=by
 refine ⟨I.ok,I.os,I.bare,⟨I.base.keep,I.base.slot,λb ob e n hx=>?_,I.base.there,λb xs e=>?_,λb ob u e=>?_,λb ps q e=>?_⟩,I.loc,I.cell,?_,λx c e=>?_,λq hq=>?_,λb u e=>?_,I.len⟩
 ·rw [z6 (yF (yA (yQ e) hp))];exact I.base.free b ob e n hx
 ·have z:=I.base.tups b xs e;rw [z6 (y0 z hn)];exact z
 ·have z:=I.base.frzs b ob u e;rw [z6 (y0 z hn)];exact z
 ·have z:=I.base.tbls b ps q e;rw [z6 (y0 z hn)];exact z
 ·rw [z6 (Ne.symm nL)];exact I.free
 ·rw [z6 (nC x c e)];exact I.freeC x c e
 ·obtain ⟨a1,a2,a3⟩:=I.pin q hq;exact ⟨a1,by rw [z6 (nP q hq)];exact a2,a3⟩
 ·by_cases hb:b=p
  ·subst hb;rw [j9] at e;cases e;exact new
  ·rw [z6 hb] at e;exact (I.hok b u e).stay (λc v _ q=>q) (λc q=>by rw [z6 (y0 q hn)];exact q) (λc xs q=>by rw [z6 (y0 q hn)];exact q) λc _ _ q=>by rw [z6 (y0 q hn)];exact q
theorem Inv.seq_ne {a:Addr}{xs:List V}(I:Inv X pins U H s)(hq:SqL X.K H a xs)(hf:xM X pins H b):a≠b:=by
 rintro rfl;rcases hq with (h|⟨o,h⟩)|⟨o,its,n,hk,_⟩
 ·rw [hf.1] at h;cases h
 ·rw [hf.1] at h;cases h
 ·have e:=I.ok.mod.kin a o hk;rcases hf.2.2.2.1 with z|z
  ·exact I.ok.noex a o e z
  ·exact absurd (yA (yQ e) (ye I.ok.bsz z)) (uS _)
end
def Ite (K:Fg)(a:Addr):It :=
 ⟨λi H=>∃ xs x,SqL K H a xs/\xs[i]?=some x,λi H x H'=>∃ p y,H p=none/\x = .ref p/\H'=z7 H p (.tup [.int i,y])/\∀ xs,SqL K H a xs->xs[i]?=some y,λi H=>∃ xs,SqL K H a xs/\xs.length<=i⟩
theorem SE (a e it:Addr)(hne:e≠it):jQ P w K (.Tuple elts x1 tp) (Ite K a) [e,it] e (λi h=>(∃ old,IsEnum h e it ((i:Nat):Int) old)/\h.IsListIter it a i) where
 mem:=by simp
 obj:=λi h st b hb=>by
  obtain ⟨⟨old,he⟩,hit⟩:=st;rcases yD.mp hb with rfl|hb
  ·exact ⟨_,he,λv z=>by
    have z':Data.fields _=Data.cell v:=z;cases z'⟩
  ·have eb:b=it:=by simpa using hb
   subst eb;obtain ⟨o,e1,c,d⟩:=hit;exact ⟨o,e1,λv z=>by rw [d] at z;cases z⟩
 keep:=λi h h' st k=>by
  obtain ⟨⟨old,he⟩,hit⟩:=st;exact ⟨⟨old,k e (by simp) _ he⟩,hit.at λo q=>k it (by simp) o q⟩
 item:=by
  intro X hP hw hK hc i pins s U H E I hf st hg;subst hP hw hK;obtain ⟨⟨old,he⟩,hit⟩:=st;obtain ⟨xs,x,hq,hx⟩:=hg;obtain ⟨its,rv,p,hz⟩:=I.list hq;obtain ⟨u,hu,ru⟩:=rv.get hx;have fz:xM X pins H s.heap.objs.size:=I.fpOk (yT _) (I.hok.fresh (yT _));have lte:e<s.heap.objs.size:=yQ he;have lti:it<s.heap.objs.size:=by obtain ⟨o,q,_⟩:=hit;exact yQ q
  refine wpAny_pyNext_enum_item he hit p.isList (x:=u) (by simpa using hu) hne λh1 heo hit1 ht1 hz1 hk1=>⟨_,rfl,?_⟩;refine wpAny_letOwnedTupleGo_enum heo λh2 he2 hs2=>?_;have hs2':Heap.SameBut e h1 h2:=hs2;have I2:Inv X pins U H { s with heap:=h2,toks:=s.toks+1 }:=I.turnedL (ch:=[e,it]) (λb o hb q=>by
   have n1:b≠e:=λz=>hb (by rw [z];simp);have n2:b≠it:=λz=>hb (by rw [z];simp);exact hs2'.extBut b o n1 (hk1 b o n1 n2 q)) hf
  obtain ⟨f0,f1,f2,f3,f4,f5⟩:=fz;have tup:h2.get? s.heap.objs.size=some { cls:= .type "tuple",data:= .seq #[.int i s.toks,u] }:=hs2'.extBut _ _ (Ne.symm (yF lte)) ht1;refine ⟨.ref s.heap.objs.size,z7 H s.heap.objs.size (.tup [.int i,x]),I2.track I.sz f0 f1 f4 f5 ?_,rfl,⟨s.heap.objs.size,x,f0,rfl,rfl,λys hy=>by rw [I.list_inj hy hq];exact hx⟩,⟨⟨u,?_⟩,?_⟩,λb hb=>?_⟩
  ·exact ⟨by show 2<=sizeLine;decide,[.int i s.toks,u],.cons ⟨_,rfl⟩ (.cons ru .nil),⟨_,tup,rfl,_,rfl⟩⟩
  ·have ei:(((i+1:Nat):Int))=(i:Int)+1:=by omega
   rw [ei];exact he2
  ·exact hit1.at λo q=>hs2'.extBut it o (Ne.symm hne) q
  ·have nb:b≠s.heap.objs.size:=by
    rcases yD.mp hb with rfl|hb
    ·exact yF lte
    ·have eb:b=it:=by simpa using hb
     rw [eb];exact yF lti
   rw [z6 nb];exact (hf b hb).1
 done:=by intro X hP hw hK hc i pins s U H E I hf st hg;subst hP hw hK;obtain ⟨⟨old,he⟩,hit⟩:=st;obtain ⟨xs,hq,hx⟩:=hg;obtain ⟨its,rv,p,hz⟩:=I.list hq;have hl:=rv.length;exact wpAny_pyNext_enum_end (I.ok.hd hc) he hit p.isList (by simp;omega) λh1 eb=>⟨rfl,I.turnedL (t':=s.toks) (ch:=[e,it]) (λb o hb q=>eb b o (λz=>hb (by rw [z];simp)) q) hf⟩
 self:=λ_ _ _ _ _ st h=>by
  obtain ⟨⟨old,he⟩,hit⟩:=st;exact wpAny_pyIter_enum he h
section
variable {X:Cx}{elts:List Expr}{x1:Nat}{tp:Pos}
def VH (K:Fg)(ta:TA):TI:=λU H R=>ta U H λvs H1=>∃ a,vs=[.ref a]/\(∃ xs,SqL K H1 a xs)/\R (Ite K a) H1
theorem Rt (hg:Gl X "enumerate")(hm:X.mg "enumerate"=none)(ha:PA X [a] ta)(hs:starEach [a] X.env=[(false,eval a X.env)]:=by rfl):PI X (.Tuple elts x1 tp) (.Call (.Name "enumerate" p) [a] [] pos) (VH X.K ta):=by
 intro pins s U H R I h;refine Call_ (wm I hg hm CV (PyProof.Rows.callWith_type1 (j7 (ha pos pins s U H _ I h) λus s1 zq=>?_) hs rfl));obtain ⟨vs,H1,I1,r1,q1⟩:=zq;obtain ⟨a,e,⟨xs,hq⟩,q⟩:=q1;subst e;cases r1 with
 |cons r rr =>
  cases rr;cases r;obtain ⟨its,rv,p,hz⟩:=I1.list hq;refine call_enumerate_list p.isList λh' he hit hsz hk=>?_;refine wpAny_pyIter_enum he ?_;refine ⟨s1.heap.objs.size+1,[s1.heap.objs.size+1,s1.heap.objs.size],_,_,H1,rfl,I1.kept (t':=s1.toks) hk,SE a (s1.heap.objs.size+1) s1.heap.objs.size (Nat.ne_of_gt (ut _)),⟨⟨_,he⟩,hit⟩,λb hb=>?_,q⟩;rcases yD.mp hb with rfl|hb
  ·exact I1.fpOk (uM _) (I1.hok.fresh (uM _))
  ·have eb:b=s1.heap.objs.size:=by simpa using hb
   subst eb;exact I1.fpOk (yT _) (I1.hok.fresh (yT _))
end
def Itz (K:Fg)(a b:Addr):It :=
  ⟨λi H=>∃ xs ys x y,SqL K H a xs/\SqL K H b ys/\xs[i]?=some x/\ys[i]?=some y,
   λi H z H'=>∃ p x y,H p=none/\z = .ref p/\H'=z7 H p (.tup [x,y])/\(∀ xs,SqL K H a xs->xs[i]?=some x)/\∀ ys,SqL K H b ys->ys[i]?=some y,
   λi H=>∃ xs ys,SqL K H a xs/\SqL K H b ys/\(xs.length<=i∨ys.length<=i)⟩
theorem SK (a b z TI TO i1 i2:Addr)(d:[z,TI,TO,i1,i2].Nodup):jQ P w K (.Tuple elts x1 tp) (Itz K a b) [z,TI,TO,i1,i2] z (λi h=>IsZip h z TI TO .none/\IsPair h TI (.ref i1) (.ref i2)/\(∃ u v,IsPair h TO u v)/\h.IsListIter i1 a i/\h.IsListIter i2 b i) where
 mem:=by simp
 obj:=λi h st c hc=>by
  obtain ⟨hz,hTI,⟨u,v,hTO⟩,h1,h2⟩:=st;have hc':c=z∨c=TI∨c=TO∨c=i1∨c=i2:=by simpa using hc
  rcases hc' with rfl|rfl|rfl|rfl|rfl
  ·exact ⟨_,hz,λv q=>by
    have q':Data.fields _=Data.cell v:=q;cases q'⟩
  ·exact ⟨_,hTI,λv q=>by
    have q':Data.seq _ _=Data.cell v:=q;cases q'⟩
  ·exact ⟨_,hTO,λv q=>by
    have q':Data.seq _ _=Data.cell v:=q;cases q'⟩
  ·obtain ⟨o,e1,cc,dd⟩:=h1;exact ⟨o,e1,λv q=>by rw [dd] at q;cases q⟩
  ·obtain ⟨o,e1,cc,dd⟩:=h2;exact ⟨o,e1,λv q=>by rw [dd] at q;cases q⟩
 keep:=λi h h' st k=>by
  obtain ⟨hz,hTI,⟨u,v,hTO⟩,h1,h2⟩:=st;exact ⟨k z (by simp) _ hz,k TI (by simp) _ hTI,⟨u,v,k TO (by simp) _ hTO⟩,h1.at λo e=>k i1 (by simp) o e,h2.at λo e=>k i2 (by simp) o e⟩
 item:=by
  intro X hP hw hK hc i pins s U H E I hf st hg;subst hP hw hK;obtain ⟨hz,hTI,⟨u0,v0,hTO⟩,h1,h2⟩:=st;obtain ⟨xs,ys,x,y,hqa,hqb,hx,hy⟩:=hg;obtain ⟨its,rv,p,_⟩:=I.list hqa;obtain ⟨jts,rw',p',_⟩:=I.list hqb;obtain ⟨u,hu,ru⟩:=rv.get hx;obtain ⟨v,hv,rv'⟩:=rw'.get hy;simp only [ym,yD,not_or,yJ,not_false_eq_true,List.nodup_nil,and_true] at d;obtain ⟨⟨d1,d2,d3,d4⟩,⟨d5,d6,d7⟩,⟨d8,d9⟩,d10⟩:=d;have ap:ZipApart z TI TO i1 i2 a b:=⟨Ne.symm d1,Ne.symm d2,Ne.symm d3,Ne.symm d4,d5,d6,d7,d8,d9,d10,
   I.seq_ne hqa (hf z (by simp)),I.seq_ne hqa (hf TO (by simp)),I.seq_ne hqa (hf i1 (by simp)),I.seq_ne hqa (hf i2 (by simp)),
   I.seq_ne hqb (hf z (by simp)),I.seq_ne hqb (hf TO (by simp)),I.seq_ne hqb (hf i1 (by simp)),I.seq_ne hqb (hf i2 (by simp))⟩
  have fz:xM X pins H s.heap.objs.size:=I.fpOk (yT _) (I.hok.fresh (yT _));have lt:∀ c∈[z,TI,TO,i1,i2],c<s.heap.objs.size:=λc hc=>by
   have hc':c=z∨c=TI∨c=TO∨c=i1∨c=i2:=by simpa using hc
   rcases hc' with rfl|rfl|rfl|rfl|rfl
   ·exact yQ hz
   ·exact yQ hTI
   ·exact yQ hTO
   ·obtain ⟨o,q,_⟩:=h1;exact yQ q
   ·obtain ⟨o,q,_⟩:=h2;exact yQ q
  refine wpAny_pyNext_zip_item ap hz hTI hTO h1 h2 p.isList p'.isList (x:=u) (y:=v) (by simpa using hu) (by simpa using hv) λh3 hz3 hTO3 h13 h23 hp3 hs3 hk3=>⟨_,rfl,?_⟩;refine wpAny_letOwnedTupleGo_zip hz3 λh4 hz4 hs4=>?_;have hs4':Heap.SameBut z h3 h4:=hs4;have I4:Inv X pins U H { s with heap:=h4,toks:=s.toks }:=I.turnedL (ch:=[z,TI,TO,i1,i2]) (λc o hc q=>by
   have n1:c≠z:=λe=>hc (by rw [e];simp);have n2:c≠TO:=λe=>hc (by rw [e];simp);have n3:c≠i1:=λe=>hc (by rw [e];simp);have n4:c≠i2:=λe=>hc (by rw [e];simp);exact hs4'.extBut c o n1 (hk3 c o n1 n2 n3 n4 q)) hf
  obtain ⟨f0,f1,f2,f3,f4,f5⟩:=fz;have tup:h4.get? s.heap.objs.size=some { cls:= .type "tuple",data:= .seq #[u,v] }:=hs4'.extBut _ _ (Ne.symm (yF (lt z (by simp)))) hp3;refine ⟨.ref s.heap.objs.size,z7 H s.heap.objs.size (.tup [x,y]),I4.track I.sz f0 f1 f4 f5 ?_,rfl,⟨s.heap.objs.size,x,y,f0,rfl,rfl,(λzs hy'=>by rw [I.list_inj hy' hqa];exact hx),λzs hy'=>by rw [I.list_inj hy' hqb];exact hy⟩,⟨hz4,?_,⟨u,v,?_⟩,?_,?_⟩,λc hc=>?_⟩
  ·exact ⟨by show 2<=sizeLine;decide,[u,v],.cons ru (.cons rv' .nil),⟨_,tup,rfl,_,rfl⟩⟩
  ·exact hs4'.extBut _ _ (Ne.symm d1) (hk3 _ _ (Ne.symm d1) d5 d6 d7 hTI)
  ·exact hs4'.extBut _ _ (Ne.symm d2) hTO3
  ·exact h13.at λo q=>hs4'.extBut i1 o (Ne.symm d3) q
  ·exact h23.at λo q=>hs4'.extBut i2 o (Ne.symm d4) q
  ·rw [z6 (yF (lt c hc))];exact (hf c hc).1
 done:=by
  intro X hP hw hK hc i pins s U H E I hf st hg;subst hP hw hK;obtain ⟨hz,hTI,⟨u0,v0,hTO⟩,h1,h2⟩:=st;obtain ⟨xs,ys,hqa,hqb,hend⟩:=hg;obtain ⟨its,rv,p,_⟩:=I.list hqa;obtain ⟨jts,rw',p',_⟩:=I.list hqb;have l1:=rv.length;have l2:=rw'.length;simp only [ym,yD,not_or,yJ,not_false_eq_true,List.nodup_nil,and_true] at d;obtain ⟨⟨d1,d2,d3,d4⟩,⟨d5,d6,d7⟩,⟨d8,d9⟩,d10⟩:=d;have ap:ZipApart z TI TO i1 i2 a b:=⟨Ne.symm d1,Ne.symm d2,Ne.symm d3,Ne.symm d4,d5,d6,d7,d8,d9,d10,
   I.seq_ne hqa (hf z (by simp)),I.seq_ne hqa (hf TO (by simp)),I.seq_ne hqa (hf i1 (by simp)),I.seq_ne hqa (hf i2 (by simp)),
   I.seq_ne hqb (hf z (by simp)),I.seq_ne hqb (hf TO (by simp)),I.seq_ne hqb (hf i1 (by simp)),I.seq_ne hqb (hf i2 (by simp))⟩
  refine wpAny_pyNext_zip_end (I.ok.hd hc) ap hz hTI hTO h1 h2 p.isList p'.isList (hend.elim (λq=> .inl (by simp;omega)) (λq=> .inr (by simp;omega))) λh3 hk3=>⟨rfl,I.turnedL (t':=s.toks) (ch:=[z,TI,TO,i1,i2]) (λc o hc q=>?_) hf⟩;exact hk3 c o (λe=>hc (by rw [e];simp)) (λe=>hc (by rw [e];simp)) (λe=>hc (by rw [e];simp)) (λe=>hc (by rw [e];simp)) q
 self:=λ_ _ _ _ _ st h=>wpAny_pyIter_zip st.1 h
section
variable {X:Cx}{elts:List Expr}{x1:Nat}{tp:Pos}
def iZip (K:Fg)(ta:TA):TI:=λU H R=>ta U H λvs H1=>∃ a b,vs=[.ref a,.ref b]/\(∃ xs,SqL K H1 a xs)/\(∃ ys,SqL K H1 b ys)/\R (Itz K a b) H1
theorem Ry {b:Expr}(hg:Gl X "zip")(hm:X.mg "zip"=none)(ha:PA X [a,b] ta)(hs:starEach [a,b] X.env=[(false,eval a X.env),(false,eval b X.env)]:=by rfl)(hs2:starEach [b] X.env=[(false,eval b X.env)]:=by rfl):PI X (.Tuple elts x1 tp) (.Call (.Name "zip" p) [a,b] [] pos) (iZip X.K ta):=by
 intro pins s U H R I h;refine Call_ (wm I hg hm Db (PyProof.Rows.callWith_type1 (j7 (ha pos pins s U H _ I h) λus s1 ⟨vs,H1,I1,r1,q1⟩=>?_) (by rw [hs,hs2]) (by rw [hs2];rfl)));obtain ⟨a,b,e,⟨xs,hq⟩,⟨ys,hq'⟩,q⟩:=q1;subst e;cases r1 with
 |cons r rr =>
  cases rr with
  |cons r' rr =>
   cases rr;cases r;cases r';obtain ⟨its,rv,p,hz⟩:=I1.list hq;obtain ⟨jts,rw',p',_⟩:=I1.list hq';refine call_zip_2 p.isList p'.isList λh' g1 g2 g3 g4 g5 hsz hk=>?_;refine wpAny_pyIter_zip g1 ?_;refine ⟨s1.heap.objs.size+4,[s1.heap.objs.size+4,s1.heap.objs.size+2,s1.heap.objs.size+3,s1.heap.objs.size,s1.heap.objs.size+1],_,_,H1,rfl,I1.kept (t':=s1.toks) hk,SK a b _ _ _ _ _ ?_,⟨g1,g2,⟨_,_,g3⟩,g4,g5⟩,λc hc=>?_,q⟩
   ·simp only [ym,yD,not_or,yJ,not_false_eq_true,List.nodup_nil,and_true];refine ⟨⟨?_,?_,?_,?_⟩,⟨?_,?_,?_⟩,⟨?_,?_⟩,?_⟩<;>(show ¬ (_:Nat)=_;omega)
   ·have hc':s1.heap.objs.size<=c:=by
     have hc2:c=s1.heap.objs.size+4∨c=s1.heap.objs.size+2∨c=s1.heap.objs.size+3∨c=s1.heap.objs.size∨c=s1.heap.objs.size+1:=by simpa using hc
     rcases hc2 with e|e|e|e|e<;>(rw [e];first|exact yT _|exact Nat.le_add_right _ _)
    exact I1.fpOk hc' (I1.hok.fresh hc')
end
section
variable {X:Cx}{K:Fg}
theorem VM (h:X.K=K):IxR X (rIxL K):=by subst h;exact ix_list
theorem Gu (h:X.K=K):CallR X (.builtin "len") (λxs H Q=>∃ p ys,xs=[.ref p]/\(SqL K H p ys∨SqT K H p ys)/\Q (.int ys.length) H):=by subst h;exact Dm
theorem Dy (hc:X.calm=true)(h:X.K=K):CallR X (.builtin "sum") (λxs H Q=>∃ (a:Addr) (ns:List Int),xs=[.ref a]/\SqL K H a (ns.map V.int)/\Q (.int ns.sum) H):=by subst h;exact Dx hc
theorem wC {es:List Expr}{k:Nat}{t:TGs}{n:Nat}(hc:X.calm=true)(hK:X.K=K)(h:PGs X es t)(hn:(assignEach es X.env).length=n:=by rfl)(hst:(assignEach es X.env).findIdx? (·.1)=none:=by rfl):PG X (.Tuple es k pos) (gTup K n t):=by subst hK;exact Rs hc h hn hst
theorem xc {tg l:Expr}{tl:TE}(hK:X.K=K)(hl:PE X l tl):PI X tg l (XI K tl):=by subst hK;exact Ru hl
theorem Bl (hK:X.K=K)(hg:Gl X "enumerate")(hm:X.mg "enumerate"=none)(ha:PA X [a] ta)(hs:starEach [a] X.env=[(false,eval a X.env)]:=by rfl):PI X (.Tuple elts x1 tp) (.Call (.Name "enumerate" p) [a] [] pos) (VH K ta):=by subst hK;exact Rt hg hm ha hs
theorem Rz {b:Expr}(hK:X.K=K)(hg:Gl X "zip")(hm:X.mg "zip"=none)(ha:PA X [a,b] ta)(hs:starEach [a,b] X.env=[(false,eval a X.env),(false,eval b X.env)]:=by rfl)(hs2:starEach [b] X.env=[(false,eval b X.env)]:=by rfl):PI X (.Tuple elts x1 tp) (.Call (.Name "zip" p) [a,b] [] pos) (iZip K ta):=by subst hK;exact Ry hg hm ha hs hs2
end
section
variable {X:Cx}
theorem HS:OpR X (compareOp .LtE) (λx y H Q=>∃ i j,x = .str i/\y = .str j/\Q (.bl (!decide (j.cps.toList<i.cps.toList))) H):=by intro pins s U H x y v u Q I rx ry h;obtain ⟨i,j,rfl,rfl,q⟩:=h;obtain ⟨t,rfl⟩:=rx;obtain ⟨t',rfl⟩:=ry;exact PySem.P.le_str (VB I q rfl)
def ItS (z:Str):It:=⟨λi _=>i<z.cps.size,λi H x H'=>H'=H/\∃ c,z.cps[i]?=some c/\x = .str ⟨#[c]⟩,λi _=>i=z.cps.size⟩
theorem Pz (it:Addr)(ty:String)(z:Str)(t:Tok)(W:∀ A':Around,A'.handled=none->Walks P w A' it [it] [it] z.cps.size (SignAt z) (λi h=>h.IsStrIter it ty z t i))(sf:∀(A:Around)(i:Nat)(s:Shared)(Q:Value->Shared->Prop)(E:Value->Shared->Prop),s.heap.IsStrIter it ty z t i->Q (.ref it) s->wpAny (model P w) A (pyIter (.ref it)) Q E s):jQ P w K (.Name x px) (ItS z) [it] it (λi h=>h.IsStrIter it ty z t i) where
 mem:=by simp
 obj:=λi h st b hb=>by
  have e:b=it:=by simpa using hb
  subst e;obtain ⟨o,e,c,d⟩:=st;exact ⟨o,e,λv q=>by rw [d] at q;cases q⟩
 keep:=λi h h' st k=>by
  obtain ⟨o,e,r⟩:=st;exact ⟨o,k it (by simp) o e,r⟩
 item:=by intro X hP hw hK hc i pins s U H E I hf st hg;subst hP hw hK;obtain ⟨f0,f1,f2,f3,f4,f5⟩:=hf it (by simp);refine (W X.A (I.ok.hd hc)).item i s _ _ hg st λv h' tk hv st' kk=>?_;obtain ⟨c,u,e1,rfl⟩:=hv;have I1:Inv X pins U H { s with heap:=h',toks:=tk }:=I.turned (λb o hb e=>kk b o (by simpa using hb) e) f0 f1 f3 f4 f5;refine ⟨_,rfl,?_⟩;show wpAny _ _ (pure ()) _ _ _;exact yN ⟨.str ⟨#[c]⟩,H,I1,⟨u,rfl⟩,⟨rfl,c,e1,rfl⟩,st',λb hb=>(hf b hb).1⟩
 done:=by intro X hP hw hK hc i pins s U H E I hf st hg;subst hP hw hK;obtain ⟨f0,f1,f2,f3,f4,f5⟩:=hf it (by simp);have hg':i=z.cps.size:=hg;subst hg';exact (W X.A (I.ok.hd hc)).done s _ _ st λh' tk kk=>⟨rfl,I.turned (λb o hb e=>kk b o (by simpa using hb) e) f0 f1 f3 f4 f5⟩
 self:=sf
def iStr (tl:TE):TI:=λU H R=>tl U H λx H1=>∃ z,x = .str z/\R (ItS z) H1
theorem Rw {l:Expr}{tl:TE}(hl:PE X l tl):PI X (.Name x px) l (iStr tl):=by
 intro pins s U H R I h;refine j7 (hl pins s U H _ I h) λv s1 zq=>?_;obtain ⟨x,H1,I1,r1,q1⟩:=zq;obtain ⟨z,e,q⟩:=q1;subst e;obtain ⟨t,rfl⟩:=r1;have fp:∀ b∈[s1.heap.objs.size],xM X pins H1 b:=λb hb=>by
  have e:b=s1.heap.objs.size:=by simpa using hb
  subst e;exact I1.fpOk (yT _) (I1.hok.fresh (yT _))
 cases ha:z.cps.all (·<128)
 ·refine wpAny_pyIter_wide ha ?_;exact ⟨s1.heap.objs.size,[s1.heap.objs.size],_,_,H1,rfl,I1.kept (t':=s1.toks) λb o e=>yW _ e,Pz _ "str_iterator" z t (λA' hA=>Walks.strWide hA _ z t) (λ_ _ _ _ _ st h=>wpAny_pyIter_striter_wide st h),⟨_,yC _ rfl,rfl,rfl⟩,fp,q⟩
 ·refine wpAny_pyIter_ascii ha ?_;exact ⟨s1.heap.objs.size,[s1.heap.objs.size],_,_,H1,rfl,I1.kept (t':=s1.toks) λb o e=>yW _ e,Pz _ "str_ascii_iterator" z t (λA' hA=>Walks.strAscii hA _ z t) (λ_ _ _ _ _ st h=>wpAny_pyIter_striter_ascii st h),⟨_,yC _ rfl,rfl,rfl⟩,fp,q⟩
end
section
variable {X:Cx}{K:Fg}
def Bv (K:Fg):R2:=λx y H Q=>∃ l b xs zs,x = .ref l/\y = .ref b/\SqL K H l xs/\SqL K H b zs/\xs.length+zs.length<=sizeLine/\∀ p,H p=none->Q (.ref p) (z7 H p (.lst (xs++zs)))
theorem op_catL:OpR X (binaryOp .Add) (Bv X.K):=by
 intro pins s U H x y v u Q I rx ry h;obtain ⟨l,b,xs,zs,rfl,rfl,hH,hB,hz,q⟩:=h;cases rx;cases ry;obtain ⟨its,r,⟨⟨cls,dd,data,sl⟩,n,e,h1,h2,h3⟩,_⟩:=I.list hH;obtain ⟨its2,r2,⟨⟨cls2,dd2,data2,sl2⟩,n2,e2,k1,k2,k3⟩,_⟩:=I.list hB
 dsimp only at h1 h2 h3 k1 k2 k3
 subst h1 h2 h3 k1 k2 k3;have hl:=r.length;have hl2:=r2.length;have hsz:its.toArray.size+its2.toArray.size<=sizeLine:=by rw [yV,yV];omega
 refine concat_meets ⟨_,e,rfl⟩ ⟨_,e2,rfl⟩ noFill_list_add seq_list_add PySem.F.slot_list_add PySem.F.entry_list_add (PySem.F.args_list_add_2 _ _) (list_addW l b its.toArray its2.toArray n n2 none none sl sl2 hsz) ⟨e,e2,?_⟩;have ea:its.toArray++its2.toArray=(its++its2).toArray:=by simp
 rw [ea];exact ⟨.ref _,_,I.lnew (t':=s.toks) (r.append r2) (by rw [yL];omega),rfl,q _ I.fresh⟩
end
section
variable {P:Program}{w:World}{H H' H0:Hp}{h h' h0:Heap}{a:Addr}{o:HO}
theorem ObjOk.here (x:ObjOk P w H h a o):∃ u,h.get? a=some u:=by
 cases o with
 |lst xs=>obtain ⟨_,_,_,_,e⟩:=x;exact ⟨_,e⟩
 |tup xs=>obtain ⟨_,_,_,_,e,_⟩:=x;exact ⟨_,e⟩
 |dK kvs=>obtain ⟨_,_,_,_,_,_,_,e,_⟩:=x;exact ⟨_,e⟩
 |dT fl as kvs=>obtain ⟨_,_,_,_,_,_,_,e,_⟩:=x;exact ⟨_,e⟩
 |set S n=>obtain ⟨_,_,_,_,e,_⟩:=x;exact ⟨_,e⟩
 |ins C dx fs=>obtain ⟨_,_,_,e,_⟩:=x;exact ⟨_,e⟩
 |own y=>obtain ⟨_,e⟩:=x;exact ⟨_,e⟩
 |xd fs=>obtain ⟨_,⟨_,_,_,e,_⟩,_⟩:=x;exact ⟨_,e⟩
 |rng lo hi=>obtain ⟨_,_,_,e⟩:=x;exact ⟨_,e⟩
 |frz ob u=>obtain ⟨e,_⟩:=x;exact ⟨_,e⟩
 |tbl ps q=>obtain ⟨_,e,_⟩:=x;exact ⟨_,e⟩
 |met f y=>exact ⟨_,(show h.get? a=some _ from x)⟩
 |ext φ=>obtain ⟨_,⟨_,e⟩,_⟩:=x;exact ⟨_,e⟩
theorem HOk.gone (x:HOk P w H h)(e:h.get? a=none):H a=none:=by
 cases q:H a with
 |none=>rfl
 |some u=>obtain ⟨v,z⟩:=(x a u q).here;rw [e] at z;cases z
theorem HOk.off (x:HOk P w H h)(k:∀ b u,b∉S->h.get? b=some u->h'.get? b=some u)(hS:∀ b∈S,H b=none):HOk P w H h':=λb u e=>by
 have out:∀ c v,H c=some v->c∉S:=λc v q z=>by
  have n:=hS c z;rw [q] at n;cases n
 refine (x b u e).stay (λc v hc q=>k c v ?_ q) (λ_ q=>q) (λ_ _ q=>q) λ_ _ _ q=>q;rcases hc with z|z
 ·rw [z];exact out b u e
 ·exact out c _ z
theorem Un.off {fs ex:List Addr}(u:Un fs ex H0 H h0 h)(k:∀ b o,b∉S->h.get? b=some o->h'.get? b=some o)(hS:∀ b∈S,b∈fs∨h0.get? b=none)(sl:∀ b o,b∈fs->h.get? b=some o->∃ z,h'.get? b=some { o with slots:=z }):Un fs ex H0 H h0 h' where
 keep:=λb o e n hb hx=>k b o (λz=>by
  rcases hS b z with q|q
  ·exact hb q
  ·rw [e] at q;cases q) (u.keep b o e n hb hx)
 slot:=λb o e n hb hx=>by
  obtain ⟨z,q⟩:=u.slot b o e n hb hx;obtain ⟨z2,q2⟩:=sl b _ hb q;exact ⟨z2,q2⟩
 free:=u.free
 there:=λb o e hx=>by
  obtain ⟨o',q⟩:=u.there b o e hx;by_cases hb:b∈fs
  ·obtain ⟨z,q2⟩:=sl b _ hb q;exact ⟨_,q2⟩
  ·exact ⟨o',k b o' (λz=>by
    rcases hS b z with y|y
    ·exact hb y
    ·rw [e] at y;cases y) q⟩
 tups:=u.tups
 frzs:=u.frzs
 tbls:=u.tbls
end
theorem VS {env:Env}(h:env∈l)(hf:env.frame=some b):b∈p8 l:=ya.mpr ⟨env,h,hf⟩
section
variable {M:Model}{A:Around}{Er:Value->Shared->Prop}{s:Shared}{h0 base:Heap}{H:Hp}{P:Program}{w:World}{env:Env}{outer:List Env}{L e:Addr}{cls:Value}{Q:Unit->Shared->Prop}
structure wN (S:List Addr)(l:List Env)(h h':Heap):Prop where
 keep:∀ b o,b∉S->h.get? b=some o->h'.get? b=some o
 slot:∀ b o,b∈p8 l->h.get? b=some o->∃ z,h'.get? b=some { o with slots:=z }
theorem GO {B h1:Heap}{T:Addr}{oT:Obj}{ts:Array Value}(hok:HOk P w H h1)(hp:∀ b o,h0.get? b=some o->∃ o',h1.get? b=some o')(fr:h1.FunFrames base l)(hB:B=PySem.W.hideAll h1 (S++p8 l))(up:∀ b o,b∈p8 l->h1.get? b=some o->∃ z,h'.get? b=some { o with slots:=z })(hn:B.get? T=none)(hT:h'.get? T=some oT)(hd:oT.data = .fields ts)(hS:T∈S->H T=none/\h0.get? T=none):H T=none/\h0.get? T=none:=by
 cases q:h1.get? T with
 |none =>
  refine ⟨hok.gone q,?_⟩;cases z:h0.get? T with
  |none=>rfl
  |some o=>obtain ⟨o',z2⟩:=hp T o z;rw [q] at z2;cases z2
 |some o =>
  by_cases m:T∈S++p8 l
  ·rcases yy.mp m with m|m
   ·exact hS m
   ·obtain ⟨z,z2⟩:=up T o m q;obtain ⟨_,o2,z3,z4⟩:=fr.mem m;rw [q] at z3;cases z3;rw [hT] at z2;have e:=Option.some.inj z2;rw [e] at hd;exact absurd hd (z4 ts)
  ·rw [hB,PySem.W.hideAll_get _ q m] at hn;cases hn
end
theorem Rb {mg:Str->Option Value}{C:Addr}{bmB:List Value}{newId:String}(X:K.In h)(hm:mg x=some (.ref C))(q:PySem.W.excIn K C bmB newId=true):OwnCls x C bmB newId mg h:=by
 constructor
 ·exact hm
 unfold PySem.W.excIn at q;split at q
 next dA cA sA lk =>
  split at q
  next D mr s0 s1 s2 s3 nw s5 em es =>
   rw [yn,yn,yn,yn,yn] at q;obtain ⟨⟨⟨⟨⟨q1,q2⟩,q3⟩,q4⟩,q5⟩,q6⟩:=q;have r1:D=C:=beq_iff_eq.mp q1;have r2:nw=newId:=beq_iff_eq.mp q2;have r6:=beq_iff_eq.mp q6;subst r1 r2;cases cA with
   |mk f1 f2 f3 f4 f5 f6 f7 f8 f9 f10 f11 =>
    have em':f3 = .ref D::mr:=em;have q3':f11=false:=by simpa using q3
    have es':sA=#[s0,s1,s2,s3,some (.builtin nw),s5]:=by
     cases sA with
     |mk l=>exact congrArg Array.mk es
    subst em' q3' es';have nsx:=PySem.W.isNs_of_in X (show PySem.W.nsOkIn K f4=true from q5);refine ⟨mr,f4,f1,f5,f2,f6,f7,f8,f9,f10,dA,s0,s1,s2,s3,s5,_,X _ _ lk,Heap.Ns.of_isNs nsx,?_,PySem.W.tail_of_in X q4⟩;exact PySem.W.nsMap_none_of_in X q5 r6
  next=>cases q
 next=>cases q
def veMro:List Value:=[.type "ValueError",.type "Exception",.type "BaseException",.type "object"]
section
variable {X:Cx}{x:Str}{C:Addr}{E:XK}{np cpos pos:Pos}
def JW (C:Addr)(E:XK):TS:=λ_ _ H=>E (.ref C) none H
end
abbrev Cx.tried (X:Cx)(pn:List (Addr×Obj))(W:Value->Shared->Prop):Cx:={ X with pn:=pn,xe:=W }
abbrev Cx.suite (X:Cx)(pn:List (Addr×Obj))(ea:Addr):Cx:={ X with A:=X.A.mark (some (.ref ea)),calm:=false,pn:=pn,xe:=λ_ _=>False }
section
variable {X:Cx}{pins:List (Addr×Obj)}{U:St}{H:Hp}{s:Shared}{W:Value->Shared->Prop}{b ea:Addr}
theorem Cx.Ok.tried (ok:X.Ok)(pn:List (Addr×Obj))(W:Value->Shared->Prop):(X.tried pn W).Ok :=
 ⟨ok.mod,ok.kind,ok.glob,ok.blt,ok.above,ok.inj,ok.has,ok.cab,ok.hd,ok.frames,ok.stk,ok.exf,ok.bs,ok.bsz,ok.noex,ok.exfs,ok.funs,ok.frf,ok.tbs⟩
theorem Cx.Ok.suite (ok:X.Ok)(pn:List (Addr×Obj))(ea:Addr):(X.suite pn ea).Ok :=
 ⟨ok.mod,ok.kind,ok.glob,ok.blt,ok.above,ok.inj,ok.has,ok.cab,(λz=>nomatch z),ok.frames,ok.stk,ok.exf,ok.bs,ok.bsz,ok.noex,ok.exfs,ok.funs,ok.frf,ok.tbs⟩
theorem Inv.tried (I:Inv X pins U H s)(W:Value->Shared->Prop):Inv (X.tried (X.pn++pins) W) [] U H s :=
 ⟨I.ok.tried _ _,I.os,I.bare,I.base,I.loc,I.cell,I.free,I.freeC,λp hp=>I.pin p (by simpa using hp),I.hok,I.len⟩
theorem Inv.untried (ok:X.Ok)(I:Inv (X.tried (X.pn++pins) W) p2 U H s):Inv X pins U H s :=
 ⟨ok,I.os,I.bare,I.base,I.loc,I.cell,I.free,I.freeC,λp hp=>I.pin p (yc _ hp),I.hok,I.len⟩
theorem Inv.suite (I:Inv X pins U H s)(e1:s.heap.get? ea=some oe)(e2:H ea=none)(e3:ea≠X.env.locals)(e4:ea∉X.fs)(e5:∀ v,oe.data ≠ .cell v):Inv (X.suite (X.pn++pins++[(ea,oe)]) ea) [] U H s :=
 ⟨I.ok.suite _ _,I.os,I.bare,I.base,I.loc,I.cell,I.free,I.freeC,λp hp=>by
  have hp':p∈X.pn++pins++[(ea,oe)]:=by simpa using hp
  rcases yy.mp hp' with z|z
  ·exact I.pin p z
  ·have q:p=(ea,oe):=by simpa using z
   subst q;exact ⟨e1,e2,e3,e4,e5⟩,I.hok,I.len⟩
theorem Inv.unsuite (ok:X.Ok)(I:Inv (X.suite (X.pn++pins++[(ea,oe)]) ea) p2 U H s):Inv X pins U H s :=
 ⟨ok,I.os,I.bare,I.base,I.loc,I.cell,I.free,I.freeC,λp hp=>I.pin p (yc _ (yc _ hp)),I.hok,I.len⟩
structure Vg (X:Cx)(pins:List (Addr×Obj))(b:Addr):Prop where
 s0:X.s₀.heap.get? b=none
 loc:b≠X.env.locals
 cel:∀ x c,X.env.cells.lookup x=some c->c≠b
 pin:∀ p∈X.pn++pins,p.1≠b
 fs:b∉X.fs
theorem Inv.apart (I:Inv X pins U H s)(hex:X.ex=[])(n:s.heap.get? b=none):Vg X pins b where
 s0:=by
  cases z:X.s₀.heap.get? b with
  |none=>rfl
  |some o=>obtain ⟨o',q⟩:=I.base.there b o z (by rw [hex];exact λz=>nomatch z);rw [n] at q;cases q
 loc:=λz=>by
  obtain ⟨m,⟨o,es,ep,ho,_⟩,_⟩:=I.loc;rw [<- z,n] at ho;cases ho
 cel:=λx c e z=>by
  obtain ⟨v,o,ho,_⟩:=I.cell x c e;rw [z,n] at ho;cases ho
 pin:=λp hp z=>by
  have q:=(I.pin p hp).1;rw [z,n] at q;cases q
 fs:=λz=>by
  obtain ⟨_,o,ho,_⟩:=I.funs.mem z;rw [n] at ho;cases ho
theorem Inv.flown (I:Inv X pins U H s)(hf:X.env.frame=some X.env.locals)(hst:X.stack=X.env::X.outer)(hS:∀ c∈S,H c=none/\Vg X pins c)(k:wN (S++p8 X.stack) X.stack s.heap h'):Inv X pins U H { s with heap:=h' }:=by
 have hL:X.env.locals∈p8 X.stack:=by rw [hst];exact VS yU hf
 have sub:∀ c,c∈X.fs->c∈p8 X.stack:=λc hc=>by
  rw [hst];obtain ⟨x,hx,q⟩:=ya.mp hc;exact ya.mpr ⟨x,yS _ hx,q⟩
 have celK:∀ x c,X.env.cells.lookup x=some c->∀ v,s.heap.IsCell c v->h'.IsCell c v:=λx c e v ⟨o,ho,hd⟩=>by
  by_cases hc:c∈p8 X.stack
  ·obtain ⟨z,q⟩:=k.slot c o hc ho;exact ⟨_,q,hd⟩
  ·exact ⟨o,k.keep c o (λz=>(yy.mp z).elim (λy=>(hS c y).2.cel x c e rfl) hc) ho,hd⟩
 refine ⟨I.ok,I.os,I.bare,I.base.off k.keep (λc hc=>?_) (λc o hc q=>k.slot c o (sub c hc) q),?_,λx c e=>?_,I.free,I.freeC,λp hp=>?_,I.hok.off k.keep (λc hc=>?_),I.len⟩
 ·rcases yy.mp hc with z|z
  ·exact .inr (hS c z).2.s0
  ·rcases yD.mp (I.stkSub c z) with y|y
   ·refine .inr ?_;rw [y];exact uR I.ok.above
   ·exact .inl y
 ·obtain ⟨m,⟨o,es,ep,ho,r⟩,hl⟩:=I.loc;obtain ⟨z,q⟩:=k.slot _ o hL ho;refine ⟨m,⟨_,es,ep,q,r⟩,λi x v e1 e2 e3=>?_⟩;obtain ⟨u,r2,l⟩:=hl i x v e1 e2 e3;refine ⟨u,r2,?_⟩;rcases l with l|⟨k1,c,e,y⟩
  ·exact .inl l
  ·exact .inr ⟨k1,c,e,celK x c e _ y⟩
 ·obtain ⟨v,z⟩:=I.cell x c e;exact ⟨v,celK x c e v z⟩
 ·obtain ⟨e,n,ne,nf,d⟩:=I.pin p hp;refine ⟨k.keep p.1 p.2 (λz=>?_) e,n,ne,nf,d⟩;rcases yy.mp z with y|y
  ·exact (hS p.1 y).2.pin p hp rfl
  ·rcases yD.mp (I.stkSub p.1 y) with q|q
   ·exact ne q
   ·exact nf q
 ·rcases yy.mp hc with z|z
  ·exact (hS c z).1
  ·exact I.stkFree c z
end
theorem SP.untried {X:Cx}{pins:List (Addr×Obj)}{W:Value->Shared->Prop}{D:qN}{f:Flow}{s:Shared}(ok:X.Ok)(h:SP (X.tried (X.pn++pins) W) p2 D f s):SP X pins D f s:=by
 cases f with
 |next=>obtain ⟨σ',H',I,q⟩:=h;exact ⟨σ',H',I.untried ok,q⟩
 |brk=>obtain ⟨σ',H',I,q⟩:=h;exact ⟨σ',H',I.untried ok,q⟩
 |cont=>obtain ⟨σ',H',I,q⟩:=h;exact ⟨σ',H',I.untried ok,q⟩
 |ret u=>obtain ⟨v,σ',H',I,r,q⟩:=h;exact ⟨v,σ',H',I.untried ok,r,q⟩
theorem Pg {base:Heap}(fr:h.FunFrames base l)(k:(PySem.W.hideAll h (S++p8 l)).StaysIn h')(up:h.UpToSlots h'):wN (S++p8 l) l h h' :=
 ⟨λb o nb q=>k b o (PySem.W.hideAll_get _ q nb),λb o hb q=>up b o q (by
  obtain ⟨_,o2,z3,z4⟩:=fr.mem hb;rw [q] at z3;cases z3;exact z4)⟩
end L2
namespace L2
open PySem PySem.Spec PyProof.Rows PySem.SeqAt
variable{x y:V}{A:Around}{s:Shared}{u v:Value}{l:Addr}{items:Array Value}{n:Nat}{b:Bool}{K:Fg}
def EqP (K:Fg)(H:Hp):Nat->V->V->Bool->Prop
 |0,x,y,b=>u4 x=true/\u4 y=true/\b=qQ x y
 |n+1,x,y,b=>(u4 x=true/\u4 y=true/\b=qQ x y) ∨
  (∃(a c:Addr)(xs ys:List V),x = .ref a/\y = .ref c/\SqL K H a xs/\SqL K H c ys/\((xs.length≠ys.length/\b=false)∨(xs.length=ys.length/\∃ e:Nat->Bool,(∀ j (h1:j<xs.length) (h2:j<ys.length),EqP K H n xs[j] ys[j] (e j))/\b=(List.range xs.length).all e))) ∨
  (∃(a c:Addr)(xs ys:List V),x = .ref a/\y = .ref c/\SqT K H a xs/\SqT K H c ys/\∃ e:Nat->Bool,(∀ j (h1:j<xs.length) (h2:j<ys.length),EqP K H n xs[j] ys[j] (e j))/\b=((List.range (min xs.length ys.length)).all e&&xs.length==ys.length)) ∨
  (∃(a c:Addr)(xs ys:List V),x = .ref a/\y = .ref c/\SqL K H a xs/\SqT K H c ys/\b=false) ∨
  (∃(a c:Addr)(xs ys:List V),x = .ref a/\y = .ref c/\SqT K H a xs/\SqL K H c ys/\b=false) ∨
  (∃(c:Addr)(ys:List V),u4 x=true/\y = .ref c/\(SqL K H c ys∨SqT K H c ys)/\b=false) ∨
  (∃(a:Addr)(xs:List V),u4 y=true/\x = .ref a/\(SqL K H a xs∨SqT K H a xs)/\b=false)
theorem Jd (h:u4 x=true):qQ x x=true:=by cases x<;>first|rfl|exact beq_self_eq_true _|cases h
theorem BJ (ry:RelV y u)(rx:RelV x v)(fy:u4 y=true)(fx:u4 x=true):RcAt A s u v (qQ y x):=by
 cases y with
 |non =>
  cases ry;cases x with
  |non=>cases rx;exact RcAt.none_none
  |bl b=>cases rx;exact RcAt.none_bool b
  |int b=>obtain ⟨t2,rfl⟩:=rx;exact RcAt.none_int b t2
  |str b=>obtain ⟨t2,rfl⟩:=rx;exact RcAt.none_str b t2
  |_=>exact absurd (show false=true from fx) yR
 |bl a =>
  cases ry;cases x with
  |non=>cases rx;exact RcAt.bool_none a
  |bl b=>cases rx;exact RcAt.bool_bool a b
  |int b=>obtain ⟨t2,rfl⟩:=rx;exact RcAt.bool_int a b t2
  |str b=>obtain ⟨t2,rfl⟩:=rx;exact RcAt.bool_str a b t2
  |_=>exact absurd (show false=true from fx) yR
 |int a =>
  obtain ⟨t1,rfl⟩:=ry;cases x with
  |non=>cases rx;exact RcAt.int_none a t1
  |bl b=>cases rx;exact RcAt.int_bool a t1 b
  |int b=>obtain ⟨t2,rfl⟩:=rx;exact RcAt.int_int a t1 b t2
  |str b=>obtain ⟨t2,rfl⟩:=rx;exact RcAt.int_str a t1 b t2
  |_=>exact absurd (show false=true from fx) yR
 |str a =>
  obtain ⟨t1,rfl⟩:=ry;cases x with
  |non=>cases rx;exact RcAt.str_none a t1
  |bl b=>cases rx;exact RcAt.str_bool a t1 b
  |int b=>obtain ⟨t2,rfl⟩:=rx;exact RcAt.str_int a t1 b t2
  |str b=>obtain ⟨t2,rfl⟩:=rx;exact RcAt.str_str a t1 b t2
  |_=>exact absurd (show false=true from fx) yR
 |_=>exact absurd (show false=true from fy) yR
theorem BK (ry:RelV y u)(rx:RelV x v)(fy:u4 y=true)(fx:u4 x=true):RcNeAt A s u v (!qQ y x):=by
 cases y with
 |non =>
  cases ry;cases x with
  |non=>cases rx;exact RcNeAt.none_none
  |bl b=>cases rx;exact RcNeAt.none_bool b
  |int b=>obtain ⟨t2,rfl⟩:=rx;exact RcNeAt.none_int b t2
  |str b=>obtain ⟨t2,rfl⟩:=rx;exact RcNeAt.none_str b t2
  |_=>exact absurd (show false=true from fx) yR
 |bl a =>
  cases ry;cases x with
  |non=>cases rx;exact RcNeAt.bool_none a
  |bl b=>cases rx;exact RcNeAt.bool_bool a b
  |int b=>obtain ⟨t2,rfl⟩:=rx;exact RcNeAt.bool_int a b t2
  |str b=>obtain ⟨t2,rfl⟩:=rx;exact RcNeAt.bool_str a b t2
  |_=>exact absurd (show false=true from fx) yR
 |int a =>
  obtain ⟨t1,rfl⟩:=ry;cases x with
  |non=>cases rx;exact RcNeAt.int_none a t1
  |bl b=>cases rx;exact RcNeAt.int_bool a t1 b
  |int b=>obtain ⟨t2,rfl⟩:=rx;exact RcNeAt.int_int a t1 b t2
  |str b=>obtain ⟨t2,rfl⟩:=rx;exact RcNeAt.int_str a t1 b t2
  |_=>exact absurd (show false=true from fx) yR
 |str a =>
  obtain ⟨t1,rfl⟩:=ry;cases x with
  |non=>cases rx;exact RcNeAt.str_none a t1
  |bl b=>cases rx;exact RcNeAt.str_bool a t1 b
  |int b=>obtain ⟨t2,rfl⟩:=rx;exact RcNeAt.str_int a t1 b t2
  |str b=>obtain ⟨t2,rfl⟩:=rx;exact RcNeAt.str_str a t1 b t2
  |_=>exact absurd (show false=true from fx) yR
 |_=>exact absurd (show false=true from fy) yR
theorem DP (hl:s.heap.IsList l items)(hu:A.units<cLine)(ry:RelV y u)(fy:u4 y=true):EqAt A s u (.ref l) false:=by
 cases y with
 |non=>cases ry;exact EqAt.none_list hl hu
 |bl a=>cases ry;exact EqAt.bool_list a hl hu
 |int a=>obtain ⟨t1,rfl⟩:=ry;exact EqAt.int_list a t1 hl hu
 |str a=>obtain ⟨t1,rfl⟩:=ry;exact EqAt.str_list a t1 hl hu
 |_=>exact absurd (show false=true from fy) yR
theorem DR (hl:s.heap.IsList l items)(hu:A.units<cLine)(ry:RelV y u)(fy:u4 y=true):EqAt A s (.ref l) u false:=by
 cases y with
 |non=>cases ry;exact EqAt.list_none hl hu
 |bl a=>cases ry;exact EqAt.list_bool a hl hu
 |int a=>obtain ⟨t1,rfl⟩:=ry;exact EqAt.list_int a t1 hl hu
 |str a=>obtain ⟨t1,rfl⟩:=ry;exact EqAt.list_str a t1 hl hu
 |_=>exact absurd (show false=true from fy) yR
theorem DQ (hl:s.heap.IsTuple l items)(hu:A.units<cLine)(ry:RelV y u)(fy:u4 y=true):EqAt A s u (.ref l) false:=by
 cases y with
 |non=>cases ry;exact EqAt.none_tuple hl hu
 |bl a=>cases ry;exact EqAt.bool_tuple a hl hu
 |int a=>obtain ⟨t1,rfl⟩:=ry;exact EqAt.int_tuple a t1 hl hu
 |str a=>obtain ⟨t1,rfl⟩:=ry;exact EqAt.str_tuple a t1 hl hu
 |_=>exact absurd (show false=true from fy) yR
theorem DS (hl:s.heap.IsTuple l items)(hu:A.units<cLine)(ry:RelV y u)(fy:u4 y=true):EqAt A s (.ref l) u false:=by
 cases y with
 |non=>cases ry;exact EqAt.tuple_none hl hu
 |bl a=>cases ry;exact EqAt.tuple_bool a hl hu
 |int a=>obtain ⟨t1,rfl⟩:=ry;exact EqAt.tuple_int a t1 hl hu
 |str a=>obtain ⟨t1,rfl⟩:=ry;exact EqAt.tuple_str a t1 hl hu
 |_=>exact absurd (show false=true from fy) yR
theorem RU (hl:s.heap.IsList l items)(hu:A.units<cLine)(ry:RelV y u)(fy:u4 y=true):RcAt A s u (.ref l) false:=by
 cases y with
 |non=>cases ry;exact RcAt.none_list hl hu
 |bl a=>cases ry;exact RcAt.bool_list a hl hu
 |int a=>obtain ⟨t1,rfl⟩:=ry;exact RcAt.int_list a t1 hl hu
 |str a=>obtain ⟨t1,rfl⟩:=ry;exact RcAt.str_list a t1 hl hu
 |_=>exact absurd (show false=true from fy) yR
theorem RW (hl:s.heap.IsList l items)(hu:A.units<cLine)(ry:RelV y u)(fy:u4 y=true):RcAt A s (.ref l) u false:=by
 cases y with
 |non=>cases ry;exact RcAt.list_none hl hu
 |bl a=>cases ry;exact RcAt.list_bool a hl hu
 |int a=>obtain ⟨t1,rfl⟩:=ry;exact RcAt.list_int a t1 hl hu
 |str a=>obtain ⟨t1,rfl⟩:=ry;exact RcAt.list_str a t1 hl hu
 |_=>exact absurd (show false=true from fy) yR
theorem RV (hl:s.heap.IsTuple l items)(hu:A.units<cLine)(ry:RelV y u)(fy:u4 y=true):RcAt A s u (.ref l) false:=by
 cases y with
 |non=>cases ry;exact RcAt.none_tuple hl hu
 |bl a=>cases ry;exact RcAt.bool_tuple a hl hu
 |int a=>obtain ⟨t1,rfl⟩:=ry;exact RcAt.int_tuple a t1 hl hu
 |str a=>obtain ⟨t1,rfl⟩:=ry;exact RcAt.str_tuple a t1 hl hu
 |_=>exact absurd (show false=true from fy) yR
theorem RX (hl:s.heap.IsTuple l items)(hu:A.units<cLine)(ry:RelV y u)(fy:u4 y=true):RcAt A s (.ref l) u false:=by
 cases y with
 |non=>cases ry;exact RcAt.tuple_none hl hu
 |bl a=>cases ry;exact RcAt.tuple_bool a hl hu
 |int a=>obtain ⟨t1,rfl⟩:=ry;exact RcAt.tuple_int a t1 hl hu
 |str a=>obtain ⟨t1,rfl⟩:=ry;exact RcAt.tuple_str a t1 hl hu
 |_=>exact absurd (show false=true from fy) yR
theorem RY (hl:s.heap.IsList l items)(hu:A.units<cLine)(ry:RelV y u)(fy:u4 y=true):RcNeAt A s u (.ref l) true:=by
 cases y with
 |non=>cases ry;exact RcNeAt.none_list hl hu
 |bl a=>cases ry;exact RcNeAt.bool_list a hl hu
 |int a=>obtain ⟨t1,rfl⟩:=ry;exact RcNeAt.int_list a t1 hl hu
 |str a=>obtain ⟨t1,rfl⟩:=ry;exact RcNeAt.str_list a t1 hl hu
 |_=>exact absurd (show false=true from fy) yR
theorem Ta (hl:s.heap.IsList l items)(hu:A.units<cLine)(ry:RelV y u)(fy:u4 y=true):RcNeAt A s (.ref l) u true:=by
 cases y with
 |non=>cases ry;exact RcNeAt.list_none hl hu
 |bl a=>cases ry;exact RcNeAt.list_bool a hl hu
 |int a=>obtain ⟨t1,rfl⟩:=ry;exact RcNeAt.list_int a t1 hl hu
 |str a=>obtain ⟨t1,rfl⟩:=ry;exact RcNeAt.list_str a t1 hl hu
 |_=>exact absurd (show false=true from fy) yR
theorem RZ (hl:s.heap.IsTuple l items)(hu:A.units<cLine)(ry:RelV y u)(fy:u4 y=true):RcNeAt A s u (.ref l) true:=by
 cases y with
 |non=>cases ry;exact RcNeAt.none_tuple hl hu
 |bl a=>cases ry;exact RcNeAt.bool_tuple a hl hu
 |int a=>obtain ⟨t1,rfl⟩:=ry;exact RcNeAt.int_tuple a t1 hl hu
 |str a=>obtain ⟨t1,rfl⟩:=ry;exact RcNeAt.str_tuple a t1 hl hu
 |_=>exact absurd (show false=true from fy) yR
theorem Tb (hl:s.heap.IsTuple l items)(hu:A.units<cLine)(ry:RelV y u)(fy:u4 y=true):RcNeAt A s (.ref l) u true:=by
 cases y with
 |non=>cases ry;exact RcNeAt.tuple_none hl hu
 |bl a=>cases ry;exact RcNeAt.tuple_bool a hl hu
 |int a=>obtain ⟨t1,rfl⟩:=ry;exact RcNeAt.tuple_int a t1 hl hu
 |str a=>obtain ⟨t1,rfl⟩:=ry;exact RcNeAt.tuple_str a t1 hl hu
 |_=>exact absurd (show false=true from fy) yR
section
variable {X:Cx}{pins:List (Addr×Obj)}{U:St}{H:Hp}{s:Shared}
theorem Jc (I:Inv X pins U H s):∀(n:Nat){x:V}{b:Bool},EqP X.K H n x x b->b=true
 |0,x,b,h=>by obtain ⟨h1,_,rfl⟩:=h;exact Jd h1
 |n+1,x,b,h=>by
  rcases h with ⟨h1,_,rfl⟩|⟨a,c,xs,ys,rfl,e2,p1,p2,h⟩|⟨a,c,xs,ys,rfl,e2,p1,p2,e,he,rfl⟩|⟨a,c,xs,ys,rfl,e2,p1,p2,_⟩|⟨a,c,xs,ys,rfl,e2,p1,p2,_⟩|⟨c,ys,f,rfl,_⟩|⟨c,ys,f,rfl,_⟩
  ·exact Jd h1
  ·cases e2;cases I.list_inj p1 p2;rcases h with ⟨h,_⟩|⟨_,e,he,rfl⟩
   ·exact absurd rfl h
   ·rw [uV];exact λj hj=>Jc I n (he j (uB.mp hj) (uB.mp hj))
  ·cases e2;cases I.tuple_inj p1 p2;rw [Nat.min_self,beq_self_eq_true,Bool.and_true,uV];exact λj hj=>Jc I n (he j (uB.mp hj) (uB.mp hj))
  ·cases e2;obtain ⟨_,_,⟨o1,_,q1,c1,_⟩,_⟩:=I.list p1;obtain ⟨_,_,⟨o2,q2,c2,_⟩,_⟩:=I.tuple p2;rw [q1] at q2;cases q2;rw [c1] at c2;exact absurd c2 (by decide)
  ·cases e2;obtain ⟨_,_,⟨o2,q2,c2,_⟩,_⟩:=I.tuple p1;obtain ⟨_,_,⟨o1,_,q1,c1,_⟩,_⟩:=I.list p2;rw [q1] at q2;cases q2;rw [c1] at c2;exact absurd c2 (by decide)
  ·cases f
  ·cases f
theorem Qt (I:Inv X pins U H s):∀(n:Nat)(A:Around){x y:V}{u v:Value}{b:Bool},A.units+n<cLine->EqP X.K H n x y b->RelV x u->RelV y v->EqAt A s u v b
 |0,A,x,y,u,v,b,hu,h,r1,r2=>by obtain ⟨h1,h2,rfl⟩:=h;exact Vv r1 r2 h1 h2
 |n+1,A,x,y,u,v,b,hu,h,r1,r2=>by
  have h':=h;rcases h with ⟨h1,h2,rfl⟩|⟨a,c,xs,ys,rfl,rfl,p1,p2,h⟩|⟨a,c,xs,ys,rfl,rfl,p1,p2,e,he,rfl⟩|⟨a,c,xs,ys,rfl,rfl,p1,p2,rfl⟩|⟨a,c,xs,ys,rfl,rfl,p1,p2,rfl⟩|⟨c,ys,f,rfl,p,rfl⟩|⟨c,ys,f,rfl,p,rfl⟩
  ·exact Vv r1 r2 h1 h2
  ·cases r1;cases r2;by_cases hac:a=c
   ·subst hac;have hb:=Jc I (n+1) h';rw [hb];exact EqAt.same _
   obtain ⟨us,v1,q1,_⟩:=I.list p1;obtain ⟨ws,v2,q2,_⟩:=I.list p2;have l1:=v1.length;have l2:=v2.length;refine EqAt.of_refs hac ?_;rcases h with ⟨h,rfl⟩|⟨hl,e,he,rfl⟩
   ·exact RcAt.lists_lengths q1.isList q2.isList (by rw [yV,yV];simp;omega) (by omega)
   ·have q:=RcAt.lists (A:=A) (s:=s) q1.isList q2.isList (by rw [yV,yV];omega) (by omega) (e:=e) (λj j1 j2=>?_)
    ·rw [yV,<- l1] at q;exact q
    ·have j1':j<us.length:=by simpa using j1
     have j2':j<ws.length:=by simpa using j2
     rw [yh,yh];exact Qt I n A.in1 (by show A.units+1+n<cLine;omega) (he j (by omega) (by omega)) (zv v1 j (by omega) j1') (zv v2 j (by omega) j2')
  ·cases r1;cases r2;by_cases hac:a=c
   ·subst hac;have hb:=Jc I (n+1) h';rw [hb];exact EqAt.same _
   obtain ⟨us,v1,q1,_⟩:=I.tuple p1;obtain ⟨ws,v2,q2,_⟩:=I.tuple p2;have l1:=v1.length;have l2:=v2.length;refine EqAt.of_refs hac ?_;have q:=RcAt.tuples (A:=A) (s:=s) q1 q2 (by omega) (e:=e) (λj j1 j2=>?_)
   ·rw [yV,yV,<- l1,<- l2] at q;exact q
   ·have j1':j<us.length:=by simpa using j1
    have j2':j<ws.length:=by simpa using j2
    rw [yh,yh];exact Qt I n A.in1 (by show A.units+1+n<cLine;omega) (he j (by omega) (by omega)) (zv v1 j (by omega) j1') (zv v2 j (by omega) j2')
  ·cases r1;cases r2;obtain ⟨us,v1,q1,_⟩:=I.list p1;obtain ⟨ws,v2,q2,_⟩:=I.tuple p2;exact EqAt.list_tuple q1.isList q2 (by omega)
  ·cases r1;cases r2;obtain ⟨us,v1,q1,_⟩:=I.tuple p1;obtain ⟨ws,v2,q2,_⟩:=I.list p2;exact EqAt.tuple_list q1 q2.isList (by omega)
  ·cases r2;rcases p with p|p
   ·obtain ⟨us,v1,q1,_⟩:=I.list p;exact DP q1.isList (by omega) r1 f
   ·obtain ⟨us,v1,q1,_⟩:=I.tuple p;exact DQ q1 (by omega) r1 f
  ·cases r1;rcases p with p|p
   ·obtain ⟨us,v1,q1,_⟩:=I.list p;exact DR q1.isList (by omega) r2 f
   ·obtain ⟨us,v1,q1,_⟩:=I.tuple p;exact DS q1 (by omega) r2 f
theorem rc_at (I:Inv X pins U H s)(hu:A.units+n<cLine)(h:EqP X.K H n x y b)(r1:RelV x u)(r2:RelV y v):RcAt A s u v b:=by
 cases n with
 |zero=>obtain ⟨h1,h2,rfl⟩:=h;exact BJ r1 r2 h1 h2
 |succ n =>
  rcases h with ⟨h1,h2,rfl⟩|⟨a,c,xs,ys,rfl,rfl,p1,p2,h⟩|⟨a,c,xs,ys,rfl,rfl,p1,p2,e,he,rfl⟩|⟨a,c,xs,ys,rfl,rfl,p1,p2,rfl⟩|⟨a,c,xs,ys,rfl,rfl,p1,p2,rfl⟩|⟨c,ys,f,rfl,p,rfl⟩|⟨c,ys,f,rfl,p,rfl⟩
  ·exact BJ r1 r2 h1 h2
  ·cases r1;cases r2;obtain ⟨us,v1,q1,_⟩:=I.list p1;obtain ⟨ws,v2,q2,_⟩:=I.list p2;have l1:=v1.length;have l2:=v2.length;rcases h with ⟨h,rfl⟩|⟨hl,e,he,rfl⟩
   ·exact RcAt.lists_lengths q1.isList q2.isList (by rw [yV,yV];simp;omega) (by omega)
   ·have q:=RcAt.lists (A:=A) (s:=s) q1.isList q2.isList (by rw [yV,yV];omega) (by omega) (e:=e) (λj j1 j2=>?_)
    ·rw [yV,<- l1] at q;exact q
    ·have j1':j<us.length:=by simpa using j1
     have j2':j<ws.length:=by simpa using j2
     rw [yh,yh];exact Qt I n A.in1 (by show A.units+1+n<cLine;omega) (he j (by omega) (by omega)) (zv v1 j (by omega) j1') (zv v2 j (by omega) j2')
  ·cases r1;cases r2;obtain ⟨us,v1,q1,_⟩:=I.tuple p1;obtain ⟨ws,v2,q2,_⟩:=I.tuple p2;have l1:=v1.length;have l2:=v2.length;have q:=RcAt.tuples (A:=A) (s:=s) q1 q2 (by omega) (e:=e) (λj j1 j2=>?_)
   ·rw [yV,yV,<- l1,<- l2] at q;exact q
   ·have j1':j<us.length:=by simpa using j1
    have j2':j<ws.length:=by simpa using j2
    rw [yh,yh];exact Qt I n A.in1 (by show A.units+1+n<cLine;omega) (he j (by omega) (by omega)) (zv v1 j (by omega) j1') (zv v2 j (by omega) j2')
  ·cases r1;cases r2;obtain ⟨us,v1,q1,_⟩:=I.list p1;obtain ⟨ws,v2,q2,_⟩:=I.tuple p2;exact RcAt.list_tuple q1.isList q2 (by omega)
  ·cases r1;cases r2;obtain ⟨us,v1,q1,_⟩:=I.tuple p1;obtain ⟨ws,v2,q2,_⟩:=I.list p2;exact RcAt.tuple_list q1 q2.isList (by omega)
  ·cases r2;rcases p with p|p
   ·obtain ⟨us,v1,q1,_⟩:=I.list p;exact RU q1.isList (by omega) r1 f
   ·obtain ⟨us,v1,q1,_⟩:=I.tuple p;exact RV q1 (by omega) r1 f
  ·cases r1;rcases p with p|p
   ·obtain ⟨us,v1,q1,_⟩:=I.list p;exact RW q1.isList (by omega) r2 f
   ·obtain ⟨us,v1,q1,_⟩:=I.tuple p;exact RX q1 (by omega) r2 f
theorem Tc (I:Inv X pins U H s)(hu:A.units+n<cLine)(h:EqP X.K H n x y b)(r1:RelV x u)(r2:RelV y v):RcNeAt A s u v (!b):=by
 cases n with
 |zero=>obtain ⟨h1,h2,rfl⟩:=h;exact BK r1 r2 h1 h2
 |succ n =>
  rcases h with ⟨h1,h2,rfl⟩|⟨a,c,xs,ys,rfl,rfl,p1,p2,h⟩|⟨a,c,xs,ys,rfl,rfl,p1,p2,e,he,rfl⟩|⟨a,c,xs,ys,rfl,rfl,p1,p2,rfl⟩|⟨a,c,xs,ys,rfl,rfl,p1,p2,rfl⟩|⟨c,ys,f,rfl,p,rfl⟩|⟨c,ys,f,rfl,p,rfl⟩
  ·exact BK r1 r2 h1 h2
  ·cases r1;cases r2;obtain ⟨us,v1,q1,_⟩:=I.list p1;obtain ⟨ws,v2,q2,_⟩:=I.list p2;have l1:=v1.length;have l2:=v2.length;rcases h with ⟨h,rfl⟩|⟨hl,e,he,rfl⟩
   ·exact RcNeAt.lists_lengths q1.isList q2.isList (by rw [yV,yV];simp;omega) (by omega)
   ·have q:=RcNeAt.lists (A:=A) (s:=s) q1.isList q2.isList (by rw [yV,yV];omega) (by omega) (e:=e) (λj j1 j2=>?_)
    ·rw [yV,<- l1] at q;exact q
    ·have j1':j<us.length:=by simpa using j1
     have j2':j<ws.length:=by simpa using j2
     rw [yh,yh];exact Qt I n A.in1 (by show A.units+1+n<cLine;omega) (he j (by omega) (by omega)) (zv v1 j (by omega) j1') (zv v2 j (by omega) j2')
  ·cases r1;cases r2;obtain ⟨us,v1,q1,_⟩:=I.tuple p1;obtain ⟨ws,v2,q2,_⟩:=I.tuple p2;have l1:=v1.length;have l2:=v2.length;have q:=RcNeAt.tuples (A:=A) (s:=s) q1 q2 (by omega) (e:=e) (λj j1 j2=>?_)
   ·rw [yV,yV,<- l1,<- l2] at q;exact q
   ·have j1':j<us.length:=by simpa using j1
    have j2':j<ws.length:=by simpa using j2
    rw [yh,yh];exact Qt I n A.in1 (by show A.units+1+n<cLine;omega) (he j (by omega) (by omega)) (zv v1 j (by omega) j1') (zv v2 j (by omega) j2')
  ·cases r1;cases r2;obtain ⟨us,v1,q1,_⟩:=I.list p1;obtain ⟨ws,v2,q2,_⟩:=I.tuple p2;exact RcNeAt.list_tuple q1.isList q2 (by omega)
  ·cases r1;cases r2;obtain ⟨us,v1,q1,_⟩:=I.tuple p1;obtain ⟨ws,v2,q2,_⟩:=I.list p2;exact RcNeAt.tuple_list q1 q2.isList (by omega)
  ·cases r2;rcases p with p|p
   ·obtain ⟨us,v1,q1,_⟩:=I.list p;exact RY q1.isList (by omega) r1 f
   ·obtain ⟨us,v1,q1,_⟩:=I.tuple p;exact RZ q1 (by omega) r1 f
  ·cases r1;rcases p with p|p
   ·obtain ⟨us,v1,q1,_⟩:=I.list p;exact Ta q1.isList (by omega) r2 f
   ·obtain ⟨us,v1,q1,_⟩:=I.tuple p;exact Tb q1 (by omega) r2 f
def rEqD (K:Fg)(n:Nat)(neg:Bool):R2:=λx y H Q=>∃ b,EqP K H n x y b/\Q (.bl (if neg then !b else b)) H
theorem vg (hu:X.A.units+n<cLine)(hK:X.K=K):OpR X (compareOp .Eq) (rEqD K n false):=by subst hK;intro pins s U H x y v u Q I rx ry h;obtain ⟨b,h,q⟩:=h;exact rc_at I hu h rx ry X.prog X.w X.xe _ ⟨.bl b,H,I,rfl,q⟩
theorem ww (hu:X.A.units+n<cLine)(hK:X.K=K):OpR X (compareOp .NotEq) (rEqD K n true):=by subst hK;intro pins s U H x y v u Q I rx ry h;obtain ⟨b,h,q⟩:=h;exact Tc I hu h rx ry X.prog X.w X.xe _ ⟨.bl (!b),H,I,rfl,q⟩
theorem hu6 {k:Nat}(hr:Room k A):A.units+6<cLine:=by have:=hr.units;omega
end
end L2
namespace L2
open PySem PySem.Spec PyProof.Rows
section
variable {X:Cx}{K:Fg}
def rAddS:R2:=λx y H Q=>∃ i j,x = .str i/\y = .str j/\i.length+j.length<=sizeLine/\Q (.str (i++j)) H
def Wj (K:Fg):R2:=λx y H Q=>(rI0 λi j=> .int (i+j)) x y H Q∨rAddS x y H Q∨Bv K x y H Q∨Bw K x y H Q
theorem xt (h:X.K=K):OpR X (binaryOp .Add) (Wj K):=by subst h;exact op_add.or (op_add_str.or (op_catL.or HL))
theorem Lq (h:X.K=K):IxR X (rIx K):=by subst h;exact Lp
def rLen (K:Fg):List V->Hp->VK->Prop:=λxs H Q=>(∃ x n,xs=[x]/\LenV K x H n/\Q (.int n) H)∨∃ a kvs,xs=[V.ref a]/\H a=some (.dK kvs)/\Q (.int kvs.length) H
theorem zL (h:X.K=K):CallR X (.builtin "len") (rLen K):=by subst h;exact CallR.or (f:= .builtin "len") Di Dj
theorem RL {a:Expr}{ta:TE}(h:X.K=K)(ha:PE X a ta)(he:∀ whole,isTrue a X.env whole=(do let v <- whole;standAt a.pos;holding [v] (truthy v))):PT X a (λU H Q=>ta U H λx H'=>∃ k,TruV K x H' k/\Q k H'):=by subst h;exact RM ha he
theorem HP (h:X.K=K):OpR X (compareOp .In) (rIn K false):=by subst h;exact HN
theorem HX (h:X.K=K):OpR X (compareOp .NotIn) (rIn K true):=by subst h;exact HW
def BA (K:Fg):List V->Hp->VK->Prop:=λxs H Q=>∃ p ys,xs=[.ref p]/\(SqL K H p ys∨SqT K H p ys)/\∀ l,H l=none->Q (.ref l) (z7 H l (.lst ys))
theorem Qm (h:X.K=K):CallR X (.type "list") (BA K):=by subst h;exact Do
def rIsi (K:Fg):List V->Hp->VK->Prop:=λxs H Q=>∃ x n T b,xs=[x,.ty n]/\xX K H x (.type T)/\tyB T n=some b/\Q (.bl b) H
theorem vG (h:X.K=K):CallR X (.builtin "isinstance") (rIsi K):=by subst h;exact Dh
def Bu (K:Fg):List V->Hp->VK->Prop:=λxs H Q=>∃(a:Addr)(bs:List Bool),xs=[.ref a]/\SqL K H a (bs.map V.bl)/\Q (.bl (bs.all id)) H
theorem ZT (hc:X.calm=true)(h:X.K=K):CallR X (.builtin "all") (Bu K):=by subst h;exact Dc hc
def BC:List V->Hp->VK->Prop:=λxs H Q=>∃ i j,xs=[.int i,.int j]/\Q (.int (if j > i then j else i)) H
theorem Dq (hc:X.calm=true):CallR X (.builtin "max") BC:=Dp hc
def rIsN:R2:=λx y H Q=>y = .non/\Q (.bl (decide (x = .non))) H
def BE:R2:=λx y H Q=>y = .non/\Q (.bl (!decide (x = .non))) H
theorem VV:OpR X (compareOp .Is) rIsN:=HQ
theorem Ra:OpR X (compareOp .IsNot) BE:=HZ
theorem Da:bootBuiltins "tuple"=some (.type "tuple"):=by decide +kernel
theorem CW:bootBuiltins "max"=some (.builtin "max"):=by decide +kernel
theorem Gq:bootBuiltins "sorted"=some (.builtin "sorted"):=by decide +kernel
theorem Go:bootBuiltins "dict"=some (.type "dict"):=by decide +kernel
theorem SR:tyB "tuple" "tuple"=some true:=by decide +kernel
end
section
variable {X:Cx}{K:Fg}{o e:Expr}{es:List Expr}{to:TE}{t:TA}{name:Str}{apos cpos:Pos}{T id:String}{r:V->List V->Hp->VK->Prop}
theorem Wa (hK:X.K=K)(pa:PlainAttrs T)(slot:Slot T name id)(hty:typeOf (.builtin id)=pure (.type "method_descriptor"))(hm:MtR X id r)(ho:PE X o to)(hbase:attributeBase o name X.env (eval o X.env)=eval o X.env:=by rfl)(hline:(apos.endLine==cpos.line)=true:=by rfl):PE X (.Call (.Attribute o name apos) [] [] cpos) (tBM0 K T r to):=by subst hK;exact Rh pa slot hty hm ho hbase hline
theorem wz (hK:X.K=K)(pa:PlainAttrs T)(slot:Slot T name id)(hty:typeOf (.builtin id)=pure (.type "method_descriptor"))(hm:MtR X id r)(ho:PE X o to)(ha:PA X (e::es) t)(hbase:attributeBase o name X.env (eval o X.env)=eval o X.env:=by rfl)(hfew:((backTo cpos (starEach (e::es) X.env)).all (λx=>!x.1)&&(backToKw cpos (keywordEach [] X.env)).all (λx=>x.1.isSome)&&decide ((e::es).length+([]:List Keyword).length+(if ([]:List Keyword).isEmpty then 0 else 1)<30))=true:=by rfl)(hline:(apos.endLine==cpos.line)=true:=by rfl)(hs:starEach (e::es) X.env=(false,eval e X.env)::starEach es X.env:=by rfl)(hplain:(backTo cpos (starEach es X.env)).any (·.1)=false:=by rfl):PE X (.Call (.Attribute o name apos) (e::es) [] cpos) (tBM K T r to t):=by subst hK;exact pe_bm pa slot hty hm ho ha hbase hfew hline hs hplain
end
end L2
namespace L2
open PySem PySem.Spec PySem.Calls
variable{h:Heap}{a:Addr}{n:Nat}{A:Around}
section
variable {P:Program}{w:World}{κ:Type}[DecidableEq κ]{knd:PySem.KeyKind P w κ}
def m6 (val:Nat->κ):Nat->List κ
 |0=>[]
 |i+1=>if val i∈m6 val i then m6 val i else m6 val i++[val i]
theorem BY (val:Nat->κ):∀ i,(m6 val i).length<=i
 |0=>yT _
 |i+1=>by
  have ih:=BY val i;unfold m6;split
  ·omega
  ·rw [yL,List.length_singleton];omega
theorem Pb {S S':κ->Bool}{n':Nat}(x:h.SetOf knd a S n)(e:∀ k,S k=S' k)(en:n=n'):h.SetOf knd a S' n':=by cases (funext e:S=S');cases en;exact x
theorem Yz {h':Heap}{S:κ->Bool}(x:h.SetOf knd a S n)(e:∀ o,h.get? a=some o->h'.get? a=some o):h'.SetOf knd a S n:=by obtain ⟨o,es,ep,t,ho,r⟩:=x;exact ⟨o,es,ep,t,e _ ho,r⟩
theorem Su {R:Result->Shared->Prop}{I:Addr}{fp wr:List Addr}{G:Array GenState->Array GenState->Prop}{Pp:Nat->Value->Prop}{St:Nat->Shared->Prop}(W:WalksS P w A.in1 I fp wr G n Pp St)(a:Addr)(ha:a∉fp)(val:Nat->κ)(hv:∀ i v,Pp i v->knd.is (val i) v=true/\v.scannable=true)(hb:n+1<scanBound):∀ (m i:Nat) (s:Shared),n-i=m->i<=n->St i s->s.heap.SetOf knd a (λx=>decide (x∈m6 val i)) (m6 val i).length -> (∀ s',Moved (a::wr) G s s'->s'.heap.SetOf knd a (λx=>decide (x∈m6 val n)) (m6 val n).length->R (.ok (.ret .none)) s') -> codeAny (model P w) A (.builtin "set.update.loop" ⟨[.ref a,.ref I],[]⟩) R s:=by
 have haw:a∉wr:=λz=>ha (W.sub _ z);have up:∀ b∈wr,b∈a::wr:=λb z=>yS _ z;intro m
 induction m with
 |zero =>
  intro i s hm hi st hS hR;obtain rfl:i=n:=by omega
  refine codeAny_builtin PyProof.Rows.F.entry_set_update_loop ?_;rw [Around.under_plainId PyProof.Rows.F.plain_set_update_loop _];show wpAny _ A.in1 (pyNext (.ref I) >>= _) _ _ s;refine yY (W.done s _ _ st λs' mv=>?_);show wpAny _ A.in1 (ret Value.none) _ _ s';exact yN (hR s' (mv.mono up) (Yz hS λo e=>mv.heap a o haw e))
 |succ m ih =>
  intro i s hm hi st hS hR;have hlt:i<n:=by omega
  refine codeAny_builtin PyProof.Rows.F.entry_set_update_loop ?_;rw [Around.under_plainId PyProof.Rows.F.plain_set_update_loop _];show wpAny _ A.in1 (pyNext (.ref I) >>= _) _ _ s;refine yY (W.item i s _ _ hlt st λv s' hP st' mv=>?_);obtain ⟨hk,hsc⟩:=hv i v hP;have hS':s'.heap.SetOf knd a (λx=>decide (x∈m6 val i)) (m6 val i).length:=Yz hS λo e=>mv.heap a o haw e;show wpAny _ A.in1 (holding [v] (setAdd a v) >>= _) _ _ s';refine yY (wpAny_holding ?_);unfold setAdd;refine wpAny_holding (yY (knd.pyHash (k:=val i) hk ?_));have room:(m6 val i).length+1<scanBound:=by have:=BY val i;omega
  refine wpAny_setAddHashed_of (knd:=knd) (s:={ s' with toks:=s'.toks+1 }) hk hsc hS' room λh' sb hS2=>?_;have hSi:h'.SetOf knd a (λx=>decide (x∈m6 val (i+1))) (m6 val (i+1)).length:=by
   refine Pb hS2 (λx=>?_) ?_
   ·by_cases hc:val i∈m6 val i
    ·rw [show m6 val (i+1)=m6 val i from if_pos hc];by_cases hx:x=val i
     ·subst hx;simp [hc]
     ·simp [hx]
    ·rw [show m6 val (i+1)=m6 val i++[val i] from if_neg hc];simp
   ·by_cases hc:val i∈m6 val i
    ·rw [show m6 val (i+1)=m6 val i from if_pos hc];simp [hc]
    ·rw [show m6 val (i+1)=m6 val i++[val i] from if_neg hc];simp [hc]
  refine yN ⟨plainId_quiet PyProof.Rows.F.plain_set_update_loop _,ih (i+1) _ (by omega) hlt (W.frame _ s' _ _ st' (uM _) λb z o e=>?_) hSi λs2 mv2 hS3=>?_⟩
  ·rw [sb.2 b (λq:b=a=>ha (by rw [<- q];exact z))];exact e
  ·refine hR s2 (Moved.trans W.gtrans ((mv.mono up).then_heap (uM _) λb o z e=>?_) mv2) hS3;rw [sb.2 b (λq:b=a=>z (by rw [q];exact yU))];exact e
theorem Du {E:Value->Shared->Prop}{s:Shared}{l:Addr}{its:Array Value}{val:Nat->κ}{Q:Value->Shared->Prop}(hh:A.handled=none)(hl:s.heap.IsList l its)(hv:∀ (i:Nat) (v:Value),its[i]?=some v->knd.is (val i) v=true/\v.scannable=true)(hb:its.size+1<scanBound)(h:∀ (h':Heap) (tk:Nat),h'.SetOf knd s.heap.objs.size (λx=>decide (x∈m6 val its.size)) (m6 val its.size).length -> (∀ b o,s.heap.get? b=some o->h'.get? b=some o)->Q (.ref s.heap.objs.size) { s with heap:=h',toks:=tk }):wpAny (model P w) A (call (.type "set") [.ref l]) Q E s:=by
 obtain ⟨c,tl,hmro⟩:=PySem.F.called_set.mro;have hmade:=PySem.F.called_set.made;have hsub:=PySem.F.called_set.sub;refine wpAny_call (codeAny_of_tree ?_);show wpAny _ _ (callAny (.type "set") _) _ _ _;refine yN ⟨Code.quiet_builtin _ (by decide +kernel),codeAny_builtin PySem.F.entry_type_call ?_⟩;rw [Around.under_plain (weight_type_call_type "set" [.ref l] []) rfl];have q1:=PySem.F.called_set.notType;have q2:=PySem.F.called_set.canCreate;have q3:=PySem.F.typeCall_set_1 (.ref l)
 (repeat (any_goals (first|assumption|wp_step)))
 refine codeAny_mono (code_set_new_1 (.ref l) (E:=E) (Q₁:=λob s1=>∃ led:Bool,ob = .ref s.heap.objs.size/\s1={ s with heap:=s.heap.push { cls:= .type "set",dict:=none,data:= .set #[] 0 (.fresh 0 0 led) } }) λled=>⟨led,rfl,rfl⟩) λr s1 hr=>?_;cases r with
 |error e=>exact hr
 |ok fl =>
  cases fl with
  |ret ob =>
   obtain ⟨led,rfl,rfl⟩:=hr;have hS:(s.heap.push { cls:= .type "set",dict:=none,data:= .set #[] 0 (.fresh 0 0 led) }).get? s.heap.objs.size=some { cls:= .type "set",dict:=none,data:= .set #[] 0 (.fresh 0 0 led) }:=yC _ rfl;have hT:Shared.TypeIs { s with heap:=s.heap.push { cls:= .type "set",dict:=none,data:= .set #[] 0 (.fresh 0 0 led) } } (.ref s.heap.objs.size) "set":=⟨_,hS,rfl⟩;have hli:=PySem.F.called_set.init.lookup;have hbi:=PySem.F.called_set.init.bind (.ref s.heap.objs.size)
   (repeat (any_goals (first|assumption|wp_step)))
   refine codeAny_mono (codeAny_call_builtin (R:=wants (λr s2=>r = .none/\∃ h' tk,s2={ s with heap:=h',toks:=tk }/\h'.SetOf knd s.heap.objs.size (λx=>decide (x∈m6 val its.size)) (m6 val its.size).length /\
     (∀ b o,s.heap.get? b=some o->h'.get? b=some o)) E) PySem.F.called_set.init.plain PySem.F.entry_set_init (check_set_init_1 hT ?_)) λr2 s2 hr2=>?_
   ·obtain ⟨ol,hol,hcl,nl,hdl⟩:=hl;obtain ⟨ocls,odict,odata,oslots⟩:=ol;simp only at hcl hdl;subst hcl;subst hdl;have hol':(s.heap.push { cls:= .type "set",dict:=none,data:= .set #[] 0 (.fresh 0 0 led) }).get? l=some { cls:= .type "list",dict:=odict,data:= .seq its nl,slots:=oslots }:=yW _ hol;have z1:=PySem.F.sub_list_set;have z2:=PySem.F.sub_list_frozenset;have z3:(Value.type "list" == Value.type "dict")=false:=by decide
    have hl1:(s.heap.push { cls:= .type "set",dict:=none,data:= .set #[] 0 (.fresh 0 0 led) }).IsList l its:=⟨_,hol',rfl,nl,rfl⟩;unfold Builtin.«set.__init__» noKeywords Builtin.Frozenset.updateFrom;generalize hPI:pyIter=PI
    wp_walk
    subst hPI;refine wpAny_pyIter_list hl1 ?_;refine yY (wpAny_runValue ?_);have hlS:l<s.heap.objs.size:=yQ hol;have h3:A.in1.in1.in1.handled=none:=by simp [hh]
    have ne1:l≠(s.heap.push { cls:= .type "set",dict:=none,data:= .set #[] 0 (.fresh 0 0 led) }).objs.size:=by rw [uG];exact yF (Nat.lt_succ_of_lt hlS)
    have ne2:s.heap.objs.size∉[(s.heap.push { cls:= .type "set",dict:=none,data:= .set #[] 0 (.fresh 0 0 led) }).objs.size,l]:=by rw [uG];simp only [yD,yJ,or_false,not_or];exact ⟨yF (ut _),Nat.ne_of_gt hlS⟩
    refine Su (knd:=knd) ((Walks.list h3 _ l ne1 its).toS) s.heap.objs.size ne2 val hv hb (its.size-0) 0 _ (by omega) (yd _) ⟨⟨_,yC _ rfl,rfl,rfl⟩,(hl1.push _)⟩ ?_ ?_
    ·have hg:((s.heap.push { cls:= .type "set",dict:=none,data:= .set #[] 0 (.fresh 0 0 led) }).push { cls:= .type "list_iterator",data:= .fields #[.ref l,.int 0 0] }).get? s.heap.objs.size=some { cls:= .type "set",dict:=none,data:= .set #[] 0 (.fresh 0 0 led) }:=yW _ hS;exact Pb ((PyProof.Rows.setObjOf_fresh (knd:=knd) led).setOf hg (by unfold scanBound;omega)) (λx=>by simp [m6]) rfl
    ·rintro ⟨h',g',d',tk',os'⟩ mv hS';have eg:g'=s.gens:=mv.gens;have ed:d'=s.drawn:=mv.drawn;have eo:os'=s.os:=mv.os;subst eg ed eo;show wpAny _ _ _ _ _ _;refine yN ?_;show wpAny _ _ (ret Value.none) _ _ _;refine yN ⟨rfl,h',tk',rfl,hS',λb o e=>?_⟩;have hb0:=yQ e;refine mv.heap b o ?_ (yW _ (yW _ e));rw [uG];simp only [yD,yJ,or_false,not_or];exact ⟨yF hb0,yF (Nat.lt_succ_of_lt hb0)⟩
   ·cases r2 with
    |error e=>exact hr2
    |ok fl2 =>
     cases fl2 with
     |ret r =>
      obtain ⟨rfl,h',tk,rfl,hS',hk'⟩:=hr2
      (repeat (any_goals (first|assumption|wp_step)))
      exact h _ _ hS' hk'
     |_=>exact False.elim hr2
  |_=>exact False.elim hr
end
def wa (n:Nat)(a:Addr):HO:= .ext λh=>∃(P:Program)(w:World)(S:v3->Bool),h.SetOf (qc P w) a S n
section
variable {X:Cx}
theorem Io {ss:List Str}{us:List Value}(r:Vals (ss.map V.str) us):∀(i:Nat)(v:Value),us[i]?=some v->∃ x t,ss[i]?=some x/\v = .str x t:=by
 have key:∀(ss:List Str)(us:List Value),Vals (ss.map V.str) us->∀(i:Nat)(v:Value),us[i]?=some v->∃ x t,ss[i]?=some x/\v = .str x t:=by
  intro ss
  induction ss with
  |nil=>intro us r i v e;cases r;simp at e
  |cons s ss ih =>
   intro us r i v e;cases r with
   |cons p q =>
    cases i with
    |zero=>obtain ⟨t,rfl⟩:=p;simp at e;exact ⟨s,t,rfl,e.symm⟩
    |succ i=>exact ih _ q i v (by simpa using e)
 intro i v e;exact key ss us r i v e
theorem Dt (hc:X.calm=true):CallR X (.type "set") (λxs H Q=>∃ (a:Addr) (ss:List Str),xs=[.ref a]/\SqL X.K H a (ss.map V.str)/\ss.length<=1000 /\ ∀ l,H l=none->Q (.ref l) (z7 H l (wa (m6 (λi=>(Sum.inr (ss.getD i ⟨#[]⟩):v3)) ss.length).length l))):=by
 intro pins s U H xs us Q I r h;obtain ⟨a,ss,rfl,hq,hl,q⟩:=h;obtain ⟨u,rfl,ru⟩:=zk r;obtain rfl:u=Value.ref a:=ru;obtain ⟨its,rv,p,hz⟩:=I.list hq;have hn:its.length=ss.length:=by have e:=rv.length;rw [yZ] at e;exact e.symm
 refine Du (knd:=qc X.prog X.w) (its:=its.toArray) (val:=λi=>(Sum.inr (ss.getD i ⟨#[]⟩):v3)) (I.ok.hd hc) p.isList (λi v e=>?_) (by rw [yV,hn];unfold scanBound;omega) λh' tk hS k=>?_
 ·obtain ⟨x,t,hx,rfl⟩:=Io rv i v (by simpa using e);rw [uE,hx];exact ⟨VT _ _ _ _,rfl⟩
 ·have e8:its.toArray.size=ss.length:=by rw [yV];exact hn
  rw [e8] at hS;refine ⟨.ref s.heap.objs.size,_,I.laid (t':=tk) k (yT _) (show ObjOk X.prog X.w _ h' _ (wa _ _) from ⟨⟨_,_,_,hS⟩,?_,?_⟩),rfl,q _ (I.hok.fresh (yT _))⟩
  ·obtain ⟨o,_,_,_,ho,_⟩:=hS;exact ⟨o,ho⟩
  ·rintro h1 h2 ⟨P,w,S,x⟩ e;exact ⟨P,w,S,Yz x e⟩
theorem Dk:CallR X (.builtin "len") (λxs H Q=>∃ (a:Addr) (n:Nat),xs=[.ref a]/\H a=some (wa n a)/\Q (.int n) H):=by
 intro pins s U H xs us Q I r h;obtain ⟨a,n,rfl,hq,q⟩:=h;obtain ⟨u,rfl,ru⟩:=zk r;obtain rfl:u=Value.ref a:=ru;obtain ⟨⟨P,w,S,o,es,ep,t,ho,hex,hd,_,_,hb,hf,hn⟩,_⟩:=(show ObjOk X.prog X.w H s.heap a (wa n a) from I.hok a _ hq);subst hn;have h63:((es.size:Nat):Int)<2 ^ 63:=by unfold scanBound at hb;omega
 exact call_len_set ho hex hd hf h63 ⟨.int es.size,H,I.tok _,⟨_,rfl⟩,q⟩
end
end L2
namespace L2
open PySem PySem.Spec PySem.Calls PyProof.Rows
variable{ss:List Str}{P:Program}{w:World}{vs:List Value}{A:Around}{E Q:Value->Shared->Prop}{s:Shared}
section
variable {X:Cx}
def Xt (ss:List Str):Prop:=ss.Pairwise λx y=>¬ (y.cps.toList<x.cps.toList)
theorem YB (h:sortedS ss=true):Xt ss:=by
 cases ss with
 |nil=>exact List.Pairwise.nil
 |cons x r =>
  have key:∀(l:List Str)(p:Str),risingS p l=true->(p::l).Pairwise λx y=>¬ (y.cps.toList<x.cps.toList):=by
   intro l
   induction l with
   |nil=>intro p _;exact List.pairwise_singleton _ _
   |cons y l ih =>
    intro p hp;have hp':(!ltCps y.cps.toList p.cps.toList&&risingS y l)=true:=hp;rw [yn] at hp';have i2:=ih y hp'.2;have hyp:¬ (y.cps.toList<p.cps.toList):=by have e:=hp'.1;rw [ltCps_eq] at e;simpa using e
    refine List.pairwise_cons.mpr ⟨λz hz=>?_,i2⟩;rcases yD.mp hz with rfl|hz
    ·exact hyp
    ·have hzy:=(List.pairwise_cons.mp i2).1 z hz;intro hlt;exact hyp (Std.lt_of_le_of_lt (Std.not_lt.mp hzy) hlt)
  exact key r x h
def BH (K:Fg):List V->Hp->VK->Prop:=λxs H Q=>∃(a:Addr)(ss:List Str),xs=[.ref a]/\(SqL K H a (ss.map V.str)∨∃ kvs,Rd H a (.dK kvs)/\kvs.map (·.1)=ss.map Sum.inr)/\ss.length<64 /\
 ∀ l ss',H l=none->ss'.Perm ss->Xt ss'->Q (.ref l) (z7 H l (.lst (ss'.map V.str)))
theorem Pl:∀{ss:List Str}{us:List Value},Vals (ss.map V.str) us->StrsAre us ss
 |[],_,.nil=> .nil
 |x::_,_,.cons ⟨t,e⟩ r=>by subst e;exact .cons x t (Pl r)
theorem Va:∀{us:List Value}{ss:List Str},StrsAre us ss->Vals (ss.map V.str) us
 |_,_,.nil=> .nil
 |_,_,.cons x t r=> .cons ⟨t,rfl⟩ (Va r)
theorem Ky:∀{kvs:List (v3×V)}{vs:List (v3×Value)}{ss:List Str},KV kvs vs->kvs.map (·.1)=ss.map Sum.inr->vs.map (·.1)=ss.map Sum.inr:=by
 intro kvs vs ss r e;rw [<- e];clear e
 induction r with
 |nil=>rfl
 |cons p _ ih=>rw [yI,yI,ih,p.1]
theorem Ku {vs:List (v3×Value)}{acc:Array Value}(e:vs.map (·.1)=ss.map Sum.inr)(h:ItemsOf (λi v=>∃ k x,vs[i]?=some (k,x)/\(qc P w).is k v=true) acc vs.length):StrsAre acc.toList ss:=by
 have hl:vs.length=ss.length:=by have:=congrArg List.length e;rwa [yZ,yZ] at this
 have h0:∀ v∈acc.toList,∃ x t,v = .str x t:=by
  intro v hv;obtain ⟨i,hi,rfl⟩:=uH hv;obtain ⟨k,x,hk,his⟩:=h.2 i acc.toList[i] (by simp at hi ⊢);have hk2:(vs.map (·.1))[i]?=some k:=by rw [yK,hk];rfl
  rw [e,yK] at hk2;obtain ⟨z,_,rfl⟩:=yx.mp hk2;cases hv2:acc.toList[i] with
  |str y t=>exact ⟨y,t,rfl⟩
  |_=>rw [hv2] at his;cases his
 have h1:=strsAre_map acc.toList h0;have e2:acc.toList.map strOf=ss:=by
  apply List.ext_getElem?;intro i;rw [yK];by_cases hi:i<acc.size
  ·obtain ⟨k,x,hk,his⟩:=h.2 i acc[i] (Array.getElem?_eq_getElem hi);have hk2:(vs.map (·.1))[i]?=some k:=by rw [yK,hk];rfl
   rw [e,yK] at hk2;obtain ⟨z,hz,rfl⟩:=yx.mp hk2;obtain ⟨y,t,hy⟩:=h0 acc[i] (by simp);rw [hy] at his;have:y=z:=by have q:wj (Sum.inr z) (.str y t)=true:=his;have q2:=Kx y t;have q3:=(qc P w).inj (.str y t) (Sum.inr z) (Sum.inr y) his (VT P w y t);injection q3 with q3;exact q3.symm
   rw [hz,uw,Array.getElem?_eq_getElem hi,hy,<- this];rfl
  ·have h1:=h.1;rw [List.getElem?_eq_none (by simp;omega),List.getElem?_eq_none (by omega)];rfl
 rw [e2] at h1;exact h1
theorem Ix (hS:StrsAre vs ss)(h64:vs.length<64)(h:∀ (h':Heap) (out:List Value) (ss':List Str) (e:Nat),(∀ b o,s.heap.get? b=some o->h'.get? b=some o)->h'.get? s.heap.objs.size=some (seqObj "list" out.toArray e)->StrsAre out ss'->ss'.Perm ss->sortedS ss'=true->Q (.ref s.heap.objs.size) { s with heap:=h' }):wpAny (model P w) A (newList vs >>= λl=>holding [l] (call (.builtin "list.sort") [l]) >>= λ_=>pure l) Q E s:=by
 refine yY (wpAny_newList ?_);have ho:(s.heap.push (seqObj "list" vs.toArray 0)).get? s.heap.objs.size=some (seqObj "list" vs.toArray 0):=yC _ rfl;refine yY (wpAny_holding (wpAny_call_entry slot_list_sort (s:={ s with heap:=s.heap.push (seqObj "list" vs.toArray 0) }) ⟨_,ho,rfl⟩ entry_list_sort
  (list_sort_treeK strKind_oneLt (s:={ s with heap:=s.heap.push (seqObj "list" vs.toArray 0) }) ho hS.keysOf (λv1 v2 rest e=>keyKind_strs (by rw [<- e];exact hS)) h64 λst p1 p2=>⟨_,rfl,?_⟩) (args_list_sort _)))
 obtain ⟨ss',a1,a2,a3⟩:=sorted_out_str hS p1 p2;obtain ⟨e,he⟩:=sortedHeap_at (out:=(arrOf st).map (·.2)) ho;refine yN (h _ _ ss' e (λb o hb=>?_) (by rw [Array.toArray_toList];exact he) a1 a2 a3);have hlt:=yQ hb;rw [sortedHeap_old (yF hlt) (by rw [uG];exact Nat.lt_succ_of_lt hlt)];exact yW _ hb
theorem Pe (hS:StrsAre vs ss)(h64:vs.length<64)(h:∀ (h':Heap) (out:List Value) (ss':List Str) (e:Nat),(∀ b o,s.heap.get? b=some o->h'.get? b=some o)->h'.get? s.heap.objs.size=some (seqObj "list" out.toArray e)->StrsAre out ss'->ss'.Perm ss->sortedS ss'=true->Q (.ref s.heap.objs.size) { s with heap:=h' }):wpAny (model P w) A (newList vs >>= λl=>holding [l] (call (.builtin "list.sort") [l] []) >>= λ_=>ret l) (λfin s'=>∃ v,fin=PySem.Fin.done (.ret v)/\Q v s') E s:=by
 refine yY (wpAny_newList ?_);have ho:(s.heap.push (seqObj "list" vs.toArray 0)).get? s.heap.objs.size=some (seqObj "list" vs.toArray 0):=yC _ rfl;refine yY (wpAny_holding (wpAny_call_entry slot_list_sort (s:={ s with heap:=s.heap.push (seqObj "list" vs.toArray 0) }) ⟨_,ho,rfl⟩ entry_list_sort
  (list_sort_treeK strKind_oneLt (s:={ s with heap:=s.heap.push (seqObj "list" vs.toArray 0) }) ho hS.keysOf (λv1 v2 rest e=>keyKind_strs (by rw [<- e];exact hS)) h64 λst p1 p2=>⟨_,rfl,?_⟩) (args_list_sort _)))
 obtain ⟨ss',a1,a2,a3⟩:=sorted_out_str hS p1 p2;obtain ⟨e,he⟩:=sortedHeap_at (out:=(arrOf st).map (·.2)) ho;refine yN ⟨_,rfl,h _ _ ss' e (λb o hb=>?_) (by rw [Array.toArray_toList];exact he) a1 a2 a3⟩;have hlt:=yQ hb;rw [sortedHeap_old (yF hlt) (by rw [uG];exact Nat.lt_succ_of_lt hlt)];exact yW _ hb
theorem Dv {K:Fg}(hc:X.calm=true)(hK:X.K=K):CallR X (.builtin "sorted") (BH K):=by
 subst hK;intro pins s U H xs us Q I r h;obtain ⟨a,ss,rfl,hq,h64,q⟩:=h;obtain ⟨u,rfl,ru⟩:=zk r;obtain rfl:u=Value.ref a:=ru;rcases hq with hq|⟨kvs,hq,hk⟩
 ·obtain ⟨its,rv,p,hz⟩:=I.list hq;have hS:=Pl rv;have hl:its.length=ss.length:=by have e:=rv.length;rw [yZ] at e;exact e.symm
  refine sorted_strs p.isList hS (by omega) λout ss' a1 a2 a3=>?_;obtain ⟨e,he⟩:=sortedAll_at s.heap its out;refine ⟨.ref _,_,I.laid (t':=s.toks) (o:= .lst (ss'.map V.str)) (λb o hb=>sortedAll_old hb) (uM _) ?_,rfl,q _ ss' (I.hok.fresh (uM _)) a2 (YB a3)⟩;exact ⟨by rw [yZ,a2.length_eq];exact yb (jF (by omega)),out.toList,e,Va a1,by simpa [seqObj] using he⟩
 ·obtain ⟨z,hd,vs,rel,dd⟩:=jW I.hok hq;obtain ⟨ep,hat⟩:=dd.dictAt;have ek:=Ky rel hk;have hvl:vs.length=ss.length:=by have:=congrArg List.length ek;rwa [yZ,yZ] at this
  refine Calls.call_function_entry (id:="sorted") kind_sorted plain_sorted entry_sorted (args_sorted1 _) ?_;unfold Builtin.«sorted»;refine yY (m:=checkCount "sorted" 1 1 _) (yN ?_);refine yY (PySem.W.kdu_collect (PySem.W.kdl_dict (knd:=qc X.prog X.w) (kvs:=vs) (ep:=ep) hd) (by simpa using I.ok.hd hc) hat (yb (jF (by omega))) λh1 tk acc k1 hacc=>?_);have hS:=Ku ek hacc;have hal:acc.toList.length=ss.length:=by have:=hacc.1;simp;omega
  refine Pe (s:={ s with heap:=h1,toks:=tk }) hS (by omega) λh' out ss' e k2 he a1 a2 a3=>?_;have I1:Inv X pins U H { s with heap:=h1,toks:=tk }:=I.kept (t':=tk) k1;refine ⟨.ref _,_,I1.laid (t':=tk) (o:= .lst (ss'.map V.str)) k2 (yT _) ?_,rfl,q _ ss' (I1.hok.fresh (yT _)) a2 (YB a3)⟩;exact ⟨by rw [yZ,a2.length_eq];exact yb (jF (by omega)),out,e,Va a1,he⟩
end
end L2
namespace L2
open PySem PySem.Spec PySem.Calls
variable{a:Addr}{its:Array Value}{n:Nat}
section
variable {P:Program}{w:World}{A:Around}{E:Value->Shared->Prop}
theorem LN:typeLookup (.type "list") "keys"=pure none:=am_miss_of_fast (by kernel_rfl)
theorem LM:typeLookup (.type "list") "__getattr__"=pure none:=am_miss_of_fast (by kernel_rfl)
theorem Mj {hp:Heap}{g:Array GenState}{d:Drawn}{tk:Nat}{os:_}{u:Tok}{Q:PySem.Fin->Shared->Prop}(ho:hp.get? a=some { cls:= .type "list",data:= .seq its n })(hh:A.handled=none)(h:∀ h' tk' e,Heap.NewAttrErr hp h' e (.ref a) "keys"->E (.ref e) ⟨h',g,d,tk',os⟩):wpAny (model P w) A (Builtin.«object.__getattribute__» ⟨[.ref a,.str "keys" u],[]⟩) Q E ⟨hp,g,d,tk,os⟩:=by
 have hT:(⟨hp,g,d,tk,os⟩:Shared).TypeIs (.ref a) "list":=⟨_,ho,rfl⟩;have f0:=LN;unfold Builtin.«object.__getattribute__»
 (repeat (any_goals (first|assumption|wp_step)))
 exact wpAny_raiseAttrError (s:=⟨hp,g,d,tk,os⟩) hh h (attrMsg_fits (by decide +kernel) (by decide +kernel))
theorem CO {s:Shared}{Q:Option Value->Shared->Prop}(ho:s.heap.get? a=some { cls:= .type "list",data:= .seq its n })(hh:A.handled=none)(h:∀ h' tk,(∀ b o,s.heap.get? b=some o->h'.get? b=some o)->Q none { s with heap:=h',toks:=tk }):wpAny (model P w) A (getAttr? (.ref a) "keys") Q E s:=by
 obtain ⟨hp,g,d,tk,os⟩:=s;have hT:∀ t',(⟨hp,g,d,t',os⟩:Shared).TypeIs (.ref a) "list":=λ_=>⟨_,ho,rfl⟩;have f1:=sub_AttributeError;have f2:=PySem.F.slot_list_getattribute.lookup;have f3:=PySem.F.slot_list_getattribute.bind (.ref a);have f5:=LM;unfold getAttr? getAttrBy? getAttrBy
 (repeat (any_goals (first|assumption|exact hT _|wp_step)))
 refine codeAny_call_builtin PySem.F.slot_list_getattribute.plain PySem.F.entry_list_ga (PySem.F.slot_list_getattribute.check _ _ _ _ _ _ _ _ (hT _) (PySem.F.args_list_getattribute_2 _ _) (Mj ho (by simpa using hh) λh' tk' e hx=>?_));obtain ⟨t',u',he⟩:=hx.there;have hk:=hx.keeps;show wpAny _ _ (getattributeRaised _ _ _ _ _ _ _) _ _ _;unfold getattributeRaised
 (repeat (any_goals (first|assumption|wp_step)))
 exact h _ _ hk
end
end L2
namespace L2
open PySem PySem.Spec PySem.Calls PyProof.Rows
variable{A:Around}{s:Shared}{H:Hp}{kvs:List (v3×V)}{P:Program}{w:World}{o:Obj}{es:Array DictEntry}{ep:Nat}{K:Fg}{d:Expr}{td:TE}{apos cpos:Pos}
theorem CY:bootBuiltins "set"=some (.type "set"):=by decide +kernel
section
variable {P:Program}{w:World}{κ:Type}[DecidableEq κ]{knd:PySem.KeyKind P w κ}
theorem GN:entryFor table "dict.update.loop"=some Builtin.«dict.update.loop»:=entryFor_of_tree (by kernel_rfl)
theorem JK:plainId "dict.update.loop"=true:=by decide +kernel
theorem DN {R:Result->Shared->Prop}{I:Addr}{fp wr:List Addr}{Pp:Nat->Value->Prop}{St:Nat->Heap->Prop}{more:List (κ×Value)}{lo:Addr}(W:Walks P w A.in1 I fp wr more.length Pp St)(d:Addr)(hdf:d∉fp)(hlo:lo<=d)(hwr:∀ b∈wr,lo<=b)(hsz:more.length<=sizeLine):∀ (m i:Nat) (z:Int) (tk:Tok) (s:Shared),more.length-i=m->i<=more.length->St i s.heap->s.heap.DictOf knd d (merged [] (more.take i)) -> (∀ j v kv,Pp j v->more[j]?=some kv->∃ t k,t<lo/\v = .ref t/\knd.is kv.1 k=true/\IsTup s.heap t #[k,kv.2]) -> (∀ h' tk',(∀ b o,b<lo->s.heap.get? b=some o->h'.get? b=some o)->h'.DictOf knd d (merged [] more)->R (.ok (.ret .none)) { s with heap:=h',toks:=tk' }) -> codeAny (model P w) A (.builtin "dict.update.loop" ⟨[.ref d,.ref I,.int z tk,.none],[]⟩) R s:=by
 have hdw:d∉wr:=λq=>hdf (W.sub _ q);intro m
 induction m with
 |zero =>
  intro i z tk s hm hi st hd hp hR;have hin:i=more.length:=by omega
  subst hin;refine codeAny_builtin GN ?_;rw [Around.under_plainId JK _];show wpAny _ A.in1 (pyNext (.ref I) >>= _) _ _ s;refine yY (W.done s _ _ st λh' tk' k=>?_);show wpAny _ A.in1 (Builtin.Dict.addKeywords d [] >>= _) _ _ _;refine yY (yN ?_);refine yN (hR h' tk' (λb o hb e=>k b o (λq=>absurd (hwr b q) (Nat.not_le.mpr hb)) e) ?_);rw [List.take_length] at hd;obtain ⟨o,es,ep,ho,r⟩:=hd;exact ⟨o,es,ep,k d o hdw ho,r⟩
 |succ m ih =>
  intro i z tk s hm hi st hd hp hR;have hlt:i<more.length:=by omega
  refine codeAny_builtin GN ?_;rw [Around.under_plainId JK _];show wpAny _ A.in1 (pyNext (.ref I) >>= _) _ _ s;refine yY (W.item i s _ _ hlt st λv h' tk' hPv st' k=>?_);obtain ⟨t,kk,ht,rfl,hk,o,ho,hc,n,hdt⟩:=hp i v more[i] hPv (yz hlt);have ho':h'.get? t=some o:=k t o (λq=>absurd (hwr t q) (Nat.not_le.mpr ht)) ho;have hd':h'.DictOf knd d (merged [] (more.take i)):=by obtain ⟨o,es,ep,ho,r⟩:=hd;exact ⟨o,es,ep,k d o hdw ho,r⟩
  have hT:Shared.TypeIs { s with heap:=h',toks:=tk' } (.ref t) "tuple":=⟨o,ho',hc⟩;show wpAny _ A.in1 (holding [.ref t] _ >>= _) _ _ _;refine yY (wpAny_holding (yY (wpAny_tryCatch ?_)));unfold Builtin.Dict.pairItems;refine yY (wpAny_typeOf hT ?_);rw [if_pos (by decide)];refine yY (wpAny_seqItems ho' hdt (yN ?_));show wpAny _ A.in1 (holding [kk,more[i].2] (dictSet d kk more[i].2)) _ _ _;refine wpAny_holding (wpAny_dictSet_pairs (knd:=knd) hk hd' (λh2 hd2 sb=>?_) ?_)
  ·rw [<- merged_take_succ [] more i more[i] (yz hlt)] at hd2;have keep2:∀ b o,b<lo->s.heap.get? b=some o->h2.get? b=some o:=λb o hb e=>by
    rw [sb.2 b (yF (yA hb hlo))];exact k b o (λq=>absurd (hwr b q) (Nat.not_le.mpr hb)) e
   refine yN ⟨plainId_quiet JK _,ih (i+1) _ _ _ (by omega) hlt (W.frame _ _ _ st' λb hb o e=>?_) hd2 (λj v kv hv hj=>?_) λh3 tk3 k3 hd3=>?_⟩
   ·rw [sb.2 b (λq=>hdf (by rw [<- q];exact hb))];exact e
   ·obtain ⟨t,kk,ht,rfl,hk,o,ho,r⟩:=hp j v kv hv hj;exact ⟨t,kk,ht,rfl,hk,o,keep2 t o ht ho,r⟩
   ·exact hR h3 tk3 (λb o hb e=>k3 b o hb (keep2 b o hb e)) hd3
  ·have:=merged_length_le [] (more.take i);rw [List.length_take,List.length_nil] at this;omega
theorem Dd {E:Value->Shared->Prop}{l:Addr}{its:Array Value}{n:Nat}{more:List (κ×Value)}{Q:Value->Shared->Prop}(hh:A.handled=none)(ho:s.heap.get? l=some { cls:= .type "list",data:= .seq its n })(hlen:its.size=more.length)(hsz:more.length<=sizeLine)(hp:∀ (j:Nat) (v:Value) (kv:κ×Value),its[j]?=some v->more[j]?=some kv->∃ t k,v = .ref t/\knd.is kv.1 k=true/\IsTup s.heap t #[k,kv.2])(h:∀ h' tk',(∀ b o,s.heap.get? b=some o->h'.get? b=some o)->h'.DictOf knd s.heap.objs.size (merged [] more)->Q (.ref s.heap.objs.size) { s with heap:=h',toks:=tk' }):wpAny (model P w) A (call (.type "dict") [.ref l]) Q E s:=by
 refine callType_codes (Q₁:=λob s1=>ob = .ref s.heap.objs.size/\s1={ s with heap:=s.heap.push { cls:= .type "dict",data:= .dict #[] } }) PySem.F.kt_called_dict (PySem.F.kt_typeCall_dict_1 _) PySem.F.entry_dict_init (kt_code_dict_new _ ⟨rfl,rfl⟩) ?_;rintro ob s1 ⟨rfl,rfl⟩;have hnew:(s.heap.push { cls:= .type "dict",data:= .dict #[] }).DictOf knd s.heap.objs.size []:=Heap.DictOf.new s.heap;have ho':(s.heap.push { cls:= .type "dict",data:= .dict #[] }).get? l=some { cls:= .type "list",data:= .seq its n }:=yW _ ho;have hTl:Shared.TypeIs { s with heap:=s.heap.push { cls:= .type "dict",data:= .dict #[] } } (.ref l) "list":=⟨_,ho',rfl⟩;have hlt:l<s.heap.objs.size:=yQ ho;refine ⟨hnew.typeIs,PySem.F.args_dict_init_2 _ _,?_⟩;unfold Builtin.«dict.__init__»;refine yY ?_;unfold Builtin.Dict.selfAndRest;refine yY (wpAny_notOrdered_dict hnew.typeIs ?_);show wpAny _ _ (pure (s.heap.objs.size,[Value.ref l])) _ _ _;refine yN ?_;show wpAny _ _ (Builtin.Dict.updateFrom "dict.__init__" s.heap.objs.size (.ref l) [] .none) _ _ _;unfold Builtin.Dict.updateFrom;refine yY (wpAny_typeOf hTl ?_);rw [if_pos (by decide)];refine yY (CO ho' (by simpa using hh) λh1 tk1 k1=>?_);rw [if_pos (show (none:Option Value).isNone=true from rfl)];refine yY (wpAny_rule ?_);have ho1:=k1 _ _ ho';have hl1:h1.IsList l its:=⟨_,ho1,rfl,n,rfl⟩;refine yY (wpAny_pyIter_list (s:={ s with heap:=h1,toks:=tk1 }) hl1 ?_);have hd1:h1.DictOf knd s.heap.objs.size []:=by obtain ⟨o,es,ep,hq,r⟩:=hnew;exact ⟨o,es,ep,k1 _ _ hq,r⟩
 have hdlt:s.heap.objs.size<h1.objs.size:=by obtain ⟨o,es,ep,hq,r⟩:=hd1;exact yQ hq
 have hll:l<h1.objs.size:=yQ ho1;refine yN ⟨plainId_quiet JK _,?_⟩;have W:=Walks.list (prog:=P) (w:=w) (A:=A.in1.in1) (by simpa using hh) h1.objs.size l (yF hll) its;rw [hlen] at W;refine DN (knd:=knd) (lo:=s.heap.objs.size) W s.heap.objs.size ?_ (yT _) (λb hb=>?_) hsz more.length 0 _ _ { s with heap:=h1.push { cls:= .type "list_iterator",data:= .fields #[.ref l,.int 0 0] },toks:=tk1 } (by omega) (yd _) ⟨⟨_,yC _ rfl,rfl,rfl⟩,hl1.push _⟩ ?_ (λj v kv hv hj=>?_) λh' tk' kp hd=>?_
 ·simp only [yD,yJ,or_false,not_or];exact ⟨yF hdlt,Nat.ne_of_gt hlt⟩
 ·rw [yM.mp hb];exact yb hdlt
 ·obtain ⟨o,es,ep,hq,r⟩:=hd1;exact ⟨o,es,ep,yW _ hq,r⟩
 ·obtain ⟨t,k,rfl,hk,o,hto,r⟩:=hp j v kv hv hj;exact ⟨t,k,yQ hto,rfl,hk,o,yW _ (k1 _ _ (yW _ hto)),r⟩
 ·exact ⟨rfl,h h' tk' (λb o e=>kp b o (yQ e) (yW _ (k1 _ _ (yW _ e)))) hd⟩
end
section
variable {X:Cx}
theorem Re {pins:List (Addr×Obj)}{U:St}(I:Inv X pins U H s){ts:List Addr}(r:Paired (λt (kv:v3×V)=>H t=some (.tup [kV kv.1,kv.2])) ts kvs):∃ more:List (v3×Value),KV kvs more/\∀(j:Nat)(t:Addr)(m:v3×Value),ts[j]?=some t->more[j]?=some m->∃ k,(qc X.prog X.w).is m.1 k=true/\IsTup s.heap t #[k,m.2]:=by
 induction r with
 |nil=>exact ⟨[],.nil,λj t m h=>by simp at h⟩
 |@cons t kv ts kvs p _ ih =>
  obtain ⟨more,k1,k2⟩:=ih;obtain ⟨_,its,rv,ht⟩:=(show ObjOk X.prog X.w H s.heap t (.tup [kV kv.1,kv.2]) from I.hok t _ p);cases rv with
  |cons p1 r1 =>
   cases r1 with
   |cons p2 r2 =>
    cases r2;rename_i u1 u2;refine ⟨(kv.1,u2)::more,.cons ⟨rfl,p2⟩ k1,λj t' m h1 h2=>?_⟩;cases j with
    |zero=>simp at h1 h2;subst h1 h2;exact ⟨u1,QD p1,ht⟩
    |succ j=>exact k2 j t' m (by simpa using h1) (by simpa using h2)
theorem PR:∀{ts:List Addr}{us:List Value},Vals (ts.map V.ref) us->us=ts.map Value.ref
 |[],_,.nil=>rfl
 |t::ts,_,.cons p r=>by
  obtain rfl:=(show _=Value.ref t from p);rw [PR r];rfl
theorem Ub:∀{kvs:List (v3×V)}{vs:List (v3×Value)},KV kvs vs->vs.map (·.1)=kvs.map (·.1)
 |[],_,.nil=>rfl
 |_::_,_,.cons p r=>by rw [yI,yI,Ub r,p.1]
end
theorem Ua:∀{kvs:List (v3×V)}{vs:List (v3×Value)}{i:Nat}{k:v3}{x:V},KV kvs vs->kvs[i]?=some (k,x)->∃ u,vs[i]?=some (k,u)/\RelV x u
 |[],_,i,_,_,_,e=>by simp at e
 |_::_,_,0,k,x,.cons (b:=q) p _,e=>by
  simp at e;subst e;refine ⟨q.2,?_,p.2⟩;have e1:k=q.1:=p.1;rw [e1];rfl
 |_::_,_,i+1,k,x,.cons _ r,e=>by
  obtain ⟨u,h1,h2⟩:=Ua (i:=i) (k:=k) (x:=x) r (by simpa using e);exact ⟨u,by simpa using h1,h2⟩
def Itv (a:Addr)(o:Obj)(kvs:List (v3×V)):It :=
 ⟨λi H=>H a=some (.frz o (.dK kvs))/\i<kvs.length,λi H x H'=>H'=H/\∃ k,kvs[i]?=some (k,x),λi H=>H a=some (.frz o (.dK kvs))/\kvs.length<=i⟩
theorem Qy {h:Heap}{a:Addr}(ok:HOk P w H h)(e:H a=some (.frz o (.dK kvs)))(hd:o.data = .dict es ep):(a==sysModules)=false/\∃ vs,KV kvs vs/\h.DictAt (qc P w) a vs ep:=by obtain ⟨h1,h2,h3,vs,r,o',es',ep',h4,h5,h6,h7⟩:=(show ObjOk P w H h a (.frz o (.dK kvs)) from ok a _ e);rw [h1] at h4;cases h4;rw [hd] at h6;cases h6;exact ⟨h3,vs,r,o,es,h1,h5,hd,h7⟩
theorem SJ {tg:Expr}(a it:Addr)(kvs:List (v3×V))(hd:o.data = .dict es ep):jQ P w K tg (Itv a o kvs) [it] it (λi h=>h.IsValIter it a i kvs.length ep) where
 mem:=by simp
 obj:=λi h st b hb=>by
  have e:b=it:=by simpa using hb
  subst e;obtain ⟨o,e,c,d⟩:=st;exact ⟨o,e,λv z=>by rw [d] at z;cases z⟩
 keep:=λi h h' st k=>by
  obtain ⟨o,e,c,d⟩:=st;exact ⟨o,k it (by simp) o e,c,d⟩
 item:=by
  intro X hP hw hK hc i pins s U H E I hf st hg;subst hP hw hK;obtain ⟨hq,hl⟩:=hg;obtain ⟨_,vs,r,hm⟩:=Qy I.hok hq hd;have lv:vs.length=kvs.length:=(KV.length r).symm;obtain ⟨u,hu,ru⟩:=Ua (i:=i) (k:=kvs[i].1) (x:=kvs[i].2) r (yz hl);obtain ⟨f0,f1,f2,f3,f4,f5⟩:=hf it (by simp);have st1:s.heap.IsValIter it a i vs.length ep:=by rw [lv];exact st
  refine wpAny_pyNext_values_item st1 hm hu λh' st' sb=>?_;have I1:Inv X pins U H { s with heap:=h' }:=I.turned (t':=s.toks) (λb o hb e=>(sb.2 b hb).trans e) f0 f1 f3 f4 f5;rw [lv] at st';obtain ⟨o1,e1,c1,d1⟩:=id st';exact ⟨u,rfl,Jl (s:={ s with heap:=h' }) e1 c1 d1 (by decide) ⟨kvs[i].2,H,I1,ru,⟨rfl,kvs[i].1,yz hl⟩,st',λb hb=>(hf b hb).1⟩⟩
 done:=by
  intro X hP hw hK hc i pins s U H E I hf st hg;subst hP hw hK;obtain ⟨hq,hl⟩:=hg;obtain ⟨_,vs,r,hm⟩:=Qy I.hok hq hd;have lv:vs.length=kvs.length:=(KV.length r).symm;obtain ⟨f0,f1,f2,f3,f4,f5⟩:=hf it (by simp);have st1:s.heap.IsValIter it a i vs.length ep:=by rw [lv];exact st
  exact wpAny_pyNext_values_end (I.ok.hd hc) st1 hm (List.getElem?_eq_none (by omega)) λh' eb=>⟨rfl,I.turned (t':=s.toks) (λb o hb e=>eb b o hb e) f0 f1 f3 f4 f5⟩
 self:=λ_ _ _ _ _ st h=>wpAny_pyIter_valiter st h
section
variable {X:Cx}{tg:Expr}
def Kp (td:TE):TI:=λU H R=>td U H λx H1=>∃ a o kvs,x = .ref a/\H1 a=some (.frz o (.dK kvs))/\R (Itv a o kvs) H1
theorem Rx (ho:PE X d td)(hbase:attributeBase d "values" X.env (eval d X.env)=eval d X.env:=by rfl)(hline:(apos.endLine==cpos.line)=true:=by rfl):PI X tg (.Call (.Attribute d "values" apos) [] [] cpos) (Kp td):=by
 intro pins s U H R I h;refine wpAny_Call_method0_late hbase hline (j7 (ho pins s U H _ I h) λv s1 zq=>?_);obtain ⟨x,H1,I1,r1,q1⟩:=zq;obtain ⟨a,o,kvs,e,hq,q⟩:=q1;subst e;cases r1;obtain ⟨g1,g2,g3,ws,rw',o',es,ep,g4,g5,g6,g7⟩:=(show ObjOk X.prog X.w H1 s1.heap a (.frz o (.dK kvs)) from I1.hok a _ hq);rw [g1] at g4;cases g4;obtain ⟨hs,vs,r,hm⟩:=Qy I1.hok hq g6;have lv:vs.length=kvs.length:=(KV.length r).symm;refine ⟨"dict","dict.values",PySem.F.plainAttrs_dict,PySem.F.slot_dict_values,PySem.F.type_dict_values,hm.dictOf.typeIs,λb e=>?_,Calls.callWith_builtin rfl (PySem.evalArgs_none ?_)⟩
 ·cases e;exact ⟨o,g1,g5.2.1⟩
 refine call_meetsIn PySem.F.slot_dict_values hm.dictOf.typeIs PySem.F.entry_dict_values (PySem.F.args_dict_values_1 _) (meets_dict_values (qc X.prog X.w) a hs) ⟨⟨vs,hm.dictOf⟩,?_⟩;have I2:Inv X pins U H1 { s1 with heap:=s1.heap.push { cls:= .type "dict_values",data:= .fields #[.ref a] } }:=I1.kept (t':=s1.toks) λb o e=>yW _ e;obtain ⟨_,vs2,r2,hm2⟩:=Qy I2.hok hq g6;have lv2:vs2.length=kvs.length:=(KV.length r2).symm;refine wpAny_pyIter_values (knd:=qc X.prog X.w) (kvs:=vs2) ⟨_,yC _ rfl,rfl,rfl⟩ hm2 ?_;refine ⟨_,[_],_,Itv a o kvs,H1,rfl,I2.kept (t':=s1.toks) λb o e=>yW _ e,SJ a _ kvs g6,⟨_,yC _ rfl,rfl,?_⟩,λb hb=>?_,q⟩
 ·rw [lv2];rfl
 have e:b=(s1.heap.push { cls:= .type "dict_values",data:= .fields #[.ref a] }).objs.size:=by simpa using hb
 subst e;exact I2.fpOk (yT _) (I2.hok.fresh (yT _))
def Bx:List V->Hp->VK->Prop:=λxs H Q=>∃(a:Addr)(ts:List Addr)(kvs:List (v3×V)),xs=[.ref a]/\H a=some (.lst (ts.map V.ref))/\Paired (λt (kv:v3×V)=>H t=some (.tup [kV kv.1,kv.2])) ts kvs/\(kvs.map (·.1)).Nodup/\kvs.length<=1000 /\
  ∀ l o,H l=none->Q (.ref l) (z7 H l (.frz o (.dK kvs)))
theorem Gs (hc:X.calm=true)(_:X.K=K):CallR X (.type "dict") Bx:=by
 intro pins s U H xs us Q I r h;obtain ⟨a,ts,kvs,rfl,hq,hp,hn,h1000,q⟩:=h;obtain ⟨u,rfl,ru⟩:=zk r;obtain rfl:u=Value.ref a:=ru;obtain ⟨hz,its,n,rv,ho⟩:=(show ObjOk X.prog X.w H s.heap a (.lst (ts.map V.ref)) from I.hok a _ hq);have ei:=PR rv;obtain ⟨more,k1,k2⟩:=Re I hp;have lk:more.length=kvs.length:=k1.length.symm;have lt:=hp.length;have hsl:more.length<=sizeLine:=yb (jF (by omega));refine Dd (knd:=qc X.prog X.w) (more:=more) (I.ok.hd hc) ho (by rw [yV,ei,yZ];omega) hsl (λj v m hv hm=>?_) λh' tk k hd=>?_
 ·have hv':its[j]?=some v:=by simpa using hv
  rw [ei,yK] at hv';obtain ⟨t,ht,rfl⟩:=yx.mp hv';obtain ⟨kk,x1,x2⟩:=k2 j t m ht hm;exact ⟨t,kk,rfl,x1,x2⟩
 ·rw [merged_nil_of_nodup more (by rw [Ub k1];exact hn)] at hd;obtain ⟨o,es,ep,ho',_⟩:=id hd;refine ⟨.ref s.heap.objs.size,_,I.laid (t':=tk) (o:= .frz o (.dK kvs)) k (yT _) ⟨ho',GI (by omega) (beq_eq_false_iff_ne.mpr (Ne.symm (yF I.big))) k1 hd⟩,rfl,q _ _ (I.hok.fresh (yT _))⟩
end
section
variable {X:Cx}
def vwO (v a:Addr):HO:= .ext λh=>h.IsValuesView v a
def Pw (td:TE):TE:=λU H Q=>td U H λx H1=>∃ a o kvs,x = .ref a/\H1 a=some (.frz o (.dK kvs))/\∀ v,H1 v=none->Q (.ref v) (z7 H1 v (vwO v a))
theorem Ro (ho:PE X d td)(hbase:attributeBase d "values" X.env (eval d X.env)=eval d X.env:=by rfl)(hline:(apos.endLine==cpos.line)=true:=by rfl):PE X (.Call (.Attribute d "values" apos) [] [] cpos) (Pw td):=by
 intro pins s U H Q I h;refine wpAny_Call_method0_late hbase hline (j7 (ho pins s U H _ I h) λv s1 zq=>?_);obtain ⟨x,H1,I1,r1,q1⟩:=zq;obtain ⟨a,o,kvs,e,hq,q⟩:=q1;subst e;cases r1;obtain ⟨g1,g2,g3,ws,rw',o',es,ep,g4,g5,g6,g7⟩:=(show ObjOk X.prog X.w H1 s1.heap a (.frz o (.dK kvs)) from I1.hok a _ hq);rw [g1] at g4;cases g4;obtain ⟨hs,vs,r,hm⟩:=Qy I1.hok hq g6;refine ⟨"dict","dict.values",PySem.F.plainAttrs_dict,PySem.F.slot_dict_values,PySem.F.type_dict_values,hm.dictOf.typeIs,λb e=>?_,Calls.callWith_builtin rfl (PySem.evalArgs_none ?_)⟩
 ·cases e;exact ⟨o,g1,g5.2.1⟩
 refine call_meetsIn PySem.F.slot_dict_values hm.dictOf.typeIs PySem.F.entry_dict_values (PySem.F.args_dict_values_1 _) (meets_dict_values (qc X.prog X.w) a hs) ⟨⟨vs,hm.dictOf⟩,?_⟩;refine ⟨.ref s1.heap.objs.size,_,I1.laid (t':=s1.toks) (o:=vwO s1.heap.objs.size a) (λb o e=>yW _ e) (yT _) ⟨⟨_,yC _ rfl,rfl,rfl⟩,⟨_,yC _ rfl⟩,λh1 h2 ⟨o,e,c⟩ k=>⟨o,k o e,c⟩⟩,rfl,q _ (I1.hok.fresh (yT _))⟩
theorem CB {vs:List (v3×Value)}(r:KV kvs vs):Vals (kvs.map (·.2)) (vs.map (·.2)):=by
 unfold KV at r
 induction r with
 |nil=>exact .nil
 |cons p _ ih=>exact .cons p.2 ih
def BB:List V->Hp->VK->Prop:=λxs H Q=>∃ v a o kvs,xs=[.ref v]/\H v=some (vwO v a)/\H a=some (.frz o (.dK kvs))/\kvs.length<=1000/\∀ l,H l=none->Q (.ref l) (z7 H l (.lst (kvs.map (·.2))))
theorem Dn (hc:X.calm=true):CallR X (.type "list") BB:=by intro pins s U H xs us Q I r h;obtain ⟨v,a,o,kvs,rfl,hv,hq,h1000,q⟩:=h;obtain ⟨u,rfl,ru⟩:=zk r;obtain rfl:u=Value.ref v:=ru;have hvw:s.heap.IsValuesView v a:=(show ObjOk X.prog X.w H s.heap v (vwO v a) from I.hok v _ hv).1;obtain ⟨g1,g2,g3,ws,rw',o',es,ep,g4,g5,g6,g7⟩:=(show ObjOk X.prog X.w H s.heap a (.frz o (.dK kvs)) from I.hok a _ hq);rw [g1] at g4;cases g4;obtain ⟨hs,vs,rk,hm⟩:=Qy I.hok hq g6;have lv:vs.length=kvs.length:=(KV.length rk).symm;refine PySem.W.kdl_call (PySem.W.kdl_values (knd:=qc X.prog X.w) (kvs:=vs) (ep:=ep)) (I.ok.hd hc) ⟨hvw,hm⟩ (yb (jF (by omega))) λh' tk acc c hk hS hacc=>?_;have ea:acc.toList=vs.map (·.2):=PySem.W.kdl_vals_eq acc.toList (by rw [Array.length_toList];exact hacc.1) λj v e=>hacc.2 j v (by rw [<- uw];exact e);refine ⟨.ref s.heap.objs.size,_,I.laid (t':=tk) (o:= .lst (kvs.map (·.2))) hk (yT _) ⟨by rw [yZ];exact yb (jF (by omega)),acc.toList,c,by rw [ea];exact CB rk,?_⟩,rfl,q _ (I.hok.fresh (yT _))⟩;rw [Array.toArray_toList];exact hS
theorem Df:CallR X (.type "int") (λxs H Q=>∃ b:Bool,xs=[.bl b]/\Q (.int (if b then 1 else 0)) H):=by intro pins s U H xs us Q I r h;obtain ⟨b,rfl,q⟩:=h;obtain ⟨u,rfl,ru⟩:=zk r;obtain rfl:u=Value.bool b:=ru;exact call_int_bool ⟨.int (if b then 1 else 0),H,I.tok _,⟨_,rfl⟩,q⟩
end
end L2
namespace Mi
open PySem L2
variable{fl:Bool}{H H' H0 Hb Hs Hs' Hs0:Hp}{ks:List b7}{u v:V}{C p:Addr}{ns:List Str}{vs:List V}{o:HO}{U σ':St}{tb te:TE}{r:R2}{ta:TA}{n:Nat}{K:Fg}{t:TT}{E:XK}{nm:Str}{ts:List Nat}{lo:Int}{wi:TI}{tg:TG}
def KAs (fl:Bool)(H:Hp)(as:List Addr)(ks:List b7):Prop:=Paired (KeyH fl H) as ks
theorem KAs.keeps {as:List Addr}(x:KAs fl H as ks)(ht:∀ b xs,H b=some (.tup xs)->H' b=some (.tup xs)):KAs fl H' as ks:=Paired.mapP x λ_ _ z=>z.keeps ht
theorem KAs.mono {as:List Addr}(x:KAs fl H as ks)(g:Same H H'):KAs fl H' as ks:=x.keeps λ_ _ z=>g _ _ z
inductive PV where
 |at (v:V)|tup (xs:List PV)|lst (xs:List PV)|dk (ks:List v3) (xs:List PV)|dn (fl:Bool) (ks:List b7) (xs:List PV)|fn (fl:Bool) (ks:List b7) (xs:List PV)|fk (ks:List v3) (xs:List PV)|ob (C:Addr) (ns:List Str) (xs:List PV)|op (φ:Hp->V->Prop)
variable{xs:List PV}{x y:PV}{m:List PV->Option PV}
mutual
def Rep (H:Hp):PV->V->Prop
 | .at u,v=>v=u
 | .tup xs,v=>∃ a vs,v = .ref a/\H a=some (.tup vs)/\Reps H xs vs
 | .lst xs,v=>∃ a vs,v = .ref a/\H a=some (.lst vs)/\Reps H xs vs
 | .dk ks xs,v=>∃ a kvs,v = .ref a/\H a=some (.dK kvs)/\kvs.map (·.1)=ks/\Reps H xs (kvs.map (·.2))
 | .dn fl ks xs,v=>∃ a as kvs,v = .ref a/\H a=some (.dT fl as kvs)/\(kvs.map (·.1)=ks/\KAs fl H as ks)/\Reps H xs (kvs.map (·.2))
 | .fn fl ks xs,v=>∃ a o as kvs,v = .ref a/\H a=some (.frz o (.dT fl as kvs))/\(kvs.map (·.1)=ks/\KAs fl H as ks)/\Reps H xs (kvs.map (·.2))
 | .fk ks xs,v=>∃ a o kvs,v = .ref a/\H a=some (.frz o (.dK kvs))/\kvs.map (·.1)=ks/\Reps H xs (kvs.map (·.2))
 | .ob C ns xs,v=>∃ a dx fs,v = .ref a/\H a=some (.ins C dx fs)/\fs.map (·.1)=ns/\Reps H xs (fs.map (·.2))
 | .op φ,v=>∃ H',Same H' H/\φ H' v
def Reps (H:Hp):List PV->List V->Prop
 |[],vs=>vs=[]
 |x::xs,vs=>∃ v r,vs=v::r/\Rep H x v/\Reps H xs r
end
mutual
theorem Rep.mono {H H':Hp}(g:Same H H'):∀{x:PV}{v:V},Rep H x v->Rep H' x v
 | .at u,v,h=>by unfold Rep at h ⊢;exact h
 | .tup xs,v,h=>by unfold Rep at h ⊢;obtain ⟨a,vs,e,p,r⟩:=h;exact ⟨a,vs,e,g _ _ p,Reps.mono g r⟩
 | .lst xs,v,h=>by unfold Rep at h ⊢;obtain ⟨a,vs,e,p,r⟩:=h;exact ⟨a,vs,e,g _ _ p,Reps.mono g r⟩
 | .dk ks xs,v,h=>by unfold Rep at h ⊢;obtain ⟨a,vs,e,p,q,r⟩:=h;exact ⟨a,vs,e,g _ _ p,q,Reps.mono g r⟩
 | .dn fl ks xs,v,h=>by unfold Rep at h ⊢;obtain ⟨a,as,vs,e,p,q,r⟩:=h;exact ⟨a,as,vs,e,g _ _ p,⟨q.1,q.2.mono g⟩,Reps.mono g r⟩
 | .fn fl ks xs,v,h=>by unfold Rep at h ⊢;obtain ⟨a,o,as,vs,e,p,q,r⟩:=h;exact ⟨a,o,as,vs,e,g _ _ p,⟨q.1,q.2.mono g⟩,Reps.mono g r⟩
 | .fk ks xs,v,h=>by unfold Rep at h ⊢;obtain ⟨a,o,vs,e,p,q,r⟩:=h;exact ⟨a,o,vs,e,g _ _ p,q,Reps.mono g r⟩
 | .ob C ns xs,v,h=>by unfold Rep at h ⊢;obtain ⟨a,dx,vs,e,p,q,r⟩:=h;exact ⟨a,dx,vs,e,g _ _ p,q,Reps.mono g r⟩
 | .op φ,v,h=>by unfold Rep at h ⊢;obtain ⟨H1,s,p⟩:=h;exact ⟨H1,s.trans g,p⟩
theorem Reps.mono {H H':Hp}(g:Same H H'):∀{xs:List PV}{vs:List V},Reps H xs vs->Reps H' xs vs
 |[],vs,h=>by unfold Reps at h ⊢;exact h
 |x::xs,vs,h=>by unfold Reps at h ⊢;obtain ⟨v,r,e,p,q⟩:=h;exact ⟨v,r,e,Rep.mono g p,Reps.mono g q⟩
end
theorem rep_at :Rep H (.at u) v↔v=u:=by unfold Rep;exact Iff.rfl
theorem rep_tup :Rep H (.tup xs) v↔∃ a vs,v = .ref a/\H a=some (.tup vs)/\Reps H xs vs:=by unfold Rep;exact Iff.rfl
theorem rep_lst :Rep H (.lst xs) v↔∃ a vs,v = .ref a/\H a=some (.lst vs)/\Reps H xs vs:=by unfold Rep;exact Iff.rfl
theorem rep_dk {ks:List v3}:Rep H (.dk ks xs) v↔∃ a kvs,v = .ref a/\H a=some (.dK kvs)/\kvs.map (·.1)=ks/\Reps H xs (kvs.map (·.2)):=by unfold Rep;exact Iff.rfl
theorem rep_dn :Rep H (.dn fl ks xs) v↔∃ a as kvs,v = .ref a/\H a=some (.dT fl as kvs)/\(kvs.map (·.1)=ks/\KAs fl H as ks)/\Reps H xs (kvs.map (·.2)):=by unfold Rep;exact Iff.rfl
theorem rep_fn :Rep H (.fn fl ks xs) v↔∃ a o as kvs,v = .ref a/\H a=some (.frz o (.dT fl as kvs))/\(kvs.map (·.1)=ks/\KAs fl H as ks)/\Reps H xs (kvs.map (·.2)):=by unfold Rep;exact Iff.rfl
theorem rep_fk {ks:List v3}:Rep H (.fk ks xs) v↔∃ a o kvs,v = .ref a/\H a=some (.frz o (.dK kvs))/\kvs.map (·.1)=ks/\Reps H xs (kvs.map (·.2)):=by unfold Rep;exact Iff.rfl
theorem rep_ob :Rep H (.ob C ns xs) v↔∃ a dx fs,v = .ref a/\H a=some (.ins C dx fs)/\fs.map (·.1)=ns/\Reps H xs (fs.map (·.2)):=by unfold Rep;exact Iff.rfl
theorem rep_op {φ:Hp->V->Prop}:Rep H (.op φ) v↔∃ H',Same H' H/\φ H' v:=by unfold Rep;exact Iff.rfl
theorem reps_nil :Reps H [] vs↔vs=[]:=by unfold Reps;exact Iff.rfl
theorem reps_cons :Reps H (x::xs) vs↔∃ v r,vs=v::r/\Rep H x v/\Reps H xs r:=by
 constructor
 ·intro h;unfold Reps at h;exact h
 ·intro h;unfold Reps;exact h
theorem Reps.nil :Reps H [] []:=reps_nil.mpr rfl
theorem Reps.cons {H:Hp}{x:PV}{v:V}{xs:List PV}{vs:List V}(p:Rep H x v)(q:Reps H xs vs):Reps H (x::xs) (v::vs):=reps_cons.mpr ⟨v,vs,rfl,p,q⟩
theorem Reps.length {H:Hp}:∀{xs:List PV}{vs:List V},Reps H xs vs->vs.length=xs.length
 |[],vs,h=>by rw [reps_nil.mp h];rfl
 |x::xs,vs,h=>by obtain ⟨v,r,rfl,_,q⟩:=reps_cons.mp h;rw [yH,yH,Reps.length q]
theorem Reps.append {H:Hp}:∀{xs ys:List PV}{vs ws:List V},Reps H xs vs->Reps H ys ws->Reps H (xs++ys) (vs++ws)
 |[],ys,vs,ws,h,k=>by rw [reps_nil.mp h];exact k
 |x::xs,ys,vs,ws,h,k=>by obtain ⟨v,r,rfl,p,q⟩:=reps_cons.mp h;exact .cons p (Reps.append q k)
theorem Reps.one (p:Rep H x v):Reps H [x] [v]:= .cons p .nil
theorem Reps.get {H:Hp}:∀{xs:List PV}{vs:List V}{i:Nat}{x:PV},Reps H xs vs->xs[i]?=some x->∃ v,vs[i]?=some v/\Rep H x v
 |[],_,i,x,_,e=>by simp at e
 |y::xs,vs,0,x,h,e=>by
  obtain ⟨v,r,rfl,p,q⟩:=reps_cons.mp h;simp at e;subst e;exact ⟨v,rfl,p⟩
 |y::xs,vs,i+1,x,h,e=>by
  obtain ⟨v,r,rfl,p,q⟩:=reps_cons.mp h;obtain ⟨w,e1,e2⟩:=Reps.get (i:=i) (x:=x) q (by simpa using e);exact ⟨w,by simpa using e1,e2⟩
theorem Reps.take {H:Hp}:∀(n:Nat){xs:List PV}{vs:List V},Reps H xs vs->Reps H (xs.take n) (vs.take n)
 |0,_,_,_=>by rw [List.take_zero,List.take_zero];exact .nil
 |n+1,[],vs,h=>by rw [reps_nil.mp h];exact .nil
 |n+1,x::xs,vs,h=>by
  obtain ⟨v,r,rfl,p,q⟩:=reps_cons.mp h;exact .cons p (Reps.take n q)
theorem Reps.drop {H:Hp}:∀(n:Nat){xs:List PV}{vs:List V},Reps H xs vs->Reps H (xs.drop n) (vs.drop n)
 |0,_,_,h=>h
 |n+1,[],vs,h=>by rw [reps_nil.mp h];exact .nil
 |n+1,x::xs,vs,h=>by
  obtain ⟨v,r,rfl,p,q⟩:=reps_cons.mp h;exact Reps.drop n q
theorem Reps.reverse {H:Hp}:∀{xs:List PV}{vs:List V},Reps H xs vs->Reps H xs.reverse vs.reverse
 |[],vs,h=>by rw [reps_nil.mp h];exact .nil
 |x::xs,vs,h=>by
  obtain ⟨v,r,rfl,p,q⟩:=reps_cons.mp h;rw [List.reverse_cons,List.reverse_cons];exact (Reps.reverse q).append (.one p)
theorem Reps.ats {H:Hp}:∀{us vs:List V},Reps H (us.map .at) vs->vs=us
 |[],vs,h=>reps_nil.mp h
 |u::us,vs,h=>by
  obtain ⟨v,r,rfl,p,q⟩:=reps_cons.mp h;rw [rep_at.mp p,Reps.ats q]
theorem Reps.ofAts {H:Hp}:∀(us:List V),Reps H (us.map .at) us
 |[]=> .nil
 |u::us=> .cons (rep_at.mpr rfl) (Reps.ofAts us)
structure Ext (Hs H Hs' H':Hp):Prop where
 s1:Same Hs Hs'
 s2:Same H H'
 s3:Same Hs' H'
 s4:∀ b,H b≠none->Hs b=none->Hs' b=none
theorem Zr (g:Same H H'){b:Addr}(h:H b≠none):H' b≠none:=λz=>h (g.free z)
theorem Ext.refl (s:Same Hs H):Ext Hs H Hs H:=⟨.refl _,.refl _,s,λ_ _ z=>z⟩
theorem Ext.trans {A B A1 B1 A2 B2:Hp}(x:Ext A B A1 B1)(y:Ext A1 B1 A2 B2):Ext A B A2 B2:=⟨x.s1.trans y.s1,x.s2.trans y.s2,y.s3,λb h z=>y.s4 b (Zr x.s2 h) (x.s4 b h z)⟩
theorem Ext.new (s:Same Hs H)(h:H p=none):Ext Hs H (z7 Hs p o) (z7 H p o):=by
 have hs:Hs p=none:=s.free h;refine ⟨λb u e=>?_,λb u e=>?_,λb u e=>?_,λb e z=>?_⟩
 ·rw [z6 (y0 e hs)];exact e
 ·rw [z6 (y0 e h)];exact e
 ·by_cases hb:b=p
  ·subst hb;rw [j9] at e ⊢;exact e
  ·rw [z6 hb] at e ⊢;exact s _ _ e
 ·have hb:b≠p:=λq=>e (by rw [q];exact h);rw [z6 hb];exact z
theorem Ext.newO (s:Same Hs H)(h:H p=none):Ext Hs H Hs (z7 H p o) :=
 ⟨.refl _,λb u e=>by rw [z6 (y0 e h)];exact e,λb u e=>by rw [z6 (y0 (s _ _ e) h)];exact s _ _ e,λ_ _ z=>z⟩
def Top (Hs H:Hp)(a:Addr):PV->Prop
 | .lst xs=>∃ vs,H a=some (.lst vs)/\Reps Hs xs vs
 | .dk ks xs=>∃ kvs,H a=some (.dK kvs)/\kvs.map (·.1)=ks/\Reps Hs xs (kvs.map (·.2))
 | .dn fl ks xs=>∃ as kvs,H a=some (.dT fl as kvs)/\(kvs.map (·.1)=ks/\KAs fl Hs as ks)/\Reps Hs xs (kvs.map (·.2))
 | .fn fl ks xs=>∃ o as kvs,H a=some (.frz o (.dT fl as kvs))/\(kvs.map (·.1)=ks/\KAs fl Hs as ks)/\Reps Hs xs (kvs.map (·.2))
 | .ob C ns xs=>∃ dx fs,H a=some (.ins C dx fs)/\fs.map (·.1)=ns/\Reps Hs xs (fs.map (·.2))
 |_=>False
theorem Top.there {a:Addr}:∀{x:PV},Top Hs H a x->H a≠none
 | .lst _,h,z=>by obtain ⟨vs,e,_⟩:=h;rw [e] at z;cases z
 | .dk _ _,h,z=>by obtain ⟨vs,e,_⟩:=h;rw [e] at z;cases z
 | .dn _ _ _,h,z=>by obtain ⟨as,vs,e,_⟩:=h;rw [e] at z;cases z
 | .fn _ _ _,h,z=>by obtain ⟨o,as,vs,e,_⟩:=h;rw [e] at z;cases z
 | .ob _ _ _,h,z=>by obtain ⟨dx,vs,e,_⟩:=h;rw [e] at z;cases z
theorem Top.mono {a:Addr}(g:Same Hs Hs')(e:∀ o,H a=some o->H' a=some o):∀{x:PV},Top Hs H a x->Top Hs' H' a x
 | .lst _,h=>by obtain ⟨vs,q,r⟩:=h;exact ⟨vs,e _ q,r.mono g⟩
 | .dk _ _,h=>by obtain ⟨vs,q,k,r⟩:=h;exact ⟨vs,e _ q,k,r.mono g⟩
 | .dn _ _ _,h=>by obtain ⟨as,vs,q,k,r⟩:=h;exact ⟨as,vs,e _ q,⟨k.1,k.2.mono g⟩,r.mono g⟩
 | .fn _ _ _,h=>by obtain ⟨o,as,vs,q,k,r⟩:=h;exact ⟨o,as,vs,e _ q,⟨k.1,k.2.mono g⟩,r.mono g⟩
 | .ob _ _ _,h=>by obtain ⟨dx,vs,q,k,r⟩:=h;exact ⟨dx,vs,e _ q,k,r.mono g⟩
theorem Top.rep {a:Addr}:∀{x:PV},Top Hs H a x->Hs a=none->∃ o,H a=some o/\Rep (z7 Hs a o) x (.ref a)
 | .lst _,h,n=>by
  obtain ⟨vs,q,r⟩:=h;exact ⟨_,q,rep_lst.mpr ⟨a,vs,rfl,j9,r.mono λb u e=>by rw [z6 (y0 e n)];exact e⟩⟩
 | .dk _ _,h,n=>by
  obtain ⟨vs,q,k,r⟩:=h;exact ⟨_,q,rep_dk.mpr ⟨a,vs,rfl,j9,k,r.mono λb u e=>by rw [z6 (y0 e n)];exact e⟩⟩
 | .dn fl _ _,h,n=>by
  obtain ⟨as,vs,q,k,r⟩:=h;have g:Same Hs (z7 Hs a (.dT fl as vs)):=λb u e=>by rw [z6 (y0 e n)];exact e
  exact ⟨_,q,rep_dn.mpr ⟨a,as,vs,rfl,j9,⟨k.1,k.2.mono g⟩,r.mono g⟩⟩
 | .fn fl _ _,h,n=>by
  obtain ⟨o,as,vs,q,k,r⟩:=h;have g:Same Hs (z7 Hs a (.frz o (.dT fl as vs))):=λb u e=>by rw [z6 (y0 e n)];exact e
  exact ⟨_,q,rep_fn.mpr ⟨a,o,as,vs,rfl,j9,⟨k.1,k.2.mono g⟩,r.mono g⟩⟩
 | .ob _ _ _,h,n=>by
  obtain ⟨dx,vs,q,k,r⟩:=h;exact ⟨_,q,rep_ob.mpr ⟨a,dx,vs,rfl,j9,k,r.mono λb u e=>by rw [z6 (y0 e n)];exact e⟩⟩
theorem Ext.share {a:Addr}(x:Ext Hs H Hs' H')(h:H a=none)(n:Hs' a=none)(e:H' a=some o):Ext Hs H (z7 Hs' a o) H':=by
 refine ⟨λb u q=>?_,x.s2,λb u q=>?_,λb q z=>?_⟩
 ·rw [z6 (y0 (x.s1 _ _ q) n)];exact x.s1 _ _ q
 ·by_cases hb:b=a
  ·subst hb;rw [j9] at q;cases q;exact e
  ·rw [z6 hb] at q;exact x.s3 _ _ q
 ·have hb:b≠a:=λr=>q (by rw [r];exact h);rw [z6 hb];exact x.s4 b q z
def RepB (Hs H:Hp)(x:PV)(v:V):Prop:=Rep Hs x v∨∃ a,v = .ref a/\Hs a=none/\Top Hs H a x
theorem RepB.ext (e:Ext Hs H Hs' H')(h:RepB Hs H x v):RepB Hs' H' x v:=by
 rcases h with h|⟨a,rfl,n,t⟩
 ·exact .inl (h.mono e.s1)
 ·exact .inr ⟨a,rfl,e.s4 a t.there n,t.mono e.s1 λo q=>e.s2 _ _ q⟩
inductive MSlot where
 |no|sh (x:PV)|ow (x:PV)|bo (x:PV)
abbrev ME:=List MSlot
variable{ε:ME}
def Own (H0 Hs H:Hp)(a:Addr)(x:PV):Prop:=H0 a=none/\Hs a=none/\Top Hs H a x
structure RS (Hs0 H0 Hs H:Hp)(U:St)(ε:ME):Prop where
 ext:Ext Hs0 H0 Hs H
 sh:∀(i:Nat)(x:PV),ε[i]?=some (.sh x)->∃ v,U[i]?=some (some v)/\Rep Hs x v
 ow:∀(i:Nat)(x:PV),ε[i]?=some (.ow x)->∃ a,U[i]?=some (some (.ref a))/\Own H0 Hs H a x
 nd:∀(i j:Nat)(x y:PV)(a:Addr),ε[i]?=some (.ow x)->ε[j]?=some (.ow y)->U[i]?=some (some (.ref a))->U[j]?=some (some (.ref a))->i=j
 len:U.length=ε.length
 bo:∀(i:Nat)(x:PV),ε[i]?=some (.bo x)->∃ v,U[i]?=some (some v)/\(Rep Hs x v∨∃ a,v = .ref a/\H0 a≠none/\Hs a=none/\Top Hs H a x)
section
variable {Hs0 H0 Hs H Hs' H':Hp}{U:St}{ε:ME}
theorem RS.go (r:RS Hs0 H0 Hs H U ε)(e:Ext Hs H Hs' H'):RS Hs0 H0 Hs' H' U ε where
 ext:=r.ext.trans e
 sh:=λi x q=>by obtain ⟨v,a,b⟩:=r.sh i x q;exact ⟨v,a,b.mono e.s1⟩
 ow:=λi x q=>by
  obtain ⟨a,b,n0,n,t⟩:=r.ow i x q;exact ⟨a,b,n0,e.s4 a t.there n,t.mono e.s1 λo z=>e.s2 _ _ z⟩
 nd:=r.nd
 len:=r.len
 bo:=λi x q=>by
  obtain ⟨v,b,h|⟨a,rfl,n0,n,t⟩⟩:=r.bo i x q
  ·exact ⟨v,b,.inl (h.mono e.s1)⟩
  ·exact ⟨_,b,.inr ⟨a,rfl,n0,e.s4 a t.there n,t.mono e.s1 λo z=>e.s2 _ _ z⟩⟩
theorem RS.sub (r:RS Hs0 H0 Hs H U ε):Same Hs H:=r.ext.s3
theorem RS.rebase (r:RS Hs0 H0 Hs H U ε):RS Hs H0 Hs H U ε:=⟨⟨.refl _,r.ext.s2,r.ext.s3,λ_ _ z=>z⟩,r.sh,r.ow,r.nd,r.len,r.bo⟩
theorem Ext.unbase (r:Ext Hs0 H0 Hb H)(e:Ext Hb H0 Hs' H'):Ext Hs0 H0 Hs' H':=⟨r.s1.trans e.s1,e.s2,e.s3,λb h z=>e.s4 b h (r.s4 b h z)⟩
theorem RS.unbase {ε':ME}(r:Ext Hs0 H0 Hb H)(e:RS Hb H0 Hs' H' σ' ε'):RS Hs0 H0 Hs' H' σ' ε':=⟨r.unbase e.ext,e.sh,e.ow,e.nd,e.len,e.bo⟩
theorem RS.put (r:RS Hs0 H0 Hs H U ε){i:Nat}(h:Rep Hs x v):RS Hs0 H0 Hs H (U.set i (some v)) (ε.set i (.sh x)) where
 ext:=r.ext
 sh:=λj y q=>by
  rw [yB] at q ⊢;split at q
  ·rename_i hij;split at q
   ·rename_i hl;injection q with q;injection q with q;subst q;rw [if_pos hij,if_pos (by rw [r.len,hij];rw [hij] at hl;exact hl)];exact ⟨v,rfl,h⟩
   ·cases q
  ·rename_i hij;rw [if_neg hij];exact r.sh j y q
 ow:=λj y q=>by
  rw [yB] at q ⊢;split at q
  ·split at q<;>cases q
  ·rename_i hij;rw [if_neg hij];exact r.ow j y q
 nd:=λj k x y a h1 h2 h3 h4=>by
  rw [yB] at h1 h2 h3 h4;split at h1
  ·split at h1<;>cases h1
  ·rename_i hj;rw [if_neg hj] at h3;split at h2
   ·split at h2<;>cases h2
   ·rename_i hk;rw [if_neg hk] at h4;exact r.nd j k x y a h1 h2 h3 h4
 len:=by rw [yi,yi,r.len]
 bo:=λj y q=>by
  rw [yB] at q ⊢;split at q
  ·split at q<;>cases q
  ·rename_i hij;rw [if_neg hij];exact r.bo j y q
theorem RS.putO (r:RS Hs0 H0 Hs H U ε){i:Nat}{a:Addr}(h:Own H0 Hs H a x)(ne:∀(j:Nat)(y:PV),ε[j]?=some (.ow y)->U[j]?≠some (some (.ref a))):RS Hs0 H0 Hs H (U.set i (some (.ref a))) (ε.set i (.ow x)) where
 ext:=r.ext
 sh:=λj y q=>by
  rw [yB] at q ⊢;split at q
  ·split at q<;>cases q
  ·rename_i hij;rw [if_neg hij];exact r.sh j y q
 ow:=λj y q=>by
  rw [yB] at q ⊢;split at q
  ·rename_i hij;split at q
   ·rename_i hl;injection q with q;injection q with q;subst q;rw [if_pos hij,if_pos (by rw [r.len,hij];rw [hij] at hl;exact hl)];exact ⟨a,rfl,h⟩
   ·cases q
  ·rename_i hij;rw [if_neg hij];exact r.ow j y q
 nd:=λj k x' y b h1 h2 h3 h4=>by
  rw [yB] at h1 h2 h3 h4;split at h1
  ·rename_i hj;rw [if_pos hj] at h3;split at h1
   ·rename_i hl;rw [if_pos (by rw [r.len];exact hl)] at h3;injection h3 with h3;injection h3 with h3;injection h3 with h3;subst h3;split at h2
    ·rename_i hk;exact hj.symm.trans hk
    ·rename_i hk;rw [if_neg hk] at h4;exact absurd h4 (ne k y h2)
   ·cases h1
  ·rename_i hj;rw [if_neg hj] at h3;split at h2
   ·rename_i hk;rw [if_pos hk] at h4;split at h2
    ·rename_i hl;rw [if_pos (by rw [r.len];exact hl)] at h4;injection h4 with h4;injection h4 with h4;injection h4 with h4;subst h4;exact absurd h3 (ne j x' h1)
    ·cases h2
   ·rename_i hk;rw [if_neg hk] at h4;exact r.nd j k x' y b h1 h2 h3 h4
 len:=by rw [yi,yi,r.len]
 bo:=λj y q=>by
  rw [yB] at q ⊢;split at q
  ·split at q<;>cases q
  ·rename_i hij;rw [if_neg hij];exact r.bo j y q
theorem RS.change (r:RS Hs0 H0 Hs H U ε){i:Nat}{a:Addr}(hi:ε[i]?=some (.ow x))(ha:U[i]?=some (some (.ref a)))(t:Top Hs (z7 H a o) a y):RS Hs0 H0 Hs (z7 H a o) U (ε.set i (.ow y)):=by
 obtain ⟨b,hb,n0,n,tx⟩:=r.ow i x hi;rw [ha] at hb;injection hb with hb;injection hb with hb;injection hb with hb;subst hb;refine ⟨⟨r.ext.s1,λb u e=>?_,λb u e=>?_,r.ext.s4⟩,λj z q=>?_,λj z q=>?_,λj k z z' c h1 h2 h3 h4=>?_,by rw [yi,r.len],λj z q=>?_⟩
 ·rw [z6 (y0 e n0)];exact r.ext.s2 _ _ e
 ·rw [z6 (y0 e n)];exact r.ext.s3 _ _ e
 ·rw [yB] at q;split at q
  ·split at q<;>cases q
  ·exact r.sh j z q
 ·rw [yB] at q;split at q
  ·rename_i hij;split at q
   ·injection q with q;injection q with q;subst q;exact ⟨a,hij▸ha,n0,n,t⟩
   ·cases q
  ·rename_i hij;obtain ⟨c,hc,m0,m,tc⟩:=r.ow j z q;have hne:c≠a:=λe=>hij (r.nd i j x z a hi q ha (e▸hc));exact ⟨c,hc,m0,m,tc.mono (.refl _) λo' e=>by rw [z6 hne];exact e⟩
 ·have down:∀{m:Nat}{w:PV},(ε.set i (.ow y))[m]?=some (.ow w)->∃ w',ε[m]?=some (.ow w'):=by
   intro m w q;rw [yB] at q;split at q
   ·rename_i him;exact ⟨x,him▸hi⟩
   ·exact ⟨w,q⟩
  obtain ⟨w1,q1⟩:=down h1;obtain ⟨w2,q2⟩:=down h2;exact r.nd j k w1 w2 c q1 q2 h3 h4
 ·rw [yB] at q;split at q
  ·split at q<;>cases q
  ·obtain ⟨v,hv,h|⟨c,rfl,m0,m,tc⟩⟩:=r.bo j z q
   ·exact ⟨v,hv,.inl h⟩
   ·have hne:c≠a:=λe=>m0 (e▸n0);exact ⟨_,hv,.inr ⟨c,rfl,m0,m,tc.mono (.refl _) λo' e=>by rw [z6 hne];exact e⟩⟩
def fz (i:Nat)(ε:ME):ME:=match ε[i]? with
 |some (.ow x)=>ε.set i (.sh x)
 |_=>ε
end
theorem QO {j:Nat}{s:MSlot}(h:∀(i:Nat)(x:PV),ε[i]?≠some (.bo x))(hs:∀ x,s ≠ .bo x):∀(i:Nat)(x:PV),(ε.set j s)[i]?≠some (.bo x):=λi x q=>by
 rw [yB] at q;split at q
 ·split at q
  ·injection q with q;exact hs x q
  ·cases q
 ·exact h i x q
abbrev M:=ME->Option PV
variable{a b:M}
abbrev MB:=ME->Option Bool
variable{c:MB}
abbrev MA:=ME->Option (List PV)
variable{as f:MA}
class SemE (te:TE)(f:M):Prop where
 h:∀{ε y},f ε=some y->∀{Hs0 H0 Hs H U},RS Hs0 H0 Hs H U ε->∀{Q:VK},(∀ v Hs' H',Ext Hs H Hs' H'->Rep Hs' y v->Q v H')->te U H Q
class qq (te:TE)(f:M):Prop where
 h:∀{ε y},f ε=some y->∀{Hs0 H0 Hs H U},RS Hs0 H0 Hs H U ε->∀{Q:VK},(∀ v Hs' H',Ext Hs H Hs' H'->RepB Hs' H' y v->Q v H')->te U H Q
class xo (te:TE)(f:M):Prop where
 h:∀{ε y},f ε=some y->∀{Hs0 H0 Hs H U},RS Hs0 H0 Hs H U ε->∀{Q:VK},(∀ a Hs' H',Ext Hs H Hs' H'->H a=none->Hs' a=none->Top Hs' H' a y->Q (.ref a) H')->te U H Q
class qO (tt:TT)(f:MB):Prop where
 h:∀{ε y},f ε=some y->∀{Hs0 H0 Hs H U},RS Hs0 H0 Hs H U ε->∀{Q:Bool->Hp->Prop},(∀ Hs' H',Ext Hs H Hs' H'->Q y H')->tt U H Q
class o6 (ta:TA)(f:MA):Prop where
 h:∀{ε ys},f ε=some ys->∀{Hs0 H0 Hs H U},RS Hs0 H0 Hs H U ε->∀{Q:List V->Hp->Prop},(∀ vs Hs' H',Ext Hs H Hs' H'->Reps Hs' ys vs->Q vs H')->ta U H Q
def wW (Hs H:Hp):List PV->List V->Prop
 |[],vs=>vs=[]
 |x::xs,vs=>∃ v r,vs=v::r/\RepB Hs H x v/\wW Hs H xs r
class Xr (ta:TA)(f:MA):Prop where
 h:∀{ε ys},f ε=some ys->∀{Hs0 H0 Hs H U},RS Hs0 H0 Hs H U ε->∀{Q:List V->Hp->Prop},(∀ vs Hs' H',Ext Hs H Hs' H'->wW Hs' H' ys vs->Q vs H')->ta U H Q
class xy (r:R2)(g:PV->PV->Option PV):Prop where
 h:∀{x y z},g x y=some z->∀{Hs H:Hp}{v w:V},Same Hs H->RepB Hs H x v->RepB Hs H y w->∀{Q:VK},(∀ u Hs' H',Ext Hs H Hs' H'->Rep Hs' z u->Q u H')->r v w H Q
instance (priority:=50) semE_O {f:M}[s:xo te f]:SemE te f where
 h:=λe _ _ _ _ _ r _ q=>s.h e r λa Hs' H' x h n t=>by
  obtain ⟨o,ho,hr⟩:=t.rep n;exact q _ _ _ (x.share h n ho) hr
instance (priority:=50) semB_E {f:M}[s:SemE te f]:qq te f where
 h:=λe _ _ _ _ _ r _ q=>s.h e r λv Hs' H' x h=>q v Hs' H' x (.inl h)
def x0 (i:Nat):M:=λε=>match ε[i]? with
 |some (.sh x)=>some x
 |_=>none
def z5 (i:Nat):M:=λε=>match ε[i]? with
 |some (.sh x)=>some x
 |some (.ow x)=>some x
 |some (.bo x)=>some x
 |_=>none
def dC (v:V):M:=λ_=>some (.at v)
instance {i:Nat}:SemE (b9 i) (x0 i) where
 h:=λ{ε y} e {_ _ _ _ _} r {_} q=>by
  unfold x0 at e;split at e
  ·rename_i x hx;cases e;obtain ⟨v,h1,h2⟩:=r.sh i _ hx;exact ⟨v,h1,q v _ _ (.refl r.sub) h2⟩
  ·cases e
instance {i:Nat}:qq (b9 i) (z5 i) where
 h:=λ{ε y} e {_ _ _ _ _} r {_} q=>by
  unfold z5 at e;split at e
  ·rename_i x hx;cases e;obtain ⟨v,h1,h2⟩:=r.sh i _ hx;exact ⟨v,h1,q v _ _ (.refl r.sub) (.inl h2)⟩
  ·rename_i x hx;cases e;obtain ⟨a,h1,_,n,t⟩:=r.ow i _ hx;exact ⟨_,h1,q _ _ _ (.refl r.sub) (.inr ⟨a,rfl,n,t⟩)⟩
  ·rename_i x hx;cases e;obtain ⟨v,h1,h2|⟨a,rfl,_,n,t⟩⟩:=r.bo i _ hx
   ·exact ⟨v,h1,q v _ _ (.refl r.sub) (.inl h2)⟩
   ·exact ⟨_,h1,q _ _ _ (.refl r.sub) (.inr ⟨a,rfl,n,t⟩)⟩
  ·cases e
instance :SemE (tC v) (dC v) where
 h:=λe _ _ _ _ _ r _ q=>by cases e;exact q v _ _ (.refl r.sub) (rep_at.mpr rfl)
def z9 (g:PV->PV->Option PV)(a b:M):M:=λε=>(a ε).bind λx=>(b ε).bind λy=>g x y
theorem bind_some {α β:Type}{o:Option α}{f:α->Option β}{y:β}(h:o.bind f=some y):∃ x,o=some x/\f x=some y:=by
 cases o with
 |none=>cases h
 |some x=>exact ⟨x,rfl,h⟩
instance {g:PV->PV->Option PV}{ta:TE}[sr:xy r g][sa:qq ta a][sb:qq tb b]:SemE (tOp r ta tb) (z9 g a b) where
 h:=λe _ _ _ _ _ rs _ q=>by
  obtain ⟨x,ex,e⟩:=bind_some e;obtain ⟨y,ey,e⟩:=bind_some e;exact sa.h ex rs λv Hs1 H1 x1 r1=>sb.h ey (rs.go x1) λw Hs2 H2 x2 r2=>sr.h e x2.s3 (r1.ext x2) r2 λu Hs3 H3 x3 r3=>q u _ _ (x1.trans (x2.trans x3)) r3
def x8:MA:=λ_=>some []
def q0 (a:M)(r:MA):MA:=λε=>(a ε).bind λx=>(r ε).bind λxs=>some (x::xs)
instance:o6 qF x8 where
 h:=λe _ _ _ _ _ r _ q=>by cases e;exact q [] _ _ (.refl r.sub) .nil
instance [sa:SemE te a][sr:o6 ta f]:o6 (o5 te ta) (q0 a f) where
 h:=λe _ _ _ _ _ rs _ q=>by
  obtain ⟨x,ex,e⟩:=bind_some e;obtain ⟨xs,ey,e⟩:=bind_some e;cases e;exact sa.h ex rs λv Hs1 H1 x1 r1=>sr.h ey (rs.go x1) λvs Hs2 H2 x2 r2=>q _ _ _ (x1.trans x2) (.cons (r1.mono x2.s1) r2)
instance:Xr qF x8 where
 h:=λe _ _ _ _ _ r _ q=>by cases e;exact q [] _ _ (.refl r.sub) rfl
instance [sa:qq te a][sr:Xr ta f]:Xr (o5 te ta) (q0 a f) where
 h:=λe _ _ _ _ _ rs _ q=>by
  obtain ⟨x,ex,e⟩:=bind_some e;obtain ⟨xs,ey,e⟩:=bind_some e;cases e;exact sa.h ex rs λv Hs1 H1 x1 r1=>sr.h ey (rs.go x1) λvs Hs2 H2 x2 r2=>q _ _ _ (x1.trans x2) ⟨_,_,rfl,r1.ext x2,r2⟩
def lim:Nat:=1000000
theorem zo (h:n<=lim):n<=sizeLine:=ye h (by rw [sizeLine_eq];decide)
theorem vL (h:n<=lim):n<sizeLine:=uA h (by rw [sizeLine_eq];decide)
def ql (a:MA):M:=λε=>(a ε).bind λxs=>if xs.length<=lim then some (.tup xs) else none
def m8 (a:MA):M:=λε=>(a ε).bind λxs=>if xs.length<=lim then some (.lst xs) else none
instance [sa:o6 ta f]:SemE (tTup ta) (ql f) where
 h:=λe _ _ _ _ _ rs _ q=>by
  obtain ⟨xs,ex,e⟩:=bind_some e;split at e
  ·rename_i hl;cases e;exact sa.h ex rs λvs Hs1 H1 x1 r1=>⟨zo (r1.length▸hl),λp hp=>q _ _ _ (x1.trans (.new x1.s3 hp)) (rep_tup.mpr ⟨p,vs,rfl,j9,r1.mono (Ext.new x1.s3 hp).s1⟩)⟩
  ·cases e
instance [sa:o6 ta f]:xo (tLst ta) (m8 f) where
 h:=λe _ _ _ _ _ rs _ q=>by
  obtain ⟨xs,ex,e⟩:=bind_some e;split at e
  ·rename_i hl;cases e;exact sa.h ex rs λvs Hs1 H1 x1 r1=>⟨zo (r1.length▸hl),λp hp=>q _ _ _ (x1.trans (.newO x1.s3 hp)) (x1.s2.free hp) (x1.s3.free hp) ⟨vs,j9,r1⟩⟩
  ·cases e
theorem u5 (h:RepB Hs H (.at u) v):v=u:=by
 rcases h with h|⟨a,_,_,t⟩
 ·exact rep_at.mp h
 ·exact t.elim
theorem xg (s:Same Hs H)(h:RepB Hs H (.lst xs) v):∃ a vs,v = .ref a/\H a=some (.lst vs)/\Reps Hs xs vs:=by
 rcases h with h|⟨a,rfl,_,vs,e,r⟩
 ·obtain ⟨a,vs,rfl,e,r⟩:=rep_lst.mp h;exact ⟨a,vs,rfl,s _ _ e,r⟩
 ·exact ⟨a,vs,rfl,e,r⟩
theorem xZ (s:Same Hs H)(h:RepB Hs H (.tup xs) v):∃ a vs,v = .ref a/\H a=some (.tup vs)/\Reps Hs xs vs:=by
 rcases h with h|⟨a,rfl,_,t⟩
 ·obtain ⟨a,vs,rfl,e,r⟩:=rep_tup.mp h;exact ⟨a,vs,rfl,s _ _ e,r⟩
 ·exact t.elim
theorem Zo {ks:List v3}(s:Same Hs H)(h:RepB Hs H (.fk ks xs) v):∃ a o kvs,v = .ref a/\H a=some (.frz o (.dK kvs))/\kvs.map (·.1)=ks/\Reps Hs xs (kvs.map (·.2)):=by
 rcases h with h|⟨a,rfl,n,t⟩
 ·obtain ⟨a,o,kvs,rfl,e,k,r⟩:=rep_fk.mp h;exact ⟨a,o,kvs,rfl,s _ _ e,k,r⟩
 ·exact t.elim
theorem jc {ks:List v3}(s:Same Hs H)(h:RepB Hs H (.dk ks xs) v):∃ a kvs,v = .ref a/\H a=some (.dK kvs)/\kvs.map (·.1)=ks/\Reps Hs xs (kvs.map (·.2)):=by
 rcases h with h|⟨a,rfl,_,kvs,e,k,r⟩
 ·obtain ⟨a,kvs,rfl,e,k,r⟩:=rep_dk.mp h;exact ⟨a,kvs,rfl,s _ _ e,k,r⟩
 ·exact ⟨a,kvs,rfl,e,k,r⟩
theorem Te (s:Same Hs H)(h:RepB Hs H (.dn fl ks xs) v):∃ a as kvs,v = .ref a/\H a=some (.dT fl as kvs)/\(kvs.map (·.1)=ks/\KAs fl Hs as ks)/\Reps Hs xs (kvs.map (·.2)):=by
 rcases h with h|⟨a,rfl,_,as,kvs,e,k,r⟩
 ·obtain ⟨a,as,kvs,rfl,e,k,r⟩:=rep_dn.mp h;exact ⟨a,as,kvs,rfl,s _ _ e,k,r⟩
 ·exact ⟨a,as,kvs,rfl,e,k,r⟩
theorem Tf (s:Same Hs H)(h:RepB Hs H (.fn fl ks xs) v):∃ a o as kvs,v = .ref a/\H a=some (.frz o (.dT fl as kvs))/\(kvs.map (·.1)=ks/\KAs fl Hs as ks)/\Reps Hs xs (kvs.map (·.2)):=by
 rcases h with h|⟨a,rfl,_,o,as,kvs,e,k,r⟩
 ·obtain ⟨a,o,as,kvs,rfl,e,k,r⟩:=rep_fn.mp h;exact ⟨a,o,as,kvs,rfl,s _ _ e,k,r⟩
 ·exact ⟨a,o,as,kvs,rfl,e,k,r⟩
theorem BP (s:Same Hs H)(h:RepB Hs H (.ob C ns xs) v):∃ a dx fs,v = .ref a/\H a=some (.ins C dx fs)/\fs.map (·.1)=ns/\Reps Hs xs (fs.map (·.2)):=by
 rcases h with h|⟨a,rfl,_,dx,fs,e,k,r⟩
 ·obtain ⟨a,dx,fs,rfl,e,k,r⟩:=rep_ob.mp h;exact ⟨a,dx,fs,rfl,s _ _ e,k,r⟩
 ·exact ⟨a,dx,fs,rfl,e,k,r⟩
def pI (g:Int->Int->Option V):PV->PV->Option PV
 | .at (.int i),.at (.int j)=>(g i j).map .at
 |_,_=>none
theorem Bf {g:Int->Int->Option V}{z:PV}(h:pI g x y=some z):∃ i j u,x = .at (.int i)/\y = .at (.int j)/\g i j=some u/\z = .at u:=by
 unfold pI at h;split at h
 ·rename_i i j;obtain ⟨u,e,rfl⟩:=yx.mp h;exact ⟨i,j,u,rfl,rfl,e,rfl⟩
 ·cases h
instance {g:Int->Int->V}:xy (rI0 g) (pI λi j=>some (g i j)) where
 h:=λe _ _ _ _ s a b _ q=>by
  obtain ⟨i,j,u,rfl,rfl,e,rfl⟩:=Bf e;cases e;exact ⟨i,j,u5 a,u5 b,q _ _ _ (.refl s) (rep_at.mpr rfl)⟩
instance {C:Int->Int->Prop}[d:∀ i j,Decidable (C i j)]{g:Int->Int->V}:xy (rI C g) (pI λi j=>if C i j then some (g i j) else none) where
 h:=λe _ _ _ _ s a b _ q=>by
  obtain ⟨i,j,u,rfl,rfl,e',rfl⟩:=Bf e;split at e'
  ·rename_i hc;cases e';exact ⟨i,j,u5 a,u5 b,hc,q _ _ _ (.refl s) (rep_at.mpr rfl)⟩
  ·cases e'
def v8:PV->PV->Option PV
 | .lst xs,.at (.int i)=>atI xs i
 | .tup xs,.at (.int i)=>atI xs i
 | .at (.str z),.at (.int i)=>if z.length<=lim then (L2.atI z.cps.toList i).map λc=> .at (.str ⟨#[c]⟩) else none
 |_,_=>none
theorem Reps.atI {i:Int}(r:Reps H xs vs)(h:atI xs i=some x):∃ v,L2.atI vs i=some v/\Rep H x v:=by unfold L2.atI at h ⊢;rw [r.length];obtain ⟨j,ej,e⟩:=bind_some h;rw [ej];exact r.get e
instance :xy (rIx K) v8 where
 h:=λ{x y z} e {Hs H v w} s a b {Q} q=>by
  unfold v8 at e;split at e
  ·obtain ⟨p,vs,rfl,e1,r1⟩:=xg s a;obtain ⟨u,hu,r⟩:=r1.atI e;exact .inl ⟨p,vs,_,u,rfl,u5 b,SqL.of e1,hu,q _ _ _ (.refl s) r⟩
  ·obtain ⟨p,vs,rfl,e1,r1⟩:=xZ s a;obtain ⟨u,hu,r⟩:=r1.atI e;exact .inr (.inl ⟨p,vs,_,u,rfl,u5 b,SqT.of e1,hu,q _ _ _ (.refl s) r⟩)
  ·split at e
   ·rename_i hz;obtain ⟨c,hc,rfl⟩:=yx.mp e;exact .inr (.inr ⟨_,_,c,u5 a,u5 b,zo hz,hc,q _ _ _ (.refl s) (rep_at.mpr rfl)⟩)
   ·cases e
  ·cases e
def ats:List PV->Option (List V)
 |[]=>some []
 | .at u::xs=>(ats xs).map (u::·)
 |_::_=>none
theorem Vm:∀{xs:List PV}{us:List V},ats xs=some us->xs=us.map .at
 |[],_,h=>by cases h;rfl
 | .at u::xs,us,h=>by
  unfold ats at h;obtain ⟨r,e,rfl⟩:=yx.mp h;rw [yI,Vm e]
 | .tup _::_,_,h=>by cases h
 | .lst _::_,_,h=>by cases h
 | .dk _ _::_,_,h=>by cases h
 | .dn _ _ _::_,_,h=>by cases h
 | .fn _ _ _::_,_,h=>by cases h
 | .fk _ _::_,_,h=>by cases h
 | .ob _ _ _::_,_,h=>by cases h
 | .op _::_,_,h=>by cases h
def pIn (neg:Bool):PV->PV->Option PV
 | .at u,.lst xs=>(ats xs).bind λus=>if u4 u=true/\us.all u4=true then some (.at (.bl (if neg then !inV u us else inV u us))) else none
 | .at u,.tup xs=>(ats xs).bind λus=>if u4 u=true/\us.all u4=true then some (.at (.bl (if neg then !inV u us else inV u us))) else none
 |_,_=>none
instance {neg:Bool}:xy (rIn K neg) (pIn neg) where
 h:=λ{x y z} e {Hs H v w} s a b {Q} q=>by
  unfold pIn at e;split at e
  ·obtain ⟨us,e1,e⟩:=bind_some e;split at e
   ·rename_i hf;cases e;obtain ⟨p,vs,rfl,e2,r2⟩:=xg s b;rw [Vm e1] at r2;cases r2.ats;cases u5 a;exact ⟨p,_,rfl,.inl (SqL.of e2),hf.1,hf.2,q _ _ _ (.refl s) (rep_at.mpr rfl)⟩
   ·cases e
  ·obtain ⟨us,e1,e⟩:=bind_some e;split at e
   ·rename_i hf;cases e;obtain ⟨p,vs,rfl,e2,r2⟩:=xZ s b;rw [Vm e1] at r2;cases r2.ats;cases u5 a;exact ⟨p,_,rfl,.inr (SqT.of e2),hf.1,hf.2,q _ _ _ (.refl s) (rep_at.mpr rfl)⟩
   ·cases e
  ·cases e
class SemU (r:V->Hp->VK->Prop)(g:PV->Option PV):Prop where
 h:∀{x z},g x=some z->∀{Hs H:Hp}{v:V},Same Hs H->RepB Hs H x v->∀{Q:VK},(∀ u Hs' H',Ext Hs H Hs' H'->Rep Hs' z u->Q u H')->r v H Q
def dUn (g:PV->Option PV)(a:M):M:=λε=>(a ε).bind g
instance {r:V->Hp->VK->Prop}{g:PV->Option PV}{ta:TE}[sr:SemU r g][sa:qq ta a]:SemE (tUn r ta) (dUn g a) where
 h:=λe _ _ _ _ _ rs _ q=>by
  obtain ⟨x,ex,e⟩:=bind_some e;exact sa.h ex rs λv Hs1 H1 x1 r1=>sr.h e x1.s3 r1 λu Hs3 H3 x3 r3=>q u _ _ (x1.trans x3) r3
def pU (g:Int->V):PV->Option PV
 | .at (.int i)=>some (.at (g i))
 |_=>none
instance {g:Int->V}:SemU (rU g) (pU g) where
 h:=λ{x z} e {_ _ _} s a {_} q=>by
  unfold pU at e;split at e
  ·cases e;exact ⟨_,u5 a,q _ _ _ (.refl s) (rep_at.mpr rfl)⟩
  ·cases e
def pB:PV->Option Bool
 | .at (.bl b)=>some b
 |_=>none
theorem wx {b:Bool}(h:pB x=some b):x = .at (.bl b):=by
 unfold pB at h;split at h
 ·cases h;rfl
 ·cases h
def dT (a:M):MB:=λε=>(a ε).bind pB
instance [sa:qq te a]:qO (Zx te) (dT a) where
 h:=λe _ _ _ _ _ rs _ q=>by
  obtain ⟨x,ex,e⟩:=bind_some e;cases wx e;exact sa.h ex rs λv Hs1 H1 x1 r1=>⟨_,u5 r1,q _ _ x1⟩
instance [sa:qq te a]:qO (tB te) (dT a) where
 h:=λe _ _ _ _ _ rs _ q=>by
  obtain ⟨x,ex,e⟩:=bind_some e;cases wx e;exact sa.h ex rs λv Hs1 H1 x1 r1=>⟨_,u5 r1,q _ _ x1⟩
def tTru (K:Fg)(ta:TE):TT:=λU H Q=>ta U H λx H'=>∃ k,TruV K x H' k/\Q k H'
def pTru:PV->Option Bool
 | .at .non=>some false
 | .at (.bl b)=>some b
 | .at (.int i)=>some (i != 0)
 | .at (.str y)=>if y.length<=lim then some ((y.length:Int) != 0) else none
 | .lst xs=>some (!xs.isEmpty)
 | .tup xs=>some (!xs.isEmpty)
 | .dk ks _=>some (!ks.isEmpty)
 |_=>none
def p7 (a:M):MB:=λε=>(a ε).bind pTru
theorem Reps.isEmpty (r:Reps H xs vs):vs.isEmpty=xs.isEmpty:=by have:=r.length;cases xs<;>cases vs<;>first|rfl|(simp at this)
instance [sa:qq te a]:qO (tTru K te) (p7 a) where
 h:=λe _ _ _ _ _ rs _ q=>by
  obtain ⟨x,ex,e⟩:=bind_some e;refine sa.h ex rs λv Hs1 H1 x1 r1=>?_;unfold pTru at e;split at e
  ·cases e;cases u5 r1;exact ⟨_,rfl,q _ _ x1⟩
  ·cases e;cases u5 r1;exact ⟨_,rfl,q _ _ x1⟩
  ·cases e;cases u5 r1;exact ⟨_,rfl,q _ _ x1⟩
  ·split at e
   ·rename_i hl;cases e;cases u5 r1;exact ⟨_,⟨zo hl,rfl⟩,q _ _ x1⟩
   ·cases e
  ·cases e;obtain ⟨p,vs,rfl,e1,r2⟩:=xg x1.s3 r1;exact ⟨_,.inl ⟨vs,SqL.of e1,by rw [r2.isEmpty]⟩,q _ _ x1⟩
  ·cases e;obtain ⟨p,vs,rfl,e1,r2⟩:=xZ x1.s3 r1;exact ⟨_,.inr (.inl ⟨vs,SqT.of e1,by rw [r2.isEmpty]⟩),q _ _ x1⟩
  ·cases e;obtain ⟨p,kvs,rfl,e1,k,r2⟩:=jc x1.s3 r1;refine ⟨_,.inr (.inr ⟨kvs,e1,?_⟩),q _ _ x1⟩;rw [<- k];cases kvs<;>rfl
  ·cases e
def jU (a b:MB):MB:=λε=>(a ε).bind λc=>if c=true then b ε else some false
def dOr (a b:MB):MB:=λε=>(a ε).bind λc=>if c=true then some true else b ε
def k6 (a:MB):MB:=λε=>(a ε).bind λc=>some (!c)
instance {u:TT}{a b:MB}[sa:qO t a][sb:qO u b]:qO (tAnd t u) (jU a b) where
 h:=λe _ _ _ _ _ rs _ q=>by
  obtain ⟨c,ex,e⟩:=bind_some e;refine sa.h ex rs λHs1 H1 x1=>?_;cases c with
  |true=>exact qb (sb.h e (rs.go x1) λHs2 H2 x2=>q _ _ (x1.trans x2))
  |false=>cases e;exact qf (q _ _ x1)
instance {u:TT}{a b:MB}[sa:qO t a][sb:qO u b]:qO (tOr t u) (dOr a b) where
 h:=λe _ _ _ _ _ rs _ q=>by
  obtain ⟨c,ex,e⟩:=bind_some e;refine sa.h ex rs λHs1 H1 x1=>?_;cases c with
  |true=>cases e;exact qb (q _ _ x1)
  |false=>exact qf (sb.h e (rs.go x1) λHs2 H2 x2=>q _ _ (x1.trans x2))
instance {a:MB}[sa:qO t a]:qO (tNot t) (k6 a) where
 h:=λe _ _ _ _ _ rs _ q=>by
  obtain ⟨c,ex,e⟩:=bind_some e;cases e;exact sa.h ex rs λHs1 H1 x1=>q _ _ x1
def xY (a b:M):M:=λε=>(a ε).bind λx=>(pB x).bind λc=>if c=true then b ε else some (.at (.bl false))
def ZX (a:M):M:=λε=>(a ε).bind λx=>(pB x).bind λc=>some (.at (.bl (!c)))
instance {t u:TE}[sa:SemE t a][sb:SemE u b]:SemE (Pm t u) (xY a b) where
 h:=λe _ _ _ _ _ rs _ q=>by
  obtain ⟨x,ex,e⟩:=bind_some e;obtain ⟨c,ec,e⟩:=bind_some e;cases wx ec;refine sa.h ex rs λv Hs1 H1 x1 r1=>⟨c,rep_at.mp r1,?_⟩;cases c with
  |true=>exact qb (sb.h e (rs.go x1) λw Hs2 H2 x2 r2=>q _ _ _ (x1.trans x2) r2)
  |false=>cases e;exact qf (q _ _ _ x1 (rep_at.mpr rfl))
instance {t:TE}[sa:qq t a]:SemE (Pu t) (ZX a) where
 h:=λe _ _ _ _ _ rs _ q=>by
  obtain ⟨x,ex,e⟩:=bind_some e;obtain ⟨c,ec,e⟩:=bind_some e;cases wx ec;cases e;exact sa.h ex rs λv Hs1 H1 x1 r1=>⟨c,u5 r1,q _ _ _ x1 (rep_at.mpr rfl)⟩
def dIf (c:MB)(a b:M):M:=λε=>(c ε).bind λk=>if k=true then a ε else b ε
instance {ta:TE}[sc:qO t c][sa:SemE ta a][sb:SemE tb b]:SemE (tIf t ta tb) (dIf c a b) where
 h:=λe _ _ _ _ _ rs _ q=>by
  obtain ⟨k,ex,e⟩:=bind_some e;refine sc.h ex rs λHs1 H1 x1=>?_;cases k with
  |true=>exact qb (sa.h e (rs.go x1) λw Hs2 H2 x2 r2=>q _ _ _ (x1.trans x2) r2)
  |false=>exact qf (sb.h e (rs.go x1) λw Hs2 H2 x2 r2=>q _ _ _ (x1.trans x2) r2)
def zM (g g':PV->PV->Option PV)(a b c:M):M:=λε=>(a ε).bind λx=>(b ε).bind λy=>(g x y).bind λz=>(pB z).bind λk=>if k=true then (c ε).bind λw=>g' y w else some (.at (.bl false))
instance {r':R2}{g g':PV->PV->Option PV}{ta tc:TE}{c:M}[sr:xy r g][sr':xy r' g'][sa:qq ta a][sb:qq tb b][sc:qq tc c]:SemE (YD r r' ta tb tc) (zM g g' a b c) where
 h:=λe _ _ _ _ _ rs _ q=>by
  obtain ⟨x,ex,e1⟩:=bind_some e;obtain ⟨y,ey,e2⟩:=bind_some e1;obtain ⟨z,ez,e3⟩:=bind_some e2;obtain ⟨k,ek,e4⟩:=bind_some e3;have ez':=wx ek;subst ez';refine sa.h ex rs λv Hs1 H1 x1 r1=>sb.h ey (rs.go x1) λw Hs2 H2 x2 r2=>sr.h ez x2.s3 (r1.ext x2) r2 λu Hs3 H3 x3 r3=>⟨k,rep_at.mp r3,?_⟩;cases k with
  |true=>obtain ⟨w',ew,e5⟩:=bind_some e4;exact qb (sc.h ew (((rs.go x1).go x2).go x3) λu' Hs4 H4 x4 r4=>sr'.h e5 x4.s3 ((r2.ext x3).ext x4) r4 λu'' Hs5 H5 x5 r5=>q _ _ _ (x1.trans (x2.trans (x3.trans (x4.trans x5)))) r5)
  |false=>cases e4;exact qf (q _ _ _ (x1.trans (x2.trans x3)) (rep_at.mpr rfl))
def w4 (m:List PV->Option PV):Sp:=λvs H Q _=>∃ Hs xs y,Same Hs H/\Reps Hs xs vs/\m xs=some y/\∀ v Hs' H',Ext Hs H Hs' H'->Rep Hs' y v->Q v H'
def spO (m:List PV->Option PV):Sp:=λvs H Q _=>∃ Hs xs y,Same Hs H/\Reps Hs xs vs/\m xs=some y/\∀ a Hs' H',Ext Hs H Hs' H'->H a=none->Hs' a=none->Top Hs' H' a y->Q (.ref a) H'
def x9 (m:List PV->Option PV)(as:MA):M:=λε=>(as ε).bind m
instance [sa:o6 ta as]:SemE (qL (w4 m) [] E ta) (x9 m as) where
 h:=λe _ _ _ _ _ rs _ q=>by
  obtain ⟨xs,ex,e1⟩:=bind_some e;refine sa.h ex rs λvs Hs1 H1 x1 r1=>⟨Hs1,xs,_,x1.s3,by rw [yO];exact r1,e1,λv Hs' H' x r=>q v _ _ (x1.trans x) r⟩
instance [sa:o6 ta as]:xo (qL (spO m) [] E ta) (x9 m as) where
 h:=λe _ _ _ _ _ rs _ q=>by
  obtain ⟨xs,ex,e1⟩:=bind_some e;refine sa.h ex rs λvs Hs1 H1 x1 r1=>⟨Hs1,xs,_,x1.s3,by rw [yO];exact r1,e1,λa Hs' H' x n n' r=>q a _ _ (x1.trans x) (x1.s2.free n) n' r⟩
def Vs (m:List PV->Option PV)(ds:List V)(as:MA):M:=λε=>(as ε).bind λxs=>m (xs++ds.map .at)
def u6 (C:Addr)(nm:Str)(m:List PV->Option PV)(a:M)(as:MA):M:=λε=>(a ε).bind λx=>match x with
 | .ob C' ns fs=>if C'=C/\nm∉ns then (as ε).bind λxs=>m (x::xs) else none
 |_=>none
theorem jw {fs:List (Str×V)}{f:Str}(h:f∉fs.map (·.1)):fs.lookup f=none:=by
 induction fs with
 |nil=>rfl
 |cons p r ih =>
  rw [yI] at h;rw [yg];have h1:(f==p.1)=false:=by rw [beq_eq_false_iff_ne];exact λe=>h (e▸yU)
  rw [h1];exact ih λz=>h (yS _ z)
theorem wc (h:u6 C nm m a as ε=some y):∃ ns fs xs,a ε=some (.ob C ns fs)/\nm∉ns/\as ε=some xs/\m (.ob C ns fs::xs)=some y:=by
 unfold u6 at h;obtain ⟨x,ex,h1⟩:=bind_some h;split at h1
 ·rename_i C' ns fs;split at h1
  ·rename_i hc;obtain ⟨xs,e2,h2⟩:=bind_some h1;obtain ⟨rfl,hn⟩:=hc;exact ⟨ns,fs,xs,ex,hn,e2,h2⟩
  ·cases h1
 ·cases h1
instance [so:SemE te a][sa:o6 ta as]:SemE (qi C nm (w4 m) [] E te ta) (u6 C nm m a as) where
 h:=λe _ _ _ _ _ rs _ q=>by
  obtain ⟨ns,fs,xs,ea,hn,e1,e2⟩:=wc e;refine so.h ea rs λv Hs1 H1 x1 r1=>?_;obtain ⟨p,dx,gs,rfl,hp,hk,hr⟩:=rep_ob.mp r1;refine ⟨p,dx,gs,rfl,x1.s3 _ _ hp,jw (by rw [hk];exact hn),sa.h e1 (rs.go x1) λvs Hs2 H2 x2 r2=>?_⟩;exact ⟨Hs2,_,_,x2.s3,by rw [yO];exact .cons (r1.mono x2.s1) r2,e2,λv Hs' H' x r=>q v _ _ (x1.trans (x2.trans x)) r⟩
instance [so:SemE te a][sa:o6 ta as]:xo (qi C nm (spO m) [] E te ta) (u6 C nm m a as) where
 h:=λe _ _ _ _ _ rs _ q=>by
  obtain ⟨ns,fs,xs,ea,hn,e1,e2⟩:=wc e;refine so.h ea rs λv Hs1 H1 x1 r1=>?_;obtain ⟨p,dx,gs,rfl,hp,hk,hr⟩:=rep_ob.mp r1;refine ⟨p,dx,gs,rfl,x1.s3 _ _ hp,jw (by rw [hk];exact hn),sa.h e1 (rs.go x1) λvs Hs2 H2 x2 r2=>?_⟩;exact ⟨Hs2,_,_,x2.s3,by rw [yO];exact .cons (r1.mono x2.s1) r2,e2,λv Hs' H' x n n' r=>q v _ _ (x1.trans (x2.trans x)) (x1.s2.free (x2.s2.free n)) n' r⟩
class vX (r:List V->Hp->VK->Prop)(g:List PV->Option PV):Prop where
 h:∀{xs z},g xs=some z->∀{Hs H:Hp}{vs:List V},Same Hs H->wW Hs H xs vs->∀{Q:VK},(∀ u Hs' H',Ext Hs H Hs' H'->Rep Hs' z u->Q u H')->r vs H Q
class Vi (r:List V->Hp->VK->Prop)(g:List PV->Option PV):Prop where
 h:∀{xs z},g xs=some z->∀{Hs H:Hp}{vs:List V},Same Hs H->wW Hs H xs vs->∀{Q:VK},(∀ a Hs' H',Ext Hs H Hs' H'->H a=none->Hs' a=none->Top Hs' H' a z->Q (.ref a) H')->r vs H Q
instance {r:List V->Hp->VK->Prop}{g:List PV->Option PV}[sr:vX r g][sa:Xr ta as]:SemE (tCB r ta) (x9 g as) where
 h:=λe _ _ _ _ _ rs _ q=>by
  obtain ⟨xs,ex,e1⟩:=bind_some e;exact sa.h ex rs λvs Hs1 H1 x1 r1=>sr.h e1 x1.s3 r1 λv Hs' H' x r=>q v _ _ (x1.trans x) r
instance {r:List V->Hp->VK->Prop}{g:List PV->Option PV}[sr:Vi r g][sa:Xr ta as]:xo (tCB r ta) (x9 g as) where
 h:=λe _ _ _ _ _ rs _ q=>by
  obtain ⟨xs,ex,e1⟩:=bind_some e;exact sa.h ex rs λvs Hs1 H1 x1 r1=>sr.h e1 x1.s3 r1 λv Hs' H' x n n' r=>q v _ _ (x1.trans x) (x1.s2.free n) n' r
theorem zx (h:wW Hs H [x] vs):∃ v,vs=[v]/\RepB Hs H x v:=by obtain ⟨v,r,rfl,a,b⟩:=h;cases (show r=[] from b);exact ⟨v,rfl,a⟩
theorem BR (h:wW Hs H [x,y] vs):∃ v w,vs=[v,w]/\RepB Hs H x v/\RepB Hs H y w:=by obtain ⟨v,r,rfl,a,b⟩:=h;obtain ⟨w,rfl,c⟩:=zx b;exact ⟨v,w,rfl,a,c⟩
inductive Out where
 |nx (ε:ME)|rt (y:PV)|bk (ε:ME)|ct (ε:ME)
abbrev MS:=ME->Option Out
def OutK (fr:Bool)(Hs0 H0:Hp)(D:qN):Out->Prop
 | .nx ε=>∀ Hs H U,RS Hs0 H0 Hs H U ε->D.nx U H
 | .bk ε=>∀ Hs H U,RS Hs0 H0 Hs H U ε->D.bk U H
 | .ct ε=>∀ Hs H U,RS Hs0 H0 Hs H U ε->D.ct U H
 | .rt y=>match fr with
  |true=>∀ a Hs H,Ext Hs0 H0 Hs H->H0 a=none->Hs a=none->Top Hs H a y->D.rt (.ref a) H
  |false=>∀ v Hs H,Ext Hs0 H0 Hs H->Rep Hs y v->D.rt v H
class o3 (fr:Bool)(ts:TS)(f:MS):Prop where
 h:∀{ε o},f ε=some o->∀{Hs0 H0 Hs H U},RS Hs0 H0 Hs H U ε->∀{D:qN},OutK fr Hs0 H0 D o->ts D U H
variable {fr:Bool}
def m9:MS:=λε=>some (.nx ε)
instance:o3 fr Zw m9 where
 h:=λe _ _ _ _ _ rs _ q=>by cases e;exact q _ _ _ rs
def y4 (a b:MS):MS:=λε=>(a ε).bind λo=>match o with
 | .nx ε'=>b ε'
 |o=>some o
instance {t u:TS}{a b:MS}[sa:o3 fr t a][sb:o3 fr u b]:o3 fr (tSeq t u) (y4 a b) where
 h:=λe _ _ _ _ _ rs D q=>by
  obtain ⟨o,eo,e1⟩:=bind_some e;refine sa.h eo rs ?_;cases o with
  |nx ε'=>exact λHs H U r=>sb.h e1 r q
  |rt y=>cases e1;exact q
  |bk ε'=>cases e1;exact q
  |ct ε'=>cases e1;exact q
def zc (a:M):MS:=λε=>(a ε).bind λ_=>some (.nx ε)
instance (priority:=100)[sa:qq te a]:o3 fr (xi te) (zc a) where
 h:=λe _ _ _ _ _ rs _ q=>by
  obtain ⟨x,ex,e1⟩:=bind_some e;cases e1;exact sa.h ex rs λv Hs1 H1 x1 r1=>q _ _ _ (rs.go x1)
def y8 (a:M):MS:=λε=>(a ε).bind λx=>some (.rt x)
instance [sa:SemE te a]:o3 false (vt te) (y8 a) where
 h:=λe _ _ _ _ _ rs _ q=>by
  obtain ⟨x,ex,e1⟩:=bind_some e;cases e1;exact sa.h ex rs λv Hs1 H1 x1 r1=>q _ _ _ (rs.ext.trans x1) r1
instance [sa:xo te a]:o3 true (vt te) (y8 a) where
 h:=λe _ _ _ _ _ rs _ q=>by
  obtain ⟨x,ex,e1⟩:=bind_some e;cases e1;exact sa.h ex rs λv Hs1 H1 x1 n n' r1=>q _ _ _ (rs.ext.trans x1) (rs.ext.s2.free n) n' r1
def oVar (i:Nat):M:=λε=>match ε[i]? with
 |some (.ow x)=>some x
 |_=>none
instance {i:Nat}:o3 true (vt (b9 i)) (y8 (oVar i)) where
 h:=λe _ _ _ _ _ rs _ q=>by
  obtain ⟨x,ex,e1⟩:=bind_some e;cases e1;unfold oVar at ex;split at ex
  ·rename_i y hy;cases ex;obtain ⟨a,ha,n0,n,t⟩:=rs.ow i _ hy;exact ⟨_,ha,q _ _ _ rs.ext n0 n t⟩
  ·cases ex
def p6 (c:MB)(a b:MS):MS:=λε=>(c ε).bind λk=>if k=true then a ε else b ε
instance {ta tb:TS}{a b:MS}[sc:qO t c][sa:o3 fr ta a][sb:o3 fr tb b]:o3 fr (vT t ta tb) (p6 c a b) where
 h:=λe _ _ _ _ _ rs _ q=>by
  obtain ⟨k,ex,e1⟩:=bind_some e;refine sc.h ex rs λHs1 H1 x1=>?_;cases k with
  |true=>exact qb (sa.h e1 (rs.go x1) q)
  |false=>exact qf (sb.h e1 (rs.go x1) q)
def o7:MS:=λ_=>none
instance:o3 fr Pt o7 where
 h:=λe=>by cases e
abbrev MG:=PV->ME->Option ME
variable{g:MG}
def But (ts:List Nat)(U σ':St):Prop:=σ'.length=U.length/\∀ j,j∉ts->σ'[j]?=U[j]?
theorem But.refl (U:St):But [] U U:=⟨rfl,λ_ _=>rfl⟩
theorem But.trans {a b:List Nat}{σ1 σ2:St}(x:But a U σ1)(y:But b σ1 σ2):But (a++b) U σ2 :=
 ⟨y.1.trans x.1,λj hj=>(y.2 j λz=>hj (yy.mpr (.inr z))).trans (x.2 j λz=>hj (yy.mpr (.inl z)))⟩
theorem But.wk (b:But ts U σ')(h:∀ i∈ts,U[i]?=some none):Wk U σ':=by refine ⟨b.1.symm,λi v e=>?_⟩;rw [b.2 i λz=>by rw [h i z] at e;cases e];exact e
class jP (tg:TG)(ts:outParam (List Nat))(g:MG):Prop where
 h:∀{x ε ε'},g x ε=some ε'->∀{Hs0 H0 Hs H U v},RS Hs0 H0 Hs H U ε->Rep Hs x v->∀{Q:St->Hp->Prop},(∀ σ',RS Hs0 H0 Hs H σ' ε'->But ts U σ'->Q σ' H)->tg v U H Q
class wX (tg:TGs)(ts:outParam (List Nat))(g:List PV->ME->Option ME):Prop where
 h:∀{xs ε ε'},g xs ε=some ε'->∀{Hs0 H0 Hs H U vs},RS Hs0 H0 Hs H U ε->Reps Hs xs vs->∀{Q:St->Hp->Prop},(∀ σ',RS Hs0 H0 Hs H σ' ε'->But ts U σ'->Q σ' H)->tg vs U H Q
def w5 (i:Nat):MG:=λx ε=>some (ε.set i (.sh x))
instance {i:Nat}:jP (qS i) [i] (w5 i) where
 h:=λe _ _ _ _ _ _ rs r _ q=>by
  cases e;exact q _ (rs.put r) ⟨yi,λj hj=>yo λz=>hj (by rw [<- z];exact yM.mpr rfl)⟩
def zp:List PV->ME->Option ME:=λxs ε=>match xs with
 |[]=>some ε
 |_=>none
def i0 (g:MG)(r:List PV->ME->Option ME):List PV->ME->Option ME:=λxs ε=>match xs with
 |x::xs=>(g x ε).bind (r xs)
 |_=>none
instance:wX gNil [] zp where
 h:=λ{xs ε ε'} e {_ _ _ _ _ _} rs r {_} q=>by
  unfold zp at e;split at e
  ·cases e;exact ⟨reps_nil.mp r,q _ rs (.refl _)⟩
  ·cases e
instance So {t:TG}{u:TGs}{a b:List Nat}{r:List PV->ME->Option ME}[sg:jP t a g][sr:wX u b r]:wX (Jk t u) (a++b) (i0 g r) where
 h:=λ{xs ε ε'} e {_ _ _ _ _ _} rs rr {_} q=>by
  unfold i0 at e;split at e
  ·obtain ⟨ε1,e1,e2⟩:=bind_some e;obtain ⟨v,w,rfl,r1,r2⟩:=reps_cons.mp rr;exact ⟨v,w,rfl,sg.h e1 rs r1 λσ1 rs1 b1=>sr.h e2 rs1 r2 λσ2 rs2 b2=>q _ rs2 (b1.trans b2)⟩
  ·cases e
instance (priority:=2000){i:Nat}{u:TGs}{b:List Nat}{r:List PV->ME->Option ME}[sr:wX u b r]:wX (Jk (qS i) u) (i::b) (i0 (w5 i) r) where
 h:=λe _ _ _ _ _ _ rs rr _ q=>(So (t:=qS i) (a:=[i]) (g:=w5 i)).h e rs rr q
def zr (n:Nat)(g:List PV->ME->Option ME):MG:=λx ε=>match x with
 | .tup xs=>if xs.length=n then g xs ε else none
 |_=>none
instance {t:TGs}{g:List PV->ME->Option ME}[sg:wX t ts g]:jP (gTup K n t) ts (zr n g) where
 h:=λ{x ε ε'} e {_ _ _ _ _ _} rs rr {_} q=>by
  unfold zr at e;split at e
  ·split at e
   ·rename_i hl;obtain ⟨a,vs,rfl,h,r⟩:=rep_tup.mp rr;exact ⟨a,vs,rfl,SqT.of (rs.sub _ _ h),by rw [r.length];exact hl,sg.h e rs r λσ' rs' b=>q _ rs' b⟩
   ·cases e
  ·cases e
def qk (i:Nat)(a:M):MS:=λε=>(a ε).bind λx=>some (.nx (ε.set i (.sh x)))
def Qr (i:Nat)(a:M):MS:=λε=>(a ε).bind λx=>some (.nx (ε.set i (.ow x)))
instance {i:Nat}[sa:SemE te a]:o3 fr (xS te (qS i)) (qk i a) where
 h:=λe _ _ _ _ _ rs _ q=>by
  obtain ⟨x,ex,e1⟩:=bind_some e;cases e1;exact sa.h ex rs λv Hs1 H1 x1 r1=>q _ _ _ ((rs.go x1).put r1)
instance {i:Nat}[sa:xo te a]:o3 fr (xS te (qS i)) (Qr i a) where
 h:=λe _ _ _ _ _ rs _ q=>by
  obtain ⟨x,ex,e1⟩:=bind_some e;cases e1;refine sa.h ex rs λp Hs1 H1 x1 n n' t=>q _ _ _ ((rs.go x1).putO ⟨rs.ext.s2.free n,n',t⟩ λj y hj z=>?_);obtain ⟨b,hb,_,_,tb⟩:=rs.ow j y hj;rw [z] at hb;injection hb with hb;injection hb with hb;injection hb with hb;subst hb;exact tb.there n
def pIp (g:Int->Int->Int):PV->PV->Option PV
 | .at (.int i),.at (.int j)=>some (.at (.int (g i j)))
 |_,_=>none
def Xw (i:Nat)(a:M):MS:=λε=>(a ε).bind λx=>match ε[i]? with
 |some (.ow (.lst xs))=>if xs.length<=lim then some (.nx (ε.set i (.ow (.lst (xs++[x]))))) else none
 |_=>none
instance {i:Nat}[sa:SemE te a]:o3 fr (xi (tBM K "list" Xd (b9 i) (o5 te qF))) (Xw i a) where
 h:=λe _ _ _ _ _ rs _ q=>by
  obtain ⟨x,ex,e1⟩:=bind_some e;split at e1
  ·rename_i xs hi;split at e1
   ·rename_i hl;cases e1;obtain ⟨p,hp,n0,n,vs,hv,rv⟩:=rs.ow i _ hi;refine ⟨_,hp,.inl ⟨rfl,vs,SqL.of hv⟩,sa.h ex rs λv Hs1 H1 x1 r1=>?_⟩;have hv1:=x1.s2 _ _ hv;refine ⟨p,vs,v,rfl,rfl,hv1,vL (by rw [rv.length];exact hl),q _ _ _ ((rs.go x1).change hi hp ⟨_,j9,(rv.mono x1.s1).append (.one r1)⟩)⟩
   ·cases e1
  ·cases e1
def dExtend (i:Nat)(a:M):MS:=λε=>(a ε).bind λx=>match x with
 | .lst ys=>(match ε[i]? with
  |some (.ow (.lst xs))=>if xs.length+ys.length<=lim then some (.nx (ε.set i (.ow (.lst (xs++ys))))) else none
  |_=>none)
 |_=>none
structure ItOk (J:It)(xs:List PV)(Hs:Hp):Prop where
 go:∀(i:Nat)(x:PV)(Hs1 H1:Hp),xs[i]?=some x->Same Hs Hs1->Same Hs1 H1->J.go i H1/\∀ v H2,J.yld i H1 v H2->∃ Hs2,Ext Hs1 H1 Hs2 H2/\Rep Hs2 x v
 stop:∀(Hs1 H1:Hp),Same Hs Hs1->Same Hs1 H1->J.stop xs.length H1
class zC (ti:TI)(f:MA):Prop where
 h:∀{ε xs},f ε=some xs->∀{Hs0 H0 Hs H U},RS Hs0 H0 Hs H U ε->∀{R:It->Hp->Prop},(∀ J Hs' H',Ext Hs H Hs' H'->ItOk J xs Hs'->R J H')->ti U H R
def t9 (a:M):MA:=λε=>(a ε).bind λx=>match x with
 | .lst xs=>some xs
 |_=>none
theorem Kv {a:Addr}(h:Hs a=some (.lst vs))(r:Reps Hs xs vs):ItOk (Itl K a) xs Hs where
 go:=λi x Hs1 H1 e g1 g2=>by
  obtain ⟨v,ev,rv⟩:=r.get e;refine ⟨⟨vs,v,SqL.of (g2 _ _ (g1 _ _ h)),ev⟩,λw H2 y=>?_⟩;obtain ⟨rfl,y⟩:=y;have z:=y vs (SqL.of (g2 _ _ (g1 _ _ h)));rw [ev] at z;cases z;exact ⟨Hs1,.refl g2,rv.mono g1⟩
 stop:=λHs1 H1 g1 g2=>⟨vs,SqL.of (g2 _ _ (g1 _ _ h)),by rw [r.length];exact yT _⟩
instance [sa:SemE te a]:zC (XI K te) (t9 a) where
 h:=λe _ _ _ _ _ rs _ q=>by
  obtain ⟨x,ex,e1⟩:=bind_some e;split at e1
  ·cases e1;refine sa.h ex rs λv Hs1 H1 x1 r1=>?_;obtain ⟨p,vs,rfl,hp,r⟩:=rep_lst.mp r1;exact ⟨p,rfl,⟨vs,SqL.of (x1.s3 _ _ hp)⟩,q _ _ _ x1 (Kv hp r)⟩
  ·cases e1
def jC (lo:Int)(n:Nat):List PV:=(List.range n).map λ(i:Nat)=> .at (.int (lo+i))
theorem Xe :(jC lo n).length=n:=by unfold jC;rw [yZ,List.length_range]
theorem Tj {i:Nat}(h:(jC lo n)[i]?=some x):i<n/\x = .at (.int (lo+i)):=by
 have hl:i<n:=by have:=(yk.mp h).1;rw [Xe] at this;exact this
 refine ⟨hl,?_⟩;unfold jC at h;rw [yK,List.getElem?_range hl] at h;cases h;rfl
theorem Ll :ItOk (Itr lo n) (jC lo n) Hs where
 go:=λi x Hs1 H1 e g1 g2=>by
  obtain ⟨hl,rfl⟩:=Tj e;refine ⟨hl,λv H2 y=>?_⟩;obtain ⟨rfl,rfl⟩:=y;exact ⟨Hs1,.refl g2,rep_at.mpr rfl⟩
 stop:=λHs1 H1 g1 g2=>by show n<=_;rw [Xe];exact yT _
def vJ (a:MA):MA:=λε=>(a ε).bind λxs=>match xs with
 |[.at (.int j)]=>if -(lim:Int)<=j/\j<=lim then some (jC 0 j.toNat) else none
 |_=>none
instance {a:MA}[sa:o6 ta a]:zC (Ko ta) (vJ a) where
 h:=λe _ _ _ _ _ rs _ q=>by
  obtain ⟨xs,ex,e1⟩:=bind_some e;split at e1
  ·rename_i j;split at e1
   ·rename_i hl;cases e1;refine sa.h ex rs λvs Hs1 H1 x1 r1=>?_;obtain ⟨v,r,rfl,p1,p2⟩:=reps_cons.mp r1;cases reps_nil.mp p2;cases rep_at.mp p1;have hlim:(lim:Int)=1000000:=rfl;exact ⟨j,rfl,by omega,by omega,q _ _ _ x1 Ll⟩
   ·cases e1
  ·cases e1
def xA (g:MG)(f:MS):List PV->ME->Option Out
 |[],ε=>some (.nx ε)
 |x::xs,ε=>(g x ε).bind λε1=>(f ε1).bind λo=>match o with
  | .nx ε2=>xA g f xs ε2
  | .ct ε2=>xA g f xs ε2
  | .bk ε2=>some (.nx ε2)
  | .rt y=>some (.rt y)
def Xy (i:MA)(g:MG)(f:MS):MS:=λε=>(i ε).bind λxs=>xA g f xs ε
theorem OutK.unbase {D:qN}(x:Ext Hs0 H0 Hb H):∀{o:Out},OutK fr Hs0 H0 D o->OutK fr Hb H0 D o
 | .nx _,h=>λHs H U r=>h _ _ _ (RS.unbase x r)
 | .bk _,h=>λHs H U r=>h _ _ _ (RS.unbase x r)
 | .ct _,h=>λHs H U r=>h _ _ _ (RS.unbase x r)
 | .rt _,h=>by
  cases fr with
  |true=>exact λa Hs H e n n' t=>h a Hs H (x.unbase e) n n' t
  |false=>exact λa Hs H e r=>h a Hs H (x.unbase e) r
instance {tb:TS}{i:MA}{f:MS}[si:zC wi i][sg:jP tg ts g][sf:o3 fr tb f]:o3 fr (tFor wi tg tb) (Xy i g f) where
 h:=λe Hs0 H0 _ _ _ rs D q=>by
  obtain ⟨xs,ex,e1⟩:=bind_some e;refine si.h ex rs λJ Hs1 H1 x1 ok=>?_;have rs1:=rs.go x1;have q1:=OutK.unbase rs1.ext q;refine ⟨λk m U H=>m=xs.length-k/\k<=xs.length/\∃ Hs ε,RS Hs1 H0 Hs H U ε/\xA g f (xs.drop k) ε=some _,⟨xs.length,by simp,yd _,Hs1,_,rs1.rebase,e1⟩,?_⟩;rintro k m U H ⟨rfl,hk,Hs,ε,r,el⟩;by_cases hlt:k<xs.length
  ·have hd:xs.drop k=xs[k]::xs.drop (k+1):=yj hlt;rw [hd] at el;unfold xA at el;obtain ⟨ε1,eg,el1⟩:=bind_some el;obtain ⟨o,eo,el2⟩:=bind_some el1;obtain ⟨go,yl⟩:=ok.go k xs[k] Hs H (by simp [hlt]) r.ext.s1 r.ext.s3;refine .inr ⟨go,λσ' H'=>k+1<=xs.length/\∃ Hs ε,RS Hs1 H0 Hs H' σ' ε/\xA g f (xs.drop (k+1)) ε=some _,λσ' H' p=>⟨xs.length-(k+1),by omega,rfl,p.1,p.2⟩,λv H2 y=>?_⟩;obtain ⟨Hs2,x2,r2⟩:=yl v H2 y;refine sg.h eg (r.go x2) r2 λσ2 rs2 _=>sf.h eo rs2 ?_;cases o with
   |nx ε2=>exact λHs3 H3 σ3 r3=>⟨hlt,Hs3,ε2,r3,el2⟩
   |ct ε2=>exact λHs3 H3 σ3 r3=>⟨hlt,Hs3,ε2,r3,el2⟩
   |bk ε2=>cases el2;exact q1
   |rt y=>cases el2;exact q1
  ·have ek:k=xs.length:=by omega
   subst ek;rw [uT] at el;unfold xA at el;cases el;exact .inl ⟨ok.stop Hs H r.ext.s1 r.ext.s3,q1 _ _ _ r⟩
def i4 (cap:List (Option Nat))(ε:ME):ME:=cap.map λo=>match o with
 |none=> .no
 |some i=>(ε[i]?).getD .no
def qP (g:MG)(c:MB)(f:M)(ε0:ME):List PV->Option (List PV)
 |[]=>some []
 |x::xs=>(g x ε0).bind λε1=>(c ε1).bind λb=>if b=true then (f ε1).bind λy=>(qP g c f ε0 xs).bind λys=>some (y::ys) else qP g c f ε0 xs
def c7:MB:=λ_=>some true
instance:qO tYes c7 where
 h:=λe _ _ _ _ _ rs _ q=>by cases e;exact q _ _ (.refl rs.sub)
def zE (cap:List (Option Nat))(ts:List Nat):Bool:=decide (cap.filterMap id).Nodup&&ts.all λi=>decide (cap[i]?=some none)
def t6 (cap:List (Option Nat))(ts:List Nat)(i:MA)(g:MG)(c:MB)(f:M):M:=λε=>(i ε).bind λxs=>if zE cap ts=true/\xs.length<=lim then (qP g c f (i4 cap ε) xs).bind λys=>some (.lst ys) else none
theorem RS.cap {cap:List (Option Nat)}(hc:(cap.filterMap id).Nodup)(r:RS Hs0 H0 Hs H U ε):RS Hs0 H0 Hs H (b8 cap U) (i4 cap ε):=by
 have inj:∀(i j k:Nat),cap[i]?=some (some k)->cap[j]?=some (some k)->i=j:=by
  clear r
  induction cap with
  |nil=>intro i j k h;simp at h
  |cons o cap ih =>
   intro i j k hi hj;have no:∀(l:Nat),o=some k->cap[l]?=some (some k)->False:=λl ho hl=>by
    subst ho;rw [List.filterMap_cons_some (by rfl)] at hc;exact (ym.mp hc).1 (ya.mpr ⟨some k,uC hl,rfl⟩)
   have hc':(cap.filterMap id).Nodup:=by
    cases o with
    |none=>rwa [List.filterMap_cons_none (by rfl)] at hc
    |some m=>rw [List.filterMap_cons_some (by rfl)] at hc;exact (ym.mp hc).2
   cases i with
   |zero =>
    cases j with
    |zero=>rfl
    |succ j=>exact (no j (by simpa using hi) (by simpa using hj)).elim
   |succ i =>
    cases j with
    |zero=>exact (no i (by simpa using hj) (by simpa using hi)).elim
    |succ j=>rw [ih hc' i j k (by simpa using hi) (by simpa using hj)]
 have at1:∀(i:Nat)(sl:MSlot),(i4 cap ε)[i]?=some sl->sl = .no∨∃ k,cap[i]?=some (some k)/\ε[k]?=some sl:=by
  intro i sl h;unfold i4 at h;rw [yK] at h;cases ho:cap[i]? with
  |none=>rw [ho] at h;cases h
  |some o =>
   rw [ho] at h;cases o with
   |none=>cases h;exact .inl rfl
   |some k =>
    cases hk:ε[k]? with
    |none=>simp only [uK,hk,Option.getD_none] at h;cases h;exact .inl rfl
    |some s=>simp only [uK,hk,Option.getD_some] at h;cases h;exact .inr ⟨k,rfl,hk⟩
 have at2:∀(i k:Nat),cap[i]?=some (some k)->∀ v,U[k]?=some (some v)->(b8 cap U)[i]?=some (some v):=by intro i k h v e;unfold b8;rw [yK,h];simp [e]
 have at3:∀(i k:Nat)(v:V),cap[i]?=some (some k)->(b8 cap U)[i]?=some (some v)->U[k]?=some (some v):=by
  intro i k v h e;unfold b8 at e;rw [yK,h] at e;simp only [uK,yG,Option.some.injEq] at e;cases hs:U[k]? with
  |none=>rw [hs] at e;cases e
  |some o=>rw [hs] at e;simp at e;rw [e]
 refine ⟨r.ext,λi x h=>?_,λi x h=>?_,λi j x y a h1 h2 h3 h4=>?_,by unfold b8 i4;rw [yZ,yZ],λi x h=>?_⟩
 ·rcases at1 i _ h with z|⟨k,hk,e⟩
  ·cases z
  ·obtain ⟨v,hv,rv⟩:=r.sh k x e;exact ⟨v,at2 i k hk v hv,rv⟩
 ·rcases at1 i _ h with z|⟨k,hk,e⟩
  ·cases z
  ·obtain ⟨v,hv,rv⟩:=r.ow k x e;exact ⟨v,at2 i k hk _ hv,rv⟩
 ·rcases at1 i _ h1 with z|⟨k,hk,e⟩
  ·cases z
  ·rcases at1 j _ h2 with z|⟨l,hl,e'⟩
   ·cases z
   ·have kl:=r.nd k l x y a e e' (at3 i k _ hk h3) (at3 j l _ hl h4);subst kl;exact inj i j k hk hl
 ·rcases at1 i _ h with z|⟨k,hk,e⟩
  ·cases z
  ·obtain ⟨v,hv,rv⟩:=r.bo k x e;exact ⟨v,at2 i k hk _ hv,rv⟩
theorem Reps.snoc (r:Reps H xs vs)(p:Rep H x v):Reps H (xs++[x]) (vs++[v]):=r.append (.one p)
instance {tt:TT}{cap:List (Option Nat)}{i:MA}{f:M}[si:zC wi i][sg:jP tg ts g][sc:qO tt c][sf:SemE te f]:xo (Xh wi tg tt te cap) (t6 cap ts i g c f) where
 h:=λe Hs0 H0 Hs H U rs Q q=>by
  obtain ⟨xs,ex,e1⟩:=bind_some e;split at e1
  ·rename_i hcl;obtain ⟨hcap,hl⟩:=hcl;unfold zE at hcap;rw [yn] at hcap;obtain ⟨ys,ey,e2⟩:=bind_some e1;cases e2;refine si.h ex rs λJ Hs1 H1 x1 ok=>?_;have rc:=((rs.go x1).cap (yf hcap.1)).rebase;have wk:∀ i∈ts,(b8 cap U)[i]?=some none:=λi hi=>by
    unfold b8;rw [yK,yf (uV.mp hcap.2 i hi)];rfl
   refine ⟨λk m zs H=>m=xs.length-k/\k<=xs.length/\∃ Hs2 ws,Ext Hs1 H1 Hs2 H/\RS Hs1 H0 Hs2 H (b8 cap U) (i4 cap _)/\Reps Hs2 ws zs/\ws.length<=k/\∃ rest,qP g c f (i4 cap _) (xs.drop k)=some rest/\ys=ws++rest,
    ⟨xs.length,by simp,yd _,Hs1,[],.refl x1.s3,rc,.nil,yT _,ys,ey,rfl⟩,?_⟩
   rintro k m zs H2 ⟨rfl,hk,Hs2,ws,x2,r2,rz,hw,rest,er,eys⟩;refine ⟨zo (by rw [rz.length];omega),?_⟩;by_cases hlt:k<xs.length
   ·have hd:xs.drop k=xs[k]::xs.drop (k+1):=yj hlt;rw [hd] at er;unfold qP at er;obtain ⟨ε1,eg,er1⟩:=bind_some er;obtain ⟨b,eb,er2⟩:=bind_some er1;obtain ⟨go,yl⟩:=ok.go k xs[k] Hs2 H2 (by simp [hlt]) x2.s1 x2.s3;refine .inr ⟨go,λv H3 y=>?_⟩;obtain ⟨Hs3,x3,r3⟩:=yl v H3 y;refine sg.h eg (r2.go x3) r3 λσ2 rs2 bt=>⟨bt.wk wk,sc.h eb rs2 λHs4 H4 x4=>?_⟩;cases b with
    |true =>
     rw [if_pos rfl] at er2;obtain ⟨z,ez,er3⟩:=bind_some er2;obtain ⟨rest',er4,er5⟩:=bind_some er3;cases er5;refine qb (sf.h ez (rs2.go x4) λu Hs5 H5 x5 r5=>⟨xs.length-(k+1),by omega,rfl,hlt,Hs5,ws++[z],x2.trans (x3.trans (x4.trans x5)),((r2.go x3).go x4).go x5,?_,?_,rest',er4,?_⟩)
     ·exact (rz.mono (x3.s1.trans (x4.s1.trans x5.s1))).snoc r5
     ·rw [yL];simp;omega
     ·rw [uX];exact eys
    |false=>rw [if_neg yR] at er2;exact qf ⟨xs.length-(k+1),by omega,rfl,hlt,Hs4,ws,x2.trans (x3.trans x4),(r2.go x3).go x4,rz.mono (x3.s1.trans x4.s1),by omega,rest,er2,eys⟩
   ·have ek:k=xs.length:=by omega
    subst ek;rw [uT] at er;unfold qP at er;cases er;refine .inl ⟨ok.stop Hs2 H2 x2.s1 x2.s3,λD hD=>?_⟩;rw [yO] at eys;subst eys;have x12:=x1.trans x2;exact q D Hs2 _ (x12.trans (.newO x2.s3 hD)) (x12.s2.free hD) (x2.s3.free hD) ⟨zs,j9,rz⟩
  ·cases e1
def u8 (n k:Nat)(f:MS):List PV->Option PV:=λxs=>if xs.length=k then (f (xs.map .sh++List.replicate (n-k) .no)).bind λo=>match o with
 | .rt y=>some y
 | .nx _=>some (.at .non)
 |_=>none else none
def jV (n k:Nat)(f:MS):List PV->Option PV:=λxs=>if xs.length=k then (f (xs.map .sh++List.replicate (n-k) .no)).bind λo=>match o with
 | .rt y=>some y
 |_=>none else none
end Mi
namespace Mi
open PySem PySem.Spec PyProof.Rows L2
variable{N ps:List Str}{qual x:Str}{st:Stmt}{f:Addr}{fd:FuncData}{b:MS}{m:List PV->Option PV}
theorem jD {Hs H:Hp}{xs:List PV}{vs:List V}(s:Same Hs H)(r:Reps Hs xs vs):RS Hs H Hs H (L2.start N vs) (xs.map .sh++List.replicate (N.length-xs.length) .no):=by
 have el:=r.length;have at1:∀(i:Nat)(sl:MSlot),(xs.map MSlot.sh++List.replicate (N.length-xs.length) .no)[i]?=some sl->sl = .no∨∃ x,xs[i]?=some x/\sl = .sh x:=by
  intro i sl h;by_cases hi:i<xs.length
  ·rw [uZ (by rw [yZ];exact hi),yK] at h;obtain ⟨x,hx,rfl⟩:=yx.mp h;exact .inr ⟨x,hx,rfl⟩
  ·rw [uQ (by rw [yZ];omega),uJ] at h;split at h
   ·cases h;exact .inl rfl
   ·cases h
 refine ⟨.refl s,λi x h=>?_,λi x h=>?_,λi j x y a h1 _ _ _=>?_,?_,λi x h=>?_⟩
 ·rcases at1 i _ h with z|⟨y,hy,z⟩
  ·cases z
  ·cases z;obtain ⟨v,hv,rv⟩:=r.get hy;refine ⟨v,?_,rv⟩;unfold L2.start;rw [uZ (by rw [yZ];exact (yk.mp hv).1),yK,hv];rfl
 ·rcases at1 i _ h with z|⟨y,hy,z⟩<;>cases z
 ·rcases at1 i _ h1 with z|⟨y,hy,z⟩<;>cases z
 ·unfold L2.start;rw [yL,yL,yZ,yZ,uF,uF,el]
 ·rcases at1 i _ h with z|⟨y,hy,z⟩<;>cases z
section
variable {P:Program}{w:World}{K:Fg}{mg:Str->Option Value}{base:Heap}
theorem qZ {k:Nat}(F:Fun K x qual st f fd)(S:v4 N ps (j3 st))(hm:m=u8 N.length ps.length b)(hb:∀(cdv:Value)(A:Around)(outer:List Env)(s:Shared)(H:Hp)(E:XK),Room k (A.deeper (envOfC qual (j3 st) s.heap.objs.size f cdv)) -> ∃ t,PSs (qr v5 P w K mg base N qual (j3 st) f cdv A outer s H E).nox (n9 st) t/\o3 false t b):FnOk P w K mg base v5 (k+1) f fd ps (w4 m):=by
 subst hm;refine F.ok S (λvs H Q E h=>?_) (λcdv A outer s H vs Q E hr h=>?_)
 ·obtain ⟨Hs,xs,y,_,r,e,_⟩:=h;unfold u8 at e;split at e
  ·rename_i hl;rw [r.length];exact hl
  ·cases e
 ·obtain ⟨Hs,xs,y,sm,r,e,q⟩:=h;obtain ⟨t,ht,sem⟩:=hb cdv A outer s H E hr;refine ⟨t,ht,?_⟩;unfold u8 at e;split at e
  ·rename_i hl;obtain ⟨o,eo,e1⟩:=bind_some e;refine sem.h eo (by rw [<- hl];exact jD sm r) ?_;cases o with
   |rt z=>cases e1;exact λv Hs' H' x rv=>q v Hs' H' x rv
   |nx ε=>cases e1;exact λHs' H' U rs=>q _ Hs' H' rs.ext (rep_at.mpr rfl)
   |bk ε=>cases e1
   |ct ε=>cases e1
  ·cases e
theorem okO {k:Nat}(F:Fun K x qual st f fd)(S:v4 N ps (j3 st))(hm:m=jV N.length ps.length b)(hb:∀(cdv:Value)(A:Around)(outer:List Env)(s:Shared)(H:Hp)(E:XK),Room k (A.deeper (envOfC qual (j3 st) s.heap.objs.size f cdv)) -> ∃ t,PSs (qr v5 P w K mg base N qual (j3 st) f cdv A outer s H E).nox (n9 st) t/\o3 true t b):FnOk P w K mg base v5 (k+1) f fd ps (spO m):=by
 subst hm;refine F.ok S (λvs H Q E h=>?_) (λcdv A outer s H vs Q E hr h=>?_)
 ·obtain ⟨Hs,xs,y,_,r,e,_⟩:=h;unfold jV at e;split at e
  ·rename_i hl;rw [r.length];exact hl
  ·cases e
 ·obtain ⟨Hs,xs,y,sm,r,e,q⟩:=h;obtain ⟨t,ht,sem⟩:=hb cdv A outer s H E hr;refine ⟨t,ht,?_⟩;unfold jV at e;split at e
  ·rename_i hl;obtain ⟨o,eo,e1⟩:=bind_some e;refine sem.h eo (by rw [<- hl];exact jD sm r) ?_;cases o with
   |rt z=>cases e1;exact λa Hs' H' x n n' t=>q a Hs' H' x n n' t
   |nx ε=>cases e1
   |bk ε=>cases e1
   |ct ε=>cases e1
  ·cases e
end
end Mi
namespace Mi
open PySem L2
variable{X:Cx}{K:Fg}{a:M}{ta:TA}{j:Int}{H H0 Hs Hs0:Hp}{xs ys:List PV}{x y:PV}{v:V}{vs ws:List V}{o:HO}{td te tv:TE}{f nm qual:Str}{tt:TT}{G g:MG}{t tb u:TS}{S:List Addr}{U σ':St}{ε ε':ME}{n:Nat}{E:XK}{pre:List PV->Prop}{R:List PV->PV->Prop}{as it:MA}{c:MB}{wi:TI}{tg:TG}{ts:List Nat}{N ns ps:List Str}{st:Stmt}{fd:FuncData}{m:List PV->Option PV}{C:Addr}{pos:Pos}{pl:Sem Bool}{α:Type}
theorem xI {a:Expr}{ta:TE}(h:X.K=K)(ha:PE X a ta)(he:∀ whole,isTrue a X.env whole=(do let v <- whole;standAt a.pos;holding [v] (truthy v))):PT X a (tTru K ta):=RL h ha he
abbrev xQ:PV->PV->Option PV:=pI λi j=>some (.int (i-j))
abbrev pLt:PV->PV->Option PV:=pI λi j=>some (.bl (decide (i<j)))
abbrev pLe:PV->PV->Option PV:=pI λi j=>some (.bl (decide (i<=j)))
abbrev pGt:PV->PV->Option PV:=pI λi j=>some (.bl (decide (j<i)))
abbrev pGe:PV->PV->Option PV:=pI λi j=>some (.bl (decide (j<=i)))
instance {i:Int}:Decidable (Xo i j):=by unfold Xo;infer_instance
instance {i:Int}:Decidable (vW i j):=by unfold vW;infer_instance
instance {i:Int}:Decidable (jm i j):=by unfold jm;infer_instance
abbrev pMul:PV->PV->Option PV:=pI λi j=>if Xo i j then some (.int (i*j)) else none
abbrev pDiv:PV->PV->Option PV:=pI λi j=>if vW i j then some (.int (i / j)) else none
abbrev pMod:PV->PV->Option PV:=pI λi j=>if 0<j then some (.int (i % j)) else none
abbrev pPow:PV->PV->Option PV:=pI λi j=>if jm i j then some (.int (i ^ j.toNat)) else none
abbrev wy:PV->Option PV:=pU λi=> .int (-i)
theorem Reps.nil_of (r:Reps H xs []):xs=[]:=uI.mp r.length.symm
def qv:PV->PV->Option PV
 | .at (.int i),.at (.int j)=>some (.at (.int (i+j)))
 | .at (.str x),.at (.str y)=>if x.length+y.length<=lim then some (.at (.str (x++y))) else none
 | .lst xs,.lst ys=>if xs.length+ys.length<=lim then some (.lst (xs++ys)) else none
 | .tup xs,.tup ys=>if xs≠[]/\xs.length+ys.length<=lim then some (.tup (xs++ys)) else none
 |_,_=>none
instance :xy (Wj K) qv where
 h:=λ{x y z} e {Hs H v w} s a b {Q} q=>by
  unfold qv at e;split at e
  ·cases e;exact .inl ⟨_,_,u5 a,u5 b,q _ _ _ (.refl s) (rep_at.mpr rfl)⟩
  ·split at e
   ·rename_i hl;cases e;exact .inr (.inl ⟨_,_,u5 a,u5 b,zo hl,q _ _ _ (.refl s) (rep_at.mpr rfl)⟩)
   ·cases e
  ·split at e
   ·rename_i hl;cases e;obtain ⟨p,vs,rfl,e1,r1⟩:=xg s a;obtain ⟨p',ws,rfl,e2,r2⟩:=xg s b;refine .inr (.inr (.inl ⟨p,p',vs,ws,rfl,rfl,SqL.of e1,SqL.of e2,zo (by rw [r1.length,r2.length];exact hl),λl hl=>?_⟩));exact q _ _ _ (.new s hl) (rep_lst.mpr ⟨l,_,rfl,j9,(r1.append r2).mono (Ext.new s hl).s1⟩)
   ·cases e
  ·split at e
   ·rename_i hl;cases e;obtain ⟨p,vs,rfl,e1,r1⟩:=xZ s a;obtain ⟨p',ws,rfl,e2,r2⟩:=xZ s b;have hn:vs≠[]:=λz=>by
     have h1:=r1.length;rw [z] at h1;exact hl.1 (uI.mp h1.symm)
    refine .inr (.inr (.inr ⟨p,p',vs,ws,rfl,rfl,SqT.of e1,SqT.of e2,hn,zo (by rw [r1.length,r2.length];exact hl.2),λz=>?_,λz l hl=>?_⟩))
    ·subst z;cases r2.nil_of;rw [yO] at q;rcases a with a|⟨_,_,_,t⟩
     ·exact q _ _ _ (.refl s) a
     ·exact t.elim
    ·exact q _ _ _ (.new s hl) (rep_tup.mpr ⟨l,_,rfl,j9,(r1.append r2).mono (Ext.new s hl).s1⟩)
   ·cases e
  ·cases e
def qD:List PV->Option PV
 |[.at (.str x)]=>if x.length<=lim then some (.at (.int x.length)) else none
 |[.lst xs]=>some (.at (.int xs.length))
 |[.tup xs]=>some (.at (.int xs.length))
 |[.dk ks _]=>some (.at (.int ks.length))
 |_=>none
instance :vX (rLen K) qD where
 h:=λ{xs z} e {Hs H vs} s r {Q} q=>by
  unfold qD at e;split at e
  ·split at e
   ·rename_i hl;cases e;obtain ⟨v,rfl,a⟩:=zx r;cases u5 a;exact .inl ⟨_,_,rfl,⟨zo hl,rfl⟩,q _ _ _ (.refl s) (rep_at.mpr rfl)⟩
   ·cases e
  ·cases e;obtain ⟨v,rfl,a⟩:=zx r;obtain ⟨p,ws,rfl,e1,r1⟩:=xg s a;exact .inl ⟨_,_,rfl,.inl ⟨ws,SqL.of e1,rfl⟩,q _ _ _ (.refl s) (rep_at.mpr (by rw [r1.length]))⟩
  ·cases e;obtain ⟨v,rfl,a⟩:=zx r;obtain ⟨p,ws,rfl,e1,r1⟩:=xZ s a;exact .inl ⟨_,_,rfl,.inr ⟨ws,SqT.of e1,rfl⟩,q _ _ _ (.refl s) (rep_at.mpr (by rw [r1.length]))⟩
  ·cases e;obtain ⟨v,rfl,a⟩:=zx r;obtain ⟨p,kvs,rfl,e1,k,r1⟩:=jc s a;exact .inr ⟨p,kvs,rfl,e1,q _ _ _ (.refl s) (rep_at.mpr (by rw [<- k,yZ]))⟩
  ·cases e
def vh:List PV->Option PV
 |[.lst xs]=>some (.lst xs)
 |[.tup xs]=>some (.lst xs)
 |_=>none
instance :Vi (BA K) vh where
 h:=λ{xs z} e {Hs H vs} s r {Q} q=>by
  unfold vh at e;split at e
  ·cases e;obtain ⟨v,rfl,a⟩:=zx r;obtain ⟨p,ws,rfl,e1,r1⟩:=xg s a;exact ⟨p,ws,rfl,.inl (SqL.of e1),λl hl=>q l _ _ (.newO s hl) hl (s.free hl) ⟨ws,j9,r1⟩⟩
  ·cases e;obtain ⟨v,rfl,a⟩:=zx r;obtain ⟨p,ws,rfl,e1,r1⟩:=xZ s a;exact ⟨p,ws,rfl,.inr (SqT.of e1),λl hl=>q l _ _ (.newO s hl) hl (s.free hl) ⟨ws,j9,r1⟩⟩
  ·cases e
def tyP:PV->Option String
 | .at .non=>some "NoneType"
 | .at (.bl _)=>some "bool"
 | .at (.int _)=>some "int"
 | .at (.str _)=>some "str"
 | .lst _=>some "list"
 | .tup _=>some "tuple"
 | .dk _ _=>some "dict"
 |_=>none
theorem SL {T:String}(s:Same Hs H)(r:RepB Hs H x v)(e:tyP x=some T):xX K H v (.type T):=by
 unfold tyP at e;split at e
 ·cases e;cases u5 r;exact .non
 ·cases e;cases u5 r;exact .bl _
 ·cases e;cases u5 r;exact .int _
 ·cases e;cases u5 r;exact .str _
 ·cases e;obtain ⟨p,ws,rfl,e1,r1⟩:=xg s r;exact .lst e1
 ·cases e;obtain ⟨p,ws,rfl,e1,r1⟩:=xZ s r;exact .tup e1
 ·cases e;obtain ⟨p,ws,rfl,e1,_⟩:=jc s r;exact .dK e1
 ·cases e
def o4:List PV->Option PV
 |[x,.at (.ty n)]=>(tyP x).bind λT=>(tyB T n).bind λb=>some (.at (.bl b))
 |_=>none
instance :vX (rIsi K) o4 where
 h:=λ{xs z} e {Hs H vs} s r {Q} q=>by
  unfold o4 at e;split at e
  ·obtain ⟨T,eT,e1⟩:=bind_some e;obtain ⟨b,eb,e2⟩:=bind_some e1;cases e2;obtain ⟨v,w,rfl,a,c⟩:=BR r;cases u5 c;exact ⟨v,_,T,b,rfl,SL s a eT,eb,q _ _ _ (.refl s) (rep_at.mpr rfl)⟩
  ·cases e
def bls:List PV->Option (List Bool)
 |[]=>some []
 | .at (.bl b)::xs=>(bls xs).map (b::·)
 |_::_=>none
theorem Gm:∀{xs:List PV}{bs:List Bool},bls xs=some bs->xs=bs.map λb=> .at (.bl b)
 |[],_,h=>by cases h;rfl
 |x::xs,bs,h=>by
  unfold bls at h;split at h
  ·rename_i heq;cases heq
  ·rename_i b ys heq;injection heq with h1 h2;obtain ⟨r,e,rfl⟩:=yx.mp h;subst h2;rw [h1,yI,Gm e]
  ·cases h
def jy:List PV->Option PV
 |[.lst xs]=>(bls xs).bind λbs=>some (.at (.bl (bs.all id)))
 |_=>none
instance :vX (Bu K) jy where
 h:=λ{xs z} e {Hs H vs} s r {Q} q=>by
  unfold jy at e;split at e
  ·obtain ⟨bs,eb,e1⟩:=bind_some e;cases e1;obtain ⟨v,rfl,a⟩:=zx r;obtain ⟨p,ws,rfl,e1,r1⟩:=xg s a;rw [Gm eb,show (bs.map λb=>PV.at (.bl b))=(bs.map V.bl).map .at by rw [yq];rfl] at r1;cases r1.ats;exact ⟨p,bs,rfl,SqL.of e1,q _ _ _ (.refl s) (rep_at.mpr rfl)⟩
  ·cases e
def pMin2:List PV->Option PV
 |[.at (.int i),.at (.int j)]=>some (.at (.int (if j<i then j else i)))
 |_=>none
def VX:List PV->Option PV
 |[.at (.int i),.at (.int j)]=>some (.at (.int (if j > i then j else i)))
 |_=>none
instance:vX BC VX where
 h:=λ{xs z} e {Hs H vs} s r {Q} q=>by
  unfold VX at e;split at e
  ·cases e;obtain ⟨v,w,rfl,a,b⟩:=BR r;cases u5 a;cases u5 b;exact ⟨_,_,rfl,q _ _ _ (.refl s) (rep_at.mpr rfl)⟩
  ·cases e
def wg:PV->Bool
 | .at .non=>true
 |_=>false
def XJ:PV->Bool
 | .op _=>true
 |_=>false
def Zd:PV->PV->Option PV:=λx y=>if wg y=true/\XJ x=false then some (.at (.bl (wg x))) else none
def Ze:PV->PV->Option PV:=λx y=>if wg y=true/\XJ x=false then some (.at (.bl (!wg x))) else none
theorem Jr (s:Same Hs H)(r:RepB Hs H x v)(ho:XJ x=false):decide (v = .non)=wg x:=by
 cases x with
 |«at» u=>cases u5 r;cases v<;>first|rfl|(exact yP (λz=>nomatch z))
 |tup xs=>obtain ⟨p,ws,rfl,_⟩:=xZ s r;exact yP (λz=>nomatch z)
 |lst xs=>obtain ⟨p,ws,rfl,_⟩:=xg s r;exact yP (λz=>nomatch z)
 |dk ks xs=>obtain ⟨p,ws,rfl,_⟩:=jc s r;exact yP (λz=>nomatch z)
 |dn fl ks xs=>obtain ⟨p,as,ws,rfl,_⟩:=Te s r;exact yP (λz=>nomatch z)
 |fn fl ks xs=>obtain ⟨p,o,as,ws,rfl,_⟩:=Tf s r;exact yP (λz=>nomatch z)
 |fk ks xs=>obtain ⟨p,o,ws,rfl,_⟩:=Zo s r;exact yP (λz=>nomatch z)
 |ob C ns xs=>obtain ⟨p,dx,ws,rfl,_⟩:=BP s r;exact yP (λz=>nomatch z)
 |op φ=>cases ho
instance:xy rIsN Zd where
 h:=λ{x y z} e {Hs H v w} s a b {Q} q=>by
  unfold Zd at e;split at e
  ·rename_i hy;cases e;have hb:XJ y=false:=by cases y<;>first|rfl|(exact absurd hy.1 (by simp [wg]))
   refine ⟨yf ((Jr s b hb).trans hy.1),?_⟩;rw [Jr s a hy.2];exact q _ _ _ (.refl s) (rep_at.mpr rfl)
  ·cases e
instance:xy BE Ze where
 h:=λ{x y z} e {Hs H v w} s a b {Q} q=>by
  unfold Ze at e;split at e
  ·rename_i hy;cases e;have hb:XJ y=false:=by cases y<;>first|rfl|(exact absurd hy.1 (by simp [wg]))
   refine ⟨yf ((Jr s b hb).trans hy.1),?_⟩;rw [Jr s a hy.2];exact q _ _ _ (.refl s) (rep_at.mpr rfl)
  ·cases e
def jb (f:PV->PV->Option Bool):List PV->List PV->Option Bool
 |x::xs,y::ys=>(f x y).bind λa=>(jb f xs ys).bind λb=>some (a&&b)
 |_,_=>some true
def peq0:PV->PV->Option Bool
 | .at u,.at v=>if u4 u=true/\u4 v=true then some (qQ u v) else none
 |_,_=>none
def peq1 (f:PV->PV->Option Bool):PV->PV->Option Bool
 | .at u,.at v=>if u4 u=true/\u4 v=true then some (qQ u v) else none
 | .lst xs,.lst ys=>if xs.length=ys.length then jb f xs ys else some false
 | .tup xs,.tup ys=>(jb f xs ys).bind λb=>some (b&&xs.length==ys.length)
 | .lst _,.tup _=>some false
 | .tup _,.lst _=>some false
 | .at u,.lst _=>if u4 u=true then some false else none
 | .at u,.tup _=>if u4 u=true then some false else none
 | .lst _,.at u=>if u4 u=true then some false else none
 | .tup _,.at u=>if u4 u=true then some false else none
 |_,_=>none
def peq:Nat->PV->PV->Option Bool
 |0=>peq0
 |n+1=>peq1 (peq n)
theorem Wd {K:Fg}{Hs H:Hp}{n:Nat}(s:Same Hs H)(ih:∀{x y:PV}{v w:V}{b:Bool},peq n x y=some b->Rep Hs x v->Rep Hs y w->EqP K H n v w b):∀{xs ys:List PV}{vs ws:List V}{b:Bool},jb (peq n) xs ys=some b->Reps Hs xs vs->Reps Hs ys ws->∃ e:Nat->Bool,(∀ j (h1:j<vs.length) (h2:j<ws.length),EqP K H n vs[j] ws[j] (e j))/\b=(List.range (min vs.length ws.length)).all e
 |[],ys,vs,ws,b,h,r1,r2=>by
  cases reps_nil.mp r1;unfold jb at h;cases h;exact ⟨λ_=>true,λj h1=>absurd h1 (Nat.not_lt_zero _),by simp⟩
 |x::xs,[],vs,ws,b,h,r1,r2=>by
  cases reps_nil.mp r2;unfold jb at h;cases h;exact ⟨λ_=>true,λj h1 h2=>absurd h2 (Nat.not_lt_zero _),by simp⟩
 |x::xs,y::ys,vs,ws,b,h,r1,r2=>by
  obtain ⟨v,vr,rfl,p1,q1⟩:=reps_cons.mp r1;obtain ⟨w,wr,rfl,p2,q2⟩:=reps_cons.mp r2;unfold jb at h;obtain ⟨a,ea,h1⟩:=bind_some h;obtain ⟨c,ec,h2⟩:=bind_some h1;cases h2;obtain ⟨e,he,hb⟩:=Wd s ih ec q1 q2;refine ⟨λj=>match j with|0=>a|j+1=>e j,λj h1 h2=>?_,?_⟩
  ·cases j with
   |zero=>exact ih ea p1 p2
   |succ j=>exact he j (by simpa using h1) (by simpa using h2)
  ·rw [yH,yH,Nat.succ_min_succ,List.range_succ_eq_map,List.all_cons,List.all_map,hb];rfl
theorem Wc {K:Fg}{Hs H:Hp}(s:Same Hs H):∀(n:Nat){x y:PV}{v w:V}{b:Bool},peq n x y=some b->RepB Hs H x v->RepB Hs H y w->EqP K H n v w b
 |0,x,y,v,w,b,h,r1,r2=>by
  unfold peq peq0 at h;split at h
  ·split at h
   ·rename_i hf;cases h;cases u5 r1;cases u5 r2;exact ⟨hf.1,hf.2,rfl⟩
   ·cases h
  ·cases h
 |n+1,x,y,v,w,b,h,r1,r2=>by
  have ih:∀{x y:PV}{v w:V}{b:Bool},peq n x y=some b->Rep Hs x v->Rep Hs y w->EqP K H n v w b:=λh r1 r2=>Wc s n h (.inl r1) (.inl r2);unfold peq peq1 at h;split at h
  ·split at h
   ·rename_i hf;cases h;cases u5 r1;cases u5 r2;exact .inl ⟨hf.1,hf.2,rfl⟩
   ·cases h
  ·obtain ⟨a,vs,rfl,e1,q1⟩:=xg s r1;obtain ⟨c,ws,rfl,e2,q2⟩:=xg s r2;refine .inr (.inl ⟨a,c,vs,ws,rfl,rfl,SqL.of e1,SqL.of e2,?_⟩);split at h
   ·rename_i hl;obtain ⟨e,he,hb⟩:=Wd s ih h q1 q2;have hl':vs.length=ws.length:=by rw [q1.length,q2.length,hl]
    exact .inr ⟨hl',e,he,by rw [hb,<- hl',Nat.min_self]⟩
   ·rename_i hl;cases h;exact .inl ⟨by rw [q1.length,q2.length];exact hl,rfl⟩
  ·obtain ⟨a,vs,rfl,e1,q1⟩:=xZ s r1;obtain ⟨c,ws,rfl,e2,q2⟩:=xZ s r2;obtain ⟨d,ed,h1⟩:=bind_some h;cases h1;obtain ⟨e,he,hb⟩:=Wd s ih ed q1 q2;exact .inr (.inr (.inl ⟨a,c,vs,ws,rfl,rfl,SqT.of e1,SqT.of e2,e,he,by rw [hb,q1.length,q2.length]⟩))
  ·cases h;obtain ⟨a,vs,rfl,e1,q1⟩:=xg s r1;obtain ⟨c,ws,rfl,e2,q2⟩:=xZ s r2;exact .inr (.inr (.inr (.inl ⟨a,c,vs,ws,rfl,rfl,SqL.of e1,SqT.of e2,rfl⟩)))
  ·cases h;obtain ⟨a,vs,rfl,e1,q1⟩:=xZ s r1;obtain ⟨c,ws,rfl,e2,q2⟩:=xg s r2;exact .inr (.inr (.inr (.inr (.inl ⟨a,c,vs,ws,rfl,rfl,SqT.of e1,SqL.of e2,rfl⟩))))
  ·split at h
   ·rename_i hf;cases h;cases u5 r1;obtain ⟨c,ws,rfl,e2,q2⟩:=xg s r2;exact .inr (.inr (.inr (.inr (.inr (.inl ⟨c,ws,hf,rfl,.inl (SqL.of e2),rfl⟩)))))
   ·cases h
  ·split at h
   ·rename_i hf;cases h;cases u5 r1;obtain ⟨c,ws,rfl,e2,q2⟩:=xZ s r2;exact .inr (.inr (.inr (.inr (.inr (.inl ⟨c,ws,hf,rfl,.inr (SqT.of e2),rfl⟩)))))
   ·cases h
  ·split at h
   ·rename_i hf;cases h;cases u5 r2;obtain ⟨c,ws,rfl,e2,q2⟩:=xg s r1;exact .inr (.inr (.inr (.inr (.inr (.inr ⟨c,ws,hf,rfl,.inl (SqL.of e2),rfl⟩)))))
   ·cases h
  ·split at h
   ·rename_i hf;cases h;cases u5 r2;obtain ⟨c,ws,rfl,e2,q2⟩:=xZ s r1;exact .inr (.inr (.inr (.inr (.inr (.inr ⟨c,ws,hf,rfl,.inr (SqT.of e2),rfl⟩)))))
   ·cases h
  ·cases h
def pEq:PV->PV->Option PV:=λx y=>(peq 6 x y).bind λb=>some (.at (.bl b))
def pNe:PV->PV->Option PV:=λx y=>(peq 6 x y).bind λb=>some (.at (.bl (!b)))
instance :xy (rEqD K 6 false) pEq where
 h:=λ{x y z} e {Hs H v w} s a b {Q} q=>by
  obtain ⟨c,ec,e1⟩:=bind_some e;cases e1;exact ⟨c,Wc s 6 ec a b,q _ _ _ (.refl s) (rep_at.mpr rfl)⟩
instance :xy (rEqD K 6 true) pNe where
 h:=λ{x y z} e {Hs H v w} s a b {Q} q=>by
  obtain ⟨c,ec,e1⟩:=bind_some e;cases e1;exact ⟨c,Wc s 6 ec a b,q _ _ _ (.refl s) (rep_at.mpr rfl)⟩
def ze (n:Nat):List PV->List PV
 |[]=>[]
 |x::xs=> .tup [.at (.int n),x]::ze (n+1) xs
theorem GP:∀{xs:List PV}{n i:Nat}{z:PV},(ze n xs)[i]?=some z->∃ x,xs[i]?=some x/\z = .tup [.at (.int ((n+i:Nat):Int)),x]
 |[],n,i,z,h=>by simp [ze] at h
 |x::xs,n,0,z,h=>by simp [ze] at h;exact ⟨x,rfl,h.symm⟩
 |x::xs,n,i+1,z,h=>by
  obtain ⟨y,h1,h2⟩:=GP (xs:=xs) (n:=n+1) (i:=i) (z:=z) (by simpa [ze] using h);exact ⟨y,by simpa using h1,by rw [h2,show n+1+i=n+(i+1) by omega]⟩
theorem Vu:∀{xs:List PV}{n:Nat},(ze n xs).length=xs.length
 |[],_=>rfl
 |x::xs,n=>by simp [ze,Vu]
theorem Lj {a:Addr}(h:Hs a=some (.lst vs))(r:Reps Hs xs vs):ItOk (Ite K a) (ze 0 xs) Hs where
 go:=λi x Hs1 H1 e g1 g2=>by
  obtain ⟨y,ey,rfl⟩:=GP e;obtain ⟨v,ev,rv⟩:=r.get ey;refine ⟨⟨vs,v,SqL.of (g2 _ _ (g1 _ _ h)),ev⟩,λw H2 z=>?_⟩;obtain ⟨p,u,hp,rfl,rfl,hu⟩:=z;have e1:=hu vs (SqL.of (g2 _ _ (g1 _ _ h)));rw [ev] at e1;cases e1;refine ⟨_,.new g2 hp,rep_tup.mpr ⟨p,_,rfl,j9,.cons (rep_at.mpr (by rw [Nat.zero_add])) (.one (rv.mono (g1.trans (Ext.new g2 hp).s1)))⟩⟩
 stop:=λHs1 H1 g1 g2=>⟨vs,SqL.of (g2 _ _ (g1 _ _ h)),by rw [r.length,Vu];exact yT _⟩
def ZV (a:MA):MA:=λε=>(a ε).bind λxs=>match xs with
 |[.lst ys]=>some (ze 0 ys)
 |_=>none
instance {a:MA}[sa:o6 ta a]:zC (VH K ta) (ZV a) where
 h:=λe _ _ _ _ _ rs _ q=>by
  obtain ⟨xs,ex,e1⟩:=bind_some e;split at e1
  ·cases e1;refine sa.h ex rs λvs Hs1 H1 x1 r1=>?_;obtain ⟨v,r,rfl,p1,p2⟩:=reps_cons.mp r1;cases reps_nil.mp p2;obtain ⟨p,ws,rfl,hp,rw⟩:=rep_lst.mp p1;exact ⟨p,rfl,⟨ws,SqL.of (x1.s3 _ _ hp)⟩,q _ _ _ x1 (Lj hp rw)⟩
  ·cases e1
def xV:List PV->List PV->List PV
 |x::xs,y::ys=> .tup [x,y]::xV xs ys
 |_,_=>[]
theorem Cv:∀{xs ys:List PV}{i:Nat}{z:PV},(xV xs ys)[i]?=some z->∃ x y,xs[i]?=some x/\ys[i]?=some y/\z = .tup [x,y]
 |[],_,i,z,h=>by simp [xV] at h
 |_::_,[],i,z,h=>by simp [xV] at h
 |x::xs,y::ys,0,z,h=>by simp [xV] at h;exact ⟨x,y,rfl,rfl,h.symm⟩
 |x::xs,y::ys,i+1,z,h=>by
  obtain ⟨u,v,h1,h2,h3⟩:=Cv (xs:=xs) (ys:=ys) (i:=i) (z:=z) (by simpa [xV] using h);exact ⟨u,v,by simpa using h1,by simpa using h2,h3⟩
theorem Cw:∀{xs ys:List PV},(xV xs ys).length=min xs.length ys.length
 |[],_=>by simp [xV]
 |_::_,[]=>by simp [xV]
 |x::xs,y::ys=>by simp [xV,Cw,Nat.succ_min_succ]
theorem Lo {a b:Addr}(h:Hs a=some (.lst vs))(r:Reps Hs xs vs)(h':Hs b=some (.lst ws))(r':Reps Hs ys ws):ItOk (Itz K a b) (xV xs ys) Hs where
 go:=λi x Hs1 H1 e g1 g2=>by
  obtain ⟨y,z,ey,ez,rfl⟩:=Cv e;obtain ⟨v,ev,rv⟩:=r.get ey;obtain ⟨w,ew,rw⟩:=r'.get ez;have q1:SqL K H1 a vs:=SqL.of (g2 _ _ (g1 _ _ h));have q2:SqL K H1 b ws:=SqL.of (g2 _ _ (g1 _ _ h'));refine ⟨⟨vs,ws,v,w,q1,q2,ev,ew⟩,λu H2 z=>?_⟩;obtain ⟨p,v',w',hp,rfl,rfl,hv,hw⟩:=z;have e1:=hv vs q1;have e2:=hw ws q2;rw [ev] at e1;rw [ew] at e2;cases e1;cases e2;have g3:=g1.trans (Ext.new (o:= .tup [v,w]) g2 hp).s1;exact ⟨_,.new g2 hp,rep_tup.mpr ⟨p,_,rfl,j9,.cons (rv.mono g3) (.one (rw.mono g3))⟩⟩
 stop:=λHs1 H1 g1 g2=>⟨vs,ws,SqL.of (g2 _ _ (g1 _ _ h)),SqL.of (g2 _ _ (g1 _ _ h')),by rw [r.length,r'.length,Cw];omega⟩
def dZip (a:MA):MA:=λε=>(a ε).bind λxs=>match xs with
 |[.lst ys,.lst zs]=>some (xV ys zs)
 |_=>none
instance {a:MA}[sa:o6 ta a]:zC (iZip K ta) (dZip a) where
 h:=λe _ _ _ _ _ rs _ q=>by
  obtain ⟨xs,ex,e1⟩:=bind_some e;split at e1
  ·cases e1;refine sa.h ex rs λvs Hs1 H1 x1 r1=>?_;obtain ⟨v,r,rfl,p1,p2⟩:=reps_cons.mp r1;obtain ⟨v',r',rfl,p3,p4⟩:=reps_cons.mp p2;cases reps_nil.mp p4;obtain ⟨p,ws,rfl,hp,rw1⟩:=rep_lst.mp p1;obtain ⟨p',ws',rfl,hp',rw2⟩:=rep_lst.mp p3;exact ⟨p,p',rfl,⟨ws,SqL.of (x1.s3 _ _ hp)⟩,⟨ws',SqL.of (x1.s3 _ _ hp')⟩,q _ _ _ x1 (Lo hp rw1 hp' rw2)⟩
  ·cases e1
structure RD (S:List Addr)(Hs0 H0 Hs H:Hp)(U:St)(ε:ME):Prop where
 s1:Same Hs0 Hs
 s2:∀ b o,H0 b=some o->b∉S->H b=some o
 s3:Same Hs H
 s4:∀ b,H0 b≠none->Hs0 b=none->Hs b=none
 sh:∀(i:Nat)(x:PV),ε[i]?=some (.sh x)->∃ v,U[i]?=some (some v)/\Rep Hs x v
 ow:∀(i:Nat)(x:PV),ε[i]?=some (.ow x)->∃ a,U[i]?=some (some (.ref a))/\(H0 a=none∨a∈S)/\Hs a=none/\Top Hs H a x
 nd:∀(i j:Nat)(x y:PV)(a:Addr),ε[i]?=some (.ow x)->ε[j]?=some (.ow y)->U[i]?=some (some (.ref a))->U[j]?=some (some (.ref a))->i=j
 len:U.length=ε.length
 pin:∀ a∈S,U[0]?=some (some (.ref a))
 live:∀ a∈S,H a≠none
 str:∀ a∈S,∃ y,ε[0]?=some (.ow y)
 nb:∀(i:Nat)(x:PV),ε[i]?≠some (.bo x)
section
variable {S:List Addr}{Hs0 H0 Hs H Hs' H':Hp}{U:St}{ε:ME}
theorem RD.rs (r:RD S Hs0 H0 Hs H U ε):RS Hs Hs Hs H U ε where
 ext:=⟨.refl _,r.s3,r.s3,λ_ h z=>absurd z h⟩
 sh:=r.sh
 ow:=λi x h=>by obtain ⟨a,h1,_,h3,h4⟩:=r.ow i x h;exact ⟨a,h1,h3,h3,h4⟩
 nd:=r.nd
 len:=r.len
 bo:=λi x h=>absurd h (r.nb i x)
theorem RD.there (r:RD S Hs0 H0 Hs H U ε){b:Addr}(h:H0 b≠none):H b≠none:=by
 by_cases hS:b∈S
 ·exact r.live b hS
 ·cases q:H0 b with
  |none=>exact absurd q h
  |some o=>rw [r.s2 b o q hS];exact λz=>nomatch z
theorem RD.go (r:RD S Hs0 H0 Hs H U ε)(e:Ext Hs H Hs' H'):RD S Hs0 H0 Hs' H' U ε where
 s1:=r.s1.trans e.s1
 s2:=λb o h n=>e.s2 _ _ (r.s2 b o h n)
 s3:=e.s3
 s4:=λb h z=>e.s4 b (r.there h) (r.s4 b h z)
 sh:=λi x q=>by obtain ⟨v,a,b⟩:=r.sh i x q;exact ⟨v,a,b.mono e.s1⟩
 ow:=λi x q=>by
  obtain ⟨a,b,n0,n,t⟩:=r.ow i x q;exact ⟨a,b,n0,e.s4 a t.there n,t.mono e.s1 λo z=>e.s2 _ _ z⟩
 nd:=r.nd
 len:=r.len
 pin:=r.pin
 live:=λa h=>Zr e.s2 (r.live a h)
 str:=r.str
 nb:=r.nb
theorem RD.change (r:RD S Hs0 H0 Hs H U ε){i:Nat}{a:Addr}(hi:ε[i]?=some (.ow x))(ha:U[i]?=some (some (.ref a)))(t:Top Hs (z7 H a o) a y):RD S Hs0 H0 Hs (z7 H a o) U (ε.set i (.ow y)):=by
 obtain ⟨b,hb,n0,n,tx⟩:=r.ow i x hi;rw [ha] at hb;injection hb with hb;injection hb with hb;injection hb with hb;subst hb;have q:=(r.rs).change hi ha t;refine ⟨r.s1,λb u e hS=>?_,λb u e=>?_,r.s4,q.sh,λj z hz=>?_,q.nd,q.len,r.pin,λb hS=>?_,λb hS=>?_,QO r.nb λ_ z=>nomatch z⟩
 ·have hne:b≠a:=λz=>by
   rcases n0 with n0|n0
   ·rw [z,n0] at e;cases e
   ·exact hS (z▸n0)
  rw [z6 hne];exact r.s2 b u e hS
 ·rw [z6 (y0 e n)];exact r.s3 _ _ e
 ·obtain ⟨c,hc,m1,m2,tc⟩:=q.ow j z hz;refine ⟨c,hc,?_,m2,tc⟩;rw [yB] at hz;split at hz
  ·rename_i hij;rw [<- hij,ha] at hc;injection hc with hc;injection hc with hc;injection hc with hc;rw [<- hc];exact n0
  ·obtain ⟨d,hd,m0,_⟩:=r.ow j z hz;rw [hd] at hc;injection hc with hc;injection hc with hc;injection hc with hc;rw [<- hc];exact m0
 ·by_cases hba:b=a
  ·rw [hba,j9];exact λz=>nomatch z
  ·rw [z6 hba];exact r.live b hS
 ·obtain ⟨y',hy⟩:=r.str b hS;rw [yB];split
  ·rename_i h0;rw [if_pos (by rw [h0];exact (yk.mp hy).1)];exact ⟨y,rfl⟩
  ·exact ⟨y',hy⟩
theorem RD.put (r:RD S Hs0 H0 Hs H U ε){i:Nat}(h:Rep Hs x v):RD S Hs0 H0 Hs H (U.set (i+1) (some v)) (ε.set (i+1) (.sh x)):=by
 have q:=(r.rs).put (i:=i+1) h;refine ⟨r.s1,r.s2,r.s3,r.s4,q.sh,λj z hz=>?_,q.nd,q.len,λa hS=>by rw [yo (by omega)];exact r.pin a hS,r.live,λa hS=>by rw [yo (by omega)];exact r.str a hS,QO r.nb λ_ z=>nomatch z⟩;obtain ⟨c,hc,m1,m2,tc⟩:=q.ow j z hz;refine ⟨c,hc,?_,m2,tc⟩;rw [yB] at hz hc;split at hz
 ·split at hz<;>cases hz
 ·rename_i hij;rw [if_neg hij] at hc;obtain ⟨d,hd,m0,_⟩:=r.ow j z hz;rw [hd] at hc;injection hc with hc;injection hc with hc;injection hc with hc;rw [<- hc];exact m0
theorem RD.putO (r:RD S Hs0 H0 Hs H U ε){i:Nat}{a:Addr}(h0:H0 a=none∨a∈S)(h1:Hs a=none)(h2:Top Hs H a x)(ne:∀(j:Nat)(y:PV),ε[j]?=some (.ow y)->U[j]?≠some (some (.ref a))):RD S Hs0 H0 Hs H (U.set (i+1) (some (.ref a))) (ε.set (i+1) (.ow x)):=by
 have q:=(r.rs).putO (i:=i+1) ⟨h1,h1,h2⟩ ne;refine ⟨r.s1,r.s2,r.s3,r.s4,q.sh,λj z hz=>?_,q.nd,q.len,λa hS=>by rw [yo (by omega)];exact r.pin a hS,r.live,λa hS=>by rw [yo (by omega)];exact r.str a hS,QO r.nb λ_ z=>nomatch z⟩;obtain ⟨c,hc,m1,m2,tc⟩:=q.ow j z hz;refine ⟨c,hc,?_,m2,tc⟩;rw [yB] at hz hc;split at hz
 ·rename_i hij;rw [if_pos hij] at hc;split at hc
  ·injection hc with hc;injection hc with hc;injection hc with hc;rw [<- hc];exact h0
  ·cases hc
 ·rename_i hij;rw [if_neg hij] at hc;obtain ⟨d,hd,m0,_⟩:=r.ow j z hz;rw [hd] at hc;injection hc with hc;injection hc with hc;injection hc with hc;rw [<- hc];exact m0
theorem RD.free0 (r:RD S Hs0 H0 Hs H U ε){a:Addr}(h:H a=none):H0 a=none:=by
 cases q:H0 a with
 |none=>rfl
 |some o=>exact absurd h (r.there (by rw [q];exact λz=>nomatch z))
theorem RD.freeze (r:RD S Hs0 H0 Hs H U ε)(i:Nat):∃ Hs',Same Hs Hs'/\RD S Hs0 H0 Hs' H U (fz (i+1) ε):=by
 by_cases h:∃ x,ε[i+1]?=some (.ow x)
 ·obtain ⟨x,hi⟩:=h;obtain ⟨a,ha,n0,n,t⟩:=r.ow (i+1) x hi;have hS:a∉S:=λhS=>by
   obtain ⟨y,hy⟩:=r.str a hS;exact absurd (r.nd 0 (i+1) y x a hy hi (r.pin a hS) ha) (by omega)
  obtain ⟨o,ho,hr⟩:=t.rep n;have g:Same Hs (z7 Hs a o):=λb u e=>by rw [z6 (y0 e n)];exact e
  have ef:fz (i+1) ε=ε.set (i+1) (.sh x):=by unfold fz;rw [hi]
  have n0':H0 a=none:=n0.resolve_right hS;rw [ef];have dn:∀(j:Nat)(y:PV),(ε.set (i+1) (.sh x))[j]?=some (.ow y)->i+1≠j/\ε[j]?=some (.ow y):=λj y q=>by
   rw [yB] at q;split at q
   ·split at q<;>cases q
   ·rename_i hij;exact ⟨hij,q⟩
  refine ⟨z7 Hs a o,g,r.s1.trans g,r.s2,λb u e=>?_,λb h z=>?_,λj y q=>?_,λj y q=>?_,λj k z z' c h1 h2 h3 h4=>r.nd j k z z' c (dn j z h1).2 (dn k z' h2).2 h3 h4,by rw [yi,r.len],r.pin,r.live,(λb hb=>by rw [yo (by omega)];exact r.str b hb),QO r.nb λ_ z=>nomatch z⟩
  ·by_cases hb:b=a
   ·subst hb;rw [j9] at e;cases e;exact ho
   ·rw [z6 hb] at e;exact r.s3 _ _ e
  ·have hb:b≠a:=λe=>h (e▸n0');rw [z6 hb];exact r.s4 b h z
  ·rw [yB] at q;split at q
   ·rename_i hij;split at q
    ·injection q with q;injection q with q;subst q;exact ⟨.ref a,hij▸ha,hr⟩
    ·cases q
   ·obtain ⟨v,e,w⟩:=r.sh j y q;exact ⟨v,e,w.mono g⟩
  ·obtain ⟨hij,hq⟩:=dn j y q;obtain ⟨c,hc,m0,m,tc⟩:=r.ow j y hq;have hne:c≠a:=λe=>hij (r.nd (i+1) j x y a hi hq ha (e▸hc));exact ⟨c,hc,m0,by rw [z6 hne];exact m,tc.mono g λ_ e=>e⟩
 ·refine ⟨Hs,.refl _,?_⟩;unfold fz;split
  ·rename_i x hx;exact absurd ⟨x,hx⟩ h
  ·exact r
end
abbrev W:=ME->(PV->ME->Prop)->Prop
abbrev WA:=ME->(List PV->ME->Prop)->Prop
variable{r:WA}
abbrev WT:=ME->(Bool->ME->Prop)->Prop
abbrev WS:=ME->(ME->Prop)->(PV->ME->Prop)->Prop
variable{b:WS}
class SemW (te:TE)(w:W):Prop where
 h:∀{ε Q'},w ε Q'->∀{S Hs0 H0 Hs H U},RD S Hs0 H0 Hs H U ε->∀{Q:VK},(∀ y ε' v Hs' H',Q' y ε'->RD S Hs0 H0 Hs' H' U ε'->Same Hs Hs'->Rep Hs' y v->Q v H')->te U H Q
class vA (ta:TA)(w:WA):Prop where
 h:∀{ε Q'},w ε Q'->∀{S Hs0 H0 Hs H U},RD S Hs0 H0 Hs H U ε->∀{Q:List V->Hp->Prop},(∀ ys ε' vs Hs' H',Q' ys ε'->RD S Hs0 H0 Hs' H' U ε'->Same Hs Hs'->Reps Hs' ys vs->Q vs H')->ta U H Q
class vB (tt:TT)(w:WT):Prop where
 h:∀{ε Q'},w ε Q'->∀{S Hs0 H0 Hs H U},RD S Hs0 H0 Hs H U ε->∀{Q:Bool->Hp->Prop},(∀ b ε' Hs' H',Q' b ε'->RD S Hs0 H0 Hs' H' U ε'->Same Hs Hs'->Q b H')->tt U H Q
class SemWS (ts:TS)(w:WS):Prop where
 h:∀{ε N R},w ε N R->∀{S Hs0 H0 Hs H U},RD S Hs0 H0 Hs H U ε->∀{D:qN},(∀ ε' σ' Hs' H',N ε'->RD S Hs0 H0 Hs' H' σ' ε'->Same Hs Hs'->D.nx σ' H') ->
  (∀ y ε' σ' v Hs' H',R y ε'->RD S Hs0 H0 Hs' H' σ' ε'->Same Hs Hs'->Rep Hs' y v->D.rt v H')->ts D U H
def wP (f:M):W:=λε Q=>∃ y,f ε=some y/\Q y ε
def wPT (f:MB):WT:=λε Q=>∃ y,f ε=some y/\Q y ε
instance (priority:=50){f:M}[s:SemE te f]:SemW te (wP f) where
 h:=λ⟨y,e,q⟩ _ _ _ _ _ _ r _ k=>s.h e r.rs λv Hs' H' x rv=>k y _ v Hs' H' q (r.go x) x.s1 rv
instance (priority:=50){f:MB}[s:qO tt f]:vB tt (wPT f) where
 h:=λ⟨y,e,q⟩ _ _ _ _ _ _ r _ k=>s.h e r.rs λHs' H' x=>k y _ Hs' H' q (r.go x) x.s1
def xT (g:PV->PV->Option PV)(a b:W):W:=λε Q=>a ε λx ε1=>b ε1 λy ε2=>∃ z,g x y=some z/\Q z ε2
instance {r:R2}{g:PV->PV->Option PV}{ta tb:TE}{a b:W}[sr:xy r g][sa:SemW ta a][sb:SemW tb b]:SemW (tOp r ta tb) (xT g a b) where
 h:=λh _ _ _ _ _ _ rd _ k=>sa.h h rd λx ε1 v Hs1 H1 h1 rd1 g1 r1=>sb.h h1 rd1 λy ε2 w Hs2 H2 h2 rd2 g2 r2=>by
  obtain ⟨z,ez,h2⟩:=h2;exact sr.h ez rd2.s3 (.inl (r1.mono g2)) (.inl r2) λu Hs3 H3 x3 r3=>k z ε2 u Hs3 H3 h2 (rd2.go x3) (g1.trans (g2.trans x3.s1)) r3
def wT (a:W):WT:=λε Q=>a ε λx ε1=>∃ b,pB x=some b/\Q b ε1
instance {a:W}[sa:SemW te a]:vB (Zx te) (wT a) where
 h:=λh _ _ _ _ _ _ rd _ k=>sa.h h rd λx ε1 v Hs1 H1 h1 rd1 g1 r1=>by
  obtain ⟨b,eb,h2⟩:=h1;cases wx eb;exact ⟨b,rep_at.mp r1,k b ε1 Hs1 H1 h2 rd1 g1⟩
def wAnd (a b:WT):WT:=λε Q=>a ε λc ε1=>if c=true then b ε1 Q else Q false ε1
instance {t u:TT}{a b:WT}[sa:vB t a][sb:vB u b]:vB (tAnd t u) (wAnd a b) where
 h:=λh _ _ _ _ _ _ rd _ k=>sa.h h rd λc ε1 Hs1 H1 h1 rd1 g1=>by
  cases c with
  |true=>exact qb (sb.h (by simpa using h1) rd1 λc2 ε2 Hs2 H2 h2 rd2 g2=>k c2 ε2 Hs2 H2 h2 rd2 (g1.trans g2))
  |false=>exact qf (k false ε1 Hs1 H1 (by simpa using h1) rd1 g1)
def vu:WA:=λε Q=>Q [] ε
def xU (a:W)(r:WA):WA:=λε Q=>a ε λx ε1=>r ε1 λxs ε2=>Q (x::xs) ε2
instance:vA qF vu where
 h:=λh _ _ _ _ _ _ rd _ k=>k [] _ [] _ _ h rd (.refl _) .nil
instance {a:W}[sa:SemW te a][sr:vA ta r]:vA (o5 te ta) (xU a r) where
 h:=λh _ _ _ _ _ _ rd _ k=>sa.h h rd λx ε1 v Hs1 H1 h1 rd1 g1 r1=>sr.h h1 rd1 λxs ε2 vs Hs2 H2 h2 rd2 g2 r2=>k _ ε2 _ Hs2 H2 h2 rd2 (g1.trans g2) (.cons (r1.mono g2) r2)
def wTup (a:WA):W:=λε Q=>a ε λxs ε1=>xs.length<=lim/\Q (.tup xs) ε1
instance {a:WA}[sa:vA ta a]:SemW (tTup ta) (wTup a) where
 h:=λh _ _ _ _ _ _ rd _ k=>sa.h h rd λxs ε1 vs Hs1 H1 h1 rd1 g1 r1=>⟨zo (r1.length▸h1.1),λp hp=>k _ ε1 _ _ _ h1.2 (rd1.go (.new rd1.s3 hp)) (g1.trans (Ext.new rd1.s3 hp).s1) (rep_tup.mpr ⟨p,vs,rfl,j9,r1.mono (Ext.new rd1.s3 hp).s1⟩)⟩
def Xf:Sp:=λvs H Q _=>∃(a:Addr)(n m:Int),vs=[.ref a,.int m]/\H a=some (.lst [.int n])/\vW n m/\Q (.int (n % m)) (z7 H a (.lst [.int (n / m)]))
def g0 (n:Int):MSlot:= .ow (.lst [.at (.int n)])
def wTake (i:Nat)(a:W):W:=λε Q=>a ε λx ε1=>∃ n k,x = .at (.int k)/\ε1[i]?=some (g0 n)/\vW n k/\Q (.at (.int (n % k))) (ε1.set i (g0 (n / k)))
theorem RD.strm_at {i:Nat}{n:Int}(r:RD S Hs0 H0 Hs H U ε)(h:ε[i]?=some (g0 n)):∃ a,U[i]?=some (some (.ref a))/\H a=some (.lst [.int n])/\Hs a=none/\(H0 a=none∨a∈S):=by obtain ⟨a,ha,n0,n1,vs,hv,rv⟩:=r.ow i _ h;obtain ⟨v,w,rfl,p1,p2⟩:=reps_cons.mp rv;cases reps_nil.mp p2;cases rep_at.mp p1;exact ⟨a,ha,hv,n1,n0⟩
def jH (i:Nat):ME->Prop:=λε=>∃ n,ε[i]?=some (g0 n)
def qM (i:Nat)(a:W):W:=λε Q=>jH i ε/\wTake i a ε Q
instance {i:Nat}{a:W}[sa:SemW te a]:SemW (qL Xf [] E (o5 (b9 i) (o5 te qF))) (qM i a) where
 h:=λh _ _ _ _ _ _ rd _ k=>by
  obtain ⟨⟨n0,hn0⟩,h⟩:=h;obtain ⟨p,hp,_⟩:=rd.strm_at hn0;refine ⟨_,hp,sa.h h rd λx ε1 v Hs1 H1 h1 rd1 g1 r1=>?_⟩;obtain ⟨n,m,rfl,hn,hc,h2⟩:=h1;obtain ⟨p',hp',hH,hs,_⟩:=rd1.strm_at hn;rw [hp] at hp';injection hp' with hp';injection hp' with hp';injection hp' with hp';subst hp';cases rep_at.mp r1;exact ⟨p,n,m,rfl,hH,hc,k _ _ _ _ _ h2 (rd1.change hn hp ⟨_,j9,.one (rep_at.mpr rfl)⟩) g1 (rep_at.mpr rfl)⟩
structure ExtD (p:Addr)(Hs H Hs' H':Hp):Prop where
 s1:Same Hs Hs'
 s2:∀ b o,H b=some o->b≠p->H' b=some o
 s3:Same Hs' H'
 s4:∀ b,H b≠none->Hs b=none->Hs' b=none
def spD (pre:List PV->Prop)(R:List PV->PV->Prop):Sp:=λvs H Q _=>∃ Hs a n xs ws,vs = .ref a::ws/\Same Hs H/\Hs a=none/\H a=some (.lst [.int n])/\Reps Hs xs ws/\pre xs /\
 ∀ y v n' Hs' H',R xs y->ExtD a Hs H Hs' H'->Hs' a=none->H' a=some (.lst [.int n'])->Rep Hs' y v->Q v H'
section
variable {S:List Addr}{Hs0 H0 Hs H Hs' H':Hp}{U:St}{ε:ME}
theorem RD.drawn (r:RD S Hs0 H0 Hs H U ε){i:Nat}{n n':Int}{p:Addr}(hi:ε[i]?=some (g0 n))(hp:U[i]?=some (some (.ref p)))(x:ExtD p Hs H Hs' H')(np:Hs' p=none)(ep:H' p=some (.lst [.int n'])):RD S Hs0 H0 Hs' H' U (ε.set i (g0 n')):=by
 obtain ⟨p',hp',hH,hs,h0⟩:=r.strm_at hi;rw [hp] at hp';injection hp' with hp';injection hp' with hp';injection hp' with hp';subst hp';have up:∀(j:Nat)(z:PV),(ε.set i (g0 n'))[j]?=some (.ow z)->(j=i/\z = .lst [.at (.int n')])∨(j≠i/\ε[j]?=some (.ow z)):=λj z q=>by
  rw [yB] at q;split at q
  ·rename_i hij;split at q
   ·injection q with q;unfold g0 at q;injection q with q;exact .inl ⟨hij.symm,q.symm⟩
   ·cases q
  ·rename_i hij;exact .inr ⟨Ne.symm hij,q⟩
 have wasOw:∀(j:Nat)(z:PV),(ε.set i (g0 n'))[j]?=some (.ow z)->∃ z',ε[j]?=some (.ow z'):=λj z q=>by
  rcases up j z q with ⟨rfl,_⟩|⟨_,q⟩
  ·exact ⟨_,hi⟩
  ·exact ⟨z,q⟩
 refine ⟨r.s1.trans x.s1,λb o e hS=>x.s2 b o (r.s2 b o e hS) λz=>?_,x.s3,λb h z=>x.s4 b (r.there h) (r.s4 b h z),λj z q=>?_,λj z q=>?_,λj k z z' c h1 h2 h3 h4=>?_,by rw [yi,r.len],r.pin,λb hS=>?_,λb hS=>?_,QO r.nb λ_ z=>by unfold g0 at z;cases z⟩
 ·rcases h0 with h0|h0
  ·rw [z,h0] at e;cases e
  ·exact hS (z▸h0)
 ·rw [yB] at q;split at q
  ·split at q
   ·unfold g0 at q;cases q
   ·cases q
  ·obtain ⟨v,h1,h2⟩:=r.sh j z q;exact ⟨v,h1,h2.mono x.s1⟩
 ·rcases up j z q with ⟨rfl,rfl⟩|⟨hij,q⟩
  ·exact ⟨p,hp,h0,np,_,ep,.one (rep_at.mpr rfl)⟩
  ·obtain ⟨c,hc,m0,m1,tc⟩:=r.ow j z q;have hne:c≠p:=λe=>hij (r.nd j i z _ p q hi (e▸hc) hp);exact ⟨c,hc,m0,x.s4 c tc.there m1,tc.mono x.s1 λo e=>x.s2 c o e hne⟩
 ·obtain ⟨w1,q1⟩:=wasOw j z h1;obtain ⟨w2,q2⟩:=wasOw k z' h2;exact r.nd j k w1 w2 c q1 q2 h3 h4
 ·by_cases hb:b=p
  ·rw [hb,ep];exact λz=>nomatch z
  ·have:=r.live b hS;cases q:H b with
   |none=>exact absurd q this
   |some o=>rw [x.s2 b o q hb];exact λz=>nomatch z
 ·obtain ⟨y',hy⟩:=r.str b hS;rw [yB];split
  ·rename_i h0;rw [if_pos (by rw [h0];exact (yk.mp hy).1)];exact ⟨_,rfl⟩
  ·exact ⟨y',hy⟩
end
def Vc (i:Nat)(pre:List PV->Prop)(R:List PV->PV->Prop)(as:WA):W:=λε Q=>jH i ε/\as ε λxs ε1=>jH i ε1/\pre xs/\∀ y n',R xs y->Q y (ε1.set i (g0 n'))
instance {i:Nat}{as:WA}[sa:vA ta as]:SemW (qL (spD pre R) [] E (o5 (b9 i) ta)) (Vc i pre R as) where
 h:=λh _ _ _ _ _ _ rd _ k=>by
  obtain ⟨⟨n0,hn0⟩,h⟩:=h;obtain ⟨p,hp,_⟩:=rd.strm_at hn0;refine ⟨_,hp,sa.h h rd λxs ε1 vs Hs1 H1 h1 rd1 g1 r1=>?_⟩;obtain ⟨⟨n,hn⟩,hpre,h2⟩:=h1;obtain ⟨p',hp',hH,hs,_⟩:=rd1.strm_at hn;rw [hp] at hp';injection hp' with hp';injection hp' with hp';injection hp' with hp';subst hp';refine ⟨Hs1,p,n,xs,vs,by rw [yO],rd1.s3,hs,hH,r1,hpre,λy v n' Hs' H' hR x np ep rv=>?_⟩;exact k y _ v Hs' H' (h2 y n' hR) (rd1.drawn hn hp x np ep) (g1.trans x.s1) rv
def xu:WS:=λε N _=>N ε
def wSeq (a b:WS):WS:=λε N R=>a ε (λε1=>b ε1 N R) R
def i9 (i:Nat)(a:W):WS:=λε N _=>a ε λx ε1=>N (ε1.set i (.sh x))
def YU (i:Nat)(f:M):WS:=λε N _=>∃ x,f ε=some x/\N (ε.set i (.ow x))
def xL (a:W):WS:=λε _ R=>a ε R
def YS (a:W):WS:=λε N _=>a ε λ_ ε1=>N ε1
def zA (c:WT)(a b:WS):WS:=λε N R=>c ε λk ε1=>if k=true then a ε1 N R else b ε1 N R
def wFz (i:Nat)(a:WS):WS:=λε N R=>a (fz i ε) N R
def YQ (i:Nat)(a:W):WS:=λε N _=>(∃ xs,ε[i]?=some (.ow (.lst xs)))/\a ε λx ε1=>∃ xs,ε1[i]?=some (.ow (.lst xs))/\xs.length<=lim/\N (ε1.set i (.ow (.lst (xs++[x]))))
instance:SemWS Zw xu where
 h:=λh _ _ _ _ _ _ rd _ k _=>k _ _ _ _ h rd (.refl _)
instance {a:WS}[sa:SemWS t a][sb:SemWS u b]:SemWS (tSeq t u) (wSeq a b) where
 h:=λh _ _ _ _ _ _ rd _ k r=>sa.h h rd (λε1 σ1 Hs1 H1 h1 rd1 g1=>sb.h h1 rd1 (λε2 σ2 Hs2 H2 h2 rd2 g2=>k ε2 σ2 Hs2 H2 h2 rd2 (g1.trans g2)) λy ε2 σ2 v Hs2 H2 h2 rd2 g2 rv=>r y ε2 σ2 v Hs2 H2 h2 rd2 (g1.trans g2) rv) r
instance {i:Nat}{a:W}[sa:SemW te a]:SemWS (xS te (qS (i+1))) (i9 (i+1) a) where
 h:=λh _ _ _ _ _ _ rd _ k _=>sa.h h rd λx ε1 v Hs1 H1 h1 rd1 g1 r1=>k _ _ _ _ h1 (rd1.put r1) g1
instance {i:Nat}{f:M}[sa:xo te f]:SemWS (xS te (qS (i+1))) (YU (i+1) f) where
 h:=λ⟨x,e,h⟩ _ _ _ _ _ _ rd _ k _=>sa.h e rd.rs λa Hs1 H1 x1 n n' t=>k _ _ _ _ h ((rd.go x1).putO (.inl (rd.free0 n)) n' t λj y hj z=>by
  obtain ⟨b,hb,_,_,tb⟩:=rd.ow j y hj;rw [z] at hb;injection hb with hb;injection hb with hb;injection hb with hb;subst hb;exact tb.there n) x1.s1
instance {a:W}[sa:SemW te a]:SemWS (vt te) (xL a) where
 h:=λh _ _ _ _ _ _ rd _ _ r=>sa.h h rd λx ε1 v Hs1 H1 h1 rd1 g1 r1=>r x ε1 _ v Hs1 H1 h1 rd1 g1 r1
instance {a:W}[sa:SemW te a]:SemWS (xi te) (YS a) where
 h:=λh _ _ _ _ _ _ rd _ k _=>sa.h h rd λx ε1 v Hs1 H1 h1 rd1 g1 r1=>k ε1 _ Hs1 H1 h1 rd1 g1
instance {t:TT}{ta:TS}{c:WT}{a:WS}[sc:vB t c][sa:SemWS ta a][sb:SemWS tb b]:SemWS (vT t ta tb) (zA c a b) where
 h:=λh _ _ _ _ _ _ rd _ k r=>sc.h h rd λc ε1 Hs1 H1 h1 rd1 g1=>by
  cases c with
  |true=>exact qb (sa.h (by simpa using h1) rd1 (λε2 σ2 Hs2 H2 h2 rd2 g2=>k ε2 σ2 Hs2 H2 h2 rd2 (g1.trans g2)) λy ε2 σ2 v Hs2 H2 h2 rd2 g2 rv=>r y ε2 σ2 v Hs2 H2 h2 rd2 (g1.trans g2) rv)
  |false=>exact qf (sb.h (by simpa using h1) rd1 (λε2 σ2 Hs2 H2 h2 rd2 g2=>k ε2 σ2 Hs2 H2 h2 rd2 (g1.trans g2)) λy ε2 σ2 v Hs2 H2 h2 rd2 g2 rv=>r y ε2 σ2 v Hs2 H2 h2 rd2 (g1.trans g2) rv)
instance {i:Nat}{a:WS}[sa:SemWS t a]:SemWS t (wFz (i+1) a) where
 h:=λh _ _ _ _ _ _ rd _ k r=>by
  obtain ⟨Hs',g,rd'⟩:=rd.freeze i;exact sa.h h rd' (λε2 σ2 Hs2 H2 h2 rd2 g2=>k ε2 σ2 Hs2 H2 h2 rd2 (g.trans g2)) λy ε2 σ2 v Hs2 H2 h2 rd2 g2 rv=>r y ε2 σ2 v Hs2 H2 h2 rd2 (g.trans g2) rv
instance {i:Nat}{a:W}[sa:SemW te a]:SemWS (xi (tBM K "list" Xd (b9 i) (o5 te qF))) (YQ i a) where
 h:=λh _ _ _ _ _ _ rd _ k _=>by
  obtain ⟨⟨xs0,hx0⟩,h⟩:=h;obtain ⟨p,hp,n0,n,vs,hv,rv⟩:=rd.ow i _ hx0;refine ⟨_,hp,.inl ⟨rfl,vs,SqL.of hv⟩,sa.h h rd λx ε1 v Hs1 H1 h1 rd1 g1 r1=>?_⟩;obtain ⟨xs,hx,hl,h2⟩:=h1;obtain ⟨p',hp',_,n1,ws,hw,rw⟩:=rd1.ow i _ hx;rw [hp] at hp';injection hp' with hp';injection hp' with hp';injection hp' with hp';subst hp';exact ⟨p,ws,v,rfl,rfl,hw,vL (by rw [rw.length];exact hl),k _ _ _ _ h2 (rd1.change hx hp ⟨_,j9,rw.append (.one r1)⟩) g1⟩
class SemWI (ti:TI)(w:WA):Prop where
 h:∀{ε Q'},w ε Q'->∀{S Hs0 H0 Hs H U},RD S Hs0 H0 Hs H U ε->∀{R:It->Hp->Prop},(∀ xs ε' J Hs' H',Q' xs ε'->RD S Hs0 H0 Hs' H' U ε'->Same Hs Hs'->ItOk J xs Hs'->R J H')->ti U H R
def wIp (f:MA):WA:=λε Q=>∃ xs,f ε=some xs/\Q xs ε
instance (priority:=50){ti:TI}{f:MA}[s:zC ti f]:SemWI ti (wIp f) where
 h:=λ⟨xs,e,q⟩ _ _ _ _ _ _ r _ k=>s.h e r.rs λJ Hs' H' x ok=>k xs _ J Hs' H' q (r.go x) x.s1 ok
class SemWG (tg:TG)(g:MG):Prop where
 h:∀{x ε ε'},g x ε=some ε'->∀{S Hs0 H0 Hs H U v},RD S Hs0 H0 Hs H U ε->Rep Hs x v->∀{Q:St->Hp->Prop},(∀ σ',RD S Hs0 H0 Hs H σ' ε'->Q σ' H)->tg v U H Q
instance {i:Nat}:SemWG (qS (i+1)) (w5 (i+1)) where
 h:=λe _ _ _ _ _ _ _ rd r _ q=>by cases e;exact q _ (rd.put r)
def ZC (g:MG)(f:WS):List PV->WS
 |[]=>λε N _=>N ε
 |x::xs=>λε N R=>∃ ε1,g x ε=some ε1/\f ε1 (λε2=>ZC g f xs ε2 N R) R
def wFor (it:WA)(g:MG)(f:WS):WS:=λε N R=>it ε λxs ε1=>ZC g f xs ε1 N R
theorem RD.rebase (r:RD S Hs0 H0 Hs H U ε):RD S Hs H0 Hs H U ε :=
 ⟨.refl _,r.s2,r.s3,λ_ _ z=>z,r.sh,r.ow,r.nd,r.len,r.pin,r.live,r.str,r.nb⟩
theorem RD.unbase {Hb Hx:Hp}(b:RD S Hs0 H0 Hb Hx U ε)(r:RD S Hb H0 Hs H σ' ε'):RD S Hs0 H0 Hs H σ' ε' :=
 ⟨b.s1.trans r.s1,r.s2,r.s3,λc h z=>r.s4 c h (b.s4 c h z),r.sh,r.ow,r.nd,r.len,r.pin,r.live,r.str,r.nb⟩
instance {it:WA}{f:WS}[si:SemWI wi it][sg:SemWG tg g][sf:SemWS tb f]:SemWS (tFor wi tg tb) (wFor it g f) where
 h:=λ{ε N R} h S Hs0 H0 _ _ _ rd D k rt=>si.h h rd λxs ε1 J Hs1 H1 h1 rd1 g1 ok=>by
  refine ⟨λn m U H=>m=xs.length-n/\n<=xs.length/\∃ Hs ε,RD S Hs1 H0 Hs H U ε/\ZC g f (xs.drop n) ε N R,⟨xs.length,by simp,yd _,Hs1,ε1,rd1.rebase,h1⟩,?_⟩;rintro n m U H ⟨rfl,hn,Hs,ε2,r2,h2⟩;by_cases hlt:n<xs.length
  ·have hd:xs.drop n=xs[n]::xs.drop (n+1):=yj hlt;rw [hd] at h2;obtain ⟨ε3,e3,h3⟩:=h2;obtain ⟨go,yl⟩:=ok.go n xs[n] Hs H (by simp [hlt]) r2.s1 r2.s3;refine .inr ⟨go,λσ' H'=>n+1<=xs.length/\∃ Hs ε,RD S Hs1 H0 Hs H' σ' ε/\ZC g f (xs.drop (n+1)) ε N R,λσ' H' p=>⟨xs.length-(n+1),by omega,rfl,p.1,p.2⟩,λv H3 y=>?_⟩;obtain ⟨Hs3,x3,r3⟩:=yl v H3 y;refine sg.h e3 (r2.go x3) r3 λσ4 rd4=>sf.h h3 rd4 (λε5 σ5 Hs5 H5 h5 rd5 g5=>⟨hlt,Hs5,ε5,rd5,h5⟩) λy ε5 σ5 v Hs5 H5 h5 rd5 g5 rv=>rt y ε5 σ5 v Hs5 H5 h5 (rd1.unbase rd5) (g1.trans rd5.s1) rv
  ·have en:n=xs.length:=by omega
   subst en;rw [uT] at h2;exact .inl ⟨ok.stop Hs H r2.s1 r2.s3,k _ _ _ _ h2 (rd1.unbase r2) (g1.trans r2.s1)⟩
def qV:List (Option Nat)->ME->ME->ME
 |some i::cap,s::ε2,ε1=>(qV cap ε2 ε1).set i s
 |none::cap,_::ε2,ε1=>qV cap ε2 ε1
 |_,_,ε1=>ε1
theorem ZA:∀(cap:List (Option Nat))(ε2 ε1:ME),(qV cap ε2 ε1).length=ε1.length
 |some i::cap,s::ε2,ε1=>by unfold qV;rw [yi,ZA]
 |none::cap,_::ε2,ε1=>by unfold qV;exact ZA cap ε2 ε1
 |[],_,_=>rfl
 |some _::_,[],_=>rfl
 |none::_,[],_=>rfl
theorem YG:∀(cap:List (Option Nat))(ε2 ε1:ME)(i:Nat),some i∉cap->(qV cap ε2 ε1)[i]?=ε1[i]?
 |some k::cap,s::ε2,ε1,i,h=>by
  unfold qV;rw [yo (λz=>h (by rw [z];exact yU))];exact YG cap ε2 ε1 i λz=>h (yS _ z)
 |none::cap,_::ε2,ε1,i,h=>by unfold qV;exact YG cap ε2 ε1 i λz=>h (yS _ z)
 |[],_,_,_,_=>rfl
 |some _::_,[],_,_,_=>rfl
 |none::_,[],_,_,_=>rfl
theorem YF:∀(cap:List (Option Nat))(ε2 ε1:ME)(i:Nat),cap.length=ε2.length->some i∈cap->i<ε1.length->(cap.filterMap id).Nodup->∃ j:Nat,cap[j]?=some (some i)/\(qV cap ε2 ε1)[i]?=ε2[j]?
 |some k::cap,s::ε2,ε1,i,hl,h,hi,nd=>by
  rw [List.filterMap_cons_some (by rfl)] at nd;by_cases e:k=i
  ·subst e;refine ⟨0,rfl,?_⟩;unfold qV;rw [uz (by rw [ZA];exact hi)];rfl
  ·obtain ⟨j,h1,h2⟩:=YF cap ε2 ε1 i (by simpa using hl) (by rcases yD.mp h with z|z;exact absurd (Option.some.inj z).symm e;exact z) hi (ym.mp nd).2;refine ⟨j+1,by simpa using h1,?_⟩;unfold qV;rw [yo e];simpa using h2
 |none::cap,s::ε2,ε1,i,hl,h,hi,nd=>by
  rw [List.filterMap_cons_none (by rfl)] at nd;obtain ⟨j,h1,h2⟩:=YF cap ε2 ε1 i (by simpa using hl) (by rcases yD.mp h with z|z;exact nomatch z;exact z) hi nd;exact ⟨j+1,by simpa using h1,by unfold qV;simpa using h2⟩
 |[],_,_,_,_,h,_,_=>nomatch h
 |some _::_,[],_,_,hl,_,_,_=>by simp at hl
 |none::_,[],_,_,hl,_,_,_=>by simp at hl
def rst:List Nat->ME->ME
 |[],ε=>ε
 |t::ts,ε=>(rst ts ε).set t .no
theorem BV:∀(ts:List Nat)(ε:ME),(rst ts ε).length=ε.length
 |[],_=>rfl
 |t::ts,ε=>by unfold rst;rw [yi,BV]
theorem BU:∀(ts:List Nat)(ε:ME)(i:Nat)(s:MSlot),(rst ts ε)[i]?=some s->s = .no∨(i∉ts/\ε[i]?=some s)
 |[],_,_,_,h=> .inr ⟨yJ,h⟩
 |t::ts,ε,i,s,h=>by
  unfold rst at h;rw [yB] at h;split at h
  ·split at h
   ·cases h;exact .inl rfl
   ·cases h
  ·rename_i hne;rcases BU ts ε i s h with z|⟨z1,z2⟩
   ·exact .inl z
   ·exact .inr ⟨λm=>by rcases yD.mp m with m|m;exact hne m.symm;exact z1 m,z2⟩
theorem RD.reset (r:RD [] Hs0 H0 Hs H σ' ε)(b:But ts U σ'):RD [] Hs0 H0 Hs H U (rst ts ε):=by
 have at1:∀(i:Nat)(s:MSlot),(rst ts ε)[i]?=some s->s = .no∨(σ'[i]?=U[i]?/\ε[i]?=some s):=λi s h=>by
  rcases BU ts ε i s h with z|⟨z1,z2⟩
  ·exact .inl z
  ·exact .inr ⟨b.2 i z1,z2⟩
 refine ⟨r.s1,r.s2,r.s3,r.s4,λi x h=>?_,λi x h=>?_,λi j x y a h1 h2 h3 h4=>?_,by rw [BV,<- r.len,b.1],(λ_ z=>nomatch z),(λ_ z=>nomatch z),(λ_ z=>nomatch z),λi x h=>by
  rcases at1 i _ h with z|⟨_,z2⟩
  ·cases z
  ·exact r.nb i x z2⟩
 ·rcases at1 i _ h with z|⟨z1,z2⟩
  ·cases z
  ·rw [<- z1];exact r.sh i x z2
 ·rcases at1 i _ h with z|⟨z1,z2⟩
  ·cases z
  ·rw [<- z1];exact r.ow i x z2
 ·rcases at1 i _ h1 with z|⟨z1,z2⟩
  ·cases z
  ·rcases at1 j _ h2 with w|⟨w1,w2⟩
   ·cases w
   ·exact r.nd i j x y a z2 w2 (z1.trans h3) (w1.trans h4)
class Ue (tg:TG)(ts:outParam (List Nat))(g:MG):Prop where
 h:∀{x ε ε'},g x ε=some ε'->∀{Hs0 H0 Hs H U v},RD [] Hs0 H0 Hs H U ε->Rep Hs x v->∀{Q:St->Hp->Prop},(∀ σ',RD [] Hs0 H0 Hs H σ' ε'->But ts U σ'->Q σ' H)->tg v U H Q
theorem RD.put0 (r:RD [] Hs0 H0 Hs H U ε){i:Nat}(h:Rep Hs x v):RD [] Hs0 H0 Hs H (U.set i (some v)) (ε.set i (.sh x)):=by
 have q:=(r.rs).put (i:=i) h;refine ⟨r.s1,r.s2,r.s3,r.s4,q.sh,λj z hz=>?_,q.nd,q.len,(λ_ z=>nomatch z),(λ_ z=>nomatch z),(λ_ z=>nomatch z),QO r.nb λ_ z=>nomatch z⟩;obtain ⟨c,hc,m1,m2,tc⟩:=q.ow j z hz;refine ⟨c,hc,?_,m2,tc⟩;rw [yB] at hz hc;split at hz
 ·split at hz<;>cases hz
 ·rename_i hij;rw [if_neg hij] at hc;obtain ⟨d,hd,m0,_⟩:=r.ow j z hz;rw [hd] at hc;injection hc with hc;injection hc with hc;injection hc with hc;rw [<- hc];exact m0
instance {i:Nat}:Ue (qS i) [i] (w5 i) where
 h:=λe _ _ _ _ _ _ rd r _ q=>by
  cases e;exact q _ (rd.put0 r) ⟨yi,λj hj=>yo λz=>hj (by rw [<- z];exact yM.mpr rfl)⟩
def vV (g:MG)(c:WT)(f:W)(ts:List Nat):List PV->List PV->ME->(List PV->ME->Prop)->Prop
 |[],ys,ε,Q=>Q ys ε
 |x::xs,ys,ε,Q=>∃ ε1,g x ε=some ε1/\c ε1 λb ε2=>if b=true then f ε2 λy ε3=>vV g c f ts xs (ys++[y]) (rst ts ε3) Q else vV g c f ts xs ys (rst ts ε2) Q
def ZD:WT:=λε Q=>Q true ε
instance:vB tYes ZD where
 h:=λh _ _ _ _ _ _ rd _ k=>k true _ _ _ h rd (.refl _)
def Vb (cap:List (Option Nat))(ts:List Nat)(it:WA)(g:MG)(c:WT)(f:W):W:=λε Q=>it ε λxs ε1=>zE cap ts=true/\xs.length<=lim /\
 vV g c f ts xs [] (i4 cap ε1) λys ε2=>((∃ y:PV,ε1[0]?=some (MSlot.ow y))->∃ y:PV,(qV cap ε2 ε1)[0]?=some (MSlot.ow y))/\Q (.lst ys) (qV cap ε2 ε1)
noncomputable def zn (U:St)(ε:ME)(H:Hp):Hp:=λb=>open Classical in if ∃(i:Nat)(x:PV),ε[i]?=some (MSlot.ow x)/\U[i]?=some (some (V.ref b)) then none else H b
theorem VO {b:Addr}(h:zn U ε H b=some o):H b=some o/\∀(i:Nat)(x:PV),ε[i]?=some (MSlot.ow x)->U[i]?≠some (some (V.ref b)):=by
 unfold zn at h;split at h
 ·cases h
 ·rename_i hn;exact ⟨h,λi x h1 h2=>hn ⟨i,x,h1,h2⟩⟩
theorem KJ {b:Addr}(h:zn U ε H b=none):H b=none∨∃(i:Nat)(x:PV),ε[i]?=some (MSlot.ow x)/\U[i]?=some (some (V.ref b)):=by
 unfold zn at h;split at h
 ·rename_i hn;exact .inr hn
 ·exact .inl h
theorem Dz {cap:List (Option Nat)}(nb:∀(i:Nat)(x:PV),ε[i]?≠some (.bo x)):∀(i:Nat)(x:PV),(i4 cap ε)[i]?≠some (.bo x):=λi x h=>by
 unfold i4 at h;rw [yK] at h;cases ho:cap[i]? with
 |none=>rw [ho] at h;cases h
 |some o =>
  rw [ho] at h;cases o with
  |none=>cases h
  |some k =>
   cases hk:ε[k]? with
   |none=>simp only [uK,hk,Option.getD_none] at h;cases h
   |some s=>simp only [uK,hk,Option.getD_some] at h;cases h;exact nb k x hk
theorem RD.block {cap:List (Option Nat)}(hc:(cap.filterMap id).Nodup)(r:RD S Hs0 H0 Hs H U ε):RD [] Hs (zn (b8 cap U) (i4 cap ε) H) Hs H (b8 cap U) (i4 cap ε):=by have q:=(r.rs).cap hc;refine ⟨.refl _,λb o e _=>(VO e).1,r.s3,λ_ _ z=>z,q.sh,λi x h=>?_,q.nd,q.len,(λ_ z=>nomatch z),(λ_ z=>nomatch z),(λ_ z=>nomatch z),Dz r.nb⟩;obtain ⟨a,h1,h2,h3,h4⟩:=q.ow i x h;refine ⟨a,h1,.inl ?_,h3,h4⟩;unfold zn;rw [if_pos ⟨i,x,h,h1⟩]
theorem vH {cap:List (Option Nat)}{i k:Nat}(h:cap[i]?=some (some k))(e:(b8 cap U)[i]?=some (some v)):U[k]?=some (some v):=by
 unfold b8 at e;rw [yK,h] at e;simp only [uK,yG,Option.some.injEq] at e;cases hs:U[k]? with
 |none=>rw [hs] at e;cases e
 |some o=>rw [hs] at e;simp at e;rw [e]
theorem Gv {cap:List (Option Nat)}{i:Nat}(h:(i4 cap ε)[i]?=some (.ow x)):∃ k:Nat,cap[i]?=some (some k)/\ε[k]?=some (.ow x):=by
 unfold i4 at h;rw [yK] at h;cases ho:cap[i]? with
 |none=>rw [ho] at h;cases h
 |some o =>
  rw [ho] at h;cases o with
  |none=>cases h
  |some k =>
   cases hk:ε[k]? with
   |none=>simp only [uK,hk,Option.getD_none] at h;cases h
   |some s=>simp only [uK,hk,Option.getD_some] at h;cases h;exact ⟨k,rfl,hk⟩
theorem RD.unblock {Hs1 H1 Hs2 H2:Hp}{ε1 ε2:ME}{cap:List (Option Nat)}(hc:(cap.filterMap id).Nodup)(r:RD S Hs0 H0 Hs1 H1 U ε1)(q:RD [] Hs1 (zn (b8 cap U) (i4 cap ε1) H1) Hs2 H2 (b8 cap U) ε2)(st:(∃ y,ε1[0]?=some (.ow y))->∃ y,(qV cap ε2 ε1)[0]?=some (.ow y)):RD S Hs0 H0 Hs2 H2 U (qV cap ε2 ε1):=by
 have hl:cap.length=ε2.length:=by rw [<- q.len];unfold b8;rw [yZ]
 have at1:∀(i:Nat)(s:MSlot),(qV cap ε2 ε1)[i]?=some s->(some i∉cap/\ε1[i]?=some s)∨∃ j:Nat,cap[j]?=some (some i)/\ε2[j]?=some s:=λi s h=>by
  by_cases hi:some i∈cap
  ·have hlt:i<ε1.length:=by have:=(yk.mp h).1;rwa [ZA] at this
   obtain ⟨j,h1,h2⟩:=YF cap ε2 ε1 i hl hi hlt hc;exact .inr ⟨j,h1,h2▸h⟩
  ·exact .inl ⟨hi,YG cap ε2 ε1 i hi▸h⟩
 have own0:∀ a,zn (b8 cap U) (i4 cap ε1) H1 a=none->H0 a=none∨a∈S:=λa h=>by
  rcases KJ h with h|⟨i,x,h1,h2⟩
  ·exact .inl (r.free0 h)
  ·obtain ⟨k,hk,hx⟩:=Gv h1;obtain ⟨c,hc',m0,_⟩:=r.ow k x hx;rw [vH hk h2] at hc';injection hc' with hc';injection hc' with hc';injection hc' with hc';rw [hc'];exact m0
 have keep:∀(k:Nat)(x:PV)(a:Addr),some k∉cap->ε1[k]?=some (.ow x)->U[k]?=some (some (.ref a))->∀ o,H1 a=some o->zn (b8 cap U) (i4 cap ε1) H1 a=some o:=λk x a hk hx ha o ho=>by
  cases z:zn (b8 cap U) (i4 cap ε1) H1 a with
  |some u=>rw [<- ho,(VO z).1]
  |none =>
   rcases KJ z with z|⟨i,y,h1,h2⟩
   ·rw [z] at ho;cases ho
   ·obtain ⟨m,hm,hy⟩:=Gv h1;have:=r.nd k m x y a hx hy ha (vH hm h2);subst this;exact absurd (uC hm) hk
 have ow':∀(i:Nat)(x:PV),(qV cap ε2 ε1)[i]?=some (.ow x)->∃ a,U[i]?=some (some (.ref a))/\(H0 a=none∨a∈S)/\Hs2 a=none/\Top Hs2 H2 a x:=λi x h=>by
  rcases at1 i _ h with ⟨hi,e⟩|⟨j,hj,e⟩
  ·obtain ⟨a,ha,m0,m1,t⟩:=r.ow i x e;refine ⟨a,ha,m0,?_,t.mono q.s1 λo ho=>q.s2 a o (keep i x a hi e ha o ho) yJ⟩;cases z:H1 a with
   |none=>exact absurd z t.there
   |some o=>exact q.s4 a (by rw [keep i x a hi e ha o z];exact λw=>nomatch w) m1
  ·obtain ⟨a,ha,m0,m1,t⟩:=q.ow j x e;exact ⟨a,vH hj ha,own0 a (m0.resolve_right yJ),m1,t⟩
 have str':∀ a∈S,∃ y,(qV cap ε2 ε1)[0]?=some (.ow y):=λa hS=>st (r.str a hS);refine ⟨r.s1.trans q.s1,λb o e hS=>?_,q.s3,λb h z=>?_,λi x h=>?_,ow',λi j x y a h1 h2 h3 h4=>?_,by rw [ZA];exact r.len,r.pin,λb hS=>?_,str',λi x h=>by
  rcases at1 i _ h with ⟨_,e⟩|⟨j,_,e⟩
  ·exact r.nb i x e
  ·exact q.nb j x e⟩
 ·have e1:=r.s2 b o e hS;refine q.s2 b o ?_ yJ;cases z:zn (b8 cap U) (i4 cap ε1) H1 b with
  |some u=>rw [<- e1,(VO z).1]
  |none =>
   rcases own0 b z with w|w
   ·rw [w] at e;cases e
   ·exact absurd w hS
 ·have z1:=r.s4 b h z;by_cases hL:zn (b8 cap U) (i4 cap ε1) H1 b=none
  ·rcases own0 b hL with w|w
   ·exact absurd w h
   ·obtain ⟨y,hy⟩:=str' b w;obtain ⟨a,ha,_,m1,_⟩:=ow' 0 y hy;rw [r.pin b w] at ha;injection ha with ha;injection ha with ha;injection ha with ha;rw [ha];exact m1
  ·exact q.s4 b hL z1
 ·rcases at1 i _ h with ⟨hi,e⟩|⟨j,hj,e⟩
  ·obtain ⟨v,hv,rv⟩:=r.sh i x e;exact ⟨v,hv,rv.mono q.s1⟩
  ·obtain ⟨v,hv,rv⟩:=q.sh j x e;exact ⟨v,vH hj hv,rv⟩
 ·rcases at1 i _ h1 with ⟨hi,e⟩|⟨k,hk,e⟩
  ·rcases at1 j _ h2 with ⟨hj,e'⟩|⟨l,hl',e'⟩
   ·exact r.nd i j x y a e e' h3 h4
   ·-- one of the block's own,one that it does not see
    obtain ⟨a',ha',m0,_,_⟩:=q.ow l y e';have ea:=vH hl' ha';rw [h4] at ea;injection ea with ea;injection ea with ea;injection ea with ea;subst ea;obtain ⟨c,hc1,_,_,t⟩:=r.ow i x e;rw [h3] at hc1;injection hc1 with hc1;injection hc1 with hc1;injection hc1 with hc1;subst hc1;cases z:H1 a with
    |none=>exact absurd z t.there
    |some o=>have w:=keep i x a hi e h3 o z;rw [m0.resolve_right yJ] at w;cases w
  ·rcases at1 j _ h2 with ⟨hj,e'⟩|⟨l,hl',e'⟩
   ·obtain ⟨a',ha',m0,_,_⟩:=q.ow k x e;have ea:=vH hk ha';rw [h3] at ea;injection ea with ea;injection ea with ea;injection ea with ea;subst ea;obtain ⟨c,hc1,_,_,t⟩:=r.ow j y e';rw [h4] at hc1;injection hc1 with hc1;injection hc1 with hc1;injection hc1 with hc1;subst hc1;cases z:H1 a with
    |none=>exact absurd z t.there
    |some o=>have w:=keep j y a hj e' h4 o z;rw [m0.resolve_right yJ] at w;cases w
   ·obtain ⟨a1,ha1,_⟩:=q.ow k x e;obtain ⟨a2,ha2,_⟩:=q.ow l y e';have e1:=vH hk ha1;have e2:=vH hl' ha2;rw [h3] at e1;rw [h4] at e2;injection e1 with e1;injection e1 with e1;injection e1 with e1;injection e2 with e2;injection e2 with e2;injection e2 with e2;subst e1;subst e2;have kl:=q.nd k l x y a e e' ha1 ha2;subst kl;rw [hk] at hl';injection hl' with hl';injection hl' with hl'
 ·obtain ⟨y,hy⟩:=str' b hS;obtain ⟨a,ha,_,_,t⟩:=ow' 0 y hy;rw [r.pin b hS] at ha;injection ha with ha;injection ha with ha;injection ha with ha;rw [ha];exact t.there
instance {cap:List (Option Nat)}{it:WA}{c:WT}{f:W}[si:SemWI wi it][sg:Ue tg ts g][sc:vB tt c][sf:SemW te f]:SemW (Xh wi tg tt te cap) (Vb cap ts it g c f) where
 h:=λ{ε Q'} h S Hs0 H0 Hs H U rd Q k=>si.h h rd λxs ε1 J Hs1 H1 h1 rd1 g1 ok=>by
  obtain ⟨hcap,hl,h1⟩:=h1;unfold zE at hcap;rw [yn] at hcap;have hnd:=yf hcap.1;have wk:∀ i∈ts,(b8 cap U)[i]?=some none:=λi hi=>by
   unfold b8;rw [yK,yf (uV.mp hcap.2 i hi)];rfl
  refine ⟨λn m zs H=>m=xs.length-n/\n<=xs.length/\∃ Hs2 ws ε2,RD [] Hs1 (zn (b8 cap U) (i4 cap ε1) H1) Hs2 H (b8 cap U) ε2/\Reps Hs2 ws zs/\ws.length<=n /\
    vV g c f ts (xs.drop n) ws ε2 (λys ε3=>((∃ y:PV,ε1[0]?=some (MSlot.ow y))->∃ y:PV,(qV cap ε3 ε1)[0]?=some (MSlot.ow y))/\Q' (PV.lst ys) (qV cap ε3 ε1)),
   ⟨xs.length,by simp,yd _,Hs1,[],_,rd1.block hnd,.nil,yT _,h1⟩,?_⟩
  rintro n m zs H2 ⟨rfl,hn,Hs2,ws,ε2,r2,rz,hw,h2⟩;refine ⟨zo (by rw [rz.length];omega),?_⟩;by_cases hlt:n<xs.length
  ·have hd:xs.drop n=xs[n]::xs.drop (n+1):=yj hlt;rw [hd] at h2;obtain ⟨ε3,e3,h3⟩:=h2;obtain ⟨go,yl⟩:=ok.go n xs[n] Hs2 H2 (by simp [hlt]) r2.s1 r2.s3;refine .inr ⟨go,λv H3 y=>?_⟩;obtain ⟨Hs3,x3,r3⟩:=yl v H3 y;refine sg.h e3 (r2.go x3) r3 λσ4 rd4 bt=>⟨bt.wk wk,sc.h h3 rd4 λb ε5 Hs5 H5 h5 rd5 g5=>?_⟩;cases b with
   |true=>refine qb (sf.h (by simpa using h5) rd5 λy ε6 u Hs6 H6 h6 rd6 g6 ru=>⟨xs.length-(n+1),by omega,rfl,hlt,Hs6,ws++[y],_,rd6.reset bt,?_,by rw [yL];simp;omega,h6⟩);exact (rz.mono (x3.s1.trans (g5.trans g6))).snoc ru
   |false=>exact qf ⟨xs.length-(n+1),by omega,rfl,hlt,Hs5,ws,_,rd5.reset bt,rz.mono (x3.s1.trans g5),by omega,by simpa using h5⟩
  ·have en:n=xs.length:=by omega
   subst en;rw [uT] at h2;refine .inl ⟨ok.stop Hs2 H2 r2.s1 r2.s3,λD hD=>?_⟩;have rd2:=rd1.unblock hnd r2 h2.1;exact k _ _ _ _ _ h2.2 (rd2.go (.new rd2.s3 hD)) (g1.trans (r2.s1.trans (Ext.new rd2.s3 hD).s1)) (rep_lst.mpr ⟨D,zs,rfl,j9,rz.mono (Ext.new rd2.s3 hD).s1⟩)
section
variable {P:Program}{w:World}{K:Fg}{mg:Str->Option Value}{base:Heap}
theorem wI {i:Nat}:(xs.map MSlot.sh++List.replicate n .no)[i]?≠some (.ow x):=λh=>by
 by_cases hi:i<xs.length
 ·rw [uZ (by rw [yZ];exact hi),yK] at h;obtain ⟨y,_,z⟩:=yx.mp h;cases z
 ·rw [uQ (by rw [yZ];omega),uJ] at h;split at h<;>cases h
theorem Wo {i:Nat}:(xs.map MSlot.sh++List.replicate n .no)[i]?≠some (.bo x):=λh=>by
 by_cases hi:i<xs.length
 ·rw [uZ (by rw [yZ];exact hi),yK] at h;obtain ⟨y,_,z⟩:=yx.mp h;cases z
 ·rw [uQ (by rw [yZ];omega),uJ] at h;split at h<;>cases h
theorem Td {a:Addr}{n:Int}(s:Same Hs H)(ha:Hs a=none)(hH:H a=some (.lst [.int n]))(r:Reps Hs xs ws):RD [a] Hs H Hs H (L2.start N (.ref a::ws)) (g0 n::xs.map .sh++List.replicate (N.length-(xs.length+1)) .no):=by
 have q:=jD (N:=N) (xs:= .at (.ref a)::xs) s (.cons (rep_at.mpr rfl) r);have tl:∀(i:Nat)(sl:MSlot),(g0 n::xs.map .sh++List.replicate (N.length-(xs.length+1)) .no)[i+1]?=some sl->((PV.at (.ref a)::xs).map MSlot.sh++List.replicate (N.length-(PV.at (.ref a)::xs).length) .no)[i+1]?=some sl:=λi sl h=>h;refine ⟨.refl _,λb o e _=>e,s,λ_ _ z=>z,λi x h=>?_,λi x h=>?_,λi j x y b h1 h2 _ _=>?_,?_,λb hb=>?_,λb hb=>?_,(λb hb=>⟨_,rfl⟩),λi x h=>by
  cases i with
  |zero=>unfold g0 at h;simp at h
  |succ i=>exact Wo (xs:=PV.at (.ref a)::xs) (tl i _ h)⟩
 ·cases i with
  |zero=>unfold g0 at h;simp at h
  |succ i=>exact q.sh (i+1) x (tl i _ h)
 ·cases i with
  |zero=>unfold g0 at h;simp at h;subst h;refine ⟨a,?_,.inr (yM.mpr rfl),ha,_,hH,.one (rep_at.mpr rfl)⟩;unfold L2.start;rfl
  |succ i =>
   obtain ⟨c,h1,_⟩:=q.ow (i+1) x (tl i _ h);exact absurd (tl i _ h) λz=>by
    have:=wI (i:=i+1) (x:=x) (xs:=PV.at (.ref a)::xs) (n:=N.length-(PV.at (.ref a)::xs).length);exact this z
 ·cases i with
  |zero =>
   cases j with
   |zero=>rfl
   |succ j=>exact absurd (tl j _ h2) (wI (xs:=PV.at (.ref a)::xs))
  |succ i=>exact absurd (tl i _ h1) (wI (xs:=PV.at (.ref a)::xs))
 ·exact q.len
 ·rw [yM.mp hb];unfold L2.start;rfl
 ·rw [yM.mp hb,hH];exact λz=>nomatch z
theorem okD {x:Str}{f:Addr}{k:Nat}(F:Fun K x qual st f fd)(S:v4 N ps (j3 st))(hpre:∀ xs,pre xs->xs.length+1=ps.length)(hb:∀(cdv:Value)(A:Around)(outer:List Env)(s:Shared)(H:Hp)(E:XK),Room k (A.deeper (PyProof.Rows.envOfC qual (j3 st) s.heap.objs.size f cdv)) -> ∃ t,PSs (qr v5 P w K mg base N qual (j3 st) f cdv A outer s H E).nox (n9 st) t/\SemWS t b)(hw:∀ xs n,pre xs->b (g0 n::xs.map .sh++List.replicate (N.length-(xs.length+1)) .no) (λ_=>False) λy ε=>R xs y/\jH 0 ε):FnOk P w K mg base v5 (k+1) f fd ps (spD pre R):=by
 refine F.ok S (λvs H Q E h=>?_) (λcdv A outer s H vs Q E hr h=>?_)
 ·obtain ⟨Hs,a,n,xs,ws,rfl,_,_,_,r,hp,_⟩:=h;rw [yH,r.length];exact hpre xs hp
 ·obtain ⟨Hs,a,n,xs,ws,rfl,sm,ha,hH,r,hp,q⟩:=h;obtain ⟨t,ht,sem⟩:=hb cdv A outer s H E hr;refine ⟨t,ht,sem.h (hw xs n hp) (Td sm ha hH r) (λε U Hs' H' z _ _=>z.elim) λy ε U v Hs' H' hR rd g rv=>?_⟩;obtain ⟨hR,n',hn'⟩:=hR;obtain ⟨a',ha',hH',hs',_⟩:=rd.strm_at hn';rw [rd.pin a (yM.mpr rfl)] at ha';injection ha' with ha';injection ha' with ha';injection ha' with ha';subst ha';refine q y v n' Hs' H' hR ⟨g,λb o e hb=>rd.s2 b o e λz=>hb (yM.mp z),rd.s3,λb h z=>rd.s4 b h z⟩ hs' hH' rv
end
def spN (pre:List PV->Prop)(R:List PV->PV->Prop):Sp:=λvs H Q _=>∃ Hs xs,Same Hs H/\Reps Hs xs vs/\pre xs/\∀ y a Hs' H',R xs y->Ext Hs H Hs' H'->H a=none->Hs' a=none->Top Hs' H' a y->Q (.ref a) H'
def spV (pre:List PV->Prop)(R:List PV->PV->Prop):Sp:=λvs H Q _=>∃ Hs xs,Same Hs H/\Reps Hs xs vs/\pre xs/\∀ y v Hs' H',R xs y->Ext Hs H Hs' H'->Rep Hs' y v->Q v H'
def Ca (i:Nat)(pre:List PV->Prop)(R:List PV->PV->Prop)(as:WA):WS:=λε N _=>as ε λxs ε1=>pre xs/\∀ y,R xs y->N (ε1.set i (.ow y))
instance {i:Nat}{as:WA}[sa:vA ta as]:SemWS (xS (qL (spN pre R) [] E ta) (qS (i+1))) (Ca (i+1) pre R as) where
 h:=λh _ _ _ _ _ _ rd _ k _=>sa.h h rd λxs ε1 vs Hs1 H1 h1 rd1 g1 r1=>by
  refine ⟨Hs1,xs,rd1.s3,by rw [yO];exact r1,h1.1,λy a Hs' H' hR x n n' t=>?_⟩;refine k _ _ _ _ (h1.2 y hR) ((rd1.go x).putO (.inl (rd1.free0 n)) n' t λj z hj e=>?_) (g1.trans x.s1);obtain ⟨b,hb,_,_,tb⟩:=rd1.ow j z hj;rw [e] at hb;injection hb with hb;injection hb with hb;injection hb with hb;subst hb;exact tb.there n
def PU (pre:List PV->Prop)(R:List PV->PV->Prop)(as:WA):W:=λε Q=>as ε λxs ε1=>pre xs/\∀ y,R xs y->Q y ε1
instance {as:WA}[sa:vA ta as]:SemW (qL (spV pre R) [] E ta) (PU pre R as) where
 h:=λh _ _ _ _ _ _ rd _ k=>sa.h h rd λxs ε1 vs Hs1 H1 h1 rd1 g1 r1 =>
  ⟨Hs1,xs,rd1.s3,by rw [yO];exact r1,h1.1,λy v Hs' H' hR x rv=>k y ε1 v Hs' H' (h1.2 y hR) (rd1.go x) (g1.trans x.s1) rv⟩
def PX (pre0:List PV->Prop)(R0:List PV->PV->Prop)(a0:MA)(pre:List PV->Prop)(R:List PV->PV->Prop)(as:MA):W:=λε Q=>∃ xs0 xs,a0 ε=some xs0/\as ε=some xs/\pre0 xs0/\(∀ y,R0 xs0 y->∃ n,y = .lst [.at (.int n)])/\pre xs/\∀ y,R xs y->Q y ε
instance {pre0:List PV->Prop}{R0:List PV->PV->Prop}{t0:TA}{a0:MA}{E':XK}[s0:o6 t0 a0][sa:o6 ta as]:SemW (qL (spD pre R) [] E (o5 (qL (spN pre0 R0) [] E' t0) ta)) (PX pre0 R0 a0 pre R as) where
 h:=λ{ε Q'} hh S Hs0 H0 Hs H U rd Q k=>by
  obtain ⟨xs0,xs,e0,e1,hp0,hR0,hp,h⟩:=hh;refine s0.h e0 rd.rs λvs0 Hs1 H1 x1 r1=>?_;refine ⟨Hs1,xs0,x1.s3,by rw [yO];exact r1,hp0,λy a Hs2 H2 hR x2 n n' t=>?_⟩;obtain ⟨m,rfl⟩:=hR0 y hR;have rd2:=(rd.go x1).go x2;refine sa.h e1 rd2.rs λvs Hs3 H3 x3 r3=>?_;obtain ⟨ws,hw,rw⟩:=t;obtain ⟨v,r,rfl,p1,p2⟩:=reps_cons.mp rw;cases reps_nil.mp p2;cases rep_at.mp p1;have hw3:=x3.s2 _ _ hw;have n3:Hs3 a=none:=x3.s4 a (by rw [hw];exact λz=>nomatch z) n';refine ⟨Hs3,a,m,xs,vs,by rw [yO],x3.s3,n3,hw3,r3,hp,λz u m' Hs' H' hRz xd na ea ru=>?_⟩;have rd3:=rd2.go x3;have an:∀(j:Nat)(y:PV),ε[j]?=some (MSlot.ow y)->U[j]?≠some (some (V.ref a)):=λj y hj e=>by
   obtain ⟨b,hb,_,_,tb⟩:=(rd.go x1).ow j y hj;rw [e] at hb;injection hb with hb;injection hb with hb;injection hb with hb;subst hb;exact tb.there n
  have h0a:=(rd.go x1).free0 n;refine k z _ u Hs' H' (h z hRz) ⟨rd3.s1.trans xd.s1,λb o e hS=>xd.s2 b o (rd3.s2 b o e hS) (λw=>by rw [w,h0a] at e;cases e),xd.s3,λb hb w=>xd.s4 b (rd3.there hb) (rd3.s4 b hb w),λi x hx=>?_,λi x hx=>?_,rd3.nd,rd3.len,rd3.pin,λb hS=>?_,rd3.str,rd3.nb⟩ (x1.s1.trans (x2.s1.trans (x3.s1.trans xd.s1))) ru
  ·obtain ⟨v,hv,rv⟩:=rd3.sh i x hx;exact ⟨v,hv,rv.mono xd.s1⟩
  ·obtain ⟨b,hb,m0,m1,tb⟩:=rd3.ow i x hx;have hne:b≠a:=λw=>an i x hx (w▸hb);exact ⟨b,hb,m0,xd.s4 b tb.there m1,tb.mono xd.s1 λo ho=>xd.s2 b o ho hne⟩
  ·have hl:=rd3.live b hS;have hne:b≠a:=λw=>by
    have:=(rd.go x1).live b hS;rw [w] at this;exact this n
   cases q:H3 b with
   |none=>exact absurd q hl
   |some o=>rw [xd.s2 b o q hne];exact λz=>nomatch z
section
variable {P:Program}{w:World}{K:Fg}{mg:Str->Option Value}{base:Heap}
theorem Wl (s:Same Hs H)(r:Reps Hs xs vs):RD [] Hs H Hs H (L2.start N vs) (xs.map .sh++List.replicate (N.length-xs.length) .no):=by have q:=jD (N:=N) s r;exact ⟨.refl _,λb o e _=>e,s,λ_ _ z=>z,q.sh,λi x h=>absurd h wI,q.nd,q.len,(λ_ z=>nomatch z),(λ_ z=>nomatch z),(λ_ z=>nomatch z),λ_ _=>Wo⟩
theorem okV {x:Str}{f:Addr}{k:Nat}(F:Fun K x qual st f fd)(S:v4 N ps (j3 st))(hpre:∀ xs,pre xs->xs.length=ps.length)(hb:∀(cdv:Value)(A:Around)(outer:List Env)(s:Shared)(H:Hp)(E:XK),Room k (A.deeper (PyProof.Rows.envOfC qual (j3 st) s.heap.objs.size f cdv)) -> ∃ t,PSs (qr v5 P w K mg base N qual (j3 st) f cdv A outer s H E).nox (n9 st) t/\SemWS t b)(hw:∀ xs,pre xs->b (xs.map .sh++List.replicate (N.length-xs.length) .no) (λ_=>False) λy _=>R xs y):FnOk P w K mg base v5 (k+1) f fd ps (spV pre R):=by
 refine F.ok S (λvs H Q E h=>?_) (λcdv A outer s H vs Q E hr h=>?_)
 ·obtain ⟨Hs,xs,_,r,hp,_⟩:=h;rw [r.length];exact hpre xs hp
 ·obtain ⟨Hs,xs,sm,r,hp,q⟩:=h;obtain ⟨t,ht,sem⟩:=hb cdv A outer s H E hr;refine ⟨t,ht,sem.h (hw xs hp) (Wl sm r) (λε U Hs' H' z _ _=>z.elim) λy ε U v Hs' H' hR rd g rv=>?_⟩;exact q y v Hs' H' hR ⟨g,λb o e=>rd.s2 b o e yJ,rd.s3,rd.s4⟩ rv
def scr (K:Fg)(ns:List Int):PV:= .op λH v=>∃ a,v = .ref a/\SqL K H a (ns.map V.int)
theorem BX {K:Fg}{ns:List Int}(s:Same Hs H)(r:Rep Hs (scr K ns) v):∃ a,v = .ref a/\SqL K H a (ns.map V.int):=by obtain ⟨H1,s1,a,rfl,q⟩:=rep_op.mp r;exact ⟨a,rfl,(s1.trans s).seq q⟩
def Zv (K:Fg):Sp:=λvs H Q _=>∃(a:Addr)(ns:List Int),vs=[.ref a]/\SqL K H a (ns.map V.int)/\ns.length<=63/\∀ H',Q (.bl true) H'
theorem okL {x:Str}{f:Addr}{k:Nat}(F:Fun K x qual st f fd)(S:v4 N ["script"] (j3 st))(hb:∀ (cdv:Value) (A:Around) (outer:List Env) (s:Shared) (H:Hp) (E:XK),Room k (A.deeper (PyProof.Rows.envOfC qual (j3 st) s.heap.objs.size f cdv)) -> ∃ t,PSs (qr v5 P w K mg base N qual (j3 st) f cdv A outer s H E).nox (n9 st) t/\SemWS t b)(hw:∀ ns:List Int,ns.length<=63->b (.sh (scr K ns)::List.replicate (N.length-1) .no) (λ_=>False) λy _=>y = .at (.bl true)):FnOk P w K mg base v5 (k+1) f fd ["script"] (Zv K):=by
 refine F.ok S (λvs H Q E h=>?_) (λcdv A outer s H vs Q E hr h=>?_)
 ·obtain ⟨a,ns,rfl,_⟩:=h;rfl
 ·obtain ⟨a,ns,rfl,hS,h63,q⟩:=h;obtain ⟨t,ht,sem⟩:=hb cdv A outer s H E hr;have r:Reps H [scr K ns] [.ref a]:= .one (rep_op.mpr ⟨H,.refl _,a,rfl,hS⟩);refine ⟨t,ht,sem.h (hw ns h63) (Wl (N:=N) (.refl H) r) (λε U Hs' H' z _ _=>z.elim) λy ε U v Hs' H' hR rd g rv=>?_⟩;subst hR;cases rep_at.mp rv;exact q H'
end
variable {fr:Bool}
def wChg (i:Nat)(g:List PV->List PV):WS:=λε N _=>∃ xs,ε[i]?=some (.ow (.lst xs))/\N (ε.set i (.ow (.lst (g xs))))
instance {i:Nat}:SemWS (xi (tBM0 K "list" BF (b9 i))) (wChg i λxs=>xs.reverse) where
 h:=λ⟨xs,hx,h⟩ _ _ _ _ _ _ rd _ k _=>by
  obtain ⟨p,hp,n0,n,vs,hv,rv⟩:=rd.ow i _ hx;exact ⟨_,hp,.inl ⟨rfl,vs,SqL.of hv⟩,p,vs,rfl,rfl,hv,k _ _ _ _ h (rd.change hx hp ⟨_,j9,rv.reverse⟩) (.refl _)⟩
class ZO (tg:TGs)(g:List PV->ME->Option ME):Prop where
 h:∀{xs ε ε'},g xs ε=some ε'->∀{S Hs0 H0 Hs H U vs},RD S Hs0 H0 Hs H U ε->Reps Hs xs vs->∀{Q:St->Hp->Prop},(∀ σ',RD S Hs0 H0 Hs H σ' ε'->Q σ' H)->tg vs U H Q
instance:ZO gNil zp where
 h:=λ{xs ε ε'} e {_ _ _ _ _ _ _} rs r {_} q=>by
  unfold zp at e;split at e
  ·cases e;exact ⟨reps_nil.mp r,q _ rs⟩
  ·cases e
instance {t:TG}{u:TGs}{r:List PV->ME->Option ME}[sg:SemWG t g][sr:ZO u r]:ZO (Jk t u) (i0 g r) where
 h:=λ{xs ε ε'} e {_ _ _ _ _ _ _} rs rr {_} q=>by
  unfold i0 at e;split at e
  ·obtain ⟨ε1,e1,e2⟩:=bind_some e;obtain ⟨v,w,rfl,r1,r2⟩:=reps_cons.mp rr;exact ⟨v,w,rfl,sg.h e1 rs r1 λσ1 rs1=>sr.h e2 rs1 r2 λσ2 rs2=>q _ rs2⟩
  ·cases e
instance {t:TGs}{g:List PV->ME->Option ME}[sg:ZO t g]:SemWG (gTup K n t) (zr n g) where
 h:=λ{x ε ε'} e {_ _ _ _ _ _ _} rs rr {_} q=>by
  unfold zr at e;split at e
  ·split at e
   ·rename_i hl;obtain ⟨a,vs,rfl,h,r⟩:=rep_tup.mp rr;exact ⟨a,vs,rfl,SqT.of (rs.s3 _ _ h),by rw [r.length];exact hl,sg.h e rs r λσ' rs'=>q _ rs'⟩
   ·cases e
  ·cases e
class jN (w:W):Prop where
 h:∀{ε:ME}{P P':PV->ME->Prop},(∀ y e,P y e->P' y e)->w ε P->w ε P'
class wQ (w:WA):Prop where
 h:∀{ε:ME}{P P':List PV->ME->Prop},(∀ y e,P y e->P' y e)->w ε P->w ε P'
class wR (w:WT):Prop where
 h:∀{ε:ME}{P P':Bool->ME->Prop},(∀ y e,P y e->P' y e)->w ε P->w ε P'
class vx (w:WS):Prop where
 h:∀{ε:ME}{N N':ME->Prop}{R R':PV->ME->Prop},(∀ e,N e->N' e)->(∀ y e,R y e->R' y e)->w ε N R->w ε N' R'
instance {f:M}:jN (wP f) where h:=λk ⟨y,e,q⟩=>⟨y,e,k _ _ q⟩
instance {f:MB}:wR (wPT f) where h:=λk ⟨y,e,q⟩=>⟨y,e,k _ _ q⟩
instance:wR ZD where h:=λk h=>k _ _ h
theorem VL {c:Bool}{A B A' B':Prop}(h1:A->A')(h2:B->B')(h:if c=true then A else B):if c=true then A' else B':=by
 cases c with
 |true=>exact qb (h1 (by simpa using h))
 |false=>exact qf (h2 (by simpa using h))
instance:wQ vu where h:=λk h=>k _ _ h
instance {a:W}[A:jN a][B:wQ r]:wQ (xU a r) where h:=λk h=>A.h (λ_ _ h1=>B.h (λ_ _ h2=>k _ _ h2) h1) h
instance {i:Nat}{a:WA}[A:wQ a]:jN (Vc i pre R a) where h:=λk h=>⟨h.1,A.h (λ_ _ ⟨h1,h2,h3⟩=>⟨h1,h2,λy n r=>k _ _ (h3 y n r)⟩) h.2⟩
instance {f:MA}:wQ (wIp f) where h:=λk ⟨y,e,q⟩=>⟨y,e,k _ _ q⟩
theorem YR {g:MG}{c:WT}{f:W}{ts:List Nat}[C:wR c][F:jN f]{Q Q':List PV->ME->Prop}(k:∀ y e,Q y e->Q' y e):∀(xs ys:List PV)(ε:ME),vV g c f ts xs ys ε Q->vV g c f ts xs ys ε Q'
 |[],ys,ε,h=>k _ _ h
 |x::xs,ys,ε,h=>by
  obtain ⟨ε1,e1,h1⟩:=h;exact ⟨ε1,e1,C.h (λb ε2 h2=>VL (λh3=>F.h (λy ε3 h4=>YR k xs _ _ h4) h3) (λh3=>YR k xs _ _ h3) h2) h1⟩
instance {cap:List (Option Nat)}{it:WA}{c:WT}{f:W}[I:wQ it][C:wR c][F:jN f]:jN (Vb cap ts it g c f) where
 h:=λk h=>I.h (λ_ _ ⟨h1,h2,h3⟩=>⟨h1,h2,YR (λ_ _ ⟨q1,q2⟩=>⟨q1,k _ _ q2⟩) _ _ _ h3⟩) h
instance:vx xu where h:=λk _ h=>k _ h
instance {a:W}[A:jN a]:vx (xL a) where h:=λ_ r h=>A.h r h
instance {c:WT}{a:WS}[C:wR c][A:vx a][B:vx b]:vx (zA c a b) where h:=λk r h=>C.h (λ_ _ h1=>VL (λh2=>A.h k r h2) (λh2=>B.h k r h2) h1) h
theorem Vp {g:MG}{c:WT}{f:W}{ts:List Nat}{Q:List PV->ME->Prop}[C:wR c][F:jN f](I:List PV->List PV->ME->Prop)(hd:∀ ys ε,I [] ys ε->Q ys ε)(hs:∀ x xs ys ε,I (x::xs) ys ε->∃ ε1,g x ε=some ε1/\c ε1 λb ε2=>if b=true then f ε2 λy ε3=>I xs (ys++[y]) (rst ts ε3) else I xs ys (rst ts ε2)):∀(xs ys:List PV)(ε:ME),I xs ys ε->vV g c f ts xs ys ε Q
 |[],ys,ε,h=>hd ys ε h
 |x::xs,ys,ε,h=>by
  obtain ⟨ε1,e1,h1⟩:=hs x xs ys ε h;exact ⟨ε1,e1,C.h (λb ε2 h2=>VL (λh3=>F.h (λy ε3 h4=>Vp I hd hs xs _ _ h4) h3) (λh3=>Vp I hd hs xs _ _ h3) h2) h1⟩
theorem GE {f:W}{Q:List PV->ME->Prop}[F:jN f](I:List PV->List PV->ME->Prop)(hd:∀ ys ε,I [] ys ε->Q ys ε)(hs:∀ x xs ys ε,I (x::xs) ys ε->∃ ε1,g x ε=some ε1/\f ε1 λy ε3=>I xs (ys++[y]) (rst ts ε3))(xs ys:List PV)(ε:ME)(h:I xs ys ε):vV g ZD f ts xs ys ε Q :=
 Vp I hd (λx xs ys ε h=>by
  obtain ⟨ε1,e,q⟩:=hs x xs ys ε h;refine ⟨ε1,e,?_⟩;show if true=true then (f ε1 λy ε3=>I xs (ys++[y]) (rst ts ε3)) else I xs ys (rst ts ε1)
  rw [if_pos rfl];exact q) xs ys ε h
theorem VP {g:MG}{f:WS}{N:ME->Prop}{R:PV->ME->Prop}[F:vx f](I:List PV->ME->Prop)(hd:∀ ε,I [] ε->N ε)(hs:∀ x xs ε,I (x::xs) ε->∃ ε1,g x ε=some ε1/\f ε1 (λε2=>I xs ε2) R):∀(xs:List PV)(ε:ME),I xs ε->ZC g f xs ε N R
 |[],ε,h=>hd ε h
 |x::xs,ε,h=>by
  obtain ⟨ε1,e1,h1⟩:=hs x xs ε h;exact ⟨ε1,e1,F.h (λε2 h2=>VP I hd hs xs ε2 h2) (λ_ _ z=>z) h1⟩
section
variable {ε ε1:ME}{a b:MS}{f g:M}{x y z:PV}{i:Nat}{o:Option Out}
theorem u7 (h:a ε=some (.nx ε1))(k:b ε1=o):y4 a b ε=o:=by unfold y4;rw [h];exact k
theorem Ji (h:a ε=some (.rt y)):y4 a b ε=some (.rt y):=by unfold y4;rw [h];rfl
theorem xN (h:f ε=some x):qk i f ε=some (.nx (ε.set i (.sh x))):=by unfold qk;rw [h];rfl
theorem VA (h:f ε=some x):Qr i f ε=some (.nx (ε.set i (.ow x))):=by unfold Qr;rw [h];rfl
theorem k9 (h:f ε=some x):y8 f ε=some (.rt x):=by unfold y8;rw [h];rfl
theorem v6 {G:PV->PV->Option PV}{r:Option PV}(h1:f ε=some x)(h2:g ε=some y)(h:G x y=r):z9 G f g ε=r:=by unfold z9;rw [h1];show Option.bind (g ε) _=_;rw [h2];exact h
theorem j4 {r:Option PV}(h1:as ε=some xs)(h:m xs=r):x9 m as ε=r:=by unfold x9;rw [h1];exact h
theorem j5 {r:MA}(h1:f ε=some x)(h2:r ε=some xs):q0 f r ε=some (x::xs):=by unfold q0;rw [h1];show Option.bind (r ε) _=_;rw [h2];rfl
theorem Jg (h:c ε=some true)(k:a ε=o):p6 c a b ε=o:=by unfold p6;rw [h];exact k
theorem qG (h:c ε=some false)(k:b ε=o):p6 c a b ε=o:=by unfold p6;rw [h];exact k
theorem GY (h:it ε=some xs)(k:xA G a xs ε=o):Xy it G a ε=o:=by unfold Xy;rw [h];exact k
theorem xC (h:as ε=some xs)(hl:xs.length<=lim):m8 as ε=some (.lst xs):=by unfold m8;rw [h];show (if _ then _ else _)=_;rw [if_pos hl]
theorem xD (h:as ε=some xs)(hl:xs.length<=lim):ql as ε=some (.tup xs):=by unfold ql;rw [h];show (if _ then _ else _)=_;rw [if_pos hl]
theorem GU {cap:List (Option Nat)}(h:it ε=some xs)(hc:zE cap ts=true)(hl:xs.length<=lim)(k:qP G c f (i4 cap ε) xs=some ys):t6 cap ts it G c f ε=some (.lst ys):=by unfold t6;rw [h];show (if _ then _ else _)=_;rw [if_pos ⟨hc,hl⟩,k];rfl
end
theorem JF (h:xs.length+ys.length<=lim):qv (.lst xs) (.lst ys)=some (.lst (xs++ys)):=by show (if _ then _ else _)=_;rw [if_pos h]
theorem Jf {k:Nat}{b:MS}(hl:xs.length=k)(h:b (xs.map .sh++List.replicate (n-k) .no)=some (.rt y)):jV n k b xs=some y:=by unfold jV;rw [if_pos hl,h];rfl
theorem i7 {k:Nat}{b:MS}(hl:xs.length=k)(h:b (xs.map .sh++List.replicate (n-k) .no)=some (.rt y)):u8 n k b xs=some y:=by unfold u8;rw [if_pos hl,h];rfl
theorem We {f:PV->PV->Option Bool}:∀{xs:List PV},(∀ x∈xs,f x x=some true)->jb f xs xs=some true
 |[],_=>rfl
 |x::xs,h=>by unfold jb;rw [h x yU];show Option.bind (jb f xs xs) _=_;rw [We λy hy=>h y (yS _ hy)];rfl
def vj:Nat->PV->Prop
 |_,.at u=>u4 u=true
 |n+1,.lst xs=>∀ x∈xs,vj n x
 |n+1,.tup xs=>∀ x∈xs,vj n x
 |_,_=>False
theorem JJ:∀(n:Nat){x:PV},vj n x->peq n x x=some true
 |0,x,h=>by
  cases x with
  |«at» u=>show (if _ then _ else _)=_;rw [if_pos ⟨h,h⟩,Jd h]
  |_=>exact h.elim
 |n+1,x,h=>by
  cases x with
  |«at» u=>show (if _ then _ else _)=_;rw [if_pos ⟨(show u4 u=true from h),h⟩,Jd h]
  |lst xs=>show (if _ then _ else _)=_;rw [if_pos rfl];exact We λy hy=>JJ n (h y hy)
  |tup xs=>show Option.bind (jb (peq n) xs xs) _=_;rw [We λy hy=>JJ n (h y hy)];show some (true&&(xs.length==xs.length))=_;rw [beq_self_eq_true];rfl
  |_=>exact h.elim
theorem Rc (h:vj 6 x):pEq x x=some (.at (.bl true)):=by unfold pEq;rw [JJ 6 h];rfl
theorem QU (h:vj 6 x):pNe x x=some (.at (.bl false)):=by unfold pNe;rw [JJ 6 h];rfl
class k8 (K:Fg)(C:Addr):Prop where
 c:Cls K C
class w9 (K:Fg)(C:Addr)(f:Str):Prop where
 n:NoAttr K C f
def QI (f:Str):List Str->List PV->Option PV
 |n::ns,x::xs=>if f=n then some x else QI f ns xs
 |_,_=>none
theorem KK {H:Hp}{f:Str}{y:PV}:∀{fs:List (Str×V)}{xs:List PV},Reps H xs (fs.map (·.2))->QI f (fs.map (·.1)) xs=some y->∃ v,fs.lookup f=some v/\Rep H y v
 |[],xs,r,h=>by cases xs<;>cases h
 |p::fs,xs,r,h=>by
  cases xs with
  |nil=>cases h
  |cons x xs =>
   obtain ⟨v,w,e,p1,p2⟩:=reps_cons.mp r;rw [yI] at e;injection e with e1 e2;subst e1 e2;rw [yI] at h;unfold QI at h;rw [yg];split at h
   ·rename_i hf;cases h;rw [hf,beq_self_eq_true];exact ⟨p.2,rfl,p1⟩
   ·rename_i hf;rw [beq_eq_false_iff_ne.mpr hf];exact KK p2 h
def p5 (C:Addr)(f:Str)(a:M):M:=λε=>(a ε).bind λx=>match x with
 | .ob C' ns xs=>if C'=C then QI f ns xs else none
 |_=>none
theorem DF (h:p5 C f a ε=some y):∃ ns xs,a ε=some (.ob C ns xs)/\QI f ns xs=some y:=by
 unfold p5 at h;obtain ⟨x,ex,h1⟩:=bind_some h;split at h1
 ·split at h1
  ·rename_i hc;subst hc;exact ⟨_,_,ex,h1⟩
  ·cases h1
 ·cases h1
instance [c:k8 K C][n:w9 K C f][s:qq te a]:SemE (tFld K te f) (p5 C f a) where
 h:=λe _ _ _ _ _ rs _ q=>by
  obtain ⟨ns,xs,ea,el⟩:=DF e;refine s.h ea rs λv Hs1 H1 x1 r1=>?_;obtain ⟨p,dx,fs,rfl,hp,hk,hr⟩:=BP x1.s3 r1;rw [<- hk] at el;obtain ⟨u,hu,ru⟩:=KK hr el;exact ⟨p,C,dx,fs,u,rfl,hp,c.c,n.n,hu,q u _ _ x1 ru⟩
theorem qp {e:Expr}{ta:TE}(hK:X.K=K)(he:PE X e ta)(hb:attributeBase e f X.env (eval e X.env)=eval e X.env:=by rfl):PE X (.Attribute e f pos) (tFld K ta f):=by subst hK;exact Rj he hb
structure Mt (P:Program)(w:World)(K:Fg)(mg:Str->Option Value)(base:Heap)(k:Nat)(C:Addr)(m:Str)(ps:List Str)(sp:Sp):Prop where
 ex:∃ f fd,FnOk P w K mg base v5 k f fd ps sp/\wO K C m f/\Cls K C/\Binds K fd ps []
section
variable {X:Cx}{k j:Nat}{C:Addr}{m:Str}{ps:List Str}{sp:Sp}{o e:Expr}{es:List Expr}{ta:TE}{t:TA}{apos pos:Pos}
theorem Zf (c:Mt X.prog X.w X.K X.mg X.base k C m ps sp)(hr:Room j X.A)(hj:k<=j)(ho:PE X o ta)(ha:PA X (e::es) t)
  (hst:starEach (e::es) X.env=(false,eval e X.env)::starEach es X.env:=by rfl) (hpl:(backTo pos (starEach es X.env)).any (·.1)=false:=by rfl)
  (ht:eval (.Call (.Attribute o m apos) (e::es) [] pos) X.env=(do
   let ov <- eval o X.env
   standAt apos.atName
   let (f,first) <- holding [ov] (getMethod ov m pl)
   callWith pos f first (backTo pos (starEach (e::es) X.env)) (backToKw pos (keywordEach [] X.env))):=by rfl) :
  PE X (.Call (.Attribute o m apos) (e::es) [] pos) (qi C m sp [] E0 ta t):=by
 obtain ⟨f,fd,F,hm,hc,hb⟩:=c.ex;exact Bj ho hc hm F (hr.mono hj) hb .nil VZ ha hst hpl ht
theorem c6 (c:Mt X.prog X.w X.K X.mg X.base k C m ps sp)(hr:Room j X.A)(hj:k<=j)(ho:PE X o ta)
  (ht:eval (.Call (.Attribute o m apos) [] [] pos) X.env=(do
   let ov <- eval o X.env
   standAt apos.atName
   let (f,first) <- holding [ov] (getMethod ov m pl)
   callWith pos f first (backTo pos (starEach [] X.env)) (backToKw pos (keywordEach [] X.env))):=by rfl) :
  PE X (.Call (.Attribute o m apos) [] [] pos) (qi C m sp [] E0 ta qF):=by
 obtain ⟨f,fd,F,hm,hc,hb⟩:=c.ex;exact Bk ho hc hm F (hr.mono hj) hb .nil VZ ht
end
variable {fr:Bool}
def zG:PV->Option v3
 | .at (.int i)=>some (.inl i)
 | .at (.str x)=>some (.inr x)
 |_=>none
theorem va {k:v3}(r:RepB Hs H x v)(h:zG x=some k):v=kV k:=by
 unfold zG at h;split at h
 ·cases h;cases u5 r;rfl
 ·cases h;cases u5 r;rfl
 ·cases h
def qC {κ:Type}[DecidableEq κ](k:κ):List κ->List PV->Option PV
 |n::ns,x::xs=>if n=k then some x else qC k ns xs
 |_,_=>none
theorem Ju {κ:Type}[DecidableEq κ]{H:Hp}{k:κ}:∀{kvs:List (κ×V)}{xs:List PV},Reps H xs (kvs.map (·.2))->match qC k (kvs.map (·.1)) xs with
  |some y=>∃ v,xn kvs k=some v/\Rep H y v
  |none=>xn kvs k=none
 |[],xs,r=>by
  have hx:xs=[]:=uI.mp r.length.symm;subst hx;rfl
 |p::kvs,xs,r=>by
  cases xs with
  |nil=>have:=r.length;simp at this
  |cons x xs =>
   obtain ⟨v,w,e,p1,p2⟩:=reps_cons.mp r;rw [yI] at e;injection e with e1 e2;subst e1 e2;rw [yI];unfold qC;by_cases hk:p.1=k
   ·rw [if_pos hk];refine ⟨p.2,?_,p1⟩;unfold xn;rw [uL,yu hk];rfl
   ·rw [if_neg hk];have ih:=Ju (k:=k) p2;have ev:xn (p::kvs) k=xn kvs k:=by unfold xn;rw [uL,yP hk]
    rw [ev];exact ih
def Xx (a b:M):M:=λε=>(a ε).bind λx=>(b ε).bind λy=>(zG y).bind λk=>match x with
 | .dk ks xs=>qC k ks xs
 | .fk ks xs=>qC k ks xs
 |_=>none
instance {ty:TE}{b:M}[sa:qq td a][sb:qq ty b]:SemE (Pn td ty) (Xx a b) where
 h:=λe _ _ _ _ _ rs _ q=>by
  obtain ⟨x,ex,e1⟩:=bind_some e;obtain ⟨y,ey,e2⟩:=bind_some e1;obtain ⟨k,ek,e3⟩:=bind_some e2;split at e3
  ·refine sa.h ex rs λv Hs1 H1 x1 r1=>sb.h ey (rs.go x1) λw Hs2 H2 x2 r2=>?_;obtain ⟨p,kvs,rfl,hp,hk,hr⟩:=jc x2.s3 (r1.ext x2);have l:=Ju (k:=k) hr;rw [hk,e3] at l;obtain ⟨u,hu,ru⟩:=l;have ew:=va r2 ek;subst ew;exact ⟨p,u,rfl,by rw [<- hu];exact DGet.k hp,q u _ _ (x1.trans x2) ru⟩
  ·refine sa.h ex rs λv Hs1 H1 x1 r1=>sb.h ey (rs.go x1) λw Hs2 H2 x2 r2=>?_;obtain ⟨p,o,kvs,rfl,hp,hk,hr⟩:=Zo x2.s3 (r1.ext x2);have l:=Ju (k:=k) hr;rw [hk,e3] at l;obtain ⟨u,hu,ru⟩:=l;have ew:=va r2 ek;subst ew;exact ⟨p,u,rfl,by rw [<- hu];exact .inl ⟨kvs,k,.inr ⟨o,hp⟩,rfl,rfl⟩,q u _ _ (x1.trans x2) ru⟩
  ·cases e3
def vI (b a:M):M:=λε=>(b ε).bind λy=>(a ε).bind λx=>(zG y).bind λk=>match x with
 | .dk ks xs=>some (.at (.bl (qC k ks xs).isSome))
 | .fk ks xs=>some (.at (.bl (qC k ks xs).isSome))
 |_=>none
def Qo (b a:M):M:=λε=>(b ε).bind λy=>(a ε).bind λx=>(zG y).bind λk=>match x with
 | .dk ks xs=>some (.at (.bl (!(qC k ks xs).isSome)))
 | .fk ks xs=>some (.at (.bl (!(qC k ks xs).isSome)))
 |_=>none
theorem QH {κ:Type}[DecidableEq κ]{k:κ}{kvs:List (κ×V)}(r:Reps H xs (kvs.map (·.2))):(qC k (kvs.map (·.1)) xs).isSome=(xn kvs k).isSome:=by
 have l:=Ju (k:=k) r;cases e:qC k (kvs.map (·.1)) xs with
 |none=>rw [e] at l;rw [show xn kvs k=none from l];rfl
 |some y=>rw [e] at l;obtain ⟨v,hv,_⟩:=l;rw [hv];rfl
instance {ty:TE}{b:M}[sa:qq td a][sb:qq ty b]:SemE (tDIn ty td) (vI b a) where
 h:=λe _ _ _ _ _ rs _ q=>by
  obtain ⟨y,ey,e1⟩:=bind_some e;obtain ⟨x,ex,e2⟩:=bind_some e1;obtain ⟨k,ek,e3⟩:=bind_some e2;split at e3
  ·cases e3;refine sb.h ey rs λw Hs1 H1 x1 r1=>sa.h ex (rs.go x1) λv Hs2 H2 x2 r2=>?_;obtain ⟨p,kvs,rfl,hp,hk,hr⟩:=jc x2.s3 r2;have ew:=va r1 ek;subst ew;exact ⟨p,_,rfl,DGet.k hp,q _ _ _ (x1.trans x2) (rep_at.mpr (by rw [<- hk,QH hr]))⟩
  ·cases e3;refine sb.h ey rs λw Hs1 H1 x1 r1=>sa.h ex (rs.go x1) λv Hs2 H2 x2 r2=>?_;obtain ⟨p,o,kvs,rfl,hp,hk,hr⟩:=Zo x2.s3 r2;have ew:=va r1 ek;subst ew;exact ⟨p,_,rfl,.inl ⟨kvs,_,.inr ⟨o,hp⟩,rfl,rfl⟩,q _ _ _ (x1.trans x2) (rep_at.mpr (by rw [<- hk,QH hr]))⟩
  ·cases e3
instance {ty:TE}{b:M}[sa:qq td a][sb:qq ty b]:SemE (Pq ty td) (Qo b a) where
 h:=λe _ _ _ _ _ rs _ q=>by
  obtain ⟨y,ey,e1⟩:=bind_some e;obtain ⟨x,ex,e2⟩:=bind_some e1;obtain ⟨k,ek,e3⟩:=bind_some e2;split at e3
  ·cases e3;refine sb.h ey rs λw Hs1 H1 x1 r1=>sa.h ex (rs.go x1) λv Hs2 H2 x2 r2=>?_;obtain ⟨p,kvs,rfl,hp,hk,hr⟩:=jc x2.s3 r2;have ew:=va r1 ek;subst ew;exact ⟨p,_,rfl,DGet.k hp,q _ _ _ (x1.trans x2) (rep_at.mpr (by rw [<- hk,QH hr]))⟩
  ·cases e3;refine sb.h ey rs λw Hs1 H1 x1 r1=>sa.h ex (rs.go x1) λv Hs2 H2 x2 r2=>?_;obtain ⟨p,o,kvs,rfl,hp,hk,hr⟩:=Zo x2.s3 r2;have ew:=va r1 ek;subst ew;exact ⟨p,_,rfl,.inl ⟨kvs,_,.inr ⟨o,hp⟩,rfl,rfl⟩,q _ _ _ (x1.trans x2) (rep_at.mpr (by rw [<- hk,QH hr]))⟩
  ·cases e3
def XA:M:=λ_=>some (.dk [] [])
instance:xo Po XA where
 h:=λe _ _ _ _ _ rs _ q=>by
  cases e;exact λp hp=>q p _ _ (.newO rs.sub hp) hp (rs.sub.free hp) ⟨[],j9,rfl,.nil⟩
def Zn {κ:Type}[DecidableEq κ](k:κ)(y:PV):List κ->List PV->List PV
 |n::ns,x::xs=>if n=k then y::Zn k y ns xs else x::Zn k y ns xs
 |_,xs=>xs
def jA (k:v3)(y:PV)(ks:List v3)(xs:List PV):PV:=if (qC k ks xs).isSome=true then .dk ks (Zn k y ks xs) else .dk (ks++[k]) (xs++[y])
theorem Wg {κ:Type}[DecidableEq κ]{H:Hp}{k:κ}{y:PV}{v:V}(ry:Rep H y v):∀{kvs:List (κ×V)}{xs:List PV},Reps H xs (kvs.map (·.2))->Reps H (Zn k y (kvs.map (·.1)) xs) ((kvs.map (λkv=>if kv.1=k then (kv.1,v) else kv)).map (·.2))/\(kvs.map (λkv=>if kv.1=k then (kv.1,v) else kv)).map (·.1)=kvs.map (·.1)
 |[],xs,r=>by
  have hx:xs=[]:=uI.mp r.length.symm;subst hx;exact ⟨.nil,rfl⟩
 |p::kvs,xs,r=>by
  cases xs with
  |nil=>have:=r.length;simp at this
  |cons x xs =>
   obtain ⟨u,w,e,p1,p2⟩:=reps_cons.mp r;rw [yI] at e;injection e with e1 e2;subst e1 e2;obtain ⟨h1,h2⟩:=Wg (k:=k) ry p2;rw [yI,yI,yI,yI];unfold Zn;by_cases hk:p.1=k
   ·rw [if_pos hk,if_pos hk];exact ⟨.cons ry h1,by rw [h2]⟩
   ·rw [if_neg hk,if_neg hk];exact ⟨.cons p1 h1,by rw [h2]⟩
def zO (i:Nat)(kk vv:M):MS:=λε=>(vv ε).bind λy=>(kk ε).bind λx=>(zG x).bind λk=>match ε[i]? with
 |some (.ow (.dk ks xs))=>if ks.length<=lim then some (.nx (ε.set i (.ow (jA k y ks xs)))) else none
 |_=>none
instance {i:Nat}{ty:TE}{kk vv:M}[sk:SemE ty kk][sv:SemE tv vv]:o3 fr (Wq (b9 i) ty tv) (zO i kk vv) where
 h:=λe _ _ _ _ _ rs _ q=>by
  obtain ⟨y,ey,e1⟩:=bind_some e;obtain ⟨x,ex,e2⟩:=bind_some e1;obtain ⟨k,ek,e3⟩:=bind_some e2;split at e3
  ·rename_i ks xs hi;split at e3
   ·rename_i hl;cases e3;refine sv.h ey rs λv Hs1 H1 x1 r1=>?_;obtain ⟨p,hp,n0,n,t⟩:=(rs.go x1).ow i _ hi;refine ⟨_,hp,sk.h ex (rs.go x1) λw Hs2 H2 x2 r2=>?_⟩;obtain ⟨p',hp',_,n2,kvs,hv,hk,hr⟩:=((rs.go x1).go x2).ow i _ hi;rw [hp] at hp';injection hp' with hp';injection hp' with hp';injection hp' with hp';subst hp';have ew:=va (.inl r2:RepB Hs2 H2 x w) ek;subst ew;have hlen:kvs.length<=lim:=by rw [<- hk,yZ] at hl;exact hl
    refine ⟨p,_,rfl,DPut.k hv (vL hlen),q _ _ _ (((rs.go x1).go x2).change hi hp ?_)⟩;have hs:=QH (k:=k) hr;unfold jA zw;rw [ZB,<- hs,hk];by_cases hc:(qC k ks xs).isSome=true
    ·rw [if_pos hc,if_pos hc];obtain ⟨q1,q2⟩:=Wg (k:=k) (r1.mono x2.s1) hr;exact ⟨_,j9,by rw [q2,hk],by rw [<- hk];exact q1⟩
    ·rw [if_neg hc,if_neg hc];exact ⟨_,j9,by rw [yE,hk];rfl,by rw [yE];exact hr.append (.one (r1.mono x2.s1))⟩
   ·cases e3
  ·cases e3
def rLeS:R2:=λx y H Q=>∃ i j,x = .str i/\y = .str j/\Q (.bl (!decide (j.cps.toList<i.cps.toList))) H
theorem Bd :OpR X (compareOp .LtE) rLeS:=HS
def QT:PV->PV->Option PV
 | .at (.str i),.at (.str j)=>some (.at (.bl (!decide (j.cps.toList<i.cps.toList))))
 |_,_=>none
instance:xy rLeS QT where
 h:=λ{x y z} e {Hs H v w} s a b {Q} q=>by
  unfold QT at e;split at e
  ·cases e;cases u5 a;cases u5 b;exact ⟨_,_,rfl,rfl,q _ _ _ (.refl s) (rep_at.mpr rfl)⟩
  ·cases e
def Zq (z:Str):List PV:=z.cps.toList.map λc=> .at (.str ⟨#[c]⟩)
def dItS (a:M):MA:=λε=>(a ε).bind λx=>match x with
 | .at (.str z)=>some (Zq z)
 |_=>none
theorem Lm {z:Str}:ItOk (ItS z) (Zq z) Hs where
 go:=λi x Hs1 H1 e g1 g2=>by
  unfold Zq at e;rw [yK] at e;obtain ⟨c,hc,rfl⟩:=yx.mp e;rw [uw] at hc;have hl:i<z.cps.size:=(uP.mp hc).1;refine ⟨hl,λv H2 y=>?_⟩;obtain ⟨rfl,c',hc',rfl⟩:=y;rw [hc] at hc';cases hc';exact ⟨Hs1,.refl g2,rep_at.mpr rfl⟩
 stop:=λHs1 H1 g1 g2=>by
  show (Zq z).length=z.cps.size;unfold Zq;rw [yZ,Array.length_toList]
instance [sa:SemE te a]:zC (iStr te) (dItS a) where
 h:=λe _ _ _ _ _ rs _ q=>by
  obtain ⟨x,ex,e1⟩:=bind_some e;split at e1
  ·cases e1;exact sa.h ex rs λv Hs1 H1 x1 r1=>⟨_,rep_at.mp r1,q _ _ _ x1 Lm⟩
  ·cases e1
theorem JO {f:Str}{v:V}:∀{fs:List (Str×V)},f∉fs.map (·.1)->xm f v fs=fs++[(f,v)]
 |[],_=>rfl
 |(g,x)::r,h=>by
  rw [yI] at h;unfold xm;rw [if_neg (show ¬ g=f from λz=>h (by rw [<- z];exact yU)),JO λz=>h (yS _ z)];rfl
def Vd (C:Addr)(f:Str)(a:W):WS:=λε N _=>a ε λy ε1=>∃ ns xs,ε1[0]?=some (.ow (.ob C ns xs))/\f∉ns/\ns.length<1000/\N (ε1.set 0 (.ow (.ob C (ns++[f]) (xs++[y]))))
instance {a:W}[c:k8 K C][n:w9 K C f][sa:SemW te a]:SemWS (jE K (b9 0) te f) (Vd C f a) where
 h:=λh _ _ _ _ _ _ rd _ k _=>sa.h h rd λy ε1 v Hs1 H1 h1 rd1 g1 r1=>by
  obtain ⟨ns,xs,he,hf,hl,h2⟩:=h1;obtain ⟨p,hp,h0,hs,dx,fs,hH,hk,hr⟩:=rd1.ow 0 _ he;have hf':f∉fs.map (·.1):=by rw [hk];exact hf
  have hl':fs.length<1000:=by rw [<- yZ (f:=(·.1)),hk];exact hl
  refine ⟨_,hp,p,C,dx,fs,rfl,hH,c.c,n.n,hl',?_⟩;rw [JO hf'];exact k _ _ _ _ h2 (rd1.change he hp ⟨dx,_,j9,by rw [yE,hk];rfl,by rw [yE];exact hr.append (.one r1)⟩) g1
def zF (C:Addr)(nm:Str)(m:List PV->Option PV)(i:Nat)(as:MA):M:=λε=>match ε[i]? with
 |some (.ow (.ob C' ns fs))=>if C'=C/\nm∉ns then (as ε).bind λxs=>(m (.ob C ns fs::xs)).bind λy=>match y with
  | .at u=>some (.at u)
  |_=>none else none
 |_=>none
instance {i:Nat}[sa:o6 ta as]:SemE (qi C nm (w4 m) [] E (b9 i) ta) (zF C nm m i as) where
 h:=λ{ε y} e {Hs0 H0 Hs H U} rs {Q} q=>by
  unfold zF at e;split at e
  ·rename_i C' ns fs hi;split at e
   ·rename_i hc;obtain ⟨rfl,hn⟩:=hc;obtain ⟨xs,ex,e1⟩:=bind_some e;obtain ⟨z,ez,e2⟩:=bind_some e1;split at e2
    ·rename_i u;cases e2;obtain ⟨p,hp,n0,n,dx,gs,hH,hk,hr⟩:=rs.ow i _ hi;refine ⟨_,hp,p,dx,gs,rfl,hH,jw (by rw [hk];exact hn),sa.h ex rs λvs Hs1 H1 x1 r1=>?_⟩;have hH1:=x1.s2 _ _ hH;have n1:Hs1 p=none:=x1.s4 p (by rw [hH];exact λz=>nomatch z) n;have g:Same Hs1 (z7 Hs1 p (.ins C' dx gs)):=λb w e=>by rw [z6 (y0 e n1)];exact e
     refine ⟨z7 Hs1 p (.ins C' dx gs),_,_,?_,?_,ez,λv Hs' H' x r=>?_⟩
     ·intro b w e;by_cases hb:b=p
      ·subst hb;rw [j9] at e;cases e;exact hH1
      ·rw [z6 hb] at e;exact x1.s3 _ _ e
     ·rw [yO];exact .cons (rep_ob.mpr ⟨p,dx,gs,rfl,j9,hk,(hr.mono x1.s1).mono g⟩) (r1.mono g)
     ·cases rep_at.mp r;refine q _ (λb=>if b=p then none else Hs' b) H' (x1.trans ⟨λb w e=>?_,x.s2,λb w e=>?_,λb hb w=>?_⟩) (rep_at.mpr rfl)
      ·rw [if_neg (y0 e n1)];exact x.s1 _ _ (g _ _ e)
      ·split at e
       ·cases e
       ·exact x.s3 _ _ e
      ·by_cases hbp:b=p
       ·rw [if_pos hbp]
       ·rw [if_neg hbp];exact x.s4 b hb (by rw [z6 hbp];exact w)
    ·cases e2
   ·cases e
  ·cases e
section
variable {P:Program}{w:World}{K:Fg}{mg:Str->Option Value}{base:Heap}
theorem Wm {a:Addr}(s:Same Hs H)(ha:Hs a=none)(t:Top Hs H a y)(r:Reps Hs xs ws):RD [a] Hs H Hs H (L2.start N (.ref a::ws)) (.ow y::xs.map .sh++List.replicate (N.length-(xs.length+1)) .no):=by
 have q:=jD (N:=N) (xs:= .at (.ref a)::xs) s (.cons (rep_at.mpr rfl) r);have tl:∀(i:Nat)(sl:MSlot),(MSlot.ow y::xs.map .sh++List.replicate (N.length-(xs.length+1)) .no)[i+1]?=some sl->((PV.at (.ref a)::xs).map MSlot.sh++List.replicate (N.length-(PV.at (.ref a)::xs).length) .no)[i+1]?=some sl:=λi sl h=>h;refine ⟨.refl _,λb o e _=>e,s,λ_ _ z=>z,λi x h=>?_,λi x h=>?_,λi j x y b h1 h2 _ _=>?_,?_,λb hb=>?_,λb hb=>?_,(λb hb=>⟨_,rfl⟩),λi x h=>by
  cases i with
  |zero=>simp at h
  |succ i=>exact Wo (xs:=PV.at (.ref a)::xs) (tl i _ h)⟩
 ·cases i with
  |zero=>simp at h
  |succ i=>exact q.sh (i+1) x (tl i _ h)
 ·cases i with
  |zero=>simp at h;subst h;exact ⟨a,by unfold L2.start;rfl,.inr (yM.mpr rfl),ha,t⟩
  |succ i=>exact absurd (tl i _ h) (wI (xs:=PV.at (.ref a)::xs))
 ·cases i with
  |zero =>
   cases j with
   |zero=>rfl
   |succ j=>exact absurd (tl j _ h2) (wI (xs:=PV.at (.ref a)::xs))
  |succ i=>exact absurd (tl i _ h1) (wI (xs:=PV.at (.ref a)::xs))
 ·exact q.len
 ·rw [yM.mp hb];unfold L2.start;rfl
 ·rw [yM.mp hb];exact t.there
end
variable {fr:Bool}
structure Xp (J:It)(xs:List PV)(Hs H:Hp):Prop where
 go:∀(i:Nat)(x:PV)(Hs1 H1:Hp),xs[i]?=some x->Same Hs Hs1->Same H H1->Same Hs1 H1->J.go i H1/\∀ v H2,J.yld i H1 v H2->∃ Hs2,Ext Hs1 H1 Hs2 H2/\Rep Hs2 x v
 stop:∀(Hs1 H1:Hp),Same Hs Hs1->Same H H1->Same Hs1 H1->J.stop xs.length H1
class Ud (ti:TI)(f:MA):Prop where
 h:∀{ε xs},f ε=some xs->∀{Hs0 H0 Hs H U},RS Hs0 H0 Hs H U ε->∀{R:It->Hp->Prop},(∀ J Hs' H',Ext Hs H Hs' H'->Xp J xs Hs' H'->R J H')->ti U H R
instance [sa:qq te a]:Ud (XI K te) (t9 a) where
 h:=λe _ _ _ _ _ rs _ q=>by
  obtain ⟨x,ex,e1⟩:=bind_some e;split at e1
  ·cases e1;refine sa.h ex rs λv Hs1 H1 x1 r1=>?_;obtain ⟨p,vs,rfl,hp,r⟩:=xg x1.s3 r1;refine ⟨p,rfl,⟨vs,SqL.of hp⟩,q _ _ _ x1 ⟨λi x Hs2 H2 ei g1 g2 g3=>?_,λHs2 H2 g1 g2 g3=>⟨vs,SqL.of (g2 _ _ hp),by rw [r.length];exact yT _⟩⟩⟩;obtain ⟨v,ev,rv⟩:=r.get ei;refine ⟨⟨vs,v,SqL.of (g2 _ _ hp),ev⟩,λw H3 y=>?_⟩;obtain ⟨rfl,y⟩:=y;have z:=y vs (SqL.of (g2 _ _ hp));rw [ev] at z;cases z;exact ⟨Hs2,.refl g3,rv.mono g1⟩
  ·cases e1
def wb (cap:List (Option Nat))(ts:List Nat)(i:MA)(g:MG)(c:MB)(f:M):M:=λε=>(i ε).bind λxs=>if zE cap ts=true/\xs.length<=lim then (qP g c f (i4 cap ε) xs).bind λys=>some (.lst ys) else none
instance {cap:List (Option Nat)}{i:MA}{f:M}[si:Ud wi i][sg:jP tg ts g][sc:qO tt c][sf:SemE te f]:xo (Xh wi tg tt te cap) (wb cap ts i g c f) where
 h:=λe Hs0 H0 Hs H U rs Q q=>by
  obtain ⟨xs,ex,e1⟩:=bind_some e;split at e1
  ·rename_i hcl;obtain ⟨hcap,hl⟩:=hcl;unfold zE at hcap;rw [yn] at hcap;obtain ⟨ys,ey,e2⟩:=bind_some e1;cases e2;refine si.h ex rs λJ Hs1 H1 x1 ok=>?_;have rc:=((rs.go x1).cap (yf hcap.1)).rebase;have wk:∀ i∈ts,(b8 cap U)[i]?=some none:=λi hi=>by
    unfold b8;rw [yK,yf (uV.mp hcap.2 i hi)];rfl
   refine ⟨λk m zs H=>m=xs.length-k/\k<=xs.length/\∃ Hs2 ws,Ext Hs1 H1 Hs2 H/\RS Hs1 H0 Hs2 H (b8 cap U) (i4 cap _)/\Reps Hs2 ws zs/\ws.length<=k/\∃ rest,qP g c f (i4 cap _) (xs.drop k)=some rest/\ys=ws++rest,
    ⟨xs.length,by simp,yd _,Hs1,[],.refl x1.s3,rc,.nil,yT _,ys,ey,rfl⟩,?_⟩
   rintro k m zs H2 ⟨rfl,hk,Hs2,ws,x2,r2,rz,hw,rest,er,eys⟩;refine ⟨zo (by rw [rz.length];omega),?_⟩;by_cases hlt:k<xs.length
   ·have hd:xs.drop k=xs[k]::xs.drop (k+1):=yj hlt;rw [hd] at er;unfold qP at er;obtain ⟨ε1,eg,er1⟩:=bind_some er;obtain ⟨b,eb,er2⟩:=bind_some er1;obtain ⟨go,yl⟩:=ok.go k xs[k] Hs2 H2 (by simp [hlt]) x2.s1 x2.s2 x2.s3;refine .inr ⟨go,λv H3 y=>?_⟩;obtain ⟨Hs3,x3,r3⟩:=yl v H3 y;refine sg.h eg (r2.go x3) r3 λσ2 rs2 bt=>⟨bt.wk wk,sc.h eb rs2 λHs4 H4 x4=>?_⟩;cases b with
    |true =>
     rw [if_pos rfl] at er2;obtain ⟨z,ez,er3⟩:=bind_some er2;obtain ⟨rest',er4,er5⟩:=bind_some er3;cases er5;refine qb (sf.h ez (rs2.go x4) λu Hs5 H5 x5 r5=>⟨xs.length-(k+1),by omega,rfl,hlt,Hs5,ws++[z],x2.trans (x3.trans (x4.trans x5)),((r2.go x3).go x4).go x5,?_,?_,rest',er4,?_⟩)
     ·exact (rz.mono (x3.s1.trans (x4.s1.trans x5.s1))).snoc r5
     ·rw [yL];simp;omega
     ·rw [uX];exact eys
    |false=>rw [if_neg yR] at er2;exact qf ⟨xs.length-(k+1),by omega,rfl,hlt,Hs4,ws,x2.trans (x3.trans x4),(r2.go x3).go x4,rz.mono (x3.s1.trans x4.s1),by omega,rest,er2,eys⟩
   ·have ek:k=xs.length:=by omega
    subst ek;rw [uT] at er;unfold qP at er;cases er;refine .inl ⟨ok.stop Hs2 H2 x2.s1 x2.s2 x2.s3,λD hD=>?_⟩;rw [yO] at eys;subst eys;have x12:=x1.trans x2;exact q D Hs2 _ (x12.trans (.newO x2.s3 hD)) (x12.s2.free hD) (x2.s3.free hD) ⟨zs,j9,rz⟩
  ·cases e1
section
variable {ε:ME}{c d:MB}{f:M}{a b:WS}{N:ME->Prop}{R:PV->ME->Prop}
theorem YV (h:c ε=some false)(k:b ε N R):zA (wPT c) a b ε N R:=by
 refine ⟨false,h,?_⟩;show if false=true then a ε N R else b ε N R
 rw [if_neg yR];exact k
theorem Ir (h:c ε=some true)(k:a ε N R):zA (wPT c) a b ε N R:=by
 refine ⟨true,h,?_⟩;show if true=true then a ε N R else b ε N R
 rw [if_pos rfl];exact k
theorem jr (h1:c ε=some false)(h2:d ε=some false):dOr c d ε=some false:=by unfold dOr;rw [h1];show (if false=true then some true else d ε)=_;rw [if_neg yR];exact h2
theorem dOr_t (h1:c ε=some true):dOr c d ε=some true:=by unfold dOr;rw [h1];rfl
theorem XC (h1:c ε=some false)(h2:d ε=some true):dOr c d ε=some true:=by unfold dOr;rw [h1];show (if false=true then some true else d ε)=_;rw [if_neg yR];exact h2
theorem GF {v:Bool}(h1:c ε=some true)(h2:d ε=some v):jU c d ε=some v:=by unfold jU;rw [h1];show (if true=true then d ε else some false)=_;rw [if_pos rfl];exact h2
theorem o8 (h:c ε=some true):k6 c ε=some false:=by unfold k6;rw [h];rfl
theorem ZY (h:c ε=some false):k6 c ε=some true:=by unfold k6;rw [h];rfl
theorem o9 {v:Bool}(h:f ε=some (.at (.bl v))):p7 f ε=some v:=by unfold p7;rw [h];rfl
theorem u9 {v:Bool}(h:f ε=some (.at (.bl v))):dT f ε=some v:=by unfold dT;rw [h];rfl
theorem VI :o4 [.lst xs,.at (.ty "list")]=some (.at (.bl true)):=by unfold o4 tyP;simp only [yG,SO]
end
variable {fr:Bool}
theorem Vq {g:MG}{f:M}{ε0:ME}{α:Type}(F G:α->PV):∀(l:List α),(∀ a∈l,∃ ε1,g (F a) ε0=some ε1/\f ε1=some (G a))->qP g c7 f ε0 (l.map F)=some (l.map G)
 |[],_=>rfl
 |a::l,h=>by
  obtain ⟨ε1,e1,e2⟩:=h a yU;have ih:=Vq F G l λb hb=>h b (yS _ hb);show Option.bind (g (F a) ε0) (λε1=>Option.bind (c7 ε1) λb=>if b=true then (f ε1).bind λy=>(qP g c7 f ε0 (l.map F)).bind λys=>some (y::ys) else qP g c7 f ε0 (l.map F))=_;rw [e1,ih];show (if true=true then (f ε1).bind λy=>some (y::l.map G) else some (l.map G))=_;rw [if_pos rfl,e2];rfl
theorem GD {g:MG}{c:MB}{f:M}{ε0:ME}{α:Type}(F G:α->PV)(p:α->Bool):∀(l:List α),(∀ a∈l,∃ ε1,g (F a) ε0=some ε1/\c ε1=some (p a)/\(p a=true->f ε1=some (G a)))->qP g c f ε0 (l.map F)=some ((l.filter p).map G)
 |[],_=>rfl
 |a::l,h=>by
  obtain ⟨ε1,e1,e2,e3⟩:=h a yU;have ih:=GD F G p l λb hb=>h b (yS _ hb);show Option.bind (g (F a) ε0) (λε1=>Option.bind (c ε1) λb=>if b=true then (f ε1).bind λy=>(qP g c f ε0 (l.map F)).bind λys=>some (y::ys) else qP g c f ε0 (l.map F))=_;rw [e1,ih];show Option.bind (c ε1) (λb=>if b=true then (f ε1).bind λy=>some (y::(l.filter p).map G) else some ((l.filter p).map G))=_;rw [e2,yG,List.filter_cons];cases hp:p a with
  |true=>rw [if_pos rfl,if_pos rfl,e3 hp];rfl
  |false=>rw [if_neg yR,if_neg yR]
theorem xp {cap:List (Option Nat)}{f:M}(F G:α->PV)(l:List α)(h:it ε=some (l.map F))(hc:zE cap ts=true)(hl:l.length<=lim)(k:∀ a∈l,∃ ε1,g (F a) (i4 cap ε)=some ε1/\f ε1=some (G a)):t6 cap ts it g c7 f ε=some (.lst (l.map G)):=GU h hc (by rw [yZ];exact hl) (Vq F G l k)
theorem ev_cf {cap:List (Option Nat)}{f:M}(F G:α->PV)(p:α->Bool)(l:List α)(h:it ε=some (l.map F))(hc:zE cap ts=true)(hl:l.length<=lim)(k:∀ a∈l,∃ ε1,g (F a) (i4 cap ε)=some ε1/\c ε1=some (p a)/\(p a=true->f ε1=some (G a))):t6 cap ts it g c f ε=some (.lst ((l.filter p).map G)):=GU h hc (by rw [yZ];exact hl) (GD F G p l k)
theorem Jw {g:MG}{f:MS}{α:Type}(F:α->PV)(I:List α->ME->Prop)(h:∀ a l ε,I (a::l) ε->∃ ε1 ε2,g (F a) ε=some ε1/\f ε1=some (.nx ε2)/\I l ε2):∀(l:List α)(ε:ME),I l ε->∃ ε',xA g f (l.map F) ε=some (.nx ε')/\I [] ε'
 |[],ε,i=>⟨ε,rfl,i⟩
 |a::l,ε,i=>by
  obtain ⟨ε1,ε2,e1,e2,i2⟩:=h a l ε i;obtain ⟨ε',e3,i3⟩:=Jw F I h l ε2 i2;refine ⟨ε',?_,i3⟩;show Option.bind (g (F a) ε) (λε1=>Option.bind (f ε1) λo=>match o with
   | .nx ε2=>xA g f (l.map F) ε2
   | .ct ε2=>xA g f (l.map F) ε2
   | .bk ε2=>some (.nx ε2)
   | .rt y=>some (.rt y))=_
  rw [e1,yG,e2];exact e3
section
variable {ε:ME}{a b:M}{v w:Bool}
theorem wd (h1:a ε=some (.at (.bl true)))(h2:b ε=some (.at (.bl w))):xY a b ε=some (.at (.bl w)):=by unfold xY;rw [h1];exact h2
theorem Vw (h1:a ε=some (.at (.bl false))):xY a b ε=some (.at (.bl false)):=by unfold xY;rw [h1];rfl
theorem Kb (h1:a ε=some (.at (.bl v))):ZX a ε=some (.at (.bl (!v))):=by unfold ZX;rw [h1];rfl
theorem XF (h:c ε=some true)(k:a ε=some x):dIf c a b ε=some x:=by unfold dIf;rw [h];exact k
theorem we (h:c ε=some false)(k:b ε=some x):dIf c a b ε=some x:=by unfold dIf;rw [h];exact k
theorem Qu {g g':PV->PV->Option PV}{c:M}{z:PV}{r:Bool}(h1:a ε=some x)(h2:b ε=some y)(h3:g x y=some (.at (.bl true)))(h4:c ε=some z)(h5:g' y z=some (.at (.bl r))):zM g g' a b c ε=some (.at (.bl r)):=by unfold zM;rw [h1,yG,h2,yG,h3];show Option.bind (c ε) _=_;rw [h4];exact h5
theorem Qv (h:a ε=some x):zc a ε=some (.nx ε):=by unfold zc;rw [h];rfl
theorem qH:m9 ε=some (.nx ε):=rfl
theorem Jh (h:a ε=some (.lst xs)):t9 a ε=some xs:=by unfold t9;rw [h];rfl
theorem qX (h:a ε=some (.ob C ns xs))(k:QI f ns xs=some y):p5 C f a ε=some y:=by unfold p5;rw [h,yG];show (if C=C then _ else _)=_;rw [if_pos rfl];exact k
theorem qt {fs:List PV}{y:Option PV}(h:a ε=some (.ob C ns fs))(hn:nm∉ns)(k:as ε=some xs)(e:m (.ob C ns fs::xs)=y):u6 C nm m a as ε=y:=by unfold u6;rw [h,yG];show (if C=C/\nm∉ns then _ else _)=_;rw [if_pos ⟨rfl,hn⟩,k];exact e
theorem Vy {k:Nat}{bd:MS}(hl:xs.length=k)(h:bd (xs.map .sh++List.replicate (n-k) .no)=some (.nx ε')):u8 n k bd xs=some (.at .non):=by unfold u8;rw [if_pos hl,h];rfl
theorem Lf {n:Int}:o4 [.at (.int n),.at (.ty "int")]=some (.at (.bl true)):=by unfold o4 tyP;simp only [yG,SN]
theorem Lg {n:Int}:o4 [.at (.int n),.at (.ty "bool")]=some (.at (.bl false)):=by unfold o4 tyP;simp only [yG,SM]
theorem XL {n:Str}:o4 [.at (.str n),.at (.ty "str")]=some (.at (.bl true)):=by unfold o4 tyP;simp only [yG,SQ]
theorem VJ {n:List PV}:o4 [.tup n,.at (.ty "tuple")]=some (.at (.bl true)):=by unfold o4 tyP;simp only [yG,SR]
theorem Gn:∀ bs:List Bool,bls (bs.map λb=> .at (.bl b))=some bs
 |[]=>rfl
 |b::bs=>by
  have ih:=Gn bs;rw [yI];unfold bls;rw [ih];rfl
theorem Ug (bs:List Bool):jy [.lst (bs.map λb=> .at (.bl b))]=some (.at (.bl (bs.all id))):=by show (bls _).bind _=_;rw [Gn];rfl
theorem ZP (l:List α):jy [.lst (l.map λ_=> .at (.bl true))]=some (.at (.bl true)):=by
 have e:(l.map λ_=>PV.at (.bl true))=((l.map λ_=>true).map λb=>PV.at (.bl b)):=by rw [yq];rfl
 rw [e,Ug];have:(l.map λ_=>true).all id=true:=by simp
 rw [this]
end
def leS (a b:Str):Bool:=!decide (b.cps.toList<a.cps.toList)
def xJ (ss:List Str):List Str:=ss.mergeSort leS
theorem Zs (ss:List Str):(xJ ss).Perm ss:=List.mergeSort_perm ss leS
theorem Sw (ss:List Str):Xt (xJ ss):=by
 have:=List.pairwise_mergeSort (le:=leS) (λa b c h1 h2=>by
  unfold leS at h1 h2 ⊢;simp only [Bool.not_eq_true',decide_eq_false_iff_not] at h1 h2 ⊢;exact List.not_lt.mpr (List.le_trans (List.not_lt.mp h1) (List.not_lt.mp h2))) (λa b=>by
  unfold leS;by_cases h:b.cps.toList<a.cps.toList
  ·have h2:¬ (a.cps.toList<b.cps.toList):=λk=>List.lt_irrefl _ (List.lt_trans h k);simp [h2]
  ·simp [h]) ss
 exact this.imp λh=>by unfold leS at h;simpa using h
theorem JU {ss ss':List Str}(p:ss'.Perm ss)(u:Xt ss'):ss'=xJ ss :=
 List.Perm.eq_of_pairwise (λa b _ _ h1 h2=>by
  have e:=List.le_antisymm (List.not_lt.mp h1) (List.not_lt.mp h2);cases a;cases b;simp only [Str.mk.injEq];exact Array.toList_inj.mp e) u (Sw ss) (p.trans (Zs ss).symm)
def vS:List PV->Option (List Str)
 |[]=>some []
 | .at (.str s)::xs=>(vS xs).map (s::·)
 |_::_=>none
theorem YC:∀{xs:List PV}{ss:List Str},vS xs=some ss->xs=ss.map λs=> .at (.str s)
 |[],_,h=>by cases h;rfl
 |x::xs,ss,h=>by
  unfold vS at h;split at h
  ·rename_i e;cases e
  ·rename_i s' xs' e;injection e with e1 e2;subst e1 e2;obtain ⟨r,hr,rfl⟩:=yx.mp h;rw [YC hr];rfl
  ·cases h
def zV:List v3->Option (List Str)
 |[]=>some []
 | .inr s::xs=>(zV xs).map (s::·)
 |_::_=>none
theorem Jt:∀{xs:List v3}{ss:List Str},zV xs=some ss->xs=ss.map Sum.inr
 |[],_,h=>by cases h;rfl
 |x::xs,ss,h=>by
  unfold zV at h;split at h
  ·rename_i e;cases e
  ·rename_i s' xs' e;injection e with e1 e2;subst e1 e2;obtain ⟨r,hr,rfl⟩:=yx.mp h;rw [Jt hr];rfl
  ·cases h
def VY:List PV->Option PV
 |[.lst xs]=>(vS xs).bind λss=>if ss.length<64 then some (.lst ((xJ ss).map λs=> .at (.str s))) else none
 |[.dk ks _]=>(zV ks).bind λss=>if ss.length<64 then some (.lst ((xJ ss).map λs=> .at (.str s))) else none
 |[.fk ks _]=>(zV ks).bind λss=>if ss.length<64 then some (.lst ((xJ ss).map λs=> .at (.str s))) else none
 |_=>none
theorem JQ (ss:List Str):Reps H (ss.map λs=> .at (.str s)) (ss.map V.str):=by have:=Reps.ofAts (H:=H) (ss.map V.str);rwa [yq] at this
instance :Vi (BH K) VY where
 h:=λ{xs z} e {Hs H vs} s r {Q} q=>by
  unfold VY at e;split at e
  ·obtain ⟨ss,eb,e1⟩:=bind_some e;split at e1
   ·rename_i hl;cases e1;obtain ⟨v,rfl,a⟩:=zx r;obtain ⟨p,ws,rfl,e1,r1⟩:=xg s a;rw [YC eb,show (ss.map λb=>PV.at (.str b))=(ss.map V.str).map .at by rw [yq];rfl] at r1;cases r1.ats;refine ⟨p,ss,rfl,.inl (SqL.of e1),hl,λl ss' hn p1 p2=>?_⟩;rw [JU p1 p2];exact q l _ _ (.newO s hn) hn (s.free hn) ⟨_,j9,JQ _⟩
   ·cases e1
  ·obtain ⟨ss,eb,e1⟩:=bind_some e;split at e1
   ·rename_i hl;cases e1;obtain ⟨v,rfl,a⟩:=zx r;obtain ⟨p,kvs,rfl,hp,hk,hr⟩:=jc s a;refine ⟨p,ss,rfl,.inr ⟨kvs,.inl hp,by rw [hk,Jt eb]⟩,hl,λl ss' hn p1 p2=>?_⟩;rw [JU p1 p2];exact q l _ _ (.newO s hn) hn (s.free hn) ⟨_,j9,JQ _⟩
   ·cases e1
  ·obtain ⟨ss,eb,e1⟩:=bind_some e;split at e1
   ·rename_i hl;cases e1;obtain ⟨v,rfl,a⟩:=zx r;obtain ⟨p,o,kvs,rfl,hp,hk,hr⟩:=Zo s a;refine ⟨p,ss,rfl,.inr ⟨kvs,.inr ⟨o,hp⟩,by rw [hk,Jt eb]⟩,hl,λl ss' hn p1 p2=>?_⟩;rw [JU p1 p2];exact q l _ _ (.newO s hn) hn (s.free hn) ⟨_,j9,JQ _⟩
   ·cases e1
  ·cases e
def BG (K:Fg):List V->Hp->VK->Prop:=λxs H Q=>∃(a:Addr)(ss:List Str),xs=[.ref a]/\SqL K H a (ss.map V.str)/\ss.length<=1000 /\
  ∀ l,H l=none->Q (.ref l) (z7 H l (wa (m6 (λi=>(Sum.inr (ss.getD i ⟨#[]⟩):v3)) ss.length).length l))
theorem Ds (hc:X.calm=true)(h:X.K=K):CallR X (.type "set") (BG K):=by subst h;exact Dt hc
def VR (ss:List Str):Nat:=(m6 (λi=>(Sum.inr (ss.getD i ⟨#[]⟩):v3)) ss.length).length
def Bz:List V->Hp->VK->Prop:=λxs H Q=>∃(a:Addr)(n:Nat),xs=[.ref a]/\H a=some (wa n a)/\Q (.int n) H
theorem Dl :CallR X (.builtin "len") Bz:=Dk
def GG (a:M):M:=λε=>(a ε).bind λx=>match x with
 | .lst xs=>(vS xs).bind λss=>if ss.length<=1000 then some (.at (.int (VR ss))) else none
 |_=>none
instance [sa:qq te a]:SemE (tCB Bz (o5 (tCB (BG K) (o5 te qF)) qF)) (GG a) where
 h:=λe _ _ _ _ _ rs _ q=>by
  obtain ⟨x,ex,e1⟩:=bind_some e;split at e1
  ·obtain ⟨ss,eb,e2⟩:=bind_some e1;split at e2
   ·rename_i hl;cases e2;refine sa.h ex rs λv Hs1 H1 x1 r1=>?_;obtain ⟨p,ws,rfl,ep,r2⟩:=xg x1.s3 r1;rw [YC eb,show (ss.map λb=>PV.at (.str b))=(ss.map V.str).map .at by rw [yq];rfl] at r2;cases r2.ats;refine ⟨p,ss,rfl,SqL.of ep,hl,λl hn=>⟨l,_,rfl,j9,q _ _ _ (x1.trans (.newO x1.s3 hn)) (rep_at.mpr rfl)⟩⟩
   ·cases e2
  ·cases e1
structure FunD (K:Fg)(x qual:Str)(st:Stmt)(f:Addr)(fd:FuncData):Prop where
 ex:∃(oc:Value)(od:Option Addr)(dV kV doc pm:Value)(an:Option Addr)(cdv ct:Value)(osl:Array (Option Value)),
  fd=PySem.W.fnOf x qual (xB st) (n9 st) (j3 st) dV kV doc pm an cdv ct/\K.lookup f=some ⟨oc,od,.func fd,osl⟩/\PySem.W.codeIn K cdv qual=true
 kp:PySem.W.keepIn K (.ref f)=true
section
variable {P:Program}{w:World}{K:Fg}{mg:Str->Option Value}{base:Heap}
theorem Kg {x:Str}{f:Addr}{oc:Value}{od an:Option Addr}{osl:Array (Option Value)}{dV kV doc pm cdv ct:Value}(l:K.lookup f=some ⟨oc,od,.func (PySem.W.fnOf x qual (xB st) (n9 st) (j3 st) dV kV doc pm an cdv ct),osl⟩)(c:PySem.W.codeIn K cdv qual=true)(k:PySem.W.keepIn K (.ref f)=true):FunD K x qual st f (PySem.W.fnOf x qual (xB st) (n9 st) (j3 st) dV kV doc pm an cdv ct):=⟨⟨oc,od,dV,kV,doc,pm,an,cdv,ct,osl,rfl,l,c⟩,k⟩
theorem zj {o value:Expr}{ta:TE}{pos':Pos}(hK:X.K=K)(ha:PE X o ta)(hv:PE X value tv)(hs:swapsWith value (some (.Attribute o f pos')) pos.line X.env=pure false:=by rfl):PS X (.Assign [.Attribute o f pos'] value pos) (jE K ta tv f):=by subst hK;exact RE ha hv hs
end
def zQ (C:Addr)(f:Str)(a:M):MS:=λε=>(a ε).bind λy=>match (ε[0]?:Option MSlot) with
 |some (.ow (.ob C' ns xs))=>if C'=C/\f∉ns/\ns.length<1000 then some (.nx (ε.set 0 (.ow (.ob C (ns++[f]) (xs++[y]))))) else none
 |_=>none
def wPN (f:MS):WS:=λε N _=>∃ ε',f ε=some (.nx ε')/\N ε'
theorem DG {o:Out}(h:zQ C f a ε=some o):∃ y ns xs,a ε=some y/\ε[0]?=some (.ow (.ob C ns xs))/\f∉ns/\ns.length<1000/\o = .nx (ε.set 0 (.ow (.ob C (ns++[f]) (xs++[y])))):=by
 unfold zQ at h;obtain ⟨y,ey,h1⟩:=bind_some h;split at h1
 ·rename_i C' ns xs he;split at h1
  ·rename_i hc;cases h1;obtain ⟨rfl,h2,h3⟩:=hc;exact ⟨y,ns,xs,ey,he,h2,h3,rfl⟩
  ·cases h1
 ·cases h1
instance [c:k8 K C][n:w9 K C f][sa:SemE te a]:SemWS (jE K (b9 0) te f) (wPN (zQ C f a)) where
 h:=λ{ε N R} h=>by
  obtain ⟨ε',e,h1⟩:=h;obtain ⟨y,ns,xs,ey,he,h2,h3,e4⟩:=DG e;injection e4 with e4;subst e4;exact SemWS.h (ts:=jE K (b9 0) te f) (w:=Vd C f (wP a)) ⟨y,ey,ns,xs,he,h2,h3,h1⟩
instance [sa:SemE te a]:SemWS (xi te) (wPN (zc a)) where
 h:=λ{ε N R} h=>by
  obtain ⟨ε',e,h1⟩:=h;obtain ⟨y,ey,e2⟩:=bind_some e;cases e2;exact SemWS.h (ts:=xi te) (w:=YS (wP a)) ⟨y,ey,h1⟩
instance Pa {a b:MS}[sa:SemWS t (wPN a)][sb:SemWS u (wPN b)]:SemWS (tSeq t u) (wPN (y4 a b)) where
 h:=λ{ε N R} h S Hs0 H0 Hs H U rd D k rt=>by
  obtain ⟨ε',e,h1⟩:=h;obtain ⟨o1,e1,e2⟩:=bind_some e;refine SemWS.h (ts:=tSeq t u) (w:=wSeq (wPN a) (wPN b)) (ε:=ε) (N:=N) (R:=R) ?_ rd k rt;cases o1 with
  |nx ε1=>exact ⟨ε1,e1,ε',e2,h1⟩
  |rt y=>cases e2
  |bk ε1=>cases e2
  |ct ε1=>cases e2
def Xz (n k:Nat)(C:Addr)(f:MS):List PV->Option PV:=λxs=>if xs.length+1=k then (f (.ow (.ob C [] [])::xs.map .sh++List.replicate (n-k) .no)).bind λo=>match o with
 | .nx ε=>(match (ε[0]?:Option MSlot) with
  |some (.ow y)=>some y
  |_=>none)
 |_=>none else none
def vR:List PV->Option (List (v3×PV))
 |[]=>some []
 | .tup [k,v]::xs=>(zG k).bind λkk=>(vR xs).map ((kk,v)::·)
 |_::_=>none
def QS:List PV->Option PV
 |[.lst xs]=>(vR xs).bind λps=>if (ps.map (·.1)).Nodup/\ps.length<=1000 then some (.fk (ps.map (·.1)) (ps.map (·.2))) else none
 |_=>none
theorem Bo {Hs H:Hp}(s:Same Hs H):∀{xs:List PV}{ps:List (v3×PV)}{vs:List V},vR xs=some ps->Reps Hs xs vs->∃(ts:List Addr)(kvs:List (v3×V)),vs=ts.map V.ref/\Paired (λt (kv:v3×V)=>H t=some (.tup [kV kv.1,kv.2])) ts kvs/\kvs.map (·.1)=ps.map (·.1)/\Reps Hs (ps.map (·.2)) (kvs.map (·.2))
 |[],ps,vs,h,r=>by
  cases h;cases reps_nil.mp r;exact ⟨[],[],rfl,.nil,rfl,.nil⟩
 |x::xs,ps,vs,h,r=>by
  unfold vR at h;split at h
  ·rename_i e;cases e
  ·rename_i k v xs' e;injection e with e1 e2;subst e1 e2;obtain ⟨kk,ek,h1⟩:=bind_some h;obtain ⟨ps',hp,rfl⟩:=yx.mp h1;obtain ⟨w,ws,rfl,r1,r2⟩:=reps_cons.mp r;obtain ⟨t,us,rfl,ht,ru⟩:=rep_tup.mp r1;obtain ⟨u1,us1,rfl,p1,p2⟩:=reps_cons.mp ru;obtain ⟨u2,us2,rfl,p3,p4⟩:=reps_cons.mp p2;cases reps_nil.mp p4;have ew:=va (H:=H) (.inl p1) ek;subst ew;obtain ⟨ts,kvs,rfl,q1,q2,q3⟩:=Bo s hp r2;exact ⟨t::ts,(kk,u2)::kvs,rfl,.cons (s _ _ ht) q1,by rw [yI,yI,q2],.cons p3 q3⟩
  ·cases h
instance:vX Bx QS where
 h:=λ{xs z} e {Hs H vs} s r {Q} q=>by
  unfold QS at e;split at e
  ·obtain ⟨ps,eb,e1⟩:=bind_some e;split at e1
   ·rename_i hl;cases e1;obtain ⟨v,rfl,a⟩:=zx r;obtain ⟨p,ws,rfl,ep,r1⟩:=xg s a;obtain ⟨ts,kvs,rfl,q1,q2,q3⟩:=Bo s eb r1;have hk:kvs.length=ps.length:=by have:=congrArg List.length q2;rwa [yZ,yZ] at this
    refine ⟨p,ts,kvs,rfl,ep,q1,by rw [q2];exact hl.1,by omega,λl o hn=>?_⟩;exact q _ _ _ (.new s hn) (rep_fk.mpr ⟨l,o,kvs,rfl,j9,q2,q3.mono (Ext.new s hn).s1⟩)
   ·cases e1
  ·cases e
def wAsg (g:MG)(a:W):WS:=λε N _=>a ε λx ε1=>∃ ε2,g x ε1=some ε2/\N ε2
instance (priority:=500){a:W}[sa:SemW te a][sg:SemWG tg g]:SemWS (xS te tg) (wAsg g a) where
 h:=λh _ _ _ _ _ _ rd _ k _=>sa.h h rd λx ε1 v Hs1 H1 h1 rd1 g1 r1=>by
  obtain ⟨ε2,e,h2⟩:=h1;exact sg.h e rd1 r1 λσ' rd2=>k _ _ _ _ h2 rd2 g1
def dItV (a:M):MA:=λε=>(a ε).bind λx=>match x with
 | .fk _ xs=>some xs
 |_=>none
theorem Ln {a:Addr}{o:Obj}{kvs:List (v3×V)}(h:Hs a=some (.frz o (.dK kvs)))(r:Reps Hs xs (kvs.map (·.2))):ItOk (Itv a o kvs) xs Hs where
 go:=λi x Hs1 H1 e g1 g2=>by
  obtain ⟨v,ev,rv⟩:=r.get e;have hl:i<kvs.length:=by have:=(yk.mp ev).1;rwa [yZ] at this
  refine ⟨⟨g2 _ _ (g1 _ _ h),hl⟩,λw H2 y=>?_⟩;obtain ⟨rfl,k,y⟩:=y;rw [yK,y] at ev;cases ev;exact ⟨Hs1,.refl g2,rv.mono g1⟩
 stop:=λHs1 H1 g1 g2=>⟨g2 _ _ (g1 _ _ h),by have:=r.length;rw [yZ] at this;omega⟩
instance [sa:SemE te a]:zC (Kp te) (dItV a) where
 h:=λe _ _ _ _ _ rs _ q=>by
  obtain ⟨x,ex,e1⟩:=bind_some e;split at e1
  ·cases e1;refine sa.h ex rs λv Hs1 H1 x1 r1=>?_;obtain ⟨p,o,kvs,rfl,hp,_,r⟩:=rep_fk.mp r1;exact ⟨p,o,kvs,rfl,x1.s3 _ _ hp,q _ _ _ x1 (Ln hp r)⟩
  ·cases e1
def Qq (a:M):M:=λε=>(a ε).bind λx=>match x with
 | .fk _ xs=>if xs.length<=1000 then some (.lst xs) else none
 |_=>none
instance [sa:SemE td a]:xo (tCB BB (o5 (Pw td) qF)) (Qq a) where
 h:=λe _ _ _ _ _ rs _ q=>by
  obtain ⟨x,ex,e1⟩:=bind_some e;split at e1
  ·split at e1
   ·rename_i hl;cases e1;refine sa.h ex rs λv Hs1 H1 x1 r1=>?_;obtain ⟨p,o,kvs,rfl,hp,_,r⟩:=rep_fk.mp r1;refine ⟨p,o,kvs,rfl,x1.s3 _ _ hp,λw hw=>?_⟩;have x2:Ext Hs1 H1 Hs1 (z7 H1 w (vwO w p)):= .newO x1.s3 hw;have hl2:kvs.length<=1000:=by have:=r.length;rw [yZ] at this;omega
    refine ⟨w,p,o,kvs,rfl,j9,x2.s3 _ _ hp,hl2,λl hn=>?_⟩;have x3:=Ext.newO (o:= .lst (kvs.map (·.2))) x2.s3 hn;exact q l _ _ ((x1.trans x2).trans x3) ((x1.trans x2).s2.free hn) (x2.s3.free hn) ⟨_,j9,r⟩
   ·cases e1
  ·cases e1
def VW:List PV->Option PV
 |[.at (.bl b)]=>some (.at (.int (if b then 1 else 0)))
 |_=>none
def By:List V->Hp->VK->Prop:=λxs H Q=>∃ b:Bool,xs=[.bl b]/\Q (.int (if b then 1 else 0)) H
theorem Dg :CallR X (.type "int") By:=Df
instance:vX By VW where
 h:=λ{xs z} e {Hs H vs} s r {Q} q=>by
  unfold VW at e;split at e
  ·cases e;obtain ⟨v,rfl,a⟩:=zx r;cases u5 a;exact ⟨_,rfl,q _ _ _ (.refl s) (rep_at.mpr rfl)⟩
  ·cases e
end Mi
namespace Mi
open PySem PySem.Spec PyProof.Rows L2
variable{N ps:List Str}{H Hs:Hp}{ms:List Bool}{xs:List PV}{vs:List V}{te:TE}{ta:TA}{a:M}{as f it:MA}{m:List PV->Option PV}{E:XK}{C:Addr}{nm qual x:Str}{K:Fg}{ts:List Nat}{g:MG}{st:Stmt}{fd:FuncData}{b:MS}{n:Nat}{y:PV}{ε:ME}
variable {fr:Bool}
def RepsM (Hs H:Hp):List Bool->List PV->List V->Prop
 |[],xs,vs=>xs=[]/\vs=[]
 |b::ms,xs,vs=>∃ x xr v vr,xs=x::xr/\vs=v::vr/\(if b=true then RepB Hs H x v else Rep Hs x v)/\RepsM Hs H ms xr vr
theorem RepsM.length {Hs H:Hp}:∀{ms:List Bool}{xs:List PV}{vs:List V},RepsM Hs H ms xs vs->xs.length=ms.length/\vs.length=ms.length
 |[],_,_,h=>by rw [h.1,h.2];exact ⟨rfl,rfl⟩
 |b::ms,_,_,h=>by
  obtain ⟨x,xr,v,vr,rfl,rfl,_,r⟩:=h;have q:=RepsM.length r;exact ⟨congrArg (·+1) q.1,congrArg (·+1) q.2⟩
def zy:List Bool->List PV->ME
 |b::ms,x::xs=>(if b=true then .bo x else .sh x)::zy ms xs
 |_,_=>[]
theorem Pd:∀{ms:List Bool}{xs:List PV},xs.length=ms.length->(zy ms xs).length=ms.length
 |[],[],_=>rfl
 |_::ms,_::xs,h=>congrArg (·+1) (Pd (ms:=ms) (xs:=xs) (by simpa using h))
theorem Pc {Hs H:Hp}:∀{ms:List Bool}{xs:List PV}{vs:List V}{i:Nat}{sl:MSlot},RepsM Hs H ms xs vs->(zy ms xs)[i]?=some sl->∃(x:PV)(v:V),vs[i]?=some v/\((sl = .bo x/\RepB Hs H x v)∨(sl = .sh x/\Rep Hs x v))
 |[],_,_,i,sl,h,e=>by rw [h.1] at e;simp [zy] at e
 |b::ms,_,_,0,sl,h,e=>by
  obtain ⟨x,xr,v,vr,rfl,rfl,p,r⟩:=h;simp only [zy,List.getElem?_cons_zero,Option.some.injEq] at e;refine ⟨x,v,rfl,?_⟩;cases b with
  |true=>exact .inl ⟨e.symm,p⟩
  |false=>exact .inr ⟨e.symm,p⟩
 |b::ms,_,_,i+1,sl,h,e=>by
  obtain ⟨x,xr,v,vr,rfl,rfl,p,r⟩:=h;obtain ⟨y,w,h1,h2⟩:=Pc (i:=i) (sl:=sl) r (by simpa [zy] using e);exact ⟨y,w,by simpa using h1,h2⟩
theorem BT (s:Same Hs H)(r:RepsM Hs H ms xs vs):RS Hs H Hs H (L2.start N vs) (zy ms xs++List.replicate (N.length-ms.length) .no):=by
 obtain ⟨lx,lv⟩:=r.length;have ls:=Pd lx;have at1:∀(i:Nat)(sl:MSlot),(zy ms xs++List.replicate (N.length-ms.length) .no)[i]?=some sl->sl = .no∨∃(x:PV)(v:V),(L2.start N vs)[i]?=some (some v)/\((sl = .bo x/\RepB Hs H x v)∨(sl = .sh x/\Rep Hs x v)):=by
  intro i sl h;by_cases hi:i<ms.length
  ·rw [uZ (by rw [ls];exact hi)] at h;obtain ⟨x,v,h1,h2⟩:=Pc r h;refine .inr ⟨x,v,?_,h2⟩;unfold L2.start;rw [uZ (by rw [yZ,lv];exact hi),yK,h1];rfl
  ·rw [uQ (by rw [ls];omega),uJ] at h;split at h
   ·cases h;exact .inl rfl
   ·cases h
 refine ⟨.refl s,λi x h=>?_,λi x h=>?_,λi j x y a h1 _ _ _=>?_,?_,λi x h=>?_⟩
 ·rcases at1 i _ h with z|⟨y,v,hv,⟨z,_⟩|⟨z,q⟩⟩
  ·cases z
  ·cases z
  ·cases z;exact ⟨v,hv,q⟩
 ·rcases at1 i _ h with z|⟨y,v,hv,⟨z,_⟩|⟨z,q⟩⟩<;>cases z
 ·rcases at1 i _ h1 with z|⟨y,v,hv,⟨z,_⟩|⟨z,q⟩⟩<;>cases z
 ·unfold L2.start;rw [yL,yL,yZ,uF,uF,ls,lv]
 ·rcases at1 i _ h with z|⟨y,v,hv,⟨z,q⟩|⟨z,_⟩⟩
  ·cases z
  ·cases z;refine ⟨v,hv,?_⟩;rcases q with q|⟨a,e,n,t⟩
   ·exact .inl q
   ·exact .inr ⟨a,e,t.there,n,t⟩
  ·cases z
def za (ms:List Bool)(m:List PV->Option PV):Sp:=λvs H Q _=>∃ Hs xs y,Same Hs H/\RepsM Hs H ms xs vs/\m xs=some y/\∀ v Hs' H',Ext Hs H Hs' H'->Rep Hs' y v->Q v H'
def jd (ms:List Bool)(m:List PV->Option PV):Sp:=λvs H Q _=>∃ Hs xs y,Same Hs H/\RepsM Hs H ms xs vs/\m xs=some y/\∀ a Hs' H',Ext Hs H Hs' H'->H a=none->Hs' a=none->Top Hs' H' a y->Q (.ref a) H'
class jO (ms:List Bool)(ta:TA)(f:MA):Prop where
 h:∀{ε ys},f ε=some ys->∀{Hs0 H0 Hs H U},RS Hs0 H0 Hs H U ε->∀{Q:List V->Hp->Prop},(∀ vs Hs' H',Ext Hs H Hs' H'->RepsM Hs' H' ms ys vs->Q vs H')->ta U H Q
instance:jO [] qF x8 where
 h:=λe _ _ _ _ _ rs _ q=>by cases e;exact q _ _ _ (.refl rs.sub) ⟨rfl,rfl⟩
instance [sa:qq te a][sr:jO ms ta f]:jO (true::ms) (o5 te ta) (q0 a f) where
 h:=λe _ _ _ _ _ rs _ q=>by
  obtain ⟨x,ex,e⟩:=bind_some e;obtain ⟨xs,ey,e⟩:=bind_some e;cases e;exact sa.h ex rs λv Hs1 H1 x1 r1=>sr.h ey (rs.go x1) λvs Hs2 H2 x2 r2=>q _ _ _ (x1.trans x2) ⟨_,_,_,_,rfl,rfl,r1.ext x2,r2⟩
instance [sa:SemE te a][sr:jO ms ta f]:jO (false::ms) (o5 te ta) (q0 a f) where
 h:=λe _ _ _ _ _ rs _ q=>by
  obtain ⟨x,ex,e⟩:=bind_some e;obtain ⟨xs,ey,e⟩:=bind_some e;cases e;exact sa.h ex rs λv Hs1 H1 x1 r1=>sr.h ey (rs.go x1) λvs Hs2 H2 x2 r2=>q _ _ _ (x1.trans x2) ⟨_,_,_,_,rfl,rfl,r1.mono x2.s1,r2⟩
instance [sa:jO ms ta as]:SemE (qL (za ms m) [] E ta) (x9 m as) where
 h:=λe _ _ _ _ _ rs _ q=>by
  obtain ⟨xs,ex,e1⟩:=bind_some e;refine sa.h ex rs λvs Hs1 H1 x1 r1=>⟨Hs1,xs,_,x1.s3,by rw [yO];exact r1,e1,λv Hs' H' x r=>q v _ _ (x1.trans x) r⟩
instance [sa:jO ms ta as]:xo (qL (jd ms m) [] E ta) (x9 m as) where
 h:=λe _ _ _ _ _ rs _ q=>by
  obtain ⟨xs,ex,e1⟩:=bind_some e;refine sa.h ex rs λvs Hs1 H1 x1 r1=>⟨Hs1,xs,_,x1.s3,by rw [yO];exact r1,e1,λa Hs' H' x n n' r=>q a _ _ (x1.trans x) (x1.s2.free n) n' r⟩
instance [so:SemE te a][sa:jO ms ta as]:SemE (qi C nm (za (false::ms) m) [] E te ta) (u6 C nm m a as) where
 h:=λe _ _ _ _ _ rs _ q=>by
  obtain ⟨ns,fs,xs,ea,hn,e1,e2⟩:=wc e;refine so.h ea rs λv Hs1 H1 x1 r1=>?_;obtain ⟨p,dx,gs,rfl,hp,hk,hr⟩:=rep_ob.mp r1;refine ⟨p,dx,gs,rfl,x1.s3 _ _ hp,jw (by rw [hk];exact hn),sa.h e1 (rs.go x1) λvs Hs2 H2 x2 r2=>?_⟩;exact ⟨Hs2,_,_,x2.s3,by rw [yO];exact ⟨_,_,_,_,rfl,rfl,r1.mono x2.s1,r2⟩,e2,λv Hs' H' x r=>q v _ _ (x1.trans (x2.trans x)) r⟩
instance [so:SemE te a][sa:jO ms ta as]:xo (qi C nm (jd (false::ms) m) [] E te ta) (u6 C nm m a as) where
 h:=λe _ _ _ _ _ rs _ q=>by
  obtain ⟨ns,fs,xs,ea,hn,e1,e2⟩:=wc e;refine so.h ea rs λv Hs1 H1 x1 r1=>?_;obtain ⟨p,dx,gs,rfl,hp,hk,hr⟩:=rep_ob.mp r1;refine ⟨p,dx,gs,rfl,x1.s3 _ _ hp,jw (by rw [hk];exact hn),sa.h e1 (rs.go x1) λvs Hs2 H2 x2 r2=>?_⟩;exact ⟨Hs2,_,_,x2.s3,by rw [yO];exact ⟨_,_,_,_,rfl,rfl,r1.mono x2.s1,r2⟩,e2,λv Hs' H' x n n' r=>q v _ _ (x1.trans (x2.trans x)) (x1.s2.free (x2.s2.free n)) n' r⟩
def dItN (i:Nat):MA:=λε=>match ε[i]? with
 |some (.bo (.lst xs))=>some xs
 |_=>none
def ZW (i:Nat)(g:MG)(f:MS):MS:=λε=>(dItN i ε).bind λxs=>xA g f xs ε
theorem Lk {a:Addr}(h:H a=some (.lst vs))(r:Reps Hs xs vs):Xp (Itl K a) xs Hs H where
 go:=λi x Hs1 H1 e g1 g2 g3=>by
  obtain ⟨v,ev,rv⟩:=r.get e;refine ⟨⟨vs,v,SqL.of (g2 _ _ h),ev⟩,λw H2 y=>?_⟩;obtain ⟨rfl,y⟩:=y;have z:=y vs (SqL.of (g2 _ _ h));rw [ev] at z;cases z;exact ⟨Hs1,.refl g3,rv.mono g1⟩
 stop:=λHs1 H1 g1 g2 g3=>⟨vs,SqL.of (g2 _ _ h),by rw [r.length];exact yT _⟩
theorem ItOk.toB {J:It}(o:ItOk J xs Hs):Xp J xs Hs H:=⟨λi x Hs1 H1 e g1 _ g3=>o.go i x Hs1 H1 e g1 g3,λHs1 H1 g1 _ g3=>o.stop Hs1 H1 g1 g3⟩
instance {tg:TG}{tb:TS}{i:Nat}{f:MS}[sg:jP tg ts g][sf:o3 fr tb f]:o3 fr (tFor (XI K (b9 i)) tg tb) (ZW i g f) where
 h:=λ{ε o} e Hs0 H0 Hs1 H1 σ1 rs1 D q=>by
  obtain ⟨xs,ex,e1⟩:=bind_some e;unfold dItN at ex;split at ex
  ·rename_i ys hi;cases ex;obtain ⟨w,hw,bo⟩:=rs1.bo i _ hi;have main:∃(a:Addr),w = .ref a/\(∃ vs,SqL K H1 a vs)/\Xp (Itl K a) xs Hs1 H0∨∃(a:Addr),w = .ref a/\(∃ vs,SqL K H1 a vs)/\ItOk (Itl K a) xs Hs1:=by
    rcases bo with b|⟨a,rfl,n0,n,vs,hv,rv⟩
    ·obtain ⟨a,vs,rfl,ha,r⟩:=rep_lst.mp b;exact ⟨a,.inr ⟨a,rfl,⟨vs,SqL.of (rs1.sub _ _ ha)⟩,Kv ha r⟩⟩
    ·refine ⟨a,.inl ⟨rfl,⟨vs,SqL.of hv⟩,Lk ?_ rv⟩⟩;cases z:H0 a with
     |none=>exact absurd z n0
     |some o'=>have:=rs1.ext.s2 _ _ z;rw [hv] at this;cases this;rfl
   have fin:∃(a:Addr),w = .ref a/\(∃ vs,SqL K H1 a vs)/\Xp (Itl K a) xs Hs1 H0:=by
    obtain ⟨a,h|⟨a',h1,h2,h3⟩⟩:=main
    ·exact ⟨a,h⟩
    ·exact ⟨a',h1,h2,h3.toB⟩
   obtain ⟨a,rfl,hsq,ok⟩:=fin;refine ⟨.ref a,hw,a,rfl,hsq,?_⟩;have q1:=OutK.unbase rs1.ext q;refine ⟨λk m U H=>m=xs.length-k/\k<=xs.length/\∃ Hs ε,RS Hs1 H0 Hs H U ε/\xA g f (xs.drop k) ε=some _,⟨xs.length,by simp,yd _,Hs1,_,rs1.rebase,e1⟩,?_⟩;rintro k m U H ⟨rfl,hk,Hs,ε,r,el⟩;by_cases hlt:k<xs.length
   ·have hd:xs.drop k=xs[k]::xs.drop (k+1):=yj hlt;rw [hd] at el;unfold xA at el;obtain ⟨ε1,eg,el1⟩:=bind_some el;obtain ⟨o,eo,el2⟩:=bind_some el1;obtain ⟨go,yl⟩:=ok.go k xs[k] Hs H (by simp [hlt]) r.ext.s1 r.ext.s2 r.ext.s3;refine .inr ⟨go,λσ' H'=>k+1<=xs.length/\∃ Hs ε,RS Hs1 H0 Hs H' σ' ε/\xA g f (xs.drop (k+1)) ε=some _,λσ' H' p=>⟨xs.length-(k+1),by omega,rfl,p.1,p.2⟩,λv H2 y=>?_⟩;obtain ⟨Hs2,x2,r2⟩:=yl v H2 y;refine sg.h eg (r.go x2) r2 λσ2 rs2 _=>sf.h eo rs2 ?_;cases o with
    |nx ε2=>exact λHs3 H3 σ3 r3=>⟨hlt,Hs3,ε2,r3,el2⟩
    |ct ε2=>exact λHs3 H3 σ3 r3=>⟨hlt,Hs3,ε2,r3,el2⟩
    |bk ε2=>cases el2;exact q1
    |rt y=>cases el2;exact q1
   ·have ek:k=xs.length:=by omega
    subst ek;rw [uT] at el;unfold xA at el;cases el;exact .inl ⟨ok.stop Hs H r.ext.s1 r.ext.s2 r.ext.s3,q1 _ _ _ r⟩
  ·cases ex
def jq (n:Nat)(ms:List Bool)(f:MS):List PV->Option PV:=λxs=>if xs.length=ms.length then (f (zy ms xs++List.replicate (n-ms.length) .no)).bind λo=>match o with
 | .rt y=>some y
 | .nx _=>some (.at .non)
 |_=>none else none
def Qp (n:Nat)(ms:List Bool)(f:MS):List PV->Option PV:=λxs=>if xs.length=ms.length then (f (zy ms xs++List.replicate (n-ms.length) .no)).bind λo=>match o with
 | .rt y=>some y
 |_=>none else none
section
variable {P:Program}{w:World}{K:Fg}{mg:Str->Option Value}{base:Heap}
theorem okPB {f:Addr}{k:Nat}(F:Fun K x qual st f fd)(S:v4 N ps (j3 st))(hm:m=jq N.length ms b)(hk:ms.length=ps.length)(hb:∀(cdv:Value)(A:Around)(outer:List Env)(s:Shared)(H:Hp)(E:XK),Room k (A.deeper (envOfC qual (j3 st) s.heap.objs.size f cdv)) -> ∃ t,PSs (qr v5 P w K mg base N qual (j3 st) f cdv A outer s H E).nox (n9 st) t/\o3 false t b):FnOk P w K mg base v5 (k+1) f fd ps (za ms m):=by
 subst hm;refine F.ok S (λvs H Q E h=>?_) (λcdv A outer s H vs Q E hr h=>?_)
 ·obtain ⟨Hs,xs,y,_,r,e,_⟩:=h;rw [r.length.2];exact hk
 ·obtain ⟨Hs,xs,y,sm,r,e,q⟩:=h;obtain ⟨t,ht,sem⟩:=hb cdv A outer s H E hr;refine ⟨t,ht,?_⟩;unfold jq at e;split at e
  ·obtain ⟨o,eo,e1⟩:=bind_some e;refine sem.h eo (BT sm r) ?_;cases o with
   |rt z=>cases e1;exact λv Hs' H' x rv=>q v Hs' H' x rv
   |nx ε=>cases e1;exact λHs' H' U rs=>q _ Hs' H' rs.ext (rep_at.mpr rfl)
   |bk ε=>cases e1
   |ct ε=>cases e1
  ·cases e
theorem okOB {f:Addr}{k:Nat}(F:Fun K x qual st f fd)(S:v4 N ps (j3 st))(hm:m=Qp N.length ms b)(hk:ms.length=ps.length)(hb:∀(cdv:Value)(A:Around)(outer:List Env)(s:Shared)(H:Hp)(E:XK),Room k (A.deeper (envOfC qual (j3 st) s.heap.objs.size f cdv)) -> ∃ t,PSs (qr v5 P w K mg base N qual (j3 st) f cdv A outer s H E).nox (n9 st) t/\o3 true t b):FnOk P w K mg base v5 (k+1) f fd ps (jd ms m):=by
 subst hm;refine F.ok S (λvs H Q E h=>?_) (λcdv A outer s H vs Q E hr h=>?_)
 ·obtain ⟨Hs,xs,y,_,r,e,_⟩:=h;rw [r.length.2];exact hk
 ·obtain ⟨Hs,xs,y,sm,r,e,q⟩:=h;obtain ⟨t,ht,sem⟩:=hb cdv A outer s H E hr;refine ⟨t,ht,?_⟩;unfold Qp at e;split at e
  ·obtain ⟨o,eo,e1⟩:=bind_some e;refine sem.h eo (BT sm r) ?_;cases o with
   |rt z=>cases e1;exact λa Hs' H' x n n' t=>q a Hs' H' x n n' t
   |nx ε=>cases e1
   |bk ε=>cases e1
   |ct ε=>cases e1
  ·cases e
theorem Vx (hl:xs.length=ms.length)(h:b (zy ms xs++List.replicate (n-ms.length) .no)=some (.rt y)):jq n ms b xs=some y:=by unfold jq;rw [if_pos hl,h];rfl
theorem DY (hl:xs.length=ms.length)(h:b (zy ms xs++List.replicate (n-ms.length) .no)=some (.nx ε)):jq n ms b xs=some (.at .non):=by unfold jq;rw [if_pos hl,h];rfl
theorem GX (hl:xs.length=ms.length)(h:b (zy ms xs++List.replicate (n-ms.length) .no)=some (.rt y)):Qp n ms b xs=some y:=by unfold Qp;rw [if_pos hl,h];rfl
theorem DZ {i:Nat}{f:MS}{o:Option Out}(h:ε[i]?=some (.bo (.lst xs)))(k:xA g f xs ε=o):ZW i g f ε=o:=by unfold ZW dItN;rw [h];exact k
theorem DX {f:M}{cap:List (Option Nat)}{G:MG}{c:MB}{ys:List PV}(h:it ε=some xs)(hc:zE cap ts=true)(hl:xs.length<=lim)(k:qP G c f (i4 cap ε) xs=some ys):wb cap ts it G c f ε=some (.lst ys):=by unfold wb;rw [h];show (if _ then _ else _)=_;rw [if_pos ⟨hc,hl⟩,k];rfl
theorem GT {cap:List (Option Nat)}{f:M}{α:Type}(F G:α->PV)(l:List α)(h:it ε=some (l.map F))(hc:zE cap ts=true)(hl:l.length<=lim)(k:∀ a∈l,∃ ε1,g (F a) (i4 cap ε)=some ε1/\f ε1=some (G a)):wb cap ts it g c7 f ε=some (.lst (l.map G)):=DX h hc (by rw [yZ];exact hl) (Vq F G l k)
end
end Mi
namespace L2
open PySem PySem.Spec PyProof.Rows
def ZJ (CX:CXT)(X:Cx)(U:St)(E:XK):Prop:=∀(pins:List (Addr×Obj))(H:Hp)(s:Shared)(e:Value)(s':Shared),Inv X pins U H s->CX X.stack H s E e s'->X.xe e s'
def PEa (X:Cx)(U:St)(e:Expr)(t:TE):Prop:=∀(pins:List (Addr×Obj))(s:Shared)(H:Hp)(Q:VK),Inv X pins U H s->t U H Q->wpAny (model X.prog X.w) X.A (eval e X.env) (EP X pins U Q) X.xe s
def PSa (X:Cx)(U:St)(st:Stmt)(t:TS):Prop:=∀(pins:List (Addr×Obj))(s:Shared)(H:Hp)(D:qN),Inv X pins U H s->t D U H->wpAny (model X.prog X.w) X.A (exec st X.env) (SP X pins D) X.xe s
def PSsa (X:Cx)(U:St)(st:List Stmt)(t:TS):Prop:=∀(pins:List (Addr×Obj))(s:Shared)(H:Hp)(D:qN),Inv X pins U H s->t D U H->wpAny (model X.prog X.w) X.A (execs st X.env) (SP X pins D) X.xe s
section
variable {X:Cx}{k j:Nat}{C:Addr}{m x:Str}{ps:List Str}{sp:Sp}{o e c:Expr}{es:List Expr}{te ta:TE}{t:TA}{tc:TT}{apos pos p:Pos}{E:XK}{U:St}{st:Stmt}{a b:List Stmt}{u v:TS}
theorem RK (h1:PSa X U st u):PSsa X U [st] u:=by
 intro pins s H D I h;refine wpAny_execs_cons (j7 (h1 pins s H D I h) λf s1 q=>?_);cases f with
 |next=>exact wpAny_execs_nil q
 |ret v=>exact q
 |brk=>exact q
 |cont=>exact q
theorem RJ (he:PEa X U e te)(hs:swapsWith e none pos.line X.env=pure false:=by rfl):PSa X U (.Expr e pos) (xi te):=by intro pins s H D I h;exact wpAny_Expr_any (j7 (he pins s H _ I h) λv s1 ⟨x,H1,I1,r1,q1⟩=>⟨U,H1,I1,q1⟩) I.quiet hs
theorem Tn {CX:CXT}{f:Addr}{fd:FuncData}{pins:List (Addr×Obj)}{H:Hp}{s:Shared}{Q:VK}{us:List Value}{vs:List V}(F:FnOk X.prog X.w X.K X.mg X.base CX k f fd ps sp)(hr:Room k X.A)(hb:Binds X.K fd ps [])(hx:ZJ CX X U E)(I:Inv X pins U H s)(r:Vals vs us)(h:sp (vs++[]) H Q E):wpAny (model X.prog X.w) X.A (call (.ref f) us) (EP X pins U Q) X.xe s:=by
 have r2:Vals (vs++[]) (us++[]):=r.append .nil;have hl:(us++[]).length=ps.length:=by rw [<- r2.length];exact F.len _ _ _ _ h
 refine wpAny_call (codeAny_mono (F.run X.A X.stack s H ⟨us,[]⟩ (us++[]) (vs++[]) Q E hr I.env0 (hb s us I.kIn hl) r2 h) λr s' hq=>?_);cases r with
 |error e=>exact hx pins H s e s' I hq
 |ok fl =>
  cases fl with
  |ret u=>exact I.after hq
  |next=>exact False.elim hq
  |brk=>exact False.elim hq
  |cont=>exact False.elim hq
end
end L2
namespace Mi
open PySem L2
instance {fr:Bool}{E:XK}{C:Addr}:o3 fr (JW C E) o7 where
 h:=λe=>by cases e
variable {fr:Bool}
def YY (ε:ME):Prop:=∀(i:Nat)(s:MSlot),ε[i]?=some s->s = .no∨∃ x,s = .sh x
end Mi
namespace L2
open PySem PySem.Spec PyProof.Rows
section
variable {P:Program}{w:World}{K:Fg}{mg:Str->Option Value}{base:Heap}{A:Around}{outer:List Env}{s:Shared}{H:Hp}{f c':Addr}{pm ctv:Value}{params:Arguments}{body:Expr}{scope:Scope}{qual:Str}{clos:List (Str×Addr)}{ps fr:List Str}
 {us:List Value} {vs cv:List V} {t:TE} {Q:VK} {E:XK}
end
end L2
namespace Mi
open PySem L2
variable{kk vv:M}
def wPut (i:Nat)(kk vv:M):WS:=λε N _=>∃ y x k ks xs,vv ε=some y/\kk ε=some x/\zG x=some k/\ε[i]?=some (.ow (.dk ks xs))/\ks.length<=lim/\N (ε.set i (.ow (jA k y ks xs)))
instance {i:Nat}{ty tv:TE}[sk:SemE ty kk][sv:SemE tv vv]:SemWS (Wq (b9 i) ty tv) (wPut i kk vv) where
 h:=λ⟨y,x,k,ks,xs,ey,ex,ek,hi,hl,h⟩ _ _ _ _ _ _ rd _ q _=>by
  refine sv.h ey rd.rs λv Hs1 H1 x1 r1=>?_;obtain ⟨p,hp,n0,n,t⟩:=(rd.go x1).ow i _ hi;refine ⟨_,hp,sk.h ex (rd.go x1).rs λw Hs2 H2 x2 r2=>?_⟩;obtain ⟨p',hp',_,n2,kvs,hv,hk,hr⟩:=((rd.go x1).go x2).ow i _ hi;rw [hp] at hp';injection hp' with hp';injection hp' with hp';injection hp' with hp';subst hp';have ew:=va (.inl r2:RepB Hs2 H2 x w) ek;subst ew;have hlen:kvs.length<=lim:=by rw [<- hk,yZ] at hl;exact hl
  refine ⟨p,_,rfl,DPut.k hv (vL hlen),q _ _ _ _ h (((rd.go x1).go x2).change hi hp ?_) (x1.s1.trans x2.s1)⟩;have hs:=QH (k:=k) hr;unfold jA zw;rw [ZB,<- hs,hk];by_cases hc:(qC k ks xs).isSome=true
  ·rw [if_pos hc,if_pos hc];obtain ⟨q1,q2⟩:=Wg (k:=k) (r1.mono x2.s1) hr;exact ⟨_,j9,by rw [q2,hk],by rw [<- hk];exact q1⟩
  ·rw [if_neg hc,if_neg hc];exact ⟨_,j9,by rw [yE,hk];rfl,by rw [yE];exact hr.append (.one (r1.mono x2.s1))⟩
instance {i:Nat}:vx (wPut i kk vv) where
 h:=λk _ ⟨y,x,c,ks,xs,a,b,d,e,f,g⟩=>⟨y,x,c,ks,xs,a,b,d,e,f,k _ g⟩
end Mi
namespace L2
open PySem PySem.Spec PySem.Calls PyProof.Rows
variable{x:Str}{e:Expr}{te:TE}{pos:Pos}{es:List Expr}{t:TA}
section
variable {X:Cx}{K:Fg}
theorem y3 {N P:List Str}{sc:Scope}(h1:sc.kind = .function:=by rfl)(h2:sc.isCoroutine=false:=by rfl)(h3:sc.isGenerator=false:=by rfl)(h4:N.Nodup:=by decide +kernel)(h5:N.take P.length=P:=by rfl)(h6:∀ x∈P,sc.names.lookup x=some .local∨sc.names.lookup x=some .cell:=by decide +kernel)(h7:∀ y∈sc.names,y.2 ≠ .free:=by decide +kernel):v4 N P sc:=⟨h1,h2,h3,h4,h5,h6,h7⟩
theorem sW (i:Nat){pos':Pos}(hN:X.N.Nodup)(he:PE X e te)(hi:X.N[i]?=some x:=by rfl)(hx:Loc X.env.scope x:=by first|exact Or.inl rfl|exact Or.inr rfl)(hs:swapsWith e (some (.Name x pos')) pos.line X.env=pure false:=by rfl)(hf:X.fn x=true∨X.env.scope.names.lookup x=some .local:=by first|exact .inl rfl|exact .inr rfl):PS X (.Assign [.Name x pos'] e pos) (xS te (qS i)):=qh hN hi hx he hs hf
theorem aW (ha:PE X e te)(hs:starEach [e] X.env=(false,eval e X.env)::starEach [] X.env:=by rfl):PA X [e] (o5 te qF):=j8 ha y2 hs
theorem aC (ha:PE X e te)(hr:PA X es t)(hs:starEach (e::es) X.env=(false,eval e X.env)::starEach es X.env:=by rfl):PA X (e::es) (o5 te t):=j8 ha hr hs
theorem iW {a b:Expr}{ta tb:TE}(hK:X.K=K)(ha:PE X a ta)(hb:PE X b tb)(hs:Uc b:=by exact λ_ _=>rfl):PE X (.Subscript a b pos) (tOp (rIx K) ta tb):=JI (Lq hK) ha hb hs
end
section
variable {X:Cx}{K:Fg}
theorem fW {ps:List Str}{sp:Sp}{k j:Nat}{p:Pos}(c:Fn X.prog X.w X.K X.mg X.base k x ps sp)(hr:Room j X.A)(ha:PA X (e::es) t)(hj:k<=j:=by decide)(hg:Gl X x:=by rfl)(hdb:(x==("__debug__":Str))=false:=by decide)(he:starEach (e::es) X.env=(false,eval e X.env)::starEach es X.env:=by rfl)(hpl:(backTo pos (starEach es X.env)).any (·.1)=false:=by rfl):PE X (.Call (.Name x p) (e::es) [] pos) (qL sp [] E0 t):=qT c hr hj hg ha hdb he hpl
theorem gW (i:Nat)(hN:X.N.Nodup)(hi:X.N[i]?=some x:=by rfl)(hx:Loc X.env.scope x:=by first|exact Or.inl rfl|exact Or.inr rfl)(hf:X.fn x=true∨X.env.scope.names.lookup x=some .local:=by first|exact .inl rfl|exact .inr rfl):PG X (.Name x pos) (qS i):=r9 hN hi hx hf
end
end L2
namespace L2
open PySem PySem.Spec PyProof.Rows
variable{oe:Obj}{vs:Array Value}{l:List Env}{h h1:Heap}
theorem DL (o:Obj)(f:Array Value->Array Value):(o.mapFields f).dict=o.dict:=by obtain ⟨c,d,dt,sl⟩:=o;cases dt<;>rfl
structure jL (base h:Heap)(l:List Env)(e:Addr)(cls a0 fl:Value)(dx:Option Addr):Prop where
 st:base.StaysIn h
 new:base.get? e=none
 fun_:h.FunFrames base l
 ex:∃ oe vs T oT ts,h.get? e=some oe/\oe.cls=cls/\oe.dict=dx/\vs[0]?=some a0/\oe.data = .fields vs/\vs[1]?=some (.ref T)/\base.get? T=none/\T≠e/\h.get? T=some oT/\oT.data = .fields ts/\ts[3]?=some fl
section
variable {M:Model}{A:Around}{E:Value->Shared->Prop}{s:Shared}{base:Heap}{env:Env}{outer:List Env}{L e:Addr}{dx:Option Addr}{cls a0 fl:Value}{Q:Unit->Shared->Prop}
theorem KQ {head:Value}{had:Bool}(fr:A.frames=some (env::outer))(ff:s.heap.FunFrames base (env::outer))(hf:env.frame=some L)
  (he:s.heap.get? e=some oe) (st:base.StaysIn s.heap) (ne:base.get? e=none) (hd:oe.data = .fields vs) (sz:1<vs.size) (h0:vs[0]?=some a0)
  (h:∀ h',jL base h' (env::outer) e oe.cls a0 (rawInt L) oe.dict->s.heap.UpToSlots h'->Q () { s with heap:=h' }) :
  wpAny M A (do let a <- frameOf env;let pl <- entryPlaceOf L had;let b <- EntryCells.newEntry head a .none (rawInt L) .none pl;setField (.ref e) 1 b) Q E s:=by
 have out:e∉(env::outer).filterMap (·.frame):=λz=>by
  obtain ⟨_,o,z1,z2⟩:=ff.mem z;rw [he] at z1;cases z1;exact z2 vs hd
 refine yY (wpAny_frameOf_fun fr ff hf λh1 s1=>yY (wpAny_entryPlaceOf λpl hpl=>?_));unfold EntryCells.newEntry newFields;refine yY (wpAny_newObj_type ?_ (hpl.sizeOk5 _ _ _ _ _));have e1:h1.get? e=some oe:=(s1.2.1 e out).trans he;have k1:base.StaysIn h1:=λb o q=>(s1.2.1 b λz=>by rw [(ff.mem z).1] at q;cases q).trans (st b o q);generalize hob:({ cls:= .type "traceback",dict:=none,data:= .fields ([head,.ref L,.none,rawInt L,.none]++(if pl.isEmpty then List.replicate 6 Value.none else pl)).toArray }:Obj)=ob;have e2:=yW (h:=h1) ob e1;refine wpAny_setField e2 hd sz (h _ ?_ ?_)
 ·have nT:h1.objs.size≠e:=Nat.ne_of_gt (yQ e1);have d3:=Obj.data_mapFields hd (·.setIfInBounds 1 (Value.ref h1.objs.size));have e3:=ux (Obj.mapFields (·.setIfInBounds 1 (Value.ref h1.objs.size))) e2 (Obj.isFreed_of_fields d3);have eT:=(uU (h1.push ob) (Obj.mapFields (·.setIfInBounds 1 (Value.ref h1.objs.size))) (Ne.symm nT)).trans (yC h1 (by subst hob;rfl));have keep:∀ b o,b≠e->h1.get? b=some o->((h1.push ob).update e (Obj.mapFields (·.setIfInBounds 1 (Value.ref h1.objs.size)))).get? b=some o:=λb o nb q=>by
   rw [uU _ _ (Ne.symm nb)];exact yW _ q
  refine ⟨λb o q=>keep b o (λz=>by rw [z,ne] at q;cases q) (k1 b o q),ne,ff.of_keeps λb o q nf=>?_,?_⟩
  ·obtain ⟨sl,q1⟩:=s1.2.2 b o q;exact ⟨_,keep b _ (λz=>by rw [z,he] at q;cases q;exact nf vs hd) q1,rfl⟩
  ·refine ⟨_,_,h1.objs.size,_,_,e3,Obj.cls_mapFields _ _,DL _ _,by rw [Array.getElem?_setIfInBounds_ne (by decide)];exact h0,d3,by simp [sz],k1.fresh,nT,eT,by subst hob;rfl,?_⟩
   first|(simp;done)|(rcases hpl with rfl|⟨_,_,_,_,_,_,_,rfl⟩<;>simp)
 ·intro b o q nf;obtain ⟨sl,q1⟩:=s1.2.2 b o q;refine ⟨sl,?_⟩;show ((h1.push ob).update e _).get? b=_;rw [uU _ _ (λz:e=b=>by rw [<- z,he] at q;cases q;exact nf vs hd)];exact yW _ q1
theorem JA (F:jL base s.heap l e cls a0 fl dx)(h:∀ h',jL base h' l e cls a0 .none dx->s.heap.UpToSlots h'->Q () { s with heap:=h' }):wpAny M A (setFlight (.ref e) none) Q E s:=by
 obtain ⟨st,ne,ff,oe,vs,T,oT,ts,q1,q2,q3,q4,q5,q6,q7,q8,q9,q10,q11⟩:=F;have s3:3<ts.size:=(uP.mp q11).1;have oth:∀ b,b≠T->(s.heap.update T (Obj.mapFields (·.setIfInBounds 3 ((none:Option Addr).elim Value.none λf=>rawInt f)))).get? b=s.heap.get? b:=λb nb=>uU _ _ (Ne.symm nb);have nT:∀ b o,s.heap.get? b=some o->(∀ vs,o.data ≠ .fields vs)->b≠T:=λb o q nf z=>by
  rw [z,q9] at q;cases q;exact nf ts q10
 unfold setFlight;refine yY (wpAny_field q1 q5 q6 ?_);rw [if_pos (show (Value.ref T != Value.none)=true from by simp)];refine wpAny_setField q9 q10 s3 (h _ ⟨λb o q=>(oth b λz=>by rw [z,q7] at q;cases q).trans (st b o q),ne,ff.of_keeps λb o q nf=>⟨o,(oth b (nT b o q nf)).trans q,rfl⟩,?_⟩ λb o q nf=>⟨o.slots,(oth b (nT b o q nf)).trans q⟩);exact ⟨oe,vs,T,_,_,(oth e (Ne.symm q8)).trans q1,q2,q3,q4,q5,q6,q7,q8,ux _ q9 (Obj.isFreed_of_fields (Obj.data_mapFields q10 _)),Obj.data_mapFields q10 _,by simp [s3]⟩
theorem UpTo.trans {h2 h3:Heap}(a:h1.UpToSlots h2)(b:h2.UpToSlots h3):h1.UpToSlots h3:=Heap.UpToSlots.trans a b
theorem KU (fr:A.frames=some (env::outer))(hf:env.frame=some L)(F:jL base s.heap (env::outer) e cls a0 .none dx)(h:∀ h',jL base h' (env::outer) e cls a0 (rawInt L) dx->s.heap.UpToSlots h'->Q () { s with heap:=h' }):wpAny M A (noteFrame (.ref e) env) Q E s:=by
 obtain ⟨st,ne,ff,oe,vs,T,oT,ts,q1,q2,q3,q4,q5,q6,q7,q8,q9,q10,q11⟩:=F;subst q2 q3;unfold noteFrame;simp only [hf];refine yY (wpAny_field q1 q5 q6 ?_);rw [if_pos (show (Value.ref T != Value.none)=true from by simp)];refine yY (wpAny_field q9 q10 q11 ?_);rw [if_neg (show ¬ ((Value.none==rawInt L)=true) from by simp [rawInt])];refine yY (wpAny_setField q9 q10 (uP.mp q11).1 ?_);have oth:∀ b,b≠T->(s.heap.update T (Obj.mapFields (·.setIfInBounds 3 Value.none))).get? b=s.heap.get? b:=λb nb=>uU _ _ (Ne.symm nb);have nT:∀ b o,s.heap.get? b=some o->(∀ vs,o.data ≠ .fields vs)->b≠T:=λb o q nf z=>by
  rw [z,q9] at q;cases q;exact nf ts q10
 refine KQ fr (ff.of_keeps λb o q nf=>⟨o,(oth b (nT b o q nf)).trans q,rfl⟩) hf ((oth e (Ne.symm q8)).trans q1) (λb o q=>(oth b λz=>by rw [z,q7] at q;cases q).trans (st b o q)) ne q5 (uP.mp q6).1 q4 λh' F' up=>h h' F' λb o q nf=>?_;exact up b o ((oth b (nT b o q nf)).trans q) nf
theorem LH (fr:A.frames=some (env::outer))(hf:env.frame=some L)(F:jL base s.heap (env::outer) e cls a0 .none dx)(h:∀ h',jL base h' outer e cls a0 .none dx->s.heap.UpToSlots h'->Q () { s with heap:=h' }):wpAny M A (leaving env (.ref e)) Q E s:=by unfold leaving;refine yY (KU fr hf F λh1 F1 u1=>?_);refine JA F1 λh2 F2 u2=>h h2 ⟨F2.st,F2.new,F2.fun_.2.2,F2.ex⟩ (UpTo.trans u1 u2)
theorem LF (fr:A.frames=some (env::outer))(ff:s.heap.FunFrames base (env::outer))(hf:env.frame=some L)(he:s.heap.get? e=some oe)(st:base.StaysIn s.heap)(ne:base.get? e=none)(hd:oe.data = .fields vs)(h1:vs[1]?=some .none)(h0:vs[0]?=some a0)(h:∀ h',jL base h' outer e oe.cls a0 .none oe.dict->s.heap.UpToSlots h'->Q () { s with heap:=h' }):wpAny M A (leaving env (.ref e)) Q E s:=by unfold leaving noteFrame;simp only [hf];refine yY (yY (wpAny_field he hd h1 ?_));rw [if_neg (by decide)];refine KQ fr ff hf he st ne hd (uP.mp h1).1 h0 λh1 F1 u1=>?_;refine JA F1 λh2 F2 u2=>h h2 ⟨F2.st,F2.new,F2.fun_.2.2,F2.ex⟩ (UpTo.trans u1 u2)
end
structure Fly2 (h0 h:Heap)(H:Hp)(e:Addr)(cls:Value)(dx:Option Addr):Prop where
 ex:∃ oe vs T oT ts a0,h.get? e=some oe/\oe.cls=cls/\oe.dict=dx/\vs[0]?=some a0/\oe.data = .fields vs/\vs[1]?=some (.ref T)/\T≠e/\h.get? T=some oT/\oT.data = .fields ts/\ts[3]?=some .none/\H T=none/\h0.get? T=none
 free:H e=none
 new:h0.get? e=none
def y9 (P:Program)(w:World):CXT:=λouter H s E e s'=>∃ ea cls dx H',e = .ref ea/\s'.os=s.os/\AllBare s'.gens/\Un (p8 outer) [] H H' s.heap s'.heap/\HOk P w H' s'.heap/\Fly2 s.heap s'.heap H' ea cls dx/\E cls dx H'
theorem Fly2.weak {h0:Heap}{H:Hp}{e:Addr}{cls:Value}{dx:Option Addr}(F:Fly2 h1 h H e cls dx)(k:∀ b o,h0.get? b=some o->∃ o',h1.get? b=some o'):Fly2 h0 h H e cls dx:=by
 have d:∀ b,h1.get? b=none->h0.get? b=none:=λb n=>by
  cases z:h0.get? b with
  |none=>rfl
  |some o=>obtain ⟨o',z2⟩:=k b o z;rw [n] at z2;cases z2
 obtain ⟨⟨oe,vs,T,oT,ts,a0,e1,e2,e2',e3,e4,e5,e6,e7,e8,e9,e10,e11⟩,e12,e13⟩:=F;exact ⟨⟨oe,vs,T,oT,ts,a0,e1,e2,e2',e3,e4,e5,e6,e7,e8,e9,e10,d T e11⟩,e12,d e e13⟩
section
variable {M:Model}{A:Around}{Er:Value->Shared->Prop}{s:Shared}{h0 base:Heap}{H:Hp}{P:Program}{w:World}{env:Env}{outer:List Env}{L e:Addr}{cls:Value}{dx:Option Addr}{Q:Unit->Shared->Prop}
theorem Fly2.hid (fr:h.FunFrames base l)(F:Fly2 h0 h H e cls dx):∃ T a0,T≠e/\H T=none/\h0.get? T=none/\(∃ o,h.get? T=some o)/\jL (PySem.W.hideAll h ([e,T]++p8 l)) h l e cls a0 .none dx:=by obtain ⟨⟨oe,vs,T,oT,ts,a0,e1,e2,e2',e3,e4,e5,e6,e7,e8,e9,e10,e11⟩,e12,e13⟩:=F;have hin:∀ x∈l,∀ b,x.frame=some b->b∈[e,T]++p8 l:=λx hx b hb=>yt _ (VS hx hb);exact ⟨T,a0,e6,e10,e11,⟨_,e7⟩,⟨λb o q=>PySem.W.of_hideAll _ q,PySem.W.hideAll_none _ (yc _ (by simp)),PySem.W.funFrames_hide fr hin,oe,vs,T,oT,ts,e1,e2,e2',e3,e4,e5,PySem.W.hideAll_none _ (yc _ (by simp)),e6,e7,e8,e9⟩⟩
theorem PD {h':Heap}(fr:h.FunFrames base l)(up:h.UpToSlots h'):∀ b o,b∈p8 l->h.get? b=some o->∃ z,h'.get? b=some { o with slots:=z }:=λb o hb q=>up b o q (by
 obtain ⟨_,o2,z3,z4⟩:=fr.mem hb;rw [q] at z3;cases z3;exact z4)
theorem LG (hfr:A.frames=some (env::outer))(hf:env.frame=some L)(fr:s.heap.FunFrames base (env::outer))(hok:HOk P w H s.heap)(hp:∀ b o,h0.get? b=some o->∃ o',s.heap.get? b=some o')(F:Fly2 h0 s.heap H e cls dx)(hQ:∀ h' S,(∀ b∈S,H b=none/\(h0.get? b=none))->wN (S++p8 (env::outer)) (env::outer) s.heap h'->Fly2 h0 h' H e cls dx->Q () { s with heap:=h' }):wpAny M A (leaving env (.ref e)) Q Er s:=by
 obtain ⟨T,a0,eT,e10,e11,_,fl⟩:=F.hid fr;have e12:=F.free;have e13:=F.new;refine LH hfr hf fl λh' x up=>?_;obtain ⟨f1,f2,f3,oe',vs',T',oT',ts',g1,g2,g2',g3,g4,g5,g6,g7,g8,g9,g10⟩:=x;have sl:=PD fr up;have hS:∀ b∈[e,T],H b=none/\h0.get? b=none:=λb hb=>by
  have c:b=e∨b=T:=by simpa using hb
  rcases c with rfl|rfl
  ·exact ⟨e12,e13⟩
  ·exact ⟨e10,e11⟩
 obtain ⟨n1,n2⟩:=GO (S:=[e,T]) hok hp fr rfl sl g6 g8 g9 (hS T');exact hQ h' [e,T] hS ⟨λb o nb q=>f1 b o (PySem.W.hideAll_get _ q nb),sl⟩ ⟨⟨oe',vs',T',oT',ts',a0,g1,g2,g2',g3,g4,g5,g7,g8,g9,g10,n1,n2⟩,e12,e13⟩
theorem LD {a0:Value}(hfr:A.frames=some (env::outer))(hf:env.frame=some L)(fr:s.heap.FunFrames base (env::outer))(hok:HOk P w H s.heap)(hp:∀ b o,h0.get? b=some o->∃ o',s.heap.get? b=some o')(he:s.heap.get? e=some oe)(hd:oe.data = .fields vs)(v1:vs[1]?=some .none)(v0:vs[0]?=some a0)(e12:H e=none)(e13:h0.get? e=none)(hQ:∀ h',wN ([e]++p8 (env::outer)) (env::outer) s.heap h'->Fly2 h0 h' H e oe.cls oe.dict->Q () { s with heap:=h' }):wpAny M A (leaving env (.ref e)) Q Er s:=by have hin:∀ x∈env::outer,∀ b,x.frame=some b->b∈[e]++p8 (env::outer):=λx hx b hb=>yt _ (VS hx hb);refine LF (base:=PySem.W.hideAll s.heap ([e]++p8 (env::outer))) hfr (PySem.W.funFrames_hide fr hin) hf he (λb o q=>PySem.W.of_hideAll _ q) (PySem.W.hideAll_none _ (yc _ (by simp))) hd v1 v0 λh' x up=>?_;obtain ⟨f1,f2,f3,oe',vs',T',oT',ts',g1,g2,g2',g3,g4,g5,g6,g7,g8,g9,g10⟩:=x;have sl:=PD fr up;obtain ⟨n1,n2⟩:=GO (S:=[e]) hok hp fr rfl sl g6 g8 g9 (λz=>by rw [yM.mp z];exact ⟨e12,e13⟩);exact hQ h' ⟨λb o nb q=>f1 b o (PySem.W.hideAll_get _ q nb),sl⟩ ⟨⟨oe',vs',T',oT',ts',_,g1,g2,g2',g3,g4,g5,g7,g8,g9,g10,n1,n2⟩,e12,e13⟩
end
def Vj (X:Cx)(E:XK):Prop:=∀(pins:List (Addr×Obj))(U:St)(H:Hp)(s:Shared)(ea C:Addr)(oe:Obj)(vs:Array Value)(a0:Value),Inv X pins U H s->s.heap.get? ea=some oe->oe.cls = .ref C->oe.data = .fields vs->vs[1]?=some .none->vs[0]?=some a0->H ea=none->X.s₀.heap.get? ea=none->E (.ref C) oe.dict H->X.xe (.ref ea) s
section
variable {P:Program}{w:World}{K:Fg}{mg:Str->Option Value}{base:Heap}{N:List Str}{qual:Str}{scope:Scope}{f:Addr}{cd:Value}{A:Around}{outer:List Env}{s:Shared}{H:Hp}{E:XK}
theorem jg:Vj (qr (y9 P w) P w K mg base N qual scope f cd A outer s H E) E:=by
 intro pins U H1 s1 ea C oe vs a0 I he hc hd v1 v0 n1 n0 q;refine LD (h0:=s.heap) (H:=H1) (P:=P) (w:=w) (base:=base) (L:=s.heap.objs.size) I.ok.frames rfl I.stack I.hok (λb o e=>I.base.there b o e (λz=>nomatch z)) he hd v1 v0 n1 n0 λh2 k F=>?_;refine ⟨ea,_,_,H1,rfl,I.os,I.bare,Un.off (S:=[ea]++p8 (envOfC qual scope s.heap.objs.size f cd::outer)) I.base k.keep (λb hb=>?_) (λb o hb e=>k.slot b o (ya.mpr ?_) e),I.hok.off k.keep (λb hb=>?_),F,by rw [hc];exact q⟩
 ·rcases yy.mp hb with z|z
  ·rw [yM.mp z];exact .inr n0
  ·rcases yD.mp (I.stkSub b z) with z|z
   ·refine .inr ?_;rw [z];exact uR (yT _)
   ·exact .inl z
 ·obtain ⟨x,hx,hf⟩:=ya.mp hb;exact ⟨x,yS _ hx,hf⟩
 ·rcases yy.mp hb with z|z
  ·rw [yM.mp z];exact n1
  ·exact I.stkFree b z
theorem qw:zl (y9 P w) (qr (y9 P w) P w K mg base N qual scope f cd A outer s H E) E:=by
 intro pins U H1 s1 e s' I h;obtain ⟨ea,cls,dx,H',rfl,os,bare,un,hok,F,q⟩:=h;have I':=I.call' (ch:=[]) os un hok bare (λb z=>nomatch z);have there:∀ b o,s.heap.get? b=some o->∃ o',s1.heap.get? b=some o':=λb o e=>I.base.there b o e (λz=>nomatch z);refine LG (h0:=s.heap) (H:=H') (P:=P) (w:=w) (base:=base) (L:=s.heap.objs.size) I'.ok.frames rfl I'.stack hok (λb o e=>I'.base.there b o e (λz=>nomatch z)) (F.weak there) λh2 S hS k F2=>?_;refine ⟨ea,cls,dx,H',rfl,I'.os,I'.bare,Un.off (S:=S++p8 (envOfC qual scope s.heap.objs.size f cd::outer)) I'.base k.keep (λb hb=>?_) (λb o hb e=>k.slot b o (ya.mpr ?_) e),hok.off k.keep (λb hb=>?_),F2,q⟩
 ·rcases yy.mp hb with z|z
  ·exact .inr (hS b z).2
  ·rcases yD.mp (I'.stkSub b z) with z|z
   ·refine .inr ?_;rw [z];exact uR (yT _)
   ·exact .inl z
 ·obtain ⟨x,hx,hf⟩:=ya.mp hb;exact ⟨x,yS _ hx,hf⟩
 ·rcases yy.mp hb with z|z
  ·exact (hS b z).1
  ·exact I'.stkFree b z
theorem QV {X:Cx}:zl (y9 P w) X E0:=λ_ _ _ _ _ _ _ h=>by
 obtain ⟨_,_,_,_,_,_,_,_,_,_,q⟩:=h;exact q.elim
theorem Fun.ok2 {x qual:Str}{st:Stmt}{f:Addr}{fd:FuncData}{N ps:List Str}{k:Nat}{sp:Sp}(F:Fun K x qual st f fd)(S:v4 N ps (j3 st))(len:∀ vs H Q E,sp vs H Q E->vs.length=ps.length)(hbody:∀(cdv:Value)(A:Around)(outer:List Env)(s:Shared)(H:Hp)(vs:List V)(Q:VK)(E:XK),Room k (A.deeper (envOfC qual (j3 st) s.heap.objs.size f cdv))->sp vs H Q E -> ∃ t,PSs (qr (y9 P w) P w K mg base N qual (j3 st) f cdv A outer s H E) (n9 st) t/\t { nx:=λ_ H'=>Q .non H',rt:=Q } (start N vs) H):FnOk P w K mg base (y9 P w) (k+1) f fd ps sp:=by obtain ⟨oc,od,kV,doc,pm,an,cdv,ct,osl,rfl,lk,hcd⟩:=F.ex;exact Jj lk hcd S len λA outer s H vs Q E hr hsp=>hbody cdv A outer s H vs Q E hr hsp
end
structure Fy (P:Program)(w:World)(K:Fg)(mg:Str->Option Value)(base:Heap)(k:Nat)(x:Str)(ps:List Str)(sp:Sp):Prop where
 ex:∃ f fd,FnOk P w K mg base (y9 P w) k f fd ps sp/\mg x=some (.ref f)/\PySem.W.keepIn K (.ref f)=true/\Binds K fd ps []
section
variable {X:Cx}{k j:Nat}{x:Str}{ps:List Str}{sp:Sp}{e:Expr}{es:List Expr}{t:TA}{p pos:Pos}{E:XK}{U:St}
theorem wA (c:Fy X.prog X.w X.K X.mg X.base k x ps sp)(hr:Room j X.A)(hj:k<=j)(hx:zl (y9 X.prog X.w) X E)(hg:Gl X x)(ha:PA X (e::es) t)(hdb:(x==("__debug__":Str))=false:=by decide)(he:starEach (e::es) X.env=(false,eval e X.env)::starEach es X.env:=by rfl)(hpl:(backTo pos (starEach es X.env)).any (·.1)=false:=by rfl):PE X (.Call (.Name x p) (e::es) [] pos) (qL sp [] E t):=by obtain ⟨f,fd,F,hm,hk,hb⟩:=c.ex;exact Bh F (hr.mono hj) hg hm hk hb .nil hx ha hdb he hpl
theorem Rq (c:Fy X.prog X.w X.K X.mg X.base k x ps sp)(hr:Room j X.A)(hj:k<=j)(hx:ZJ (y9 X.prog X.w) X U E)(hg:Gl X x)(ha:PA X (e::es) t)(hdb:(x==("__debug__":Str))=false:=by decide)(he:starEach (e::es) X.env=(false,eval e X.env)::starEach es X.env:=by rfl)(hpl:(backTo pos (starEach es X.env)).any (·.1)=false:=by rfl):PEa X U (.Call (.Name x p) (e::es) [] pos) (qL sp [] E t):=by obtain ⟨f,fd,F,hm,hk,hb⟩:=c.ex;intro pins s H Q I h;refine wpAny_Call_Name_kw (wn I hg hm ?_ hdb);refine PySem.W.callWith_K (h₀:=X.base) I.ok.mod.kin hk (j7 (ha pos pins s U H _ I h) λus s1 ⟨vs,H1,I1,r,q⟩=>⟨I1.kIn,?_⟩) he hpl;exact Tn F (hr.mono hj) hb hx I1 r q
end
end L2
namespace L2
open PySem PySem.Spec PyProof.Rows PySem.W Builtin Builtin.ObjectAttr
variable{mN:Str->Option Value}{rest:List Value}{fI:Addr}{oI:Obj}
section
variable {prog:Program}{w:World}{A:Around}{E:Value->Shared->Prop}{s:Shared}{K:Frag}{e C R:Addr}{oe:Obj}{cd:ClassData}{name:Str}{v:Value}{vs:Array Value}{Q:Unit->Shared->Prop}
theorem xset (X:K.In s.heap)(he:s.heap.get? e=some oe)(hc:oe.cls = .ref C)(hdn:oe.dict=none)(hdf:oe.data = .fields vs)(hcd:clsIn K C=some cd)(hmro:cd.mro = .ref C:: .ref R::veMro)(hhd:cd.hasDict=true)(hs:findIn K (.ref C) "__setattr__"=some (some (.builtin "object.__setattr__")))(hn:findIn K (.ref C) name=some none)(h:∀ h' dx tk,h'.get? e=some { oe with dict:=some dx }->h'.Ns1 dx (λy=>if y=name then some v else none)->s.heap.objs.size<=dx->(∀ b o,b≠e->s.heap.get? b=some o->h'.get? b=some o)->Q () { s with heap:=h',toks:=tk }):wpAny (model prog w) A (setAttr (.ref e) name v) Q E s:=by
 have I:InstAt s.heap e oe C none:=⟨he,hc,by unfold notCls;rw [hdf],by rw [hdn];trivial⟩;refine set_plain X I hs ?_;obtain ⟨hp,gs,dr,tk,os⟩:=s;show codeAny _ _ _ _ (⟨hp,gs,dr,tk+1,os⟩:Shared)
 change K.In hp at X
 change hp.get? e=some oe at he
 change InstAt hp e oe C none at I
 have SF:=PySem.F.store_object;have sub:Looks (model prog w) hp (isInstance (.ref e) (.type "object")) true:=I.type.andThen (looks_mroIn X (by unfold mroIn;rw [hcd,yG,hmro];rfl));refine codeAny_call_builtin SF.slot.plain SF.entry (@check_slot (model prog w) _ _ _ "object.__setattr__" "object" "__setattr__" (.ref e) [.str name tk,v] [] _ SF.kind SF.split sub (SF.args (.ref e) (.str name tk) v) ?_);have hm:Looks (model prog w) hp (mroOf (.ref C)) cd.mro:=(looks_clsIn X hcd).andThen .now;rw [osa_eq,refuse_eq];refine yY (yY (I.type.here (yY (hm.here ?_))));rw [hmro,refuseLoop_ref,refuseLoop_ref,show veMro=[.type "ValueError",.type "Exception",.type "BaseException",.type "object"] from rfl,PySem.F.store_ValueError.passes];refine yN (yY (I.type.here (yY ((looks_findIn X hn).here (yY (yN ?_))))));show wpAny _ _ (storeInOwnDict (.ref e) (.ref C) (.str name tk) name v false) _ _ _;unfold storeInOwnDict ownDictForStores instanceDict;have he':(⟨hp,gs,dr,tk+1,os⟩:Shared).heap.get? e=some oe:=he;refine yY (yN (yY (yY (wpAny_loadPart he' ?_))));obtain ⟨ocl,odi,oda,osl⟩:=oe
 dsimp only at hc hdn hdf
 subst hc hdn hdf;refine yY ((looks_clsIn X hcd).here ?_);rw [hhd];have hx1:(hp.push { cls:= .type "dict",data:= .dict #[] }).get? e=some ⟨.ref C,none,.fields vs,osl⟩:=yW _ he;have hxs:e≠hp.objs.size:=yF (yQ he);refine yY (wpAny_alloc' (yY (wpAny_update' hx1 (yN ?_))));have hg:((hp.push { cls:= .type "dict",data:= .dict #[] }).update e λo=>{ cls:=o.cls,dict:=some hp.objs.size,data:=o.data,slots:=o.slots }).get? hp.objs.size=some { cls:= .type "dict",data:= .dict #[] }:=(Heap.get?_update_ne _ _ _ _ hxs.symm).trans (Heap.get?_push_at rfl rfl);show wpAny _ _ (storeInDict hp.objs.size (.str name tk) name v) _ _ _;unfold storeInDict newKeyGuard;have hnd:((hp.push { cls:= .type "dict",data:= .dict #[] }).update e λo=>{ cls:=o.cls,dict:=some hp.objs.size,data:=o.data,slots:=o.slots }).Ns hp.objs.size (λ_=>none):=⟨_,#[],_,hg,rfl,λe he=>absurd he (by simp),λ_=>rfl⟩;refine yY (yN (yY (wpAny_nsSet1 (Heap.Ns1.of_empty hnd) λh' hn' hs'=>?_)));obtain ⟨oD,esD,epD,hoD,hdD,hcD⟩:=hn'.count (Within.cons name v Within.nil);refine yY (wpAny_lookBehind hoD (by rw [hdD];exact pastItsLine_dict (ye hcD (by rw [yH,List.length_nil,sizeLine_eq];omega))) ?_);refine yN (h h' hp.objs.size _ ?_ hn' (yT _) λb o nb q=>?_)
 ·refine (hs'.2 e hxs).trans (ux _ hx1 rfl)
 ·exact (hs'.2 b (yF (yQ q))).trans ((Heap.get?_update_ne _ _ _ _ nb).trans (yW _ q))
end
section
variable {prog:Program}{w:World}{A:Around}{E:Value->Shared->Prop}{h:Heap}{g:Array GenState}{d:Drawn}{t:Nat}{os:OsState}
variable {nm q:Str}{C N:Addr}{bs bm bmB:List Value}{hdct:Bool}{sn:List Str}{sub:List Value}{ab:Bool}{col:Option Bool}{dd:Option Addr}{k0 k1 k2 k3 k5:Option Value}{B Bn newId nid initId inN:String}{bmN:List Value}
theorem SC (Fn:ExcBaseFacts Bn newId inN bmN)(hBn:bmB.contains (.type Bn)=true)(F:ExcBaseFacts B nid initId bmB)(T:OwnTail h bmB bm){Q:PySem.Fin->Shared->Prop}(hC:h.get? C=some (excClassObj nm q C N bs bm hdct sn sub ab col dd k0 k1 k2 k3 k5 newId))(hn:h.Ns N mN)(hi:mN "__init__"=some (.ref fI))(hfI:h.get? fI=some oI)(hfc:oI.cls = .type "function")(hq:∀ h' e,Heap.MadeExcOf h h' e (.ref C) rest->h.objs.size<=e->wpAny (model prog w) A (call (.ref fI) (.ref e::rest)) (λr s'=>r = .none/\Q (.done (.ret (.ref e))) s') E ⟨h',g,d,t,os⟩)(hrest:rest.length<=sizeLine):wpAny (model prog w) A (Builtin.«type.__call__» ⟨.ref C::rest,[]⟩) Q E ⟨h,g,d,t,os⟩:=by
 repeat (first|with_reducible refine wpAny_loadPart_at hC ?_|with_reducible refine wpAny_madeBy_exc hC ?_|wp_step)
 refine codeAny_call_builtin_code (Code.quiet_builtin _ Fn.quiet) (wpAny_check_new_subU Fn hBn T hC (codeAny_exc_new_subU Fn hBn F T hC ?_ hrest));show wpAny _ _ _ _ _ _;have up:∀ b o,h.get? b=some o->((h.push { cls:= .type "tuple",data:= .seq rest.toArray }).push { cls:= .ref C,data:= .fields #[.ref h.objs.size,.none,.none,.none,.bool false,.none] }).get? b=some o:=λb o z=>yW _ (yW _ z);have ge:((h.push { cls:= .type "tuple",data:= .seq rest.toArray }).push { cls:= .ref C,data:= .fields #[.ref h.objs.size,.none,.none,.none,.bool false,.none] }).get? (h.objs.size+1)=some { cls:= .ref C,data:= .fields #[.ref h.objs.size,.none,.none,.none,.bool false,.none] }:=by heap_get
 have n1:((h.push { cls:= .type "tuple",data:= .seq rest.toArray }).push { cls:= .ref C,data:= .fields #[.ref h.objs.size,.none,.none,.none,.bool false,.none] }).Ns N mN:=let ⟨o,es,ep,z,r⟩:=hn;⟨o,es,ep,up _ _ z,r⟩
 have hcC:(Value.ref C::bm).contains (.ref C)=true:=by simp
 have T1:=T.keeps up;unfold isInstance
 repeat (first|with_reducible refine wpAny_loadPart_at ge ?_|(with_reducible refine wpAny_isSubtype_exc (up _ _ hC) ?_;rw [hcC])|wp_step)
 show wpAny _ _ (typeLookup (.ref C) _) _ _ _;refine wpAny_typeLookup_tail (up _ _ hC) n1 T1 F.mroIs F.init.lookup ?_;rw [hi];refine wpAny_holding (yY ?_);unfold bindSpecial;refine yY (wpAny_typeOf (T:="function") ⟨_,up _ _ hfI,hfc⟩ ?_);rw [if_pos (by decide)];refine yN (yY (wpAny_mono (hq _ (h.objs.size+1) ⟨up,uR (uM _),h.objs.size,ge,uR (yT _),yW _ (Heap.get?_push_at rfl rfl)⟩ (uM _)) (λr s' hr=>?_) λ_ _ x=>x));obtain ⟨rfl,hQ⟩:=hr
 wp_walk
 exact hQ
theorem De (Fn:ExcBaseFacts Bn newId inN bmN)(hBn:bmB.contains (.type Bn)=true)(F:ExcBaseFacts B nid initId bmB)(T:OwnTail h bmB bm){Q:Value->Shared->Prop}(hC:h.get? C=some (excClassObj nm q C N bs bm hdct sn sub ab col dd k0 k1 k2 k3 k5 newId))(hn:h.Ns N mN)(hi:mN "__init__"=some (.ref fI))(hfI:h.get? fI=some oI)(hfc:oI.cls = .type "function")(hq:∀ h' e,Heap.MadeExcOf h h' e (.ref C) rest->h.objs.size<=e->wpAny (model prog w) (A.under (.builtin "type.__call__" ⟨.ref C::rest,[]⟩)) (call (.ref fI) (.ref e::rest)) (λr s'=>r = .none/\Q (.ref e) s') E ⟨h',g,d,t,os⟩)(hrest:rest.length<=sizeLine):wpAny (model prog w) A (call (.ref C) rest) Q E ⟨h,g,d,t,os⟩:=by
 have f1:=tc_lookup;have f2:=tc_bind (.ref C);have hT:(⟨h,g,d,t,os⟩:Shared).TypeIs (.ref C) "type":=⟨_,hC,rfl⟩;refine wpAny_call (codeAny_of_tree ?_);show wpAny _ _ (callAny (.ref C) _) _ _ _
 repeat (any_goals (first|assumption|with_reducible refine wpAny_loadPart_at hC ?_|wp_step))
 refine ⟨rfl,codeAny_call_builtin_at (Code.quiet_builtin _ (by decide +kernel)) entry_typeCall (wpAny_check_type_call_sub hC (SC Fn hBn F T hC hn hi hfI hfc (λh' e hm hz=>?_) hrest))⟩;exact hq h' e hm hz
end
end L2
namespace L2
open PySem PySem.Spec PyProof.Rows PySem.W
variable{K:Frag}{h:Heap}{C dx e:Addr}{P:Program}{w:World}{H:Hp}{pins:List (Addr×Obj)}{U:St}{s:Shared}
def jJ (K:Frag)(C R fI:Addr):Bool:=match K.lookup C with
 |some ⟨.type "type",_,.cls cd,sl⟩=>(match cd.mro,sl.toList with
  | .ref C':: .ref R'::bm,[_,_,_,_,some (.builtin n),_]=>C'==C&&R'==R&&bm==veMro&&n == "ValueError.__new__" && !cd.hasDel&&cd.hasDict&&tailIn K veMro (.ref R::veMro)&&nsOkIn K cd.ns&&nsIn K cd.ns "__init__" == some (some (.ref fI))
  |_,_=>false)
 |_=>false
theorem Ni {N:Addr}{mg:Str->Option Value}{n:Str}{v:Value}(X:K.In h)(G:h.Ns N mg)(e:nsIn K N n=some (some v)):mg n=some v:=by
 obtain ⟨o,es,ep,ho,hd,_,hf⟩:=G;unfold nsIn at e;split at e
 next a b es' c lk =>
  have:=X _ _ lk;rw [ho] at this;cases this;cases hd;split at e
  ·rename_i en he;cases e;rw [<- hf];unfold nsFind findBy;rw [<- Array.find?_toList,he];rfl
  ·split at e<;>cases e
 next=>cases e
structure XCls (h:Heap)(K:Frag)(C R fI:Addr):Prop where
 ob:∃ nm q N bs sn sub ab col dd k0 k1 k2 k3 k5 mN,h.get? C=some (excClassObj nm q C N bs (.ref R::veMro) true sn sub ab col dd k0 k1 k2 k3 k5 "ValueError.__new__")/\h.Ns N mN/\mN "__init__"=some (.ref fI)
 tl:OwnTail h veMro (.ref R::veMro)
 cl:∃ cd,clsIn K C=some cd/\cd.mro = .ref C:: .ref R::veMro/\cd.hasDict=true
theorem YW {R fI:Addr}(X:K.In h)(q:jJ K C R fI=true):XCls h K C R fI:=by
 unfold jJ at q;split at q
 next dA cA sA lk =>
  split at q
  next D R' bm s0 s1 s2 s3 nw s5 em es =>
   simp only [yn,beq_iff_eq,Bool.not_eq_true'] at q;obtain ⟨⟨⟨⟨⟨⟨⟨⟨q1,q2⟩,q3⟩,q4⟩,q5⟩,q6⟩,q7⟩,q8⟩,q9⟩:=q;subst q1 q2 q3 q4;have cl:clsIn K D=some cA:=by unfold clsIn;rw [lk]
   refine ⟨?_,tail_of_in X q7,cA,cl,em,q6⟩;cases cA with
   |mk f1 f2 f3 f4 f5 f6 f7 f8 f9 f10 f11 =>
    have em':f3 = .ref D:: .ref R'::veMro:=em;have q5':f11=false:=q5;have q6':f6=true:=q6;have es':sA=#[s0,s1,s2,s3,some (.builtin "ValueError.__new__"),s5]:=by
     cases sA with
     |mk l=>exact congrArg Array.mk es
    subst em' q5' q6' es';have G:=Heap.Ns.of_isNs (isNs_of_in X (show nsOkIn K f4=true from q8));exact ⟨f1,f5,f4,f2,f7,f8,f9,f10,dA,s0,s1,s2,s3,s5,_,X _ _ lk,G,Ni X G q9⟩
  next=>cases q
 next=>cases q
def XB (C e:Addr):Heap->Prop:=λh=>∃ t,h.get? e=some { cls:= .ref C,data:= .fields #[.ref t,.none,.none,.none,.bool false,.none] }
def XD (C e dx:Addr):Heap->Prop:=λh=>∃ t,h.get? e=some { cls:= .ref C,dict:=some dx,data:= .fields #[.ref t,.none,.none,.none,.bool false,.none] }
theorem xb_ok (x:XB C e h):ObjOk P w H h e (.ext (XB C e)):=⟨x,let ⟨_,q⟩:=x;⟨_,q⟩,λ_ _ ⟨t,q⟩ k=>⟨t,k _ q⟩⟩
theorem xd_ok (x:XD C e dx h):ObjOk P w H h e (.ext (XD C e dx)):=⟨x,let ⟨_,q⟩:=x;⟨_,q⟩,λ_ _ ⟨t,q⟩ k=>⟨t,k _ q⟩⟩
theorem SS {a b c:HO}(n:dx≠e):z7 (z7 (z7 H e a) dx b) e c=z7 (z7 H dx b) e c:=by
 funext y
 by_cases h1:y=e
 ·subst h1;rw [j9,j9]
 ·rw [z6 h1,z6 h1];by_cases h2:y=dx
  ·subst h2;rw [j9,j9]
  ·rw [z6 h2,z6 h2,z6 h1]
def Xg (C:Addr)(f:Str):Sp:=λvs H Q _=>∃ e v,vs=[.ref e,v]/\H e=some (.ext (XB C e))/\∀ dx,H dx=none->dx≠e->Q .non (z7 (z7 H dx (.xd [(f,v)])) e (.ext (XD C e dx)))
def sFldX (C:Addr)(f:Str)(ta tv:TE):TS:=λD U H=>tv U H λy H1=>ta U H1 λx H2=>∃ e,x = .ref e/\H2 e=some (.ext (XB C e))/\∀ dx,H2 dx=none->dx≠e->D.nx U (z7 (z7 H2 dx (.xd [(f,y)])) e (.ext (XD C e dx)))
section
variable {X:Cx}{o value:Expr}{f:Str}{pos pos':Pos}{ta tv:TE}{C R fI:Addr}
theorem RF (q:jJ X.K C R fI=true)(hs:findIn X.K (.ref C) "__setattr__"=some (some (.builtin "object.__setattr__")))(hn:findIn X.K (.ref C) f=some none)(ha:PE X o ta)(hv:PE X value tv)(hw:swapsWith value (some (.Attribute o f pos')) pos.line X.env=pure false):PS X (.Assign [.Attribute o f pos'] value pos) (sFldX C f ta tv):=by
 intro pins s U H D I h;refine plainObj_wpAny_Assign_Attribute (j7 (hv pins s U H _ I h) λu s1 ⟨y,H1,I1,ry,q1⟩=>j7 (ha pins s1 U H1 _ I1 q1) λov s2 zq=>?_) hw;obtain ⟨x,H2,I2,rx,e,ex,ee,q2⟩:=zq;subst ex;obtain rfl:ov=Value.ref e:=rx;obtain ⟨⟨t,he⟩,_,_⟩:=(show ObjOk X.prog X.w H2 s2.heap e (.ext (XB C e)) from I2.hok e _ ee);obtain ⟨cd,c1,c2,c3⟩:=(YW I2.kIn q).cl;refine xset I2.kIn he rfl rfl rfl c1 c2 c3 hs hn λh' dx tk g1 g2 g3 g4=>?_;have nd:dx≠e:=λz=>by rw [z] at g3;exact uS _ (yA (yQ he) g3)
 have fd:H2 dx=none:=I2.hok.fresh g3;refine ⟨U,_,?_,q2 dx fd nd⟩;have oth:∀{b:Addr}{u:HO},b≠e->b≠dx->(z7 (z7 H2 dx (.xd [(f,y)])) e (.ext (XD C e dx)) b=some u↔H2 b=some u):=λ{b u} h1 h2=>by rw [z6 h1,z6 h2]
 have old:∀{b:Addr}{u:HO},H2 b=some u->b≠dx:=λ{b u} z1 z2=>by rw [z2,fd] at z1;cases z1
 refine I2.un ⟨λb u z n _ _=>g4 b u (λy=>by rw [y,ee] at n;cases n) z,λb u z n _ _=>⟨u.slots,g4 b u (λy=>by rw [y,ee] at n;cases n) z⟩,λb u z n _=>?_,λb u z _=>?_,λb xs z=>(oth (λy=>by rw [y,ee] at z;cases z) (old z)).mpr z,λb o u z=>(oth (λy=>by rw [y,ee] at z;cases z) (old z)).mpr z,λb ps q z=>(oth (λy=>by rw [y,ee] at z;cases z) (old z)).mpr z⟩ λb u z=>?_
 ·rw [z6 (λy=>by rw [y,ee] at n;cases n),z6 (λy=>by rw [y] at z;exact uS _ (yA (yQ z) g3))];exact n
 ·by_cases hb:b=e
  ·rw [hb];exact ⟨_,g1⟩
  ·exact ⟨_,g4 b u hb z⟩
 ·by_cases hb:b=e
  ·subst hb;rw [j9] at z;cases z;exact xd_ok ⟨t,g1⟩
  ·by_cases hd:b=dx
   ·subst hd;rw [z6 hb,j9] at z;cases z;refine ⟨_,g2,λg=>?_⟩;by_cases hg:g=f
    ·subst hg;rw [if_pos rfl];show RelO (List.lookup g [(g,y)]) _;rw [yg,beq_self_eq_true];exact ry
    ·rw [if_neg hg];show RelO (List.lookup g [(f,y)]) _;rw [yg,show (g==f)=false from beq_eq_false_iff_ne.mpr hg];exact True.intro
   ·rw [oth hb hd] at z;refine (I2.hok b u z).stay (λc v hc e1=>g4 c v (λy=>?_) e1) (λc e1=>(oth (λy=>by rw [y,ee] at e1;cases e1) (old e1)).mpr e1) (λc xs e1=>(oth (λy=>by rw [y,ee] at e1;cases e1) (old e1)).mpr e1) λc o u e1=>(oth (λy=>by rw [y,ee] at e1;cases e1) (old e1)).mpr e1;rcases hc with hc|hc
    ·exact hb (hc.symm.trans y)
    ·rw [y,ee] at hc;cases hc
structure XMk (P:Program)(w:World)(K:Frag)(mg:Str->Option Value)(base:Heap)(k:Nat)(x:Str)(C:Addr)(f:Str):Prop where
 ex:∃ R fI fd ps,jJ K C R fI=true/\isFn K (.ref fI)=true/\keepIn K (.ref C)=true/\mg x=some (.ref C)/\FnOk P w K mg base v5 k fI fd ps (Xg C f)/\Binds K fd ps []
theorem Tp {W:Value->Shared->Prop}{k:Nat}{fd:FuncData}{ps:List Str}{u:Value}{v:V}(q:jJ X.K C R fI=true)(hf:isFn X.K (.ref fI)=true)(F:FnOk X.prog X.w X.K X.mg X.base v5 k fI fd ps (Xg C f))(hr:Room (k+1) X.A)(hb:Binds X.K fd ps [])(I:Inv X pins U H s)(r:RelV v u)(h:∀ e dx s',s.heap.objs.size<=e->H e=none->H dx=none->dx≠e->Inv X pins U (z7 (z7 H dx (.xd [(f,v)])) e (.ext (XD C e dx))) s'->W (.ref e) s'):wpAny (model X.prog X.w) X.A (call (.ref C) [u]) W X.xe s:=by
 obtain ⟨⟨nm,qn,N,bs,sn,sub,ab,col,dd,k0,k1,k2,k3,k5,mN,hC,hN,hi⟩,tl,_⟩:=YW I.kIn q;have hfn:∃ oI,s.heap.get? fI=some oI/\oI.cls = .type "function":=by have z:typeIn X.K (.ref fI)=some (.type "function"):=beq_iff_eq.mp hf;unfold typeIn at z;obtain ⟨oI,z1,z2⟩:=yx.mp z;exact ⟨oI,I.kIn _ _ z1,z2⟩
 obtain ⟨oI,hI,hIc⟩:=hfn;obtain ⟨hp,gs,dr,tk,os⟩:=s;refine De PySem.F.excBase_ValueError (by decide) PySem.F.excBase_ValueError tl hC hN hi hI hIc (λh' e mk ge=>?_) (by show 1<=sizeLine;rw [sizeLine_eq];decide);obtain ⟨t,m1,m2,m3⟩:=mk.there;have ne:H e=none:=I.hok.fresh ge;have I2:Inv X pins U (z7 H e (.ext (XB C e))) ⟨h',gs,dr,tk,os⟩:=I.laid (s:=⟨hp,gs,dr,tk,os⟩) (t':=tk) mk.keeps ge (xb_ok ⟨t,m1⟩);have r2:Vals [V.ref e,v] [Value.ref e,u]:= .cons rfl (.cons r .nil);have hq:Xg C f [V.ref e,v] (z7 H e (.ext (XB C e))) (λx H2=>x = .non/\∃ dx,H dx=none/\dx≠e/\H2=z7 (z7 H dx (.xd [(f,v)])) e (.ext (XD C e dx))) E0:=⟨e,v,rfl,j9,λdx n1 n2=>⟨rfl,dx,by rwa [z6 n2] at n1,n2,SS n2⟩⟩;have hl:([Value.ref e,u]++[]).length=ps.length:=by rw [<- F.len _ _ _ _ hq];rfl
 refine wpAny_call (codeAny_mono (F.run _ X.stack _ _ ⟨[Value.ref e,u],[]⟩ ([Value.ref e,u]++[]) [V.ref e,v] _ E0 (hr.make C [u] []) (I2.env0.make C [u] []) (hb _ [Value.ref e,u] I2.kIn hl) (by rw [yO];exact r2) hq) λr s' hq'=>?_);cases r with
 |error e=>exact hq'.elim
 |ok fl =>
  cases fl with
  |ret u=>obtain ⟨v,H',I3,rv,ev,dx,n1,n2,rfl⟩:=I2.after hq';subst ev;exact ⟨rv,h e dx _ ge ne n1 n2 I3⟩
  |next=>exact False.elim hq'
  |brk=>exact False.elim hq'
  |cont=>exact False.elim hq'
theorem Inv.forget {φ:Heap->Prop}(I:Inv X pins U H s)(h:H e=some (.ext φ))(n0:X.s₀.heap.get? e=none):Inv X pins U (λb=>if b=e then none else H b) s:=by
 have g:∀{b:Addr}{u:HO},b≠e->((if b=e then none else H b)=some u↔H b=some u):=λ{b u} nb=>by rw [if_neg nb]
 have f:∀{b:Addr},H b=none->(if b=e then none else H b)=none:=λ{b} z=>by split;rfl;exact z
 have tup:∀{b:Addr}{xs:List V},H b=some (.tup xs)->(if b=e then none else H b)=some (.tup xs):=λ{b xs} z=>(g (λy=>by rw [y,h] at z;cases z)).mpr z;have frz:∀{b:Addr}{o:Obj}{u:HO},H b=some (.frz o u)->(if b=e then none else H b)=some (.frz o u):=λ{b o u} z=>(g (λy=>by rw [y,h] at z;cases z)).mpr z;refine ⟨I.ok,I.os,I.bare,⟨I.base.keep,I.base.slot,λb o z n hx=>f (I.base.free b o z n hx),I.base.there,λb xs z=>tup (I.base.tups b xs z),λb o u z=>frz (I.base.frzs b o u z),λb ps q z=>(g (λy=>by have:=I.base.tbls b ps q z;rw [y,h] at this;cases this)).mpr (I.base.tbls b ps q z)⟩,I.loc,I.cell,f I.free,λx c z=>f (I.freeC x c z),λp hp=>let ⟨a,b,c⟩:=I.pin p hp;⟨a,f b,c⟩,λb u z=>?_,I.len⟩;by_cases hb:b=e
 ·rw [if_pos hb] at z;cases z
 ·exact (I.hok b u ((g hb).mp z)).stay (λ_ _ _ z=>z) (λc z=>(g (λy=>by rw [y,h] at z;cases z)).mpr z) (λc xs z=>tup z) λc o u z=>frz z
def YE (C:Addr)(f:Str)(E:XK)(t:TA):TS:=λ_ U H=>t U H λvs H1=>∃ v,vs=[v]/\∀ dx,H1 dx=none->E (.ref C) (some dx) (z7 H1 dx (.xd [(f,v)]))
theorem RH {E:XK}{k j:Nat}{x:Str}{np cpos pos:Pos}{e:Expr}{t:TA}(hc:X.calm=true)(hex:X.ex=[])(c:XMk X.prog X.w X.K X.mg X.base k x C f)(hr:Room j X.A)(hj:k+1<=j)(hg:Gl X x)(ha:PA X [e] t)(ht:Vj X E)(hdb:(x==("__debug__":Str))=false:=by decide)(he:starEach [e] X.env=(false,eval e X.env)::starEach [] X.env:=by rfl)(hpl:(backTo cpos (starEach [] X.env)).any (·.1)=false:=by rfl):PS X (.Raise (some (.Call (.Name x np) [e] [] cpos)) none pos) (YE C f E t):=by
 obtain ⟨R,fI,fd,ps,q,hf,hk,hm,F,hb⟩:=c.ex;intro pins s U H D I h;rw [arm_exec_Raise];refine yY (wpAny_standAt ?_);unfold raiseStmt;refine yY (yY (wpAny_Call_Name_kw (wn I hg hm ?_ hdb)));refine callWith_K (h₀:=X.base) I.ok.mod.kin hk (j7 (ha cpos pins s U H _ I h) λus s1 ⟨vs,H1,I1,r,v,ev,q1⟩=>⟨I1.kIn,?_⟩) he hpl;subst ev;obtain ⟨u,rfl,ru⟩:=zk r;refine Tp q hf F (hr.mono hj) hb I1 ru λea dx s' ge n1 n2 n3 I2=>?_;refine yY (wpAny_standAt (yN ?_));have n0:X.s₀.heap.get? ea=none:=by
  cases z:X.s₀.heap.get? ea with
  |none=>rfl
  |some o=>obtain ⟨o',z2⟩:=I1.base.there ea o z (by rw [hex];exact λz=>nomatch z);rw [uR ge] at z2;cases z2
 have I3:=Inv.forget I2 j9 n0;obtain ⟨⟨tt,hE⟩,_,_⟩:=(show ObjOk X.prog X.w _ s'.heap ea (.ext (XD C ea dx)) from I2.hok ea _ j9);have eH:(λb=>if b=ea then none else z7 (z7 H1 dx (.xd [(f,v)])) ea (.ext (XD C ea dx)) b)=z7 H1 dx (.xd [(f,v)]):=by
  funext b
  by_cases hb:b=ea
  ·rw [if_pos hb,hb,z6 (Ne.symm n3)];exact n1.symm
  ·rw [if_neg hb,z6 hb]
 rw [eH] at I3;have fin:X.xe (.ref ea) s':=ht pins U _ s' ea C _ _ _ I3 hE rfl rfl rfl rfl (by rw [z6 (Ne.symm n3)];exact n1) n0 (q1 dx n2);obtain ⟨⟨nm,qn,N,bs,sn,sub,ab,col,dd,k0,k1,k2,k3,k5,mN,hC,hN,hi⟩,tl,_⟩:=YW I2.kIn q;have hcB:(Value.ref C:: .ref R::veMro).contains (.type "BaseException")=true:=by rw [List.contains_cons,List.contains_cons,show veMro.contains (.type "BaseException")=true by decide,Bool.or_true,Bool.or_true]
 obtain ⟨hp,gs,dr,tk,os⟩:=s'
 repeat (first|with_reducible refine wpAny_loadPart_at hE ?_|with_reducible refine wpAny_loadPart_at hC ?_|(with_reducible refine wpAny_isSubtype_exc hC ?_;rw [hcB])|wp_step)
 exact wpAny_raiseNew_none (I.ok.hd hc) fin
end
end L2
namespace L2
open PySem PySem.Spec PyProof.Rows PySem.W Builtin Builtin.ObjectAttr
section
variable {X:Cx}{K:Frag}{x n:Str}{i:Nat}{D0:Addr}{cs:List Addr}{body suite:List Stmt}{b₀:Stmt}{tb:XK->TS}{ts:Addr->Addr->Option Addr->TS}{np hpos pos:Pos}
end
end L2
namespace L2
open PySem PySem.Spec PyProof.Rows PySem.W
theorem jz {X:Cx}{x:Str}{C:Addr}{E:XK}{np cpos pos:Pos}(hc:X.calm=true)(hex:X.ex=[])(hg:Gl X x)(hm:X.mg x=some (.ref C))(q:excIn X.K C veMro "ValueError.__new__"=true)(ht:Vj X E)(hd:(x==("__debug__":Str))=false:=by decide):PS X (.Raise (some (.Call (.Name x np) [] [] cpos)) none pos) (JW C E):=by
 intro pins s U H D I h;obtain ⟨tl,N,nm,qn,bs,hdct,sn,sub,ab,col,dd,k0,k1,k2,k3,k5,mN,hC,hN,hni,TL⟩:=(Rb (mg:=X.mg) I.kIn hm q).obj;refine wpAny_Raise_call_subU (C:=C) (nm:=nm) (q:=qn) (N:=N) (bs:=bs) (bm:=tl) (hdct:=hdct) (sn:=sn) (sub:=sub) (ab:=ab) (col:=col) (dd:=dd) (k0:=k0) (k1:=k1) (k2:=k2) (k3:=k3) (k5:=k5) PySem.F.excBase_ValueError (by decide) PySem.F.excBase_ValueError (mN:=mN) (TL.hasType PySem.F.excBase_ValueError.hasBase) (I.ok.hd hc) rfl hni (wn I hg hm ⟨rfl,?_⟩ hd);refine evalArgs_empty ⟨rfl,yd _,hC,hN,TL,λh' ea mk=>?_⟩;obtain ⟨t,m1,_,_⟩:=mk.there;refine ht pins U H _ ea C _ _ _ (I.kept (t':=s.toks) mk.keeps) m1 rfl rfl rfl rfl (I.hok.gone mk.new) ?_ h;cases z:X.s₀.heap.get? ea with
 |none=>rfl
 |some o=>obtain ⟨o',z2⟩:=I.base.there ea o z (by rw [hex];exact λz=>nomatch z);rw [mk.new] at z2;cases z2
end L2
namespace Mi
open PySem L2
variable{E:XK}{C:Addr}{f:Str}{te:TE}{tb:TS}
abbrev XV:=Option (Str×V)
def EOK (E:XK)(c:Addr)(y:XV)(Hs H:Hp):Prop:=match y with
 |none=>∀ Hs' H',Ext Hs H Hs' H'->E (.ref c) none H'
 |some p=>∀ Hs' H' dx,Ext Hs H Hs' H'->H dx=none->H' dx=some (.xd [p])->E (.ref c) (some dx) H'
theorem EOK.ext {c:Addr}{y:XV}{Hs H Hs1 H1:Hp}(q:EOK E c y Hs H)(x:Ext Hs H Hs1 H1):EOK E c y Hs1 H1:=by
 cases y with
 |none=>exact λHs' H' e=>q Hs' H' (x.trans e)
 |some p=>exact λHs' H' dx e n h=>q Hs' H' dx (x.trans e) (x.s2.free n) h
abbrev YM:=ME->Addr->XV->Prop
variable{xa xb:YM}
class vC (E:XK)(te:TE)(f:YM):Prop where
 h:∀{ε c y},f ε c y->∀{Hs0 H0 Hs H U},RS Hs0 H0 Hs H U ε->EOK E c y Hs H->∀{Q:VK},te U H Q
class xW (E:XK)(ts:TS)(f:YM):Prop where
 h:∀{ε c y},f ε c y->∀{Hs0 H0 Hs H U},RS Hs0 H0 Hs H U ε->EOK E c y Hs0 H0->∀{D:qN},ts D U H
def xk:YM:=λ_ _ _=>False
instance (priority:=2000){ts:TS}:xW E ts xk where
 h:=λh=>h.elim
def jK (C:Addr):YM:=λ_ c y=>c=C/\y=none
instance :xW E (JW C E) (jK C) where
 h:=λh _ _ _ _ _ rs q _=>by
  obtain ⟨rfl,rfl⟩:=h;exact q _ _ rs.ext
def YX (C:Addr)(f:Str)(a:M):YM:=λε c y=>c=C/\∃ v,a ε=some (.at v)/\y=some (f,v)
instance {a:M}[sa:SemE te a]:xW E (YE C f E (o5 te qF)) (YX C f a) where
 h:=λh _ _ _ _ _ rs q _=>by
  obtain ⟨rfl,v,ea,rfl⟩:=h;refine sa.h ea rs λu Hs1 H1 x1 r1=>⟨u,rfl,λdx hd=>?_⟩;rw [rep_at.mp r1];exact q _ _ dx (rs.ext.trans (x1.trans (.newO x1.s3 hd))) (rs.ext.s2.free (x1.s2.free hd)) j9
instance {fr:Bool}{t:TA}:o3 fr (YE C f E t) o7 where
 h:=λe=>by cases e
def xv (fr:Bool)(a:MS)(xa xr:YM):YM:=λε c y=>xa ε c y∨∃ ε',a ε=some (.nx ε')/\xr ε' c y
instance {fr:Bool}{t u:TS}{a:MS}{xr:YM}[sa:o3 fr t a][s1:xW E t xa][s2:xW E u xr]:xW E (tSeq t u) (xv fr a xa xr) where
 h:=λh _ _ _ _ _ rs q D=>by
  rcases h with h|⟨ε',e,h⟩
  ·exact s1.h h rs q
  ·exact sa.h e rs λHs H U r=>s2.h h r q
def yIf (c:MB)(xa xb:YM):YM:=λε k y=>∃ b,c ε=some b/\if b=true then xa ε k y else xb ε k y
instance {t:TT}{ta:TS}{c:MB}[sc:qO t c][sa:xW E ta xa][sb:xW E tb xb]:xW E (vT t ta tb) (yIf c xa xb) where
 h:=λh _ _ _ _ _ rs q _=>by
  obtain ⟨b,e,h⟩:=h;refine sc.h e rs λHs1 H1 x1=>?_;cases b with
  |true=>exact qb (sa.h (by simpa using h) (rs.go x1) q)
  |false=>exact qf (sb.h (by simpa using h) (rs.go x1) q)
def yX (f:YM):YM:=f
instance {f:YM}[s:vC E te f]:xW E (xi te) (yX f) where
 h:=λh _ _ _ _ _ rs q _=>s.h h rs (q.ext rs.ext)
instance {f:YM}[s:vC E te f]:xW E (vt te) (yX f) where
 h:=λh _ _ _ _ _ rs q _=>s.h h rs (q.ext rs.ext)
def ZG (g:MG)(f:MS)(xf:YM):List PV->YM
 |[]=>λ_ _ _=>False
 |x::xs=>λε c y=>∃ ε1,g x ε=some ε1/\(xf ε1 c y∨∃ ε2,(f ε1=some (.nx ε2)∨f ε1=some (.ct ε2))/\ZG g f xf xs ε2 c y)
def yFor (fr:Bool)(i:MA)(g:MG)(f:MS)(xf:YM):YM:=λε c y=>∃ xs,i ε=some xs/\ZG g f xf xs ε c y
instance {fr:Bool}{wi:TI}{tg:TG}{ts:List Nat}{i:MA}{g:MG}{f:MS}{xf:YM}[si:zC wi i][sg:jP tg ts g][sf:o3 fr tb f][sx:xW E tb xf]:xW E (tFor wi tg tb) (yFor fr i g f xf) where
 h:=λ{ε0 c y} e Hs0 H0 _ _ _ rs q D=>by
  obtain ⟨xs,ex,e1⟩:=e;refine si.h ex rs λJ Hs1 H1 x1 ok=>?_;have rs1:=rs.go x1;have q1:EOK E c y Hs1 H0:=by
   cases y with
   |none=>exact λHs' H' z=>q Hs' H' (rs1.ext.unbase z)
   |some p=>exact λHs' H' dx z n h=>q Hs' H' dx (rs1.ext.unbase z) n h
  refine ⟨λk m U H=>m=xs.length-k/\k<=xs.length/\∃ Hs ε,RS Hs1 H0 Hs H U ε/\ZG g f xf (xs.drop k) ε c y,⟨xs.length,by simp,yd _,Hs1,_,rs1.rebase,e1⟩,?_⟩;rintro k m U H ⟨rfl,hk,Hs,ε,r,el⟩;by_cases hlt:k<xs.length
  ·have hd:xs.drop k=xs[k]::xs.drop (k+1):=yj hlt;rw [hd] at el;obtain ⟨ε1,eg,el2⟩:=el;obtain ⟨go,yl⟩:=ok.go k xs[k] Hs H (by simp [hlt]) r.ext.s1 r.ext.s3;refine .inr ⟨go,λσ' H'=>k+1<=xs.length/\∃ Hs ε,RS Hs1 H0 Hs H' σ' ε/\ZG g f xf (xs.drop (k+1)) ε c y,λσ' H' p=>⟨xs.length-(k+1),by omega,rfl,p.1,p.2⟩,λv H2 y'=>?_⟩;obtain ⟨Hs2,x2,r2⟩:=yl v H2 y';refine sg.h eg (r.go x2) r2 λσ2 rs2 _=>?_;rcases el2 with el2|⟨ε2,eo|eo,el2⟩
   ·exact sx.h el2 rs2 q1
   ·exact sf.h eo rs2 λHs3 H3 σ3 r3=>⟨hlt,Hs3,ε2,r3,el2⟩
   ·exact sf.h eo rs2 λHs3 H3 σ3 r3=>⟨hlt,Hs3,ε2,r3,el2⟩
  ·have ek:k=xs.length:=by omega
   subst ek;rw [uT] at el;exact el.elim
def m7 (m:List PV->Option PV)(x:List PV->Addr->XV->Prop):Sp:=λvs H Q E=>∃ Hs xs,Same Hs H/\Reps Hs xs vs/\((∃ y,m xs=some y/\∀ v Hs' H',Ext Hs H Hs' H'->Rep Hs' y v->Q v H')∨∃ c y,x xs c y/\EOK E c y Hs H)
def vw (x:List PV->Addr->XV->Prop)(as:MA):YM:=λε c y=>∃ xs,as ε=some xs/\x xs c y
section
variable {m:List PV->Option PV}{x:List PV->Addr->XV->Prop}{ta:TA}{as:MA}{E:XK}
instance [sa:o6 ta as]:SemE (qL (m7 m x) [] E ta) (x9 m as) where
 h:=λe _ _ _ _ _ rs _ q=>by
  obtain ⟨xs,ex,e1⟩:=bind_some e;exact sa.h ex rs λvs Hs1 H1 x1 r1=>⟨Hs1,xs,x1.s3,by rw [yO];exact r1,.inl ⟨_,e1,λv Hs' H' x r=>q v _ _ (x1.trans x) r⟩⟩
instance [sa:o6 ta as]:vC E (qL (m7 m x) [] E ta) (vw x as) where
 h:=λh _ _ _ _ _ rs q _=>by
  obtain ⟨xs,ex,h⟩:=h;exact sa.h ex rs λvs Hs1 H1 x1 r1=>⟨Hs1,xs,x1.s3,by rw [yO];exact r1,.inr ⟨_,_,h,q.ext x1⟩⟩
end
def yFn (n k:Nat)(f:YM):List PV->Addr->XV->Prop:=λxs c y=>xs.length=k/\f (xs.map .sh++List.replicate (n-k) .no) c y
section
variable {P:Program}{w:World}{K:Fg}{mg:Str->Option Value}{base:Heap}
theorem QP {y qual:Str}{st:Stmt}{f:Addr}{fd:FuncData}{N ps:List Str}{k:Nat}{b:MS}{m:List PV->Option PV}{x:List PV->Addr->XV->Prop}(F:Fun K y qual st f fd)(S:v4 N ps (j3 st))(hm:m=u8 N.length ps.length b)(hx:x=yFn N.length ps.length xb)(hb:∀(cdv:Value)(A:Around)(outer:List Env)(s:Shared)(H:Hp)(E:XK),Room k (A.deeper (PyProof.Rows.envOfC qual (j3 st) s.heap.objs.size f cdv)) -> ∃ t,PSs (qr (y9 P w) P w K mg base N qual (j3 st) f cdv A outer s H E) (n9 st) t/\o3 false t b/\xW E t xb):FnOk P w K mg base (y9 P w) (k+1) f fd ps (m7 m x):=by
 subst hm;subst hx;refine F.ok2 S (λvs H Q E h=>?_) (λcdv A outer s H vs Q E hr h=>?_)
 ·obtain ⟨Hs,xs,_,r,⟨y,e,_⟩|⟨c,y,h,_⟩⟩:=h
  ·rw [r.length];unfold u8 at e;split at e
   ·rename_i hl;exact hl
   ·cases e
  ·rw [r.length];exact h.1
 ·obtain ⟨Hs,xs,sm,r,h⟩:=h;obtain ⟨t,ht,sem,semx⟩:=hb cdv A outer s H E hr;refine ⟨t,ht,?_⟩;rcases h with ⟨y,e,q⟩|⟨c,y,h,q⟩
  ·unfold u8 at e;split at e
   ·rename_i hl;obtain ⟨o,eo,e1⟩:=bind_some e;refine sem.h eo (by rw [<- hl];exact jD sm r) ?_;cases o with
    |rt z=>cases e1;exact λv Hs' H' x rv=>q v Hs' H' x rv
    |nx ε=>cases e1;exact λHs' H' U rs=>q _ Hs' H' rs.ext (rep_at.mpr rfl)
    |bk ε=>cases e1
    |ct ε=>cases e1
   ·cases e
  ·exact semx.h h.2 (by rw [<- h.1];exact jD sm r) q
end
variable {fr:Bool}
end Mi
namespace L2
open PySem PySem.Spec PyProof.Rows PySem.W
theorem okXI {P:Program}{w:World}{K:Frag}{mg:Str->Option Value}{base:Heap}{x qual:Str}{st:Stmt}{f fI C R:Addr}{fd:FuncData}{a b g:Str}{value:Expr}{o:Expr}{pos pos':Pos}(F:Fun K x qual st f fd)(S:v4 [a,b] [a,b] (j3 st))(hb:n9 st=[.Assign [.Attribute o g pos'] value pos])(q:jJ K C R fI=true)(hs:findIn K (.ref C) "__setattr__"=some (some (.builtin "object.__setattr__")))(hn:findIn K (.ref C) g=some none)(h:∀ (cdv:Value) (A:Around) (outer:List Env) (s:Shared) (H:Hp) (E:XK),PE (qr v5 P w K mg base [a,b] qual (j3 st) f cdv A outer s H E).nox o (b9 0)/\PE (qr v5 P w K mg base [a,b] qual (j3 st) f cdv A outer s H E).nox value (b9 1) /\ swapsWith value (some (.Attribute o g pos')) pos.line (qr v5 P w K mg base [a,b] qual (j3 st) f cdv A outer s H E).nox.env=pure false):FnOk P w K mg base v5 1 f fd [a,b] (Xg C g):=by
 refine F.ok (k:=0) S (λvs H Q E h=>?_) (λcdv A outer s H vs Q E hr h'=>?_)
 ·obtain ⟨e,v,rfl,_⟩:=h;rfl
 ·obtain ⟨h1,h2,h3⟩:=h cdv A outer s H E;obtain ⟨e,v,rfl,he,q'⟩:=h';refine ⟨_,by rw [hb];exact j6 (RF q hs hn h1 h2 h3),?_⟩;exact ⟨_,rfl,_,rfl,e,rfl,he,q'⟩
end L2
namespace L2
open PySem PySem.Spec PySem.Calls PyProof.Rows
section
variable {X:Cx}
def vkO (v a:Addr):HO:= .ext λh=>PySem.W.KdlKeysView h v a
def Ps (td:TE):TE:=λU H Q=>td U H λx H1=>∃ a kvs,x = .ref a/\Rd H1 a (.dK kvs)/\∀ v,H1 v=none->Q (.ref v) (z7 H1 v (vkO v a))
theorem Rk {d:Expr}{td:TE}{apos cpos:Pos}(ho:PE X d td)(hbase:attributeBase d "keys" X.env (eval d X.env)=eval d X.env:=by rfl)(hline:(apos.endLine==cpos.line)=true:=by rfl):PE X (.Call (.Attribute d "keys" apos) [] [] cpos) (Ps td):=by
 intro pins s U H Q I h;refine wpAny_Call_method0_late hbase hline (j7 (ho pins s U H _ I h) λv s1 zq=>?_);obtain ⟨x,H1,I1,r1,q1⟩:=zq;obtain ⟨a,kvs,e,hq,q⟩:=q1;subst e;cases r1;obtain ⟨z,hs,vs,rel,dd⟩:=jW I1.hok hq;obtain ⟨o,es,ep,g1,g5,_⟩:=id dd;refine ⟨"dict","dict.keys",PySem.F.plainAttrs_dict,PySem.F.slot_dict_keys,PySem.F.type_dict_keys,dd.typeIs,λb e=>?_,Calls.callWith_builtin rfl (PySem.evalArgs_none ?_)⟩
 ·cases e;exact ⟨o,g1,g5.2.1⟩
 refine call_meetsIn PySem.F.slot_dict_keys dd.typeIs PySem.F.entry_dict_keys (PySem.F.args_dict_keys_1 _) (PySem.W.kdl_meets_keys (qc X.prog X.w) a hs) ⟨⟨vs,dd⟩,?_⟩;refine ⟨.ref s1.heap.objs.size,_,I1.laid (t':=s1.toks) (o:=vkO s1.heap.objs.size a) (λb o e=>yW _ e) (yT _) ⟨⟨_,yC _ rfl,rfl,rfl⟩,⟨_,yC _ rfl⟩,λh1 h2 ⟨o,e,c⟩ k=>⟨o,k o e,c⟩⟩,rfl,q _ (I1.hok.fresh (yT _))⟩
def BI:List V->Hp->VK->Prop:=λxs H Q=>∃(v a:Addr)(ss:List Str)(kvs:List (v3×V)),xs=[.ref v]/\H v=some (vkO v a)/\Rd H a (.dK kvs)/\kvs.map (·.1)=ss.map Sum.inr/\ss.length<64 /\
 ∀ l ss',H l=none->ss'.Perm ss->Xt ss'->Q (.ref l) (z7 H l (.lst (ss'.map V.str)))
theorem Dw (hc:X.calm=true):CallR X (.builtin "sorted") BI:=by
 intro pins s U H xs us Q I r h;obtain ⟨v,a,ss,kvs,rfl,hv,hq,hk,h64,q⟩:=h;obtain ⟨u,rfl,ru⟩:=zk r;obtain rfl:u=Value.ref v:=ru;have hvw:PySem.W.KdlKeysView s.heap v a:=(show ObjOk X.prog X.w H s.heap v (vkO v a) from I.hok v _ hv).1;obtain ⟨z,hd,vs,rel,dd⟩:=jW I.hok hq;obtain ⟨ep,hat⟩:=dd.dictAt;have ek:=Ky rel hk;have hvl:vs.length=ss.length:=by have:=congrArg List.length ek;rwa [yZ,yZ] at this
 refine Calls.call_function_entry (id:="sorted") kind_sorted plain_sorted entry_sorted (args_sorted1 _) ?_;unfold Builtin.«sorted»;refine yY (m:=checkCount "sorted" 1 1 _) (yN ?_);refine yY (PySem.W.kdu_collect (PySem.W.kdl_keys (knd:=qc X.prog X.w) (kvs:=vs) (ep:=ep)) (by simpa using I.ok.hd hc) ⟨hvw,hat⟩ (yb (jF (by omega))) λh1 tk acc k1 hacc=>?_);have hS:=Ku ek hacc;have hal:acc.toList.length=ss.length:=by have:=hacc.1;simp;omega
 refine Pe (s:={ s with heap:=h1,toks:=tk }) hS (by omega) λh' out ss' e k2 he a1 a2 a3=>?_;have I1:Inv X pins U H { s with heap:=h1,toks:=tk }:=I.kept (t':=tk) k1;refine ⟨.ref _,_,I1.laid (t':=tk) (o:= .lst (ss'.map V.str)) k2 (yT _) ?_,rfl,q _ ss' (I1.hok.fresh (yT _)) a2 (YB a3)⟩;exact ⟨by rw [yZ,a2.length_eq];exact yb (jF (by omega)),out,e,Va a1,he⟩
end
end L2
namespace Mi
open PySem L2
def Vt (a:M):M:=λε=>(a ε).bind λx=>match x with
 | .dk ks _=>(zV ks).bind λss=>if ss.length<64 then some (.lst ((xJ ss).map λs=> .at (.str s))) else none
 |_=>none
instance {te:TE}{a:M}[sa:qq te a]:xo (tCB BI (o5 (Ps te) qF)) (Vt a) where
 h:=λe _ _ _ _ _ rs _ q=>by
  obtain ⟨x,ex,e1⟩:=bind_some e;split at e1
  ·obtain ⟨ss,eb,e2⟩:=bind_some e1;split at e2
   ·rename_i hl;cases e2;refine sa.h ex rs λv Hs1 H1 x1 r1=>?_;obtain ⟨p,kvs,rfl,hp,hk,hr⟩:=jc x1.s3 r1;refine ⟨p,kvs,rfl,.inl hp,λw hw=>?_⟩;have x2:Ext Hs1 H1 Hs1 (z7 H1 w (vkO w p)):= .newO x1.s3 hw;refine ⟨w,p,ss,kvs,rfl,j9,.inl (x2.s2 _ _ hp),by rw [hk,Jt eb],hl,λl ss' hn p1 p2=>?_⟩;rw [JU p1 p2];exact q l _ _ ((x1.trans x2).trans (.newO x2.s3 hn)) ((x1.trans x2).s2.free hn) (x2.s3.free hn) ⟨_,j9,JQ _⟩
   ·cases e2
  ·cases e1
end Mi
namespace Mi
open PySem PySem.Spec PyProof.Rows L2
variable{H H0 Hs:Hp}{a:Addr}{ps:List (Addr×PV)}{te:TE}{m:List PV->Option PV}{xs:List PV}{b:MS}
structure Deep (H0 Hs H:Hp)(a:Addr)(ps:List (Addr×PV)):Prop where
 top:H a=some (.lst (ps.map λp=>V.ref p.1))
 each:∀ p∈ps,Top Hs H p.1 p.2
 nd:(a::ps.map (·.1)).Nodup
 new:∀ b∈a::ps.map (·.1),H0 b=none/\Hs b=none
theorem Deep.live (d:Deep H0 Hs H a ps):∀ b∈a::ps.map (·.1),H b≠none:=λb hb=>by
 rcases yD.mp hb with rfl|hb
 ·rw [d.top];exact λz=>nomatch z
 ·obtain ⟨p,hp,rfl⟩:=yw.mp hb;exact (d.each p hp).there
theorem Deep.go {Hs' H':Hp}(d:Deep H0 Hs H a ps)(x:Ext Hs H Hs' H'):Deep H0 Hs' H' a ps :=
 ⟨x.s2 _ _ d.top,λp hp=>(d.each p hp).mono x.s1 λo z=>x.s2 _ _ z,d.nd,λb hb=>⟨(d.new b hb).1,x.s4 b (d.live b hb) (d.new b hb).2⟩⟩
theorem Deep.reps {Hs H Hs':Hp}:∀{ps:List (Addr×PV)},(∀ p∈ps,Top Hs H p.1 p.2)->(∀ p∈ps,Hs p.1=none)->Same Hs Hs'->(∀ p∈ps,Hs' p.1=H p.1)->Reps Hs' (ps.map (·.2)) (ps.map λp=>V.ref p.1)
 |[],_,_,_,_=> .nil
 |p::ps,h,n,g,k=>by
  refine .cons ?_ (Deep.reps (λq hq=>h q (yS _ hq)) (λq hq=>n q (yS _ hq)) g λq hq=>k q (yS _ hq));obtain ⟨o,ho,hr⟩:=(h p yU).rep (n p yU);refine hr.mono λb u e=>?_;by_cases hb:b=p.1
  ·subst hb;rw [j9] at e;cases e;rw [k p yU];exact ho
  ·rw [z6 hb] at e;exact g _ _ e
theorem Deep.share {Ha Hb:Hp}(d:Deep H0 Hs H a ps)(x:Ext Ha Hb Hs H)(f:∀ b∈a::ps.map (·.1),Hb b=none):∃ Hp',Same Hs Hp'/\Ext Ha Hb Hp' H/\Rep Hp' (.lst (ps.map (·.2))) (.ref a)/\∀ b,b∉a::ps.map (·.1)->Hp' b=Hs b:=by
 open Classical in
 let Hp':Hp:=λb=>if b∈a::ps.map (·.1) then H b else Hs b
 have hin:∀ b,b∈a::ps.map (·.1)->Hp' b=H b:=λb hb=>if_pos hb;have hout:∀ b,b∉a::ps.map (·.1)->Hp' b=Hs b:=λb hb=>if_neg hb
 clear_value Hp'
 have g:Same Hs Hp':=λb o e=>by
  rw [hout b λz=>by rw [(d.new b z).2] at e;cases e];exact e
 refine ⟨Hp',g,⟨x.s1.trans g,x.s2,λb o e=>?_,λb h z=>?_⟩,rep_lst.mpr ⟨a,ps.map λp=>V.ref p.1,rfl,?_,?_⟩,hout⟩
 ·by_cases hb:b∈a::ps.map (·.1)
  ·rw [hin b hb] at e;exact e
  ·rw [hout b hb] at e;exact x.s3 _ _ e
 ·rw [hout b λw=>h (f b w)];exact x.s4 b h z
 ·rw [hin a yU];exact d.top
 ·exact Deep.reps (H:=H) d.each (λp hp=>(d.new _ (yS _ (uY hp))).2) g λp hp=>hin _ (yS _ (uY hp))
class SemZE (te:TE)(f:M):Prop where
 l:∀{ε y},f ε=some y->∃ zs,y = .lst zs
 h:∀{ε zs},f ε=some (.lst zs)->∀{Hs0 H0 Hs H U},RS Hs0 H0 Hs H U ε->∀{Q:VK},(∀ a ps Hs' H',Ext Hs H Hs' H'->Deep H Hs' H' a ps->zs=ps.map (·.2)->Q (.ref a) H')->te U H Q
instance {wi:TI}{tg:TG}{ts:List Nat}{tt:TT}{cap:List (Option Nat)}{it:MA}{g:MG}{c:MB}{f:M}[si:zC wi it][sg:jP tg ts g][sc:qO tt c][sf:xo te f]:SemZE (Xh wi tg tt te cap) (t6 cap ts it g c f) where
 l:=λe=>by
  obtain ⟨xs,_,e⟩:=bind_some e;split at e
  ·obtain ⟨ys,_,e⟩:=bind_some e;cases e;exact ⟨_,rfl⟩
  ·cases e
 h:=λ{ε zs} e Hs0 H0 Hs H U rs Q q=>by
  unfold t6 at e;obtain ⟨xs,ex,e1⟩:=bind_some e;split at e1
  rotate_left
  ·cases e1
  rename_i hcl;obtain ⟨hcap,hl⟩:=hcl;unfold zE at hcap;rw [yn] at hcap;obtain ⟨ys,ey,e1⟩:=bind_some e1;cases e1;refine si.h ex rs λJ Hs1 H1 x1 ok=>?_;have rc:=((rs.go x1).cap (yf hcap.1)).rebase;have wk:∀ i∈ts,(b8 cap U)[i]?=some none:=λi hi=>by
   unfold b8;rw [yK,yf (uV.mp hcap.2 i hi)];rfl
  refine ⟨λk m vs H=>m=xs.length-k/\k<=xs.length/\∃(Hs2:Hp)(ps:List (Addr×PV)),vs=ps.map (λp=>V.ref p.1)/\Ext Hs1 H1 Hs2 H/\RS Hs1 H0 Hs2 H (b8 cap U) (i4 cap _)/\(∀ p∈ps,Top Hs2 H p.1 p.2)/\(ps.map (·.1)).Nodup/\(∀ b∈ps.map (·.1),H1 b=none/\Hs2 b=none)/\ps.length<=k/\∃ rest,qP g c f (i4 cap _) (xs.drop k)=some rest/\zs=ps.map (·.2)++rest,
   ⟨xs.length,by simp,yd _,Hs1,[],rfl,.refl x1.s3,rc,(λ_ z=>nomatch z),.nil,(λ_ z=>nomatch z),yT _,_,ey,rfl⟩,?_⟩
  rintro k m vs H2 ⟨rfl,hk,Hs2,ps,rfl,x2,r2,tp,nd,nw,hw,rest,er,eys⟩;refine ⟨zo (by rw [yZ];omega),?_⟩;have lv:∀ b∈ps.map (·.1),H2 b≠none:=λb hb=>by
   obtain ⟨p,hp,rfl⟩:=yw.mp hb;exact (tp p hp).there
  by_cases hlt:k<xs.length
  ·have hd:xs.drop k=xs[k]::xs.drop (k+1):=yj hlt;rw [hd] at er;unfold qP at er;obtain ⟨ε1,eg,er1⟩:=bind_some er;obtain ⟨b,eb,er2⟩:=bind_some er1;obtain ⟨go,yl⟩:=ok.go k xs[k] Hs2 H2 (by simp [hlt]) x2.s1 x2.s3;refine .inr ⟨go,λv H3 y=>?_⟩;obtain ⟨Hs3,x3,r3⟩:=yl v H3 y;refine sg.h eg (r2.go x3) r3 λσ2 rs2 bt=>⟨bt.wk wk,sc.h eb rs2 λHs4 H4 x4=>?_⟩;cases b with
   |true =>
    rw [if_pos rfl] at er2;obtain ⟨z,ez,er3⟩:=bind_some er2;obtain ⟨rest',er4,er5⟩:=bind_some er3;cases er5;refine qb (sf.h ez (rs2.go x4) λa Hs5 H5 x5 na ns t5=>⟨xs.length-(k+1),by omega,rfl,hlt,Hs5,ps++[(a,z)],by rw [yE];rfl,x2.trans (x3.trans (x4.trans x5)),((r2.go x3).go x4).go x5,λp hp=>?_,?_,λb hb=>?_,?_,rest',er4,?_⟩)
    ·rcases yy.mp hp with hp|hp
     ·exact (tp p hp).mono (x3.s1.trans (x4.s1.trans x5.s1)) λo w=>(x3.s2.trans (x4.s2.trans x5.s2)) _ _ w
     ·rw [yM.mp hp];exact t5
    ·rw [yE];refine uD.mpr ⟨nd,by simp,λb hb c hc z=>?_⟩;rw [show c=a from yM.mp hc] at z;subst z;exact Zr (x3.s2.trans x4.s2) (lv b hb) na
    ·rw [yE] at hb;rcases yy.mp hb with hb|hb
     ·exact ⟨(nw b hb).1,(x3.trans (x4.trans x5)).s4 b (lv b hb) (nw b hb).2⟩
     ·rw [show b=a from yM.mp hb];exact ⟨(x2.s2.trans (x3.s2.trans x4.s2)).free na,ns⟩
    ·rw [yL];simp;omega
    ·rw [yE,uX];exact eys
   |false=>rw [if_neg yR] at er2;exact qf ⟨xs.length-(k+1),by omega,rfl,hlt,Hs4,ps,rfl,x2.trans (x3.trans x4),(r2.go x3).go x4,λp hp=>(tp p hp).mono (x3.s1.trans x4.s1) λo w=>(x3.s2.trans x4.s2) _ _ w,nd,λb hb=>⟨(nw b hb).1,(x3.trans x4).s4 b (lv b hb) (nw b hb).2⟩,by omega,rest,er2,eys⟩
  ·have ek':k=xs.length:=by omega
   subst ek';rw [uT] at er;unfold qP at er;cases er;refine .inl ⟨ok.stop Hs2 H2 x2.s1 x2.s3,λF hF=>?_⟩;rw [yO] at eys;have xF:Ext Hs2 H2 Hs2 (z7 H2 F (.lst (ps.map λp=>V.ref p.1))):= .newO x2.s3 hF;have Fp:F∉ps.map (·.1):=λz=>lv F z hF;refine q F ps Hs2 _ ((x1.trans x2).trans xF) ⟨j9,λp hp=>(tp p hp).mono (.refl _) λo w=>xF.s2 _ _ w,ym.mpr ⟨Fp,nd⟩,λb hb=>?_⟩ eys;rcases yD.mp hb with rfl|hb
   ·exact ⟨(x1.s2.trans x2.s2).free hF,x2.s3.free hF⟩
   ·exact ⟨x1.s2.free (nw b hb).1,(nw b hb).2⟩
def mZ (m:List PV->Option PV):List PV->Option PV:=λxs=>(m xs).bind λy=>match y with
 | .lst zs=>some (.lst zs)
 |_=>none
theorem wp {y:PV}(h:mZ m xs=some y):∃ zs,y = .lst zs/\m xs=some (.lst zs):=by
 unfold mZ at h;obtain ⟨u,e,h⟩:=bind_some h;split at h
 ·cases h;exact ⟨_,rfl,e⟩
 ·cases h
theorem KN {zs:List PV}(h:m xs=some (.lst zs)):mZ m xs=some (.lst zs):=by unfold mZ;rw [h];rfl
def spZ (m:List PV->Option PV):Sp:=λvs H Q _=>∃ Hs xs zs,Same Hs H/\Reps Hs xs vs/\m xs=some (.lst zs)/\∀ a ps Hs' H',Ext Hs H Hs' H'->Deep H Hs' H' a ps->zs=ps.map (·.2)->Q (.ref a) H'
class Xs (ts:TS)(f:MS):Prop where
 h:∀{ε zs},f ε=some (.rt (.lst zs))->YY ε->∀{Hs0 H0 Hs H U},RS Hs0 H0 Hs H U ε->∀{D:qN},(∀ a ps Hs' H',Ext Hs0 H0 Hs' H'->Deep H0 Hs' H' a ps->zs=ps.map (·.2)->D.rt (.ref a) H')->ts D U H
instance {a:M}{u:TS}[sa:SemE te a][sb:Xs u b]:Xs (tSeq (xi te) u) (y4 (zc a) b) where
 h:=λe all _ _ _ _ _ rs _ q=>by
  obtain ⟨o,eo,e1⟩:=bind_some e;obtain ⟨x,ex,e2⟩:=bind_some eo;cases e2;exact sa.h ex rs λv Hs1 H1 x1 r1=>sb.h e1 all (rs.go x1) q
section
variable {P:Program}{w:World}{K:Fg}{mg:Str->Option Value}{base:Heap}
theorem Uf (xs:List PV)(n:Nat):YY (xs.map MSlot.sh++List.replicate n .no):=λi s h=>by
 have:=uC h;rcases yy.mp this with z|z
 ·obtain ⟨x,_,rfl⟩:=yw.mp z;exact .inr ⟨x,rfl⟩
 ·exact .inl (List.eq_of_mem_replicate z)
theorem okZ {x qual:Str}{st:Stmt}{f:Addr}{fd:FuncData}{N ps:List Str}{k:Nat}(F:Fun K x qual st f fd)(S:v4 N ps (j3 st))(hm:m=mZ (u8 N.length ps.length b))(hb:∀(cdv:Value)(A:Around)(outer:List Env)(s:Shared)(H:Hp)(E:XK),Room k (A.deeper (envOfC qual (j3 st) s.heap.objs.size f cdv)) -> ∃ t,PSs (qr v5 P w K mg base N qual (j3 st) f cdv A outer s H E).nox (n9 st) t/\Xs t b):FnOk P w K mg base v5 (k+1) f fd ps (spZ m):=by
 subst hm;refine F.ok S (λvs H Q E h=>?_) (λcdv A outer s H vs Q E hr h=>?_)
 ·obtain ⟨Hs,xs,y,_,r,e,_⟩:=h;obtain ⟨zs,_,e⟩:=wp e;unfold u8 at e;split at e
  ·rename_i hl;rw [r.length];exact hl
  ·cases e
 ·obtain ⟨Hs,xs,y,sm,r,e,q⟩:=h;obtain ⟨zs,ez,e⟩:=wp e;cases ez;obtain ⟨t,ht,sem⟩:=hb cdv A outer s H E hr;refine ⟨t,ht,?_⟩;unfold u8 at e;split at e
  ·rename_i hl;obtain ⟨o,eo,e1⟩:=bind_some e;cases o with
   |rt z=>cases e1;exact sem.h eo (Uf _ _) (by rw [<- hl];exact jD sm r) q
   |nx ε=>cases e1
   |bk ε=>cases e1
   |ct ε=>cases e1
  ·cases e
end
end Mi
namespace Mi
open PySem L2
variable{te:TE}{f:M}{H H0 HR Hs Hs0:Hp}{C a b:Addr}{o:HO}{x y:PV}{v:V}{ps:List (Addr×PV)}{ls:List (List V)}{nm:Str}{m:List PV->Option PV}{ta:TA}{as:MA}{E:XK}{S:List Addr}{U:St}{ε:ME}{K:Fg}
instance [sz:SemZE te f]:Xs (vt te) (y8 f) where
 h:=λ{ε zs} e _ _ _ _ _ _ rs _ q=>by
  obtain ⟨x,ex,e1⟩:=bind_some e;cases e1;exact sz.h ex rs λa ps Hs1 H1 x1 d ez=>q a ps Hs1 H1 (rs.ext.trans x1) ⟨d.top,d.each,d.nd,λb hb=>⟨rs.ext.s2.free (d.new b hb).1,(d.new b hb).2⟩⟩ ez
structure Lent (S:List Addr)(Hs0 H0 HR:Hp):Prop where
 in0:Same HR H0
 out:∀ b,HR b≠none->Hs0 b=none/\b∉S
def qy (Hs HR:Hp):Hp:=λb=>match HR b with
 |some o=>some o
 |none=>Hs b
theorem Qk (h:HR b=none):qy Hs HR b=Hs b:=by unfold qy;rw [h]
theorem ZS (h:HR b=some o):qy Hs HR b=some o:=by unfold qy;rw [h]
section
variable {S:List Addr}{Hs0 H0 Hs H HR:Hp}{U:St}{ε:ME}
theorem Lent.at (L:Lent S Hs0 H0 HR)(rd:RD S Hs0 H0 Hs H U ε):Same HR H:=λb o e=>rd.s2 b o (L.in0 _ _ e) (L.out b (by rw [e];exact λz=>nomatch z)).2
theorem Lent.un (L:Lent S Hs0 H0 HR)(rd:RD S Hs0 H0 Hs H U ε)(h:HR b≠none):Hs b=none:=rd.s4 b (Zr L.in0 h) (L.out b h).1
theorem Lent.s1 (L:Lent S Hs0 H0 HR)(rd:RD S Hs0 H0 Hs H U ε):Same Hs (qy Hs HR):=λb o e=>by
 cases h:HR b with
 |none=>rw [Qk h];exact e
 |some u=>rw [L.un rd (by rw [h];exact λz=>nomatch z)] at e;cases e
theorem Lent.s2 (L:Lent S Hs0 H0 HR)(rd:RD S Hs0 H0 Hs H U ε):Same (qy Hs HR) H:=λb o e=>by
 cases h:HR b with
 |none=>rw [Qk h] at e;exact rd.s3 _ _ e
 |some u=>rw [ZS h] at e;cases e;exact L.at rd _ _ h
theorem Lent.s3:Same HR (qy Hs HR):=λb o e=>ZS e
theorem Lent.own (L:Lent S Hs0 H0 HR)(rd:RD S Hs0 H0 Hs H U ε)(h:H0 a=none∨a∈S):HR a=none:=by
 cases e:HR a with
 |none=>rfl
 |some o =>
  rcases h with h|h
  ·rw [L.in0 _ _ e] at h;cases h
  ·exact absurd h (L.out a (by rw [e];exact λz=>nomatch z)).2
theorem zR {ε:ME}{i:Nat}(j:Nat)(s:MSlot)(q:(ε.set i (.sh x))[j]?=some s):(i=j/\s = .sh x)∨(i≠j/\ε[j]?=some s):=by
 rw [yB] at q;split at q
 ·rename_i h;split at q
  ·cases q;exact .inl ⟨h,rfl⟩
  ·cases q
 ·rename_i h;exact .inr ⟨h,q⟩
theorem Lent.rs (L:Lent S Hs0 H0 HR)(rd:RD S Hs0 H0 Hs H U ε){i:Nat}(hv:U[i]?=some (some v))(rv:Rep (qy Hs HR) x v):RS (qy Hs HR) (qy Hs HR) (qy Hs HR) H U (ε.set i (.sh x)):=by
 have s1:=L.s1 rd;have s2:=L.s2 rd;refine ⟨⟨.refl _,s2,s2,λ_ h z=>absurd z h⟩,λj y q=>?_,λj y q=>?_,λj k y z a h1 h2 h3 h4=>?_,by rw [yi];exact rd.len,λj y q=>?_⟩
 ·rcases zR j _ q with ⟨rfl,e⟩|⟨_,q⟩
  ·cases e;exact ⟨v,hv,rv⟩
  ·obtain ⟨u,hu,ru⟩:=rd.sh j y q;exact ⟨u,hu,ru.mono s1⟩
 ·rcases zR j _ q with ⟨_,e⟩|⟨_,q⟩
  ·cases e
  ·obtain ⟨a,ha,h0,hs,t⟩:=rd.ow j y q;have:qy Hs HR a=none:=by rw [Qk (L.own rd h0)];exact hs
   exact ⟨a,ha,this,this,t.mono s1 λo e=>e⟩
 ·rcases zR j _ h1 with ⟨_,e⟩|⟨_,q1⟩
  ·cases e
  ·rcases zR k _ h2 with ⟨_,e⟩|⟨_,q2⟩
   ·cases e
   ·exact rd.nd j k y z a q1 q2 h3 h4
 ·rcases zR j _ q with ⟨_,e⟩|⟨_,q⟩
  ·cases e
  ·exact absurd q (rd.nb j y)
theorem Lent.bo (L:Lent S Hs0 H0 HR)(rd:RD S Hs0 H0 Hs H U ε){i:Nat}(hv:U[i]?=some (some (.ref a)))(ha:HR a≠none)(t:Top Hs H a x):RS Hs HR Hs H U (ε.set i (.bo x)):=by
 have dn:∀(j:Nat)(s:MSlot),(ε.set i (.bo x))[j]?=some s->(i=j/\s = .bo x)∨(i≠j/\ε[j]?=some s):=λj s q=>by
  rw [yB] at q;split at q
  ·rename_i h;split at q
   ·cases q;exact .inl ⟨h,rfl⟩
   ·cases q
  ·rename_i h;exact .inr ⟨h,q⟩
 refine ⟨⟨.refl _,L.at rd,rd.s3,λ_ _ z=>z⟩,λj y q=>?_,λj y q=>?_,λj k y z b h1 h2 h3 h4=>?_,by rw [yi];exact rd.len,λj y q=>?_⟩
 ·rcases dn j _ q with ⟨_,e⟩|⟨_,q⟩
  ·cases e
  ·exact rd.sh j y q
 ·rcases dn j _ q with ⟨_,e⟩|⟨_,q⟩
  ·cases e
  ·obtain ⟨b,hb,h0,hs,t⟩:=rd.ow j y q;exact ⟨b,hb,L.own rd h0,hs,t⟩
 ·rcases dn j _ h1 with ⟨_,e⟩|⟨_,q1⟩
  ·cases e
  ·rcases dn k _ h2 with ⟨_,e⟩|⟨_,q2⟩
   ·cases e
   ·exact rd.nd j k y z b q1 q2 h3 h4
 ·rcases dn j _ q with ⟨rfl,e⟩|⟨_,q⟩
  ·cases e;exact ⟨_,hv,.inr ⟨a,rfl,ha,L.un rd ha,t⟩⟩
  ·exact absurd q (rd.nb j y)
theorem Deep.clean {Hl H Hs1 H1:Hp}(s3:Same Hs H)(x:Ext Hl H Hs1 H1)(d:Deep H Hs1 H1 a ps)(e:ls.map (λl=>PV.lst (l.map .at))=ps.map (·.2)):∃ Hs',Ext Hs H Hs' H1/\Rep Hs' (.lst (ls.map λl=> .lst (l.map .at))) (.ref a):=by
 open Classical in
 let Hs':Hp:=λb=>if b∈a::ps.map (·.1) then H1 b else Hs b
 have hin:∀ b,b∈a::ps.map (·.1)->Hs' b=H1 b:=λb hb=>if_pos hb;have hout:∀ b,b∉a::ps.map (·.1)->Hs' b=Hs b:=λb hb=>if_neg hb
 clear_value Hs'
 have nin:∀ b,H b≠none->b∉a::ps.map (·.1):=λb hb z=>hb (d.new b z).1;refine ⟨Hs',⟨λb o q=>?_,x.s2,λb o q=>?_,λb h z=>?_⟩,rep_lst.mpr ⟨a,ps.map λp=>V.ref p.1,rfl,?_,?_⟩⟩
 ·rw [hout b (nin b (Zr s3 (by rw [q];exact λz=>nomatch z)))];exact q
 ·by_cases hb:b∈a::ps.map (·.1)
  ·rw [hin b hb] at q;exact q
  ·rw [hout b hb] at q;exact x.s2 _ _ (s3 _ _ q)
 ·rw [hout b (nin b h)];exact z
 ·rw [hin a yU];exact d.top
 ·rw [e];have main:∀(qs:List (Addr×PV)),(∀ p∈qs,p∈ps)->Reps Hs' (qs.map (·.2)) (qs.map λp=>V.ref p.1):=by
   intro qs
   induction qs with
   |nil=>intro _;exact .nil
   |cons p qs ih =>
    intro h;have hp:=h p yU;refine .cons ?_ (ih λq hq=>h q (yS _ hq));have m:p.2∈ls.map (λl=>PV.lst (l.map .at)):=by rw [e];exact uY hp
    obtain ⟨l,_,el⟩:=yw.mp m;have t:=d.each p hp;show Rep Hs' p.2 (V.ref p.1);rw [<- el] at t ⊢;obtain ⟨vs,hv,rv⟩:=t;rw [rv.ats] at hv;exact rep_lst.mpr ⟨p.1,l,rfl,by rw [hin _ (yS _ (uY hp))];exact hv,.ofAts l⟩
  exact main ps λ_ h=>h
end
section
variable {K:Fg}{C:Addr}{S:List Addr}{Hs0 H0 Hs H HR:Hp}{U:St}{ε:ME}{D:qN}{u:TS}{i:Nat}{x:PV}{v:V}{fld:Str}{ns:List Str}{xs:List PV}
theorem KH [sz:SemZE te f][c:k8 K C][n:w9 K C fld](L:Lent S Hs0 H0 HR)(rd:RD S Hs0 H0 Hs H U ε)(hv:U[i]?=some (some v))(rv:Rep HR x v)(e:f (ε.set i (.sh x))=some (.lst (ls.map λl=> .lst (l.map .at))))(he:ε[0]?=some (.ow (.ob C ns xs)))(hf:fld∉ns)(hl:ns.length<1000)(q:∀ Hs' H',RD S Hs0 H0 Hs' H' U (ε.set 0 (.ow (.ob C (ns++[fld]) (xs++[.lst (ls.map λl=> .lst (l.map .at))]))))->Same Hs Hs'->u D U H'):tSeq (jE K (b9 0) te fld) u D U H:=by
 refine sz.h e (L.rs rd hv (rv.mono Lent.s3)) λa ps Hs1 H1 x1 d ez=>?_;obtain ⟨Hs',x2,r2⟩:=d.clean rd.s3 x1 ez;have rd1:=rd.go x2;obtain ⟨p,hp,h0,hs,dx,fs,hH,hk,hr⟩:=rd1.ow 0 _ he;have hf':fld∉fs.map (·.1):=by rw [hk];exact hf
 have hl':fs.length<1000:=by rw [<- yZ (f:=(·.1)),hk];exact hl
 refine ⟨_,hp,p,C,dx,fs,rfl,hH,c.c,n.n,hl',?_⟩;rw [JO hf'];exact q _ _ (rd1.change he hp ⟨dx,_,j9,by rw [yE,hk];rfl,by rw [yE];exact hr.append (.one r2)⟩) x2.s1
theorem LI [sa:SemE te f](L:Lent S Hs0 H0 HR)(rd:RD S Hs0 H0 Hs H U ε)(hv:U[i]?=some (some v))(rv:Rep (qy Hs HR) x v)(e:f (ε.set i (.sh x))=some y)(q:∀ H',RD S Hs0 H0 Hs H' U ε->u D U H'):tSeq (xi te) u D U H :=
 sa.h e (L.rs rd hv rv) λ_ Hs1 H1 x1 _=>q H1 (rd.go ⟨.refl _,x1.s2,rd.s3.trans x1.s2,λ_ _ z=>z⟩)
theorem LJ [sa:SemE te f][c:k8 K C][n:w9 K C fld](L:Lent S Hs0 H0 HR)(rd:RD S Hs0 H0 Hs H U ε)(hv:U[i]?=some (some (.ref a)))(ha:HR a≠none)(t:Top Hs H a x)(e:f (ε.set i (.bo x))=some y)(he:ε[0]?=some (.ow (.ob C ns xs)))(hf:fld∉ns)(hl:ns.length<1000)(q:∀ Hs' H',RD S Hs0 H0 Hs' H' U (ε.set 0 (.ow (.ob C (ns++[fld]) (xs++[y]))))->Same Hs Hs'->u D U H'):tSeq (jE K (b9 0) te fld) u D U H:=by
 refine sa.h e (L.bo rd hv ha t) λw Hs1 H1 x1 r1=>?_;have rd1:=rd.go x1;obtain ⟨p,hp,h0,hs,dx,fs,hH,hk,hr⟩:=rd1.ow 0 _ he;have hf':fld∉fs.map (·.1):=by rw [hk];exact hf
 have hl':fs.length<1000:=by rw [<- yZ (f:=(·.1)),hk];exact hl
 refine ⟨_,hp,p,C,dx,fs,rfl,hH,c.c,n.n,hl',?_⟩;rw [JO hf'];exact q _ _ (rd1.change he hp ⟨dx,_,j9,by rw [yE,hk];rfl,by rw [yE];exact hr.append (.one r1)⟩) x1.s1
theorem KI {t:TS}{b:WS}{ε':ME}[s:SemWS t b](rd:RD S Hs0 H0 Hs H U ε)(e:b ε (λε2=>ε2=ε') λ_ _=>False)(q:∀ Hs' H' σ',RD S Hs0 H0 Hs' H' σ' ε'->Same Hs Hs'->u D σ' H'):tSeq t u D U H :=
 s.h e rd (λε2 σ2 Hs2 H2 h2 rd2 g2=>by subst h2;exact q Hs2 H2 σ2 rd2 g2) λ_ _ _ _ _ _ z _ _ _=>z.elim
end
instance {a:M}[so:SemE te a][sa:o6 ta as]:SemZE (qi C nm (spZ (mZ m)) [] E te ta) (u6 C nm (mZ m) a as) where
 l:=λe=>by
  obtain ⟨ns,fs,xs,_,_,_,e2⟩:=wc e;obtain ⟨zs,h,_⟩:=wp e2;exact ⟨zs,h⟩
 h:=λ{ε zs} e _ _ _ _ _ rs _ q=>by
  obtain ⟨ns,fs,xs,ea,hn,e1,e2⟩:=wc e;refine so.h ea rs λv Hs1 H1 x1 r1=>?_;obtain ⟨p,dx,gs,rfl,hp,hk,hr⟩:=rep_ob.mp r1;refine ⟨p,dx,gs,rfl,x1.s3 _ _ hp,jw (by rw [hk];exact hn),sa.h e1 (rs.go x1) λvs Hs2 H2 x2 r2=>?_⟩;exact ⟨Hs2,_,zs,x2.s3,by rw [yO];exact .cons (r1.mono x2.s1) r2,e2,λa ps Hs' H' x d ez=>q a ps Hs' H' (x1.trans (x2.trans x)) ⟨d.top,d.each,d.nd,λb hb=>⟨(x1.trans x2).s2.free (d.new b hb).1,(d.new b hb).2⟩⟩ ez⟩
instance {a:M}[so:SemE te a][sa:o6 ta as]:xo (qi C nm (spZ (mZ m)) [] E te ta) (u6 C nm (mZ m) a as) where
 h:=λ{ε y} e Hs0 H0 Hs H U rs Q q=>by
  obtain ⟨zs,rfl⟩:=SemZE.l (te:=qi C nm (spZ (mZ m)) [] E te ta) (f:=u6 C nm (mZ m) a as) e;refine SemZE.h (te:=qi C nm (spZ (mZ m)) [] E te ta) e rs λa ps Hs1 H1 x1 d ez=>?_;have d2:∀ b∈ps.map (·.1),H b=none/\Hs1 b=none:=λb hb=>d.new b (yS _ hb)
  open Classical in
  let Hp':Hp:=λb=>if b∈ps.map (·.1) then H1 b else Hs1 b
  have hin:∀ b,b∈ps.map (·.1)->Hp' b=H1 b:=λb hb=>if_pos hb;have hout:∀ b,b∉ps.map (·.1)->Hp' b=Hs1 b:=λb hb=>if_neg hb
  clear_value Hp'
  have g:Same Hs1 Hp':=λb o z=>by rw [hout b λw=>by rw [(d2 b w).2] at z;cases z];exact z
  have an:=(ym.mp d.nd).1;have na:=d.new a yU;refine q a Hp' H1 ⟨x1.s1.trans g,x1.s2,λb o z=>?_,λb h z=>?_⟩ na.1 (by rw [hout a an];exact na.2) ⟨_,d.top,?_⟩
  ·by_cases hb:b∈ps.map (·.1)
   ·rw [hin b hb] at z;exact z
   ·rw [hout b hb] at z;exact x1.s3 _ _ z
  ·rw [hout b λw=>h (d2 b w).1];exact x1.s4 b h z
  ·rw [ez];exact Deep.reps (H:=H1) d.each (λp hp=>(d2 _ (uY hp)).2) g λp hp=>hin _ (uY hp)
theorem RD.junk (rd:RD S Hs0 H0 Hs H U ε)(h0:H0 b=none)(hs:Hs b=none)(hS:b∉S)(ho:∀(i:Nat)(x:PV),ε[i]?=some (.ow x)->U[i]?≠some (some (.ref b))):RD S Hs0 H0 Hs (z7 H b o) U ε:=by
 refine ⟨rd.s1,λc u e hc=>?_,λc u e=>?_,rd.s4,rd.sh,λi x q=>?_,rd.nd,rd.len,rd.pin,λa ha=>?_,rd.str,rd.nb⟩
 ·rw [z6 (y0 e h0)];exact rd.s2 c u e hc
 ·rw [z6 (y0 e hs)];exact rd.s3 _ _ e
 ·obtain ⟨a,ha,m0,m1,t⟩:=rd.ow i x q;exact ⟨a,ha,m0,m1,t.mono (.refl _) λu e=>by
   have hne:a≠b:=λz=>ho i x q (by rw [<- z];exact ha);rw [z6 hne];exact e⟩
 ·by_cases hb:a=b
  ·exact absurd (hb▸ha) hS
  ·rw [z6 hb];exact rd.live a ha
def YT (f:M):WS:=λε N _=>∃ xs:List PV,f ε=some (.lst xs)/\xs.length<=lim/\N ε
instance :vx (YT f) where h:=λk _ ⟨xs,e,l,n⟩=>⟨xs,e,l,k _ n⟩
theorem RD.fresh {Hs' H':Hp}(rd:RD S Hs0 H0 Hs H U ε)(x:Ext Hs H Hs' H')(hb:H b=none)(hs:Hs' b=none):RD S Hs0 H0 Hs' (z7 H' b o) U ε :=
 (rd.go x).junk (rd.free0 hb) hs (λz=>rd.live b z hb) λi y q z=>by
  obtain ⟨a,ha,_,_,t⟩:=rd.ow i y q;rw [z] at ha;injection ha with ha;injection ha with ha;injection ha with ha;subst ha;exact t.there hb
instance (priority:=2000)[so:xo te f]:SemWS (xi (tBM K "list" Xd te (o5 (tC v) qF))) (YT f) where
 h:=λ⟨xs,e,hl,h⟩ _ _ _ _ _ _ rd _ k _=>so.h e rd.rs λa Hs1 H1 x1 na ns t=>by
  obtain ⟨vs,hv,rv⟩:=t;exact ⟨.inl ⟨rfl,vs,SqL.of hv⟩,a,vs,v,rfl,rfl,hv,vL (by rw [rv.length];exact hl),k _ _ _ _ h (rd.fresh x1 na ns) x1.s1⟩
theorem FnOk.or {P:Program}{w:World}{mg:Str->Option Value}{base:Heap}{CX:CXT}{k:Nat}{f:Addr}{fd:FuncData}{ps:List Str}{sp sp':Sp}(F:FnOk P w K mg base CX k f fd ps sp)(G:FnOk P w K mg base CX k f fd ps sp'):FnOk P w K mg base CX k f fd ps (λvs H Q E=>sp vs H Q E∨sp' vs H Q E) :=
 ⟨λvs H Q E h=>h.elim (F.len vs H Q E) (G.len vs H Q E),λA outer s H args us vs Q E hr he hb hv hs=>hs.elim (F.run A outer s H args us vs Q E hr he hb hv) (G.run A outer s H args us vs Q E hr he hb hv)⟩
def je (sp sp':Sp):Sp:=λvs H Q E=>sp vs H Q E∨sp' vs H Q E
structure LentA (Hs H HR:Hp)(U:St)(ε:ME):Prop where
 in1:Same HR H
 un:∀ b,HR b≠none->Hs b=none
 own:∀(i:Nat)(x:PV)(a:Addr),ε[i]?=some (.ow x)->U[i]?=some (some (.ref a))->HR a=none
theorem LentA.test (L:LentA Hs H HR U ε)(rd:RD S Hs0 H0 Hs H U ε){i:Nat}(hv:U[i]?=some (some v))(rv:Rep (qy Hs HR) x v):RS (qy Hs HR) (qy Hs HR) (qy Hs HR) H U (ε.set i (.sh x)):=by
 have s1:Same Hs (qy Hs HR):=λb o e=>by
  cases h:HR b with
  |none=>rw [Qk h];exact e
  |some u=>rw [L.un b (by rw [h];exact λz=>nomatch z)] at e;cases e
 have s2:Same (qy Hs HR) H:=λb o e=>by
  cases h:HR b with
  |none=>rw [Qk h] at e;exact rd.s3 _ _ e
  |some u=>rw [ZS h] at e;cases e;exact L.in1 _ _ h
 refine ⟨⟨.refl _,s2,s2,λ_ h z=>absurd z h⟩,λj y q=>?_,λj y q=>?_,λj k y z a h1 h2 h3 h4=>?_,by rw [yi];exact rd.len,λj y q=>?_⟩
 ·rcases zR j _ q with ⟨rfl,e⟩|⟨_,q⟩
  ·cases e;exact ⟨v,hv,rv⟩
  ·obtain ⟨u,hu,ru⟩:=rd.sh j y q;exact ⟨u,hu,ru.mono s1⟩
 ·rcases zR j _ q with ⟨_,e⟩|⟨_,q⟩
  ·cases e
  ·obtain ⟨a,ha,h0,hs,t⟩:=rd.ow j y q;have:qy Hs HR a=none:=by rw [Qk (L.own j y a q ha)];exact hs
   exact ⟨a,ha,this,this,t.mono s1 λo e=>e⟩
 ·rcases zR j _ h1 with ⟨_,e⟩|⟨_,q1⟩
  ·cases e
  ·rcases zR k _ h2 with ⟨_,e⟩|⟨_,q2⟩
   ·cases e
   ·exact rd.nd j k y z a q1 q2 h3 h4
 ·rcases zR j _ q with ⟨_,e⟩|⟨_,q⟩
  ·cases e
  ·exact absurd q (rd.nb j y)
theorem Deep.repIn (d:Deep H0 Hs H a ps)(hin:∀ b∈a::ps.map (·.1),HR b=H b)(e:ls.map (λl=>PV.lst (l.map .at))=ps.map (·.2)):Rep HR (.lst (ls.map λl=> .lst (l.map .at))) (.ref a):=by
 refine rep_lst.mpr ⟨a,ps.map λp=>V.ref p.1,rfl,by rw [hin a yU];exact d.top,?_⟩;rw [e];have main:∀(qs:List (Addr×PV)),(∀ p∈qs,p∈ps)->Reps HR (qs.map (·.2)) (qs.map λp=>V.ref p.1):=by
  intro qs
  induction qs with
  |nil=>intro _;exact .nil
  |cons p qs ih =>
   intro h;have hp:=h p yU;refine .cons ?_ (ih λq hq=>h q (yS _ hq));have m:p.2∈ls.map (λl=>PV.lst (l.map .at)):=by rw [e];exact uY hp
   obtain ⟨l,_,el⟩:=yw.mp m;have t:=d.each p hp;show Rep HR p.2 (V.ref p.1);rw [<- el] at t ⊢;obtain ⟨vs,hv,rv⟩:=t;rw [rv.ats] at hv;exact rep_lst.mpr ⟨p.1,l,rfl,by rw [hin _ (yS _ (uY hp))];exact hv,.ofAts l⟩
 exact main ps λ_ h=>h
def sqP (t:Bool):PV->Option (List PV)
 | .lst xs=>if t then none else some xs
 | .tup xs=>if t then some xs else none
 |_=>none
def dZipT (t u:Bool)(a:MA):MA:=λε=>(a ε).bind λxs=>match xs with
 |[x,y]=>(sqP t x).bind λp=>(sqP u y).map λq=>xV p q
 |_=>none
end Mi
namespace L2
open PySem PySem.Spec PySem.Calls PyProof.Rows
structure jM (P:Program)(w:World)(K:Fg)(mg:Str->Option Value)(base:Heap)(k:Nat)(C:Addr)(ps:List Str)(sp:Sp):Prop where
 ex:∃ f fd,FnOk P w K mg base (y9 P w) k f fd ps sp/\Mk K C f/\Binds K fd ps []
section
variable {X:Cx}{k j:Nat}{C:Addr}{ps:List Str}{sp:Sp}{x:Str}{p pos:Pos}{e:Expr}{es:List Expr}{t:TA}{E:XK}{U:St}
theorem QY (c:jM X.prog X.w X.K X.mg X.base k C ps sp)(hr:Room j X.A)(hj:k+1<=j)(hx:zl (y9 X.prog X.w) X E)(hg:Gl X x)(hm:X.mg x=some (.ref C))(ha:PA X (e::es) t)(hdb:(x==("__debug__":Str))=false:=by decide)(he:starEach (e::es) X.env=(false,eval e X.env)::starEach es X.env:=by rfl)(hpl:(backTo pos (starEach es X.env)).any (·.1)=false:=by rfl):PE X (.Call (.Name x p) (e::es) [] pos) (wL C sp [] E t):=by obtain ⟨f,fd,F,hm',hb⟩:=c.ex;exact Rl hm' F (hr.mono hj) hg hm hb .nil hx ha hdb he hpl
end
end L2
namespace Mi
open PySem L2
variable{E:XK}{te:TE}{f:YM}
def EOX (E:XK)(c:Addr)(y:XV)(S:List Addr)(Hs H:Hp):Prop:=∀ Hs' H',Same Hs Hs'->(∀ b o,H b=some o->b∉S->H' b=some o)->Same Hs' H'->(∀ b,H b≠none->Hs b=none->Hs' b=none)->match y with
 |none=>E (.ref c) none H'
 |some p=>∀ dx,H dx=none->H' dx=some (.xd [p])->E (.ref c) (some dx) H'
theorem EOX.ok {c:Addr}{y:XV}{S:List Addr}{Hs0 H0 Hs H:Hp}{U:St}{ε:ME}(q:EOX E c y S Hs0 H0)(r:RD S Hs0 H0 Hs H U ε):EOK E c y Hs H:=by
 have live:∀ b,H0 b≠none->H b≠none:=λb hb=>by
  by_cases hS:b∈S
  ·exact r.live b hS
  ·cases z:H0 b with
   |none=>exact absurd z hb
   |some o=>rw [r.s2 b o z hS];exact λw=>nomatch w
 have main:∀ Hs' H',Ext Hs H Hs' H'->_:=λHs' H' x=>q Hs' H' (r.s1.trans x.s1) (λb o e n=>x.s2 _ _ (r.s2 b o e n)) x.s3 (λb hb z=>x.s4 b (live b hb) (r.s4 b hb z));cases y with
 |none=>exact λHs' H' x=>main Hs' H' x
 |some p =>
  refine λHs' H' dx x n h=>main Hs' H' x dx ?_ h;cases z:H0 dx with
  |none=>rfl
  |some o=>exact absurd n (live dx (by rw [z];exact λw=>nomatch w))
class vZ (E:XK)(ts:TS)(f:YM):Prop where
 h:∀{ε c y},f ε c y->∀{S Hs0 H0 Hs H U},RD S Hs0 H0 Hs H U ε->EOX E c y S Hs0 H0->∀{D:qN},ts D U H
instance (priority:=2000){ts:TS}:vZ E ts xk where
 h:=λh=>h.elim
instance [s:vC E te f]:vZ E (xi te) (yX f) where
 h:=λh _ _ _ _ _ _ r q _=>s.h h r.rs (q.ok r)
instance {K:Fg}{ta:TE}{n:Str}[s:vC E te f]:vZ E (jE K ta te n) (yX f) where
 h:=λh _ _ _ _ _ _ r q _=>s.h h r.rs (q.ok r)
instance Sq {t u:TS}{a:MS}{xa xr:YM}[sa:SemWS t (wPN a)][s1:vZ E t xa][s2:vZ E u xr]:vZ E (tSeq t u) (xv false a xa xr) where
 h:=λ{ε c y} h {S Hs0 H0 Hs H U} r q {D}=>by
  rcases h with h|⟨ε',e,h⟩
  ·exact s1.h h r q
  ·exact sa.h (N:=λz=>z=ε') (R:=λ_ _=>False) ⟨ε',e,rfl⟩ r (λε2 σ2 Hs2 H2 z r2 _=>by subst z;exact s2.h h r2 q) λ_ _ _ _ _ _ z=>z.elim
def zz (C:Addr)(m:List PV->Option PV)(x:List PV->Addr->XV->Prop):Sp:=λvs H Q E=>∃ Hs p dx xs ws,vs = .ref p::ws/\Same Hs H/\H p=some (.ins C dx [])/\Hs p=none/\Reps Hs xs ws /\
 ((∃ y,m xs=some y/\∀ Hs' H',Same Hs Hs'->(∀ b o,H b=some o->b≠p->H' b=some o)->Same Hs' H'->(∀ b,H b≠none->b≠p->Hs b=none->Hs' b=none)->Rep Hs' y (.ref p)->Q .non H')∨∃ c y,x xs c y/\EOX E c y [p] Hs H)
def Ct (n k:Nat)(C:Addr)(f:YM):List PV->Addr->XV->Prop:=λxs c y=>xs.length+1=k/\f (.ow (.ob C [] [])::xs.map .sh++List.replicate (n-k) .no) c y
section
variable {P:Program}{w:World}{K:Fg}{mg:Str->Option Value}{base:Heap}
theorem okIY {x qual:Str}{st:Stmt}{f C:Addr}{fd:FuncData}{N ps:List Str}{k:Nat}{b:MS}{xb:YM}{m:List PV->Option PV}{xr:List PV->Addr->XV->Prop}(F:FunD K x qual st f fd)(S:v4 N ps (j3 st))(hm:m=Xz N.length ps.length C b)(hx:xr=Ct N.length ps.length C xb)(hb:∀(cdv:Value)(A:Around)(outer:List Env)(s:Shared)(H:Hp)(E:XK),Room k (A.deeper (PyProof.Rows.envOfC qual (j3 st) s.heap.objs.size f cdv)) -> ∃ t,PSs (qr (y9 P w) P w K mg base N qual (j3 st) f cdv A outer s H E) (n9 st) t/\SemWS t (wPN b)/\vZ E t xb):FnOk P w K mg base (y9 P w) (k+1) f fd ps (zz C m xr):=by
 subst hm hx;obtain ⟨oc,od,dV,kV,doc,pm,an,cdv,ct,osl,rfl,lk,hcd⟩:=F.ex;refine Jj lk hcd S (λvs H Q E h=>?_) λA outer s H vs Q E hr h=>?_
 ·obtain ⟨Hs,p,dx,xs,ws,rfl,_,_,_,r,h⟩:=h;rw [yH,r.length];rcases h with ⟨y,e,_⟩|⟨c,y,h,_⟩
  ·unfold Xz at e;split at e
   ·rename_i hl;exact hl
   ·cases e
  ·exact h.1
 ·obtain ⟨Hs,p,dx,xs,ws,rfl,sm,hp,hs,r,h⟩:=h;obtain ⟨t,ht,sem,semx⟩:=hb cdv A outer s H E hr;refine ⟨t,ht,?_⟩;have rd0:=Wm (N:=N) sm hs (y:= .ob C [] []) ⟨dx,[],hp,rfl,.nil⟩ r;rcases h with ⟨y,e,q⟩|⟨c,y,h,q⟩
  ·unfold Xz at e;split at e
   ·rename_i hl;obtain ⟨o,eo,e1⟩:=bind_some e;rw [<- hl] at eo;cases o with
    |nx ε' =>
     have e2:(match (ε'[0]?:Option MSlot) with
      |some (.ow y)=>some y
      |_=>none)=some y:=e1
     have z:ε'[0]?=some (.ow y):=by
      split at e2
      ·rename_i z hz;cases e2;exact hz
      ·cases e2
     refine sem.h (N:=λε=>ε=ε') (R:=λ_ _=>False) ⟨ε',eo,rfl⟩ rd0 (λε U Hs' H' ez rd g=>?_) λ_ _ _ _ _ _ z=>z.elim;subst ez;obtain ⟨a,ha,_,n,tp⟩:=rd.ow 0 y z;rw [rd.pin p (yM.mpr rfl)] at ha;injection ha with ha;injection ha with ha;injection ha with ha;subst ha;obtain ⟨o,ho,ro⟩:=tp.rep n;have g2:Same Hs' (z7 Hs' p o):=λb u e=>by rw [z6 (y0 e n)];exact e
     refine q (z7 Hs' p o) H' (g.trans g2) (λb u e hb=>rd.s2 b u e λw=>hb (yM.mp w)) (λb u e=>?_) (λb hb hbx w=>?_) ro
     ·by_cases hbx:b=p
      ·subst hbx;rw [j9] at e;cases e;exact ho
      ·rw [z6 hbx] at e;exact rd.s3 _ _ e
     ·rw [z6 hbx];exact rd.s4 b hb w
    |rt z=>cases e1
    |bk z=>cases e1
    |ct z=>cases e1
   ·cases e
  ·have h2:=h.2;rw [<- h.1] at h2;exact semx.h h2 rd0 q
end
end Mi
namespace L2
open PySem PySem.Spec PySem.Calls PyProof.Rows
structure My (P:Program)(w:World)(K:Fg)(mg:Str->Option Value)(base:Heap)(k:Nat)(C:Addr)(m:Str)(ps:List Str)(sp:Sp):Prop where
 ex:∃ f fd,FnOk P w K mg base (y9 P w) k f fd ps sp/\wO K C m f/\Cls K C/\Binds K fd ps []
end L2
namespace Mi
open PySem L2
def Cu (C:Addr)(nm:Str)(x:List PV->Addr->XV->Prop)(a:M)(as:MA):YM:=λε c y=>∃ ns fs xs,a ε=some (.ob C ns fs)/\nm∉ns/\as ε=some xs/\x (.ob C ns fs::xs) c y
section
variable {m:List PV->Option PV}{x:List PV->Addr->XV->Prop}{ta:TA}{as:MA}{E:XK}{C:Addr}{nm:Str}{te:TE}{a:M}
instance [so:SemE te a][sa:o6 ta as]:SemE (qi C nm (m7 m x) [] E te ta) (u6 C nm m a as) where
 h:=λe _ _ _ _ _ rs _ q=>by
  obtain ⟨ns,fs,xs,ea,hn,e1,e2⟩:=wc e;refine so.h ea rs λv Hs1 H1 x1 r1=>?_;obtain ⟨p,dx,gs,rfl,hp,hk,hr⟩:=rep_ob.mp r1;refine ⟨p,dx,gs,rfl,x1.s3 _ _ hp,jw (by rw [hk];exact hn),sa.h e1 (rs.go x1) λvs Hs2 H2 x2 r2=>?_⟩;exact ⟨Hs2,_,x2.s3,by rw [yO];exact .cons (r1.mono x2.s1) r2,.inl ⟨_,e2,λv Hs' H' x r=>q v _ _ (x1.trans (x2.trans x)) r⟩⟩
instance [so:SemE te a][sa:o6 ta as]:vC E (qi C nm (m7 m x) [] E te ta) (Cu C nm x a as) where
 h:=λ{ε c y} h {Hs0 H0 Hs H U} rs q {Q}=>by
  obtain ⟨ns,fs,xs,ea,hn,e1,h⟩:=h;refine so.h ea rs λv Hs1 H1 x1 r1=>?_;obtain ⟨p,dx,gs,rfl,hp,hk,hr⟩:=rep_ob.mp r1;refine ⟨p,dx,gs,rfl,x1.s3 _ _ hp,jw (by rw [hk];exact hn),sa.h e1 (rs.go x1) λvs Hs2 H2 x2 r2=>?_⟩;exact ⟨Hs2,_,x2.s3,by rw [yO];exact .cons (r1.mono x2.s1) r2,.inr ⟨_,_,h,(q.ext x1).ext x2⟩⟩
end
end Mi
namespace L2
open PySem PySem.Spec PyProof.Rows
def jB (x:Str)(k:Nat):Str:=⟨(List.replicate k x.cps).foldl (·++·) #[]⟩
theorem Tg (x:Str):jB x 1=x:=by show (⟨#[]++x.cps⟩:Str)=x;rw [Array.empty_append]
theorem Kc (a:Array Nat):∀(k:Nat)(acc:Array Nat),((List.replicate k a).foldl (·++·) acc).size=acc.size+k*a.size
 |0,acc=>by simp
 |k+1,acc=>by
  rw [List.replicate_succ,List.foldl_cons,Kc a k,Array.size_append,Nat.succ_mul];omega
theorem BQ (x:Str)(k:Nat):(jB x k).length=k*x.length:=by show ((List.replicate k x.cps).foldl (·++·) #[]).size=_;rw [Kc];show 0+_=_;rw [Nat.zero_add];rfl
theorem Th (x:Str)(k:Nat):(jB x k).cps.toList=(List.replicate k x.cps.toList).flatten:=by
 have q:∀(k:Nat)(acc:Array Nat),((List.replicate k x.cps).foldl (·++·) acc).toList=acc.toList++(List.replicate k x.cps.toList).flatten:=by
  intro k
  induction k with
  |zero=>intro acc;simp
  |succ k ih=>intro acc;rw [List.replicate_succ,List.foldl_cons,ih,List.replicate_succ,List.flatten_cons,Array.toList_append,uX]
 exact (q k #[]).trans (List.nil_append _)
section
variable {X:Cx}
def BD:R2:=λx y H Q=>∃(i:Str)(k:Int),x = .str i/\y = .int k/\1<=k/\k<=1000/\1<=i.length/\i.length<=1000/\Q (.str (jB i k.toNat)) H
theorem HU:OpR X (binaryOp .Mult) BD:=by
 intro pins s U H x y v u Q I rx ry h;obtain ⟨i,k,rfl,rfl,k1,k2,i1,i2,q⟩:=h;obtain ⟨t,rfl⟩:=rx;obtain ⟨t',rfl⟩:=ry;refine PySem.P.mul_str (by rw [yP (by omega),yP (by omega)];rfl) (λ_ _=>?_) (λ_ _=>?_) ?_
 ·have h:(1000:Int)<=(2 ^ 63-1:Int) / k:=Int.le_ediv_of_mul_le (by omega) (by omega);omega
 ·unfold PySem.Builtin.Str.tooLong;have:i.length*k.toNat<=1000*1000:=Nat.mul_le_mul i2 (by omega);have hs:sizeLine=16777216:=sizeLine_eq;exact yP (by omega)
 ·rw [if_neg (by omega)];by_cases h1:k=1
  ·subst h1;rw [if_pos (by simp)];exact ⟨.str i,H,I,⟨t,rfl⟩,by rw [show (1:Int).toNat=1 from rfl,Tg] at q;exact q⟩
  ·rw [if_neg (by simp [h1];intro z;rw [z] at i1;cases i1)];refine ⟨?_,.str (jB i k.toNat),H,I.tok _,⟨_,rfl⟩,q⟩;have:i.length*k.toNat<=1000*1000:=Nat.mul_le_mul i2 (by omega);have hs:sizeLine=16777216:=sizeLine_eq;have e:(jB i k.toNat).length=k.toNat*i.length:=BQ i k.toNat;have e2:k.toNat*i.length=i.length*k.toNat:=Nat.mul_comm _ _;show (jB i k.toNat).length<=sizeLine;omega
end
end L2
namespace Mi
open PySem L2
variable{nm qual x:Str}{st:Stmt}{fd:FuncData}{N ps:List Str}{sp:Sp}{n y:PV}{m:List PV->Option PV}{ε:ME}{E:XK}{D:Addr}{X:List PV->Addr->XV->Prop}{j:Nat}{T:PV->List PV->List PV->PV->PV->List PV->Prop}
def JG:PV->PV->Option PV
 | .at (.str i),.at (.int k)=>if 1<=k/\k<=1000/\1<=i.length/\i.length<=1000 then some (.at (.str (jB i k.toNat))) else none
 |_,_=>none
instance:xy BD JG where
 h:=λ{x y z} e {Hs H v w} s a b {Q} q=>by
  unfold JG at e;split at e
  ·split at e
   ·rename_i i k hl;cases e;cases u5 a;cases u5 b;exact ⟨i,k,rfl,rfl,hl.1,hl.2.1,hl.2.2.1,hl.2.2.2,q _ _ _ (.refl s) (rep_at.mpr rfl)⟩
   ·cases e
  ·cases e
section
variable {P:Program}{w:World}{K:Fg}{mg:Str->Option Value}{base:Heap}
theorem FunD.ok2 {f:Addr}{k:Nat}(F:FunD K x qual st f fd)(S:v4 N ps (j3 st))(len:∀ vs H Q E,sp vs H Q E->vs.length=ps.length)(hbody:∀(cdv:Value)(A:Around)(outer:List Env)(s:Shared)(H:Hp)(vs:List V)(Q:VK)(E:XK),Room k (A.deeper (PyProof.Rows.envOfC qual (j3 st) s.heap.objs.size f cdv))->sp vs H Q E -> ∃ t,PSs (qr (y9 P w) P w K mg base N qual (j3 st) f cdv A outer s H E) (n9 st) t/\t { nx:=λ_ H'=>Q .non H',rt:=Q } (L2.start N vs) H):FnOk P w K mg base (y9 P w) (k+1) f fd ps sp:=by obtain ⟨oc,od,dV,kV,doc,pm,an,cdv,ct,osl,rfl,lk,hcd⟩:=F.ex;exact Jj lk hcd S len λA outer s H vs Q E hr hsp=>hbody cdv A outer s H vs Q E hr hsp
end
def vq (m:List PV->Option PV)(x:List PV->Addr->XV->Prop):Sp:=λvs H Q E=>∃ Hs xs,Same Hs H/\Reps Hs xs vs/\((∃ zs,m xs=some (.lst zs)/\∀ a ps Hs' H',Ext Hs H Hs' H'->Deep H Hs' H' a ps->zs=ps.map (·.2)->Q (.ref a) H')∨∃ c y,x xs c y/\EOK E c y Hs H)
section
variable {m:List PV->Option PV}{x:List PV->Addr->XV->Prop}{ta:TA}{as:MA}{E:XK}
instance [sa:o6 ta as]:SemZE (qL (vq (mZ m) x) [] E ta) (x9 (mZ m) as) where
 l:=λe=>by
  obtain ⟨xs,_,e⟩:=bind_some e;obtain ⟨zs,h,_⟩:=wp e;exact ⟨zs,h⟩
 h:=λ{ε zs} e _ _ _ _ _ rs _ q=>by
  obtain ⟨xs,ex,e1⟩:=bind_some e;exact sa.h ex rs λvs Hs1 H1 x1 r1=>⟨Hs1,xs,x1.s3,by rw [yO];exact r1,.inl ⟨zs,e1,λa ps Hs' H' x d ez=>q a ps Hs' H' (x1.trans x) ⟨d.top,d.each,d.nd,λb hb=>⟨x1.s2.free (d.new b hb).1,(d.new b hb).2⟩⟩ ez⟩⟩
instance [sa:o6 ta as]:SemE (qL (vq (mZ m) x) [] E ta) (x9 (mZ m) as) where
 h:=λ{ε y} e _ _ _ _ _ rs _ q=>by
  obtain ⟨xs,ex,e1⟩:=bind_some e;obtain ⟨zs,rfl,e2⟩:=wp e1;refine sa.h ex rs λvs Hs1 H1 x1 r1=>⟨Hs1,xs,x1.s3,by rw [yO];exact r1,.inl ⟨zs,e1,λa ps Hs' H' x d ez=>?_⟩⟩;obtain ⟨Hp',g,x2,r2,_⟩:=d.share x λb hb=>(d.new b hb).1;subst ez;exact q _ _ _ (x1.trans x2) r2
instance [sa:o6 ta as]:vC E (qL (vq m x) [] E ta) (vw x as) where
 h:=λh _ _ _ _ _ rs q _=>by
  obtain ⟨xs,ex,h⟩:=h;exact sa.h ex rs λvs Hs1 H1 x1 r1=>⟨Hs1,xs,x1.s3,by rw [yO];exact r1,.inr ⟨_,_,h,q.ext x1⟩⟩
end
section
variable {P:Program}{w:World}{K:Fg}{mg:Str->Option Value}{base:Heap}
theorem okZY {y:Str}{f:Addr}{k:Nat}{b:MS}{xb:YM}{x:List PV->Addr->XV->Prop}(F:Fun K y qual st f fd)(S:v4 N ps (j3 st))(hm:m=mZ (u8 N.length ps.length b))(hx:x=yFn N.length ps.length xb)(hb:∀(cdv:Value)(A:Around)(outer:List Env)(s:Shared)(H:Hp)(E:XK),Room k (A.deeper (PyProof.Rows.envOfC qual (j3 st) s.heap.objs.size f cdv)) -> ∃ t,PSs (qr (y9 P w) P w K mg base N qual (j3 st) f cdv A outer s H E) (n9 st) t/\Xs t b/\xW E t xb):FnOk P w K mg base (y9 P w) (k+1) f fd ps (vq m x):=by
 subst hm;subst hx;refine F.ok2 S (λvs H Q E h=>?_) (λcdv A outer s H vs Q E hr h=>?_)
 ·obtain ⟨Hs,xs,_,r,⟨y,e,_⟩|⟨c,y,h,_⟩⟩:=h
  ·rw [r.length];obtain ⟨zs,_,e⟩:=wp e;unfold u8 at e;split at e
   ·rename_i hl;exact hl
   ·cases e
  ·rw [r.length];exact h.1
 ·obtain ⟨Hs,xs,sm,r,h⟩:=h;obtain ⟨t,ht,sem,semx⟩:=hb cdv A outer s H E hr;refine ⟨t,ht,?_⟩;rcases h with ⟨y,e,q⟩|⟨c,y,h,q⟩
  ·obtain ⟨zs,ez,e⟩:=wp e;cases ez;unfold u8 at e;split at e
   ·rename_i hl;obtain ⟨o,eo,e1⟩:=bind_some e;cases o with
    |rt z=>cases e1;exact sem.h eo (Uf _ _) (by rw [<- hl];exact jD sm r) q
    |nx ε=>cases e1
    |bk ε=>cases e1
    |ct ε=>cases e1
   ·cases e
  ·exact semx.h h.2 (by rw [<- h.1];exact jD sm r) q
end
section
variable {C:Addr}{m:List PV->Option PV}{x:List PV->Addr->XV->Prop}{sp:Sp}{ta:TA}{as:MA}{E:XK}
instance [sa:o6 ta as]{ds:List V}:SemE (wL C (je (zz C m x) sp) ds E ta) (Vs m ds as) where
 h:=λe _ _ _ _ _ rs _ q=>by
  obtain ⟨xs,ex,e1⟩:=bind_some e;refine sa.h ex rs λvs Hs1 H1 x1 r1=>λx dx hx hdx hne=> .inl ?_;have s3:Same Hs1 (z7 (z7 H1 dx (.own x)) x (.ins C dx [])):=λb o e=>by
   have e':=x1.s3 _ _ e;rw [z6 (y0 e' hx),z6 (y0 e' hdx)];exact e'
  refine ⟨Hs1,x,dx,_,_,rfl,s3,j9,x1.s3.free hx,r1.append (.ofAts ds),.inl ⟨_,e1,λHs' H' g1 g2 g3 g4 r=>⟨rfl,q _ _ _ (x1.trans ⟨g1,λb o e=>?_,g3,λb hb z=>?_⟩) r⟩⟩⟩
  ·refine g2 b o ?_ (y0 e hx);rw [z6 (y0 e hx),z6 (y0 e hdx)];exact e
  ·have hbx:b≠x:=λw=>hb (by rw [w];exact hx);have hbd:b≠dx:=λw=>hb (by rw [w];exact hdx);exact g4 b (by rw [z6 hbx,z6 hbd];exact hb) hbx z
instance (priority:=1100)[sa:o6 ta as]:SemE (wL C (je (zz C m x) sp) [] E ta) (x9 m as) where
 h:=λ{ε y} e=>SemE.h (te:=wL C (je (zz C m x) sp) [] E ta) (f:=Vs m [] as) (by
  unfold Vs;unfold x9 at e;simpa using e)
instance [sa:o6 ta as]:vC E (wL C (je (zz C m x) sp) [] E ta) (vw x as) where
 h:=λ{ε c y} h {Hs0 H0 Hs H U} rs q {Q}=>by
  obtain ⟨xs,ex,hx0⟩:=h;refine sa.h ex rs λvs Hs1 H1 x1 r1=>λp dx hx hdx hne=> .inl ?_;have s3:Same Hs1 (z7 (z7 H1 dx (.own p)) p (.ins C dx [])):=λb o e=>by
   have e':=x1.s3 _ _ e;rw [z6 (y0 e' hx),z6 (y0 e' hdx)];exact e'
  refine ⟨Hs1,p,dx,xs,_,rfl,s3,j9,x1.s3.free hx,by rw [yO];exact r1,.inr ⟨c,y,hx0,λHs' H' g1 g2 g3 g4=>?_⟩⟩;have ex':Ext Hs1 H1 Hs' H':=by
   refine ⟨g1,λb o e=>?_,g3,λb hb z=>?_⟩
   ·refine g2 b o ?_ (λw=>y0 e hx (yM.mp w));rw [z6 (y0 e hx),z6 (y0 e hdx)];exact e
   ·have hbx:b≠p:=λw=>hb (by rw [w];exact hx);have hbd:b≠dx:=λw=>hb (by rw [w];exact hdx);exact g4 b (by rw [z6 hbx,z6 hbd];exact hb) z
  have q1:=q.ext x1;cases y with
  |none=>exact q1 Hs' H' ex'
  |some pv =>
   refine λdy n h=>q1 Hs' H' dy ex' ?_ h;by_cases e1:dy=p
   ·rw [e1];exact hx
   ·rw [z6 e1] at n;by_cases e2:dy=dx
    ·rw [e2];exact hdx
    ·rw [z6 e2] at n;exact n
end
structure Pk where
 x:Addr
 l:Addr
 dx:Addr
 n:PV
 ps:List PV
def Pk.to (k:Pk)(n:PV)(ps:List PV):Pk:={ k with n:=n,ps:=ps }
def pko (C dx l:Addr)(v:V):HO:= .ins C dx [("now",v),("past",.ref l)]
def pkB (B:Hp)(C:Addr)(k:Pk)(v:V)(vs:List V):Hp:=z7 (z7 B k.l (.lst vs)) k.x (pko C k.dx k.l v)
structure Pkt (C:Addr)(Hs H:Hp)(k:Pk):Prop where
 sm:Same Hs H
 ne:k.x≠k.l
 hx:Hs k.x=none
 hl:Hs k.l=none
 ex:∃ v vs,H k.x=some (pko C k.dx k.l v)/\H k.l=some (.lst vs)/\Rep Hs k.n v/\Reps Hs k.ps vs
structure ExtP (k:Pk)(Hs H Hs' H':Hp):Prop where
 s1:Same Hs Hs'
 s2:∀ b o,H b=some o->b≠k.x->b≠k.l->H' b=some o
 s3:Same Hs' H'
 s4:∀ b,H b≠none->Hs b=none->Hs' b=none
structure RDH (C:Addr)(Hs0 B Hs H:Hp)(U:St)(ε:ME)(k:Pk):Prop where
 ne:k.x≠k.l
 hx:Hs0 k.x=none
 hl:Hs0 k.l=none
 ex:∃ v vs,RD [] Hs0 (pkB B C k v vs) Hs H U ε/\Rep Hs k.n v/\Reps Hs k.ps vs
section
variable {C:Addr}{Hs0 B Hs H Hs' H':Hp}{U σ':St}{ε ε':ME}{k:Pk}{v:V}{vs:List V}
theorem wF:pkB B C k v vs k.x=some (pko C k.dx k.l v):=j9
theorem wE (h:k.x≠k.l):pkB B C k v vs k.l=some (.lst vs):=by unfold pkB;rw [z6 (Ne.symm h)];exact j9
theorem zi {b:Addr}(h1:b≠k.x)(h2:b≠k.l):pkB B C k v vs b=B b:=by unfold pkB;rw [z6 h1,z6 h2]
theorem RA (p1:H k.x=some (pko C k.dx k.l v))(p2:H k.l=some (.lst vs)):pkB H C k v vs=H:=by
 funext b
 by_cases h1:b=k.x
 ·rw [h1,wF,p1]
 ·by_cases h2:b=k.l
  ·rw [h2];by_cases h3:k.l=k.x
   ·exact absurd (h2.trans h3) h1
   ·rw [wE (Ne.symm h3),p2]
  ·rw [zi h1 h2]
theorem Ext.toP (e:Ext Hs H Hs' H'):ExtP k Hs H Hs' H':=⟨e.s1,λb o h _ _=>e.s2 b o h,e.s3,e.s4⟩
theorem RDH.pkt (r:RDH C Hs0 B Hs H U ε k):Pkt C Hs H k:=by obtain ⟨v,vs,rd,rn,rp⟩:=r.ex;exact ⟨rd.s3,r.ne,rd.s4 _ (by rw [wF];exact λz=>nomatch z) r.hx,rd.s4 _ (by rw [wE r.ne];exact λz=>nomatch z) r.hl,v,vs,rd.s2 _ _ wF yJ,rd.s2 _ _ (wE r.ne) yJ,rn,rp⟩
theorem RDH.s3 (r:RDH C Hs0 B Hs H U ε k):Same Hs H:=r.pkt.sm
theorem RDH.step (r:RDH C Hs0 B Hs H U ε k)(q:∀ B',RD [] Hs0 B' Hs H U ε->RD [] Hs0 B' Hs' H' σ' ε'/\Same Hs Hs'):RDH C Hs0 B Hs' H' σ' ε' k:=by obtain ⟨v,vs,rd,rn,rp⟩:=r.ex;obtain ⟨rd',g⟩:=q _ rd;exact ⟨r.ne,r.hx,r.hl,v,vs,rd',rn.mono g,rp.mono g⟩
theorem RDH.go (r:RDH C Hs0 B Hs H U ε k)(e:Ext Hs H Hs' H'):RDH C Hs0 B Hs' H' U ε k:=r.step λ_ rd=>⟨rd.go e,e.s1⟩
theorem RDH.put (r:RDH C Hs0 B Hs H U ε k){i:Nat}{x:PV}{v:V}(h:Rep Hs x v):RDH C Hs0 B Hs H (U.set (i+1) (some v)) (ε.set (i+1) (.sh x)) k:=r.step λ_ rd=>⟨rd.put h,.refl _⟩
theorem RDH.sh (r:RDH C Hs0 B Hs H U ε k){i:Nat}{x:PV}(h:ε[i]?=some (.sh x)):∃ v,U[i]?=some (some v)/\Rep Hs x v:=by obtain ⟨v,vs,rd,_⟩:=r.ex;exact rd.sh i x h
theorem RDH.rs (r:RDH C Hs0 B Hs H U ε k):RS Hs Hs Hs H U ε:=by obtain ⟨v,vs,rd,_⟩:=r.ex;exact rd.rs
theorem RDH.called (r:RDH C Hs0 B Hs H U ε k){ps:List PV}(e:ExtP k Hs H Hs' H')(p:Pkt C Hs' H' (k.to n ps)):RDH C Hs0 B Hs' H' U ε (k.to n ps):=by
 obtain ⟨v,vs,rd,rn,rp⟩:=r.ex;obtain ⟨v',vs',p1,p2,rn',rp'⟩:=p.ex;have dom:∀ b,pkB B C k v vs b=none->b≠k.x/\b≠k.l:=λb hb=>⟨(λz=>by rw [z,wF] at hb;cases hb),(λz=>by rw [z,wE r.ne] at hb;cases hb)⟩;have B2:pkB B C (k.to n ps) v' vs'=pkB B C k v' vs':=rfl;refine ⟨r.ne,r.hx,r.hl,v',vs',⟨rd.s1.trans e.s1,λb o h _=>?_,e.s3,λb hb z=>?_,λi x hi=>?_,λi x hi=>?_,rd.nd,rd.len,λa ha=>absurd ha yJ,λa ha=>absurd ha yJ,λa ha=>absurd ha yJ,rd.nb⟩,rn',rp'⟩
 ·rw [B2] at h;by_cases h1:b=k.x
  ·subst h1;rw [wF] at h;rw [<- h];exact p1
  ·by_cases h2:b=k.l
   ·subst h2;rw [wE r.ne] at h;rw [<- h];exact p2
   ·rw [zi h1 h2] at h;exact e.s2 b o (rd.s2 b o (by rw [zi h1 h2];exact h) yJ) h1 h2
 ·by_cases h1:b=k.x
  ·subst h1;exact p.hx
  ·by_cases h2:b=k.l
   ·subst h2;exact p.hl
   ·rw [B2,zi h1 h2] at hb;have hb':pkB B C k v vs b≠none:=by rw [zi h1 h2];exact hb
    exact e.s4 b (rd.there hb') (rd.s4 b hb' z)
 ·obtain ⟨u,h1,h2⟩:=rd.sh i x hi;exact ⟨u,h1,h2.mono e.s1⟩
 ·obtain ⟨a,ha,m0,m1,t⟩:=rd.ow i x hi;have m0:=m0.resolve_right yJ;have d:=dom a m0;exact ⟨a,ha,.inl (by rw [B2,zi d.1 d.2];rw [zi d.1 d.2] at m0;exact m0),e.s4 a t.there m1,t.mono e.s1 λo h=>e.s2 a o h d.1 d.2⟩
theorem RDH.start (p:Pkt C Hs H k)(rd:RD [] Hs H Hs H U ε):RDH C Hs H Hs H U ε k:=by obtain ⟨v,vs,p1,p2,rn,rp⟩:=p.ex;exact ⟨p.ne,p.hx,p.hl,v,vs,by rw [RA p1 p2];exact rd,rn,rp⟩
theorem RDH.out {ps:List PV}(r:RDH C Hs0 B Hs H U ε (k.to n ps))(hB:B k.x≠none)(hB2:B k.l≠none):ExtP k Hs0 B Hs H:=by
 obtain ⟨v,vs,rd,_⟩:=r.ex;refine ⟨rd.s1,λb o h h1 h2=>rd.s2 b o (by rw [zi (k:=k.to n ps) h1 h2];exact h) yJ,rd.s3,λb hb z=>rd.s4 b ?_ z⟩;by_cases h1:b=k.x
 ·subst h1;rw [show k.x=(k.to n ps).x from rfl,wF];exact λz=>nomatch z
 ·by_cases h2:b=k.l
  ·subst h2;rw [show k.l=(k.to n ps).l from rfl,wE r.ne];exact λz=>nomatch z
  ·rw [zi (k:=k.to n ps) h1 h2];exact hb
theorem Pkt.bx (p:Pkt C Hs H k):H k.x≠none:=by obtain ⟨v,vs,p1,_⟩:=p.ex;rw [p1];exact λz=>nomatch z
theorem Pkt.bl (p:Pkt C Hs H k):H k.l≠none:=by obtain ⟨v,vs,_,p2,_⟩:=p.ex;rw [p2];exact λz=>nomatch z
theorem Pkt.go (p:Pkt C Hs H k)(e:Ext Hs H Hs' H'):Pkt C Hs' H' k:=by obtain ⟨v,vs,p1,p2,rn,rp⟩:=p.ex;exact ⟨e.s3,p.ne,e.s4 _ p.bx p.hx,e.s4 _ p.bl p.hl,v,vs,e.s2 _ _ p1,e.s2 _ _ p2,rn.mono e.s1,rp.mono e.s1⟩
end
def xK (C:Addr)(m:PV->List PV->List PV->Option PV):Sp:=λvs H Q _=>∃ Hs k xs ws y,vs = .ref k.x::ws/\Pkt C Hs H k/\Reps Hs xs ws/\m k.n k.ps xs=some y/\∀ v Hs' H',Ext Hs H Hs' H'->Rep Hs' y v->Q v H'
def jG (C:Addr)(m:PV->List PV->List PV->Option PV):Sp:=λvs H Q _=>∃ Hs k xs ws y,vs = .ref k.x::ws/\Pkt C Hs H k/\Reps Hs xs ws/\m k.n k.ps xs=some y/\∀ a Hs' H',Ext Hs H Hs' H'->H a=none->Hs' a=none->Top Hs' H' a y->Q (.ref a) H'
def p9 (C:Addr)(R:PV->List PV->List PV->PV->PV->List PV->Prop)(X:PV->List PV->List PV->Addr->XV->Prop):Sp:=λvs H Q E=>∃ Hs k xs ws,vs = .ref k.x::ws/\Pkt C Hs H k/\Reps Hs xs ws /\
 ((∃ y n ps,R k.n k.ps xs y n ps/\∀ v Hs' H',ExtP k Hs H Hs' H'->Pkt C Hs' H' (k.to n ps)->Rep Hs' y v->Q v H')∨∃ c y,X k.n k.ps xs c y/\EOK E c y Hs H)
abbrev HM:=Pk->ME->Option PV
variable{a:HM}
abbrev HA:=Pk->ME->Option (List PV)
variable{as:HA}
abbrev HB:=Pk->ME->Option Bool
variable{c:HB}
class zb (C:Addr)(te:TE)(f:HM):Prop where
 h:∀{k ε y},f k ε=some y->∀{Hs0 B Hs H U},RDH C Hs0 B Hs H U ε k->∀{Q:VK},(∀ v Hs' H',Ext Hs H Hs' H'->Rep Hs' y v->Q v H')->te U H Q
class zm (C:Addr)(ta:TA)(f:HA):Prop where
 h:∀{k ε ys},f k ε=some ys->∀{Hs0 B Hs H U},RDH C Hs0 B Hs H U ε k->∀{Q:List V->Hp->Prop},(∀ vs Hs' H',Ext Hs H Hs' H'->Reps Hs' ys vs->Q vs H')->ta U H Q
class vz (C:Addr)(tt:TT)(f:HB):Prop where
 h:∀{k ε y},f k ε=some y->∀{Hs0 B Hs H U},RDH C Hs0 B Hs H U ε k->∀{Q:Bool->Hp->Prop},(∀ Hs' H',Ext Hs H Hs' H'->Q y H')->tt U H Q
def hE (f:M):HM:=λ_ ε=>f ε
def hB (f:MB):HB:=λ_ ε=>f ε
section
variable {C:Addr}{te tb:TE}{ta:TA}{tt uu:TT}
instance {f:M}[s:SemE te f]:zb C te (hE f) where
 h:=λe _ _ _ _ _ r _ q=>s.h e r.rs q
instance {f:MB}[s:qO tt f]:vz C tt (hB f) where
 h:=λe _ _ _ _ _ r _ q=>s.h e r.rs q
def qI:HA:=λ_ _=>some []
def qm (a:HM)(r:HA):HA:=λk ε=>(a k ε).bind λx=>(r k ε).map λxs=>x::xs
instance:zm C qF qI where
 h:=λe _ _ _ _ _ r _ q=>by cases e;exact q [] _ _ (.refl r.s3) .nil
theorem Mo {r:HA}{k:Pk}{ys:List PV}(h:qm a r k ε=some ys):∃ x xs,a k ε=some x/\r k ε=some xs/\ys=x::xs:=by
 unfold qm at h;obtain ⟨x,ex,h⟩:=bind_some h;cases e:r k ε with
 |none=>rw [e] at h;cases h
 |some xs=>rw [e] at h;cases h;exact ⟨x,xs,ex,rfl,rfl⟩
instance {rr:HA}[sa:zb C te a][sr:zm C ta rr]:zm C (o5 te ta) (qm a rr) where
 h:=λe _ _ _ _ _ r _ q=>by
  obtain ⟨x,xs,e1,e2,rfl⟩:=Mo e;exact sa.h e1 r λv Hs1 H1 x1 r1=>sr.h e2 (r.go x1) λvs Hs2 H2 x2 r2=>q _ _ _ (x1.trans x2) (.cons (r1.mono x2.s1) r2)
def vK (g:PV->PV->Option PV)(a b:HM):HM:=λk ε=>(a k ε).bind λx=>(b k ε).bind λy=>g x y
instance {r:R2}{g:PV->PV->Option PV}{b:HM}[sr:xy r g][sa:zb C te a][sb:zb C tb b]:zb C (tOp r te tb) (vK g a b) where
 h:=λe _ _ _ _ _ rr _ q=>by
  obtain ⟨x,ex,e⟩:=bind_some e;obtain ⟨y,ey,e⟩:=bind_some e;exact sa.h ex rr λv Hs1 H1 x1 r1=>sb.h ey (rr.go x1) λw Hs2 H2 x2 r2=>sr.h e x2.s3 (.inl (r1.mono x2.s1)) (.inl r2) λu Hs3 H3 x3 r3=>q u _ _ (x1.trans (x2.trans x3)) r3
def hT (a:HM):HB:=λk ε=>(a k ε).bind pB
instance [sa:zb C te a]:vz C (Zx te) (hT a) where
 h:=λe _ _ _ _ _ r _ q=>by
  obtain ⟨x,ex,eb⟩:=bind_some e;cases wx eb;exact sa.h ex r λv Hs1 H1 x1 r1=>⟨_,rep_at.mp r1,q Hs1 H1 x1⟩
def hOr (a b:HB):HB:=λk ε=>(a k ε).bind λc=>if c=true then some true else b k ε
instance {a b:HB}[sa:vz C tt a][sb:vz C uu b]:vz C (tOr tt uu) (hOr a b) where
 h:=λe _ _ _ _ _ r _ q=>by
  obtain ⟨c,ec,e⟩:=bind_some e;refine sa.h ec r λHs1 H1 x1=>?_;cases c with
  |true=>cases e;exact qb (q Hs1 H1 x1)
  |false=>exact qf (sb.h (by simpa using e) (r.go x1) λHs2 H2 x2=>q Hs2 H2 (x1.trans x2))
def hRd (i:Nat)(nm:Str)(m:PV->List PV->List PV->Option PV)(as:HA):HM:=λk ε=>match ε[i]? with
 |some (.sh (.at (.ref a)))=>if a=k.x/\nm ≠ "now"/\nm ≠ "past" then (as k ε).bind λxs=>m k.n k.ps xs else none
 |_=>none
theorem VD {i:Nat}{m:PV->List PV->List PV->Option PV}{k:Pk}(h:hRd i nm m as k ε=some y):ε[i]?=some (.sh (.at (.ref k.x)))/\nm ≠ "now"/\nm ≠ "past"/\∃ xs,as k ε=some xs/\m k.n k.ps xs=some y:=by
 unfold hRd at h;split at h
 ·rename_i a ha;split at h
  ·rename_i hc;obtain ⟨rfl,h1,h2⟩:=hc;obtain ⟨xs,ex,h⟩:=bind_some h;exact ⟨ha,h1,h2,xs,ex,h⟩
  ·cases h
 ·cases h
theorem Xa {dx l:Addr}{v:V}(h1:nm ≠ "now")(h2:nm ≠ "past"):List.lookup nm [(("now":Str),v),(("past":Str),V.ref l)]=none:=by rw [yg,beq_eq_false_iff_ne.mpr h1];show List.lookup nm [(("past":Str),V.ref l)]=none;rw [yg,beq_eq_false_iff_ne.mpr h2];rfl
instance {i:Nat}{m:PV->List PV->List PV->Option PV}[sa:zm C ta as]:zb C (qi C nm (xK C m) [] E (b9 i) ta) (hRd i nm m as) where
 h:=λ{k ε y} e _ _ _ _ _ r _ q=>by
  obtain ⟨hi,h1,h2,xs,ex,em⟩:=VD e;obtain ⟨v,hv,rv⟩:=r.sh hi;cases rep_at.mp rv;obtain ⟨u,us,p1,_⟩:=r.pkt.ex;refine ⟨_,hv,k.x,k.dx,_,rfl,p1,Xa (dx:=k.dx) h1 h2,sa.h ex r λvs Hs1 H1 x1 r1=>?_⟩;exact ⟨Hs1,k,xs,vs,y,by rw [yO],(r.go x1).pkt,r1,em,λv Hs' H' x rv=>q v _ _ (x1.trans x) rv⟩
instance {i:Nat}{m:PV->List PV->List PV->Option PV}[sa:zm C ta as]:zb C (qi C nm (jG C m) [] E (b9 i) ta) (hRd i nm m as) where
 h:=λ{k ε y} e _ _ _ _ _ r _ q=>by
  obtain ⟨hi,h1,h2,xs,ex,em⟩:=VD e;obtain ⟨v,hv,rv⟩:=r.sh hi;cases rep_at.mp rv;obtain ⟨u,us,p1,_⟩:=r.pkt.ex;refine ⟨_,hv,k.x,k.dx,_,rfl,p1,Xa (dx:=k.dx) h1 h2,sa.h ex r λvs Hs1 H1 x1 r1=>?_⟩;refine ⟨Hs1,k,xs,vs,y,by rw [yO],(r.go x1).pkt,r1,em,λa Hs' H' x n n' t=>?_⟩;obtain ⟨o,ho,ro⟩:=t.rep n';exact q _ _ _ ((x1.trans x).share (x1.s2.free n) n' ho) ro
def wf (D:Addr)(nm:Str)(m:List PV->Option PV)(a:HM)(as:HA):HM:=λk ε=>(a k ε).bind λx=>match x with
 | .ob D' ns fs=>if D'=D/\nm∉ns then (as k ε).bind λxs=>m (.ob D ns fs::xs) else none
 |_=>none
theorem Mp {k:Pk}(h:wf D nm m a as k ε=some y):∃ ns fs xs,a k ε=some (.ob D ns fs)/\nm∉ns/\as k ε=some xs/\m (.ob D ns fs::xs)=some y:=by
 unfold wf at h;obtain ⟨x,ex,h⟩:=bind_some h;split at h
 ·split at h
  ·rename_i hc;obtain ⟨rfl,hn⟩:=hc;obtain ⟨xs,e1,h⟩:=bind_some h;exact ⟨_,_,xs,ex,hn,e1,h⟩
  ·cases h
 ·cases h
instance [so:zb C te a][sa:zm C ta as]:zb C (qi D nm (m7 m X) [] E te ta) (wf D nm m a as) where
 h:=λe _ _ _ _ _ r _ q=>by
  obtain ⟨ns,fs,xs,ea,hn,e1,e2⟩:=Mp e;refine so.h ea r λv Hs1 H1 x1 r1=>?_;obtain ⟨p,dx,gs,rfl,hp,hk,hr⟩:=rep_ob.mp r1;refine ⟨p,dx,gs,rfl,x1.s3 _ _ hp,jw (by rw [hk];exact hn),sa.h e1 (r.go x1) λvs Hs2 H2 x2 r2=>?_⟩;exact ⟨Hs2,_,x2.s3,by rw [yO];exact .cons (r1.mono x2.s1) r2,.inl ⟨_,e2,λv Hs' H' x r=>q v _ _ (x1.trans (x2.trans x)) r⟩⟩
def XG (m:List PV->Option PV)(as:HA):HM:=λk ε=>(as k ε).bind m
instance [sa:zm C ta as]:zb C (qL (w4 m) [] E ta) (XG m as) where
 h:=λe _ _ _ _ _ r _ q=>by
  obtain ⟨xs,ex,e1⟩:=bind_some e;exact sa.h ex r λvs Hs1 H1 x1 r1=>⟨Hs1,xs,_,x1.s3,by rw [yO];exact r1,e1,λv Hs' H' x r=>q v _ _ (x1.trans x) r⟩
end
abbrev i6:=Pk->ME->(Pk->ME->Prop)->(PV->Pk->ME->Prop)->Prop
variable{b:i6}
class xx (C:Addr)(ts:TS)(w:i6):Prop where
 h:∀{k ε N R},w k ε N R->∀{Hs0 B Hs H U},RDH C Hs0 B Hs H U ε k->∀{D:qN},(∀ k' ε' σ' Hs' H',N k' ε'->RDH C Hs0 B Hs' H' σ' ε' k'->Same Hs Hs'->D.nx σ' H') ->
  (∀ y k' ε' σ' v Hs' H',R y k' ε'->RDH C Hs0 B Hs' H' σ' ε' k'->Same Hs Hs'->Rep Hs' y v->D.rt v H')->ts D U H
def hL (w:WS):i6:=λk ε N R=>w ε (λε'=>N k ε') λy ε'=>R y k ε'
def c8 (a b:i6):i6:=λk ε N R=>a k ε (λk1 ε1=>b k1 ε1 N R) R
def XH (i:Nat)(f:HM):i6:=λk ε N _=>∃ x,f k ε=some x/\N k (ε.set i (.sh x))
def Kj (i j:Nat)(nm:Str)(m:PV->List PV->List PV->Option PV)(as:HA):i6:=λk ε N _=>∃ x,hRd j nm m as k ε=some x/\N k (ε.set i (.ow x))
def hIf (c:HB)(a b:i6):i6:=λk ε N R=>∃ v,c k ε=some v/\if v=true then a k ε N R else b k ε N R
def hDo (i:Nat)(nm:Str)(R:PV->List PV->List PV->PV->PV->List PV->Prop)(as:HA):i6:=λk ε N _=>ε[i]?=some (.sh (.at (.ref k.x)))/\nm ≠ "now"/\nm ≠ "past"/\∃ xs y n ps,as k ε=some xs/\R k.n k.ps xs y n ps/\N (k.to n ps) ε
def QA (i:Nat)(nm:Str)(R:PV->List PV->List PV->PV->PV->List PV->Prop)(as:HA):i6:=λk ε _ T=>ε[i]?=some (.sh (.at (.ref k.x)))/\nm ≠ "now"/\nm ≠ "past"/\∃ xs y n ps,as k ε=some xs/\R k.n k.ps xs y n ps/\T y (k.to n ps) ε
def hDoF (i:Nat)(R:PV->List PV->List PV->PV->PV->List PV->Prop)(as:WA):i6:=λk ε N _=>ε[i]?=some (.sh (.at (.ref k.x)))/\as ε λxs ε1=>∃ y n ps,R k.n k.ps xs y n ps/\N (k.to n ps) ε1
def hFor (it:WA)(g:MG)(f:i6):i6:=λk ε N R=>it ε λxs ε1=>∃ I:List PV->Pk->ME->Prop,I xs k ε1/\(∀ k ε,I [] k ε->N k ε)/\∀ x rest k ε,I (x::rest) k ε->∃ ε1,g x ε=some ε1/\f k ε1 (λk2 ε2=>I rest k2 ε2) R
section
variable {C:Addr}{t u:TS}{te:TE}{ta:TA}{tt:TT}{E:XK}
instance (priority:=50){w:WS}[s:SemWS t w]:xx C t (hL w) where
 h:=λ{k ε N R} h Hs0 B Hs H U r D kn kr=>by
  obtain ⟨v,vs,rd,rn,rp⟩:=r.ex;exact s.h h rd (λε' σ' Hs' H' hN rd' g=>kn k ε' σ' Hs' H' hN ⟨r.ne,r.hx,r.hl,v,vs,rd',rn.mono g,rp.mono g⟩ g) λy ε' σ' u Hs' H' hR rd' g rv=>kr y k ε' σ' u Hs' H' hR ⟨r.ne,r.hx,r.hl,v,vs,rd',rn.mono g,rp.mono g⟩ g rv
instance {a:i6}[sa:xx C t a][sb:xx C u b]:xx C (tSeq t u) (c8 a b) where
 h:=λh _ _ _ _ _ r _ kn kr=>sa.h h r (λk1 ε1 σ1 Hs1 H1 h1 r1 g1=>sb.h h1 r1 (λk2 ε2 σ2 Hs2 H2 h2 r2 g2=>kn k2 ε2 σ2 Hs2 H2 h2 r2 (g1.trans g2)) λy k2 ε2 σ2 v Hs2 H2 h2 r2 g2 rv=>kr y k2 ε2 σ2 v Hs2 H2 h2 r2 (g1.trans g2) rv) kr
instance {i:Nat}{f:HM}[sa:zb C te f]:xx C (xS te (qS (i+1))) (XH (i+1) f) where
 h:=λ⟨x,e,h⟩ _ _ _ _ _ r _ kn _=>sa.h e r λv Hs1 H1 x1 r1=>kn _ _ _ _ _ h ((r.go x1).put r1) x1.s1
instance {a:i6}[sc:vz C tt c][sa:xx C t a][sb:xx C u b]:xx C (vT tt t u) (hIf c a b) where
 h:=λ⟨v,e,h⟩ _ _ _ _ _ r _ kn kr=>sc.h e r λHs1 H1 x1=>by
  cases v with
  |true=>exact qb (sa.h (by simpa using h) (r.go x1) (λk2 ε2 σ2 Hs2 H2 h2 r2 g2=>kn k2 ε2 σ2 Hs2 H2 h2 r2 (x1.s1.trans g2)) λy k2 ε2 σ2 v Hs2 H2 h2 r2 g2 rv=>kr y k2 ε2 σ2 v Hs2 H2 h2 r2 (x1.s1.trans g2) rv)
  |false=>exact qf (sb.h (by simpa using h) (r.go x1) (λk2 ε2 σ2 Hs2 H2 h2 r2 g2=>kn k2 ε2 σ2 Hs2 H2 h2 r2 (x1.s1.trans g2)) λy k2 ε2 σ2 v Hs2 H2 h2 r2 g2 rv=>kr y k2 ε2 σ2 v Hs2 H2 h2 r2 (x1.s1.trans g2) rv)
instance {i:Nat}{m:PV->List PV->List PV->Option PV}[sa:zm C ta as]:xx C (xS (qi C nm (jG C m) [] E (b9 j) ta) (qS (i+1))) (Kj (i+1) j nm m as) where
 h:=λ{k ε N R} ⟨y,e,h⟩ Hs0 B Hs H U r D kn _=>by
  obtain ⟨hi,h1,h2,xs,ex,em⟩:=VD e;obtain ⟨v,hv,rv⟩:=r.sh hi;cases rep_at.mp rv;obtain ⟨u,us,p1,_⟩:=r.pkt.ex;refine ⟨_,hv,k.x,k.dx,_,rfl,p1,Xa (dx:=k.dx) h1 h2,sa.h ex r λvs Hs1 H1 x1 r1=>?_⟩;refine ⟨Hs1,k,xs,vs,y,by rw [yO],(r.go x1).pkt,r1,em,λa Hs' H' x n n' t=>?_⟩;have na:H a=none:=x1.s2.free n;refine kn _ _ _ _ _ h (r.step λB' rd=>⟨(rd.go (x1.trans x)).putO (.inl (rd.free0 na)) n' t λj y hj z=>?_,(x1.trans x).s1⟩) (x1.trans x).s1;obtain ⟨b,hb,_,_,tb⟩:=rd.ow j y hj;rw [z] at hb;injection hb with hb;injection hb with hb;injection hb with hb;subst hb;exact tb.there na
section
variable {i:Nat}{nm:Str}{T:PV->List PV->List PV->PV->PV->List PV->Prop}{X:PV->List PV->List PV->Addr->XV->Prop}
theorem GJ [sa:zm C ta as]{k:Pk}{xs:List PV}{ps:List PV}(hi:ε[i]?=some (.sh (.at (.ref k.x))))(h1:nm ≠ "now")(h2:nm ≠ "past")(ex:as k ε=some xs)(hT:T k.n k.ps xs y n ps){Hs0 B Hs H:Hp}{U:St}(r:RDH C Hs0 B Hs H U ε k){Q:VK}(q:∀ v Hs' H',RDH C Hs0 B Hs' H' U ε (k.to n ps)->Same Hs Hs'->Rep Hs' y v->Q v H'):qi C nm (p9 C T X) [] E (b9 i) ta U H Q:=by obtain ⟨v,hv,rv⟩:=r.sh hi;cases rep_at.mp rv;obtain ⟨u,us,p1,_⟩:=r.pkt.ex;refine ⟨_,hv,k.x,k.dx,_,rfl,p1,Xa (dx:=k.dx) h1 h2,sa.h ex r λvs Hs1 H1 x1 r1=>?_⟩;exact ⟨Hs1,k,xs,vs,by rw [yO],(r.go x1).pkt,r1,.inl ⟨y,n,ps,hT,λv Hs' H' e p rv=>q v Hs' H' ((r.go x1).called e p) (x1.s1.trans e.s1) rv⟩⟩
instance [sa:zm C ta as]:xx C (xi (qi C nm (p9 C T X) [] E (b9 i) ta)) (hDo i nm T as) where
 h:=λ⟨hi,h1,h2,xs,y,n,ps,ex,hT,h⟩ _ _ _ _ _ r _ kn _=>GJ hi h1 h2 ex hT r λv Hs' H' r' g _=>kn _ _ _ _ _ h r' g
instance [sa:zm C ta as]:xx C (vt (qi C nm (p9 C T X) [] E (b9 i) ta)) (QA i nm T as) where
 h:=λ⟨hi,h1,h2,xs,y,n,ps,ex,hT,h⟩ _ _ _ _ _ r _ _ kr=>GJ hi h1 h2 ex hT r λv Hs' H' r' g rv=>kr _ _ _ _ _ _ _ h r' g rv
instance {as:WA}[sa:vA ta as]:xx C (xi (qL (p9 C T X) [] E (o5 (b9 i) ta))) (hDoF i T as) where
 h:=λ{k ε N R} ⟨hi,h⟩ Hs0 B Hs H U r D kn _=>by
  obtain ⟨v,hv,rv⟩:=r.sh hi;cases rep_at.mp rv;obtain ⟨v0,vs0,rd,rn,rp⟩:=r.ex;refine ⟨_,hv,sa.h h rd λxs ε1 vs Hs1 H1 h1 rd1 g1 r1=>?_⟩;obtain ⟨y,n,ps,hT,h2⟩:=h1;have r1':RDH C Hs0 B Hs1 H1 U ε1 k:=⟨r.ne,r.hx,r.hl,v0,vs0,rd1,rn.mono g1,rp.mono g1⟩;exact ⟨Hs1,k,xs,vs,by rw [yO],r1'.pkt,r1,.inl ⟨y,n,ps,hT,λv Hs' H' e p rv=>kn _ _ _ _ _ h2 (r1'.called e p) (g1.trans e.s1)⟩⟩
end
instance {wi:TI}{tg:TG}{tb:TS}{it:WA}{g:MG}{f:i6}[si:SemWI wi it][sg:SemWG tg g][sf:xx C tb f]:xx C (tFor wi tg tb) (hFor it g f) where
 h:=λ{k ε N R} h Hs0 B Hs H U r D kn kr=>by
  obtain ⟨v0,vs0,rd,rn,rp⟩:=r.ex;refine si.h h rd λxs ε1 J Hs1 H1 h1 rd1 g1 ok=>?_;obtain ⟨I,hI,hend,hstep⟩:=h1;have r1:RDH C Hs0 B Hs1 H1 U ε1 k:=⟨r.ne,r.hx,r.hl,v0,vs0,rd1,rn.mono g1,rp.mono g1⟩;refine ⟨λn m U H=>m=xs.length-n/\n<=xs.length/\∃ Hs ε k,Same Hs1 Hs/\RDH C Hs0 B Hs H U ε k/\I (xs.drop n) k ε,⟨xs.length,by simp,yd _,Hs1,ε1,k,.refl _,r1,hI⟩,?_⟩;rintro n m σ2 H2 ⟨rfl,hn,Hs2,ε2,k2,gg,r2,h2⟩;by_cases hlt:n<xs.length
  ·have hd:xs.drop n=xs[n]::xs.drop (n+1):=yj hlt;rw [hd] at h2;obtain ⟨ε3,e3,h3⟩:=hstep _ _ _ _ h2;obtain ⟨go,yl⟩:=ok.go n xs[n] Hs2 H2 (by simp [hlt]) gg r2.s3;refine .inr ⟨go,λσ' H'=>n+1<=xs.length/\∃ Hs ε k,Same Hs1 Hs/\RDH C Hs0 B Hs H' σ' ε k/\I (xs.drop (n+1)) k ε,λσ' H' p=>⟨xs.length-(n+1),by omega,rfl,p.1,p.2⟩,λv H3 y=>?_⟩;obtain ⟨Hs3,x3,r3⟩:=yl v H3 y;obtain ⟨v2,vs2,rd2,rn2,rp2⟩:=(r2.go x3).ex;refine sg.h e3 rd2 r3 λσ4 rd4=>sf.h h3 (⟨r2.ne,r2.hx,r2.hl,v2,vs2,rd4,rn2,rp2⟩:RDH C Hs0 B Hs3 H3 σ4 ε3 k2) (λk5 ε5 σ5 Hs5 H5 h5 r5 g5=>⟨hlt,Hs5,ε5,k5,gg.trans (x3.s1.trans g5),r5,h5⟩) λy k5 ε5 σ5 v Hs5 H5 h5 r5 g5 rv=>kr y k5 ε5 σ5 v Hs5 H5 h5 r5 (g1.trans (gg.trans (x3.s1.trans g5))) rv
  ·have en:n=xs.length:=by omega
   subst en;rw [uT] at h2;exact .inl ⟨ok.stop Hs2 H2 gg r2.s3,kn _ _ _ _ _ (hend _ _ h2) r2 (g1.trans gg)⟩
end
abbrev HY:=Pk->ME->Addr->XV->Prop
variable{f:HY}
class vY (C:Addr)(E:XK)(te:TE)(f:HY):Prop where
 h:∀{k ε c y},f k ε c y->∀{Hs0 B Hs H U},RDH C Hs0 B Hs H U ε k->EOK E c y Hs H->∀{Q:VK},te U H Q
class zB (C:Addr)(E:XK)(ts:TS)(f:HY):Prop where
 h:∀{k ε c y},f k ε c y->∀{Hs0 B Hs H U},RDH C Hs0 B Hs H U ε k->EOK E c y Hs H->∀{D:qN},ts D U H
class ZN (C:Addr)(ts:TS)(g:Pk->ME->Option ME):Prop where
 h:∀{k ε ε'},g k ε=some ε'->∀{Hs0 B Hs H U},RDH C Hs0 B Hs H U ε k->∀{D:qN},(∀ σ' Hs' H',Ext Hs H Hs' H'->RDH C Hs0 B Hs' H' σ' ε' k->D.nx σ' H')->ts D U H
section
variable {C:Addr}{t u:TS}{te tf:TE}{ta:TA}{tt:TT}{E:XK}
def Jo (D:Addr)(nm:Str)(X:List PV->Addr->XV->Prop)(a:HM)(as:HA):HY:=λk ε c y=>∃ ns fs xs,a k ε=some (.ob D ns fs)/\nm∉ns/\as k ε=some xs/\X (.ob D ns fs::xs) c y
instance [so:zb C te a][sa:zm C ta as]:vY C E (qi D nm (m7 m X) [] E te ta) (Jo D nm X a as) where
 h:=λ⟨ns,fs,xs,ea,hn,e1,h⟩ _ _ _ _ _ r q _=>by
  refine so.h ea r λv Hs1 H1 x1 r1=>?_;obtain ⟨p,dx,gs,rfl,hp,hk,hr⟩:=rep_ob.mp r1;refine ⟨p,dx,gs,rfl,x1.s3 _ _ hp,jw (by rw [hk];exact hn),sa.h e1 (r.go x1) λvs Hs2 H2 x2 r2=>?_⟩;exact ⟨Hs2,_,x2.s3,by rw [yO];exact .cons (r1.mono x2.s1) r2,.inr ⟨_,_,h,(q.ext x1).ext x2⟩⟩
def VG (i:Nat)(nm:Str)(f:HY):HY:=λk ε c y=>ε[i]?=some (.sh (.at (.ref k.x)))/\nm ≠ "now"/\nm ≠ "past"/\f k ε c y
instance {i:Nat}{E':XK}[s:vY C E te f]:vY C E (qi C nm sp [] E' (b9 i) (o5 te ta)) (VG i nm f) where
 h:=λ{k ε c y} ⟨hi,h1,h2,h⟩ _ _ _ _ _ r q _=>by
  obtain ⟨v,hv,rv⟩:=r.sh hi;cases rep_at.mp rv;obtain ⟨u,us,p1,_⟩:=r.pkt.ex;exact ⟨_,hv,k.x,k.dx,_,rfl,p1,Xa (dx:=k.dx) h1 h2,s.h h r q⟩
def hyH (i:Nat)(nm:Str)(X:PV->List PV->List PV->Addr->XV->Prop)(as:HA):HY:=λk ε c y=>ε[i]?=some (.sh (.at (.ref k.x)))/\nm ≠ "now"/\nm ≠ "past"/\∃ xs,as k ε=some xs/\X k.n k.ps xs c y
instance {i:Nat}{X:PV->List PV->List PV->Addr->XV->Prop}[sa:zm C ta as]:vY C E (qi C nm (p9 C T X) [] E (b9 i) ta) (hyH i nm X as) where
 h:=λ{k ε c y} ⟨hi,h1,h2,xs,ex,h⟩ _ _ _ _ _ r q _=>by
  obtain ⟨v,hv,rv⟩:=r.sh hi;cases rep_at.mp rv;obtain ⟨u,us,p1,_⟩:=r.pkt.ex;refine ⟨_,hv,k.x,k.dx,_,rfl,p1,Xa (dx:=k.dx) h1 h2,sa.h ex r λvs Hs1 H1 x1 r1=>?_⟩;exact ⟨Hs1,k,xs,vs,by rw [yO],(r.go x1).pkt,r1,.inr ⟨c,y,h,q.ext x1⟩⟩
def hyX (f:HY):HY:=f
instance [s:vY C E te f]:zB C E (xi te) (hyX f) where h:=λh _ _ _ _ _ r q _=>s.h h r q
instance [s:vY C E te f]:zB C E (vt te) (hyX f) where h:=λh _ _ _ _ _ r q _=>s.h h r q
instance {g:TG}[s:vY C E te f]:zB C E (xS te g) (hyX f) where h:=λh _ _ _ _ _ r q _=>s.h h r q
def zT:HY:=λ_ _ _ _=>False
instance (priority:=2000):zB C E t zT where h:=λh=>h.elim
def Kn (D:Addr):HY:=λ_ _ c y=>c=D/\y=none
instance :zB C E (JW D E) (Kn D) where
 h:=λh _ _ _ _ _ r q _=>by
  obtain ⟨rfl,rfl⟩:=h;exact q _ _ (.refl r.s3)
def jt (g:Pk->ME->Option ME)(a b:HY):HY:=λk ε c y=>a k ε c y∨∃ ε',g k ε=some ε'/\b k ε' c y
instance {g:Pk->ME->Option ME}{a b:HY}[sp:ZN C t g][sa:zB C E t a][sb:zB C E u b]:zB C E (tSeq t u) (jt g a b) where
 h:=λh _ _ _ _ _ r q _=>by
  rcases h with h|⟨ε',e,h⟩
  ·exact sa.h h r q
  ·exact sp.h e r λσ' Hs' H' x r'=>sb.h h r' (q.ext x)
def QC (c:HB)(a b:HY):HY:=λk ε d y=>∃ v,c k ε=some v/\if v=true then a k ε d y else b k ε d y
instance {a b:HY}[sc:vz C tt c][sa:zB C E t a][sb:zB C E u b]:zB C E (vT tt t u) (QC c a b) where
 h:=λh _ _ _ _ _ r q _=>by
  obtain ⟨v,e,h⟩:=h;refine sc.h e r λHs1 H1 x1=>?_;cases v with
  |true=>exact qb (sa.h (by simpa using h) (r.go x1) (q.ext x1))
  |false=>exact qf (sb.h (by simpa using h) (r.go x1) (q.ext x1))
def Qz (i:Nat)(f:HM):Pk->ME->Option ME:=λk ε=>(f k ε).map λx=>ε.set i (.sh x)
instance {i:Nat}{f:HM}[sa:zb C te f]:ZN C (xS te (qS (i+1))) (Qz (i+1) f) where
 h:=λ{k ε ε'} e _ _ _ _ _ r _ q=>by
  cases ef:f k ε with
  |none=>unfold Qz at e;rw [ef] at e;cases e
  |some x=>unfold Qz at e;rw [ef] at e;cases e;exact sa.h ef r λv Hs1 H1 x1 r1=>q _ _ _ x1 ((r.go x1).put r1)
end
section
variable {P:Program}{w:World}{K:Fg}{mg:Str->Option Value}{base:Heap}
theorem Zb {f C:Addr}{xb:HY}{X:PV->List PV->List PV->Addr->XV->Prop}(F:Fun K x qual st f fd)(S:v4 N ps (j3 st))(hb:∀(cdv:Value)(A:Around)(outer:List Env)(s:Shared)(H:Hp)(E:XK),Room j (A.deeper (PyProof.Rows.envOfC qual (j3 st) s.heap.objs.size f cdv)) -> ∃ t,PSs (qr (y9 P w) P w K mg base N qual (j3 st) f cdv A outer s H E) (n9 st) t/\xx C t b/\zB C E t xb)(hT:∀ k xs y n qs,T k.n k.ps xs y n qs->xs.length+1=ps.length/\b k (.sh (.at (.ref k.x))::xs.map .sh++List.replicate (N.length-(xs.length+1)) .no) (λk' _=>k'=k.to n qs/\y = .at .non) λy' k' _=>k'=k.to n qs/\y'=y)(hX:∀ k xs c y,X k.n k.ps xs c y->xs.length+1=ps.length/\xb k (.sh (.at (.ref k.x))::xs.map .sh++List.replicate (N.length-(xs.length+1)) .no) c y):FnOk P w K mg base (y9 P w) (j+1) f fd ps (p9 C T X):=by
 refine F.ok2 S (λvs H Q E h=>?_) (λcdv A outer s H vs Q E hr h=>?_)
 ·obtain ⟨Hs,k,xs,ws,rfl,p,r,⟨y,n,qs,h,_⟩|⟨c,y,h,_⟩⟩:=h
  ·rw [yH,r.length];exact (hT k xs y n qs h).1
  ·rw [yH,r.length];exact (hX k xs c y h).1
 ·obtain ⟨Hs,k,xs,ws,rfl,p,r,h⟩:=h;obtain ⟨t,ht,sem,semx⟩:=hb cdv A outer s H E hr;refine ⟨t,ht,?_⟩;have rd0:RD [] Hs H Hs H (L2.start N (.ref k.x::ws)) (.sh (.at (.ref k.x))::xs.map .sh++List.replicate (N.length-(xs.length+1)) .no):=Wl (xs:= .at (.ref k.x)::xs) p.sm (.cons (rep_at.mpr rfl) r);have r0:=RDH.start p rd0;rcases h with ⟨y,n,qs,h,q⟩|⟨c,y,h,q⟩
  ·refine sem.h (hT k xs y n qs h).2 r0 (λk' ε' σ' Hs' H' z r' g=>?_) λy' k' ε' σ' v Hs' H' z r' g rv=>?_
   ·obtain ⟨rfl,rfl⟩:=z;exact q _ Hs' H' (r'.out p.bx p.bl) r'.pkt (rep_at.mpr rfl)
   ·obtain ⟨rfl,rfl⟩:=z;exact q _ Hs' H' (r'.out p.bx p.bl) r'.pkt rv
  ·exact semx.h (hX k xs c y h).2 r0 q
end
end Mi
namespace Mi
open PySem PySem.Spec PySem.Calls PyProof.Rows L2
variable{pl:Sem Bool}
section
variable {X:Cx}{k j:Nat}{C:Addr}{m:Str}{ps:List Str}{sp:Sp}{o e:Expr}{es:List Expr}{ta:TE}{t:TA}{p pos apos:Pos}{E:XK}
theorem xR (c:My X.prog X.w X.K X.mg X.base k C m ps sp)(hr:Room j X.A)(hj:k<=j)(hx:zl (y9 X.prog X.w) X E)(ho:PE X o ta)(ha:PA X (e::es) t)
  (hst:starEach (e::es) X.env=(false,eval e X.env)::starEach es X.env:=by rfl) (hpl:(backTo pos (starEach es X.env)).any (·.1)=false:=by rfl)
  (ht:eval (.Call (.Attribute o m apos) (e::es) [] pos) X.env=(do
   let ov <- eval o X.env
   standAt apos.atName
   let (f,first) <- holding [ov] (getMethod ov m pl)
   callWith pos f first (backTo pos (starEach (e::es) X.env)) (backToKw pos (keywordEach [] X.env))):=by rfl) :
  PE X (.Call (.Attribute o m apos) (e::es) [] pos) (qi C m sp [] E ta t):=by
 obtain ⟨f,fd,F,hm,hc,hb⟩:=c.ex;exact Bj ho hc hm F (hr.mono hj) hb .nil hx ha hst hpl ht
theorem Rm (c:My X.prog X.w X.K X.mg X.base k C m ps sp)(hr:Room j X.A)(hj:k<=j)(hx:zl (y9 X.prog X.w) X E)(ho:PE X o ta)
  (ht:eval (.Call (.Attribute o m apos) [] [] pos) X.env=(do
   let ov <- eval o X.env
   standAt apos.atName
   let (f,first) <- holding [ov] (getMethod ov m pl)
   callWith pos f first (backTo pos (starEach [] X.env)) (backToKw pos (keywordEach [] X.env))):=by rfl) :
  PE X (.Call (.Attribute o m apos) [] [] pos) (qi C m sp [] E ta qF):=by
 obtain ⟨f,fd,F,hm,hc,hb⟩:=c.ex;exact Bk ho hc hm F (hr.mono hj) hb .nil hx ht
end
end Mi
namespace L2
open PySem PySem.Spec PyProof.Rows PySem.W
def tTry0 (K:Frag)(D0:Addr)(cs:List Addr)(tb:XK->TS)(ts:TS):TS:=λD U H=>∃ E:XK,(∀ cls dx H',E cls dx H'->∃ c,c∈cs/\cls = .ref c/\exmOne K cls (.ref D0)=some true)/\tb E D U H /\
 ∀(c:Addr)(dx:Option Addr)(H':Hp),E (.ref c) dx H'->ts D U H'
section
variable {X:Cx}{K:Frag}{x:Str}{D0:Addr}{cs:List Addr}{body suite:List Stmt}{b₀:Stmt}{tb:XK->TS}{ts:TS}{np hpos pos:Pos}
theorem RI (hK:X.K=K)(hex:X.ex=[])(hst:X.stack=X.env::X.outer)(hf:X.env.frame=some X.env.locals)(hgx:Gl X x)(hmx:X.mg x=some (.ref D0))(hb:∀ (E:XK) (U:St) (pn:List (Addr×Obj)) (W:Value->Shared->Prop),ZJ (y9 X.prog X.w) (X.tried pn W) U E->PSsa (X.tried pn W) U body (tb E))(hs:∀ (pn:List (Addr×Obj)) (ea:Addr) (oe:Obj) (vs:Array Value) (c:Addr),oe.cls = .ref c->oe.data = .fields vs->c∈cs->(ea,oe)∈pn->PSs (X.suite pn ea) (b₀::suite) ts)(hd:(x==("__debug__":Str))=false:=by decide):PS X (.Try body [.ExceptHandler (some (.Name x np)) none (b₀::suite) hpos] [] [] pos) (tTry0 K D0 cs tb ts):=by
 subst hK;intro pins s U H D I h;obtain ⟨E,hm,h1,h2⟩:=h
 let W:Value->Shared->Prop:=λe s'=>∃(H' H1:Hp)(s1:Shared)(ea:Addr)(cls:Value)(dx:Option Addr),e = .ref ea/\Inv X pins U H' s'/\Fly2 s1.heap s'.heap H' ea cls dx/\Inv X pins U H1 s1/\E cls dx H'
 have ps:ZJ (y9 X.prog X.w) (X.tried (X.pn++pins) W) U E:=by intro p2 H1 s1 e s' I1 q;obtain ⟨ea,cls,dx,H',rfl,os,bare,un,hok,F,q⟩:=q;have I0:Inv X pins U H1 s1:=I1.untried I.ok;exact ⟨H',H1,s1,ea,cls,dx,rfl,I0.call' (ch:=[]) os un hok bare (λb z=>nomatch z),F,I0,q⟩
 refine wpAny_Try_except (wpAny_mono (hb E U _ W ps [] s H D (I.tried W) h1) (λf s1 q=>?_) λe s1 q=>?_)
 ·have q':=SP.untried I.ok q;cases f with
  |next=>exact wpAny_execs_nil q'
  |brk=>exact q'
  |cont=>exact q'
  |ret u=>exact q'
 obtain ⟨H',H1,s0,ea,cls,dx,rfl,I',F,I0,q⟩:=q;obtain ⟨c,hcs,rfl,hexm⟩:=hm cls dx H' q;have fr:=I'.stack;obtain ⟨T,a0,eT,e10,e11,_,fl⟩:=F.hid fr;have e12:=F.free;have apE:=I0.apart hex F.new;have apT:=I0.apart hex e11;have hS:∀ c∈[ea,T],H' c=none/\Vg X pins c:=λc hc=>by
  have z:c=ea∨c=T:=by simpa using hc
  rcases z with rfl|rfl
  ·exact ⟨e12,apE⟩
  ·exact ⟨e10,apT⟩
 have fr':X.A.frames=some (X.env::X.outer):=by rw [<- hst];exact I'.ok.frames
 rw [hst] at fl;refine KU (outer:=X.outer) fr' hf fl λh4 F4 up4=>JA F4 λh5 F5 up5=>?_;rw [<- hst] at F5;have up45:=Heap.UpToSlots.trans up4 up5;have K5:wN ([ea,T]++p8 X.stack) X.stack s1.heap h5:=Pg fr (by rw [hst] at F5 ⊢;exact F5.st) up45;have I5:=I'.flown hf hst hS K5;obtain ⟨oe5,vs5,T5,oT5,ts5,g1,g2,g2',g3,g4,gR⟩:=F5.ex;have J5:=I5.suite g1 e12 apE.loc apE.fs (λv z=>by rw [g4] at z;cases z);refine wpAny_handleBy_cons (codeAny_handlers_test (wn J5 hgx hmx ?_ hd)) (by intro z;cases z);have LT:Looks (model X.prog X.w) h5 (typeOf (.ref ea)) (.ref c):=g2▸(Looks.ld g1).andThen .now;refine (exm_one I5.kIn LT hexm).here ?_;refine codeAny_handlers_suite (JA F5 λh6 F6 up6=>?_);have K6:wN ([ea,T]++p8 X.stack) X.stack s1.heap h6:=Pg fr (by rw [hst] at F6 ⊢;exact F6.st) (Heap.UpToSlots.trans up45 up6);have I6:=I'.flown hf hst hS K6;obtain ⟨oe6,vs6,T6,oT6,ts6,k1,k2,k2',k3,k4,kR⟩:=F6.ex;have J6:=I6.suite k1 e12 apE.loc apE.fs (λv z=>by rw [k4] at z;cases z);have hrun:=hs _ ea oe6 vs6 c k2 k4 hcs (yt _ (by simp)) [] _ _ H' _ J6 (h2 c dx H' q);refine wpAny_mono hrun (λf s8 q8=>?_) (λ_ _ z=>z.elim);cases f with
 |next=>obtain ⟨σ8,H8,I8,q⟩:=q8;exact ⟨_,_,I8.unsuite I.ok,q⟩
 |brk=>obtain ⟨σ8,H8,I8,q⟩:=q8;exact ⟨_,_,I8.unsuite I.ok,q⟩
 |cont=>obtain ⟨σ8,H8,I8,q⟩:=q8;exact ⟨_,_,I8.unsuite I.ok,q⟩
 |ret u=>obtain ⟨v,σ8,H8,I8,r,q⟩:=q8;exact ⟨v,_,_,I8.unsuite I.ok,r,q⟩
end
end L2
namespace Mi
open PySem L2
def gIf (c:HB):Pk->ME->Option ME:=λk ε=>match c k ε with
 |some false=>some ε
 |_=>none
instance {C:Addr}{tt:TT}{t:TS}{c:HB}[sc:vz C tt c]:ZN C (vT tt t Zw) (gIf c) where
 h:=λ{k ε ε'} e _ _ _ _ _ r _ q=>by
  unfold gIf at e;split at e
  ·rename_i ec;cases e;exact sc.h ec r λHs1 H1 x1=>qf (q _ _ _ x1 (r.go x1))
  ·cases e
end Mi
namespace L2
open PySem PySem.Spec PySem.Calls PyProof.Rows PySem.W
def rNeD:R2:=λx y H Q=>∃ a b kvs,x = .ref a/\y = .ref b/\H a=some (.dK kvs)/\H b=some (.dK [])/\Q (.bl (!kvs.isEmpty)) H
theorem KV.nil_inv {vs:List (v3×Value)}(h:KV [] vs):vs=[]:=by cases h;rfl
theorem HV {X:Cx}(hu:X.A.units+6<cLine):OpR X (compareOp .NotEq) rNeD:=by
 intro pins s U H x y v u Q I rx ry h;obtain ⟨a,b,kvs,rfl,rfl,ha,hb,q⟩:=h;cases rx;cases ry;obtain ⟨_,n1,vs,kv,d1⟩:=(show ObjOk X.prog X.w H s.heap a (.dK kvs) from I.hok a _ ha);obtain ⟨_,n2,vs2,kv2,d2⟩:=(show ObjOk X.prog X.w H s.heap b (.dK []) from I.hok b _ hb);cases KV.nil_inv kv2;have e:=Ks kv;refine keq_ne (r:=true) n1 n2 d1 d2 (by omega) (λhl=>?_) ⟨.bl (!kvs.isEmpty),H,I,?_,q⟩
 ·obtain rfl:vs=[]:=uI.mp hl;exact .nil
 ·show Value.bool _=Value.bool _;rw [<- e];cases vs<;>rfl
end L2
namespace Mi
open PySem L2
def pNeD:PV->PV->Option PV
 | .dk ks _,.dk [] _=>some (.at (.bl (!ks.isEmpty)))
 |_,_=>none
instance:xy rNeD pNeD where
 h:=λ{x y z} e {Hs H v w} s r1 r2 {Q} q=>by
  unfold pNeD at e;split at e
  ·cases e;obtain ⟨a,kvs,rfl,h1,k1,_⟩:=jc s r1;obtain ⟨b,kvs2,rfl,h2,k2,_⟩:=jc s r2;obtain rfl:kvs2=[]:=List.map_eq_nil_iff.mp k2;refine ⟨a,b,kvs,rfl,rfl,h1,h2,q _ Hs H (.refl s) (rep_at.mpr ?_)⟩;rw [<- k1];cases kvs<;>rfl
  ·cases e
section
variable {C:Addr}{Hs0 H0 Hs H Hs' H':Hp}{U σ':St}{ε ε':ME}{k:Pk}
theorem RDH.open (rd:RD [] Hs0 H0 Hs H U ε)(no:∀(i:Nat)(y:PV),ε[i]?≠some (.ow y))(p:Pkt C Hs H k)(hx:Hs0 k.x=none)(hl:Hs0 k.l=none):RDH C Hs0 H0 Hs H U ε k:=by
 obtain ⟨v,vs,p1,p2,rn,rp⟩:=p.ex;refine ⟨p.ne,hx,hl,v,vs,⟨rd.s1,λb o h z=>?_,rd.s3,λb hb z=>?_,rd.sh,λi x hi=>absurd hi (no i x),rd.nd,rd.len,λa ha=>absurd ha yJ,λa ha=>absurd ha yJ,λa ha=>absurd ha yJ,rd.nb⟩,rn,rp⟩
 ·by_cases h1:b=k.x
  ·subst h1;rw [wF] at h;rw [<- h];exact p1
  ·by_cases h2:b=k.l
   ·subst h2;rw [wE p.ne] at h;rw [<- h];exact p2
   ·rw [zi h1 h2] at h;exact rd.s2 b o h z
 ·by_cases h1:b=k.x
  ·subst h1;exact p.hx
  ·by_cases h2:b=k.l
   ·subst h2;exact p.hl
   ·rw [zi h1 h2] at hb;exact rd.s4 b hb z
theorem RDH.close (r:RDH C Hs0 H0 Hs H U ε k)(hx:H0 k.x=none)(hl:H0 k.l=none):RD [] Hs0 H0 Hs H U ε:=by
 obtain ⟨v,vs,rd,_⟩:=r.ex;have up:∀ b,H0 b≠none->b≠k.x/\b≠k.l:=λb hb=>⟨λz=>hb (by rw [z];exact hx),λz=>hb (by rw [z];exact hl)⟩;refine ⟨rd.s1,λb o h z=>?_,rd.s3,λb hb z=>?_,rd.sh,λi x hi=>?_,rd.nd,rd.len,λa ha=>absurd ha yJ,λa ha=>absurd ha yJ,λa ha=>absurd ha yJ,rd.nb⟩
 ·have u:=up b (by rw [h];exact λz=>nomatch z);exact rd.s2 b o (by rw [zi u.1 u.2];exact h) z
 ·have u:=up b hb;exact rd.s4 b (by rw [zi u.1 u.2];exact hb) z
 ·obtain ⟨a,ha,m0,m1,t⟩:=rd.ow i x hi;have m0:=m0.resolve_right yJ;refine ⟨a,ha,.inl ?_,m1,t⟩;by_cases h1:a=k.x
  ·rw [h1];exact hx
  ·by_cases h2:a=k.l
   ·rw [h2];exact hl
   ·rw [zi h1 h2] at m0;exact m0
theorem Pkt.junk (p:Pkt C Hs H k){b:Addr}{o:HO}(h1:b≠k.x)(h2:b≠k.l)(hb:Hs b=none):Pkt C Hs (z7 H b o) k:=by obtain ⟨v,vs,p1,p2,rn,rp⟩:=p.ex;exact ⟨λc u e=>by rw [z6 (y0 e hb)];exact p.sm _ _ e,p.ne,p.hx,p.hl,v,vs,by rw [z6 (Ne.symm h1)];exact p1,by rw [z6 (Ne.symm h2)];exact p2,rn,rp⟩
end
def wEx (g:List Int->MA):WA:=λε Q=>∃ ns,wIp (g ns) ε Q
instance {ti:TI}{g:List Int->MA}[s:∀ ns,zC ti (g ns)]:SemWI ti (wEx g) where
 h:=λ⟨ns,xs,e,q⟩ _ _ _ _ _ _ r _ k=>(s ns).h e r.rs λJ Hs' H' x ok=>k xs _ J Hs' H' q (r.go x) x.s1 ok
open Classical in
noncomputable def ZZ (K:Fg)(i:Nat)(b:M)(ns:List Int):M:=λε=>if ε[i]?=some (.sh (scr K ns)) then (b ε).bind λy=>match y with
 | .lst ys=>if ns.length+ys.length<=1000 then some (.lst (ns.map (λn=> .at (.int n))++ys)) else none
 |_=>none else none
instance {K:Fg}{i:Nat}{tb:TE}{b:M}{ns:List Int}[sb:SemE tb b]:SemE (tOp (Wj K) (b9 i) tb) (ZZ K i b ns) where
 h:=λ{ε y} e Hs0 H0 Hs H U rs Q q=>by
  unfold ZZ at e;split at e
  ·rename_i hi;obtain ⟨z,ez,e⟩:=bind_some e;split at e
   ·rename_i ys;split at e
    ·rename_i hl;cases e;obtain ⟨v,hv,rv⟩:=rs.sh i _ hi;refine ⟨v,hv,sb.h ez rs λw Hs1 H1 x1 r1=>?_⟩;obtain ⟨a,rfl,hS⟩:=BX x1.s3 (rv.mono x1.s1);obtain ⟨p,vs,rfl,hp,rp⟩:=rep_lst.mp r1;have lv:=rp.length;have em:ns.map (λn=>PV.at (.int n))=(ns.map V.int).map .at:=by rw [yq];rfl
     refine .inr (.inr (.inl ⟨a,p,ns.map V.int,vs,rfl,rfl,hS,SqL.of (x1.s3 _ _ hp),?_,λl hl'=>q _ _ _ (x1.trans (.new x1.s3 hl')) (rep_lst.mpr ⟨l,_,rfl,j9,?_⟩)⟩))
     ·exact yb (jF (by rw [yZ];omega))
     ·rw [em];exact (Reps.ofAts (ns.map V.int)).append (rp.mono (Ext.new x1.s3 hl').s1)
    ·cases e
   ·cases e
  ·cases e
end Mi
namespace Mi
open PySem L2
def PY (f:M):WS:=λε N _=>∃(l:List PV)(xs:List PV),f ε=some (.lst (.lst l::xs))/\l.length<=lim/\N ε
instance {K:Fg}{te:TE}{f:M}{v:V}[so:SemZE te f]:SemWS (xi (tBM K "list" Xd (tOp (rIx K) te (tC (.int 0))) (o5 (tC v) qF))) (PY f) where
 h:=λ⟨l,xs,e,hl,h⟩ _ _ _ _ _ _ rd _ k _=>so.h e rd.rs λa ps Hs1 H1 x1 d ez=>by
  cases ps with
  |nil=>cases ez
  |cons p ps=>rw [yI] at ez;injection ez with e1 e2;have t:=d.each p yU;rw [<- e1] at t;obtain ⟨vs,hv,rv⟩:=t;have np:=d.new p.1 (yS _ yU);exact .inl ⟨a,_,0,.ref p.1,rfl,rfl,SqL.of d.top,xz (j:=0) rfl,.inl ⟨rfl,vs,SqL.of hv⟩,p.1,vs,v,rfl,rfl,hv,vL (by rw [rv.length];exact hl),k _ _ _ _ h (rd.fresh x1 np.1 np.2) x1.s1⟩
end Mi
namespace Lw
open PySem L2 Mi
variable{rss:List (List Int)}{g h j:Nat}{α:Type}{a b:M}{H:Hp}{l n:Int}{r:List Int}{vs:List V}{Q:VK}{E:XK}{m:List PV->Option PV}{ε:ME}{E4 Ef En Q9:Tok}{Aa Ab Ac Ad Ae Af Ag Ah Ai Ak Ap C CC CH CM CN CND CNT CS CT fI:Addr}{R:PV->Pk->ME->Prop}{nm p0 p1 p2 p3 q s x:Str}{t y z:PV}{xs zs:List PV}{ks:List v3}{as:HA}{u:V}{ps:List Str}{v:Bool}{N:Pk->ME->Prop}{st:Stmt}{cd ct dc oc pm:Value}{an od:Option Addr}{sl:Array (Option Value)}{sp:Sp}
variable {P:Program}{w:World}{K:Fg}{mg:Str->Option Value}{base:Heap}{f:Addr}{fd:FuncData}
theorem l0:0<=lim:=by decide
theorem l1:1<=lim:=by decide
theorem l2:2<=lim:=by decide
theorem l3:3<=lim:=by decide
theorem l4:4<=lim:=by decide
theorem l5:5<=lim:=by decide
theorem l6:6<=lim:=by decide
theorem l7:7<=lim:=by decide
theorem l8:8<=lim:=by decide
theorem l9:9<=lim:=by decide
structure xw (h:Nat)(rss:List (List Int)):Prop where
 len:rss.length=h+1
 row:∀ r∈rss,r.length=h/\∀ v∈r,0<=v/\v<10 ^ 30
def rin (rss:List (List Int))(f g:Int):Int:=((atI rss f).bind λr=>atI r g).getD 0
def ji (rss:List (List Int)):Int->List Int->Int
 |_,[]=>0
 |f,h::r=>rin rss f h+ji rss h r
theorem BS (e:rss.length=h+1)(g:Int):rin rss (-1) g=rin rss (h:Int) g:=by
 unfold rin atI;rw [e];have e1:ixN (h+1) (-1)=some h:=by
  unfold ixN;rw [if_neg (by decide),if_pos (by omega)]
  congr 1
  omega
 have e2:ixN (h+1) (h:Int)=some h:=by
  unfold ixN;rw [if_pos (by omega),if_pos (by omega)]
  congr 1
 rw [e1,e2]
abbrev Wy:=Int×List Int
variable{T:List (List Wy)}{onw ws:List Wy}
def jv (a b:Wy):Wy:=if b.1<a.1 then b else a
def zU (a b:Wy):Wy:=(a.1+b.1,a.2++b.2)
def thr (ws:List Wy)(k:Nat)(onw:List Wy):List Wy:=List.zipWith (λw m=>jv w (zU (ws.getD k (0,[])) m)) ws onw
def xq (T:List (List Wy))(k:Nat):List (List Wy):=T.map λrow=>thr row k (T.getD k [])
def jf (row:List Int):List Wy:=row.mapIdx λi v=>(v,[(i:Int)])
def qd (rss:List (List Int)):Nat->List (List Wy)
 |0=>rss.map jf
 |k+1=>xq (qd rss k) k
def y6 (T:List (List Wy))(f g:Nat):Wy:=(T.getD f []).getD g (0,[])
def vb (rss:List (List Int))(h:Nat):List (List Int):=(qd rss h).map λrow=>row.map (·.1)
structure Shp (h:Nat)(T:List (List Wy)):Prop where
 len:T.length=h+1
 row:∀ r∈T,r.length=h
theorem qe {l:List α}{i:Nat}{d:α}(h:i<l.length):l.getD i d=l[i]:=by rw [uE,yz h];rfl
theorem Shp.rowAt (S:Shp h T){f:Nat}(hf:f<=h):(T.getD f []).length=h:=by
 have hl:f<T.length:=by have:=S.len;omega
 rw [qe hl];exact S.row _ (yp hl)
theorem Py {k:Nat}(h:ws.length=onw.length):(thr ws k onw).length=ws.length:=by unfold thr;rw [List.length_zipWith,h,Nat.min_self]
theorem Shp.step (S:Shp h T){k:Nat}(hk:k<h):Shp h (xq T k):=by refine ⟨by unfold xq;rw [yZ];exact S.len,λr hr=>?_⟩;unfold xq at hr;obtain ⟨row,hm,rfl⟩:=yw.mp hr;have e1:=S.row row hm;rw [Py (by rw [e1,S.rowAt (by omega)]),e1]
theorem Qs (S:Shp h T){k f:Nat}(hk:k<h)(hf:f<=h)(hg:g<h):y6 (xq T k) f g=jv (y6 T f g) (zU (y6 T f k) (y6 T k g)):=by
 have hl:f<T.length:=by have:=S.len;omega
 have hl2:f<(xq T k).length:=by unfold xq;rw [yZ];exact hl
 have e1:(xq T k).getD f []=thr (T.getD f []) k (T.getD k []):=by unfold xq;rw [qe (by rw [yZ];exact hl),List.getElem_map,qe hl]
 have r1:=S.rowAt hf;have r2:=S.rowAt (f:=k) (by omega);unfold y6;rw [e1,qe (by rw [Py (by rw [r1,r2])];omega),qe (l:=T.getD f []) (i:=g) (by omega),qe (l:=T.getD k []) (i:=g) (by omega)];unfold thr;rw [List.getElem_zipWith]
theorem Shp.start (G:xw h rss):Shp h (qd rss 0):=by refine ⟨by show (rss.map jf).length=_;rw [yZ];exact G.len,λr hr=>?_⟩;obtain ⟨row,hm,rfl⟩:=yw.mp hr;unfold jf;rw [List.length_mapIdx];exact (G.row row hm).1
theorem Shp.all {h:Nat}{rss:List (List Int)}(G:xw h rss):∀ k,k<=h->Shp h (qd rss k)
 |0,_=>Shp.start G
 |k+1,hk=>(Shp.all G k (by omega)).step (by omega)
theorem Zp (G:xw h rss){f:Nat}(hf:f<=h)(hg:g<h):rin rss (f:Int) (g:Int)=(rss.getD f []).getD g 0:=by
 have hl:f<rss.length:=by have:=G.len;omega
 have e1:atI rss (f:Int)=some rss[f]:=xz (yz hl);have hg2:g<rss[f].length:=by rw [(G.row _ (yp hl)).1];exact hg
 have e2:atI rss[f] (g:Int)=some rss[f][g]:=xz (yz hg2);unfold rin;rw [e1];show (atI rss[f] (g:Int)).getD 0=_;rw [e2,qe hl,qe hg2];rfl
theorem Jb (G:xw h rss){f:Nat}(hf:f<=h)(hg:g<h):y6 (qd rss 0) f g=(rin rss (f:Int) (g:Int),[(g:Int)]):=by
 have hl:f<rss.length:=by have:=G.len;omega
 have hl2:f<(rss.map jf).length:=by rw [yZ];exact hl
 have hg2:g<rss[f].length:=by rw [(G.row _ (yp hl)).1];exact hg
 rw [Zp G hf hg];unfold y6;show ((rss.map jf).getD f []).getD g (0,[])=_;rw [qe hl2,List.getElem_map,qe (by unfold jf;rw [List.length_mapIdx];exact hg2),qe hl,qe hg2];unfold jf;rw [List.getElem_mapIdx]
theorem Ti (G:xw h rss){f:Nat}(hf:f<=h)(hg:g<h):0<=rin rss (f:Int) (g:Int):=by
 have hl:f<rss.length:=by have:=G.len;omega
 have hg2:g<rss[f].length:=by rw [(G.row _ (yp hl)).1];exact hg
 rw [Zp G hf hg,qe hl,qe hg2];exact ((G.row _ (yp hl)).2 _ (yp hg2)).1
theorem Cb {rss:List (List Int)}:∀{xs ys:List Int}{f g:Int},xs.getLast?=some g->ji rss f (xs++ys)=ji rss f xs+ji rss g ys
 |[],_,_,_,e=>by simp at e
 |[x],ys,f,g,e=>by
  have e':x=g:=by simpa using e
  subst e';show rin rss f x+ji rss x ys=rin rss f x+0+ji rss x ys;omega
 |x::y::r,ys,f,g,e=>by
  have q:=Cb (rss:=rss) (xs:=y::r) (ys:=ys) (f:=x) (g:=g) (by simpa [List.getLast?_cons_cons] using e);show rin rss f x+ji rss x (y::r++ys)=rin rss f x+ji rss x (y::r)+ji rss g ys;rw [q];omega
structure WayOk (rss:List (List Int))(h:Nat)(f g:Nat)(w:Wy):Prop where
 sum:w.1=ji rss (f:Int) w.2
 last:w.2.getLast?=some (g:Int)
 ok:∀ x∈w.2,0<=x/\x<(h:Int)
structure FW (rss:List (List Int))(h k:Nat)(T:List (List Wy)):Prop where
 way:∀ f g,f<=h->g<h->WayOk rss h f g (y6 T f g)
 pos:∀ f g,f<=h->g<h->0<=(y6 T f g).1
 le:∀ f g,f<=h->g<h->(y6 T f g).1<=rin rss (f:Int) (g:Int)
 tri:∀ j f g,j<k->f<=h->g<h->(y6 T f g).1<=(y6 T f j).1+(y6 T j g).1
 len:∀ f g,f<=h->g<h->(y6 T f g).2.length<=2 ^ k
theorem QF (a b:Wy):(jv a b=a/\a.1<=b.1)∨(jv a b=b/\b.1<a.1):=by
 unfold jv;by_cases h:b.1<a.1
 ·rw [if_pos h];exact .inr ⟨rfl,h⟩
 ·rw [if_neg h];exact .inl ⟨rfl,by omega⟩
theorem LK (a b:Wy):(jv a b).1<=a.1/\(jv a b).1<=b.1:=by
 rcases QF a b with ⟨e,q⟩|⟨e,q⟩
 ·rw [e];exact ⟨uy _,q⟩
 ·rw [e];exact ⟨Int.le_of_lt q,uy _⟩
theorem WayOk.join {f k:Nat}{a b:Wy}(x:WayOk rss h f k a)(y:WayOk rss h k g b):WayOk rss h f g (zU a b):=by
 refine ⟨?_,?_,λz hz=>?_⟩
 ·show a.1+b.1=ji rss f (a.2++b.2);rw [Cb x.last,x.sum,y.sum]
 ·show (a.2++b.2).getLast?=_;rw [List.getLast?_append,y.last];rfl
 ·rcases yy.mp hz with q|q
  ·exact x.ok z q
  ·exact y.ok z q
theorem FW.start (G:xw h rss):FW rss h 0 (qd rss 0):=by
 refine ⟨λf g hf hg=>?_,λf g hf hg=>?_,λf g hf hg=>?_,λj f g hj=>absurd hj (by omega),λf g hf hg=>?_⟩
 ·rw [Jb G hf hg];refine ⟨?_,rfl,λx hx=>?_⟩
  ·show rin rss f g=rin rss f g+0;omega
  ·have e:x=(g:Int):=by simpa using hx
   rw [e];omega
 ·rw [Jb G hf hg];exact Ti G hf hg
 ·rw [Jb G hf hg];exact uy _
 ·rw [Jb G hf hg];exact yT 1
theorem FW.step {k:Nat}(S:Shp h T)(x:FW rss h k T)(hk:k<h):FW rss h (k+1) (xq T k):=by
 have kl:k<=h:=by omega
 have toK:∀ f,f<=h->(y6 (xq T k) f k).1=(y6 T f k).1:=λf hf=>by
  rw [Qs S hk hf hk];rcases QF (y6 T f k) (zU (y6 T f k) (y6 T k k)) with ⟨e,q⟩|⟨e,q⟩
  ·rw [e]
  ·have p:=x.pos k k kl hk;have q':(y6 T f k).1+(y6 T k k).1<(y6 T f k).1:=q;omega
 have ofK:∀ g,g<h->(y6 (xq T k) k g).1=(y6 T k g).1:=λg hg=>by
  rw [Qs S hk kl hg];rcases QF (y6 T k g) (zU (y6 T k k) (y6 T k g)) with ⟨e,q⟩|⟨e,q⟩
  ·rw [e]
  ·have p:=x.pos k k kl hk;have q':(y6 T k k).1+(y6 T k g).1<(y6 T k g).1:=q;omega
 have bound:∀ f g,f<=h->g<h->(y6 (xq T k) f g).1<=(y6 T f g).1/\(y6 (xq T k) f g).1<=(y6 T f k).1+(y6 T k g).1:=λf g hf hg=>by
  rw [Qs S hk hf hg];exact LK _ _
 have alt:∀ f g,f<=h->g<h->(y6 (xq T k) f g).1=(y6 T f g).1∨(y6 (xq T k) f g).1=(y6 T f k).1+(y6 T k g).1:=λf g hf hg=>by
  rw [Qs S hk hf hg];rcases QF (y6 T f g) (zU (y6 T f k) (y6 T k g)) with ⟨e,q⟩|⟨e,q⟩
  ·rw [e];exact .inl rfl
  ·rw [e];exact .inr rfl
 refine ⟨λf g hf hg=>?_,λf g hf hg=>?_,λf g hf hg=>Int.le_trans (bound f g hf hg).1 (x.le f g hf hg),λj f g hj hf hg=>?_,λf g hf hg=>?_⟩
 ·rw [Qs S hk hf hg];rcases QF (y6 T f g) (zU (y6 T f k) (y6 T k g)) with ⟨e,_⟩|⟨e,_⟩
  ·rw [e];exact x.way f g hf hg
  ·rw [e];exact (x.way f k hf hk).join (x.way k g kl hg)
 ·rcases alt f g hf hg with e|e
  ·rw [e];exact x.pos f g hf hg
  ·rw [e];have p1:=x.pos f k hf hk;have p2:=x.pos k g kl hg;omega
 ·by_cases hjk:j=k
  ·subst hjk;rw [toK f hf,ofK g hg];exact (bound f g hf hg).2
  ·have hj':j<k:=by omega
   have jl:j<=h:=by omega
   have jh:j<h:=by omega
   have b:=bound f g hf hg;have t1:=x.tri j f g hj' hf hg;have t2:=x.tri j f k hj' hf hk;have t3:=x.tri j k g hj' kl hg;have t4:=x.pos k j kl jh;have t5:=x.pos j k jl hk;rcases alt f j hf jh with e1|e1<;>rcases alt j g jl hg with e2|e2<;>rw [e1,e2]<;>omega
 ·rw [Qs S hk hf hg];have e:2 ^ (k+1)=2 ^ k+2 ^ k:=by rw [Nat.pow_succ];omega
  rcases QF (y6 T f g) (zU (y6 T f k) (y6 T k g)) with ⟨q,_⟩|⟨q,_⟩
  ·rw [q];have:=x.len f g hf hg;omega
  ·rw [q];have a1:=x.len f k hf hk;have a2:=x.len k g kl hg;show ((y6 T f k).2++(y6 T k g).2).length<=_;rw [yL];omega
theorem FW.all {h:Nat}{rss:List (List Int)}(G:xw h rss):∀ k,k<=h->FW rss h k (qd rss k)
 |0,_=>FW.start G
 |k+1,hk=>FW.step (Shp.all G k (by omega)) (FW.all G k (by omega)) (by omega)
theorem VQ (G:xw h rss):xw h (vb rss h):=by
 have S:=Shp.all G h (yT _);have F:=FW.all G h (yT _);refine ⟨by unfold vb;rw [yZ];exact S.len,λr hr=>?_⟩;unfold vb at hr;obtain ⟨row,hm,rfl⟩:=yw.mp hr;refine ⟨by rw [yZ];exact S.row row hm,λv hv=>?_⟩;obtain ⟨w,hw,rfl⟩:=yw.mp hv;obtain ⟨f,hf,rfl⟩:=uH hm;obtain ⟨g,hg,rfl⟩:=uH hw;have hf':f<=h:=by have:=S.len;omega
 have hg':g<h:=by rw [<- S.row _ hm];exact hg
 have e:y6 (qd rss h) f g=(qd rss h)[f][g]:=by unfold y6;rw [qe hf,qe hg]
 have p:=F.pos f g hf' hg';have l:=F.le f g hf' hg';rw [e] at p l;refine ⟨p,Int.lt_of_le_of_lt l ?_⟩;have hl:f<rss.length:=by have:=G.len;omega
 have hg2:g<rss[f].length:=by rw [(G.row _ (yp hl)).1];exact hg'
 rw [Zp G hf' hg',qe hl,qe hg2];exact ((G.row _ (yp hl)).2 _ (yp hg2)).2
theorem KS {α:Type}[DecidableEq α]:∀{ms left:List α},ms.Nodup->(∀ x∈ms,x∈left)->ms.length<=left.length
 |[],_,_,_=>yd _
 |x::r,left,hn,hs=>by
  have hn':=ym.mp hn;have q:=KS (ms:=r) (left:=left.erase x) hn'.2 (λy hy=>(List.mem_erase_of_ne (λe=>hn'.1 (by rw [e] at hy;exact hy))).mpr (hs y (yS _ hy)));have hx:=hs x yU;rw [List.length_erase_of_mem hx] at q;have pos:0<left.length:=List.length_pos_of_mem hx;show r.length+1<=_;omega
def top (i:Nat):Stmt:=PySem.Challenge.pw_rinsework_k84_house_keeps_its_own.main.body.getD i (.Pass ⟨0,0,0,0⟩)
abbrev Yo:Stmt:=top 52
abbrev JT:Stmt:=top 53
abbrev Yu:Stmt:=top 54
theorem Yy {p:Addr}(h:H p=none)(o:HO):Same H (z7 H p o):=λb u q=>by rw [z6 (y0 q h)];exact q
theorem sizes {n:Nat}(h:n<=1000):n<=sizeLine:=yb (jF h)
def JV:Sp:=λvs H Q _=>∃ c k:Int,vs=[.int c,.int k]/\0<=k/\k<=100/\∀ v:Int,0<=v->v<2147483648->Q (.int v) H
def Pf (K:Fg):Sp:=λvs H Q _=>∃(a:Addr)(ns:List Int)(k:Int),vs=[.ref a,.int k]/\SqL K H a (ns.map V.int)/\ns.length<=63/\0<=k/\k<=12 /\
 ∀(r:Addr)(n:Int)(H':Hp),H r=none->Same H H'->H' r=some (.lst [.int n])->Q (.ref r) H'
section
theorem sc_take:v4 ["stream","many","digit"] ["stream","many"] (j3 Yu):=y3
theorem HH (F:Fun K "_law_take" "_law_take" Yu f fd):FnOk P w K mg base v5 1 f fd ["stream","many"] Xf:=by
 refine F.ok sc_take (λvs H Q E h=>?_) (λcdv A outer s H vs Q E hr h=>?_)
 ·obtain ⟨a,n,m,rfl,_⟩:=h;rfl
 obtain ⟨a,n,m,rfl,hH,hm,q⟩:=h;refine ⟨_,(j0 (qh (i:=2) sc_take.nd rfl (Or.inl rfl) (v7 zX (JI (VM (K:=K) rfl) (pv 0) z8 (λ_ _=>rfl)) (pv 1)))
  (j0 (JN (v7 Bb (JI (VM (K:=K) rfl) (pv 0) z8 (λ_ _=>rfl)) (pv 1)) (Rr (pv 0) z8 Sr))
  (j6 (w6 (pv 2))))),?_⟩
 refine ⟨_,rfl,a,_,0,_,rfl,rfl,SqL.of hH,rfl,_,rfl,n,m,rfl,rfl,hm.1,?_⟩;refine ⟨_,rfl,a,_,0,_,rfl,rfl,SqL.of hH,rfl,_,rfl,n,m,rfl,rfl,hm,?_⟩;refine ⟨_,rfl,a,_,0,0,rfl,rfl,hH,rfl,?_⟩;exact ⟨_,rfl,q⟩
theorem sc_mixed:v4 ["cell","k","one"] ["cell","k"] (j3 Yo):=y3
theorem Hv (F:Fun K "_law_mixed" "_law_mixed" Yo f fd):FnOk P w K mg base v5 1 f fd ["cell","k"] JV:=by
 refine F.ok sc_mixed (λvs H Q E h=>?_) (λcdv A outer s H vs Q E hr h=>?_)
 ·obtain ⟨c,k,rfl,_⟩:=h;rfl
 obtain ⟨c,k,rfl,k0,k1,q⟩:=h;refine ⟨_,(j0 (qh (i:=2) sc_mixed.nd rfl (Or.inl rfl) (v7 zX (v7 vP (v7 op_add (v7 op_add (v7 zX (pv 0) z8) (v7 vP z8 (pv 1))) z8) z8) z8))
  (j6 (w6 (v7 zX (v7 vP (v7 zX (v7 vP (pv 2) (pv 2)) z8) z8) z8)))),?_⟩
 refine ⟨_,rfl,_,_,rfl,rfl,(by show (0:Int)<1000000007;decide),_,rfl,_,_,rfl,rfl,.inl ⟨by decide,by decide⟩,_,_,rfl,rfl,_,_,rfl,rfl,_,_,rfl,rfl,.inr ⟨by decide,by decide⟩,_,_,rfl,rfl,(by show (0:Int)<2147483647;decide),?_⟩;generalize hone:(c % 1000000007+7919*k+101)*48271 % 2147483647=one;have o0:0<=one:=by rw [<- hone];exact yr _ (by decide)
 have o1:one<2147483647:=by rw [<- hone];exact yv _ (by decide)
 refine ⟨_,rfl,_,rfl,_,_,rfl,rfl,.inl ⟨by omega,by omega⟩,_,_,rfl,rfl,(by show (0:Int)<2147483629;decide),_,_,rfl,rfl,.inr ⟨by decide,by decide⟩,_,_,rfl,rfl,(by show (0:Int)<2147483647;decide),?_⟩;exact q _ (yr _ (by decide)) (Int.lt_trans (yv _ (by decide)) (by decide))
end
def MM:Int:=10 ^ (60:Int).toNat
theorem Qn:jm 10 60:=⟨by decide,by decide,by decide⟩
theorem Vr:jm 10 18:=⟨by decide,by decide,by decide⟩
theorem Qj:Builtin.Int.intBits MM<=2 ^ 20:=by decide +kernel
def M2:Int:=MM*MM
theorem Xq:0<M2:=by decide +kernel
theorem CQ:Builtin.Int.intBits M2<=2 ^ 20:=by decide +kernel
theorem Sx {M c r:Int}{i:Nat}(hM:0<M)(h0:0<=c)(h:c<M ^ i)(r0:0<=r)(r1:r<M):0<=c*M+r/\c*M+r<M ^ (i+1):=by
 have e:M ^ (i+1)=M ^ i*M:=Int.pow_succ M i;have h1:(c+1)*M<=M ^ i*M:=Int.mul_le_mul_of_nonneg_right (by omega) (Int.le_of_lt hM);have h2:(c+1)*M=c*M+M:=by rw [Int.add_mul,Int.one_mul]
 have h3:0<=c*M:=Int.mul_nonneg h0 (Int.le_of_lt hM);rw [e];omega
theorem CD:∀ i:_root_.Fin 8,(M2 ^ (i:Nat)).toNat<2 ^ 2800:=by decide +kernel
theorem Gk {c:Int}{i:Nat}(hi:i<=7)(h0:0<=c)(h:c<M2 ^ i):Builtin.Int.intBits c<=2 ^ 20:=by
 obtain ⟨n,rfl⟩:=uW h0;have q:=CD ⟨i,by omega⟩;have q2:n<2 ^ 2800:=by have q':(M2 ^ i).toNat<2 ^ 2800:=q;omega
 exact ye (PyProof.Rows.intBits_le (by rw [Int.natAbs_natCast];exact q2)) (by decide)
theorem Tl:∀ i:_root_.Fin 13,∀ j:_root_.Fin 64,Builtin.Range.small ((i:Nat):Int) ((j:Nat):Int) 12=true:=by decide +kernel
theorem Wn {i j:Int}:Builtin.Range.rangeSize i j 12=if i<j then (j-i-1) / 12+1 else 0:=rfl
theorem Tk {i j:Int}(h0:0<=i)(h1:i<=12)(h2:0<=j)(h3:j<=63):0<=Builtin.Range.rangeSize i j 12/\Builtin.Range.small i j 12=true/\vm i j 12<=6/\∀ t:Nat,t<vm i j 12->i+t*12<j:=by
 refine ⟨?_,?_,?_,λt ht=>?_⟩
 ·rw [Wn];split<;>omega
 ·have q:=Tl ⟨i.toNat,by omega⟩ ⟨j.toNat,by omega⟩;have e1:((i.toNat:Nat):Int)=i:=by omega
  have e2:((j.toNat:Nat):Int)=j:=by omega
  have q':Builtin.Range.small ((i.toNat:Nat):Int) ((j.toNat:Nat):Int) 12=true:=q;rw [e1,e2] at q';exact q'
 ·unfold vm;rw [Wn];split<;>omega
 ·unfold vm at ht;rw [Wn] at ht;split at ht<;>omega
theorem CL {ns:List Int}{k:Int}(h0:0<=k)(h:k<(ns.length:Int)):∃ v:Int,atI (ns.map V.int) k=some (.int v):=by
 have hk:k.toNat<ns.length:=by omega
 have ek:k=((k.toNat:Nat):Int):=by omega
 have q:atI (ns.map V.int) ((k.toNat:Nat):Int)=some (.int ns[k.toNat]):=xz (by rw [yK,yz hk]<;>rfl);rw [<- ek] at q;exact ⟨_,q⟩
section
theorem sc_stream:v4 ["script","k","cell","j","found"] ["script","k"] (j3 JT):=y3
theorem HF (F:Fun K "_law_stream" "_law_stream" JT f fd)(Eg:Fn P w K mg base 1 "_law_mixed" ["cell","k"] JV)(Ax:mg "len"=none)(A7:mg "range"=none)(S0:mg "sum"=none):FnOk P w K mg base v5 2 f fd ["script","k"] (Pf K):=by
 refine F.ok sc_stream (λvs H Q E h=>?_) (λcdv A outer s H vs Q E hr h=>?_)
 ·obtain ⟨a,ns,k,rfl,_⟩:=h;rfl
 obtain ⟨a,ns,k,rfl,hS,h63,k0,k1,q⟩:=h;refine ⟨_,(j0 (qh (i:=2) sc_stream.nd rfl (Or.inl rfl) z8)
  (j0 (vk PassesOwn.never rfl (Rv rfl A7 (j8 (pv 1) (j8 (i8 (Gu (K:=K) rfl) rfl Ax PySem.boot_len (j8 (pv 0) y2)) (j8 z8 y2)))) (r9 (i:=3) sc_stream.nd rfl (Or.inl rfl))
   (j6 (qh (i:=2) sc_stream.nd rfl (Or.inl rfl) (v7 op_add (v7 Zc (pv 2) (v7 Zc (v7 zY z8 z8) (v7 zY z8 z8))) (v7 zX (JI (VM (K:=K) rfl) (pv 0) (pv 3) (λ_ _=>rfl)) (v7 Zc (v7 zY z8 z8) (v7 zY z8 z8)))))))
  (j0 (c9 (i5 QQ (pv 2) (v7 zY z8 z8) (c5 _)) (j6 (w6 (qg (j8 (pv 2) y2)))) m4)
  (j0 (qh (i:=2) sc_stream.nd rfl (Or.inl rfl) (v7 op_add (pv 2) (i8 (Dy (K:=K) rfl rfl) rfl S0 CZ (j8 (xG (N':=["one"]) (cap:=[none]) (qz rfl rfl rfl) rfl (xc (K:=K) rfl (pv 0)) (λ_ _ _ _ _ _=>(r9 (i:=0) (by show (["one"]:List Str).Nodup;decide +kernel) rfl (Or.inl rfl))) (λ_ _ _ _ _ _=>qK) (λ_ _ _ _ _ _=>(v7 zX (pv 0) (v7 zY z8 z8)))) y2))))
  (j0 (qh (i:=4) sc_stream.nd rfl (Or.inl rfl) z8)
  (j0 (vk PassesOwn.never rfl (QZ rfl A7 (j8 z8 y2)) (r9 (i:=3) sc_stream.nd rfl (Or.inl rfl))
   (j6 (qh (i:=4) sc_stream.nd rfl (Or.inl rfl) (v7 op_add (v7 vP (pv 4) z8) (qT Eg hr (by decide) rfl (j8 (v7 op_add (v7 op_add (pv 2) (v7 vP z8 (pv 1))) (i8 (Gu (K:=K) rfl) rfl Ax PySem.boot_len (j8 (pv 0) y2))) (j8 (pv 3) y2)))))))
  (j6 (w6 (qg (j8 (pv 4) y2)))))))))),?_⟩
 have hl:(((ns.map V.int).length:Nat):Int)=(ns.length:Int):=by rw [yZ]
 obtain ⟨z1,z2,z3,z4⟩:=Tk (i:=k) (j:=(((ns.map V.int).length:Nat):Int)) k0 k1 (by omega) (by omega);refine ⟨_,rfl,_,rfl,a,_,rfl,.inl hS,k,_,12,rfl,⟨by decide,by decide⟩,z1,z2,Mg (λi U H2=>∃(c:Int)(j:Option V),U=[some (.ref a),some (.int k),some (.int c),j,none]/\H2=H/\0<=c/\c<M2 ^ i)
  ⟨0,none,rfl,rfl,uy 0,by decide⟩ ?_ ?_⟩
 ·rintro i U H2 hi ⟨c,j,rfl,rfl,c0,c1⟩;obtain ⟨v,hv⟩:=CL (ns:=ns) (k:=k+i*12) (by omega) (by have:=z4 i hi;omega);refine ⟨_,rfl,_,_,rfl,rfl,Qn,_,_,rfl,rfl,Qn,_,_,rfl,rfl,⟨Qj,Qj⟩,_,_,rfl,rfl,⟨Gk (by omega) c0 c1,CQ⟩,_,rfl,_,rfl,a,_,_,_,rfl,rfl,hS,hv,
   _,_,rfl,rfl,Qn,_,_,rfl,rfl,Qn,_,_,rfl,rfl,⟨Qj,Qj⟩,_,_,rfl,rfl,Xq,_,_,rfl,rfl,?_⟩
  have sb:=Sx (i:=i) Xq c0 c1 (yr v (Ne.symm (Int.ne_of_lt Xq))) (yv v Xq);exact ⟨_,_,rfl,rfl,sb.1,sb.2⟩
 ·rintro U H2 ⟨c,j,rfl,rfl,c0,c1⟩;refine ⟨_,rfl,_,_,rfl,rfl,Vr,_,_,rfl,rfl,_,rfl,ite2 (λ_=>?_) (λ_=>?_)⟩
  ·refine ⟨_,rfl,(by show 1<=sizeLine;decide),λp hp=>?_⟩;exact q p c _ hp (Yy hp _) j9
  ·refine ⟨_,rfl,_,rfl,a,rfl,⟨_,hS⟩,DB (K:=K) (a:=a) (xs:=ns.map V.int) (λi ys H3=>H3=H2/\∃ ms:List Int,ys=ms.map V.int/\ms.length=i) ⟨rfl,[],rfl,rfl⟩ ?_ ?_ ?_ ?_⟩
   ·rintro i ys H3 hi ⟨_,ms,rfl,rfl⟩;rw [yZ] at hi ⊢;exact sizes (by omega)
   ·rintro i ys H3 hi ⟨rfl,_⟩;exact hS
   ·rintro i x ys H3 R hx ⟨rfl,ms,rfl,rfl⟩ hR;rw [yK] at hx;obtain ⟨v,hv,rfl⟩:=yx.mp hx;refine ⟨Wk.one rfl,⟨_,rfl,_,_,rfl,rfl,Vr,_,_,rfl,rfl,(by show (0:Int)<10 ^ (18:Int).toNat;decide),?_⟩⟩;exact hR _ _ ⟨rfl,ms++[_],by rw [yE];rfl,by rw [yL];rfl⟩
   ·rintro ys H3 ⟨rfl,ms,rfl,_⟩ D hD;refine ⟨D,ms,rfl,SqL.of j9,_,_,rfl,rfl,?_⟩;have g1:Same H3 (z7 H3 D (.lst (ms.map V.int))):=Yy hD _;refine ⟨12,rfl,by decide,by decide,Ke (n:=12) (λi U H4=>∃(f:Int)(j:Option V),U=[some (.ref a),some (.int k),some (.int (c+ms.sum)),j,some (.int f)]/\H4=z7 H3 D (.lst (ms.map V.int))) ⟨0,_,rfl,rfl⟩ ?_ ?_⟩
    ·rintro i U H4 hi ⟨f,j,rfl,rfl⟩;refine ⟨_,rfl,_,_,rfl,rfl,.inr ⟨by decide,by decide⟩,_,rfl,_,rfl,_,_,rfl,rfl,.inl ⟨by decide,by decide⟩,_,_,rfl,rfl,_,rfl,a,_,rfl,.inl (g1.seq hS),_,_,rfl,rfl,_,rfl,_,_,rfl,by omega,by omega,λv v0 v1=>?_⟩;exact ⟨_,_,rfl,rfl,_,_,rfl,rfl⟩
    ·rintro U H4 ⟨f,j,rfl,rfl⟩;refine ⟨_,rfl,(by show 1<=sizeLine;decide),λp hp=>?_⟩;exact q p f _ (g1.free hp) (g1.trans (Yy hp _)) j9
end
def JM (K:Fg):List PV->Prop:=λxs=>∃(ns:List Int)(k:Int),xs=[scr K ns,.at (.int k)]/\ns.length<=63/\0<=k/\k<=12
def vy:List PV->PV->Prop:=λ_ y=>∃ n:Int,y = .lst [.at (.int n)]
theorem Sz {K:Fg}(h:spN (JM K) vy vs H Q E):Pf K vs H Q E:=by obtain ⟨Hs,xs,sm,r,⟨ns,k,rfl,h63,k0,k1⟩,q⟩:=h;obtain ⟨v,w,rfl,p1,p2⟩:=reps_cons.mp r;obtain ⟨u,z,rfl,p3,p4⟩:=reps_cons.mp p2;cases reps_nil.mp p4;cases rep_at.mp p3;obtain ⟨a,rfl,hS⟩:=BX sm p1;exact ⟨a,ns,k,rfl,hS,h63,k0,k1,λb n H' nb g e=>q _ b Hs H' ⟨n,rfl⟩ ⟨.refl _,g,sm.trans g,λ_ _ z=>z⟩ nb (sm.free nb) ⟨_,e,.one (rep_at.mpr rfl)⟩⟩
section
theorem HE (F:Fun K "_law_stream" "_law_stream" JT f fd)(Eg:Fn P w K mg base 1 "_law_mixed" ["cell","k"] JV)(Ax:mg "len"=none)(A7:mg "range"=none)(S0:mg "sum"=none):FnOk P w K mg base v5 2 f fd ["script","k"] (spN (JM K) vy):=(HF F Eg Ax A7 S0).imp λ_ _ _ _ h=>Sz h
end
def qx:Int:=10 ^ 30
theorem CA:0<qx:=by decide +kernel
theorem LO {k:Int}(h0:0<=k)(h1:k<=2*qx):k.natAbs.log2<9000:=by
 have hb:(2*qx).toNat<2 ^ 9000:=yA (show (2*qx).toNat<2 ^ 110 by decide +kernel) (Nat.pow_le_pow_right (by decide) (by decide));have:k.natAbs<2 ^ 9000:=by omega
 by_cases hz:k.natAbs=0
 ·rw [hz];decide
 ·exact (Nat.log2_lt hz).mpr this
theorem jS {k:Int}(h0:0<k)(h1:k<=2*qx):vW n k:=⟨h0,LO (by omega) h1⟩
theorem ZH:(1000:Int)<=qx:=by decide +kernel
def y7 (rss:List (List Int)):PV:= .lst (rss.map λr=> .lst (r.map λn=> .at (.int n)))
def Zm:List PV->Prop:=λxs=>∃ s:Int,xs=[.at (.int s)]/\4<=s/\s<=qx
def ZM:List PV->PV->Prop:=λxs y=>∃ s r:Int,xs=[.at (.int s)]/\y = .at (.int r)/\0<=r/\r<s
abbrev Yq:Stmt:=top 56
abbrev UZ (K:Fg):WS:=(wSeq (i9 2 (qM 0 (wP (dC (.int 3)))))
  (wSeq (zA (wPT (dT (z9 pEq (z5 2) (dC (.int 0))))) (xL (wP (dC (.int 0)))) xu)
  (xL (qM 0 (wP (z9 v8 (m8 (q0 (dC (.int 4)) (q0 (x0 1) x8))) (z9 xQ (z5 2) (dC (.int 1)))))))))
theorem sc_rinse:v4 ["stream","scale","way"] ["stream","scale"] (j3 Yq):=y3
theorem MW:∀ xs,Zm xs->xs.length+1=(["stream","scale"]:List Str).length:=by rintro xs ⟨h,rfl,_⟩;rfl
theorem Lb {K:Fg}:∀ xs n,Zm xs->UZ K (g0 n::xs.map .sh++List.replicate ((["stream","scale","way"]:List Str).length-(xs.length+1)) .no) (λ_=>False) λy ε=>ZM xs y/\jH 0 ε:=by
 rintro xs n ⟨s,rfl,h1,h4⟩;have hB:=ZH;have a0:0<=n % 3:=yr _ (by decide);have a1:n % 3<3:=yv _ (by decide);refine ⟨⟨n,rfl⟩,_,rfl,n,3,rfl,rfl,⟨by decide,by decide⟩,?_⟩;have c:n % 3=0∨n % 3=1∨n % 3=2:=by omega
 generalize n / 3=n1;rcases c with e|e|e<;>rw [e]
 ·refine Ir (u9 (v:=true) rfl) ?_;exact ⟨_,rfl,⟨s,0,rfl,rfl,by omega,by omega⟩,_,rfl⟩
 ·refine YV (u9 (v:=false) rfl) ?_;have d0:0<=n1 % 4:=yr _ (by decide);have d1:n1 % 4<4:=yv _ (by decide);exact ⟨⟨n1,rfl⟩,_,v6 (xC rfl l2) rfl rfl,n1,4,rfl,rfl,⟨by decide,by decide⟩,⟨s,n1 % 4,rfl,rfl,d0,by omega⟩,_,rfl⟩
 ·refine YV (u9 (v:=false) rfl) ?_;have d0:0<=n1 % s:=yr _ (by omega);have d1:n1 % s<s:=yv _ (by omega);exact ⟨⟨n1,rfl⟩,_,v6 (xC rfl l2) rfl rfl,n1,s,rfl,rfl,jS (by omega) (by omega),⟨s,n1 % s,rfl,rfl,d0,d1⟩,_,rfl⟩
theorem Hz (F:Fun K "_law_rinse" "_law_rinse" Yq f fd)(Aw:Fn P w K mg base 1 "_law_take" ["stream","many"] Xf):FnOk P w K mg base v5 2 f fd ["stream","scale"] (spD Zm ZM) :=
 okD (k:=1) (b:=UZ K) F sc_rinse MW (λcdv A outer s H E hr=>⟨_,(@j0 _ _ _ _ _ (@qh _ _ 2 _ _ _ _ sc_rinse.nd rfl (Or.inl rfl) (qT Aw hr (by decide) rfl (@j8 _ _ _ _ _ (pv 0) (@j8 _ _ _ _ _ z8 y2 (by rfl)) (by rfl))) (by rfl) (.inl rfl))
  (@j0 _ _ _ _ _ (c9 (i5 (vg (K:=K) (hu6 hr) rfl) (pv 2) z8 (c5 _)) (@j6 _ _ _ (w6 z8)) m4)
  (@j6 _ _ _ (w6 (qT Aw hr (by decide) rfl (@j8 _ _ _ _ _ (pv 0) (@j8 _ _ _ _ _ (iW (K:=K) rfl (@qg _ _ _ _ (@j8 _ _ _ _ _ z8 (@j8 _ _ _ _ _ (pv 1) y2 (by rfl)) (by rfl))) (v7 (zZ) (pv 2) z8)) y2 (by rfl)) (by rfl))))))),
  (by repeat' first|infer_instance|(refine @Mi.instSemWSTSeqWSeq _ _ _ _ ?_ ?_)|(apply @Mi.instSemWSTForWForOfSemWIOfSemWG))⟩) Lb
def Low (x:Str):Prop:=∀ c∈x.cps.toList,97<=c/\c<=122
structure wS (x:Str):Prop where
 low:Low x
 one:1<=x.length
 eight:x.length<=8
def k7 (ss:List Str):List PV:=ss.map λs=> .at (.str s)
theorem Pj (ss:List Str):(k7 ss).length=ss.length:=yZ _
def QG (k m:Nat):Str:=jB ⟨#[97+k]⟩ m
theorem CK {k:Int}(e0:k=j)(h1:j<26):v8 (.at (.str "abcdefghijklmnopqrstuvwxyz")) (.at (.int k))=some (.at (.str ⟨#[97+j]⟩)):=by
 subst e0;have q:∀ j:_root_.Fin 26,L2.atI (("abcdefghijklmnopqrstuvwxyz":Str).cps.toList) ((j:Nat):Int)=some (97+(j:Nat)):=by decide +kernel
 have e:=q ⟨j,h1⟩;show (if ("abcdefghijklmnopqrstuvwxyz":Str).length<=lim then (L2.atI (("abcdefghijklmnopqrstuvwxyz":Str).cps.toList) (j:Int)).map _ else none)=_;rw [if_pos (by decide +kernel),e];rfl
theorem LY {c:Nat}{k:Int}{m:Nat}(e:k=m)(h1:1<=m)(h8:m<=8):JG (.at (.str ⟨#[c]⟩)) (.at (.int k))=some (.at (.str (jB ⟨#[c]⟩ m))):=by subst e;show (if _ then _ else none)=_;rw [if_pos ⟨by omega,by omega,(show 1<=1 from yT 1),(show 1<=1000 by decide)⟩];rw [Int.toNat_natCast]
theorem LL {k m:Nat}(hk:k<26)(h1:1<=m)(h8:m<=8):wS (QG k m):=by
 have e:(QG k m).length=m:=by unfold QG;rw [BQ];show m*1=m;omega
 refine ⟨λc hc=>?_,by omega,by omega⟩;unfold QG at hc;rw [Th] at hc;obtain ⟨l,hl,hc⟩:=List.mem_flatten.mp hc;rw [(List.mem_replicate.mp hl).2] at hc;have:c=97+k:=by simpa using hc
 omega
structure Cl where
 name:Str
 hue:Nat
 len:Int
 due:Int
 wt:Int
variable{c:Cl}{cs ns:List Cl}
def Cl.pv (c:Cl):PV:= .tup [.at (.str c.name),.at (.int c.hue),.at (.int c.len),.at (.int c.due),.at (.int c.wt)]
structure Cl.Ok (h:Nat)(c:Cl):Prop where
 nm:wS c.name
 hu:c.hue<h
 l1:1<=c.len
 l2:c.len<=qx
 d1:True
 d2:True
 w1:1<=c.wt
 w2:c.wt<=qx
structure Dr where
 h:Nat
 rss:List (List Int)
 cls:List Cl
 last:Int
 time:Int
variable{d:Dr}
structure Dr.Ok (d:Dr):Prop where
 h1:1<=d.h
 h4:d.h<=4
 rin:xw d.h d.rss
 ten:d.cls.length<=10
 cl:∀ c∈d.cls,c.Ok d.h
 nd:(d.cls.map Cl.name).Nodup
 l1:-1<=d.last
 l2:d.last<d.h
 t1:0<=d.time
 t2:True
theorem JR {a:MA}{k:Nat}(h:a ε=some [.at (.int (k:Int))])(hk:k<=lim):vJ a ε=some (jC 0 k):=by have hlim:(lim:Int)=1000000:=rfl;have hl:lim=1000000:=rfl;unfold vJ;rw [h];show (if -(lim:Int)<=(k:Int)/\(k:Int)<=(lim:Int) then some (jC 0 (k:Int).toNat) else none)=_;rw [if_pos ⟨by omega,by omega⟩,Int.toNat_natCast]
def S26:Int:=10 ^ 26
theorem CF:1000<=S26:=by decide +kernel
theorem Vh:50*S26<=qx:=by decide +kernel
theorem DC:jm 10 26:=⟨by decide,by decide,by decide⟩
theorem pow26:pPow (.at (.int 10)) (.at (.int 26))=some (.at (.int S26)):=by show (if jm 10 26 then some (V.int (10 ^ (26:Int).toNat)) else none).map PV.at=_;rw [if_pos DC];rfl
def Dr.hp (d:Dr)(sc:Int)(ns:List Str):PV:= .tup [y7 d.rss,.at (.int d.last),.at (.int d.time),.at (.int sc),.lst (k7 ns)]
def Zl (K:Fg):List PV->Prop:=λxs=>∃ ns:List Int,xs=[scr K ns]/\ns.length<=63
def ZL:List PV->PV->Prop:=λ_ y=>∃(d:Dr)(sc:Int)(ns:List Str),y=d.hp sc ns/\d.Ok/\d.cls=[]/\4<=sc/\sc<=S26/\ns.length=14/\∀ x∈ns,wS x
abbrev Yb:Stmt:=top 57
abbrev UK (K:Fg):WS:=(wSeq (Ca 1 (JM K) vy (xU (wP (x0 0)) (xU (wP (dC (.int 0))) vu)))
  (wSeq (i9 2 (xT qv (wP (dC (.int 1))) (qM 1 (wP (dC (.int 4))))))
  (wSeq (i9 3 (xT v8 (wP (m8 (q0 (dC (.int 4)) (q0 (dC (.int 10)) (q0 (dC (.int 10)) (q0 (dC (.int 1000)) (q0 (z9 pPow (dC (.int 10)) (dC (.int 26))) x8))))))) (qM 1 (wP (dC (.int 5))))))
  (wSeq (i9 4 (qM 1 (wP (dC (.int 26)))))
  (wSeq (i9 5 (xT xQ (qM 1 (wP (z9 qv (z5 2) (dC (.int 1))))) (wP (dC (.int 1)))))
  (wSeq (i9 6 (qM 1 (xT v8 (wP (m8 (q0 (dC (.int 1)) (q0 (dC (.int 10)) (q0 (x0 3) x8))))) (qM 1 (wP (dC (.int 3)))))))
  (wSeq (i9 7 (Vb [none,some 2,some 1,some 3] [0] (wIp (vJ (q0 (z9 qv (z5 2) (dC (.int 1))) x8))) (w5 0) ZD (Vb [none,some 2,some 3] [0] (wIp (vJ (q0 (x0 1) x8))) (w5 0) ZD (Vc 1 Zm ZM (xU (wP (x0 2)) vu)))))
  (wSeq (i9 8 (wP (dC (.str "abcdefghijklmnopqrstuvwxyz"))))
  (wSeq (i9 9 (wP (t6 [none,some 8,some 4] [0] (vJ (q0 (dC (.int 14)) x8)) (w5 0) c7 (z9 JG (z9 v8 (z5 1) (z9 pMod (z9 qv (z5 2) (z9 pDiv (z5 0) (dC (.int 8)))) (dC (.int 26)))) (z9 qv (dC (.int 1)) (z9 pMod (z5 0) (dC (.int 8))))))))
  (xL (wP (ql (q0 (x0 7) (q0 (x0 5) (q0 (x0 6) (q0 (x0 3) (q0 (x0 9) x8)))))))))))))))))
theorem sc_house:v4 ["script","stream","hues","scale","letter","last","time","rinses","letters","names"] ["script"] (j3 Yb):=y3
theorem MV {K:Fg}:∀ xs,Zl K xs->xs.length=(["script"]:List Str).length:=by rintro xs ⟨ns,rfl,_⟩;rfl
theorem MZ {K:Fg}:∀ xs,Zl K xs->UK K (xs.map .sh++List.replicate ((["script","stream","hues","scale","letter","last","time","rinses","letters","names"]:List Str).length-xs.length) .no) (λ_=>False) λy _=>ZL xs y:=by
 rintro xs ⟨ns,rfl,h63⟩;have hB:=ZH;have hS:=CF;have hb:=Vh;have hlim:lim=1000000:=rfl;refine ⟨_,rfl,_,rfl,⟨ns,0,rfl,h63,by decide,by decide⟩,?_⟩;rintro y ⟨n,rfl⟩
 -- hues
 refine ⟨_,rfl,⟨n,rfl⟩,_,rfl,n,4,rfl,rfl,⟨by decide,by decide⟩,_,rfl,?_⟩;have a0:0<=n % 4:=yr _ (by decide);have a1:n % 4<4:=yv _ (by decide);obtain ⟨h,hh⟩:=uW (show 0<=1+n % 4 by omega);generalize n / 4=n1;have hh1:1<=h:=by omega
 have hh4:h<=4:=by omega
 rw [hh];clear a0 a1 hh
 -- scale
 show wSeq _ _ [.sh (scr K ns),g0 n1,.sh (.at (.int (h:Int))),.no,.no,.no,.no,.no,.no,.no] _ _;have c0:0<=n1 % 5:=yr _ (by decide);have c1:n1 % 5<5:=yv _ (by decide);have ixt:∃ k:Int,v8 (.lst [.at (.int 4),.at (.int 10),.at (.int 10),.at (.int 1000),.at (.int S26)]) (.at (.int (n1 % 5)))=some (.at (.int k))/\4<=k/\k<=S26:=by
  have c:n1 % 5=0∨n1 % 5=1∨n1 % 5=2∨n1 % 5=3∨n1 % 5=4:=by omega
  rcases c with e|e|e|e|e<;>rw [e]
  ·exact ⟨4,rfl,by decide,by omega⟩
  ·exact ⟨10,rfl,by decide,by omega⟩
  ·exact ⟨10,rfl,by decide,by omega⟩
  ·exact ⟨1000,rfl,by decide,by omega⟩
  ·exact ⟨S26,rfl,by omega,by omega⟩
 obtain ⟨sc,esc,sc4,sc26⟩:=ixt;refine ⟨_,xC (j5 rfl (j5 rfl (j5 rfl (j5 rfl (j5 (v6 rfl rfl pow26) rfl))))) l5,⟨n1,rfl⟩,_,rfl,n1,5,rfl,rfl,⟨by decide,by decide⟩,_,esc,?_⟩;clear esc c0 c1;generalize n1 / 5=n4
 -- letter
 refine ⟨⟨n4,rfl⟩,_,rfl,n4,26,rfl,rfl,⟨by decide,by decide⟩,?_⟩;have d0:0<=n4 % 26:=yr _ (by decide);have d1:n4 % 26<26:=yv _ (by decide);obtain ⟨le,hle⟩:=uW d0;rw [hle] at d1 ⊢;generalize n4 / 26=n5
 -- last
 refine ⟨⟨n5,rfl⟩,_,rfl,n5,(h:Int)+1,rfl,rfl,jS (by omega) (by omega),_,rfl,_,rfl,?_⟩;have e0:0<=n5 % ((h:Int)+1):=yr _ (by omega);have e1:n5 % ((h:Int)+1)<(h:Int)+1:=yv _ (by omega);generalize n5 % ((h:Int)+1)=la at e0 e1;generalize n5 / ((h:Int)+1)=n6
 -- time
 show wSeq _ _ [.sh (scr K ns),g0 n6,.sh (.at (.int (h:Int))),.sh (.at (.int sc)),.sh (.at (.int (le:Int))),.sh (.at (.int (la-1))),.no,.no,.no,.no] _ _;have f0:0<=n6 % 3:=yr _ (by decide);have f1:n6 % 3<3:=yv _ (by decide);have ixt:∃ k:Int,v8 (.lst [.at (.int 1),.at (.int 10),.at (.int sc)]) (.at (.int (n6 % 3)))=some (.at (.int k))/\0<k/\k<=S26:=by
  have c:n6 % 3=0∨n6 % 3=1∨n6 % 3=2:=by omega
  rcases c with e|e|e<;>rw [e]
  ·exact ⟨1,rfl,by decide,by omega⟩
  ·exact ⟨10,rfl,by decide,by omega⟩
  ·exact ⟨sc,rfl,by omega,sc26⟩
 obtain ⟨k,ek,k0,k1⟩:=ixt;refine ⟨⟨n6,rfl⟩,_,xC rfl l3,⟨n6,rfl⟩,_,rfl,n6,3,rfl,rfl,⟨by decide,by decide⟩,_,ek,n6 / 3,k,rfl,rfl,jS k0 (by omega),?_⟩;have t0:0<=n6 / 3 % k:=yr _ (by omega);have t1:n6 / 3 % k<k:=yv _ k0;generalize n6 / 3 % k=ti at t0 t1;generalize n6 / 3 / k=n7
 -- rinses
 show wSeq _ _ [.sh (scr K ns),g0 n7,.sh (.at (.int (h:Int))),.sh (.at (.int sc)),.sh (.at (.int (le:Int))),.sh (.at (.int (la-1))),.sh (.at (.int ti)),.no,.no,.no] _ _;refine ⟨jC 0 (h+1),JR rfl (by omega),rfl,by rw [Xe];omega,?_⟩;refine GE (λrest zs ε=>∃(m:Int)(rss:List (List Int)),ε=[.no,.sh (.at (.int (h:Int))),g0 m,.sh (.at (.int sc))]/\zs=rss.map (λr=>PV.lst (r.map λn=> .at (.int n)))/\rss.length+rest.length=h+1/\(∀ r∈rss,r.length=h)/\(∀ r∈rss,∀ n∈r,0<=n/\n<qx)) ?_ ?_ _ [] _ ⟨n7,[],rfl,rfl,by rw [Xe];simp,(λ_ z=>nomatch z),(λ_ z=>nomatch z)⟩
 rotate_left
 ·rintro x rest zs ε ⟨m,rss,rfl,rfl,e1,e2,e3⟩;simp only [yH] at e1;refine ⟨_,rfl,jC 0 h,JR rfl (by omega),rfl,by rw [Xe];omega,?_⟩;refine GE (λrest2 zs2 ε=>∃(m:Int)(r:List Int),ε=[.no,g0 m,.sh (.at (.int sc))]/\zs2=r.map (λn=>PV.at (.int n))/\r.length+rest2.length=h/\(∀ n∈r,0<=n/\n<qx)) ?_ ?_ _ [] _ ⟨m,[],rfl,rfl,by rw [Xe];simp,(λ_ z=>nomatch z)⟩
  ·rintro zs2 ε ⟨m2,r,rfl,rfl,g1,g2⟩;refine ⟨(λz=>by obtain ⟨y,z⟩:=z;cases z),m2,rss++[r],rfl,by rw [yE];rfl,by rw [yL];simp;omega,?_,?_⟩
   ·intro q hq;rcases yy.mp hq with hq|hq
    ·exact e2 q hq
    ·rw [yM.mp hq];simpa using g1
   ·intro q hq;rcases yy.mp hq with hq|hq
    ·exact e3 q hq
    ·rw [yM.mp hq];exact g2
  ·rintro x2 rest2 zs2 ε ⟨m2,r,rfl,rfl,g1,g2⟩;simp only [yH] at g1;refine ⟨_,rfl,⟨_,rfl⟩,_,rfl,⟨_,rfl⟩,⟨sc,rfl,sc4,by omega⟩,?_⟩;rintro y n8 ⟨s,z,ex,rfl,z0,z1⟩;have ex:sc=s:=by injection ex with ex _;injection ex with ex;injection ex
   refine ⟨n8,r++[z],rfl,by rw [yE];rfl,by rw [yL];simp;omega,λq hq=>?_⟩;rcases yy.mp hq with hq|hq
   ·exact g2 q hq
   ·rw [yM.mp hq];exact ⟨z0,by omega⟩
 rintro zs ε ⟨m,rss,rfl,rfl,e1,e2,e3⟩;refine ⟨(λz=>by obtain ⟨y,z⟩:=z;cases z),?_⟩;rw [List.length_nil,Nat.add_zero] at e1;have hr:xw h rss:=⟨e1,λr hr=>⟨e2 r hr,e3 r hr⟩⟩
 -- names
 show wSeq _ _ [.sh (scr K ns),g0 m,.sh (.at (.int (h:Int))),.sh (.at (.int sc)),.sh (.at (.int (le:Int))),.sh (.at (.int (la-1))),.sh (.at (.int ti)),.sh (y7 rss),.no,.no] _ _;refine ⟨_,rfl,?_⟩;refine ⟨.lst (k7 ((List.range 14).map λj=>QG ((le+j / 8) % 26) (1+j % 8))),?_,?_⟩
 ·refine (xp (λk:Nat=>PV.at (.int ((0:Int)+k))) (λk=>PV.at (.str (QG ((le+k / 8) % 26) (1+k % 8)))) (List.range 14) (JR (k:=14) rfl (by decide)) rfl (by decide) λk _=>⟨_,rfl,v6 (v6 rfl rfl (CK (j:=(le+k / 8) % 26) (by omega) (by omega))) rfl (LY (m:=1+k % 8) (by omega) (by omega) (by omega))⟩).trans ?_;unfold k7;rw [yq];rfl
 ·exact ⟨_,rfl,⟨h,rss,[],la-1,ti⟩,sc,_,rfl,⟨hh1,hh4,hr,(by show 0<=10;decide),(λ_ z=>nomatch z),List.nodup_nil,(by show -1<=la-1;omega),(by show la-1<(h:Int);omega),t0,trivial⟩,rfl,sc4,sc26,by rw [yZ,List.length_range],λx hx=>by
   obtain ⟨j,hj,rfl⟩:=yw.mp hx;exact LL (by omega) (by omega) (by omega)⟩
theorem He (F:Fun K "_law_house" "_law_house" Yb f fd)(R1:Fn P w K mg base 2 "_law_rinse" ["stream","scale"] (spD Zm ZM))(J8:Fn P w K mg base 2 "_law_stream" ["script","k"] (spN (JM K) vy))(Aw:Fn P w K mg base 1 "_law_take" ["stream","many"] Xf)(A7:mg "range"=none):FnOk P w K mg base v5 3 f fd ["script"] (spV (Zl K) ZL) :=
 okV (k:=2) (b:=UK K) F sc_house MV (λcdv A outer s H E hr=>⟨_,(@j0 _ _ _ _ _ (@qh _ _ 1 _ _ _ _ sc_house.nd rfl (Or.inr rfl) (qT J8 hr (by decide) rfl (@j8 _ _ _ _ _ (pv 0) (@j8 _ _ _ _ _ z8 y2 (by rfl)) (by rfl))) (by rfl) (.inl rfl))
  (@j0 _ _ _ _ _ (@qh _ _ 2 _ _ _ _ sc_house.nd rfl (Or.inr rfl) (v7 (xt (K:=K) rfl) z8 (qT Aw hr (by decide) rfl (@j8 _ _ _ _ _ (pv 1) (@j8 _ _ _ _ _ z8 y2 (by rfl)) (by rfl)))) (by rfl) (.inl rfl))
  (@j0 _ _ _ _ _ (@qh _ _ 3 _ _ _ _ sc_house.nd rfl (Or.inr rfl) (iW (K:=K) rfl (@qg _ _ _ _ (@j8 _ _ _ _ _ z8 (@j8 _ _ _ _ _ z8 (@j8 _ _ _ _ _ z8 (@j8 _ _ _ _ _ z8 (@j8 _ _ _ _ _ (v7 (zY) z8 z8) y2 (by rfl)) (by rfl)) (by rfl)) (by rfl)) (by rfl))) (qT Aw hr (by decide) rfl (@j8 _ _ _ _ _ (pv 1) (@j8 _ _ _ _ _ z8 y2 (by rfl)) (by rfl)))) (by rfl) (.inl rfl))
  (@j0 _ _ _ _ _ (@qh _ _ 4 _ _ _ _ sc_house.nd rfl (Or.inr rfl) (qT Aw hr (by decide) rfl (@j8 _ _ _ _ _ (pv 1) (@j8 _ _ _ _ _ z8 y2 (by rfl)) (by rfl))) (by rfl) (.inl rfl))
  (@j0 _ _ _ _ _ (@qh _ _ 5 _ _ _ _ sc_house.nd rfl (Or.inl rfl) (v7 (zZ) (qT Aw hr (by decide) rfl (@j8 _ _ _ _ _ (pv 1) (@j8 _ _ _ _ _ (v7 (xt (K:=K) rfl) (pv 2) z8) y2 (by rfl)) (by rfl))) z8) (by rfl) (.inl rfl))
  (@j0 _ _ _ _ _ (@qh _ _ 6 _ _ _ _ sc_house.nd rfl (Or.inl rfl) (qT Aw hr (by decide) rfl (@j8 _ _ _ _ _ (pv 1) (@j8 _ _ _ _ _ (iW (K:=K) rfl (@qg _ _ _ _ (@j8 _ _ _ _ _ z8 (@j8 _ _ _ _ _ z8 (@j8 _ _ _ _ _ (pv 3) y2 (by rfl)) (by rfl)) (by rfl))) (qT Aw hr (by decide) rfl (@j8 _ _ _ _ _ (pv 1) (@j8 _ _ _ _ _ z8 y2 (by rfl)) (by rfl)))) y2 (by rfl)) (by rfl))) (by rfl) (.inl rfl))
  (@j0 _ _ _ _ _ (Xb (i:=7) (N':=["row","hues","stream","scale"]) (cap:=[none,some 2,some 1,some 3]) (qz rfl rfl rfl) rfl sc_house.nd rfl rfl (QZ rfl A7 (@j8 _ _ _ _ _ (v7 (xt (K:=K) rfl) (pv 2) z8) y2 (by rfl))) (λ_ _ _ _ _ _=>(r9 (i:=0) (by show (["row","hues","stream","scale"]:List Str).Nodup;decide +kernel) rfl (Or.inl rfl))) (λ_ _ _ _ _ _=>qK) (λ_ _ _ _ _ _=>(xG (N':=["hue","stream","scale"]) (cap:=[none,some 2,some 3]) (qz rfl rfl rfl) rfl (QZ rfl A7 (@j8 _ _ _ _ _ (pv 1) y2 (by rfl))) (λ_ _ _ _ _ _=>(r9 (i:=0) (by show (["hue","stream","scale"]:List Str).Nodup;decide +kernel) rfl (Or.inl rfl))) (λ_ _ _ _ _ _=>qK) (λ_ _ _ _ _ _=>(qT R1 hr (by decide) rfl (@j8 _ _ _ _ _ (pv 1) (@j8 _ _ _ _ _ (pv 2) y2 (by rfl)) (by rfl)))))))
  (@j0 _ _ _ _ _ (@qh _ _ 8 _ _ _ _ sc_house.nd rfl (Or.inr rfl) xl (by rfl) (.inl rfl))
  (@j0 _ _ _ _ _ (Xb (i:=9) (N':=["j","letters","letter"]) (cap:=[none,some 8,some 4]) (qz rfl rfl rfl) rfl sc_house.nd rfl rfl (QZ rfl A7 (@j8 _ _ _ _ _ z8 y2 (by rfl))) (λ_ _ _ _ _ _=>(r9 (i:=0) (by show (["j","letters","letter"]:List Str).Nodup;decide +kernel) rfl (Or.inl rfl))) (λ_ _ _ _ _ _=>qK) (λ_ _ _ _ _ _=>(v7 (HU) (iW (K:=K) rfl (pv 1) (v7 (zX) (v7 (xt (K:=K) rfl) (pv 2) (v7 (Bb) (pv 0) z8)) z8)) (v7 (xt (K:=K) rfl) z8 (v7 (zX) (pv 0) z8)))))
  (@j6 _ _ _ (w6 (@qJ _ _ _ _ _ (@j8 _ _ _ _ _ (pv 7) (@j8 _ _ _ _ _ (pv 5) (@j8 _ _ _ _ _ (pv 6) (@j8 _ _ _ _ _ (pv 3) (@j8 _ _ _ _ _ (pv 9) y2 (by rfl)) (by rfl)) (by rfl)) (by rfl)) (by rfl)))))))))))))),
  (by repeat' first|infer_instance|(refine @Mi.instSemWSTSeqWSeq _ _ _ _ ?_ ?_)|(apply @Mi.instSemWSTForWForOfSemWIOfSemWG))⟩) MZ
abbrev Yh:Stmt:=top 4
abbrev UQ:MS:=(y8 (xY (x9 o4 (q0 (z5 0) (q0 (dC (.ty "int")) x8))) (ZX (x9 o4 (q0 (z5 0) (q0 (dC (.ty "bool")) x8))))))
def zW:List PV->Option PV:=u8 1 1 UQ
theorem Sc:v4 ["thing"] ["thing"] (j3 Yh):=y3
theorem Hk (F:Fun K "is_whole" "is_whole" Yh f fd)(S6:mg "bool"=none)(Q2:mg "int"=none)(Aj:mg "isinstance"=none):FnOk P w K mg base v5 1 f fd ["thing"] (w4 zW) :=
 qZ (k:=0) (b:=UQ) F Sc rfl λcdv A outer s H E hr=>⟨_,(j6 (w6 (QW (i8 (vG (K:=K) rfl) rfl Aj vF (aC (pv 0) (aW (vQ (v:= .ty "int") rfl Q2 Gp rfl)))) (Zg (Rn (i8 (vG (K:=K) rfl) rfl Aj vF (aC (pv 0) (aW (vQ (v:= .ty "bool") rfl S6 CU rfl))))))))),
  inferInstance⟩
abbrev Yp:Stmt:=top 7
abbrev UY:MS:=(y8 (z9 v8 (z5 0) (dC (.int 0))))
def qo:List PV->Option PV:=u8 1 1 UY
theorem Si:v4 ["cloth"] ["cloth"] (j3 Yp):=y3
theorem Hw (F:Fun K "name_of" "name_of" Yp f fd):FnOk P w K mg base v5 1 f fd ["cloth"] (w4 qo) :=
 qZ (k:=0) (b:=UY) F Si rfl λcdv A outer s H E hr=>⟨_,(j6 (w6 (iW (K:=K) rfl (pv 0) z8))),
  inferInstance⟩
abbrev Yc:Stmt:=top 8
abbrev UL:MS:=(y8 (z9 v8 (z5 0) (dC (.int 1))))
def zt:List PV->Option PV:=u8 1 1 UL
theorem TX:v4 ["cloth"] ["cloth"] (j3 Yc):=y3
theorem Hf (F:Fun K "hue_of" "hue_of" Yc f fd):FnOk P w K mg base v5 1 f fd ["cloth"] (w4 zt) :=
 qZ (k:=0) (b:=UL) F TX rfl λcdv A outer s H E hr=>⟨_,(j6 (w6 (iW (K:=K) rfl (pv 0) z8))),
  inferInstance⟩
abbrev Ym:Stmt:=top 9
abbrev UW:MS:=(y8 (z9 v8 (z5 0) (dC (.int 2))))
def vN:List PV->Option PV:=u8 1 1 UW
theorem Sg:v4 ["cloth"] ["cloth"] (j3 Ym):=y3
theorem Ht (F:Fun K "length_of" "length_of" Ym f fd):FnOk P w K mg base v5 1 f fd ["cloth"] (w4 vN) :=
 qZ (k:=0) (b:=UW) F Sg rfl λcdv A outer s H E hr=>⟨_,(j6 (w6 (iW (K:=K) rfl (pv 0) z8))),
  inferInstance⟩
abbrev WY:Stmt:=top 10
abbrev UH:MS:=(y8 (z9 v8 (z5 0) (dC (.int 3))))
def wu:List PV->Option PV:=u8 1 1 UH
theorem TV:v4 ["cloth"] ["cloth"] (j3 WY):=y3
theorem NZ (F:Fun K "due_of" "due_of" WY f fd):FnOk P w K mg base v5 1 f fd ["cloth"] (w4 wu) :=
 qZ (k:=0) (b:=UH) F TV rfl λcdv A outer s H E hr=>⟨_,(j6 (w6 (iW (K:=K) rfl (pv 0) z8))),
  inferInstance⟩
abbrev Yx:Stmt:=top 11
abbrev Ge:MS:=(y8 (z9 v8 (z5 0) (dC (.int 4))))
def XZ:List PV->Option PV:=u8 1 1 Ge
theorem Sm:v4 ["cloth"] ["cloth"] (j3 Yx):=y3
theorem HK (F:Fun K "weight_of" "weight_of" Yx f fd):FnOk P w K mg base v5 1 f fd ["cloth"] (w4 XZ) :=
 qZ (k:=0) (b:=Ge) F Sm rfl λcdv A outer s H E hr=>⟨_,(j6 (w6 (iW (K:=K) rfl (pv 0) z8))),
  inferInstance⟩
abbrev Ye:Stmt:=top 12
abbrev UN:MS:=(y8 (xY (x9 zW (q0 (x0 0) x8)) (z9 pGe (z5 0) (z5 1))))
def qu:List PV->Option PV:=u8 2 2 UN
theorem TZ:v4 ["thing","least"] ["thing","least"] (j3 Ye):=y3
theorem Hh (F:Fun K "is_from" "is_from" Ye f fd)(B3:Fn P w K mg base 1 "is_whole" ["thing"] (w4 zW)):FnOk P w K mg base v5 2 f fd ["thing","least"] (w4 qu) :=
 qZ (k:=1) (b:=UN) F TZ rfl λcdv A outer s H E hr=>⟨_,(j6 (w6 (QW (fW B3 hr (aW (pv 0))) (Zg (QX (QQ) (pv 0) (pv 1) (c5 _)))))),
  inferInstance⟩
abbrev Yf:Stmt:=top 3
abbrev UO:MS:=(y4 (p6 (dOr (k6 (p7 (x9 o4 (q0 (z5 0) (q0 (dC (.ty "str")) x8))))) (k6 (dT (zM pLe pLe (dC (.int 1)) (x9 qD (q0 (z5 0) x8)) (dC (.int 8)))))) (y8 (dC (.bl false))) m9)
  (y8 (x9 jy (q0 (t6 [none] [0] (dItS (x0 0)) (w5 0) c7 (zM QT QT (dC (.str "a")) (z5 0) (dC (.str "z")))) x8))))
def zu:List PV->Option PV:=u8 1 1 UO
theorem Sa:v4 ["thing"] ["thing"] (j3 Yf):=y3
theorem Hi (F:Fun K "is_name" "is_name" Yf f fd)(Ez:mg "all"=none)(Aj:mg "isinstance"=none)(Ax:mg "len"=none)(Q1:mg "str"=none)(Ea:mg "LONGEST_NAME"=some (.int 8 Ef)):FnOk P w K mg base v5 1 f fd ["thing"] (w4 zu) :=
 qZ (k:=0) (b:=UO) F Sa rfl λcdv A outer s H E hr=>⟨_,(j0 (c9 (PW.pt (wG (xH (xI (K:=K) rfl (i8 (vG (K:=K) rfl) rfl Aj vF (aC (pv 0) (aW (vQ (v:= .ty "str") rfl Q1 Gr rfl)))) (λ_=>rfl))) (Xc (xH (Bq (JE) (JE) z8 (i8 (zL (K:=K) rfl) rfl Ax PySem.boot_len (aW (pv 0))) (JH (v:= .int 8) rfl Ea ⟨_,rfl⟩)))))) (j6 (w6 zh)) m4)
  (j6 (w6 (i8 (ZT (K:=K) rfl rfl) rfl Ez ZR (aW (xG (N':=["sign"]) (cap:=[none]) (qz rfl rfl rfl) rfl (Rw (pv 0)) (λ_ _ _ _ _ _=>(r9 (i:=0) (by show (["sign"]:List Str).Nodup;decide +kernel) rfl (Or.inl rfl))) (λ_ _ _ _ _ _=>qK) (λ_ _ _ _ _ _=>(Ri (Bd) (Bd) xl (pv 0) xl)))))))),
  inferInstance⟩
abbrev Yd:Stmt:=top 13
abbrev UM:MS:=(y4 (p6 (dOr (k6 (p7 (x9 o4 (q0 (z5 0) (q0 (dC (.ty "tuple")) x8))))) (dT (z9 pNe (x9 qD (q0 (z5 0) x8)) (dC (.int 5))))) (y8 (dC (.bl false))) m9)
  (y4 (p6 (dOr (k6 (p7 (x9 zu (q0 (x9 qo (q0 (x0 0) x8)) x8)))) (dOr (k6 (p7 (x9 qu (q0 (x9 zt (q0 (x0 0) x8)) (q0 (dC (.int 0)) x8))))) (dT (z9 pGe (x9 zt (q0 (x0 0) x8)) (z5 1))))) (y8 (dC (.bl false))) m9)
  (y8 (xY (x9 qu (q0 (x9 vN (q0 (x0 0) x8)) (q0 (dC (.int 1)) x8))) (xY (x9 zW (q0 (x9 wu (q0 (x0 0) x8)) x8)) (x9 qu (q0 (x9 XZ (q0 (x0 0) x8)) (q0 (dC (.int 1)) x8))))))))
def zg:List PV->Option PV:=u8 2 2 UM
theorem TY:v4 ["thing","hues"] ["thing","hues"] (j3 Yd):=y3
theorem Hg (F:Fun K "is_cloth" "is_cloth" Yd f fd)(Ep:Fn P w K mg base 1 "due_of" ["cloth"] (w4 wu))(B8:Fn P w K mg base 1 "hue_of" ["cloth"] (w4 zt))(A6:Fn P w K mg base 2 "is_from" ["thing","least"] (w4 qu))(J1:Fn P w K mg base 1 "is_name" ["thing"] (w4 zu))(B3:Fn P w K mg base 1 "is_whole" ["thing"] (w4 zW))(D2:Fn P w K mg base 1 "length_of" ["cloth"] (w4 vN))(At:Fn P w K mg base 1 "name_of" ["cloth"] (w4 qo))(E1:Fn P w K mg base 1 "weight_of" ["cloth"] (w4 XZ))(Aj:mg "isinstance"=none)(Ax:mg "len"=none)(R3:mg "tuple"=none)(R7:mg "PARTS"=some (.int 5 Q9)):FnOk P w K mg base v5 3 f fd ["thing","hues"] (w4 zg) :=
 qZ (k:=2) (b:=UM) F TY rfl λcdv A outer s H E hr=>⟨_,(j0 (c9 (PW.pt (wG (xH (xI (K:=K) rfl (i8 (vG (K:=K) rfl) rfl Aj vF (aC (pv 0) (aW (vQ (v:= .ty "tuple") rfl R3 Da rfl)))) (λ_=>rfl))) (Xc (i5 (ww (K:=K) (hu6 hr) rfl) (i8 (zL (K:=K) rfl) rfl Ax PySem.boot_len (aW (pv 0))) (JH (v:= .int 5) rfl R7 ⟨_,rfl⟩) (c5 _))))) (j6 (w6 zh)) m4)
  (j0 (c9 (PW.pt (wG (xH (xI (K:=K) rfl (fW J1 hr (aW (fW At hr (aW (pv 0))))) (λ_=>rfl))) (wG (xH (xI (K:=K) rfl (fW A6 hr (aC (fW B8 hr (aW (pv 0))) (aW z8))) (λ_=>rfl))) (Xc (i5 (QQ) (fW B8 hr (aW (pv 0))) (pv 1) (c5 _)))))) (j6 (w6 zh)) m4)
  (j6 (w6 (QW (fW A6 hr (aC (fW D2 hr (aW (pv 0))) (aW z8))) (QW (fW B3 hr (aW (fW Ep hr (aW (pv 0))))) (Zg (fW A6 hr (aC (fW E1 hr (aW (pv 0))) (aW z8)))))))))),
  inferInstance⟩
abbrev Yg:Stmt:=top 35
abbrev UP:MS:=(y4 (p6 (dOr (k6 (p7 (x9 o4 (q0 (z5 0) (q0 (dC (.ty "list")) x8))))) (dT (z9 pNe (x9 qD (q0 (z5 0) x8)) (z5 1)))) (y8 (dC (.bl false))) m9)
  (y8 (x9 jy (q0 (t6 [none] [0] (t9 (x0 0)) (w5 0) c7 (xY (x9 zW (q0 (x0 0) x8)) (z9 pGe (z5 0) (dC (.int 0))))) x8))))
def QM:List PV->Option PV:=u8 2 2 UP
theorem Sb:v4 ["row","hues"] ["row","hues"] (j3 Yg):=y3
theorem Hj (F:Fun K "is_rinse_row" "is_rinse_row" Yg f fd)(B3:Fn P w K mg base 1 "is_whole" ["thing"] (w4 zW))(Ez:mg "all"=none)(Aj:mg "isinstance"=none)(Ax:mg "len"=none)(Au:mg "list"=none):FnOk P w K mg base v5 2 f fd ["row","hues"] (w4 QM) :=
 qZ (k:=1) (b:=UP) F Sb rfl λcdv A outer s H E hr=>⟨_,(j0 (c9 (PW.pt (wG (xH (xI (K:=K) rfl (i8 (vG (K:=K) rfl) rfl Aj vF (aC (pv 0) (aW (vQ (v:= .ty "list") rfl Au jo rfl)))) (λ_=>rfl))) (Xc (i5 (ww (K:=K) (hu6 hr) rfl) (i8 (zL (K:=K) rfl) rfl Ax PySem.boot_len (aW (pv 0))) (pv 1) (c5 _))))) (j6 (w6 zh)) m4)
  (j6 (w6 (i8 (ZT (K:=K) rfl rfl) rfl Ez ZR (aW (xG (N':=["number"]) (cap:=[none]) (qz rfl rfl rfl) rfl (@xc _ K _ _ _ rfl (pv 0)) (λ_ _ _ _ _ _=>(r9 (i:=0) (by show (["number"]:List Str).Nodup;decide +kernel) rfl (Or.inl rfl))) (λ_ _ _ _ _ _=>qK) (λ_ _ _ _ _ _=>(QW (fW B3 hr (aW (pv 0))) (Zg (QX (QQ) (pv 0) z8 (c5 _))))))))))),
  inferInstance⟩
abbrev WR:Stmt:=top 36
abbrev UC:MS:=(y4 (p6 (k6 (p7 (x9 o4 (q0 (z5 0) (q0 (dC (.ty "list")) x8))))) o7 m9)
  (y4 (qk 1 (z9 xQ (x9 qD (q0 (z5 0) x8)) (dC (.int 1))))
  (y4 (p6 (k6 (dT (zM pLe pLe (dC (.int 1)) (z5 1) (dC (.int 4))))) o7 m9)
  (p6 (k6 (p7 (x9 jy (q0 (t6 [none,some 1] [0] (t9 (x0 0)) (w5 0) c7 (x9 QM (q0 (x0 0) (q0 (x0 1) x8)))) x8)))) o7 m9))))
abbrev Cm (Ac:Addr):YM:=(xv false (p6 (k6 (p7 (x9 o4 (q0 (z5 0) (q0 (dC (.ty "list")) x8))))) o7 m9) (yIf (k6 (p7 (x9 o4 (q0 (z5 0) (q0 (dC (.ty "list")) x8))))) (jK Ac) xk)
  (xv false (qk 1 (z9 xQ (x9 qD (q0 (z5 0) x8)) (dC (.int 1)))) xk
  (xv false (p6 (k6 (dT (zM pLe pLe (dC (.int 1)) (z5 1) (dC (.int 4))))) o7 m9) (yIf (k6 (dT (zM pLe pLe (dC (.int 1)) (z5 1) (dC (.int 4))))) (jK Ac) xk)
  (yIf (k6 (p7 (x9 jy (q0 (t6 [none,some 1] [0] (t9 (x0 0)) (w5 0) c7 (x9 QM (q0 (x0 0) (q0 (x0 1) x8)))) x8)))) (jK Ac) xk))))
def QL:List PV->Option PV:=u8 2 1 UC
def Ve (Ac:Addr):List PV->Addr->XV->Prop:=yFn 2 1 (Cm Ac)
theorem sc_check_rinses:v4 ["rinses","hues"] ["rinses"] (j3 WR):=y3
theorem NT (F:Fun K "check_rinses" "check_rinses" WR f fd)(D9:Fn P w K mg base 2 "is_rinse_row" ["row","hues"] (w4 QM))(Ez:mg "all"=none)(Aj:mg "isinstance"=none)(Ax:mg "len"=none)(Au:mg "list"=none)(E7:mg "MOST_HUES"=some (.int 4 E4))(Ec:mg "NoRinses"=some (.ref Ac))(Ee:PySem.W.excIn K Ac veMro "ValueError.__new__"=true):FnOk P w K mg base (y9 P w) 3 f fd ["rinses"] (m7 QL (Ve Ac)) :=
 QP (k:=2) (b:=UC) (xb:=(Cm Ac)) F sc_check_rinses rfl rfl λcdv A outer s H E hr=>⟨_,(j0 (c9 (xH (xI (K:=K) rfl (i8 (vG (K:=K) rfl) rfl Aj vF (aC (pv 0) (aW (vQ (v:= .ty "list") rfl Au jo rfl)))) (λ_=>rfl))) (j6 (jz rfl rfl rfl Ec Ee jg)) m4)
  (j0 (sW 1 sc_check_rinses.nd (v7 (zZ) (i8 (zL (K:=K) rfl) rfl Ax PySem.boot_len (aW (pv 0))) z8))
  (j0 (c9 (xH (Bq (JE) (JE) z8 (pv 1) (JH (v:= .int 4) rfl E7 ⟨_,rfl⟩))) (j6 (jz rfl rfl rfl Ec Ee jg)) m4)
  (j6 (c9 (xH (xI (K:=K) rfl (i8 (ZT (K:=K) rfl rfl) rfl Ez ZR (aW (xG (N':=["row","hues"]) (cap:=[none,some 1]) (qz rfl rfl rfl) rfl (@xc _ K _ _ _ rfl (pv 0)) (λ_ _ _ _ _ _=>(r9 (i:=0) (by show (["row","hues"]:List Str).Nodup;decide +kernel) rfl (Or.inl rfl))) (λ_ _ _ _ _ _=>qK) (λ_ _ _ _ _ _=>(fW D9 hr (aC (pv 0) (aW (pv 1)))))))) (λ_=>rfl))) (j6 (jz rfl rfl rfl Ec Ee jg)) m4))))),
  inferInstance,inferInstance⟩
abbrev Ys:Stmt:=top 37
abbrev Gb:MS:=(y8 (t6 [none,none] [0,1] (ZV (q0 (x0 0) x8)) (zr 2 (i0 (w5 0) (i0 (w5 1) zp))) c7 (ql (q0 (x0 1) (q0 (m8 (q0 (x0 0) x8)) x8)))))
def XY:List PV->Option PV:=jV 1 1 Gb
theorem Sj:v4 ["row"] ["row"] (j3 Ys):=y3
theorem HD (F:Fun K "straight_ways" "straight_ways" Ys f fd)(D3:mg "enumerate"=none):FnOk P w K mg base v5 1 f fd ["row"] (spO XY) :=
 okO (k:=0) (b:=Gb) F Sj rfl λcdv A outer s H E hr=>⟨_,(j6 (w6 (xG (N':=["hue","number"]) (cap:=[none,none]) (qz rfl rfl rfl) rfl (Bl (K:=K) rfl rfl D3 (aW (pv 0))) (λ_ _ _ _ _ _=>(wC (K:=K) (n:=2) rfl rfl (qE (r9 (i:=0) (by show (["hue","number"]:List Str).Nodup;decide +kernel) rfl (Or.inl rfl)) (qE (r9 (i:=1) (by show (["hue","number"]:List Str).Nodup;decide +kernel) rfl (Or.inl rfl)) wD)))) (λ_ _ _ _ _ _=>qK) (λ_ _ _ _ _ _=>(@qJ _ _ _ _ _ (aC (pv 1) (aW (@qg _ _ _ _ (aW (pv 0)))))))))),
  inferInstance⟩
abbrev Yi:Stmt:=top 38
abbrev UR:MS:=(y8 (ql (q0 (z9 qv (z9 v8 (z5 0) (dC (.int 0))) (z9 v8 (z5 1) (dC (.int 0)))) (q0 (z9 qv (z9 v8 (z5 0) (dC (.int 1))) (z9 v8 (z5 1) (dC (.int 1)))) x8))))
def XU:List PV->Option PV:=u8 2 2 UR
theorem Sd:v4 ["way","onward"] ["way","onward"] (j3 Yi):=y3
theorem Hm (F:Fun K "joined" "joined" Yi f fd):FnOk P w K mg base v5 1 f fd ["way","onward"] (w4 XU) :=
 qZ (k:=0) (b:=UR) F Sd rfl λcdv A outer s H E hr=>⟨_,(j6 (w6 (@qJ _ _ _ _ _ (aC (v7 (xt (K:=K) rfl) (iW (K:=K) rfl (pv 0) z8) (iW (K:=K) rfl (pv 1) z8)) (aW (v7 (xt (K:=K) rfl) (iW (K:=K) rfl (pv 0) z8) (iW (K:=K) rfl (pv 1) z8))))))),
  inferInstance⟩
abbrev Yn:Stmt:=top 39
abbrev UX:MS:=(y8 (dIf (dT (z9 pLt (z9 v8 (z5 1) (dC (.int 0))) (z9 v8 (z5 0) (dC (.int 0))))) (x0 1) (x0 0)))
def XX:List PV->Option PV:=u8 2 2 UX
theorem Sh:v4 ["way","other"] ["way","other"] (j3 Yn):=y3
theorem Hu (F:Fun K "lesser" "lesser" Yn f fd):FnOk P w K mg base v5 1 f fd ["way","other"] (w4 XX) :=
 qZ (k:=0) (b:=UX) F Sh rfl λcdv A outer s H E hr=>⟨_,(j6 (w6 (wB (i5 (QR) (iW (K:=K) rfl (pv 1) z8) (iW (K:=K) rfl (pv 0) z8) (c5 _)) (pv 1) (pv 0)))),
  inferInstance⟩
abbrev Yw:Stmt:=top 40
abbrev Gd:MS:=(y8 (t6 [none,none,some 0,some 1] [0,1] (dZip (q0 (x0 0) (q0 (x0 2) x8))) (zr 2 (i0 (w5 0) (i0 (w5 1) zp))) c7 (x9 XX (q0 (x0 0) (q0 (x9 XU (q0 (z9 v8 (z5 2) (z5 3)) (q0 (x0 1) x8))) x8)))))
def QN:List PV->Option PV:=jV 3 3 Gd
theorem Sl:v4 ["ways","hue","onward"] ["ways","hue","onward"] (j3 Yw):=y3
theorem HJ (F:Fun K "ways_through" "ways_through" Yw f fd)(N2:Fn P w K mg base 1 "joined" ["way","onward"] (w4 XU))(J9:Fn P w K mg base 1 "lesser" ["way","other"] (w4 XX))(V3:mg "zip"=none):FnOk P w K mg base v5 2 f fd ["ways","hue","onward"] (spO QN) :=
 okO (k:=1) (b:=Gd) F Sl rfl λcdv A outer s H E hr=>⟨_,(j6 (w6 (xG (N':=["way","more","ways","hue"]) (cap:=[none,none,some 0,some 1]) (qz rfl rfl rfl) rfl (Rz (K:=K) rfl rfl V3 (aC (pv 0) (aW (pv 2)))) (λ_ _ _ _ _ _=>(wC (K:=K) (n:=2) rfl rfl (qE (r9 (i:=0) (by show (["way","more","ways","hue"]:List Str).Nodup;decide +kernel) rfl (Or.inl rfl)) (qE (r9 (i:=1) (by show (["way","more","ways","hue"]:List Str).Nodup;decide +kernel) rfl (Or.inl rfl)) wD)))) (λ_ _ _ _ _ _=>qK) (λ_ _ _ _ _ _=>(fW J9 hr (aC (pv 0) (aW (fW N2 hr (aC (iW (K:=K) rfl (pv 2) (pv 3)) (aW (pv 1))))))))))),
  inferInstance⟩
abbrev Yl:Stmt:=top 41
abbrev UV:MS:=(y4 (qk 1 (t6 [none] [0] (t9 (x0 0)) (w5 0) c7 (x9 XY (q0 (x0 0) x8))))
  (y4 (Xy (vJ (q0 (z9 xQ (x9 qD (q0 (z5 0) x8)) (dC (.int 1))) x8)) (w5 2) (y4 (qk 3 (z9 v8 (z5 1) (z5 2)))
  (qk 1 (t6 [none,some 2,some 3] [0] (t9 (x0 1)) (w5 0) c7 (x9 QN (q0 (x0 0) (q0 (x0 1) (q0 (x0 2) x8))))))))
  (y8 (x0 1))))
def Jy:List PV->Option PV:=u8 4 1 UV
theorem sc_least_ways:v4 ["rinses","table","hue","onward"] ["rinses"] (j3 Yl):=y3
theorem Hr (F:Fun K "least_ways" "least_ways" Yl f fd)(D5:Fn P w K mg base 1 "straight_ways" ["row"] (spO XY))(D8:Fn P w K mg base 2 "ways_through" ["ways","hue","onward"] (spO QN))(Ax:mg "len"=none)(A7:mg "range"=none):FnOk P w K mg base v5 3 f fd ["rinses"] (w4 Jy) :=
 qZ (k:=2) (b:=UV) F sc_least_ways rfl λcdv A outer s H E hr=>⟨_,(j0 (Xb (i:=1) (N':=["row"]) (cap:=[none]) (qz rfl rfl rfl) rfl sc_least_ways.nd rfl rfl (@xc _ K _ _ _ rfl (pv 0)) (λ_ _ _ _ _ _=>(r9 (i:=0) (by show (["row"]:List Str).Nodup;decide +kernel) rfl (Or.inl rfl))) (λ_ _ _ _ _ _=>qK) (λ_ _ _ _ _ _=>(fW D5 hr (aW (pv 0)))))
  (j0 (vk PassesOwn.never rfl (QZ rfl A7 (aW (v7 (zZ) (i8 (zL (K:=K) rfl) rfl Ax PySem.boot_len (aW (pv 0))) z8))) (gW 2 sc_least_ways.nd)
   (j0 (sW 3 sc_least_ways.nd (iW (K:=K) rfl (pv 1) (pv 2)))
  (j6 (Xb (i:=1) (N':=["ways","hue","onward"]) (cap:=[none,some 2,some 3]) (qz rfl rfl rfl) rfl sc_least_ways.nd rfl rfl (@xc _ K _ _ _ rfl (pv 1)) (λ_ _ _ _ _ _=>(r9 (i:=0) (by show (["ways","hue","onward"]:List Str).Nodup;decide +kernel) rfl (Or.inl rfl))) (λ_ _ _ _ _ _=>qK) (λ_ _ _ _ _ _=>(fW D8 hr (aC (pv 0) (aC (pv 1) (aW (pv 2))))))))))
  (j6 (w6 (pv 1))))),
  inferInstance⟩
abbrev Yt:Stmt:=top 42
abbrev Gc:MS:=(y8 (t6 [none] [0] (t9 (x0 0)) (w5 0) c7 (z9 v8 (z5 0) (dC (.int 0)))))
def Jz:List PV->Option PV:=jV 1 1 Gc
theorem Sk:v4 ["ways"] ["ways"] (j3 Yt):=y3
theorem HG (F:Fun K "sums_of" "sums_of" Yt f fd):FnOk P w K mg base v5 1 f fd ["ways"] (spO Jz) :=
 okO (k:=0) (b:=Gc) F Sk rfl λcdv A outer s H E hr=>⟨_,(j6 (w6 (xG (N':=["way"]) (cap:=[none]) (qz rfl rfl rfl) rfl (@xc _ K _ _ _ rfl (pv 0)) (λ_ _ _ _ _ _=>(r9 (i:=0) (by show (["way"]:List Str).Nodup;decide +kernel) rfl (Or.inl rfl))) (λ_ _ _ _ _ _=>qK) (λ_ _ _ _ _ _=>(iW (K:=K) rfl (pv 0) z8))))),
  inferInstance⟩
abbrev Yk:Stmt:=top 43
abbrev UU:MS:=(y4 (zc (x9 QL (q0 (x0 0) x8)))
  (y8 (t6 [none] [0] (t9 (x9 Jy (q0 (x0 0) x8))) (w5 0) c7 (x9 Jz (q0 (x0 0) x8)))))
abbrev Cp (Ac:Addr):YM:=(xv false (zc (x9 QL (q0 (x0 0) x8))) (yX (vw (Ve Ac) (q0 (x0 0) x8)))
  xk)
abbrev vf:List PV->Option PV:=mZ (u8 1 1 UU)
def Xn (Ac:Addr):List PV->Addr->XV->Prop:=yFn 1 1 (Cp Ac)
theorem Sf:v4 ["rinses"] ["rinses"] (j3 Yk):=y3
theorem Hq (F:Fun K "least_rinses" "least_rinses" Yk f fd)(Eb:Fy P w K mg base 3 "check_rinses" ["rinses"] (m7 QL (Ve Ac)))(Ew:Fn P w K mg base 3 "least_ways" ["rinses"] (w4 Jy))(J2:Fn P w K mg base 1 "sums_of" ["ways"] (spO Jz)):FnOk P w K mg base (y9 P w) 4 f fd ["rinses"] (vq vf (Xn Ac)) :=
 okZY (k:=3) (b:=UU) (xb:=(Cp Ac)) F Sf rfl rfl λcdv A outer s H E hr=>⟨_,(j0 (qU (wA Eb hr (by decide) qw rfl (aW (pv 0))))
  (j6 (w6 (xG (N':=["ways"]) (cap:=[none]) (qz rfl rfl rfl) rfl (@xc _ K _ _ _ rfl (fW Ew hr (aW (pv 0)))) (λ_ _ _ _ _ _=>(r9 (i:=0) (by show (["ways"]:List Str).Nodup;decide +kernel) rfl (Or.inl rfl))) (λ_ _ _ _ _ _=>qK) (λ_ _ _ _ _ _=>(fW J2 hr (aW (pv 0)))))))),
  inferInstance,inferInstance⟩
abbrev WU:Stmt:=top 46
abbrev UD:MS:=(y4 (p6 (jU (dT (z9 Ze (z5 0) (dC .non))) (k6 (jU (p7 (x9 qu (q0 (x0 0) (q0 (dUn wy (dC (.int 1))) x8)))) (dT (z9 pLt (z5 0) (z5 2)))))) o7 m9)
  (p6 (k6 (p7 (x9 qu (q0 (x0 1) (q0 (dC (.int 0)) x8))))) o7 m9))
abbrev Cn (Af:Addr):YM:=(xv false (p6 (jU (dT (z9 Ze (z5 0) (dC .non))) (k6 (jU (p7 (x9 qu (q0 (x0 0) (q0 (dUn wy (dC (.int 1))) x8)))) (dT (z9 pLt (z5 0) (z5 2)))))) o7 m9) (yIf (jU (dT (z9 Ze (z5 0) (dC .non))) (k6 (jU (p7 (x9 qu (q0 (x0 0) (q0 (dUn wy (dC (.int 1))) x8)))) (dT (z9 pLt (z5 0) (z5 2)))))) (jK Af) xk)
  (yIf (k6 (p7 (x9 qu (q0 (x0 1) (q0 (dC (.int 0)) x8))))) (jK Af) xk))
def vd:List PV->Option PV:=u8 3 3 UD
def Xm (Af:Addr):List PV->Addr->XV->Prop:=yFn 3 3 (Cn Af)
theorem TU:v4 ["last","time","hues"] ["last","time","hues"] (j3 WU):=y3
theorem NU (F:Fun K "check_start" "check_start" WU f fd)(A6:Fn P w K mg base 2 "is_from" ["thing","least"] (w4 qu))(E8:mg "NoStart"=some (.ref Af))(E9:PySem.W.excIn K Af veMro "ValueError.__new__"=true):FnOk P w K mg base (y9 P w) 3 f fd ["last","time","hues"] (m7 vd (Xm Af)) :=
 QP (k:=2) (b:=UD) (xb:=(Cn Af)) F TU rfl rfl λcdv A outer s H E hr=>⟨_,(j0 (c9 (PW.pt (Wh (i5 (Ra) (pv 0) vi (c5 _)) (Wi (xH (PW.pt (Wh (xI (K:=K) rfl (fW A6 hr (aC (pv 0) (aW (Zh Zz z8)))) (λ_=>rfl)) (Wi (i5 (QR) (pv 0) (pv 2) (c5 _))))))))) (j6 (jz rfl rfl rfl E8 E9 jg)) m4)
  (j6 (c9 (xH (xI (K:=K) rfl (fW A6 hr (aC (pv 1) (aW z8))) (λ_=>rfl))) (j6 (jz rfl rfl rfl E8 E9 jg)) m4))),
  inferInstance,inferInstance⟩
abbrev JS:Stmt:=qB (top 21) 0
theorem Ty:v4 ["self","name"] ["self","name"] (j3 JS):=y3
theorem NC {P:Program}{w:World}{K:Fg}{mg:Str->Option Value}{base:Heap}{f R:Addr}{fd:FuncData}(F:Fun K "__init__" "Twice.__init__" JS f fd)(q:jJ K C R fI=true)(hs:PySem.W.findIn K (.ref C) "__setattr__"=some (some (.builtin "object.__setattr__")))(hn:PySem.W.findIn K (.ref C) "name"=some none):FnOk P w K mg base v5 1 f fd ["self","name"] (Xg C "name") :=
 okXI F Ty rfl q hs hn λcdv A outer s H E=>⟨pv 0,pv 1,rfl⟩
abbrev WP:Stmt:=top 47
abbrev UA:MS:=(y4 (p6 (dT (z9 pGt (x9 qD (q0 (z5 0) x8)) (dC (.int 10)))) o7 m9)
  (y4 (Qr 2 XA)
  (Xy (t9 (x0 0)) (w5 3) (y4 (p6 (k6 (p7 (x9 zg (q0 (x0 3) (q0 (x0 1) x8))))) o7 m9)
  (y4 (p6 (dT (vI (x9 qo (q0 (x0 3) x8)) (z5 2))) o7 m9)
  (zO 2 (x9 qo (q0 (x0 3) x8)) (dC (.bl true))))))))
abbrev Ck (Ae:Addr)(Ad:Addr)(Ag:Addr):YM:=(xv false (p6 (dT (z9 pGt (x9 qD (q0 (z5 0) x8)) (dC (.int 10)))) o7 m9) (yIf (dT (z9 pGt (x9 qD (q0 (z5 0) x8)) (dC (.int 10)))) (jK Ad) xk)
  (xv false (Qr 2 XA) xk
  (yFor false (t9 (x0 0)) (w5 3) (y4 (p6 (k6 (p7 (x9 zg (q0 (x0 3) (q0 (x0 1) x8))))) o7 m9)
  (y4 (p6 (dT (vI (x9 qo (q0 (x0 3) x8)) (z5 2))) o7 m9)
  (zO 2 (x9 qo (q0 (x0 3) x8)) (dC (.bl true))))) (xv false (p6 (k6 (p7 (x9 zg (q0 (x0 3) (q0 (x0 1) x8))))) o7 m9) (yIf (k6 (p7 (x9 zg (q0 (x0 3) (q0 (x0 1) x8))))) (jK Ae) xk)
  (xv false (p6 (dT (vI (x9 qo (q0 (x0 3) x8)) (z5 2))) o7 m9) (yIf (dT (vI (x9 qo (q0 (x0 3) x8)) (z5 2))) (YX Ag "name" (x9 qo (q0 (x0 3) x8))) xk)
  xk)))))
def vc:List PV->Option PV:=u8 4 2 UA
def jI (Ae:Addr)(Ad:Addr)(Ag:Addr):List PV->Addr->XV->Prop:=yFn 4 2 (Ck Ae Ad Ag)
theorem sc_check_cloths:v4 ["cloths","hues","seen","cloth"] ["cloths","hues"] (j3 WP):=y3
theorem NR (F:Fun K "check_cloths" "check_cloths" WP f fd)(Iy:Fn P w K mg base 3 "is_cloth" ["thing","hues"] (w4 zg))(At:Fn P w K mg base 1 "name_of" ["cloth"] (w4 qo))(Ax:mg "len"=none)(Ej:mg "MOST_CLOTHS"=some (.int 10 En))(J4:mg "NoCloth"=some (.ref Ae))(J7:mg "TooMany"=some (.ref Ad))(Q4:XMk P w K mg base 1 "Twice" Ag "name")(J3:PySem.W.excIn K Ae veMro "ValueError.__new__"=true)(Iz:PySem.W.excIn K Ad veMro "ValueError.__new__"=true):FnOk P w K mg base (y9 P w) 4 f fd ["cloths","hues"] (m7 vc (jI Ae Ad Ag)) :=
 QP (k:=3) (b:=UA) (xb:=(Ck Ae Ad Ag)) F sc_check_cloths rfl rfl λcdv A outer s H E hr=>⟨_,(j0 (c9 (i5 (Bc) (i8 (zL (K:=K) rfl) rfl Ax PySem.boot_len (aW (pv 0))) (JH (v:= .int 10) rfl Ej ⟨_,rfl⟩) (c5 _)) (j6 (jz rfl rfl rfl J7 Iz jg)) m4)
  (j0 (sW 2 sc_check_cloths.nd Wb)
  (j6 (vk PassesOwn.leaving rfl (@xc _ K _ _ _ rfl (pv 0)) (gW 3 sc_check_cloths.nd)
   (j0 (c9 (xH (xI (K:=K) rfl (fW Iy hr (aC (pv 3) (aW (pv 1)))) (λ_=>rfl))) (j6 (jz rfl rfl rfl J4 J3 jg)) m4)
  (j0 (c9 (Br (Rf (QB hr) (fW At hr (aW (pv 3))) (pv 2))) (j6 (RH rfl rfl Q4 hr (by decide) rfl (j8 (fW At hr (aW (pv 3))) y2) jg)) m4)
  (j6 (Bp (QB hr) (pv 2) (fW At hr (aW (pv 3))) zh rfl)))))))),
  inferInstance,inferInstance⟩
abbrev WF:Stmt:=qB (top 48) 1
abbrev Ur (Aa:Addr):MS:=(y8 (z9 xQ (x9 qD (q0 (p5 Aa "least" (x0 0)) x8)) (dC (.int 1))))
def zf (Aa:Addr):List PV->Option PV:=u8 1 1 (Ur Aa)
theorem TC:v4 ["self"] ["self"] (j3 WF):=y3
theorem NG (F:Fun K "hues" "Works.hues" WF f fd)(Ax:mg "len"=none)[k8 K Aa][w9 K Aa "least"]:FnOk P w K mg base v5 1 f fd ["self"] (w4 (zf Aa)) :=
 qZ (k:=0) (b:=(Ur Aa)) F TC rfl λcdv A outer s H E hr=>⟨_,(j6 (w6 (v7 (zZ) (i8 (zL (K:=K) rfl) rfl Ax PySem.boot_len (aW (qp (K:=K) rfl (pv 0) rfl))) z8))),
  inferInstance⟩
abbrev vo:Stmt:=qB (top 48) 0
abbrev ZQ (Aa:Addr):MS:=(y4 (zQ Aa "least" (x9 vf (q0 (x0 1) x8)))
  (y4 (zc (x9 vd (q0 (x0 3) (q0 (x0 4) (q0 (zF Aa "hues" (zf Aa) 0 x8) x8)))))
  (y4 (zc (x9 vc (q0 (x0 2) (q0 (zF Aa "hues" (zf Aa) 0 x8) x8))))
  (y4 (zQ Aa "given" (t6 [none] [0] (t9 (x0 1)) (w5 0) c7 (x9 vh (q0 (z5 0) x8))))
  (y4 (zQ Aa "held" (x9 QS (q0 (t6 [none] [0] (t9 (x0 2)) (w5 0) c7 (ql (q0 (x9 qo (q0 (x0 0) x8)) (q0 (x0 0) x8)))) x8)))
  (y4 (zQ Aa "last" (dIf (dT (z9 Zd (z5 3) (dC .non))) (dUn wy (dC (.int 1))) (x0 3)))
  (zQ Aa "time" (x0 4))))))))
abbrev Ch (Ae:Addr)(Ac:Addr)(Af:Addr)(Ad:Addr)(Ag:Addr)(Aa:Addr):YM:=(xv false (zQ Aa "least" (x9 vf (q0 (x0 1) x8))) (yX (vw (Xn Ac) (q0 (x0 1) x8)))
  (xv false (zc (x9 vd (q0 (x0 3) (q0 (x0 4) (q0 (zF Aa "hues" (zf Aa) 0 x8) x8))))) (yX (vw (Xm Af) (q0 (x0 3) (q0 (x0 4) (q0 (zF Aa "hues" (zf Aa) 0 x8) x8)))))
  (xv false (zc (x9 vc (q0 (x0 2) (q0 (zF Aa "hues" (zf Aa) 0 x8) x8)))) (yX (vw (jI Ae Ad Ag) (q0 (x0 2) (q0 (zF Aa "hues" (zf Aa) 0 x8) x8))))
  xk)))
def xO (Aa:Addr):List PV->Option PV:=Xz 5 5 Aa (ZQ Aa)
def jk (Ae:Addr)(Ac:Addr)(Af:Addr)(Ad:Addr)(Ag:Addr)(Aa:Addr):List PV->Addr->XV->Prop:=Ct 5 5 Aa (Ch Ae Ac Af Ad Ag Aa)
theorem BW:v4 ["self","rinses","cloths","last","time"] ["self","rinses","cloths","last","time"] (j3 vo):=y3
theorem Np (F:FunD K "__init__" "Works.__init__" vo f fd)(A0:Fy P w K mg base 4 "check_cloths" ["cloths","hues"] (m7 vc (jI Ae Ad Ag)))(A4:Fy P w K mg base 3 "check_start" ["last","time","hues"] (m7 vd (Xm Af)))(A3:Fy P w K mg base 4 "least_rinses" ["rinses"] (vq vf (Xn Ac)))(At:Fn P w K mg base 1 "name_of" ["cloth"] (w4 qo))(E6:mg "dict"=none)(Au:mg "list"=none)[k8 K Aa][w9 K Aa "given"][w9 K Aa "held"][w9 K Aa "last"][w9 K Aa "least"][w9 K Aa "time"](Az:Mt P w K mg base 1 Aa "hues" ["self"] (w4 (zf Aa))):FnOk P w K mg base (y9 P w) 5 f fd ["self","rinses","cloths","last","time"] (zz Aa (xO Aa) (jk Ae Ac Af Ad Ag Aa)) :=
 okIY (k:=4) (b:=ZQ Aa) (xb:=Ch Ae Ac Af Ad Ag Aa) F BW rfl rfl (λcdv A outer s H E hr=>⟨_,(j0 (zj (K:=K) rfl (pv 0) (wA A3 hr (by decide) qw rfl (aW (pv 1))))
  (j0 (qU (wA A4 hr (by decide) qw rfl (aC (pv 3) (aC (pv 4) (aW (c6 Az hr (by decide) (pv 0)))))))
  (j0 (qU (wA A0 hr (by decide) qw rfl (aC (pv 2) (aW (c6 Az hr (by decide) (pv 0))))))
  (j0 (zj (K:=K) rfl (pv 0) (xG (N':=["row"]) (cap:=[none]) (qz rfl rfl rfl) rfl (@xc _ K _ _ _ rfl (pv 1)) (λ_ _ _ _ _ _=>(r9 (i:=0) (by show (["row"]:List Str).Nodup;decide +kernel) rfl (Or.inl rfl))) (λ_ _ _ _ _ _=>qK) (λ_ _ _ _ _ _=>(ja (Qm (K:=K) rfl) rfl Au jo (aW (pv 0))))))
  (j0 (zj (K:=K) rfl (pv 0) (ja (Gs (K:=K) rfl rfl) rfl E6 Go (aW (xG (N':=["cloth"]) (cap:=[none]) (qz rfl rfl rfl) rfl (@xc _ K _ _ _ rfl (pv 2)) (λ_ _ _ _ _ _=>(r9 (i:=0) (by show (["cloth"]:List Str).Nodup;decide +kernel) rfl (Or.inl rfl))) (λ_ _ _ _ _ _=>qK) (λ_ _ _ _ _ _=>(@qJ _ _ _ _ _ (aC (fW At hr (aW (pv 0))) (aW (pv 0)))))))))
  (j0 (zj (K:=K) rfl (pv 0) (wB (i5 (VV) (pv 3) vi (c5 _)) (Zh Zz z8) (pv 3)))
  (j6 (zj (K:=K) rfl (pv 0) (pv 4))))))))),
  (by repeat' first|infer_instance|(refine @Mi.Pa _ _ _ _ ?_ ?_)),(by repeat' first|infer_instance|(refine @Mi.Sq _ _ _ _ _ _ ?_ ?_ ?_)|(refine @Mi.Pa _ _ _ _ ?_ ?_))⟩)
abbrev WL:Stmt:=qB (top 48) 4
abbrev Ux (Aa:Addr):MS:=(y8 (z9 v8 (z9 v8 (p5 Aa "least" (x0 0)) (z5 1)) (z5 2)))
def XQ (Aa:Addr):List PV->Option PV:=u8 3 3 (Ux Aa)
theorem TN:v4 ["self","first","then"] ["self","first","then"] (j3 WL):=y3
theorem NN (F:Fun K "tray_rinse" "Works.tray_rinse" WL f fd)[k8 K Aa][w9 K Aa "least"]:FnOk P w K mg base v5 1 f fd ["self","first","then"] (w4 (XQ Aa)) :=
 qZ (k:=0) (b:=(Ux Aa)) F TN rfl λcdv A outer s H E hr=>⟨_,(j6 (w6 (iW (K:=K) rfl (iW (K:=K) rfl (qp (K:=K) rfl (pv 0) rfl) (pv 1)) (pv 2)))),
  inferInstance⟩
abbrev WI:Stmt:=qB (top 48) 3
abbrev Uu (Aa:Addr):MS:=(y8 (dIf (dT (z9 pEq (z5 1) (z5 2))) (dC (.int 0)) (u6 Aa "tray_rinse" (XQ Aa) (x0 0) (q0 (x0 1) (q0 (x0 2) x8)))))
def QK (Aa:Addr):List PV->Option PV:=u8 3 3 (Uu Aa)
theorem TH:v4 ["self","first","then"] ["self","first","then"] (j3 WI):=y3
theorem NK (F:Fun K "rinse" "Works.rinse" WI f fd)(B9:Mt P w K mg base 1 Aa "tray_rinse" ["self","first","then"] (w4 (XQ Aa))):FnOk P w K mg base v5 2 f fd ["self","first","then"] (w4 (QK Aa)) :=
 qZ (k:=1) (b:=(Uu Aa)) F TH rfl λcdv A outer s H E hr=>⟨_,(j6 (w6 (wB (i5 (vg (K:=K) (hu6 hr) rfl) (pv 1) (pv 2) (c5 _)) z8 (Zf B9 hr (by decide) (pv 0) (aC (pv 1) (aW (pv 2))))))),
  inferInstance⟩
abbrev WK:Stmt:=qB (top 48) 5
abbrev Uw (Aa:Addr):MS:=(y8 (ql (q0 (p5 Aa "last" (x0 0)) (q0 (p5 Aa "time" (x0 0)) x8))))
def xP (Aa:Addr):List PV->Option PV:=u8 1 1 (Uw Aa)
theorem TM:v4 ["self"] ["self"] (j3 WK):=y3
theorem NM (F:Fun K "start" "Works.start" WK f fd)[k8 K Aa][w9 K Aa "last"][w9 K Aa "time"]:FnOk P w K mg base v5 1 f fd ["self"] (w4 (xP Aa)) :=
 qZ (k:=0) (b:=(Uw Aa)) F TM rfl λcdv A outer s H E hr=>⟨_,(j6 (w6 (@qJ _ _ _ _ _ (aC (qp (K:=K) rfl (pv 0) rfl) (aW (qp (K:=K) rfl (pv 0) rfl)))))),
  inferInstance⟩
abbrev WG:Stmt:=qB (top 48) 6
abbrev Us (Aa:Addr):MS:=(y8 (x9 VY (q0 (p5 Aa "held" (x0 0)) x8)))
def zH (Aa:Addr):List PV->Option PV:=jV 1 1 (Us Aa)
theorem TD:v4 ["self"] ["self"] (j3 WG):=y3
theorem NI (F:Fun K "names" "Works.names" WG f fd)(Es:mg "sorted"=none)[k8 K Aa][w9 K Aa "held"]:FnOk P w K mg base v5 1 f fd ["self"] (spO (zH Aa)) :=
 okO (k:=0) (b:=(Us Aa)) F TD rfl λcdv A outer s H E hr=>⟨_,(j6 (w6 (i8 (Dv (K:=K) rfl rfl) rfl Es Gq (aW (qp (K:=K) rfl (pv 0) rfl))))),
  inferInstance⟩
abbrev WJ:Stmt:=qB (top 48) 2
abbrev Uv (Aa:Addr):MS:=(y8 (t6 [none] [0] (t9 (p5 Aa "given" (x0 0))) (w5 0) c7 (x9 vh (q0 (z5 0) x8))))
abbrev jx (Aa:Addr):List PV->Option PV:=mZ (u8 1 1 (Uv Aa))
theorem TJ:v4 ["self"] ["self"] (j3 WJ):=y3
theorem NL (F:Fun K "rinses" "Works.rinses" WJ f fd)(Au:mg "list"=none)[k8 K Aa][w9 K Aa "given"]:FnOk P w K mg base v5 1 f fd ["self"] (spZ (jx Aa)) :=
 okZ (k:=0) (b:=(Uv Aa)) F TJ rfl λcdv A outer s H E hr=>⟨_,(j6 (w6 (xG (N':=["row"]) (cap:=[none]) (qz rfl rfl rfl) rfl (@xc _ K _ _ _ rfl (qp (K:=K) rfl (pv 0) rfl)) (λ_ _ _ _ _ _=>(r9 (i:=0) (by show (["row"]:List Str).Nodup;decide +kernel) rfl (Or.inl rfl))) (λ_ _ _ _ _ _=>qK) (λ_ _ _ _ _ _=>(ja (Qm (K:=K) rfl) rfl Au jo (aW (pv 0))))))),
  by infer_instance⟩
abbrev WD:Stmt:=qB (top 48) 7
abbrev Up (Aa:Addr):MS:=(y4 (p6 (dOr (k6 (p7 (x9 o4 (q0 (z5 1) (q0 (dC (.ty "str")) x8))))) (dT (Qo (z5 1) (p5 Aa "held" (x0 0))))) o7 m9)
  (y8 (Xx (p5 Aa "held" (x0 0)) (z5 1))))
abbrev Cg (Ah:Addr)(Aa:Addr):YM:=(xv false (p6 (dOr (k6 (p7 (x9 o4 (q0 (z5 1) (q0 (dC (.ty "str")) x8))))) (dT (Qo (z5 1) (p5 Aa "held" (x0 0))))) o7 m9) (yIf (dOr (k6 (p7 (x9 o4 (q0 (z5 1) (q0 (dC (.ty "str")) x8))))) (dT (Qo (z5 1) (p5 Aa "held" (x0 0))))) (jK Ah) xk)
  xk)
def xE (Aa:Addr):List PV->Option PV:=u8 2 2 (Up Aa)
def jj (Ah:Addr)(Aa:Addr):List PV->Addr->XV->Prop:=yFn 2 2 (Cg Ah Aa)
theorem Tz:v4 ["self","name"] ["self","name"] (j3 WD):=y3
theorem NE (F:Fun K "cloth" "Works.cloth" WD f fd)(Aj:mg "isinstance"=none)(Q1:mg "str"=none)(N1:mg "NoName"=some (.ref Ah))[k8 K Aa][w9 K Aa "held"](N4:PySem.W.excIn K Ah veMro "ValueError.__new__"=true):FnOk P w K mg base (y9 P w) 1 f fd ["self","name"] (m7 (xE Aa) (jj Ah Aa)) :=
 QP (k:=0) (b:=(Up Aa)) (xb:=(Cg Ah Aa)) F Tz rfl rfl λcdv A outer s H E hr=>⟨_,(j0 (c9 (PW.pt (wG (xH (xI (K:=K) rfl (i8 (vG (K:=K) rfl) rfl Aj vF (aC (pv 1) (aW (vQ (v:= .ty "str") rfl Q1 Gr rfl)))) (λ_=>rfl))) (Xc (Br (Rg (QB hr) (pv 1) (qp (K:=K) rfl (pv 0) rfl)))))) (j6 (jz rfl rfl rfl N1 N4 jg)) m4)
  (j6 (w6 (Bi (QB hr) (qp (K:=K) rfl (pv 0) rfl) (pv 1) (λ_ _=>rfl))))),
  inferInstance,inferInstance⟩
abbrev WN:Stmt:=top 27
abbrev Uz (Aa:Addr):MS:=(y4 (p6 (k6 (p7 (x9 o4 (q0 (z5 1) (q0 (dC (.ty "list")) x8))))) (y8 (dC (.bl false))) m9)
  (y4 (qk 2 (u6 Aa "names" (zH Aa) (x0 0) x8))
  (y8 (xY (x9 jy (q0 (wb [none,some 2] [0] (t9 (z5 1)) (w5 0) c7 (z9 (pIn false) (z5 0) (z5 1))) x8)) (z9 pEq (GG (z5 1)) (x9 qD (q0 (z5 1) x8)))))))
def wq (Aa:Addr):List PV->Option PV:=jq 3 [false,true] (Uz Aa)
theorem sc_are_names:v4 ["works","names","known"] ["works","names"] (j3 WN):=y3
theorem NP (F:Fun K "are_names" "are_names" WN f fd)(Ez:mg "all"=none)(Aj:mg "isinstance"=none)(Ax:mg "len"=none)(Au:mg "list"=none)(U7:mg "set"=none)(Ar:Mt P w K mg base 1 Aa "names" ["self"] (spO (zH Aa))):FnOk P w K mg base v5 2 f fd ["works","names"] (za [false,true] (wq Aa)) :=
 okPB (k:=1) (b:=(Uz Aa)) F sc_are_names rfl rfl λcdv A outer s H E hr=>⟨_,(j0 (c9 (xH (xI (K:=K) rfl (i8 (vG (K:=K) rfl) rfl Aj vF (aC (pv 1) (aW (vQ (v:= .ty "list") rfl Au jo rfl)))) (λ_=>rfl))) (j6 (w6 zh)) m4)
  (j0 (sW 2 sc_are_names.nd (c6 Ar hr (by decide) (pv 0)))
  (j6 (w6 (QW (i8 (ZT (K:=K) rfl rfl) rfl Ez ZR (aW (xG (N':=["thing","known"]) (cap:=[none,some 2]) (qz rfl rfl rfl) rfl (@xc _ K _ _ _ rfl (pv 1)) (λ_ _ _ _ _ _=>(r9 (i:=0) (by show (["thing","known"]:List Str).Nodup;decide +kernel) rfl (Or.inl rfl))) (λ_ _ _ _ _ _=>qK) (λ_ _ _ _ _ _=>(QX (HP (K:=K) rfl) (pv 0) (pv 1) (by with_unfolding_all rfl)))))) (Zg (QX (vg (K:=K) (hu6 hr) rfl) (i8 Dl rfl Ax PySem.boot_len (aW (ja (Ds (K:=K) rfl rfl) rfl U7 CY (aW (pv 1))))) (i8 (zL (K:=K) rfl) rfl Ax PySem.boot_len (aW (pv 1))) (c5 _)))))))),
  inferInstance⟩
abbrev WQ:Stmt:=top 28
abbrev UB (Aa:Addr):MS:=(p6 (k6 (p7 (x9 (wq Aa) (q0 (x0 0) (q0 (z5 1) x8))))) o7 m9)
def XS (Aa:Addr):List PV->Option PV:=jq 2 [false,true] (UB Aa)
theorem TR:v4 ["works","names"] ["works","names"] (j3 WQ):=y3
theorem NS (F:Fun K "check_names" "check_names" WQ f fd)(E5:Fn P w K mg base 2 "are_names" ["works","names"] (za [false,true] (wq Aa))):FnOk P w K mg base v5 3 f fd ["works","names"] (za [false,true] (XS Aa)) :=
 okPB (k:=2) (b:=(UB Aa)) F TR rfl rfl λcdv A outer s H E hr=>⟨_,(j6 (c9 (xH (xI (K:=K) rfl (fW E5 hr (aC (pv 0) (aW (pv 1)))) (λ_=>rfl))) (j6 RG) m4)),
  inferInstance⟩
abbrev WX:Stmt:=top 29
abbrev UG (Aa:Addr):MS:=(y4 (zc (x9 (XS Aa) (q0 (x0 0) (q0 (z5 1) x8))))
  (y4 (qk 2 (u6 Aa "start" (xP Aa) (x0 0) x8))
  (y4 (qk 3 (z9 v8 (z5 2) (dC (.int 0))))
  (y4 (qk 4 (z9 v8 (z5 2) (dC (.int 1))))
  (y4 (Qr 5 (m8 x8))
  (y4 (ZW 1 (w5 6) (y4 (qk 7 (u6 Aa "cloth" (xE Aa) (x0 0) (q0 (x0 6) x8)))
  (y4 (qk 8 (z9 qv (z5 4) (u6 Aa "rinse" (QK Aa) (x0 0) (q0 (x0 3) (q0 (x9 zt (q0 (x0 7) x8)) x8)))))
  (y4 (qk 4 (z9 qv (z5 8) (x9 vN (q0 (x0 7) x8))))
  (y4 (qk 3 (x9 zt (q0 (x0 7) x8)))
  (Xw 5 (ql (q0 (x0 6) (q0 (x0 8) (q0 (x0 4) x8))))))))))
  (y8 (oVar 5))))))))
def ve (Aa:Addr):List PV->Option PV:=Qp 9 [false,true] (UG Aa)
theorem sc_done_rows:v4 ["works","names","start","last","time","rows","name","cloth","begin"] ["works","names"] (j3 WX):=y3
theorem NY (F:Fun K "done_rows" "done_rows" WX f fd)(Eh:Fn P w K mg base 3 "check_names" ["works","names"] (za [false,true] (XS Aa)))(B8:Fn P w K mg base 1 "hue_of" ["cloth"] (w4 zt))(D2:Fn P w K mg base 1 "length_of" ["cloth"] (w4 vN))(Am:My P w K mg base 1 Aa "cloth" ["self","name"] (m7 (xE Aa) (jj Ah Aa)))(Ek:Mt P w K mg base 2 Aa "rinse" ["self","first","then"] (w4 (QK Aa)))(An:Mt P w K mg base 1 Aa "start" ["self"] (w4 (xP Aa))):FnOk P w K mg base v5 4 f fd ["works","names"] (jd [false,true] (ve Aa)) :=
 okOB (k:=3) (b:=(UG Aa)) F sc_done_rows rfl rfl λcdv A outer s H E hr=>⟨_,(j0 (qU (fW Eh hr (aC (pv 0) (aW (pv 1)))))
  (j0 (sW 2 sc_done_rows.nd (c6 An hr (by decide) (pv 0)))
  (j0 (sW 3 sc_done_rows.nd (iW (K:=K) rfl (pv 2) z8))
  (j0 (sW 4 sc_done_rows.nd (iW (K:=K) rfl (pv 2) z8))
  (j0 (sW 5 sc_done_rows.nd (@qg _ _ _ _ y2))
  (j0 (vk PassesOwn.never rfl (@xc _ K _ _ _ rfl (pv 1)) (gW 6 sc_done_rows.nd)
   (j0 (sW 7 sc_done_rows.nd (xR Am hr (by decide) QV (pv 0) (aW (pv 6))))
  (j0 (sW 8 sc_done_rows.nd (v7 (xt (K:=K) rfl) (pv 4) (Zf Ek hr (by decide) (pv 0) (aC (pv 3) (aW (fW B8 hr (aW (pv 7))))))))
  (j0 (sW 4 sc_done_rows.nd (v7 (xt (K:=K) rfl) (pv 8) (fW D2 hr (aW (pv 7)))))
  (j0 (sW 3 sc_done_rows.nd (fW B8 hr (aW (pv 7))))
  (j6 (qU (wz (K:=K) rfl PySem.F.plainAttrs_list PySem.F.slot_list_append PySem.F.type_list_append wv (pv 5) (j8 (@qJ _ _ _ _ _ (aC (pv 6) (aC (pv 8) (aW (pv 4))))) y2)))))))))
  (j6 (w6 (pv 5))))))))),
  inferInstance⟩
abbrev WZ:Stmt:=top 30
abbrev UI (Aa:Addr):MS:=(y4 (qk 2 (x9 (ve Aa) (q0 (x0 0) (q0 (z5 1) x8))))
  (y8 (dIf (p7 (z5 2)) (z9 v8 (z9 v8 (z5 2) (dUn wy (dC (.int 1)))) (dC (.int 2))) (z9 v8 (u6 Aa "start" (xP Aa) (x0 0) x8) (dC (.int 1))))))
def XT (Aa:Addr):List PV->Option PV:=jq 3 [false,true] (UI Aa)
theorem sc_end_of:v4 ["works","names","rows"] ["works","names"] (j3 WZ):=y3
theorem Hc (F:Fun K "end_of" "end_of" WZ f fd)(D1:Fn P w K mg base 4 "done_rows" ["works","names"] (jd [false,true] (ve Aa)))(An:Mt P w K mg base 1 Aa "start" ["self"] (w4 (xP Aa))):FnOk P w K mg base v5 5 f fd ["works","names"] (za [false,true] (XT Aa)) :=
 okPB (k:=4) (b:=(UI Aa)) F sc_end_of rfl rfl λcdv A outer s H E hr=>⟨_,(j0 (sW 2 sc_end_of.nd (fW D1 hr (aC (pv 0) (aW (pv 1)))))
  (j6 (w6 (wB (xI (K:=K) rfl (pv 2) (λ_=>rfl)) (iW (K:=K) rfl (iW (K:=K) rfl (pv 2) (Zh Zz z8)) z8) (iW (K:=K) rfl (c6 An hr (by decide) (pv 0)) z8))))),
  inferInstance⟩
abbrev WE:Stmt:=qB (top 48) 15
abbrev Uq (Aa:Addr):MS:=(y8 (t6 [none,some 1] [0] (dItV (p5 Aa "held" (x0 0))) (w5 0) (dT (z9 (pIn true) (x9 qo (q0 (x0 0) x8)) (z5 1))) (x0 0)))
def vM (Aa:Addr):List PV->Option PV:=Qp 2 [false,true] (Uq Aa)
theorem TB:v4 ["self","names"] ["self","names"] (j3 WE):=y3
theorem NF (F:Fun K "cloths_but" "Works.cloths_but" WE f fd)(At:Fn P w K mg base 1 "name_of" ["cloth"] (w4 qo))[k8 K Aa][w9 K Aa "held"]:FnOk P w K mg base v5 2 f fd ["self","names"] (jd [false,true] (vM Aa)) :=
 okOB (k:=1) (b:=(Uq Aa)) F TB rfl rfl λcdv A outer s H E hr=>⟨_,(j6 (w6 (xG (N':=["cloth","names"]) (cap:=[none,some 1]) (qz rfl rfl rfl) rfl (Rx (qp (K:=K) rfl (pv 0) rfl)) (λ_ _ _ _ _ _=>(r9 (i:=0) (by show (["cloth","names"]:List Str).Nodup;decide +kernel) rfl (Or.inl rfl))) (λ_ _ _ _ _ _=>(RN (i5 (HX (K:=K) rfl) (fW At hr (aW (pv 0))) (pv 1) (by with_unfolding_all rfl)))) (λ_ _ _ _ _ _=>(pv 0))))),
  inferInstance⟩
abbrev Yj:Stmt:=top 14
abbrev US:MS:=(y8 (z9 xQ (z5 1) (x9 wu (q0 (x0 0) x8))))
def XW:List PV->Option PV:=u8 2 2 US
theorem Se:v4 ["cloth","end"] ["cloth","end"] (j3 Yj):=y3
theorem Hn (F:Fun K "late_by" "late_by" Yj f fd)(Ep:Fn P w K mg base 1 "due_of" ["cloth"] (w4 wu)):FnOk P w K mg base v5 2 f fd ["cloth","end"] (w4 XW) :=
 qZ (k:=1) (b:=US) F Se rfl λcdv A outer s H E hr=>⟨_,(j6 (w6 (v7 (zZ) (pv 1) (fW Ep hr (aW (pv 0)))))),
  inferInstance⟩
abbrev Ya:Stmt:=top 32
abbrev UJ:MS:=(y8 (dIf (dT (z9 Zd (z5 0) (dC .non))) (x0 1) (x9 VX (q0 (z5 0) (q0 (z5 1) x8)))))
def Jx:List PV->Option PV:=u8 2 2 UJ
theorem TW:v4 ["late","other"] ["late","other"] (j3 Ya):=y3
theorem Hd (F:Fun K "greater_late" "greater_late" Ya f fd)(U5:mg "max"=none):FnOk P w K mg base v5 1 f fd ["late","other"] (w4 Jx) :=
 qZ (k:=0) (b:=UJ) F TW rfl λcdv A outer s H E hr=>⟨_,(j6 (w6 (wB (i5 (VV) (pv 0) vi (c5 _)) (pv 1) (i8 (Dq rfl) rfl U5 CW (aC (pv 0) (aW (pv 1))))))),
  inferInstance⟩
theorem YL (n:Int):zW [.at (.int n)]=some (.at (.bl true)):=i7 rfl (k9 (wd (j4 rfl Lf) (Kb (v:=false) (j4 rfl Lg))))
theorem PK (n k:Int):qu [.at (.int n),.at (.int k)]=some (.at (.bl (decide (k<=n)))):=i7 rfl (k9 (wd (j4 rfl (YL n)) rfl))
theorem vU {k:Int}(h:k<=n):qu [.at (.int n),.at (.int k)]=some (.at (.bl true)):=(PK n k).trans (by rw [yu h])
theorem PL (h:wS s):zu [.at (.str s)]=some (.at (.bl true)):=by
 have hl:lim=1000000:=rfl;have l1:=h.one;have l8:=h.eight;have ln:qD [.at (.str s)]=some (.at (.int s.length)):=if_pos (by omega);refine i7 rfl (u7 (qG (jr (o8 (o9 (j4 rfl XL))) (o8 (u9 (Qu (r:=true) rfl (j4 rfl ln) ?_ rfl ?_)))) qH) (k9 (j4 (j5 (xp (λc:Nat=>PV.at (.str ⟨#[c]⟩)) (λ_=>PV.at (.bl true)) s.cps.toList rfl rfl ?_ ?_) rfl) (ZP _))))
 ·show some (PV.at (.bl (decide ((1:Int)<=(s.length:Int)))))=_;rw [yu (by omega)]
 ·show some (PV.at (.bl (decide ((s.length:Int)<=8))))=_;rw [yu (by omega)]
 ·have:s.cps.toList.length=s.length:=by simp [Str.length]
  omega
 ·intro c hc;obtain ⟨c1,c2⟩:=h.low c hc;refine ⟨_,rfl,Qu rfl rfl ?_ rfl ?_⟩
  ·show some (PV.at (.bl (!decide ([c]<("a":Str).cps.toList))))=_;have e:¬ ([c]<[97]):=by rw [uN];simp;omega
   rw [show ("a":Str).cps.toList=[97] by decide +kernel,yP e];rfl
  ·show some (PV.at (.bl (!decide (("z":Str).cps.toList<[c]))))=_;have e:¬ ([122]<[c]):=by rw [uN];simp;omega
   rw [show ("z":Str).cps.toList=[122] by decide +kernel,yP e];rfl
theorem YI (ok:c.Ok h):zg [c.pv,.at (.int h)]=some (.at (.bl true)):=by refine i7 rfl (u7 (qG (jr (o8 (o9 (j4 rfl VJ))) (u9 (v:=false) rfl)) qH) (u7 (qG (jr (o8 (o9 (j4 (j5 (j4 rfl rfl) rfl) (PL ok.nm)))) (jr (o8 (o9 (j4 (j5 (j4 rfl rfl) rfl) (vU (n:=(c.hue:Int)) (k:=0) (by omega))))) (u9 (v:=false) (v6 (j4 rfl rfl) rfl ?_)))) qH) (k9 (wd (j4 (j5 (j4 rfl rfl) rfl) (vU ok.l1)) (wd (j4 (j5 (j4 rfl rfl) rfl) (YL _)) (j4 (j5 (j4 rfl rfl) rfl) (vU ok.w1)))))));show some (PV.at (.bl (decide ((h:Int)<=(c.hue:Int)))))=_;have:=ok.hu;rw [yP (by omega)]
theorem YH {t:Int}(h1:-1<=l)(h2:l<(h:Int))(h3:0<=t):vd [.at (.int l),.at (.int t),.at (.int h)]=some (.at .non):=by refine Vy rfl (u7 (qG (GF (v:=false) (u9 (v:=true) rfl) (o8 (GF (v:=true) (o9 (j4 rfl (vU h1))) (u9 (v:=true) ?_)))) qH) (qG (o8 (o9 (j4 rfl (vU h3)))) qH));show some (PV.at (.bl (decide (l<(h:Int)))))=_;rw [yu h2]
def keysOf (cs:List Cl):List v3:=cs.map λc=>Sum.inr c.name
theorem XN {x:Str}{α:Type}(f:Cl->PV):∀{cs:List Cl},x∉cs.map Cl.name->qC (.inr x) (keysOf cs) (cs.map f)=none
 |[],_=>rfl
 |c::cs,h=>by
  rw [yI] at h;show (if (Sum.inr c.name:v3) = .inr x then _ else qC (.inr x) (keysOf cs) (cs.map f))=_;rw [if_neg (λe=>h (by injection e with e;rw [e];exact yU)),XN (α:=α) f λz=>h (yS _ z)]
theorem Jv (f:Cl->PV):∀{cs:List Cl},(cs.map Cl.name).Nodup->∀ c∈cs,qC (.inr c.name) (keysOf cs) (cs.map f)=some (f c)
 |[],_,_,h=>nomatch h
 |d::cs,nd,c,h=>by
  rw [yI] at nd;have nd':=ym.mp nd;show (if (Sum.inr d.name:v3) = .inr c.name then some (f d) else qC (.inr c.name) (keysOf cs) (cs.map f))=_;rcases yD.mp h with rfl|h
  ·rw [if_pos rfl]
  ·rw [if_neg (λe=>nd'.1 (by injection e with e;rw [e];exact yw.mpr ⟨c,h,rfl⟩)),Jv f nd'.2 c h]
theorem PH {cls:List Cl}(hok:∀ c∈cls,c.Ok h)(nd:(cls.map Cl.name).Nodup)(ten:cls.length<=10):vc [.lst (cls.map Cl.pv),.at (.int h)]=some (.at .non):=by
 have hl:lim=1000000:=rfl;refine Vy rfl (u7 (qG (u9 (v:=false) (v6 (j4 rfl rfl) rfl ?_)) qH) (u7 (VA rfl) (GY rfl (Jw Cl.pv (λl ε=>∃(done:List Cl)(s3:MSlot),done++l=cls/\ε=[.sh (.lst (cls.map Cl.pv)),.sh (.at (.int h)),.ow (.dk (keysOf done) (done.map λ_=>PV.at (.bl true))),s3]) ?_ cls _ ⟨[],.no,rfl,rfl⟩).choose_spec.1)))
 ·show some (PV.at (.bl (decide ((10:Int)<((cls.map Cl.pv).length:Int)))))=_;rw [yZ,yP (by omega)]
 ·rintro c l ε ⟨done,s3,e,rfl⟩;have hc:c∈cls:=by rw [<- e];exact yt _ yU
  have hn:c.name∉done.map Cl.name:=λz=>by
   rw [<- e,yE,yI] at nd;exact (uD.mp nd).2.2 _ z _ yU rfl
  have ln:=XN (α:=Unit) (λ_=>PV.at (.bl true)) hn;have hd:done.length<=10:=by rw [<- e] at ten;rw [yL] at ten;omega
  refine ⟨_,_,rfl,u7 (qG (o8 (o9 (j4 rfl (YI (hok c hc))))) qH) (u7 (qG (u9 (v:=false) ?_) qH) ?_),done++[c],.sh c.pv,by rw [<- e,uX];rfl,rfl⟩
  ·show some (PV.at (.bl (qC (.inr c.name) (keysOf done) (done.map λ_=>PV.at (.bl true))).isSome))=_;rw [ln];rfl
  ·show (if (keysOf done).length<=lim then some (Out.nx [_,_,.ow (jA (.inr c.name) (.at (.bl true)) (keysOf done) (done.map λ_=>PV.at (.bl true))),_]) else none)=_;unfold jA;rw [if_pos (by unfold keysOf;rw [yZ];omega),ln];simp only [Option.isSome_none,uO,if_false];unfold keysOf;rw [yE,yE];rfl
def jY (n:Int):PV:= .at (.int n)
def m5 (r:List Int):PV:= .lst (r.map jY)
def wyP (w:Wy):PV:= .tup [.at (.int w.1),.lst (w.2.map jY)]
def xj (ws:List Wy):PV:= .lst (ws.map wyP)
theorem Ih (hl:r.length=h)(h4:h<=4)(hv:∀ v∈r,0<=v):QM [m5 r,.at (.int h)]=some (.at (.bl true)):=by
 have hlim:lim=1000000:=rfl;refine i7 rfl (u7 (qG (jr (o8 (o9 (j4 rfl VI))) (u9 (v:=false) (v6 (j4 rfl rfl) rfl ?_))) qH) (k9 (j4 (j5 (xp jY (λ_=>PV.at (.bl true)) r rfl rfl (by omega) λv hvm=>?_) rfl) (ZP _))))
 ·show (peq 6 (.at (.int ((r.map jY).length:Int))) (.at (.int (h:Int)))).bind _=_;rw [yZ,hl];exact QU (x:= .at (.int (h:Int))) rfl
 ·refine ⟨_,rfl,wd (j4 rfl (YL v)) ?_⟩;show some (PV.at (.bl (decide ((0:Int)<=v))))=_;rw [yu (hv v hvm)]
theorem SW (G:xw h rss)(h1:1<=h)(h4:h<=4):QL [y7 rss]=some (.at .non):=by
 have hlim:lim=1000000:=rfl;have hlen:=G.len;have eh:((rss.map m5).length:Int)-1=(h:Int):=by rw [yZ,hlen];omega
 have step:∀(k:Int),k=(h:Int)->y4 (p6 (k6 (dT (zM pLe pLe (dC (.int 1)) (z5 1) (dC (.int 4))))) o7 m9)
  (p6 (k6 (p7 (x9 jy (q0 (t6 [none,some 1] [0] (t9 (x0 0)) (w5 0) c7 (x9 QM (q0 (x0 0) (q0 (x0 1) x8)))) x8)))) o7 m9) [.sh (y7 rss),.sh (.at (.int k))]=some (.nx [.sh (y7 rss),.sh (.at (.int k))]):=by
  rintro k rfl;refine u7 (qG (o8 (u9 (Qu (r:=true) rfl rfl ?_ rfl ?_))) qH) (qG (o8 (o9 (j4 (j5 (xp m5 (λ_=>PV.at (.bl true)) rss rfl rfl (by omega) λr hr=>⟨_,rfl,j4 rfl (Ih (G.row r hr).1 h4 λv hv=>((G.row r hr).2 v hv).1)⟩) rfl) (ZP _)))) qH)
  ·show some (PV.at (.bl (decide ((1:Int)<=(h:Int)))))=_;rw [yu (by omega)]
  ·show some (PV.at (.bl (decide ((h:Int)<=4))))=_;rw [yu (by omega)]
 exact Vy rfl (u7 (qG (o8 (o9 (j4 rfl VI))) qH) (u7 (xN rfl) (step _ eh)))
theorem GQ {α:Type}(f:α->PV):∀(l:List α)(n:Nat),ze n (l.map f)=(l.zipIdx n).map λp=>PV.tup [.at (.int ((p.2:Nat):Int)),f p.1]
 |[],_=>rfl
 |x::l,n=>by
  rw [yI,List.zipIdx_cons,yI];show PV.tup [.at (.int n),f x]::ze (n+1) (l.map f)=_;rw [GQ f l (n+1)]
theorem Ii (h:r.length<=4):XY [m5 r]=some (xj (jf r)):=by
 have hlim:lim=1000000:=rfl;refine Jf rfl (k9 ?_);have e:=xp (cap:=[none,none]) (ts:=[0,1]) (it:=ZV (q0 (x0 0) x8)) (g:=zr 2 (i0 (w5 0) (i0 (w5 1) zp))) (f:=ql (q0 (x0 1) (q0 (m8 (q0 (x0 0) x8)) x8))) (ε:=[.sh (m5 r)])
  (λp:Int×Nat=>PV.tup [.at (.int ((p.2:Nat):Int)),jY p.1]) (λp:Int×Nat=>wyP (p.1,[(p.2:Int)])) (r.zipIdx 0) (by show some (ze 0 (r.map jY))=_;rw [GQ]) rfl (by rw [List.length_zipIdx];omega) λp _=>⟨_,rfl,rfl⟩
 refine e.trans ?_;unfold xj jf;rw [List.mapIdx_eq_zipIdx_map,yq];rfl
theorem Ia {a b:Wy}(h:a.2.length+b.2.length<=1000):XU [wyP a,wyP b]=some (wyP (zU a b)):=by have hlim:lim=1000000:=rfl;refine i7 rfl (k9 (xD (j5 (v6 rfl rfl rfl) (j5 (v6 rfl rfl (JF (by rw [yZ,yZ];omega))) rfl)) (by first|decide|(show 1<=lim;decide)|(show 2<=lim;decide)|(show 3<=lim;decide))) |>.trans ?_);unfold wyP zU;rw [yE]
theorem Ie (a b:Wy):XX [wyP a,wyP b]=some (wyP (jv a b)):=by
 unfold jv;by_cases h:b.1<a.1
 ·rw [if_pos h];exact i7 rfl (k9 (XF (u9 (v:=true) (v6 rfl rfl (show some (PV.at (.bl (decide (b.1<a.1))))=_ by rw [yu h]))) rfl))
 ·rw [if_neg h];exact i7 rfl (k9 (we (u9 (v:=false) (v6 rfl rfl (show some (PV.at (.bl (decide (b.1<a.1))))=_ by rw [yP h]))) rfl))
theorem Cy {α β:Type}(f:α->PV)(g:β->PV):∀(l:List α)(m:List β),xV (l.map f) (m.map g)=(l.zip m).map λp=>PV.tup [f p.1,g p.2]
 |[],_=>by cases ‹List β›<;>rfl
 |_::_,[]=>rfl
 |x::l,y::m=>by
  show PV.tup [f x,g y]::xV (l.map f) (m.map g)=_;rw [Cy f g l m];rfl
theorem Cz {α β γ:Type}(f:α->β->γ):∀(l:List α)(m:List β),List.zipWith f l m=(l.zip m).map λp=>f p.1 p.2
 |[],_=>by simp
 |_::_,[]=>rfl
 |x::l,y::m=>by
  show f x y::List.zipWith f l m=_;rw [Cz f l m];rfl
theorem Ik {k:Nat}(hk:k<ws.length)(h4:ws.length<=4)(l1:∀ w∈ws,w.2.length<=100)(l2:∀ w∈onw,w.2.length<=100):QN [xj ws,.at (.int (k:Int)),xj onw]=some (xj (thr ws k onw)):=by
 have hlim:lim=1000000:=rfl;have hg:ws.getD k (0,[])=ws[k]:=qe hk;have hw:=yp hk;refine Jf rfl (k9 ?_);have e:=xp (cap:=[none,none,some 0,some 1]) (ts:=[0,1]) (it:=dZipT false false (q0 (x0 0) (q0 (x0 2) x8))) (g:=zr 2 (i0 (w5 0) (i0 (w5 1) zp))) (f:=x9 XX (q0 (x0 0) (q0 (x9 XU (q0 (z9 v8 (z5 2) (z5 3)) (q0 (x0 1) x8))) x8))) (ε:=[.sh (xj ws),.sh (.at (.int (k:Int))),.sh (xj onw)])
  (λp:Wy×Wy=>PV.tup [wyP p.1,wyP p.2]) (λp:Wy×Wy=>wyP (jv p.1 (zU ws[k] p.2))) (ws.zip onw) (by show some (xV (ws.map wyP) (onw.map wyP))=_;rw [Cy]) rfl (by rw [List.length_zip];omega) λp hp=>⟨_,rfl,j4 (j5 rfl (j5 (j4 (j5 (v6 rfl rfl (xz (v:=wyP ws[k]) (by rw [yK,yz hk];rfl))) (j5 rfl rfl)) (Ia (by
   have q1:=l1 _ hw;have q2:=l2 p.2 (List.of_mem_zip hp).2;omega))) rfl)) (Ie _ _)⟩
 refine e.trans ?_;unfold xj thr;rw [hg,Cz,yq];rfl
theorem Iq {k:Nat}(G:xw h rss)(hk:k<=h)(h4:h<=4):∀ r∈qd rss k,∀ w∈r,w.2.length<=100:=by
 intro r hr w hw;have S:=Shp.all G k hk;have F:=FW.all G k hk;obtain ⟨f,hf,rfl⟩:=uH hr;obtain ⟨g,hg,rfl⟩:=uH hw;have hf':f<=h:=by have:=S.len;omega
 have hg':g<h:=by rw [<- S.row _ hr];exact hg
 have e:y6 (qd rss k) f g=(qd rss k)[f][g]:=by unfold y6;rw [qe hf,qe hg]
 have q:=F.len f g hf' hg';rw [e] at q;have:2 ^ k<=2 ^ 4:=Nat.pow_le_pow_right (by decide) (by omega);omega
def Zy (T:List (List Wy)):PV:= .lst (T.map xj)
theorem Ic (G:xw h rss)(h1:1<=h)(h4:h<=4):Jy [y7 rss]=some (Zy (qd rss h)):=by
 have hlim:lim=1000000:=rfl;have hlimI:(lim:Int)=1000000:=rfl;have hlen:=G.len;have st:t6 [none] [0] (t9 (x0 0)) (w5 0) c7 (x9 XY (q0 (x0 0) x8)) [.sh (y7 rss),.no,.no,.no]=some (Zy (qd rss 0)):=by refine (xp m5 (λr=>xj (jf r)) rss rfl rfl (by omega) λr hr=>⟨_,rfl,j4 rfl (Ii (by rw [(G.row r hr).1];exact h4))⟩).trans ?_;show _=some (PV.lst ((rss.map jf).map xj));rw [yq];rfl
 have rg:vJ (q0 (z9 xQ (x9 qD (q0 (z5 0) x8)) (dC (.int 1))) x8) [.sh (y7 rss),.sh (Zy (qd rss 0)),.no,.no]=some ((List.range h).map λ(i:Nat)=>PV.at (.int ((0:Int)+i))):=by refine JR (k:=h) (j5 (v6 (j4 rfl rfl) rfl ?_) rfl) (by omega);show some (PV.at (.int (((rss.map m5).length:Int)-1)))=_;rw [yZ,hlen,show ((h+1:Nat):Int)-1=(h:Int) by omega]
 have lp:=Jw (g:=w5 2) (f:=y4 (qk 3 (z9 v8 (z5 1) (z5 2))) (qk 1 (t6 [none,some 2,some 3] [0] (t9 (x0 1)) (w5 0) c7 (x9 QN (q0 (x0 0) (q0 (x0 1) (q0 (x0 2) x8)))))))
  (λ(i:Nat)=>PV.at (.int ((0:Int)+i))) (λl ε=>∃(k:Nat)(s2 s3:MSlot),l=(List.range h).drop k/\k<=h/\ε=[.sh (y7 rss),.sh (Zy (qd rss k)),s2,s3]) (by
   rintro i l ε ⟨k,s2,s3,el,hk,rfl⟩;have hkl:k<h:=by
    have e5:(i::l).length=((List.range h).drop k).length:=by rw [<- el]
    rw [List.length_drop,List.length_range,yH] at e5;omega
   have ei:i=k:=by
    have:((List.range h).drop k)[0]?=some i:=by rw [<- el];rfl
    rw [List.getElem?_drop,List.getElem?_range (by omega)] at this;simpa using this.symm
   have er:l=(List.range h).drop (k+1):=by
    have:((List.range h).drop k).tail=l:=by rw [<- el];rfl
    rw [<- this,List.tail_drop]
   subst ei;have S:=Shp.all G i hk;have hT:i<(qd rss i).length:=by rw [S.len];omega
   have gD:(qd rss i).getD i []=(qd rss i)[i]:=qe hT;have wl:=Iq G hk h4;refine ⟨_,_,rfl,u7 (xN (x:=xj (qd rss i)[i]) (v6 rfl rfl ?_)) (xN (x:=Zy (qd rss (i+1))) ?_),i+1,_,_,er,hkl,rfl⟩
   ·show atI ((qd rss i).map xj) (0+(i:Int))=_;rw [Int.zero_add];exact xz (by rw [yK,yz hT];rfl)
   ·refine (xp xj (λrow=>xj (thr row i (qd rss i)[i])) (qd rss i) rfl rfl (by rw [S.len];omega) λrow hr=>⟨_,rfl,j4 rfl ?_⟩).trans ?_
    ·show QN [xj row,.at (.int (0+(i:Int))),xj (qd rss i)[i]]=_;rw [Int.zero_add];exact Ik (by rw [S.row row hr];exact hkl) (by rw [S.row row hr];exact h4) (wl row hr) (wl _ (yp hT))
    ·show _=some (PV.lst ((xq (qd rss i) i).map xj));unfold xq;rw [yq,gD];rfl) (List.range h) _ ⟨0,.no,.no,rfl,yd _,rfl⟩
 obtain ⟨ε',e',k,s2,s3,el,hk,rfl⟩:=lp;have ek:k=h:=by have:=congrArg List.length el;rw [List.length_drop,List.length_range] at this;simp at this;omega
 subst ek;exact i7 rfl (u7 (xN st) (u7 (GY rg e') (k9 rfl)))
theorem Ij (h4:ws.length<=4):Jz [xj ws]=some (m5 (ws.map (·.1))):=by have hlim:lim=1000000:=rfl;refine Jf rfl (k9 ((xp wyP (λw=>jY w.1) ws rfl rfl (by omega) λw _=>⟨_,rfl,rfl⟩).trans ?_));unfold m5;rw [yq];rfl
theorem YJ (G:xw h rss)(h1:1<=h)(h4:h<=4):vf [y7 rss]=some (y7 (vb rss h)):=by have hlim:lim=1000000:=rfl;have S:=Shp.all G h (yT _);show mZ _ _=some (.lst ((vb rss h).map m5));refine KN (i7 rfl (u7 (Qv (j4 rfl (SW G h1 h4))) (k9 ((xp xj (λws=>m5 (ws.map (·.1))) (qd rss h) (Jh (j4 rfl (Ic G h1 h4))) rfl (by rw [S.len];omega) λws hw=>⟨_,rfl,j4 rfl (Ij (by rw [S.row ws hw];exact h4))⟩).trans ?_))));show _=some (PV.lst ((vb rss h).map m5));unfold vb;rw [yq];rfl
def Dr.low (d:Dr):List (List Int):=vb d.rss d.h
def Md:List Str:=["least","given","held","last","time"]
def Dr.ob (C:Addr)(d:Dr):PV:= .ob C Md [y7 d.low,y7 d.rss,.fk (keysOf d.cls) (d.cls.map Cl.pv),.at (.int d.last),.at (.int d.time)]
def Dr.names (d:Dr):List Str:=d.cls.map Cl.name
section
variable {C:Addr}{d:Dr}
theorem Xk:xP C [d.ob C]=some (.tup [.at (.int d.last),.at (.int d.time)]):=i7 rfl (k9 (xD (j5 (qX rfl rfl) (j5 (qX rfl rfl) rfl)) (by first|decide|(show 1<=lim;decide)|(show 2<=lim;decide)|(show 3<=lim;decide))))
theorem DW {i:Nat}{x:PV}(h1:a ε=some x)(h2:ε[i]?=some (.ow (.lst xs)))(h3:xs.length<=lim):Xw i a ε=some (.nx (ε.set i (.ow (.lst (xs++[x]))))):=by unfold Xw;rw [h1];show (match ε[i]? with|some (.ow (.lst xs))=>if xs.length<=lim then some (Out.nx (ε.set i (.ow (.lst (xs++[x]))))) else none|_=>none)=_;rw [h2];exact if_pos h3
theorem GV {k:v3}(h1:a ε=some (.fk ks xs))(h2:b ε=some y)(h3:zG y=some k)(h4:qC k ks xs=some z):Xx a b ε=some z:=by unfold Xx;rw [h1,h2];show (zG y).bind _=_;rw [h3];exact h4
theorem GW {k:v3}{o:Option PV}(h1:a ε=some (.fk ks xs))(h2:b ε=some y)(h3:zG y=some k)(h4:qC k ks xs=o):Qo b a ε=some (.at (.bl (!o.isSome))):=by unfold Qo;rw [h1,h2];show (zG y).bind _=_;rw [h3,<- h4];rfl
theorem Xi (ok:d.Ok)(hc:c∈d.cls):xE C [d.ob C,.at (.str c.name)]=some c.pv:=by
 have lk:=Jv Cl.pv ok.nd c hc;refine i7 rfl (u7 (qG (jr (o8 (o9 (j4 rfl XL))) (u9 (v:=false) ?_)) qH) (k9 ?_))
 ·exact GW (qX rfl rfl) rfl rfl lk
 ·exact GV (qX rfl rfl) rfl rfl lk
theorem Tm (G:xw h rss){f:Int}(f0:-1<=f)(f1:f<(h:Int))(hg:g<h):∃ r:List Int,atI (rss.map m5) f=some (m5 r)/\atI (r.map jY) (g:Int)=some (.at (.int (rin rss f (g:Int)))):=by
 have main:∀ n:Nat,n<=h->∃ r:List Int,(rss.map m5)[n]?=some (m5 r)/\rss[n]?=some r/\atI (r.map jY) (g:Int)=some (.at (.int (rin rss (n:Int) (g:Int)))):=by
  intro n hn;have hl:n<rss.length:=by have:=G.len;omega
  have hgl:g<rss[n].length:=by rw [(G.row _ (yp hl)).1];exact hg
  refine ⟨rss[n],by rw [yK,yz hl];rfl,yz hl,?_⟩;rw [Zp G hn hg,qe hl,qe hgl];exact xz (by rw [yK,yz hgl];rfl)
 by_cases hf:f=-1
 ·subst hf;obtain ⟨r,e1,e2,e3⟩:=main h (yT _);refine ⟨r,?_,?_⟩
  ·have hlen:(rss.map m5).length=h+1:=by rw [yZ];exact G.len
   have e:atI (rss.map m5) (h:Int)=some (m5 r):=xz e1;rw [<- e];unfold atI;rw [hlen];have i1:ixN (h+1) (-1)=some h:=by
    unfold ixN;rw [if_neg (by decide),if_pos (by omega)]
    congr 1
    omega
   have i2:ixN (h+1) (h:Int)=some h:=by
    unfold ixN;rw [if_pos (by omega),if_pos (by omega)]
    congr 1
   rw [i1,i2]
  ·rw [BS G.len];exact e3
 ·obtain ⟨n,rfl⟩:=uW (show 0<=f by omega);obtain ⟨r,e1,e2,e3⟩:=main n (by omega);exact ⟨r,xz e1,e3⟩
def Dr.rz (d:Dr)(f:Int)(g:Nat):Int:=if f=(g:Int) then 0 else rin d.low f (g:Int)
theorem Il (ok:d.Ok){f:Int}(f0:-1<=f)(f1:f<(d.h:Int))(hg:g<d.h):XQ C [d.ob C,.at (.int f),.at (.int (g:Int))]=some (.at (.int (rin d.low f (g:Int)))):=by obtain ⟨r,e1,e2⟩:=Tm (VQ ok.rin) f0 f1 hg;exact i7 rfl (k9 (v6 (v6 (qX rfl rfl) rfl e1) rfl e2))
theorem Je (a b:Int):pEq (.at (.int a)) (.at (.int b))=some (.at (.bl (decide (a=b)))):=by show some (PV.at (.bl (qQ (.int a) (.int b))))=_;have:qQ (.int a) (.int b)=decide (a=b):=rfl;rw [this]
theorem Nf (a b:Int):pNe (.at (.int a)) (.at (.int b))=some (.at (.bl (!decide (a=b)))):=by show some (PV.at (.bl (!qQ (.int a) (.int b))))=_;have:qQ (.int a) (.int b)=decide (a=b):=rfl;rw [this]
theorem Ig (ok:d.Ok){f:Int}(f0:-1<=f)(f1:f<(d.h:Int))(hg:g<d.h):QK C [d.ob C,.at (.int f),.at (.int (g:Int))]=some (.at (.int (d.rz f g))):=by
 unfold Dr.rz;by_cases h:f=(g:Int)
 ·rw [if_pos h];exact i7 rfl (k9 (XF (u9 (v:=true) (v6 rfl rfl ((Je _ _).trans (by rw [yu h])))) rfl))
 ·rw [if_neg h];exact i7 rfl (k9 (we (u9 (v:=false) (v6 rfl rfl ((Je _ _).trans (by rw [yP h])))) (qt rfl (by decide) rfl (Il ok f0 f1 hg))))
structure Lst (d:Dr)(ns:List Cl):Prop where
 sub:∀ c∈ns,c∈d.cls
 nd:(ns.map Cl.name).Nodup
def nmP (cs:List Cl):PV:= .lst (k7 (cs.map Cl.name))
theorem Lst.len (ok:d.Ok)(L:Lst d ns):ns.length<=10:=by
 have:=KS L.nd (left:=d.cls.map Cl.name) λx hx=>by
  obtain ⟨c,hc,rfl⟩:=yw.mp hx;exact yw.mpr ⟨c,L.sub c hc,rfl⟩
 rw [yZ,yZ] at this;have:=ok.ten;omega
theorem SV (ok:d.Ok)(L:Lst d ns)(hN:wq C [d.ob C,nmP ns]=some (.at (.bl true))):XS C [d.ob C,nmP ns]=some (.at .non):=DY rfl (qG (o8 (o9 (j4 rfl hN))) qH)
def Dr.go (d:Dr):Int->Int->List Cl->List (Cl×Int×Int)
 |_,_,[]=>[]
 |l,t,c::cs=>(c,t+d.rz l c.hue,t+d.rz l c.hue+c.len)::d.go c.hue (t+d.rz l c.hue+c.len) cs
def xh (r:Cl×Int×Int):PV:= .tup [.at (.str r.1.name),.at (.int r.2.1),.at (.int r.2.2)]
theorem SX (ok:d.Ok)(L:Lst d ns)(hN:wq C [d.ob C,nmP ns]=some (.at (.bl true))):ve C [d.ob C,nmP ns]=some (.lst ((d.go d.last d.time ns).map xh)):=by
 have hlim:lim=1000000:=rfl;have l10:=L.len ok;have en:k7 (ns.map Cl.name)=ns.map λc=>PV.at (.str c.name):=by unfold k7;rw [yq];rfl
 refine GX rfl (u7 (Qv (j4 rfl (SV ok L hN))) (u7 (xN (qt rfl (by decide) rfl Xk)) (u7 (xN (x:= .at (.int d.last)) rfl) (u7 (xN (x:= .at (.int d.time)) rfl) (u7 (VA rfl) ?_)))));obtain ⟨ε',e',rest⟩:=Jw (g:=w5 6) (f:=y4 (qk 7 (u6 C "cloth" (xE C) (x0 0) (q0 (x0 6) x8)))
  (y4 (qk 8 (z9 qv (z5 4) (u6 C "rinse" (QK C) (x0 0) (q0 (x0 3) (q0 (x9 zt (q0 (x0 7) x8)) x8)))))
  (y4 (qk 4 (z9 qv (z5 8) (x9 vN (q0 (x0 7) x8))))
  (y4 (qk 3 (x9 zt (q0 (x0 7) x8)))
  (Xw 5 (ql (q0 (x0 6) (q0 (x0 8) (q0 (x0 4) x8)))))))))
  (λc:Cl=>PV.at (.str c.name)) (λl ε=>∃(la ti:Int)(done:List (Cl×Int×Int))(s6 s7 s8:MSlot),done++d.go la ti l=d.go d.last d.time ns/\(∀ c∈l,c∈ns)/\done.length+l.length=ns.length/\-1<=la/\la<(d.h:Int) /\
   ε=[.sh (d.ob C),.bo (nmP ns),.sh (.tup [.at (.int d.last),.at (.int d.time)]),.sh (.at (.int la)),.sh (.at (.int ti)),.ow (.lst (done.map xh)),s6,s7,s8]) (by
   rintro c l ε ⟨la,ti,done,s6,s7,s8,e1,e2,e3,g1,g2,rfl⟩;have hc:=e2 c yU;have hk:=ok.cl c (L.sub c hc);simp only [yH] at e3;refine ⟨_,[.sh (d.ob C),.bo (nmP ns),.sh (.tup [.at (.int d.last),.at (.int d.time)]),.sh (.at (.int (c.hue:Int))),.sh (.at (.int (ti+d.rz la c.hue+c.len))),.ow (.lst ((done++[(c,ti+d.rz la c.hue,ti+d.rz la c.hue+c.len)]).map xh)),.sh (.at (.str c.name)),.sh c.pv,.sh (.at (.int (ti+d.rz la c.hue)))],rfl,u7 (xN (qt rfl (by decide) rfl (Xi ok (L.sub c hc)))) (u7 (xN (v6 rfl (qt rfl (by decide) (j5 rfl (j5 (j4 rfl rfl) rfl)) (Ig ok g1 g2 hk.hu)) rfl)) (u7 (xN (v6 rfl (j4 rfl rfl) rfl)) (u7 (xN (x:= .at (.int (c.hue:Int))) (j4 rfl rfl)) ?_))),?_⟩
   rotate_left
   ·refine ⟨(c.hue:Int),ti+d.rz la c.hue+c.len,done++[(c,ti+d.rz la c.hue,ti+d.rz la c.hue+c.len)],_,_,_,by rw [uX];exact e1,λx hx=>e2 x (yS _ hx),by rw [yL];simp;omega,by omega,by have:=hk.hu;omega,rfl⟩
   ·rw [yE];exact DW (xD rfl l3) rfl (by rw [yZ];omega)) ns _ ⟨d.last,d.time,[],.no,.no,.no,rfl,λc h=>h,by simp,ok.l1,ok.l2,rfl⟩
 obtain ⟨la,ti,done,s6,s7,s8,e1,_,_,_,_,rfl⟩:=rest;have e2:done=d.go d.last d.time ns:=by have:done++[]=d.go d.last d.time ns:=e1;rwa [yO] at this
 subst e2;rw [<- en] at e';exact u7 (DZ rfl e') rfl
end
theorem Ui:∀ ss:List Str,ats (k7 ss)=some (ss.map V.str)
 |[]=>rfl
 |s::ss=>by
  show (ats (k7 ss)).map (V.str s::·)=_;rw [Ui ss];rfl
theorem Kq (x:Str):∀ ss:List Str,inV (.str x) (ss.map V.str)=decide (x∈ss)
 |[]=>by simp [inV]
 |s::ss=>by
  have ih:=Kq x ss;unfold inV at ih ⊢;rw [yI,List.any_cons,ih];have e:qQ (.str s) (.str x)=decide (s=x):=rfl;rw [e];by_cases h:s=x
  ·subst h;simp
  ·simp [h,Ne.symm h]
theorem Mf (ss:List Str):(ss.map V.str).all u4=true:=by rw [uV];intro v hv;obtain ⟨s,_,rfl⟩:=yw.mp hv;rfl
theorem Kr (neg:Bool)(x:Str)(ss:List Str):pIn neg (.at (.str x)) (.lst (k7 ss))=some (.at (.bl (if neg then !decide (x∈ss) else decide (x∈ss)))):=by show (ats (k7 ss)).bind _=_;rw [Ui,yG,if_pos ⟨rfl,Mf ss⟩,Kq]
section
variable {C:Addr}{d:Dr}
theorem Kz (cs:List Cl):zV (keysOf cs)=some (cs.map Cl.name):=by
 induction cs with
 |nil=>rfl
 |cons c cs ih=>show (zV (keysOf cs)).map (c.name::·)=_;rw [ih];rfl
theorem SA (ss:List Str):vS (k7 ss)=some ss:=by
 induction ss with
 |nil=>rfl
 |cons s ss ih=>show (vS (k7 ss)).map (s::·)=_;rw [ih];rfl
theorem JZ (ok:d.Ok):zH C [d.ob C]=some (.lst (k7 (xJ d.names))):=by refine Jf rfl (k9 (j4 (j5 (qX rfl rfl) rfl) ?_));show (zV (keysOf d.cls)).bind _=_;rw [Kz,yG,if_pos (by rw [yZ];have:=ok.ten;omega)];rfl
theorem BZ {ss:List Str}(h:ss.Nodup):∀ i,i<=ss.length->m6 (λi=>(Sum.inr (ss.getD i ⟨#[]⟩):v3)) i=(ss.take i).map Sum.inr
 |0,_=>rfl
 |i+1,hi=>by
  have ih:=BZ h i (by omega);have hl:i<ss.length:=by omega
  have eg:ss.getD i ⟨#[]⟩=ss[i]:=qe hl;have hn:ss[i]∉ss.take i:=λz=>by
   have e:ss=ss.take i++ss[i]::ss.drop (i+1):=by rw [<- yj hl,List.take_append_drop]
   rw [e] at h;exact (uD.mp h).2.2 _ z _ yU rfl
  unfold m6;rw [ih,eg,if_neg (λz=>hn (by
   obtain ⟨y,hy,e⟩:=yw.mp z;injection e with e;rw [<- e];exact hy)),List.take_add_one,yz hl,yE]
  rfl
theorem LU {ss:List Str}(h:ss.Nodup):VR ss=ss.length:=by unfold VR;rw [BZ h _ (yT _),yZ,List.take_length]
theorem v_are (ok:d.Ok)(L:Lst d ns):wq C [d.ob C,nmP ns]=some (.at (.bl true)):=by
 have hlim:lim=1000000:=rfl;have l10:=L.len ok;have en:k7 (ns.map Cl.name)=(ns.map Cl.name).map λs=>PV.at (.str s):=rfl;refine Vx rfl (u7 (qG (o8 (o9 (j4 rfl VI))) qH) (u7 (xN (qt rfl (by decide) rfl (JZ ok))) (k9 (wd (j4 (j5 (GT (λs:Str=>PV.at (.str s)) (λ_=>PV.at (.bl true)) (ns.map Cl.name) rfl rfl (by rw [yZ];omega) λs hs=>⟨_,rfl,v6 rfl rfl ((Kr false s _).trans ?_)⟩) rfl) (ZP _)) (v6 (y:= .at (.int (ns.length:Int))) (x:= .at (.int (ns.length:Int))) ?_ ?_ (Rc rfl))))))
 ·obtain ⟨c,hc,rfl⟩:=yw.mp hs;have:c.name∈xJ d.names:=(Zs d.names).mem_iff.mpr (yw.mpr ⟨c,L.sub c hc,rfl⟩);simp [this]
 ·show (vS (k7 (ns.map Cl.name))).bind _=_;rw [SA,yG,if_pos (by rw [yZ];omega),LU L.nd,yZ]
 ·refine j4 rfl ?_;show some (PV.at (.int ((k7 (ns.map Cl.name)).length:Int)))=_;rw [Pj,yZ]
theorem PJ (ok:d.Ok)(L:Lst d ns):ve C [d.ob C,nmP ns]=some (.lst ((d.go d.last d.time ns).map xh)):=SX ok L (v_are ok L)
end
section
variable {C:Addr}{d:Dr}
theorem Qx {f:Str}{ns:List Str}(h1:a ε=some y)(h0:ε[0]?=some (.ow (.ob C ns xs)))(hf:f∉ns)(hl:ns.length<1000):zQ C f a ε=some (.nx (ε.set 0 (.ow (.ob C (ns++[f]) (xs++[y]))))):=by unfold zQ;rw [h1,yG,h0];exact if_pos ⟨rfl,hf,hl⟩
theorem Qw {i:Nat}{as:MA}{ns:List Str}{fs:List PV}(h0:ε[i]?=some (.ow (.ob C ns fs)))(hn:nm∉ns)(k:as ε=some xs)(e:m (.ob C ns fs::xs)=some (.at u)):zF C nm m i as ε=some (.at u):=by unfold zF;rw [h0];show (if C=C/\nm∉ns then _ else _)=_;rw [if_pos ⟨rfl,hn⟩,k,yG,e];rfl
theorem Xj (ok:d.Ok):zf C [.ob C ["least"] [y7 d.low]]=some (.at (.int d.h)):=by have G:=VQ ok.rin;refine i7 rfl (k9 (v6 (j4 (j5 (qX rfl rfl) rfl) rfl) rfl ?_));show some (PV.at (.int (((d.low.map m5).length:Int)-1)))=_;rw [yZ,show d.low.length=d.h+1 from G.len,show ((d.h+1:Nat):Int)-1=(d.h:Int) by omega]
theorem Wf:∀ cs:List Cl,vR (cs.map λc=>PV.tup [.at (.str c.name),c.pv])=some (cs.map λc=>((.inr c.name:v3),c.pv))
 |[]=>rfl
 |c::cs=>by
  show Option.bind (some (Sum.inr c.name)) (λkk=>(vR (cs.map λc=>PV.tup [.at (.str c.name),c.pv])).map ((kk,c.pv)::·))=_;rw [yG,Wf cs];rfl
theorem KA (h:(cs.map Cl.name).Nodup):(keysOf cs).Nodup:=by
 induction cs with
 |nil=>exact List.nodup_nil
 |cons c cs ih=>rw [yI] at h;have h':=ym.mp h;refine ym.mpr ⟨λz=>?_,ih h'.2⟩;obtain ⟨y,hy,e⟩:=yw.mp z;injection e with e;exact h'.1 (yw.mpr ⟨y,hy,e⟩)
theorem JY (ok:d.Ok):xO C [y7 d.rss,.lst (d.cls.map Cl.pv),.at (.int d.last),.at (.int d.time)]=some (d.ob C):=by
 have hlim:lim=1000000:=rfl;have ten:=ok.ten;have glen:=ok.rin.len;have h4:=ok.h4;have cp:∀(s0 s2 s3 s4:MSlot),t6 [none] [0] (t9 (x0 1)) (w5 0) c7 (x9 vh (q0 (z5 0) x8)) [s0,.sh (y7 d.rss),s2,s3,s4]=some (y7 d.rss):=λs0 s2 s3 s4 =>
  xp m5 m5 d.rss rfl rfl (by omega) λr _=>⟨_,rfl,rfl⟩
 have dk:∀(s0 s1 s3 s4:MSlot),x9 QS (q0 (t6 [none] [0] (t9 (x0 2)) (w5 0) c7 (ql (q0 (x9 qo (q0 (x0 0) x8)) (q0 (x0 0) x8)))) x8) [s0,s1,.sh (.lst (d.cls.map Cl.pv)),s3,s4]=some (.fk (keysOf d.cls) (d.cls.map Cl.pv)):=λs0 s1 s3 s4=>by
  refine j4 (j5 (xp Cl.pv (λc=>PV.tup [.at (.str c.name),c.pv]) d.cls rfl rfl (by omega) λc _=>⟨_,rfl,xD (j5 (j4 rfl rfl) (j5 rfl rfl)) l2⟩) rfl) ?_;show (vR (d.cls.map λc=>PV.tup [.at (.str c.name),c.pv])).bind _=_;have k1:(d.cls.map λc=>((.inr c.name:v3),c.pv)).map (·.1)=keysOf d.cls:=by rw [yq];rfl
  have k2:(d.cls.map λc=>((.inr c.name:v3),c.pv)).map (·.2)=d.cls.map Cl.pv:=by rw [yq];rfl
  rw [Wf,yG,k1,k2];exact if_pos ⟨KA ok.nd,by rw [yZ];omega⟩
 have run:ZQ C [.ow (.ob C [] []),.sh (y7 d.rss),.sh (.lst (d.cls.map Cl.pv)),.sh (.at (.int d.last)),.sh (.at (.int d.time))]=some (.nx [.ow (d.ob C),.sh (y7 d.rss),.sh (.lst (d.cls.map Cl.pv)),.sh (.at (.int d.last)),.sh (.at (.int d.time))]) :=
  u7 (Qx (j4 rfl (YJ ok.rin ok.h1 ok.h4)) rfl (by decide) (by decide)) (u7 (Qv (j4 (j5 rfl (j5 rfl (j5 (Qw rfl (by decide) rfl (Xj ok)) rfl))) (YH ok.l1 ok.l2 ok.t1)))
   (u7 (Qv (j4 (j5 rfl (j5 (Qw rfl (by decide) rfl (Xj ok)) rfl)) (PH ok.cl ok.nd ok.ten)))
   (u7 (Qx (cp _ _ _ _) rfl (by decide) (by decide)) (u7 (Qx (dk _ _ _ _) rfl (by decide) (by decide)) (u7 (Qx (y:= .at (.int d.last)) (f:="last") (ns:=["least","given","held"]) (we (u9 (v:=false) (v6 rfl rfl rfl)) rfl) rfl (by decide) (by decide)) (Qx (y:= .at (.int d.time)) (f:="time") (ns:=["least","given","held","last"]) (xs:=[y7 d.low,y7 d.rss,.fk (keysOf d.cls) (d.cls.map Cl.pv),.at (.int d.last)]) rfl rfl (by decide) (by decide)))))))
 unfold xO Xz;refine (if_pos rfl).trans ?_;show (ZQ C [.ow (.ob C [] []),.sh (y7 d.rss),.sh (.lst (d.cls.map Cl.pv)),.sh (.at (.int d.last)),.sh (.at (.int d.time))]).bind _=_;rw [run];rfl
end
def vp (C:Addr):Sp:=λvs H Q _=>∃(d:Dr)(Hs HR:Hp)(x dx:Addr)(v1:V)(a2:Addr),d.Ok/\vs=[.ref x,v1,.ref a2,.int d.last,.int d.time]/\Same Hs H/\H x=some (.ins C dx [])/\Hs x=none/\Same HR H/\(∀ b,HR b≠none->Hs b=none/\b≠x)/\Rep HR (y7 d.rss) v1/\HR a2≠none/\Top Hs H a2 (.lst (d.cls.map Cl.pv)) /\
 ∀ Hs' H',Same Hs Hs'->(∀ b o,H b=some o->b≠x->H' b=some o)->Same Hs' H'->(∀ b,H b≠none->b≠x->Hs b=none->Hs' b=none)->Rep Hs' (d.ob C) (.ref x)->Q .non H'
theorem MP (h:vp C vs H Q E):vs.length=(["self","rinses","cloths","last","time"]:List Str).length:=by obtain ⟨d,Hs,HR,x,dx,v1,a2,_,rfl,_⟩:=h;rfl
theorem wH (rss:List (List Int)):y7 rss = .lst ((rss.map (List.map V.int)).map λl=> .lst (l.map .at)):=by
 unfold y7;rw [yq]
 congr 1
 refine List.map_congr_left λr _=>?_;show _=PV.lst ((r.map V.int).map .at);rw [yq];rfl
theorem Nq (F:FunD K "__init__" "Works.__init__" vo f fd)(A0:Fy P w K mg base 4 "check_cloths" ["cloths","hues"] (m7 vc (jI Ae Ad Ag)))(A4:Fy P w K mg base 3 "check_start" ["last","time","hues"] (m7 vd (Xm Af)))(A3:Fy P w K mg base 4 "least_rinses" ["rinses"] (vq vf (Xn Ac)))(At:Fn P w K mg base 1 "name_of" ["cloth"] (w4 qo))(E6:mg "dict"=none)(Au:mg "list"=none)[k8 K Aa][w9 K Aa "given"][w9 K Aa "held"][w9 K Aa "last"][w9 K Aa "least"][w9 K Aa "time"](Az:Mt P w K mg base 1 Aa "hues" ["self"] (w4 (zf Aa))):FnOk P w K mg base (y9 P w) 5 f fd ["self","rinses","cloths","last","time"] (vp Aa):=by
 refine F.ok2 (k:=4) BW (λvs H Q E h=>MP h) (λcdv A outer s H vs Q E hr h=>⟨_,(j0 (zj (K:=K) rfl (pv 0) (wA A3 hr (by decide) qw rfl (aW (pv 1))))
  (j0 (qU (wA A4 hr (by decide) qw rfl (aC (pv 3) (aC (pv 4) (aW (c6 Az hr (by decide) (pv 0)))))))
  (j0 (qU (wA A0 hr (by decide) qw rfl (aC (pv 2) (aW (c6 Az hr (by decide) (pv 0))))))
  (j0 (zj (K:=K) rfl (pv 0) (xG (N':=["row"]) (cap:=[none]) (qz rfl rfl rfl) rfl (@xc _ K _ _ _ rfl (pv 1)) (λ_ _ _ _ _ _=>(r9 (i:=0) (by show (["row"]:List Str).Nodup;decide +kernel) rfl (Or.inl rfl))) (λ_ _ _ _ _ _=>qK) (λ_ _ _ _ _ _=>(ja (Qm (K:=K) rfl) rfl Au jo (aW (pv 0))))))
  (j0 (zj (K:=K) rfl (pv 0) (ja (Gs (K:=K) rfl rfl) rfl E6 Go (aW (xG (N':=["cloth"]) (cap:=[none]) (qz rfl rfl rfl) rfl (@xc _ K _ _ _ rfl (pv 2)) (λ_ _ _ _ _ _=>(r9 (i:=0) (by show (["cloth"]:List Str).Nodup;decide +kernel) rfl (Or.inl rfl))) (λ_ _ _ _ _ _=>qK) (λ_ _ _ _ _ _=>(@qJ _ _ _ _ _ (aC (fW At hr (aW (pv 0))) (aW (pv 0)))))))))
  (j0 (zj (K:=K) rfl (pv 0) (wB (i5 (VV) (pv 3) vi (c5 _)) (Zh Zz z8) (pv 3)))
  (j6 (zj (K:=K) rfl (pv 0) (pv 4))))))))),?_⟩)
 obtain ⟨d,Hs,HR,x,dx,v1,a2,ok,rfl,sm,hx,hs,r1,r2,rv,ha2,t2,q⟩:=h;have hlim:lim=1000000:=rfl;have ten:=ok.ten;have glen:=ok.rin.len;have h4:=ok.h4;have L:Lent [x] Hs H HR:=⟨r1,λb hb=>⟨(r2 b hb).1,λz=>(r2 b hb).2 (yM.mp z)⟩⟩;have rd0:=Wm (N:=["self","rinses","cloths","last","time"]) (a:=x) (y:= .ob Aa [] []) (xs:=[.op λ_ v=>v=v1,.op λ_ v=>v = .ref a2,.at (.int d.last),.at (.int d.time)]) (ws:=[v1,.ref a2,.int d.last,.int d.time]) sm hs ⟨dx,[],hx,rfl,.nil⟩ (.cons (rep_op.mpr ⟨Hs,.refl _,rfl⟩) (.cons (rep_op.mpr ⟨Hs,.refl _,rfl⟩) (.cons (rep_at.mpr rfl) (.cons (rep_at.mpr rfl) .nil))));have cp:∀ (s0 s2 s3 s4:MSlot),t6 [none] [0] (t9 (x0 1)) (w5 0) c7 (x9 vh (q0 (z5 0) x8)) [s0,.sh (y7 d.rss),s2,s3,s4]=some (y7 d.rss):=λs0 s2 s3 s4 =>
  xp m5 m5 d.rss rfl rfl (by omega) λr _=>⟨_,rfl,rfl⟩
 have dk:∀(s0 s1 s3 s4:MSlot),x9 QS (q0 (wb [none] [0] (t9 (z5 2)) (w5 0) c7 (ql (q0 (x9 qo (q0 (x0 0) x8)) (q0 (x0 0) x8)))) x8) [s0,s1,.bo (.lst (d.cls.map Cl.pv)),s3,s4]=some (.fk (keysOf d.cls) (d.cls.map Cl.pv)):=λs0 s1 s3 s4=>by
  refine j4 (j5 (GT Cl.pv (λc=>PV.tup [.at (.str c.name),c.pv]) d.cls rfl rfl (by omega) λc _=>⟨_,rfl,xD (j5 (j4 rfl rfl) (j5 rfl rfl)) l2⟩) rfl) ?_;show (vR (d.cls.map λc=>PV.tup [.at (.str c.name),c.pv])).bind _=_;have k1:(d.cls.map λc=>((.inr c.name:v3),c.pv)).map (·.1)=keysOf d.cls:=by rw [yq];rfl
  have k2:(d.cls.map λc=>((.inr c.name:v3),c.pv)).map (·.2)=d.cls.map Cl.pv:=by rw [yq];rfl
  rw [Wf,yG,k1,k2];exact if_pos ⟨KA ok.nd,by rw [yZ];omega⟩
 have vl:=YJ ok.rin ok.h1 ok.h4;rw [show vb d.rss d.h=d.low from rfl,wH d.low] at vl;refine KH (f:=x9 vf (q0 (x0 1) x8)) (i:=1) (x:=y7 d.rss) (ls:=d.low.map (List.map V.int)) L rd0 rfl rv (j4 rfl vl) rfl (by decide) (by decide) λHs1 H1 rd1 g1=>?_;rw [<- wH] at rd1;refine KI (b:=YS (wP (x9 vd (q0 (x0 3) (q0 (x0 4) (q0 (zF Aa "hues" (zf Aa) 0 x8) x8)))))) (ε':=[.ow (.ob Aa ["least"] [y7 d.low]),.sh (.op λ_ v=>v=v1),.sh (.op λ_ v=>v = .ref a2),.sh (.at (.int d.last)),.sh (.at (.int d.time))]) rd1 ⟨_,j4 (j5 rfl (j5 rfl (j5 (Qw rfl (by decide) rfl (Xj ok)) rfl))) (YH ok.l1 ok.l2 ok.t1),rfl⟩ λHs2 H2 σ2 rd2 g2=>?_;have tp:∀ {Hs' H':Hp} {σ':St} {ε':ME},RD [x] Hs H Hs' H' σ' ε'->Top Hs' H' a2 (.lst (d.cls.map Cl.pv)):=λrd=>t2.mono rd.s1 λo e=>rd.s2 _ _ e λz=>(L.out a2 ha2).2 z;have sl:∀ {Hs' H':Hp} {σ':St} {s0:MSlot},RD [x] Hs H Hs' H' σ' [s0,.sh (.op λ_ v=>v=v1),.sh (.op λ_ v=>v = .ref a2),.sh (.at (.int d.last)),.sh (.at (.int d.time))]->σ'[1]?=some (some v1)/\σ'[2]?=some (some (.ref a2)):=λrd=>by
  obtain ⟨w1,e1,c1⟩:=rd.sh 1 _ rfl;obtain ⟨_,_,rfl⟩:=rep_op.mp c1;obtain ⟨w2,e2,c2⟩:=rd.sh 2 _ rfl;obtain ⟨_,_,rfl⟩:=rep_op.mp c2;exact ⟨e1,e2⟩
 have rb:∀{Hs' H':Hp}{σ':St}{ε':ME},RD [x] Hs H Hs' H' σ' ε'->Rep (qy Hs' HR) (.lst (d.cls.map Cl.pv)) (.ref a2):=λrd=>by
  obtain ⟨vs,hv,rvs⟩:=tp rd;refine rep_lst.mpr ⟨a2,vs,rfl,?_,rvs.mono (L.s1 rd)⟩;cases e:HR a2 with
  |none=>exact absurd e ha2
  |some o=>rw [ZS e];have:=L.at rd _ _ e;rw [hv] at this;exact this.symm
 refine LI (f:=x9 vc (q0 (x0 2) (q0 (zF Aa "hues" (zf Aa) 0 x8) x8))) (i:=2) (x:= .lst (d.cls.map Cl.pv)) L rd2 (sl rd2).2 (rb rd2) (j4 (j5 rfl (j5 (Qw rfl (by decide) rfl (Xj ok)) rfl)) (PH ok.cl ok.nd ok.ten)) λH3 rd3=>?_;refine KH (f:=t6 [none] [0] (t9 (x0 1)) (w5 0) c7 (x9 vh (q0 (z5 0) x8))) (i:=1) (x:=y7 d.rss) (ls:=d.rss.map (List.map V.int)) L rd3 (sl rd3).1 rv ((cp _ _ _ _).trans (by rw [wH d.rss])) rfl (by decide) (by decide) λHs4 H4 rd4 g4=>?_;rw [<- wH] at rd4;refine LJ (f:=x9 QS (q0 (wb [none] [0] (t9 (z5 2)) (w5 0) c7 (ql (q0 (x9 qo (q0 (x0 0) x8)) (q0 (x0 0) x8)))) x8)) (i:=2) (x:= .lst (d.cls.map Cl.pv)) L rd4 (sl rd4).2 ha2 (tp rd4) (dk _ _ _ _) rfl (by decide) (by decide) λHs5 H5 rd5 g5=>?_;refine KI (b:=Vd Aa "last" (wP (dIf (dT (z9 Zd (z5 3) (dC .non))) (dUn wy (dC (.int 1))) (x0 3)))) (ε':=[.ow (.ob Aa ["least","given","held","last"] [y7 d.low,y7 d.rss,.fk (keysOf d.cls) (d.cls.map Cl.pv),.at (.int d.last)]),.sh (.op λ_ v=>v=v1),.sh (.op λ_ v=>v = .ref a2),.sh (.at (.int d.last)),.sh (.at (.int d.time))]) rd5 ⟨.at (.int d.last),we (u9 (v:=false) (v6 rfl rfl rfl)) rfl,_,_,rfl,by decide,by decide,rfl⟩ λHs6 H6 σ6 rd6 g6=>?_;refine SemWS.h (w:=Vd Aa "time" (wP (x0 4))) (N:=λε=>ε=[.ow (d.ob Aa),.sh (.op λ_ v=>v=v1),.sh (.op λ_ v=>v = .ref a2),.sh (.at (.int d.last)),.sh (.at (.int d.time))]) (R:=λ_ _=>False) ⟨.at (.int d.time),rfl,_,_,rfl,by decide,by decide,rfl⟩ rd6 (λε7 σ7 Hs7 H7 e7 rd g7=>?_) λ_ _ _ _ _ _ z _ _ _=>z.elim;subst e7;obtain ⟨a,ha,_,n,tpx⟩:=rd.ow 0 _ rfl;rw [rd.pin x (yM.mpr rfl)] at ha;injection ha with ha;injection ha with ha;injection ha with ha;subst ha;obtain ⟨o,ho,ro⟩:=tpx.rep n;have g2:Same Hs7 (z7 Hs7 x o):=λb u e=>by rw [z6 (y0 e n)];exact e
 refine q (z7 Hs7 x o) H7 (rd.s1.trans g2) (λb u e hb=>rd.s2 b u e λw=>hb (yM.mp w)) (λb u e=>?_) (λb hb hbx w=>?_) ro
 ·by_cases hbx:b=x
  ·subst hbx;rw [j9] at e;cases e;exact ho
  ·rw [z6 hbx] at e;exact rd.s3 _ _ e
 ·rw [z6 hbx];exact rd.s4 b hb w
theorem NH (F:FunD K "__init__" "Works.__init__" vo f fd)(A0:Fy P w K mg base 4 "check_cloths" ["cloths","hues"] (m7 vc (jI Ae Ad Ag)))(A4:Fy P w K mg base 3 "check_start" ["last","time","hues"] (m7 vd (Xm Af)))(A3:Fy P w K mg base 4 "least_rinses" ["rinses"] (vq vf (Xn Ac)))(At:Fn P w K mg base 1 "name_of" ["cloth"] (w4 qo))(E6:mg "dict"=none)(Au:mg "list"=none)[k8 K Aa][w9 K Aa "given"][w9 K Aa "held"][w9 K Aa "last"][w9 K Aa "least"][w9 K Aa "time"](Az:Mt P w K mg base 1 Aa "hues" ["self"] (w4 (zf Aa))):FnOk P w K mg base (y9 P w) 5 f fd ["self","rinses","cloths","last","time"] (je (zz Aa (xO Aa) (jk Ae Ac Af Ad Ag Aa)) (vp Aa)):=FnOk.or (Np F A0 A4 A3 At E6 Au Az) (Nq F A0 A4 A3 At E6 Au Az)
abbrev WH:Stmt:=qB (top 48) 11
abbrev Ut (Aa:Addr):MS:=(y8 (x9 (xO Aa) (q0 (p5 Aa "given" (x0 0)) (q0 (z9 qv (Qq (p5 Aa "held" (x0 0))) (m8 (q0 (x0 1) x8))) (q0 (p5 Aa "last" (x0 0)) (q0 (p5 Aa "time" (x0 0)) x8))))))
abbrev Ci (Ae:Addr)(Ac:Addr)(Af:Addr)(Ad:Addr)(Ag:Addr)(Aa:Addr):YM:=(yX (vw (jk Ae Ac Af Ad Ag Aa) (q0 (p5 Aa "given" (x0 0)) (q0 (z9 qv (Qq (p5 Aa "held" (x0 0))) (m8 (q0 (x0 1) x8))) (q0 (p5 Aa "last" (x0 0)) (q0 (p5 Aa "time" (x0 0)) x8))))))
def XO (Aa:Addr):List PV->Option PV:=u8 2 2 (Ut Aa)
def Xl (Ae:Addr)(Ac:Addr)(Af:Addr)(Ad:Addr)(Ag:Addr)(Aa:Addr):List PV->Addr->XV->Prop:=yFn 2 2 (Ci Ae Ac Af Ad Ag Aa)
theorem TF:v4 ["self","cloth"] ["self","cloth"] (j3 WH):=y3
theorem NJ (F:Fun K "put" "Works.put" WH f fd)(Au:mg "list"=none)(B4:mg "Works"=some (.ref Aa))[k8 K Aa][w9 K Aa "given"][w9 K Aa "held"][w9 K Aa "last"][w9 K Aa "time"](A8:jM P w K mg base 5 Aa ["self","rinses","cloths","last","time"] (je (zz Aa (xO Aa) (jk Ae Ac Af Ad Ag Aa)) (vp Aa))):FnOk P w K mg base (y9 P w) 7 f fd ["self","cloth"] (m7 (XO Aa) (Xl Ae Ac Af Ad Ag Aa)) :=
 QP (k:=6) (b:=(Ut Aa)) (xb:=(Ci Ae Ac Af Ad Ag Aa)) F TF rfl rfl λcdv A outer s H E hr=>⟨_,(j6 (w6 (QY A8 hr (by decide) qw rfl B4 (aC (qp (K:=K) rfl (pv 0) rfl) (aC (v7 (xt (K:=K) rfl) (ja (Dn rfl) rfl Au jo (aW (Ro (qp (K:=K) rfl (pv 0) rfl)))) (@qg _ _ _ _ (aW (pv 1)))) (aC (qp (K:=K) rfl (pv 0) rfl) (aW (qp (K:=K) rfl (pv 0) rfl)))))))),
  inferInstance,inferInstance⟩
abbrev WM:Stmt:=qB (top 48) 12
abbrev Uy (Aa:Addr):MS:=(y4 (zc (u6 Aa "cloth" (xE Aa) (x0 0) (q0 (x0 1) x8)))
  (y8 (x9 (xO Aa) (q0 (p5 Aa "given" (x0 0)) (q0 (u6 Aa "cloths_but" (vM Aa) (x0 0) (q0 (m8 (q0 (x0 1) x8)) x8)) (q0 (p5 Aa "last" (x0 0)) (q0 (p5 Aa "time" (x0 0)) x8)))))))
abbrev Cj (Ae:Addr)(Ah:Addr)(Ac:Addr)(Af:Addr)(Ad:Addr)(Ag:Addr)(Aa:Addr):YM:=(xv false (zc (u6 Aa "cloth" (xE Aa) (x0 0) (q0 (x0 1) x8))) (yX (Cu Aa "cloth" (jj Ah Aa) (x0 0) (q0 (x0 1) x8)))
  (yX (vw (jk Ae Ac Af Ad Ag Aa) (q0 (p5 Aa "given" (x0 0)) (q0 (u6 Aa "cloths_but" (vM Aa) (x0 0) (q0 (m8 (q0 (x0 1) x8)) x8)) (q0 (p5 Aa "last" (x0 0)) (q0 (p5 Aa "time" (x0 0)) x8)))))))
def XR (Aa:Addr):List PV->Option PV:=u8 2 2 (Uy Aa)
def ZF (Ae:Addr)(Ah:Addr)(Ac:Addr)(Af:Addr)(Ad:Addr)(Ag:Addr)(Aa:Addr):List PV->Addr->XV->Prop:=yFn 2 2 (Cj Ae Ah Ac Af Ad Ag Aa)
theorem TQ:v4 ["self","name"] ["self","name"] (j3 WM):=y3
theorem NO (F:Fun K "without" "Works.without" WM f fd)(B4:mg "Works"=some (.ref Aa))[k8 K Aa][w9 K Aa "given"][w9 K Aa "last"][w9 K Aa "time"](Am:My P w K mg base 1 Aa "cloth" ["self","name"] (m7 (xE Aa) (jj Ah Aa)))(Ay:Mt P w K mg base 2 Aa "cloths_but" ["self","names"] (jd [false,true] (vM Aa)))(A8:jM P w K mg base 5 Aa ["self","rinses","cloths","last","time"] (je (zz Aa (xO Aa) (jk Ae Ac Af Ad Ag Aa)) (vp Aa))):FnOk P w K mg base (y9 P w) 7 f fd ["self","name"] (m7 (XR Aa) (ZF Ae Ah Ac Af Ad Ag Aa)) :=
 QP (k:=6) (b:=(Uy Aa)) (xb:=(Cj Ae Ah Ac Af Ad Ag Aa)) F TQ rfl rfl λcdv A outer s H E hr=>⟨_,(j0 (qU (xR Am hr (by decide) qw (pv 0) (aW (pv 1))))
  (j6 (w6 (QY A8 hr (by decide) qw rfl B4 (aC (qp (K:=K) rfl (pv 0) rfl) (aC (Zf Ay hr (by decide) (pv 0) (aW (@qg _ _ _ _ (aW (pv 1))))) (aC (qp (K:=K) rfl (pv 0) rfl) (aW (qp (K:=K) rfl (pv 0) rfl))))))))),
  inferInstance,inferInstance⟩
abbrev WC:Stmt:=qB (top 48) 14
abbrev Uo (Aa:Addr):MS:=(y4 (qk 2 (x9 (XT Aa) (q0 (x0 0) (q0 (z5 1) x8))))
  (y4 (qk 3 (dIf (p7 (z5 1)) (x9 zt (q0 (Xx (p5 Aa "held" (x0 0)) (z9 v8 (z5 1) (dUn wy (dC (.int 1))))) x8)) (p5 Aa "last" (x0 0))))
  (y8 (x9 (xO Aa) (q0 (p5 Aa "given" (x0 0)) (q0 (u6 Aa "cloths_but" (vM Aa) (x0 0) (q0 (z5 1) x8)) (q0 (x0 3) (q0 (x0 2) x8))))))))
def QJ (Aa:Addr):List PV->Option PV:=jq 4 [false,true] (Uo Aa)
theorem sc_Works_begun:v4 ["self","names","time","last"] ["self","names"] (j3 WC):=y3
theorem ND (F:Fun K "begun" "Works.begun" WC f fd)(N0:Fn P w K mg base 5 "end_of" ["works","names"] (za [false,true] (XT Aa)))(B8:Fn P w K mg base 1 "hue_of" ["cloth"] (w4 zt))(B4:mg "Works"=some (.ref Aa))[k8 K Aa][w9 K Aa "given"][w9 K Aa "held"][w9 K Aa "last"](Ay:Mt P w K mg base 2 Aa "cloths_but" ["self","names"] (jd [false,true] (vM Aa)))(A8:jM P w K mg base 5 Aa ["self","rinses","cloths","last","time"] (je (zz Aa (xO Aa) (jk Ae Ac Af Ad Ag Aa)) (vp Aa))):FnOk P w K mg base v5 7 f fd ["self","names"] (za [false,true] (QJ Aa)) :=
 okPB (k:=6) (b:=(Uo Aa)) F sc_Works_begun rfl rfl λcdv A outer s H E hr=>⟨_,(j0 (sW 2 sc_Works_begun.nd (fW N0 hr (aC (pv 0) (aW (pv 1)))))
  (j0 (sW 3 sc_Works_begun.nd (wB (xI (K:=K) rfl (pv 1) (λ_=>rfl)) (fW B8 hr (aW (Bi (QB hr) (qp (K:=K) rfl (pv 0) rfl) (iW (K:=K) rfl (pv 1) (Zh Zz z8)) (λ_ _=>rfl)))) (qp (K:=K) rfl (pv 0) rfl)))
  (j6 (w6 (QY A8 hr (by decide) QV rfl B4 (aC (qp (K:=K) rfl (pv 0) rfl) (aC (Zf Ay hr (by decide) (pv 0) (aW (pv 1))) (aC (pv 3) (aW (pv 2)))))))))),
  inferInstance⟩
def Dr.endT (d:Dr):Int->Int->List Cl->Int
 |_,t,[]=>t
 |l,t,c::cs=>d.endT (c.hue:Int) (t+d.rz l c.hue+c.len) cs
def Ql (cs ns:List Cl):List Cl:=cs.filter λc=>!decide (c.name∈ns.map Cl.name)
section
variable {C:Addr}{d:Dr}
theorem Kh:∀{ns:List Cl}{l t:Int},ns≠[]->∃ r,(d.go l t ns).getLast?=some r/\r.2.2=d.endT l t ns
 |[],_,_,h=>absurd rfl h
 |[c],l,t,_=>⟨_,rfl,rfl⟩
 |c::c2::cs,l,t,_=>by
  obtain ⟨r,e1,e2⟩:=Kh (ns:=c2::cs) (l:=(c.hue:Int)) (t:=t+d.rz l c.hue+c.len) (λz=>nomatch z);refine ⟨r,?_,e2⟩;show ((c,t+d.rz l c.hue,t+d.rz l c.hue+c.len)::d.go c.hue (t+d.rz l c.hue+c.len) (c2::cs)).getLast?=_;rw [List.getLast?_cons,e1];rfl
theorem Uh {xs:List α}{x:α}(h:xs.getLast?=some x):atI xs (-1)=some x:=by
 have hl:xs≠[]:=λz=>by rw [z] at h;cases h
 have hp:0<xs.length:=List.length_pos_iff.mpr hl;rw [List.getLast?_eq_getElem?] at h;unfold atI ixN;rw [if_neg (by decide),if_pos (by omega)];show xs[((-1:Int)+(xs.length:Int)).toNat]?=_;rw [show ((-1:Int)+(xs.length:Int)).toNat=xs.length-1 by omega];exact h
theorem v_end (ok:d.Ok)(L:Lst d ns):XT C [d.ob C,nmP ns]=some (.at (.int (d.endT d.last d.time ns))):=by
 refine Vx rfl (u7 (xN (j4 rfl (PJ ok L))) (k9 ?_));by_cases h:ns=[]
 ·subst h;exact we rfl (v6 (qt rfl (by decide) rfl Xk) rfl rfl)
 ·obtain ⟨r,e1,e2⟩:=Kh (d:=d) (l:=d.last) (t:=d.time) h;have ne:d.go d.last d.time ns≠[]:=λz=>by rw [z] at e1;cases e1
  refine XF ?_ (v6 (v6 rfl rfl (Uh (x:=xh r) ?_)) rfl ?_)
  ·show some (!((d.go d.last d.time ns).map xh).isEmpty)=_;cases hg:d.go d.last d.time ns with
   |nil=>exact absurd hg ne
   |cons x xs=>rfl
  ·rw [List.getLast?_map,e1];rfl
  ·rw [<- e2];rfl
theorem Mb (h:a ε=some (.fk ks xs)):dItV a ε=some xs:=by unfold dItV;rw [h];rfl
theorem PF (ok:d.Ok):vM C [d.ob C,nmP ns]=some (.lst ((Ql d.cls ns).map Cl.pv)):=by have hlim:lim=1000000:=rfl;have ten:=ok.ten;refine GX rfl (k9 (ev_cf Cl.pv Cl.pv (λc=>!decide (c.name∈ns.map Cl.name)) d.cls (Mb (qX rfl rfl)) rfl (by omega) λc hc=>⟨_,rfl,u9 (v6 (j4 rfl rfl) rfl (Kr true c.name _)),λ_=>rfl⟩))
end
def QE:Int->List Cl->Int
 |l,[]=>l
 |_,c::cs=>QE (c.hue:Int) cs
def Dr.begun (d:Dr)(ns:List Cl):Dr:=⟨d.h,d.rss,Ql d.cls ns,QE d.last ns,d.endT d.last d.time ns⟩
section
variable {C:Addr}{d:Dr}
theorem KC:∀(ns:List Cl)(l:Int),-1<=l->l<(d.h:Int)->(∀ c∈ns,c.Ok d.h)->-1<=QE l ns/\QE l ns<(d.h:Int)
 |[],_,h1,h2,_=>⟨h1,h2⟩
 |c::cs,l,h1,h2,h3=>KC cs (c.hue:Int) (by omega) (by have:=(h3 c yU).hu;omega) λx hx=>h3 x (yS _ hx)
theorem rz_le (ok:d.Ok){f:Int}(f0:-1<=f)(f1:f<(d.h:Int))(hg:g<d.h):0<=d.rz f g/\d.rz f g<=qx:=by
 unfold Dr.rz;split
 ·exact ⟨uy _,Int.le_of_lt CA⟩
 ·have G:xw d.h d.low:=VQ ok.rin;have main:∀ n:Nat,n<=d.h->0<=rin d.low (n:Int) (g:Int)/\rin d.low (n:Int) (g:Int)<=qx:=by
   intro n hn;have hl:n<d.low.length:=by rw [show d.low.length=d.h+1 from G.len];omega
   have hgl:g<d.low[n].length:=by rw [(G.row _ (yp hl)).1];exact hg
   rw [Zp G hn hg,qe hl,qe hgl];have:=(G.row _ (yp hl)).2 _ (yp hgl);have hB:qx=10 ^ 30:=rfl;omega
  by_cases hf:f=-1
  ·rw [hf,BS G.len];exact main d.h (yT _)
  ·obtain ⟨n,rfl⟩:=uW (show 0<=f by omega);exact main n (by omega)
theorem GM (ok:d.Ok):∀(ns:List Cl)(l t:Int),-1<=l->l<(d.h:Int)->(∀ c∈ns,c.Ok d.h)->0<=t->0<=d.endT l t ns/\d.endT l t ns<=t+2*qx*ns.length
 |[],_,t,_,_,_,h=>⟨h,by show t<=t+2*qx*((0:Nat):Int);omega⟩
 |c::cs,l,t,h1,h2,h3,h=>by
  have hk:=h3 c yU;have z:=rz_le ok h1 h2 hk.hu;have a1:=hk.l1;have a2:=hk.l2;have e:2*qx*((c::cs).length:Int)=2*qx*(cs.length:Int)+2*qx:=by rw [yH];push_cast;rw [Int.mul_add,Int.mul_one]
  have q:=GM ok cs (c.hue:Int) (t+d.rz l c.hue+c.len) (by omega) (by have:=hk.hu;omega) (λx hx=>h3 x (yS _ hx)) (by omega);show 0<=d.endT (c.hue:Int) (t+d.rz l c.hue+c.len) cs/\d.endT (c.hue:Int) (t+d.rz l c.hue+c.len) cs<=_;rw [e];omega
theorem KY (ok:d.Ok)(L:Lst d ns):(d.begun ns).Ok:=by have hc:∀ c∈ns,c.Ok d.h:=λc h=>ok.cl c (L.sub c h);have l:=KC (d:=d) ns d.last ok.l1 ok.l2 hc;have e:=GM ok ns d.last d.time ok.l1 ok.l2 hc ok.t1;exact ⟨ok.h1,ok.h4,ok.rin,ye (List.length_filter_le _ _) ok.ten,λc h=>ok.cl c (List.mem_filter.mp h).1,ok.nd.sublist (List.filter_sublist.map _),l.1,l.2,e.1,trivial⟩
theorem KD:∀{ns:List Cl}{l:Int}{c:Cl},ns.getLast?=some c->QE l ns=(c.hue:Int)
 |[],_,_,h=>by cases h
 |[x],_,c,h=>by
  have e:x=c:=by simpa using h
  subst e;rfl
 |x::y::cs,l,c,h=>KD (ns:=y::cs) (l:=(x.hue:Int)) (by rw [List.getLast?_cons_cons] at h;exact h)
theorem SU (ok:d.Ok)(L:Lst d ns):QJ C [d.ob C,nmP ns]=some ((d.begun ns).ob C):=by
 have okb:=KY ok L;refine Vx rfl (u7 (xN (j4 rfl (v_end ok L))) (u7 (xN (x:= .at (.int (QE d.last ns))) ?_) (k9 (j4 (j5 (qX rfl rfl) (j5 (qt rfl (by decide) rfl (PF ok)) rfl)) (JY okb)))));by_cases h:ns=[]
 ·subst h;exact we rfl (qX rfl rfl)
 ·obtain ⟨c,e⟩:∃ c,ns.getLast?=some c:=⟨_,List.getLast?_eq_some_getLast h⟩;have hc:c∈ns:=List.mem_of_getLast? e;rw [KD e];refine XF ?_ (j4 (j5 (GV (qX rfl rfl) (v6 rfl rfl (Uh (x:= .at (.str c.name)) ?_)) rfl (Jv Cl.pv ok.nd c (L.sub c hc))) rfl) rfl)
  ·show some (!(k7 (ns.map Cl.name)).isEmpty)=_;cases ns with
   |nil=>exact absurd rfl h
   |cons x xs=>rfl
  ·unfold k7;rw [List.getLast?_map,List.getLast?_map,e];rfl
end
theorem Lh {x:PV}{T n:String}(h:tyP x=some T)(hb:tyB T n=some false):o4 [x,.at (.ty n)]=some (.at (.bl false)):=by show (tyP x).bind _=_;rw [h,yG,hb];rfl
def NW (x:PV):Prop:=zW [x]=some (.at (.bl false))
theorem Nj (b:Bool):NW (.at (.bl b)):=by
 have h1:o4 [.at (.bl b),.at (.ty "int")]=some (.at (.bl true)):=by unfold o4 tyP;rfl
 have h2:o4 [.at (.bl b),.at (.ty "bool")]=some (.at (.bl true)):=by unfold o4 tyP;rfl
 exact i7 rfl (k9 (wd (j4 rfl h1) (Kb (v:=true) (j4 rfl h2))))
theorem KW {x:PV}{T:String}(h:tyP x=some T)(hb:tyB T "int"=some false):NW x:=i7 rfl (k9 (Vw (j4 rfl (Lh h hb))))
theorem Nl:NW (.at .non):=KW rfl rfl
theorem Nm (s:Str):NW (.at (.str s)):=KW rfl rfl
theorem Mh {x:PV}(h:NW x)(k:Int):qu [x,.at (.int k)]=some (.at (.bl false)):=i7 rfl (k9 (Vw (j4 rfl h)))
theorem Kf {k:Int}(h:n<k):qu [.at (.int n),.at (.int k)]=some (.at (.bl false)):=(PK n k).trans (by rw [yP (by omega)])
section
variable {C CC CR CS CM CT:Addr}{ε:ME}{c:MB}{xa xb:YM}{k:Addr}{y:XV}
theorem Vf (h:c ε=some true)(q:xa ε k y):yIf c xa xb ε k y:=⟨true,h,qb q⟩
theorem Gx {p q:PV->PV->Option PV}{c:M}{x y:PV}(h1:a ε=some x)(h2:b ε=some y)(h:p x y=some (.at (.bl false))):zM p q a b c ε=some (.at (.bl false)):=by unfold zM;rw [h1,yG,h2,yG,h];rfl
theorem Cr {l:List PV}(hl:10<l.length):jI CC CM CT [.lst l,.at (.int h)] CM none:=by refine ⟨rfl,.inl (Vf (u9 (v:=true) (v6 (j4 rfl rfl) rfl ?_)) ⟨rfl,rfl⟩)⟩;show some (PV.at (.bl (decide ((10:Int)<(l.length:Int)))))=_;rw [yu (by omega)]
theorem Cq {A:List Cl}{B:List PV}(hok:∀ c∈A,c.Ok h)(nd:(A.map Cl.name).Nodup)(ten:A.length+1+B.length<=10){c:Addr}{y:XV}(ht:zg [t,.at (.int h)]=some (.at (.bl false))/\c=CC/\y=none∨∃ e:Cl,t=e.pv/\e.Ok h/\e.name∈A.map Cl.name/\c=CT/\y=some (("name":Str),V.str e.name)):jI CC CM CT [.lst (A.map Cl.pv++t::B),.at (.int h)] c y:=by
 have hlim:lim=1000000:=rfl;have ll:(A.map Cl.pv++t::B).length=A.length+1+B.length:=by rw [yL,yZ,yH];omega
 refine ⟨rfl,.inr ⟨_,qG (u9 (v:=false) (v6 (j4 rfl rfl) rfl ?_)) qH,.inr ⟨_,VA rfl,A.map Cl.pv++t::B,rfl,?_⟩⟩⟩
 ·show some (PV.at (.bl (decide ((10:Int)<((A.map Cl.pv++t::B).length:Int)))))=_;rw [ll,yP (by omega)]
 have key:∀(l done:List Cl)(s3:MSlot),done++l=A->ZG (w5 3) (y4 (p6 (k6 (p7 (x9 zg (q0 (x0 3) (q0 (x0 1) x8))))) o7 m9)
   (y4 (p6 (dT (vI (x9 qo (q0 (x0 3) x8)) (z5 2))) o7 m9)
   (zO 2 (x9 qo (q0 (x0 3) x8)) (dC (.bl true))))) (xv false (p6 (k6 (p7 (x9 zg (q0 (x0 3) (q0 (x0 1) x8))))) o7 m9) (yIf (k6 (p7 (x9 zg (q0 (x0 3) (q0 (x0 1) x8))))) (jK CC) xk)
   (xv false (p6 (dT (vI (x9 qo (q0 (x0 3) x8)) (z5 2))) o7 m9) (yIf (dT (vI (x9 qo (q0 (x0 3) x8)) (z5 2))) (YX CT "name" (x9 qo (q0 (x0 3) x8))) xk)
   xk)) (l.map Cl.pv++t::B) [.sh (.lst (A.map Cl.pv++t::B)),.sh (.at (.int h)),.ow (.dk (keysOf done) (done.map λ_=>PV.at (.bl true))),s3] c y:=by
  intro l
  induction l with
  |nil =>
   intro done s3 e;rw [yO] at e;subst e;refine ⟨_,rfl,.inl ?_⟩;rcases ht with ⟨h1,rfl,rfl⟩|⟨e,rfl,ok,hm,rfl,rfl⟩
   ·exact .inl (Vf (ZY (o9 (j4 rfl h1))) ⟨rfl,rfl⟩)
   ·obtain ⟨x,hx,en⟩:=yw.mp hm;refine .inr ⟨_,qG (o8 (o9 (j4 rfl (YI ok)))) qH,.inl (Vf (u9 (v:=true) ?_) ⟨rfl,_,j4 rfl rfl,rfl⟩)⟩;show some (PV.at (.bl (qC (.inr e.name) (keysOf done) (done.map λ_=>PV.at (.bl true))).isSome))=_;rw [<- en,Jv (λ_=>PV.at (.bl true)) nd x hx];rfl
  |cons a l ih =>
   intro done s3 e;have hc:a∈A:=by rw [<- e];exact yt _ yU
   have hn:a.name∉done.map Cl.name:=λz=>by
    rw [<- e,yE,yI] at nd;exact (uD.mp nd).2.2 _ z _ yU rfl
   have ln:=XN (α:=Unit) (λ_=>PV.at (.bl true)) hn;have hd:done.length<=10:=by have:=congrArg List.length e;rw [yL] at this;omega
   refine ⟨_,rfl,.inr ⟨_,.inl (u7 (qG (o8 (o9 (j4 rfl (YI (hok a hc))))) qH) (u7 (qG (u9 (v:=false) ?_) qH) ?_)),ih (done++[a]) (.sh a.pv) (by rw [<- e,uX];rfl)⟩⟩
   ·show some (PV.at (.bl (qC (.inr a.name) (keysOf done) (done.map λ_=>PV.at (.bl true))).isSome))=_;rw [ln];rfl
   ·show (if (keysOf done).length<=lim then some (Out.nx [_,_,.ow (jA (.inr a.name) (.at (.bl true)) (keysOf done) (done.map λ_=>PV.at (.bl true))),_]) else none)=_;unfold jA;rw [if_pos (by unfold keysOf;rw [yZ];omega),ln];simp only [Option.isSome_none,uO,if_false];unfold keysOf;rw [yE,yE];rfl
 exact key A [] .no rfl
theorem Iu (ok:d.Ok){cl:PV}{t:Int}{c:Addr}{y:XV}(h1:-1<=l)(h2:l<(d.h:Int))(h3:0<=t)(h:jI CC CM CT [cl,.at (.int d.h)] c y):jk CC CR CS CM CT C [y7 d.rss,cl,.at (.int l),.at (.int t)] c y :=
 ⟨rfl,.inr ⟨_,Qx (j4 rfl (YJ ok.rin ok.h1 ok.h4)) rfl (by decide) (by decide),.inr ⟨_,Qv (j4 (j5 rfl (j5 rfl (j5 (Qw rfl (by decide) rfl (Xj ok)) rfl))) (YH h1 h2 h3)),.inl ⟨_,j5 rfl (j5 (Qw rfl (by decide) rfl (Xj ok)) rfl),h⟩⟩⟩⟩
end
def wU (h:Nat)(t:PV):Prop:=zg [t,.at (.int h)]=some (.at (.bl false))
theorem Na (hz:zs.length≠5):wU h (.tup zs):=by refine i7 rfl (Ji (Jg (XC (o8 (o9 (j4 rfl VJ))) (u9 (v:=true) (v6 (j4 rfl rfl) rfl ((Nf _ _).trans ?_)))) (k9 rfl)));rw [yP (by omega)];rfl
section
variable {a b c e f:PV}{h:Nat}
theorem VU (k:(y4 (p6 (dOr (k6 (p7 (x9 zu (q0 (x9 qo (q0 (x0 0) x8)) x8)))) (dOr (k6 (p7 (x9 qu (q0 (x9 zt (q0 (x0 0) x8)) (q0 (dC (.int 0)) x8))))) (dT (z9 pGe (x9 zt (q0 (x0 0) x8)) (z5 1))))) (y8 (dC (.bl false))) m9) (y8 (xY (x9 qu (q0 (x9 vN (q0 (x0 0) x8)) (q0 (dC (.int 1)) x8))) (xY (x9 zW (q0 (x9 wu (q0 (x0 0) x8)) x8)) (x9 qu (q0 (x9 XZ (q0 (x0 0) x8)) (q0 (dC (.int 1)) x8))))))) [.sh (.tup [a,b,c,e,f]),.sh (.at (.int h))]=some (.rt y)):zg [.tup [a,b,c,e,f],.at (.int h)]=some y :=
 i7 rfl (u7 (qG (jr (o8 (o9 (j4 rfl VJ))) (u9 (v:=false) rfl)) qH) k)
theorem Nc (hn:zu [a]=some (.at (.bl false))):wU h (.tup [a,b,c,e,f]):=VU (Ji (Jg (dOr_t (ZY (o9 (j4 (j5 (j4 rfl rfl) rfl) hn)))) (k9 rfl)))
theorem LZ (hn:zu [a]=some (.at (.bl true))):wU h (.tup [a,.at (.int h),c,e,f]):=by refine VU (Ji (Jg (XC (o8 (o9 (j4 (j5 (j4 rfl rfl) rfl) hn))) (XC (o8 (o9 (j4 (j5 (j4 rfl rfl) rfl) (vU (by omega))))) (u9 (v:=true) (v6 (j4 rfl rfl) rfl ?_)))) (k9 rfl)));show some (PV.at (.bl (decide ((h:Int)<=(h:Int)))))=_;rw [yu (uy _)]
theorem Nd (hn:zu [a]=some (.at (.bl true)))(hg:g<h){y:Bool}(k:xY (x9 qu (q0 (x9 vN (q0 (x0 0) x8)) (q0 (dC (.int 1)) x8))) (xY (x9 zW (q0 (x9 wu (q0 (x0 0) x8)) x8)) (x9 qu (q0 (x9 XZ (q0 (x0 0) x8)) (q0 (dC (.int 1)) x8)))) [.sh (.tup [a,.at (.int g),c,e,f]),.sh (.at (.int h))]=some (.at (.bl y))):zg [.tup [a,.at (.int g),c,e,f],.at (.int h)]=some (.at (.bl y)):=by refine VU (u7 (qG (jr (o8 (o9 (j4 (j5 (j4 rfl rfl) rfl) hn))) (jr (o8 (o9 (j4 (j5 (j4 rfl rfl) rfl) (vU (n:=(g:Int)) (by omega))))) (u9 (v:=false) (v6 (j4 rfl rfl) rfl ?_)))) qH) (k9 k));show some (PV.at (.bl (decide ((h:Int)<=(g:Int)))))=_;rw [yP (by omega)]
theorem Nb (hn:zu [a]=some (.at (.bl true)))(hg:g<h)(hc:qu [c,.at (.int 1)]=some (.at (.bl false))):wU h (.tup [a,.at (.int g),c,e,f]):=Nd hn hg (Vw (j4 (j5 (j4 rfl rfl) rfl) hc))
end
theorem Nh (h:s.length=0∨s.length=9):zu [.at (.str s)]=some (.at (.bl false)):=by
 have hlim:lim=1000000:=rfl;have ln:qD [.at (.str s)]=some (.at (.int s.length)):=if_pos (by omega);refine i7 rfl (Ji (Jg (XC (o8 (o9 (j4 rfl XL))) (ZY (u9 (v:=false) ?_))) (k9 rfl)));rcases h with h|h
 ·refine Gx rfl (j4 rfl ln) ?_;show some (PV.at (.bl (decide ((1:Int)<=(s.length:Int)))))=_;rw [yP (by omega)]
 ·refine Qu (r:=false) rfl (j4 rfl ln) ?_ rfl ?_
  ·show some (PV.at (.bl (decide ((1:Int)<=(s.length:Int)))))=_;rw [yu (by omega)]
  ·show some (PV.at (.bl (decide ((s.length:Int)<=8))))=_;rw [yP (by omega)]
theorem SZ (l1:1<=s.length)(l8:s.length<=8):zu [.at (.str s)]=some (.at (.bl (s.cps.toList.all λc=>decide (97<=c/\c<=122)))):=by
 have hl:lim=1000000:=rfl;have ln:qD [.at (.str s)]=some (.at (.int s.length)):=if_pos (by omega);refine i7 rfl (u7 (qG (jr (o8 (o9 (j4 rfl XL))) (o8 (u9 (Qu (r:=true) rfl (j4 rfl ln) ?_ rfl ?_)))) qH) (k9 (j4 (j5 (xp (λc:Nat=>PV.at (.str ⟨#[c]⟩)) (λc=>PV.at (.bl (decide (97<=c/\c<=122)))) s.cps.toList rfl rfl ?_ ?_) rfl) ?_)))
 ·show some (PV.at (.bl (decide ((1:Int)<=(s.length:Int)))))=_;rw [yu (by omega)]
 ·show some (PV.at (.bl (decide ((s.length:Int)<=8))))=_;rw [yu (by omega)]
 ·have:s.cps.toList.length=s.length:=by simp [Str.length]
  omega
 ·intro c hc;refine ⟨_,rfl,?_⟩;have p1:QT (.at (.str "a")) (.at (.str ⟨#[c]⟩))=some (.at (.bl (decide (97<=c)))):=by
   show some (PV.at (.bl (!decide ([c]<("a":Str).cps.toList))))=_;rw [show ("a":Str).cps.toList=[97] by decide +kernel];by_cases h:97<=c
   ·rw [yu h,yP (by rw [uN];simp;omega)];rfl
   ·rw [yP h,yu (by rw [uN];simp;omega)];rfl
  have p2:QT (.at (.str ⟨#[c]⟩)) (.at (.str "z"))=some (.at (.bl (decide (c<=122)))):=by
   show some (PV.at (.bl (!decide (("z":Str).cps.toList<[c]))))=_;rw [show ("z":Str).cps.toList=[122] by decide +kernel];by_cases h:c<=122
   ·rw [yu h,yP (by rw [uN];simp;omega)];rfl
   ·rw [yP h,yu (by rw [uN];simp;omega)];rfl
  by_cases h:97<=c
  ·rw [yu h] at p1;refine (Qu rfl rfl p1 rfl p2).trans ?_
   congr 3
   exact decide_eq_decide.mpr ⟨λq=>⟨h,q⟩,λq=>q.2⟩
  ·rw [yP h] at p1;refine (Gx rfl rfl p1).trans ?_;rw [yP (λq=>h q.1)]
 ·rw [show (s.cps.toList.map λc=>PV.at (.bl (decide (97<=c/\c<=122))))=(s.cps.toList.map λc=>decide (97<=c/\c<=122)).map λb=>PV.at (.bl b) by rw [yq];rfl,Ug,List.all_map];rfl
theorem nn_sg (l1:1<=s.length)(l8:s.length<=8)(h:(s.cps.toList.all λc=>decide (97<=c/\c<=122))=false):zu [.at (.str s)]=some (.at (.bl false)):=by rw [SZ l1 l8,h]
def Dr.with (d:Dr)(cs:List Cl):Dr:=⟨d.h,d.rss,cs,d.last,d.time⟩
theorem Ba (ok:d.Ok)(h10:cs.length<=10)(hc:∀ c∈cs,c.Ok d.h)(nd:(cs.map Cl.name).Nodup):(d.with cs).Ok:=⟨ok.h1,ok.h4,ok.rin,h10,hc,nd,ok.l1,ok.l2,ok.t1,ok.t2⟩
theorem Mc (h:a ε=some (.fk ks xs))(hl:xs.length<=1000):Qq a ε=some (.lst xs):=by unfold Qq;rw [h];exact if_pos hl
section
variable {C CC CR CS CM CT:Addr}{d:Dr}
theorem Bt (ok:d.Ok):(q0 (p5 C "given" (x0 0)) (q0 (z9 qv (Qq (p5 C "held" (x0 0))) (m8 (q0 (x0 1) x8))) (q0 (p5 C "last" (x0 0)) (q0 (p5 C "time" (x0 0)) x8)))) [.sh (d.ob C),.sh t]=some [y7 d.rss,.lst (d.cls.map Cl.pv++[t]),.at (.int d.last),.at (.int d.time)]:=by have hlim:lim=1000000:=rfl;have ten:=ok.ten;exact j5 (qX rfl rfl) (j5 (v6 (x:= .lst (d.cls.map Cl.pv)) (Mc (qX rfl rfl) (by rw [yZ];omega)) (xC rfl l1) (JF (by rw [yZ];show d.cls.length+1<=lim;omega))) (j5 (qX rfl rfl) (j5 (qX rfl rfl) rfl)))
theorem JP (ok:d.Ok){c:Addr}{y:XV}(h:jI CC CM CT [.lst (d.cls.map Cl.pv++[t]),.at (.int d.h)] c y):Xl CC CR CS CM CT C [d.ob C,t] c y:=⟨rfl,_,Bt ok,Iu ok ok.l1 ok.l2 ok.t1 h⟩
theorem Hy (ok:d.Ok)(h9:d.cls.length<=9)(hc:c.Ok d.h)(hn:c.name∉d.cls.map Cl.name):(d.with (d.cls++[c])).Ok:=Ba ok (by rw [yL];show d.cls.length+1<=10;omega) (λx hx=>by
  rcases yy.mp hx with hx|hx
  ·exact ok.cl x hx
  ·rw [yM.mp hx];exact hc) (by
  rw [yE];refine uD.mpr ⟨ok.nd,by simp,λa ha b hb e=>hn ?_⟩;have:b=c.name:=by simpa using hb
  rw [<- this,<- e];exact ha)
theorem v_put (ok:d.Ok)(ok2:(d.with (d.cls++[c])).Ok):XO C [d.ob C,c.pv]=some ((d.with (d.cls++[c])).ob C):=by refine i7 rfl (k9 (j4 (Bt ok) ((congrArg (xO C) ?_).trans (JY ok2))));show [y7 d.rss,PV.lst (d.cls.map Cl.pv++[c.pv]),PV.at (.int d.last),PV.at (.int d.time)]=[y7 d.rss,PV.lst ((d.cls++[c]).map Cl.pv),PV.at (.int d.last),PV.at (.int d.time)];rw [yE];rfl
theorem KZ (ok:d.Ok)(ns:List Cl):(d.with (Ql d.cls ns)).Ok:=Ba ok (ye (List.length_filter_le _ _) ok.ten) (λx h=>ok.cl x (List.mem_filter.mp h).1) (ok.nd.sublist (List.filter_sublist.map _))
theorem Im (ok:d.Ok)(hc:c∈d.cls):XR C [d.ob C,.at (.str c.name)]=some ((d.with (Ql d.cls [c])).ob C) :=
 i7 rfl (u7 (Qv (qt rfl (by decide) rfl (Xi ok hc))) (k9 (j4 (j5 (qX rfl rfl) (j5 (qt rfl (by decide) (j5 (xC rfl l1) rfl) (PF (ns:=[c]) ok)) (j5 (qX rfl rfl) (j5 (qX rfl rfl) rfl)))) (JY (KZ ok [c])))))
theorem Cs (h:s∉d.names):jj CN C [d.ob C,.at (.str s)] CN none:=by refine ⟨rfl,.inl (Vf (XC (o8 (o9 (j4 rfl XL))) (u9 (v:=true) ?_)) ⟨rfl,rfl⟩)⟩;exact GW (o:=none) (qX rfl rfl) rfl rfl (XN (α:=Unit) Cl.pv h)
theorem Iv (h:s∉d.names):ZF CC CN CR CS CM CT C [d.ob C,.at (.str s)] CN none:=⟨rfl,.inl ⟨_,_,_,rfl,by decide,rfl,Cs h⟩⟩
end
structure Hst where
 d:Dr
 rows:List (Cl×Int×Int)
 w:Option Int
def zP:Option Int->PV
 |none=> .at .non
 |some m=> .at (.int m)
def qA (C:Addr)(s:Hst):PV:= .tup [s.d.ob C,.lst (s.rows.map xh),zP s.w]
def qj (j:Nat):PV->List PV->List PV->Option PV:=λn _ xs=>match xs with
 |[]=>match n with
  | .tup ys=>ys[j]?
  |_=>none
 |_=>none
theorem Xv {n:PV}{ps:List PV}(h:qj j n ps xs=some y):xs=[]/\∃ ys,n = .tup ys/\ys[j]?=some y:=by
 unfold qj at h;split at h
 ·split at h
  ·exact ⟨rfl,_,rfl,h⟩
  ·cases h
 ·cases h
def zd:PV->List PV->List PV->Option PV:=λn ps xs=>(qj 1 n ps xs).bind λy=>match y with
 | .lst l=>some (.lst l)
 |_=>none
theorem GK {n:PV}{ps:List PV}(h:zd n ps xs=some y):∃ l,y = .lst l/\qj 1 n ps xs=some (.lst l):=by
 unfold zd at h;obtain ⟨u,e,h⟩:=bind_some h;split at h
 ·cases h;exact ⟨_,rfl,e⟩
 ·cases h
theorem Km (h:xK C (qj j) vs H Q E):vs.length=(["self"]:List Str).length:=by obtain ⟨Hs,k,xs,ws,y,rfl,p,r,hm,q⟩:=h;rw [yH,r.length,(Xv hm).1];rfl
theorem MN (h:xK C (qj 0) vs H Q E):vs.length=(["self"]:List Str).length:=Km h
theorem MO (h:xK C (qj 2) vs H Q E):vs.length=(["self"]:List Str).length:=Km h
theorem MJ (h:jG C zd vs H Q E):vs.length=(["self"]:List Str).length:=by obtain ⟨Hs,k,xs,ws,y,rfl,p,r,hm,q⟩:=h;obtain ⟨l,_,e⟩:=GK hm;rw [yH,r.length,(Xv e).1];rfl
abbrev Wz:Stmt:=qB (top 50) 7
theorem Tw:v4 ["self"] ["self"] (j3 Wz):=y3
theorem NA (F:Fun K "works" "House.works" Wz f fd)[k8 K Ab][w9 K Ab "now"]:FnOk P w K mg base v5 1 f fd ["self"] (xK Ab (qj 0)):=by refine F.ok (k:=0) Tw (λvs H Q E h=>MN h) (λcdv A outer s H vs Q E hr h=>⟨_,(j6 (w6 (iW (K:=K) rfl (qp (K:=K) rfl (pv 0) rfl) z8))),?_⟩);obtain ⟨Hs,k,xs,ws,y,rfl,p,r,hm,q⟩:=h;obtain ⟨rfl,ys,en,ey⟩:=Xv hm;obtain ⟨v,vs,p1,p2,rn,rp⟩:=p.ex;rw [en] at rn;obtain ⟨a,us,rfl,ha,ru⟩:=rep_tup.mp rn;obtain ⟨u,hu,ry⟩:=ru.get ey;refine ⟨_,rfl,k.x,Ab,k.dx,_,_,rfl,p1,(inferInstance:k8 K Ab).c,(inferInstance:w9 K Ab "now").n,rfl,?_⟩;exact .inr (.inl ⟨a,us,0,u,rfl,rfl,SqT.of (p.sm _ _ ha),xz (j:=0) hu,q u Hs H (.refl p.sm) ry⟩)
abbrev WB:Stmt:=qB (top 50) 9
theorem Tx:v4 ["self"] ["self"] (j3 WB):=y3
theorem NB (F:Fun K "worst" "House.worst" WB f fd)[k8 K Ab][w9 K Ab "now"]:FnOk P w K mg base v5 1 f fd ["self"] (xK Ab (qj 2)):=by refine F.ok (k:=0) Tx (λvs H Q E h=>MO h) (λcdv A outer s H vs Q E hr h=>⟨_,(j6 (w6 (iW (K:=K) rfl (qp (K:=K) rfl (pv 0) rfl) z8))),?_⟩);obtain ⟨Hs,k,xs,ws,y,rfl,p,r,hm,q⟩:=h;obtain ⟨rfl,ys,en,ey⟩:=Xv hm;obtain ⟨v,vs,p1,p2,rn,rp⟩:=p.ex;rw [en] at rn;obtain ⟨a,us,rfl,ha,ru⟩:=rep_tup.mp rn;obtain ⟨u,hu,ry⟩:=ru.get ey;refine ⟨_,rfl,k.x,Ab,k.dx,_,_,rfl,p1,(inferInstance:k8 K Ab).c,(inferInstance:w9 K Ab "now").n,rfl,?_⟩;exact .inr (.inl ⟨a,us,2,u,rfl,rfl,SqT.of (p.sm _ _ ha),xz (j:=2) hu,q u Hs H (.refl p.sm) ry⟩)
abbrev Ws:Stmt:=qB (top 50) 8
theorem Tr:v4 ["self"] ["self"] (j3 Ws):=y3
theorem Nt (F:Fun K "done" "House.done" Ws f fd)(Au:mg "list"=none)[k8 K Ab][w9 K Ab "now"]:FnOk P w K mg base v5 1 f fd ["self"] (jG Ab zd):=by refine F.ok (k:=0) Tr (λvs H Q E h=>MJ h) (λcdv A outer s H vs Q E hr h=>⟨_,(j6 (w6 (ja (Qm (K:=K) rfl) rfl Au jo (aW (iW (K:=K) rfl (qp (K:=K) rfl (pv 0) rfl) z8))))),?_⟩);obtain ⟨Hs,k,xs,ws,y,rfl,p,r,hm,q⟩:=h;obtain ⟨l,rfl,e⟩:=GK hm;obtain ⟨rfl,ys,en,ey⟩:=Xv e;obtain ⟨v,vs,p1,p2,rn,rp⟩:=p.ex;rw [en] at rn;obtain ⟨a,us,rfl,ha,ru⟩:=rep_tup.mp rn;obtain ⟨u,hu,ry⟩:=ru.get ey;obtain ⟨b,ls,rfl,hb,rl⟩:=rep_lst.mp ry;refine ⟨_,rfl,k.x,Ab,k.dx,_,_,rfl,p1,(inferInstance:k8 K Ab).c,(inferInstance:w9 K Ab "now").n,rfl,?_⟩;refine .inr (.inl ⟨a,us,1,_,rfl,rfl,SqT.of (p.sm _ _ ha),xz (j:=1) hu,b,ls,rfl,.inl (SqL.of (p.sm _ _ hb)),λc hc=>?_⟩);exact q c Hs _ (.newO p.sm hc) hc (p.sm.free hc) ⟨ls,j9,rl⟩
def zJ:PV->List PV->List PV->PV->PV->List PV->Prop:=λn ps xs y n' ps'=>∃ a b c,xs=[a,b,c]/\y = .at .non/\n' = .tup [a,b,c]/\ps'=ps++[n]/\ps.length<=1000
def zK:PV->List PV->List PV->Addr->XV->Prop:=λ_ _ _ _ _=>False
theorem ML (h:p9 C zJ zK vs H Q E):vs.length=(["self","works","done","worst"]:List Str).length:=by
 obtain ⟨Hs,k,xs,ws,rfl,p,r,⟨y,n,qs,⟨a,b,c,rfl,_⟩,_⟩|⟨c,y,h,_⟩⟩:=h
 ·rw [yH,r.length];rfl
 ·exact h.elim
theorem Bs {v:V}{l:Addr}:xm "now" u [(("now":Str),v),(("past":Str),V.ref l)]=[(("now":Str),u),(("past":Str),V.ref l)]:=if_pos rfl
abbrev Wv:Stmt:=qB (top 50) 1
theorem Tv:v4 ["self","works","done","worst"] ["self","works","done","worst"] (j3 Wv):=y3
theorem Nx (F:Fun K "turn_to" "House.turn_to" Wv f fd)[k8 K Ab][w9 K Ab "now"][w9 K Ab "past"]:FnOk P w K mg base (y9 P w) 1 f fd ["self","works","done","worst"] (p9 Ab zJ zK):=by
 refine F.ok2 (k:=0) Tv (λvs H Q E h=>ML h) (λcdv A outer s H vs Q E hr h=>⟨_,(j0 (qU (wz (K:=K) rfl PySem.F.plainAttrs_list PySem.F.slot_list_append PySem.F.type_list_append wv (qp (K:=K) rfl (pv 0) rfl) (aW (qp (K:=K) rfl (pv 0) rfl))))
  (j6 (zj (K:=K) rfl (pv 0) (@qJ _ _ _ _ _ (aC (pv 1) (aC (pv 2) (aW (pv 3)))))))),?_⟩)
 obtain ⟨Hs,k,xs,ws,rfl,p,r,⟨y,n,qs,⟨a,b,c,rfl,rfl,rfl,rfl,hl⟩,q⟩|⟨c,y,h,_⟩⟩:=h
 rotate_left
 ·exact h.elim
 have hlim:lim=1000000:=rfl;obtain ⟨v,vs,p1,p2,rn,rp⟩:=p.ex;obtain ⟨u1,w1,rfl,r1,rr⟩:=reps_cons.mp r;obtain ⟨u2,w2,rfl,r2,rr⟩:=reps_cons.mp rr;obtain ⟨u3,w3,rfl,r3,rr⟩:=reps_cons.mp rr;cases reps_nil.mp rr;refine ⟨_,rfl,k.x,Ab,k.dx,_,_,rfl,p1,(inferInstance:k8 K Ab).c,(inferInstance:w9 K Ab "past").n,rfl,.inl ⟨rfl,vs,SqL.of p2⟩,_,rfl,k.x,Ab,k.dx,_,_,rfl,p1,(inferInstance:k8 K Ab).c,(inferInstance:w9 K Ab "now").n,rfl,k.l,vs,v,rfl,rfl,p2,vL (by rw [rp.length];omega),?_⟩;show jE K (b9 0) (tTup (o5 (b9 1) (o5 (b9 2) (o5 (b9 3) qF)))) "now" _ _ _;refine ⟨_,rfl,_,rfl,_,rfl,(by show 3<=sizeLine;decide),λt ht=>⟨_,rfl,k.x,Ab,k.dx,[(("now":Str),v),(("past":Str),V.ref k.l)],rfl,?_,(inferInstance:k8 K Ab).c,(inferInstance:w9 K Ab "now").n,(by show 2<1000;decide),?_⟩⟩
 ·have hne:k.x≠t:=λz=>by rw [<- z,z6 p.ne] at ht;exact p.bx ht
  rw [z6 hne,z6 p.ne];exact p1
 ·have htl:t≠k.l:=λz=>by rw [z,j9] at ht;cases ht
  have htx:t≠k.x:=λz=>by rw [z,z6 p.ne] at ht;exact p.bx ht
  have hHt:H t=none:=by rw [z6 htl] at ht;exact ht
  have hst:Hs t=none:=p.sm.free hHt;have g:Same Hs (z7 Hs t (.tup [u1,u2,u3])):=λb o e=>by rw [z6 (y0 e hst)];exact e
  rw [Bs];have lx:k.l≠k.x:=Ne.symm p.ne;refine q .non (z7 Hs t (.tup [u1,u2,u3])) _ ⟨g,λb o e h1 h2=>?_,λb o e=>?_,λb hb z=>?_⟩ ⟨λb o e=>?_,p.ne,?_,?_,.ref t,vs++[v],j9,?_,rep_tup.mpr ⟨t,[u1,u2,u3],rfl,j9,.cons (r1.mono g) (.cons (r2.mono g) (.one (r3.mono g)))⟩,(rp.mono g).append (.one (rn.mono g))⟩ (rep_at.mpr rfl)
  ·rw [z6 h1,z6 (y0 e hHt),z6 h2];exact e
  ·have hbx:b≠k.x:=λz=>by rw [z,z6 (Ne.symm htx),p.hx] at e;cases e
   have hbl:b≠k.l:=λz=>by rw [z,z6 (Ne.symm htl),p.hl] at e;cases e
   rw [z6 hbx];by_cases z:b=t
   ·rw [z,j9] at e ⊢;exact e
   ·rw [z6 z] at e ⊢;rw [z6 hbl];exact p.sm _ _ e
  ·have:b≠t:=λw=>hb (by rw [w];exact hHt);rw [z6 this];exact z
  ·have hbx:b≠k.x:=λz=>by rw [z,z6 (Ne.symm htx),p.hx] at e;cases e
   have hbl:b≠k.l:=λz=>by rw [z,z6 (Ne.symm htl),p.hl] at e;cases e
   rw [z6 hbx];by_cases z:b=t
   ·rw [z,j9] at e ⊢;exact e
   ·rw [z6 z] at e ⊢;rw [z6 hbl];exact p.sm _ _ e
  ·show z7 Hs t _ k.x=none;rw [z6 (Ne.symm htx)];exact p.hx
  ·show z7 Hs t _ k.l=none;rw [z6 (Ne.symm htl)];exact p.hl
  ·show z7 (z7 (z7 H k.l _) t _) k.x _ k.l=_;rw [z6 lx,z6 (Ne.symm htl),j9]
def wY:PV->List PV->List PV->PV->PV->List PV->Prop:=λ_ ps xs y n' ps'=>xs=[]/\y = .at .non/\ps=ps'++[n']
def Qf (CN:Addr):PV->List PV->List PV->Addr->XV->Prop:=λ_ ps xs c y=>xs=[]/\ps=[]/\c=CN/\y=none
theorem MI (h:p9 C wY (Qf CN) vs H Q E):vs.length=(["self"]:List Str).length:=by
 obtain ⟨Hs,k,xs,ws,rfl,p,r,⟨y,n,qs,⟨rfl,_⟩,_⟩|⟨c,y,⟨rfl,_⟩,_⟩⟩:=h
 ·rw [yH,r.length];rfl
 ·rw [yH,r.length];rfl
abbrev Wr:Stmt:=qB (top 50) 6
theorem Tq:v4 ["self"] ["self"] (j3 Wr):=y3
theorem Nr (F:Fun K "back" "House.back" Wr f fd)(El:mg "NothingDone"=some (.ref Ai))[k8 K Ab][w9 K Ab "now"][w9 K Ab "past"](Em:PySem.W.excIn K Ai veMro "ValueError.__new__"=true):FnOk P w K mg base (y9 P w) 1 f fd ["self"] (p9 Ab wY (Qf Ai)):=by
 refine F.ok2 (k:=0) Tq (λvs H Q E h=>MI h) (λcdv A outer s H vs Q E hr h=>⟨_,(j0 (c9 (xH (xI (K:=K) rfl (qp (K:=K) rfl (pv 0) rfl) (λ_=>rfl))) (j6 (jz rfl rfl rfl El Em jg)) m4)
  (j6 (zj (K:=K) rfl (pv 0) (Wa (K:=K) rfl PySem.F.plainAttrs_list PySem.F.slot_list_pop PySem.F.type_list_pop KO (qp (K:=K) rfl (pv 0) rfl))))),?_⟩)
 obtain ⟨Hs,k,xs,ws,rfl,p,r,h⟩:=h;obtain ⟨v,vs,p1,p2,rn,rp⟩:=p.ex;rcases h with ⟨y,n,qs,⟨rfl,rfl,eq⟩,q⟩|⟨c,y,⟨rfl,eq,rfl,rfl⟩,q⟩
 ·rw [eq] at rp;obtain ⟨us,u,rfl,ru,ry⟩:∃ us u,vs=us++[u]/\Reps Hs qs us/\Rep Hs n u:=by have:=rp.take qs.length;have h2:=rp.drop qs.length;rw [List.take_left] at this;rw [List.drop_left] at h2;obtain ⟨u,w,e,ru,rw'⟩:=reps_cons.mp h2;cases reps_nil.mp rw';exact ⟨vs.take qs.length,u,by rw [<- e,List.take_append_drop],this,ru⟩
  refine ⟨_,rfl,k.x,Ab,k.dx,_,_,rfl,p1,(inferInstance:k8 K Ab).c,(inferInstance:w9 K Ab "past").n,rfl,true,.inl ⟨_,SqL.of p2,by cases us<;>rfl⟩,qf ?_⟩;refine ⟨_,rfl,k.x,Ab,k.dx,_,_,rfl,p1,(inferInstance:k8 K Ab).c,(inferInstance:w9 K Ab "past").n,rfl,.inl ⟨rfl,_,SqL.of p2⟩,k.l,_,u,rfl,rfl,p2,by simp,?_⟩;refine ⟨_,rfl,k.x,Ab,k.dx,[(("now":Str),v),(("past":Str),V.ref k.l)],rfl,by rw [z6 p.ne];exact p1,(inferInstance:k8 K Ab).c,(inferInstance:w9 K Ab "now").n,(by show 2<1000;decide),?_⟩;rw [Bs,List.dropLast_concat];have lx:k.l≠k.x:=Ne.symm p.ne;have sm':Same Hs (z7 (z7 H k.l (.lst us)) k.x (.ins Ab k.dx [(("now":Str),u),(("past":Str),V.ref k.l)])):=λb o e=>by
   rw [z6 (λz=>by rw [z,p.hx] at e;cases e),z6 (λz=>by rw [z,p.hl] at e;cases e)];exact p.sm _ _ e
  refine q .non Hs _ ⟨.refl _,λb o e h1 h2=>by rw [z6 h1,z6 h2];exact e,sm',λ_ _ z=>z⟩ ⟨sm',p.ne,p.hx,p.hl,u,us,j9,?_,ry,ru⟩ (rep_at.mpr rfl);show z7 (z7 H k.l _) k.x _ k.l=_;rw [z6 lx,j9]
 ·rw [eq] at rp;cases reps_nil.mp rp;refine ⟨_,rfl,k.x,Ab,k.dx,_,_,rfl,p1,(inferInstance:k8 K Ab).c,(inferInstance:w9 K Ab "past").n,rfl,false,.inl ⟨_,SqL.of p2,rfl⟩,qb ?_⟩;exact q _ _ (.refl p.sm)
section
variable {k:Pk}{ε:ME}
theorem qR {a:HM}{r:HA}{x:PV}(h1:a k ε=some x)(h2:r k ε=some xs):qm a r k ε=some (x::xs):=by unfold qm;rw [h1,yG,h2];rfl
theorem Ka {D:Addr}{a:HM}{ns:List Str}{fs:List PV}(h1:a k ε=some (.ob D ns fs))(hn:nm∉ns)(h2:as k ε=some xs)(h3:m (.ob D ns fs::xs)=some y):wf D nm m a as k ε=some y:=by unfold wf;rw [h1,yG];show (if D=D/\nm∉ns then _ else _)=_;rw [if_pos ⟨rfl,hn⟩,h2,yG,h3]
theorem qY {i:Nat}{m:PV->List PV->List PV->Option PV}(h0:ε[i]?=some (.sh (.at (.ref k.x))))(h1:nm ≠ "now")(h2:nm ≠ "past")(h3:as k ε=some xs)(h4:m k.n k.ps xs=some y):hRd i nm m as k ε=some y:=by unfold hRd;rw [h0];show (if k.x=k.x/\nm ≠ "now"/\nm ≠ "past" then _ else _)=_;rw [if_pos ⟨rfl,h1,h2⟩,h3,yG,h4]
theorem XE {g:PV->PV->Option PV}{a b:HM}{x:PV}(h1:a k ε=some x)(h2:b k ε=some y)(h3:g x y=some z):vK g a b k ε=some z:=by unfold vK;rw [h1,yG,h2,yG,h3]
theorem GZ (h1:as k ε=some xs)(h2:m xs=some y):XG m as k ε=some y:=by unfold XG;rw [h1,yG,h2]
variable {C:Addr}{s:Hst}
theorem cp0 (e:k.n=qA C s):qj 0 k.n k.ps []=some (s.d.ob C):=by rw [e];rfl
theorem cp1 (e:k.n=qA C s):zd k.n k.ps []=some (.lst (s.rows.map xh)):=by rw [e];rfl
theorem cp2 (e:k.n=qA C s):qj 2 k.n k.ps []=some (zP s.w):=by rw [e];rfl
end
abbrev rdW:HM:=hRd 0 "works" (qj 0) qI
abbrev rdD:HM:=hRd 0 "done" zd qI
abbrev rdZ:HM:=hRd 0 "worst" (qj 2) qI
abbrev Uk (C:Addr):i6:=hDo 0 "turn_to" zJ (qm (wf C "put" (XO C) rdW (qm (hE (x0 1)) qI)) (qm rdD (qm rdZ qI)))
def Qb (C:Addr):PV->List PV->List PV->PV->PV->List PV->Prop:=λn ps xs y n' ps'=>∃(s:Hst)(c:Cl),s.d.Ok/\(s.d.with (s.d.cls++[c])).Ok/\n=qA C s/\xs=[c.pv]/\y = .at .non/\n'=qA C ⟨s.d.with (s.d.cls++[c]),s.rows,s.w⟩/\ps'=ps++[n]/\ps.length<=1000
abbrev Cd (CC CR CS CM CT C:Addr):HY:=hyX (VG 0 "turn_to" (Jo C "put" (Xl CC CR CS CM CT C) rdW (qm (hE (x0 1)) qI)))
def Qh (CC CR CS CM CT C:Addr):PV->List PV->List PV->Addr->XV->Prop:=λn _ xs c y=>∃(s:Hst)(t:PV),n=qA C s/\xs=[t]/\Xl CC CR CS CM CT C [s.d.ob C,t] c y
theorem Mr :∀ (k:Pk) (xs:List PV) (y n:PV) (qs:List PV),Qb C k.n k.ps xs y n qs->xs.length+1=(["self","cloth"]:List Str).length/\Uk C k (.sh (.at (.ref k.x))::xs.map .sh++List.replicate ((["self","cloth"]:List Str).length-(xs.length+1)) .no) (λk' _=>k'=k.to n qs/\y = .at .non) λy' k' _=>k'=k.to n qs/\y'=y:=by rintro k xs y n qs ⟨s,c,ok,okw,en,rfl,rfl,rfl,rfl,hl⟩;exact ⟨rfl,rfl,by decide,by decide,_,_,_,_,qR (Ka (qY rfl (by decide) (by decide) rfl (cp0 en)) (by decide) (qR rfl rfl) (v_put ok okw)) (qR (qY rfl (by decide) (by decide) rfl (cp1 en)) (qR (qY rfl (by decide) (by decide) rfl (cp2 en)) rfl)),⟨_,_,_,rfl,rfl,rfl,rfl,hl⟩,rfl,rfl⟩
theorem Mw {CR:Addr}:∀ (k:Pk) (xs:List PV) (c:Addr) (y:XV),Qh CC CR CS CM CT C k.n k.ps xs c y->xs.length+1=(["self","cloth"]:List Str).length/\Cd CC CR CS CM CT C k (.sh (.at (.ref k.x))::xs.map .sh++List.replicate ((["self","cloth"]:List Str).length-(xs.length+1)) .no) c y:=by rintro k xs c y ⟨s,t,en,rfl,h⟩;exact ⟨rfl,rfl,by decide,by decide,_,_,_,qY rfl (by decide) (by decide) rfl (cp0 en),by decide,qR rfl rfl,h⟩
abbrev Wu:Stmt:=qB (top 50) 2
theorem Tu:v4 ["self","cloth"] ["self","cloth"] (j3 Wu):=y3
theorem Nw (F:Fun K "put" "House.put" Wu f fd)(Ao:Mt P w K mg base 1 Ab "done" ["self"] (jG Ab zd))(Aq:My P w K mg base 1 Ab "turn_to" ["self","works","done","worst"] (p9 Ab zJ zK))(Al:Mt P w K mg base 1 Ab "works" ["self"] (xK Ab (qj 0)))(As:Mt P w K mg base 1 Ab "worst" ["self"] (xK Ab (qj 2)))(E3:My P w K mg base 7 Aa "put" ["self","cloth"] (m7 (XO Aa) (Xl Ae Ac Af Ad Ag Aa))):FnOk P w K mg base (y9 P w) 8 f fd ["self","cloth"] (p9 Ab (Qb Aa) (Qh Ae Ac Af Ad Ag Aa)) :=
 Zb (j:=7) (b:=Uk Aa) (xb:=Cd Ae Ac Af Ad Ag Aa) F Tu (λcdv A outer s H E hr=>⟨_,(j6 (qU (xR Aq hr (by decide) qw (pv 0) (aC (xR E3 hr (by decide) qw (c6 Al hr (by decide) (pv 0)) (aW (pv 1))) (aC (c6 Ao hr (by decide) (pv 0)) (aW (c6 As hr (by decide) (pv 0)))))))),
  inferInstance,inferInstance⟩) Mr Mw
abbrev Uj (C:Addr):i6:=hDo 0 "turn_to" zJ (qm (wf C "without" (XR C) rdW (qm (hE (x0 1)) qI)) (qm rdD (qm rdZ qI)))
def Qa (C:Addr):PV->List PV->List PV->PV->PV->List PV->Prop:=λn ps xs y n' ps'=>∃(s:Hst)(c:Cl),s.d.Ok/\c∈s.d.cls/\n=qA C s/\xs=[.at (.str c.name)]/\y = .at .non/\n'=qA C ⟨s.d.with (Ql s.d.cls [c]),s.rows,s.w⟩/\ps'=ps++[n]/\ps.length<=1000
abbrev Cc (CC CN CR CS CM CT C:Addr):HY:=hyX (VG 0 "turn_to" (Jo C "without" (ZF CC CN CR CS CM CT C) rdW (qm (hE (x0 1)) qI)))
def zD (CN C:Addr):PV->List PV->List PV->Addr->XV->Prop:=λn _ xs c y=>∃(s:Hst)(t:Str),n=qA C s/\xs=[.at (.str t)]/\t∉s.d.names/\c=CN/\y=none
theorem Mq :∀ (k:Pk) (xs:List PV) (y n:PV) (qs:List PV),Qa C k.n k.ps xs y n qs->xs.length+1=(["self","name"]:List Str).length/\Uj C k (.sh (.at (.ref k.x))::xs.map .sh++List.replicate ((["self","name"]:List Str).length-(xs.length+1)) .no) (λk' _=>k'=k.to n qs/\y = .at .non) λy' k' _=>k'=k.to n qs/\y'=y:=by rintro k xs y n qs ⟨s,c,ok,hc,en,rfl,rfl,rfl,rfl,hl⟩;exact ⟨rfl,rfl,by decide,by decide,_,_,_,_,qR (Ka (qY rfl (by decide) (by decide) rfl (cp0 en)) (by decide) (qR rfl rfl) (Im ok hc)) (qR (qY rfl (by decide) (by decide) rfl (cp1 en)) (qR (qY rfl (by decide) (by decide) rfl (cp2 en)) rfl)),⟨_,_,_,rfl,rfl,rfl,rfl,hl⟩,rfl,rfl⟩
theorem Mv {CR:Addr}:∀ (k:Pk) (xs:List PV) (c:Addr) (y:XV),zD CN C k.n k.ps xs c y->xs.length+1=(["self","name"]:List Str).length/\Cc CC CN CR CS CM CT C k (.sh (.at (.ref k.x))::xs.map .sh++List.replicate ((["self","name"]:List Str).length-(xs.length+1)) .no) c y:=by rintro k xs c y ⟨s,t,en,rfl,h,rfl,rfl⟩;exact ⟨rfl,rfl,by decide,by decide,_,_,_,qY rfl (by decide) (by decide) rfl (cp0 en),by decide,qR rfl rfl,Iv h⟩
abbrev Wt:Stmt:=qB (top 50) 3
theorem Ts:v4 ["self","name"] ["self","name"] (j3 Wt):=y3
theorem Nu (F:Fun K "drop" "House.drop" Wt f fd)(Ao:Mt P w K mg base 1 Ab "done" ["self"] (jG Ab zd))(Aq:My P w K mg base 1 Ab "turn_to" ["self","works","done","worst"] (p9 Ab zJ zK))(Al:Mt P w K mg base 1 Ab "works" ["self"] (xK Ab (qj 0)))(As:Mt P w K mg base 1 Ab "worst" ["self"] (xK Ab (qj 2)))(D6:My P w K mg base 7 Aa "without" ["self","name"] (m7 (XR Aa) (ZF Ae Ah Ac Af Ad Ag Aa))):FnOk P w K mg base (y9 P w) 8 f fd ["self","name"] (p9 Ab (Qa Aa) (zD Ah Aa)) :=
 Zb (j:=7) (b:=Uj Aa) (xb:=Cc Ae Ah Ac Af Ad Ag Aa) F Ts (λcdv A outer s H E hr=>⟨_,(j6 (qU (xR Aq hr (by decide) qw (pv 0) (aC (xR D6 hr (by decide) qw (c6 Al hr (by decide) (pv 0)) (aW (pv 1))) (aC (c6 Ao hr (by decide) (pv 0)) (aW (c6 As hr (by decide) (pv 0)))))))),
  inferInstance,inferInstance⟩) Mq Mv
def Hst.worked (s:Hst)(c:Cl):Hst:=⟨s.d.begun [c],s.rows++s.d.go s.d.last s.d.time [c],some (match s.w with
 |none=>s.d.time+s.d.rz s.d.last c.hue+c.len-c.due
 |some m=>if s.d.time+s.d.rz s.d.last c.hue+c.len-c.due > m then s.d.time+s.d.rz s.d.last c.hue+c.len-c.due else m)⟩
theorem Ib (c:Cl)(e:Int):XW [c.pv,.at (.int e)]=some (.at (.int (e-c.due))):=i7 rfl (k9 (v6 rfl (j4 rfl rfl) rfl))
theorem SY (w:Option Int)(e:Int):Jx [zP w,.at (.int e)]=some (.at (.int (match w with
 |none=>e
 |some m=>if e > m then e else m))):=by
 cases w with
 |none=>exact i7 rfl (k9 (XF (u9 (v:=true) (v6 rfl rfl rfl)) rfl))
 |some m=>exact i7 rfl (k9 (we (u9 (v:=false) (v6 rfl rfl rfl)) (j4 rfl rfl)))
abbrev Um (C:Addr):i6:=c8 (XH 2 rdW) (c8 (hL (i9 3 (wP (u6 C "cloth" (xE C) (x0 2) (q0 (x0 1) x8))))) (c8 (hL (i9 4 (wP (z9 v8 (x9 (ve C) (q0 (x0 2) (q0 (m8 (q0 (x0 1) x8)) x8))) (dC (.int 0))))))
 (c8 (XH 5 (XG Jx (qm rdZ (qm (hE (x9 XW (q0 (x0 3) (q0 (z9 v8 (z5 4) (dC (.int 2))) x8)))) qI))))
 (hDo 0 "turn_to" zJ (qm (hE (u6 C "begun" (QJ C) (x0 2) (q0 (m8 (q0 (x0 1) x8)) x8))) (qm (vK qv rdD (hE (m8 (q0 (x0 4) x8)))) (qm (hE (x0 5)) qI)))))))
def gNo:Pk->ME->Option ME:=λ_ _=>none
instance (priority:=2000){t:TS}:ZN C t gNo where h:=λe=>by cases e
abbrev Cf (CN C:Addr):HY:=jt (Qz 2 rdW) zT (jt gNo (hyX (Jo C "cloth" (jj CN C) (hE (x0 2)) (qm (hE (x0 1)) qI))) zT)
def Qd (C:Addr):PV->List PV->List PV->PV->PV->List PV->Prop:=λn ps xs y n' ps'=>∃(s:Hst)(c:Cl),s.d.Ok/\c∈s.d.cls/\s.rows.length<=1000/\n=qA C s/\xs=[.at (.str c.name)]/\y = .at .non/\n'=qA C (s.worked c)/\ps'=ps++[n]/\ps.length<=1000
theorem KM (hc:c∈d.cls):Lst d [c]:=⟨λx hx=>by rw [yM.mp hx];exact hc,by simp⟩
theorem Mu :∀ (k:Pk) (xs:List PV) (y n:PV) (qs:List PV),Qd C k.n k.ps xs y n qs->xs.length+1=(["self","name"]:List Str).length/\Um C k (.sh (.at (.ref k.x))::xs.map .sh++List.replicate ((["self","name","works","cloth","row","worst"]:List Str).length-(xs.length+1)) .no) (λk' _=>k'=k.to n qs/\y = .at .non) λy' k' _=>k'=k.to n qs/\y'=y:=by
 rintro k xs y n qs ⟨s,c,ok,hc,hr,en,rfl,rfl,rfl,rfl,hl⟩;have hlim:lim=1000000:=rfl;have L:=KM hc;refine ⟨rfl,?_⟩;refine ⟨s.d.ob C,qY rfl (by decide) (by decide) rfl (cp0 en),?_⟩;show c8 _ _ k [.sh (.at (.ref k.x)),.sh (.at (.str c.name)),.sh (s.d.ob C),.no,.no,.no] _ _;refine ⟨c.pv,qt rfl (by decide) rfl (Xi ok hc),?_⟩;show c8 _ _ k [.sh (.at (.ref k.x)),.sh (.at (.str c.name)),.sh (s.d.ob C),.sh c.pv,.no,.no] _ _;have ed:∀(s3 s4 s5:MSlot),x9 (ve C) (q0 (x0 2) (q0 (m8 (q0 (x0 1) x8)) x8)) [.sh (.at (.ref k.x)),.sh (.at (.str c.name)),.sh (s.d.ob C),s3,s4,s5]=some (.lst [xh (c,s.d.time+s.d.rz s.d.last c.hue,s.d.time+s.d.rz s.d.last c.hue+c.len)]):=λs3 s4 s5=>by
  refine j4 (xs:=[s.d.ob C,nmP [c]]) (j5 rfl (j5 (xC rfl l1) rfl)) ?_;exact PJ ok L
 refine ⟨xh (c,s.d.time+s.d.rz s.d.last c.hue,s.d.time+s.d.rz s.d.last c.hue+c.len),v6 (y:= .at (.int 0)) (ed _ _ _) rfl (show L2.atI [xh (c,s.d.time+s.d.rz s.d.last c.hue,s.d.time+s.d.rz s.d.last c.hue+c.len)] ((0:Nat):Int)=_ from xz rfl),?_⟩;show c8 _ _ k [.sh (.at (.ref k.x)),.sh (.at (.str c.name)),.sh (s.d.ob C),.sh c.pv,.sh (xh (c,s.d.time+s.d.rz s.d.last c.hue,s.d.time+s.d.rz s.d.last c.hue+c.len)),.no] _ _;have el:∀ s5:MSlot,hE (x9 XW (q0 (x0 3) (q0 (z9 v8 (z5 4) (dC (.int 2))) x8))) k [.sh (.at (.ref k.x)),.sh (.at (.str c.name)),.sh (s.d.ob C),.sh c.pv,.sh (xh (c,s.d.time+s.d.rz s.d.last c.hue,s.d.time+s.d.rz s.d.last c.hue+c.len)),s5]=some (.at (.int (s.d.time+s.d.rz s.d.last c.hue+c.len-c.due))):=λs5=>j4 (j5 rfl (j5 (v6 rfl rfl rfl) rfl)) (Ib _ _);refine ⟨_,GZ (qR (qY rfl (by decide) (by decide) rfl (cp2 en)) (qR (el _) rfl)) (SY _ _),?_⟩;generalize hz:(match s.w with
  |none=>s.d.time+s.d.rz s.d.last c.hue+c.len-c.due
  |some m=>if s.d.time+s.d.rz s.d.last c.hue+c.len-c.due > m then s.d.time+s.d.rz s.d.last c.hue+c.len-c.due else m)=z
 show hDo _ _ _ _ k [.sh (.at (.ref k.x)),.sh (.at (.str c.name)),.sh (s.d.ob C),.sh c.pv,.sh (xh (c,s.d.time+s.d.rz s.d.last c.hue,s.d.time+s.d.rz s.d.last c.hue+c.len)),.sh (.at (.int z))] _ _;have eb:hE (u6 C "begun" (QJ C) (x0 2) (q0 (m8 (q0 (x0 1) x8)) x8)) k [.sh (.at (.ref k.x)),.sh (.at (.str c.name)),.sh (s.d.ob C),.sh c.pv,.sh (xh (c,s.d.time+s.d.rz s.d.last c.hue,s.d.time+s.d.rz s.d.last c.hue+c.len)),.sh (.at (.int z))]=some ((s.d.begun [c]).ob C):=by refine qt (xs:=[nmP [c]]) rfl (by decide) (j5 (xC rfl l1) rfl) ?_;exact SU ok L
 have ea:hE (m8 (q0 (x0 4) x8)) k [.sh (.at (.ref k.x)),.sh (.at (.str c.name)),.sh (s.d.ob C),.sh c.pv,.sh (xh (c,s.d.time+s.d.rz s.d.last c.hue,s.d.time+s.d.rz s.d.last c.hue+c.len)),.sh (.at (.int z))]=some (.lst [xh (c,s.d.time+s.d.rz s.d.last c.hue,s.d.time+s.d.rz s.d.last c.hue+c.len)]):=xC rfl l1;refine ⟨rfl,by decide,by decide,_,_,_,_,qR eb (qR (XE (qY rfl (by decide) (by decide) rfl (cp1 en)) ea (JF (by rw [yZ];show s.rows.length+1<=lim;omega))) (qR rfl rfl)),⟨_,_,_,rfl,rfl,rfl,rfl,hl⟩,?_,rfl⟩;unfold Hst.worked qA;rw [hz,yE];rfl
theorem Mz :∀ (k:Pk) (xs:List PV) (c:Addr) (y:XV),zD CN C k.n k.ps xs c y->xs.length+1=(["self","name"]:List Str).length/\Cf CN C k (.sh (.at (.ref k.x))::xs.map .sh++List.replicate ((["self","name","works","cloth","row","worst"]:List Str).length-(xs.length+1)) .no) c y:=by rintro k xs c y ⟨s,t,en,rfl,h,rfl,rfl⟩;refine ⟨rfl,.inr ⟨[.sh (.at (.ref k.x)),.sh (.at (.str t)),.sh (s.d.ob C),.no,.no,.no],?_,.inl ⟨_,_,_,rfl,by decide,qR rfl rfl,Cs h⟩⟩⟩;have e:rdW k [.sh (.at (.ref k.x)),.sh (.at (.str t)),.no,.no,.no,.no]=some (s.d.ob C):=qY rfl (by decide) (by decide) rfl (cp0 en);show (rdW k [.sh (.at (.ref k.x)),.sh (.at (.str t)),.no,.no,.no,.no]).map _=_;rw [e];rfl
abbrev Wx:Stmt:=qB (top 50) 4
theorem sc_House_work:v4 ["self","name","works","cloth","row","worst"] ["self","name"] (j3 Wx):=y3
theorem Nz (F:Fun K "work" "House.work" Wx f fd)(D1:Fn P w K mg base 4 "done_rows" ["works","names"] (jd [false,true] (ve Aa)))(Ed:Fn P w K mg base 1 "greater_late" ["late","other"] (w4 Jx))(J0:Fn P w K mg base 2 "late_by" ["cloth","end"] (w4 XW))(Ao:Mt P w K mg base 1 Ab "done" ["self"] (jG Ab zd))(Aq:My P w K mg base 1 Ab "turn_to" ["self","works","done","worst"] (p9 Ab zJ zK))(Al:Mt P w K mg base 1 Ab "works" ["self"] (xK Ab (qj 0)))(As:Mt P w K mg base 1 Ab "worst" ["self"] (xK Ab (qj 2)))(Ei:Mt P w K mg base 7 Aa "begun" ["self","names"] (za [false,true] (QJ Aa)))(Am:My P w K mg base 1 Aa "cloth" ["self","name"] (m7 (xE Aa) (jj Ah Aa))):FnOk P w K mg base (y9 P w) 8 f fd ["self","name"] (p9 Ab (Qd Aa) (zD Ah Aa)) :=
 Zb (j:=7) (b:=Um Aa) (xb:=Cf Ah Aa) F sc_House_work (λcdv A outer s H E hr=>⟨_,(j0 (sW 2 sc_House_work.nd (c6 Al hr (by decide) (pv 0)))
  (j0 (sW 3 sc_House_work.nd (xR Am hr (by decide) qw (pv 2) (aW (pv 1))))
  (j0 (sW 4 sc_House_work.nd (iW (K:=K) rfl (fW D1 hr (aC (pv 2) (aW (@qg _ _ _ _ (aW (pv 1)))))) z8))
  (j0 (sW 5 sc_House_work.nd (fW Ed hr (aC (c6 As hr (by decide) (pv 0)) (aW (fW J0 hr (aC (pv 3) (aW (iW (K:=K) rfl (pv 4) z8))))))))
  (j6 (qU (xR Aq hr (by decide) qw (pv 0) (aC (Zf Ei hr (by decide) (pv 2) (aW (@qg _ _ _ _ (aW (pv 1))))) (aC (v7 (xt (K:=K) rfl) (c6 Ao hr (by decide) (pv 0)) (@qg _ _ _ _ (aW (pv 4)))) (aW (pv 5))))))))))),
  inferInstance,inferInstance⟩) Mu Mz
def Ki:i6:=λ_ _ _ _=>False
instance (priority:=2000){t:TS}:xx C t Ki where h:=λh=>h.elim
theorem KP {d:Dr}:∀ l:List Str,(∀ x∈l,x∈d.names)->∃ cs:List Cl,cs.map Cl.name=l/\∀ c∈cs,c∈d.cls
 |[],_=>⟨[],rfl,λ_ z=>nomatch z⟩
 |x::l,h=>by
  obtain ⟨c,hc,rfl⟩:=yw.mp (h x yU);obtain ⟨cs,e,hcs⟩:=KP l λy hy=>h y (yS _ hy);refine ⟨c::cs,by rw [yI,e],λy hy=>?_⟩;rcases yD.mp hy with rfl|hy
  ·exact hc
  ·exact hcs y hy
theorem YA (d:Dr):∃ cs:List Cl,cs.map Cl.name=xJ d.names/\∀ c∈cs,c∈d.cls:=KP _ λx hx=>(Zs d.names).mem_iff.mp hx
theorem JD (ok:d.Ok){t:Int}(e:cs.map Cl.name=xJ d.names)(h:∀ c∈cs,c∈d.cls)(ht:d.time<=t):(⟨d.h,d.rss,cs,d.last,t⟩:Dr).Ok:=by
 have hp:=Zs d.names;have hl:cs.length=d.cls.length:=by have:=hp.length_eq;rw [<- e,yZ] at this;unfold Dr.names at this;rw [yZ] at this;exact this
 refine ⟨ok.h1,ok.h4,ok.rin,by show cs.length<=10;rw [hl];exact ok.ten,λc hc=>ok.cl c (h c hc),?_,ok.l1,ok.l2,Int.le_trans ok.t1 ht,trivial⟩;show (cs.map Cl.name).Nodup;rw [e];exact hp.nodup_iff.mpr ok.nd
theorem YK (ok:d.Ok):jx C [d.ob C]=some (y7 d.rss):=by have hlim:lim=1000000:=rfl;have gl:=ok.rin.len;have g4:=ok.h4;show mZ _ _=some (.lst (d.rss.map m5));exact KN (i7 rfl (k9 (xp m5 m5 d.rss (by unfold t9;rw [qX rfl rfl];rfl) rfl (by omega) λr _=>⟨_,rfl,rfl⟩)))
abbrev Pr:MB:=k6 (p7 (x9 qu (q0 (x0 1) (q0 (z9 v8 (z5 3) (dC (.int 1))) x8))))
abbrev Ul (C:Addr):i6:=c8 (XH 2 rdW) (c8 (hL (i9 3 (wP (u6 C "start" (xP C) (x0 2) x8)))) (c8 (hIf (hB Pr) Ki (hL xu))
 (c8 (hL (i9 4 (wP (t6 [none,some 2] [0] (t9 (u6 C "names" (zH C) (x0 2) x8)) (w5 0) c7 (u6 C "cloth" (xE C) (x0 1) (q0 (x0 0) x8))))))
 (hDo 0 "turn_to" zJ (qm (hE (x9 (xO C) (q0 (u6 C "rinses" (jx C) (x0 2) x8) (q0 (x0 4) (q0 (z9 v8 (z5 3) (dC (.int 0))) (q0 (x0 1) x8)))))) (qm rdD (qm rdZ qI)))))))
abbrev Ce (CNT C:Addr):HY:=jt (Qz 2 rdW) zT (jt (Qz 3 (hE (u6 C "start" (xP C) (x0 2) x8))) zT (jt gNo (QC (hB Pr) (Kn CNT) zT) zT))
def Qc (C:Addr):PV->List PV->List PV->PV->PV->List PV->Prop:=λn ps xs y n' ps'=>∃(s:Hst)(t:Int)(cs:List Cl),s.d.Ok/\s.d.time<=t/\cs.map Cl.name=xJ s.d.names/\(∀ c∈cs,c∈s.d.cls)/\n=qA C s/\xs=[.at (.int t)]/\y = .at .non/\n'=qA C ⟨⟨s.d.h,s.d.rss,cs,s.d.last,t⟩,s.rows,s.w⟩/\ps'=ps++[n]/\ps.length<=1000
def Qi (CNT C:Addr):PV->List PV->List PV->Addr->XV->Prop:=λn _ xs c y=>∃(s:Hst)(t:PV),n=qA C s/\xs=[t]/\qu [t,.at (.int s.d.time)]=some (.at (.bl false))/\c=CNT/\y=none
theorem Ms :∀ (k:Pk) (xs:List PV) (y n:PV) (qs:List PV),Qc C k.n k.ps xs y n qs->xs.length+1=(["self","time"]:List Str).length/\Ul C k (.sh (.at (.ref k.x))::xs.map .sh++List.replicate ((["self","time","works","start","cloths"]:List Str).length-(xs.length+1)) .no) (λk' _=>k'=k.to n qs/\y = .at .non) λy' k' _=>k'=k.to n qs/\y'=y:=by
 rintro k xs y n qs ⟨s,t,cs,ok,ht,ec,hcs,en,rfl,rfl,rfl,rfl,hl⟩;have hlim:lim=1000000:=rfl;have okw:=JD ok ec hcs ht;have l10:=okw.ten;refine ⟨rfl,?_⟩;refine ⟨s.d.ob C,qY rfl (by decide) (by decide) rfl (cp0 en),?_⟩;show c8 _ _ k [.sh (.at (.ref k.x)),.sh (.at (.int t)),.sh (s.d.ob C),.no,.no] _ _;refine ⟨_,qt rfl (by decide) rfl Xk,?_⟩;show c8 _ _ k [.sh (.at (.ref k.x)),.sh (.at (.int t)),.sh (s.d.ob C),.sh (.tup [.at (.int s.d.last),.at (.int s.d.time)]),.no] _ _;refine ⟨false,o8 (o9 (j4 (j5 rfl (j5 (v6 rfl rfl rfl) rfl)) (vU ht))),qf ?_⟩;refine ⟨.lst (cs.map Cl.pv),xp (λc:Cl=>PV.at (.str c.name)) Cl.pv cs (Jh ((qt rfl (by decide) rfl (JZ ok)).trans ?_)) rfl (by show cs.length<=lim;have:cs.length<=10:=l10;omega) λc hc=>⟨_,rfl,qt rfl (by decide) rfl (Xi ok (hcs c hc))⟩,?_⟩
 ·rw [<- ec];unfold k7;rw [yq];rfl
 show hDo _ _ _ _ k [.sh (.at (.ref k.x)),.sh (.at (.int t)),.sh (s.d.ob C),.sh (.tup [.at (.int s.d.last),.at (.int s.d.time)]),.sh (.lst (cs.map Cl.pv))] _ _;have ew:hE (x9 (xO C) (q0 (u6 C "rinses" (jx C) (x0 2) x8) (q0 (x0 4) (q0 (z9 v8 (z5 3) (dC (.int 0))) (q0 (x0 1) x8))))) k [.sh (.at (.ref k.x)),.sh (.at (.int t)),.sh (s.d.ob C),.sh (.tup [.at (.int s.d.last),.at (.int s.d.time)]),.sh (.lst (cs.map Cl.pv))]=some ((⟨s.d.h,s.d.rss,cs,s.d.last,t⟩:Dr).ob C):=by refine j4 (xs:=[y7 s.d.rss,.lst (cs.map Cl.pv),.at (.int s.d.last),.at (.int t)]) (j5 (qt rfl (by decide) rfl (YK ok)) (j5 rfl (j5 (v6 rfl rfl rfl) rfl))) ?_;exact JY okw
 exact ⟨rfl,by decide,by decide,_,_,_,_,qR ew (qR (qY rfl (by decide) (by decide) rfl (cp1 en)) (qR (qY rfl (by decide) (by decide) rfl (cp2 en)) rfl)),⟨_,_,_,rfl,rfl,rfl,rfl,hl⟩,rfl,rfl⟩
theorem Mx :∀ (k:Pk) (xs:List PV) (c:Addr) (y:XV),Qi CNT C k.n k.ps xs c y->xs.length+1=(["self","time"]:List Str).length/\Ce CNT C k (.sh (.at (.ref k.x))::xs.map .sh++List.replicate ((["self","time","works","start","cloths"]:List Str).length-(xs.length+1)) .no) c y:=by
 rintro k xs c y ⟨s,t,en,rfl,h,rfl,rfl⟩;have e:rdW k [.sh (.at (.ref k.x)),.sh t,.no,.no,.no]=some (s.d.ob C):=qY rfl (by decide) (by decide) rfl (cp0 en);refine ⟨rfl,.inr ⟨[.sh (.at (.ref k.x)),.sh t,.sh (s.d.ob C),.no,.no],?_,.inr ⟨[.sh (.at (.ref k.x)),.sh t,.sh (s.d.ob C),.sh (.tup [.at (.int s.d.last),.at (.int s.d.time)]),.no],?_,.inl ⟨true,ZY (o9 (j4 (j5 rfl (j5 (v6 rfl rfl rfl) rfl)) h)),qb ⟨rfl,rfl⟩⟩⟩⟩⟩
 ·show (rdW k [.sh (.at (.ref k.x)),.sh t,.no,.no,.no]).map _=_;rw [e];rfl
 ·have e2:hE (u6 C "start" (xP C) (x0 2) x8) k [.sh (.at (.ref k.x)),.sh t,.sh (s.d.ob C),.no,.no]=some (.tup [.at (.int s.d.last),.at (.int s.d.time)]):=qt rfl (by decide) rfl Xk;show (hE (u6 C "start" (xP C) (x0 2) x8) k [.sh (.at (.ref k.x)),.sh t,.sh (s.d.ob C),.no,.no]).map _=_;rw [e2];rfl
abbrev Ww:Stmt:=qB (top 50) 5
theorem sc_House_wait:v4 ["self","time","works","start","cloths"] ["self","time"] (j3 Ww):=y3
theorem Ny (F:Fun K "wait" "House.wait" Ww f fd)(A6:Fn P w K mg base 2 "is_from" ["thing","least"] (w4 qu))(N3:mg "NoTime"=some (.ref Ak))(B4:mg "Works"=some (.ref Aa))(Ao:Mt P w K mg base 1 Ab "done" ["self"] (jG Ab zd))(Aq:My P w K mg base 1 Ab "turn_to" ["self","works","done","worst"] (p9 Ab zJ zK))(Al:Mt P w K mg base 1 Ab "works" ["self"] (xK Ab (qj 0)))(As:Mt P w K mg base 1 Ab "worst" ["self"] (xK Ab (qj 2)))(Am:My P w K mg base 1 Aa "cloth" ["self","name"] (m7 (xE Aa) (jj Ah Aa)))(Ar:Mt P w K mg base 1 Aa "names" ["self"] (spO (zH Aa)))(Av:Mt P w K mg base 1 Aa "rinses" ["self"] (spZ (jx Aa)))(An:Mt P w K mg base 1 Aa "start" ["self"] (w4 (xP Aa)))(A8:jM P w K mg base 5 Aa ["self","rinses","cloths","last","time"] (je (zz Aa (xO Aa) (jk Ae Ac Af Ad Ag Aa)) (vp Aa)))(N5:PySem.W.excIn K Ak veMro "ValueError.__new__"=true):FnOk P w K mg base (y9 P w) 7 f fd ["self","time"] (p9 Ab (Qc Aa) (Qi Ak Aa)) :=
 Zb (j:=6) (b:=Ul Aa) (xb:=Ce Ak Aa) F sc_House_wait (λcdv A outer s H E hr=>⟨_,(j0 (sW 2 sc_House_wait.nd (c6 Al hr (by decide) (pv 0)))
  (j0 (sW 3 sc_House_wait.nd (c6 An hr (by decide) (pv 2)))
  (j0 (c9 (xH (xI (K:=K) rfl (fW A6 hr (aC (pv 1) (aW (iW (K:=K) rfl (pv 3) z8)))) (λ_=>rfl))) (j6 (jz rfl rfl rfl N3 N5 jg)) m4)
  (j0 (Xb (i:=4) (N':=["name","works"]) (cap:=[none,some 2]) (qz rfl rfl rfl) rfl sc_House_wait.nd rfl rfl (@xc _ K _ _ _ rfl (c6 Ar hr (by decide) (pv 2))) (λ_ _ _ _ _ _=>(r9 (i:=0) (by show (["name","works"]:List Str).Nodup;decide +kernel) rfl (Or.inl rfl))) (λ_ _ _ _ _ _=>qK) (λ_ _ _ _ _ _=>(xR Am hr (by decide) QV (pv 1) (aW (pv 0)))))
  (j6 (qU (xR Aq hr (by decide) qw (pv 0) (aC (QY A8 hr (by decide) qw rfl B4 (aC (c6 Av hr (by decide) (pv 2)) (aC (pv 4) (aC (iW (K:=K) rfl (pv 3) z8) (aW (pv 1)))))) (aC (c6 Ao hr (by decide) (pv 0)) (aW (c6 As hr (by decide) (pv 0)))))))))))),
  inferInstance,inferInstance⟩) Ms Mx
def zO (t:PV)(b:Bool):PV:= .tup [.at (.str "put"),t,.at (.bl b)]
def zN (w:Str)(t:PV):PV:= .tup [.at (.str w),t]
def ZU:PV:= .tup [.at (.str "back")]
abbrev isW (w:Str):HB:=hB (dT (z9 pEq (z9 v8 (z5 1) (dC (.int 0))) (dC (.str w))))
abbrev jR:HA:=qm (hE (z9 v8 (z5 1) (dC (.int 1)))) qI
abbrev b_do (C:Addr):i6:=c8 (hIf (isW "put") (QA 0 "put" (Qb C) jR) (hL xu)) (c8 (hIf (isW "drop") (QA 0 "drop" (Qa C) jR) (hL xu)) (c8 (hIf (isW "work") (QA 0 "work" (Qd C) jR) (hL xu)) (c8 (hIf (isW "wait") (QA 0 "wait" (Qc C) jR) (hL xu)) (QA 0 "back" wY qI))))
abbrev Co (CC CN CR CS CNT CND CM CT C:Addr):HY:=jt (gIf (isW "put")) (QC (isW "put") (hyX (hyH 0 "put" (Qh CC CR CS CM CT C) jR)) zT) (jt (gIf (isW "drop")) (QC (isW "drop") (hyX (hyH 0 "drop" (zD CN C) jR)) zT) (jt (gIf (isW "work")) (QC (isW "work") (hyX (hyH 0 "work" (zD CN C) jR)) zT) (jt (gIf (isW "wait")) (QC (isW "wait") (hyX (hyH 0 "wait" (Qi CNT C) jR)) zT) (hyX (hyH 0 "back" (Qf CND) qI)))))
def wZ (C:Addr):PV->List PV->List PV->PV->PV->List PV->Prop:=λn ps xs y n' ps'=>(∃ t b,xs=[zO t b]/\Qb C n ps [t] y n' ps')∨(∃ t,xs=[zN "drop" t]/\Qa C n ps [t] y n' ps')∨(∃ t,xs=[zN "work" t]/\Qd C n ps [t] y n' ps')∨(∃ t,xs=[zN "wait" t]/\Qc C n ps [t] y n' ps')∨(xs=[ZU]/\wY n ps [] y n' ps')
def Qg (CC CN CR CS CNT CND CM CT C:Addr):PV->List PV->List PV->Addr->XV->Prop:=λn ps xs c y=>(∃ t b,xs=[zO t b]/\Qh CC CR CS CM CT C n ps [t] c y)∨(∃ t,xs=[zN "drop" t]/\zD CN C n ps [t] c y)∨(∃ t,xs=[zN "work" t]/\zD CN C n ps [t] c y)∨(∃ t,xs=[zN "wait" t]/\Qi CNT C n ps [t] c y)∨(xs=[ZU]/\Qf CND n ps [] c y)
section
variable {k:Pk}{w w':Str}{ys:List PV}
theorem qa {b:Bool}(h:decide (w=w')=b):isW w' k [.sh (.at (.ref k.x)),.sh (.tup (.at (.str w)::ys))]=some b:=by refine u9 (v:=b) (v6 (v6 rfl rfl (show L2.atI (PV.at (.str w)::ys) ((0:Nat):Int)=_ from xz rfl)) rfl ?_);show some (PV.at (.bl (qQ (.str w) (.str w'))))=_;rw [<- h];rfl
theorem ju {a:i6}{c:HB}(hc:c k ε=some false)(h:N k ε):hIf c a (hL xu) k ε N R:=⟨false,hc,qf h⟩
theorem Jp {a b:i6}{c:HB}(hc:c k ε=some true)(h:a k ε N R):hIf c a b k ε N R:=⟨true,hc,qb h⟩
theorem vE :jR k [.sh (.at (.ref k.x)),.sh (.tup (.at (.str w)::t::zs))]=some [t]:=qR (show hE (z9 v8 (z5 1) (dC (.int 1))) k _=some t from v6 rfl rfl (show L2.atI (PV.at (.str w)::t::zs) ((1:Nat):Int)=_ from xz rfl)) rfl
theorem js {c:HB}(hc:c k ε=some false):gIf c k ε=some ε:=by unfold gIf;rw [hc]
end
theorem VE :∀ (k:Pk) (xs:List PV) (y n:PV) (qs:List PV),wZ C k.n k.ps xs y n qs->xs.length+1=(["house","deed"]:List Str).length/\b_do C k (.sh (.at (.ref k.x))::xs.map .sh++List.replicate ((["house","deed"]:List Str).length-(xs.length+1)) .no) (λk' _=>k'=k.to n qs/\y = .at .non) λy' k' _=>k'=k.to n qs/\y'=y:=by
 rintro k xs y n qs (⟨t,b,rfl,h⟩|⟨t,rfl,h⟩|⟨t,rfl,h⟩|⟨t,rfl,h⟩|⟨rfl,h⟩)
 ·exact ⟨rfl,Jp (qa (b:=true) (by decide)) ⟨rfl,by decide,by decide,_,_,_,_,vE,h,rfl,rfl⟩⟩
 ·exact ⟨rfl,ju (qa (b:=false) (by decide)) (Jp (qa (b:=true) (by decide)) ⟨rfl,by decide,by decide,_,_,_,_,vE,h,rfl,rfl⟩)⟩
 ·exact ⟨rfl,ju (qa (b:=false) (by decide)) (ju (qa (b:=false) (by decide)) (Jp (qa (b:=true) (by decide)) ⟨rfl,by decide,by decide,_,_,_,_,vE,h,rfl,rfl⟩))⟩
 ·exact ⟨rfl,ju (qa (b:=false) (by decide)) (ju (qa (b:=false) (by decide)) (ju (qa (b:=false) (by decide)) (Jp (qa (b:=true) (by decide)) ⟨rfl,by decide,by decide,_,_,_,_,vE,h,rfl,rfl⟩)))⟩
 ·exact ⟨rfl,ju (qa (b:=false) (by decide)) (ju (qa (b:=false) (by decide)) (ju (qa (b:=false) (by decide)) (ju (qa (b:=false) (by decide)) ⟨rfl,by decide,by decide,_,_,_,_,rfl,h,rfl,rfl⟩)))⟩
theorem VF {CR:Addr}:∀ (k:Pk) (xs:List PV) (c:Addr) (y:XV),Qg CC CN CR CS CNT CND CM CT C k.n k.ps xs c y->xs.length+1=(["house","deed"]:List Str).length/\Co CC CN CR CS CNT CND CM CT C k (.sh (.at (.ref k.x))::xs.map .sh++List.replicate ((["house","deed"]:List Str).length-(xs.length+1)) .no) c y:=by
 rintro k xs c y (⟨t,b,rfl,h⟩|⟨t,rfl,h⟩|⟨t,rfl,h⟩|⟨t,rfl,h⟩|⟨rfl,h⟩)
 ·exact ⟨rfl,.inl ⟨true,qa (b:=true) (by decide),qb ⟨rfl,by decide,by decide,_,vE,h⟩⟩⟩
 ·exact ⟨rfl,.inr ⟨_,js (qa (b:=false) (by decide)),.inl ⟨true,qa (b:=true) (by decide),qb ⟨rfl,by decide,by decide,_,vE,h⟩⟩⟩⟩
 ·exact ⟨rfl,.inr ⟨_,js (qa (b:=false) (by decide)),.inr ⟨_,js (qa (b:=false) (by decide)),.inl ⟨true,qa (b:=true) (by decide),qb ⟨rfl,by decide,by decide,_,vE,h⟩⟩⟩⟩⟩
 ·exact ⟨rfl,.inr ⟨_,js (qa (b:=false) (by decide)),.inr ⟨_,js (qa (b:=false) (by decide)),.inr ⟨_,js (qa (b:=false) (by decide)),.inl ⟨true,qa (b:=true) (by decide),qb ⟨rfl,by decide,by decide,_,vE,h⟩⟩⟩⟩⟩⟩
 ·exact ⟨rfl,.inr ⟨_,js (qa (b:=false) (by decide)),.inr ⟨_,js (qa (b:=false) (by decide)),.inr ⟨_,js (qa (b:=false) (by decide)),.inr ⟨_,js (qa (b:=false) (by decide)),⟨rfl,by decide,by decide,_,rfl,h⟩⟩⟩⟩⟩⟩
abbrev s_do:Stmt:=top 61
theorem sc_do:v4 ["house","deed"] ["house","deed"] (j3 s_do):=y3
theorem ok_do (F:Fun K "_law_do" "_law_do" s_do f fd)(Et:My P w K mg base 1 Ab "back" ["self"] (p9 Ab wY (Qf Ai)))(Ex:My P w K mg base 8 Ab "drop" ["self","name"] (p9 Ab (Qa Aa) (zD Ah Aa)))(E2:My P w K mg base 8 Ab "put" ["self","cloth"] (p9 Ab (Qb Aa) (Qh Ae Ac Af Ad Ag Aa)))(Eu:My P w K mg base 7 Ab "wait" ["self","time"] (p9 Ab (Qc Aa) (Qi Ak Aa)))(Ev:My P w K mg base 8 Ab "work" ["self","name"] (p9 Ab (Qd Aa) (zD Ah Aa))):FnOk P w K mg base (y9 P w) 9 f fd ["house","deed"] (p9 Ab (wZ Aa) (Qg Ae Ah Ac Af Ak Ai Ad Ag Aa)) :=
 Zb (j:=8) (b:=b_do Aa) (xb:=Co Ae Ah Ac Af Ak Ai Ad Ag Aa) F sc_do (λcdv A outer s H E hr=>⟨_,(j0 (c9 (i5 (vg (K:=K) (hu6 hr) rfl) (iW (K:=K) rfl (pv 1) z8) xl (c5 _)) (j6 (w6 (xR E2 hr (by decide) qw (pv 0) (aW (iW (K:=K) rfl (pv 1) z8))))) m4)
  (j0 (c9 (i5 (vg (K:=K) (hu6 hr) rfl) (iW (K:=K) rfl (pv 1) z8) xl (c5 _)) (j6 (w6 (xR Ex hr (by decide) qw (pv 0) (aW (iW (K:=K) rfl (pv 1) z8))))) m4)
  (j0 (c9 (i5 (vg (K:=K) (hu6 hr) rfl) (iW (K:=K) rfl (pv 1) z8) xl (c5 _)) (j6 (w6 (xR Ev hr (by decide) qw (pv 0) (aW (iW (K:=K) rfl (pv 1) z8))))) m4)
  (j0 (c9 (i5 (vg (K:=K) (hu6 hr) rfl) (iW (K:=K) rfl (pv 1) z8) xl (c5 _)) (j6 (w6 (xR Eu hr (by decide) qw (pv 0) (aW (iW (K:=K) rfl (pv 1) z8))))) m4)
  (j6 (w6 (Rm Et hr (by decide) qw (pv 0)))))))),
  inferInstance,inferInstance⟩) VE VF
def vD (CC CN CR CS CNT CND CM CT C:Addr):PV->List PV->List PV->PV->PV->List PV->Prop:=λn ps xs y n' ps'=>(∃ z,wZ C n ps xs z n' ps'/\y = .at (.bl true))∨(∃ c v,Qg CC CN CR CS CNT CND CM CT C n ps xs c v/\c∈[CC,CN,CNT,CND,CM,CT]/\n'=n/\ps'=ps/\y = .at (.bl false))
theorem MR {CR:Addr}(h:p9 CH (vD CC CN CR CS CNT CND CM CT C) zK vs H Q E):vs.length=(["house","deed"]:List Str).length:=by
 obtain ⟨Hs,k,xs,ws,rfl,p,r,⟨y,n,qs,h,_⟩|⟨c,y,h,_⟩⟩:=h
 ·have:xs.length+1=2:=by
   rcases h with ⟨z,h,_⟩|⟨c,v,h,_⟩
   ·exact (VE k xs z n qs h).1
   ·exact (VF k xs c v h).1
  rw [yH,r.length];exact this
 ·exact h.elim
abbrev Yv:Stmt:=top 62
theorem sc_try:v4 ["house","deed","let_by"] ["house","deed"] (j3 Yv):=y3
theorem HI (F:Fun K "_law_try" "_law_try" Yv f fd)(Z0:Fy P w K mg base 9 "_law_do" ["house","deed"] (p9 Ab (wZ Aa) (Qg Ae Ah Ac Af Ak Ai Ad Ag Aa)))(Ey:mg "RinseError"=some (.ref Ap))(A9:PySem.W.exmOne K (.ref Ae) (.ref Ap)=some true)(B6:PySem.W.exmOne K (.ref Ah) (.ref Ap)=some true)(B5:PySem.W.exmOne K (.ref Ak) (.ref Ap)=some true)(A5:PySem.W.exmOne K (.ref Ai) (.ref Ap)=some true)(B0:PySem.W.exmOne K (.ref Ad) (.ref Ap)=some true)(B7:PySem.W.exmOne K (.ref Ag) (.ref Ap)=some true):FnOk P w K mg base v5 10 f fd ["house","deed"] (p9 Ab (vD Ae Ah Ac Af Ak Ai Ad Ag Aa) zK):=by
 refine F.ok (k:=9) sc_try (λvs H Q E h=>MR h) (λcdv A outer s H vs Q E hr h=>⟨_,(j0 (sW 2 sc_try.nd zh)
  (j0 (RI (K:=K) (cs:=[Ae,Ah,Ak,Ai,Ad,Ag]) rfl rfl rfl rfl rfl Ey (λE _ _ _ hp=>(RK (RJ (Rq Z0 hr (by decide) hp rfl (aC (pv 0) (aW (pv 1)))))))
   (λpn ea oe vs c hc hf hE hm=>(j6 (sW 2 sc_try.nd zh))))
  (j6 (w6 (pv 2))))),?_⟩)
 obtain ⟨Hs,k,xs,ws,rfl,p,r,⟨y,n,qs,h,q⟩|⟨c,y,h,_⟩⟩:=h
 rotate_left
 ·exact h.elim
 have hl:xs.length+1=2:=by
  rcases h with ⟨z,h,_⟩|⟨c,v,h,_⟩
  ·exact (VE k xs z n qs h).1
  ·exact (VF k xs c v h).1
 obtain ⟨dd,rfl⟩:∃ dd,xs=[dd]:=by
  match xs,hl with
  |[dd],_=>exact ⟨dd,rfl⟩
 obtain ⟨u,w',rfl,ru,rr⟩:=reps_cons.mp r;cases reps_nil.mp rr;rcases h with ⟨z,h,rfl⟩|⟨c,v,h,hc,rfl,rfl,rfl⟩
 ·refine ⟨E0,λ_ _ _ z=>z.elim,⟨_,rfl,_,rfl,Hs,k,[dd],[u],rfl,p,r,.inl ⟨z,n,qs,h,λv Hs' H' e p' rv=>?_⟩⟩,λ_ _ _ z=>z.elim⟩;exact ⟨_,rfl,q _ Hs' H' e p' (rep_at.mpr rfl)⟩
 ·refine ⟨λcls dx H'=>cls = .ref c/\∃ Hs',Ext Hs H Hs' H',λcls dx H' z=>⟨c,hc,z.1,?_⟩,⟨_,rfl,_,rfl,Hs,k,[dd],[u],rfl,p,r,.inr ⟨c,v,h,?_⟩⟩,λc' dx H' z=>?_⟩
  ·rw [z.1];simp only [yD,yJ,or_false] at hc;rcases hc with rfl|rfl|rfl|rfl|rfl|rfl
   ·exact A9
   ·exact B6
   ·exact B5
   ·exact A5
   ·exact B0
   ·exact B7
  ·cases v with
   |none=>exact λHs' H' x=>⟨rfl,Hs',x⟩
   |some pp=>exact λHs' H' dx x _ _=>⟨rfl,Hs',x⟩
  ·obtain ⟨_,Hs',x⟩:=z;exact ⟨_,rfl,q _ Hs' H' x.toP (p.go x) (rep_at.mpr rfl)⟩
def JL:List PV->Prop:=λxs=>∃ c k:Int,xs=[.at (.int c),.at (.int k)]
theorem MQ (h:spN JL vy vs H Q E):vs.length=(["cell","k"]:List Str).length:=by obtain ⟨Hs,xs,sm,r,⟨c,k,rfl⟩,q⟩:=h;rw [r.length];rfl
abbrev WO:Stmt:=top 55
theorem sc_cell_stream:v4 ["cell","k","found","j"] ["cell","k"] (j3 WO):=y3
section
theorem NQ (F:Fun K "_law_cell_stream" "_law_cell_stream" WO f fd)(Eg:Fn P w K mg base 1 "_law_mixed" ["cell","k"] JV)(A7:mg "range"=none):FnOk P w K mg base v5 2 f fd ["cell","k"] (spN JL vy):=by
 refine F.ok (k:=1) sc_cell_stream (λvs H Q E h=>MQ h) (λcdv A outer s H vs Q E hr h=>⟨_,(j0 (qh (i:=0) sc_cell_stream.nd rfl (Or.inl rfl) (v7 zX (pv 0) (v7 Zc (v7 zY z8 z8) (v7 zY z8 z8))))
  (j0 (c9 (i5 QQ (pv 0) (v7 zY z8 z8) (c5 _)) (j6 (w6 (qg (j8 (pv 0) y2)))) m4)
  (j0 (qh (i:=2) sc_cell_stream.nd rfl (Or.inl rfl) z8)
  (j0 (vk PassesOwn.never rfl (QZ rfl A7 (j8 z8 y2)) (gW 3 sc_cell_stream.nd)
   (j6 (qh (i:=2) sc_cell_stream.nd rfl (Or.inl rfl) (v7 op_add (v7 vP (pv 2) z8) (fW Eg hr (j8 (v7 op_add (pv 0) (v7 vP z8 (pv 1))) (j8 (pv 3) y2)))))))
  (j6 (w6 (qg (j8 (pv 2) y2)))))))),?_⟩)
 obtain ⟨Hs,xs,sm,r,⟨c,k,rfl⟩,q⟩:=h;obtain rfl:vs=[.int c,.int k]:=Reps.ats (us:=[.int c,.int k]) r;have fin:∀(n:Int)(p:Addr),H p=none->Q (.ref p) (z7 H p (.lst [.int n])):=λn p hp=>q _ p Hs _ ⟨n,rfl⟩ (.newO sm hp) hp (sm.free hp) ⟨_,j9,.one (rep_at.mpr rfl)⟩;refine ⟨_,rfl,_,_,rfl,rfl,Qn,_,_,rfl,rfl,Qn,_,_,rfl,rfl,⟨Qj,Qj⟩,_,_,rfl,rfl,Xq,?_⟩;refine ⟨_,rfl,_,_,rfl,rfl,Vr,_,_,rfl,rfl,_,rfl,ite2 (λ_=>?_) (λ_=>?_)⟩
 ·exact ⟨_,rfl,(by show 1<=sizeLine;decide),λp hp=>fin _ p hp⟩
 ·refine ⟨5,rfl,by decide,by decide,Ke (n:=5) (λi U H4=>∃(f:Int)(j:Option V),U=[some (.int (c % (10 ^ (60:Int).toNat*10 ^ (60:Int).toNat))),some (.int k),some (.int f),j]/\H4=H) ⟨0,_,rfl,rfl⟩ ?_ ?_⟩
  ·rintro i U H4 hi ⟨f,j,rfl,rfl⟩;refine ⟨_,rfl,_,_,rfl,rfl,.inr ⟨by decide,by decide⟩,_,rfl,_,rfl,_,_,rfl,rfl,.inl ⟨by decide,by decide⟩,_,_,rfl,rfl,_,rfl,_,_,rfl,by omega,by omega,λv v0 v1=>?_⟩;exact ⟨_,_,rfl,rfl,_,_,rfl,rfl⟩
  ·rintro U H4 ⟨f,j,rfl,rfl⟩;exact ⟨_,rfl,(by show 1<=sizeLine;decide),λp hp=>fin _ p hp⟩
end
structure ZI (d:Dr)(sc:Int)(ns:List Str):Prop where
 ok:d.Ok
 s4:4<=sc
 s26:sc<=S26
 n14:ns.length=14
 nm:∀ x∈ns,wS x
def S29:Int:=10 ^ 29
theorem CI:3<=S29:=by decide +kernel
theorem CG:5*S29<=qx:=by decide +kernel
theorem DD:jm 10 29:=⟨by decide,by decide,by decide⟩
theorem pow29:pPow (.at (.int 10)) (.at (.int 29))=some (.at (.int S29)):=by show (if jm 10 29 then some (V.int (10 ^ (29:Int).toNat)) else none).map PV.at=_;rw [if_pos DD];rfl
theorem ZE {c:MB}{a b:WS}{N:ME->Prop}{R:PV->ME->Prop}(hc:c ε=some v)(h1:v=true->a ε N R)(h2:v=false->b ε N R):zA (wPT c) a b ε N R:=⟨v,hc,by
 cases v with
 |true=>exact qb (h1 rfl)
 |false=>exact qf (h2 rfl)⟩
def Zj:List PV->Prop:=λxs=>∃(d:Dr)(sc:Int)(ns:List Str)(t:Int),ZI d sc ns/\xs=[d.hp sc ns,.at (.int t)]
def ZK:List PV->PV->Prop:=λxs y=>∃(rows zs:List PV)(t:PV)(c:Cl),xs=[.tup (.lst rows::zs),t]/\y=c.pv/\c.Ok (rows.length-1)
theorem KE (ok:d.Ok):qD [y7 d.rss]=some (.at (.int ((d.h:Int)+1))):=by show some (PV.at (.int ((d.rss.map m5).length:Int)))=_;rw [yZ,show d.rss.length=d.h+1 from ok.rin.len];rfl
theorem Jn (ok:d.Ok):(d.rss.map m5).length-1=d.h:=by rw [yZ,ok.rin.len];omega
theorem Vl {ns:List Str}{k:Int}(h0:0<=k)(h1:k<ns.length):∃ x∈ns,v8 (.lst (k7 ns)) (.at (.int k))=some (.at (.str x)):=by
 obtain ⟨j,rfl⟩:=uW h0;have hj:j<ns.length:=by omega
 refine ⟨ns[j],yp hj,?_⟩;show L2.atI (k7 ns) ((j:Nat):Int)=_;exact xz (by unfold k7;rw [yK,yz hj];rfl)
theorem mul4 {s:Int}(h0:4<=s)(h1:s<=S26):pMul (.at (.int 4)) (.at (.int s))=some (.at (.int (4*s))):=by
 have e:S26<M2 ^ 1:=by decide +kernel
 show (if Xo 4 s then some (V.int (4*s)) else none).map PV.at=_;rw [if_pos ⟨by decide +kernel,Gk (i:=1) (by decide) (by omega) (by omega)⟩];rfl
abbrev WV:Stmt:=top 58
abbrev UE (K:Fg):WS:=(wSeq (wAsg (zr 5 (i0 (w5 3) (i0 (w5 4) (i0 (w5 5) (i0 (w5 6) (i0 (w5 7) zp)))))) (wP (x0 1)))
  (wSeq (i9 8 (xT v8 (wP (x0 7)) (qM 0 (wP (dC (.int 14))))))
  (wSeq (i9 9 (qM 0 (wP (z9 xQ (x9 qD (q0 (z5 3) x8)) (dC (.int 1))))))
  (wSeq (i9 10 (xT qv (wP (dC (.int 1))) (qM 0 (wP (x0 6)))))
  (wSeq (i9 11 (xT xQ (xT qv (wP (x0 2)) (qM 0 (wP (z9 pMul (dC (.int 4)) (z5 6))))) (wP (dC (.int 2)))))
  (xL (wTup (xU (wP (x0 8)) (xU (wP (x0 9)) (xU (wP (x0 10)) (xU (wP (x0 11)) (xU (xT qv (wP (dC (.int 1))) (qM 0 (xT v8 (wP (m8 (q0 (dC (.int 3)) (q0 (z9 pPow (dC (.int 10)) (dC (.int 29))) x8)))) (qM 0 (wP (dC (.int 2))))))) vu))))))))))))
theorem sc_cloth:v4 ["stream","house","time","rinses","last","begun","scale","names","name","hue","length","due"] ["stream","house","time"] (j3 WV):=y3
theorem MT:∀ xs,Zj xs->xs.length+1=(["stream","house","time"]:List Str).length:=by rintro xs ⟨d,sc,ns,t,_,rfl⟩;rfl
theorem MX {K:Fg}:∀ xs n,Zj xs->UE K (g0 n::xs.map .sh++List.replicate ((["stream","house","time","rinses","last","begun","scale","names","name","hue","length","due"]:List Str).length-(xs.length+1)) .no) (λ_=>False) λy ε=>ZK xs y/\jH 0 ε:=by
 rintro xs n ⟨d,sc,ns,t,ho,rfl⟩;have hB:=ZH;have h26:=Vh;have h29:=CG;have p29:=CI;have hs4:=ho.s4;have hs26:=ho.s26;have h1:=ho.ok.h1;have h4:=ho.ok.h4;refine ⟨_,rfl,_,rfl,?_⟩;show wSeq _ _ [g0 n,.sh (d.hp sc ns),.sh (.at (.int t)),.sh (y7 d.rss),.sh (.at (.int d.last)),.sh (.at (.int d.time)),.sh (.at (.int sc)),.sh (.lst (k7 ns)),.no,.no,.no,.no] _ _;obtain ⟨x,hx,ex⟩:=Vl (ns:=ns) (k:=n % 14) (yr _ (by decide)) (by rw [ho.n14];exact yv _ (by decide));refine ⟨_,rfl,⟨n,rfl⟩,_,rfl,n,14,rfl,rfl,⟨by decide,by decide⟩,_,ex,?_⟩;generalize n / 14=n1;show wSeq _ _ [g0 n1,.sh (d.hp sc ns),.sh (.at (.int t)),.sh (y7 d.rss),.sh (.at (.int d.last)),.sh (.at (.int d.time)),.sh (.at (.int sc)),.sh (.lst (k7 ns)),.sh (.at (.str x)),.no,.no,.no] _ _;have eh:∀(s0 s9:MSlot),z9 xQ (x9 qD (q0 (z5 3) x8)) (dC (.int 1)) [s0,.sh (d.hp sc ns),.sh (.at (.int t)),.sh (y7 d.rss),.sh (.at (.int d.last)),.sh (.at (.int d.time)),.sh (.at (.int sc)),.sh (.lst (k7 ns)),.sh (.at (.str x)),s9,.no,.no]=some (.at (.int (d.h:Int))):=λ_ _=>v6 (j4 rfl (KE ho.ok)) rfl (by show some (PV.at (.int ((d.h:Int)+1-1)))=_;rw [Int.add_sub_cancel]);refine ⟨⟨n1,rfl⟩,_,eh _ _,n1,(d.h:Int),rfl,rfl,jS (by omega) (by omega),?_⟩;have a0:0<=n1 % (d.h:Int):=yr _ (by omega);have a1:n1 % (d.h:Int)<(d.h:Int):=yv _ (by omega);obtain ⟨hu,ehu⟩:=uW a0;rw [ehu] at a1 ⊢;generalize n1 / (d.h:Int)=n2;show wSeq _ _ [g0 n2,.sh (d.hp sc ns),.sh (.at (.int t)),.sh (y7 d.rss),.sh (.at (.int d.last)),.sh (.at (.int d.time)),.sh (.at (.int sc)),.sh (.lst (k7 ns)),.sh (.at (.str x)),.sh (.at (.int (hu:Int))),.no,.no] _ _;refine ⟨_,rfl,⟨n2,rfl⟩,_,rfl,n2,sc,rfl,rfl,jS (by omega) (by omega),_,rfl,?_⟩;have b0:0<=n2 % sc:=yr _ (by omega);have b1:n2 % sc<sc:=yv _ (by omega);generalize n2 % sc=le at b0 b1;generalize n2 / sc=n3;show wSeq _ _ [g0 n3,.sh (d.hp sc ns),.sh (.at (.int t)),.sh (y7 d.rss),.sh (.at (.int d.last)),.sh (.at (.int d.time)),.sh (.at (.int sc)),.sh (.lst (k7 ns)),.sh (.at (.str x)),.sh (.at (.int (hu:Int))),.sh (.at (.int (1+le))),.no] _ _;have em:∀(s0 s9 s10:MSlot),z9 pMul (dC (.int 4)) (z5 6) [s0,.sh (d.hp sc ns),.sh (.at (.int t)),.sh (y7 d.rss),.sh (.at (.int d.last)),.sh (.at (.int d.time)),.sh (.at (.int sc)),.sh (.lst (k7 ns)),.sh (.at (.str x)),s9,s10,.no]=some (.at (.int (4*sc))):=λ_ _ _=>v6 rfl rfl (mul4 hs4 hs26);refine ⟨_,rfl,⟨n3,rfl⟩,_,em _ _ _,n3,4*sc,rfl,rfl,jS (by omega) (by omega),_,rfl,_,rfl,_,rfl,?_⟩;generalize n3 % (4*sc)=du;generalize n3 / (4*sc)=n4;show xL _ [g0 n4,.sh (d.hp sc ns),.sh (.at (.int t)),.sh (y7 d.rss),.sh (.at (.int d.last)),.sh (.at (.int d.time)),.sh (.at (.int sc)),.sh (.lst (k7 ns)),.sh (.at (.str x)),.sh (.at (.int (hu:Int))),.sh (.at (.int (1+le))),.sh (.at (.int (t+du-2)))] _ _;have c0:0<=n4 % 2:=yr _ (by decide);have c1:n4 % 2<2:=yv _ (by decide);have ixt:∃ k:Int,v8 (.lst [.at (.int 3),.at (.int S29)]) (.at (.int (n4 % 2)))=some (.at (.int k))/\3<=k/\k<=S29:=by
  have c:n4 % 2=0∨n4 % 2=1:=by omega
  rcases c with e|e<;>rw [e]
  ·exact ⟨3,rfl,by decide,by omega⟩
  ·exact ⟨S29,rfl,by omega,by omega⟩
 obtain ⟨k,ek,k0,k1⟩:=ixt;refine ⟨_,rfl,_,rfl,_,rfl,_,rfl,_,rfl,⟨n4,rfl⟩,_,xC (j5 rfl (j5 (v6 rfl rfl pow29) rfl)) l2,⟨n4,rfl⟩,_,rfl,n4,2,rfl,rfl,⟨by decide,by decide⟩,_,ek,n4 / 2,k,rfl,rfl,jS (by omega) (by omega),_,rfl,l5,?_⟩;have w0:0<=n4 / 2 % k:=yr _ (by omega);have w1:n4 / 2 % k<k:=yv _ (by omega);refine ⟨⟨d.rss.map m5,_,_,⟨x,hu,1+le,t+du-2,1+n4 / 2 % k⟩,rfl,rfl,?_⟩,_,rfl⟩;rw [Jn ho.ok];exact ⟨ho.nm x hx,by show hu<d.h;omega,by show (1:Int)<=1+le;omega,by show 1+le<=qx;omega,trivial,trivial,by show (1:Int)<=1+n4 / 2 % k;omega,by show 1+n4 / 2 % k<=qx;omega⟩
theorem NV (F:Fun K "_law_cloth" "_law_cloth" WV f fd)(Aw:Fn P w K mg base 1 "_law_take" ["stream","many"] Xf)(Ax:mg "len"=none):FnOk P w K mg base v5 2 f fd ["stream","house","time"] (spD Zj ZK) :=
 okD (k:=1) (b:=UE K) F sc_cloth MT (λcdv A outer s H E hr=>⟨_,(j0 (JN (pv 1) (wC (K:=K) (n:=5) rfl rfl (qE (gW 3 sc_cloth.nd) (qE (gW 4 sc_cloth.nd) (qE (gW 5 sc_cloth.nd) (qE (gW 6 sc_cloth.nd) (qE (gW 7 sc_cloth.nd) wD)))))))
  (j0 (sW 8 sc_cloth.nd (iW (K:=K) rfl (pv 7) (fW Aw hr (aC (pv 0) (aW z8)))))
  (j0 (sW 9 sc_cloth.nd (fW Aw hr (aC (pv 0) (aW (v7 (zZ) (i8 (zL (K:=K) rfl) rfl Ax PySem.boot_len (aW (pv 3))) z8)))))
  (j0 (sW 10 sc_cloth.nd (v7 (xt (K:=K) rfl) z8 (fW Aw hr (aC (pv 0) (aW (pv 6))))))
  (j0 (sW 11 sc_cloth.nd (v7 (zZ) (v7 (xt (K:=K) rfl) (pv 2) (fW Aw hr (aC (pv 0) (aW (v7 (Zc) z8 (pv 6)))))) z8))
  (j6 (w6 (@qJ _ _ _ _ _ (aC (pv 8) (aC (pv 9) (aC (pv 10) (aC (pv 11) (aW (v7 (xt (K:=K) rfl) z8 (fW Aw hr (aC (pv 0) (aW (iW (K:=K) rfl (@qg _ _ _ _ (aC z8 (aW (v7 (zY) z8 z8)))) (fW Aw hr (aC (pv 0) (aW z8))))))))))))))))))))),
  (by repeat' first|infer_instance|(refine @Mi.instSemWSTSeqWSeq _ _ _ _ ?_ ?_)|(apply @Mi.instSemWSTForWForOfSemWIOfSemWG))⟩) MX
def Deed (h:Nat)(y:PV):Prop:=(∃ c:Cl,c.Ok h/\y=zO c.pv true)∨(∃ t,wU h t/\y=zO t false)∨(∃ s:Str,y=zN "work" (.at (.str s)))∨(∃ s:Str,y=zN "drop" (.at (.str s)))∨(∃ v,y=zN "wait" v/\((∃ m:Int,v = .at (.int m))∨NW v))∨y=ZU
def Zk:List PV->Prop:=λxs=>∃(d:Dr)(sc:Int)(ns:List Str)(ks:List v3)(vs:List PV)(ss:List Str)(l r1 r2:PV)(t:Int),ZI d sc ns/\zV ks=some ss/\ks.length=ss.length/\ss.length<=10/\xs=[d.hp sc ns,.tup [.dk ks vs,l,.at (.int t),r1,r2]]
def wV:List PV->PV->Prop:=λxs y=>∃(rows zs:List PV)(st:PV),xs=[.tup (.lst rows::zs),st]/\Deed (rows.length-1) y
theorem Sy (h:wS s):zu [.at (.str (s++("A":Str)))]=some (.at (.bl false)):=by
 have e:(s++("A":Str)).cps.toList=s.cps.toList++[65]:=by show (s.cps++("A":Str).cps).toList=_;rw [Array.toList_append];rfl
 have l:(s++("A":Str)).length=s.length+1:=by show (s.cps++("A":Str).cps).size=_;rw [Array.size_append];rfl
 have h1:=h.one;have h8:=h.eight;by_cases h9:s.length=8
 ·exact Nh (.inr (by omega))
 ·refine nn_sg (by omega) (by omega) ?_;rw [e,List.all_append];simp
abbrev WW:Stmt:=top 60
abbrev UF (K:Fg):WS:=(wSeq (wAsg (zr 5 (i0 (w5 3) (i0 (w5 4) (i0 (w5 5) (i0 (w5 6) (i0 (w5 7) zp)))))) (wP (x0 2)))
  (wSeq (i9 8 (qM 0 (wP (dC (.int 8)))))
  (wSeq (zA (wPT (dT (z9 pLt (z5 8) (dC (.int 3))))) (wSeq (i9 9 (Vc 0 Zj ZK (xU (wP (x0 1)) (xU (wP (x0 5)) vu))))
  (wSeq (i9 10 (qM 0 (wP (dC (.int 24)))))
  (wSeq (zA (wPT (dT (z9 pLt (z5 10) (dC (.int 4))))) (wSeq (wAsg (zr 5 (i0 (w5 11) (i0 (w5 12) (i0 (w5 13) (i0 (w5 14) (i0 (w5 15) zp)))))) (wP (x0 9)))
  (wSeq (i9 16 (wP (z9 xQ (x9 qD (q0 (z9 v8 (z5 1) (dC (.int 0))) x8)) (dC (.int 1)))))
  (i9 9 (wP (z9 v8 (m8 (q0 (ql (q0 (x0 11) (q0 (x0 16) (q0 (x0 13) (q0 (x0 14) (q0 (x0 15) x8)))))) (q0 (ql (q0 (x0 11) (q0 (x0 12) (q0 (dC (.int 0)) (q0 (x0 14) (q0 (x0 15) x8)))))) (q0 (ql (q0 (x0 11) (q0 (x0 12) (q0 (x0 13) (q0 (x0 14) x8))))) (q0 (ql (q0 (z9 qv (z5 11) (dC (.str "A"))) (q0 (x0 12) (q0 (x0 13) (q0 (x0 14) (q0 (x0 15) x8)))))) x8))))) (z5 10)))))) xu)
  (xL (wP (ql (q0 (dC (.str "put")) (q0 (x0 9) (q0 (z9 pGe (z5 10) (dC (.int 4))) x8))))))))) xu)
  (wSeq (zA (wPT (dT (z9 pLt (z5 8) (dC (.int 6))))) (wSeq (i9 11 (xT v8 (wP (z9 qv (z9 v8 (z5 1) (dC (.int 4))) (m8 (q0 (dC (.str "A")) (q0 (dC (.str "")) x8))))) (qM 0 (wP (dC (.int 16))))))
  (wSeq (zA (wAnd (wPT (dT (z9 pNeD (z5 3) XA))) (wT (xT pGt (qM 0 (wP (dC (.int 4)))) (wP (dC (.int 0)))))) (i9 11 (xT v8 (wP (Vt (z5 3))) (qM 0 (wP (x9 qD (q0 (z5 3) x8)))))) xu)
  (xL (wP (ql (q0 (z9 v8 (m8 (q0 (dC (.str "work")) (q0 (dC (.str "work")) (q0 (dC (.str "drop")) x8)))) (z9 xQ (z5 8) (dC (.int 3)))) (q0 (x0 11) x8))))))) xu)
  (wSeq (zA (wPT (dT (z9 pEq (z5 8) (dC (.int 6))))) (wSeq (i9 17 (qM 0 (wP (dC (.int 12)))))
  (wSeq (zA (wPT (dT (z9 pLt (z5 17) (dC (.int 3))))) (xL (wP (ql (q0 (dC (.str "wait")) (q0 (z9 v8 (m8 (q0 (dC (.bl true)) (q0 (dC .non) (q0 (dC (.str "9")) x8)))) (z5 17)) x8))))) xu)
  (xL (wTup (xU (wP (dC (.str "wait"))) (xU (xT xQ (xT qv (wP (x0 5)) (qM 0 (wP (z9 v8 (m8 (q0 (dC (.int 3)) (q0 (dC (.int 3)) (q0 (z9 v8 (z5 1) (dC (.int 3))) x8)))) (z9 pMod (z5 17) (dC (.int 3))))))) (wP (x9 VW (q0 (z9 pEq (z5 17) (dC (.int 3))) x8)))) vu)))))) xu)
  (xL (wP (ql (q0 (dC (.str "back")) x8)))))))))
theorem sc_deed:v4 ["stream","house","state","waiting","last","time","rows","lates","kind","cloth","spoil","name","hue","length","due","weight","hues","odd"] ["stream","house","state"] (j3 WW):=y3
theorem MU:∀ xs,Zk xs->xs.length+1=(["stream","house","state"]:List Str).length:=by rintro xs ⟨d,sc,ns,ks,vs,ss,l,r1,r2,t,_,_,_,_,rfl⟩;rfl
theorem MY {K:Fg}:∀ xs n,Zk xs->UF K (g0 n::xs.map .sh++List.replicate ((["stream","house","state","waiting","last","time","rows","lates","kind","cloth","spoil","name","hue","length","due","weight","hues","odd"]:List Str).length-(xs.length+1)) .no) (λ_=>False) λy ε=>wV xs y/\jH 0 ε:=by
 rintro xs n ⟨d,sc,ns,ks,vs,ss,l,r1,r2,t,ho,hk,hkl,h10,rfl⟩;have hlim:lim=1000000:=rfl;have hB:=ZH;have h26:=Vh;have hs4:=ho.s4;have hs26:=ho.s26;have h1:=ho.ok.h1;have h4:=ho.ok.h4;have tell:∀{y:PV}{ε:ME},Deed d.h y->jH 0 ε->wV [d.hp sc ns,.tup [.dk ks vs,l,.at (.int t),r1,r2]] y/\jH 0 ε:=λhd hw=>⟨⟨d.rss.map m5,_,_,rfl,by rw [Jn ho.ok];exact hd⟩,hw⟩;generalize hst:PV.tup [.dk ks vs,l,.at (.int t),r1,r2]=st at tell;refine ⟨_,rfl,[g0 n,.sh (d.hp sc ns),.sh st,.sh (.dk ks vs),.sh l,.sh (.at (.int t)),.sh r1,.sh r2,.no,.no,.no,.no,.no,.no,.no,.no,.no,.no],by rw [<- hst];rfl,?_⟩;refine ⟨⟨n,rfl⟩,_,rfl,n,8,rfl,rfl,⟨by decide,by decide⟩,?_⟩;have k0:0<=n % 8:=yr _ (by decide);have k1:n % 8<8:=yv _ (by decide);generalize n % 8=kd at k0 k1;generalize n / 8=n1;show wSeq _ _ [g0 n1,.sh (d.hp sc ns),.sh st,.sh (.dk ks vs),.sh l,.sh (.at (.int t)),.sh r1,.sh r2,.sh (.at (.int kd)),.no,.no,.no,.no,.no,.no,.no,.no,.no] _ _;refine ZE (v:=decide (kd<3)) (u9 (v6 rfl rfl rfl)) (λhk3=>?_) λhk3=>?_
 ·-- put
  refine ⟨⟨n1,rfl⟩,_,rfl,_,rfl,⟨n1,rfl⟩,⟨d,sc,ns,t,ho,rfl⟩,?_⟩;rintro _ n2 ⟨rows,zs,t',c,e,rfl,okc⟩;have er:rows=d.rss.map m5:=by injection e with e _;injection e with e;injection e with e _;injection e with e;exact e.symm
  rw [er,Jn ho.ok] at okc;clear e er;refine ⟨⟨n2,rfl⟩,_,rfl,n2,24,rfl,rfl,⟨by decide,by decide⟩,?_⟩;have p0:0<=n2 % 24:=yr _ (by decide);generalize n2 % 24=sp at p0;generalize n2 / 24=n3;show wSeq _ _ [g0 n3,.sh (d.hp sc ns),.sh st,.sh (.dk ks vs),.sh l,.sh (.at (.int t)),.sh r1,.sh r2,.sh (.at (.int kd)),.sh c.pv,.sh (.at (.int sp)),.no,.no,.no,.no,.no,.no,.no] _ _;refine ZE (v:=decide (sp<4)) (u9 (v6 rfl rfl rfl)) (λhs=>?_) λhs=>?_
  ·have hs':=yf hs;have lr:z9 xQ (x9 qD (q0 (z9 v8 (z5 1) (dC (.int 0))) x8)) (dC (.int 1)) [g0 n3,.sh (d.hp sc ns),.sh st,.sh (.dk ks vs),.sh l,.sh (.at (.int t)),.sh r1,.sh r2,.sh (.at (.int kd)),.sh c.pv,.sh (.at (.int sp)),.sh (.at (.str c.name)),.sh (.at (.int c.hue)),.sh (.at (.int c.len)),.sh (.at (.int c.due)),.sh (.at (.int c.wt)),.no,.no]=some (.at (.int (d.h:Int))) :=
    v6 (j4 (j5 (v6 (x:=d.hp sc ns) rfl rfl rfl) rfl) (KE ho.ok)) rfl (by show some (PV.at (.int ((d.h:Int)+1-1)))=_;rw [Int.add_sub_cancel])
   have nm:=PL okc.nm;have ix:∃ z,v8 (.lst [.tup [.at (.str c.name),.at (.int (d.h:Int)),.at (.int c.len),.at (.int c.due),.at (.int c.wt)],.tup [.at (.str c.name),.at (.int c.hue),.at (.int 0),.at (.int c.due),.at (.int c.wt)],.tup [.at (.str c.name),.at (.int c.hue),.at (.int c.len),.at (.int c.due)],.tup [.at (.str (c.name++("A":Str))),.at (.int c.hue),.at (.int c.len),.at (.int c.due),.at (.int c.wt)]]) (.at (.int sp))=some z/\wU d.h z:=by
    have c4:sp=0∨sp=1∨sp=2∨sp=3:=by omega
    rcases c4 with e|e|e|e<;>subst e
    ·exact ⟨_,rfl,LZ nm⟩
    ·exact ⟨_,rfl,Nb nm okc.hu (Kf (by decide))⟩
    ·exact ⟨_,rfl,Na (by show 4≠5;decide)⟩
    ·exact ⟨_,rfl,Nc (Sy okc.nm)⟩
   obtain ⟨z,ez,hz⟩:=ix;refine ⟨_,rfl,[g0 n3,.sh (d.hp sc ns),.sh st,.sh (.dk ks vs),.sh l,.sh (.at (.int t)),.sh r1,.sh r2,.sh (.at (.int kd)),.sh c.pv,.sh (.at (.int sp)),.sh (.at (.str c.name)),.sh (.at (.int c.hue)),.sh (.at (.int c.len)),.sh (.at (.int c.due)),.sh (.at (.int c.wt)),.no,.no],rfl,_,lr,?_⟩;show i9 _ _ [g0 n3,.sh (d.hp sc ns),.sh st,.sh (.dk ks vs),.sh l,.sh (.at (.int t)),.sh r1,.sh r2,.sh (.at (.int kd)),.sh c.pv,.sh (.at (.int sp)),.sh (.at (.str c.name)),.sh (.at (.int c.hue)),.sh (.at (.int c.len)),.sh (.at (.int c.due)),.sh (.at (.int c.wt)),.sh (.at (.int (d.h:Int))),.no] _ _;have n8:=okc.nm.eight;refine ⟨z,v6 (xC (j5 (xD rfl l5) (j5 (xD rfl l5) (j5 (xD rfl l4) (j5 (xD (j5 (v6 rfl rfl (if_pos (show c.name.length+1<=lim by omega))) rfl) l5) rfl)))) l4) rfl ez,?_⟩;refine ⟨_,xD (j5 rfl (j5 rfl (j5 (v6 rfl rfl rfl) rfl))) l3,tell (.inr (.inl ⟨z,hz,?_⟩)) ⟨_,rfl⟩⟩;unfold zO;rw [yP (show ¬ (4:Int)<=sp by omega)]
  ·have hs':=of_decide_eq_false hs;refine ⟨_,xD (j5 rfl (j5 rfl (j5 (v6 rfl rfl rfl) rfl))) l3,tell (.inl ⟨c,okc,?_⟩) ⟨_,rfl⟩⟩;unfold zO;rw [yu (show (4:Int)<=sp by omega)]
 have hk3':=of_decide_eq_false hk3;refine ZE (v:=decide (kd<6)) (u9 (v6 rfl rfl rfl)) (λhk6=>?_) λhk6=>?_
 ·-- work,drop
  have hk6':=yf hk6;have ewd:∃ w:Str,v8 (.lst [.at (.str "work"),.at (.str "work"),.at (.str "drop")]) (.at (.int (kd-3)))=some (.at (.str w))/\(w = "work" ∨ w = "drop"):=by
   have c3:kd=3∨kd=4∨kd=5:=by omega
   rcases c3 with e|e|e<;>subst e
   ·exact ⟨_,rfl,.inl rfl⟩
   ·exact ⟨_,rfl,.inl rfl⟩
   ·exact ⟨_,rfl,.inr rfl⟩
  obtain ⟨w,ew,hw⟩:=ewd;have fin:∀ (n':Int) (x:Str),xL (wP (ql (q0 (z9 v8 (m8 (q0 (dC (.str "work")) (q0 (dC (.str "work")) (q0 (dC (.str "drop")) x8)))) (z9 xQ (z5 8) (dC (.int 3)))) (q0 (x0 11) x8)))) [g0 n',.sh (d.hp sc ns),.sh st,.sh (.dk ks vs),.sh l,.sh (.at (.int t)),.sh r1,.sh r2,.sh (.at (.int kd)),.no,.no,.sh (.at (.str x)),.no,.no,.no,.no,.no,.no] (λ_=>False) (λy ε=>wV [d.hp sc ns,st] y/\jH 0 ε):=λn' x=>by
   refine ⟨zN w (.at (.str x)),xD (j5 (v6 (xC rfl l3) (v6 rfl rfl rfl) ew) (j5 rfl rfl)) l2,tell ?_ ⟨_,rfl⟩⟩;rcases hw with rfl|rfl
   ·exact .inr (.inr (.inl ⟨x,rfl⟩))
   ·exact .inr (.inr (.inr (.inl ⟨x,rfl⟩)))
  have l16:(k7 ns++[.at (.str "A"),.at (.str "")])=k7 (ns++(["A",""]:List Str)):=by unfold k7;rw [yE];rfl
  obtain ⟨x,hx,ex⟩:=Vl (ns:=ns++(["A",""]:List Str)) (k:=n1 % 16) (yr _ (by decide)) (by rw [yL,ho.n14];exact yv _ (by decide));have en:z9 qv (z9 v8 (z5 1) (dC (.int 4))) (m8 (q0 (dC (.str "A")) (q0 (dC (.str "")) x8))) [g0 n1,.sh (d.hp sc ns),.sh st,.sh (.dk ks vs),.sh l,.sh (.at (.int t)),.sh r1,.sh r2,.sh (.at (.int kd)),.no,.no,.no,.no,.no,.no,.no,.no,.no]=some (.lst (k7 (ns++(["A",""]:List Str)))):=by rw [<- l16];exact v6 (x:= .lst (k7 ns)) (v6 (x:=d.hp sc ns) rfl rfl rfl) (xC rfl l2) (JF (by rw [Pj,ho.n14];show 14+2<=lim;decide))
  refine ⟨_,en,⟨n1,rfl⟩,_,rfl,n1,16,rfl,rfl,⟨by decide,by decide⟩,_,ex,?_⟩;generalize n1 / 16=n2;show wSeq _ _ [g0 n2,.sh (d.hp sc ns),.sh st,.sh (.dk ks vs),.sh l,.sh (.at (.int t)),.sh r1,.sh r2,.sh (.at (.int kd)),.no,.no,.sh (.at (.str x)),.no,.no,.no,.no,.no,.no] _ _;refine ⟨!ks.isEmpty,u9 (v6 rfl rfl rfl),?_⟩;cases hke:ks with
  |nil=>rw [hke] at fin;exact qf (qf (fin _ _))
  |cons kk kt =>
   refine qb ?_;rw [<- hke];refine ⟨⟨n2,rfl⟩,_,rfl,n2,4,rfl,rfl,⟨by decide,by decide⟩,_,rfl,_,rfl,decide (n2 % 4 > 0),rfl,?_⟩;by_cases hg:n2 % 4 > 0
   ·rw [yu hg];refine qb ?_;generalize n2 / 4=n3;have hpos:0<ss.length:=by rw [<- hkl,hke];exact Nat.succ_pos _
    obtain ⟨x2,hx2,ex2⟩:=Vl (ns:=xJ ss) (k:=n3 % (ks.length:Int)) (yr _ (by omega)) (by rw [(Zs ss).length_eq,<- hkl];exact yv _ (by omega));have es:∀ s0 s11:MSlot,Vt (z5 3) [s0,.sh (d.hp sc ns),.sh st,.sh (.dk ks vs),.sh l,.sh (.at (.int t)),.sh r1,.sh r2,.sh (.at (.int kd)),.no,.no,s11,.no,.no,.no,.no,.no,.no]=some (.lst (k7 (xJ ss))):=λ_ _=>by
     show (zV ks).bind _=_;rw [hk,yG,if_pos (by omega)];rfl
    refine ⟨_,es _ _,⟨n3,rfl⟩,_,rfl,n3,(ks.length:Int),rfl,rfl,jS (by omega) (by omega),_,ex2,?_⟩;exact fin _ _
   ·rw [yP hg];exact qf (fin _ _)
 have hk6':=of_decide_eq_false hk6;refine ZE (v:=decide (kd=6)) (u9 (v6 rfl rfl (Je _ _))) (λh6=>?_) λh6=>?_
 ·refine ⟨⟨n1,rfl⟩,_,rfl,n1,12,rfl,rfl,⟨by decide,by decide⟩,?_⟩;have o0:0<=n1 % 12:=yr _ (by decide);have o1:n1 % 12<12:=yv _ (by decide);generalize n1 % 12=od at o0 o1;generalize n1 / 12=n2;show wSeq _ _ [g0 n2,.sh (d.hp sc ns),.sh st,.sh (.dk ks vs),.sh l,.sh (.at (.int t)),.sh r1,.sh r2,.sh (.at (.int kd)),.no,.no,.no,.no,.no,.no,.no,.no,.sh (.at (.int od))] _ _;refine ZE (v:=decide (od<3)) (u9 (v6 rfl rfl rfl)) (λh3=>?_) λh3=>?_
  ·have h3':=yf h3;have ix:∃ v,v8 (.lst [.at (.bl true),.at .non,.at (.str "9")]) (.at (.int od))=some v/\NW v:=by
    have c3:od=0∨od=1∨od=2:=by omega
    rcases c3 with e|e|e<;>subst e
    ·exact ⟨_,rfl,Nj _⟩
    ·exact ⟨_,rfl,Nl⟩
    ·exact ⟨_,rfl,Nm _⟩
   obtain ⟨v,ev,hv⟩:=ix;exact ⟨zN "wait" v,xD (j5 rfl (j5 (v6 (xC rfl l3) rfl ev) rfl)) l2,tell (.inr (.inr (.inr (.inr (.inl ⟨v,rfl,.inr hv⟩))))) ⟨_,rfl⟩⟩
  ·have m0:0<=od % 3:=yr _ (by decide);have m1:od % 3<3:=yv _ (by decide);have ix:∃ k:Int,v8 (.lst [.at (.int 3),.at (.int 3),.at (.int sc)]) (.at (.int (od % 3)))=some (.at (.int k))/\3<=k/\k<=S26+3:=by
    have c3:od % 3=0∨od % 3=1∨od % 3=2:=by omega
    rcases c3 with e|e|e<;>rw [e]
    ·exact ⟨3,rfl,by decide,by omega⟩
    ·exact ⟨3,rfl,by decide,by omega⟩
    ·exact ⟨sc,rfl,by omega,by omega⟩
   obtain ⟨k,ek,k3,k26⟩:=ix;have eix:∀ s0:MSlot,z9 v8 (m8 (q0 (dC (.int 3)) (q0 (dC (.int 3)) (q0 (z9 v8 (z5 1) (dC (.int 3))) x8)))) (z9 pMod (z5 17) (dC (.int 3))) [s0,.sh (d.hp sc ns),.sh st,.sh (.dk ks vs),.sh l,.sh (.at (.int t)),.sh r1,.sh r2,.sh (.at (.int kd)),.no,.no,.no,.no,.no,.no,.no,.no,.sh (.at (.int od))]=some (.at (.int k)):=λ_=>v6 (xC (j5 rfl (j5 rfl (j5 (v6 (x:=d.hp sc ns) rfl rfl rfl) rfl))) l3) (v6 rfl rfl rfl) ek;refine ⟨_,rfl,_,rfl,⟨n2,rfl⟩,_,eix _,n2,k,rfl,rfl,jS (by omega) (by omega),_,rfl,_,j4 (j5 (v6 rfl rfl (Je _ _)) rfl) rfl,_,rfl,l2,tell (.inr (.inr (.inr (.inr (.inl ⟨_,rfl,.inl ⟨_,rfl⟩⟩))))) ⟨_,rfl⟩⟩
 ·exact ⟨ZU,xD rfl l1,tell (.inr (.inr (.inr (.inr (.inr rfl))))) ⟨_,rfl⟩⟩
theorem NX (F:Fun K "_law_deed" "_law_deed" WW f fd)(Q3:Fn P w K mg base 2 "_law_cloth" ["stream","house","time"] (spD Zj ZK))(Aw:Fn P w K mg base 1 "_law_take" ["stream","many"] Xf)(Q2:mg "int"=none)(Ax:mg "len"=none)(Es:mg "sorted"=none):FnOk P w K mg base v5 3 f fd ["stream","house","state"] (spD Zk wV) :=
 okD (k:=2) (b:=UF K) F sc_deed MU (λcdv A outer s H E hr=>⟨_,(j0 (JN (pv 2) (wC (K:=K) (n:=5) rfl rfl (qE (gW 3 sc_deed.nd) (qE (gW 4 sc_deed.nd) (qE (gW 5 sc_deed.nd) (qE (gW 6 sc_deed.nd) (qE (gW 7 sc_deed.nd) wD)))))))
  (j0 (sW 8 sc_deed.nd (fW Aw hr (aC (pv 0) (aW z8))))
  (j0 (c9 (i5 (QR) (pv 8) z8 (c5 _)) (j0 (sW 9 sc_deed.nd (fW Q3 hr (aC (pv 0) (aC (pv 1) (aW (pv 5))))))
  (j0 (sW 10 sc_deed.nd (fW Aw hr (aC (pv 0) (aW z8))))
  (j0 (c9 (i5 (QR) (pv 10) z8 (c5 _)) (j0 (JN (pv 9) (wC (K:=K) (n:=5) rfl rfl (qE (gW 11 sc_deed.nd) (qE (gW 12 sc_deed.nd) (qE (gW 13 sc_deed.nd) (qE (gW 14 sc_deed.nd) (qE (gW 15 sc_deed.nd) wD)))))))
  (j0 (sW 16 sc_deed.nd (v7 (zZ) (i8 (zL (K:=K) rfl) rfl Ax PySem.boot_len (aW (iW (K:=K) rfl (pv 1) z8))) z8))
  (j6 (sW 9 sc_deed.nd (iW (K:=K) rfl (@qg _ _ _ _ (aC (@qJ _ _ _ _ _ (aC (pv 11) (aC (pv 16) (aC (pv 13) (aC (pv 14) (aW (pv 15))))))) (aC (@qJ _ _ _ _ _ (aC (pv 11) (aC (pv 12) (aC z8 (aC (pv 14) (aW (pv 15))))))) (aC (@qJ _ _ _ _ _ (aC (pv 11) (aC (pv 12) (aC (pv 13) (aW (pv 14)))))) (aW (@qJ _ _ _ _ _ (aC (v7 (xt (K:=K) rfl) (pv 11) xl) (aC (pv 12) (aC (pv 13) (aC (pv 14) (aW (pv 15)))))))))))) (pv 10)))))) m4)
  (j6 (w6 (@qJ _ _ _ _ _ (aC xl (aC (pv 9) (aW (QX (QQ) (pv 10) z8 (c5 _))))))))))) m4)
  (j0 (c9 (i5 (QR) (pv 8) z8 (c5 _)) (j0 (sW 11 sc_deed.nd (iW (K:=K) rfl (v7 (xt (K:=K) rfl) (iW (K:=K) rfl (pv 1) z8) (@qg _ _ _ _ (aC xl (aW xl)))) (fW Aw hr (aC (pv 0) (aW z8)))))
  (j0 (c9 (PW.pt (Wh (i5 (HV (hu6 hr)) (pv 3) Wb (c5 _)) (Wi (i5 (Bc) (fW Aw hr (aC (pv 0) (aW z8))) z8 (c5 _))))) (j6 (sW 11 sc_deed.nd (iW (K:=K) rfl (i8 (Dw rfl) rfl Es Gq (aW (Rk (pv 3)))) (fW Aw hr (aC (pv 0) (aW (i8 (zL (K:=K) rfl) rfl Ax PySem.boot_len (aW (pv 3))))))))) m4)
  (j6 (w6 (@qJ _ _ _ _ _ (aC (iW (K:=K) rfl (@qg _ _ _ _ (aC xl (aC xl (aW xl)))) (v7 (zZ) (pv 8) z8)) (aW (pv 11)))))))) m4)
  (j0 (c9 (i5 (vg (K:=K) (hu6 hr) rfl) (pv 8) z8 (c5 _)) (j0 (sW 17 sc_deed.nd (fW Aw hr (aC (pv 0) (aW z8))))
  (j0 (c9 (i5 (QR) (pv 17) z8 (c5 _)) (j6 (w6 (@qJ _ _ _ _ _ (aC xl (aW (iW (K:=K) rfl (@qg _ _ _ _ (aC zh (aC vi (aW xl)))) (pv 17))))))) m4)
  (j6 (w6 (@qJ _ _ _ _ _ (aC xl (aW (v7 (zZ) (v7 (xt (K:=K) rfl) (pv 5) (fW Aw hr (aC (pv 0) (aW (iW (K:=K) rfl (@qg _ _ _ _ (aC z8 (aC z8 (aW (iW (K:=K) rfl (pv 1) z8))))) (v7 (zX) (pv 17) z8)))))) (ja Dg rfl Q2 Gp (aW (QX (vg (K:=K) (hu6 hr) rfl) (pv 17) z8 (c5 _)))))))))))) m4)
  (j6 (w6 (@qJ _ _ _ _ _ (aW xl))))))))),
  (by repeat' first|infer_instance|(refine @Mi.instSemWSTSeqWSeq _ _ _ _ ?_ ?_)|(apply @Mi.instSemWSTForWForOfSemWIOfSemWG))⟩) MY
def Zu (CH C:Addr):Sp:=λvs H Q _=>∃(d:Dr)(Hs HR:Hp)(x dx:Addr)(v1:V),d.Ok/\d.cls=[]/\vs=[.ref x,v1,.int d.last,.int d.time]/\Same Hs H/\H x=some (.ins CH dx [])/\Hs x=none/\Same HR H/\(∀ b,HR b≠none->Hs b=none/\b≠x)/\Rep HR (y7 d.rss) v1 /\
 ∀ Hs' H' l,H l=none->Same Hs Hs'->(∀ b o,H b=some o->b≠x->H' b=some o)->(∀ b,H b≠none->b≠x->Hs b=none->Hs' b=none)->Pkt CH Hs' H' ⟨x,l,dx,qA C ⟨d,[],none⟩,[]⟩->Q .non H'
theorem MK (h:Zu CH C vs H Q E):vs.length=(["self","rinses","last","time"]:List Str).length:=by obtain ⟨d,Hs,HR,x,dx,v1,_,_,rfl,_⟩:=h;rfl
abbrev wJ:Stmt:=qB (top 50) 0
theorem Tt:v4 ["self","rinses","last","time"] ["self","rinses","last","time"] (j3 wJ):=y3
theorem Nv (F:FunD K "__init__" "House.__init__" wJ f fd)(B4:mg "Works"=some (.ref Aa))[k8 K Ab][w9 K Ab "now"][w9 K Ab "past"](A8:jM P w K mg base 5 Aa ["self","rinses","cloths","last","time"] (je (zz Aa (xO Aa) (jk Ae Ac Af Ad Ag Aa)) (vp Aa))):FnOk P w K mg base (y9 P w) 7 f fd ["self","rinses","last","time"] (Zu Ab Aa):=by
 refine F.ok2 (k:=6) Tt (λvs H Q E h=>MK h) (λcdv A outer s H vs Q E hr h=>⟨_,(j0 (zj (K:=K) rfl (pv 0) (@qJ _ _ _ _ _ (aC (QY A8 hr (by decide) qw rfl B4 (aC (pv 1) (aC (@qg _ _ _ _ y2) (aC (pv 2) (aW (pv 3)))))) (aC (@qg _ _ _ _ y2) (aW vi)))))
  (j6 (zj (K:=K) rfl (pv 0) (@qg _ _ _ _ y2)))),?_⟩)
 obtain ⟨d,Hs,HR,x,dx,v1,ok,hc,rfl,sm,hx,hs,r1,r2,rv,q⟩:=h;have rd0:=Wm (N:=["self","rinses","last","time"]) (a:=x) (y:= .ob Ab [] []) (xs:=[.op λ_ v=>v=v1,.at (.int d.last),.at (.int d.time)]) (ws:=[v1,.int d.last,.int d.time]) sm hs ⟨dx,[],hx,rfl,.nil⟩ (.cons (rep_op.mpr ⟨Hs,.refl _,rfl⟩) (.cons (rep_at.mpr rfl) (.cons (rep_at.mpr rfl) .nil)));refine ⟨v1,rfl,(by show 0<=sizeLine;decide),λp hp=>⟨_,rfl,_,rfl,λy dy hy hdy hne=> .inr ?_⟩⟩;have hp1:z7 H p (.lst []) p=some (.lst []):=j9;have s1:∀ b u,H b=some u->z7 H p (.lst []) b=some u:=λb u e=>by rw [z6 (y0 e hp)];exact e
 generalize z7 H p (.lst [])=H1 at hy hdy hp1 s1;have keep:∀ b u,H1 b=some u->z7 (z7 H1 dy (.own y)) y (.ins Aa dy []) b=some u:=λb u e=>by rw [z6 (y0 e hy),z6 (y0 e hdy)];exact e
 have hHy:H y=none:=by
  cases e:H y with
  |none=>rfl
  |some u=>rw [s1 y u e] at hy;cases hy
 have hHd:H dy=none:=by
  cases e:H dy with
  |none=>rfl
  |some u=>rw [s1 dy u e] at hdy;cases hdy
 have hpy:p≠y:=λz=>by rw [z,hy] at hp1;cases hp1
 have hpd:p≠dy:=λz=>by rw [z,hdy] at hp1;cases hp1
 have hRp:HR p=none:=by
  cases e:HR p with
  |none=>rfl
  |some u=>rw [r1 p u e] at hp;cases hp
 have sR:Same HR (z7 HR p (.lst [])):=λb u e=>by rw [z6 (y0 e hRp)];exact e
 refine ⟨d,Hs,z7 HR p (.lst []),y,dy,v1,p,ok,rfl,λb u e=>keep b u (s1 b u (sm b u e)),j9,sm.free hHy,λb u e=>?_,λb hb=>?_,rv.mono sR,by rw [j9];exact (λz=>nomatch z),⟨[],keep _ _ hp1,by rw [hc];exact .nil⟩,λHs' H' g1 g2 g3 g4 rob=>⟨rfl,?_⟩⟩
 ·by_cases z:b=p
  ·rw [z,j9] at e;rw [z,<- e];exact keep _ _ hp1
  ·rw [z6 z] at e;exact keep b u (s1 b u (r1 b u e))
 ·by_cases z:b=p
  ·rw [z];exact ⟨sm.free hp,hpy⟩
  ·rw [z6 z] at hb;refine ⟨(r2 b hb).1,λw=>?_⟩;cases e:HR b with
   |none=>exact hb e
   |some u=>rw [w] at e;rw [r1 y u e] at hHy;cases hHy
 have x5:Ext Hs H Hs' H':=by
  refine ⟨g1,λb u e=>g2 b u (keep b u (s1 b u e)) (y0 e hHy),g3,λb hb z=>?_⟩;have hbx:b≠y:=λq=>hb (by rw [q];exact hHy);have hbd:b≠dy:=λq=>hb (by rw [q];exact hHd);refine g4 b ?_ hbx z;rw [z6 hbx,z6 hbd];cases e:H b with
  |none=>exact absurd e hb
  |some u=>rw [s1 b u e];exact λz=>nomatch z
 have rd5:=rd0.go x5;refine ⟨(by show 0<=sizeLine;decide),λp2 hp2=>⟨(by show 3<=sizeLine;decide),λp3 hp3=>?_⟩⟩;have x6:Ext Hs' H' (z7 Hs' p2 (.lst [])) (z7 H' p2 (.lst [])):= .new g3 hp2;have x7:Ext _ _ (z7 (z7 Hs' p2 (.lst [])) p3 (.tup [.ref y,.ref p2,.non])) (z7 (z7 H' p2 (.lst [])) p3 (.tup [.ref y,.ref p2,.non])):= .new x6.s3 hp3;have rt:Rep (z7 (z7 Hs' p2 (.lst [])) p3 (.tup [.ref y,.ref p2,.non])) (.tup [d.ob Aa,.lst [],.at .non]) (.ref p3) :=
  rep_tup.mpr ⟨p3,_,rfl,j9,.cons ((rob.mono x6.s1).mono x7.s1) (.cons (rep_lst.mpr ⟨p2,[],rfl,x7.s1 _ _ j9,.nil⟩) (.one (rep_at.mpr rfl)))⟩
 have rd7:=(rd5.go x6).go x7;have hx7:z7 (z7 H' p2 (.lst [])) p3 (.tup [.ref y,.ref p2,.non]) x=some (.ins Ab dx []):=by have h5:=g2 x _ (keep x _ (s1 x _ hx)) (λz=>by rw [<- z,hx] at hHy;cases hHy);exact x7.s2 _ _ (x6.s2 _ _ h5)
 have hsx:z7 (z7 Hs' p2 (.lst [])) p3 (.tup [.ref y,.ref p2,.non]) x=none:=x7.s4 x (by rw [z6 (λz=>by rw [<- z] at hp2;exact absurd hp2 (by rw [g2 x _ (keep x _ (s1 x _ hx)) (λz=>by rw [<- z,hx] at hHy;cases hHy)];exact λz=>nomatch z))];rw [g2 x _ (keep x _ (s1 x _ hx)) (λz=>by rw [<- z,hx] at hHy;cases hHy)];exact λz=>nomatch z) (x6.s4 x (by rw [g2 x _ (keep x _ (s1 x _ hx)) (λz=>by rw [<- z,hx] at hHy;cases hHy)];exact λz=>nomatch z) (x5.s4 x (by rw [hx];exact λz=>nomatch z) hs));generalize z7 (z7 H' p2 (.lst [])) p3 (.tup [.ref y,.ref p2,.non])=H7 at *
 generalize z7 (z7 Hs' p2 (.lst [])) p3 (.tup [.ref y,.ref p2,.non])=Hs7 at *
 refine ⟨_,rfl,x,Ab,dx,[],rfl,hx7,(inferInstance:k8 K Ab).c,(inferInstance:w9 K Ab "now").n,(by show 0<1000;decide),?_⟩;show jE K (b9 0) (tLst qF) "past" _ _ _;refine ⟨(by show 0<=sizeLine;decide),λl hl=>?_⟩;have hlx:x≠l:=λz=>by rw [<- z,j9] at hl;cases hl
 have hl7:H7 l=none:=by rw [z6 (Ne.symm hlx)] at hl;exact hl
 refine ⟨_,rfl,x,Ab,dx,[(("now":Str),.ref p3)],rfl,by rw [z6 hlx,j9];rfl,(inferInstance:k8 K Ab).c,(inferInstance:w9 K Ab "past").n,(by show 1<1000;decide),?_⟩;have hHl:H l=none:=by
  cases e:H l with
  |none=>rfl
  |some u=>rw [rd7.s2 l u e (λz=>hlx (yM.mp z).symm)] at hl7;cases hl7
 have sm9:∀ (b:Addr) (o:HO),H7 b=some o->b≠x->z7 (z7 (z7 H7 x (.ins Ab dx [(("now":Str),.ref p3)])) l (.lst [])) x (.ins Ab dx [(("now":Str),.ref p3),(("past":Str),.ref l)]) b=some o:=λb o e hb=>by
  rw [z6 hb,z6 (y0 e hl7),z6 hb];exact e
 refine q Hs7 _ l hHl rd7.s1 (λb o e hb=>sm9 b o (rd7.s2 b o e λz=>hb (yM.mp z)) hb) (λb hb hbx z=>rd7.s4 b hb z) ⟨λb o e=>sm9 b o (rd7.s3 b o e) (λz=>by rw [z,hsx] at e;cases e),hlx,hsx,rd7.s3.free hl7,.ref p3,[],j9,?_,rt,.nil⟩;show z7 (z7 _ l _) x _ l=_;rw [z6 (Ne.symm hlx),j9]
abbrev Yr:Stmt:=top 63
abbrev Ga (Aa:Addr):MS:=(y4 (qk 1 (u6 Aa "names" (zH Aa) (x0 0) x8))
  (y8 (ql (q0 (x0 1) (q0 (t6 [none,some 0] [0] (t9 (x0 1)) (w5 0) c7 (u6 Aa "cloth" (xE Aa) (x0 1) (q0 (x0 0) x8))) (q0 (u6 Aa "start" (xP Aa) (x0 0) x8) (q0 (u6 Aa "rinses" (jx Aa) (x0 0) x8) x8)))))))
def vO (Aa:Addr):List PV->Option PV:=u8 2 1 (Ga Aa)
theorem sc_seen:v4 ["made","names"] ["made"] (j3 Yr):=y3
theorem HC (F:Fun K "_law_seen" "_law_seen" Yr f fd)(Am:My P w K mg base 1 Aa "cloth" ["self","name"] (m7 (xE Aa) (jj Ah Aa)))(Ar:Mt P w K mg base 1 Aa "names" ["self"] (spO (zH Aa)))(Av:Mt P w K mg base 1 Aa "rinses" ["self"] (spZ (jx Aa)))(An:Mt P w K mg base 1 Aa "start" ["self"] (w4 (xP Aa))):FnOk P w K mg base v5 2 f fd ["made"] (w4 (vO Aa)) :=
 qZ (k:=1) (b:=(Ga Aa)) F sc_seen rfl λcdv A outer s H E hr=>⟨_,(j0 (sW 1 sc_seen.nd (c6 Ar hr (by decide) (pv 0)))
  (j6 (w6 (@qJ _ _ _ _ _ (aC (pv 1) (aC (xG (N':=["name","made"]) (cap:=[none,some 0]) (qz rfl rfl rfl) rfl (@xc _ K _ _ _ rfl (pv 1)) (λ_ _ _ _ _ _=>(r9 (i:=0) (by show (["name","made"]:List Str).Nodup;decide +kernel) rfl (Or.inl rfl))) (λ_ _ _ _ _ _=>qK) (λ_ _ _ _ _ _=>(xR Am hr (by decide) QV (pv 1) (aW (pv 0))))) (aC (c6 An hr (by decide) (pv 0)) (aW (c6 Av hr (by decide) (pv 0)))))))))),
  inferInstance⟩
theorem PM (ok:d.Ok):∃ y,vO C [d.ob C]=some y/\vj 6 y/\v8 y (.at (.int 3))=some (y7 d.rss):=by
 have hlim:lim=1000000:=rfl;obtain ⟨cs,ec,hcs⟩:=YA d;have okw:=JD ok ec hcs (uy d.time);have l10:cs.length<=10:=okw.ten;refine ⟨.tup [.lst (k7 (xJ d.names)),.lst (cs.map Cl.pv),.tup [.at (.int d.last),.at (.int d.time)],y7 d.rss],?_,?_,rfl⟩
 ·refine i7 rfl (u7 (xN (qt rfl (by decide) rfl (JZ ok))) (k9 (xD (j5 rfl (j5 (xp (λc:Cl=>PV.at (.str c.name)) Cl.pv cs ?_ rfl (by omega) λc hc=>⟨_,rfl,qt rfl (by decide) rfl (Xi ok (hcs c hc))⟩) (j5 (qt rfl (by decide) rfl Xk) (j5 (qt rfl (by decide) rfl (YK ok)) rfl)))) l4)));show some (k7 (xJ d.names))=_;rw [<- ec];unfold k7;rw [yq];rfl
 ·intro x hx;simp only [yD,yJ,or_false] at hx;rcases hx with rfl|rfl|rfl|rfl
  ·intro z hz;obtain ⟨s,_,rfl⟩:=yw.mp hz;rfl
  ·intro z hz;obtain ⟨c,_,rfl⟩:=yw.mp hz;intro w hw;have h:w = .at (.str c.name)∨w = .at (.int (c.hue:Int))∨w = .at (.int c.len)∨w = .at (.int c.due)∨w = .at (.int c.wt):=by simpa using hw
   rcases h with rfl|rfl|rfl|rfl|rfl<;>rfl
  ·intro z hz;have h:z = .at (.int d.last)∨z = .at (.int d.time):=by simpa using hz
   rcases h with rfl|rfl<;>rfl
  ·intro z hz;obtain ⟨r,_,rfl⟩:=yw.mp hz;intro w hw;obtain ⟨n,_,rfl⟩:=yw.mp hw;rfl
structure SOk (rss:List (List Int))(h j:Nat)(s:Hst):Prop where
 ok:s.d.Ok
 rin:s.d.rss=rss
 hu:s.d.h=h
 rows:s.rows.length<=j
theorem SOk.up {i:Nat}{s:Hst}(o:SOk rss h i s)(hij:i<=j):SOk rss h j s:=⟨o.ok,o.rin,o.hu,ye o.rows hij⟩
structure jn (C:Addr)(rss:List (List Int))(h j:Nat)(n:PV)(ps:List PV):Prop where
 len:ps.length<=j
 now:∃ s,n=qA C s/\SOk rss h j s
 old:∀ p∈ps,∃ s,p=qA C s/\SOk rss h j s
theorem DK {CR:Addr}{n:PV}{ps:List PV}(I:jn C rss h j n ps)(hj:j<=900)(hy:Deed h y):∃ b n' ps',vD CC CN CR CS CNT CND CM CT C n ps [y] b n' ps'/\jn C rss h (j+1) n' ps':=by
 obtain ⟨s,en,so⟩:=I.now;have ok:=so.ok;have ten:=ok.ten;have l1000:ps.length<=1000:=by have:=I.len;omega
 have stay:jn C rss h (j+1) n ps:=⟨Nat.le_succ_of_le I.len,⟨s,en,so.up (uM _)⟩,λp hp=>by
  obtain ⟨s,e,o⟩:=I.old p hp;exact ⟨s,e,o.up (uM _)⟩⟩
 have go:∀ s':Hst,SOk rss h (j+1) s'->jn C rss h (j+1) (qA C s') (ps++[n]):=λs' o'=>⟨by rw [yL];exact Nat.succ_le_succ I.len,⟨s',rfl,o'⟩,λp hp=>by
  rcases yy.mp hp with hp|hp
  ·exact stay.old p hp
  ·rw [yM.mp hp];exact stay.now⟩
 have no:∀(c:Addr)(v:XV),Qg CC CN CR CS CNT CND CM CT C n ps [y] c v->c∈[CC,CN,CNT,CND,CM,CT]->∃ b n' ps',vD CC CN CR CS CNT CND CM CT C n ps [y] b n' ps'/\jn C rss h (j+1) n' ps':=λc v hx hc=>⟨_,n,ps,.inr ⟨c,v,hx,hc,rfl,rfl,rfl⟩,stay⟩;have yes:∀(s':Hst),SOk rss h (j+1) s'->wZ C n ps [y] (.at .non) (qA C s') (ps++[n])->∃ b n' ps',vD CC CN CR CS CNT CND CM CT C n ps [y] b n' ps'/\jn C rss h (j+1) n' ps':=λs' o' ht=>⟨_,_,_,.inl ⟨_,ht,rfl⟩,go s' o'⟩;rcases hy with ⟨c,hc,rfl⟩|⟨t,ht,rfl⟩|⟨x,rfl⟩|⟨x,rfl⟩|⟨v,rfl,hv⟩|rfl
 ·rw [<- so.hu] at hc;by_cases h10:s.d.cls.length=10
  ·exact no CM none (.inl ⟨_,_,rfl,s,_,en,rfl,JP ok (Cr (by rw [yL,yZ,h10];show 10<10+1;decide))⟩) (by simp)
  ·by_cases hn:c.name∈s.d.cls.map Cl.name
   ·exact no CT (some ("name",.str c.name)) (.inl ⟨_,_,rfl,s,_,en,rfl,JP ok (Cq (B:=[]) ok.cl ok.nd (by show s.d.cls.length+1+0<=10;omega) (.inr ⟨c,rfl,hc,hn,rfl,rfl⟩))⟩) (by simp)
   ·have okw:=Hy ok (by omega) hc hn;exact yes ⟨s.d.with (s.d.cls++[c]),s.rows,s.w⟩ ⟨okw,so.rin,so.hu,Nat.le_succ_of_le so.rows⟩ (.inl ⟨_,_,rfl,s,c,ok,okw,en,rfl,rfl,rfl,rfl,l1000⟩)
 ·rw [<- so.hu] at ht;by_cases h10:s.d.cls.length=10
  ·exact no CM none (.inl ⟨_,_,rfl,s,_,en,rfl,JP ok (Cr (by rw [yL,yZ,h10];show 10<10+1;decide))⟩) (by simp)
  ·exact no CC none (.inl ⟨_,_,rfl,s,_,en,rfl,JP ok (Cq (B:=[]) ok.cl ok.nd (by show s.d.cls.length+1+0<=10;omega) (.inl ⟨ht,rfl,rfl⟩))⟩) (by simp)
 ·by_cases hn:x∈s.d.names
  ·obtain ⟨c,hc,rfl⟩:=yw.mp hn;exact yes (s.worked c) ⟨KY ok (KM hc),so.rin,so.hu,by show (s.rows++s.d.go s.d.last s.d.time [c]).length<=j+1;rw [yL];exact Nat.succ_le_succ so.rows⟩ (.inr (.inr (.inl ⟨_,rfl,s,c,ok,hc,by have:=so.rows;omega,en,rfl,rfl,rfl,rfl,l1000⟩)))
  ·exact no CN none (.inr (.inr (.inl ⟨_,rfl,s,x,en,rfl,hn,rfl,rfl⟩))) (by simp)
 ·by_cases hn:x∈s.d.names
  ·obtain ⟨c,hc,rfl⟩:=yw.mp hn;exact yes ⟨s.d.with (Ql s.d.cls [c]),s.rows,s.w⟩ ⟨KZ ok [c],so.rin,so.hu,Nat.le_succ_of_le so.rows⟩ (.inr (.inl ⟨_,rfl,s,c,ok,hc,en,rfl,rfl,rfl,rfl,l1000⟩))
  ·exact no CN none (.inr (.inl ⟨_,rfl,s,x,en,rfl,hn,rfl,rfl⟩)) (by simp)
 ·have bad:qu [v,.at (.int s.d.time)]=some (.at (.bl false))->_:=λhb=>no CNT none (.inr (.inr (.inr (.inl ⟨_,rfl,s,v,en,rfl,hb,rfl,rfl⟩)))) (by simp);rcases hv with ⟨m,rfl⟩|hv
  ·by_cases hm:s.d.time<=m
   ·obtain ⟨cs,ec,hcs⟩:=YA s.d;exact yes ⟨⟨s.d.h,s.d.rss,cs,s.d.last,m⟩,s.rows,s.w⟩ ⟨JD ok ec hcs hm,so.rin,so.hu,Nat.le_succ_of_le so.rows⟩ (.inr (.inr (.inr (.inl ⟨_,rfl,s,m,cs,ok,hm,ec,hcs,en,rfl,rfl,rfl,rfl,l1000⟩))))
   ·exact bad (Kf (by omega))
  ·exact bad (Mh hv _)
 ·rcases List.eq_nil_or_concat ps with e|⟨qs,p,e⟩
  ·exact no CND none (.inr (.inr (.inr (.inr ⟨rfl,rfl,e,rfl,rfl⟩)))) (by simp)
  ·have e':ps=qs++[p]:=by simpa using e
   refine ⟨_,p,qs,.inl ⟨_,.inr (.inr (.inr (.inr ⟨rfl,rfl,rfl,e'⟩))),rfl⟩,?_,stay.old p (by rw [e'];simp),λp' hp'=>stay.old p' (by rw [e'];exact yc _ hp')⟩;have:=I.len;rw [e',yL] at this;show qs.length<=j+1;have:qs.length+1<=j:=this;omega
def PZ (CH C:Addr)(h w:Nat)(f1:M)(as:MA)(c1:MB)(r:i6):WS:=λε _ R=>∃ d:Dr,d.Ok/\d.cls=[]/\(∀(i:Nat)(y:PV),ε[i]?≠some (.ow y))/\f1 ε=some (y7 d.rss)/\(∀ a:Addr,as (ε.set h (.sh (.at (.ref a))))=some [.at (.int d.last),.at (.int d.time)])/\h<ε.length/\h≠w /\
 ∀ a x l dx:Addr,c1 (((ε.set h (.sh (.at (.ref a)))).set w (.sh (.at (.ref x)))).set h (.sh (y7 d.rss)))=some false/\r ⟨x,l,dx,qA C ⟨d,[],none⟩,[]⟩ ((ε.set h (.sh (.at (.ref a)))).set w (.sh (.at (.ref x)))) (λ_ _=>False) λy k' ε'=>k'.x=x/\k'.l=l/\R y ε'
theorem Be {i:Nat}{x:PV}(q:(ε.set i (.sh x))[j]?=some (.ow y)):i≠j/\ε[j]?=some (.ow y):=by
 rcases zR j _ q with ⟨_,e⟩|h
 ·cases e
 ·exact h
theorem Bg (H:Hp)(l:List Addr):∃ HR:Hp,(∀ b∈l,HR b=H b)/\∀ b,HR b≠none->b∈l:=by
 open Classical in
 exact ⟨λb=>if b∈l then H b else none,λb hb=>if_pos hb,λb hb=>Classical.byContradiction λz=>hb (if_neg z)⟩
instance semOpen {K:Fg}{w:Nat}{te1:TE}{ta:TA}{tr u:TS}{tt1:TT}{f1:M}{as:MA}{c1:MB}{r:i6}{v9:V}[sz:SemZE te1 f1][sa:o6 ta as][sc1:qO tt1 c1][sr:xx CH u r]:SemWS (tSeq (xS te1 (qS (h+1))) (tSeq (xS (wL CH (Zu CH C) [] E (o5 (b9 (h+1)) ta)) (qS (w+1))) (tSeq (vT tt1 tr Zw) (tSeq (xi (tBM K "list" Xd (tOp (rIx K) (b9 (h+1)) (tC (.int 0))) (o5 (tC v9) qF))) (tSeq (xi (tBM0 K "list" rPop (b9 (h+1)))) u))))) (PZ CH C (h+1) (w+1) f1 as c1 r) where
 h:=λ{ε N R} hh S Hs0 H0 Hs H U rd D k rt=>by
  obtain ⟨d,ok,hcl,hno,e1,eas,hl,hw,hr⟩:=hh;have hlim:lim=1000000:=rfl;have e1':f1 ε=some (.lst ((d.rss.map (List.map V.int)).map λl=> .lst (l.map .at))):=by rw [e1,wH]
  have hS:S=[]:=by
   cases S with
   |nil=>rfl
   |cons a S=>obtain ⟨y,hy⟩:=rd.str a yU;exact absurd hy (hno 0 y)
  subst hS;refine sz.h e1' rd.rs λa1 ps Hs1 H1 x1 d1 ez=>?_;have rd1:=(rd.go x1).put (i:=h) (x:= .at (.ref a1)) (v:= .ref a1) (rep_at.mpr rfl);have hσ1:(U.set (h+1) (some (V.ref a1)))[h+1]?=some (some (.ref a1)):=uz (by rw [rd.len];exact hl);refine ⟨_,hσ1,sa.h (eas a1) rd1.rs λvs Hs4 H4 x4 r4=>?_⟩;have evs:vs=[.int d.last,.int d.time]:=Reps.ats (us:=[.int d.last,.int d.time]) r4;subst evs;intro x dx hx hdx hne;have d4:Deep H Hs4 H4 a1 ps:=d1.go x4;have keep:∀ b u,H4 b=some u->z7 (z7 H4 dx (.own x)) x (.ins CH dx []) b=some u:=λb u e=>by rw [z6 (y0 e hx),z6 (y0 e hdx)];exact e
  obtain ⟨HR,hin,hout⟩:=Bg H4 (a1::ps.map (·.1));have repR:Rep HR (y7 d.rss) (.ref a1):=by rw [wH];exact d4.repIn hin ez
  refine ⟨d,Hs4,HR,x,dx,.ref a1,ok,hcl,rfl,λb u e=>keep b u (x4.s3 _ _ e),j9,x4.s3.free hx,λb u e=>?_,λb hb=>⟨(d4.new b (hout b hb)).2,λz=>d4.live b (hout b hb) (by rw [z];exact hx)⟩,repR,λHs' H' l hl0 g1 g2 g4 pk=>⟨rfl,?_⟩⟩
  ·have hb:=hout b (by rw [e];exact Option.some_ne_none _);rw [hin b hb] at e;exact keep b u e
  have x5:Ext Hs4 H4 Hs' H':=by refine ⟨g1,λb u e=>g2 b u (keep b u e) (y0 e hx),pk.sm,λb hb z=>?_⟩;have hbx:b≠x:=λq=>hb (by rw [q];exact hx);have hbd:b≠dx:=λq=>hb (by rw [q];exact hdx);exact g4 b (by rw [z6 hbx,z6 hbd];exact hb) hbx z
  have hl4:H4 l=none:=by
   cases e:H4 l with
   |none=>rfl
   |some u=>rw [keep l u e] at hl0;cases hl0
  have d5:Deep H Hs' H' a1 ps:=d4.go x5;have rd5:=((rd1.go x4).go x5).put (i:=w) (x:= .at (.ref x)) (v:= .ref x) (rep_at.mpr rfl);have hno5:∀(i:Nat)(y:PV),((ε.set (h+1) (.sh (.at (.ref a1)))).set (w+1) (.sh (.at (.ref x))))[i]?≠some (.ow y):=λi y hi=>hno i y (Be (Be hi).2).2;obtain ⟨hc1,hrest⟩:=hr a1 x l dx;have hvp:((U.set (h+1) (some (V.ref a1))).set (w+1) (some (V.ref x)))[h+1]?=some (some (.ref a1)):=by rw [yo (Ne.symm hw)];exact hσ1
  obtain ⟨HRE,hinE,houtE⟩:=Bg H' (a1::ps.map (·.1));have LE:LentA Hs' H' HRE ((U.set (h+1) (some (V.ref a1))).set (w+1) (some (V.ref x))) ((ε.set (h+1) (.sh (.at (.ref a1)))).set (w+1) (.sh (.at (.ref x)))):=by refine ⟨λb u e=>?_,λb hb=>(d5.new b (houtE b hb)).2,λi y a hi=>absurd hi (hno5 i y)⟩;rw [<- hinE b (houtE b (by rw [e];exact Option.some_ne_none _))];exact e
  have repE:Rep (qy Hs' HRE) (y7 d.rss) (.ref a1):=by rw [wH];exact (d5.repIn hinE ez).mono Lent.s3
  refine sc1.h hc1 (LE.test rd5 hvp repE) λHs6 H6 x6=>qf ?_;have x7:Ext Hs' H' Hs' H6:=⟨.refl _,x6.s2,pk.sm.trans x6.s2,λ_ _ z=>z⟩;have rd7:=rd5.go x7;have pk7:=pk.go x7;have d7:=d5.go x7;have junk:∀ b∈a1::ps.map (·.1),H0 b=none:=λb hb=>rd.free0 (d5.new b hb).1;have nx:∀ b∈a1::ps.map (·.1),b≠x/\b≠l:=λb hb=>⟨λz=>d4.live b hb (by rw [z];exact hx),λz=>d4.live b hb (by rw [z];exact hl4)⟩;have hx0:H0 x=none:=rd1.free0 (x4.s2.free hx);have hl00:H0 l=none:=rd1.free0 (x4.s2.free hl4);have sx0:Hs0 x=none:=by
   cases e:Hs0 x with
   |none=>rfl
   |some u=>have:=rd5.s1 _ _ e;rw [show Hs' x=none from pk.hx] at this;cases this
  have sl0:Hs0 l=none:=by
   cases e:Hs0 l with
   |none=>rfl
   |some u=>have:=rd5.s1 _ _ e;rw [show Hs' l=none from pk.hl] at this;cases this
  cases ps with
  |nil=>have:=congrArg List.length ez;rw [yZ,yZ,ok.rin.len] at this;cases this
  |cons q ps =>
   have mq:q.1∈a1::(q::ps).map (·.1):=yS _ yU;have ma:a1∈a1::(q::ps).map (·.1):=yU;have aq:a1≠q.1:=λz=>(ym.mp d1.nd).1 (z▸yU);obtain ⟨l0,el0,hl0'⟩:∃ l:List PV,q.2 = .lst l/\l.length<=lim:=by
    have mm:q.2∈(d.rss.map (List.map V.int)).map (λl=>PV.lst (l.map .at)):=by rw [ez];exact uY yU
    obtain ⟨l,hl',e⟩:=yw.mp mm;obtain ⟨rr,hr,rfl⟩:=yw.mp hl';refine ⟨_,e.symm,?_⟩;have:=(ok.rin.row rr hr).1;have:=ok.h4;rw [yZ,yZ];omega
   have tq:=d7.each q yU;rw [el0] at tq;obtain ⟨vs0,hv0,rv0⟩:=tq;have top7:=d7.top;refine ⟨_,hvp,.inl ⟨a1,_,0,.ref q.1,rfl,rfl,SqL.of top7,xz (j:=0) rfl,.inl ⟨rfl,vs0,SqL.of hv0⟩,q.1,vs0,v9,rfl,rfl,hv0,vL (by rw [rv0.length];exact hl0'),?_⟩⟩;have rd9:=rd7.junk (o:= .lst (vs0++[v9])) (junk q.1 mq) (d7.new q.1 mq).2 yJ (λi y hi=>absurd hi (hno5 i y));have pk9:=pk7.junk (o:= .lst (vs0++[v9])) (nx q.1 mq).1 (nx q.1 mq).2 (d7.new q.1 mq).2;have ha9:z7 H6 q.1 (.lst (vs0++[v9])) a1=some (.lst ((q::ps).map λp=>V.ref p.1)):=by rw [z6 aq];exact top7
   have hlast:∃ y,((q::ps).map λp=>V.ref p.1)[((q::ps).map λp=>V.ref p.1).length-1]?=some y:=⟨_,yz (by rw [yZ,yH];omega)⟩;obtain ⟨yl,hyl⟩:=hlast;refine ⟨_,hvp,.inl ⟨rfl,_,SqL.of ha9⟩,a1,_,yl,rfl,rfl,ha9,hyl,?_⟩;have rd10:=rd9.junk (o:= .lst ((q::ps).map λp=>V.ref p.1).dropLast) (junk a1 ma) (d7.new a1 ma).2 yJ (λi y hi=>absurd hi (hno5 i y));have pk10:=pk9.junk (o:= .lst ((q::ps).map λp=>V.ref p.1).dropLast) (nx a1 ma).1 (nx a1 ma).2 (d7.new a1 ma).2;have gs:Same Hs Hs':=x1.s1.trans (x4.s1.trans g1);refine sr.h hrest (RDH.open rd10 hno5 pk10 sx0 sl0) (λ_ _ _ _ _ z _ _=>z.elim) λy k' ε2 σ2 v Hs2 H2 h2 r2 g2 rv=>?_;exact rt y ε2 σ2 v Hs2 H2 h2.2.2 (r2.close (by rw [h2.1];exact hx0) (by rw [h2.2.1];exact hl00)) (gs.trans g2) rv
section
variable {k:Pk}{ε:ME}
theorem Vz {a:HM}(h:a k ε=some (.at (.bl v))):hT a k ε=some v:=by unfold hT;rw [h];rfl
theorem Ma {a b:HB}(h1:a k ε=some false)(h2:b k ε=some false):hOr a b k ε=some false:=by unfold hOr;rw [h1];exact h2
theorem Kl {c:HB}{a b:i6}(h:c k ε=some false)(q:b k ε N R):hIf c a b k ε N R:=⟨false,h,qf q⟩
end
theorem Bm (rss:List (List Int)):vj 6 (y7 rss):=λy hy=>by
 obtain ⟨r,_,rfl⟩:=yw.mp hy;intro z hz;obtain ⟨n,_,rfl⟩:=yw.mp hz;rfl
theorem RB (T:List (Cl×Int×Int)):vj 6 (.lst (T.map xh)):=λx hx=>by
 obtain ⟨t,_,rfl⟩:=yw.mp hx;intro y hy;have h:y = .at (.str t.1.name)∨y = .at (.int t.2.1)∨y = .at (.int t.2.2):=by simpa using hy
 rcases h with rfl|rfl|rfl<;>rfl
theorem GR:∀(xs:List PV)(n:Nat),(∀ x∈xs,∃ i:Int,x = .at (.int i))->∀ y∈ze n xs,∃ a b:Int,y = .tup [.at (.int a),.at (.int b)]
 |[],_,_,y,hy=>absurd hy yJ
 |x::xs,n,h,y,hy=>by
  rcases yD.mp hy with rfl|hy
  ·obtain ⟨i,rfl⟩:=h x yU;exact ⟨_,_,rfl⟩
  ·exact GR xs (n+1) (λx hx=>h x (yS _ hx)) y hy
theorem RO {done:List Cl}(h:c.name∉done.map Cl.name):jA (.inr c.name) c.pv (keysOf done) (done.map Cl.pv) = .dk (keysOf (done++[c])) ((done++[c]).map Cl.pv):=by unfold jA;rw [XN (α:=Unit) Cl.pv h];simp only [Option.isSome_none,uO,if_false];unfold keysOf;rw [yE,yE];rfl
abbrev wK:Stmt:=top 64
abbrev Jm (C:Addr):HM:=XG (vO C) (qm (hRd 3 "works" (qj 0) qI) qI)
abbrev lawB (K:Fg)(Ab Ae Ah Ac Af Ak Ai Ad Ag Aa:Addr):i6 :=
 c8 (XH 7 (hRd 3 "works" (qj 0) qI))
 (c8 (hL (YQ 4 (wP (ql (q0 (x0 7) (q0 (x9 (vO Aa) (q0 (x0 7) x8)) x8))))))
 (c8 (hL (PY (u6 Aa "rinses" (jx Aa) (x0 7) x8)))
 (c8 (hL (YT (u6 Aa "names" (zH Aa) (x0 7) x8)))
 (c8 (hL (YU 8 XA))
 (c8 (hL (wFor (wIp (t9 (u6 Aa "names" (zH Aa) (x0 7) x8))) (w5 9) (wPut 8 (x0 9) (u6 Aa "cloth" (xE Aa) (x0 7) (q0 (x0 9) x8)))))
 (c8 (hL (wFz 8 (i9 10 (wP (ql (q0 (x0 8) (q0 (z9 v8 (z5 1) (dC (.int 1))) (q0 (z9 v8 (u6 Aa "start" (xP Aa) (x0 7) x8) (dC (.int 1))) (q0 (m8 x8) (q0 (m8 x8) x8))))))))))
 (c8 (hDoF 3 (vD Ae Ah Ac Af Ak Ai Ad Ag Aa) (xU (PX JL vy (q0 (x0 6) (q0 (x0 5) x8)) Zk wV (q0 (x0 1) (q0 (x0 10) x8))) vu))
 (c8 (Kj 11 3 "done" zd qI)
 (c8 (hL (i9 12 (wP (x9 vh (q0 (z5 11) x8)))))
 (c8 (hL (YQ 11 (wP (dC .non))))
 (c8 (hL (wChg 11 λxs=>xs.reverse))
 (c8 (hIf (hOr (hT (vK pNe (hRd 3 "done" zd qI) (hE (x0 12)))) (hT (vK pNe (Jm Aa) (Jm Aa)))) (hL (xL (wP (dC (.bl false))))) (hL xu))
  (hIf (hT (vK pNe (vK v8 (Jm Aa) (hE (dC (.int 3)))) (hE (z9 v8 (z5 1) (dC (.int 0)))))) (hL (xL (wP (dC (.bl false))))) (hL xu))))))))))))))
abbrev lawR (K:Fg)(Ab Ae Ah Ac Af Ak Ai Ad Ag Aa:Addr):i6 :=
 c8 (hL (YU 4 (m8 x8)))
 (c8 (hFor (wEx λns=>ZV (q0 (ZZ K 0 (m8 (q0 (dC (.int 1)) (q0 (dC (.int 2)) x8))) ns) x8)) (zr 2 (i0 (w5 5) (i0 (w5 6) zp))) (lawB K Ab Ae Ah Ac Af Ak Ai Ad Ag Aa))
 (c8 (hL (wFz 4 (wFor (wIp (t9 (x0 4))) (zr 2 (i0 (w5 7) (i0 (w5 13) zp))) (zA (wPT (dT (z9 pNe (x9 (vO Aa) (q0 (x0 7) x8)) (z5 13)))) (xL (wP (dC (.bl false)))) xu))))
  (hL (xL (wP (dC (.bl true)))))))
abbrev UT (K:Fg)(Ab Ae Ah Ac Af Ak Ai Ad Ag Aa:Addr):WS :=
 wSeq (i9 1 (PU (Zl K) ZL (xU (wP (x0 0)) vu)))
  (PZ Ab Aa 2 3 (t6 [none] [0] (t9 (z9 v8 (z5 1) (dC (.int 0)))) (w5 0) c7 (x9 vh (q0 (z5 0) x8))) (q0 (z9 v8 (z5 1) (dC (.int 1))) (q0 (z9 v8 (z5 1) (dC (.int 2))) x8)) (dT (z9 pNe (z5 2) (z9 v8 (z5 1) (dC (.int 0)))))
   (lawR K Ab Ae Ah Ac Af Ak Ai Ad Ag Aa))
theorem sc_law:v4 ["script","drawn","handed","house","told","k","cell","made","waiting","name","state","rows","kept","seen"] ["script"] (j3 wK):=y3
def Told (C:Addr)(t:PV):Prop:=∃(d:Dr)(y:PV),t = .tup [d.ob C,y]/\vO C [d.ob C]=some y/\vj 6 y
abbrev el (K:Fg)(ns:List Int)(d:Dr)(sc:Int)(nm:List Str)(a x:Addr)(tl:List PV)(s5 s6 s7 s8 s9 s10 s11 s12 s13:MSlot):ME:=[.sh (scr K ns),.sh (d.hp sc nm),.sh (.at (.ref a)),.sh (.at (.ref x)),.ow (.lst tl),s5,s6,s7,s8,s9,s10,s11,s12,s13]
theorem LC {K:Fg}{ns:List Int}{sc:Int}{nm:List Str}(ho:ZI d sc nm){a:Addr}{k:Pk}(I:jn Aa d.rss d.h j k.n k.ps)(hj:j<=900){tl:List PV}(lt:tl.length<=900){m:Int}{s7 s8 s9 s10 s11 s12 s13:MSlot}(q:∀(t:PV)(n':PV)(ps':List PV)(s7 s8 s9 s10 s11 s12 s13:MSlot),Told Aa t->jn Aa d.rss d.h (j+1) n' ps'->N (k.to n' ps') (el K ns d sc nm a k.x (tl++[t]) (.sh (.at (.int n))) (.sh (.at (.int m))) s7 s8 s9 s10 s11 s12 s13)):lawB K Ab Ae Ah Ac Af Ak Ai Ad Ag Aa k (el K ns d sc nm a k.x tl (.sh (.at (.int n))) (.sh (.at (.int m))) s7 s8 s9 s10 s11 s12 s13) N R:=by
 have hlim:lim=1000000:=rfl;obtain ⟨s,en,so⟩:=I.now;have ok:=so.ok;have h4:=ok.h4;obtain ⟨y,ey,py,_⟩:=PM (C:=Aa) ok;obtain ⟨cs,ec,hcs⟩:=YA s.d;have okw:=JD ok ec hcs (uy s.d.time);have l10:cs.length<=10:=okw.ten;have ln:k7 (xJ s.d.names)=cs.map λc=>PV.at (.str c.name):=by rw [<- ec];unfold k7;rw [yq];rfl
 refine ⟨s.d.ob Aa,qY rfl (by decide) (by decide) rfl (cp0 en),?_⟩;refine ⟨⟨_,rfl⟩,.tup [s.d.ob Aa,y],xD (j5 rfl (j5 (j4 rfl ey) rfl)) l2,tl,rfl,by omega,?_⟩;have vr:=YK (C:=Aa) ok;obtain ⟨r,rs,er⟩:∃ r rs,s.d.rss=r::rs:=by
  cases e:s.d.rss with
  |nil=>have:=ok.rin.len;rw [e] at this;cases this
  |cons r rs=>exact ⟨r,rs,rfl⟩
 have lr:(r.map λi=>PV.at (.int i)).length<=lim:=by have:=(ok.rin.row r (by rw [er];exact yU)).1;rw [yZ];omega
 rw [er] at vr;refine ⟨_,_,qt rfl (by decide) rfl vr,lr,?_⟩;have vn:=JZ (C:=Aa) ok;rw [ln] at vn;refine ⟨_,qt rfl (by decide) rfl vn,by rw [yZ];omega,?_⟩;refine ⟨_,rfl,?_⟩;refine ⟨_,Jh (qt rfl (by decide) rfl vn),?_⟩;have nd:(cs.map Cl.name).Nodup:=okw.nd;refine VP (λrest ε=>∃(done todo:List Cl)(s9:MSlot),rest=todo.map (λc=>PV.at (.str c.name))/\done++todo=cs/\ε=el K ns d sc nm a k.x (tl++[.tup [s.d.ob Aa,y]]) (.sh (.at (.int n))) (.sh (.at (.int m))) (.sh (s.d.ob Aa)) (.ow (.dk (keysOf done) (done.map Cl.pv))) s9 s10 s11 s12 s13) ?_ ?_ _ _ ⟨[],cs,_,rfl,rfl,rfl⟩
 rotate_left
 ·rintro x rest ε ⟨done,todo,s9,e1,e2,rfl⟩;cases todo with
  |nil=>cases e1
  |cons c todo =>
   rw [yI] at e1;injection e1 with e1 e1';subst e1;have hn:c.name∉done.map Cl.name:=λz=>by
    rw [<- e2,yE,yI] at nd;exact (uD.mp nd).2.2 _ z _ yU rfl
   have dl:done.length<=10:=by have:=congrArg List.length e2;rw [yL] at this;omega
   have hc:c∈s.d.cls:=hcs c (by rw [<- e2];exact yt _ yU);refine ⟨_,rfl,c.pv,.at (.str c.name),.inr c.name,keysOf done,done.map Cl.pv,qt rfl (by decide) rfl (Xi ok hc),rfl,rfl,rfl,by unfold keysOf;rw [yZ];omega,done++[c],todo,.sh (.at (.str c.name)),e1',by rw [uX];exact e2,?_⟩;rw [RO hn];rfl
 rintro ε ⟨done,todo,s9,e1,e2,rfl⟩;have:todo=[]:=by
  cases todo with
  |nil=>rfl
  |cons _ _=>cases e1
 subst this;rw [yO] at e2;subst e2;refine ⟨.tup [.dk (keysOf done) (done.map Cl.pv),.at (.int d.last),.at (.int s.d.time),.lst [],.lst []],xD (j5 rfl (j5 (v6 rfl rfl rfl) (j5 (v6 (qt rfl (by decide) rfl Xk) rfl rfl) (j5 (xC rfl l0) (j5 (xC rfl l0) rfl))))) l5,?_⟩;refine ⟨rfl,_,_,rfl,rfl,⟨m,n,rfl⟩,λz hz=>hz,⟨d,sc,nm,keysOf done,done.map Cl.pv,done.map Cl.name,_,_,_,_,ho,Kz done,by unfold keysOf;rw [yZ,yZ],by rw [yZ];exact l10,rfl⟩,?_⟩;rintro z ⟨rows,zs,st,e,hz⟩;injection e with e _;injection e with e;injection e with e _;injection e with e;rw [<- e] at hz;have hz:Deed d.h z:=by rw [<- Jn ho.ok];exact hz
 obtain ⟨b,n',ps',hT,I'⟩:=DK (CC:=Ae) (CN:=Ah) (CR:=Ac) (CS:=Af) (CNT:=Ak) (CND:=Ai) (CM:=Ad) (CT:=Ag) I hj hz;refine ⟨b,n',ps',hT,?_⟩;obtain ⟨s',en',so'⟩:=I'.now;have en2:(k.to n' ps').n=qA Aa s':=en';have ok':=so'.ok;have lrw:=so'.rows;obtain ⟨y',ey',py',ix'⟩:=PM (C:=Aa) ok';refine ⟨.lst (s'.rows.map xh),qY rfl (by decide) (by decide) rfl (cp1 en2),?_⟩;refine ⟨.lst (s'.rows.map xh),rfl,?_⟩;refine ⟨⟨_,rfl⟩,_,rfl,_,rfl,by rw [yZ];omega,?_⟩;refine ⟨_,rfl,?_⟩;have sn:∀{s8 s9 s10 s11 s12 s13:MSlot},Jm Aa (k.to n' ps') (el K ns d sc nm a k.x (tl++[.tup [s.d.ob Aa,y]]) (.sh (.at (.int n))) (.sh (.at (.int m))) (.sh (s.d.ob Aa)) s8 s9 s10 s11 s12 s13)=some y':=GZ (qR (qY rfl (by decide) (by decide) rfl (cp0 en2)) rfl) ey';refine Kl (Ma (Vz (XE (qY rfl (by decide) (by decide) rfl (cp1 en2)) rfl (QU (RB _)))) (Vz (XE sn sn (QU py')))) ?_;refine Kl (Vz (XE (XE sn rfl ix') (y:=y7 d.rss) rfl (by rw [so'.rin];exact QU (Bm _)))) ?_;exact q _ n' ps' _ _ _ _ _ _ _ ⟨s.d,y,rfl,ey,py⟩ I'
theorem La {K:Fg}:∀ ns:List Int,ns.length<=63->UT K Ab Ae Ah Ac Af Ak Ai Ad Ag Aa (.sh (scr K ns)::List.replicate ((["script","drawn","handed","house","told","k","cell","made","waiting","name","state","rows","kept","seen"]:List Str).length-1) .no) (λ_=>False) λy _=>y = .at (.bl true):=by
 intro ns h63;have hlim:lim=1000000:=rfl;refine ⟨_,rfl,⟨ns,rfl,h63⟩,?_⟩;rintro _ ⟨d,sc,nm,rfl,ok,hc,s4,s26,n14,hn⟩;have ho:ZI d sc nm:=⟨ok,s4,s26,n14,hn⟩;have glen:=ok.rin.len;have h4:=ok.h4;refine ⟨d,ok,hc,λi y h=>?_,xp m5 m5 d.rss rfl rfl (by omega) λr _=>⟨_,rfl,rfl⟩,λ_=>rfl,(by show 2<14;decide),(by decide),λa x l dx=>⟨?_,?_⟩⟩
 ·have hm:=uC h;simp at hm
 ·exact u9 (v:=false) (v6 rfl rfl (QU (Bm _)))
 refine ⟨_,rfl,?_⟩;refine ⟨ns,ze 0 (ns.map (λn=>PV.at (.int n))++[.at (.int 1),.at (.int 2)]),?_,?_⟩
 ·show (q0 _ x8 _).bind _=_;rw [j5 (x:= .lst (ns.map (λn=>PV.at (.int n))++[.at (.int 1),.at (.int 2)])) ?_ rfl]
  ·rfl
  ·unfold ZZ;refine (if_pos rfl).trans ?_;show (if ns.length+2<=1000 then _ else _)=_;rw [if_pos (by omega)]
 have hI0:jn Aa d.rss d.h 0 (qA Aa ⟨d,[],none⟩) []:=⟨yT _,⟨_,rfl,⟨ok,rfl,rfl,yT _⟩⟩,λp hp=>absurd hp yJ⟩;refine ⟨λrest k ε=>∃(j:Nat)(tl:List PV)(s5 s6 s7 s8 s9 s10 s11 s12 s13:MSlot),jn Aa d.rss d.h j k.n k.ps/\j+rest.length<=70/\tl.length=j/\(∀ t∈tl,Told Aa t)/\(∀ z∈rest,∃ a b:Int,z = .tup [.at (.int a),.at (.int b)])/\k.x=x/\k.l=l/\ε=el K ns d sc nm a k.x tl s5 s6 s7 s8 s9 s10 s11 s12 s13,?_,?_,?_⟩
 ·refine ⟨0,[],_,_,_,_,_,_,_,_,_,hI0,?_,rfl,λt ht=>absurd ht yJ,GR _ _ λz hz=>?_,rfl,rfl,rfl⟩
  ·rw [Vu,yL,yZ];show 0+(ns.length+2)<=70;omega
  ·rcases yy.mp hz with hz|hz
   ·obtain ⟨i,_,rfl⟩:=yw.mp hz;exact ⟨i,rfl⟩
   ·have h:z = .at (.int 1)∨z = .at (.int 2):=by simpa using hz
    rcases h with rfl|rfl<;>exact ⟨_,rfl⟩
 ·rintro k ε ⟨j,tl,s5,s6,s7,s8,s9,s10,s11,s12,s13,I,hj,lt,ht,_,hx,hl,rfl⟩;refine ⟨tl,Jh rfl,?_⟩;refine VP (λrest ε=>(∀ t∈rest,Told Aa t)/\∃(z4 s5 s6 s7 s8 s9 s10 s11 s12 s13:MSlot),ε=[.sh (scr K ns),.sh (d.hp sc nm),.sh (.at (.ref a)),.sh (.at (.ref k.x)),z4,s5,s6,s7,s8,s9,s10,s11,s12,s13]) ?_ ?_ _ _ ⟨ht,_,_,_,_,_,_,_,_,_,_,rfl⟩
  ·intro ε _;exact ⟨_,rfl,hx,hl,rfl⟩
  ·rintro t rest ε ⟨hr,z4,s5,s6,s7,s8,s9,s10,s11,s12,s13,rfl⟩;obtain ⟨d1,y1,rfl,e1,p1⟩:=hr t yU;refine ⟨_,rfl,YV (u9 (v:=false) (v6 (j4 rfl e1) rfl (QU p1))) ?_⟩;exact ⟨λt' h'=>hr t' (yS _ h'),_,_,_,_,_,_,_,_,_,_,rfl⟩
 ·rintro z rest k ε ⟨j,tl,s5,s6,s7,s8,s9,s10,s11,s12,s13,I,hj,lt,ht,hz,hx,hl,rfl⟩;obtain ⟨n,m,rfl⟩:=hz _ yU;rw [yH] at hj;refine ⟨_,rfl,LC ho I (by omega) (by omega) λt n' ps' s7 s8 s9 s10 s11 s12 s13 hT I'=>?_⟩;refine ⟨j+1,tl++[t],_,_,_,_,_,_,_,_,_,I',by omega,by rw [yL,lt];rfl,λt' h'=>?_,λz hz'=>hz z (yS _ hz'),hx,hl,rfl⟩;rcases yy.mp h' with h'|h'
  ·exact ht t' h'
  ·rw [yM.mp h'];exact hT
theorem Ho (F:Fun K "law" "law" wK f fd)(Eo:Fn P w K mg base 2 "_law_cell_stream" ["cell","k"] (spN JL vy))(S4:Fn P w K mg base 3 "_law_deed" ["stream","house","state"] (spD Zk wV))(Q5:Fn P w K mg base 3 "_law_house" ["script"] (spV (Zl K) ZL))(Id:Fn P w K mg base 2 "_law_seen" ["made"] (w4 (vO Aa)))(U1:Fn P w K mg base 10 "_law_try" ["house","deed"] (p9 Ab (vD Ae Ah Ac Af Ak Ai Ad Ag Aa) zK))(D3:mg "enumerate"=none)(Au:mg "list"=none)(Q7:mg "House"=some (.ref Ab))(Ao:Mt P w K mg base 1 Ab "done" ["self"] (jG Ab zd))(Al:Mt P w K mg base 1 Ab "works" ["self"] (xK Ab (qj 0)))(Am:My P w K mg base 1 Aa "cloth" ["self","name"] (m7 (xE Aa) (jj Ah Aa)))(Ar:Mt P w K mg base 1 Aa "names" ["self"] (spO (zH Aa)))(Av:Mt P w K mg base 1 Aa "rinses" ["self"] (spZ (jx Aa)))(An:Mt P w K mg base 1 Aa "start" ["self"] (w4 (xP Aa)))(R6:jM P w K mg base 7 Ab ["self","rinses","last","time"] (Zu Ab Aa)):FnOk P w K mg base v5 11 f fd ["script"] (Zv K) :=
 okL (k:=10) (b:=UT K Ab Ae Ah Ac Af Ak Ai Ad Ag Aa) F sc_law (λcdv A outer s H E hr=>⟨_,(@j0 _ _ _ _ _ (@qh _ _ 1 _ _ _ _ sc_law.nd rfl (Or.inl rfl) (qT Q5 hr (by decide) rfl (@j8 _ _ _ _ _ (pv 0) y2 (by rfl))) (by rfl) (.inl rfl))
  (@j0 _ _ _ _ _ (Xb (i:=2) (N':=["row"]) (cap:=[none]) (qz rfl rfl rfl) rfl sc_law.nd rfl rfl (@xc _ K _ _ _ rfl (iW (K:=K) rfl (pv 1) z8)) (λ_ _ _ _ _ _=>(r9 (i:=0) (by show (["row"]:List Str).Nodup;decide +kernel) rfl (Or.inl rfl))) (λ_ _ _ _ _ _=>qK) (λ_ _ _ _ _ _=>(ja (Qm (K:=K) rfl) rfl Au jo (@j8 _ _ _ _ _ (pv 0) y2 (by rfl)))))
  (@j0 _ _ _ _ _ (@qh _ _ 3 _ _ _ _ sc_law.nd rfl (Or.inl rfl) (QY R6 hr (by decide) QV rfl Q7 (@j8 _ _ _ _ _ (pv 2) (@j8 _ _ _ _ _ (iW (K:=K) rfl (pv 1) z8) (@j8 _ _ _ _ _ (iW (K:=K) rfl (pv 1) z8) y2 (by rfl)) (by rfl)) (by rfl))) (by rfl) (.inl rfl))
  (@j0 _ _ _ _ _ (c9 (i5 (ww (K:=K) (hu6 hr) rfl) (pv 2) (iW (K:=K) rfl (pv 1) z8) (c5 _)) (@j6 _ _ _ (w6 zh)) m4)
  (@j0 _ _ _ _ _ (qU (wz (K:=K) rfl PySem.F.plainAttrs_list PySem.F.slot_list_append PySem.F.type_list_append wv (iW (K:=K) rfl (pv 2) z8) (j8 vi y2)))
  (@j0 _ _ _ _ _ (qU (Wa (K:=K) rfl PySem.F.plainAttrs_list PySem.F.slot_list_pop PySem.F.type_list_pop KO (pv 2)))
  (@j0 _ _ _ _ _ (@qh _ _ 4 _ _ _ _ sc_law.nd rfl (Or.inl rfl) (@qg _ _ _ _ y2) (by rfl) (.inl rfl))
  (@j0 _ _ _ _ _ (vk PassesOwn.never rfl (Bl (K:=K) rfl rfl D3 (@j8 _ _ _ _ _ (v7 (xt (K:=K) rfl) (pv 0) (@qg _ _ _ _ (@j8 _ _ _ _ _ z8 (@j8 _ _ _ _ _ z8 y2 (by rfl)) (by rfl)))) y2 (by rfl))) (wC (K:=K) (n:=2) rfl rfl (qE (r9 (i:=5) sc_law.nd rfl (Or.inl rfl)) (qE (r9 (i:=6) sc_law.nd rfl (Or.inl rfl)) wD)))
   (@j0 _ _ _ _ _ (@qh _ _ 7 _ _ _ _ sc_law.nd rfl (Or.inl rfl) (c6 Al hr (by decide) (pv 3)) (by rfl) (.inl rfl))
  (@j0 _ _ _ _ _ (qU (wz (K:=K) rfl PySem.F.plainAttrs_list PySem.F.slot_list_append PySem.F.type_list_append wv (pv 4) (j8 (@qJ _ _ _ _ _ (@j8 _ _ _ _ _ (pv 7) (@j8 _ _ _ _ _ (qT Id hr (by decide) rfl (@j8 _ _ _ _ _ (pv 7) y2 (by rfl))) y2 (by rfl)) (by rfl))) y2)))
  (@j0 _ _ _ _ _ (qU (wz (K:=K) rfl PySem.F.plainAttrs_list PySem.F.slot_list_append PySem.F.type_list_append wv (iW (K:=K) rfl (c6 Av hr (by decide) (pv 7)) z8) (j8 vi y2)))
  (@j0 _ _ _ _ _ (qU (wz (K:=K) rfl PySem.F.plainAttrs_list PySem.F.slot_list_append PySem.F.type_list_append wv (c6 Ar hr (by decide) (pv 7)) (j8 xl y2)))
  (@j0 _ _ _ _ _ (@qh _ _ 8 _ _ _ _ sc_law.nd rfl (Or.inl rfl) Wb (by rfl) (.inl rfl))
  (@j0 _ _ _ _ _ (vk PassesOwn.never rfl (@xc _ K _ _ _ rfl (c6 Ar hr (by decide) (pv 7))) (r9 (i:=9) sc_law.nd rfl (Or.inl rfl))
   (@j6 _ _ _ (Bp (QB hr) (pv 8) (pv 9) (xR Am hr (by decide) QV (pv 7) (@j8 _ _ _ _ _ (pv 9) y2 (by rfl))) rfl)))
  (@j0 _ _ _ _ _ (@qh _ _ 10 _ _ _ _ sc_law.nd rfl (Or.inl rfl) (@qJ _ _ _ _ _ (@j8 _ _ _ _ _ (pv 8) (@j8 _ _ _ _ _ (iW (K:=K) rfl (pv 1) z8) (@j8 _ _ _ _ _ (iW (K:=K) rfl (c6 An hr (by decide) (pv 7)) z8) (@j8 _ _ _ _ _ (@qg _ _ _ _ y2) (@j8 _ _ _ _ _ (@qg _ _ _ _ y2) y2 (by rfl)) (by rfl)) (by rfl)) (by rfl)) (by rfl))) (by rfl) (.inl rfl))
  (@j0 _ _ _ _ _ (qU (qT U1 hr (by decide) rfl (@j8 _ _ _ _ _ (pv 3) (@j8 _ _ _ _ _ (qT S4 hr (by decide) rfl (@j8 _ _ _ _ _ (qT Eo hr (by decide) rfl (@j8 _ _ _ _ _ (pv 6) (@j8 _ _ _ _ _ (pv 5) y2 (by rfl)) (by rfl))) (@j8 _ _ _ _ _ (pv 1) (@j8 _ _ _ _ _ (pv 10) y2 (by rfl)) (by rfl)) (by rfl))) y2 (by rfl)) (by rfl))))
  (@j0 _ _ _ _ _ (@qh _ _ 11 _ _ _ _ sc_law.nd rfl (Or.inl rfl) (c6 Ao hr (by decide) (pv 3)) (by rfl) (.inl rfl))
  (@j0 _ _ _ _ _ (@qh _ _ 12 _ _ _ _ sc_law.nd rfl (Or.inl rfl) (ja (Qm (K:=K) rfl) rfl Au jo (@j8 _ _ _ _ _ (pv 11) y2 (by rfl))) (by rfl) (.inl rfl))
  (@j0 _ _ _ _ _ (qU (wz (K:=K) rfl PySem.F.plainAttrs_list PySem.F.slot_list_append PySem.F.type_list_append wv (pv 11) (j8 vi y2)))
  (@j0 _ _ _ _ _ (qU (Wa (K:=K) rfl PySem.F.plainAttrs_list PySem.F.slot_list_reverse PySem.F.type_list_reverse LX (pv 11)))
  (@j0 _ _ _ _ _ (c9 (PW.pt (wG (i5 (ww (K:=K) (hu6 hr) rfl) (c6 Ao hr (by decide) (pv 3)) (pv 12) (c5 _)) (Xc (i5 (ww (K:=K) (hu6 hr) rfl) (qT Id hr (by decide) rfl (@j8 _ _ _ _ _ (c6 Al hr (by decide) (pv 3)) y2 (by rfl))) (qT Id hr (by decide) rfl (@j8 _ _ _ _ _ (c6 Al hr (by decide) (pv 3)) y2 (by rfl))) (c5 _))))) (@j6 _ _ _ (w6 zh)) m4)
  (@j6 _ _ _ (c9 (i5 (ww (K:=K) (hu6 hr) rfl) (iW (K:=K) rfl (qT Id hr (by decide) rfl (@j8 _ _ _ _ _ (c6 Al hr (by decide) (pv 3)) y2 (by rfl))) z8) (iW (K:=K) rfl (pv 1) z8) (c5 _)) (@j6 _ _ _ (w6 zh)) m4))))))))))))))))
  (@j0 _ _ _ _ _ (vk PassesOwn.never rfl (@xc _ K _ _ _ rfl (pv 4)) (wC (K:=K) (n:=2) rfl rfl (qE (r9 (i:=7) sc_law.nd rfl (Or.inl rfl)) (qE (r9 (i:=13) sc_law.nd rfl (Or.inl rfl)) wD)))
   (@j6 _ _ _ (c9 (i5 (ww (K:=K) (hu6 hr) rfl) (qT Id hr (by decide) rfl (@j8 _ _ _ _ _ (pv 7) y2 (by rfl))) (pv 13) (c5 _)) (@j6 _ _ _ (w6 zh)) m4)))
  (@j6 _ _ _ (w6 zh))))))))))),
  (by repeat' first|infer_instance|(refine @Mi.instSemWSTSeqWSeq _ _ _ _ ?_ ?_)|(apply @Mi.instSemWSTForWForOfSemWIOfSemWG))⟩) La
theorem Gj {K:Fg}{fd:FuncData}{T:Addr}{ob:Obj}{items:Array Value}{n:Nat}(hd:fd.defaults = .ref T)(q:K.lookup T=some ob)(hs:ob.data = .seq items n)(h:∀ us:List Value,us.length=ps.length->∃ k:Option (Array Value)->Sem (List (Str×Value)),bindArgs fd ⟨us,[]⟩=seqItems? fd.defaults >>= k/\k (some items)=pure (ps.zip us)):Binds K fd ps []:=λs us X hl=>by
 rw [yO] at hl ⊢;obtain ⟨k,e1,e2⟩:=h us hl;exact BindsTo.of_defaults hd (X _ _ q) hs e1 e2
abbrev so (f:Addr):Option (Option Value):=some (some (.ref f))
abbrev fO (oc:Value)(od:Option Addr)(x q:Str)(st:Stmt)(dV kV dc pm:Value)(an:Option Addr)(cd ct:Value)(sl:Array (Option Value)):Option Obj:=some ⟨oc,od,.func (PySem.W.fnOf x q (xB st) (n9 st) (j3 st) dV kV dc pm an cd ct),sl⟩
structure Zt (P:Program)(w:World)(K:Fg)(mg:Str->Option Value)(base h:Heap):Prop where
 X:K.In h
 G:h.Ns mainGlobals mg
def FG (K:Fg)(x:Str)(st:Stmt):Prop:=∃ f oc od kV dc pm an cd ct sl,PySem.W.nsIn K mainGlobals x=so f/\K.lookup f=fO oc od x x st .none kV dc pm an cd ct sl/\PySem.W.codeIn K cd x=true/\PySem.W.keepIn K (.ref f)=true
theorem FG.i {K:Fg}{f:Addr}{kV:Value}(a:PySem.W.nsIn K mainGlobals x=so f)(l:K.lookup f=fO oc od x x st .none kV dc pm an cd ct sl)(c:PySem.W.codeIn K cd x=true)(k:PySem.W.keepIn K (.ref f)=true):FG K x st:=⟨_,_,_,_,_,_,_,_,_,_,a,l,c,k⟩
def FM (K:Fg)(C:Addr)(x q:Str)(st:Stmt):Prop:=∃ f oc od kV dc pm an cd ct sl,PySem.W.findIn K (.ref C) x=so f/\PySem.W.isFn K (.ref f)=true/\K.lookup f=fO oc od x q st .none kV dc pm an cd ct sl/\PySem.W.codeIn K cd q=true/\PySem.W.keepIn K (.ref f)=true
theorem FM.i {K:Fg}{f:Addr}{kV:Value}(a:PySem.W.findIn K (.ref C) x=so f)(i:PySem.W.isFn K (.ref f)=true)(l:K.lookup f=fO oc od x q st .none kV dc pm an cd ct sl)(c:PySem.W.codeIn K cd q=true)(k:PySem.W.keepIn K (.ref f)=true):FM K C x q st:=⟨_,_,_,_,_,_,_,_,_,_,a,i,l,c,k⟩
abbrev BdA (x q:Str)(st:Stmt)(ps:List Str):Prop:=∀(kV doc pm:Value)(an:Option Addr)(cdv ct:Value)(us:List Value),us.length=ps.length->bindArgs (PySem.W.fnOf x q (xB st) (n9 st) (j3 st) .none kV doc pm an cdv ct) ⟨us,[]⟩=pure (ps.zip us)
theorem bd1 (h:∀(kV doc pm:Value)(an:Option Addr)(cdv ct a0:Value),bindArgs (PySem.W.fnOf x q (xB st) (n9 st) (j3 st) .none kV doc pm an cdv ct) ⟨[a0],[]⟩=pure [(p0,a0)]):BdA x q st [p0]:=λ_ _ _ _ _ _ us hl=>match us,hl with|[_],_=>h _ _ _ _ _ _ _
theorem bd2 (h:∀(kV doc pm:Value)(an:Option Addr)(cdv ct a0 a1:Value),bindArgs (PySem.W.fnOf x q (xB st) (n9 st) (j3 st) .none kV doc pm an cdv ct) ⟨[a0,a1],[]⟩=pure [(p0,a0),(p1,a1)]):BdA x q st [p0,p1]:=λ_ _ _ _ _ _ us hl=>match us,hl with|[_,_],_=>h _ _ _ _ _ _ _ _
theorem bd3 (h:∀(kV doc pm:Value)(an:Option Addr)(cdv ct a0 a1 a2:Value),bindArgs (PySem.W.fnOf x q (xB st) (n9 st) (j3 st) .none kV doc pm an cdv ct) ⟨[a0,a1,a2],[]⟩=pure [(p0,a0),(p1,a1),(p2,a2)]):BdA x q st [p0,p1,p2]:=λ_ _ _ _ _ _ us hl=>match us,hl with|[_,_,_],_=>h _ _ _ _ _ _ _ _ _
theorem bd4 (h:∀(kV doc pm:Value)(an:Option Addr)(cdv ct a0 a1 a2 a3:Value),bindArgs (PySem.W.fnOf x q (xB st) (n9 st) (j3 st) .none kV doc pm an cdv ct) ⟨[a0,a1,a2,a3],[]⟩=pure [(p0,a0),(p1,a1),(p2,a2),(p3,a3)]):BdA x q st [p0,p1,p2,p3]:=λ_ _ _ _ _ _ us hl=>match us,hl with|[_,_,_,_],_=>h _ _ _ _ _ _ _ _ _ _
theorem bd5 {p4:Str}(h:∀(kV doc pm:Value)(an:Option Addr)(cdv ct a0 a1 a2 a3 a4:Value),bindArgs (PySem.W.fnOf x q (xB st) (n9 st) (j3 st) .none kV doc pm an cdv ct) ⟨[a0,a1,a2,a3,a4],[]⟩=pure [(p0,a0),(p1,a1),(p2,a2),(p3,a3),(p4,a4)]):BdA x q st [p0,p1,p2,p3,p4]:=λ_ _ _ _ _ _ us hl=>match us,hl with|[_,_,_,_,_],_=>h _ _ _ _ _ _ _ _ _ _ _
section
variable {P:Program}{w:World}{K:Fg}{mg:Str->Option Value}{base h:Heap}{k:Nat}{ps:List Str}{sp:Sp}{x q:Str}{st:Stmt}{C:Addr}
theorem fG (Z:Zt P w K mg base h)(a:FG K x st)(H:∀{f fd},Fun K x x st f fd->FnOk P w K mg base v5 k f fd ps sp)(b:BdA x x st ps:=by first|exact bd1 λ_ _ _ _ _ _ _=>rfl|exact bd2 λ_ _ _ _ _ _ _ _=>rfl|exact bd3 λ_ _ _ _ _ _ _ _ _=>rfl|exact bd4 λ_ _ _ _ _ _ _ _ _ _=>rfl|exact bd5 λ_ _ _ _ _ _ _ _ _ _ _=>rfl):Fn P w K mg base k x ps sp:=by obtain ⟨f,oc,od,kV,dc,pm,an,cd,ct,sl,a,l,c,kp⟩:=a;exact ⟨f,_,H (zS l c kp),PySem.W.mg_of Z.X Z.G a,kp,(zS l c kp).binds b⟩
theorem fM (Z:Zt P w K mg base h)(kc:k8 K C)(a:FM K C x q st)(H:∀{f fd},Fun K x q st f fd->FnOk P w K mg base v5 k f fd ps sp)(b:BdA x q st ps:=by first|exact bd1 λ_ _ _ _ _ _ _=>rfl|exact bd2 λ_ _ _ _ _ _ _ _=>rfl|exact bd3 λ_ _ _ _ _ _ _ _ _=>rfl|exact bd4 λ_ _ _ _ _ _ _ _ _ _=>rfl|exact bd5 λ_ _ _ _ _ _ _ _ _ _ _=>rfl):Mt P w K mg base k C x ps sp:=by obtain ⟨f,oc,od,kV,dc,pm,an,cd,ct,sl,a,i,l,c,kp⟩:=a;exact ⟨f,_,H (zS l c kp),⟨a,i,kp⟩,kc.c,(zS l c kp).binds b⟩
end
theorem fGY {P:Program}{w:World}{K:Fg}{mg:Str->Option Value}{base h:Heap}{k:Nat}(Z:Zt P w K mg base h)(a:FG K x st)(H:∀{f fd},Fun K x x st f fd->FnOk P w K mg base (y9 P w) k f fd ps sp)(b:BdA x x st ps:=by first|exact bd1 λ_ _ _ _ _ _ _=>rfl|exact bd2 λ_ _ _ _ _ _ _ _=>rfl|exact bd3 λ_ _ _ _ _ _ _ _ _=>rfl|exact bd4 λ_ _ _ _ _ _ _ _ _ _=>rfl|exact bd5 λ_ _ _ _ _ _ _ _ _ _ _=>rfl):Fy P w K mg base k x ps sp:=by obtain ⟨f,oc,od,kV,dc,pm,an,cd,ct,sl,a,l,c,kp⟩:=a;exact ⟨f,_,H (zS l c kp),PySem.W.mg_of Z.X Z.G a,kp,(zS l c kp).binds b⟩
theorem fMY {P:Program}{w:World}{K:Fg}{mg:Str->Option Value}{base h:Heap}{k:Nat}(Z:Zt P w K mg base h)(kc:k8 K C)(a:FM K C x q st)(H:∀{f fd},Fun K x q st f fd->FnOk P w K mg base (y9 P w) k f fd ps sp)(b:BdA x q st ps:=by first|exact bd1 λ_ _ _ _ _ _ _=>rfl|exact bd2 λ_ _ _ _ _ _ _ _=>rfl|exact bd3 λ_ _ _ _ _ _ _ _ _=>rfl|exact bd4 λ_ _ _ _ _ _ _ _ _ _=>rfl|exact bd5 λ_ _ _ _ _ _ _ _ _ _ _=>rfl):My P w K mg base k C x ps sp:=by obtain ⟨f,oc,od,kV,dc,pm,an,cd,ct,sl,a,i,l,c,kp⟩:=a;exact ⟨f,_,H (zS l c kp),⟨a,i,kp⟩,kc.c,(zS l c kp).binds b⟩
def FXI (K:Fg)(C R:Addr)(f q:Str)(st:Stmt):Prop:=∃ fI oc od kV dc pm an cd ct sl,PySem.W.findIn K (.ref C) "__init__"=so fI/\K.lookup fI=fO oc od "__init__" q st .none kV dc pm an cd ct sl/\PySem.W.codeIn K cd q=true/\PySem.W.keepIn K (.ref fI)=true/\PySem.W.isFn K (.ref fI)=true/\PySem.W.keepIn K (.ref C)=true/\PySem.W.findIn K (.ref C) "__setattr__"=some (some (.builtin "object.__setattr__"))/\PySem.W.findIn K (.ref C) f=some none/\jJ K C R fI=true
theorem FXI.i {K:Fg}{R:Addr}{f:Str}{kV:Value}(a:PySem.W.findIn K (.ref C) "__init__"=so fI)(l:K.lookup fI=fO oc od "__init__" q st .none kV dc pm an cd ct sl)(c:PySem.W.codeIn K cd q=true)(k:PySem.W.keepIn K (.ref fI)=true)(i:PySem.W.isFn K (.ref fI)=true)(k2:PySem.W.keepIn K (.ref C)=true)(s:PySem.W.findIn K (.ref C) "__setattr__"=some (some (.builtin "object.__setattr__")))(n:PySem.W.findIn K (.ref C) f=some none)(x:jJ K C R fI=true):FXI K C R f q st:=⟨_,_,_,_,_,_,_,_,_,_,a,l,c,k,i,k2,s,n,x⟩
theorem fXI {P:Program}{w:World}{K:Fg}{mg:Str->Option Value}{base h:Heap}{R:Addr}{f:Str}(Z:Zt P w K mg base h)(g:mg x=some (.ref C))(a:FXI K C R f q st)(H:∀ {fI fd},Fun K "__init__" q st fI fd->jJ K C R fI=true->PySem.W.findIn K (.ref C) "__setattr__"=some (some (.builtin "object.__setattr__"))->PySem.W.findIn K (.ref C) f=some none->FnOk P w K mg base v5 1 fI fd ps (Xg C f))(b:BdA "__init__" q st ps:=by first|exact bd1 λ_ _ _ _ _ _ _=>rfl|exact bd2 λ_ _ _ _ _ _ _ _=>rfl|exact bd3 λ_ _ _ _ _ _ _ _ _=>rfl|exact bd4 λ_ _ _ _ _ _ _ _ _ _=>rfl|exact bd5 λ_ _ _ _ _ _ _ _ _ _ _=>rfl):XMk P w K mg base 1 x C f:=by obtain ⟨fI,oc,od,kV,dc,pm,an,cd,ct,sl,a,l,c,kp,i,k2,s,n,q⟩:=a;exact ⟨R,fI,_,_,q,i,k2,g,H (zS l c kp) q s n,(zS l c kp).binds b⟩
theorem all_mk {l:PySem.W.OpenLaw}{w:World}{K:Fg}{h:Heap}{mg:Str->Option Value}{fa f26 f57 f59:Addr}{od26 od57 od59 an26 an57 an59:Option Addr}{sl26 sl57 sl59:Array (Option Value)}{oc26 oc57 oc59 kV26 kV57 kV59 dc26 dc57 dc59 pm26 pm57 pm59 ct26 ct57 ct59 cd26 cd57 cd59:Value}{T26 T57:Addr}{qc26 qv26_0 qv26_1 qc57 qv57_0 qv57_1:Value}{qd26 qd57:Option Addr}{qn26 qn57:Nat}{qs26 qs57:Array (Option Value)}(X:K.In h)(TT:∀ P∈[],h.get? P=some (PySem.W.tabObj #[]))(hTB:TABS=[])(G:h.Ns mainGlobals mg)(hfa:mg "law"=some (.ref fa))(Y2:W.nsIn K mainGlobals "House"=some (some (.ref Ab)))(S8:W.nsIn K mainGlobals "NoCloth"=some (some (.ref Ae)))(U4:W.nsIn K mainGlobals "NoName"=some (some (.ref Ah)))(S5:W.nsIn K mainGlobals "NoRinses"=some (some (.ref Ac)))(S9:W.nsIn K mainGlobals "NoStart"=some (some (.ref Af)))(U6:W.nsIn K mainGlobals "NoTime"=some (some (.ref Ak)))(Q0:W.nsIn K mainGlobals "NothingDone"=some (some (.ref Ai)))(R4:W.nsIn K mainGlobals "RinseError"=some (some (.ref Ap)))(S7:W.nsIn K mainGlobals "TooMany"=some (some (.ref Ad)))(Y4:W.nsIn K mainGlobals "Twice"=some (some (.ref Ag)))(Y3:W.nsIn K mainGlobals "Works"=some (some (.ref Aa)))(U9:FXI K Ag Ap "name" "Twice.__init__" JS)(T4:PySem.W.plainGet K Ab Str.empty=true)(T9:PySem.W.hasDictIn K Ab=true)(U8:PySem.W.plainOver K Ab=true)(U2:W.findIn K (.ref Ab) "__setattr__"=some (some (.builtin "object.__setattr__")))(U3:PySem.W.makesIn K Ab=true)(T2:W.keepIn K (.ref Ab)=true)(T8:PySem.W.plainGet K Aa Str.empty=true)(U0:PySem.W.hasDictIn K Aa=true)(T7:PySem.W.plainOver K Aa=true)(T0:W.findIn K (.ref Aa) "__setattr__"=some (some (.builtin "object.__setattr__")))(V4:PySem.W.makesIn K Aa=true)(V1:W.keepIn K (.ref Aa)=true)(S3:W.findIn K (.ref Ab) "now"=some none)(R8:W.findIn K (.ref Ab) "past"=some none)(N8:W.findIn K (.ref Aa) "given"=some none)(R9:W.findIn K (.ref Aa) "held"=some none)(Q6:W.findIn K (.ref Aa) "last"=some none)(N9:W.findIn K (.ref Aa) "least"=some none)(Q8:W.findIn K (.ref Aa) "time"=some none)(a0:FG K "_law_mixed" Yo)(a1:FG K "_law_take" Yu)(a2:FG K "_law_stream" JT)(a3:FG K "_law_rinse" Yq)(a4:FG K "_law_house" Yb)(a5:FG K "is_whole" Yh)(a6:FG K "name_of" Yp)(a7:FG K "hue_of" Yc)(a8:FG K "length_of" Ym)(a9:FG K "due_of" WY)(a10:FG K "weight_of" Yx)(a11:FG K "is_from" Ye)(a12:FG K "is_name" Yf)(a13:FG K "is_cloth" Yd)(a14:FG K "is_rinse_row" Yg)(a15:FG K "check_rinses" WR)(a16:FG K "straight_ways" Ys)(a17:FG K "joined" Yi)(a18:FG K "lesser" Yn)(a19:FG K "ways_through" Yw)(a20:FG K "least_ways" Yl)(a21:FG K "sums_of" Yt)(a22:FG K "least_rinses" Yk)(a23:FG K "check_start" WU)(a24:FG K "check_cloths" WP)(a25:FM K Aa "hues" "Works.hues" WF)(a26:W.findIn K (.ref Aa) "__init__"=so f26)(i26:W.isFn K (.ref f26)=true)(l26:K.lookup f26=fO oc26 od26 "__init__" "Works.__init__" vo (.ref T26) kV26 dc26 pm26 an26 cd26 ct26 sl26)(c26:W.codeIn K cd26 "Works.__init__"=true)(k26:W.keepIn K (.ref f26)=true)(q26:K.lookup T26=some ⟨qc26,qd26,.seq #[qv26_0,qv26_1] qn26,qs26⟩)(a27:FM K Aa "tray_rinse" "Works.tray_rinse" WL)(a28:FM K Aa "rinse" "Works.rinse" WI)(a29:FM K Aa "start" "Works.start" WK)(a30:FM K Aa "names" "Works.names" WG)(a31:FM K Aa "rinses" "Works.rinses" WJ)(a32:FM K Aa "cloth" "Works.cloth" WD)(a33:FG K "are_names" WN)(a34:FG K "check_names" WQ)(a35:FG K "done_rows" WX)(a36:FG K "end_of" WZ)(a37:FM K Aa "cloths_but" "Works.cloths_but" WE)(a38:FG K "late_by" Yj)(a39:FG K "greater_late" Ya)(a40:FM K Aa "put" "Works.put" WH)(a41:FM K Aa "without" "Works.without" WM)(a42:FM K Aa "begun" "Works.begun" WC)(a43:FM K Ab "works" "House.works" Wz)(a44:FM K Ab "worst" "House.worst" WB)(a45:FM K Ab "done" "House.done" Ws)(a46:FM K Ab "turn_to" "House.turn_to" Wv)(a47:FM K Ab "back" "House.back" Wr)(a48:FM K Ab "put" "House.put" Wu)(a49:FM K Ab "drop" "House.drop" Wt)(a50:FM K Ab "work" "House.work" Wx)(a51:FM K Ab "wait" "House.wait" Ww)(a52:FG K "_law_do" s_do)(a53:FG K "_law_try" Yv)(a54:FG K "_law_cell_stream" WO)(a55:FG K "_law_cloth" WV)(a56:FG K "_law_deed" WW)(a57:W.findIn K (.ref Ab) "__init__"=so f57)(i57:W.isFn K (.ref f57)=true)(l57:K.lookup f57=fO oc57 od57 "__init__" "House.__init__" wJ (.ref T57) kV57 dc57 pm57 an57 cd57 ct57 sl57)(c57:W.codeIn K cd57 "House.__init__"=true)(k57:W.keepIn K (.ref f57)=true)(q57:K.lookup T57=some ⟨qc57,qd57,.seq #[qv57_0,qv57_1] qn57,qs57⟩)(a58:FG K "_law_seen" Yr)(a59:W.nsIn K mainGlobals "law"=so f59)(l59:K.lookup f59=fO oc59 od59 "law" "law" wK .none kV59 dc59 pm59 an59 cd59 ct59 sl59)(c59:W.codeIn K cd59 "law"=true)(k59:W.keepIn K (.ref f59)=true)(Z7:W.nsIn K mainGlobals "all"=some none)(Y7:W.nsIn K mainGlobals "bool"=some none)(Y8:W.nsIn K mainGlobals "dict"=some none)(S2:W.nsIn K mainGlobals "enumerate"=some none)(Z3:W.nsIn K mainGlobals "int"=some none)(R5:W.nsIn K mainGlobals "isinstance"=some none)(Z2:W.nsIn K mainGlobals "len"=some none)(Y9:W.nsIn K mainGlobals "list"=some none)(Z1:W.nsIn K mainGlobals "max"=some none)(Y6:W.nsIn K mainGlobals "range"=some none)(Z6:W.nsIn K mainGlobals "set"=some none)(V0:W.nsIn K mainGlobals "sorted"=some none)(Z4:W.nsIn K mainGlobals "str"=some none)(Z5:W.nsIn K mainGlobals "sum"=some none)(Y1:W.nsIn K mainGlobals "tuple"=some none)(Z8:W.nsIn K mainGlobals "zip"=some none)(N6:W.nsIn K mainGlobals "LONGEST_NAME"=some (some (.int 8 Ef)))(N7:W.nsIn K mainGlobals "MOST_CLOTHS"=some (some (.int 10 En)))(S1:W.nsIn K mainGlobals "MOST_HUES"=some (some (.int 4 E4)))(V9:W.nsIn K mainGlobals "PARTS"=some (some (.int 5 Q9)))(J3:PySem.W.excIn K Ae [.type "ValueError",.type "Exception",.type "BaseException",.type "object"] "ValueError.__new__"=true)(N4:PySem.W.excIn K Ah [.type "ValueError",.type "Exception",.type "BaseException",.type "object"] "ValueError.__new__"=true)(Ee:PySem.W.excIn K Ac [.type "ValueError",.type "Exception",.type "BaseException",.type "object"] "ValueError.__new__"=true)(E9:PySem.W.excIn K Af [.type "ValueError",.type "Exception",.type "BaseException",.type "object"] "ValueError.__new__"=true)(N5:PySem.W.excIn K Ak [.type "ValueError",.type "Exception",.type "BaseException",.type "object"] "ValueError.__new__"=true)(Em:PySem.W.excIn K Ai [.type "ValueError",.type "Exception",.type "BaseException",.type "object"] "ValueError.__new__"=true)(Iz:PySem.W.excIn K Ad [.type "ValueError",.type "Exception",.type "BaseException",.type "object"] "ValueError.__new__"=true)(A9:PySem.W.exmOne K (.ref Ae) (.ref Ap)=some true)(B6:PySem.W.exmOne K (.ref Ah) (.ref Ap)=some true)(B5:PySem.W.exmOne K (.ref Ak) (.ref Ap)=some true)(A5:PySem.W.exmOne K (.ref Ai) (.ref Ap)=some true)(B0:PySem.W.exmOne K (.ref Ad) (.ref Ap)=some true)(B7:PySem.W.exmOne K (.ref Ag) (.ref Ap)=some true):∃ fd:FuncData,(∀ (s:Shared) (v:Value),BindsTo s fd ⟨[v],[]⟩ [("script",v)])/\Qe K h/\∀ base:Heap,K.In base->base.Ns mainGlobals mg->FnOk l.prog w K mg base v5 11 fa fd ["script"] (Zv K):=by
 have e:=hfa.symm.trans (W.mg_of X G a59);cases e;have Ez:=W.mg_none_of X G Z7;have S6:=W.mg_none_of X G Y7;have E6:=W.mg_none_of X G Y8;have D3:=W.mg_none_of X G S2;have Q2:=W.mg_none_of X G Z3;have Aj:=W.mg_none_of X G R5;have Ax:=W.mg_none_of X G Z2;have Au:=W.mg_none_of X G Y9;have U5:=W.mg_none_of X G Z1;have A7:=W.mg_none_of X G Y6;have U7:=W.mg_none_of X G Z6;have Es:=W.mg_none_of X G V0;have Q1:=W.mg_none_of X G Z4;have S0:=W.mg_none_of X G Z5;have R3:=W.mg_none_of X G Y1;have V3:=W.mg_none_of X G Z8;have Ea:=W.mg_of X G N6;have Ej:=W.mg_of X G N7;have E7:=W.mg_of X G S1;have R7:=W.mg_of X G V9;have Q7:=W.mg_of X G Y2;have J4:=W.mg_of X G S8;have N1:=W.mg_of X G U4;have Ec:=W.mg_of X G S5;have E8:=W.mg_of X G S9;have N3:=W.mg_of X G U6;have El:=W.mg_of X G Q0;have Ey:=W.mg_of X G R4;have J7:=W.mg_of X G S7;have Y0:=W.mg_of X G Y4;have B4:=W.mg_of X G Y3;have D7:k8 K Ab:=⟨⟨T4,T9,U8,U2⟩⟩;have D4:k8 K Aa:=⟨⟨T8,U0,T7,T0⟩⟩;have Y5:w9 K Ab "now":=⟨S3⟩;have V5:w9 K Ab "past":=⟨R8⟩;have V2:w9 K Aa "given":=⟨N8⟩;have V8:w9 K Aa "held":=⟨R9⟩;have V7:w9 K Aa "last":=⟨Q6⟩;have T3:w9 K Aa "least":=⟨N9⟩;have V6:w9 K Aa "time":=⟨Q8⟩;have F26:=Kg (st:=vo) l26 c26 k26;have F57:=Kg (st:=wJ) l57 c57 k57;have F59:=zS (st:=wK) l59 c59 k59;have b26:Binds K (W.fnOf "__init__" "Works.__init__" (xB vo) (n9 vo) (j3 vo) (.ref T26) kV26 dc26 pm26 an26 cd26 ct26) ["self","rinses","cloths","last","time"] []:=Gj (T:=T26) rfl q26 rfl λus hl=>match us,hl with|[_,_,_,_,_],_=>⟨_,rfl,rfl⟩
 have b57:Binds K (W.fnOf "__init__" "House.__init__" (xB wJ) (n9 wJ) (j3 wJ) (.ref T57) kV57 dc57 pm57 an57 cd57 ct57) ["self","rinses","last","time"] []:=Gj (T:=T57) rfl q57 rfl λus hl=>match us,hl with|[_,_,_,_],_=>⟨_,rfl,rfl⟩
 have TK:Qe K h:=by refine ⟨λp hp=>?_,λp hp=>?_,λp hp q hq=>?_,λp hp=>?_,λp hp q hq e=>?_,λp hp=>?_⟩<;>rw [hTB] at hp<;>cases hp
 refine ⟨W.fnOf "law" "law" (xB wK) (n9 wK) (j3 wK) .none kV59 dc59 pm59 an59 cd59 ct59,λs v=> .of_eq rfl,TK,λbase _ _=>?_⟩;have Z:Zt l.prog w K mg base h:=⟨X,G⟩;have Q4:XMk l.prog w K mg base 1 "Twice" Ag "name":=fXI (st:=JS) Z Y0 U9 λF q s n=>NC F q s n;have Eg:=fG Z a0 λF=>Hv F;have Aw:=fG Z a1 λF=>HH F;have J8:=fG Z a2 λF=>HE F Eg Ax A7 S0;have R1:=fG Z a3 λF=>Hz F Aw;have Q5:=fG Z a4 λF=>He F R1 J8 Aw A7;have B3:=fG Z a5 λF=>Hk F S6 Q2 Aj;have At:=fG Z a6 λF=>Hw F;have B8:=fG Z a7 λF=>Hf F;have D2:=fG Z a8 λF=>Ht F;have Ep:=fG Z a9 λF=>NZ F;have E1:=fG Z a10 λF=>HK F;have A6:=fG Z a11 λF=>Hh F B3;have J1:=fG Z a12 λF=>Hi F Ez Aj Ax Q1 Ea;have Iy:=fG Z a13 λF=>Hg F Ep B8 A6 J1 B3 D2 At E1 Aj Ax R3 R7;have D9:=fG Z a14 λF=>Hj F B3 Ez Aj Ax Au;have Eb:=fGY (sp:=(m7 QL (Ve Ac))) Z a15 λF=>NT F D9 Ez Aj Ax Au E7 Ec Ee;have D5:=fG Z a16 λF=>HD F D3;have N2:=fG Z a17 λF=>Hm F;have J9:=fG Z a18 λF=>Hu F;have D8:=fG Z a19 λF=>HJ F N2 J9 V3;have Ew:=fG Z a20 λF=>Hr F D5 D8 Ax A7;have J2:=fG Z a21 λF=>HG F;have A3:=fGY (sp:=(vq vf (Xn Ac))) Z a22 λF=>Hq F Eb Ew J2;have A4:=fGY (sp:=(m7 vd (Xm Af))) Z a23 λF=>NU F A6 E8 E9;have A0:=fGY (sp:=(m7 vc (jI Ae Ad Ag))) Z a24 λF=>NR F Iy At Ax Ej J4 J7 Q4 J3 Iz;have Az:=fM (sp:=(w4 (zf Aa))) Z D4 a25 λF=>NG F Ax;have A8:jM l.prog w K mg base _ Aa _ (je (zz Aa (xO Aa) (jk Ae Ac Af Ad Ag Aa)) (vp Aa)):=⟨_,_,NH F26 A0 A4 A3 At E6 Au Az,⟨V4,a26,i26,V1⟩,b26⟩;have B9:=fM (sp:=(w4 (XQ Aa))) Z D4 a27 λF=>NN F;have Ek:=fM (sp:=(w4 (QK Aa))) Z D4 a28 λF=>NK F B9;have An:=fM (sp:=(w4 (xP Aa))) Z D4 a29 λF=>NM F;have Ar:=fM (sp:=(spO (zH Aa))) Z D4 a30 λF=>NI F Es;have Av:=fM (sp:=(spZ (jx Aa))) Z D4 a31 λF=>NL F Au;have Am:=fMY (sp:=(m7 (xE Aa) (jj Ah Aa))) Z D4 a32 λF=>NE F Aj Q1 N1 N4;have E5:=fG (sp:=(za [false,true] (wq Aa))) Z a33 λF=>NP F Ez Aj Ax Au U7 Ar;have Eh:=fG (sp:=(za [false,true] (XS Aa))) Z a34 λF=>NS F E5;have D1:=fG (sp:=(jd [false,true] (ve Aa))) Z a35 λF=>NY F Eh B8 D2 Am Ek An;have N0:=fG (sp:=(za [false,true] (XT Aa))) Z a36 λF=>Hc F D1 An;have Ay:=fM (sp:=(jd [false,true] (vM Aa))) Z D4 a37 λF=>NF F At;have J0:=fG Z a38 λF=>Hn F Ep;have Ed:=fG Z a39 λF=>Hd F U5;have E3:=fMY (sp:=(m7 (XO Aa) (Xl Ae Ac Af Ad Ag Aa))) Z D4 a40 λF=>NJ F Au B4 A8;have D6:=fMY (sp:=(m7 (XR Aa) (ZF Ae Ah Ac Af Ad Ag Aa))) Z D4 a41 λF=>NO F B4 Am Ay A8;have Ei:=fM (sp:=(za [false,true] (QJ Aa))) Z D4 a42 λF=>ND F N0 B8 B4 Ay A8;have Al:=fM (sp:=(xK Ab (qj 0))) Z D7 a43 λF=>NA F;have As:=fM (sp:=(xK Ab (qj 2))) Z D7 a44 λF=>NB F;have Ao:=fM (sp:=(jG Ab zd)) Z D7 a45 λF=>Nt F Au;have Aq:=fMY (sp:=(p9 Ab zJ zK)) Z D7 a46 λF=>Nx F;have Et:=fMY (sp:=(p9 Ab wY (Qf Ai))) Z D7 a47 λF=>Nr F El Em;have E2:=fMY (sp:=(p9 Ab (Qb Aa) (Qh Ae Ac Af Ad Ag Aa))) Z D7 a48 λF=>Nw F Ao Aq Al As E3;have Ex:=fMY (sp:=(p9 Ab (Qa Aa) (zD Ah Aa))) Z D7 a49 λF=>Nu F Ao Aq Al As D6;have Ev:=fMY (sp:=(p9 Ab (Qd Aa) (zD Ah Aa))) Z D7 a50 λF=>Nz F D1 Ed J0 Ao Aq Al As Ei Am;have Eu:=fMY (sp:=(p9 Ab (Qc Aa) (Qi Ak Aa))) Z D7 a51 λF=>Ny F A6 N3 B4 Ao Aq Al As Am Ar Av An A8 N5;have Z0:=fGY (sp:=(p9 Ab (wZ Aa) (Qg Ae Ah Ac Af Ak Ai Ad Ag Aa))) Z a52 λF=>ok_do F Et Ex E2 Eu Ev;have U1:=fG (sp:=(p9 Ab (vD Ae Ah Ac Af Ak Ai Ad Ag Aa) zK)) Z a53 λF=>HI F Z0 Ey A9 B6 B5 A5 B0 B7;have Eo:=fG Z a54 λF=>NQ F Eg A7;have Q3:=fG Z a55 λF=>NV F Aw Ax;have S4:=fG Z a56 λF=>NX F Q3 Aw Q2 Ax Es;have R6:jM l.prog w K mg base _ Ab _ (Zu Ab Aa):=⟨_,_,Nv F57 B4 A8,⟨U3,a57,i57,T2⟩,b57⟩;have Id:=fG (sp:=(w4 (vO Aa))) Z a58 λF=>HC F Am Ar Av An;exact Ho F59 Eo S4 Q5 Id U1 D3 Au Q7 Ao Al Am Ar Av An R6
theorem walk {l:PySem.W.OpenLaw}{q:Program}{loose:List Str}{XP:(Str->Option Value)->Heap->Prop}{YP:World->Heap->Prop}{d:DefRec}{K:Params->Fg}(hn:l.most=some 63)(hdf:d.params.defaults=[])(hY:∀ (w:World) (h:Heap),YP w h->(K w.params).In h)(F:∀ (w:World) (mg:Str->Option Value) (fa:Addr) (h:Heap),YP w h->(K w.params).In h->h.Ns mainGlobals mg->mg d.name=some (.ref fa) -> ∃ fd:FuncData,(∀ (s:Shared) (u:Value),BindsTo s fd ⟨[u],[]⟩ [("script",u)])/\Qe (K w.params) h/\∀ base:Heap,(K w.params).In base->base.Ns mainGlobals mg->FnOk l.prog w (K w.params) mg base v5 11 fa fd ["script"] (Zv (K w.params))):PySem.W.WalkO q loose XP YP l.row.toRowW d [] (λf vs=>PySem.call f vs) :=
 L2.Ip (n:=63) (k:=11) (x:="script") (CX:=λ_=>v5) (sp:=λw=>Zv (K w.params)) hn (by decide) hdf ⟨rfl,by decide,by decide⟩ hY F (λ_ _ a ns hl _ hS=>⟨a,ns,rfl,hS,hl,λ_=>rfl⟩) λ_ _ _ _ _ z=>z
end Lw
open PySem PySem.W PyProof.Rows
set_option maxRecDepth 100000 in
set_option maxHeartbeats 0 in
theorem PySem.Challenge.cw_rinsework_k84_house_keeps_its_own_holds : PySem.Challenge.rw_rinsework_k84_house_keeps_its_own.Holds := by
  w_on; o_law; k_head; (case hw => w_witness2)
  k_fill
  refine Lw.walk (l := PySem.Challenge.rw_rinsework_k84_house_keeps_its_own) rfl rfl (λw h Y => PySem.W.kIn_of Y) ?F
  case F =>
    intro w mg fa h Y KX G hmg
    apply Lw.all_mk KX (λ_ z => nomatch z) rfl G hmg
    iterate 11 k_is
    iterate 1 (apply Lw.FXI.i;(iterate 8 k_is);kernel_rfl)
    iterate 19 k_is
    iterate 25 (apply Lw.FG.i;iterate 4 k_is)
    iterate 1 (apply Lw.FM.i;iterate 5 k_is)
    iterate 6 k_is
    iterate 6 (apply Lw.FM.i;iterate 5 k_is)
    iterate 4 (apply Lw.FG.i;iterate 4 k_is)
    iterate 1 (apply Lw.FM.i;iterate 5 k_is)
    iterate 2 (apply Lw.FG.i;iterate 4 k_is)
    iterate 12 (apply Lw.FM.i;iterate 5 k_is)
    iterate 5 (apply Lw.FG.i;iterate 4 k_is)
    iterate 6 k_is
    iterate 1 (apply Lw.FG.i;iterate 4 k_is)
    iterate 24 k_is
    iterate 7 k_exc
    iterate 6 kts_exm
