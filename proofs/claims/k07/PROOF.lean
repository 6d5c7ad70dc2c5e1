import PyProof.Rows.All
import Wide.All
import OpenK.AllK
import Wide.FinOn
import Lean
import PyProof.EqAt
import PyProof.EqKinds
import PyProof.NeKinds
import PyProof.TupleCall
import PySem.Challenge.RW_rinsework_k07_works_told
set_option Elab.async false
set_option linter.all false
set_option maxRecDepth 100000
namespace PySem.W.Fast
def tw11511284940677076196:=0
def tw11572970007939221813:=0
def tw14271437051452595512:=0
def tw3323981801935792538:=0
def tw3443337179217202832:=0
def tw3615102084729546999:=0
def tw3847677403515181335:=0
def tw4162947322764043373:=0
def tw4436036684561021452:=0
def tw5299800497515604549:=0
def tw6868757442596913672:=0
def tw6958238965954001627:=0
def tw7183909577832847918:=0
def tw7997875547550139294:=0
def tw8416867094897822786:=0
def tw8959003028496524682:=0
def tw10308632209964867815:=0
def tw7383070461375439532:=0
def tw3262307155842693476:=0
def tw7220854431167467701:=0
def tw612467702316247290:=0
def tw7717848468528821547:=0
def tw9373341446274410487:=0
def tw17105653569845607689:=0
def tw11717603133756650198:=0
def tw11287208545064624495:=0
def tw17837239907321374330:=0
def tw13778063782226429495:=0
def tw1997469158244140167:=0
def tw10188407893137354467:=0
def tw15748373200250072927:=0
def tw11703074596242584309:=0
def tw2633643295675926627:=0
def tw17240044945752602470:=0
def tw232630971831833329:=0
def tw9915092528801628773:=0
def tw6343896031036484726:=0
def tw14299189526482619732:=0
def tw12289034065856310700:=0
def tw6432895298214178257:=0
def tw11995348581769726747:=0
def tw11577017074800483320:=0
def tw8814858934723583962:=0
def tw1656082217298265985:=0
def tw6749928244820392366:=0
def tw11905158617294629954:=0
def tw173869533408063738:=0
def tw13729536965806060501:=0
def tw8116347895006457743:=0
def tw2917270560737631321:=0
def tw14198368963113025478:=0
def tw11463429358592584369:=0
def tw2803363161744728436:=0
def tw14019717745463997847:=0
def tw9316004555061661054:=0
def tw1636828846980714304:=0
def tw14956977991948130888:=0
def tw15834726230639580116:=0
def tw12418540710812726386:=0
def tw13598135964133838409:=0
def tw16242482338464271836:=0
def tw1763023522535623105:=0
def tw4599030093167877904:=0
def tw7461440000021170597:=0
def tw16388435192369955648:=0
def tw12491394225048307009:=0
def tw12286531480762717813:=0
def tw2994096164136248542:=0
def tw3412246078859114870:=0
def tw8199389600784340239:=0
def tw16892759271022704599:=0
def tw2288603649607026920:=0
def tw3768873069855686882:=0
def tw14870477183179462399:=0
def tw17618465941319065582:=0
def tw14846950745455380568:=0
def tw15427987511138411659:=0
def tw15885174112321813141:=0
def tw8504106615328494946:=0
def tw204295128767823175:=0
def tw16152268118711446771:=0
def tw13122053480070240467:=0
def tw11796919380947585900:=0
def tw3226151895830029383:=0
def tw7717243986186533175:=0
def tw16990162334321413241:=0
def tw1511641019054669748:=0
def tw13047818050829666081:=0
def tw4018972956319592372:=0
def tw10557035133439247109:=0
def tw5563332396826126242:=0
def tw11085797243548750854:=0
def tw14395213787406692106:=0
def tw4801845170193756149:=0
def tw11942430727693758718:=0
def tw17174556748632856865:=0
def tw17883043930368560790:=0
def tw6176663799458785032:=0
def tw8165157026815090764:=0
def tw10362799111514029104:=0
def tw13683538612172701864:=0
def tw17009320826788346868:=0
def tw4043801269328773046:=0
def tw332948988987822453:=0
def tw3441085072436145920:=0
def tw17273888460071376497:=0
def tw2345097779474357583:=0
def tw5597529222574475403:=0
def tw4032702729261232310:=0
def tw4072173785684071775:=0
def tw7556947456066431153:=0
def tw441255761653470946:=0
def tw5092103108294130522:=0
def tw4118231208307856735:=0
def tw8997336489994733346:=0
def tw6017123536780226633:=0
def tw14551501368577595001:=0
def tw8057385654396106287:=0
def tw1710384873829554684:=0
def tw12848149554411010284:=0
def tw16606848025474802310:=0
def tw48800515048451314:=0
def tw1088545076710499143:=0
def tw10279458060082884034:=0
def tw12685223378596953861:=0
def tw13163350129886017356:=0
def tw17772417693843144801:=0
def tw5954294887636136885:=0
def tw7883862117386029844:=0
def tw4072762945511576448:=0
def tw6028277541568467728:=0
def tw13728970202264266327:=0
def tw10581680168708483727:=0
def tw16462353504711895680:=0
def tw1772453641354765334:=0
def tw10686155118181696044:=0
def tw11955288634525581648:=0
def tw15971587762959030945:=0
def tw8608592562177101747:=0
def tw3342751113107138049:=0
def tw6025078623081999527:=0
def tw7336376558621234436:=0
def tw6331160476130989254:=0
def tw9669045834372193143:=0
def tw6688391637753513320:=0
def tw7720756129308450886:=0
def tw13044030528513201559:=0
def tw6928569540593853671:=0
def tw1571242407811788061:=0
def tw5038109529255535083:=0
def tw11863738774352331837:=0
def tw12864725643094486439:=0
def tw12536745809159867991:=0
def tw9551322627920055277:=0
def tw7832545512015242471:=0
def tw11431878874810458519:=0
def tw4609194624969702494:=0
def tw6934715227051652992:=0
def tw18294900269873211867:=0
def tw2472339377230326426:=0
def tw1656301846726791287:=0
def tw6624576686884572100:=0
def tw14670347053009975478:=0
def tw324309341017408619:=0
def tw2948918511867604099:=0
def tw12840367926831225631:=0
def tw3920165361794514286:=0
def tw17074929685522659596:=0
def tw10829272345463163196:=0
def tw2202949045876465106:=0
def tw16500981162418539424:=0
def tw440243050616669081:=0
def tw9850229146907205609:=0
def tw8768883943395501020:=0
def tw13919113058780791454:=0
def tw9441938535309509111:=0
def tw17140907032297679229:=0
def tw7561709249798337183:=0
def tw4539671834051798793:=0
def tw9798079114941674311:=0
def tw7032625398860262734:=0
def tw4194992977519355548:=0
def tw16874583197432673842:=0
def tw16898308756700056002:=0
def tw8235596424672959042:=0
def tw5747899740459094984:=0
def tw13076589799462780288:=0
def tw9196815102120031305:=0
def tw8933147541604781548:=0
def tw17052089354819057759:=0
def tw12768896688710500344:=0
def tw6260884947579764687:=0
def tw10720519353082158613:=0
def tw8743881347921179115:=0
def tw7104726876142486226:=0
def tw5482970401676295735:=0
def tw11340156337558981723:=0
def tw9830774041196471428:=0
def tw16180560716717989180:=0
def tw3442768668536753983:=0
def tw197129357330835814:=0
def tw13310526877892842636:=0
def tw5265949276751073029:=0
def tw6253203583190056520:=0
def tw8815247663974310671:=0
def tw1887942973157878668:=0
def tw6541476693289558919:=0
def tw14547371968275180896:=0
def tw1110738026658738198:=0
def tw567260655432333881:=0
def tw1924062225090359734:=0
def tw4426643696670713744:=0
def tw15339849904077122506:=0
def tw8592702677897586953:=0
def tw935132457820045617:=0
def tw8834484504035041775:=0
def tw8340477547425814536:=0
def tw3853244278377756356:=0
def tw13429637124671509256:=0
def tw2860406468127665579:=0
def tw7746110223278963780:=0
def tw6159792057940611622:=0
def tw2384541768353289998:=0
def tw736063115076699006:=0
def tw17143519479207195089:=0
def tw10349988164041681174:=0
def tw16521779360131089905:=0
def tw16613594645493192926:=0
def tw13277650984171940088:=0
def tw16638299859043854689:=0
def tw12913067746438784996:=0
def tw4101149826927143171:=0
def tw807124855395487548:=0
def tw7436871390145687309:=0
def tw9490134536896260233:=0
def tw2901936366565607886:=0
def tw2663474259671995605:=0
def tw15134433261238996355:=0
def tw5630800137838805878:=0
def tw7462597885008594725:=0
def tw16618948315640686059:=0
def tw6701117656166516212:=0
def tw3695197060523818283:=0
def tw18407028352512153602:=0
def tw11745579474660829390:=0
def tw10886462109585969023:=0
def tw10532007062149070741:=0
def tw4697004830119790833:=0
def tw11136813799037357972:=0
def tw10387845847176853015:=0
def tw16960658441310674865:=0
def tw11375856489700466448:=0
def tw687978753719179042:=0
def tw13455907729529275285:=0
def tw11685404793023968667:=0
def tw16425370681482014635:=0
def tw566350109184152407:=0
def tw3506959570234792499:=0
def tw15629805591101609013:=0
def tw1547390278108884332:=0
def tw94339343798421107:=0
def tw8144470822298564784:=0
def tw1559522571144575400:=0
def tw16597976736682148154:=0
def tw8688274252698120666:=0
def tw13585053896496144747:=0
def tw3903160058356652306:=0
def tw12793989929115439482:=0
def tw4214743441160912273:=0
def tw17445246122624665591:=0
def tw5579113069296754558:=0
def tw15455584407900742839:=0
def tw4562594050897799595:=0
def tw9415052220107157705:=0
def tw7631914429746011313:=0
def tw2259563744435911533:=0
def tw1985737230841563283:=0
def tw7652591572634819305:=0
def tw14882860786352822336:=0
def tw18303077613974760712:=0
def tw1574402175195887471:=0
def tw11393462594384953675:=0
def tw17451003519145371646:=0
def tw8957464334012585179:=0
def tw1660341826404342400:=0
def tw4821559237678922831:=0
def tw13337987410155409900:=0
def tw16960669758616059727:=0
def tw14003544947242936313:=0
def tw9879728328333568291:=0
def tw1312748378391595333:=0
def tw9101747538562583437:=0
def tw4787378434202834302:=0
def tw3199132527164338342:=0
def tw6858056859625443304:=0
def tw14572636891596885845:=0
def tw2333766937575111874:=0
def tw5793110857587350437:=0
def tw303222700925957855:=0
def tw9596273198279821655:=0
def tw6160652597568887522:=0
def tw16742909977795668652:=0
def tw4868381004326755917:=0
def tw2545085499251689135:=0
def tw6309640103389362324:=0
def tw13935362429957207938:=0
def tw13986991098237892532:=0
def tw699113914790971131:=0
def tw15872629294607574349:=0
def tw2755088758555946622:=0
def tw567953154100780244:=0
def tw13785664291505390622:=0
def tw12918052386499053122:=0
def tw15523118618818925366:=0
def tw8523756742557001558:=0
def tw13632017025211991283:=0
end PySem.W.Fast
abbrev yZ:=@List.length_map
abbrev yY:=@List.size_toArray
abbrev yX:=@Bool.false_ne_true
abbrev yW:=@List.mem_cons_of_mem
abbrev yV:=@List.mem_cons_self
abbrev yU:=@PySem.wpAny_bind
abbrev yT:=@PySem.Heap.get?_push_of_some
abbrev yS:=@Nat.le_refl
abbrev yR:=@PySem.Heap.lt_size
abbrev yQ:=@List.getElem?_map
abbrev yP:=@List.map_cons
abbrev yO:=@List.mem_singleton
abbrev yN:=@List.getElem?_set
abbrev yM:=@Option.bind_some
abbrev yL:=@Nat.ne_of_lt
abbrev yK:=@List.mem_cons
abbrev yJ:=@Nat.lt_of_lt_of_le
abbrev yI:=@decide_eq_false
abbrev yH:=@List.getElem?_set_ne
abbrev yG:=@Option.map_eq_some_iff
abbrev yF:=@List.length_append
abbrev yE:=@Int.emod_lt_of_pos
abbrev yD:=@PySem.wpAny_pure
abbrev yC:=@List.mem_append_right
abbrev yB:=@List.append_nil
abbrev yA:=@List.mem_append
abbrev yz:=@List.map_append
abbrev yy:=@Int.emod_nonneg
abbrev yx:=@List.length_cons
abbrev yw:=@List.getElem?_eq_getElem
abbrev yv:=@PySem.Heap.get?_push_size
abbrev yu:=@List.nodup_cons
abbrev yt:=@List.length_set
abbrev yr:=@List.mem_map
abbrev yq:=@List.getElem?_eq_some_iff
abbrev yp:=@Bool.and_eq_true
abbrev yo:=@List.getElem_toArray
abbrev yn:=@List.map_map
abbrev ym:=@decide_eq_true
abbrev yk:=@List.mem_append_left
abbrev yj:=@List.getElem_mem
abbrev yi:=@Nat.zero_le
abbrev yh:=@Nat.le_trans
abbrev yg:=@List.not_mem_nil
abbrev yf:=@List.getElem?_append_left
abbrev ye:=@List.mem_map_of_mem
abbrev yd:=@of_decide_eq_true
abbrev yc:=@List.mem_filterMap
abbrev yb:=@List.lookup_cons
abbrev ya:=@List.all_eq_true
abbrev uZ:=@List.drop_eq_getElem_cons
abbrev uY:=@Nat.le_of_lt
abbrev uX:=@List.getElem?_append_right
abbrev uW:=@PySem.Heap.get?_none_of_le
abbrev uV:=@List.find?_cons
abbrev uU:=@Option.map_some
abbrev uT:=@Nat.lt_irrefl
abbrev uS:=@List.getElem?_replicate
abbrev uR:=@Int.eq_ofNat_of_zero_le
abbrev uQ:=@List.getElem_of_mem
abbrev uP:=@List.getElem?_set_self
abbrev uO:=@List.length_replicate
abbrev uN:=@List.mem_range
abbrev uM:=@List.drop_length
abbrev uL:=@List.length_eq_zero_iff
abbrev uK:=@List.nodup_nil
namespace L2
abbrev Fg:=PySem.W.Frag
end L2
namespace L2
open PySem PySem.Spec PyProof.Rows
variable{us:List Value}{C a b dx it:Addr}{u:Value}{P:Program}{w:World}{base h:Heap}{g':Array GenState}{j n t':Nat}{d':Drawn}{ch fp:List Addr}{m qual x:Str}{c e tg:Expr}{N ps:List Str}{A:Around}{E Q:Value->Shared->Prop}{s s':Shared}{α:Type}{pins:List (Addr×Obj)}{pos:Pos}{op op':CmpOp}{K:Fg}{f:Value->Value->Sem Value}{es:List Expr}{lo:Int}{pl:Sem Bool}{mA mg:Str->Option Value}{kw:List (Str×Value)}{fd:FuncData}{outer:List Env}{scope:Scope}
abbrev z8:=Sum Int Str
def jC:z8->Value->Bool
 | .inl k,v=>Value.isInt k v
 | .inr x,v=>Value.isStrOf x v
def keyH (w:World):z8->Int
 | .inl k=>hashInt k
 | .inr x=>hashStr w x
theorem zA:∀{k:z8}{v:Value},jC k v=true->(∃ i t,k=Sum.inl i/\v=Value.int i t)∨(∃ x t,k=Sum.inr x/\v=Value.str x t)
 | .inl i,v,h=>by
  obtain ⟨t,e⟩:=Value.isInt_shape (k:=i) (v:=v) h;exact .inl ⟨i,t,rfl,e⟩
 | .inr x,v,h=>by
  obtain ⟨t,e⟩:=Value.isStrOf_shape (x:=x) (v:=v) h;exact .inr ⟨x,t,rfl,e⟩
theorem KA (i:Int)(t:Tok):jC (.inl i) (.int i t)=true:=by simp [jC,Value.isInt]
theorem Wt (x:Str)(t:Tok):jC (.inr x) (.str x t)=true:=by simp [jC,Value.isStrOf]
theorem KB (a b:Int):decide ((Sum.inl a:z8)=Sum.inl b)=(a==b):=by
 by_cases e:a=b
 ·subst e;simp
 ·have h:¬ (Sum.inl a:z8)=Sum.inl b:=λq=>e (Sum.inl.inj q);rw [yI h];exact (beq_eq_false_iff_ne.mpr e).symm
theorem KE (a b:Str):decide ((Sum.inr a:z8)=Sum.inr b)=decide (a=b):=by
 by_cases e:a=b
 ·subst e;simp
 ·have h:¬ (Sum.inr a:z8)=Sum.inr b:=λq=>e (Sum.inr.inj q);rw [yI h,yI e]
theorem KC (a:Int)(b:Str):decide ((Sum.inl a:z8)=Sum.inr b)=false:=yI (λq=>nomatch q)
theorem KD (a:Str)(b:Int):decide ((Sum.inr a:z8)=Sum.inl b)=false:=yI (λq=>nomatch q)
def qo (prog:Program)(w:World):PySem.KeyKind prog w z8 where
 is:=jC
 hash:=keyH w
 inj:=λv a b ha hb=>by
  rcases zA ha with ⟨i,t,rfl,rfl⟩|⟨x,t,rfl,rfl⟩
  ·rcases zA hb with ⟨j,u,rfl,e⟩|⟨y,u,rfl,e⟩
   ·injection e with e1 _;rw [e1]
   ·exact nomatch e
  ·rcases zA hb with ⟨j,u,rfl,e⟩|⟨y,u,rfl,e⟩
   ·exact nomatch e
   ·injection e with e1 _;rw [e1]
 byValue:=λk v h=>by
  rcases zA h with ⟨i,t,rfl,rfl⟩|⟨x,t,rfl,rfl⟩<;>rfl
 pyHash:=λhv h=>by
  rcases zA hv with ⟨i,t,rfl,rfl⟩|⟨x,t,rfl,rfl⟩
  ·exact wpAny_pyHash_int h
  ·exact wpAny_pyHash_str h
 eqBool:=λhu hv h=>by
  rcases zA hu with ⟨i,t,rfl,rfl⟩|⟨x,t,rfl,rfl⟩
  ·rcases zA hv with ⟨j,u,rfl,rfl⟩|⟨y,u,rfl,rfl⟩
   ·rw [KB] at h;exact wpAny_eqBool_int h
   ·rw [KC] at h;exact SeqAt.EqAt.int_str i t y u _ _ _ _ h
  ·rcases zA hv with ⟨j,u,rfl,rfl⟩|⟨y,u,rfl,rfl⟩
   ·rw [KD] at h;exact SeqAt.EqAt.str_int x t j u _ _ _ _ h
   ·rw [KE] at h;exact wpAny_eqBool_str h
 «strs»:=λk x t v h=>by
  rcases zA h with ⟨i,u,rfl,e⟩|⟨y,u,rfl,e⟩
  ·exact nomatch e
  ·injection e with e1 _;subst e1;cases v<;>rfl
theorem Ba (prog:Program)(w:World)(i:Int)(t:Tok):(qo prog w).is (.inl i) (.int i t)=true:=KA i t
theorem WM (prog:Program)(w:World)(x:Str)(t:Tok):(qo prog w).is (.inr x) (.str x t)=true:=Wt x t
inductive V where
 |non|bl (b:Bool)|int (i:Int)|str (x:Str)|byt (b:Array UInt8)|flt (b:UInt64)|ref (a:Addr)|ty (n:String)
 deriving DecidableEq
variable{vs xs:List V}{v y:V}
def RelV:V->Value->Prop
 | .non,u=>u=Value.none
 | .bl b,u=>u=Value.bool b
 | .int i,u=>∃ t,u=Value.int i t
 | .str x,u=>∃ t,u=Value.str x t
 | .byt b,u=>∃ t,u=Value.bytes b t
 | .flt b,u=>∃ t,u=Value.float b t
 | .ref a,u=>u=Value.ref a
 | .ty n,u=>u=Value.type n
abbrev Vals:List V->List Value->Prop:=Paired RelV
theorem Vals.length (r:Vals xs us):xs.length=us.length:=Paired.length r
theorem Vals.get:∀{xs:List V}{us:List Value}{i:Nat}{x:V},Vals xs us->xs[i]?=some x->∃ u,us[i]?=some u/\RelV x u
 |_,_,_,_,.nil,e=>by simp at e
 |_,_,0,_,.cons r _,e=>by simp at e;subst e;exact ⟨_,rfl,r⟩
 |_,_,i+1,x,.cons _ t,e=>by
  obtain ⟨u,h1,h2⟩:=Vals.get (i:=i) (x:=x) t (by simpa using e);exact ⟨u,by simpa using h1,h2⟩
theorem Vals.set {x:V}{u:Value}(r:RelV x u):∀{xs:List V}{us:List Value}(i:Nat),Vals xs us->Vals (xs.set i x) (us.set i u)
 |_,_,_,.nil=> .nil
 |_,_,0,.cons _ t=> .cons r t
 |_,_,i+1,.cons q t=> .cons q (Vals.set r i t)
theorem Vals.append:∀{xs ys:List V}{us ws:List Value},Vals xs us->Vals ys ws->Vals (xs++ys) (us++ws)
 |_,_,_,_,.nil,s=>s
 |_,_,_,_,.cons r t,s=> .cons r (Vals.append t s)
def RelO:Option V->Option Value->Prop
 |some v,some u=>RelV v u
 |none,none=>True
 |_,_=>False
def KV {κ:Type}:List (κ×V)->List (κ×Value)->Prop:=Paired λ(p:κ×V) (q:κ×Value)=>p.1=q.1/\RelV p.2 q.2
def kV:z8->V
 | .inl i=> .int i
 | .inr x=> .str x
def TABS:List (Addr×Array Value×List (Pos×Str)):=[]
inductive HO where
 /-- a list -/
 |lst (xs:List V)
 /-- a tuple (never changes) -/
 |tup (xs:List V)
 /-- a dict whose keys are ints and texts;one whose keys are tuples of ints and texts (the empty one is t6) -/
 |dK (kvs:List (z8×V))|dT (kvs:List (List z8×V))
 /-- a set of ints: its members,its size -/
 |set (S:Int->Bool) (n:Nat)
 /-- an instance of the class at C,its dict at dx,its attributes -/
 |ins (C dx:Addr) (fs:List (Str×V))
 /-- the dict of the instance at x -/
 |own (x:Addr)
 /-- the dict of an exception -/
 |xd (fs:List (Str×V))
 /-- a bound method,f of x -/
 |met (f x:Addr)
 /-- a range object lo,lo+1,.. below hi -/
 |rng (lo hi:Int)
 /-- a thing that is known to the object (the script;a dict while a loop walks it): read,never written while it is so -/
 |frz (o:Obj) (u:HO)
 /-- a code object's table -/
 |tbl (ps:Array Value) (q:List (Pos×Str))
 /-- any other thing,by what is true of its one object (a def of one's own: SetO a S n:=HO.ext λh=> ..) -/
 |ext (φ:Heap->Prop)
variable{o:HO}
abbrev Hp:=Addr->Option HO
variable{H:Hp}{R:V->V->Hp->Prop}
def j3 (H:Hp)(a:Addr)(o:HO):Hp:=λb=>if b=a then some o else H b
theorem u3 :j3 H a o a=some o:=by unfold j3;rw [if_pos rfl]
theorem z9 (h:b≠a):j3 H a o b=H b:=by unfold j3;rw [if_neg h]
theorem ne_of {u:HO}(h:H a=some o)(h':H b=some u)(d:o≠u):a≠b:=by intro e;subst e;rw [h] at h';exact d (Option.some.inj h')
theorem w9 (h:H a=some o)(h':H b=none):a≠b:=by intro e;subst e;rw [h] at h';cases h'
section
variable (P:Program)(w:World)
def ObjOk (H:Hp)(h:Heap)(a:Addr):HO->Prop
 | .lst xs=>xs.length<=sizeLine/\∃ (its:List Value) (n:Nat),Vals xs its/\h.get? a=some { cls:= .type "list",data:= .seq its.toArray n }
 | .tup xs=>xs.length<=sizeLine/\∃ its:List Value,Vals xs its/\IsTup h a its.toArray
 | .dK kvs=>kvs.length<=sizeLine/\(a==sysModules)=false/\∃ vs,KV kvs vs/\h.DictOf (qo P w) a vs
 | .dT kvs=>kvs.length<=sizeLine/\(a==sysModules)=false/\∃ xs:List (List z8×Addr×Value),
   Paired (λ(p:List z8×V) (q:List z8×Addr×Value)=>p.1=q.1/\H q.2.1=some (.tup (p.1.map kV))/\RelV p.2 q.2.2) kvs xs /\
   ∃ o es ep,h.get? a=some o/\o.ExactDict/\o.data = .dict es ep/\es.toList=xs.map (entryOfKey (tupleKind (qo P w)))/\(xs.map (·.1)).Nodup
 | .set S n=>h.SetOf (intKind P w) a S n
 | .ins C dx fs=>H dx=some (.own a)/\fs.length<=1000/\dx≠a/\h.get? a=some (PySem.W.instObj C dx) /\
   ∃ mA,h.Ns1 dx mA/\(∀ f,RelO (fs.lookup f) (mA f))/\PySem.Within mA (fs.map (·.1))
 | .own _=>∃ o,h.get? a=some o
 | .xd fs=>∃ mA,h.Ns1 a mA/\∀ f,RelO (fs.lookup f) (mA f)
 | .rng lo hi=>∃ t u v,h.get? a=some { cls:= .type "range",data:= .fields #[.int lo t,.int hi u,.int 1 v] }
 | .frz o u=>h.get? a=some o/\ObjOk H h a u
 | .tbl ps q=>∃ more:Array Value,h.get? a=some { cls:= .none,data:= .fields (ps++more) }/\TriplesOk (ps++more).toList /\
   ∀ p∈q,codeAmong p.1 (ps++more).toList=none∨∃ c o vs t,codeAmong p.1 (ps++more).toList=some (.ref c)/\H c=some (.frz o (.own a))/\o.data = .fields vs/\vs[1]?=some (.str p.2 t)
 | .met f x=>h.get? a=some (PySem.W.methodObj (.ref f) (.ref x))
 | .ext φ=>φ h/\(∃ o,h.get? a=some o)/\∀ h1 h2:Heap,φ h1->(∀ o,h1.get? a=some o->h2.get? a=some o)->φ h2
def HOk (H:Hp)(h:Heap):Prop:=∀ a o,H a=some o->ObjOk P w H h a o
end
section
variable {P:Program}{w:World}{H H':Hp}{h h':Heap}{a:Addr}{o:HO}
theorem ObjOk.lt (x:ObjOk P w H h a o):a<h.objs.size:=by
 cases o with
 |lst xs=>obtain ⟨_,_,_,_,e⟩:=x;exact yR e
 |tup xs=>obtain ⟨_,_,_,p⟩:=x;exact p.lt
 |dK kvs=>obtain ⟨_,_,_,_,o,_,_,e,_⟩:=x;exact yR e
 |dT kvs=>obtain ⟨_,_,_,_,o,_,_,e,_⟩:=x;exact yR e
 |set S n=>obtain ⟨o,_,_,_,e,_⟩:=x;exact yR e
 |ins C dx fs=>obtain ⟨_,_,_,e,_⟩:=x;exact yR e
 |own y=>obtain ⟨_,e⟩:=x;exact yR e
 |xd fs=>obtain ⟨_,⟨_,_,_,e,_⟩,_⟩:=x;exact yR e
 |rng lo hi=>obtain ⟨_,_,_,e⟩:=x;exact yR e
 |frz ob u=>obtain ⟨e,_⟩:=x;exact yR e
 |tbl ps q=>obtain ⟨_,e,_⟩:=x;exact yR e
 |met f y=>exact yR (show h.get? a=some _ from x)
 |ext φ=>obtain ⟨_,⟨_,e⟩,_⟩:=x;exact yR e
theorem Paired.mapP {α β:Type}{F G:α->β->Prop}:∀{l₁:List α}{l₂:List β},Paired F l₁ l₂->(∀ a b,F a b->G a b)->Paired G l₁ l₂
 |_,_,.nil,_=> .nil
 |_,_,.cons r t,f=> .cons (f _ _ r) (Paired.mapP t f)
theorem ObjOk.stay (x:ObjOk P w H h a o)(k:∀ b u,(b=a∨H b=some (.own a))->h.get? b=some u->h'.get? b=some u)(ho:∀ b,H b=some (.own a)->H' b=some (.own a))(ht:∀ b xs,H b=some (.tup xs)->H' b=some (.tup xs))(hz:∀ b o u,H b=some (.frz o u)->H' b=some (.frz o u)):ObjOk P w H' h' a o:=by
 induction o with
 |lst xs=>obtain ⟨z,its,n,r,e⟩:=x;exact ⟨z,its,n,r,k _ _ (.inl rfl) e⟩
 |tup xs=>obtain ⟨z,its,r,ob,e,c⟩:=x;exact ⟨z,its,r,ob,k _ _ (.inl rfl) e,c⟩
 |dK kvs=>obtain ⟨z,y,vs,r,ob,es,ep,e,c⟩:=x;exact ⟨z,y,vs,r,ob,es,ep,k _ _ (.inl rfl) e,c⟩
 |dT kvs=>obtain ⟨z,y,xs,r,ob,es,ep,e,c⟩:=x;exact ⟨z,y,xs,Paired.mapP r λp q z=>⟨z.1,ht _ _ z.2.1,z.2.2⟩,ob,es,ep,k _ _ (.inl rfl) e,c⟩
 |set S n=>obtain ⟨ob,es,ep,t,e,c⟩:=x;exact ⟨ob,es,ep,t,k _ _ (.inl rfl) e,c⟩
 |ins C dx fs=>obtain ⟨d,z,ne,e,mA,⟨od,es,ep,e2,c⟩,r⟩:=x;exact ⟨ho _ d,z,ne,k _ _ (.inl rfl) e,mA,⟨od,es,ep,k _ _ (.inr d) e2,c⟩,r⟩
 |own y=>obtain ⟨ob,e⟩:=x;exact ⟨ob,k _ _ (.inl rfl) e⟩
 |xd fs=>obtain ⟨mA,⟨od,es,ep,e,c⟩,r⟩:=x;exact ⟨mA,⟨od,es,ep,k _ _ (.inl rfl) e,c⟩,r⟩
 |rng lo hi=>obtain ⟨t,u,v,e⟩:=x;exact ⟨t,u,v,k _ _ (.inl rfl) e⟩
 |frz ob u ih=>obtain ⟨e,q⟩:=x;exact ⟨k _ _ (.inl rfl) e,ih q⟩
 |tbl ps q =>
  obtain ⟨more,e,t,r⟩:=x;refine ⟨more,k a _ (.inl rfl) e,t,λp hp=>?_⟩;rcases r p hp with z|⟨c,o,vs,t,z,oc,e2⟩
  ·exact .inl z
  ·exact .inr ⟨c,o,vs,t,z,hz c o _ oc,e2⟩
 |met f y=>have e:h.get? a=some (PySem.W.methodObj (.ref f) (.ref y)):=x;show h'.get? a=some (PySem.W.methodObj (.ref f) (.ref y));exact k a _ (.inl rfl) e
 |ext φ=>obtain ⟨p,⟨o,e⟩,st⟩:=x;exact ⟨st _ _ p λo q=>k _ _ (.inl rfl) q,⟨o,k _ _ (.inl rfl) e⟩,st⟩
theorem HOk.lt (x:HOk P w H h)(e:H a=some o):a<h.objs.size:=(x a o e).lt
theorem HOk.fresh (x:HOk P w H h)(e:h.objs.size<=a):H a=none:=by
 cases q:H a with
 |none=>rfl
 |some u=>exact absurd (yJ (x.lt q) e) (uT _)
theorem HOk.kept (x:HOk P w H h)(k:∀ b u,h.get? b=some u->h'.get? b=some u):HOk P w H h':=λa o e =>
 (x a o e).stay (λb u _ q=>k b u q) (λ_ q=>q) (λ_ _ q=>q) λ_ _ _ q=>q
theorem HOk.laid (x:HOk P w H h)(k:∀ b u,h.get? b=some u->h'.get? b=some u)(hp:h.objs.size<=a)(new:ObjOk P w (j3 H a o) h' a o):HOk P w (j3 H a o) h':=λb u e=>by
 have hn:=x.fresh hp;by_cases hb:b=a
 ·subst hb;rw [u3] at e;cases e;exact new
 ·rw [z9 hb] at e;exact (x b u e).stay (λc v _ q=>k c v q) (λc q=>by rw [z9 (w9 q hn)];exact q) (λc xs q=>by rw [z9 (w9 q hn)];exact q) λc _ _ q=>by rw [z9 (w9 q hn)];exact q
end
def Rd (H:Hp)(a:Addr)(u:HO):Prop:=H a=some u∨∃ o,H a=some (.frz o u)
theorem Rd.ok {u:HO}(r:Rd H a u)(x:HOk P w H h):ObjOk P w H h a u:=by
 rcases r with r|⟨o,r⟩
 ·exact x a u r
 ·obtain ⟨_,q⟩:=x a _ r;exact q
def Mut:Option HO->Prop
 |some (.lst _)=>True
 |some (.dK _)=>True
 |some (.dT _)=>True
 |some (.set _ _)=>True
 |some (.ins _ _ _)=>True
 |some (.ext _)=>True
 |_=>False
section
variable {P:Program}{w:World}{H:Hp}{h h':Heap}{x e:Addr}{o':HO}
theorem HOk.write (ok:HOk P w H h)(mu:Mut (H x))(he:e=x∨H e=some (.own x))(k:∀ b u,b≠e->h.get? b=some u->h'.get? b=some u)(heo:∃ u,h'.get? e=some u)(new:ObjOk P w (j3 H x o') h' x o'):HOk P w (j3 H x o') h':=λb u q=>by
 have nown:∀ c y,H c=some (.own y)->c≠x:=λc y r z=>by subst z;rw [r] at mu;exact mu
 have ntup:∀ c xs,H c=some (.tup xs)->c≠x:=λc xs r z=>by subst z;rw [r] at mu;exact mu
 have nfrz:∀ c ob xs,H c=some (.frz ob xs)->c≠x:=λc ob xs r z=>by subst z;rw [r] at mu;exact mu
 by_cases hb:b=x
 ·subst hb;rw [u3] at q;cases q;exact new
 ·rw [z9 hb] at q;by_cases hbe:b=e
  ·have q':H b=some (.own x):=by
    rcases he with z|z
    ·exact absurd (hbe.trans z) hb
    ·rw [hbe];exact z
   rw [q] at q';cases q';obtain ⟨v,hv⟩:=heo;exact ⟨v,by rw [hbe];exact hv⟩
  ·refine (ok b u q).stay (λc v hc r=>k c v ?_ r) (λc r=>by rw [z9 (nown c b r)];exact r) (λc xs r=>by rw [z9 (ntup c xs r)];exact r) λc ob xs r=>by rw [z9 (nfrz c ob xs r)];exact r
   rcases hc with rfl|hc
   ·exact hbe
   ·rintro rfl;rcases he with z|z
    ·exact nown c b hc z
    ·rw [hc] at z;cases z;exact hb rfl
end
structure Un (fs ex:List Addr)(H H':Hp)(h h':Heap):Prop where
 keep:∀ b o,h.get? b=some o->H b=none->b∉fs->b∉ex->h'.get? b=some o
 slot:∀ b o,h.get? b=some o->H b=none->b∈fs->b∉ex->∃ sl,h'.get? b=some { o with slots:=sl }
 free:∀ b o,h.get? b=some o->H b=none->b∉ex->H' b=none
 there:∀ b o,h.get? b=some o->b∉ex->∃ o',h'.get? b=some o'
 tups:∀ b xs,H b=some (.tup xs)->H' b=some (.tup xs)
 frzs:∀ b o u,H b=some (.frz o u)->H' b=some (.frz o u)
 tbls:∀ b ps q,H b=some (.tbl ps q)->H' b=some (.tbl ps q)
section
variable {fs fs' ex ex':List Addr}{H H1 H2:Hp}{h h1 h2 h':Heap}{a x e:Addr}{o:HO}
theorem Un.any (u:Un fs ex H H1 h h1){ob:Obj}(q:h.get? b=some ob)(n:H b=none)(hx:b∉ex):∃ sl,h1.get? b=some { ob with slots:=sl }:=by
 by_cases hb:b∈fs
 ·exact u.slot b ob q n hb hx
 ·exact ⟨ob.slots,u.keep b ob q n hb hx⟩
theorem Un.kept (k:∀ b u,h.get? b=some u->h'.get? b=some u):Un fs ex H H h h' :=
 ⟨λb ob q _ _ _=>k b ob q,λb ob q _ _ _=>⟨ob.slots,k b ob q⟩,λ_ _ _ n _=>n,λb ob q _=>⟨ob,k b ob q⟩,λ_ _ q=>q,λ_ _ _ q=>q,λ_ _ _ q=>q⟩
theorem Un.refl:Un fs ex H H h h:=Un.kept λ_ _ q=>q
theorem Un.laid (k:∀ b u,h.get? b=some u->h'.get? b=some u)(hp:h.objs.size<=a)(hn:H a=none):Un fs ex H (j3 H a o) h h' where
 keep:=λb u q _ _ _=>k b u q
 slot:=λb u q _ _ _=>⟨u.slots,k b u q⟩
 free:=λb u q n _=>by rw [z9 (yL (yJ (yR q) hp))];exact n
 there:=λb u q _=>⟨u,k b u q⟩
 tups:=λb xs q=>by rw [z9 (w9 q hn)];exact q
 frzs:=λb u xs q=>by rw [z9 (w9 q hn)];exact q
 tbls:=λb ps z q=>by rw [z9 (w9 q hn)];exact q
theorem Un.write (mu:Mut (H x))(he:e=x∨H e=some (.own x))(k:∀ b u,b≠e->h.get? b=some u->h'.get? b=some u)(heo:∃ u,h'.get? e=some u):Un fs ex H (j3 H x o) h h':=by
 have hx:∀ b,H b=none->b≠x:=λb n z=>by subst z;rw [n] at mu;exact mu
 have hb:∀ b,H b=none->b≠e:=λb n z=>by
  subst z;rcases he with r|r
  ·exact hx b n r
  ·rw [n] at r;cases r
 have hm:∀ b u,H b=some u->¬ Mut (some u)->b≠x:=λb u q nm z=>by subst z;rw [q] at mu;exact nm mu
 refine ⟨λb u q n _ _=>k b u (hb b n) q,λb u q n _ _=>⟨u.slots,k b u (hb b n) q⟩,λb u q n _=>by rw [z9 (hx b n)];exact n,λb u q _=>?_,
  λb xs q=>by rw [z9 (hm b _ q λz=>z)];exact q,λb u xs q=>by rw [z9 (hm b _ q λz=>z)];exact q,λb ps r q=>by rw [z9 (hm b _ q λz=>z)];exact q⟩
 by_cases hbe:b=e
 ·subst hbe;exact heo
 ·exact ⟨u,k b u hbe q⟩
end
def trk (h:Heap)(H:Hp):List Addr:=(List.range h.objs.size).filter λa=>(H a).isSome
def zy (h:Heap)(H:Hp):Heap:=PySem.W.hideAll h (trk h H)
theorem GY (h:Heap)(H:Hp):(zy h H).objs.size=h.objs.size:=PySem.W.hideAll_size _ _
theorem GX {o:Obj}(e:h.get? b=some o)(n:H b=none):(zy h H).get? b=some o :=
 PySem.W.hideAll_get _ e λhm=>by
  have q:(H b).isSome=true:=(List.mem_filter.mp hm).2;rw [n] at q;simp at q
theorem Be {o:Obj}(e:(zy h H).get? b=some o):h.get? b=some o/\H b=none:=by
 have e':h.get? b=some o:=PySem.W.of_hideAll (trk h H) e;refine ⟨e',?_⟩;cases q:H b with
 |none=>rfl
 |some x=>have hm:b∈trk h H:=List.mem_filter.mpr ⟨uN.mpr (yR e'),by simp [q]⟩;have z:(zy h H).get? b=none:=PySem.W.hideAll_none (trk h H) hm;rw [z] at e;cases e
structure Mod (K:Fg)(mg:Str->Option Value)(base:Heap):Prop where
 kin:K.In base
 glob:base.Ns mainGlobals mg
 blt:∃ mb,base.Ns builtinsNs mb/\∀ x:Str,x ≠ "__name__"->mb x=bootBuiltins x
 nolimit:base.NoLimit
 bmn:∃ bm ob,mg "__builtins__"=some (.ref bm)/\bm≠builtinsNs/\base.get? bm=some ob/\ob.cls = .type "module"/\ob.dict=some builtinsNs/\ob.data = .plain
structure Cx where
 prog:Program
 w:World
 K:Fg
 mg:Str->Option Value
 base:Heap
 A:Around
 N:List Str
 s₀:Shared
 H₀:Hp
 env:Env
 outer:List Env
 stack:List Env
 ex:List Addr
 fn:Str->Bool
 calm:Bool
 pn:List (Addr×Obj)
 xe:Value->Shared->Prop
variable{X:Cx}
def p7 (l:List Env):List Addr:=l.filterMap (·.frame)
abbrev Cx.fs (X:Cx):List Addr:=p7 X.outer
def Vis (sc:Scope)(x:Str):Prop:=sc.names.lookup x=some .local∨sc.names.lookup x=some .cell∨sc.names.lookup x=some .free
def Loc (sc:Scope)(x:Str):Prop:=sc.names.lookup x=some .local∨sc.names.lookup x=some .cell
def Look (env:Env)(h:Heap)(m:Str->Option Value)(x:Str)(u:Value):Prop :=
 (env.kindOf x=some .local/\m x=some u)∨((env.kindOf x=some .cell∨env.kindOf x=some .free)/\∃ c,env.cells.lookup x=some c/\h.IsCell c (some u))
structure Cx.Ok (X:Cx):Prop where
 mod:Mod X.K X.mg X.base
 kind:X.env.scope.kind = .function
 glob:X.env.globals=mainGlobals
 blt:X.env.builtins=builtinsNs
 above:X.s₀.heap.objs.size<=X.env.locals
 inj:∀ x y c,X.env.cells.lookup x=some c->X.env.cells.lookup y=some c->x=y
 has:∀ x,(X.env.kindOf x=some .cell∨X.env.kindOf x=some .free)->∃ c,X.env.cells.lookup x=some c
 cab:∀ x c,X.fn x=true->X.env.cells.lookup x=some c->X.s₀.heap.objs.size<=c
 hd:X.calm=true->X.A.handled=none
 frames:X.A.frames=some X.stack
 stk:X.stack=X.outer∨(X.stack=X.env::X.outer/\X.env.frame=some X.env.locals)
 exf:∀ b∈X.ex,b≠X.env.locals/\∀ x c,X.env.cells.lookup x=some c->c≠b
 bs:∀ b o,X.base.get? b=some o->X.s₀.heap.get? b=some o/\X.H₀ b=none
 bsz:X.base.objs.size<=X.s₀.heap.objs.size
 noex:∀ b o,X.base.get? b=some o->b∉X.ex
 exfs:∀ b∈X.ex,b∉X.fs
 funs:X.s₀.heap.FunFrames X.base X.outer
 frf:∀ b∈X.fs,X.H₀ b=none
 tbs:∀ p∈TABS,X.H₀ p.1=some (.tbl p.2.1 p.2.2)
structure Inv (X:Cx)(pins:List (Addr×Obj))(U:List (Option V))(H:Hp)(s:Shared):Prop where
 ok:X.Ok
 os:s.os=X.s₀.os
 bare:AllBare s.gens
 base:Un X.fs X.ex X.H₀ H X.s₀.heap s.heap
 loc:∃ m,s.heap.Ns X.env.locals m/\∀(i:Nat)(x:Str)(v:V),X.N[i]?=some x->U[i]?=some (some v)->Vis X.env.scope x->∃ u,RelV v u/\Look X.env s.heap m x u
 cell:∀ x c,X.env.cells.lookup x=some c->∃ v,s.heap.IsCell c v
 free:H X.env.locals=none
 freeC:∀ x c,X.env.cells.lookup x=some c->H c=none
 pin:∀ p∈X.pn++pins,s.heap.get? p.1=some p.2/\H p.1=none/\p.1≠X.env.locals/\p.1∉X.fs/\∀ v,p.2.data ≠ .cell v
 hok:HOk X.prog X.w H s.heap
 len:U.length=X.N.length
section
variable {X:Cx}{pins:List (Addr×Obj)}{U:List (Option V)}{H H':Hp}{s:Shared}{h':Heap}
theorem Cx.Ok.nofr (ok:X.Ok){o:Obj}(e:X.base.get? b=some o):b∉X.fs:=λhb=>by
 have:=(ok.funs.mem hb).1;rw [e] at this;cases this
theorem Inv.bs (I:Inv X pins U H s):∀ b o,X.base.get? b=some o->s.heap.get? b=some o/\H b=none:=λb o e =>
 ⟨I.base.keep b o (I.ok.bs b o e).1 (I.ok.bs b o e).2 (I.ok.nofr e) (I.ok.noex b o e),I.base.free b o (I.ok.bs b o e).1 (I.ok.bs b o e).2 (I.ok.noex b o e)⟩
theorem Inv.bk (I:Inv X pins U H s):∀ b o,X.base.get? b=some o->s.heap.get? b=some o:=λb o e=>(I.bs b o e).1
theorem Inv.mod (I:Inv X pins U H s):Mod X.K X.mg X.base:=I.ok.mod
theorem Inv.kIn (I:Inv X pins U H s):X.K.In s.heap:=I.ok.mod.kin.keeps I.bk
theorem Inv.fr (I:Inv X pins U H s):∃ m,Fr X.base X.env.locals s.heap m :=
 let ⟨m,hn,_⟩:=I.loc
 ⟨m,hn,I.bk,yh I.ok.bsz I.ok.above⟩
theorem Inv.lt (I:Inv X pins U H s):X.env.locals<s.heap.objs.size:=let ⟨_,hn,_⟩:=I.loc;hn.lt
theorem Inv.sz (I:Inv X pins U H s):X.s₀.heap.objs.size<=s.heap.objs.size:=yh I.ok.above (uY I.lt)
theorem Inv.nofs (I:Inv X pins U H s)(h:s.heap.objs.size<=a):a∉X.fs:=λhb=>by
 obtain ⟨_,o,ho,_⟩:=I.ok.funs.mem hb;exact absurd (yJ (yR ho) (yh I.sz h)) (uT _)
theorem Inv.cne (I:Inv X pins U H s):∀ x c,X.env.cells.lookup x=some c->c≠X.env.locals:=λx c e z=>by
 obtain ⟨v,o,ho,hd⟩:=I.cell x c e;obtain ⟨m,⟨o',es,ep,ho',hd',_⟩,_⟩:=I.loc;rw [z,ho'] at ho;cases ho;rw [hd'] at hd;cases hd
theorem Inv.funs (I:Inv X pins U H s):s.heap.FunFrames X.base X.outer:=by
 have all:∀(l:List Env),(∀ b∈p7 l,b∈X.fs)->X.s₀.heap.FunFrames X.base l->s.heap.FunFrames X.base l:=by
  intro l
  induction l with
  |nil=>intro _ _;trivial
  |cons env r ih=>intro hs hl;obtain ⟨hk,⟨L,o,hf,hn,ho,hd⟩,hr⟩:=hl;have hL:L∈X.fs:=hs L (by unfold p7;rw [List.filterMap_cons,hf];exact yV);obtain ⟨sl,e⟩:=I.base.slot L o ho (I.ok.frf L hL) hL λz=>I.ok.exfs L z hL;exact ⟨hk,⟨L,_,hf,hn,e,hd⟩,ih (λb hb=>hs b (by unfold p7;rw [List.filterMap_cons,hf];exact yW _ hb)) hr⟩
 exact all X.outer (λ_ hb=>hb) I.ok.funs
theorem Inv.stack (I:Inv X pins U H s):s.heap.FunFrames X.base X.stack:=by
 rcases I.ok.stk with e|⟨e,hf⟩
 ·rw [e];exact I.funs
 ·rw [e];obtain ⟨m,hn,_⟩:=I.loc;refine .cons (by rw [I.ok.kind];decide) hf hn ?_ I.funs;exact uW (yh I.ok.bsz I.ok.above)
theorem Inv.stkSub (I:Inv X pins U H s):∀ b∈p7 X.stack,b∈X.env.locals::X.fs:=λb hb=>by
 rcases I.ok.stk with e|⟨e,hf⟩
 ·rw [e] at hb;exact yW _ hb
 ·rw [e] at hb;unfold p7 at hb;rw [List.filterMap_cons,hf] at hb;exact hb
theorem Inv.stkFree (I:Inv X pins U H s):∀ b∈p7 X.stack,H b=none:=λb hb=>by
 rcases yK.mp (I.stkSub b hb) with e|hb
 ·rw [e];exact I.free
 ·obtain ⟨_,o,ho,_⟩:=I.ok.funs.mem hb;exact I.base.free b o ho (I.ok.frf b hb) λz=>I.ok.exfs b z hb
theorem Inv.step (I:Inv X pins U H s)(hch:∀ b∈ch,(b∈X.ex∨X.s₀.heap.objs.size<=b)/\b≠X.env.locals/\(∀ x c,X.env.cells.lookup x=some c->c≠b)/\∀ p∈X.pn++pins,p.1≠b)(keep:∀ b o,b≠X.env.locals->b∉X.fs->b∉ch->s.heap.get? b=some o->H b=none->h'.get? b=some o)(slot:∀ b o,b≠X.env.locals->b∈X.fs->b∉ch->s.heap.get? b=some o->H b=none->∃ sl,h'.get? b=some { o with slots:=sl })(free:∀ b o,b∉ch->s.heap.get? b=some o->H b=none->H' b=none)(there:∀ b o,b∉ch->s.heap.get? b=some o->∃ o',h'.get? b=some o')(tups:∀ b xs,H b=some (.tup xs)->H' b=some (.tup xs))(frzs:∀ b o u,H b=some (.frz o u)->H' b=some (.frz o u))(tbls:∀ b ps q,H b=some (.tbl ps q)->H' b=some (.tbl ps q))(ns:∀ m,s.heap.Ns X.env.locals m->h'.Ns X.env.locals m)(hok:HOk X.prog X.w H' h')(hg:AllBare g'):Inv X pins U H' { s with heap:=h',gens:=g',drawn:=d',toks:=t' }:=by
 have neL:∀ b o,X.s₀.heap.get? b=some o->b≠X.env.locals:=λb o e=>yL (yJ (yR e) I.ok.above);have neC:∀ b o,X.s₀.heap.get? b=some o->b∉X.ex->b∉ch:=λb o e hx hb=>by
  rcases (hch b hb).1 with z|z
  ·exact hx z
  ·exact absurd (yJ (yR e) z) (uT _)
 have cellK:∀ x c,X.env.cells.lookup x=some c->∀ v,s.heap.IsCell c v->h'.IsCell c v:=λx c e v ⟨o,ho,hd⟩=>by
  have nch:c∉ch:=λz=>(hch c z).2.2.1 x c e rfl;by_cases hc:c∈X.fs
  ·obtain ⟨sl,q⟩:=slot c o (I.cne x c e) hc nch ho (I.freeC x c e);exact ⟨_,q,hd⟩
  ·exact ⟨o,keep c o (I.cne x c e) hc nch ho (I.freeC x c e),hd⟩
 refine ⟨I.ok,I.os,hg,⟨λb o e n hb hx=>?_,λb o e n hb hx=>?_,λb o e n hx=>?_,λb o e hx=>?_,λb xs e=>tups b xs (I.base.tups b xs e),λb o xs e=>frzs b o xs (I.base.frzs b o xs e),λb ps q e=>tbls b ps q (I.base.tbls b ps q e)⟩,?_,λx c e=>?_,?_,λx c e=>?_,λp hp=>?_,hok,I.len⟩
 ·exact keep b o (neL b o e) hb (neC b o e hx) (I.base.keep b o e n hb hx) (I.base.free b o e n hx)
 ·obtain ⟨sl,e1⟩:=I.base.slot b o e n hb hx;obtain ⟨sl',e2⟩:=slot b _ (neL b o e) hb (neC b o e hx) e1 (I.base.free b o e n hx);exact ⟨sl',e2⟩
 ·obtain ⟨o',e1⟩:=I.base.there b o e hx;exact free b o' (neC b o e hx) e1 (I.base.free b o e n hx)
 ·obtain ⟨o',e1⟩:=I.base.there b o e hx;exact there b o' (neC b o e hx) e1
 ·obtain ⟨m,hn,hl⟩:=I.loc;refine ⟨m,ns m hn,λi x v e1 e2 e3=>?_⟩;obtain ⟨u,r,l⟩:=hl i x v e1 e2 e3;refine ⟨u,r,?_⟩;rcases l with l|⟨k,c,e,z⟩
  ·exact .inl l
  ·exact .inr ⟨k,c,e,cellK x c e _ z⟩
 ·obtain ⟨v,z⟩:=I.cell x c e;exact ⟨v,cellK x c e v z⟩
 ·obtain ⟨m,⟨o,_,_,ho,_⟩,_⟩:=I.loc;exact free _ o (λz=>(hch _ z).2.1 rfl) ho I.free
 ·obtain ⟨v,o,ho,hd⟩:=I.cell x c e;exact free c o (λz=>(hch c z).2.2.1 x c e rfl) ho (I.freeC x c e)
 ·obtain ⟨e,n,ne,nf,d⟩:=I.pin p hp;have nch:p.1∉ch:=λz=>(hch p.1 z).2.2.2 p hp rfl;exact ⟨keep p.1 p.2 ne nf nch e n,free p.1 p.2 nch e n,ne,nf,d⟩
theorem Inv.un (I:Inv X pins U H s)(u:Un X.fs [] H H' s.heap h')(hok:HOk X.prog X.w H' h'):Inv X pins U H' { s with heap:=h',toks:=t' }:=by
 obtain ⟨m,⟨o,es,ep,ho,r⟩,_⟩:=id I.loc;obtain ⟨sl,hL⟩:=u.any ho I.free (by simp);exact I.step (g':=s.gens) (d':=s.drawn) (ch:=[]) (λ_ z=>nomatch z) (λb o _ hb _ e n=>u.keep b o e n hb (by simp)) (λb o _ hb _ e n=>u.slot b o e n hb (by simp)) (λb o _ e n=>u.free b o e n (by simp)) (λb o _ e=>u.there b o e (by simp)) u.tups u.frzs u.tbls (λm' hm=>by
  obtain ⟨o',es',ep',ho',r'⟩:=hm;rw [ho] at ho';cases ho';exact ⟨_,es',ep',hL,r'⟩) hok I.bare
theorem Inv.call (I:Inv X pins U H s)(u:Un (p7 X.stack) ch H H' s.heap h')(hok:HOk X.prog X.w H' h')(hg:AllBare g')(hch:∀ b∈ch,(b∈X.ex∨X.s₀.heap.objs.size<=b)/\b≠X.env.locals/\(∀ x c,X.env.cells.lookup x=some c->c≠b)/\∀ p∈X.pn++pins,p.1≠b):Inv X pins U H' { s with heap:=h',gens:=g',drawn:=d',toks:=t' }:=by
 obtain ⟨m,⟨o,es,ep,ho,r⟩,_⟩:=id I.loc;obtain ⟨sl,hL⟩:=u.any ho I.free λz=>(hch _ z).2.1 rfl;exact I.step (ch:=ch) hch (λb o hL hb hc e n=>u.keep b o e n (λz=>(yK.mp (I.stkSub b z)).elim hL hb) hc) (λb o _ _ hc e n=>u.any e n hc) (λb o hc e n=>u.free b o e n hc) (λb o hc e=>u.there b o e hc) u.tups u.frzs u.tbls (λm' hm=>by
  obtain ⟨o',es',ep',ho',r'⟩:=hm;rw [ho] at ho';cases ho';exact ⟨_,es',ep',hL,r'⟩) hok hg
theorem Inv.turned (I:Inv X pins U H s)(k:∀ b o,b≠it->s.heap.get? b=some o->h'.get? b=some o)(hn:H it=none)(hL:it≠X.env.locals)(h1:it∈X.ex∨X.s₀.heap.objs.size<=it)(h2:∀ x c,X.env.cells.lookup x=some c->c≠it)(h3:∀ p∈X.pn++pins,p.1≠it):Inv X pins U H { s with heap:=h',toks:=t' }:=by
 have nit:∀ b u,H b=some u->b≠it:=λb u e z=>by rw [z,hn] at e;cases e
 refine I.step (g':=s.gens) (d':=s.drawn) (ch:=[it]) (λb hb=>?_) (λb o _ _ hc e _=>k b o (λz=>hc (by simp [z])) e) (λb o _ _ hc e _=>⟨o.slots,k b o (λz=>hc (by simp [z])) e⟩) (λ_ _ _ _ n=>n)
  (λb o hc e=>⟨o,k b o (λz=>hc (by simp [z])) e⟩) (λ_ _ e=>e) (λ_ _ _ e=>e) (λ_ _ _ e=>e) (λm hm=>?_) (λb u e=>?_) I.bare
 ·have e:b=it:=by simpa using hb
  subst e;exact ⟨h1,hL,h2,h3⟩
 ·obtain ⟨o,es,ep,ho,r⟩:=hm;exact ⟨o,es,ep,k _ o (Ne.symm hL) ho,r⟩
 ·refine (I.hok b u e).stay (λc v hc q=>k c v ?_ q) (λ_ q=>q) (λ_ _ q=>q) λ_ _ _ q=>q;rcases hc with z|z
  ·rw [z];exact nit b u e
  ·exact nit c _ z
theorem Inv.tok (I:Inv X pins U H s)(t:Nat):Inv X pins U H { s with toks:=t }:=I.un (h':=s.heap) (t':=t) Un.refl I.hok
theorem Inv.kept (I:Inv X pins U H s)(k:∀ b u,s.heap.get? b=some u->h'.get? b=some u):Inv X pins U H { s with heap:=h',toks:=t' }:=I.un (Un.kept k) (I.hok.kept k)
theorem Inv.laid (I:Inv X pins U H s)(k:∀ b u,s.heap.get? b=some u->h'.get? b=some u)(hp:s.heap.objs.size<=a)(new:ObjOk X.prog X.w (j3 H a o) h' a o):Inv X pins U (j3 H a o) { s with heap:=h',toks:=t' }:=I.un (Un.laid k hp (I.hok.fresh hp)) (I.hok.laid k hp new)
theorem Inv.write {x e:Addr}(I:Inv X pins U H s)(mu:Mut (H x))(he:e=x∨H e=some (.own x))(k:∀ b u,b≠e->s.heap.get? b=some u->h'.get? b=some u)(heo:∃ u,h'.get? e=some u)(new:ObjOk X.prog X.w (j3 H x o) h' x o):Inv X pins U (j3 H x o) { s with heap:=h',toks:=t' }:=I.un (Un.write mu he k heo) (I.hok.write mu he k heo new)
theorem Inv.weak {σ':List (Option V)}(I:Inv X pins U H s)(hl:σ'.length=U.length)(w:∀(i:Nat) v,σ'[i]?=some (some v)->U[i]?=some (some v)):Inv X pins σ' H s :=
 ⟨I.ok,I.os,I.bare,I.base,let ⟨m,hn,hl'⟩:=I.loc;⟨m,hn,λi x v e1 e2 e3=>hl' i x v e1 (w i v e2) e3⟩,I.cell,I.free,I.freeC,I.pin,I.hok,hl.trans I.len⟩
theorem Inv.pins_of {pins':List (Addr×Obj)}(I:Inv X pins U H s)(h:∀ p∈pins',s.heap.get? p.1=some p.2/\H p.1=none/\p.1≠X.env.locals/\p.1∉X.fs/\∀ v,p.2.data ≠ .cell v):Inv X pins' U H s :=
 ⟨I.ok,I.os,I.bare,I.base,I.loc,I.cell,I.free,I.freeC,λp hp=>(yA.mp hp).elim (λz=>I.pin p (yk _ z)) (h p),I.hok,I.len⟩
theorem Ze (hN:N.Nodup){i:Nat}(a:N[i]?=some x)(b:N[j]?=some x):i=j:=by obtain ⟨h1,e1⟩:=yq.mp a;obtain ⟨h2,e2⟩:=yq.mp b;exact (List.getElem_inj hN).mp (e1.trans e2.symm)
theorem YM {M:Model}{i:Nat}{Q:Unit->Shared->Prop}(I:Inv X pins U H s)(hN:X.N.Nodup)(hi:X.N[i]?=some x)(hx:Loc X.env.scope x)(r:RelV v u)(h:∀ s',Inv X pins (U.set i (some v)) H s'->(∃ a,Heap.SameBut a s.heap s'.heap/\(a=X.env.locals∨X.env.cells.lookup x=some a))->Q () s')(hf:X.fn x=true∨X.env.scope.names.lookup x=some .local:=by first|exact .inl rfl|exact .inr rfl|assumption):wpAny M A (storeName X.env x u) Q E s:=by
 obtain ⟨m,hn,hl⟩:=id I.loc;have hcls:(X.env.scope.kind == .class || (X.env.scope.kind == .module&&X.env.locals != X.env.globals))=false:=by rw [I.ok.kind];rfl
 have hiσ:i<U.length:=by rw [I.len];exact (yq.mp hi).1
 have cne:=I.cne;have tracked:∀{a:Addr}{h':Heap},(∃ o,s.heap.get? a=some o/\H a=none)->Heap.SameBut a s.heap h'->HOk X.prog X.w H h':=λ{a h'} ha hs b ob e=>by
  obtain ⟨_,_,hfree⟩:=ha;refine (I.hok b ob e).stay (λc w' hc q=>(hs.2 c ?_).trans q) (λ_ q=>q) (λ_ _ q=>q) λ_ _ _ q=>q;rintro rfl;rcases hc with rfl|hc
  ·rw [hfree] at e;cases e
  ·rw [hfree] at hc;cases hc
 rcases hx with hk|hk
 ·refine wpAny_storeName_local hk hn (λh' hn' hs=>?_) hcls;obtain ⟨oL,_,_,hoL,_⟩:=id hn;refine h _ ⟨I.ok,I.os,I.bare,⟨λb o e n hb hx=>?_,λb o e n hb hx=>?_,I.base.free,λb o e hx=>?_,I.base.tups,I.base.frzs,I.base.tbls⟩,⟨_,hn',λj y v' e1 e2 e3=>?_⟩,λy c e=>?_,I.free,I.freeC,λp hp=>?_,tracked ⟨oL,hoL,I.free⟩ hs,by simpa using I.len⟩ ⟨_,hs,.inl rfl⟩
  ·exact (hs.2 b (yL (yJ (yR e) I.ok.above))).trans (I.base.keep b o e n hb hx)
  ·obtain ⟨sl,e1⟩:=I.base.slot b o e n hb hx;exact ⟨sl,(hs.2 b (yL (yJ (yR e) I.ok.above))).trans e1⟩
  ·obtain ⟨o',e1⟩:=I.base.there b o e hx;exact ⟨o',(hs.2 b (yL (yJ (yR e) I.ok.above))).trans e1⟩
  ·by_cases hj:j=i
   ·subst hj;rw [hi] at e1;cases e1;rw [uP hiσ] at e2;cases e2;exact ⟨u,r,.inl ⟨hk,by simp⟩⟩
   ·rw [yH (Ne.symm hj)] at e2;obtain ⟨u',r',q⟩:=hl j y v' e1 e2 e3;refine ⟨u',r',?_⟩;rcases q with ⟨k,e⟩|⟨k,c,e,z⟩
    ·refine .inl ⟨k,?_⟩;have:y≠x:=λe=>hj (Ze hN e1 (e▸hi));simp [this,e]
    ·exact .inr ⟨k,c,e,z.sameBut hs (cne y c e)⟩
  ·obtain ⟨w',z⟩:=I.cell y c e;exact ⟨w',z.sameBut hs (cne y c e)⟩
  ·obtain ⟨e,n,ne,nf,d⟩:=I.pin p hp;exact ⟨(hs.2 p.1 ne).trans e,n,ne,nf,d⟩
 ·have hfn:X.fn x=true:=by
   rcases hf with z|z
   ·exact z
   ·rw [z] at hk;cases hk
  obtain ⟨c,hc⟩:=I.ok.has x (.inl hk);obtain ⟨w',z⟩:=I.cell x c hc;refine wpAny_storeName_cell I.ok.kind hk hc z (λh' hc' hs=>?_);obtain ⟨oc,hoc,hocd⟩:=id z;refine h { s with heap:=h' } ⟨I.ok,I.os,I.bare,⟨λb o e n hb hx=>?_,λb o e n hb hx=>?_,I.base.free,λb o e hx=>?_,I.base.tups,I.base.frzs,I.base.tbls⟩,⟨m,hn.sameBut hs (Ne.symm (cne x c hc)),λj y v' e1 e2 e3=>?_⟩,λy c' e=>?_,I.free,I.freeC,λp hp=>?_,tracked ⟨oc,hoc,I.freeC x c hc⟩ hs,by simpa using I.len⟩ ⟨c,hs,.inr hc⟩
  ·exact (hs.2 b (yL (yJ (yR e) (I.ok.cab x c hfn hc)))).trans (I.base.keep b o e n hb hx)
  ·obtain ⟨sl,e1⟩:=I.base.slot b o e n hb hx;exact ⟨sl,(hs.2 b (yL (yJ (yR e) (I.ok.cab x c hfn hc)))).trans e1⟩
  ·obtain ⟨o',e1⟩:=I.base.there b o e hx;exact ⟨o',(hs.2 b (yL (yJ (yR e) (I.ok.cab x c hfn hc)))).trans e1⟩
  ·by_cases hj:j=i
   ·subst hj;rw [hi] at e1;cases e1;rw [uP hiσ] at e2;cases e2;exact ⟨u,r,.inr ⟨.inl hk,c,hc,hc'⟩⟩
   ·rw [yH (Ne.symm hj)] at e2;obtain ⟨u',r',q⟩:=hl j y v' e1 e2 e3;refine ⟨u',r',?_⟩;rcases q with q|⟨k,c',e,z'⟩
    ·exact .inl q
    ·refine .inr ⟨k,c',e,z'.sameBut hs ?_⟩;rintro rfl;exact hj (Ze hN e1 (I.ok.inj _ _ _ e hc▸hi))
  ·by_cases hcc:c'=c
   ·subst hcc;exact ⟨_,hc'⟩
   ·obtain ⟨w2,z2⟩:=I.cell y c' e;exact ⟨w2,z2.sameBut hs hcc⟩
  ·obtain ⟨e,n,ne,nf,d⟩:=I.pin p hp;refine ⟨(hs.2 p.1 ?_).trans e,n,ne,nf,d⟩;intro q;rw [q,hoc] at e;have q':oc=p.2:=Option.some.inj e;exact d w' (by rw [<- q'];exact hocd)
theorem Jj {M:Model}{i:Nat}{Q:Unit->Shared->Prop}(I:Inv X pins U H s)(hN:X.N.Nodup)(hi:X.N[i]?=some x)(hx:Loc X.env.scope x)(r:RelV v u)(h:∀ s',Inv X pins (U.set i (some v)) H s'->Q () s')(hf:X.fn x=true∨X.env.scope.names.lookup x=some .local:=by first|exact .inl rfl|exact .inr rfl|assumption):wpAny M A (storeName X.env x u) Q E s :=
 YM I hN hi hx r (λs' I' _=>h s' I') hf
theorem Inv.call' (I:Inv X pins U H s)(ho:s'.os=s.os)(u:Un (p7 X.stack) ch H H' s.heap s'.heap)(hok:HOk X.prog X.w H' s'.heap)(hg:AllBare s'.gens)(hch:∀ b∈ch,(b∈X.ex∨X.s₀.heap.objs.size<=b)/\b≠X.env.locals/\(∀ x c,X.env.cells.lookup x=some c->c≠b)/\∀ p∈X.pn++pins,p.1≠b):Inv X pins U H' s':=by obtain ⟨h',g',d',t',o'⟩:=s';have e:o'=s.os:=ho;subst e;exact I.call (g':=g') (t':=t') (d':=d') u hok hg hch
end
abbrev XK:=Value->Option Addr->Hp->Prop
abbrev St:=List (Option V)
variable{U:St}
abbrev VK:=V->Hp->Prop
abbrev TE:=St->Hp->VK->Prop
variable{t te:TE}
abbrev TT:=St->Hp->(Bool->Hp->Prop)->Prop
abbrev TA:=St->Hp->(List V->Hp->Prop)->Prop
structure qk where
 nx:St->Hp->Prop
 rt:VK
 bk:St->Hp->Prop:=λ_ _=>False
 ct:St->Hp->Prop:=λ_ _=>False
variable{D:qk}
abbrev TS:=qk->St->Hp->Prop
def EP (X:Cx)(pins:List (Addr×Obj))(U:St)(Q:VK)(u:Value)(s':Shared):Prop:=∃ v H',Inv X pins U H' s'/\RelV v u/\Q v H'
def TP (X:Cx)(pins:List (Addr×Obj))(U:St)(Q:Bool->Hp->Prop)(b:Bool)(s':Shared):Prop:=∃ H',Inv X pins U H' s'/\Q b H'
def AP (X:Cx)(pins:List (Addr×Obj))(U:St)(Q:List V->Hp->Prop)(us:List Value)(s':Shared):Prop:=∃ vs H',Inv X pins U H' s'/\Vals vs us/\Q vs H'
def SP (X:Cx)(pins:List (Addr×Obj))(D:qk)(f:Flow)(s':Shared):Prop :=
 match f with
 | .next=>∃ σ' H',Inv X pins σ' H' s'/\D.nx σ' H'
 | .brk=>∃ σ' H',Inv X pins σ' H' s'/\D.bk σ' H'
 | .cont=>∃ σ' H',Inv X pins σ' H' s'/\D.ct σ' H'
 | .ret u=>∃ v σ' H',Inv X pins σ' H' s'/\RelV v u/\D.rt v H'
def PE (X:Cx)(e:Expr)(t:TE):Prop :=
 ∀(pins:List (Addr×Obj))(s:Shared)(U:St)(H:Hp)(Q:VK),Inv X pins U H s->t U H Q->wpAny (model X.prog X.w) X.A (eval e X.env) (EP X pins U Q) X.xe s
def PT (X:Cx)(e:Expr)(t:TT):Prop :=
 ∀(pins:List (Addr×Obj))(s:Shared)(U:St)(H:Hp)(Q:Bool->Hp->Prop),Inv X pins U H s->t U H Q->wpAny (model X.prog X.w) X.A (isTrue e X.env (eval e X.env)) (TP X pins U Q) X.xe s
def PW (X:Cx)(e:Expr)(t:TT):Prop :=
 ∀(whole:Sem Value)(pins:List (Addr×Obj))(s:Shared)(U:St)(H:Hp)(Q:Bool->Hp->Prop),Inv X pins U H s->t U H Q->wpAny (model X.prog X.w) X.A (isTrue e X.env whole) (TP X pins U Q) X.xe s
theorem PW.pt {t:TT}(h:PW X e t):PT X e t:=h _
def PA (X:Cx)(es:List Expr)(t:TA):Prop :=
 ∀(pos:Pos)(pins:List (Addr×Obj))(s:Shared)(U:St)(H:Hp)(Q:List V->Hp->Prop),Inv X pins U H s->t U H Q->wpAny (model X.prog X.w) X.A (spliced (backTo pos (starEach es X.env))) (AP X pins U Q) X.xe s
def PS (X:Cx)(st:Stmt)(t:TS):Prop :=
 ∀(pins:List (Addr×Obj))(s:Shared)(U:St)(H:Hp)(D:qk),Inv X pins U H s->t D U H->wpAny (model X.prog X.w) X.A (exec st X.env) (SP X pins D) X.xe s
def PSs (X:Cx)(st:List Stmt)(t:TS):Prop :=
 ∀(pins:List (Addr×Obj))(s:Shared)(U:St)(H:Hp)(D:qk),Inv X pins U H s->t D U H->wpAny (model X.prog X.w) X.A (execs st X.env) (SP X pins D) X.xe s
theorem z6 {t:Sem α}{Q Q':α->Shared->Prop}{M:Model}(h:wpAny M A t Q E s)(hQ:∀ a s,Q a s->Q' a s):wpAny M A t Q' E s:=wpAny_mono h hQ λ_ _ x=>x
section
variable {X:Cx}
theorem bin {a b:Expr}{ta tb:TE}(ha:PE X a ta)(hb:PE X b tb)(I:Inv X pins U H s)(h:ta U H λx H1=>tb U H1 λy H2=>R x y H2){Q:α->Shared->Prop}{f:Value->Value->Sem α}(hf:∀ v u s2 x y H2,Inv X pins U H2 s2->RelV x v->RelV y u->R x y H2->wpAny (model X.prog X.w) X.A (f v u) Q X.xe s2):wpAny (model X.prog X.w) X.A (eval a X.env) (λv s₁=>wpAny (model X.prog X.w) X.A (eval b X.env) (λu s₂=>wpAny (model X.prog X.w) X.A (f v u) Q X.xe s₂) X.xe s₁) X.xe s:=by refine z6 (ha pins s U H _ I h) λv s1 ⟨x,H1,I1,r1,q1⟩=>?_;refine z6 (hb pins s1 U H1 _ I1 q1) λu s2 ⟨y,H2,I2,r2,q2⟩=>?_;exact hf v u s2 x y H2 I2 r1 r2 q2
def qu (i:Nat):TE:=λU H Q=>∃ v,U[i]?=some (some v)/\Q v H
def tC (v:V):TE:=λ_ H Q=>Q v H
theorem Pt {i:Nat}(hN:X.N[i]?=some x)(hv:Vis X.env.scope x)(hd:(x==("__debug__":Str))=false:=by decide)(hcd:(x==("__classdict__":Str))=false:=by decide):PE X (.Name x pos) (qu i):=by
 intro pins s U H Q I h;obtain ⟨v,e,h⟩:=h;obtain ⟨m,hn,hl⟩:=I.loc;obtain ⟨u,r,l⟩:=hl i x v hN e hv;have fin:EP X pins U Q u s:=⟨v,H,I,r,h⟩;rcases l with ⟨hk,hm⟩|⟨hk,c,hc,hcell⟩
 ·exact wpAny_Name (wpAny_loadName_local I.ok.kind hk hn hm fin) hd
 ·rcases hk with hk|hk
  ·exact wpAny_Name (wpAny_loadName_cell I.ok.kind hk hc hcell fin) hd
  ·exact wpAny_Name (wpAny_loadName_free I.ok.kind hk hc hcell fin hcd) hd
theorem z0 {i j pos}:PE X (.Constant (.int i) j pos) (tC (.int i)):=λ_ _ _ H _ I h=>wpAny_Constant_int ⟨.int i,H,I.tok _,⟨_,rfl⟩,h⟩
theorem qw {b j pos}:PE X (.Constant (.bool b) j pos) (tC (.bl b)):=λ_ _ _ H _ I h=>Constant_bool ⟨.bl b,H,I,rfl,h⟩
theorem QN {j pos}:PE X (.Constant .none j pos) (tC .non):=λ_ _ _ H _ I h=>Constant_none ⟨.non,H,I,rfl,h⟩
theorem xx {x j pos}:PE X (.Constant (.str x) j pos) (tC (.str x)):=λ_ _ _ H _ I h=>Calls.Constant_str ⟨.str x,H,I.tok _,⟨_,rfl⟩,h⟩
def Gl (X:Cx)(x:Str):Prop:=X.env.kindOf x=some .globalImplicit
theorem wo (I:Inv X pins U H s)(hg:Gl X x)(hm:X.mg x=some u)(h:Q u s)(hd:(x==("__debug__":Str))=false:=by decide):wpAny (model X.prog X.w) X.A (eval (.Name x pos) X.env) Q E s :=
 Calls.Name_function_global I.ok.kind hg (Calls.loadGlobal_global (by rw [I.ok.glob];exact I.mod.glob.keeps I.bk) hm h) hd
theorem jD (I:Inv X pins U H s)(hg:Gl X x)(hm:X.mg x=none)(hv:bootBuiltins x=some u)(h:Q u s)(hn:x ≠ "__name__":=by decide)(hd:(x==("__debug__":Str))=false:=by decide):wpAny (model X.prog X.w) X.A (eval (.Name x pos) X.env) Q E s:=by obtain ⟨mb,h1,h2⟩:=I.mod.blt;exact Calls.Name_function_global I.ok.kind hg (Calls.loadGlobal_builtin (by rw [I.ok.glob];exact I.mod.glob.keeps I.bk) hm (by rw [I.ok.blt];exact h1.keeps I.bk) ((h2 x hn).trans hv) h) hd
theorem jM (hg:Gl X x)(hm:X.mg x=some u)(r:RelV v u)(hd:(x==("__debug__":Str))=false:=by decide):PE X (.Name x pos) (tC v) :=
 λ_ _ _ H _ I h=>wo I hg hm ⟨v,H,I,r,h⟩ hd
theorem xw (hg:Gl X x)(hm:X.mg x=none)(hv:bootBuiltins x=some u)(r:RelV v u)(hn:x ≠ "__name__":=by decide)(hd:(x==("__debug__":Str))=false:=by decide):PE X (.Name x pos) (tC v) :=
 λ_ _ _ H _ I h=>jD I hg hm hv ⟨v,H,I,r,h⟩ hn hd
variable {a b:Expr}{ta tb:TE}{pos:Pos}
def PC (X:Cx)(op:CmpOp)(a b:Expr)(t:TE):Prop :=
 ∀(pins:List (Addr×Obj))(s:Shared)(U:St)(H:Hp)(Q:VK),Inv X pins U H s->t U H Q ->
  wpAny (model X.prog X.w) X.A (eval a X.env) (λv s₁=>wpAny (model X.prog X.w) X.A (eval b X.env) (λu s₂=>wpAny (model X.prog X.w) X.A (compareOp op v u) (EP X pins U Q) X.xe s₂) X.xe s₁) X.xe s
def tB (t:TE):TT:=λU H Q=>t U H λx H1=>∃ c,x = .bl c/\Q c H1
theorem Yg (h:PC X op a b t)(h1:behindInMarks op b=false:=by first|exact nobehind _ (by decide) (by decide)|rfl):PT X (.Compare a [op] [b] pos) (tB t):=by intro pins s U H Q I hw;refine wpAny_isTrue_Compare1 (z6 (h pins s U H _ I hw) λv s1 h1=>z6 h1 λu s2 h2=>z6 h2 λc s3 ⟨x,H1,I1,r1,q1⟩=>?_) h1;obtain ⟨d,rfl,q⟩:=q1;cases r1;exact wpAny_truthy_bool ⟨H1,I1,q⟩
variable {tA tB':TT}{rest:List Expr}
def tAnd (t u:TT):TT:=λU H Q=>t U H λc H1=>if c=true then u U H1 Q else Q false H1
def tOr (t u:TT):TT:=λU H Q=>t U H λc H1=>if c=true then Q true H1 else u U H1 Q
def tNot (t:TT):TT:=λU H Q=>t U H λc H1=>Q (!c) H1
theorem QU (ha:PT X a tA):PW X (.BoolOp .And [a] pos) tA:=by
 intro wh pins s U H Q I h;refine isTrue_and (z6 (ha pins s U H Q I h) λc s1 e=>?_);cases c with
 |true=>exact isTrue_and_nil e
 |false=>exact e
theorem xU (ha:PT X a tA):PW X (.BoolOp .Or [a] pos) tA:=by
 intro wh pins s U H Q I h;refine isTrue_or (z6 (ha pins s U H Q I h) λc s1 e=>?_);cases c with
 |false=>exact isTrue_or_nil e
 |true=>exact e
theorem QT (ha:PT X a tA)(hb:PW X (.BoolOp .And (b::rest) pos) tB'):PW X (.BoolOp .And (a::b::rest) pos) (tAnd tA tB'):=by
 intro wh pins s U H Q I h;refine isTrue_and (z6 (ha pins s U H _ I h) λc s1 ⟨H1,I1,q1⟩=>?_);cases c with
 |true=>exact hb wh pins s1 U H1 Q I1 q1
 |false=>exact ⟨H1,I1,q1⟩
theorem qE (ha:PT X a tA)(hb:PW X (.BoolOp .Or (b::rest) pos) tB'):PW X (.BoolOp .Or (a::b::rest) pos) (tOr tA tB'):=by
 intro wh pins s U H Q I h;refine isTrue_or (z6 (ha pins s U H _ I h) λc s1 ⟨H1,I1,q1⟩=>?_);cases c with
 |true=>exact ⟨H1,I1,q1⟩
 |false=>exact hb wh pins s1 U H1 Q I1 q1
theorem i9 (ha:PT X a tA):PT X (.UnaryOp .Not a pos) (tNot tA):=by intro pins s U H Q I h;exact isTrue_not (ha pins s U H (λc H1=>Q (!c) H1) I h)
def YR (ta tb:TE):TE:=λU H Q=>ta U H λx H1=>∃ c,x = .bl c/\if c=true then tb U H1 Q else Q (.bl false) H1
def YX (ta:TE):TE:=λU H Q=>ta U H λx H1=>∃ c,x = .bl c/\Q (.bl (!c)) H1
theorem wE {op}(h:PE X a t):PE X (.BoolOp op [a] pos) t:=λpins s U H Q I hw=>BoolOp_one (h pins s U H Q I hw)
theorem vz (ha:PE X a ta)(hb:PE X (.BoolOp .And (b::rest) pos) tb):PE X (.BoolOp .And (a::b::rest) pos) (YR ta tb):=by
 intro pins s U H Q I h;refine BoolOp_and (z6 (ha pins s U H _ I h) λv s1 ⟨x,H1,I1,r1,q1⟩=>?_);obtain ⟨c,rfl,q1⟩:=q1;cases r1;refine wpAny_truthy_bool ?_;cases c with
 |true=>exact hb pins s1 U H1 Q I1 q1
 |false=>exact ⟨.bl false,H1,I1,rfl,q1⟩
theorem WZ (ha:PE X a ta):PE X (.UnaryOp .Not a pos) (YX ta):=by intro pins s U H Q I h;refine UnaryOp_ (z6 (ha pins s U H _ I h) λv s1 ⟨x,H1,I1,r1,q1⟩=>?_);obtain ⟨c,rfl,q1⟩:=q1;cases r1;exact not_of (wpAny_truthy_bool ⟨.bl (!c),H1,I1,rfl,q1⟩)
def tIf (t:TT)(ta tb:TE):TE:=λU H Q=>t U H λc H1=>if c=true then ta U H1 Q else tb U H1 Q
theorem Zl (hc:PT X c tA)(ha:PE X a ta)(hb:PE X b tb):PE X (.IfExp c a b pos) (tIf tA ta tb):=by
 intro pins s U H Q I h;refine wpAny_IfExp (z6 (hc pins s U H _ I h) λd s1 ⟨H1,I1,q1⟩=>?_);cases d with
 |true=>exact ha pins s1 U H1 Q I1 q1
 |false=>exact hb pins s1 U H1 Q I1 q1
end
def SqL (K:Fg)(H:Hp)(a:Addr)(xs:List V):Prop :=
 Rd H a (.lst xs) ∨
  ∃ (o:Obj) (its:Array Value) (n:Nat),K.lookup a=some o/\o.cls = .type "list"/\o.dict=none/\o.data = .seq its n/\its.size<=sizeLine/\Vals xs its.toList
def SqT (K:Fg)(H:Hp)(a:Addr)(xs:List V):Prop :=
 Rd H a (.tup xs) ∨
  ∃ (o:Obj) (its:Array Value) (n:Nat),K.lookup a=some o/\o.cls = .type "tuple"/\o.data = .seq its n/\its.size<=sizeLine/\Vals xs its.toList
def absV:Value->Option V
 | .none=>some .non
 | .bool b=>some (.bl b)
 | .int i _=>some (.int i)
 | .str x _=>some (.str x)
 | .bytes b _=>some (.byt b)
 | .float b _=>some (.flt b)
 | .ref a=>some (.ref a)
 | .type n=>some (.ty n)
 |_=>none
theorem RelV.abs {x:V}(r:RelV x u):absV u=some x:=by
 cases x with
 |non=>cases r;rfl
 |bl _=>cases r;rfl
 |int _=>obtain ⟨t,rfl⟩:=r;rfl
 |str _=>obtain ⟨t,rfl⟩:=r;rfl
 |byt _=>obtain ⟨t,rfl⟩:=r;rfl
 |flt _=>obtain ⟨t,rfl⟩:=r;rfl
 |ref _=>cases r;rfl
 |ty _=>cases r;rfl
theorem RelV.inj {x:V}(r:RelV x u)(q:RelV y u):x=y:=Option.some.inj (r.abs.symm.trans q.abs)
theorem Vals.inj:∀{xs ys:List V}{us:List Value},Vals xs us->Vals ys us->xs=ys
 |_,_,_,.nil,.nil=>rfl
 |_,_,_,.cons r t,.cons r' t'=>by rw [r.inj r',Vals.inj t t']
section
variable {X:Cx}{pins:List (Addr×Obj)}{U:St}{H:Hp}{s:Shared}{a:Addr}{xs ys:List V}
theorem SqL.of (h:H a=some (.lst xs)):SqL K H a xs:= .inl (.inl h)
theorem SqT.of (h:H a=some (.tup xs)):SqT K H a xs:= .inl (.inl h)
theorem Inv.list (I:Inv X pins U H s)(h:SqL X.K H a xs):∃ its:List Value,Vals xs its/\PlainL s.heap a its.toArray/\xs.length<=sizeLine:=by
 rcases h with h|⟨o,its,n,hk,hc,hd,hs,hz,r⟩
 ·obtain ⟨z,its,n,r,e⟩:=h.ok I.hok;exact ⟨its,r,⟨_,n,e,rfl,rfl,rfl⟩,z⟩
 ·refine ⟨its.toList,r,⟨o,n,I.kIn a o hk,hc,hd,by simpa using hs⟩,?_⟩;have e:=r.length;simp only [Array.length_toList] at e;omega
theorem Inv.tuple (I:Inv X pins U H s)(h:SqT X.K H a xs):∃ its:List Value,Vals xs its/\IsTup s.heap a its.toArray/\xs.length<=sizeLine:=by
 rcases h with h|⟨o,its,n,hk,hc,hs,hz,r⟩
 ·obtain ⟨z,its,r,p⟩:=h.ok I.hok;exact ⟨its,r,p,z⟩
 ·refine ⟨its.toList,r,⟨o,I.kIn a o hk,hc,n,by simpa using hs⟩,?_⟩;have e:=r.length;simp only [Array.length_toList] at e;omega
theorem Inv.list_inj (I:Inv X pins U H s)(h:SqL X.K H a xs)(h':SqL X.K H a ys):xs=ys:=by
 obtain ⟨its,r,⟨o,n,e,_,_,d⟩,_⟩:=I.list h;obtain ⟨its',r',⟨o',n',e',_,_,d'⟩,_⟩:=I.list h';rw [e] at e';cases e';rw [d] at d';injection d' with d1 _;have:its=its':=by simpa using congrArg Array.toList d1
 subst this;exact r.inj r'
theorem Inv.tuple_inj (I:Inv X pins U H s)(h:SqT X.K H a xs)(h':SqT X.K H a ys):xs=ys:=by
 obtain ⟨its,r,⟨o,e,_,n,d⟩,_⟩:=I.tuple h;obtain ⟨its',r',⟨o',e',_,n',d'⟩,_⟩:=I.tuple h';rw [e] at e';cases e';rw [d] at d';injection d' with d1 _;have:its=its':=by simpa using congrArg Array.toList d1
 subst this;exact r.inj r'
end
abbrev Cx.wish (X:Cx)(E:Value->Shared->Prop):Cx:={ X with xe:=E }
abbrev Cx.nox (X:Cx):Cx:=X.wish λ_ _=>False
theorem Cx.Ok.wish (ok:X.Ok)(E:Value->Shared->Prop):(X.wish E).Ok :=
 ⟨ok.mod,ok.kind,ok.glob,ok.blt,ok.above,ok.inj,ok.has,ok.cab,ok.hd,ok.frames,ok.stk,ok.exf,ok.bs,ok.bsz,ok.noex,ok.exfs,ok.funs,ok.frf,ok.tbs⟩
theorem Cx.Ok.unwish (ok:(X.wish E).Ok):X.Ok :=
 ⟨ok.mod,ok.kind,ok.glob,ok.blt,ok.above,ok.inj,ok.has,ok.cab,ok.hd,ok.frames,ok.stk,ok.exf,ok.bs,ok.bsz,ok.noex,ok.exfs,ok.funs,ok.frf,ok.tbs⟩
section
variable {X:Cx}{pins:List (Addr×Obj)}{U:St}{H:Hp}{s:Shared}{E:Value->Shared->Prop}
theorem Inv.wish (I:Inv X pins U H s)(E:Value->Shared->Prop):Inv (X.wish E) pins U H s:=⟨I.ok.wish E,I.os,I.bare,I.base,I.loc,I.cell,I.free,I.freeC,I.pin,I.hok,I.len⟩
theorem Inv.unwish (I:Inv (X.wish E) pins U H s):Inv X pins U H s:=⟨I.ok.unwish,I.os,I.bare,I.base,I.loc,I.cell,I.free,I.freeC,I.pin,I.hok,I.len⟩
theorem SP.unwish {f:Flow}(h:SP (X.wish E) pins D f s'):SP X pins D f s':=by
 cases f with
 |next=>obtain ⟨σ',H',I,q⟩:=h;exact ⟨σ',H',I.unwish,q⟩
 |brk=>obtain ⟨σ',H',I,q⟩:=h;exact ⟨σ',H',I.unwish,q⟩
 |cont=>obtain ⟨σ',H',I,q⟩:=h;exact ⟨σ',H',I.unwish,q⟩
 |ret u=>obtain ⟨v,σ',H',I,r,q⟩:=h;exact ⟨v,σ',H',I.unwish,r,q⟩
theorem PSs.nox {st:List Stmt}{t:TS}(h:PSs X.nox st t):PSs X st t:=λpins s U H D I hw =>
 wpAny_mono (h pins s U H D (I.wish _) hw) (λ_ _ q=>q.unwish) λ_ _ z=>False.elim z
end
section
variable {X:Cx}{st:Stmt}{rest:List Stmt}{t u:TS}{e:Expr}{te:TE}{pos:Pos}
def Xb:TS:=λD U H=>D.nx U H
def tSeq (t u:TS):TS:=λD U H=>t { D with nx:=u D } U H
theorem c7:PSs X [] Xb:=λ_ _ U H _ I h=>wpAny_execs_nil ⟨U,H,I,h⟩
theorem j6 (h1:PS X st t)(h2:PSs X rest u):PSs X (st::rest) (tSeq t u):=by
 intro pins s U H D I h;refine wpAny_execs_cons (z6 (h1 pins s U H { D with nx:=u D } I h) λf s1 q=>?_);cases f with
 |next=>obtain ⟨σ',H',I',q⟩:=q;exact h2 pins s1 σ' H' D I' q
 |ret v=>exact q
 |brk=>exact q
 |cont=>exact q
theorem j8 (h1:PS X st t):PSs X [st] t:=by
 intro pins s U H D I h;refine wpAny_execs_cons (z6 (h1 pins s U H D I h) λf s1 q=>?_);cases f with
 |next=>exact wpAny_execs_nil q
 |ret v=>exact q
 |brk=>exact q
 |cont=>exact q
theorem Inv.quiet (I:Inv X pins U H s):interactive X.env=false:=by simp [interactive,I.ok.kind]
def qN (te:TE):TS:=λD U H=>te U H λ_ H1=>D.nx U H1
theorem xI (he:PE X e te)(hs:swapsWith e none pos.line X.env=pure false:=by rfl):PS X (.Expr e pos) (qN te):=by intro pins s U H D I h;exact wpAny_Expr_any (z6 (he pins s U H _ I h) λv s1 ⟨x,H1,I1,r1,q1⟩=>⟨U,H1,I1,q1⟩) I.quiet hs
def wO (te:TE):TS:=λD U H=>te U H D.rt
theorem y6 (he:PE X e te):PS X (.Return (some e) pos) (wO te):=by intro pins s U H D I h;exact wpAny_Return_some (z6 (he pins s U H _ I h) λv s1 ⟨x,H1,I1,r1,q1⟩=>⟨x,U,H1,I1,r1,q1⟩)
def wN (c:TT)(t u:TS):TS:=λD U H=>c U H λb H1=>if b=true then t D U H1 else u D U H1
theorem c6 {a b:List Stmt}{tc:TT}(hc:PT X c tc)(ha:PSs X a t)(hb:PSs X b u):PS X (.If c a b pos) (wN tc t u):=by
 intro pins s U H D I h;refine wpAny_If (z6 (hc pins s U H _ I h) λd s1 ⟨H1,I1,q1⟩=>?_);cases d with
 |true=>exact ha pins s1 U H1 D I1 q1
 |false=>exact hb pins s1 U H1 D I1 q1
def YV:TS:=λ_ _ _=>False
theorem jj:PS X st YV:=λ_ _ _ _ _ _ h=>h.elim
end
abbrev TG:=V->St->Hp->(St->Hp->Prop)->Prop
variable{g:TG}
abbrev TGs:=List V->St->Hp->(St->Hp->Prop)->Prop
def PG (X:Cx)(target:Expr)(t:TG):Prop :=
 ∀(pins:List (Addr×Obj))(s:Shared)(U:St)(H:Hp)(v:V)(u:Value)(Q:St->Hp->Prop),Inv X pins U H s->RelV v u->t v U H Q ->
  wpAny (model X.prog X.w) X.A (assign target X.env u) (λ_ s'=>∃ σ' H',Inv X pins σ' H' s'/\Q σ' H') X.xe s
def PGs (X:Cx)(ts:List Expr)(t:TGs):Prop :=
 ∀(pins:List (Addr×Obj))(s:Shared)(U:St)(H:Hp)(vs:List V)(us:List Value)(Q:St->Hp->Prop),Inv X pins U H s->Vals vs us->t vs U H Q ->
  wpAny (model X.prog X.w) X.A (assignInOrder ((assignEach ts X.env).map (·.2)) us) (λ_ s'=>∃ σ' H',Inv X pins σ' H' s'/\Q σ' H') X.xe s
abbrev TSet:=V->V->V->Hp->(Hp->Prop)->Prop
def PSet (X:Cx)(t:TSet):Prop :=
 ∀(pins:List (Addr×Obj))(s:Shared)(U:St)(H:Hp)(o i v:V)(ov iv u:Value)(Q:Hp->Prop),Inv X pins U H s->RelV o ov->RelV i iv->RelV v u->t o i v H Q ->
  wpAny (model X.prog X.w) X.A (setItem ov iv u) (λ_ s'=>∃ H',Inv X pins U H' s'/\Q H') X.xe s
section
variable {X:Cx}{pos:Pos}
def qm (i:Nat):TG:=λv U H Q=>Q (U.set i (some v)) H
theorem m3 {i:Nat}(hN:X.N.Nodup)(hi:X.N[i]?=some x)(hx:Loc X.env.scope x)(hf:X.fn x=true∨X.env.scope.names.lookup x=some .local:=by first|exact .inl rfl|exact .inr rfl|assumption):PG X (.Name x pos) (qm i):=by intro pins s U H v u Q I r h;exact wpAny_assign_Name (Jj I hN hi hx r (λs' I'=>⟨_,H,I',h⟩) hf)
def gNil:TGs:=λvs U H Q=>vs=[]/\Q U H
def Qp (t:TG)(u:TGs):TGs:=λvs U H Q=>∃ v r,vs=v::r/\t v U H λσ' H'=>u r σ' H' Q
theorem Zq:PGs X [] gNil:=by intro pins s U H vs us Q I r h;obtain ⟨e,h⟩:=h;subst e;cases r;exact assignInOrder_nil ⟨U,H,I,h⟩
theorem jf {t:TG}{u:TGs}(h1:PG X e t)(h2:PGs X es u)(hs:(assignEach (e::es) X.env).map (·.2)=assign e X.env::(assignEach es X.env).map (·.2):=by rfl):PGs X (e::es) (Qp t u):=by
 intro pins s U H vs us Q I r h;obtain ⟨v,vr,e1,h⟩:=h;subst e1;cases r with
 |cons r rr=>rw [hs];refine assignInOrder_cons (z6 (h1 pins s U H _ _ _ I r h) λ_ s1 ⟨σ1,H1,I1,q1⟩=>?_);exact h2 pins s1 σ1 H1 _ _ Q I1 rr q1
def gTup (K:Fg)(n:Nat)(t:TGs):TG:=λv U H Q=>∃ a xs,v = .ref a/\SqT K H a xs/\xs.length=n/\t xs U H Q
theorem Px {k:Nat}{t:TGs}(hc:X.calm=true)(h:PGs X es t)(hn:(assignEach es X.env).length=n:=by rfl)(hst:(assignEach es X.env).findIdx? (·.1)=none:=by rfl):PG X (.Tuple es k pos) (gTup X.K n t):=by intro pins s U H v u Q I r hw;obtain ⟨a,xs,e1,hq,hl,hw⟩:=hw;subst e1;cases r;obtain ⟨its,rv,ht,hz⟩:=I.tuple hq;refine assign_Tuple_tuple (I.ok.hd hc) ht (by simp [hn,<- hl,rv.length]) hst λh' hx=>?_;have I1:Inv X pins U H { s with heap:=h' }:=I.kept (t':=s.toks) λb o e=>hx b o (yL (yR e)) e;exact h pins _ U H xs _ Q I1 (by simpa using rv) hw
def gSub (to ti:TE)(t:TSet):TG:=λv U H Q=>to U H λo H1=>ti U H1 λi H2=>t o i v H2 λH3=>Q U H3
theorem Pw {o i:Expr}{to ti:TE}{t:TSet}(ho:PE X o to)(hi:PE X i ti)(hs:PSet X t)
  (ha:∀ v,assign (.Subscript o i pos) X.env v=(do
   let ov <- holding [v] (eval o X.env)
   let iv <- holding [v,ov] (eval i X.env)
   standAt pos
   holding [v,ov,iv] (setItem ov iv v)
   release [v,ov,iv] []):=by intro _;rfl):PG X (.Subscript o i pos) (gSub to ti t):=by
 intro pins s U H v u Q I r h;rw [ha];refine yU (wpAny_holding (z6 (ho pins s U H _ I h) λov s1 ⟨x,H1,I1,r1,q1⟩=>?_));refine yU (wpAny_holding (z6 (hi pins s1 U H1 _ I1 q1) λiv s2 ⟨y,H2,I2,r2,q2⟩=>?_));refine yU (wpAny_standAt (yU (wpAny_holding (z6 (hs pins s2 U H2 x y v ov iv u _ I2 r1 r2 r q2) λ_ s3 ⟨H3,I3,q3⟩=>?_))));exact wpAny_release ⟨U,H3,I3,q3⟩
def xy (te:TE)(g:TG):TS:=λD U H=>te U H λx H1=>g x U H1 D.nx
theorem Yd (he:PE X e te)(hg:PG X tg g)(hs:swapsWithSole [tg] e pos.line X.env=pure false:=by rfl)(hw:swappedStores [tg] e X.env=pure none:=by rfl)(h1:(assignEach [tg] X.env).map (·.2)=[assign tg X.env]:=by rfl):PS X (.Assign [tg] e pos) (xy te g):=by intro pins s U H D I h;refine wpAny_Assign_stores (z6 (he pins s U H _ I h) λv s1 ⟨x,H1,I1,r1,q1⟩=>?_) hs hw;rw [h1];exact z6 (hg pins s1 U H1 x v _ I1 r1 q1) λ_ s2 q=>q
theorem i8 {i:Nat}{x:Str}{e:Expr}{te:TE}{pos':Pos}(hN:X.N.Nodup)(hi:X.N[i]?=some x)(hx:Loc X.env.scope x)(he:PE X e te)(hs:swapsWith e (some (.Name x pos')) pos.line X.env=pure false:=by rfl)(hf:X.fn x=true∨X.env.scope.names.lookup x=some .local:=by first|exact .inl rfl|exact .inr rfl|assumption):PS X (.Assign [.Name x pos'] e pos) (xy te (qm i)):=by intro pins s U H D I h;refine wpAny_Assign_Name (z6 (he pins s U H _ I h) λv s1 ⟨y,H1,I1,r1,q1⟩=>?_) hs;exact Jj I1 hN hi hx r1 (λs2 I2=>⟨_,H1,I2,q1⟩) hf
end
structure It where
 go:Nat->Hp->Prop
 yld:Nat->Hp->V->Hp->Prop
 stop:Nat->Hp->Prop
def qH (X:Cx)(pins:List (Addr×Obj))(H:Hp)(b:Addr):Prop :=
 H b=none/\b≠X.env.locals/\b∉X.fs/\(b∈X.ex∨X.s₀.heap.objs.size<=b)/\(∀ x c,X.env.cells.lookup x=some c->c≠b)/\∀ p∈X.pn++pins,p.1≠b
theorem Inv.fpOk {H':Hp}(I:Inv X pins U H s)(hb:s.heap.objs.size<=b)(hn:H' b=none):qH X pins H' b:=by
 refine ⟨hn,Nat.ne_of_gt (yJ I.lt hb),I.nofs hb,.inr (yh I.sz hb),λx c e z=>?_,λp hp z=>?_⟩
 ·obtain ⟨v,q⟩:=I.cell x c e;exact absurd (yJ q.lt (by rw [z];exact hb)) (uT _)
 ·exact absurd (yJ (yR (I.pin p hp).1) (by rw [z];exact hb)) (uT _)
structure zO (P:Program)(w:World)(K:Fg)(tg:Expr)(J:It)(fp:List Addr)(it:Addr)(tn:Nat->Heap->Prop):Prop where
 mem:it∈fp
 obj:∀ i h,tn i h->∀ b∈fp,∃ o,h.get? b=some o/\∀ v,o.data ≠ .cell v
 keep:∀ i h h',tn i h->(∀ b∈fp,∀ o,h.get? b=some o->h'.get? b=some o)->tn i h'
 item:∀(X:Cx),X.prog=P->X.w=w->X.K=K->X.calm=true->∀(i:Nat)(pins:List (Addr×Obj))(s:Shared)(U:St)(H:Hp)(E:Value->Shared->Prop),Inv X pins U H s->(∀ b∈fp,qH X pins H b)->tn i s.heap->J.go i H ->
  wpAny (model P w) X.A (pyNext (.ref it)) (λr s1=>∃ u,r=some u /\
   wpAny (model P w) X.A (letOwnedTupleGo tg (.ref it) u) (λ_ s2=>∃ x H',Inv X pins U H' s2/\RelV x u/\J.yld i H x H'/\tn (i+1) s2.heap/\∀ b∈fp,H' b=none) E s1) E s
 done:∀(X:Cx),X.prog=P->X.w=w->X.K=K->X.calm=true->∀(i:Nat)(pins:List (Addr×Obj))(s:Shared)(U:St)(H:Hp)(E:Value->Shared->Prop),Inv X pins U H s->(∀ b∈fp,qH X pins H b)->tn i s.heap->J.stop i H ->
  wpAny (model P w) X.A (pyNext (.ref it)) (λr s1=>r=none/\Inv X pins U H s1) E s
 self:∀(A:Around)(i:Nat)(s:Shared)(Q:Value->Shared->Prop)(E:Value->Shared->Prop),tn i s.heap->Q (.ref it) s->wpAny (model P w) A (pyIter (.ref it)) Q E s
abbrev TI:=St->Hp->(It->Hp->Prop)->Prop
def PIE (X:Cx)(pins:List (Addr×Obj))(U:St)(tg:Expr)(R:It->Hp->Prop)(itv:Value)(s2:Shared):Prop :=
 ∃(it:Addr)(fp:List Addr)(tn:Nat->Heap->Prop)(J:It)(H':Hp),itv = .ref it/\Inv X pins U H' s2/\zO X.prog X.w X.K tg J fp it tn/\tn 0 s2.heap/\(∀ b∈fp,qH X pins H' b)/\R J H'
def PI (X:Cx)(tg iter:Expr)(wi:TI):Prop :=
 ∀(pins:List (Addr×Obj))(s:Shared)(U:St)(H:Hp)(R:It->Hp->Prop),Inv X pins U H s->wi U H R ->
  wpAny (model X.prog X.w) X.A (eval iter X.env) (λv s1=>wpAny (model X.prog X.w) X.A (pyIter v) (PIE X pins U tg R) X.xe s1) X.xe s
theorem XI {M:Model}{o:Obj}{n:String}{vs:Array Value}{Q:Unit->Shared->Prop}(ho:s.heap.get? it=some o)(hc:o.cls = .type n)(hd:o.data = .fields vs)(hn:["enumerate","zip","dict_itemiterator","dict_reverseitemiterator","odict_iterator","itertools.zip_longest","itertools.pairwise"].contains n=false)(hQ:Q () s):wpAny M A (letOwnedTupleGo tg (.ref it) u) Q E s:=by
  unfold letOwnedTupleGo;cases tg<;>first
    |exact yD hQ
    | (cases u <;> first
        |exact yD hQ
        | (refine yU (wpAny_load ho ?_)
           rw [hc,hd];show wpAny M A (if (["enumerate","zip","dict_itemiterator","dict_reverseitemiterator","odict_iterator","itertools.zip_longest","itertools.pairwise"].contains n&&vs[0]?==some (rawInt _))=true then _ else _) Q E s;rw [if_neg (by intro h;rw [hn,Bool.false_and] at h;cases h)];exact yD hQ))
def Itl (K:Fg)(a:Addr):It :=
 ⟨λi H=>∃ xs x,SqL K H a xs/\xs[i]?=some x,λi H x H'=>H'=H/\∀ xs,SqL K H a xs->xs[i]?=some x,λi H=>∃ xs,SqL K H a xs/\xs.length<=i⟩
def Itr (lo:Int)(n:Nat):It:=⟨λi _=>i<n,λi H x H'=>H'=H/\x = .int (lo+i),λi _=>n<=i⟩
theorem Do (a it:Addr):zO P w K tg (Itl K a) [it] it (λi h=>h.IsListIter it a i) where
 mem:=by simp
 obj:=λi h st b hb=>by
  have e:b=it:=by simpa using hb
  subst e;obtain ⟨o,e,c,d⟩:=st;exact ⟨o,e,λv z=>by rw [d] at z;cases z⟩
 keep:=λi h h' st k=>st.at λo e=>k it (by simp) o e
 item:=by intro X hP hw hK hc i pins s U H E I hf st hg;subst hP hw hK;obtain ⟨xs,x,hq,hx⟩:=hg;obtain ⟨its,rv,p,hz⟩:=I.list hq;obtain ⟨u,hu,ru⟩:=rv.get hx;obtain ⟨f0,f1,f2,f3,f4,f5⟩:=hf it (by simp);refine wpAny_pyNext_list_item st p.isList (x:=u) (by simpa using hu) λh' st' sb=>?_;have I1:Inv X pins U H { s with heap:=h' }:=I.turned (t':=s.toks) (λb o hb e=>(sb.2 b hb).trans e) f0 f1 f3 f4 f5;obtain ⟨o,e,c,d⟩:=id st';exact ⟨u,rfl,XI (s:={ s with heap:=h' }) e c d (by decide) ⟨x,H,I1,ru,⟨rfl,λys hy=>by rw [I.list_inj hy hq];exact hx⟩,st',λb hb=>(hf b hb).1⟩⟩
 done:=by intro X hP hw hK hc i pins s U H E I hf st hg;subst hP hw hK;obtain ⟨xs,hq,hx⟩:=hg;obtain ⟨its,rv,p,hz⟩:=I.list hq;obtain ⟨f0,f1,f2,f3,f4,f5⟩:=hf it (by simp);have hl:=rv.length;exact wpAny_pyNext_list_end (I.ok.hd hc) st p.isList (by simp;omega) λh' eb=>⟨rfl,I.turned (t':=s.toks) (λb o hb e=>eb b o hb e) f0 f1 f3 f4 f5⟩
 self:=λ_ _ _ _ _ st h=>wpAny_pyIter_listiter st h
theorem Dp (it:Addr)(lo:Int)(n:Nat):zO P w K tg (Itr lo n) [it] it (λi h=>IsRangeIter h it (lo+(i:Nat)*1) ((n:Int)-(i:Nat)) 1) where
 mem:=by simp
 obj:=λi h st b hb=>by
  have e:b=it:=by simpa using hb
  subst e;exact ⟨_,st,λv z=>by
   have z':Data.fields _=Data.cell v:=z;cases z'⟩
 keep:=λi h h' st k=>k it (by simp) _ st
 item:=by intro X hP hw hK hc i pins s U H E I hf st hg;subst hP hw hK;obtain ⟨f0,f1,f2,f3,f4,f5⟩:=hf it (by simp);have W:=Walks.range (prog:=X.prog) (w:=X.w) (I.ok.hd hc) it lo 1 n;refine W.item i s _ _ hg st λv h' tk hv st' kk=>?_;obtain ⟨t,rfl⟩:=hv;have I1:Inv X pins U H { s with heap:=h',toks:=tk }:=I.turned (λb o hb e=>kk b o (by simpa using hb) e) f0 f1 f3 f4 f5;refine ⟨_,rfl,XI (s:={ s with heap:=h',toks:=tk }) (n:="range_iterator") st' rfl rfl (by decide) ⟨.int (lo+i),H,I1,⟨t,?_⟩,⟨rfl,rfl⟩,st',λb hb=>(hf b hb).1⟩⟩;rw [Int.mul_one]
 done:=by intro X hP hw hK hc i pins s U H E I hf st hg;subst hP hw hK;obtain ⟨f0,f1,f2,f3,f4,f5⟩:=hf it (by simp);exact wpAny_pyNext_range_end (I.ok.hd hc) st (by have:n<=i:=hg;omega) λh' eb=>⟨rfl,I.turned (t':=s.toks) (λb o hb e=>eb b o hb e) f0 f1 f3 f4 f5⟩
 self:=λ_ _ _ _ _ st h=>wpAny_pyIter_rangeiter st h
section
variable {X:Cx}{tg:Expr}
def Qs (K:Fg)(tl:TE):TI:=λU H R=>tl U H λx H1=>∃ a,x = .ref a/\(∃ xs,SqL K H1 a xs)/\R (Itl K a) H1
theorem PB {l:Expr}{tl:TE}(hl:PE X l tl):PI X tg l (Qs X.K tl):=by
 intro pins s U H R I h;refine z6 (hl pins s U H _ I h) λv s1 ⟨x,H1,I1,r1,q1⟩=>?_;obtain ⟨a,e,⟨xs,hq⟩,q⟩:=q1;subst e;cases r1;obtain ⟨its,rv,p,hz⟩:=I1.list hq;refine wpAny_pyIter_list p.isList ?_;refine ⟨s1.heap.objs.size,[s1.heap.objs.size],_,_,H1,rfl,I1.kept (t':=s1.toks) λb o e=>yT _ e,Do a _,⟨_,yv _ rfl,rfl,rfl⟩,λb hb=>?_,q⟩;have e:b=s1.heap.objs.size:=by simpa using hb
 subst e;exact I1.fpOk (yS _) (I1.hok.fresh (yS _))
theorem Cc {R:It->Hp->Prop}{hi:Int}{t u v:Tok}{tk:Nat}(I:Inv X pins U H s)(h1:-(2 ^ 62)<=lo)(h2:lo<2 ^ 62)(h3:-(2 ^ 62)<=hi)(h4:hi<2 ^ 62)(q:R (Itr lo (hi-lo).toNat) H):wpAny (model X.prog X.w) X.A (pyIter (.ref s.heap.objs.size)) (PIE X pins U tg R) E { s with heap:=s.heap.push { cls:= .type "range",data:= .fields #[.int lo t,.int hi u,.int 1 v] },toks:=tk }:=by
 refine wpAny_pyIter_range (IsRange.new ..) (small_one h1 h2 h3 h4) ?_;have I1:Inv X pins U H { s with heap:=s.heap.push { cls:= .type "range",data:= .fields #[.int lo t,.int hi u,.int 1 v] },toks:=tk }:=I.kept λb o e=>yT _ e;refine ⟨(s.heap.push { cls:= .type "range",data:= .fields #[.int lo t,.int hi u,.int 1 v] }).objs.size,[(s.heap.push { cls:= .type "range",data:= .fields #[.int lo t,.int hi u,.int 1 v] }).objs.size],_,_,H,rfl,
  I1.kept (t':=tk) λb o e=>yT _ e,Dp _ lo (hi-lo).toNat,?_,λb hb=>?_,q⟩
 ·have e1:lo+((0:Nat):Int)*1=lo:=by simp
  have e2:(((hi-lo).toNat:Nat):Int)-((0:Nat):Int)=Builtin.Range.rangeSize lo hi 1:=by rw [rangeSize_one];split<;>omega
  show IsRangeIter _ _ (lo+((0:Nat):Int)*1) ((((hi-lo).toNat:Nat):Int)-((0:Nat):Int)) 1;rw [e1,e2];exact yv _ rfl
 ·have e:b=(s.heap.push { cls:= .type "range",data:= .fields #[.int lo t,.int hi u,.int 1 v] }).objs.size:=by simpa using hb
  subst e;exact I1.fpOk (yS _) (I1.hok.fresh (yS _))
def XL (ta:TA):TI:=λU H R=>ta U H λvs H1=>∃ j:Int,vs=[.int j]/\-(2 ^ 62)<=j/\j<2 ^ 62/\R (Itr 0 j.toNat) H1
theorem vC {a:Expr}{ta:TA}{p:Pos}(hg:Gl X "range")(hm:X.mg "range"=none)(ha:PA X [a] ta)(hs:starEach [a] X.env=[(false,eval a X.env)]:=by rfl):PI X tg (.Call (.Name "range" p) [a] [] pos) (XL ta):=by
 intro pins s U H R I h;refine Call_ (jD I hg hm boot_range (PyProof.Rows.callWith_type1 (z6 (ha pos pins s U H _ I h) λus s1 ⟨vs,H1,I1,r1,q1⟩=>?_) hs rfl));obtain ⟨j,e,q1,q2,q⟩:=q1;subst e;cases r1 with
 |cons r rr=>cases rr;obtain ⟨t,rfl⟩:=r;exact call_range_1 (Cc I1 (by omega) (by omega) q1 q2 (by simpa using q))
def tFor (wi:TI)(g:TG)(tb:TS):TS:=λD U H=>wi U H λJ H1=>∃ W:Nat->Nat->St->Hp->Prop,(∃ m,W 0 m U H1)/\∀ i m U H,W i m U H ->
 (J.stop i H/\D.nx U H)∨(J.go i H/\∃ N:St->Hp->Prop,(∀ σ' H',N σ' H'->∃ m',m'<m/\W (i+1) m' σ' H')/\∀ x H',J.yld i H x H'->g x U H' λσ2 H2=>tb { D with nx:=N,ct:=N,bk:=D.nx } σ2 H2)
def wF (fp:List Addr)(h:Heap):List (Addr×Obj):=fp.filterMap λb=>(h.get? b).map λo=>(b,o)
theorem QE {o:Obj}(hb:b∈fp)(e:h.get? b=some o):(b,o)∈wF fp h:=yc.mpr ⟨b,hb,by rw [e];rfl⟩
theorem Bf {p:Addr×Obj}(hp:p∈wF fp h):p.1∈fp/\h.get? p.1=some p.2:=by
 obtain ⟨b,hb,e⟩:=yc.mp hp;cases q:h.get? b with
 |none=>rw [q] at e;cases e
 |some o=>rw [q] at e;have e':(b,o)=p:=Option.some.inj e;subst e';exact ⟨hb,q⟩
theorem Inv.pinned (I:Inv X pins U H s)(hf:∀ b∈fp,qH X pins H b)(ho:∀ b∈fp,∃ o,s.heap.get? b=some o/\∀ v,o.data ≠ .cell v):Inv X (pins++wF fp s.heap) U H s :=
 I.pins_of λp hp=>(yA.mp hp).elim (λz=>I.pin p (yC _ z)) λz=>by
  obtain ⟨hb,e⟩:=Bf z;obtain ⟨f0,f1,f2,_⟩:=hf p.1 hb;obtain ⟨o,e',d⟩:=ho p.1 hb;rw [e] at e';cases e';exact ⟨e,f0,f1,f2,d⟩
theorem Inv.unpinned {pl:List (Addr×Obj)}(I:Inv X (pins++pl) U H s):Inv X pins U H s:=I.pins_of λp hp=>I.pin p (yC _ (yk _ hp))
theorem ji {iter:Expr}{body:List Stmt}{wi:TI}{g:TG}{tb:TS}{pos:Pos}(hp:PassesOwn (model X.prog X.w) X.A X.env X.xe)(hc:X.calm=true)(hi:PI X tg iter wi)(hg:PG X tg g)(hb:PSs X body tb)(hs:∀ x,foldedSetIterable iter X.env x=pure x:=by intro _;rfl):PS X (.For tg iter body [] pos) (tFor wi g tb):=by
 intro pins s U H D I h;refine wpAny_For (z6 (hi pins s U H _ I h) λv s1 h1=>z6 h1 λitv s2 h2=>?_) hs;obtain ⟨it,fp,tn,J,H2,e,I2,T,st2,f2,W,⟨m0,w0⟩,turn⟩:=h2;subst e
 -- what stays true of the iterator's objects through the loop
 have stat:∀{H':Hp},(∀ b∈fp,H' b=none)->∀ b∈fp,qH X pins H' b:=λhn b hb=>⟨hn b hb,(f2 b hb).2⟩;refine codeAny_forLoop_any (λn s'=>∃ i σ' H',Inv X pins σ' H' s'/\tn i s'.heap/\(∀ b∈fp,H' b=none)/\W i n σ' H') ?_ m0 ⟨0,U,H2,I2,st2,λb hb=>(f2 b hb).1,w0⟩;rintro n s3 ⟨i,σ3,H3,I3,st3,fr3,w3⟩;rcases turn i n σ3 H3 w3 with ⟨stop,qn⟩|⟨go,N,hN,step⟩
 ·refine wpAny_passesOwn hp (z6 (T.done X rfl rfl rfl hc i pins s3 σ3 H3 X.xe I3 (stat fr3) st3 stop) λr s4 ⟨hr,I4⟩=>?_);subst hr;exact wpAny_execs_nil ⟨σ3,H3,I4,qn⟩
 ·refine wpAny_passesOwn hp (z6 (T.item X rfl rfl rfl hc i pins s3 σ3 H3 X.xe I3 (stat fr3) st3 go) λr s4 ⟨u,hr,h4⟩=>?_);subst hr;refine wpAny_passesOwn hp (z6 h4 λ_ s5 ⟨x,H5,I5,r5,y5,st5,fr5⟩=>?_);have I5':=I5.pinned (stat fr5) (T.obj _ _ st5);refine wpAny_passesOwn hp (z6 (hg _ s5 σ3 H5 x u _ I5' r5 (step x H5 y5)) λ_ s6 ⟨σ6,H6,I6,q6⟩=>?_);refine wpAny_passesOwn hp (z6 (hb _ s6 σ6 H6 _ I6 q6) λf s7 q7=>?_);have again:∀{σ7:St}{H7:Hp},Inv X (pins++wF fp s5.heap) σ7 H7 s7->N σ7 H7->∃ m,m<n/\∃ i σ' H',Inv X pins σ' H' s7/\tn i s7.heap/\(∀ b∈fp,H' b=none)/\W i m σ' H':=λ{σ7 H7} I7 n7=>by
   obtain ⟨m',hm,w7⟩:=hN σ7 H7 n7;refine ⟨m',hm,i+1,σ7,H7,I7.unpinned,T.keep _ _ _ st5 λb hb o e=>(I7.pin (b,o) (yC _ (yC _ (QE hb e)))).1,λb hb=>?_,w7⟩;obtain ⟨o,e,d⟩:=T.obj _ _ st5 b hb;exact (I7.pin (b,o) (yC _ (yC _ (QE hb e)))).2.1
  cases f with
  |next=>obtain ⟨σ7,H7,I7,n7⟩:=q7;exact again I7 n7
  |cont=>obtain ⟨σ7,H7,I7,n7⟩:=q7;exact again I7 n7
  |brk=>obtain ⟨σ7,H7,I7,q7⟩:=q7;exact ⟨σ7,H7,I7.unpinned,q7⟩
  |ret v=>obtain ⟨x7,σ7,H7,I7,r7,q7⟩:=q7;exact ⟨x7,σ7,H7,I7.unpinned,r7,q7⟩
end
theorem GQ {tb:TS}(Pv:Nat->St->Hp->Prop)(h0:Pv 0 U H)(hs:∀ i U H,i<n->Pv i U H->g (.int (lo+i)) U H λσ2 H2=>tb { D with nx:=Pv (i+1),ct:=Pv (i+1),bk:=D.nx } σ2 H2)(hd:∀ U H,Pv n U H->D.nx U H):∃ W:Nat->Nat->St->Hp->Prop,(∃ m,W 0 m U H)/\∀ i m U H,W i m U H -> ((Itr lo n).stop i H/\D.nx U H)∨((Itr lo n).go i H/\∃ N:St->Hp->Prop,(∀ σ' H',N σ' H'->∃ m',m'<m/\W (i+1) m' σ' H')/\∀ x H',(Itr lo n).yld i H x H'->g x U H' λσ2 H2=>tb { D with nx:=N,ct:=N,bk:=D.nx } σ2 H2):=by
 refine ⟨λi m U H=>m=n-i/\i<=n/\Pv i U H,⟨n,by simp,yi _,h0⟩,?_⟩;rintro i m U H ⟨rfl,hi,p⟩;by_cases hlt:i<n
 ·refine .inr ⟨hlt,Pv (i+1),λσ' H' p'=>⟨n-(i+1),by omega,rfl,hlt,p'⟩,λx H' y=>?_⟩;obtain ⟨e,y⟩:=y;subst e y;exact hs i U _ hlt p
 ·have e:i=n:=by omega
  subst e;exact .inl ⟨yS _,hd U H p⟩
abbrev R2:=V->V->Hp->VK->Prop
variable{r r':R2}
def OpR (X:Cx)(f:Value->Value->Sem Value)(r:R2):Prop :=
 ∀(pins:List (Addr×Obj))(s:Shared)(U:St)(H:Hp)(x y:V)(v u:Value)(Q:VK),Inv X pins U H s->RelV x v->RelV y u->r x y H Q ->
  wpAny (model X.prog X.w) X.A (f v u) (EP X pins U Q) X.xe s
def UnR (X:Cx)(f:Value->Sem Value)(r:V->Hp->VK->Prop):Prop :=
 ∀(pins:List (Addr×Obj))(s:Shared)(U:St)(H:Hp)(x:V)(v:Value)(Q:VK),Inv X pins U H s->RelV x v->r x H Q ->
  wpAny (model X.prog X.w) X.A (f v) (EP X pins U Q) X.xe s
def CallR (X:Cx)(f:Value)(r:List V->Hp->VK->Prop):Prop :=
 ∀(pins:List (Addr×Obj))(s:Shared)(U:St)(H:Hp)(xs:List V)(us:List Value)(Q:VK),Inv X pins U H s->Vals xs us->r xs H Q ->
  wpAny (model X.prog X.w) X.A (call f us) (EP X pins U Q) X.xe s
def TruR (X:Cx)(r:V->Hp->(Bool->Hp->Prop)->Prop):Prop :=
 ∀(pins:List (Addr×Obj))(s:Shared)(U:St)(H:Hp)(x:V)(v:Value)(Q:Bool->Hp->Prop),Inv X pins U H s->RelV x v->r x H Q ->
  wpAny (model X.prog X.w) X.A (truthy v) (TP X pins U Q) X.xe s
def tOp (r:R2)(ta tb:TE):TE:=λU H Q=>ta U H λx H1=>tb U H1 λy H2=>r x y H2 Q
def tUn (r:V->Hp->VK->Prop)(ta:TE):TE:=λU H Q=>ta U H λx H1=>r x H1 Q
def rI (C:Int->Int->Prop)(g:Int->Int->V):R2:=λx y H Q=>∃ i j,x = .int i/\y = .int j/\C i j/\Q (g i j) H
def rI0 (g:Int->Int->V):R2:=λx y H Q=>∃ i j,x = .int i/\y = .int j/\Q (g i j) H
def rU (g:Int->V):V->Hp->VK->Prop:=λx H Q=>∃ i,x = .int i/\Q (g i) H
section
variable {X:Cx}{a b c:Expr}{ta tb tc:TE}{pos:Pos}
theorem binT (ha:PE X a ta)(hb:PE X b tb)(I:Inv X pins U H s)(h:ta U H λx H1=>tb U H1 λy H2=>R x y H2)(hf:∀ v u s2 x y H2,Inv X pins U H2 s2->RelV x v->RelV y u->R x y H2->wpAny (model X.prog X.w) X.A (f v u) Q X.xe s2):wpAny (model X.prog X.w) X.A (eval a X.env) (λv s₁=>wpAny (model X.prog X.w) X.A (eval b X.env) (λu s₂=>wpAny (model X.prog X.w) X.A (f v u) Q X.xe s₂) X.xe s₁) X.xe s:=by refine z6 (ha pins s U H _ I h) λv s1 ⟨x,H1,I1,r1,q1⟩=>?_;refine z6 (hb pins s1 U H1 _ I1 q1) λu s2 ⟨y,H2,I2,r2,q2⟩=>?_;exact hf v u s2 x y H2 I2 r1 r2 q2
theorem v7 {op:Operator}(ho:OpR X (binaryOp op) r)(ha:PE X a ta)(hb:PE X b tb):PE X (.BinOp a op b pos) (tOp r ta tb):=by intro pins s U H Q I h;exact wpAny_BinOp (binT ha hb I h λv u s2 x y H2 I2 rx ry q=>ho pins s2 U H2 x y v u Q I2 rx ry q)
theorem vB {op:UnaryOp}{r:V->Hp->VK->Prop}(ho:UnR X (unaryOp op) r)(ha:PE X a ta):PE X (.UnaryOp op a pos) (tUn r ta):=by intro pins s U H Q I h;exact UnaryOp_ (z6 (ha pins s U H _ I h) λv s1 ⟨x,H1,I1,r1,q1⟩=>ho pins s1 U H1 x v Q I1 r1 q1)
theorem opI {C:Int->Int->Prop}{g:Int->Int->Int}(rule:∀(i j:Int)(t u:Tok)(s:Shared)(Q:Value->Shared->Prop)(E:Value->Shared->Prop),C i j->Q (.int (g i j) s.toks) { s with toks:=s.toks+1 }->wpAny (model X.prog X.w) X.A (f (.int i t) (.int j u)) Q E s):OpR X f (rI C λi j=> .int (g i j)):=by intro pins s U H x y v u Q I rx ry h;obtain ⟨i,j,rfl,rfl,hc,q⟩:=h;obtain ⟨t,rfl⟩:=rx;obtain ⟨t',rfl⟩:=ry;exact rule i j t t' s _ _ hc ⟨.int (g i j),H,I.tok _,⟨_,rfl⟩,q⟩
theorem opI0 {g:Int->Int->Int}(rule:∀(i j:Int)(t u:Tok)(s:Shared)(Q:Value->Shared->Prop)(E:Value->Shared->Prop),Q (.int (g i j) s.toks) { s with toks:=s.toks+1 }->wpAny (model X.prog X.w) X.A (f (.int i t) (.int j u)) Q E s):OpR X f (rI0 λi j=> .int (g i j)):=by intro pins s U H x y v u Q I rx ry h;obtain ⟨i,j,rfl,rfl,q⟩:=h;obtain ⟨t,rfl⟩:=rx;obtain ⟨t',rfl⟩:=ry;exact rule i j t t' s _ _ ⟨.int (g i j),H,I.tok _,⟨_,rfl⟩,q⟩
theorem opB0 {g:Int->Int->Bool}(rule:∀(i j:Int)(t u:Tok)(s:Shared)(Q:Value->Shared->Prop)(E:Value->Shared->Prop),Q (.bool (g i j)) s->wpAny (model X.prog X.w) X.A (f (.int i t) (.int j u)) Q E s):OpR X f (rI0 λi j=> .bl (g i j)):=by intro pins s U H x y v u Q I rx ry h;obtain ⟨i,j,rfl,rfl,q⟩:=h;obtain ⟨t,rfl⟩:=rx;obtain ⟨t',rfl⟩:=ry;exact rule i j t t' s _ _ ⟨.bl (g i j),H,I,rfl,q⟩
def zK (i j:Int):Prop:=0<=j/\j<=1000000/\i.natAbs<2 ^ 64
def CMul (i j:Int):Prop:=(-(2 ^ 64)<i/\i<2 ^ 64)∨(-(2 ^ 64)<j/\j<2 ^ 64)
theorem CMul.ok {i j:Int}(h:CMul i j):IntMulOk i j:=by
 rcases h with ⟨h1,h2⟩|⟨h1,h2⟩
 ·exact .of_left (intBits_le_64 h1 h2)
 ·exact .of_right (intBits_le_64 h1 h2)
theorem op_add:OpR X (binaryOp .Add) (rI0 λi j=> .int (i+j)):=opI0 λ_ _ _ _ _ _ _ q=>add_int q
theorem zg:OpR X (binaryOp .Sub) (rI0 λi j=> .int (i-j)):=opI0 λ_ _ _ _ _ _ _ q=>sub_int q
theorem vw:OpR X (binaryOp .Mult) (rI CMul λi j=> .int (i*j)):=opI λ_ _ _ _ _ _ _ hc q=>mul_int q hc.ok
theorem jI:OpR X (binaryOp .Mod) (rI (λ_ j=>0<j) λi j=> .int (i % j)):=opI λi j _ _ _ _ _ hc q=>by
 have h1:(0:Int)<j:=hc;exact mod_int' (by omega) (by rw [Int.fmod_eq_emod_of_nonneg i (by omega)];exact q)
theorem xH:OpR X (binaryOp .Pow) (rI zK λi j=> .int (i ^ j.toNat)):=opI λ_ _ _ _ _ _ _ hc q=>pow_int_small hc.1 hc.2.1 hc.2.2 q
theorem unI {f:Value->Sem Value}{g:Int->Int}(rule:∀(i:Int)(t:Tok)(s:Shared)(Q:Value->Shared->Prop)(E:Value->Shared->Prop),Q (.int (g i) s.toks) { s with toks:=s.toks+1 }->wpAny (model X.prog X.w) X.A (f (.int i t)) Q E s):UnR X f (rU λi=> .int (g i)):=by intro pins s U H x v Q I rx h;obtain ⟨i,rfl,q⟩:=h;obtain ⟨t,rfl⟩:=rx;exact rule i t s _ _ ⟨.int (g i),H,I.tok _,⟨_,rfl⟩,q⟩
theorem vL:UnR X (unaryOp .USub) (rU λi=> .int (-i)):=unI λ_ _ _ _ _ q=>neg_int q
end
section
variable {X:Cx}{a b c:Expr}{ta tb tc:TE}{pos:Pos}
theorem XG {Q:VK}{k k':Bool}(I:Inv X pins U H s)(q:Q (.bl k) H)(e:k=k'):EP X pins U Q (.bool k') s:=by subst e;exact ⟨.bl k,H,I,rfl,q⟩
theorem QI:OpR X (compareOp .Lt) (rI0 λi j=> .bl (decide (i<j))):=opB0 λ_ _ _ _ _ _ _ q=>lt_int q
theorem QH:OpR X (compareOp .LtE) (rI0 λi j=> .bl (decide (i<=j))):=opB0 λ_ _ _ _ _ _ _ q=>le_int q
theorem WO:OpR X (compareOp .Gt) (rI0 λi j=> .bl (decide (j<i))):=opB0 λ_ _ _ _ _ _ _ q=>gt_int q
theorem QG:OpR X (compareOp .GtE) (rI0 λi j=> .bl (decide (j<=i))):=opB0 λ_ _ _ _ _ _ _ q=>ge_int q
theorem BY:OpR X (compareOp .Is) (λx y H Q=>y = .non/\Q (.bl (decide (x = .non))) H):=by
 intro pins s U H x y v u Q I rx ry h;obtain ⟨rfl,q⟩:=h;cases ry;refine is_none_gen (XG I q ?_);cases x<;>first
  |(cases rx;rfl)
  |(obtain ⟨t,rfl⟩:=rx;rfl)
theorem Pb:OpR X (compareOp .IsNot) (λx y H Q=>y = .non/\Q (.bl (!decide (x = .non))) H):=by
 intro pins s U H x y v u Q I rx ry h;obtain ⟨rfl,q⟩:=h;cases ry;refine isnot_none_gen (XG I q ?_);cases x<;>first
  |(cases rx;rfl)
  |(obtain ⟨t,rfl⟩:=rx;rfl)
theorem OpR.or (h:OpR X f r)(h':OpR X f r'):OpR X f (λx y H Q=>r x y H Q∨r' x y H Q):=by
 intro pins s U H x y v u Q I rx ry q;rcases q with q|q
 ·exact h pins s U H x y v u Q I rx ry q
 ·exact h' pins s U H x y v u Q I rx ry q
theorem c4 (b:Expr)(h:op ≠ .In:=by decide)(h2:op ≠ .NotIn:=by decide):behindInMarks op b=false:=by
 have e1:(op==CmpOp.In)=false:=by cases op<;>first|rfl|exact absurd rfl h
 have e2:(op==CmpOp.NotIn)=false:=by cases op<;>first|rfl|exact absurd rfl h2
 cases b<;>simp [behindInMarks,e1,e2]
theorem Zk (ho:OpR X (compareOp op) r)(ha:PE X a ta)(hb:PE X b tb)(hm:behindInMarks op b=false):PE X (.Compare a [op] [b] pos) (tOp r ta tb):=by intro pins s U H Q I h;exact wpAny_Compare1 (binT ha hb I h λv u s2 x y H2 I2 rx ry q=>ho pins s2 U H2 x y v u Q I2 rx ry q) hm
def Xc (t:TE):TT:=λU H Q=>t U H λx H'=>∃ k,x = .bl k/\Q k H'
theorem c8 (ho:OpR X (compareOp op) r)(ha:PE X a ta)(hb:PE X b tb)(hm:behindInMarks op b=false):PT X (.Compare a [op] [b] pos) (Xc (tOp r ta tb)):=by
 intro pins s U H Q I h;refine wpAny_isTrue_Compare1 (z6 (ha pins s U H _ I h) λv s1 ⟨x,H1,I1,r1,q1⟩=>z6 (hb pins s1 U H1 _ I1 q1) λu s2 ⟨y,H2,I2,r2,q2⟩ =>
  z6 (ho pins s2 U H2 x y v u _ I2 r1 r2 q2) λc s3 ⟨z,H3,I3,r3,k,e,q3⟩=>?_) hm
 subst e;cases r3;exact wpAny_truthy_bool ⟨H3,I3,q3⟩
def Jl (r r':R2)(ta tb tc:TE):TE:=λU H Q=>ta U H λx H1=>tb U H1 λy H2=>r x y H2 λz H3=>∃ k,z = .bl k /\
 (if k=true then tc U H3 λw' H4=>r' y w' H4 Q else Q (.bl false) H3)
theorem Pm (ho:OpR X (compareOp op) r)(ho':OpR X (compareOp op') r')(ha:PE X a ta)(hb:PE X b tb)(hc:PE X c tc)(hm:lastMarks [op,op'] [b,c]=false:=by with_unfolding_all rfl):PE X (.Compare a [op,op'] [b,c] pos) (Jl r r' ta tb tc):=by
 intro pins s U H Q I h;refine Compare_chain (z6 (ha pins s U H _ I h) λv s1 ⟨x,H1,I1,r1,q1⟩=>chain_link (z6 (hb pins s1 U H1 _ I1 q1) λu s2 ⟨y,H2,I2,r2,q2⟩ =>
  z6 (ho pins s2 U H2 x y v u _ I2 r1 r2 q2) λd s3 ⟨z,H3,I3,r3,k,e,q3⟩=>?_)) hm
 subst e;cases r3;refine wpAny_truthy_bool ?_;cases k with
 |false=>exact ite_ff ⟨.bl false,H3,I3,rfl,q3⟩
 |true=>exact ite_tt (chain_last (z6 (hc pins s3 U H3 _ I3 q3) λw' s4 ⟨z',H4,I4,r4,q4⟩=>ho' pins s4 U H4 y z' u w' Q I4 r2 r4 q4))
theorem Yf (ho:OpR X (compareOp op) r)(ho':OpR X (compareOp op') r')(ha:PE X a ta)(hb:PE X b tb)(hc:PE X c tc)(hm:lastMarks [op,op'] [b,c]=false:=by with_unfolding_all rfl):PT X (.Compare a [op,op'] [b,c] pos) (Xc (Jl r r' ta tb tc)):=by
 intro pins s U H Q I h;refine isTrue_chain (z6 (ha pins s U H _ I h) λv s1 ⟨x,H1,I1,r1,q1⟩=>test_link (z6 (hb pins s1 U H1 _ I1 q1) λu s2 ⟨y,H2,I2,r2,q2⟩ =>
  z6 (ho pins s2 U H2 x y v u _ I2 r1 r2 q2) λd s3 ⟨z,H3,I3,r3,k,e,q3⟩=>?_)) hm
 subst e;cases r3;refine wpAny_truthy_bool ?_;cases k with
 |false=>obtain ⟨k',e',q'⟩:=q3;cases e';exact ite_ff ⟨H3,I3,q'⟩
 |true=>refine ite_tt (test_last (z6 (hc pins s3 U H3 _ I3 q3) λw' s4 ⟨z',H4,I4,r4,q4⟩=>z6 (ho' pins s4 U H4 y z' u w' _ I4 r2 r4 q4) λd' s5 ⟨z2,H5,I5,r5,k2,e2,q5⟩=>?_));subst e2;cases r5;exact wpAny_truthy_bool ⟨H5,I5,q5⟩
def TruV (K:Fg)(x:V)(H:Hp)(k:Bool):Prop :=
 match x with
 | .non=>k=false
 | .bl b=>k=b
 | .int i=>k=(i != 0)
 | .str y=>y.length<=sizeLine/\k=((y.length:Int) != 0)
 | .byt y=>y.size<=sizeLine/\k=((y.size:Int) != 0)
 | .ref p=>(∃ xs,SqL K H p xs/\k=!xs.isEmpty)∨(∃ xs,SqT K H p xs/\k=!xs.isEmpty)∨∃ kvs,H p=some (.dK kvs)/\k=!kvs.isEmpty
 |_=>False
theorem Kp {κ:Type}{kvs:List (κ×V)}{vs:List (κ×Value)}(r:KV kvs vs):(!vs.isEmpty)=!kvs.isEmpty:=by cases r<;>rfl
theorem Wn {its:List Value}(r:Vals xs its):(!its.toArray.isEmpty)=!xs.isEmpty:=by cases r<;>simp
theorem jE:(sizeLine:Nat)<2 ^ 63:=by rw [sizeLine_eq];decide
theorem Dm:TruR X (λx H Q=>∃ k,TruV X.K x H k/\Q k H):=by
 intro pins s U H x v Q I rx h;obtain ⟨k,e,q⟩:=h;have hl:=jE;have hs:sizeLine=16777216:=sizeLine_eq;cases x with
 |non=>cases rx;have e':k=false:=e;subst e';exact truthy_none ⟨H,I,q⟩
 |bl b=>cases rx;have e':k=b:=e;subst e';exact wpAny_truthy_bool ⟨H,I,q⟩
 |int i=>obtain ⟨t,rfl⟩:=rx;have e':k=(i != 0):=e;subst e';exact PySem.P.truthy_int ⟨H,I,q⟩
 |str y=>obtain ⟨t,rfl⟩:=rx;obtain ⟨hy,e'⟩:y.length<=sizeLine/\k=((y.length:Int) != 0):=e;subst e';exact PySem.P.truthy_str (by omega) ⟨H,I.tok _,q⟩
 |byt y=>obtain ⟨t,rfl⟩:=rx;obtain ⟨hy,e'⟩:y.size<=sizeLine/\k=((y.size:Int) != 0):=e;subst e';exact PySem.W.truthy_bytes (by omega) ⟨H,I.tok _,q⟩
 |ref p =>
  cases rx;have e':(∃ xs,SqL X.K H p xs/\k=!xs.isEmpty)∨(∃ xs,SqT X.K H p xs/\k=!xs.isEmpty)∨∃ kvs,H p=some (.dK kvs)/\k=!kvs.isEmpty:=e;rcases e' with ⟨xs,hx,e'⟩|⟨xs,hx,e'⟩|⟨kvs,hx,e'⟩
  ·subst e';obtain ⟨its,r,pl,hz⟩:=I.list hx;have hlen:=r.length;exact wpAny_truthy_list pl.isList (by simp only [yY];omega) ⟨H,I.tok _,by rw [Wn r];exact q⟩
  ·subst e';obtain ⟨its,r,pl,hz⟩:=I.tuple hx;have hlen:=r.length;exact truthy_tuple pl (by simp only [yY];omega) ⟨H,I.tok _,by rw [Wn r];exact q⟩
  ·subst e';obtain ⟨hz,hS,vs,r,m⟩:kvs.length<=sizeLine/\(p==sysModules)=false/\∃ vs,KV kvs vs/\s.heap.DictOf (qo X.prog X.w) p vs:=I.hok p _ hx;have hlen:kvs.length=vs.length:=Paired.length r;exact wpAny_truthy_dict hS m (by omega) ⟨H,I.tok _,by rw [Kp r];exact q⟩
 |_=>exact (show False from e).elim
theorem Ca (ha:PE X a ta)(he:∀ whole,isTrue a X.env whole=(do let v <- whole;standAt a.pos;holding [v] (truthy v))):
  PT X a (λU H Q=>ta U H λx H'=>∃ k,TruV X.K x H' k/\Q k H'):=by
 intro pins s U H Q I h;exact isTrue_plain (z6 (ha pins s U H _ I h) λv s1 ⟨x,H1,I1,r1,q1⟩=>Dm pins s1 U H1 x v Q I1 r1 q1) (he _)
theorem op_add_str:OpR X (binaryOp .Add) (λx y H Q=>∃ i j,x = .str i/\y = .str j/\i.length+j.length<=sizeLine/\Q (.str (i++j)) H):=by intro pins s U H x y v u Q I rx ry h;obtain ⟨i,j,rfl,rfl,hz,q⟩:=h;obtain ⟨t,rfl⟩:=rx;obtain ⟨t',rfl⟩:=ry;exact add_str (λt' tk=>⟨.str (i++j),H,I.tok _,⟨_,rfl⟩,q⟩) hz
theorem jo {x:V}(r:Vals [x] us):∃ u,us=[u]/\RelV x u:=by
 cases r with
 |cons r1 r2=>cases r2;exact ⟨_,rfl,r1⟩
theorem Xf {x:V}(r:Vals [x,y] us):∃ u w',us=[u,w']/\RelV x u/\RelV y w':=by
 cases r with
 |cons r1 r2 =>
  cases r2 with
  |cons r3 r4=>cases r4;exact ⟨_,_,rfl,r1,r3⟩
theorem Gc (hc:X.calm=true):CallR X (.builtin "min") (λxs H Q=>∃ i j,xs=[.int i,.int j]/\Q (.int (if j<i then j else i)) H):=by
 intro pins s U H xs us Q I r h;obtain ⟨i,j,rfl,q⟩:=h;obtain ⟨u,w',rfl,⟨t,rfl⟩,⟨t',rfl⟩⟩:=Xf r;refine min_two_ints (I.ok.hd hc) λh' tk k=>⟨_,H,I.kept k,?_,q⟩;by_cases hj:j<i
 ·rw [if_pos hj,if_pos hj];exact ⟨_,rfl⟩
 ·rw [if_neg hj,if_neg hj];exact ⟨_,rfl⟩
def LenV (K:Fg)(x:V)(H:Hp)(n:Nat):Prop :=
 match x with
 | .str y=>y.length<=sizeLine/\n=y.length
 | .byt y=>y.size<=sizeLine/\n=y.size
 | .ref p=>(∃ xs,SqL K H p xs/\n=xs.length)∨∃ xs,SqT K H p xs/\n=xs.length
 |_=>False
theorem UY:CallR X (.builtin "len") (λxs H Q=>∃ x n,xs=[x]/\LenV X.K x H n/\Q (.int n) H):=by
 intro pins s U H xs us Q I r h;obtain ⟨x,n,rfl,e,q⟩:=h;obtain ⟨u,rfl,rx⟩:=jo r;have hl:=jE;have hs:sizeLine=16777216:=sizeLine_eq;cases x with
 |str y=>obtain ⟨t,rfl⟩:=rx;obtain ⟨hy,e'⟩:y.length<=sizeLine/\n=y.length:=e;subst e';exact len_str (by omega) ⟨.int _,H,I.tok _,⟨_,rfl⟩,q⟩
 |byt y=>obtain ⟨t,rfl⟩:=rx;obtain ⟨hy,e'⟩:y.size<=sizeLine/\n=y.size:=e;subst e';exact PySem.W.len_bytes (by omega) ⟨.int _,H,I.tok _,⟨_,rfl⟩,q⟩
 |ref p =>
  cases rx;have e':(∃ xs,SqL X.K H p xs/\n=xs.length)∨∃ xs,SqT X.K H p xs/\n=xs.length:=e;rcases e' with ⟨xs,hx,e'⟩|⟨xs,hx,e'⟩
  ·subst e';obtain ⟨its,r',pl,hz⟩:=I.list hx;have hlen:=r'.length;exact Calls.call_len_list pl.isList (by simp only [yY];omega) ⟨.int xs.length,H,I.tok _,⟨_,by simp only [yY];rw [hlen]⟩,q⟩
  ·subst e';obtain ⟨its,r',pl,hz⟩:=I.tuple hx;have hlen:=r'.length;exact len_tuple pl (by simp only [yY];omega) ⟨.int xs.length,H,I.tok _,⟨_,by simp only [yY];rw [hlen]⟩,q⟩
 |_=>exact (show False from e).elim
end
structure ObjM (h:Heap)(x dx C:Addr)(mA:Str->Option Value):Prop where
 obj:h.get? x=some (PySem.W.instObj C dx)
 ns:h.Ns1 dx mA
 ne:dx≠x
theorem KS (n:h.Ns1 dx mA):∃ od,h.get? dx=some od/\∀ name,PySem.W.lookIn name od=some (mA name):=by
 obtain ⟨o,es,ep,ho,hd,hk,_,hm⟩:=n;refine ⟨o,ho,λname=>?_⟩;have e:=hm name;unfold nsFind findBy at e;rw [<- Array.find?_toList] at e;unfold PySem.W.lookIn;rw [hd]
 dsimp only
 split
 ·rename_i y q;rw [q] at e;exact congrArg some e
 ·rename_i q;rw [q] at e;have a:es.toList.any (·.refKey)=false:=by rw [List.any_eq_false];intro y hy;obtain ⟨z,t,hkey⟩:=hk y (Array.mem_toList_iff.mp hy);simp [DictEntry.refKey,hkey]
  have a':¬ es.toList.any (·.refKey)=true:=by rw [a];exact yX
  rw [if_neg a'];exact congrArg some e
theorem ObjM.look {x:Addr}(I:ObjM h x dx C mA):∃ od,PySem.W.InstAt h x (PySem.W.instObj C dx) C (some od)/\∀ name,PySem.W.lookIn name od=some (mA name) :=
 let ⟨od,ho,hl⟩:=KS I.ns
 ⟨od,⟨I.obj,rfl,rfl,ho⟩,hl⟩
section
variable {prog:Program}{w:World}{A:Around}{E:Value->Shared->Prop}{s:Shared}{K:Fg}{x dx C f:Addr}{mA:Str->Option Value}{name:Str}{v:Value}
theorem GT {expr:Bool}(X:K.In s.heap)(I:ObjM s.heap x dx C mA)(hg:PySem.W.plainGet K C name=true)(hh:PySem.W.hasDictIn K C=true)(ha:PySem.W.findIn K (.ref C) name=some none)(hv:mA name=some v)(hv':PySem.W.handedIn v=true)(h:Q v { s with toks:=s.toks+1 }):wpAny (model prog w) A (getAttr (.ref x) name expr) Q E s:=by obtain ⟨od,J,hl⟩:=I.look;exact PySem.W.get_value X J (PySem.W.plainGet_of hg).1 (PySem.W.findObj_own hh ha rfl (by rw [hl,hv])) hv' h
theorem GU {Q:Value×List Value->Shared->Prop}(X:K.In s.heap)(I:ObjM s.heap x dx C mA)(hg:PySem.W.plainGet K C name=true)(hf:PySem.W.findIn K (.ref C) name=some (some (.ref f)))(ht:PySem.W.isFn K (.ref f)=true)(hv:mA name=none)(h:Q (.ref f,[.ref x]) s):wpAny (model prog w) A (getMethod (.ref x) name pl) Q E s:=by obtain ⟨od,J,hl⟩:=I.look;exact PySem.W.method_fn X J (PySem.W.plainGet_of hg).1 (PySem.W.plainGet_of hg).2 hf (beq_iff_eq.mp ht) (by show (PySem.W.lookIn name od).map (·.isSome)=some false;rw [hl,hv];rfl) h
theorem Db {ns:List Str}{Q:Unit->Shared->Prop}(X:K.In s.heap)(I:ObjM s.heap x dx C mA)(hs:PySem.W.findIn K (.ref C) "__setattr__"=some (some (.builtin "object.__setattr__")))(hp:PySem.W.plainOver K C=true)(ht:PySem.W.takerIn K C name=some none)(hh:PySem.W.hasDictIn K C=true)(hw:PySem.Within mA ns)(hsz:ns.length<=sizeLine)(h:∀ h',ObjM h' x dx C (λy=>if y=name then some v else mA y)->Heap.SameBut dx s.heap h'->Q () { s with heap:=h',toks:=s.toks+2 }):wpAny (model prog w) A (setAttr (.ref x) name v) Q E s:=by obtain ⟨od,J,hl⟩:=I.look;refine PySem.W.set_plain X J hs (PySem.W.osa_open (s:={ s with toks:=s.toks+1 }) (r:=none) X J hp ht λb=>?_);obtain ⟨cd,hc,hd'⟩:=PySem.W.any_some hh;have hx:s.heap.get? x=some ⟨.ref C,some dx,.plain,#[]⟩:=I.obj;refine yU (yD (yU (yU (wpAny_loadPart hx (yU (PySem.W.Looks.here (s:={ s with toks:=s.toks+1 }) (PySem.W.looks_clsIn X hc) ?_))))));rw [hd'];refine yD (a:=some dx) (yU (yD (yU ?_)));refine wpAny_nsSet1 (s:={ s with toks:=s.toks+1 }) I.ns λh' hn2 hs2=>?_;obtain ⟨oD,esD,epD,hoD,hdD,hcD⟩:=hn2.count (PySem.Within.cons name v hw);refine yU (wpAny_lookBehind hoD (by rw [hdD];exact pastItsLine_dict (yh hcD (by rw [yx];omega))) ?_);exact yD (h _ ⟨(hs2.2 _ (Ne.symm I.ne)).trans I.obj,hn2,I.ne⟩ hs2)
theorem KW {R:Result->Shared->Prop}{vs:List Value}(X:K.In s.heap)(hm:PySem.W.makesIn K C=true)(hi:PySem.W.findIn K (.ref C) "__init__"=some (some (.ref f)))(hf:PySem.W.typeIn K (.ref f)=some (.type "function"))(h:codeAny (model prog w) (A.under (.builtin "type.__call__" ⟨.ref C::vs,kw⟩)) (.call (.ref f) ⟨.ref (s.heap.objs.size+1)::vs,kw⟩) (PySem.W.InitBack (s.heap.objs.size+1) R) { s with heap:=(s.heap.push PySem.W.emptyDict).push (PySem.W.instObj C s.heap.objs.size) }):codeAny (model prog w) A (.call (.ref C) ⟨vs,kw⟩) R s:=by obtain ⟨hh,g,d,t,os⟩:=s;exact PySem.W.make_core (PySem.W.makes_of X hm) (PySem.W.looks_findIn X hi) (λself=>PySem.W.bind_fn X self hf) (.inl rfl) h
end
def qy (f:Str)(v:V):List (Str×V)->List (Str×V)
 |[]=>[(f,v)]
 |(g,x)::r=>if g=f then (g,v)::r else (g,x)::qy f v r
theorem WH (f g:Str)(v:V):∀ fs:List (Str×V),(qy f v fs).lookup g=if g=f then some v else fs.lookup g
 |[]=>by
  show List.lookup g [(f,v)]=_;by_cases h:g=f
  ·have hb:(g==f)=true:=beq_iff_eq.mpr h;simp only [List.lookup,hb,if_pos h]
  ·have hb:(g==f)=false:=beq_eq_false_iff_ne.mpr h;simp only [List.lookup,hb,if_neg h]
 |(k,x)::r=>by
  have ih:=WH f g v r;rw [show qy f v ((k,x)::r)=(if k=f then (k,v)::r else (k,x)::qy f v r) from rfl];by_cases hk:k=f
  ·rw [if_pos hk];by_cases h:g=k
   ·have hb:(g==k)=true:=beq_iff_eq.mpr h;simp only [List.lookup,hb,if_pos (h.trans hk)]
   ·have hb:(g==k)=false:=beq_eq_false_iff_ne.mpr h;simp only [List.lookup,hb,if_neg (λe:g=f=>h (e.trans hk.symm))]
  ·rw [if_neg hk];by_cases h:g=k
   ·have hb:(g==k)=true:=beq_iff_eq.mpr h;simp only [List.lookup,hb,if_neg (λe:g=f=>hk (h.symm.trans e))]
   ·have hb:(g==k)=false:=beq_eq_false_iff_ne.mpr h;simp only [List.lookup,hb];exact ih
theorem XV (f:Str)(v:V):∀ fs:List (Str×V),f∈(qy f v fs).map (·.1)/\∀ g,g∈fs.map (·.1)->g∈(qy f v fs).map (·.1)
 |[]=>⟨by simp [qy],λg h=>by simp at h⟩
 |(k,x)::r=>by
  obtain ⟨i1,i2⟩:=XV f v r;rw [show qy f v ((k,x)::r)=(if k=f then (k,v)::r else (k,x)::qy f v r) from rfl];by_cases hk:k=f
  ·rw [if_pos hk];subst hk;exact ⟨by simp,λg h=>by simpa using h⟩
  ·rw [if_neg hk];refine ⟨?_,λg h=>?_⟩
   ·rw [yP];exact yW _ i1
   ·rw [yP] at h ⊢;rcases yK.mp h with e|e
    ·exact yK.mpr (.inl e)
    ·exact yW _ (i2 g e)
theorem Ww (f:Str)(v:V):∀ fs:List (Str×V),(qy f v fs).length<=fs.length+1
 |[]=>by simp [qy]
 |(k,x)::r=>by
  have ih:=Ww f v r;rw [show qy f v ((k,x)::r)=(if k=f then (k,v)::r else (k,x)::qy f v r) from rfl];by_cases hk:k=f
  ·rw [if_pos hk,yx,yx];omega
  ·rw [if_neg hk,yx,yx];omega
theorem RelO.some_of {o:Option Value}(r:RelO (some v) o):∃ u,o=some u/\RelV v u:=by
 cases o with
 |none=>exact (show False from r).elim
 |some u=>exact ⟨u,rfl,r⟩
theorem RelO.none_of {o:Option Value}(r:RelO none o):o=none:=by
 cases o with
 |none=>rfl
 |some u=>exact (show False from r).elim
theorem GW (r:RelV v u):PySem.W.handedIn u=true:=by
 cases v with
 |non=>cases (show u=Value.none from r);rfl
 |bl b=>cases (show u=Value.bool b from r);rfl
 |int i=>obtain ⟨t,e⟩:=(show ∃ t,u=Value.int i t from r);cases e;rfl
 |str x=>obtain ⟨t,e⟩:=(show ∃ t,u=Value.str x t from r);cases e;rfl
 |byt b=>obtain ⟨t,e⟩:=(show ∃ t,u=Value.bytes b t from r);cases e;rfl
 |flt b=>obtain ⟨t,e⟩:=(show ∃ t,u=Value.float b t from r);cases e;rfl
 |ref a=>cases (show u=Value.ref a from r);rfl
 |ty n=>cases (show u=Value.type n from r);rfl
section
variable {P:Program}{w:World}{H H':Hp}{h h':Heap}{a C dx:Addr}{fs fs':List (Str×V)}
theorem Qu (hok:HOk P w H h)(e:H a=some (.ins C dx fs)):∃ mA,ObjM h a dx C mA/\(∀ f,RelO (fs.lookup f) (mA f))/\PySem.Within mA (fs.map (·.1))/\fs.length<=1000/\H dx=some (.own a):=by obtain ⟨d,z,ne,ob,mA,n,r,q⟩:=(show ObjOk P w H h a (.ins C dx fs) from hok a _ e);exact ⟨mA,⟨ob,n,ne⟩,r,q,z,d⟩
end
structure Cls (K:Fg)(C:Addr):Prop where
 pg:PySem.W.plainGet K C Str.empty=true
 hd:PySem.W.hasDictIn K C=true
 po:PySem.W.plainOver K C=true
 sa:PySem.W.findIn K (.ref C) "__setattr__"=some (some (.builtin "object.__setattr__"))
theorem Cls.get (c:Cls K C)(f:Str):PySem.W.plainGet K C f=true:=c.pg
def NoAttr (K:Fg)(C:Addr)(f:Str):Prop:=PySem.W.findIn K (.ref C) f=some none
theorem NoAttr.taker {f:Str}(n:NoAttr K C f):PySem.W.takerIn K C f=some none:=by unfold PySem.W.takerIn;rw [show PySem.W.findIn K (.ref C) f=some none from n];rfl
structure jV (K:Fg)(C:Addr)(m:Str)(f:Addr):Prop where
 at_:PySem.W.findIn K (.ref C) m=some (some (.ref f))
 fn:PySem.W.isFn K (.ref f)=true
 kp:PySem.W.keepIn K (.ref f)=true
section
variable {X:Cx}{pins:List (Addr×Obj)}{U:St}{H:Hp}{s:Shared}{a C dx:Addr}{fs:List (Str×V)}{f:Str}{v:V}{A:Around}{E:Value->Shared->Prop}
theorem GV {b:Bool}(I:Inv X pins U H s)(e:H a=some (.ins C dx fs))(c:Cls X.K C)(n:NoAttr X.K C f)(l:fs.lookup f=some v)(h:∀ u s',Inv X pins U H s'->RelV v u->Q u s'):wpAny (model X.prog X.w) A (getAttr (.ref a) f b) Q E s:=by obtain ⟨mA,O,r,_,_,_⟩:=Qu I.hok e;obtain ⟨u,hu,ru⟩:=RelO.some_of (v:=v) (o:=mA f) (by rw [<- l];exact r f);exact GT I.kIn O (c.get f) c.hd n hu (GW ru) (h u _ (I.tok _) ru)
theorem Qq {g:Addr}{Q:Value×List Value->Shared->Prop}(I:Inv X pins U H s)(e:H a=some (.ins C dx fs))(c:Cls X.K C)(k:jV X.K C m g)(l:fs.lookup m=none)(h:Q (.ref g,[.ref a]) s):wpAny (model X.prog X.w) A (getMethod (.ref a) m pl) Q E s:=by obtain ⟨mA,O,r,_,_,_⟩:=Qu I.hok e;have hn:mA m=none:=RelO.none_of (by rw [<- l];exact r m);exact GU I.kIn O (c.get m) k.at_ k.fn hn h
theorem Dc {Q:Unit->Shared->Prop}(I:Inv X pins U H s)(e:H a=some (.ins C dx fs))(c:Cls X.K C)(n:NoAttr X.K C f)(hl:fs.length<1000)(ry:RelV y u)(h:∀ s',Inv X pins U (j3 H a (.ins C dx (qy f y fs))) s'->Q () s'):wpAny (model X.prog X.w) A (setAttr (.ref a) f u) Q E s:=by
 obtain ⟨mA,O,r,wi,_,ho⟩:=Qu I.hok e;have hz:(fs.map (·.1)).length<=sizeLine:=by rw [yZ,sizeLine_eq];omega
 refine Db I.kIn O c.sa c.po n.taker c.hd wi hz λh' O' sb=>h _ ?_;have hd:∃ o,h'.get? dx=some o:=let ⟨o,_,_,e',_⟩:=O'.ns;⟨o,e'⟩
 refine I.write (x:=a) (e:=dx) (by rw [e];exact True.intro) (.inr ho) (λb q hb z=>(sb.2 b hb).trans z) hd ?_;refine ⟨by rw [z9 O.ne];exact ho,?_,O.ne,O'.obj,_,O'.ns,λg=>?_,λg hg=>?_⟩
 ·have:=Ww f y fs;omega
 ·show RelO ((qy f y fs).lookup g) (if g=f then some u else mA g);rw [WH];by_cases q:g=f
  ·rw [if_pos q,if_pos q];exact ry
  ·rw [if_neg q,if_neg q];exact r g
 ·by_cases q:g=f
  ·rw [q];exact (XV f y fs).1
  ·refine (XV f y fs).2 g (wi g λz=>hg ?_);show (if g=f then some u else mA g)=none;rw [if_neg q];exact z
theorem Inv.made (I:Inv X pins U H s):Inv X pins U (j3 (j3 H s.heap.objs.size (.own (s.heap.objs.size+1))) (s.heap.objs.size+1) (.ins C s.heap.objs.size [])) { s with heap:=(s.heap.push PySem.W.emptyDict).push (PySem.W.instObj C s.heap.objs.size) }:=by
 have e1:(s.heap.push PySem.W.emptyDict).get? s.heap.objs.size=some PySem.W.emptyDict:=yv s.heap rfl;have e2:((s.heap.push PySem.W.emptyDict).push (PySem.W.instObj C s.heap.objs.size)).get? (s.heap.objs.size+1)=some (PySem.W.instObj C s.heap.objs.size):=by have:=yv (s.heap.push PySem.W.emptyDict) (o:=PySem.W.instObj C s.heap.objs.size) rfl;rwa [Heap.size_push] at this
 have e3:(s.heap.push PySem.W.emptyDict).Ns s.heap.objs.size (λ_=>none):=⟨PySem.W.emptyDict,#[],_,e1,rfl,(λe he=>absurd he (by simp)),λ_=>rfl⟩;have I1:=I.laid (a:=s.heap.objs.size) (o:= .own (s.heap.objs.size+1)) (h':=s.heap.push PySem.W.emptyDict) (t':=s.toks) (λb u q=>yT _ q) (yS _) ⟨_,e1⟩;refine I1.laid (a:=s.heap.objs.size+1) (o:= .ins C s.heap.objs.size []) (t':=s.toks) (λb u q=>yT _ q) (Nat.le_of_eq (Heap.size_push _ _)) ?_;have ne:s.heap.objs.size≠s.heap.objs.size+1:=yL (Nat.lt_succ_self _);refine ⟨by rw [z9 ne,u3],yi _,ne,e2,λ_=>none,(Heap.Ns1.of_empty e3).at λo q=>yT _ q,λ_=>True.intro,λy hy=>absurd rfl hy⟩
theorem UJ {prog:Program}{env:Env}{f:Str}{s:Shared}(hb:attributeBase e f env (eval e env)=eval e env)(h:wpAny (model prog w) A (eval e env) (λo s₁=>wpAny (model prog w) A (getAttr o f true) Q E s₁) E s):wpAny (model prog w) A (eval (.Attribute e f pos) env) Q E s :=
 Attribute_any_ h (by rw [arm_eval_Attribute,hb])
end
def tFld (K:Fg)(ta:TE)(f:Str):TE:=λU H Q=>ta U H λx H1=>∃ a C dx fs v,x = .ref a/\H1 a=some (.ins C dx fs)/\Cls K C/\NoAttr K C f/\fs.lookup f=some v/\Q v H1
def jP (K:Fg)(ta tv:TE)(f:Str):TS:=λD U H=>tv U H λy H1=>ta U H1 λx H2=>∃ a C dx fs,x = .ref a/\H2 a=some (.ins C dx fs)/\Cls K C/\NoAttr K C f/\fs.length<1000 /\
 D.nx U (j3 H2 a (.ins C dx (qy f y fs)))
section
variable {X:Cx}{o e value:Expr}{f:Str}{pos pos' tpos:Pos}{ta tv:TE}
theorem Pq (he:PE X e ta)(hb:attributeBase e f X.env (eval e X.env)=eval e X.env):PE X (.Attribute e f pos) (tFld X.K ta f):=by intro pins s U H Q I h;refine UJ hb (z6 (he pins s U H _ I h) λu s1 ⟨x,H1,I1,rx,a,C,dx,fs,v,ex,ea,c,n,l,q⟩=>?_);subst ex;obtain rfl:u=Value.ref a:=rx;exact GV I1 ea c n l λu' s2 I2 ru=>⟨v,H1,I2,ru,q⟩
theorem PQ (ha:PE X o ta)(hv:PE X value tv)(hs:swapsWith value (some (.Attribute o f pos')) pos.line X.env=pure false):PS X (.Assign [.Attribute o f pos'] value pos) (jP X.K ta tv f):=by intro pins s U H D I h;refine plainObj_wpAny_Assign_Attribute (z6 (hv pins s U H _ I h) λu s1 ⟨y,H1,I1,ry,q⟩=>z6 (ha pins s1 U H1 _ I1 q) λov s2 ⟨x,H2,I2,rx,a,C,dx,fs,ex,ea,c,n,l,q2⟩=>?_) hs;subst ex;obtain rfl:ov=Value.ref a:=rx;exact Dc I2 ea c n l ry λs3 I3=>⟨U,_,I3,q2⟩
theorem DQ {apos:Pos}{args:List Expr}(he:PE X e te)(I:Inv X pins U H s)
  (h:te U H λx H1=>∃ a C dx fs g,x = .ref a/\H1 a=some (.ins C dx fs)/\Cls X.K C/\jV X.K C m g/\fs.lookup m=none /\
   ∀ s1,Inv X pins U H1 s1->wpAny (model X.prog X.w) X.A (callWith pos (.ref g) [.ref a] (backTo pos (starEach args X.env)) (backToKw pos (keywordEach [] X.env))) Q X.xe s1)
  (ht:eval (.Call (.Attribute e m apos) args [] pos) X.env=(do
   let ov <- eval e X.env
   standAt apos.atName
   let (f,first) <- holding [ov] (getMethod ov m pl)
   callWith pos f first (backTo pos (starEach args X.env)) (backToKw pos (keywordEach [] X.env)))) :
  wpAny (model X.prog X.w) X.A (eval (.Call (.Attribute e m apos) args [] pos) X.env) Q X.xe s:=by
 refine PySem.W.methodCall_KW (pl:=pl) (z6 (he pins s U H _ I h) λu s1 ⟨x,H1,I1,rx,a,C,dx,fs,g,ex,ea,c,k,l,q⟩=>?_) ht;subst ex;obtain rfl:u=Value.ref a:=rx;exact Qq I1 ea c k l (q s1 I1)
end
section
variable {X:Cx}{pins:List (Addr×Obj)}{U:St}{H:Hp}{s:Shared}{A:Around}{E:Value->Shared->Prop}{Q:Value->Shared->Prop}{c:Value}{b:Bool}
inductive qS (K:Fg)(H:Hp):V->Value->Prop where
 |non:qS K H .non (.type "NoneType")
 |bl (x:Bool):qS K H (.bl x) (.type "bool")
 |int (i:Int):qS K H (.int i) (.type "int")
 |str (x:Str):qS K H (.str x) (.type "str")
 |flt (x:UInt64):qS K H (.flt x) (.type "float")
 |lst {a:Addr} {xs:List V} (e:H a=some (.lst xs)):qS K H (.ref a) (.type "list")
 |frz {a:Addr} {o:Obj} {xs:List V} (e:H a=some (.frz o (.lst xs))):qS K H (.ref a) (.type "list")
 |tup {a:Addr} {xs:List V} (e:H a=some (.tup xs)):qS K H (.ref a) (.type "tuple")
 |dK {a:Addr} {kvs:List (z8×V)} (e:H a=some (.dK kvs)):qS K H (.ref a) (.type "dict")
 |dT {a:Addr} {kvs:List (List z8×V)} (e:H a=some (.dT kvs)):qS K H (.ref a) (.type "dict")
 |ins {a C dx:Addr} {fs:List (Str×V)} (e:H a=some (.ins C dx fs)) (cl:Cls K C) (ha:PySem.W.findIn K (.ref C) "__class__"=some (some (.builtin "object.__class__")))
   (hn:PySem.W.specialIn K (.builtin "object.__class__") "__get__"=some (some (.builtin "getset_descriptor.__get__"))) (htk:PySem.W.takesIn K (.builtin "object.__class__")=some true)
   (hm:PySem.W.mroIn K C (.type "object")=some true):qS K H (.ref a) (.ref C)
theorem Kq {x:V}{t:Value}(I:Inv X pins U H s)(rx:RelV x u)(ty:qS X.K H x t)(e:PySem.W.kitOne X.K t c=some b)(h:∀ tk,Q (.bool b) { s with toks:=tk }):wpAny (model X.prog X.w) A (call (.builtin "isinstance") [u,c]) Q E s:=by
 cases ty with
 |non=>cases (show u=Value.none from rx);exact PySem.W.kia_one PySem.W.kitx_none I.kIn True.intro e (λz=>nomatch z) h
 |bl y=>cases (show u=Value.bool y from rx);exact PySem.W.kia_one PySem.W.kitx_bool I.kIn True.intro e (λz=>nomatch z) h
 |int i=>obtain ⟨t,q⟩:=(show ∃ t,u=Value.int i t from rx);cases q;exact PySem.W.kia_one PySem.W.kitx_int I.kIn True.intro e (λz=>nomatch z) h
 |str y=>obtain ⟨t,q⟩:=(show ∃ t,u=Value.str y t from rx);cases q;exact PySem.W.kia_one PySem.W.kitx_str I.kIn True.intro e (λz=>nomatch z) h
 |flt y=>obtain ⟨t,q⟩:=(show ∃ t,u=Value.float y t from rx);cases q;exact PySem.W.kia_one PySem.W.kitx_float I.kIn True.intro e (λz=>nomatch z) h
 |@lst a xs ea=>cases (show u=Value.ref a from rx);obtain ⟨_,_,n,_,h1⟩:=(show ObjOk X.prog X.w H s.heap a (.lst xs) from I.hok a _ ea);exact PySem.W.kia_one PySem.W.kitx_list I.kIn ⟨_,h1,rfl⟩ e (λz=>nomatch z) h
 |@frz a ob xs ea=>cases (show u=Value.ref a from rx);obtain ⟨_,_,_,n,_,h1⟩:=(show ObjOk X.prog X.w H s.heap a (.frz ob (.lst xs)) from I.hok a _ ea);exact PySem.W.kia_one PySem.W.kitx_list I.kIn ⟨_,h1,rfl⟩ e (λz=>nomatch z) h
 |@tup a xs ea=>cases (show u=Value.ref a from rx);obtain ⟨_,_,_,p⟩:=(show ObjOk X.prog X.w H s.heap a (.tup xs) from I.hok a _ ea);obtain ⟨o,h1,h2,_⟩:=p;exact PySem.W.kia_one PySem.W.kitx_tuple I.kIn ⟨o,h1,h2⟩ e (λz=>nomatch z) h
 |@dK a kvs ea=>cases (show u=Value.ref a from rx);obtain ⟨_,_,vs,_,p⟩:=(show ObjOk X.prog X.w H s.heap a (.dK kvs) from I.hok a _ ea);obtain ⟨o,es,ep,h1,h2,_⟩:=p;exact PySem.W.kia_one PySem.W.kitx_dict I.kIn ⟨o,h1,h2.1⟩ e (λz=>nomatch z) h
 |@dT a kvs ea=>cases (show u=Value.ref a from rx);obtain ⟨_,_,xs,_,o,es,ep,h1,h2,_⟩:=(show ObjOk X.prog X.w H s.heap a (.dT kvs) from I.hok a _ ea);exact PySem.W.kia_one PySem.W.kitx_dict I.kIn ⟨o,h1,h2.1⟩ e (λz=>nomatch z) h
 |@ins a C dx fs ea cl ha hn htk hm=>cases (show u=Value.ref a from rx);obtain ⟨mA,O,_⟩:=Qu I.hok ea;obtain ⟨od,J,_⟩:=O.look;exact PySem.W.kia_one (PySem.W.kitx_own (cl.get _) cl.hd ha hn htk hm) I.kIn J e (λz=>nomatch z) h
end
structure Room (k:Nat)(A:Around):Prop where
 hd:A.handled=none
 dp:A.depth+3*k+5<recursionLimit
 un:A.units+16*k+200<cLine
theorem Room.mono {k:Nat}(r:Room k A)(h:j<=k):Room j A:=⟨r.hd,by have:=r.dp;omega,by have:=r.un;omega⟩
theorem Room.deeper {k:Nat}(r:Room (k+1) A)(env:Env):Room k (A.deeper env) :=
 ⟨r.hd,by have:=r.dp;show A.depth+1+3*k+5<_;omega,by have:=r.un;show A.units+3+16*k+200<_;omega⟩
theorem KU :(A.under (.builtin "type.__call__" ⟨.ref C::us,kw⟩)).depth=A.depth+1:=by first|rfl|simp [Around.under,Code.weight,Code.isCreation,Code.isGuard,Code.isCaller,Code.frames,Code.isFrame,guardIds]
theorem KY :(A.under (.builtin "type.__call__" ⟨.ref C::us,kw⟩)).units=A.units+1:=by first|rfl|simp [Around.under,Code.cUnits,Code.frames,Code.isFrame]
theorem Room.make {k:Nat}(r:Room (k+1) A)(C:Addr)(us:List Value)(kw:List (Str×Value)):Room k (A.under (.builtin "type.__call__" ⟨.ref C::us,kw⟩)) :=
 ⟨r.hd,by have:=r.dp;rw [KU];omega,by have:=r.un;rw [KY];omega⟩
theorem Room.depth {k:Nat}(r:Room k A):A.depth<recursionLimit:=by have:=r.dp;omega
theorem Room.units {k:Nat}(r:Room k A):A.units+64<cLine:=by have:=r.un;omega
def xl:TA:=λ_ H Q=>Q [] H
def qt (ta:TE)(tr:TA):TA:=λU H Q=>ta U H λx H1=>tr U H1 λxs H2=>Q (x::xs) H2
section
variable {X:Cx}{e:Expr}{es:List Expr}{te:TE}{t:TA}{pos:Pos}
theorem w6:PA X [] xl:=λ_ _ _ _ H Q I h=>Calls.spliced_nil ⟨[],H,I,.nil,h⟩
theorem j0 (ha:PE X e te)(hr:PA X es t)(hs:starEach (e::es) X.env=(false,eval e X.env)::starEach es X.env:=by rfl):PA X (e::es) (qt te t):=by intro pos pins s U H Q I h;rw [hs];show wpAny _ _ (spliced ((false,eval e X.env)::backTo pos (starEach es X.env))) _ _ s;refine Calls.spliced_cons (z6 (ha pins s U H _ I h) λu s1 ⟨x,H1,I1,r1,q1⟩=>?_);exact z6 (hr pos pins s1 U H1 _ I1 q1) λus s2 ⟨xs,H2,I2,r2,q2⟩=>⟨x::xs,H2,I2,.cons r1 r2,q2⟩
def tTup (t:TA):TE:=λU H Q=>t U H λxs H1=>xs.length<=sizeLine/\∀ p,H1 p=none->Q (.ref p) (j3 H1 p (.tup xs))
def tLst (t:TA):TE:=λU H Q=>t U H λxs H1=>xs.length<=sizeLine/\∀ p,H1 p=none->Q (.ref p) (j3 H1 p (.lst xs))
theorem qZ {x1}(h:PA X es t):PE X (.Tuple es x1 pos) (tTup t):=by intro pins s U H Q I hq;refine wpAny_Tuple_spliced (z6 (h pos pins s U H _ I hq) λus s1 ⟨xs,H1,I1,r,z,q⟩=>⟨by rw [<- r.length];exact z,?_⟩);have hf:H1 s1.heap.objs.size=none:=I1.hok.fresh (yS _);refine ⟨.ref s1.heap.objs.size,j3 H1 s1.heap.objs.size (.tup xs),I1.laid (t':=s1.toks) (λb u e=>yT _ e) (yS _) ?_,rfl,q _ hf⟩;exact ⟨z,us,r,⟨_,yv _ rfl,rfl,_,rfl⟩⟩
theorem qq (h:PA X es t):PE X (.List es pos) (tLst t):=by intro pins s U H Q I hq;refine wpAny_List_spliced (z6 (h pos pins s U H _ I hq) λus s1 ⟨xs,H1,I1,r,z,q⟩=>⟨by rw [<- r.length];exact z,?_⟩);have hf:H1 s1.heap.objs.size=none:=I1.hok.fresh (yS _);refine ⟨.ref s1.heap.objs.size,j3 H1 s1.heap.objs.size (.lst xs),I1.laid (t':=s1.toks) (λb u e=>yT _ e) (yS _) ?_,rfl,q _ hf⟩;exact ⟨z,us,0,r,yv _ rfl⟩
end
abbrev Sp:=List V->Hp->VK->XK->Prop
variable{sp:Sp}
abbrev CXT:=List Env->Hp->Shared->XK->Value->Shared->Prop
variable{CX:CXT}
structure Env0 (P:Program)(w:World)(K:Fg)(mg:Str->Option Value)(base:Heap)(A:Around)(outer:List Env)(s:Shared)(H:Hp):Prop where
 frames:A.frames=some outer
 mod:Mod K mg base
 bs:∀ b o,base.get? b=some o->s.heap.get? b=some o/\H b=none
 bsz:base.objs.size<=s.heap.objs.size
 funs:s.heap.FunFrames base outer
 frf:∀ b∈p7 outer,H b=none
 hok:HOk P w H s.heap
 bare:AllBare s.gens
 tbs:∀ p∈TABS,H p.1=some (.tbl p.2.1 p.2.2)
def CE (outer:List Env)(P:Program)(w:World)(H:Hp)(s:Shared)(Q:VK)(u:Value)(s':Shared):Prop :=
 ∃ v H',s'.os=s.os/\AllBare s'.gens/\Un (p7 outer) [] H H' s.heap s'.heap/\HOk P w H' s'.heap/\RelV v u/\Q v H'
def CR (CX:CXT)(outer:List Env)(P:Program)(w:World)(H:Hp)(s:Shared)(Q:VK)(E:XK)(r:Result)(s':Shared):Prop :=
 match r with
 | .ok (.ret u)=>CE outer P w H s Q u s'
 | .ok _=>False
 | .error e=>CX outer H s E e s'
structure FnOk (P:Program)(w:World)(K:Fg)(mg:Str->Option Value)(base:Heap)(CX:CXT)(k:Nat)(f:Addr)(fd:FuncData)(ps:List Str)(sp:Sp):Prop where
 len:∀ vs H Q E,sp vs H Q E->vs.length=ps.length
 run:∀(A:Around)(outer:List Env)(s:Shared)(H:Hp)(args:Args)(us:List Value)(vs:List V)(Q:VK)(E:XK),Room k A->Env0 P w K mg base A outer s H->BindsTo s fd args (ps.zip us)->Vals vs us->sp vs H Q E ->
  codeAny (model P w) A (.call (.ref f) args) (CR CX outer P w H s Q E) s
theorem FnOk.imp {k:Nat}{f:Addr}{sp':Sp}(F:FnOk P w K mg base CX k f fd ps sp)(h:∀ vs H Q E,sp' vs H Q E->sp vs H Q E):FnOk P w K mg base CX k f fd ps sp' :=
 ⟨λvs H Q E q=>F.len vs H Q E (h _ _ _ _ q),λA outer s H args us vs Q E hr he hb hv hs=>F.run A outer s H args us vs Q E hr he hb hv (h _ _ _ _ hs)⟩
theorem Env0.make (e:Env0 P w K mg base A outer s H)(C:Addr)(us:List Value)(kw:List (Str×Value)):Env0 P w K mg base (A.under (.builtin "type.__call__" ⟨.ref C::us,kw⟩)) outer s H:=⟨by first|exact e.frames|(simpa [Around.under,Code.envs,Code.isFrame,pushEnvs] using e.frames),e.mod,e.bs,e.bsz,e.funs,e.frf,e.hok,e.bare,e.tbs⟩
section
variable {X:Cx}{pins:List (Addr×Obj)}{U:St}{H:Hp}{s s':Shared}
theorem Inv.env0 (I:Inv X pins U H s):Env0 X.prog X.w X.K X.mg X.base X.A X.stack s H :=
 ⟨I.ok.frames,I.ok.mod,I.bs,yh I.ok.bsz I.sz,I.stack,I.stkFree,I.hok,I.bare,λp hp=>I.base.tbls _ _ _ (I.ok.tbs p hp)⟩
theorem Inv.after {Q:VK}(I:Inv X pins U H s)(h:CE X.stack X.prog X.w H s Q u s'):EP X pins U Q u s':=by obtain ⟨v,H',os,bare,un,hok,r,q⟩:=h;obtain ⟨hh,g,d,t,os'⟩:=s';obtain rfl:os'=s.os:=os;exact ⟨v,H',I.call (h':=hh) (g':=g) (d':=d) (t':=t) (ch:=[]) un hok bare (λb z=>absurd z (by simp)),r,q⟩
end
def xz (sp:Sp)(dvs:List V)(E:XK)(t:TA):TE:=λU H Q=>t U H λvs H1=>sp (vs++dvs) H1 Q E
def xc (C:Addr)(m:Str)(sp:Sp)(dvs:List V)(E:XK)(ta:TE)(t:TA):TE:=λU H Q=>ta U H λx H1=>∃ a dx fs,x = .ref a/\H1 a=some (.ins C dx fs)/\fs.lookup m=none /\
 t U H1 λvs H2=>sp (x::(vs++dvs)) H2 Q E
def zJ (C:Addr)(sp:Sp)(dvs:List V)(E:XK)(t:TA):TE:=λU H Q=>t U H λvs H1=>∀ x dx,H1 x=none->H1 dx=none->dx≠x ->
 sp (.ref x::(vs++dvs)) (j3 (j3 H1 dx (.own x)) x (.ins C dx [])) (λv H2=>v = .non/\Q (.ref x) H2) E
def Binds (K:Fg)(fd:FuncData)(ps:List Str)(ds:List Value):Prop :=
 ∀(s:Shared)(us:List Value),K.In s.heap->(us++ds).length=ps.length->BindsTo s fd ⟨us,[]⟩ (ps.zip (us++ds))
theorem Binds.all (h:∀ us:List Value,us.length=ps.length->bindArgs fd ⟨us,[]⟩=pure (ps.zip us)):Binds K fd ps []:=λs us _ hl=>by
 rw [yB] at hl ⊢;exact .of_eq (h us hl)
def zm (CX:CXT)(X:Cx)(E:XK):Prop:=∀(pins:List (Addr×Obj))(U:St)(H:Hp)(s:Shared)(e:Value)(s':Shared),Inv X pins U H s->CX X.stack H s E e s'->X.xe e s'
section
variable {X:Cx}{CX:CXT}{k:Nat}{f C:Addr}{fd:FuncData}{ps:List Str}{sp:Sp}{dvs:List V}{ds:List Value}{E:XK}{x m:Str}{p pos apos:Pos}{e o:Expr}{es:List Expr}{ta:TE}{t:TA}
theorem Zw {Q:VK}(F:FnOk X.prog X.w X.K X.mg X.base CX k f fd ps sp)(hr:Room k X.A)(hb:Binds X.K fd ps ds)(hd:Vals dvs ds)(hx:zm CX X E)(I:Inv X pins U H s)(r:Vals vs us)(h:sp (vs++dvs) H Q E):wpAny (model X.prog X.w) X.A (call (.ref f) us) (EP X pins U Q) X.xe s:=by
 have r2:Vals (vs++dvs) (us++ds):=r.append hd;have hl:(us++ds).length=ps.length:=by rw [<- r2.length];exact F.len _ _ _ _ h
 refine wpAny_call (codeAny_mono (F.run X.A X.stack s H ⟨us,[]⟩ (us++ds) (vs++dvs) Q E hr I.env0 (hb s us I.kIn hl) r2 h) λr s' hq=>?_);cases r with
 |error e=>exact hx pins U H s e s' I hq
 |ok fl =>
  cases fl with
  |ret u=>exact I.after hq
  |next=>exact False.elim hq
  |brk=>exact False.elim hq
  |cont=>exact False.elim hq
theorem Pl (F:FnOk X.prog X.w X.K X.mg X.base CX k f fd ps sp)(hr:Room k X.A)(hg:Gl X x)(hm:X.mg x=some (.ref f))(hk:PySem.W.keepIn X.K (.ref f)=true)(hb:Binds X.K fd ps ds)(hd:Vals dvs ds)(hx:zm CX X E)(ha:PA X (e::es) t)(hdb:(x==("__debug__":Str))=false:=by decide)(he:starEach (e::es) X.env=(false,eval e X.env)::starEach es X.env:=by rfl)(hpl:(backTo pos (starEach es X.env)).any (·.1)=false:=by rfl):PE X (.Call (.Name x p) (e::es) [] pos) (xz sp dvs E t):=by intro pins s U H Q I h;refine wpAny_Call_Name_kw (wo I hg hm ?_ hdb);refine PySem.W.callWith_K (h₀:=X.base) I.ok.mod.kin hk (z6 (ha pos pins s U H _ I h) λus s1 ⟨vs,H1,I1,r,q⟩=>⟨I1.kIn,?_⟩) he hpl;exact Zw F hr hb hd hx I1 r q
theorem WW (he:PE X o ta)(c:Cls X.K C)(hm:jV X.K C m f)(F:FnOk X.prog X.w X.K X.mg X.base CX k f fd ps sp)(hr:Room k X.A)(hb:Binds X.K fd ps ds)(hd:Vals dvs ds)(hx:zm CX X E)(ha:PA X (e::es) t)
  (hst:starEach (e::es) X.env=(false,eval e X.env)::starEach es X.env:=by rfl) (hpl:(backTo pos (starEach es X.env)).any (·.1)=false:=by rfl)
  (ht:eval (.Call (.Attribute o m apos) (e::es) [] pos) X.env=(do
   let ov <- eval o X.env
   standAt apos.atName
   let (f,first) <- holding [ov] (getMethod ov m pl)
   callWith pos f first (backTo pos (starEach (e::es) X.env)) (backToKw pos (keywordEach [] X.env))):=by rfl) :
  PE X (.Call (.Attribute o m apos) (e::es) [] pos) (xc C m sp dvs E ta t):=by
 intro pins s U H Q I h;refine PySem.W.methodCall_KW (pl:=pl) (z6 (he pins s U H _ I h) λu s1 ⟨x,H1,I1,rx,a,dx,fs,ex,ea,l,q⟩=>?_) ht;subst ex;obtain rfl:u=Value.ref a:=rx;refine Qq I1 ea c hm l ?_;refine PySem.W.callWith_K (first:=[.ref a]) (h₀:=X.base) I.ok.mod.kin hm.kp (z6 (ha pos pins s1 U H1 _ I1 q) λus s2 ⟨vs,H2,I2,r,q2⟩=>⟨I2.kIn,?_⟩) hst hpl;exact Zw (us:= .ref a::us) (vs:= .ref a::vs) F hr hb hd hx I2 (.cons rfl r) q2
theorem Pr (he:PE X o ta)(c:Cls X.K C)(hm:jV X.K C m f)(F:FnOk X.prog X.w X.K X.mg X.base CX k f fd ps sp)(hr:Room k X.A)(hb:Binds X.K fd ps ds)(hd:Vals dvs ds)(hx:zm CX X E)
  (ht:eval (.Call (.Attribute o m apos) [] [] pos) X.env=(do
   let ov <- eval o X.env
   standAt apos.atName
   let (f,first) <- holding [ov] (getMethod ov m pl)
   callWith pos f first (backTo pos (starEach [] X.env)) (backToKw pos (keywordEach [] X.env))):=by rfl) :
  PE X (.Call (.Attribute o m apos) [] [] pos) (xc C m sp dvs E ta xl):=by
 intro pins s U H Q I h;refine PySem.W.methodCall_KW (pl:=pl) (z6 (he pins s U H _ I h) λu s1 ⟨x,H1,I1,rx,a,dx,fs,ex,ea,l,q⟩=>?_) ht;subst ex;obtain rfl:u=Value.ref a:=rx;refine Qq I1 ea c hm l ?_;exact PySem.W.callWith_K0 (first:=[.ref a]) I1.kIn hm.kp (Zw (us:=[.ref a]) (vs:=[.ref a]) F hr hb hd hx I1 (.cons rfl .nil) q)
structure Mk (K:Fg)(C f:Addr):Prop where
 makes:PySem.W.makesIn K C=true
 init:PySem.W.findIn K (.ref C) "__init__"=some (some (.ref f))
 fn:PySem.W.isFn K (.ref f)=true
 kp:PySem.W.keepIn K (.ref C)=true
theorem Cs {Q:VK}(M:Mk X.K C f)(F:FnOk X.prog X.w X.K X.mg X.base CX k f fd ps sp)(hr:Room (k+1) X.A)(hb:Binds X.K fd ps ds)(hd:Vals dvs ds)(hx:zm CX X E)(I:Inv X pins U H s)(r:Vals vs us)(h:∀ x dx,H x=none->H dx=none->dx≠x->sp (.ref x::(vs++dvs)) (j3 (j3 H dx (.own x)) x (.ins C dx [])) (λv H2=>v = .non/\Q (.ref x) H2) E):wpAny (model X.prog X.w) X.A (call (.ref C) us) (EP X pins U Q) X.xe s:=by
 have hq:=h (s.heap.objs.size+1) s.heap.objs.size (I.hok.fresh (Nat.le_succ _)) (I.hok.fresh (yS _)) (yL (Nat.lt_succ_self _));have I2:=Inv.made (C:=C) I;have r2:Vals (V.ref (s.heap.objs.size+1)::(vs++dvs)) (Value.ref (s.heap.objs.size+1)::(us++ds)):= .cons rfl (r.append hd);have hl:(Value.ref (s.heap.objs.size+1)::us++ds).length=ps.length:=by have e:=r2.length;rw [F.len _ _ _ _ hq] at e;exact e.symm
 refine wpAny_call (KW (f:=f) I.kIn M.makes M.init (beq_iff_eq.mp M.fn) (codeAny_mono (F.run _ X.stack _ _ ⟨Value.ref (s.heap.objs.size+1)::us,[]⟩ (Value.ref (s.heap.objs.size+1)::(us++ds)) _ _ E (hr.make C us [])
  (I2.env0.make C us []) (hb _ (Value.ref (s.heap.objs.size+1)::us) I2.kIn hl) r2 hq) λr s' hq'=>?_))
 cases r with
 |error e=>exact hx pins U _ _ e s' I2 hq'
 |ok fl =>
  cases fl with
  |ret u=>obtain ⟨v,H',I3,rv,ev,q3⟩:=I2.after hq';subst ev;exact ⟨rv,⟨V.ref (s.heap.objs.size+1),H',I3,rfl,q3⟩⟩
  |next=>exact False.elim hq'
  |brk=>exact False.elim hq'
  |cont=>exact False.elim hq'
theorem WV (M:Mk X.K C f)(F:FnOk X.prog X.w X.K X.mg X.base CX k f fd ps sp)(hr:Room (k+1) X.A)(hg:Gl X x)(hm:X.mg x=some (.ref C))(hb:Binds X.K fd ps ds)(hd:Vals dvs ds)(hx:zm CX X E)(ha:PA X (e::es) t)(hdb:(x==("__debug__":Str))=false:=by decide)(he:starEach (e::es) X.env=(false,eval e X.env)::starEach es X.env:=by rfl)(hpl:(backTo pos (starEach es X.env)).any (·.1)=false:=by rfl):PE X (.Call (.Name x p) (e::es) [] pos) (zJ C sp dvs E t):=by intro pins s U H Q I h;refine wpAny_Call_Name_kw (wo I hg hm ?_ hdb);refine PySem.W.callWith_K (h₀:=X.base) I.ok.mod.kin M.kp (z6 (ha pos pins s U H _ I h) λus s1 ⟨vs,H1,I1,r,q⟩=>⟨I1.kIn,?_⟩) he hpl;exact Cs M F hr hb hd hx I1 r q
end
structure w5 (N P:List Str)(sc:Scope):Prop where
 kind:sc.kind = .function
 co:sc.isCoroutine=false
 gen:sc.isGenerator=false
 nd:N.Nodup
 pre:N.take P.length=P
 par:∀ x∈P,sc.names.lookup x=some .local∨sc.names.lookup x=some .cell
 nofree:∀ y∈sc.names,y.2 ≠ .free
theorem Vz {kindOf:Str->Option NameKind}{x:Str}:∀{binds:List (Str×Value)}{m:Str->Option Value},(∀ v,(x,v)∉binds)->bindL kindOf binds m x=m x
 |[],_,_=>rfl
 |(n,v)::r,m,h=>by
  unfold bindL;rw [Vz λw hw=>h w (yW _ hw)];split
  ·have:x≠n:=by rintro rfl;exact h v yV
   simp [this]
  ·rfl
theorem Vx {kindOf:Str->Option NameKind}{x:Str}:∀{binds:List (Str×Value)}{m:Str->Option Value},(∀ v,(x,v)∉binds)->bindC kindOf binds m x=m x
 |[],_,_=>rfl
 |(n,v)::r,m,h=>by
  unfold bindC;rw [Vx λw hw=>h w (yW _ hw)];split
  ·rfl
  ·have:x≠n:=by rintro rfl;exact h v yV
   simp [this]
theorem Vy {kindOf:Str->Option NameKind}{x:Str}{v:Value}:∀{P:List Str}{vs:List Value}{i:Nat}{m:Str->Option Value},P.Nodup->P[i]?=some x->vs[i]?=some v->kindOf x=some .local -> bindL kindOf (P.zip vs) m x=some v
 |[],_,_,_,_,h,_,_=>by simp at h
 |_::_,[],_,_,_,_,h,_=>by simp at h
 |p::P,w::vs,0,m,nd,h1,h2,hk=>by
  simp at h1 h2;subst h1;subst h2;show bindL kindOf ((p,w)::P.zip vs) m p=_;unfold bindL;rw [Vz λv hv=>(yu.mp nd).1 (List.of_mem_zip hv).1,if_pos hk];simp
 |p::P,w::vs,i+1,m,nd,h1,h2,hk=>by
  show bindL kindOf ((p,w)::P.zip vs) m x=_;unfold bindL;exact Vy (i:=i) (yu.mp nd).2 (by simpa using h1) (by simpa using h2) hk
theorem Vw {kindOf:Str->Option NameKind}{x:Str}{v:Value}:∀{P:List Str}{vs:List Value}{i:Nat}{m:Str->Option Value},P.Nodup->P[i]?=some x->vs[i]?=some v->kindOf x≠some .local -> bindC kindOf (P.zip vs) m x=some v
 |[],_,_,_,_,h,_,_=>by simp at h
 |_::_,[],_,_,_,_,h,_=>by simp at h
 |p::P,w::vs,0,m,nd,h1,h2,hk=>by
  simp at h1 h2;subst h1;subst h2;show bindC kindOf ((p,w)::P.zip vs) m p=_;unfold bindC;rw [Vx λv hv=>(yu.mp nd).1 (List.of_mem_zip hv).1,if_neg hk];simp
 |p::P,w::vs,i+1,m,nd,h1,h2,hk=>by
  show bindC kindOf ((p,w)::P.zip vs) m x=_;unfold bindC;exact Vw (i:=i) (yu.mp nd).2 (by simpa using h1) (by simpa using h2) hk
def start (N:List Str)(vs:List V):St:=vs.map some++List.replicate (N.length-vs.length) none
def ql (CX:CXT)(P:Program)(w:World)(K:Fg)(mg:Str->Option Value)(base:Heap)(N:List Str)(qual:Str)(scope:Scope)(f:Addr)(cd:Value)(A:Around)(outer:List Env)(s:Shared)(H:Hp)(E:XK):Cx where
 prog:=P
 w:=w
 K:=K
 mg:=mg
 base:=base
 A:=A.deeper (envOfC qual scope s.heap.objs.size f cd)
 N:=N
 s₀:=s
 H₀:=H
 env:=envOfC qual scope s.heap.objs.size f cd
 outer:=outer
 stack:=envOfC qual scope s.heap.objs.size f cd::outer
 ex:=[]
 calm:=true
 fn:=λ_=>true
 pn:=[]
 xe:=λe s'=>wpAny (model P w) (A.deeper (envOfC qual scope s.heap.objs.size f cd)) (leaving (envOfC qual scope s.heap.objs.size f cd) e) (λ_ s''=>CX outer H s E e s'') (λe' s''=>CX outer H s E e' s'') s'
theorem VO {sc:Scope}(h:sc.names.lookup x=some .cell):∃ c,(cellsFrom n sc.names []).lookup x=some c:=by have q:=PySem.W.cellsFrom_some sc.names n [] (.inl h);exact Option.isSome_iff_exists.mp q
theorem Ko {f:Addr}{cd:Value}{s1:Shared}{E:XK}(S:w5 N ps scope)(hd:A.handled=none)(e0:Env0 P w K mg base A outer s H)(hl:vs.length=ps.length)(r:Vals vs us)(x:InCallC s s.heap.objs.size (bindL (envOfC qual scope s.heap.objs.size f cd).kindOf (ps.zip us) λ_=>none) (cellsFrom (s.heap.objs.size+1) scope.names []) (bindC (envOfC qual scope s.heap.objs.size f cd).kindOf (ps.zip us) λ_=>none) s1):Inv (ql CX P w K mg base N qual scope f cd A outer s H E) [] (start N vs) H s1:=by
 have hpl:ps.length<=N.length:=by have:=congrArg List.length S.pre;rw [List.length_take] at this;omega
 obtain ⟨h1,tk,rfl,hk⟩:=x.done;have noA:∀ b:Addr,b∉(ql CX P w K mg base N qual scope f cd A outer s H E).ex:=λb z=>absurd (show b∈([]:List Addr) from z) (by simp);refine ⟨⟨e0.mod,S.kind,rfl,rfl,yS _,λy z c h1 h2=>?_,λy hy=>?_,λy c _ h=>?_,λ_=>hd,Around.frames_deeper e0.frames,.inr ⟨rfl,rfl⟩,λb z=>absurd z (noA b),e0.bs,e0.bsz,λb _ _=>noA b,λb z=>absurd z (noA b),e0.funs,e0.frf,e0.tbs⟩,
  rfl,e0.bare,Un.kept hk,⟨_,x.toInCall.ns,λi y v h1 h2 h3=>?_⟩,λy c h=>⟨_,x.cell y c h⟩,e0.hok.fresh (yS _),λy c h=>?_,λp hp=>absurd (show p∈([]:List (Addr×Obj)) from hp) (by simp),e0.hok.kept hk,?_⟩
 ·exact name_of_addr x.apart (PySem.mem_of_lookup h1) (PySem.mem_of_lookup h2)
 ·have hy:scope.names.lookup y=some .cell∨scope.names.lookup y=some .free:=hy;rcases hy with hy|hy
  ·exact VO hy
  ·exact absurd rfl (S.nofree _ (PySem.mem_of_lookup hy))
 ·exact uY (x.above y c (PySem.mem_of_lookup h))
 ·have hi:i<vs.length:=by
   unfold start at h2;by_cases hi:i<vs.length
   ·exact hi
   ·rw [uX (by simpa using hi)] at h2;rw [uS] at h2;split at h2<;>cases h2
  have ha:vs[i]?=some v:=by
   unfold start at h2;rw [yf (by simpa using hi),yQ] at h2;cases e:vs[i]? with
   |none=>rw [e] at h2;cases h2
   |some a=>rw [e] at h2;cases h2;rfl
  obtain ⟨u,hu,rv⟩:=r.get ha;have hp:ps[i]?=some y:=by rw [<- S.pre,List.getElem?_take_of_lt (by omega)];exact h1
  have ndP:ps.Nodup:=by rw [<- S.pre];exact S.nd.sublist (List.take_sublist _ _)
  refine ⟨u,rv,?_⟩;rcases S.par y (List.mem_of_getElem? hp) with k|k
  ·exact .inl ⟨k,Vy ndP hp hu k⟩
  ·obtain ⟨c,e⟩:=VO (n:=s.heap.objs.size+1) k;refine .inr ⟨.inl k,c,e,?_⟩;have q:=x.cell y c e;rw [Vw ndP hp hu (by show scope.names.lookup y≠_;rw [k];decide)] at q;exact q
 ·exact e0.hok.fresh (uY (x.above y c (PySem.mem_of_lookup h)))
 ·unfold start;show _=N.length;rw [yF,yZ,uO];omega
theorem XH {k:Nat}{f:Addr}{name:Str}{params:Arguments}{body:List Stmt}{dV kV doc pm cdv ct oc:Value}{an od:Option Addr}{osl:Array (Option Value)}(lk:K.lookup f=some ⟨oc,od,.func (PySem.W.fnOf name qual params body scope dV kV doc pm an cdv ct),osl⟩)(hcd:PySem.W.codeIn K cdv qual=true)(S:w5 N ps scope)(len:∀ vs H Q E,sp vs H Q E->vs.length=ps.length)(hbody:∀(A:Around)(outer:List Env)(s:Shared)(H:Hp)(vs:List V)(Q:VK)(E:XK),Room k (A.deeper (envOfC qual scope s.heap.objs.size f cdv))->sp vs H Q E -> ∃ t,PSs (ql CX P w K mg base N qual scope f cdv A outer s H E) body t/\t { nx:=λ_ H'=>Q .non H',rt:=Q } (start N vs) H):FnOk P w K mg base CX (k+1) f (PySem.W.fnOf name qual params body scope dV kV doc pm an cdv ct) ps sp:=by
 refine ⟨len,λA outer s H args us vs Q E hr e0 hb r hsp=>?_⟩;have hl:=len _ _ _ _ hsp;have KX:K.In s.heap:=e0.mod.kin.keeps λb o e=>(e0.bs b o e).1;have lim:s.heap.NoLimit:=e0.mod.nolimit.keeps λb o e=>(e0.bs b o e).1;have hkind:∀ y∈ps.zip us,scope.names.lookup y.1=some .local∨(scope.names.lookup y.1=some .cell/\((cellsFrom (s.heap.objs.size+1) scope.names []).lookup y.1).isSome=true):=λ⟨n,v⟩ hy=>by
  rcases S.par n (List.of_mem_zip hy).1 with q|q
  ·exact .inl q
  ·exact .inr ⟨q,PySem.W.cellsFrom_some _ _ _ (.inl q)⟩
 refine codeAny_call_function hr.depth (KX _ _ lk) rfl S.co S.gen rfl (PySem.W.codeRec_of KX hcd) (hb _ _ _ _ ?_);refine wpAny_newFunctionEnv_cells S.kind hkind λenv he s1 x=>?_;subst he;refine ⟨lim.keeps x.toInCall.keep,codeAny_func ?_⟩;obtain ⟨t,ht,hq⟩:=hbody A outer s H vs Q E (hr.deeper _) hsp;have I:Inv (ql CX P w K mg base N qual scope f cdv A outer s H E) [] (start N vs) H s1:=Ko S hr.hd e0 hl r x;refine wpAny_mono (ht [] s1 (start N vs) H _ I hq) (λfl s' hs=>?_) λe s' hs=>hs;have fin:∀{σ':St}{H':Hp}{v:V}{u:Value},Inv (ql CX P w K mg base N qual scope f cdv A outer s H E) [] σ' H' s'->RelV v u->Q v H'->CE outer P w H s Q u s' :=
  λ{σ' H' v u} J rv q=>⟨v,H',J.os,J.bare,J.base,J.hok,rv,q⟩
 cases fl with
 |ret u=>obtain ⟨v,σ',H',J,rv,q⟩:=hs;exact fin J rv q
 |next=>obtain ⟨σ',H',J,q⟩:=hs;exact fin (v:=V.non) (u:=Value.none) J rfl q
 |brk=>obtain ⟨_,_,_,q⟩:=hs;exact False.elim q
 |cont=>obtain ⟨_,_,_,q⟩:=hs;exact False.elim q
section
variable {X:Cx}{x:Str}{p pos:Pos}{e:Expr}{es:List Expr}{t:TA}{id T:String}{r:List V->Hp->VK->Prop}
def tCB (r:List V->Hp->VK->Prop)(t:TA):TE:=λU H Q=>t U H λvs H1=>r vs H1 Q
theorem b9 (hc:CallR X (.builtin id) r)(hg:Gl X x)(hm:X.mg x=none)(hv:bootBuiltins x=some (.builtin id))(ha:PA X (e::es) t)(hn:x ≠ "__name__":=by decide)(hdb:(x==("__debug__":Str))=false:=by decide)(he:starEach (e::es) X.env=(false,eval e X.env)::starEach es X.env:=by rfl)(hpl:(backTo pos (starEach es X.env)).any (·.1)=false:=by rfl):PE X (.Call (.Name x p) (e::es) [] pos) (tCB r t):=by intro pins s U H Q I h;refine wpAny_Call_Name_kw (jD I hg hm hv ?_ hn hdb);exact PyProof.Rows.callWith_builtin1 (z6 (ha pos pins s U H _ I h) λus s1 ⟨vs,H1,I1,r1,q1⟩=>hc pins s1 U H1 vs us Q I1 r1 q1) he hpl
theorem jK (hc:CallR X (.type T) r)(hg:Gl X x)(hm:X.mg x=none)(hv:bootBuiltins x=some (.type T))(ha:PA X (e::es) t)(hn:x ≠ "__name__":=by decide)(hdb:(x==("__debug__":Str))=false:=by decide)(he:starEach (e::es) X.env=(false,eval e X.env)::starEach es X.env:=by rfl)(hpl:(backTo pos (starEach es X.env)).any (·.1)=false:=by rfl):PE X (.Call (.Name x p) (e::es) [] pos) (tCB r t):=by intro pins s U H Q I h;refine wpAny_Call_Name_kw (jD I hg hm hv ?_ hn hdb);exact PyProof.Rows.callWith_type1 (z6 (ha pos pins s U H _ I h) λus s1 ⟨vs,H1,I1,r1,q1⟩=>hc pins s1 U H1 vs us Q I1 r1 q1) he hpl
end
end L2
namespace HT
open PySem PyProof.Rows
section
variable {prog:Program}{w:World}{A:Around}{E:Value->Shared->Prop}{s:Shared}
theorem cat_tup {t b:Addr}{vs ws:List Value}{Q:Value->Shared->Prop}(ht:IsTup s.heap t vs.toArray)(hb:IsTup s.heap b ws.toArray)(hv:vs≠[])(h1:ws=[]->Q (.ref t) s)(h2:ws≠[]->Q (.ref s.heap.objs.size) { s with heap:=s.heap.push { cls:= .type "tuple",data:= .seq (vs++ws).toArray } })(hsz:vs.length+ws.length<=sizeLine):wpAny (model prog w) A (binaryOp .Add (.ref t) (.ref b)) Q E s:=by
 obtain ⟨⟨cls,dd,data,sl⟩,ho,hc,n,hd⟩:=id ht;obtain ⟨⟨cls2,dd2,data2,sl2⟩,ho2,hc2,n2,hd2⟩:=id hb;simp only at hc hd hc2 hd2;subst hc hd hc2 hd2;have e:vs.toArray++ws.toArray=(vs++ws).toArray:=by simp
 by_cases hw:ws=[]
 ·exact concat_meets ⟨_,ho,rfl⟩ ⟨_,ho2,rfl⟩ noFill_tuple_add seq_tuple_add PySem.F.slot_tuple_add PySem.F.entry_tuple_add (PySem.F.args_tuple_add_2 _ _)
   (tuple_addW1 t b vs.toArray ws.toArray n n2 dd dd2 sl sl2 (by simpa using hv) (by simp [hw])) ⟨ho,ho2,h1 hw⟩
 ·refine concat_meets ⟨_,ho,rfl⟩ ⟨_,ho2,rfl⟩ noFill_tuple_add seq_tuple_add PySem.F.slot_tuple_add PySem.F.entry_tuple_add (PySem.F.args_tuple_add_2 _ _)
   (tuple_addW2 t b vs.toArray ws.toArray n n2 dd dd2 sl sl2 (by simpa using hv) (by simpa using hw) (by rw [yY,yY];exact hsz)) ⟨ho,ho2,?_⟩
  rw [e];exact h2 hw
end
end HT
namespace L2
open PySem PySem.Spec PyProof.Rows
variable{xs:List (List z8×Addr×Value)}{its its' us:List Value}{j n t':Nat}{α:Type}{r:R2}{pins:List (Addr×Obj)}{U:St}{H H':Hp}{s:Shared}{A:Around}{x y:V}{u v:Value}{T:String}{o:Option V}{P:Program}{w:World}{kvs:List (List z8×V)}{a:Addr}{Q:Value->Shared->Prop}{h':Heap}
abbrev TO:=St->Hp->(Option Int->Hp->Prop)->Prop
def PO (X:Cx)(e:Option Expr)(t:TO):Prop :=
 ∀(pins:List (Addr×Obj))(s:Shared)(U:St)(H:Hp)(Q:Option Int->Hp->Prop),Inv X pins U H s->t U H Q ->
  wpAny (model X.prog X.w) X.A (evalPart e X.env) (λu s'=>∃ o H',Inv X pins U H' s'/\IsPart u o/\Q o H') X.xe s
def YW:TO:=λ_ H Q=>Q none H
def YY (t:TE):TO:=λU H Q=>t U H λx H1=>∃ i,x = .int i/\Q (some i) H1
section
variable {X:Cx}{e:Expr}{te:TE}{lo hi:Option Expr}{tl th:TO}{pos p2:Pos}
theorem PL:PO X none YW:=by intro pins s U H Q I h;rw [evalPart_none];exact yD ⟨none,H,I,.none,h⟩
theorem PM (h:PE X e te):PO X (some e) (YY te):=by intro pins s U H Q I hw;rw [evalPart_some];refine z6 (h pins s U H _ I hw) λu s1 ⟨x,H1,I1,r1,q1⟩=>?_;obtain ⟨i,rfl,q⟩:=q1;obtain ⟨t,rfl⟩:=r1;exact ⟨some i,H1,I1,.int i t,q⟩
def Yl (K:Fg):R2:=λx y H Q=>∃ a b xs ys,x = .ref a/\y = .ref b/\SqT K H a xs/\SqT K H b ys/\xs≠[]/\xs.length+ys.length<=sizeLine /\
 (ys=[]->Q (.ref a) H)/\(ys≠[]->∀ p,H p=none->Q (.ref p) (j3 H p (.tup (xs++ys))))
theorem Vals.nil_iff {xs:List V}(r:Vals xs us):us=[]↔xs=[]:=by
 cases r with
 |nil=>simp
 |cons _ _=>simp
theorem BU:OpR X (binaryOp .Add) (Yl X.K):=by intro pins s U H x y v u Q I rx ry h;obtain ⟨a,b,xs,ys,rfl,rfl,ha,hb,hx,hz,q1,q2⟩:=h;cases rx;cases ry;obtain ⟨its,r1,p1,_⟩:=I.tuple ha;obtain ⟨its2,r2,p2,_⟩:=I.tuple hb;refine HT.cat_tup p1 p2 (λz=>hx (r1.nil_iff.mp z)) (λz=>⟨.ref a,H,I,rfl,q1 (r2.nil_iff.mp z)⟩) (λz=>?_) (by rw [<- r1.length,<- r2.length];exact hz);refine ⟨.ref s.heap.objs.size,_,I.laid (t':=s.toks) (o:= .tup (xs++ys)) (λb ob q=>yT _ q) (yS _) ?_,rfl,q2 (λw=>z (r2.nil_iff.mpr w)) _ (I.hok.fresh (yS _))⟩;exact ⟨by rw [yF];exact hz,_,r1.append r2,IsTup.new _ _⟩
end
def ixN (n:Nat)(i:Int):Option Nat:=if 0<=i then (if i<n then some i.toNat else none) else if -(n:Int)<=i then some (i+n).toNat else none
def atI {α:Type}(xs:List α)(i:Int):Option α:=(ixN xs.length i).bind λj=>xs[j]?
theorem Ws {i:Int}(h:ixN n i=some j):seqIndex? i n=some j/\j<n/\-(n:Int)<=i/\i<n:=by
 unfold ixN at h;by_cases h0:0<=i
 ·rw [if_pos h0] at h;by_cases h1:i<n
  ·rw [if_pos h1] at h;have e:i.toNat=j:=Option.some.inj h;exact ⟨by rw [seqIndex_of h0 h1,e],by omega,by omega,h1⟩
  ·rw [if_neg h1] at h;cases h
 ·rw [if_neg h0] at h;by_cases h1:-(n:Int)<=i
  ·rw [if_pos h1] at h;have e:(i+n).toNat=j:=Option.some.inj h;exact ⟨by rw [seqIndex_neg (by omega) h1,e],by omega,h1,by omega⟩
  ·rw [if_neg h1] at h;cases h
theorem Xp {xs:List α}{i:Int}{v:α}(h:atI xs i=some v):∃ j,seqIndex? i xs.length=some j/\xs[j]?=some v/\j<xs.length/\-(xs.length:Int)<=i/\i<xs.length:=by
 unfold atI at h;cases e:ixN xs.length i with
 |none=>rw [e] at h;cases h
 |some j=>rw [e] at h;obtain ⟨h1,h2,h3,h4⟩:=Ws e;exact ⟨j,h1,h,h2,h3,h4⟩
theorem xn {xs:List α}{v:α}(h:xs[j]?=some v):atI xs (j:Int)=some v:=by
 have hj:j<xs.length:=(yq.mp h).1;have e:ixN xs.length (j:Int)=some j:=by unfold ixN;rw [if_pos (by omega),if_pos (by omega)];simp
 unfold atI;rw [e];exact h
def JH (b:Expr):Prop:=∀ o i,subscripted b false o i=operate [o,i] (getItem o i)
def IxR (X:Cx)(r:R2):Prop :=
 ∀(value slice:Expr)(pins:List (Addr×Obj))(s:Shared)(U:St)(H:Hp)(x y:V)(v u:Value)(Q:VK),Inv X pins U H s->RelV x v->RelV y u->r x y H Q ->
  subscripted slice false v u=operate [v,u] (getItem v u)->wpAny (model X.prog X.w) X.A (subscriptTail value slice v u) (EP X pins U Q) X.xe s
def MtR (X:Cx)(id:String)(r:V->List V->Hp->VK->Prop):Prop :=
 ∀(pins:List (Addr×Obj))(s:Shared)(U:St)(H:Hp)(x:V)(xs:List V)(v:Value)(us:List Value)(Q:VK),Inv X pins U H s->RelV x v->Vals xs us->r x xs H Q ->
  wpAny (model X.prog X.w) X.A (call (.builtin id) (v::us)) (EP X pins U Q) X.xe s
section
variable {X:Cx}{a b:Expr}{ta tb:TE}{pos:Pos}
theorem IxR.or {r':R2}(h:IxR X r)(h':IxR X r'):IxR X (λx y H Q=>r x y H Q∨r' x y H Q):=by
 intro value slice pins s U H x y v u Q I rx ry q hs;rcases q with q|q
 ·exact h value slice pins s U H x y v u Q I rx ry q hs
 ·exact h' value slice pins s U H x y v u Q I rx ry q hs
theorem QM (hr:IxR X r)(ha:PE X a ta)(hb:PE X b tb)(hs:JH b):PE X (.Subscript a b pos) (tOp r ta tb):=by intro pins s U H Q I h;exact Subscript_ (binT ha hb I h λv u s2 x y H2 I2 rx ry q=>hr a b pins s2 U H2 x y v u Q I2 rx ry q (hs _ _))
def rIxL (K:Fg):R2:=λx y H Q=>∃ p xs i v,x = .ref p/\y = .int i/\SqL K H p xs/\atI xs i=some v/\Q v H
def rIxT (K:Fg):R2:=λx y H Q=>∃ p xs i v,x = .ref p/\y = .int i/\SqT K H p xs/\atI xs i=some v/\Q v H
def rIxS:R2:=λx y H Q=>∃ z i c,x = .str z/\y = .int i/\z.length<=sizeLine/\atI z.cps.toList i=some c/\Q (.str ⟨#[c]⟩) H
theorem ix_list:IxR X (rIxL X.K):=by
 intro value slice pins s U H x y v u Q I rx ry h hs;obtain ⟨p,xs,i,z,rfl,rfl,hq,he,q⟩:=h;cases rx;obtain ⟨t,rfl⟩:=ry;obtain ⟨its,r,pl,hz⟩:=I.list hq;obtain ⟨j,h1,h2,h3,h4,h5⟩:=Xp he;obtain ⟨w,ew,rw'⟩:=r.get h2;have hl:=r.length;have hn:=jE;have fin:EP X pins U Q w s:=⟨z,H,I,rw',q⟩;by_cases h0:0<=i
 ·have hj:i.toNat=j:=by rw [seqIndex_of h0 h5] at h1;exact Option.some.inj h1
  exact item_listR pl.isList h0 (by omega) (by rw [hj];simpa using ew) fin hs
 ·have hj:(i+(its.toArray.size:Int)).toNat=j:=by rw [seqIndex_neg (by omega) h4] at h1;rw [yY,<- hl];exact Option.some.inj h1
  exact subscriptTail_builtinR (x:=w) pl.isList.typeIs slot_list_getitem.lookup
   (wpAny_getItem_list_neg (Q:=λr s'=>r=w/\EP X pins U Q r s') pl.isList (by omega) (by rw [yY]<;>omega) (by omega) (by rw [hj];simpa using ew) ⟨rfl,fin⟩) hs
theorem ix_tup:IxR X (rIxT X.K):=by
 intro value slice pins s U H x y v u Q I rx ry h hs;obtain ⟨p,xs,i,z,rfl,rfl,hq,he,q⟩:=h;cases rx;obtain ⟨t,rfl⟩:=ry;obtain ⟨its,r,pl,hz⟩:=I.tuple hq;obtain ⟨j,h1,h2,h3,h4,h5⟩:=Xp he;obtain ⟨w,ew,rw'⟩:=r.get h2;have hl:=r.length;have hn:=jE;have fin:EP X pins U Q w s:=⟨z,H,I,rw',q⟩;exact subscriptTail_builtinR (x:=w) pl.typeIs slot_tuple_getitem.lookup
  (getItem_tuple (j:=j) (Q:=λr s'=>r=w/\EP X pins U Q r s') pl (by omega) (by omega) (by rw [yY,<- hl];exact h1) (by simpa using ew) ⟨rfl,fin⟩) hs
theorem Kz:IxR X rIxS:=by
 intro value slice pins s U H x y v u Q I rx ry h hs;obtain ⟨z,i,c,rfl,rfl,hz,he,q⟩:=h;obtain ⟨t,rfl⟩:=rx;obtain ⟨t',rfl⟩:=ry;obtain ⟨j,h1,h2,h3,h4,h5⟩:=Xp he;have hl:z.cps.toList.length=z.length:=by simp [Str.length]
 rw [hl] at h1 h4 h5;have hn:=jE;exact tail_any (typeIs_str s z t) slot_str_getitem.lookup (getItem_str (c:=c) (by
  have e1:decide (i < -(2 ^ 63:Int))=false:=yI (by omega);have e2:decide (i >= 2 ^ 63)=false:=yI (by omega);rw [e1,e2,Bool.or_false]) (by rw [h1];simpa using h2) ⟨.str ⟨#[c]⟩,H,I.tok _,⟨_,rfl⟩,q⟩) hs
def rIx (K:Fg):R2:=λx y H Q=>rIxL K x y H Q∨rIxT K x y H Q∨rIxS x y H Q
theorem Kx:IxR X (rIx X.K):=ix_list.or (ix_tup.or Kz)
theorem KZ (its:List Value)(n j:Nat)(u:Value):Obj.mapSeq (·.setIfInBounds j u) { cls:= .type "list",data:= .seq its.toArray n }={ cls:= .type "list",data:= .seq (its.set j u).toArray n }:=by simp [Obj.mapSeq]
theorem Inv.lst {pins:List (Addr×Obj)}{U:St}{H:Hp}{s:Shared}{p:Addr}{xs:List V}(I:Inv X pins U H s)(h:H p=some (.lst xs)):∃ (its:List Value) (n:Nat),Vals xs its/\s.heap.get? p=some { cls:= .type "list",data:= .seq its.toArray n }/\xs.length<=sizeLine:=by obtain ⟨z,its,n,r,e⟩:=I.hok p _ h;exact ⟨its,n,r,e,z⟩
theorem Inv.lstUpd {p:Addr}{xs ys:List V}{n':Nat}{f:Obj->Obj}(I:Inv X pins U H s)(h:H p=some (.lst xs))(ho:s.heap.get? p=some { cls:= .type "list",data:= .seq its.toArray n })(hf:f { cls:= .type "list",data:= .seq its.toArray n }={ cls:= .type "list",data:= .seq its'.toArray n' })(r:Vals ys its')(hz:ys.length<=sizeLine)(t:Nat):Inv X pins U (j3 H p (.lst ys)) { s with heap:=s.heap.update p f,toks:=t }:=by
 have e:(s.heap.update p f).get? p=some { cls:= .type "list",data:= .seq its'.toArray n' }:=by rw [Heap.get?_update_self f ho (by rw [hf]<;>rfl),hf]
 refine I.write (x:=p) (e:=p) (by rw [h];trivial) (.inl rfl) (λb u hb q=>(Heap.get?_update_other _ _ (Ne.symm hb)).trans q) ⟨_,e⟩ ?_;exact ⟨hz,its',n',r,e⟩
def rSetL:V->V->V->Hp->(Hp->Prop)->Prop:=λo i v H Q=>∃ p xs k j,o = .ref p/\i = .int k/\H p=some (.lst xs)/\ixN xs.length k=some j/\Q (j3 H p (.lst (xs.set j v)))
theorem Da:PSet X rSetL:=by
 intro pins s U H o i v ov iv u Q I ro ri rv h;obtain ⟨p,xs,k,j,rfl,rfl,hp,hj,q⟩:=h;cases ro;obtain ⟨t,rfl⟩:=ri;obtain ⟨its,n,r,ho,hz⟩:=I.lst hp;obtain ⟨h1,h2,h3,h4⟩:=Ws hj;have hl:=r.length;have hn:=jE;have I':Inv X pins U (j3 H p (.lst (xs.set j v))) { s with heap:=s.heap.update p (Obj.mapSeq (·.setIfInBounds j u)) } :=
  I.lstUpd hp ho (KZ its n j u) (r.set rv j) (by rw [yt];exact hz) s.toks
 by_cases h0:0<=k
 ·have hk:k.toNat=j:=by rw [seqIndex_of h0 h4] at h1;exact Option.some.inj h1
  exact PySem.W.ki_setAt ho h0 (by omega) (by rw [yY,<- hl];exact h4) (by rw [hk];exact ⟨_,I',q⟩)
 ·have hk:(k+(its.toArray.size:Int)).toNat=j:=by rw [seqIndex_neg (by omega) h3] at h1;rw [yY,<- hl];exact Option.some.inj h1
  exact PySem.W.ki_setBack ho (by omega) (by rw [yY,<- hl];exact h3) (by omega) (by rw [hk];exact ⟨_,I',q⟩)
def u4:V->Bool
 | .non=>true
 | .bl _=>true
 | .int _=>true
 | .str _=>true
 |_=>false
def qe:V->V->Bool
 | .non,.non=>true
 | .bl a,.bl b=>a==b
 | .bl a,.int b=>(if a then 1 else 0)==b
 | .int a,.bl b=>a==(if b then 1 else 0)
 | .int a,.int b=>a==b
 | .str a,.str b=>a==b
 |_,_=>false
theorem XA (ry:RelV y u)(rx:RelV x v)(fy:u4 y=true)(fx:u4 x=true):SeqAt.EqAt A s u v (qe y x):=by
 cases y with
 |non =>
  cases ry;cases x with
  |non=>cases rx;exact SeqAt.EqAt.same _
  |bl b=>cases rx;exact SeqAt.EqAt.none_bool b
  |int b=>obtain ⟨t,rfl⟩:=rx;exact SeqAt.EqAt.none_int b t
  |str b=>obtain ⟨t,rfl⟩:=rx;exact SeqAt.EqAt.none_str b t
  |_=>exact absurd (show false=true from fx) yX
 |bl a =>
  cases ry;cases x with
  |non=>cases rx;exact SeqAt.EqAt.bool_none a
  |bl b=>cases rx;exact SeqAt.EqAt.bool_bool a b
  |int b=>obtain ⟨t,rfl⟩:=rx;exact SeqAt.EqAt.bool_int a b t
  |str b=>obtain ⟨t,rfl⟩:=rx;exact SeqAt.EqAt.bool_str a b t
  |_=>exact absurd (show false=true from fx) yX
 |int a =>
  obtain ⟨t',rfl⟩:=ry;cases x with
  |non=>cases rx;exact SeqAt.EqAt.int_none a t'
  |bl b=>cases rx;exact SeqAt.EqAt.int_bool a t' b
  |int b=>obtain ⟨t,rfl⟩:=rx;exact SeqAt.EqAt.int_int a t' b t
  |str b=>obtain ⟨t,rfl⟩:=rx;exact SeqAt.EqAt.int_str a t' b t
  |_=>exact absurd (show false=true from fx) yX
 |str a =>
  obtain ⟨t',rfl⟩:=ry;cases x with
  |non=>cases rx;exact SeqAt.EqAt.str_none a t'
  |bl b=>cases rx;exact SeqAt.EqAt.str_bool a t' b
  |int b=>obtain ⟨t,rfl⟩:=rx;exact SeqAt.EqAt.str_int a t' b t
  |str b=>obtain ⟨t,rfl⟩:=rx;exact SeqAt.EqAt.str_str a t' b t
  |_=>exact absurd (show false=true from fx) yX
 |_=>exact absurd (show false=true from fy) yX
def eqU (x:V)(u:Value):Bool:=match u with
 | .none=>qe .non x
 | .bool b=>qe (.bl b) x
 | .int i _=>qe (.int i) x
 | .str z _=>qe (.str z) x
 |_=>false
theorem Wf (r:RelV y u)(f:u4 y=true):eqU x u=qe y x:=by
 cases y with
 |non=>cases r;rfl
 |bl b=>cases r;rfl
 |int i=>obtain ⟨t,rfl⟩:=r;rfl
 |str z=>obtain ⟨t,rfl⟩:=r;rfl
 |_=>exact absurd (show false=true from f) yX
theorem vZ {x:V}:∀{xs:List V}{us:List Value},Vals xs us->xs.all u4=true->us.any (eqU x)=xs.any λy=>qe y x
 |_,_,.nil,_=>rfl
 |y::xs,u::us,.cons r t,f=>by
  rw [List.all_cons,yp] at f;rw [List.any_cons,List.any_cons,Wf r f.1,vZ t f.2]
theorem wz {A:Around}{s:Shared}{x:V}{v:Value}(rx:RelV x v)(fx:u4 x=true):∀{xs:List V}{us:List Value},Vals xs us->xs.all u4=true->∀ u∈us,SeqAt.EqAt A s u v (eqU x u)
 |_,_,.nil,_=>λu hu=>by cases hu
 |y::xs,u::us,.cons r t,f=>λu' hu=>by
  rw [List.all_cons,yp] at f;rcases yK.mp hu with rfl|hu
  ·rw [Wf r f.1];exact XA r rx f.1 fx
  ·exact wz rx fx t f.2 u' hu
def inV (x:V)(xs:List V):Bool:=xs.any λy=>qe y x
def rIn (K:Fg)(neg:Bool):R2:=λx y H Q=>∃ p xs,y = .ref p/\(SqL K H p xs∨SqT K H p xs)/\u4 x=true/\xs.all u4=true/\Q (.bl (if neg then !inV x xs else inV x xs)) H
theorem BW:OpR X (compareOp .In) (rIn X.K false):=by
 intro pins s U H x y v u Q I rx ry h;obtain ⟨p,xs,rfl,hq,fx,fs,q⟩:=h;cases ry;rcases hq with hq|hq
 ·obtain ⟨its,r,pl,hz⟩:=I.list hq;refine SeqAt.in_listAt (eqU x) pl.isList (λw hw=>wz rx fx r fs w (by simpa using hw)) ⟨.bl _,H,I,rfl,?_⟩;rw [show its.toArray.any (eqU x)=its.any (eqU x) by simp,vZ r fs];exact q
 ·obtain ⟨its,r,pl,hz⟩:=I.tuple hq;refine SeqAt.in_tupleAt (eqU x) pl (λw hw=>wz rx fx r fs w (by simpa using hw)) ⟨.bl _,H,I,rfl,?_⟩;rw [show its.toArray.any (eqU x)=its.any (eqU x) by simp,vZ r fs];exact q
theorem Pa:OpR X (compareOp .NotIn) (rIn X.K true):=by
 intro pins s U H x y v u Q I rx ry h;obtain ⟨p,xs,rfl,hq,fx,fs,q⟩:=h;cases ry;rcases hq with hq|hq
 ·obtain ⟨its,r,pl,hz⟩:=I.list hq;refine SeqAt.notIn_listAt (eqU x) pl.isList (λw hw=>wz rx fx r fs w (by simpa using hw)) ⟨.bl _,H,I,rfl,?_⟩;rw [show its.toArray.any (eqU x)=its.any (eqU x) by simp,vZ r fs];exact q
 ·obtain ⟨its,r,pl,hz⟩:=I.tuple hq;refine SeqAt.notIn_tupleAt (eqU x) pl (λw hw=>wz rx fx r fs w (by simpa using hw)) ⟨.bl _,H,I,rfl,?_⟩;rw [show its.toArray.any (eqU x)=its.any (eqU x) by simp,vZ r fs];exact q
theorem Ga:CallR X (.builtin "len") (λxs H Q=>∃ p ys,xs=[.ref p]/\(SqL X.K H p ys∨SqT X.K H p ys)/\Q (.int ys.length) H):=by
 intro pins s U H xs us Q I r h;obtain ⟨p,ys,rfl,hq,q⟩:=h;obtain ⟨u,rfl,rx⟩:=jo r;cases rx;have hn:=jE;rcases hq with hq|hq
 ·obtain ⟨its,r',pl,hz⟩:=I.list hq;have hlen:=r'.length;exact Calls.call_len_list pl.isList (by simp only [yY]<;>omega) ⟨.int ys.length,H,I.tok _,⟨s.toks+1,by rw [yY,hlen]⟩,q⟩
 ·obtain ⟨its,r',pl,hz⟩:=I.tuple hq;have hlen:=r'.length;exact len_tuple pl (by simp only [yY]<;>omega) ⟨.int ys.length,H,I.tok _,⟨s.toks+1,by rw [yY,hlen]⟩,q⟩
theorem CallR.or {f:Value}{r r':List V->Hp->VK->Prop}(h:CallR X f r)(h':CallR X f r'):CallR X f (λxs H Q=>r xs H Q∨r' xs H Q):=by
 intro pins s U H xs us Q I rs q;rcases q with q|q
 ·exact h pins s U H xs us Q I rs q
 ·exact h' pins s U H xs us Q I rs q
theorem Gb:CallR X (.type "list") (λxs H Q=>∃ p ys,xs=[.ref p]/\(SqL X.K H p ys∨SqT X.K H p ys)/\∀ l,H l=none->Q (.ref l) (j3 H l (.lst ys))):=by
 intro pins s U H xs us Q I r h;obtain ⟨p,ys,rfl,hq,q⟩:=h;obtain ⟨u,rfl,rx⟩:=jo r;cases rx;have fin:∀(its:List Value),Vals ys its->ys.length<=sizeLine->∀(h':Heap)(c':Nat),(∀ b o',s.heap.get? b=some o'->h'.get? b=some o') ->
   h'.get? s.heap.objs.size=some { cls:= .type "list",dict:=none,data:= .seq its.toArray c',slots:=#[] }->EP X pins U Q (.ref s.heap.objs.size) { s with heap:=h' }:=λits r' hz h' c' kp e =>
  ⟨.ref s.heap.objs.size,_,I.laid (t':=s.toks) kp (yS _) (show ObjOk X.prog X.w _ h' _ (.lst ys) from ⟨hz,its,c',r',e⟩),rfl,q _ (I.hok.fresh (yS _))⟩
 rcases hq with hq|hq
 ·obtain ⟨its,r',pl,hz⟩:=I.list hq;have hlen:=r'.length;obtain ⟨o,ho,hc,n,hd⟩:=pl.isList;exact call_list_seq p (.inl rfl) ho hc hd (λh' c' kp e=>fin its r' hz h' c' kp e) (by simp only [yY]<;>omega)
 ·obtain ⟨its,r',pl,hz⟩:=I.tuple hq;have hlen:=r'.length;obtain ⟨o,ho,hc,n,hd⟩:=pl;exact call_list_seq p (.inr rfl) ho hc hd (λh' c' kp e=>fin its r' hz h' c' kp e) (by simp only [yY]<;>omega)
def tyV (K:Fg)(T:String)(x:V)(H:Hp):Prop:=match x with
 | .str _=>T = "str"
 | .int _=>T = "int"
 | .ref p=>(T = "list"/\∃ xs,SqL K H p xs)∨(T = "tuple"/\∃ o,K.lookup p=some o/\o.cls = .type "tuple"/\o.dict=none) ∨
   (T = "dict"/\((∃ kvs,H p=some (.dK kvs))∨∃ kvs,H p=some (.dT kvs)))∨(T = "set"/\∃ S n,H p=some (.set S n))
 |_=>False
theorem Ud (I:Inv X pins U H s)(r:RelV x v)(ty:tyV X.K T x H):s.TypeIs v T/\∀ a,v = .ref a->∃ ob,s.heap.get? a=some ob/\ob.dict=none:=by
 cases x with
 |str z=>obtain ⟨t,rfl⟩:=r;cases (show T = "str" from ty);exact ⟨typeIs_str s z t,λ_ e=>nomatch e⟩
 |int i=>obtain ⟨t,rfl⟩:=r;cases (show T = "int" from ty);exact ⟨typeIs_int s i t,λ_ e=>nomatch e⟩
 |ref p =>
  cases r;rcases ty with ⟨rfl,xs,hq⟩|⟨rfl,o,hk,hc,hd⟩|⟨rfl,hk⟩|⟨rfl,S,n,hk⟩
  ·obtain ⟨its,_,pl,_⟩:=I.list hq;refine ⟨pl.isList.typeIs,λa e=>?_⟩;cases e;obtain ⟨o,n,e,c,hd,_⟩:=pl;exact ⟨o,e,hd⟩
  ·refine ⟨⟨o,I.kIn p o hk,hc⟩,λa e=>?_⟩;cases e;exact ⟨o,I.kIn _ o hk,hd⟩
  ·have z:∃ o,s.heap.get? p=some o/\o.ExactDict:=by
    rcases hk with ⟨kvs,hk⟩|⟨kvs,hk⟩
    ·obtain ⟨_,_,_,_,o,_,_,e,ex,_⟩:=I.hok p _ hk;exact ⟨o,e,ex⟩
    ·obtain ⟨_,_,_,_,o,_,_,e,ex,_⟩:=I.hok p _ hk;exact ⟨o,e,ex⟩
   obtain ⟨o,e,ex⟩:=z;refine ⟨⟨o,e,ex.1⟩,λa e2=>?_⟩;cases e2;exact ⟨o,e,ex.2.1⟩
  ·obtain ⟨o,_,_,_,e,ex,_⟩:=I.hok p _ hk;refine ⟨⟨o,e,ex.1⟩,λa e2=>?_⟩;cases e2;exact ⟨o,e,ex.2.1⟩
 |_=>exact False.elim ty
def vJ (K:Fg)(T:String)(r:V->List V->Hp->VK->Prop)(to:TE):TE:=λU H Q=>to U H λx H1=>tyV K T x H1/\r x [] H1 Q
def tBM (K:Fg)(T:String)(r:V->List V->Hp->VK->Prop)(to:TE)(t:TA):TE:=λU H Q=>to U H λx H1=>tyV K T x H1/\t U H1 λxs H2=>r x xs H2 Q
variable {o e:Expr}{es:List Expr}{to:TE}{t:TA}{name:Str}{apos cpos:Pos}{T id:String}{r:V->List V->Hp->VK->Prop}
theorem Pk (pa:PlainAttrs T)(slot:Slot T name id)(hty:typeOf (.builtin id)=pure (.type "method_descriptor"))(hm:MtR X id r)(ho:PE X o to)(hbase:attributeBase o name X.env (eval o X.env)=eval o X.env:=by rfl)(hline:(apos.endLine==cpos.line)=true:=by rfl):PE X (.Call (.Attribute o name apos) [] [] cpos) (vJ X.K T r to):=by intro pins s U H Q I h;refine wpAny_Call_method0_late hbase hline (z6 (ho pins s U H _ I h) λv s1 ⟨x,H1,I1,r1,ty,q1⟩=>?_);obtain ⟨h1,h2⟩:=Ud I1 r1 ty;exact ⟨T,id,pa,slot,hty,h1,h2,Calls.callWith_builtin rfl (PySem.evalArgs_none (hm pins s1 U H1 x [] v [] Q I1 r1 .nil q1))⟩
theorem pe_bm (pa:PlainAttrs T)(slot:Slot T name id)(hty:typeOf (.builtin id)=pure (.type "method_descriptor"))(hm:MtR X id r)(ho:PE X o to)(ha:PA X (e::es) t)(hbase:attributeBase o name X.env (eval o X.env)=eval o X.env:=by rfl)(hfew:((backTo cpos (starEach (e::es) X.env)).all (λx=>!x.1)&&(backToKw cpos (keywordEach [] X.env)).all (λx=>x.1.isSome)&&decide ((e::es).length+([]:List Keyword).length+(if ([]:List Keyword).isEmpty then 0 else 1)<30))=true:=by rfl)(hline:(apos.endLine==cpos.line)=true:=by rfl)(hs:starEach (e::es) X.env=(false,eval e X.env)::starEach es X.env:=by rfl)(hplain:(backTo cpos (starEach es X.env)).any (·.1)=false:=by rfl):PE X (.Call (.Attribute o name apos) (e::es) [] cpos) (tBM X.K T r to t):=by intro pins s U H Q I h;refine wpAny_Call_method_late hbase hfew hline rfl (z6 (ho pins s U H _ I h) λv s1 ⟨x,H1,I1,r1,ty,q1⟩=>?_);obtain ⟨h1,h2⟩:=Ud I1 r1 ty;refine ⟨T,id,pa,slot,hty,h1,h2,?_⟩;have hA:=ha cpos pins s1 U H1 _ I1 q1;rw [hs] at hA ⊢;refine Calls.callWith_builtin (by show (false || (backTo cpos (starEach es X.env)).any (·.1))=false;rw [hplain]<;>rfl) (Calls.evalArgs_plain ?_);exact z6 hA λus s2 ⟨vs,H2,I2,r2,q2⟩=>hm pins s2 U H2 x vs v us Q I2 r1 r2 q2
end
def MtM (X:Cx)(id:String)(r:V->List V->Hp->VK->Prop):Prop :=
 ∀(pins:List (Addr×Obj))(s:Shared)(U:St)(H:Hp)(x:V)(xs:List V)(v:Value)(us:List Value)(Q:VK),Inv X pins U H s->RelV x v->Vals xs us->r x xs H Q ->
  wpAny (model X.prog X.w) X.A (call (.builtin id) (v::us)) (EP X pins U Q) X.xe s
theorem Vals.one:∀{x:V}{us:List Value},Vals [x] us->∃ u,us=[u]/\RelV x u
 |_,_,.cons r .nil=>⟨_,rfl,r⟩
theorem Vals.zero:∀{us:List Value},Vals [] us->us=[]
 |_,.nil=>rfl
theorem Vals.dropLast {xs:List V}(h:Vals xs us):Vals xs.dropLast us.dropLast:=by
 induction h with
 |nil=>exact .nil
 |cons r t ih =>
  cases t with
  |nil=>exact .nil
  |cons q t'=>exact .cons r ih
theorem GC (l:List α):l.eraseIdx (l.length-1)=l.dropLast:=by
 induction l with
 |nil=>rfl
 |cons a r ih =>
  cases r with
  |nil=>rfl
  |cons b r =>
   have e:(a::b::r).length-1=((b::r).length-1)+1:=by have h1:(a::b::r).length=r.length+2:=rfl;have h2:(b::r).length=r.length+1:=rfl;omega
   rw [e,List.eraseIdx_cons_succ,ih]
   all_goals rfl
section
variable {X:Cx}{pins:List (Addr×Obj)}{U:St}{H:Hp}{s:Shared}{l b:Addr}{xs ys zs:List V}
theorem Inv.lset {f:Array Value->Array Value}(I:Inv X pins U H s)(hH:H l=some (.lst xs))(e:s.heap.get? l=some { cls:= .type "list",data:= .seq its.toArray n })(hf:f its.toArray=its'.toArray)(hv:Vals ys its')(hz:ys.length<=sizeLine):Inv X pins U (j3 H l (.lst ys)) { s with heap:=s.heap.update l (Obj.mapSeq f),toks:=t' }:=by have q:=PySem.IsL.update e f;rw [hf] at q;refine I.write (x:=l) (e:=l) (by rw [hH];exact trivial) (.inl rfl) (λb' u hb hu=>(Heap.get?_update_other s.heap (Obj.mapSeq f) (Ne.symm hb)).trans hu) ⟨_,q⟩ ?_;exact ⟨hz,its',_,hv,q⟩
theorem Inv.lnew (I:Inv X pins U H s)(hv:Vals ys its)(hz:ys.length<=sizeLine):Inv X pins U (j3 H s.heap.objs.size (.lst ys)) { s with heap:=s.heap.push { cls:= .type "list",data:= .seq its.toArray },toks:=t' } :=
 I.laid (λ_ _ q=>yT _ q) (yS _) ⟨hz,its,0,hv,yv _ rfl⟩
theorem Inv.fresh (I:Inv X pins U H s):H s.heap.objs.size=none:=I.hok.fresh (yS _)
theorem Inv.lstM (I:Inv X pins U H s)(hH:H l=some (.lst xs)):xs.length<=sizeLine/\∃ (its:List Value) (n:Nat),Vals xs its/\xs.length=its.length/\s.heap.get? l=some { cls:= .type "list",data:= .seq its.toArray n }:=by obtain ⟨z,its,n,r,e⟩:=I.hok l _ hH;exact ⟨z,its,n,r,r.length,e⟩
end
section
variable {X:Cx}
def QV:V->List V->Hp->VK->Prop:=λx vs H Q=>∃ l xs y,x = .ref l/\vs=[y]/\H l=some (.lst xs)/\xs.length<sizeLine/\Q .non (j3 H l (.lst (xs++[y])))
theorem Zc:MtM X "list.append" QV:=by intro pins s U H x vs v us Q I rx rv h;obtain ⟨l,xs,y,rfl,rfl,hH,hz,q⟩:=h;cases rx;obtain ⟨u,rfl,ru⟩:=rv.one;obtain ⟨z,its,n,r,hl,e⟩:=I.lstM hH;refine call_meets F.slot_list_append ⟨_,e,rfl⟩ F.entry_list_append (F.args_list_append_2 _ _) (PySem.list_append l its.toArray n u (by rw [yY];omega)) ⟨e,?_⟩;refine ⟨.non,_,I.lset (its':=its++[u]) hH e (by simp) (r.append (.cons ru .nil)) ?_,rfl,q⟩;rw [yF,List.length_singleton];omega
def rPop:V->List V->Hp->VK->Prop:=λx vs H Q=>∃ l xs y,x = .ref l/\vs=[]/\H l=some (.lst xs)/\xs[xs.length-1]?=some y/\Q y (j3 H l (.lst xs.dropLast))
theorem Bb:MtM X "list.pop" rPop:=by
 intro pins s U H x vs v us Q I rx rv h;obtain ⟨l,xs,y,rfl,rfl,hH,hy,q⟩:=h;cases rx;have hus:=rv.zero;subst hus;obtain ⟨z,its,n,r,hl,e⟩:=I.lstM hH;obtain ⟨u,hu,ru⟩:=r.get hy;have hy':its.toArray[its.toArray.size-1]?=some u:=by show its.toArray[its.length-1]?=some u;rw [<- Array.getElem?_toList,<- hl];exact hu
 refine call_meets F.slot_list_pop ⟨_,e,rfl⟩ F.entry_list_pop (F.args_list_pop_1 _) (MeetsSeq.list_pop_last l its.toArray n u hy' (by rw [yY];omega)) ⟨e,?_⟩;refine ⟨y,_,I.lset (its':=its.dropLast) hH e ?_ r.dropLast ?_,ru,q⟩
 ·show its.toArray.eraseIdxIfInBounds (its.toArray.size-1)=its.dropLast.toArray;rw [yY,List.eraseIdxIfInBounds_toArray,GC]
 ·rw [List.length_dropLast];omega
def QW:V->List V->Hp->VK->Prop:=λx vs H Q=>∃ l xs,x = .ref l/\vs=[]/\H l=some (.lst xs)/\Q .non (j3 H l (.lst []))
theorem Zd:MtM X "list.clear" QW:=by intro pins s U H x vs v us Q I rx rv h;obtain ⟨l,xs,rfl,rfl,hH,q⟩:=h;cases rx;have hus:=rv.zero;subst hus;obtain ⟨z,its,n,r,hl,e⟩:=I.lstM hH;refine call_meets F.slot_list_clear ⟨_,e,rfl⟩ F.entry_list_clear (F.args_list_clear_1 _) (AutoSeq1.list_clear_list_0 l its.toArray n (by rw [yY];omega)) ⟨e,?_⟩;exact ⟨.non,_,I.lset (its':=[]) (ys:=[]) hH e rfl .nil (yi _),rfl,q⟩
end
section
variable {κ:Type}[DecidableEq κ]
def i4 (kvs:List (κ×V))(k:κ):Option V:=(kvs.find? λkv=>decide (kv.1=k)).map (·.2)
def xJ (kvs:List (κ×V))(k:κ)(v:V):List (κ×V) :=
 if (kvs.any λkv=>decide (kv.1=k))=true then kvs.map (λkv=>if kv.1=k then (kv.1,v) else kv) else kvs++[(k,v)]
theorem Jx {p:κ×V}{r:List (κ×V)}{k:κ}(e:p.1=k):i4 (p::r) k=some p.2:=by simp [i4,uV,e]
theorem Jw {p:κ×V}{r:List (κ×V)}{k:κ}(e:¬ p.1=k):i4 (p::r) k=i4 r k:=by simp [i4,uV,e]
theorem Jv (k:κ):∀ kvs:List (κ×V),(kvs.any λkv=>decide (kv.1=k))=(i4 kvs k).isSome
 |[]=>rfl
 |p::r=>by
  rw [List.any_cons];by_cases e:p.1=k
  ·simp only [Jx e,ym e,Bool.true_or,Option.isSome_some]
  ·rw [Jw e,yI e,Bool.false_or];exact Jv k r
theorem Wx (kvs:List (κ×V))(k:κ)(v:V):(xJ kvs k v).length<=kvs.length+1:=by
 unfold xJ;split
 ·rw [yZ];omega
 ·rw [yF,yx,List.length_nil];omega
theorem RelO.isSome_eq {u:Option Value}(r:RelO o u):o.isSome=u.isSome:=by
 cases o with
 |none=>cases u with
  |none=>rfl
  |some _=>exact (show False from r).elim
 |some _=>cases u with
  |none=>exact (show False from r).elim
  |some _=>rfl
theorem KV.val {kvs:List (κ×V)}{vs:List (κ×Value)}(r:KV kvs vs)(k:κ):RelO (i4 kvs k) (valueAt vs k):=by
 unfold KV at r
 induction r with
 |nil=>exact True.intro
 |@cons p q ps qs h t ih =>
  obtain ⟨h1,h2⟩:=h;by_cases e:p.1=k
  ·have e':q.1=k:=h1.symm.trans e;have b:valueAt (q::qs) k=some q.2:=by simp [valueAt,uV,e']
   rw [Jx e,b];exact h2
  ·have e':¬ q.1=k:=λz=>e (h1.trans z);have b:valueAt (q::qs) k=valueAt qs k:=by simp [valueAt,uV,e']
   rw [Jw e,b];exact ih
theorem KV.any {kvs:List (κ×V)}{vs:List (κ×Value)}(r:KV kvs vs)(k:κ):(kvs.any λkv=>decide (kv.1=k))=vs.any λkv=>decide (kv.1=k):=by
 unfold KV at r
 induction r with
 |nil=>rfl
 |cons h t ih=>rw [List.any_cons,List.any_cons,ih,h.1]
theorem KV.repl {kvs:List (κ×V)}{vs:List (κ×Value)}(r:KV kvs vs)(k:κ)(ry:RelV y u):KV (kvs.map λkv=>if kv.1=k then (kv.1,y) else kv) (vs.map λkv=>if kv.1=k then (kv.1,u) else kv):=by
 unfold KV at r ⊢
 induction r with
 |nil=>exact .nil
 |@cons p q ps qs h t ih =>
  rw [yP,yP];refine .cons ?_ ih;obtain ⟨h1,h2⟩:=h;by_cases e:p.1=k
  ·rw [if_pos e,if_pos (h1.symm.trans e)];exact ⟨h1,ry⟩
  ·rw [if_neg e,if_neg (λz=>e (h1.trans z))];exact ⟨h1,h2⟩
theorem KV.put {kvs:List (κ×V)}{vs:List (κ×Value)}(r:KV kvs vs)(k:κ)(ry:RelV y u):KV (xJ kvs k y) (stored vs k u):=by
 unfold xJ stored;rw [r.any k];by_cases e:(vs.any λkv=>decide (kv.1=k))=true
 ·rw [if_pos e,if_pos e];exact r.repl k ry
 ·rw [if_neg e,if_neg e];exact Paired.snoc r ⟨rfl,ry⟩
theorem KV.length {kvs:List (κ×V)}{vs:List (κ×Value)}(r:KV kvs vs):kvs.length=vs.length:=Paired.length r
end
theorem vm {k:z8}(r:RelV (kV k) u):(qo P w).is k u=true:=by
 cases k with
 |inl i=>obtain ⟨t,e⟩:=(show ∃ t,u=Value.int i t from r);subst e;exact Ba P w i t
 |inr x=>obtain ⟨t,e⟩:=(show ∃ t,u=Value.str x t from r);subst e;exact WM P w x t
theorem Wq {P:Program}{w:World}:∀{ks:List z8}{us:List Value},Vals (ks.map kV) us->ItemsAre (qo P w) ks us
 |[],_,r=>by rw [List.map_nil] at r;cases r;exact .nil
 |k::ks,_,r=>by
  rw [yP] at r;cases r with
  |cons h t=>exact .cons (vm h) (Wq t)
abbrev KT (H:Hp):List (List z8×V)->List (List z8×Addr×Value)->Prop:=Paired λp q=>p.1=q.1/\H q.2.1=some (.tup (p.1.map kV))/\RelV p.2 q.2.2
theorem KT.val (r:KT H kvs xs)(k:List z8):RelO (i4 kvs k) ((atKey xs k).map (·.2)):=by
 induction r with
 |nil=>exact True.intro
 |@cons p q ps qs h t ih =>
  obtain ⟨h1,_,h2⟩:=h;by_cases e:p.1=k
  ·have e':q.1=k:=h1.symm.trans e;have b:atKey (q::qs) k=some q.2:=by simp [atKey,uV,e']
   rw [Jx e,b];exact h2
  ·have e':¬ q.1=k:=λz=>e (h1.trans z);have b:atKey (q::qs) k=atKey qs k:=by simp [atKey,uV,e']
   rw [Jw e,b];exact ih
theorem KT.repl (r:KT H kvs xs)(k:List z8)(ry:RelV y u):KT H (kvs.map λkv=>if kv.1=k then (kv.1,y) else kv) (xs.map (putAt k u)):=by
 induction r with
 |nil=>exact .nil
 |@cons p q ps qs h t ih =>
  rw [yP,yP];refine .cons ?_ ih;obtain ⟨h1,h2,h3⟩:=h;unfold putAt;by_cases e:p.1=k
  ·rw [if_pos e,if_pos (h1.symm.trans e)];exact ⟨h1,h2,ry⟩
  ·rw [if_neg e,if_neg (λz=>e (h1.trans z))];exact ⟨h1,h2,h3⟩
theorem KT.put (r:KT H kvs xs)(k:List z8){b:Addr}(hb:H b=some (.tup (k.map kV)))(ry:RelV y u):KT H (xJ kvs k y) (storedH xs k b u):=by
 have e:(kvs.any λkv=>decide (kv.1=k))=(atKey xs k).isSome:=by rw [Jv,(r.val k).isSome_eq,Option.isSome_map]
 unfold xJ storedH;rw [e];by_cases q:(atKey xs k).isSome=true
 ·rw [if_pos q,if_pos q];exact r.repl k ry
 ·rw [if_neg q,if_neg q];exact Paired.snoc r ⟨rfl,hb,ry⟩
theorem KT.keeps (r:KT H kvs xs)(ht:∀ b ys,H b=some (.tup ys)->H' b=some (.tup ys)):KT H' kvs xs :=
 Paired.mapP r λ_ _ z=>⟨z.1,ht _ _ z.2.1,z.2.2⟩
section
variable {P:Program}{w:World}{H:Hp}{h:Heap}{a:Addr}
theorem Yu {u:HO}(ok:HOk P w H h)(e:Rd H a u):ObjOk P w H h a u:=e.ok ok
theorem jy {kvs:List (z8×V)}(ok:HOk P w H h)(e:Rd H a (.dK kvs)):kvs.length<=sizeLine/\(a==sysModules)=false/\∃ vs,KV kvs vs/\h.DictOf (qo P w) a vs :=
 show ObjOk P w H h a (.dK kvs) from Yu ok e
theorem dk_of {kvs:List (z8×V)}(ok:HOk P w H h)(e:H a=some (.dK kvs)):kvs.length<=sizeLine/\(a==sysModules)=false/\∃ vs,KV kvs vs/\h.DictOf (qo P w) a vs:=jy ok (.inl e)
theorem wn {ks:List z8}(ok:HOk P w H h)(e:H a=some (.tup (ks.map kV))):(tupleKind (qo P w)).is h ks a:=by obtain ⟨_,its,r,o,h1,h2,n,h3⟩:=(show ObjOk P w H h a (.tup (ks.map kV)) from ok a _ e);exact ⟨o,its.toArray,n,h1,h2,h3,by simpa using Wq r⟩
theorem wg (ok:HOk P w H h)(e:Rd H a (.dT kvs)):kvs.length<=sizeLine/\(a==sysModules)=false /\ ∃ xs,KT H kvs xs/\h.DictOfH (tupleKind (qo P w)) a xs:=by
 obtain ⟨z,y,xs,r,o,es,ep,h1,h2,h3,h4,h5⟩:=(show ObjOk P w H h a (.dT kvs) from Yu ok e);refine ⟨z,y,xs,r,o,es,ep,h1,h2,h3,h4,λx hx=>?_,h5⟩;have all:∀{l:List (List z8×V)}{m:List (List z8×Addr×Value)},KT H l m->∀ x∈m,(tupleKind (qo P w)).is h x.1 x.2.1:=by
  intro l m q
  induction q with
  |nil=>intro x hx;exact nomatch hx
  |@cons p q ps qs hq t ih =>
   intro x hx;rcases yK.mp hx with e|hx
   ·subst e;exact wn ok (by rw [<- hq.1];exact hq.2.1)
   ·exact ih x hx
 exact all r x hx
theorem dt_of (ok:HOk P w H h)(e:H a=some (.dT kvs)):kvs.length<=sizeLine/\(a==sysModules)=false /\ ∃ xs,KT H kvs xs/\h.DictOfH (tupleKind (qo P w)) a xs:=wg ok (.inl e)
end
def DGet (H:Hp)(a:Addr)(y:V)(r:Option V):Prop :=
 (∃ kvs k,Rd H a (.dK kvs)/\y=kV k/\r=i4 kvs k)∨∃ kvs k b,Rd H a (.dT kvs)/\y = .ref b/\H b=some (.tup (k.map kV))/\r=i4 kvs k
def DPut (H:Hp)(a:Addr)(y v:V)(H':Hp):Prop :=
 (∃ kvs k,H a=some (.dK kvs)/\y=kV k/\kvs.length<sizeLine/\H'=j3 H a (.dK (xJ kvs k v))) ∨
 ∃ kvs k b,H a=some (.dT kvs)/\y = .ref b/\H b=some (.tup (k.map kV))/\kvs.length<sizeLine/\H'=j3 H a (.dT (xJ kvs k v))
theorem DGet.k {kvs:List (z8×V)}{k:z8}(e:H a=some (.dK kvs)):DGet H a (kV k) (i4 kvs k):= .inl ⟨kvs,k,.inl e,rfl,rfl⟩
theorem DPut.k {kvs:List (z8×V)}{k:z8}{v:V}(e:H a=some (.dK kvs))(hl:kvs.length<sizeLine):DPut H a (kV k) v (j3 H a (.dK (xJ kvs k v))):= .inl ⟨kvs,k,e,rfl,hl,rfl⟩
section
variable {X:Cx}{pins:List (Addr×Obj)}{U:St}{H:Hp}{s:Shared}{a:Addr}{y v:V}{u r:Value}{o:Option V}{A:Around}{E:Value->Shared->Prop}
theorem Inv.big (I:Inv X pins U H s):sysModules<s.heap.objs.size:=by have h:mainGlobals<s.heap.objs.size:=(I.mod.glob.keeps I.bk).lt;exact Nat.lt_trans (by decide) h
theorem Gp (hu:A.units+1<cLine)(I:Inv X pins U H s)(g:DGet H a y (some v))(ry:RelV y u)(h:∀ w' s',Inv X pins U H s'->RelV v w'->Q w' s'):wpAny (model X.prog X.w) A (getItem (.ref a) u) Q E s:=by
 rcases g with ⟨kvs,k,e,ey,l⟩|⟨kvs,k,b,e,ey,eb,l⟩
 ·subst ey;obtain ⟨z,hd,vs,rel,dd⟩:=jy I.hok e;obtain ⟨w',hw,rw'⟩:=RelO.some_of (v:=v) (o:=valueAt vs k) (by rw [l];exact rel.val k);exact wpAny_getItem_of (vm ry) dd.mapOf hw (h w' _ (I.tok _) rw')
 ·subst ey;cases (show u=Value.ref b from ry);obtain ⟨z,hd,xs,rel,dd⟩:=wg I.hok e;obtain ⟨w',hw,rw'⟩:=RelO.some_of (v:=v) (o:=(atKey xs k).map (·.2)) (by rw [l];exact rel.val k);obtain ⟨p,hp,hp2⟩:=yG.mp hw;refine wpAny_getItem_heap (tupleKind_room_in1 hu) (wn I.hok eb) dd hp ?_;rw [hp2];exact h w' _ (I.tok _) rw'
theorem d_in (hu:A.units+1<cLine)(I:Inv X pins U H s)(g:DGet H a y o)(ry:RelV y u)(h:∀ s',Inv X pins U H s'->Q (.bool o.isSome) s'):wpAny (model X.prog X.w) A (compareOp .In u (.ref a)) Q E s:=by
 rcases g with ⟨kvs,k,e,ey,l⟩|⟨kvs,k,b,e,ey,eb,l⟩
 ·subst ey;obtain ⟨z,hd,vs,rel,dd⟩:=jy I.hok e;refine wpAny_in_of (vm ry) hd dd.mapOf ?_;rw [<- (rel.val k).isSome_eq,<- l];exact h _ (I.tok _)
 ·subst ey;cases (show u=Value.ref b from ry);obtain ⟨z,hd,xs,rel,dd⟩:=wg I.hok e;refine wpAny_in_heap (tupleKind_room_in1 hu) (wn I.hok eb) hd dd ?_;have q:=(rel.val k).isSome_eq;rw [Option.isSome_map] at q;rw [<- q,<- l];exact h _ (I.tok _)
theorem Gq (hu:A.units+1<cLine)(I:Inv X pins U H s)(g:DGet H a y o)(ry:RelV y u)(h:∀ s',Inv X pins U H s'->Q (.bool (!o.isSome)) s'):wpAny (model X.prog X.w) A (compareOp .NotIn u (.ref a)) Q E s:=by
 rcases g with ⟨kvs,k,e,ey,l⟩|⟨kvs,k,b,e,ey,eb,l⟩
 ·subst ey;obtain ⟨z,hd,vs,rel,dd⟩:=jy I.hok e;refine wpAny_notIn_of (vm ry) hd dd.mapOf ?_;rw [<- (rel.val k).isSome_eq,<- l];exact h _ (I.tok _)
 ·subst ey;cases (show u=Value.ref b from ry);obtain ⟨z,hd,xs,rel,dd⟩:=wg I.hok e;refine wpAny_notIn_heap (tupleKind_room_in1 hu) (wn I.hok eb) hd dd ?_;have q:=(rel.val k).isSome_eq;rw [Option.isSome_map] at q;rw [<- q,<- l];exact h _ (I.tok _)
theorem VZ {ob:HO}(I:Inv X pins U H s)(mu:Mut (H a))(hs:Heap.SameBut a s.heap h')(he:∃ q,h'.get? a=some q)(new:ObjOk X.prog X.w (j3 H a ob) h' a ob):Inv X pins U (j3 H a ob) { s with heap:=h',toks:=t' } :=
 I.write (x:=a) (e:=a) mu (.inl rfl) (λb q hb z=>(hs.2 b hb).trans z) he new
theorem Wa {kvs:List (z8×V)}{vs:List (z8×Value)}(z:kvs.length<=sizeLine)(hd:(a==sysModules)=false)(rel:KV kvs vs)(dd:h'.DictOf (qo P w) a vs):ObjOk P w H' h' a (.dK kvs):=⟨z,hd,vs,rel,dd⟩
theorem Gr {Q:Unit->Shared->Prop}(hu:A.units+1<cLine)(I:Inv X pins U H s)(g:DPut H a y v H')(ry:RelV y u)(rv:RelV v r)(h:∀ s',Inv X pins U H' s'->Q () s'):wpAny (model X.prog X.w) A (setItem (.ref a) u r) Q E s:=by
 rcases g with ⟨kvs,k,e,ey,l,eH⟩|⟨kvs,k,b,e,ey,eb,l,eH⟩
 ·subst ey eH;obtain ⟨z,hd,vs,rel,dd⟩:=dk_of I.hok e;have hz:vs.length<=sizeLine:=by rw [<- rel.length];exact z
  have hl:(xJ kvs k v).length<=sizeLine:=by have:=Wx kvs k v;omega
  refine wpAny_setItem_pairs (hsz:=hz) (vm ry) dd λh' dd' hs=>h _ ?_;have he:∃ q,h'.get? a=some q:=let ⟨q,_,_,hq,_⟩:=dd';⟨q,hq⟩
  exact VZ I (by rw [e];exact True.intro) hs he (Wa hl hd (rel.put k rv) dd')
 ·subst ey eH;cases (show u=Value.ref b from ry);obtain ⟨z,hd,xs,rel,dd⟩:=dt_of I.hok e;have hz:xs.length<=sizeLine:=by rw [<- Paired.length rel];exact z
  have hl:(xJ kvs k v).length<=sizeLine:=by have:=Wx kvs k v;omega
  refine wpAny_setItem_heap (hsz:=hz) (tupleKind_room_in1 hu) (wn I.hok eb) dd λh' dd' hs=>h _ ?_;obtain ⟨q,es,ep,hq,h2,h3,h4,_,h5⟩:=dd';refine VZ I (by rw [e];exact True.intro) hs ⟨q,hq⟩ ⟨hl,hd,_,(rel.put k eb rv).keeps λc ys ec=>?_,q,es,ep,hq,h2,h3,h4,h5⟩;rw [z9 (ne_of ec e (λz=>nomatch z))];exact ec
end
section
variable {X:Cx}{pins:List (Addr×Obj)}{U:St}{H:Hp}{s:Shared}{a:Addr}{kvs:List (z8×V)}{k:z8}{u:Value}{A:Around}{E:Value->Shared->Prop}
theorem d_len (I:Inv X pins U H s)(e:Rd H a (.dK kvs))(h:∀ t s',Inv X pins U H s'->Q (.int kvs.length t) s'):wpAny (model X.prog X.w) A (call (.builtin "len") [.ref a]) Q E s:=by obtain ⟨z,hd,vs,rel,dd⟩:=jy I.hok e;refine call_len_dict hd dd (by rw [<- rel.length];rw [sizeLine_eq] at z;omega) ?_;rw [<- rel.length];exact h _ _ (I.tok _)
end
def NoSl (i:Expr):Prop:=∀ ov iv,subscripted i false ov iv=operate [ov,iv] (getItem ov iv)
theorem Dk {prog:Program}{E:Value->Shared->Prop}{env:Env}{value slice:Expr}{pos:Pos}{id:String}(hl:typeLookup (.type T) "__getitem__"=pure (some (.builtin id)))(hs:NoSl slice)(h:wpAny (model prog w) A (eval value env) (λo s₁=>wpAny (model prog w) A (eval slice env) (λi s₂=>s₂.TypeIs o T/\wpAny (model prog w) A (getItem o i) Q E s₂) E s₁) E s):wpAny (model prog w) A (eval (.Subscript value slice pos) env) Q E s:=by
 refine Subscript_ (wpAny_mono h (λo s₁ h₁=>wpAny_mono h₁ (λi s₂ h₂=>?_) λ_ _ x=>x) λ_ _ x=>x);obtain ⟨hT,h₂⟩:=h₂;unfold subscriptTail;refine yU ?_;rw [getitemInPython_of_ne hT.not_modules];refine yU (wpAny_specialOf hT hl ?_);have fin:wpAny (model prog w) A (subscripted slice false o i) (λr s₃=>wpAny (model prog w) A (letTemporaryGo value o r >>= λ_=>pure r) Q E s₃) E s₂:=by rw [hs o i];exact wpAny_operating (wpAny_mono h₂ (λr s₃ h₃=>yU (wpAny_letTemporaryGo (yD h₃))) λ_ _ x=>x)
 first
  |exact yD (yU fin)
  |exact yU (yD (yU fin))
  |exact yU fin
theorem Gu {X:Cx}(I:Inv X pins U H s)(g:DGet H a y o):s.TypeIs (.ref a) "dict":=by
 rcases g with ⟨kvs,k,e,_,_⟩|⟨kvs,k,b,e,_,_,_⟩
 ·obtain ⟨_,_,vs,_,dd⟩:=jy I.hok e;exact dd.typeIs
 ·obtain ⟨_,_,xs,_,dd⟩:=wg I.hok e;exact dd.typeIs
def YS (td ty:TE):TE:=λU H Q=>td U H λx H1=>ty U H1 λy H2=>∃ a v,x = .ref a/\DGet H2 a y (some v)/\Q v H2
def tDIn (ty td:TE):TE:=λU H Q=>ty U H λy H1=>td U H1 λx H2=>∃ a o,x = .ref a/\DGet H2 a y o/\Q (.bl o.isSome) H2
def YU (ty td:TE):TE:=λU H Q=>ty U H λy H1=>td U H1 λx H2=>∃ a o,x = .ref a/\DGet H2 a y o/\Q (.bl (!o.isSome)) H2
def YF (td ty tv:TE):TS:=λD U H=>tv U H λv H1=>td U H1 λx H2=>ty U H2 λy H3=>∃ a H4,x = .ref a/\DPut H3 a y v H4/\D.nx U H4
section
variable {X:Cx}{o i e value:Expr}{pos pos' tpos:Pos}{td ty tv:TE}
theorem Pn (hu:X.A.units+1<cLine)(ho:PE X o td)(hi:PE X i ty)(hs:NoSl i):PE X (.Subscript o i pos) (YS td ty):=by intro pins s U H Q I h;refine Dk PySem.F.slot_dict_getitem.lookup hs (z6 (ho pins s U H _ I h) λu s1 ⟨x,H1,I1,rx,q1⟩=>z6 (hi pins s1 U H1 _ I1 q1) λiv s2 ⟨y,H2,I2,ry,a,v,ex,g,q2⟩=>?_);subst ex;obtain rfl:u=Value.ref a:=rx;exact ⟨Gu I2 g,Gp hu I2 g ry λw' s3 I3 rw'=>⟨v,H2,I3,rw',q2⟩⟩
theorem Pi (hu:X.A.units+1<cLine)(hi:PE X i ty)(ho:PE X o td):PC X .In i o (tDIn ty td):=by intro pins s U H Q I h;refine z6 (hi pins s U H _ I h) λiv s1 ⟨y,H1,I1,ry,q1⟩=>z6 (ho pins s1 U H1 _ I1 q1) λu s2 ⟨x,H2,I2,rx,a,ov,ex,g,q2⟩=>?_;subst ex;obtain rfl:u=Value.ref a:=rx;exact d_in hu I2 g ry λs3 I3=>⟨.bl ov.isSome,H2,I3,rfl,q2⟩
theorem Pj (hu:X.A.units+1<cLine)(hi:PE X i ty)(ho:PE X o td):PC X .NotIn i o (YU ty td):=by intro pins s U H Q I h;refine z6 (hi pins s U H _ I h) λiv s1 ⟨y,H1,I1,ry,q1⟩=>z6 (ho pins s1 U H1 _ I1 q1) λu s2 ⟨x,H2,I2,rx,a,ov,ex,g,q2⟩=>?_;subst ex;obtain rfl:u=Value.ref a:=rx;exact Gq hu I2 g ry λs3 I3=>⟨.bl (!ov.isSome),H2,I3,rfl,q2⟩
theorem PP (hu:X.A.units+1<cLine)(ho:PE X o td)(hi:PE X i ty)(hv:PE X value tv)(hs:swapsWith value (some (.Subscript o i pos')) pos.line X.env=pure false):PS X (.Assign [.Subscript o i pos'] value pos) (YF td ty tv):=by intro pins s U H D I h;refine wpAny_Assign_Subscript (z6 (hv pins s U H _ I h) λr s1 ⟨v,H1,I1,rv,q1⟩=>z6 (ho pins s1 U H1 _ I1 q1) λu s2 ⟨x,H2,I2,rx,q2⟩=>z6 (hi pins s2 U H2 _ I2 q2) λiv s3 ⟨y,H3,I3,ry,a,H4,ex,g,q3⟩=>?_) hs;subst ex;obtain rfl:u=Value.ref a:=rx;exact Gr hu I3 g ry rv λs4 I4=>⟨U,H4,I4,q3⟩
end
theorem Gw (h:Heap)(hb:sysModules<h.objs.size):ObjOk P w H (h.push { cls:= .type "dict",data:= .dict #[] }) h.objs.size (.dK []) :=
 ⟨yi _,beq_eq_false_iff_ne.mpr (Ne.symm (yL hb)),[],.nil,Heap.DictOf.new h⟩
def YT:TE:=λ_ H Q=>∀ p,H p=none->Q (.ref p) (j3 H p (.dK []))
section
variable {X:Cx}{pos:Pos}
theorem Po:PE X (.Dict [] [] pos) YT:=λpins s U H Q I h =>
 wpAny_Dict_empty ⟨.ref s.heap.objs.size,_,I.laid (a:=s.heap.objs.size) (o:= .dK []) (t':=s.toks) (λ_ _ q=>yT _ q) (yS _) (Gw s.heap I.big),rfl,h _ (I.hok.fresh (yS _))⟩
end
end L2
namespace Att
open PySem PySem.W PySem.Calls PyProof.Rows
variable{P:Params}{h:Heap}{l:OpenLaw}{n:Nat}
theorem Km :∀(ns:List Int)(vs:List Value),WellAll P h vs (ns.map WData.int)->IntsAre vs ns:=by
 intro ns
 induction ns with
 |nil=>intro vs w;rw [List.map_nil] at w;cases w;exact .nil
 |cons n ns ih =>
  intro vs w;rw [yP] at w;cases w with
  |cons a b=>cases a;exact .cons _ _ (ih _ b)
theorem CW (hn:l.most=some n){args:List WData}{vals:List Value}(hpre:l.row.toRowW.claim.pre args=true)(hwl:WellAll P h vals args):∃ a vs ns,vals=[Value.ref a]/\args=[WData.list (ns.map WData.int)]/\h.get? a=some { cls:= .type "list",data:= .seq vs.toArray }/\IntsAre vs ns/\ns.length<=n:=by
 have hsh:WShape.hasAll [] args [.list .int]=true:=(pre_splitW hpre).1;have hc:l.pre.holds [] { args:=args }=true:=(pre_splitW hpre).2;obtain ⟨d,r,rfl,h1,h2⟩:=hasAllW_cons hsh;obtain rfl:=hasAllW_nil h2;obtain ⟨xs,rfl,h3⟩:=hasW_list h1;obtain ⟨ns,rfl⟩:=items_int h3;have hlen:ns.length<=n:=by
  unfold OpenLaw.pre at hc;have h4:(WTm.not (.lt (.lit (.int (n:Int))) (.len (.arg 0)))).holds [] { args:=[.list (ns.map .int)] }=true:=by have h4:=(holds_andW hc).1;rw [hn] at h4;exact h4
  have h5:=condW_of h4 (w_not (w_lt w_lit (w_len_list (w_arg rfl))));rw [yZ] at h5;refine Nat.le_of_not_lt λq=>?_;have q':(n:Int)<((ns.length:Nat):Int):=by omega
  first
   |(rw [ym q'] at h5;exact absurd h5 (by decide))
   |(simp at h5;omega)
 cases hwl with
 |cons w1 w2 =>
  cases w2;cases w1 with
  |list ho hall=>exact ⟨_,_,ns,rfl,rfl,ho,Km ns _ hall,hlen⟩
theorem PN (l:OpenLaw)(args:List WData):l.row.toRowW.claim.post args (.bool true) args=true :=
 postW_of (r:=l.row.toRowW) (X:=(true==true))
  (show WShape.has [] (.bool true) .bool=true by first|rfl|decide|simp [WShape.has,WShape.arms,WShape.armsAll])
  (show (WTm.eq .res (.lit (.bool true))).value [] { args:=args,res:=some (.bool true),after:=args }=some (.bool (true==true)) from w_eq_bool (w_res rfl) w_lit) rfl
theorem attach_call {q:Program}{loose:List Str}{XP:(Str->Option Value)->Heap->Prop}{YP:World->Heap->Prop}{d:DefRec}(hn:l.most=some n)(hdf:d.params.defaults=[])(call:∀ (w:World) (s₀ s₁:Shared) (mg mb:Str->Option Value) (fa:Addr) (o:Obj) (pm cd doc:Value) (a:Addr) (vs:List Value) (ns:List Int), Ground q loose [] XP w s₀ mg mb s₁.heap->YP w s₁.heap -> s₁.heap.get? fa=some o->o.data = .func (docDef d.name d.params d.body d.scope pm cd doc)->s₁.heap.CodeRec cd d.name->mg d.name=some (.ref fa) -> s₁.heap.get? a=some { cls:= .type "list",data:= .seq vs.toArray }->IntsAre vs ns->ns.length<=n->s₁.gens=#[] -> codeAny (model l.prog w) callerA (.call (.ref fa) ⟨[.ref a],[]⟩) (λr s'=>r = .ok (.ret (.bool true))/\OldK s₁.heap s'.heap/\s'.os=s₁.os/\AllBare s'.gens) s₁):WalkO q loose XP YP l.row.toRowW d [] (λf vs=>PySem.call f vs):=by intro w s₀ s₁ mg mb G Y fa o pm cd doc dV kV ho hd hcd hD hmg hg args vals as hpre hlay hrd hwl hlo;obtain rfl:dV = .none:=Dflts.none hD hdf;obtain rfl:kV = .none:=Dflts.noKw hD;obtain ⟨a,vs,ns,rfl,rfl,hobj,hints,hlen⟩:=CW hn hpre hwl;refine enter_call (codeAny_mono (call w s₀ s₁ mg mb fa o pm cd doc a vs ns G Y ho (fd_plain hd) hcd hmg hobj hints hlen hg) λr s' hq=>?_);obtain ⟨rfl,h2,h3,h4⟩:=hq;exact ⟨.inl ⟨.bool true,.bool true,[],rfl,λ_=>rfl,.bool true,PN l _,λ_=>⟨List.Pairwise.nil,λ_ hm=>(nomatch hm)⟩⟩,h2,h3,h4⟩
end Att
namespace L2
open PySem PySem.Spec PyProof.Rows
variable{K:Fg}{a f:Addr}{fd:FuncData}{qual x:Str}{sp:Sp}{n:Nat}{st:Stmt}{ps:List Str}{A B:Prop}{H H':Hp}
theorem Uk:∀{vs:List Value}{ns:List Int},IntsAre vs ns->Vals (ns.map V.int) vs
 |_,_,.nil=> .nil
 |_,_,.cons n t h=> .cons ⟨t,rfl⟩ (Uk h)
def Only (H:Hp):Prop:=∀ b,H b=none∨(∃ o xs,H b=some (.frz o (.lst xs)))∨∃ p∈TABS,p.1=b/\H b=some (.tbl p.2.1 p.2.2)
structure vc (K:Fg)(h:Heap):Prop where
 at_:∀ p∈TABS,h.get? p.1=some { cls:= .none,data:= .fields p.2.1 }
 tri:∀ p∈TABS,TriplesOk p.2.1.toList
 non:∀ p∈TABS,∀ q∈p.2.2,codeAmong q.1 p.2.1.toList=none
 tab:∀ p∈TABS,isCodeTable h p.1
 one:∀ p∈TABS,∀ q∈TABS,p.1=q.1->p=q
 out:∀ p∈TABS,K.lookup p.1=none
def xL:Hp:=λb=>(TABS.find? λp=>p.1==b).map λp=> .tbl p.2.1 p.2.2
theorem Xd {b:Addr}{u:HO}(h:xL b=some u):∃ p∈TABS,p.1=b/\u = .tbl p.2.1 p.2.2:=by unfold xL at h;obtain ⟨p,e,r⟩:=yG.mp h;exact ⟨p,List.mem_of_find?_eq_some e,by have:=List.find?_some e;simpa using this,r.symm⟩
theorem Ua {h:Heap}(T:vc K h){p:Addr×Array Value×List (Pos×Str)}(hp:p∈TABS):xL p.1=some (.tbl p.2.1 p.2.2):=by
 unfold xL;cases e:TABS.find? λq=>q.1==p.1 with
 |none=>exact absurd (List.find?_eq_none.mp e p hp) (by simp)
 |some q =>
  have e1:q.1=p.1:=by have:=List.find?_some e;simpa using this
  rw [T.one q (List.mem_of_find?_eq_some e) p hp e1];rfl
theorem KK {P:Program}{w:World}{mg mb:Str->Option Value}{CX:CXT}{k:Nat}{fa:Addr}{s₁:Shared}{vs:List Value}{ns:List Int}(KX:K.In s₁.heap)(T:vc K s₁.heap)(hns:s₁.heap.Ns mainGlobals mg)(hb:s₁.heap.Ns builtinsNs mb)(hbb:∀ x:Str,x ≠ "__name__"->mb x=bootBuiltins x)(hlim:s₁.heap.NoLimit)(hbm:∃ bm ob,mg "__builtins__"=some (.ref bm)/\bm≠builtinsNs/\s₁.heap.get? bm=some ob/\ob.cls = .type "module"/\ob.dict=some builtinsNs/\ob.data = .plain)(hg:s₁.gens=#[])(ha:s₁.heap.get? a=some { cls:= .type "list",data:= .seq vs.toArray })(hi:IntsAre vs ns)(hl:ns.length<=sizeLine)(hr:Room k callerA)(F:∀ base:Heap,K.In base->base.Ns mainGlobals mg->FnOk P w K mg base CX k fa fd [x] sp)(hbind:∀ (s:Shared) (u:Value),BindsTo s fd ⟨[u],[]⟩ [(x,u)])(hsp:∀ H:Hp,Only H->SqL K H a (ns.map V.int)->sp [.ref a] H (λv _=>v = .bl true) λ_ _ _=>False)(hCX:∀ H e s',CX [] H s₁ (λ_ _ _=>False) e s'->False):codeAny (model P w) callerA (.call (.ref fa) ⟨[.ref a],[]⟩) (λr s'=>r = .ok (.ret (.bool true))/\OldK s₁.heap s'.heap/\s'.os=s₁.os/\AllBare s'.gens) s₁:=by
 have rv:=Uk hi;have lenV:=hi.length;have naT:∀ p∈TABS,p.1≠a:=λp hp z=>by
  have e:=T.at_ p hp;rw [z,ha] at e;cases e
 have core:∀ H:Hp,Only H->SqL K H a (ns.map V.int)->HOk P w H s₁.heap->(∀ b,H b≠none->b=a∨∃ p∈TABS,p.1=b)->(∀ b,H b≠none->K.lookup b=none)->(∀ p∈TABS,H p.1=some (.tbl p.2.1 p.2.2)) ->
   codeAny (model P w) callerA (.call (.ref fa) ⟨[.ref a],[]⟩) (λr s'=>r = .ok (.ret (.bool true))/\OldK s₁.heap s'.heap/\s'.os=s₁.os/\AllBare s'.gens) s₁:=by
  intro H hO hS hok hA hK hT;have base_of:∀{b:Addr}{o:Obj},s₁.heap.get? b=some o->H b=none->(zy s₁.heap H).get? b=some o:=λe n=>GX e n;have noA:∀{b:Addr}{o:Obj}{es:Array DictEntry}{ep:Nat},s₁.heap.get? b=some o->o.data = .dict es ep->H b=none:=λ{b o es ep} e d=>by
   cases q:H b with
   |none=>rfl
   |some u =>
    rcases hA b (by rw [q];simp) with e'|⟨p,hp,e'⟩
    ·subst e';rw [ha] at e;cases e;have d':Data.seq vs.toArray _=Data.dict es ep:=d;cases d'
    ·subst e';rw [T.at_ p hp] at e;cases e;have d':Data.fields p.2.1=Data.dict es ep:=d;cases d'
  have nsK:∀{b:Addr}{m:Str->Option Value},s₁.heap.Ns b m->(zy s₁.heap H).Ns b m:=λ{b m} ⟨o,es,ep,e,d,r⟩=>⟨o,es,ep,base_of e (noA e d),d,r⟩;have hKb:K.In (zy s₁.heap H):=λb o e=>base_of (KX b o e) (by
   cases q:H b with
   |none=>rfl
   |some u=>rw [hK b (by rw [q];simp)] at e;cases e)
  have noP:∀{b:Addr}{o:Obj},s₁.heap.get? b=some o->o.data = .plain->H b=none:=λ{b o} e d=>by
   cases q:H b with
   |none=>rfl
   |some u =>
    rcases hA b (by rw [q];simp) with e'|⟨p,hp,e'⟩
    ·subst e';rw [ha] at e;cases e;have d':Data.seq vs.toArray _=Data.plain:=d;cases d'
    ·subst e';rw [T.at_ p hp] at e;cases e;have d':Data.fields p.2.1=Data.plain:=d;cases d'
  have hM:Mod K mg (zy s₁.heap H):=⟨hKb,nsK hns,⟨mb,nsK hb,hbb⟩,let ⟨mc,h1,h2⟩:=hlim;⟨mc,nsK h1,h2⟩,let ⟨bm,ob,b1,b2,b3,b4,b5,b6⟩:=hbm;⟨bm,ob,b1,b2,base_of b3 (noP b3 b6),b4,b5,b6⟩⟩;have e0:Env0 P w K mg (zy s₁.heap H) callerA [] s₁ H:=⟨rfl,hM,λb o e=>Be e,Nat.le_of_eq (GY _ _),trivial,λb hb=>absurd (show b∈([]:List Addr) from hb) (by simp),hok,.of_eq hg,hT⟩;refine codeAny_mono ((F _ hKb (nsK hns)).run callerA [] s₁ H ⟨[.ref a],[]⟩ [.ref a] [.ref a] _ _ hr e0 (hbind s₁ (.ref a)) (.cons rfl .nil) (hsp H hO hS)) λr s' h=>?_;cases r with
  |error e=>exact (hCX H e s' h).elim
  |ok fl =>
   cases fl with
   |next=>exact False.elim h
   |brk=>exact False.elim h
   |cont=>exact False.elim h
   |ret u =>
    obtain ⟨v,H',os,bare,un,hok',r',q⟩:=h;have q':v = .bl true:=q;subst q';obtain rfl:u=Value.bool true:=r';refine ⟨rfl,⟨λb o e=>?_,λb o e=>un.there b o e (by simp)⟩,os,bare⟩;rcases hO b with z|⟨ob,xs,z⟩|⟨p,hp,rfl,z⟩
    ·exact .inl (un.keep b o e z (by intro z;exact absurd (show b∈([]:List Addr) from z) (by simp)) (by simp))
    ·have z2:=un.frzs b ob _ z;obtain ⟨e1,_⟩:=hok b _ z;obtain ⟨e2,_⟩:=hok' b _ z2;rw [e] at e1;cases e1;exact .inl e2
    ·have z2:=un.tbls p.1 _ _ z;obtain ⟨more,e2,_⟩:=hok' p.1 _ z2;rw [T.at_ p hp] at e;cases e;exact .inr (.inl ⟨T.tab p hp,rfl,p.2.1,more,rfl,e2⟩)
 have tok:∀{H:Hp}{p:Addr×Array Value×List (Pos×Str)},p∈TABS->ObjOk P w H s₁.heap p.1 (.tbl p.2.1 p.2.2):=λ{H p} hp =>
  ⟨#[],by rw [Array.append_empty];exact T.at_ p hp,by rw [Array.append_empty];exact T.tri p hp,λq hq=> .inl (by rw [Array.append_empty];exact T.non p hp q hq)⟩
 have only:∀ b,xL b=none∨(∃ o xs,xL b=some (.frz o (.lst xs)))∨∃ p∈TABS,p.1=b/\xL b=some (.tbl p.2.1 p.2.2):=λb=>by
  cases q:xL b with
  |none=>exact .inl rfl
  |some u=>obtain ⟨p,hp,e1,rfl⟩:=Xd q;exact .inr (.inr ⟨p,hp,e1,rfl⟩)
 have mine:∀ b,xL b≠none->∃ p∈TABS,p.1=b:=λb z=>by
  cases q:xL b with
  |none=>exact absurd q z
  |some u=>obtain ⟨p,hp,e1,_⟩:=Xd q;exact ⟨p,hp,e1⟩
 cases hk:K.lookup a with
 |some o =>
  have e:=KX a o hk;rw [ha] at e;cases e;refine core xL only (.inr ⟨_,vs.toArray,_,hk,rfl,rfl,rfl,by rw [yY,lenV];exact hl,by simpa using rv⟩) (λb u z=>?_) (λb z=> .inr (mine b z)) (λb z=>?_) λp hp=>Ua T hp
  ·obtain ⟨p,hp,rfl,rfl⟩:=Xd z;exact tok hp
  ·obtain ⟨p,hp,rfl⟩:=mine b z;exact T.out p hp
 |none =>
  refine core (λb=>if b=a then some (.frz { cls:= .type "list",data:= .seq vs.toArray } (.lst (ns.map V.int))) else xL b) (λb=>?_) (.inl (.inr ⟨{ cls:= .type "list",data:= .seq vs.toArray },if_pos rfl⟩)) (λb u z=>?_) (λb z=>?_) (λb z=>?_) λp hp=>?_
  ·by_cases hb:b=a
   ·exact .inr (.inl ⟨_,_,if_pos hb⟩)
   ·rcases only b with z|⟨o,xs,z⟩|⟨p,hp,e1,z⟩
    ·exact .inl ((if_neg hb).trans z)
    ·exact .inr (.inl ⟨o,xs,(if_neg hb).trans z⟩)
    ·exact .inr (.inr ⟨p,hp,e1,(if_neg hb).trans z⟩)
  ·by_cases hb:b=a
   ·have z':=(if_pos hb).symm.trans z;cases z';subst hb;exact ⟨ha,by rw [yZ];exact hl,vs,_,rv,ha⟩
   ·have z':=(if_neg hb).symm.trans z;obtain ⟨p,hp,rfl,rfl⟩:=Xd z';exact tok hp
  ·by_cases hb:b=a
   ·exact .inl hb
   ·exact .inr (mine b λq=>z ((if_neg hb).trans q))
  ·by_cases hb:b=a
   ·rw [hb];exact hk
   ·obtain ⟨p,hp,rfl⟩:=mine b λq=>z ((if_neg hb).trans q);exact T.out p hp
  ·exact (if_neg (naT p hp)).trans (Ua T hp)
theorem DN {l:PySem.W.OpenLaw}{k:Nat}{q:Program}{loose:List Str}{XP:(Str->Option Value)->Heap->Prop}{YP:World->Heap->Prop}{d:DefRec}{K:Params->Fg}{CX:World->CXT}{sp:World->Sp}(hn:l.most=some n)(hn2:n<=sizeLine)(hdf:d.params.defaults=[])(hr:Room k callerA)(hY:∀(w:World)(h:Heap),YP w h->(K w.params).In h)(F:∀(w:World)(mg:Str->Option Value)(fa:Addr)(h:Heap),YP w h->(K w.params).In h->h.Ns mainGlobals mg->mg d.name=some (.ref fa) -> ∃ fd:FuncData,(∀(s:Shared)(u:Value),BindsTo s fd ⟨[u],[]⟩ [(x,u)])/\vc (K w.params) h /\ ∀ base:Heap,(K w.params).In base->base.Ns mainGlobals mg->FnOk l.prog w (K w.params) mg base (CX w) k fa fd [x] (sp w))(hsp:∀(w:World)(H:Hp)(a:Addr)(ns:List Int),ns.length<=n->Only H->SqL (K w.params) H a (ns.map V.int)->sp w [.ref a] H (λv _=>v = .bl true) λ_ _ _=>False)(hCX:∀(w:World)(H:Hp)(s:Shared)(e:Value)(s':Shared),CX w [] H s (λ_ _ _=>False) e s'->False):PySem.W.WalkO q loose XP YP l.row.toRowW d [] (λf vs=>PySem.call f vs):=by refine Att.attach_call hn hdf λw s₀ s₁ mg mb fa o pm cd doc a vs ns G Y ho hd hcd hmg hobj hints hlen hg=>?_;have KX:=hY w _ Y;obtain ⟨fd,hb,hT,hF⟩:=F w mg fa _ Y KX G.T.g hmg;exact KK KX hT G.T.g G.T.b G.T.builtins G.T.nolimit G.T.bmain hg hobj hints (yh hlen hn2) hr hF hb (λH hO hS=>hsp w H a ns hlen hO hS) λH e s'=>hCX w H s₁ e s'
def vk (s:Stmt)(j:Nat):Stmt:=match s with
 | .ClassDef _ _ _ body _ _ _ _ _ _ _=>body.getD j (.Pass ⟨0,0,0,0⟩)
 |_=> .Pass ⟨0,0,0,0⟩
def xN (s:Stmt):Arguments:=match s with
 | .FunctionDef _ a _ _ _ _ _ _ _ _=>a
 |_=>{ posonlyargs:=[],args:=[],vararg:=none,kwonlyargs:=[],kw_defaults:=[],kwarg:=none,defaults:=[] }
def i0 (s:Stmt):List Stmt:=match s with
 | .FunctionDef _ _ b _ _ _ _ _ _ _=>b
 |_=>[]
def j5 (s:Stmt):Scope:=match s with
 | .FunctionDef _ _ _ _ _ _ sc _ _ _=>sc
 |_=>{ kind:= .function,names:=[],isGenerator:=false,isCoroutine:=false }
abbrev v3:CXT:=λ_ _ _ _ _ _=>False
abbrev E0:XK:=λ_ _ _=>False
theorem wD {X:Cx}:zm v3 X E0:=λ_ _ _ _ _ _ _ h=>h.elim
structure Fun (K:Fg)(x qual:Str)(st:Stmt)(f:Addr)(fd:FuncData):Prop where
 ex:∃(oc:Value)(od:Option Addr)(kV doc pm:Value)(an:Option Addr)(cdv ct:Value)(osl:Array (Option Value)),
  fd=PySem.W.fnOf x qual (xN st) (i0 st) (j5 st) .none kV doc pm an cdv ct/\K.lookup f=some ⟨oc,od,.func fd,osl⟩/\PySem.W.codeIn K cdv qual=true
 kp:PySem.W.keepIn K (.ref f)=true
section
variable {P:Program}{w:World}{K:Fg}{mg:Str->Option Value}{base:Heap}
theorem Fun.ok {N:List Str}{k:Nat}(F:Fun K x qual st f fd)(S:w5 N ps (j5 st))(len:∀ vs H Q E,sp vs H Q E->vs.length=ps.length)(hbody:∀(cdv:Value)(A:Around)(outer:List Env)(s:Shared)(H:Hp)(vs:List V)(Q:VK)(E:XK),Room k (A.deeper (envOfC qual (j5 st) s.heap.objs.size f cdv))->sp vs H Q E -> ∃ t,PSs (ql v3 P w K mg base N qual (j5 st) f cdv A outer s H E).nox (i0 st) t/\t { nx:=λ_ H'=>Q .non H',rt:=Q } (start N vs) H):FnOk P w K mg base v3 (k+1) f fd ps sp:=by obtain ⟨oc,od,kV,doc,pm,an,cdv,ct,osl,rfl,lk,hcd⟩:=F.ex;refine XH lk hcd S len λA outer s H vs Q E hr hsp=>?_;obtain ⟨t,h,q⟩:=hbody cdv A outer s H vs Q E hr hsp;exact ⟨t,h.nox,q⟩
theorem Fun.binds (F:Fun K x qual st f fd)(h:∀(kV doc pm:Value)(an:Option Addr)(cdv ct:Value)(us:List Value),us.length=ps.length->bindArgs (PySem.W.fnOf x qual (xN st) (i0 st) (j5 st) .none kV doc pm an cdv ct) ⟨us,[]⟩=pure (ps.zip us)):Binds K fd ps []:=by obtain ⟨oc,od,kV,doc,pm,an,cdv,ct,osl,rfl,lk,hcd⟩:=F.ex;exact .all (h kV doc pm an cdv ct)
theorem jz {oc:Value}{od an:Option Addr}{osl:Array (Option Value)}{kV doc pm cdv ct:Value}(l:K.lookup f=some ⟨oc,od,.func (PySem.W.fnOf x qual (xN st) (i0 st) (j5 st) .none kV doc pm an cdv ct),osl⟩)(c:PySem.W.codeIn K cdv qual=true)(k:PySem.W.keepIn K (.ref f)=true):Fun K x qual st f (PySem.W.fnOf x qual (xN st) (i0 st) (j5 st) .none kV doc pm an cdv ct):=⟨⟨oc,od,kV,doc,pm,an,cdv,ct,osl,rfl,l,c⟩,k⟩
end
theorem Qr {A:Around}{k:Nat}(hr:Room k A):A.units+1<cLine:=Nat.lt_of_le_of_lt (Nat.add_le_add_left (by decide:1<=64) _) hr.units
theorem wL (h:n<=1000):n<sizeLine:=Nat.lt_of_le_of_lt h (by decide)
section
variable {X:Cx}
theorem pv (i:Nat){pos:Pos}(hN:X.N[i]?=some x:=by rfl)(hv:Vis X.env.scope x:=by first|exact Or.inl rfl|exact Or.inr (Or.inl rfl)|exact Or.inr (Or.inr rfl))(hd:(x==("__debug__":Str))=false:=by decide)(hcd:(x==("__classdict__":Str))=false:=by decide):PE X (.Name x pos) (qu i):=Pt hN hv hd hcd
theorem UZ:CallR X (.builtin "len") (λxs H Q=>∃ a kvs,xs=[V.ref a]/\H a=some (.dK kvs)/\Q (.int kvs.length) H):=by intro pins s U H xs us Q I r h;obtain ⟨a,kvs,rfl,ha,q⟩:=h;obtain ⟨u,rfl,ru⟩:=jo r;cases ru;exact d_len I (.inl ha) λt s' I'=>⟨.int kvs.length,H,I',⟨t,rfl⟩,q⟩
end
theorem qV (h:B):if false=true then A else B:=by rw [if_neg yX];exact h
theorem qW (h:A):if true=true then A else B:=by rw [if_pos rfl];exact h
theorem ite2 {c:Prop}[Decidable c](h1:c->A)(h2:¬ c->B):if c then A else B:=by
 by_cases h:c
 ·rw [if_pos h];exact h1 h
 ·rw [if_neg h];exact h2 h
def Same (H H':Hp):Prop:=∀ b o,H b=some o->H' b=some o
theorem Same.refl (H:Hp):Same H H:=λ_ _ h=>h
theorem Same.trans {H1 H2:Hp}(a:Same H H1)(b:Same H1 H2):Same H H2:=λc o h=>b c o (a c o h)
theorem Same.free (e:Same H H'){l:Addr}(h:H' l=Option.none):H l=Option.none:=by
 cases q:H l with
 |none=>rfl
 |some o=>rw [e l o q] at h;cases h
theorem Same.seq {xs:List V}(e:Same H H')(h:SqL K H a xs):SqL K H' a xs:=by
 rcases h with (h|⟨o,h⟩)|h
 ·exact .inl (.inl (e _ _ h))
 ·exact .inl (.inr ⟨o,e _ _ h⟩)
 ·exact .inr h
end L2
set_option maxHeartbeats 4000000
set_option synthInstance.maxHeartbeats 4000000
set_option synthInstance.maxSize 4096
namespace L2
open PySem PySem.Spec PyProof.Rows
variable{c elt iter tg:Expr}{ifs:List Expr}{scope:Scope}{pos:Pos}{env:Env}{X:Cx}{o:Option V}{U:St}{g:TG}{tt:TT}{te:TE}{wi:TI}{K:Fg}
section
variable {prog:Program}{w:World}{A:Around}{R:Result->Shared->Prop}{s:Shared}
theorem Gh {target:Expr}{it acc:Value}(I:Nat->Shared->Prop)
  (turn:∀ n s,I n s->wpAny (model prog w) A (pyNext it) (λr s₁=>match r with
   |none=>R (.ok .next) s₁
   |some v=>wpAny (model prog w) A (letOwnedTupleGo target it v) (λ_ s₀=>wpAny (model prog w) A (assign target env v) (λ_ s₂ =>
     wpAny (model prog w) A (forIn ifs true λc r=>if r=true then do let ok <- isTrue c env (eval c env);pure (ForInStep.yield ok) else pure (ForInStep.yield r)) (λok s₃ =>
      if ok=true then wpAny (model prog w) A (eval elt env) (λx s₄ =>
       wpAny (model prog w) A (call (.builtin "list.append") [acc,x]) (λ_ s₅=>∃ m,m<n/\I m s₅) (λ_ _=>False) s₄) (λ_ _=>False) s₃
      else ∃ m,m<n/\I m s₃) (λ_ _=>False) s₂) (λ_ _=>False) s₀) (λ_ _=>False) s₁) (λ_ _=>False) s)
  (n:Nat) (h:I n s) :
  codeAny (model prog w) A (.compLoop (.ListComp elt [⟨target,iter,ifs,0⟩] scope pos) 0 it acc env) R s:=by
 refine codeAny_loop rfl I (λn s hI=>?_) n h;show wpAny _ A ((compTurn (.ListComp elt [⟨target,iter,ifs,0⟩] scope pos) 0 it acc env).onRaise (λx=>do noteFrame x env;theTreesLotGoes x)) _ _ s;refine wpAny_noted (wpAny_noRaise ?_);rw [compTurn_list];refine yU (wpAny_standAt (yU (z6 (turn n s hI) λr s₁ h₁=>?_)));cases r with
 |none=>exact yD h₁
 |some v =>
  refine yU (z6 h₁ λ_ s₀ h₀=>?_);refine yU (z6 h₀ λ_ s₂ h₂=>yU (z6 h₂ λok s₃ h₃=>?_));cases ok with
  |false=>exact yD ⟨rfl,h₃⟩
  |true=>exact yU (yU (z6 h₃ λx s₄ h₄=>yU (z6 h₄ λ_ s₅ h₅=>yD (yD ⟨rfl,h₅⟩))))
end
theorem Wl {α β:Type}{f:α->β->Sem (ForInStep β)}(g:α->β->β):∀(l:List α)(b:β),(∀ a∈l,∀ b,f a b=pure (.yield (g a b)))->forIn l b f=(pure (l.foldl (λb a=>g a b) b):Sem β)
 |[],_,_=>rfl
 |x::l,b,h=>by
  rw [List.forIn_cons,h x yV,pure_bind];exact Wl g l (g x b) λy hy=>h y (yW _ hy)
def zq (env:Env)(y:Str×NameKind)(cs:List (Str×Addr)):List (Str×Addr):=if y.2 == .free then (y.1,(env.cells.lookup y.1).getD 0)::cs else cs
theorem VQ (env:Env):∀(l:List (Str×NameKind))(cs:List (Str×Addr)),(∀ y∈l,y.2 = .free->∃ c,env.cells.lookup y.1=some c)->(∀ x c,cs.lookup x=some c->env.cells.lookup x=some c) -> (∀ x c,(l.foldl (λb a=>zq env a b) cs).lookup x=some c->env.cells.lookup x=some c)
 |[],_,_,h=>h
 |(n,k)::l,cs,hl,h=>by
  refine VQ env l _ (λy hy=>hl y (yW _ hy)) λx c e=>?_;unfold zq at e
  dsimp only at e
  cases hk:(k==NameKind.free) with
  |false=>rw [hk,if_neg yX] at e;exact h x c e
  |true =>
   rw [hk,if_pos rfl] at e;obtain ⟨c0,e0⟩:=hl (n,k) yV (by simpa using hk);cases hx:x==n with
   |true =>
    rw [yb,hx] at e;have hx':x=n:=by simpa using hx
    subst hx';have e':(List.lookup x env.cells).getD 0=c:=Option.some.inj e;have e0':List.lookup x env.cells=some c0:=e0;rw [e0'] at e';rw [e0',<- e'];rfl
   |false=>rw [yb,hx] at e;exact h x c e
theorem VR (env:Env)(x:Str):∀(l:List (Str×NameKind))(cs:List (Str×Addr)),(∃ c,cs.lookup x=some c)->∃ c,(l.foldl (λb a=>zq env a b) cs).lookup x=some c
 |[],_,h=>h
 |(n,k)::l,cs,h=>by
  refine VR env x l _ ?_;unfold zq
  dsimp only
  split
  ·rw [yb];cases hx:x==n with
   |true=>exact ⟨_,rfl⟩
   |false=>exact h
  ·exact h
theorem VP (env:Env):∀(l:List (Str×NameKind))(cs:List (Str×Addr)),∀ y∈l,y.2 = .free->∃ c,(l.foldl (λb a=>zq env a b) cs).lookup y.1=some c
 |[],_,_,h,_=>nomatch h
 |z::l,cs,y,h,hf=>by
  rcases yK.mp h with e|h
  ·subst e;refine VR env y.1 l _ ?_;unfold zq
   dsimp only
   rw [hf,if_pos (by rfl),yb,beq_self_eq_true];exact ⟨_,rfl⟩
  ·exact VP env l _ y h hf
theorem VS (h:∀ y∈scope.names,y.2 = .free->∃ c,env.cells.lookup y.1=some c):∃ cl,closureFor scope env=pure cl/\(∀ x c,cl.lookup x=some c->env.cells.lookup x=some c)/\∀ y∈scope.names,y.2 = .free->∃ c,cl.lookup y.1=some c:=by
 refine ⟨scope.names.foldl (λb a=>zq env a b) [],?_,VQ env _ _ h (λx c e=>by cases e),VP env _ _⟩;simp only [closureFor];rw [Wl (zq env) scope.names [] (λy hy b=>?_)]
 ·rfl
 ·obtain ⟨n,k⟩:=y;unfold zq;cases hk:(k==NameKind.free) with
  |false=>simp only [hk,Bool.false_eq_true,if_false]<;>rfl
  |true=>obtain ⟨c,e⟩:=h (n,k) hy (by simpa using hk);have e':List.lookup n env.cells=some c:=e;simp only [hk,if_true,cellOf,e'];rfl
theorem Yx (env:Env)(n:Str)(k:NameKind)(r:List (Str×NameKind))(x:Str):((List.map (λ(n,k)=>if (k==NameKind.free&&env.scope.kind == .function&&env.kindOf n==some .cell) then (n,NameKind.cell) else (n,k)) ((n,k)::r)).lookup x) = (if x==n then some (if (k==NameKind.free&&env.scope.kind == .function&&env.kindOf n==some .cell) then NameKind.cell else k) else (List.map (λ(n,k)=>if (k==NameKind.free&&env.scope.kind == .function&&env.kindOf n==some .cell) then (n,NameKind.cell) else (n,k)) r).lookup x):=by
 rw [yP];show List.lookup x ((if (k==NameKind.free&&env.scope.kind == .function&&env.kindOf n==some .cell)=true then (n,NameKind.cell) else (n,k))::_)=_;by_cases hc:(k==NameKind.free&&env.scope.kind == .function&&env.kindOf n==some .cell)=true
 ·rw [if_pos hc,if_pos hc,yb];cases x==n<;>rfl
 ·rw [if_neg hc,if_neg hc,yb];cases x==n<;>rfl
theorem Yz {env:Env}{x:Str}{k:NameKind}:∀{names:List (Str×NameKind)}, (names.map λ(n,k)=>if (k==NameKind.free&&env.scope.kind == .function&&env.kindOf n==some .cell) then (n,NameKind.cell) else (n,k)).lookup x=some k -> ∃ k',names.lookup x=some k'/\(k'=k∨(k' = .free/\k = .cell))
 |[],h=>by simp at h
 |(n,q)::r,h=>by
  rw [Yx] at h;rw [yb];cases hx:x==n with
  |true =>
   rw [hx,if_pos rfl] at h;have h':=Option.some.inj h;refine ⟨q,rfl,?_⟩;by_cases hc:(q==NameKind.free&&env.scope.kind == .function&&env.kindOf n==some .cell)=true
   ·rw [if_pos hc] at h';have hq:(q==NameKind.free)=true:=by
     cases z:(q==NameKind.free) with
     |true=>rfl
     |false=>rw [z] at hc;simp at hc
    exact .inr ⟨by simpa using hq,h'.symm⟩
   ·rw [if_neg hc] at h';exact .inl h'
  |false=>rw [hx,if_neg yX] at h;exact Yz h
theorem Yy {env:Env}{x:Str}:∀{names:List (Str×NameKind)},names.lookup x=some .free -> (names.map λ(n,k)=>if (k==NameKind.free&&env.scope.kind == .function&&env.kindOf n==some .cell) then (n,NameKind.cell) else (n,k)).lookup x=some .cell∨(names.map λ(n,k)=>if (k==NameKind.free&&env.scope.kind == .function&&env.kindOf n==some .cell) then (n,NameKind.cell) else (n,k)).lookup x=some .free
 |[],h=>by simp at h
 |(n,q)::r,h=>by
  rw [Yx];rw [yb] at h;cases hx:x==n with
  |true =>
   rw [hx] at h;have h':q = .free:=Option.some.inj h;rw [if_pos rfl];by_cases hc:(q==NameKind.free&&env.scope.kind == .function&&env.kindOf n==some .cell)=true
   ·rw [if_pos hc];exact .inl rfl
   ·rw [if_neg hc,h'];exact .inr rfl
  |false=>rw [hx] at h;rw [if_neg yX];exact Yy h
def u8 (cap:List (Option Nat))(U:St):St:=cap.map λo=>o.bind λi=>(U[i]?).join
structure jU (X:Cx)(N':List Str)(cap:List (Option Nat))(sc:Scope):Prop where
 kind:sc.kind = .function
 nocell:∀ y∈sc.names,y.2 ≠ .cell
 names:∀ y∈sc.names,y.2 = .local->sc.names.lookup y.1=some .local
 free:∀ y∈sc.names,y.2 = .free->X.env.kindOf y.1=some .cell∨X.env.kindOf y.1=some .free
 len:cap.length=N'.length
 cap:∀(j i:Nat),cap[j]?=some (some i)->∃ x,N'[j]?=some x/\X.N[i]?=some x/\sc.names.lookup x=some .free
def Wu:Option NameKind->Bool
 |some .cell=>true
 |some .free=>true
 |_=>false
theorem KI {k:Option NameKind}(h:Wu k=true):k=some .cell∨k=some .free:=by
 cases k with
 |none=>cases h
 |some k=>cases k<;>first|exact .inl rfl|exact .inr rfl|cases h
def QF (names:List (Str×NameKind))(kd:Str->Option NameKind)(y:Str×NameKind):Bool :=
 match y.2 with
 | .cell=>false
 | .local=>names.lookup y.1==some .local
 | .free=>Wu (kd y.1)
 |_=>true
def za (N:List Str)(sc:Scope):List Str->List (Option Nat)->Bool
 |[],[]=>true
 |_::r,none::c=>za N sc r c
 |x::r,some i::c=>N[i]?==some x&&(sc.names.lookup x==some .free&&za N sc r c)
 |_,_=>false
theorem Xu {N:List Str}{sc:Scope}:∀{xs:List Str}{c:List (Option Nat)},za N sc xs c=true->c.length=xs.length
 |[],[],_=>rfl
 |_::r,none::c,h=>by
  have h':za N sc r c=true:=h;simp [Xu h']
 |x::r,some i::c,h=>by
  have h':(N[i]?==some x&&(sc.names.lookup x==some .free&&za N sc r c))=true:=h;simp only [yp] at h';simp [Xu h'.2.2]
 |[],_::_,h=>by cases h
 |_::_,[],h=>by cases h
theorem Xt {N:List Str}{sc:Scope}:∀{xs:List Str}{c:List (Option Nat)},za N sc xs c=true->∀(j i:Nat),c[j]?=some (some i)->∃ x,xs[j]?=some x/\N[i]?=some x/\sc.names.lookup x=some .free
 |[],[],_,j,i,e=>by simp at e
 |_::r,none::c,h,0,i,e=>by simp at e
 |_::r,none::c,h,j+1,i,e=>by
  have h':za N sc r c=true:=h;obtain ⟨x,h1,h2⟩:=Xt h' j i (by simpa using e);exact ⟨x,by simpa using h1,h2⟩
 |x::r,some k::c,h,0,i,e=>by
  have h':(N[k]?==some x&&(sc.names.lookup x==some .free&&za N sc r c))=true:=h;simp only [yp] at h';have e':k=i:=by simpa using e
  subst e';exact ⟨x,rfl,by simpa using h'.1,by simpa using h'.2.1⟩
 |x::r,some k::c,h,j+1,i,e=>by
  have h':(N[k]?==some x&&(sc.names.lookup x==some .free&&za N sc r c))=true:=h;simp only [yp] at h';obtain ⟨x',h1,h2⟩:=Xt h'.2.2 j i (by simpa using e);exact ⟨x',by simpa using h1,h2⟩
 |[],_::_,h,_,_,_=>by cases h
 |_::_,[],h,_,_,_=>by cases h
theorem o4 {N':List Str}{cap:List (Option Nat)}{sc:Scope}(h1:sc.kind = .function)(h2:(sc.names.all λy=>QF sc.names X.env.kindOf y)=true)(h3:za X.N sc N' cap=true):jU X N' cap sc:=by
 have h2':=ya.mp h2;refine ⟨h1,λy hy e=>?_,λy hy e=>?_,λy hy e=>?_,Xu h3,Xt h3⟩
 ·have q:=h2' y hy;unfold QF at q;rw [e] at q;cases q
 ·have q:=h2' y hy;unfold QF at q;rw [e] at q;simpa using q
 ·have q:=h2' y hy;unfold QF at q;rw [e] at q;exact KI q
def qd (X:Cx)(N':List Str)(sc:Scope)(cl:List (Str×Addr))(C:Addr)(s:Shared)(H:Hp)(fp:List Addr)(pn:List (Addr×Obj)):Cx where
 prog:=X.prog
 w:=X.w
 K:=X.K
 mg:=X.mg
 base:=X.base
 A:=X.A
 N:=N'
 s₀:=s
 H₀:=H
 env:=compEnvC sc cl C X.env
 outer:=X.stack
 stack:=X.stack
 ex:=fp
 fn:=λ_=>false
 calm:=X.calm
 pn:=pn
 xe:=λ_ _=>False
section
variable {X:Cx}{pins:List (Addr×Obj)}{U:St}{H:Hp}{s:Shared}{h1:Heap}{N':List Str}{cap:List (Option Nat)}{sc:Scope}{cl:List (Str×Addr)}{fp:List Addr}{C D:Addr}
theorem Gm (I:Inv X pins U H s)(S:jU X N' cap sc)(hc1:∀ x c,cl.lookup x=some c->X.env.cells.lookup x=some c)(hc2:∀ y∈sc.names,y.2 = .free->∃ c,cl.lookup y.1=some c)(hf:∀ b∈fp,qH X pins H b)(ho:∀ b∈fp,b<s.heap.objs.size)(hC:s.heap.objs.size<=C):(qd X N' sc cl C s H fp (X.pn++pins)).Ok where
 mod:=I.ok.mod
 kind:=S.kind
 glob:=I.ok.glob
 blt:=I.ok.blt
 above:=hC
 inj:=λx y c e1 e2=>I.ok.inj x y c (hc1 x c e1) (hc1 y c e2)
 has:=λx hx=>by
  have key:∀ k,(relabel sc X.env).names.lookup x=some k->(k = .cell∨k = .free)->∃ c,cl.lookup x=some c:=λk e hk=>by
   obtain ⟨k',e',q⟩:=Yz e;have hm:=PySem.mem_of_lookup e';have hfree:k' = .free:=by
    rcases q with q|q
    ·rcases hk with z|z
     ·exact absurd (q.trans z) (S.nocell _ hm)
     ·exact q.trans z
    ·exact q.1
   exact hc2 (x,k') hm hfree
  rcases hx with e|e
  ·exact key _ e (.inl rfl)
  ·exact key _ e (.inr rfl)
 cab:=λx c hx _=>by cases hx
 hd:=I.ok.hd
 frames:=I.ok.frames
 stk:= .inl rfl
 exf:=λb hb=>⟨yL (yJ (ho b hb) hC),λx c e=>(hf b hb).2.2.2.2.1 x c (hc1 x c e)⟩
 bs:=I.bs
 bsz:=yh I.ok.bsz I.sz
 noex:=λb o e hb=>by
  rcases (hf b hb).2.2.2.1 with z|z
  ·exact I.ok.noex b o e z
  ·exact absurd (yJ (yR e) (yh I.ok.bsz z)) (uT _)
 exfs:=λb hb hz=>by
  rcases yK.mp (I.stkSub b hz) with e|e
  ·exact (hf b hb).2.1 e
  ·exact (hf b hb).2.2.1 e
 funs:=I.stack
 frf:=I.stkFree
 tbs:=λp hp=>I.base.tbls _ _ _ (I.ok.tbs p hp)
theorem Kn {m0:Str->Option Value}{o:Obj}(I:Inv X pins U H s)(S:jU X N' cap sc)(hc1:∀ x c,cl.lookup x=some c->X.env.cells.lookup x=some c)(hc2:∀ y∈sc.names,y.2 = .free->∃ c,cl.lookup y.1=some c)(hf:∀ b∈fp,qH X pins H b)(ho:∀ b∈fp,b<s.heap.objs.size)(hD:s.heap.objs.size<=D)(hC:D<C)(hDo:h1.get? D=some o)(hoc:∀ v,o.data ≠ .cell v)(hns:h1.Ns C m0)(hk:∀ b o,s.heap.get? b=some o->h1.get? b=some o)(t:Nat):Inv (qd X N' sc cl C s H fp (X.pn++pins)) [(D,o)] (u8 cap U) H { s with heap:=h1,toks:=t }:=by
 have hCs:s.heap.objs.size<=C:=yh hD (uY hC);have lt_s:∀ b o,s.heap.get? b=some o->b≠C:=λb o e=>yL (yJ (yR e) hCs);refine ⟨Gm I S hc1 hc2 hf ho hCs,rfl,I.bare,Un.kept hk,⟨m0,hns,λj x v e1 e2 e3=>?_⟩,λx c e=>?_,I.hok.fresh hCs,λx c e=>I.freeC x c (hc1 x c e),λp hp=>?_,I.hok.kept hk,?_⟩
 ·obtain ⟨i,hi,hσ⟩:∃ i,cap[j]?=some (some i)/\U[i]?=some (some v):=by
   unfold u8 at e2;rw [yQ] at e2;cases hc:cap[j]? with
   |none=>rw [hc] at e2;cases e2
   |some o' =>
    rw [hc] at e2;have e2':(o'.bind λi=>(U[i]?).join)=some v:=Option.some.inj e2;cases o' with
    |none=>cases e2'
    |some i =>
     refine ⟨i,rfl,?_⟩;have e3':(U[i]?).join=some v:=e2';cases hs:U[i]? with
     |none=>rw [hs] at e3';cases e3'
     |some q=>rw [hs] at e3';exact congrArg some e3'
  obtain ⟨x',n1,n2,n3⟩:=S.cap j i hi;have e1':N'[j]?=some x:=e1;rw [n1] at e1';obtain rfl:x'=x:=Option.some.inj e1';have hkd:=S.free (x',.free) (PySem.mem_of_lookup n3) rfl;obtain ⟨m,_,hl⟩:=I.loc;obtain ⟨u,r,l⟩:=hl i x' v n2 hσ (by
   rcases hkd with z|z
   ·exact .inr (.inl z)
   ·exact .inr (.inr z))
  refine ⟨u,r,?_⟩;rcases l with ⟨l1,_⟩|⟨_,c,ec,hcell⟩
  ·rcases hkd with z|z
   ·exact absurd (l1.symm.trans z) (by simp)
   ·exact absurd (l1.symm.trans z) (by simp)
  ·obtain ⟨c',ec'⟩:=hc2 (x',.free) (PySem.mem_of_lookup n3) rfl;have q:=hc1 x' c' ec';rw [ec] at q;obtain rfl:c=c':=Option.some.inj q;refine .inr ⟨Yy n3,c,ec',?_⟩;obtain ⟨oc,hoc',hd⟩:=hcell;exact ⟨oc,hk _ _ hoc',hd⟩
 ·obtain ⟨v,oc,hoc',hd⟩:=I.cell x c (hc1 x c e);exact ⟨v,oc,hk _ _ hoc',hd⟩
 ·rcases yA.mp hp with hp|hp
  ·obtain ⟨e,n,ne,nf,d⟩:=I.pin p hp;refine ⟨hk _ _ e,n,lt_s _ _ e,λhz=>?_,d⟩;rcases yK.mp (I.stkSub _ hz) with e'|e'
   ·exact ne e'
   ·exact nf e'
  ·have e:p=(D,o):=by simpa using hp
   subst e;refine ⟨hDo,I.hok.fresh hD,yL hC,λhz=>?_,hoc⟩;rcases yK.mp (I.stkSub _ hz) with e'|e'
   ·exact absurd (yJ I.lt hD) (by rw [show X.env.locals=D from e'.symm];exact uT _)
   ·exact I.nofs hD e'
 ·unfold u8;rw [yZ];exact S.len
end
structure Wk (U σ':St):Prop where
 len:U.length=σ'.length
 at':∀(i:Nat) v,U[i]?=some (some v)->σ'[i]?=some (some v)
theorem Wk.refl (U:St):Wk U U:=⟨rfl,λ_ _ h=>h⟩
theorem Wk.set {σ':St}{i:Nat}(w:Wk U σ')(h:U[i]?=some none):Wk U (σ'.set i o):=by
 refine ⟨by rw [yt];exact w.len,λj v e=>?_⟩;have ne:i≠j:=λz=>by rw [<- z,h] at e;cases e
 rw [yH ne];exact w.at' j v e
theorem Wk.one {i:Nat}(h:U[i]?=some none):Wk U (U.set i o):=(Wk.refl U).set h
def PTs (X:Cx)(ifs:List Expr)(t:TT):Prop :=
 ∀(pins:List (Addr×Obj))(s:Shared)(U:St)(H:Hp)(Q:Bool->Hp->Prop),Inv X pins U H s->t U H Q ->
  wpAny (model X.prog X.w) X.A (forIn ifs true λc r=>if r=true then do let ok <- isTrue c X.env (eval c X.env);pure (ForInStep.yield ok) else pure (ForInStep.yield r)) (TP X pins U Q) X.xe s
def tYes:TT:=λ_ H Q=>Q true H
theorem qi :PTs X [] tYes:=λ_ _ _ H _ I h=>wpAny_tests_nil ⟨H,I,h⟩
theorem Cb {t:TT}(h:PT X c t):PTs X [c] t:=λpins s U H Q I q=>wpAny_tests_one (h pins s U H Q I q)
def JF (J:It)(g:TG)(tt:TT)(te:TE)(Q:VK)(σ0:St)(H1:Hp):Prop:=∃ W:Nat->Nat->List V->Hp->Prop,(∃ m,W 0 m [] H1)/\∀ i m ys H,W i m ys H->ys.length<=sizeLine /\
  ((J.stop i H/\∀ D,H D=none->Q (.ref D) (j3 H D (.lst ys))) ∨
   (J.go i H/\∀ x H',J.yld i H x H'->g x σ0 H' λσ2 H2=>Wk σ0 σ2/\tt σ2 H2 λb H3 =>
      if b=true then te σ2 H3 λv H4=>∃ m',m'<m/\W (i+1) m' (ys++[v]) H4 else ∃ m',m'<m/\W (i+1) m' ys H3))
def vK (wi:TI)(g:TG)(tt:TT)(te:TE)(cap:List (Option Nat)):TE:=λU H Q=>wi U H λJ H1=>JF J g tt te Q (u8 cap U) H1
section
variable {X:Cx}{pins:List (Addr×Obj)}{U:St}{s₂:Shared}{N':List Str}{cap:List (Option Nat)}{sc:Scope}{cl:List (Str×Addr)}{fp:List Addr}
theorem VT {Q:VK}{H2:Hp}{it:Addr}{tn:Nat->Heap->Prop}{J:It}{E:Value->Shared->Prop}{RR:Value->Addr->Result->Shared->Prop}(S:jU X N' cap sc)(hc:X.calm=true)(hc1:∀ x c,cl.lookup x=some c->X.env.cells.lookup x=some c)(hc2:∀ y∈sc.names,y.2 = .free->∃ c,cl.lookup y.1=some c)(hg:∀ C pn,PG (qd X N' sc cl C s₂ H2 fp pn) tg g)(ht:∀ C pn,PTs (qd X N' sc cl C s₂ H2 fp pn) ifs tt)(he:∀ C pn,PE (qd X N' sc cl C s₂ H2 fp pn) elt te)(I2:Inv X pins U H2 s₂)(T:zO X.prog X.w X.K tg J fp it tn)(st2:tn 0 s₂.heap)(f2:∀ b∈fp,qH X pins H2 b)(W:Nat->Nat->List V->Hp->Prop)(w0:∃ m,W 0 m [] H2)(turn:∀ i m ys H,W i m ys H->ys.length<=sizeLine /\ ((J.stop i H/\∀ D,H D=none->Q (.ref D) (j3 H D (.lst ys)))∨(J.go i H/\∀ x H',J.yld i H x H'->g x (u8 cap U) H' λσ2 H2=>Wk (u8 cap U) σ2/\tt σ2 H2 λb H3 => if b=true then te σ2 H3 λv H4=>∃ m',m'<m/\W (i+1) m' (ys++[v]) H4 else ∃ m',m'<m/\W (i+1) m' ys H3)))(hRR:∀ D C H' s' m,Inv X pins U H' s'->s'.heap.Ns C m->qH X pins H' C->Q (.ref D) H'->RR (.ref D) C (.ok .next) s'):wpAny (model X.prog X.w) X.A (newList []) (λacc s₃=>wpAny (model X.prog X.w) X.A (newFunctionEnv sc X.env.globals cl [] X.env.qual none .none (some X.env)) (λcenv s₄ => codeAny (model X.prog X.w) X.A (.compStart (.ListComp elt [⟨tg,iter,ifs,0⟩] sc pos) 0 (.ref it) acc { cenv with scope:=relabel sc X.env }) (RR acc cenv.locals) s₄) E s₃) E s₂:=by
  refine wpAny_newObj_type (wpAny_newFunctionEnv S.nocell (by intro y hy;simp at hy) (λh₁ hns₁ hsb₁=>?_) S.kind)
  dsimp only at hns₁ hsb₁ ⊢
  generalize hG:s₂.heap.push { cls:= .type "list",dict:=none,data:= .seq ([]:List Value).toArray }=G at hns₁ hsb₁ ⊢;have hC:G.objs.size=s₂.heap.objs.size+1:=by rw [<- hG,Heap.size_push]
  have hDC:s₂.heap.objs.size<G.objs.size:=by rw [hC];exact Nat.lt_succ_self _
  have old:∀ b o,s₂.heap.get? b=some o->h₁.get? b=some o:=λb o e =>
    hsb₁.extBut b o (yL (Nat.lt_trans (yR e) hDC)) (yT _ (hG▸yT _ e))
  have hacc:h₁.get? s₂.heap.objs.size=some (LCg.lst []):=hsb₁.extBut _ _ (yL hDC) (yT _ (hG▸yv _ rfl));have fl:∀ b∈fp,b<s₂.heap.objs.size:=λb hb=>by obtain ⟨o,e,_⟩:=T.obj _ _ st2 b hb;exact yR e
  have seqd:∀(us:List Value) v,(LCg.lst us).data ≠ .cell v:=λus v z=>by cases z
  have cellt:∀ x c,cl.lookup x=some c->c<s₂.heap.objs.size:=λx c e=>by obtain ⟨v,oc,ho,_⟩:=I2.cell x c (hc1 x c e);exact yR ho
  have pint:∀ p∈X.pn++pins,p.1<s₂.heap.objs.size:=λp hp=>yR (I2.pin p hp).1;have I0:Inv (qd X N' sc cl G.objs.size s₂ H2 fp (X.pn++pins)) [(s₂.heap.objs.size,LCg.lst [])] (u8 cap U) H2 { s₂ with heap:=h₁,toks:=s₂.toks+([]:List (Str×Value)).length } :=
    Kn I2 S hc1 hc2 f2 fl (yS _) hDC hacc (seqd []) hns₁ old _
  have stat:∀{H':Hp}{us:List Value},(∀ b∈fp,H' b=none)->∀ b∈fp,qH (qd X N' sc cl G.objs.size s₂ H2 fp (X.pn++pins)) [(s₂.heap.objs.size,LCg.lst us)] H' b:=λ{H' us} hn b hb=>by
    obtain ⟨f0,f1,f2',f3,f4,f5⟩:=f2 b hb;refine ⟨hn b hb,yL (Nat.lt_trans (fl b hb) hDC),λhz=>?_,.inl hb,λx c e=>f4 x c (hc1 x c e),λp hp=>?_⟩
    · rcases yK.mp (I2.stkSub b hz) with e|e
      · exact f1 e
      · exact f2' e
    · rcases yA.mp hp with hp|hp
      · exact f5 p hp
      · have e:p=(s₂.heap.objs.size,LCg.lst us):=by simpa using hp
        rw [e];exact Ne.symm (yL (fl b hb))
  have loop:∀ s₃:Shared,s₃={ s₂ with heap:=h₁,toks:=s₂.toks+([]:List (Str×Value)).length } ->
      codeAny (model X.prog X.w) X.A (.compLoop (.ListComp elt [⟨tg,iter,ifs,0⟩] sc pos) 0 (.ref it) (.ref s₂.heap.objs.size) (compEnvC sc cl G.objs.size X.env)) (RR (.ref s₂.heap.objs.size) G.objs.size) s₃:=by
    rintro s₃ rfl;obtain ⟨m0,w0⟩:=w0;refine Gh
      (λn s'=>∃ i ys us H',Inv (qd X N' sc cl G.objs.size s₂ H2 fp (X.pn++pins)) [(s₂.heap.objs.size,LCg.lst us)] (u8 cap U) H' s'/\Vals ys us/\tn i s'.heap/\(∀ b∈fp,H' b=none)/\W i n ys H') ?_ m0
      ⟨0,[],[],H2,I0,.nil,T.keep _ _ _ st2 λb _ o e=>old b o e,λb hb=>(f2 b hb).1,w0⟩
    rintro n s3 ⟨i,ys,us,H3,I3,rv,st3,fr3,w3⟩;obtain ⟨hz,alt⟩:=turn i n ys H3 w3;rcases alt with ⟨stop,fin⟩|⟨go,step⟩
    · refine z6 (T.done (qd X N' sc cl G.objs.size s₂ H2 fp (X.pn++pins)) rfl rfl rfl hc i _ s3 _ H3 _ I3 (stat fr3) st3 stop) λr s4 ⟨hr,I4⟩=>?_
      subst hr;obtain ⟨gD,nD,_,_,_⟩:=I4.pin (s₂.heap.objs.size,LCg.lst us) (yC _ (yO.mpr rfl));have nD':H3 s₂.heap.objs.size=none:=nD;have gD':s4.heap.get? s₂.heap.objs.size=some (LCg.lst us):=gD;have b4:Un (p7 X.stack) fp H2 H3 s₂.heap s4.heap:=I4.base;have n2:H2 s₂.heap.objs.size=none:=I2.hok.fresh (yS _);have un:Un (p7 X.stack) fp H2 (j3 H3 s₂.heap.objs.size (.lst ys)) s₂.heap s4.heap :=
        ⟨b4.keep,b4.slot,λb o e n hx=>by rw [z9 (yL (yR e))];exact b4.free b o e n hx,b4.there,
          λb xs e=>by rw [z9 (w9 e n2)];exact b4.tups b xs e,λb o u e=>by rw [z9 (w9 e n2)];exact b4.frzs b o u e,
          λb ps q e=>by rw [z9 (w9 e n2)];exact b4.tbls b ps q e⟩
      have hok:HOk X.prog X.w (j3 H3 s₂.heap.objs.size (.lst ys)) s4.heap:=λb u e=>by
        by_cases hb:b=s₂.heap.objs.size
        · subst hb
          rw [u3] at e;cases e;exact ⟨hz,us,us.length,rv,gD'⟩
        · rw [z9 hb] at e
          exact (I4.hok b u e).stay (λc v _ q=>q) (λc q=>by rw [z9 (w9 q nD')];exact q) (λc xs q=>by rw [z9 (w9 q nD')];exact q) λc _ _ q=>by rw [z9 (w9 q nD')];exact q
      have IF:Inv X pins U (j3 H3 s₂.heap.objs.size (.lst ys)) s4:=I2.call' (ch:=fp) I4.os un hok I4.bare λb hb=>by
        obtain ⟨f0,f1,f2',f3,f4,f5⟩:=f2 b hb;exact ⟨f3,f1,f4,f5⟩
      obtain ⟨mF,hnF,_⟩:=I4.loc;refine hRR _ _ _ _ mF IF hnF (I2.fpOk (uY hDC) ?_) (fin _ nD');rw [z9 (Ne.symm (yL hDC))];exact I4.free
    · refine z6 (T.item (qd X N' sc cl G.objs.size s₂ H2 fp (X.pn++pins)) rfl rfl rfl hc i _ s3 _ H3 _ I3 (stat fr3) st3 go) λr s4 ⟨u,hr,h4⟩=>?_
      subst hr;refine z6 h4 λ_ s5 ⟨x,H5,I5,r5,y5,st5,fr5⟩=>?_;have I5':=I5.pinned (stat fr5) (T.obj _ _ st5);refine z6 (hg G.objs.size (X.pn++pins) _ s5 _ H5 x u _ I5' r5 (step x H5 y5)) λ_ s6 ⟨σ6,H6,I6,wk,q6⟩=>?_;refine z6 (ht G.objs.size (X.pn++pins) _ s6 σ6 H6 _ I6 q6) λok s7 ⟨H7,I7,q7⟩=>?_;have back:∀{σ8:St}{H8:Hp}{s8:Shared}{us8:List Value},Inv (qd X N' sc cl G.objs.size s₂ H2 fp (X.pn++pins)) ([(s₂.heap.objs.size,LCg.lst us8)]++wF fp s5.heap) σ8 H8 s8 ->
          tn (i+1) s8.heap/\∀ b∈fp,H8 b=none:=λ{σ8 H8 s8 us8} I8=>by
        refine ⟨T.keep _ _ _ st5 λb hb o e=>(I8.pin (b,o) (yC _ (yC _ (QE hb e)))).1,λb hb=>?_⟩;obtain ⟨o,e,d⟩:=T.obj _ _ st5 b hb;exact (I8.pin (b,o) (yC _ (yC _ (QE hb e)))).2.1
      cases ok with
      |false=>obtain ⟨m',hm,w7⟩:=q7;obtain ⟨t7,f7⟩:=back I7;exact ⟨m',hm,i+1,ys,us,H7,I7.unpinned.weak wk.len wk.at',rv,t7,f7,w7⟩
      |true =>
        refine z6 (he G.objs.size (X.pn++pins) _ s7 σ6 H7 _ I7 q7) λuv s8 ⟨v,H8,I8,r8,m',hm,w8⟩=>?_;obtain ⟨t8,f8⟩:=back I8;obtain ⟨gD,nD,lD,fD,_⟩:=I8.pin (s₂.heap.objs.size,LCg.lst us) (yC _ (yk _ (yO.mpr rfl)));have gD':s8.heap.get? s₂.heap.objs.size=some { cls:= .type "list",data:= .seq us.toArray us.length }:=gD;refine append_at (hsz:=by rw [yY,<- rv.length];exact hz) gD' λh9 hs9 hD9=>?_;have I8a:Inv (qd X N' sc cl G.objs.size s₂ H2 fp (X.pn++pins)) [] σ6 H8 s8:=I8.pins_of λp hp=>nomatch hp;have I9:Inv (qd X N' sc cl G.objs.size s₂ H2 fp (X.pn++pins)) [] σ6 H8 { s8 with heap:=h9,toks:=s8.toks } :=
          I8a.turned (it:=s₂.heap.objs.size) (λb o hb e=>hs9.extBut b o hb e) nD lD (.inr (yS _)) (λx c e=>yL (cellt x c e)) λp hp=>by
            rw [yB] at hp;exact yL (pint p hp)
        have I10:Inv (qd X N' sc cl G.objs.size s₂ H2 fp (X.pn++pins)) [(s₂.heap.objs.size,LCg.lst (us++[uv]))] σ6 H8 { s8 with heap:=h9,toks:=s8.toks }:=I9.pins_of λp hp=>by
          have e:p=(s₂.heap.objs.size,LCg.lst (us++[uv])):=by simpa using hp
          subst e;exact ⟨hD9.trans (congrArg some (LCg.lst_snoc us uv)),nD,lD,fD,seqd _⟩
        refine ⟨m',hm,i+1,ys++[v],us++[uv],H8,I10.weak wk.len wk.at',rv.append (.cons r8 .nil),T.keep _ _ _ t8 λb hb o e=>hs9.extBut b o (yL (fl b hb)) e,f8,w8⟩
  have st1:tn 0 h₁:=T.keep _ _ _ st2 λb _ o e=>old b o e;exact codeAny_compStart_list (loop _ rfl) (T.self _ 0 _ _ _ st1 (loop _ rfl))
theorem qp (S:jU X N' cap sc)(hc:X.calm=true)(hi:PI X tg iter wi)(hg:∀ cl C s H fp pn,PG (qd X N' sc cl C s H fp pn) tg g)(ht:∀ cl C s H fp pn,PTs (qd X N' sc cl C s H fp pn) ifs tt)(he:∀ cl C s H fp pn,PE (qd X N' sc cl C s H fp pn) elt te)(hs:∀ x,foldedSetIterable iter X.env x=pure x:=by intro _;rfl):PE X (.ListComp elt [⟨tg,iter,ifs,0⟩] sc pos) (vK wi g tt te cap):=by intro pins s U H Q I h;rw [eval_ListComp];obtain ⟨cl,hcl,hc1,hc2⟩:=VS (scope:=sc) (env:=X.env) λy hy e=>I.ok.has y.1 (S.free y hy e);refine wpAny_comprehension_free (use:=none) rfl hs hcl S.kind S.names (z6 (hi pins s U H _ I h) λv s1 h1=>z6 h1 λitv s2 h2=>?_);obtain ⟨it,fp,tn,J,H2,e,I2,T,st2,f2,W,w0,turn⟩:=h2;subst e;refine VT (RR:=λacc C=>compPost (model X.prog X.w) X.A X.xe none (EP X pins U Q) acc C) S hc hc1 hc2 (λC pn=>hg cl C s2 H2 fp pn) (λC pn=>ht cl C s2 H2 fp pn) (λC pn=>he cl C s2 H2 fp pn) I2 T st2 f2 W w0 turn ?_;intro D C H' s' m I' hn F q;obtain ⟨f0,f1,f2',f3,f4,f5⟩:=F;exact ⟨m,hn,λh' hs'=>⟨.ref D,H',I'.turned (t':=s'.toks) (λb o hb e=>hs'.extBut b o hb e) f0 f1 f3 f4 f5,rfl,q⟩⟩
theorem Ye {i:Nat}{x:Str}{spos pos':Pos}(S:jU X N' cap sc)(hc:X.calm=true)(hN:X.N.Nodup)(hx:X.N[i]?=some x)(hk:X.env.scope.names.lookup x=some .local)(hi:PI X tg iter wi)
  (hg:∀ cl C s H fp pn,PG (qd X N' sc cl C s H fp pn) tg g) (ht:∀ cl C s H fp pn,PTs (qd X N' sc cl C s H fp pn) ifs tt) (he:∀ cl C s H fp pn,PE (qd X N' sc cl C s H fp pn) elt te)
  (hsw:swapsWith (.ListComp elt [⟨tg,iter,ifs,0⟩] sc pos) (some (.Name x pos')) spos.line X.env=pure true:=by rfl)
  (hs:∀ x,foldedSetIterable iter X.env x=pure x:=by intro _;rfl):PS X (.Assign [.Name x pos'] (.ListComp elt [⟨tg,iter,ifs,0⟩] sc pos) spos) (xy (vK wi g tt te cap) (qm i)):=by
 intro pins s U H D I h;rw [exec_Assign_Name_used _ _ _ _ hsw];refine yU (wpAny_standAt (yU ?_));show wpAny _ X.A (do let _ <- comprehension (.ListComp elt [⟨tg,iter,ifs,0⟩] sc pos) sc X.env _ (newList []) false (eval iter X.env) (some (assign (.Name x pos') X.env))) _ _ s;obtain ⟨cl,hcl,hc1,hc2⟩:=VS (scope:=sc) (env:=X.env) λy hy e=>I.ok.has y.1 (S.free y hy e);refine yU (z6 (wpAny_comprehension_free (use:=some (assign (.Name x pos') X.env)) (Q:=λ_ s'=>SP X pins D .next s') rfl hs hcl S.kind S.names
  (z6 (hi pins s U H _ I h) λv s1 h1=>z6 h1 λitv s2 h2=>?_)) λ_ s' hq=>yD (yD hq))
 obtain ⟨it,fp,tn,J,H2,e,I2,T,st2,f2,W,w0,turn⟩:=h2;subst e;refine VT (Q:=λv H1=>qm i v U H1 D.nx) (RR:=λacc C=>compPost (model X.prog X.w) X.A X.xe (some (assign (.Name x pos') X.env)) (λ_ s'=>SP X pins D .next s') acc C) S hc hc1 hc2 (λC pn=>hg cl C s2 H2 fp pn) (λC pn=>ht cl C s2 H2 fp pn) (λC pn=>he cl C s2 H2 fp pn) I2 T st2 f2 W w0 turn ?_;intro E C H' s' m I' hn F q;obtain ⟨f0,f1,f2',f3,f4,f5⟩:=F;show wpAny _ X.A (assign (.Name x pos') X.env (.ref E)) _ _ _;refine wpAny_assign_Name (YM I' hN hx (.inl hk) (v:= .ref E) rfl (λs'' I'' ch=>?_) (.inr hk));obtain ⟨a,sb,ha⟩:=ch;have nC:C≠a:=by
  rcases ha with z|z
  ·rw [z];exact f1
  ·exact Ne.symm (f4 x a z)
 exact ⟨m,hn.sameBut sb nC,λh' hs'=>⟨_,H',I''.turned (t':=s''.toks) (λb o hb e=>hs'.extBut b o hb e) f0 f1 f3 f4 f5,q⟩⟩
end
section
variable {g:TG}{tt:TT}{te:TE}{Q:VK}{H:Hp}{σ0:St}
theorem Gi {a:Addr}{xs:List V}(Pv:Nat->List V->Hp->Prop)(h0:Pv 0 [] H)(hz:∀ i ys H,i<=xs.length->Pv i ys H->ys.length<=sizeLine)(hl:∀ i ys H,i<=xs.length->Pv i ys H->SqL K H a xs)(hs:∀ i x ys H (R:List V->Hp->Prop),xs[i]?=some x->Pv i ys H->(∀ ys' H',Pv (i+1) ys' H'->R ys' H')->g x σ0 H λσ2 H2=>Wk σ0 σ2/\tt σ2 H2 λb H3=>if b=true then te σ2 H3 λv H4=>R (ys++[v]) H4 else R ys H3)(hd:∀ ys H,Pv xs.length ys H->∀ D,H D=none->Q (.ref D) (j3 H D (.lst ys))):JF (Itl K a) g tt te Q σ0 H:=by
 refine ⟨λi m ys H=>m=xs.length-i/\i<=xs.length/\Pv i ys H,⟨xs.length,by simp,yi _,h0⟩,?_⟩;rintro i m ys H ⟨rfl,hi,p⟩;have q:=hl i ys H hi p;refine ⟨hz i ys H hi p,?_⟩;by_cases hlt:i<xs.length
 ·refine .inr ⟨⟨xs,xs[i],q,by simp [hlt]⟩,λx H' y=>?_⟩;obtain ⟨e,y⟩:=y;subst e;exact hs i x ys _ (λys' H'=>∃ m',m'<xs.length-i/\m'=xs.length-(i+1)/\i+1<=xs.length/\Pv (i+1) ys' H') (y xs q) p λys' H' p'=>⟨xs.length-(i+1),by omega,rfl,hlt,p'⟩
 ·have e:i=xs.length:=by omega
  subst e;exact .inl ⟨⟨xs,q,yS _⟩,hd ys H p⟩
end
def tyB (T c:String):Option Bool:=if (Value.type T==Value.type c)=true then some true else if PySem.W.kitMeta c=true then (fastBuiltinMro T).map (·.contains (Value.type c)) else none
theorem KJ {T c:String}{b:Bool}(h:tyB T c=some b):PySem.W.kitOne K (.type T) (.type c)=some b:=h
theorem Dv:tyB "int" "int"=some true:=by decide +kernel
theorem Du:tyB "int" "bool"=some false:=by decide +kernel
theorem Dw:tyB "list" "list"=some true:=by decide +kernel
theorem Dx:tyB "str" "str"=some true:=by decide +kernel
theorem qT:bootBuiltins "isinstance"=some (.builtin "isinstance"):=by decide +kernel
theorem zP:bootBuiltins "list"=some (.type "list"):=by decide +kernel
theorem VF:bootBuiltins "int"=some (.type "int"):=by decide +kernel
theorem VD:bootBuiltins "bool"=some (.type "bool"):=by decide +kernel
theorem VH:bootBuiltins "str"=some (.type "str"):=by decide +kernel
theorem Xq:bootBuiltins "all"=some (.builtin "all"):=by decide +kernel
theorem US:bootBuiltins "sum"=some (.builtin "sum"):=by decide +kernel
theorem UR:bootBuiltins "min"=some (.builtin "min"):=by decide +kernel
theorem UQ:bootBuiltins "enumerate"=some (.type "enumerate"):=by decide +kernel
theorem UT:bootBuiltins "zip"=some (.type "zip"):=by decide +kernel
section
variable {X:Cx}
theorem UW:CallR X (.builtin "isinstance") (λxs H Q=>∃ x n T b,xs=[x,.ty n]/\qS X.K H x (.type T)/\tyB T n=some b/\Q (.bl b) H):=by intro pins s U H xs us Q I r h;obtain ⟨x,n,T,b,rfl,ty,e,q⟩:=h;obtain ⟨u,w',rfl,rx,rw'⟩:=Xf r;obtain rfl:w'=Value.type n:=rw';exact Kq I rx ty (KJ e) λtk=>⟨.bl b,H,I.tok _,rfl,q⟩
theorem Uj:∀{bs:List Bool}{us:List Value}{i:Nat}{u:Value},Vals (bs.map V.bl) us->us[i]?=some u->u = .bool (bs.getD i false)
 |[],_,_,_,.nil,e=>by simp at e
 |b::_,_,0,_,.cons r _,e=>by
  have e':=Option.some.inj e;subst e';exact r
 |_::bs,_,i+1,u,.cons _ t,e=>by
  have q:=Uj (i:=i) (u:=u) t (by simpa using e);simpa using q
theorem UC:∀(bs:List Bool),(List.range bs.length).all (λi=>bs.getD i false)=bs.all id:=by
 intro bs;rw [Bool.eq_iff_iff,ya,ya];constructor
 ·intro h b hb;obtain ⟨i,hi,e⟩:=uQ hb;have q:=h i (uN.mpr hi);rw [List.getD_eq_getElem?_getD,yw hi] at q;rw [<- e];exact q
 ·intro h i hi;have hi':=uN.mp hi;rw [List.getD_eq_getElem?_getD,yw hi'];exact h _ (yj hi')
theorem UU (hc:X.calm=true):CallR X (.builtin "all") (λxs H Q=>∃ (a:Addr) (bs:List Bool),xs=[.ref a]/\SqL X.K H a (bs.map V.bl)/\Q (.bl (bs.all id)) H):=by
 intro pins s U H xs us Q I r h;obtain ⟨a,bs,rfl,hq,q⟩:=h;obtain ⟨u,rfl,ru⟩:=jo r;obtain rfl:u=Value.ref a:=ru;obtain ⟨its,rv,p,hz⟩:=I.list hq;have hlt:a<s.heap.objs.size:=by obtain ⟨_,_,e,_⟩:=p;exact yR e
 have hl:s.heap.IsList a its.toArray:=p.isList;refine call_all_walk (wpAny_pyIter_list hl ?_);refine ⟨s.heap.objs.size,_,_,_,_,_,λi=>bs.getD i false,rfl,Walks.list (A:=X.A.in1) (I.ok.hd hc) s.heap.objs.size a (yL hlt) its.toArray,⟨⟨_,yv _ rfl,rfl,rfl⟩,hl.push _⟩,?_,λh' tk k=>?_⟩
 ·intro i v s' Q' E' hP hQ;have e:=Uj rv (by simpa using hP);subst e;exact wpAny_truthy_bool hQ
 ·have hn:its.toArray.size=bs.length:=by have e:=rv.length;rw [yZ] at e;rw [yY];exact e.symm
  rw [hn,UC];refine ⟨.bl (bs.all id),H,I.kept (t':=tk) (λb o e=>k b o (λhm=>?_) (yT _ e)),rfl,q⟩;have e':b=s.heap.objs.size:=by simpa using hm
  exact absurd (yR e) (by rw [e'];exact uT _)
theorem Ul:∀{ns:List Int}{us:List Value},Vals (ns.map V.int) us->IntsAre us ns
 |[],_,.nil=> .nil
 |n::_,_,.cons ⟨t,e⟩ r=>by
  subst e;exact .cons n t (Ul r)
theorem Ge (hc:X.calm=true):CallR X (.builtin "sum") (λxs H Q=>∃ (a:Addr) (ns:List Int),xs=[.ref a]/\SqL X.K H a (ns.map V.int)/\Q (.int ns.sum) H):=by
 intro pins s U H xs us Q I r h;obtain ⟨a,ns,rfl,hq,q⟩:=h;obtain ⟨u,rfl,ru⟩:=jo r;obtain rfl:u=Value.ref a:=ru;obtain ⟨its,rv,p,hz⟩:=I.list hq;have hi:=Ul rv;have hl:s.heap.IsList a its.toArray:=p.isList;obtain ⟨xs,ex⟩:=hi.allInts.items;have e2:(numsOf its.toArray.toList).sum=ns.sum:=by rw [show its.toArray.toList=its from rfl,hi.numsOf]
 rw [ex] at hl e2;rw [nums_intItems] at e2;refine sum_intListG (I.ok.hd hc) hl λh' tk t' k=>⟨.int ns.sum,H,I.kept (t':=tk) k,?_,q⟩;rw [preSum_eq,List.take_of_length_le (by simp),e2];exact ⟨_,rfl⟩
def wY (_i j:Int):Prop:=0<j/\j.natAbs.log2<9000
theorem BV:OpR X (binaryOp .FloorDiv) (rI wY λi j=> .int (i / j)):=opI λi j _ _ _ _ _ hc q=>by
 have e:i.fdiv j=i / j:=Int.fdiv_eq_ediv_of_nonneg i (Int.le_of_lt hc.1);exact floordiv_int (Ne.symm (Int.ne_of_lt hc.1)) (by rw [e];exact q) (.inl (PyProof.noPylong_of_log2 hc.2))
def vR (i j:Int):Prop:=Builtin.Int.intBits i<=2 ^ 20/\Builtin.Int.intBits j<=2 ^ 20
theorem QJ:OpR X (binaryOp .Mult) (rI vR λi j=> .int (i*j)):=opI λ_ _ _ _ _ _ _ hc q=>mul_int q (IntMulOk.of_bits hc.1 hc.2)
def Its (lo c:Int)(n:Nat):It:=⟨λi _=>i<n,λi H x H'=>H'=H/\x = .int (lo+i*c),λi _=>n<=i⟩
theorem Dq {P:Program}{w:World}(it:Addr)(lo c:Int)(n:Nat):zO P w K tg (Its lo c n) [it] it (λi h=>IsRangeIter h it (lo+(i:Nat)*c) ((n:Int)-(i:Nat)) c) where
 mem:=by simp
 obj:=λi h st b hb=>by
  have e:b=it:=by simpa using hb
  subst e;exact ⟨_,st,λv z=>by
   have z':Data.fields _=Data.cell v:=z;cases z'⟩
 keep:=λi h h' st k=>k it (by simp) _ st
 item:=by intro X hP hw hK hc i pins s U H E I hf st hg;subst hP hw hK;obtain ⟨f0,f1,f2,f3,f4,f5⟩:=hf it (by simp);have W:=Walks.range (prog:=X.prog) (w:=X.w) (I.ok.hd hc) it lo c n;refine W.item i s _ _ hg st λv h' tk hv st' kk=>?_;obtain ⟨t,rfl⟩:=hv;have I1:Inv X pins U H { s with heap:=h',toks:=tk }:=I.turned (λb o hb e=>kk b o (by simpa using hb) e) f0 f1 f3 f4 f5;exact ⟨_,rfl,XI (s:={ s with heap:=h',toks:=tk }) (n:="range_iterator") st' rfl rfl (by decide) ⟨.int (lo+i*c),H,I1,⟨t,rfl⟩,⟨rfl,rfl⟩,st',λb hb=>(hf b hb).1⟩⟩
 done:=by intro X hP hw hK hc i pins s U H E I hf st hg;subst hP hw hK;obtain ⟨f0,f1,f2,f3,f4,f5⟩:=hf it (by simp);exact wpAny_pyNext_range_end (I.ok.hd hc) st (by have:n<=i:=hg;omega) λh' eb=>⟨rfl,I.turned (t':=s.toks) (λb o hb e=>eb b o hb e) f0 f1 f3 f4 f5⟩
 self:=λ_ _ _ _ _ st h=>wpAny_pyIter_rangeiter st h
def zH (i j c:Int):Nat:=(Builtin.Range.rangeSize i j c).toNat
def iRng3 (ta:TA):TI:=λU H R=>ta U H λvs H1=>∃ i j c:Int,vs=[.int i,.int j,.int c]/\(0<c/\c<1073741824)/\0<=Builtin.Range.rangeSize i j c/\Builtin.Range.small i j c=true/\R (Its i c (zH i j c)) H1
variable {tg:Expr}
theorem PD {a b:Expr}{ta:TA}{p:Pos}(hg:Gl X "range")(hm:X.mg "range"=none)(ha:PA X [a,b,c] ta)(hs:starEach [a,b,c] X.env=[(false,eval a X.env),(false,eval b X.env),(false,eval c X.env)]:=by rfl)(hs2:starEach [b,c] X.env=[(false,eval b X.env),(false,eval c X.env)]:=by rfl):PI X tg (.Call (.Name "range" p) [a,b,c] [] pos) (iRng3 ta):=by
 intro pins s U H R I h;refine Call_ (jD I hg hm boot_range (PyProof.Rows.callWith_type1 (z6 (ha pos pins s U H _ I h) λus s1 ⟨vs,H1,I1,r1,q1⟩=>?_) (by rw [hs,hs2]) (by rw [hs2];rfl)));obtain ⟨i,j,c,e,⟨q1,q2⟩,q3,q4,q⟩:=q1;subst e;cases r1 with
 |cons r rr =>
  cases rr with
  |cons r' rr =>
   cases rr with
   |cons r'' rr =>
    cases rr;obtain ⟨t,rfl⟩:=r;obtain ⟨t',rfl⟩:=r';obtain ⟨t'',rfl⟩:=r'';refine call_range_3 (Ne.symm (Int.ne_of_lt q1)) ?_ (.inl (PyProof.noPylong_small (by omega)));refine wpAny_pyIter_range (IsRange.new ..) q4 ?_;have I2:Inv X pins U H1 { s1 with heap:=s1.heap.push { cls:= .type "range",data:= .fields #[.int i t,.int j t',.int c t''] },toks:=s1.toks }:=I1.kept λb o e=>yT _ e;refine ⟨(s1.heap.push { cls:= .type "range",data:= .fields #[.int i t,.int j t',.int c t''] }).objs.size,[(s1.heap.push { cls:= .type "range",data:= .fields #[.int i t,.int j t',.int c t''] }).objs.size],_,_,H1,rfl,
     I2.kept (t':=s1.toks) λb o e=>yT _ e,Dq _ i c (zH i j c),?_,λb hb=>?_,q⟩
    ·have e1:i+((0:Nat):Int)*c=i:=by simp
     have e2:((zH i j c:Nat):Int)-((0:Nat):Int)=Builtin.Range.rangeSize i j c:=by unfold zH;omega
     show IsRangeIter _ _ (i+((0:Nat):Int)*c) (((zH i j c:Nat):Int)-((0:Nat):Int)) c;rw [e1,e2];exact yv _ rfl
    ·have e:b=(s1.heap.push { cls:= .type "range",data:= .fields #[.int i t,.int j t',.int c t''] }).objs.size:=by simpa using hb
     subst e;exact I2.fpOk (yS _) (I2.hok.fresh (yS _))
end
theorem GP {lo c:Int}{n:Nat}{tb:TS}{D:qk}{H:Hp}(Pv:Nat->St->Hp->Prop)(h0:Pv 0 U H)(hs:∀ i U H,i<n->Pv i U H->g (.int (lo+i*c)) U H λσ2 H2=>tb { D with nx:=Pv (i+1),ct:=Pv (i+1),bk:=D.nx } σ2 H2)(hd:∀ U H,Pv n U H->D.nx U H):∃ W:Nat->Nat->St->Hp->Prop,(∃ m,W 0 m U H)/\∀ i m U H,W i m U H -> ((Its lo c n).stop i H/\D.nx U H)∨((Its lo c n).go i H/\∃ N:St->Hp->Prop,(∀ σ' H',N σ' H'->∃ m',m'<m/\W (i+1) m' σ' H')/\∀ x H',(Its lo c n).yld i H x H'->g x U H' λσ2 H2=>tb { D with nx:=N,ct:=N,bk:=D.nx } σ2 H2):=by
 refine ⟨λi m U H=>m=n-i/\i<=n/\Pv i U H,⟨n,by simp,yi _,h0⟩,?_⟩;rintro i m U H ⟨rfl,hi,p⟩;by_cases hlt:i<n
 ·refine .inr ⟨hlt,Pv (i+1),λσ' H' p'=>⟨n-(i+1),by omega,rfl,hlt,p'⟩,λx H' y=>?_⟩;obtain ⟨e,y⟩:=y;subst e y;exact hs i U _ hlt p
 ·have e:i=n:=by omega
  subst e;exact .inl ⟨yS _,hd U H p⟩
section
open PySem.SeqAt
theorem xv {α β:Type}{F:α->β->Prop}:∀{l₁:List α}{l₂:List β},Paired F l₁ l₂->∀(j:Nat)(h1:j<l₁.length)(h2:j<l₂.length),F l₁[j] l₂[j]
 |_,_,.cons r _,0,_,_=>r
 |_,_,.cons _ t,j+1,h1,h2=>xv t j (by simpa using h1) (by simpa using h2)
variable {X:Cx}
end
structure Fn (P:Program)(w:World)(K:Fg)(mg:Str->Option Value)(base:Heap)(k:Nat)(x:Str)(ps:List Str)(sp:Sp):Prop where
 ex:∃ f fd,FnOk P w K mg base v3 k f fd ps sp/\mg x=some (.ref f)/\PySem.W.keepIn K (.ref f)=true/\Binds K fd ps []
section
variable {X:Cx}{k j:Nat}{x:Str}{ps:List Str}{sp:Sp}{e:Expr}{es:List Expr}{t:TA}{p pos:Pos}
theorem c5 (c:Fn X.prog X.w X.K X.mg X.base k x ps sp)(hr:Room j X.A)(hj:k<=j)(hg:Gl X x)(ha:PA X (e::es) t)(hdb:(x==("__debug__":Str))=false:=by decide)(he:starEach (e::es) X.env=(false,eval e X.env)::starEach es X.env:=by rfl)(hpl:(backTo pos (starEach es X.env)).any (·.1)=false:=by rfl):PE X (.Call (.Name x p) (e::es) [] pos) (xz sp [] E0 t):=by obtain ⟨f,fd,F,hm,hk,hb⟩:=c.ex;exact Pl F (hr.mono hj) hg hm hk hb .nil wD ha hdb he hpl
end
end L2
namespace L2
open PySem PySem.Spec PyProof.Rows
variable{p pos px tp:Pos}{a:Expr}{b:Addr}{P:Program}{w:World}{K:Fg}{elts:List Expr}{x1:Nat}{ta:TA}{x:Str}{l:List Env}{S:List Addr}{h h' h1:Heap}{p2:List (Addr×Obj)}{oe:Obj}
section
variable {X:Cx}{pins:List (Addr×Obj)}{U:St}{H:Hp}{s:Shared}{h':Heap}
theorem Inv.turnedL {t':Nat}{ch:List Addr}(I:Inv X pins U H s)(k:∀ b o,b∉ch->s.heap.get? b=some o->h'.get? b=some o)(hf:∀ b∈ch,qH X pins H b):Inv X pins U H { s with heap:=h',toks:=t' }:=by
 have nit:∀ b u,H b=some u->b∉ch:=λb u e z=>by rw [(hf b z).1] at e;cases e
 have nL:X.env.locals∉ch:=λz=>(hf _ z).2.1 rfl;refine I.step (g':=s.gens) (d':=s.drawn) (ch:=ch) (λb hb=>?_) (λb o _ _ hc e _=>k b o hc e) (λb o _ _ hc e _=>⟨o.slots,k b o hc e⟩) (λ_ _ _ _ n=>n)
  (λb o hc e=>⟨o,k b o hc e⟩) (λ_ _ e=>e) (λ_ _ _ e=>e) (λ_ _ _ e=>e) (λm hm=>?_) (λb u e=>?_) I.bare
 ·obtain ⟨f0,f1,f2,f3,f4,f5⟩:=hf b hb;exact ⟨f3,f1,f4,f5⟩
 ·obtain ⟨o,es,ep,ho,r⟩:=hm;exact ⟨o,es,ep,k _ o nL ho,r⟩
 ·refine (I.hok b u e).stay (λc v hc q=>k c v ?_ q) (λ_ q=>q) (λ_ _ q=>q) λ_ _ _ q=>q;rcases hc with z|z
  ·rw [z];exact nit b u e
  ·exact nit c _ z
theorem Inv.track {p:Addr}{o:HO}(I:Inv X pins U H s)(hp:X.s₀.heap.objs.size<=p)(hn:H p=none)(nL:p≠X.env.locals)(nC:∀ x c,X.env.cells.lookup x=some c->c≠p)(nP:∀ q∈X.pn++pins,q.1≠p)(new:ObjOk X.prog X.w (j3 H p o) s.heap p o):Inv X pins U (j3 H p o) s:=by
 refine ⟨I.ok,I.os,I.bare,⟨I.base.keep,I.base.slot,λb ob e n hx=>?_,I.base.there,λb xs e=>?_,λb ob u e=>?_,λb ps q e=>?_⟩,I.loc,I.cell,?_,λx c e=>?_,λq hq=>?_,λb u e=>?_,I.len⟩
 ·rw [z9 (yL (yJ (yR e) hp))];exact I.base.free b ob e n hx
 ·have z:=I.base.tups b xs e;rw [z9 (w9 z hn)];exact z
 ·have z:=I.base.frzs b ob u e;rw [z9 (w9 z hn)];exact z
 ·have z:=I.base.tbls b ps q e;rw [z9 (w9 z hn)];exact z
 ·rw [z9 (Ne.symm nL)];exact I.free
 ·rw [z9 (nC x c e)];exact I.freeC x c e
 ·obtain ⟨a1,a2,a3⟩:=I.pin q hq;exact ⟨a1,by rw [z9 (nP q hq)];exact a2,a3⟩
 ·by_cases hb:b=p
  ·subst hb;rw [u3] at e;cases e;exact new
  ·rw [z9 hb] at e;exact (I.hok b u e).stay (λc v _ q=>q) (λc q=>by rw [z9 (w9 q hn)];exact q) (λc xs q=>by rw [z9 (w9 q hn)];exact q) λc _ _ q=>by rw [z9 (w9 q hn)];exact q
theorem Inv.seq_ne {a:Addr}{xs:List V}(I:Inv X pins U H s)(hq:SqL X.K H a xs)(hf:qH X pins H b):a≠b:=by
 rintro rfl;rcases hq with (h|⟨o,h⟩)|⟨o,its,n,hk,_⟩
 ·rw [hf.1] at h;cases h
 ·rw [hf.1] at h;cases h
 ·have e:=I.ok.mod.kin a o hk;rcases hf.2.2.2.1 with z|z
  ·exact I.ok.noex a o e z
  ·exact absurd (yJ (yR e) (yh I.ok.bsz z)) (uT _)
end
def Ite (K:Fg)(a:Addr):It :=
 ⟨λi H=>∃ xs x,SqL K H a xs/\xs[i]?=some x,λi H x H'=>∃ p y,H p=none/\x = .ref p/\H'=j3 H p (.tup [.int i,y])/\∀ xs,SqL K H a xs->xs[i]?=some y,λi H=>∃ xs,SqL K H a xs/\xs.length<=i⟩
theorem Dn (a e it:Addr)(hne:e≠it):zO P w K (.Tuple elts x1 tp) (Ite K a) [e,it] e (λi h=>(∃ old,IsEnum h e it ((i:Nat):Int) old)/\h.IsListIter it a i) where
 mem:=by simp
 obj:=λi h st b hb=>by
  obtain ⟨⟨old,he⟩,hit⟩:=st;rcases yK.mp hb with rfl|hb
  ·exact ⟨_,he,λv z=>by
    have z':Data.fields _=Data.cell v:=z;cases z'⟩
  ·have eb:b=it:=by simpa using hb
   subst eb;obtain ⟨o,e1,c,d⟩:=hit;exact ⟨o,e1,λv z=>by rw [d] at z;cases z⟩
 keep:=λi h h' st k=>by
  obtain ⟨⟨old,he⟩,hit⟩:=st;exact ⟨⟨old,k e (by simp) _ he⟩,hit.at λo q=>k it (by simp) o q⟩
 item:=by
  intro X hP hw hK hc i pins s U H E I hf st hg;subst hP hw hK;obtain ⟨⟨old,he⟩,hit⟩:=st;obtain ⟨xs,x,hq,hx⟩:=hg;obtain ⟨its,rv,p,hz⟩:=I.list hq;obtain ⟨u,hu,ru⟩:=rv.get hx;have fz:qH X pins H s.heap.objs.size:=I.fpOk (yS _) (I.hok.fresh (yS _));have lte:e<s.heap.objs.size:=yR he;have lti:it<s.heap.objs.size:=by obtain ⟨o,q,_⟩:=hit;exact yR q
  refine wpAny_pyNext_enum_item he hit p.isList (x:=u) (by simpa using hu) hne λh1 heo hit1 ht1 hz1 hk1=>⟨_,rfl,?_⟩;refine wpAny_letOwnedTupleGo_enum heo λh2 he2 hs2=>?_;have hs2':Heap.SameBut e h1 h2:=hs2;have I2:Inv X pins U H { s with heap:=h2,toks:=s.toks+1 }:=I.turnedL (ch:=[e,it]) (λb o hb q=>by
   have n1:b≠e:=λz=>hb (by rw [z];simp);have n2:b≠it:=λz=>hb (by rw [z];simp);exact hs2'.extBut b o n1 (hk1 b o n1 n2 q)) hf
  obtain ⟨f0,f1,f2,f3,f4,f5⟩:=fz;have tup:h2.get? s.heap.objs.size=some { cls:= .type "tuple",data:= .seq #[.int i s.toks,u] }:=hs2'.extBut _ _ (Ne.symm (yL lte)) ht1;refine ⟨.ref s.heap.objs.size,j3 H s.heap.objs.size (.tup [.int i,x]),I2.track I.sz f0 f1 f4 f5 ?_,rfl,⟨s.heap.objs.size,x,f0,rfl,rfl,λys hy=>by rw [I.list_inj hy hq];exact hx⟩,⟨⟨u,?_⟩,?_⟩,λb hb=>?_⟩
  ·exact ⟨by show 2<=sizeLine;decide,[.int i s.toks,u],.cons ⟨_,rfl⟩ (.cons ru .nil),⟨_,tup,rfl,_,rfl⟩⟩
  ·have ei:(((i+1:Nat):Int))=(i:Int)+1:=by omega
   rw [ei];exact he2
  ·exact hit1.at λo q=>hs2'.extBut it o (Ne.symm hne) q
  ·have nb:b≠s.heap.objs.size:=by
    rcases yK.mp hb with rfl|hb
    ·exact yL lte
    ·have eb:b=it:=by simpa using hb
     rw [eb];exact yL lti
   rw [z9 nb];exact (hf b hb).1
 done:=by intro X hP hw hK hc i pins s U H E I hf st hg;subst hP hw hK;obtain ⟨⟨old,he⟩,hit⟩:=st;obtain ⟨xs,hq,hx⟩:=hg;obtain ⟨its,rv,p,hz⟩:=I.list hq;have hl:=rv.length;exact wpAny_pyNext_enum_end (I.ok.hd hc) he hit p.isList (by simp;omega) λh1 eb=>⟨rfl,I.turnedL (t':=s.toks) (ch:=[e,it]) (λb o hb q=>eb b o (λz=>hb (by rw [z];simp)) q) hf⟩
 self:=λ_ _ _ _ _ st h=>by
  obtain ⟨⟨old,he⟩,hit⟩:=st;exact wpAny_pyIter_enum he h
section
variable {X:Cx}{elts:List Expr}{x1:Nat}{tp:Pos}
def XJ (K:Fg)(ta:TA):TI:=λU H R=>ta U H λvs H1=>∃ a,vs=[.ref a]/\(∃ xs,SqL K H1 a xs)/\R (Ite K a) H1
theorem Py (hg:Gl X "enumerate")(hm:X.mg "enumerate"=none)(ha:PA X [a] ta)(hs:starEach [a] X.env=[(false,eval a X.env)]:=by rfl):PI X (.Tuple elts x1 tp) (.Call (.Name "enumerate" p) [a] [] pos) (XJ X.K ta):=by
 intro pins s U H R I h;refine Call_ (jD I hg hm UQ (PyProof.Rows.callWith_type1 (z6 (ha pos pins s U H _ I h) λus s1 ⟨vs,H1,I1,r1,q1⟩=>?_) hs rfl));obtain ⟨a,e,⟨xs,hq⟩,q⟩:=q1;subst e;cases r1 with
 |cons r rr =>
  cases rr;cases r;obtain ⟨its,rv,p,hz⟩:=I1.list hq;refine call_enumerate_list p.isList λh' he hit hsz hk=>?_;refine wpAny_pyIter_enum he ?_;refine ⟨s1.heap.objs.size+1,[s1.heap.objs.size+1,s1.heap.objs.size],_,_,H1,rfl,I1.kept (t':=s1.toks) hk,Dn a (s1.heap.objs.size+1) s1.heap.objs.size (Nat.ne_of_gt (Nat.lt_succ_self _)),⟨⟨_,he⟩,hit⟩,λb hb=>?_,q⟩;rcases yK.mp hb with rfl|hb
  ·exact I1.fpOk (Nat.le_succ _) (I1.hok.fresh (Nat.le_succ _))
  ·have eb:b=s1.heap.objs.size:=by simpa using hb
   subst eb;exact I1.fpOk (yS _) (I1.hok.fresh (yS _))
end
def Itz (K:Fg)(a b:Addr):It :=
  ⟨λi H=>∃ xs ys x y,SqL K H a xs/\SqL K H b ys/\xs[i]?=some x/\ys[i]?=some y,
   λi H z H'=>∃ p x y,H p=none/\z = .ref p/\H'=j3 H p (.tup [x,y])/\(∀ xs,SqL K H a xs->xs[i]?=some x)/\∀ ys,SqL K H b ys->ys[i]?=some y,
   λi H=>∃ xs ys,SqL K H a xs/\SqL K H b ys/\(xs.length<=i∨ys.length<=i)⟩
theorem Ds (a b z TI TO i1 i2:Addr)(d:[z,TI,TO,i1,i2].Nodup):zO P w K (.Tuple elts x1 tp) (Itz K a b) [z,TI,TO,i1,i2] z (λi h=>IsZip h z TI TO .none/\IsPair h TI (.ref i1) (.ref i2)/\(∃ u v,IsPair h TO u v)/\h.IsListIter i1 a i/\h.IsListIter i2 b i) where
 mem:=by simp
 obj:=λi h st c hc=>by
  obtain ⟨hz,hTI,⟨u,v,hTO⟩,h1,h2⟩:=st;have hc':c=z∨c=TI∨c=TO∨c=i1∨c=i2:=by simpa using hc
  rcases hc' with rfl|rfl|rfl|rfl|rfl
  ·exact ⟨_,hz,λv q=>by
    have q':Data.fields _=Data.cell v:=q;cases q'⟩
  ·exact ⟨_,hTI,λv q=>by
    have q':Data.seq _ _=Data.cell v:=q;cases q'⟩
  ·exact ⟨_,hTO,λv q=>by
    have q':Data.seq _ _=Data.cell v:=q;cases q'⟩
  ·obtain ⟨o,e1,cc,dd⟩:=h1;exact ⟨o,e1,λv q=>by rw [dd] at q;cases q⟩
  ·obtain ⟨o,e1,cc,dd⟩:=h2;exact ⟨o,e1,λv q=>by rw [dd] at q;cases q⟩
 keep:=λi h h' st k=>by
  obtain ⟨hz,hTI,⟨u,v,hTO⟩,h1,h2⟩:=st;exact ⟨k z (by simp) _ hz,k TI (by simp) _ hTI,⟨u,v,k TO (by simp) _ hTO⟩,h1.at λo e=>k i1 (by simp) o e,h2.at λo e=>k i2 (by simp) o e⟩
 item:=by
  intro X hP hw hK hc i pins s U H E I hf st hg;subst hP hw hK;obtain ⟨hz,hTI,⟨u0,v0,hTO⟩,h1,h2⟩:=st;obtain ⟨xs,ys,x,y,hqa,hqb,hx,hy⟩:=hg;obtain ⟨its,rv,p,_⟩:=I.list hqa;obtain ⟨jts,rw',p',_⟩:=I.list hqb;obtain ⟨u,hu,ru⟩:=rv.get hx;obtain ⟨v,hv,rv'⟩:=rw'.get hy;simp only [yu,yK,not_or,yg,not_false_eq_true,uK,and_true] at d;obtain ⟨⟨d1,d2,d3,d4⟩,⟨d5,d6,d7⟩,⟨d8,d9⟩,d10⟩:=d;have ap:ZipApart z TI TO i1 i2 a b:=⟨Ne.symm d1,Ne.symm d2,Ne.symm d3,Ne.symm d4,d5,d6,d7,d8,d9,d10,
   I.seq_ne hqa (hf z (by simp)),I.seq_ne hqa (hf TO (by simp)),I.seq_ne hqa (hf i1 (by simp)),I.seq_ne hqa (hf i2 (by simp)),
   I.seq_ne hqb (hf z (by simp)),I.seq_ne hqb (hf TO (by simp)),I.seq_ne hqb (hf i1 (by simp)),I.seq_ne hqb (hf i2 (by simp))⟩
  have fz:qH X pins H s.heap.objs.size:=I.fpOk (yS _) (I.hok.fresh (yS _));have lt:∀ c∈[z,TI,TO,i1,i2],c<s.heap.objs.size:=λc hc=>by
   have hc':c=z∨c=TI∨c=TO∨c=i1∨c=i2:=by simpa using hc
   rcases hc' with rfl|rfl|rfl|rfl|rfl
   ·exact yR hz
   ·exact yR hTI
   ·exact yR hTO
   ·obtain ⟨o,q,_⟩:=h1;exact yR q
   ·obtain ⟨o,q,_⟩:=h2;exact yR q
  refine wpAny_pyNext_zip_item ap hz hTI hTO h1 h2 p.isList p'.isList (x:=u) (y:=v) (by simpa using hu) (by simpa using hv) λh3 hz3 hTO3 h13 h23 hp3 hs3 hk3=>⟨_,rfl,?_⟩;refine wpAny_letOwnedTupleGo_zip hz3 λh4 hz4 hs4=>?_;have hs4':Heap.SameBut z h3 h4:=hs4;have I4:Inv X pins U H { s with heap:=h4,toks:=s.toks }:=I.turnedL (ch:=[z,TI,TO,i1,i2]) (λc o hc q=>by
   have n1:c≠z:=λe=>hc (by rw [e];simp);have n2:c≠TO:=λe=>hc (by rw [e];simp);have n3:c≠i1:=λe=>hc (by rw [e];simp);have n4:c≠i2:=λe=>hc (by rw [e];simp);exact hs4'.extBut c o n1 (hk3 c o n1 n2 n3 n4 q)) hf
  obtain ⟨f0,f1,f2,f3,f4,f5⟩:=fz;have tup:h4.get? s.heap.objs.size=some { cls:= .type "tuple",data:= .seq #[u,v] }:=hs4'.extBut _ _ (Ne.symm (yL (lt z (by simp)))) hp3;refine ⟨.ref s.heap.objs.size,j3 H s.heap.objs.size (.tup [x,y]),I4.track I.sz f0 f1 f4 f5 ?_,rfl,⟨s.heap.objs.size,x,y,f0,rfl,rfl,(λzs hy'=>by rw [I.list_inj hy' hqa];exact hx),λzs hy'=>by rw [I.list_inj hy' hqb];exact hy⟩,⟨hz4,?_,⟨u,v,?_⟩,?_,?_⟩,λc hc=>?_⟩
  ·exact ⟨by show 2<=sizeLine;decide,[u,v],.cons ru (.cons rv' .nil),⟨_,tup,rfl,_,rfl⟩⟩
  ·exact hs4'.extBut _ _ (Ne.symm d1) (hk3 _ _ (Ne.symm d1) d5 d6 d7 hTI)
  ·exact hs4'.extBut _ _ (Ne.symm d2) hTO3
  ·exact h13.at λo q=>hs4'.extBut i1 o (Ne.symm d3) q
  ·exact h23.at λo q=>hs4'.extBut i2 o (Ne.symm d4) q
  ·rw [z9 (yL (lt c hc))];exact (hf c hc).1
 done:=by
  intro X hP hw hK hc i pins s U H E I hf st hg;subst hP hw hK;obtain ⟨hz,hTI,⟨u0,v0,hTO⟩,h1,h2⟩:=st;obtain ⟨xs,ys,hqa,hqb,hend⟩:=hg;obtain ⟨its,rv,p,_⟩:=I.list hqa;obtain ⟨jts,rw',p',_⟩:=I.list hqb;have l1:=rv.length;have l2:=rw'.length;simp only [yu,yK,not_or,yg,not_false_eq_true,uK,and_true] at d;obtain ⟨⟨d1,d2,d3,d4⟩,⟨d5,d6,d7⟩,⟨d8,d9⟩,d10⟩:=d;have ap:ZipApart z TI TO i1 i2 a b:=⟨Ne.symm d1,Ne.symm d2,Ne.symm d3,Ne.symm d4,d5,d6,d7,d8,d9,d10,
   I.seq_ne hqa (hf z (by simp)),I.seq_ne hqa (hf TO (by simp)),I.seq_ne hqa (hf i1 (by simp)),I.seq_ne hqa (hf i2 (by simp)),
   I.seq_ne hqb (hf z (by simp)),I.seq_ne hqb (hf TO (by simp)),I.seq_ne hqb (hf i1 (by simp)),I.seq_ne hqb (hf i2 (by simp))⟩
  refine wpAny_pyNext_zip_end (I.ok.hd hc) ap hz hTI hTO h1 h2 p.isList p'.isList (hend.elim (λq=> .inl (by simp;omega)) (λq=> .inr (by simp;omega))) λh3 hk3=>⟨rfl,I.turnedL (t':=s.toks) (ch:=[z,TI,TO,i1,i2]) (λc o hc q=>?_) hf⟩;exact hk3 c o (λe=>hc (by rw [e];simp)) (λe=>hc (by rw [e];simp)) (λe=>hc (by rw [e];simp)) (λe=>hc (by rw [e];simp)) q
 self:=λ_ _ _ _ _ st h=>wpAny_pyIter_zip st.1 h
section
variable {X:Cx}{elts:List Expr}{x1:Nat}{tp:Pos}
def iZip (K:Fg)(ta:TA):TI:=λU H R=>ta U H λvs H1=>∃ a b,vs=[.ref a,.ref b]/\(∃ xs,SqL K H1 a xs)/\(∃ ys,SqL K H1 b ys)/\R (Itz K a b) H1
theorem PF {b:Expr}(hg:Gl X "zip")(hm:X.mg "zip"=none)(ha:PA X [a,b] ta)(hs:starEach [a,b] X.env=[(false,eval a X.env),(false,eval b X.env)]:=by rfl)(hs2:starEach [b] X.env=[(false,eval b X.env)]:=by rfl):PI X (.Tuple elts x1 tp) (.Call (.Name "zip" p) [a,b] [] pos) (iZip X.K ta):=by
 intro pins s U H R I h;refine Call_ (jD I hg hm UT (PyProof.Rows.callWith_type1 (z6 (ha pos pins s U H _ I h) λus s1 ⟨vs,H1,I1,r1,q1⟩=>?_) (by rw [hs,hs2]) (by rw [hs2];rfl)));obtain ⟨a,b,e,⟨xs,hq⟩,⟨ys,hq'⟩,q⟩:=q1;subst e;cases r1 with
 |cons r rr =>
  cases rr with
  |cons r' rr =>
   cases rr;cases r;cases r';obtain ⟨its,rv,p,hz⟩:=I1.list hq;obtain ⟨jts,rw',p',_⟩:=I1.list hq';refine call_zip_2 p.isList p'.isList λh' g1 g2 g3 g4 g5 hsz hk=>?_;refine wpAny_pyIter_zip g1 ?_;refine ⟨s1.heap.objs.size+4,[s1.heap.objs.size+4,s1.heap.objs.size+2,s1.heap.objs.size+3,s1.heap.objs.size,s1.heap.objs.size+1],_,_,H1,rfl,I1.kept (t':=s1.toks) hk,Ds a b _ _ _ _ _ ?_,⟨g1,g2,⟨_,_,g3⟩,g4,g5⟩,λc hc=>?_,q⟩
   ·simp only [yu,yK,not_or,yg,not_false_eq_true,uK,and_true];refine ⟨⟨?_,?_,?_,?_⟩,⟨?_,?_,?_⟩,⟨?_,?_⟩,?_⟩<;>(show ¬ (_:Nat)=_;omega)
   ·have hc':s1.heap.objs.size<=c:=by
     have hc2:c=s1.heap.objs.size+4∨c=s1.heap.objs.size+2∨c=s1.heap.objs.size+3∨c=s1.heap.objs.size∨c=s1.heap.objs.size+1:=by simpa using hc
     rcases hc2 with e|e|e|e|e<;>(rw [e];first|exact yS _|exact Nat.le_add_right _ _)
    exact I1.fpOk hc' (I1.hok.fresh hc')
end
section
variable {X:Cx}{K:Fg}
theorem XS (h:X.K=K):IxR X (rIxL K):=by subst h;exact ix_list
theorem VL (h:X.K=K):CallR X (.builtin "len") (λxs H Q=>∃ p ys,xs=[.ref p]/\(SqL K H p ys∨SqT K H p ys)/\Q (.int ys.length) H):=by subst h;exact Ga
theorem Gf (hc:X.calm=true)(h:X.K=K):CallR X (.builtin "sum") (λxs H Q=>∃ (a:Addr) (ns:List Int),xs=[.ref a]/\SqL K H a (ns.map V.int)/\Q (.int ns.sum) H):=by subst h;exact Ge hc
theorem Zp {es:List Expr}{k:Nat}{t:TGs}{n:Nat}(hc:X.calm=true)(hK:X.K=K)(h:PGs X es t)(hn:(assignEach es X.env).length=n:=by rfl)(hst:(assignEach es X.env).findIdx? (·.1)=none:=by rfl):PG X (.Tuple es k pos) (gTup K n t):=by subst hK;exact Px hc h hn hst
theorem qx {tg l:Expr}{tl:TE}(hK:X.K=K)(hl:PE X l tl):PI X tg l (Qs K tl):=by subst hK;exact PB hl
theorem Pz (hK:X.K=K)(hg:Gl X "enumerate")(hm:X.mg "enumerate"=none)(ha:PA X [a] ta)(hs:starEach [a] X.env=[(false,eval a X.env)]:=by rfl):PI X (.Tuple elts x1 tp) (.Call (.Name "enumerate" p) [a] [] pos) (XJ K ta):=by subst hK;exact Py hg hm ha hs
theorem PH {b:Expr}(hK:X.K=K)(hg:Gl X "zip")(hm:X.mg "zip"=none)(ha:PA X [a,b] ta)(hs:starEach [a,b] X.env=[(false,eval a X.env),(false,eval b X.env)]:=by rfl)(hs2:starEach [b] X.env=[(false,eval b X.env)]:=by rfl):PI X (.Tuple elts x1 tp) (.Call (.Name "zip" p) [a,b] [] pos) (iZip K ta):=by subst hK;exact PF hg hm ha hs hs2
end
section
variable {X:Cx}
theorem BZ:OpR X (compareOp .LtE) (λx y H Q=>∃ i j,x = .str i/\y = .str j/\Q (.bl (!decide (j.cps.toList<i.cps.toList))) H):=by intro pins s U H x y v u Q I rx ry h;obtain ⟨i,j,rfl,rfl,q⟩:=h;obtain ⟨t,rfl⟩:=rx;obtain ⟨t',rfl⟩:=ry;exact PySem.P.le_str (XG I q rfl)
def ItS (z:Str):It:=⟨λi _=>i<z.cps.size,λi H x H'=>H'=H/\∃ c,z.cps[i]?=some c/\x = .str ⟨#[c]⟩,λi _=>i=z.cps.size⟩
theorem Uc (it:Addr)(ty:String)(z:Str)(t:Tok)(W:∀ A':Around,A'.handled=none->Walks P w A' it [it] [it] z.cps.size (SignAt z) (λi h=>h.IsStrIter it ty z t i))(sf:∀(A:Around)(i:Nat)(s:Shared)(Q:Value->Shared->Prop)(E:Value->Shared->Prop),s.heap.IsStrIter it ty z t i->Q (.ref it) s->wpAny (model P w) A (pyIter (.ref it)) Q E s):zO P w K (.Name x px) (ItS z) [it] it (λi h=>h.IsStrIter it ty z t i) where
 mem:=by simp
 obj:=λi h st b hb=>by
  have e:b=it:=by simpa using hb
  subst e;obtain ⟨o,e,c,d⟩:=st;exact ⟨o,e,λv q=>by rw [d] at q;cases q⟩
 keep:=λi h h' st k=>by
  obtain ⟨o,e,r⟩:=st;exact ⟨o,k it (by simp) o e,r⟩
 item:=by intro X hP hw hK hc i pins s U H E I hf st hg;subst hP hw hK;obtain ⟨f0,f1,f2,f3,f4,f5⟩:=hf it (by simp);refine (W X.A (I.ok.hd hc)).item i s _ _ hg st λv h' tk hv st' kk=>?_;obtain ⟨c,u,e1,rfl⟩:=hv;have I1:Inv X pins U H { s with heap:=h',toks:=tk }:=I.turned (λb o hb e=>kk b o (by simpa using hb) e) f0 f1 f3 f4 f5;refine ⟨_,rfl,?_⟩;show wpAny _ _ (pure ()) _ _ _;exact yD ⟨.str ⟨#[c]⟩,H,I1,⟨u,rfl⟩,⟨rfl,c,e1,rfl⟩,st',λb hb=>(hf b hb).1⟩
 done:=by intro X hP hw hK hc i pins s U H E I hf st hg;subst hP hw hK;obtain ⟨f0,f1,f2,f3,f4,f5⟩:=hf it (by simp);have hg':i=z.cps.size:=hg;subst hg';exact (W X.A (I.ok.hd hc)).done s _ _ st λh' tk kk=>⟨rfl,I.turned (λb o hb e=>kk b o (by simpa using hb) e) f0 f1 f3 f4 f5⟩
 self:=sf
def iStr (tl:TE):TI:=λU H R=>tl U H λx H1=>∃ z,x = .str z/\R (ItS z) H1
theorem Ya {l:Expr}{tl:TE}(hl:PE X l tl):PI X (.Name x px) l (iStr tl):=by
 intro pins s U H R I h;refine z6 (hl pins s U H _ I h) λv s1 ⟨x,H1,I1,r1,q1⟩=>?_;obtain ⟨z,e,q⟩:=q1;subst e;obtain ⟨t,rfl⟩:=r1;have fp:∀ b∈[s1.heap.objs.size],qH X pins H1 b:=λb hb=>by
  have e:b=s1.heap.objs.size:=by simpa using hb
  subst e;exact I1.fpOk (yS _) (I1.hok.fresh (yS _))
 cases ha:z.cps.all (·<128)
 ·refine wpAny_pyIter_wide ha ?_;exact ⟨s1.heap.objs.size,[s1.heap.objs.size],_,_,H1,rfl,I1.kept (t':=s1.toks) λb o e=>yT _ e,Uc _ "str_iterator" z t (λA' hA=>Walks.strWide hA _ z t) (λ_ _ _ _ _ st h=>wpAny_pyIter_striter_wide st h),⟨_,yv _ rfl,rfl,rfl⟩,fp,q⟩
 ·refine wpAny_pyIter_ascii ha ?_;exact ⟨s1.heap.objs.size,[s1.heap.objs.size],_,_,H1,rfl,I1.kept (t':=s1.toks) λb o e=>yT _ e,Uc _ "str_ascii_iterator" z t (λA' hA=>Walks.strAscii hA _ z t) (λ_ _ _ _ _ st h=>wpAny_pyIter_striter_ascii st h),⟨_,yv _ rfl,rfl,rfl⟩,fp,q⟩
def tSlS (te:TE)(tl th:TO):TE:=λU H Q=>te U H λx H1=>tl U H1 λl H2=>th U H2 λu H3=>∃ z,x = .str z/\z.length<=sizeLine/\((l=none/\∃ j,u=some j)∨(u=none/\∃ i,l=some i))/\Q (.str (Txt.slice z l u)) H3
end
section
variable {X:Cx}{K:Fg}
def Yk (K:Fg):R2:=λx y H Q=>∃ l b xs zs,x = .ref l/\y = .ref b/\SqL K H l xs/\SqL K H b zs/\xs.length+zs.length<=sizeLine/\∀ p,H p=none->Q (.ref p) (j3 H p (.lst (xs++zs)))
theorem op_catL:OpR X (binaryOp .Add) (Yk X.K):=by
 intro pins s U H x y v u Q I rx ry h;obtain ⟨l,b,xs,zs,rfl,rfl,hH,hB,hz,q⟩:=h;cases rx;cases ry;obtain ⟨its,r,⟨⟨cls,dd,data,sl⟩,n,e,h1,h2,h3⟩,_⟩:=I.list hH;obtain ⟨its2,r2,⟨⟨cls2,dd2,data2,sl2⟩,n2,e2,k1,k2,k3⟩,_⟩:=I.list hB
 dsimp only at h1 h2 h3 k1 k2 k3
 subst h1 h2 h3 k1 k2 k3;have hl:=r.length;have hl2:=r2.length;have hsz:its.toArray.size+its2.toArray.size<=sizeLine:=by rw [yY,yY];omega
 refine concat_meets ⟨_,e,rfl⟩ ⟨_,e2,rfl⟩ noFill_list_add seq_list_add PySem.F.slot_list_add PySem.F.entry_list_add (PySem.F.args_list_add_2 _ _) (list_addW l b its.toArray its2.toArray n n2 none none sl sl2 hsz) ⟨e,e2,?_⟩;have ea:its.toArray++its2.toArray=(its++its2).toArray:=by simp
 rw [ea];exact ⟨.ref _,_,I.lnew (t':=s.toks) (r.append r2) (by rw [yF];omega),rfl,q _ I.fresh⟩
end
section
variable {P:Program}{w:World}{H H' H0:Hp}{h h' h0:Heap}{a:Addr}{o:HO}
theorem ObjOk.here (x:ObjOk P w H h a o):∃ u,h.get? a=some u:=by
 cases o with
 |lst xs=>obtain ⟨_,_,_,_,e⟩:=x;exact ⟨_,e⟩
 |tup xs=>obtain ⟨_,_,_,_,e,_⟩:=x;exact ⟨_,e⟩
 |dK kvs=>obtain ⟨_,_,_,_,_,_,_,e,_⟩:=x;exact ⟨_,e⟩
 |dT kvs=>obtain ⟨_,_,_,_,_,_,_,e,_⟩:=x;exact ⟨_,e⟩
 |set S n=>obtain ⟨_,_,_,_,e,_⟩:=x;exact ⟨_,e⟩
 |ins C dx fs=>obtain ⟨_,_,_,e,_⟩:=x;exact ⟨_,e⟩
 |own y=>obtain ⟨_,e⟩:=x;exact ⟨_,e⟩
 |xd fs=>obtain ⟨_,⟨_,_,_,e,_⟩,_⟩:=x;exact ⟨_,e⟩
 |rng lo hi=>obtain ⟨_,_,_,e⟩:=x;exact ⟨_,e⟩
 |frz ob u=>obtain ⟨e,_⟩:=x;exact ⟨_,e⟩
 |tbl ps q=>obtain ⟨_,e,_⟩:=x;exact ⟨_,e⟩
 |met f y=>exact ⟨_,(show h.get? a=some _ from x)⟩
 |ext φ=>obtain ⟨_,⟨_,e⟩,_⟩:=x;exact ⟨_,e⟩
theorem HOk.gone (x:HOk P w H h)(e:h.get? a=none):H a=none:=by
 cases q:H a with
 |none=>rfl
 |some u=>obtain ⟨v,z⟩:=(x a u q).here;rw [e] at z;cases z
theorem HOk.off (x:HOk P w H h)(k:∀ b u,b∉S->h.get? b=some u->h'.get? b=some u)(hS:∀ b∈S,H b=none):HOk P w H h':=λb u e=>by
 have out:∀ c v,H c=some v->c∉S:=λc v q z=>by
  have n:=hS c z;rw [q] at n;cases n
 refine (x b u e).stay (λc v hc q=>k c v ?_ q) (λ_ q=>q) (λ_ _ q=>q) λ_ _ _ q=>q;rcases hc with z|z
 ·rw [z];exact out b u e
 ·exact out c _ z
theorem Un.off {fs ex:List Addr}(u:Un fs ex H0 H h0 h)(k:∀ b o,b∉S->h.get? b=some o->h'.get? b=some o)(hS:∀ b∈S,b∈fs∨h0.get? b=none)(sl:∀ b o,b∈fs->h.get? b=some o->∃ z,h'.get? b=some { o with slots:=z }):Un fs ex H0 H h0 h' where
 keep:=λb o e n hb hx=>k b o (λz=>by
  rcases hS b z with q|q
  ·exact hb q
  ·rw [e] at q;cases q) (u.keep b o e n hb hx)
 slot:=λb o e n hb hx=>by
  obtain ⟨z,q⟩:=u.slot b o e n hb hx;obtain ⟨z2,q2⟩:=sl b _ hb q;exact ⟨z2,q2⟩
 free:=u.free
 there:=λb o e hx=>by
  obtain ⟨o',q⟩:=u.there b o e hx;by_cases hb:b∈fs
  ·obtain ⟨z,q2⟩:=sl b _ hb q;exact ⟨_,q2⟩
  ·exact ⟨o',k b o' (λz=>by
    rcases hS b z with y|y
    ·exact hb y
    ·rw [e] at y;cases y) q⟩
 tups:=u.tups
 frzs:=u.frzs
 tbls:=u.tbls
end
structure Fly (h0 h:Heap)(H:Hp)(e:Addr)(cls:Value):Prop where
 ex:∃ oe vs T oT ts a0,h.get? e=some oe/\oe.cls=cls/\vs[0]?=some a0/\oe.data = .fields vs/\vs[1]?=some (.ref T)/\T≠e/\h.get? T=some oT/\oT.data = .fields ts/\ts[3]?=some .none/\H T=none/\h0.get? T=none
 free:H e=none
 new:h0.get? e=none
def CX1 (P:Program)(w:World):CXT:=λouter H s E e s'=>∃ ea cls H',e = .ref ea/\s'.os=s.os/\AllBare s'.gens/\Un (p7 outer) [] H H' s.heap s'.heap/\HOk P w H' s'.heap/\Fly s.heap s'.heap H' ea cls/\E cls none H'
theorem Zb {env:Env}(h:env∈l)(hf:env.frame=some b):b∈p7 l:=yc.mpr ⟨env,h,hf⟩
section
variable {M:Model}{A:Around}{Er:Value->Shared->Prop}{s:Shared}{h0 base:Heap}{H:Hp}{P:Program}{w:World}{env:Env}{outer:List Env}{L e:Addr}{cls:Value}{Q:Unit->Shared->Prop}
structure Kept (S:List Addr)(l:List Env)(h h':Heap):Prop where
 keep:∀ b o,b∉S->h.get? b=some o->h'.get? b=some o
 slot:∀ b o,b∈p7 l->h.get? b=some o->∃ z,h'.get? b=some { o with slots:=z }
theorem Gx {B:Heap}{T:Addr}{oT:Obj}{ts:Array Value}(hok:HOk P w H h1)(hp:∀ b o,h0.get? b=some o->∃ o',h1.get? b=some o')(fr:h1.FunFrames base l)(hB:B=PySem.W.hideAll h1 (S++p7 l))(up:∀ b o,b∈p7 l->h1.get? b=some o->∃ z,h'.get? b=some { o with slots:=z })(hn:B.get? T=none)(hT:h'.get? T=some oT)(hd:oT.data = .fields ts)(hS:T∈S->H T=none/\h0.get? T=none):H T=none/\h0.get? T=none:=by
 cases q:h1.get? T with
 |none =>
  refine ⟨hok.gone q,?_⟩;cases z:h0.get? T with
  |none=>rfl
  |some o=>obtain ⟨o',z2⟩:=hp T o z;rw [q] at z2;cases z2
 |some o =>
  by_cases m:T∈S++p7 l
  ·rcases yA.mp m with m|m
   ·exact hS m
   ·obtain ⟨z,z2⟩:=up T o m q;obtain ⟨_,o2,z3,z4⟩:=fr.mem m;rw [q] at z3;cases z3;rw [hT] at z2;have e:=Option.some.inj z2;rw [e] at hd;exact absurd hd (z4 ts)
  ·rw [hB,PySem.W.hideAll_get _ q m] at hn;cases hn
theorem KL {args:List Value}(hfr:A.frames=some (env::outer))(hf:env.frame=some L)(fr:h1.FunFrames base (env::outer))(hok:HOk P w H h1)(hp:∀ b o,h0.get? b=some o->∃ o',h1.get? b=some o')(mk:Heap.MadeExcOf h1 s.heap e cls args)(hQ:∀ h',Kept (p7 (env::outer)) (env::outer) h1 h'->Fly h0 h' H e cls->Q () { s with heap:=h' }):wpAny M A (leaving env (.ref e)) Q Er s:=by
 have hin:∀ x∈env::outer,∀ b,x.frame=some b->b∈[]++p7 (env::outer):=λx hx b hb=>yC _ (Zb hx hb);refine wpAny_leaves_madeW (base:=PySem.W.hideAll h1 ([]++p7 (env::outer))) hfr hf (λb o q=>PySem.W.of_hideAll _ q) (PySem.W.funFrames_hide fr hin) mk λh' t x _ _ up=>?_;obtain ⟨f1,f2,f3,oe',vs',T',oT',ts',g1,⟨g2,g3⟩,g4,g5,g6,g7,g8,g9,g10⟩:=x;have sl:∀ b o,b∈p7 (env::outer)->h1.get? b=some o->∃ z,h'.get? b=some { o with slots:=z }:=λb o hb q=>up b o (mk.keeps b o q) (by
  obtain ⟨_,o2,z3,z4⟩:=fr.mem hb;rw [q] at z3;cases z3;exact z4)
 obtain ⟨n1,n2⟩:=Gx (S:=[]) hok hp fr rfl sl g6 g8 g9 (λz=>nomatch z);refine hQ h' ⟨λb o nb q=>f1 b o (PySem.W.hideAll_get _ q (by simpa using nb)),sl⟩ ⟨⟨oe',vs',T',oT',ts',_,g1,g2,g3,g4,g5,g7,g8,g9,g10,n1,n2⟩,hok.gone mk.new,?_⟩;cases z:h0.get? e with
 |none=>rfl
 |some o=>obtain ⟨o',z2⟩:=hp e o z;rw [mk.new] at z2;cases z2
end
def JM (X:Cx)(E:XK):Prop:=∀(pins:List (Addr×Obj))(U:St)(H:Hp)(s:Shared)(ea:Addr)(h':Heap)(C:Addr)(args:List Value),Inv X pins U H s->Heap.MadeExcOf s.heap h' ea (.ref C) args->E (.ref C) none H->X.xe (.ref ea) { s with heap:=h' }
section
variable {P:Program}{w:World}{K:Fg}{mg:Str->Option Value}{base:Heap}{N:List Str}{qual:Str}{scope:Scope}{f:Addr}{cd:Value}{A:Around}{outer:List Env}{s:Shared}{H:Hp}{E:XK}
theorem Dl:JM (ql (CX1 P w) P w K mg base N qual scope f cd A outer s H E) E:=by
 intro pins U H1 s1 ea h' C args I mk q;refine KL (h0:=s.heap) (H:=H1) (P:=P) (w:=w) (base:=base) (L:=s.heap.objs.size) I.ok.frames rfl I.stack I.hok (λb o e=>I.base.there b o e (λz=>nomatch z)) mk λh2 k F=>?_;refine ⟨ea,.ref C,H1,rfl,I.os,I.bare,Un.off (S:=p7 (envOfC qual scope s.heap.objs.size f cd::outer)) I.base k.keep (λb hb=>?_) (λb o hb e=>k.slot b o (yc.mpr ?_) e),I.hok.off k.keep (λb hb=>I.stkFree b hb),F,q⟩
 ·rcases yK.mp (I.stkSub b hb) with z|z
  ·refine .inr ?_;rw [z];exact uW (yS _)
  ·exact .inl z
 ·obtain ⟨x,hx,hf⟩:=yc.mp hb;exact ⟨x,yW _ hx,hf⟩
theorem Fun.ok1 {qual:Str}{st:Stmt}{f:Addr}{fd:FuncData}{N ps:List Str}{k:Nat}{sp:Sp}(F:Fun K x qual st f fd)(S:w5 N ps (j5 st))(len:∀ vs H Q E,sp vs H Q E->vs.length=ps.length)(hbody:∀(cdv:Value)(A:Around)(outer:List Env)(s:Shared)(H:Hp)(vs:List V)(Q:VK)(E:XK),Room k (A.deeper (envOfC qual (j5 st) s.heap.objs.size f cdv))->sp vs H Q E -> ∃ t,PSs (ql (CX1 P w) P w K mg base N qual (j5 st) f cdv A outer s H E) (i0 st) t/\t { nx:=λ_ H'=>Q .non H',rt:=Q } (start N vs) H):FnOk P w K mg base (CX1 P w) (k+1) f fd ps sp:=by obtain ⟨oc,od,kV,doc,pm,an,cdv,ct,osl,rfl,lk,hcd⟩:=F.ex;exact XH lk hcd S len λA outer s H vs Q E hr hsp=>hbody cdv A outer s H vs Q E hr hsp
end
theorem Pd {mg:Str->Option Value}{C:Addr}{bmB:List Value}{newId:String}(X:K.In h)(hm:mg x=some (.ref C))(q:PySem.W.excIn K C bmB newId=true):OwnCls x C bmB newId mg h:=by
 constructor
 ·exact hm
 unfold PySem.W.excIn at q;split at q
 next dA cA sA lk =>
  split at q
  next D mr s0 s1 s2 s3 nw s5 em es =>
   rw [yp,yp,yp,yp,yp] at q;obtain ⟨⟨⟨⟨⟨q1,q2⟩,q3⟩,q4⟩,q5⟩,q6⟩:=q;have r1:D=C:=beq_iff_eq.mp q1;have r2:nw=newId:=beq_iff_eq.mp q2;have r6:=beq_iff_eq.mp q6;subst r1 r2;cases cA with
   |mk f1 f2 f3 f4 f5 f6 f7 f8 f9 f10 f11 =>
    have em':f3 = .ref D::mr:=em;have q3':f11=false:=by simpa using q3
    have es':sA=#[s0,s1,s2,s3,some (.builtin nw),s5]:=by
     cases sA with
     |mk l=>exact congrArg Array.mk es
    subst em' q3' es';have nsx:=PySem.W.isNs_of_in X (show PySem.W.nsOkIn K f4=true from q5);refine ⟨mr,f4,f1,f5,f2,f6,f7,f8,f9,f10,dA,s0,s1,s2,s3,s5,_,X _ _ lk,Heap.Ns.of_isNs nsx,?_,PySem.W.tail_of_in X q4⟩;exact PySem.W.nsMap_none_of_in X q5 r6
  next=>cases q
 next=>cases q
def Uo:List Value:=[.type "ValueError",.type "Exception",.type "BaseException",.type "object"]
section
variable {X:Cx}{x:Str}{C:Addr}{E:XK}{np cpos pos:Pos}
def Jm (C:Addr)(E:XK):TS:=λ_ _ H=>E (.ref C) none H
theorem PR (hc:X.calm=true)(hg:Gl X x)(hm:X.mg x=some (.ref C))(q:PySem.W.excIn X.K C Uo "ValueError.__new__"=true)(ht:JM X E)(hd:(x==("__debug__":Str))=false:=by decide):PS X (.Raise (some (.Call (.Name x np) [] [] cpos)) none pos) (Jm C E):=by
 intro pins s U H D I h;obtain ⟨tl,N,nm,qn,bs,hdct,sn,sub,ab,col,dd,k0,k1,k2,k3,k5,mN,hC,hN,hni,TL⟩:=(Pd (mg:=X.mg) I.kIn hm q).obj;refine wpAny_Raise_call_subU (C:=C) (nm:=nm) (q:=qn) (N:=N) (bs:=bs) (bm:=tl) (hdct:=hdct) (sn:=sn) (sub:=sub) (ab:=ab) (col:=col) (dd:=dd) (k0:=k0) (k1:=k1) (k2:=k2) (k3:=k3) (k5:=k5)
  PySem.F.excBase_ValueError (by decide) PySem.F.excBase_ValueError (mN:=mN) (TL.hasType PySem.F.excBase_ValueError.hasBase) (I.ok.hd hc) rfl hni (wo I hg hm ⟨rfl,?_⟩ hd)
 exact evalArgs_empty ⟨rfl,yi _,hC,hN,TL,λh' ea mk=>ht pins U H s ea h' C [] I mk h⟩
end
abbrev Cx.tried (X:Cx)(pn:List (Addr×Obj))(W:Value->Shared->Prop):Cx:={ X with pn:=pn,xe:=W }
abbrev Cx.suite (X:Cx)(pn:List (Addr×Obj))(ea:Addr):Cx:={ X with A:=X.A.mark (some (.ref ea)),calm:=false,pn:=pn,xe:=λ_ _=>False }
section
variable {X:Cx}{pins:List (Addr×Obj)}{U:St}{H:Hp}{s:Shared}{W:Value->Shared->Prop}{b ea:Addr}
theorem Cx.Ok.tried (ok:X.Ok)(pn:List (Addr×Obj))(W:Value->Shared->Prop):(X.tried pn W).Ok :=
 ⟨ok.mod,ok.kind,ok.glob,ok.blt,ok.above,ok.inj,ok.has,ok.cab,ok.hd,ok.frames,ok.stk,ok.exf,ok.bs,ok.bsz,ok.noex,ok.exfs,ok.funs,ok.frf,ok.tbs⟩
theorem Cx.Ok.suite (ok:X.Ok)(pn:List (Addr×Obj))(ea:Addr):(X.suite pn ea).Ok :=
 ⟨ok.mod,ok.kind,ok.glob,ok.blt,ok.above,ok.inj,ok.has,ok.cab,(λz=>nomatch z),ok.frames,ok.stk,ok.exf,ok.bs,ok.bsz,ok.noex,ok.exfs,ok.funs,ok.frf,ok.tbs⟩
theorem Inv.tried (I:Inv X pins U H s)(W:Value->Shared->Prop):Inv (X.tried (X.pn++pins) W) [] U H s :=
 ⟨I.ok.tried _ _,I.os,I.bare,I.base,I.loc,I.cell,I.free,I.freeC,λp hp=>I.pin p (by simpa using hp),I.hok,I.len⟩
theorem Inv.untried (ok:X.Ok)(I:Inv (X.tried (X.pn++pins) W) p2 U H s):Inv X pins U H s :=
 ⟨ok,I.os,I.bare,I.base,I.loc,I.cell,I.free,I.freeC,λp hp=>I.pin p (yk _ hp),I.hok,I.len⟩
theorem Inv.suite (I:Inv X pins U H s)(e1:s.heap.get? ea=some oe)(e2:H ea=none)(e3:ea≠X.env.locals)(e4:ea∉X.fs)(e5:∀ v,oe.data ≠ .cell v):Inv (X.suite (X.pn++pins++[(ea,oe)]) ea) [] U H s :=
 ⟨I.ok.suite _ _,I.os,I.bare,I.base,I.loc,I.cell,I.free,I.freeC,λp hp=>by
  have hp':p∈X.pn++pins++[(ea,oe)]:=by simpa using hp
  rcases yA.mp hp' with z|z
  ·exact I.pin p z
  ·have q:p=(ea,oe):=by simpa using z
   subst q;exact ⟨e1,e2,e3,e4,e5⟩,I.hok,I.len⟩
theorem Inv.unsuite (ok:X.Ok)(I:Inv (X.suite (X.pn++pins++[(ea,oe)]) ea) p2 U H s):Inv X pins U H s :=
 ⟨ok,I.os,I.bare,I.base,I.loc,I.cell,I.free,I.freeC,λp hp=>I.pin p (yk _ (yk _ hp)),I.hok,I.len⟩
structure Xm (X:Cx)(pins:List (Addr×Obj))(b:Addr):Prop where
 s0:X.s₀.heap.get? b=none
 loc:b≠X.env.locals
 cel:∀ x c,X.env.cells.lookup x=some c->c≠b
 pin:∀ p∈X.pn++pins,p.1≠b
 fs:b∉X.fs
theorem Inv.apart (I:Inv X pins U H s)(hex:X.ex=[])(n:s.heap.get? b=none):Xm X pins b where
 s0:=by
  cases z:X.s₀.heap.get? b with
  |none=>rfl
  |some o=>obtain ⟨o',q⟩:=I.base.there b o z (by rw [hex];exact λz=>nomatch z);rw [n] at q;cases q
 loc:=λz=>by
  obtain ⟨m,⟨o,es,ep,ho,_⟩,_⟩:=I.loc;rw [<- z,n] at ho;cases ho
 cel:=λx c e z=>by
  obtain ⟨v,o,ho,_⟩:=I.cell x c e;rw [z,n] at ho;cases ho
 pin:=λp hp z=>by
  have q:=(I.pin p hp).1;rw [z,n] at q;cases q
 fs:=λz=>by
  obtain ⟨_,o,ho,_⟩:=I.funs.mem z;rw [n] at ho;cases ho
theorem Inv.flown (I:Inv X pins U H s)(hf:X.env.frame=some X.env.locals)(hst:X.stack=X.env::X.outer)(hS:∀ c∈S,H c=none/\Xm X pins c)(k:Kept (S++p7 X.stack) X.stack s.heap h'):Inv X pins U H { s with heap:=h' }:=by
 have hL:X.env.locals∈p7 X.stack:=by rw [hst];exact Zb yV hf
 have sub:∀ c,c∈X.fs->c∈p7 X.stack:=λc hc=>by
  rw [hst];obtain ⟨x,hx,q⟩:=yc.mp hc;exact yc.mpr ⟨x,yW _ hx,q⟩
 have celK:∀ x c,X.env.cells.lookup x=some c->∀ v,s.heap.IsCell c v->h'.IsCell c v:=λx c e v ⟨o,ho,hd⟩=>by
  by_cases hc:c∈p7 X.stack
  ·obtain ⟨z,q⟩:=k.slot c o hc ho;exact ⟨_,q,hd⟩
  ·exact ⟨o,k.keep c o (λz=>(yA.mp z).elim (λy=>(hS c y).2.cel x c e rfl) hc) ho,hd⟩
 refine ⟨I.ok,I.os,I.bare,I.base.off k.keep (λc hc=>?_) (λc o hc q=>k.slot c o (sub c hc) q),?_,λx c e=>?_,I.free,I.freeC,λp hp=>?_,I.hok.off k.keep (λc hc=>?_),I.len⟩
 ·rcases yA.mp hc with z|z
  ·exact .inr (hS c z).2.s0
  ·rcases yK.mp (I.stkSub c z) with y|y
   ·refine .inr ?_;rw [y];exact uW I.ok.above
   ·exact .inl y
 ·obtain ⟨m,⟨o,es,ep,ho,r⟩,hl⟩:=I.loc;obtain ⟨z,q⟩:=k.slot _ o hL ho;refine ⟨m,⟨_,es,ep,q,r⟩,λi x v e1 e2 e3=>?_⟩;obtain ⟨u,r2,l⟩:=hl i x v e1 e2 e3;refine ⟨u,r2,?_⟩;rcases l with l|⟨k1,c,e,y⟩
  ·exact .inl l
  ·exact .inr ⟨k1,c,e,celK x c e _ y⟩
 ·obtain ⟨v,z⟩:=I.cell x c e;exact ⟨v,celK x c e v z⟩
 ·obtain ⟨e,n,ne,nf,d⟩:=I.pin p hp;refine ⟨k.keep p.1 p.2 (λz=>?_) e,n,ne,nf,d⟩;rcases yA.mp z with y|y
  ·exact (hS p.1 y).2.pin p hp rfl
  ·rcases yK.mp (I.stkSub p.1 y) with q|q
   ·exact ne q
   ·exact nf q
 ·rcases yA.mp hc with z|z
  ·exact (hS c z).1
  ·exact I.stkFree c z
theorem Inv.goes {M:Model}{A:Around}{Er:Value->Shared->Prop}{i:Nat}{n:Str}{Q:Unit->Shared->Prop}(I:Inv X pins U H s)(hN:X.N.Nodup)(hi:X.N[i]?=some n)(hl:X.env.kindOf n=some .local)
  (h:∀ s',Inv X pins (U.set i none) H s'->Q () s'):wpAny M A (do bindName X.env n .none;unbindBehindTheSuite X.env n pos) Q Er s:=by
 obtain ⟨m,hn,hv⟩:=id I.loc;have iσ:i<U.length:=by rw [I.len];exact (yq.mp hi).1
 refine wpAny_nameGoes_keeps hl hn (by rw [I.ok.kind];rfl) λh' v hn' hs=>h _ ?_;obtain ⟨oL,_,_,hoL,_⟩:=id hn;have neL:∀ c o,X.s₀.heap.get? c=some o->c≠X.env.locals:=λc o e z=>by
  rw [z,uW I.ok.above] at e;cases e
 refine ⟨I.ok,I.os,I.bare,I.base.off (S:=[X.env.locals]) (λc o nc q=>(hs.2 c (λz=>nc (by simp [z]))).trans q) (λc hc=>?_) (λc o hc q=>⟨o.slots,(hs.2 c (λz=>?_)).trans q⟩),⟨_,hn',λj y v' e1 e2 e3=>?_⟩,λy c e=>?_,I.free,I.freeC,λp hp=>?_,
  I.hok.off (S:=[X.env.locals]) (λc o nc q=>(hs.2 c (λz=>nc (by simp [z]))).trans q) (λc hc=>?_),by simpa using I.len⟩
 ·have z:c=X.env.locals:=by simpa using hc
  refine .inr ?_;rw [z];exact uW I.ok.above
 ·rw [z] at hc;obtain ⟨_,o2,h2,_⟩:=I.ok.funs.mem hc;rw [uW I.ok.above] at h2;cases h2
 ·by_cases hj:j=i
  ·subst hj;rw [uP iσ] at e2;cases e2
  ·rw [yH (Ne.symm hj)] at e2;obtain ⟨u',r',q⟩:=hv j y v' e1 e2 e3;refine ⟨u',r',?_⟩;rcases q with ⟨k,e⟩|⟨k,c,e,z⟩
   ·refine .inl ⟨k,?_⟩;have ny:y≠n:=λe=>hj (Ze hN e1 (e▸hi));simp [ny,e]
   ·exact .inr ⟨k,c,e,z.sameBut hs (I.cne y c e)⟩
 ·obtain ⟨w',z⟩:=I.cell y c e;exact ⟨w',z.sameBut hs (I.cne y c e)⟩
 ·obtain ⟨e,n,ne,nf,d⟩:=I.pin p hp;exact ⟨(hs.2 p.1 ne).trans e,n,ne,nf,d⟩
 ·have z:c=X.env.locals:=by simpa using hc
  rw [z];exact I.free
end
theorem SP.untried {X:Cx}{pins:List (Addr×Obj)}{W:Value->Shared->Prop}{D:qk}{f:Flow}{s:Shared}(ok:X.Ok)(h:SP (X.tried (X.pn++pins) W) p2 D f s):SP X pins D f s:=by
 cases f with
 |next=>obtain ⟨σ',H',I,q⟩:=h;exact ⟨σ',H',I.untried ok,q⟩
 |brk=>obtain ⟨σ',H',I,q⟩:=h;exact ⟨σ',H',I.untried ok,q⟩
 |cont=>obtain ⟨σ',H',I,q⟩:=h;exact ⟨σ',H',I.untried ok,q⟩
 |ret u=>obtain ⟨v,σ',H',I,r,q⟩:=h;exact ⟨v,σ',H',I.untried ok,r,q⟩
theorem YL {base:Heap}(fr:h.FunFrames base l)(k:(PySem.W.hideAll h (S++p7 l)).StaysIn h')(up:h.UpToSlots h'):Kept (S++p7 l) l h h' :=
 ⟨λb o nb q=>k b o (PySem.W.hideAll_get _ q nb),λb o hb q=>up b o q (by
  obtain ⟨_,o2,z3,z4⟩:=fr.mem hb;rw [q] at z3;cases z3;exact z4)⟩
end L2
namespace L2
open PySem PySem.Spec PyProof.Rows PySem.W Builtin Builtin.ObjectAttr Builtin.Getset_descriptor
variable{C ea:Addr}{h:Heap}
theorem UP:bootBuiltins "ValueError"=some (.type "ValueError"):=by decide +kernel
structure xB (K:Fg)(C:Addr):Prop where
 cls:(clsIn K C).isSome=true
 ga:findIn K (.ref C) "__getattribute__"=some (some (.builtin "BaseException.__getattribute__"))
 gt:findIn K (.ref C) "__getattr__"=some none
 cl:findIn K (.ref C) "__class__"=some (some (.builtin "object.__class__"))
 sp:specialIn K (.builtin "object.__class__") "__get__"=some (some (.builtin "getset_descriptor.__get__"))
 tk:takesIn K (.builtin "object.__class__")=some true
 ob:mroIn K C (.type "object")=some true
 be:mroIn K C (.type "BaseException")=some true
def ExcAt (ea C:Addr)(h:Heap):Prop:=∃ o,h.get? ea=some o/\o.cls = .ref C
theorem ExcAt.ty {M:Model}(p:ExcAt ea C h):Looks M h (typeOf (.ref ea)) (.ref C):=by obtain ⟨o,a,b⟩:=p;exact b▸(Looks.ld a).andThen .now
section
variable {prog:Program}{w:World}{A:Around}{K:Fg}{s:Shared}{ea C:Addr}
theorem GL {R:Result->Shared->Prop}{tp:Value}(T:xB K C)(X:K.In s.heap)(p:ExcAt ea C s.heap)(h:R (.ok (.ret (.ref C))) s):codeAny (model prog w) A (.call (.builtin "getset_descriptor.__get__") ⟨[.builtin "object.__class__",.ref ea,tp],[]⟩) R s:=by
 cases s with
 |mk hp gs dr tk os =>
  have y0:=p.ty (M:=model prog w);have y1:=looks_mroIn (M:=model prog w) X T.ob;refine codeAny_call_builtin KF.slot_gs.plain KF.entry_gs ?_;refine KF.slot_gs.check _ _ _ _ _ _ _ _ KF.type_class (KF.args_gs _ _ _) ?_;unfold Builtin.«getset_descriptor.__get__» descrGet;rw [dga_obj (.builtin "object.__class__") tp ea];apply yU;apply yD;unfold descrGetter descrCheckInstance descrNameAndClass isInstance;simp only [KF.owner_class]
  repeat lk
  constructor
  ·exact Code.quiet_builtin _ (by decide +kernel)
  ·refine codeAny_builtin KF.entry_class ?_;unfold Builtin.«object.__class__» shownTypeOf
   repeat lk
   exact h
theorem GM {M:Model}(T:xB K C)(X:K.In h):Looks M h (find (.ref ea) (.ref C) "__class__") (.bind (.builtin "getset_descriptor.__get__") (.builtin "object.__class__")):=by have y1:=looks_findIn (M:=M) X T.cl;have y2:Looks M h (getOf (some (.builtin "object.__class__"))) (some (.builtin "getset_descriptor.__get__")):=looks_specialIn X T.sp;have y3:=looks_takesIn (M:=M) X T.tk;have y4:Looks M h (dataDescriptor? (some (.builtin "object.__class__")) (some (.builtin "getset_descriptor.__get__"))) (some (.builtin "getset_descriptor.__get__",.builtin "object.__class__")):=y3.andThen .now;exact y1.andThen (y2.andThen (y4.andThen (Looks.tag .now)))
theorem GK {Q:Option Value->Shared->Prop}{Er:Value->Shared->Prop}(T:xB K C)(X:K.In s.heap)(p:ExcAt ea C s.heap)(h:Q (some (.ref C)) { s with toks:=s.toks+1 }):wpAny (model prog w) A (getAttr? (.ref ea) "__class__") Q Er s:=by
 cases s with
 |mk hp gs dr tk os =>
  have y0:=p.ty (M:=model prog w);have y1:=looks_findIn (M:=model prog w) X T.ga;have y2:=looks_findIn (M:=model prog w) X T.gt;have y3:=GM (M:=model prog w) (ea:=ea) T X;have y4:=looks_mroIn (M:=model prog w) X T.be;unfold getAttr? getAttrBy? getAttrBy;refine yU (wpAny_mkText (yU (wpAny_attempt (wpAny_holding (yU (y0.at ?_))))));refine yU (y1.at ?_);have n1:(onTheHeap (Value.ref C)&&Value.builtin "BaseException.__getattribute__" == Value.builtin "object.__getattribute__")=false:=by rw [show (Value.builtin "BaseException.__getattribute__" == Value.builtin "object.__getattribute__")=false by decide +kernel,Bool.and_false]
  dsimp only
  rw [n1,if_neg yX];unfold getAttrByItsOwn hookBefore;rw [show onTheHeap (Value.ref C)=true from rfl,if_pos rfl];refine yU (y2.at ?_);refine yU (wpAny_attempt (wpAny_holding ?_));unfold callGetattribute boundAndCalled;rw [Bool.false_and,if_neg yX];refine yU (wpAny_of_eq (PySem.F.excAttr_ValueError.ga.bind (.ref ea)) ?_);refine wpAny_call (codeAny_call_builtin PySem.F.excAttr_ValueError.ga.plain PySem.F.entry_bexc_ga ?_);have hk:builtinKind "BaseException.__getattribute__"=some .slot:=by decide +kernel
  have hq:splitId "BaseException.__getattribute__"=some ("BaseException","__getattribute__"):=by decide +kernel
  have ha:=PySem.F.args_bexc_ga (.ref ea) (.str "__class__" tk);simp only [checkBuiltinCall,hk,hq];have hb:Looks (model prog w) hp (isInstance (.ref ea) (.type "BaseException")) true:=y0.andThen y4;refine yU (hb.at ?_);rw [Bool.not_true];rw [if_neg yX];refine wpAny_of_eq ha ?_;unfold Builtin.«object.__getattribute__»;refine yU (yD ?_);refine yU (yD (yU (y0.at (yU (y3.at ?_)))));unfold bindTo;show wpAny _ _ (holding [Value.builtin "object.__class__"] (call (.builtin "getset_descriptor.__get__") [.builtin "object.__class__",.ref ea,.ref C]) >>= ret) _ _ _;refine yU (wpAny_holding (wpAny_call (GL T X p (yD ?_))));refine handed_on rfl (yD h)
end
theorem Wv {K:Fg}(T:xB K C):KitX K (.ref ea) (.ref C) (ExcAt ea C) where
 ty:=λ_ _ _ p=>p.ty
 it:=λM h X _=>by
  have z:=T.cls;unfold clsIn at z;split at z
  next c' d' cd' sl' ho =>
   intro A' Q' E' s' k q;unfold isType loadHead;refine yU (wpAny_loadPart (k _ _ (X _ _ ho)) ?_);exact yD q
  next=>cases z
 ne:=λh tp dd its n sl X htp=>by
  cases hb:((.ref C:Value) == .ref tp) with
  |false=>rfl
  |true =>
   have e:C=tp:=Value.ref.inj (beq_iff_eq.mp hb);have z:=T.cls;unfold clsIn at z;split at z
   next c' d' cd' sl' ho =>
    have y:=X _ _ ho;rw [e,htp] at y;cases y
   next=>cases z
 ca:=λX p k=>GK T X p k
section
variable {X:Cx}{K:Fg}{ea C:Addr}{oe:Obj}
theorem VJ (hK:X.K=K)(hp:(ea,oe)∈X.pn)(hc:oe.cls = .ref C)(T:xB K C):CallR X (.builtin "isinstance") (λxs H Q=>∃ (c:V) (d:Value) (b:Bool),xs=[.ref ea,c]/\(∀ u,RelV c u->u=d)/\kitOne K (.ref C) d=some b/\Q (.bl b) H):=by subst hK;intro pins s U H xs us Q I r h;obtain ⟨c,d,b,rfl,hd,e,q⟩:=h;obtain ⟨u,w',rfl,rx,rw'⟩:=Xf r;obtain rfl:u=Value.ref ea:=rx;obtain rfl:=hd w' rw';have z:=(I.pin _ (yk _ hp)).1;exact kia_one (Wv T) I.kIn ⟨oe,z,hc⟩ e (λz=>nomatch z) λtk=>⟨.bl b,H,I.tok _,rfl,q⟩
theorem UX (hK:X.K=K)(hp:(ea,oe)∈X.pn)(hc:oe.cls = .ref C)(T:xB K C):CallR X (.builtin "isinstance") (λxs H Q=>∃ (t:Addr) (cs:List V) (ds:List Value) (b:Bool),xs=[.ref ea,.ref t]/\H t=some (.tup cs)/\(∀ us,Vals cs us->us=ds)/\kitAny K (.ref C) ds=some b/\Q (.bl b) H):=by
 subst hK;intro pins s U H xs us Q I r h;obtain ⟨t,cs,ds,b,rfl,ht,hd,e,q⟩:=h;obtain ⟨u,w',rfl,rx,rw'⟩:=Xf r;obtain rfl:u=Value.ref ea:=rx;obtain rfl:w'=Value.ref t:=rw';have z:=(I.pin _ (yk _ hp)).1;obtain ⟨_,its,rv,⟨⟨ocl,odd,oda,osl⟩,ho,hoc,n,hod⟩⟩:=(show ObjOk X.prog X.w H s.heap t (.tup cs) from I.hok t _ ht);obtain rfl:=hd its rv
 dsimp only at hoc hod
 subst hoc hod;exact kia_tup (Wv T) I.kIn ⟨oe,z,hc⟩ ho e (λz=>nomatch z) λtk=>⟨.bl b,H,I.tok _,rfl,q⟩
end
end L2
namespace L2
open PySem PySem.Spec PyProof.Rows PySem.SeqAt
variable{x y:V}{A:Around}{s:Shared}{u v:Value}{l:Addr}{items:Array Value}{n:Nat}{b:Bool}{K:Fg}
def EqP (K:Fg)(H:Hp):Nat->V->V->Bool->Prop
 |0,x,y,b=>u4 x=true/\u4 y=true/\b=qe x y
 |n+1,x,y,b=>(u4 x=true/\u4 y=true/\b=qe x y) ∨
  (∃(a c:Addr)(xs ys:List V),x = .ref a/\y = .ref c/\SqL K H a xs/\SqL K H c ys/\((xs.length≠ys.length/\b=false)∨(xs.length=ys.length/\∃ e:Nat->Bool,(∀ j (h1:j<xs.length) (h2:j<ys.length),EqP K H n xs[j] ys[j] (e j))/\b=(List.range xs.length).all e))) ∨
  (∃(a c:Addr)(xs ys:List V),x = .ref a/\y = .ref c/\SqT K H a xs/\SqT K H c ys/\∃ e:Nat->Bool,(∀ j (h1:j<xs.length) (h2:j<ys.length),EqP K H n xs[j] ys[j] (e j))/\b=((List.range (min xs.length ys.length)).all e&&xs.length==ys.length)) ∨
  (∃(a c:Addr)(xs ys:List V),x = .ref a/\y = .ref c/\SqL K H a xs/\SqT K H c ys/\b=false) ∨
  (∃(a c:Addr)(xs ys:List V),x = .ref a/\y = .ref c/\SqT K H a xs/\SqL K H c ys/\b=false) ∨
  (∃(c:Addr)(ys:List V),u4 x=true/\y = .ref c/\(SqL K H c ys∨SqT K H c ys)/\b=false) ∨
  (∃(a:Addr)(xs:List V),u4 y=true/\x = .ref a/\(SqL K H a xs∨SqT K H a xs)/\b=false)
theorem Ql (h:u4 x=true):qe x x=true:=by cases x<;>first|rfl|exact beq_self_eq_true _|cases h
theorem Ys (ry:RelV y u)(rx:RelV x v)(fy:u4 y=true)(fx:u4 x=true):RcAt A s u v (qe y x):=by
 cases y with
 |non =>
  cases ry;cases x with
  |non=>cases rx;exact RcAt.none_none
  |bl b=>cases rx;exact RcAt.none_bool b
  |int b=>obtain ⟨t2,rfl⟩:=rx;exact RcAt.none_int b t2
  |str b=>obtain ⟨t2,rfl⟩:=rx;exact RcAt.none_str b t2
  |_=>exact absurd (show false=true from fx) yX
 |bl a =>
  cases ry;cases x with
  |non=>cases rx;exact RcAt.bool_none a
  |bl b=>cases rx;exact RcAt.bool_bool a b
  |int b=>obtain ⟨t2,rfl⟩:=rx;exact RcAt.bool_int a b t2
  |str b=>obtain ⟨t2,rfl⟩:=rx;exact RcAt.bool_str a b t2
  |_=>exact absurd (show false=true from fx) yX
 |int a =>
  obtain ⟨t1,rfl⟩:=ry;cases x with
  |non=>cases rx;exact RcAt.int_none a t1
  |bl b=>cases rx;exact RcAt.int_bool a t1 b
  |int b=>obtain ⟨t2,rfl⟩:=rx;exact RcAt.int_int a t1 b t2
  |str b=>obtain ⟨t2,rfl⟩:=rx;exact RcAt.int_str a t1 b t2
  |_=>exact absurd (show false=true from fx) yX
 |str a =>
  obtain ⟨t1,rfl⟩:=ry;cases x with
  |non=>cases rx;exact RcAt.str_none a t1
  |bl b=>cases rx;exact RcAt.str_bool a t1 b
  |int b=>obtain ⟨t2,rfl⟩:=rx;exact RcAt.str_int a t1 b t2
  |str b=>obtain ⟨t2,rfl⟩:=rx;exact RcAt.str_str a t1 b t2
  |_=>exact absurd (show false=true from fx) yX
 |_=>exact absurd (show false=true from fy) yX
theorem Yt (ry:RelV y u)(rx:RelV x v)(fy:u4 y=true)(fx:u4 x=true):RcNeAt A s u v (!qe y x):=by
 cases y with
 |non =>
  cases ry;cases x with
  |non=>cases rx;exact RcNeAt.none_none
  |bl b=>cases rx;exact RcNeAt.none_bool b
  |int b=>obtain ⟨t2,rfl⟩:=rx;exact RcNeAt.none_int b t2
  |str b=>obtain ⟨t2,rfl⟩:=rx;exact RcNeAt.none_str b t2
  |_=>exact absurd (show false=true from fx) yX
 |bl a =>
  cases ry;cases x with
  |non=>cases rx;exact RcNeAt.bool_none a
  |bl b=>cases rx;exact RcNeAt.bool_bool a b
  |int b=>obtain ⟨t2,rfl⟩:=rx;exact RcNeAt.bool_int a b t2
  |str b=>obtain ⟨t2,rfl⟩:=rx;exact RcNeAt.bool_str a b t2
  |_=>exact absurd (show false=true from fx) yX
 |int a =>
  obtain ⟨t1,rfl⟩:=ry;cases x with
  |non=>cases rx;exact RcNeAt.int_none a t1
  |bl b=>cases rx;exact RcNeAt.int_bool a t1 b
  |int b=>obtain ⟨t2,rfl⟩:=rx;exact RcNeAt.int_int a t1 b t2
  |str b=>obtain ⟨t2,rfl⟩:=rx;exact RcNeAt.int_str a t1 b t2
  |_=>exact absurd (show false=true from fx) yX
 |str a =>
  obtain ⟨t1,rfl⟩:=ry;cases x with
  |non=>cases rx;exact RcNeAt.str_none a t1
  |bl b=>cases rx;exact RcNeAt.str_bool a t1 b
  |int b=>obtain ⟨t2,rfl⟩:=rx;exact RcNeAt.str_int a t1 b t2
  |str b=>obtain ⟨t2,rfl⟩:=rx;exact RcNeAt.str_str a t1 b t2
  |_=>exact absurd (show false=true from fx) yX
 |_=>exact absurd (show false=true from fy) yX
theorem Gy (hl:s.heap.IsList l items)(hu:A.units<cLine)(ry:RelV y u)(fy:u4 y=true):EqAt A s u (.ref l) false:=by
 cases y with
 |non=>cases ry;exact EqAt.none_list hl hu
 |bl a=>cases ry;exact EqAt.bool_list a hl hu
 |int a=>obtain ⟨t1,rfl⟩:=ry;exact EqAt.int_list a t1 hl hu
 |str a=>obtain ⟨t1,rfl⟩:=ry;exact EqAt.str_list a t1 hl hu
 |_=>exact absurd (show false=true from fy) yX
theorem GA (hl:s.heap.IsList l items)(hu:A.units<cLine)(ry:RelV y u)(fy:u4 y=true):EqAt A s (.ref l) u false:=by
 cases y with
 |non=>cases ry;exact EqAt.list_none hl hu
 |bl a=>cases ry;exact EqAt.list_bool a hl hu
 |int a=>obtain ⟨t1,rfl⟩:=ry;exact EqAt.list_int a t1 hl hu
 |str a=>obtain ⟨t1,rfl⟩:=ry;exact EqAt.list_str a t1 hl hu
 |_=>exact absurd (show false=true from fy) yX
theorem Gz (hl:s.heap.IsTuple l items)(hu:A.units<cLine)(ry:RelV y u)(fy:u4 y=true):EqAt A s u (.ref l) false:=by
 cases y with
 |non=>cases ry;exact EqAt.none_tuple hl hu
 |bl a=>cases ry;exact EqAt.bool_tuple a hl hu
 |int a=>obtain ⟨t1,rfl⟩:=ry;exact EqAt.int_tuple a t1 hl hu
 |str a=>obtain ⟨t1,rfl⟩:=ry;exact EqAt.str_tuple a t1 hl hu
 |_=>exact absurd (show false=true from fy) yX
theorem GB (hl:s.heap.IsTuple l items)(hu:A.units<cLine)(ry:RelV y u)(fy:u4 y=true):EqAt A s (.ref l) u false:=by
 cases y with
 |non=>cases ry;exact EqAt.tuple_none hl hu
 |bl a=>cases ry;exact EqAt.tuple_bool a hl hu
 |int a=>obtain ⟨t1,rfl⟩:=ry;exact EqAt.tuple_int a t1 hl hu
 |str a=>obtain ⟨t1,rfl⟩:=ry;exact EqAt.tuple_str a t1 hl hu
 |_=>exact absurd (show false=true from fy) yX
theorem Cd (hl:s.heap.IsList l items)(hu:A.units<cLine)(ry:RelV y u)(fy:u4 y=true):RcAt A s u (.ref l) false:=by
 cases y with
 |non=>cases ry;exact RcAt.none_list hl hu
 |bl a=>cases ry;exact RcAt.bool_list a hl hu
 |int a=>obtain ⟨t1,rfl⟩:=ry;exact RcAt.int_list a t1 hl hu
 |str a=>obtain ⟨t1,rfl⟩:=ry;exact RcAt.str_list a t1 hl hu
 |_=>exact absurd (show false=true from fy) yX
theorem Cf (hl:s.heap.IsList l items)(hu:A.units<cLine)(ry:RelV y u)(fy:u4 y=true):RcAt A s (.ref l) u false:=by
 cases y with
 |non=>cases ry;exact RcAt.list_none hl hu
 |bl a=>cases ry;exact RcAt.list_bool a hl hu
 |int a=>obtain ⟨t1,rfl⟩:=ry;exact RcAt.list_int a t1 hl hu
 |str a=>obtain ⟨t1,rfl⟩:=ry;exact RcAt.list_str a t1 hl hu
 |_=>exact absurd (show false=true from fy) yX
theorem Ce (hl:s.heap.IsTuple l items)(hu:A.units<cLine)(ry:RelV y u)(fy:u4 y=true):RcAt A s u (.ref l) false:=by
 cases y with
 |non=>cases ry;exact RcAt.none_tuple hl hu
 |bl a=>cases ry;exact RcAt.bool_tuple a hl hu
 |int a=>obtain ⟨t1,rfl⟩:=ry;exact RcAt.int_tuple a t1 hl hu
 |str a=>obtain ⟨t1,rfl⟩:=ry;exact RcAt.str_tuple a t1 hl hu
 |_=>exact absurd (show false=true from fy) yX
theorem Cg (hl:s.heap.IsTuple l items)(hu:A.units<cLine)(ry:RelV y u)(fy:u4 y=true):RcAt A s (.ref l) u false:=by
 cases y with
 |non=>cases ry;exact RcAt.tuple_none hl hu
 |bl a=>cases ry;exact RcAt.tuple_bool a hl hu
 |int a=>obtain ⟨t1,rfl⟩:=ry;exact RcAt.tuple_int a t1 hl hu
 |str a=>obtain ⟨t1,rfl⟩:=ry;exact RcAt.tuple_str a t1 hl hu
 |_=>exact absurd (show false=true from fy) yX
theorem Ch (hl:s.heap.IsList l items)(hu:A.units<cLine)(ry:RelV y u)(fy:u4 y=true):RcNeAt A s u (.ref l) true:=by
 cases y with
 |non=>cases ry;exact RcNeAt.none_list hl hu
 |bl a=>cases ry;exact RcNeAt.bool_list a hl hu
 |int a=>obtain ⟨t1,rfl⟩:=ry;exact RcNeAt.int_list a t1 hl hu
 |str a=>obtain ⟨t1,rfl⟩:=ry;exact RcNeAt.str_list a t1 hl hu
 |_=>exact absurd (show false=true from fy) yX
theorem Cj (hl:s.heap.IsList l items)(hu:A.units<cLine)(ry:RelV y u)(fy:u4 y=true):RcNeAt A s (.ref l) u true:=by
 cases y with
 |non=>cases ry;exact RcNeAt.list_none hl hu
 |bl a=>cases ry;exact RcNeAt.list_bool a hl hu
 |int a=>obtain ⟨t1,rfl⟩:=ry;exact RcNeAt.list_int a t1 hl hu
 |str a=>obtain ⟨t1,rfl⟩:=ry;exact RcNeAt.list_str a t1 hl hu
 |_=>exact absurd (show false=true from fy) yX
theorem Ci (hl:s.heap.IsTuple l items)(hu:A.units<cLine)(ry:RelV y u)(fy:u4 y=true):RcNeAt A s u (.ref l) true:=by
 cases y with
 |non=>cases ry;exact RcNeAt.none_tuple hl hu
 |bl a=>cases ry;exact RcNeAt.bool_tuple a hl hu
 |int a=>obtain ⟨t1,rfl⟩:=ry;exact RcNeAt.int_tuple a t1 hl hu
 |str a=>obtain ⟨t1,rfl⟩:=ry;exact RcNeAt.str_tuple a t1 hl hu
 |_=>exact absurd (show false=true from fy) yX
theorem Ck (hl:s.heap.IsTuple l items)(hu:A.units<cLine)(ry:RelV y u)(fy:u4 y=true):RcNeAt A s (.ref l) u true:=by
 cases y with
 |non=>cases ry;exact RcNeAt.tuple_none hl hu
 |bl a=>cases ry;exact RcNeAt.tuple_bool a hl hu
 |int a=>obtain ⟨t1,rfl⟩:=ry;exact RcNeAt.tuple_int a t1 hl hu
 |str a=>obtain ⟨t1,rfl⟩:=ry;exact RcNeAt.tuple_str a t1 hl hu
 |_=>exact absurd (show false=true from fy) yX
section
variable {X:Cx}{pins:List (Addr×Obj)}{U:St}{H:Hp}{s:Shared}
theorem Qk (I:Inv X pins U H s):∀(n:Nat){x:V}{b:Bool},EqP X.K H n x x b->b=true
 |0,x,b,h=>by obtain ⟨h1,_,rfl⟩:=h;exact Ql h1
 |n+1,x,b,h=>by
  rcases h with ⟨h1,_,rfl⟩|⟨a,c,xs,ys,rfl,e2,p1,p2,h⟩|⟨a,c,xs,ys,rfl,e2,p1,p2,e,he,rfl⟩|⟨a,c,xs,ys,rfl,e2,p1,p2,_⟩|⟨a,c,xs,ys,rfl,e2,p1,p2,_⟩|⟨c,ys,f,rfl,_⟩|⟨c,ys,f,rfl,_⟩
  ·exact Ql h1
  ·cases e2;cases I.list_inj p1 p2;rcases h with ⟨h,_⟩|⟨_,e,he,rfl⟩
   ·exact absurd rfl h
   ·rw [ya];exact λj hj=>Qk I n (he j (uN.mp hj) (uN.mp hj))
  ·cases e2;cases I.tuple_inj p1 p2;rw [Nat.min_self,beq_self_eq_true,Bool.and_true,ya];exact λj hj=>Qk I n (he j (uN.mp hj) (uN.mp hj))
  ·cases e2;obtain ⟨_,_,⟨o1,_,q1,c1,_⟩,_⟩:=I.list p1;obtain ⟨_,_,⟨o2,q2,c2,_⟩,_⟩:=I.tuple p2;rw [q1] at q2;cases q2;rw [c1] at c2;exact absurd c2 (by decide)
  ·cases e2;obtain ⟨_,_,⟨o2,q2,c2,_⟩,_⟩:=I.tuple p1;obtain ⟨_,_,⟨o1,_,q1,c1,_⟩,_⟩:=I.list p2;rw [q1] at q2;cases q2;rw [c1] at c2;exact absurd c2 (by decide)
  ·cases f
  ·cases f
theorem vh (I:Inv X pins U H s):∀(n:Nat)(A:Around){x y:V}{u v:Value}{b:Bool},A.units+n<cLine->EqP X.K H n x y b->RelV x u->RelV y v->EqAt A s u v b
 |0,A,x,y,u,v,b,hu,h,r1,r2=>by obtain ⟨h1,h2,rfl⟩:=h;exact XA r1 r2 h1 h2
 |n+1,A,x,y,u,v,b,hu,h,r1,r2=>by
  have h':=h;rcases h with ⟨h1,h2,rfl⟩|⟨a,c,xs,ys,rfl,rfl,p1,p2,h⟩|⟨a,c,xs,ys,rfl,rfl,p1,p2,e,he,rfl⟩|⟨a,c,xs,ys,rfl,rfl,p1,p2,rfl⟩|⟨a,c,xs,ys,rfl,rfl,p1,p2,rfl⟩|⟨c,ys,f,rfl,p,rfl⟩|⟨c,ys,f,rfl,p,rfl⟩
  ·exact XA r1 r2 h1 h2
  ·cases r1;cases r2;by_cases hac:a=c
   ·subst hac;have hb:=Qk I (n+1) h';rw [hb];exact EqAt.same _
   obtain ⟨us,v1,q1,_⟩:=I.list p1;obtain ⟨ws,v2,q2,_⟩:=I.list p2;have l1:=v1.length;have l2:=v2.length;refine EqAt.of_refs hac ?_;rcases h with ⟨h,rfl⟩|⟨hl,e,he,rfl⟩
   ·exact RcAt.lists_lengths q1.isList q2.isList (by rw [yY,yY];simp;omega) (by omega)
   ·have q:=RcAt.lists (A:=A) (s:=s) q1.isList q2.isList (by rw [yY,yY];omega) (by omega) (e:=e) (λj j1 j2=>?_)
    ·rw [yY,<- l1] at q;exact q
    ·have j1':j<us.length:=by simpa using j1
     have j2':j<ws.length:=by simpa using j2
     rw [yo,yo];exact vh I n A.in1 (by show A.units+1+n<cLine;omega) (he j (by omega) (by omega)) (xv v1 j (by omega) j1') (xv v2 j (by omega) j2')
  ·cases r1;cases r2;by_cases hac:a=c
   ·subst hac;have hb:=Qk I (n+1) h';rw [hb];exact EqAt.same _
   obtain ⟨us,v1,q1,_⟩:=I.tuple p1;obtain ⟨ws,v2,q2,_⟩:=I.tuple p2;have l1:=v1.length;have l2:=v2.length;refine EqAt.of_refs hac ?_;have q:=RcAt.tuples (A:=A) (s:=s) q1 q2 (by omega) (e:=e) (λj j1 j2=>?_)
   ·rw [yY,yY,<- l1,<- l2] at q;exact q
   ·have j1':j<us.length:=by simpa using j1
    have j2':j<ws.length:=by simpa using j2
    rw [yo,yo];exact vh I n A.in1 (by show A.units+1+n<cLine;omega) (he j (by omega) (by omega)) (xv v1 j (by omega) j1') (xv v2 j (by omega) j2')
  ·cases r1;cases r2;obtain ⟨us,v1,q1,_⟩:=I.list p1;obtain ⟨ws,v2,q2,_⟩:=I.tuple p2;exact EqAt.list_tuple q1.isList q2 (by omega)
  ·cases r1;cases r2;obtain ⟨us,v1,q1,_⟩:=I.tuple p1;obtain ⟨ws,v2,q2,_⟩:=I.list p2;exact EqAt.tuple_list q1 q2.isList (by omega)
  ·cases r2;rcases p with p|p
   ·obtain ⟨us,v1,q1,_⟩:=I.list p;exact Gy q1.isList (by omega) r1 f
   ·obtain ⟨us,v1,q1,_⟩:=I.tuple p;exact Gz q1 (by omega) r1 f
  ·cases r1;rcases p with p|p
   ·obtain ⟨us,v1,q1,_⟩:=I.list p;exact GA q1.isList (by omega) r2 f
   ·obtain ⟨us,v1,q1,_⟩:=I.tuple p;exact GB q1 (by omega) r2 f
theorem rc_at (I:Inv X pins U H s)(hu:A.units+n<cLine)(h:EqP X.K H n x y b)(r1:RelV x u)(r2:RelV y v):RcAt A s u v b:=by
 cases n with
 |zero=>obtain ⟨h1,h2,rfl⟩:=h;exact Ys r1 r2 h1 h2
 |succ n =>
  rcases h with ⟨h1,h2,rfl⟩|⟨a,c,xs,ys,rfl,rfl,p1,p2,h⟩|⟨a,c,xs,ys,rfl,rfl,p1,p2,e,he,rfl⟩|⟨a,c,xs,ys,rfl,rfl,p1,p2,rfl⟩|⟨a,c,xs,ys,rfl,rfl,p1,p2,rfl⟩|⟨c,ys,f,rfl,p,rfl⟩|⟨c,ys,f,rfl,p,rfl⟩
  ·exact Ys r1 r2 h1 h2
  ·cases r1;cases r2;obtain ⟨us,v1,q1,_⟩:=I.list p1;obtain ⟨ws,v2,q2,_⟩:=I.list p2;have l1:=v1.length;have l2:=v2.length;rcases h with ⟨h,rfl⟩|⟨hl,e,he,rfl⟩
   ·exact RcAt.lists_lengths q1.isList q2.isList (by rw [yY,yY];simp;omega) (by omega)
   ·have q:=RcAt.lists (A:=A) (s:=s) q1.isList q2.isList (by rw [yY,yY];omega) (by omega) (e:=e) (λj j1 j2=>?_)
    ·rw [yY,<- l1] at q;exact q
    ·have j1':j<us.length:=by simpa using j1
     have j2':j<ws.length:=by simpa using j2
     rw [yo,yo];exact vh I n A.in1 (by show A.units+1+n<cLine;omega) (he j (by omega) (by omega)) (xv v1 j (by omega) j1') (xv v2 j (by omega) j2')
  ·cases r1;cases r2;obtain ⟨us,v1,q1,_⟩:=I.tuple p1;obtain ⟨ws,v2,q2,_⟩:=I.tuple p2;have l1:=v1.length;have l2:=v2.length;have q:=RcAt.tuples (A:=A) (s:=s) q1 q2 (by omega) (e:=e) (λj j1 j2=>?_)
   ·rw [yY,yY,<- l1,<- l2] at q;exact q
   ·have j1':j<us.length:=by simpa using j1
    have j2':j<ws.length:=by simpa using j2
    rw [yo,yo];exact vh I n A.in1 (by show A.units+1+n<cLine;omega) (he j (by omega) (by omega)) (xv v1 j (by omega) j1') (xv v2 j (by omega) j2')
  ·cases r1;cases r2;obtain ⟨us,v1,q1,_⟩:=I.list p1;obtain ⟨ws,v2,q2,_⟩:=I.tuple p2;exact RcAt.list_tuple q1.isList q2 (by omega)
  ·cases r1;cases r2;obtain ⟨us,v1,q1,_⟩:=I.tuple p1;obtain ⟨ws,v2,q2,_⟩:=I.list p2;exact RcAt.tuple_list q1 q2.isList (by omega)
  ·cases r2;rcases p with p|p
   ·obtain ⟨us,v1,q1,_⟩:=I.list p;exact Cd q1.isList (by omega) r1 f
   ·obtain ⟨us,v1,q1,_⟩:=I.tuple p;exact Ce q1 (by omega) r1 f
  ·cases r1;rcases p with p|p
   ·obtain ⟨us,v1,q1,_⟩:=I.list p;exact Cf q1.isList (by omega) r2 f
   ·obtain ⟨us,v1,q1,_⟩:=I.tuple p;exact Cg q1 (by omega) r2 f
theorem Cm (I:Inv X pins U H s)(hu:A.units+n<cLine)(h:EqP X.K H n x y b)(r1:RelV x u)(r2:RelV y v):RcNeAt A s u v (!b):=by
 cases n with
 |zero=>obtain ⟨h1,h2,rfl⟩:=h;exact Yt r1 r2 h1 h2
 |succ n =>
  rcases h with ⟨h1,h2,rfl⟩|⟨a,c,xs,ys,rfl,rfl,p1,p2,h⟩|⟨a,c,xs,ys,rfl,rfl,p1,p2,e,he,rfl⟩|⟨a,c,xs,ys,rfl,rfl,p1,p2,rfl⟩|⟨a,c,xs,ys,rfl,rfl,p1,p2,rfl⟩|⟨c,ys,f,rfl,p,rfl⟩|⟨c,ys,f,rfl,p,rfl⟩
  ·exact Yt r1 r2 h1 h2
  ·cases r1;cases r2;obtain ⟨us,v1,q1,_⟩:=I.list p1;obtain ⟨ws,v2,q2,_⟩:=I.list p2;have l1:=v1.length;have l2:=v2.length;rcases h with ⟨h,rfl⟩|⟨hl,e,he,rfl⟩
   ·exact RcNeAt.lists_lengths q1.isList q2.isList (by rw [yY,yY];simp;omega) (by omega)
   ·have q:=RcNeAt.lists (A:=A) (s:=s) q1.isList q2.isList (by rw [yY,yY];omega) (by omega) (e:=e) (λj j1 j2=>?_)
    ·rw [yY,<- l1] at q;exact q
    ·have j1':j<us.length:=by simpa using j1
     have j2':j<ws.length:=by simpa using j2
     rw [yo,yo];exact vh I n A.in1 (by show A.units+1+n<cLine;omega) (he j (by omega) (by omega)) (xv v1 j (by omega) j1') (xv v2 j (by omega) j2')
  ·cases r1;cases r2;obtain ⟨us,v1,q1,_⟩:=I.tuple p1;obtain ⟨ws,v2,q2,_⟩:=I.tuple p2;have l1:=v1.length;have l2:=v2.length;have q:=RcNeAt.tuples (A:=A) (s:=s) q1 q2 (by omega) (e:=e) (λj j1 j2=>?_)
   ·rw [yY,yY,<- l1,<- l2] at q;exact q
   ·have j1':j<us.length:=by simpa using j1
    have j2':j<ws.length:=by simpa using j2
    rw [yo,yo];exact vh I n A.in1 (by show A.units+1+n<cLine;omega) (he j (by omega) (by omega)) (xv v1 j (by omega) j1') (xv v2 j (by omega) j2')
  ·cases r1;cases r2;obtain ⟨us,v1,q1,_⟩:=I.list p1;obtain ⟨ws,v2,q2,_⟩:=I.tuple p2;exact RcNeAt.list_tuple q1.isList q2 (by omega)
  ·cases r1;cases r2;obtain ⟨us,v1,q1,_⟩:=I.tuple p1;obtain ⟨ws,v2,q2,_⟩:=I.list p2;exact RcNeAt.tuple_list q1 q2.isList (by omega)
  ·cases r2;rcases p with p|p
   ·obtain ⟨us,v1,q1,_⟩:=I.list p;exact Ch q1.isList (by omega) r1 f
   ·obtain ⟨us,v1,q1,_⟩:=I.tuple p;exact Ci q1 (by omega) r1 f
  ·cases r1;rcases p with p|p
   ·obtain ⟨us,v1,q1,_⟩:=I.list p;exact Cj q1.isList (by omega) r2 f
   ·obtain ⟨us,v1,q1,_⟩:=I.tuple p;exact Ck q1 (by omega) r2 f
def rEqD (K:Fg)(n:Nat)(neg:Bool):R2:=λx y H Q=>∃ b,EqP K H n x y b/\Q (.bl (if neg then !b else b)) H
theorem Zg (hu:X.A.units+n<cLine)(hK:X.K=K):OpR X (compareOp .Eq) (rEqD K n false):=by subst hK;intro pins s U H x y v u Q I rx ry h;obtain ⟨b,h,q⟩:=h;exact rc_at I hu h rx ry X.prog X.w X.xe _ ⟨.bl b,H,I,rfl,q⟩
theorem xt (hu:X.A.units+n<cLine)(hK:X.K=K):OpR X (compareOp .NotEq) (rEqD K n true):=by subst hK;intro pins s U H x y v u Q I rx ry h;obtain ⟨b,h,q⟩:=h;exact Cm I hu h rx ry X.prog X.w X.xe _ ⟨.bl (!b),H,I,rfl,q⟩
theorem hu6 {k:Nat}(hr:Room k A):A.units+6<cLine:=by have:=hr.units;omega
end
end L2
namespace L2
open PySem PySem.Spec PyProof.Rows
section
variable {X:Cx}{K:Fg}
def rAddS:R2:=λx y H Q=>∃ i j,x = .str i/\y = .str j/\i.length+j.length<=sizeLine/\Q (.str (i++j)) H
def Yi (K:Fg):R2:=λx y H Q=>(rI0 λi j=> .int (i+j)) x y H Q∨rAddS x y H Q∨Yk K x y H Q∨Yl K x y H Q
theorem xk (h:X.K=K):OpR X (binaryOp .Add) (Yi K):=by subst h;exact op_add.or (op_add_str.or (op_catL.or BU))
theorem Ky (h:X.K=K):IxR X (rIx K):=by subst h;exact Kx
def rLen (K:Fg):List V->Hp->VK->Prop:=λxs H Q=>(∃ x n,xs=[x]/\LenV K x H n/\Q (.int n) H)∨∃ a kvs,xs=[V.ref a]/\H a=some (.dK kvs)/\Q (.int kvs.length) H
theorem zp (h:X.K=K):CallR X (.builtin "len") (rLen K):=by subst h;exact CallR.or (f:= .builtin "len") UY UZ
theorem PZ {a:Expr}{ta:TE}(h:X.K=K)(ha:PE X a ta)(he:∀ whole,isTrue a X.env whole=(do let v <- whole;standAt a.pos;holding [v] (truthy v))):PT X a (λU H Q=>ta U H λx H'=>∃ k,TruV K x H' k/\Q k H'):=by subst h;exact Ca ha he
theorem BX (h:X.K=K):OpR X (compareOp .In) (rIn K false):=by subst h;exact BW
theorem WR (h:X.K=K):OpR X (compareOp .NotIn) (rIn K true):=by subst h;exact Pa
def Yn (K:Fg):List V->Hp->VK->Prop:=λxs H Q=>∃ p ys,xs=[.ref p]/\(SqL K H p ys∨SqT K H p ys)/\∀ l,H l=none->Q (.ref l) (j3 H l (.lst ys))
theorem wa (h:X.K=K):CallR X (.type "list") (Yn K):=by subst h;exact Gb
def rIsi (K:Fg):List V->Hp->VK->Prop:=λxs H Q=>∃ x n T b,xs=[x,.ty n]/\qS K H x (.type T)/\tyB T n=some b/\Q (.bl b) H
theorem xC (h:X.K=K):CallR X (.builtin "isinstance") (rIsi K):=by subst h;exact UW
def Yj (K:Fg):List V->Hp->VK->Prop:=λxs H Q=>∃(a:Addr)(bs:List Bool),xs=[.ref a]/\SqL K H a (bs.map V.bl)/\Q (.bl (bs.all id)) H
theorem Xs (hc:X.calm=true)(h:X.K=K):CallR X (.builtin "all") (Yj K):=by subst h;exact UU hc
def Yo:List V->Hp->VK->Prop:=λxs H Q=>∃ i j,xs=[.int i,.int j]/\Q (.int (if j<i then j else i)) H
theorem Gd (hc:X.calm=true):CallR X (.builtin "min") Yo:=Gc hc
def rIsN:R2:=λx y H Q=>y = .non/\Q (.bl (decide (x = .non))) H
def Yp:R2:=λx y H Q=>y = .non/\Q (.bl (!decide (x = .non))) H
theorem WP:OpR X (compareOp .Is) rIsN:=BY
theorem Pc:OpR X (compareOp .IsNot) Yp:=Pb
theorem Xr:bootBuiltins "tuple"=some (.type "tuple"):=by decide +kernel
theorem VG:bootBuiltins "sorted"=some (.builtin "sorted"):=by decide +kernel
theorem VE:bootBuiltins "dict"=some (.type "dict"):=by decide +kernel
theorem Dy:tyB "tuple" "tuple"=some true:=by decide +kernel
end
section
variable {X:Cx}{K:Fg}{o e:Expr}{es:List Expr}{to:TE}{t:TA}{name:Str}{apos cpos:Pos}{T id:String}{r:V->List V->Hp->VK->Prop}
theorem QL (hK:X.K=K)(pa:PlainAttrs T)(slot:Slot T name id)(hty:typeOf (.builtin id)=pure (.type "method_descriptor"))(hm:MtR X id r)(ho:PE X o to)(hbase:attributeBase o name X.env (eval o X.env)=eval o X.env:=by rfl)(hline:(apos.endLine==cpos.line)=true:=by rfl):PE X (.Call (.Attribute o name apos) [] [] cpos) (vJ K T r to):=by subst hK;exact Pk pa slot hty hm ho hbase hline
theorem Zj (hK:X.K=K)(pa:PlainAttrs T)(slot:Slot T name id)(hty:typeOf (.builtin id)=pure (.type "method_descriptor"))(hm:MtR X id r)(ho:PE X o to)(ha:PA X (e::es) t)(hbase:attributeBase o name X.env (eval o X.env)=eval o X.env:=by rfl)(hfew:((backTo cpos (starEach (e::es) X.env)).all (λx=>!x.1)&&(backToKw cpos (keywordEach [] X.env)).all (λx=>x.1.isSome)&&decide ((e::es).length+([]:List Keyword).length+(if ([]:List Keyword).isEmpty then 0 else 1)<30))=true:=by rfl)(hline:(apos.endLine==cpos.line)=true:=by rfl)(hs:starEach (e::es) X.env=(false,eval e X.env)::starEach es X.env:=by rfl)(hplain:(backTo cpos (starEach es X.env)).any (·.1)=false:=by rfl):PE X (.Call (.Attribute o name apos) (e::es) [] cpos) (tBM K T r to t):=by subst hK;exact pe_bm pa slot hty hm ho ha hbase hfew hline hs hplain
end
end L2
namespace L2
open PySem PySem.Spec PySem.Calls PyProof.Rows
variable{ss:List Str}{P:Program}{w:World}{vs:List Value}{A:Around}{E Q:Value->Shared->Prop}{s:Shared}
section
variable {X:Cx}
def Qd (ss:List Str):Prop:=ss.Pairwise λx y=>¬ (y.cps.toList<x.cps.toList)
theorem YJ (h:sortedS ss=true):Qd ss:=by
 cases ss with
 |nil=>exact List.Pairwise.nil
 |cons x r =>
  have key:∀(l:List Str)(p:Str),risingS p l=true->(p::l).Pairwise λx y=>¬ (y.cps.toList<x.cps.toList):=by
   intro l
   induction l with
   |nil=>intro p _;exact List.pairwise_singleton _ _
   |cons y l ih =>
    intro p hp;have hp':(!ltCps y.cps.toList p.cps.toList&&risingS y l)=true:=hp;rw [yp] at hp';have i2:=ih y hp'.2;have hyp:¬ (y.cps.toList<p.cps.toList):=by have e:=hp'.1;rw [ltCps_eq] at e;simpa using e
    refine List.pairwise_cons.mpr ⟨λz hz=>?_,i2⟩;rcases yK.mp hz with rfl|hz
    ·exact hyp
    ·have hzy:=(List.pairwise_cons.mp i2).1 z hz;intro hlt;exact hyp (Std.lt_of_le_of_lt (Std.not_lt.mp hzy) hlt)
  exact key r x h
def Yq (K:Fg):List V->Hp->VK->Prop:=λxs H Q=>∃(a:Addr)(ss:List Str),xs=[.ref a]/\(SqL K H a (ss.map V.str)∨∃ kvs,Rd H a (.dK kvs)/\kvs.map (·.1)=ss.map Sum.inr)/\ss.length<64 /\
 ∀ l ss',H l=none->ss'.Perm ss->Qd ss'->Q (.ref l) (j3 H l (.lst (ss'.map V.str)))
theorem YQ:∀{ss:List Str}{us:List Value},Vals (ss.map V.str) us->StrsAre us ss
 |[],_,.nil=> .nil
 |x::_,_,.cons ⟨t,e⟩ r=>by subst e;exact .cons x t (YQ r)
theorem Jy:∀{us:List Value}{ss:List Str},StrsAre us ss->Vals (ss.map V.str) us
 |_,_,.nil=> .nil
 |_,_,.cons x t r=> .cons ⟨t,rfl⟩ (Jy r)
theorem KG:∀{kvs:List (z8×V)}{vs:List (z8×Value)}{ss:List Str},KV kvs vs->kvs.map (·.1)=ss.map Sum.inr->vs.map (·.1)=ss.map Sum.inr:=by
 intro kvs vs ss r e;rw [<- e];clear e
 induction r with
 |nil=>rfl
 |cons p _ ih=>rw [yP,yP,ih,p.1]
theorem Kt {vs:List (z8×Value)}{acc:Array Value}(e:vs.map (·.1)=ss.map Sum.inr)(h:ItemsOf (λi v=>∃ k x,vs[i]?=some (k,x)/\(qo P w).is k v=true) acc vs.length):StrsAre acc.toList ss:=by
 have hl:vs.length=ss.length:=by have:=congrArg List.length e;rwa [yZ,yZ] at this
 have h0:∀ v∈acc.toList,∃ x t,v = .str x t:=by
  intro v hv;obtain ⟨i,hi,rfl⟩:=uQ hv;obtain ⟨k,x,hk,his⟩:=h.2 i acc.toList[i] (by simp at hi ⊢);have hk2:(vs.map (·.1))[i]?=some k:=by rw [yQ,hk];rfl
  rw [e,yQ] at hk2;obtain ⟨z,_,rfl⟩:=yG.mp hk2;cases hv2:acc.toList[i] with
  |str y t=>exact ⟨y,t,rfl⟩
  |_=>rw [hv2] at his;cases his
 have h1:=strsAre_map acc.toList h0;have e2:acc.toList.map strOf=ss:=by
  apply List.ext_getElem?;intro i;rw [yQ];by_cases hi:i<acc.size
  ·obtain ⟨k,x,hk,his⟩:=h.2 i acc[i] (Array.getElem?_eq_getElem hi);have hk2:(vs.map (·.1))[i]?=some k:=by rw [yQ,hk];rfl
   rw [e,yQ] at hk2;obtain ⟨z,hz,rfl⟩:=yG.mp hk2;obtain ⟨y,t,hy⟩:=h0 acc[i] (by simp);rw [hy] at his;have:y=z:=by have q:jC (Sum.inr z) (.str y t)=true:=his;have q2:=Wt y t;have q3:=(qo P w).inj (.str y t) (Sum.inr z) (Sum.inr y) his (WM P w y t);injection q3 with q3;exact q3.symm
   rw [hz,Array.getElem?_toList,Array.getElem?_eq_getElem hi,hy,<- this];rfl
  ·have h1:=h.1;rw [List.getElem?_eq_none (by simp;omega),List.getElem?_eq_none (by omega)];rfl
 rw [e2] at h1;exact h1
theorem DR (hS:StrsAre vs ss)(h64:vs.length<64)(h:∀ (h':Heap) (out:List Value) (ss':List Str) (e:Nat),(∀ b o,s.heap.get? b=some o->h'.get? b=some o)->h'.get? s.heap.objs.size=some (seqObj "list" out.toArray e)->StrsAre out ss'->ss'.Perm ss->sortedS ss'=true->Q (.ref s.heap.objs.size) { s with heap:=h' }):wpAny (model P w) A (newList vs >>= λl=>holding [l] (call (.builtin "list.sort") [l]) >>= λ_=>pure l) Q E s:=by
 refine yU (wpAny_newList ?_);have ho:(s.heap.push (seqObj "list" vs.toArray 0)).get? s.heap.objs.size=some (seqObj "list" vs.toArray 0):=yv _ rfl;refine yU (wpAny_holding (wpAny_call_entry slot_list_sort (s:={ s with heap:=s.heap.push (seqObj "list" vs.toArray 0) }) ⟨_,ho,rfl⟩ entry_list_sort
  (list_sort_treeK strKind_oneLt (s:={ s with heap:=s.heap.push (seqObj "list" vs.toArray 0) }) ho hS.keysOf (λv1 v2 rest e=>keyKind_strs (by rw [<- e];exact hS)) h64 λst p1 p2=>⟨_,rfl,?_⟩) (args_list_sort _)))
 obtain ⟨ss',a1,a2,a3⟩:=sorted_out_str hS p1 p2;obtain ⟨e,he⟩:=sortedHeap_at (out:=(arrOf st).map (·.2)) ho;refine yD (h _ _ ss' e (λb o hb=>?_) (by rw [Array.toArray_toList];exact he) a1 a2 a3);have hlt:=yR hb;rw [sortedHeap_old (yL hlt) (by rw [Heap.size_push];exact Nat.lt_succ_of_lt hlt)];exact yT _ hb
theorem Dg (hS:StrsAre vs ss)(h64:vs.length<64)(h:∀ (h':Heap) (out:List Value) (ss':List Str) (e:Nat),(∀ b o,s.heap.get? b=some o->h'.get? b=some o)->h'.get? s.heap.objs.size=some (seqObj "list" out.toArray e)->StrsAre out ss'->ss'.Perm ss->sortedS ss'=true->Q (.ref s.heap.objs.size) { s with heap:=h' }):wpAny (model P w) A (newList vs >>= λl=>holding [l] (call (.builtin "list.sort") [l] []) >>= λ_=>ret l) (λfin s'=>∃ v,fin=PySem.Fin.done (.ret v)/\Q v s') E s:=by
 refine yU (wpAny_newList ?_);have ho:(s.heap.push (seqObj "list" vs.toArray 0)).get? s.heap.objs.size=some (seqObj "list" vs.toArray 0):=yv _ rfl;refine yU (wpAny_holding (wpAny_call_entry slot_list_sort (s:={ s with heap:=s.heap.push (seqObj "list" vs.toArray 0) }) ⟨_,ho,rfl⟩ entry_list_sort
  (list_sort_treeK strKind_oneLt (s:={ s with heap:=s.heap.push (seqObj "list" vs.toArray 0) }) ho hS.keysOf (λv1 v2 rest e=>keyKind_strs (by rw [<- e];exact hS)) h64 λst p1 p2=>⟨_,rfl,?_⟩) (args_list_sort _)))
 obtain ⟨ss',a1,a2,a3⟩:=sorted_out_str hS p1 p2;obtain ⟨e,he⟩:=sortedHeap_at (out:=(arrOf st).map (·.2)) ho;refine yD ⟨_,rfl,h _ _ ss' e (λb o hb=>?_) (by rw [Array.toArray_toList];exact he) a1 a2 a3⟩;have hlt:=yR hb;rw [sortedHeap_old (yL hlt) (by rw [Heap.size_push];exact Nat.lt_succ_of_lt hlt)];exact yT _ hb
theorem VM {K:Fg}(hc:X.calm=true)(hK:X.K=K):CallR X (.builtin "sorted") (Yq K):=by
 subst hK;intro pins s U H xs us Q I r h;obtain ⟨a,ss,rfl,hq,h64,q⟩:=h;obtain ⟨u,rfl,ru⟩:=jo r;obtain rfl:u=Value.ref a:=ru;rcases hq with hq|⟨kvs,hq,hk⟩
 ·obtain ⟨its,rv,p,hz⟩:=I.list hq;have hS:=YQ rv;have hl:its.length=ss.length:=by have e:=rv.length;rw [yZ] at e;exact e.symm
  refine sorted_strs p.isList hS (by omega) λout ss' a1 a2 a3=>?_;obtain ⟨e,he⟩:=sortedAll_at s.heap its out;refine ⟨.ref _,_,I.laid (t':=s.toks) (o:= .lst (ss'.map V.str)) (λb o hb=>sortedAll_old hb) (Nat.le_succ _) ?_,rfl,q _ ss' (I.hok.fresh (Nat.le_succ _)) a2 (YJ a3)⟩;exact ⟨by rw [yZ,a2.length_eq];exact uY (wL (by omega)),out.toList,e,Jy a1,by simpa [seqObj] using he⟩
 ·obtain ⟨z,hd,vs,rel,dd⟩:=jy I.hok hq;obtain ⟨ep,hat⟩:=dd.dictAt;have ek:=KG rel hk;have hvl:vs.length=ss.length:=by have:=congrArg List.length ek;rwa [yZ,yZ] at this
  refine Calls.call_function_entry (id:="sorted") kind_sorted plain_sorted entry_sorted (args_sorted1 _) ?_;unfold Builtin.«sorted»;refine yU (m:=checkCount "sorted" 1 1 _) (yD ?_);refine yU (PySem.W.kdu_collect (PySem.W.kdl_dict (knd:=qo X.prog X.w) (kvs:=vs) (ep:=ep) hd) (by simpa using I.ok.hd hc) hat (uY (wL (by omega))) λh1 tk acc k1 hacc=>?_);have hS:=Kt ek hacc;have hal:acc.toList.length=ss.length:=by have:=hacc.1;simp;omega
  refine Dg (s:={ s with heap:=h1,toks:=tk }) hS (by omega) λh' out ss' e k2 he a1 a2 a3=>?_;have I1:Inv X pins U H { s with heap:=h1,toks:=tk }:=I.kept (t':=tk) k1;refine ⟨.ref _,_,I1.laid (t':=tk) (o:= .lst (ss'.map V.str)) k2 (yS _) ?_,rfl,q _ ss' (I1.hok.fresh (yS _)) a2 (YJ a3)⟩;exact ⟨by rw [yZ,a2.length_eq];exact uY (wL (by omega)),out,e,Jy a1,he⟩
end
end L2
namespace L2
open PySem PySem.Spec PySem.Calls
variable{a:Addr}{its:Array Value}{n:Nat}
section
variable {P:Program}{w:World}{A:Around}{E:Value->Shared->Prop}
theorem KQ:typeLookup (.type "list") "keys"=pure none:=am_miss_of_fast (by kernel_rfl)
theorem KP:typeLookup (.type "list") "__getattr__"=pure none:=am_miss_of_fast (by kernel_rfl)
theorem GS {hp:Heap}{g:Array GenState}{d:Drawn}{tk:Nat}{os:_}{u:Tok}{Q:PySem.Fin->Shared->Prop}(ho:hp.get? a=some { cls:= .type "list",data:= .seq its n })(hh:A.handled=none)(h:∀ h' tk' e,Heap.NewAttrErr hp h' e (.ref a) "keys"->E (.ref e) ⟨h',g,d,tk',os⟩):wpAny (model P w) A (Builtin.«object.__getattribute__» ⟨[.ref a,.str "keys" u],[]⟩) Q E ⟨hp,g,d,tk,os⟩:=by
 have hT:(⟨hp,g,d,tk,os⟩:Shared).TypeIs (.ref a) "list":=⟨_,ho,rfl⟩;have f0:=KQ;unfold Builtin.«object.__getattribute__»
 (repeat (any_goals (first|assumption|wp_step)))
 exact wpAny_raiseAttrError (s:=⟨hp,g,d,tk,os⟩) hh h (attrMsg_fits (by decide +kernel) (by decide +kernel))
theorem UI {s:Shared}{Q:Option Value->Shared->Prop}(ho:s.heap.get? a=some { cls:= .type "list",data:= .seq its n })(hh:A.handled=none)(h:∀ h' tk,(∀ b o,s.heap.get? b=some o->h'.get? b=some o)->Q none { s with heap:=h',toks:=tk }):wpAny (model P w) A (getAttr? (.ref a) "keys") Q E s:=by
 obtain ⟨hp,g,d,tk,os⟩:=s;have hT:∀ t',(⟨hp,g,d,t',os⟩:Shared).TypeIs (.ref a) "list":=λ_=>⟨_,ho,rfl⟩;have f1:=sub_AttributeError;have f2:=PySem.F.slot_list_getattribute.lookup;have f3:=PySem.F.slot_list_getattribute.bind (.ref a);have f5:=KP;unfold getAttr? getAttrBy? getAttrBy
 (repeat (any_goals (first|assumption|exact hT _|wp_step)))
 refine codeAny_call_builtin PySem.F.slot_list_getattribute.plain PySem.F.entry_list_ga (PySem.F.slot_list_getattribute.check _ _ _ _ _ _ _ _ (hT _) (PySem.F.args_list_getattribute_2 _ _) (GS ho (by simpa using hh) λh' tk' e hx=>?_));obtain ⟨t',u',he⟩:=hx.there;have hk:=hx.keeps;show wpAny _ _ (getattributeRaised _ _ _ _ _ _ _) _ _ _;unfold getattributeRaised
 (repeat (any_goals (first|assumption|wp_step)))
 exact h _ _ hk
end
end L2
namespace L2
open PySem PySem.Spec PySem.Calls PyProof.Rows
variable{A:Around}{s:Shared}
theorem WJ (e:Expr)(z:Str)(t:Tok):∀ r,letTemporaryGo e (.str z t) r=pure ():=λr=>by cases e<;>rfl
section
variable {X:Cx}
theorem Ps {e:Expr}{te:TE}{lo hi:Option Expr}{tl th:TO}{pos p2:Pos}(he:PE X e te)(hl:PO X lo tl)(hu:PO X hi th):PE X (.Subscript e (.Slice lo hi none p2) pos) (tSlS te tl th):=by
 intro pins s U H Q I h;refine Subscript_ (z6 (he pins s U H _ I h) λv s1 ⟨x,H1,I1,r1,q1⟩=>?_);refine wpAny_Slice (z6 (hl pins s1 U H1 _ I1 q1) λvl s2 ⟨l,H2,I2,pl,q2⟩=>z6 (hu pins s2 U H2 _ I2 q2) λvu s3 ⟨u,H3,I3,pu,q3⟩=>?_);rw [evalPart_none];refine yD ?_;obtain ⟨z,e1,hz,alt,q⟩:=q3;subst e1;obtain ⟨t,rfl⟩:=r1;have kp:KeptH (λh=>∀ k,Inv X pins U H3 { s3 with heap:=h,toks:=k }):=λh ob a k=>(a k).kept (t':=k) λb o e=>yT _ e;have I0:∀ k,Inv X pins U H3 { s3 with heap:=s3.heap,toks:=k }:=λk=>I3.tok k;rcases alt with ⟨rfl,j,rfl⟩|⟨rfl,i,rfl⟩
 ·cases pl;cases pu with
  |int j' uj=>exact tail_of_ItemOn (SBH.sliceItem_ns kp I0 (λh' t' k a=>⟨.str _,H3,a k,⟨_,rfl⟩,q⟩) hz) (by with_unfolding_all rfl) (WJ _ _ _)
 ·cases pu;cases pl with
  |int i' ui=>exact tail_of_ItemOn (SBH.sliceItem_sn kp I0 (λh' t' k a=>⟨.str _,H3,a k,⟨_,rfl⟩,q⟩) hz) (by with_unfolding_all rfl) (WJ _ _ _)
end
section
variable {P:Program}{w:World}{κ:Type}[DecidableEq κ]{knd:PySem.KeyKind P w κ}
theorem Wb:entryFor table "dict.update.loop"=some Builtin.«dict.update.loop»:=entryFor_of_tree (by kernel_rfl)
theorem QP:plainId "dict.update.loop"=true:=by decide +kernel
theorem Gv {R:Result->Shared->Prop}{I:Addr}{fp wr:List Addr}{Pp:Nat->Value->Prop}{St:Nat->Heap->Prop}{more:List (κ×Value)}{lo:Addr}(W:Walks P w A.in1 I fp wr more.length Pp St)(d:Addr)(hdf:d∉fp)(hlo:lo<=d)(hwr:∀ b∈wr,lo<=b)(hsz:more.length<=sizeLine):∀ (m i:Nat) (z:Int) (tk:Tok) (s:Shared),more.length-i=m->i<=more.length->St i s.heap->s.heap.DictOf knd d (merged [] (more.take i)) -> (∀ j v kv,Pp j v->more[j]?=some kv->∃ t k,t<lo/\v = .ref t/\knd.is kv.1 k=true/\IsTup s.heap t #[k,kv.2]) -> (∀ h' tk',(∀ b o,b<lo->s.heap.get? b=some o->h'.get? b=some o)->h'.DictOf knd d (merged [] more)->R (.ok (.ret .none)) { s with heap:=h',toks:=tk' }) -> codeAny (model P w) A (.builtin "dict.update.loop" ⟨[.ref d,.ref I,.int z tk,.none],[]⟩) R s:=by
 have hdw:d∉wr:=λq=>hdf (W.sub _ q);intro m
 induction m with
 |zero =>
  intro i z tk s hm hi st hd hp hR;have hin:i=more.length:=by omega
  subst hin;refine codeAny_builtin Wb ?_;rw [Around.under_plainId QP _];show wpAny _ A.in1 (pyNext (.ref I) >>= _) _ _ s;refine yU (W.done s _ _ st λh' tk' k=>?_);show wpAny _ A.in1 (Builtin.Dict.addKeywords d [] >>= _) _ _ _;refine yU (yD ?_);refine yD (hR h' tk' (λb o hb e=>k b o (λq=>absurd (hwr b q) (Nat.not_le.mpr hb)) e) ?_);rw [List.take_length] at hd;obtain ⟨o,es,ep,ho,r⟩:=hd;exact ⟨o,es,ep,k d o hdw ho,r⟩
 |succ m ih =>
  intro i z tk s hm hi st hd hp hR;have hlt:i<more.length:=by omega
  refine codeAny_builtin Wb ?_;rw [Around.under_plainId QP _];show wpAny _ A.in1 (pyNext (.ref I) >>= _) _ _ s;refine yU (W.item i s _ _ hlt st λv h' tk' hPv st' k=>?_);obtain ⟨t,kk,ht,rfl,hk,o,ho,hc,n,hdt⟩:=hp i v more[i] hPv (yw hlt);have ho':h'.get? t=some o:=k t o (λq=>absurd (hwr t q) (Nat.not_le.mpr ht)) ho;have hd':h'.DictOf knd d (merged [] (more.take i)):=by obtain ⟨o,es,ep,ho,r⟩:=hd;exact ⟨o,es,ep,k d o hdw ho,r⟩
  have hT:Shared.TypeIs { s with heap:=h',toks:=tk' } (.ref t) "tuple":=⟨o,ho',hc⟩;show wpAny _ A.in1 (holding [.ref t] _ >>= _) _ _ _;refine yU (wpAny_holding (yU (wpAny_tryCatch ?_)));unfold Builtin.Dict.pairItems;refine yU (wpAny_typeOf hT ?_);rw [if_pos (by decide)];refine yU (wpAny_seqItems ho' hdt (yD ?_));show wpAny _ A.in1 (holding [kk,more[i].2] (dictSet d kk more[i].2)) _ _ _;refine wpAny_holding (wpAny_dictSet_pairs (knd:=knd) hk hd' (λh2 hd2 sb=>?_) ?_)
  ·rw [<- merged_take_succ [] more i more[i] (yw hlt)] at hd2;have keep2:∀ b o,b<lo->s.heap.get? b=some o->h2.get? b=some o:=λb o hb e=>by
    rw [sb.2 b (yL (yJ hb hlo))];exact k b o (λq=>absurd (hwr b q) (Nat.not_le.mpr hb)) e
   refine yD ⟨plainId_quiet QP _,ih (i+1) _ _ _ (by omega) hlt (W.frame _ _ _ st' λb hb o e=>?_) hd2 (λj v kv hv hj=>?_) λh3 tk3 k3 hd3=>?_⟩
   ·rw [sb.2 b (λq=>hdf (by rw [<- q];exact hb))];exact e
   ·obtain ⟨t,kk,ht,rfl,hk,o,ho,r⟩:=hp j v kv hv hj;exact ⟨t,kk,ht,rfl,hk,o,keep2 t o ht ho,r⟩
   ·exact hR h3 tk3 (λb o hb e=>k3 b o hb (keep2 b o hb e)) hd3
  ·have:=merged_length_le [] (more.take i);rw [List.length_take,List.length_nil] at this;omega
theorem UV {E:Value->Shared->Prop}{l:Addr}{its:Array Value}{n:Nat}{more:List (κ×Value)}{Q:Value->Shared->Prop}(hh:A.handled=none)(ho:s.heap.get? l=some { cls:= .type "list",data:= .seq its n })(hlen:its.size=more.length)(hsz:more.length<=sizeLine)(hp:∀ (j:Nat) (v:Value) (kv:κ×Value),its[j]?=some v->more[j]?=some kv->∃ t k,v = .ref t/\knd.is kv.1 k=true/\IsTup s.heap t #[k,kv.2])(h:∀ h' tk',(∀ b o,s.heap.get? b=some o->h'.get? b=some o)->h'.DictOf knd s.heap.objs.size (merged [] more)->Q (.ref s.heap.objs.size) { s with heap:=h',toks:=tk' }):wpAny (model P w) A (call (.type "dict") [.ref l]) Q E s:=by
 refine callType_codes (Q₁:=λob s1=>ob = .ref s.heap.objs.size/\s1={ s with heap:=s.heap.push { cls:= .type "dict",data:= .dict #[] } }) PySem.F.kt_called_dict (PySem.F.kt_typeCall_dict_1 _) PySem.F.entry_dict_init (kt_code_dict_new _ ⟨rfl,rfl⟩) ?_;rintro ob s1 ⟨rfl,rfl⟩;have hnew:(s.heap.push { cls:= .type "dict",data:= .dict #[] }).DictOf knd s.heap.objs.size []:=Heap.DictOf.new s.heap;have ho':(s.heap.push { cls:= .type "dict",data:= .dict #[] }).get? l=some { cls:= .type "list",data:= .seq its n }:=yT _ ho;have hTl:Shared.TypeIs { s with heap:=s.heap.push { cls:= .type "dict",data:= .dict #[] } } (.ref l) "list":=⟨_,ho',rfl⟩;have hlt:l<s.heap.objs.size:=yR ho;refine ⟨hnew.typeIs,PySem.F.args_dict_init_2 _ _,?_⟩;unfold Builtin.«dict.__init__»;refine yU ?_;unfold Builtin.Dict.selfAndRest;refine yU (wpAny_notOrdered_dict hnew.typeIs ?_);show wpAny _ _ (pure (s.heap.objs.size,[Value.ref l])) _ _ _;refine yD ?_;show wpAny _ _ (Builtin.Dict.updateFrom "dict.__init__" s.heap.objs.size (.ref l) [] .none) _ _ _;unfold Builtin.Dict.updateFrom;refine yU (wpAny_typeOf hTl ?_);rw [if_pos (by decide)];refine yU (UI ho' (by simpa using hh) λh1 tk1 k1=>?_);rw [if_pos (show (none:Option Value).isNone=true from rfl)];refine yU (wpAny_rule ?_);have ho1:=k1 _ _ ho';have hl1:h1.IsList l its:=⟨_,ho1,rfl,n,rfl⟩;refine yU (wpAny_pyIter_list (s:={ s with heap:=h1,toks:=tk1 }) hl1 ?_);have hd1:h1.DictOf knd s.heap.objs.size []:=by obtain ⟨o,es,ep,hq,r⟩:=hnew;exact ⟨o,es,ep,k1 _ _ hq,r⟩
 have hdlt:s.heap.objs.size<h1.objs.size:=by obtain ⟨o,es,ep,hq,r⟩:=hd1;exact yR hq
 have hll:l<h1.objs.size:=yR ho1;refine yD ⟨plainId_quiet QP _,?_⟩;have W:=Walks.list (prog:=P) (w:=w) (A:=A.in1.in1) (by simpa using hh) h1.objs.size l (yL hll) its;rw [hlen] at W;refine Gv (knd:=knd) (lo:=s.heap.objs.size) W s.heap.objs.size ?_ (yS _) (λb hb=>?_) hsz more.length 0 _ _ { s with heap:=h1.push { cls:= .type "list_iterator",data:= .fields #[.ref l,.int 0 0] },toks:=tk1 } (by omega) (yi _) ⟨⟨_,yv _ rfl,rfl,rfl⟩,hl1.push _⟩ ?_ (λj v kv hv hj=>?_) λh' tk' kp hd=>?_
 ·simp only [yK,yg,or_false,not_or];exact ⟨yL hdlt,Nat.ne_of_gt hlt⟩
 ·rw [yO.mp hb];exact uY hdlt
 ·obtain ⟨o,es,ep,hq,r⟩:=hd1;exact ⟨o,es,ep,yT _ hq,r⟩
 ·obtain ⟨t,k,rfl,hk,o,hto,r⟩:=hp j v kv hv hj;exact ⟨t,k,yR hto,rfl,hk,o,yT _ (k1 _ _ (yT _ hto)),r⟩
 ·exact ⟨rfl,h h' tk' (λb o e=>kp b o (yR e) (yT _ (k1 _ _ (yT _ e)))) hd⟩
end
section
variable {X:Cx}
theorem Pg {pins:List (Addr×Obj)}{U:St}{H:Hp}(I:Inv X pins U H s){ts:List Addr}{kvs:List (z8×V)}(r:Paired (λt (kv:z8×V)=>H t=some (.tup [kV kv.1,kv.2])) ts kvs):∃ more:List (z8×Value),KV kvs more/\∀(j:Nat)(t:Addr)(m:z8×Value),ts[j]?=some t->more[j]?=some m->∃ k,(qo X.prog X.w).is m.1 k=true/\IsTup s.heap t #[k,m.2]:=by
 induction r with
 |nil=>exact ⟨[],.nil,λj t m h=>by simp at h⟩
 |@cons t kv ts kvs p _ ih =>
  obtain ⟨more,k1,k2⟩:=ih;obtain ⟨_,its,rv,ht⟩:=(show ObjOk X.prog X.w H s.heap t (.tup [kV kv.1,kv.2]) from I.hok t _ p);cases rv with
  |cons p1 r1 =>
   cases r1 with
   |cons p2 r2 =>
    cases r2;rename_i u1 u2;refine ⟨(kv.1,u2)::more,.cons ⟨rfl,p2⟩ k1,λj t' m h1 h2=>?_⟩;cases j with
    |zero=>simp at h1 h2;subst h1 h2;exact ⟨u1,vm p1,ht⟩
    |succ j=>exact k2 j t' m (by simpa using h1) (by simpa using h2)
theorem Um:∀{ts:List Addr}{us:List Value},Vals (ts.map V.ref) us->us=ts.map Value.ref
 |[],_,.nil=>rfl
 |t::ts,_,.cons p r=>by
  obtain rfl:=(show _=Value.ref t from p);rw [Um r];rfl
theorem JG:∀{kvs:List (z8×V)}{vs:List (z8×Value)},KV kvs vs->vs.map (·.1)=kvs.map (·.1)
 |[],_,.nil=>rfl
 |_::_,_,.cons p r=>by rw [yP,yP,JG r,p.1]
end
section
variable {X:Cx}{tg:Expr}
def Ym:List V->Hp->VK->Prop:=λxs H Q=>∃(a:Addr)(ts:List Addr)(kvs:List (z8×V)),xs=[.ref a]/\H a=some (.lst (ts.map V.ref))/\Paired (λt (kv:z8×V)=>H t=some (.tup [kV kv.1,kv.2])) ts kvs/\(kvs.map (·.1)).Nodup/\kvs.length<=1000 /\
  ∀ l o,H l=none->Q (.ref l) (j3 H l (.frz o (.dK kvs)))
theorem VI {K:Fg}(hc:X.calm=true)(_:X.K=K):CallR X (.type "dict") Ym:=by
 intro pins s U H xs us Q I r h;obtain ⟨a,ts,kvs,rfl,hq,hp,hn,h1000,q⟩:=h;obtain ⟨u,rfl,ru⟩:=jo r;obtain rfl:u=Value.ref a:=ru;obtain ⟨hz,its,n,rv,ho⟩:=(show ObjOk X.prog X.w H s.heap a (.lst (ts.map V.ref)) from I.hok a _ hq);have ei:=Um rv;obtain ⟨more,k1,k2⟩:=Pg I hp;have lk:more.length=kvs.length:=k1.length.symm;have lt:=hp.length;have hsl:more.length<=sizeLine:=uY (wL (by omega));refine UV (knd:=qo X.prog X.w) (more:=more) (I.ok.hd hc) ho (by rw [yY,ei,yZ];omega) hsl (λj v m hv hm=>?_) λh' tk k hd=>?_
 ·have hv':its[j]?=some v:=by simpa using hv
  rw [ei,yQ] at hv';obtain ⟨t,ht,rfl⟩:=yG.mp hv';obtain ⟨kk,x1,x2⟩:=k2 j t m ht hm;exact ⟨t,kk,rfl,x1,x2⟩
 ·rw [merged_nil_of_nodup more (by rw [JG k1];exact hn)] at hd;obtain ⟨o,es,ep,ho',_⟩:=id hd;refine ⟨.ref s.heap.objs.size,_,I.laid (t':=tk) (o:= .frz o (.dK kvs)) k (yS _) ⟨ho',Wa (by omega) (beq_eq_false_iff_ne.mpr (Ne.symm (yL I.big))) k1 hd⟩,rfl,q _ _ (I.hok.fresh (yS _))⟩
end
end L2
namespace Mi
open PySem L2
variable{H H' H0 Hb Hs Hs' Hs0:Hp}{u v:V}{ks:List z8}{C p:Addr}{ns:List Str}{vs:List V}{o:HO}{U σ':St}{tb te:TE}{r:R2}{ta:TA}{n:Nat}{K:Fg}{t:TT}{E:XK}{nm:Str}{ts:List Nat}{lo:Int}{wi:TI}{tg:TG}
inductive PV where
 |at (v:V)|tup (xs:List PV)|lst (xs:List PV)|dk (ks:List z8) (xs:List PV)|fk (ks:List z8) (xs:List PV)|ob (C:Addr) (ns:List Str) (xs:List PV)|op (φ:Hp->V->Prop)
variable{xs:List PV}{x y:PV}{m:List PV->Option PV}
mutual
def Rep (H:Hp):PV->V->Prop
 | .at u,v=>v=u
 | .tup xs,v=>∃ a vs,v = .ref a/\H a=some (.tup vs)/\Reps H xs vs
 | .lst xs,v=>∃ a vs,v = .ref a/\H a=some (.lst vs)/\Reps H xs vs
 | .dk ks xs,v=>∃ a kvs,v = .ref a/\H a=some (.dK kvs)/\kvs.map (·.1)=ks/\Reps H xs (kvs.map (·.2))
 | .fk ks xs,v=>∃ a o kvs,v = .ref a/\H a=some (.frz o (.dK kvs))/\kvs.map (·.1)=ks/\Reps H xs (kvs.map (·.2))
 | .ob C ns xs,v=>∃ a dx fs,v = .ref a/\H a=some (.ins C dx fs)/\fs.map (·.1)=ns/\Reps H xs (fs.map (·.2))
 | .op φ,v=>∃ H',Same H' H/\φ H' v
def Reps (H:Hp):List PV->List V->Prop
 |[],vs=>vs=[]
 |x::xs,vs=>∃ v r,vs=v::r/\Rep H x v/\Reps H xs r
end
mutual
theorem Rep.mono {H H':Hp}(g:Same H H'):∀{x:PV}{v:V},Rep H x v->Rep H' x v
 | .at u,v,h=>by unfold Rep at h ⊢;exact h
 | .tup xs,v,h=>by unfold Rep at h ⊢;obtain ⟨a,vs,e,p,r⟩:=h;exact ⟨a,vs,e,g _ _ p,Reps.mono g r⟩
 | .lst xs,v,h=>by unfold Rep at h ⊢;obtain ⟨a,vs,e,p,r⟩:=h;exact ⟨a,vs,e,g _ _ p,Reps.mono g r⟩
 | .dk ks xs,v,h=>by unfold Rep at h ⊢;obtain ⟨a,vs,e,p,q,r⟩:=h;exact ⟨a,vs,e,g _ _ p,q,Reps.mono g r⟩
 | .fk ks xs,v,h=>by unfold Rep at h ⊢;obtain ⟨a,o,vs,e,p,q,r⟩:=h;exact ⟨a,o,vs,e,g _ _ p,q,Reps.mono g r⟩
 | .ob C ns xs,v,h=>by unfold Rep at h ⊢;obtain ⟨a,dx,vs,e,p,q,r⟩:=h;exact ⟨a,dx,vs,e,g _ _ p,q,Reps.mono g r⟩
 | .op φ,v,h=>by unfold Rep at h ⊢;obtain ⟨H1,s,p⟩:=h;exact ⟨H1,s.trans g,p⟩
theorem Reps.mono {H H':Hp}(g:Same H H'):∀{xs:List PV}{vs:List V},Reps H xs vs->Reps H' xs vs
 |[],vs,h=>by unfold Reps at h ⊢;exact h
 |x::xs,vs,h=>by unfold Reps at h ⊢;obtain ⟨v,r,e,p,q⟩:=h;exact ⟨v,r,e,Rep.mono g p,Reps.mono g q⟩
end
theorem rep_at :Rep H (.at u) v↔v=u:=by unfold Rep;exact Iff.rfl
theorem rep_tup :Rep H (.tup xs) v↔∃ a vs,v = .ref a/\H a=some (.tup vs)/\Reps H xs vs:=by unfold Rep;exact Iff.rfl
theorem rep_lst :Rep H (.lst xs) v↔∃ a vs,v = .ref a/\H a=some (.lst vs)/\Reps H xs vs:=by unfold Rep;exact Iff.rfl
theorem rep_dk :Rep H (.dk ks xs) v↔∃ a kvs,v = .ref a/\H a=some (.dK kvs)/\kvs.map (·.1)=ks/\Reps H xs (kvs.map (·.2)):=by unfold Rep;exact Iff.rfl
theorem rep_fk :Rep H (.fk ks xs) v↔∃ a o kvs,v = .ref a/\H a=some (.frz o (.dK kvs))/\kvs.map (·.1)=ks/\Reps H xs (kvs.map (·.2)):=by unfold Rep;exact Iff.rfl
theorem rep_ob :Rep H (.ob C ns xs) v↔∃ a dx fs,v = .ref a/\H a=some (.ins C dx fs)/\fs.map (·.1)=ns/\Reps H xs (fs.map (·.2)):=by unfold Rep;exact Iff.rfl
theorem rep_op {φ:Hp->V->Prop}:Rep H (.op φ) v↔∃ H',Same H' H/\φ H' v:=by unfold Rep;exact Iff.rfl
theorem reps_nil :Reps H [] vs↔vs=[]:=by unfold Reps;exact Iff.rfl
theorem reps_cons :Reps H (x::xs) vs↔∃ v r,vs=v::r/\Rep H x v/\Reps H xs r:=by
 constructor
 ·intro h;unfold Reps at h;exact h
 ·intro h;unfold Reps;exact h
theorem Reps.nil :Reps H [] []:=reps_nil.mpr rfl
theorem Reps.cons {H:Hp}{x:PV}{v:V}{xs:List PV}{vs:List V}(p:Rep H x v)(q:Reps H xs vs):Reps H (x::xs) (v::vs):=reps_cons.mpr ⟨v,vs,rfl,p,q⟩
theorem Reps.length {H:Hp}:∀{xs:List PV}{vs:List V},Reps H xs vs->vs.length=xs.length
 |[],vs,h=>by rw [reps_nil.mp h];rfl
 |x::xs,vs,h=>by obtain ⟨v,r,rfl,_,q⟩:=reps_cons.mp h;rw [yx,yx,Reps.length q]
theorem Reps.append {H:Hp}:∀{xs ys:List PV}{vs ws:List V},Reps H xs vs->Reps H ys ws->Reps H (xs++ys) (vs++ws)
 |[],ys,vs,ws,h,k=>by rw [reps_nil.mp h];exact k
 |x::xs,ys,vs,ws,h,k=>by obtain ⟨v,r,rfl,p,q⟩:=reps_cons.mp h;exact .cons p (Reps.append q k)
theorem Reps.one (p:Rep H x v):Reps H [x] [v]:= .cons p .nil
theorem Reps.get {H:Hp}:∀{xs:List PV}{vs:List V}{i:Nat}{x:PV},Reps H xs vs->xs[i]?=some x->∃ v,vs[i]?=some v/\Rep H x v
 |[],_,i,x,_,e=>by simp at e
 |y::xs,vs,0,x,h,e=>by
  obtain ⟨v,r,rfl,p,q⟩:=reps_cons.mp h;simp at e;subst e;exact ⟨v,rfl,p⟩
 |y::xs,vs,i+1,x,h,e=>by
  obtain ⟨v,r,rfl,p,q⟩:=reps_cons.mp h;obtain ⟨w,e1,e2⟩:=Reps.get (i:=i) (x:=x) q (by simpa using e);exact ⟨w,by simpa using e1,e2⟩
theorem Reps.ats {H:Hp}:∀{us vs:List V},Reps H (us.map .at) vs->vs=us
 |[],vs,h=>reps_nil.mp h
 |u::us,vs,h=>by
  obtain ⟨v,r,rfl,p,q⟩:=reps_cons.mp h;rw [rep_at.mp p,Reps.ats q]
theorem Reps.ofAts {H:Hp}:∀(us:List V),Reps H (us.map .at) us
 |[]=> .nil
 |u::us=> .cons (rep_at.mpr rfl) (Reps.ofAts us)
structure Ext (Hs H Hs' H':Hp):Prop where
 s1:Same Hs Hs'
 s2:Same H H'
 s3:Same Hs' H'
 s4:∀ b,H b≠none->Hs b=none->Hs' b=none
theorem vH (g:Same H H'){b:Addr}(h:H b≠none):H' b≠none:=λz=>h (g.free z)
theorem Ext.refl (s:Same Hs H):Ext Hs H Hs H:=⟨.refl _,.refl _,s,λ_ _ z=>z⟩
theorem Ext.trans {A B A1 B1 A2 B2:Hp}(x:Ext A B A1 B1)(y:Ext A1 B1 A2 B2):Ext A B A2 B2:=⟨x.s1.trans y.s1,x.s2.trans y.s2,y.s3,λb h z=>y.s4 b (vH x.s2 h) (x.s4 b h z)⟩
theorem Ext.new (s:Same Hs H)(h:H p=none):Ext Hs H (j3 Hs p o) (j3 H p o):=by
 have hs:Hs p=none:=s.free h;refine ⟨λb u e=>?_,λb u e=>?_,λb u e=>?_,λb e z=>?_⟩
 ·rw [z9 (w9 e hs)];exact e
 ·rw [z9 (w9 e h)];exact e
 ·by_cases hb:b=p
  ·subst hb;rw [u3] at e ⊢;exact e
  ·rw [z9 hb] at e ⊢;exact s _ _ e
 ·have hb:b≠p:=λq=>e (by rw [q];exact h);rw [z9 hb];exact z
theorem Ext.newO (s:Same Hs H)(h:H p=none):Ext Hs H Hs (j3 H p o) :=
 ⟨.refl _,λb u e=>by rw [z9 (w9 e h)];exact e,λb u e=>by rw [z9 (w9 (s _ _ e) h)];exact s _ _ e,λ_ _ z=>z⟩
def Top (Hs H:Hp)(a:Addr):PV->Prop
 | .lst xs=>∃ vs,H a=some (.lst vs)/\Reps Hs xs vs
 | .dk ks xs=>∃ kvs,H a=some (.dK kvs)/\kvs.map (·.1)=ks/\Reps Hs xs (kvs.map (·.2))
 | .ob C ns xs=>∃ dx fs,H a=some (.ins C dx fs)/\fs.map (·.1)=ns/\Reps Hs xs (fs.map (·.2))
 |_=>False
theorem Top.there {a:Addr}:∀{x:PV},Top Hs H a x->H a≠none
 | .lst _,h,z=>by obtain ⟨vs,e,_⟩:=h;rw [e] at z;cases z
 | .dk _ _,h,z=>by obtain ⟨vs,e,_⟩:=h;rw [e] at z;cases z
 | .ob _ _ _,h,z=>by obtain ⟨dx,vs,e,_⟩:=h;rw [e] at z;cases z
theorem Top.mono {a:Addr}(g:Same Hs Hs')(e:∀ o,H a=some o->H' a=some o):∀{x:PV},Top Hs H a x->Top Hs' H' a x
 | .lst _,h=>by obtain ⟨vs,q,r⟩:=h;exact ⟨vs,e _ q,r.mono g⟩
 | .dk _ _,h=>by obtain ⟨vs,q,k,r⟩:=h;exact ⟨vs,e _ q,k,r.mono g⟩
 | .ob _ _ _,h=>by obtain ⟨dx,vs,q,k,r⟩:=h;exact ⟨dx,vs,e _ q,k,r.mono g⟩
theorem Top.rep {a:Addr}:∀{x:PV},Top Hs H a x->Hs a=none->∃ o,H a=some o/\Rep (j3 Hs a o) x (.ref a)
 | .lst _,h,n=>by
  obtain ⟨vs,q,r⟩:=h;exact ⟨_,q,rep_lst.mpr ⟨a,vs,rfl,u3,r.mono λb u e=>by rw [z9 (w9 e n)];exact e⟩⟩
 | .dk _ _,h,n=>by
  obtain ⟨vs,q,k,r⟩:=h;exact ⟨_,q,rep_dk.mpr ⟨a,vs,rfl,u3,k,r.mono λb u e=>by rw [z9 (w9 e n)];exact e⟩⟩
 | .ob _ _ _,h,n=>by
  obtain ⟨dx,vs,q,k,r⟩:=h;exact ⟨_,q,rep_ob.mpr ⟨a,dx,vs,rfl,u3,k,r.mono λb u e=>by rw [z9 (w9 e n)];exact e⟩⟩
theorem Ext.share {a:Addr}(x:Ext Hs H Hs' H')(h:H a=none)(n:Hs' a=none)(e:H' a=some o):Ext Hs H (j3 Hs' a o) H':=by
 refine ⟨λb u q=>?_,x.s2,λb u q=>?_,λb q z=>?_⟩
 ·rw [z9 (w9 (x.s1 _ _ q) n)];exact x.s1 _ _ q
 ·by_cases hb:b=a
  ·subst hb;rw [u3] at q;cases q;exact e
  ·rw [z9 hb] at q;exact x.s3 _ _ q
 ·have hb:b≠a:=λr=>q (by rw [r];exact h);rw [z9 hb];exact x.s4 b q z
def RepB (Hs H:Hp)(x:PV)(v:V):Prop:=Rep Hs x v∨∃ a,v = .ref a/\Hs a=none/\Top Hs H a x
theorem RepB.ext (e:Ext Hs H Hs' H')(h:RepB Hs H x v):RepB Hs' H' x v:=by
 rcases h with h|⟨a,rfl,n,t⟩
 ·exact .inl (h.mono e.s1)
 ·exact .inr ⟨a,rfl,e.s4 a t.there n,t.mono e.s1 λo q=>e.s2 _ _ q⟩
inductive MSlot where
 |no|sh (x:PV)|ow (x:PV)|bo (x:PV)
abbrev ME:=List MSlot
variable{ε:ME}
def Own (H0 Hs H:Hp)(a:Addr)(x:PV):Prop:=H0 a=none/\Hs a=none/\Top Hs H a x
structure RS (Hs0 H0 Hs H:Hp)(U:St)(ε:ME):Prop where
 ext:Ext Hs0 H0 Hs H
 sh:∀(i:Nat)(x:PV),ε[i]?=some (.sh x)->∃ v,U[i]?=some (some v)/\Rep Hs x v
 ow:∀(i:Nat)(x:PV),ε[i]?=some (.ow x)->∃ a,U[i]?=some (some (.ref a))/\Own H0 Hs H a x
 nd:∀(i j:Nat)(x y:PV)(a:Addr),ε[i]?=some (.ow x)->ε[j]?=some (.ow y)->U[i]?=some (some (.ref a))->U[j]?=some (some (.ref a))->i=j
 len:U.length=ε.length
 bo:∀(i:Nat)(x:PV),ε[i]?=some (.bo x)->∃ v,U[i]?=some (some v)/\(Rep Hs x v∨∃ a,v = .ref a/\H0 a≠none/\Hs a=none/\Top Hs H a x)
section
variable {Hs0 H0 Hs H Hs' H':Hp}{U:St}{ε:ME}
theorem RS.go (r:RS Hs0 H0 Hs H U ε)(e:Ext Hs H Hs' H'):RS Hs0 H0 Hs' H' U ε where
 ext:=r.ext.trans e
 sh:=λi x q=>by obtain ⟨v,a,b⟩:=r.sh i x q;exact ⟨v,a,b.mono e.s1⟩
 ow:=λi x q=>by
  obtain ⟨a,b,n0,n,t⟩:=r.ow i x q;exact ⟨a,b,n0,e.s4 a t.there n,t.mono e.s1 λo z=>e.s2 _ _ z⟩
 nd:=r.nd
 len:=r.len
 bo:=λi x q=>by
  obtain ⟨v,b,h|⟨a,rfl,n0,n,t⟩⟩:=r.bo i x q
  ·exact ⟨v,b,.inl (h.mono e.s1)⟩
  ·exact ⟨_,b,.inr ⟨a,rfl,n0,e.s4 a t.there n,t.mono e.s1 λo z=>e.s2 _ _ z⟩⟩
theorem RS.sub (r:RS Hs0 H0 Hs H U ε):Same Hs H:=r.ext.s3
theorem RS.rebase (r:RS Hs0 H0 Hs H U ε):RS Hs H0 Hs H U ε:=⟨⟨.refl _,r.ext.s2,r.ext.s3,λ_ _ z=>z⟩,r.sh,r.ow,r.nd,r.len,r.bo⟩
theorem Ext.unbase (r:Ext Hs0 H0 Hb H)(e:Ext Hb H0 Hs' H'):Ext Hs0 H0 Hs' H':=⟨r.s1.trans e.s1,e.s2,e.s3,λb h z=>e.s4 b h (r.s4 b h z)⟩
theorem RS.unbase {ε':ME}(r:Ext Hs0 H0 Hb H)(e:RS Hb H0 Hs' H' σ' ε'):RS Hs0 H0 Hs' H' σ' ε':=⟨r.unbase e.ext,e.sh,e.ow,e.nd,e.len,e.bo⟩
theorem RS.put (r:RS Hs0 H0 Hs H U ε){i:Nat}(h:Rep Hs x v):RS Hs0 H0 Hs H (U.set i (some v)) (ε.set i (.sh x)) where
 ext:=r.ext
 sh:=λj y q=>by
  rw [yN] at q ⊢;split at q
  ·rename_i hij;split at q
   ·rename_i hl;injection q with q;injection q with q;subst q;rw [if_pos hij,if_pos (by rw [r.len,hij];rw [hij] at hl;exact hl)];exact ⟨v,rfl,h⟩
   ·cases q
  ·rename_i hij;rw [if_neg hij];exact r.sh j y q
 ow:=λj y q=>by
  rw [yN] at q ⊢;split at q
  ·split at q<;>cases q
  ·rename_i hij;rw [if_neg hij];exact r.ow j y q
 nd:=λj k x y a h1 h2 h3 h4=>by
  rw [yN] at h1 h2 h3 h4;split at h1
  ·split at h1<;>cases h1
  ·rename_i hj;rw [if_neg hj] at h3;split at h2
   ·split at h2<;>cases h2
   ·rename_i hk;rw [if_neg hk] at h4;exact r.nd j k x y a h1 h2 h3 h4
 len:=by rw [yt,yt,r.len]
 bo:=λj y q=>by
  rw [yN] at q ⊢;split at q
  ·split at q<;>cases q
  ·rename_i hij;rw [if_neg hij];exact r.bo j y q
theorem RS.putO (r:RS Hs0 H0 Hs H U ε){i:Nat}{a:Addr}(h:Own H0 Hs H a x)(ne:∀(j:Nat)(y:PV),ε[j]?=some (.ow y)->U[j]?≠some (some (.ref a))):RS Hs0 H0 Hs H (U.set i (some (.ref a))) (ε.set i (.ow x)) where
 ext:=r.ext
 sh:=λj y q=>by
  rw [yN] at q ⊢;split at q
  ·split at q<;>cases q
  ·rename_i hij;rw [if_neg hij];exact r.sh j y q
 ow:=λj y q=>by
  rw [yN] at q ⊢;split at q
  ·rename_i hij;split at q
   ·rename_i hl;injection q with q;injection q with q;subst q;rw [if_pos hij,if_pos (by rw [r.len,hij];rw [hij] at hl;exact hl)];exact ⟨a,rfl,h⟩
   ·cases q
  ·rename_i hij;rw [if_neg hij];exact r.ow j y q
 nd:=λj k x' y b h1 h2 h3 h4=>by
  rw [yN] at h1 h2 h3 h4;split at h1
  ·rename_i hj;rw [if_pos hj] at h3;split at h1
   ·rename_i hl;rw [if_pos (by rw [r.len];exact hl)] at h3;injection h3 with h3;injection h3 with h3;injection h3 with h3;subst h3;split at h2
    ·rename_i hk;exact hj.symm.trans hk
    ·rename_i hk;rw [if_neg hk] at h4;exact absurd h4 (ne k y h2)
   ·cases h1
  ·rename_i hj;rw [if_neg hj] at h3;split at h2
   ·rename_i hk;rw [if_pos hk] at h4;split at h2
    ·rename_i hl;rw [if_pos (by rw [r.len];exact hl)] at h4;injection h4 with h4;injection h4 with h4;injection h4 with h4;subst h4;exact absurd h3 (ne j x' h1)
    ·cases h2
   ·rename_i hk;rw [if_neg hk] at h4;exact r.nd j k x' y b h1 h2 h3 h4
 len:=by rw [yt,yt,r.len]
 bo:=λj y q=>by
  rw [yN] at q ⊢;split at q
  ·split at q<;>cases q
  ·rename_i hij;rw [if_neg hij];exact r.bo j y q
theorem RS.change (r:RS Hs0 H0 Hs H U ε){i:Nat}{a:Addr}(hi:ε[i]?=some (.ow x))(ha:U[i]?=some (some (.ref a)))(t:Top Hs (j3 H a o) a y):RS Hs0 H0 Hs (j3 H a o) U (ε.set i (.ow y)):=by
 obtain ⟨b,hb,n0,n,tx⟩:=r.ow i x hi;rw [ha] at hb;injection hb with hb;injection hb with hb;injection hb with hb;subst hb;refine ⟨⟨r.ext.s1,λb u e=>?_,λb u e=>?_,r.ext.s4⟩,λj z q=>?_,λj z q=>?_,λj k z z' c h1 h2 h3 h4=>?_,by rw [yt,r.len],λj z q=>?_⟩
 ·rw [z9 (w9 e n0)];exact r.ext.s2 _ _ e
 ·rw [z9 (w9 e n)];exact r.ext.s3 _ _ e
 ·rw [yN] at q;split at q
  ·split at q<;>cases q
  ·exact r.sh j z q
 ·rw [yN] at q;split at q
  ·rename_i hij;split at q
   ·injection q with q;injection q with q;subst q;exact ⟨a,hij▸ha,n0,n,t⟩
   ·cases q
  ·rename_i hij;obtain ⟨c,hc,m0,m,tc⟩:=r.ow j z q;have hne:c≠a:=λe=>hij (r.nd i j x z a hi q ha (e▸hc));exact ⟨c,hc,m0,m,tc.mono (.refl _) λo' e=>by rw [z9 hne];exact e⟩
 ·have down:∀{m:Nat}{w:PV},(ε.set i (.ow y))[m]?=some (.ow w)->∃ w',ε[m]?=some (.ow w'):=by
   intro m w q;rw [yN] at q;split at q
   ·rename_i him;exact ⟨x,him▸hi⟩
   ·exact ⟨w,q⟩
  obtain ⟨w1,q1⟩:=down h1;obtain ⟨w2,q2⟩:=down h2;exact r.nd j k w1 w2 c q1 q2 h3 h4
 ·rw [yN] at q;split at q
  ·split at q<;>cases q
  ·obtain ⟨v,hv,h|⟨c,rfl,m0,m,tc⟩⟩:=r.bo j z q
   ·exact ⟨v,hv,.inl h⟩
   ·have hne:c≠a:=λe=>m0 (e▸n0);exact ⟨_,hv,.inr ⟨c,rfl,m0,m,tc.mono (.refl _) λo' e=>by rw [z9 hne];exact e⟩⟩
def fz (i:Nat)(ε:ME):ME:=match ε[i]? with
 |some (.ow x)=>ε.set i (.sh x)
 |_=>ε
end
theorem vt {j:Nat}{s:MSlot}(h:∀(i:Nat)(x:PV),ε[i]?≠some (.bo x))(hs:∀ x,s ≠ .bo x):∀(i:Nat)(x:PV),(ε.set j s)[i]?≠some (.bo x):=λi x q=>by
 rw [yN] at q;split at q
 ·split at q
  ·injection q with q;exact hs x q
  ·cases q
 ·exact h i x q
abbrev M:=ME->Option PV
variable{a b:M}
abbrev MB:=ME->Option Bool
variable{c:MB}
abbrev MA:=ME->Option (List PV)
variable{as f:MA}
class SemE (te:TE)(f:M):Prop where
 h:∀{ε y},f ε=some y->∀{Hs0 H0 Hs H U},RS Hs0 H0 Hs H U ε->∀{Q:VK},(∀ v Hs' H',Ext Hs H Hs' H'->Rep Hs' y v->Q v H')->te U H Q
class n9 (te:TE)(f:M):Prop where
 h:∀{ε y},f ε=some y->∀{Hs0 H0 Hs H U},RS Hs0 H0 Hs H U ε->∀{Q:VK},(∀ v Hs' H',Ext Hs H Hs' H'->RepB Hs' H' y v->Q v H')->te U H Q
class qI (te:TE)(f:M):Prop where
 h:∀{ε y},f ε=some y->∀{Hs0 H0 Hs H U},RS Hs0 H0 Hs H U ε->∀{Q:VK},(∀ a Hs' H',Ext Hs H Hs' H'->H a=none->Hs' a=none->Top Hs' H' a y->Q (.ref a) H')->te U H Q
class qc (tt:TT)(f:MB):Prop where
 h:∀{ε y},f ε=some y->∀{Hs0 H0 Hs H U},RS Hs0 H0 Hs H U ε->∀{Q:Bool->Hp->Prop},(∀ Hs' H',Ext Hs H Hs' H'->Q y H')->tt U H Q
class i5 (ta:TA)(f:MA):Prop where
 h:∀{ε ys},f ε=some ys->∀{Hs0 H0 Hs H U},RS Hs0 H0 Hs H U ε->∀{Q:List V->Hp->Prop},(∀ vs Hs' H',Ext Hs H Hs' H'->Reps Hs' ys vs->Q vs H')->ta U H Q
def jZ (Hs H:Hp):List PV->List V->Prop
 |[],vs=>vs=[]
 |x::xs,vs=>∃ v r,vs=v::r/\RepB Hs H x v/\jZ Hs H xs r
class vX (ta:TA)(f:MA):Prop where
 h:∀{ε ys},f ε=some ys->∀{Hs0 H0 Hs H U},RS Hs0 H0 Hs H U ε->∀{Q:List V->Hp->Prop},(∀ vs Hs' H',Ext Hs H Hs' H'->jZ Hs' H' ys vs->Q vs H')->ta U H Q
class xh (r:R2)(g:PV->PV->Option PV):Prop where
 h:∀{x y z},g x y=some z->∀{Hs H:Hp}{v w:V},Same Hs H->RepB Hs H x v->RepB Hs H y w->∀{Q:VK},(∀ u Hs' H',Ext Hs H Hs' H'->Rep Hs' z u->Q u H')->r v w H Q
instance (priority:=50) semE_O {f:M}[s:qI te f]:SemE te f where
 h:=λe _ _ _ _ _ r _ q=>s.h e r λa Hs' H' x h n t=>by
  obtain ⟨o,ho,hr⟩:=t.rep n;exact q _ _ _ (x.share h n ho) hr
instance (priority:=50) semB_E {f:M}[s:SemE te f]:n9 te f where
 h:=λe _ _ _ _ _ r _ q=>s.h e r λv Hs' H' x h=>q v Hs' H' x (.inl h)
def x8 (i:Nat):M:=λε=>match ε[i]? with
 |some (.sh x)=>some x
 |_=>none
def x9 (i:Nat):M:=λε=>match ε[i]? with
 |some (.sh x)=>some x
 |some (.ow x)=>some x
 |some (.bo x)=>some x
 |_=>none
def dC (v:V):M:=λ_=>some (.at v)
instance {i:Nat}:SemE (qu i) (x8 i) where
 h:=λ{ε y} e {_ _ _ _ _} r {_} q=>by
  unfold x8 at e;split at e
  ·rename_i x hx;cases e;obtain ⟨v,h1,h2⟩:=r.sh i _ hx;exact ⟨v,h1,q v _ _ (.refl r.sub) h2⟩
  ·cases e
instance {i:Nat}:n9 (qu i) (x9 i) where
 h:=λ{ε y} e {_ _ _ _ _} r {_} q=>by
  unfold x9 at e;split at e
  ·rename_i x hx;cases e;obtain ⟨v,h1,h2⟩:=r.sh i _ hx;exact ⟨v,h1,q v _ _ (.refl r.sub) (.inl h2)⟩
  ·rename_i x hx;cases e;obtain ⟨a,h1,_,n,t⟩:=r.ow i _ hx;exact ⟨_,h1,q _ _ _ (.refl r.sub) (.inr ⟨a,rfl,n,t⟩)⟩
  ·rename_i x hx;cases e;obtain ⟨v,h1,h2|⟨a,rfl,_,n,t⟩⟩:=r.bo i _ hx
   ·exact ⟨v,h1,q v _ _ (.refl r.sub) (.inl h2)⟩
   ·exact ⟨_,h1,q _ _ _ (.refl r.sub) (.inr ⟨a,rfl,n,t⟩)⟩
  ·cases e
instance :SemE (tC v) (dC v) where
 h:=λe _ _ _ _ _ r _ q=>by cases e;exact q v _ _ (.refl r.sub) (rep_at.mpr rfl)
def z7 (g:PV->PV->Option PV)(a b:M):M:=λε=>(a ε).bind λx=>(b ε).bind λy=>g x y
theorem bind_some {α β:Type}{o:Option α}{f:α->Option β}{y:β}(h:o.bind f=some y):∃ x,o=some x/\f x=some y:=by
 cases o with
 |none=>cases h
 |some x=>exact ⟨x,rfl,h⟩
instance {g:PV->PV->Option PV}{ta:TE}[sr:xh r g][sa:n9 ta a][sb:n9 tb b]:SemE (tOp r ta tb) (z7 g a b) where
 h:=λe _ _ _ _ _ rs _ q=>by
  obtain ⟨x,ex,e⟩:=bind_some e;obtain ⟨y,ey,e⟩:=bind_some e;exact sa.h ex rs λv Hs1 H1 x1 r1=>sb.h ey (rs.go x1) λw Hs2 H2 x2 r2=>sr.h e x2.s3 (r1.ext x2) r2 λu Hs3 H3 x3 r3=>q u _ _ (x1.trans (x2.trans x3)) r3
def x0:MA:=λ_=>some []
def q9 (a:M)(r:MA):MA:=λε=>(a ε).bind λx=>(r ε).bind λxs=>some (x::xs)
instance:i5 xl x0 where
 h:=λe _ _ _ _ _ r _ q=>by cases e;exact q [] _ _ (.refl r.sub) .nil
instance [sa:SemE te a][sr:i5 ta f]:i5 (qt te ta) (q9 a f) where
 h:=λe _ _ _ _ _ rs _ q=>by
  obtain ⟨x,ex,e⟩:=bind_some e;obtain ⟨xs,ey,e⟩:=bind_some e;cases e;exact sa.h ex rs λv Hs1 H1 x1 r1=>sr.h ey (rs.go x1) λvs Hs2 H2 x2 r2=>q _ _ _ (x1.trans x2) (.cons (r1.mono x2.s1) r2)
instance:vX xl x0 where
 h:=λe _ _ _ _ _ r _ q=>by cases e;exact q [] _ _ (.refl r.sub) rfl
instance [sa:n9 te a][sr:vX ta f]:vX (qt te ta) (q9 a f) where
 h:=λe _ _ _ _ _ rs _ q=>by
  obtain ⟨x,ex,e⟩:=bind_some e;obtain ⟨xs,ey,e⟩:=bind_some e;cases e;exact sa.h ex rs λv Hs1 H1 x1 r1=>sr.h ey (rs.go x1) λvs Hs2 H2 x2 r2=>q _ _ _ (x1.trans x2) ⟨_,_,rfl,r1.ext x2,r2⟩
def lim:Nat:=1000000
theorem qX (h:n<=lim):n<=sizeLine:=yh h (by rw [sizeLine_eq];decide)
theorem Qw (h:n<=lim):n<sizeLine:=Nat.lt_of_le_of_lt h (by rw [sizeLine_eq];decide)
def i7 (a:MA):M:=λε=>(a ε).bind λxs=>if xs.length<=lim then some (.tup xs) else none
def b7 (a:MA):M:=λε=>(a ε).bind λxs=>if xs.length<=lim then some (.lst xs) else none
instance [sa:i5 ta f]:SemE (tTup ta) (i7 f) where
 h:=λe _ _ _ _ _ rs _ q=>by
  obtain ⟨xs,ex,e⟩:=bind_some e;split at e
  ·rename_i hl;cases e;exact sa.h ex rs λvs Hs1 H1 x1 r1=>⟨qX (r1.length▸hl),λp hp=>q _ _ _ (x1.trans (.new x1.s3 hp)) (rep_tup.mpr ⟨p,vs,rfl,u3,r1.mono (Ext.new x1.s3 hp).s1⟩)⟩
  ·cases e
instance [sa:i5 ta f]:qI (tLst ta) (b7 f) where
 h:=λe _ _ _ _ _ rs _ q=>by
  obtain ⟨xs,ex,e⟩:=bind_some e;split at e
  ·rename_i hl;cases e;exact sa.h ex rs λvs Hs1 H1 x1 r1=>⟨qX (r1.length▸hl),λp hp=>q _ _ _ (x1.trans (.newO x1.s3 hp)) (x1.s2.free hp) (x1.s3.free hp) ⟨vs,u3,r1⟩⟩
  ·cases e
theorem y9 (h:RepB Hs H (.at u) v):v=u:=by
 rcases h with h|⟨a,_,_,t⟩
 ·exact rep_at.mp h
 ·exact t.elim
theorem qr (s:Same Hs H)(h:RepB Hs H (.lst xs) v):∃ a vs,v = .ref a/\H a=some (.lst vs)/\Reps Hs xs vs:=by
 rcases h with h|⟨a,rfl,_,vs,e,r⟩
 ·obtain ⟨a,vs,rfl,e,r⟩:=rep_lst.mp h;exact ⟨a,vs,rfl,s _ _ e,r⟩
 ·exact ⟨a,vs,rfl,e,r⟩
theorem qM (s:Same Hs H)(h:RepB Hs H (.tup xs) v):∃ a vs,v = .ref a/\H a=some (.tup vs)/\Reps Hs xs vs:=by
 rcases h with h|⟨a,rfl,_,t⟩
 ·obtain ⟨a,vs,rfl,e,r⟩:=rep_tup.mp h;exact ⟨a,vs,rfl,s _ _ e,r⟩
 ·exact t.elim
theorem wK (s:Same Hs H)(h:RepB Hs H (.fk ks xs) v):∃ a o kvs,v = .ref a/\H a=some (.frz o (.dK kvs))/\kvs.map (·.1)=ks/\Reps Hs xs (kvs.map (·.2)):=by
 rcases h with h|⟨a,rfl,n,t⟩
 ·obtain ⟨a,o,kvs,rfl,e,k,r⟩:=rep_fk.mp h;exact ⟨a,o,kvs,rfl,s _ _ e,k,r⟩
 ·exact t.elim
theorem jk (s:Same Hs H)(h:RepB Hs H (.dk ks xs) v):∃ a kvs,v = .ref a/\H a=some (.dK kvs)/\kvs.map (·.1)=ks/\Reps Hs xs (kvs.map (·.2)):=by
 rcases h with h|⟨a,rfl,_,kvs,e,k,r⟩
 ·obtain ⟨a,kvs,rfl,e,k,r⟩:=rep_dk.mp h;exact ⟨a,kvs,rfl,s _ _ e,k,r⟩
 ·exact ⟨a,kvs,rfl,e,k,r⟩
theorem YA (s:Same Hs H)(h:RepB Hs H (.ob C ns xs) v):∃ a dx fs,v = .ref a/\H a=some (.ins C dx fs)/\fs.map (·.1)=ns/\Reps Hs xs (fs.map (·.2)):=by
 rcases h with h|⟨a,rfl,_,dx,fs,e,k,r⟩
 ·obtain ⟨a,dx,fs,rfl,e,k,r⟩:=rep_ob.mp h;exact ⟨a,dx,fs,rfl,s _ _ e,k,r⟩
 ·exact ⟨a,dx,fs,rfl,e,k,r⟩
def pI (g:Int->Int->Option V):PV->PV->Option PV
 | .at (.int i),.at (.int j)=>(g i j).map .at
 |_,_=>none
theorem WU {g:Int->Int->Option V}{z:PV}(h:pI g x y=some z):∃ i j u,x = .at (.int i)/\y = .at (.int j)/\g i j=some u/\z = .at u:=by
 unfold pI at h;split at h
 ·rename_i i j;obtain ⟨u,e,rfl⟩:=yG.mp h;exact ⟨i,j,u,rfl,rfl,e,rfl⟩
 ·cases h
instance {g:Int->Int->V}:xh (rI0 g) (pI λi j=>some (g i j)) where
 h:=λe _ _ _ _ s a b _ q=>by
  obtain ⟨i,j,u,rfl,rfl,e,rfl⟩:=WU e;cases e;exact ⟨i,j,y9 a,y9 b,q _ _ _ (.refl s) (rep_at.mpr rfl)⟩
instance {C:Int->Int->Prop}[d:∀ i j,Decidable (C i j)]{g:Int->Int->V}:xh (rI C g) (pI λi j=>if C i j then some (g i j) else none) where
 h:=λe _ _ _ _ s a b _ q=>by
  obtain ⟨i,j,u,rfl,rfl,e',rfl⟩:=WU e;split at e'
  ·rename_i hc;cases e';exact ⟨i,j,y9 a,y9 b,hc,q _ _ _ (.refl s) (rep_at.mpr rfl)⟩
  ·cases e'
def u5:PV->PV->Option PV
 | .lst xs,.at (.int i)=>atI xs i
 | .tup xs,.at (.int i)=>atI xs i
 | .at (.str z),.at (.int i)=>if z.length<=lim then (L2.atI z.cps.toList i).map λc=> .at (.str ⟨#[c]⟩) else none
 |_,_=>none
theorem Reps.atI {i:Int}(r:Reps H xs vs)(h:atI xs i=some x):∃ v,L2.atI vs i=some v/\Rep H x v:=by unfold L2.atI at h ⊢;rw [r.length];obtain ⟨j,ej,e⟩:=bind_some h;rw [ej];exact r.get e
instance :xh (rIx K) u5 where
 h:=λ{x y z} e {Hs H v w} s a b {Q} q=>by
  unfold u5 at e;split at e
  ·obtain ⟨p,vs,rfl,e1,r1⟩:=qr s a;obtain ⟨u,hu,r⟩:=r1.atI e;exact .inl ⟨p,vs,_,u,rfl,y9 b,SqL.of e1,hu,q _ _ _ (.refl s) r⟩
  ·obtain ⟨p,vs,rfl,e1,r1⟩:=qM s a;obtain ⟨u,hu,r⟩:=r1.atI e;exact .inr (.inl ⟨p,vs,_,u,rfl,y9 b,SqT.of e1,hu,q _ _ _ (.refl s) r⟩)
  ·split at e
   ·rename_i hz;obtain ⟨c,hc,rfl⟩:=yG.mp e;exact .inr (.inr ⟨_,_,c,y9 a,y9 b,qX hz,hc,q _ _ _ (.refl s) (rep_at.mpr rfl)⟩)
   ·cases e
  ·cases e
def ats:List PV->Option (List V)
 |[]=>some []
 | .at u::xs=>(ats xs).map (u::·)
 |_::_=>none
theorem Qe:∀{xs:List PV}{us:List V},ats xs=some us->xs=us.map .at
 |[],_,h=>by cases h;rfl
 | .at u::xs,us,h=>by
  unfold ats at h;obtain ⟨r,e,rfl⟩:=yG.mp h;rw [yP,Qe e]
 | .tup _::_,_,h=>by cases h
 | .lst _::_,_,h=>by cases h
 | .dk _ _::_,_,h=>by cases h
 | .fk _ _::_,_,h=>by cases h
 | .ob _ _ _::_,_,h=>by cases h
 | .op _::_,_,h=>by cases h
def pIn (neg:Bool):PV->PV->Option PV
 | .at u,.lst xs=>(ats xs).bind λus=>if u4 u=true/\us.all u4=true then some (.at (.bl (if neg then !inV u us else inV u us))) else none
 | .at u,.tup xs=>(ats xs).bind λus=>if u4 u=true/\us.all u4=true then some (.at (.bl (if neg then !inV u us else inV u us))) else none
 |_,_=>none
instance {neg:Bool}:xh (rIn K neg) (pIn neg) where
 h:=λ{x y z} e {Hs H v w} s a b {Q} q=>by
  unfold pIn at e;split at e
  ·obtain ⟨us,e1,e⟩:=bind_some e;split at e
   ·rename_i hf;cases e;obtain ⟨p,vs,rfl,e2,r2⟩:=qr s b;rw [Qe e1] at r2;cases r2.ats;cases y9 a;exact ⟨p,_,rfl,.inl (SqL.of e2),hf.1,hf.2,q _ _ _ (.refl s) (rep_at.mpr rfl)⟩
   ·cases e
  ·obtain ⟨us,e1,e⟩:=bind_some e;split at e
   ·rename_i hf;cases e;obtain ⟨p,vs,rfl,e2,r2⟩:=qM s b;rw [Qe e1] at r2;cases r2.ats;cases y9 a;exact ⟨p,_,rfl,.inr (SqT.of e2),hf.1,hf.2,q _ _ _ (.refl s) (rep_at.mpr rfl)⟩
   ·cases e
  ·cases e
class SemU (r:V->Hp->VK->Prop)(g:PV->Option PV):Prop where
 h:∀{x z},g x=some z->∀{Hs H:Hp}{v:V},Same Hs H->RepB Hs H x v->∀{Q:VK},(∀ u Hs' H',Ext Hs H Hs' H'->Rep Hs' z u->Q u H')->r v H Q
def dUn (g:PV->Option PV)(a:M):M:=λε=>(a ε).bind g
instance {r:V->Hp->VK->Prop}{g:PV->Option PV}{ta:TE}[sr:SemU r g][sa:n9 ta a]:SemE (tUn r ta) (dUn g a) where
 h:=λe _ _ _ _ _ rs _ q=>by
  obtain ⟨x,ex,e⟩:=bind_some e;exact sa.h ex rs λv Hs1 H1 x1 r1=>sr.h e x1.s3 r1 λu Hs3 H3 x3 r3=>q u _ _ (x1.trans x3) r3
def pU (g:Int->V):PV->Option PV
 | .at (.int i)=>some (.at (g i))
 |_=>none
instance {g:Int->V}:SemU (rU g) (pU g) where
 h:=λ{x z} e {_ _ _} s a {_} q=>by
  unfold pU at e;split at e
  ·cases e;exact ⟨_,y9 a,q _ _ _ (.refl s) (rep_at.mpr rfl)⟩
  ·cases e
def pB:PV->Option Bool
 | .at (.bl b)=>some b
 |_=>none
theorem vx {b:Bool}(h:pB x=some b):x = .at (.bl b):=by
 unfold pB at h;split at h
 ·cases h;rfl
 ·cases h
def dT (a:M):MB:=λε=>(a ε).bind pB
instance [sa:n9 te a]:qc (Xc te) (dT a) where
 h:=λe _ _ _ _ _ rs _ q=>by
  obtain ⟨x,ex,e⟩:=bind_some e;cases vx e;exact sa.h ex rs λv Hs1 H1 x1 r1=>⟨_,y9 r1,q _ _ x1⟩
instance [sa:n9 te a]:qc (tB te) (dT a) where
 h:=λe _ _ _ _ _ rs _ q=>by
  obtain ⟨x,ex,e⟩:=bind_some e;cases vx e;exact sa.h ex rs λv Hs1 H1 x1 r1=>⟨_,y9 r1,q _ _ x1⟩
def tTru (K:Fg)(ta:TE):TT:=λU H Q=>ta U H λx H'=>∃ k,TruV K x H' k/\Q k H'
def pTru:PV->Option Bool
 | .at .non=>some false
 | .at (.bl b)=>some b
 | .at (.int i)=>some (i != 0)
 | .at (.str y)=>if y.length<=lim then some ((y.length:Int) != 0) else none
 | .lst xs=>some (!xs.isEmpty)
 | .tup xs=>some (!xs.isEmpty)
 | .dk ks _=>some (!ks.isEmpty)
 |_=>none
def c3 (a:M):MB:=λε=>(a ε).bind pTru
theorem Reps.isEmpty (r:Reps H xs vs):vs.isEmpty=xs.isEmpty:=by have:=r.length;cases xs<;>cases vs<;>first|rfl|(simp at this)
instance [sa:n9 te a]:qc (tTru K te) (c3 a) where
 h:=λe _ _ _ _ _ rs _ q=>by
  obtain ⟨x,ex,e⟩:=bind_some e;refine sa.h ex rs λv Hs1 H1 x1 r1=>?_;unfold pTru at e;split at e
  ·cases e;cases y9 r1;exact ⟨_,rfl,q _ _ x1⟩
  ·cases e;cases y9 r1;exact ⟨_,rfl,q _ _ x1⟩
  ·cases e;cases y9 r1;exact ⟨_,rfl,q _ _ x1⟩
  ·split at e
   ·rename_i hl;cases e;cases y9 r1;exact ⟨_,⟨qX hl,rfl⟩,q _ _ x1⟩
   ·cases e
  ·cases e;obtain ⟨p,vs,rfl,e1,r2⟩:=qr x1.s3 r1;exact ⟨_,.inl ⟨vs,SqL.of e1,by rw [r2.isEmpty]⟩,q _ _ x1⟩
  ·cases e;obtain ⟨p,vs,rfl,e1,r2⟩:=qM x1.s3 r1;exact ⟨_,.inr (.inl ⟨vs,SqT.of e1,by rw [r2.isEmpty]⟩),q _ _ x1⟩
  ·cases e;obtain ⟨p,kvs,rfl,e1,k,r2⟩:=jk x1.s3 r1;refine ⟨_,.inr (.inr ⟨kvs,e1,?_⟩),q _ _ x1⟩;rw [<- k];cases kvs<;>rfl
  ·cases e
def zr (a b:MB):MB:=λε=>(a ε).bind λc=>if c=true then b ε else some false
def n6 (a b:MB):MB:=λε=>(a ε).bind λc=>if c=true then some true else b ε
def p6 (a:MB):MB:=λε=>(a ε).bind λc=>some (!c)
instance {u:TT}{a b:MB}[sa:qc t a][sb:qc u b]:qc (tAnd t u) (zr a b) where
 h:=λe _ _ _ _ _ rs _ q=>by
  obtain ⟨c,ex,e⟩:=bind_some e;refine sa.h ex rs λHs1 H1 x1=>?_;cases c with
  |true=>exact qW (sb.h e (rs.go x1) λHs2 H2 x2=>q _ _ (x1.trans x2))
  |false=>cases e;exact qV (q _ _ x1)
instance {u:TT}{a b:MB}[sa:qc t a][sb:qc u b]:qc (tOr t u) (n6 a b) where
 h:=λe _ _ _ _ _ rs _ q=>by
  obtain ⟨c,ex,e⟩:=bind_some e;refine sa.h ex rs λHs1 H1 x1=>?_;cases c with
  |true=>cases e;exact qW (q _ _ x1)
  |false=>exact qV (sb.h e (rs.go x1) λHs2 H2 x2=>q _ _ (x1.trans x2))
instance {a:MB}[sa:qc t a]:qc (tNot t) (p6 a) where
 h:=λe _ _ _ _ _ rs _ q=>by
  obtain ⟨c,ex,e⟩:=bind_some e;cases e;exact sa.h ex rs λHs1 H1 x1=>q _ _ x1
def zt (a b:M):M:=λε=>(a ε).bind λx=>(pB x).bind λc=>if c=true then b ε else some (.at (.bl false))
def wf (a:M):M:=λε=>(a ε).bind λx=>(pB x).bind λc=>some (.at (.bl (!c)))
instance {t u:TE}[sa:SemE t a][sb:SemE u b]:SemE (YR t u) (zt a b) where
 h:=λe _ _ _ _ _ rs _ q=>by
  obtain ⟨x,ex,e⟩:=bind_some e;obtain ⟨c,ec,e⟩:=bind_some e;cases vx ec;refine sa.h ex rs λv Hs1 H1 x1 r1=>⟨c,rep_at.mp r1,?_⟩;cases c with
  |true=>exact qW (sb.h e (rs.go x1) λw Hs2 H2 x2 r2=>q _ _ _ (x1.trans x2) r2)
  |false=>cases e;exact qV (q _ _ _ x1 (rep_at.mpr rfl))
instance {t:TE}[sa:n9 t a]:SemE (YX t) (wf a) where
 h:=λe _ _ _ _ _ rs _ q=>by
  obtain ⟨x,ex,e⟩:=bind_some e;obtain ⟨c,ec,e⟩:=bind_some e;cases vx ec;cases e;exact sa.h ex rs λv Hs1 H1 x1 r1=>⟨c,y9 r1,q _ _ _ x1 (rep_at.mpr rfl)⟩
def dIf (c:MB)(a b:M):M:=λε=>(c ε).bind λk=>if k=true then a ε else b ε
instance {ta:TE}[sc:qc t c][sa:SemE ta a][sb:SemE tb b]:SemE (tIf t ta tb) (dIf c a b) where
 h:=λe _ _ _ _ _ rs _ q=>by
  obtain ⟨k,ex,e⟩:=bind_some e;refine sc.h ex rs λHs1 H1 x1=>?_;cases k with
  |true=>exact qW (sa.h e (rs.go x1) λw Hs2 H2 x2 r2=>q _ _ _ (x1.trans x2) r2)
  |false=>exact qV (sb.h e (rs.go x1) λw Hs2 H2 x2 r2=>q _ _ _ (x1.trans x2) r2)
def jw (g g':PV->PV->Option PV)(a b c:M):M:=λε=>(a ε).bind λx=>(b ε).bind λy=>(g x y).bind λz=>(pB z).bind λk=>if k=true then (c ε).bind λw=>g' y w else some (.at (.bl false))
instance {r':R2}{g g':PV->PV->Option PV}{ta tc:TE}{c:M}[sr:xh r g][sr':xh r' g'][sa:n9 ta a][sb:n9 tb b][sc:n9 tc c]:SemE (Jl r r' ta tb tc) (jw g g' a b c) where
 h:=λe _ _ _ _ _ rs _ q=>by
  obtain ⟨x,ex,e1⟩:=bind_some e;obtain ⟨y,ey,e2⟩:=bind_some e1;obtain ⟨z,ez,e3⟩:=bind_some e2;obtain ⟨k,ek,e4⟩:=bind_some e3;have ez':=vx ek;subst ez';refine sa.h ex rs λv Hs1 H1 x1 r1=>sb.h ey (rs.go x1) λw Hs2 H2 x2 r2=>sr.h ez x2.s3 (r1.ext x2) r2 λu Hs3 H3 x3 r3=>⟨k,rep_at.mp r3,?_⟩;cases k with
  |true=>obtain ⟨w',ew,e5⟩:=bind_some e4;exact qW (sc.h ew (((rs.go x1).go x2).go x3) λu' Hs4 H4 x4 r4=>sr'.h e5 x4.s3 ((r2.ext x3).ext x4) r4 λu'' Hs5 H5 x5 r5=>q _ _ _ (x1.trans (x2.trans (x3.trans (x4.trans x5)))) r5)
  |false=>cases e4;exact qV (q _ _ _ (x1.trans (x2.trans x3)) (rep_at.mpr rfl))
def v5 (m:List PV->Option PV):Sp:=λvs H Q _=>∃ Hs xs y,Same Hs H/\Reps Hs xs vs/\m xs=some y/\∀ v Hs' H',Ext Hs H Hs' H'->Rep Hs' y v->Q v H'
def spO (m:List PV->Option PV):Sp:=λvs H Q _=>∃ Hs xs y,Same Hs H/\Reps Hs xs vs/\m xs=some y/\∀ a Hs' H',Ext Hs H Hs' H'->H a=none->Hs' a=none->Top Hs' H' a y->Q (.ref a) H'
def z5 (m:List PV->Option PV)(as:MA):M:=λε=>(as ε).bind m
instance [sa:i5 ta as]:SemE (xz (v5 m) [] E ta) (z5 m as) where
 h:=λe _ _ _ _ _ rs _ q=>by
  obtain ⟨xs,ex,e1⟩:=bind_some e;refine sa.h ex rs λvs Hs1 H1 x1 r1=>⟨Hs1,xs,_,x1.s3,by rw [yB];exact r1,e1,λv Hs' H' x r=>q v _ _ (x1.trans x) r⟩
instance [sa:i5 ta as]:qI (xz (spO m) [] E ta) (z5 m as) where
 h:=λe _ _ _ _ _ rs _ q=>by
  obtain ⟨xs,ex,e1⟩:=bind_some e;refine sa.h ex rs λvs Hs1 H1 x1 r1=>⟨Hs1,xs,_,x1.s3,by rw [yB];exact r1,e1,λa Hs' H' x n n' r=>q a _ _ (x1.trans x) (x1.s2.free n) n' r⟩
def zu (m:List PV->Option PV)(ds:List V)(as:MA):M:=λε=>(as ε).bind λxs=>m (xs++ds.map .at)
def m7 (C:Addr)(nm:Str)(m:List PV->Option PV)(a:M)(as:MA):M:=λε=>(a ε).bind λx=>match x with
 | .ob C' ns fs=>if C'=C/\nm∉ns then (as ε).bind λxs=>m (x::xs) else none
 |_=>none
theorem vp {fs:List (Str×V)}{f:Str}(h:f∉fs.map (·.1)):fs.lookup f=none:=by
 induction fs with
 |nil=>rfl
 |cons p r ih =>
  rw [yP] at h;rw [yb];have h1:(f==p.1)=false:=by rw [beq_eq_false_iff_ne];exact λe=>h (e▸yV)
  rw [h1];exact ih λz=>h (yW _ z)
theorem we (h:m7 C nm m a as ε=some y):∃ ns fs xs,a ε=some (.ob C ns fs)/\nm∉ns/\as ε=some xs/\m (.ob C ns fs::xs)=some y:=by
 unfold m7 at h;obtain ⟨x,ex,h1⟩:=bind_some h;split at h1
 ·rename_i C' ns fs;split at h1
  ·rename_i hc;obtain ⟨xs,e2,h2⟩:=bind_some h1;obtain ⟨rfl,hn⟩:=hc;exact ⟨ns,fs,xs,ex,hn,e2,h2⟩
  ·cases h1
 ·cases h1
instance [so:SemE te a][sa:i5 ta as]:SemE (xc C nm (v5 m) [] E te ta) (m7 C nm m a as) where
 h:=λe _ _ _ _ _ rs _ q=>by
  obtain ⟨ns,fs,xs,ea,hn,e1,e2⟩:=we e;refine so.h ea rs λv Hs1 H1 x1 r1=>?_;obtain ⟨p,dx,gs,rfl,hp,hk,hr⟩:=rep_ob.mp r1;refine ⟨p,dx,gs,rfl,x1.s3 _ _ hp,vp (by rw [hk];exact hn),sa.h e1 (rs.go x1) λvs Hs2 H2 x2 r2=>?_⟩;exact ⟨Hs2,_,_,x2.s3,by rw [yB];exact .cons (r1.mono x2.s1) r2,e2,λv Hs' H' x r=>q v _ _ (x1.trans (x2.trans x)) r⟩
instance [so:SemE te a][sa:i5 ta as]:qI (xc C nm (spO m) [] E te ta) (m7 C nm m a as) where
 h:=λe _ _ _ _ _ rs _ q=>by
  obtain ⟨ns,fs,xs,ea,hn,e1,e2⟩:=we e;refine so.h ea rs λv Hs1 H1 x1 r1=>?_;obtain ⟨p,dx,gs,rfl,hp,hk,hr⟩:=rep_ob.mp r1;refine ⟨p,dx,gs,rfl,x1.s3 _ _ hp,vp (by rw [hk];exact hn),sa.h e1 (rs.go x1) λvs Hs2 H2 x2 r2=>?_⟩;exact ⟨Hs2,_,_,x2.s3,by rw [yB];exact .cons (r1.mono x2.s1) r2,e2,λv Hs' H' x n n' r=>q v _ _ (x1.trans (x2.trans x)) (x1.s2.free (x2.s2.free n)) n' r⟩
class zM (r:List V->Hp->VK->Prop)(g:List PV->Option PV):Prop where
 h:∀{xs z},g xs=some z->∀{Hs H:Hp}{vs:List V},Same Hs H->jZ Hs H xs vs->∀{Q:VK},(∀ u Hs' H',Ext Hs H Hs' H'->Rep Hs' z u->Q u H')->r vs H Q
class Xn (r:List V->Hp->VK->Prop)(g:List PV->Option PV):Prop where
 h:∀{xs z},g xs=some z->∀{Hs H:Hp}{vs:List V},Same Hs H->jZ Hs H xs vs->∀{Q:VK},(∀ a Hs' H',Ext Hs H Hs' H'->H a=none->Hs' a=none->Top Hs' H' a z->Q (.ref a) H')->r vs H Q
instance {r:List V->Hp->VK->Prop}{g:List PV->Option PV}[sr:zM r g][sa:vX ta as]:SemE (tCB r ta) (z5 g as) where
 h:=λe _ _ _ _ _ rs _ q=>by
  obtain ⟨xs,ex,e1⟩:=bind_some e;exact sa.h ex rs λvs Hs1 H1 x1 r1=>sr.h e1 x1.s3 r1 λv Hs' H' x r=>q v _ _ (x1.trans x) r
instance {r:List V->Hp->VK->Prop}{g:List PV->Option PV}[sr:Xn r g][sa:vX ta as]:qI (tCB r ta) (z5 g as) where
 h:=λe _ _ _ _ _ rs _ q=>by
  obtain ⟨xs,ex,e1⟩:=bind_some e;exact sa.h ex rs λvs Hs1 H1 x1 r1=>sr.h e1 x1.s3 r1 λv Hs' H' x n n' r=>q v _ _ (x1.trans x) (x1.s2.free n) n' r
theorem xK (h:jZ Hs H [x] vs):∃ v,vs=[v]/\RepB Hs H x v:=by obtain ⟨v,r,rfl,a,b⟩:=h;cases (show r=[] from b);exact ⟨v,rfl,a⟩
theorem QX (h:jZ Hs H [x,y] vs):∃ v w,vs=[v,w]/\RepB Hs H x v/\RepB Hs H y w:=by obtain ⟨v,r,rfl,a,b⟩:=h;obtain ⟨w,rfl,c⟩:=xK b;exact ⟨v,w,rfl,a,c⟩
inductive Out where
 |nx (ε:ME)|rt (y:PV)|bk (ε:ME)|ct (ε:ME)
abbrev MS:=ME->Option Out
def OutK (fr:Bool)(Hs0 H0:Hp)(D:qk):Out->Prop
 | .nx ε=>∀ Hs H U,RS Hs0 H0 Hs H U ε->D.nx U H
 | .bk ε=>∀ Hs H U,RS Hs0 H0 Hs H U ε->D.bk U H
 | .ct ε=>∀ Hs H U,RS Hs0 H0 Hs H U ε->D.ct U H
 | .rt y=>match fr with
  |true=>∀ a Hs H,Ext Hs0 H0 Hs H->H0 a=none->Hs a=none->Top Hs H a y->D.rt (.ref a) H
  |false=>∀ v Hs H,Ext Hs0 H0 Hs H->Rep Hs y v->D.rt v H
class r9 (fr:Bool)(ts:TS)(f:MS):Prop where
 h:∀{ε o},f ε=some o->∀{Hs0 H0 Hs H U},RS Hs0 H0 Hs H U ε->∀{D:qk},OutK fr Hs0 H0 D o->ts D U H
variable {fr:Bool}
def t9:MS:=λε=>some (.nx ε)
instance:r9 fr Xb t9 where
 h:=λe _ _ _ _ _ rs _ q=>by cases e;exact q _ _ _ rs
def u9 (a b:MS):MS:=λε=>(a ε).bind λo=>match o with
 | .nx ε'=>b ε'
 |o=>some o
instance {t u:TS}{a b:MS}[sa:r9 fr t a][sb:r9 fr u b]:r9 fr (tSeq t u) (u9 a b) where
 h:=λe _ _ _ _ _ rs D q=>by
  obtain ⟨o,eo,e1⟩:=bind_some e;refine sa.h eo rs ?_;cases o with
  |nx ε'=>exact λHs H U r=>sb.h e1 r q
  |rt y=>cases e1;exact q
  |bk ε'=>cases e1;exact q
  |ct ε'=>cases e1;exact q
def zv (a:M):MS:=λε=>(a ε).bind λ_=>some (.nx ε)
instance (priority:=100)[sa:n9 te a]:r9 fr (qN te) (zv a) where
 h:=λe _ _ _ _ _ rs _ q=>by
  obtain ⟨x,ex,e1⟩:=bind_some e;cases e1;exact sa.h ex rs λv Hs1 H1 x1 r1=>q _ _ _ (rs.go x1)
def u7 (a:M):MS:=λε=>(a ε).bind λx=>some (.rt x)
instance [sa:SemE te a]:r9 false (wO te) (u7 a) where
 h:=λe _ _ _ _ _ rs _ q=>by
  obtain ⟨x,ex,e1⟩:=bind_some e;cases e1;exact sa.h ex rs λv Hs1 H1 x1 r1=>q _ _ _ (rs.ext.trans x1) r1
instance [sa:qI te a]:r9 true (wO te) (u7 a) where
 h:=λe _ _ _ _ _ rs _ q=>by
  obtain ⟨x,ex,e1⟩:=bind_some e;cases e1;exact sa.h ex rs λv Hs1 H1 x1 n n' r1=>q _ _ _ (rs.ext.trans x1) (rs.ext.s2.free n) n' r1
def m9 (c:MB)(a b:MS):MS:=λε=>(c ε).bind λk=>if k=true then a ε else b ε
instance {ta tb:TS}{a b:MS}[sc:qc t c][sa:r9 fr ta a][sb:r9 fr tb b]:r9 fr (wN t ta tb) (m9 c a b) where
 h:=λe _ _ _ _ _ rs _ q=>by
  obtain ⟨k,ex,e1⟩:=bind_some e;refine sc.h ex rs λHs1 H1 x1=>?_;cases k with
  |true=>exact qW (sa.h e1 (rs.go x1) q)
  |false=>exact qV (sb.h e1 (rs.go x1) q)
def xp:MS:=λ_=>none
instance:r9 fr YV xp where
 h:=λe=>by cases e
abbrev MG:=PV->ME->Option ME
variable{g:MG}
def But (ts:List Nat)(U σ':St):Prop:=σ'.length=U.length/\∀ j,j∉ts->σ'[j]?=U[j]?
theorem But.refl (U:St):But [] U U:=⟨rfl,λ_ _=>rfl⟩
theorem But.trans {a b:List Nat}{σ1 σ2:St}(x:But a U σ1)(y:But b σ1 σ2):But (a++b) U σ2 :=
 ⟨y.1.trans x.1,λj hj=>(y.2 j λz=>hj (yA.mpr (.inr z))).trans (x.2 j λz=>hj (yA.mpr (.inl z)))⟩
theorem But.wk (b:But ts U σ')(h:∀ i∈ts,U[i]?=some none):Wk U σ':=by refine ⟨b.1.symm,λi v e=>?_⟩;rw [b.2 i λz=>by rw [h i z] at e;cases e];exact e
class js (tg:TG)(ts:outParam (List Nat))(g:MG):Prop where
 h:∀{x ε ε'},g x ε=some ε'->∀{Hs0 H0 Hs H U v},RS Hs0 H0 Hs H U ε->Rep Hs x v->∀{Q:St->Hp->Prop},(∀ σ',RS Hs0 H0 Hs H σ' ε'->But ts U σ'->Q σ' H)->tg v U H Q
class va (tg:TGs)(ts:outParam (List Nat))(g:List PV->ME->Option ME):Prop where
 h:∀{xs ε ε'},g xs ε=some ε'->∀{Hs0 H0 Hs H U vs},RS Hs0 H0 Hs H U ε->Reps Hs xs vs->∀{Q:St->Hp->Prop},(∀ σ',RS Hs0 H0 Hs H σ' ε'->But ts U σ'->Q σ' H)->tg vs U H Q
def v6 (i:Nat):MG:=λx ε=>some (ε.set i (.sh x))
instance {i:Nat}:js (qm i) [i] (v6 i) where
 h:=λe _ _ _ _ _ _ rs r _ q=>by
  cases e;exact q _ (rs.put r) ⟨yt,λj hj=>yH λz=>hj (by rw [<- z];exact yO.mpr rfl)⟩
def zC:List PV->ME->Option ME:=λxs ε=>match xs with
 |[]=>some ε
 |_=>none
def qC (g:MG)(r:List PV->ME->Option ME):List PV->ME->Option ME:=λxs ε=>match xs with
 |x::xs=>(g x ε).bind (r xs)
 |_=>none
instance:va gNil [] zC where
 h:=λ{xs ε ε'} e {_ _ _ _ _ _} rs r {_} q=>by
  unfold zC at e;split at e
  ·cases e;exact ⟨reps_nil.mp r,q _ rs (.refl _)⟩
  ·cases e
instance CY {t:TG}{u:TGs}{a b:List Nat}{r:List PV->ME->Option ME}[sg:js t a g][sr:va u b r]:va (Qp t u) (a++b) (qC g r) where
 h:=λ{xs ε ε'} e {_ _ _ _ _ _} rs rr {_} q=>by
  unfold qC at e;split at e
  ·obtain ⟨ε1,e1,e2⟩:=bind_some e;obtain ⟨v,w,rfl,r1,r2⟩:=reps_cons.mp rr;exact ⟨v,w,rfl,sg.h e1 rs r1 λσ1 rs1 b1=>sr.h e2 rs1 r2 λσ2 rs2 b2=>q _ rs2 (b1.trans b2)⟩
  ·cases e
instance (priority:=2000){i:Nat}{u:TGs}{b:List Nat}{r:List PV->ME->Option ME}[sr:va u b r]:va (Qp (qm i) u) (i::b) (qC (v6 i) r) where
 h:=λe _ _ _ _ _ _ rs rr _ q=>(CY (t:=qm i) (a:=[i]) (g:=v6 i)).h e rs rr q
def zD (n:Nat)(g:List PV->ME->Option ME):MG:=λx ε=>match x with
 | .tup xs=>if xs.length=n then g xs ε else none
 |_=>none
instance {t:TGs}{g:List PV->ME->Option ME}[sg:va t ts g]:js (gTup K n t) ts (zD n g) where
 h:=λ{x ε ε'} e {_ _ _ _ _ _} rs rr {_} q=>by
  unfold zD at e;split at e
  ·split at e
   ·rename_i hl;obtain ⟨a,vs,rfl,h,r⟩:=rep_tup.mp rr;exact ⟨a,vs,rfl,SqT.of (rs.sub _ _ h),by rw [r.length];exact hl,sg.h e rs r λσ' rs' b=>q _ rs' b⟩
   ·cases e
  ·cases e
def qU (i:Nat)(a:M):MS:=λε=>(a ε).bind λx=>some (.nx (ε.set i (.sh x)))
def Qi (i:Nat)(a:M):MS:=λε=>(a ε).bind λx=>some (.nx (ε.set i (.ow x)))
instance {i:Nat}[sa:SemE te a]:r9 fr (xy te (qm i)) (qU i a) where
 h:=λe _ _ _ _ _ rs _ q=>by
  obtain ⟨x,ex,e1⟩:=bind_some e;cases e1;exact sa.h ex rs λv Hs1 H1 x1 r1=>q _ _ _ ((rs.go x1).put r1)
instance {i:Nat}[sa:qI te a]:r9 fr (xy te (qm i)) (Qi i a) where
 h:=λe _ _ _ _ _ rs _ q=>by
  obtain ⟨x,ex,e1⟩:=bind_some e;cases e1;refine sa.h ex rs λp Hs1 H1 x1 n n' t=>q _ _ _ ((rs.go x1).putO ⟨rs.ext.s2.free n,n',t⟩ λj y hj z=>?_);obtain ⟨b,hb,_,_,tb⟩:=rs.ow j y hj;rw [z] at hb;injection hb with hb;injection hb with hb;injection hb with hb;subst hb;exact tb.there n
def pIp (g:Int->Int->Int):PV->PV->Option PV
 | .at (.int i),.at (.int j)=>some (.at (.int (g i j)))
 |_,_=>none
def dAppend (i:Nat)(a:M):MS:=λε=>(a ε).bind λx=>match ε[i]? with
 |some (.ow (.lst xs))=>if xs.length<=lim then some (.nx (ε.set i (.ow (.lst (xs++[x]))))) else none
 |_=>none
def dExtend (i:Nat)(a:M):MS:=λε=>(a ε).bind λx=>match x with
 | .lst ys=>(match ε[i]? with
  |some (.ow (.lst xs))=>if xs.length+ys.length<=lim then some (.nx (ε.set i (.ow (.lst (xs++ys))))) else none
  |_=>none)
 |_=>none
structure jr (J:It)(xs:List PV)(Hs:Hp):Prop where
 go:∀(i:Nat)(x:PV)(Hs1 H1:Hp),xs[i]?=some x->Same Hs Hs1->Same Hs1 H1->J.go i H1/\∀ v H2,J.yld i H1 v H2->∃ Hs2,Ext Hs1 H1 Hs2 H2/\Rep Hs2 x v
 stop:∀(Hs1 H1:Hp),Same Hs Hs1->Same Hs1 H1->J.stop xs.length H1
class zn (ti:TI)(f:MA):Prop where
 h:∀{ε xs},f ε=some xs->∀{Hs0 H0 Hs H U},RS Hs0 H0 Hs H U ε->∀{R:It->Hp->Prop},(∀ J Hs' H',Ext Hs H Hs' H'->jr J xs Hs'->R J H')->ti U H R
def p5 (a:M):MA:=λε=>(a ε).bind λx=>match x with
 | .lst xs=>some xs
 |_=>none
theorem Ku {a:Addr}(h:Hs a=some (.lst vs))(r:Reps Hs xs vs):jr (Itl K a) xs Hs where
 go:=λi x Hs1 H1 e g1 g2=>by
  obtain ⟨v,ev,rv⟩:=r.get e;refine ⟨⟨vs,v,SqL.of (g2 _ _ (g1 _ _ h)),ev⟩,λw H2 y=>?_⟩;obtain ⟨rfl,y⟩:=y;have z:=y vs (SqL.of (g2 _ _ (g1 _ _ h)));rw [ev] at z;cases z;exact ⟨Hs1,.refl g2,rv.mono g1⟩
 stop:=λHs1 H1 g1 g2=>⟨vs,SqL.of (g2 _ _ (g1 _ _ h)),by rw [r.length];exact yS _⟩
instance [sa:SemE te a]:zn (Qs K te) (p5 a) where
 h:=λe _ _ _ _ _ rs _ q=>by
  obtain ⟨x,ex,e1⟩:=bind_some e;split at e1
  ·cases e1;refine sa.h ex rs λv Hs1 H1 x1 r1=>?_;obtain ⟨p,vs,rfl,hp,r⟩:=rep_lst.mp r1;exact ⟨p,rfl,⟨vs,SqL.of (x1.s3 _ _ hp)⟩,q _ _ _ x1 (Ku hp r)⟩
  ·cases e1
def qz (lo:Int)(n:Nat):List PV:=(List.range n).map λ(i:Nat)=> .at (.int (lo+i))
theorem jm :(qz lo n).length=n:=by unfold qz;rw [yZ,List.length_range]
theorem YB {i:Nat}(h:(qz lo n)[i]?=some x):i<n/\x = .at (.int (lo+i)):=by
 have hl:i<n:=by have:=(yq.mp h).1;rw [jm] at this;exact this
 refine ⟨hl,?_⟩;unfold qz at h;rw [yQ,List.getElem?_range hl] at h;cases h;rfl
theorem Wr :jr (Itr lo n) (qz lo n) Hs where
 go:=λi x Hs1 H1 e g1 g2=>by
  obtain ⟨hl,rfl⟩:=YB e;refine ⟨hl,λv H2 y=>?_⟩;obtain ⟨rfl,rfl⟩:=y;exact ⟨Hs1,.refl g2,rep_at.mpr rfl⟩
 stop:=λHs1 H1 g1 g2=>by show n<=_;rw [jm];exact yS _
def zb (a:MA):MA:=λε=>(a ε).bind λxs=>match xs with
 |[.at (.int j)]=>if -(lim:Int)<=j/\j<=lim then some (qz 0 j.toNat) else none
 |_=>none
instance {a:MA}[sa:i5 ta a]:zn (XL ta) (zb a) where
 h:=λe _ _ _ _ _ rs _ q=>by
  obtain ⟨xs,ex,e1⟩:=bind_some e;split at e1
  ·rename_i j;split at e1
   ·rename_i hl;cases e1;refine sa.h ex rs λvs Hs1 H1 x1 r1=>?_;obtain ⟨v,r,rfl,p1,p2⟩:=reps_cons.mp r1;cases reps_nil.mp p2;cases rep_at.mp p1;have hlim:(lim:Int)=1000000:=rfl;exact ⟨j,rfl,by omega,by omega,q _ _ _ x1 Wr⟩
   ·cases e1
  ·cases e1
def xM (g:MG)(f:MS):List PV->ME->Option Out
 |[],ε=>some (.nx ε)
 |x::xs,ε=>(g x ε).bind λε1=>(f ε1).bind λo=>match o with
  | .nx ε2=>xM g f xs ε2
  | .ct ε2=>xM g f xs ε2
  | .bk ε2=>some (.nx ε2)
  | .rt y=>some (.rt y)
def jx (i:MA)(g:MG)(f:MS):MS:=λε=>(i ε).bind λxs=>xM g f xs ε
theorem OutK.unbase {D:qk}(x:Ext Hs0 H0 Hb H):∀{o:Out},OutK fr Hs0 H0 D o->OutK fr Hb H0 D o
 | .nx _,h=>λHs H U r=>h _ _ _ (RS.unbase x r)
 | .bk _,h=>λHs H U r=>h _ _ _ (RS.unbase x r)
 | .ct _,h=>λHs H U r=>h _ _ _ (RS.unbase x r)
 | .rt _,h=>by
  cases fr with
  |true=>exact λa Hs H e n n' t=>h a Hs H (x.unbase e) n n' t
  |false=>exact λa Hs H e r=>h a Hs H (x.unbase e) r
instance {tb:TS}{i:MA}{f:MS}[si:zn wi i][sg:js tg ts g][sf:r9 fr tb f]:r9 fr (tFor wi tg tb) (jx i g f) where
 h:=λe Hs0 H0 _ _ _ rs D q=>by
  obtain ⟨xs,ex,e1⟩:=bind_some e;refine si.h ex rs λJ Hs1 H1 x1 ok=>?_;have rs1:=rs.go x1;have q1:=OutK.unbase rs1.ext q;refine ⟨λk m U H=>m=xs.length-k/\k<=xs.length/\∃ Hs ε,RS Hs1 H0 Hs H U ε/\xM g f (xs.drop k) ε=some _,⟨xs.length,by simp,yi _,Hs1,_,rs1.rebase,e1⟩,?_⟩;rintro k m U H ⟨rfl,hk,Hs,ε,r,el⟩;by_cases hlt:k<xs.length
  ·have hd:xs.drop k=xs[k]::xs.drop (k+1):=uZ hlt;rw [hd] at el;unfold xM at el;obtain ⟨ε1,eg,el1⟩:=bind_some el;obtain ⟨o,eo,el2⟩:=bind_some el1;obtain ⟨go,yl⟩:=ok.go k xs[k] Hs H (by simp [hlt]) r.ext.s1 r.ext.s3;refine .inr ⟨go,λσ' H'=>k+1<=xs.length/\∃ Hs ε,RS Hs1 H0 Hs H' σ' ε/\xM g f (xs.drop (k+1)) ε=some _,λσ' H' p=>⟨xs.length-(k+1),by omega,rfl,p.1,p.2⟩,λv H2 y=>?_⟩;obtain ⟨Hs2,x2,r2⟩:=yl v H2 y;refine sg.h eg (r.go x2) r2 λσ2 rs2 _=>sf.h eo rs2 ?_;cases o with
   |nx ε2=>exact λHs3 H3 σ3 r3=>⟨hlt,Hs3,ε2,r3,el2⟩
   |ct ε2=>exact λHs3 H3 σ3 r3=>⟨hlt,Hs3,ε2,r3,el2⟩
   |bk ε2=>cases el2;exact q1
   |rt y=>cases el2;exact q1
  ·have ek:k=xs.length:=by omega
   subst ek;rw [uM] at el;unfold xM at el;cases el;exact .inl ⟨ok.stop Hs H r.ext.s1 r.ext.s3,q1 _ _ _ r⟩
def p9 (cap:List (Option Nat))(ε:ME):ME:=cap.map λo=>match o with
 |none=> .no
 |some i=>(ε[i]?).getD .no
def m6 (g:MG)(c:MB)(f:M)(ε0:ME):List PV->Option (List PV)
 |[]=>some []
 |x::xs=>(g x ε0).bind λε1=>(c ε1).bind λb=>if b=true then (f ε1).bind λy=>(m6 g c f ε0 xs).bind λys=>some (y::ys) else m6 g c f ε0 xs
def k7:MB:=λ_=>some true
instance:qc tYes k7 where
 h:=λe _ _ _ _ _ rs _ q=>by cases e;exact q _ _ (.refl rs.sub)
def xD (cap:List (Option Nat))(ts:List Nat):Bool:=decide (cap.filterMap id).Nodup&&ts.all λi=>decide (cap[i]?=some none)
def b8 (cap:List (Option Nat))(ts:List Nat)(i:MA)(g:MG)(c:MB)(f:M):M:=λε=>(i ε).bind λxs=>if xD cap ts=true/\xs.length<=lim then (m6 g c f (p9 cap ε) xs).bind λys=>some (.lst ys) else none
theorem RS.cap {cap:List (Option Nat)}(hc:(cap.filterMap id).Nodup)(r:RS Hs0 H0 Hs H U ε):RS Hs0 H0 Hs H (u8 cap U) (p9 cap ε):=by
 have inj:∀(i j k:Nat),cap[i]?=some (some k)->cap[j]?=some (some k)->i=j:=by
  clear r
  induction cap with
  |nil=>intro i j k h;simp at h
  |cons o cap ih =>
   intro i j k hi hj;have no:∀(l:Nat),o=some k->cap[l]?=some (some k)->False:=λl ho hl=>by
    subst ho;rw [List.filterMap_cons_some (by rfl)] at hc;exact (yu.mp hc).1 (yc.mpr ⟨some k,List.mem_of_getElem? hl,rfl⟩)
   have hc':(cap.filterMap id).Nodup:=by
    cases o with
    |none=>rwa [List.filterMap_cons_none (by rfl)] at hc
    |some m=>rw [List.filterMap_cons_some (by rfl)] at hc;exact (yu.mp hc).2
   cases i with
   |zero =>
    cases j with
    |zero=>rfl
    |succ j=>exact (no j (by simpa using hi) (by simpa using hj)).elim
   |succ i =>
    cases j with
    |zero=>exact (no i (by simpa using hj) (by simpa using hi)).elim
    |succ j=>rw [ih hc' i j k (by simpa using hi) (by simpa using hj)]
 have at1:∀(i:Nat)(sl:MSlot),(p9 cap ε)[i]?=some sl->sl = .no∨∃ k,cap[i]?=some (some k)/\ε[k]?=some sl:=by
  intro i sl h;unfold p9 at h;rw [yQ] at h;cases ho:cap[i]? with
  |none=>rw [ho] at h;cases h
  |some o =>
   rw [ho] at h;cases o with
   |none=>cases h;exact .inl rfl
   |some k =>
    cases hk:ε[k]? with
    |none=>simp only [uU,hk,Option.getD_none] at h;cases h;exact .inl rfl
    |some s=>simp only [uU,hk,Option.getD_some] at h;cases h;exact .inr ⟨k,rfl,hk⟩
 have at2:∀(i k:Nat),cap[i]?=some (some k)->∀ v,U[k]?=some (some v)->(u8 cap U)[i]?=some (some v):=by intro i k h v e;unfold u8;rw [yQ,h];simp [e]
 have at3:∀(i k:Nat)(v:V),cap[i]?=some (some k)->(u8 cap U)[i]?=some (some v)->U[k]?=some (some v):=by
  intro i k v h e;unfold u8 at e;rw [yQ,h] at e;simp only [uU,yM,Option.some.injEq] at e;cases hs:U[k]? with
  |none=>rw [hs] at e;cases e
  |some o=>rw [hs] at e;simp at e;rw [e]
 refine ⟨r.ext,λi x h=>?_,λi x h=>?_,λi j x y a h1 h2 h3 h4=>?_,by unfold u8 p9;rw [yZ,yZ],λi x h=>?_⟩
 ·rcases at1 i _ h with z|⟨k,hk,e⟩
  ·cases z
  ·obtain ⟨v,hv,rv⟩:=r.sh k x e;exact ⟨v,at2 i k hk v hv,rv⟩
 ·rcases at1 i _ h with z|⟨k,hk,e⟩
  ·cases z
  ·obtain ⟨v,hv,rv⟩:=r.ow k x e;exact ⟨v,at2 i k hk _ hv,rv⟩
 ·rcases at1 i _ h1 with z|⟨k,hk,e⟩
  ·cases z
  ·rcases at1 j _ h2 with z|⟨l,hl,e'⟩
   ·cases z
   ·have kl:=r.nd k l x y a e e' (at3 i k _ hk h3) (at3 j l _ hl h4);subst kl;exact inj i j k hk hl
 ·rcases at1 i _ h with z|⟨k,hk,e⟩
  ·cases z
  ·obtain ⟨v,hv,rv⟩:=r.bo k x e;exact ⟨v,at2 i k hk _ hv,rv⟩
theorem Reps.snoc (r:Reps H xs vs)(p:Rep H x v):Reps H (xs++[x]) (vs++[v]):=r.append (.one p)
instance {tt:TT}{cap:List (Option Nat)}{i:MA}{f:M}[si:zn wi i][sg:js tg ts g][sc:qc tt c][sf:SemE te f]:qI (vK wi tg tt te cap) (b8 cap ts i g c f) where
 h:=λe Hs0 H0 Hs H U rs Q q=>by
  obtain ⟨xs,ex,e1⟩:=bind_some e;split at e1
  ·rename_i hcl;obtain ⟨hcap,hl⟩:=hcl;unfold xD at hcap;rw [yp] at hcap;obtain ⟨ys,ey,e2⟩:=bind_some e1;cases e2;refine si.h ex rs λJ Hs1 H1 x1 ok=>?_;have rc:=((rs.go x1).cap (yd hcap.1)).rebase;have wk:∀ i∈ts,(u8 cap U)[i]?=some none:=λi hi=>by
    unfold u8;rw [yQ,yd (ya.mp hcap.2 i hi)];rfl
   refine ⟨λk m zs H=>m=xs.length-k/\k<=xs.length/\∃ Hs2 ws,Ext Hs1 H1 Hs2 H/\RS Hs1 H0 Hs2 H (u8 cap U) (p9 cap _)/\Reps Hs2 ws zs/\ws.length<=k/\∃ rest,m6 g c f (p9 cap _) (xs.drop k)=some rest/\ys=ws++rest,
    ⟨xs.length,by simp,yi _,Hs1,[],.refl x1.s3,rc,.nil,yS _,ys,ey,rfl⟩,?_⟩
   rintro k m zs H2 ⟨rfl,hk,Hs2,ws,x2,r2,rz,hw,rest,er,eys⟩;refine ⟨qX (by rw [rz.length];omega),?_⟩;by_cases hlt:k<xs.length
   ·have hd:xs.drop k=xs[k]::xs.drop (k+1):=uZ hlt;rw [hd] at er;unfold m6 at er;obtain ⟨ε1,eg,er1⟩:=bind_some er;obtain ⟨b,eb,er2⟩:=bind_some er1;obtain ⟨go,yl⟩:=ok.go k xs[k] Hs2 H2 (by simp [hlt]) x2.s1 x2.s3;refine .inr ⟨go,λv H3 y=>?_⟩;obtain ⟨Hs3,x3,r3⟩:=yl v H3 y;refine sg.h eg (r2.go x3) r3 λσ2 rs2 bt=>⟨bt.wk wk,sc.h eb rs2 λHs4 H4 x4=>?_⟩;cases b with
    |true =>
     rw [if_pos rfl] at er2;obtain ⟨z,ez,er3⟩:=bind_some er2;obtain ⟨rest',er4,er5⟩:=bind_some er3;cases er5;refine qW (sf.h ez (rs2.go x4) λu Hs5 H5 x5 r5=>⟨xs.length-(k+1),by omega,rfl,hlt,Hs5,ws++[z],x2.trans (x3.trans (x4.trans x5)),((r2.go x3).go x4).go x5,?_,?_,rest',er4,?_⟩)
     ·exact (rz.mono (x3.s1.trans (x4.s1.trans x5.s1))).snoc r5
     ·rw [yF];simp;omega
     ·rw [List.append_assoc];exact eys
    |false=>rw [if_neg yX] at er2;exact qV ⟨xs.length-(k+1),by omega,rfl,hlt,Hs4,ws,x2.trans (x3.trans x4),(r2.go x3).go x4,rz.mono (x3.s1.trans x4.s1),by omega,rest,er2,eys⟩
   ·have ek:k=xs.length:=by omega
    subst ek;rw [uM] at er;unfold m6 at er;cases er;refine .inl ⟨ok.stop Hs2 H2 x2.s1 x2.s3,λD hD=>?_⟩;rw [yB] at eys;subst eys;have x12:=x1.trans x2;exact q D Hs2 _ (x12.trans (.newO x2.s3 hD)) (x12.s2.free hD) (x2.s3.free hD) ⟨zs,u3,rz⟩
  ·cases e1
def p0 (n k:Nat)(f:MS):List PV->Option PV:=λxs=>if xs.length=k then (f (xs.map .sh++List.replicate (n-k) .no)).bind λo=>match o with
 | .rt y=>some y
 | .nx _=>some (.at .non)
 |_=>none else none
def zw (n k:Nat)(f:MS):List PV->Option PV:=λxs=>if xs.length=k then (f (xs.map .sh++List.replicate (n-k) .no)).bind λo=>match o with
 | .rt y=>some y
 |_=>none else none
end Mi
namespace Mi
open PySem PySem.Spec PyProof.Rows L2
variable{N ps:List Str}{qual x:Str}{st:Stmt}{f:Addr}{fd:FuncData}{b:MS}{m:List PV->Option PV}
theorem jO {Hs H:Hp}{xs:List PV}{vs:List V}(s:Same Hs H)(r:Reps Hs xs vs):RS Hs H Hs H (L2.start N vs) (xs.map .sh++List.replicate (N.length-xs.length) .no):=by
 have el:=r.length;have at1:∀(i:Nat)(sl:MSlot),(xs.map MSlot.sh++List.replicate (N.length-xs.length) .no)[i]?=some sl->sl = .no∨∃ x,xs[i]?=some x/\sl = .sh x:=by
  intro i sl h;by_cases hi:i<xs.length
  ·rw [yf (by rw [yZ];exact hi),yQ] at h;obtain ⟨x,hx,rfl⟩:=yG.mp h;exact .inr ⟨x,hx,rfl⟩
  ·rw [uX (by rw [yZ];omega),uS] at h;split at h
   ·cases h;exact .inl rfl
   ·cases h
 refine ⟨.refl s,λi x h=>?_,λi x h=>?_,λi j x y a h1 _ _ _=>?_,?_,λi x h=>?_⟩
 ·rcases at1 i _ h with z|⟨y,hy,z⟩
  ·cases z
  ·cases z;obtain ⟨v,hv,rv⟩:=r.get hy;refine ⟨v,?_,rv⟩;unfold L2.start;rw [yf (by rw [yZ];exact (yq.mp hv).1),yQ,hv];rfl
 ·rcases at1 i _ h with z|⟨y,hy,z⟩<;>cases z
 ·rcases at1 i _ h1 with z|⟨y,hy,z⟩<;>cases z
 ·unfold L2.start;rw [yF,yF,yZ,yZ,uO,uO,el]
 ·rcases at1 i _ h with z|⟨y,hy,z⟩<;>cases z
section
variable {P:Program}{w:World}{K:Fg}{mg:Str->Option Value}{base:Heap}
theorem qh {k:Nat}(F:Fun K x qual st f fd)(S:w5 N ps (j5 st))(hm:m=p0 N.length ps.length b)(hb:∀(cdv:Value)(A:Around)(outer:List Env)(s:Shared)(H:Hp)(E:XK),Room k (A.deeper (envOfC qual (j5 st) s.heap.objs.size f cdv)) -> ∃ t,PSs (ql v3 P w K mg base N qual (j5 st) f cdv A outer s H E).nox (i0 st) t/\r9 false t b):FnOk P w K mg base v3 (k+1) f fd ps (v5 m):=by
 subst hm;refine F.ok S (λvs H Q E h=>?_) (λcdv A outer s H vs Q E hr h=>?_)
 ·obtain ⟨Hs,xs,y,_,r,e,_⟩:=h;unfold p0 at e;split at e
  ·rename_i hl;rw [r.length];exact hl
  ·cases e
 ·obtain ⟨Hs,xs,y,sm,r,e,q⟩:=h;obtain ⟨t,ht,sem⟩:=hb cdv A outer s H E hr;refine ⟨t,ht,?_⟩;unfold p0 at e;split at e
  ·rename_i hl;obtain ⟨o,eo,e1⟩:=bind_some e;refine sem.h eo (by rw [<- hl];exact jO sm r) ?_;cases o with
   |rt z=>cases e1;exact λv Hs' H' x rv=>q v Hs' H' x rv
   |nx ε=>cases e1;exact λHs' H' U rs=>q _ Hs' H' rs.ext (rep_at.mpr rfl)
   |bk ε=>cases e1
   |ct ε=>cases e1
  ·cases e
theorem okO {k:Nat}(F:Fun K x qual st f fd)(S:w5 N ps (j5 st))(hm:m=zw N.length ps.length b)(hb:∀(cdv:Value)(A:Around)(outer:List Env)(s:Shared)(H:Hp)(E:XK),Room k (A.deeper (envOfC qual (j5 st) s.heap.objs.size f cdv)) -> ∃ t,PSs (ql v3 P w K mg base N qual (j5 st) f cdv A outer s H E).nox (i0 st) t/\r9 true t b):FnOk P w K mg base v3 (k+1) f fd ps (spO m):=by
 subst hm;refine F.ok S (λvs H Q E h=>?_) (λcdv A outer s H vs Q E hr h=>?_)
 ·obtain ⟨Hs,xs,y,_,r,e,_⟩:=h;unfold zw at e;split at e
  ·rename_i hl;rw [r.length];exact hl
  ·cases e
 ·obtain ⟨Hs,xs,y,sm,r,e,q⟩:=h;obtain ⟨t,ht,sem⟩:=hb cdv A outer s H E hr;refine ⟨t,ht,?_⟩;unfold zw at e;split at e
  ·rename_i hl;obtain ⟨o,eo,e1⟩:=bind_some e;refine sem.h eo (by rw [<- hl];exact jO sm r) ?_;cases o with
   |rt z=>cases e1;exact λa Hs' H' x n n' t=>q a Hs' H' x n n' t
   |nx ε=>cases e1
   |bk ε=>cases e1
   |ct ε=>cases e1
  ·cases e
end
end Mi
namespace Mi
open PySem L2
variable{X:Cx}{K:Fg}{ta:TA}{j:Int}{H H0 Hs Hs0:Hp}{xs ys:List PV}{x y:PV}{v:V}{td te tv:TE}{vs ws:List V}{o:HO}{f nm qual:Str}{tt:TT}{r:Option PV}{G g:MG}{t tb u:TS}{S:List Addr}{U σ':St}{ε ε':ME}{n:Nat}{E:XK}{pre pre0:List PV->Prop}{R R0:List PV->PV->Prop}{a0 as:MA}{c:MB}{wi:TI}{tg:TG}{ts:List Nat}{N ns ps:List Str}{st:Stmt}{fd:FuncData}{m:List PV->Option PV}{C:Addr}{e:Expr}{pos:Pos}{pl:Sem Bool}{α:Type}{sp:Sp}
theorem o9 {a:Expr}{ta:TE}(h:X.K=K)(ha:PE X a ta)(he:∀ whole,isTrue a X.env whole=(do let v <- whole;standAt a.pos;holding [v] (truthy v))):PT X a (tTru K ta):=PZ h ha he
abbrev xu:PV->PV->Option PV:=pI λi j=>some (.int (i-j))
abbrev pLt:PV->PV->Option PV:=pI λi j=>some (.bl (decide (i<j)))
abbrev pLe:PV->PV->Option PV:=pI λi j=>some (.bl (decide (i<=j)))
abbrev pGt:PV->PV->Option PV:=pI λi j=>some (.bl (decide (j<i)))
abbrev pGe:PV->PV->Option PV:=pI λi j=>some (.bl (decide (j<=i)))
instance {i:Int}:Decidable (vR i j):=by unfold vR;infer_instance
instance {i:Int}:Decidable (zK i j):=by unfold zK;infer_instance
abbrev pMul:PV->PV->Option PV:=pI λi j=>if vR i j then some (.int (i*j)) else none
abbrev je:PV->PV->Option PV:=pI λi j=>if zK i j then some (.int (i ^ j.toNat)) else none
abbrev vy:PV->Option PV:=pU λi=> .int (-i)
theorem Reps.nil_of (r:Reps H xs []):xs=[]:=uL.mp r.length.symm
def o7:PV->PV->Option PV
 | .at (.int i),.at (.int j)=>some (.at (.int (i+j)))
 | .at (.str x),.at (.str y)=>if x.length+y.length<=lim then some (.at (.str (x++y))) else none
 | .lst xs,.lst ys=>if xs.length+ys.length<=lim then some (.lst (xs++ys)) else none
 | .tup xs,.tup ys=>if xs≠[]/\xs.length+ys.length<=lim then some (.tup (xs++ys)) else none
 |_,_=>none
instance :xh (Yi K) o7 where
 h:=λ{x y z} e {Hs H v w} s a b {Q} q=>by
  unfold o7 at e;split at e
  ·cases e;exact .inl ⟨_,_,y9 a,y9 b,q _ _ _ (.refl s) (rep_at.mpr rfl)⟩
  ·split at e
   ·rename_i hl;cases e;exact .inr (.inl ⟨_,_,y9 a,y9 b,qX hl,q _ _ _ (.refl s) (rep_at.mpr rfl)⟩)
   ·cases e
  ·split at e
   ·rename_i hl;cases e;obtain ⟨p,vs,rfl,e1,r1⟩:=qr s a;obtain ⟨p',ws,rfl,e2,r2⟩:=qr s b;refine .inr (.inr (.inl ⟨p,p',vs,ws,rfl,rfl,SqL.of e1,SqL.of e2,qX (by rw [r1.length,r2.length];exact hl),λl hl=>?_⟩));exact q _ _ _ (.new s hl) (rep_lst.mpr ⟨l,_,rfl,u3,(r1.append r2).mono (Ext.new s hl).s1⟩)
   ·cases e
  ·split at e
   ·rename_i hl;cases e;obtain ⟨p,vs,rfl,e1,r1⟩:=qM s a;obtain ⟨p',ws,rfl,e2,r2⟩:=qM s b;have hn:vs≠[]:=λz=>by
     have h1:=r1.length;rw [z] at h1;exact hl.1 (uL.mp h1.symm)
    refine .inr (.inr (.inr ⟨p,p',vs,ws,rfl,rfl,SqT.of e1,SqT.of e2,hn,qX (by rw [r1.length,r2.length];exact hl.2),λz=>?_,λz l hl=>?_⟩))
    ·subst z;cases r2.nil_of;rw [yB] at q;rcases a with a|⟨_,_,_,t⟩
     ·exact q _ _ _ (.refl s) a
     ·exact t.elim
    ·exact q _ _ _ (.new s hl) (rep_tup.mpr ⟨l,_,rfl,u3,(r1.append r2).mono (Ext.new s hl).s1⟩)
   ·cases e
  ·cases e
def qY:List PV->Option PV
 |[.at (.str x)]=>if x.length<=lim then some (.at (.int x.length)) else none
 |[.lst xs]=>some (.at (.int xs.length))
 |[.tup xs]=>some (.at (.int xs.length))
 |[.dk ks _]=>some (.at (.int ks.length))
 |_=>none
instance :zM (rLen K) qY where
 h:=λ{xs z} e {Hs H vs} s r {Q} q=>by
  unfold qY at e;split at e
  ·split at e
   ·rename_i hl;cases e;obtain ⟨v,rfl,a⟩:=xK r;cases y9 a;exact .inl ⟨_,_,rfl,⟨qX hl,rfl⟩,q _ _ _ (.refl s) (rep_at.mpr rfl)⟩
   ·cases e
  ·cases e;obtain ⟨v,rfl,a⟩:=xK r;obtain ⟨p,ws,rfl,e1,r1⟩:=qr s a;exact .inl ⟨_,_,rfl,.inl ⟨ws,SqL.of e1,rfl⟩,q _ _ _ (.refl s) (rep_at.mpr (by rw [r1.length]))⟩
  ·cases e;obtain ⟨v,rfl,a⟩:=xK r;obtain ⟨p,ws,rfl,e1,r1⟩:=qM s a;exact .inl ⟨_,_,rfl,.inr ⟨ws,SqT.of e1,rfl⟩,q _ _ _ (.refl s) (rep_at.mpr (by rw [r1.length]))⟩
  ·cases e;obtain ⟨v,rfl,a⟩:=xK r;obtain ⟨p,kvs,rfl,e1,k,r1⟩:=jk s a;exact .inr ⟨p,kvs,rfl,e1,q _ _ _ (.refl s) (rep_at.mpr (by rw [<- k,yZ]))⟩
  ·cases e
def zh:List PV->Option PV
 |[.lst xs]=>some (.lst xs)
 |[.tup xs]=>some (.lst xs)
 |_=>none
instance :Xn (Yn K) zh where
 h:=λ{xs z} e {Hs H vs} s r {Q} q=>by
  unfold zh at e;split at e
  ·cases e;obtain ⟨v,rfl,a⟩:=xK r;obtain ⟨p,ws,rfl,e1,r1⟩:=qr s a;exact ⟨p,ws,rfl,.inl (SqL.of e1),λl hl=>q l _ _ (.newO s hl) hl (s.free hl) ⟨ws,u3,r1⟩⟩
  ·cases e;obtain ⟨v,rfl,a⟩:=xK r;obtain ⟨p,ws,rfl,e1,r1⟩:=qM s a;exact ⟨p,ws,rfl,.inr (SqT.of e1),λl hl=>q l _ _ (.newO s hl) hl (s.free hl) ⟨ws,u3,r1⟩⟩
  ·cases e
def tyP:PV->Option String
 | .at .non=>some "NoneType"
 | .at (.bl _)=>some "bool"
 | .at (.int _)=>some "int"
 | .at (.str _)=>some "str"
 | .lst _=>some "list"
 | .tup _=>some "tuple"
 | .dk _ _=>some "dict"
 |_=>none
theorem Dt {T:String}(s:Same Hs H)(r:RepB Hs H x v)(e:tyP x=some T):qS K H v (.type T):=by
 unfold tyP at e;split at e
 ·cases e;cases y9 r;exact .non
 ·cases e;cases y9 r;exact .bl _
 ·cases e;cases y9 r;exact .int _
 ·cases e;cases y9 r;exact .str _
 ·cases e;obtain ⟨p,ws,rfl,e1,r1⟩:=qr s r;exact .lst e1
 ·cases e;obtain ⟨p,ws,rfl,e1,r1⟩:=qM s r;exact .tup e1
 ·cases e;obtain ⟨p,ws,rfl,e1,_⟩:=jk s r;exact .dK e1
 ·cases e
def m8:List PV->Option PV
 |[x,.at (.ty n)]=>(tyP x).bind λT=>(tyB T n).bind λb=>some (.at (.bl b))
 |_=>none
instance :zM (rIsi K) m8 where
 h:=λ{xs z} e {Hs H vs} s r {Q} q=>by
  unfold m8 at e;split at e
  ·obtain ⟨T,eT,e1⟩:=bind_some e;obtain ⟨b,eb,e2⟩:=bind_some e1;cases e2;obtain ⟨v,w,rfl,a,c⟩:=QX r;cases y9 c;exact ⟨v,_,T,b,rfl,Dt s a eT,eb,q _ _ _ (.refl s) (rep_at.mpr rfl)⟩
  ·cases e
def bls:List PV->Option (List Bool)
 |[]=>some []
 | .at (.bl b)::xs=>(bls xs).map (b::·)
 |_::_=>none
theorem VB:∀{xs:List PV}{bs:List Bool},bls xs=some bs->xs=bs.map λb=> .at (.bl b)
 |[],_,h=>by cases h;rfl
 |x::xs,bs,h=>by
  unfold bls at h;split at h
  ·rename_i heq;cases heq
  ·rename_i b ys heq;injection heq with h1 h2;obtain ⟨r,e,rfl⟩:=yG.mp h;subst h2;rw [h1,yP,VB e]
  ·cases h
def jd:List PV->Option PV
 |[.lst xs]=>(bls xs).bind λbs=>some (.at (.bl (bs.all id)))
 |_=>none
instance :zM (Yj K) jd where
 h:=λ{xs z} e {Hs H vs} s r {Q} q=>by
  unfold jd at e;split at e
  ·obtain ⟨bs,eb,e1⟩:=bind_some e;cases e1;obtain ⟨v,rfl,a⟩:=xK r;obtain ⟨p,ws,rfl,e1,r1⟩:=qr s a;rw [VB eb,show (bs.map λb=>PV.at (.bl b))=(bs.map V.bl).map .at by rw [yn];rfl] at r1;cases r1.ats;exact ⟨p,bs,rfl,SqL.of e1,q _ _ _ (.refl s) (rep_at.mpr rfl)⟩
  ·cases e
def wB:List PV->Option PV
 |[.at (.int i),.at (.int j)]=>some (.at (.int (if j<i then j else i)))
 |_=>none
instance:zM Yo wB where
 h:=λ{xs z} e {Hs H vs} s r {Q} q=>by
  unfold wB at e;split at e
  ·cases e;obtain ⟨v,w,rfl,a,b⟩:=QX r;cases y9 a;cases y9 b;exact ⟨_,_,rfl,q _ _ _ (.refl s) (rep_at.mpr rfl)⟩
  ·cases e
def jB:PV->Bool
 | .at .non=>true
 |_=>false
def wm:PV->Bool
 | .op _=>true
 |_=>false
def pIsN:PV->PV->Option PV:=λx y=>if jB y=true/\wm x=false then some (.at (.bl (jB x))) else none
def Zi:PV->PV->Option PV:=λx y=>if jB y=true/\wm x=false then some (.at (.bl (!jB x))) else none
theorem Qv (s:Same Hs H)(r:RepB Hs H x v)(ho:wm x=false):decide (v = .non)=jB x:=by
 cases x with
 |«at» u=>cases y9 r;cases v<;>first|rfl|(exact yI (λz=>nomatch z))
 |tup xs=>obtain ⟨p,ws,rfl,_⟩:=qM s r;exact yI (λz=>nomatch z)
 |lst xs=>obtain ⟨p,ws,rfl,_⟩:=qr s r;exact yI (λz=>nomatch z)
 |dk ks xs=>obtain ⟨p,ws,rfl,_⟩:=jk s r;exact yI (λz=>nomatch z)
 |fk ks xs=>obtain ⟨p,o,ws,rfl,_⟩:=wK s r;exact yI (λz=>nomatch z)
 |ob C ns xs=>obtain ⟨p,dx,ws,rfl,_⟩:=YA s r;exact yI (λz=>nomatch z)
 |op φ=>cases ho
instance:xh rIsN pIsN where
 h:=λ{x y z} e {Hs H v w} s a b {Q} q=>by
  unfold pIsN at e;split at e
  ·rename_i hy;cases e;have hb:wm y=false:=by cases y<;>first|rfl|(exact absurd hy.1 (by simp [jB]))
   refine ⟨yd ((Qv s b hb).trans hy.1),?_⟩;rw [Qv s a hy.2];exact q _ _ _ (.refl s) (rep_at.mpr rfl)
  ·cases e
instance:xh Yp Zi where
 h:=λ{x y z} e {Hs H v w} s a b {Q} q=>by
  unfold Zi at e;split at e
  ·rename_i hy;cases e;have hb:wm y=false:=by cases y<;>first|rfl|(exact absurd hy.1 (by simp [jB]))
   refine ⟨yd ((Qv s b hb).trans hy.1),?_⟩;rw [Qv s a hy.2];exact q _ _ _ (.refl s) (rep_at.mpr rfl)
  ·cases e
def xS (f:PV->PV->Option Bool):List PV->List PV->Option Bool
 |x::xs,y::ys=>(f x y).bind λa=>(xS f xs ys).bind λb=>some (a&&b)
 |_,_=>some true
def peq0:PV->PV->Option Bool
 | .at u,.at v=>if u4 u=true/\u4 v=true then some (qe u v) else none
 |_,_=>none
def peq1 (f:PV->PV->Option Bool):PV->PV->Option Bool
 | .at u,.at v=>if u4 u=true/\u4 v=true then some (qe u v) else none
 | .lst xs,.lst ys=>if xs.length=ys.length then xS f xs ys else some false
 | .tup xs,.tup ys=>(xS f xs ys).bind λb=>some (b&&xs.length==ys.length)
 | .lst _,.tup _=>some false
 | .tup _,.lst _=>some false
 | .at u,.lst _=>if u4 u=true then some false else none
 | .at u,.tup _=>if u4 u=true then some false else none
 | .lst _,.at u=>if u4 u=true then some false else none
 | .tup _,.at u=>if u4 u=true then some false else none
 |_,_=>none
def peq:Nat->PV->PV->Option Bool
 |0=>peq0
 |n+1=>peq1 (peq n)
theorem Zn {K:Fg}{Hs H:Hp}{n:Nat}(s:Same Hs H)(ih:∀{x y:PV}{v w:V}{b:Bool},peq n x y=some b->Rep Hs x v->Rep Hs y w->EqP K H n v w b):∀{xs ys:List PV}{vs ws:List V}{b:Bool},xS (peq n) xs ys=some b->Reps Hs xs vs->Reps Hs ys ws->∃ e:Nat->Bool,(∀ j (h1:j<vs.length) (h2:j<ws.length),EqP K H n vs[j] ws[j] (e j))/\b=(List.range (min vs.length ws.length)).all e
 |[],ys,vs,ws,b,h,r1,r2=>by
  cases reps_nil.mp r1;unfold xS at h;cases h;exact ⟨λ_=>true,λj h1=>absurd h1 (Nat.not_lt_zero _),by simp⟩
 |x::xs,[],vs,ws,b,h,r1,r2=>by
  cases reps_nil.mp r2;unfold xS at h;cases h;exact ⟨λ_=>true,λj h1 h2=>absurd h2 (Nat.not_lt_zero _),by simp⟩
 |x::xs,y::ys,vs,ws,b,h,r1,r2=>by
  obtain ⟨v,vr,rfl,p1,q1⟩:=reps_cons.mp r1;obtain ⟨w,wr,rfl,p2,q2⟩:=reps_cons.mp r2;unfold xS at h;obtain ⟨a,ea,h1⟩:=bind_some h;obtain ⟨c,ec,h2⟩:=bind_some h1;cases h2;obtain ⟨e,he,hb⟩:=Zn s ih ec q1 q2;refine ⟨λj=>match j with|0=>a|j+1=>e j,λj h1 h2=>?_,?_⟩
  ·cases j with
   |zero=>exact ih ea p1 p2
   |succ j=>exact he j (by simpa using h1) (by simpa using h2)
  ·rw [yx,yx,Nat.succ_min_succ,List.range_succ_eq_map,List.all_cons,List.all_map,hb];rfl
theorem Zm {K:Fg}{Hs H:Hp}(s:Same Hs H):∀(n:Nat){x y:PV}{v w:V}{b:Bool},peq n x y=some b->RepB Hs H x v->RepB Hs H y w->EqP K H n v w b
 |0,x,y,v,w,b,h,r1,r2=>by
  unfold peq peq0 at h;split at h
  ·split at h
   ·rename_i hf;cases h;cases y9 r1;cases y9 r2;exact ⟨hf.1,hf.2,rfl⟩
   ·cases h
  ·cases h
 |n+1,x,y,v,w,b,h,r1,r2=>by
  have ih:∀{x y:PV}{v w:V}{b:Bool},peq n x y=some b->Rep Hs x v->Rep Hs y w->EqP K H n v w b:=λh r1 r2=>Zm s n h (.inl r1) (.inl r2);unfold peq peq1 at h;split at h
  ·split at h
   ·rename_i hf;cases h;cases y9 r1;cases y9 r2;exact .inl ⟨hf.1,hf.2,rfl⟩
   ·cases h
  ·obtain ⟨a,vs,rfl,e1,q1⟩:=qr s r1;obtain ⟨c,ws,rfl,e2,q2⟩:=qr s r2;refine .inr (.inl ⟨a,c,vs,ws,rfl,rfl,SqL.of e1,SqL.of e2,?_⟩);split at h
   ·rename_i hl;obtain ⟨e,he,hb⟩:=Zn s ih h q1 q2;have hl':vs.length=ws.length:=by rw [q1.length,q2.length,hl]
    exact .inr ⟨hl',e,he,by rw [hb,<- hl',Nat.min_self]⟩
   ·rename_i hl;cases h;exact .inl ⟨by rw [q1.length,q2.length];exact hl,rfl⟩
  ·obtain ⟨a,vs,rfl,e1,q1⟩:=qM s r1;obtain ⟨c,ws,rfl,e2,q2⟩:=qM s r2;obtain ⟨d,ed,h1⟩:=bind_some h;cases h1;obtain ⟨e,he,hb⟩:=Zn s ih ed q1 q2;exact .inr (.inr (.inl ⟨a,c,vs,ws,rfl,rfl,SqT.of e1,SqT.of e2,e,he,by rw [hb,q1.length,q2.length]⟩))
  ·cases h;obtain ⟨a,vs,rfl,e1,q1⟩:=qr s r1;obtain ⟨c,ws,rfl,e2,q2⟩:=qM s r2;exact .inr (.inr (.inr (.inl ⟨a,c,vs,ws,rfl,rfl,SqL.of e1,SqT.of e2,rfl⟩)))
  ·cases h;obtain ⟨a,vs,rfl,e1,q1⟩:=qM s r1;obtain ⟨c,ws,rfl,e2,q2⟩:=qr s r2;exact .inr (.inr (.inr (.inr (.inl ⟨a,c,vs,ws,rfl,rfl,SqT.of e1,SqL.of e2,rfl⟩))))
  ·split at h
   ·rename_i hf;cases h;cases y9 r1;obtain ⟨c,ws,rfl,e2,q2⟩:=qr s r2;exact .inr (.inr (.inr (.inr (.inr (.inl ⟨c,ws,hf,rfl,.inl (SqL.of e2),rfl⟩)))))
   ·cases h
  ·split at h
   ·rename_i hf;cases h;cases y9 r1;obtain ⟨c,ws,rfl,e2,q2⟩:=qM s r2;exact .inr (.inr (.inr (.inr (.inr (.inl ⟨c,ws,hf,rfl,.inr (SqT.of e2),rfl⟩)))))
   ·cases h
  ·split at h
   ·rename_i hf;cases h;cases y9 r2;obtain ⟨c,ws,rfl,e2,q2⟩:=qr s r1;exact .inr (.inr (.inr (.inr (.inr (.inr ⟨c,ws,hf,rfl,.inl (SqL.of e2),rfl⟩)))))
   ·cases h
  ·split at h
   ·rename_i hf;cases h;cases y9 r2;obtain ⟨c,ws,rfl,e2,q2⟩:=qM s r1;exact .inr (.inr (.inr (.inr (.inr (.inr ⟨c,ws,hf,rfl,.inr (SqT.of e2),rfl⟩)))))
   ·cases h
  ·cases h
def pEq:PV->PV->Option PV:=λx y=>(peq 6 x y).bind λb=>some (.at (.bl b))
def o8:PV->PV->Option PV:=λx y=>(peq 6 x y).bind λb=>some (.at (.bl (!b)))
instance :xh (rEqD K 6 false) pEq where
 h:=λ{x y z} e {Hs H v w} s a b {Q} q=>by
  obtain ⟨c,ec,e1⟩:=bind_some e;cases e1;exact ⟨c,Zm s 6 ec a b,q _ _ _ (.refl s) (rep_at.mpr rfl)⟩
instance :xh (rEqD K 6 true) o8 where
 h:=λ{x y z} e {Hs H v w} s a b {Q} q=>by
  obtain ⟨c,ec,e1⟩:=bind_some e;cases e1;exact ⟨c,Zm s 6 ec a b,q _ _ _ (.refl s) (rep_at.mpr rfl)⟩
class SemP (to:TO)(f:ME->Option (Option Int)):Prop where
 h:∀{ε y},f ε=some y->∀{Hs0 H0 Hs H U},RS Hs0 H0 Hs H U ε->∀{Q:Option Int->Hp->Prop},(∀ Hs' H',Ext Hs H Hs' H'->Q y H')->to U H Q
def pNo:ME->Option (Option Int):=λ_=>some none
def pInt:PV->Option Int
 | .at (.int i)=>some i
 |_=>none
def pSo (a:M):ME->Option (Option Int):=λε=>(a ε).bind λx=>(pInt x).bind λi=>some (some i)
instance:SemP YW pNo where
 h:=λe _ _ _ _ _ rs _ q=>by cases e;exact q _ _ (.refl rs.sub)
instance {a:M}[sa:n9 te a]:SemP (YY te) (pSo a) where
 h:=λe _ _ _ _ _ rs _ q=>by
  obtain ⟨x,ex,e1⟩:=bind_some e;obtain ⟨i,ei,e2⟩:=bind_some e1;cases e2;unfold pInt at ei;split at ei
  ·cases ei;exact sa.h ex rs λv Hs1 H1 x1 r1=>⟨_,y9 r1,q _ _ x1⟩
  ·cases ei
def xE (n:Nat):List PV->List PV
 |[]=>[]
 |x::xs=> .tup [.at (.int n),x]::xE (n+1) xs
theorem Wc:∀{xs:List PV}{n i:Nat}{z:PV},(xE n xs)[i]?=some z->∃ x,xs[i]?=some x/\z = .tup [.at (.int ((n+i:Nat):Int)),x]
 |[],n,i,z,h=>by simp [xE] at h
 |x::xs,n,0,z,h=>by simp [xE] at h;exact ⟨x,rfl,h.symm⟩
 |x::xs,n,i+1,z,h=>by
  obtain ⟨y,h1,h2⟩:=Wc (xs:=xs) (n:=n+1) (i:=i) (z:=z) (by simpa [xE] using h);exact ⟨y,by simpa using h1,by rw [h2,show n+1+i=n+(i+1) by omega]⟩
theorem Wd:∀{xs:List PV}{n:Nat},(xE n xs).length=xs.length
 |[],_=>rfl
 |x::xs,n=>by simp [xE,Wd]
theorem Ks {a:Addr}(h:Hs a=some (.lst vs))(r:Reps Hs xs vs):jr (Ite K a) (xE 0 xs) Hs where
 go:=λi x Hs1 H1 e g1 g2=>by
  obtain ⟨y,ey,rfl⟩:=Wc e;obtain ⟨v,ev,rv⟩:=r.get ey;refine ⟨⟨vs,v,SqL.of (g2 _ _ (g1 _ _ h)),ev⟩,λw H2 z=>?_⟩;obtain ⟨p,u,hp,rfl,rfl,hu⟩:=z;have e1:=hu vs (SqL.of (g2 _ _ (g1 _ _ h)));rw [ev] at e1;cases e1;refine ⟨_,.new g2 hp,rep_tup.mpr ⟨p,_,rfl,u3,.cons (rep_at.mpr (by rw [Nat.zero_add])) (.one (rv.mono (g1.trans (Ext.new g2 hp).s1)))⟩⟩
 stop:=λHs1 H1 g1 g2=>⟨vs,SqL.of (g2 _ _ (g1 _ _ h)),by rw [r.length,Wd];exact yS _⟩
def Xz (a:MA):MA:=λε=>(a ε).bind λxs=>match xs with
 |[.lst ys]=>some (xE 0 ys)
 |_=>none
instance {a:MA}[sa:i5 ta a]:zn (XJ K ta) (Xz a) where
 h:=λe _ _ _ _ _ rs _ q=>by
  obtain ⟨xs,ex,e1⟩:=bind_some e;split at e1
  ·cases e1;refine sa.h ex rs λvs Hs1 H1 x1 r1=>?_;obtain ⟨v,r,rfl,p1,p2⟩:=reps_cons.mp r1;cases reps_nil.mp p2;obtain ⟨p,ws,rfl,hp,rw⟩:=rep_lst.mp p1;exact ⟨p,rfl,⟨ws,SqL.of (x1.s3 _ _ hp)⟩,q _ _ _ x1 (Ks hp rw)⟩
  ·cases e1
def xg:List PV->List PV->List PV
 |x::xs,y::ys=> .tup [x,y]::xg xs ys
 |_,_=>[]
theorem Uw:∀{xs ys:List PV}{i:Nat}{z:PV},(xg xs ys)[i]?=some z->∃ x y,xs[i]?=some x/\ys[i]?=some y/\z = .tup [x,y]
 |[],_,i,z,h=>by simp [xg] at h
 |_::_,[],i,z,h=>by simp [xg] at h
 |x::xs,y::ys,0,z,h=>by simp [xg] at h;exact ⟨x,y,rfl,rfl,h.symm⟩
 |x::xs,y::ys,i+1,z,h=>by
  obtain ⟨u,v,h1,h2,h3⟩:=Uw (xs:=xs) (ys:=ys) (i:=i) (z:=z) (by simpa [xg] using h);exact ⟨u,v,by simpa using h1,by simpa using h2,h3⟩
theorem Ux:∀{xs ys:List PV},(xg xs ys).length=min xs.length ys.length
 |[],_=>by simp [xg]
 |_::_,[]=>by simp [xg]
 |x::xs,y::ys=>by simp [xg,Ux,Nat.succ_min_succ]
theorem Kw {a b:Addr}(h:Hs a=some (.lst vs))(r:Reps Hs xs vs)(h':Hs b=some (.lst ws))(r':Reps Hs ys ws):jr (Itz K a b) (xg xs ys) Hs where
 go:=λi x Hs1 H1 e g1 g2=>by
  obtain ⟨y,z,ey,ez,rfl⟩:=Uw e;obtain ⟨v,ev,rv⟩:=r.get ey;obtain ⟨w,ew,rw⟩:=r'.get ez;have q1:SqL K H1 a vs:=SqL.of (g2 _ _ (g1 _ _ h));have q2:SqL K H1 b ws:=SqL.of (g2 _ _ (g1 _ _ h'));refine ⟨⟨vs,ws,v,w,q1,q2,ev,ew⟩,λu H2 z=>?_⟩;obtain ⟨p,v',w',hp,rfl,rfl,hv,hw⟩:=z;have e1:=hv vs q1;have e2:=hw ws q2;rw [ev] at e1;rw [ew] at e2;cases e1;cases e2;have g3:=g1.trans (Ext.new (o:= .tup [v,w]) g2 hp).s1;exact ⟨_,.new g2 hp,rep_tup.mpr ⟨p,_,rfl,u3,.cons (rv.mono g3) (.one (rw.mono g3))⟩⟩
 stop:=λHs1 H1 g1 g2=>⟨vs,ws,SqL.of (g2 _ _ (g1 _ _ h)),SqL.of (g2 _ _ (g1 _ _ h')),by rw [r.length,r'.length,Ux];omega⟩
def dZip (a:MA):MA:=λε=>(a ε).bind λxs=>match xs with
 |[.lst ys,.lst zs]=>some (xg ys zs)
 |_=>none
instance {a:MA}[sa:i5 ta a]:zn (iZip K ta) (dZip a) where
 h:=λe _ _ _ _ _ rs _ q=>by
  obtain ⟨xs,ex,e1⟩:=bind_some e;split at e1
  ·cases e1;refine sa.h ex rs λvs Hs1 H1 x1 r1=>?_;obtain ⟨v,r,rfl,p1,p2⟩:=reps_cons.mp r1;obtain ⟨v',r',rfl,p3,p4⟩:=reps_cons.mp p2;cases reps_nil.mp p4;obtain ⟨p,ws,rfl,hp,rw1⟩:=rep_lst.mp p1;obtain ⟨p',ws',rfl,hp',rw2⟩:=rep_lst.mp p3;exact ⟨p,p',rfl,⟨ws,SqL.of (x1.s3 _ _ hp)⟩,⟨ws',SqL.of (x1.s3 _ _ hp')⟩,q _ _ _ x1 (Kw hp rw1 hp' rw2)⟩
  ·cases e1
structure RD (S:List Addr)(Hs0 H0 Hs H:Hp)(U:St)(ε:ME):Prop where
 s1:Same Hs0 Hs
 s2:∀ b o,H0 b=some o->b∉S->H b=some o
 s3:Same Hs H
 s4:∀ b,H0 b≠none->Hs0 b=none->Hs b=none
 sh:∀(i:Nat)(x:PV),ε[i]?=some (.sh x)->∃ v,U[i]?=some (some v)/\Rep Hs x v
 ow:∀(i:Nat)(x:PV),ε[i]?=some (.ow x)->∃ a,U[i]?=some (some (.ref a))/\(H0 a=none∨a∈S)/\Hs a=none/\Top Hs H a x
 nd:∀(i j:Nat)(x y:PV)(a:Addr),ε[i]?=some (.ow x)->ε[j]?=some (.ow y)->U[i]?=some (some (.ref a))->U[j]?=some (some (.ref a))->i=j
 len:U.length=ε.length
 pin:∀ a∈S,U[0]?=some (some (.ref a))
 live:∀ a∈S,H a≠none
 str:∀ a∈S,∃ y,ε[0]?=some (.ow y)
 nb:∀(i:Nat)(x:PV),ε[i]?≠some (.bo x)
section
variable {S:List Addr}{Hs0 H0 Hs H Hs' H':Hp}{U:St}{ε:ME}
theorem RD.rs (r:RD S Hs0 H0 Hs H U ε):RS Hs Hs Hs H U ε where
 ext:=⟨.refl _,r.s3,r.s3,λ_ h z=>absurd z h⟩
 sh:=r.sh
 ow:=λi x h=>by obtain ⟨a,h1,_,h3,h4⟩:=r.ow i x h;exact ⟨a,h1,h3,h3,h4⟩
 nd:=r.nd
 len:=r.len
 bo:=λi x h=>absurd h (r.nb i x)
theorem RD.there (r:RD S Hs0 H0 Hs H U ε){b:Addr}(h:H0 b≠none):H b≠none:=by
 by_cases hS:b∈S
 ·exact r.live b hS
 ·cases q:H0 b with
  |none=>exact absurd q h
  |some o=>rw [r.s2 b o q hS];exact λz=>nomatch z
theorem RD.go (r:RD S Hs0 H0 Hs H U ε)(e:Ext Hs H Hs' H'):RD S Hs0 H0 Hs' H' U ε where
 s1:=r.s1.trans e.s1
 s2:=λb o h n=>e.s2 _ _ (r.s2 b o h n)
 s3:=e.s3
 s4:=λb h z=>e.s4 b (r.there h) (r.s4 b h z)
 sh:=λi x q=>by obtain ⟨v,a,b⟩:=r.sh i x q;exact ⟨v,a,b.mono e.s1⟩
 ow:=λi x q=>by
  obtain ⟨a,b,n0,n,t⟩:=r.ow i x q;exact ⟨a,b,n0,e.s4 a t.there n,t.mono e.s1 λo z=>e.s2 _ _ z⟩
 nd:=r.nd
 len:=r.len
 pin:=r.pin
 live:=λa h=>vH e.s2 (r.live a h)
 str:=r.str
 nb:=r.nb
theorem RD.change (r:RD S Hs0 H0 Hs H U ε){i:Nat}{a:Addr}(hi:ε[i]?=some (.ow x))(ha:U[i]?=some (some (.ref a)))(t:Top Hs (j3 H a o) a y):RD S Hs0 H0 Hs (j3 H a o) U (ε.set i (.ow y)):=by
 obtain ⟨b,hb,n0,n,tx⟩:=r.ow i x hi;rw [ha] at hb;injection hb with hb;injection hb with hb;injection hb with hb;subst hb;have q:=(r.rs).change hi ha t;refine ⟨r.s1,λb u e hS=>?_,λb u e=>?_,r.s4,q.sh,λj z hz=>?_,q.nd,q.len,r.pin,λb hS=>?_,λb hS=>?_,vt r.nb λ_ z=>nomatch z⟩
 ·have hne:b≠a:=λz=>by
   rcases n0 with n0|n0
   ·rw [z,n0] at e;cases e
   ·exact hS (z▸n0)
  rw [z9 hne];exact r.s2 b u e hS
 ·rw [z9 (w9 e n)];exact r.s3 _ _ e
 ·obtain ⟨c,hc,m1,m2,tc⟩:=q.ow j z hz;refine ⟨c,hc,?_,m2,tc⟩;rw [yN] at hz;split at hz
  ·rename_i hij;rw [<- hij,ha] at hc;injection hc with hc;injection hc with hc;injection hc with hc;rw [<- hc];exact n0
  ·obtain ⟨d,hd,m0,_⟩:=r.ow j z hz;rw [hd] at hc;injection hc with hc;injection hc with hc;injection hc with hc;rw [<- hc];exact m0
 ·by_cases hba:b=a
  ·rw [hba,u3];exact λz=>nomatch z
  ·rw [z9 hba];exact r.live b hS
 ·obtain ⟨y',hy⟩:=r.str b hS;rw [yN];split
  ·rename_i h0;rw [if_pos (by rw [h0];exact (yq.mp hy).1)];exact ⟨y,rfl⟩
  ·exact ⟨y',hy⟩
theorem RD.put (r:RD S Hs0 H0 Hs H U ε){i:Nat}(h:Rep Hs x v):RD S Hs0 H0 Hs H (U.set (i+1) (some v)) (ε.set (i+1) (.sh x)):=by
 have q:=(r.rs).put (i:=i+1) h;refine ⟨r.s1,r.s2,r.s3,r.s4,q.sh,λj z hz=>?_,q.nd,q.len,λa hS=>by rw [yH (by omega)];exact r.pin a hS,r.live,λa hS=>by rw [yH (by omega)];exact r.str a hS,vt r.nb λ_ z=>nomatch z⟩;obtain ⟨c,hc,m1,m2,tc⟩:=q.ow j z hz;refine ⟨c,hc,?_,m2,tc⟩;rw [yN] at hz hc;split at hz
 ·split at hz<;>cases hz
 ·rename_i hij;rw [if_neg hij] at hc;obtain ⟨d,hd,m0,_⟩:=r.ow j z hz;rw [hd] at hc;injection hc with hc;injection hc with hc;injection hc with hc;rw [<- hc];exact m0
theorem RD.putO (r:RD S Hs0 H0 Hs H U ε){i:Nat}{a:Addr}(h0:H0 a=none∨a∈S)(h1:Hs a=none)(h2:Top Hs H a x)(ne:∀(j:Nat)(y:PV),ε[j]?=some (.ow y)->U[j]?≠some (some (.ref a))):RD S Hs0 H0 Hs H (U.set (i+1) (some (.ref a))) (ε.set (i+1) (.ow x)):=by
 have q:=(r.rs).putO (i:=i+1) ⟨h1,h1,h2⟩ ne;refine ⟨r.s1,r.s2,r.s3,r.s4,q.sh,λj z hz=>?_,q.nd,q.len,λa hS=>by rw [yH (by omega)];exact r.pin a hS,r.live,λa hS=>by rw [yH (by omega)];exact r.str a hS,vt r.nb λ_ z=>nomatch z⟩;obtain ⟨c,hc,m1,m2,tc⟩:=q.ow j z hz;refine ⟨c,hc,?_,m2,tc⟩;rw [yN] at hz hc;split at hz
 ·rename_i hij;rw [if_pos hij] at hc;split at hc
  ·injection hc with hc;injection hc with hc;injection hc with hc;rw [<- hc];exact h0
  ·cases hc
 ·rename_i hij;rw [if_neg hij] at hc;obtain ⟨d,hd,m0,_⟩:=r.ow j z hz;rw [hd] at hc;injection hc with hc;injection hc with hc;injection hc with hc;rw [<- hc];exact m0
theorem RD.free0 (r:RD S Hs0 H0 Hs H U ε){a:Addr}(h:H a=none):H0 a=none:=by
 cases q:H0 a with
 |none=>rfl
 |some o=>exact absurd h (r.there (by rw [q];exact λz=>nomatch z))
theorem RD.freeze (r:RD S Hs0 H0 Hs H U ε)(i:Nat):∃ Hs',Same Hs Hs'/\RD S Hs0 H0 Hs' H U (fz (i+1) ε):=by
 by_cases h:∃ x,ε[i+1]?=some (.ow x)
 ·obtain ⟨x,hi⟩:=h;obtain ⟨a,ha,n0,n,t⟩:=r.ow (i+1) x hi;have hS:a∉S:=λhS=>by
   obtain ⟨y,hy⟩:=r.str a hS;exact absurd (r.nd 0 (i+1) y x a hy hi (r.pin a hS) ha) (by omega)
  obtain ⟨o,ho,hr⟩:=t.rep n;have g:Same Hs (j3 Hs a o):=λb u e=>by rw [z9 (w9 e n)];exact e
  have ef:fz (i+1) ε=ε.set (i+1) (.sh x):=by unfold fz;rw [hi]
  have n0':H0 a=none:=n0.resolve_right hS;rw [ef];have dn:∀(j:Nat)(y:PV),(ε.set (i+1) (.sh x))[j]?=some (.ow y)->i+1≠j/\ε[j]?=some (.ow y):=λj y q=>by
   rw [yN] at q;split at q
   ·split at q<;>cases q
   ·rename_i hij;exact ⟨hij,q⟩
  refine ⟨j3 Hs a o,g,r.s1.trans g,r.s2,λb u e=>?_,λb h z=>?_,λj y q=>?_,λj y q=>?_,λj k z z' c h1 h2 h3 h4=>r.nd j k z z' c (dn j z h1).2 (dn k z' h2).2 h3 h4,by rw [yt,r.len],r.pin,r.live,(λb hb=>by rw [yH (by omega)];exact r.str b hb),vt r.nb λ_ z=>nomatch z⟩
  ·by_cases hb:b=a
   ·subst hb;rw [u3] at e;cases e;exact ho
   ·rw [z9 hb] at e;exact r.s3 _ _ e
  ·have hb:b≠a:=λe=>h (e▸n0');rw [z9 hb];exact r.s4 b h z
  ·rw [yN] at q;split at q
   ·rename_i hij;split at q
    ·injection q with q;injection q with q;subst q;exact ⟨.ref a,hij▸ha,hr⟩
    ·cases q
   ·obtain ⟨v,e,w⟩:=r.sh j y q;exact ⟨v,e,w.mono g⟩
  ·obtain ⟨hij,hq⟩:=dn j y q;obtain ⟨c,hc,m0,m,tc⟩:=r.ow j y hq;have hne:c≠a:=λe=>hij (r.nd (i+1) j x y a hi hq ha (e▸hc));exact ⟨c,hc,m0,by rw [z9 hne];exact m,tc.mono g λ_ e=>e⟩
 ·refine ⟨Hs,.refl _,?_⟩;unfold fz;split
  ·rename_i x hx;exact absurd ⟨x,hx⟩ h
  ·exact r
end
abbrev W:=ME->(PV->ME->Prop)->Prop
variable{a:W}
abbrev WA:=ME->(List PV->ME->Prop)->Prop
variable{it:WA}
abbrev WT:=ME->(Bool->ME->Prop)->Prop
abbrev WS:=ME->(ME->Prop)->(PV->ME->Prop)->Prop
variable{b:WS}
class SemW (te:TE)(w:W):Prop where
 h:∀{ε Q'},w ε Q'->∀{S Hs0 H0 Hs H U},RD S Hs0 H0 Hs H U ε->∀{Q:VK},(∀ y ε' v Hs' H',Q' y ε'->RD S Hs0 H0 Hs' H' U ε'->Same Hs Hs'->Rep Hs' y v->Q v H')->te U H Q
class jt (ta:TA)(w:WA):Prop where
 h:∀{ε Q'},w ε Q'->∀{S Hs0 H0 Hs H U},RD S Hs0 H0 Hs H U ε->∀{Q:List V->Hp->Prop},(∀ ys ε' vs Hs' H',Q' ys ε'->RD S Hs0 H0 Hs' H' U ε'->Same Hs Hs'->Reps Hs' ys vs->Q vs H')->ta U H Q
class zN (tt:TT)(w:WT):Prop where
 h:∀{ε Q'},w ε Q'->∀{S Hs0 H0 Hs H U},RD S Hs0 H0 Hs H U ε->∀{Q:Bool->Hp->Prop},(∀ b ε' Hs' H',Q' b ε'->RD S Hs0 H0 Hs' H' U ε'->Same Hs Hs'->Q b H')->tt U H Q
class SemWS (ts:TS)(w:WS):Prop where
 h:∀{ε N R},w ε N R->∀{S Hs0 H0 Hs H U},RD S Hs0 H0 Hs H U ε->∀{D:qk},(∀ ε' σ' Hs' H',N ε'->RD S Hs0 H0 Hs' H' σ' ε'->Same Hs Hs'->D.nx σ' H') ->
  (∀ y ε' σ' v Hs' H',R y ε'->RD S Hs0 H0 Hs' H' σ' ε'->Same Hs Hs'->Rep Hs' y v->D.rt v H')->ts D U H
def wP (f:M):W:=λε Q=>∃ y,f ε=some y/\Q y ε
def wPT (f:MB):WT:=λε Q=>∃ y,f ε=some y/\Q y ε
instance (priority:=50){f:M}[s:SemE te f]:SemW te (wP f) where
 h:=λ⟨y,e,q⟩ _ _ _ _ _ _ r _ k=>s.h e r.rs λv Hs' H' x rv=>k y _ v Hs' H' q (r.go x) x.s1 rv
instance (priority:=50){f:MB}[s:qc tt f]:zN tt (wPT f) where
 h:=λ⟨y,e,q⟩ _ _ _ _ _ _ r _ k=>s.h e r.rs λHs' H' x=>k y _ Hs' H' q (r.go x) x.s1
def n8 (g:PV->PV->Option PV)(a b:W):W:=λε Q=>a ε λx ε1=>b ε1 λy ε2=>∃ z,g x y=some z/\Q z ε2
instance {r:R2}{g:PV->PV->Option PV}{ta tb:TE}{b:W}[sr:xh r g][sa:SemW ta a][sb:SemW tb b]:SemW (tOp r ta tb) (n8 g a b) where
 h:=λh _ _ _ _ _ _ rd _ k=>sa.h h rd λx ε1 v Hs1 H1 h1 rd1 g1 r1=>sb.h h1 rd1 λy ε2 w Hs2 H2 h2 rd2 g2 r2=>by
  obtain ⟨z,ez,h2⟩:=h2;exact sr.h ez rd2.s3 (.inl (r1.mono g2)) (.inl r2) λu Hs3 H3 x3 r3=>k z ε2 u Hs3 H3 h2 (rd2.go x3) (g1.trans (g2.trans x3.s1)) r3
def wT (a:W):WT:=λε Q=>a ε λx ε1=>∃ b,pB x=some b/\Q b ε1
instance [sa:SemW te a]:zN (Xc te) (wT a) where
 h:=λh _ _ _ _ _ _ rd _ k=>sa.h h rd λx ε1 v Hs1 H1 h1 rd1 g1 r1=>by
  obtain ⟨b,eb,h2⟩:=h1;cases vx eb;exact ⟨b,rep_at.mp r1,k b ε1 Hs1 H1 h2 rd1 g1⟩
def wAnd (a b:WT):WT:=λε Q=>a ε λc ε1=>if c=true then b ε1 Q else Q false ε1
instance {t u:TT}{a b:WT}[sa:zN t a][sb:zN u b]:zN (tAnd t u) (wAnd a b) where
 h:=λh _ _ _ _ _ _ rd _ k=>sa.h h rd λc ε1 Hs1 H1 h1 rd1 g1=>by
  cases c with
  |true=>exact qW (sb.h (by simpa using h1) rd1 λc2 ε2 Hs2 H2 h2 rd2 g2=>k c2 ε2 Hs2 H2 h2 rd2 (g1.trans g2))
  |false=>exact qV (k false ε1 Hs1 H1 (by simpa using h1) rd1 g1)
def jq:WA:=λε Q=>Q [] ε
def qO (a:W)(r:WA):WA:=λε Q=>a ε λx ε1=>r ε1 λxs ε2=>Q (x::xs) ε2
instance:jt xl jq where
 h:=λh _ _ _ _ _ _ rd _ k=>k [] _ [] _ _ h rd (.refl _) .nil
instance {r:WA}[sa:SemW te a][sr:jt ta r]:jt (qt te ta) (qO a r) where
 h:=λh _ _ _ _ _ _ rd _ k=>sa.h h rd λx ε1 v Hs1 H1 h1 rd1 g1 r1=>sr.h h1 rd1 λxs ε2 vs Hs2 H2 h2 rd2 g2 r2=>k _ ε2 _ Hs2 H2 h2 rd2 (g1.trans g2) (.cons (r1.mono g2) r2)
def wTup (a:WA):W:=λε Q=>a ε λxs ε1=>xs.length<=lim/\Q (.tup xs) ε1
instance {a:WA}[sa:jt ta a]:SemW (tTup ta) (wTup a) where
 h:=λh _ _ _ _ _ _ rd _ k=>sa.h h rd λxs ε1 vs Hs1 H1 h1 rd1 g1 r1=>⟨qX (r1.length▸h1.1),λp hp=>k _ ε1 _ _ _ h1.2 (rd1.go (.new rd1.s3 hp)) (g1.trans (Ext.new rd1.s3 hp).s1) (rep_tup.mpr ⟨p,vs,rfl,u3,r1.mono (Ext.new rd1.s3 hp).s1⟩)⟩
def vI:Sp:=λvs H Q _=>∃(a:Addr)(n m:Int),vs=[.ref a,.int m]/\H a=some (.lst [.int n])/\wY n m/\Q (.int (n % m)) (j3 H a (.lst [.int (n / m)]))
def k8 (n:Int):MSlot:= .ow (.lst [.at (.int n)])
def wTake (i:Nat)(a:W):W:=λε Q=>a ε λx ε1=>∃ n k,x = .at (.int k)/\ε1[i]?=some (k8 n)/\wY n k/\Q (.at (.int (n % k))) (ε1.set i (k8 (n / k)))
theorem RD.strm_at {i:Nat}{n:Int}(r:RD S Hs0 H0 Hs H U ε)(h:ε[i]?=some (k8 n)):∃ a,U[i]?=some (some (.ref a))/\H a=some (.lst [.int n])/\Hs a=none/\(H0 a=none∨a∈S):=by obtain ⟨a,ha,n0,n1,vs,hv,rv⟩:=r.ow i _ h;obtain ⟨v,w,rfl,p1,p2⟩:=reps_cons.mp rv;cases reps_nil.mp p2;cases rep_at.mp p1;exact ⟨a,ha,hv,n1,n0⟩
def zk (i:Nat):ME->Prop:=λε=>∃ n,ε[i]?=some (k8 n)
def c9 (i:Nat)(a:W):W:=λε Q=>zk i ε/\wTake i a ε Q
instance {i:Nat}[sa:SemW te a]:SemW (xz vI [] E (qt (qu i) (qt te xl))) (c9 i a) where
 h:=λh _ _ _ _ _ _ rd _ k=>by
  obtain ⟨⟨n0,hn0⟩,h⟩:=h;obtain ⟨p,hp,_⟩:=rd.strm_at hn0;refine ⟨_,hp,sa.h h rd λx ε1 v Hs1 H1 h1 rd1 g1 r1=>?_⟩;obtain ⟨n,m,rfl,hn,hc,h2⟩:=h1;obtain ⟨p',hp',hH,hs,_⟩:=rd1.strm_at hn;rw [hp] at hp';injection hp' with hp';injection hp' with hp';injection hp' with hp';subst hp';cases rep_at.mp r1;exact ⟨p,n,m,rfl,hH,hc,k _ _ _ _ _ h2 (rd1.change hn hp ⟨_,u3,.one (rep_at.mpr rfl)⟩) g1 (rep_at.mpr rfl)⟩
structure ExtD (p:Addr)(Hs H Hs' H':Hp):Prop where
 s1:Same Hs Hs'
 s2:∀ b o,H b=some o->b≠p->H' b=some o
 s3:Same Hs' H'
 s4:∀ b,H b≠none->Hs b=none->Hs' b=none
def spD (pre:List PV->Prop)(R:List PV->PV->Prop):Sp:=λvs H Q _=>∃ Hs a n xs ws,vs = .ref a::ws/\Same Hs H/\Hs a=none/\H a=some (.lst [.int n])/\Reps Hs xs ws/\pre xs /\
 ∀ y v n' Hs' H',R xs y->ExtD a Hs H Hs' H'->Hs' a=none->H' a=some (.lst [.int n'])->Rep Hs' y v->Q v H'
section
variable {S:List Addr}{Hs0 H0 Hs H Hs' H':Hp}{U:St}{ε:ME}
theorem RD.drawn (r:RD S Hs0 H0 Hs H U ε){i:Nat}{n n':Int}{p:Addr}(hi:ε[i]?=some (k8 n))(hp:U[i]?=some (some (.ref p)))(x:ExtD p Hs H Hs' H')(np:Hs' p=none)(ep:H' p=some (.lst [.int n'])):RD S Hs0 H0 Hs' H' U (ε.set i (k8 n')):=by
 obtain ⟨p',hp',hH,hs,h0⟩:=r.strm_at hi;rw [hp] at hp';injection hp' with hp';injection hp' with hp';injection hp' with hp';subst hp';have up:∀(j:Nat)(z:PV),(ε.set i (k8 n'))[j]?=some (.ow z)->(j=i/\z = .lst [.at (.int n')])∨(j≠i/\ε[j]?=some (.ow z)):=λj z q=>by
  rw [yN] at q;split at q
  ·rename_i hij;split at q
   ·injection q with q;unfold k8 at q;injection q with q;exact .inl ⟨hij.symm,q.symm⟩
   ·cases q
  ·rename_i hij;exact .inr ⟨Ne.symm hij,q⟩
 have wasOw:∀(j:Nat)(z:PV),(ε.set i (k8 n'))[j]?=some (.ow z)->∃ z',ε[j]?=some (.ow z'):=λj z q=>by
  rcases up j z q with ⟨rfl,_⟩|⟨_,q⟩
  ·exact ⟨_,hi⟩
  ·exact ⟨z,q⟩
 refine ⟨r.s1.trans x.s1,λb o e hS=>x.s2 b o (r.s2 b o e hS) λz=>?_,x.s3,λb h z=>x.s4 b (r.there h) (r.s4 b h z),λj z q=>?_,λj z q=>?_,λj k z z' c h1 h2 h3 h4=>?_,by rw [yt,r.len],r.pin,λb hS=>?_,λb hS=>?_,vt r.nb λ_ z=>by unfold k8 at z;cases z⟩
 ·rcases h0 with h0|h0
  ·rw [z,h0] at e;cases e
  ·exact hS (z▸h0)
 ·rw [yN] at q;split at q
  ·split at q
   ·unfold k8 at q;cases q
   ·cases q
  ·obtain ⟨v,h1,h2⟩:=r.sh j z q;exact ⟨v,h1,h2.mono x.s1⟩
 ·rcases up j z q with ⟨rfl,rfl⟩|⟨hij,q⟩
  ·exact ⟨p,hp,h0,np,_,ep,.one (rep_at.mpr rfl)⟩
  ·obtain ⟨c,hc,m0,m1,tc⟩:=r.ow j z q;have hne:c≠p:=λe=>hij (r.nd j i z _ p q hi (e▸hc) hp);exact ⟨c,hc,m0,x.s4 c tc.there m1,tc.mono x.s1 λo e=>x.s2 c o e hne⟩
 ·obtain ⟨w1,q1⟩:=wasOw j z h1;obtain ⟨w2,q2⟩:=wasOw k z' h2;exact r.nd j k w1 w2 c q1 q2 h3 h4
 ·by_cases hb:b=p
  ·rw [hb,ep];exact λz=>nomatch z
  ·have:=r.live b hS;cases q:H b with
   |none=>exact absurd q this
   |some o=>rw [x.s2 b o q hb];exact λz=>nomatch z
 ·obtain ⟨y',hy⟩:=r.str b hS;rw [yN];split
  ·rename_i h0;rw [if_pos (by rw [h0];exact (yq.mp hy).1)];exact ⟨_,rfl⟩
  ·exact ⟨y',hy⟩
end
def Xi (i:Nat)(pre:List PV->Prop)(R:List PV->PV->Prop)(as:WA):W:=λε Q=>zk i ε/\as ε λxs ε1=>zk i ε1/\pre xs/\∀ y n',R xs y->Q y (ε1.set i (k8 n'))
instance {i:Nat}{as:WA}[sa:jt ta as]:SemW (xz (spD pre R) [] E (qt (qu i) ta)) (Xi i pre R as) where
 h:=λh _ _ _ _ _ _ rd _ k=>by
  obtain ⟨⟨n0,hn0⟩,h⟩:=h;obtain ⟨p,hp,_⟩:=rd.strm_at hn0;refine ⟨_,hp,sa.h h rd λxs ε1 vs Hs1 H1 h1 rd1 g1 r1=>?_⟩;obtain ⟨⟨n,hn⟩,hpre,h2⟩:=h1;obtain ⟨p',hp',hH,hs,_⟩:=rd1.strm_at hn;rw [hp] at hp';injection hp' with hp';injection hp' with hp';injection hp' with hp';subst hp';refine ⟨Hs1,p,n,xs,vs,by rw [yB],rd1.s3,hs,hH,r1,hpre,λy v n' Hs' H' hR x np ep rv=>?_⟩;exact k y _ v Hs' H' (h2 y n' hR) (rd1.drawn hn hp x np ep) (g1.trans x.s1) rv
def xm:WS:=λε N _=>N ε
def wSeq (a b:WS):WS:=λε N R=>a ε (λε1=>b ε1 N R) R
def qb (i:Nat)(a:W):WS:=λε N _=>a ε λx ε1=>N (ε1.set i (.sh x))
def JD (i:Nat)(f:M):WS:=λε N _=>∃ x,f ε=some x/\N (ε.set i (.ow x))
def xf (a:W):WS:=λε _ R=>a ε R
def JA (a:W):WS:=λε N _=>a ε λ_ ε1=>N ε1
def qP (c:WT)(a b:WS):WS:=λε N R=>c ε λk ε1=>if k=true then a ε1 N R else b ε1 N R
def wFz (i:Nat)(a:WS):WS:=λε N R=>a (fz i ε) N R
def Xg (i:Nat)(a:W):WS:=λε N _=>(∃ xs,ε[i]?=some (.ow (.lst xs)))/\a ε λx ε1=>∃ xs,ε1[i]?=some (.ow (.lst xs))/\xs.length<=lim/\N (ε1.set i (.ow (.lst (xs++[x]))))
instance:SemWS Xb xm where
 h:=λh _ _ _ _ _ _ rd _ k _=>k _ _ _ _ h rd (.refl _)
instance {a:WS}[sa:SemWS t a][sb:SemWS u b]:SemWS (tSeq t u) (wSeq a b) where
 h:=λh _ _ _ _ _ _ rd _ k r=>sa.h h rd (λε1 σ1 Hs1 H1 h1 rd1 g1=>sb.h h1 rd1 (λε2 σ2 Hs2 H2 h2 rd2 g2=>k ε2 σ2 Hs2 H2 h2 rd2 (g1.trans g2)) λy ε2 σ2 v Hs2 H2 h2 rd2 g2 rv=>r y ε2 σ2 v Hs2 H2 h2 rd2 (g1.trans g2) rv) r
instance {i:Nat}[sa:SemW te a]:SemWS (xy te (qm (i+1))) (qb (i+1) a) where
 h:=λh _ _ _ _ _ _ rd _ k _=>sa.h h rd λx ε1 v Hs1 H1 h1 rd1 g1 r1=>k _ _ _ _ h1 (rd1.put r1) g1
instance {i:Nat}{f:M}[sa:qI te f]:SemWS (xy te (qm (i+1))) (JD (i+1) f) where
 h:=λ⟨x,e,h⟩ _ _ _ _ _ _ rd _ k _=>sa.h e rd.rs λa Hs1 H1 x1 n n' t=>k _ _ _ _ h ((rd.go x1).putO (.inl (rd.free0 n)) n' t λj y hj z=>by
  obtain ⟨b,hb,_,_,tb⟩:=rd.ow j y hj;rw [z] at hb;injection hb with hb;injection hb with hb;injection hb with hb;subst hb;exact tb.there n) x1.s1
instance [sa:SemW te a]:SemWS (wO te) (xf a) where
 h:=λh _ _ _ _ _ _ rd _ _ r=>sa.h h rd λx ε1 v Hs1 H1 h1 rd1 g1 r1=>r x ε1 _ v Hs1 H1 h1 rd1 g1 r1
instance [sa:SemW te a]:SemWS (qN te) (JA a) where
 h:=λh _ _ _ _ _ _ rd _ k _=>sa.h h rd λx ε1 v Hs1 H1 h1 rd1 g1 r1=>k ε1 _ Hs1 H1 h1 rd1 g1
instance {t:TT}{ta:TS}{c:WT}{a:WS}[sc:zN t c][sa:SemWS ta a][sb:SemWS tb b]:SemWS (wN t ta tb) (qP c a b) where
 h:=λh _ _ _ _ _ _ rd _ k r=>sc.h h rd λc ε1 Hs1 H1 h1 rd1 g1=>by
  cases c with
  |true=>exact qW (sa.h (by simpa using h1) rd1 (λε2 σ2 Hs2 H2 h2 rd2 g2=>k ε2 σ2 Hs2 H2 h2 rd2 (g1.trans g2)) λy ε2 σ2 v Hs2 H2 h2 rd2 g2 rv=>r y ε2 σ2 v Hs2 H2 h2 rd2 (g1.trans g2) rv)
  |false=>exact qV (sb.h (by simpa using h1) rd1 (λε2 σ2 Hs2 H2 h2 rd2 g2=>k ε2 σ2 Hs2 H2 h2 rd2 (g1.trans g2)) λy ε2 σ2 v Hs2 H2 h2 rd2 g2 rv=>r y ε2 σ2 v Hs2 H2 h2 rd2 (g1.trans g2) rv)
instance {i:Nat}{a:WS}[sa:SemWS t a]:SemWS t (wFz (i+1) a) where
 h:=λh _ _ _ _ _ _ rd _ k r=>by
  obtain ⟨Hs',g,rd'⟩:=rd.freeze i;exact sa.h h rd' (λε2 σ2 Hs2 H2 h2 rd2 g2=>k ε2 σ2 Hs2 H2 h2 rd2 (g.trans g2)) λy ε2 σ2 v Hs2 H2 h2 rd2 g2 rv=>r y ε2 σ2 v Hs2 H2 h2 rd2 (g.trans g2) rv
instance {i:Nat}[sa:SemW te a]:SemWS (qN (tBM K "list" QV (qu i) (qt te xl))) (Xg i a) where
 h:=λh _ _ _ _ _ _ rd _ k _=>by
  obtain ⟨⟨xs0,hx0⟩,h⟩:=h;obtain ⟨p,hp,n0,n,vs,hv,rv⟩:=rd.ow i _ hx0;refine ⟨_,hp,.inl ⟨rfl,vs,SqL.of hv⟩,sa.h h rd λx ε1 v Hs1 H1 h1 rd1 g1 r1=>?_⟩;obtain ⟨xs,hx,hl,h2⟩:=h1;obtain ⟨p',hp',_,n1,ws,hw,rw⟩:=rd1.ow i _ hx;rw [hp] at hp';injection hp' with hp';injection hp' with hp';injection hp' with hp';subst hp';exact ⟨p,ws,v,rfl,rfl,hw,Qw (by rw [rw.length];exact hl),k _ _ _ _ h2 (rd1.change hx hp ⟨_,u3,rw.append (.one r1)⟩) g1⟩
class SemWI (ti:TI)(w:WA):Prop where
 h:∀{ε Q'},w ε Q'->∀{S Hs0 H0 Hs H U},RD S Hs0 H0 Hs H U ε->∀{R:It->Hp->Prop},(∀ xs ε' J Hs' H',Q' xs ε'->RD S Hs0 H0 Hs' H' U ε'->Same Hs Hs'->jr J xs Hs'->R J H')->ti U H R
def wIp (f:MA):WA:=λε Q=>∃ xs,f ε=some xs/\Q xs ε
instance (priority:=50){ti:TI}{f:MA}[s:zn ti f]:SemWI ti (wIp f) where
 h:=λ⟨xs,e,q⟩ _ _ _ _ _ _ r _ k=>s.h e r.rs λJ Hs' H' x ok=>k xs _ J Hs' H' q (r.go x) x.s1 ok
def JC (a:W):WA:=λε Q=>a ε λx ε1=>∃ j:Int,x = .at (.int j)/\-(lim:Int)<=j/\j<=lim/\Q (qz 0 j.toNat) ε1
instance [sa:SemW te a]:SemWI (XL (qt te xl)) (JC a) where
 h:=λh _ _ _ _ _ _ rd _ k=>sa.h h rd λx ε1 v Hs1 H1 h1 rd1 g1 r1=>by
  obtain ⟨j,rfl,h2,h3,h4⟩:=h1;cases rep_at.mp r1;have hlim:(lim:Int)=1000000:=rfl;exact ⟨j,rfl,by omega,by omega,k _ ε1 _ Hs1 H1 h4 rd1 g1 Wr⟩
class SemWG (tg:TG)(g:MG):Prop where
 h:∀{x ε ε'},g x ε=some ε'->∀{S Hs0 H0 Hs H U v},RD S Hs0 H0 Hs H U ε->Rep Hs x v->∀{Q:St->Hp->Prop},(∀ σ',RD S Hs0 H0 Hs H σ' ε'->Q σ' H)->tg v U H Q
instance {i:Nat}:SemWG (qm (i+1)) (v6 (i+1)) where
 h:=λe _ _ _ _ _ _ _ rd r _ q=>by cases e;exact q _ (rd.put r)
def wV (g:MG)(f:WS):List PV->WS
 |[]=>λε N _=>N ε
 |x::xs=>λε N R=>∃ ε1,g x ε=some ε1/\f ε1 (λε2=>wV g f xs ε2 N R) R
def wFor (it:WA)(g:MG)(f:WS):WS:=λε N R=>it ε λxs ε1=>wV g f xs ε1 N R
theorem RD.rebase (r:RD S Hs0 H0 Hs H U ε):RD S Hs H0 Hs H U ε :=
 ⟨.refl _,r.s2,r.s3,λ_ _ z=>z,r.sh,r.ow,r.nd,r.len,r.pin,r.live,r.str,r.nb⟩
theorem RD.unbase {Hb Hx:Hp}(b:RD S Hs0 H0 Hb Hx U ε)(r:RD S Hb H0 Hs H σ' ε'):RD S Hs0 H0 Hs H σ' ε' :=
 ⟨b.s1.trans r.s1,r.s2,r.s3,λc h z=>r.s4 c h (b.s4 c h z),r.sh,r.ow,r.nd,r.len,r.pin,r.live,r.str,r.nb⟩
instance {f:WS}[si:SemWI wi it][sg:SemWG tg g][sf:SemWS tb f]:SemWS (tFor wi tg tb) (wFor it g f) where
 h:=λ{ε N R} h S Hs0 H0 _ _ _ rd D k rt=>si.h h rd λxs ε1 J Hs1 H1 h1 rd1 g1 ok=>by
  refine ⟨λn m U H=>m=xs.length-n/\n<=xs.length/\∃ Hs ε,RD S Hs1 H0 Hs H U ε/\wV g f (xs.drop n) ε N R,⟨xs.length,by simp,yi _,Hs1,ε1,rd1.rebase,h1⟩,?_⟩;rintro n m U H ⟨rfl,hn,Hs,ε2,r2,h2⟩;by_cases hlt:n<xs.length
  ·have hd:xs.drop n=xs[n]::xs.drop (n+1):=uZ hlt;rw [hd] at h2;obtain ⟨ε3,e3,h3⟩:=h2;obtain ⟨go,yl⟩:=ok.go n xs[n] Hs H (by simp [hlt]) r2.s1 r2.s3;refine .inr ⟨go,λσ' H'=>n+1<=xs.length/\∃ Hs ε,RD S Hs1 H0 Hs H' σ' ε/\wV g f (xs.drop (n+1)) ε N R,λσ' H' p=>⟨xs.length-(n+1),by omega,rfl,p.1,p.2⟩,λv H3 y=>?_⟩;obtain ⟨Hs3,x3,r3⟩:=yl v H3 y;refine sg.h e3 (r2.go x3) r3 λσ4 rd4=>sf.h h3 rd4 (λε5 σ5 Hs5 H5 h5 rd5 g5=>⟨hlt,Hs5,ε5,rd5,h5⟩) λy ε5 σ5 v Hs5 H5 h5 rd5 g5 rv=>rt y ε5 σ5 v Hs5 H5 h5 (rd1.unbase rd5) (g1.trans rd5.s1) rv
  ·have en:n=xs.length:=by omega
   subst en;rw [uM] at h2;exact .inl ⟨ok.stop Hs H r2.s1 r2.s3,k _ _ _ _ h2 (rd1.unbase r2) (g1.trans r2.s1)⟩
def qa:List (Option Nat)->ME->ME->ME
 |some i::cap,s::ε2,ε1=>(qa cap ε2 ε1).set i s
 |none::cap,_::ε2,ε1=>qa cap ε2 ε1
 |_,_,ε1=>ε1
theorem wR:∀(cap:List (Option Nat))(ε2 ε1:ME),(qa cap ε2 ε1).length=ε1.length
 |some i::cap,s::ε2,ε1=>by unfold qa;rw [yt,wR]
 |none::cap,_::ε2,ε1=>by unfold qa;exact wR cap ε2 ε1
 |[],_,_=>rfl
 |some _::_,[],_=>rfl
 |none::_,[],_=>rfl
theorem Jo:∀(cap:List (Option Nat))(ε2 ε1:ME)(i:Nat),some i∉cap->(qa cap ε2 ε1)[i]?=ε1[i]?
 |some k::cap,s::ε2,ε1,i,h=>by
  unfold qa;rw [yH (λz=>h (by rw [z];exact yV))];exact Jo cap ε2 ε1 i λz=>h (yW _ z)
 |none::cap,_::ε2,ε1,i,h=>by unfold qa;exact Jo cap ε2 ε1 i λz=>h (yW _ z)
 |[],_,_,_,_=>rfl
 |some _::_,[],_,_,_=>rfl
 |none::_,[],_,_,_=>rfl
theorem Jn:∀(cap:List (Option Nat))(ε2 ε1:ME)(i:Nat),cap.length=ε2.length->some i∈cap->i<ε1.length->(cap.filterMap id).Nodup->∃ j:Nat,cap[j]?=some (some i)/\(qa cap ε2 ε1)[i]?=ε2[j]?
 |some k::cap,s::ε2,ε1,i,hl,h,hi,nd=>by
  rw [List.filterMap_cons_some (by rfl)] at nd;by_cases e:k=i
  ·subst e;refine ⟨0,rfl,?_⟩;unfold qa;rw [uP (by rw [wR];exact hi)];rfl
  ·obtain ⟨j,h1,h2⟩:=Jn cap ε2 ε1 i (by simpa using hl) (by rcases yK.mp h with z|z;exact absurd (Option.some.inj z).symm e;exact z) hi (yu.mp nd).2;refine ⟨j+1,by simpa using h1,?_⟩;unfold qa;rw [yH e];simpa using h2
 |none::cap,s::ε2,ε1,i,hl,h,hi,nd=>by
  rw [List.filterMap_cons_none (by rfl)] at nd;obtain ⟨j,h1,h2⟩:=Jn cap ε2 ε1 i (by simpa using hl) (by rcases yK.mp h with z|z;exact nomatch z;exact z) hi nd;exact ⟨j+1,by simpa using h1,by unfold qa;simpa using h2⟩
 |[],_,_,_,_,h,_,_=>nomatch h
 |some _::_,[],_,_,hl,_,_,_=>by simp at hl
 |none::_,[],_,_,hl,_,_,_=>by simp at hl
def rst:List Nat->ME->ME
 |[],ε=>ε
 |t::ts,ε=>(rst ts ε).set t .no
theorem YE:∀(ts:List Nat)(ε:ME),(rst ts ε).length=ε.length
 |[],_=>rfl
 |t::ts,ε=>by unfold rst;rw [yt,YE]
theorem YD:∀(ts:List Nat)(ε:ME)(i:Nat)(s:MSlot),(rst ts ε)[i]?=some s->s = .no∨(i∉ts/\ε[i]?=some s)
 |[],_,_,_,h=> .inr ⟨yg,h⟩
 |t::ts,ε,i,s,h=>by
  unfold rst at h;rw [yN] at h;split at h
  ·split at h
   ·cases h;exact .inl rfl
   ·cases h
  ·rename_i hne;rcases YD ts ε i s h with z|⟨z1,z2⟩
   ·exact .inl z
   ·exact .inr ⟨λm=>by rcases yK.mp m with m|m;exact hne m.symm;exact z1 m,z2⟩
theorem RD.reset (r:RD [] Hs0 H0 Hs H σ' ε)(b:But ts U σ'):RD [] Hs0 H0 Hs H U (rst ts ε):=by
 have at1:∀(i:Nat)(s:MSlot),(rst ts ε)[i]?=some s->s = .no∨(σ'[i]?=U[i]?/\ε[i]?=some s):=λi s h=>by
  rcases YD ts ε i s h with z|⟨z1,z2⟩
  ·exact .inl z
  ·exact .inr ⟨b.2 i z1,z2⟩
 refine ⟨r.s1,r.s2,r.s3,r.s4,λi x h=>?_,λi x h=>?_,λi j x y a h1 h2 h3 h4=>?_,by rw [YE,<- r.len,b.1],(λ_ z=>nomatch z),(λ_ z=>nomatch z),(λ_ z=>nomatch z),λi x h=>by
  rcases at1 i _ h with z|⟨_,z2⟩
  ·cases z
  ·exact r.nb i x z2⟩
 ·rcases at1 i _ h with z|⟨z1,z2⟩
  ·cases z
  ·rw [<- z1];exact r.sh i x z2
 ·rcases at1 i _ h with z|⟨z1,z2⟩
  ·cases z
  ·rw [<- z1];exact r.ow i x z2
 ·rcases at1 i _ h1 with z|⟨z1,z2⟩
  ·cases z
  ·rcases at1 j _ h2 with w|⟨w1,w2⟩
   ·cases w
   ·exact r.nd i j x y a z2 w2 (z1.trans h3) (w1.trans h4)
class JJ (tg:TG)(ts:outParam (List Nat))(g:MG):Prop where
 h:∀{x ε ε'},g x ε=some ε'->∀{Hs0 H0 Hs H U v},RD [] Hs0 H0 Hs H U ε->Rep Hs x v->∀{Q:St->Hp->Prop},(∀ σ',RD [] Hs0 H0 Hs H σ' ε'->But ts U σ'->Q σ' H)->tg v U H Q
theorem RD.put0 (r:RD [] Hs0 H0 Hs H U ε){i:Nat}(h:Rep Hs x v):RD [] Hs0 H0 Hs H (U.set i (some v)) (ε.set i (.sh x)):=by
 have q:=(r.rs).put (i:=i) h;refine ⟨r.s1,r.s2,r.s3,r.s4,q.sh,λj z hz=>?_,q.nd,q.len,(λ_ z=>nomatch z),(λ_ z=>nomatch z),(λ_ z=>nomatch z),vt r.nb λ_ z=>nomatch z⟩;obtain ⟨c,hc,m1,m2,tc⟩:=q.ow j z hz;refine ⟨c,hc,?_,m2,tc⟩;rw [yN] at hz hc;split at hz
 ·split at hz<;>cases hz
 ·rename_i hij;rw [if_neg hij] at hc;obtain ⟨d,hd,m0,_⟩:=r.ow j z hz;rw [hd] at hc;injection hc with hc;injection hc with hc;injection hc with hc;rw [<- hc];exact m0
instance {i:Nat}:JJ (qm i) [i] (v6 i) where
 h:=λe _ _ _ _ _ _ rd r _ q=>by
  cases e;exact q _ (rd.put0 r) ⟨yt,λj hj=>yH λz=>hj (by rw [<- z];exact yO.mpr rfl)⟩
def jp (g:MG)(c:WT)(f:W)(ts:List Nat):List PV->List PV->ME->(List PV->ME->Prop)->Prop
 |[],ys,ε,Q=>Q ys ε
 |x::xs,ys,ε,Q=>∃ ε1,g x ε=some ε1/\c ε1 λb ε2=>if b=true then f ε2 λy ε3=>jp g c f ts xs (ys++[y]) (rst ts ε3) Q else jp g c f ts xs ys (rst ts ε2) Q
def wW:WT:=λε Q=>Q true ε
instance:zN tYes wW where
 h:=λh _ _ _ _ _ _ rd _ k=>k true _ _ _ h rd (.refl _)
def Xh (cap:List (Option Nat))(ts:List Nat)(it:WA)(g:MG)(c:WT)(f:W):W:=λε Q=>it ε λxs ε1=>xD cap ts=true/\xs.length<=lim /\
 jp g c f ts xs [] (p9 cap ε1) λys ε2=>((∃ y:PV,ε1[0]?=some (MSlot.ow y))->∃ y:PV,(qa cap ε2 ε1)[0]?=some (MSlot.ow y))/\Q (.lst ys) (qa cap ε2 ε1)
noncomputable def xq (U:St)(ε:ME)(H:Hp):Hp:=λb=>open Classical in if ∃(i:Nat)(x:PV),ε[i]?=some (MSlot.ow x)/\U[i]?=some (some (V.ref b)) then none else H b
theorem XW {b:Addr}(h:xq U ε H b=some o):H b=some o/\∀(i:Nat)(x:PV),ε[i]?=some (MSlot.ow x)->U[i]?≠some (some (V.ref b)):=by
 unfold xq at h;split at h
 ·cases h
 ·rename_i hn;exact ⟨h,λi x h1 h2=>hn ⟨i,x,h1,h2⟩⟩
theorem WC {b:Addr}(h:xq U ε H b=none):H b=none∨∃(i:Nat)(x:PV),ε[i]?=some (MSlot.ow x)/\U[i]?=some (some (V.ref b)):=by
 unfold xq at h;split at h
 ·rename_i hn;exact .inr hn
 ·exact .inl h
theorem Gg {cap:List (Option Nat)}(nb:∀(i:Nat)(x:PV),ε[i]?≠some (.bo x)):∀(i:Nat)(x:PV),(p9 cap ε)[i]?≠some (.bo x):=λi x h=>by
 unfold p9 at h;rw [yQ] at h;cases ho:cap[i]? with
 |none=>rw [ho] at h;cases h
 |some o =>
  rw [ho] at h;cases o with
  |none=>cases h
  |some k =>
   cases hk:ε[k]? with
   |none=>simp only [uU,hk,Option.getD_none] at h;cases h
   |some s=>simp only [uU,hk,Option.getD_some] at h;cases h;exact nb k x hk
theorem RD.block {cap:List (Option Nat)}(hc:(cap.filterMap id).Nodup)(r:RD S Hs0 H0 Hs H U ε):RD [] Hs (xq (u8 cap U) (p9 cap ε) H) Hs H (u8 cap U) (p9 cap ε):=by have q:=(r.rs).cap hc;refine ⟨.refl _,λb o e _=>(XW e).1,r.s3,λ_ _ z=>z,q.sh,λi x h=>?_,q.nd,q.len,(λ_ z=>nomatch z),(λ_ z=>nomatch z),(λ_ z=>nomatch z),Gg r.nb⟩;obtain ⟨a,h1,h2,h3,h4⟩:=q.ow i x h;refine ⟨a,h1,.inl ?_,h3,h4⟩;unfold xq;rw [if_pos ⟨i,x,h,h1⟩]
theorem zQ {cap:List (Option Nat)}{i k:Nat}(h:cap[i]?=some (some k))(e:(u8 cap U)[i]?=some (some v)):U[k]?=some (some v):=by
 unfold u8 at e;rw [yQ,h] at e;simp only [uU,yM,Option.some.injEq] at e;cases hs:U[k]? with
 |none=>rw [hs] at e;cases e
 |some o=>rw [hs] at e;simp at e;rw [e]
theorem VN {cap:List (Option Nat)}{i:Nat}(h:(p9 cap ε)[i]?=some (.ow x)):∃ k:Nat,cap[i]?=some (some k)/\ε[k]?=some (.ow x):=by
 unfold p9 at h;rw [yQ] at h;cases ho:cap[i]? with
 |none=>rw [ho] at h;cases h
 |some o =>
  rw [ho] at h;cases o with
  |none=>cases h
  |some k =>
   cases hk:ε[k]? with
   |none=>simp only [uU,hk,Option.getD_none] at h;cases h
   |some s=>simp only [uU,hk,Option.getD_some] at h;cases h;exact ⟨k,rfl,hk⟩
theorem RD.unblock {Hs1 H1 Hs2 H2:Hp}{ε1 ε2:ME}{cap:List (Option Nat)}(hc:(cap.filterMap id).Nodup)(r:RD S Hs0 H0 Hs1 H1 U ε1)(q:RD [] Hs1 (xq (u8 cap U) (p9 cap ε1) H1) Hs2 H2 (u8 cap U) ε2)(st:(∃ y,ε1[0]?=some (.ow y))->∃ y,(qa cap ε2 ε1)[0]?=some (.ow y)):RD S Hs0 H0 Hs2 H2 U (qa cap ε2 ε1):=by
 have hl:cap.length=ε2.length:=by rw [<- q.len];unfold u8;rw [yZ]
 have at1:∀(i:Nat)(s:MSlot),(qa cap ε2 ε1)[i]?=some s->(some i∉cap/\ε1[i]?=some s)∨∃ j:Nat,cap[j]?=some (some i)/\ε2[j]?=some s:=λi s h=>by
  by_cases hi:some i∈cap
  ·have hlt:i<ε1.length:=by have:=(yq.mp h).1;rwa [wR] at this
   obtain ⟨j,h1,h2⟩:=Jn cap ε2 ε1 i hl hi hlt hc;exact .inr ⟨j,h1,h2▸h⟩
  ·exact .inl ⟨hi,Jo cap ε2 ε1 i hi▸h⟩
 have own0:∀ a,xq (u8 cap U) (p9 cap ε1) H1 a=none->H0 a=none∨a∈S:=λa h=>by
  rcases WC h with h|⟨i,x,h1,h2⟩
  ·exact .inl (r.free0 h)
  ·obtain ⟨k,hk,hx⟩:=VN h1;obtain ⟨c,hc',m0,_⟩:=r.ow k x hx;rw [zQ hk h2] at hc';injection hc' with hc';injection hc' with hc';injection hc' with hc';rw [hc'];exact m0
 have keep:∀(k:Nat)(x:PV)(a:Addr),some k∉cap->ε1[k]?=some (.ow x)->U[k]?=some (some (.ref a))->∀ o,H1 a=some o->xq (u8 cap U) (p9 cap ε1) H1 a=some o:=λk x a hk hx ha o ho=>by
  cases z:xq (u8 cap U) (p9 cap ε1) H1 a with
  |some u=>rw [<- ho,(XW z).1]
  |none =>
   rcases WC z with z|⟨i,y,h1,h2⟩
   ·rw [z] at ho;cases ho
   ·obtain ⟨m,hm,hy⟩:=VN h1;have:=r.nd k m x y a hx hy ha (zQ hm h2);subst this;exact absurd (List.mem_of_getElem? hm) hk
 have ow':∀(i:Nat)(x:PV),(qa cap ε2 ε1)[i]?=some (.ow x)->∃ a,U[i]?=some (some (.ref a))/\(H0 a=none∨a∈S)/\Hs2 a=none/\Top Hs2 H2 a x:=λi x h=>by
  rcases at1 i _ h with ⟨hi,e⟩|⟨j,hj,e⟩
  ·obtain ⟨a,ha,m0,m1,t⟩:=r.ow i x e;refine ⟨a,ha,m0,?_,t.mono q.s1 λo ho=>q.s2 a o (keep i x a hi e ha o ho) yg⟩;cases z:H1 a with
   |none=>exact absurd z t.there
   |some o=>exact q.s4 a (by rw [keep i x a hi e ha o z];exact λw=>nomatch w) m1
  ·obtain ⟨a,ha,m0,m1,t⟩:=q.ow j x e;exact ⟨a,zQ hj ha,own0 a (m0.resolve_right yg),m1,t⟩
 have str':∀ a∈S,∃ y,(qa cap ε2 ε1)[0]?=some (.ow y):=λa hS=>st (r.str a hS);refine ⟨r.s1.trans q.s1,λb o e hS=>?_,q.s3,λb h z=>?_,λi x h=>?_,ow',λi j x y a h1 h2 h3 h4=>?_,by rw [wR];exact r.len,r.pin,λb hS=>?_,str',λi x h=>by
  rcases at1 i _ h with ⟨_,e⟩|⟨j,_,e⟩
  ·exact r.nb i x e
  ·exact q.nb j x e⟩
 ·have e1:=r.s2 b o e hS;refine q.s2 b o ?_ yg;cases z:xq (u8 cap U) (p9 cap ε1) H1 b with
  |some u=>rw [<- e1,(XW z).1]
  |none =>
   rcases own0 b z with w|w
   ·rw [w] at e;cases e
   ·exact absurd w hS
 ·have z1:=r.s4 b h z;by_cases hL:xq (u8 cap U) (p9 cap ε1) H1 b=none
  ·rcases own0 b hL with w|w
   ·exact absurd w h
   ·obtain ⟨y,hy⟩:=str' b w;obtain ⟨a,ha,_,m1,_⟩:=ow' 0 y hy;rw [r.pin b w] at ha;injection ha with ha;injection ha with ha;injection ha with ha;rw [ha];exact m1
  ·exact q.s4 b hL z1
 ·rcases at1 i _ h with ⟨hi,e⟩|⟨j,hj,e⟩
  ·obtain ⟨v,hv,rv⟩:=r.sh i x e;exact ⟨v,hv,rv.mono q.s1⟩
  ·obtain ⟨v,hv,rv⟩:=q.sh j x e;exact ⟨v,zQ hj hv,rv⟩
 ·rcases at1 i _ h1 with ⟨hi,e⟩|⟨k,hk,e⟩
  ·rcases at1 j _ h2 with ⟨hj,e'⟩|⟨l,hl',e'⟩
   ·exact r.nd i j x y a e e' h3 h4
   ·-- one of the block's own,one that it does not see
    obtain ⟨a',ha',m0,_,_⟩:=q.ow l y e';have ea:=zQ hl' ha';rw [h4] at ea;injection ea with ea;injection ea with ea;injection ea with ea;subst ea;obtain ⟨c,hc1,_,_,t⟩:=r.ow i x e;rw [h3] at hc1;injection hc1 with hc1;injection hc1 with hc1;injection hc1 with hc1;subst hc1;cases z:H1 a with
    |none=>exact absurd z t.there
    |some o=>have w:=keep i x a hi e h3 o z;rw [m0.resolve_right yg] at w;cases w
  ·rcases at1 j _ h2 with ⟨hj,e'⟩|⟨l,hl',e'⟩
   ·obtain ⟨a',ha',m0,_,_⟩:=q.ow k x e;have ea:=zQ hk ha';rw [h3] at ea;injection ea with ea;injection ea with ea;injection ea with ea;subst ea;obtain ⟨c,hc1,_,_,t⟩:=r.ow j y e';rw [h4] at hc1;injection hc1 with hc1;injection hc1 with hc1;injection hc1 with hc1;subst hc1;cases z:H1 a with
    |none=>exact absurd z t.there
    |some o=>have w:=keep j y a hj e' h4 o z;rw [m0.resolve_right yg] at w;cases w
   ·obtain ⟨a1,ha1,_⟩:=q.ow k x e;obtain ⟨a2,ha2,_⟩:=q.ow l y e';have e1:=zQ hk ha1;have e2:=zQ hl' ha2;rw [h3] at e1;rw [h4] at e2;injection e1 with e1;injection e1 with e1;injection e1 with e1;injection e2 with e2;injection e2 with e2;injection e2 with e2;subst e1;subst e2;have kl:=q.nd k l x y a e e' ha1 ha2;subst kl;rw [hk] at hl';injection hl' with hl';injection hl' with hl'
 ·obtain ⟨y,hy⟩:=str' b hS;obtain ⟨a,ha,_,_,t⟩:=ow' 0 y hy;rw [r.pin b hS] at ha;injection ha with ha;injection ha with ha;injection ha with ha;rw [ha];exact t.there
instance {cap:List (Option Nat)}{c:WT}{f:W}[si:SemWI wi it][sg:JJ tg ts g][sc:zN tt c][sf:SemW te f]:SemW (vK wi tg tt te cap) (Xh cap ts it g c f) where
 h:=λ{ε Q'} h S Hs0 H0 Hs H U rd Q k=>si.h h rd λxs ε1 J Hs1 H1 h1 rd1 g1 ok=>by
  obtain ⟨hcap,hl,h1⟩:=h1;unfold xD at hcap;rw [yp] at hcap;have hnd:=yd hcap.1;have wk:∀ i∈ts,(u8 cap U)[i]?=some none:=λi hi=>by
   unfold u8;rw [yQ,yd (ya.mp hcap.2 i hi)];rfl
  refine ⟨λn m zs H=>m=xs.length-n/\n<=xs.length/\∃ Hs2 ws ε2,RD [] Hs1 (xq (u8 cap U) (p9 cap ε1) H1) Hs2 H (u8 cap U) ε2/\Reps Hs2 ws zs/\ws.length<=n /\
    jp g c f ts (xs.drop n) ws ε2 (λys ε3=>((∃ y:PV,ε1[0]?=some (MSlot.ow y))->∃ y:PV,(qa cap ε3 ε1)[0]?=some (MSlot.ow y))/\Q' (PV.lst ys) (qa cap ε3 ε1)),
   ⟨xs.length,by simp,yi _,Hs1,[],_,rd1.block hnd,.nil,yS _,h1⟩,?_⟩
  rintro n m zs H2 ⟨rfl,hn,Hs2,ws,ε2,r2,rz,hw,h2⟩;refine ⟨qX (by rw [rz.length];omega),?_⟩;by_cases hlt:n<xs.length
  ·have hd:xs.drop n=xs[n]::xs.drop (n+1):=uZ hlt;rw [hd] at h2;obtain ⟨ε3,e3,h3⟩:=h2;obtain ⟨go,yl⟩:=ok.go n xs[n] Hs2 H2 (by simp [hlt]) r2.s1 r2.s3;refine .inr ⟨go,λv H3 y=>?_⟩;obtain ⟨Hs3,x3,r3⟩:=yl v H3 y;refine sg.h e3 (r2.go x3) r3 λσ4 rd4 bt=>⟨bt.wk wk,sc.h h3 rd4 λb ε5 Hs5 H5 h5 rd5 g5=>?_⟩;cases b with
   |true=>refine qW (sf.h (by simpa using h5) rd5 λy ε6 u Hs6 H6 h6 rd6 g6 ru=>⟨xs.length-(n+1),by omega,rfl,hlt,Hs6,ws++[y],_,rd6.reset bt,?_,by rw [yF];simp;omega,h6⟩);exact (rz.mono (x3.s1.trans (g5.trans g6))).snoc ru
   |false=>exact qV ⟨xs.length-(n+1),by omega,rfl,hlt,Hs5,ws,_,rd5.reset bt,rz.mono (x3.s1.trans g5),by omega,by simpa using h5⟩
  ·have en:n=xs.length:=by omega
   subst en;rw [uM] at h2;refine .inl ⟨ok.stop Hs2 H2 r2.s1 r2.s3,λD hD=>?_⟩;have rd2:=rd1.unblock hnd r2 h2.1;exact k _ _ _ _ _ h2.2 (rd2.go (.new rd2.s3 hD)) (g1.trans (r2.s1.trans (Ext.new rd2.s3 hD).s1)) (rep_lst.mpr ⟨D,zs,rfl,u3,rz.mono (Ext.new rd2.s3 hD).s1⟩)
section
variable {P:Program}{w:World}{K:Fg}{mg:Str->Option Value}{base:Heap}
theorem jN {i:Nat}:(xs.map MSlot.sh++List.replicate n .no)[i]?≠some (.ow x):=λh=>by
 by_cases hi:i<xs.length
 ·rw [yf (by rw [yZ];exact hi),yQ] at h;obtain ⟨y,_,z⟩:=yG.mp h;cases z
 ·rw [uX (by rw [yZ];omega),uS] at h;split at h<;>cases h
theorem Zv {i:Nat}:(xs.map MSlot.sh++List.replicate n .no)[i]?≠some (.bo x):=λh=>by
 by_cases hi:i<xs.length
 ·rw [yf (by rw [yZ];exact hi),yQ] at h;obtain ⟨y,_,z⟩:=yG.mp h;cases z
 ·rw [uX (by rw [yZ];omega),uS] at h;split at h<;>cases h
theorem Cn {a:Addr}{n:Int}(s:Same Hs H)(ha:Hs a=none)(hH:H a=some (.lst [.int n]))(r:Reps Hs xs ws):RD [a] Hs H Hs H (L2.start N (.ref a::ws)) (k8 n::xs.map .sh++List.replicate (N.length-(xs.length+1)) .no):=by
 have q:=jO (N:=N) (xs:= .at (.ref a)::xs) s (.cons (rep_at.mpr rfl) r);have tl:∀(i:Nat)(sl:MSlot),(k8 n::xs.map .sh++List.replicate (N.length-(xs.length+1)) .no)[i+1]?=some sl->((PV.at (.ref a)::xs).map MSlot.sh++List.replicate (N.length-(PV.at (.ref a)::xs).length) .no)[i+1]?=some sl:=λi sl h=>h;refine ⟨.refl _,λb o e _=>e,s,λ_ _ z=>z,λi x h=>?_,λi x h=>?_,λi j x y b h1 h2 _ _=>?_,?_,λb hb=>?_,λb hb=>?_,(λb hb=>⟨_,rfl⟩),λi x h=>by
  cases i with
  |zero=>unfold k8 at h;simp at h
  |succ i=>exact Zv (xs:=PV.at (.ref a)::xs) (tl i _ h)⟩
 ·cases i with
  |zero=>unfold k8 at h;simp at h
  |succ i=>exact q.sh (i+1) x (tl i _ h)
 ·cases i with
  |zero=>unfold k8 at h;simp at h;subst h;refine ⟨a,?_,.inr (yO.mpr rfl),ha,_,hH,.one (rep_at.mpr rfl)⟩;unfold L2.start;rfl
  |succ i =>
   obtain ⟨c,h1,_⟩:=q.ow (i+1) x (tl i _ h);exact absurd (tl i _ h) λz=>by
    have:=jN (i:=i+1) (x:=x) (xs:=PV.at (.ref a)::xs) (n:=N.length-(PV.at (.ref a)::xs).length);exact this z
 ·cases i with
  |zero =>
   cases j with
   |zero=>rfl
   |succ j=>exact absurd (tl j _ h2) (jN (xs:=PV.at (.ref a)::xs))
  |succ i=>exact absurd (tl i _ h1) (jN (xs:=PV.at (.ref a)::xs))
 ·exact q.len
 ·rw [yO.mp hb];unfold L2.start;rfl
 ·rw [yO.mp hb,hH];exact λz=>nomatch z
theorem okD {x:Str}{f:Addr}{k:Nat}(F:Fun K x qual st f fd)(S:w5 N ps (j5 st))(hpre:∀ xs,pre xs->xs.length+1=ps.length)(hb:∀(cdv:Value)(A:Around)(outer:List Env)(s:Shared)(H:Hp)(E:XK),Room k (A.deeper (PyProof.Rows.envOfC qual (j5 st) s.heap.objs.size f cdv)) -> ∃ t,PSs (ql v3 P w K mg base N qual (j5 st) f cdv A outer s H E).nox (i0 st) t/\SemWS t b)(hw:∀ xs n,pre xs->b (k8 n::xs.map .sh++List.replicate (N.length-(xs.length+1)) .no) (λ_=>False) λy ε=>R xs y/\zk 0 ε):FnOk P w K mg base v3 (k+1) f fd ps (spD pre R):=by
 refine F.ok S (λvs H Q E h=>?_) (λcdv A outer s H vs Q E hr h=>?_)
 ·obtain ⟨Hs,a,n,xs,ws,rfl,_,_,_,r,hp,_⟩:=h;rw [yx,r.length];exact hpre xs hp
 ·obtain ⟨Hs,a,n,xs,ws,rfl,sm,ha,hH,r,hp,q⟩:=h;obtain ⟨t,ht,sem⟩:=hb cdv A outer s H E hr;refine ⟨t,ht,sem.h (hw xs n hp) (Cn sm ha hH r) (λε U Hs' H' z _ _=>z.elim) λy ε U v Hs' H' hR rd g rv=>?_⟩;obtain ⟨hR,n',hn'⟩:=hR;obtain ⟨a',ha',hH',hs',_⟩:=rd.strm_at hn';rw [rd.pin a (yO.mpr rfl)] at ha';injection ha' with ha';injection ha' with ha';injection ha' with ha';subst ha';refine q y v n' Hs' H' hR ⟨g,λb o e hb=>rd.s2 b o e λz=>hb (yO.mp z),rd.s3,λb h z=>rd.s4 b h z⟩ hs' hH' rv
end
def spN (pre:List PV->Prop)(R:List PV->PV->Prop):Sp:=λvs H Q _=>∃ Hs xs,Same Hs H/\Reps Hs xs vs/\pre xs/\∀ y a Hs' H',R xs y->Ext Hs H Hs' H'->H a=none->Hs' a=none->Top Hs' H' a y->Q (.ref a) H'
def spV (pre:List PV->Prop)(R:List PV->PV->Prop):Sp:=λvs H Q _=>∃ Hs xs,Same Hs H/\Reps Hs xs vs/\pre xs/\∀ y v Hs' H',R xs y->Ext Hs H Hs' H'->Rep Hs' y v->Q v H'
def Ur (i:Nat)(pre:List PV->Prop)(R:List PV->PV->Prop)(as:WA):WS:=λε N _=>as ε λxs ε1=>pre xs/\∀ y,R xs y->N (ε1.set i (.ow y))
instance {i:Nat}{as:WA}[sa:jt ta as]:SemWS (xy (xz (spN pre R) [] E ta) (qm (i+1))) (Ur (i+1) pre R as) where
 h:=λh _ _ _ _ _ _ rd _ k _=>sa.h h rd λxs ε1 vs Hs1 H1 h1 rd1 g1 r1=>by
  refine ⟨Hs1,xs,rd1.s3,by rw [yB];exact r1,h1.1,λy a Hs' H' hR x n n' t=>?_⟩;refine k _ _ _ _ (h1.2 y hR) ((rd1.go x).putO (.inl (rd1.free0 n)) n' t λj z hj e=>?_) (g1.trans x.s1);obtain ⟨b,hb,_,_,tb⟩:=rd1.ow j z hj;rw [e] at hb;injection hb with hb;injection hb with hb;injection hb with hb;subst hb;exact tb.there n
def Up (pre:List PV->Prop)(R:List PV->PV->Prop)(as:WA):W:=λε Q=>as ε λxs ε1=>pre xs/\∀ y,R xs y->Q y ε1
instance {as:WA}[sa:jt ta as]:SemW (xz (spV pre R) [] E ta) (Up pre R as) where
 h:=λh _ _ _ _ _ _ rd _ k=>sa.h h rd λxs ε1 vs Hs1 H1 h1 rd1 g1 r1 =>
  ⟨Hs1,xs,rd1.s3,by rw [yB];exact r1,h1.1,λy v Hs' H' hR x rv=>k y ε1 v Hs' H' (h1.2 y hR) (rd1.go x) (g1.trans x.s1) rv⟩
def vO (pre0:List PV->Prop)(R0:List PV->PV->Prop)(a0:MA)(pre:List PV->Prop)(R:List PV->PV->Prop)(as:MA):W:=λε Q=>∃ xs0 xs,a0 ε=some xs0/\as ε=some xs/\pre0 xs0/\(∀ y,R0 xs0 y->∃ n,y = .lst [.at (.int n)])/\pre xs/\∀ y,R xs y->Q y ε
instance {t0:TA}{E':XK}[s0:i5 t0 a0][sa:i5 ta as]:SemW (xz (spD pre R) [] E (qt (xz (spN pre0 R0) [] E' t0) ta)) (vO pre0 R0 a0 pre R as) where
 h:=λ{ε Q'} hh S Hs0 H0 Hs H U rd Q k=>by
  obtain ⟨xs0,xs,e0,e1,hp0,hR0,hp,h⟩:=hh;refine s0.h e0 rd.rs λvs0 Hs1 H1 x1 r1=>?_;refine ⟨Hs1,xs0,x1.s3,by rw [yB];exact r1,hp0,λy a Hs2 H2 hR x2 n n' t=>?_⟩;obtain ⟨m,rfl⟩:=hR0 y hR;have rd2:=(rd.go x1).go x2;refine sa.h e1 rd2.rs λvs Hs3 H3 x3 r3=>?_;obtain ⟨ws,hw,rw⟩:=t;obtain ⟨v,r,rfl,p1,p2⟩:=reps_cons.mp rw;cases reps_nil.mp p2;cases rep_at.mp p1;have hw3:=x3.s2 _ _ hw;have n3:Hs3 a=none:=x3.s4 a (by rw [hw];exact λz=>nomatch z) n';refine ⟨Hs3,a,m,xs,vs,by rw [yB],x3.s3,n3,hw3,r3,hp,λz u m' Hs' H' hRz xd na ea ru=>?_⟩;have rd3:=rd2.go x3;have an:∀(j:Nat)(y:PV),ε[j]?=some (MSlot.ow y)->U[j]?≠some (some (V.ref a)):=λj y hj e=>by
   obtain ⟨b,hb,_,_,tb⟩:=(rd.go x1).ow j y hj;rw [e] at hb;injection hb with hb;injection hb with hb;injection hb with hb;subst hb;exact tb.there n
  have h0a:=(rd.go x1).free0 n;refine k z _ u Hs' H' (h z hRz) ⟨rd3.s1.trans xd.s1,λb o e hS=>xd.s2 b o (rd3.s2 b o e hS) (λw=>by rw [w,h0a] at e;cases e),xd.s3,λb hb w=>xd.s4 b (rd3.there hb) (rd3.s4 b hb w),λi x hx=>?_,λi x hx=>?_,rd3.nd,rd3.len,rd3.pin,λb hS=>?_,rd3.str,rd3.nb⟩ (x1.s1.trans (x2.s1.trans (x3.s1.trans xd.s1))) ru
  ·obtain ⟨v,hv,rv⟩:=rd3.sh i x hx;exact ⟨v,hv,rv.mono xd.s1⟩
  ·obtain ⟨b,hb,m0,m1,tb⟩:=rd3.ow i x hx;have hne:b≠a:=λw=>an i x hx (w▸hb);exact ⟨b,hb,m0,xd.s4 b tb.there m1,tb.mono xd.s1 λo ho=>xd.s2 b o ho hne⟩
  ·have hl:=rd3.live b hS;have hne:b≠a:=λw=>by
    have:=(rd.go x1).live b hS;rw [w] at this;exact this n
   cases q:H3 b with
   |none=>exact absurd q hl
   |some o=>rw [xd.s2 b o q hne];exact λz=>nomatch z
section
variable {P:Program}{w:World}{K:Fg}{mg:Str->Option Value}{base:Heap}
theorem Yv (s:Same Hs H)(r:Reps Hs xs vs):RD [] Hs H Hs H (L2.start N vs) (xs.map .sh++List.replicate (N.length-xs.length) .no):=by have q:=jO (N:=N) s r;exact ⟨.refl _,λb o e _=>e,s,λ_ _ z=>z,q.sh,λi x h=>absurd h jN,q.nd,q.len,(λ_ z=>nomatch z),(λ_ z=>nomatch z),(λ_ z=>nomatch z),λ_ _=>Zv⟩
theorem okV {x:Str}{f:Addr}{k:Nat}(F:Fun K x qual st f fd)(S:w5 N ps (j5 st))(hpre:∀ xs,pre xs->xs.length=ps.length)(hb:∀(cdv:Value)(A:Around)(outer:List Env)(s:Shared)(H:Hp)(E:XK),Room k (A.deeper (PyProof.Rows.envOfC qual (j5 st) s.heap.objs.size f cdv)) -> ∃ t,PSs (ql v3 P w K mg base N qual (j5 st) f cdv A outer s H E).nox (i0 st) t/\SemWS t b)(hw:∀ xs,pre xs->b (xs.map .sh++List.replicate (N.length-xs.length) .no) (λ_=>False) λy _=>R xs y):FnOk P w K mg base v3 (k+1) f fd ps (spV pre R):=by
 refine F.ok S (λvs H Q E h=>?_) (λcdv A outer s H vs Q E hr h=>?_)
 ·obtain ⟨Hs,xs,_,r,hp,_⟩:=h;rw [r.length];exact hpre xs hp
 ·obtain ⟨Hs,xs,sm,r,hp,q⟩:=h;obtain ⟨t,ht,sem⟩:=hb cdv A outer s H E hr;refine ⟨t,ht,sem.h (hw xs hp) (Yv sm r) (λε U Hs' H' z _ _=>z.elim) λy ε U v Hs' H' hR rd g rv=>?_⟩;exact q y v Hs' H' hR ⟨g,λb o e=>rd.s2 b o e yg,rd.s3,rd.s4⟩ rv
def scr (K:Fg)(ns:List Int):PV:= .op λH v=>∃ a,v = .ref a/\SqL K H a (ns.map V.int)
theorem CV {K:Fg}{ns:List Int}(s:Same Hs H)(r:Rep Hs (scr K ns) v):∃ a,v = .ref a/\SqL K H a (ns.map V.int):=by obtain ⟨H1,s1,a,rfl,q⟩:=rep_op.mp r;exact ⟨a,rfl,(s1.trans s).seq q⟩
def wM (K:Fg):Sp:=λvs H Q _=>∃(a:Addr)(ns:List Int),vs=[.ref a]/\SqL K H a (ns.map V.int)/\ns.length<=63/\∀ H',Q (.bl true) H'
theorem okL {x:Str}{f:Addr}{k:Nat}(F:Fun K x qual st f fd)(S:w5 N ["script"] (j5 st))(hb:∀ (cdv:Value) (A:Around) (outer:List Env) (s:Shared) (H:Hp) (E:XK),Room k (A.deeper (PyProof.Rows.envOfC qual (j5 st) s.heap.objs.size f cdv)) -> ∃ t,PSs (ql v3 P w K mg base N qual (j5 st) f cdv A outer s H E).nox (i0 st) t/\SemWS t b)(hw:∀ ns:List Int,ns.length<=63->b (.sh (scr K ns)::List.replicate (N.length-1) .no) (λ_=>False) λy _=>y = .at (.bl true)):FnOk P w K mg base v3 (k+1) f fd ["script"] (wM K):=by
 refine F.ok S (λvs H Q E h=>?_) (λcdv A outer s H vs Q E hr h=>?_)
 ·obtain ⟨a,ns,rfl,_⟩:=h;rfl
 ·obtain ⟨a,ns,rfl,hS,h63,q⟩:=h;obtain ⟨t,ht,sem⟩:=hb cdv A outer s H E hr;have r:Reps H [scr K ns] [.ref a]:= .one (rep_op.mpr ⟨H,.refl _,a,rfl,hS⟩);refine ⟨t,ht,sem.h (hw ns h63) (Yv (N:=N) (.refl H) r) (λε U Hs' H' z _ _=>z.elim) λy ε U v Hs' H' hR rd g rv=>?_⟩;subst hR;cases rep_at.mp rv;exact q H'
end
variable {fr:Bool}
class Qc (tg:TGs)(g:List PV->ME->Option ME):Prop where
 h:∀{xs ε ε'},g xs ε=some ε'->∀{S Hs0 H0 Hs H U vs},RD S Hs0 H0 Hs H U ε->Reps Hs xs vs->∀{Q:St->Hp->Prop},(∀ σ',RD S Hs0 H0 Hs H σ' ε'->Q σ' H)->tg vs U H Q
instance:Qc gNil zC where
 h:=λ{xs ε ε'} e {_ _ _ _ _ _ _} rs r {_} q=>by
  unfold zC at e;split at e
  ·cases e;exact ⟨reps_nil.mp r,q _ rs⟩
  ·cases e
instance {t:TG}{u:TGs}{r:List PV->ME->Option ME}[sg:SemWG t g][sr:Qc u r]:Qc (Qp t u) (qC g r) where
 h:=λ{xs ε ε'} e {_ _ _ _ _ _ _} rs rr {_} q=>by
  unfold qC at e;split at e
  ·obtain ⟨ε1,e1,e2⟩:=bind_some e;obtain ⟨v,w,rfl,r1,r2⟩:=reps_cons.mp rr;exact ⟨v,w,rfl,sg.h e1 rs r1 λσ1 rs1=>sr.h e2 rs1 r2 λσ2 rs2=>q _ rs2⟩
  ·cases e
instance {t:TGs}{g:List PV->ME->Option ME}[sg:Qc t g]:SemWG (gTup K n t) (zD n g) where
 h:=λ{x ε ε'} e {_ _ _ _ _ _ _} rs rr {_} q=>by
  unfold zD at e;split at e
  ·split at e
   ·rename_i hl;obtain ⟨a,vs,rfl,h,r⟩:=rep_tup.mp rr;exact ⟨a,vs,rfl,SqT.of (rs.s3 _ _ h),by rw [r.length];exact hl,sg.h e rs r λσ' rs'=>q _ rs'⟩
   ·cases e
  ·cases e
class qR (w:W):Prop where
 h:∀{ε:ME}{P P':PV->ME->Prop},(∀ y e,P y e->P' y e)->w ε P->w ε P'
class Qa (w:WA):Prop where
 h:∀{ε:ME}{P P':List PV->ME->Prop},(∀ y e,P y e->P' y e)->w ε P->w ε P'
class jW (w:WT):Prop where
 h:∀{ε:ME}{P P':Bool->ME->Prop},(∀ y e,P y e->P' y e)->w ε P->w ε P'
class zl (w:WS):Prop where
 h:∀{ε:ME}{N N':ME->Prop}{R R':PV->ME->Prop},(∀ e,N e->N' e)->(∀ y e,R y e->R' y e)->w ε N R->w ε N' R'
instance {f:M}:qR (wP f) where h:=λk ⟨y,e,q⟩=>⟨y,e,k _ _ q⟩
instance {f:MB}:jW (wPT f) where h:=λk ⟨y,e,q⟩=>⟨y,e,k _ _ q⟩
instance {g:PV->PV->Option PV}{b:W}[A:qR a][B:qR b]:qR (n8 g a b) where h:=λk h=>A.h (λ_ _ h1=>B.h (λ_ _ ⟨z,e,q⟩=>⟨z,e,k _ _ q⟩) h1) h
instance:jW wW where h:=λk h=>k _ _ h
theorem XR {c:Bool}{A B A' B':Prop}(h1:A->A')(h2:B->B')(h:if c=true then A else B):if c=true then A' else B':=by
 cases c with
 |true=>exact qW (h1 (by simpa using h))
 |false=>exact qV (h2 (by simpa using h))
instance:Qa jq where h:=λk h=>k _ _ h
instance {i:Nat}[A:qR a]:qR (c9 i a) where h:=λk h=>⟨h.1,A.h (λ_ _ ⟨n,m,e1,e2,e3,q⟩=>⟨n,m,e1,e2,e3,k _ _ q⟩) h.2⟩
instance {i:Nat}{a:WA}[A:Qa a]:qR (Xi i pre R a) where h:=λk h=>⟨h.1,A.h (λ_ _ ⟨h1,h2,h3⟩=>⟨h1,h2,λy n r=>k _ _ (h3 y n r)⟩) h.2⟩
instance :qR (vO pre0 R0 a0 pre R as) where
 h:=λk ⟨xs0,xs,e0,e1,h1,h2,h3,h4⟩=>⟨xs0,xs,e0,e1,h1,h2,h3,λy r=>k _ _ (h4 y r)⟩
instance {f:MA}:Qa (wIp f) where h:=λk ⟨y,e,q⟩=>⟨y,e,k _ _ q⟩
theorem Jz {g:MG}{c:WT}{f:W}{ts:List Nat}[C:jW c][F:qR f]{Q Q':List PV->ME->Prop}(k:∀ y e,Q y e->Q' y e):∀(xs ys:List PV)(ε:ME),jp g c f ts xs ys ε Q->jp g c f ts xs ys ε Q'
 |[],ys,ε,h=>k _ _ h
 |x::xs,ys,ε,h=>by
  obtain ⟨ε1,e1,h1⟩:=h;exact ⟨ε1,e1,C.h (λb ε2 h2=>XR (λh3=>F.h (λy ε3 h4=>Jz k xs _ _ h4) h3) (λh3=>Jz k xs _ _ h3) h2) h1⟩
instance {cap:List (Option Nat)}{c:WT}{f:W}[I:Qa it][C:jW c][F:qR f]:qR (Xh cap ts it g c f) where
 h:=λk h=>I.h (λ_ _ ⟨h1,h2,h3⟩=>⟨h1,h2,Jz (λ_ _ ⟨q1,q2⟩=>⟨q1,k _ _ q2⟩) _ _ _ h3⟩) h
instance:zl xm where h:=λk _ h=>k _ h
instance {i:Nat}[A:qR a]:zl (qb i a) where h:=λk _ h=>A.h (λ_ _ h1=>k _ h1) h
instance {c:WT}{a:WS}[C:jW c][A:zl a][B:zl b]:zl (qP c a b) where h:=λk r h=>C.h (λ_ _ h1=>XR (λh2=>A.h k r h2) (λh2=>B.h k r h2) h1) h
instance {i:Nat}[A:qR a]:zl (Xg i a) where h:=λk _ h=>⟨h.1,A.h (λ_ _ ⟨xs,e1,e2,q⟩=>⟨xs,e1,e2,k _ q⟩) h.2⟩
theorem Xv {g:MG}{c:WT}{f:W}{ts:List Nat}{Q:List PV->ME->Prop}[C:jW c][F:qR f](I:List PV->List PV->ME->Prop)(hd:∀ ys ε,I [] ys ε->Q ys ε)(hs:∀ x xs ys ε,I (x::xs) ys ε->∃ ε1,g x ε=some ε1/\c ε1 λb ε2=>if b=true then f ε2 λy ε3=>I xs (ys++[y]) (rst ts ε3) else I xs ys (rst ts ε2)):∀(xs ys:List PV)(ε:ME),I xs ys ε->jp g c f ts xs ys ε Q
 |[],ys,ε,h=>hd ys ε h
 |x::xs,ys,ε,h=>by
  obtain ⟨ε1,e1,h1⟩:=hs x xs ys ε h;exact ⟨ε1,e1,C.h (λb ε2 h2=>XR (λh3=>F.h (λy ε3 h4=>Xv I hd hs xs _ _ h4) h3) (λh3=>Xv I hd hs xs _ _ h3) h2) h1⟩
theorem VV {f:W}{Q:List PV->ME->Prop}[F:qR f](I:List PV->List PV->ME->Prop)(hd:∀ ys ε,I [] ys ε->Q ys ε)(hs:∀ x xs ys ε,I (x::xs) ys ε->∃ ε1,g x ε=some ε1/\f ε1 λy ε3=>I xs (ys++[y]) (rst ts ε3))(xs ys:List PV)(ε:ME)(h:I xs ys ε):jp g wW f ts xs ys ε Q :=
 Xv I hd (λx xs ys ε h=>by
  obtain ⟨ε1,e,q⟩:=hs x xs ys ε h;refine ⟨ε1,e,?_⟩;show if true=true then (f ε1 λy ε3=>I xs (ys++[y]) (rst ts ε3)) else I xs ys (rst ts ε1)
  rw [if_pos rfl];exact q) xs ys ε h
theorem XX {g:MG}{f:WS}{N:ME->Prop}{R:PV->ME->Prop}[F:zl f](I:List PV->ME->Prop)(hd:∀ ε,I [] ε->N ε)(hs:∀ x xs ε,I (x::xs) ε->∃ ε1,g x ε=some ε1/\f ε1 (λε2=>I xs ε2) R):∀(xs:List PV)(ε:ME),I xs ε->wV g f xs ε N R
 |[],ε,h=>hd ε h
 |x::xs,ε,h=>by
  obtain ⟨ε1,e1,h1⟩:=hs x xs ε h;exact ⟨ε1,e1,F.h (λε2 h2=>XX I hd hs xs ε2 h2) (λ_ _ z=>z) h1⟩
section
variable {ε ε1:ME}{a b:MS}{f g:M}{x y z:PV}{i:Nat}{o:Option Out}
theorem g0 (h:a ε=some (.nx ε1))(k:b ε1=o):u9 a b ε=o:=by unfold u9;rw [h];exact k
theorem zT (h:f ε=some x):qU i f ε=some (.nx (ε.set i (.sh x))):=by unfold qU;rw [h];rfl
theorem GI (h:f ε=some x):Qi i f ε=some (.nx (ε.set i (.ow x))):=by unfold Qi;rw [h];rfl
theorem o5 (h:f ε=some x):u7 f ε=some (.rt x):=by unfold u7;rw [h];rfl
theorem y7 {G:PV->PV->Option PV}(h1:f ε=some x)(h2:g ε=some y)(h:G x y=r):z7 G f g ε=r:=by unfold z7;rw [h1];show Option.bind (g ε) _=_;rw [h2];exact h
theorem Wj {G:PV->Option PV}(h1:f ε=some x)(h:G x=r):dUn G f ε=r:=by unfold dUn;rw [h1];exact h
theorem j7 (h1:as ε=some xs)(h:m xs=r):z5 m as ε=r:=by unfold z5;rw [h1];exact h
theorem j4 {r:MA}(h1:f ε=some x)(h2:r ε=some xs):q9 f r ε=some (x::xs):=by unfold q9;rw [h1];show Option.bind (r ε) _=_;rw [h2];rfl
theorem qf (h:c ε=some false)(k:b ε=o):m9 c a b ε=o:=by unfold m9;rw [h];exact k
theorem Qo {it:MA}(h:it ε=some xs)(k:xM G a xs ε=o):jx it G a ε=o:=by unfold jx;rw [h];exact k
theorem xP (h:as ε=some xs)(hl:xs.length<=lim):b7 as ε=some (.lst xs):=by unfold b7;rw [h];show (if _ then _ else _)=_;rw [if_pos hl]
theorem xG (h:as ε=some xs)(hl:xs.length<=lim):i7 as ε=some (.tup xs):=by unfold i7;rw [h];show (if _ then _ else _)=_;rw [if_pos hl]
theorem Wg {cap:List (Option Nat)}{it:MA}(h:it ε=some xs)(hc:xD cap ts=true)(hl:xs.length<=lim)(k:m6 G c f (p9 cap ε) xs=some ys):b8 cap ts it G c f ε=some (.lst ys):=by unfold b8;rw [h];show (if _ then _ else _)=_;rw [if_pos ⟨hc,hl⟩,k];rfl
end
theorem Pe (h:xs.length+ys.length<=lim):o7 (.lst xs) (.lst ys)=some (.lst (xs++ys)):=by show (if _ then _ else _)=_;rw [if_pos h]
theorem Qn {k:Nat}{b:MS}(hl:xs.length=k)(h:b (xs.map .sh++List.replicate (n-k) .no)=some (.rt y)):zw n k b xs=some y:=by unfold zw;rw [if_pos hl,h];rfl
theorem qJ {k:Nat}{b:MS}(hl:xs.length=k)(h:b (xs.map .sh++List.replicate (n-k) .no)=some (.rt y)):p0 n k b xs=some y:=by unfold p0;rw [if_pos hl,h];rfl
theorem Zo {f:PV->PV->Option Bool}:∀{xs:List PV},(∀ x∈xs,f x x=some true)->xS f xs xs=some true
 |[],_=>rfl
 |x::xs,h=>by unfold xS;rw [h x yV];show Option.bind (xS f xs xs) _=_;rw [Zo λy hy=>h y (yW _ hy)];rfl
def xT:Nat->PV->Prop
 |_,.at u=>u4 u=true
 |n+1,.lst xs=>∀ x∈xs,xT n x
 |n+1,.tup xs=>∀ x∈xs,xT n x
 |_,_=>False
theorem QO:∀(n:Nat){x:PV},xT n x->peq n x x=some true
 |0,x,h=>by
  cases x with
  |«at» u=>show (if _ then _ else _)=_;rw [if_pos ⟨h,h⟩,Ql h]
  |_=>exact h.elim
 |n+1,x,h=>by
  cases x with
  |«at» u=>show (if _ then _ else _)=_;rw [if_pos ⟨(show u4 u=true from h),h⟩,Ql h]
  |lst xs=>show (if _ then _ else _)=_;rw [if_pos rfl];exact Zo λy hy=>QO n (h y hy)
  |tup xs=>show Option.bind (xS (peq n) xs xs) _=_;rw [Zo λy hy=>QO n (h y hy)];show some (true&&(xs.length==xs.length))=_;rw [beq_self_eq_true];rfl
  |_=>exact h.elim
theorem Pf (h:xT 6 x):pEq x x=some (.at (.bl true)):=by unfold pEq;rw [QO 6 h];rfl
theorem zF (h:xT 6 x):o8 x x=some (.at (.bl false)):=by unfold o8;rw [QO 6 h];rfl
class qG (K:Fg)(C:Addr):Prop where
 c:Cls K C
class p8 (K:Fg)(C:Addr)(f:Str):Prop where
 n:NoAttr K C f
def vo (f:Str):List Str->List PV->Option PV
 |n::ns,x::xs=>if f=n then some x else vo f ns xs
 |_,_=>none
theorem WE {H:Hp}{f:Str}{y:PV}:∀{fs:List (Str×V)}{xs:List PV},Reps H xs (fs.map (·.2))->vo f (fs.map (·.1)) xs=some y->∃ v,fs.lookup f=some v/\Rep H y v
 |[],xs,r,h=>by cases xs<;>cases h
 |p::fs,xs,r,h=>by
  cases xs with
  |nil=>cases h
  |cons x xs =>
   obtain ⟨v,w,e,p1,p2⟩:=reps_cons.mp r;rw [yP] at e;injection e with e1 e2;subst e1 e2;rw [yP] at h;unfold vo at h;rw [yb];split at h
   ·rename_i hf;cases h;rw [hf,beq_self_eq_true];exact ⟨p.2,rfl,p1⟩
   ·rename_i hf;rw [beq_eq_false_iff_ne.mpr hf];exact WE p2 h
def xo (C:Addr)(f:Str)(a:M):M:=λε=>(a ε).bind λx=>match x with
 | .ob C' ns xs=>if C'=C then vo f ns xs else none
 |_=>none
theorem Gn {a:M}(h:xo C f a ε=some y):∃ ns xs,a ε=some (.ob C ns xs)/\vo f ns xs=some y:=by
 unfold xo at h;obtain ⟨x,ex,h1⟩:=bind_some h;split at h1
 ·split at h1
  ·rename_i hc;subst hc;exact ⟨_,_,ex,h1⟩
  ·cases h1
 ·cases h1
instance {a:M}[c:qG K C][n:p8 K C f][s:n9 te a]:SemE (tFld K te f) (xo C f a) where
 h:=λe _ _ _ _ _ rs _ q=>by
  obtain ⟨ns,xs,ea,el⟩:=Gn e;refine s.h ea rs λv Hs1 H1 x1 r1=>?_;obtain ⟨p,dx,fs,rfl,hp,hk,hr⟩:=YA x1.s3 r1;rw [<- hk] at el;obtain ⟨u,hu,ru⟩:=WE hr el;exact ⟨p,C,dx,fs,u,rfl,hp,c.c,n.n,hu,q u _ _ x1 ru⟩
theorem jL {ta:TE}(hK:X.K=K)(he:PE X e ta)(hb:attributeBase e f X.env (eval e X.env)=eval e X.env:=by rfl):PE X (.Attribute e f pos) (tFld K ta f):=by subst hK;exact Pq he hb
structure Mt (P:Program)(w:World)(K:Fg)(mg:Str->Option Value)(base:Heap)(k:Nat)(C:Addr)(m:Str)(ps:List Str)(sp:Sp):Prop where
 ex:∃ f fd,FnOk P w K mg base v3 k f fd ps sp/\jV K C m f/\Cls K C/\Binds K fd ps []
section
variable {X:Cx}{k j:Nat}{C:Addr}{m:Str}{ps:List Str}{sp:Sp}{o e:Expr}{es:List Expr}{ta:TE}{t:TA}{apos pos:Pos}
theorem pe_mth (c:Mt X.prog X.w X.K X.mg X.base k C m ps sp)(hr:Room j X.A)(hj:k<=j)(ho:PE X o ta)(ha:PA X (e::es) t)
  (hst:starEach (e::es) X.env=(false,eval e X.env)::starEach es X.env:=by rfl) (hpl:(backTo pos (starEach es X.env)).any (·.1)=false:=by rfl)
  (ht:eval (.Call (.Attribute o m apos) (e::es) [] pos) X.env=(do
   let ov <- eval o X.env
   standAt apos.atName
   let (f,first) <- holding [ov] (getMethod ov m pl)
   callWith pos f first (backTo pos (starEach (e::es) X.env)) (backToKw pos (keywordEach [] X.env))):=by rfl) :
  PE X (.Call (.Attribute o m apos) (e::es) [] pos) (xc C m sp [] E0 ta t):=by
 obtain ⟨f,fd,F,hm,hc,hb⟩:=c.ex;exact WW ho hc hm F (hr.mono hj) hb .nil wD ha hst hpl ht
theorem qD (c:Mt X.prog X.w X.K X.mg X.base k C m ps sp)(hr:Room j X.A)(hj:k<=j)(ho:PE X o ta)
  (ht:eval (.Call (.Attribute o m apos) [] [] pos) X.env=(do
   let ov <- eval o X.env
   standAt apos.atName
   let (f,first) <- holding [ov] (getMethod ov m pl)
   callWith pos f first (backTo pos (starEach [] X.env)) (backToKw pos (keywordEach [] X.env))):=by rfl) :
  PE X (.Call (.Attribute o m apos) [] [] pos) (xc C m sp [] E0 ta xl):=by
 obtain ⟨f,fd,F,hm,hc,hb⟩:=c.ex;exact Pr ho hc hm F (hr.mono hj) hb .nil wD ht
end
variable {fr:Bool}
def xR:PV->Option z8
 | .at (.int i)=>some (.inl i)
 | .at (.str x)=>some (.inr x)
 |_=>none
theorem zU {k:z8}(r:RepB Hs H x v)(h:xR x=some k):v=kV k:=by
 unfold xR at h;split at h
 ·cases h;cases y9 r;rfl
 ·cases h;cases y9 r;rfl
 ·cases h
def o6 (k:z8):List z8->List PV->Option PV
 |n::ns,x::xs=>if n=k then some x else o6 k ns xs
 |_,_=>none
theorem Qx {H:Hp}{k:z8}:∀{kvs:List (z8×V)}{xs:List PV},Reps H xs (kvs.map (·.2))->match o6 k (kvs.map (·.1)) xs with
  |some y=>∃ v,i4 kvs k=some v/\Rep H y v
  |none=>i4 kvs k=none
 |[],xs,r=>by
  have hx:xs=[]:=uL.mp r.length.symm;subst hx;rfl
 |p::kvs,xs,r=>by
  cases xs with
  |nil=>have:=r.length;simp at this
  |cons x xs =>
   obtain ⟨v,w,e,p1,p2⟩:=reps_cons.mp r;rw [yP] at e;injection e with e1 e2;subst e1 e2;rw [yP];unfold o6;by_cases hk:p.1=k
   ·rw [if_pos hk];refine ⟨p.2,?_,p1⟩;unfold i4;rw [uV,ym hk];rfl
   ·rw [if_neg hk];have ih:=Qx (k:=k) p2;have ev:i4 (p::kvs) k=i4 kvs k:=by unfold i4;rw [uV,yI hk]
    rw [ev];exact ih
def Qh (a b:M):M:=λε=>(a ε).bind λx=>(b ε).bind λy=>(xR y).bind λk=>match x with
 | .dk ks xs=>o6 k ks xs
 | .fk ks xs=>o6 k ks xs
 |_=>none
instance {ty:TE}{a b:M}[sa:n9 td a][sb:n9 ty b]:SemE (YS td ty) (Qh a b) where
 h:=λe _ _ _ _ _ rs _ q=>by
  obtain ⟨x,ex,e1⟩:=bind_some e;obtain ⟨y,ey,e2⟩:=bind_some e1;obtain ⟨k,ek,e3⟩:=bind_some e2;split at e3
  ·refine sa.h ex rs λv Hs1 H1 x1 r1=>sb.h ey (rs.go x1) λw Hs2 H2 x2 r2=>?_;obtain ⟨p,kvs,rfl,hp,hk,hr⟩:=jk x2.s3 (r1.ext x2);have l:=Qx (k:=k) hr;rw [hk,e3] at l;obtain ⟨u,hu,ru⟩:=l;have ew:=zU r2 ek;subst ew;exact ⟨p,u,rfl,by rw [<- hu];exact DGet.k hp,q u _ _ (x1.trans x2) ru⟩
  ·refine sa.h ex rs λv Hs1 H1 x1 r1=>sb.h ey (rs.go x1) λw Hs2 H2 x2 r2=>?_;obtain ⟨p,o,kvs,rfl,hp,hk,hr⟩:=wK x2.s3 (r1.ext x2);have l:=Qx (k:=k) hr;rw [hk,e3] at l;obtain ⟨u,hu,ru⟩:=l;have ew:=zU r2 ek;subst ew;exact ⟨p,u,rfl,by rw [<- hu];exact .inl ⟨kvs,k,.inr ⟨o,hp⟩,rfl,rfl⟩,q u _ _ (x1.trans x2) ru⟩
  ·cases e3
def dDIn (b a:M):M:=λε=>(b ε).bind λy=>(a ε).bind λx=>(xR y).bind λk=>match x with
 | .dk ks xs=>some (.at (.bl (o6 k ks xs).isSome))
 | .fk ks xs=>some (.at (.bl (o6 k ks xs).isSome))
 |_=>none
def wb (b a:M):M:=λε=>(b ε).bind λy=>(a ε).bind λx=>(xR y).bind λk=>match x with
 | .dk ks xs=>some (.at (.bl (!(o6 k ks xs).isSome)))
 | .fk ks xs=>some (.at (.bl (!(o6 k ks xs).isSome)))
 |_=>none
theorem wp {k:z8}{kvs:List (z8×V)}(r:Reps H xs (kvs.map (·.2))):(o6 k (kvs.map (·.1)) xs).isSome=(i4 kvs k).isSome:=by
 have l:=Qx (k:=k) r;cases e:o6 k (kvs.map (·.1)) xs with
 |none=>rw [e] at l;rw [show i4 kvs k=none from l];rfl
 |some y=>rw [e] at l;obtain ⟨v,hv,_⟩:=l;rw [hv];rfl
instance {ty:TE}{a b:M}[sa:n9 td a][sb:n9 ty b]:SemE (tDIn ty td) (dDIn b a) where
 h:=λe _ _ _ _ _ rs _ q=>by
  obtain ⟨y,ey,e1⟩:=bind_some e;obtain ⟨x,ex,e2⟩:=bind_some e1;obtain ⟨k,ek,e3⟩:=bind_some e2;split at e3
  ·cases e3;refine sb.h ey rs λw Hs1 H1 x1 r1=>sa.h ex (rs.go x1) λv Hs2 H2 x2 r2=>?_;obtain ⟨p,kvs,rfl,hp,hk,hr⟩:=jk x2.s3 r2;have ew:=zU r1 ek;subst ew;exact ⟨p,_,rfl,DGet.k hp,q _ _ _ (x1.trans x2) (rep_at.mpr (by rw [<- hk,wp hr]))⟩
  ·cases e3;refine sb.h ey rs λw Hs1 H1 x1 r1=>sa.h ex (rs.go x1) λv Hs2 H2 x2 r2=>?_;obtain ⟨p,o,kvs,rfl,hp,hk,hr⟩:=wK x2.s3 r2;have ew:=zU r1 ek;subst ew;exact ⟨p,_,rfl,.inl ⟨kvs,_,.inr ⟨o,hp⟩,rfl,rfl⟩,q _ _ _ (x1.trans x2) (rep_at.mpr (by rw [<- hk,wp hr]))⟩
  ·cases e3
instance {ty:TE}{a b:M}[sa:n9 td a][sb:n9 ty b]:SemE (YU ty td) (wb b a) where
 h:=λe _ _ _ _ _ rs _ q=>by
  obtain ⟨y,ey,e1⟩:=bind_some e;obtain ⟨x,ex,e2⟩:=bind_some e1;obtain ⟨k,ek,e3⟩:=bind_some e2;split at e3
  ·cases e3;refine sb.h ey rs λw Hs1 H1 x1 r1=>sa.h ex (rs.go x1) λv Hs2 H2 x2 r2=>?_;obtain ⟨p,kvs,rfl,hp,hk,hr⟩:=jk x2.s3 r2;have ew:=zU r1 ek;subst ew;exact ⟨p,_,rfl,DGet.k hp,q _ _ _ (x1.trans x2) (rep_at.mpr (by rw [<- hk,wp hr]))⟩
  ·cases e3;refine sb.h ey rs λw Hs1 H1 x1 r1=>sa.h ex (rs.go x1) λv Hs2 H2 x2 r2=>?_;obtain ⟨p,o,kvs,rfl,hp,hk,hr⟩:=wK x2.s3 r2;have ew:=zU r1 ek;subst ew;exact ⟨p,_,rfl,.inl ⟨kvs,_,.inr ⟨o,hp⟩,rfl,rfl⟩,q _ _ _ (x1.trans x2) (rep_at.mpr (by rw [<- hk,wp hr]))⟩
  ·cases e3
def VY:M:=λ_=>some (.dk [] [])
instance:qI YT VY where
 h:=λe _ _ _ _ _ rs _ q=>by
  cases e;exact λp hp=>q p _ _ (.newO rs.sub hp) hp (rs.sub.free hp) ⟨[],u3,rfl,.nil⟩
def wJ (k:z8)(y:PV):List z8->List PV->List PV
 |n::ns,x::xs=>if n=k then y::wJ k y ns xs else x::wJ k y ns xs
 |_,xs=>xs
def QR (k:z8)(y:PV)(ks:List z8)(xs:List PV):PV:=if (o6 k ks xs).isSome=true then .dk ks (wJ k y ks xs) else .dk (ks++[k]) (xs++[y])
theorem Yh {H:Hp}{k:z8}{y:PV}{v:V}(ry:Rep H y v):∀{kvs:List (z8×V)}{xs:List PV},Reps H xs (kvs.map (·.2))->Reps H (wJ k y (kvs.map (·.1)) xs) ((kvs.map (λkv=>if kv.1=k then (kv.1,v) else kv)).map (·.2))/\(kvs.map (λkv=>if kv.1=k then (kv.1,v) else kv)).map (·.1)=kvs.map (·.1)
 |[],xs,r=>by
  have hx:xs=[]:=uL.mp r.length.symm;subst hx;exact ⟨.nil,rfl⟩
 |p::kvs,xs,r=>by
  cases xs with
  |nil=>have:=r.length;simp at this
  |cons x xs =>
   obtain ⟨u,w,e,p1,p2⟩:=reps_cons.mp r;rw [yP] at e;injection e with e1 e2;subst e1 e2;obtain ⟨h1,h2⟩:=Yh (k:=k) ry p2;rw [yP,yP,yP,yP];unfold wJ;by_cases hk:p.1=k
   ·rw [if_pos hk,if_pos hk];exact ⟨.cons ry h1,by rw [h2]⟩
   ·rw [if_neg hk,if_neg hk];exact ⟨.cons p1 h1,by rw [h2]⟩
def dPut (i:Nat)(kk vv:M):MS:=λε=>(vv ε).bind λy=>(kk ε).bind λx=>(xR x).bind λk=>match ε[i]? with
 |some (.ow (.dk ks xs))=>if ks.length<=lim then some (.nx (ε.set i (.ow (QR k y ks xs)))) else none
 |_=>none
instance {i:Nat}{ty:TE}{kk vv:M}[sk:SemE ty kk][sv:SemE tv vv]:r9 fr (YF (qu i) ty tv) (dPut i kk vv) where
 h:=λe _ _ _ _ _ rs _ q=>by
  obtain ⟨y,ey,e1⟩:=bind_some e;obtain ⟨x,ex,e2⟩:=bind_some e1;obtain ⟨k,ek,e3⟩:=bind_some e2;split at e3
  ·rename_i ks xs hi;split at e3
   ·rename_i hl;cases e3;refine sv.h ey rs λv Hs1 H1 x1 r1=>?_;obtain ⟨p,hp,n0,n,t⟩:=(rs.go x1).ow i _ hi;refine ⟨_,hp,sk.h ex (rs.go x1) λw Hs2 H2 x2 r2=>?_⟩;obtain ⟨p',hp',_,n2,kvs,hv,hk,hr⟩:=((rs.go x1).go x2).ow i _ hi;rw [hp] at hp';injection hp' with hp';injection hp' with hp';injection hp' with hp';subst hp';have ew:=zU (.inl r2:RepB Hs2 H2 x w) ek;subst ew;have hlen:kvs.length<=lim:=by rw [<- hk,yZ] at hl;exact hl
    refine ⟨p,_,rfl,DPut.k hv (Qw hlen),q _ _ _ (((rs.go x1).go x2).change hi hp ?_)⟩;have hs:=wp (k:=k) hr;unfold QR xJ;rw [Jv,<- hs,hk];by_cases hc:(o6 k ks xs).isSome=true
    ·rw [if_pos hc,if_pos hc];obtain ⟨q1,q2⟩:=Yh (k:=k) (r1.mono x2.s1) hr;exact ⟨_,u3,by rw [q2,hk],by rw [<- hk];exact q1⟩
    ·rw [if_neg hc,if_neg hc];exact ⟨_,u3,by rw [yz,hk];rfl,by rw [yz];exact hr.append (.one (r1.mono x2.s1))⟩
   ·cases e3
  ·cases e3
def rLeS:R2:=λx y H Q=>∃ i j,x = .str i/\y = .str j/\Q (.bl (!decide (j.cps.toList<i.cps.toList))) H
theorem WQ :OpR X (compareOp .LtE) rLeS:=BZ
def pLeS:PV->PV->Option PV
 | .at (.str i),.at (.str j)=>some (.at (.bl (!decide (j.cps.toList<i.cps.toList))))
 |_,_=>none
instance:xh rLeS pLeS where
 h:=λ{x y z} e {Hs H v w} s a b {Q} q=>by
  unfold pLeS at e;split at e
  ·cases e;cases y9 a;cases y9 b;exact ⟨_,_,rfl,rfl,q _ _ _ (.refl s) (rep_at.mpr rfl)⟩
  ·cases e
def jn (z:Str):List PV:=z.cps.toList.map λc=> .at (.str ⟨#[c]⟩)
def wd (a:M):MA:=λε=>(a ε).bind λx=>match x with
 | .at (.str z)=>some (jn z)
 |_=>none
theorem Kv {z:Str}:jr (ItS z) (jn z) Hs where
 go:=λi x Hs1 H1 e g1 g2=>by
  unfold jn at e;rw [yQ] at e;obtain ⟨c,hc,rfl⟩:=yG.mp e;rw [Array.getElem?_toList] at hc;have hl:i<z.cps.size:=(Array.getElem?_eq_some_iff.mp hc).1;refine ⟨hl,λv H2 y=>?_⟩;obtain ⟨rfl,c',hc',rfl⟩:=y;rw [hc] at hc';cases hc';exact ⟨Hs1,.refl g2,rep_at.mpr rfl⟩
 stop:=λHs1 H1 g1 g2=>by
  show (jn z).length=z.cps.size;unfold jn;rw [yZ,Array.length_toList]
instance {a:M}[sa:SemE te a]:zn (iStr te) (wd a) where
 h:=λe _ _ _ _ _ rs _ q=>by
  obtain ⟨x,ex,e1⟩:=bind_some e;split at e1
  ·cases e1;exact sa.h ex rs λv Hs1 H1 x1 r1=>⟨_,rep_at.mp r1,q _ _ _ x1 Kv⟩
  ·cases e1
theorem QS {f:Str}{v:V}:∀{fs:List (Str×V)},f∉fs.map (·.1)->qy f v fs=fs++[(f,v)]
 |[],_=>rfl
 |(g,x)::r,h=>by
  rw [yP] at h;unfold qy;rw [if_neg (show ¬ g=f from λz=>h (by rw [<- z];exact yV)),QS λz=>h (yW _ z)];rfl
def Xj (C:Addr)(f:Str)(a:W):WS:=λε N _=>a ε λy ε1=>∃ ns xs,ε1[0]?=some (.ow (.ob C ns xs))/\f∉ns/\ns.length<1000/\N (ε1.set 0 (.ow (.ob C (ns++[f]) (xs++[y]))))
instance [c:qG K C][n:p8 K C f][sa:SemW te a]:SemWS (jP K (qu 0) te f) (Xj C f a) where
 h:=λh _ _ _ _ _ _ rd _ k _=>sa.h h rd λy ε1 v Hs1 H1 h1 rd1 g1 r1=>by
  obtain ⟨ns,xs,he,hf,hl,h2⟩:=h1;obtain ⟨p,hp,h0,hs,dx,fs,hH,hk,hr⟩:=rd1.ow 0 _ he;have hf':f∉fs.map (·.1):=by rw [hk];exact hf
  have hl':fs.length<1000:=by rw [<- yZ (f:=(·.1)),hk];exact hl
  refine ⟨_,hp,p,C,dx,fs,rfl,hH,c.c,n.n,hl',?_⟩;rw [QS hf'];exact k _ _ _ _ h2 (rd1.change he hp ⟨dx,_,u3,by rw [yz,hk];rfl,by rw [yz];exact hr.append (.one r1)⟩) g1
def zS (C:Addr)(nm:Str)(m:List PV->Option PV)(i:Nat)(as:MA):M:=λε=>match ε[i]? with
 |some (.ow (.ob C' ns fs))=>if C'=C/\nm∉ns then (as ε).bind λxs=>(m (.ob C ns fs::xs)).bind λy=>match y with
  | .at u=>some (.at u)
  |_=>none else none
 |_=>none
instance {i:Nat}[sa:i5 ta as]:SemE (xc C nm (v5 m) [] E (qu i) ta) (zS C nm m i as) where
 h:=λ{ε y} e {Hs0 H0 Hs H U} rs {Q} q=>by
  unfold zS at e;split at e
  ·rename_i C' ns fs hi;split at e
   ·rename_i hc;obtain ⟨rfl,hn⟩:=hc;obtain ⟨xs,ex,e1⟩:=bind_some e;obtain ⟨z,ez,e2⟩:=bind_some e1;split at e2
    ·rename_i u;cases e2;obtain ⟨p,hp,n0,n,dx,gs,hH,hk,hr⟩:=rs.ow i _ hi;refine ⟨_,hp,p,dx,gs,rfl,hH,vp (by rw [hk];exact hn),sa.h ex rs λvs Hs1 H1 x1 r1=>?_⟩;have hH1:=x1.s2 _ _ hH;have n1:Hs1 p=none:=x1.s4 p (by rw [hH];exact λz=>nomatch z) n;have g:Same Hs1 (j3 Hs1 p (.ins C' dx gs)):=λb w e=>by rw [z9 (w9 e n1)];exact e
     refine ⟨j3 Hs1 p (.ins C' dx gs),_,_,?_,?_,ez,λv Hs' H' x r=>?_⟩
     ·intro b w e;by_cases hb:b=p
      ·subst hb;rw [u3] at e;cases e;exact hH1
      ·rw [z9 hb] at e;exact x1.s3 _ _ e
     ·rw [yB];exact .cons (rep_ob.mpr ⟨p,dx,gs,rfl,u3,hk,(hr.mono x1.s1).mono g⟩) (r1.mono g)
     ·cases rep_at.mp r;refine q _ (λb=>if b=p then none else Hs' b) H' (x1.trans ⟨λb w e=>?_,x.s2,λb w e=>?_,λb hb w=>?_⟩) (rep_at.mpr rfl)
      ·rw [if_neg (w9 e n1)];exact x.s1 _ _ (g _ _ e)
      ·split at e
       ·cases e
       ·exact x.s3 _ _ e
      ·by_cases hbp:b=p
       ·rw [if_pos hbp]
       ·rw [if_neg hbp];exact x.s4 b hb (by rw [z9 hbp];exact w)
    ·cases e2
   ·cases e
  ·cases e
def spI (C:Addr)(m:List PV->Option PV):Sp:=λvs H Q _=>∃ Hs x dx xs ws y,vs = .ref x::ws/\Same Hs H/\H x=some (.ins C dx [])/\Hs x=none/\Reps Hs xs ws/\m xs=some y /\
 ∀ Hs' H',Same Hs Hs'->(∀ b o,H b=some o->b≠x->H' b=some o)->Same Hs' H'->(∀ b,H b≠none->b≠x->Hs b=none->Hs' b=none)->Rep Hs' y (.ref x)->Q .non H'
instance {ds:List V}[sa:i5 ta as]:SemE (zJ C (spI C m) ds E ta) (zu m ds as) where
 h:=λe _ _ _ _ _ rs _ q=>by
  obtain ⟨xs,ex,e1⟩:=bind_some e;refine sa.h ex rs λvs Hs1 H1 x1 r1=>λx dx hx hdx hne=>?_;have s3:Same Hs1 (j3 (j3 H1 dx (.own x)) x (.ins C dx [])):=λb o e=>by
   have e':=x1.s3 _ _ e;rw [z9 (w9 e' hx),z9 (w9 e' hdx)];exact e'
  refine ⟨Hs1,x,dx,_,_,_,rfl,s3,u3,x1.s3.free hx,r1.append (.ofAts ds),e1,λHs' H' g1 g2 g3 g4 r=>⟨rfl,q _ _ _ (x1.trans ⟨g1,λb o e=>?_,g3,λb hb z=>?_⟩) r⟩⟩
  ·refine g2 b o ?_ (w9 e hx);rw [z9 (w9 e hx),z9 (w9 e hdx)];exact e
  ·have hbx:b≠x:=λw=>hb (by rw [w];exact hx);have hbd:b≠dx:=λw=>hb (by rw [w];exact hdx);exact g4 b (by rw [z9 hbx,z9 hbd];exact hb) hbx z
section
variable {P:Program}{w:World}{K:Fg}{mg:Str->Option Value}{base:Heap}
theorem Yw {a:Addr}(s:Same Hs H)(ha:Hs a=none)(t:Top Hs H a y)(r:Reps Hs xs ws):RD [a] Hs H Hs H (L2.start N (.ref a::ws)) (.ow y::xs.map .sh++List.replicate (N.length-(xs.length+1)) .no):=by
 have q:=jO (N:=N) (xs:= .at (.ref a)::xs) s (.cons (rep_at.mpr rfl) r);have tl:∀(i:Nat)(sl:MSlot),(MSlot.ow y::xs.map .sh++List.replicate (N.length-(xs.length+1)) .no)[i+1]?=some sl->((PV.at (.ref a)::xs).map MSlot.sh++List.replicate (N.length-(PV.at (.ref a)::xs).length) .no)[i+1]?=some sl:=λi sl h=>h;refine ⟨.refl _,λb o e _=>e,s,λ_ _ z=>z,λi x h=>?_,λi x h=>?_,λi j x y b h1 h2 _ _=>?_,?_,λb hb=>?_,λb hb=>?_,(λb hb=>⟨_,rfl⟩),λi x h=>by
  cases i with
  |zero=>simp at h
  |succ i=>exact Zv (xs:=PV.at (.ref a)::xs) (tl i _ h)⟩
 ·cases i with
  |zero=>simp at h
  |succ i=>exact q.sh (i+1) x (tl i _ h)
 ·cases i with
  |zero=>simp at h;subst h;exact ⟨a,by unfold L2.start;rfl,.inr (yO.mpr rfl),ha,t⟩
  |succ i=>exact absurd (tl i _ h) (jN (xs:=PV.at (.ref a)::xs))
 ·cases i with
  |zero =>
   cases j with
   |zero=>rfl
   |succ j=>exact absurd (tl j _ h2) (jN (xs:=PV.at (.ref a)::xs))
  |succ i=>exact absurd (tl i _ h1) (jN (xs:=PV.at (.ref a)::xs))
 ·exact q.len
 ·rw [yO.mp hb];unfold L2.start;rfl
 ·rw [yO.mp hb];exact t.there
end
variable {fr:Bool}
structure ItOkB (J:It)(xs:List PV)(Hs H:Hp):Prop where
 go:∀(i:Nat)(x:PV)(Hs1 H1:Hp),xs[i]?=some x->Same Hs Hs1->Same H H1->Same Hs1 H1->J.go i H1/\∀ v H2,J.yld i H1 v H2->∃ Hs2,Ext Hs1 H1 Hs2 H2/\Rep Hs2 x v
 stop:∀(Hs1 H1:Hp),Same Hs Hs1->Same H H1->Same Hs1 H1->J.stop xs.length H1
class JI (ti:TI)(f:MA):Prop where
 h:∀{ε xs},f ε=some xs->∀{Hs0 H0 Hs H U},RS Hs0 H0 Hs H U ε->∀{R:It->Hp->Prop},(∀ J Hs' H',Ext Hs H Hs' H'->ItOkB J xs Hs' H'->R J H')->ti U H R
instance {a:M}[sa:n9 te a]:JI (Qs K te) (p5 a) where
 h:=λe _ _ _ _ _ rs _ q=>by
  obtain ⟨x,ex,e1⟩:=bind_some e;split at e1
  ·cases e1;refine sa.h ex rs λv Hs1 H1 x1 r1=>?_;obtain ⟨p,vs,rfl,hp,r⟩:=qr x1.s3 r1;refine ⟨p,rfl,⟨vs,SqL.of hp⟩,q _ _ _ x1 ⟨λi x Hs2 H2 ei g1 g2 g3=>?_,λHs2 H2 g1 g2 g3=>⟨vs,SqL.of (g2 _ _ hp),by rw [r.length];exact yS _⟩⟩⟩;obtain ⟨v,ev,rv⟩:=r.get ei;refine ⟨⟨vs,v,SqL.of (g2 _ _ hp),ev⟩,λw H3 y=>?_⟩;obtain ⟨rfl,y⟩:=y;have z:=y vs (SqL.of (g2 _ _ hp));rw [ev] at z;cases z;exact ⟨Hs2,.refl g3,rv.mono g1⟩
  ·cases e1
def zR (cap:List (Option Nat))(ts:List Nat)(i:MA)(g:MG)(c:MB)(f:M):M:=λε=>(i ε).bind λxs=>if xD cap ts=true/\xs.length<=lim then (m6 g c f (p9 cap ε) xs).bind λys=>some (.lst ys) else none
instance {cap:List (Option Nat)}{i:MA}{f:M}[si:JI wi i][sg:js tg ts g][sc:qc tt c][sf:SemE te f]:qI (vK wi tg tt te cap) (zR cap ts i g c f) where
 h:=λe Hs0 H0 Hs H U rs Q q=>by
  obtain ⟨xs,ex,e1⟩:=bind_some e;split at e1
  ·rename_i hcl;obtain ⟨hcap,hl⟩:=hcl;unfold xD at hcap;rw [yp] at hcap;obtain ⟨ys,ey,e2⟩:=bind_some e1;cases e2;refine si.h ex rs λJ Hs1 H1 x1 ok=>?_;have rc:=((rs.go x1).cap (yd hcap.1)).rebase;have wk:∀ i∈ts,(u8 cap U)[i]?=some none:=λi hi=>by
    unfold u8;rw [yQ,yd (ya.mp hcap.2 i hi)];rfl
   refine ⟨λk m zs H=>m=xs.length-k/\k<=xs.length/\∃ Hs2 ws,Ext Hs1 H1 Hs2 H/\RS Hs1 H0 Hs2 H (u8 cap U) (p9 cap _)/\Reps Hs2 ws zs/\ws.length<=k/\∃ rest,m6 g c f (p9 cap _) (xs.drop k)=some rest/\ys=ws++rest,
    ⟨xs.length,by simp,yi _,Hs1,[],.refl x1.s3,rc,.nil,yS _,ys,ey,rfl⟩,?_⟩
   rintro k m zs H2 ⟨rfl,hk,Hs2,ws,x2,r2,rz,hw,rest,er,eys⟩;refine ⟨qX (by rw [rz.length];omega),?_⟩;by_cases hlt:k<xs.length
   ·have hd:xs.drop k=xs[k]::xs.drop (k+1):=uZ hlt;rw [hd] at er;unfold m6 at er;obtain ⟨ε1,eg,er1⟩:=bind_some er;obtain ⟨b,eb,er2⟩:=bind_some er1;obtain ⟨go,yl⟩:=ok.go k xs[k] Hs2 H2 (by simp [hlt]) x2.s1 x2.s2 x2.s3;refine .inr ⟨go,λv H3 y=>?_⟩;obtain ⟨Hs3,x3,r3⟩:=yl v H3 y;refine sg.h eg (r2.go x3) r3 λσ2 rs2 bt=>⟨bt.wk wk,sc.h eb rs2 λHs4 H4 x4=>?_⟩;cases b with
    |true =>
     rw [if_pos rfl] at er2;obtain ⟨z,ez,er3⟩:=bind_some er2;obtain ⟨rest',er4,er5⟩:=bind_some er3;cases er5;refine qW (sf.h ez (rs2.go x4) λu Hs5 H5 x5 r5=>⟨xs.length-(k+1),by omega,rfl,hlt,Hs5,ws++[z],x2.trans (x3.trans (x4.trans x5)),((r2.go x3).go x4).go x5,?_,?_,rest',er4,?_⟩)
     ·exact (rz.mono (x3.s1.trans (x4.s1.trans x5.s1))).snoc r5
     ·rw [yF];simp;omega
     ·rw [List.append_assoc];exact eys
    |false=>rw [if_neg yX] at er2;exact qV ⟨xs.length-(k+1),by omega,rfl,hlt,Hs4,ws,x2.trans (x3.trans x4),(r2.go x3).go x4,rz.mono (x3.s1.trans x4.s1),by omega,rest,er2,eys⟩
   ·have ek:k=xs.length:=by omega
    subst ek;rw [uM] at er;unfold m6 at er;cases er;refine .inl ⟨ok.stop Hs2 H2 x2.s1 x2.s2 x2.s3,λD hD=>?_⟩;rw [yB] at eys;subst eys;have x12:=x1.trans x2;exact q D Hs2 _ (x12.trans (.newO x2.s3 hD)) (x12.s2.free hD) (x2.s3.free hD) ⟨zs,u3,rz⟩
  ·cases e1
def dSlS (a:M)(l u:ME->Option (Option Int)):M:=λε=>(a ε).bind λx=>(l ε).bind λlo=>(u ε).bind λhi=>match x,lo,hi with
 | .at (.str z),none,some j=>if z.length<=lim then some (.at (.str (Txt.slice z none (some j)))) else none
 | .at (.str z),some i,none=>if z.length<=lim then some (.at (.str (Txt.slice z (some i) none))) else none
 |_,_,_=>none
instance {tl th:TO}{a:M}{l u:ME->Option (Option Int)}[sa:n9 te a][sl:SemP tl l][su:SemP th u]:SemE (tSlS te tl th) (dSlS a l u) where
 h:=λe _ _ _ _ _ rs _ q=>by
  obtain ⟨x,ex,e1⟩:=bind_some e;obtain ⟨lo,el,e2⟩:=bind_some e1;obtain ⟨hi,eu,e3⟩:=bind_some e2;refine sa.h ex rs λv Hs1 H1 x1 r1=>sl.h el (rs.go x1) λHs2 H2 x2=>su.h eu ((rs.go x1).go x2) λHs3 H3 x3=>?_;split at e3
  ·split at e3
   ·rename_i hz;cases e3;exact ⟨_,y9 r1,qX hz,.inl ⟨rfl,_,rfl⟩,q _ _ _ (x1.trans (x2.trans x3)) (rep_at.mpr rfl)⟩
   ·cases e3
  ·split at e3
   ·rename_i hz;cases e3;exact ⟨_,y9 r1,qX hz,.inr ⟨rfl,_,rfl⟩,q _ _ _ (x1.trans (x2.trans x3)) (rep_at.mpr rfl)⟩
   ·cases e3
  ·cases e3
section
variable {ε:ME}{c d:MB}{f:M}{a b:WS}{N:ME->Prop}{R:PV->ME->Prop}
theorem jT (h:c ε=some false)(k:b ε N R):qP (wPT c) a b ε N R:=by
 refine ⟨false,h,?_⟩;show if false=true then a ε N R else b ε N R
 rw [if_neg yX];exact k
theorem Xl (h:c ε=some true)(k:a ε N R):qP (wPT c) a b ε N R:=by
 refine ⟨true,h,?_⟩;show if true=true then a ε N R else b ε N R
 rw [if_pos rfl];exact k
theorem qA (h1:c ε=some false)(h2:d ε=some false):n6 c d ε=some false:=by unfold n6;rw [h1];show (if false=true then some true else d ε)=_;rw [if_neg yX];exact h2
theorem dOr_r (h1:c ε=some false)(h2:d ε=some true):n6 c d ε=some true:=by unfold n6;rw [h1];show (if false=true then some true else d ε)=_;rw [if_neg yX];exact h2
theorem VX (h1:c ε=some false):zr c d ε=some false:=by unfold zr;rw [h1];rfl
theorem Xy {v:Bool}(h1:c ε=some true)(h2:d ε=some v):zr c d ε=some v:=by unfold zr;rw [h1];show (if true=true then d ε else some false)=_;rw [if_pos rfl];exact h2
theorem n5 (h:c ε=some true):p6 c ε=some false:=by unfold p6;rw [h];rfl
theorem i6 {v:Bool}(h:f ε=some (.at (.bl v))):c3 f ε=some v:=by unfold c3;rw [h];rfl
theorem k9 {v:Bool}(h:f ε=some (.at (.bl v))):dT f ε=some v:=by unfold dT;rw [h];rfl
theorem XN :m8 [.lst xs,.at (.ty "list")]=some (.at (.bl true)):=by unfold m8 tyP;simp only [yM,Dw]
end
variable {fr:Bool}
theorem Xw {g:MG}{f:M}{ε0:ME}{α:Type}(F G:α->PV):∀(l:List α),(∀ a∈l,∃ ε1,g (F a) ε0=some ε1/\f ε1=some (G a))->m6 g k7 f ε0 (l.map F)=some (l.map G)
 |[],_=>rfl
 |a::l,h=>by
  obtain ⟨ε1,e1,e2⟩:=h a yV;have ih:=Xw F G l λb hb=>h b (yW _ hb);show Option.bind (g (F a) ε0) (λε1=>Option.bind (k7 ε1) λb=>if b=true then (f ε1).bind λy=>(m6 g k7 f ε0 (l.map F)).bind λys=>some (y::ys) else m6 g k7 f ε0 (l.map F))=_;rw [e1,ih];show (if true=true then (f ε1).bind λy=>some (y::l.map G) else some (l.map G))=_;rw [if_pos rfl,e2];rfl
theorem VU {g:MG}{c:MB}{f:M}{ε0:ME}{α:Type}(F G:α->PV)(p:α->Bool):∀(l:List α),(∀ a∈l,∃ ε1,g (F a) ε0=some ε1/\c ε1=some (p a)/\(p a=true->f ε1=some (G a)))->m6 g c f ε0 (l.map F)=some ((l.filter p).map G)
 |[],_=>rfl
 |a::l,h=>by
  obtain ⟨ε1,e1,e2,e3⟩:=h a yV;have ih:=VU F G p l λb hb=>h b (yW _ hb);show Option.bind (g (F a) ε0) (λε1=>Option.bind (c ε1) λb=>if b=true then (f ε1).bind λy=>(m6 g c f ε0 (l.map F)).bind λys=>some (y::ys) else m6 g c f ε0 (l.map F))=_;rw [e1,ih];show Option.bind (c ε1) (λb=>if b=true then (f ε1).bind λy=>some (y::(l.filter p).map G) else some ((l.filter p).map G))=_;rw [e2,yM,List.filter_cons];cases hp:p a with
  |true=>rw [if_pos rfl,if_pos rfl,e3 hp];rfl
  |false=>rw [if_neg yX,if_neg yX]
theorem qB {cap:List (Option Nat)}{it:MA}{f:M}(F G:α->PV)(l:List α)(h:it ε=some (l.map F))(hc:xD cap ts=true)(hl:l.length<=lim)(k:∀ a∈l,∃ ε1,g (F a) (p9 cap ε)=some ε1/\f ε1=some (G a)):b8 cap ts it g k7 f ε=some (.lst (l.map G)):=Wg h hc (by rw [yZ];exact hl) (Xw F G l k)
theorem wq {g:MG}{f:MS}{α:Type}(F:α->PV)(I:List α->ME->Prop)(h:∀ a l ε,I (a::l) ε->∃ ε1 ε2,g (F a) ε=some ε1/\f ε1=some (.nx ε2)/\I l ε2):∀(l:List α)(ε:ME),I l ε->∃ ε',xM g f (l.map F) ε=some (.nx ε')/\I [] ε'
 |[],ε,i=>⟨ε,rfl,i⟩
 |a::l,ε,i=>by
  obtain ⟨ε1,ε2,e1,e2,i2⟩:=h a l ε i;obtain ⟨ε',e3,i3⟩:=wq F I h l ε2 i2;refine ⟨ε',?_,i3⟩;show Option.bind (g (F a) ε) (λε1=>Option.bind (f ε1) λo=>match o with
   | .nx ε2=>xM g f (l.map F) ε2
   | .ct ε2=>xM g f (l.map F) ε2
   | .bk ε2=>some (.nx ε2)
   | .rt y=>some (.rt y))=_
  rw [e1,yM,e2];exact e3
section
variable {ε:ME}{a b:M}{v w:Bool}
theorem vi (h1:a ε=some (.at (.bl true)))(h2:b ε=some (.at (.bl w))):zt a b ε=some (.at (.bl w)):=by unfold zt;rw [h1];exact h2
theorem Wi (h1:a ε=some (.at (.bl v))):wf a ε=some (.at (.bl (!v))):=by unfold wf;rw [h1];rfl
theorem GH (h:c ε=some true)(k:a ε=some x):dIf c a b ε=some x:=by unfold dIf;rw [h];exact k
theorem XC (h:c ε=some false)(k:b ε=some x):dIf c a b ε=some x:=by unfold dIf;rw [h];exact k
theorem XB {g g':PV->PV->Option PV}{c:M}{z:PV}{r:Bool}(h1:a ε=some x)(h2:b ε=some y)(h3:g x y=some (.at (.bl true)))(h4:c ε=some z)(h5:g' y z=some (.at (.bl r))):jw g g' a b c ε=some (.at (.bl r)):=by unfold jw;rw [h1,yM,h2,yM,h3];show Option.bind (c ε) _=_;rw [h4];exact h5
theorem wj (h:a ε=some x):zv a ε=some (.nx ε):=by unfold zv;rw [h];rfl
theorem qg:t9 ε=some (.nx ε):=rfl
theorem XD (h:a ε=some (.lst xs)):p5 a ε=some xs:=by unfold p5;rw [h];rfl
theorem zx (h:a ε=some (.ob C ns xs))(k:vo f ns xs=some y):xo C f a ε=some y:=by unfold xo;rw [h,yM];show (if C=C then _ else _)=_;rw [if_pos rfl];exact k
theorem xi {fs:List PV}{y:Option PV}(h:a ε=some (.ob C ns fs))(hn:nm∉ns)(k:as ε=some xs)(e:m (.ob C ns fs::xs)=y):m7 C nm m a as ε=y:=by unfold m7;rw [h,yM];show (if C=C/\nm∉ns then _ else _)=_;rw [if_pos ⟨rfl,hn⟩,k];exact e
theorem Qm {k:Nat}{bd:MS}(hl:xs.length=k)(h:bd (xs.map .sh++List.replicate (n-k) .no)=some (.nx ε')):p0 n k bd xs=some (.at .non):=by unfold p0;rw [if_pos hl,h];rfl
theorem Wo {n:Int}:m8 [.at (.int n),.at (.ty "int")]=some (.at (.bl true)):=by unfold m8 tyP;simp only [yM,Dv]
theorem Wp {n:Int}:m8 [.at (.int n),.at (.ty "bool")]=some (.at (.bl false)):=by unfold m8 tyP;simp only [yM,Du]
theorem XO {n:Str}:m8 [.at (.str n),.at (.ty "str")]=some (.at (.bl true)):=by unfold m8 tyP;simp only [yM,Dx]
theorem XQ {n:List PV}:m8 [.tup n,.at (.ty "tuple")]=some (.at (.bl true)):=by unfold m8 tyP;simp only [yM,Dy]
theorem VC:∀ bs:List Bool,bls (bs.map λb=> .at (.bl b))=some bs
 |[]=>rfl
 |b::bs=>by
  have ih:=VC bs;rw [yP];unfold bls;rw [ih];rfl
theorem UD (bs:List Bool):jd [.lst (bs.map λb=> .at (.bl b))]=some (.at (.bl (bs.all id))):=by show (bls _).bind _=_;rw [VC];rfl
theorem Xo (l:List α):jd [.lst (l.map λ_=> .at (.bl true))]=some (.at (.bl true)):=by
 have e:(l.map λ_=>PV.at (.bl true))=((l.map λ_=>true).map λb=>PV.at (.bl b)):=by rw [yn];rfl
 rw [e,UD];have:(l.map λ_=>true).all id=true:=by simp
 rw [this]
end
def leS (a b:Str):Bool:=!decide (b.cps.toList<a.cps.toList)
def qF (ss:List Str):List Str:=ss.mergeSort leS
theorem Xa (ss:List Str):(qF ss).Perm ss:=List.mergeSort_perm ss leS
theorem Df (ss:List Str):Qd (qF ss):=by
 have:=List.pairwise_mergeSort (le:=leS) (λa b c h1 h2=>by
  unfold leS at h1 h2 ⊢;simp only [Bool.not_eq_true',decide_eq_false_iff_not] at h1 h2 ⊢;exact List.not_lt.mpr (List.le_trans (List.not_lt.mp h1) (List.not_lt.mp h2))) (λa b=>by
  unfold leS;by_cases h:b.cps.toList<a.cps.toList
  ·have h2:¬ (a.cps.toList<b.cps.toList):=λk=>List.lt_irrefl _ (List.lt_trans h k);simp [h2]
  ·simp [h]) ss
 exact this.imp λh=>by unfold leS at h;simpa using h
theorem Jh {ss ss':List Str}(p:ss'.Perm ss)(u:Qd ss'):ss'=qF ss :=
 List.Perm.eq_of_pairwise (λa b _ _ h1 h2=>by
  have e:=List.le_antisymm (List.not_lt.mp h1) (List.not_lt.mp h2);cases a;cases b;simp only [Str.mk.injEq];exact Array.toList_inj.mp e) u (Df ss) (p.trans (Xa ss).symm)
def jS:List PV->Option (List Str)
 |[]=>some []
 | .at (.str s)::xs=>(jS xs).map (s::·)
 |_::_=>none
theorem YN:∀{xs:List PV}{ss:List Str},jS xs=some ss->xs=ss.map λs=> .at (.str s)
 |[],_,h=>by cases h;rfl
 |x::xs,ss,h=>by
  unfold jS at h;split at h
  ·rename_i e;cases e
  ·rename_i s' xs' e;injection e with e1 e2;subst e1 e2;obtain ⟨r,hr,rfl⟩:=yG.mp h;rw [YN hr];rfl
  ·cases h
def zV:List z8->Option (List Str)
 |[]=>some []
 | .inr s::xs=>(zV xs).map (s::·)
 |_::_=>none
theorem XT:∀{xs:List z8}{ss:List Str},zV xs=some ss->xs=ss.map Sum.inr
 |[],_,h=>by cases h;rfl
 |x::xs,ss,h=>by
  unfold zV at h;split at h
  ·rename_i e;cases e
  ·rename_i s' xs' e;injection e with e1 e2;subst e1 e2;obtain ⟨r,hr,rfl⟩:=yG.mp h;rw [XT hr];rfl
  ·cases h
def wC:List PV->Option PV
 |[.lst xs]=>(jS xs).bind λss=>if ss.length<64 then some (.lst ((qF ss).map λs=> .at (.str s))) else none
 |[.dk ks _]=>(zV ks).bind λss=>if ss.length<64 then some (.lst ((qF ss).map λs=> .at (.str s))) else none
 |[.fk ks _]=>(zV ks).bind λss=>if ss.length<64 then some (.lst ((qF ss).map λs=> .at (.str s))) else none
 |_=>none
theorem Zr (ss:List Str):Reps H (ss.map λs=> .at (.str s)) (ss.map V.str):=by have:=Reps.ofAts (H:=H) (ss.map V.str);rwa [yn] at this
instance :Xn (Yq K) wC where
 h:=λ{xs z} e {Hs H vs} s r {Q} q=>by
  unfold wC at e;split at e
  ·obtain ⟨ss,eb,e1⟩:=bind_some e;split at e1
   ·rename_i hl;cases e1;obtain ⟨v,rfl,a⟩:=xK r;obtain ⟨p,ws,rfl,e1,r1⟩:=qr s a;rw [YN eb,show (ss.map λb=>PV.at (.str b))=(ss.map V.str).map .at by rw [yn];rfl] at r1;cases r1.ats;refine ⟨p,ss,rfl,.inl (SqL.of e1),hl,λl ss' hn p1 p2=>?_⟩;rw [Jh p1 p2];exact q l _ _ (.newO s hn) hn (s.free hn) ⟨_,u3,Zr _⟩
   ·cases e1
  ·obtain ⟨ss,eb,e1⟩:=bind_some e;split at e1
   ·rename_i hl;cases e1;obtain ⟨v,rfl,a⟩:=xK r;obtain ⟨p,kvs,rfl,hp,hk,hr⟩:=jk s a;refine ⟨p,ss,rfl,.inr ⟨kvs,.inl hp,by rw [hk,XT eb]⟩,hl,λl ss' hn p1 p2=>?_⟩;rw [Jh p1 p2];exact q l _ _ (.newO s hn) hn (s.free hn) ⟨_,u3,Zr _⟩
   ·cases e1
  ·obtain ⟨ss,eb,e1⟩:=bind_some e;split at e1
   ·rename_i hl;cases e1;obtain ⟨v,rfl,a⟩:=xK r;obtain ⟨p,o,kvs,rfl,hp,hk,hr⟩:=wK s a;refine ⟨p,ss,rfl,.inr ⟨kvs,.inr ⟨o,hp⟩,by rw [hk,XT eb]⟩,hl,λl ss' hn p1 p2=>?_⟩;rw [Jh p1 p2];exact q l _ _ (.newO s hn) hn (s.free hn) ⟨_,u3,Zr _⟩
   ·cases e1
  ·cases e
structure Mkr (P:Program)(w:World)(K:Fg)(mg:Str->Option Value)(base:Heap)(k:Nat)(C:Addr)(ps:List Str)(sp:Sp):Prop where
 ex:∃ f fd,FnOk P w K mg base v3 k f fd ps sp/\Mk K C f/\Binds K fd ps []
theorem WX {k j:Nat}{x:Str}{p:Pos}{es:List Expr}{t:TA}(c:Mkr X.prog X.w X.K X.mg X.base k C ps sp)(hr:Room j X.A)(hj:k+1<=j)(hg:Gl X x)(hm:X.mg x=some (.ref C))(ha:PA X (e::es) t)(hdb:(x==("__debug__":Str))=false:=by decide)(he:starEach (e::es) X.env=(false,eval e X.env)::starEach es X.env:=by rfl)(hpl:(backTo pos (starEach es X.env)).any (·.1)=false:=by rfl):PE X (.Call (.Name x p) (e::es) [] pos) (zJ C sp [] E0 t):=by obtain ⟨f,fd,F,hm',hb⟩:=c.ex;exact WV hm' F (hr.mono hj) hg hm hb .nil wD ha hdb he hpl
structure FunD (K:Fg)(x qual:Str)(st:Stmt)(f:Addr)(fd:FuncData):Prop where
 ex:∃(oc:Value)(od:Option Addr)(dV kV doc pm:Value)(an:Option Addr)(cdv ct:Value)(osl:Array (Option Value)),
  fd=PySem.W.fnOf x qual (xN st) (i0 st) (j5 st) dV kV doc pm an cdv ct/\K.lookup f=some ⟨oc,od,.func fd,osl⟩/\PySem.W.codeIn K cdv qual=true
 kp:PySem.W.keepIn K (.ref f)=true
section
variable {P:Program}{w:World}{K:Fg}{mg:Str->Option Value}{base:Heap}
theorem FunD.ok {x:Str}{f:Addr}{k:Nat}(F:FunD K x qual st f fd)(S:w5 N ps (j5 st))(len:∀ vs H Q E,sp vs H Q E->vs.length=ps.length)(hbody:∀(cdv:Value)(A:Around)(outer:List Env)(s:Shared)(H:Hp)(vs:List V)(Q:VK)(E:XK),Room k (A.deeper (PyProof.Rows.envOfC qual (j5 st) s.heap.objs.size f cdv))->sp vs H Q E -> ∃ t,PSs (ql v3 P w K mg base N qual (j5 st) f cdv A outer s H E).nox (i0 st) t/\t { nx:=λ_ H'=>Q .non H',rt:=Q } (L2.start N vs) H):FnOk P w K mg base v3 (k+1) f fd ps sp:=by obtain ⟨oc,od,dV,kV,doc,pm,an,cdv,ct,osl,rfl,lk,hcd⟩:=F.ex;refine XH lk hcd S len λA outer s H vs Q E hr hsp=>?_;obtain ⟨t,h,q⟩:=hbody cdv A outer s H vs Q E hr hsp;exact ⟨t,h.nox,q⟩
theorem GR {x:Str}{f:Addr}{oc:Value}{od an:Option Addr}{osl:Array (Option Value)}{dV kV doc pm cdv ct:Value}(l:K.lookup f=some ⟨oc,od,.func (PySem.W.fnOf x qual (xN st) (i0 st) (j5 st) dV kV doc pm an cdv ct),osl⟩)(c:PySem.W.codeIn K cdv qual=true)(k:PySem.W.keepIn K (.ref f)=true):FunD K x qual st f (PySem.W.fnOf x qual (xN st) (i0 st) (j5 st) dV kV doc pm an cdv ct):=⟨⟨oc,od,dV,kV,doc,pm,an,cdv,ct,osl,rfl,l,c⟩,k⟩
theorem zi {o value:Expr}{ta:TE}{pos':Pos}(hK:X.K=K)(ha:PE X o ta)(hv:PE X value tv)(hs:swapsWith value (some (.Attribute o f pos')) pos.line X.env=pure false:=by rfl):PS X (.Assign [.Attribute o f pos'] value pos) (jP K ta tv f):=by subst hK;exact PQ ha hv hs
theorem okI' {x:Str}{f:Addr}{k:Nat}(F:FunD K x qual st f fd)(S:w5 N ps (j5 st))(hm:∀ xs y,m xs=some y->xs.length+1=ps.length)(hb:∀(cdv:Value)(A:Around)(outer:List Env)(s:Shared)(H:Hp)(E:XK),Room k (A.deeper (PyProof.Rows.envOfC qual (j5 st) s.heap.objs.size f cdv)) -> ∃ t,PSs (ql v3 P w K mg base N qual (j5 st) f cdv A outer s H E).nox (i0 st) t/\SemWS t b)(hw:∀ xs y,m xs=some y->b (.ow (.ob C [] [])::xs.map .sh++List.replicate (N.length-(xs.length+1)) .no) (λε=>ε[0]?=some (.ow y)) λ_ _=>False):FnOk P w K mg base v3 (k+1) f fd ps (spI C m):=by
 refine F.ok S (λvs H Q E h=>?_) (λcdv A outer s H vs Q E hr h=>?_)
 ·obtain ⟨Hs,x,dx,xs,ws,y,rfl,_,_,_,r,e,_⟩:=h;rw [yx,r.length];exact hm xs y e
 ·obtain ⟨Hs,x,dx,xs,ws,y,rfl,sm,hx,hs,r,e,q⟩:=h;obtain ⟨t,ht,sem⟩:=hb cdv A outer s H E hr;refine ⟨t,ht,sem.h (hw xs y e) (Yw sm hs ⟨dx,[],hx,rfl,.nil⟩ r) (λε U Hs' H' z rd g=>?_) λ_ _ _ _ _ _ z _ _ _=>z.elim⟩;obtain ⟨a,ha,_,n,tp⟩:=rd.ow 0 y z;rw [rd.pin x (yO.mpr rfl)] at ha;injection ha with ha;injection ha with ha;injection ha with ha;subst ha;obtain ⟨o,ho,ro⟩:=tp.rep n;have g2:Same Hs' (j3 Hs' x o):=λb u e=>by rw [z9 (w9 e n)];exact e
  refine q (j3 Hs' x o) H' (g.trans g2) (λb u e hb=>rd.s2 b u e λw=>hb (yO.mp w)) (λb u e=>?_) (λb hb hbx w=>?_) ro
  ·by_cases hbx:b=x
   ·subst hbx;rw [u3] at e;cases e;exact ho
   ·rw [z9 hbx] at e;exact rd.s3 _ _ e
  ·rw [z9 hbx];exact rd.s4 b hb w
end
def zc (C:Addr)(f:Str)(a:M):MS:=λε=>(a ε).bind λy=>match (ε[0]?:Option MSlot) with
 |some (.ow (.ob C' ns xs))=>if C'=C/\f∉ns/\ns.length<1000 then some (.nx (ε.set 0 (.ow (.ob C (ns++[f]) (xs++[y]))))) else none
 |_=>none
def wPN (f:MS):WS:=λε N _=>∃ ε',f ε=some (.nx ε')/\N ε'
theorem Go {a:M}{o:Out}(h:zc C f a ε=some o):∃ y ns xs,a ε=some y/\ε[0]?=some (.ow (.ob C ns xs))/\f∉ns/\ns.length<1000/\o = .nx (ε.set 0 (.ow (.ob C (ns++[f]) (xs++[y])))):=by
 unfold zc at h;obtain ⟨y,ey,h1⟩:=bind_some h;split at h1
 ·rename_i C' ns xs he;split at h1
  ·rename_i hc;cases h1;obtain ⟨rfl,h2,h3⟩:=hc;exact ⟨y,ns,xs,ey,he,h2,h3,rfl⟩
  ·cases h1
 ·cases h1
instance {a:M}[c:qG K C][n:p8 K C f][sa:SemE te a]:SemWS (jP K (qu 0) te f) (wPN (zc C f a)) where
 h:=λ{ε N R} h=>by
  obtain ⟨ε',e,h1⟩:=h;obtain ⟨y,ns,xs,ey,he,h2,h3,e4⟩:=Go e;injection e4 with e4;subst e4;exact SemWS.h (ts:=jP K (qu 0) te f) (w:=Xj C f (wP a)) ⟨y,ey,ns,xs,he,h2,h3,h1⟩
instance {a:M}[sa:SemE te a]:SemWS (qN te) (wPN (zv a)) where
 h:=λ{ε N R} h=>by
  obtain ⟨ε',e,h1⟩:=h;obtain ⟨y,ey,e2⟩:=bind_some e;cases e2;exact SemWS.h (ts:=qN te) (w:=JA (wP a)) ⟨y,ey,h1⟩
instance CZ {a b:MS}[sa:SemWS t (wPN a)][sb:SemWS u (wPN b)]:SemWS (tSeq t u) (wPN (u9 a b)) where
 h:=λ{ε N R} h S Hs0 H0 Hs H U rd D k rt=>by
  obtain ⟨ε',e,h1⟩:=h;obtain ⟨o1,e1,e2⟩:=bind_some e;refine SemWS.h (ts:=tSeq t u) (w:=wSeq (wPN a) (wPN b)) (ε:=ε) (N:=N) (R:=R) ?_ rd k rt;cases o1 with
  |nx ε1=>exact ⟨ε1,e1,ε',e2,h1⟩
  |rt y=>cases e2
  |bk ε1=>cases e2
  |ct ε1=>cases e2
def vf (n k:Nat)(C:Addr)(f:MS):List PV->Option PV:=λxs=>if xs.length+1=k then (f (.ow (.ob C [] [])::xs.map .sh++List.replicate (n-k) .no)).bind λo=>match o with
 | .nx ε=>(match (ε[0]?:Option MSlot) with
  |some (.ow y)=>some y
  |_=>none)
 |_=>none else none
theorem okID {P:Program}{w:World}{mg:Str->Option Value}{base:Heap}{x:Str}{f:Addr}{k:Nat}{b:MS}(F:FunD K x qual st f fd)(S:w5 N ps (j5 st))(hm:m=vf N.length ps.length C b)(hb:∀(cdv:Value)(A:Around)(outer:List Env)(s:Shared)(H:Hp)(E:XK),Room k (A.deeper (PyProof.Rows.envOfC qual (j5 st) s.heap.objs.size f cdv)) -> ∃ t,PSs (ql v3 P w K mg base N qual (j5 st) f cdv A outer s H E).nox (i0 st) t/\SemWS t (wPN b)):FnOk P w K mg base v3 (k+1) f fd ps (spI C m):=by
 subst hm;refine okI' F S (λxs y e=>?_) hb (λxs y e=>?_)
 ·unfold vf at e;split at e
  ·rename_i hl;exact hl
  ·cases e
 ·unfold vf at e;split at e
  ·rename_i hl;obtain ⟨o,eo,e1⟩:=bind_some e;rw [hl];cases o with
   |nx ε =>
    refine ⟨ε,eo,?_⟩;have e2:(match (ε[0]?:Option MSlot) with
     |some (.ow y)=>some y
     |_=>none)=some y:=e1
    show ε[0]?=some (.ow y);split at e2
    ·rename_i z hz;cases e2;exact hz
    ·cases e2
   |rt z=>cases e1
   |bk z=>cases e1
   |ct z=>cases e1
  ·cases e
def zG:List PV->Option (List (z8×PV))
 |[]=>some []
 | .tup [k,v]::xs=>(xR k).bind λkk=>(zG xs).map ((kk,v)::·)
 |_::_=>none
def jJ:List PV->Option PV
 |[.lst xs]=>(zG xs).bind λps=>if (ps.map (·.1)).Nodup/\ps.length<=1000 then some (.fk (ps.map (·.1)) (ps.map (·.2))) else none
 |_=>none
theorem Yc {Hs H:Hp}(s:Same Hs H):∀{xs:List PV}{ps:List (z8×PV)}{vs:List V},zG xs=some ps->Reps Hs xs vs->∃(ts:List Addr)(kvs:List (z8×V)),vs=ts.map V.ref/\Paired (λt (kv:z8×V)=>H t=some (.tup [kV kv.1,kv.2])) ts kvs/\kvs.map (·.1)=ps.map (·.1)/\Reps Hs (ps.map (·.2)) (kvs.map (·.2))
 |[],ps,vs,h,r=>by
  cases h;cases reps_nil.mp r;exact ⟨[],[],rfl,.nil,rfl,.nil⟩
 |x::xs,ps,vs,h,r=>by
  unfold zG at h;split at h
  ·rename_i e;cases e
  ·rename_i k v xs' e;injection e with e1 e2;subst e1 e2;obtain ⟨kk,ek,h1⟩:=bind_some h;obtain ⟨ps',hp,rfl⟩:=yG.mp h1;obtain ⟨w,ws,rfl,r1,r2⟩:=reps_cons.mp r;obtain ⟨t,us,rfl,ht,ru⟩:=rep_tup.mp r1;obtain ⟨u1,us1,rfl,p1,p2⟩:=reps_cons.mp ru;obtain ⟨u2,us2,rfl,p3,p4⟩:=reps_cons.mp p2;cases reps_nil.mp p4;have ew:=zU (H:=H) (.inl p1) ek;subst ew;obtain ⟨ts,kvs,rfl,q1,q2,q3⟩:=Yc s hp r2;exact ⟨t::ts,(kk,u2)::kvs,rfl,.cons (s _ _ ht) q1,by rw [yP,yP,q2],.cons p3 q3⟩
  ·cases h
instance:zM Ym jJ where
 h:=λ{xs z} e {Hs H vs} s r {Q} q=>by
  unfold jJ at e;split at e
  ·obtain ⟨ps,eb,e1⟩:=bind_some e;split at e1
   ·rename_i hl;cases e1;obtain ⟨v,rfl,a⟩:=xK r;obtain ⟨p,ws,rfl,ep,r1⟩:=qr s a;obtain ⟨ts,kvs,rfl,q1,q2,q3⟩:=Yc s eb r1;have hk:kvs.length=ps.length:=by have:=congrArg List.length q2;rwa [yZ,yZ] at this
    refine ⟨p,ts,kvs,rfl,ep,q1,by rw [q2];exact hl.1,by omega,λl o hn=>?_⟩;exact q _ _ _ (.new s hn) (rep_fk.mpr ⟨l,o,kvs,rfl,u3,q2,q3.mono (Ext.new s hn).s1⟩)
   ·cases e1
  ·cases e
def wAsg (g:MG)(a:W):WS:=λε N _=>a ε λx ε1=>∃ ε2,g x ε1=some ε2/\N ε2
instance (priority:=500)[sa:SemW te a][sg:SemWG tg g]:SemWS (xy te tg) (wAsg g a) where
 h:=λh _ _ _ _ _ _ rd _ k _=>sa.h h rd λx ε1 v Hs1 H1 h1 rd1 g1 r1=>by
  obtain ⟨ε2,e,h2⟩:=h1;exact sg.h e rd1 r1 λσ' rd2=>k _ _ _ _ h2 rd2 g1
end Mi
namespace Mi
open PySem PySem.Spec PyProof.Rows L2
variable{ms:List Bool}{xs:List PV}{f:M}{ε:ME}{ts:List Nat}{it:MA}
variable {fr:Bool}
def RepsM (Hs H:Hp):List Bool->List PV->List V->Prop
 |[],xs,vs=>xs=[]/\vs=[]
 |b::ms,xs,vs=>∃ x xr v vr,xs=x::xr/\vs=v::vr/\(if b=true then RepB Hs H x v else Rep Hs x v)/\RepsM Hs H ms xr vr
theorem RepsM.length {Hs H:Hp}:∀{ms:List Bool}{xs:List PV}{vs:List V},RepsM Hs H ms xs vs->xs.length=ms.length/\vs.length=ms.length
 |[],_,_,h=>by rw [h.1,h.2];exact ⟨rfl,rfl⟩
 |b::ms,_,_,h=>by
  obtain ⟨x,xr,v,vr,rfl,rfl,_,r⟩:=h;have q:=RepsM.length r;exact ⟨congrArg (·+1) q.1,congrArg (·+1) q.2⟩
def xV:List Bool->List PV->ME
 |b::ms,x::xs=>(if b=true then .bo x else .sh x)::xV ms xs
 |_,_=>[]
theorem YI:∀{ms:List Bool}{xs:List PV},xs.length=ms.length->(xV ms xs).length=ms.length
 |[],[],_=>rfl
 |_::ms,_::xs,h=>congrArg (·+1) (YI (ms:=ms) (xs:=xs) (by simpa using h))
theorem YH {Hs H:Hp}:∀{ms:List Bool}{xs:List PV}{vs:List V}{i:Nat}{sl:MSlot},RepsM Hs H ms xs vs->(xV ms xs)[i]?=some sl->∃(x:PV)(v:V),vs[i]?=some v/\((sl = .bo x/\RepB Hs H x v)∨(sl = .sh x/\Rep Hs x v))
 |[],_,_,i,sl,h,e=>by rw [h.1] at e;simp [xV] at e
 |b::ms,_,_,0,sl,h,e=>by
  obtain ⟨x,xr,v,vr,rfl,rfl,p,r⟩:=h;simp only [xV,List.getElem?_cons_zero,Option.some.injEq] at e;refine ⟨x,v,rfl,?_⟩;cases b with
  |true=>exact .inl ⟨e.symm,p⟩
  |false=>exact .inr ⟨e.symm,p⟩
 |b::ms,_,_,i+1,sl,h,e=>by
  obtain ⟨x,xr,v,vr,rfl,rfl,p,r⟩:=h;obtain ⟨y,w,h1,h2⟩:=YH (i:=i) (sl:=sl) r (by simpa [xV] using e);exact ⟨y,w,by simpa using h1,h2⟩
theorem YC {N:List Str}{Hs H:Hp}{vs:List V}(s:Same Hs H)(r:RepsM Hs H ms xs vs):RS Hs H Hs H (L2.start N vs) (xV ms xs++List.replicate (N.length-ms.length) .no):=by
 obtain ⟨lx,lv⟩:=r.length;have ls:=YI lx;have at1:∀(i:Nat)(sl:MSlot),(xV ms xs++List.replicate (N.length-ms.length) .no)[i]?=some sl->sl = .no∨∃(x:PV)(v:V),(L2.start N vs)[i]?=some (some v)/\((sl = .bo x/\RepB Hs H x v)∨(sl = .sh x/\Rep Hs x v)):=by
  intro i sl h;by_cases hi:i<ms.length
  ·rw [yf (by rw [ls];exact hi)] at h;obtain ⟨x,v,h1,h2⟩:=YH r h;refine .inr ⟨x,v,?_,h2⟩;unfold L2.start;rw [yf (by rw [yZ,lv];exact hi),yQ,h1];rfl
  ·rw [uX (by rw [ls];omega),uS] at h;split at h
   ·cases h;exact .inl rfl
   ·cases h
 refine ⟨.refl s,λi x h=>?_,λi x h=>?_,λi j x y a h1 _ _ _=>?_,?_,λi x h=>?_⟩
 ·rcases at1 i _ h with z|⟨y,v,hv,⟨z,_⟩|⟨z,q⟩⟩
  ·cases z
  ·cases z
  ·cases z;exact ⟨v,hv,q⟩
 ·rcases at1 i _ h with z|⟨y,v,hv,⟨z,_⟩|⟨z,q⟩⟩<;>cases z
 ·rcases at1 i _ h1 with z|⟨y,v,hv,⟨z,_⟩|⟨z,q⟩⟩<;>cases z
 ·unfold L2.start;rw [yF,yF,yZ,uO,uO,ls,lv]
 ·rcases at1 i _ h with z|⟨y,v,hv,⟨z,q⟩|⟨z,_⟩⟩
  ·cases z
  ·cases z;refine ⟨v,hv,?_⟩;rcases q with q|⟨a,e,n,t⟩
   ·exact .inl q
   ·exact .inr ⟨a,e,t.there,n,t⟩
  ·cases z
class vY (ms:List Bool)(ta:TA)(f:MA):Prop where
 h:∀{ε ys},f ε=some ys->∀{Hs0 H0 Hs H U},RS Hs0 H0 Hs H U ε->∀{Q:List V->Hp->Prop},(∀ vs Hs' H',Ext Hs H Hs' H'->RepsM Hs' H' ms ys vs->Q vs H')->ta U H Q
instance:vY [] xl x0 where
 h:=λe _ _ _ _ _ rs _ q=>by cases e;exact q _ _ _ (.refl rs.sub) ⟨rfl,rfl⟩
instance {te:TE}{ta:TA}{a:M}{f:MA}[sa:SemE te a][sr:vY ms ta f]:vY (false::ms) (qt te ta) (q9 a f) where
 h:=λe _ _ _ _ _ rs _ q=>by
  obtain ⟨x,ex,e⟩:=bind_some e;obtain ⟨xs,ey,e⟩:=bind_some e;cases e;exact sa.h ex rs λv Hs1 H1 x1 r1=>sr.h ey (rs.go x1) λvs Hs2 H2 x2 r2=>q _ _ _ (x1.trans x2) ⟨_,_,_,_,rfl,rfl,r1.mono x2.s1,r2⟩
def wc (n:Nat)(ms:List Bool)(f:MS):List PV->Option PV:=λxs=>if xs.length=ms.length then (f (xV ms xs++List.replicate (n-ms.length) .no)).bind λo=>match o with
 | .rt y=>some y
 | .nx _=>some (.at .non)
 |_=>none else none
section
variable {P:Program}{w:World}{K:Fg}{mg:Str->Option Value}{base:Heap}
theorem GG {n:Nat}{b:MS}{y:PV}(hl:xs.length=ms.length)(h:b (xV ms xs++List.replicate (n-ms.length) .no)=some (.rt y)):wc n ms b xs=some y:=by unfold wc;rw [if_pos hl,h];rfl
theorem GE {cap:List (Option Nat)}{G:MG}{c:MB}{ys:List PV}(h:it ε=some xs)(hc:xD cap ts=true)(hl:xs.length<=lim)(k:m6 G c f (p9 cap ε) xs=some ys):zR cap ts it G c f ε=some (.lst ys):=by unfold zR;rw [h];show (if _ then _ else _)=_;rw [if_pos ⟨hc,hl⟩,k];rfl
theorem GD {cap:List (Option Nat)}{g:MG}{α:Type}(F G:α->PV)(l:List α)(h:it ε=some (l.map F))(hc:xD cap ts=true)(hl:l.length<=lim)(k:∀ a∈l,∃ ε1,g (F a) (p9 cap ε)=some ε1/\f ε1=some (G a)):zR cap ts it g k7 f ε=some (.lst (l.map G)):=GE h hc (by rw [yZ];exact hl) (Xw F G l k)
end
end Mi
namespace L2
open PySem PySem.Spec PyProof.Rows
variable{pl:Sem Bool}
theorem Ph {P:Program}{w:World}{X:Cx}:zm (CX1 P w) X E0:=λ_ _ _ _ _ _ _ h=>by
 obtain ⟨_,_,_,_,_,_,_,_,_,q⟩:=h;exact q.elim
structure Mx (P:Program)(w:World)(K:Fg)(mg:Str->Option Value)(base:Heap)(k:Nat)(C:Addr)(m:Str)(ps:List Str)(sp:Sp):Prop where
 ex:∃ f fd,FnOk P w K mg base (CX1 P w) k f fd ps sp/\jV K C m f/\Cls K C/\Binds K fd ps []
def Qb (CX:CXT)(X:Cx)(U:St)(E:XK):Prop:=∀(pins:List (Addr×Obj))(H:Hp)(s:Shared)(e:Value)(s':Shared),Inv X pins U H s->CX X.stack H s E e s'->X.xe e s'
def PEa (X:Cx)(U:St)(e:Expr)(t:TE):Prop:=∀(pins:List (Addr×Obj))(s:Shared)(H:Hp)(Q:VK),Inv X pins U H s->t U H Q->wpAny (model X.prog X.w) X.A (eval e X.env) (EP X pins U Q) X.xe s
def PSa (X:Cx)(U:St)(st:Stmt)(t:TS):Prop:=∀(pins:List (Addr×Obj))(s:Shared)(H:Hp)(D:qk),Inv X pins U H s->t D U H->wpAny (model X.prog X.w) X.A (exec st X.env) (SP X pins D) X.xe s
def PSsa (X:Cx)(U:St)(st:List Stmt)(t:TS):Prop:=∀(pins:List (Addr×Obj))(s:Shared)(H:Hp)(D:qk),Inv X pins U H s->t D U H->wpAny (model X.prog X.w) X.A (execs st X.env) (SP X pins D) X.xe s
section
variable {X:Cx}{k j:Nat}{C:Addr}{m x:Str}{ps:List Str}{sp:Sp}{o e c:Expr}{es:List Expr}{te ta:TE}{t:TA}{tc:TT}{apos pos p:Pos}{E:XK}{U:St}{st:Stmt}{a b:List Stmt}{u v:TS}
theorem pe_mx (c:Mx X.prog X.w X.K X.mg X.base k C m ps sp)(hr:Room j X.A)(hj:k<=j)(hx:zm (CX1 X.prog X.w) X E)(ho:PE X o ta)(ha:PA X (e::es) t)
  (hst:starEach (e::es) X.env=(false,eval e X.env)::starEach es X.env:=by rfl) (hpl:(backTo pos (starEach es X.env)).any (·.1)=false:=by rfl)
  (ht:eval (.Call (.Attribute o m apos) (e::es) [] pos) X.env=(do
   let ov <- eval o X.env
   standAt apos.atName
   let (f,first) <- holding [ov] (getMethod ov m pl)
   callWith pos f first (backTo pos (starEach (e::es) X.env)) (backToKw pos (keywordEach [] X.env))):=by rfl) :
  PE X (.Call (.Attribute o m apos) (e::es) [] pos) (xc C m sp [] E ta t):=by
 obtain ⟨f,fd,F,hm,hc,hb⟩:=c.ex;exact WW ho hc hm F (hr.mono hj) hb .nil hx ha hst hpl ht
theorem PY (h1:PSa X U st u):PSsa X U [st] u:=by
 intro pins s H D I h;refine wpAny_execs_cons (z6 (h1 pins s H D I h) λf s1 q=>?_);cases f with
 |next=>exact wpAny_execs_nil q
 |ret v=>exact q
 |brk=>exact q
 |cont=>exact q
theorem PX (he:PEa X U e te)(hs:swapsWith e none pos.line X.env=pure false:=by rfl):PSa X U (.Expr e pos) (qN te):=by intro pins s H D I h;exact wpAny_Expr_any (z6 (he pins s H _ I h) λv s1 ⟨x,H1,I1,r1,q1⟩=>⟨U,H1,I1,q1⟩) I.quiet hs
theorem Cr {CX:CXT}{f:Addr}{fd:FuncData}{pins:List (Addr×Obj)}{H:Hp}{s:Shared}{Q:VK}{us:List Value}{vs:List V}(F:FnOk X.prog X.w X.K X.mg X.base CX k f fd ps sp)(hr:Room k X.A)(hb:Binds X.K fd ps [])(hx:Qb CX X U E)(I:Inv X pins U H s)(r:Vals vs us)(h:sp (vs++[]) H Q E):wpAny (model X.prog X.w) X.A (call (.ref f) us) (EP X pins U Q) X.xe s:=by
 have r2:Vals (vs++[]) (us++[]):=r.append .nil;have hl:(us++[]).length=ps.length:=by rw [<- r2.length];exact F.len _ _ _ _ h
 refine wpAny_call (codeAny_mono (F.run X.A X.stack s H ⟨us,[]⟩ (us++[]) (vs++[]) Q E hr I.env0 (hb s us I.kIn hl) r2 h) λr s' hq=>?_);cases r with
 |error e=>exact hx pins H s e s' I hq
 |ok fl =>
  cases fl with
  |ret u=>exact I.after hq
  |next=>exact False.elim hq
  |brk=>exact False.elim hq
  |cont=>exact False.elim hq
theorem Pu (c:Mx X.prog X.w X.K X.mg X.base k C m ps sp)(hr:Room j X.A)(hj:k<=j)(hx:Qb (CX1 X.prog X.w) X U E)(he:PE X o ta)(ha:PA X (e::es) t)
  (hst:starEach (e::es) X.env=(false,eval e X.env)::starEach es X.env:=by rfl) (hpl:(backTo pos (starEach es X.env)).any (·.1)=false:=by rfl)
  (ht:eval (.Call (.Attribute o m apos) (e::es) [] pos) X.env=(do
   let ov <- eval o X.env
   standAt apos.atName
   let (f,first) <- holding [ov] (getMethod ov m pl)
   callWith pos f first (backTo pos (starEach (e::es) X.env)) (backToKw pos (keywordEach [] X.env))):=by rfl) :
  PEa X U (.Call (.Attribute o m apos) (e::es) [] pos) (xc C m sp [] E ta t):=by
 obtain ⟨f,fd,F,hm,hc,hb⟩:=c.ex;intro pins s H Q I h;refine PySem.W.methodCall_KW (pl:=pl) (z6 (he pins s U H _ I h) λu s1 ⟨x,H1,I1,rx,a,dx,fs,ex,ea,l,q⟩=>?_) ht;subst ex;obtain rfl:u=Value.ref a:=rx;refine Qq I1 ea hc hm l ?_;refine PySem.W.callWith_K (first:=[.ref a]) (h₀:=X.base) I.ok.mod.kin hm.kp (z6 (ha pos pins s1 U H1 _ I1 q) λus s2 ⟨vs,H2,I2,r,q2⟩=>⟨I2.kIn,?_⟩) hst hpl;exact Cr (us:= .ref a::us) (vs:= .ref a::vs) F (hr.mono hj) hb hx I2 (.cons rfl r) q2
end
def YZ (K:Fg)(D0:Addr)(cs:List Addr)(i:Nat)(tb:XK->TS)(ts:Addr->Addr->TS):TS:=λD U H=>∃ E:XK,(∀ cls H',E cls none H'->∃ c,c∈cs/\cls = .ref c/\PySem.W.exmOne K cls (.ref D0)=some true)/\tb E D U H /\
 ∀(ea c:Addr)(H':Hp),E (.ref c) none H'->ts ea c { nx:=λσ2 H2=>D.nx (σ2.set i none) H2,rt:=D.rt,bk:=λσ2 H2=>D.bk (σ2.set i none) H2,ct:=λσ2 H2=>D.ct (σ2.set i none) H2 } (U.set i (some (.ref ea))) H'
section
variable {X:Cx}{K:Fg}{x n:Str}{i:Nat}{D0:Addr}{cs:List Addr}{body suite:List Stmt}{b₀:Stmt}{tb:XK->TS}{ts:Addr->Addr->TS}{np hpos pos:Pos}
theorem PU (hK:X.K=K)(hex:X.ex=[])(hst:X.stack=X.env::X.outer)(hf:X.env.frame=some X.env.locals)(hgx:Gl X x)(hmx:X.mg x=some (.ref D0))(hN:X.N.Nodup)(hi:X.N[i]?=some n)(hl:X.env.kindOf n=some .local)(hfn:X.fn n=true)(hb:∀ (E:XK) (U:St) (pn:List (Addr×Obj)) (W:Value->Shared->Prop),Qb (CX1 X.prog X.w) (X.tried pn W) U E->PSsa (X.tried pn W) U body (tb E))(hs:∀ (pn:List (Addr×Obj)) (ea:Addr) (oe:Obj) (c:Addr),oe.cls = .ref c->c∈cs->(ea,oe)∈pn->PSs (X.suite pn ea) (b₀::suite) (ts ea c))(hd:(x==("__debug__":Str))=false:=by decide):PS X (.Try body [.ExceptHandler (some (.Name x np)) (some n) (b₀::suite) hpos] [] [] pos) (YZ K D0 cs i tb ts):=by
 subst hK;intro pins s U H D I h;obtain ⟨E,hm,h1,h2⟩:=h
 let W:Value->Shared->Prop:=λe s'=>∃(H' H1:Hp)(s1:Shared)(ea:Addr)(cls:Value),e = .ref ea/\Inv X pins U H' s'/\Fly s1.heap s'.heap H' ea cls/\Inv X pins U H1 s1/\E cls none H'
 have ps:Qb (CX1 X.prog X.w) (X.tried (X.pn++pins) W) U E:=by intro p2 H1 s1 e s' I1 q;obtain ⟨ea,cls,H',rfl,os,bare,un,hok,F,q⟩:=q;have I0:Inv X pins U H1 s1:=I1.untried I.ok;exact ⟨H',H1,s1,ea,cls,rfl,I0.call' (ch:=[]) os un hok bare (λb z=>nomatch z),F,I0,q⟩
 refine wpAny_Try_except (wpAny_mono (hb E U _ W ps [] s H D (I.tried W) h1) (λf s1 q=>?_) λe s1 q=>?_)
 ·have q':=SP.untried I.ok q;cases f with
  |next=>exact wpAny_execs_nil q'
  |brk=>exact q'
  |cont=>exact q'
  |ret u=>exact q'
 obtain ⟨H',H1,s0,ea,cls,rfl,I',F,I0,q⟩:=q;obtain ⟨c,hcs,rfl,hexm⟩:=hm cls H' q;obtain ⟨⟨oe,vs,T,oT,ts',a0,e1,e2,e3,e4,e5,e6,e7,e8,e9,e10,e11⟩,e12,e13⟩:=F;have apE:=I0.apart hex e13;have apT:=I0.apart hex e11;have hS:∀ c∈[ea,T],H' c=none/\Xm X pins c:=λc hc=>by
  have z:c=ea∨c=T:=by simpa using hc
  rcases z with rfl|rfl
  ·exact ⟨e12,apE⟩
  ·exact ⟨e10,apT⟩
 have fr:=I'.stack;have hin:∀ y∈X.stack,∀ b,y.frame=some b->b∈[ea,T]++p7 X.stack:=λy hy b hb=>yC _ (Zb hy hb);have fl:Heap.FlyingW (PySem.W.hideAll s1.heap ([ea,T]++p7 X.stack)) X.stack ea (.ref c) a0 s1.heap :=
  ⟨λb o q=>PySem.W.of_hideAll _ q,PySem.W.hideAll_none _ (yk _ (by simp)),PySem.W.funFrames_hide fr hin,oe,vs,T,oT,ts',e1,⟨e2,e3⟩,e4,e5,PySem.W.hideAll_none _ (yk _ (by simp)),e6,e7,e8,e9⟩
 have fr':X.A.frames=some (X.env::X.outer):=by rw [<- hst];exact I'.ok.frames
 refine wpAny_looks_onW (outer:=X.outer) fr' hf (by rw [<- hst];exact fl) λh4 held4 up4=>wpAny_landsW held4 λh5 fl5 up5=>?_;rw [<- hst] at fl5;have up45:=Heap.UpToSlots.trans up4 up5;have K5:=YL fr fl5.1 up45;have I5:=I'.flown hf hst hS K5;obtain ⟨oe5,vs5,g1,g2,g3,g4⟩:=fl5.first
 have J5:=I5.suite g1 e12 apE.loc apE.fs (λv z=>by rw [g3] at z;cases z);refine wpAny_handleBy_cons (codeAny_handlers_test (wo J5 hgx hmx ?_ hd)) (by intro z;cases z);have LT:PySem.W.Looks (model X.prog X.w) h5 (typeOf (.ref ea)) (.ref c):=g2▸(PySem.W.Looks.ld g1).andThen .now;refine (PySem.W.exm_one I5.kIn LT hexm).here ?_;refine codeAny_handlers_suite_as (lands_againW fl5 λh6 fl6 up6=>?_);have K6:=YL fr fl6.1 (Heap.UpToSlots.trans up45 up6);have I6:=I'.flown hf hst hS K6;obtain ⟨oe6,vs6,k1,k2,k3,k4⟩:=fl6.first
 have J6:=I6.suite k1 e12 apE.loc apE.fs (λv z=>by rw [k3] at z;cases z);refine Jj (X:=X.suite (X.pn++pins++[(ea,oe6)]) ea) J6 hN hi (.inl hl) (v:= .ref ea) rfl (λs7 I7=>?_) (.inl hfn);refine wpAny_mono (hs _ ea oe6 c k2 hcs (yC _ (by simp)) [] s7 _ H' _ I7 (h2 ea c H' q)) (λf s8 q8=>?_) (λ_ _ z=>z.elim);cases f with
 |next=>obtain ⟨σ8,H8,I8,q⟩:=q8;exact Inv.goes (I8.unsuite I.ok) hN hi hl λs9 I9=>⟨_,_,I9,q⟩
 |brk=>obtain ⟨σ8,H8,I8,q⟩:=q8;exact Inv.goes (I8.unsuite I.ok) hN hi hl λs9 I9=>⟨_,_,I9,q⟩
 |cont=>obtain ⟨σ8,H8,I8,q⟩:=q8;exact Inv.goes (I8.unsuite I.ok) hN hi hl λs9 I9=>⟨_,_,I9,q⟩
 |ret u=>obtain ⟨v,σ8,H8,I8,r,q⟩:=q8;exact Inv.goes (I8.unsuite I.ok) hN hi hl λs9 I9=>⟨v,_,_,I9,r,q⟩
end
end L2
namespace Mi
open PySem L2
variable{E:XK}{C ea f:Addr}{t u:TS}{qual:Str}{st:Stmt}{fd:FuncData}{N ps:List Str}{b:MS}{m:List PV->Option PV}{K:Fg}{cs:List Addr}
abbrev XM:=ME->Addr->Prop
variable{xa xb:XM}
class JL (E:XK)(te:TE)(f:XM):Prop where
 h:∀{ε c},f ε c->∀{Hs0 H0 Hs H U},RS Hs0 H0 Hs H U ε->(∀ Hs' H',Ext Hs H Hs' H'->E (.ref c) none H')->∀{Q:VK},te U H Q
class JK (E:XK)(ts:TS)(f:XM):Prop where
 h:∀{ε c},f ε c->∀{Hs0 H0 Hs H U},RS Hs0 H0 Hs H U ε->(∀ Hs' H',Ext Hs H Hs' H'->E (.ref c) none H')->∀{D:qk},ts D U H
class zo (E:XK)(ts:TS)(f:XM):Prop where
 h:∀{ε c},f ε c->∀{Hs0 H0 Hs H U},RS Hs0 H0 Hs H U ε->(∀ Hs' H',Ext Hs0 H0 Hs' H'->E (.ref c) none H')->∀{D:qk},ts D U H
def xNo:XM:=λ_ _=>False
instance (priority:=2000){ts:TS}:zo E ts xNo where
 h:=λh=>h.elim
def Uu (C:Addr):XM:=λ_ c=>c=C
instance :zo E (Jm C E) (Uu C) where
 h:=λh _ _ _ _ _ rs q _=>by cases h;exact q _ _ rs.ext
instance {fr:Bool}:r9 fr (Jm C E) xp where
 h:=λe=>by cases e
def xSeq (fr:Bool)(a:MS)(xa xr:XM):XM:=λε c=>xa ε c∨∃ ε',a ε=some (.nx ε')/\xr ε' c
instance {fr:Bool}{a:MS}{xr:XM}[sa:r9 fr t a][s1:zo E t xa][s2:zo E u xr]:zo E (tSeq t u) (xSeq fr a xa xr) where
 h:=λh _ _ _ _ _ rs q D=>by
  rcases h with h|⟨ε',e,h⟩
  ·exact s1.h h rs q
  ·exact sa.h e rs λHs H U r=>s2.h h r q
def xIf (c:MB)(xa xb:XM):XM:=λε k=>∃ b,c ε=some b/\if b=true then xa ε k else xb ε k
instance {t:TT}{ta tb:TS}{c:MB}[sc:qc t c][sa:zo E ta xa][sb:zo E tb xb]:zo E (wN t ta tb) (xIf c xa xb) where
 h:=λh _ _ _ _ _ rs q _=>by
  obtain ⟨b,e,h⟩:=h;refine sc.h e rs λHs1 H1 x1=>?_;cases b with
  |true=>exact qW (sa.h (by simpa using h) (rs.go x1) q)
  |false=>exact qV (sb.h (by simpa using h) (rs.go x1) q)
def xX (f:XM):XM:=f
instance {te:TE}{f:XM}[s:JL E te f]:JK E (qN te) (xX f) where
 h:=λh _ _ _ _ _ rs q _=>s.h h rs q
def jR (ms:List Bool)(m:List PV->Option PV)(x:List PV->Addr->Prop):Sp:=λvs H Q E=>∃ Hs xs,Same Hs H/\RepsM Hs H ms xs vs/\((∃ y,m xs=some y/\∀ v Hs' H',Ext Hs H Hs' H'->Rep Hs' y v->Q v H')∨∃ c,x xs c/\∀ Hs' H',Ext Hs H Hs' H'->E (.ref c) none H')
section
variable {ms:List Bool}{m:List PV->Option PV}{x:List PV->Addr->Prop}{ta:TA}{as:MA}{E:XK}{C:Addr}{nm:Str}{te:TE}{a:M}
instance [so:SemE te a][sa:vY ms ta as]:SemE (xc C nm (jR (false::ms) m x) [] E te ta) (m7 C nm m a as) where
 h:=λe _ _ _ _ _ rs _ q=>by
  obtain ⟨ns,fs,xs,ea,hn,e1,e2⟩:=we e;refine so.h ea rs λv Hs1 H1 x1 r1=>?_;obtain ⟨p,dx,gs,rfl,hp,hk,hr⟩:=rep_ob.mp r1;refine ⟨p,dx,gs,rfl,x1.s3 _ _ hp,vp (by rw [hk];exact hn),sa.h e1 (rs.go x1) λvs Hs2 H2 x2 r2=>?_⟩;exact ⟨Hs2,_,x2.s3,by rw [yB];exact ⟨_,_,_,_,rfl,rfl,r1.mono x2.s1,r2⟩,.inl ⟨_,e2,λv Hs' H' x r=>q v _ _ (x1.trans (x2.trans x)) r⟩⟩
def Ut (C:Addr)(nm:Str)(x:List PV->Addr->Prop)(a:M)(as:MA):XM:=λε c=>∃ ns fs xs,a ε=some (.ob C ns fs)/\nm∉ns/\as ε=some xs/\x (.ob C ns fs::xs) c
instance [so:SemE te a][sa:vY ms ta as]:JL E (xc C nm (jR (false::ms) m x) [] E te ta) (Ut C nm x a as) where
 h:=λh _ _ _ _ _ rs q _=>by
  obtain ⟨ns,fs,xs,ea,hn,e1,h⟩:=h;refine so.h ea rs λv Hs1 H1 x1 r1=>?_;obtain ⟨p,dx,gs,rfl,hp,hk,hr⟩:=rep_ob.mp r1;refine ⟨p,dx,gs,rfl,x1.s3 _ _ hp,vp (by rw [hk];exact hn),sa.h e1 (rs.go x1) λvs Hs2 H2 x2 r2=>?_⟩;exact ⟨Hs2,_,x2.s3,by rw [yB];exact ⟨_,_,_,_,rfl,rfl,r1.mono x2.s1,r2⟩,.inr ⟨_,h,λHs' H' x=>q _ _ (x1.trans (x2.trans x))⟩⟩
end
def xFnB (n:Nat)(ms:List Bool)(f:XM):List PV->Addr->Prop:=λxs c=>xs.length=ms.length/\f (xV ms xs++List.replicate (n-ms.length) .no) c
section
variable {P:Program}{w:World}{K:Fg}{mg:Str->Option Value}{base:Heap}
theorem okPX {y:Str}{k:Nat}{ms:List Bool}{x:List PV->Addr->Prop}(F:Fun K y qual st f fd)(S:w5 N ps (j5 st))(hm:m=wc N.length ms b)(hx:x=xFnB N.length ms xb)(hk:ms.length=ps.length)(hb:∀(cdv:Value)(A:Around)(outer:List Env)(s:Shared)(H:Hp)(E:XK),Room k (A.deeper (PyProof.Rows.envOfC qual (j5 st) s.heap.objs.size f cdv)) -> ∃ t,PSs (ql (CX1 P w) P w K mg base N qual (j5 st) f cdv A outer s H E) (i0 st) t/\r9 false t b/\zo E t xb):FnOk P w K mg base (CX1 P w) (k+1) f fd ps (jR ms m x):=by
 subst hm;subst hx;refine F.ok1 S (λvs H Q E h=>?_) (λcdv A outer s H vs Q E hr h=>?_)
 ·obtain ⟨Hs,xs,_,r,_⟩:=h;rw [r.length.2];exact hk
 ·obtain ⟨Hs,xs,sm,r,h⟩:=h;obtain ⟨t,ht,sem,semx⟩:=hb cdv A outer s H E hr;refine ⟨t,ht,?_⟩;rcases h with ⟨y,e,q⟩|⟨c,h,q⟩
  ·unfold wc at e;split at e
   ·obtain ⟨o,eo,e1⟩:=bind_some e;refine sem.h eo (YC sm r) ?_;cases o with
    |rt z=>cases e1;exact λv Hs' H' x rv=>q v Hs' H' x rv
    |nx ε=>cases e1;exact λHs' H' U rs=>q _ Hs' H' rs.ext (rep_at.mpr rfl)
    |bk ε=>cases e1
    |ct ε=>cases e1
   ·cases e
  ·exact semx.h h.2 (YC sm r) q
end
abbrev RM:=ME->Out->Prop
class vb (fr:Bool)(ts:TS)(r:RM):Prop where
 h:∀{ε o},r ε o->∀{Hs0 H0 Hs H U},RS Hs0 H0 Hs H U ε->∀{D:qk},OutK fr Hs0 H0 D o->ts D U H
variable {fr:Bool}
def rP (b:MS):RM:=λε o=>b ε=some o
instance [s:r9 fr t b]:vb fr t (rP b) where
 h:=λe=>s.h e
def rSeq (a b:RM):RM:=λε o=>(∃ ε',a ε (.nx ε')/\b ε' o)∨(∃ y,o = .rt y/\a ε (.rt y))
instance {a b:RM}[sa:vb fr t a][sb:vb fr u b]:vb fr (tSeq t u) (rSeq a b) where
 h:=λh _ _ _ _ _ rs D q=>by
  rcases h with ⟨ε',h1,h2⟩|⟨y,rfl,h⟩
  ·exact sa.h h1 rs λHs H U r=>sb.h h2 r q
  ·exact sa.h h rs q
theorem RS.drop {Hs0 H0 Hs H:Hp}{U:St}{ε:ME}(r:RS Hs0 H0 Hs H U ε)(i:Nat):RS Hs0 H0 Hs H (U.set i none) (ε.set i .no):=by
 have dn:∀(j:Nat)(s:MSlot),(ε.set i .no)[j]?=some s->s = .no∨(i≠j/\ε[j]?=some s):=λj s q=>by
  rw [yN] at q;split at q
  ·split at q
   ·cases q;exact .inl rfl
   ·cases q
  ·rename_i h;exact .inr ⟨h,q⟩
 have up:∀(j:Nat),i≠j->(U.set i none)[j]?=U[j]?:=λj h=>yH h;refine ⟨r.ext,λj x q=>?_,λj x q=>?_,λj k x y a h1 h2 h3 h4=>?_,by rw [yt,yt,r.len],λj x q=>?_⟩
 ·rcases dn j _ q with z|⟨h,q⟩
  ·cases z
  ·rw [up j h];exact r.sh j x q
 ·rcases dn j _ q with z|⟨h,q⟩
  ·cases z
  ·rw [up j h];exact r.ow j x q
 ·rcases dn j _ h1 with z|⟨g1,q1⟩
  ·cases z
  ·rcases dn k _ h2 with z|⟨g2,q2⟩
   ·cases z
   ·rw [up j g1] at h3;rw [up k g2] at h4;exact r.nd j k x y a q1 q2 h3 h4
 ·rcases dn j _ q with z|⟨h,q⟩
  ·cases z
  ·rw [up j h];exact r.bo j x q
def clr (i:Nat):Out->Out
 | .nx ε=> .nx (ε.set i .no)
 | .bk ε=> .bk (ε.set i .no)
 | .ct ε=> .ct (ε.set i .no)
 | .rt y=> .rt y
def rTry (K:Fg)(D0:Addr)(cs:List Addr)(i:Nat)(b:MS)(xb:XM)(s:Addr->Addr->MS):RM:=λε o=>b ε=some o∨∃ c,c∈cs/\PySem.W.exmOne K (.ref c) (.ref D0)=some true/\xb ε c/\∀ ea:Addr,∃ o',s ea c (ε.set i (.sh (.at (.ref ea))))=some o'/\clr i o'=o
instance {D0:Addr}{i:Nat}{tb:XK->TS}{ts:Addr->Addr->TS}{s:Addr->Addr->MS}[sb:∀ E,r9 fr (tb E) b][sx:∀ E,JK E (tb E) xb][ss:∀ ea c,r9 fr (ts ea c) (s ea c)]:vb fr (YZ K D0 cs i tb ts) (rTry K D0 cs i b xb s) where
 h:=λ{ε o} h Hs0 H0 Hs H U rs D q=>by
  rcases h with h|⟨c,hc,hm,hx,hs⟩
  ·exact ⟨E0,λ_ _ z=>z.elim,(sb E0).h h rs q,λ_ _ _ z=>z.elim⟩
  ·refine ⟨λcls _ H'=>cls = .ref c/\∃ Hs',Ext Hs H Hs' H',λcls H' z=>⟨c,hc,z.1,by rw [z.1];exact hm⟩,(sx _).h hx rs λHs' H' x=>⟨rfl,Hs',x⟩,λea c' H' z=>?_⟩;obtain ⟨z1,Hs',x⟩:=z;cases z1;obtain ⟨o',e',rfl⟩:=hs ea;refine (ss ea c).h e' ((rs.go x).put (i:=i) (x:= .at (.ref ea)) (v:= .ref ea) (rep_at.mpr rfl)) ?_;cases o' with
   |nx ε2=>exact λHs2 H2 σ2 r2=>q _ _ _ (r2.drop i)
   |bk ε2=>exact λHs2 H2 σ2 r2=>q _ _ _ (r2.drop i)
   |ct ε2=>exact λHs2 H2 σ2 r2=>q _ _ _ (r2.drop i)
   |rt y=>exact q
def rFn (n k:Nat)(r:RM):List PV->PV->Prop:=λxs y=>xs.length=k/\∃ o,r (xs.map .sh++List.replicate (n-k) .no) o/\match o with
 | .rt z=>y=z
 | .nx _=>y = .at .non
 |_=>False
section
variable {P:Program}{w:World}{K:Fg}{mg:Str->Option Value}{base:Heap}
theorem okT {x:Str}{k:Nat}{r:RM}(F:Fun K x qual st f fd)(S:w5 N ps (j5 st))(hm:∀ xs y,m xs=some y->rFn N.length ps.length r xs y)(hb:∀(cdv:Value)(A:Around)(outer:List Env)(s:Shared)(H:Hp)(E:XK),Room k (A.deeper (PyProof.Rows.envOfC qual (j5 st) s.heap.objs.size f cdv)) -> ∃ t,PSs (ql v3 P w K mg base N qual (j5 st) f cdv A outer s H E).nox (i0 st) t/\vb false t r):FnOk P w K mg base v3 (k+1) f fd ps (v5 m):=by
 refine F.ok S (λvs H Q E h=>?_) (λcdv A outer s H vs Q E hr h=>?_)
 ·obtain ⟨Hs,xs,y,_,r,e,_⟩:=h;rw [r.length];exact (hm xs y e).1
 ·obtain ⟨Hs,xs,y,sm,rr,e,q⟩:=h;obtain ⟨t,ht,sem⟩:=hb cdv A outer s H E hr;refine ⟨t,ht,?_⟩;obtain ⟨hl,o,eo,e1⟩:=hm xs y e;refine sem.h eo (by rw [<- hl];exact jO sm rr) ?_;cases o with
  |rt z=>have e2:y=z:=e1;subst e2;exact λv Hs' H' x rv=>q v Hs' H' x rv
  |nx ε=>have e2:y = .at .non:=e1;subst e2;exact λHs' H' U rs=>q _ Hs' H' rs.ext (rep_at.mpr rfl)
  |bk ε=>exact e1.elim
  |ct ε=>exact e1.elim
end
def i4:V->Option Value
 | .ref a=>some (.ref a)
 | .ty n=>some (.type n)
 |_=>none
theorem Uh {v:V}{d:Value}(h:i4 v=some d):∀ u,RelV v u->u=d:=by
 intro u r;unfold i4 at h;split at h
 ·cases h;exact r
 ·cases h;exact r
 ·cases h
def wS:List V->Option (List Value)
 |[]=>some []
 |v::vs=>(i4 v).bind λd=>(wS vs).bind λds=>some (d::ds)
theorem Ui:∀{vs:List V}{ds:List Value},wS vs=some ds->∀ us,Vals vs us->us=ds
 |[],ds,h,us,r=>by cases h;cases r;rfl
 |v::vs,ds,h,us,r=>by
  unfold wS at h;obtain ⟨d,e1,h⟩:=bind_some h;obtain ⟨dr,e2,h⟩:=bind_some h;cases h;cases r with
  |cons r1 r2=>rw [Uh e1 _ r1,Ui e2 _ r2]
abbrev rIsx (K:Fg)(ea C:Addr):List V->Hp->VK->Prop:=λxs H Q=>∃(c:V)(d:Value)(b:Bool),xs=[.ref ea,c]/\(∀ u,RelV c u->u=d)/\PySem.W.kitOne K (.ref C) d=some b/\Q (.bl b) H
abbrev rIsxT (K:Fg)(ea C:Addr):List V->Hp->VK->Prop:=λxs H Q=>∃(t:Addr)(cs:List V)(ds:List Value)(b:Bool),xs=[.ref ea,.ref t]/\H t=some (.tup cs)/\(∀ us,Vals cs us->us=ds)/\PySem.W.kitAny K (.ref C) ds=some b/\Q (.bl b) H
def pIsx (K:Fg)(ea C:Addr):List PV->Option PV
 |[.at (.ref a),.at v]=>if a=ea then (i4 v).bind λd=>(PySem.W.kitOne K (.ref C) d).bind λb=>some (.at (.bl b)) else none
 |_=>none
def QK (K:Fg)(ea C:Addr):List PV->Option PV
 |[.at (.ref a),.tup xs]=>if a=ea then (ats xs).bind λvs=>(wS vs).bind λds=>(PySem.W.kitAny K (.ref C) ds).bind λb=>some (.at (.bl b)) else none
 |_=>none
instance :zM (rIsx K ea C) (pIsx K ea C) where
 h:=λ{xs z} e {Hs H vs} s r {Q} q=>by
  unfold pIsx at e;split at e
  ·split at e
   ·rename_i ha;subst ha;obtain ⟨d,e1,e⟩:=bind_some e;obtain ⟨b,e2,e⟩:=bind_some e;cases e;obtain ⟨v,w,rfl,a,c⟩:=QX r;cases y9 a;cases y9 c;exact ⟨_,d,b,rfl,Uh e1,e2,q _ _ _ (.refl s) (rep_at.mpr rfl)⟩
   ·cases e
  ·cases e
instance :zM (rIsxT K ea C) (QK K ea C) where
 h:=λ{xs z} e {Hs H vs} s r {Q} q=>by
  unfold QK at e;split at e
  ·split at e
   ·rename_i ha;subst ha;obtain ⟨us,e0,e⟩:=bind_some e;obtain ⟨ds,e1,e⟩:=bind_some e;obtain ⟨b,e2,e⟩:=bind_some e;cases e;obtain ⟨v,w,rfl,a,c⟩:=QX r;cases y9 a;obtain ⟨p,ws,rfl,hp,rt⟩:=qM s c;rw [Qe e0] at rt;cases rt.ats;exact ⟨p,_,ds,b,rfl,hp,Ui e1,e2,q _ _ _ (.refl s) (rep_at.mpr rfl)⟩
   ·cases e
  ·cases e
theorem XF :∀ c∈([]:List Addr),xB K c:=λ_ z=>nomatch z
theorem XE (h:xB K C)(r:∀ c∈cs,xB K c):∀ c∈C::cs,xB K c:=λc hc=>by
 rcases yK.mp hc with rfl|hc
 ·exact h
 ·exact r c hc
def JE (ε:ME):Prop:=∀(i:Nat)(s:MSlot),ε[i]?=some s->s = .no∨∃ x,s = .sh x
end Mi
namespace L2
open PySem PySem.Spec PyProof.Rows
section
variable {P:Program}{w:World}{K:Fg}{mg:Str->Option Value}{base:Heap}{A:Around}{outer:List Env}{s:Shared}{H:Hp}{f c':Addr}{pm ctv:Value}{params:Arguments}{body:Expr}{scope:Scope}{qual:Str}{clos:List (Str×Addr)}{ps fr:List Str}
 {us:List Value} {vs cv:List V} {t:TE} {Q:VK} {E:XK}
end
end L2
namespace L2
open PySem PySem.Spec PySem.Calls PyProof.Rows
variable{x:Str}{e:Expr}{te:TE}{pos:Pos}{es:List Expr}{t:TA}
section
variable {X:Cx}{K:Fg}
theorem k6 {N P:List Str}{sc:Scope}(h1:sc.kind = .function:=by rfl)(h2:sc.isCoroutine=false:=by rfl)(h3:sc.isGenerator=false:=by rfl)(h4:N.Nodup:=by decide +kernel)(h5:N.take P.length=P:=by rfl)(h6:∀ x∈P,sc.names.lookup x=some .local∨sc.names.lookup x=some .cell:=by decide +kernel)(h7:∀ y∈sc.names,y.2 ≠ .free:=by decide +kernel):w5 N P sc:=⟨h1,h2,h3,h4,h5,h6,h7⟩
theorem sW (i:Nat){pos':Pos}(hN:X.N.Nodup)(he:PE X e te)(hi:X.N[i]?=some x:=by rfl)(hx:Loc X.env.scope x:=by first|exact Or.inl rfl|exact Or.inr rfl)(hs:swapsWith e (some (.Name x pos')) pos.line X.env=pure false:=by rfl)(hf:X.fn x=true∨X.env.scope.names.lookup x=some .local:=by first|exact .inl rfl|exact .inr rfl):PS X (.Assign [.Name x pos'] e pos) (xy te (qm i)):=i8 hN hi hx he hs hf
theorem aW (ha:PE X e te)(hs:starEach [e] X.env=(false,eval e X.env)::starEach [] X.env:=by rfl):PA X [e] (qt te xl):=j0 ha w6 hs
theorem aC (ha:PE X e te)(hr:PA X es t)(hs:starEach (e::es) X.env=(false,eval e X.env)::starEach es X.env:=by rfl):PA X (e::es) (qt te t):=j0 ha hr hs
theorem iW {a b:Expr}{ta tb:TE}(hK:X.K=K)(ha:PE X a ta)(hb:PE X b tb)(hs:JH b:=by exact λ_ _=>rfl):PE X (.Subscript a b pos) (tOp (rIx K) ta tb):=QM (Ky hK) ha hb hs
end
section
variable {X:Cx}{K:Fg}
theorem fW {ps:List Str}{sp:Sp}{k j:Nat}{p:Pos}(c:Fn X.prog X.w X.K X.mg X.base k x ps sp)(hr:Room j X.A)(ha:PA X (e::es) t)(hj:k<=j:=by decide)(hg:Gl X x:=by rfl)(hdb:(x==("__debug__":Str))=false:=by decide)(he:starEach (e::es) X.env=(false,eval e X.env)::starEach es X.env:=by rfl)(hpl:(backTo pos (starEach es X.env)).any (·.1)=false:=by rfl):PE X (.Call (.Name x p) (e::es) [] pos) (xz sp [] E0 t):=c5 c hr hj hg ha hdb he hpl
theorem gW (i:Nat)(hN:X.N.Nodup)(hi:X.N[i]?=some x:=by rfl)(hx:Loc X.env.scope x:=by first|exact Or.inl rfl|exact Or.inr rfl)(hf:X.fn x=true∨X.env.scope.names.lookup x=some .local:=by first|exact .inl rfl|exact .inr rfl):PG X (.Name x pos) (qm i):=m3 hN hi hx hf
end
end L2
namespace Mi
open PySem PySem.Spec PyProof.Rows L2
variable{H H0 Hs:Hp}{a:Addr}{ps:List (Addr×PV)}{te:TE}{m:List PV->Option PV}{xs:List PV}{ta:TA}{as:MA}{E:XK}{b:MS}
structure Deep (H0 Hs H:Hp)(a:Addr)(ps:List (Addr×PV)):Prop where
 top:H a=some (.lst (ps.map λp=>V.ref p.1))
 each:∀ p∈ps,Top Hs H p.1 p.2
 nd:(a::ps.map (·.1)).Nodup
 new:∀ b∈a::ps.map (·.1),H0 b=none/\Hs b=none
theorem Deep.live (d:Deep H0 Hs H a ps):∀ b∈a::ps.map (·.1),H b≠none:=λb hb=>by
 rcases yK.mp hb with rfl|hb
 ·rw [d.top];exact λz=>nomatch z
 ·obtain ⟨p,hp,rfl⟩:=yr.mp hb;exact (d.each p hp).there
theorem Deep.go {Hs' H':Hp}(d:Deep H0 Hs H a ps)(x:Ext Hs H Hs' H'):Deep H0 Hs' H' a ps :=
 ⟨x.s2 _ _ d.top,λp hp=>(d.each p hp).mono x.s1 λo z=>x.s2 _ _ z,d.nd,λb hb=>⟨(d.new b hb).1,x.s4 b (d.live b hb) (d.new b hb).2⟩⟩
theorem Deep.reps {Hs H Hs':Hp}:∀{ps:List (Addr×PV)},(∀ p∈ps,Top Hs H p.1 p.2)->(∀ p∈ps,Hs p.1=none)->Same Hs Hs'->(∀ p∈ps,Hs' p.1=H p.1)->Reps Hs' (ps.map (·.2)) (ps.map λp=>V.ref p.1)
 |[],_,_,_,_=> .nil
 |p::ps,h,n,g,k=>by
  refine .cons ?_ (Deep.reps (λq hq=>h q (yW _ hq)) (λq hq=>n q (yW _ hq)) g λq hq=>k q (yW _ hq));obtain ⟨o,ho,hr⟩:=(h p yV).rep (n p yV);refine hr.mono λb u e=>?_;by_cases hb:b=p.1
  ·subst hb;rw [u3] at e;cases e;rw [k p yV];exact ho
  ·rw [z9 hb] at e;exact g _ _ e
theorem Deep.share {Ha Hb:Hp}(d:Deep H0 Hs H a ps)(x:Ext Ha Hb Hs H)(f:∀ b∈a::ps.map (·.1),Hb b=none):∃ Hp',Same Hs Hp'/\Ext Ha Hb Hp' H/\Rep Hp' (.lst (ps.map (·.2))) (.ref a)/\∀ b,b∉a::ps.map (·.1)->Hp' b=Hs b:=by
 open Classical in
 let Hp':Hp:=λb=>if b∈a::ps.map (·.1) then H b else Hs b
 have hin:∀ b,b∈a::ps.map (·.1)->Hp' b=H b:=λb hb=>if_pos hb;have hout:∀ b,b∉a::ps.map (·.1)->Hp' b=Hs b:=λb hb=>if_neg hb
 clear_value Hp'
 have g:Same Hs Hp':=λb o e=>by
  rw [hout b λz=>by rw [(d.new b z).2] at e;cases e];exact e
 refine ⟨Hp',g,⟨x.s1.trans g,x.s2,λb o e=>?_,λb h z=>?_⟩,rep_lst.mpr ⟨a,ps.map λp=>V.ref p.1,rfl,?_,?_⟩,hout⟩
 ·by_cases hb:b∈a::ps.map (·.1)
  ·rw [hin b hb] at e;exact e
  ·rw [hout b hb] at e;exact x.s3 _ _ e
 ·rw [hout b λw=>h (f b w)];exact x.s4 b h z
 ·rw [hin a yV];exact d.top
 ·exact Deep.reps (H:=H) d.each (λp hp=>(d.new _ (yW _ (ye hp))).2) g λp hp=>hin _ (yW _ (ye hp))
class SemZE (te:TE)(f:M):Prop where
 l:∀{ε y},f ε=some y->∃ zs,y = .lst zs
 h:∀{ε zs},f ε=some (.lst zs)->∀{Hs0 H0 Hs H U},RS Hs0 H0 Hs H U ε->∀{Q:VK},(∀ a ps Hs' H',Ext Hs H Hs' H'->Deep H Hs' H' a ps->zs=ps.map (·.2)->Q (.ref a) H')->te U H Q
instance {wi:TI}{tg:TG}{ts:List Nat}{tt:TT}{cap:List (Option Nat)}{it:MA}{g:MG}{c:MB}{f:M}[si:zn wi it][sg:js tg ts g][sc:qc tt c][sf:qI te f]:SemZE (vK wi tg tt te cap) (b8 cap ts it g c f) where
 l:=λe=>by
  obtain ⟨xs,_,e⟩:=bind_some e;split at e
  ·obtain ⟨ys,_,e⟩:=bind_some e;cases e;exact ⟨_,rfl⟩
  ·cases e
 h:=λ{ε zs} e Hs0 H0 Hs H U rs Q q=>by
  unfold b8 at e;obtain ⟨xs,ex,e1⟩:=bind_some e;split at e1
  rotate_left
  ·cases e1
  rename_i hcl;obtain ⟨hcap,hl⟩:=hcl;unfold xD at hcap;rw [yp] at hcap;obtain ⟨ys,ey,e1⟩:=bind_some e1;cases e1;refine si.h ex rs λJ Hs1 H1 x1 ok=>?_;have rc:=((rs.go x1).cap (yd hcap.1)).rebase;have wk:∀ i∈ts,(u8 cap U)[i]?=some none:=λi hi=>by
   unfold u8;rw [yQ,yd (ya.mp hcap.2 i hi)];rfl
  refine ⟨λk m vs H=>m=xs.length-k/\k<=xs.length/\∃(Hs2:Hp)(ps:List (Addr×PV)),vs=ps.map (λp=>V.ref p.1)/\Ext Hs1 H1 Hs2 H/\RS Hs1 H0 Hs2 H (u8 cap U) (p9 cap _)/\(∀ p∈ps,Top Hs2 H p.1 p.2)/\(ps.map (·.1)).Nodup/\(∀ b∈ps.map (·.1),H1 b=none/\Hs2 b=none)/\ps.length<=k/\∃ rest,m6 g c f (p9 cap _) (xs.drop k)=some rest/\zs=ps.map (·.2)++rest,
   ⟨xs.length,by simp,yi _,Hs1,[],rfl,.refl x1.s3,rc,(λ_ z=>nomatch z),.nil,(λ_ z=>nomatch z),yS _,_,ey,rfl⟩,?_⟩
  rintro k m vs H2 ⟨rfl,hk,Hs2,ps,rfl,x2,r2,tp,nd,nw,hw,rest,er,eys⟩;refine ⟨qX (by rw [yZ];omega),?_⟩;have lv:∀ b∈ps.map (·.1),H2 b≠none:=λb hb=>by
   obtain ⟨p,hp,rfl⟩:=yr.mp hb;exact (tp p hp).there
  by_cases hlt:k<xs.length
  ·have hd:xs.drop k=xs[k]::xs.drop (k+1):=uZ hlt;rw [hd] at er;unfold m6 at er;obtain ⟨ε1,eg,er1⟩:=bind_some er;obtain ⟨b,eb,er2⟩:=bind_some er1;obtain ⟨go,yl⟩:=ok.go k xs[k] Hs2 H2 (by simp [hlt]) x2.s1 x2.s3;refine .inr ⟨go,λv H3 y=>?_⟩;obtain ⟨Hs3,x3,r3⟩:=yl v H3 y;refine sg.h eg (r2.go x3) r3 λσ2 rs2 bt=>⟨bt.wk wk,sc.h eb rs2 λHs4 H4 x4=>?_⟩;cases b with
   |true =>
    rw [if_pos rfl] at er2;obtain ⟨z,ez,er3⟩:=bind_some er2;obtain ⟨rest',er4,er5⟩:=bind_some er3;cases er5;refine qW (sf.h ez (rs2.go x4) λa Hs5 H5 x5 na ns t5=>⟨xs.length-(k+1),by omega,rfl,hlt,Hs5,ps++[(a,z)],by rw [yz];rfl,x2.trans (x3.trans (x4.trans x5)),((r2.go x3).go x4).go x5,λp hp=>?_,?_,λb hb=>?_,?_,rest',er4,?_⟩)
    ·rcases yA.mp hp with hp|hp
     ·exact (tp p hp).mono (x3.s1.trans (x4.s1.trans x5.s1)) λo w=>(x3.s2.trans (x4.s2.trans x5.s2)) _ _ w
     ·rw [yO.mp hp];exact t5
    ·rw [yz];refine List.nodup_append.mpr ⟨nd,by simp,λb hb c hc z=>?_⟩;rw [show c=a from yO.mp hc] at z;subst z;exact vH (x3.s2.trans x4.s2) (lv b hb) na
    ·rw [yz] at hb;rcases yA.mp hb with hb|hb
     ·exact ⟨(nw b hb).1,(x3.trans (x4.trans x5)).s4 b (lv b hb) (nw b hb).2⟩
     ·rw [show b=a from yO.mp hb];exact ⟨(x2.s2.trans (x3.s2.trans x4.s2)).free na,ns⟩
    ·rw [yF];simp;omega
    ·rw [yz,List.append_assoc];exact eys
   |false=>rw [if_neg yX] at er2;exact qV ⟨xs.length-(k+1),by omega,rfl,hlt,Hs4,ps,rfl,x2.trans (x3.trans x4),(r2.go x3).go x4,λp hp=>(tp p hp).mono (x3.s1.trans x4.s1) λo w=>(x3.s2.trans x4.s2) _ _ w,nd,λb hb=>⟨(nw b hb).1,(x3.trans x4).s4 b (lv b hb) (nw b hb).2⟩,by omega,rest,er2,eys⟩
  ·have ek':k=xs.length:=by omega
   subst ek';rw [uM] at er;unfold m6 at er;cases er;refine .inl ⟨ok.stop Hs2 H2 x2.s1 x2.s3,λF hF=>?_⟩;rw [yB] at eys;have xF:Ext Hs2 H2 Hs2 (j3 H2 F (.lst (ps.map λp=>V.ref p.1))):= .newO x2.s3 hF;have Fp:F∉ps.map (·.1):=λz=>lv F z hF;refine q F ps Hs2 _ ((x1.trans x2).trans xF) ⟨u3,λp hp=>(tp p hp).mono (.refl _) λo w=>xF.s2 _ _ w,yu.mpr ⟨Fp,nd⟩,λb hb=>?_⟩ eys;rcases yK.mp hb with rfl|hb
   ·exact ⟨(x1.s2.trans x2.s2).free hF,x2.s3.free hF⟩
   ·exact ⟨x1.s2.free (nw b hb).1,(nw b hb).2⟩
def mZ (m:List PV->Option PV):List PV->Option PV:=λxs=>(m xs).bind λy=>match y with
 | .lst zs=>some (.lst zs)
 |_=>none
theorem wu {y:PV}(h:mZ m xs=some y):∃ zs,y = .lst zs/\m xs=some (.lst zs):=by
 unfold mZ at h;obtain ⟨u,e,h⟩:=bind_some h;split at h
 ·cases h;exact ⟨_,rfl,e⟩
 ·cases h
theorem WK {zs:List PV}(h:m xs=some (.lst zs)):mZ m xs=some (.lst zs):=by unfold mZ;rw [h];rfl
def spZ (m:List PV->Option PV):Sp:=λvs H Q _=>∃ Hs xs zs,Same Hs H/\Reps Hs xs vs/\m xs=some (.lst zs)/\∀ a ps Hs' H',Ext Hs H Hs' H'->Deep H Hs' H' a ps->zs=ps.map (·.2)->Q (.ref a) H'
instance [sa:i5 ta as]:SemZE (xz (spZ (mZ m)) [] E ta) (z5 (mZ m) as) where
 l:=λe=>by
  obtain ⟨xs,_,e⟩:=bind_some e;obtain ⟨zs,h,_⟩:=wu e;exact ⟨zs,h⟩
 h:=λ{ε zs} e _ _ _ _ _ rs _ q=>by
  obtain ⟨xs,ex,e1⟩:=bind_some e;refine sa.h ex rs λvs Hs1 H1 x1 r1=>⟨Hs1,xs,zs,x1.s3,by rw [yB];exact r1,e1,λa ps Hs' H' x d ez=>q a ps Hs' H' (x1.trans x) ⟨d.top,d.each,d.nd,λb hb=>⟨x1.s2.free (d.new b hb).1,(d.new b hb).2⟩⟩ ez⟩
instance [sa:i5 ta as]:SemE (xz (spZ (mZ m)) [] E ta) (z5 (mZ m) as) where
 h:=λ{ε y} e _ _ _ _ _ rs _ q=>by
  obtain ⟨xs,ex,e1⟩:=bind_some e;obtain ⟨zs,rfl,e2⟩:=wu e1;refine sa.h ex rs λvs Hs1 H1 x1 r1=>⟨Hs1,xs,zs,x1.s3,by rw [yB];exact r1,e1,λa ps Hs' H' x d ez=>?_⟩;obtain ⟨Hp',g,x2,r2,_⟩:=d.share x λb hb=>(d.new b hb).1;subst ez;exact q _ _ _ (x1.trans x2) r2
class SemN (ts:TS)(f:MS):Prop where
 h:∀{ε zs},f ε=some (.rt (.lst zs))->JE ε->∀{Hs0 H0 Hs H U},RS Hs0 H0 Hs H U ε->∀{D:qk},(∀ a ps Hs' H',Ext Hs0 H0 Hs' H'->Deep H0 Hs' H' a ps->zs=ps.map (·.2)->D.rt (.ref a) H')->ts D U H
instance {a:M}{u:TS}[sa:SemE te a][sb:SemN u b]:SemN (tSeq (qN te) u) (u9 (zv a) b) where
 h:=λe all _ _ _ _ _ rs _ q=>by
  obtain ⟨o,eo,e1⟩:=bind_some e;obtain ⟨x,ex,e2⟩:=bind_some eo;cases e2;exact sa.h ex rs λv Hs1 H1 x1 r1=>sb.h e1 all (rs.go x1) q
section
variable {P:Program}{w:World}{K:Fg}{mg:Str->Option Value}{base:Heap}
theorem UB (xs:List PV)(n:Nat):JE (xs.map MSlot.sh++List.replicate n .no):=λi s h=>by
 have:=List.mem_of_getElem? h;rcases yA.mp this with z|z
 ·obtain ⟨x,_,rfl⟩:=yr.mp z;exact .inr ⟨x,rfl⟩
 ·exact .inl (List.eq_of_mem_replicate z)
theorem okZ {x qual:Str}{st:Stmt}{f:Addr}{fd:FuncData}{N ps:List Str}{k:Nat}(F:Fun K x qual st f fd)(S:w5 N ps (j5 st))(hm:m=mZ (p0 N.length ps.length b))(hb:∀(cdv:Value)(A:Around)(outer:List Env)(s:Shared)(H:Hp)(E:XK),Room k (A.deeper (envOfC qual (j5 st) s.heap.objs.size f cdv)) -> ∃ t,PSs (ql v3 P w K mg base N qual (j5 st) f cdv A outer s H E).nox (i0 st) t/\SemN t b):FnOk P w K mg base v3 (k+1) f fd ps (spZ m):=by
 subst hm;refine F.ok S (λvs H Q E h=>?_) (λcdv A outer s H vs Q E hr h=>?_)
 ·obtain ⟨Hs,xs,y,_,r,e,_⟩:=h;obtain ⟨zs,_,e⟩:=wu e;unfold p0 at e;split at e
  ·rename_i hl;rw [r.length];exact hl
  ·cases e
 ·obtain ⟨Hs,xs,y,sm,r,e,q⟩:=h;obtain ⟨zs,ez,e⟩:=wu e;cases ez;obtain ⟨t,ht,sem⟩:=hb cdv A outer s H E hr;refine ⟨t,ht,?_⟩;unfold p0 at e;split at e
  ·rename_i hl;obtain ⟨o,eo,e1⟩:=bind_some e;cases o with
   |rt z=>cases e1;exact sem.h eo (UB _ _) (by rw [<- hl];exact jO sm r) q
   |nx ε=>cases e1
   |bk ε=>cases e1
   |ct ε=>cases e1
  ·cases e
end
end Mi
namespace Mi
open PySem L2
variable{te:TE}{f:M}{H H0 HR Hs Hs0:Hp}{C a b:Addr}{o:HO}{x y:PV}{v:V}{ps:List (Addr×PV)}{ls:List (List V)}{nm:Str}{m:List PV->Option PV}{ta:TA}{as:MA}{E:XK}{S:List Addr}{U:St}{ε:ME}{K:Fg}{sp:Sp}{ds:List V}
instance [sz:SemZE te f]:SemN (wO te) (u7 f) where
 h:=λ{ε zs} e _ _ _ _ _ _ rs _ q=>by
  obtain ⟨x,ex,e1⟩:=bind_some e;cases e1;exact sz.h ex rs λa ps Hs1 H1 x1 d ez=>q a ps Hs1 H1 (rs.ext.trans x1) ⟨d.top,d.each,d.nd,λb hb=>⟨rs.ext.s2.free (d.new b hb).1,(d.new b hb).2⟩⟩ ez
structure Lent (S:List Addr)(Hs0 H0 HR:Hp):Prop where
 in0:Same HR H0
 out:∀ b,HR b≠none->Hs0 b=none/\b∉S
def t6 (Hs HR:Hp):Hp:=λb=>match HR b with
 |some o=>some o
 |none=>Hs b
theorem ju (h:HR b=none):t6 Hs HR b=Hs b:=by unfold t6;rw [h]
theorem ve (h:HR b=some o):t6 Hs HR b=some o:=by unfold t6;rw [h]
section
variable {S:List Addr}{Hs0 H0 Hs H HR:Hp}{U:St}{ε:ME}
theorem Lent.at (L:Lent S Hs0 H0 HR)(rd:RD S Hs0 H0 Hs H U ε):Same HR H:=λb o e=>rd.s2 b o (L.in0 _ _ e) (L.out b (by rw [e];exact λz=>nomatch z)).2
theorem Lent.un (L:Lent S Hs0 H0 HR)(rd:RD S Hs0 H0 Hs H U ε)(h:HR b≠none):Hs b=none:=rd.s4 b (vH L.in0 h) (L.out b h).1
theorem Lent.s1 (L:Lent S Hs0 H0 HR)(rd:RD S Hs0 H0 Hs H U ε):Same Hs (t6 Hs HR):=λb o e=>by
 cases h:HR b with
 |none=>rw [ju h];exact e
 |some u=>rw [L.un rd (by rw [h];exact λz=>nomatch z)] at e;cases e
theorem Lent.s2 (L:Lent S Hs0 H0 HR)(rd:RD S Hs0 H0 Hs H U ε):Same (t6 Hs HR) H:=λb o e=>by
 cases h:HR b with
 |none=>rw [ju h] at e;exact rd.s3 _ _ e
 |some u=>rw [ve h] at e;cases e;exact L.at rd _ _ h
theorem Lent.s3:Same HR (t6 Hs HR):=λb o e=>ve e
theorem Lent.own (L:Lent S Hs0 H0 HR)(rd:RD S Hs0 H0 Hs H U ε)(h:H0 a=none∨a∈S):HR a=none:=by
 cases e:HR a with
 |none=>rfl
 |some o =>
  rcases h with h|h
  ·rw [L.in0 _ _ e] at h;cases h
  ·exact absurd h (L.out a (by rw [e];exact λz=>nomatch z)).2
theorem xO {ε:ME}{i:Nat}(j:Nat)(s:MSlot)(q:(ε.set i (.sh x))[j]?=some s):(i=j/\s = .sh x)∨(i≠j/\ε[j]?=some s):=by
 rw [yN] at q;split at q
 ·rename_i h;split at q
  ·cases q;exact .inl ⟨h,rfl⟩
  ·cases q
 ·rename_i h;exact .inr ⟨h,q⟩
theorem Lent.rs (L:Lent S Hs0 H0 HR)(rd:RD S Hs0 H0 Hs H U ε){i:Nat}(hv:U[i]?=some (some v))(rv:Rep (t6 Hs HR) x v):RS (t6 Hs HR) (t6 Hs HR) (t6 Hs HR) H U (ε.set i (.sh x)):=by
 have s1:=L.s1 rd;have s2:=L.s2 rd;refine ⟨⟨.refl _,s2,s2,λ_ h z=>absurd z h⟩,λj y q=>?_,λj y q=>?_,λj k y z a h1 h2 h3 h4=>?_,by rw [yt];exact rd.len,λj y q=>?_⟩
 ·rcases xO j _ q with ⟨rfl,e⟩|⟨_,q⟩
  ·cases e;exact ⟨v,hv,rv⟩
  ·obtain ⟨u,hu,ru⟩:=rd.sh j y q;exact ⟨u,hu,ru.mono s1⟩
 ·rcases xO j _ q with ⟨_,e⟩|⟨_,q⟩
  ·cases e
  ·obtain ⟨a,ha,h0,hs,t⟩:=rd.ow j y q;have:t6 Hs HR a=none:=by rw [ju (L.own rd h0)];exact hs
   exact ⟨a,ha,this,this,t.mono s1 λo e=>e⟩
 ·rcases xO j _ h1 with ⟨_,e⟩|⟨_,q1⟩
  ·cases e
  ·rcases xO k _ h2 with ⟨_,e⟩|⟨_,q2⟩
   ·cases e
   ·exact rd.nd j k y z a q1 q2 h3 h4
 ·rcases xO j _ q with ⟨_,e⟩|⟨_,q⟩
  ·cases e
  ·exact absurd q (rd.nb j y)
theorem Lent.bo (L:Lent S Hs0 H0 HR)(rd:RD S Hs0 H0 Hs H U ε){i:Nat}(hv:U[i]?=some (some (.ref a)))(ha:HR a≠none)(t:Top Hs H a x):RS Hs HR Hs H U (ε.set i (.bo x)):=by
 have dn:∀(j:Nat)(s:MSlot),(ε.set i (.bo x))[j]?=some s->(i=j/\s = .bo x)∨(i≠j/\ε[j]?=some s):=λj s q=>by
  rw [yN] at q;split at q
  ·rename_i h;split at q
   ·cases q;exact .inl ⟨h,rfl⟩
   ·cases q
  ·rename_i h;exact .inr ⟨h,q⟩
 refine ⟨⟨.refl _,L.at rd,rd.s3,λ_ _ z=>z⟩,λj y q=>?_,λj y q=>?_,λj k y z b h1 h2 h3 h4=>?_,by rw [yt];exact rd.len,λj y q=>?_⟩
 ·rcases dn j _ q with ⟨_,e⟩|⟨_,q⟩
  ·cases e
  ·exact rd.sh j y q
 ·rcases dn j _ q with ⟨_,e⟩|⟨_,q⟩
  ·cases e
  ·obtain ⟨b,hb,h0,hs,t⟩:=rd.ow j y q;exact ⟨b,hb,L.own rd h0,hs,t⟩
 ·rcases dn j _ h1 with ⟨_,e⟩|⟨_,q1⟩
  ·cases e
  ·rcases dn k _ h2 with ⟨_,e⟩|⟨_,q2⟩
   ·cases e
   ·exact rd.nd j k y z b q1 q2 h3 h4
 ·rcases dn j _ q with ⟨rfl,e⟩|⟨_,q⟩
  ·cases e;exact ⟨_,hv,.inr ⟨a,rfl,ha,L.un rd ha,t⟩⟩
  ·exact absurd q (rd.nb j y)
theorem Deep.clean {Hl H Hs1 H1:Hp}(s3:Same Hs H)(x:Ext Hl H Hs1 H1)(d:Deep H Hs1 H1 a ps)(e:ls.map (λl=>PV.lst (l.map .at))=ps.map (·.2)):∃ Hs',Ext Hs H Hs' H1/\Rep Hs' (.lst (ls.map λl=> .lst (l.map .at))) (.ref a):=by
 open Classical in
 let Hs':Hp:=λb=>if b∈a::ps.map (·.1) then H1 b else Hs b
 have hin:∀ b,b∈a::ps.map (·.1)->Hs' b=H1 b:=λb hb=>if_pos hb;have hout:∀ b,b∉a::ps.map (·.1)->Hs' b=Hs b:=λb hb=>if_neg hb
 clear_value Hs'
 have nin:∀ b,H b≠none->b∉a::ps.map (·.1):=λb hb z=>hb (d.new b z).1;refine ⟨Hs',⟨λb o q=>?_,x.s2,λb o q=>?_,λb h z=>?_⟩,rep_lst.mpr ⟨a,ps.map λp=>V.ref p.1,rfl,?_,?_⟩⟩
 ·rw [hout b (nin b (vH s3 (by rw [q];exact λz=>nomatch z)))];exact q
 ·by_cases hb:b∈a::ps.map (·.1)
  ·rw [hin b hb] at q;exact q
  ·rw [hout b hb] at q;exact x.s2 _ _ (s3 _ _ q)
 ·rw [hout b (nin b h)];exact z
 ·rw [hin a yV];exact d.top
 ·rw [e];have main:∀(qs:List (Addr×PV)),(∀ p∈qs,p∈ps)->Reps Hs' (qs.map (·.2)) (qs.map λp=>V.ref p.1):=by
   intro qs
   induction qs with
   |nil=>intro _;exact .nil
   |cons p qs ih =>
    intro h;have hp:=h p yV;refine .cons ?_ (ih λq hq=>h q (yW _ hq));have m:p.2∈ls.map (λl=>PV.lst (l.map .at)):=by rw [e];exact ye hp
    obtain ⟨l,_,el⟩:=yr.mp m;have t:=d.each p hp;show Rep Hs' p.2 (V.ref p.1);rw [<- el] at t ⊢;obtain ⟨vs,hv,rv⟩:=t;rw [rv.ats] at hv;exact rep_lst.mpr ⟨p.1,l,rfl,by rw [hin _ (yW _ (ye hp))];exact hv,.ofAts l⟩
  exact main ps λ_ h=>h
end
section
variable {K:Fg}{C:Addr}{S:List Addr}{Hs0 H0 Hs H HR:Hp}{U:St}{ε:ME}{D:qk}{u:TS}{i:Nat}{x:PV}{v:V}{fld:Str}{ns:List Str}{xs:List PV}
theorem Wz [sz:SemZE te f][c:qG K C][n:p8 K C fld](L:Lent S Hs0 H0 HR)(rd:RD S Hs0 H0 Hs H U ε)(hv:U[i]?=some (some v))(rv:Rep HR x v)(e:f (ε.set i (.sh x))=some (.lst (ls.map λl=> .lst (l.map .at))))(he:ε[0]?=some (.ow (.ob C ns xs)))(hf:fld∉ns)(hl:ns.length<1000)(q:∀ Hs' H',RD S Hs0 H0 Hs' H' U (ε.set 0 (.ow (.ob C (ns++[fld]) (xs++[.lst (ls.map λl=> .lst (l.map .at))]))))->Same Hs Hs'->u D U H'):tSeq (jP K (qu 0) te fld) u D U H:=by
 refine sz.h e (L.rs rd hv (rv.mono Lent.s3)) λa ps Hs1 H1 x1 d ez=>?_;obtain ⟨Hs',x2,r2⟩:=d.clean rd.s3 x1 ez;have rd1:=rd.go x2;obtain ⟨p,hp,h0,hs,dx,fs,hH,hk,hr⟩:=rd1.ow 0 _ he;have hf':fld∉fs.map (·.1):=by rw [hk];exact hf
 have hl':fs.length<1000:=by rw [<- yZ (f:=(·.1)),hk];exact hl
 refine ⟨_,hp,p,C,dx,fs,rfl,hH,c.c,n.n,hl',?_⟩;rw [QS hf'];exact q _ _ (rd1.change he hp ⟨dx,_,u3,by rw [yz,hk];rfl,by rw [yz];exact hr.append (.one r2)⟩) x2.s1
theorem KM [sa:SemE te f](L:Lent S Hs0 H0 HR)(rd:RD S Hs0 H0 Hs H U ε)(hv:U[i]?=some (some v))(rv:Rep (t6 Hs HR) x v)(e:f (ε.set i (.sh x))=some y)(q:∀ H',RD S Hs0 H0 Hs H' U ε->u D U H'):tSeq (qN te) u D U H :=
 sa.h e (L.rs rd hv rv) λ_ Hs1 H1 x1 _=>q H1 (rd.go ⟨.refl _,x1.s2,rd.s3.trans x1.s2,λ_ _ z=>z⟩)
theorem KN [sa:SemE te f][c:qG K C][n:p8 K C fld](L:Lent S Hs0 H0 HR)(rd:RD S Hs0 H0 Hs H U ε)(hv:U[i]?=some (some (.ref a)))(ha:HR a≠none)(t:Top Hs H a x)(e:f (ε.set i (.bo x))=some y)(he:ε[0]?=some (.ow (.ob C ns xs)))(hf:fld∉ns)(hl:ns.length<1000)(q:∀ Hs' H',RD S Hs0 H0 Hs' H' U (ε.set 0 (.ow (.ob C (ns++[fld]) (xs++[y]))))->Same Hs Hs'->u D U H'):tSeq (jP K (qu 0) te fld) u D U H:=by
 refine sa.h e (L.bo rd hv ha t) λw Hs1 H1 x1 r1=>?_;have rd1:=rd.go x1;obtain ⟨p,hp,h0,hs,dx,fs,hH,hk,hr⟩:=rd1.ow 0 _ he;have hf':fld∉fs.map (·.1):=by rw [hk];exact hf
 have hl':fs.length<1000:=by rw [<- yZ (f:=(·.1)),hk];exact hl
 refine ⟨_,hp,p,C,dx,fs,rfl,hH,c.c,n.n,hl',?_⟩;rw [QS hf'];exact q _ _ (rd1.change he hp ⟨dx,_,u3,by rw [yz,hk];rfl,by rw [yz];exact hr.append (.one r1)⟩) x1.s1
theorem WB {t:TS}{b:WS}{ε':ME}[s:SemWS t b](rd:RD S Hs0 H0 Hs H U ε)(e:b ε (λε2=>ε2=ε') λ_ _=>False)(q:∀ Hs' H' σ',RD S Hs0 H0 Hs' H' σ' ε'->Same Hs Hs'->u D σ' H'):tSeq t u D U H :=
 s.h e rd (λε2 σ2 Hs2 H2 h2 rd2 g2=>by subst h2;exact q Hs2 H2 σ2 rd2 g2) λ_ _ _ _ _ _ z _ _ _=>z.elim
end
instance {a:M}[so:SemE te a][sa:i5 ta as]:SemZE (xc C nm (spZ (mZ m)) [] E te ta) (m7 C nm (mZ m) a as) where
 l:=λe=>by
  obtain ⟨ns,fs,xs,_,_,_,e2⟩:=we e;obtain ⟨zs,h,_⟩:=wu e2;exact ⟨zs,h⟩
 h:=λ{ε zs} e _ _ _ _ _ rs _ q=>by
  obtain ⟨ns,fs,xs,ea,hn,e1,e2⟩:=we e;refine so.h ea rs λv Hs1 H1 x1 r1=>?_;obtain ⟨p,dx,gs,rfl,hp,hk,hr⟩:=rep_ob.mp r1;refine ⟨p,dx,gs,rfl,x1.s3 _ _ hp,vp (by rw [hk];exact hn),sa.h e1 (rs.go x1) λvs Hs2 H2 x2 r2=>?_⟩;exact ⟨Hs2,_,zs,x2.s3,by rw [yB];exact .cons (r1.mono x2.s1) r2,e2,λa ps Hs' H' x d ez=>q a ps Hs' H' (x1.trans (x2.trans x)) ⟨d.top,d.each,d.nd,λb hb=>⟨(x1.trans x2).s2.free (d.new b hb).1,(d.new b hb).2⟩⟩ ez⟩
instance {a:M}[so:SemE te a][sa:i5 ta as]:qI (xc C nm (spZ (mZ m)) [] E te ta) (m7 C nm (mZ m) a as) where
 h:=λ{ε y} e Hs0 H0 Hs H U rs Q q=>by
  obtain ⟨zs,rfl⟩:=SemZE.l (te:=xc C nm (spZ (mZ m)) [] E te ta) (f:=m7 C nm (mZ m) a as) e;refine SemZE.h (te:=xc C nm (spZ (mZ m)) [] E te ta) e rs λa ps Hs1 H1 x1 d ez=>?_;have d2:∀ b∈ps.map (·.1),H b=none/\Hs1 b=none:=λb hb=>d.new b (yW _ hb)
  open Classical in
  let Hp':Hp:=λb=>if b∈ps.map (·.1) then H1 b else Hs1 b
  have hin:∀ b,b∈ps.map (·.1)->Hp' b=H1 b:=λb hb=>if_pos hb;have hout:∀ b,b∉ps.map (·.1)->Hp' b=Hs1 b:=λb hb=>if_neg hb
  clear_value Hp'
  have g:Same Hs1 Hp':=λb o z=>by rw [hout b λw=>by rw [(d2 b w).2] at z;cases z];exact z
  have an:=(yu.mp d.nd).1;have na:=d.new a yV;refine q a Hp' H1 ⟨x1.s1.trans g,x1.s2,λb o z=>?_,λb h z=>?_⟩ na.1 (by rw [hout a an];exact na.2) ⟨_,d.top,?_⟩
  ·by_cases hb:b∈ps.map (·.1)
   ·rw [hin b hb] at z;exact z
   ·rw [hout b hb] at z;exact x1.s3 _ _ z
  ·rw [hout b λw=>h (d2 b w).1];exact x1.s4 b h z
  ·rw [ez];exact Deep.reps (H:=H1) d.each (λp hp=>(d2 _ (ye hp)).2) g λp hp=>hin _ (ye hp)
theorem RD.junk (rd:RD S Hs0 H0 Hs H U ε)(h0:H0 b=none)(hs:Hs b=none)(hS:b∉S)(ho:∀(i:Nat)(x:PV),ε[i]?=some (.ow x)->U[i]?≠some (some (.ref b))):RD S Hs0 H0 Hs (j3 H b o) U ε:=by
 refine ⟨rd.s1,λc u e hc=>?_,λc u e=>?_,rd.s4,rd.sh,λi x q=>?_,rd.nd,rd.len,rd.pin,λa ha=>?_,rd.str,rd.nb⟩
 ·rw [z9 (w9 e h0)];exact rd.s2 c u e hc
 ·rw [z9 (w9 e hs)];exact rd.s3 _ _ e
 ·obtain ⟨a,ha,m0,m1,t⟩:=rd.ow i x q;exact ⟨a,ha,m0,m1,t.mono (.refl _) λu e=>by
   have hne:a≠b:=λz=>ho i x q (by rw [<- z];exact ha);rw [z9 hne];exact e⟩
 ·by_cases hb:a=b
  ·exact absurd (hb▸ha) hS
  ·rw [z9 hb];exact rd.live a ha
def wU (f:M):WS:=λε N _=>∃ xs:List PV,f ε=some (.lst xs)/\xs.length<=lim/\N ε
instance :zl (wU f) where h:=λk _ ⟨xs,e,l,n⟩=>⟨xs,e,l,k _ n⟩
theorem RD.fresh {Hs' H':Hp}(rd:RD S Hs0 H0 Hs H U ε)(x:Ext Hs H Hs' H')(hb:H b=none)(hs:Hs' b=none):RD S Hs0 H0 Hs' (j3 H' b o) U ε :=
 (rd.go x).junk (rd.free0 hb) hs (λz=>rd.live b z hb) λi y q z=>by
  obtain ⟨a,ha,_,_,t⟩:=rd.ow i y q;rw [z] at ha;injection ha with ha;injection ha with ha;injection ha with ha;subst ha;exact t.there hb
instance (priority:=2000)[so:qI te f]:SemWS (qN (vJ K "list" QW te)) (wU f) where
 h:=λ⟨xs,e,hl,h⟩ _ _ _ _ _ _ rd _ k _=>so.h e rd.rs λa Hs1 H1 x1 na ns t=>by
  obtain ⟨vs,hv,rv⟩:=t;exact ⟨.inl ⟨rfl,vs,SqL.of hv⟩,a,vs,rfl,rfl,hv,k _ _ _ _ h (rd.fresh x1 na ns) x1.s1⟩
instance (priority:=2000)[so:qI te f]:SemWS (qN (tBM K "list" QV te (qt (tC v) xl))) (wU f) where
 h:=λ⟨xs,e,hl,h⟩ _ _ _ _ _ _ rd _ k _=>so.h e rd.rs λa Hs1 H1 x1 na ns t=>by
  obtain ⟨vs,hv,rv⟩:=t;exact ⟨.inl ⟨rfl,vs,SqL.of hv⟩,a,vs,v,rfl,rfl,hv,Qw (by rw [rv.length];exact hl),k _ _ _ _ h (rd.fresh x1 na ns) x1.s1⟩
def JB (f:M):WS:=λε N _=>∃(l:List PV)(xs:List PV),f ε=some (.lst (.lst l::xs))/\N ε
instance :zl (JB f) where h:=λk _ ⟨l,xs,e,n⟩=>⟨l,xs,e,k _ n⟩
instance (priority:=2001)[so:SemZE te f]:SemWS (qN (vJ K "list" QW (tOp (rIx K) te (tC (.int 0))))) (JB f) where
 h:=λ⟨l,xs,e,h⟩ _ _ _ _ _ _ rd _ k _=>so.h e rd.rs λa ps Hs1 H1 x1 d ez=>by
  cases ps with
  |nil=>cases ez
  |cons p ps=>rw [yP] at ez;injection ez with e1 e2;have t:=d.each p yV;rw [<- e1] at t;obtain ⟨vs,hv,rv⟩:=t;have np:=d.new p.1 (yW _ yV);exact .inl ⟨a,_,0,.ref p.1,rfl,rfl,SqL.of d.top,xn (j:=0) rfl,.inl ⟨rfl,vs,SqL.of hv⟩,p.1,vs,rfl,rfl,hv,k _ _ _ _ h (rd.fresh x1 np.1 np.2) x1.s1⟩
theorem FnOk.or {P:Program}{w:World}{mg:Str->Option Value}{base:Heap}{CX:CXT}{k:Nat}{f:Addr}{fd:FuncData}{ps:List Str}{sp':Sp}(F:FnOk P w K mg base CX k f fd ps sp)(G:FnOk P w K mg base CX k f fd ps sp'):FnOk P w K mg base CX k f fd ps (λvs H Q E=>sp vs H Q E∨sp' vs H Q E) :=
 ⟨λvs H Q E h=>h.elim (F.len vs H Q E) (G.len vs H Q E),λA outer s H args us vs Q E hr he hb hv hs=>hs.elim (F.run A outer s H args us vs Q E hr he hb hv) (G.run A outer s H args us vs Q E hr he hb hv)⟩
def xW (sp sp':Sp):Sp:=λvs H Q E=>sp vs H Q E∨sp' vs H Q E
instance [sa:i5 ta as]:SemE (zJ C (xW (spI C m) sp) ds E ta) (zu m ds as) where
 h:=λe Hs0 H0 Hs H U rs Q q=>by
  have s:SemE (zJ C (spI C m) ds E ta) (zu m ds as):=inferInstance;obtain ⟨xs,ex,e1⟩:=bind_some e;refine sa.h ex rs λvs Hs1 H1 x1 r1=>λx dx hx hdx hne=> .inl ?_;have s3:Same Hs1 (j3 (j3 H1 dx (.own x)) x (.ins C dx [])):=λb o e=>by
   have e':=x1.s3 _ _ e;rw [z9 (w9 e' hx),z9 (w9 e' hdx)];exact e'
  refine ⟨Hs1,x,dx,_,_,_,rfl,s3,u3,x1.s3.free hx,r1.append (.ofAts ds),e1,λHs' H' g1 g2 g3 g4 r=>⟨rfl,q _ _ _ (x1.trans ⟨g1,λb o e=>?_,g3,λb hb z=>?_⟩) r⟩⟩
  ·refine g2 b o ?_ (w9 e hx);rw [z9 (w9 e hx),z9 (w9 e hdx)];exact e
  ·have hbx:b≠x:=λw=>hb (by rw [w];exact hx);have hbd:b≠dx:=λw=>hb (by rw [w];exact hdx);exact g4 b (by rw [z9 hbx,z9 hbd];exact hb) hbx z
instance (priority:=1100)[sa:i5 ta as]:SemE (zJ C (xW (spI C m) sp) [] E ta) (z5 m as) where
 h:=λ{ε y} e=>SemE.h (te:=zJ C (xW (spI C m) sp) [] E ta) (f:=zu m [] as) (by
  unfold zu;unfold z5 at e;simpa using e)
structure vS (P:Program)(w:World)(K:Fg)(mg:Str->Option Value)(base:Heap)(k:Nat)(C:Addr)(ps:List Str)(ds:List V)(sp:Sp):Prop where
 ex:∃ f fd vs,FnOk P w K mg base v3 k f fd ps sp/\Mk K C f/\Binds K fd ps vs/\Vals ds vs
theorem WY {X:Cx}{k j:Nat}{ps:List Str}{x:Str}{p pos:Pos}{e:Expr}{es:List Expr}{t:TA}(c:vS X.prog X.w X.K X.mg X.base k C ps ds sp)(hr:Room j X.A)(hj:k+1<=j)(hg:Gl X x)(hm:X.mg x=some (.ref C))(ha:PA X (e::es) t)(hdb:(x==("__debug__":Str))=false:=by decide)(he:starEach (e::es) X.env=(false,eval e X.env)::starEach es X.env:=by rfl)(hpl:(backTo pos (starEach es X.env)).any (·.1)=false:=by rfl):PE X (.Call (.Name x p) (e::es) [] pos) (zJ C sp ds E0 t):=by obtain ⟨f,fd,vs,F,hm',hb,hd⟩:=c.ex;exact WV hm' F (hr.mono hj) hg hm hb hd wD ha hdb he hpl
structure LentA (Hs H HR:Hp)(U:St)(ε:ME):Prop where
 in1:Same HR H
 un:∀ b,HR b≠none->Hs b=none
 own:∀(i:Nat)(x:PV)(a:Addr),ε[i]?=some (.ow x)->U[i]?=some (some (.ref a))->HR a=none
theorem LentA.test (L:LentA Hs H HR U ε)(rd:RD S Hs0 H0 Hs H U ε){i:Nat}(hv:U[i]?=some (some v))(rv:Rep (t6 Hs HR) x v):RS (t6 Hs HR) (t6 Hs HR) (t6 Hs HR) H U (ε.set i (.sh x)):=by
 have s1:Same Hs (t6 Hs HR):=λb o e=>by
  cases h:HR b with
  |none=>rw [ju h];exact e
  |some u=>rw [L.un b (by rw [h];exact λz=>nomatch z)] at e;cases e
 have s2:Same (t6 Hs HR) H:=λb o e=>by
  cases h:HR b with
  |none=>rw [ju h] at e;exact rd.s3 _ _ e
  |some u=>rw [ve h] at e;cases e;exact L.in1 _ _ h
 refine ⟨⟨.refl _,s2,s2,λ_ h z=>absurd z h⟩,λj y q=>?_,λj y q=>?_,λj k y z a h1 h2 h3 h4=>?_,by rw [yt];exact rd.len,λj y q=>?_⟩
 ·rcases xO j _ q with ⟨rfl,e⟩|⟨_,q⟩
  ·cases e;exact ⟨v,hv,rv⟩
  ·obtain ⟨u,hu,ru⟩:=rd.sh j y q;exact ⟨u,hu,ru.mono s1⟩
 ·rcases xO j _ q with ⟨_,e⟩|⟨_,q⟩
  ·cases e
  ·obtain ⟨a,ha,h0,hs,t⟩:=rd.ow j y q;have:t6 Hs HR a=none:=by rw [ju (L.own j y a q ha)];exact hs
   exact ⟨a,ha,this,this,t.mono s1 λo e=>e⟩
 ·rcases xO j _ h1 with ⟨_,e⟩|⟨_,q1⟩
  ·cases e
  ·rcases xO k _ h2 with ⟨_,e⟩|⟨_,q2⟩
   ·cases e
   ·exact rd.nd j k y z a q1 q2 h3 h4
 ·rcases xO j _ q with ⟨_,e⟩|⟨_,q⟩
  ·cases e
  ·exact absurd q (rd.nb j y)
theorem Deep.repIn (d:Deep H0 Hs H a ps)(hin:∀ b∈a::ps.map (·.1),HR b=H b)(e:ls.map (λl=>PV.lst (l.map .at))=ps.map (·.2)):Rep HR (.lst (ls.map λl=> .lst (l.map .at))) (.ref a):=by
 refine rep_lst.mpr ⟨a,ps.map λp=>V.ref p.1,rfl,by rw [hin a yV];exact d.top,?_⟩;rw [e];have main:∀(qs:List (Addr×PV)),(∀ p∈qs,p∈ps)->Reps HR (qs.map (·.2)) (qs.map λp=>V.ref p.1):=by
  intro qs
  induction qs with
  |nil=>intro _;exact .nil
  |cons p qs ih =>
   intro h;have hp:=h p yV;refine .cons ?_ (ih λq hq=>h q (yW _ hq));have m:p.2∈ls.map (λl=>PV.lst (l.map .at)):=by rw [e];exact ye hp
   obtain ⟨l,_,el⟩:=yr.mp m;have t:=d.each p hp;show Rep HR p.2 (V.ref p.1);rw [<- el] at t ⊢;obtain ⟨vs,hv,rv⟩:=t;rw [rv.ats] at hv;exact rep_lst.mpr ⟨p.1,l,rfl,by rw [hin _ (yW _ (ye hp))];exact hv,.ofAts l⟩
 exact main ps λ_ h=>h
end Mi
namespace Lw
open PySem L2 Mi
variable{g h n:Nat}{rss:List (List Int)}{a:M}{H:Hp}{c j:Int}{r:List Int}{ns ps:List Str}{vs:List V}{Q:VK}{E:XK}{m:List PV->Option PV}{ε:ME}{s x z:Str}{y:PV}{A7 Az D1 E8:Tok}{Aa Ac Ai Aq At C:Addr}{l:PySem.W.OpenLaw}{ks:List z8}{xs:List PV}{as:MA}{ds:List Value}{items:Array Value}{st:Stmt}{cd ct dc oc pm:Value}{an od:Option Addr}{sl:Array (Option Value)}
variable {P:Program}{w:World}{K:Fg}{mg:Str->Option Value}{base:Heap}{f:Addr}{fd:FuncData}
theorem l0:0<=lim:=by decide
theorem l1:1<=lim:=by decide
theorem l2:2<=lim:=by decide
theorem l3:3<=lim:=by decide
theorem l4:4<=lim:=by decide
theorem l5:5<=lim:=by decide
theorem l6:6<=lim:=by decide
theorem l7:7<=lim:=by decide
theorem l8:8<=lim:=by decide
theorem l9:9<=lim:=by decide
structure qQ (h:Nat)(rss:List (List Int)):Prop where
 len:rss.length=h+1
 row:∀ r∈rss,r.length=h/\∀ v∈r,0<=v/\v<10 ^ 30
def rin (rss:List (List Int))(f g:Int):Int:=((atI rss f).bind λr=>atI r g).getD 0
def xZ (rss:List (List Int)):Int->List Int->Int
 |_,[]=>0
 |f,h::r=>rin rss f h+xZ rss h r
abbrev Wy:=Int×List Int
variable{T:List (List Wy)}{onw ws:List Wy}{b:Wy}
def ze (a b:Wy):Wy:=if b.1<a.1 then b else a
def xQ (a b:Wy):Wy:=(a.1+b.1,a.2++b.2)
def thr (ws:List Wy)(k:Nat)(onw:List Wy):List Wy:=List.zipWith (λw m=>ze w (xQ (ws.getD k (0,[])) m)) ws onw
def qv (T:List (List Wy))(k:Nat):List (List Wy):=T.map λrow=>thr row k (T.getD k [])
def xY (row:List Int):List Wy:=row.mapIdx λi v=>(v,[(i:Int)])
def m4 (rss:List (List Int)):Nat->List (List Wy)
 |0=>rss.map xY
 |k+1=>qv (m4 rss k) k
def w4 (T:List (List Wy))(f g:Nat):Wy:=(T.getD f []).getD g (0,[])
def zB (rss:List (List Int))(h:Nat):List (List Int):=(m4 rss h).map λrow=>row.map (·.1)
structure Shp (h:Nat)(T:List (List Wy)):Prop where
 len:T.length=h+1
 row:∀ r∈T,r.length=h
theorem o3 {α:Type}{l:List α}{i:Nat}{d:α}(h:i<l.length):l.getD i d=l[i]:=by rw [List.getD_eq_getElem?_getD,yw h];rfl
theorem Shp.rowAt (S:Shp h T){f:Nat}(hf:f<=h):(T.getD f []).length=h:=by
 have hl:f<T.length:=by have:=S.len;omega
 rw [o3 hl];exact S.row _ (yj hl)
theorem Ub {k:Nat}(h:ws.length=onw.length):(thr ws k onw).length=ws.length:=by unfold thr;rw [List.length_zipWith,h,Nat.min_self]
theorem Shp.step (S:Shp h T){k:Nat}(hk:k<h):Shp h (qv T k):=by refine ⟨by unfold qv;rw [yZ];exact S.len,λr hr=>?_⟩;unfold qv at hr;obtain ⟨row,hm,rfl⟩:=yr.mp hr;have e1:=S.row row hm;rw [Ub (by rw [e1,S.rowAt (by omega)]),e1]
theorem vg (S:Shp h T){k f:Nat}(hk:k<h)(hf:f<=h)(hg:g<h):w4 (qv T k) f g=ze (w4 T f g) (xQ (w4 T f k) (w4 T k g)):=by
 have hl:f<T.length:=by have:=S.len;omega
 have hl2:f<(qv T k).length:=by unfold qv;rw [yZ];exact hl
 have e1:(qv T k).getD f []=thr (T.getD f []) k (T.getD k []):=by unfold qv;rw [o3 (by rw [yZ];exact hl),List.getElem_map,o3 hl]
 have r1:=S.rowAt hf;have r2:=S.rowAt (f:=k) (by omega);unfold w4;rw [e1,o3 (by rw [Ub (by rw [r1,r2])];omega),o3 (l:=T.getD f []) (i:=g) (by omega),o3 (l:=T.getD k []) (i:=g) (by omega)];unfold thr;rw [List.getElem_zipWith]
theorem Shp.start (G:qQ h rss):Shp h (m4 rss 0):=by refine ⟨by show (rss.map xY).length=_;rw [yZ];exact G.len,λr hr=>?_⟩;obtain ⟨row,hm,rfl⟩:=yr.mp hr;unfold xY;rw [List.length_mapIdx];exact (G.row row hm).1
theorem Shp.all {h:Nat}{rss:List (List Int)}(G:qQ h rss):∀ k,k<=h->Shp h (m4 rss k)
 |0,_=>Shp.start G
 |k+1,hk=>(Shp.all G k (by omega)).step (by omega)
theorem Zs (G:qQ h rss){f:Nat}(hf:f<=h)(hg:g<h):rin rss (f:Int) (g:Int)=(rss.getD f []).getD g 0:=by
 have hl:f<rss.length:=by have:=G.len;omega
 have e1:atI rss (f:Int)=some rss[f]:=xn (yw hl);have hg2:g<rss[f].length:=by rw [(G.row _ (yj hl)).1];exact hg
 have e2:atI rss[f] (g:Int)=some rss[f][g]:=xn (yw hg2);unfold rin;rw [e1];show (atI rss[f] (g:Int)).getD 0=_;rw [e2,o3 hl,o3 hg2];rfl
theorem Qj (G:qQ h rss){f:Nat}(hf:f<=h)(hg:g<h):w4 (m4 rss 0) f g=(rin rss (f:Int) (g:Int),[(g:Int)]):=by
 have hl:f<rss.length:=by have:=G.len;omega
 have hl2:f<(rss.map xY).length:=by rw [yZ];exact hl
 have hg2:g<rss[f].length:=by rw [(G.row _ (yj hl)).1];exact hg
 rw [Zs G hf hg];unfold w4;show ((rss.map xY).getD f []).getD g (0,[])=_;rw [o3 hl2,List.getElem_map,o3 (by unfold xY;rw [List.length_mapIdx];exact hg2),o3 hl,o3 hg2];unfold xY;rw [List.getElem_mapIdx]
theorem Co (G:qQ h rss){f:Nat}(hf:f<=h)(hg:g<h):0<=rin rss (f:Int) (g:Int):=by
 have hl:f<rss.length:=by have:=G.len;omega
 have hg2:g<rss[f].length:=by rw [(G.row _ (yj hl)).1];exact hg
 rw [Zs G hf hg,o3 hl,o3 hg2];exact ((G.row _ (yj hl)).2 _ (yj hg2)).1
theorem Us {rss:List (List Int)}:∀{xs ys:List Int}{f g:Int},xs.getLast?=some g->xZ rss f (xs++ys)=xZ rss f xs+xZ rss g ys
 |[],_,_,_,e=>by simp at e
 |[x],ys,f,g,e=>by
  have e':x=g:=by simpa using e
  subst e';show rin rss f x+xZ rss x ys=rin rss f x+0+xZ rss x ys;omega
 |x::y::r,ys,f,g,e=>by
  have q:=Us (rss:=rss) (xs:=y::r) (ys:=ys) (f:=x) (g:=g) (by simpa [List.getLast?_cons_cons] using e);show rin rss f x+xZ rss x (y::r++ys)=rin rss f x+xZ rss x (y::r)+xZ rss g ys;rw [q];omega
structure WayOk (rss:List (List Int))(h:Nat)(f g:Nat)(w:Wy):Prop where
 sum:w.1=xZ rss (f:Int) w.2
 last:w.2.getLast?=some (g:Int)
 ok:∀ x∈w.2,0<=x/\x<(h:Int)
structure FW (rss:List (List Int))(h k:Nat)(T:List (List Wy)):Prop where
 way:∀ f g,f<=h->g<h->WayOk rss h f g (w4 T f g)
 pos:∀ f g,f<=h->g<h->0<=(w4 T f g).1
 le:∀ f g,f<=h->g<h->(w4 T f g).1<=rin rss (f:Int) (g:Int)
 tri:∀ j f g,j<k->f<=h->g<h->(w4 T f g).1<=(w4 T f j).1+(w4 T j g).1
 len:∀ f g,f<=h->g<h->(w4 T f g).2.length<=2 ^ k
theorem vn (a b:Wy):(ze a b=a/\a.1<=b.1)∨(ze a b=b/\b.1<a.1):=by
 unfold ze;by_cases h:b.1<a.1
 ·rw [if_pos h];exact .inr ⟨rfl,h⟩
 ·rw [if_neg h];exact .inl ⟨rfl,by omega⟩
theorem KO (a b:Wy):(ze a b).1<=a.1/\(ze a b).1<=b.1:=by
 rcases vn a b with ⟨e,q⟩|⟨e,q⟩
 ·rw [e];exact ⟨Int.le_refl _,q⟩
 ·rw [e];exact ⟨Int.le_of_lt q,Int.le_refl _⟩
theorem WayOk.join {f k:Nat}{a:Wy}(x:WayOk rss h f k a)(y:WayOk rss h k g b):WayOk rss h f g (xQ a b):=by
 refine ⟨?_,?_,λz hz=>?_⟩
 ·show a.1+b.1=xZ rss f (a.2++b.2);rw [Us x.last,x.sum,y.sum]
 ·show (a.2++b.2).getLast?=_;rw [List.getLast?_append,y.last];rfl
 ·rcases yA.mp hz with q|q
  ·exact x.ok z q
  ·exact y.ok z q
theorem FW.start (G:qQ h rss):FW rss h 0 (m4 rss 0):=by
 refine ⟨λf g hf hg=>?_,λf g hf hg=>?_,λf g hf hg=>?_,λj f g hj=>absurd hj (by omega),λf g hf hg=>?_⟩
 ·rw [Qj G hf hg];refine ⟨?_,rfl,λx hx=>?_⟩
  ·show rin rss f g=rin rss f g+0;omega
  ·have e:x=(g:Int):=by simpa using hx
   rw [e];omega
 ·rw [Qj G hf hg];exact Co G hf hg
 ·rw [Qj G hf hg];exact Int.le_refl _
 ·rw [Qj G hf hg];exact yS 1
theorem FW.step {k:Nat}(S:Shp h T)(x:FW rss h k T)(hk:k<h):FW rss h (k+1) (qv T k):=by
 have kl:k<=h:=by omega
 have toK:∀ f,f<=h->(w4 (qv T k) f k).1=(w4 T f k).1:=λf hf=>by
  rw [vg S hk hf hk];rcases vn (w4 T f k) (xQ (w4 T f k) (w4 T k k)) with ⟨e,q⟩|⟨e,q⟩
  ·rw [e]
  ·have p:=x.pos k k kl hk;have q':(w4 T f k).1+(w4 T k k).1<(w4 T f k).1:=q;omega
 have ofK:∀ g,g<h->(w4 (qv T k) k g).1=(w4 T k g).1:=λg hg=>by
  rw [vg S hk kl hg];rcases vn (w4 T k g) (xQ (w4 T k k) (w4 T k g)) with ⟨e,q⟩|⟨e,q⟩
  ·rw [e]
  ·have p:=x.pos k k kl hk;have q':(w4 T k k).1+(w4 T k g).1<(w4 T k g).1:=q;omega
 have bound:∀ f g,f<=h->g<h->(w4 (qv T k) f g).1<=(w4 T f g).1/\(w4 (qv T k) f g).1<=(w4 T f k).1+(w4 T k g).1:=λf g hf hg=>by
  rw [vg S hk hf hg];exact KO _ _
 have alt:∀ f g,f<=h->g<h->(w4 (qv T k) f g).1=(w4 T f g).1∨(w4 (qv T k) f g).1=(w4 T f k).1+(w4 T k g).1:=λf g hf hg=>by
  rw [vg S hk hf hg];rcases vn (w4 T f g) (xQ (w4 T f k) (w4 T k g)) with ⟨e,q⟩|⟨e,q⟩
  ·rw [e];exact .inl rfl
  ·rw [e];exact .inr rfl
 refine ⟨λf g hf hg=>?_,λf g hf hg=>?_,λf g hf hg=>Int.le_trans (bound f g hf hg).1 (x.le f g hf hg),λj f g hj hf hg=>?_,λf g hf hg=>?_⟩
 ·rw [vg S hk hf hg];rcases vn (w4 T f g) (xQ (w4 T f k) (w4 T k g)) with ⟨e,_⟩|⟨e,_⟩
  ·rw [e];exact x.way f g hf hg
  ·rw [e];exact (x.way f k hf hk).join (x.way k g kl hg)
 ·rcases alt f g hf hg with e|e
  ·rw [e];exact x.pos f g hf hg
  ·rw [e];have p1:=x.pos f k hf hk;have p2:=x.pos k g kl hg;omega
 ·by_cases hjk:j=k
  ·subst hjk;rw [toK f hf,ofK g hg];exact (bound f g hf hg).2
  ·have hj':j<k:=by omega
   have jl:j<=h:=by omega
   have jh:j<h:=by omega
   have b:=bound f g hf hg;have t1:=x.tri j f g hj' hf hg;have t2:=x.tri j f k hj' hf hk;have t3:=x.tri j k g hj' kl hg;have t4:=x.pos k j kl jh;have t5:=x.pos j k jl hk;rcases alt f j hf jh with e1|e1<;>rcases alt j g jl hg with e2|e2<;>rw [e1,e2]<;>omega
 ·rw [vg S hk hf hg];have e:2 ^ (k+1)=2 ^ k+2 ^ k:=by rw [Nat.pow_succ];omega
  rcases vn (w4 T f g) (xQ (w4 T f k) (w4 T k g)) with ⟨q,_⟩|⟨q,_⟩
  ·rw [q];have:=x.len f g hf hg;omega
  ·rw [q];have a1:=x.len f k hf hk;have a2:=x.len k g kl hg;show ((w4 T f k).2++(w4 T k g).2).length<=_;rw [yF];omega
theorem FW.all {h:Nat}{rss:List (List Int)}(G:qQ h rss):∀ k,k<=h->FW rss h k (m4 rss k)
 |0,_=>FW.start G
 |k+1,hk=>FW.step (Shp.all G k (by omega)) (FW.all G k (by omega)) (by omega)
theorem WI (G:qQ h rss):qQ h (zB rss h):=by
 have S:=Shp.all G h (yS _);have F:=FW.all G h (yS _);refine ⟨by unfold zB;rw [yZ];exact S.len,λr hr=>?_⟩;unfold zB at hr;obtain ⟨row,hm,rfl⟩:=yr.mp hr;refine ⟨by rw [yZ];exact S.row row hm,λv hv=>?_⟩;obtain ⟨w,hw,rfl⟩:=yr.mp hv;obtain ⟨f,hf,rfl⟩:=uQ hm;obtain ⟨g,hg,rfl⟩:=uQ hw;have hf':f<=h:=by have:=S.len;omega
 have hg':g<h:=by rw [<- S.row _ hm];exact hg
 have e:w4 (m4 rss h) f g=(m4 rss h)[f][g]:=by unfold w4;rw [o3 hf,o3 hg]
 have p:=F.pos f g hf' hg';have l:=F.le f g hf' hg';rw [e] at p l;refine ⟨p,Int.lt_of_le_of_lt l ?_⟩;have hl:f<rss.length:=by have:=G.len;omega
 have hg2:g<rss[f].length:=by rw [(G.row _ (yj hl)).1];exact hg'
 rw [Zs G hf' hg',o3 hl,o3 hg2];exact ((G.row _ (yj hl)).2 _ (yj hg2)).2
theorem WN {α:Type}[DecidableEq α]:∀{ms left:List α},ms.Nodup->(∀ x∈ms,x∈left)->ms.length<=left.length
 |[],_,_,_=>yi _
 |x::r,left,hn,hs=>by
  have hn':=yu.mp hn;have q:=WN (ms:=r) (left:=left.erase x) hn'.2 (λy hy=>(List.mem_erase_of_ne (λe=>hn'.1 (by rw [e] at hy;exact hy))).mpr (hs y (yW _ hy)));have hx:=hs x yV;rw [List.length_erase_of_mem hx] at q;have pos:0<left.length:=List.length_pos_of_mem hx;show r.length+1<=_;omega
def top (i:Nat):Stmt:=PySem.Challenge.pw_rinsework_k07_works_told.main.body.getD i (.Pass ⟨0,0,0,0⟩)
abbrev ZS:Stmt:=top 40
abbrev QZ:Stmt:=top 41
abbrev Jb:Stmt:=top 42
theorem Jg {p:Addr}(h:H p=none)(o:HO):Same H (j3 H p o):=λb u q=>by rw [z9 (w9 q h)];exact q
theorem sizes (h:n<=1000):n<=sizeLine:=uY (wL h)
def Ji:Sp:=λvs H Q _=>∃ c k:Int,vs=[.int c,.int k]/\0<=k/\k<=100/\∀ v:Int,0<=v->v<2147483648->Q (.int v) H
def YK (K:Fg):Sp:=λvs H Q _=>∃(a:Addr)(ns:List Int)(k:Int),vs=[.ref a,.int k]/\SqL K H a (ns.map V.int)/\ns.length<=63/\0<=k/\k<=12 /\
 ∀(r:Addr)(n:Int)(H':Hp),H r=none->Same H H'->H' r=some (.lst [.int n])->Q (.ref r) H'
section
theorem sc_take:w5 ["stream","many","digit"] ["stream","many"] (j5 Jb):=k6
theorem BP (F:Fun K "_law_take" "_law_take" Jb f fd):FnOk P w K mg base v3 1 f fd ["stream","many"] vI:=by
 refine F.ok sc_take (λvs H Q E h=>?_) (λcdv A outer s H vs Q E hr h=>?_)
 ·obtain ⟨a,n,m,rfl,_⟩:=h;rfl
 obtain ⟨a,n,m,rfl,hH,hm,q⟩:=h;refine ⟨_,(j6 (i8 (i:=2) sc_take.nd rfl (Or.inl rfl) (v7 jI (QM (XS (K:=K) rfl) (pv 0) z0 (λ_ _=>rfl)) (pv 1)))
  (j6 (Yd (v7 BV (QM (XS (K:=K) rfl) (pv 0) z0 (λ_ _=>rfl)) (pv 1)) (Pw (pv 0) z0 Da))
  (j8 (y6 (pv 2))))),?_⟩
 refine ⟨_,rfl,a,_,0,_,rfl,rfl,SqL.of hH,rfl,_,rfl,n,m,rfl,rfl,hm.1,?_⟩;refine ⟨_,rfl,a,_,0,_,rfl,rfl,SqL.of hH,rfl,_,rfl,n,m,rfl,rfl,hm,?_⟩;refine ⟨_,rfl,a,_,0,0,rfl,rfl,hH,rfl,?_⟩;exact ⟨_,rfl,q⟩
theorem sc_mixed:w5 ["cell","k","one"] ["cell","k"] (j5 ZS):=k6
theorem BE (F:Fun K "_law_mixed" "_law_mixed" ZS f fd):FnOk P w K mg base v3 1 f fd ["cell","k"] Ji:=by
 refine F.ok sc_mixed (λvs H Q E h=>?_) (λcdv A outer s H vs Q E hr h=>?_)
 ·obtain ⟨c,k,rfl,_⟩:=h;rfl
 obtain ⟨c,k,rfl,k0,k1,q⟩:=h;refine ⟨_,(j6 (i8 (i:=2) sc_mixed.nd rfl (Or.inl rfl) (v7 jI (v7 vw (v7 op_add (v7 op_add (v7 jI (pv 0) z0) (v7 vw z0 (pv 1))) z0) z0) z0))
  (j8 (y6 (v7 jI (v7 vw (v7 jI (v7 vw (pv 2) (pv 2)) z0) z0) z0)))),?_⟩
 refine ⟨_,rfl,_,_,rfl,rfl,(by show (0:Int)<1000000007;decide),_,rfl,_,_,rfl,rfl,.inl ⟨by decide,by decide⟩,_,_,rfl,rfl,_,_,rfl,rfl,_,_,rfl,rfl,.inr ⟨by decide,by decide⟩,_,_,rfl,rfl,(by show (0:Int)<2147483647;decide),?_⟩;generalize hone:(c % 1000000007+7919*k+101)*48271 % 2147483647=one;have o0:0<=one:=by rw [<- hone];exact yy _ (by decide)
 have o1:one<2147483647:=by rw [<- hone];exact yE _ (by decide)
 refine ⟨_,rfl,_,rfl,_,_,rfl,rfl,.inl ⟨by omega,by omega⟩,_,_,rfl,rfl,(by show (0:Int)<2147483629;decide),_,_,rfl,rfl,.inr ⟨by decide,by decide⟩,_,_,rfl,rfl,(by show (0:Int)<2147483647;decide),?_⟩;exact q _ (yy _ (by decide)) (Int.lt_trans (yE _ (by decide)) (by decide))
end
def MM:Int:=10 ^ (60:Int).toNat
theorem Qg:zK 10 60:=⟨by decide,by decide,by decide⟩
theorem VW:zK 10 18:=⟨by decide,by decide,by decide⟩
theorem Qf:Builtin.Int.intBits MM<=2 ^ 20:=by decide +kernel
def M2:Int:=MM*MM
theorem wZ:0<M2:=by decide +kernel
theorem UL:Builtin.Int.intBits M2<=2 ^ 20:=by decide +kernel
theorem Dh {M r:Int}{i:Nat}(hM:0<M)(h0:0<=c)(h:c<M ^ i)(r0:0<=r)(r1:r<M):0<=c*M+r/\c*M+r<M ^ (i+1):=by
 have e:M ^ (i+1)=M ^ i*M:=Int.pow_succ M i;have h1:(c+1)*M<=M ^ i*M:=Int.mul_le_mul_of_nonneg_right (by omega) (Int.le_of_lt hM);have h2:(c+1)*M=c*M+M:=by rw [Int.add_mul,Int.one_mul]
 have h3:0<=c*M:=Int.mul_nonneg h0 (Int.le_of_lt hM);rw [e];omega
theorem UA:∀ i:_root_.Fin 8,(M2 ^ (i:Nat)).toNat<2 ^ 2800:=by decide +kernel
theorem UN {i:Nat}(hi:i<=7)(h0:0<=c)(h:c<M2 ^ i):Builtin.Int.intBits c<=2 ^ 20:=by
 obtain ⟨n,rfl⟩:=uR h0;have q:=UA ⟨i,by omega⟩;have q2:n<2 ^ 2800:=by have q':(M2 ^ i).toNat<2 ^ 2800:=q;omega
 exact yh (PyProof.Rows.intBits_le (by rw [Int.natAbs_natCast];exact q2)) (by decide)
theorem Cq:∀ i:_root_.Fin 13,∀ j:_root_.Fin 64,Builtin.Range.small ((i:Nat):Int) ((j:Nat):Int) 12=true:=by decide +kernel
theorem Zu {i:Int}:Builtin.Range.rangeSize i j 12=if i<j then (j-i-1) / 12+1 else 0:=rfl
theorem Cp {i:Int}(h0:0<=i)(h1:i<=12)(h2:0<=j)(h3:j<=63):0<=Builtin.Range.rangeSize i j 12/\Builtin.Range.small i j 12=true/\zH i j 12<=6/\∀ t:Nat,t<zH i j 12->i+t*12<j:=by
 refine ⟨?_,?_,?_,λt ht=>?_⟩
 ·rw [Zu];split<;>omega
 ·have q:=Cq ⟨i.toNat,by omega⟩ ⟨j.toNat,by omega⟩;have e1:((i.toNat:Nat):Int)=i:=by omega
  have e2:((j.toNat:Nat):Int)=j:=by omega
  have q':Builtin.Range.small ((i.toNat:Nat):Int) ((j.toNat:Nat):Int) 12=true:=q;rw [e1,e2] at q';exact q'
 ·unfold zH;rw [Zu];split<;>omega
 ·unfold zH at ht;rw [Zu] at ht;split at ht<;>omega
theorem UH {ns:List Int}{k:Int}(h0:0<=k)(h:k<(ns.length:Int)):∃ v:Int,atI (ns.map V.int) k=some (.int v):=by
 have hk:k.toNat<ns.length:=by omega
 have ek:k=((k.toNat:Nat):Int):=by omega
 have q:atI (ns.map V.int) ((k.toNat:Nat):Int)=some (.int ns[k.toNat]):=xn (by rw [yQ,yw hk]<;>rfl);rw [<- ek] at q;exact ⟨_,q⟩
section
theorem sc_stream:w5 ["script","k","cell","j","found"] ["script","k"] (j5 QZ):=k6
theorem BN (F:Fun K "_law_stream" "_law_stream" QZ f fd)(Ec:Fn P w K mg base 1 "_law_mixed" ["cell","k"] Ji)(Al:mg "len"=none)(Am:mg "range"=none)(Ie:mg "sum"=none):FnOk P w K mg base v3 2 f fd ["script","k"] (YK K):=by
 refine F.ok sc_stream (λvs H Q E h=>?_) (λcdv A outer s H vs Q E hr h=>?_)
 ·obtain ⟨a,ns,k,rfl,_⟩:=h;rfl
 obtain ⟨a,ns,k,rfl,hS,h63,k0,k1,q⟩:=h;refine ⟨_,(j6 (i8 (i:=2) sc_stream.nd rfl (Or.inl rfl) z0)
  (j6 (ji PassesOwn.never rfl (PD rfl Am (j0 (pv 1) (j0 (b9 (VL (K:=K) rfl) rfl Al PySem.boot_len (j0 (pv 0) w6)) (j0 z0 w6)))) (m3 (i:=3) sc_stream.nd rfl (Or.inl rfl))
   (j8 (i8 (i:=2) sc_stream.nd rfl (Or.inl rfl) (v7 op_add (v7 QJ (pv 2) (v7 QJ (v7 xH z0 z0) (v7 xH z0 z0))) (v7 jI (QM (XS (K:=K) rfl) (pv 0) (pv 3) (λ_ _=>rfl)) (v7 QJ (v7 xH z0 z0) (v7 xH z0 z0)))))))
  (j6 (c6 (c8 QG (pv 2) (v7 xH z0 z0) (c4 _)) (j8 (y6 (qq (j0 (pv 2) w6)))) c7)
  (j6 (i8 (i:=2) sc_stream.nd rfl (Or.inl rfl) (v7 op_add (pv 2) (b9 (Gf (K:=K) rfl rfl) rfl Ie US (j0 (qp (N':=["one"]) (cap:=[none]) (o4 rfl rfl rfl) rfl (qx (K:=K) rfl (pv 0)) (λ_ _ _ _ _ _=>(m3 (i:=0) (by show (["one"]:List Str).Nodup;decide +kernel) rfl (Or.inl rfl))) (λ_ _ _ _ _ _=>qi) (λ_ _ _ _ _ _=>(v7 jI (pv 0) (v7 xH z0 z0)))) w6))))
  (j6 (i8 (i:=4) sc_stream.nd rfl (Or.inl rfl) z0)
  (j6 (ji PassesOwn.never rfl (vC rfl Am (j0 z0 w6)) (m3 (i:=3) sc_stream.nd rfl (Or.inl rfl))
   (j8 (i8 (i:=4) sc_stream.nd rfl (Or.inl rfl) (v7 op_add (v7 vw (pv 4) z0) (c5 Ec hr (by decide) rfl (j0 (v7 op_add (v7 op_add (pv 2) (v7 vw z0 (pv 1))) (b9 (VL (K:=K) rfl) rfl Al PySem.boot_len (j0 (pv 0) w6))) (j0 (pv 3) w6)))))))
  (j8 (y6 (qq (j0 (pv 4) w6)))))))))),?_⟩
 have hl:(((ns.map V.int).length:Nat):Int)=(ns.length:Int):=by rw [yZ]
 obtain ⟨z1,z2,z3,z4⟩:=Cp (i:=k) (j:=(((ns.map V.int).length:Nat):Int)) k0 k1 (by omega) (by omega);refine ⟨_,rfl,_,rfl,a,_,rfl,.inl hS,k,_,12,rfl,⟨by decide,by decide⟩,z1,z2,GP (λi U H2=>∃(c:Int)(j:Option V),U=[some (.ref a),some (.int k),some (.int c),j,none]/\H2=H/\0<=c/\c<M2 ^ i)
  ⟨0,none,rfl,rfl,Int.le_refl 0,by decide⟩ ?_ ?_⟩
 ·rintro i U H2 hi ⟨c,j,rfl,rfl,c0,c1⟩;obtain ⟨v,hv⟩:=UH (ns:=ns) (k:=k+i*12) (by omega) (by have:=z4 i hi;omega);refine ⟨_,rfl,_,_,rfl,rfl,Qg,_,_,rfl,rfl,Qg,_,_,rfl,rfl,⟨Qf,Qf⟩,_,_,rfl,rfl,⟨UN (by omega) c0 c1,UL⟩,_,rfl,_,rfl,a,_,_,_,rfl,rfl,hS,hv,
   _,_,rfl,rfl,Qg,_,_,rfl,rfl,Qg,_,_,rfl,rfl,⟨Qf,Qf⟩,_,_,rfl,rfl,wZ,_,_,rfl,rfl,?_⟩
  have sb:=Dh (i:=i) wZ c0 c1 (yy v (Ne.symm (Int.ne_of_lt wZ))) (yE v wZ);exact ⟨_,_,rfl,rfl,sb.1,sb.2⟩
 ·rintro U H2 ⟨c,j,rfl,rfl,c0,c1⟩;refine ⟨_,rfl,_,_,rfl,rfl,VW,_,_,rfl,rfl,_,rfl,ite2 (λ_=>?_) (λ_=>?_)⟩
  ·refine ⟨_,rfl,(by show 1<=sizeLine;decide),λp hp=>?_⟩;exact q p c _ hp (Jg hp _) u3
  ·refine ⟨_,rfl,_,rfl,a,rfl,⟨_,hS⟩,Gi (K:=K) (a:=a) (xs:=ns.map V.int) (λi ys H3=>H3=H2/\∃ ms:List Int,ys=ms.map V.int/\ms.length=i) ⟨rfl,[],rfl,rfl⟩ ?_ ?_ ?_ ?_⟩
   ·rintro i ys H3 hi ⟨_,ms,rfl,rfl⟩;rw [yZ] at hi ⊢;exact sizes (by omega)
   ·rintro i ys H3 hi ⟨rfl,_⟩;exact hS
   ·rintro i x ys H3 R hx ⟨rfl,ms,rfl,rfl⟩ hR;rw [yQ] at hx;obtain ⟨v,hv,rfl⟩:=yG.mp hx;refine ⟨Wk.one rfl,⟨_,rfl,_,_,rfl,rfl,VW,_,_,rfl,rfl,(by show (0:Int)<10 ^ (18:Int).toNat;decide),?_⟩⟩;exact hR _ _ ⟨rfl,ms++[_],by rw [yz];rfl,by rw [yF];rfl⟩
   ·rintro ys H3 ⟨rfl,ms,rfl,_⟩ D hD;refine ⟨D,ms,rfl,SqL.of u3,_,_,rfl,rfl,?_⟩;have g1:Same H3 (j3 H3 D (.lst (ms.map V.int))):=Jg hD _;refine ⟨12,rfl,by decide,by decide,GQ (n:=12) (λi U H4=>∃(f:Int)(j:Option V),U=[some (.ref a),some (.int k),some (.int (c+ms.sum)),j,some (.int f)]/\H4=j3 H3 D (.lst (ms.map V.int))) ⟨0,_,rfl,rfl⟩ ?_ ?_⟩
    ·rintro i U H4 hi ⟨f,j,rfl,rfl⟩;refine ⟨_,rfl,_,_,rfl,rfl,.inr ⟨by decide,by decide⟩,_,rfl,_,rfl,_,_,rfl,rfl,.inl ⟨by decide,by decide⟩,_,_,rfl,rfl,_,rfl,a,_,rfl,.inl (g1.seq hS),_,_,rfl,rfl,_,rfl,_,_,rfl,by omega,by omega,λv v0 v1=>?_⟩;exact ⟨_,_,rfl,rfl,_,_,rfl,rfl⟩
    ·rintro U H4 ⟨f,j,rfl,rfl⟩;refine ⟨_,rfl,(by show 1<=sizeLine;decide),λp hp=>?_⟩;exact q p f _ (g1.free hp) (g1.trans (Jg hp _)) u3
end
def jg (K:Fg):List PV->Prop:=λxs=>∃(ns:List Int)(k:Int),xs=[scr K ns,.at (.int k)]/\ns.length<=63/\0<=k/\k<=12
def zL:List PV->PV->Prop:=λ_ y=>∃ n:Int,y = .lst [.at (.int n)]
theorem Di {K:Fg}(h:spN (jg K) zL vs H Q E):YK K vs H Q E:=by obtain ⟨Hs,xs,sm,r,⟨ns,k,rfl,h63,k0,k1⟩,q⟩:=h;obtain ⟨v,w,rfl,p1,p2⟩:=reps_cons.mp r;obtain ⟨u,z,rfl,p3,p4⟩:=reps_cons.mp p2;cases reps_nil.mp p4;cases rep_at.mp p3;obtain ⟨a,rfl,hS⟩:=CV sm p1;exact ⟨a,ns,k,rfl,hS,h63,k0,k1,λb n H' nb g e=>q _ b Hs H' ⟨n,rfl⟩ ⟨.refl _,g,sm.trans g,λ_ _ z=>z⟩ nb (sm.free nb) ⟨_,e,.one (rep_at.mpr rfl)⟩⟩
section
theorem BM (F:Fun K "_law_stream" "_law_stream" QZ f fd)(Ec:Fn P w K mg base 1 "_law_mixed" ["cell","k"] Ji)(Al:mg "len"=none)(Am:mg "range"=none)(Ie:mg "sum"=none):FnOk P w K mg base v3 2 f fd ["script","k"] (spN (jg K) zL):=(BN F Ec Al Am Ie).imp λ_ _ _ _ h=>Di h
end
def j9:Int:=10 ^ 30
theorem wX:0<j9:=by decide +kernel
theorem Gk:zK 10 30:=⟨by decide,by decide,by decide⟩
theorem vD:je (.at (.int 10)) (.at (.int 30))=some (.at (.int j9)):=by show (if zK 10 30 then some (V.int (10 ^ (30:Int).toNat)) else none).map PV.at=_;rw [if_pos Gk];rfl
theorem KR {k:Int}(h0:0<=k)(h1:k<=2*j9):k.natAbs.log2<9000:=by
 have hb:(2*j9).toNat<2 ^ 9000:=yJ (show (2*j9).toNat<2 ^ 110 by decide +kernel) (Nat.pow_le_pow_right (by decide) (by decide));have:k.natAbs<2 ^ 9000:=by omega
 by_cases hz:k.natAbs=0
 ·rw [hz];decide
 ·exact (Nat.log2_lt hz).mpr this
theorem jv {n k:Int}(h0:0<k)(h1:k<=2*j9):wY n k:=⟨h0,KR (by omega) h1⟩
theorem vQ:(1000:Int)<=j9:=by decide +kernel
def v8 (rss:List (List Int)):PV:= .lst (rss.map λr=> .lst (r.map λn=> .at (.int n)))
def wH:List PV->Prop:=λxs=>xs=[]
def vU:List PV->PV->Prop:=λ_ y=>∃ n:Int,y = .at (.int n)/\0<=n/\n<j9
abbrev ZX:Stmt:=top 43
abbrev Vo (K:Fg):WS:=(wSeq (qb 1 (c9 0 (wP (dC (.int 5)))))
  (wSeq (qP (wPT (dT (z7 pLt (x9 1) (dC (.int 4))))) (xf (c9 0 (wP (z7 u5 (b7 (q9 (dC (.int 1)) (q9 (dC (.int 4)) (q9 (dC (.int 10)) (q9 (dC (.int 1000)) x0))))) (x9 1))))) xm)
  (xf (c9 0 (wP (z7 je (dC (.int 10)) (dC (.int 30))))))))
theorem sc_rinse:w5 ["stream","kind"] ["stream"] (j5 ZX):=k6
theorem Kd:∀ xs,wH xs->xs.length+1=(["stream"]:List Str).length:=by rintro xs rfl;rfl
theorem wA {m k:Int}(h0:0<k)(h1:k<=j9):vU [] (.at (.int (m % k))):=⟨_,rfl,yy _ (by omega),Int.lt_of_lt_of_le (yE _ h0) h1⟩
theorem Kj {K:Fg}:∀ xs n,wH xs->Vo K (k8 n::xs.map .sh++List.replicate ((["stream","kind"]:List Str).length-(xs.length+1)) .no) (λ_=>False) λy ε=>vU xs y/\zk 0 ε:=by
 rintro xs n rfl;have h0:0<=n % 5:=yy _ (by decide);have h5:n % 5<5:=yE _ (by decide);have hB:=vQ;refine ⟨⟨n,rfl⟩,_,rfl,n,5,rfl,rfl,⟨by decide,by decide⟩,?_⟩;by_cases hk:n % 5<4
 ·refine Xl (k9 (v:=true) (show some (PV.at (.bl (decide (n % 5<4))))=_ by rw [ym hk])) ?_;have c:n % 5=0∨n % 5=1∨n % 5=2∨n % 5=3:=by omega
  rcases c with e|e|e|e
  ·exact ⟨⟨n / 5,rfl⟩,_,(by show z7 u5 _ (x9 1) [k8 (n / 5),.sh (.at (.int (n % 5)))]=_;rw [e];rfl),n / 5,1,rfl,rfl,⟨by decide,by decide⟩,wA (by decide) (by omega),_,rfl⟩
  ·exact ⟨⟨n / 5,rfl⟩,_,(by show z7 u5 _ (x9 1) [k8 (n / 5),.sh (.at (.int (n % 5)))]=_;rw [e];rfl),n / 5,4,rfl,rfl,⟨by decide,by decide⟩,wA (by decide) (by omega),_,rfl⟩
  ·exact ⟨⟨n / 5,rfl⟩,_,(by show z7 u5 _ (x9 1) [k8 (n / 5),.sh (.at (.int (n % 5)))]=_;rw [e];rfl),n / 5,10,rfl,rfl,⟨by decide,by decide⟩,wA (by decide) (by omega),_,rfl⟩
  ·exact ⟨⟨n / 5,rfl⟩,_,(by show z7 u5 _ (x9 1) [k8 (n / 5),.sh (.at (.int (n % 5)))]=_;rw [e];rfl),n / 5,1000,rfl,rfl,⟨by decide,by decide⟩,wA (by decide) (by omega),_,rfl⟩
 ·refine jT (k9 (v:=false) (show some (PV.at (.bl (decide (n % 5<4))))=_ by rw [yI hk])) ?_;exact ⟨⟨n / 5,rfl⟩,_,y7 rfl rfl vD,n / 5,j9,rfl,rfl,jv wX (by omega),wA wX (Int.le_refl _),_,rfl⟩
theorem BJ (F:Fun K "_law_rinse" "_law_rinse" ZX f fd)(Aj:Fn P w K mg base 1 "_law_take" ["stream","many"] vI):FnOk P w K mg base v3 2 f fd ["stream"] (spD wH vU) :=
 okD (k:=1) (b:=Vo K) F sc_rinse Kd (λcdv A outer s H E hr=>⟨_,(@j6 _ _ _ _ _ (@i8 _ _ 1 _ _ _ _ sc_rinse.nd rfl (Or.inl rfl) (c5 Aj hr (by decide) rfl (@j0 _ _ _ _ _ (pv 0) (@j0 _ _ _ _ _ z0 w6 (by rfl)) (by rfl))) (by rfl) (.inl rfl))
  (@j6 _ _ _ _ _ (c6 (c8 (QI) (pv 1) z0 (c4 _)) (@j8 _ _ _ (y6 (c5 Aj hr (by decide) rfl (@j0 _ _ _ _ _ (pv 0) (@j0 _ _ _ _ _ (iW (K:=K) rfl (@qq _ _ _ _ (@j0 _ _ _ _ _ z0 (@j0 _ _ _ _ _ z0 (@j0 _ _ _ _ _ z0 (@j0 _ _ _ _ _ z0 w6 (by rfl)) (by rfl)) (by rfl)) (by rfl))) (pv 1)) w6 (by rfl)) (by rfl))))) c7)
  (@j8 _ _ _ (y6 (c5 Aj hr (by decide) rfl (@j0 _ _ _ _ _ (pv 0) (@j0 _ _ _ _ _ (v7 (xH) z0 z0) w6 (by rfl)) (by rfl))))))),
  (by repeat' first|infer_instance|(refine @Mi.instSemWSTSeqWSeq _ _ _ _ ?_ ?_)|(apply @Mi.instSemWSTForWForOfSemWIOfSemWG))⟩) Kj
def vF:List PV->Prop:=λxs=>∃ h:Nat,xs=[.at (.int h)]/\1<=h/\h<=4
def vV:List PV->PV->Prop:=λxs y=>∃(h:Nat)(rss:List (List Int)),xs=[.at (.int h)]/\y=v8 rss/\qQ h rss
abbrev ZY:Stmt:=top 44
abbrev Vp (K:Fg):WS:=(xf (Xh [none,some 1,some 0] [0] (wIp (zb (q9 (z7 o7 (x9 1) (dC (.int 1))) x0))) (v6 0) wW (Xh [none,some 2] [0] (wIp (zb (q9 (x8 1) x0))) (v6 0) wW (Xi 1 wH vU jq))))
theorem CO:w5 ["stream","hues"] ["stream","hues"] (j5 ZY):=k6
theorem Ke:∀ xs,vF xs->xs.length+1=(["stream","hues"]:List Str).length:=by rintro xs ⟨h,rfl,_⟩;rfl
theorem QY {a:MA}{k:Nat}(h:a ε=some [.at (.int (k:Int))])(hk:k<=lim):zb a ε=some (qz 0 k):=by have hlim:(lim:Int)=1000000:=rfl;have hl:lim=1000000:=rfl;unfold zb;rw [h];show (if -(lim:Int)<=(k:Int)/\(k:Int)<=(lim:Int) then some (qz 0 (k:Int).toNat) else none)=_;rw [if_pos ⟨by omega,by omega⟩,Int.toNat_natCast]
theorem Kk {K:Fg}:∀ xs n,vF xs->Vp K (k8 n::xs.map .sh++List.replicate ((["stream","hues"]:List Str).length-(xs.length+1)) .no) (λ_=>False) λy ε=>vV xs y/\zk 0 ε:=by
 rintro xs n ⟨h,rfl,h1,h4⟩;have hl:lim=1000000:=rfl;refine ⟨qz 0 (h+1),QY rfl (by omega),rfl,by rw [jm];omega,?_⟩;refine VV (λrest ys ε=>∃(m:Int)(rss:List (List Int)),ε=[.no,.sh (.at (.int (h:Int))),k8 m]/\ys=rss.map (λr=>PV.lst (r.map λn=> .at (.int n)))/\rss.length+rest.length=h+1/\(∀ r∈rss,r.length=h)/\(∀ r∈rss,∀ n∈r,0<=n/\n<j9)) ?_ ?_ _ [] _ ⟨n,[],rfl,rfl,by rw [jm];simp,(λ_ z=>nomatch z),(λ_ z=>nomatch z)⟩
 ·rintro ys ε ⟨m,rss,rfl,rfl,e1,e2,e3⟩;exact ⟨λ_=>⟨_,rfl⟩,⟨h,rss,rfl,rfl,by simpa using e1,λr hr=>⟨e2 r hr,e3 r hr⟩⟩,m,rfl⟩
 ·rintro x rest ys ε ⟨m,rss,rfl,rfl,e1,e2,e3⟩;simp only [yx] at e1;refine ⟨_,rfl,?_⟩;refine ⟨qz 0 h,QY rfl (by omega),rfl,by rw [jm];omega,?_⟩;refine VV (λrest2 zs ε=>∃(m:Int)(r:List Int),ε=[.no,k8 m]/\zs=r.map (λn=>PV.at (.int n))/\r.length+rest2.length=h/\(∀ n∈r,0<=n/\n<j9)) ?_ ?_ _ [] _ ⟨m,[],rfl,rfl,by rw [jm];simp,(λ_ z=>nomatch z)⟩
  ·rintro zs ε ⟨m2,r,rfl,rfl,g1,g2⟩;refine ⟨(λ⟨y,e⟩=>nomatch (show some (MSlot.sh x)=some (MSlot.ow y) from e)),⟨m2,rss++[r],rfl,by rw [yz];rfl,by rw [yF];simp;omega,?_,?_⟩⟩
   ·intro q hq;rcases yA.mp hq with hq|hq
    ·exact e2 q hq
    ·rw [yO.mp hq];simpa using g1
   ·intro q hq;rcases yA.mp hq with hq|hq
    ·exact e3 q hq
    ·rw [yO.mp hq];exact g2
  ·rintro x2 rest2 zs ε ⟨m2,r,rfl,rfl,g1,g2⟩;simp only [yx] at g1;refine ⟨_,rfl,⟨_,rfl⟩,⟨_,rfl⟩,rfl,?_⟩;rintro y n' ⟨v,rfl,v0,v1⟩;refine ⟨n',r++[v],rfl,by rw [yz];rfl,by rw [yF];simp;omega,λq hq=>?_⟩;rcases yA.mp hq with hq|hq
   ·exact g2 q hq
   ·rw [yO.mp hq];exact ⟨v0,v1⟩
theorem BK (F:Fun K "_law_rinses" "_law_rinses" ZY f fd)(Ic:Fn P w K mg base 2 "_law_rinse" ["stream"] (spD wH vU))(Am:mg "range"=none):FnOk P w K mg base v3 3 f fd ["stream","hues"] (spD vF vV) :=
 okD (k:=2) (b:=Vp K) F CO Ke (λcdv A outer s H E hr=>⟨_,(@j8 _ _ _ (y6 (qp (N':=["j","hues","stream"]) (cap:=[none,some 1,some 0]) (o4 rfl rfl rfl) rfl (vC rfl Am (@j0 _ _ _ _ _ (v7 (xk (K:=K) rfl) (pv 1) z0) w6 (by rfl))) (λ_ _ _ _ _ _=>(m3 (i:=0) (by show (["j","hues","stream"]:List Str).Nodup;decide +kernel) rfl (Or.inl rfl))) (λ_ _ _ _ _ _=>qi) (λ_ _ _ _ _ _=>(qp (N':=["k","stream"]) (cap:=[none,some 2]) (o4 rfl rfl rfl) rfl (vC rfl Am (@j0 _ _ _ _ _ (pv 1) w6 (by rfl))) (λ_ _ _ _ _ _=>(m3 (i:=0) (by show (["k","stream"]:List Str).Nodup;decide +kernel) rfl (Or.inl rfl))) (λ_ _ _ _ _ _=>qi) (λ_ _ _ _ _ _=>(c5 Ic hr (by decide) rfl (@j0 _ _ _ _ _ (pv 1) w6 (by rfl))))))))),
  (by repeat' first|infer_instance|(refine @Mi.instSemWSTSeqWSeq _ _ _ _ ?_ ?_)|(apply @Mi.instSemWSTForWForOfSemWIOfSemWG))⟩) Kk
def u6 (ss:List Str):List PV:=ss.map λs=> .at (.str s)
theorem Jk (ss:List Str):(u6 ss).length=ss.length:=yZ _
def Low (x:Str):Prop:=∀ c∈x.cps.toList,97<=c/\c<=122
structure jX (x:Str):Prop where
 low:Low x
 one:1<=x.length
 eight:x.length<=8
def wG:List PV->Prop:=λxs=>∃ ss:List Str,xs=[.lst (u6 ss)]/\ss.length<=10/\∀ s∈ss,jX s
def jY:List PV->PV->Prop:=λxs y=>∃(ss:List Str)(x:Str),xs=[.lst (u6 ss)]/\y = .at (.str x)/\jX x/\x∉ss
abbrev ZT:Stmt:=top 45
abbrev Vl (K:Fg):WS:=(wSeq (qb 2 (wP (dC (.str ""))))
  (wSeq (qP (wAnd (wPT (dT (z7 o8 (x9 1) (b7 x0)))) (wT (n8 pEq (c9 0 (wP (dC (.int 3)))) (wP (dC (.int 0)))))) (qb 2 (wP (dSlS (z7 u5 (x9 1) (dUn vy (dC (.int 1)))) pNo (pSo (dC (.int 7)))))) xm)
  (wSeq (wFor (JC (n8 o7 (wP (dC (.int 1))) (c9 0 (wP (dC (.int 8)))))) (v6 3) (qP (wPT (dT (z7 pLt (z5 qY (q9 (x9 2) x0)) (dC (.int 8))))) (qb 2 (n8 o7 (wP (x8 2)) (n8 u5 (wP (dC (.str "abcdefghijklmnopqrstuvwxyz"))) (c9 0 (wP (dC (.int 26))))))) xm))
  (wSeq (qP (wPT (dT (z7 (pIn false) (x9 2) (x9 1)))) (qb 2 (wP (z7 u5 (b8 [none,some 1] [0] (wd (dC (.str "abcdefghijk"))) (v6 0) (dT (z7 (pIn true) (x9 0) (x9 1))) (x8 0)) (dC (.int 0))))) xm)
  (xf (wP (x8 2)))))))
theorem sc_name:w5 ["stream","names","word","k"] ["stream","names"] (j5 ZT):=k6
theorem Kc:∀ xs,wG xs->xs.length+1=(["stream","names"]:List Str).length:=by rintro xs ⟨ss,rfl,_⟩;rfl
theorem JN:∀ ss:List Str,ats (u6 ss)=some (ss.map V.str)
 |[]=>rfl
 |s::ss=>by
  show (ats (u6 ss)).map (V.str s::·)=_;rw [JN ss];rfl
theorem Wm (x:Str):∀ ss:List Str,inV (.str x) (ss.map V.str)=decide (x∈ss)
 |[]=>by simp [inV]
 |s::ss=>by
  have ih:=Wm x ss;unfold inV at ih ⊢;rw [yP,List.any_cons,ih];have e:qe (.str s) (.str x)=decide (s=x):=rfl;rw [e];by_cases h:s=x
  ·subst h;simp
  ·simp [h,Ne.symm h]
theorem GO (ss:List Str):(ss.map V.str).all u4=true:=by rw [ya];intro v hv;obtain ⟨s,_,rfl⟩:=yr.mp hv;rfl
theorem Qt (neg:Bool)(x:Str)(ss:List Str):pIn neg (.at (.str x)) (.lst (u6 ss))=some (.at (.bl (if neg then !decide (x∈ss) else decide (x∈ss)))):=by show (ats (u6 ss)).bind _=_;rw [JN,yM,if_pos ⟨rfl,GO ss⟩,Wm]
theorem De (h:Low x)(l u:Option Int):Low (Txt.slice x l u):=λc hc=>by
 unfold Txt.slice at hc;split at hc
 ·exact h c hc
 ·dsimp only at hc
  obtain ⟨i,_,e⟩:=yc.mp hc;refine h c ?_;rw [Array.mem_toList_iff];exact Array.mem_of_getElem? e
theorem Dd {k:Nat}(h:z.length<=k)(l u:Option Int):(Txt.slice z l u).length<=k:=yh (Txt.slice_le z l u) h
def eleven:List Str:=[⟨#[97]⟩,⟨#[98]⟩,⟨#[99]⟩,⟨#[100]⟩,⟨#[101]⟩,⟨#[102]⟩,⟨#[103]⟩,⟨#[104]⟩,⟨#[105]⟩,⟨#[106]⟩,⟨#[107]⟩]
theorem UG {y:Str}(hx:Low x)(hy:Low y):Low (x++y):=λc hc=>by
 have e:(x++y).cps.toList=x.cps.toList++y.cps.toList:=by show (x.cps++y.cps).toList=_;simp
 rw [e] at hc;rcases yA.mp hc with h|h
 ·exact hx c h
 ·exact hy c h
theorem UF (x y:Str):(x++y).length=x.length+y.length:=by show (x.cps++y.cps).size=_;simp [Str.length]
theorem UE {k:Int}(h0:0<=k)(h1:k<26):∃ c:Nat,u5 (.at (.str "abcdefghijklmnopqrstuvwxyz")) (.at (.int k))=some (.at (.str ⟨#[c]⟩))/\97<=c/\c<=122:=by
 have q:∀ j:_root_.Fin 26,L2.atI (("abcdefghijklmnopqrstuvwxyz":Str).cps.toList) ((j:Nat):Int)=some (97+(j:Nat)):=by decide +kernel
 have e:=q ⟨k.toNat,by omega⟩;have e2:((k.toNat:Nat):Int)=k:=by omega
 have e':L2.atI (("abcdefghijklmnopqrstuvwxyz":Str).cps.toList) ((k.toNat:Nat):Int)=some (97+k.toNat):=e;rw [e2] at e';refine ⟨97+k.toNat,?_,by omega,by omega⟩;show (if ("abcdefghijklmnopqrstuvwxyz":Str).length<=lim then (L2.atI (("abcdefghijklmnopqrstuvwxyz":Str).cps.toList) k).map _ else none)=_;rw [if_pos (by decide +kernel),e'];rfl
theorem Gj (ss ls:List Str):m6 (v6 0) (dT (z7 (pIn true) (x9 0) (x9 1))) (x8 0) [.no,.sh (.lst (u6 ss))] (u6 ls)=some (u6 (ls.filter λx=>!decide (x∈ss))) :=
 VU (λs:Str=>PV.at (.str s)) (λs:Str=>PV.at (.str s)) (λx=>!decide (x∈ss)) ls λx _=>⟨_,rfl,k9 (y7 rfl rfl (Qt true x ss)),λ_=>rfl⟩
theorem GJ (h:a ε=some (.at (.str z)))(hz:z.length<=lim):dSlS a pNo (pSo (dC (.int j))) ε=some (.at (.str (Txt.slice z none (some j)))):=by unfold dSlS;rw [h];show (if z.length<=lim then some (PV.at (.str (Txt.slice z none (some j)))) else none)=_;rw [if_pos hz]
theorem Ki {K:Fg}:∀ xs n,wG xs->Vl K (k8 n::xs.map .sh++List.replicate ((["stream","names","word","k"]:List Str).length-(xs.length+1)) .no) (λ_=>False) λy ε=>jY xs y/\zk 0 ε:=by
 rintro xs n ⟨ss,rfl,h10,hok⟩;have hl:lim=1000000:=rfl;have hlI:(lim:Int)=1000000:=rfl;refine ⟨_,rfl,?_⟩;have fin:∀ (m:Int) (x:Str) (s3:MSlot),Low x->1<=x.length->x.length<=8->(wSeq (qP (wPT (dT (z7 (pIn false) (x9 2) (x9 1)))) (qb 2 (wP (z7 u5 (b8 [none,some 1] [0] (wd (dC (.str "abcdefghijk"))) (v6 0) (dT (z7 (pIn true) (x9 0) (x9 1))) (x8 0)) (dC (.int 0))))) xm) (xf (wP (x8 2)))) [k8 m,.sh (.lst (u6 ss)),.sh (.at (.str x)),s3] (λ_=>False) λy ε=>jY [.lst (u6 ss)] y/\zk 0 ε:=by
  intro m x s3 lx l1 l8;by_cases hin:x∈ss
  ·refine Xl (k9 (v:=true) (y7 rfl rfl ((Qt false x ss).trans (by simp [hin])))) ?_;have hs:jn "abcdefghijk"=u6 eleven:=by unfold jn;rw [show ("abcdefghijk":Str).cps.toList=[97,98,99,100,101,102,103,104,105,106,107] by decide +kernel];rfl
   have hne:eleven.filter (λx=>!decide (x∈ss))≠[]:=λz=>by
    have:eleven.length<=ss.length:=WN (by decide +kernel) λy hy=>by
     by_cases hys:y∈ss
     ·exact hys
     ·have:y∈eleven.filter (λx=>!decide (x∈ss)):=List.mem_filter.mpr ⟨hy,by simp [hys]⟩;rw [z] at this;exact nomatch this
    have e11:eleven.length=11:=rfl;omega
   obtain ⟨y,rest,hy⟩:=List.exists_cons_of_ne_nil hne;have hym:y∈eleven.filter (λx=>!decide (x∈ss)):=by rw [hy];exact yV
   obtain ⟨h1,h2⟩:=List.mem_filter.mp hym;have hyn:y∉ss:=by simpa using h2
   have hyo:jX y:=by
    have q:∀ z∈eleven,(z.length=1/\∀ c∈z.cps.toList,97<=c/\c<=122):=by decide +kernel
    exact ⟨(q y h1).2,by rw [(q y h1).1];exact yS _,by rw [(q y h1).1];decide⟩
   refine ⟨.at (.str y),?_,_,rfl,⟨ss,y,rfl,rfl,hyo,hyn⟩,_,rfl⟩;refine y7 (Wg (xs:=u6 eleven) (ys:=u6 (y::rest)) ?_ rfl (by decide) ?_) rfl (xn (j:=0) rfl)
   ·show some (jn "abcdefghijk")=_;rw [hs]
   ·rw [<- hy];exact Gj ss eleven
  ·refine jT (k9 (v:=false) (y7 rfl rfl ((Qt false x ss).trans (by simp [hin])))) ?_;exact ⟨_,rfl,⟨ss,x,rfl,rfl,⟨lx,l1,l8⟩,hin⟩,_,rfl⟩
 have loop:∀ (m:Int) (x:Str),Low x->x.length<=8->(wSeq (wFor (JC (n8 o7 (wP (dC (.int 1))) (c9 0 (wP (dC (.int 8)))))) (v6 3) (qP (wPT (dT (z7 pLt (z5 qY (q9 (x9 2) x0)) (dC (.int 8))))) (qb 2 (n8 o7 (wP (x8 2)) (n8 u5 (wP (dC (.str "abcdefghijklmnopqrstuvwxyz"))) (c9 0 (wP (dC (.int 26))))))) xm))
   (wSeq (qP (wPT (dT (z7 (pIn false) (x9 2) (x9 1)))) (qb 2 (wP (z7 u5 (b8 [none,some 1] [0] (wd (dC (.str "abcdefghijk"))) (v6 0) (dT (z7 (pIn true) (x9 0) (x9 1))) (x8 0)) (dC (.int 0))))) xm) (xf (wP (x8 2))))) [k8 m,.sh (.lst (u6 ss)),.sh (.at (.str x)),.no] (λ_=>False) λy ε=>jY [.lst (u6 ss)] y/\zk 0 ε:=by
  intro m x lx l8;have c0:0<=m % 8:=yy _ (by decide);have c1:m % 8<8:=yE _ (by decide);refine ⟨_,rfl,⟨⟨m,rfl⟩,_,rfl,m,8,rfl,rfl,⟨by decide,by decide⟩,_,rfl,1+m % 8,rfl,by omega,by omega,?_⟩⟩;refine XX (λrest ε=>∃(m:Int)(y:Str)(s3:MSlot),ε=[k8 m,.sh (.lst (u6 ss)),.sh (.at (.str y)),s3]/\Low y/\y.length<=8/\(rest.length<(1+m % 8*0+1)->True)/\(1<=y.length∨1<=rest.length)) ?_ ?_ _ _ ⟨_,x,_,rfl,lx,l8,λ_=>trivial,.inr (by rw [jm];omega)⟩
  ·rintro ε ⟨m2,y,s3,rfl,ly,y8,_,h1⟩;exact fin m2 y s3 ly (h1.resolve_right (by simp)) y8
  ·rintro z rest ε ⟨m2,y,s3,rfl,ly,y8,_,h1⟩;refine ⟨_,rfl,?_⟩;have ln:z7 pLt (z5 qY (q9 (x9 2) x0)) (dC (.int 8)) [k8 m2,.sh (.lst (u6 ss)),.sh (.at (.str y)),.sh z]=some (.at (.bl (decide ((y.length:Int)<8)))):=by refine y7 (j7 rfl (show (if y.length<=lim then some (PV.at (.int y.length)) else none)=_ from if_pos (by omega))) rfl rfl
   by_cases h8:y.length<8
   ·refine Xl (k9 (v:=true) (ln.trans (by rw [ym (by omega)]))) ?_;have d0:0<=m2 % 26:=yy _ (by decide);have d1:m2 % 26<26:=yE _ (by decide);obtain ⟨c,hc,c97,c122⟩:=UE d0 d1;have ly2:Low (y++⟨#[c]⟩):=UG ly λd hd=>by
     have:d=c:=by simpa using hd
     rw [this];exact ⟨c97,c122⟩
    have len2:(y++(⟨#[c]⟩:Str)).length=y.length+1:=UF _ _;refine ⟨_,rfl,_,rfl,⟨m2,rfl⟩,_,rfl,m2,26,rfl,rfl,⟨by decide,by decide⟩,_,hc,_,(show (if y.length+(⟨#[c]⟩:Str).length<=lim then _ else none)=_ from if_pos (by show y.length+1<=_;omega)),?_⟩;exact ⟨_,_,_,rfl,ly2,by omega,λ_=>trivial,.inl (by omega)⟩
   ·refine jT (k9 (v:=false) (ln.trans (by rw [yI (by omega)]))) ?_;exact ⟨_,_,_,rfl,ly,y8,λ_=>trivial,.inl (by omega)⟩
 by_cases hne:ss=[]
 ·subst hne;have e:wAnd (wPT (dT (z7 o8 (x9 1) (b7 x0)))) (wT (n8 pEq (c9 0 (wP (dC (.int 3)))) (wP (dC (.int 0))))) [k8 n,.sh (.lst (u6 [])),.sh (.at (.str "")),.no]=wAnd (wPT (dT (z7 o8 (x9 1) (b7 x0)))) (wT (n8 pEq (c9 0 (wP (dC (.int 3)))) (wP (dC (.int 0))))) [k8 n,.sh (.lst []),.sh (.at (.str "")),.no]:=rfl;refine ⟨false,rfl,?_⟩;exact loop n "" (λc hc=>nomatch hc) (by decide)
 ·obtain ⟨s0,r0,rfl⟩:=List.exists_cons_of_ne_nil hne;refine ⟨true,rfl,?_⟩;have z3:0<=n % 3:=yy _ (by decide);refine ⟨⟨n,rfl⟩,_,rfl,n,3,rfl,rfl,⟨by decide,by decide⟩,_,rfl,?_⟩;by_cases h3:n % 3=0
  ·refine ⟨_,(show pEq (.at (.int (n % 3))) (.at (.int 0))=some (.at (.bl true)) from ?_),true,rfl,?_⟩
   ·rw [h3];rfl
   ·have hg:(s0::r0).getLast (List.cons_ne_nil _ _)∈s0::r0:=List.getLast_mem _;have hk:=hok _ hg;have ix:u5 (.lst (u6 (s0::r0))) (.at (.int (-1)))=some (.at (.str ((s0::r0).getLast (List.cons_ne_nil _ _)))):=by show atI (u6 (s0::r0)) (-1)=_;unfold atI ixN;rw [if_neg (by decide),if_pos (by rw [Jk,yx];omega),yM,Jk,show ((-1:Int)+((s0::r0).length:Nat)).toNat=(s0::r0).length-1 by rw [yx];omega];unfold u6;rw [yQ,yw (by simp),List.getLast_eq_getElem];rfl
    have e8:=hk.eight;exact ⟨_,GJ (y7 rfl rfl ix) (by omega),loop _ _ (De hk.low _ _) (Dd hk.eight _ _)⟩
  ·refine ⟨_,(show pEq (.at (.int (n % 3))) (.at (.int 0))=some (.at (.bl false)) from ?_),false,rfl,?_⟩
   ·show some (PV.at (.bl (qe (.int (n % 3)) (.int 0))))=_;rw [show qe (.int (n % 3)) (.int 0)=decide (n % 3=0) from rfl,yI h3]
   ·exact loop _ "" (λc hc=>nomatch hc) (by decide)
theorem BF (F:Fun K "_law_name" "_law_name" ZT f fd)(Aj:Fn P w K mg base 1 "_law_take" ["stream","many"] vI)(Al:mg "len"=none)(Am:mg "range"=none):FnOk P w K mg base v3 2 f fd ["stream","names"] (spD wG jY) :=
 okD (k:=1) (b:=Vl K) F sc_name Kc (λcdv A outer s H E hr=>⟨_,(@j6 _ _ _ _ _ (@i8 _ _ 2 _ _ _ _ sc_name.nd rfl (Or.inl rfl) xx (by rfl) (.inl rfl))
  (@j6 _ _ _ _ _ (c6 (PW.pt (QT (c8 (xt (K:=K) (hu6 hr) rfl) (pv 1) (@qq _ _ _ _ w6) (c4 _)) (QU (c8 (Zg (K:=K) (hu6 hr) rfl) (c5 Aj hr (by decide) rfl (@j0 _ _ _ _ _ (pv 0) (@j0 _ _ _ _ _ z0 w6 (by rfl)) (by rfl))) z0 (c4 _))))) (@j8 _ _ _ (@i8 _ _ 2 _ _ _ _ sc_name.nd rfl (Or.inl rfl) (Ps (iW (K:=K) rfl (pv 1) (vB vL z0)) PL (PM z0)) (by rfl) (.inl rfl))) c7)
  (@j6 _ _ _ _ _ (ji PassesOwn.never rfl (vC rfl Am (@j0 _ _ _ _ _ (v7 (xk (K:=K) rfl) z0 (c5 Aj hr (by decide) rfl (@j0 _ _ _ _ _ (pv 0) (@j0 _ _ _ _ _ z0 w6 (by rfl)) (by rfl)))) w6 (by rfl))) (m3 (i:=3) sc_name.nd rfl (Or.inl rfl))
   (@j8 _ _ _ (c6 (c8 (QI) (b9 (zp (K:=K) rfl) rfl Al PySem.boot_len (@j0 _ _ _ _ _ (pv 2) w6 (by rfl))) z0 (c4 _)) (@j8 _ _ _ (@i8 _ _ 2 _ _ _ _ sc_name.nd rfl (Or.inl rfl) (v7 (xk (K:=K) rfl) (pv 2) (iW (K:=K) rfl xx (c5 Aj hr (by decide) rfl (@j0 _ _ _ _ _ (pv 0) (@j0 _ _ _ _ _ z0 w6 (by rfl)) (by rfl))))) (by rfl) (.inl rfl))) c7)))
  (@j6 _ _ _ _ _ (c6 (c8 (BX (K:=K) rfl) (pv 2) (pv 1) (by with_unfolding_all rfl)) (@j8 _ _ _ (@i8 _ _ 2 _ _ _ _ sc_name.nd rfl (Or.inl rfl) (iW (K:=K) rfl (qp (N':=["sign","names"]) (cap:=[none,some 1]) (o4 rfl rfl rfl) rfl (Ya xx) (λ_ _ _ _ _ _=>(m3 (i:=0) (by show (["sign","names"]:List Str).Nodup;decide +kernel) rfl (Or.inl rfl))) (λ_ _ _ _ _ _=>(Cb (c8 (WR (K:=K) rfl) (pv 0) (pv 1) (by with_unfolding_all rfl)))) (λ_ _ _ _ _ _=>(pv 0))) z0) (by rfl) (.inl rfl))) c7)
  (@j8 _ _ _ (y6 (pv 2))))))),
  (by repeat' first|infer_instance|(refine @Mi.instSemWSTSeqWSeq _ _ _ _ ?_ ?_)|(apply @Mi.instSemWSTForWForOfSemWIOfSemWG))⟩) Ki
structure Cl where
 name:Str
 hue:Nat
 len:Int
 due:Int
 wt:Int
def Cl.pv (c:Cl):PV:= .tup [.at (.str c.name),.at (.int c.hue),.at (.int c.len),.at (.int c.due),.at (.int c.wt)]
structure Cl.Ok (h:Nat)(c:Cl):Prop where
 nm:jX c.name
 hu:c.hue<h
 l1:1<=c.len
 l2:c.len<=j9
 d1:-j9<=c.due
 d2:c.due<=j9
 w1:1<=c.wt
 w2:c.wt<=j9
theorem WL {α β:Type}{f:α->β}(hf:∀ x y,f x=f y->x=y):∀{a b:List α},a.map f=b.map f->a=b
 |[],[],_=>rfl
 |[],_::_,h=>by cases h
 |_::_,[],h=>by cases h
 |x::a,y::b,h=>by
  rw [yP,yP] at h;injection h with h1 h2;rw [hf x y h1,WL hf h2]
theorem YO {a b:List Str}(h:u6 a=u6 b):a=b:=WL (λx y e=>by injection e with e;injection e) h
def vE:List PV->Prop:=λxs=>∃(ss:List Str)(h:Nat),xs=[.lst (u6 ss),.at (.int h)]/\ss.length<=10/\(∀ s∈ss,jX s)/\1<=h/\h<=4
def vT:List PV->PV->Prop:=λxs y=>∃(ss:List Str)(h:Nat)(c:Cl),xs=[.lst (u6 ss),.at (.int h)]/\y=c.pv/\c.Ok h/\c.name∉ss
abbrev ZF:Stmt:=top 46
abbrev JX (K:Fg):WS:=(wSeq (qb 3 (Xi 0 wG jY (qO (wP (x8 1)) jq)))
  (wSeq (qb 4 (c9 0 (wP (x8 2))))
  (wSeq (qP (wT (n8 pGt (c9 0 (wP (dC (.int 5)))) (wP (dC (.int 0))))) (xf (wTup (qO (wP (x8 3)) (qO (wP (x8 4)) (qO (n8 o7 (wP (dC (.int 1))) (c9 0 (wP (dC (.int 9))))) (qO (n8 xu (c9 0 (wP (dC (.int 60)))) (wP (dC (.int 9)))) (qO (n8 o7 (wP (dC (.int 1))) (c9 0 (wP (dC (.int 9))))) jq))))))) xm)
  (xf (wTup (qO (wP (x8 3)) (qO (wP (x8 4)) (qO (n8 o7 (wP (dC (.int 1))) (c9 0 (wP (z7 xu (z7 je (dC (.int 10)) (dC (.int 30))) (dC (.int 1)))))) (qO (n8 o7 (n8 xu (c9 0 (wP (z7 xu (z7 pMul (dC (.int 2)) (z7 je (dC (.int 10)) (dC (.int 30)))) (dC (.int 1))))) (wP (z7 je (dC (.int 10)) (dC (.int 30))))) (wP (dC (.int 1)))) (qO (n8 o7 (wP (dC (.int 1))) (c9 0 (wP (z7 xu (z7 je (dC (.int 10)) (dC (.int 30))) (dC (.int 1)))))) jq))))))))))
theorem sc_cloth:w5 ["stream","names","hues","name","hue"] ["stream","names","hues"] (j5 ZF):=k6
theorem Kb:∀ xs,vE xs->xs.length+1=(["stream","names","hues"]:List Str).length:=by rintro xs ⟨ss,h,rfl,_⟩;rfl
theorem UO:Builtin.Int.intBits 2<=2 ^ 20:=by decide +kernel
theorem UM:Builtin.Int.intBits j9<=2 ^ 20:=by decide +kernel
theorem mul2:pMul (.at (.int 2)) (.at (.int j9))=some (.at (.int (2*j9))):=by show (if vR 2 j9 then some (V.int (2*j9)) else none).map PV.at=_;rw [if_pos ⟨UO,UM⟩];rfl
theorem Kg {K:Fg}:∀ xs n,vE xs->JX K (k8 n::xs.map .sh++List.replicate ((["stream","names","hues","name","hue"]:List Str).length-(xs.length+1)) .no) (λ_=>False) λy ε=>vT xs y/\zk 0 ε:=by
 rintro xs n ⟨ss,h,rfl,h10,hok,h1,h4⟩;have hB:=vQ;refine ⟨⟨n,rfl⟩,_,rfl,⟨n,rfl⟩,⟨ss,rfl,h10,hok⟩,?_⟩;rintro y n1 ⟨ss',x,e,rfl,hx,hn⟩;have e':ss'=ss:=by injection e with e _;injection e with e;exact (YO e).symm
 subst e';refine ⟨⟨n1,rfl⟩,_,rfl,n1,(h:Int),rfl,rfl,jv (by omega) (by omega),?_⟩;have u0:0<=n1 % (h:Int):=yy _ (by omega);have u1:n1 % (h:Int)<h:=yE _ (by omega);obtain ⟨u,hu⟩:=uR u0;rw [hu] at u1 ⊢;generalize n1 / (h:Int)=n2;refine ⟨⟨n2,rfl⟩,_,rfl,n2,5,rfl,rfl,⟨by decide,by decide⟩,_,rfl,_,rfl,decide (0<n2 % 5),rfl,?_⟩;generalize n2 / 5=n3;by_cases h5:0<n2 % 5
 ·rw [ym h5,if_pos rfl];refine ⟨_,rfl,_,rfl,_,rfl,⟨n3,rfl⟩,_,rfl,n3,9,rfl,rfl,⟨by decide,by decide⟩,_,rfl,⟨_,rfl⟩,_,rfl,n3 / 9,60,rfl,rfl,⟨by decide,by decide⟩,_,rfl,_,rfl,_,rfl,⟨_,rfl⟩,_,rfl,n3 / 9 / 60,9,rfl,rfl,⟨by decide,by decide⟩,_,rfl,l5,?_,_,rfl⟩;have a0:0<=n3 % 9:=yy _ (by decide);have a1:n3 % 9<9:=yE _ (by decide);have b0:0<=n3 / 9 % 60:=yy _ (by decide);have b1:n3 / 9 % 60<60:=yE _ (by decide);have c0:0<=n3 / 9 / 60 % 9:=yy _ (by decide);have c1:n3 / 9 / 60 % 9<9:=yE _ (by decide);exact ⟨ss',h,⟨x,u,1+n3 % 9,n3 / 9 % 60-9,1+n3 / 9 / 60 % 9⟩,rfl,rfl,⟨hx,(show u<h by omega),(show (1:Int)<=1+n3 % 9 by omega),(show 1+n3 % 9<=j9 by omega),(show -j9<=n3 / 9 % 60-9 by omega),(show n3 / 9 % 60-9<=j9 by omega),(show (1:Int)<=1+n3 / 9 / 60 % 9 by omega),(show 1+n3 / 9 / 60 % 9<=j9 by omega)⟩,hn⟩
 ·rw [yI h5,if_neg yX];refine ⟨_,rfl,_,rfl,_,rfl,⟨n3,rfl⟩,_,y7 (y7 rfl rfl vD) rfl rfl,n3,j9-1,rfl,rfl,jv (by omega) (by omega),_,rfl,⟨_,rfl⟩,_,y7 (y7 rfl (y7 rfl rfl vD) mul2) rfl rfl,n3 / (j9-1),2*j9-1,rfl,rfl,jv (by omega) (by omega),_,y7 rfl rfl vD,_,rfl,_,rfl,_,rfl,_,rfl,⟨_,rfl⟩,_,y7 (y7 rfl rfl vD) rfl rfl,n3 / (j9-1) / (2*j9-1),j9-1,rfl,rfl,jv (by omega) (by omega),_,rfl,l5,?_,_,rfl⟩;have a0:0<=n3 % (j9-1):=yy _ (by omega);have a1:n3 % (j9-1)<j9-1:=yE _ (by omega);have b0:0<=n3 / (j9-1) % (2*j9-1):=yy _ (by omega);have b1:n3 / (j9-1) % (2*j9-1)<2*j9-1:=yE _ (by omega);have c0:0<=n3 / (j9-1) / (2*j9-1) % (j9-1):=yy _ (by omega);have c1:n3 / (j9-1) / (2*j9-1) % (j9-1)<j9-1:=yE _ (by omega);generalize n3 % (j9-1)=p1 at a0 a1 ⊢;generalize n3 / (j9-1) % (2*j9-1)=p2 at b0 b1 ⊢;generalize n3 / (j9-1) / (2*j9-1) % (j9-1)=p3 at c0 c1 ⊢;exact ⟨ss',h,⟨x,u,1+p1,p2-j9+1,1+p3⟩,rfl,rfl,⟨hx,(show u<h by omega),(show (1:Int)<=1+p1 by omega),(show 1+p1<=j9 by omega),(show -j9<=p2-j9+1 by omega),(show p2-j9+1<=j9 by omega),(show (1:Int)<=1+p3 by omega),(show 1+p3<=j9 by omega)⟩,hn⟩
theorem Bq (F:Fun K "_law_cloth" "_law_cloth" ZF f fd)(Il:Fn P w K mg base 2 "_law_name" ["stream","names"] (spD wG jY))(Aj:Fn P w K mg base 1 "_law_take" ["stream","many"] vI):FnOk P w K mg base v3 3 f fd ["stream","names","hues"] (spD vE vT) :=
 okD (k:=2) (b:=JX K) F sc_cloth Kb (λcdv A outer s H E hr=>⟨_,(@j6 _ _ _ _ _ (@i8 _ _ 3 _ _ _ _ sc_cloth.nd rfl (Or.inl rfl) (c5 Il hr (by decide) rfl (@j0 _ _ _ _ _ (pv 0) (@j0 _ _ _ _ _ (pv 1) w6 (by rfl)) (by rfl))) (by rfl) (.inl rfl))
  (@j6 _ _ _ _ _ (@i8 _ _ 4 _ _ _ _ sc_cloth.nd rfl (Or.inl rfl) (c5 Aj hr (by decide) rfl (@j0 _ _ _ _ _ (pv 0) (@j0 _ _ _ _ _ (pv 2) w6 (by rfl)) (by rfl))) (by rfl) (.inl rfl))
  (@j6 _ _ _ _ _ (c6 (c8 (WO) (c5 Aj hr (by decide) rfl (@j0 _ _ _ _ _ (pv 0) (@j0 _ _ _ _ _ z0 w6 (by rfl)) (by rfl))) z0 (c4 _)) (@j8 _ _ _ (y6 (@qZ _ _ _ _ _ (@j0 _ _ _ _ _ (pv 3) (@j0 _ _ _ _ _ (pv 4) (@j0 _ _ _ _ _ (v7 (xk (K:=K) rfl) z0 (c5 Aj hr (by decide) rfl (@j0 _ _ _ _ _ (pv 0) (@j0 _ _ _ _ _ z0 w6 (by rfl)) (by rfl)))) (@j0 _ _ _ _ _ (v7 (zg) (c5 Aj hr (by decide) rfl (@j0 _ _ _ _ _ (pv 0) (@j0 _ _ _ _ _ z0 w6 (by rfl)) (by rfl))) z0) (@j0 _ _ _ _ _ (v7 (xk (K:=K) rfl) z0 (c5 Aj hr (by decide) rfl (@j0 _ _ _ _ _ (pv 0) (@j0 _ _ _ _ _ z0 w6 (by rfl)) (by rfl)))) w6 (by rfl)) (by rfl)) (by rfl)) (by rfl)) (by rfl))))) c7)
  (@j8 _ _ _ (y6 (@qZ _ _ _ _ _ (@j0 _ _ _ _ _ (pv 3) (@j0 _ _ _ _ _ (pv 4) (@j0 _ _ _ _ _ (v7 (xk (K:=K) rfl) z0 (c5 Aj hr (by decide) rfl (@j0 _ _ _ _ _ (pv 0) (@j0 _ _ _ _ _ (v7 (zg) (v7 (xH) z0 z0) z0) w6 (by rfl)) (by rfl)))) (@j0 _ _ _ _ _ (v7 (xk (K:=K) rfl) (v7 (zg) (c5 Aj hr (by decide) rfl (@j0 _ _ _ _ _ (pv 0) (@j0 _ _ _ _ _ (v7 (zg) (v7 (QJ) z0 (v7 (xH) z0 z0)) z0) w6 (by rfl)) (by rfl))) (v7 (xH) z0 z0)) z0) (@j0 _ _ _ _ _ (v7 (xk (K:=K) rfl) z0 (c5 Aj hr (by decide) rfl (@j0 _ _ _ _ _ (pv 0) (@j0 _ _ _ _ _ (v7 (zg) (v7 (xH) z0 z0) z0) w6 (by rfl)) (by rfl)))) w6 (by rfl)) (by rfl)) (by rfl)) (by rfl)) (by rfl)))))))),
  (by repeat' first|infer_instance|(refine @Mi.instSemWSTSeqWSeq _ _ _ _ ?_ ?_)|(apply @Mi.instSemWSTForWForOfSemWIOfSemWG))⟩) Kg
structure Dr where
 h:Nat
 rss:List (List Int)
 cls:List Cl
 last:Int
 time:Int
def Dr.pv (d:Dr):PV:= .tup [v8 d.rss,.lst (d.cls.map Cl.pv),.at (.int d.last),.at (.int d.time)]
structure Dr.Ok (d:Dr):Prop where
 h1:1<=d.h
 h4:d.h<=4
 rin:qQ d.h d.rss
 ten:d.cls.length<=10
 cl:∀ c∈d.cls,c.Ok d.h
 nd:(d.cls.map Cl.name).Nodup
 l1:-1<=d.last
 l2:d.last<d.h
 t1:0<=d.time
 t2:d.time<60*j9
def wI (K:Fg):List PV->Prop:=λxs=>∃(ns:List Int)(m:Nat),xs=[scr K ns,.at (.int m)]/\ns.length<=63/\m<=10
def vW:List PV->PV->Prop:=λxs y=>∃ d:Dr,y=d.pv/\d.Ok/\d.time<j9/\∃(s:PV)(m:Nat),xs=[s,.at (.int m)]/\d.cls.length<=m
abbrev Jf:Stmt:=top 47
abbrev Vv (K:Fg):WS:=(wSeq (Ur 2 (jg K) zL (qO (wP (x8 0)) (qO (wP (dC (.int 0))) jq)))
  (wSeq (qb 3 (n8 o7 (wP (dC (.int 1))) (c9 2 (wP (dC (.int 4))))))
  (wSeq (qb 4 (c9 2 (wP (dC (.int 8)))))
  (wSeq (qP (wPT (dT (z7 pEq (x9 4) (dC (.int 7))))) (qb 4 (n8 o7 (wP (dC (.int 7))) (c9 2 (wP (dC (.int 4)))))) xm)
  (wSeq (qb 5 (n8 xu (c9 2 (wP (z7 o7 (x9 3) (dC (.int 1))))) (wP (dC (.int 1)))))
  (wSeq (qb 6 (c9 2 (n8 u5 (wP (b7 (q9 (dC (.int 1)) (q9 (dC (.int 50)) (q9 (z7 je (dC (.int 10)) (dC (.int 30))) x0))))) (c9 2 (wP (dC (.int 3)))))))
  (wSeq (qb 7 (vO (jg K) zL (q9 (x8 0) (q9 (dC (.int 1)) x0)) vF vV (q9 (x8 3) x0)))
  (wSeq (JD 8 (b7 x0))
  (wSeq (wFor (wIp (zb (q9 (z5 wB (q9 (x9 4) (q9 (x9 1) x0))) x0))) (v6 9) (Xg 8 (vO (jg K) zL (q9 (x8 0) (q9 (z7 o7 (dC (.int 2)) (x9 9)) x0)) vE vT (q9 (zR [none] [0] (p5 (x9 8)) (v6 0) k7 (z7 u5 (x9 0) (dC (.int 0)))) (q9 (x8 3) x0)))))
  (wFz 8 (xf (wP (i7 (q9 (x8 7) (q9 (x8 8) (q9 (x8 5) (q9 (x8 6) x0)))))))))))))))))
theorem sc_works:w5 ["script","most","stream","hues","many","last","time","rinses","cloths","k"] ["script","most"] (j5 Jf):=k6
theorem Kf {K:Fg}:∀ xs,wI K xs->xs.length=(["script","most"]:List Str).length:=by rintro xs ⟨ns,m,rfl,_⟩;rfl
theorem Bc (cs:List Cl):m6 (v6 0) k7 (z7 u5 (x9 0) (dC (.int 0))) [.no] (cs.map Cl.pv)=some (u6 (cs.map Cl.name)):=by
 induction cs with
 |nil=>rfl
 |cons c cs ih=>show Option.bind (some (PV.at (.str c.name))) (λy=>Option.bind (m6 _ _ _ _ (cs.map Cl.pv)) λys=>some (y::ys))=_;rw [ih];rfl
theorem Kl {K:Fg}:∀ xs,wI K xs->Vv K (xs.map .sh++List.replicate ((["script","most","stream","hues","many","last","time","rinses","cloths","k"]:List Str).length-xs.length) .no) (λ_=>False) λy _=>vW xs y:=by
 rintro xs ⟨ns,mo,rfl,h63,hmo⟩;have hB:=vQ;have hlim:lim=1000000:=rfl;refine ⟨_,rfl,_,rfl,⟨ns,0,rfl,h63,by decide,by decide⟩,?_⟩;rintro y ⟨n,rfl⟩
 -- hues
 refine ⟨_,rfl,⟨n,rfl⟩,_,rfl,n,4,rfl,rfl,⟨by decide,by decide⟩,_,rfl,?_⟩;have a0:0<=n % 4:=yy _ (by decide);have a1:n % 4<4:=yE _ (by decide);obtain ⟨h,hh⟩:=uR (show 0<=1+n % 4 by omega);generalize n / 4=n1;have hh1:1<=h:=by omega
 have hh4:h<=4:=by omega
 rw [hh];clear a0 a1 hh
 -- many
 refine ⟨⟨n1,rfl⟩,_,rfl,n1,8,rfl,rfl,⟨by decide,by decide⟩,?_⟩;have b0:0<=n1 % 8:=yy _ (by decide);have b1:n1 % 8<8:=yE _ (by decide);obtain ⟨q,hq⟩:=uR b0;rw [hq] at b1 ⊢;generalize n1 / 8=n2;have rest:∀(n2:Int)(q:Nat),q<=10->((wSeq (qb 5 (n8 xu (c9 2 (wP (z7 o7 (x9 3) (dC (.int 1))))) (wP (dC (.int 1)))))
  (wSeq (qb 6 (c9 2 (n8 u5 (wP (b7 (q9 (dC (.int 1)) (q9 (dC (.int 50)) (q9 (z7 je (dC (.int 10)) (dC (.int 30))) x0))))) (c9 2 (wP (dC (.int 3)))))))
  (wSeq (qb 7 (vO (jg K) zL (q9 (x8 0) (q9 (dC (.int 1)) x0)) vF vV (q9 (x8 3) x0)))
  (wSeq (JD 8 (b7 x0))
  (wSeq (wFor (wIp (zb (q9 (z5 wB (q9 (x9 4) (q9 (x9 1) x0))) x0))) (v6 9) (Xg 8 (vO (jg K) zL (q9 (x8 0) (q9 (z7 o7 (dC (.int 2)) (x9 9)) x0)) vE vT (q9 (zR [none] [0] (p5 (x9 8)) (v6 0) k7 (z7 u5 (x9 0) (dC (.int 0)))) (q9 (x8 3) x0)))))
  (wFz 8 (xf (wP (i7 (q9 (x8 7) (q9 (x8 8) (q9 (x8 5) (q9 (x8 6) x0))))))))))))):WS) [.sh (scr K ns),.sh (.at (.int (mo:Int))),k8 n2,.sh (.at (.int (h:Int))),.sh (.at (.int (q:Int))),.no,.no,.no,.no,.no] (λ_=>False) λy _=>vW [scr K ns,.at (.int mo)] y:=by
  clear b0 b1 hq q n2;intro n2 q hq10
  -- last
  refine ⟨⟨n2,rfl⟩,_,rfl,n2,(h:Int)+1,rfl,rfl,jv (by omega) (by omega),_,rfl,_,rfl,?_⟩;have c0:0<=n2 % ((h:Int)+1):=yy _ (by omega);have c1:n2 % ((h:Int)+1)<(h:Int)+1:=yE _ (by omega);generalize n2 % ((h:Int)+1)=la at c0 c1;generalize n2 / ((h:Int)+1)=n3
  -- time
  refine ⟨⟨n3,rfl⟩,_,xP (j4 rfl (j4 rfl (j4 (y7 rfl rfl vD) rfl))) (by decide),⟨n3,rfl⟩,_,rfl,n3,3,rfl,rfl,⟨by decide,by decide⟩,?_⟩;have d0:0<=n3 % 3:=yy _ (by decide);have d1:n3 % 3<3:=yE _ (by decide);have ixt:∃ k:Int,u5 (.lst [.at (.int 1),.at (.int 50),.at (.int j9)]) (.at (.int (n3 % 3)))=some (.at (.int k))/\0<k/\k<=j9:=by
   have c:n3 % 3=0∨n3 % 3=1∨n3 % 3=2:=by omega
   rcases c with e|e|e<;>rw [e]
   ·exact ⟨1,rfl,by decide,by omega⟩
   ·exact ⟨50,rfl,by decide,by omega⟩
   ·exact ⟨j9,rfl,wX,Int.le_refl _⟩
  obtain ⟨k,ek,k0,k1⟩:=ixt;refine ⟨_,ek,n3 / 3,k,rfl,rfl,jv k0 (by omega),?_⟩;have t0:0<=n3 / 3 % k:=yy _ (by omega);have t1:n3 / 3 % k<k:=yE _ k0;generalize n3 / 3 % k=ti at t0 t1;generalize n3 / 3 / k=n4
  -- rinses
  refine ⟨_,_,rfl,rfl,⟨ns,1,rfl,h63,by decide,by decide⟩,λy hy=>hy,⟨h,rfl,hh1,hh4⟩,?_⟩;rintro y ⟨h',rss,e,rfl,hr⟩;have e':h'=h:=by injection e with e _;injection e with e;injection e with e;omega
  subst e'
  -- cloths
  refine ⟨_,rfl,?_⟩;have mn:zb (q9 (z5 wB (q9 (x9 4) (q9 (x9 1) x0))) x0) [.sh (scr K ns),.sh (.at (.int (mo:Int))),k8 n4,.sh (.at (.int (h':Int))),.sh (.at (.int (q:Int))),.sh (.at (.int (la-1))),.sh (.at (.int ti)),.sh (v8 rss),.ow (.lst []),.no]=some (qz 0 (min q mo)):=by refine QY (j4 (j7 rfl ?_) rfl) (by omega);show some (PV.at (.int (if (mo:Int)<(q:Int) then (mo:Int) else (q:Int))))=_;rw [show (if (mo:Int)<(q:Int) then (mo:Int) else (q:Int))=((min q mo:Nat):Int) by split<;>omega]
  refine ⟨_,mn,?_⟩;refine XX (λrest ε=>∃(cs:List Cl)(s9:MSlot),ε=[.sh (scr K ns),.sh (.at (.int (mo:Int))),k8 n4,.sh (.at (.int (h':Int))),.sh (.at (.int (q:Int))),.sh (.at (.int (la-1))),.sh (.at (.int ti)),.sh (v8 rss),.ow (.lst (cs.map Cl.pv)),s9]/\(∃ m0:Nat,rest=(qz 0 (min q mo)).drop m0/\cs.length=m0/\m0<=min q mo)/\(∀ c∈cs,c.Ok h')/\(cs.map Cl.name).Nodup) ?_ ?_ _ _ ⟨[],_,rfl,⟨0,rfl,rfl,yi _⟩,(λ_ z=>nomatch z),uK⟩
  ·rintro ε ⟨cs,s9,rfl,⟨m0,e1,e2,e3⟩,g1,g2⟩;exact ⟨_,rfl,⟨h',rss,cs,la-1,ti⟩,rfl,⟨hh1,hh4,hr,(by show cs.length<=10;omega),g1,g2,(by show -1<=la-1;omega),(by show la-1<(h':Int);omega),t0,(by have:=wX;show ti<60*j9;omega)⟩,(by show ti<j9;omega),_,mo,rfl,(by show cs.length<=mo;omega)⟩
  ·rintro x rest ε ⟨cs,s9,rfl,⟨m0,e1,e2,e3⟩,g1,g2⟩;have hm:m0<min q mo:=by
    have e5:(x::rest).length=((qz 0 (min q mo)).drop m0).length:=by rw [<- e1]
    rw [List.length_drop,jm,yx] at e5;omega
   have ex:x = .at (.int ((0:Int)+m0)):=by
    have q0:(qz 0 (min q mo))[m0]?=some x:=by
     have:((qz 0 (min q mo)).drop m0)[0]?=some x:=by rw [<- e1];rfl
     rw [List.getElem?_drop] at this;simpa using this
    exact (YB q0).2
   have er:rest=(qz 0 (min q mo)).drop (m0+1):=by
    have:((qz 0 (min q mo)).drop m0).tail=rest:=by rw [<- e1];rfl
    rw [<- this,List.tail_drop]
   subst ex;refine ⟨_,rfl,⟨_,rfl⟩,?_⟩;refine ⟨[scr K ns,.at (.int (2+(0+(m0:Int))))],[.lst (u6 (cs.map Cl.name)),.at (.int (h':Int))],rfl,?_,⟨ns,2+(0+(m0:Int)),rfl,h63,by omega,by omega⟩,λy hy=>hy,⟨cs.map Cl.name,h',rfl,by rw [yZ];omega,?_,hh1,hh4⟩,?_⟩
   ·refine j4 (x:= .lst (u6 (cs.map Cl.name))) ?_ rfl;show Option.bind (some (cs.map Cl.pv)) (λxs=>if xD [none] [0]=true/\xs.length<=lim then (m6 _ _ _ _ xs).bind λys=>some (PV.lst ys) else none)=_;rw [yM,if_pos ⟨rfl,by rw [yZ];omega⟩];show (m6 (v6 0) k7 (z7 u5 (x9 0) (dC (.int 0))) [.no] (cs.map Cl.pv)).bind _=_;rw [Bc];rfl
   ·intro s hs;obtain ⟨c,hc,rfl⟩:=yr.mp hs;exact (g1 c hc).nm
   ·rintro y ⟨ss,h2,c,e6,rfl,ok,hn⟩;injection e6 with e6 e7;injection e6 with e6;injection e7 with e7 _;injection e7 with e7;injection e7 with e7;have e8:=YO e6;have e9:h'=h2:=by omega
    subst e8 e9;refine ⟨_,rfl,by rw [yZ];omega,cs++[c],.sh (.at (.int (0+(m0:Int)))),?_,⟨m0+1,er,by rw [yF];simp;omega,hm⟩,?_,?_⟩
    ·show [MSlot.sh (scr K ns),_,_,_,_,_,_,_,.ow (.lst (cs.map Cl.pv++[c.pv])),_]=_;rw [yz];rfl
    ·intro d hd;rcases yA.mp hd with hd|hd
     ·exact g1 d hd
     ·rw [yO.mp hd];exact ok
    ·rw [yz];refine List.nodup_append.mpr ⟨g2,(yu.mpr ⟨by simp,uK⟩),λa ha b hb=>?_⟩;rw [yO.mp hb];exact λe=>hn (e▸ha)
 by_cases h7:q=7
 ·subst h7;refine Xl (k9 (v:=true) rfl) ?_;have d0:0<=n2 % 4:=yy _ (by decide);have d1:n2 % 4<4:=yE _ (by decide);refine ⟨_,rfl,⟨n2,rfl⟩,_,rfl,n2,4,rfl,rfl,⟨by decide,by decide⟩,_,rfl,?_⟩;obtain ⟨q,hq⟩:=uR (show 0<=7+n2 % 4 by omega);rw [hq];exact rest _ q (by omega)
 ·refine jT (k9 (v:=false) ?_) (rest _ q (by omega));show some (PV.at (.bl (decide ((q:Int)=7))))=_;rw [yI (by omega)]
theorem BT (F:Fun K "_law_works" "_law_works" Jf f fd)(Id:Fn P w K mg base 3 "_law_cloth" ["stream","names","hues"] (spD vE vT))(Eu:Fn P w K mg base 3 "_law_rinses" ["stream","hues"] (spD vF vV))(D3:Fn P w K mg base 2 "_law_stream" ["script","k"] (spN (jg K) zL))(Aj:Fn P w K mg base 1 "_law_take" ["stream","many"] vI)(Iz:mg "min"=none)(Am:mg "range"=none):FnOk P w K mg base v3 4 f fd ["script","most"] (spV (wI K) vW) :=
 okV (k:=3) (b:=Vv K) F sc_works Kf (λcdv A outer s H E hr=>⟨_,(@j6 _ _ _ _ _ (@i8 _ _ 2 _ _ _ _ sc_works.nd rfl (Or.inl rfl) (c5 D3 hr (by decide) rfl (@j0 _ _ _ _ _ (pv 0) (@j0 _ _ _ _ _ z0 w6 (by rfl)) (by rfl))) (by rfl) (.inl rfl))
  (@j6 _ _ _ _ _ (@i8 _ _ 3 _ _ _ _ sc_works.nd rfl (Or.inl rfl) (v7 (xk (K:=K) rfl) z0 (c5 Aj hr (by decide) rfl (@j0 _ _ _ _ _ (pv 2) (@j0 _ _ _ _ _ z0 w6 (by rfl)) (by rfl)))) (by rfl) (.inl rfl))
  (@j6 _ _ _ _ _ (@i8 _ _ 4 _ _ _ _ sc_works.nd rfl (Or.inl rfl) (c5 Aj hr (by decide) rfl (@j0 _ _ _ _ _ (pv 2) (@j0 _ _ _ _ _ z0 w6 (by rfl)) (by rfl))) (by rfl) (.inl rfl))
  (@j6 _ _ _ _ _ (c6 (c8 (Zg (K:=K) (hu6 hr) rfl) (pv 4) z0 (c4 _)) (@j8 _ _ _ (@i8 _ _ 4 _ _ _ _ sc_works.nd rfl (Or.inl rfl) (v7 (xk (K:=K) rfl) z0 (c5 Aj hr (by decide) rfl (@j0 _ _ _ _ _ (pv 2) (@j0 _ _ _ _ _ z0 w6 (by rfl)) (by rfl)))) (by rfl) (.inl rfl))) c7)
  (@j6 _ _ _ _ _ (@i8 _ _ 5 _ _ _ _ sc_works.nd rfl (Or.inl rfl) (v7 (zg) (c5 Aj hr (by decide) rfl (@j0 _ _ _ _ _ (pv 2) (@j0 _ _ _ _ _ (v7 (xk (K:=K) rfl) (pv 3) z0) w6 (by rfl)) (by rfl))) z0) (by rfl) (.inl rfl))
  (@j6 _ _ _ _ _ (@i8 _ _ 6 _ _ _ _ sc_works.nd rfl (Or.inl rfl) (c5 Aj hr (by decide) rfl (@j0 _ _ _ _ _ (pv 2) (@j0 _ _ _ _ _ (iW (K:=K) rfl (@qq _ _ _ _ (@j0 _ _ _ _ _ z0 (@j0 _ _ _ _ _ z0 (@j0 _ _ _ _ _ (v7 (xH) z0 z0) w6 (by rfl)) (by rfl)) (by rfl))) (c5 Aj hr (by decide) rfl (@j0 _ _ _ _ _ (pv 2) (@j0 _ _ _ _ _ z0 w6 (by rfl)) (by rfl)))) w6 (by rfl)) (by rfl))) (by rfl) (.inl rfl))
  (@j6 _ _ _ _ _ (@i8 _ _ 7 _ _ _ _ sc_works.nd rfl (Or.inl rfl) (c5 Eu hr (by decide) rfl (@j0 _ _ _ _ _ (c5 D3 hr (by decide) rfl (@j0 _ _ _ _ _ (pv 0) (@j0 _ _ _ _ _ z0 w6 (by rfl)) (by rfl))) (@j0 _ _ _ _ _ (pv 3) w6 (by rfl)) (by rfl))) (by rfl) (.inl rfl))
  (@j6 _ _ _ _ _ (@i8 _ _ 8 _ _ _ _ sc_works.nd rfl (Or.inl rfl) (@qq _ _ _ _ w6) (by rfl) (.inl rfl))
  (@j6 _ _ _ _ _ (ji PassesOwn.never rfl (vC rfl Am (@j0 _ _ _ _ _ (b9 (Gd rfl) rfl Iz UR (@j0 _ _ _ _ _ (pv 4) (@j0 _ _ _ _ _ (pv 1) w6 (by rfl)) (by rfl))) w6 (by rfl))) (m3 (i:=9) sc_works.nd rfl (Or.inl rfl))
   (@j8 _ _ _ (xI (Zj (K:=K) rfl PySem.F.plainAttrs_list PySem.F.slot_list_append PySem.F.type_list_append Zc (pv 8) (j0 (c5 Id hr (by decide) rfl (@j0 _ _ _ _ _ (c5 D3 hr (by decide) rfl (@j0 _ _ _ _ _ (pv 0) (@j0 _ _ _ _ _ (v7 (xk (K:=K) rfl) z0 (pv 9)) w6 (by rfl)) (by rfl))) (@j0 _ _ _ _ _ (qp (N':=["cloth"]) (cap:=[none]) (o4 rfl rfl rfl) rfl (@qx _ K _ _ _ rfl (pv 8)) (λ_ _ _ _ _ _=>(m3 (i:=0) (by show (["cloth"]:List Str).Nodup;decide +kernel) rfl (Or.inl rfl))) (λ_ _ _ _ _ _=>qi) (λ_ _ _ _ _ _=>(iW (K:=K) rfl (pv 0) z0))) (@j0 _ _ _ _ _ (pv 3) w6 (by rfl)) (by rfl)) (by rfl))) w6)))))
  (@j8 _ _ _ (y6 (@qZ _ _ _ _ _ (@j0 _ _ _ _ _ (pv 7) (@j0 _ _ _ _ _ (pv 8) (@j0 _ _ _ _ _ (pv 5) (@j0 _ _ _ _ _ (pv 6) w6 (by rfl)) (by rfl)) (by rfl)) (by rfl)))))))))))))),
  (by repeat' first|infer_instance|(refine @Mi.instSemWSTSeqWSeq _ _ _ _ ?_ ?_)|(apply @Mi.instSemWSTForWForOfSemWIOfSemWG))⟩) Kl
abbrev ZM:Stmt:=top 4
abbrev Ve:MS:=(u7 (zt (z5 m8 (q9 (x9 0) (q9 (dC (.ty "int")) x0))) (wf (z5 m8 (q9 (x9 0) (q9 (dC (.ty "bool")) x0))))))
def ja:List PV->Option PV:=p0 1 1 Ve
theorem CH:w5 ["thing"] ["thing"] (j5 ZM):=k6
theorem Bx (F:Fun K "is_whole" "is_whole" ZM f fd)(Ek:mg "bool"=none)(E2:mg "int"=none)(Ab:mg "isinstance"=none):FnOk P w K mg base v3 1 f fd ["thing"] (v5 ja) :=
 qh (k:=0) (b:=Ve) F CH rfl λcdv A outer s H E hr=>⟨_,(j8 (y6 (vz (b9 (xC (K:=K) rfl) rfl Ab qT (aC (pv 0) (aW (xw (v:= .ty "int") rfl E2 VF rfl)))) (wE (WZ (b9 (xC (K:=K) rfl) rfl Ab qT (aC (pv 0) (aW (xw (v:= .ty "bool") rfl Ek VD rfl))))))))),
  inferInstance⟩
abbrev ZU:Stmt:=top 7
abbrev Vm:MS:=(u7 (z7 u5 (x9 0) (dC (.int 0))))
def xj:List PV->Option PV:=p0 1 1 Vm
theorem CM:w5 ["cloth"] ["cloth"] (j5 ZU):=k6
theorem BG (F:Fun K "name_of" "name_of" ZU f fd):FnOk P w K mg base v3 1 f fd ["cloth"] (v5 xj) :=
 qh (k:=0) (b:=Vm) F CM rfl λcdv A outer s H E hr=>⟨_,(j8 (y6 (iW (K:=K) rfl (pv 0) z0))),
  inferInstance⟩
abbrev ZH:Stmt:=top 8
abbrev JZ:MS:=(u7 (z7 u5 (x9 0) (dC (.int 1))))
def Qz:List PV->Option PV:=p0 1 1 JZ
theorem CB:w5 ["cloth"] ["cloth"] (j5 ZH):=k6
theorem Bs (F:Fun K "hue_of" "hue_of" ZH f fd):FnOk P w K mg base v3 1 f fd ["cloth"] (v5 Qz) :=
 qh (k:=0) (b:=JZ) F CB rfl λcdv A outer s H E hr=>⟨_,(j8 (y6 (iW (K:=K) rfl (pv 0) z0))),
  inferInstance⟩
abbrev ZQ:Stmt:=top 9
abbrev Vj:MS:=(u7 (z7 u5 (x9 0) (dC (.int 2))))
def XZ:List PV->Option PV:=p0 1 1 Vj
theorem CK:w5 ["cloth"] ["cloth"] (j5 ZQ):=k6
theorem BC (F:Fun K "length_of" "length_of" ZQ f fd):FnOk P w K mg base v3 1 f fd ["cloth"] (v5 XZ) :=
 qh (k:=0) (b:=Vj) F CK rfl λcdv A outer s H E hr=>⟨_,(j8 (y6 (iW (K:=K) rfl (pv 0) z0))),
  inferInstance⟩
abbrev ZG:Stmt:=top 10
abbrev JY:MS:=(u7 (z7 u5 (x9 0) (dC (.int 3))))
def XY:List PV->Option PV:=p0 1 1 JY
theorem CA:w5 ["cloth"] ["cloth"] (j5 ZG):=k6
theorem Br (F:Fun K "due_of" "due_of" ZG f fd):FnOk P w K mg base v3 1 f fd ["cloth"] (v5 XY) :=
 qh (k:=0) (b:=JY) F CA rfl λcdv A outer s H E hr=>⟨_,(j8 (y6 (iW (K:=K) rfl (pv 0) z0))),
  inferInstance⟩
abbrev Jd:Stmt:=top 11
abbrev Vt:MS:=(u7 (z7 u5 (x9 0) (dC (.int 4))))
def Za:List PV->Option PV:=p0 1 1 Vt
theorem CT:w5 ["cloth"] ["cloth"] (j5 Jd):=k6
theorem BR (F:Fun K "weight_of" "weight_of" Jd f fd):FnOk P w K mg base v3 1 f fd ["cloth"] (v5 Za) :=
 qh (k:=0) (b:=Vt) F CT rfl λcdv A outer s H E hr=>⟨_,(j8 (y6 (iW (K:=K) rfl (pv 0) z0))),
  inferInstance⟩
abbrev ZJ:Stmt:=top 12
abbrev Vb:MS:=(u7 (zt (z5 ja (q9 (x8 0) x0)) (z7 pGe (x9 0) (x9 1))))
def zf:List PV->Option PV:=p0 2 2 Vb
theorem CD:w5 ["thing","least"] ["thing","least"] (j5 ZJ):=k6
theorem Bu (F:Fun K "is_from" "is_from" ZJ f fd)(As:Fn P w K mg base 1 "is_whole" ["thing"] (v5 ja)):FnOk P w K mg base v3 2 f fd ["thing","least"] (v5 zf) :=
 qh (k:=1) (b:=Vb) F CD rfl λcdv A outer s H E hr=>⟨_,(j8 (y6 (vz (fW As hr (aW (pv 0))) (wE (Zk (QG) (pv 0) (pv 1) (c4 _)))))),
  inferInstance⟩
abbrev ZK:Stmt:=top 3
abbrev Vc:MS:=(u9 (m9 (n6 (p6 (c3 (z5 m8 (q9 (x9 0) (q9 (dC (.ty "str")) x0))))) (p6 (dT (jw pLe pLe (dC (.int 1)) (z5 qY (q9 (x9 0) x0)) (dC (.int 8)))))) (u7 (dC (.bl false))) t9)
  (u7 (z5 jd (q9 (b8 [none] [0] (wd (x8 0)) (v6 0) k7 (jw pLeS pLeS (dC (.str "a")) (x9 0) (dC (.str "z")))) x0))))
def QB:List PV->Option PV:=p0 1 1 Vc
theorem CF:w5 ["thing"] ["thing"] (j5 ZK):=k6
theorem Bv (F:Fun K "is_name" "is_name" ZK f fd)(Eb:mg "all"=none)(Ab:mg "isinstance"=none)(Al:mg "len"=none)(E1:mg "str"=none)(A0:mg "LONGEST_NAME"=some (.int 8 Az)):FnOk P w K mg base v3 1 f fd ["thing"] (v5 QB) :=
 qh (k:=0) (b:=Vc) F CF rfl λcdv A outer s H E hr=>⟨_,(j6 (c6 (PW.pt (qE (i9 (o9 (K:=K) rfl (b9 (xC (K:=K) rfl) rfl Ab qT (aC (pv 0) (aW (xw (v:= .ty "str") rfl E1 VH rfl)))) (λ_=>rfl))) (xU (i9 (Yf (QH) (QH) z0 (b9 (zp (K:=K) rfl) rfl Al PySem.boot_len (aW (pv 0))) (jM (v:= .int 8) rfl A0 ⟨_,rfl⟩)))))) (j8 (y6 qw)) c7)
  (j8 (y6 (b9 (Xs (K:=K) rfl rfl) rfl Eb Xq (aW (qp (N':=["sign"]) (cap:=[none]) (o4 rfl rfl rfl) rfl (Ya (pv 0)) (λ_ _ _ _ _ _=>(m3 (i:=0) (by show (["sign"]:List Str).Nodup;decide +kernel) rfl (Or.inl rfl))) (λ_ _ _ _ _ _=>qi) (λ_ _ _ _ _ _=>(Pm (WQ) (WQ) xx (pv 0) xx)))))))),
  inferInstance⟩
abbrev ZI:Stmt:=top 13
abbrev Va:MS:=(u9 (m9 (n6 (p6 (c3 (z5 m8 (q9 (x9 0) (q9 (dC (.ty "tuple")) x0))))) (dT (z7 o8 (z5 qY (q9 (x9 0) x0)) (dC (.int 5))))) (u7 (dC (.bl false))) t9)
  (u9 (m9 (n6 (p6 (c3 (z5 QB (q9 (z5 xj (q9 (x8 0) x0)) x0)))) (n6 (p6 (c3 (z5 zf (q9 (z5 Qz (q9 (x8 0) x0)) (q9 (dC (.int 0)) x0))))) (dT (z7 pGe (z5 Qz (q9 (x8 0) x0)) (x9 1))))) (u7 (dC (.bl false))) t9)
  (u7 (zt (z5 zf (q9 (z5 XZ (q9 (x8 0) x0)) (q9 (dC (.int 1)) x0))) (zt (z5 ja (q9 (z5 XY (q9 (x8 0) x0)) x0)) (z5 zf (q9 (z5 Za (q9 (x8 0) x0)) (q9 (dC (.int 1)) x0))))))))
def QA:List PV->Option PV:=p0 2 2 Va
theorem CC:w5 ["thing","hues"] ["thing","hues"] (j5 ZI):=k6
theorem Bt (F:Fun K "is_cloth" "is_cloth" ZI f fd)(Em:Fn P w K mg base 1 "due_of" ["cloth"] (v5 XY))(Ef:Fn P w K mg base 1 "hue_of" ["cloth"] (v5 Qz))(Aw:Fn P w K mg base 2 "is_from" ["thing","least"] (v5 zf))(Eh:Fn P w K mg base 1 "is_name" ["thing"] (v5 QB))(As:Fn P w K mg base 1 "is_whole" ["thing"] (v5 ja))(D5:Fn P w K mg base 1 "length_of" ["cloth"] (v5 XZ))(Ag:Fn P w K mg base 1 "name_of" ["cloth"] (v5 xj))(B9:Fn P w K mg base 1 "weight_of" ["cloth"] (v5 Za))(Ab:mg "isinstance"=none)(Al:mg "len"=none)(B5:mg "tuple"=none)(E9:mg "PARTS"=some (.int 5 E8)):FnOk P w K mg base v3 3 f fd ["thing","hues"] (v5 QA) :=
 qh (k:=2) (b:=Va) F CC rfl λcdv A outer s H E hr=>⟨_,(j6 (c6 (PW.pt (qE (i9 (o9 (K:=K) rfl (b9 (xC (K:=K) rfl) rfl Ab qT (aC (pv 0) (aW (xw (v:= .ty "tuple") rfl B5 Xr rfl)))) (λ_=>rfl))) (xU (c8 (xt (K:=K) (hu6 hr) rfl) (b9 (zp (K:=K) rfl) rfl Al PySem.boot_len (aW (pv 0))) (jM (v:= .int 5) rfl E9 ⟨_,rfl⟩) (c4 _))))) (j8 (y6 qw)) c7)
  (j6 (c6 (PW.pt (qE (i9 (o9 (K:=K) rfl (fW Eh hr (aW (fW Ag hr (aW (pv 0))))) (λ_=>rfl))) (qE (i9 (o9 (K:=K) rfl (fW Aw hr (aC (fW Ef hr (aW (pv 0))) (aW z0))) (λ_=>rfl))) (xU (c8 (QG) (fW Ef hr (aW (pv 0))) (pv 1) (c4 _)))))) (j8 (y6 qw)) c7)
  (j8 (y6 (vz (fW Aw hr (aC (fW D5 hr (aW (pv 0))) (aW z0))) (vz (fW As hr (aW (fW Em hr (aW (pv 0))))) (wE (fW Aw hr (aC (fW B9 hr (aW (pv 0))) (aW z0)))))))))),
  inferInstance⟩
abbrev ZL:Stmt:=top 25
abbrev Vd:MS:=(u9 (m9 (n6 (p6 (c3 (z5 m8 (q9 (x9 0) (q9 (dC (.ty "list")) x0))))) (dT (z7 o8 (z5 qY (q9 (x9 0) x0)) (x9 1)))) (u7 (dC (.bl false))) t9)
  (u7 (z5 jd (q9 (b8 [none] [0] (p5 (x8 0)) (v6 0) k7 (zt (z5 ja (q9 (x8 0) x0)) (z7 pGe (x9 0) (dC (.int 0))))) x0))))
def wv:List PV->Option PV:=p0 2 2 Vd
theorem CG:w5 ["row","hues"] ["row","hues"] (j5 ZL):=k6
theorem Bw (F:Fun K "is_rinse_row" "is_rinse_row" ZL f fd)(As:Fn P w K mg base 1 "is_whole" ["thing"] (v5 ja))(Eb:mg "all"=none)(Ab:mg "isinstance"=none)(Al:mg "len"=none)(Ak:mg "list"=none):FnOk P w K mg base v3 2 f fd ["row","hues"] (v5 wv) :=
 qh (k:=1) (b:=Vd) F CG rfl λcdv A outer s H E hr=>⟨_,(j6 (c6 (PW.pt (qE (i9 (o9 (K:=K) rfl (b9 (xC (K:=K) rfl) rfl Ab qT (aC (pv 0) (aW (xw (v:= .ty "list") rfl Ak zP rfl)))) (λ_=>rfl))) (xU (c8 (xt (K:=K) (hu6 hr) rfl) (b9 (zp (K:=K) rfl) rfl Al PySem.boot_len (aW (pv 0))) (pv 1) (c4 _))))) (j8 (y6 qw)) c7)
  (j8 (y6 (b9 (Xs (K:=K) rfl rfl) rfl Eb Xq (aW (qp (N':=["number"]) (cap:=[none]) (o4 rfl rfl rfl) rfl (@qx _ K _ _ _ rfl (pv 0)) (λ_ _ _ _ _ _=>(m3 (i:=0) (by show (["number"]:List Str).Nodup;decide +kernel) rfl (Or.inl rfl))) (λ_ _ _ _ _ _=>qi) (λ_ _ _ _ _ _=>(vz (fW As hr (aW (pv 0))) (wE (Zk (QG) (pv 0) z0 (c4 _))))))))))),
  inferInstance⟩
abbrev ZD:Stmt:=top 26
abbrev JV:MS:=(u9 (m9 (p6 (c3 (z5 m8 (q9 (x9 0) (q9 (dC (.ty "list")) x0))))) xp t9)
  (u9 (qU 1 (z7 xu (z5 qY (q9 (x9 0) x0)) (dC (.int 1))))
  (u9 (m9 (p6 (dT (jw pLe pLe (dC (.int 1)) (x9 1) (dC (.int 4))))) xp t9)
  (m9 (p6 (c3 (z5 jd (q9 (b8 [none,some 1] [0] (p5 (x8 0)) (v6 0) k7 (z5 wv (q9 (x8 0) (q9 (x8 1) x0)))) x0)))) xp t9))))
def Qy:List PV->Option PV:=p0 2 1 JV
theorem sc_check_rinses:w5 ["rinses","hues"] ["rinses"] (j5 ZD):=k6
theorem Bo (F:Fun K "check_rinses" "check_rinses" ZD f fd)(A4:Fn P w K mg base 2 "is_rinse_row" ["row","hues"] (v5 wv))(Eb:mg "all"=none)(Ab:mg "isinstance"=none)(Al:mg "len"=none)(Ak:mg "list"=none)(D4:mg "MOST_HUES"=some (.int 4 D1)):FnOk P w K mg base v3 3 f fd ["rinses"] (v5 Qy) :=
 qh (k:=2) (b:=JV) F sc_check_rinses rfl λcdv A outer s H E hr=>⟨_,(j6 (c6 (i9 (o9 (K:=K) rfl (b9 (xC (K:=K) rfl) rfl Ab qT (aC (pv 0) (aW (xw (v:= .ty "list") rfl Ak zP rfl)))) (λ_=>rfl))) (j8 jj) c7)
  (j6 (sW 1 sc_check_rinses.nd (v7 (zg) (b9 (zp (K:=K) rfl) rfl Al PySem.boot_len (aW (pv 0))) z0))
  (j6 (c6 (i9 (Yf (QH) (QH) z0 (pv 1) (jM (v:= .int 4) rfl D4 ⟨_,rfl⟩))) (j8 jj) c7)
  (j8 (c6 (i9 (o9 (K:=K) rfl (b9 (Xs (K:=K) rfl rfl) rfl Eb Xq (aW (qp (N':=["row","hues"]) (cap:=[none,some 1]) (o4 rfl rfl rfl) rfl (@qx _ K _ _ _ rfl (pv 0)) (λ_ _ _ _ _ _=>(m3 (i:=0) (by show (["row","hues"]:List Str).Nodup;decide +kernel) rfl (Or.inl rfl))) (λ_ _ _ _ _ _=>qi) (λ_ _ _ _ _ _=>(fW A4 hr (aC (pv 0) (aW (pv 1)))))))) (λ_=>rfl))) (j8 jj) c7))))),
  inferInstance⟩
abbrev ZZ:Stmt:=top 27
abbrev Vq:MS:=(u7 (b8 [none,none] [0,1] (Xz (q9 (x8 0) x0)) (zD 2 (qC (v6 0) (qC (v6 1) zC))) k7 (i7 (q9 (x8 1) (q9 (b7 (q9 (x8 0) x0)) x0)))))
def wy:List PV->Option PV:=zw 1 1 Vq
theorem CP:w5 ["row"] ["row"] (j5 ZZ):=k6
theorem BL (F:Fun K "straight_ways" "straight_ways" ZZ f fd)(D2:mg "enumerate"=none):FnOk P w K mg base v3 1 f fd ["row"] (spO wy) :=
 okO (k:=0) (b:=Vq) F CP rfl λcdv A outer s H E hr=>⟨_,(j8 (y6 (qp (N':=["hue","number"]) (cap:=[none,none]) (o4 rfl rfl rfl) rfl (Pz (K:=K) rfl rfl D2 (aW (pv 0))) (λ_ _ _ _ _ _=>(Zp (K:=K) (n:=2) rfl rfl (jf (m3 (i:=0) (by show (["hue","number"]:List Str).Nodup;decide +kernel) rfl (Or.inl rfl)) (jf (m3 (i:=1) (by show (["hue","number"]:List Str).Nodup;decide +kernel) rfl (Or.inl rfl)) Zq)))) (λ_ _ _ _ _ _=>qi) (λ_ _ _ _ _ _=>(@qZ _ _ _ _ _ (aC (pv 1) (aW (@qq _ _ _ _ (aW (pv 0)))))))))),
  inferInstance⟩
abbrev ZN:Stmt:=top 28
abbrev Vf:MS:=(u7 (i7 (q9 (z7 o7 (z7 u5 (x9 0) (dC (.int 0))) (z7 u5 (x9 1) (dC (.int 0)))) (q9 (z7 o7 (z7 u5 (x9 0) (dC (.int 1))) (z7 u5 (x9 1) (dC (.int 1)))) x0))))
def ww:List PV->Option PV:=p0 2 2 Vf
theorem CI:w5 ["way","onward"] ["way","onward"] (j5 ZN):=k6
theorem By (F:Fun K "joined" "joined" ZN f fd):FnOk P w K mg base v3 1 f fd ["way","onward"] (v5 ww) :=
 qh (k:=0) (b:=Vf) F CI rfl λcdv A outer s H E hr=>⟨_,(j8 (y6 (@qZ _ _ _ _ _ (aC (v7 (xk (K:=K) rfl) (iW (K:=K) rfl (pv 0) z0) (iW (K:=K) rfl (pv 1) z0)) (aW (v7 (xk (K:=K) rfl) (iW (K:=K) rfl (pv 0) z0) (iW (K:=K) rfl (pv 1) z0))))))),
  inferInstance⟩
abbrev ZR:Stmt:=top 29
abbrev Vk:MS:=(u7 (dIf (dT (z7 pLt (z7 u5 (x9 1) (dC (.int 0))) (z7 u5 (x9 0) (dC (.int 0))))) (x8 1) (x8 0)))
def wx:List PV->Option PV:=p0 2 2 Vk
theorem CL:w5 ["way","other"] ["way","other"] (j5 ZR):=k6
theorem BD (F:Fun K "lesser" "lesser" ZR f fd):FnOk P w K mg base v3 1 f fd ["way","other"] (v5 wx) :=
 qh (k:=0) (b:=Vk) F CL rfl λcdv A outer s H E hr=>⟨_,(j8 (y6 (Zl (c8 (QI) (iW (K:=K) rfl (pv 1) z0) (iW (K:=K) rfl (pv 0) z0) (c4 _)) (pv 1) (pv 0)))),
  inferInstance⟩
abbrev Jc:Stmt:=top 30
abbrev Vs:MS:=(u7 (b8 [none,none,some 0,some 1] [0,1] (dZip (q9 (x8 0) (q9 (x8 2) x0))) (zD 2 (qC (v6 0) (qC (v6 1) zC))) k7 (z5 wx (q9 (x8 0) (q9 (z5 ww (q9 (z7 u5 (x9 2) (x9 3)) (q9 (x8 1) x0))) x0)))))
def vq:List PV->Option PV:=zw 3 3 Vs
theorem CS:w5 ["ways","hue","onward"] ["ways","hue","onward"] (j5 Jc):=k6
theorem BQ (F:Fun K "ways_through" "ways_through" Jc f fd)(Ev:Fn P w K mg base 1 "joined" ["way","onward"] (v5 ww))(Eo:Fn P w K mg base 1 "lesser" ["way","other"] (v5 wx))(J1:mg "zip"=none):FnOk P w K mg base v3 2 f fd ["ways","hue","onward"] (spO vq) :=
 okO (k:=1) (b:=Vs) F CS rfl λcdv A outer s H E hr=>⟨_,(j8 (y6 (qp (N':=["way","more","ways","hue"]) (cap:=[none,none,some 0,some 1]) (o4 rfl rfl rfl) rfl (PH (K:=K) rfl rfl J1 (aC (pv 0) (aW (pv 2)))) (λ_ _ _ _ _ _=>(Zp (K:=K) (n:=2) rfl rfl (jf (m3 (i:=0) (by show (["way","more","ways","hue"]:List Str).Nodup;decide +kernel) rfl (Or.inl rfl)) (jf (m3 (i:=1) (by show (["way","more","ways","hue"]:List Str).Nodup;decide +kernel) rfl (Or.inl rfl)) Zq)))) (λ_ _ _ _ _ _=>qi) (λ_ _ _ _ _ _=>(fW Eo hr (aC (pv 0) (aW (fW Ev hr (aC (iW (K:=K) rfl (pv 2) (pv 3)) (aW (pv 1))))))))))),
  inferInstance⟩
abbrev ZP:Stmt:=top 31
abbrev Vi:MS:=(u9 (qU 1 (b8 [none] [0] (p5 (x8 0)) (v6 0) k7 (z5 wy (q9 (x8 0) x0))))
  (u9 (jx (zb (q9 (z7 xu (z5 qY (q9 (x9 0) x0)) (dC (.int 1))) x0)) (v6 2) (u9 (qU 3 (z7 u5 (x9 1) (x9 2)))
  (qU 1 (b8 [none,some 2,some 3] [0] (p5 (x8 1)) (v6 0) k7 (z5 vq (q9 (x8 0) (q9 (x8 1) (q9 (x8 2) x0))))))))
  (u7 (x8 1))))
def QC:List PV->Option PV:=p0 4 1 Vi
theorem sc_least_ways:w5 ["rinses","table","hue","onward"] ["rinses"] (j5 ZP):=k6
theorem BB (F:Fun K "least_ways" "least_ways" ZP f fd)(Ay:Fn P w K mg base 1 "straight_ways" ["row"] (spO wy))(A5:Fn P w K mg base 2 "ways_through" ["ways","hue","onward"] (spO vq))(Al:mg "len"=none)(Am:mg "range"=none):FnOk P w K mg base v3 3 f fd ["rinses"] (v5 QC) :=
 qh (k:=2) (b:=Vi) F sc_least_ways rfl λcdv A outer s H E hr=>⟨_,(j6 (Ye (i:=1) (N':=["row"]) (cap:=[none]) (o4 rfl rfl rfl) rfl sc_least_ways.nd rfl rfl (@qx _ K _ _ _ rfl (pv 0)) (λ_ _ _ _ _ _=>(m3 (i:=0) (by show (["row"]:List Str).Nodup;decide +kernel) rfl (Or.inl rfl))) (λ_ _ _ _ _ _=>qi) (λ_ _ _ _ _ _=>(fW Ay hr (aW (pv 0)))))
  (j6 (ji PassesOwn.never rfl (vC rfl Am (aW (v7 (zg) (b9 (zp (K:=K) rfl) rfl Al PySem.boot_len (aW (pv 0))) z0))) (gW 2 sc_least_ways.nd)
   (j6 (sW 3 sc_least_ways.nd (iW (K:=K) rfl (pv 1) (pv 2)))
  (j8 (Ye (i:=1) (N':=["ways","hue","onward"]) (cap:=[none,some 2,some 3]) (o4 rfl rfl rfl) rfl sc_least_ways.nd rfl rfl (@qx _ K _ _ _ rfl (pv 1)) (λ_ _ _ _ _ _=>(m3 (i:=0) (by show (["ways","hue","onward"]:List Str).Nodup;decide +kernel) rfl (Or.inl rfl))) (λ_ _ _ _ _ _=>qi) (λ_ _ _ _ _ _=>(fW A5 hr (aC (pv 0) (aC (pv 1) (aW (pv 2))))))))))
  (j8 (y6 (pv 1))))),
  inferInstance⟩
abbrev Ja:Stmt:=top 32
abbrev Vr:MS:=(u7 (b8 [none] [0] (p5 (x8 0)) (v6 0) k7 (z7 u5 (x9 0) (dC (.int 0)))))
def QD:List PV->Option PV:=zw 1 1 Vr
theorem CQ:w5 ["ways"] ["ways"] (j5 Ja):=k6
theorem BO (F:Fun K "sums_of" "sums_of" Ja f fd):FnOk P w K mg base v3 1 f fd ["ways"] (spO QD) :=
 okO (k:=0) (b:=Vr) F CQ rfl λcdv A outer s H E hr=>⟨_,(j8 (y6 (qp (N':=["way"]) (cap:=[none]) (o4 rfl rfl rfl) rfl (@qx _ K _ _ _ rfl (pv 0)) (λ_ _ _ _ _ _=>(m3 (i:=0) (by show (["way"]:List Str).Nodup;decide +kernel) rfl (Or.inl rfl))) (λ_ _ _ _ _ _=>qi) (λ_ _ _ _ _ _=>(iW (K:=K) rfl (pv 0) z0))))),
  inferInstance⟩
abbrev ZO:Stmt:=top 33
abbrev Vh:MS:=(u9 (zv (z5 Qy (q9 (x8 0) x0)))
  (u7 (b8 [none] [0] (p5 (z5 QC (q9 (x8 0) x0))) (v6 0) k7 (z5 QD (q9 (x8 0) x0)))))
abbrev jG:List PV->Option PV:=mZ (p0 1 1 Vh)
theorem CJ:w5 ["rinses"] ["rinses"] (j5 ZO):=k6
theorem BA (F:Fun K "least_rinses" "least_rinses" ZO f fd)(A3:Fn P w K mg base 3 "check_rinses" ["rinses"] (v5 Qy))(B7:Fn P w K mg base 3 "least_ways" ["rinses"] (v5 QC))(Ej:Fn P w K mg base 1 "sums_of" ["ways"] (spO QD)):FnOk P w K mg base v3 4 f fd ["rinses"] (spZ jG) :=
 okZ (k:=3) (b:=Vh) F CJ rfl λcdv A outer s H E hr=>⟨_,(j6 (xI (fW A3 hr (aW (pv 0))))
  (j8 (y6 (qp (N':=["ways"]) (cap:=[none]) (o4 rfl rfl rfl) rfl (@qx _ K _ _ _ rfl (fW B7 hr (aW (pv 0)))) (λ_ _ _ _ _ _=>(m3 (i:=0) (by show (["ways"]:List Str).Nodup;decide +kernel) rfl (Or.inl rfl))) (λ_ _ _ _ _ _=>qi) (λ_ _ _ _ _ _=>(fW Ej hr (aW (pv 0)))))))),
  by infer_instance⟩
abbrev ZE:Stmt:=top 36
abbrev JW:MS:=(u9 (m9 (zr (dT (z7 Zi (x9 0) (dC .non))) (p6 (zr (c3 (z5 zf (q9 (x8 0) (q9 (dUn vy (dC (.int 1))) x0)))) (dT (z7 pLt (x9 0) (x9 2)))))) xp t9)
  (m9 (p6 (c3 (z5 zf (q9 (x8 1) (q9 (dC (.int 0)) x0))))) xp t9))
def zZ:List PV->Option PV:=p0 3 3 JW
theorem Cz:w5 ["last","time","hues"] ["last","time","hues"] (j5 ZE):=k6
theorem Bp (F:Fun K "check_start" "check_start" ZE f fd)(Aw:Fn P w K mg base 2 "is_from" ["thing","least"] (v5 zf)):FnOk P w K mg base v3 3 f fd ["last","time","hues"] (v5 zZ) :=
 qh (k:=2) (b:=JW) F Cz rfl λcdv A outer s H E hr=>⟨_,(j6 (c6 (PW.pt (QT (c8 (Pc) (pv 0) QN (c4 _)) (QU (i9 (PW.pt (QT (o9 (K:=K) rfl (fW Aw hr (aC (pv 0) (aW (vB vL z0)))) (λ_=>rfl)) (QU (c8 (QI) (pv 0) (pv 2) (c4 _))))))))) (j8 jj) c7)
  (j8 (c6 (i9 (o9 (K:=K) rfl (fW Aw hr (aC (pv 1) (aW z0))) (λ_=>rfl))) (j8 jj) c7))),
  inferInstance⟩
abbrev ZC:Stmt:=top 37
abbrev JU:MS:=(u9 (m9 (dT (z7 pGt (z5 qY (q9 (x9 0) x0)) (dC (.int 10)))) xp t9)
  (u9 (Qi 2 VY)
  (jx (p5 (x8 0)) (v6 3) (u9 (m9 (p6 (c3 (z5 QA (q9 (x8 3) (q9 (x8 1) x0))))) xp t9)
  (u9 (m9 (dT (dDIn (z5 xj (q9 (x8 3) x0)) (x9 2))) xp t9)
  (dPut 2 (z5 xj (q9 (x8 3) x0)) (dC (.bl true))))))))
def jF:List PV->Option PV:=p0 4 2 JU
theorem sc_check_cloths:w5 ["cloths","hues","seen","cloth"] ["cloths","hues"] (j5 ZC):=k6
theorem Bn (F:Fun K "check_cloths" "check_cloths" ZC f fd)(Ea:Fn P w K mg base 3 "is_cloth" ["thing","hues"] (v5 QA))(Ag:Fn P w K mg base 1 "name_of" ["cloth"] (v5 xj))(Al:mg "len"=none)(A9:mg "MOST_CLOTHS"=some (.int 10 A7)):FnOk P w K mg base v3 4 f fd ["cloths","hues"] (v5 jF) :=
 qh (k:=3) (b:=JU) F sc_check_cloths rfl λcdv A outer s H E hr=>⟨_,(j6 (c6 (c8 (WO) (b9 (zp (K:=K) rfl) rfl Al PySem.boot_len (aW (pv 0))) (jM (v:= .int 10) rfl A9 ⟨_,rfl⟩) (c4 _)) (j8 jj) c7)
  (j6 (sW 2 sc_check_cloths.nd Po)
  (j8 (ji PassesOwn.never rfl (@qx _ K _ _ _ rfl (pv 0)) (gW 3 sc_check_cloths.nd)
   (j6 (c6 (i9 (o9 (K:=K) rfl (fW Ea hr (aC (pv 3) (aW (pv 1)))) (λ_=>rfl))) (j8 jj) c7)
  (j6 (c6 (Yg (Pi (Qr hr) (fW Ag hr (aW (pv 3))) (pv 2))) (j8 jj) c7)
  (j8 (PP (Qr hr) (pv 2) (fW Ag hr (aW (pv 3))) qw rfl)))))))),
  inferInstance⟩
abbrev Zy:Stmt:=vk (top 38) 1
abbrev JQ (Aa:Addr):MS:=(u7 (z7 xu (z5 qY (q9 (xo Aa "least" (x8 0)) x0)) (dC (.int 1))))
def qK (Aa:Addr):List PV->Option PV:=p0 1 1 (JQ Aa)
theorem Cu:w5 ["self"] ["self"] (j5 Zy):=k6
theorem Bj (F:Fun K "hues" "Works.hues" Zy f fd)(Al:mg "len"=none)[qG K Aa][p8 K Aa "least"]:FnOk P w K mg base v3 1 f fd ["self"] (v5 (qK Aa)) :=
 qh (k:=0) (b:=(JQ Aa)) F Cu rfl λcdv A outer s H E hr=>⟨_,(j8 (y6 (v7 (zg) (b9 (zp (K:=K) rfl) rfl Al PySem.boot_len (aW (jL (K:=K) rfl (pv 0) rfl))) z0))),
  inferInstance⟩
abbrev ZB:Stmt:=vk (top 38) 5
abbrev JT (Aa:Addr):MS:=(u7 (i7 (q9 (xo Aa "last" (x8 0)) (q9 (xo Aa "time" (x8 0)) x0))))
def zY (Aa:Addr):List PV->Option PV:=p0 1 1 (JT Aa)
theorem Cy:w5 ["self"] ["self"] (j5 ZB):=k6
theorem Bm (F:Fun K "start" "Works.start" ZB f fd)[qG K Aa][p8 K Aa "last"][p8 K Aa "time"]:FnOk P w K mg base v3 1 f fd ["self"] (v5 (zY Aa)) :=
 qh (k:=0) (b:=(JT Aa)) F Cy rfl λcdv A outer s H E hr=>⟨_,(j8 (y6 (@qZ _ _ _ _ _ (aC (jL (K:=K) rfl (pv 0) rfl) (aW (jL (K:=K) rfl (pv 0) rfl)))))),
  inferInstance⟩
abbrev Zz:Stmt:=vk (top 38) 6
abbrev JR (Aa:Addr):MS:=(u7 (z5 wC (q9 (xo Aa "held" (x8 0)) x0)))
def zE (Aa:Addr):List PV->Option PV:=zw 1 1 (JR Aa)
theorem Cv:w5 ["self"] ["self"] (j5 Zz):=k6
theorem Bk (F:Fun K "names" "Works.names" Zz f fd)(B3:mg "sorted"=none)[qG K Aa][p8 K Aa "held"]:FnOk P w K mg base v3 1 f fd ["self"] (spO (zE Aa)) :=
 okO (k:=0) (b:=(JR Aa)) F Cv rfl λcdv A outer s H E hr=>⟨_,(j8 (y6 (b9 (VM (K:=K) rfl rfl) rfl B3 VG (aW (jL (K:=K) rfl (pv 0) rfl))))),
  inferInstance⟩
abbrev ZA:Stmt:=vk (top 38) 2
abbrev JS (Aa:Addr):MS:=(u7 (b8 [none] [0] (p5 (xo Aa "given" (x8 0))) (v6 0) k7 (z5 zh (q9 (x9 0) x0))))
abbrev zX (Aa:Addr):List PV->Option PV:=mZ (p0 1 1 (JS Aa))
theorem Cw:w5 ["self"] ["self"] (j5 ZA):=k6
theorem Bl (F:Fun K "rinses" "Works.rinses" ZA f fd)(Ak:mg "list"=none)[qG K Aa][p8 K Aa "given"]:FnOk P w K mg base v3 1 f fd ["self"] (spZ (zX Aa)) :=
 okZ (k:=0) (b:=(JS Aa)) F Cw rfl λcdv A outer s H E hr=>⟨_,(j8 (y6 (qp (N':=["row"]) (cap:=[none]) (o4 rfl rfl rfl) rfl (@qx _ K _ _ _ rfl (jL (K:=K) rfl (pv 0) rfl)) (λ_ _ _ _ _ _=>(m3 (i:=0) (by show (["row"]:List Str).Nodup;decide +kernel) rfl (Or.inl rfl))) (λ_ _ _ _ _ _=>qi) (λ_ _ _ _ _ _=>(jK (wa (K:=K) rfl) rfl Ak zP (aW (pv 0))))))),
  by infer_instance⟩
abbrev Zx:Stmt:=vk (top 38) 7
abbrev JO (Aa:Addr):MS:=(m9 (n6 (p6 (c3 (z5 m8 (q9 (x9 1) (q9 (dC (.ty "str")) x0))))) (dT (wb (x9 1) (xo Aa "held" (x8 0))))) xp t9)
abbrev JP (Aa:Addr):MS:=(u9 (JO Aa)
  (u7 (Qh (xo Aa "held" (x8 0)) (x9 1))))
abbrev Uv (Ac:Addr)(Aa:Addr):XM:=(xSeq false (JO Aa) (xIf (n6 (p6 (c3 (z5 m8 (q9 (x9 1) (q9 (dC (.ty "str")) x0))))) (dT (wb (x9 1) (xo Aa "held" (x8 0))))) (Uu Ac) xNo)
  xNo)
def zW (Aa:Addr):List PV->Option PV:=wc 2 [false,false] (JP Aa)
def vP (Ac:Addr)(Aa:Addr):List PV->Addr->Prop:=xFnB 2 [false,false] (Uv Ac Aa)
theorem Ct:w5 ["self","name"] ["self","name"] (j5 Zx):=k6
theorem Bi (F:Fun K "cloth" "Works.cloth" Zx f fd)(Ab:mg "isinstance"=none)(E1:mg "str"=none)(B0:mg "NoName"=some (.ref Ac))[qG K Aa][p8 K Aa "held"](Ew:PySem.W.excIn K Ac Uo "ValueError.__new__"=true):FnOk P w K mg base (CX1 P w) 1 f fd ["self","name"] (jR [false,false] (zW Aa) (vP Ac Aa)) :=
 okPX (k:=0) (b:=(JP Aa)) (xb:=(Uv Ac Aa)) F Ct rfl rfl rfl λcdv A outer s H E hr=>⟨_,(j6 (c6 (PW.pt (qE (i9 (o9 (K:=K) rfl (b9 (xC (K:=K) rfl) rfl Ab qT (aC (pv 1) (aW (xw (v:= .ty "str") rfl E1 VH rfl)))) (λ_=>rfl))) (xU (Yg (Pj (Qr hr) (pv 1) (jL (K:=K) rfl (pv 0) rfl)))))) (j8 (PR rfl rfl B0 Ew Dl)) c7)
  (j8 (y6 (Pn (Qr hr) (jL (K:=K) rfl (pv 0) rfl) (pv 1) (λ_ _=>rfl))))),
  inferInstance,inferInstance⟩
abbrev zI:Stmt:=vk (top 38) 0
abbrev vd (Aa:Addr):MS:=(u9 (zc Aa "least" (z5 jG (q9 (x8 1) x0)))
  (u9 (zv (z5 zZ (q9 (x8 3) (q9 (x8 4) (q9 (zS Aa "hues" (qK Aa) 0 x0) x0)))))
  (u9 (zv (z5 jF (q9 (x8 2) (q9 (zS Aa "hues" (qK Aa) 0 x0) x0))))
  (u9 (zc Aa "given" (b8 [none] [0] (p5 (x8 1)) (v6 0) k7 (z5 zh (q9 (x9 0) x0))))
  (u9 (zc Aa "held" (z5 jJ (q9 (b8 [none] [0] (p5 (x8 2)) (v6 0) k7 (i7 (q9 (z5 xj (q9 (x8 0) x0)) (q9 (x8 0) x0)))) x0)))
  (u9 (zc Aa "last" (dIf (dT (z7 pIsN (x9 3) (dC .non))) (dUn vy (dC (.int 1))) (x8 3)))
  (zc Aa "time" (x8 4))))))))
def qL (Aa:Addr):List PV->Option PV:=vf 5 5 Aa (vd Aa)
theorem YG:w5 ["self","rinses","cloths","last","time"] ["self","rinses","cloths","last","time"] (j5 zI):=k6
theorem Bg (F:FunD K "__init__" "Works.__init__" zI f fd)(Ae:Fn P w K mg base 4 "check_cloths" ["cloths","hues"] (v5 jF))(Ah:Fn P w K mg base 3 "check_start" ["last","time","hues"] (v5 zZ))(Af:Fn P w K mg base 4 "least_rinses" ["rinses"] (spZ jG))(Ag:Fn P w K mg base 1 "name_of" ["cloth"] (v5 xj))(A8:mg "dict"=none)(Ak:mg "list"=none)[qG K Aa][p8 K Aa "given"][p8 K Aa "held"][p8 K Aa "last"][p8 K Aa "least"][p8 K Aa "time"](Ad:Mt P w K mg base 1 Aa "hues" ["self"] (v5 (qK Aa))):FnOk P w K mg base v3 5 f fd ["self","rinses","cloths","last","time"] (spI Aa (qL Aa)) :=
 okID (k:=4) (b:=vd Aa) F YG rfl (λcdv A outer s H E hr=>⟨_,(j6 (zi (K:=K) rfl (pv 0) (fW Af hr (aW (pv 1))))
  (j6 (xI (fW Ah hr (aC (pv 3) (aC (pv 4) (aW (qD Ad hr (by decide) (pv 0)))))))
  (j6 (xI (fW Ae hr (aC (pv 2) (aW (qD Ad hr (by decide) (pv 0))))))
  (j6 (zi (K:=K) rfl (pv 0) (qp (N':=["row"]) (cap:=[none]) (o4 rfl rfl rfl) rfl (@qx _ K _ _ _ rfl (pv 1)) (λ_ _ _ _ _ _=>(m3 (i:=0) (by show (["row"]:List Str).Nodup;decide +kernel) rfl (Or.inl rfl))) (λ_ _ _ _ _ _=>qi) (λ_ _ _ _ _ _=>(jK (wa (K:=K) rfl) rfl Ak zP (aW (pv 0))))))
  (j6 (zi (K:=K) rfl (pv 0) (jK (VI (K:=K) rfl rfl) rfl A8 VE (aW (qp (N':=["cloth"]) (cap:=[none]) (o4 rfl rfl rfl) rfl (@qx _ K _ _ _ rfl (pv 2)) (λ_ _ _ _ _ _=>(m3 (i:=0) (by show (["cloth"]:List Str).Nodup;decide +kernel) rfl (Or.inl rfl))) (λ_ _ _ _ _ _=>qi) (λ_ _ _ _ _ _=>(@qZ _ _ _ _ _ (aC (fW Ag hr (aW (pv 0))) (aW (pv 0)))))))))
  (j6 (zi (K:=K) rfl (pv 0) (Zl (c8 (WP) (pv 3) QN (c4 _)) (vB vL z0) (pv 3)))
  (j8 (zi (K:=K) rfl (pv 0) (pv 4))))))))),
  (by repeat' first|infer_instance|(refine @Mi.CZ _ _ _ _ ?_ ?_))⟩)
abbrev Je:Stmt:=top 48
abbrev Vu:MS:=(u7 (zt (z5 m8 (q9 (x9 0) (q9 (dC (.ty "int")) x0))) (wf (z5 m8 (q9 (x9 0) (q9 (dC (.ty "bool")) x0))))))
def jc:List PV->Option PV:=p0 1 1 Vu
theorem CU:w5 ["found"] ["found"] (j5 Je):=k6
theorem BS (F:Fun K "_law_whole" "_law_whole" Je f fd)(Ek:mg "bool"=none)(E2:mg "int"=none)(Ab:mg "isinstance"=none):FnOk P w K mg base v3 1 f fd ["found"] (v5 jc) :=
 qh (k:=0) (b:=Vu) F CU rfl λcdv A outer s H E hr=>⟨_,(j8 (y6 (vz (b9 (xC (K:=K) rfl) rfl Ab qT (aC (pv 0) (aW (xw (v:= .ty "int") rfl E2 VF rfl)))) (wE (WZ (b9 (xC (K:=K) rfl) rfl Ab qT (aC (pv 0) (aW (xw (v:= .ty "bool") rfl Ek VD rfl))))))))),
  inferInstance⟩
theorem Ju (n:Int):ja [.at (.int n)]=some (.at (.bl true)):=qJ rfl (o5 (vi (j7 rfl Wo) (Wi (v:=false) (j7 rfl Wp))))
theorem DB (n k:Int):zf [.at (.int n),.at (.int k)]=some (.at (.bl (decide (k<=n)))):=qJ rfl (o5 (vi (j7 rfl (Ju n)) rfl))
theorem vM {n k:Int}(h:k<=n):zf [.at (.int n),.at (.int k)]=some (.at (.bl true)):=(DB n k).trans (by rw [ym h])
theorem DE (h:jX s):QB [.at (.str s)]=some (.at (.bl true)):=by
 have hl:lim=1000000:=rfl;have l1:=h.one;have l8:=h.eight;have ln:qY [.at (.str s)]=some (.at (.int s.length)):=if_pos (by omega);refine qJ rfl (g0 (qf (qA (n5 (i6 (j7 rfl XO))) (n5 (k9 (XB (r:=true) rfl (j7 rfl ln) ?_ rfl ?_)))) qg) (o5 (j7 (j4 (qB (λc:Nat=>PV.at (.str ⟨#[c]⟩)) (λ_=>PV.at (.bl true)) s.cps.toList rfl rfl ?_ ?_) rfl) (Xo _))))
 ·show some (PV.at (.bl (decide ((1:Int)<=(s.length:Int)))))=_;rw [ym (by omega)]
 ·show some (PV.at (.bl (decide ((s.length:Int)<=8))))=_;rw [ym (by omega)]
 ·have:s.cps.toList.length=s.length:=by simp [Str.length]
  omega
 ·intro c hc;obtain ⟨c1,c2⟩:=h.low c hc;refine ⟨_,rfl,XB rfl rfl ?_ rfl ?_⟩
  ·show some (PV.at (.bl (!decide ([c]<("a":Str).cps.toList))))=_;have e:¬ ([c]<[97]):=by rw [List.cons_lt_cons_iff];simp;omega
   rw [show ("a":Str).cps.toList=[97] by decide +kernel,yI e];rfl
  ·show some (PV.at (.bl (!decide (("z":Str).cps.toList<[c]))))=_;have e:¬ ([122]<[c]):=by rw [List.cons_lt_cons_iff];simp;omega
   rw [show ("z":Str).cps.toList=[122] by decide +kernel,yI e];rfl
theorem DD {c:Cl}(ok:c.Ok h):QA [c.pv,.at (.int h)]=some (.at (.bl true)):=by refine qJ rfl (g0 (qf (qA (n5 (i6 (j7 rfl XQ))) (k9 (v:=false) rfl)) qg) (g0 (qf (qA (n5 (i6 (j7 (j4 (j7 rfl rfl) rfl) (DE ok.nm)))) (qA (n5 (i6 (j7 (j4 (j7 rfl rfl) rfl) (vM (n:=(c.hue:Int)) (k:=0) (by omega))))) (k9 (v:=false) (y7 (j7 rfl rfl) rfl ?_)))) qg) (o5 (vi (j7 (j4 (j7 rfl rfl) rfl) (vM ok.l1)) (vi (j7 (j4 (j7 rfl rfl) rfl) (Ju _)) (j7 (j4 (j7 rfl rfl) rfl) (vM ok.w1)))))));show some (PV.at (.bl (decide ((h:Int)<=(c.hue:Int)))))=_;have:=ok.hu;rw [yI (by omega)]
theorem Ue {l t:Int}(h1:-1<=l)(h2:l<(h:Int))(h3:0<=t):zZ [.at (.int l),.at (.int t),.at (.int h)]=some (.at .non):=by refine Qm rfl (g0 (qf (Xy (v:=false) (k9 (v:=true) rfl) (n5 (Xy (v:=true) (i6 (j7 rfl (vM h1))) (k9 (v:=true) ?_)))) qg) (qf (n5 (i6 (j7 rfl (vM h3)))) qg));show some (PV.at (.bl (decide (l<(h:Int)))))=_;rw [ym h2]
def keysOf (cs:List Cl):List z8:=cs.map λc=>Sum.inr c.name
theorem WG {x:Str}{α:Type}(f:Cl->PV):∀{cs:List Cl},x∉cs.map Cl.name->o6 (.inr x) (keysOf cs) (cs.map f)=none
 |[],_=>rfl
 |c::cs,h=>by
  rw [yP] at h;show (if (Sum.inr c.name:z8) = .inr x then _ else o6 (.inr x) (keysOf cs) (cs.map f))=_;rw [if_neg (λe=>h (by injection e with e;rw [e];exact yV)),WG (α:=α) f λz=>h (yW _ z)]
theorem WF (f:Cl->PV):∀{cs:List Cl},(cs.map Cl.name).Nodup->∀ c∈cs,o6 (.inr c.name) (keysOf cs) (cs.map f)=some (f c)
 |[],_,_,h=>nomatch h
 |d::cs,nd,c,h=>by
  rw [yP] at nd;have nd':=yu.mp nd;show (if (Sum.inr d.name:z8) = .inr c.name then some (f d) else o6 (.inr c.name) (keysOf cs) (cs.map f))=_;rcases yK.mp h with rfl|h
  ·rw [if_pos rfl]
  ·rw [if_neg (λe=>nd'.1 (by injection e with e;rw [e];exact yr.mpr ⟨c,h,rfl⟩)),WF f nd'.2 c h]
theorem Jp {cls:List Cl}(hok:∀ c∈cls,c.Ok h)(nd:(cls.map Cl.name).Nodup)(ten:cls.length<=10):jF [.lst (cls.map Cl.pv),.at (.int h)]=some (.at .non):=by
 have hl:lim=1000000:=rfl;refine Qm rfl (g0 (qf (k9 (v:=false) (y7 (j7 rfl rfl) rfl ?_)) qg) (g0 (GI rfl) (Qo rfl (wq Cl.pv (λl ε=>∃(done:List Cl)(s3:MSlot),done++l=cls/\ε=[.sh (.lst (cls.map Cl.pv)),.sh (.at (.int h)),.ow (.dk (keysOf done) (done.map λ_=>PV.at (.bl true))),s3]) ?_ cls _ ⟨[],.no,rfl,rfl⟩).choose_spec.1)))
 ·show some (PV.at (.bl (decide ((10:Int)<((cls.map Cl.pv).length:Int)))))=_;rw [yZ,yI (by omega)]
 ·rintro c l ε ⟨done,s3,e,rfl⟩;have hc:c∈cls:=by rw [<- e];exact yC _ yV
  have hn:c.name∉done.map Cl.name:=λz=>by
   rw [<- e,yz,yP] at nd;exact (List.nodup_append.mp nd).2.2 _ z _ yV rfl
  have ln:=WG (α:=Unit) (λ_=>PV.at (.bl true)) hn;have hd:done.length<=10:=by rw [<- e] at ten;rw [yF] at ten;omega
  refine ⟨_,_,rfl,g0 (qf (n5 (i6 (j7 rfl (DD (hok c hc))))) qg) (g0 (qf (k9 (v:=false) ?_) qg) ?_),done++[c],.sh c.pv,by rw [<- e,List.append_assoc];rfl,rfl⟩
  ·show some (PV.at (.bl (o6 (.inr c.name) (keysOf done) (done.map λ_=>PV.at (.bl true))).isSome))=_;rw [ln];rfl
  ·show (if (keysOf done).length<=lim then some (Out.nx [_,_,.ow (QR (.inr c.name) (.at (.bl true)) (keysOf done) (done.map λ_=>PV.at (.bl true))),_]) else none)=_;unfold QR;rw [if_pos (by unfold keysOf;rw [yZ];omega),ln];simp only [Option.isSome_none,Bool.false_eq_true,if_false];unfold keysOf;rw [yz,yz];rfl
def jA (n:Int):PV:= .at (.int n)
def m5 (r:List Int):PV:= .lst (r.map jA)
def wyP (w:Wy):PV:= .tup [.at (.int w.1),.lst (w.2.map jA)]
def qj (ws:List Wy):PV:= .lst (ws.map wyP)
theorem DJ (hl:r.length=h)(h4:h<=4)(hv:∀ v∈r,0<=v):wv [m5 r,.at (.int h)]=some (.at (.bl true)):=by
 have hlim:lim=1000000:=rfl;refine qJ rfl (g0 (qf (qA (n5 (i6 (j7 rfl XN))) (k9 (v:=false) (y7 (j7 rfl rfl) rfl ?_))) qg) (o5 (j7 (j4 (qB jA (λ_=>PV.at (.bl true)) r rfl rfl (by omega) λv hvm=>?_) rfl) (Xo _))))
 ·show (peq 6 (.at (.int ((r.map jA).length:Int))) (.at (.int (h:Int)))).bind _=_;rw [yZ,hl];exact zF (x:= .at (.int (h:Int))) rfl
 ·refine ⟨_,rfl,vi (j7 rfl (Ju v)) ?_⟩;show some (PV.at (.bl (decide ((0:Int)<=v))))=_;rw [ym (hv v hvm)]
theorem Dz (G:qQ h rss)(h1:1<=h)(h4:h<=4):Qy [v8 rss]=some (.at .non):=by
 have hlim:lim=1000000:=rfl;have hlen:=G.len;have eh:((rss.map m5).length:Int)-1=(h:Int):=by rw [yZ,hlen];omega
 have step:∀(k:Int),k=(h:Int)->u9 (m9 (p6 (dT (jw pLe pLe (dC (.int 1)) (x9 1) (dC (.int 4))))) xp t9)
  (m9 (p6 (c3 (z5 jd (q9 (b8 [none,some 1] [0] (p5 (x8 0)) (v6 0) k7 (z5 wv (q9 (x8 0) (q9 (x8 1) x0)))) x0)))) xp t9) [.sh (v8 rss),.sh (.at (.int k))]=some (.nx [.sh (v8 rss),.sh (.at (.int k))]):=by
  rintro k rfl;refine g0 (qf (n5 (k9 (XB (r:=true) rfl rfl ?_ rfl ?_))) qg) (qf (n5 (i6 (j7 (j4 (qB m5 (λ_=>PV.at (.bl true)) rss rfl rfl (by omega) λr hr=>⟨_,rfl,j7 rfl (DJ (G.row r hr).1 h4 λv hv=>((G.row r hr).2 v hv).1)⟩) rfl) (Xo _)))) qg)
  ·show some (PV.at (.bl (decide ((1:Int)<=(h:Int)))))=_;rw [ym (by omega)]
  ·show some (PV.at (.bl (decide ((h:Int)<=4))))=_;rw [ym (by omega)]
 exact Qm rfl (g0 (qf (n5 (i6 (j7 rfl XN))) qg) (g0 (zT rfl) (step _ eh)))
theorem We {α:Type}(f:α->PV):∀(l:List α)(n:Nat),xE n (l.map f)=(l.zipIdx n).map λp=>PV.tup [.at (.int ((p.2:Nat):Int)),f p.1]
 |[],_=>rfl
 |x::l,n=>by
  rw [yP,List.zipIdx_cons,yP];show PV.tup [.at (.int n),f x]::xE (n+1) (l.map f)=_;rw [We f l (n+1)]
theorem DK (h:r.length<=4):wy [m5 r]=some (qj (xY r)):=by
 have hlim:lim=1000000:=rfl;refine Qn rfl (o5 ?_);have e:=qB (cap:=[none,none]) (ts:=[0,1]) (it:=Xz (q9 (x8 0) x0)) (g:=zD 2 (qC (v6 0) (qC (v6 1) zC))) (f:=i7 (q9 (x8 1) (q9 (b7 (q9 (x8 0) x0)) x0))) (ε:=[.sh (m5 r)])
  (λp:Int×Nat=>PV.tup [.at (.int ((p.2:Nat):Int)),jA p.1]) (λp:Int×Nat=>wyP (p.1,[(p.2:Int)])) (r.zipIdx 0) (by show some (xE 0 (r.map jA))=_;rw [We]) rfl (by rw [List.length_zipIdx];omega) λp _=>⟨_,rfl,rfl⟩
 refine e.trans ?_;unfold qj xY;rw [List.mapIdx_eq_zipIdx_map,yn];rfl
theorem DF {a:Wy}(h:a.2.length+b.2.length<=1000):ww [wyP a,wyP b]=some (wyP (xQ a b)):=by have hlim:lim=1000000:=rfl;refine qJ rfl (o5 (xG (j4 (y7 rfl rfl rfl) (j4 (y7 rfl rfl (Pe (by rw [yZ,yZ];omega))) rfl)) (by first|decide|(show 1<=lim;decide)|(show 2<=lim;decide)|(show 3<=lim;decide))) |>.trans ?_);unfold wyP xQ;rw [yz]
theorem DH (a b:Wy):wx [wyP a,wyP b]=some (wyP (ze a b)):=by
 unfold ze;by_cases h:b.1<a.1
 ·rw [if_pos h];exact qJ rfl (o5 (GH (k9 (v:=true) (y7 rfl rfl (show some (PV.at (.bl (decide (b.1<a.1))))=_ by rw [ym h]))) rfl))
 ·rw [if_neg h];exact qJ rfl (o5 (XC (k9 (v:=false) (y7 rfl rfl (show some (PV.at (.bl (decide (b.1<a.1))))=_ by rw [yI h]))) rfl))
theorem Uy {α β:Type}(f:α->PV)(g:β->PV):∀(l:List α)(m:List β),xg (l.map f) (m.map g)=(l.zip m).map λp=>PV.tup [f p.1,g p.2]
 |[],_=>by cases ‹List β›<;>rfl
 |_::_,[]=>rfl
 |x::l,y::m=>by
  show PV.tup [f x,g y]::xg (l.map f) (m.map g)=_;rw [Uy f g l m];rfl
theorem Uz {α β γ:Type}(f:α->β->γ):∀(l:List α)(m:List β),List.zipWith f l m=(l.zip m).map λp=>f p.1 p.2
 |[],_=>by simp
 |_::_,[]=>rfl
 |x::l,y::m=>by
  show f x y::List.zipWith f l m=_;rw [Uz f l m];rfl
theorem DM {k:Nat}(hk:k<ws.length)(h4:ws.length<=4)(l1:∀ w∈ws,w.2.length<=100)(l2:∀ w∈onw,w.2.length<=100):vq [qj ws,.at (.int (k:Int)),qj onw]=some (qj (thr ws k onw)):=by
 have hlim:lim=1000000:=rfl;have hg:ws.getD k (0,[])=ws[k]:=o3 hk;have hw:=yj hk;refine Qn rfl (o5 ?_);have e:=qB (cap:=[none,none,some 0,some 1]) (ts:=[0,1]) (it:=dZip (q9 (x8 0) (q9 (x8 2) x0))) (g:=zD 2 (qC (v6 0) (qC (v6 1) zC))) (f:=z5 wx (q9 (x8 0) (q9 (z5 ww (q9 (z7 u5 (x9 2) (x9 3)) (q9 (x8 1) x0))) x0))) (ε:=[.sh (qj ws),.sh (.at (.int (k:Int))),.sh (qj onw)])
  (λp:Wy×Wy=>PV.tup [wyP p.1,wyP p.2]) (λp:Wy×Wy=>wyP (ze p.1 (xQ ws[k] p.2))) (ws.zip onw) (by show some (xg (ws.map wyP) (onw.map wyP))=_;rw [Uy]) rfl (by rw [List.length_zip];omega) λp hp=>⟨_,rfl,j7 (j4 rfl (j4 (j7 (j4 (y7 rfl rfl (xn (v:=wyP ws[k]) (by rw [yQ,yw hk];rfl))) (j4 rfl rfl)) (DF (by
   have q1:=l1 _ hw;have q2:=l2 p.2 (List.of_mem_zip hp).2;omega))) rfl)) (DH _ _)⟩
 refine e.trans ?_;unfold qj thr;rw [hg,Uz,yn];rfl
theorem DO {k:Nat}(G:qQ h rss)(hk:k<=h)(h4:h<=4):∀ r∈m4 rss k,∀ w∈r,w.2.length<=100:=by
 intro r hr w hw;have S:=Shp.all G k hk;have F:=FW.all G k hk;obtain ⟨f,hf,rfl⟩:=uQ hr;obtain ⟨g,hg,rfl⟩:=uQ hw;have hf':f<=h:=by have:=S.len;omega
 have hg':g<h:=by rw [<- S.row _ hr];exact hg
 have e:w4 (m4 rss k) f g=(m4 rss k)[f][g]:=by unfold w4;rw [o3 hf,o3 hg]
 have q:=F.len f g hf' hg';rw [e] at q;have:2 ^ k<=2 ^ 4:=Nat.pow_le_pow_right (by decide) (by omega);omega
def wQ (T:List (List Wy)):PV:= .lst (T.map qj)
theorem DG (G:qQ h rss)(h1:1<=h)(h4:h<=4):QC [v8 rss]=some (wQ (m4 rss h)):=by
 have hlim:lim=1000000:=rfl;have hlimI:(lim:Int)=1000000:=rfl;have hlen:=G.len;have st:b8 [none] [0] (p5 (x8 0)) (v6 0) k7 (z5 wy (q9 (x8 0) x0)) [.sh (v8 rss),.no,.no,.no]=some (wQ (m4 rss 0)):=by refine (qB m5 (λr=>qj (xY r)) rss rfl rfl (by omega) λr hr=>⟨_,rfl,j7 rfl (DK (by rw [(G.row r hr).1];exact h4))⟩).trans ?_;show _=some (PV.lst ((rss.map xY).map qj));rw [yn];rfl
 have rg:zb (q9 (z7 xu (z5 qY (q9 (x9 0) x0)) (dC (.int 1))) x0) [.sh (v8 rss),.sh (wQ (m4 rss 0)),.no,.no]=some ((List.range h).map λ(i:Nat)=>PV.at (.int ((0:Int)+i))):=by refine QY (k:=h) (j4 (y7 (j7 rfl rfl) rfl ?_) rfl) (by omega);show some (PV.at (.int (((rss.map m5).length:Int)-1)))=_;rw [yZ,hlen,show ((h+1:Nat):Int)-1=(h:Int) by omega]
 have lp:=wq (g:=v6 2) (f:=u9 (qU 3 (z7 u5 (x9 1) (x9 2))) (qU 1 (b8 [none,some 2,some 3] [0] (p5 (x8 1)) (v6 0) k7 (z5 vq (q9 (x8 0) (q9 (x8 1) (q9 (x8 2) x0)))))))
  (λ(i:Nat)=>PV.at (.int ((0:Int)+i))) (λl ε=>∃(k:Nat)(s2 s3:MSlot),l=(List.range h).drop k/\k<=h/\ε=[.sh (v8 rss),.sh (wQ (m4 rss k)),s2,s3]) (by
   rintro i l ε ⟨k,s2,s3,el,hk,rfl⟩;have hkl:k<h:=by
    have e5:(i::l).length=((List.range h).drop k).length:=by rw [<- el]
    rw [List.length_drop,List.length_range,yx] at e5;omega
   have ei:i=k:=by
    have:((List.range h).drop k)[0]?=some i:=by rw [<- el];rfl
    rw [List.getElem?_drop,List.getElem?_range (by omega)] at this;simpa using this.symm
   have er:l=(List.range h).drop (k+1):=by
    have:((List.range h).drop k).tail=l:=by rw [<- el];rfl
    rw [<- this,List.tail_drop]
   subst ei;have S:=Shp.all G i hk;have hT:i<(m4 rss i).length:=by rw [S.len];omega
   have gD:(m4 rss i).getD i []=(m4 rss i)[i]:=o3 hT;have wl:=DO G hk h4;refine ⟨_,_,rfl,g0 (zT (x:=qj (m4 rss i)[i]) (y7 rfl rfl ?_)) (zT (x:=wQ (m4 rss (i+1))) ?_),i+1,_,_,er,hkl,rfl⟩
   ·show atI ((m4 rss i).map qj) (0+(i:Int))=_;rw [Int.zero_add];exact xn (by rw [yQ,yw hT];rfl)
   ·refine (qB qj (λrow=>qj (thr row i (m4 rss i)[i])) (m4 rss i) rfl rfl (by rw [S.len];omega) λrow hr=>⟨_,rfl,j7 rfl ?_⟩).trans ?_
    ·show vq [qj row,.at (.int (0+(i:Int))),qj (m4 rss i)[i]]=_;rw [Int.zero_add];exact DM (by rw [S.row row hr];exact hkl) (by rw [S.row row hr];exact h4) (wl row hr) (wl _ (yj hT))
    ·show _=some (PV.lst ((qv (m4 rss i) i).map qj));unfold qv;rw [yn,gD];rfl) (List.range h) _ ⟨0,.no,.no,rfl,yi _,rfl⟩
 obtain ⟨ε',e',k,s2,s3,el,hk,rfl⟩:=lp;have ek:k=h:=by have:=congrArg List.length el;rw [List.length_drop,List.length_range] at this;simp at this;omega
 subst ek;exact qJ rfl (g0 (zT st) (g0 (Qo rg e') (o5 rfl)))
theorem DL (h4:ws.length<=4):QD [qj ws]=some (m5 (ws.map (·.1))):=by have hlim:lim=1000000:=rfl;refine Qn rfl (o5 ((qB wyP (λw=>jA w.1) ws rfl rfl (by omega) λw _=>⟨_,rfl,rfl⟩).trans ?_));unfold m5;rw [yn];rfl
theorem Jr (G:qQ h rss)(h1:1<=h)(h4:h<=4):jG [v8 rss]=some (v8 (zB rss h)):=by have hlim:lim=1000000:=rfl;have S:=Shp.all G h (yS _);show mZ _ _=some (.lst ((zB rss h).map m5));refine WK (qJ rfl (g0 (wj (j7 rfl (Dz G h1 h4))) (o5 ((qB qj (λws=>m5 (ws.map (·.1))) (m4 rss h) (XD (j7 rfl (DG G h1 h4))) rfl (by rw [S.len];omega) λws hw=>⟨_,rfl,j7 rfl (DL (by rw [S.row ws hw];exact h4))⟩).trans ?_))));show _=some (PV.lst ((zB rss h).map m5));unfold zB;rw [yn];rfl
def Dr.low (d:Dr):List (List Int):=zB d.rss d.h
def GN:List Str:=["least","given","held","last","time"]
def Dr.ob (C:Addr)(d:Dr):PV:= .ob C GN [v8 d.low,v8 d.rss,.fk (keysOf d.cls) (d.cls.map Cl.pv),.at (.int d.last),.at (.int d.time)]
def Dr.names (d:Dr):List Str:=d.cls.map Cl.name
section
variable {C:Addr}{d:Dr}
theorem Jq (ok:d.Ok):qK C [d.ob C]=some (.at (.int d.h)):=by have G:=WI ok.rin;refine qJ rfl (o5 (y7 (j7 (j4 (zx rfl rfl) rfl) rfl) rfl ?_));show some (PV.at (.int (((d.low.map m5).length:Int)-1)))=_;rw [yZ,show d.low.length=d.h+1 from G.len,show ((d.h+1:Nat):Int)-1=(d.h:Int) by omega]
theorem Jt:zY C [d.ob C]=some (.tup [.at (.int d.last),.at (.int d.time)]):=qJ rfl (o5 (xG (j4 (zx rfl rfl) (j4 (zx rfl rfl) rfl)) (by first|decide|(show 1<=lim;decide)|(show 2<=lim;decide)|(show 3<=lim;decide))))
theorem GF {b:M}{z:PV}{k:z8}(h1:a ε=some (.fk ks xs))(h2:b ε=some y)(h3:xR y=some k)(h4:o6 k ks xs=some z):Qh a b ε=some z:=by unfold Qh;rw [h1,h2];show (xR y).bind _=_;rw [h3];exact h4
theorem Wh {b:M}{k:z8}{o:Option PV}(h1:a ε=some (.fk ks xs))(h2:b ε=some y)(h3:xR y=some k)(h4:o6 k ks xs=o):wb b a ε=some (.at (.bl (!o.isSome))):=by unfold wb;rw [h1,h2];show (xR y).bind _=_;rw [h3,<- h4];rfl
theorem DA (ok:d.Ok){c:Cl}(hc:c∈d.cls):zW C [d.ob C,.at (.str c.name)]=some c.pv:=by
 have lk:=WF Cl.pv ok.nd c hc;refine GG rfl (g0 (qf (qA (n5 (i6 (j7 rfl XO))) (k9 (v:=false) ?_)) qg) (o5 ?_))
 ·exact Wh (zx rfl rfl) rfl rfl lk
 ·exact GF (zx rfl rfl) rfl rfl lk
theorem WD {s:Str}:∀{cs:List Cl},s∉cs.map Cl.name->o6 (.inr s) (keysOf cs) (cs.map Cl.pv)=none
 |[],_=>rfl
 |c::cs,h=>by
  have h1:¬ (Sum.inr c.name:z8)=Sum.inr s:=λz=>h (by injection z with z;rw [<- z];exact yV);show (if (Sum.inr c.name:z8)=Sum.inr s then _ else _)=_;rw [if_neg h1];exact WD λz=>h (yW _ z)
theorem DP {CN:Addr}(h:s∉d.names):vP CN C [d.ob C,.at (.str s)] CN :=
 ⟨rfl,.inl ⟨true,dOr_r (n5 (i6 (j7 rfl XO))) (k9 (v:=true) (Wh (o:=none) (zx rfl rfl) rfl rfl (WD h))),qW rfl⟩⟩
theorem Bd (a b:Int):o8 (.at (.int a)) (.at (.int b))=some (.at (.bl (!decide (a=b)))):=by show some (PV.at (.bl (!qe (.int a) (.int b))))=_;have:qe (.int a) (.int b)=decide (a=b):=rfl;rw [this]
theorem KH (cs:List Cl):zV (keysOf cs)=some (cs.map Cl.name):=by
 induction cs with
 |nil=>rfl
 |cons c cs ih=>show (zV (keysOf cs)).map (c.name::·)=_;rw [ih];rfl
theorem Dj (ss:List Str):jS (u6 ss)=some ss:=by
 induction ss with
 |nil=>rfl
 |cons s ss ih=>show (jS (u6 ss)).map (s::·)=_;rw [ih];rfl
theorem Xe (ok:d.Ok):zE C [d.ob C]=some (.lst (u6 (qF d.names))):=by refine Qn rfl (o5 (j7 (j4 (zx rfl rfl) rfl) ?_));show (zV (keysOf d.cls)).bind _=_;rw [KH,yM,if_pos (by rw [yZ];have:=ok.ten;omega)];rfl
theorem Yb {ss:List Str}:xT 6 (.lst (u6 ss)):=λx hx=>by
 obtain ⟨s,_,rfl⟩:=yr.mp hx;rfl
theorem PJ (c:Cl):xT 6 c.pv:=by
 intro y hy;have h:y = .at (.str c.name)∨y = .at (.int (c.hue:Int))∨y = .at (.int c.len)∨y = .at (.int c.due)∨y = .at (.int c.wt):=by simpa using hy
 rcases h with rfl|rfl|rfl|rfl|rfl<;>rfl
theorem PK (rss:List (List Int)):xT 6 (v8 rss):=by intro x hx;obtain ⟨r,_,rfl⟩:=yr.mp hx;intro y hy;obtain ⟨n,_,rfl⟩:=yr.mp hy;rfl
theorem Js (ok:d.Ok):zX C [d.ob C]=some (v8 d.rss):=by have hlim:lim=1000000:=rfl;have glen:=ok.rin.len;have h4:=ok.h4;show mZ _ _=some (.lst (d.rss.map m5));exact WK (qJ rfl (o5 (qB m5 m5 d.rss (XD (zx rfl rfl)) rfl (by omega) λr _=>⟨_,rfl,rfl⟩)))
end
section
variable {C:Addr}{d:Dr}
theorem zd {f:Str}(h1:a ε=some y)(h0:ε[0]?=some (.ow (.ob C ns xs)))(hf:f∉ns)(hl:ns.length<1000):zc C f a ε=some (.nx (ε.set 0 (.ow (.ob C (ns++[f]) (xs++[y]))))):=by unfold zc;rw [h1,yM,h0];exact if_pos ⟨rfl,hf,hl⟩
theorem vj {nm:Str}{i:Nat}{fs:List PV}{u:V}(h0:ε[i]?=some (.ow (.ob C ns fs)))(hn:nm∉ns)(k:as ε=some xs)(e:m (.ob C ns fs::xs)=some (.at u)):zS C nm m i as ε=some (.at u):=by unfold zS;rw [h0];show (if C=C/\nm∉ns then _ else _)=_;rw [if_pos ⟨rfl,hn⟩,k,yM,e];rfl
theorem vN (ok:d.Ok):qK C [.ob C ["least"] [v8 d.low]]=some (.at (.int d.h)):=by have G:=WI ok.rin;refine qJ rfl (o5 (y7 (j7 (j4 (zx rfl rfl) rfl) rfl) rfl ?_));show some (PV.at (.int (((d.low.map m5).length:Int)-1)))=_;rw [yZ,show d.low.length=d.h+1 from G.len,show ((d.h+1:Nat):Int)-1=(d.h:Int) by omega]
theorem QQ:∀ cs:List Cl,zG (cs.map λc=>PV.tup [.at (.str c.name),c.pv])=some (cs.map λc=>((.inr c.name:z8),c.pv))
 |[]=>rfl
 |c::cs=>by
  show Option.bind (some (Sum.inr c.name)) (λkk=>(zG (cs.map λc=>PV.tup [.at (.str c.name),c.pv])).map ((kk,c.pv)::·))=_;rw [yM,QQ cs];rfl
theorem XU {cs:List Cl}(h:(cs.map Cl.name).Nodup):(keysOf cs).Nodup:=by
 induction cs with
 |nil=>exact uK
 |cons c cs ih=>rw [yP] at h;have h':=yu.mp h;refine yu.mpr ⟨λz=>?_,ih h'.2⟩;obtain ⟨y,hy,e⟩:=yr.mp z;injection e with e;exact h'.1 (yr.mpr ⟨y,hy,e⟩)
theorem DC (ok:d.Ok):qL C [v8 d.rss,.lst (d.cls.map Cl.pv),.at (.int d.last),.at (.int d.time)]=some (d.ob C):=by
 have hlim:lim=1000000:=rfl;have ten:=ok.ten;have glen:=ok.rin.len;have h4:=ok.h4;have cp:∀(s0 s2 s3 s4:MSlot),b8 [none] [0] (p5 (x8 1)) (v6 0) k7 (z5 zh (q9 (x9 0) x0)) [s0,.sh (v8 d.rss),s2,s3,s4]=some (v8 d.rss):=λs0 s2 s3 s4 =>
  qB m5 m5 d.rss rfl rfl (by omega) λr _=>⟨_,rfl,rfl⟩
 have dk:∀(s0 s1 s3 s4:MSlot),z5 jJ (q9 (b8 [none] [0] (p5 (x8 2)) (v6 0) k7 (i7 (q9 (z5 xj (q9 (x8 0) x0)) (q9 (x8 0) x0)))) x0) [s0,s1,.sh (.lst (d.cls.map Cl.pv)),s3,s4]=some (.fk (keysOf d.cls) (d.cls.map Cl.pv)):=λs0 s1 s3 s4=>by
  refine j7 (j4 (qB Cl.pv (λc=>PV.tup [.at (.str c.name),c.pv]) d.cls rfl rfl (by omega) λc _=>⟨_,rfl,xG (j4 (j7 rfl rfl) (j4 rfl rfl)) l2⟩) rfl) ?_;show (zG (d.cls.map λc=>PV.tup [.at (.str c.name),c.pv])).bind _=_;have k1:(d.cls.map λc=>((.inr c.name:z8),c.pv)).map (·.1)=keysOf d.cls:=by rw [yn];rfl
  have k2:(d.cls.map λc=>((.inr c.name:z8),c.pv)).map (·.2)=d.cls.map Cl.pv:=by rw [yn];rfl
  rw [QQ,yM,k1,k2];exact if_pos ⟨XU ok.nd,by rw [yZ];omega⟩
 have run:vd C [.ow (.ob C [] []),.sh (v8 d.rss),.sh (.lst (d.cls.map Cl.pv)),.sh (.at (.int d.last)),.sh (.at (.int d.time))]=some (.nx [.ow (d.ob C),.sh (v8 d.rss),.sh (.lst (d.cls.map Cl.pv)),.sh (.at (.int d.last)),.sh (.at (.int d.time))]) :=
  g0 (zd (j7 rfl (Jr ok.rin ok.h1 ok.h4)) rfl (by decide) (by decide)) (g0 (wj (j7 (j4 rfl (j4 rfl (j4 (vj rfl (by decide) rfl (vN ok)) rfl))) (Ue ok.l1 ok.l2 ok.t1)))
   (g0 (wj (j7 (j4 rfl (j4 (vj rfl (by decide) rfl (vN ok)) rfl)) (Jp ok.cl ok.nd ok.ten)))
   (g0 (zd (cp _ _ _ _) rfl (by decide) (by decide)) (g0 (zd (dk _ _ _ _) rfl (by decide) (by decide)) (g0 (zd (y:= .at (.int d.last)) (f:="last") (ns:=["least","given","held"]) (XC (k9 (v:=false) (y7 rfl rfl rfl)) rfl) rfl (by decide) (by decide)) (zd (y:= .at (.int d.time)) (f:="time") (ns:=["least","given","held","last"]) (xs:=[v8 d.low,v8 d.rss,.fk (keysOf d.cls) (d.cls.map Cl.pv),.at (.int d.last)]) rfl rfl (by decide) (by decide)))))))
 unfold qL vf;refine (if_pos rfl).trans ?_;show (vd C [.ow (.ob C [] []),.sh (v8 d.rss),.sh (.lst (d.cls.map Cl.pv)),.sh (.at (.int d.last)),.sh (.at (.int d.time))]).bind _=_;rw [run];rfl
end
def zj (C:Addr):Sp:=λvs H Q _=>∃(d:Dr)(Hs HR:Hp)(x dx:Addr)(v1:V)(a2:Addr),d.Ok/\vs=[.ref x,v1,.ref a2,.int d.last,.int d.time]/\Same Hs H/\H x=some (.ins C dx [])/\Hs x=none/\Same HR H/\(∀ b,HR b≠none->Hs b=none/\b≠x)/\Rep HR (v8 d.rss) v1/\HR a2≠none/\Top Hs H a2 (.lst (d.cls.map Cl.pv)) /\
 ∀ Hs' H',Same Hs Hs'->(∀ b o,H b=some o->b≠x->H' b=some o)->Same Hs' H'->(∀ b,H b≠none->b≠x->Hs b=none->Hs' b=none)->Rep Hs' (d.ob C) (.ref x)->Q .non H'
theorem GZ (h:zj C vs H Q E):vs.length=(["self","rinses","cloths","last","time"]:List Str).length:=by obtain ⟨d,Hs,HR,x,dx,v1,a2,_,rfl,_⟩:=h;rfl
theorem vG (rss:List (List Int)):v8 rss = .lst ((rss.map (List.map V.int)).map λl=> .lst (l.map .at)):=by
 unfold v8;rw [yn]
 congr 1
 refine List.map_congr_left λr _=>?_;show _=PV.lst ((r.map V.int).map .at);rw [yn];rfl
theorem Bh (F:FunD K "__init__" "Works.__init__" zI f fd)(Ae:Fn P w K mg base 4 "check_cloths" ["cloths","hues"] (v5 jF))(Ah:Fn P w K mg base 3 "check_start" ["last","time","hues"] (v5 zZ))(Af:Fn P w K mg base 4 "least_rinses" ["rinses"] (spZ jG))(Ag:Fn P w K mg base 1 "name_of" ["cloth"] (v5 xj))(A8:mg "dict"=none)(Ak:mg "list"=none)[qG K Aa][p8 K Aa "given"][p8 K Aa "held"][p8 K Aa "last"][p8 K Aa "least"][p8 K Aa "time"](Ad:Mt P w K mg base 1 Aa "hues" ["self"] (v5 (qK Aa))):FnOk P w K mg base v3 5 f fd ["self","rinses","cloths","last","time"] (zj Aa):=by
 refine F.ok (k:=4) YG (λvs H Q E h=>GZ h) (λcdv A outer s H vs Q E hr h=>⟨_,(j6 (zi (K:=K) rfl (pv 0) (fW Af hr (aW (pv 1))))
  (j6 (xI (fW Ah hr (aC (pv 3) (aC (pv 4) (aW (qD Ad hr (by decide) (pv 0)))))))
  (j6 (xI (fW Ae hr (aC (pv 2) (aW (qD Ad hr (by decide) (pv 0))))))
  (j6 (zi (K:=K) rfl (pv 0) (qp (N':=["row"]) (cap:=[none]) (o4 rfl rfl rfl) rfl (@qx _ K _ _ _ rfl (pv 1)) (λ_ _ _ _ _ _=>(m3 (i:=0) (by show (["row"]:List Str).Nodup;decide +kernel) rfl (Or.inl rfl))) (λ_ _ _ _ _ _=>qi) (λ_ _ _ _ _ _=>(jK (wa (K:=K) rfl) rfl Ak zP (aW (pv 0))))))
  (j6 (zi (K:=K) rfl (pv 0) (jK (VI (K:=K) rfl rfl) rfl A8 VE (aW (qp (N':=["cloth"]) (cap:=[none]) (o4 rfl rfl rfl) rfl (@qx _ K _ _ _ rfl (pv 2)) (λ_ _ _ _ _ _=>(m3 (i:=0) (by show (["cloth"]:List Str).Nodup;decide +kernel) rfl (Or.inl rfl))) (λ_ _ _ _ _ _=>qi) (λ_ _ _ _ _ _=>(@qZ _ _ _ _ _ (aC (fW Ag hr (aW (pv 0))) (aW (pv 0)))))))))
  (j6 (zi (K:=K) rfl (pv 0) (Zl (c8 (WP) (pv 3) QN (c4 _)) (vB vL z0) (pv 3)))
  (j8 (zi (K:=K) rfl (pv 0) (pv 4))))))))),?_⟩)
 obtain ⟨d,Hs,HR,x,dx,v1,a2,ok,rfl,sm,hx,hs,r1,r2,rv,ha2,t2,q⟩:=h;have hlim:lim=1000000:=rfl;have ten:=ok.ten;have glen:=ok.rin.len;have h4:=ok.h4;have L:Lent [x] Hs H HR:=⟨r1,λb hb=>⟨(r2 b hb).1,λz=>(r2 b hb).2 (yO.mp z)⟩⟩;have rd0:=Yw (N:=["self","rinses","cloths","last","time"]) (a:=x) (y:= .ob Aa [] []) (xs:=[.op λ_ v=>v=v1,.op λ_ v=>v = .ref a2,.at (.int d.last),.at (.int d.time)]) (ws:=[v1,.ref a2,.int d.last,.int d.time]) sm hs ⟨dx,[],hx,rfl,.nil⟩ (.cons (rep_op.mpr ⟨Hs,.refl _,rfl⟩) (.cons (rep_op.mpr ⟨Hs,.refl _,rfl⟩) (.cons (rep_at.mpr rfl) (.cons (rep_at.mpr rfl) .nil))));have cp:∀ (s0 s2 s3 s4:MSlot),b8 [none] [0] (p5 (x8 1)) (v6 0) k7 (z5 zh (q9 (x9 0) x0)) [s0,.sh (v8 d.rss),s2,s3,s4]=some (v8 d.rss):=λs0 s2 s3 s4 =>
  qB m5 m5 d.rss rfl rfl (by omega) λr _=>⟨_,rfl,rfl⟩
 have dk:∀(s0 s1 s3 s4:MSlot),z5 jJ (q9 (zR [none] [0] (p5 (x9 2)) (v6 0) k7 (i7 (q9 (z5 xj (q9 (x8 0) x0)) (q9 (x8 0) x0)))) x0) [s0,s1,.bo (.lst (d.cls.map Cl.pv)),s3,s4]=some (.fk (keysOf d.cls) (d.cls.map Cl.pv)):=λs0 s1 s3 s4=>by
  refine j7 (j4 (GD Cl.pv (λc=>PV.tup [.at (.str c.name),c.pv]) d.cls rfl rfl (by omega) λc _=>⟨_,rfl,xG (j4 (j7 rfl rfl) (j4 rfl rfl)) l2⟩) rfl) ?_;show (zG (d.cls.map λc=>PV.tup [.at (.str c.name),c.pv])).bind _=_;have k1:(d.cls.map λc=>((.inr c.name:z8),c.pv)).map (·.1)=keysOf d.cls:=by rw [yn];rfl
  have k2:(d.cls.map λc=>((.inr c.name:z8),c.pv)).map (·.2)=d.cls.map Cl.pv:=by rw [yn];rfl
  rw [QQ,yM,k1,k2];exact if_pos ⟨XU ok.nd,by rw [yZ];omega⟩
 have vl:=Jr ok.rin ok.h1 ok.h4;rw [show zB d.rss d.h=d.low from rfl,vG d.low] at vl;refine Wz (f:=z5 jG (q9 (x8 1) x0)) (i:=1) (x:=v8 d.rss) (ls:=d.low.map (List.map V.int)) L rd0 rfl rv (j7 rfl vl) rfl (by decide) (by decide) λHs1 H1 rd1 g1=>?_;rw [<- vG] at rd1;refine WB (b:=JA (wP (z5 zZ (q9 (x8 3) (q9 (x8 4) (q9 (zS Aa "hues" (qK Aa) 0 x0) x0)))))) (ε':=[.ow (.ob Aa ["least"] [v8 d.low]),.sh (.op λ_ v=>v=v1),.sh (.op λ_ v=>v = .ref a2),.sh (.at (.int d.last)),.sh (.at (.int d.time))]) rd1 ⟨_,j7 (j4 rfl (j4 rfl (j4 (vj rfl (by decide) rfl (vN ok)) rfl))) (Ue ok.l1 ok.l2 ok.t1),rfl⟩ λHs2 H2 σ2 rd2 g2=>?_;have tp:∀ {Hs' H':Hp} {σ':St} {ε':ME},RD [x] Hs H Hs' H' σ' ε'->Top Hs' H' a2 (.lst (d.cls.map Cl.pv)):=λrd=>t2.mono rd.s1 λo e=>rd.s2 _ _ e λz=>(L.out a2 ha2).2 z;have sl:∀ {Hs' H':Hp} {σ':St} {s0:MSlot},RD [x] Hs H Hs' H' σ' [s0,.sh (.op λ_ v=>v=v1),.sh (.op λ_ v=>v = .ref a2),.sh (.at (.int d.last)),.sh (.at (.int d.time))]->σ'[1]?=some (some v1)/\σ'[2]?=some (some (.ref a2)):=λrd=>by
  obtain ⟨w1,e1,c1⟩:=rd.sh 1 _ rfl;obtain ⟨_,_,rfl⟩:=rep_op.mp c1;obtain ⟨w2,e2,c2⟩:=rd.sh 2 _ rfl;obtain ⟨_,_,rfl⟩:=rep_op.mp c2;exact ⟨e1,e2⟩
 have rb:∀{Hs' H':Hp}{σ':St}{ε':ME},RD [x] Hs H Hs' H' σ' ε'->Rep (t6 Hs' HR) (.lst (d.cls.map Cl.pv)) (.ref a2):=λrd=>by
  obtain ⟨vs,hv,rvs⟩:=tp rd;refine rep_lst.mpr ⟨a2,vs,rfl,?_,rvs.mono (L.s1 rd)⟩;cases e:HR a2 with
  |none=>exact absurd e ha2
  |some o=>rw [ve e];have:=L.at rd _ _ e;rw [hv] at this;exact this.symm
 refine KM (f:=z5 jF (q9 (x8 2) (q9 (zS Aa "hues" (qK Aa) 0 x0) x0))) (i:=2) (x:= .lst (d.cls.map Cl.pv)) L rd2 (sl rd2).2 (rb rd2) (j7 (j4 rfl (j4 (vj rfl (by decide) rfl (vN ok)) rfl)) (Jp ok.cl ok.nd ok.ten)) λH3 rd3=>?_;refine Wz (f:=b8 [none] [0] (p5 (x8 1)) (v6 0) k7 (z5 zh (q9 (x9 0) x0))) (i:=1) (x:=v8 d.rss) (ls:=d.rss.map (List.map V.int)) L rd3 (sl rd3).1 rv ((cp _ _ _ _).trans (by rw [vG d.rss])) rfl (by decide) (by decide) λHs4 H4 rd4 g4=>?_;rw [<- vG] at rd4;refine KN (f:=z5 jJ (q9 (zR [none] [0] (p5 (x9 2)) (v6 0) k7 (i7 (q9 (z5 xj (q9 (x8 0) x0)) (q9 (x8 0) x0)))) x0)) (i:=2) (x:= .lst (d.cls.map Cl.pv)) L rd4 (sl rd4).2 ha2 (tp rd4) (dk _ _ _ _) rfl (by decide) (by decide) λHs5 H5 rd5 g5=>?_;refine WB (b:=Xj Aa "last" (wP (dIf (dT (z7 pIsN (x9 3) (dC .non))) (dUn vy (dC (.int 1))) (x8 3)))) (ε':=[.ow (.ob Aa ["least","given","held","last"] [v8 d.low,v8 d.rss,.fk (keysOf d.cls) (d.cls.map Cl.pv),.at (.int d.last)]),.sh (.op λ_ v=>v=v1),.sh (.op λ_ v=>v = .ref a2),.sh (.at (.int d.last)),.sh (.at (.int d.time))]) rd5 ⟨.at (.int d.last),XC (k9 (v:=false) (y7 rfl rfl rfl)) rfl,_,_,rfl,by decide,by decide,rfl⟩ λHs6 H6 σ6 rd6 g6=>?_;refine SemWS.h (w:=Xj Aa "time" (wP (x8 4))) (N:=λε=>ε=[.ow (d.ob Aa),.sh (.op λ_ v=>v=v1),.sh (.op λ_ v=>v = .ref a2),.sh (.at (.int d.last)),.sh (.at (.int d.time))]) (R:=λ_ _=>False) ⟨.at (.int d.time),rfl,_,_,rfl,by decide,by decide,rfl⟩ rd6 (λε7 σ7 Hs7 H7 e7 rd g7=>?_) λ_ _ _ _ _ _ z _ _ _=>z.elim;subst e7;obtain ⟨a,ha,_,n,tpx⟩:=rd.ow 0 _ rfl;rw [rd.pin x (yO.mpr rfl)] at ha;injection ha with ha;injection ha with ha;injection ha with ha;subst ha;obtain ⟨o,ho,ro⟩:=tpx.rep n;have g2:Same Hs7 (j3 Hs7 x o):=λb u e=>by rw [z9 (w9 e n)];exact e
 refine q (j3 Hs7 x o) H7 (rd.s1.trans g2) (λb u e hb=>rd.s2 b u e λw=>hb (yO.mp w)) (λb u e=>?_) (λb hb hbx w=>?_) ro
 ·by_cases hbx:b=x
  ·subst hbx;rw [u3] at e;cases e;exact ho
  ·rw [z9 hbx] at e;exact rd.s3 _ _ e
 ·rw [z9 hbx];exact rd.s4 b hb w
theorem Zf (F:FunD K "__init__" "Works.__init__" zI f fd)(Ae:Fn P w K mg base 4 "check_cloths" ["cloths","hues"] (v5 jF))(Ah:Fn P w K mg base 3 "check_start" ["last","time","hues"] (v5 zZ))(Af:Fn P w K mg base 4 "least_rinses" ["rinses"] (spZ jG))(Ag:Fn P w K mg base 1 "name_of" ["cloth"] (v5 xj))(A8:mg "dict"=none)(Ak:mg "list"=none)[qG K Aa][p8 K Aa "given"][p8 K Aa "held"][p8 K Aa "last"][p8 K Aa "least"][p8 K Aa "time"](Ad:Mt P w K mg base 1 Aa "hues" ["self"] (v5 (qK Aa))):FnOk P w K mg base v3 5 f fd ["self","rinses","cloths","last","time"] (xW (spI Aa (qL Aa)) (zj Aa)):=FnOk.or (Bg F Ae Ah Af Ag A8 Ak Ad) (Bh F Ae Ah Af Ag A8 Ak Ad)
abbrev ZV:Stmt:=top 49
abbrev Yr (K:Fg)(Aq:Addr)(Ac:Addr)(At:Addr)(Ai:Addr)(Aa:Addr):RM:=(rSeq (rP (qU 2 (b7 x0)))
  (rSeq (rTry K Ai [Ac] 3 (zv (m7 Aa "cloth" (zW Aa) (x8 0) (q9 (x8 1) x0))) (xX (Ut Aa "cloth" (vP Ac Aa) (x8 0) (q9 (x8 1) x0)))
   (λea c=>(qU 2 (b7 (q9 (z5 (pIsx K ea c) (q9 (x9 3) (q9 (dC (.ref Ac)) x0))) (q9 (z5 (pIsx K ea c) (q9 (x9 3) (q9 (dC (.ty "ValueError")) x0))) (q9 (z5 (QK K ea c) (q9 (x9 3) (q9 (i7 (q9 (dC (.ref Aq)) (q9 (dC (.ref At)) x0))) x0))) x0)))))))
  (rP (u7 (z7 pEq (x9 2) (b7 (q9 (dC (.bl true)) (q9 (dC (.bl true)) (q9 (dC (.bl false)) x0)))))))))
theorem sc_no_name:w5 ["works","name","kinds","e"] ["works","name"] (j5 ZV):=k6
open Classical in
noncomputable def jb (C:Addr):List PV->Option PV:=λxs=>if ∃(d:Dr)(s:Str),d.Ok/\s∉d.names/\xs=[d.ob C,.at (.str s)] then some (.at (.bl true)) else none
theorem DI {d:Dr}(ok:d.Ok)(h:s∉d.names):jb C [d.ob C,.at (.str s)]=some (.at (.bl true)):=if_pos ⟨d,s,ok,h,rfl⟩
theorem Kr {K:Fg}{ea:Addr}{b:Bool}(h0:ats xs=some vs)(h:wS vs=some ds)(i:PySem.W.kitAny K (.ref C) ds=some b):QK K ea C [.at (.ref ea),.tup xs]=some (.at (.bl b)):=by show (if ea=ea then _ else _)=_;rw [if_pos rfl,h0,yM,h,yM,i];rfl
theorem Ka {K:Fg}(e1:PySem.W.exmOne K (.ref Ac) (.ref Ai)=some true)(i1:PySem.W.kitOne K (.ref Ac) (.ref Ac)=some true)(i3:PySem.W.kitOne K (.ref Ac) (.type "ValueError")=some true)(i2:PySem.W.kitAny K (.ref Ac) [.ref Aq,.ref At]=some false):∀ xs y,jb Aa xs=some y->rFn 4 2 (Yr K Aq Ac At Ai Aa) xs y:=by
 intro xs y h;have hlim:lim=1000000:=rfl;unfold jb at h;split at h
 ·rename_i hx;obtain ⟨d,s,ok,hs,rfl⟩:=hx;cases h;refine ⟨rfl,.rt (.at (.bl true)),?_,rfl⟩;refine .inl ⟨_,rfl,.inl ⟨[.sh (d.ob Aa),.sh (.at (.str s)),.sh (.lst [.at (.bl true),.at (.bl true),.at (.bl false)]),.no],.inr ⟨Ac,yO.mpr rfl,e1,?_,λea=>⟨_,zT (x:= .lst [.at (.bl true),.at (.bl true),.at (.bl false)]) (xP (j4 (j7 rfl ?_) (j4 (j7 rfl ?_) (j4 (j7 (j4 rfl (j4 (xG (j4 rfl (j4 rfl rfl)) l2) rfl)) (Kr rfl rfl i2)) rfl))) l3),rfl⟩⟩,o5 (y7 rfl (xP rfl l3) (Pf ?_))⟩⟩
  ·exact ⟨_,_,_,rfl,by decide,rfl,DP hs⟩
  ·show (if ea=ea then _ else _)=_;rw [if_pos rfl];show Option.bind (some (Value.ref Ac)) _=_;rw [yM,i1];rfl
  ·show (if ea=ea then _ else _)=_;rw [if_pos rfl];show Option.bind (some (Value.type "ValueError")) _=_;rw [yM,i3];rfl
  ·intro y hy;have h:y = .at (.bl true)∨y = .at (.bl true)∨y = .at (.bl false):=by simpa using hy
   rcases h with rfl|rfl|rfl<;>rfl
 ·cases h
theorem BH (F:Fun K "_law_no_name" "_law_no_name" ZV f fd)(B6:mg "ValueError"=none)(Ab:mg "isinstance"=none)(Eg:mg "NoCloth"=some (.ref Aq))(B0:mg "NoName"=some (.ref Ac))(Es:mg "NoPlan"=some (.ref At))(B4:mg "RinseError"=some (.ref Ai))(B8:xB K Ac)(Au:Mx P w K mg base 1 Aa "cloth" ["self","name"] (jR [false,false] (zW Aa) (vP Ac Aa)))(Av:PySem.W.exmOne K (.ref Ac) (.ref Ai)=some true)(Ax:PySem.W.kitOne K (.ref Ac) (.ref Ac)=some true)(A6:PySem.W.kitOne K (.ref Ac) (.type "ValueError")=some true)(Ao:PySem.W.kitAny K (.ref Ac) [.ref Aq,.ref At]=some false):FnOk P w K mg base v3 2 f fd ["works","name"] (v5 (jb Aa)) :=
 okT (k:=1) (r:=Yr K Aq Ac At Ai Aa) F sc_no_name (Ka Av Ax A6 Ao) λcdv A outer s H E hr=>⟨_,(j6 (sW 2 sc_no_name.nd (@qq _ _ _ _ w6))
  (j6 (PU (K:=K) (cs:=[Ac]) (i:=3) rfl rfl rfl rfl rfl B4 sc_no_name.nd rfl rfl rfl (λE _ _ _ hp=>(PY (PX (Pu Au hr (by decide) hp (pv 0) (aW (pv 1))))))
   (λpn ea oe c hc hE hm=>(j8 (sW 2 sc_no_name.nd (@qq _ _ _ _ (aC (b9 (VJ (K:=K) rfl hm hc ((XE B8 XF) c hE)) rfl Ab qT (aC (pv 3) (aW (jM (v:= .ref Ac) rfl B0 rfl)))) (aC (b9 (VJ (K:=K) rfl hm hc ((XE B8 XF) c hE)) rfl Ab qT (aC (pv 3) (aW (xw (v:= .ty "ValueError") rfl B6 UP rfl)))) (aW (b9 (UX (K:=K) rfl hm hc ((XE B8 XF) c hE)) rfl Ab qT (aC (pv 3) (aW (@qZ _ _ _ _ _ (aC (jM (v:= .ref Aq) rfl Eg rfl) (aW (jM (v:= .ref At) rfl Es rfl)))))))))))))))
  (j8 (y6 (Zk (Zg (K:=K) (hu6 hr) rfl) (pv 2) (@qq _ _ _ _ (aC qw (aC qw (aW qw)))) (c4 _)))))),
  inferInstance⟩
abbrev ZW:Stmt:=top 50
noncomputable abbrev Vn (Aa:Addr):MS:=(u9 (qU 4 (z5 wC (q9 (b8 [none] [0] (p5 (x8 2)) (v6 0) k7 (z7 u5 (x9 0) (dC (.int 0)))) x0)))
  (u9 (m9 (n6 (p6 (c3 (z5 jc (q9 (m7 Aa "hues" (qK Aa) (x8 0) x0) x0)))) (n6 (dT (z7 o8 (m7 Aa "hues" (qK Aa) (x8 0) x0) (z7 xu (z5 qY (q9 (x9 1) x0)) (dC (.int 1))))) (dT (z7 o8 (m7 Aa "rinses" (zX Aa) (x8 0) x0) (x9 1))))) (u7 (dC (.bl false))) t9)
  (u9 (qU 5 (m7 Aa "start" (zY Aa) (x8 0) x0))
  (u9 (m9 (n6 (p6 (c3 (z5 m8 (q9 (x9 5) (q9 (dC (.ty "tuple")) x0))))) (n6 (dT (z7 o8 (x9 5) (x9 3))) (n6 (p6 (c3 (z5 jc (q9 (z7 u5 (x9 5) (dC (.int 0))) x0)))) (p6 (c3 (z5 jc (q9 (z7 u5 (x9 5) (dC (.int 1))) x0))))))) (u7 (dC (.bl false))) t9)
  (u9 (m9 (n6 (dT (z7 o8 (m7 Aa "names" (zE Aa) (x8 0) x0) (x9 4))) (p6 (c3 (z5 m8 (q9 (m7 Aa "names" (zE Aa) (x8 0) x0) (q9 (dC (.ty "list")) x0)))))) (u7 (dC (.bl false))) t9)
  (u9 (jx (p5 (x8 2)) (v6 6) (u9 (qU 7 (m7 Aa "cloth" (zW Aa) (x8 0) (q9 (z7 u5 (x9 6) (dC (.int 0))) x0)))
  (m9 (n6 (p6 (c3 (z5 m8 (q9 (x9 7) (q9 (dC (.ty "tuple")) x0))))) (n6 (dT (z7 o8 (x9 7) (x9 6))) (p6 (c3 (z5 jc (q9 (z7 u5 (x9 7) (dC (.int 1))) x0)))))) (u7 (dC (.bl false))) t9)))
  (u9 (jx (p5 (b7 (q9 (dC (.str "")) (q9 (dC (.str "a")) (q9 (dC (.str "abcdefghi")) (q9 (dC (.str "A")) (q9 (dC (.str "zz")) x0))))))) (v6 8) (m9 (zr (dT (z7 (pIn true) (x9 8) (x9 4))) (p6 (c3 (z5 (jb Aa) (q9 (x8 0) (q9 (x8 8) x0)))))) (u7 (dC (.bl false))) t9))
  (u7 (dC (.bl true))))))))))
noncomputable def jH (Aa:Addr):List PV->Option PV:=p0 9 4 (Vn Aa)
theorem sc_right:w5 ["works","rinses","cloths","start","names","told","cloth","found","name"] ["works","rinses","cloths","start"] (j5 ZW):=k6
theorem BI (F:Fun K "_law_right" "_law_right" ZW f fd)(Ei:Fn P w K mg base 2 "_law_no_name" ["works","name"] (v5 (jb Aa)))(D6:Fn P w K mg base 1 "_law_whole" ["found"] (v5 jc))(Ab:mg "isinstance"=none)(Al:mg "len"=none)(Ak:mg "list"=none)(B3:mg "sorted"=none)(B5:mg "tuple"=none)(Au:Mx P w K mg base 1 Aa "cloth" ["self","name"] (jR [false,false] (zW Aa) (vP Ac Aa)))(Ad:Mt P w K mg base 1 Aa "hues" ["self"] (v5 (qK Aa)))(An:Mt P w K mg base 1 Aa "names" ["self"] (spO (zE Aa)))(Ap:Mt P w K mg base 1 Aa "rinses" ["self"] (spZ (zX Aa)))(Ar:Mt P w K mg base 1 Aa "start" ["self"] (v5 (zY Aa))):FnOk P w K mg base v3 3 f fd ["works","rinses","cloths","start"] (v5 (jH Aa)) :=
 qh (k:=2) (b:=(Vn Aa)) F sc_right rfl λcdv A outer s H E hr=>⟨_,(j6 (sW 4 sc_right.nd (b9 (VM (K:=K) rfl rfl) rfl B3 VG (aW (qp (N':=["cloth"]) (cap:=[none]) (o4 rfl rfl rfl) rfl (@qx _ K _ _ _ rfl (pv 2)) (λ_ _ _ _ _ _=>(m3 (i:=0) (by show (["cloth"]:List Str).Nodup;decide +kernel) rfl (Or.inl rfl))) (λ_ _ _ _ _ _=>qi) (λ_ _ _ _ _ _=>(iW (K:=K) rfl (pv 0) z0))))))
  (j6 (c6 (PW.pt (qE (i9 (o9 (K:=K) rfl (fW D6 hr (aW (qD Ad hr (by decide) (pv 0)))) (λ_=>rfl))) (qE (c8 (xt (K:=K) (hu6 hr) rfl) (qD Ad hr (by decide) (pv 0)) (v7 (zg) (b9 (zp (K:=K) rfl) rfl Al PySem.boot_len (aW (pv 1))) z0) (c4 _)) (xU (c8 (xt (K:=K) (hu6 hr) rfl) (qD Ap hr (by decide) (pv 0)) (pv 1) (c4 _)))))) (j8 (y6 qw)) c7)
  (j6 (sW 5 sc_right.nd (qD Ar hr (by decide) (pv 0)))
  (j6 (c6 (PW.pt (qE (i9 (o9 (K:=K) rfl (b9 (xC (K:=K) rfl) rfl Ab qT (aC (pv 5) (aW (xw (v:= .ty "tuple") rfl B5 Xr rfl)))) (λ_=>rfl))) (qE (c8 (xt (K:=K) (hu6 hr) rfl) (pv 5) (pv 3) (c4 _)) (qE (i9 (o9 (K:=K) rfl (fW D6 hr (aW (iW (K:=K) rfl (pv 5) z0))) (λ_=>rfl))) (xU (i9 (o9 (K:=K) rfl (fW D6 hr (aW (iW (K:=K) rfl (pv 5) z0))) (λ_=>rfl)))))))) (j8 (y6 qw)) c7)
  (j6 (c6 (PW.pt (qE (c8 (xt (K:=K) (hu6 hr) rfl) (qD An hr (by decide) (pv 0)) (pv 4) (c4 _)) (xU (i9 (o9 (K:=K) rfl (b9 (xC (K:=K) rfl) rfl Ab qT (aC (qD An hr (by decide) (pv 0)) (aW (xw (v:= .ty "list") rfl Ak zP rfl)))) (λ_=>rfl)))))) (j8 (y6 qw)) c7)
  (j6 (ji PassesOwn.never rfl (@qx _ K _ _ _ rfl (pv 2)) (gW 6 sc_right.nd)
   (j6 (sW 7 sc_right.nd (pe_mx Au hr (by decide) Ph (pv 0) (aW (iW (K:=K) rfl (pv 6) z0))))
  (j8 (c6 (PW.pt (qE (i9 (o9 (K:=K) rfl (b9 (xC (K:=K) rfl) rfl Ab qT (aC (pv 7) (aW (xw (v:= .ty "tuple") rfl B5 Xr rfl)))) (λ_=>rfl))) (qE (c8 (xt (K:=K) (hu6 hr) rfl) (pv 7) (pv 6) (c4 _)) (xU (i9 (o9 (K:=K) rfl (fW D6 hr (aW (iW (K:=K) rfl (pv 7) z0))) (λ_=>rfl))))))) (j8 (y6 qw)) c7))))
  (j6 (@ji _ _ _ _ _ _ _ _ PassesOwn.never rfl (@qx _ K _ _ _ rfl (@qq _ _ _ _ (aC xx (aC xx (aC xx (aC xx (aW xx))))))) (gW 8 sc_right.nd)
   (j8 (c6 (PW.pt (QT (c8 (WR (K:=K) rfl) (pv 8) (pv 4) (by with_unfolding_all rfl)) (QU (i9 (o9 (K:=K) rfl (fW Ei hr (aC (pv 0) (aW (pv 8)))) (λ_=>rfl)))))) (j8 (y6 qw)) c7)) (by intro _;rfl))
  (j8 (y6 qw))))))))),
  inferInstance⟩
section
variable {C:Addr}{d:Dr}
theorem Xk {z:Int}:jc [.at (.int z)]=some (.at (.bl true)):=qJ rfl (o5 (vi (j7 rfl Wo) (Wi (v:=false) (j7 rfl Wp))))
theorem Ug (ok:d.Ok):jH C [d.ob C,v8 d.rss,.lst (d.cls.map Cl.pv),.tup [.at (.int d.last),.at (.int d.time)]]=some (.at (.bl true)):=by
 have hlim:lim=1000000:=rfl;have ten:=ok.ten;have glen:=ok.rin.len;have so:wC [.lst (u6 (d.cls.map Cl.name))]=some (.lst (u6 (qF d.names))):=by show (jS (u6 (d.cls.map Cl.name))).bind _=_;rw [Dj,yM,if_pos (by rw [yZ];omega)];rfl
 have cm:b8 [none] [0] (p5 (x8 2)) (v6 0) k7 (z7 u5 (x9 0) (dC (.int 0))) [.sh (d.ob C),.sh (v8 d.rss),.sh (.lst (d.cls.map Cl.pv)),.sh (.tup [.at (.int d.last),.at (.int d.time)]),.no,.no,.no,.no,.no]=some (.lst (u6 (d.cls.map Cl.name))):=by refine (qB Cl.pv (λc=>PV.at (.str c.name)) d.cls rfl rfl (by omega) λc _=>⟨_,rfl,y7 rfl rfl rfl⟩).trans ?_;unfold u6;rw [yn];rfl
 have hl:xu (.at (.int ((d.rss.map m5).length:Int))) (.at (.int 1))=some (.at (.int (d.h:Int))):=by show some (PV.at (.int (((d.rss.map m5).length:Int)-1)))=_;rw [yZ,glen,show ((d.h+1:Nat):Int)-1=(d.h:Int) by omega]
 have pt:xT 6 (.tup [.at (.int d.last),.at (.int d.time)]):=by
  intro y hy;have h:y = .at (.int d.last)∨y = .at (.int d.time):=by simpa using hy
  rcases h with rfl|rfl<;>rfl
 have nes:∀ n:Int,o8 (.at (.int n)) (.at (.int n))=some (.at (.bl false)):=λn=>by rw [Bd,ym rfl];rfl
 obtain ⟨_,l1,_,s6,s7,rfl⟩:=wq (g:=v6 6) (f:=u9 (qU 7 (m7 C "cloth" (zW C) (x8 0) (q9 (z7 u5 (x9 6) (dC (.int 0))) x0))) (m9 (n6 (p6 (c3 (z5 m8 (q9 (x9 7) (q9 (dC (.ty "tuple")) x0))))) (n6 (dT (z7 o8 (x9 7) (x9 6))) (p6 (c3 (z5 jc (q9 (z7 u5 (x9 7) (dC (.int 1))) x0)))))) (u7 (dC (.bl false))) t9)) Cl.pv
  (λl ε=>(∀ c∈l,c∈d.cls)/\∃ s6 s7:MSlot,ε=[.sh (d.ob C),.sh (v8 d.rss),.sh (.lst (d.cls.map Cl.pv)),.sh (.tup [.at (.int d.last),.at (.int d.time)]),.sh (.lst (u6 (qF d.names))),.sh (.tup [.at (.int d.last),.at (.int d.time)]),s6,s7,.no])
  (λc l ε h=>by
   obtain ⟨hc,s6,s7,rfl⟩:=h;refine ⟨_,_,rfl,g0 (zT (xi rfl (by decide) (j4 (y7 rfl rfl rfl) rfl) (DA ok (hc c yV)))) (qf (qA (n5 (i6 (j7 rfl XQ))) (qA (k9 (v:=false) (y7 rfl rfl (zF (PJ c)))) (n5 (i6 (j7 (j4 (y7 rfl rfl rfl) rfl) Xk))))) qg),λe he=>hc e (yW _ he),_,_,rfl⟩) d.cls [.sh (d.ob C),.sh (v8 d.rss),.sh (.lst (d.cls.map Cl.pv)),.sh (.tup [.at (.int d.last),.at (.int d.time)]),.sh (.lst (u6 (qF d.names))),.sh (.tup [.at (.int d.last),.at (.int d.time)]),.no,.no,.no] ⟨λ_ h=>h,_,_,rfl⟩
 obtain ⟨_,l2,s8,rfl⟩:=wq (g:=v6 8) (f:=m9 (zr (dT (z7 (pIn true) (x9 8) (x9 4))) (p6 (c3 (z5 (jb C) (q9 (x8 0) (q9 (x8 8) x0)))))) (u7 (dC (.bl false))) t9) (λs:Str=>PV.at (.str s))
  (λl ε=>∃ s8:MSlot,ε=[.sh (d.ob C),.sh (v8 d.rss),.sh (.lst (d.cls.map Cl.pv)),.sh (.tup [.at (.int d.last),.at (.int d.time)]),.sh (.lst (u6 (qF d.names))),.sh (.tup [.at (.int d.last),.at (.int d.time)]),s6,s7,s8])
  (λs l ε h=>by
   obtain ⟨s8,rfl⟩:=h;refine ⟨_,[.sh (d.ob C),.sh (v8 d.rss),.sh (.lst (d.cls.map Cl.pv)),.sh (.tup [.at (.int d.last),.at (.int d.time)]),.sh (.lst (u6 (qF d.names))),.sh (.tup [.at (.int d.last),.at (.int d.time)]),s6,s7,.sh (.at (.str s))],rfl,qf ?_ qg,_,rfl⟩;have c1:dT (z7 (pIn true) (x9 8) (x9 4)) [.sh (d.ob C),.sh (v8 d.rss),.sh (.lst (d.cls.map Cl.pv)),.sh (.tup [.at (.int d.last),.at (.int d.time)]),.sh (.lst (u6 (qF d.names))),.sh (.tup [.at (.int d.last),.at (.int d.time)]),s6,s7,.sh (.at (.str s))]=some (!decide (s∈qF d.names)):=k9 (y7 rfl rfl (Qt true s _));by_cases hs:s∈qF d.names
   ·rw [ym hs] at c1;exact VX c1
   ·rw [yI hs] at c1;exact Xy c1 (n5 (i6 (j7 rfl (DI ok λz=>hs ((Xa _).mem_iff.mpr z)))))) ["","a","abcdefghi","A","zz"] [.sh (d.ob C),.sh (v8 d.rss),.sh (.lst (d.cls.map Cl.pv)),.sh (.tup [.at (.int d.last),.at (.int d.time)]),.sh (.lst (u6 (qF d.names))),.sh (.tup [.at (.int d.last),.at (.int d.time)]),s6,s7,.no] ⟨_,rfl⟩
 refine qJ rfl (g0 (zT (j7 (j4 cm rfl) so)) (g0 (qf (qA (n5 (i6 (j7 (j4 (xi rfl (by decide) rfl (Jq ok)) rfl) Xk))) (qA (k9 (v:=false) (y7 (xi rfl (by decide) rfl (Jq ok)) (y7 (j7 rfl rfl) rfl hl) (nes _))) (k9 (v:=false) (y7 (xi rfl (by decide) rfl (Js ok)) rfl (zF (PK _)))))) qg) (g0 (zT (xi rfl (by decide) rfl Jt))
  (g0 (qf (qA (n5 (i6 (j7 rfl XQ))) (qA (k9 (v:=false) (y7 rfl rfl (zF pt))) (qA (n5 (i6 (j7 (j4 (y7 rfl rfl rfl) rfl) Xk))) (n5 (i6 (j7 (j4 (y7 rfl rfl rfl) rfl) Xk)))))) qg)
  (g0 (qf (qA (k9 (v:=false) (y7 (xi rfl (by decide) rfl (Xe ok)) rfl (zF Yb))) (n5 (i6 (j7 (j4 (xi rfl (by decide) rfl (Xe ok)) (j4 rfl rfl)) XN)))) qg)
  (g0 (Qo (xs:=d.cls.map Cl.pv) rfl l1) (g0 (Qo (xs:=(["","a","abcdefghi","A","zz"]:List Str).map λs=>PV.at (.str s)) (XD (xP rfl l5)) l2) rfl)))))))
theorem Uf (ok:d.Ok)(hl:d.last=-1):qL C [v8 d.rss,.lst (d.cls.map Cl.pv),.at .non,.at (.int d.time)]=some (d.ob C):=by
 have hlim:lim=1000000:=rfl;have ten:=ok.ten;have glen:=ok.rin.len;have h4:=ok.h4;have cp:∀(s0 s2 s3 s4:MSlot),b8 [none] [0] (p5 (x8 1)) (v6 0) k7 (z5 zh (q9 (x9 0) x0)) [s0,.sh (v8 d.rss),s2,s3,s4]=some (v8 d.rss):=λs0 s2 s3 s4 =>
  qB m5 m5 d.rss rfl rfl (by omega) λr _=>⟨_,rfl,rfl⟩
 have dk:∀(s0 s1 s3 s4:MSlot),z5 jJ (q9 (b8 [none] [0] (p5 (x8 2)) (v6 0) k7 (i7 (q9 (z5 xj (q9 (x8 0) x0)) (q9 (x8 0) x0)))) x0) [s0,s1,.sh (.lst (d.cls.map Cl.pv)),s3,s4]=some (.fk (keysOf d.cls) (d.cls.map Cl.pv)):=λs0 s1 s3 s4=>by
  refine j7 (j4 (qB Cl.pv (λc=>PV.tup [.at (.str c.name),c.pv]) d.cls rfl rfl (by omega) λc _=>⟨_,rfl,xG (j4 (j7 rfl rfl) (j4 rfl rfl)) l2⟩) rfl) ?_;show (zG (d.cls.map λc=>PV.tup [.at (.str c.name),c.pv])).bind _=_;have k1:(d.cls.map λc=>((.inr c.name:z8),c.pv)).map (·.1)=keysOf d.cls:=by rw [yn];rfl
  have k2:(d.cls.map λc=>((.inr c.name:z8),c.pv)).map (·.2)=d.cls.map Cl.pv:=by rw [yn];rfl
  rw [QQ,yM,k1,k2];exact if_pos ⟨XU ok.nd,by rw [yZ];omega⟩
 have cs:zZ [.at .non,.at (.int d.time),.at (.int d.h)]=some (.at .non):=by refine Qm rfl (g0 (qf (VX (k9 (v:=false) (y7 rfl rfl rfl))) qg) (qf (n5 (i6 (j7 rfl (vM ok.t1)))) qg))
 have run:vd C [.ow (.ob C [] []),.sh (v8 d.rss),.sh (.lst (d.cls.map Cl.pv)),.sh (.at .non),.sh (.at (.int d.time))]=some (.nx [.ow (d.ob C),.sh (v8 d.rss),.sh (.lst (d.cls.map Cl.pv)),.sh (.at .non),.sh (.at (.int d.time))]):=by
  unfold Dr.ob;rw [hl];exact g0 (zd (j7 rfl (Jr ok.rin ok.h1 ok.h4)) rfl (by decide) (by decide)) (g0 (wj (j7 (j4 rfl (j4 rfl (j4 (vj rfl (by decide) rfl (vN ok)) rfl))) cs))
   (g0 (wj (j7 (j4 rfl (j4 (vj rfl (by decide) rfl (vN ok)) rfl)) (Jp ok.cl ok.nd ok.ten)))
   (g0 (zd (cp _ _ _ _) rfl (by decide) (by decide)) (g0 (zd (dk _ _ _ _) rfl (by decide) (by decide)) (g0 (zd (y:= .at (.int (-1))) (f:="last") (ns:=["least","given","held"]) rfl rfl (by decide) (by decide)) (zd (y:= .at (.int d.time)) (f:="time") (ns:=["least","given","held","last"]) (xs:=[v8 d.low,v8 d.rss,.fk (keysOf d.cls) (d.cls.map Cl.pv),.at (.int (-1))]) rfl rfl (by decide) (by decide)))))))
 unfold qL vf;refine (if_pos rfl).trans ?_;show (vd C [.ow (.ob C [] []),.sh (v8 d.rss),.sh (.lst (d.cls.map Cl.pv)),.sh (.at .non),.sh (.at (.int d.time))]).bind _=_;rw [run];rfl
end
def Uq (C:Addr)(h w o:Nat)(f1 f2:M)(as:MA)(c:MB)(f4:M):WS:=λε N _=>∃(d:Dr)(y4:PV),d.Ok/\f1 ε=some (v8 d.rss)/\f2 ε=some (.lst (d.cls.map Cl.pv))/\(∀ a:Addr,as (ε.set h (.sh (.at (.ref a))))=some [.at (.int d.last),.at (.int d.time)]) /\
 (∀ a:Addr,c (((ε.set h (.sh (.at (.ref a)))).set w (.sh (d.ob C))).set h (.sh (.lst [v8 d.rss,.lst (d.cls.map Cl.pv)])))=some false)/\(∀ a:Addr,f4 ((ε.set h (.sh (.at (.ref a)))).set w (.sh (d.ob C)))=some y4)/\h<ε.length/\h≠w/\h≠o /\
 ∀ a:Addr,N (((ε.set h (.sh (.at (.ref a)))).set w (.sh (d.ob C))).set o (.sh y4))
theorem Zh {i:Nat}{x:PV}{j:Nat}(q:(ε.set i (.sh x))[j]?=some (.ow y)):i≠j/\ε[j]?=some (.ow y):=by
 rcases xO j _ q with ⟨_,e⟩|h
 ·cases e
 ·exact h
instance (priority:=2000){K:Fg}{w o:Nat}{te1 te2 te4:TE}{ta:TA}{tt:TT}{tr u:TS}{f1 f2 f4:M}{c:MB}{r:WS}{v9:V}[sz:SemZE te1 f1][so:qI te2 f2][sa:i5 ta as][sc:qc tt c][s4:SemE te4 f4][sr:SemWS u r]:SemWS (tSeq (xy (tLst (qt te1 (qt te2 xl))) (qm (h+1))) (tSeq (xy (zJ C (xW (spI C m) (zj C)) [] E (qt (tOp (rIx K) (qu (h+1)) (tC (.int 0))) (qt (tOp (rIx K) (qu (h+1)) (tC (.int 1))) ta))) (qm (w+1))) (tSeq (wN tt tr Xb) (tSeq (xy te4 (qm (o+1))) (tSeq (qN (tBM K "list" QV (tOp (rIx K) (tOp (rIx K) (qu (h+1)) (tC (.int 0))) (tC (.int 0))) (qt (tC v9) xl))) (tSeq (qN (vJ K "list" rPop (tOp (rIx K) (qu (h+1)) (tC (.int 0))))) (tSeq (qN (vJ K "list" QW (tOp (rIx K) (qu (h+1)) (tC (.int 1))))) u))))))) (wSeq (Uq C (h+1) (w+1) (o+1) f1 f2 as c f4) r) where
 h:=λ{ε N R} hh S Hs0 H0 Hs H U rd D k rt=>by
  obtain ⟨d,y4,ok,e1,e2,eas,ec,e4,hl,hw,ho,hN⟩:=hh;have hlim:lim=1000000:=rfl;have e1':f1 ε=some (.lst ((d.rss.map (List.map V.int)).map λl=> .lst (l.map .at))):=by rw [e1,vG]
  refine sz.h e1' rd.rs λa1 ps Hs1 H1 x1 d1 ez=>so.h e2 (rd.go x1).rs λa2 Hs2 H2 x2 na2 ns2 t2=>⟨(by show 2<=sizeLine;decide),λp hp=>?_⟩;obtain ⟨vs2,hv2,rv2⟩:=t2;have d2:Deep H Hs2 H2 a1 ps:=d1.go x2;have x3:Ext Hs2 H2 Hs2 (j3 H2 p (.lst [.ref a1,.ref a2])):= .newO x2.s3 hp;have hp3:j3 H2 p (.lst [.ref a1,.ref a2]) p=some (.lst [.ref a1,.ref a2]):=u3;have l1:∀ b∈a1::ps.map (·.1),H1 b≠none:=d1.live;have l2:∀ b∈a1::ps.map (·.1),H2 b≠none:=d2.live;have n2:a2∉a1::ps.map (·.1):=λz=>l1 a2 z na2;have np:p∉a1::ps.map (·.1):=λz=>l2 p z hp;have p2:p≠a2:=λz=>by rw [z,hv2] at hp;cases hp
  generalize j3 H2 p (.lst [.ref a1,.ref a2])=H3 at x3 hp3 ⊢;have d3:=d2.go x3;have hv3:=x3.s2 _ _ hv2;have xA:Ext Hs H Hs2 H3:=(x1.trans x2).trans x3;have frH:∀ b∈p::a2::a1::ps.map (·.1),H b=none/\Hs2 b=none/\H3 b≠none:=λb hb=>by
   rcases yK.mp hb with rfl|hb
   ·exact ⟨(x1.trans x2).s2.free hp,x2.s3.free hp,by rw [hp3];exact λz=>nomatch z⟩
   ·rcases yK.mp hb with rfl|hb
    ·exact ⟨x1.s2.free na2,ns2,by rw [hv3];exact λz=>nomatch z⟩
    ·exact ⟨(d2.new b hb).1,(d2.new b hb).2,d3.live b hb⟩
  open Classical in
  let HR:Hp:=λb=>if b∈p::a2::a1::ps.map (·.1) then H3 b else none
  have hin:∀ b∈p::a2::a1::ps.map (·.1),HR b=H3 b:=λb hb=>if_pos hb;have hout:∀ b,HR b≠none->b∈p::a2::a1::ps.map (·.1):=λb hb=>Classical.byContradiction λz=>hb (if_neg z)
  clear_value HR
  have own0:∀(i:Nat)(x:PV)(a:Addr),ε[i]?=some (.ow x)->U[i]?=some (some (.ref a))->a∉p::a2::a1::ps.map (·.1):=λi x a hi ha z=>by
   obtain ⟨b,hb,_,_,tb⟩:=rd.ow i x hi;rw [ha] at hb;injection hb with hb;injection hb with hb;injection hb with hb;subst hb;exact tb.there (frH a z).1
  have rd3:=(rd.go xA).put (i:=h) (x:= .at (.ref p)) (v:= .ref p) (rep_at.mpr rfl);have hσ1:(U.set (h+1) (some (V.ref p)))[h+1]?=some (some (.ref p)):=uP (by rw [rd.len];exact hl);refine ⟨_,hσ1,.inl ⟨p,_,0,.ref a1,rfl,rfl,SqL.of hp3,xn (j:=0) rfl,⟨_,hσ1,.inl ⟨p,_,1,.ref a2,rfl,rfl,SqL.of hp3,xn (j:=1) rfl,sa.h (eas p) rd3.rs λvs Hs4 H4 x4 r4=>?_⟩⟩⟩⟩;have evs:vs=[.int d.last,.int d.time]:=Reps.ats (us:=[.int d.last,.int d.time]) r4;subst evs;intro x dx hx hdx hne;have keep:∀ b u,H4 b=some u->j3 (j3 H4 dx (.own x)) x (.ins C dx []) b=some u:=λb u e=>by rw [z9 (w9 e hx),z9 (w9 e hdx)];exact e
  have h4:∀ b∈p::a2::a1::ps.map (·.1),H4 b=H3 b:=λb hb=>by
   cases q:H3 b with
   |none=>exact absurd q (frH b hb).2.2
   |some u=>exact x4.s2 _ _ q
  have un4:∀ b∈p::a2::a1::ps.map (·.1),Hs4 b=none:=λb hb=>x4.s4 b (frH b hb).2.2 (frH b hb).2.1;have m1:∀ b∈a1::ps.map (·.1),b∈p::a2::a1::ps.map (·.1):=λb hb=>yW _ (yW _ hb);have mp:p∈p::a2::a1::ps.map (·.1):=yV;have m2:a2∈p::a2::a1::ps.map (·.1):=yW _ yV;have repR:Rep HR (v8 d.rss) (.ref a1):=by rw [vG];exact d3.repIn (λb hb=>hin b (m1 b hb)) ez
  refine .inr ⟨d,Hs4,HR,x,dx,.ref a1,a2,ok,rfl,λb u e=>keep b u (x4.s3 _ _ e),u3,x4.s3.free hx,λb u e=>?_,λb hb=>?_,repR,by rw [hin a2 m2];exact (frH a2 m2).2.2,⟨vs2,keep _ _ (x4.s2 _ _ hv3),rv2.mono x4.s1⟩,λHs' H' g1 g2 g3 g4 rob=>⟨rfl,?_⟩⟩
  ·have hb:=hout b (by rw [e];exact λz=>nomatch z);rw [hin b hb] at e;exact keep b u (x4.s2 _ _ e)
  ·have hb':=hout b hb;exact ⟨un4 b hb',λz=>by rw [z] at hb';exact absurd hx (by rw [h4 x hb'];exact (frH x hb').2.2)⟩
  have x5:Ext Hs4 H4 Hs' H':=by refine ⟨g1,λb u e=>g2 b u (keep b u e) (w9 e hx),g3,λb hb z=>?_⟩;have hbx:b≠x:=λq=>hb (by rw [q];exact hx);have hbd:b≠dx:=λq=>hb (by rw [q];exact hdx);exact g4 b (by rw [z9 hbx,z9 hbd];exact hb) hbx z
  have rd5:=((rd3.go x4).go x5).put (i:=w) (x:=d.ob C) (v:= .ref x) rob;have h5:∀ b∈p::a2::a1::ps.map (·.1),H' b=H3 b:=λb hb=>by
   cases q:H3 b with
   |none=>exact absurd q (frH b hb).2.2
   |some u=>exact x5.s2 _ _ (x4.s2 _ _ q)
  have un5:∀ b∈p::a2::a1::ps.map (·.1),Hs' b=none:=λb hb=>x5.s4 b (by rw [h4 b hb];exact (frH b hb).2.2) (un4 b hb);have own5:∀(i:Nat)(y:PV)(a:Addr),((ε.set (h+1) (.sh (.at (.ref p)))).set (w+1) (.sh (d.ob C)))[i]?=some (.ow y)->((U.set (h+1) (some (V.ref p))).set (w+1) (some (V.ref x)))[i]?=some (some (.ref a))->a∉p::a2::a1::ps.map (·.1):=λi y a hi ha=>by
   obtain ⟨n1,hi⟩:=Zh hi;obtain ⟨n2,hi⟩:=Zh hi;rw [yH n1,yH n2] at ha;exact own0 i y a hi ha
  have L5:LentA Hs' H' HR ((U.set (h+1) (some (V.ref p))).set (w+1) (some (V.ref x))) ((ε.set (h+1) (.sh (.at (.ref p)))).set (w+1) (.sh (d.ob C))):=by
   refine ⟨λb u e=>?_,λb hb=>un5 b (hout b hb),λi y a hi ha=>?_⟩
   ·have hb:=hout b (by rw [e];exact λz=>nomatch z);rw [hin b hb] at e;rw [h5 b hb];exact e
   ·cases q:HR a with
    |none=>rfl
    |some u=>exact absurd (hout a (by rw [q];exact λz=>nomatch z)) (own5 i y a hi ha)
  have hσ2:((U.set (h+1) (some (V.ref p))).set (w+1) (some (V.ref x)))[h+1]?=some (some (.ref p)):=by rw [yH (Ne.symm hw)];exact hσ1
  have s5:Same Hs' (t6 Hs' HR):=λb u e=>by
   cases q:HR b with
   |none=>rw [ju q];exact e
   |some v=>rw [un5 b (hout b (by rw [q];exact λz=>nomatch z))] at e;cases e
  have repP:Rep (t6 Hs' HR) (.lst [v8 d.rss,.lst (d.cls.map Cl.pv)]) (.ref p):=rep_lst.mpr ⟨p,[.ref a1,.ref a2],rfl,ve (by rw [hin p mp];exact hp3),.cons (repR.mono Lent.s3) (.one (rep_lst.mpr ⟨a2,vs2,rfl,ve (by rw [hin a2 m2];exact hv3),((rv2.mono x4.s1).mono g1).mono s5⟩))⟩;refine sc.h (ec p) (L5.test rd5 hσ2 repP) λHs6 H6 x6=>qV ?_;have rd6:=rd5.go (Hs':=Hs') (H':=H6) ⟨.refl _,x6.s2,g3.trans x6.s2,λ_ _ z=>z⟩;refine s4.h (e4 p) rd6.rs λv4 Hs7 H7 x7 r7=>?_;have rd7:=(rd6.go x7).put (i:=o) (x:=y4) (v:=v4) r7;have h7:∀ b∈p::a2::a1::ps.map (·.1),H7 b=H3 b:=λb hb=>by
   cases q:H3 b with
   |none=>exact absurd q (frH b hb).2.2
   |some u=>exact x7.s2 _ _ (x6.s2 _ _ (by rw [h5 b hb];exact q))
  have un7:∀ b∈p::a2::a1::ps.map (·.1),Hs7 b=none:=λb hb=>x7.s4 b (vH x6.s2 (by rw [h5 b hb];exact (frH b hb).2.2)) (un5 b hb);have hσ3:(((U.set (h+1) (some (V.ref p))).set (w+1) (some (V.ref x))).set (o+1) (some v4))[h+1]?=some (some (.ref p)):=by rw [yH (Ne.symm ho)];exact hσ2
  have own7:∀ b∈p::a2::a1::ps.map (·.1),∀(i:Nat)(y:PV),(((ε.set (h+1) (.sh (.at (.ref p)))).set (w+1) (.sh (d.ob C))).set (o+1) (.sh y4))[i]?=some (.ow y)->(((U.set (h+1) (some (V.ref p))).set (w+1) (some (V.ref x))).set (o+1) (some v4))[i]?≠some (some (.ref b)):=λb hb i y hi ha=>by
   obtain ⟨n1,hi⟩:=Zh hi;rw [yH n1] at ha;exact own5 i y b hi ha hb
  have junk:∀ b∈p::a2::a1::ps.map (·.1),H0 b=none/\b∉S:=λb hb=>⟨rd.free0 (frH b hb).1,λz=>rd.live b z (frH b hb).1⟩;cases ps with
  |nil=>have:=congrArg List.length ez;rw [yZ,yZ,ok.rin.len] at this;cases this
  |cons q ps =>
   have mq:q.1∈p::a2::a1::(q::ps).map (·.1):=m1 _ (yW _ yV);have ma:a1∈p::a2::a1::(q::ps).map (·.1):=m1 _ yV;have aq:a1≠q.1:=λz=>(yu.mp d1.nd).1 (z▸yV);have pq:p≠q.1:=λz=>np (z▸yW _ yV);have pa:p≠a1:=λz=>np (z▸yV);have a2q:a2≠q.1:=λz=>n2 (z▸yW _ yV);have a2a:a2≠a1:=λz=>n2 (z▸yV);obtain ⟨l0,el0,hl0⟩:∃ l:List PV,q.2 = .lst l/\l.length<=lim:=by
    have mm:q.2∈(d.rss.map (List.map V.int)).map (λl=>PV.lst (l.map .at)):=by rw [ez];exact ye yV
    obtain ⟨l,hl',e⟩:=yr.mp mm;obtain ⟨rr,hr,rfl⟩:=yr.mp hl';refine ⟨_,e.symm,?_⟩;have:=(ok.rin.row rr hr).1;have:=ok.h4;rw [yZ,yZ];omega
   have tq:=d3.each q yV;rw [el0] at tq;obtain ⟨vs0,hv0,rv0⟩:=tq;have hp7:H7 p=some (.lst [.ref a1,.ref a2]):=by rw [h7 p mp];exact hp3
   have ha7:H7 a1=some (.lst ((q::ps).map λp=>V.ref p.1)):=by rw [h7 a1 ma];exact d3.top
   have hq7:H7 q.1=some (.lst vs0):=by rw [h7 q.1 mq];exact hv0
   have h27:H7 a2=some (.lst vs2):=by rw [h7 a2 m2];exact hv3
   refine ⟨_,hσ3,.inl ⟨p,_,0,.ref a1,rfl,rfl,SqL.of hp7,xn (j:=0) rfl,.inl ⟨a1,_,0,.ref q.1,rfl,rfl,SqL.of ha7,xn (j:=0) rfl,.inl ⟨rfl,vs0,SqL.of hq7⟩,q.1,vs0,v9,rfl,rfl,hq7,Qw (by rw [rv0.length];exact hl0),?_⟩⟩⟩;have rd8:=rd7.junk (o:= .lst (vs0++[v9])) (junk q.1 mq).1 (un7 q.1 mq) (junk q.1 mq).2 (own7 q.1 mq);have hp8:j3 H7 q.1 (.lst (vs0++[v9])) p=some (.lst [.ref a1,.ref a2]):=by rw [z9 pq];exact hp7
   have ha8:j3 H7 q.1 (.lst (vs0++[v9])) a1=some (.lst ((q::ps).map λp=>V.ref p.1)):=by rw [z9 aq];exact ha7
   have h28:j3 H7 q.1 (.lst (vs0++[v9])) a2=some (.lst vs2):=by rw [z9 a2q];exact h27
   generalize j3 H7 q.1 (.lst (vs0++[v9]))=H8 at rd8 hp8 ha8 h28;have hlast:∃ y,((q::ps).map λp=>V.ref p.1)[((q::ps).map λp=>V.ref p.1).length-1]?=some y:=⟨_,yw (by rw [yZ,yx];omega)⟩;obtain ⟨yl,hyl⟩:=hlast;refine ⟨_,hσ3,.inl ⟨p,_,0,.ref a1,rfl,rfl,SqL.of hp8,xn (j:=0) rfl,.inl ⟨rfl,_,SqL.of ha8⟩,a1,_,yl,rfl,rfl,ha8,hyl,?_⟩⟩;have rd9:=rd8.junk (o:= .lst ((q::ps).map λp=>V.ref p.1).dropLast) (junk a1 ma).1 (un7 a1 ma) (junk a1 ma).2 (own7 a1 ma);have hp9:j3 H8 a1 (.lst ((q::ps).map λp=>V.ref p.1).dropLast) p=some (.lst [.ref a1,.ref a2]):=by rw [z9 pa];exact hp8
   have h29:j3 H8 a1 (.lst ((q::ps).map λp=>V.ref p.1).dropLast) a2=some (.lst vs2):=by rw [z9 a2a];exact h28
   generalize j3 H8 a1 (.lst ((q::ps).map λp=>V.ref p.1).dropLast)=H9 at rd9 hp9 h29;refine ⟨_,hσ3,.inl ⟨p,_,1,.ref a2,rfl,rfl,SqL.of hp9,xn (j:=1) rfl,.inl ⟨rfl,vs2,SqL.of h29⟩,a2,vs2,rfl,rfl,h29,?_⟩⟩;have rd10:=rd9.junk (o:= .lst []) (junk a2 m2).1 (un7 a2 m2) (junk a2 m2).2 (own7 a2 m2);have gs:Same Hs Hs7:=xA.s1.trans (x4.s1.trans (g1.trans x7.s1));exact sr.h (hN p) rd10 (λε2 σ2 Hs2 H2 h2 rd2 g2=>k ε2 σ2 Hs2 H2 h2 rd2 (gs.trans g2)) λy ε2 σ2 v Hs2 H2 h2 rd2 g2 rv=>rt y ε2 σ2 v Hs2 H2 h2 rd2 (gs.trans g2) rv
abbrev jQ:Stmt:=top 51
abbrev Vg (K:Fg)(Aa:Addr):WS:=(wSeq (wAsg (zD 4 (qC (v6 1) (qC (v6 2) (qC (v6 3) (qC (v6 4) zC))))) (Up (wI K) vW (qO (wP (x8 0)) (qO (wP (dC (.int 10))) jq))))
  (wSeq (Uq Aa 5 6 7 (b8 [none] [0] (p5 (x8 1)) (v6 0) k7 (z5 zh (q9 (x9 0) x0))) (z5 zh (q9 (x9 2) x0)) (q9 (x8 3) (q9 (x8 4) x0)) (n6 (dT (z7 o8 (x9 5) (b7 (q9 (x8 1) (q9 (x8 2) x0))))) (p6 (c3 (z5 (jH Aa) (q9 (x8 6) (q9 (x8 1) (q9 (x8 2) (q9 (i7 (q9 (x8 3) (q9 (x8 4) x0))) x0)))))))) (zu (qL Aa) [.non,.int 0] (q9 (b7 (q9 (b7 (q9 (dC (.int 1)) (q9 (dC (.int 2)) x0))) (q9 (b7 (q9 (dC (.int 3)) (q9 (dC (.int 4)) x0))) (q9 (b7 (q9 (dC (.int 5)) (q9 (dC (.int 6)) x0))) x0)))) (q9 (b7 (q9 (i7 (q9 (dC (.str "a")) (q9 (dC (.int 1)) (q9 (dC (.int 2)) (q9 (dC (.int 3)) (q9 (dC (.int 4)) x0)))))) x0)) x0))))
  (wSeq (JB (m7 Aa "rinses" (zX Aa) (x8 6) x0))
  (wSeq (wU (m7 Aa "rinses" (zX Aa) (x8 6) x0))
  (wSeq (wU (m7 Aa "names" (zE Aa) (x8 6) x0))
  (wSeq (qP (wPT (n6 (dT (z7 o8 (m7 Aa "start" (zY Aa) (x8 7) x0) (i7 (q9 (dUn vy (dC (.int 1))) (q9 (dC (.int 0)) x0))))) (n6 (dT (z7 o8 (m7 Aa "names" (zE Aa) (x8 7) x0) (b7 (q9 (dC (.str "a")) x0)))) (dT (z7 o8 (m7 Aa "hues" (qK Aa) (x8 7) x0) (dC (.int 2))))))) (xf (wP (dC (.bl false)))) xm)
  (wSeq (qP (wPT (p6 (c3 (z5 (jH Aa) (q9 (x8 6) (q9 (x8 1) (q9 (x8 2) (q9 (i7 (q9 (x8 3) (q9 (x8 4) x0))) x0)))))))) (xf (wP (dC (.bl false)))) xm)
  (wSeq (qP (wPT (dT (z7 o8 (m7 Aa "start" (zY Aa) (z5 (qL Aa) (q9 (x8 1) (q9 (x8 2) (q9 (dC .non) (q9 (x8 4) x0))))) x0) (i7 (q9 (dUn vy (dC (.int 1))) (q9 (x8 4) x0)))))) (xf (wP (dC (.bl false)))) xm)
  (xf (wP (z5 (jH Aa) (q9 (zu (qL Aa) [.int 0] (q9 (x8 1) (q9 (x8 2) (q9 (x8 3) x0)))) (q9 (x8 1) (q9 (x8 2) (q9 (i7 (q9 (x8 3) (q9 (dC (.int 0)) x0))) x0)))))))))))))))
theorem sc_law:w5 ["script","rinses","cloths","last","time","handed","works","other"] ["script"] (j5 jQ):=k6
def dA:Dr:=⟨2,[[1,2],[3,4],[5,6]],[⟨"a",1,2,3,4⟩],-1,0⟩
theorem Xx:dA.Ok:=by
 have b:=vQ;refine ⟨by decide,by decide,⟨rfl,λr hr=>?_⟩,by decide,λc hc=>?_,by decide +kernel,by decide,by decide,by decide,by show (0:Int)<60*j9;omega⟩
 ·have h:r=[1,2]∨r=[3,4]∨r=[5,6]:=by simpa [dA] using hr
  rcases h with rfl|rfl|rfl<;>exact ⟨rfl,λv hv=>(by simp at hv;omega)⟩
 ·have h:c=⟨"a",1,2,3,4⟩:=by simpa [dA] using hc
  subst h;refine ⟨⟨?_,?_,?_⟩,by show 1<2;decide,?_,?_,?_,?_,?_,?_⟩
  ·intro c hc;have e:("a":Str).cps.toList=[97]:=by decide +kernel
   have hc':c∈("a":Str).cps.toList:=hc;rw [e] at hc';have:c=97:=by simpa using hc'
   omega
  ·show 1<=("a":Str).length;decide +kernel
  ·show ("a":Str).length<=8;decide +kernel
  ·show (1:Int)<=2;omega
  ·show (2:Int)<=j9;omega
  ·show -j9<=(3:Int);omega
  ·show (3:Int)<=j9;omega
  ·show (1:Int)<=4;omega
  ·show (4:Int)<=j9;omega
theorem Kh {K:Fg}:∀ ns:List Int,ns.length<=63->Vg K Aa (.sh (scr K ns)::List.replicate ((["script","rinses","cloths","last","time","handed","works","other"]:List Str).length-1) .no) (λ_=>False) λy _=>y = .at (.bl true):=by
 intro ns h63;have hlim:lim=1000000:=rfl;have big:=vQ;refine ⟨_,rfl,_,rfl,⟨ns,10,rfl,h63,by decide⟩,?_⟩;rintro _ ⟨d,rfl,ok,ht,s0,m0,e0,hm⟩;have ten:=ok.ten;have glen:=ok.rin.len;have h4:=ok.h4;have pt:∀ a b:Int,xT 6 (.tup [.at (.int a),.at (.int b)]):=λa b y hy=>by
  have h:y = .at (.int a)∨y = .at (.int b):=by simpa using hy
  rcases h with rfl|rfl<;>rfl
 have p2:xT 6 (.lst [v8 d.rss,.lst (d.cls.map Cl.pv)]):=λx hx=>by
  have h:x=v8 d.rss∨x = .lst (d.cls.map Cl.pv):=by simpa using hx
  rcases h with rfl|rfl
  ·intro y hy;obtain ⟨r,_,rfl⟩:=yr.mp hy;intro z hz;obtain ⟨n,_,rfl⟩:=yr.mp hz;rfl
  ·intro y hy;obtain ⟨c,_,rfl⟩:=yr.mp hy;intro y hy;have h:y = .at (.str c.name)∨y = .at (.int (c.hue:Int))∨y = .at (.int c.len)∨y = .at (.int c.due)∨y = .at (.int c.wt):=by simpa using hy
   rcases h with rfl|rfl|rfl|rfl|rfl<;>rfl
 have vr:=Ug (C:=Aa) ok;have vA:=Uf (C:=Aa) Xx rfl;have eA:∀ ε:ME,zu (qL Aa) [.non,.int 0] (q9 (b7 (q9 (b7 (q9 (dC (.int 1)) (q9 (dC (.int 2)) x0))) (q9 (b7 (q9 (dC (.int 3)) (q9 (dC (.int 4)) x0))) (q9 (b7 (q9 (dC (.int 5)) (q9 (dC (.int 6)) x0))) x0)))) (q9 (b7 (q9 (i7 (q9 (dC (.str "a")) (q9 (dC (.int 1)) (q9 (dC (.int 2)) (q9 (dC (.int 3)) (q9 (dC (.int 4)) x0)))))) x0)) x0)) ε=some (dA.ob Aa):=λε=>by
  have ea:(q9 (b7 (q9 (b7 (q9 (dC (.int 1)) (q9 (dC (.int 2)) x0))) (q9 (b7 (q9 (dC (.int 3)) (q9 (dC (.int 4)) x0))) (q9 (b7 (q9 (dC (.int 5)) (q9 (dC (.int 6)) x0))) x0)))) (q9 (b7 (q9 (i7 (q9 (dC (.str "a")) (q9 (dC (.int 1)) (q9 (dC (.int 2)) (q9 (dC (.int 3)) (q9 (dC (.int 4)) x0)))))) x0)) x0)) ε=some [v8 dA.rss,.lst (dA.cls.map Cl.pv)] :=
   j4 (xP (j4 (xP rfl l2) (j4 (xP rfl l2) (j4 (xP rfl l2) rfl))) l3) (j4 (xP (j4 (xG rfl l5) rfl) l1) rfl)
  unfold zu;rw [ea];exact vA
 refine ⟨_,rfl,d,dA.ob Aa,ok,qB m5 m5 d.rss rfl rfl (by omega) λr _=>⟨_,rfl,rfl⟩,rfl,λ_=>rfl,λ_=>qA (k9 (v:=false) (y7 rfl (xP rfl l2) (zF p2))) (n5 (i6 (j7 (j4 rfl (j4 rfl (j4 rfl (j4 (xG rfl l2) rfl)))) vr))),λ_=>eA _,by show 5<8;decide,by decide,by decide,λa=>?_⟩;obtain ⟨r0,rr,er⟩:∃ r0 rr,d.rss=r0::rr:=by
  cases e:d.rss with
  |nil=>rw [e] at glen;cases glen
  |cons r0 rr=>exact ⟨r0,rr,rfl⟩
 refine ⟨_,_,(xi rfl (by decide) rfl (Js ok)).trans (by rw [er];rfl),?_⟩;refine ⟨_,xi rfl (by decide) rfl (Js ok),by rw [yZ];omega,?_⟩;refine ⟨_,xi rfl (by decide) rfl (Xe ok),by rw [Jk,(Xa _).length_eq];unfold Dr.names;rw [yZ];omega,?_⟩;refine jT (qA (k9 (v:=false) (y7 (xi rfl (by decide) rfl Jt) (xG (j4 (Wj rfl rfl) (j4 rfl rfl)) l2) (zF (pt _ _)))) (qA (k9 (v:=false) (y7 (xi rfl (by decide) rfl (Xe Xx)) (xP rfl l1) ?_)) (k9 (v:=false) (y7 (xi rfl (by decide) rfl (Jq Xx)) rfl rfl)))) ?_
 ·have:qF dA.names=(["a"]:List Str):=by have h:=Xa dA.names;exact List.perm_singleton.mp h
  rw [this];exact zF Yb
 refine jT (n5 (i6 (j7 (j4 rfl (j4 rfl (j4 rfl (j4 (xG rfl l2) rfl)))) vr))) ?_;have okN:(⟨d.h,d.rss,d.cls,-1,d.time⟩:Dr).Ok:=⟨ok.h1,ok.h4,ok.rin,ok.ten,ok.cl,ok.nd,by show (-1:Int)<=-1;omega,by have:=ok.h1;show (-1:Int)<(d.h:Int);omega,ok.t1,ok.t2⟩;have ok0:(⟨d.h,d.rss,d.cls,d.last,0⟩:Dr).Ok:=⟨ok.h1,ok.h4,ok.rin,ok.ten,ok.cl,ok.nd,ok.l1,ok.l2,by show (0:Int)<=0;omega,by show (0:Int)<60*j9;omega⟩;refine jT (k9 (v:=false) (y7 (xi (j7 (j4 rfl (j4 rfl (j4 rfl (j4 rfl rfl)))) (Uf (d:=⟨d.h,d.rss,d.cls,-1,d.time⟩) okN rfl)) (by decide) rfl Jt) (xG (j4 (Wj rfl rfl) (j4 rfl rfl)) l2) (zF (pt _ _)))) ?_;refine ⟨_,j7 (j4 (x:=(⟨d.h,d.rss,d.cls,d.last,0⟩:Dr).ob Aa) ?_ (j4 rfl (j4 rfl (j4 (xG rfl l2) rfl)))) (Ug ok0),rfl⟩;exact DC ok0
theorem Bz (F:Fun K "law" "law" jQ f fd)(Ed:Fn P w K mg base 3 "_law_right" ["works","rinses","cloths","start"] (v5 (jH Aa)))(E7:Fn P w K mg base 4 "_law_works" ["script","most"] (spV (wI K) vW))(Ak:mg "list"=none)(D7:mg "Works"=some (.ref Aa))(Ad:Mt P w K mg base 1 Aa "hues" ["self"] (v5 (qK Aa)))(An:Mt P w K mg base 1 Aa "names" ["self"] (spO (zE Aa)))(Ap:Mt P w K mg base 1 Aa "rinses" ["self"] (spZ (zX Aa)))(Ar:Mt P w K mg base 1 Aa "start" ["self"] (v5 (zY Aa)))(El:Mkr P w K mg base 5 Aa ["self","rinses","cloths","last","time"] (xW (spI Aa (qL Aa)) (zj Aa)))(D9:vS P w K mg base 5 Aa ["self","rinses","cloths","last","time"] [.int 0] (xW (spI Aa (qL Aa)) (zj Aa)))(D8:vS P w K mg base 5 Aa ["self","rinses","cloths","last","time"] [.non,.int 0] (xW (spI Aa (qL Aa)) (zj Aa))):FnOk P w K mg base v3 7 f fd ["script"] (wM K) :=
 okL (k:=6) (b:=Vg K Aa) F sc_law (λcdv A outer s H E hr=>⟨_,(j6 (Yd (fW E7 hr (aC (pv 0) (aW z0))) (Zp (K:=K) (n:=4) rfl rfl (jf (gW 1 sc_law.nd) (jf (gW 2 sc_law.nd) (jf (gW 3 sc_law.nd) (jf (gW 4 sc_law.nd) Zq))))))
  (j6 (sW 5 sc_law.nd (@qq _ _ _ _ (aC (qp (N':=["row"]) (cap:=[none]) (o4 rfl rfl rfl) rfl (@qx _ K _ _ _ rfl (pv 1)) (λ_ _ _ _ _ _=>(m3 (i:=0) (by show (["row"]:List Str).Nodup;decide +kernel) rfl (Or.inl rfl))) (λ_ _ _ _ _ _=>qi) (λ_ _ _ _ _ _=>(jK (wa (K:=K) rfl) rfl Ak zP (aW (pv 0))))) (aW (jK (wa (K:=K) rfl) rfl Ak zP (aW (pv 2)))))))
  (j6 (sW 6 sc_law.nd (WX El hr (by decide) rfl D7 (aC (iW (K:=K) rfl (pv 5) z0) (aC (iW (K:=K) rfl (pv 5) z0) (aC (pv 3) (aW (pv 4)))))))
  (j6 (c6 (PW.pt (qE (c8 (xt (K:=K) (hu6 hr) rfl) (pv 5) (@qq _ _ _ _ (aC (pv 1) (aW (pv 2)))) (c4 _)) (xU (i9 (o9 (K:=K) rfl (fW Ed hr (aC (pv 6) (aC (pv 1) (aC (pv 2) (aW (@qZ _ _ _ _ _ (aC (pv 3) (aW (pv 4))))))))) (λ_=>rfl)))))) (j8 (y6 qw)) c7)
  (j6 (sW 7 sc_law.nd (WY D8 hr (by decide) rfl D7 (aC (@qq _ _ _ _ (aC (@qq _ _ _ _ (aC z0 (aW z0))) (aC (@qq _ _ _ _ (aC z0 (aW z0))) (aW (@qq _ _ _ _ (aC z0 (aW z0))))))) (aW (@qq _ _ _ _ (aW (@qZ _ _ _ _ _ (aC xx (aC z0 (aC z0 (aC z0 (aW z0))))))))))))
  (j6 (xI (Zj (K:=K) rfl PySem.F.plainAttrs_list PySem.F.slot_list_append PySem.F.type_list_append Zc (iW (K:=K) rfl (iW (K:=K) rfl (pv 5) z0) z0) (j0 z0 w6)))
  (j6 (xI (QL (K:=K) rfl PySem.F.plainAttrs_list PySem.F.slot_list_pop PySem.F.type_list_pop Bb (iW (K:=K) rfl (pv 5) z0)))
  (j6 (xI (QL (K:=K) rfl PySem.F.plainAttrs_list PySem.F.slot_list_clear PySem.F.type_list_clear Zd (iW (K:=K) rfl (pv 5) z0)))
  (j6 (xI (QL (K:=K) rfl PySem.F.plainAttrs_list PySem.F.slot_list_clear PySem.F.type_list_clear Zd (iW (K:=K) rfl (qD Ap hr (by decide) (pv 6)) z0)))
  (j6 (xI (QL (K:=K) rfl PySem.F.plainAttrs_list PySem.F.slot_list_clear PySem.F.type_list_clear Zd (qD Ap hr (by decide) (pv 6))))
  (j6 (xI (Zj (K:=K) rfl PySem.F.plainAttrs_list PySem.F.slot_list_append PySem.F.type_list_append Zc (qD An hr (by decide) (pv 6)) (j0 xx w6)))
  (j6 (c6 (PW.pt (qE (c8 (xt (K:=K) (hu6 hr) rfl) (qD Ar hr (by decide) (pv 7)) (@qZ _ _ _ _ _ (aC (vB vL z0) (aW z0))) (c4 _)) (qE (c8 (xt (K:=K) (hu6 hr) rfl) (qD An hr (by decide) (pv 7)) (@qq _ _ _ _ (aW xx)) (c4 _)) (xU (c8 (xt (K:=K) (hu6 hr) rfl) (qD Ad hr (by decide) (pv 7)) z0 (c4 _)))))) (j8 (y6 qw)) c7)
  (j6 (c6 (i9 (o9 (K:=K) rfl (fW Ed hr (aC (pv 6) (aC (pv 1) (aC (pv 2) (aW (@qZ _ _ _ _ _ (aC (pv 3) (aW (pv 4))))))))) (λ_=>rfl))) (j8 (y6 qw)) c7)
  (j6 (c6 (c8 (xt (K:=K) (hu6 hr) rfl) (qD Ar hr (by decide) (WX El hr (by decide) rfl D7 (aC (pv 1) (aC (pv 2) (aC QN (aW (pv 4))))))) (@qZ _ _ _ _ _ (aC (vB vL z0) (aW (pv 4)))) (c4 _)) (j8 (y6 qw)) c7)
  (j8 (y6 (fW Ed hr (aC (WY D9 hr (by decide) rfl D7 (aC (pv 1) (aC (pv 2) (aW (pv 3))))) (aC (pv 1) (aC (pv 2) (aW (@qZ _ _ _ _ _ (aC (pv 3) (aW z0)))))))))))))))))))))))),
  (by repeat' first|infer_instance|(refine @Mi.instSemWSTSeqWSeq _ _ _ _ ?_ ?_)|(apply @Mi.instSemWSTForWForOfSemWIOfSemWG))⟩) Kh
theorem Gs {K:Fg}(h:PySem.W.hasDictIn K C=true):(PySem.W.clsIn K C).isSome=true:=by
 unfold PySem.W.hasDictIn at h;cases e:PySem.W.clsIn K C with
 |none=>rw [e] at h;cases h
 |some cd=>rfl
theorem UK {K:Fg}{fd:FuncData}{T:Addr}{ob:Obj}(hd:fd.defaults = .ref T)(q:K.lookup T=some ob)(hs:ob.data = .seq items n)(h:∀ us:List Value,us.length=ps.length->∃ k:Option (Array Value)->Sem (List (Str×Value)),bindArgs fd ⟨us,[]⟩=seqItems? fd.defaults >>= k/\k (some items)=pure (ps.zip us)):Binds K fd ps []:=λs us X hl=>by
 rw [yB] at hl ⊢;obtain ⟨k,e1,e2⟩:=h us hl;exact BindsTo.of_defaults hd (X _ _ q) hs e1 e2
theorem VA {K:Fg}{fd:FuncData}{T:Addr}{ob:Obj}(m:Nat)(hd:fd.defaults = .ref T)(q:K.lookup T=some ob)(hs:ob.data = .seq items n)(hm:ps.length=m+ds.length)(h:∀ us:List Value,us.length=m->∃ k:Option (Array Value)->Sem (List (Str×Value)),bindArgs fd ⟨us,[]⟩=seqItems? fd.defaults >>= k/\k (some items)=pure (ps.zip (us++ds))):Binds K fd ps ds:=λs us X hl=>by
 rw [yF] at hl;obtain ⟨k,e1,e2⟩:=h us (by omega);exact BindsTo.of_defaults hd (X _ _ q) hs e1 e2
abbrev so (f:Addr):Option (Option Value):=some (some (.ref f))
abbrev fO (oc:Value)(od:Option Addr)(x q:Str)(st:Stmt)(dV kV dc pm:Value)(an:Option Addr)(cd ct:Value)(sl:Array (Option Value)):Option Obj:=some ⟨oc,od,.func (PySem.W.fnOf x q (xN st) (i0 st) (j5 st) dV kV dc pm an cd ct),sl⟩
structure Zt (P:Program)(w:World)(K:Fg)(mg:Str->Option Value)(base h:Heap):Prop where
 X:K.In h
 G:h.Ns mainGlobals mg
def FG (K:Fg)(x:Str)(st:Stmt):Prop:=∃ f oc od kV dc pm an cd ct sl,PySem.W.nsIn K mainGlobals x=so f/\K.lookup f=fO oc od x x st .none kV dc pm an cd ct sl/\PySem.W.codeIn K cd x=true/\PySem.W.keepIn K (.ref f)=true
theorem FG.i {K:Fg}{f:Addr}{kV:Value}(a:PySem.W.nsIn K mainGlobals x=so f)(l:K.lookup f=fO oc od x x st .none kV dc pm an cd ct sl)(c:PySem.W.codeIn K cd x=true)(k:PySem.W.keepIn K (.ref f)=true):FG K x st:=⟨_,_,_,_,_,_,_,_,_,_,a,l,c,k⟩
def FM (K:Fg)(C:Addr)(x q:Str)(st:Stmt):Prop:=∃ f oc od kV dc pm an cd ct sl,PySem.W.findIn K (.ref C) x=so f/\PySem.W.isFn K (.ref f)=true/\K.lookup f=fO oc od x q st .none kV dc pm an cd ct sl/\PySem.W.codeIn K cd q=true/\PySem.W.keepIn K (.ref f)=true
theorem FM.i {K:Fg}{q:Str}{f:Addr}{kV:Value}(a:PySem.W.findIn K (.ref C) x=so f)(i:PySem.W.isFn K (.ref f)=true)(l:K.lookup f=fO oc od x q st .none kV dc pm an cd ct sl)(c:PySem.W.codeIn K cd q=true)(k:PySem.W.keepIn K (.ref f)=true):FM K C x q st:=⟨_,_,_,_,_,_,_,_,_,_,a,i,l,c,k⟩
abbrev BdA (x q:Str)(st:Stmt)(ps:List Str):Prop:=∀(kV doc pm:Value)(an:Option Addr)(cdv ct:Value)(us:List Value),us.length=ps.length->bindArgs (PySem.W.fnOf x q (xN st) (i0 st) (j5 st) .none kV doc pm an cdv ct) ⟨us,[]⟩=pure (ps.zip us)
section
variable {P:Program}{w:World}{K:Fg}{mg:Str->Option Value}{base h:Heap}{k:Nat}{ps:List Str}{sp:Sp}{x q:Str}{st:Stmt}{C:Addr}
theorem fG (Z:Zt P w K mg base h)(a:FG K x st)(H:∀{f fd},Fun K x x st f fd->FnOk P w K mg base v3 k f fd ps sp)(b:BdA x x st ps:=by intro _ _ _ _ _ _ us hl;first|exact (match us,hl with|[_],_=>rfl)|exact (match us,hl with|[_,_],_=>rfl)|exact (match us,hl with|[_,_,_],_=>rfl)|exact (match us,hl with|[_,_,_,_],_=>rfl)|exact (match us,hl with|[_,_,_,_,_],_=>rfl)):Fn P w K mg base k x ps sp:=by obtain ⟨f,oc,od,kV,dc,pm,an,cd,ct,sl,a,l,c,kp⟩:=a;exact ⟨f,_,H (jz l c kp),PySem.W.mg_of Z.X Z.G a,kp,(jz l c kp).binds b⟩
theorem fM (Z:Zt P w K mg base h)(kc:qG K C)(a:FM K C x q st)(H:∀{f fd},Fun K x q st f fd->FnOk P w K mg base v3 k f fd ps sp)(b:BdA x q st ps:=by intro _ _ _ _ _ _ us hl;first|exact (match us,hl with|[_],_=>rfl)|exact (match us,hl with|[_,_],_=>rfl)|exact (match us,hl with|[_,_,_],_=>rfl)|exact (match us,hl with|[_,_,_,_],_=>rfl)|exact (match us,hl with|[_,_,_,_,_],_=>rfl)):Mt P w K mg base k C x ps sp:=by obtain ⟨f,oc,od,kV,dc,pm,an,cd,ct,sl,a,i,l,c,kp⟩:=a;exact ⟨f,_,H (jz l c kp),⟨a,i,kp⟩,kc.c,(jz l c kp).binds b⟩
theorem fMX (Z:Zt P w K mg base h)(kc:qG K C)(a:FM K C x q st)(H:∀{f fd},Fun K x q st f fd->FnOk P w K mg base (CX1 P w) k f fd ps sp)(b:BdA x q st ps:=by intro _ _ _ _ _ _ us hl;first|exact (match us,hl with|[_],_=>rfl)|exact (match us,hl with|[_,_],_=>rfl)|exact (match us,hl with|[_,_,_],_=>rfl)|exact (match us,hl with|[_,_,_,_],_=>rfl)|exact (match us,hl with|[_,_,_,_,_],_=>rfl)):Mx P w K mg base k C x ps sp:=by obtain ⟨f,oc,od,kV,dc,pm,an,cd,ct,sl,a,i,l,c,kp⟩:=a;exact ⟨f,_,H (jz l c kp),⟨a,i,kp⟩,kc.c,(jz l c kp).binds b⟩
end
theorem all_mk {w:World}{K:Fg}{h:Heap}{mg:Str->Option Value}{fa f33 f37:Addr}{od33 od37 an33 an37:Option Addr}{sl33 sl37:Array (Option Value)}{oc33 oc37 kV33 kV37 dc33 dc37 pm33 pm37 ct33 ct37 cd33 cd37:Value}{T33:Addr}{qc33 :Value}{qd33:Option Addr}{qn33:Nat}{qs33:Array (Option Value)}{tq33_1:Tok}(X:K.In h)(TT:∀ P∈[],h.get? P=some (PySem.W.tabObj #[]))(hTB:TABS=[])(G:h.Ns mainGlobals mg)(hfa:mg "law"=some (.ref fa))(Iq:W.nsIn K mainGlobals "NoCloth"=some (some (.ref Aq)))(Ir:W.nsIn K mainGlobals "NoName"=some (some (.ref Ac)))(Iu:W.nsIn K mainGlobals "NoPlan"=some (some (.ref At)))(E6:W.nsIn K mainGlobals "RinseError"=some (some (.ref Ai)))(Nb:W.nsIn K mainGlobals "Works"=some (some (.ref Aa)))(J0:PySem.W.plainGet K Aa Str.empty=true)(Iy:PySem.W.hasDictIn K Aa=true)(Ix:PySem.W.plainOver K Aa=true)(J2:W.findIn K (.ref Aa) "__setattr__"=some (some (.builtin "object.__setattr__")))(Ep:PySem.W.makesIn K Aa=true)(En:W.keepIn K (.ref Aa)=true)(Ey:W.findIn K (.ref Aa) "given"=some none)(E3:W.findIn K (.ref Aa) "held"=some none)(E5:W.findIn K (.ref Aa) "last"=some none)(Ez:W.findIn K (.ref Aa) "least"=some none)(Ib:W.findIn K (.ref Aa) "time"=some none)(a0:FG K "_law_mixed" ZS)(a1:FG K "_law_take" Jb)(a2:FG K "_law_stream" QZ)(a3:FG K "_law_rinse" ZX)(a4:FG K "_law_rinses" ZY)(a5:FG K "_law_name" ZT)(a6:FG K "_law_cloth" ZF)(a7:FG K "_law_works" Jf)(a8:FG K "is_whole" ZM)(a9:FG K "name_of" ZU)(a10:FG K "hue_of" ZH)(a11:FG K "length_of" ZQ)(a12:FG K "due_of" ZG)(a13:FG K "weight_of" Jd)(a14:FG K "is_from" ZJ)(a15:FG K "is_name" ZK)(a16:FG K "is_cloth" ZI)(a17:FG K "is_rinse_row" ZL)(a18:FG K "check_rinses" ZD)(a19:FG K "straight_ways" ZZ)(a20:FG K "joined" ZN)(a21:FG K "lesser" ZR)(a22:FG K "ways_through" Jc)(a23:FG K "least_ways" ZP)(a24:FG K "sums_of" Ja)(a25:FG K "least_rinses" ZO)(a26:FG K "check_start" ZE)(a27:FG K "check_cloths" ZC)(a28:FM K Aa "hues" "Works.hues" Zy)(a29:FM K Aa "start" "Works.start" ZB)(a30:FM K Aa "names" "Works.names" Zz)(a31:FM K Aa "rinses" "Works.rinses" ZA)(a32:FM K Aa "cloth" "Works.cloth" Zx)(a33:W.findIn K (.ref Aa) "__init__"=so f33)(i33:W.isFn K (.ref f33)=true)(l33:K.lookup f33=fO oc33 od33 "__init__" "Works.__init__" zI (.ref T33) kV33 dc33 pm33 an33 cd33 ct33 sl33)(c33:W.codeIn K cd33 "Works.__init__"=true)(k33:W.keepIn K (.ref f33)=true)(q33:K.lookup T33=some ⟨qc33,qd33,.seq #[.none,(.int 0 tq33_1)] qn33,qs33⟩)(a34:FG K "_law_whole" Je)(a35:FG K "_law_no_name" ZV)(a36:FG K "_law_right" ZW)(a37:W.nsIn K mainGlobals "law"=so f37)(l37:K.lookup f37=fO oc37 od37 "law" "law" jQ .none kV37 dc37 pm37 an37 cd37 ct37 sl37)(c37:W.codeIn K cd37 "law"=true)(k37:W.keepIn K (.ref f37)=true)(E4:W.nsIn K mainGlobals "ValueError"=some none)(Nm:W.nsIn K mainGlobals "all"=some none)(Nd:W.nsIn K mainGlobals "bool"=some none)(Nf:W.nsIn K mainGlobals "dict"=some none)(Ih:W.nsIn K mainGlobals "enumerate"=some none)(Nn:W.nsIn K mainGlobals "int"=some none)(Ia:W.nsIn K mainGlobals "isinstance"=some none)(Ni:W.nsIn K mainGlobals "len"=some none)(Ng:W.nsIn K mainGlobals "list"=some none)(Nh:W.nsIn K mainGlobals "min"=some none)(Nc:W.nsIn K mainGlobals "range"=some none)(Iv:W.nsIn K mainGlobals "sorted"=some none)(Nj:W.nsIn K mainGlobals "str"=some none)(Nl:W.nsIn K mainGlobals "sum"=some none)(J9:W.nsIn K mainGlobals "tuple"=some none)(Nk:W.nsIn K mainGlobals "zip"=some none)(Et:W.nsIn K mainGlobals "LONGEST_NAME"=some (some (.int 8 Az)))(Ex:W.nsIn K mainGlobals "MOST_CLOTHS"=some (some (.int 10 A7)))(Ig:W.nsIn K mainGlobals "MOST_HUES"=some (some (.int 4 D1)))(Na:W.nsIn K mainGlobals "PARTS"=some (some (.int 5 E8)))(Ew:PySem.W.excIn K Ac [.type "ValueError",.type "Exception",.type "BaseException",.type "object"] "ValueError.__new__"=true)(Ip:PySem.W.hasDictIn K Ac=true)(Ii:W.findIn K (.ref Ac) "__getattribute__"=some (some (.builtin "BaseException.__getattribute__")))(Im:W.findIn K (.ref Ac) "__getattr__"=some none)(Ik:W.findIn K (.ref Ac) "__class__"=some (some (.builtin "object.__class__")))(Io:PySem.W.mroIn K Ac (.type "object")=some true)(Ij:PySem.W.mroIn K Ac (.type "BaseException")=some true)(usp:PySem.W.specialIn K (.builtin "object.__class__") "__get__"=some (some (.builtin "getset_descriptor.__get__")))(utk:PySem.W.takesIn K (.builtin "object.__class__")=some true)(Av:PySem.W.exmOne K (.ref Ac) (.ref Ai)=some true)(Ax:PySem.W.kitOne K (.ref Ac) (.ref Ac)=some true)(A6:PySem.W.kitOne K (.ref Ac) (.type "ValueError")=some true)(Ao:PySem.W.kitAny K (.ref Ac) [.ref Aq,.ref At]=some false):∃ fd:FuncData,(∀ (s:Shared) (v:Value),BindsTo s fd ⟨[v],[]⟩ [("script",v)])/\vc K h/\∀ base:Heap,K.In base->base.Ns mainGlobals mg->FnOk l.prog w K mg base v3 7 fa fd ["script"] (wM K):=by
 have e:=hfa.symm.trans (W.mg_of X G a37);cases e;have B6:=W.mg_none_of X G E4;have Eb:=W.mg_none_of X G Nm;have Ek:=W.mg_none_of X G Nd;have A8:=W.mg_none_of X G Nf;have D2:=W.mg_none_of X G Ih;have E2:=W.mg_none_of X G Nn;have Ab:=W.mg_none_of X G Ia;have Al:=W.mg_none_of X G Ni;have Ak:=W.mg_none_of X G Ng;have Iz:=W.mg_none_of X G Nh;have Am:=W.mg_none_of X G Nc;have B3:=W.mg_none_of X G Iv;have E1:=W.mg_none_of X G Nj;have Ie:=W.mg_none_of X G Nl;have B5:=W.mg_none_of X G J9;have J1:=W.mg_none_of X G Nk;have A0:=W.mg_of X G Et;have A9:=W.mg_of X G Ex;have D4:=W.mg_of X G Ig;have E9:=W.mg_of X G Na;have Eg:=W.mg_of X G Iq;have B0:=W.mg_of X G Ir;have Es:=W.mg_of X G Iu;have B4:=W.mg_of X G E6;have D7:=W.mg_of X G Nb;have B8:xB K Ac:=⟨Gs Ip,Ii,Im,Ik,usp,utk,Io,Ij⟩;have Ee:qG K Aa:=⟨⟨J0,Iy,Ix,J2⟩⟩;have J3:p8 K Aa "given":=⟨Ey⟩;have J7:p8 K Aa "held":=⟨E3⟩;have J8:p8 K Aa "last":=⟨E5⟩;have Iw:p8 K Aa "least":=⟨Ez⟩;have J4:p8 K Aa "time":=⟨Ib⟩;have F33:=GR (st:=zI) l33 c33 k33;have F37:=jz (st:=jQ) l37 c37 k37;have b33:Binds K (W.fnOf "__init__" "Works.__init__" (xN zI) (i0 zI) (j5 zI) (.ref T33) kV33 dc33 pm33 an33 cd33 ct33) ["self","rinses","cloths","last","time"] []:=UK (T:=T33) rfl q33 rfl λus hl=>match us,hl with|[_,_,_,_,_],_=>⟨_,rfl,rfl⟩
 have TK:vc K h:=by refine ⟨λp hp=>?_,λp hp=>?_,λp hp q hq=>?_,λp hp=>?_,λp hp q hq e=>?_,λp hp=>?_⟩<;>rw [hTB] at hp<;>cases hp
 refine ⟨W.fnOf "law" "law" (xN jQ) (i0 jQ) (j5 jQ) .none kV37 dc37 pm37 an37 cd37 ct37,λs v=> .of_eq rfl,TK,λbase _ _=>?_⟩;have Z:Zt l.prog w K mg base h:=⟨X,G⟩;have Ec:=fG Z a0 λF=>BE F;have Aj:=fG Z a1 λF=>BP F;have D3:=fG Z a2 λF=>BM F Ec Al Am Ie;have Ic:=fG Z a3 λF=>BJ F Aj;have Eu:=fG Z a4 λF=>BK F Ic Am;have Il:=fG Z a5 λF=>BF F Aj Al Am;have Id:=fG Z a6 λF=>Bq F Il Aj;have E7:=fG Z a7 λF=>BT F Id Eu D3 Aj Iz Am;have As:=fG Z a8 λF=>Bx F Ek E2 Ab;have Ag:=fG Z a9 λF=>BG F;have Ef:=fG Z a10 λF=>Bs F;have D5:=fG Z a11 λF=>BC F;have Em:=fG Z a12 λF=>Br F;have B9:=fG Z a13 λF=>BR F;have Aw:=fG Z a14 λF=>Bu F As;have Eh:=fG Z a15 λF=>Bv F Eb Ab Al E1 A0;have Ea:=fG Z a16 λF=>Bt F Em Ef Aw Eh As D5 Ag B9 Ab Al B5 E9;have A4:=fG Z a17 λF=>Bw F As Eb Ab Al Ak;have A3:=fG Z a18 λF=>Bo F A4 Eb Ab Al Ak D4;have Ay:=fG Z a19 λF=>BL F D2;have Ev:=fG Z a20 λF=>By F;have Eo:=fG Z a21 λF=>BD F;have A5:=fG Z a22 λF=>BQ F Ev Eo J1;have B7:=fG Z a23 λF=>BB F Ay A5 Al Am;have Ej:=fG Z a24 λF=>BO F;have Af:=fG Z a25 λF=>BA F A3 B7 Ej;have Ah:=fG Z a26 λF=>Bp F Aw;have Ae:=fG Z a27 λF=>Bn F Ea Ag Al A9;have Ad:=fM (sp:=(v5 (qK Aa))) Z Ee a28 λF=>Bj F Al;have Ar:=fM (sp:=(v5 (zY Aa))) Z Ee a29 λF=>Bm F;have An:=fM (sp:=(spO (zE Aa))) Z Ee a30 λF=>Bk F B3;have Ap:=fM (sp:=(spZ (zX Aa))) Z Ee a31 λF=>Bl F Ak;have Au:=fMX (sp:=(jR [false,false] (zW Aa) (vP Ac Aa))) Z Ee a32 λF=>Bi F Ab E1 B0 Ew;have El:Mkr l.prog w K mg base _ Aa _ (xW (spI Aa (qL Aa)) (zj Aa)):=⟨_,_,Zf F33 Ae Ah Af Ag A8 Ak Ad,⟨Ep,a33,i33,En⟩,b33⟩;have D9:vS l.prog w K mg base _ Aa _ [.int 0] (xW (spI Aa (qL Aa)) (zj Aa)):=⟨_,_,[(.int 0 tq33_1)],Zf F33 Ae Ah Af Ag A8 Ak Ad,⟨Ep,a33,i33,En⟩,VA 4 (T:=T33) rfl q33 rfl rfl λus hl=>match us,hl with|[_,_,_,_],_=>⟨_,rfl,rfl⟩,(.cons ⟨_,rfl⟩ .nil)⟩;have D8:vS l.prog w K mg base _ Aa _ [.non,.int 0] (xW (spI Aa (qL Aa)) (zj Aa)):=⟨_,_,[.none,(.int 0 tq33_1)],Zf F33 Ae Ah Af Ag A8 Ak Ad,⟨Ep,a33,i33,En⟩,VA 3 (T:=T33) rfl q33 rfl rfl λus hl=>match us,hl with|[_,_,_],_=>⟨_,rfl,rfl⟩,(.cons rfl (.cons ⟨_,rfl⟩ .nil))⟩;have D6:=fG Z a34 λF=>BS F Ek E2 Ab;have Ei:=fG (sp:=(v5 (jb Aa))) Z a35 λF=>BH F B6 Ab Eg B0 Es B4 B8 Au Av Ax A6 Ao;have Ed:=fG (sp:=(v5 (jH Aa))) Z a36 λF=>BI F Ei D6 Ab Al Ak B3 B5 Au Ad An Ap Ar;exact Bz F37 Ed E7 Ak D7 Ad An Ap Ar El D9 D8
theorem walk {q:Program}{loose:List Str}{XP:(Str->Option Value)->Heap->Prop}{YP:World->Heap->Prop}{d:DefRec}{K:Params->Fg}(hn:l.most=some 63)(hdf:d.params.defaults=[])(hY:∀ (w:World) (h:Heap),YP w h->(K w.params).In h)(F:∀ (w:World) (mg:Str->Option Value) (fa:Addr) (h:Heap),YP w h->(K w.params).In h->h.Ns mainGlobals mg->mg d.name=some (.ref fa) -> ∃ fd:FuncData,(∀ (s:Shared) (u:Value),BindsTo s fd ⟨[u],[]⟩ [("script",u)])/\vc (K w.params) h/\∀ base:Heap,(K w.params).In base->base.Ns mainGlobals mg->FnOk l.prog w (K w.params) mg base v3 7 fa fd ["script"] (wM (K w.params))):PySem.W.WalkO q loose XP YP l.row.toRowW d [] (λf vs=>PySem.call f vs) :=
 L2.DN (n:=63) (k:=7) (x:="script") (CX:=λ_=>v3) (sp:=λw=>wM (K w.params)) hn (by decide) hdf ⟨rfl,by decide,by decide⟩ hY F (λ_ _ a ns hl _ hS=>⟨a,ns,rfl,hS,hl,λ_=>rfl⟩) λ_ _ _ _ _ z=>z
end Lw
open PySem PySem.W PyProof.Rows
set_option maxRecDepth 100000 in
set_option maxHeartbeats 0 in
theorem PySem.Challenge.cw_rinsework_k07_works_told_holds : PySem.Challenge.rw_rinsework_k07_works_told.Holds := by
  w_on; o_law; k_head; (case hw => w_witness2)
  k_fill
  refine Lw.walk (l := PySem.Challenge.rw_rinsework_k07_works_told) rfl rfl (λw h Y => PySem.W.kIn_of Y) ?F
  case F =>
    intro w mg fa h Y KX G hmg
    apply Lw.all_mk KX (λ_ z => nomatch z) rfl G hmg
    iterate 16 k_is
    iterate 28 (apply Lw.FG.i;iterate 4 k_is)
    iterate 5 (apply Lw.FM.i;iterate 5 k_is)
    iterate 6 k_is
    iterate 3 (apply Lw.FG.i;iterate 4 k_is)
    iterate 24 k_is
    iterate 1 k_exc
    iterate 8 k_is
    iterate 1 kts_exm
    iterate 3 kit_is
