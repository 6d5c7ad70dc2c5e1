import PyProof.Rows.All
import Wide.All
import OpenK.AllK
import Wide.FinOn
import Lean
import PyProof.EqAt
import PyProof.EqKinds
import PyProof.NeKinds
import PyProof.TupleCall
import PySem.Challenge.RW_rinsework_k66_tray_moves_walked
set_option Elab.async false
set_option linter.all false
set_option maxRecDepth 100000
namespace PySem.W.Fast
def tw11011243240527150947:=0
def tw11968640296343683780:=0
def tw14529984495190482764:=0
def tw15100034964806092597:=0
def tw1512634800689326847:=0
def tw15487605479128716170:=0
def tw1605761690266158374:=0
def tw17316241978055067918:=0
def tw17348394727199002598:=0
def tw223418091729647378:=0
def tw3368183022232613814:=0
def tw4932993894379856270:=0
def tw5405103769233828292:=0
def tw70229333067178520:=0
def tw7536786438135782250:=0
def tw7965905499158430498:=0
def tw8128465892397786352:=0
def tw910248363514477323:=0
def tw2760217171465661683:=0
def tw661894953781673922:=0
def tw7699301136655326304:=0
def tw16566596836746984317:=0
def tw12724437109995284148:=0
def tw3183368240103165273:=0
def tw15355960617555935973:=0
def tw428945137906188095:=0
def tw7190237901083745742:=0
def tw8246223268515311766:=0
def tw4843966875299722758:=0
def tw9790285078022223086:=0
def tw9835721589543074639:=0
def tw12568177985645277802:=0
def tw1788700978082224425:=0
def tw5981662947966793452:=0
def tw13009932868292198817:=0
def tw7714690376991480212:=0
def tw6158203359907076276:=0
def tw2853651316084950074:=0
def tw3523921156755511035:=0
def tw9636417126657164679:=0
def tw1555701723752002705:=0
def tw7315211714773764629:=0
def tw18046625379697657793:=0
def tw8980675553278634697:=0
def tw16327347995190478043:=0
def tw13845529358767877751:=0
def tw8289460775439452496:=0
def tw9586986098686888366:=0
def tw6081123992451692831:=0
def tw16151746838921483734:=0
def tw12147652390485793471:=0
def tw8310959118275605878:=0
def tw2592214761665651618:=0
def tw1362200472589001349:=0
def tw422703022843486238:=0
def tw13662441316104678486:=0
def tw2719343038197365648:=0
def tw3051541124907017137:=0
def tw12568167597954138347:=0
def tw8928474197633658657:=0
def tw17827782633842785002:=0
def tw17074014025549308629:=0
def tw17623648582953824404:=0
def tw17286652734748673110:=0
def tw12053983718344057674:=0
def tw17683512605596704384:=0
def tw4521122552855740849:=0
def tw17775787466632160850:=0
def tw11842275344710990763:=0
def tw6095218008610332795:=0
def tw1724549403712258697:=0
def tw345586998417852175:=0
def tw2470380534915231445:=0
def tw8834535680005599336:=0
def tw11494442467272074206:=0
def tw12587532020463009841:=0
def tw3320122166794522604:=0
def tw2047626044971782628:=0
def tw7265531489074042269:=0
def tw9992311925823061902:=0
def tw15944498121187760348:=0
def tw784755435509845986:=0
def tw17525604510603597029:=0
def tw13848379296501500528:=0
def tw11517227004632264007:=0
def tw16298345599330249877:=0
def tw5614268065395072249:=0
def tw10515965032153369460:=0
def tw768091760195059930:=0
def tw8928944888118771042:=0
def tw14564038568803675812:=0
def tw12557143302201532493:=0
def tw1657426008323843095:=0
def tw13461560380688846525:=0
def tw12939285123176354199:=0
def tw8889298070260296179:=0
def tw6428059885466964245:=0
def tw17530276815943875471:=0
def tw9732937171941488298:=0
def tw14125423499719069956:=0
def tw17743261331119790850:=0
def tw13407270497316767294:=0
def tw16043086564932694518:=0
def tw7456377712484880328:=0
def tw10637461020150055229:=0
def tw1630060784041592096:=0
def tw10514259879528013000:=0
def tw5622177328641832591:=0
def tw11088058640419450446:=0
def tw204643351163146369:=0
def tw5847696667594436590:=0
def tw14244672151976625717:=0
def tw15143106276764335422:=0
def tw8273341178465979819:=0
def tw18363280879709674131:=0
def tw4725093617082492072:=0
def tw2415550793308684451:=0
def tw7856607150794498983:=0
def tw12772732835968425658:=0
def tw4578760767528212208:=0
def tw16253842712991760657:=0
def tw1651136047156118208:=0
def tw769916838537893719:=0
def tw8806228416295584844:=0
def tw11449547203551758427:=0
def tw15038447821823977415:=0
def tw11949648664037133043:=0
def tw7284314253765574320:=0
def tw3106297465402496084:=0
def tw14231716759991848739:=0
def tw5256335852001531290:=0
def tw8815302285241061295:=0
def tw7657471396685977236:=0
def tw17061918687918536416:=0
def tw1454997673499347745:=0
def tw952032343418255033:=0
def tw10402437684827021946:=0
def tw10902761074492104584:=0
def tw12295157818290458139:=0
def tw12071750690896515531:=0
def tw1997971200532679848:=0
def tw18141720223538414002:=0
def tw14418302798702972381:=0
def tw3714196324441756528:=0
def tw17924629684384184734:=0
def tw18236440079153391002:=0
def tw4520090328335785177:=0
def tw16123467299907193015:=0
def tw405525210981907121:=0
def tw5318175211836476838:=0
def tw1449414781228830312:=0
def tw16724910932252658356:=0
def tw3958904399861719404:=0
def tw9751518036760442800:=0
def tw10210317821843558819:=0
def tw14668113896219609541:=0
def tw2738710103567528913:=0
def tw1080034446958344993:=0
def tw1063665637324872271:=0
def tw3137277764134594946:=0
def tw10750320141964050979:=0
def tw9289473725665378774:=0
def tw11374819914534374250:=0
def tw4982201444946078349:=0
def tw14109766124300122072:=0
def tw2628263391030359766:=0
def tw9149753787138366672:=0
def tw9002240228242567045:=0
def tw6975252290169618750:=0
def tw6426130924946356715:=0
def tw4220511010986270167:=0
def tw5024377790396381491:=0
def tw2933881013717567992:=0
def tw14731651939328567235:=0
def tw17916961719825468906:=0
def tw7866535032517688579:=0
def tw16494557498465771210:=0
def tw179679786356811552:=0
def tw7639757620720352808:=0
def tw11435218419475845363:=0
def tw9714111325506136681:=0
def tw17623694841458265856:=0
def tw3243935520421335091:=0
def tw1484646728739596486:=0
def tw8647161477843980313:=0
def tw11720661391480781934:=0
def tw8736643991956926847:=0
def tw9312511345371800575:=0
def tw9710238273380785372:=0
def tw2430219409993602063:=0
def tw6757401179032799235:=0
def tw4933331231763966776:=0
def tw14730364360018291382:=0
def tw15395755174993333402:=0
def tw5391680443546299383:=0
def tw7421710844701940411:=0
def tw751052446380781538:=0
def tw4951185516405228527:=0
def tw5101079739472809456:=0
def tw7208052792265683744:=0
def tw16612205883152346578:=0
def tw16427559407877223646:=0
def tw7026027309218488508:=0
def tw8340611897775274087:=0
def tw7706855577288691452:=0
def tw10939178448547632781:=0
def tw10268313967704192925:=0
def tw5483691645532424320:=0
def tw14858559303122657298:=0
def tw10517452742012563075:=0
def tw5672332155373655561:=0
def tw13347209088289436475:=0
def tw9337416410173501442:=0
def tw13012862045270969509:=0
def tw9849964461823438973:=0
def tw17089487049782433216:=0
def tw16342552976944347635:=0
def tw1484610315539817709:=0
def tw6075782245775089133:=0
def tw16301530362544729820:=0
def tw7611585339383492142:=0
def tw16620534727456581568:=0
def tw8542076087484086756:=0
def tw10369009461770138787:=0
def tw16421684651998321306:=0
def tw15950224375666325832:=0
def tw15144088631383373572:=0
def tw1190205785719042219:=0
def tw15620974839919002915:=0
def tw2454922127161468365:=0
def tw7641708925979977308:=0
def tw9924500537564834740:=0
def tw6951102018757576505:=0
def tw6125542881296241832:=0
def tw9740768638171530486:=0
def tw9458094159359844984:=0
def tw11824489849865812930:=0
def tw17675272457771723594:=0
def tw16247880329632219212:=0
def tw16680230541577425668:=0
def tw12596802298410636652:=0
def tw8026295721018611180:=0
def tw15276017850227639825:=0
def tw5767187604239700306:=0
def tw212044687703631383:=0
def tw8659035643921488214:=0
def tw6275644637900019036:=0
def tw17308083595793308523:=0
def tw3735567600781424119:=0
def tw9269596261670241957:=0
def tw11209276690896905853:=0
def tw6902998684981995093:=0
def tw7665091422260622987:=0
def tw3845491529532766904:=0
def tw5623290194286542188:=0
def tw9495267232666992283:=0
def tw11002659676135042563:=0
def tw8733169141037243526:=0
def tw9440995845571596494:=0
def tw11139902967126366979:=0
def tw11828373413153504198:=0
def tw18234715861865790976:=0
def tw4926750054994354642:=0
def tw13836187948364652949:=0
def tw11201418349608161169:=0
def tw4883816857127761082:=0
def tw9206133736094463768:=0
def tw10523384840085196938:=0
def tw784840859918747845:=0
def tw6570752314612728655:=0
def tw2169257476708714359:=0
def tw11850450997043923433:=0
def tw18385276909650698827:=0
def tw4934999630981807448:=0
def tw16594530300359713325:=0
def tw628359046048972230:=0
def tw16333713101189387578:=0
def tw11813778749248710363:=0
def tw16861418721169318786:=0
def tw2128259427171064363:=0
def tw2900255438730252093:=0
def tw6487508335659728391:=0
def tw12904606696409108756:=0
def tw10614296369219582690:=0
def tw6087902689133642193:=0
def tw16756186915287481242:=0
def tw8709897979708632945:=0
def tw14056165534648160824:=0
def tw11740720785624926522:=0
def tw11342374282794472782:=0
def tw4022652044686915218:=0
def tw8632597891850562690:=0
def tw6517322363160062793:=0
def tw355932442778162779:=0
def tw398024306989142001:=0
def tw18124170393582027177:=0
def tw12136053343872454293:=0
def tw5426559919634419643:=0
def tw3118886640512578147:=0
def tw15352981007328505813:=0
def tw4855520806148232601:=0
def tw1200467442193551340:=0
def tw6565386857201858183:=0
def tw18327846656908235761:=0
def tw4865282405873018674:=0
def tw6082042893209357047:=0
def tw14899481928218880207:=0
def tw3949259635325014638:=0
def tw18426054499477909904:=0
def tw8135201003494560593:=0
def tw1751028802329898855:=0
def tw8270338470012653132:=0
def tw1470993789033437876:=0
def tw12016285298197077014:=0
def tw6181845465860494198:=0
def tw5130803050502616843:=0
def tw6439347875601942159:=0
def tw10481176214506177419:=0
end PySem.W.Fast
abbrev yZ:=@List.length_map
abbrev yY:=@List.size_toArray
abbrev yX:=@PySem.Heap.get?_push_of_some
abbrev yW:=@Bool.false_ne_true
abbrev yV:=@List.getElem?_map
abbrev yU:=@List.getElem?_eq_getElem
abbrev yT:=@List.mem_cons_of_mem
abbrev yS:=@Nat.le_refl
abbrev yR:=@PySem.wpAny_bind
abbrev yQ:=@List.mem_singleton
abbrev yP:=@PySem.Heap.lt_size
abbrev yO:=@List.mem_cons_self
abbrev yN:=@List.map_cons
abbrev yM:=@List.mem_cons
abbrev yL:=@List.length_append
abbrev yK:=@Option.map_eq_some_iff
abbrev yJ:=@Nat.ne_of_lt
abbrev yI:=@Option.bind_some
abbrev yH:=@List.getElem?_set
abbrev yG:=@List.getElem?_eq_some_iff
abbrev yF:=@List.nodup_cons
abbrev yE:=@List.getD_eq_getElem?_getD
abbrev yD:=@decide_eq_false
abbrev yC:=@List.length_set
abbrev yB:=@List.map_append
abbrev yA:=@PySem.Heap.get?_push_size
abbrev yz:=@List.getElem_mem
abbrev yy:=@Nat.lt_of_lt_of_le
abbrev yx:=@PySem.wpAny_pure
abbrev yw:=@List.length_cons
abbrev yv:=@List.getElem?_set_ne
abbrev yu:=@List.mem_of_getElem?
abbrev yt:=@decide_eq_true
abbrev yr:=@List.map_map
abbrev yq:=@List.mem_map
abbrev yp:=@Int.emod_lt_of_pos
abbrev yo:=@List.mem_append_right
abbrev yn:=@List.append_nil
abbrev ym:=@List.flatten_cons
abbrev yk:=@List.mem_append
abbrev yj:=@Int.emod_nonneg
abbrev yi:=@List.drop_eq_getElem_cons
abbrev yh:=@Nat.zero_le
abbrev yg:=@Int.eq_ofNat_of_zero_le
abbrev yf:=@Nat.le_trans
abbrev ye:=@List.getElem?_set_self
abbrev yd:=@List.getElem_toArray
abbrev yc:=@of_decide_eq_true
abbrev yb:=@Bool.and_eq_true
abbrev ya:=@List.not_mem_nil
abbrev uZ:=@Nat.lt_irrefl
abbrev uY:=@List.all_eq_true
abbrev uX:=@List.filter_cons
abbrev uW:=@List.mem_map_of_mem
abbrev uV:=@List.append_assoc
abbrev uU:=@List.lookup_cons
abbrev uT:=@Nat.le_of_lt
abbrev uS:=@List.drop_length
abbrev uR:=@Int.toNat_natCast
abbrev uQ:=@List.mem_filter
abbrev uP:=@List.find?_cons
abbrev uO:=@List.replicate_succ
abbrev uN:=@PySem.Heap.get?_update_other
abbrev uM:=@PySem.Heap.size_push
abbrev uL:=@List.getElem?_append_left
abbrev uK:=@Option.map_some
abbrev uJ:=@Int.mul_le_mul_of_nonneg_right
abbrev uI:=@List.getElem_of_mem
abbrev uH:=@Nat.lt_succ_self
abbrev uG:=@List.length_take
abbrev uF:=@List.length_drop
abbrev uE:=@List.getElem?_append_right
abbrev uD:=@List.mem_append_left
abbrev uC:=@List.mem_range
abbrev uB:=@List.perm_middle
abbrev uA:=@List.getElem?_replicate
abbrev uz:=@List.length_eq_zero_iff
abbrev uy:=@Bool.false_eq_true
abbrev ux:=@Nat.le_succ
abbrev uw:=@List.take_of_length_le
abbrev uu:=@List.nodup_append
abbrev ut:=@List.length_replicate
abbrev ur:=@Option.getD_none
namespace L2
abbrev Fg:=PySem.W.Frag
end L2
namespace L2
open PySem PySem.Spec PyProof.Rows
variable{us:List Value}{C a b dx it:Addr}{u:Value}{P:Program}{w:World}{base h:Heap}{g':Array GenState}{j n t':Nat}{d':Drawn}{ch fp:List Addr}{m qual x:Str}{c e tg:Expr}{N ps:List Str}{A:Around}{E Q:Value->Shared->Prop}{s s':Shared}{α:Type}{pins:List (Addr×Obj)}{pos:Pos}{op op':CmpOp}{K:Fg}{f:Value->Value->Sem Value}{es:List Expr}{lo:Int}{pl:Sem Bool}{body:List Stmt}{mA mg:Str->Option Value}{kw:List (Str×Value)}{fd:FuncData}{outer:List Env}{scope:Scope}
abbrev z9:=Sum Int Str
def jx:z9->Value->Bool
 | .inl k,v=>Value.isInt k v
 | .inr x,v=>Value.isStrOf x v
def keyH (w:World):z9->Int
 | .inl k=>hashInt k
 | .inr x=>hashStr w x
theorem zx:∀{k:z9}{v:Value},jx k v=true->(∃ i t,k=Sum.inl i/\v=Value.int i t)∨(∃ x t,k=Sum.inr x/\v=Value.str x t)
 | .inl i,v,h=>by
  obtain ⟨t,e⟩:=Value.isInt_shape (k:=i) (v:=v) h;exact .inl ⟨i,t,rfl,e⟩
 | .inr x,v,h=>by
  obtain ⟨t,e⟩:=Value.isStrOf_shape (x:=x) (v:=v) h;exact .inr ⟨x,t,rfl,e⟩
theorem Bi (i:Int)(t:Tok):jx (.inl i) (.int i t)=true:=by simp [jx,Value.isInt]
theorem WQ (x:Str)(t:Tok):jx (.inr x) (.str x t)=true:=by simp [jx,Value.isStrOf]
theorem Bj (a b:Int):decide ((Sum.inl a:z9)=Sum.inl b)=(a==b):=by
 by_cases e:a=b
 ·subst e;simp
 ·have h:¬ (Sum.inl a:z9)=Sum.inl b:=λq=>e (Sum.inl.inj q);rw [yD h];exact (beq_eq_false_iff_ne.mpr e).symm
theorem Bm (a b:Str):decide ((Sum.inr a:z9)=Sum.inr b)=decide (a=b):=by
 by_cases e:a=b
 ·subst e;simp
 ·have h:¬ (Sum.inr a:z9)=Sum.inr b:=λq=>e (Sum.inr.inj q);rw [yD h,yD e]
theorem Bk (a:Int)(b:Str):decide ((Sum.inl a:z9)=Sum.inr b)=false:=yD (λq=>nomatch q)
theorem Bl (a:Str)(b:Int):decide ((Sum.inr a:z9)=Sum.inl b)=false:=yD (λq=>nomatch q)
def e7 (prog:Program)(w:World):PySem.KeyKind prog w z9 where
 is:=jx
 hash:=keyH w
 inj:=λv a b ha hb=>by
  rcases zx ha with ⟨i,t,rfl,rfl⟩|⟨x,t,rfl,rfl⟩
  ·rcases zx hb with ⟨j,u,rfl,e⟩|⟨y,u,rfl,e⟩
   ·injection e with e1 _;rw [e1]
   ·exact nomatch e
  ·rcases zx hb with ⟨j,u,rfl,e⟩|⟨y,u,rfl,e⟩
   ·exact nomatch e
   ·injection e with e1 _;rw [e1]
 byValue:=λk v h=>by
  rcases zx h with ⟨i,t,rfl,rfl⟩|⟨x,t,rfl,rfl⟩<;>rfl
 pyHash:=λhv h=>by
  rcases zx hv with ⟨i,t,rfl,rfl⟩|⟨x,t,rfl,rfl⟩
  ·exact wpAny_pyHash_int h
  ·exact wpAny_pyHash_str h
 eqBool:=λhu hv h=>by
  rcases zx hu with ⟨i,t,rfl,rfl⟩|⟨x,t,rfl,rfl⟩
  ·rcases zx hv with ⟨j,u,rfl,rfl⟩|⟨y,u,rfl,rfl⟩
   ·rw [Bj] at h;exact wpAny_eqBool_int h
   ·rw [Bk] at h;exact SeqAt.EqAt.int_str i t y u _ _ _ _ h
  ·rcases zx hv with ⟨j,u,rfl,rfl⟩|⟨y,u,rfl,rfl⟩
   ·rw [Bl] at h;exact SeqAt.EqAt.str_int x t j u _ _ _ _ h
   ·rw [Bm] at h;exact wpAny_eqBool_str h
 «strs»:=λk x t v h=>by
  rcases zx h with ⟨i,u,rfl,e⟩|⟨y,u,rfl,e⟩
  ·exact nomatch e
  ·injection e with e1 _;subst e1;cases v<;>rfl
theorem BH (prog:Program)(w:World)(i:Int)(t:Tok):(e7 prog w).is (.inl i) (.int i t)=true:=Bi i t
theorem Zf (prog:Program)(w:World)(x:Str)(t:Tok):(e7 prog w).is (.inr x) (.str x t)=true:=WQ x t
inductive V where
 |non|bl (b:Bool)|int (i:Int)|str (x:Str)|byt (b:Array UInt8)|flt (b:UInt64)|ref (a:Addr)|ty (n:String)
 deriving DecidableEq
variable{vs xs:List V}{v y:V}
def RelV:V->Value->Prop
 | .non,u=>u=Value.none
 | .bl b,u=>u=Value.bool b
 | .int i,u=>∃ t,u=Value.int i t
 | .str x,u=>∃ t,u=Value.str x t
 | .byt b,u=>∃ t,u=Value.bytes b t
 | .flt b,u=>∃ t,u=Value.float b t
 | .ref a,u=>u=Value.ref a
 | .ty n,u=>u=Value.type n
abbrev Vals:List V->List Value->Prop:=Paired RelV
theorem Vals.length (r:Vals xs us):xs.length=us.length:=Paired.length r
theorem Vals.get:∀{xs:List V}{us:List Value}{i:Nat}{x:V},Vals xs us->xs[i]?=some x->∃ u,us[i]?=some u/\RelV x u
 |_,_,_,_,.nil,e=>by simp at e
 |_,_,0,_,.cons r _,e=>by simp at e;subst e;exact ⟨_,rfl,r⟩
 |_,_,i+1,x,.cons _ t,e=>by
  obtain ⟨u,h1,h2⟩:=Vals.get (i:=i) (x:=x) t (by simpa using e);exact ⟨u,by simpa using h1,h2⟩
theorem Vals.set {x:V}{u:Value}(r:RelV x u):∀{xs:List V}{us:List Value}(i:Nat),Vals xs us->Vals (xs.set i x) (us.set i u)
 |_,_,_,.nil=> .nil
 |_,_,0,.cons _ t=> .cons r t
 |_,_,i+1,.cons q t=> .cons q (Vals.set r i t)
theorem Vals.append:∀{xs ys:List V}{us ws:List Value},Vals xs us->Vals ys ws->Vals (xs++ys) (us++ws)
 |_,_,_,_,.nil,s=>s
 |_,_,_,_,.cons r t,s=> .cons r (Vals.append t s)
theorem Vals.take:∀{xs:List V}{us:List Value}(n:Nat),Vals xs us->Vals (xs.take n) (us.take n)
 |_,_,0,_=> .nil
 |_,_,_+1,.nil=> .nil
 |_,_,n+1,.cons r t=> .cons r (Vals.take n t)
theorem Vals.drop:∀{xs:List V}{us:List Value}(n:Nat),Vals xs us->Vals (xs.drop n) (us.drop n)
 |_,_,0,r=>r
 |_,_,_+1,.nil=> .nil
 |_,_,n+1,.cons _ t=>Vals.drop n t
def RelO:Option V->Option Value->Prop
 |some v,some u=>RelV v u
 |none,none=>True
 |_,_=>False
def KV {κ:Type}:List (κ×V)->List (κ×Value)->Prop:=Paired λ(p:κ×V) (q:κ×Value)=>p.1=q.1/\RelV p.2 q.2
def kV:z9->V
 | .inl i=> .int i
 | .inr x=> .str x
def TABS:List (Addr×Array Value×List (Pos×Str)):=[]
inductive HO where
 /-- a list -/
 |lst (xs:List V)
 /-- a tuple (never changes) -/
 |tup (xs:List V)
 /-- a dict whose keys are ints and texts;one whose keys are tuples of ints and texts (the empty one is both) -/
 |dK (kvs:List (z9×V))|dT (kvs:List (List z9×V))
 /-- a set of ints: its members,its size -/
 |set (S:Int->Bool) (n:Nat)
 /-- an instance of the class at C,its dict at dx,its attributes -/
 |ins (C dx:Addr) (fs:List (Str×V))
 /-- the dict of the instance at x -/
 |own (x:Addr)
 /-- the dict of an exception -/
 |xd (fs:List (Str×V))
 /-- a bound method,f of x -/
 |met (f x:Addr)
 /-- a range object lo,lo+1,.. below hi -/
 |rng (lo hi:Int)
 /-- a thing that is known to the object (the script;a dict while a loop walks it): read,never written while it is so -/
 |frz (o:Obj) (u:HO)
 /-- a code object's table -/
 |tbl (ps:Array Value) (q:List (Pos×Str))
 /-- any other thing,by what is true of its one object (a def of one's own: jo a S n:=HO.ext λh=> ..) -/
 |ext (φ:Heap->Prop)
variable{o:HO}
abbrev Hp:=Addr->Option HO
variable{H:Hp}{R:V->V->Hp->Prop}
def z8 (H:Hp)(a:Addr)(o:HO):Hp:=λb=>if b=a then some o else H b
theorem w6 :z8 H a o a=some o:=by unfold z8;rw [if_pos rfl]
theorem j3 (h:b≠a):z8 H a o b=H b:=by unfold z8;rw [if_neg h]
theorem ne_of {u:HO}(h:H a=some o)(h':H b=some u)(d:o≠u):a≠b:=by intro e;subst e;rw [h] at h';exact d (Option.some.inj h')
theorem u9 (h:H a=some o)(h':H b=none):a≠b:=by intro e;subst e;rw [h] at h';cases h'
section
variable (P:Program)(w:World)
def ObjOk (H:Hp)(h:Heap)(a:Addr):HO->Prop
 | .lst xs=>xs.length<=sizeLine/\∃ (its:List Value) (n:Nat),Vals xs its/\h.get? a=some { cls:= .type "list",data:= .seq its.toArray n }
 | .tup xs=>xs.length<=sizeLine/\∃ its:List Value,Vals xs its/\IsTup h a its.toArray
 | .dK kvs=>kvs.length<=sizeLine/\(a==sysModules)=false/\∃ vs,KV kvs vs/\h.DictOf (e7 P w) a vs
 | .dT kvs=>kvs.length<=sizeLine/\(a==sysModules)=false/\∃ xs:List (List z9×Addr×Value),
   Paired (λ(p:List z9×V) (q:List z9×Addr×Value)=>p.1=q.1/\H q.2.1=some (.tup (p.1.map kV))/\RelV p.2 q.2.2) kvs xs /\
   ∃ o es ep,h.get? a=some o/\o.ExactDict/\o.data = .dict es ep/\es.toList=xs.map (entryOfKey (tupleKind (e7 P w)))/\(xs.map (·.1)).Nodup
 | .set S n=>h.SetOf (intKind P w) a S n
 | .ins C dx fs=>H dx=some (.own a)/\fs.length<=1000/\dx≠a/\h.get? a=some (PySem.W.instObj C dx) /\
   ∃ mA,h.Ns1 dx mA/\(∀ f,RelO (fs.lookup f) (mA f))/\PySem.Within mA (fs.map (·.1))
 | .own _=>∃ o,h.get? a=some o
 | .xd fs=>∃ mA,h.Ns1 a mA/\∀ f,RelO (fs.lookup f) (mA f)
 | .rng lo hi=>∃ t u v,h.get? a=some { cls:= .type "range",data:= .fields #[.int lo t,.int hi u,.int 1 v] }
 | .frz o u=>h.get? a=some o/\ObjOk H h a u
 | .tbl ps q=>∃ more:Array Value,h.get? a=some { cls:= .none,data:= .fields (ps++more) }/\TriplesOk (ps++more).toList /\
   ∀ p∈q,codeAmong p.1 (ps++more).toList=none∨∃ c o vs t,codeAmong p.1 (ps++more).toList=some (.ref c)/\H c=some (.frz o (.own a))/\o.data = .fields vs/\vs[1]?=some (.str p.2 t)
 | .met f x=>h.get? a=some (PySem.W.methodObj (.ref f) (.ref x))
 | .ext φ=>φ h/\(∃ o,h.get? a=some o)/\∀ h1 h2:Heap,φ h1->(∀ o,h1.get? a=some o->h2.get? a=some o)->φ h2
def HOk (H:Hp)(h:Heap):Prop:=∀ a o,H a=some o->ObjOk P w H h a o
end
section
variable {P:Program}{w:World}{H H':Hp}{h h':Heap}{a:Addr}{o:HO}
theorem ObjOk.lt (x:ObjOk P w H h a o):a<h.objs.size:=by
 cases o with
 |lst xs=>obtain ⟨_,_,_,_,e⟩:=x;exact yP e
 |tup xs=>obtain ⟨_,_,_,p⟩:=x;exact p.lt
 |dK kvs=>obtain ⟨_,_,_,_,o,_,_,e,_⟩:=x;exact yP e
 |dT kvs=>obtain ⟨_,_,_,_,o,_,_,e,_⟩:=x;exact yP e
 |set S n=>obtain ⟨o,_,_,_,e,_⟩:=x;exact yP e
 |ins C dx fs=>obtain ⟨_,_,_,e,_⟩:=x;exact yP e
 |own y=>obtain ⟨_,e⟩:=x;exact yP e
 |xd fs=>obtain ⟨_,⟨_,_,_,e,_⟩,_⟩:=x;exact yP e
 |rng lo hi=>obtain ⟨_,_,_,e⟩:=x;exact yP e
 |frz ob u=>obtain ⟨e,_⟩:=x;exact yP e
 |tbl ps q=>obtain ⟨_,e,_⟩:=x;exact yP e
 |met f y=>exact yP (show h.get? a=some _ from x)
 |ext φ=>obtain ⟨_,⟨_,e⟩,_⟩:=x;exact yP e
theorem Paired.mapP {α β:Type}{F G:α->β->Prop}:∀{l₁:List α}{l₂:List β},Paired F l₁ l₂->(∀ a b,F a b->G a b)->Paired G l₁ l₂
 |_,_,.nil,_=> .nil
 |_,_,.cons r t,f=> .cons (f _ _ r) (Paired.mapP t f)
theorem ObjOk.stay (x:ObjOk P w H h a o)(k:∀ b u,(b=a∨H b=some (.own a))->h.get? b=some u->h'.get? b=some u)(ho:∀ b,H b=some (.own a)->H' b=some (.own a))(ht:∀ b xs,H b=some (.tup xs)->H' b=some (.tup xs))(hz:∀ b o u,H b=some (.frz o u)->H' b=some (.frz o u)):ObjOk P w H' h' a o:=by
 induction o with
 |lst xs=>obtain ⟨z,its,n,r,e⟩:=x;exact ⟨z,its,n,r,k _ _ (.inl rfl) e⟩
 |tup xs=>obtain ⟨z,its,r,ob,e,c⟩:=x;exact ⟨z,its,r,ob,k _ _ (.inl rfl) e,c⟩
 |dK kvs=>obtain ⟨z,y,vs,r,ob,es,ep,e,c⟩:=x;exact ⟨z,y,vs,r,ob,es,ep,k _ _ (.inl rfl) e,c⟩
 |dT kvs=>obtain ⟨z,y,xs,r,ob,es,ep,e,c⟩:=x;exact ⟨z,y,xs,Paired.mapP r λp q z=>⟨z.1,ht _ _ z.2.1,z.2.2⟩,ob,es,ep,k _ _ (.inl rfl) e,c⟩
 |set S n=>obtain ⟨ob,es,ep,t,e,c⟩:=x;exact ⟨ob,es,ep,t,k _ _ (.inl rfl) e,c⟩
 |ins C dx fs=>obtain ⟨d,z,ne,e,mA,⟨od,es,ep,e2,c⟩,r⟩:=x;exact ⟨ho _ d,z,ne,k _ _ (.inl rfl) e,mA,⟨od,es,ep,k _ _ (.inr d) e2,c⟩,r⟩
 |own y=>obtain ⟨ob,e⟩:=x;exact ⟨ob,k _ _ (.inl rfl) e⟩
 |xd fs=>obtain ⟨mA,⟨od,es,ep,e,c⟩,r⟩:=x;exact ⟨mA,⟨od,es,ep,k _ _ (.inl rfl) e,c⟩,r⟩
 |rng lo hi=>obtain ⟨t,u,v,e⟩:=x;exact ⟨t,u,v,k _ _ (.inl rfl) e⟩
 |frz ob u ih=>obtain ⟨e,q⟩:=x;exact ⟨k _ _ (.inl rfl) e,ih q⟩
 |tbl ps q =>
  obtain ⟨more,e,t,r⟩:=x;refine ⟨more,k a _ (.inl rfl) e,t,λp hp=>?_⟩;rcases r p hp with z|⟨c,o,vs,t,z,oc,e2⟩
  ·exact .inl z
  ·exact .inr ⟨c,o,vs,t,z,hz c o _ oc,e2⟩
 |met f y=>have e:h.get? a=some (PySem.W.methodObj (.ref f) (.ref y)):=x;show h'.get? a=some (PySem.W.methodObj (.ref f) (.ref y));exact k a _ (.inl rfl) e
 |ext φ=>obtain ⟨p,⟨o,e⟩,st⟩:=x;exact ⟨st _ _ p λo q=>k _ _ (.inl rfl) q,⟨o,k _ _ (.inl rfl) e⟩,st⟩
theorem HOk.lt (x:HOk P w H h)(e:H a=some o):a<h.objs.size:=(x a o e).lt
theorem HOk.fresh (x:HOk P w H h)(e:h.objs.size<=a):H a=none:=by
 cases q:H a with
 |none=>rfl
 |some u=>exact absurd (yy (x.lt q) e) (uZ _)
theorem HOk.kept (x:HOk P w H h)(k:∀ b u,h.get? b=some u->h'.get? b=some u):HOk P w H h':=λa o e =>
 (x a o e).stay (λb u _ q=>k b u q) (λ_ q=>q) (λ_ _ q=>q) λ_ _ _ q=>q
theorem HOk.laid (x:HOk P w H h)(k:∀ b u,h.get? b=some u->h'.get? b=some u)(hp:h.objs.size<=a)(new:ObjOk P w (z8 H a o) h' a o):HOk P w (z8 H a o) h':=λb u e=>by
 have hn:=x.fresh hp;by_cases hb:b=a
 ·subst hb;rw [w6] at e;cases e;exact new
 ·rw [j3 hb] at e;exact (x b u e).stay (λc v _ q=>k c v q) (λc q=>by rw [j3 (u9 q hn)];exact q) (λc xs q=>by rw [j3 (u9 q hn)];exact q) λc _ _ q=>by rw [j3 (u9 q hn)];exact q
end
def Rd (H:Hp)(a:Addr)(u:HO):Prop:=H a=some u∨∃ o,H a=some (.frz o u)
theorem Rd.ok {u:HO}(r:Rd H a u)(x:HOk P w H h):ObjOk P w H h a u:=by
 rcases r with r|⟨o,r⟩
 ·exact x a u r
 ·obtain ⟨_,q⟩:=x a _ r;exact q
def Mut:Option HO->Prop
 |some (.lst _)=>True
 |some (.dK _)=>True
 |some (.dT _)=>True
 |some (.set _ _)=>True
 |some (.ins _ _ _)=>True
 |some (.ext _)=>True
 |_=>False
section
variable {P:Program}{w:World}{H:Hp}{h h':Heap}{x e:Addr}{o':HO}
theorem HOk.write (ok:HOk P w H h)(mu:Mut (H x))(he:e=x∨H e=some (.own x))(k:∀ b u,b≠e->h.get? b=some u->h'.get? b=some u)(heo:∃ u,h'.get? e=some u)(new:ObjOk P w (z8 H x o') h' x o'):HOk P w (z8 H x o') h':=λb u q=>by
 have nown:∀ c y,H c=some (.own y)->c≠x:=λc y r z=>by subst z;rw [r] at mu;exact mu
 have ntup:∀ c xs,H c=some (.tup xs)->c≠x:=λc xs r z=>by subst z;rw [r] at mu;exact mu
 have nfrz:∀ c ob xs,H c=some (.frz ob xs)->c≠x:=λc ob xs r z=>by subst z;rw [r] at mu;exact mu
 by_cases hb:b=x
 ·subst hb;rw [w6] at q;cases q;exact new
 ·rw [j3 hb] at q;by_cases hbe:b=e
  ·have q':H b=some (.own x):=by
    rcases he with z|z
    ·exact absurd (hbe.trans z) hb
    ·rw [hbe];exact z
   rw [q] at q';cases q';obtain ⟨v,hv⟩:=heo;exact ⟨v,by rw [hbe];exact hv⟩
  ·refine (ok b u q).stay (λc v hc r=>k c v ?_ r) (λc r=>by rw [j3 (nown c b r)];exact r) (λc xs r=>by rw [j3 (ntup c xs r)];exact r) λc ob xs r=>by rw [j3 (nfrz c ob xs r)];exact r
   rcases hc with rfl|hc
   ·exact hbe
   ·rintro rfl;rcases he with z|z
    ·exact nown c b hc z
    ·rw [hc] at z;cases z;exact hb rfl
end
structure Un (fs ex:List Addr)(H H':Hp)(h h':Heap):Prop where
 keep:∀ b o,h.get? b=some o->H b=none->b∉fs->b∉ex->h'.get? b=some o
 slot:∀ b o,h.get? b=some o->H b=none->b∈fs->b∉ex->∃ sl,h'.get? b=some { o with slots:=sl }
 free:∀ b o,h.get? b=some o->H b=none->b∉ex->H' b=none
 there:∀ b o,h.get? b=some o->b∉ex->∃ o',h'.get? b=some o'
 tups:∀ b xs,H b=some (.tup xs)->H' b=some (.tup xs)
 frzs:∀ b o u,H b=some (.frz o u)->H' b=some (.frz o u)
 tbls:∀ b ps q,H b=some (.tbl ps q)->H' b=some (.tbl ps q)
section
variable {fs fs' ex ex':List Addr}{H H1 H2:Hp}{h h1 h2 h':Heap}{a x e:Addr}{o:HO}
theorem Un.any (u:Un fs ex H H1 h h1){ob:Obj}(q:h.get? b=some ob)(n:H b=none)(hx:b∉ex):∃ sl,h1.get? b=some { ob with slots:=sl }:=by
 by_cases hb:b∈fs
 ·exact u.slot b ob q n hb hx
 ·exact ⟨ob.slots,u.keep b ob q n hb hx⟩
theorem Un.kept (k:∀ b u,h.get? b=some u->h'.get? b=some u):Un fs ex H H h h' :=
 ⟨λb ob q _ _ _=>k b ob q,λb ob q _ _ _=>⟨ob.slots,k b ob q⟩,λ_ _ _ n _=>n,λb ob q _=>⟨ob,k b ob q⟩,λ_ _ q=>q,λ_ _ _ q=>q,λ_ _ _ q=>q⟩
theorem Un.refl:Un fs ex H H h h:=Un.kept λ_ _ q=>q
theorem Un.laid (k:∀ b u,h.get? b=some u->h'.get? b=some u)(hp:h.objs.size<=a)(hn:H a=none):Un fs ex H (z8 H a o) h h' where
 keep:=λb u q _ _ _=>k b u q
 slot:=λb u q _ _ _=>⟨u.slots,k b u q⟩
 free:=λb u q n _=>by rw [j3 (yJ (yy (yP q) hp))];exact n
 there:=λb u q _=>⟨u,k b u q⟩
 tups:=λb xs q=>by rw [j3 (u9 q hn)];exact q
 frzs:=λb u xs q=>by rw [j3 (u9 q hn)];exact q
 tbls:=λb ps z q=>by rw [j3 (u9 q hn)];exact q
theorem Un.write (mu:Mut (H x))(he:e=x∨H e=some (.own x))(k:∀ b u,b≠e->h.get? b=some u->h'.get? b=some u)(heo:∃ u,h'.get? e=some u):Un fs ex H (z8 H x o) h h':=by
 have hx:∀ b,H b=none->b≠x:=λb n z=>by subst z;rw [n] at mu;exact mu
 have hb:∀ b,H b=none->b≠e:=λb n z=>by
  subst z;rcases he with r|r
  ·exact hx b n r
  ·rw [n] at r;cases r
 have hm:∀ b u,H b=some u->¬ Mut (some u)->b≠x:=λb u q nm z=>by subst z;rw [q] at mu;exact nm mu
 refine ⟨λb u q n _ _=>k b u (hb b n) q,λb u q n _ _=>⟨u.slots,k b u (hb b n) q⟩,λb u q n _=>by rw [j3 (hx b n)];exact n,λb u q _=>?_,
  λb xs q=>by rw [j3 (hm b _ q λz=>z)];exact q,λb u xs q=>by rw [j3 (hm b _ q λz=>z)];exact q,λb ps r q=>by rw [j3 (hm b _ q λz=>z)];exact q⟩
 by_cases hbe:b=e
 ·subst hbe;exact heo
 ·exact ⟨u,k b u hbe q⟩
end
def trk (h:Heap)(H:Hp):List Addr:=(List.range h.objs.size).filter λa=>(H a).isSome
def zw (h:Heap)(H:Hp):Heap:=PySem.W.hideAll h (trk h H)
theorem Ky (h:Heap)(H:Hp):(zw h H).objs.size=h.objs.size:=PySem.W.hideAll_size _ _
theorem Kx {o:Obj}(e:h.get? b=some o)(n:H b=none):(zw h H).get? b=some o :=
 PySem.W.hideAll_get _ e λhm=>by
  have q:(H b).isSome=true:=(uQ.mp hm).2;rw [n] at q;simp at q
theorem BN {o:Obj}(e:(zw h H).get? b=some o):h.get? b=some o/\H b=none:=by
 have e':h.get? b=some o:=PySem.W.of_hideAll (trk h H) e;refine ⟨e',?_⟩;cases q:H b with
 |none=>rfl
 |some x=>have hm:b∈trk h H:=uQ.mpr ⟨uC.mpr (yP e'),by simp [q]⟩;have z:(zw h H).get? b=none:=PySem.W.hideAll_none (trk h H) hm;rw [z] at e;cases e
structure Mod (K:Fg)(mg:Str->Option Value)(base:Heap):Prop where
 kin:K.In base
 glob:base.Ns mainGlobals mg
 blt:∃ mb,base.Ns builtinsNs mb/\∀ x:Str,x ≠ "__name__"->mb x=bootBuiltins x
 nolimit:base.NoLimit
 bmn:∃ bm ob,mg "__builtins__"=some (.ref bm)/\bm≠builtinsNs/\base.get? bm=some ob/\ob.cls = .type "module"/\ob.dict=some builtinsNs/\ob.data = .plain
structure Cx where
 prog:Program
 w:World
 K:Fg
 mg:Str->Option Value
 base:Heap
 A:Around
 N:List Str
 s₀:Shared
 H₀:Hp
 env:Env
 outer:List Env
 stack:List Env
 ex:List Addr
 fn:Str->Bool
 calm:Bool
 pn:List (Addr×Obj)
 xe:Value->Shared->Prop
variable{X:Cx}
def frs (l:List Env):List Addr:=l.filterMap (·.frame)
abbrev Cx.fs (X:Cx):List Addr:=frs X.outer
def Vis (sc:Scope)(x:Str):Prop:=sc.names.lookup x=some .local∨sc.names.lookup x=some .cell∨sc.names.lookup x=some .free
def Loc (sc:Scope)(x:Str):Prop:=sc.names.lookup x=some .local∨sc.names.lookup x=some .cell
def Look (env:Env)(h:Heap)(m:Str->Option Value)(x:Str)(u:Value):Prop :=
 (env.kindOf x=some .local/\m x=some u)∨((env.kindOf x=some .cell∨env.kindOf x=some .free)/\∃ c,env.cells.lookup x=some c/\h.IsCell c (some u))
structure Cx.Ok (X:Cx):Prop where
 mod:Mod X.K X.mg X.base
 kind:X.env.scope.kind = .function
 glob:X.env.globals=mainGlobals
 blt:X.env.builtins=builtinsNs
 above:X.s₀.heap.objs.size<=X.env.locals
 inj:∀ x y c,X.env.cells.lookup x=some c->X.env.cells.lookup y=some c->x=y
 has:∀ x,(X.env.kindOf x=some .cell∨X.env.kindOf x=some .free)->∃ c,X.env.cells.lookup x=some c
 cab:∀ x c,X.fn x=true->X.env.cells.lookup x=some c->X.s₀.heap.objs.size<=c
 hd:X.calm=true->X.A.handled=none
 frames:X.A.frames=some X.stack
 stk:X.stack=X.outer∨(X.stack=X.env::X.outer/\X.env.frame=some X.env.locals)
 exf:∀ b∈X.ex,b≠X.env.locals/\∀ x c,X.env.cells.lookup x=some c->c≠b
 bs:∀ b o,X.base.get? b=some o->X.s₀.heap.get? b=some o/\X.H₀ b=none
 bsz:X.base.objs.size<=X.s₀.heap.objs.size
 noex:∀ b o,X.base.get? b=some o->b∉X.ex
 exfs:∀ b∈X.ex,b∉X.fs
 funs:X.s₀.heap.FunFrames X.base X.outer
 frf:∀ b∈X.fs,X.H₀ b=none
 tbs:∀ p∈TABS,X.H₀ p.1=some (.tbl p.2.1 p.2.2)
structure Inv (X:Cx)(pins:List (Addr×Obj))(σ:List (Option V))(H:Hp)(s:Shared):Prop where
 ok:X.Ok
 os:s.os=X.s₀.os
 bare:AllBare s.gens
 base:Un X.fs X.ex X.H₀ H X.s₀.heap s.heap
 loc:∃ m,s.heap.Ns X.env.locals m/\∀(i:Nat)(x:Str)(v:V),X.N[i]?=some x->σ[i]?=some (some v)->Vis X.env.scope x->∃ u,RelV v u/\Look X.env s.heap m x u
 cell:∀ x c,X.env.cells.lookup x=some c->∃ v,s.heap.IsCell c v
 free:H X.env.locals=none
 freeC:∀ x c,X.env.cells.lookup x=some c->H c=none
 pin:∀ p∈X.pn++pins,s.heap.get? p.1=some p.2/\H p.1=none/\p.1≠X.env.locals/\p.1∉X.fs/\∀ v,p.2.data ≠ .cell v
 hok:HOk X.prog X.w H s.heap
 len:σ.length=X.N.length
section
variable {X:Cx}{pins:List (Addr×Obj)}{σ:List (Option V)}{H H':Hp}{s:Shared}{h':Heap}
theorem Cx.Ok.nofr (ok:X.Ok){o:Obj}(e:X.base.get? b=some o):b∉X.fs:=λhb=>by
 have:=(ok.funs.mem hb).1;rw [e] at this;cases this
theorem Inv.bs (I:Inv X pins σ H s):∀ b o,X.base.get? b=some o->s.heap.get? b=some o/\H b=none:=λb o e =>
 ⟨I.base.keep b o (I.ok.bs b o e).1 (I.ok.bs b o e).2 (I.ok.nofr e) (I.ok.noex b o e),I.base.free b o (I.ok.bs b o e).1 (I.ok.bs b o e).2 (I.ok.noex b o e)⟩
theorem Inv.bk (I:Inv X pins σ H s):∀ b o,X.base.get? b=some o->s.heap.get? b=some o:=λb o e=>(I.bs b o e).1
theorem Inv.mod (I:Inv X pins σ H s):Mod X.K X.mg X.base:=I.ok.mod
theorem Inv.kIn (I:Inv X pins σ H s):X.K.In s.heap:=I.ok.mod.kin.keeps I.bk
theorem Inv.fr (I:Inv X pins σ H s):∃ m,Fr X.base X.env.locals s.heap m :=
 let ⟨m,hn,_⟩:=I.loc
 ⟨m,hn,I.bk,yf I.ok.bsz I.ok.above⟩
theorem Inv.lt (I:Inv X pins σ H s):X.env.locals<s.heap.objs.size:=let ⟨_,hn,_⟩:=I.loc;hn.lt
theorem Inv.sz (I:Inv X pins σ H s):X.s₀.heap.objs.size<=s.heap.objs.size:=yf I.ok.above (uT I.lt)
theorem Inv.nofs (I:Inv X pins σ H s)(h:s.heap.objs.size<=a):a∉X.fs:=λhb=>by
 obtain ⟨_,o,ho,_⟩:=I.ok.funs.mem hb;exact absurd (yy (yP ho) (yf I.sz h)) (uZ _)
theorem Inv.cne (I:Inv X pins σ H s):∀ x c,X.env.cells.lookup x=some c->c≠X.env.locals:=λx c e z=>by
 obtain ⟨v,o,ho,hd⟩:=I.cell x c e;obtain ⟨m,⟨o',es,ep,ho',hd',_⟩,_⟩:=I.loc;rw [z,ho'] at ho;cases ho;rw [hd'] at hd;cases hd
theorem Inv.funs (I:Inv X pins σ H s):s.heap.FunFrames X.base X.outer:=by
 have all:∀(l:List Env),(∀ b∈frs l,b∈X.fs)->X.s₀.heap.FunFrames X.base l->s.heap.FunFrames X.base l:=by
  intro l
  induction l with
  |nil=>intro _ _;trivial
  |cons env r ih=>intro hs hl;obtain ⟨hk,⟨L,o,hf,hn,ho,hd⟩,hr⟩:=hl;have hL:L∈X.fs:=hs L (by unfold frs;rw [List.filterMap_cons,hf];exact yO);obtain ⟨sl,e⟩:=I.base.slot L o ho (I.ok.frf L hL) hL λz=>I.ok.exfs L z hL;exact ⟨hk,⟨L,_,hf,hn,e,hd⟩,ih (λb hb=>hs b (by unfold frs;rw [List.filterMap_cons,hf];exact yT _ hb)) hr⟩
 exact all X.outer (λ_ hb=>hb) I.ok.funs
theorem Inv.stack (I:Inv X pins σ H s):s.heap.FunFrames X.base X.stack:=by
 rcases I.ok.stk with e|⟨e,hf⟩
 ·rw [e];exact I.funs
 ·rw [e];obtain ⟨m,hn,_⟩:=I.loc;refine .cons (by rw [I.ok.kind];decide) hf hn ?_ I.funs;exact Heap.get?_none_of_le (yf I.ok.bsz I.ok.above)
theorem Inv.stkSub (I:Inv X pins σ H s):∀ b∈frs X.stack,b∈X.env.locals::X.fs:=λb hb=>by
 rcases I.ok.stk with e|⟨e,hf⟩
 ·rw [e] at hb;exact yT _ hb
 ·rw [e] at hb;unfold frs at hb;rw [List.filterMap_cons,hf] at hb;exact hb
theorem Inv.stkFree (I:Inv X pins σ H s):∀ b∈frs X.stack,H b=none:=λb hb=>by
 rcases yM.mp (I.stkSub b hb) with e|hb
 ·rw [e];exact I.free
 ·obtain ⟨_,o,ho,_⟩:=I.ok.funs.mem hb;exact I.base.free b o ho (I.ok.frf b hb) λz=>I.ok.exfs b z hb
theorem Inv.step (I:Inv X pins σ H s)(hch:∀ b∈ch,(b∈X.ex∨X.s₀.heap.objs.size<=b)/\b≠X.env.locals/\(∀ x c,X.env.cells.lookup x=some c->c≠b)/\∀ p∈X.pn++pins,p.1≠b)(keep:∀ b o,b≠X.env.locals->b∉X.fs->b∉ch->s.heap.get? b=some o->H b=none->h'.get? b=some o)(slot:∀ b o,b≠X.env.locals->b∈X.fs->b∉ch->s.heap.get? b=some o->H b=none->∃ sl,h'.get? b=some { o with slots:=sl })(free:∀ b o,b∉ch->s.heap.get? b=some o->H b=none->H' b=none)(there:∀ b o,b∉ch->s.heap.get? b=some o->∃ o',h'.get? b=some o')(tups:∀ b xs,H b=some (.tup xs)->H' b=some (.tup xs))(frzs:∀ b o u,H b=some (.frz o u)->H' b=some (.frz o u))(tbls:∀ b ps q,H b=some (.tbl ps q)->H' b=some (.tbl ps q))(ns:∀ m,s.heap.Ns X.env.locals m->h'.Ns X.env.locals m)(hok:HOk X.prog X.w H' h')(hg:AllBare g'):Inv X pins σ H' { s with heap:=h',gens:=g',drawn:=d',toks:=t' }:=by
 have neL:∀ b o,X.s₀.heap.get? b=some o->b≠X.env.locals:=λb o e=>yJ (yy (yP e) I.ok.above);have neC:∀ b o,X.s₀.heap.get? b=some o->b∉X.ex->b∉ch:=λb o e hx hb=>by
  rcases (hch b hb).1 with z|z
  ·exact hx z
  ·exact absurd (yy (yP e) z) (uZ _)
 have cellK:∀ x c,X.env.cells.lookup x=some c->∀ v,s.heap.IsCell c v->h'.IsCell c v:=λx c e v ⟨o,ho,hd⟩=>by
  have nch:c∉ch:=λz=>(hch c z).2.2.1 x c e rfl;by_cases hc:c∈X.fs
  ·obtain ⟨sl,q⟩:=slot c o (I.cne x c e) hc nch ho (I.freeC x c e);exact ⟨_,q,hd⟩
  ·exact ⟨o,keep c o (I.cne x c e) hc nch ho (I.freeC x c e),hd⟩
 refine ⟨I.ok,I.os,hg,⟨λb o e n hb hx=>?_,λb o e n hb hx=>?_,λb o e n hx=>?_,λb o e hx=>?_,λb xs e=>tups b xs (I.base.tups b xs e),λb o xs e=>frzs b o xs (I.base.frzs b o xs e),λb ps q e=>tbls b ps q (I.base.tbls b ps q e)⟩,?_,λx c e=>?_,?_,λx c e=>?_,λp hp=>?_,hok,I.len⟩
 ·exact keep b o (neL b o e) hb (neC b o e hx) (I.base.keep b o e n hb hx) (I.base.free b o e n hx)
 ·obtain ⟨sl,e1⟩:=I.base.slot b o e n hb hx;obtain ⟨sl',e2⟩:=slot b _ (neL b o e) hb (neC b o e hx) e1 (I.base.free b o e n hx);exact ⟨sl',e2⟩
 ·obtain ⟨o',e1⟩:=I.base.there b o e hx;exact free b o' (neC b o e hx) e1 (I.base.free b o e n hx)
 ·obtain ⟨o',e1⟩:=I.base.there b o e hx;exact there b o' (neC b o e hx) e1
 ·obtain ⟨m,hn,hl⟩:=I.loc;refine ⟨m,ns m hn,λi x v e1 e2 e3=>?_⟩;obtain ⟨u,r,l⟩:=hl i x v e1 e2 e3;refine ⟨u,r,?_⟩;rcases l with l|⟨k,c,e,z⟩
  ·exact .inl l
  ·exact .inr ⟨k,c,e,cellK x c e _ z⟩
 ·obtain ⟨v,z⟩:=I.cell x c e;exact ⟨v,cellK x c e v z⟩
 ·obtain ⟨m,⟨o,_,_,ho,_⟩,_⟩:=I.loc;exact free _ o (λz=>(hch _ z).2.1 rfl) ho I.free
 ·obtain ⟨v,o,ho,hd⟩:=I.cell x c e;exact free c o (λz=>(hch c z).2.2.1 x c e rfl) ho (I.freeC x c e)
 ·obtain ⟨e,n,ne,nf,d⟩:=I.pin p hp;have nch:p.1∉ch:=λz=>(hch p.1 z).2.2.2 p hp rfl;exact ⟨keep p.1 p.2 ne nf nch e n,free p.1 p.2 nch e n,ne,nf,d⟩
theorem Inv.un (I:Inv X pins σ H s)(u:Un X.fs [] H H' s.heap h')(hok:HOk X.prog X.w H' h'):Inv X pins σ H' { s with heap:=h',toks:=t' }:=by
 obtain ⟨m,⟨o,es,ep,ho,r⟩,_⟩:=id I.loc;obtain ⟨sl,hL⟩:=u.any ho I.free (by simp);exact I.step (g':=s.gens) (d':=s.drawn) (ch:=[]) (λ_ z=>nomatch z) (λb o _ hb _ e n=>u.keep b o e n hb (by simp)) (λb o _ hb _ e n=>u.slot b o e n hb (by simp)) (λb o _ e n=>u.free b o e n (by simp)) (λb o _ e=>u.there b o e (by simp)) u.tups u.frzs u.tbls (λm' hm=>by
  obtain ⟨o',es',ep',ho',r'⟩:=hm;rw [ho] at ho';cases ho';exact ⟨_,es',ep',hL,r'⟩) hok I.bare
theorem Inv.call (I:Inv X pins σ H s)(u:Un (frs X.stack) ch H H' s.heap h')(hok:HOk X.prog X.w H' h')(hg:AllBare g')(hch:∀ b∈ch,(b∈X.ex∨X.s₀.heap.objs.size<=b)/\b≠X.env.locals/\(∀ x c,X.env.cells.lookup x=some c->c≠b)/\∀ p∈X.pn++pins,p.1≠b):Inv X pins σ H' { s with heap:=h',gens:=g',drawn:=d',toks:=t' }:=by
 obtain ⟨m,⟨o,es,ep,ho,r⟩,_⟩:=id I.loc;obtain ⟨sl,hL⟩:=u.any ho I.free λz=>(hch _ z).2.1 rfl;exact I.step (ch:=ch) hch (λb o hL hb hc e n=>u.keep b o e n (λz=>(yM.mp (I.stkSub b z)).elim hL hb) hc) (λb o _ _ hc e n=>u.any e n hc) (λb o hc e n=>u.free b o e n hc) (λb o hc e=>u.there b o e hc) u.tups u.frzs u.tbls (λm' hm=>by
  obtain ⟨o',es',ep',ho',r'⟩:=hm;rw [ho] at ho';cases ho';exact ⟨_,es',ep',hL,r'⟩) hok hg
theorem Inv.turned (I:Inv X pins σ H s)(k:∀ b o,b≠it->s.heap.get? b=some o->h'.get? b=some o)(hn:H it=none)(hL:it≠X.env.locals)(h1:it∈X.ex∨X.s₀.heap.objs.size<=it)(h2:∀ x c,X.env.cells.lookup x=some c->c≠it)(h3:∀ p∈X.pn++pins,p.1≠it):Inv X pins σ H { s with heap:=h',toks:=t' }:=by
 have nit:∀ b u,H b=some u->b≠it:=λb u e z=>by rw [z,hn] at e;cases e
 refine I.step (g':=s.gens) (d':=s.drawn) (ch:=[it]) (λb hb=>?_) (λb o _ _ hc e _=>k b o (λz=>hc (by simp [z])) e) (λb o _ _ hc e _=>⟨o.slots,k b o (λz=>hc (by simp [z])) e⟩) (λ_ _ _ _ n=>n)
  (λb o hc e=>⟨o,k b o (λz=>hc (by simp [z])) e⟩) (λ_ _ e=>e) (λ_ _ _ e=>e) (λ_ _ _ e=>e) (λm hm=>?_) (λb u e=>?_) I.bare
 ·have e:b=it:=by simpa using hb
  subst e;exact ⟨h1,hL,h2,h3⟩
 ·obtain ⟨o,es,ep,ho,r⟩:=hm;exact ⟨o,es,ep,k _ o (Ne.symm hL) ho,r⟩
 ·refine (I.hok b u e).stay (λc v hc q=>k c v ?_ q) (λ_ q=>q) (λ_ _ q=>q) λ_ _ _ q=>q;rcases hc with z|z
  ·rw [z];exact nit b u e
  ·exact nit c _ z
theorem Inv.tok (I:Inv X pins σ H s)(t:Nat):Inv X pins σ H { s with toks:=t }:=I.un (h':=s.heap) (t':=t) Un.refl I.hok
theorem Inv.kept (I:Inv X pins σ H s)(k:∀ b u,s.heap.get? b=some u->h'.get? b=some u):Inv X pins σ H { s with heap:=h',toks:=t' }:=I.un (Un.kept k) (I.hok.kept k)
theorem Inv.laid (I:Inv X pins σ H s)(k:∀ b u,s.heap.get? b=some u->h'.get? b=some u)(hp:s.heap.objs.size<=a)(new:ObjOk X.prog X.w (z8 H a o) h' a o):Inv X pins σ (z8 H a o) { s with heap:=h',toks:=t' }:=I.un (Un.laid k hp (I.hok.fresh hp)) (I.hok.laid k hp new)
theorem Inv.write {x e:Addr}(I:Inv X pins σ H s)(mu:Mut (H x))(he:e=x∨H e=some (.own x))(k:∀ b u,b≠e->s.heap.get? b=some u->h'.get? b=some u)(heo:∃ u,h'.get? e=some u)(new:ObjOk X.prog X.w (z8 H x o) h' x o):Inv X pins σ (z8 H x o) { s with heap:=h',toks:=t' }:=I.un (Un.write mu he k heo) (I.hok.write mu he k heo new)
theorem Inv.weak {σ':List (Option V)}(I:Inv X pins σ H s)(hl:σ'.length=σ.length)(w:∀(i:Nat) v,σ'[i]?=some (some v)->σ[i]?=some (some v)):Inv X pins σ' H s :=
 ⟨I.ok,I.os,I.bare,I.base,let ⟨m,hn,hl'⟩:=I.loc;⟨m,hn,λi x v e1 e2 e3=>hl' i x v e1 (w i v e2) e3⟩,I.cell,I.free,I.freeC,I.pin,I.hok,hl.trans I.len⟩
theorem Inv.pins_of {pins':List (Addr×Obj)}(I:Inv X pins σ H s)(h:∀ p∈pins',s.heap.get? p.1=some p.2/\H p.1=none/\p.1≠X.env.locals/\p.1∉X.fs/\∀ v,p.2.data ≠ .cell v):Inv X pins' σ H s :=
 ⟨I.ok,I.os,I.bare,I.base,I.loc,I.cell,I.free,I.freeC,λp hp=>(yk.mp hp).elim (λz=>I.pin p (uD _ z)) (h p),I.hok,I.len⟩
theorem Yl (hN:N.Nodup){i:Nat}(a:N[i]?=some x)(b:N[j]?=some x):i=j:=by obtain ⟨h1,e1⟩:=yG.mp a;obtain ⟨h2,e2⟩:=yG.mp b;exact (List.getElem_inj hN).mp (e1.trans e2.symm)
theorem Us {M:Model}{i:Nat}{Q:Unit->Shared->Prop}(I:Inv X pins σ H s)(hN:X.N.Nodup)(hi:X.N[i]?=some x)(hx:Loc X.env.scope x)(r:RelV v u)(h:∀ s',Inv X pins (σ.set i (some v)) H s'->(∃ a,Heap.SameBut a s.heap s'.heap/\(a=X.env.locals∨X.env.cells.lookup x=some a))->Q () s')(hf:X.fn x=true∨X.env.scope.names.lookup x=some .local:=by first|exact .inl rfl|exact .inr rfl|assumption):wpAny M A (storeName X.env x u) Q E s:=by
 obtain ⟨m,hn,hl⟩:=id I.loc;have hcls:(X.env.scope.kind == .class || (X.env.scope.kind == .module&&X.env.locals != X.env.globals))=false:=by rw [I.ok.kind];rfl
 have hiσ:i<σ.length:=by rw [I.len];exact (yG.mp hi).1
 have cne:=I.cne;have tracked:∀{a:Addr}{h':Heap},(∃ o,s.heap.get? a=some o/\H a=none)->Heap.SameBut a s.heap h'->HOk X.prog X.w H h':=λ{a h'} ha hs b ob e=>by
  obtain ⟨_,_,hfree⟩:=ha;refine (I.hok b ob e).stay (λc w' hc q=>(hs.2 c ?_).trans q) (λ_ q=>q) (λ_ _ q=>q) λ_ _ _ q=>q;rintro rfl;rcases hc with rfl|hc
  ·rw [hfree] at e;cases e
  ·rw [hfree] at hc;cases hc
 rcases hx with hk|hk
 ·refine wpAny_storeName_local hk hn (λh' hn' hs=>?_) hcls;obtain ⟨oL,_,_,hoL,_⟩:=id hn;refine h _ ⟨I.ok,I.os,I.bare,⟨λb o e n hb hx=>?_,λb o e n hb hx=>?_,I.base.free,λb o e hx=>?_,I.base.tups,I.base.frzs,I.base.tbls⟩,⟨_,hn',λj y v' e1 e2 e3=>?_⟩,λy c e=>?_,I.free,I.freeC,λp hp=>?_,tracked ⟨oL,hoL,I.free⟩ hs,by simpa using I.len⟩ ⟨_,hs,.inl rfl⟩
  ·exact (hs.2 b (yJ (yy (yP e) I.ok.above))).trans (I.base.keep b o e n hb hx)
  ·obtain ⟨sl,e1⟩:=I.base.slot b o e n hb hx;exact ⟨sl,(hs.2 b (yJ (yy (yP e) I.ok.above))).trans e1⟩
  ·obtain ⟨o',e1⟩:=I.base.there b o e hx;exact ⟨o',(hs.2 b (yJ (yy (yP e) I.ok.above))).trans e1⟩
  ·by_cases hj:j=i
   ·subst hj;rw [hi] at e1;cases e1;rw [ye hiσ] at e2;cases e2;exact ⟨u,r,.inl ⟨hk,by simp⟩⟩
   ·rw [yv (Ne.symm hj)] at e2;obtain ⟨u',r',q⟩:=hl j y v' e1 e2 e3;refine ⟨u',r',?_⟩;rcases q with ⟨k,e⟩|⟨k,c,e,z⟩
    ·refine .inl ⟨k,?_⟩;have:y≠x:=λe=>hj (Yl hN e1 (e▸hi));simp [this,e]
    ·exact .inr ⟨k,c,e,z.sameBut hs (cne y c e)⟩
  ·obtain ⟨w',z⟩:=I.cell y c e;exact ⟨w',z.sameBut hs (cne y c e)⟩
  ·obtain ⟨e,n,ne,nf,d⟩:=I.pin p hp;exact ⟨(hs.2 p.1 ne).trans e,n,ne,nf,d⟩
 ·have hfn:X.fn x=true:=by
   rcases hf with z|z
   ·exact z
   ·rw [z] at hk;cases hk
  obtain ⟨c,hc⟩:=I.ok.has x (.inl hk);obtain ⟨w',z⟩:=I.cell x c hc;refine wpAny_storeName_cell I.ok.kind hk hc z (λh' hc' hs=>?_);obtain ⟨oc,hoc,hocd⟩:=id z;refine h { s with heap:=h' } ⟨I.ok,I.os,I.bare,⟨λb o e n hb hx=>?_,λb o e n hb hx=>?_,I.base.free,λb o e hx=>?_,I.base.tups,I.base.frzs,I.base.tbls⟩,⟨m,hn.sameBut hs (Ne.symm (cne x c hc)),λj y v' e1 e2 e3=>?_⟩,λy c' e=>?_,I.free,I.freeC,λp hp=>?_,tracked ⟨oc,hoc,I.freeC x c hc⟩ hs,by simpa using I.len⟩ ⟨c,hs,.inr hc⟩
  ·exact (hs.2 b (yJ (yy (yP e) (I.ok.cab x c hfn hc)))).trans (I.base.keep b o e n hb hx)
  ·obtain ⟨sl,e1⟩:=I.base.slot b o e n hb hx;exact ⟨sl,(hs.2 b (yJ (yy (yP e) (I.ok.cab x c hfn hc)))).trans e1⟩
  ·obtain ⟨o',e1⟩:=I.base.there b o e hx;exact ⟨o',(hs.2 b (yJ (yy (yP e) (I.ok.cab x c hfn hc)))).trans e1⟩
  ·by_cases hj:j=i
   ·subst hj;rw [hi] at e1;cases e1;rw [ye hiσ] at e2;cases e2;exact ⟨u,r,.inr ⟨.inl hk,c,hc,hc'⟩⟩
   ·rw [yv (Ne.symm hj)] at e2;obtain ⟨u',r',q⟩:=hl j y v' e1 e2 e3;refine ⟨u',r',?_⟩;rcases q with q|⟨k,c',e,z'⟩
    ·exact .inl q
    ·refine .inr ⟨k,c',e,z'.sameBut hs ?_⟩;rintro rfl;exact hj (Yl hN e1 (I.ok.inj _ _ _ e hc▸hi))
  ·by_cases hcc:c'=c
   ·subst hcc;exact ⟨_,hc'⟩
   ·obtain ⟨w2,z2⟩:=I.cell y c' e;exact ⟨w2,z2.sameBut hs hcc⟩
  ·obtain ⟨e,n,ne,nf,d⟩:=I.pin p hp;refine ⟨(hs.2 p.1 ?_).trans e,n,ne,nf,d⟩;intro q;rw [q,hoc] at e;have q':oc=p.2:=Option.some.inj e;exact d w' (by rw [<- q'];exact hocd)
theorem Ur {M:Model}{i:Nat}{Q:Unit->Shared->Prop}(I:Inv X pins σ H s)(hN:X.N.Nodup)(hi:X.N[i]?=some x)(hx:Loc X.env.scope x)(r:RelV v u)(h:∀ s',Inv X pins (σ.set i (some v)) H s'->Q () s')(hf:X.fn x=true∨X.env.scope.names.lookup x=some .local:=by first|exact .inl rfl|exact .inr rfl|assumption):wpAny M A (storeName X.env x u) Q E s :=
 Us I hN hi hx r (λs' I' _=>h s' I') hf
theorem Inv.call' (I:Inv X pins σ H s)(ho:s'.os=s.os)(u:Un (frs X.stack) ch H H' s.heap s'.heap)(hok:HOk X.prog X.w H' s'.heap)(hg:AllBare s'.gens)(hch:∀ b∈ch,(b∈X.ex∨X.s₀.heap.objs.size<=b)/\b≠X.env.locals/\(∀ x c,X.env.cells.lookup x=some c->c≠b)/\∀ p∈X.pn++pins,p.1≠b):Inv X pins σ H' s':=by obtain ⟨h',g',d',t',o'⟩:=s';have e:o'=s.os:=ho;subst e;exact I.call (g':=g') (t':=t') (d':=d') u hok hg hch
end
abbrev XK:=Value->Option Addr->Hp->Prop
abbrev St:=List (Option V)
variable{σ:St}
abbrev VK:=V->Hp->Prop
abbrev TE:=St->Hp->VK->Prop
variable{t te:TE}
abbrev TT:=St->Hp->(Bool->Hp->Prop)->Prop
abbrev TA:=St->Hp->(List V->Hp->Prop)->Prop
structure qD where
 nx:St->Hp->Prop
 rt:VK
 bk:St->Hp->Prop:=λ_ _=>False
 ct:St->Hp->Prop:=λ_ _=>False
variable{D:qD}
abbrev TS:=qD->St->Hp->Prop
variable{tb:TS}
def EP (X:Cx)(pins:List (Addr×Obj))(σ:St)(Q:VK)(u:Value)(s':Shared):Prop:=∃ v H',Inv X pins σ H' s'/\RelV v u/\Q v H'
def TP (X:Cx)(pins:List (Addr×Obj))(σ:St)(Q:Bool->Hp->Prop)(b:Bool)(s':Shared):Prop:=∃ H',Inv X pins σ H' s'/\Q b H'
def AP (X:Cx)(pins:List (Addr×Obj))(σ:St)(Q:List V->Hp->Prop)(us:List Value)(s':Shared):Prop:=∃ vs H',Inv X pins σ H' s'/\Vals vs us/\Q vs H'
def SP (X:Cx)(pins:List (Addr×Obj))(D:qD)(f:Flow)(s':Shared):Prop :=
 match f with
 | .next=>∃ σ' H',Inv X pins σ' H' s'/\D.nx σ' H'
 | .brk=>∃ σ' H',Inv X pins σ' H' s'/\D.bk σ' H'
 | .cont=>∃ σ' H',Inv X pins σ' H' s'/\D.ct σ' H'
 | .ret u=>∃ v σ' H',Inv X pins σ' H' s'/\RelV v u/\D.rt v H'
def PE (X:Cx)(e:Expr)(t:TE):Prop :=
 ∀(pins:List (Addr×Obj))(s:Shared)(σ:St)(H:Hp)(Q:VK),Inv X pins σ H s->t σ H Q->wpAny (model X.prog X.w) X.A (eval e X.env) (EP X pins σ Q) X.xe s
def PT (X:Cx)(e:Expr)(t:TT):Prop :=
 ∀(pins:List (Addr×Obj))(s:Shared)(σ:St)(H:Hp)(Q:Bool->Hp->Prop),Inv X pins σ H s->t σ H Q->wpAny (model X.prog X.w) X.A (isTrue e X.env (eval e X.env)) (TP X pins σ Q) X.xe s
def PW (X:Cx)(e:Expr)(t:TT):Prop :=
 ∀(whole:Sem Value)(pins:List (Addr×Obj))(s:Shared)(σ:St)(H:Hp)(Q:Bool->Hp->Prop),Inv X pins σ H s->t σ H Q->wpAny (model X.prog X.w) X.A (isTrue e X.env whole) (TP X pins σ Q) X.xe s
theorem PW.pt {t:TT}(h:PW X e t):PT X e t:=h _
def PA (X:Cx)(es:List Expr)(t:TA):Prop :=
 ∀(pos:Pos)(pins:List (Addr×Obj))(s:Shared)(σ:St)(H:Hp)(Q:List V->Hp->Prop),Inv X pins σ H s->t σ H Q->wpAny (model X.prog X.w) X.A (spliced (backTo pos (starEach es X.env))) (AP X pins σ Q) X.xe s
def PS (X:Cx)(st:Stmt)(t:TS):Prop :=
 ∀(pins:List (Addr×Obj))(s:Shared)(σ:St)(H:Hp)(D:qD),Inv X pins σ H s->t D σ H->wpAny (model X.prog X.w) X.A (exec st X.env) (SP X pins D) X.xe s
def PSs (X:Cx)(st:List Stmt)(t:TS):Prop :=
 ∀(pins:List (Addr×Obj))(s:Shared)(σ:St)(H:Hp)(D:qD),Inv X pins σ H s->t D σ H->wpAny (model X.prog X.w) X.A (execs st X.env) (SP X pins D) X.xe s
theorem j4 {t:Sem α}{Q Q':α->Shared->Prop}{M:Model}(h:wpAny M A t Q E s)(hQ:∀ a s,Q a s->Q' a s):wpAny M A t Q' E s:=wpAny_mono h hQ λ_ _ x=>x
section
variable {X:Cx}
theorem bin {a b:Expr}{ta tb:TE}(ha:PE X a ta)(hb:PE X b tb)(I:Inv X pins σ H s)(h:ta σ H λx H1=>tb σ H1 λy H2=>R x y H2){Q:α->Shared->Prop}{f:Value->Value->Sem α}(hf:∀ v u s2 x y H2,Inv X pins σ H2 s2->RelV x v->RelV y u->R x y H2->wpAny (model X.prog X.w) X.A (f v u) Q X.xe s2):wpAny (model X.prog X.w) X.A (eval a X.env) (λv s₁=>wpAny (model X.prog X.w) X.A (eval b X.env) (λu s₂=>wpAny (model X.prog X.w) X.A (f v u) Q X.xe s₂) X.xe s₁) X.xe s:=by refine j4 (ha pins s σ H _ I h) λv s1 ⟨x,H1,I1,r1,q1⟩=>?_;refine j4 (hb pins s1 σ H1 _ I1 q1) λu s2 ⟨y,H2,I2,r2,q2⟩=>?_;exact hf v u s2 x y H2 I2 r1 r2 q2
def m3 (i:Nat):TE:=λσ H Q=>∃ v,σ[i]?=some (some v)/\Q v H
def tC (v:V):TE:=λ_ H Q=>Q v H
theorem Cy {i:Nat}(hN:X.N[i]?=some x)(hv:Vis X.env.scope x)(hd:(x==("__debug__":Str))=false:=by decide)(hcd:(x==("__classdict__":Str))=false:=by decide):PE X (.Name x pos) (m3 i):=by
 intro pins s σ H Q I h;obtain ⟨v,e,h⟩:=h;obtain ⟨m,hn,hl⟩:=I.loc;obtain ⟨u,r,l⟩:=hl i x v hN e hv;have fin:EP X pins σ Q u s:=⟨v,H,I,r,h⟩;rcases l with ⟨hk,hm⟩|⟨hk,c,hc,hcell⟩
 ·exact wpAny_Name (wpAny_loadName_local I.ok.kind hk hn hm fin) hd
 ·rcases hk with hk|hk
  ·exact wpAny_Name (wpAny_loadName_cell I.ok.kind hk hc hcell fin) hd
  ·exact wpAny_Name (wpAny_loadName_free I.ok.kind hk hc hcell fin hcd) hd
theorem z7 {i j pos}:PE X (.Constant (.int i) j pos) (tC (.int i)):=λ_ _ _ H _ I h=>wpAny_Constant_int ⟨.int i,H,I.tok _,⟨_,rfl⟩,h⟩
theorem xO {b j pos}:PE X (.Constant (.bool b) j pos) (tC (.bl b)):=λ_ _ _ H _ I h=>Constant_bool ⟨.bl b,H,I,rfl,h⟩
theorem jH {j pos}:PE X (.Constant .none j pos) (tC .non):=λ_ _ _ H _ I h=>Constant_none ⟨.non,H,I,rfl,h⟩
theorem qK {x j pos}:PE X (.Constant (.str x) j pos) (tC (.str x)):=λ_ _ _ H _ I h=>Calls.Constant_str ⟨.str x,H,I.tok _,⟨_,rfl⟩,h⟩
def Gl (X:Cx)(x:Str):Prop:=X.env.kindOf x=some .globalImplicit
theorem XV (I:Inv X pins σ H s)(hg:Gl X x)(hm:X.mg x=some u)(h:Q u s)(hd:(x==("__debug__":Str))=false:=by decide):wpAny (model X.prog X.w) X.A (eval (.Name x pos) X.env) Q E s :=
 Calls.Name_function_global I.ok.kind hg (Calls.loadGlobal_global (by rw [I.ok.glob];exact I.mod.glob.keeps I.bk) hm h) hd
theorem zQ (I:Inv X pins σ H s)(hg:Gl X x)(hm:X.mg x=none)(hv:bootBuiltins x=some u)(h:Q u s)(hn:x ≠ "__name__":=by decide)(hd:(x==("__debug__":Str))=false:=by decide):wpAny (model X.prog X.w) X.A (eval (.Name x pos) X.env) Q E s:=by obtain ⟨mb,h1,h2⟩:=I.mod.blt;exact Calls.Name_function_global I.ok.kind hg (Calls.loadGlobal_builtin (by rw [I.ok.glob];exact I.mod.glob.keeps I.bk) hm (by rw [I.ok.blt];exact h1.keeps I.bk) ((h2 x hn).trans hv) h) hd
theorem QU (hg:Gl X x)(hm:X.mg x=some u)(r:RelV v u)(hd:(x==("__debug__":Str))=false:=by decide):PE X (.Name x pos) (tC v) :=
 λ_ _ _ H _ I h=>XV I hg hm ⟨v,H,I,r,h⟩ hd
theorem xP (hg:Gl X x)(hm:X.mg x=none)(hv:bootBuiltins x=some u)(r:RelV v u)(hn:x ≠ "__name__":=by decide)(hd:(x==("__debug__":Str))=false:=by decide):PE X (.Name x pos) (tC v) :=
 λ_ _ _ H _ I h=>zQ I hg hm hv ⟨v,H,I,r,h⟩ hn hd
variable {a b:Expr}{ta tb:TE}{pos:Pos}
def PC (X:Cx)(op:CmpOp)(a b:Expr)(t:TE):Prop :=
 ∀(pins:List (Addr×Obj))(s:Shared)(σ:St)(H:Hp)(Q:VK),Inv X pins σ H s->t σ H Q ->
  wpAny (model X.prog X.w) X.A (eval a X.env) (λv s₁=>wpAny (model X.prog X.w) X.A (eval b X.env) (λu s₂=>wpAny (model X.prog X.w) X.A (compareOp op v u) (EP X pins σ Q) X.xe s₂) X.xe s₁) X.xe s
def tB (t:TE):TT:=λσ H Q=>t σ H λx H1=>∃ c,x = .bl c/\Q c H1
theorem YE (h:PC X op a b t)(h1:behindInMarks op b=false:=by first|exact nobehind _ (by decide) (by decide)|rfl):PT X (.Compare a [op] [b] pos) (tB t):=by intro pins s σ H Q I hw;refine wpAny_isTrue_Compare1 (j4 (h pins s σ H _ I hw) λv s1 h1=>j4 h1 λu s2 h2=>j4 h2 λc s3 ⟨x,H1,I1,r1,q1⟩=>?_) h1;obtain ⟨d,rfl,q⟩:=q1;cases r1;exact wpAny_truthy_bool ⟨H1,I1,q⟩
variable {tA tB':TT}{rest:List Expr}
def tAnd (t u:TT):TT:=λσ H Q=>t σ H λc H1=>if c=true then u σ H1 Q else Q false H1
def tOr (t u:TT):TT:=λσ H Q=>t σ H λc H1=>if c=true then Q true H1 else u σ H1 Q
def tNot (t:TT):TT:=λσ H Q=>t σ H λc H1=>Q (!c) H1
theorem Zr (ha:PT X a tA):PW X (.BoolOp .And [a] pos) tA:=by
 intro wh pins s σ H Q I h;refine isTrue_and (j4 (ha pins s σ H Q I h) λc s1 e=>?_);cases c with
 |true=>exact isTrue_and_nil e
 |false=>exact e
theorem zD (ha:PT X a tA):PW X (.BoolOp .Or [a] pos) tA:=by
 intro wh pins s σ H Q I h;refine isTrue_or (j4 (ha pins s σ H Q I h) λc s1 e=>?_);cases c with
 |false=>exact isTrue_or_nil e
 |true=>exact e
theorem Zq (ha:PT X a tA)(hb:PW X (.BoolOp .And (b::rest) pos) tB'):PW X (.BoolOp .And (a::b::rest) pos) (tAnd tA tB'):=by
 intro wh pins s σ H Q I h;refine isTrue_and (j4 (ha pins s σ H _ I h) λc s1 ⟨H1,I1,q1⟩=>?_);cases c with
 |true=>exact hb wh pins s1 σ H1 Q I1 q1
 |false=>exact ⟨H1,I1,q1⟩
theorem xj (ha:PT X a tA)(hb:PW X (.BoolOp .Or (b::rest) pos) tB'):PW X (.BoolOp .Or (a::b::rest) pos) (tOr tA tB'):=by
 intro wh pins s σ H Q I h;refine isTrue_or (j4 (ha pins s σ H _ I h) λc s1 ⟨H1,I1,q1⟩=>?_);cases c with
 |true=>exact ⟨H1,I1,q1⟩
 |false=>exact hb wh pins s1 σ H1 Q I1 q1
theorem qe (ha:PT X a tA):PT X (.UnaryOp .Not a pos) (tNot tA):=by intro pins s σ H Q I h;exact isTrue_not (ha pins s σ H (λc H1=>Q (!c) H1) I h)
def Uu (ta tb:TE):TE:=λσ H Q=>ta σ H λx H1=>∃ c,x = .bl c/\if c=true then tb σ H1 Q else Q (.bl false) H1
def UA (ta:TE):TE:=λσ H Q=>ta σ H λx H1=>∃ c,x = .bl c/\Q (.bl (!c)) H1
theorem zX {op}(h:PE X a t):PE X (.BoolOp op [a] pos) t:=λpins s σ H Q I hw=>BoolOp_one (h pins s σ H Q I hw)
theorem zB (ha:PE X a ta)(hb:PE X (.BoolOp .And (b::rest) pos) tb):PE X (.BoolOp .And (a::b::rest) pos) (Uu ta tb):=by
 intro pins s σ H Q I h;refine BoolOp_and (j4 (ha pins s σ H _ I h) λv s1 ⟨x,H1,I1,r1,q1⟩=>?_);obtain ⟨c,rfl,q1⟩:=q1;cases r1;refine wpAny_truthy_bool ?_;cases c with
 |true=>exact hb pins s1 σ H1 Q I1 q1
 |false=>exact ⟨.bl false,H1,I1,rfl,q1⟩
theorem Cv (ha:PE X a ta):PE X (.UnaryOp .Not a pos) (UA ta):=by intro pins s σ H Q I h;refine UnaryOp_ (j4 (ha pins s σ H _ I h) λv s1 ⟨x,H1,I1,r1,q1⟩=>?_);obtain ⟨c,rfl,q1⟩:=q1;cases r1;exact not_of (wpAny_truthy_bool ⟨.bl (!c),H1,I1,rfl,q1⟩)
def tIf (t:TT)(ta tb:TE):TE:=λσ H Q=>t σ H λc H1=>if c=true then ta σ H1 Q else tb σ H1 Q
theorem Yu (hc:PT X c tA)(ha:PE X a ta)(hb:PE X b tb):PE X (.IfExp c a b pos) (tIf tA ta tb):=by
 intro pins s σ H Q I h;refine wpAny_IfExp (j4 (hc pins s σ H _ I h) λd s1 ⟨H1,I1,q1⟩=>?_);cases d with
 |true=>exact ha pins s1 σ H1 Q I1 q1
 |false=>exact hb pins s1 σ H1 Q I1 q1
end
def SqL (K:Fg)(H:Hp)(a:Addr)(xs:List V):Prop :=
 Rd H a (.lst xs) ∨
  ∃ (o:Obj) (its:Array Value) (n:Nat),K.lookup a=some o/\o.cls = .type "list"/\o.dict=none/\o.data = .seq its n/\its.size<=sizeLine/\Vals xs its.toList
def SqT (K:Fg)(H:Hp)(a:Addr)(xs:List V):Prop :=
 Rd H a (.tup xs) ∨
  ∃ (o:Obj) (its:Array Value) (n:Nat),K.lookup a=some o/\o.cls = .type "tuple"/\o.data = .seq its n/\its.size<=sizeLine/\Vals xs its.toList
def absV:Value->Option V
 | .none=>some .non
 | .bool b=>some (.bl b)
 | .int i _=>some (.int i)
 | .str x _=>some (.str x)
 | .bytes b _=>some (.byt b)
 | .float b _=>some (.flt b)
 | .ref a=>some (.ref a)
 | .type n=>some (.ty n)
 |_=>none
theorem RelV.abs {x:V}(r:RelV x u):absV u=some x:=by
 cases x with
 |non=>cases r;rfl
 |bl _=>cases r;rfl
 |int _=>obtain ⟨t,rfl⟩:=r;rfl
 |str _=>obtain ⟨t,rfl⟩:=r;rfl
 |byt _=>obtain ⟨t,rfl⟩:=r;rfl
 |flt _=>obtain ⟨t,rfl⟩:=r;rfl
 |ref _=>cases r;rfl
 |ty _=>cases r;rfl
theorem RelV.inj {x:V}(r:RelV x u)(q:RelV y u):x=y:=Option.some.inj (r.abs.symm.trans q.abs)
theorem Vals.inj:∀{xs ys:List V}{us:List Value},Vals xs us->Vals ys us->xs=ys
 |_,_,_,.nil,.nil=>rfl
 |_,_,_,.cons r t,.cons r' t'=>by rw [r.inj r',Vals.inj t t']
section
variable {X:Cx}{pins:List (Addr×Obj)}{σ:St}{H:Hp}{s:Shared}{a:Addr}{xs ys:List V}
theorem SqL.of (h:H a=some (.lst xs)):SqL K H a xs:= .inl (.inl h)
theorem SqT.of (h:H a=some (.tup xs)):SqT K H a xs:= .inl (.inl h)
theorem Inv.list (I:Inv X pins σ H s)(h:SqL X.K H a xs):∃ its:List Value,Vals xs its/\PlainL s.heap a its.toArray/\xs.length<=sizeLine:=by
 rcases h with h|⟨o,its,n,hk,hc,hd,hs,hz,r⟩
 ·obtain ⟨z,its,n,r,e⟩:=h.ok I.hok;exact ⟨its,r,⟨_,n,e,rfl,rfl,rfl⟩,z⟩
 ·refine ⟨its.toList,r,⟨o,n,I.kIn a o hk,hc,hd,by simpa using hs⟩,?_⟩;have e:=r.length;simp only [Array.length_toList] at e;omega
theorem Inv.tuple (I:Inv X pins σ H s)(h:SqT X.K H a xs):∃ its:List Value,Vals xs its/\IsTup s.heap a its.toArray/\xs.length<=sizeLine:=by
 rcases h with h|⟨o,its,n,hk,hc,hs,hz,r⟩
 ·obtain ⟨z,its,r,p⟩:=h.ok I.hok;exact ⟨its,r,p,z⟩
 ·refine ⟨its.toList,r,⟨o,I.kIn a o hk,hc,n,by simpa using hs⟩,?_⟩;have e:=r.length;simp only [Array.length_toList] at e;omega
theorem Inv.list_inj (I:Inv X pins σ H s)(h:SqL X.K H a xs)(h':SqL X.K H a ys):xs=ys:=by
 obtain ⟨its,r,⟨o,n,e,_,_,d⟩,_⟩:=I.list h;obtain ⟨its',r',⟨o',n',e',_,_,d'⟩,_⟩:=I.list h';rw [e] at e';cases e';rw [d] at d';injection d' with d1 _;have:its=its':=by simpa using congrArg Array.toList d1
 subst this;exact r.inj r'
theorem Inv.tuple_inj (I:Inv X pins σ H s)(h:SqT X.K H a xs)(h':SqT X.K H a ys):xs=ys:=by
 obtain ⟨its,r,⟨o,e,_,n,d⟩,_⟩:=I.tuple h;obtain ⟨its',r',⟨o',e',_,n',d'⟩,_⟩:=I.tuple h';rw [e] at e';cases e';rw [d] at d';injection d' with d1 _;have:its=its':=by simpa using congrArg Array.toList d1
 subst this;exact r.inj r'
end
abbrev Cx.wish (X:Cx)(E:Value->Shared->Prop):Cx:={ X with xe:=E }
abbrev Cx.nox (X:Cx):Cx:=X.wish λ_ _=>False
theorem Cx.Ok.wish (ok:X.Ok)(E:Value->Shared->Prop):(X.wish E).Ok :=
 ⟨ok.mod,ok.kind,ok.glob,ok.blt,ok.above,ok.inj,ok.has,ok.cab,ok.hd,ok.frames,ok.stk,ok.exf,ok.bs,ok.bsz,ok.noex,ok.exfs,ok.funs,ok.frf,ok.tbs⟩
theorem Cx.Ok.unwish (ok:(X.wish E).Ok):X.Ok :=
 ⟨ok.mod,ok.kind,ok.glob,ok.blt,ok.above,ok.inj,ok.has,ok.cab,ok.hd,ok.frames,ok.stk,ok.exf,ok.bs,ok.bsz,ok.noex,ok.exfs,ok.funs,ok.frf,ok.tbs⟩
section
variable {X:Cx}{pins:List (Addr×Obj)}{σ:St}{H:Hp}{s:Shared}{E:Value->Shared->Prop}
theorem Inv.wish (I:Inv X pins σ H s)(E:Value->Shared->Prop):Inv (X.wish E) pins σ H s:=⟨I.ok.wish E,I.os,I.bare,I.base,I.loc,I.cell,I.free,I.freeC,I.pin,I.hok,I.len⟩
theorem Inv.unwish (I:Inv (X.wish E) pins σ H s):Inv X pins σ H s:=⟨I.ok.unwish,I.os,I.bare,I.base,I.loc,I.cell,I.free,I.freeC,I.pin,I.hok,I.len⟩
theorem SP.unwish {f:Flow}(h:SP (X.wish E) pins D f s'):SP X pins D f s':=by
 cases f with
 |next=>obtain ⟨σ',H',I,q⟩:=h;exact ⟨σ',H',I.unwish,q⟩
 |brk=>obtain ⟨σ',H',I,q⟩:=h;exact ⟨σ',H',I.unwish,q⟩
 |cont=>obtain ⟨σ',H',I,q⟩:=h;exact ⟨σ',H',I.unwish,q⟩
 |ret u=>obtain ⟨v,σ',H',I,r,q⟩:=h;exact ⟨v,σ',H',I.unwish,r,q⟩
theorem PSs.nox {st:List Stmt}{t:TS}(h:PSs X.nox st t):PSs X st t:=λpins s σ H D I hw =>
 wpAny_mono (h pins s σ H D (I.wish _) hw) (λ_ _ q=>q.unwish) λ_ _ z=>False.elim z
end
section
variable {X:Cx}{st:Stmt}{rest:List Stmt}{t u:TS}{e:Expr}{te:TE}{pos:Pos}
def wR:TS:=λD σ H=>D.nx σ H
def tSeq (t u:TS):TS:=λD σ H=>t { D with nx:=u D } σ H
theorem p9:PSs X [] wR:=λ_ _ σ H _ I h=>wpAny_execs_nil ⟨σ,H,I,h⟩
theorem j5 (h1:PS X st t)(h2:PSs X rest u):PSs X (st::rest) (tSeq t u):=by
 intro pins s σ H D I h;refine wpAny_execs_cons (j4 (h1 pins s σ H { D with nx:=u D } I h) λf s1 q=>?_);cases f with
 |next=>obtain ⟨σ',H',I',q⟩:=q;exact h2 pins s1 σ' H' D I' q
 |ret v=>exact q
 |brk=>exact q
 |cont=>exact q
theorem j7 (h1:PS X st t):PSs X [st] t:=by
 intro pins s σ H D I h;refine wpAny_execs_cons (j4 (h1 pins s σ H D I h) λf s1 q=>?_);cases f with
 |next=>exact wpAny_execs_nil q
 |ret v=>exact q
 |brk=>exact q
 |cont=>exact q
theorem Inv.quiet (I:Inv X pins σ H s):interactive X.env=false:=by simp [interactive,I.ok.kind]
def xV (te:TE):TS:=λD σ H=>te σ H λ_ H1=>D.nx σ H1
theorem xh (he:PE X e te)(hs:swapsWith e none pos.line X.env=pure false:=by rfl):PS X (.Expr e pos) (xV te):=by intro pins s σ H D I h;exact wpAny_Expr_any (j4 (he pins s σ H _ I h) λv s1 ⟨x,H1,I1,r1,q1⟩=>⟨σ,H1,I1,q1⟩) I.quiet hs
def vE (te:TE):TS:=λD σ H=>te σ H D.rt
theorem w9 (he:PE X e te):PS X (.Return (some e) pos) (vE te):=by intro pins s σ H D I h;exact wpAny_Return_some (j4 (he pins s σ H _ I h) λv s1 ⟨x,H1,I1,r1,q1⟩=>⟨x,σ,H1,I1,r1,q1⟩)
def wO (c:TT)(t u:TS):TS:=λD σ H=>c σ H λb H1=>if b=true then t D σ H1 else u D σ H1
theorem p6 {a b:List Stmt}{tc:TT}(hc:PT X c tc)(ha:PSs X a t)(hb:PSs X b u):PS X (.If c a b pos) (wO tc t u):=by
 intro pins s σ H D I h;refine wpAny_If (j4 (hc pins s σ H _ I h) λd s1 ⟨H1,I1,q1⟩=>?_);cases d with
 |true=>exact ha pins s1 σ H1 D I1 q1
 |false=>exact hb pins s1 σ H1 D I1 q1
def Uy:TS:=λ_ _ _=>False
theorem xv:PS X st Uy:=λ_ _ _ _ _ _ h=>h.elim
end
abbrev TG:=V->St->Hp->(St->Hp->Prop)->Prop
variable{g:TG}
abbrev TGs:=List V->St->Hp->(St->Hp->Prop)->Prop
def PG (X:Cx)(target:Expr)(t:TG):Prop :=
 ∀(pins:List (Addr×Obj))(s:Shared)(σ:St)(H:Hp)(v:V)(u:Value)(Q:St->Hp->Prop),Inv X pins σ H s->RelV v u->t v σ H Q ->
  wpAny (model X.prog X.w) X.A (assign target X.env u) (λ_ s'=>∃ σ' H',Inv X pins σ' H' s'/\Q σ' H') X.xe s
def PGs (X:Cx)(ts:List Expr)(t:TGs):Prop :=
 ∀(pins:List (Addr×Obj))(s:Shared)(σ:St)(H:Hp)(vs:List V)(us:List Value)(Q:St->Hp->Prop),Inv X pins σ H s->Vals vs us->t vs σ H Q ->
  wpAny (model X.prog X.w) X.A (assignInOrder ((assignEach ts X.env).map (·.2)) us) (λ_ s'=>∃ σ' H',Inv X pins σ' H' s'/\Q σ' H') X.xe s
abbrev TSet:=V->V->V->Hp->(Hp->Prop)->Prop
def PSet (X:Cx)(t:TSet):Prop :=
 ∀(pins:List (Addr×Obj))(s:Shared)(σ:St)(H:Hp)(o i v:V)(ov iv u:Value)(Q:Hp->Prop),Inv X pins σ H s->RelV o ov->RelV i iv->RelV v u->t o i v H Q ->
  wpAny (model X.prog X.w) X.A (setItem ov iv u) (λ_ s'=>∃ H',Inv X pins σ H' s'/\Q H') X.xe s
section
variable {X:Cx}{pos:Pos}
def r9 (i:Nat):TG:=λv σ H Q=>Q (σ.set i (some v)) H
theorem g9 {i:Nat}(hN:X.N.Nodup)(hi:X.N[i]?=some x)(hx:Loc X.env.scope x)(hf:X.fn x=true∨X.env.scope.names.lookup x=some .local:=by first|exact .inl rfl|exact .inr rfl|assumption):PG X (.Name x pos) (r9 i):=by intro pins s σ H v u Q I r h;exact wpAny_assign_Name (Ur I hN hi hx r (λs' I'=>⟨_,H,I',h⟩) hf)
def gNil:TGs:=λvs σ H Q=>vs=[]/\Q σ H
def XI (t:TG)(u:TGs):TGs:=λvs σ H Q=>∃ v r,vs=v::r/\t v σ H λσ' H'=>u r σ' H' Q
theorem wB:PGs X [] gNil:=by intro pins s σ H vs us Q I r h;obtain ⟨e,h⟩:=h;subst e;cases r;exact assignInOrder_nil ⟨σ,H,I,h⟩
theorem zj {t:TG}{u:TGs}(h1:PG X e t)(h2:PGs X es u)(hs:(assignEach (e::es) X.env).map (·.2)=assign e X.env::(assignEach es X.env).map (·.2):=by rfl):PGs X (e::es) (XI t u):=by
 intro pins s σ H vs us Q I r h;obtain ⟨v,vr,e1,h⟩:=h;subst e1;cases r with
 |cons r rr=>rw [hs];refine assignInOrder_cons (j4 (h1 pins s σ H _ _ _ I r h) λ_ s1 ⟨σ1,H1,I1,q1⟩=>?_);exact h2 pins s1 σ1 H1 _ _ Q I1 rr q1
def gTup (K:Fg)(n:Nat)(t:TGs):TG:=λv σ H Q=>∃ a xs,v = .ref a/\SqT K H a xs/\xs.length=n/\t xs σ H Q
theorem CA {k:Nat}{t:TGs}(hc:X.calm=true)(h:PGs X es t)(hn:(assignEach es X.env).length=n:=by rfl)(hst:(assignEach es X.env).findIdx? (·.1)=none:=by rfl):PG X (.Tuple es k pos) (gTup X.K n t):=by intro pins s σ H v u Q I r hw;obtain ⟨a,xs,e1,hq,hl,hw⟩:=hw;subst e1;cases r;obtain ⟨its,rv,ht,hz⟩:=I.tuple hq;refine assign_Tuple_tuple (I.ok.hd hc) ht (by simp [hn,<- hl,rv.length]) hst λh' hx=>?_;have I1:Inv X pins σ H { s with heap:=h' }:=I.kept (t':=s.toks) λb o e=>hx b o (yJ (yP e)) e;exact h pins _ σ H xs _ Q I1 (by simpa using rv) hw
def gSub (to ti:TE)(t:TSet):TG:=λv σ H Q=>to σ H λo H1=>ti σ H1 λi H2=>t o i v H2 λH3=>Q σ H3
theorem Cz {o i:Expr}{to ti:TE}{t:TSet}(ho:PE X o to)(hi:PE X i ti)(hs:PSet X t)
  (ha:∀ v,assign (.Subscript o i pos) X.env v=(do
   let ov <- holding [v] (eval o X.env)
   let iv <- holding [v,ov] (eval i X.env)
   standAt pos
   holding [v,ov,iv] (setItem ov iv v)
   release [v,ov,iv] []):=by intro _;rfl):PG X (.Subscript o i pos) (gSub to ti t):=by
 intro pins s σ H v u Q I r h;rw [ha];refine yR (wpAny_holding (j4 (ho pins s σ H _ I h) λov s1 ⟨x,H1,I1,r1,q1⟩=>?_));refine yR (wpAny_holding (j4 (hi pins s1 σ H1 _ I1 q1) λiv s2 ⟨y,H2,I2,r2,q2⟩=>?_));refine yR (wpAny_standAt (yR (wpAny_holding (j4 (hs pins s2 σ H2 x y v ov iv u _ I2 r1 r2 r q2) λ_ s3 ⟨H3,I3,q3⟩=>?_))));exact wpAny_release ⟨σ,H3,I3,q3⟩
def qT (te:TE)(g:TG):TS:=λD σ H=>te σ H λx H1=>g x σ H1 D.nx
theorem CN (he:PE X e te)(hg:PG X tg g)(hs:swapsWithSole [tg] e pos.line X.env=pure false:=by rfl)(hw:swappedStores [tg] e X.env=pure none:=by rfl)(h1:(assignEach [tg] X.env).map (·.2)=[assign tg X.env]:=by rfl):PS X (.Assign [tg] e pos) (qT te g):=by intro pins s σ H D I h;refine wpAny_Assign_stores (j4 (he pins s σ H _ I h) λv s1 ⟨x,H1,I1,r1,q1⟩=>?_) hs hw;rw [h1];exact j4 (hg pins s1 σ H1 x v _ I1 r1 q1) λ_ s2 q=>q
theorem o7 {i:Nat}{x:Str}{e:Expr}{te:TE}{pos':Pos}(hN:X.N.Nodup)(hi:X.N[i]?=some x)(hx:Loc X.env.scope x)(he:PE X e te)(hs:swapsWith e (some (.Name x pos')) pos.line X.env=pure false:=by rfl)(hf:X.fn x=true∨X.env.scope.names.lookup x=some .local:=by first|exact .inl rfl|exact .inr rfl|assumption):PS X (.Assign [.Name x pos'] e pos) (qT te (r9 i)):=by intro pins s σ H D I h;refine wpAny_Assign_Name (j4 (he pins s σ H _ I h) λv s1 ⟨y,H1,I1,r1,q1⟩=>?_) hs;exact Ur I1 hN hi hx r1 (λs2 I2=>⟨_,H1,I2,q1⟩) hf
end
structure It where
 go:Nat->Hp->Prop
 yld:Nat->Hp->V->Hp->Prop
 stop:Nat->Hp->Prop
def qy (X:Cx)(pins:List (Addr×Obj))(H:Hp)(b:Addr):Prop :=
 H b=none/\b≠X.env.locals/\b∉X.fs/\(b∈X.ex∨X.s₀.heap.objs.size<=b)/\(∀ x c,X.env.cells.lookup x=some c->c≠b)/\∀ p∈X.pn++pins,p.1≠b
theorem Inv.fpOk {H':Hp}(I:Inv X pins σ H s)(hb:s.heap.objs.size<=b)(hn:H' b=none):qy X pins H' b:=by
 refine ⟨hn,Nat.ne_of_gt (yy I.lt hb),I.nofs hb,.inr (yf I.sz hb),λx c e z=>?_,λp hp z=>?_⟩
 ·obtain ⟨v,q⟩:=I.cell x c e;exact absurd (yy q.lt (by rw [z];exact hb)) (uZ _)
 ·exact absurd (yy (yP (I.pin p hp).1) (by rw [z];exact hb)) (uZ _)
structure zJ (P:Program)(w:World)(K:Fg)(tg:Expr)(J:It)(fp:List Addr)(it:Addr)(tn:Nat->Heap->Prop):Prop where
 mem:it∈fp
 obj:∀ i h,tn i h->∀ b∈fp,∃ o,h.get? b=some o/\∀ v,o.data ≠ .cell v
 keep:∀ i h h',tn i h->(∀ b∈fp,∀ o,h.get? b=some o->h'.get? b=some o)->tn i h'
 item:∀(X:Cx),X.prog=P->X.w=w->X.K=K->X.calm=true->∀(i:Nat)(pins:List (Addr×Obj))(s:Shared)(σ:St)(H:Hp)(E:Value->Shared->Prop),Inv X pins σ H s->(∀ b∈fp,qy X pins H b)->tn i s.heap->J.go i H ->
  wpAny (model P w) X.A (pyNext (.ref it)) (λr s1=>∃ u,r=some u /\
   wpAny (model P w) X.A (letOwnedTupleGo tg (.ref it) u) (λ_ s2=>∃ x H',Inv X pins σ H' s2/\RelV x u/\J.yld i H x H'/\tn (i+1) s2.heap/\∀ b∈fp,H' b=none) E s1) E s
 done:∀(X:Cx),X.prog=P->X.w=w->X.K=K->X.calm=true->∀(i:Nat)(pins:List (Addr×Obj))(s:Shared)(σ:St)(H:Hp)(E:Value->Shared->Prop),Inv X pins σ H s->(∀ b∈fp,qy X pins H b)->tn i s.heap->J.stop i H ->
  wpAny (model P w) X.A (pyNext (.ref it)) (λr s1=>r=none/\Inv X pins σ H s1) E s
 self:∀(A:Around)(i:Nat)(s:Shared)(Q:Value->Shared->Prop)(E:Value->Shared->Prop),tn i s.heap->Q (.ref it) s->wpAny (model P w) A (pyIter (.ref it)) Q E s
abbrev TI:=St->Hp->(It->Hp->Prop)->Prop
def PIE (X:Cx)(pins:List (Addr×Obj))(σ:St)(tg:Expr)(R:It->Hp->Prop)(itv:Value)(s2:Shared):Prop :=
 ∃(it:Addr)(fp:List Addr)(tn:Nat->Heap->Prop)(J:It)(H':Hp),itv = .ref it/\Inv X pins σ H' s2/\zJ X.prog X.w X.K tg J fp it tn/\tn 0 s2.heap/\(∀ b∈fp,qy X pins H' b)/\R J H'
def PI (X:Cx)(tg iter:Expr)(wi:TI):Prop :=
 ∀(pins:List (Addr×Obj))(s:Shared)(σ:St)(H:Hp)(R:It->Hp->Prop),Inv X pins σ H s->wi σ H R ->
  wpAny (model X.prog X.w) X.A (eval iter X.env) (λv s1=>wpAny (model X.prog X.w) X.A (pyIter v) (PIE X pins σ tg R) X.xe s1) X.xe s
theorem XL {M:Model}{o:Obj}{n:String}{vs:Array Value}{Q:Unit->Shared->Prop}(ho:s.heap.get? it=some o)(hc:o.cls = .type n)(hd:o.data = .fields vs)(hn:["enumerate","zip","dict_itemiterator","dict_reverseitemiterator","odict_iterator","itertools.zip_longest","itertools.pairwise"].contains n=false)(hQ:Q () s):wpAny M A (letOwnedTupleGo tg (.ref it) u) Q E s:=by
  unfold letOwnedTupleGo;cases tg<;>first
    |exact yx hQ
    | (cases u <;> first
        |exact yx hQ
        | (refine yR (wpAny_load ho ?_)
           rw [hc,hd];show wpAny M A (if (["enumerate","zip","dict_itemiterator","dict_reverseitemiterator","odict_iterator","itertools.zip_longest","itertools.pairwise"].contains n&&vs[0]?==some (rawInt _))=true then _ else _) Q E s;rw [if_neg (by intro h;rw [hn,Bool.false_and] at h;cases h)];exact yx hQ))
def Itl (K:Fg)(a:Addr):It :=
 ⟨λi H=>∃ xs x,SqL K H a xs/\xs[i]?=some x,λi H x H'=>H'=H/\∀ xs,SqL K H a xs->xs[i]?=some x,λi H=>∃ xs,SqL K H a xs/\xs.length<=i⟩
def Itr (lo:Int)(n:Nat):It:=⟨λi _=>i<n,λi H x H'=>H'=H/\x = .int (lo+i),λi _=>n<=i⟩
theorem Mr (a it:Addr):zJ P w K tg (Itl K a) [it] it (λi h=>h.IsListIter it a i) where
 mem:=by simp
 obj:=λi h st b hb=>by
  have e:b=it:=by simpa using hb
  subst e;obtain ⟨o,e,c,d⟩:=st;exact ⟨o,e,λv z=>by rw [d] at z;cases z⟩
 keep:=λi h h' st k=>st.at λo e=>k it (by simp) o e
 item:=by intro X hP hw hK hc i pins s σ H E I hf st hg;subst hP hw hK;obtain ⟨xs,x,hq,hx⟩:=hg;obtain ⟨its,rv,p,hz⟩:=I.list hq;obtain ⟨u,hu,ru⟩:=rv.get hx;obtain ⟨f0,f1,f2,f3,f4,f5⟩:=hf it (by simp);refine wpAny_pyNext_list_item st p.isList (x:=u) (by simpa using hu) λh' st' sb=>?_;have I1:Inv X pins σ H { s with heap:=h' }:=I.turned (t':=s.toks) (λb o hb e=>(sb.2 b hb).trans e) f0 f1 f3 f4 f5;obtain ⟨o,e,c,d⟩:=id st';exact ⟨u,rfl,XL (s:={ s with heap:=h' }) e c d (by decide) ⟨x,H,I1,ru,⟨rfl,λys hy=>by rw [I.list_inj hy hq];exact hx⟩,st',λb hb=>(hf b hb).1⟩⟩
 done:=by intro X hP hw hK hc i pins s σ H E I hf st hg;subst hP hw hK;obtain ⟨xs,hq,hx⟩:=hg;obtain ⟨its,rv,p,hz⟩:=I.list hq;obtain ⟨f0,f1,f2,f3,f4,f5⟩:=hf it (by simp);have hl:=rv.length;exact wpAny_pyNext_list_end (I.ok.hd hc) st p.isList (by simp;omega) λh' eb=>⟨rfl,I.turned (t':=s.toks) (λb o hb e=>eb b o hb e) f0 f1 f3 f4 f5⟩
 self:=λ_ _ _ _ _ st h=>wpAny_pyIter_listiter st h
theorem Ms (it:Addr)(lo:Int)(n:Nat):zJ P w K tg (Itr lo n) [it] it (λi h=>IsRangeIter h it (lo+(i:Nat)*1) ((n:Int)-(i:Nat)) 1) where
 mem:=by simp
 obj:=λi h st b hb=>by
  have e:b=it:=by simpa using hb
  subst e;exact ⟨_,st,λv z=>by
   have z':Data.fields _=Data.cell v:=z;cases z'⟩
 keep:=λi h h' st k=>k it (by simp) _ st
 item:=by intro X hP hw hK hc i pins s σ H E I hf st hg;subst hP hw hK;obtain ⟨f0,f1,f2,f3,f4,f5⟩:=hf it (by simp);have W:=Walks.range (prog:=X.prog) (w:=X.w) (I.ok.hd hc) it lo 1 n;refine W.item i s _ _ hg st λv h' tk hv st' kk=>?_;obtain ⟨t,rfl⟩:=hv;have I1:Inv X pins σ H { s with heap:=h',toks:=tk }:=I.turned (λb o hb e=>kk b o (by simpa using hb) e) f0 f1 f3 f4 f5;refine ⟨_,rfl,XL (s:={ s with heap:=h',toks:=tk }) (n:="range_iterator") st' rfl rfl (by decide) ⟨.int (lo+i),H,I1,⟨t,?_⟩,⟨rfl,rfl⟩,st',λb hb=>(hf b hb).1⟩⟩;rw [Int.mul_one]
 done:=by intro X hP hw hK hc i pins s σ H E I hf st hg;subst hP hw hK;obtain ⟨f0,f1,f2,f3,f4,f5⟩:=hf it (by simp);exact wpAny_pyNext_range_end (I.ok.hd hc) st (by have:n<=i:=hg;omega) λh' eb=>⟨rfl,I.turned (t':=s.toks) (λb o hb e=>eb b o hb e) f0 f1 f3 f4 f5⟩
 self:=λ_ _ _ _ _ st h=>wpAny_pyIter_rangeiter st h
section
variable {X:Cx}{tg:Expr}
def vk (K:Fg)(tl:TE):TI:=λσ H R=>tl σ H λx H1=>∃ a,x = .ref a/\(∃ xs,SqL K H1 a xs)/\R (Itl K a) H1
theorem CC {l:Expr}{tl:TE}(hl:PE X l tl):PI X tg l (vk X.K tl):=by
 intro pins s σ H R I h;refine j4 (hl pins s σ H _ I h) λv s1 ⟨x,H1,I1,r1,q1⟩=>?_;obtain ⟨a,e,⟨xs,hq⟩,q⟩:=q1;subst e;cases r1;obtain ⟨its,rv,p,hz⟩:=I1.list hq;refine wpAny_pyIter_list p.isList ?_;refine ⟨s1.heap.objs.size,[s1.heap.objs.size],_,_,H1,rfl,I1.kept (t':=s1.toks) λb o e=>yX _ e,Mr a _,⟨_,yA _ rfl,rfl,rfl⟩,λb hb=>?_,q⟩;have e:b=s1.heap.objs.size:=by simpa using hb
 subst e;exact I1.fpOk (yS _) (I1.hok.fresh (yS _))
theorem CV {R:It->Hp->Prop}{hi:Int}{t u v:Tok}{tk:Nat}(I:Inv X pins σ H s)(h1:-(2 ^ 62)<=lo)(h2:lo<2 ^ 62)(h3:-(2 ^ 62)<=hi)(h4:hi<2 ^ 62)(q:R (Itr lo (hi-lo).toNat) H):wpAny (model X.prog X.w) X.A (pyIter (.ref s.heap.objs.size)) (PIE X pins σ tg R) E { s with heap:=s.heap.push { cls:= .type "range",data:= .fields #[.int lo t,.int hi u,.int 1 v] },toks:=tk }:=by
 refine wpAny_pyIter_range (IsRange.new ..) (small_one h1 h2 h3 h4) ?_;have I1:Inv X pins σ H { s with heap:=s.heap.push { cls:= .type "range",data:= .fields #[.int lo t,.int hi u,.int 1 v] },toks:=tk }:=I.kept λb o e=>yX _ e;refine ⟨(s.heap.push { cls:= .type "range",data:= .fields #[.int lo t,.int hi u,.int 1 v] }).objs.size,[(s.heap.push { cls:= .type "range",data:= .fields #[.int lo t,.int hi u,.int 1 v] }).objs.size],_,_,H,rfl,
  I1.kept (t':=tk) λb o e=>yX _ e,Ms _ lo (hi-lo).toNat,?_,λb hb=>?_,q⟩
 ·have e1:lo+((0:Nat):Int)*1=lo:=by simp
  have e2:(((hi-lo).toNat:Nat):Int)-((0:Nat):Int)=Builtin.Range.rangeSize lo hi 1:=by rw [rangeSize_one];split<;>omega
  show IsRangeIter _ _ (lo+((0:Nat):Int)*1) ((((hi-lo).toNat:Nat):Int)-((0:Nat):Int)) 1;rw [e1,e2];exact yA _ rfl
 ·have e:b=(s.heap.push { cls:= .type "range",data:= .fields #[.int lo t,.int hi u,.int 1 v] }).objs.size:=by simpa using hb
  subst e;exact I1.fpOk (yS _) (I1.hok.fresh (yS _))
def Qu (ta:TA):TI:=λσ H R=>ta σ H λvs H1=>∃ j:Int,vs=[.int j]/\-(2 ^ 62)<=j/\j<2 ^ 62/\R (Itr 0 j.toNat) H1
theorem zZ {a:Expr}{ta:TA}{p:Pos}(hg:Gl X "range")(hm:X.mg "range"=none)(ha:PA X [a] ta)(hs:starEach [a] X.env=[(false,eval a X.env)]:=by rfl):PI X tg (.Call (.Name "range" p) [a] [] pos) (Qu ta):=by
 intro pins s σ H R I h;refine Call_ (zQ I hg hm boot_range (PyProof.Rows.callWith_type1 (j4 (ha pos pins s σ H _ I h) λus s1 ⟨vs,H1,I1,r1,q1⟩=>?_) hs rfl));obtain ⟨j,e,q1,q2,q⟩:=q1;subst e;cases r1 with
 |cons r rr=>cases rr;obtain ⟨t,rfl⟩:=r;exact call_range_1 (CV I1 (by omega) (by omega) q1 q2 (by simpa using q))
def tFor (wi:TI)(g:TG)(tb:TS):TS:=λD σ H=>wi σ H λJ H1=>∃ W:Nat->Nat->St->Hp->Prop,(∃ m,W 0 m σ H1)/\∀ i m σ H,W i m σ H ->
 (J.stop i H/\D.nx σ H)∨(J.go i H/\∃ N:St->Hp->Prop,(∀ σ' H',N σ' H'->∃ m',m'<m/\W (i+1) m' σ' H')/\∀ x H',J.yld i H x H'->g x σ H' λσ2 H2=>tb { D with nx:=N,ct:=N,bk:=D.nx } σ2 H2)
def wC (fp:List Addr)(h:Heap):List (Addr×Obj):=fp.filterMap λb=>(h.get? b).map λo=>(b,o)
theorem QK {o:Obj}(hb:b∈fp)(e:h.get? b=some o):(b,o)∈wC fp h:=List.mem_filterMap.mpr ⟨b,hb,by rw [e];rfl⟩
theorem BO {p:Addr×Obj}(hp:p∈wC fp h):p.1∈fp/\h.get? p.1=some p.2:=by
 obtain ⟨b,hb,e⟩:=List.mem_filterMap.mp hp;cases q:h.get? b with
 |none=>rw [q] at e;cases e
 |some o=>rw [q] at e;have e':(b,o)=p:=Option.some.inj e;subst e';exact ⟨hb,q⟩
theorem Inv.pinned (I:Inv X pins σ H s)(hf:∀ b∈fp,qy X pins H b)(ho:∀ b∈fp,∃ o,s.heap.get? b=some o/\∀ v,o.data ≠ .cell v):Inv X (pins++wC fp s.heap) σ H s :=
 I.pins_of λp hp=>(yk.mp hp).elim (λz=>I.pin p (yo _ z)) λz=>by
  obtain ⟨hb,e⟩:=BO z;obtain ⟨f0,f1,f2,_⟩:=hf p.1 hb;obtain ⟨o,e',d⟩:=ho p.1 hb;rw [e] at e';cases e';exact ⟨e,f0,f1,f2,d⟩
theorem Inv.unpinned {pl:List (Addr×Obj)}(I:Inv X (pins++pl) σ H s):Inv X pins σ H s:=I.pins_of λp hp=>I.pin p (yo _ (uD _ hp))
theorem xu {iter:Expr}{wi:TI}(hp:PassesOwn (model X.prog X.w) X.A X.env X.xe)(hc:X.calm=true)(hi:PI X tg iter wi)(hg:PG X tg g)(hb:PSs X body tb)(hs:∀ x,foldedSetIterable iter X.env x=pure x:=by intro _;rfl):PS X (.For tg iter body [] pos) (tFor wi g tb):=by
 intro pins s σ H D I h;refine wpAny_For (j4 (hi pins s σ H _ I h) λv s1 h1=>j4 h1 λitv s2 h2=>?_) hs;obtain ⟨it,fp,tn,J,H2,e,I2,T,st2,f2,W,⟨m0,w0⟩,turn⟩:=h2;subst e
 -- what stays true of the iterator's objects through the loop
 have stat:∀{H':Hp},(∀ b∈fp,H' b=none)->∀ b∈fp,qy X pins H' b:=λhn b hb=>⟨hn b hb,(f2 b hb).2⟩;refine codeAny_forLoop_any (λn s'=>∃ i σ' H',Inv X pins σ' H' s'/\tn i s'.heap/\(∀ b∈fp,H' b=none)/\W i n σ' H') ?_ m0 ⟨0,σ,H2,I2,st2,λb hb=>(f2 b hb).1,w0⟩;rintro n s3 ⟨i,σ3,H3,I3,st3,fr3,w3⟩;rcases turn i n σ3 H3 w3 with ⟨stop,qn⟩|⟨go,N,hN,step⟩
 ·refine wpAny_passesOwn hp (j4 (T.done X rfl rfl rfl hc i pins s3 σ3 H3 X.xe I3 (stat fr3) st3 stop) λr s4 ⟨hr,I4⟩=>?_);subst hr;exact wpAny_execs_nil ⟨σ3,H3,I4,qn⟩
 ·refine wpAny_passesOwn hp (j4 (T.item X rfl rfl rfl hc i pins s3 σ3 H3 X.xe I3 (stat fr3) st3 go) λr s4 ⟨u,hr,h4⟩=>?_);subst hr;refine wpAny_passesOwn hp (j4 h4 λ_ s5 ⟨x,H5,I5,r5,y5,st5,fr5⟩=>?_);have I5':=I5.pinned (stat fr5) (T.obj _ _ st5);refine wpAny_passesOwn hp (j4 (hg _ s5 σ3 H5 x u _ I5' r5 (step x H5 y5)) λ_ s6 ⟨σ6,H6,I6,q6⟩=>?_);refine wpAny_passesOwn hp (j4 (hb _ s6 σ6 H6 _ I6 q6) λf s7 q7=>?_);have again:∀{σ7:St}{H7:Hp},Inv X (pins++wC fp s5.heap) σ7 H7 s7->N σ7 H7->∃ m,m<n/\∃ i σ' H',Inv X pins σ' H' s7/\tn i s7.heap/\(∀ b∈fp,H' b=none)/\W i m σ' H':=λ{σ7 H7} I7 n7=>by
   obtain ⟨m',hm,w7⟩:=hN σ7 H7 n7;refine ⟨m',hm,i+1,σ7,H7,I7.unpinned,T.keep _ _ _ st5 λb hb o e=>(I7.pin (b,o) (yo _ (yo _ (QK hb e)))).1,λb hb=>?_,w7⟩;obtain ⟨o,e,d⟩:=T.obj _ _ st5 b hb;exact (I7.pin (b,o) (yo _ (yo _ (QK hb e)))).2.1
  cases f with
  |next=>obtain ⟨σ7,H7,I7,n7⟩:=q7;exact again I7 n7
  |cont=>obtain ⟨σ7,H7,I7,n7⟩:=q7;exact again I7 n7
  |brk=>obtain ⟨σ7,H7,I7,q7⟩:=q7;exact ⟨σ7,H7,I7.unpinned,q7⟩
  |ret v=>obtain ⟨x7,σ7,H7,I7,r7,q7⟩:=q7;exact ⟨x7,σ7,H7,I7.unpinned,r7,q7⟩
end
theorem WJ (Pv:Nat->St->Hp->Prop)(h0:Pv 0 σ H)(hs:∀ i σ H,i<n->Pv i σ H->g (.int (lo+i)) σ H λσ2 H2=>tb { D with nx:=Pv (i+1),ct:=Pv (i+1),bk:=D.nx } σ2 H2)(hd:∀ σ H,Pv n σ H->D.nx σ H):∃ W:Nat->Nat->St->Hp->Prop,(∃ m,W 0 m σ H)/\∀ i m σ H,W i m σ H -> ((Itr lo n).stop i H/\D.nx σ H)∨((Itr lo n).go i H/\∃ N:St->Hp->Prop,(∀ σ' H',N σ' H'->∃ m',m'<m/\W (i+1) m' σ' H')/\∀ x H',(Itr lo n).yld i H x H'->g x σ H' λσ2 H2=>tb { D with nx:=N,ct:=N,bk:=D.nx } σ2 H2):=by
 refine ⟨λi m σ H=>m=n-i/\i<=n/\Pv i σ H,⟨n,by simp,yh _,h0⟩,?_⟩;rintro i m σ H ⟨rfl,hi,p⟩;by_cases hlt:i<n
 ·refine .inr ⟨hlt,Pv (i+1),λσ' H' p'=>⟨n-(i+1),by omega,rfl,hlt,p'⟩,λx H' y=>?_⟩;obtain ⟨e,y⟩:=y;subst e y;exact hs i σ _ hlt p
 ·have e:i=n:=by omega
  subst e;exact .inl ⟨yS _,hd σ H p⟩
abbrev R2:=V->V->Hp->VK->Prop
variable{r r':R2}
def OpR (X:Cx)(f:Value->Value->Sem Value)(r:R2):Prop :=
 ∀(pins:List (Addr×Obj))(s:Shared)(σ:St)(H:Hp)(x y:V)(v u:Value)(Q:VK),Inv X pins σ H s->RelV x v->RelV y u->r x y H Q ->
  wpAny (model X.prog X.w) X.A (f v u) (EP X pins σ Q) X.xe s
def UnR (X:Cx)(f:Value->Sem Value)(r:V->Hp->VK->Prop):Prop :=
 ∀(pins:List (Addr×Obj))(s:Shared)(σ:St)(H:Hp)(x:V)(v:Value)(Q:VK),Inv X pins σ H s->RelV x v->r x H Q ->
  wpAny (model X.prog X.w) X.A (f v) (EP X pins σ Q) X.xe s
def CallR (X:Cx)(f:Value)(r:List V->Hp->VK->Prop):Prop :=
 ∀(pins:List (Addr×Obj))(s:Shared)(σ:St)(H:Hp)(xs:List V)(us:List Value)(Q:VK),Inv X pins σ H s->Vals xs us->r xs H Q ->
  wpAny (model X.prog X.w) X.A (call f us) (EP X pins σ Q) X.xe s
def TruR (X:Cx)(r:V->Hp->(Bool->Hp->Prop)->Prop):Prop :=
 ∀(pins:List (Addr×Obj))(s:Shared)(σ:St)(H:Hp)(x:V)(v:Value)(Q:Bool->Hp->Prop),Inv X pins σ H s->RelV x v->r x H Q ->
  wpAny (model X.prog X.w) X.A (truthy v) (TP X pins σ Q) X.xe s
def tOp (r:R2)(ta tb:TE):TE:=λσ H Q=>ta σ H λx H1=>tb σ H1 λy H2=>r x y H2 Q
def tUn (r:V->Hp->VK->Prop)(ta:TE):TE:=λσ H Q=>ta σ H λx H1=>r x H1 Q
def rI (C:Int->Int->Prop)(g:Int->Int->V):R2:=λx y H Q=>∃ i j,x = .int i/\y = .int j/\C i j/\Q (g i j) H
def rI0 (g:Int->Int->V):R2:=λx y H Q=>∃ i j,x = .int i/\y = .int j/\Q (g i j) H
def rU (g:Int->V):V->Hp->VK->Prop:=λx H Q=>∃ i,x = .int i/\Q (g i) H
section
variable {X:Cx}{a b c:Expr}{ta tb tc:TE}{pos:Pos}
theorem binT (ha:PE X a ta)(hb:PE X b tb)(I:Inv X pins σ H s)(h:ta σ H λx H1=>tb σ H1 λy H2=>R x y H2)(hf:∀ v u s2 x y H2,Inv X pins σ H2 s2->RelV x v->RelV y u->R x y H2->wpAny (model X.prog X.w) X.A (f v u) Q X.xe s2):wpAny (model X.prog X.w) X.A (eval a X.env) (λv s₁=>wpAny (model X.prog X.w) X.A (eval b X.env) (λu s₂=>wpAny (model X.prog X.w) X.A (f v u) Q X.xe s₂) X.xe s₁) X.xe s:=by refine j4 (ha pins s σ H _ I h) λv s1 ⟨x,H1,I1,r1,q1⟩=>?_;refine j4 (hb pins s1 σ H1 _ I1 q1) λu s2 ⟨y,H2,I2,r2,q2⟩=>?_;exact hf v u s2 x y H2 I2 r1 r2 q2
theorem y6 {op:Operator}(ho:OpR X (binaryOp op) r)(ha:PE X a ta)(hb:PE X b tb):PE X (.BinOp a op b pos) (tOp r ta tb):=by intro pins s σ H Q I h;exact wpAny_BinOp (binT ha hb I h λv u s2 x y H2 I2 rx ry q=>ho pins s2 σ H2 x y v u Q I2 rx ry q)
theorem Yx {op:UnaryOp}{r:V->Hp->VK->Prop}(ho:UnR X (unaryOp op) r)(ha:PE X a ta):PE X (.UnaryOp op a pos) (tUn r ta):=by intro pins s σ H Q I h;exact UnaryOp_ (j4 (ha pins s σ H _ I h) λv s1 ⟨x,H1,I1,r1,q1⟩=>ho pins s1 σ H1 x v Q I1 r1 q1)
theorem opI {C:Int->Int->Prop}{g:Int->Int->Int}(rule:∀(i j:Int)(t u:Tok)(s:Shared)(Q:Value->Shared->Prop)(E:Value->Shared->Prop),C i j->Q (.int (g i j) s.toks) { s with toks:=s.toks+1 }->wpAny (model X.prog X.w) X.A (f (.int i t) (.int j u)) Q E s):OpR X f (rI C λi j=> .int (g i j)):=by intro pins s σ H x y v u Q I rx ry h;obtain ⟨i,j,rfl,rfl,hc,q⟩:=h;obtain ⟨t,rfl⟩:=rx;obtain ⟨t',rfl⟩:=ry;exact rule i j t t' s _ _ hc ⟨.int (g i j),H,I.tok _,⟨_,rfl⟩,q⟩
theorem opI0 {g:Int->Int->Int}(rule:∀(i j:Int)(t u:Tok)(s:Shared)(Q:Value->Shared->Prop)(E:Value->Shared->Prop),Q (.int (g i j) s.toks) { s with toks:=s.toks+1 }->wpAny (model X.prog X.w) X.A (f (.int i t) (.int j u)) Q E s):OpR X f (rI0 λi j=> .int (g i j)):=by intro pins s σ H x y v u Q I rx ry h;obtain ⟨i,j,rfl,rfl,q⟩:=h;obtain ⟨t,rfl⟩:=rx;obtain ⟨t',rfl⟩:=ry;exact rule i j t t' s _ _ ⟨.int (g i j),H,I.tok _,⟨_,rfl⟩,q⟩
theorem opB0 {g:Int->Int->Bool}(rule:∀(i j:Int)(t u:Tok)(s:Shared)(Q:Value->Shared->Prop)(E:Value->Shared->Prop),Q (.bool (g i j)) s->wpAny (model X.prog X.w) X.A (f (.int i t) (.int j u)) Q E s):OpR X f (rI0 λi j=> .bl (g i j)):=by intro pins s σ H x y v u Q I rx ry h;obtain ⟨i,j,rfl,rfl,q⟩:=h;obtain ⟨t,rfl⟩:=rx;obtain ⟨t',rfl⟩:=ry;exact rule i j t t' s _ _ ⟨.bl (g i j),H,I,rfl,q⟩
def zI (i j:Int):Prop:=0<=j/\j<=1000000/\i.natAbs<2 ^ 64
def CMul (i j:Int):Prop:=(-(2 ^ 64)<i/\i<2 ^ 64)∨(-(2 ^ 64)<j/\j<2 ^ 64)
theorem CMul.ok {i j:Int}(h:CMul i j):IntMulOk i j:=by
 rcases h with ⟨h1,h2⟩|⟨h1,h2⟩
 ·exact .of_left (intBits_le_64 h1 h2)
 ·exact .of_right (intBits_le_64 h1 h2)
theorem op_add:OpR X (binaryOp .Add) (rI0 λi j=> .int (i+j)):=opI0 λ_ _ _ _ _ _ _ q=>add_int q
theorem wv:OpR X (binaryOp .Sub) (rI0 λi j=> .int (i-j)):=opI0 λ_ _ _ _ _ _ _ q=>sub_int q
theorem vx:OpR X (binaryOp .Mult) (rI CMul λi j=> .int (i*j)):=opI λ_ _ _ _ _ _ _ hc q=>mul_int q hc.ok
theorem jF:OpR X (binaryOp .Mod) (rI (λ_ j=>0<j) λi j=> .int (i % j)):=opI λi j _ _ _ _ _ hc q=>by
 have h1:(0:Int)<j:=hc;exact mod_int' (by omega) (by rw [Int.fmod_eq_emod_of_nonneg i (by omega)];exact q)
theorem vy:OpR X (binaryOp .Pow) (rI zI λi j=> .int (i ^ j.toNat)):=opI λ_ _ _ _ _ _ _ hc q=>pow_int_small hc.1 hc.2.1 hc.2.2 q
theorem unI {f:Value->Sem Value}{g:Int->Int}(rule:∀(i:Int)(t:Tok)(s:Shared)(Q:Value->Shared->Prop)(E:Value->Shared->Prop),Q (.int (g i) s.toks) { s with toks:=s.toks+1 }->wpAny (model X.prog X.w) X.A (f (.int i t)) Q E s):UnR X f (rU λi=> .int (g i)):=by intro pins s σ H x v Q I rx h;obtain ⟨i,rfl,q⟩:=h;obtain ⟨t,rfl⟩:=rx;exact rule i t s _ _ ⟨.int (g i),H,I.tok _,⟨_,rfl⟩,q⟩
theorem UK:UnR X (unaryOp .USub) (rU λi=> .int (-i)):=unI λ_ _ _ _ _ q=>neg_int q
end
section
variable {X:Cx}{a b c:Expr}{ta tb tc:TE}{pos:Pos}
theorem XD {Q:VK}{k k':Bool}(I:Inv X pins σ H s)(q:Q (.bl k) H)(e:k=k'):EP X pins σ Q (.bool k') s:=by subst e;exact ⟨.bl k,H,I,rfl,q⟩
theorem QP:OpR X (compareOp .Lt) (rI0 λi j=> .bl (decide (i<j))):=opB0 λ_ _ _ _ _ _ _ q=>lt_int q
theorem wu:OpR X (compareOp .LtE) (rI0 λi j=> .bl (decide (i<=j))):=opB0 λ_ _ _ _ _ _ _ q=>le_int q
theorem QO:OpR X (compareOp .Gt) (rI0 λi j=> .bl (decide (j<i))):=opB0 λ_ _ _ _ _ _ _ q=>gt_int q
theorem QN:OpR X (compareOp .GtE) (rI0 λi j=> .bl (decide (j<=i))):=opB0 λ_ _ _ _ _ _ _ q=>ge_int q
theorem Cb:OpR X (compareOp .Is) (λx y H Q=>y = .non/\Q (.bl (decide (x = .non))) H):=by
 intro pins s σ H x y v u Q I rx ry h;obtain ⟨rfl,q⟩:=h;cases ry;refine is_none_gen (XD I q ?_);cases x<;>first
  |(cases rx;rfl)
  |(obtain ⟨t,rfl⟩:=rx;rfl)
theorem Cf:OpR X (compareOp .IsNot) (λx y H Q=>y = .non/\Q (.bl (!decide (x = .non))) H):=by
 intro pins s σ H x y v u Q I rx ry h;obtain ⟨rfl,q⟩:=h;cases ry;refine isnot_none_gen (XD I q ?_);cases x<;>first
  |(cases rx;rfl)
  |(obtain ⟨t,rfl⟩:=rx;rfl)
theorem OpR.or (h:OpR X f r)(h':OpR X f r'):OpR X f (λx y H Q=>r x y H Q∨r' x y H Q):=by
 intro pins s σ H x y v u Q I rx ry q;rcases q with q|q
 ·exact h pins s σ H x y v u Q I rx ry q
 ·exact h' pins s σ H x y v u Q I rx ry q
theorem k7 (b:Expr)(h:op ≠ .In:=by decide)(h2:op ≠ .NotIn:=by decide):behindInMarks op b=false:=by
 have e1:(op==CmpOp.In)=false:=by cases op<;>first|rfl|exact absurd rfl h
 have e2:(op==CmpOp.NotIn)=false:=by cases op<;>first|rfl|exact absurd rfl h2
 cases b<;>simp [behindInMarks,e1,e2]
theorem zi (ho:OpR X (compareOp op) r)(ha:PE X a ta)(hb:PE X b tb)(hm:behindInMarks op b=false):PE X (.Compare a [op] [b] pos) (tOp r ta tb):=by intro pins s σ H Q I h;exact wpAny_Compare1 (binT ha hb I h λv u s2 x y H2 I2 rx ry q=>ho pins s2 σ H2 x y v u Q I2 rx ry q) hm
def JC (t:TE):TT:=λσ H Q=>t σ H λx H'=>∃ k,x = .bl k/\Q k H'
theorem c3 (ho:OpR X (compareOp op) r)(ha:PE X a ta)(hb:PE X b tb)(hm:behindInMarks op b=false):PT X (.Compare a [op] [b] pos) (JC (tOp r ta tb)):=by
 intro pins s σ H Q I h;refine wpAny_isTrue_Compare1 (j4 (ha pins s σ H _ I h) λv s1 ⟨x,H1,I1,r1,q1⟩=>j4 (hb pins s1 σ H1 _ I1 q1) λu s2 ⟨y,H2,I2,r2,q2⟩ =>
  j4 (ho pins s2 σ H2 x y v u _ I2 r1 r2 q2) λc s3 ⟨z,H3,I3,r3,k,e,q3⟩=>?_) hm
 subst e;cases r3;exact wpAny_truthy_bool ⟨H3,I3,q3⟩
def JB (r r':R2)(ta tb tc:TE):TE:=λσ H Q=>ta σ H λx H1=>tb σ H1 λy H2=>r x y H2 λz H3=>∃ k,z = .bl k /\
 (if k=true then tc σ H3 λw' H4=>r' y w' H4 Q else Q (.bl false) H3)
theorem Cp (ho:OpR X (compareOp op) r)(ho':OpR X (compareOp op') r')(ha:PE X a ta)(hb:PE X b tb)(hc:PE X c tc)(hm:lastMarks [op,op'] [b,c]=false:=by with_unfolding_all rfl):PE X (.Compare a [op,op'] [b,c] pos) (JB r r' ta tb tc):=by
 intro pins s σ H Q I h;refine Compare_chain (j4 (ha pins s σ H _ I h) λv s1 ⟨x,H1,I1,r1,q1⟩=>chain_link (j4 (hb pins s1 σ H1 _ I1 q1) λu s2 ⟨y,H2,I2,r2,q2⟩ =>
  j4 (ho pins s2 σ H2 x y v u _ I2 r1 r2 q2) λd s3 ⟨z,H3,I3,r3,k,e,q3⟩=>?_)) hm
 subst e;cases r3;refine wpAny_truthy_bool ?_;cases k with
 |false=>exact ite_ff ⟨.bl false,H3,I3,rfl,q3⟩
 |true=>exact ite_tt (chain_last (j4 (hc pins s3 σ H3 _ I3 q3) λw' s4 ⟨z',H4,I4,r4,q4⟩=>ho' pins s4 σ H4 y z' u w' Q I4 r2 r4 q4))
theorem Zp (ho:OpR X (compareOp op) r)(ho':OpR X (compareOp op') r')(ha:PE X a ta)(hb:PE X b tb)(hc:PE X c tc)(hm:lastMarks [op,op'] [b,c]=false:=by with_unfolding_all rfl):PT X (.Compare a [op,op'] [b,c] pos) (JC (JB r r' ta tb tc)):=by
 intro pins s σ H Q I h;refine isTrue_chain (j4 (ha pins s σ H _ I h) λv s1 ⟨x,H1,I1,r1,q1⟩=>test_link (j4 (hb pins s1 σ H1 _ I1 q1) λu s2 ⟨y,H2,I2,r2,q2⟩ =>
  j4 (ho pins s2 σ H2 x y v u _ I2 r1 r2 q2) λd s3 ⟨z,H3,I3,r3,k,e,q3⟩=>?_)) hm
 subst e;cases r3;refine wpAny_truthy_bool ?_;cases k with
 |false=>obtain ⟨k',e',q'⟩:=q3;cases e';exact ite_ff ⟨H3,I3,q'⟩
 |true=>refine ite_tt (test_last (j4 (hc pins s3 σ H3 _ I3 q3) λw' s4 ⟨z',H4,I4,r4,q4⟩=>j4 (ho' pins s4 σ H4 y z' u w' _ I4 r2 r4 q4) λd' s5 ⟨z2,H5,I5,r5,k2,e2,q5⟩=>?_));subst e2;cases r5;exact wpAny_truthy_bool ⟨H5,I5,q5⟩
def TruV (K:Fg)(x:V)(H:Hp)(k:Bool):Prop :=
 match x with
 | .non=>k=false
 | .bl b=>k=b
 | .int i=>k=(i != 0)
 | .str y=>y.length<=sizeLine/\k=((y.length:Int) != 0)
 | .byt y=>y.size<=sizeLine/\k=((y.size:Int) != 0)
 | .ref p=>(∃ xs,SqL K H p xs/\k=!xs.isEmpty)∨(∃ xs,SqT K H p xs/\k=!xs.isEmpty)∨∃ kvs,H p=some (.dK kvs)/\k=!kvs.isEmpty
 |_=>False
theorem KR {κ:Type}{kvs:List (κ×V)}{vs:List (κ×Value)}(r:KV kvs vs):(!vs.isEmpty)=!kvs.isEmpty:=by cases r<;>rfl
theorem WM {its:List Value}(r:Vals xs its):(!its.toArray.isEmpty)=!xs.isEmpty:=by cases r<;>simp
theorem jy:(sizeLine:Nat)<2 ^ 63:=by rw [sizeLine_eq];decide
theorem Mp:TruR X (λx H Q=>∃ k,TruV X.K x H k/\Q k H):=by
 intro pins s σ H x v Q I rx h;obtain ⟨k,e,q⟩:=h;have hl:=jy;have hs:sizeLine=16777216:=sizeLine_eq;cases x with
 |non=>cases rx;have e':k=false:=e;subst e';exact truthy_none ⟨H,I,q⟩
 |bl b=>cases rx;have e':k=b:=e;subst e';exact wpAny_truthy_bool ⟨H,I,q⟩
 |int i=>obtain ⟨t,rfl⟩:=rx;have e':k=(i != 0):=e;subst e';exact PySem.P.truthy_int ⟨H,I,q⟩
 |str y=>obtain ⟨t,rfl⟩:=rx;obtain ⟨hy,e'⟩:y.length<=sizeLine/\k=((y.length:Int) != 0):=e;subst e';exact PySem.P.truthy_str (by omega) ⟨H,I.tok _,q⟩
 |byt y=>obtain ⟨t,rfl⟩:=rx;obtain ⟨hy,e'⟩:y.size<=sizeLine/\k=((y.size:Int) != 0):=e;subst e';exact PySem.W.truthy_bytes (by omega) ⟨H,I.tok _,q⟩
 |ref p =>
  cases rx;have e':(∃ xs,SqL X.K H p xs/\k=!xs.isEmpty)∨(∃ xs,SqT X.K H p xs/\k=!xs.isEmpty)∨∃ kvs,H p=some (.dK kvs)/\k=!kvs.isEmpty:=e;rcases e' with ⟨xs,hx,e'⟩|⟨xs,hx,e'⟩|⟨kvs,hx,e'⟩
  ·subst e';obtain ⟨its,r,pl,hz⟩:=I.list hx;have hlen:=r.length;exact wpAny_truthy_list pl.isList (by simp only [yY];omega) ⟨H,I.tok _,by rw [WM r];exact q⟩
  ·subst e';obtain ⟨its,r,pl,hz⟩:=I.tuple hx;have hlen:=r.length;exact truthy_tuple pl (by simp only [yY];omega) ⟨H,I.tok _,by rw [WM r];exact q⟩
  ·subst e';obtain ⟨hz,hS,vs,r,m⟩:kvs.length<=sizeLine/\(p==sysModules)=false/\∃ vs,KV kvs vs/\s.heap.DictOf (e7 X.prog X.w) p vs:=I.hok p _ hx;have hlen:kvs.length=vs.length:=Paired.length r;exact wpAny_truthy_dict hS m (by omega) ⟨H,I.tok _,by rw [KR r];exact q⟩
 |_=>exact (show False from e).elim
theorem CS (ha:PE X a ta)(he:∀ whole,isTrue a X.env whole=(do let v <- whole;standAt a.pos;holding [v] (truthy v))):
  PT X a (λσ H Q=>ta σ H λx H'=>∃ k,TruV X.K x H' k/\Q k H'):=by
 intro pins s σ H Q I h;exact isTrue_plain (j4 (ha pins s σ H _ I h) λv s1 ⟨x,H1,I1,r1,q1⟩=>Mp pins s1 σ H1 x v Q I1 r1 q1) (he _)
theorem op_add_str:OpR X (binaryOp .Add) (λx y H Q=>∃ i j,x = .str i/\y = .str j/\i.length+j.length<=sizeLine/\Q (.str (i++j)) H):=by intro pins s σ H x y v u Q I rx ry h;obtain ⟨i,j,rfl,rfl,hz,q⟩:=h;obtain ⟨t,rfl⟩:=rx;obtain ⟨t',rfl⟩:=ry;exact add_str (λt' tk=>⟨.str (i++j),H,I.tok _,⟨_,rfl⟩,q⟩) hz
theorem xW {x:V}(r:Vals [x] us):∃ u,us=[u]/\RelV x u:=by
 cases r with
 |cons r1 r2=>cases r2;exact ⟨_,rfl,r1⟩
theorem vals2 {x:V}(r:Vals [x,y] us):∃ u w',us=[u,w']/\RelV x u/\RelV y w':=by
 cases r with
 |cons r1 r2 =>
  cases r2 with
  |cons r3 r4=>cases r4;exact ⟨_,_,rfl,r1,r3⟩
def LenV (K:Fg)(x:V)(H:Hp)(n:Nat):Prop :=
 match x with
 | .str y=>y.length<=sizeLine/\n=y.length
 | .byt y=>y.size<=sizeLine/\n=y.size
 | .ref p=>(∃ xs,SqL K H p xs/\n=xs.length)∨∃ xs,SqT K H p xs/\n=xs.length
 |_=>False
theorem Gy:CallR X (.builtin "len") (λxs H Q=>∃ x n,xs=[x]/\LenV X.K x H n/\Q (.int n) H):=by
 intro pins s σ H xs us Q I r h;obtain ⟨x,n,rfl,e,q⟩:=h;obtain ⟨u,rfl,rx⟩:=xW r;have hl:=jy;have hs:sizeLine=16777216:=sizeLine_eq;cases x with
 |str y=>obtain ⟨t,rfl⟩:=rx;obtain ⟨hy,e'⟩:y.length<=sizeLine/\n=y.length:=e;subst e';exact len_str (by omega) ⟨.int _,H,I.tok _,⟨_,rfl⟩,q⟩
 |byt y=>obtain ⟨t,rfl⟩:=rx;obtain ⟨hy,e'⟩:y.size<=sizeLine/\n=y.size:=e;subst e';exact PySem.W.len_bytes (by omega) ⟨.int _,H,I.tok _,⟨_,rfl⟩,q⟩
 |ref p =>
  cases rx;have e':(∃ xs,SqL X.K H p xs/\n=xs.length)∨∃ xs,SqT X.K H p xs/\n=xs.length:=e;rcases e' with ⟨xs,hx,e'⟩|⟨xs,hx,e'⟩
  ·subst e';obtain ⟨its,r',pl,hz⟩:=I.list hx;have hlen:=r'.length;exact Calls.call_len_list pl.isList (by simp only [yY];omega) ⟨.int xs.length,H,I.tok _,⟨_,by simp only [yY];rw [hlen]⟩,q⟩
  ·subst e';obtain ⟨its,r',pl,hz⟩:=I.tuple hx;have hlen:=r'.length;exact len_tuple pl (by simp only [yY];omega) ⟨.int xs.length,H,I.tok _,⟨_,by simp only [yY];rw [hlen]⟩,q⟩
 |_=>exact (show False from e).elim
end
structure ObjM (h:Heap)(x dx C:Addr)(mA:Str->Option Value):Prop where
 obj:h.get? x=some (PySem.W.instObj C dx)
 ns:h.Ns1 dx mA
 ne:dx≠x
theorem BA (n:h.Ns1 dx mA):∃ od,h.get? dx=some od/\∀ name,PySem.W.lookIn name od=some (mA name):=by
 obtain ⟨o,es,ep,ho,hd,hk,_,hm⟩:=n;refine ⟨o,ho,λname=>?_⟩;have e:=hm name;unfold nsFind findBy at e;rw [<- Array.find?_toList] at e;unfold PySem.W.lookIn;rw [hd]
 dsimp only
 split
 ·rename_i y q;rw [q] at e;exact congrArg some e
 ·rename_i q;rw [q] at e;have a:es.toList.any (·.refKey)=false:=by rw [List.any_eq_false];intro y hy;obtain ⟨z,t,hkey⟩:=hk y (Array.mem_toList_iff.mp hy);simp [DictEntry.refKey,hkey]
  have a':¬ es.toList.any (·.refKey)=true:=by rw [a];exact yW
  rw [if_neg a'];exact congrArg some e
theorem ObjM.look {x:Addr}(I:ObjM h x dx C mA):∃ od,PySem.W.InstAt h x (PySem.W.instObj C dx) C (some od)/\∀ name,PySem.W.lookIn name od=some (mA name) :=
 let ⟨od,ho,hl⟩:=BA I.ns
 ⟨od,⟨I.obj,rfl,rfl,ho⟩,hl⟩
section
variable {prog:Program}{w:World}{A:Around}{E:Value->Shared->Prop}{s:Shared}{K:Fg}{x dx C f:Addr}{mA:Str->Option Value}{name:Str}{v:Value}
theorem Kt {expr:Bool}(X:K.In s.heap)(I:ObjM s.heap x dx C mA)(hg:PySem.W.plainGet K C name=true)(hh:PySem.W.hasDictIn K C=true)(ha:PySem.W.findIn K (.ref C) name=some none)(hv:mA name=some v)(hv':PySem.W.handedIn v=true)(h:Q v { s with toks:=s.toks+1 }):wpAny (model prog w) A (getAttr (.ref x) name expr) Q E s:=by obtain ⟨od,J,hl⟩:=I.look;exact PySem.W.get_value X J (PySem.W.plainGet_of hg).1 (PySem.W.findObj_own hh ha rfl (by rw [hl,hv])) hv' h
theorem Ku {Q:Value×List Value->Shared->Prop}(X:K.In s.heap)(I:ObjM s.heap x dx C mA)(hg:PySem.W.plainGet K C name=true)(hf:PySem.W.findIn K (.ref C) name=some (some (.ref f)))(ht:PySem.W.isFn K (.ref f)=true)(hv:mA name=none)(h:Q (.ref f,[.ref x]) s):wpAny (model prog w) A (getMethod (.ref x) name pl) Q E s:=by obtain ⟨od,J,hl⟩:=I.look;exact PySem.W.method_fn X J (PySem.W.plainGet_of hg).1 (PySem.W.plainGet_of hg).2 hf (beq_iff_eq.mp ht) (by show (PySem.W.lookIn name od).map (·.isSome)=some false;rw [hl,hv];rfl) h
theorem DX {ns:List Str}{Q:Unit->Shared->Prop}(X:K.In s.heap)(I:ObjM s.heap x dx C mA)(hs:PySem.W.findIn K (.ref C) "__setattr__"=some (some (.builtin "object.__setattr__")))(hp:PySem.W.plainOver K C=true)(ht:PySem.W.takerIn K C name=some none)(hh:PySem.W.hasDictIn K C=true)(hw:PySem.Within mA ns)(hsz:ns.length<=sizeLine)(h:∀ h',ObjM h' x dx C (λy=>if y=name then some v else mA y)->Heap.SameBut dx s.heap h'->Q () { s with heap:=h',toks:=s.toks+2 }):wpAny (model prog w) A (setAttr (.ref x) name v) Q E s:=by obtain ⟨od,J,hl⟩:=I.look;refine PySem.W.set_plain X J hs (PySem.W.osa_open (s:={ s with toks:=s.toks+1 }) (r:=none) X J hp ht λb=>?_);obtain ⟨cd,hc,hd'⟩:=PySem.W.any_some hh;have hx:s.heap.get? x=some ⟨.ref C,some dx,.plain,#[]⟩:=I.obj;refine yR (yx (yR (yR (wpAny_loadPart hx (yR (PySem.W.Looks.here (s:={ s with toks:=s.toks+1 }) (PySem.W.looks_clsIn X hc) ?_))))));rw [hd'];refine yx (a:=some dx) (yR (yx (yR ?_)));refine wpAny_nsSet1 (s:={ s with toks:=s.toks+1 }) I.ns λh' hn2 hs2=>?_;obtain ⟨oD,esD,epD,hoD,hdD,hcD⟩:=hn2.count (PySem.Within.cons name v hw);refine yR (wpAny_lookBehind hoD (by rw [hdD];exact pastItsLine_dict (yf hcD (by rw [yw];omega))) ?_);exact yx (h _ ⟨(hs2.2 _ (Ne.symm I.ne)).trans I.obj,hn2,I.ne⟩ hs2)
theorem BD {R:Result->Shared->Prop}{vs:List Value}(X:K.In s.heap)(hm:PySem.W.makesIn K C=true)(hi:PySem.W.findIn K (.ref C) "__init__"=some (some (.ref f)))(hf:PySem.W.typeIn K (.ref f)=some (.type "function"))(h:codeAny (model prog w) (A.under (.builtin "type.__call__" ⟨.ref C::vs,kw⟩)) (.call (.ref f) ⟨.ref (s.heap.objs.size+1)::vs,kw⟩) (PySem.W.InitBack (s.heap.objs.size+1) R) { s with heap:=(s.heap.push PySem.W.emptyDict).push (PySem.W.instObj C s.heap.objs.size) }):codeAny (model prog w) A (.call (.ref C) ⟨vs,kw⟩) R s:=by obtain ⟨hh,g,d,t,os⟩:=s;exact PySem.W.make_core (PySem.W.makes_of X hm) (PySem.W.looks_findIn X hi) (λself=>PySem.W.bind_fn X self hf) (.inl rfl) h
end
def qt (f:Str)(v:V):List (Str×V)->List (Str×V)
 |[]=>[(f,v)]
 |(g,x)::r=>if g=f then (g,v)::r else (g,x)::qt f v r
theorem Yc (f g:Str)(v:V):∀ fs:List (Str×V),(qt f v fs).lookup g=if g=f then some v else fs.lookup g
 |[]=>by
  show List.lookup g [(f,v)]=_;by_cases h:g=f
  ·have hb:(g==f)=true:=beq_iff_eq.mpr h;simp only [List.lookup,hb,if_pos h]
  ·have hb:(g==f)=false:=beq_eq_false_iff_ne.mpr h;simp only [List.lookup,hb,if_neg h]
 |(k,x)::r=>by
  have ih:=Yc f g v r;rw [show qt f v ((k,x)::r)=(if k=f then (k,v)::r else (k,x)::qt f v r) from rfl];by_cases hk:k=f
  ·rw [if_pos hk];by_cases h:g=k
   ·have hb:(g==k)=true:=beq_iff_eq.mpr h;simp only [List.lookup,hb,if_pos (h.trans hk)]
   ·have hb:(g==k)=false:=beq_eq_false_iff_ne.mpr h;simp only [List.lookup,hb,if_neg (λe:g=f=>h (e.trans hk.symm))]
  ·rw [if_neg hk];by_cases h:g=k
   ·have hb:(g==k)=true:=beq_iff_eq.mpr h;simp only [List.lookup,hb,if_neg (λe:g=f=>hk (h.symm.trans e))]
   ·have hb:(g==k)=false:=beq_eq_false_iff_ne.mpr h;simp only [List.lookup,hb];exact ih
theorem XU (f:Str)(v:V):∀ fs:List (Str×V),f∈(qt f v fs).map (·.1)/\∀ g,g∈fs.map (·.1)->g∈(qt f v fs).map (·.1)
 |[]=>⟨by simp [qt],λg h=>by simp at h⟩
 |(k,x)::r=>by
  obtain ⟨i1,i2⟩:=XU f v r;rw [show qt f v ((k,x)::r)=(if k=f then (k,v)::r else (k,x)::qt f v r) from rfl];by_cases hk:k=f
  ·rw [if_pos hk];subst hk;exact ⟨by simp,λg h=>by simpa using h⟩
  ·rw [if_neg hk];refine ⟨?_,λg h=>?_⟩
   ·rw [yN];exact yT _ i1
   ·rw [yN] at h ⊢;rcases yM.mp h with e|e
    ·exact yM.mpr (.inl e)
    ·exact yT _ (i2 g e)
theorem WW (f:Str)(v:V):∀ fs:List (Str×V),(qt f v fs).length<=fs.length+1
 |[]=>by simp [qt]
 |(k,x)::r=>by
  have ih:=WW f v r;rw [show qt f v ((k,x)::r)=(if k=f then (k,v)::r else (k,x)::qt f v r) from rfl];by_cases hk:k=f
  ·rw [if_pos hk,yw,yw];omega
  ·rw [if_neg hk,yw,yw];omega
theorem RelO.some_of {o:Option Value}(r:RelO (some v) o):∃ u,o=some u/\RelV v u:=by
 cases o with
 |none=>exact (show False from r).elim
 |some u=>exact ⟨u,rfl,r⟩
theorem RelO.none_of {o:Option Value}(r:RelO none o):o=none:=by
 cases o with
 |none=>rfl
 |some u=>exact (show False from r).elim
theorem Kw (r:RelV v u):PySem.W.handedIn u=true:=by
 cases v with
 |non=>cases (show u=Value.none from r);rfl
 |bl b=>cases (show u=Value.bool b from r);rfl
 |int i=>obtain ⟨t,e⟩:=(show ∃ t,u=Value.int i t from r);cases e;rfl
 |str x=>obtain ⟨t,e⟩:=(show ∃ t,u=Value.str x t from r);cases e;rfl
 |byt b=>obtain ⟨t,e⟩:=(show ∃ t,u=Value.bytes b t from r);cases e;rfl
 |flt b=>obtain ⟨t,e⟩:=(show ∃ t,u=Value.float b t from r);cases e;rfl
 |ref a=>cases (show u=Value.ref a from r);rfl
 |ty n=>cases (show u=Value.type n from r);rfl
section
variable {P:Program}{w:World}{H H':Hp}{h h':Heap}{a C dx:Addr}{fs fs':List (Str×V)}
theorem ju (hok:HOk P w H h)(e:H a=some (.ins C dx fs)):∃ mA,ObjM h a dx C mA/\(∀ f,RelO (fs.lookup f) (mA f))/\PySem.Within mA (fs.map (·.1))/\fs.length<=1000/\H dx=some (.own a):=by obtain ⟨d,z,ne,ob,mA,n,r,q⟩:=(show ObjOk P w H h a (.ins C dx fs) from hok a _ e);exact ⟨mA,⟨ob,n,ne⟩,r,q,z,d⟩
end
structure Cls (K:Fg)(C:Addr):Prop where
 pg:PySem.W.plainGet K C Str.empty=true
 hd:PySem.W.hasDictIn K C=true
 po:PySem.W.plainOver K C=true
 sa:PySem.W.findIn K (.ref C) "__setattr__"=some (some (.builtin "object.__setattr__"))
theorem Cls.get (c:Cls K C)(f:Str):PySem.W.plainGet K C f=true:=c.pg
def NoAttr (K:Fg)(C:Addr)(f:Str):Prop:=PySem.W.findIn K (.ref C) f=some none
theorem NoAttr.taker {f:Str}(n:NoAttr K C f):PySem.W.takerIn K C f=some none:=by unfold PySem.W.takerIn;rw [show PySem.W.findIn K (.ref C) f=some none from n];rfl
structure vI (K:Fg)(C:Addr)(m:Str)(f:Addr):Prop where
 at_:PySem.W.findIn K (.ref C) m=some (some (.ref f))
 fn:PySem.W.isFn K (.ref f)=true
 kp:PySem.W.keepIn K (.ref f)=true
section
variable {X:Cx}{pins:List (Addr×Obj)}{σ:St}{H:Hp}{s:Shared}{a C dx:Addr}{fs:List (Str×V)}{f:Str}{v:V}{A:Around}{E:Value->Shared->Prop}
theorem Kv {b:Bool}(I:Inv X pins σ H s)(e:H a=some (.ins C dx fs))(c:Cls X.K C)(n:NoAttr X.K C f)(l:fs.lookup f=some v)(h:∀ u s',Inv X pins σ H s'->RelV v u->Q u s'):wpAny (model X.prog X.w) A (getAttr (.ref a) f b) Q E s:=by obtain ⟨mA,O,r,_,_,_⟩:=ju I.hok e;obtain ⟨u,hu,ru⟩:=RelO.some_of (v:=v) (o:=mA f) (by rw [<- l];exact r f);exact Kt I.kIn O (c.get f) c.hd n hu (Kw ru) (h u _ (I.tok _) ru)
theorem XJ {g:Addr}{Q:Value×List Value->Shared->Prop}(I:Inv X pins σ H s)(e:H a=some (.ins C dx fs))(c:Cls X.K C)(k:vI X.K C m g)(l:fs.lookup m=none)(h:Q (.ref g,[.ref a]) s):wpAny (model X.prog X.w) A (getMethod (.ref a) m pl) Q E s:=by obtain ⟨mA,O,r,_,_,_⟩:=ju I.hok e;have hn:mA m=none:=RelO.none_of (by rw [<- l];exact r m);exact Ku I.kIn O (c.get m) k.at_ k.fn hn h
theorem DZ {Q:Unit->Shared->Prop}(I:Inv X pins σ H s)(e:H a=some (.ins C dx fs))(c:Cls X.K C)(n:NoAttr X.K C f)(hl:fs.length<1000)(ry:RelV y u)(h:∀ s',Inv X pins σ (z8 H a (.ins C dx (qt f y fs))) s'->Q () s'):wpAny (model X.prog X.w) A (setAttr (.ref a) f u) Q E s:=by
 obtain ⟨mA,O,r,wi,_,ho⟩:=ju I.hok e;have hz:(fs.map (·.1)).length<=sizeLine:=by rw [yZ,sizeLine_eq];omega
 refine DX I.kIn O c.sa c.po n.taker c.hd wi hz λh' O' sb=>h _ ?_;have hd:∃ o,h'.get? dx=some o:=let ⟨o,_,_,e',_⟩:=O'.ns;⟨o,e'⟩
 refine I.write (x:=a) (e:=dx) (by rw [e];exact True.intro) (.inr ho) (λb q hb z=>(sb.2 b hb).trans z) hd ?_;refine ⟨by rw [j3 O.ne];exact ho,?_,O.ne,O'.obj,_,O'.ns,λg=>?_,λg hg=>?_⟩
 ·have:=WW f y fs;omega
 ·show RelO ((qt f y fs).lookup g) (if g=f then some u else mA g);rw [Yc];by_cases q:g=f
  ·rw [if_pos q,if_pos q];exact ry
  ·rw [if_neg q,if_neg q];exact r g
 ·by_cases q:g=f
  ·rw [q];exact (XU f y fs).1
  ·refine (XU f y fs).2 g (wi g λz=>hg ?_);show (if g=f then some u else mA g)=none;rw [if_neg q];exact z
theorem Inv.made (I:Inv X pins σ H s):Inv X pins σ (z8 (z8 H s.heap.objs.size (.own (s.heap.objs.size+1))) (s.heap.objs.size+1) (.ins C s.heap.objs.size [])) { s with heap:=(s.heap.push PySem.W.emptyDict).push (PySem.W.instObj C s.heap.objs.size) }:=by
 have e1:(s.heap.push PySem.W.emptyDict).get? s.heap.objs.size=some PySem.W.emptyDict:=yA s.heap rfl;have e2:((s.heap.push PySem.W.emptyDict).push (PySem.W.instObj C s.heap.objs.size)).get? (s.heap.objs.size+1)=some (PySem.W.instObj C s.heap.objs.size):=by have:=yA (s.heap.push PySem.W.emptyDict) (o:=PySem.W.instObj C s.heap.objs.size) rfl;rwa [uM] at this
 have e3:(s.heap.push PySem.W.emptyDict).Ns s.heap.objs.size (λ_=>none):=⟨PySem.W.emptyDict,#[],_,e1,rfl,(λe he=>absurd he (by simp)),λ_=>rfl⟩;have I1:=I.laid (a:=s.heap.objs.size) (o:= .own (s.heap.objs.size+1)) (h':=s.heap.push PySem.W.emptyDict) (t':=s.toks) (λb u q=>yX _ q) (yS _) ⟨_,e1⟩;refine I1.laid (a:=s.heap.objs.size+1) (o:= .ins C s.heap.objs.size []) (t':=s.toks) (λb u q=>yX _ q) (Nat.le_of_eq (uM _ _)) ?_;have ne:s.heap.objs.size≠s.heap.objs.size+1:=yJ (uH _);refine ⟨by rw [j3 ne,w6],yh _,ne,e2,λ_=>none,(Heap.Ns1.of_empty e3).at λo q=>yX _ q,λ_=>True.intro,λy hy=>absurd rfl hy⟩
theorem Gh {prog:Program}{env:Env}{f:Str}{s:Shared}(hb:attributeBase e f env (eval e env)=eval e env)(h:wpAny (model prog w) A (eval e env) (λo s₁=>wpAny (model prog w) A (getAttr o f true) Q E s₁) E s):wpAny (model prog w) A (eval (.Attribute e f pos) env) Q E s :=
 Attribute_any_ h (by rw [arm_eval_Attribute,hb])
end
def tFld (K:Fg)(ta:TE)(f:Str):TE:=λσ H Q=>ta σ H λx H1=>∃ a C dx fs v,x = .ref a/\H1 a=some (.ins C dx fs)/\Cls K C/\NoAttr K C f/\fs.lookup f=some v/\Q v H1
def wL (K:Fg)(ta tv:TE)(f:Str):TS:=λD σ H=>tv σ H λy H1=>ta σ H1 λx H2=>∃ a C dx fs,x = .ref a/\H2 a=some (.ins C dx fs)/\Cls K C/\NoAttr K C f/\fs.length<1000 /\
 D.nx σ (z8 H2 a (.ins C dx (qt f y fs)))
section
variable {X:Cx}{o e value:Expr}{f:Str}{pos pos' tpos:Pos}{ta tv:TE}
theorem Cr (he:PE X e ta)(hb:attributeBase e f X.env (eval e X.env)=eval e X.env):PE X (.Attribute e f pos) (tFld X.K ta f):=by intro pins s σ H Q I h;refine Gh hb (j4 (he pins s σ H _ I h) λu s1 ⟨x,H1,I1,rx,a,C,dx,fs,v,ex,ea,c,n,l,q⟩=>?_);subst ex;obtain rfl:u=Value.ref a:=rx;exact Kv I1 ea c n l λu' s2 I2 ru=>⟨v,H1,I2,ru,q⟩
theorem CP (ha:PE X o ta)(hv:PE X value tv)(hs:swapsWith value (some (.Attribute o f pos')) pos.line X.env=pure false):PS X (.Assign [.Attribute o f pos'] value pos) (wL X.K ta tv f):=by intro pins s σ H D I h;refine plainObj_wpAny_Assign_Attribute (j4 (hv pins s σ H _ I h) λu s1 ⟨y,H1,I1,ry,q⟩=>j4 (ha pins s1 σ H1 _ I1 q) λov s2 ⟨x,H2,I2,rx,a,C,dx,fs,ex,ea,c,n,l,q2⟩=>?_) hs;subst ex;obtain rfl:ov=Value.ref a:=rx;exact DZ I2 ea c n l ry λs3 I3=>⟨σ,_,I3,q2⟩
theorem Lp {apos:Pos}{args:List Expr}(he:PE X e te)(I:Inv X pins σ H s)
  (h:te σ H λx H1=>∃ a C dx fs g,x = .ref a/\H1 a=some (.ins C dx fs)/\Cls X.K C/\vI X.K C m g/\fs.lookup m=none /\
   ∀ s1,Inv X pins σ H1 s1->wpAny (model X.prog X.w) X.A (callWith pos (.ref g) [.ref a] (backTo pos (starEach args X.env)) (backToKw pos (keywordEach [] X.env))) Q X.xe s1)
  (ht:eval (.Call (.Attribute e m apos) args [] pos) X.env=(do
   let ov <- eval e X.env
   standAt apos.atName
   let (f,first) <- holding [ov] (getMethod ov m pl)
   callWith pos f first (backTo pos (starEach args X.env)) (backToKw pos (keywordEach [] X.env)))) :
  wpAny (model X.prog X.w) X.A (eval (.Call (.Attribute e m apos) args [] pos) X.env) Q X.xe s:=by
 refine PySem.W.methodCall_KW (pl:=pl) (j4 (he pins s σ H _ I h) λu s1 ⟨x,H1,I1,rx,a,C,dx,fs,g,ex,ea,c,k,l,q⟩=>?_) ht;subst ex;obtain rfl:u=Value.ref a:=rx;exact XJ I1 ea c k l (q s1 I1)
end
section
variable {X:Cx}{pins:List (Addr×Obj)}{σ:St}{H:Hp}{s:Shared}{A:Around}{E:Value->Shared->Prop}{Q:Value->Shared->Prop}{c:Value}{b:Bool}
inductive qF (K:Fg)(H:Hp):V->Value->Prop where
 |non:qF K H .non (.type "NoneType")
 |bl (x:Bool):qF K H (.bl x) (.type "bool")
 |int (i:Int):qF K H (.int i) (.type "int")
 |str (x:Str):qF K H (.str x) (.type "str")
 |flt (x:UInt64):qF K H (.flt x) (.type "float")
 |lst {a:Addr} {xs:List V} (e:H a=some (.lst xs)):qF K H (.ref a) (.type "list")
 |frz {a:Addr} {o:Obj} {xs:List V} (e:H a=some (.frz o (.lst xs))):qF K H (.ref a) (.type "list")
 |tup {a:Addr} {xs:List V} (e:H a=some (.tup xs)):qF K H (.ref a) (.type "tuple")
 |dK {a:Addr} {kvs:List (z9×V)} (e:H a=some (.dK kvs)):qF K H (.ref a) (.type "dict")
 |dT {a:Addr} {kvs:List (List z9×V)} (e:H a=some (.dT kvs)):qF K H (.ref a) (.type "dict")
 |ins {a C dx:Addr} {fs:List (Str×V)} (e:H a=some (.ins C dx fs)) (cl:Cls K C) (ha:PySem.W.findIn K (.ref C) "__class__"=some (some (.builtin "object.__class__")))
   (hn:PySem.W.specialIn K (.builtin "object.__class__") "__get__"=some (some (.builtin "getset_descriptor.__get__"))) (htk:PySem.W.takesIn K (.builtin "object.__class__")=some true)
   (hm:PySem.W.mroIn K C (.type "object")=some true):qF K H (.ref a) (.ref C)
theorem KY {x:V}{t:Value}(I:Inv X pins σ H s)(rx:RelV x u)(ty:qF X.K H x t)(e:PySem.W.kitOne X.K t c=some b)(h:∀ tk,Q (.bool b) { s with toks:=tk }):wpAny (model X.prog X.w) A (call (.builtin "isinstance") [u,c]) Q E s:=by
 cases ty with
 |non=>cases (show u=Value.none from rx);exact PySem.W.kia_one PySem.W.kitx_none I.kIn True.intro e (λz=>nomatch z) h
 |bl y=>cases (show u=Value.bool y from rx);exact PySem.W.kia_one PySem.W.kitx_bool I.kIn True.intro e (λz=>nomatch z) h
 |int i=>obtain ⟨t,q⟩:=(show ∃ t,u=Value.int i t from rx);cases q;exact PySem.W.kia_one PySem.W.kitx_int I.kIn True.intro e (λz=>nomatch z) h
 |str y=>obtain ⟨t,q⟩:=(show ∃ t,u=Value.str y t from rx);cases q;exact PySem.W.kia_one PySem.W.kitx_str I.kIn True.intro e (λz=>nomatch z) h
 |flt y=>obtain ⟨t,q⟩:=(show ∃ t,u=Value.float y t from rx);cases q;exact PySem.W.kia_one PySem.W.kitx_float I.kIn True.intro e (λz=>nomatch z) h
 |@lst a xs ea=>cases (show u=Value.ref a from rx);obtain ⟨_,_,n,_,h1⟩:=(show ObjOk X.prog X.w H s.heap a (.lst xs) from I.hok a _ ea);exact PySem.W.kia_one PySem.W.kitx_list I.kIn ⟨_,h1,rfl⟩ e (λz=>nomatch z) h
 |@frz a ob xs ea=>cases (show u=Value.ref a from rx);obtain ⟨_,_,_,n,_,h1⟩:=(show ObjOk X.prog X.w H s.heap a (.frz ob (.lst xs)) from I.hok a _ ea);exact PySem.W.kia_one PySem.W.kitx_list I.kIn ⟨_,h1,rfl⟩ e (λz=>nomatch z) h
 |@tup a xs ea=>cases (show u=Value.ref a from rx);obtain ⟨_,_,_,p⟩:=(show ObjOk X.prog X.w H s.heap a (.tup xs) from I.hok a _ ea);obtain ⟨o,h1,h2,_⟩:=p;exact PySem.W.kia_one PySem.W.kitx_tuple I.kIn ⟨o,h1,h2⟩ e (λz=>nomatch z) h
 |@dK a kvs ea=>cases (show u=Value.ref a from rx);obtain ⟨_,_,vs,_,p⟩:=(show ObjOk X.prog X.w H s.heap a (.dK kvs) from I.hok a _ ea);obtain ⟨o,es,ep,h1,h2,_⟩:=p;exact PySem.W.kia_one PySem.W.kitx_dict I.kIn ⟨o,h1,h2.1⟩ e (λz=>nomatch z) h
 |@dT a kvs ea=>cases (show u=Value.ref a from rx);obtain ⟨_,_,xs,_,o,es,ep,h1,h2,_⟩:=(show ObjOk X.prog X.w H s.heap a (.dT kvs) from I.hok a _ ea);exact PySem.W.kia_one PySem.W.kitx_dict I.kIn ⟨o,h1,h2.1⟩ e (λz=>nomatch z) h
 |@ins a C dx fs ea cl ha hn htk hm=>cases (show u=Value.ref a from rx);obtain ⟨mA,O,_⟩:=ju I.hok ea;obtain ⟨od,J,_⟩:=O.look;exact PySem.W.kia_one (PySem.W.kitx_own (cl.get _) cl.hd ha hn htk hm) I.kIn J e (λz=>nomatch z) h
end
structure Room (k:Nat)(A:Around):Prop where
 hd:A.handled=none
 dp:A.depth+3*k+5<recursionLimit
 un:A.units+16*k+200<cLine
theorem Room.mono {k:Nat}(r:Room k A)(h:j<=k):Room j A:=⟨r.hd,by have:=r.dp;omega,by have:=r.un;omega⟩
theorem Room.deeper {k:Nat}(r:Room (k+1) A)(env:Env):Room k (A.deeper env) :=
 ⟨r.hd,by have:=r.dp;show A.depth+1+3*k+5<_;omega,by have:=r.un;show A.units+3+16*k+200<_;omega⟩
theorem BC :(A.under (.builtin "type.__call__" ⟨.ref C::us,kw⟩)).depth=A.depth+1:=by first|rfl|simp [Around.under,Code.weight,Code.isCreation,Code.isGuard,Code.isCaller,Code.frames,Code.isFrame,guardIds]
theorem BE :(A.under (.builtin "type.__call__" ⟨.ref C::us,kw⟩)).units=A.units+1:=by first|rfl|simp [Around.under,Code.cUnits,Code.frames,Code.isFrame]
theorem Room.make {k:Nat}(r:Room (k+1) A)(C:Addr)(us:List Value)(kw:List (Str×Value)):Room k (A.under (.builtin "type.__call__" ⟨.ref C::us,kw⟩)) :=
 ⟨r.hd,by have:=r.dp;rw [BC];omega,by have:=r.un;rw [BE];omega⟩
theorem Room.depth {k:Nat}(r:Room k A):A.depth<recursionLimit:=by have:=r.dp;omega
theorem Room.units {k:Nat}(r:Room k A):A.units+64<cLine:=by have:=r.un;omega
def i9:TA:=λ_ H Q=>Q [] H
def m9 (ta:TE)(tr:TA):TA:=λσ H Q=>ta σ H λx H1=>tr σ H1 λxs H2=>Q (x::xs) H2
section
variable {X:Cx}{e:Expr}{es:List Expr}{te:TE}{t:TA}{pos:Pos}
theorem y2:PA X [] i9:=λ_ _ _ _ H Q I h=>Calls.spliced_nil ⟨[],H,I,.nil,h⟩
theorem j6 (ha:PE X e te)(hr:PA X es t)(hs:starEach (e::es) X.env=(false,eval e X.env)::starEach es X.env:=by rfl):PA X (e::es) (m9 te t):=by intro pos pins s σ H Q I h;rw [hs];show wpAny _ _ (spliced ((false,eval e X.env)::backTo pos (starEach es X.env))) _ _ s;refine Calls.spliced_cons (j4 (ha pins s σ H _ I h) λu s1 ⟨x,H1,I1,r1,q1⟩=>?_);exact j4 (hr pos pins s1 σ H1 _ I1 q1) λus s2 ⟨xs,H2,I2,r2,q2⟩=>⟨x::xs,H2,I2,.cons r1 r2,q2⟩
def tTup (t:TA):TE:=λσ H Q=>t σ H λxs H1=>xs.length<=sizeLine/\∀ p,H1 p=none->Q (.ref p) (z8 H1 p (.tup xs))
def tLst (t:TA):TE:=λσ H Q=>t σ H λxs H1=>xs.length<=sizeLine/\∀ p,H1 p=none->Q (.ref p) (z8 H1 p (.lst xs))
theorem zY {x1}(h:PA X es t):PE X (.Tuple es x1 pos) (tTup t):=by intro pins s σ H Q I hq;refine wpAny_Tuple_spliced (j4 (h pos pins s σ H _ I hq) λus s1 ⟨xs,H1,I1,r,z,q⟩=>⟨by rw [<- r.length];exact z,?_⟩);have hf:H1 s1.heap.objs.size=none:=I1.hok.fresh (yS _);refine ⟨.ref s1.heap.objs.size,z8 H1 s1.heap.objs.size (.tup xs),I1.laid (t':=s1.toks) (λb u e=>yX _ e) (yS _) ?_,rfl,q _ hf⟩;exact ⟨z,us,r,⟨_,yA _ rfl,rfl,_,rfl⟩⟩
theorem xg (h:PA X es t):PE X (.List es pos) (tLst t):=by intro pins s σ H Q I hq;refine wpAny_List_spliced (j4 (h pos pins s σ H _ I hq) λus s1 ⟨xs,H1,I1,r,z,q⟩=>⟨by rw [<- r.length];exact z,?_⟩);have hf:H1 s1.heap.objs.size=none:=I1.hok.fresh (yS _);refine ⟨.ref s1.heap.objs.size,z8 H1 s1.heap.objs.size (.lst xs),I1.laid (t':=s1.toks) (λb u e=>yX _ e) (yS _) ?_,rfl,q _ hf⟩;exact ⟨z,us,0,r,yA _ rfl⟩
end
abbrev Sp:=List V->Hp->VK->XK->Prop
variable{sp:Sp}
abbrev CXT:=List Env->Hp->Shared->XK->Value->Shared->Prop
variable{CX:CXT}
structure Env0 (P:Program)(w:World)(K:Fg)(mg:Str->Option Value)(base:Heap)(A:Around)(outer:List Env)(s:Shared)(H:Hp):Prop where
 frames:A.frames=some outer
 mod:Mod K mg base
 bs:∀ b o,base.get? b=some o->s.heap.get? b=some o/\H b=none
 bsz:base.objs.size<=s.heap.objs.size
 funs:s.heap.FunFrames base outer
 frf:∀ b∈frs outer,H b=none
 hok:HOk P w H s.heap
 bare:AllBare s.gens
 tbs:∀ p∈TABS,H p.1=some (.tbl p.2.1 p.2.2)
def CE (outer:List Env)(P:Program)(w:World)(H:Hp)(s:Shared)(Q:VK)(u:Value)(s':Shared):Prop :=
 ∃ v H',s'.os=s.os/\AllBare s'.gens/\Un (frs outer) [] H H' s.heap s'.heap/\HOk P w H' s'.heap/\RelV v u/\Q v H'
def CR (CX:CXT)(outer:List Env)(P:Program)(w:World)(H:Hp)(s:Shared)(Q:VK)(E:XK)(r:Result)(s':Shared):Prop :=
 match r with
 | .ok (.ret u)=>CE outer P w H s Q u s'
 | .ok _=>False
 | .error e=>CX outer H s E e s'
structure FnOk (P:Program)(w:World)(K:Fg)(mg:Str->Option Value)(base:Heap)(CX:CXT)(k:Nat)(f:Addr)(fd:FuncData)(ps:List Str)(sp:Sp):Prop where
 len:∀ vs H Q E,sp vs H Q E->vs.length=ps.length
 run:∀(A:Around)(outer:List Env)(s:Shared)(H:Hp)(args:Args)(us:List Value)(vs:List V)(Q:VK)(E:XK),Room k A->Env0 P w K mg base A outer s H->BindsTo s fd args (ps.zip us)->Vals vs us->sp vs H Q E ->
  codeAny (model P w) A (.call (.ref f) args) (CR CX outer P w H s Q E) s
theorem FnOk.imp {k:Nat}{f:Addr}{sp':Sp}(F:FnOk P w K mg base CX k f fd ps sp)(h:∀ vs H Q E,sp' vs H Q E->sp vs H Q E):FnOk P w K mg base CX k f fd ps sp' :=
 ⟨λvs H Q E q=>F.len vs H Q E (h _ _ _ _ q),λA outer s H args us vs Q E hr he hb hv hs=>F.run A outer s H args us vs Q E hr he hb hv (h _ _ _ _ hs)⟩
theorem Env0.make (e:Env0 P w K mg base A outer s H)(C:Addr)(us:List Value)(kw:List (Str×Value)):Env0 P w K mg base (A.under (.builtin "type.__call__" ⟨.ref C::us,kw⟩)) outer s H:=⟨by first|exact e.frames|(simpa [Around.under,Code.envs,Code.isFrame,pushEnvs] using e.frames),e.mod,e.bs,e.bsz,e.funs,e.frf,e.hok,e.bare,e.tbs⟩
section
variable {X:Cx}{pins:List (Addr×Obj)}{σ:St}{H:Hp}{s s':Shared}
theorem Inv.env0 (I:Inv X pins σ H s):Env0 X.prog X.w X.K X.mg X.base X.A X.stack s H :=
 ⟨I.ok.frames,I.ok.mod,I.bs,yf I.ok.bsz I.sz,I.stack,I.stkFree,I.hok,I.bare,λp hp=>I.base.tbls _ _ _ (I.ok.tbs p hp)⟩
theorem Inv.after {Q:VK}(I:Inv X pins σ H s)(h:CE X.stack X.prog X.w H s Q u s'):EP X pins σ Q u s':=by obtain ⟨v,H',os,bare,un,hok,r,q⟩:=h;obtain ⟨hh,g,d,t,os'⟩:=s';obtain rfl:os'=s.os:=os;exact ⟨v,H',I.call (h':=hh) (g':=g) (d':=d) (t':=t) (ch:=[]) un hok bare (λb z=>absurd z (by simp)),r,q⟩
end
def qU (sp:Sp)(dvs:List V)(E:XK)(t:TA):TE:=λσ H Q=>t σ H λvs H1=>sp (vs++dvs) H1 Q E
def jP (C:Addr)(m:Str)(sp:Sp)(dvs:List V)(E:XK)(ta:TE)(t:TA):TE:=λσ H Q=>ta σ H λx H1=>∃ a dx fs,x = .ref a/\H1 a=some (.ins C dx fs)/\fs.lookup m=none /\
 t σ H1 λvs H2=>sp (x::(vs++dvs)) H2 Q E
def wQ (C:Addr)(sp:Sp)(dvs:List V)(E:XK)(t:TA):TE:=λσ H Q=>t σ H λvs H1=>∀ x dx,H1 x=none->H1 dx=none->dx≠x ->
 sp (.ref x::(vs++dvs)) (z8 (z8 H1 dx (.own x)) x (.ins C dx [])) (λv H2=>v = .non/\Q (.ref x) H2) E
def Binds (K:Fg)(fd:FuncData)(ps:List Str)(ds:List Value):Prop :=
 ∀(s:Shared)(us:List Value),K.In s.heap->(us++ds).length=ps.length->BindsTo s fd ⟨us,[]⟩ (ps.zip (us++ds))
theorem Binds.all (h:∀ us:List Value,us.length=ps.length->bindArgs fd ⟨us,[]⟩=pure (ps.zip us)):Binds K fd ps []:=λs us _ hl=>by
 rw [yn] at hl ⊢;exact .of_eq (h us hl)
def jj (CX:CXT)(X:Cx)(E:XK):Prop:=∀(pins:List (Addr×Obj))(σ:St)(H:Hp)(s:Shared)(e:Value)(s':Shared),Inv X pins σ H s->CX X.stack H s E e s'->X.xe e s'
section
variable {X:Cx}{CX:CXT}{k:Nat}{f C:Addr}{fd:FuncData}{ps:List Str}{sp:Sp}{dvs:List V}{ds:List Value}{E:XK}{x m:Str}{p pos apos:Pos}{e o:Expr}{es:List Expr}{ta:TE}{t:TA}
theorem ZB {Q:VK}(F:FnOk X.prog X.w X.K X.mg X.base CX k f fd ps sp)(hr:Room k X.A)(hb:Binds X.K fd ps ds)(hd:Vals dvs ds)(hx:jj CX X E)(I:Inv X pins σ H s)(r:Vals vs us)(h:sp (vs++dvs) H Q E):wpAny (model X.prog X.w) X.A (call (.ref f) us) (EP X pins σ Q) X.xe s:=by
 have r2:Vals (vs++dvs) (us++ds):=r.append hd;have hl:(us++ds).length=ps.length:=by rw [<- r2.length];exact F.len _ _ _ _ h
 refine wpAny_call (codeAny_mono (F.run X.A X.stack s H ⟨us,[]⟩ (us++ds) (vs++dvs) Q E hr I.env0 (hb s us I.kIn hl) r2 h) λr s' hq=>?_);cases r with
 |error e=>exact hx pins σ H s e s' I hq
 |ok fl =>
  cases fl with
  |ret u=>exact I.after hq
  |next=>exact False.elim hq
  |brk=>exact False.elim hq
  |cont=>exact False.elim hq
theorem Co (F:FnOk X.prog X.w X.K X.mg X.base CX k f fd ps sp)(hr:Room k X.A)(hg:Gl X x)(hm:X.mg x=some (.ref f))(hk:PySem.W.keepIn X.K (.ref f)=true)(hb:Binds X.K fd ps ds)(hd:Vals dvs ds)(hx:jj CX X E)(ha:PA X (e::es) t)(hdb:(x==("__debug__":Str))=false:=by decide)(he:starEach (e::es) X.env=(false,eval e X.env)::starEach es X.env:=by rfl)(hpl:(backTo pos (starEach es X.env)).any (·.1)=false:=by rfl):PE X (.Call (.Name x p) (e::es) [] pos) (qU sp dvs E t):=by intro pins s σ H Q I h;refine wpAny_Call_Name_kw (XV I hg hm ?_ hdb);refine PySem.W.callWith_K (h₀:=X.base) I.ok.mod.kin hk (j4 (ha pos pins s σ H _ I h) λus s1 ⟨vs,H1,I1,r,q⟩=>⟨I1.kIn,?_⟩) he hpl;exact ZB F hr hb hd hx I1 r q
theorem Ct (he:PE X o ta)(c:Cls X.K C)(hm:vI X.K C m f)(F:FnOk X.prog X.w X.K X.mg X.base CX k f fd ps sp)(hr:Room k X.A)(hb:Binds X.K fd ps ds)(hd:Vals dvs ds)(hx:jj CX X E)(ha:PA X (e::es) t)
  (hst:starEach (e::es) X.env=(false,eval e X.env)::starEach es X.env:=by rfl) (hpl:(backTo pos (starEach es X.env)).any (·.1)=false:=by rfl)
  (ht:eval (.Call (.Attribute o m apos) (e::es) [] pos) X.env=(do
   let ov <- eval o X.env
   standAt apos.atName
   let (f,first) <- holding [ov] (getMethod ov m pl)
   callWith pos f first (backTo pos (starEach (e::es) X.env)) (backToKw pos (keywordEach [] X.env))):=by rfl) :
  PE X (.Call (.Attribute o m apos) (e::es) [] pos) (jP C m sp dvs E ta t):=by
 intro pins s σ H Q I h;refine PySem.W.methodCall_KW (pl:=pl) (j4 (he pins s σ H _ I h) λu s1 ⟨x,H1,I1,rx,a,dx,fs,ex,ea,l,q⟩=>?_) ht;subst ex;obtain rfl:u=Value.ref a:=rx;refine XJ I1 ea c hm l ?_;refine PySem.W.callWith_K (first:=[.ref a]) (h₀:=X.base) I.ok.mod.kin hm.kp (j4 (ha pos pins s1 σ H1 _ I1 q) λus s2 ⟨vs,H2,I2,r,q2⟩=>⟨I2.kIn,?_⟩) hst hpl;exact ZB (us:= .ref a::us) (vs:= .ref a::vs) F hr hb hd hx I2 (.cons rfl r) q2
theorem Cu (he:PE X o ta)(c:Cls X.K C)(hm:vI X.K C m f)(F:FnOk X.prog X.w X.K X.mg X.base CX k f fd ps sp)(hr:Room k X.A)(hb:Binds X.K fd ps ds)(hd:Vals dvs ds)(hx:jj CX X E)
  (ht:eval (.Call (.Attribute o m apos) [] [] pos) X.env=(do
   let ov <- eval o X.env
   standAt apos.atName
   let (f,first) <- holding [ov] (getMethod ov m pl)
   callWith pos f first (backTo pos (starEach [] X.env)) (backToKw pos (keywordEach [] X.env))):=by rfl) :
  PE X (.Call (.Attribute o m apos) [] [] pos) (jP C m sp dvs E ta i9):=by
 intro pins s σ H Q I h;refine PySem.W.methodCall_KW (pl:=pl) (j4 (he pins s σ H _ I h) λu s1 ⟨x,H1,I1,rx,a,dx,fs,ex,ea,l,q⟩=>?_) ht;subst ex;obtain rfl:u=Value.ref a:=rx;refine XJ I1 ea c hm l ?_;exact PySem.W.callWith_K0 (first:=[.ref a]) I1.kIn hm.kp (ZB (us:=[.ref a]) (vs:=[.ref a]) F hr hb hd hx I1 (.cons rfl .nil) q)
structure Mk (K:Fg)(C f:Addr):Prop where
 makes:PySem.W.makesIn K C=true
 init:PySem.W.findIn K (.ref C) "__init__"=some (some (.ref f))
 fn:PySem.W.isFn K (.ref f)=true
 kp:PySem.W.keepIn K (.ref C)=true
theorem Dn {Q:VK}(M:Mk X.K C f)(F:FnOk X.prog X.w X.K X.mg X.base CX k f fd ps sp)(hr:Room (k+1) X.A)(hb:Binds X.K fd ps ds)(hd:Vals dvs ds)(hx:jj CX X E)(I:Inv X pins σ H s)(r:Vals vs us)(h:∀ x dx,H x=none->H dx=none->dx≠x->sp (.ref x::(vs++dvs)) (z8 (z8 H dx (.own x)) x (.ins C dx [])) (λv H2=>v = .non/\Q (.ref x) H2) E):wpAny (model X.prog X.w) X.A (call (.ref C) us) (EP X pins σ Q) X.xe s:=by
 have hq:=h (s.heap.objs.size+1) s.heap.objs.size (I.hok.fresh (ux _)) (I.hok.fresh (yS _)) (yJ (uH _));have I2:=Inv.made (C:=C) I;have r2:Vals (V.ref (s.heap.objs.size+1)::(vs++dvs)) (Value.ref (s.heap.objs.size+1)::(us++ds)):= .cons rfl (r.append hd);have hl:(Value.ref (s.heap.objs.size+1)::us++ds).length=ps.length:=by have e:=r2.length;rw [F.len _ _ _ _ hq] at e;exact e.symm
 refine wpAny_call (BD (f:=f) I.kIn M.makes M.init (beq_iff_eq.mp M.fn) (codeAny_mono (F.run _ X.stack _ _ ⟨Value.ref (s.heap.objs.size+1)::us,[]⟩ (Value.ref (s.heap.objs.size+1)::(us++ds)) _ _ E (hr.make C us [])
  (I2.env0.make C us []) (hb _ (Value.ref (s.heap.objs.size+1)::us) I2.kIn hl) r2 hq) λr s' hq'=>?_))
 cases r with
 |error e=>exact hx pins σ _ _ e s' I2 hq'
 |ok fl =>
  cases fl with
  |ret u=>obtain ⟨v,H',I3,rv,ev,q3⟩:=I2.after hq';subst ev;exact ⟨rv,⟨V.ref (s.heap.objs.size+1),H',I3,rfl,q3⟩⟩
  |next=>exact False.elim hq'
  |brk=>exact False.elim hq'
  |cont=>exact False.elim hq'
theorem Cs (M:Mk X.K C f)(F:FnOk X.prog X.w X.K X.mg X.base CX k f fd ps sp)(hr:Room (k+1) X.A)(hg:Gl X x)(hm:X.mg x=some (.ref C))(hb:Binds X.K fd ps ds)(hd:Vals dvs ds)(hx:jj CX X E)(ha:PA X (e::es) t)(hdb:(x==("__debug__":Str))=false:=by decide)(he:starEach (e::es) X.env=(false,eval e X.env)::starEach es X.env:=by rfl)(hpl:(backTo pos (starEach es X.env)).any (·.1)=false:=by rfl):PE X (.Call (.Name x p) (e::es) [] pos) (wQ C sp dvs E t):=by intro pins s σ H Q I h;refine wpAny_Call_Name_kw (XV I hg hm ?_ hdb);refine PySem.W.callWith_K (h₀:=X.base) I.ok.mod.kin M.kp (j4 (ha pos pins s σ H _ I h) λus s1 ⟨vs,H1,I1,r,q⟩=>⟨I1.kIn,?_⟩) he hpl;exact Dn M F hr hb hd hx I1 r q
end
structure v9 (N P:List Str)(sc:Scope):Prop where
 kind:sc.kind = .function
 co:sc.isCoroutine=false
 gen:sc.isGenerator=false
 nd:N.Nodup
 pre:N.take P.length=P
 par:∀ x∈P,sc.names.lookup x=some .local∨sc.names.lookup x=some .cell
 nofree:∀ y∈sc.names,y.2 ≠ .free
theorem VQ {kindOf:Str->Option NameKind}{x:Str}:∀{binds:List (Str×Value)}{m:Str->Option Value},(∀ v,(x,v)∉binds)->bindL kindOf binds m x=m x
 |[],_,_=>rfl
 |(n,v)::r,m,h=>by
  unfold bindL;rw [VQ λw hw=>h w (yT _ hw)];split
  ·have:x≠n:=by rintro rfl;exact h v yO
   simp [this]
  ·rfl
theorem VO {kindOf:Str->Option NameKind}{x:Str}:∀{binds:List (Str×Value)}{m:Str->Option Value},(∀ v,(x,v)∉binds)->bindC kindOf binds m x=m x
 |[],_,_=>rfl
 |(n,v)::r,m,h=>by
  unfold bindC;rw [VO λw hw=>h w (yT _ hw)];split
  ·rfl
  ·have:x≠n:=by rintro rfl;exact h v yO
   simp [this]
theorem VP {kindOf:Str->Option NameKind}{x:Str}{v:Value}:∀{P:List Str}{vs:List Value}{i:Nat}{m:Str->Option Value},P.Nodup->P[i]?=some x->vs[i]?=some v->kindOf x=some .local -> bindL kindOf (P.zip vs) m x=some v
 |[],_,_,_,_,h,_,_=>by simp at h
 |_::_,[],_,_,_,_,h,_=>by simp at h
 |p::P,w::vs,0,m,nd,h1,h2,hk=>by
  simp at h1 h2;subst h1;subst h2;show bindL kindOf ((p,w)::P.zip vs) m p=_;unfold bindL;rw [VQ λv hv=>(yF.mp nd).1 (List.of_mem_zip hv).1,if_pos hk];simp
 |p::P,w::vs,i+1,m,nd,h1,h2,hk=>by
  show bindL kindOf ((p,w)::P.zip vs) m x=_;unfold bindL;exact VP (i:=i) (yF.mp nd).2 (by simpa using h1) (by simpa using h2) hk
theorem VN {kindOf:Str->Option NameKind}{x:Str}{v:Value}:∀{P:List Str}{vs:List Value}{i:Nat}{m:Str->Option Value},P.Nodup->P[i]?=some x->vs[i]?=some v->kindOf x≠some .local -> bindC kindOf (P.zip vs) m x=some v
 |[],_,_,_,_,h,_,_=>by simp at h
 |_::_,[],_,_,_,_,h,_=>by simp at h
 |p::P,w::vs,0,m,nd,h1,h2,hk=>by
  simp at h1 h2;subst h1;subst h2;show bindC kindOf ((p,w)::P.zip vs) m p=_;unfold bindC;rw [VO λv hv=>(yF.mp nd).1 (List.of_mem_zip hv).1,if_neg hk];simp
 |p::P,w::vs,i+1,m,nd,h1,h2,hk=>by
  show bindC kindOf ((p,w)::P.zip vs) m x=_;unfold bindC;exact VN (i:=i) (yF.mp nd).2 (by simpa using h1) (by simpa using h2) hk
def start (N:List Str)(vs:List V):St:=vs.map some++List.replicate (N.length-vs.length) none
def qG (CX:CXT)(P:Program)(w:World)(K:Fg)(mg:Str->Option Value)(base:Heap)(N:List Str)(qual:Str)(scope:Scope)(f:Addr)(cd:Value)(A:Around)(outer:List Env)(s:Shared)(H:Hp)(E:XK):Cx where
 prog:=P
 w:=w
 K:=K
 mg:=mg
 base:=base
 A:=A.deeper (envOfC qual scope s.heap.objs.size f cd)
 N:=N
 s₀:=s
 H₀:=H
 env:=envOfC qual scope s.heap.objs.size f cd
 outer:=outer
 stack:=envOfC qual scope s.heap.objs.size f cd::outer
 ex:=[]
 calm:=true
 fn:=λ_=>true
 pn:=[]
 xe:=λe s'=>wpAny (model P w) (A.deeper (envOfC qual scope s.heap.objs.size f cd)) (leaving (envOfC qual scope s.heap.objs.size f cd) e) (λ_ s''=>CX outer H s E e s'') (λe' s''=>CX outer H s E e' s'') s'
theorem VY {sc:Scope}(h:sc.names.lookup x=some .cell):∃ c,(cellsFrom n sc.names []).lookup x=some c:=by have q:=PySem.W.cellsFrom_some sc.names n [] (.inl h);exact Option.isSome_iff_exists.mp q
theorem KQ {f:Addr}{cd:Value}{s1:Shared}{E:XK}(S:v9 N ps scope)(hd:A.handled=none)(e0:Env0 P w K mg base A outer s H)(hl:vs.length=ps.length)(r:Vals vs us)(x:InCallC s s.heap.objs.size (bindL (envOfC qual scope s.heap.objs.size f cd).kindOf (ps.zip us) λ_=>none) (cellsFrom (s.heap.objs.size+1) scope.names []) (bindC (envOfC qual scope s.heap.objs.size f cd).kindOf (ps.zip us) λ_=>none) s1):Inv (qG CX P w K mg base N qual scope f cd A outer s H E) [] (start N vs) H s1:=by
 have hpl:ps.length<=N.length:=by have:=congrArg List.length S.pre;rw [uG] at this;omega
 obtain ⟨h1,tk,rfl,hk⟩:=x.done;have noA:∀ b:Addr,b∉(qG CX P w K mg base N qual scope f cd A outer s H E).ex:=λb z=>absurd (show b∈([]:List Addr) from z) (by simp);refine ⟨⟨e0.mod,S.kind,rfl,rfl,yS _,λy z c h1 h2=>?_,λy hy=>?_,λy c _ h=>?_,λ_=>hd,Around.frames_deeper e0.frames,.inr ⟨rfl,rfl⟩,λb z=>absurd z (noA b),e0.bs,e0.bsz,λb _ _=>noA b,λb z=>absurd z (noA b),e0.funs,e0.frf,e0.tbs⟩,
  rfl,e0.bare,Un.kept hk,⟨_,x.toInCall.ns,λi y v h1 h2 h3=>?_⟩,λy c h=>⟨_,x.cell y c h⟩,e0.hok.fresh (yS _),λy c h=>?_,λp hp=>absurd (show p∈([]:List (Addr×Obj)) from hp) (by simp),e0.hok.kept hk,?_⟩
 ·exact name_of_addr x.apart (PySem.mem_of_lookup h1) (PySem.mem_of_lookup h2)
 ·have hy:scope.names.lookup y=some .cell∨scope.names.lookup y=some .free:=hy;rcases hy with hy|hy
  ·exact VY hy
  ·exact absurd rfl (S.nofree _ (PySem.mem_of_lookup hy))
 ·exact uT (x.above y c (PySem.mem_of_lookup h))
 ·have hi:i<vs.length:=by
   unfold start at h2;by_cases hi:i<vs.length
   ·exact hi
   ·rw [uE (by simpa using hi)] at h2;rw [uA] at h2;split at h2<;>cases h2
  have ha:vs[i]?=some v:=by
   unfold start at h2;rw [uL (by simpa using hi),yV] at h2;cases e:vs[i]? with
   |none=>rw [e] at h2;cases h2
   |some a=>rw [e] at h2;cases h2;rfl
  obtain ⟨u,hu,rv⟩:=r.get ha;have hp:ps[i]?=some y:=by rw [<- S.pre,List.getElem?_take_of_lt (by omega)];exact h1
  have ndP:ps.Nodup:=by rw [<- S.pre];exact S.nd.sublist (List.take_sublist _ _)
  refine ⟨u,rv,?_⟩;rcases S.par y (yu hp) with k|k
  ·exact .inl ⟨k,VP ndP hp hu k⟩
  ·obtain ⟨c,e⟩:=VY (n:=s.heap.objs.size+1) k;refine .inr ⟨.inl k,c,e,?_⟩;have q:=x.cell y c e;rw [VN ndP hp hu (by show scope.names.lookup y≠_;rw [k];decide)] at q;exact q
 ·exact e0.hok.fresh (uT (x.above y c (PySem.mem_of_lookup h)))
 ·unfold start;show _=N.length;rw [yL,yZ,ut];omega
theorem WG {k:Nat}{f:Addr}{name:Str}{params:Arguments}{dV kV doc pm cdv ct oc:Value}{an od:Option Addr}{osl:Array (Option Value)}(lk:K.lookup f=some ⟨oc,od,.func (PySem.W.fnOf name qual params body scope dV kV doc pm an cdv ct),osl⟩)(hcd:PySem.W.codeIn K cdv qual=true)(S:v9 N ps scope)(len:∀ vs H Q E,sp vs H Q E->vs.length=ps.length)(hbody:∀(A:Around)(outer:List Env)(s:Shared)(H:Hp)(vs:List V)(Q:VK)(E:XK),Room k (A.deeper (envOfC qual scope s.heap.objs.size f cdv))->sp vs H Q E -> ∃ t,PSs (qG CX P w K mg base N qual scope f cdv A outer s H E) body t/\t { nx:=λ_ H'=>Q .non H',rt:=Q } (start N vs) H):FnOk P w K mg base CX (k+1) f (PySem.W.fnOf name qual params body scope dV kV doc pm an cdv ct) ps sp:=by
 refine ⟨len,λA outer s H args us vs Q E hr e0 hb r hsp=>?_⟩;have hl:=len _ _ _ _ hsp;have KX:K.In s.heap:=e0.mod.kin.keeps λb o e=>(e0.bs b o e).1;have lim:s.heap.NoLimit:=e0.mod.nolimit.keeps λb o e=>(e0.bs b o e).1;have hkind:∀ y∈ps.zip us,scope.names.lookup y.1=some .local∨(scope.names.lookup y.1=some .cell/\((cellsFrom (s.heap.objs.size+1) scope.names []).lookup y.1).isSome=true):=λ⟨n,v⟩ hy=>by
  rcases S.par n (List.of_mem_zip hy).1 with q|q
  ·exact .inl q
  ·exact .inr ⟨q,PySem.W.cellsFrom_some _ _ _ (.inl q)⟩
 refine codeAny_call_function hr.depth (KX _ _ lk) rfl S.co S.gen rfl (PySem.W.codeRec_of KX hcd) (hb _ _ _ _ ?_);refine wpAny_newFunctionEnv_cells S.kind hkind λenv he s1 x=>?_;subst he;refine ⟨lim.keeps x.toInCall.keep,codeAny_func ?_⟩;obtain ⟨t,ht,hq⟩:=hbody A outer s H vs Q E (hr.deeper _) hsp;have I:Inv (qG CX P w K mg base N qual scope f cdv A outer s H E) [] (start N vs) H s1:=KQ S hr.hd e0 hl r x;refine wpAny_mono (ht [] s1 (start N vs) H _ I hq) (λfl s' hs=>?_) λe s' hs=>hs;have fin:∀{σ':St}{H':Hp}{v:V}{u:Value},Inv (qG CX P w K mg base N qual scope f cdv A outer s H E) [] σ' H' s'->RelV v u->Q v H'->CE outer P w H s Q u s' :=
  λ{σ' H' v u} J rv q=>⟨v,H',J.os,J.bare,J.base,J.hok,rv,q⟩
 cases fl with
 |ret u=>obtain ⟨v,σ',H',J,rv,q⟩:=hs;exact fin J rv q
 |next=>obtain ⟨σ',H',J,q⟩:=hs;exact fin (v:=V.non) (u:=Value.none) J rfl q
 |brk=>obtain ⟨_,_,_,q⟩:=hs;exact False.elim q
 |cont=>obtain ⟨_,_,_,q⟩:=hs;exact False.elim q
section
variable {X:Cx}{x:Str}{p pos:Pos}{e:Expr}{es:List Expr}{t:TA}{id T:String}{r:List V->Hp->VK->Prop}
def tCB (r:List V->Hp->VK->Prop)(t:TA):TE:=λσ H Q=>t σ H λvs H1=>r vs H1 Q
theorem u5 (hc:CallR X (.builtin id) r)(hg:Gl X x)(hm:X.mg x=none)(hv:bootBuiltins x=some (.builtin id))(ha:PA X (e::es) t)(hn:x ≠ "__name__":=by decide)(hdb:(x==("__debug__":Str))=false:=by decide)(he:starEach (e::es) X.env=(false,eval e X.env)::starEach es X.env:=by rfl)(hpl:(backTo pos (starEach es X.env)).any (·.1)=false:=by rfl):PE X (.Call (.Name x p) (e::es) [] pos) (tCB r t):=by intro pins s σ H Q I h;refine wpAny_Call_Name_kw (zQ I hg hm hv ?_ hn hdb);exact PyProof.Rows.callWith_builtin1 (j4 (ha pos pins s σ H _ I h) λus s1 ⟨vs,H1,I1,r1,q1⟩=>hc pins s1 σ H1 vs us Q I1 r1 q1) he hpl
theorem zC (hc:CallR X (.type T) r)(hg:Gl X x)(hm:X.mg x=none)(hv:bootBuiltins x=some (.type T))(ha:PA X (e::es) t)(hn:x ≠ "__name__":=by decide)(hdb:(x==("__debug__":Str))=false:=by decide)(he:starEach (e::es) X.env=(false,eval e X.env)::starEach es X.env:=by rfl)(hpl:(backTo pos (starEach es X.env)).any (·.1)=false:=by rfl):PE X (.Call (.Name x p) (e::es) [] pos) (tCB r t):=by intro pins s σ H Q I h;refine wpAny_Call_Name_kw (zQ I hg hm hv ?_ hn hdb);exact PyProof.Rows.callWith_type1 (j4 (ha pos pins s σ H _ I h) λus s1 ⟨vs,H1,I1,r1,q1⟩=>hc pins s1 σ H1 vs us Q I1 r1 q1) he hpl
end
end L2
namespace HT
open PySem PyProof.Rows
section
variable {prog:Program}{w:World}{A:Around}{E:Value->Shared->Prop}{s:Shared}
theorem cat_tup {t b:Addr}{vs ws:List Value}{Q:Value->Shared->Prop}(ht:IsTup s.heap t vs.toArray)(hb:IsTup s.heap b ws.toArray)(hv:vs≠[])(h1:ws=[]->Q (.ref t) s)(h2:ws≠[]->Q (.ref s.heap.objs.size) { s with heap:=s.heap.push { cls:= .type "tuple",data:= .seq (vs++ws).toArray } })(hsz:vs.length+ws.length<=sizeLine):wpAny (model prog w) A (binaryOp .Add (.ref t) (.ref b)) Q E s:=by
 obtain ⟨⟨cls,dd,data,sl⟩,ho,hc,n,hd⟩:=id ht;obtain ⟨⟨cls2,dd2,data2,sl2⟩,ho2,hc2,n2,hd2⟩:=id hb;simp only at hc hd hc2 hd2;subst hc hd hc2 hd2;have e:vs.toArray++ws.toArray=(vs++ws).toArray:=by simp
 by_cases hw:ws=[]
 ·exact concat_meets ⟨_,ho,rfl⟩ ⟨_,ho2,rfl⟩ noFill_tuple_add seq_tuple_add PySem.F.slot_tuple_add PySem.F.entry_tuple_add (PySem.F.args_tuple_add_2 _ _)
   (tuple_addW1 t b vs.toArray ws.toArray n n2 dd dd2 sl sl2 (by simpa using hv) (by simp [hw])) ⟨ho,ho2,h1 hw⟩
 ·refine concat_meets ⟨_,ho,rfl⟩ ⟨_,ho2,rfl⟩ noFill_tuple_add seq_tuple_add PySem.F.slot_tuple_add PySem.F.entry_tuple_add (PySem.F.args_tuple_add_2 _ _)
   (tuple_addW2 t b vs.toArray ws.toArray n n2 dd dd2 sl sl2 (by simpa using hv) (by simpa using hw) (by rw [yY,yY];exact hsz)) ⟨ho,ho2,?_⟩
  rw [e];exact h2 hw
def sIx (n d:Nat):Option Int->Nat
 |none=>d
 |some v=>if v<0 then (v+(n:Int)).toNat else min v.toNat n
theorem sIx_none (n d:Nat):sIx n d none=d:=rfl
theorem sIx_nat (n d k:Nat):sIx n d (some (k:Int))=min k n:=by show (if (k:Int)<0 then ((k:Int)+(n:Int)).toNat else min (k:Int).toNat n)=min k n;rw [if_neg (by omega),uR]
end
end HT
namespace L2
open PySem PySem.Spec PyProof.Rows
variable{r:R2}{xs:List (List z9×Addr×Value)}{j n t':Nat}{α:Type}{pins:List (Addr×Obj)}{σ:St}{H H':Hp}{s:Shared}{its its':List Value}{A:Around}{x y:V}{u v:Value}{T:String}{o:Option V}{P:Program}{w:World}{kvs:List (List z9×V)}{a:Addr}{Q:Value->Shared->Prop}{h':Heap}
abbrev TO:=St->Hp->(Option Int->Hp->Prop)->Prop
def PO (X:Cx)(e:Option Expr)(t:TO):Prop :=
 ∀(pins:List (Addr×Obj))(s:Shared)(σ:St)(H:Hp)(Q:Option Int->Hp->Prop),Inv X pins σ H s->t σ H Q ->
  wpAny (model X.prog X.w) X.A (evalPart e X.env) (λu s'=>∃ o H',Inv X pins σ H' s'/\IsPart u o/\Q o H') X.xe s
def Uz:TO:=λ_ H Q=>Q none H
def UB (t:TE):TO:=λσ H Q=>t σ H λx H1=>∃ i,x = .int i/\Q (some i) H1
section
variable {X:Cx}{e:Expr}{te:TE}{lo hi:Option Expr}{tl th:TO}{pos p2:Pos}
theorem YA:PO X none Uz:=by intro pins s σ H Q I h;rw [evalPart_none];exact yx ⟨none,H,I,.none,h⟩
theorem YB (h:PE X e te):PO X (some e) (UB te):=by intro pins s σ H Q I hw;rw [evalPart_some];refine j4 (h pins s σ H _ I hw) λu s1 ⟨x,H1,I1,r1,q1⟩=>?_;obtain ⟨i,rfl,q⟩:=q1;obtain ⟨t,rfl⟩:=r1;exact ⟨some i,H1,I1,.int i t,q⟩
def SlR (X:Cx)(r:V->Option Int->Option Int->Hp->VK->Prop):Prop :=
 ∀(pins:List (Addr×Obj))(s:Shared)(σ:St)(H:Hp)(x:V)(v vl vu:Value)(lo hi:Option Int)(sl:Addr)(Q:VK),Inv X pins σ H s->RelV x v->s.heap.IsSliceOf sl vl vu .none->IsPart vl lo->IsPart vu hi->r x lo hi H Q ->
  ∃ T id,typeLookup (.type T) "__getitem__"=pure (some (.builtin id))/\s.TypeIs v T/\wpAny (model X.prog X.w) X.A (getItem v (.ref sl)) (EP X pins σ Q) X.xe s
def tSl (r:V->Option Int->Option Int->Hp->VK->Prop)(te:TE)(tl th:TO):TE:=λσ H Q=>te σ H λx H1=>tl σ H1 λl H2=>th σ H2 λu H3=>r x l u H3 Q
theorem Yw {r:V->Option Int->Option Int->Hp->VK->Prop}(hr:SlR X r)(he:PE X e te)(hl:PO X lo tl)(hu:PO X hi th):PE X (.Subscript e (.Slice lo hi none p2) pos) (tSl r te tl th):=by intro pins s σ H Q I h;refine Subscript_ (j4 (he pins s σ H _ I h) λv s1 ⟨x,H1,I1,r1,q1⟩=>?_);refine wpAny_Slice (j4 (hl pins s1 σ H1 _ I1 q1) λvl s2 ⟨l,H2,I2,pl,q2⟩=>j4 (hu pins s2 σ H2 _ I2 q2) λvu s3 ⟨u,H3,I3,pu,q3⟩=>?_);rw [evalPart_none];refine yx ?_;have I4:Inv X pins σ H3 { s3 with heap:=s3.heap.push { cls:= .type "slice",data:= .fields #[vl,vu,.none] } }:=I3.kept (t':=s3.toks) λb ob q=>yX _ q;obtain ⟨T,id,hT,ht,hg⟩:=hr pins { s3 with heap:=s3.heap.push { cls:= .type "slice",data:= .fields #[vl,vu,.none] } } σ H3 x v vl vu l u s3.heap.objs.size Q I4 r1 (Heap.IsSliceOf.new ..) pl pu q3;show wpAny (model X.prog X.w) X.A (subscriptTail e (.Slice lo hi none p2) v (.ref s3.heap.objs.size)) (EP X pins σ Q) X.xe { s3 with heap:=s3.heap.push { cls:= .type "slice",data:= .fields #[vl,vu,.none] } };exact tail_any (ops:=[.ref s3.heap.objs.size,v]) ht hT hg (by with_unfolding_all rfl)
def vd (xs:List V)(lo hi:Option Int):List V:=(xs.drop (HT.sIx xs.length 0 lo)).take (HT.sIx xs.length xs.length hi-HT.sIx xs.length 0 lo)
theorem GP (xs:List V)(lo hi:Option Int):(vd xs lo hi).length<=xs.length:=by unfold vd;rw [uG,uF];omega
def YJ (K:Fg):R2:=λx y H Q=>∃ a b xs ys,x = .ref a/\y = .ref b/\SqT K H a xs/\SqT K H b ys/\xs≠[]/\xs.length+ys.length<=sizeLine /\
 (ys=[]->Q (.ref a) H)/\(ys≠[]->∀ p,H p=none->Q (.ref p) (z8 H p (.tup (xs++ys))))
theorem Vals.nil_iff {xs:List V}{us:List Value}(r:Vals xs us):us=[]↔xs=[]:=by
 cases r with
 |nil=>simp
 |cons _ _=>simp
theorem PZ:OpR X (binaryOp .Add) (YJ X.K):=by intro pins s σ H x y v u Q I rx ry h;obtain ⟨a,b,xs,ys,rfl,rfl,ha,hb,hx,hz,q1,q2⟩:=h;cases rx;cases ry;obtain ⟨its,r1,p1,_⟩:=I.tuple ha;obtain ⟨its2,r2,p2,_⟩:=I.tuple hb;refine HT.cat_tup p1 p2 (λz=>hx (r1.nil_iff.mp z)) (λz=>⟨.ref a,H,I,rfl,q1 (r2.nil_iff.mp z)⟩) (λz=>?_) (by rw [<- r1.length,<- r2.length];exact hz);refine ⟨.ref s.heap.objs.size,_,I.laid (t':=s.toks) (o:= .tup (xs++ys)) (λb ob q=>yX _ q) (yS _) ?_,rfl,q2 (λw=>z (r2.nil_iff.mpr w)) _ (I.hok.fresh (yS _))⟩;exact ⟨by rw [yL];exact hz,_,r1.append r2,IsTup.new _ _⟩
end
def ixN (n:Nat)(i:Int):Option Nat:=if 0<=i then (if i<n then some i.toNat else none) else if -(n:Int)<=i then some (i+n).toNat else none
def atI {α:Type}(xs:List α)(i:Int):Option α:=(ixN xs.length i).bind λj=>xs[j]?
theorem WP {i:Int}(h:ixN n i=some j):seqIndex? i n=some j/\j<n/\-(n:Int)<=i/\i<n:=by
 unfold ixN at h;by_cases h0:0<=i
 ·rw [if_pos h0] at h;by_cases h1:i<n
  ·rw [if_pos h1] at h;have e:i.toNat=j:=Option.some.inj h;exact ⟨by rw [seqIndex_of h0 h1,e],by omega,by omega,h1⟩
  ·rw [if_neg h1] at h;cases h
 ·rw [if_neg h0] at h;by_cases h1:-(n:Int)<=i
  ·rw [if_pos h1] at h;have e:(i+n).toNat=j:=Option.some.inj h;exact ⟨by rw [seqIndex_neg (by omega) h1,e],by omega,h1,by omega⟩
  ·rw [if_neg h1] at h;cases h
theorem Xl {xs:List α}{i:Int}{v:α}(h:atI xs i=some v):∃ j,seqIndex? i xs.length=some j/\xs[j]?=some v/\j<xs.length/\-(xs.length:Int)<=i/\i<xs.length:=by
 unfold atI at h;cases e:ixN xs.length i with
 |none=>rw [e] at h;cases h
 |some j=>rw [e] at h;obtain ⟨h1,h2,h3,h4⟩:=WP e;exact ⟨j,h1,h,h2,h3,h4⟩
theorem qX {xs:List α}{v:α}(h:xs[j]?=some v):atI xs (j:Int)=some v:=by
 have hj:j<xs.length:=(yG.mp h).1;have e:ixN xs.length (j:Int)=some j:=by unfold ixN;rw [if_pos (by omega),if_pos (by omega)];simp
 unfold atI;rw [e];exact h
def JQ (b:Expr):Prop:=∀ o i,subscripted b false o i=operate [o,i] (getItem o i)
def IxR (X:Cx)(r:R2):Prop :=
 ∀(value slice:Expr)(pins:List (Addr×Obj))(s:Shared)(σ:St)(H:Hp)(x y:V)(v u:Value)(Q:VK),Inv X pins σ H s->RelV x v->RelV y u->r x y H Q ->
  subscripted slice false v u=operate [v,u] (getItem v u)->wpAny (model X.prog X.w) X.A (subscriptTail value slice v u) (EP X pins σ Q) X.xe s
def MtR (X:Cx)(id:String)(r:V->List V->Hp->VK->Prop):Prop :=
 ∀(pins:List (Addr×Obj))(s:Shared)(σ:St)(H:Hp)(x:V)(xs:List V)(v:Value)(us:List Value)(Q:VK),Inv X pins σ H s->RelV x v->Vals xs us->r x xs H Q ->
  wpAny (model X.prog X.w) X.A (call (.builtin id) (v::us)) (EP X pins σ Q) X.xe s
section
variable {X:Cx}{a b:Expr}{ta tb:TE}{pos:Pos}
theorem IxR.or {r':R2}(h:IxR X r)(h':IxR X r'):IxR X (λx y H Q=>r x y H Q∨r' x y H Q):=by
 intro value slice pins s σ H x y v u Q I rx ry q hs;rcases q with q|q
 ·exact h value slice pins s σ H x y v u Q I rx ry q hs
 ·exact h' value slice pins s σ H x y v u Q I rx ry q hs
theorem QV (hr:IxR X r)(ha:PE X a ta)(hb:PE X b tb)(hs:JQ b):PE X (.Subscript a b pos) (tOp r ta tb):=by intro pins s σ H Q I h;exact Subscript_ (binT ha hb I h λv u s2 x y H2 I2 rx ry q=>hr a b pins s2 σ H2 x y v u Q I2 rx ry q (hs _ _))
def rIxL (K:Fg):R2:=λx y H Q=>∃ p xs i v,x = .ref p/\y = .int i/\SqL K H p xs/\atI xs i=some v/\Q v H
def rIxT (K:Fg):R2:=λx y H Q=>∃ p xs i v,x = .ref p/\y = .int i/\SqT K H p xs/\atI xs i=some v/\Q v H
def rIxS:R2:=λx y H Q=>∃ z i c,x = .str z/\y = .int i/\z.length<=sizeLine/\atI z.cps.toList i=some c/\Q (.str ⟨#[c]⟩) H
theorem ix_list:IxR X (rIxL X.K):=by
 intro value slice pins s σ H x y v u Q I rx ry h hs;obtain ⟨p,xs,i,z,rfl,rfl,hq,he,q⟩:=h;cases rx;obtain ⟨t,rfl⟩:=ry;obtain ⟨its,r,pl,hz⟩:=I.list hq;obtain ⟨j,h1,h2,h3,h4,h5⟩:=Xl he;obtain ⟨w,ew,rw'⟩:=r.get h2;have hl:=r.length;have hn:=jy;have fin:EP X pins σ Q w s:=⟨z,H,I,rw',q⟩;by_cases h0:0<=i
 ·have hj:i.toNat=j:=by rw [seqIndex_of h0 h5] at h1;exact Option.some.inj h1
  exact item_listR pl.isList h0 (by omega) (by rw [hj];simpa using ew) fin hs
 ·have hj:(i+(its.toArray.size:Int)).toNat=j:=by rw [seqIndex_neg (by omega) h4] at h1;rw [yY,<- hl];exact Option.some.inj h1
  exact subscriptTail_builtinR (x:=w) pl.isList.typeIs slot_list_getitem.lookup
   (wpAny_getItem_list_neg (Q:=λr s'=>r=w/\EP X pins σ Q r s') pl.isList (by omega) (by rw [yY]<;>omega) (by omega) (by rw [hj];simpa using ew) ⟨rfl,fin⟩) hs
theorem ix_tup:IxR X (rIxT X.K):=by
 intro value slice pins s σ H x y v u Q I rx ry h hs;obtain ⟨p,xs,i,z,rfl,rfl,hq,he,q⟩:=h;cases rx;obtain ⟨t,rfl⟩:=ry;obtain ⟨its,r,pl,hz⟩:=I.tuple hq;obtain ⟨j,h1,h2,h3,h4,h5⟩:=Xl he;obtain ⟨w,ew,rw'⟩:=r.get h2;have hl:=r.length;have hn:=jy;have fin:EP X pins σ Q w s:=⟨z,H,I,rw',q⟩;exact subscriptTail_builtinR (x:=w) pl.typeIs slot_tuple_getitem.lookup
  (getItem_tuple (j:=j) (Q:=λr s'=>r=w/\EP X pins σ Q r s') pl (by omega) (by omega) (by rw [yY,<- hl];exact h1) (by simpa using ew) ⟨rfl,fin⟩) hs
theorem Bh:IxR X rIxS:=by
 intro value slice pins s σ H x y v u Q I rx ry h hs;obtain ⟨z,i,c,rfl,rfl,hz,he,q⟩:=h;obtain ⟨t,rfl⟩:=rx;obtain ⟨t',rfl⟩:=ry;obtain ⟨j,h1,h2,h3,h4,h5⟩:=Xl he;have hl:z.cps.toList.length=z.length:=by simp [Str.length]
 rw [hl] at h1 h4 h5;have hn:=jy;exact tail_any (typeIs_str s z t) slot_str_getitem.lookup (getItem_str (c:=c) (by
  have e1:decide (i < -(2 ^ 63:Int))=false:=yD (by omega);have e2:decide (i >= 2 ^ 63)=false:=yD (by omega);rw [e1,e2,Bool.or_false]) (by rw [h1];simpa using h2) ⟨.str ⟨#[c]⟩,H,I.tok _,⟨_,rfl⟩,q⟩) hs
def rIx (K:Fg):R2:=λx y H Q=>rIxL K x y H Q∨rIxT K x y H Q∨rIxS x y H Q
theorem Bf:IxR X (rIx X.K):=ix_list.or (ix_tup.or Bh)
theorem BG (its:List Value)(n j:Nat)(u:Value):Obj.mapSeq (·.setIfInBounds j u) { cls:= .type "list",data:= .seq its.toArray n }={ cls:= .type "list",data:= .seq (its.set j u).toArray n }:=by simp [Obj.mapSeq]
theorem Inv.lst {pins:List (Addr×Obj)}{σ:St}{H:Hp}{s:Shared}{p:Addr}{xs:List V}(I:Inv X pins σ H s)(h:H p=some (.lst xs)):∃ (its:List Value) (n:Nat),Vals xs its/\s.heap.get? p=some { cls:= .type "list",data:= .seq its.toArray n }/\xs.length<=sizeLine:=by obtain ⟨z,its,n,r,e⟩:=I.hok p _ h;exact ⟨its,n,r,e,z⟩
theorem Inv.lstUpd {p:Addr}{xs ys:List V}{n':Nat}{f:Obj->Obj}(I:Inv X pins σ H s)(h:H p=some (.lst xs))(ho:s.heap.get? p=some { cls:= .type "list",data:= .seq its.toArray n })(hf:f { cls:= .type "list",data:= .seq its.toArray n }={ cls:= .type "list",data:= .seq its'.toArray n' })(r:Vals ys its')(hz:ys.length<=sizeLine)(t:Nat):Inv X pins σ (z8 H p (.lst ys)) { s with heap:=s.heap.update p f,toks:=t }:=by
 have e:(s.heap.update p f).get? p=some { cls:= .type "list",data:= .seq its'.toArray n' }:=by rw [Heap.get?_update_self f ho (by rw [hf]<;>rfl),hf]
 refine I.write (x:=p) (e:=p) (by rw [h];trivial) (.inl rfl) (λb u hb q=>(uN _ _ (Ne.symm hb)).trans q) ⟨_,e⟩ ?_;exact ⟨hz,its',n',r,e⟩
def rSetL:V->V->V->Hp->(Hp->Prop)->Prop:=λo i v H Q=>∃ p xs k j,o = .ref p/\i = .int k/\H p=some (.lst xs)/\ixN xs.length k=some j/\Q (z8 H p (.lst (xs.set j v)))
theorem DW:PSet X rSetL:=by
 intro pins s σ H o i v ov iv u Q I ro ri rv h;obtain ⟨p,xs,k,j,rfl,rfl,hp,hj,q⟩:=h;cases ro;obtain ⟨t,rfl⟩:=ri;obtain ⟨its,n,r,ho,hz⟩:=I.lst hp;obtain ⟨h1,h2,h3,h4⟩:=WP hj;have hl:=r.length;have hn:=jy;have I':Inv X pins σ (z8 H p (.lst (xs.set j v))) { s with heap:=s.heap.update p (Obj.mapSeq (·.setIfInBounds j u)) } :=
  I.lstUpd hp ho (BG its n j u) (r.set rv j) (by rw [yC];exact hz) s.toks
 by_cases h0:0<=k
 ·have hk:k.toNat=j:=by rw [seqIndex_of h0 h4] at h1;exact Option.some.inj h1
  exact PySem.W.ki_setAt ho h0 (by omega) (by rw [yY,<- hl];exact h4) (by rw [hk];exact ⟨_,I',q⟩)
 ·have hk:(k+(its.toArray.size:Int)).toNat=j:=by rw [seqIndex_neg (by omega) h3] at h1;rw [yY,<- hl];exact Option.some.inj h1
  exact PySem.W.ki_setBack ho (by omega) (by rw [yY,<- hl];exact h3) (by omega) (by rw [hk];exact ⟨_,I',q⟩)
theorem Mc (lo hi:Option Int)(n:Nat):(sliceBounds lo hi none n).1=((HT.sIx n 0 lo:Nat):Int)/\(sliceBounds lo hi none n).2.1=((HT.sIx n n hi:Nat):Int)/\(sliceBounds lo hi none n).2.2=1:=by
 refine ⟨?_,?_,rfl⟩
 ·cases lo with
  |none=>simp [sliceBounds,HT.sIx]
  |some i =>
   simp only [sliceBounds,HT.sIx,ur,show (1:Int) > 0 by decide,if_true];by_cases h:i<0
   ·simp only [h,if_true]<;>omega
   ·simp only [h,if_false]<;>omega
 ·cases hi with
  |none=>simp [sliceBounds,HT.sIx]
  |some i =>
   simp only [sliceBounds,HT.sIx,ur,show (1:Int) > 0 by decide,if_true];by_cases h:i<0
   ·simp only [h,if_true]<;>omega
   ·simp only [h,if_false]<;>omega
theorem Mb (its:List Value)(lo hi:Option Int):slicePick its.toArray lo hi none=((its.drop (HT.sIx its.length 0 lo)).take (HT.sIx its.length its.length hi-HT.sIx its.length 0 lo)).toArray:=by obtain ⟨h1,h2,h3⟩:=Mc lo hi its.toArray.size;unfold slicePick;rw [h1,h2,h3];simp only [sliceRange_one,pick_run,yY]<;>rfl
def rSlL (K:Fg):V->Option Int->Option Int->Hp->VK->Prop:=λx lo hi H Q=>∃ a xs,x = .ref a/\SqL K H a xs/\∀ p,H p=none->Q (.ref p) (z8 H p (.lst (vd xs lo hi)))
theorem Ma:SlR X (rSlL X.K):=by intro pins s σ H x v vl vu lo hi sl Q I rx hs pl pu h;obtain ⟨a,xs,rfl,hx,q⟩:=h;cases rx;obtain ⟨its,r,ht,hz⟩:=I.list hx;have hlen:=r.length;refine ⟨"list",_,slot_list_getitem.lookup,ht.isList.typeIs,?_⟩;refine wpAny_getItem_list_slice ht.isList hs pl pu .none (by simp) ?_ (by rw [yY]<;>omega);rw [Mb,<- hlen];refine ⟨.ref s.heap.objs.size,_,I.laid (t':=s.toks) (o:= .lst (vd xs lo hi)) (λb ob q=>yX _ q) (yS _) ?_,rfl,q _ (I.hok.fresh (yS _))⟩;exact ⟨yf (GP xs lo hi) hz,_,0,(r.drop (HT.sIx xs.length 0 lo)).take (HT.sIx xs.length xs.length hi-HT.sIx xs.length 0 lo),yA _ rfl⟩
def u4:V->Bool
 | .non=>true
 | .bl _=>true
 | .int _=>true
 | .str _=>true
 |_=>false
def h8:V->V->Bool
 | .non,.non=>true
 | .bl a,.bl b=>a==b
 | .bl a,.int b=>(if a then 1 else 0)==b
 | .int a,.bl b=>a==(if b then 1 else 0)
 | .int a,.int b=>a==b
 | .str a,.str b=>a==b
 |_,_=>false
theorem Xw (ry:RelV y u)(rx:RelV x v)(fy:u4 y=true)(fx:u4 x=true):SeqAt.EqAt A s u v (h8 y x):=by
 cases y with
 |non =>
  cases ry;cases x with
  |non=>cases rx;exact SeqAt.EqAt.same _
  |bl b=>cases rx;exact SeqAt.EqAt.none_bool b
  |int b=>obtain ⟨t,rfl⟩:=rx;exact SeqAt.EqAt.none_int b t
  |str b=>obtain ⟨t,rfl⟩:=rx;exact SeqAt.EqAt.none_str b t
  |_=>exact absurd (show false=true from fx) yW
 |bl a =>
  cases ry;cases x with
  |non=>cases rx;exact SeqAt.EqAt.bool_none a
  |bl b=>cases rx;exact SeqAt.EqAt.bool_bool a b
  |int b=>obtain ⟨t,rfl⟩:=rx;exact SeqAt.EqAt.bool_int a b t
  |str b=>obtain ⟨t,rfl⟩:=rx;exact SeqAt.EqAt.bool_str a b t
  |_=>exact absurd (show false=true from fx) yW
 |int a =>
  obtain ⟨t',rfl⟩:=ry;cases x with
  |non=>cases rx;exact SeqAt.EqAt.int_none a t'
  |bl b=>cases rx;exact SeqAt.EqAt.int_bool a t' b
  |int b=>obtain ⟨t,rfl⟩:=rx;exact SeqAt.EqAt.int_int a t' b t
  |str b=>obtain ⟨t,rfl⟩:=rx;exact SeqAt.EqAt.int_str a t' b t
  |_=>exact absurd (show false=true from fx) yW
 |str a =>
  obtain ⟨t',rfl⟩:=ry;cases x with
  |non=>cases rx;exact SeqAt.EqAt.str_none a t'
  |bl b=>cases rx;exact SeqAt.EqAt.str_bool a t' b
  |int b=>obtain ⟨t,rfl⟩:=rx;exact SeqAt.EqAt.str_int a t' b t
  |str b=>obtain ⟨t,rfl⟩:=rx;exact SeqAt.EqAt.str_str a t' b t
  |_=>exact absurd (show false=true from fx) yW
 |_=>exact absurd (show false=true from fy) yW
def eqU (x:V)(u:Value):Bool:=match u with
 | .none=>h8 .non x
 | .bool b=>h8 (.bl b) x
 | .int i _=>h8 (.int i) x
 | .str z _=>h8 (.str z) x
 |_=>false
theorem Wu (r:RelV y u)(f:u4 y=true):eqU x u=h8 y x:=by
 cases y with
 |non=>cases r;rfl
 |bl b=>cases r;rfl
 |int i=>obtain ⟨t,rfl⟩:=r;rfl
 |str z=>obtain ⟨t,rfl⟩:=r;rfl
 |_=>exact absurd (show false=true from f) yW
theorem vM {x:V}:∀{xs:List V}{us:List Value},Vals xs us->xs.all u4=true->us.any (eqU x)=xs.any λy=>h8 y x
 |_,_,.nil,_=>rfl
 |y::xs,u::us,.cons r t,f=>by
  rw [List.all_cons,yb] at f;rw [List.any_cons,List.any_cons,Wu r f.1,vM t f.2]
theorem wp {A:Around}{s:Shared}{x:V}{v:Value}(rx:RelV x v)(fx:u4 x=true):∀{xs:List V}{us:List Value},Vals xs us->xs.all u4=true->∀ u∈us,SeqAt.EqAt A s u v (eqU x u)
 |_,_,.nil,_=>λu hu=>by cases hu
 |y::xs,u::us,.cons r t,f=>λu' hu=>by
  rw [List.all_cons,yb] at f;rcases yM.mp hu with rfl|hu
  ·rw [Wu r f.1];exact Xw r rx f.1 fx
  ·exact wp rx fx t f.2 u' hu
def inV (x:V)(xs:List V):Bool:=xs.any λy=>h8 y x
def rIn (K:Fg)(neg:Bool):R2:=λx y H Q=>∃ p xs,y = .ref p/\(SqL K H p xs∨SqT K H p xs)/\u4 x=true/\xs.all u4=true/\Q (.bl (if neg then !inV x xs else inV x xs)) H
theorem Ca:OpR X (compareOp .In) (rIn X.K false):=by
 intro pins s σ H x y v u Q I rx ry h;obtain ⟨p,xs,rfl,hq,fx,fs,q⟩:=h;cases ry;rcases hq with hq|hq
 ·obtain ⟨its,r,pl,hz⟩:=I.list hq;refine SeqAt.in_listAt (eqU x) pl.isList (λw hw=>wp rx fx r fs w (by simpa using hw)) ⟨.bl _,H,I,rfl,?_⟩;rw [show its.toArray.any (eqU x)=its.any (eqU x) by simp,vM r fs];exact q
 ·obtain ⟨its,r,pl,hz⟩:=I.tuple hq;refine SeqAt.in_tupleAt (eqU x) pl (λw hw=>wp rx fx r fs w (by simpa using hw)) ⟨.bl _,H,I,rfl,?_⟩;rw [show its.toArray.any (eqU x)=its.any (eqU x) by simp,vM r fs];exact q
theorem Cd:OpR X (compareOp .NotIn) (rIn X.K true):=by
 intro pins s σ H x y v u Q I rx ry h;obtain ⟨p,xs,rfl,hq,fx,fs,q⟩:=h;cases ry;rcases hq with hq|hq
 ·obtain ⟨its,r,pl,hz⟩:=I.list hq;refine SeqAt.notIn_listAt (eqU x) pl.isList (λw hw=>wp rx fx r fs w (by simpa using hw)) ⟨.bl _,H,I,rfl,?_⟩;rw [show its.toArray.any (eqU x)=its.any (eqU x) by simp,vM r fs];exact q
 ·obtain ⟨its,r,pl,hz⟩:=I.tuple hq;refine SeqAt.notIn_tupleAt (eqU x) pl (λw hw=>wp rx fx r fs w (by simpa using hw)) ⟨.bl _,H,I,rfl,?_⟩;rw [show its.toArray.any (eqU x)=its.any (eqU x) by simp,vM r fs];exact q
theorem GC:CallR X (.builtin "len") (λxs H Q=>∃ p ys,xs=[.ref p]/\(SqL X.K H p ys∨SqT X.K H p ys)/\Q (.int ys.length) H):=by
 intro pins s σ H xs us Q I r h;obtain ⟨p,ys,rfl,hq,q⟩:=h;obtain ⟨u,rfl,rx⟩:=xW r;cases rx;have hn:=jy;rcases hq with hq|hq
 ·obtain ⟨its,r',pl,hz⟩:=I.list hq;have hlen:=r'.length;exact Calls.call_len_list pl.isList (by simp only [yY]<;>omega) ⟨.int ys.length,H,I.tok _,⟨s.toks+1,by rw [yY,hlen]⟩,q⟩
 ·obtain ⟨its,r',pl,hz⟩:=I.tuple hq;have hlen:=r'.length;exact len_tuple pl (by simp only [yY]<;>omega) ⟨.int ys.length,H,I.tok _,⟨s.toks+1,by rw [yY,hlen]⟩,q⟩
theorem CallR.or {f:Value}{r r':List V->Hp->VK->Prop}(h:CallR X f r)(h':CallR X f r'):CallR X f (λxs H Q=>r xs H Q∨r' xs H Q):=by
 intro pins s σ H xs us Q I rs q;rcases q with q|q
 ·exact h pins s σ H xs us Q I rs q
 ·exact h' pins s σ H xs us Q I rs q
theorem GD:CallR X (.type "list") (λxs H Q=>∃ p ys,xs=[.ref p]/\(SqL X.K H p ys∨SqT X.K H p ys)/\∀ l,H l=none->Q (.ref l) (z8 H l (.lst ys))):=by
 intro pins s σ H xs us Q I r h;obtain ⟨p,ys,rfl,hq,q⟩:=h;obtain ⟨u,rfl,rx⟩:=xW r;cases rx;have fin:∀(its:List Value),Vals ys its->ys.length<=sizeLine->∀(h':Heap)(c':Nat),(∀ b o',s.heap.get? b=some o'->h'.get? b=some o') ->
   h'.get? s.heap.objs.size=some { cls:= .type "list",dict:=none,data:= .seq its.toArray c',slots:=#[] }->EP X pins σ Q (.ref s.heap.objs.size) { s with heap:=h' }:=λits r' hz h' c' kp e =>
  ⟨.ref s.heap.objs.size,_,I.laid (t':=s.toks) kp (yS _) (show ObjOk X.prog X.w _ h' _ (.lst ys) from ⟨hz,its,c',r',e⟩),rfl,q _ (I.hok.fresh (yS _))⟩
 rcases hq with hq|hq
 ·obtain ⟨its,r',pl,hz⟩:=I.list hq;have hlen:=r'.length;obtain ⟨o,ho,hc,n,hd⟩:=pl.isList;exact call_list_seq p (.inl rfl) ho hc hd (λh' c' kp e=>fin its r' hz h' c' kp e) (by simp only [yY]<;>omega)
 ·obtain ⟨its,r',pl,hz⟩:=I.tuple hq;have hlen:=r'.length;obtain ⟨o,ho,hc,n,hd⟩:=pl;exact call_list_seq p (.inr rfl) ho hc hd (λh' c' kp e=>fin its r' hz h' c' kp e) (by simp only [yY]<;>omega)
def tyV (K:Fg)(T:String)(x:V)(H:Hp):Prop:=match x with
 | .str _=>T = "str"
 | .int _=>T = "int"
 | .ref p=>(T = "list"/\∃ xs,SqL K H p xs)∨(T = "tuple"/\∃ o,K.lookup p=some o/\o.cls = .type "tuple"/\o.dict=none) ∨
   (T = "dict"/\((∃ kvs,H p=some (.dK kvs))∨∃ kvs,H p=some (.dT kvs)))∨(T = "set"/\∃ S n,H p=some (.set S n))
 |_=>False
theorem UJ (I:Inv X pins σ H s)(r:RelV x v)(ty:tyV X.K T x H):s.TypeIs v T/\∀ a,v = .ref a->∃ ob,s.heap.get? a=some ob/\ob.dict=none:=by
 cases x with
 |str z=>obtain ⟨t,rfl⟩:=r;cases (show T = "str" from ty);exact ⟨typeIs_str s z t,λ_ e=>nomatch e⟩
 |int i=>obtain ⟨t,rfl⟩:=r;cases (show T = "int" from ty);exact ⟨typeIs_int s i t,λ_ e=>nomatch e⟩
 |ref p =>
  cases r;rcases ty with ⟨rfl,xs,hq⟩|⟨rfl,o,hk,hc,hd⟩|⟨rfl,hk⟩|⟨rfl,S,n,hk⟩
  ·obtain ⟨its,_,pl,_⟩:=I.list hq;refine ⟨pl.isList.typeIs,λa e=>?_⟩;cases e;obtain ⟨o,n,e,c,hd,_⟩:=pl;exact ⟨o,e,hd⟩
  ·refine ⟨⟨o,I.kIn p o hk,hc⟩,λa e=>?_⟩;cases e;exact ⟨o,I.kIn _ o hk,hd⟩
  ·have z:∃ o,s.heap.get? p=some o/\o.ExactDict:=by
    rcases hk with ⟨kvs,hk⟩|⟨kvs,hk⟩
    ·obtain ⟨_,_,_,_,o,_,_,e,ex,_⟩:=I.hok p _ hk;exact ⟨o,e,ex⟩
    ·obtain ⟨_,_,_,_,o,_,_,e,ex,_⟩:=I.hok p _ hk;exact ⟨o,e,ex⟩
   obtain ⟨o,e,ex⟩:=z;refine ⟨⟨o,e,ex.1⟩,λa e2=>?_⟩;cases e2;exact ⟨o,e,ex.2.1⟩
  ·obtain ⟨o,_,_,_,e,ex,_⟩:=I.hok p _ hk;refine ⟨⟨o,e,ex.1⟩,λa e2=>?_⟩;cases e2;exact ⟨o,e,ex.2.1⟩
 |_=>exact False.elim ty
def tBM0 (K:Fg)(T:String)(r:V->List V->Hp->VK->Prop)(to:TE):TE:=λσ H Q=>to σ H λx H1=>tyV K T x H1/\r x [] H1 Q
def tBM (K:Fg)(T:String)(r:V->List V->Hp->VK->Prop)(to:TE)(t:TA):TE:=λσ H Q=>to σ H λx H1=>tyV K T x H1/\t σ H1 λxs H2=>r x xs H2 Q
variable {o e:Expr}{es:List Expr}{to:TE}{t:TA}{name:Str}{apos cpos:Pos}{T id:String}{r:V->List V->Hp->VK->Prop}
theorem Cm (pa:PlainAttrs T)(slot:Slot T name id)(hty:typeOf (.builtin id)=pure (.type "method_descriptor"))(hm:MtR X id r)(ho:PE X o to)(hbase:attributeBase o name X.env (eval o X.env)=eval o X.env:=by rfl)(hline:(apos.endLine==cpos.line)=true:=by rfl):PE X (.Call (.Attribute o name apos) [] [] cpos) (tBM0 X.K T r to):=by intro pins s σ H Q I h;refine wpAny_Call_method0_late hbase hline (j4 (ho pins s σ H _ I h) λv s1 ⟨x,H1,I1,r1,ty,q1⟩=>?_);obtain ⟨h1,h2⟩:=UJ I1 r1 ty;exact ⟨T,id,pa,slot,hty,h1,h2,Calls.callWith_builtin rfl (PySem.evalArgs_none (hm pins s1 σ H1 x [] v [] Q I1 r1 .nil q1))⟩
theorem pe_bm (pa:PlainAttrs T)(slot:Slot T name id)(hty:typeOf (.builtin id)=pure (.type "method_descriptor"))(hm:MtR X id r)(ho:PE X o to)(ha:PA X (e::es) t)(hbase:attributeBase o name X.env (eval o X.env)=eval o X.env:=by rfl)(hfew:((backTo cpos (starEach (e::es) X.env)).all (λx=>!x.1)&&(backToKw cpos (keywordEach [] X.env)).all (λx=>x.1.isSome)&&decide ((e::es).length+([]:List Keyword).length+(if ([]:List Keyword).isEmpty then 0 else 1)<30))=true:=by rfl)(hline:(apos.endLine==cpos.line)=true:=by rfl)(hs:starEach (e::es) X.env=(false,eval e X.env)::starEach es X.env:=by rfl)(hplain:(backTo cpos (starEach es X.env)).any (·.1)=false:=by rfl):PE X (.Call (.Attribute o name apos) (e::es) [] cpos) (tBM X.K T r to t):=by intro pins s σ H Q I h;refine wpAny_Call_method_late hbase hfew hline rfl (j4 (ho pins s σ H _ I h) λv s1 ⟨x,H1,I1,r1,ty,q1⟩=>?_);obtain ⟨h1,h2⟩:=UJ I1 r1 ty;refine ⟨T,id,pa,slot,hty,h1,h2,?_⟩;have hA:=ha cpos pins s1 σ H1 _ I1 q1;rw [hs] at hA ⊢;refine Calls.callWith_builtin (by show (false || (backTo cpos (starEach es X.env)).any (·.1))=false;rw [hplain]<;>rfl) (Calls.evalArgs_plain ?_);exact j4 hA λus s2 ⟨vs,H2,I2,r2,q2⟩=>hm pins s2 σ H2 x vs v us Q I2 r1 r2 q2
end
def MtM (X:Cx)(id:String)(r:V->List V->Hp->VK->Prop):Prop :=
 ∀(pins:List (Addr×Obj))(s:Shared)(σ:St)(H:Hp)(x:V)(xs:List V)(v:Value)(us:List Value)(Q:VK),Inv X pins σ H s->RelV x v->Vals xs us->r x xs H Q ->
  wpAny (model X.prog X.w) X.A (call (.builtin id) (v::us)) (EP X pins σ Q) X.xe s
theorem Vals.one:∀{x:V}{us:List Value},Vals [x] us->∃ u,us=[u]/\RelV x u
 |_,_,.cons r .nil=>⟨_,rfl,r⟩
theorem Vals.two:∀{x y:V}{us:List Value},Vals [x,y] us->∃ u v,us=[u,v]/\RelV x u/\RelV y v
 |_,_,_,.cons r (.cons q .nil)=>⟨_,_,rfl,r,q⟩
theorem Vals.zero:∀{us:List Value},Vals [] us->us=[]
 |_,.nil=>rfl
theorem Vals.eraseIdx:∀{xs:List V}{us:List Value}(i:Nat),Vals xs us->Vals (xs.eraseIdx i) (us.eraseIdx i)
 |_,_,_,.nil=> .nil
 |_,_,0,.cons _ t=>t
 |_,_,i+1,.cons r t=> .cons r (Vals.eraseIdx i t)
theorem Vals.rep {xs:List V}{us:List Value}(h:Vals xs us):∀ k:Nat,Vals (List.replicate k xs).flatten (List.replicate k us).flatten
 |0=> .nil
 |k+1=>by
  rw [uO,uO,ym,ym];exact Vals.append h (Vals.rep h k)
theorem WV {α:Type}:∀(l:List α)(i:Nat),(l.eraseIdx i).length<=l.length
 |[],_=>yS _
 |_::_,0=>ux _
 |_::r,i+1=>Nat.succ_le_succ (WV r i)
theorem WH (its:List Value):∀(k:Nat)(acc:List Value), List.foldl (λx1 x2=>x1++x2) acc.toArray (List.replicate k its.toArray)=(acc++(List.replicate k its).flatten).toArray
 |0,acc=>by simp
 |k+1,acc=>by
  have e:acc.toArray++its.toArray=(acc++its).toArray:=by simp
  have e2:(acc++its)++(List.replicate k its).flatten=acc++(List.replicate (k+1) its).flatten:=by rw [uO,ym,uV]
  rw [<- e2,<- WH its k (acc++its),<- e,uO,List.foldl_cons]
section
variable {X:Cx}{pins:List (Addr×Obj)}{σ:St}{H:Hp}{s:Shared}{l b:Addr}{xs ys zs:List V}
theorem Inv.lset {f:Array Value->Array Value}(I:Inv X pins σ H s)(hH:H l=some (.lst xs))(e:s.heap.get? l=some { cls:= .type "list",data:= .seq its.toArray n })(hf:f its.toArray=its'.toArray)(hv:Vals ys its')(hz:ys.length<=sizeLine):Inv X pins σ (z8 H l (.lst ys)) { s with heap:=s.heap.update l (Obj.mapSeq f),toks:=t' }:=by have q:=PySem.IsL.update e f;rw [hf] at q;refine I.write (x:=l) (e:=l) (by rw [hH];exact trivial) (.inl rfl) (λb' u hb hu=>(uN s.heap (Obj.mapSeq f) (Ne.symm hb)).trans hu) ⟨_,q⟩ ?_;exact ⟨hz,its',_,hv,q⟩
theorem Inv.lnew (I:Inv X pins σ H s)(hv:Vals ys its)(hz:ys.length<=sizeLine):Inv X pins σ (z8 H s.heap.objs.size (.lst ys)) { s with heap:=s.heap.push { cls:= .type "list",data:= .seq its.toArray },toks:=t' } :=
 I.laid (λ_ _ q=>yX _ q) (yS _) ⟨hz,its,0,hv,yA _ rfl⟩
theorem Inv.fresh (I:Inv X pins σ H s):H s.heap.objs.size=none:=I.hok.fresh (yS _)
theorem Inv.lstM (I:Inv X pins σ H s)(hH:H l=some (.lst xs)):xs.length<=sizeLine/\∃ (its:List Value) (n:Nat),Vals xs its/\xs.length=its.length/\s.heap.get? l=some { cls:= .type "list",data:= .seq its.toArray n }:=by obtain ⟨z,its,n,r,e⟩:=I.hok l _ hH;exact ⟨z,its,n,r,r.length,e⟩
theorem BM (h:n<=sizeLine):Builtin.List.listTooLong n=false:=by unfold Builtin.List.listTooLong;exact yD (by omega)
end
section
variable {X:Cx}
def wJ:V->List V->Hp->VK->Prop:=λx vs H Q=>∃ l xs y,x = .ref l/\vs=[y]/\H l=some (.lst xs)/\xs.length<sizeLine/\Q .non (z8 H l (.lst (xs++[y])))
theorem jD:MtM X "list.append" wJ:=by intro pins s σ H x vs v us Q I rx rv h;obtain ⟨l,xs,y,rfl,rfl,hH,hz,q⟩:=h;cases rx;obtain ⟨u,rfl,ru⟩:=rv.one;obtain ⟨z,its,n,r,hl,e⟩:=I.lstM hH;refine call_meets F.slot_list_append ⟨_,e,rfl⟩ F.entry_list_append (F.args_list_append_2 _ _) (PySem.list_append l its.toArray n u (by rw [yY];omega)) ⟨e,?_⟩;refine ⟨.non,_,I.lset (its':=its++[u]) hH e (by simp) (r.append (.cons ru .nil)) ?_,rfl,q⟩;rw [yL,List.length_singleton];omega
def YQ:V->List V->Hp->VK->Prop:=λx vs H Q=>∃ l xs i k y,x = .ref l/\vs=[.int i]/\H l=some (.lst xs)/\-(2 ^ 63)<=i/\i<2 ^ 63/\seqIndex? i xs.length=some k/\xs[k]?=some y/\Q y (z8 H l (.lst (xs.eraseIdx k)))
theorem Yh:MtM X "list.pop" YQ:=by
 intro pins s σ H x vs v us Q I rx rv h;obtain ⟨l,xs,i,k,y,rfl,rfl,hH,h1,h2,hk,hy,q⟩:=h;cases rx;obtain ⟨u,rfl,ru⟩:=rv.one;obtain ⟨t,rfl⟩:=ru;obtain ⟨z,its,n,r,hl,e⟩:=I.lstM hH;obtain ⟨w,hw,rw'⟩:=r.get hy;refine call_meets F.slot_list_pop ⟨_,e,rfl⟩ F.entry_list_pop (F.args_list_pop_2 _ _)
  (MeetsSeq.list_pop_at l its.toArray n i t k w (fitsIndex_both h1 h2) (by rw [yY,<- hl];exact hk) (by rw [<- Array.getElem?_toList];exact hw) (by rw [yY];omega)) ⟨e,?_⟩
 refine ⟨y,_,I.lset (its':=its.eraseIdx k) hH e ?_ (r.eraseIdx k) ?_,rw',q⟩
 ·show its.toArray.eraseIdxIfInBounds k=(its.eraseIdx k).toArray;rw [List.eraseIdxIfInBounds_toArray]
 ·have:=WV xs k;omega
def YK:V->List V->Hp->VK->Prop:=λx vs H Q=>∃ l xs,x = .ref l/\vs=[]/\H l=some (.lst xs)/\Q .non (z8 H l (.lst []))
theorem BI:MtM X "list.clear" YK:=by intro pins s σ H x vs v us Q I rx rv h;obtain ⟨l,xs,rfl,rfl,hH,q⟩:=h;cases rx;have hus:=rv.zero;subst hus;obtain ⟨z,its,n,r,hl,e⟩:=I.lstM hH;refine call_meets F.slot_list_clear ⟨_,e,rfl⟩ F.entry_list_clear (F.args_list_clear_1 _) (AutoSeq1.list_clear_list_0 l its.toArray n (by rw [yY];omega)) ⟨e,?_⟩;exact ⟨.non,_,I.lset (its':=[]) (ys:=[]) hH e rfl .nil (yh _),rfl,q⟩
def rRep:R2:=λx y H Q=>∃ l k xs,x = .ref l/\y = .int k/\H l=some (.lst xs)/\-(2 ^ 63)<=k/\k<2 ^ 63/\xs.length*k.toNat<=sizeLine /\
 ∀ p,H p=none->Q (.ref p) (z8 H p (.lst (List.replicate k.toNat xs).flatten))
theorem Bv (xs:List α)(k:Nat):(List.replicate k xs).flatten.length=k*xs.length:=by
 induction k with
 |zero=>simp
 |succ k ih=>rw [uO,ym,yL,ih,Nat.succ_mul,Nat.add_comm]
theorem Cg:OpR X (binaryOp .Mult) rRep:=by
 intro pins s σ H x y v u Q I rx ry h;obtain ⟨l,k,xs,rfl,rfl,hH,h1,h2,hz,q⟩:=h;cases rx;obtain ⟨t,rfl⟩:=ry;obtain ⟨z,its,n,r,hl,e⟩:=I.lstM hH;have hlen:its.toArray.size*k.toNat<=sizeLine:=by rw [yY,<- hl];exact hz
 have hcap:¬ its.toArray.size*k.toNat > (2 ^ 63-1) / 8:=by
  have:(sizeLine:Nat)<=(2 ^ 63-1) / 8:=by decide
  omega
 have hfit:¬ (!Builtin.List.listFitsIndex k)=true:=by rw [fitsIndex_both h1 h2];exact yW
 have hlong:¬ Builtin.List.listTooLong (its.toArray.size*k.toNat)=true:=by rw [BM hlen];exact yW
 have hnew:List.foldl (λx1 x2=>x1++x2) #[] (List.replicate (if its.toArray.isEmpty=true then 0 else k.toNat) its.toArray)=(List.replicate k.toNat its).flatten.toArray:=by
  have f0:∀ m:Nat,List.foldl (λx1 x2=>x1++x2) #[] (List.replicate m its.toArray)=(List.replicate m its).flatten.toArray:=λm=>by
   have:=WH its m [];rw [List.nil_append] at this;exact this
  rw [f0];cases its with
  |nil=>simp
  |cons a r'=>rw [if_neg (by simp)]
 refine wpAny_binaryOp_repeat_ref (T:="list") (U:="int") (by decide) ⟨_,e,rfl⟩ (λs'=>typeIs_int s' k t) noFill_list_mul F.fills_int_mul F.slot_int_rmul repeat_list F.slot_int_index.lookup
  (call_meets F.slot_int_rmul (typeIs_int s k t) F.entry_int_rmul (F.args_int_rmul_2 _ _) (int___rmul___int_list k t l its.toArray n)
   ⟨e,rfl,⟨_,e,rfl⟩,call_meets F.slot_list_mul ⟨_,e,rfl⟩ F.entry_list_mul (F.args_list_mul_2 _ _) (AutoListH.list___mul___list_int_3 l its.toArray n k t hfit hcap hlong) ⟨e,?_⟩⟩)
 rw [hnew];exact ⟨.ref _,_,I.lnew (t':=s.toks) (r.rep k.toNat) (by rw [Bv,Nat.mul_comm];exact hz),rfl,q _ I.fresh⟩
end
section
variable {κ:Type}[DecidableEq κ]
def qa (kvs:List (κ×V))(k:κ):Option V:=(kvs.find? λkv=>decide (kv.1=k)).map (·.2)
def xw (kvs:List (κ×V))(k:κ)(v:V):List (κ×V) :=
 if (kvs.any λkv=>decide (kv.1=k))=true then kvs.map (λkv=>if kv.1=k then (kv.1,v) else kv) else kvs++[(k,v)]
theorem JK {p:κ×V}{r:List (κ×V)}{k:κ}(e:p.1=k):qa (p::r) k=some p.2:=by simp [qa,uP,e]
theorem JJ {p:κ×V}{r:List (κ×V)}{k:κ}(e:¬ p.1=k):qa (p::r) k=qa r k:=by simp [qa,uP,e]
theorem JI (k:κ):∀ kvs:List (κ×V),(kvs.any λkv=>decide (kv.1=k))=(qa kvs k).isSome
 |[]=>rfl
 |p::r=>by
  rw [List.any_cons];by_cases e:p.1=k
  ·simp only [JK e,yt e,Bool.true_or,Option.isSome_some]
  ·rw [JJ e,yD e,Bool.false_or];exact JI k r
theorem WX (kvs:List (κ×V))(k:κ)(v:V):(xw kvs k v).length<=kvs.length+1:=by
 unfold xw;split
 ·rw [yZ];omega
 ·rw [yL,yw,List.length_nil];omega
theorem RelO.isSome_eq {u:Option Value}(r:RelO o u):o.isSome=u.isSome:=by
 cases o with
 |none=>cases u with
  |none=>rfl
  |some _=>exact (show False from r).elim
 |some _=>cases u with
  |none=>exact (show False from r).elim
  |some _=>rfl
theorem KV.val {kvs:List (κ×V)}{vs:List (κ×Value)}(r:KV kvs vs)(k:κ):RelO (qa kvs k) (valueAt vs k):=by
 unfold KV at r
 induction r with
 |nil=>exact True.intro
 |@cons p q ps qs h t ih =>
  obtain ⟨h1,h2⟩:=h;by_cases e:p.1=k
  ·have e':q.1=k:=h1.symm.trans e;have b:valueAt (q::qs) k=some q.2:=by simp [valueAt,uP,e']
   rw [JK e,b];exact h2
  ·have e':¬ q.1=k:=λz=>e (h1.trans z);have b:valueAt (q::qs) k=valueAt qs k:=by simp [valueAt,uP,e']
   rw [JJ e,b];exact ih
theorem KV.any {kvs:List (κ×V)}{vs:List (κ×Value)}(r:KV kvs vs)(k:κ):(kvs.any λkv=>decide (kv.1=k))=vs.any λkv=>decide (kv.1=k):=by
 unfold KV at r
 induction r with
 |nil=>rfl
 |cons h t ih=>rw [List.any_cons,List.any_cons,ih,h.1]
theorem KV.repl {kvs:List (κ×V)}{vs:List (κ×Value)}(r:KV kvs vs)(k:κ)(ry:RelV y u):KV (kvs.map λkv=>if kv.1=k then (kv.1,y) else kv) (vs.map λkv=>if kv.1=k then (kv.1,u) else kv):=by
 unfold KV at r ⊢
 induction r with
 |nil=>exact .nil
 |@cons p q ps qs h t ih =>
  rw [yN,yN];refine .cons ?_ ih;obtain ⟨h1,h2⟩:=h;by_cases e:p.1=k
  ·rw [if_pos e,if_pos (h1.symm.trans e)];exact ⟨h1,ry⟩
  ·rw [if_neg e,if_neg (λz=>e (h1.trans z))];exact ⟨h1,h2⟩
theorem KV.put {kvs:List (κ×V)}{vs:List (κ×Value)}(r:KV kvs vs)(k:κ)(ry:RelV y u):KV (xw kvs k y) (stored vs k u):=by
 unfold xw stored;rw [r.any k];by_cases e:(vs.any λkv=>decide (kv.1=k))=true
 ·rw [if_pos e,if_pos e];exact r.repl k ry
 ·rw [if_neg e,if_neg e];exact Paired.snoc r ⟨rfl,ry⟩
theorem KV.length {kvs:List (κ×V)}{vs:List (κ×Value)}(r:KV kvs vs):kvs.length=vs.length:=Paired.length r
end
theorem vm {k:z9}(r:RelV (kV k) u):(e7 P w).is k u=true:=by
 cases k with
 |inl i=>obtain ⟨t,e⟩:=(show ∃ t,u=Value.int i t from r);subst e;exact BH P w i t
 |inr x=>obtain ⟨t,e⟩:=(show ∃ t,u=Value.str x t from r);subst e;exact Zf P w x t
theorem WO {P:Program}{w:World}:∀{ks:List z9}{us:List Value},Vals (ks.map kV) us->ItemsAre (e7 P w) ks us
 |[],_,r=>by rw [List.map_nil] at r;cases r;exact .nil
 |k::ks,_,r=>by
  rw [yN] at r;cases r with
  |cons h t=>exact .cons (vm h) (WO t)
abbrev KT (H:Hp):List (List z9×V)->List (List z9×Addr×Value)->Prop:=Paired λp q=>p.1=q.1/\H q.2.1=some (.tup (p.1.map kV))/\RelV p.2 q.2.2
theorem KT.val (r:KT H kvs xs)(k:List z9):RelO (qa kvs k) ((atKey xs k).map (·.2)):=by
 induction r with
 |nil=>exact True.intro
 |@cons p q ps qs h t ih =>
  obtain ⟨h1,_,h2⟩:=h;by_cases e:p.1=k
  ·have e':q.1=k:=h1.symm.trans e;have b:atKey (q::qs) k=some q.2:=by simp [atKey,uP,e']
   rw [JK e,b];exact h2
  ·have e':¬ q.1=k:=λz=>e (h1.trans z);have b:atKey (q::qs) k=atKey qs k:=by simp [atKey,uP,e']
   rw [JJ e,b];exact ih
theorem KT.repl (r:KT H kvs xs)(k:List z9)(ry:RelV y u):KT H (kvs.map λkv=>if kv.1=k then (kv.1,y) else kv) (xs.map (putAt k u)):=by
 induction r with
 |nil=>exact .nil
 |@cons p q ps qs h t ih =>
  rw [yN,yN];refine .cons ?_ ih;obtain ⟨h1,h2,h3⟩:=h;unfold putAt;by_cases e:p.1=k
  ·rw [if_pos e,if_pos (h1.symm.trans e)];exact ⟨h1,h2,ry⟩
  ·rw [if_neg e,if_neg (λz=>e (h1.trans z))];exact ⟨h1,h2,h3⟩
theorem KT.put (r:KT H kvs xs)(k:List z9){b:Addr}(hb:H b=some (.tup (k.map kV)))(ry:RelV y u):KT H (xw kvs k y) (storedH xs k b u):=by
 have e:(kvs.any λkv=>decide (kv.1=k))=(atKey xs k).isSome:=by rw [JI,(r.val k).isSome_eq,Option.isSome_map]
 unfold xw storedH;rw [e];by_cases q:(atKey xs k).isSome=true
 ·rw [if_pos q,if_pos q];exact r.repl k ry
 ·rw [if_neg q,if_neg q];exact Paired.snoc r ⟨rfl,hb,ry⟩
theorem KT.keeps (r:KT H kvs xs)(ht:∀ b ys,H b=some (.tup ys)->H' b=some (.tup ys)):KT H' kvs xs :=
 Paired.mapP r λ_ _ z=>⟨z.1,ht _ _ z.2.1,z.2.2⟩
section
variable {P:Program}{w:World}{H:Hp}{h:Heap}{a:Addr}
theorem YW {u:HO}(ok:HOk P w H h)(e:Rd H a u):ObjOk P w H h a u:=e.ok ok
theorem jt {kvs:List (z9×V)}(ok:HOk P w H h)(e:Rd H a (.dK kvs)):kvs.length<=sizeLine/\(a==sysModules)=false/\∃ vs,KV kvs vs/\h.DictOf (e7 P w) a vs :=
 show ObjOk P w H h a (.dK kvs) from YW ok e
theorem dk_of {kvs:List (z9×V)}(ok:HOk P w H h)(e:H a=some (.dK kvs)):kvs.length<=sizeLine/\(a==sysModules)=false/\∃ vs,KV kvs vs/\h.DictOf (e7 P w) a vs:=jt ok (.inl e)
theorem vV {ks:List z9}(ok:HOk P w H h)(e:H a=some (.tup (ks.map kV))):(tupleKind (e7 P w)).is h ks a:=by obtain ⟨_,its,r,o,h1,h2,n,h3⟩:=(show ObjOk P w H h a (.tup (ks.map kV)) from ok a _ e);exact ⟨o,its.toArray,n,h1,h2,h3,by simpa using WO r⟩
theorem vP (ok:HOk P w H h)(e:Rd H a (.dT kvs)):kvs.length<=sizeLine/\(a==sysModules)=false /\ ∃ xs,KT H kvs xs/\h.DictOfH (tupleKind (e7 P w)) a xs:=by
 obtain ⟨z,y,xs,r,o,es,ep,h1,h2,h3,h4,h5⟩:=(show ObjOk P w H h a (.dT kvs) from YW ok e);refine ⟨z,y,xs,r,o,es,ep,h1,h2,h3,h4,λx hx=>?_,h5⟩;have all:∀{l:List (List z9×V)}{m:List (List z9×Addr×Value)},KT H l m->∀ x∈m,(tupleKind (e7 P w)).is h x.1 x.2.1:=by
  intro l m q
  induction q with
  |nil=>intro x hx;exact nomatch hx
  |@cons p q ps qs hq t ih =>
   intro x hx;rcases yM.mp hx with e|hx
   ·subst e;exact vV ok (by rw [<- hq.1];exact hq.2.1)
   ·exact ih x hx
 exact all r x hx
theorem dt_of (ok:HOk P w H h)(e:H a=some (.dT kvs)):kvs.length<=sizeLine/\(a==sysModules)=false /\ ∃ xs,KT H kvs xs/\h.DictOfH (tupleKind (e7 P w)) a xs:=vP ok (.inl e)
end
def DGet (H:Hp)(a:Addr)(y:V)(r:Option V):Prop :=
 (∃ kvs k,Rd H a (.dK kvs)/\y=kV k/\r=qa kvs k)∨∃ kvs k b,Rd H a (.dT kvs)/\y = .ref b/\H b=some (.tup (k.map kV))/\r=qa kvs k
def DPut (H:Hp)(a:Addr)(y v:V)(H':Hp):Prop :=
 (∃ kvs k,H a=some (.dK kvs)/\y=kV k/\kvs.length<sizeLine/\H'=z8 H a (.dK (xw kvs k v))) ∨
 ∃ kvs k b,H a=some (.dT kvs)/\y = .ref b/\H b=some (.tup (k.map kV))/\kvs.length<sizeLine/\H'=z8 H a (.dT (xw kvs k v))
theorem DGet.k {kvs:List (z9×V)}{k:z9}(e:H a=some (.dK kvs)):DGet H a (kV k) (qa kvs k):= .inl ⟨kvs,k,.inl e,rfl,rfl⟩
theorem DPut.k {kvs:List (z9×V)}{k:z9}{v:V}(e:H a=some (.dK kvs))(hl:kvs.length<sizeLine):DPut H a (kV k) v (z8 H a (.dK (xw kvs k v))):= .inl ⟨kvs,k,e,rfl,hl,rfl⟩
section
variable {X:Cx}{pins:List (Addr×Obj)}{σ:St}{H:Hp}{s:Shared}{a:Addr}{y v:V}{u r:Value}{o:Option V}{A:Around}{E:Value->Shared->Prop}
theorem Inv.big (I:Inv X pins σ H s):sysModules<s.heap.objs.size:=by have h:mainGlobals<s.heap.objs.size:=(I.mod.glob.keeps I.bk).lt;exact Nat.lt_trans (by decide) h
theorem GY (hu:A.units+1<cLine)(I:Inv X pins σ H s)(g:DGet H a y (some v))(ry:RelV y u)(h:∀ w' s',Inv X pins σ H s'->RelV v w'->Q w' s'):wpAny (model X.prog X.w) A (getItem (.ref a) u) Q E s:=by
 rcases g with ⟨kvs,k,e,ey,l⟩|⟨kvs,k,b,e,ey,eb,l⟩
 ·subst ey;obtain ⟨z,hd,vs,rel,dd⟩:=jt I.hok e;obtain ⟨w',hw,rw'⟩:=RelO.some_of (v:=v) (o:=valueAt vs k) (by rw [l];exact rel.val k);exact wpAny_getItem_of (vm ry) dd.mapOf hw (h w' _ (I.tok _) rw')
 ·subst ey;cases (show u=Value.ref b from ry);obtain ⟨z,hd,xs,rel,dd⟩:=vP I.hok e;obtain ⟨w',hw,rw'⟩:=RelO.some_of (v:=v) (o:=(atKey xs k).map (·.2)) (by rw [l];exact rel.val k);obtain ⟨p,hp,hp2⟩:=yK.mp hw;refine wpAny_getItem_heap (tupleKind_room_in1 hu) (vV I.hok eb) dd hp ?_;rw [hp2];exact h w' _ (I.tok _) rw'
theorem d_in (hu:A.units+1<cLine)(I:Inv X pins σ H s)(g:DGet H a y o)(ry:RelV y u)(h:∀ s',Inv X pins σ H s'->Q (.bool o.isSome) s'):wpAny (model X.prog X.w) A (compareOp .In u (.ref a)) Q E s:=by
 rcases g with ⟨kvs,k,e,ey,l⟩|⟨kvs,k,b,e,ey,eb,l⟩
 ·subst ey;obtain ⟨z,hd,vs,rel,dd⟩:=jt I.hok e;refine wpAny_in_of (vm ry) hd dd.mapOf ?_;rw [<- (rel.val k).isSome_eq,<- l];exact h _ (I.tok _)
 ·subst ey;cases (show u=Value.ref b from ry);obtain ⟨z,hd,xs,rel,dd⟩:=vP I.hok e;refine wpAny_in_heap (tupleKind_room_in1 hu) (vV I.hok eb) hd dd ?_;have q:=(rel.val k).isSome_eq;rw [Option.isSome_map] at q;rw [<- q,<- l];exact h _ (I.tok _)
theorem GZ (hu:A.units+1<cLine)(I:Inv X pins σ H s)(g:DGet H a y o)(ry:RelV y u)(h:∀ s',Inv X pins σ H s'->Q (.bool (!o.isSome)) s'):wpAny (model X.prog X.w) A (compareOp .NotIn u (.ref a)) Q E s:=by
 rcases g with ⟨kvs,k,e,ey,l⟩|⟨kvs,k,b,e,ey,eb,l⟩
 ·subst ey;obtain ⟨z,hd,vs,rel,dd⟩:=jt I.hok e;refine wpAny_notIn_of (vm ry) hd dd.mapOf ?_;rw [<- (rel.val k).isSome_eq,<- l];exact h _ (I.tok _)
 ·subst ey;cases (show u=Value.ref b from ry);obtain ⟨z,hd,xs,rel,dd⟩:=vP I.hok e;refine wpAny_notIn_heap (tupleKind_room_in1 hu) (vV I.hok eb) hd dd ?_;have q:=(rel.val k).isSome_eq;rw [Option.isSome_map] at q;rw [<- q,<- l];exact h _ (I.tok _)
theorem Wm {ob:HO}(I:Inv X pins σ H s)(mu:Mut (H a))(hs:Heap.SameBut a s.heap h')(he:∃ q,h'.get? a=some q)(new:ObjOk X.prog X.w (z8 H a ob) h' a ob):Inv X pins σ (z8 H a ob) { s with heap:=h',toks:=t' } :=
 I.write (x:=a) (e:=a) mu (.inl rfl) (λb q hb z=>(hs.2 b hb).trans z) he new
theorem Wn {kvs:List (z9×V)}{vs:List (z9×Value)}(z:kvs.length<=sizeLine)(hd:(a==sysModules)=false)(rel:KV kvs vs)(dd:h'.DictOf (e7 P w) a vs):ObjOk P w H' h' a (.dK kvs):=⟨z,hd,vs,rel,dd⟩
theorem Ka {Q:Unit->Shared->Prop}(hu:A.units+1<cLine)(I:Inv X pins σ H s)(g:DPut H a y v H')(ry:RelV y u)(rv:RelV v r)(h:∀ s',Inv X pins σ H' s'->Q () s'):wpAny (model X.prog X.w) A (setItem (.ref a) u r) Q E s:=by
 rcases g with ⟨kvs,k,e,ey,l,eH⟩|⟨kvs,k,b,e,ey,eb,l,eH⟩
 ·subst ey eH;obtain ⟨z,hd,vs,rel,dd⟩:=dk_of I.hok e;have hz:vs.length<=sizeLine:=by rw [<- rel.length];exact z
  have hl:(xw kvs k v).length<=sizeLine:=by have:=WX kvs k v;omega
  refine wpAny_setItem_pairs (hsz:=hz) (vm ry) dd λh' dd' hs=>h _ ?_;have he:∃ q,h'.get? a=some q:=let ⟨q,_,_,hq,_⟩:=dd';⟨q,hq⟩
  exact Wm I (by rw [e];exact True.intro) hs he (Wn hl hd (rel.put k rv) dd')
 ·subst ey eH;cases (show u=Value.ref b from ry);obtain ⟨z,hd,xs,rel,dd⟩:=dt_of I.hok e;have hz:xs.length<=sizeLine:=by rw [<- Paired.length rel];exact z
  have hl:(xw kvs k v).length<=sizeLine:=by have:=WX kvs k v;omega
  refine wpAny_setItem_heap (hsz:=hz) (tupleKind_room_in1 hu) (vV I.hok eb) dd λh' dd' hs=>h _ ?_;obtain ⟨q,es,ep,hq,h2,h3,h4,_,h5⟩:=dd';refine Wm I (by rw [e];exact True.intro) hs ⟨q,hq⟩ ⟨hl,hd,_,(rel.put k eb rv).keeps λc ys ec=>?_,q,es,ep,hq,h2,h3,h4,h5⟩;rw [j3 (ne_of ec e (λz=>nomatch z))];exact ec
end
section
variable {X:Cx}{pins:List (Addr×Obj)}{σ:St}{H:Hp}{s:Shared}{a:Addr}{kvs:List (z9×V)}{k:z9}{u:Value}{A:Around}{E:Value->Shared->Prop}
theorem d_len (I:Inv X pins σ H s)(e:Rd H a (.dK kvs))(h:∀ t s',Inv X pins σ H s'->Q (.int kvs.length t) s'):wpAny (model X.prog X.w) A (call (.builtin "len") [.ref a]) Q E s:=by obtain ⟨z,hd,vs,rel,dd⟩:=jt I.hok e;refine call_len_dict hd dd (by rw [<- rel.length];rw [sizeLine_eq] at z;omega) ?_;rw [<- rel.length];exact h _ _ (I.tok _)
end
def NoSl (i:Expr):Prop:=∀ ov iv,subscripted i false ov iv=operate [ov,iv] (getItem ov iv)
theorem Mm {prog:Program}{E:Value->Shared->Prop}{env:Env}{value slice:Expr}{pos:Pos}{id:String}(hl:typeLookup (.type T) "__getitem__"=pure (some (.builtin id)))(hs:NoSl slice)(h:wpAny (model prog w) A (eval value env) (λo s₁=>wpAny (model prog w) A (eval slice env) (λi s₂=>s₂.TypeIs o T/\wpAny (model prog w) A (getItem o i) Q E s₂) E s₁) E s):wpAny (model prog w) A (eval (.Subscript value slice pos) env) Q E s:=by
 refine Subscript_ (wpAny_mono h (λo s₁ h₁=>wpAny_mono h₁ (λi s₂ h₂=>?_) λ_ _ x=>x) λ_ _ x=>x);obtain ⟨hT,h₂⟩:=h₂;unfold subscriptTail;refine yR ?_;rw [getitemInPython_of_ne hT.not_modules];refine yR (wpAny_specialOf hT hl ?_);have fin:wpAny (model prog w) A (subscripted slice false o i) (λr s₃=>wpAny (model prog w) A (letTemporaryGo value o r >>= λ_=>pure r) Q E s₃) E s₂:=by rw [hs o i];exact wpAny_operating (wpAny_mono h₂ (λr s₃ h₃=>yR (wpAny_letTemporaryGo (yx h₃))) λ_ _ x=>x)
 first
  |exact yx (yR fin)
  |exact yR (yx (yR fin))
  |exact yR fin
theorem Kb {X:Cx}(I:Inv X pins σ H s)(g:DGet H a y o):s.TypeIs (.ref a) "dict":=by
 rcases g with ⟨kvs,k,e,_,_⟩|⟨kvs,k,b,e,_,_,_⟩
 ·obtain ⟨_,_,vs,_,dd⟩:=jt I.hok e;exact dd.typeIs
 ·obtain ⟨_,_,xs,_,dd⟩:=vP I.hok e;exact dd.typeIs
def Uv (td ty:TE):TE:=λσ H Q=>td σ H λx H1=>ty σ H1 λy H2=>∃ a v,x = .ref a/\DGet H2 a y (some v)/\Q v H2
def tDIn (ty td:TE):TE:=λσ H Q=>ty σ H λy H1=>td σ H1 λx H2=>∃ a o,x = .ref a/\DGet H2 a y o/\Q (.bl o.isSome) H2
def Ux (ty td:TE):TE:=λσ H Q=>ty σ H λy H1=>td σ H1 λx H2=>∃ a o,x = .ref a/\DGet H2 a y o/\Q (.bl (!o.isSome)) H2
def Ui (td ty tv:TE):TS:=λD σ H=>tv σ H λv H1=>td σ H1 λx H2=>ty σ H2 λy H3=>∃ a H4,x = .ref a/\DPut H3 a y v H4/\D.nx σ H4
section
variable {X:Cx}{o i e value:Expr}{pos pos' tpos:Pos}{td ty tv:TE}
theorem wz (hu:X.A.units+1<cLine)(ho:PE X o td)(hi:PE X i ty)(hs:NoSl i):PE X (.Subscript o i pos) (Uv td ty):=by intro pins s σ H Q I h;refine Mm PySem.F.slot_dict_getitem.lookup hs (j4 (ho pins s σ H _ I h) λu s1 ⟨x,H1,I1,rx,q1⟩=>j4 (hi pins s1 σ H1 _ I1 q1) λiv s2 ⟨y,H2,I2,ry,a,v,ex,g,q2⟩=>?_);subst ex;obtain rfl:u=Value.ref a:=rx;exact ⟨Kb I2 g,GY hu I2 g ry λw' s3 I3 rw'=>⟨v,H2,I3,rw',q2⟩⟩
theorem Cj (hu:X.A.units+1<cLine)(hi:PE X i ty)(ho:PE X o td):PC X .In i o (tDIn ty td):=by intro pins s σ H Q I h;refine j4 (hi pins s σ H _ I h) λiv s1 ⟨y,H1,I1,ry,q1⟩=>j4 (ho pins s1 σ H1 _ I1 q1) λu s2 ⟨x,H2,I2,rx,a,ov,ex,g,q2⟩=>?_;subst ex;obtain rfl:u=Value.ref a:=rx;exact d_in hu I2 g ry λs3 I3=>⟨.bl ov.isSome,H2,I3,rfl,q2⟩
theorem Ck (hu:X.A.units+1<cLine)(hi:PE X i ty)(ho:PE X o td):PC X .NotIn i o (Ux ty td):=by intro pins s σ H Q I h;refine j4 (hi pins s σ H _ I h) λiv s1 ⟨y,H1,I1,ry,q1⟩=>j4 (ho pins s1 σ H1 _ I1 q1) λu s2 ⟨x,H2,I2,rx,a,ov,ex,g,q2⟩=>?_;subst ex;obtain rfl:u=Value.ref a:=rx;exact GZ hu I2 g ry λs3 I3=>⟨.bl (!ov.isSome),H2,I3,rfl,q2⟩
theorem CO (hu:X.A.units+1<cLine)(ho:PE X o td)(hi:PE X i ty)(hv:PE X value tv)(hs:swapsWith value (some (.Subscript o i pos')) pos.line X.env=pure false):PS X (.Assign [.Subscript o i pos'] value pos) (Ui td ty tv):=by intro pins s σ H D I h;refine wpAny_Assign_Subscript (j4 (hv pins s σ H _ I h) λr s1 ⟨v,H1,I1,rv,q1⟩=>j4 (ho pins s1 σ H1 _ I1 q1) λu s2 ⟨x,H2,I2,rx,q2⟩=>j4 (hi pins s2 σ H2 _ I2 q2) λiv s3 ⟨y,H3,I3,ry,a,H4,ex,g,q3⟩=>?_) hs;subst ex;obtain rfl:u=Value.ref a:=rx;exact Ka hu I3 g ry rv λs4 I4=>⟨σ,H4,I4,q3⟩
end
theorem Kd (h:Heap)(hb:sysModules<h.objs.size):ObjOk P w H (h.push { cls:= .type "dict",data:= .dict #[] }) h.objs.size (.dK []) :=
 ⟨yh _,beq_eq_false_iff_ne.mpr (Ne.symm (yJ hb)),[],.nil,Heap.DictOf.new h⟩
def Uw:TE:=λ_ H Q=>∀ p,H p=none->Q (.ref p) (z8 H p (.dK []))
section
variable {X:Cx}{pos:Pos}
theorem Cq:PE X (.Dict [] [] pos) Uw:=λpins s σ H Q I h =>
 wpAny_Dict_empty ⟨.ref s.heap.objs.size,_,I.laid (a:=s.heap.objs.size) (o:= .dK []) (t':=s.toks) (λ_ _ q=>yX _ q) (yS _) (Kd s.heap I.big),rfl,h _ (I.hok.fresh (yS _))⟩
end
end L2
namespace Att
open PySem PySem.W PySem.Calls PyProof.Rows
variable{P:Params}{h:Heap}{l:OpenLaw}{n:Nat}
theorem KO :∀(ns:List Int)(vs:List Value),WellAll P h vs (ns.map WData.int)->IntsAre vs ns:=by
 intro ns
 induction ns with
 |nil=>intro vs w;rw [List.map_nil] at w;cases w;exact .nil
 |cons n ns ih =>
  intro vs w;rw [yN] at w;cases w with
  |cons a b=>cases a;exact .cons _ _ (ih _ b)
theorem DS (hn:l.most=some n){args:List WData}{vals:List Value}(hpre:l.row.toRowW.claim.pre args=true)(hwl:WellAll P h vals args):∃ a vs ns,vals=[Value.ref a]/\args=[WData.list (ns.map WData.int)]/\h.get? a=some { cls:= .type "list",data:= .seq vs.toArray }/\IntsAre vs ns/\ns.length<=n:=by
 have hsh:WShape.hasAll [] args [.list .int]=true:=(pre_splitW hpre).1;have hc:l.pre.holds [] { args:=args }=true:=(pre_splitW hpre).2;obtain ⟨d,r,rfl,h1,h2⟩:=hasAllW_cons hsh;obtain rfl:=hasAllW_nil h2;obtain ⟨xs,rfl,h3⟩:=hasW_list h1;obtain ⟨ns,rfl⟩:=items_int h3;have hlen:ns.length<=n:=by
  unfold OpenLaw.pre at hc;have h4:(WTm.not (.lt (.lit (.int (n:Int))) (.len (.arg 0)))).holds [] { args:=[.list (ns.map .int)] }=true:=by have h4:=(holds_andW hc).1;rw [hn] at h4;exact h4
  have h5:=condW_of h4 (w_not (w_lt w_lit (w_len_list (w_arg rfl))));rw [yZ] at h5;refine Nat.le_of_not_lt λq=>?_;have q':(n:Int)<((ns.length:Nat):Int):=by omega
  first
   |(rw [yt q'] at h5;exact absurd h5 (by decide))
   |(simp at h5;omega)
 cases hwl with
 |cons w1 w2 =>
  cases w2;cases w1 with
  |list ho hall=>exact ⟨_,_,ns,rfl,rfl,ho,KO ns _ hall,hlen⟩
theorem CL (l:OpenLaw)(args:List WData):l.row.toRowW.claim.post args (.bool true) args=true :=
 postW_of (r:=l.row.toRowW) (X:=(true==true))
  (show WShape.has [] (.bool true) .bool=true by first|rfl|decide|simp [WShape.has,WShape.arms,WShape.armsAll])
  (show (WTm.eq .res (.lit (.bool true))).value [] { args:=args,res:=some (.bool true),after:=args }=some (.bool (true==true)) from w_eq_bool (w_res rfl) w_lit) rfl
theorem attach_call {q:Program}{loose:List Str}{XP:(Str->Option Value)->Heap->Prop}{YP:World->Heap->Prop}{d:DefRec}(hn:l.most=some n)(hdf:d.params.defaults=[])(call:∀ (w:World) (s₀ s₁:Shared) (mg mb:Str->Option Value) (fa:Addr) (o:Obj) (pm cd doc:Value) (a:Addr) (vs:List Value) (ns:List Int), Ground q loose [] XP w s₀ mg mb s₁.heap->YP w s₁.heap -> s₁.heap.get? fa=some o->o.data = .func (docDef d.name d.params d.body d.scope pm cd doc)->s₁.heap.CodeRec cd d.name->mg d.name=some (.ref fa) -> s₁.heap.get? a=some { cls:= .type "list",data:= .seq vs.toArray }->IntsAre vs ns->ns.length<=n->s₁.gens=#[] -> codeAny (model l.prog w) callerA (.call (.ref fa) ⟨[.ref a],[]⟩) (λr s'=>r = .ok (.ret (.bool true))/\OldK s₁.heap s'.heap/\s'.os=s₁.os/\AllBare s'.gens) s₁):WalkO q loose XP YP l.row.toRowW d [] (λf vs=>PySem.call f vs):=by intro w s₀ s₁ mg mb G Y fa o pm cd doc dV kV ho hd hcd hD hmg hg args vals as hpre hlay hrd hwl hlo;obtain rfl:dV = .none:=Dflts.none hD hdf;obtain rfl:kV = .none:=Dflts.noKw hD;obtain ⟨a,vs,ns,rfl,rfl,hobj,hints,hlen⟩:=DS hn hpre hwl;refine enter_call (codeAny_mono (call w s₀ s₁ mg mb fa o pm cd doc a vs ns G Y ho (fd_plain hd) hcd hmg hobj hints hlen hg) λr s' hq=>?_);obtain ⟨rfl,h2,h3,h4⟩:=hq;exact ⟨.inl ⟨.bool true,.bool true,[],rfl,λ_=>rfl,.bool true,CL l _,λ_=>⟨List.Pairwise.nil,λ_ hm=>(nomatch hm)⟩⟩,h2,h3,h4⟩
end Att
namespace L2
open PySem PySem.Spec PyProof.Rows
variable{K:Fg}{a f:Addr}{fd:FuncData}{qual x:Str}{sp:Sp}{n:Nat}{st:Stmt}{ps:List Str}{A B:Prop}{H H':Hp}
theorem UP:∀{vs:List Value}{ns:List Int},IntsAre vs ns->Vals (ns.map V.int) vs
 |_,_,.nil=> .nil
 |_,_,.cons n t h=> .cons ⟨t,rfl⟩ (UP h)
def Only (H:Hp):Prop:=∀ b,H b=none∨(∃ o xs,H b=some (.frz o (.lst xs)))∨∃ p∈TABS,p.1=b/\H b=some (.tbl p.2.1 p.2.2)
structure vc (K:Fg)(h:Heap):Prop where
 at_:∀ p∈TABS,h.get? p.1=some { cls:= .none,data:= .fields p.2.1 }
 tri:∀ p∈TABS,TriplesOk p.2.1.toList
 non:∀ p∈TABS,∀ q∈p.2.2,codeAmong q.1 p.2.1.toList=none
 tab:∀ p∈TABS,isCodeTable h p.1
 one:∀ p∈TABS,∀ q∈TABS,p.1=q.1->p=q
 out:∀ p∈TABS,K.lookup p.1=none
def xy:Hp:=λb=>(TABS.find? λp=>p.1==b).map λp=> .tbl p.2.1 p.2.2
theorem Xf {b:Addr}{u:HO}(h:xy b=some u):∃ p∈TABS,p.1=b/\u = .tbl p.2.1 p.2.2:=by unfold xy at h;obtain ⟨p,e,r⟩:=yK.mp h;exact ⟨p,List.mem_of_find?_eq_some e,by have:=List.find?_some e;simpa using this,r.symm⟩
theorem UD {h:Heap}(T:vc K h){p:Addr×Array Value×List (Pos×Str)}(hp:p∈TABS):xy p.1=some (.tbl p.2.1 p.2.2):=by
 unfold xy;cases e:TABS.find? λq=>q.1==p.1 with
 |none=>exact absurd (List.find?_eq_none.mp e p hp) (by simp)
 |some q =>
  have e1:q.1=p.1:=by have:=List.find?_some e;simpa using this
  rw [T.one q (List.mem_of_find?_eq_some e) p hp e1];rfl
theorem Bs {P:Program}{w:World}{mg mb:Str->Option Value}{CX:CXT}{k:Nat}{fa:Addr}{s₁:Shared}{vs:List Value}{ns:List Int}(KX:K.In s₁.heap)(T:vc K s₁.heap)(hns:s₁.heap.Ns mainGlobals mg)(hb:s₁.heap.Ns builtinsNs mb)(hbb:∀ x:Str,x ≠ "__name__"->mb x=bootBuiltins x)(hlim:s₁.heap.NoLimit)(hbm:∃ bm ob,mg "__builtins__"=some (.ref bm)/\bm≠builtinsNs/\s₁.heap.get? bm=some ob/\ob.cls = .type "module"/\ob.dict=some builtinsNs/\ob.data = .plain)(hg:s₁.gens=#[])(ha:s₁.heap.get? a=some { cls:= .type "list",data:= .seq vs.toArray })(hi:IntsAre vs ns)(hl:ns.length<=sizeLine)(hr:Room k callerA)(F:∀ base:Heap,K.In base->base.Ns mainGlobals mg->FnOk P w K mg base CX k fa fd [x] sp)(hbind:∀ (s:Shared) (u:Value),BindsTo s fd ⟨[u],[]⟩ [(x,u)])(hsp:∀ H:Hp,Only H->SqL K H a (ns.map V.int)->sp [.ref a] H (λv _=>v = .bl true) λ_ _ _=>False)(hCX:∀ H e s',CX [] H s₁ (λ_ _ _=>False) e s'->False):codeAny (model P w) callerA (.call (.ref fa) ⟨[.ref a],[]⟩) (λr s'=>r = .ok (.ret (.bool true))/\OldK s₁.heap s'.heap/\s'.os=s₁.os/\AllBare s'.gens) s₁:=by
 have rv:=UP hi;have lenV:=hi.length;have naT:∀ p∈TABS,p.1≠a:=λp hp z=>by
  have e:=T.at_ p hp;rw [z,ha] at e;cases e
 have core:∀ H:Hp,Only H->SqL K H a (ns.map V.int)->HOk P w H s₁.heap->(∀ b,H b≠none->b=a∨∃ p∈TABS,p.1=b)->(∀ b,H b≠none->K.lookup b=none)->(∀ p∈TABS,H p.1=some (.tbl p.2.1 p.2.2)) ->
   codeAny (model P w) callerA (.call (.ref fa) ⟨[.ref a],[]⟩) (λr s'=>r = .ok (.ret (.bool true))/\OldK s₁.heap s'.heap/\s'.os=s₁.os/\AllBare s'.gens) s₁:=by
  intro H hO hS hok hA hK hT;have base_of:∀{b:Addr}{o:Obj},s₁.heap.get? b=some o->H b=none->(zw s₁.heap H).get? b=some o:=λe n=>Kx e n;have noA:∀{b:Addr}{o:Obj}{es:Array DictEntry}{ep:Nat},s₁.heap.get? b=some o->o.data = .dict es ep->H b=none:=λ{b o es ep} e d=>by
   cases q:H b with
   |none=>rfl
   |some u =>
    rcases hA b (by rw [q];simp) with e'|⟨p,hp,e'⟩
    ·subst e';rw [ha] at e;cases e;have d':Data.seq vs.toArray _=Data.dict es ep:=d;cases d'
    ·subst e';rw [T.at_ p hp] at e;cases e;have d':Data.fields p.2.1=Data.dict es ep:=d;cases d'
  have nsK:∀{b:Addr}{m:Str->Option Value},s₁.heap.Ns b m->(zw s₁.heap H).Ns b m:=λ{b m} ⟨o,es,ep,e,d,r⟩=>⟨o,es,ep,base_of e (noA e d),d,r⟩;have hKb:K.In (zw s₁.heap H):=λb o e=>base_of (KX b o e) (by
   cases q:H b with
   |none=>rfl
   |some u=>rw [hK b (by rw [q];simp)] at e;cases e)
  have noP:∀{b:Addr}{o:Obj},s₁.heap.get? b=some o->o.data = .plain->H b=none:=λ{b o} e d=>by
   cases q:H b with
   |none=>rfl
   |some u =>
    rcases hA b (by rw [q];simp) with e'|⟨p,hp,e'⟩
    ·subst e';rw [ha] at e;cases e;have d':Data.seq vs.toArray _=Data.plain:=d;cases d'
    ·subst e';rw [T.at_ p hp] at e;cases e;have d':Data.fields p.2.1=Data.plain:=d;cases d'
  have hM:Mod K mg (zw s₁.heap H):=⟨hKb,nsK hns,⟨mb,nsK hb,hbb⟩,let ⟨mc,h1,h2⟩:=hlim;⟨mc,nsK h1,h2⟩,let ⟨bm,ob,b1,b2,b3,b4,b5,b6⟩:=hbm;⟨bm,ob,b1,b2,base_of b3 (noP b3 b6),b4,b5,b6⟩⟩;have e0:Env0 P w K mg (zw s₁.heap H) callerA [] s₁ H:=⟨rfl,hM,λb o e=>BN e,Nat.le_of_eq (Ky _ _),trivial,λb hb=>absurd (show b∈([]:List Addr) from hb) (by simp),hok,.of_eq hg,hT⟩;refine codeAny_mono ((F _ hKb (nsK hns)).run callerA [] s₁ H ⟨[.ref a],[]⟩ [.ref a] [.ref a] _ _ hr e0 (hbind s₁ (.ref a)) (.cons rfl .nil) (hsp H hO hS)) λr s' h=>?_;cases r with
  |error e=>exact (hCX H e s' h).elim
  |ok fl =>
   cases fl with
   |next=>exact False.elim h
   |brk=>exact False.elim h
   |cont=>exact False.elim h
   |ret u =>
    obtain ⟨v,H',os,bare,un,hok',r',q⟩:=h;have q':v = .bl true:=q;subst q';obtain rfl:u=Value.bool true:=r';refine ⟨rfl,⟨λb o e=>?_,λb o e=>un.there b o e (by simp)⟩,os,bare⟩;rcases hO b with z|⟨ob,xs,z⟩|⟨p,hp,rfl,z⟩
    ·exact .inl (un.keep b o e z (by intro z;exact absurd (show b∈([]:List Addr) from z) (by simp)) (by simp))
    ·have z2:=un.frzs b ob _ z;obtain ⟨e1,_⟩:=hok b _ z;obtain ⟨e2,_⟩:=hok' b _ z2;rw [e] at e1;cases e1;exact .inl e2
    ·have z2:=un.tbls p.1 _ _ z;obtain ⟨more,e2,_⟩:=hok' p.1 _ z2;rw [T.at_ p hp] at e;cases e;exact .inr (.inl ⟨T.tab p hp,rfl,p.2.1,more,rfl,e2⟩)
 have tok:∀{H:Hp}{p:Addr×Array Value×List (Pos×Str)},p∈TABS->ObjOk P w H s₁.heap p.1 (.tbl p.2.1 p.2.2):=λ{H p} hp =>
  ⟨#[],by rw [Array.append_empty];exact T.at_ p hp,by rw [Array.append_empty];exact T.tri p hp,λq hq=> .inl (by rw [Array.append_empty];exact T.non p hp q hq)⟩
 have only:∀ b,xy b=none∨(∃ o xs,xy b=some (.frz o (.lst xs)))∨∃ p∈TABS,p.1=b/\xy b=some (.tbl p.2.1 p.2.2):=λb=>by
  cases q:xy b with
  |none=>exact .inl rfl
  |some u=>obtain ⟨p,hp,e1,rfl⟩:=Xf q;exact .inr (.inr ⟨p,hp,e1,rfl⟩)
 have mine:∀ b,xy b≠none->∃ p∈TABS,p.1=b:=λb z=>by
  cases q:xy b with
  |none=>exact absurd q z
  |some u=>obtain ⟨p,hp,e1,_⟩:=Xf q;exact ⟨p,hp,e1⟩
 cases hk:K.lookup a with
 |some o =>
  have e:=KX a o hk;rw [ha] at e;cases e;refine core xy only (.inr ⟨_,vs.toArray,_,hk,rfl,rfl,rfl,by rw [yY,lenV];exact hl,by simpa using rv⟩) (λb u z=>?_) (λb z=> .inr (mine b z)) (λb z=>?_) λp hp=>UD T hp
  ·obtain ⟨p,hp,rfl,rfl⟩:=Xf z;exact tok hp
  ·obtain ⟨p,hp,rfl⟩:=mine b z;exact T.out p hp
 |none =>
  refine core (λb=>if b=a then some (.frz { cls:= .type "list",data:= .seq vs.toArray } (.lst (ns.map V.int))) else xy b) (λb=>?_) (.inl (.inr ⟨{ cls:= .type "list",data:= .seq vs.toArray },if_pos rfl⟩)) (λb u z=>?_) (λb z=>?_) (λb z=>?_) λp hp=>?_
  ·by_cases hb:b=a
   ·exact .inr (.inl ⟨_,_,if_pos hb⟩)
   ·rcases only b with z|⟨o,xs,z⟩|⟨p,hp,e1,z⟩
    ·exact .inl ((if_neg hb).trans z)
    ·exact .inr (.inl ⟨o,xs,(if_neg hb).trans z⟩)
    ·exact .inr (.inr ⟨p,hp,e1,(if_neg hb).trans z⟩)
  ·by_cases hb:b=a
   ·have z':=(if_pos hb).symm.trans z;cases z';subst hb;exact ⟨ha,by rw [yZ];exact hl,vs,_,rv,ha⟩
   ·have z':=(if_neg hb).symm.trans z;obtain ⟨p,hp,rfl,rfl⟩:=Xf z';exact tok hp
  ·by_cases hb:b=a
   ·exact .inl hb
   ·exact .inr (mine b λq=>z ((if_neg hb).trans q))
  ·by_cases hb:b=a
   ·rw [hb];exact hk
   ·obtain ⟨p,hp,rfl⟩:=mine b λq=>z ((if_neg hb).trans q);exact T.out p hp
  ·exact (if_neg (naT p hp)).trans (UD T hp)
theorem Ln {l:PySem.W.OpenLaw}{k:Nat}{q:Program}{loose:List Str}{XP:(Str->Option Value)->Heap->Prop}{YP:World->Heap->Prop}{d:DefRec}{K:Params->Fg}{CX:World->CXT}{sp:World->Sp}(hn:l.most=some n)(hn2:n<=sizeLine)(hdf:d.params.defaults=[])(hr:Room k callerA)(hY:∀(w:World)(h:Heap),YP w h->(K w.params).In h)(F:∀(w:World)(mg:Str->Option Value)(fa:Addr)(h:Heap),YP w h->(K w.params).In h->h.Ns mainGlobals mg->mg d.name=some (.ref fa) -> ∃ fd:FuncData,(∀(s:Shared)(u:Value),BindsTo s fd ⟨[u],[]⟩ [(x,u)])/\vc (K w.params) h /\ ∀ base:Heap,(K w.params).In base->base.Ns mainGlobals mg->FnOk l.prog w (K w.params) mg base (CX w) k fa fd [x] (sp w))(hsp:∀(w:World)(H:Hp)(a:Addr)(ns:List Int),ns.length<=n->Only H->SqL (K w.params) H a (ns.map V.int)->sp w [.ref a] H (λv _=>v = .bl true) λ_ _ _=>False)(hCX:∀(w:World)(H:Hp)(s:Shared)(e:Value)(s':Shared),CX w [] H s (λ_ _ _=>False) e s'->False):PySem.W.WalkO q loose XP YP l.row.toRowW d [] (λf vs=>PySem.call f vs):=by refine Att.attach_call hn hdf λw s₀ s₁ mg mb fa o pm cd doc a vs ns G Y ho hd hcd hmg hobj hints hlen hg=>?_;have KX:=hY w _ Y;obtain ⟨fd,hb,hT,hF⟩:=F w mg fa _ Y KX G.T.g hmg;exact Bs KX hT G.T.g G.T.b G.T.builtins G.T.nolimit G.T.bmain hg hobj hints (yf hlen hn2) hr hF hb (λH hO hS=>hsp w H a ns hlen hO hS) λH e s'=>hCX w H s₁ e s'
def Qv (s:Stmt)(j:Nat):Stmt:=match s with
 | .ClassDef _ _ _ body _ _ _ _ _ _ _=>body.getD j (.Pass ⟨0,0,0,0⟩)
 |_=> .Pass ⟨0,0,0,0⟩
def qZ (s:Stmt):Arguments:=match s with
 | .FunctionDef _ a _ _ _ _ _ _ _ _=>a
 |_=>{ posonlyargs:=[],args:=[],vararg:=none,kwonlyargs:=[],kw_defaults:=[],kwarg:=none,defaults:=[] }
def i4 (s:Stmt):List Stmt:=match s with
 | .FunctionDef _ _ b _ _ _ _ _ _ _=>b
 |_=>[]
def j8 (s:Stmt):Scope:=match s with
 | .FunctionDef _ _ _ _ _ _ sc _ _ _=>sc
 |_=>{ kind:= .function,names:=[],isGenerator:=false,isCoroutine:=false }
abbrev v5:CXT:=λ_ _ _ _ _ _=>False
abbrev E0:XK:=λ_ _ _=>False
theorem QS {X:Cx}:jj v5 X E0:=λ_ _ _ _ _ _ _ h=>h.elim
structure Fun (K:Fg)(x qual:Str)(st:Stmt)(f:Addr)(fd:FuncData):Prop where
 ex:∃(oc:Value)(od:Option Addr)(kV doc pm:Value)(an:Option Addr)(cdv ct:Value)(osl:Array (Option Value)),
  fd=PySem.W.fnOf x qual (qZ st) (i4 st) (j8 st) .none kV doc pm an cdv ct/\K.lookup f=some ⟨oc,od,.func fd,osl⟩/\PySem.W.codeIn K cdv qual=true
 kp:PySem.W.keepIn K (.ref f)=true
section
variable {P:Program}{w:World}{K:Fg}{mg:Str->Option Value}{base:Heap}
theorem Fun.ok {N:List Str}{k:Nat}(F:Fun K x qual st f fd)(S:v9 N ps (j8 st))(len:∀ vs H Q E,sp vs H Q E->vs.length=ps.length)(hbody:∀(cdv:Value)(A:Around)(outer:List Env)(s:Shared)(H:Hp)(vs:List V)(Q:VK)(E:XK),Room k (A.deeper (envOfC qual (j8 st) s.heap.objs.size f cdv))->sp vs H Q E -> ∃ t,PSs (qG v5 P w K mg base N qual (j8 st) f cdv A outer s H E).nox (i4 st) t/\t { nx:=λ_ H'=>Q .non H',rt:=Q } (start N vs) H):FnOk P w K mg base v5 (k+1) f fd ps sp:=by obtain ⟨oc,od,kV,doc,pm,an,cdv,ct,osl,rfl,lk,hcd⟩:=F.ex;refine WG lk hcd S len λA outer s H vs Q E hr hsp=>?_;obtain ⟨t,h,q⟩:=hbody cdv A outer s H vs Q E hr hsp;exact ⟨t,h.nox,q⟩
theorem Fun.binds (F:Fun K x qual st f fd)(h:∀(kV doc pm:Value)(an:Option Addr)(cdv ct:Value)(us:List Value),us.length=ps.length->bindArgs (PySem.W.fnOf x qual (qZ st) (i4 st) (j8 st) .none kV doc pm an cdv ct) ⟨us,[]⟩=pure (ps.zip us)):Binds K fd ps []:=by obtain ⟨oc,od,kV,doc,pm,an,cdv,ct,osl,rfl,lk,hcd⟩:=F.ex;exact .all (h kV doc pm an cdv ct)
theorem vT {oc:Value}{od an:Option Addr}{osl:Array (Option Value)}{kV doc pm cdv ct:Value}(l:K.lookup f=some ⟨oc,od,.func (PySem.W.fnOf x qual (qZ st) (i4 st) (j8 st) .none kV doc pm an cdv ct),osl⟩)(c:PySem.W.codeIn K cdv qual=true)(k:PySem.W.keepIn K (.ref f)=true):Fun K x qual st f (PySem.W.fnOf x qual (qZ st) (i4 st) (j8 st) .none kV doc pm an cdv ct):=⟨⟨oc,od,kV,doc,pm,an,cdv,ct,osl,rfl,l,c⟩,k⟩
end
theorem zN {A:Around}{k:Nat}(hr:Room k A):A.units+1<cLine:=Nat.lt_of_le_of_lt (Nat.add_le_add_left (by decide:1<=64) _) hr.units
theorem vD (h:n<=1000):n<sizeLine:=Nat.lt_of_le_of_lt h (by decide)
section
variable {X:Cx}
theorem pv (i:Nat){pos:Pos}(hN:X.N[i]?=some x:=by rfl)(hv:Vis X.env.scope x:=by first|exact Or.inl rfl|exact Or.inr (Or.inl rfl)|exact Or.inr (Or.inr rfl))(hd:(x==("__debug__":Str))=false:=by decide)(hcd:(x==("__classdict__":Str))=false:=by decide):PE X (.Name x pos) (m3 i):=Cy hN hv hd hcd
theorem Gz:CallR X (.builtin "len") (λxs H Q=>∃ a kvs,xs=[V.ref a]/\H a=some (.dK kvs)/\Q (.int kvs.length) H):=by intro pins s σ H xs us Q I r h;obtain ⟨a,kvs,rfl,ha,q⟩:=h;obtain ⟨u,rfl,ru⟩:=xW r;cases ru;exact d_len I (.inl ha) λt s' I'=>⟨.int kvs.length,H,I',⟨t,rfl⟩,q⟩
end
theorem qB (h:B):if false=true then A else B:=by rw [if_neg yW];exact h
theorem qP (h:A):if true=true then A else B:=by rw [if_pos rfl];exact h
theorem ite2 {c:Prop}[Decidable c](h1:c->A)(h2:¬ c->B):if c then A else B:=by
 by_cases h:c
 ·rw [if_pos h];exact h1 h
 ·rw [if_neg h];exact h2 h
def Same (H H':Hp):Prop:=∀ b o,H b=some o->H' b=some o
theorem Same.refl (H:Hp):Same H H:=λ_ _ h=>h
theorem Same.trans {H1 H2:Hp}(a:Same H H1)(b:Same H1 H2):Same H H2:=λc o h=>b c o (a c o h)
theorem Same.free (e:Same H H'){l:Addr}(h:H' l=Option.none):H l=Option.none:=by
 cases q:H l with
 |none=>rfl
 |some o=>rw [e l o q] at h;cases h
theorem Same.seq {xs:List V}(e:Same H H')(h:SqL K H a xs):SqL K H' a xs:=by
 rcases h with (h|⟨o,h⟩)|h
 ·exact .inl (.inl (e _ _ h))
 ·exact .inl (.inr ⟨o,e _ _ h⟩)
 ·exact .inr h
end L2
set_option maxHeartbeats 4000000
set_option synthInstance.maxHeartbeats 4000000
set_option synthInstance.maxSize 4096
namespace L2
open PySem PySem.Spec PyProof.Rows
variable{c elt iter tg:Expr}{ifs:List Expr}{scope:Scope}{pos:Pos}{env:Env}{X:Cx}{o:Option V}{σ:St}{g:TG}{tt:TT}{te:TE}{wi:TI}{K:Fg}
section
variable {prog:Program}{w:World}{A:Around}{R:Result->Shared->Prop}{s:Shared}
theorem GO {target:Expr}{it acc:Value}(I:Nat->Shared->Prop)
  (turn:∀ n s,I n s->wpAny (model prog w) A (pyNext it) (λr s₁=>match r with
   |none=>R (.ok .next) s₁
   |some v=>wpAny (model prog w) A (letOwnedTupleGo target it v) (λ_ s₀=>wpAny (model prog w) A (assign target env v) (λ_ s₂ =>
     wpAny (model prog w) A (forIn ifs true λc r=>if r=true then do let ok <- isTrue c env (eval c env);pure (ForInStep.yield ok) else pure (ForInStep.yield r)) (λok s₃ =>
      if ok=true then wpAny (model prog w) A (eval elt env) (λx s₄ =>
       wpAny (model prog w) A (call (.builtin "list.append") [acc,x]) (λ_ s₅=>∃ m,m<n/\I m s₅) (λ_ _=>False) s₄) (λ_ _=>False) s₃
      else ∃ m,m<n/\I m s₃) (λ_ _=>False) s₂) (λ_ _=>False) s₀) (λ_ _=>False) s₁) (λ_ _=>False) s)
  (n:Nat) (h:I n s) :
  codeAny (model prog w) A (.compLoop (.ListComp elt [⟨target,iter,ifs,0⟩] scope pos) 0 it acc env) R s:=by
 refine codeAny_loop rfl I (λn s hI=>?_) n h;show wpAny _ A ((compTurn (.ListComp elt [⟨target,iter,ifs,0⟩] scope pos) 0 it acc env).onRaise (λx=>do noteFrame x env;theTreesLotGoes x)) _ _ s;refine wpAny_noted (wpAny_noRaise ?_);rw [compTurn_list];refine yR (wpAny_standAt (yR (j4 (turn n s hI) λr s₁ h₁=>?_)));cases r with
 |none=>exact yx h₁
 |some v =>
  refine yR (j4 h₁ λ_ s₀ h₀=>?_);refine yR (j4 h₀ λ_ s₂ h₂=>yR (j4 h₂ λok s₃ h₃=>?_));cases ok with
  |false=>exact yx ⟨rfl,h₃⟩
  |true=>exact yR (yR (j4 h₃ λx s₄ h₄=>yR (j4 h₄ λ_ s₅ h₅=>yx (yx ⟨rfl,h₅⟩))))
end
theorem WI {α β:Type}{f:α->β->Sem (ForInStep β)}(g:α->β->β):∀(l:List α)(b:β),(∀ a∈l,∀ b,f a b=pure (.yield (g a b)))->forIn l b f=(pure (l.foldl (λb a=>g a b) b):Sem β)
 |[],_,_=>rfl
 |x::l,b,h=>by
  rw [List.forIn_cons,h x yO,pure_bind];exact WI g l (g x b) λy hy=>h y (yT _ hy)
def zo (env:Env)(y:Str×NameKind)(cs:List (Str×Addr)):List (Str×Addr):=if y.2 == .free then (y.1,(env.cells.lookup y.1).getD 0)::cs else cs
theorem Wa (env:Env):∀(l:List (Str×NameKind))(cs:List (Str×Addr)),(∀ y∈l,y.2 = .free->∃ c,env.cells.lookup y.1=some c)->(∀ x c,cs.lookup x=some c->env.cells.lookup x=some c) -> (∀ x c,(l.foldl (λb a=>zo env a b) cs).lookup x=some c->env.cells.lookup x=some c)
 |[],_,_,h=>h
 |(n,k)::l,cs,hl,h=>by
  refine Wa env l _ (λy hy=>hl y (yT _ hy)) λx c e=>?_;unfold zo at e
  dsimp only at e
  cases hk:(k==NameKind.free) with
  |false=>rw [hk,if_neg yW] at e;exact h x c e
  |true =>
   rw [hk,if_pos rfl] at e;obtain ⟨c0,e0⟩:=hl (n,k) yO (by simpa using hk);cases hx:x==n with
   |true =>
    rw [uU,hx] at e;have hx':x=n:=by simpa using hx
    subst hx';have e':(List.lookup x env.cells).getD 0=c:=Option.some.inj e;have e0':List.lookup x env.cells=some c0:=e0;rw [e0'] at e';rw [e0',<- e'];rfl
   |false=>rw [uU,hx] at e;exact h x c e
theorem Wb (env:Env)(x:Str):∀(l:List (Str×NameKind))(cs:List (Str×Addr)),(∃ c,cs.lookup x=some c)->∃ c,(l.foldl (λb a=>zo env a b) cs).lookup x=some c
 |[],_,h=>h
 |(n,k)::l,cs,h=>by
  refine Wb env x l _ ?_;unfold zo
  dsimp only
  split
  ·rw [uU];cases hx:x==n with
   |true=>exact ⟨_,rfl⟩
   |false=>exact h
  ·exact h
theorem VZ (env:Env):∀(l:List (Str×NameKind))(cs:List (Str×Addr)),∀ y∈l,y.2 = .free->∃ c,(l.foldl (λb a=>zo env a b) cs).lookup y.1=some c
 |[],_,_,h,_=>nomatch h
 |z::l,cs,y,h,hf=>by
  rcases yM.mp h with e|h
  ·subst e;refine Wb env y.1 l _ ?_;unfold zo
   dsimp only
   rw [hf,if_pos (by rfl),uU,beq_self_eq_true];exact ⟨_,rfl⟩
  ·exact VZ env l _ y h hf
theorem Wc (h:∀ y∈scope.names,y.2 = .free->∃ c,env.cells.lookup y.1=some c):∃ cl,closureFor scope env=pure cl/\(∀ x c,cl.lookup x=some c->env.cells.lookup x=some c)/\∀ y∈scope.names,y.2 = .free->∃ c,cl.lookup y.1=some c:=by
 refine ⟨scope.names.foldl (λb a=>zo env a b) [],?_,Wa env _ _ h (λx c e=>by cases e),VZ env _ _⟩;simp only [closureFor];rw [WI (zo env) scope.names [] (λy hy b=>?_)]
 ·rfl
 ·obtain ⟨n,k⟩:=y;unfold zo;cases hk:(k==NameKind.free) with
  |false=>simp only [hk,uy,if_false]<;>rfl
  |true=>obtain ⟨c,e⟩:=h (n,k) hy (by simpa using hk);have e':List.lookup n env.cells=some c:=e;simp only [hk,if_true,cellOf,e'];rfl
theorem YZ (env:Env)(n:Str)(k:NameKind)(r:List (Str×NameKind))(x:Str):((List.map (λ(n,k)=>if (k==NameKind.free&&env.scope.kind == .function&&env.kindOf n==some .cell) then (n,NameKind.cell) else (n,k)) ((n,k)::r)).lookup x) = (if x==n then some (if (k==NameKind.free&&env.scope.kind == .function&&env.kindOf n==some .cell) then NameKind.cell else k) else (List.map (λ(n,k)=>if (k==NameKind.free&&env.scope.kind == .function&&env.kindOf n==some .cell) then (n,NameKind.cell) else (n,k)) r).lookup x):=by
 rw [yN];show List.lookup x ((if (k==NameKind.free&&env.scope.kind == .function&&env.kindOf n==some .cell)=true then (n,NameKind.cell) else (n,k))::_)=_;by_cases hc:(k==NameKind.free&&env.scope.kind == .function&&env.kindOf n==some .cell)=true
 ·rw [if_pos hc,if_pos hc,uU];cases x==n<;>rfl
 ·rw [if_neg hc,if_neg hc,uU];cases x==n<;>rfl
theorem Ub {env:Env}{x:Str}{k:NameKind}:∀{names:List (Str×NameKind)}, (names.map λ(n,k)=>if (k==NameKind.free&&env.scope.kind == .function&&env.kindOf n==some .cell) then (n,NameKind.cell) else (n,k)).lookup x=some k -> ∃ k',names.lookup x=some k'/\(k'=k∨(k' = .free/\k = .cell))
 |[],h=>by simp at h
 |(n,q)::r,h=>by
  rw [YZ] at h;rw [uU];cases hx:x==n with
  |true =>
   rw [hx,if_pos rfl] at h;have h':=Option.some.inj h;refine ⟨q,rfl,?_⟩;by_cases hc:(q==NameKind.free&&env.scope.kind == .function&&env.kindOf n==some .cell)=true
   ·rw [if_pos hc] at h';have hq:(q==NameKind.free)=true:=by
     cases z:(q==NameKind.free) with
     |true=>rfl
     |false=>rw [z] at hc;simp at hc
    exact .inr ⟨by simpa using hq,h'.symm⟩
   ·rw [if_neg hc] at h';exact .inl h'
  |false=>rw [hx,if_neg yW] at h;exact Ub h
theorem Ua {env:Env}{x:Str}:∀{names:List (Str×NameKind)},names.lookup x=some .free -> (names.map λ(n,k)=>if (k==NameKind.free&&env.scope.kind == .function&&env.kindOf n==some .cell) then (n,NameKind.cell) else (n,k)).lookup x=some .cell∨(names.map λ(n,k)=>if (k==NameKind.free&&env.scope.kind == .function&&env.kindOf n==some .cell) then (n,NameKind.cell) else (n,k)).lookup x=some .free
 |[],h=>by simp at h
 |(n,q)::r,h=>by
  rw [YZ];rw [uU] at h;cases hx:x==n with
  |true =>
   rw [hx] at h;have h':q = .free:=Option.some.inj h;rw [if_pos rfl];by_cases hc:(q==NameKind.free&&env.scope.kind == .function&&env.kindOf n==some .cell)=true
   ·rw [if_pos hc];exact .inl rfl
   ·rw [if_neg hc,h'];exact .inr rfl
  |false=>rw [hx] at h;rw [if_neg yW];exact Ua h
def u8 (cap:List (Option Nat))(σ:St):St:=cap.map λo=>o.bind λi=>(σ[i]?).join
structure jS (X:Cx)(N':List Str)(cap:List (Option Nat))(sc:Scope):Prop where
 kind:sc.kind = .function
 nocell:∀ y∈sc.names,y.2 ≠ .cell
 names:∀ y∈sc.names,y.2 = .local->sc.names.lookup y.1=some .local
 free:∀ y∈sc.names,y.2 = .free->X.env.kindOf y.1=some .cell∨X.env.kindOf y.1=some .free
 len:cap.length=N'.length
 cap:∀(j i:Nat),cap[j]?=some (some i)->∃ x,N'[j]?=some x/\X.N[i]?=some x/\sc.names.lookup x=some .free
def WR:Option NameKind->Bool
 |some .cell=>true
 |some .free=>true
 |_=>false
theorem Bq {k:Option NameKind}(h:WR k=true):k=some .cell∨k=some .free:=by
 cases k with
 |none=>cases h
 |some k=>cases k<;>first|exact .inl rfl|exact .inr rfl|cases h
def QL (names:List (Str×NameKind))(kd:Str->Option NameKind)(y:Str×NameKind):Bool :=
 match y.2 with
 | .cell=>false
 | .local=>names.lookup y.1==some .local
 | .free=>WR (kd y.1)
 |_=>true
def xZ (N:List Str)(sc:Scope):List Str->List (Option Nat)->Bool
 |[],[]=>true
 |_::r,none::c=>xZ N sc r c
 |x::r,some i::c=>N[i]?==some x&&(sc.names.lookup x==some .free&&xZ N sc r c)
 |_,_=>false
theorem Xq {N:List Str}{sc:Scope}:∀{xs:List Str}{c:List (Option Nat)},xZ N sc xs c=true->c.length=xs.length
 |[],[],_=>rfl
 |_::r,none::c,h=>by
  have h':xZ N sc r c=true:=h;simp [Xq h']
 |x::r,some i::c,h=>by
  have h':(N[i]?==some x&&(sc.names.lookup x==some .free&&xZ N sc r c))=true:=h;simp only [yb] at h';simp [Xq h'.2.2]
 |[],_::_,h=>by cases h
 |_::_,[],h=>by cases h
theorem Xp {N:List Str}{sc:Scope}:∀{xs:List Str}{c:List (Option Nat)},xZ N sc xs c=true->∀(j i:Nat),c[j]?=some (some i)->∃ x,xs[j]?=some x/\N[i]?=some x/\sc.names.lookup x=some .free
 |[],[],_,j,i,e=>by simp at e
 |_::r,none::c,h,0,i,e=>by simp at e
 |_::r,none::c,h,j+1,i,e=>by
  have h':xZ N sc r c=true:=h;obtain ⟨x,h1,h2⟩:=Xp h' j i (by simpa using e);exact ⟨x,by simpa using h1,h2⟩
 |x::r,some k::c,h,0,i,e=>by
  have h':(N[k]?==some x&&(sc.names.lookup x==some .free&&xZ N sc r c))=true:=h;simp only [yb] at h';have e':k=i:=by simpa using e
  subst e';exact ⟨x,rfl,by simpa using h'.1,by simpa using h'.2.1⟩
 |x::r,some k::c,h,j+1,i,e=>by
  have h':(N[k]?==some x&&(sc.names.lookup x==some .free&&xZ N sc r c))=true:=h;simp only [yb] at h';obtain ⟨x',h1,h2⟩:=Xp h'.2.2 j i (by simpa using e);exact ⟨x',by simpa using h1,h2⟩
 |[],_::_,h,_,_,_=>by cases h
 |_::_,[],h,_,_,_=>by cases h
theorem b7 {N':List Str}{cap:List (Option Nat)}{sc:Scope}(h1:sc.kind = .function)(h2:(sc.names.all λy=>QL sc.names X.env.kindOf y)=true)(h3:xZ X.N sc N' cap=true):jS X N' cap sc:=by
 have h2':=uY.mp h2;refine ⟨h1,λy hy e=>?_,λy hy e=>?_,λy hy e=>?_,Xq h3,Xp h3⟩
 ·have q:=h2' y hy;unfold QL at q;rw [e] at q;cases q
 ·have q:=h2' y hy;unfold QL at q;rw [e] at q;simpa using q
 ·have q:=h2' y hy;unfold QL at q;rw [e] at q;exact Bq q
def qb (X:Cx)(N':List Str)(sc:Scope)(cl:List (Str×Addr))(C:Addr)(s:Shared)(H:Hp)(fp:List Addr)(pn:List (Addr×Obj)):Cx where
 prog:=X.prog
 w:=X.w
 K:=X.K
 mg:=X.mg
 base:=X.base
 A:=X.A
 N:=N'
 s₀:=s
 H₀:=H
 env:=compEnvC sc cl C X.env
 outer:=X.stack
 stack:=X.stack
 ex:=fp
 fn:=λ_=>false
 calm:=X.calm
 pn:=pn
 xe:=λ_ _=>False
section
variable {X:Cx}{pins:List (Addr×Obj)}{σ:St}{H:Hp}{s:Shared}{h1:Heap}{N':List Str}{cap:List (Option Nat)}{sc:Scope}{cl:List (Str×Addr)}{fp:List Addr}{C D:Addr}
theorem GS (I:Inv X pins σ H s)(S:jS X N' cap sc)(hc1:∀ x c,cl.lookup x=some c->X.env.cells.lookup x=some c)(hc2:∀ y∈sc.names,y.2 = .free->∃ c,cl.lookup y.1=some c)(hf:∀ b∈fp,qy X pins H b)(ho:∀ b∈fp,b<s.heap.objs.size)(hC:s.heap.objs.size<=C):(qb X N' sc cl C s H fp (X.pn++pins)).Ok where
 mod:=I.ok.mod
 kind:=S.kind
 glob:=I.ok.glob
 blt:=I.ok.blt
 above:=hC
 inj:=λx y c e1 e2=>I.ok.inj x y c (hc1 x c e1) (hc1 y c e2)
 has:=λx hx=>by
  have key:∀ k,(relabel sc X.env).names.lookup x=some k->(k = .cell∨k = .free)->∃ c,cl.lookup x=some c:=λk e hk=>by
   obtain ⟨k',e',q⟩:=Ub e;have hm:=PySem.mem_of_lookup e';have hfree:k' = .free:=by
    rcases q with q|q
    ·rcases hk with z|z
     ·exact absurd (q.trans z) (S.nocell _ hm)
     ·exact q.trans z
    ·exact q.1
   exact hc2 (x,k') hm hfree
  rcases hx with e|e
  ·exact key _ e (.inl rfl)
  ·exact key _ e (.inr rfl)
 cab:=λx c hx _=>by cases hx
 hd:=I.ok.hd
 frames:=I.ok.frames
 stk:= .inl rfl
 exf:=λb hb=>⟨yJ (yy (ho b hb) hC),λx c e=>(hf b hb).2.2.2.2.1 x c (hc1 x c e)⟩
 bs:=I.bs
 bsz:=yf I.ok.bsz I.sz
 noex:=λb o e hb=>by
  rcases (hf b hb).2.2.2.1 with z|z
  ·exact I.ok.noex b o e z
  ·exact absurd (yy (yP e) (yf I.ok.bsz z)) (uZ _)
 exfs:=λb hb hz=>by
  rcases yM.mp (I.stkSub b hz) with e|e
  ·exact (hf b hb).2.1 e
  ·exact (hf b hb).2.2.1 e
 funs:=I.stack
 frf:=I.stkFree
 tbs:=λp hp=>I.base.tbls _ _ _ (I.ok.tbs p hp)
theorem KP {m0:Str->Option Value}{o:Obj}(I:Inv X pins σ H s)(S:jS X N' cap sc)(hc1:∀ x c,cl.lookup x=some c->X.env.cells.lookup x=some c)(hc2:∀ y∈sc.names,y.2 = .free->∃ c,cl.lookup y.1=some c)(hf:∀ b∈fp,qy X pins H b)(ho:∀ b∈fp,b<s.heap.objs.size)(hD:s.heap.objs.size<=D)(hC:D<C)(hDo:h1.get? D=some o)(hoc:∀ v,o.data ≠ .cell v)(hns:h1.Ns C m0)(hk:∀ b o,s.heap.get? b=some o->h1.get? b=some o)(t:Nat):Inv (qb X N' sc cl C s H fp (X.pn++pins)) [(D,o)] (u8 cap σ) H { s with heap:=h1,toks:=t }:=by
 have hCs:s.heap.objs.size<=C:=yf hD (uT hC);have lt_s:∀ b o,s.heap.get? b=some o->b≠C:=λb o e=>yJ (yy (yP e) hCs);refine ⟨GS I S hc1 hc2 hf ho hCs,rfl,I.bare,Un.kept hk,⟨m0,hns,λj x v e1 e2 e3=>?_⟩,λx c e=>?_,I.hok.fresh hCs,λx c e=>I.freeC x c (hc1 x c e),λp hp=>?_,I.hok.kept hk,?_⟩
 ·obtain ⟨i,hi,hσ⟩:∃ i,cap[j]?=some (some i)/\σ[i]?=some (some v):=by
   unfold u8 at e2;rw [yV] at e2;cases hc:cap[j]? with
   |none=>rw [hc] at e2;cases e2
   |some o' =>
    rw [hc] at e2;have e2':(o'.bind λi=>(σ[i]?).join)=some v:=Option.some.inj e2;cases o' with
    |none=>cases e2'
    |some i =>
     refine ⟨i,rfl,?_⟩;have e3':(σ[i]?).join=some v:=e2';cases hs:σ[i]? with
     |none=>rw [hs] at e3';cases e3'
     |some q=>rw [hs] at e3';exact congrArg some e3'
  obtain ⟨x',n1,n2,n3⟩:=S.cap j i hi;have e1':N'[j]?=some x:=e1;rw [n1] at e1';obtain rfl:x'=x:=Option.some.inj e1';have hkd:=S.free (x',.free) (PySem.mem_of_lookup n3) rfl;obtain ⟨m,_,hl⟩:=I.loc;obtain ⟨u,r,l⟩:=hl i x' v n2 hσ (by
   rcases hkd with z|z
   ·exact .inr (.inl z)
   ·exact .inr (.inr z))
  refine ⟨u,r,?_⟩;rcases l with ⟨l1,_⟩|⟨_,c,ec,hcell⟩
  ·rcases hkd with z|z
   ·exact absurd (l1.symm.trans z) (by simp)
   ·exact absurd (l1.symm.trans z) (by simp)
  ·obtain ⟨c',ec'⟩:=hc2 (x',.free) (PySem.mem_of_lookup n3) rfl;have q:=hc1 x' c' ec';rw [ec] at q;obtain rfl:c=c':=Option.some.inj q;refine .inr ⟨Ua n3,c,ec',?_⟩;obtain ⟨oc,hoc',hd⟩:=hcell;exact ⟨oc,hk _ _ hoc',hd⟩
 ·obtain ⟨v,oc,hoc',hd⟩:=I.cell x c (hc1 x c e);exact ⟨v,oc,hk _ _ hoc',hd⟩
 ·rcases yk.mp hp with hp|hp
  ·obtain ⟨e,n,ne,nf,d⟩:=I.pin p hp;refine ⟨hk _ _ e,n,lt_s _ _ e,λhz=>?_,d⟩;rcases yM.mp (I.stkSub _ hz) with e'|e'
   ·exact ne e'
   ·exact nf e'
  ·have e:p=(D,o):=by simpa using hp
   subst e;refine ⟨hDo,I.hok.fresh hD,yJ hC,λhz=>?_,hoc⟩;rcases yM.mp (I.stkSub _ hz) with e'|e'
   ·exact absurd (yy I.lt hD) (by rw [show X.env.locals=D from e'.symm];exact uZ _)
   ·exact I.nofs hD e'
 ·unfold u8;rw [yZ];exact S.len
end
structure Wk (σ σ':St):Prop where
 len:σ.length=σ'.length
 at':∀(i:Nat) v,σ[i]?=some (some v)->σ'[i]?=some (some v)
theorem Wk.refl (σ:St):Wk σ σ:=⟨rfl,λ_ _ h=>h⟩
theorem Wk.set {σ':St}{i:Nat}(w:Wk σ σ')(h:σ[i]?=some none):Wk σ (σ'.set i o):=by
 refine ⟨by rw [yC];exact w.len,λj v e=>?_⟩;have ne:i≠j:=λz=>by rw [<- z,h] at e;cases e
 rw [yv ne];exact w.at' j v e
theorem Wk.one {i:Nat}(h:σ[i]?=some none):Wk σ (σ.set i o):=(Wk.refl σ).set h
def PTs (X:Cx)(ifs:List Expr)(t:TT):Prop :=
 ∀(pins:List (Addr×Obj))(s:Shared)(σ:St)(H:Hp)(Q:Bool->Hp->Prop),Inv X pins σ H s->t σ H Q ->
  wpAny (model X.prog X.w) X.A (forIn ifs true λc r=>if r=true then do let ok <- isTrue c X.env (eval c X.env);pure (ForInStep.yield ok) else pure (ForInStep.yield r)) (TP X pins σ Q) X.xe s
def tYes:TT:=λ_ H Q=>Q true H
theorem c6 :PTs X [] tYes:=λ_ _ _ H _ I h=>wpAny_tests_nil ⟨H,I,h⟩
theorem vA {t:TT}(h:PT X c t):PTs X [c] t:=λpins s σ H Q I q=>wpAny_tests_one (h pins s σ H Q I q)
def JO (J:It)(g:TG)(tt:TT)(te:TE)(Q:VK)(σ0:St)(H1:Hp):Prop:=∃ W:Nat->Nat->List V->Hp->Prop,(∃ m,W 0 m [] H1)/\∀ i m ys H,W i m ys H->ys.length<=sizeLine /\
  ((J.stop i H/\∀ D,H D=none->Q (.ref D) (z8 H D (.lst ys))) ∨
   (J.go i H/\∀ x H',J.yld i H x H'->g x σ0 H' λσ2 H2=>Wk σ0 σ2/\tt σ2 H2 λb H3 =>
      if b=true then te σ2 H3 λv H4=>∃ m',m'<m/\W (i+1) m' (ys++[v]) H4 else ∃ m',m'<m/\W (i+1) m' ys H3))
def zl (wi:TI)(g:TG)(tt:TT)(te:TE)(cap:List (Option Nat)):TE:=λσ H Q=>wi σ H λJ H1=>JO J g tt te Q (u8 cap σ) H1
section
variable {X:Cx}{pins:List (Addr×Obj)}{σ:St}{s₂:Shared}{N':List Str}{cap:List (Option Nat)}{sc:Scope}{cl:List (Str×Addr)}{fp:List Addr}
theorem Wd {Q:VK}{H2:Hp}{it:Addr}{tn:Nat->Heap->Prop}{J:It}{E:Value->Shared->Prop}{RR:Value->Addr->Result->Shared->Prop}(S:jS X N' cap sc)(hc:X.calm=true)(hc1:∀ x c,cl.lookup x=some c->X.env.cells.lookup x=some c)(hc2:∀ y∈sc.names,y.2 = .free->∃ c,cl.lookup y.1=some c)(hg:∀ C pn,PG (qb X N' sc cl C s₂ H2 fp pn) tg g)(ht:∀ C pn,PTs (qb X N' sc cl C s₂ H2 fp pn) ifs tt)(he:∀ C pn,PE (qb X N' sc cl C s₂ H2 fp pn) elt te)(I2:Inv X pins σ H2 s₂)(T:zJ X.prog X.w X.K tg J fp it tn)(st2:tn 0 s₂.heap)(f2:∀ b∈fp,qy X pins H2 b)(W:Nat->Nat->List V->Hp->Prop)(w0:∃ m,W 0 m [] H2)(turn:∀ i m ys H,W i m ys H->ys.length<=sizeLine /\ ((J.stop i H/\∀ D,H D=none->Q (.ref D) (z8 H D (.lst ys)))∨(J.go i H/\∀ x H',J.yld i H x H'->g x (u8 cap σ) H' λσ2 H2=>Wk (u8 cap σ) σ2/\tt σ2 H2 λb H3 => if b=true then te σ2 H3 λv H4=>∃ m',m'<m/\W (i+1) m' (ys++[v]) H4 else ∃ m',m'<m/\W (i+1) m' ys H3)))(hRR:∀ D C H' s' m,Inv X pins σ H' s'->s'.heap.Ns C m->qy X pins H' C->Q (.ref D) H'->RR (.ref D) C (.ok .next) s'):wpAny (model X.prog X.w) X.A (newList []) (λacc s₃=>wpAny (model X.prog X.w) X.A (newFunctionEnv sc X.env.globals cl [] X.env.qual none .none (some X.env)) (λcenv s₄ => codeAny (model X.prog X.w) X.A (.compStart (.ListComp elt [⟨tg,iter,ifs,0⟩] sc pos) 0 (.ref it) acc { cenv with scope:=relabel sc X.env }) (RR acc cenv.locals) s₄) E s₃) E s₂:=by
  refine wpAny_newObj_type (wpAny_newFunctionEnv S.nocell (by intro y hy;simp at hy) (λh₁ hns₁ hsb₁=>?_) S.kind)
  dsimp only at hns₁ hsb₁ ⊢
  generalize hG:s₂.heap.push { cls:= .type "list",dict:=none,data:= .seq ([]:List Value).toArray }=G at hns₁ hsb₁ ⊢;have hC:G.objs.size=s₂.heap.objs.size+1:=by rw [<- hG,uM]
  have hDC:s₂.heap.objs.size<G.objs.size:=by rw [hC];exact uH _
  have old:∀ b o,s₂.heap.get? b=some o->h₁.get? b=some o:=λb o e =>
    hsb₁.extBut b o (yJ (Nat.lt_trans (yP e) hDC)) (yX _ (hG▸yX _ e))
  have hacc:h₁.get? s₂.heap.objs.size=some (LCg.lst []):=hsb₁.extBut _ _ (yJ hDC) (yX _ (hG▸yA _ rfl));have fl:∀ b∈fp,b<s₂.heap.objs.size:=λb hb=>by obtain ⟨o,e,_⟩:=T.obj _ _ st2 b hb;exact yP e
  have seqd:∀(us:List Value) v,(LCg.lst us).data ≠ .cell v:=λus v z=>by cases z
  have cellt:∀ x c,cl.lookup x=some c->c<s₂.heap.objs.size:=λx c e=>by obtain ⟨v,oc,ho,_⟩:=I2.cell x c (hc1 x c e);exact yP ho
  have pint:∀ p∈X.pn++pins,p.1<s₂.heap.objs.size:=λp hp=>yP (I2.pin p hp).1;have I0:Inv (qb X N' sc cl G.objs.size s₂ H2 fp (X.pn++pins)) [(s₂.heap.objs.size,LCg.lst [])] (u8 cap σ) H2 { s₂ with heap:=h₁,toks:=s₂.toks+([]:List (Str×Value)).length } :=
    KP I2 S hc1 hc2 f2 fl (yS _) hDC hacc (seqd []) hns₁ old _
  have stat:∀{H':Hp}{us:List Value},(∀ b∈fp,H' b=none)->∀ b∈fp,qy (qb X N' sc cl G.objs.size s₂ H2 fp (X.pn++pins)) [(s₂.heap.objs.size,LCg.lst us)] H' b:=λ{H' us} hn b hb=>by
    obtain ⟨f0,f1,f2',f3,f4,f5⟩:=f2 b hb;refine ⟨hn b hb,yJ (Nat.lt_trans (fl b hb) hDC),λhz=>?_,.inl hb,λx c e=>f4 x c (hc1 x c e),λp hp=>?_⟩
    · rcases yM.mp (I2.stkSub b hz) with e|e
      · exact f1 e
      · exact f2' e
    · rcases yk.mp hp with hp|hp
      · exact f5 p hp
      · have e:p=(s₂.heap.objs.size,LCg.lst us):=by simpa using hp
        rw [e];exact Ne.symm (yJ (fl b hb))
  have loop:∀ s₃:Shared,s₃={ s₂ with heap:=h₁,toks:=s₂.toks+([]:List (Str×Value)).length } ->
      codeAny (model X.prog X.w) X.A (.compLoop (.ListComp elt [⟨tg,iter,ifs,0⟩] sc pos) 0 (.ref it) (.ref s₂.heap.objs.size) (compEnvC sc cl G.objs.size X.env)) (RR (.ref s₂.heap.objs.size) G.objs.size) s₃:=by
    rintro s₃ rfl;obtain ⟨m0,w0⟩:=w0;refine GO
      (λn s'=>∃ i ys us H',Inv (qb X N' sc cl G.objs.size s₂ H2 fp (X.pn++pins)) [(s₂.heap.objs.size,LCg.lst us)] (u8 cap σ) H' s'/\Vals ys us/\tn i s'.heap/\(∀ b∈fp,H' b=none)/\W i n ys H') ?_ m0
      ⟨0,[],[],H2,I0,.nil,T.keep _ _ _ st2 λb _ o e=>old b o e,λb hb=>(f2 b hb).1,w0⟩
    rintro n s3 ⟨i,ys,us,H3,I3,rv,st3,fr3,w3⟩;obtain ⟨hz,alt⟩:=turn i n ys H3 w3;rcases alt with ⟨stop,fin⟩|⟨go,step⟩
    · refine j4 (T.done (qb X N' sc cl G.objs.size s₂ H2 fp (X.pn++pins)) rfl rfl rfl hc i _ s3 _ H3 _ I3 (stat fr3) st3 stop) λr s4 ⟨hr,I4⟩=>?_
      subst hr;obtain ⟨gD,nD,_,_,_⟩:=I4.pin (s₂.heap.objs.size,LCg.lst us) (yo _ (yQ.mpr rfl));have nD':H3 s₂.heap.objs.size=none:=nD;have gD':s4.heap.get? s₂.heap.objs.size=some (LCg.lst us):=gD;have b4:Un (frs X.stack) fp H2 H3 s₂.heap s4.heap:=I4.base;have n2:H2 s₂.heap.objs.size=none:=I2.hok.fresh (yS _);have un:Un (frs X.stack) fp H2 (z8 H3 s₂.heap.objs.size (.lst ys)) s₂.heap s4.heap :=
        ⟨b4.keep,b4.slot,λb o e n hx=>by rw [j3 (yJ (yP e))];exact b4.free b o e n hx,b4.there,
          λb xs e=>by rw [j3 (u9 e n2)];exact b4.tups b xs e,λb o u e=>by rw [j3 (u9 e n2)];exact b4.frzs b o u e,
          λb ps q e=>by rw [j3 (u9 e n2)];exact b4.tbls b ps q e⟩
      have hok:HOk X.prog X.w (z8 H3 s₂.heap.objs.size (.lst ys)) s4.heap:=λb u e=>by
        by_cases hb:b=s₂.heap.objs.size
        · subst hb
          rw [w6] at e;cases e;exact ⟨hz,us,us.length,rv,gD'⟩
        · rw [j3 hb] at e
          exact (I4.hok b u e).stay (λc v _ q=>q) (λc q=>by rw [j3 (u9 q nD')];exact q) (λc xs q=>by rw [j3 (u9 q nD')];exact q) λc _ _ q=>by rw [j3 (u9 q nD')];exact q
      have IF:Inv X pins σ (z8 H3 s₂.heap.objs.size (.lst ys)) s4:=I2.call' (ch:=fp) I4.os un hok I4.bare λb hb=>by
        obtain ⟨f0,f1,f2',f3,f4,f5⟩:=f2 b hb;exact ⟨f3,f1,f4,f5⟩
      obtain ⟨mF,hnF,_⟩:=I4.loc;refine hRR _ _ _ _ mF IF hnF (I2.fpOk (uT hDC) ?_) (fin _ nD');rw [j3 (Ne.symm (yJ hDC))];exact I4.free
    · refine j4 (T.item (qb X N' sc cl G.objs.size s₂ H2 fp (X.pn++pins)) rfl rfl rfl hc i _ s3 _ H3 _ I3 (stat fr3) st3 go) λr s4 ⟨u,hr,h4⟩=>?_
      subst hr;refine j4 h4 λ_ s5 ⟨x,H5,I5,r5,y5,st5,fr5⟩=>?_;have I5':=I5.pinned (stat fr5) (T.obj _ _ st5);refine j4 (hg G.objs.size (X.pn++pins) _ s5 _ H5 x u _ I5' r5 (step x H5 y5)) λ_ s6 ⟨σ6,H6,I6,wk,q6⟩=>?_;refine j4 (ht G.objs.size (X.pn++pins) _ s6 σ6 H6 _ I6 q6) λok s7 ⟨H7,I7,q7⟩=>?_;have back:∀{σ8:St}{H8:Hp}{s8:Shared}{us8:List Value},Inv (qb X N' sc cl G.objs.size s₂ H2 fp (X.pn++pins)) ([(s₂.heap.objs.size,LCg.lst us8)]++wC fp s5.heap) σ8 H8 s8 ->
          tn (i+1) s8.heap/\∀ b∈fp,H8 b=none:=λ{σ8 H8 s8 us8} I8=>by
        refine ⟨T.keep _ _ _ st5 λb hb o e=>(I8.pin (b,o) (yo _ (yo _ (QK hb e)))).1,λb hb=>?_⟩;obtain ⟨o,e,d⟩:=T.obj _ _ st5 b hb;exact (I8.pin (b,o) (yo _ (yo _ (QK hb e)))).2.1
      cases ok with
      |false=>obtain ⟨m',hm,w7⟩:=q7;obtain ⟨t7,f7⟩:=back I7;exact ⟨m',hm,i+1,ys,us,H7,I7.unpinned.weak wk.len wk.at',rv,t7,f7,w7⟩
      |true =>
        refine j4 (he G.objs.size (X.pn++pins) _ s7 σ6 H7 _ I7 q7) λuv s8 ⟨v,H8,I8,r8,m',hm,w8⟩=>?_;obtain ⟨t8,f8⟩:=back I8;obtain ⟨gD,nD,lD,fD,_⟩:=I8.pin (s₂.heap.objs.size,LCg.lst us) (yo _ (uD _ (yQ.mpr rfl)));have gD':s8.heap.get? s₂.heap.objs.size=some { cls:= .type "list",data:= .seq us.toArray us.length }:=gD;refine append_at (hsz:=by rw [yY,<- rv.length];exact hz) gD' λh9 hs9 hD9=>?_;have I8a:Inv (qb X N' sc cl G.objs.size s₂ H2 fp (X.pn++pins)) [] σ6 H8 s8:=I8.pins_of λp hp=>nomatch hp;have I9:Inv (qb X N' sc cl G.objs.size s₂ H2 fp (X.pn++pins)) [] σ6 H8 { s8 with heap:=h9,toks:=s8.toks } :=
          I8a.turned (it:=s₂.heap.objs.size) (λb o hb e=>hs9.extBut b o hb e) nD lD (.inr (yS _)) (λx c e=>yJ (cellt x c e)) λp hp=>by
            rw [yn] at hp;exact yJ (pint p hp)
        have I10:Inv (qb X N' sc cl G.objs.size s₂ H2 fp (X.pn++pins)) [(s₂.heap.objs.size,LCg.lst (us++[uv]))] σ6 H8 { s8 with heap:=h9,toks:=s8.toks }:=I9.pins_of λp hp=>by
          have e:p=(s₂.heap.objs.size,LCg.lst (us++[uv])):=by simpa using hp
          subst e;exact ⟨hD9.trans (congrArg some (LCg.lst_snoc us uv)),nD,lD,fD,seqd _⟩
        refine ⟨m',hm,i+1,ys++[v],us++[uv],H8,I10.weak wk.len wk.at',rv.append (.cons r8 .nil),T.keep _ _ _ t8 λb hb o e=>hs9.extBut b o (yJ (fl b hb)) e,f8,w8⟩
  have st1:tn 0 h₁:=T.keep _ _ _ st2 λb _ o e=>old b o e;exact codeAny_compStart_list (loop _ rfl) (T.self _ 0 _ _ _ st1 (loop _ rfl))
theorem o5 (S:jS X N' cap sc)(hc:X.calm=true)(hi:PI X tg iter wi)(hg:∀ cl C s H fp pn,PG (qb X N' sc cl C s H fp pn) tg g)(ht:∀ cl C s H fp pn,PTs (qb X N' sc cl C s H fp pn) ifs tt)(he:∀ cl C s H fp pn,PE (qb X N' sc cl C s H fp pn) elt te)(hs:∀ x,foldedSetIterable iter X.env x=pure x:=by intro _;rfl):PE X (.ListComp elt [⟨tg,iter,ifs,0⟩] sc pos) (zl wi g tt te cap):=by intro pins s σ H Q I h;rw [eval_ListComp];obtain ⟨cl,hcl,hc1,hc2⟩:=Wc (scope:=sc) (env:=X.env) λy hy e=>I.ok.has y.1 (S.free y hy e);refine wpAny_comprehension_free (use:=none) rfl hs hcl S.kind S.names (j4 (hi pins s σ H _ I h) λv s1 h1=>j4 h1 λitv s2 h2=>?_);obtain ⟨it,fp,tn,J,H2,e,I2,T,st2,f2,W,w0,turn⟩:=h2;subst e;refine Wd (RR:=λacc C=>compPost (model X.prog X.w) X.A X.xe none (EP X pins σ Q) acc C) S hc hc1 hc2 (λC pn=>hg cl C s2 H2 fp pn) (λC pn=>ht cl C s2 H2 fp pn) (λC pn=>he cl C s2 H2 fp pn) I2 T st2 f2 W w0 turn ?_;intro D C H' s' m I' hn F q;obtain ⟨f0,f1,f2',f3,f4,f5⟩:=F;exact ⟨m,hn,λh' hs'=>⟨.ref D,H',I'.turned (t':=s'.toks) (λb o hb e=>hs'.extBut b o hb e) f0 f1 f3 f4 f5,rfl,q⟩⟩
theorem xi {i:Nat}{x:Str}{spos pos':Pos}(S:jS X N' cap sc)(hc:X.calm=true)(hN:X.N.Nodup)(hx:X.N[i]?=some x)(hk:X.env.scope.names.lookup x=some .local)(hi:PI X tg iter wi)
  (hg:∀ cl C s H fp pn,PG (qb X N' sc cl C s H fp pn) tg g) (ht:∀ cl C s H fp pn,PTs (qb X N' sc cl C s H fp pn) ifs tt) (he:∀ cl C s H fp pn,PE (qb X N' sc cl C s H fp pn) elt te)
  (hsw:swapsWith (.ListComp elt [⟨tg,iter,ifs,0⟩] sc pos) (some (.Name x pos')) spos.line X.env=pure true:=by rfl)
  (hs:∀ x,foldedSetIterable iter X.env x=pure x:=by intro _;rfl):PS X (.Assign [.Name x pos'] (.ListComp elt [⟨tg,iter,ifs,0⟩] sc pos) spos) (qT (zl wi g tt te cap) (r9 i)):=by
 intro pins s σ H D I h;rw [exec_Assign_Name_used _ _ _ _ hsw];refine yR (wpAny_standAt (yR ?_));show wpAny _ X.A (do let _ <- comprehension (.ListComp elt [⟨tg,iter,ifs,0⟩] sc pos) sc X.env _ (newList []) false (eval iter X.env) (some (assign (.Name x pos') X.env))) _ _ s;obtain ⟨cl,hcl,hc1,hc2⟩:=Wc (scope:=sc) (env:=X.env) λy hy e=>I.ok.has y.1 (S.free y hy e);refine yR (j4 (wpAny_comprehension_free (use:=some (assign (.Name x pos') X.env)) (Q:=λ_ s'=>SP X pins D .next s') rfl hs hcl S.kind S.names
  (j4 (hi pins s σ H _ I h) λv s1 h1=>j4 h1 λitv s2 h2=>?_)) λ_ s' hq=>yx (yx hq))
 obtain ⟨it,fp,tn,J,H2,e,I2,T,st2,f2,W,w0,turn⟩:=h2;subst e;refine Wd (Q:=λv H1=>r9 i v σ H1 D.nx) (RR:=λacc C=>compPost (model X.prog X.w) X.A X.xe (some (assign (.Name x pos') X.env)) (λ_ s'=>SP X pins D .next s') acc C) S hc hc1 hc2 (λC pn=>hg cl C s2 H2 fp pn) (λC pn=>ht cl C s2 H2 fp pn) (λC pn=>he cl C s2 H2 fp pn) I2 T st2 f2 W w0 turn ?_;intro E C H' s' m I' hn F q;obtain ⟨f0,f1,f2',f3,f4,f5⟩:=F;show wpAny _ X.A (assign (.Name x pos') X.env (.ref E)) _ _ _;refine wpAny_assign_Name (Us I' hN hx (.inl hk) (v:= .ref E) rfl (λs'' I'' ch=>?_) (.inr hk));obtain ⟨a,sb,ha⟩:=ch;have nC:C≠a:=by
  rcases ha with z|z
  ·rw [z];exact f1
  ·exact Ne.symm (f4 x a z)
 exact ⟨m,hn.sameBut sb nC,λh' hs'=>⟨_,H',I''.turned (t':=s''.toks) (λb o hb e=>hs'.extBut b o hb e) f0 f1 f3 f4 f5,q⟩⟩
end
section
variable {g:TG}{tt:TT}{te:TE}{Q:VK}{H:Hp}{σ0:St}
theorem We {a:Addr}{xs:List V}(Pv:Nat->List V->Hp->Prop)(h0:Pv 0 [] H)(hz:∀ i ys H,i<=xs.length->Pv i ys H->ys.length<=sizeLine)(hl:∀ i ys H,i<=xs.length->Pv i ys H->SqL K H a xs)(hs:∀ i x ys H (R:List V->Hp->Prop),xs[i]?=some x->Pv i ys H->(∀ ys' H',Pv (i+1) ys' H'->R ys' H')->g x σ0 H λσ2 H2=>Wk σ0 σ2/\tt σ2 H2 λb H3=>if b=true then te σ2 H3 λv H4=>R (ys++[v]) H4 else R ys H3)(hd:∀ ys H,Pv xs.length ys H->∀ D,H D=none->Q (.ref D) (z8 H D (.lst ys))):JO (Itl K a) g tt te Q σ0 H:=by
 refine ⟨λi m ys H=>m=xs.length-i/\i<=xs.length/\Pv i ys H,⟨xs.length,by simp,yh _,h0⟩,?_⟩;rintro i m ys H ⟨rfl,hi,p⟩;have q:=hl i ys H hi p;refine ⟨hz i ys H hi p,?_⟩;by_cases hlt:i<xs.length
 ·refine .inr ⟨⟨xs,xs[i],q,by simp [hlt]⟩,λx H' y=>?_⟩;obtain ⟨e,y⟩:=y;subst e;exact hs i x ys _ (λys' H'=>∃ m',m'<xs.length-i/\m'=xs.length-(i+1)/\i+1<=xs.length/\Pv (i+1) ys' H') (y xs q) p λys' H' p'=>⟨xs.length-(i+1),by omega,rfl,hlt,p'⟩
 ·have e:i=xs.length:=by omega
  subst e;exact .inl ⟨⟨xs,q,yS _⟩,hd ys H p⟩
end
def tyB (T c:String):Option Bool:=if (Value.type T==Value.type c)=true then some true else if PySem.W.kitMeta c=true then (fastBuiltinMro T).map (·.contains (Value.type c)) else none
theorem Br {T c:String}{b:Bool}(h:tyB T c=some b):PySem.W.kitOne K (.type T) (.type c)=some b:=h
theorem MI:tyB "int" "int"=some true:=by decide +kernel
theorem MH:tyB "int" "bool"=some false:=by decide +kernel
theorem MJ:tyB "list" "list"=some true:=by decide +kernel
theorem MK:tyB "str" "str"=some true:=by decide +kernel
theorem xD:bootBuiltins "isinstance"=some (.builtin "isinstance"):=by decide +kernel
theorem xE:bootBuiltins "list"=some (.type "list"):=by decide +kernel
theorem Go:bootBuiltins "int"=some (.type "int"):=by decide +kernel
theorem Gm:bootBuiltins "bool"=some (.type "bool"):=by decide +kernel
theorem VU:bootBuiltins "str"=some (.type "str"):=by decide +kernel
theorem jq:bootBuiltins "all"=some (.builtin "all"):=by decide +kernel
theorem VV:bootBuiltins "sum"=some (.builtin "sum"):=by decide +kernel
theorem Gn:bootBuiltins "enumerate"=some (.type "enumerate"):=by decide +kernel
theorem Gs:bootBuiltins "zip"=some (.type "zip"):=by decide +kernel
section
variable {X:Cx}
theorem Gx:CallR X (.builtin "isinstance") (λxs H Q=>∃ x n T b,xs=[x,.ty n]/\qF X.K H x (.type T)/\tyB T n=some b/\Q (.bl b) H):=by intro pins s σ H xs us Q I r h;obtain ⟨x,n,T,b,rfl,ty,e,q⟩:=h;obtain ⟨u,w',rfl,rx,rw'⟩:=vals2 r;obtain rfl:w'=Value.type n:=rw';exact KY I rx ty (Br e) λtk=>⟨.bl b,H,I.tok _,rfl,q⟩
theorem UO:∀{bs:List Bool}{us:List Value}{i:Nat}{u:Value},Vals (bs.map V.bl) us->us[i]?=some u->u = .bool (bs.getD i false)
 |[],_,_,_,.nil,e=>by simp at e
 |b::_,_,0,_,.cons r _,e=>by
  have e':=Option.some.inj e;subst e';exact r
 |_::bs,_,i+1,u,.cons _ t,e=>by
  have q:=UO (i:=i) (u:=u) t (by simpa using e);simpa using q
theorem Gc:∀(bs:List Bool),(List.range bs.length).all (λi=>bs.getD i false)=bs.all id:=by
 intro bs;rw [Bool.eq_iff_iff,uY,uY];constructor
 ·intro h b hb;obtain ⟨i,hi,e⟩:=uI hb;have q:=h i (uC.mpr hi);rw [yE,yU hi] at q;rw [<- e];exact q
 ·intro h i hi;have hi':=uC.mp hi;rw [yE,yU hi'];exact h _ (yz hi')
theorem Gv (hc:X.calm=true):CallR X (.builtin "all") (λxs H Q=>∃ (a:Addr) (bs:List Bool),xs=[.ref a]/\SqL X.K H a (bs.map V.bl)/\Q (.bl (bs.all id)) H):=by
 intro pins s σ H xs us Q I r h;obtain ⟨a,bs,rfl,hq,q⟩:=h;obtain ⟨u,rfl,ru⟩:=xW r;obtain rfl:u=Value.ref a:=ru;obtain ⟨its,rv,p,hz⟩:=I.list hq;have hlt:a<s.heap.objs.size:=by obtain ⟨_,_,e,_⟩:=p;exact yP e
 have hl:s.heap.IsList a its.toArray:=p.isList;refine call_all_walk (wpAny_pyIter_list hl ?_);refine ⟨s.heap.objs.size,_,_,_,_,_,λi=>bs.getD i false,rfl,Walks.list (A:=X.A.in1) (I.ok.hd hc) s.heap.objs.size a (yJ hlt) its.toArray,⟨⟨_,yA _ rfl,rfl,rfl⟩,hl.push _⟩,?_,λh' tk k=>?_⟩
 ·intro i v s' Q' E' hP hQ;have e:=UO rv (by simpa using hP);subst e;exact wpAny_truthy_bool hQ
 ·have hn:its.toArray.size=bs.length:=by have e:=rv.length;rw [yZ] at e;rw [yY];exact e.symm
  rw [hn,Gc];refine ⟨.bl (bs.all id),H,I.kept (t':=tk) (λb o e=>k b o (λhm=>?_) (yX _ e)),rfl,q⟩;have e':b=s.heap.objs.size:=by simpa using hm
  exact absurd (yP e) (by rw [e'];exact uZ _)
theorem UQ:∀{ns:List Int}{us:List Value},Vals (ns.map V.int) us->IntsAre us ns
 |[],_,.nil=> .nil
 |n::_,_,.cons ⟨t,e⟩ r=>by
  subst e;exact .cons n t (UQ r)
theorem GI (hc:X.calm=true):CallR X (.builtin "sum") (λxs H Q=>∃ (a:Addr) (ns:List Int),xs=[.ref a]/\SqL X.K H a (ns.map V.int)/\Q (.int ns.sum) H):=by
 intro pins s σ H xs us Q I r h;obtain ⟨a,ns,rfl,hq,q⟩:=h;obtain ⟨u,rfl,ru⟩:=xW r;obtain rfl:u=Value.ref a:=ru;obtain ⟨its,rv,p,hz⟩:=I.list hq;have hi:=UQ rv;have hl:s.heap.IsList a its.toArray:=p.isList;obtain ⟨xs,ex⟩:=hi.allInts.items;have e2:(numsOf its.toArray.toList).sum=ns.sum:=by rw [show its.toArray.toList=its from rfl,hi.numsOf]
 rw [ex] at hl e2;rw [nums_intItems] at e2;refine sum_intListG (I.ok.hd hc) hl λh' tk t' k=>⟨.int ns.sum,H,I.kept (t':=tk) k,?_,q⟩;rw [preSum_eq,uw (by simp),e2];exact ⟨_,rfl⟩
def vG (_i j:Int):Prop:=0<j/\j.natAbs.log2<9000
theorem Yn:OpR X (binaryOp .FloorDiv) (rI vG λi j=> .int (i / j)):=opI λi j _ _ _ _ _ hc q=>by
 have e:i.fdiv j=i / j:=Int.fdiv_eq_ediv_of_nonneg i (Int.le_of_lt hc.1);exact floordiv_int (Ne.symm (Int.ne_of_lt hc.1)) (by rw [e];exact q) (.inl (PyProof.noPylong_of_log2 hc.2))
def vH (i j:Int):Prop:=Builtin.Int.intBits i<=2 ^ 20/\Builtin.Int.intBits j<=2 ^ 20
theorem QQ:OpR X (binaryOp .Mult) (rI vH λi j=> .int (i*j)):=opI λ_ _ _ _ _ _ _ hc q=>mul_int q (IntMulOk.of_bits hc.1 hc.2)
def Its (lo c:Int)(n:Nat):It:=⟨λi _=>i<n,λi H x H'=>H'=H/\x = .int (lo+i*c),λi _=>n<=i⟩
theorem Mu {P:Program}{w:World}(it:Addr)(lo c:Int)(n:Nat):zJ P w K tg (Its lo c n) [it] it (λi h=>IsRangeIter h it (lo+(i:Nat)*c) ((n:Int)-(i:Nat)) c) where
 mem:=by simp
 obj:=λi h st b hb=>by
  have e:b=it:=by simpa using hb
  subst e;exact ⟨_,st,λv z=>by
   have z':Data.fields _=Data.cell v:=z;cases z'⟩
 keep:=λi h h' st k=>k it (by simp) _ st
 item:=by intro X hP hw hK hc i pins s σ H E I hf st hg;subst hP hw hK;obtain ⟨f0,f1,f2,f3,f4,f5⟩:=hf it (by simp);have W:=Walks.range (prog:=X.prog) (w:=X.w) (I.ok.hd hc) it lo c n;refine W.item i s _ _ hg st λv h' tk hv st' kk=>?_;obtain ⟨t,rfl⟩:=hv;have I1:Inv X pins σ H { s with heap:=h',toks:=tk }:=I.turned (λb o hb e=>kk b o (by simpa using hb) e) f0 f1 f3 f4 f5;exact ⟨_,rfl,XL (s:={ s with heap:=h',toks:=tk }) (n:="range_iterator") st' rfl rfl (by decide) ⟨.int (lo+i*c),H,I1,⟨t,rfl⟩,⟨rfl,rfl⟩,st',λb hb=>(hf b hb).1⟩⟩
 done:=by intro X hP hw hK hc i pins s σ H E I hf st hg;subst hP hw hK;obtain ⟨f0,f1,f2,f3,f4,f5⟩:=hf it (by simp);exact wpAny_pyNext_range_end (I.ok.hd hc) st (by have:n<=i:=hg;omega) λh' eb=>⟨rfl,I.turned (t':=s.toks) (λb o hb e=>eb b o hb e) f0 f1 f3 f4 f5⟩
 self:=λ_ _ _ _ _ st h=>wpAny_pyIter_rangeiter st h
def zE (i j c:Int):Nat:=(Builtin.Range.rangeSize i j c).toNat
def iRng3 (ta:TA):TI:=λσ H R=>ta σ H λvs H1=>∃ i j c:Int,vs=[.int i,.int j,.int c]/\(0<c/\c<1073741824)/\0<=Builtin.Range.rangeSize i j c/\Builtin.Range.small i j c=true/\R (Its i c (zE i j c)) H1
variable {tg:Expr}
theorem CD {a b:Expr}{ta:TA}{p:Pos}(hg:Gl X "range")(hm:X.mg "range"=none)(ha:PA X [a,b,c] ta)(hs:starEach [a,b,c] X.env=[(false,eval a X.env),(false,eval b X.env),(false,eval c X.env)]:=by rfl)(hs2:starEach [b,c] X.env=[(false,eval b X.env),(false,eval c X.env)]:=by rfl):PI X tg (.Call (.Name "range" p) [a,b,c] [] pos) (iRng3 ta):=by
 intro pins s σ H R I h;refine Call_ (zQ I hg hm boot_range (PyProof.Rows.callWith_type1 (j4 (ha pos pins s σ H _ I h) λus s1 ⟨vs,H1,I1,r1,q1⟩=>?_) (by rw [hs,hs2]) (by rw [hs2];rfl)));obtain ⟨i,j,c,e,⟨q1,q2⟩,q3,q4,q⟩:=q1;subst e;cases r1 with
 |cons r rr =>
  cases rr with
  |cons r' rr =>
   cases rr with
   |cons r'' rr =>
    cases rr;obtain ⟨t,rfl⟩:=r;obtain ⟨t',rfl⟩:=r';obtain ⟨t'',rfl⟩:=r'';refine call_range_3 (Ne.symm (Int.ne_of_lt q1)) ?_ (.inl (PyProof.noPylong_small (by omega)));refine wpAny_pyIter_range (IsRange.new ..) q4 ?_;have I2:Inv X pins σ H1 { s1 with heap:=s1.heap.push { cls:= .type "range",data:= .fields #[.int i t,.int j t',.int c t''] },toks:=s1.toks }:=I1.kept λb o e=>yX _ e;refine ⟨(s1.heap.push { cls:= .type "range",data:= .fields #[.int i t,.int j t',.int c t''] }).objs.size,[(s1.heap.push { cls:= .type "range",data:= .fields #[.int i t,.int j t',.int c t''] }).objs.size],_,_,H1,rfl,
     I2.kept (t':=s1.toks) λb o e=>yX _ e,Mu _ i c (zE i j c),?_,λb hb=>?_,q⟩
    ·have e1:i+((0:Nat):Int)*c=i:=by simp
     have e2:((zE i j c:Nat):Int)-((0:Nat):Int)=Builtin.Range.rangeSize i j c:=by unfold zE;omega
     show IsRangeIter _ _ (i+((0:Nat):Int)*c) (((zE i j c:Nat):Int)-((0:Nat):Int)) c;rw [e1,e2];exact yA _ rfl
    ·have e:b=(s1.heap.push { cls:= .type "range",data:= .fields #[.int i t,.int j t',.int c t''] }).objs.size:=by simpa using hb
     subst e;exact I2.fpOk (yS _) (I2.hok.fresh (yS _))
end
theorem Kq {lo c:Int}{n:Nat}{tb:TS}{D:qD}{H:Hp}(Pv:Nat->St->Hp->Prop)(h0:Pv 0 σ H)(hs:∀ i σ H,i<n->Pv i σ H->g (.int (lo+i*c)) σ H λσ2 H2=>tb { D with nx:=Pv (i+1),ct:=Pv (i+1),bk:=D.nx } σ2 H2)(hd:∀ σ H,Pv n σ H->D.nx σ H):∃ W:Nat->Nat->St->Hp->Prop,(∃ m,W 0 m σ H)/\∀ i m σ H,W i m σ H -> ((Its lo c n).stop i H/\D.nx σ H)∨((Its lo c n).go i H/\∃ N:St->Hp->Prop,(∀ σ' H',N σ' H'->∃ m',m'<m/\W (i+1) m' σ' H')/\∀ x H',(Its lo c n).yld i H x H'->g x σ H' λσ2 H2=>tb { D with nx:=N,ct:=N,bk:=D.nx } σ2 H2):=by
 refine ⟨λi m σ H=>m=n-i/\i<=n/\Pv i σ H,⟨n,by simp,yh _,h0⟩,?_⟩;rintro i m σ H ⟨rfl,hi,p⟩;by_cases hlt:i<n
 ·refine .inr ⟨hlt,Pv (i+1),λσ' H' p'=>⟨n-(i+1),by omega,rfl,hlt,p'⟩,λx H' y=>?_⟩;obtain ⟨e,y⟩:=y;subst e y;exact hs i σ _ hlt p
 ·have e:i=n:=by omega
  subst e;exact .inl ⟨yS _,hd σ H p⟩
section
open PySem.SeqAt
theorem xf {α β:Type}{F:α->β->Prop}:∀{l₁:List α}{l₂:List β},Paired F l₁ l₂->∀(j:Nat)(h1:j<l₁.length)(h2:j<l₂.length),F l₁[j] l₂[j]
 |_,_,.cons r _,0,_,_=>r
 |_,_,.cons _ t,j+1,h1,h2=>xf t j (by simpa using h1) (by simpa using h2)
variable {X:Cx}
end
structure Fn (P:Program)(w:World)(K:Fg)(mg:Str->Option Value)(base:Heap)(k:Nat)(x:Str)(ps:List Str)(sp:Sp):Prop where
 ex:∃ f fd,FnOk P w K mg base v5 k f fd ps sp/\mg x=some (.ref f)/\PySem.W.keepIn K (.ref f)=true/\Binds K fd ps []
section
variable {X:Cx}{k j:Nat}{x:Str}{ps:List Str}{sp:Sp}{e:Expr}{es:List Expr}{t:TA}{p pos:Pos}
theorem o6 (c:Fn X.prog X.w X.K X.mg X.base k x ps sp)(hr:Room j X.A)(hj:k<=j)(hg:Gl X x)(ha:PA X (e::es) t)(hdb:(x==("__debug__":Str))=false:=by decide)(he:starEach (e::es) X.env=(false,eval e X.env)::starEach es X.env:=by rfl)(hpl:(backTo pos (starEach es X.env)).any (·.1)=false:=by rfl):PE X (.Call (.Name x p) (e::es) [] pos) (qU sp [] E0 t):=by obtain ⟨f,fd,F,hm,hk,hb⟩:=c.ex;exact Co F (hr.mono hj) hg hm hk hb .nil QS ha hdb he hpl
end
end L2
namespace L2
open PySem PySem.Spec PyProof.Rows
variable{p pos px tp:Pos}{a b:Expr}{P:Program}{w:World}{K:Fg}{elts:List Expr}{x1:Nat}{ta:TA}{x:Str}
section
variable {X:Cx}{pins:List (Addr×Obj)}{σ:St}{H:Hp}{s:Shared}{h':Heap}
theorem Inv.turnedL {t':Nat}{ch:List Addr}(I:Inv X pins σ H s)(k:∀ b o,b∉ch->s.heap.get? b=some o->h'.get? b=some o)(hf:∀ b∈ch,qy X pins H b):Inv X pins σ H { s with heap:=h',toks:=t' }:=by
 have nit:∀ b u,H b=some u->b∉ch:=λb u e z=>by rw [(hf b z).1] at e;cases e
 have nL:X.env.locals∉ch:=λz=>(hf _ z).2.1 rfl;refine I.step (g':=s.gens) (d':=s.drawn) (ch:=ch) (λb hb=>?_) (λb o _ _ hc e _=>k b o hc e) (λb o _ _ hc e _=>⟨o.slots,k b o hc e⟩) (λ_ _ _ _ n=>n)
  (λb o hc e=>⟨o,k b o hc e⟩) (λ_ _ e=>e) (λ_ _ _ e=>e) (λ_ _ _ e=>e) (λm hm=>?_) (λb u e=>?_) I.bare
 ·obtain ⟨f0,f1,f2,f3,f4,f5⟩:=hf b hb;exact ⟨f3,f1,f4,f5⟩
 ·obtain ⟨o,es,ep,ho,r⟩:=hm;exact ⟨o,es,ep,k _ o nL ho,r⟩
 ·refine (I.hok b u e).stay (λc v hc q=>k c v ?_ q) (λ_ q=>q) (λ_ _ q=>q) λ_ _ _ q=>q;rcases hc with z|z
  ·rw [z];exact nit b u e
  ·exact nit c _ z
theorem Inv.track {p:Addr}{o:HO}(I:Inv X pins σ H s)(hp:X.s₀.heap.objs.size<=p)(hn:H p=none)(nL:p≠X.env.locals)(nC:∀ x c,X.env.cells.lookup x=some c->c≠p)(nP:∀ q∈X.pn++pins,q.1≠p)(new:ObjOk X.prog X.w (z8 H p o) s.heap p o):Inv X pins σ (z8 H p o) s:=by
 refine ⟨I.ok,I.os,I.bare,⟨I.base.keep,I.base.slot,λb ob e n hx=>?_,I.base.there,λb xs e=>?_,λb ob u e=>?_,λb ps q e=>?_⟩,I.loc,I.cell,?_,λx c e=>?_,λq hq=>?_,λb u e=>?_,I.len⟩
 ·rw [j3 (yJ (yy (yP e) hp))];exact I.base.free b ob e n hx
 ·have z:=I.base.tups b xs e;rw [j3 (u9 z hn)];exact z
 ·have z:=I.base.frzs b ob u e;rw [j3 (u9 z hn)];exact z
 ·have z:=I.base.tbls b ps q e;rw [j3 (u9 z hn)];exact z
 ·rw [j3 (Ne.symm nL)];exact I.free
 ·rw [j3 (nC x c e)];exact I.freeC x c e
 ·obtain ⟨a1,a2,a3⟩:=I.pin q hq;exact ⟨a1,by rw [j3 (nP q hq)];exact a2,a3⟩
 ·by_cases hb:b=p
  ·subst hb;rw [w6] at e;cases e;exact new
  ·rw [j3 hb] at e;exact (I.hok b u e).stay (λc v _ q=>q) (λc q=>by rw [j3 (u9 q hn)];exact q) (λc xs q=>by rw [j3 (u9 q hn)];exact q) λc _ _ q=>by rw [j3 (u9 q hn)];exact q
theorem Inv.seq_ne {a b:Addr}{xs:List V}(I:Inv X pins σ H s)(hq:SqL X.K H a xs)(hf:qy X pins H b):a≠b:=by
 rintro rfl;rcases hq with (h|⟨o,h⟩)|⟨o,its,n,hk,_⟩
 ·rw [hf.1] at h;cases h
 ·rw [hf.1] at h;cases h
 ·have e:=I.ok.mod.kin a o hk;rcases hf.2.2.2.1 with z|z
  ·exact I.ok.noex a o e z
  ·exact absurd (yy (yP e) (yf I.ok.bsz z)) (uZ _)
end
def Ite (K:Fg)(a:Addr):It :=
 ⟨λi H=>∃ xs x,SqL K H a xs/\xs[i]?=some x,λi H x H'=>∃ p y,H p=none/\x = .ref p/\H'=z8 H p (.tup [.int i,y])/\∀ xs,SqL K H a xs->xs[i]?=some y,λi H=>∃ xs,SqL K H a xs/\xs.length<=i⟩
theorem Mq (a e it:Addr)(hne:e≠it):zJ P w K (.Tuple elts x1 tp) (Ite K a) [e,it] e (λi h=>(∃ old,IsEnum h e it ((i:Nat):Int) old)/\h.IsListIter it a i) where
 mem:=by simp
 obj:=λi h st b hb=>by
  obtain ⟨⟨old,he⟩,hit⟩:=st;rcases yM.mp hb with rfl|hb
  ·exact ⟨_,he,λv z=>by
    have z':Data.fields _=Data.cell v:=z;cases z'⟩
  ·have eb:b=it:=by simpa using hb
   subst eb;obtain ⟨o,e1,c,d⟩:=hit;exact ⟨o,e1,λv z=>by rw [d] at z;cases z⟩
 keep:=λi h h' st k=>by
  obtain ⟨⟨old,he⟩,hit⟩:=st;exact ⟨⟨old,k e (by simp) _ he⟩,hit.at λo q=>k it (by simp) o q⟩
 item:=by
  intro X hP hw hK hc i pins s σ H E I hf st hg;subst hP hw hK;obtain ⟨⟨old,he⟩,hit⟩:=st;obtain ⟨xs,x,hq,hx⟩:=hg;obtain ⟨its,rv,p,hz⟩:=I.list hq;obtain ⟨u,hu,ru⟩:=rv.get hx;have fz:qy X pins H s.heap.objs.size:=I.fpOk (yS _) (I.hok.fresh (yS _));have lte:e<s.heap.objs.size:=yP he;have lti:it<s.heap.objs.size:=by obtain ⟨o,q,_⟩:=hit;exact yP q
  refine wpAny_pyNext_enum_item he hit p.isList (x:=u) (by simpa using hu) hne λh1 heo hit1 ht1 hz1 hk1=>⟨_,rfl,?_⟩;refine wpAny_letOwnedTupleGo_enum heo λh2 he2 hs2=>?_;have hs2':Heap.SameBut e h1 h2:=hs2;have I2:Inv X pins σ H { s with heap:=h2,toks:=s.toks+1 }:=I.turnedL (ch:=[e,it]) (λb o hb q=>by
   have n1:b≠e:=λz=>hb (by rw [z];simp);have n2:b≠it:=λz=>hb (by rw [z];simp);exact hs2'.extBut b o n1 (hk1 b o n1 n2 q)) hf
  obtain ⟨f0,f1,f2,f3,f4,f5⟩:=fz;have tup:h2.get? s.heap.objs.size=some { cls:= .type "tuple",data:= .seq #[.int i s.toks,u] }:=hs2'.extBut _ _ (Ne.symm (yJ lte)) ht1;refine ⟨.ref s.heap.objs.size,z8 H s.heap.objs.size (.tup [.int i,x]),I2.track I.sz f0 f1 f4 f5 ?_,rfl,⟨s.heap.objs.size,x,f0,rfl,rfl,λys hy=>by rw [I.list_inj hy hq];exact hx⟩,⟨⟨u,?_⟩,?_⟩,λb hb=>?_⟩
  ·exact ⟨by show 2<=sizeLine;decide,[.int i s.toks,u],.cons ⟨_,rfl⟩ (.cons ru .nil),⟨_,tup,rfl,_,rfl⟩⟩
  ·have ei:(((i+1:Nat):Int))=(i:Int)+1:=by omega
   rw [ei];exact he2
  ·exact hit1.at λo q=>hs2'.extBut it o (Ne.symm hne) q
  ·have nb:b≠s.heap.objs.size:=by
    rcases yM.mp hb with rfl|hb
    ·exact yJ lte
    ·have eb:b=it:=by simpa using hb
     rw [eb];exact yJ lti
   rw [j3 nb];exact (hf b hb).1
 done:=by intro X hP hw hK hc i pins s σ H E I hf st hg;subst hP hw hK;obtain ⟨⟨old,he⟩,hit⟩:=st;obtain ⟨xs,hq,hx⟩:=hg;obtain ⟨its,rv,p,hz⟩:=I.list hq;have hl:=rv.length;exact wpAny_pyNext_enum_end (I.ok.hd hc) he hit p.isList (by simp;omega) λh1 eb=>⟨rfl,I.turnedL (t':=s.toks) (ch:=[e,it]) (λb o hb q=>eb b o (λz=>hb (by rw [z];simp)) q) hf⟩
 self:=λ_ _ _ _ _ st h=>by
  obtain ⟨⟨old,he⟩,hit⟩:=st;exact wpAny_pyIter_enum he h
section
variable {X:Cx}{elts:List Expr}{x1:Nat}{tp:Pos}
def XM (K:Fg)(ta:TA):TI:=λσ H R=>ta σ H λvs H1=>∃ a,vs=[.ref a]/\(∃ xs,SqL K H1 a xs)/\R (Ite K a) H1
theorem CB (hg:Gl X "enumerate")(hm:X.mg "enumerate"=none)(ha:PA X [a] ta)(hs:starEach [a] X.env=[(false,eval a X.env)]:=by rfl):PI X (.Tuple elts x1 tp) (.Call (.Name "enumerate" p) [a] [] pos) (XM X.K ta):=by
 intro pins s σ H R I h;refine Call_ (zQ I hg hm Gn (PyProof.Rows.callWith_type1 (j4 (ha pos pins s σ H _ I h) λus s1 ⟨vs,H1,I1,r1,q1⟩=>?_) hs rfl));obtain ⟨a,e,⟨xs,hq⟩,q⟩:=q1;subst e;cases r1 with
 |cons r rr =>
  cases rr;cases r;obtain ⟨its,rv,p,hz⟩:=I1.list hq;refine call_enumerate_list p.isList λh' he hit hsz hk=>?_;refine wpAny_pyIter_enum he ?_;refine ⟨s1.heap.objs.size+1,[s1.heap.objs.size+1,s1.heap.objs.size],_,_,H1,rfl,I1.kept (t':=s1.toks) hk,Mq a (s1.heap.objs.size+1) s1.heap.objs.size (Nat.ne_of_gt (uH _)),⟨⟨_,he⟩,hit⟩,λb hb=>?_,q⟩;rcases yM.mp hb with rfl|hb
  ·exact I1.fpOk (ux _) (I1.hok.fresh (ux _))
  ·have eb:b=s1.heap.objs.size:=by simpa using hb
   subst eb;exact I1.fpOk (yS _) (I1.hok.fresh (yS _))
end
def Itz (K:Fg)(a b:Addr):It :=
  ⟨λi H=>∃ xs ys x y,SqL K H a xs/\SqL K H b ys/\xs[i]?=some x/\ys[i]?=some y,
   λi H z H'=>∃ p x y,H p=none/\z = .ref p/\H'=z8 H p (.tup [x,y])/\(∀ xs,SqL K H a xs->xs[i]?=some x)/\∀ ys,SqL K H b ys->ys[i]?=some y,
   λi H=>∃ xs ys,SqL K H a xs/\SqL K H b ys/\(xs.length<=i∨ys.length<=i)⟩
theorem Mv (a b z TI TO i1 i2:Addr)(d:[z,TI,TO,i1,i2].Nodup):zJ P w K (.Tuple elts x1 tp) (Itz K a b) [z,TI,TO,i1,i2] z (λi h=>IsZip h z TI TO .none/\IsPair h TI (.ref i1) (.ref i2)/\(∃ u v,IsPair h TO u v)/\h.IsListIter i1 a i/\h.IsListIter i2 b i) where
 mem:=by simp
 obj:=λi h st c hc=>by
  obtain ⟨hz,hTI,⟨u,v,hTO⟩,h1,h2⟩:=st;have hc':c=z∨c=TI∨c=TO∨c=i1∨c=i2:=by simpa using hc
  rcases hc' with rfl|rfl|rfl|rfl|rfl
  ·exact ⟨_,hz,λv q=>by
    have q':Data.fields _=Data.cell v:=q;cases q'⟩
  ·exact ⟨_,hTI,λv q=>by
    have q':Data.seq _ _=Data.cell v:=q;cases q'⟩
  ·exact ⟨_,hTO,λv q=>by
    have q':Data.seq _ _=Data.cell v:=q;cases q'⟩
  ·obtain ⟨o,e1,cc,dd⟩:=h1;exact ⟨o,e1,λv q=>by rw [dd] at q;cases q⟩
  ·obtain ⟨o,e1,cc,dd⟩:=h2;exact ⟨o,e1,λv q=>by rw [dd] at q;cases q⟩
 keep:=λi h h' st k=>by
  obtain ⟨hz,hTI,⟨u,v,hTO⟩,h1,h2⟩:=st;exact ⟨k z (by simp) _ hz,k TI (by simp) _ hTI,⟨u,v,k TO (by simp) _ hTO⟩,h1.at λo e=>k i1 (by simp) o e,h2.at λo e=>k i2 (by simp) o e⟩
 item:=by
  intro X hP hw hK hc i pins s σ H E I hf st hg;subst hP hw hK;obtain ⟨hz,hTI,⟨u0,v0,hTO⟩,h1,h2⟩:=st;obtain ⟨xs,ys,x,y,hqa,hqb,hx,hy⟩:=hg;obtain ⟨its,rv,p,_⟩:=I.list hqa;obtain ⟨jts,rw',p',_⟩:=I.list hqb;obtain ⟨u,hu,ru⟩:=rv.get hx;obtain ⟨v,hv,rv'⟩:=rw'.get hy;simp only [yF,yM,not_or,ya,not_false_eq_true,List.nodup_nil,and_true] at d;obtain ⟨⟨d1,d2,d3,d4⟩,⟨d5,d6,d7⟩,⟨d8,d9⟩,d10⟩:=d;have ap:ZipApart z TI TO i1 i2 a b:=⟨Ne.symm d1,Ne.symm d2,Ne.symm d3,Ne.symm d4,d5,d6,d7,d8,d9,d10,
   I.seq_ne hqa (hf z (by simp)),I.seq_ne hqa (hf TO (by simp)),I.seq_ne hqa (hf i1 (by simp)),I.seq_ne hqa (hf i2 (by simp)),
   I.seq_ne hqb (hf z (by simp)),I.seq_ne hqb (hf TO (by simp)),I.seq_ne hqb (hf i1 (by simp)),I.seq_ne hqb (hf i2 (by simp))⟩
  have fz:qy X pins H s.heap.objs.size:=I.fpOk (yS _) (I.hok.fresh (yS _));have lt:∀ c∈[z,TI,TO,i1,i2],c<s.heap.objs.size:=λc hc=>by
   have hc':c=z∨c=TI∨c=TO∨c=i1∨c=i2:=by simpa using hc
   rcases hc' with rfl|rfl|rfl|rfl|rfl
   ·exact yP hz
   ·exact yP hTI
   ·exact yP hTO
   ·obtain ⟨o,q,_⟩:=h1;exact yP q
   ·obtain ⟨o,q,_⟩:=h2;exact yP q
  refine wpAny_pyNext_zip_item ap hz hTI hTO h1 h2 p.isList p'.isList (x:=u) (y:=v) (by simpa using hu) (by simpa using hv) λh3 hz3 hTO3 h13 h23 hp3 hs3 hk3=>⟨_,rfl,?_⟩;refine wpAny_letOwnedTupleGo_zip hz3 λh4 hz4 hs4=>?_;have hs4':Heap.SameBut z h3 h4:=hs4;have I4:Inv X pins σ H { s with heap:=h4,toks:=s.toks }:=I.turnedL (ch:=[z,TI,TO,i1,i2]) (λc o hc q=>by
   have n1:c≠z:=λe=>hc (by rw [e];simp);have n2:c≠TO:=λe=>hc (by rw [e];simp);have n3:c≠i1:=λe=>hc (by rw [e];simp);have n4:c≠i2:=λe=>hc (by rw [e];simp);exact hs4'.extBut c o n1 (hk3 c o n1 n2 n3 n4 q)) hf
  obtain ⟨f0,f1,f2,f3,f4,f5⟩:=fz;have tup:h4.get? s.heap.objs.size=some { cls:= .type "tuple",data:= .seq #[u,v] }:=hs4'.extBut _ _ (Ne.symm (yJ (lt z (by simp)))) hp3;refine ⟨.ref s.heap.objs.size,z8 H s.heap.objs.size (.tup [x,y]),I4.track I.sz f0 f1 f4 f5 ?_,rfl,⟨s.heap.objs.size,x,y,f0,rfl,rfl,(λzs hy'=>by rw [I.list_inj hy' hqa];exact hx),λzs hy'=>by rw [I.list_inj hy' hqb];exact hy⟩,⟨hz4,?_,⟨u,v,?_⟩,?_,?_⟩,λc hc=>?_⟩
  ·exact ⟨by show 2<=sizeLine;decide,[u,v],.cons ru (.cons rv' .nil),⟨_,tup,rfl,_,rfl⟩⟩
  ·exact hs4'.extBut _ _ (Ne.symm d1) (hk3 _ _ (Ne.symm d1) d5 d6 d7 hTI)
  ·exact hs4'.extBut _ _ (Ne.symm d2) hTO3
  ·exact h13.at λo q=>hs4'.extBut i1 o (Ne.symm d3) q
  ·exact h23.at λo q=>hs4'.extBut i2 o (Ne.symm d4) q
  ·rw [j3 (yJ (lt c hc))];exact (hf c hc).1
 done:=by
  intro X hP hw hK hc i pins s σ H E I hf st hg;subst hP hw hK;obtain ⟨hz,hTI,⟨u0,v0,hTO⟩,h1,h2⟩:=st;obtain ⟨xs,ys,hqa,hqb,hend⟩:=hg;obtain ⟨its,rv,p,_⟩:=I.list hqa;obtain ⟨jts,rw',p',_⟩:=I.list hqb;have l1:=rv.length;have l2:=rw'.length;simp only [yF,yM,not_or,ya,not_false_eq_true,List.nodup_nil,and_true] at d;obtain ⟨⟨d1,d2,d3,d4⟩,⟨d5,d6,d7⟩,⟨d8,d9⟩,d10⟩:=d;have ap:ZipApart z TI TO i1 i2 a b:=⟨Ne.symm d1,Ne.symm d2,Ne.symm d3,Ne.symm d4,d5,d6,d7,d8,d9,d10,
   I.seq_ne hqa (hf z (by simp)),I.seq_ne hqa (hf TO (by simp)),I.seq_ne hqa (hf i1 (by simp)),I.seq_ne hqa (hf i2 (by simp)),
   I.seq_ne hqb (hf z (by simp)),I.seq_ne hqb (hf TO (by simp)),I.seq_ne hqb (hf i1 (by simp)),I.seq_ne hqb (hf i2 (by simp))⟩
  refine wpAny_pyNext_zip_end (I.ok.hd hc) ap hz hTI hTO h1 h2 p.isList p'.isList (hend.elim (λq=> .inl (by simp;omega)) (λq=> .inr (by simp;omega))) λh3 hk3=>⟨rfl,I.turnedL (t':=s.toks) (ch:=[z,TI,TO,i1,i2]) (λc o hc q=>?_) hf⟩;exact hk3 c o (λe=>hc (by rw [e];simp)) (λe=>hc (by rw [e];simp)) (λe=>hc (by rw [e];simp)) (λe=>hc (by rw [e];simp)) q
 self:=λ_ _ _ _ _ st h=>wpAny_pyIter_zip st.1 h
section
variable {X:Cx}{elts:List Expr}{x1:Nat}{tp:Pos}
def iZip (K:Fg)(ta:TA):TI:=λσ H R=>ta σ H λvs H1=>∃ a b,vs=[.ref a,.ref b]/\(∃ xs,SqL K H1 a xs)/\(∃ ys,SqL K H1 b ys)/\R (Itz K a b) H1
theorem CG (hg:Gl X "zip")(hm:X.mg "zip"=none)(ha:PA X [a,b] ta)(hs:starEach [a,b] X.env=[(false,eval a X.env),(false,eval b X.env)]:=by rfl)(hs2:starEach [b] X.env=[(false,eval b X.env)]:=by rfl):PI X (.Tuple elts x1 tp) (.Call (.Name "zip" p) [a,b] [] pos) (iZip X.K ta):=by
 intro pins s σ H R I h;refine Call_ (zQ I hg hm Gs (PyProof.Rows.callWith_type1 (j4 (ha pos pins s σ H _ I h) λus s1 ⟨vs,H1,I1,r1,q1⟩=>?_) (by rw [hs,hs2]) (by rw [hs2];rfl)));obtain ⟨a,b,e,⟨xs,hq⟩,⟨ys,hq'⟩,q⟩:=q1;subst e;cases r1 with
 |cons r rr =>
  cases rr with
  |cons r' rr =>
   cases rr;cases r;cases r';obtain ⟨its,rv,p,hz⟩:=I1.list hq;obtain ⟨jts,rw',p',_⟩:=I1.list hq';refine call_zip_2 p.isList p'.isList λh' g1 g2 g3 g4 g5 hsz hk=>?_;refine wpAny_pyIter_zip g1 ?_;refine ⟨s1.heap.objs.size+4,[s1.heap.objs.size+4,s1.heap.objs.size+2,s1.heap.objs.size+3,s1.heap.objs.size,s1.heap.objs.size+1],_,_,H1,rfl,I1.kept (t':=s1.toks) hk,Mv a b _ _ _ _ _ ?_,⟨g1,g2,⟨_,_,g3⟩,g4,g5⟩,λc hc=>?_,q⟩
   ·simp only [yF,yM,not_or,ya,not_false_eq_true,List.nodup_nil,and_true];refine ⟨⟨?_,?_,?_,?_⟩,⟨?_,?_,?_⟩,⟨?_,?_⟩,?_⟩<;>(show ¬ (_:Nat)=_;omega)
   ·have hc':s1.heap.objs.size<=c:=by
     have hc2:c=s1.heap.objs.size+4∨c=s1.heap.objs.size+2∨c=s1.heap.objs.size+3∨c=s1.heap.objs.size∨c=s1.heap.objs.size+1:=by simpa using hc
     rcases hc2 with e|e|e|e|e<;>(rw [e];first|exact yS _|exact Nat.le_add_right _ _)
    exact I1.fpOk hc' (I1.hok.fresh hc')
end
section
variable {X:Cx}{K:Fg}
theorem XS (h:X.K=K):IxR X (rIxL K):=by subst h;exact ix_list
theorem Uo (h:X.K=K):SlR X (rSlL K):=by subst h;exact Ma
theorem VW (h:X.K=K):CallR X (.builtin "len") (λxs H Q=>∃ p ys,xs=[.ref p]/\(SqL K H p ys∨SqT K H p ys)/\Q (.int ys.length) H):=by subst h;exact GC
theorem GJ (hc:X.calm=true)(h:X.K=K):CallR X (.builtin "sum") (λxs H Q=>∃ (a:Addr) (ns:List Int),xs=[.ref a]/\SqL K H a (ns.map V.int)/\Q (.int ns.sum) H):=by subst h;exact GI hc
theorem wA {es:List Expr}{k:Nat}{t:TGs}{n:Nat}(hc:X.calm=true)(hK:X.K=K)(h:PGs X es t)(hn:(assignEach es X.env).length=n:=by rfl)(hst:(assignEach es X.env).findIdx? (·.1)=none:=by rfl):PG X (.Tuple es k pos) (gTup K n t):=by subst hK;exact CA hc h hn hst
theorem p5 {tg l:Expr}{tl:TE}(hK:X.K=K)(hl:PE X l tl):PI X tg l (vk K tl):=by subst hK;exact CC hl
theorem QY (hK:X.K=K)(hg:Gl X "enumerate")(hm:X.mg "enumerate"=none)(ha:PA X [a] ta)(hs:starEach [a] X.env=[(false,eval a X.env)]:=by rfl):PI X (.Tuple elts x1 tp) (.Call (.Name "enumerate" p) [a] [] pos) (XM K ta):=by subst hK;exact CB hg hm ha hs
theorem CH (hK:X.K=K)(hg:Gl X "zip")(hm:X.mg "zip"=none)(ha:PA X [a,b] ta)(hs:starEach [a,b] X.env=[(false,eval a X.env),(false,eval b X.env)]:=by rfl)(hs2:starEach [b] X.env=[(false,eval b X.env)]:=by rfl):PI X (.Tuple elts x1 tp) (.Call (.Name "zip" p) [a,b] [] pos) (iZip K ta):=by subst hK;exact CG hg hm ha hs hs2
end
section
variable {X:Cx}
theorem Cc:OpR X (compareOp .LtE) (λx y H Q=>∃ i j,x = .str i/\y = .str j/\Q (.bl (!decide (j.cps.toList<i.cps.toList))) H):=by intro pins s σ H x y v u Q I rx ry h;obtain ⟨i,j,rfl,rfl,q⟩:=h;obtain ⟨t,rfl⟩:=rx;obtain ⟨t',rfl⟩:=ry;exact PySem.P.le_str (XD I q rfl)
def ItS (z:Str):It:=⟨λi _=>i<z.cps.size,λi H x H'=>H'=H/\∃ c,z.cps[i]?=some c/\x = .str ⟨#[c]⟩,λi _=>i=z.cps.size⟩
theorem UI (it:Addr)(ty:String)(z:Str)(t:Tok)(W:∀ A':Around,A'.handled=none->Walks P w A' it [it] [it] z.cps.size (SignAt z) (λi h=>h.IsStrIter it ty z t i))(sf:∀(A:Around)(i:Nat)(s:Shared)(Q:Value->Shared->Prop)(E:Value->Shared->Prop),s.heap.IsStrIter it ty z t i->Q (.ref it) s->wpAny (model P w) A (pyIter (.ref it)) Q E s):zJ P w K (.Name x px) (ItS z) [it] it (λi h=>h.IsStrIter it ty z t i) where
 mem:=by simp
 obj:=λi h st b hb=>by
  have e:b=it:=by simpa using hb
  subst e;obtain ⟨o,e,c,d⟩:=st;exact ⟨o,e,λv q=>by rw [d] at q;cases q⟩
 keep:=λi h h' st k=>by
  obtain ⟨o,e,r⟩:=st;exact ⟨o,k it (by simp) o e,r⟩
 item:=by intro X hP hw hK hc i pins s σ H E I hf st hg;subst hP hw hK;obtain ⟨f0,f1,f2,f3,f4,f5⟩:=hf it (by simp);refine (W X.A (I.ok.hd hc)).item i s _ _ hg st λv h' tk hv st' kk=>?_;obtain ⟨c,u,e1,rfl⟩:=hv;have I1:Inv X pins σ H { s with heap:=h',toks:=tk }:=I.turned (λb o hb e=>kk b o (by simpa using hb) e) f0 f1 f3 f4 f5;refine ⟨_,rfl,?_⟩;show wpAny _ _ (pure ()) _ _ _;exact yx ⟨.str ⟨#[c]⟩,H,I1,⟨u,rfl⟩,⟨rfl,c,e1,rfl⟩,st',λb hb=>(hf b hb).1⟩
 done:=by intro X hP hw hK hc i pins s σ H E I hf st hg;subst hP hw hK;obtain ⟨f0,f1,f2,f3,f4,f5⟩:=hf it (by simp);have hg':i=z.cps.size:=hg;subst hg';exact (W X.A (I.ok.hd hc)).done s _ _ st λh' tk kk=>⟨rfl,I.turned (λb o hb e=>kk b o (by simpa using hb) e) f0 f1 f3 f4 f5⟩
 self:=sf
def iStr (tl:TE):TI:=λσ H R=>tl σ H λx H1=>∃ z,x = .str z/\R (ItS z) H1
theorem CF {l:Expr}{tl:TE}(hl:PE X l tl):PI X (.Name x px) l (iStr tl):=by
 intro pins s σ H R I h;refine j4 (hl pins s σ H _ I h) λv s1 ⟨x,H1,I1,r1,q1⟩=>?_;obtain ⟨z,e,q⟩:=q1;subst e;obtain ⟨t,rfl⟩:=r1;have fp:∀ b∈[s1.heap.objs.size],qy X pins H1 b:=λb hb=>by
  have e:b=s1.heap.objs.size:=by simpa using hb
  subst e;exact I1.fpOk (yS _) (I1.hok.fresh (yS _))
 cases ha:z.cps.all (·<128)
 ·refine wpAny_pyIter_wide ha ?_;exact ⟨s1.heap.objs.size,[s1.heap.objs.size],_,_,H1,rfl,I1.kept (t':=s1.toks) λb o e=>yX _ e,UI _ "str_iterator" z t (λA' hA=>Walks.strWide hA _ z t) (λ_ _ _ _ _ st h=>wpAny_pyIter_striter_wide st h),⟨_,yA _ rfl,rfl,rfl⟩,fp,q⟩
 ·refine wpAny_pyIter_ascii ha ?_;exact ⟨s1.heap.objs.size,[s1.heap.objs.size],_,_,H1,rfl,I1.kept (t':=s1.toks) λb o e=>yX _ e,UI _ "str_ascii_iterator" z t (λA' hA=>Walks.strAscii hA _ z t) (λ_ _ _ _ _ st h=>wpAny_pyIter_striter_ascii st h),⟨_,yA _ rfl,rfl,rfl⟩,fp,q⟩
end
section
variable {X:Cx}{K:Fg}
def YI (K:Fg):R2:=λx y H Q=>∃ l b xs zs,x = .ref l/\y = .ref b/\SqL K H l xs/\SqL K H b zs/\xs.length+zs.length<=sizeLine/\∀ p,H p=none->Q (.ref p) (z8 H p (.lst (xs++zs)))
theorem op_catL:OpR X (binaryOp .Add) (YI X.K):=by
 intro pins s σ H x y v u Q I rx ry h;obtain ⟨l,b,xs,zs,rfl,rfl,hH,hB,hz,q⟩:=h;cases rx;cases ry;obtain ⟨its,r,⟨⟨cls,dd,data,sl⟩,n,e,h1,h2,h3⟩,_⟩:=I.list hH;obtain ⟨its2,r2,⟨⟨cls2,dd2,data2,sl2⟩,n2,e2,k1,k2,k3⟩,_⟩:=I.list hB
 dsimp only at h1 h2 h3 k1 k2 k3
 subst h1 h2 h3 k1 k2 k3;have hl:=r.length;have hl2:=r2.length;have hsz:its.toArray.size+its2.toArray.size<=sizeLine:=by rw [yY,yY];omega
 refine concat_meets ⟨_,e,rfl⟩ ⟨_,e2,rfl⟩ noFill_list_add seq_list_add PySem.F.slot_list_add PySem.F.entry_list_add (PySem.F.args_list_add_2 _ _) (list_addW l b its.toArray its2.toArray n n2 none none sl sl2 hsz) ⟨e,e2,?_⟩;have ea:its.toArray++its2.toArray=(its++its2).toArray:=by simp
 rw [ea];exact ⟨.ref _,_,I.lnew (t':=s.toks) (r.append r2) (by rw [yL];omega),rfl,q _ I.fresh⟩
end
section
variable {X:Cx}
def CU:V->List V->Hp->VK->Prop:=λx vs H Q=>∃(l:Addr)(xs:List V)(i:Int)(y:V),x = .ref l/\vs=[.int i,y]/\H l=some (.lst xs)/\0<=i/\i<=(xs.length:Int)/\xs.length<1000/\Q .non (z8 H l (.lst (xs.take i.toNat++y::xs.drop i.toNat)))
theorem BJ:MtM X "list.insert" CU:=by
 intro pins s σ H x vs v us Q I rx rv h;obtain ⟨l,xs,i,y,rfl,rfl,hH,h0,hi,hz,q⟩:=h;cases rx;obtain ⟨u,w',rfl,⟨t,rfl⟩,rw'⟩:=rv.two;obtain ⟨z,its,n,r,hl,e⟩:=I.lstM hH;have hfit:¬ (!Builtin.List.listFitsIndex i)=true:=by rw [fitsIndex_both (k:=i) (by omega) (by omega)];decide
 have hsz:its.toArray.size<=sizeLine:=by rw [yY,<- hl];exact z
 refine call_meets F.slot_list_insert ⟨_,e,rfl⟩ F.entry_list_insert (F.args_list_insert_3 _ _ _) (AutoSeq1.list_insert_list_int_val_1 l its.toArray n i t w' hfit hsz) ⟨e,?_⟩;refine ⟨.non,_,I.lset (its':=its.take i.toNat++w'::its.drop i.toNat) hH e ?_ ((r.take i.toNat).append (.cons rw' (r.drop i.toNat))) ?_,rfl,q⟩
 ·have e1:¬ (i<0):=by omega
  have e2:min i.toNat its.toArray.size=i.toNat:=by rw [yY];omega
  show (its.toArray.extract 0 (if i<0 then (i+(its.toArray.size:Int)).toNat else min i.toNat its.toArray.size)).push w'++its.toArray.extract (if i<0 then (i+(its.toArray.size:Int)).toNat else min i.toNat its.toArray.size)=_;rw [if_neg e1,e2];apply Array.toList_inj.mp;simp [List.extract_eq_take_drop]
  try exact uw (by rw [uF];exact yS _)
 ·rw [yL,yw,uG,uF];have:=vD (n:=1000) (yS _);omega
end
end L2
namespace L2
open PySem PySem.Spec PyProof.Rows PySem.SeqAt
variable{x y:V}{A:Around}{s:Shared}{u v:Value}{l:Addr}{items:Array Value}{n:Nat}{b:Bool}{K:Fg}
def EqP (K:Fg)(H:Hp):Nat->V->V->Bool->Prop
 |0,x,y,b=>u4 x=true/\u4 y=true/\b=h8 x y
 |n+1,x,y,b=>(u4 x=true/\u4 y=true/\b=h8 x y) ∨
  (∃(a c:Addr)(xs ys:List V),x = .ref a/\y = .ref c/\SqL K H a xs/\SqL K H c ys/\((xs.length≠ys.length/\b=false)∨(xs.length=ys.length/\∃ e:Nat->Bool,(∀ j (h1:j<xs.length) (h2:j<ys.length),EqP K H n xs[j] ys[j] (e j))/\b=(List.range xs.length).all e))) ∨
  (∃(a c:Addr)(xs ys:List V),x = .ref a/\y = .ref c/\SqT K H a xs/\SqT K H c ys/\∃ e:Nat->Bool,(∀ j (h1:j<xs.length) (h2:j<ys.length),EqP K H n xs[j] ys[j] (e j))/\b=((List.range (min xs.length ys.length)).all e&&xs.length==ys.length)) ∨
  (∃(a c:Addr)(xs ys:List V),x = .ref a/\y = .ref c/\SqL K H a xs/\SqT K H c ys/\b=false) ∨
  (∃(a c:Addr)(xs ys:List V),x = .ref a/\y = .ref c/\SqT K H a xs/\SqL K H c ys/\b=false) ∨
  (∃(c:Addr)(ys:List V),u4 x=true/\y = .ref c/\(SqL K H c ys∨SqT K H c ys)/\b=false) ∨
  (∃(a:Addr)(xs:List V),u4 y=true/\x = .ref a/\(SqL K H a xs∨SqT K H a xs)/\b=false)
theorem Qn (h:u4 x=true):h8 x x=true:=by cases x<;>first|rfl|exact beq_self_eq_true _|cases h
theorem YT (ry:RelV y u)(rx:RelV x v)(fy:u4 y=true)(fx:u4 x=true):RcAt A s u v (h8 y x):=by
 cases y with
 |non =>
  cases ry;cases x with
  |non=>cases rx;exact RcAt.none_none
  |bl b=>cases rx;exact RcAt.none_bool b
  |int b=>obtain ⟨t2,rfl⟩:=rx;exact RcAt.none_int b t2
  |str b=>obtain ⟨t2,rfl⟩:=rx;exact RcAt.none_str b t2
  |_=>exact absurd (show false=true from fx) yW
 |bl a =>
  cases ry;cases x with
  |non=>cases rx;exact RcAt.bool_none a
  |bl b=>cases rx;exact RcAt.bool_bool a b
  |int b=>obtain ⟨t2,rfl⟩:=rx;exact RcAt.bool_int a b t2
  |str b=>obtain ⟨t2,rfl⟩:=rx;exact RcAt.bool_str a b t2
  |_=>exact absurd (show false=true from fx) yW
 |int a =>
  obtain ⟨t1,rfl⟩:=ry;cases x with
  |non=>cases rx;exact RcAt.int_none a t1
  |bl b=>cases rx;exact RcAt.int_bool a t1 b
  |int b=>obtain ⟨t2,rfl⟩:=rx;exact RcAt.int_int a t1 b t2
  |str b=>obtain ⟨t2,rfl⟩:=rx;exact RcAt.int_str a t1 b t2
  |_=>exact absurd (show false=true from fx) yW
 |str a =>
  obtain ⟨t1,rfl⟩:=ry;cases x with
  |non=>cases rx;exact RcAt.str_none a t1
  |bl b=>cases rx;exact RcAt.str_bool a t1 b
  |int b=>obtain ⟨t2,rfl⟩:=rx;exact RcAt.str_int a t1 b t2
  |str b=>obtain ⟨t2,rfl⟩:=rx;exact RcAt.str_str a t1 b t2
  |_=>exact absurd (show false=true from fx) yW
 |_=>exact absurd (show false=true from fy) yW
theorem YU (ry:RelV y u)(rx:RelV x v)(fy:u4 y=true)(fx:u4 x=true):RcNeAt A s u v (!h8 y x):=by
 cases y with
 |non =>
  cases ry;cases x with
  |non=>cases rx;exact RcNeAt.none_none
  |bl b=>cases rx;exact RcNeAt.none_bool b
  |int b=>obtain ⟨t2,rfl⟩:=rx;exact RcNeAt.none_int b t2
  |str b=>obtain ⟨t2,rfl⟩:=rx;exact RcNeAt.none_str b t2
  |_=>exact absurd (show false=true from fx) yW
 |bl a =>
  cases ry;cases x with
  |non=>cases rx;exact RcNeAt.bool_none a
  |bl b=>cases rx;exact RcNeAt.bool_bool a b
  |int b=>obtain ⟨t2,rfl⟩:=rx;exact RcNeAt.bool_int a b t2
  |str b=>obtain ⟨t2,rfl⟩:=rx;exact RcNeAt.bool_str a b t2
  |_=>exact absurd (show false=true from fx) yW
 |int a =>
  obtain ⟨t1,rfl⟩:=ry;cases x with
  |non=>cases rx;exact RcNeAt.int_none a t1
  |bl b=>cases rx;exact RcNeAt.int_bool a t1 b
  |int b=>obtain ⟨t2,rfl⟩:=rx;exact RcNeAt.int_int a t1 b t2
  |str b=>obtain ⟨t2,rfl⟩:=rx;exact RcNeAt.int_str a t1 b t2
  |_=>exact absurd (show false=true from fx) yW
 |str a =>
  obtain ⟨t1,rfl⟩:=ry;cases x with
  |non=>cases rx;exact RcNeAt.str_none a t1
  |bl b=>cases rx;exact RcNeAt.str_bool a t1 b
  |int b=>obtain ⟨t2,rfl⟩:=rx;exact RcNeAt.str_int a t1 b t2
  |str b=>obtain ⟨t2,rfl⟩:=rx;exact RcNeAt.str_str a t1 b t2
  |_=>exact absurd (show false=true from fx) yW
 |_=>exact absurd (show false=true from fy) yW
theorem Ke (hl:s.heap.IsList l items)(hu:A.units<cLine)(ry:RelV y u)(fy:u4 y=true):EqAt A s u (.ref l) false:=by
 cases y with
 |non=>cases ry;exact EqAt.none_list hl hu
 |bl a=>cases ry;exact EqAt.bool_list a hl hu
 |int a=>obtain ⟨t1,rfl⟩:=ry;exact EqAt.int_list a t1 hl hu
 |str a=>obtain ⟨t1,rfl⟩:=ry;exact EqAt.str_list a t1 hl hu
 |_=>exact absurd (show false=true from fy) yW
theorem Kg (hl:s.heap.IsList l items)(hu:A.units<cLine)(ry:RelV y u)(fy:u4 y=true):EqAt A s (.ref l) u false:=by
 cases y with
 |non=>cases ry;exact EqAt.list_none hl hu
 |bl a=>cases ry;exact EqAt.list_bool a hl hu
 |int a=>obtain ⟨t1,rfl⟩:=ry;exact EqAt.list_int a t1 hl hu
 |str a=>obtain ⟨t1,rfl⟩:=ry;exact EqAt.list_str a t1 hl hu
 |_=>exact absurd (show false=true from fy) yW
theorem Kf (hl:s.heap.IsTuple l items)(hu:A.units<cLine)(ry:RelV y u)(fy:u4 y=true):EqAt A s u (.ref l) false:=by
 cases y with
 |non=>cases ry;exact EqAt.none_tuple hl hu
 |bl a=>cases ry;exact EqAt.bool_tuple a hl hu
 |int a=>obtain ⟨t1,rfl⟩:=ry;exact EqAt.int_tuple a t1 hl hu
 |str a=>obtain ⟨t1,rfl⟩:=ry;exact EqAt.str_tuple a t1 hl hu
 |_=>exact absurd (show false=true from fy) yW
theorem Kh (hl:s.heap.IsTuple l items)(hu:A.units<cLine)(ry:RelV y u)(fy:u4 y=true):EqAt A s (.ref l) u false:=by
 cases y with
 |non=>cases ry;exact EqAt.tuple_none hl hu
 |bl a=>cases ry;exact EqAt.tuple_bool a hl hu
 |int a=>obtain ⟨t1,rfl⟩:=ry;exact EqAt.tuple_int a t1 hl hu
 |str a=>obtain ⟨t1,rfl⟩:=ry;exact EqAt.tuple_str a t1 hl hu
 |_=>exact absurd (show false=true from fy) yW
theorem CW (hl:s.heap.IsList l items)(hu:A.units<cLine)(ry:RelV y u)(fy:u4 y=true):RcAt A s u (.ref l) false:=by
 cases y with
 |non=>cases ry;exact RcAt.none_list hl hu
 |bl a=>cases ry;exact RcAt.bool_list a hl hu
 |int a=>obtain ⟨t1,rfl⟩:=ry;exact RcAt.int_list a t1 hl hu
 |str a=>obtain ⟨t1,rfl⟩:=ry;exact RcAt.str_list a t1 hl hu
 |_=>exact absurd (show false=true from fy) yW
theorem CZ (hl:s.heap.IsList l items)(hu:A.units<cLine)(ry:RelV y u)(fy:u4 y=true):RcAt A s (.ref l) u false:=by
 cases y with
 |non=>cases ry;exact RcAt.list_none hl hu
 |bl a=>cases ry;exact RcAt.list_bool a hl hu
 |int a=>obtain ⟨t1,rfl⟩:=ry;exact RcAt.list_int a t1 hl hu
 |str a=>obtain ⟨t1,rfl⟩:=ry;exact RcAt.list_str a t1 hl hu
 |_=>exact absurd (show false=true from fy) yW
theorem CY (hl:s.heap.IsTuple l items)(hu:A.units<cLine)(ry:RelV y u)(fy:u4 y=true):RcAt A s u (.ref l) false:=by
 cases y with
 |non=>cases ry;exact RcAt.none_tuple hl hu
 |bl a=>cases ry;exact RcAt.bool_tuple a hl hu
 |int a=>obtain ⟨t1,rfl⟩:=ry;exact RcAt.int_tuple a t1 hl hu
 |str a=>obtain ⟨t1,rfl⟩:=ry;exact RcAt.str_tuple a t1 hl hu
 |_=>exact absurd (show false=true from fy) yW
theorem Da (hl:s.heap.IsTuple l items)(hu:A.units<cLine)(ry:RelV y u)(fy:u4 y=true):RcAt A s (.ref l) u false:=by
 cases y with
 |non=>cases ry;exact RcAt.tuple_none hl hu
 |bl a=>cases ry;exact RcAt.tuple_bool a hl hu
 |int a=>obtain ⟨t1,rfl⟩:=ry;exact RcAt.tuple_int a t1 hl hu
 |str a=>obtain ⟨t1,rfl⟩:=ry;exact RcAt.tuple_str a t1 hl hu
 |_=>exact absurd (show false=true from fy) yW
theorem Db (hl:s.heap.IsList l items)(hu:A.units<cLine)(ry:RelV y u)(fy:u4 y=true):RcNeAt A s u (.ref l) true:=by
 cases y with
 |non=>cases ry;exact RcNeAt.none_list hl hu
 |bl a=>cases ry;exact RcNeAt.bool_list a hl hu
 |int a=>obtain ⟨t1,rfl⟩:=ry;exact RcNeAt.int_list a t1 hl hu
 |str a=>obtain ⟨t1,rfl⟩:=ry;exact RcNeAt.str_list a t1 hl hu
 |_=>exact absurd (show false=true from fy) yW
theorem Dd (hl:s.heap.IsList l items)(hu:A.units<cLine)(ry:RelV y u)(fy:u4 y=true):RcNeAt A s (.ref l) u true:=by
 cases y with
 |non=>cases ry;exact RcNeAt.list_none hl hu
 |bl a=>cases ry;exact RcNeAt.list_bool a hl hu
 |int a=>obtain ⟨t1,rfl⟩:=ry;exact RcNeAt.list_int a t1 hl hu
 |str a=>obtain ⟨t1,rfl⟩:=ry;exact RcNeAt.list_str a t1 hl hu
 |_=>exact absurd (show false=true from fy) yW
theorem Dc (hl:s.heap.IsTuple l items)(hu:A.units<cLine)(ry:RelV y u)(fy:u4 y=true):RcNeAt A s u (.ref l) true:=by
 cases y with
 |non=>cases ry;exact RcNeAt.none_tuple hl hu
 |bl a=>cases ry;exact RcNeAt.bool_tuple a hl hu
 |int a=>obtain ⟨t1,rfl⟩:=ry;exact RcNeAt.int_tuple a t1 hl hu
 |str a=>obtain ⟨t1,rfl⟩:=ry;exact RcNeAt.str_tuple a t1 hl hu
 |_=>exact absurd (show false=true from fy) yW
theorem De (hl:s.heap.IsTuple l items)(hu:A.units<cLine)(ry:RelV y u)(fy:u4 y=true):RcNeAt A s (.ref l) u true:=by
 cases y with
 |non=>cases ry;exact RcNeAt.tuple_none hl hu
 |bl a=>cases ry;exact RcNeAt.tuple_bool a hl hu
 |int a=>obtain ⟨t1,rfl⟩:=ry;exact RcNeAt.tuple_int a t1 hl hu
 |str a=>obtain ⟨t1,rfl⟩:=ry;exact RcNeAt.tuple_str a t1 hl hu
 |_=>exact absurd (show false=true from fy) yW
section
variable {X:Cx}{pins:List (Addr×Obj)}{σ:St}{H:Hp}{s:Shared}
theorem Qm (I:Inv X pins σ H s):∀(n:Nat){x:V}{b:Bool},EqP X.K H n x x b->b=true
 |0,x,b,h=>by obtain ⟨h1,_,rfl⟩:=h;exact Qn h1
 |n+1,x,b,h=>by
  rcases h with ⟨h1,_,rfl⟩|⟨a,c,xs,ys,rfl,e2,p1,p2,h⟩|⟨a,c,xs,ys,rfl,e2,p1,p2,e,he,rfl⟩|⟨a,c,xs,ys,rfl,e2,p1,p2,_⟩|⟨a,c,xs,ys,rfl,e2,p1,p2,_⟩|⟨c,ys,f,rfl,_⟩|⟨c,ys,f,rfl,_⟩
  ·exact Qn h1
  ·cases e2;cases I.list_inj p1 p2;rcases h with ⟨h,_⟩|⟨_,e,he,rfl⟩
   ·exact absurd rfl h
   ·rw [uY];exact λj hj=>Qm I n (he j (uC.mp hj) (uC.mp hj))
  ·cases e2;cases I.tuple_inj p1 p2;rw [Nat.min_self,beq_self_eq_true,Bool.and_true,uY];exact λj hj=>Qm I n (he j (uC.mp hj) (uC.mp hj))
  ·cases e2;obtain ⟨_,_,⟨o1,_,q1,c1,_⟩,_⟩:=I.list p1;obtain ⟨_,_,⟨o2,q2,c2,_⟩,_⟩:=I.tuple p2;rw [q1] at q2;cases q2;rw [c1] at c2;exact absurd c2 (by decide)
  ·cases e2;obtain ⟨_,_,⟨o2,q2,c2,_⟩,_⟩:=I.tuple p1;obtain ⟨_,_,⟨o1,_,q1,c1,_⟩,_⟩:=I.list p2;rw [q1] at q2;cases q2;rw [c1] at c2;exact absurd c2 (by decide)
  ·cases f
  ·cases f
theorem vh (I:Inv X pins σ H s):∀(n:Nat)(A:Around){x y:V}{u v:Value}{b:Bool},A.units+n<cLine->EqP X.K H n x y b->RelV x u->RelV y v->EqAt A s u v b
 |0,A,x,y,u,v,b,hu,h,r1,r2=>by obtain ⟨h1,h2,rfl⟩:=h;exact Xw r1 r2 h1 h2
 |n+1,A,x,y,u,v,b,hu,h,r1,r2=>by
  have h':=h;rcases h with ⟨h1,h2,rfl⟩|⟨a,c,xs,ys,rfl,rfl,p1,p2,h⟩|⟨a,c,xs,ys,rfl,rfl,p1,p2,e,he,rfl⟩|⟨a,c,xs,ys,rfl,rfl,p1,p2,rfl⟩|⟨a,c,xs,ys,rfl,rfl,p1,p2,rfl⟩|⟨c,ys,f,rfl,p,rfl⟩|⟨c,ys,f,rfl,p,rfl⟩
  ·exact Xw r1 r2 h1 h2
  ·cases r1;cases r2;by_cases hac:a=c
   ·subst hac;have hb:=Qm I (n+1) h';rw [hb];exact EqAt.same _
   obtain ⟨us,v1,q1,_⟩:=I.list p1;obtain ⟨ws,v2,q2,_⟩:=I.list p2;have l1:=v1.length;have l2:=v2.length;refine EqAt.of_refs hac ?_;rcases h with ⟨h,rfl⟩|⟨hl,e,he,rfl⟩
   ·exact RcAt.lists_lengths q1.isList q2.isList (by rw [yY,yY];simp;omega) (by omega)
   ·have q:=RcAt.lists (A:=A) (s:=s) q1.isList q2.isList (by rw [yY,yY];omega) (by omega) (e:=e) (λj j1 j2=>?_)
    ·rw [yY,<- l1] at q;exact q
    ·have j1':j<us.length:=by simpa using j1
     have j2':j<ws.length:=by simpa using j2
     rw [yd,yd];exact vh I n A.in1 (by show A.units+1+n<cLine;omega) (he j (by omega) (by omega)) (xf v1 j (by omega) j1') (xf v2 j (by omega) j2')
  ·cases r1;cases r2;by_cases hac:a=c
   ·subst hac;have hb:=Qm I (n+1) h';rw [hb];exact EqAt.same _
   obtain ⟨us,v1,q1,_⟩:=I.tuple p1;obtain ⟨ws,v2,q2,_⟩:=I.tuple p2;have l1:=v1.length;have l2:=v2.length;refine EqAt.of_refs hac ?_;have q:=RcAt.tuples (A:=A) (s:=s) q1 q2 (by omega) (e:=e) (λj j1 j2=>?_)
   ·rw [yY,yY,<- l1,<- l2] at q;exact q
   ·have j1':j<us.length:=by simpa using j1
    have j2':j<ws.length:=by simpa using j2
    rw [yd,yd];exact vh I n A.in1 (by show A.units+1+n<cLine;omega) (he j (by omega) (by omega)) (xf v1 j (by omega) j1') (xf v2 j (by omega) j2')
  ·cases r1;cases r2;obtain ⟨us,v1,q1,_⟩:=I.list p1;obtain ⟨ws,v2,q2,_⟩:=I.tuple p2;exact EqAt.list_tuple q1.isList q2 (by omega)
  ·cases r1;cases r2;obtain ⟨us,v1,q1,_⟩:=I.tuple p1;obtain ⟨ws,v2,q2,_⟩:=I.list p2;exact EqAt.tuple_list q1 q2.isList (by omega)
  ·cases r2;rcases p with p|p
   ·obtain ⟨us,v1,q1,_⟩:=I.list p;exact Ke q1.isList (by omega) r1 f
   ·obtain ⟨us,v1,q1,_⟩:=I.tuple p;exact Kf q1 (by omega) r1 f
  ·cases r1;rcases p with p|p
   ·obtain ⟨us,v1,q1,_⟩:=I.list p;exact Kg q1.isList (by omega) r2 f
   ·obtain ⟨us,v1,q1,_⟩:=I.tuple p;exact Kh q1 (by omega) r2 f
theorem rc_at (I:Inv X pins σ H s)(hu:A.units+n<cLine)(h:EqP X.K H n x y b)(r1:RelV x u)(r2:RelV y v):RcAt A s u v b:=by
 cases n with
 |zero=>obtain ⟨h1,h2,rfl⟩:=h;exact YT r1 r2 h1 h2
 |succ n =>
  rcases h with ⟨h1,h2,rfl⟩|⟨a,c,xs,ys,rfl,rfl,p1,p2,h⟩|⟨a,c,xs,ys,rfl,rfl,p1,p2,e,he,rfl⟩|⟨a,c,xs,ys,rfl,rfl,p1,p2,rfl⟩|⟨a,c,xs,ys,rfl,rfl,p1,p2,rfl⟩|⟨c,ys,f,rfl,p,rfl⟩|⟨c,ys,f,rfl,p,rfl⟩
  ·exact YT r1 r2 h1 h2
  ·cases r1;cases r2;obtain ⟨us,v1,q1,_⟩:=I.list p1;obtain ⟨ws,v2,q2,_⟩:=I.list p2;have l1:=v1.length;have l2:=v2.length;rcases h with ⟨h,rfl⟩|⟨hl,e,he,rfl⟩
   ·exact RcAt.lists_lengths q1.isList q2.isList (by rw [yY,yY];simp;omega) (by omega)
   ·have q:=RcAt.lists (A:=A) (s:=s) q1.isList q2.isList (by rw [yY,yY];omega) (by omega) (e:=e) (λj j1 j2=>?_)
    ·rw [yY,<- l1] at q;exact q
    ·have j1':j<us.length:=by simpa using j1
     have j2':j<ws.length:=by simpa using j2
     rw [yd,yd];exact vh I n A.in1 (by show A.units+1+n<cLine;omega) (he j (by omega) (by omega)) (xf v1 j (by omega) j1') (xf v2 j (by omega) j2')
  ·cases r1;cases r2;obtain ⟨us,v1,q1,_⟩:=I.tuple p1;obtain ⟨ws,v2,q2,_⟩:=I.tuple p2;have l1:=v1.length;have l2:=v2.length;have q:=RcAt.tuples (A:=A) (s:=s) q1 q2 (by omega) (e:=e) (λj j1 j2=>?_)
   ·rw [yY,yY,<- l1,<- l2] at q;exact q
   ·have j1':j<us.length:=by simpa using j1
    have j2':j<ws.length:=by simpa using j2
    rw [yd,yd];exact vh I n A.in1 (by show A.units+1+n<cLine;omega) (he j (by omega) (by omega)) (xf v1 j (by omega) j1') (xf v2 j (by omega) j2')
  ·cases r1;cases r2;obtain ⟨us,v1,q1,_⟩:=I.list p1;obtain ⟨ws,v2,q2,_⟩:=I.tuple p2;exact RcAt.list_tuple q1.isList q2 (by omega)
  ·cases r1;cases r2;obtain ⟨us,v1,q1,_⟩:=I.tuple p1;obtain ⟨ws,v2,q2,_⟩:=I.list p2;exact RcAt.tuple_list q1 q2.isList (by omega)
  ·cases r2;rcases p with p|p
   ·obtain ⟨us,v1,q1,_⟩:=I.list p;exact CW q1.isList (by omega) r1 f
   ·obtain ⟨us,v1,q1,_⟩:=I.tuple p;exact CY q1 (by omega) r1 f
  ·cases r1;rcases p with p|p
   ·obtain ⟨us,v1,q1,_⟩:=I.list p;exact CZ q1.isList (by omega) r2 f
   ·obtain ⟨us,v1,q1,_⟩:=I.tuple p;exact Da q1 (by omega) r2 f
theorem Df (I:Inv X pins σ H s)(hu:A.units+n<cLine)(h:EqP X.K H n x y b)(r1:RelV x u)(r2:RelV y v):RcNeAt A s u v (!b):=by
 cases n with
 |zero=>obtain ⟨h1,h2,rfl⟩:=h;exact YU r1 r2 h1 h2
 |succ n =>
  rcases h with ⟨h1,h2,rfl⟩|⟨a,c,xs,ys,rfl,rfl,p1,p2,h⟩|⟨a,c,xs,ys,rfl,rfl,p1,p2,e,he,rfl⟩|⟨a,c,xs,ys,rfl,rfl,p1,p2,rfl⟩|⟨a,c,xs,ys,rfl,rfl,p1,p2,rfl⟩|⟨c,ys,f,rfl,p,rfl⟩|⟨c,ys,f,rfl,p,rfl⟩
  ·exact YU r1 r2 h1 h2
  ·cases r1;cases r2;obtain ⟨us,v1,q1,_⟩:=I.list p1;obtain ⟨ws,v2,q2,_⟩:=I.list p2;have l1:=v1.length;have l2:=v2.length;rcases h with ⟨h,rfl⟩|⟨hl,e,he,rfl⟩
   ·exact RcNeAt.lists_lengths q1.isList q2.isList (by rw [yY,yY];simp;omega) (by omega)
   ·have q:=RcNeAt.lists (A:=A) (s:=s) q1.isList q2.isList (by rw [yY,yY];omega) (by omega) (e:=e) (λj j1 j2=>?_)
    ·rw [yY,<- l1] at q;exact q
    ·have j1':j<us.length:=by simpa using j1
     have j2':j<ws.length:=by simpa using j2
     rw [yd,yd];exact vh I n A.in1 (by show A.units+1+n<cLine;omega) (he j (by omega) (by omega)) (xf v1 j (by omega) j1') (xf v2 j (by omega) j2')
  ·cases r1;cases r2;obtain ⟨us,v1,q1,_⟩:=I.tuple p1;obtain ⟨ws,v2,q2,_⟩:=I.tuple p2;have l1:=v1.length;have l2:=v2.length;have q:=RcNeAt.tuples (A:=A) (s:=s) q1 q2 (by omega) (e:=e) (λj j1 j2=>?_)
   ·rw [yY,yY,<- l1,<- l2] at q;exact q
   ·have j1':j<us.length:=by simpa using j1
    have j2':j<ws.length:=by simpa using j2
    rw [yd,yd];exact vh I n A.in1 (by show A.units+1+n<cLine;omega) (he j (by omega) (by omega)) (xf v1 j (by omega) j1') (xf v2 j (by omega) j2')
  ·cases r1;cases r2;obtain ⟨us,v1,q1,_⟩:=I.list p1;obtain ⟨ws,v2,q2,_⟩:=I.tuple p2;exact RcNeAt.list_tuple q1.isList q2 (by omega)
  ·cases r1;cases r2;obtain ⟨us,v1,q1,_⟩:=I.tuple p1;obtain ⟨ws,v2,q2,_⟩:=I.list p2;exact RcNeAt.tuple_list q1 q2.isList (by omega)
  ·cases r2;rcases p with p|p
   ·obtain ⟨us,v1,q1,_⟩:=I.list p;exact Db q1.isList (by omega) r1 f
   ·obtain ⟨us,v1,q1,_⟩:=I.tuple p;exact Dc q1 (by omega) r1 f
  ·cases r1;rcases p with p|p
   ·obtain ⟨us,v1,q1,_⟩:=I.list p;exact Dd q1.isList (by omega) r2 f
   ·obtain ⟨us,v1,q1,_⟩:=I.tuple p;exact De q1 (by omega) r2 f
def rEqD (K:Fg)(n:Nat)(neg:Bool):R2:=λx y H Q=>∃ b,EqP K H n x y b/\Q (.bl (if neg then !b else b)) H
theorem xq (hu:X.A.units+n<cLine)(hK:X.K=K):OpR X (compareOp .Eq) (rEqD K n false):=by subst hK;intro pins s σ H x y v u Q I rx ry h;obtain ⟨b,h,q⟩:=h;exact rc_at I hu h rx ry X.prog X.w X.xe _ ⟨.bl b,H,I,rfl,q⟩
theorem xN (hu:X.A.units+n<cLine)(hK:X.K=K):OpR X (compareOp .NotEq) (rEqD K n true):=by subst hK;intro pins s σ H x y v u Q I rx ry h;obtain ⟨b,h,q⟩:=h;exact Df I hu h rx ry X.prog X.w X.xe _ ⟨.bl (!b),H,I,rfl,q⟩
theorem i7 {k:Nat}(hr:Room k A):A.units+6<cLine:=by have:=hr.units;omega
end
end L2
namespace L2
open PySem PySem.Spec PyProof.Rows
section
variable {X:Cx}{K:Fg}
def rAddS:R2:=λx y H Q=>∃ i j,x = .str i/\y = .str j/\i.length+j.length<=sizeLine/\Q (.str (i++j)) H
def Zs (K:Fg):R2:=λx y H Q=>(rI0 λi j=> .int (i+j)) x y H Q∨rAddS x y H Q∨YI K x y H Q∨YJ K x y H Q
theorem xc (h:X.K=K):OpR X (binaryOp .Add) (Zs K):=by subst h;exact op_add.or (op_add_str.or (op_catL.or PZ))
theorem Bg (h:X.K=K):IxR X (rIx K):=by subst h;exact Bf
def vB (K:Fg):List V->Hp->VK->Prop:=λxs H Q=>(∃ x n,xs=[x]/\LenV K x H n/\Q (.int n) H)∨∃ a kvs,xs=[V.ref a]/\H a=some (.dK kvs)/\Q (.int kvs.length) H
theorem i0 (h:X.K=K):CallR X (.builtin "len") (vB K):=by subst h;exact CallR.or (f:= .builtin "len") Gy Gz
theorem CQ {a:Expr}{ta:TE}(h:X.K=K)(ha:PE X a ta)(he:∀ whole,isTrue a X.env whole=(do let v <- whole;standAt a.pos;holding [v] (truthy v))):PT X a (λσ H Q=>ta σ H λx H'=>∃ k,TruV K x H' k/\Q k H'):=by subst h;exact CS ha he
theorem Yo (h:X.K=K):OpR X (compareOp .In) (rIn K false):=by subst h;exact Ca
theorem Ce (h:X.K=K):OpR X (compareOp .NotIn) (rIn K true):=by subst h;exact Cd
def YN (K:Fg):List V->Hp->VK->Prop:=λxs H Q=>∃ p ys,xs=[.ref p]/\(SqL K H p ys∨SqT K H p ys)/\∀ l,H l=none->Q (.ref l) (z8 H l (.lst ys))
theorem vN (h:X.K=K):CallR X (.type "list") (YN K):=by subst h;exact GD
def rIsi (K:Fg):List V->Hp->VK->Prop:=λxs H Q=>∃ x n T b,xs=[x,.ty n]/\qF K H x (.type T)/\tyB T n=some b/\Q (.bl b) H
theorem xG (h:X.K=K):CallR X (.builtin "isinstance") (rIsi K):=by subst h;exact Gx
def YH (K:Fg):List V->Hp->VK->Prop:=λxs H Q=>∃(a:Addr)(bs:List Bool),xs=[.ref a]/\SqL K H a (bs.map V.bl)/\Q (.bl (bs.all id)) H
theorem jr (hc:X.calm=true)(h:X.K=K):CallR X (.builtin "all") (YH K):=by subst h;exact Gv hc
def rIsN:R2:=λx y H Q=>y = .non/\Q (.bl (decide (x = .non))) H
def YO:R2:=λx y H Q=>y = .non/\Q (.bl (!decide (x = .non))) H
theorem Yp:OpR X (compareOp .Is) rIsN:=Cb
theorem Yr:OpR X (compareOp .IsNot) YO:=Cf
theorem Gr:bootBuiltins "tuple"=some (.type "tuple"):=by decide +kernel
theorem Gq:bootBuiltins "sorted"=some (.builtin "sorted"):=by decide +kernel
theorem Xn:bootBuiltins "dict"=some (.type "dict"):=by decide +kernel
theorem ML:tyB "tuple" "tuple"=some true:=by decide +kernel
end
section
variable {X:Cx}{K:Fg}{o e:Expr}{es:List Expr}{to:TE}{t:TA}{name:Str}{apos cpos:Pos}{T id:String}{r:V->List V->Hp->VK->Prop}
theorem Cn (hK:X.K=K)(pa:PlainAttrs T)(slot:Slot T name id)(hty:typeOf (.builtin id)=pure (.type "method_descriptor"))(hm:MtR X id r)(ho:PE X o to)(hbase:attributeBase o name X.env (eval o X.env)=eval o X.env:=by rfl)(hline:(apos.endLine==cpos.line)=true:=by rfl):PE X (.Call (.Attribute o name apos) [] [] cpos) (tBM0 K T r to):=by subst hK;exact Cm pa slot hty hm ho hbase hline
theorem zh (hK:X.K=K)(pa:PlainAttrs T)(slot:Slot T name id)(hty:typeOf (.builtin id)=pure (.type "method_descriptor"))(hm:MtR X id r)(ho:PE X o to)(ha:PA X (e::es) t)(hbase:attributeBase o name X.env (eval o X.env)=eval o X.env:=by rfl)(hfew:((backTo cpos (starEach (e::es) X.env)).all (λx=>!x.1)&&(backToKw cpos (keywordEach [] X.env)).all (λx=>x.1.isSome)&&decide ((e::es).length+([]:List Keyword).length+(if ([]:List Keyword).isEmpty then 0 else 1)<30))=true:=by rfl)(hline:(apos.endLine==cpos.line)=true:=by rfl)(hs:starEach (e::es) X.env=(false,eval e X.env)::starEach es X.env:=by rfl)(hplain:(backTo cpos (starEach es X.env)).any (·.1)=false:=by rfl):PE X (.Call (.Attribute o name apos) (e::es) [] cpos) (tBM K T r to t):=by subst hK;exact pe_bm pa slot hty hm ho ha hbase hfew hline hs hplain
end
end L2
namespace L2
open PySem PySem.Spec PySem.Calls
variable{h:Heap}{a:Addr}{n:Nat}{A:Around}
section
variable {P:Program}{w:World}{κ:Type}[DecidableEq κ]{knd:PySem.KeyKind P w κ}
def b8 (val:Nat->κ):Nat->List κ
 |0=>[]
 |i+1=>if val i∈b8 val i then b8 val i else b8 val i++[val i]
theorem Uj (val:Nat->κ):∀ i,(b8 val i).length<=i
 |0=>yS _
 |i+1=>by
  have ih:=Uj val i;unfold b8;split
  ·omega
  ·rw [yL,List.length_singleton];omega
theorem Ul {S S':κ->Bool}{n':Nat}(x:h.SetOf knd a S n)(e:∀ k,S k=S' k)(en:n=n'):h.SetOf knd a S' n':=by cases (funext e:S=S');cases en;exact x
theorem Jw {h':Heap}{S:κ->Bool}(x:h.SetOf knd a S n)(e:∀ o,h.get? a=some o->h'.get? a=some o):h'.SetOf knd a S n:=by obtain ⟨o,es,ep,t,ho,r⟩:=x;exact ⟨o,es,ep,t,e _ ho,r⟩
theorem DY {R:Result->Shared->Prop}{I:Addr}{fp wr:List Addr}{G:Array GenState->Array GenState->Prop}{Pp:Nat->Value->Prop}{St:Nat->Shared->Prop}(W:WalksS P w A.in1 I fp wr G n Pp St)(a:Addr)(ha:a∉fp)(val:Nat->κ)(hv:∀ i v,Pp i v->knd.is (val i) v=true/\v.scannable=true)(hb:n+1<scanBound):∀ (m i:Nat) (s:Shared),n-i=m->i<=n->St i s->s.heap.SetOf knd a (λx=>decide (x∈b8 val i)) (b8 val i).length -> (∀ s',Moved (a::wr) G s s'->s'.heap.SetOf knd a (λx=>decide (x∈b8 val n)) (b8 val n).length->R (.ok (.ret .none)) s') -> codeAny (model P w) A (.builtin "set.update.loop" ⟨[.ref a,.ref I],[]⟩) R s:=by
 have haw:a∉wr:=λz=>ha (W.sub _ z);have up:∀ b∈wr,b∈a::wr:=λb z=>yT _ z;intro m
 induction m with
 |zero =>
  intro i s hm hi st hS hR;obtain rfl:i=n:=by omega
  refine codeAny_builtin PyProof.Rows.F.entry_set_update_loop ?_;rw [Around.under_plainId PyProof.Rows.F.plain_set_update_loop _];show wpAny _ A.in1 (pyNext (.ref I) >>= _) _ _ s;refine yR (W.done s _ _ st λs' mv=>?_);show wpAny _ A.in1 (ret Value.none) _ _ s';exact yx (hR s' (mv.mono up) (Jw hS λo e=>mv.heap a o haw e))
 |succ m ih =>
  intro i s hm hi st hS hR;have hlt:i<n:=by omega
  refine codeAny_builtin PyProof.Rows.F.entry_set_update_loop ?_;rw [Around.under_plainId PyProof.Rows.F.plain_set_update_loop _];show wpAny _ A.in1 (pyNext (.ref I) >>= _) _ _ s;refine yR (W.item i s _ _ hlt st λv s' hP st' mv=>?_);obtain ⟨hk,hsc⟩:=hv i v hP;have hS':s'.heap.SetOf knd a (λx=>decide (x∈b8 val i)) (b8 val i).length:=Jw hS λo e=>mv.heap a o haw e;show wpAny _ A.in1 (holding [v] (setAdd a v) >>= _) _ _ s';refine yR (wpAny_holding ?_);unfold setAdd;refine wpAny_holding (yR (knd.pyHash (k:=val i) hk ?_));have room:(b8 val i).length+1<scanBound:=by have:=Uj val i;omega
  refine wpAny_setAddHashed_of (knd:=knd) (s:={ s' with toks:=s'.toks+1 }) hk hsc hS' room λh' sb hS2=>?_;have hSi:h'.SetOf knd a (λx=>decide (x∈b8 val (i+1))) (b8 val (i+1)).length:=by
   refine Ul hS2 (λx=>?_) ?_
   ·by_cases hc:val i∈b8 val i
    ·rw [show b8 val (i+1)=b8 val i from if_pos hc];by_cases hx:x=val i
     ·subst hx;simp [hc]
     ·simp [hx]
    ·rw [show b8 val (i+1)=b8 val i++[val i] from if_neg hc];simp
   ·by_cases hc:val i∈b8 val i
    ·rw [show b8 val (i+1)=b8 val i from if_pos hc];simp [hc]
    ·rw [show b8 val (i+1)=b8 val i++[val i] from if_neg hc];simp [hc]
  refine yx ⟨plainId_quiet PyProof.Rows.F.plain_set_update_loop _,ih (i+1) _ (by omega) hlt (W.frame _ s' _ _ st' (ux _) λb z o e=>?_) hSi λs2 mv2 hS3=>?_⟩
  ·rw [sb.2 b (λq:b=a=>ha (by rw [<- q];exact z))];exact e
  ·refine hR s2 (Moved.trans W.gtrans ((mv.mono up).then_heap (ux _) λb o z e=>?_) mv2) hS3;rw [sb.2 b (λq:b=a=>z (by rw [q];exact yO))];exact e
theorem GG {E:Value->Shared->Prop}{s:Shared}{l:Addr}{its:Array Value}{val:Nat->κ}{Q:Value->Shared->Prop}(hh:A.handled=none)(hl:s.heap.IsList l its)(hv:∀ (i:Nat) (v:Value),its[i]?=some v->knd.is (val i) v=true/\v.scannable=true)(hb:its.size+1<scanBound)(h:∀ (h':Heap) (tk:Nat),h'.SetOf knd s.heap.objs.size (λx=>decide (x∈b8 val its.size)) (b8 val its.size).length -> (∀ b o,s.heap.get? b=some o->h'.get? b=some o)->Q (.ref s.heap.objs.size) { s with heap:=h',toks:=tk }):wpAny (model P w) A (call (.type "set") [.ref l]) Q E s:=by
 obtain ⟨c,tl,hmro⟩:=PySem.F.called_set.mro;have hmade:=PySem.F.called_set.made;have hsub:=PySem.F.called_set.sub;refine wpAny_call (codeAny_of_tree ?_);show wpAny _ _ (callAny (.type "set") _) _ _ _;refine yx ⟨Code.quiet_builtin _ (by decide +kernel),codeAny_builtin PySem.F.entry_type_call ?_⟩;rw [Around.under_plain (weight_type_call_type "set" [.ref l] []) rfl];have q1:=PySem.F.called_set.notType;have q2:=PySem.F.called_set.canCreate;have q3:=PySem.F.typeCall_set_1 (.ref l)
 (repeat (any_goals (first|assumption|wp_step)))
 refine codeAny_mono (code_set_new_1 (.ref l) (E:=E) (Q₁:=λob s1=>∃ led:Bool,ob = .ref s.heap.objs.size/\s1={ s with heap:=s.heap.push { cls:= .type "set",dict:=none,data:= .set #[] 0 (.fresh 0 0 led) } }) λled=>⟨led,rfl,rfl⟩) λr s1 hr=>?_;cases r with
 |error e=>exact hr
 |ok fl =>
  cases fl with
  |ret ob =>
   obtain ⟨led,rfl,rfl⟩:=hr;have hS:(s.heap.push { cls:= .type "set",dict:=none,data:= .set #[] 0 (.fresh 0 0 led) }).get? s.heap.objs.size=some { cls:= .type "set",dict:=none,data:= .set #[] 0 (.fresh 0 0 led) }:=yA _ rfl;have hT:Shared.TypeIs { s with heap:=s.heap.push { cls:= .type "set",dict:=none,data:= .set #[] 0 (.fresh 0 0 led) } } (.ref s.heap.objs.size) "set":=⟨_,hS,rfl⟩;have hli:=PySem.F.called_set.init.lookup;have hbi:=PySem.F.called_set.init.bind (.ref s.heap.objs.size)
   (repeat (any_goals (first|assumption|wp_step)))
   refine codeAny_mono (codeAny_call_builtin (R:=wants (λr s2=>r = .none/\∃ h' tk,s2={ s with heap:=h',toks:=tk }/\h'.SetOf knd s.heap.objs.size (λx=>decide (x∈b8 val its.size)) (b8 val its.size).length /\
     (∀ b o,s.heap.get? b=some o->h'.get? b=some o)) E) PySem.F.called_set.init.plain PySem.F.entry_set_init (check_set_init_1 hT ?_)) λr2 s2 hr2=>?_
   ·obtain ⟨ol,hol,hcl,nl,hdl⟩:=hl;obtain ⟨ocls,odict,odata,oslots⟩:=ol;simp only at hcl hdl;subst hcl;subst hdl;have hol':(s.heap.push { cls:= .type "set",dict:=none,data:= .set #[] 0 (.fresh 0 0 led) }).get? l=some { cls:= .type "list",dict:=odict,data:= .seq its nl,slots:=oslots }:=yX _ hol;have z1:=PySem.F.sub_list_set;have z2:=PySem.F.sub_list_frozenset;have z3:(Value.type "list" == Value.type "dict")=false:=by decide
    have hl1:(s.heap.push { cls:= .type "set",dict:=none,data:= .set #[] 0 (.fresh 0 0 led) }).IsList l its:=⟨_,hol',rfl,nl,rfl⟩;unfold Builtin.«set.__init__» noKeywords Builtin.Frozenset.updateFrom;generalize hPI:pyIter=PI
    wp_walk
    subst hPI;refine wpAny_pyIter_list hl1 ?_;refine yR (wpAny_runValue ?_);have hlS:l<s.heap.objs.size:=yP hol;have h3:A.in1.in1.in1.handled=none:=by simp [hh]
    have ne1:l≠(s.heap.push { cls:= .type "set",dict:=none,data:= .set #[] 0 (.fresh 0 0 led) }).objs.size:=by rw [uM];exact yJ (Nat.lt_succ_of_lt hlS)
    have ne2:s.heap.objs.size∉[(s.heap.push { cls:= .type "set",dict:=none,data:= .set #[] 0 (.fresh 0 0 led) }).objs.size,l]:=by rw [uM];simp only [yM,ya,or_false,not_or];exact ⟨yJ (uH _),Nat.ne_of_gt hlS⟩
    refine DY (knd:=knd) ((Walks.list h3 _ l ne1 its).toS) s.heap.objs.size ne2 val hv hb (its.size-0) 0 _ (by omega) (yh _) ⟨⟨_,yA _ rfl,rfl,rfl⟩,(hl1.push _)⟩ ?_ ?_
    ·have hg:((s.heap.push { cls:= .type "set",dict:=none,data:= .set #[] 0 (.fresh 0 0 led) }).push { cls:= .type "list_iterator",data:= .fields #[.ref l,.int 0 0] }).get? s.heap.objs.size=some { cls:= .type "set",dict:=none,data:= .set #[] 0 (.fresh 0 0 led) }:=yX _ hS;exact Ul ((PyProof.Rows.setObjOf_fresh (knd:=knd) led).setOf hg (by unfold scanBound;omega)) (λx=>by simp [b8]) rfl
    ·rintro ⟨h',g',d',tk',os'⟩ mv hS';have eg:g'=s.gens:=mv.gens;have ed:d'=s.drawn:=mv.drawn;have eo:os'=s.os:=mv.os;subst eg ed eo;show wpAny _ _ _ _ _ _;refine yx ?_;show wpAny _ _ (ret Value.none) _ _ _;refine yx ⟨rfl,h',tk',rfl,hS',λb o e=>?_⟩;have hb0:=yP e;refine mv.heap b o ?_ (yX _ (yX _ e));rw [uM];simp only [yM,ya,or_false,not_or];exact ⟨yJ hb0,yJ (Nat.lt_succ_of_lt hb0)⟩
   ·cases r2 with
    |error e=>exact hr2
    |ok fl2 =>
     cases fl2 with
     |ret r =>
      obtain ⟨rfl,h',tk,rfl,hS',hk'⟩:=hr2
      (repeat (any_goals (first|assumption|wp_step)))
      exact h _ _ hS' hk'
     |_=>exact False.elim hr2
  |_=>exact False.elim hr
end
def jo (n:Nat)(a:Addr):HO:= .ext λh=>∃(P:Program)(w:World)(S:z9->Bool),h.SetOf (e7 P w) a S n
section
variable {X:Cx}
theorem Lm {ss:List Str}{us:List Value}(r:Vals (ss.map V.str) us):∀(i:Nat)(v:Value),us[i]?=some v->∃ x t,ss[i]?=some x/\v = .str x t:=by
 have key:∀(ss:List Str)(us:List Value),Vals (ss.map V.str) us->∀(i:Nat)(v:Value),us[i]?=some v->∃ x t,ss[i]?=some x/\v = .str x t:=by
  intro ss
  induction ss with
  |nil=>intro us r i v e;cases r;simp at e
  |cons s ss ih =>
   intro us r i v e;cases r with
   |cons p q =>
    cases i with
    |zero=>obtain ⟨t,rfl⟩:=p;simp at e;exact ⟨s,t,rfl,e.symm⟩
    |succ i=>exact ih _ q i v (by simpa using e)
 intro i v e;exact key ss us r i v e
theorem GF (hc:X.calm=true):CallR X (.type "set") (λxs H Q=>∃ (a:Addr) (ss:List Str),xs=[.ref a]/\SqL X.K H a (ss.map V.str)/\ss.length<=1000 /\ ∀ l,H l=none->Q (.ref l) (z8 H l (jo (b8 (λi=>(Sum.inr (ss.getD i ⟨#[]⟩):z9)) ss.length).length l))):=by
 intro pins s σ H xs us Q I r h;obtain ⟨a,ss,rfl,hq,hl,q⟩:=h;obtain ⟨u,rfl,ru⟩:=xW r;obtain rfl:u=Value.ref a:=ru;obtain ⟨its,rv,p,hz⟩:=I.list hq;have hn:its.length=ss.length:=by have e:=rv.length;rw [yZ] at e;exact e.symm
 refine GG (knd:=e7 X.prog X.w) (its:=its.toArray) (val:=λi=>(Sum.inr (ss.getD i ⟨#[]⟩):z9)) (I.ok.hd hc) p.isList (λi v e=>?_) (by rw [yY,hn];unfold scanBound;omega) λh' tk hS k=>?_
 ·obtain ⟨x,t,hx,rfl⟩:=Lm rv i v (by simpa using e);rw [yE,hx];exact ⟨Zf _ _ _ _,rfl⟩
 ·have e8:its.toArray.size=ss.length:=by rw [yY];exact hn
  rw [e8] at hS;refine ⟨.ref s.heap.objs.size,_,I.laid (t':=tk) k (yS _) (show ObjOk X.prog X.w _ h' _ (jo _ _) from ⟨⟨_,_,_,hS⟩,?_,?_⟩),rfl,q _ (I.hok.fresh (yS _))⟩
  ·obtain ⟨o,_,_,_,ho,_⟩:=hS;exact ⟨o,ho⟩
  ·rintro h1 h2 ⟨P,w,S,x⟩ e;exact ⟨P,w,S,Jw x e⟩
theorem GA:CallR X (.builtin "len") (λxs H Q=>∃ (a:Addr) (n:Nat),xs=[.ref a]/\H a=some (jo n a)/\Q (.int n) H):=by
 intro pins s σ H xs us Q I r h;obtain ⟨a,n,rfl,hq,q⟩:=h;obtain ⟨u,rfl,ru⟩:=xW r;obtain rfl:u=Value.ref a:=ru;obtain ⟨⟨P,w,S,o,es,ep,t,ho,hex,hd,_,_,hb,hf,hn⟩,_⟩:=(show ObjOk X.prog X.w H s.heap a (jo n a) from I.hok a _ hq);subst hn;have h63:((es.size:Nat):Int)<2 ^ 63:=by unfold scanBound at hb;omega
 exact call_len_set ho hex hd hf h63 ⟨.int es.size,H,I.tok _,⟨_,rfl⟩,q⟩
end
end L2
namespace L2
open PySem PySem.Spec PySem.Calls PyProof.Rows
variable{ss:List Str}{P:Program}{w:World}{vs:List Value}{A:Around}{E Q:Value->Shared->Prop}{s:Shared}
section
variable {X:Cx}
def Qd (ss:List Str):Prop:=ss.Pairwise λx y=>¬ (y.cps.toList<x.cps.toList)
theorem Up (h:sortedS ss=true):Qd ss:=by
 cases ss with
 |nil=>exact List.Pairwise.nil
 |cons x r =>
  have key:∀(l:List Str)(p:Str),risingS p l=true->(p::l).Pairwise λx y=>¬ (y.cps.toList<x.cps.toList):=by
   intro l
   induction l with
   |nil=>intro p _;exact List.pairwise_singleton _ _
   |cons y l ih =>
    intro p hp;have hp':(!ltCps y.cps.toList p.cps.toList&&risingS y l)=true:=hp;rw [yb] at hp';have i2:=ih y hp'.2;have hyp:¬ (y.cps.toList<p.cps.toList):=by have e:=hp'.1;rw [ltCps_eq] at e;simpa using e
    refine List.pairwise_cons.mpr ⟨λz hz=>?_,i2⟩;rcases yM.mp hz with rfl|hz
    ·exact hyp
    ·have hzy:=(List.pairwise_cons.mp i2).1 z hz;intro hlt;exact hyp (Std.lt_of_le_of_lt (Std.not_lt.mp hzy) hlt)
  exact key r x h
def YS (K:Fg):List V->Hp->VK->Prop:=λxs H Q=>∃(a:Addr)(ss:List Str),xs=[.ref a]/\(SqL K H a (ss.map V.str)∨∃ kvs,Rd H a (.dK kvs)/\kvs.map (·.1)=ss.map Sum.inr)/\ss.length<64 /\
 ∀ l ss',H l=none->ss'.Perm ss->Qd ss'->Q (.ref l) (z8 H l (.lst (ss'.map V.str)))
theorem Ut:∀{ss:List Str}{us:List Value},Vals (ss.map V.str) us->StrsAre us ss
 |[],_,.nil=> .nil
 |x::_,_,.cons ⟨t,e⟩ r=>by subst e;exact .cons x t (Ut r)
theorem JL:∀{us:List Value}{ss:List Str},StrsAre us ss->Vals (ss.map V.str) us
 |_,_,.nil=> .nil
 |_,_,.cons x t r=> .cons ⟨t,rfl⟩ (JL r)
theorem Bn:∀{kvs:List (z9×V)}{vs:List (z9×Value)}{ss:List Str},KV kvs vs->kvs.map (·.1)=ss.map Sum.inr->vs.map (·.1)=ss.map Sum.inr:=by
 intro kvs vs ss r e;rw [<- e];clear e
 induction r with
 |nil=>rfl
 |cons p _ ih=>rw [yN,yN,ih,p.1]
theorem Ba {vs:List (z9×Value)}{acc:Array Value}(e:vs.map (·.1)=ss.map Sum.inr)(h:ItemsOf (λi v=>∃ k x,vs[i]?=some (k,x)/\(e7 P w).is k v=true) acc vs.length):StrsAre acc.toList ss:=by
 have hl:vs.length=ss.length:=by have:=congrArg List.length e;rwa [yZ,yZ] at this
 have h0:∀ v∈acc.toList,∃ x t,v = .str x t:=by
  intro v hv;obtain ⟨i,hi,rfl⟩:=uI hv;obtain ⟨k,x,hk,his⟩:=h.2 i acc.toList[i] (by simp at hi ⊢);have hk2:(vs.map (·.1))[i]?=some k:=by rw [yV,hk];rfl
  rw [e,yV] at hk2;obtain ⟨z,_,rfl⟩:=yK.mp hk2;cases hv2:acc.toList[i] with
  |str y t=>exact ⟨y,t,rfl⟩
  |_=>rw [hv2] at his;cases his
 have h1:=strsAre_map acc.toList h0;have e2:acc.toList.map strOf=ss:=by
  apply List.ext_getElem?;intro i;rw [yV];by_cases hi:i<acc.size
  ·obtain ⟨k,x,hk,his⟩:=h.2 i acc[i] (Array.getElem?_eq_getElem hi);have hk2:(vs.map (·.1))[i]?=some k:=by rw [yV,hk];rfl
   rw [e,yV] at hk2;obtain ⟨z,hz,rfl⟩:=yK.mp hk2;obtain ⟨y,t,hy⟩:=h0 acc[i] (by simp);rw [hy] at his;have:y=z:=by have q:jx (Sum.inr z) (.str y t)=true:=his;have q2:=WQ y t;have q3:=(e7 P w).inj (.str y t) (Sum.inr z) (Sum.inr y) his (Zf P w y t);injection q3 with q3;exact q3.symm
   rw [hz,Array.getElem?_toList,Array.getElem?_eq_getElem hi,hy,<- this];rfl
  ·have h1:=h.1;rw [List.getElem?_eq_none (by simp;omega),List.getElem?_eq_none (by omega)];rfl
 rw [e2] at h1;exact h1
theorem Lq (hS:StrsAre vs ss)(h64:vs.length<64)(h:∀ (h':Heap) (out:List Value) (ss':List Str) (e:Nat),(∀ b o,s.heap.get? b=some o->h'.get? b=some o)->h'.get? s.heap.objs.size=some (seqObj "list" out.toArray e)->StrsAre out ss'->ss'.Perm ss->sortedS ss'=true->Q (.ref s.heap.objs.size) { s with heap:=h' }):wpAny (model P w) A (newList vs >>= λl=>holding [l] (call (.builtin "list.sort") [l]) >>= λ_=>pure l) Q E s:=by
 refine yR (wpAny_newList ?_);have ho:(s.heap.push (seqObj "list" vs.toArray 0)).get? s.heap.objs.size=some (seqObj "list" vs.toArray 0):=yA _ rfl;refine yR (wpAny_holding (wpAny_call_entry slot_list_sort (s:={ s with heap:=s.heap.push (seqObj "list" vs.toArray 0) }) ⟨_,ho,rfl⟩ entry_list_sort
  (list_sort_treeK strKind_oneLt (s:={ s with heap:=s.heap.push (seqObj "list" vs.toArray 0) }) ho hS.keysOf (λv1 v2 rest e=>keyKind_strs (by rw [<- e];exact hS)) h64 λst p1 p2=>⟨_,rfl,?_⟩) (args_list_sort _)))
 obtain ⟨ss',a1,a2,a3⟩:=sorted_out_str hS p1 p2;obtain ⟨e,he⟩:=sortedHeap_at (out:=(arrOf st).map (·.2)) ho;refine yx (h _ _ ss' e (λb o hb=>?_) (by rw [Array.toArray_toList];exact he) a1 a2 a3);have hlt:=yP hb;rw [sortedHeap_old (yJ hlt) (by rw [uM];exact Nat.lt_succ_of_lt hlt)];exact yX _ hb
theorem Mf (hS:StrsAre vs ss)(h64:vs.length<64)(h:∀ (h':Heap) (out:List Value) (ss':List Str) (e:Nat),(∀ b o,s.heap.get? b=some o->h'.get? b=some o)->h'.get? s.heap.objs.size=some (seqObj "list" out.toArray e)->StrsAre out ss'->ss'.Perm ss->sortedS ss'=true->Q (.ref s.heap.objs.size) { s with heap:=h' }):wpAny (model P w) A (newList vs >>= λl=>holding [l] (call (.builtin "list.sort") [l] []) >>= λ_=>ret l) (λfin s'=>∃ v,fin=PySem.Fin.done (.ret v)/\Q v s') E s:=by
 refine yR (wpAny_newList ?_);have ho:(s.heap.push (seqObj "list" vs.toArray 0)).get? s.heap.objs.size=some (seqObj "list" vs.toArray 0):=yA _ rfl;refine yR (wpAny_holding (wpAny_call_entry slot_list_sort (s:={ s with heap:=s.heap.push (seqObj "list" vs.toArray 0) }) ⟨_,ho,rfl⟩ entry_list_sort
  (list_sort_treeK strKind_oneLt (s:={ s with heap:=s.heap.push (seqObj "list" vs.toArray 0) }) ho hS.keysOf (λv1 v2 rest e=>keyKind_strs (by rw [<- e];exact hS)) h64 λst p1 p2=>⟨_,rfl,?_⟩) (args_list_sort _)))
 obtain ⟨ss',a1,a2,a3⟩:=sorted_out_str hS p1 p2;obtain ⟨e,he⟩:=sortedHeap_at (out:=(arrOf st).map (·.2)) ho;refine yx ⟨_,rfl,h _ _ ss' e (λb o hb=>?_) (by rw [Array.toArray_toList];exact he) a1 a2 a3⟩;have hlt:=yP hb;rw [sortedHeap_old (yJ hlt) (by rw [uM];exact Nat.lt_succ_of_lt hlt)];exact yX _ hb
theorem GH {K:Fg}(hc:X.calm=true)(hK:X.K=K):CallR X (.builtin "sorted") (YS K):=by
 subst hK;intro pins s σ H xs us Q I r h;obtain ⟨a,ss,rfl,hq,h64,q⟩:=h;obtain ⟨u,rfl,ru⟩:=xW r;obtain rfl:u=Value.ref a:=ru;rcases hq with hq|⟨kvs,hq,hk⟩
 ·obtain ⟨its,rv,p,hz⟩:=I.list hq;have hS:=Ut rv;have hl:its.length=ss.length:=by have e:=rv.length;rw [yZ] at e;exact e.symm
  refine sorted_strs p.isList hS (by omega) λout ss' a1 a2 a3=>?_;obtain ⟨e,he⟩:=sortedAll_at s.heap its out;refine ⟨.ref _,_,I.laid (t':=s.toks) (o:= .lst (ss'.map V.str)) (λb o hb=>sortedAll_old hb) (ux _) ?_,rfl,q _ ss' (I.hok.fresh (ux _)) a2 (Up a3)⟩;exact ⟨by rw [yZ,a2.length_eq];exact uT (vD (by omega)),out.toList,e,JL a1,by simpa [seqObj] using he⟩
 ·obtain ⟨z,hd,vs,rel,dd⟩:=jt I.hok hq;obtain ⟨ep,hat⟩:=dd.dictAt;have ek:=Bn rel hk;have hvl:vs.length=ss.length:=by have:=congrArg List.length ek;rwa [yZ,yZ] at this
  refine Calls.call_function_entry (id:="sorted") kind_sorted plain_sorted entry_sorted (args_sorted1 _) ?_;unfold Builtin.«sorted»;refine yR (m:=checkCount "sorted" 1 1 _) (yx ?_);refine yR (PySem.W.kdu_collect (PySem.W.kdl_dict (knd:=e7 X.prog X.w) (kvs:=vs) (ep:=ep) hd) (by simpa using I.ok.hd hc) hat (uT (vD (by omega))) λh1 tk acc k1 hacc=>?_);have hS:=Ba ek hacc;have hal:acc.toList.length=ss.length:=by have:=hacc.1;simp;omega
  refine Mf (s:={ s with heap:=h1,toks:=tk }) hS (by omega) λh' out ss' e k2 he a1 a2 a3=>?_;have I1:Inv X pins σ H { s with heap:=h1,toks:=tk }:=I.kept (t':=tk) k1;refine ⟨.ref _,_,I1.laid (t':=tk) (o:= .lst (ss'.map V.str)) k2 (yS _) ?_,rfl,q _ ss' (I1.hok.fresh (yS _)) a2 (Up a3)⟩;exact ⟨by rw [yZ,a2.length_eq];exact uT (vD (by omega)),out,e,JL a1,he⟩
end
end L2
namespace L2
open PySem PySem.Spec PySem.Calls
variable{a:Addr}{its:Array Value}{n:Nat}
section
variable {P:Program}{w:World}{A:Around}{E:Value->Shared->Prop}
theorem By:typeLookup (.type "list") "keys"=pure none:=am_miss_of_fast (by kernel_rfl)
theorem Bx:typeLookup (.type "list") "__getattr__"=pure none:=am_miss_of_fast (by kernel_rfl)
theorem Ks {hp:Heap}{g:Array GenState}{d:Drawn}{tk:Nat}{os:_}{u:Tok}{Q:PySem.Fin->Shared->Prop}(ho:hp.get? a=some { cls:= .type "list",data:= .seq its n })(hh:A.handled=none)(h:∀ h' tk' e,Heap.NewAttrErr hp h' e (.ref a) "keys"->E (.ref e) ⟨h',g,d,tk',os⟩):wpAny (model P w) A (Builtin.«object.__getattribute__» ⟨[.ref a,.str "keys" u],[]⟩) Q E ⟨hp,g,d,tk,os⟩:=by
 have hT:(⟨hp,g,d,tk,os⟩:Shared).TypeIs (.ref a) "list":=⟨_,ho,rfl⟩;have f0:=By;unfold Builtin.«object.__getattribute__»
 (repeat (any_goals (first|assumption|wp_step)))
 exact wpAny_raiseAttrError (s:=⟨hp,g,d,tk,os⟩) hh h (attrMsg_fits (by decide +kernel) (by decide +kernel))
theorem Gg {s:Shared}{Q:Option Value->Shared->Prop}(ho:s.heap.get? a=some { cls:= .type "list",data:= .seq its n })(hh:A.handled=none)(h:∀ h' tk,(∀ b o,s.heap.get? b=some o->h'.get? b=some o)->Q none { s with heap:=h',toks:=tk }):wpAny (model P w) A (getAttr? (.ref a) "keys") Q E s:=by
 obtain ⟨hp,g,d,tk,os⟩:=s;have hT:∀ t',(⟨hp,g,d,t',os⟩:Shared).TypeIs (.ref a) "list":=λ_=>⟨_,ho,rfl⟩;have f1:=sub_AttributeError;have f2:=PySem.F.slot_list_getattribute.lookup;have f3:=PySem.F.slot_list_getattribute.bind (.ref a);have f5:=Bx;unfold getAttr? getAttrBy? getAttrBy
 (repeat (any_goals (first|assumption|exact hT _|wp_step)))
 refine codeAny_call_builtin PySem.F.slot_list_getattribute.plain PySem.F.entry_list_ga (PySem.F.slot_list_getattribute.check _ _ _ _ _ _ _ _ (hT _) (PySem.F.args_list_getattribute_2 _ _) (Ks ho (by simpa using hh) λh' tk' e hx=>?_));obtain ⟨t',u',he⟩:=hx.there;have hk:=hx.keeps;show wpAny _ _ (getattributeRaised _ _ _ _ _ _ _) _ _ _;unfold getattributeRaised
 (repeat (any_goals (first|assumption|wp_step)))
 exact h _ _ hk
end
end L2
namespace L2
open PySem PySem.Spec PySem.Calls PyProof.Rows
variable{A:Around}{s:Shared}
theorem Gp:bootBuiltins "set"=some (.type "set"):=by decide +kernel
section
variable {P:Program}{w:World}{κ:Type}[DecidableEq κ]{knd:PySem.KeyKind P w κ}
theorem Wp:entryFor table "dict.update.loop"=some Builtin.«dict.update.loop»:=entryFor_of_tree (by kernel_rfl)
theorem QZ:plainId "dict.update.loop"=true:=by decide +kernel
theorem Kc {R:Result->Shared->Prop}{I:Addr}{fp wr:List Addr}{Pp:Nat->Value->Prop}{St:Nat->Heap->Prop}{more:List (κ×Value)}{lo:Addr}(W:Walks P w A.in1 I fp wr more.length Pp St)(d:Addr)(hdf:d∉fp)(hlo:lo<=d)(hwr:∀ b∈wr,lo<=b)(hsz:more.length<=sizeLine):∀ (m i:Nat) (z:Int) (tk:Tok) (s:Shared),more.length-i=m->i<=more.length->St i s.heap->s.heap.DictOf knd d (merged [] (more.take i)) -> (∀ j v kv,Pp j v->more[j]?=some kv->∃ t k,t<lo/\v = .ref t/\knd.is kv.1 k=true/\IsTup s.heap t #[k,kv.2]) -> (∀ h' tk',(∀ b o,b<lo->s.heap.get? b=some o->h'.get? b=some o)->h'.DictOf knd d (merged [] more)->R (.ok (.ret .none)) { s with heap:=h',toks:=tk' }) -> codeAny (model P w) A (.builtin "dict.update.loop" ⟨[.ref d,.ref I,.int z tk,.none],[]⟩) R s:=by
 have hdw:d∉wr:=λq=>hdf (W.sub _ q);intro m
 induction m with
 |zero =>
  intro i z tk s hm hi st hd hp hR;have hin:i=more.length:=by omega
  subst hin;refine codeAny_builtin Wp ?_;rw [Around.under_plainId QZ _];show wpAny _ A.in1 (pyNext (.ref I) >>= _) _ _ s;refine yR (W.done s _ _ st λh' tk' k=>?_);show wpAny _ A.in1 (Builtin.Dict.addKeywords d [] >>= _) _ _ _;refine yR (yx ?_);refine yx (hR h' tk' (λb o hb e=>k b o (λq=>absurd (hwr b q) (Nat.not_le.mpr hb)) e) ?_);rw [List.take_length] at hd;obtain ⟨o,es,ep,ho,r⟩:=hd;exact ⟨o,es,ep,k d o hdw ho,r⟩
 |succ m ih =>
  intro i z tk s hm hi st hd hp hR;have hlt:i<more.length:=by omega
  refine codeAny_builtin Wp ?_;rw [Around.under_plainId QZ _];show wpAny _ A.in1 (pyNext (.ref I) >>= _) _ _ s;refine yR (W.item i s _ _ hlt st λv h' tk' hPv st' k=>?_);obtain ⟨t,kk,ht,rfl,hk,o,ho,hc,n,hdt⟩:=hp i v more[i] hPv (yU hlt);have ho':h'.get? t=some o:=k t o (λq=>absurd (hwr t q) (Nat.not_le.mpr ht)) ho;have hd':h'.DictOf knd d (merged [] (more.take i)):=by obtain ⟨o,es,ep,ho,r⟩:=hd;exact ⟨o,es,ep,k d o hdw ho,r⟩
  have hT:Shared.TypeIs { s with heap:=h',toks:=tk' } (.ref t) "tuple":=⟨o,ho',hc⟩;show wpAny _ A.in1 (holding [.ref t] _ >>= _) _ _ _;refine yR (wpAny_holding (yR (wpAny_tryCatch ?_)));unfold Builtin.Dict.pairItems;refine yR (wpAny_typeOf hT ?_);rw [if_pos (by decide)];refine yR (wpAny_seqItems ho' hdt (yx ?_));show wpAny _ A.in1 (holding [kk,more[i].2] (dictSet d kk more[i].2)) _ _ _;refine wpAny_holding (wpAny_dictSet_pairs (knd:=knd) hk hd' (λh2 hd2 sb=>?_) ?_)
  ·rw [<- merged_take_succ [] more i more[i] (yU hlt)] at hd2;have keep2:∀ b o,b<lo->s.heap.get? b=some o->h2.get? b=some o:=λb o hb e=>by
    rw [sb.2 b (yJ (yy hb hlo))];exact k b o (λq=>absurd (hwr b q) (Nat.not_le.mpr hb)) e
   refine yx ⟨plainId_quiet QZ _,ih (i+1) _ _ _ (by omega) hlt (W.frame _ _ _ st' λb hb o e=>?_) hd2 (λj v kv hv hj=>?_) λh3 tk3 k3 hd3=>?_⟩
   ·rw [sb.2 b (λq=>hdf (by rw [<- q];exact hb))];exact e
   ·obtain ⟨t,kk,ht,rfl,hk,o,ho,r⟩:=hp j v kv hv hj;exact ⟨t,kk,ht,rfl,hk,o,keep2 t o ht ho,r⟩
   ·exact hR h3 tk3 (λb o hb e=>k3 b o hb (keep2 b o hb e)) hd3
  ·have:=merged_length_le [] (more.take i);rw [uG,List.length_nil] at this;omega
theorem Gw {E:Value->Shared->Prop}{l:Addr}{its:Array Value}{n:Nat}{more:List (κ×Value)}{Q:Value->Shared->Prop}(hh:A.handled=none)(ho:s.heap.get? l=some { cls:= .type "list",data:= .seq its n })(hlen:its.size=more.length)(hsz:more.length<=sizeLine)(hp:∀ (j:Nat) (v:Value) (kv:κ×Value),its[j]?=some v->more[j]?=some kv->∃ t k,v = .ref t/\knd.is kv.1 k=true/\IsTup s.heap t #[k,kv.2])(h:∀ h' tk',(∀ b o,s.heap.get? b=some o->h'.get? b=some o)->h'.DictOf knd s.heap.objs.size (merged [] more)->Q (.ref s.heap.objs.size) { s with heap:=h',toks:=tk' }):wpAny (model P w) A (call (.type "dict") [.ref l]) Q E s:=by
 refine callType_codes (Q₁:=λob s1=>ob = .ref s.heap.objs.size/\s1={ s with heap:=s.heap.push { cls:= .type "dict",data:= .dict #[] } }) PySem.F.kt_called_dict (PySem.F.kt_typeCall_dict_1 _) PySem.F.entry_dict_init (kt_code_dict_new _ ⟨rfl,rfl⟩) ?_;rintro ob s1 ⟨rfl,rfl⟩;have hnew:(s.heap.push { cls:= .type "dict",data:= .dict #[] }).DictOf knd s.heap.objs.size []:=Heap.DictOf.new s.heap;have ho':(s.heap.push { cls:= .type "dict",data:= .dict #[] }).get? l=some { cls:= .type "list",data:= .seq its n }:=yX _ ho;have hTl:Shared.TypeIs { s with heap:=s.heap.push { cls:= .type "dict",data:= .dict #[] } } (.ref l) "list":=⟨_,ho',rfl⟩;have hlt:l<s.heap.objs.size:=yP ho;refine ⟨hnew.typeIs,PySem.F.args_dict_init_2 _ _,?_⟩;unfold Builtin.«dict.__init__»;refine yR ?_;unfold Builtin.Dict.selfAndRest;refine yR (wpAny_notOrdered_dict hnew.typeIs ?_);show wpAny _ _ (pure (s.heap.objs.size,[Value.ref l])) _ _ _;refine yx ?_;show wpAny _ _ (Builtin.Dict.updateFrom "dict.__init__" s.heap.objs.size (.ref l) [] .none) _ _ _;unfold Builtin.Dict.updateFrom;refine yR (wpAny_typeOf hTl ?_);rw [if_pos (by decide)];refine yR (Gg ho' (by simpa using hh) λh1 tk1 k1=>?_);rw [if_pos (show (none:Option Value).isNone=true from rfl)];refine yR (wpAny_rule ?_);have ho1:=k1 _ _ ho';have hl1:h1.IsList l its:=⟨_,ho1,rfl,n,rfl⟩;refine yR (wpAny_pyIter_list (s:={ s with heap:=h1,toks:=tk1 }) hl1 ?_);have hd1:h1.DictOf knd s.heap.objs.size []:=by obtain ⟨o,es,ep,hq,r⟩:=hnew;exact ⟨o,es,ep,k1 _ _ hq,r⟩
 have hdlt:s.heap.objs.size<h1.objs.size:=by obtain ⟨o,es,ep,hq,r⟩:=hd1;exact yP hq
 have hll:l<h1.objs.size:=yP ho1;refine yx ⟨plainId_quiet QZ _,?_⟩;have W:=Walks.list (prog:=P) (w:=w) (A:=A.in1.in1) (by simpa using hh) h1.objs.size l (yJ hll) its;rw [hlen] at W;refine Kc (knd:=knd) (lo:=s.heap.objs.size) W s.heap.objs.size ?_ (yS _) (λb hb=>?_) hsz more.length 0 _ _ { s with heap:=h1.push { cls:= .type "list_iterator",data:= .fields #[.ref l,.int 0 0] },toks:=tk1 } (by omega) (yh _) ⟨⟨_,yA _ rfl,rfl,rfl⟩,hl1.push _⟩ ?_ (λj v kv hv hj=>?_) λh' tk' kp hd=>?_
 ·simp only [yM,ya,or_false,not_or];exact ⟨yJ hdlt,Nat.ne_of_gt hlt⟩
 ·rw [yQ.mp hb];exact uT hdlt
 ·obtain ⟨o,es,ep,hq,r⟩:=hd1;exact ⟨o,es,ep,yX _ hq,r⟩
 ·obtain ⟨t,k,rfl,hk,o,hto,r⟩:=hp j v kv hv hj;exact ⟨t,k,yP hto,rfl,hk,o,yX _ (k1 _ _ (yX _ hto)),r⟩
 ·exact ⟨rfl,h h' tk' (λb o e=>kp b o (yP e) (yX _ (k1 _ _ (yX _ e)))) hd⟩
end
section
variable {X:Cx}
theorem Ci {pins:List (Addr×Obj)}{σ:St}{H:Hp}(I:Inv X pins σ H s){ts:List Addr}{kvs:List (z9×V)}(r:Paired (λt (kv:z9×V)=>H t=some (.tup [kV kv.1,kv.2])) ts kvs):∃ more:List (z9×Value),KV kvs more/\∀(j:Nat)(t:Addr)(m:z9×Value),ts[j]?=some t->more[j]?=some m->∃ k,(e7 X.prog X.w).is m.1 k=true/\IsTup s.heap t #[k,m.2]:=by
 induction r with
 |nil=>exact ⟨[],.nil,λj t m h=>by simp at h⟩
 |@cons t kv ts kvs p _ ih =>
  obtain ⟨more,k1,k2⟩:=ih;obtain ⟨_,its,rv,ht⟩:=(show ObjOk X.prog X.w H s.heap t (.tup [kV kv.1,kv.2]) from I.hok t _ p);cases rv with
  |cons p1 r1 =>
   cases r1 with
   |cons p2 r2 =>
    cases r2;rename_i u1 u2;refine ⟨(kv.1,u2)::more,.cons ⟨rfl,p2⟩ k1,λj t' m h1 h2=>?_⟩;cases j with
    |zero=>simp at h1 h2;subst h1 h2;exact ⟨u1,vm p1,ht⟩
    |succ j=>exact k2 j t' m (by simpa using h1) (by simpa using h2)
theorem UR:∀{ts:List Addr}{us:List Value},Vals (ts.map V.ref) us->us=ts.map Value.ref
 |[],_,.nil=>rfl
 |t::ts,_,.cons p r=>by
  obtain rfl:=(show _=Value.ref t from p);rw [UR r];rfl
theorem JP:∀{kvs:List (z9×V)}{vs:List (z9×Value)},KV kvs vs->vs.map (·.1)=kvs.map (·.1)
 |[],_,.nil=>rfl
 |_::_,_,.cons p r=>by rw [yN,yN,JP r,p.1]
end
section
variable {X:Cx}{tg:Expr}
def YL:List V->Hp->VK->Prop:=λxs H Q=>∃(a:Addr)(ts:List Addr)(kvs:List (z9×V)),xs=[.ref a]/\H a=some (.lst (ts.map V.ref))/\Paired (λt (kv:z9×V)=>H t=some (.tup [kV kv.1,kv.2])) ts kvs/\(kvs.map (·.1)).Nodup/\kvs.length<=1000 /\
  ∀ l o,H l=none->Q (.ref l) (z8 H l (.frz o (.dK kvs)))
theorem Xo {K:Fg}(hc:X.calm=true)(_:X.K=K):CallR X (.type "dict") YL:=by
 intro pins s σ H xs us Q I r h;obtain ⟨a,ts,kvs,rfl,hq,hp,hn,h1000,q⟩:=h;obtain ⟨u,rfl,ru⟩:=xW r;obtain rfl:u=Value.ref a:=ru;obtain ⟨hz,its,n,rv,ho⟩:=(show ObjOk X.prog X.w H s.heap a (.lst (ts.map V.ref)) from I.hok a _ hq);have ei:=UR rv;obtain ⟨more,k1,k2⟩:=Ci I hp;have lk:more.length=kvs.length:=k1.length.symm;have lt:=hp.length;have hsl:more.length<=sizeLine:=uT (vD (by omega));refine Gw (knd:=e7 X.prog X.w) (more:=more) (I.ok.hd hc) ho (by rw [yY,ei,yZ];omega) hsl (λj v m hv hm=>?_) λh' tk k hd=>?_
 ·have hv':its[j]?=some v:=by simpa using hv
  rw [ei,yV] at hv';obtain ⟨t,ht,rfl⟩:=yK.mp hv';obtain ⟨kk,x1,x2⟩:=k2 j t m ht hm;exact ⟨t,kk,rfl,x1,x2⟩
 ·rw [merged_nil_of_nodup more (by rw [JP k1];exact hn)] at hd;obtain ⟨o,es,ep,ho',_⟩:=id hd;refine ⟨.ref s.heap.objs.size,_,I.laid (t':=tk) (o:= .frz o (.dK kvs)) k (yS _) ⟨ho',Wn (by omega) (beq_eq_false_iff_ne.mpr (Ne.symm (yJ I.big))) k1 hd⟩,rfl,q _ _ (I.hok.fresh (yS _))⟩
end
end L2
namespace Mi
open PySem L2
variable{H H' H0 Hb Hs Hs' Hs0:Hp}{u v:V}{ks:List z9}{C p:Addr}{ns:List Str}{vs:List V}{o:HO}{σ σ':St}{tb te:TE}{r:R2}{ta:TA}{n:Nat}{K:Fg}{t:TT}{E:XK}{nm:Str}{ts:List Nat}{lo:Int}{wi:TI}{tg:TG}
inductive PV where
 |at (v:V)|tup (xs:List PV)|lst (xs:List PV)|dk (ks:List z9) (xs:List PV)|fk (ks:List z9) (xs:List PV)|ob (C:Addr) (ns:List Str) (xs:List PV)|op (φ:Hp->V->Prop)
variable{xs:List PV}{x y:PV}{g:PV->PV->Option PV}{m:List PV->Option PV}
mutual
def Rep (H:Hp):PV->V->Prop
 | .at u,v=>v=u
 | .tup xs,v=>∃ a vs,v = .ref a/\H a=some (.tup vs)/\Reps H xs vs
 | .lst xs,v=>∃ a vs,v = .ref a/\H a=some (.lst vs)/\Reps H xs vs
 | .dk ks xs,v=>∃ a kvs,v = .ref a/\H a=some (.dK kvs)/\kvs.map (·.1)=ks/\Reps H xs (kvs.map (·.2))
 | .fk ks xs,v=>∃ a o kvs,v = .ref a/\H a=some (.frz o (.dK kvs))/\kvs.map (·.1)=ks/\Reps H xs (kvs.map (·.2))
 | .ob C ns xs,v=>∃ a dx fs,v = .ref a/\H a=some (.ins C dx fs)/\fs.map (·.1)=ns/\Reps H xs (fs.map (·.2))
 | .op φ,v=>∃ H',Same H' H/\φ H' v
def Reps (H:Hp):List PV->List V->Prop
 |[],vs=>vs=[]
 |x::xs,vs=>∃ v r,vs=v::r/\Rep H x v/\Reps H xs r
end
mutual
theorem Rep.mono {H H':Hp}(g:Same H H'):∀{x:PV}{v:V},Rep H x v->Rep H' x v
 | .at u,v,h=>by unfold Rep at h ⊢;exact h
 | .tup xs,v,h=>by unfold Rep at h ⊢;obtain ⟨a,vs,e,p,r⟩:=h;exact ⟨a,vs,e,g _ _ p,Reps.mono g r⟩
 | .lst xs,v,h=>by unfold Rep at h ⊢;obtain ⟨a,vs,e,p,r⟩:=h;exact ⟨a,vs,e,g _ _ p,Reps.mono g r⟩
 | .dk ks xs,v,h=>by unfold Rep at h ⊢;obtain ⟨a,vs,e,p,q,r⟩:=h;exact ⟨a,vs,e,g _ _ p,q,Reps.mono g r⟩
 | .fk ks xs,v,h=>by unfold Rep at h ⊢;obtain ⟨a,o,vs,e,p,q,r⟩:=h;exact ⟨a,o,vs,e,g _ _ p,q,Reps.mono g r⟩
 | .ob C ns xs,v,h=>by unfold Rep at h ⊢;obtain ⟨a,dx,vs,e,p,q,r⟩:=h;exact ⟨a,dx,vs,e,g _ _ p,q,Reps.mono g r⟩
 | .op φ,v,h=>by unfold Rep at h ⊢;obtain ⟨H1,s,p⟩:=h;exact ⟨H1,s.trans g,p⟩
theorem Reps.mono {H H':Hp}(g:Same H H'):∀{xs:List PV}{vs:List V},Reps H xs vs->Reps H' xs vs
 |[],vs,h=>by unfold Reps at h ⊢;exact h
 |x::xs,vs,h=>by unfold Reps at h ⊢;obtain ⟨v,r,e,p,q⟩:=h;exact ⟨v,r,e,Rep.mono g p,Reps.mono g q⟩
end
theorem rep_at :Rep H (.at u) v↔v=u:=by unfold Rep;exact Iff.rfl
theorem rep_tup :Rep H (.tup xs) v↔∃ a vs,v = .ref a/\H a=some (.tup vs)/\Reps H xs vs:=by unfold Rep;exact Iff.rfl
theorem rep_lst :Rep H (.lst xs) v↔∃ a vs,v = .ref a/\H a=some (.lst vs)/\Reps H xs vs:=by unfold Rep;exact Iff.rfl
theorem rep_dk :Rep H (.dk ks xs) v↔∃ a kvs,v = .ref a/\H a=some (.dK kvs)/\kvs.map (·.1)=ks/\Reps H xs (kvs.map (·.2)):=by unfold Rep;exact Iff.rfl
theorem rep_fk :Rep H (.fk ks xs) v↔∃ a o kvs,v = .ref a/\H a=some (.frz o (.dK kvs))/\kvs.map (·.1)=ks/\Reps H xs (kvs.map (·.2)):=by unfold Rep;exact Iff.rfl
theorem rep_ob :Rep H (.ob C ns xs) v↔∃ a dx fs,v = .ref a/\H a=some (.ins C dx fs)/\fs.map (·.1)=ns/\Reps H xs (fs.map (·.2)):=by unfold Rep;exact Iff.rfl
theorem rep_op {φ:Hp->V->Prop}:Rep H (.op φ) v↔∃ H',Same H' H/\φ H' v:=by unfold Rep;exact Iff.rfl
theorem reps_nil :Reps H [] vs↔vs=[]:=by unfold Reps;exact Iff.rfl
theorem reps_cons :Reps H (x::xs) vs↔∃ v r,vs=v::r/\Rep H x v/\Reps H xs r:=by
 constructor
 ·intro h;unfold Reps at h;exact h
 ·intro h;unfold Reps;exact h
theorem Reps.nil :Reps H [] []:=reps_nil.mpr rfl
theorem Reps.cons {H:Hp}{x:PV}{v:V}{xs:List PV}{vs:List V}(p:Rep H x v)(q:Reps H xs vs):Reps H (x::xs) (v::vs):=reps_cons.mpr ⟨v,vs,rfl,p,q⟩
theorem Reps.length {H:Hp}:∀{xs:List PV}{vs:List V},Reps H xs vs->vs.length=xs.length
 |[],vs,h=>by rw [reps_nil.mp h];rfl
 |x::xs,vs,h=>by obtain ⟨v,r,rfl,_,q⟩:=reps_cons.mp h;rw [yw,yw,Reps.length q]
theorem Reps.append {H:Hp}:∀{xs ys:List PV}{vs ws:List V},Reps H xs vs->Reps H ys ws->Reps H (xs++ys) (vs++ws)
 |[],ys,vs,ws,h,k=>by rw [reps_nil.mp h];exact k
 |x::xs,ys,vs,ws,h,k=>by obtain ⟨v,r,rfl,p,q⟩:=reps_cons.mp h;exact .cons p (Reps.append q k)
theorem Reps.one (p:Rep H x v):Reps H [x] [v]:= .cons p .nil
theorem Reps.get {H:Hp}:∀{xs:List PV}{vs:List V}{i:Nat}{x:PV},Reps H xs vs->xs[i]?=some x->∃ v,vs[i]?=some v/\Rep H x v
 |[],_,i,x,_,e=>by simp at e
 |y::xs,vs,0,x,h,e=>by
  obtain ⟨v,r,rfl,p,q⟩:=reps_cons.mp h;simp at e;subst e;exact ⟨v,rfl,p⟩
 |y::xs,vs,i+1,x,h,e=>by
  obtain ⟨v,r,rfl,p,q⟩:=reps_cons.mp h;obtain ⟨w,e1,e2⟩:=Reps.get (i:=i) (x:=x) q (by simpa using e);exact ⟨w,by simpa using e1,e2⟩
theorem Reps.take {H:Hp}:∀(n:Nat){xs:List PV}{vs:List V},Reps H xs vs->Reps H (xs.take n) (vs.take n)
 |0,_,_,_=>by rw [List.take_zero,List.take_zero];exact .nil
 |n+1,[],vs,h=>by rw [reps_nil.mp h];exact .nil
 |n+1,x::xs,vs,h=>by
  obtain ⟨v,r,rfl,p,q⟩:=reps_cons.mp h;exact .cons p (Reps.take n q)
theorem Reps.drop {H:Hp}:∀(n:Nat){xs:List PV}{vs:List V},Reps H xs vs->Reps H (xs.drop n) (vs.drop n)
 |0,_,_,h=>h
 |n+1,[],vs,h=>by rw [reps_nil.mp h];exact .nil
 |n+1,x::xs,vs,h=>by
  obtain ⟨v,r,rfl,p,q⟩:=reps_cons.mp h;exact Reps.drop n q
theorem Reps.ats {H:Hp}:∀{us vs:List V},Reps H (us.map .at) vs->vs=us
 |[],vs,h=>reps_nil.mp h
 |u::us,vs,h=>by
  obtain ⟨v,r,rfl,p,q⟩:=reps_cons.mp h;rw [rep_at.mp p,Reps.ats q]
theorem Reps.ofAts {H:Hp}:∀(us:List V),Reps H (us.map .at) us
 |[]=> .nil
 |u::us=> .cons (rep_at.mpr rfl) (Reps.ofAts us)
structure Ext (Hs H Hs' H':Hp):Prop where
 s1:Same Hs Hs'
 s2:Same H H'
 s3:Same Hs' H'
 s4:∀ b,H b≠none->Hs b=none->Hs' b=none
theorem Xe (g:Same H H'){b:Addr}(h:H b≠none):H' b≠none:=λz=>h (g.free z)
theorem Ext.refl (s:Same Hs H):Ext Hs H Hs H:=⟨.refl _,.refl _,s,λ_ _ z=>z⟩
theorem Ext.trans {A B A1 B1 A2 B2:Hp}(x:Ext A B A1 B1)(y:Ext A1 B1 A2 B2):Ext A B A2 B2:=⟨x.s1.trans y.s1,x.s2.trans y.s2,y.s3,λb h z=>y.s4 b (Xe x.s2 h) (x.s4 b h z)⟩
theorem Ext.new (s:Same Hs H)(h:H p=none):Ext Hs H (z8 Hs p o) (z8 H p o):=by
 have hs:Hs p=none:=s.free h;refine ⟨λb u e=>?_,λb u e=>?_,λb u e=>?_,λb e z=>?_⟩
 ·rw [j3 (u9 e hs)];exact e
 ·rw [j3 (u9 e h)];exact e
 ·by_cases hb:b=p
  ·subst hb;rw [w6] at e ⊢;exact e
  ·rw [j3 hb] at e ⊢;exact s _ _ e
 ·have hb:b≠p:=λq=>e (by rw [q];exact h);rw [j3 hb];exact z
theorem Ext.newO (s:Same Hs H)(h:H p=none):Ext Hs H Hs (z8 H p o) :=
 ⟨.refl _,λb u e=>by rw [j3 (u9 e h)];exact e,λb u e=>by rw [j3 (u9 (s _ _ e) h)];exact s _ _ e,λ_ _ z=>z⟩
def Top (Hs H:Hp)(a:Addr):PV->Prop
 | .lst xs=>∃ vs,H a=some (.lst vs)/\Reps Hs xs vs
 | .dk ks xs=>∃ kvs,H a=some (.dK kvs)/\kvs.map (·.1)=ks/\Reps Hs xs (kvs.map (·.2))
 | .ob C ns xs=>∃ dx fs,H a=some (.ins C dx fs)/\fs.map (·.1)=ns/\Reps Hs xs (fs.map (·.2))
 |_=>False
theorem Top.there {a:Addr}:∀{x:PV},Top Hs H a x->H a≠none
 | .lst _,h,z=>by obtain ⟨vs,e,_⟩:=h;rw [e] at z;cases z
 | .dk _ _,h,z=>by obtain ⟨vs,e,_⟩:=h;rw [e] at z;cases z
 | .ob _ _ _,h,z=>by obtain ⟨dx,vs,e,_⟩:=h;rw [e] at z;cases z
theorem Top.mono {a:Addr}(g:Same Hs Hs')(e:∀ o,H a=some o->H' a=some o):∀{x:PV},Top Hs H a x->Top Hs' H' a x
 | .lst _,h=>by obtain ⟨vs,q,r⟩:=h;exact ⟨vs,e _ q,r.mono g⟩
 | .dk _ _,h=>by obtain ⟨vs,q,k,r⟩:=h;exact ⟨vs,e _ q,k,r.mono g⟩
 | .ob _ _ _,h=>by obtain ⟨dx,vs,q,k,r⟩:=h;exact ⟨dx,vs,e _ q,k,r.mono g⟩
theorem Top.rep {a:Addr}:∀{x:PV},Top Hs H a x->Hs a=none->∃ o,H a=some o/\Rep (z8 Hs a o) x (.ref a)
 | .lst _,h,n=>by
  obtain ⟨vs,q,r⟩:=h;exact ⟨_,q,rep_lst.mpr ⟨a,vs,rfl,w6,r.mono λb u e=>by rw [j3 (u9 e n)];exact e⟩⟩
 | .dk _ _,h,n=>by
  obtain ⟨vs,q,k,r⟩:=h;exact ⟨_,q,rep_dk.mpr ⟨a,vs,rfl,w6,k,r.mono λb u e=>by rw [j3 (u9 e n)];exact e⟩⟩
 | .ob _ _ _,h,n=>by
  obtain ⟨dx,vs,q,k,r⟩:=h;exact ⟨_,q,rep_ob.mpr ⟨a,dx,vs,rfl,w6,k,r.mono λb u e=>by rw [j3 (u9 e n)];exact e⟩⟩
theorem Ext.share {a:Addr}(x:Ext Hs H Hs' H')(h:H a=none)(n:Hs' a=none)(e:H' a=some o):Ext Hs H (z8 Hs' a o) H':=by
 refine ⟨λb u q=>?_,x.s2,λb u q=>?_,λb q z=>?_⟩
 ·rw [j3 (u9 (x.s1 _ _ q) n)];exact x.s1 _ _ q
 ·by_cases hb:b=a
  ·subst hb;rw [w6] at q;cases q;exact e
  ·rw [j3 hb] at q;exact x.s3 _ _ q
 ·have hb:b≠a:=λr=>q (by rw [r];exact h);rw [j3 hb];exact x.s4 b q z
def RepB (Hs H:Hp)(x:PV)(v:V):Prop:=Rep Hs x v∨∃ a,v = .ref a/\Hs a=none/\Top Hs H a x
theorem RepB.ext (e:Ext Hs H Hs' H')(h:RepB Hs H x v):RepB Hs' H' x v:=by
 rcases h with h|⟨a,rfl,n,t⟩
 ·exact .inl (h.mono e.s1)
 ·exact .inr ⟨a,rfl,e.s4 a t.there n,t.mono e.s1 λo q=>e.s2 _ _ q⟩
inductive MSlot where
 |no|sh (x:PV)|ow (x:PV)|bo (x:PV)
abbrev ME:=List MSlot
variable{ε:ME}
def Own (H0 Hs H:Hp)(a:Addr)(x:PV):Prop:=H0 a=none/\Hs a=none/\Top Hs H a x
structure RS (Hs0 H0 Hs H:Hp)(σ:St)(ε:ME):Prop where
 ext:Ext Hs0 H0 Hs H
 sh:∀(i:Nat)(x:PV),ε[i]?=some (.sh x)->∃ v,σ[i]?=some (some v)/\Rep Hs x v
 ow:∀(i:Nat)(x:PV),ε[i]?=some (.ow x)->∃ a,σ[i]?=some (some (.ref a))/\Own H0 Hs H a x
 nd:∀(i j:Nat)(x y:PV)(a:Addr),ε[i]?=some (.ow x)->ε[j]?=some (.ow y)->σ[i]?=some (some (.ref a))->σ[j]?=some (some (.ref a))->i=j
 len:σ.length=ε.length
 bo:∀(i:Nat)(x:PV),ε[i]?=some (.bo x)->∃ v,σ[i]?=some (some v)/\(Rep Hs x v∨∃ a,v = .ref a/\H0 a≠none/\Hs a=none/\Top Hs H a x)
section
variable {Hs0 H0 Hs H Hs' H':Hp}{σ:St}{ε:ME}
theorem RS.go (r:RS Hs0 H0 Hs H σ ε)(e:Ext Hs H Hs' H'):RS Hs0 H0 Hs' H' σ ε where
 ext:=r.ext.trans e
 sh:=λi x q=>by obtain ⟨v,a,b⟩:=r.sh i x q;exact ⟨v,a,b.mono e.s1⟩
 ow:=λi x q=>by
  obtain ⟨a,b,n0,n,t⟩:=r.ow i x q;exact ⟨a,b,n0,e.s4 a t.there n,t.mono e.s1 λo z=>e.s2 _ _ z⟩
 nd:=r.nd
 len:=r.len
 bo:=λi x q=>by
  obtain ⟨v,b,h|⟨a,rfl,n0,n,t⟩⟩:=r.bo i x q
  ·exact ⟨v,b,.inl (h.mono e.s1)⟩
  ·exact ⟨_,b,.inr ⟨a,rfl,n0,e.s4 a t.there n,t.mono e.s1 λo z=>e.s2 _ _ z⟩⟩
theorem RS.sub (r:RS Hs0 H0 Hs H σ ε):Same Hs H:=r.ext.s3
theorem RS.rebase (r:RS Hs0 H0 Hs H σ ε):RS Hs H0 Hs H σ ε:=⟨⟨.refl _,r.ext.s2,r.ext.s3,λ_ _ z=>z⟩,r.sh,r.ow,r.nd,r.len,r.bo⟩
theorem Ext.unbase (r:Ext Hs0 H0 Hb H)(e:Ext Hb H0 Hs' H'):Ext Hs0 H0 Hs' H':=⟨r.s1.trans e.s1,e.s2,e.s3,λb h z=>e.s4 b h (r.s4 b h z)⟩
theorem RS.unbase {ε':ME}(r:Ext Hs0 H0 Hb H)(e:RS Hb H0 Hs' H' σ' ε'):RS Hs0 H0 Hs' H' σ' ε':=⟨r.unbase e.ext,e.sh,e.ow,e.nd,e.len,e.bo⟩
theorem RS.put (r:RS Hs0 H0 Hs H σ ε){i:Nat}(h:Rep Hs x v):RS Hs0 H0 Hs H (σ.set i (some v)) (ε.set i (.sh x)) where
 ext:=r.ext
 sh:=λj y q=>by
  rw [yH] at q ⊢;split at q
  ·rename_i hij;split at q
   ·rename_i hl;injection q with q;injection q with q;subst q;rw [if_pos hij,if_pos (by rw [r.len,hij];rw [hij] at hl;exact hl)];exact ⟨v,rfl,h⟩
   ·cases q
  ·rename_i hij;rw [if_neg hij];exact r.sh j y q
 ow:=λj y q=>by
  rw [yH] at q ⊢;split at q
  ·split at q<;>cases q
  ·rename_i hij;rw [if_neg hij];exact r.ow j y q
 nd:=λj k x y a h1 h2 h3 h4=>by
  rw [yH] at h1 h2 h3 h4;split at h1
  ·split at h1<;>cases h1
  ·rename_i hj;rw [if_neg hj] at h3;split at h2
   ·split at h2<;>cases h2
   ·rename_i hk;rw [if_neg hk] at h4;exact r.nd j k x y a h1 h2 h3 h4
 len:=by rw [yC,yC,r.len]
 bo:=λj y q=>by
  rw [yH] at q ⊢;split at q
  ·split at q<;>cases q
  ·rename_i hij;rw [if_neg hij];exact r.bo j y q
theorem RS.putO (r:RS Hs0 H0 Hs H σ ε){i:Nat}{a:Addr}(h:Own H0 Hs H a x)(ne:∀(j:Nat)(y:PV),ε[j]?=some (.ow y)->σ[j]?≠some (some (.ref a))):RS Hs0 H0 Hs H (σ.set i (some (.ref a))) (ε.set i (.ow x)) where
 ext:=r.ext
 sh:=λj y q=>by
  rw [yH] at q ⊢;split at q
  ·split at q<;>cases q
  ·rename_i hij;rw [if_neg hij];exact r.sh j y q
 ow:=λj y q=>by
  rw [yH] at q ⊢;split at q
  ·rename_i hij;split at q
   ·rename_i hl;injection q with q;injection q with q;subst q;rw [if_pos hij,if_pos (by rw [r.len,hij];rw [hij] at hl;exact hl)];exact ⟨a,rfl,h⟩
   ·cases q
  ·rename_i hij;rw [if_neg hij];exact r.ow j y q
 nd:=λj k x' y b h1 h2 h3 h4=>by
  rw [yH] at h1 h2 h3 h4;split at h1
  ·rename_i hj;rw [if_pos hj] at h3;split at h1
   ·rename_i hl;rw [if_pos (by rw [r.len];exact hl)] at h3;injection h3 with h3;injection h3 with h3;injection h3 with h3;subst h3;split at h2
    ·rename_i hk;exact hj.symm.trans hk
    ·rename_i hk;rw [if_neg hk] at h4;exact absurd h4 (ne k y h2)
   ·cases h1
  ·rename_i hj;rw [if_neg hj] at h3;split at h2
   ·rename_i hk;rw [if_pos hk] at h4;split at h2
    ·rename_i hl;rw [if_pos (by rw [r.len];exact hl)] at h4;injection h4 with h4;injection h4 with h4;injection h4 with h4;subst h4;exact absurd h3 (ne j x' h1)
    ·cases h2
   ·rename_i hk;rw [if_neg hk] at h4;exact r.nd j k x' y b h1 h2 h3 h4
 len:=by rw [yC,yC,r.len]
 bo:=λj y q=>by
  rw [yH] at q ⊢;split at q
  ·split at q<;>cases q
  ·rename_i hij;rw [if_neg hij];exact r.bo j y q
theorem RS.change (r:RS Hs0 H0 Hs H σ ε){i:Nat}{a:Addr}(hi:ε[i]?=some (.ow x))(ha:σ[i]?=some (some (.ref a)))(t:Top Hs (z8 H a o) a y):RS Hs0 H0 Hs (z8 H a o) σ (ε.set i (.ow y)):=by
 obtain ⟨b,hb,n0,n,tx⟩:=r.ow i x hi;rw [ha] at hb;injection hb with hb;injection hb with hb;injection hb with hb;subst hb;refine ⟨⟨r.ext.s1,λb u e=>?_,λb u e=>?_,r.ext.s4⟩,λj z q=>?_,λj z q=>?_,λj k z z' c h1 h2 h3 h4=>?_,by rw [yC,r.len],λj z q=>?_⟩
 ·rw [j3 (u9 e n0)];exact r.ext.s2 _ _ e
 ·rw [j3 (u9 e n)];exact r.ext.s3 _ _ e
 ·rw [yH] at q;split at q
  ·split at q<;>cases q
  ·exact r.sh j z q
 ·rw [yH] at q;split at q
  ·rename_i hij;split at q
   ·injection q with q;injection q with q;subst q;exact ⟨a,hij▸ha,n0,n,t⟩
   ·cases q
  ·rename_i hij;obtain ⟨c,hc,m0,m,tc⟩:=r.ow j z q;have hne:c≠a:=λe=>hij (r.nd i j x z a hi q ha (e▸hc));exact ⟨c,hc,m0,m,tc.mono (.refl _) λo' e=>by rw [j3 hne];exact e⟩
 ·have down:∀{m:Nat}{w:PV},(ε.set i (.ow y))[m]?=some (.ow w)->∃ w',ε[m]?=some (.ow w'):=by
   intro m w q;rw [yH] at q;split at q
   ·rename_i him;exact ⟨x,him▸hi⟩
   ·exact ⟨w,q⟩
  obtain ⟨w1,q1⟩:=down h1;obtain ⟨w2,q2⟩:=down h2;exact r.nd j k w1 w2 c q1 q2 h3 h4
 ·rw [yH] at q;split at q
  ·split at q<;>cases q
  ·obtain ⟨v,hv,h|⟨c,rfl,m0,m,tc⟩⟩:=r.bo j z q
   ·exact ⟨v,hv,.inl h⟩
   ·have hne:c≠a:=λe=>m0 (e▸n0);exact ⟨_,hv,.inr ⟨c,rfl,m0,m,tc.mono (.refl _) λo' e=>by rw [j3 hne];exact e⟩⟩
def fz (i:Nat)(ε:ME):ME:=match ε[i]? with
 |some (.ow x)=>ε.set i (.sh x)
 |_=>ε
end
theorem jE {j:Nat}{s:MSlot}(h:∀(i:Nat)(x:PV),ε[i]?≠some (.bo x))(hs:∀ x,s ≠ .bo x):∀(i:Nat)(x:PV),(ε.set j s)[i]?≠some (.bo x):=λi x q=>by
 rw [yH] at q;split at q
 ·split at q
  ·injection q with q;exact hs x q
  ·cases q
 ·exact h i x q
abbrev M:=ME->Option PV
variable{a b:M}
abbrev MB:=ME->Option Bool
variable{c:MB}
abbrev MA:=ME->Option (List PV)
variable{as f:MA}
class SemE (te:TE)(f:M):Prop where
 h:∀{ε y},f ε=some y->∀{Hs0 H0 Hs H σ},RS Hs0 H0 Hs H σ ε->∀{Q:VK},(∀ v Hs' H',Ext Hs H Hs' H'->Rep Hs' y v->Q v H')->te σ H Q
class c7 (te:TE)(f:M):Prop where
 h:∀{ε y},f ε=some y->∀{Hs0 H0 Hs H σ},RS Hs0 H0 Hs H σ ε->∀{Q:VK},(∀ v Hs' H',Ext Hs H Hs' H'->RepB Hs' H' y v->Q v H')->te σ H Q
class qv (te:TE)(f:M):Prop where
 h:∀{ε y},f ε=some y->∀{Hs0 H0 Hs H σ},RS Hs0 H0 Hs H σ ε->∀{Q:VK},(∀ a Hs' H',Ext Hs H Hs' H'->H a=none->Hs' a=none->Top Hs' H' a y->Q (.ref a) H')->te σ H Q
class f6 (tt:TT)(f:MB):Prop where
 h:∀{ε y},f ε=some y->∀{Hs0 H0 Hs H σ},RS Hs0 H0 Hs H σ ε->∀{Q:Bool->Hp->Prop},(∀ Hs' H',Ext Hs H Hs' H'->Q y H')->tt σ H Q
class qp (ta:TA)(f:MA):Prop where
 h:∀{ε ys},f ε=some ys->∀{Hs0 H0 Hs H σ},RS Hs0 H0 Hs H σ ε->∀{Q:List V->Hp->Prop},(∀ vs Hs' H',Ext Hs H Hs' H'->Reps Hs' ys vs->Q vs H')->ta σ H Q
def jZ (Hs H:Hp):List PV->List V->Prop
 |[],vs=>vs=[]
 |x::xs,vs=>∃ v r,vs=v::r/\RepB Hs H x v/\jZ Hs H xs r
class vJ (ta:TA)(f:MA):Prop where
 h:∀{ε ys},f ε=some ys->∀{Hs0 H0 Hs H σ},RS Hs0 H0 Hs H σ ε->∀{Q:List V->Hp->Prop},(∀ vs Hs' H',Ext Hs H Hs' H'->jZ Hs' H' ys vs->Q vs H')->ta σ H Q
class qN (r:R2)(g:PV->PV->Option PV):Prop where
 h:∀{x y z},g x y=some z->∀{Hs H:Hp}{v w:V},Same Hs H->RepB Hs H x v->RepB Hs H y w->∀{Q:VK},(∀ u Hs' H',Ext Hs H Hs' H'->Rep Hs' z u->Q u H')->r v w H Q
class JS (r:R2)(g:PV->PV->Option PV):Prop where
 h:∀{x y z},g x y=some z->∀{Hs H:Hp}{v w:V},Same Hs H->RepB Hs H x v->RepB Hs H y w->∀{Q:VK},(∀ a Hs' H',Ext Hs H Hs' H'->H a=none->Hs' a=none->Top Hs' H' a z->Q (.ref a) H')->r v w H Q
instance (priority:=50) semE_O {f:M}[s:qv te f]:SemE te f where
 h:=λe _ _ _ _ _ r _ q=>s.h e r λa Hs' H' x h n t=>by
  obtain ⟨o,ho,hr⟩:=t.rep n;exact q _ _ _ (x.share h n ho) hr
instance (priority:=50) semB_E {f:M}[s:SemE te f]:c7 te f where
 h:=λe _ _ _ _ _ r _ q=>s.h e r λv Hs' H' x h=>q v Hs' H' x (.inl h)
def q9 (i:Nat):M:=λε=>match ε[i]? with
 |some (.sh x)=>some x
 |_=>none
def x8 (i:Nat):M:=λε=>match ε[i]? with
 |some (.sh x)=>some x
 |some (.ow x)=>some x
 |some (.bo x)=>some x
 |_=>none
def dC (v:V):M:=λ_=>some (.at v)
instance {i:Nat}:SemE (m3 i) (q9 i) where
 h:=λ{ε y} e {_ _ _ _ _} r {_} q=>by
  unfold q9 at e;split at e
  ·rename_i x hx;cases e;obtain ⟨v,h1,h2⟩:=r.sh i _ hx;exact ⟨v,h1,q v _ _ (.refl r.sub) h2⟩
  ·cases e
instance {i:Nat}:c7 (m3 i) (x8 i) where
 h:=λ{ε y} e {_ _ _ _ _} r {_} q=>by
  unfold x8 at e;split at e
  ·rename_i x hx;cases e;obtain ⟨v,h1,h2⟩:=r.sh i _ hx;exact ⟨v,h1,q v _ _ (.refl r.sub) (.inl h2)⟩
  ·rename_i x hx;cases e;obtain ⟨a,h1,_,n,t⟩:=r.ow i _ hx;exact ⟨_,h1,q _ _ _ (.refl r.sub) (.inr ⟨a,rfl,n,t⟩)⟩
  ·rename_i x hx;cases e;obtain ⟨v,h1,h2|⟨a,rfl,_,n,t⟩⟩:=r.bo i _ hx
   ·exact ⟨v,h1,q v _ _ (.refl r.sub) (.inl h2)⟩
   ·exact ⟨_,h1,q _ _ _ (.refl r.sub) (.inr ⟨a,rfl,n,t⟩)⟩
  ·cases e
instance :SemE (tC v) (dC v) where
 h:=λe _ _ _ _ _ r _ q=>by cases e;exact q v _ _ (.refl r.sub) (rep_at.mpr rfl)
def z6 (g:PV->PV->Option PV)(a b:M):M:=λε=>(a ε).bind λx=>(b ε).bind λy=>g x y
theorem bind_some {α β:Type}{o:Option α}{f:α->Option β}{y:β}(h:o.bind f=some y):∃ x,o=some x/\f x=some y:=by
 cases o with
 |none=>cases h
 |some x=>exact ⟨x,rfl,h⟩
instance {ta:TE}[sr:qN r g][sa:c7 ta a][sb:c7 tb b]:SemE (tOp r ta tb) (z6 g a b) where
 h:=λe _ _ _ _ _ rs _ q=>by
  obtain ⟨x,ex,e⟩:=bind_some e;obtain ⟨y,ey,e⟩:=bind_some e;exact sa.h ex rs λv Hs1 H1 x1 r1=>sb.h ey (rs.go x1) λw Hs2 H2 x2 r2=>sr.h e x2.s3 (r1.ext x2) r2 λu Hs3 H3 x3 r3=>q u _ _ (x1.trans (x2.trans x3)) r3
instance {ta:TE}[sr:JS r g][sa:c7 ta a][sb:c7 tb b]:qv (tOp r ta tb) (z6 g a b) where
 h:=λe _ _ _ _ _ rs _ q=>by
  obtain ⟨x,ex,e⟩:=bind_some e;obtain ⟨y,ey,e⟩:=bind_some e;exact sa.h ex rs λv Hs1 H1 x1 r1=>sb.h ey (rs.go x1) λw Hs2 H2 x2 r2=>sr.h e x2.s3 (r1.ext x2) r2 λu Hs3 H3 x3 n n' r3=>q u _ _ (x1.trans (x2.trans x3)) (x1.s2.free (x2.s2.free n)) n' r3
def x9:MA:=λ_=>some []
def q8 (a:M)(r:MA):MA:=λε=>(a ε).bind λx=>(r ε).bind λxs=>some (x::xs)
instance:qp i9 x9 where
 h:=λe _ _ _ _ _ r _ q=>by cases e;exact q [] _ _ (.refl r.sub) .nil
instance [sa:SemE te a][sr:qp ta f]:qp (m9 te ta) (q8 a f) where
 h:=λe _ _ _ _ _ rs _ q=>by
  obtain ⟨x,ex,e⟩:=bind_some e;obtain ⟨xs,ey,e⟩:=bind_some e;cases e;exact sa.h ex rs λv Hs1 H1 x1 r1=>sr.h ey (rs.go x1) λvs Hs2 H2 x2 r2=>q _ _ _ (x1.trans x2) (.cons (r1.mono x2.s1) r2)
instance:vJ i9 x9 where
 h:=λe _ _ _ _ _ r _ q=>by cases e;exact q [] _ _ (.refl r.sub) rfl
instance [sa:c7 te a][sr:vJ ta f]:vJ (m9 te ta) (q8 a f) where
 h:=λe _ _ _ _ _ rs _ q=>by
  obtain ⟨x,ex,e⟩:=bind_some e;obtain ⟨xs,ey,e⟩:=bind_some e;cases e;exact sa.h ex rs λv Hs1 H1 x1 r1=>sr.h ey (rs.go x1) λvs Hs2 H2 x2 r2=>q _ _ _ (x1.trans x2) ⟨_,_,rfl,r1.ext x2,r2⟩
def lim:Nat:=1000000
theorem qj (h:n<=lim):n<=sizeLine:=yf h (by rw [sizeLine_eq];decide)
theorem vo (h:n<=lim):n<sizeLine:=Nat.lt_of_le_of_lt h (by rw [sizeLine_eq];decide)
def xK (a:MA):M:=λε=>(a ε).bind λxs=>if xs.length<=lim then some (.tup xs) else none
def qw (a:MA):M:=λε=>(a ε).bind λxs=>if xs.length<=lim then some (.lst xs) else none
instance [sa:qp ta f]:SemE (tTup ta) (xK f) where
 h:=λe _ _ _ _ _ rs _ q=>by
  obtain ⟨xs,ex,e⟩:=bind_some e;split at e
  ·rename_i hl;cases e;exact sa.h ex rs λvs Hs1 H1 x1 r1=>⟨qj (r1.length▸hl),λp hp=>q _ _ _ (x1.trans (.new x1.s3 hp)) (rep_tup.mpr ⟨p,vs,rfl,w6,r1.mono (Ext.new x1.s3 hp).s1⟩)⟩
  ·cases e
instance [sa:qp ta f]:qv (tLst ta) (qw f) where
 h:=λe _ _ _ _ _ rs _ q=>by
  obtain ⟨xs,ex,e⟩:=bind_some e;split at e
  ·rename_i hl;cases e;exact sa.h ex rs λvs Hs1 H1 x1 r1=>⟨qj (r1.length▸hl),λp hp=>q _ _ _ (x1.trans (.newO x1.s3 hp)) (x1.s2.free hp) (x1.s3.free hp) ⟨vs,w6,r1⟩⟩
  ·cases e
theorem u7 (h:RepB Hs H (.at u) v):v=u:=by
 rcases h with h|⟨a,_,_,t⟩
 ·exact rep_at.mp h
 ·exact t.elim
theorem i8 (s:Same Hs H)(h:RepB Hs H (.lst xs) v):∃ a vs,v = .ref a/\H a=some (.lst vs)/\Reps Hs xs vs:=by
 rcases h with h|⟨a,rfl,_,vs,e,r⟩
 ·obtain ⟨a,vs,rfl,e,r⟩:=rep_lst.mp h;exact ⟨a,vs,rfl,s _ _ e,r⟩
 ·exact ⟨a,vs,rfl,e,r⟩
theorem qL (s:Same Hs H)(h:RepB Hs H (.tup xs) v):∃ a vs,v = .ref a/\H a=some (.tup vs)/\Reps Hs xs vs:=by
 rcases h with h|⟨a,rfl,_,t⟩
 ·obtain ⟨a,vs,rfl,e,r⟩:=rep_tup.mp h;exact ⟨a,vs,rfl,s _ _ e,r⟩
 ·exact t.elim
theorem wK (s:Same Hs H)(h:RepB Hs H (.fk ks xs) v):∃ a o kvs,v = .ref a/\H a=some (.frz o (.dK kvs))/\kvs.map (·.1)=ks/\Reps Hs xs (kvs.map (·.2)):=by
 rcases h with h|⟨a,rfl,n,t⟩
 ·obtain ⟨a,o,kvs,rfl,e,k,r⟩:=rep_fk.mp h;exact ⟨a,o,kvs,rfl,s _ _ e,k,r⟩
 ·exact t.elim
theorem ja (s:Same Hs H)(h:RepB Hs H (.dk ks xs) v):∃ a kvs,v = .ref a/\H a=some (.dK kvs)/\kvs.map (·.1)=ks/\Reps Hs xs (kvs.map (·.2)):=by
 rcases h with h|⟨a,rfl,_,kvs,e,k,r⟩
 ·obtain ⟨a,kvs,rfl,e,k,r⟩:=rep_dk.mp h;exact ⟨a,kvs,rfl,s _ _ e,k,r⟩
 ·exact ⟨a,kvs,rfl,e,k,r⟩
theorem Uc (s:Same Hs H)(h:RepB Hs H (.ob C ns xs) v):∃ a dx fs,v = .ref a/\H a=some (.ins C dx fs)/\fs.map (·.1)=ns/\Reps Hs xs (fs.map (·.2)):=by
 rcases h with h|⟨a,rfl,_,dx,fs,e,k,r⟩
 ·obtain ⟨a,dx,fs,rfl,e,k,r⟩:=rep_ob.mp h;exact ⟨a,dx,fs,rfl,s _ _ e,k,r⟩
 ·exact ⟨a,dx,fs,rfl,e,k,r⟩
def pI (g:Int->Int->Option V):PV->PV->Option PV
 | .at (.int i),.at (.int j)=>(g i j).map .at
 |_,_=>none
theorem Yt {g:Int->Int->Option V}{z:PV}(h:pI g x y=some z):∃ i j u,x = .at (.int i)/\y = .at (.int j)/\g i j=some u/\z = .at u:=by
 unfold pI at h;split at h
 ·rename_i i j;obtain ⟨u,e,rfl⟩:=yK.mp h;exact ⟨i,j,u,rfl,rfl,e,rfl⟩
 ·cases h
instance {g:Int->Int->V}:qN (rI0 g) (pI λi j=>some (g i j)) where
 h:=λe _ _ _ _ s a b _ q=>by
  obtain ⟨i,j,u,rfl,rfl,e,rfl⟩:=Yt e;cases e;exact ⟨i,j,u7 a,u7 b,q _ _ _ (.refl s) (rep_at.mpr rfl)⟩
instance {C:Int->Int->Prop}[d:∀ i j,Decidable (C i j)]{g:Int->Int->V}:qN (rI C g) (pI λi j=>if C i j then some (g i j) else none) where
 h:=λe _ _ _ _ s a b _ q=>by
  obtain ⟨i,j,u,rfl,rfl,e',rfl⟩:=Yt e;split at e'
  ·rename_i hc;cases e';exact ⟨i,j,u7 a,u7 b,hc,q _ _ _ (.refl s) (rep_at.mpr rfl)⟩
  ·cases e'
def w5:PV->PV->Option PV
 | .lst xs,.at (.int i)=>atI xs i
 | .tup xs,.at (.int i)=>atI xs i
 | .at (.str z),.at (.int i)=>if z.length<=lim then (L2.atI z.cps.toList i).map λc=> .at (.str ⟨#[c]⟩) else none
 |_,_=>none
theorem Reps.atI {i:Int}(r:Reps H xs vs)(h:atI xs i=some x):∃ v,L2.atI vs i=some v/\Rep H x v:=by unfold L2.atI at h ⊢;rw [r.length];obtain ⟨j,ej,e⟩:=bind_some h;rw [ej];exact r.get e
instance :qN (rIx K) w5 where
 h:=λ{x y z} e {Hs H v w} s a b {Q} q=>by
  unfold w5 at e;split at e
  ·obtain ⟨p,vs,rfl,e1,r1⟩:=i8 s a;obtain ⟨u,hu,r⟩:=r1.atI e;exact .inl ⟨p,vs,_,u,rfl,u7 b,SqL.of e1,hu,q _ _ _ (.refl s) r⟩
  ·obtain ⟨p,vs,rfl,e1,r1⟩:=qL s a;obtain ⟨u,hu,r⟩:=r1.atI e;exact .inr (.inl ⟨p,vs,_,u,rfl,u7 b,SqT.of e1,hu,q _ _ _ (.refl s) r⟩)
  ·split at e
   ·rename_i hz;obtain ⟨c,hc,rfl⟩:=yK.mp e;exact .inr (.inr ⟨_,_,c,u7 a,u7 b,qj hz,hc,q _ _ _ (.refl s) (rep_at.mpr rfl)⟩)
   ·cases e
  ·cases e
def ats:List PV->Option (List V)
 |[]=>some []
 | .at u::xs=>(ats xs).map (u::·)
 |_::_=>none
theorem Xm:∀{xs:List PV}{us:List V},ats xs=some us->xs=us.map .at
 |[],_,h=>by cases h;rfl
 | .at u::xs,us,h=>by
  unfold ats at h;obtain ⟨r,e,rfl⟩:=yK.mp h;rw [yN,Xm e]
 | .tup _::_,_,h=>by cases h
 | .lst _::_,_,h=>by cases h
 | .dk _ _::_,_,h=>by cases h
 | .fk _ _::_,_,h=>by cases h
 | .ob _ _ _::_,_,h=>by cases h
 | .op _::_,_,h=>by cases h
def pIn (neg:Bool):PV->PV->Option PV
 | .at u,.lst xs=>(ats xs).bind λus=>if u4 u=true/\us.all u4=true then some (.at (.bl (if neg then !inV u us else inV u us))) else none
 | .at u,.tup xs=>(ats xs).bind λus=>if u4 u=true/\us.all u4=true then some (.at (.bl (if neg then !inV u us else inV u us))) else none
 |_,_=>none
instance {neg:Bool}:qN (rIn K neg) (pIn neg) where
 h:=λ{x y z} e {Hs H v w} s a b {Q} q=>by
  unfold pIn at e;split at e
  ·obtain ⟨us,e1,e⟩:=bind_some e;split at e
   ·rename_i hf;cases e;obtain ⟨p,vs,rfl,e2,r2⟩:=i8 s b;rw [Xm e1] at r2;cases r2.ats;cases u7 a;exact ⟨p,_,rfl,.inl (SqL.of e2),hf.1,hf.2,q _ _ _ (.refl s) (rep_at.mpr rfl)⟩
   ·cases e
  ·obtain ⟨us,e1,e⟩:=bind_some e;split at e
   ·rename_i hf;cases e;obtain ⟨p,vs,rfl,e2,r2⟩:=qL s b;rw [Xm e1] at r2;cases r2.ats;cases u7 a;exact ⟨p,_,rfl,.inr (SqT.of e2),hf.1,hf.2,q _ _ _ (.refl s) (rep_at.mpr rfl)⟩
   ·cases e
  ·cases e
class SemU (r:V->Hp->VK->Prop)(g:PV->Option PV):Prop where
 h:∀{x z},g x=some z->∀{Hs H:Hp}{v:V},Same Hs H->RepB Hs H x v->∀{Q:VK},(∀ u Hs' H',Ext Hs H Hs' H'->Rep Hs' z u->Q u H')->r v H Q
def dUn (g:PV->Option PV)(a:M):M:=λε=>(a ε).bind g
instance {r:V->Hp->VK->Prop}{g:PV->Option PV}{ta:TE}[sr:SemU r g][sa:c7 ta a]:SemE (tUn r ta) (dUn g a) where
 h:=λe _ _ _ _ _ rs _ q=>by
  obtain ⟨x,ex,e⟩:=bind_some e;exact sa.h ex rs λv Hs1 H1 x1 r1=>sr.h e x1.s3 r1 λu Hs3 H3 x3 r3=>q u _ _ (x1.trans x3) r3
def pU (g:Int->V):PV->Option PV
 | .at (.int i)=>some (.at (g i))
 |_=>none
instance {g:Int->V}:SemU (rU g) (pU g) where
 h:=λ{x z} e {_ _ _} s a {_} q=>by
  unfold pU at e;split at e
  ·cases e;exact ⟨_,u7 a,q _ _ _ (.refl s) (rep_at.mpr rfl)⟩
  ·cases e
def pB:PV->Option Bool
 | .at (.bl b)=>some b
 |_=>none
theorem ww {b:Bool}(h:pB x=some b):x = .at (.bl b):=by
 unfold pB at h;split at h
 ·cases h;rfl
 ·cases h
def dT (a:M):MB:=λε=>(a ε).bind pB
instance [sa:c7 te a]:f6 (JC te) (dT a) where
 h:=λe _ _ _ _ _ rs _ q=>by
  obtain ⟨x,ex,e⟩:=bind_some e;cases ww e;exact sa.h ex rs λv Hs1 H1 x1 r1=>⟨_,u7 r1,q _ _ x1⟩
instance [sa:c7 te a]:f6 (tB te) (dT a) where
 h:=λe _ _ _ _ _ rs _ q=>by
  obtain ⟨x,ex,e⟩:=bind_some e;cases ww e;exact sa.h ex rs λv Hs1 H1 x1 r1=>⟨_,u7 r1,q _ _ x1⟩
def tTru (K:Fg)(ta:TE):TT:=λσ H Q=>ta σ H λx H'=>∃ k,TruV K x H' k/\Q k H'
def pTru:PV->Option Bool
 | .at .non=>some false
 | .at (.bl b)=>some b
 | .at (.int i)=>some (i != 0)
 | .at (.str y)=>if y.length<=lim then some ((y.length:Int) != 0) else none
 | .lst xs=>some (!xs.isEmpty)
 | .tup xs=>some (!xs.isEmpty)
 | .dk ks _=>some (!ks.isEmpty)
 |_=>none
def p8 (a:M):MB:=λε=>(a ε).bind pTru
theorem Reps.isEmpty (r:Reps H xs vs):vs.isEmpty=xs.isEmpty:=by have:=r.length;cases xs<;>cases vs<;>first|rfl|(simp at this)
instance [sa:c7 te a]:f6 (tTru K te) (p8 a) where
 h:=λe _ _ _ _ _ rs _ q=>by
  obtain ⟨x,ex,e⟩:=bind_some e;refine sa.h ex rs λv Hs1 H1 x1 r1=>?_;unfold pTru at e;split at e
  ·cases e;cases u7 r1;exact ⟨_,rfl,q _ _ x1⟩
  ·cases e;cases u7 r1;exact ⟨_,rfl,q _ _ x1⟩
  ·cases e;cases u7 r1;exact ⟨_,rfl,q _ _ x1⟩
  ·split at e
   ·rename_i hl;cases e;cases u7 r1;exact ⟨_,⟨qj hl,rfl⟩,q _ _ x1⟩
   ·cases e
  ·cases e;obtain ⟨p,vs,rfl,e1,r2⟩:=i8 x1.s3 r1;exact ⟨_,.inl ⟨vs,SqL.of e1,by rw [r2.isEmpty]⟩,q _ _ x1⟩
  ·cases e;obtain ⟨p,vs,rfl,e1,r2⟩:=qL x1.s3 r1;exact ⟨_,.inr (.inl ⟨vs,SqT.of e1,by rw [r2.isEmpty]⟩),q _ _ x1⟩
  ·cases e;obtain ⟨p,kvs,rfl,e1,k,r2⟩:=ja x1.s3 r1;refine ⟨_,.inr (.inr ⟨kvs,e1,?_⟩),q _ _ x1⟩;rw [<- k];cases kvs<;>rfl
  ·cases e
def zp (a b:MB):MB:=λε=>(a ε).bind λc=>if c=true then b ε else some false
def n9 (a b:MB):MB:=λε=>(a ε).bind λc=>if c=true then some true else b ε
def c5 (a:MB):MB:=λε=>(a ε).bind λc=>some (!c)
instance {u:TT}{a b:MB}[sa:f6 t a][sb:f6 u b]:f6 (tAnd t u) (zp a b) where
 h:=λe _ _ _ _ _ rs _ q=>by
  obtain ⟨c,ex,e⟩:=bind_some e;refine sa.h ex rs λHs1 H1 x1=>?_;cases c with
  |true=>exact qP (sb.h e (rs.go x1) λHs2 H2 x2=>q _ _ (x1.trans x2))
  |false=>cases e;exact qB (q _ _ x1)
instance {u:TT}{a b:MB}[sa:f6 t a][sb:f6 u b]:f6 (tOr t u) (n9 a b) where
 h:=λe _ _ _ _ _ rs _ q=>by
  obtain ⟨c,ex,e⟩:=bind_some e;refine sa.h ex rs λHs1 H1 x1=>?_;cases c with
  |true=>cases e;exact qP (q _ _ x1)
  |false=>exact qB (sb.h e (rs.go x1) λHs2 H2 x2=>q _ _ (x1.trans x2))
instance {a:MB}[sa:f6 t a]:f6 (tNot t) (c5 a) where
 h:=λe _ _ _ _ _ rs _ q=>by
  obtain ⟨c,ex,e⟩:=bind_some e;cases e;exact sa.h ex rs λHs1 H1 x1=>q _ _ x1
def xm (a b:M):M:=λε=>(a ε).bind λx=>(pB x).bind λc=>if c=true then b ε else some (.at (.bl false))
def Qj (a:M):M:=λε=>(a ε).bind λx=>(pB x).bind λc=>some (.at (.bl (!c)))
instance {t u:TE}[sa:SemE t a][sb:SemE u b]:SemE (Uu t u) (xm a b) where
 h:=λe _ _ _ _ _ rs _ q=>by
  obtain ⟨x,ex,e⟩:=bind_some e;obtain ⟨c,ec,e⟩:=bind_some e;cases ww ec;refine sa.h ex rs λv Hs1 H1 x1 r1=>⟨c,rep_at.mp r1,?_⟩;cases c with
  |true=>exact qP (sb.h e (rs.go x1) λw Hs2 H2 x2 r2=>q _ _ _ (x1.trans x2) r2)
  |false=>cases e;exact qB (q _ _ _ x1 (rep_at.mpr rfl))
instance {t:TE}[sa:c7 t a]:SemE (UA t) (Qj a) where
 h:=λe _ _ _ _ _ rs _ q=>by
  obtain ⟨x,ex,e⟩:=bind_some e;obtain ⟨c,ec,e⟩:=bind_some e;cases ww ec;cases e;exact sa.h ex rs λv Hs1 H1 x1 r1=>⟨c,u7 r1,q _ _ _ x1 (rep_at.mpr rfl)⟩
def dIf (c:MB)(a b:M):M:=λε=>(c ε).bind λk=>if k=true then a ε else b ε
instance {ta:TE}[sc:f6 t c][sa:SemE ta a][sb:SemE tb b]:SemE (tIf t ta tb) (dIf c a b) where
 h:=λe _ _ _ _ _ rs _ q=>by
  obtain ⟨k,ex,e⟩:=bind_some e;refine sc.h ex rs λHs1 H1 x1=>?_;cases k with
  |true=>exact qP (sa.h e (rs.go x1) λw Hs2 H2 x2 r2=>q _ _ _ (x1.trans x2) r2)
  |false=>exact qB (sb.h e (rs.go x1) λw Hs2 H2 x2 r2=>q _ _ _ (x1.trans x2) r2)
def zq (g g':PV->PV->Option PV)(a b c:M):M:=λε=>(a ε).bind λx=>(b ε).bind λy=>(g x y).bind λz=>(pB z).bind λk=>if k=true then (c ε).bind λw=>g' y w else some (.at (.bl false))
instance {r':R2}{g':PV->PV->Option PV}{ta tc:TE}{c:M}[sr:qN r g][sr':qN r' g'][sa:c7 ta a][sb:c7 tb b][sc:c7 tc c]:SemE (JB r r' ta tb tc) (zq g g' a b c) where
 h:=λe _ _ _ _ _ rs _ q=>by
  obtain ⟨x,ex,e1⟩:=bind_some e;obtain ⟨y,ey,e2⟩:=bind_some e1;obtain ⟨z,ez,e3⟩:=bind_some e2;obtain ⟨k,ek,e4⟩:=bind_some e3;have ez':=ww ek;subst ez';refine sa.h ex rs λv Hs1 H1 x1 r1=>sb.h ey (rs.go x1) λw Hs2 H2 x2 r2=>sr.h ez x2.s3 (r1.ext x2) r2 λu Hs3 H3 x3 r3=>⟨k,rep_at.mp r3,?_⟩;cases k with
  |true=>obtain ⟨w',ew,e5⟩:=bind_some e4;exact qP (sc.h ew (((rs.go x1).go x2).go x3) λu' Hs4 H4 x4 r4=>sr'.h e5 x4.s3 ((r2.ext x3).ext x4) r4 λu'' Hs5 H5 x5 r5=>q _ _ _ (x1.trans (x2.trans (x3.trans (x4.trans x5)))) r5)
  |false=>cases e4;exact qB (q _ _ _ (x1.trans (x2.trans x3)) (rep_at.mpr rfl))
def v6 (m:List PV->Option PV):Sp:=λvs H Q _=>∃ Hs xs y,Same Hs H/\Reps Hs xs vs/\m xs=some y/\∀ v Hs' H',Ext Hs H Hs' H'->Rep Hs' y v->Q v H'
def spO (m:List PV->Option PV):Sp:=λvs H Q _=>∃ Hs xs y,Same Hs H/\Reps Hs xs vs/\m xs=some y/\∀ a Hs' H',Ext Hs H Hs' H'->H a=none->Hs' a=none->Top Hs' H' a y->Q (.ref a) H'
def z5 (m:List PV->Option PV)(as:MA):M:=λε=>(as ε).bind m
instance [sa:qp ta as]:SemE (qU (v6 m) [] E ta) (z5 m as) where
 h:=λe _ _ _ _ _ rs _ q=>by
  obtain ⟨xs,ex,e1⟩:=bind_some e;refine sa.h ex rs λvs Hs1 H1 x1 r1=>⟨Hs1,xs,_,x1.s3,by rw [yn];exact r1,e1,λv Hs' H' x r=>q v _ _ (x1.trans x) r⟩
instance [sa:qp ta as]:qv (qU (spO m) [] E ta) (z5 m as) where
 h:=λe _ _ _ _ _ rs _ q=>by
  obtain ⟨xs,ex,e1⟩:=bind_some e;refine sa.h ex rs λvs Hs1 H1 x1 r1=>⟨Hs1,xs,_,x1.s3,by rw [yn];exact r1,e1,λa Hs' H' x n n' r=>q a _ _ (x1.trans x) (x1.s2.free n) n' r⟩
def Xu (m:List PV->Option PV)(ds:List V)(as:MA):M:=λε=>(as ε).bind λxs=>m (xs++ds.map .at)
def zd (C:Addr)(nm:Str)(m:List PV->Option PV)(a:M)(as:MA):M:=λε=>(a ε).bind λx=>match x with
 | .ob C' ns fs=>if C'=C/\nm∉ns then (as ε).bind λxs=>m (x::xs) else none
 |_=>none
theorem XX {fs:List (Str×V)}{f:Str}(h:f∉fs.map (·.1)):fs.lookup f=none:=by
 induction fs with
 |nil=>rfl
 |cons p r ih =>
  rw [yN] at h;rw [uU];have h1:(f==p.1)=false:=by rw [beq_eq_false_iff_ne];exact λe=>h (e▸yO)
  rw [h1];exact ih λz=>h (yT _ z)
theorem Wi (h:zd C nm m a as ε=some y):∃ ns fs xs,a ε=some (.ob C ns fs)/\nm∉ns/\as ε=some xs/\m (.ob C ns fs::xs)=some y:=by
 unfold zd at h;obtain ⟨x,ex,h1⟩:=bind_some h;split at h1
 ·rename_i C' ns fs;split at h1
  ·rename_i hc;obtain ⟨xs,e2,h2⟩:=bind_some h1;obtain ⟨rfl,hn⟩:=hc;exact ⟨ns,fs,xs,ex,hn,e2,h2⟩
  ·cases h1
 ·cases h1
instance [so:SemE te a][sa:qp ta as]:SemE (jP C nm (v6 m) [] E te ta) (zd C nm m a as) where
 h:=λe _ _ _ _ _ rs _ q=>by
  obtain ⟨ns,fs,xs,ea,hn,e1,e2⟩:=Wi e;refine so.h ea rs λv Hs1 H1 x1 r1=>?_;obtain ⟨p,dx,gs,rfl,hp,hk,hr⟩:=rep_ob.mp r1;refine ⟨p,dx,gs,rfl,x1.s3 _ _ hp,XX (by rw [hk];exact hn),sa.h e1 (rs.go x1) λvs Hs2 H2 x2 r2=>?_⟩;exact ⟨Hs2,_,_,x2.s3,by rw [yn];exact .cons (r1.mono x2.s1) r2,e2,λv Hs' H' x r=>q v _ _ (x1.trans (x2.trans x)) r⟩
instance [so:SemE te a][sa:qp ta as]:qv (jP C nm (spO m) [] E te ta) (zd C nm m a as) where
 h:=λe _ _ _ _ _ rs _ q=>by
  obtain ⟨ns,fs,xs,ea,hn,e1,e2⟩:=Wi e;refine so.h ea rs λv Hs1 H1 x1 r1=>?_;obtain ⟨p,dx,gs,rfl,hp,hk,hr⟩:=rep_ob.mp r1;refine ⟨p,dx,gs,rfl,x1.s3 _ _ hp,XX (by rw [hk];exact hn),sa.h e1 (rs.go x1) λvs Hs2 H2 x2 r2=>?_⟩;exact ⟨Hs2,_,_,x2.s3,by rw [yn];exact .cons (r1.mono x2.s1) r2,e2,λv Hs' H' x n n' r=>q v _ _ (x1.trans (x2.trans x)) (x1.s2.free (x2.s2.free n)) n' r⟩
class vK (r:List V->Hp->VK->Prop)(g:List PV->Option PV):Prop where
 h:∀{xs z},g xs=some z->∀{Hs H:Hp}{vs:List V},Same Hs H->jZ Hs H xs vs->∀{Q:VK},(∀ u Hs' H',Ext Hs H Hs' H'->Rep Hs' z u->Q u H')->r vs H Q
class Xj (r:List V->Hp->VK->Prop)(g:List PV->Option PV):Prop where
 h:∀{xs z},g xs=some z->∀{Hs H:Hp}{vs:List V},Same Hs H->jZ Hs H xs vs->∀{Q:VK},(∀ a Hs' H',Ext Hs H Hs' H'->H a=none->Hs' a=none->Top Hs' H' a z->Q (.ref a) H')->r vs H Q
instance {r:List V->Hp->VK->Prop}{g:List PV->Option PV}[sr:vK r g][sa:vJ ta as]:SemE (tCB r ta) (z5 g as) where
 h:=λe _ _ _ _ _ rs _ q=>by
  obtain ⟨xs,ex,e1⟩:=bind_some e;exact sa.h ex rs λvs Hs1 H1 x1 r1=>sr.h e1 x1.s3 r1 λv Hs' H' x r=>q v _ _ (x1.trans x) r
instance {r:List V->Hp->VK->Prop}{g:List PV->Option PV}[sr:Xj r g][sa:vJ ta as]:qv (tCB r ta) (z5 g as) where
 h:=λe _ _ _ _ _ rs _ q=>by
  obtain ⟨xs,ex,e1⟩:=bind_some e;exact sa.h ex rs λvs Hs1 H1 x1 r1=>sr.h e1 x1.s3 r1 λv Hs' H' x n n' r=>q v _ _ (x1.trans x) (x1.s2.free n) n' r
theorem xx (h:jZ Hs H [x] vs):∃ v,vs=[v]/\RepB Hs H x v:=by obtain ⟨v,r,rfl,a,b⟩:=h;cases (show r=[] from b);exact ⟨v,rfl,a⟩
theorem Di (h:jZ Hs H [x,y] vs):∃ v w,vs=[v,w]/\RepB Hs H x v/\RepB Hs H y w:=by obtain ⟨v,r,rfl,a,b⟩:=h;obtain ⟨w,rfl,c⟩:=xx b;exact ⟨v,w,rfl,a,c⟩
inductive Out where
 |nx (ε:ME)|rt (y:PV)|bk (ε:ME)|ct (ε:ME)
abbrev MS:=ME->Option Out
def OutK (fr:Bool)(Hs0 H0:Hp)(D:qD):Out->Prop
 | .nx ε=>∀ Hs H σ,RS Hs0 H0 Hs H σ ε->D.nx σ H
 | .bk ε=>∀ Hs H σ,RS Hs0 H0 Hs H σ ε->D.bk σ H
 | .ct ε=>∀ Hs H σ,RS Hs0 H0 Hs H σ ε->D.ct σ H
 | .rt y=>match fr with
  |true=>∀ a Hs H,Ext Hs0 H0 Hs H->H0 a=none->Hs a=none->Top Hs H a y->D.rt (.ref a) H
  |false=>∀ v Hs H,Ext Hs0 H0 Hs H->Rep Hs y v->D.rt v H
class o8 (fr:Bool)(ts:TS)(f:MS):Prop where
 h:∀{ε o},f ε=some o->∀{Hs0 H0 Hs H σ},RS Hs0 H0 Hs H σ ε->∀{D:qD},OutK fr Hs0 H0 D o->ts D σ H
variable {fr:Bool}
def c4:MS:=λε=>some (.nx ε)
instance:o8 fr wR c4 where
 h:=λe _ _ _ _ _ rs _ q=>by cases e;exact q _ _ _ rs
def w4 (a b:MS):MS:=λε=>(a ε).bind λo=>match o with
 | .nx ε'=>b ε'
 |o=>some o
instance {t u:TS}{a b:MS}[sa:o8 fr t a][sb:o8 fr u b]:o8 fr (tSeq t u) (w4 a b) where
 h:=λe _ _ _ _ _ rs D q=>by
  obtain ⟨o,eo,e1⟩:=bind_some e;refine sa.h eo rs ?_;cases o with
  |nx ε'=>exact λHs H σ r=>sb.h e1 r q
  |rt y=>cases e1;exact q
  |bk ε'=>cases e1;exact q
  |ct ε'=>cases e1;exact q
def zt (a:M):MS:=λε=>(a ε).bind λ_=>some (.nx ε)
instance (priority:=100)[sa:c7 te a]:o8 fr (xV te) (zt a) where
 h:=λe _ _ _ _ _ rs _ q=>by
  obtain ⟨x,ex,e1⟩:=bind_some e;cases e1;exact sa.h ex rs λv Hs1 H1 x1 r1=>q _ _ _ (rs.go x1)
def u3 (a:M):MS:=λε=>(a ε).bind λx=>some (.rt x)
instance [sa:SemE te a]:o8 false (vE te) (u3 a) where
 h:=λe _ _ _ _ _ rs _ q=>by
  obtain ⟨x,ex,e1⟩:=bind_some e;cases e1;exact sa.h ex rs λv Hs1 H1 x1 r1=>q _ _ _ (rs.ext.trans x1) r1
instance [sa:qv te a]:o8 true (vE te) (u3 a) where
 h:=λe _ _ _ _ _ rs _ q=>by
  obtain ⟨x,ex,e1⟩:=bind_some e;cases e1;exact sa.h ex rs λv Hs1 H1 x1 n n' r1=>q _ _ _ (rs.ext.trans x1) (rs.ext.s2.free n) n' r1
def b9 (c:MB)(a b:MS):MS:=λε=>(c ε).bind λk=>if k=true then a ε else b ε
instance {ta tb:TS}{a b:MS}[sc:f6 t c][sa:o8 fr ta a][sb:o8 fr tb b]:o8 fr (wO t ta tb) (b9 c a b) where
 h:=λe _ _ _ _ _ rs _ q=>by
  obtain ⟨k,ex,e1⟩:=bind_some e;refine sc.h ex rs λHs1 H1 x1=>?_;cases k with
  |true=>exact qP (sa.h e1 (rs.go x1) q)
  |false=>exact qB (sb.h e1 (rs.go x1) q)
def o9:MS:=λ_=>none
instance:o8 fr Uy o9 where
 h:=λe=>by cases e
abbrev MG:=PV->ME->Option ME
def But (ts:List Nat)(σ σ':St):Prop:=σ'.length=σ.length/\∀ j,j∉ts->σ'[j]?=σ[j]?
theorem But.refl (σ:St):But [] σ σ:=⟨rfl,λ_ _=>rfl⟩
theorem But.trans {a b:List Nat}{σ1 σ2:St}(x:But a σ σ1)(y:But b σ1 σ2):But (a++b) σ σ2 :=
 ⟨y.1.trans x.1,λj hj=>(y.2 j λz=>hj (yk.mpr (.inr z))).trans (x.2 j λz=>hj (yk.mpr (.inl z)))⟩
theorem But.wk (b:But ts σ σ')(h:∀ i∈ts,σ[i]?=some none):Wk σ σ':=by refine ⟨b.1.symm,λi v e=>?_⟩;rw [b.2 i λz=>by rw [h i z] at e;cases e];exact e
class xY (tg:TG)(ts:outParam (List Nat))(g:MG):Prop where
 h:∀{x ε ε'},g x ε=some ε'->∀{Hs0 H0 Hs H σ v},RS Hs0 H0 Hs H σ ε->Rep Hs x v->∀{Q:St->Hp->Prop},(∀ σ',RS Hs0 H0 Hs H σ' ε'->But ts σ σ'->Q σ' H)->tg v σ H Q
class vb (tg:TGs)(ts:outParam (List Nat))(g:List PV->ME->Option ME):Prop where
 h:∀{xs ε ε'},g xs ε=some ε'->∀{Hs0 H0 Hs H σ vs},RS Hs0 H0 Hs H σ ε->Reps Hs xs vs->∀{Q:St->Hp->Prop},(∀ σ',RS Hs0 H0 Hs H σ' ε'->But ts σ σ'->Q σ' H)->tg vs σ H Q
def v3 (i:Nat):MG:=λx ε=>some (ε.set i (.sh x))
instance {i:Nat}:xY (r9 i) [i] (v3 i) where
 h:=λe _ _ _ _ _ _ rs r _ q=>by
  cases e;exact q _ (rs.put r) ⟨yC,λj hj=>yv λz=>hj (by rw [<- z];exact yQ.mpr rfl)⟩
def qH:List PV->ME->Option ME:=λxs ε=>match xs with
 |[]=>some ε
 |_=>none
def m5 (g:MG)(r:List PV->ME->Option ME):List PV->ME->Option ME:=λxs ε=>match xs with
 |x::xs=>(g x ε).bind (r xs)
 |_=>none
instance:vb gNil [] qH where
 h:=λ{xs ε ε'} e {_ _ _ _ _ _} rs r {_} q=>by
  unfold qH at e;split at e
  ·cases e;exact ⟨reps_nil.mp r,q _ rs (.refl _)⟩
  ·cases e
instance DU {t:TG}{u:TGs}{a b:List Nat}{g:MG}{r:List PV->ME->Option ME}[sg:xY t a g][sr:vb u b r]:vb (XI t u) (a++b) (m5 g r) where
 h:=λ{xs ε ε'} e {_ _ _ _ _ _} rs rr {_} q=>by
  unfold m5 at e;split at e
  ·obtain ⟨ε1,e1,e2⟩:=bind_some e;obtain ⟨v,w,rfl,r1,r2⟩:=reps_cons.mp rr;exact ⟨v,w,rfl,sg.h e1 rs r1 λσ1 rs1 b1=>sr.h e2 rs1 r2 λσ2 rs2 b2=>q _ rs2 (b1.trans b2)⟩
  ·cases e
instance (priority:=2000){i:Nat}{u:TGs}{b:List Nat}{r:List PV->ME->Option ME}[sr:vb u b r]:vb (XI (r9 i) u) (i::b) (m5 (v3 i) r) where
 h:=λe _ _ _ _ _ _ rs rr _ q=>(DU (t:=r9 i) (a:=[i]) (g:=v3 i)).h e rs rr q
def qI (n:Nat)(g:List PV->ME->Option ME):MG:=λx ε=>match x with
 | .tup xs=>if xs.length=n then g xs ε else none
 |_=>none
instance {t:TGs}{g:List PV->ME->Option ME}[sg:vb t ts g]:xY (gTup K n t) ts (qI n g) where
 h:=λ{x ε ε'} e {_ _ _ _ _ _} rs rr {_} q=>by
  unfold qI at e;split at e
  ·split at e
   ·rename_i hl;obtain ⟨a,vs,rfl,h,r⟩:=rep_tup.mp rr;exact ⟨a,vs,rfl,SqT.of (rs.sub _ _ h),by rw [r.length];exact hl,sg.h e rs r λσ' rs' b=>q _ rs' b⟩
   ·cases e
  ·cases e
def o3 (i:Nat)(a:M):MS:=λε=>(a ε).bind λx=>some (.nx (ε.set i (.sh x)))
def vf (i:Nat)(a:M):MS:=λε=>(a ε).bind λx=>some (.nx (ε.set i (.ow x)))
instance {i:Nat}[sa:SemE te a]:o8 fr (qT te (r9 i)) (o3 i a) where
 h:=λe _ _ _ _ _ rs _ q=>by
  obtain ⟨x,ex,e1⟩:=bind_some e;cases e1;exact sa.h ex rs λv Hs1 H1 x1 r1=>q _ _ _ ((rs.go x1).put r1)
instance {i:Nat}[sa:qv te a]:o8 fr (qT te (r9 i)) (vf i a) where
 h:=λe _ _ _ _ _ rs _ q=>by
  obtain ⟨x,ex,e1⟩:=bind_some e;cases e1;refine sa.h ex rs λp Hs1 H1 x1 n n' t=>q _ _ _ ((rs.go x1).putO ⟨rs.ext.s2.free n,n',t⟩ λj y hj z=>?_);obtain ⟨b,hb,_,_,tb⟩:=rs.ow j y hj;rw [z] at hb;injection hb with hb;injection hb with hb;injection hb with hb;subst hb;exact tb.there n
def pIp (g:Int->Int->Int):PV->PV->Option PV
 | .at (.int i),.at (.int j)=>some (.at (.int (g i j)))
 |_,_=>none
def dAppend (i:Nat)(a:M):MS:=λε=>(a ε).bind λx=>match ε[i]? with
 |some (.ow (.lst xs))=>if xs.length<=lim then some (.nx (ε.set i (.ow (.lst (xs++[x]))))) else none
 |_=>none
def dExtend (i:Nat)(a:M):MS:=λε=>(a ε).bind λx=>match x with
 | .lst ys=>(match ε[i]? with
  |some (.ow (.lst xs))=>if xs.length+ys.length<=lim then some (.nx (ε.set i (.ow (.lst (xs++ys))))) else none
  |_=>none)
 |_=>none
structure jg (J:It)(xs:List PV)(Hs:Hp):Prop where
 go:∀(i:Nat)(x:PV)(Hs1 H1:Hp),xs[i]?=some x->Same Hs Hs1->Same Hs1 H1->J.go i H1/\∀ v H2,J.yld i H1 v H2->∃ Hs2,Ext Hs1 H1 Hs2 H2/\Rep Hs2 x v
 stop:∀(Hs1 H1:Hp),Same Hs Hs1->Same Hs1 H1->J.stop xs.length H1
class xl (ti:TI)(f:MA):Prop where
 h:∀{ε xs},f ε=some xs->∀{Hs0 H0 Hs H σ},RS Hs0 H0 Hs H σ ε->∀{R:It->Hp->Prop},(∀ J Hs' H',Ext Hs H Hs' H'->jg J xs Hs'->R J H')->ti σ H R
def y7 (a:M):MA:=λε=>(a ε).bind λx=>match x with
 | .lst xs=>some xs
 |_=>none
theorem Bb {a:Addr}(h:Hs a=some (.lst vs))(r:Reps Hs xs vs):jg (Itl K a) xs Hs where
 go:=λi x Hs1 H1 e g1 g2=>by
  obtain ⟨v,ev,rv⟩:=r.get e;refine ⟨⟨vs,v,SqL.of (g2 _ _ (g1 _ _ h)),ev⟩,λw H2 y=>?_⟩;obtain ⟨rfl,y⟩:=y;have z:=y vs (SqL.of (g2 _ _ (g1 _ _ h)));rw [ev] at z;cases z;exact ⟨Hs1,.refl g2,rv.mono g1⟩
 stop:=λHs1 H1 g1 g2=>⟨vs,SqL.of (g2 _ _ (g1 _ _ h)),by rw [r.length];exact yS _⟩
instance [sa:SemE te a]:xl (vk K te) (y7 a) where
 h:=λe _ _ _ _ _ rs _ q=>by
  obtain ⟨x,ex,e1⟩:=bind_some e;split at e1
  ·cases e1;refine sa.h ex rs λv Hs1 H1 x1 r1=>?_;obtain ⟨p,vs,rfl,hp,r⟩:=rep_lst.mp r1;exact ⟨p,rfl,⟨vs,SqL.of (x1.s3 _ _ hp)⟩,q _ _ _ x1 (Bb hp r)⟩
  ·cases e1
def qQ (lo:Int)(n:Nat):List PV:=(List.range n).map λ(i:Nat)=> .at (.int (lo+i))
theorem jb :(qQ lo n).length=n:=by unfold qQ;rw [yZ,List.length_range]
theorem Dk {i:Nat}(h:(qQ lo n)[i]?=some x):i<n/\x = .at (.int (lo+i)):=by
 have hl:i<n:=by have:=(yG.mp h).1;rw [jb] at this;exact this
 refine ⟨hl,?_⟩;unfold qQ at h;rw [yV,List.getElem?_range hl] at h;cases h;rfl
theorem Bc :jg (Itr lo n) (qQ lo n) Hs where
 go:=λi x Hs1 H1 e g1 g2=>by
  obtain ⟨hl,rfl⟩:=Dk e;refine ⟨hl,λv H2 y=>?_⟩;obtain ⟨rfl,rfl⟩:=y;exact ⟨Hs1,.refl g2,rep_at.mpr rfl⟩
 stop:=λHs1 H1 g1 g2=>by show n<=_;rw [jb];exact yS _
def xJ (a:MA):MA:=λε=>(a ε).bind λxs=>match xs with
 |[.at (.int j)]=>if -(lim:Int)<=j/\j<=lim then some (qQ 0 j.toNat) else none
 |_=>none
instance {a:MA}[sa:qp ta a]:xl (Qu ta) (xJ a) where
 h:=λe _ _ _ _ _ rs _ q=>by
  obtain ⟨xs,ex,e1⟩:=bind_some e;split at e1
  ·rename_i j;split at e1
   ·rename_i hl;cases e1;refine sa.h ex rs λvs Hs1 H1 x1 r1=>?_;obtain ⟨v,r,rfl,p1,p2⟩:=reps_cons.mp r1;cases reps_nil.mp p2;cases rep_at.mp p1;have hlim:(lim:Int)=1000000:=rfl;exact ⟨j,rfl,by omega,by omega,q _ _ _ x1 Bc⟩
   ·cases e1
  ·cases e1
def f9 (g:MG)(f:MS):List PV->ME->Option Out
 |[],ε=>some (.nx ε)
 |x::xs,ε=>(g x ε).bind λε1=>(f ε1).bind λo=>match o with
  | .nx ε2=>f9 g f xs ε2
  | .ct ε2=>f9 g f xs ε2
  | .bk ε2=>some (.nx ε2)
  | .rt y=>some (.rt y)
def xI (i:MA)(g:MG)(f:MS):MS:=λε=>(i ε).bind λxs=>f9 g f xs ε
theorem OutK.unbase {D:qD}(x:Ext Hs0 H0 Hb H):∀{o:Out},OutK fr Hs0 H0 D o->OutK fr Hb H0 D o
 | .nx _,h=>λHs H σ r=>h _ _ _ (RS.unbase x r)
 | .bk _,h=>λHs H σ r=>h _ _ _ (RS.unbase x r)
 | .ct _,h=>λHs H σ r=>h _ _ _ (RS.unbase x r)
 | .rt _,h=>by
  cases fr with
  |true=>exact λa Hs H e n n' t=>h a Hs H (x.unbase e) n n' t
  |false=>exact λa Hs H e r=>h a Hs H (x.unbase e) r
instance {tb:TS}{i:MA}{g:MG}{f:MS}[si:xl wi i][sg:xY tg ts g][sf:o8 fr tb f]:o8 fr (tFor wi tg tb) (xI i g f) where
 h:=λe Hs0 H0 _ _ _ rs D q=>by
  obtain ⟨xs,ex,e1⟩:=bind_some e;refine si.h ex rs λJ Hs1 H1 x1 ok=>?_;have rs1:=rs.go x1;have q1:=OutK.unbase rs1.ext q;refine ⟨λk m σ H=>m=xs.length-k/\k<=xs.length/\∃ Hs ε,RS Hs1 H0 Hs H σ ε/\f9 g f (xs.drop k) ε=some _,⟨xs.length,by simp,yh _,Hs1,_,rs1.rebase,e1⟩,?_⟩;rintro k m σ H ⟨rfl,hk,Hs,ε,r,el⟩;by_cases hlt:k<xs.length
  ·have hd:xs.drop k=xs[k]::xs.drop (k+1):=yi hlt;rw [hd] at el;unfold f9 at el;obtain ⟨ε1,eg,el1⟩:=bind_some el;obtain ⟨o,eo,el2⟩:=bind_some el1;obtain ⟨go,yl⟩:=ok.go k xs[k] Hs H (by simp [hlt]) r.ext.s1 r.ext.s3;refine .inr ⟨go,λσ' H'=>k+1<=xs.length/\∃ Hs ε,RS Hs1 H0 Hs H' σ' ε/\f9 g f (xs.drop (k+1)) ε=some _,λσ' H' p=>⟨xs.length-(k+1),by omega,rfl,p.1,p.2⟩,λv H2 y=>?_⟩;obtain ⟨Hs2,x2,r2⟩:=yl v H2 y;refine sg.h eg (r.go x2) r2 λσ2 rs2 _=>sf.h eo rs2 ?_;cases o with
   |nx ε2=>exact λHs3 H3 σ3 r3=>⟨hlt,Hs3,ε2,r3,el2⟩
   |ct ε2=>exact λHs3 H3 σ3 r3=>⟨hlt,Hs3,ε2,r3,el2⟩
   |bk ε2=>cases el2;exact q1
   |rt y=>cases el2;exact q1
  ·have ek:k=xs.length:=by omega
   subst ek;rw [uS] at el;unfold f9 at el;cases el;exact .inl ⟨ok.stop Hs H r.ext.s1 r.ext.s3,q1 _ _ _ r⟩
def k9 (cap:List (Option Nat))(ε:ME):ME:=cap.map λo=>match o with
 |none=> .no
 |some i=>(ε[i]?).getD .no
def p7 (g:MG)(c:MB)(f:M)(ε0:ME):List PV->Option (List PV)
 |[]=>some []
 |x::xs=>(g x ε0).bind λε1=>(c ε1).bind λb=>if b=true then (f ε1).bind λy=>(p7 g c f ε0 xs).bind λys=>some (y::ys) else p7 g c f ε0 xs
def k4:MB:=λ_=>some true
instance:f6 tYes k4 where
 h:=λe _ _ _ _ _ rs _ q=>by cases e;exact q _ _ (.refl rs.sub)
def qO (cap:List (Option Nat))(ts:List Nat):Bool:=decide (cap.filterMap id).Nodup&&ts.all λi=>decide (cap[i]?=some none)
def u6 (cap:List (Option Nat))(ts:List Nat)(i:MA)(g:MG)(c:MB)(f:M):M:=λε=>(i ε).bind λxs=>if qO cap ts=true/\xs.length<=lim then (p7 g c f (k9 cap ε) xs).bind λys=>some (.lst ys) else none
theorem RS.cap {cap:List (Option Nat)}(hc:(cap.filterMap id).Nodup)(r:RS Hs0 H0 Hs H σ ε):RS Hs0 H0 Hs H (u8 cap σ) (k9 cap ε):=by
 have inj:∀(i j k:Nat),cap[i]?=some (some k)->cap[j]?=some (some k)->i=j:=by
  clear r
  induction cap with
  |nil=>intro i j k h;simp at h
  |cons o cap ih =>
   intro i j k hi hj;have no:∀(l:Nat),o=some k->cap[l]?=some (some k)->False:=λl ho hl=>by
    subst ho;rw [List.filterMap_cons_some (by rfl)] at hc;exact (yF.mp hc).1 (List.mem_filterMap.mpr ⟨some k,yu hl,rfl⟩)
   have hc':(cap.filterMap id).Nodup:=by
    cases o with
    |none=>rwa [List.filterMap_cons_none (by rfl)] at hc
    |some m=>rw [List.filterMap_cons_some (by rfl)] at hc;exact (yF.mp hc).2
   cases i with
   |zero =>
    cases j with
    |zero=>rfl
    |succ j=>exact (no j (by simpa using hi) (by simpa using hj)).elim
   |succ i =>
    cases j with
    |zero=>exact (no i (by simpa using hj) (by simpa using hi)).elim
    |succ j=>rw [ih hc' i j k (by simpa using hi) (by simpa using hj)]
 have at1:∀(i:Nat)(sl:MSlot),(k9 cap ε)[i]?=some sl->sl = .no∨∃ k,cap[i]?=some (some k)/\ε[k]?=some sl:=by
  intro i sl h;unfold k9 at h;rw [yV] at h;cases ho:cap[i]? with
  |none=>rw [ho] at h;cases h
  |some o =>
   rw [ho] at h;cases o with
   |none=>cases h;exact .inl rfl
   |some k =>
    cases hk:ε[k]? with
    |none=>simp only [uK,hk,ur] at h;cases h;exact .inl rfl
    |some s=>simp only [uK,hk,Option.getD_some] at h;cases h;exact .inr ⟨k,rfl,hk⟩
 have at2:∀(i k:Nat),cap[i]?=some (some k)->∀ v,σ[k]?=some (some v)->(u8 cap σ)[i]?=some (some v):=by intro i k h v e;unfold u8;rw [yV,h];simp [e]
 have at3:∀(i k:Nat)(v:V),cap[i]?=some (some k)->(u8 cap σ)[i]?=some (some v)->σ[k]?=some (some v):=by
  intro i k v h e;unfold u8 at e;rw [yV,h] at e;simp only [uK,yI,Option.some.injEq] at e;cases hs:σ[k]? with
  |none=>rw [hs] at e;cases e
  |some o=>rw [hs] at e;simp at e;rw [e]
 refine ⟨r.ext,λi x h=>?_,λi x h=>?_,λi j x y a h1 h2 h3 h4=>?_,by unfold u8 k9;rw [yZ,yZ],λi x h=>?_⟩
 ·rcases at1 i _ h with z|⟨k,hk,e⟩
  ·cases z
  ·obtain ⟨v,hv,rv⟩:=r.sh k x e;exact ⟨v,at2 i k hk v hv,rv⟩
 ·rcases at1 i _ h with z|⟨k,hk,e⟩
  ·cases z
  ·obtain ⟨v,hv,rv⟩:=r.ow k x e;exact ⟨v,at2 i k hk _ hv,rv⟩
 ·rcases at1 i _ h1 with z|⟨k,hk,e⟩
  ·cases z
  ·rcases at1 j _ h2 with z|⟨l,hl,e'⟩
   ·cases z
   ·have kl:=r.nd k l x y a e e' (at3 i k _ hk h3) (at3 j l _ hl h4);subst kl;exact inj i j k hk hl
 ·rcases at1 i _ h with z|⟨k,hk,e⟩
  ·cases z
  ·obtain ⟨v,hv,rv⟩:=r.bo k x e;exact ⟨v,at2 i k hk _ hv,rv⟩
theorem Reps.snoc (r:Reps H xs vs)(p:Rep H x v):Reps H (xs++[x]) (vs++[v]):=r.append (.one p)
instance {tt:TT}{cap:List (Option Nat)}{i:MA}{g:MG}{f:M}[si:xl wi i][sg:xY tg ts g][sc:f6 tt c][sf:SemE te f]:qv (zl wi tg tt te cap) (u6 cap ts i g c f) where
 h:=λe Hs0 H0 Hs H σ rs Q q=>by
  obtain ⟨xs,ex,e1⟩:=bind_some e;split at e1
  ·rename_i hcl;obtain ⟨hcap,hl⟩:=hcl;unfold qO at hcap;rw [yb] at hcap;obtain ⟨ys,ey,e2⟩:=bind_some e1;cases e2;refine si.h ex rs λJ Hs1 H1 x1 ok=>?_;have rc:=((rs.go x1).cap (yc hcap.1)).rebase;have wk:∀ i∈ts,(u8 cap σ)[i]?=some none:=λi hi=>by
    unfold u8;rw [yV,yc (uY.mp hcap.2 i hi)];rfl
   refine ⟨λk m zs H=>m=xs.length-k/\k<=xs.length/\∃ Hs2 ws,Ext Hs1 H1 Hs2 H/\RS Hs1 H0 Hs2 H (u8 cap σ) (k9 cap _)/\Reps Hs2 ws zs/\ws.length<=k/\∃ rest,p7 g c f (k9 cap _) (xs.drop k)=some rest/\ys=ws++rest,
    ⟨xs.length,by simp,yh _,Hs1,[],.refl x1.s3,rc,.nil,yS _,ys,ey,rfl⟩,?_⟩
   rintro k m zs H2 ⟨rfl,hk,Hs2,ws,x2,r2,rz,hw,rest,er,eys⟩;refine ⟨qj (by rw [rz.length];omega),?_⟩;by_cases hlt:k<xs.length
   ·have hd:xs.drop k=xs[k]::xs.drop (k+1):=yi hlt;rw [hd] at er;unfold p7 at er;obtain ⟨ε1,eg,er1⟩:=bind_some er;obtain ⟨b,eb,er2⟩:=bind_some er1;obtain ⟨go,yl⟩:=ok.go k xs[k] Hs2 H2 (by simp [hlt]) x2.s1 x2.s3;refine .inr ⟨go,λv H3 y=>?_⟩;obtain ⟨Hs3,x3,r3⟩:=yl v H3 y;refine sg.h eg (r2.go x3) r3 λσ2 rs2 bt=>⟨bt.wk wk,sc.h eb rs2 λHs4 H4 x4=>?_⟩;cases b with
    |true =>
     rw [if_pos rfl] at er2;obtain ⟨z,ez,er3⟩:=bind_some er2;obtain ⟨rest',er4,er5⟩:=bind_some er3;cases er5;refine qP (sf.h ez (rs2.go x4) λu Hs5 H5 x5 r5=>⟨xs.length-(k+1),by omega,rfl,hlt,Hs5,ws++[z],x2.trans (x3.trans (x4.trans x5)),((r2.go x3).go x4).go x5,?_,?_,rest',er4,?_⟩)
     ·exact (rz.mono (x3.s1.trans (x4.s1.trans x5.s1))).snoc r5
     ·rw [yL];simp;omega
     ·rw [uV];exact eys
    |false=>rw [if_neg yW] at er2;exact qB ⟨xs.length-(k+1),by omega,rfl,hlt,Hs4,ws,x2.trans (x3.trans x4),(r2.go x3).go x4,rz.mono (x3.s1.trans x4.s1),by omega,rest,er2,eys⟩
   ·have ek:k=xs.length:=by omega
    subst ek;rw [uS] at er;unfold p7 at er;cases er;refine .inl ⟨ok.stop Hs2 H2 x2.s1 x2.s3,λD hD=>?_⟩;rw [yn] at eys;subst eys;have x12:=x1.trans x2;exact q D Hs2 _ (x12.trans (.newO x2.s3 hD)) (x12.s2.free hD) (x2.s3.free hD) ⟨zs,w6,rz⟩
  ·cases e1
def g8 (n k:Nat)(f:MS):List PV->Option PV:=λxs=>if xs.length=k then (f (xs.map .sh++List.replicate (n-k) .no)).bind λo=>match o with
 | .rt y=>some y
 | .nx _=>some (.at .non)
 |_=>none else none
def xH (n k:Nat)(f:MS):List PV->Option PV:=λxs=>if xs.length=k then (f (xs.map .sh++List.replicate (n-k) .no)).bind λo=>match o with
 | .rt y=>some y
 |_=>none else none
end Mi
namespace Mi
open PySem PySem.Spec PyProof.Rows L2
variable{N ps:List Str}{qual x:Str}{st:Stmt}{f:Addr}{fd:FuncData}{b:MS}{m:List PV->Option PV}
theorem jM {Hs H:Hp}{xs:List PV}{vs:List V}(s:Same Hs H)(r:Reps Hs xs vs):RS Hs H Hs H (L2.start N vs) (xs.map .sh++List.replicate (N.length-xs.length) .no):=by
 have el:=r.length;have at1:∀(i:Nat)(sl:MSlot),(xs.map MSlot.sh++List.replicate (N.length-xs.length) .no)[i]?=some sl->sl = .no∨∃ x,xs[i]?=some x/\sl = .sh x:=by
  intro i sl h;by_cases hi:i<xs.length
  ·rw [uL (by rw [yZ];exact hi),yV] at h;obtain ⟨x,hx,rfl⟩:=yK.mp h;exact .inr ⟨x,hx,rfl⟩
  ·rw [uE (by rw [yZ];omega),uA] at h;split at h
   ·cases h;exact .inl rfl
   ·cases h
 refine ⟨.refl s,λi x h=>?_,λi x h=>?_,λi j x y a h1 _ _ _=>?_,?_,λi x h=>?_⟩
 ·rcases at1 i _ h with z|⟨y,hy,z⟩
  ·cases z
  ·cases z;obtain ⟨v,hv,rv⟩:=r.get hy;refine ⟨v,?_,rv⟩;unfold L2.start;rw [uL (by rw [yZ];exact (yG.mp hv).1),yV,hv];rfl
 ·rcases at1 i _ h with z|⟨y,hy,z⟩<;>cases z
 ·rcases at1 i _ h1 with z|⟨y,hy,z⟩<;>cases z
 ·unfold L2.start;rw [yL,yL,yZ,yZ,ut,ut,el]
 ·rcases at1 i _ h with z|⟨y,hy,z⟩<;>cases z
section
variable {P:Program}{w:World}{K:Fg}{mg:Str->Option Value}{base:Heap}
theorem c8 {k:Nat}(F:Fun K x qual st f fd)(S:v9 N ps (j8 st))(hm:m=g8 N.length ps.length b)(hb:∀(cdv:Value)(A:Around)(outer:List Env)(s:Shared)(H:Hp)(E:XK),Room k (A.deeper (envOfC qual (j8 st) s.heap.objs.size f cdv)) -> ∃ t,PSs (qG v5 P w K mg base N qual (j8 st) f cdv A outer s H E).nox (i4 st) t/\o8 false t b):FnOk P w K mg base v5 (k+1) f fd ps (v6 m):=by
 subst hm;refine F.ok S (λvs H Q E h=>?_) (λcdv A outer s H vs Q E hr h=>?_)
 ·obtain ⟨Hs,xs,y,_,r,e,_⟩:=h;unfold g8 at e;split at e
  ·rename_i hl;rw [r.length];exact hl
  ·cases e
 ·obtain ⟨Hs,xs,y,sm,r,e,q⟩:=h;obtain ⟨t,ht,sem⟩:=hb cdv A outer s H E hr;refine ⟨t,ht,?_⟩;unfold g8 at e;split at e
  ·rename_i hl;obtain ⟨o,eo,e1⟩:=bind_some e;refine sem.h eo (by rw [<- hl];exact jM sm r) ?_;cases o with
   |rt z=>cases e1;exact λv Hs' H' x rv=>q v Hs' H' x rv
   |nx ε=>cases e1;exact λHs' H' σ rs=>q _ Hs' H' rs.ext (rep_at.mpr rfl)
   |bk ε=>cases e1
   |ct ε=>cases e1
  ·cases e
theorem okO {k:Nat}(F:Fun K x qual st f fd)(S:v9 N ps (j8 st))(hm:m=xH N.length ps.length b)(hb:∀(cdv:Value)(A:Around)(outer:List Env)(s:Shared)(H:Hp)(E:XK),Room k (A.deeper (envOfC qual (j8 st) s.heap.objs.size f cdv)) -> ∃ t,PSs (qG v5 P w K mg base N qual (j8 st) f cdv A outer s H E).nox (i4 st) t/\o8 true t b):FnOk P w K mg base v5 (k+1) f fd ps (spO m):=by
 subst hm;refine F.ok S (λvs H Q E h=>?_) (λcdv A outer s H vs Q E hr h=>?_)
 ·obtain ⟨Hs,xs,y,_,r,e,_⟩:=h;unfold xH at e;split at e
  ·rename_i hl;rw [r.length];exact hl
  ·cases e
 ·obtain ⟨Hs,xs,y,sm,r,e,q⟩:=h;obtain ⟨t,ht,sem⟩:=hb cdv A outer s H E hr;refine ⟨t,ht,?_⟩;unfold xH at e;split at e
  ·rename_i hl;obtain ⟨o,eo,e1⟩:=bind_some e;refine sem.h eo (by rw [<- hl];exact jM sm r) ?_;cases o with
   |rt z=>cases e1;exact λa Hs' H' x n n' t=>q a Hs' H' x n n' t
   |nx ε=>cases e1
   |bk ε=>cases e1
   |ct ε=>cases e1
  ·cases e
end
end Mi
namespace Mi
open PySem L2
variable{X:Cx}{K:Fg}{ta:TA}{j n:Int}{H H0 Hs Hs0:Hp}{xs ys:List PV}{x y:PV}{v:V}{td te tv ty:TE}{vs ws:List V}{l u:ME->Option (Option Int)}{o:HO}{f nm qual:Str}{tt:TT}{G g:MG}{t tb:TS}{S:List Addr}{σ σ':St}{ε ε':ME}{E:XK}{pre:List PV->Prop}{R:List PV->PV->Prop}{as it:MA}{c:MB}{wi:TI}{tg:TG}{ts:List Nat}{N ns ps:List Str}{st:Stmt}{fd:FuncData}{m:List PV->Option PV}{C:Addr}{e:Expr}{pos:Pos}{pl:Sem Bool}{α:Type}{sp:Sp}
theorem qf {a:Expr}{ta:TE}(h:X.K=K)(ha:PE X a ta)(he:∀ whole,isTrue a X.env whole=(do let v <- whole;standAt a.pos;holding [v] (truthy v))):PT X a (tTru K ta):=CQ h ha he
abbrev zW:PV->PV->Option PV:=pI λi j=>some (.int (i-j))
abbrev pLt:PV->PV->Option PV:=pI λi j=>some (.bl (decide (i<j)))
abbrev pLe:PV->PV->Option PV:=pI λi j=>some (.bl (decide (i<=j)))
abbrev pGt:PV->PV->Option PV:=pI λi j=>some (.bl (decide (j<i)))
abbrev pGe:PV->PV->Option PV:=pI λi j=>some (.bl (decide (j<=i)))
instance {i:Int}:Decidable (vH i j):=by unfold vH;infer_instance
instance {i:Int}:Decidable (zI i j):=by unfold zI;infer_instance
abbrev wy:PV->PV->Option PV:=pI λi j=>if vH i j then some (.int (i*j)) else none
abbrev pPow:PV->PV->Option PV:=pI λi j=>if zI i j then some (.int (i ^ j.toNat)) else none
abbrev pNeg:PV->Option PV:=pU λi=> .int (-i)
theorem Reps.nil_of (r:Reps H xs []):xs=[]:=uz.mp r.length.symm
def ql:PV->PV->Option PV
 | .at (.int i),.at (.int j)=>some (.at (.int (i+j)))
 | .at (.str x),.at (.str y)=>if x.length+y.length<=lim then some (.at (.str (x++y))) else none
 | .lst xs,.lst ys=>if xs.length+ys.length<=lim then some (.lst (xs++ys)) else none
 | .tup xs,.tup ys=>if xs≠[]/\xs.length+ys.length<=lim then some (.tup (xs++ys)) else none
 |_,_=>none
instance :qN (Zs K) ql where
 h:=λ{x y z} e {Hs H v w} s a b {Q} q=>by
  unfold ql at e;split at e
  ·cases e;exact .inl ⟨_,_,u7 a,u7 b,q _ _ _ (.refl s) (rep_at.mpr rfl)⟩
  ·split at e
   ·rename_i hl;cases e;exact .inr (.inl ⟨_,_,u7 a,u7 b,qj hl,q _ _ _ (.refl s) (rep_at.mpr rfl)⟩)
   ·cases e
  ·split at e
   ·rename_i hl;cases e;obtain ⟨p,vs,rfl,e1,r1⟩:=i8 s a;obtain ⟨p',ws,rfl,e2,r2⟩:=i8 s b;refine .inr (.inr (.inl ⟨p,p',vs,ws,rfl,rfl,SqL.of e1,SqL.of e2,qj (by rw [r1.length,r2.length];exact hl),λl hl=>?_⟩));exact q _ _ _ (.new s hl) (rep_lst.mpr ⟨l,_,rfl,w6,(r1.append r2).mono (Ext.new s hl).s1⟩)
   ·cases e
  ·split at e
   ·rename_i hl;cases e;obtain ⟨p,vs,rfl,e1,r1⟩:=qL s a;obtain ⟨p',ws,rfl,e2,r2⟩:=qL s b;have hn:vs≠[]:=λz=>by
     have h1:=r1.length;rw [z] at h1;exact hl.1 (uz.mp h1.symm)
    refine .inr (.inr (.inr ⟨p,p',vs,ws,rfl,rfl,SqT.of e1,SqT.of e2,hn,qj (by rw [r1.length,r2.length];exact hl.2),λz=>?_,λz l hl=>?_⟩))
    ·subst z;cases r2.nil_of;rw [yn] at q;rcases a with a|⟨_,_,_,t⟩
     ·exact q _ _ _ (.refl s) a
     ·exact t.elim
    ·exact q _ _ _ (.new s hl) (rep_tup.mpr ⟨l,_,rfl,w6,(r1.append r2).mono (Ext.new s hl).s1⟩)
   ·cases e
  ·cases e
def m8:List PV->Option PV
 |[.at (.str x)]=>if x.length<=lim then some (.at (.int x.length)) else none
 |[.lst xs]=>some (.at (.int xs.length))
 |[.tup xs]=>some (.at (.int xs.length))
 |[.dk ks _]=>some (.at (.int ks.length))
 |_=>none
instance :vK (vB K) m8 where
 h:=λ{xs z} e {Hs H vs} s r {Q} q=>by
  unfold m8 at e;split at e
  ·split at e
   ·rename_i hl;cases e;obtain ⟨v,rfl,a⟩:=xx r;cases u7 a;exact .inl ⟨_,_,rfl,⟨qj hl,rfl⟩,q _ _ _ (.refl s) (rep_at.mpr rfl)⟩
   ·cases e
  ·cases e;obtain ⟨v,rfl,a⟩:=xx r;obtain ⟨p,ws,rfl,e1,r1⟩:=i8 s a;exact .inl ⟨_,_,rfl,.inl ⟨ws,SqL.of e1,rfl⟩,q _ _ _ (.refl s) (rep_at.mpr (by rw [r1.length]))⟩
  ·cases e;obtain ⟨v,rfl,a⟩:=xx r;obtain ⟨p,ws,rfl,e1,r1⟩:=qL s a;exact .inl ⟨_,_,rfl,.inr ⟨ws,SqT.of e1,rfl⟩,q _ _ _ (.refl s) (rep_at.mpr (by rw [r1.length]))⟩
  ·cases e;obtain ⟨v,rfl,a⟩:=xx r;obtain ⟨p,kvs,rfl,e1,k,r1⟩:=ja s a;exact .inr ⟨p,kvs,rfl,e1,q _ _ _ (.refl s) (rep_at.mpr (by rw [<- k,yZ]))⟩
  ·cases e
def zA:List PV->Option PV
 |[.lst xs]=>some (.lst xs)
 |[.tup xs]=>some (.lst xs)
 |_=>none
instance :Xj (YN K) zA where
 h:=λ{xs z} e {Hs H vs} s r {Q} q=>by
  unfold zA at e;split at e
  ·cases e;obtain ⟨v,rfl,a⟩:=xx r;obtain ⟨p,ws,rfl,e1,r1⟩:=i8 s a;exact ⟨p,ws,rfl,.inl (SqL.of e1),λl hl=>q l _ _ (.newO s hl) hl (s.free hl) ⟨ws,w6,r1⟩⟩
  ·cases e;obtain ⟨v,rfl,a⟩:=xx r;obtain ⟨p,ws,rfl,e1,r1⟩:=qL s a;exact ⟨p,ws,rfl,.inr (SqT.of e1),λl hl=>q l _ _ (.newO s hl) hl (s.free hl) ⟨ws,w6,r1⟩⟩
  ·cases e
def tyP:PV->Option String
 | .at .non=>some "NoneType"
 | .at (.bl _)=>some "bool"
 | .at (.int _)=>some "int"
 | .at (.str _)=>some "str"
 | .lst _=>some "list"
 | .tup _=>some "tuple"
 | .dk _ _=>some "dict"
 |_=>none
theorem MF {T:String}(s:Same Hs H)(r:RepB Hs H x v)(e:tyP x=some T):qF K H v (.type T):=by
 unfold tyP at e;split at e
 ·cases e;cases u7 r;exact .non
 ·cases e;cases u7 r;exact .bl _
 ·cases e;cases u7 r;exact .int _
 ·cases e;cases u7 r;exact .str _
 ·cases e;obtain ⟨p,ws,rfl,e1,r1⟩:=i8 s r;exact .lst e1
 ·cases e;obtain ⟨p,ws,rfl,e1,r1⟩:=qL s r;exact .tup e1
 ·cases e;obtain ⟨p,ws,rfl,e1,_⟩:=ja s r;exact .dK e1
 ·cases e
def m7:List PV->Option PV
 |[x,.at (.ty n)]=>(tyP x).bind λT=>(tyB T n).bind λb=>some (.at (.bl b))
 |_=>none
instance :vK (rIsi K) m7 where
 h:=λ{xs z} e {Hs H vs} s r {Q} q=>by
  unfold m7 at e;split at e
  ·obtain ⟨T,eT,e1⟩:=bind_some e;obtain ⟨b,eb,e2⟩:=bind_some e1;cases e2;obtain ⟨v,w,rfl,a,c⟩:=Di r;cases u7 c;exact ⟨v,_,T,b,rfl,MF s a eT,eb,q _ _ _ (.refl s) (rep_at.mpr rfl)⟩
  ·cases e
def bls:List PV->Option (List Bool)
 |[]=>some []
 | .at (.bl b)::xs=>(bls xs).map (b::·)
 |_::_=>none
theorem VS:∀{xs:List PV}{bs:List Bool},bls xs=some bs->xs=bs.map λb=> .at (.bl b)
 |[],_,h=>by cases h;rfl
 |x::xs,bs,h=>by
  unfold bls at h;split at h
  ·rename_i heq;cases heq
  ·rename_i b ys heq;injection heq with h1 h2;obtain ⟨r,e,rfl⟩:=yK.mp h;subst h2;rw [h1,yN,VS e]
  ·cases h
def xr:List PV->Option PV
 |[.lst xs]=>(bls xs).bind λbs=>some (.at (.bl (bs.all id)))
 |_=>none
instance :vK (YH K) xr where
 h:=λ{xs z} e {Hs H vs} s r {Q} q=>by
  unfold xr at e;split at e
  ·obtain ⟨bs,eb,e1⟩:=bind_some e;cases e1;obtain ⟨v,rfl,a⟩:=xx r;obtain ⟨p,ws,rfl,e1,r1⟩:=i8 s a;rw [VS eb,show (bs.map λb=>PV.at (.bl b))=(bs.map V.bl).map .at by rw [yr];rfl] at r1;cases r1.ats;exact ⟨p,bs,rfl,SqL.of e1,q _ _ _ (.refl s) (rep_at.mpr rfl)⟩
  ·cases e
def jw:PV->Bool
 | .at .non=>true
 |_=>false
def vU:PV->Bool
 | .op _=>true
 |_=>false
def wx:PV->PV->Option PV:=λx y=>if jw y=true/\vU x=false then some (.at (.bl (jw x))) else none
def QR:PV->PV->Option PV:=λx y=>if jw y=true/\vU x=false then some (.at (.bl (!jw x))) else none
theorem Qw (s:Same Hs H)(r:RepB Hs H x v)(ho:vU x=false):decide (v = .non)=jw x:=by
 cases x with
 |«at» u=>cases u7 r;cases v<;>first|rfl|(exact yD (λz=>nomatch z))
 |tup xs=>obtain ⟨p,ws,rfl,_⟩:=qL s r;exact yD (λz=>nomatch z)
 |lst xs=>obtain ⟨p,ws,rfl,_⟩:=i8 s r;exact yD (λz=>nomatch z)
 |dk ks xs=>obtain ⟨p,ws,rfl,_⟩:=ja s r;exact yD (λz=>nomatch z)
 |fk ks xs=>obtain ⟨p,o,ws,rfl,_⟩:=wK s r;exact yD (λz=>nomatch z)
 |ob C ns xs=>obtain ⟨p,dx,ws,rfl,_⟩:=Uc s r;exact yD (λz=>nomatch z)
 |op φ=>cases ho
instance:qN rIsN wx where
 h:=λ{x y z} e {Hs H v w} s a b {Q} q=>by
  unfold wx at e;split at e
  ·rename_i hy;cases e;have hb:vU y=false:=by cases y<;>first|rfl|(exact absurd hy.1 (by simp [jw]))
   refine ⟨yc ((Qw s b hb).trans hy.1),?_⟩;rw [Qw s a hy.2];exact q _ _ _ (.refl s) (rep_at.mpr rfl)
  ·cases e
instance:qN YO QR where
 h:=λ{x y z} e {Hs H v w} s a b {Q} q=>by
  unfold QR at e;split at e
  ·rename_i hy;cases e;have hb:vU y=false:=by cases y<;>first|rfl|(exact absurd hy.1 (by simp [jw]))
   refine ⟨yc ((Qw s b hb).trans hy.1),?_⟩;rw [Qw s a hy.2];exact q _ _ _ (.refl s) (rep_at.mpr rfl)
  ·cases e
def xQ (f:PV->PV->Option Bool):List PV->List PV->Option Bool
 |x::xs,y::ys=>(f x y).bind λa=>(xQ f xs ys).bind λb=>some (a&&b)
 |_,_=>some true
def peq0:PV->PV->Option Bool
 | .at u,.at v=>if u4 u=true/\u4 v=true then some (h8 u v) else none
 |_,_=>none
def peq1 (f:PV->PV->Option Bool):PV->PV->Option Bool
 | .at u,.at v=>if u4 u=true/\u4 v=true then some (h8 u v) else none
 | .lst xs,.lst ys=>if xs.length=ys.length then xQ f xs ys else some false
 | .tup xs,.tup ys=>(xQ f xs ys).bind λb=>some (b&&xs.length==ys.length)
 | .lst _,.tup _=>some false
 | .tup _,.lst _=>some false
 | .at u,.lst _=>if u4 u=true then some false else none
 | .at u,.tup _=>if u4 u=true then some false else none
 | .lst _,.at u=>if u4 u=true then some false else none
 | .tup _,.at u=>if u4 u=true then some false else none
 |_,_=>none
def peq:Nat->PV->PV->Option Bool
 |0=>peq0
 |n+1=>peq1 (peq n)
theorem Zl {K:Fg}{Hs H:Hp}{n:Nat}(s:Same Hs H)(ih:∀{x y:PV}{v w:V}{b:Bool},peq n x y=some b->Rep Hs x v->Rep Hs y w->EqP K H n v w b):∀{xs ys:List PV}{vs ws:List V}{b:Bool},xQ (peq n) xs ys=some b->Reps Hs xs vs->Reps Hs ys ws->∃ e:Nat->Bool,(∀ j (h1:j<vs.length) (h2:j<ws.length),EqP K H n vs[j] ws[j] (e j))/\b=(List.range (min vs.length ws.length)).all e
 |[],ys,vs,ws,b,h,r1,r2=>by
  cases reps_nil.mp r1;unfold xQ at h;cases h;exact ⟨λ_=>true,λj h1=>absurd h1 (Nat.not_lt_zero _),by simp⟩
 |x::xs,[],vs,ws,b,h,r1,r2=>by
  cases reps_nil.mp r2;unfold xQ at h;cases h;exact ⟨λ_=>true,λj h1 h2=>absurd h2 (Nat.not_lt_zero _),by simp⟩
 |x::xs,y::ys,vs,ws,b,h,r1,r2=>by
  obtain ⟨v,vr,rfl,p1,q1⟩:=reps_cons.mp r1;obtain ⟨w,wr,rfl,p2,q2⟩:=reps_cons.mp r2;unfold xQ at h;obtain ⟨a,ea,h1⟩:=bind_some h;obtain ⟨c,ec,h2⟩:=bind_some h1;cases h2;obtain ⟨e,he,hb⟩:=Zl s ih ec q1 q2;refine ⟨λj=>match j with|0=>a|j+1=>e j,λj h1 h2=>?_,?_⟩
  ·cases j with
   |zero=>exact ih ea p1 p2
   |succ j=>exact he j (by simpa using h1) (by simpa using h2)
  ·rw [yw,yw,Nat.succ_min_succ,List.range_succ_eq_map,List.all_cons,List.all_map,hb];rfl
theorem Zk {K:Fg}{Hs H:Hp}(s:Same Hs H):∀(n:Nat){x y:PV}{v w:V}{b:Bool},peq n x y=some b->RepB Hs H x v->RepB Hs H y w->EqP K H n v w b
 |0,x,y,v,w,b,h,r1,r2=>by
  unfold peq peq0 at h;split at h
  ·split at h
   ·rename_i hf;cases h;cases u7 r1;cases u7 r2;exact ⟨hf.1,hf.2,rfl⟩
   ·cases h
  ·cases h
 |n+1,x,y,v,w,b,h,r1,r2=>by
  have ih:∀{x y:PV}{v w:V}{b:Bool},peq n x y=some b->Rep Hs x v->Rep Hs y w->EqP K H n v w b:=λh r1 r2=>Zk s n h (.inl r1) (.inl r2);unfold peq peq1 at h;split at h
  ·split at h
   ·rename_i hf;cases h;cases u7 r1;cases u7 r2;exact .inl ⟨hf.1,hf.2,rfl⟩
   ·cases h
  ·obtain ⟨a,vs,rfl,e1,q1⟩:=i8 s r1;obtain ⟨c,ws,rfl,e2,q2⟩:=i8 s r2;refine .inr (.inl ⟨a,c,vs,ws,rfl,rfl,SqL.of e1,SqL.of e2,?_⟩);split at h
   ·rename_i hl;obtain ⟨e,he,hb⟩:=Zl s ih h q1 q2;have hl':vs.length=ws.length:=by rw [q1.length,q2.length,hl]
    exact .inr ⟨hl',e,he,by rw [hb,<- hl',Nat.min_self]⟩
   ·rename_i hl;cases h;exact .inl ⟨by rw [q1.length,q2.length];exact hl,rfl⟩
  ·obtain ⟨a,vs,rfl,e1,q1⟩:=qL s r1;obtain ⟨c,ws,rfl,e2,q2⟩:=qL s r2;obtain ⟨d,ed,h1⟩:=bind_some h;cases h1;obtain ⟨e,he,hb⟩:=Zl s ih ed q1 q2;exact .inr (.inr (.inl ⟨a,c,vs,ws,rfl,rfl,SqT.of e1,SqT.of e2,e,he,by rw [hb,q1.length,q2.length]⟩))
  ·cases h;obtain ⟨a,vs,rfl,e1,q1⟩:=i8 s r1;obtain ⟨c,ws,rfl,e2,q2⟩:=qL s r2;exact .inr (.inr (.inr (.inl ⟨a,c,vs,ws,rfl,rfl,SqL.of e1,SqT.of e2,rfl⟩)))
  ·cases h;obtain ⟨a,vs,rfl,e1,q1⟩:=qL s r1;obtain ⟨c,ws,rfl,e2,q2⟩:=i8 s r2;exact .inr (.inr (.inr (.inr (.inl ⟨a,c,vs,ws,rfl,rfl,SqT.of e1,SqL.of e2,rfl⟩))))
  ·split at h
   ·rename_i hf;cases h;cases u7 r1;obtain ⟨c,ws,rfl,e2,q2⟩:=i8 s r2;exact .inr (.inr (.inr (.inr (.inr (.inl ⟨c,ws,hf,rfl,.inl (SqL.of e2),rfl⟩)))))
   ·cases h
  ·split at h
   ·rename_i hf;cases h;cases u7 r1;obtain ⟨c,ws,rfl,e2,q2⟩:=qL s r2;exact .inr (.inr (.inr (.inr (.inr (.inl ⟨c,ws,hf,rfl,.inr (SqT.of e2),rfl⟩)))))
   ·cases h
  ·split at h
   ·rename_i hf;cases h;cases u7 r2;obtain ⟨c,ws,rfl,e2,q2⟩:=i8 s r1;exact .inr (.inr (.inr (.inr (.inr (.inr ⟨c,ws,hf,rfl,.inl (SqL.of e2),rfl⟩)))))
   ·cases h
  ·split at h
   ·rename_i hf;cases h;cases u7 r2;obtain ⟨c,ws,rfl,e2,q2⟩:=qL s r1;exact .inr (.inr (.inr (.inr (.inr (.inr ⟨c,ws,hf,rfl,.inr (SqT.of e2),rfl⟩)))))
   ·cases h
  ·cases h
def qd:PV->PV->Option PV:=λx y=>(peq 6 x y).bind λb=>some (.at (.bl b))
def t0:PV->PV->Option PV:=λx y=>(peq 6 x y).bind λb=>some (.at (.bl (!b)))
instance :qN (rEqD K 6 false) qd where
 h:=λ{x y z} e {Hs H v w} s a b {Q} q=>by
  obtain ⟨c,ec,e1⟩:=bind_some e;cases e1;exact ⟨c,Zk s 6 ec a b,q _ _ _ (.refl s) (rep_at.mpr rfl)⟩
instance :qN (rEqD K 6 true) t0 where
 h:=λ{x y z} e {Hs H v w} s a b {Q} q=>by
  obtain ⟨c,ec,e1⟩:=bind_some e;cases e1;exact ⟨c,Zk s 6 ec a b,q _ _ _ (.refl s) (rep_at.mpr rfl)⟩
class SemP (to:TO)(f:ME->Option (Option Int)):Prop where
 h:∀{ε y},f ε=some y->∀{Hs0 H0 Hs H σ},RS Hs0 H0 Hs H σ ε->∀{Q:Option Int->Hp->Prop},(∀ Hs' H',Ext Hs H Hs' H'->Q y H')->to σ H Q
def pNo:ME->Option (Option Int):=λ_=>some none
def pInt:PV->Option Int
 | .at (.int i)=>some i
 |_=>none
def pSo (a:M):ME->Option (Option Int):=λε=>(a ε).bind λx=>(pInt x).bind λi=>some (some i)
instance:SemP Uz pNo where
 h:=λe _ _ _ _ _ rs _ q=>by cases e;exact q _ _ (.refl rs.sub)
instance {a:M}[sa:c7 te a]:SemP (UB te) (pSo a) where
 h:=λe _ _ _ _ _ rs _ q=>by
  obtain ⟨x,ex,e1⟩:=bind_some e;obtain ⟨i,ei,e2⟩:=bind_some e1;cases e2;unfold pInt at ei;split at ei
  ·cases ei;exact sa.h ex rs λv Hs1 H1 x1 r1=>⟨_,u7 r1,q _ _ x1⟩
  ·cases ei
def zb (xs:List PV)(lo hi:Option Int):List PV:=(xs.drop (HT.sIx xs.length 0 lo)).take (HT.sIx xs.length xs.length hi-HT.sIx xs.length 0 lo)
theorem Reps.cut (r:Reps H xs vs)(lo hi:Option Int):Reps H (zb xs lo hi) (vd vs lo hi):=by unfold zb vd;rw [r.length];exact (r.drop _).take _
def js (a:M)(l u:ME->Option (Option Int)):M:=λε=>(a ε).bind λx=>(l ε).bind λlo=>(u ε).bind λhi=>match x with
 | .lst xs=>some (.lst (zb xs lo hi))
 |_=>none
instance {tl th:TO}{a:M}[sa:c7 te a][sl:SemP tl l][su:SemP th u]:qv (tSl (rSlL K) te tl th) (js a l u) where
 h:=λe _ _ _ _ _ rs _ q=>by
  obtain ⟨x,ex,e1⟩:=bind_some e;obtain ⟨lo,el,e2⟩:=bind_some e1;obtain ⟨hi,eu,e3⟩:=bind_some e2;split at e3
  ·cases e3;refine sa.h ex rs λv Hs1 H1 x1 r1=>sl.h el (rs.go x1) λHs2 H2 x2=>su.h eu ((rs.go x1).go x2) λHs3 H3 x3=>?_;obtain ⟨p,vs,rfl,e1,r⟩:=i8 x3.s3 ((r1.ext x2).ext x3);have x13:=x1.trans (x2.trans x3);exact ⟨p,vs,rfl,SqL.of e1,λd hd=>q d _ _ (x13.trans (.newO x3.s3 hd)) (x13.s2.free hd) (x3.s3.free hd) ⟨_,w6,r.cut lo hi⟩⟩
  ·cases e3
def i5 (n:Nat):List PV->List PV
 |[]=>[]
 |x::xs=> .tup [.at (.int n),x]::i5 (n+1) xs
theorem Wq:∀{xs:List PV}{n i:Nat}{z:PV},(i5 n xs)[i]?=some z->∃ x,xs[i]?=some x/\z = .tup [.at (.int ((n+i:Nat):Int)),x]
 |[],n,i,z,h=>by simp [i5] at h
 |x::xs,n,0,z,h=>by simp [i5] at h;exact ⟨x,rfl,h.symm⟩
 |x::xs,n,i+1,z,h=>by
  obtain ⟨y,h1,h2⟩:=Wq (xs:=xs) (n:=n+1) (i:=i) (z:=z) (by simpa [i5] using h);exact ⟨y,by simpa using h1,by rw [h2,show n+1+i=n+(i+1) by omega]⟩
theorem Wr:∀{xs:List PV}{n:Nat},(i5 n xs).length=xs.length
 |[],_=>rfl
 |x::xs,n=>by simp [i5,Wr]
theorem KZ {a:Addr}(h:Hs a=some (.lst vs))(r:Reps Hs xs vs):jg (Ite K a) (i5 0 xs) Hs where
 go:=λi x Hs1 H1 e g1 g2=>by
  obtain ⟨y,ey,rfl⟩:=Wq e;obtain ⟨v,ev,rv⟩:=r.get ey;refine ⟨⟨vs,v,SqL.of (g2 _ _ (g1 _ _ h)),ev⟩,λw H2 z=>?_⟩;obtain ⟨p,u,hp,rfl,rfl,hu⟩:=z;have e1:=hu vs (SqL.of (g2 _ _ (g1 _ _ h)));rw [ev] at e1;cases e1;refine ⟨_,.new g2 hp,rep_tup.mpr ⟨p,_,rfl,w6,.cons (rep_at.mpr (by rw [Nat.zero_add])) (.one (rv.mono (g1.trans (Ext.new g2 hp).s1)))⟩⟩
 stop:=λHs1 H1 g1 g2=>⟨vs,SqL.of (g2 _ _ (g1 _ _ h)),by rw [r.length,Wr];exact yS _⟩
def xn (a:MA):MA:=λε=>(a ε).bind λxs=>match xs with
 |[.lst ys]=>some (i5 0 ys)
 |_=>none
instance {a:MA}[sa:qp ta a]:xl (XM K ta) (xn a) where
 h:=λe _ _ _ _ _ rs _ q=>by
  obtain ⟨xs,ex,e1⟩:=bind_some e;split at e1
  ·cases e1;refine sa.h ex rs λvs Hs1 H1 x1 r1=>?_;obtain ⟨v,r,rfl,p1,p2⟩:=reps_cons.mp r1;cases reps_nil.mp p2;obtain ⟨p,ws,rfl,hp,rw⟩:=rep_lst.mp p1;exact ⟨p,rfl,⟨ws,SqL.of (x1.s3 _ _ hp)⟩,q _ _ _ x1 (KZ hp rw)⟩
  ·cases e1
def qM:List PV->List PV->List PV
 |x::xs,y::ys=> .tup [x,y]::qM xs ys
 |_,_=>[]
theorem UW:∀{xs ys:List PV}{i:Nat}{z:PV},(qM xs ys)[i]?=some z->∃ x y,xs[i]?=some x/\ys[i]?=some y/\z = .tup [x,y]
 |[],_,i,z,h=>by simp [qM] at h
 |_::_,[],i,z,h=>by simp [qM] at h
 |x::xs,y::ys,0,z,h=>by simp [qM] at h;exact ⟨x,y,rfl,rfl,h.symm⟩
 |x::xs,y::ys,i+1,z,h=>by
  obtain ⟨u,v,h1,h2,h3⟩:=UW (xs:=xs) (ys:=ys) (i:=i) (z:=z) (by simpa [qM] using h);exact ⟨u,v,by simpa using h1,by simpa using h2,h3⟩
theorem UX:∀{xs ys:List PV},(qM xs ys).length=min xs.length ys.length
 |[],_=>by simp [qM]
 |_::_,[]=>by simp [qM]
 |x::xs,y::ys=>by simp [qM,UX,Nat.succ_min_succ]
theorem Be {a b:Addr}(h:Hs a=some (.lst vs))(r:Reps Hs xs vs)(h':Hs b=some (.lst ws))(r':Reps Hs ys ws):jg (Itz K a b) (qM xs ys) Hs where
 go:=λi x Hs1 H1 e g1 g2=>by
  obtain ⟨y,z,ey,ez,rfl⟩:=UW e;obtain ⟨v,ev,rv⟩:=r.get ey;obtain ⟨w,ew,rw⟩:=r'.get ez;have q1:SqL K H1 a vs:=SqL.of (g2 _ _ (g1 _ _ h));have q2:SqL K H1 b ws:=SqL.of (g2 _ _ (g1 _ _ h'));refine ⟨⟨vs,ws,v,w,q1,q2,ev,ew⟩,λu H2 z=>?_⟩;obtain ⟨p,v',w',hp,rfl,rfl,hv,hw⟩:=z;have e1:=hv vs q1;have e2:=hw ws q2;rw [ev] at e1;rw [ew] at e2;cases e1;cases e2;have g3:=g1.trans (Ext.new (o:= .tup [v,w]) g2 hp).s1;exact ⟨_,.new g2 hp,rep_tup.mpr ⟨p,_,rfl,w6,.cons (rv.mono g3) (.one (rw.mono g3))⟩⟩
 stop:=λHs1 H1 g1 g2=>⟨vs,ws,SqL.of (g2 _ _ (g1 _ _ h)),SqL.of (g2 _ _ (g1 _ _ h')),by rw [r.length,r'.length,UX];omega⟩
def dZip (a:MA):MA:=λε=>(a ε).bind λxs=>match xs with
 |[.lst ys,.lst zs]=>some (qM ys zs)
 |_=>none
instance {a:MA}[sa:qp ta a]:xl (iZip K ta) (dZip a) where
 h:=λe _ _ _ _ _ rs _ q=>by
  obtain ⟨xs,ex,e1⟩:=bind_some e;split at e1
  ·cases e1;refine sa.h ex rs λvs Hs1 H1 x1 r1=>?_;obtain ⟨v,r,rfl,p1,p2⟩:=reps_cons.mp r1;obtain ⟨v',r',rfl,p3,p4⟩:=reps_cons.mp p2;cases reps_nil.mp p4;obtain ⟨p,ws,rfl,hp,rw1⟩:=rep_lst.mp p1;obtain ⟨p',ws',rfl,hp',rw2⟩:=rep_lst.mp p3;exact ⟨p,p',rfl,⟨ws,SqL.of (x1.s3 _ _ hp)⟩,⟨ws',SqL.of (x1.s3 _ _ hp')⟩,q _ _ _ x1 (Be hp rw1 hp' rw2)⟩
  ·cases e1
structure RD (S:List Addr)(Hs0 H0 Hs H:Hp)(σ:St)(ε:ME):Prop where
 s1:Same Hs0 Hs
 s2:∀ b o,H0 b=some o->b∉S->H b=some o
 s3:Same Hs H
 s4:∀ b,H0 b≠none->Hs0 b=none->Hs b=none
 sh:∀(i:Nat)(x:PV),ε[i]?=some (.sh x)->∃ v,σ[i]?=some (some v)/\Rep Hs x v
 ow:∀(i:Nat)(x:PV),ε[i]?=some (.ow x)->∃ a,σ[i]?=some (some (.ref a))/\(H0 a=none∨a∈S)/\Hs a=none/\Top Hs H a x
 nd:∀(i j:Nat)(x y:PV)(a:Addr),ε[i]?=some (.ow x)->ε[j]?=some (.ow y)->σ[i]?=some (some (.ref a))->σ[j]?=some (some (.ref a))->i=j
 len:σ.length=ε.length
 pin:∀ a∈S,σ[0]?=some (some (.ref a))
 live:∀ a∈S,H a≠none
 str:∀ a∈S,∃ y,ε[0]?=some (.ow y)
 nb:∀(i:Nat)(x:PV),ε[i]?≠some (.bo x)
section
variable {S:List Addr}{Hs0 H0 Hs H Hs' H':Hp}{σ:St}{ε:ME}
theorem RD.rs (r:RD S Hs0 H0 Hs H σ ε):RS Hs Hs Hs H σ ε where
 ext:=⟨.refl _,r.s3,r.s3,λ_ h z=>absurd z h⟩
 sh:=r.sh
 ow:=λi x h=>by obtain ⟨a,h1,_,h3,h4⟩:=r.ow i x h;exact ⟨a,h1,h3,h3,h4⟩
 nd:=r.nd
 len:=r.len
 bo:=λi x h=>absurd h (r.nb i x)
theorem RD.there (r:RD S Hs0 H0 Hs H σ ε){b:Addr}(h:H0 b≠none):H b≠none:=by
 by_cases hS:b∈S
 ·exact r.live b hS
 ·cases q:H0 b with
  |none=>exact absurd q h
  |some o=>rw [r.s2 b o q hS];exact λz=>nomatch z
theorem RD.go (r:RD S Hs0 H0 Hs H σ ε)(e:Ext Hs H Hs' H'):RD S Hs0 H0 Hs' H' σ ε where
 s1:=r.s1.trans e.s1
 s2:=λb o h n=>e.s2 _ _ (r.s2 b o h n)
 s3:=e.s3
 s4:=λb h z=>e.s4 b (r.there h) (r.s4 b h z)
 sh:=λi x q=>by obtain ⟨v,a,b⟩:=r.sh i x q;exact ⟨v,a,b.mono e.s1⟩
 ow:=λi x q=>by
  obtain ⟨a,b,n0,n,t⟩:=r.ow i x q;exact ⟨a,b,n0,e.s4 a t.there n,t.mono e.s1 λo z=>e.s2 _ _ z⟩
 nd:=r.nd
 len:=r.len
 pin:=r.pin
 live:=λa h=>Xe e.s2 (r.live a h)
 str:=r.str
 nb:=r.nb
theorem RD.change (r:RD S Hs0 H0 Hs H σ ε){i:Nat}{a:Addr}(hi:ε[i]?=some (.ow x))(ha:σ[i]?=some (some (.ref a)))(t:Top Hs (z8 H a o) a y):RD S Hs0 H0 Hs (z8 H a o) σ (ε.set i (.ow y)):=by
 obtain ⟨b,hb,n0,n,tx⟩:=r.ow i x hi;rw [ha] at hb;injection hb with hb;injection hb with hb;injection hb with hb;subst hb;have q:=(r.rs).change hi ha t;refine ⟨r.s1,λb u e hS=>?_,λb u e=>?_,r.s4,q.sh,λj z hz=>?_,q.nd,q.len,r.pin,λb hS=>?_,λb hS=>?_,jE r.nb λ_ z=>nomatch z⟩
 ·have hne:b≠a:=λz=>by
   rcases n0 with n0|n0
   ·rw [z,n0] at e;cases e
   ·exact hS (z▸n0)
  rw [j3 hne];exact r.s2 b u e hS
 ·rw [j3 (u9 e n)];exact r.s3 _ _ e
 ·obtain ⟨c,hc,m1,m2,tc⟩:=q.ow j z hz;refine ⟨c,hc,?_,m2,tc⟩;rw [yH] at hz;split at hz
  ·rename_i hij;rw [<- hij,ha] at hc;injection hc with hc;injection hc with hc;injection hc with hc;rw [<- hc];exact n0
  ·obtain ⟨d,hd,m0,_⟩:=r.ow j z hz;rw [hd] at hc;injection hc with hc;injection hc with hc;injection hc with hc;rw [<- hc];exact m0
 ·by_cases hba:b=a
  ·rw [hba,w6];exact λz=>nomatch z
  ·rw [j3 hba];exact r.live b hS
 ·obtain ⟨y',hy⟩:=r.str b hS;rw [yH];split
  ·rename_i h0;rw [if_pos (by rw [h0];exact (yG.mp hy).1)];exact ⟨y,rfl⟩
  ·exact ⟨y',hy⟩
theorem RD.put (r:RD S Hs0 H0 Hs H σ ε){i:Nat}(h:Rep Hs x v):RD S Hs0 H0 Hs H (σ.set (i+1) (some v)) (ε.set (i+1) (.sh x)):=by
 have q:=(r.rs).put (i:=i+1) h;refine ⟨r.s1,r.s2,r.s3,r.s4,q.sh,λj z hz=>?_,q.nd,q.len,λa hS=>by rw [yv (by omega)];exact r.pin a hS,r.live,λa hS=>by rw [yv (by omega)];exact r.str a hS,jE r.nb λ_ z=>nomatch z⟩;obtain ⟨c,hc,m1,m2,tc⟩:=q.ow j z hz;refine ⟨c,hc,?_,m2,tc⟩;rw [yH] at hz hc;split at hz
 ·split at hz<;>cases hz
 ·rename_i hij;rw [if_neg hij] at hc;obtain ⟨d,hd,m0,_⟩:=r.ow j z hz;rw [hd] at hc;injection hc with hc;injection hc with hc;injection hc with hc;rw [<- hc];exact m0
theorem RD.putO (r:RD S Hs0 H0 Hs H σ ε){i:Nat}{a:Addr}(h0:H0 a=none∨a∈S)(h1:Hs a=none)(h2:Top Hs H a x)(ne:∀(j:Nat)(y:PV),ε[j]?=some (.ow y)->σ[j]?≠some (some (.ref a))):RD S Hs0 H0 Hs H (σ.set (i+1) (some (.ref a))) (ε.set (i+1) (.ow x)):=by
 have q:=(r.rs).putO (i:=i+1) ⟨h1,h1,h2⟩ ne;refine ⟨r.s1,r.s2,r.s3,r.s4,q.sh,λj z hz=>?_,q.nd,q.len,λa hS=>by rw [yv (by omega)];exact r.pin a hS,r.live,λa hS=>by rw [yv (by omega)];exact r.str a hS,jE r.nb λ_ z=>nomatch z⟩;obtain ⟨c,hc,m1,m2,tc⟩:=q.ow j z hz;refine ⟨c,hc,?_,m2,tc⟩;rw [yH] at hz hc;split at hz
 ·rename_i hij;rw [if_pos hij] at hc;split at hc
  ·injection hc with hc;injection hc with hc;injection hc with hc;rw [<- hc];exact h0
  ·cases hc
 ·rename_i hij;rw [if_neg hij] at hc;obtain ⟨d,hd,m0,_⟩:=r.ow j z hz;rw [hd] at hc;injection hc with hc;injection hc with hc;injection hc with hc;rw [<- hc];exact m0
theorem RD.free0 (r:RD S Hs0 H0 Hs H σ ε){a:Addr}(h:H a=none):H0 a=none:=by
 cases q:H0 a with
 |none=>rfl
 |some o=>exact absurd h (r.there (by rw [q];exact λz=>nomatch z))
theorem RD.freeze (r:RD S Hs0 H0 Hs H σ ε)(i:Nat):∃ Hs',Same Hs Hs'/\RD S Hs0 H0 Hs' H σ (fz (i+1) ε):=by
 by_cases h:∃ x,ε[i+1]?=some (.ow x)
 ·obtain ⟨x,hi⟩:=h;obtain ⟨a,ha,n0,n,t⟩:=r.ow (i+1) x hi;have hS:a∉S:=λhS=>by
   obtain ⟨y,hy⟩:=r.str a hS;exact absurd (r.nd 0 (i+1) y x a hy hi (r.pin a hS) ha) (by omega)
  obtain ⟨o,ho,hr⟩:=t.rep n;have g:Same Hs (z8 Hs a o):=λb u e=>by rw [j3 (u9 e n)];exact e
  have ef:fz (i+1) ε=ε.set (i+1) (.sh x):=by unfold fz;rw [hi]
  have n0':H0 a=none:=n0.resolve_right hS;rw [ef];have dn:∀(j:Nat)(y:PV),(ε.set (i+1) (.sh x))[j]?=some (.ow y)->i+1≠j/\ε[j]?=some (.ow y):=λj y q=>by
   rw [yH] at q;split at q
   ·split at q<;>cases q
   ·rename_i hij;exact ⟨hij,q⟩
  refine ⟨z8 Hs a o,g,r.s1.trans g,r.s2,λb u e=>?_,λb h z=>?_,λj y q=>?_,λj y q=>?_,λj k z z' c h1 h2 h3 h4=>r.nd j k z z' c (dn j z h1).2 (dn k z' h2).2 h3 h4,by rw [yC,r.len],r.pin,r.live,(λb hb=>by rw [yv (by omega)];exact r.str b hb),jE r.nb λ_ z=>nomatch z⟩
  ·by_cases hb:b=a
   ·subst hb;rw [w6] at e;cases e;exact ho
   ·rw [j3 hb] at e;exact r.s3 _ _ e
  ·have hb:b≠a:=λe=>h (e▸n0');rw [j3 hb];exact r.s4 b h z
  ·rw [yH] at q;split at q
   ·rename_i hij;split at q
    ·injection q with q;injection q with q;subst q;exact ⟨.ref a,hij▸ha,hr⟩
    ·cases q
   ·obtain ⟨v,e,w⟩:=r.sh j y q;exact ⟨v,e,w.mono g⟩
  ·obtain ⟨hij,hq⟩:=dn j y q;obtain ⟨c,hc,m0,m,tc⟩:=r.ow j y hq;have hne:c≠a:=λe=>hij (r.nd (i+1) j x y a hi hq ha (e▸hc));exact ⟨c,hc,m0,by rw [j3 hne];exact m,tc.mono g λ_ e=>e⟩
 ·refine ⟨Hs,.refl _,?_⟩;unfold fz;split
  ·rename_i x hx;exact absurd ⟨x,hx⟩ h
  ·exact r
end
abbrev W:=ME->(PV->ME->Prop)->Prop
variable{a:W}
abbrev WA:=ME->(List PV->ME->Prop)->Prop
variable{r:WA}
abbrev WT:=ME->(Bool->ME->Prop)->Prop
abbrev WS:=ME->(ME->Prop)->(PV->ME->Prop)->Prop
variable{b:WS}
class SemW (te:TE)(w:W):Prop where
 h:∀{ε Q'},w ε Q'->∀{S Hs0 H0 Hs H σ},RD S Hs0 H0 Hs H σ ε->∀{Q:VK},(∀ y ε' v Hs' H',Q' y ε'->RD S Hs0 H0 Hs' H' σ ε'->Same Hs Hs'->Rep Hs' y v->Q v H')->te σ H Q
class jn (ta:TA)(w:WA):Prop where
 h:∀{ε Q'},w ε Q'->∀{S Hs0 H0 Hs H σ},RD S Hs0 H0 Hs H σ ε->∀{Q:List V->Hp->Prop},(∀ ys ε' vs Hs' H',Q' ys ε'->RD S Hs0 H0 Hs' H' σ ε'->Same Hs Hs'->Reps Hs' ys vs->Q vs H')->ta σ H Q
class Qc (tt:TT)(w:WT):Prop where
 h:∀{ε Q'},w ε Q'->∀{S Hs0 H0 Hs H σ},RD S Hs0 H0 Hs H σ ε->∀{Q:Bool->Hp->Prop},(∀ b ε' Hs' H',Q' b ε'->RD S Hs0 H0 Hs' H' σ ε'->Same Hs Hs'->Q b H')->tt σ H Q
class SemWS (ts:TS)(w:WS):Prop where
 h:∀{ε N R},w ε N R->∀{S Hs0 H0 Hs H σ},RD S Hs0 H0 Hs H σ ε->∀{D:qD},(∀ ε' σ' Hs' H',N ε'->RD S Hs0 H0 Hs' H' σ' ε'->Same Hs Hs'->D.nx σ' H') ->
  (∀ y ε' σ' v Hs' H',R y ε'->RD S Hs0 H0 Hs' H' σ' ε'->Same Hs Hs'->Rep Hs' y v->D.rt v H')->ts D σ H
def wP (f:M):W:=λε Q=>∃ y,f ε=some y/\Q y ε
def wPT (f:MB):WT:=λε Q=>∃ y,f ε=some y/\Q y ε
instance (priority:=50){f:M}[s:SemE te f]:SemW te (wP f) where
 h:=λ⟨y,e,q⟩ _ _ _ _ _ _ r _ k=>s.h e r.rs λv Hs' H' x rv=>k y _ v Hs' H' q (r.go x) x.s1 rv
instance (priority:=50){f:MB}[s:f6 tt f]:Qc tt (wPT f) where
 h:=λ⟨y,e,q⟩ _ _ _ _ _ _ r _ k=>s.h e r.rs λHs' H' x=>k y _ Hs' H' q (r.go x) x.s1
def qm (g:PV->PV->Option PV)(a b:W):W:=λε Q=>a ε λx ε1=>b ε1 λy ε2=>∃ z,g x y=some z/\Q z ε2
instance {r:R2}{g:PV->PV->Option PV}{ta tb:TE}{b:W}[sr:qN r g][sa:SemW ta a][sb:SemW tb b]:SemW (tOp r ta tb) (qm g a b) where
 h:=λh _ _ _ _ _ _ rd _ k=>sa.h h rd λx ε1 v Hs1 H1 h1 rd1 g1 r1=>sb.h h1 rd1 λy ε2 w Hs2 H2 h2 rd2 g2 r2=>by
  obtain ⟨z,ez,h2⟩:=h2;exact sr.h ez rd2.s3 (.inl (r1.mono g2)) (.inl r2) λu Hs3 H3 x3 r3=>k z ε2 u Hs3 H3 h2 (rd2.go x3) (g1.trans (g2.trans x3.s1)) r3
def t9:WA:=λε Q=>Q [] ε
def y4 (a:W)(r:WA):WA:=λε Q=>a ε λx ε1=>r ε1 λxs ε2=>Q (x::xs) ε2
instance:jn i9 t9 where
 h:=λh _ _ _ _ _ _ rd _ k=>k [] _ [] _ _ h rd (.refl _) .nil
instance [sa:SemW te a][sr:jn ta r]:jn (m9 te ta) (y4 a r) where
 h:=λh _ _ _ _ _ _ rd _ k=>sa.h h rd λx ε1 v Hs1 H1 h1 rd1 g1 r1=>sr.h h1 rd1 λxs ε2 vs Hs2 H2 h2 rd2 g2 r2=>k _ ε2 _ Hs2 H2 h2 rd2 (g1.trans g2) (.cons (r1.mono g2) r2)
def jQ (a:WA):W:=λε Q=>a ε λxs ε1=>xs.length<=lim/\Q (.tup xs) ε1
instance {a:WA}[sa:jn ta a]:SemW (tTup ta) (jQ a) where
 h:=λh _ _ _ _ _ _ rd _ k=>sa.h h rd λxs ε1 vs Hs1 H1 h1 rd1 g1 r1=>⟨qj (r1.length▸h1.1),λp hp=>k _ ε1 _ _ _ h1.2 (rd1.go (.new rd1.s3 hp)) (g1.trans (Ext.new rd1.s3 hp).s1) (rep_tup.mpr ⟨p,vs,rfl,w6,r1.mono (Ext.new rd1.s3 hp).s1⟩)⟩
def xS:Sp:=λvs H Q _=>∃(a:Addr)(n m:Int),vs=[.ref a,.int m]/\H a=some (.lst [.int n])/\vG n m/\Q (.int (n % m)) (z8 H a (.lst [.int (n / m)]))
def g7 (n:Int):MSlot:= .ow (.lst [.at (.int n)])
def wTake (i:Nat)(a:W):W:=λε Q=>a ε λx ε1=>∃ n k,x = .at (.int k)/\ε1[i]?=some (g7 n)/\vG n k/\Q (.at (.int (n % k))) (ε1.set i (g7 (n / k)))
theorem RD.strm_at {i:Nat}(r:RD S Hs0 H0 Hs H σ ε)(h:ε[i]?=some (g7 n)):∃ a,σ[i]?=some (some (.ref a))/\H a=some (.lst [.int n])/\Hs a=none/\(H0 a=none∨a∈S):=by obtain ⟨a,ha,n0,n1,vs,hv,rv⟩:=r.ow i _ h;obtain ⟨v,w,rfl,p1,p2⟩:=reps_cons.mp rv;cases reps_nil.mp p2;cases rep_at.mp p1;exact ⟨a,ha,hv,n1,n0⟩
def xz (i:Nat):ME->Prop:=λε=>∃ n,ε[i]?=some (g7 n)
def s9 (i:Nat)(a:W):W:=λε Q=>xz i ε/\wTake i a ε Q
instance {i:Nat}[sa:SemW te a]:SemW (qU xS [] E (m9 (m3 i) (m9 te i9))) (s9 i a) where
 h:=λh _ _ _ _ _ _ rd _ k=>by
  obtain ⟨⟨n0,hn0⟩,h⟩:=h;obtain ⟨p,hp,_⟩:=rd.strm_at hn0;refine ⟨_,hp,sa.h h rd λx ε1 v Hs1 H1 h1 rd1 g1 r1=>?_⟩;obtain ⟨n,m,rfl,hn,hc,h2⟩:=h1;obtain ⟨p',hp',hH,hs,_⟩:=rd1.strm_at hn;rw [hp] at hp';injection hp' with hp';injection hp' with hp';injection hp' with hp';subst hp';cases rep_at.mp r1;exact ⟨p,n,m,rfl,hH,hc,k _ _ _ _ _ h2 (rd1.change hn hp ⟨_,w6,.one (rep_at.mpr rfl)⟩) g1 (rep_at.mpr rfl)⟩
structure ExtD (p:Addr)(Hs H Hs' H':Hp):Prop where
 s1:Same Hs Hs'
 s2:∀ b o,H b=some o->b≠p->H' b=some o
 s3:Same Hs' H'
 s4:∀ b,H b≠none->Hs b=none->Hs' b=none
def spD (pre:List PV->Prop)(R:List PV->PV->Prop):Sp:=λvs H Q _=>∃ Hs a n xs ws,vs = .ref a::ws/\Same Hs H/\Hs a=none/\H a=some (.lst [.int n])/\Reps Hs xs ws/\pre xs /\
 ∀ y v n' Hs' H',R xs y->ExtD a Hs H Hs' H'->Hs' a=none->H' a=some (.lst [.int n'])->Rep Hs' y v->Q v H'
section
variable {S:List Addr}{Hs0 H0 Hs H Hs' H':Hp}{σ:St}{ε:ME}
theorem RD.drawn (r:RD S Hs0 H0 Hs H σ ε){i:Nat}{n':Int}{p:Addr}(hi:ε[i]?=some (g7 n))(hp:σ[i]?=some (some (.ref p)))(x:ExtD p Hs H Hs' H')(np:Hs' p=none)(ep:H' p=some (.lst [.int n'])):RD S Hs0 H0 Hs' H' σ (ε.set i (g7 n')):=by
 obtain ⟨p',hp',hH,hs,h0⟩:=r.strm_at hi;rw [hp] at hp';injection hp' with hp';injection hp' with hp';injection hp' with hp';subst hp';have up:∀(j:Nat)(z:PV),(ε.set i (g7 n'))[j]?=some (.ow z)->(j=i/\z = .lst [.at (.int n')])∨(j≠i/\ε[j]?=some (.ow z)):=λj z q=>by
  rw [yH] at q;split at q
  ·rename_i hij;split at q
   ·injection q with q;unfold g7 at q;injection q with q;exact .inl ⟨hij.symm,q.symm⟩
   ·cases q
  ·rename_i hij;exact .inr ⟨Ne.symm hij,q⟩
 have wasOw:∀(j:Nat)(z:PV),(ε.set i (g7 n'))[j]?=some (.ow z)->∃ z',ε[j]?=some (.ow z'):=λj z q=>by
  rcases up j z q with ⟨rfl,_⟩|⟨_,q⟩
  ·exact ⟨_,hi⟩
  ·exact ⟨z,q⟩
 refine ⟨r.s1.trans x.s1,λb o e hS=>x.s2 b o (r.s2 b o e hS) λz=>?_,x.s3,λb h z=>x.s4 b (r.there h) (r.s4 b h z),λj z q=>?_,λj z q=>?_,λj k z z' c h1 h2 h3 h4=>?_,by rw [yC,r.len],r.pin,λb hS=>?_,λb hS=>?_,jE r.nb λ_ z=>by unfold g7 at z;cases z⟩
 ·rcases h0 with h0|h0
  ·rw [z,h0] at e;cases e
  ·exact hS (z▸h0)
 ·rw [yH] at q;split at q
  ·split at q
   ·unfold g7 at q;cases q
   ·cases q
  ·obtain ⟨v,h1,h2⟩:=r.sh j z q;exact ⟨v,h1,h2.mono x.s1⟩
 ·rcases up j z q with ⟨rfl,rfl⟩|⟨hij,q⟩
  ·exact ⟨p,hp,h0,np,_,ep,.one (rep_at.mpr rfl)⟩
  ·obtain ⟨c,hc,m0,m1,tc⟩:=r.ow j z q;have hne:c≠p:=λe=>hij (r.nd j i z _ p q hi (e▸hc) hp);exact ⟨c,hc,m0,x.s4 c tc.there m1,tc.mono x.s1 λo e=>x.s2 c o e hne⟩
 ·obtain ⟨w1,q1⟩:=wasOw j z h1;obtain ⟨w2,q2⟩:=wasOw k z' h2;exact r.nd j k w1 w2 c q1 q2 h3 h4
 ·by_cases hb:b=p
  ·rw [hb,ep];exact λz=>nomatch z
  ·have:=r.live b hS;cases q:H b with
   |none=>exact absurd q this
   |some o=>rw [x.s2 b o q hb];exact λz=>nomatch z
 ·obtain ⟨y',hy⟩:=r.str b hS;rw [yH];split
  ·rename_i h0;rw [if_pos (by rw [h0];exact (yG.mp hy).1)];exact ⟨_,rfl⟩
  ·exact ⟨y',hy⟩
end
def qV (i:Nat)(pre:List PV->Prop)(R:List PV->PV->Prop)(as:WA):W:=λε Q=>xz i ε/\as ε λxs ε1=>xz i ε1/\pre xs/\∀ y n',R xs y->Q y (ε1.set i (g7 n'))
instance {i:Nat}{as:WA}[sa:jn ta as]:SemW (qU (spD pre R) [] E (m9 (m3 i) ta)) (qV i pre R as) where
 h:=λh _ _ _ _ _ _ rd _ k=>by
  obtain ⟨⟨n0,hn0⟩,h⟩:=h;obtain ⟨p,hp,_⟩:=rd.strm_at hn0;refine ⟨_,hp,sa.h h rd λxs ε1 vs Hs1 H1 h1 rd1 g1 r1=>?_⟩;obtain ⟨⟨n,hn⟩,hpre,h2⟩:=h1;obtain ⟨p',hp',hH,hs,_⟩:=rd1.strm_at hn;rw [hp] at hp';injection hp' with hp';injection hp' with hp';injection hp' with hp';subst hp';refine ⟨Hs1,p,n,xs,vs,by rw [yn],rd1.s3,hs,hH,r1,hpre,λy v n' Hs' H' hR x np ep rv=>?_⟩;exact k y _ v Hs' H' (h2 y n' hR) (rd1.drawn hn hp x np ep) (g1.trans x.s1) rv
def qW:WS:=λε N _=>N ε
def wSeq (a b:WS):WS:=λε N R=>a ε (λε1=>b ε1 N R) R
def p0 (i:Nat)(a:W):WS:=λε N _=>a ε λx ε1=>N (ε1.set i (.sh x))
def Xi (i:Nat)(f:M):WS:=λε N _=>∃ x,f ε=some x/\N (ε.set i (.ow x))
def qu (a:W):WS:=λε _ R=>a ε R
def UT (a:W):WS:=λε N _=>a ε λ_ ε1=>N ε1
def qC (c:WT)(a b:WS):WS:=λε N R=>c ε λk ε1=>if k=true then a ε1 N R else b ε1 N R
def wFz (i:Nat)(a:WS):WS:=λε N R=>a (fz i ε) N R
def jd (i:Nat)(a:W):WS:=λε N _=>(∃ xs,ε[i]?=some (.ow (.lst xs)))/\a ε λx ε1=>∃ xs,ε1[i]?=some (.ow (.lst xs))/\xs.length<=lim/\N (ε1.set i (.ow (.lst (xs++[x]))))
instance:SemWS wR qW where
 h:=λh _ _ _ _ _ _ rd _ k _=>k _ _ _ _ h rd (.refl _)
instance {u:TS}{a:WS}[sa:SemWS t a][sb:SemWS u b]:SemWS (tSeq t u) (wSeq a b) where
 h:=λh _ _ _ _ _ _ rd _ k r=>sa.h h rd (λε1 σ1 Hs1 H1 h1 rd1 g1=>sb.h h1 rd1 (λε2 σ2 Hs2 H2 h2 rd2 g2=>k ε2 σ2 Hs2 H2 h2 rd2 (g1.trans g2)) λy ε2 σ2 v Hs2 H2 h2 rd2 g2 rv=>r y ε2 σ2 v Hs2 H2 h2 rd2 (g1.trans g2) rv) r
instance {i:Nat}[sa:SemW te a]:SemWS (qT te (r9 (i+1))) (p0 (i+1) a) where
 h:=λh _ _ _ _ _ _ rd _ k _=>sa.h h rd λx ε1 v Hs1 H1 h1 rd1 g1 r1=>k _ _ _ _ h1 (rd1.put r1) g1
instance {i:Nat}{f:M}[sa:qv te f]:SemWS (qT te (r9 (i+1))) (Xi (i+1) f) where
 h:=λ⟨x,e,h⟩ _ _ _ _ _ _ rd _ k _=>sa.h e rd.rs λa Hs1 H1 x1 n n' t=>k _ _ _ _ h ((rd.go x1).putO (.inl (rd.free0 n)) n' t λj y hj z=>by
  obtain ⟨b,hb,_,_,tb⟩:=rd.ow j y hj;rw [z] at hb;injection hb with hb;injection hb with hb;injection hb with hb;subst hb;exact tb.there n) x1.s1
instance [sa:SemW te a]:SemWS (vE te) (qu a) where
 h:=λh _ _ _ _ _ _ rd _ _ r=>sa.h h rd λx ε1 v Hs1 H1 h1 rd1 g1 r1=>r x ε1 _ v Hs1 H1 h1 rd1 g1 r1
instance [sa:SemW te a]:SemWS (xV te) (UT a) where
 h:=λh _ _ _ _ _ _ rd _ k _=>sa.h h rd λx ε1 v Hs1 H1 h1 rd1 g1 r1=>k ε1 _ Hs1 H1 h1 rd1 g1
instance {t:TT}{ta:TS}{c:WT}{a:WS}[sc:Qc t c][sa:SemWS ta a][sb:SemWS tb b]:SemWS (wO t ta tb) (qC c a b) where
 h:=λh _ _ _ _ _ _ rd _ k r=>sc.h h rd λc ε1 Hs1 H1 h1 rd1 g1=>by
  cases c with
  |true=>exact qP (sa.h (by simpa using h1) rd1 (λε2 σ2 Hs2 H2 h2 rd2 g2=>k ε2 σ2 Hs2 H2 h2 rd2 (g1.trans g2)) λy ε2 σ2 v Hs2 H2 h2 rd2 g2 rv=>r y ε2 σ2 v Hs2 H2 h2 rd2 (g1.trans g2) rv)
  |false=>exact qB (sb.h (by simpa using h1) rd1 (λε2 σ2 Hs2 H2 h2 rd2 g2=>k ε2 σ2 Hs2 H2 h2 rd2 (g1.trans g2)) λy ε2 σ2 v Hs2 H2 h2 rd2 g2 rv=>r y ε2 σ2 v Hs2 H2 h2 rd2 (g1.trans g2) rv)
instance {i:Nat}{a:WS}[sa:SemWS t a]:SemWS t (wFz (i+1) a) where
 h:=λh _ _ _ _ _ _ rd _ k r=>by
  obtain ⟨Hs',g,rd'⟩:=rd.freeze i;exact sa.h h rd' (λε2 σ2 Hs2 H2 h2 rd2 g2=>k ε2 σ2 Hs2 H2 h2 rd2 (g.trans g2)) λy ε2 σ2 v Hs2 H2 h2 rd2 g2 rv=>r y ε2 σ2 v Hs2 H2 h2 rd2 (g.trans g2) rv
instance {i:Nat}[sa:SemW te a]:SemWS (xV (tBM K "list" wJ (m3 i) (m9 te i9))) (jd i a) where
 h:=λh _ _ _ _ _ _ rd _ k _=>by
  obtain ⟨⟨xs0,hx0⟩,h⟩:=h;obtain ⟨p,hp,n0,n,vs,hv,rv⟩:=rd.ow i _ hx0;refine ⟨_,hp,.inl ⟨rfl,vs,SqL.of hv⟩,sa.h h rd λx ε1 v Hs1 H1 h1 rd1 g1 r1=>?_⟩;obtain ⟨xs,hx,hl,h2⟩:=h1;obtain ⟨p',hp',_,n1,ws,hw,rw⟩:=rd1.ow i _ hx;rw [hp] at hp';injection hp' with hp';injection hp' with hp';injection hp' with hp';subst hp';exact ⟨p,ws,v,rfl,rfl,hw,vo (by rw [rw.length];exact hl),k _ _ _ _ h2 (rd1.change hx hp ⟨_,w6,rw.append (.one r1)⟩) g1⟩
def wPop (i:Nat)(a:W):W:=λε Q=>(∃ xs,ε[i]?=some (.ow (.lst xs)))/\a ε λx ε1=>∃ xs k y,ε1[i]?=some (.ow (.lst xs))/\x = .at (.int k)/\0<=k/\k<xs.length/\xs.length<=lim/\xs[k.toNat]?=some y/\Q y (ε1.set i (.ow (.lst (xs.eraseIdx k.toNat))))
theorem Reps.eraseIdx {H:Hp}:∀(i:Nat){xs:List PV}{vs:List V},Reps H xs vs->Reps H (xs.eraseIdx i) (vs.eraseIdx i)
 |i,[],vs,h=>by rw [reps_nil.mp h];exact .nil
 |0,x::xs,vs,h=>by obtain ⟨v,r,rfl,p,q⟩:=reps_cons.mp h;exact q
 |i+1,x::xs,vs,h=>by obtain ⟨v,r,rfl,p,q⟩:=reps_cons.mp h;exact .cons p (Reps.eraseIdx i q)
instance {i:Nat}[sa:SemW te a]:SemW (tBM K "list" YQ (m3 i) (m9 te i9)) (wPop i a) where
 h:=λh _ _ _ _ _ _ rd _ k=>by
  obtain ⟨⟨xs0,hx0⟩,h⟩:=h;obtain ⟨p,hp,n0,n,vs,hv,rv⟩:=rd.ow i _ hx0;refine ⟨_,hp,.inl ⟨rfl,vs,SqL.of hv⟩,sa.h h rd λx ε1 v Hs1 H1 h1 rd1 g1 r1=>?_⟩;obtain ⟨xs,j,y,hx,rfl,j0,j1,hl,hy,h2⟩:=h1;obtain ⟨p',hp',_,n1,ws,hw,rw⟩:=rd1.ow i _ hx;rw [hp] at hp';injection hp' with hp';injection hp' with hp';injection hp' with hp';subst hp';cases rep_at.mp r1;obtain ⟨u,hu,ru⟩:=rw.get hy;have hlim:lim=1000000:=rfl;refine ⟨p,ws,j,j.toNat,u,rfl,rfl,hw,by omega,by omega,?_,hu,k _ _ _ _ _ h2 (rd1.change hx hp ⟨_,w6,rw.eraseIdx j.toNat⟩) g1 ru⟩;unfold seqIndex?;have e1:(if j<0 then j+(ws.length:Int) else j)=j:=if_neg (by omega);simp only [e1];rw [if_pos];rw [rw.length];simp only [yb,decide_eq_true_eq];exact ⟨j0,j1⟩
class SemWI (ti:TI)(w:WA):Prop where
 h:∀{ε Q'},w ε Q'->∀{S Hs0 H0 Hs H σ},RD S Hs0 H0 Hs H σ ε->∀{R:It->Hp->Prop},(∀ xs ε' J Hs' H',Q' xs ε'->RD S Hs0 H0 Hs' H' σ ε'->Same Hs Hs'->jg J xs Hs'->R J H')->ti σ H R
def wIp (f:MA):WA:=λε Q=>∃ xs,f ε=some xs/\Q xs ε
instance (priority:=50){ti:TI}{f:MA}[s:xl ti f]:SemWI ti (wIp f) where
 h:=λ⟨xs,e,q⟩ _ _ _ _ _ _ r _ k=>s.h e r.rs λJ Hs' H' x ok=>k xs _ J Hs' H' q (r.go x) x.s1 ok
class SemWG (tg:TG)(g:MG):Prop where
 h:∀{x ε ε'},g x ε=some ε'->∀{S Hs0 H0 Hs H σ v},RD S Hs0 H0 Hs H σ ε->Rep Hs x v->∀{Q:St->Hp->Prop},(∀ σ',RD S Hs0 H0 Hs H σ' ε'->Q σ' H)->tg v σ H Q
instance {i:Nat}:SemWG (r9 (i+1)) (v3 (i+1)) where
 h:=λe _ _ _ _ _ _ _ rd r _ q=>by cases e;exact q _ (rd.put r)
def wV (g:MG)(f:WS):List PV->WS
 |[]=>λε N _=>N ε
 |x::xs=>λε N R=>∃ ε1,g x ε=some ε1/\f ε1 (λε2=>wV g f xs ε2 N R) R
def wFor (it:WA)(g:MG)(f:WS):WS:=λε N R=>it ε λxs ε1=>wV g f xs ε1 N R
theorem RD.rebase (r:RD S Hs0 H0 Hs H σ ε):RD S Hs H0 Hs H σ ε :=
 ⟨.refl _,r.s2,r.s3,λ_ _ z=>z,r.sh,r.ow,r.nd,r.len,r.pin,r.live,r.str,r.nb⟩
theorem RD.unbase {Hb Hx:Hp}(b:RD S Hs0 H0 Hb Hx σ ε)(r:RD S Hb H0 Hs H σ' ε'):RD S Hs0 H0 Hs H σ' ε' :=
 ⟨b.s1.trans r.s1,r.s2,r.s3,λc h z=>r.s4 c h (b.s4 c h z),r.sh,r.ow,r.nd,r.len,r.pin,r.live,r.str,r.nb⟩
instance {it:WA}{f:WS}[si:SemWI wi it][sg:SemWG tg g][sf:SemWS tb f]:SemWS (tFor wi tg tb) (wFor it g f) where
 h:=λ{ε N R} h S Hs0 H0 _ _ _ rd D k rt=>si.h h rd λxs ε1 J Hs1 H1 h1 rd1 g1 ok=>by
  refine ⟨λn m σ H=>m=xs.length-n/\n<=xs.length/\∃ Hs ε,RD S Hs1 H0 Hs H σ ε/\wV g f (xs.drop n) ε N R,⟨xs.length,by simp,yh _,Hs1,ε1,rd1.rebase,h1⟩,?_⟩;rintro n m σ H ⟨rfl,hn,Hs,ε2,r2,h2⟩;by_cases hlt:n<xs.length
  ·have hd:xs.drop n=xs[n]::xs.drop (n+1):=yi hlt;rw [hd] at h2;obtain ⟨ε3,e3,h3⟩:=h2;obtain ⟨go,yl⟩:=ok.go n xs[n] Hs H (by simp [hlt]) r2.s1 r2.s3;refine .inr ⟨go,λσ' H'=>n+1<=xs.length/\∃ Hs ε,RD S Hs1 H0 Hs H' σ' ε/\wV g f (xs.drop (n+1)) ε N R,λσ' H' p=>⟨xs.length-(n+1),by omega,rfl,p.1,p.2⟩,λv H3 y=>?_⟩;obtain ⟨Hs3,x3,r3⟩:=yl v H3 y;refine sg.h e3 (r2.go x3) r3 λσ4 rd4=>sf.h h3 rd4 (λε5 σ5 Hs5 H5 h5 rd5 g5=>⟨hlt,Hs5,ε5,rd5,h5⟩) λy ε5 σ5 v Hs5 H5 h5 rd5 g5 rv=>rt y ε5 σ5 v Hs5 H5 h5 (rd1.unbase rd5) (g1.trans rd5.s1) rv
  ·have en:n=xs.length:=by omega
   subst en;rw [uS] at h2;exact .inl ⟨ok.stop Hs H r2.s1 r2.s3,k _ _ _ _ h2 (rd1.unbase r2) (g1.trans r2.s1)⟩
def e9:List (Option Nat)->ME->ME->ME
 |some i::cap,s::ε2,ε1=>(e9 cap ε2 ε1).set i s
 |none::cap,_::ε2,ε1=>e9 cap ε2 ε1
 |_,_,ε1=>ε1
theorem wT:∀(cap:List (Option Nat))(ε2 ε1:ME),(e9 cap ε2 ε1).length=ε1.length
 |some i::cap,s::ε2,ε1=>by unfold e9;rw [yC,wT]
 |none::cap,_::ε2,ε1=>by unfold e9;exact wT cap ε2 ε1
 |[],_,_=>rfl
 |some _::_,[],_=>rfl
 |none::_,[],_=>rfl
theorem JF:∀(cap:List (Option Nat))(ε2 ε1:ME)(i:Nat),some i∉cap->(e9 cap ε2 ε1)[i]?=ε1[i]?
 |some k::cap,s::ε2,ε1,i,h=>by
  unfold e9;rw [yv (λz=>h (by rw [z];exact yO))];exact JF cap ε2 ε1 i λz=>h (yT _ z)
 |none::cap,_::ε2,ε1,i,h=>by unfold e9;exact JF cap ε2 ε1 i λz=>h (yT _ z)
 |[],_,_,_,_=>rfl
 |some _::_,[],_,_,_=>rfl
 |none::_,[],_,_,_=>rfl
theorem JE:∀(cap:List (Option Nat))(ε2 ε1:ME)(i:Nat),cap.length=ε2.length->some i∈cap->i<ε1.length->(cap.filterMap id).Nodup->∃ j:Nat,cap[j]?=some (some i)/\(e9 cap ε2 ε1)[i]?=ε2[j]?
 |some k::cap,s::ε2,ε1,i,hl,h,hi,nd=>by
  rw [List.filterMap_cons_some (by rfl)] at nd;by_cases e:k=i
  ·subst e;refine ⟨0,rfl,?_⟩;unfold e9;rw [ye (by rw [wT];exact hi)];rfl
  ·obtain ⟨j,h1,h2⟩:=JE cap ε2 ε1 i (by simpa using hl) (by rcases yM.mp h with z|z;exact absurd (Option.some.inj z).symm e;exact z) hi (yF.mp nd).2;refine ⟨j+1,by simpa using h1,?_⟩;unfold e9;rw [yv e];simpa using h2
 |none::cap,s::ε2,ε1,i,hl,h,hi,nd=>by
  rw [List.filterMap_cons_none (by rfl)] at nd;obtain ⟨j,h1,h2⟩:=JE cap ε2 ε1 i (by simpa using hl) (by rcases yM.mp h with z|z;exact nomatch z;exact z) hi nd;exact ⟨j+1,by simpa using h1,by unfold e9;simpa using h2⟩
 |[],_,_,_,_,h,_,_=>nomatch h
 |some _::_,[],_,_,hl,_,_,_=>by simp at hl
 |none::_,[],_,_,hl,_,_,_=>by simp at hl
def rst:List Nat->ME->ME
 |[],ε=>ε
 |t::ts,ε=>(rst ts ε).set t .no
theorem Uh:∀(ts:List Nat)(ε:ME),(rst ts ε).length=ε.length
 |[],_=>rfl
 |t::ts,ε=>by unfold rst;rw [yC,Uh]
theorem Ug:∀(ts:List Nat)(ε:ME)(i:Nat)(s:MSlot),(rst ts ε)[i]?=some s->s = .no∨(i∉ts/\ε[i]?=some s)
 |[],_,_,_,h=> .inr ⟨ya,h⟩
 |t::ts,ε,i,s,h=>by
  unfold rst at h;rw [yH] at h;split at h
  ·split at h
   ·cases h;exact .inl rfl
   ·cases h
  ·rename_i hne;rcases Ug ts ε i s h with z|⟨z1,z2⟩
   ·exact .inl z
   ·exact .inr ⟨λm=>by rcases yM.mp m with m|m;exact hne m.symm;exact z1 m,z2⟩
theorem RD.reset (r:RD [] Hs0 H0 Hs H σ' ε)(b:But ts σ σ'):RD [] Hs0 H0 Hs H σ (rst ts ε):=by
 have at1:∀(i:Nat)(s:MSlot),(rst ts ε)[i]?=some s->s = .no∨(σ'[i]?=σ[i]?/\ε[i]?=some s):=λi s h=>by
  rcases Ug ts ε i s h with z|⟨z1,z2⟩
  ·exact .inl z
  ·exact .inr ⟨b.2 i z1,z2⟩
 refine ⟨r.s1,r.s2,r.s3,r.s4,λi x h=>?_,λi x h=>?_,λi j x y a h1 h2 h3 h4=>?_,by rw [Uh,<- r.len,b.1],(λ_ z=>nomatch z),(λ_ z=>nomatch z),(λ_ z=>nomatch z),λi x h=>by
  rcases at1 i _ h with z|⟨_,z2⟩
  ·cases z
  ·exact r.nb i x z2⟩
 ·rcases at1 i _ h with z|⟨z1,z2⟩
  ·cases z
  ·rw [<- z1];exact r.sh i x z2
 ·rcases at1 i _ h with z|⟨z1,z2⟩
  ·cases z
  ·rw [<- z1];exact r.ow i x z2
 ·rcases at1 i _ h1 with z|⟨z1,z2⟩
  ·cases z
  ·rcases at1 j _ h2 with w|⟨w1,w2⟩
   ·cases w
   ·exact r.nd i j x y a z2 w2 (z1.trans h3) (w1.trans h4)
class JT (tg:TG)(ts:outParam (List Nat))(g:MG):Prop where
 h:∀{x ε ε'},g x ε=some ε'->∀{Hs0 H0 Hs H σ v},RD [] Hs0 H0 Hs H σ ε->Rep Hs x v->∀{Q:St->Hp->Prop},(∀ σ',RD [] Hs0 H0 Hs H σ' ε'->But ts σ σ'->Q σ' H)->tg v σ H Q
theorem RD.put0 (r:RD [] Hs0 H0 Hs H σ ε){i:Nat}(h:Rep Hs x v):RD [] Hs0 H0 Hs H (σ.set i (some v)) (ε.set i (.sh x)):=by
 have q:=(r.rs).put (i:=i) h;refine ⟨r.s1,r.s2,r.s3,r.s4,q.sh,λj z hz=>?_,q.nd,q.len,(λ_ z=>nomatch z),(λ_ z=>nomatch z),(λ_ z=>nomatch z),jE r.nb λ_ z=>nomatch z⟩;obtain ⟨c,hc,m1,m2,tc⟩:=q.ow j z hz;refine ⟨c,hc,?_,m2,tc⟩;rw [yH] at hz hc;split at hz
 ·split at hz<;>cases hz
 ·rename_i hij;rw [if_neg hij] at hc;obtain ⟨d,hd,m0,_⟩:=r.ow j z hz;rw [hd] at hc;injection hc with hc;injection hc with hc;injection hc with hc;rw [<- hc];exact m0
instance {i:Nat}:JT (r9 i) [i] (v3 i) where
 h:=λe _ _ _ _ _ _ rd r _ q=>by
  cases e;exact q _ (rd.put0 r) ⟨yC,λj hj=>yv λz=>hj (by rw [<- z];exact yQ.mpr rfl)⟩
def jf (g:MG)(c:WT)(f:W)(ts:List Nat):List PV->List PV->ME->(List PV->ME->Prop)->Prop
 |[],ys,ε,Q=>Q ys ε
 |x::xs,ys,ε,Q=>∃ ε1,g x ε=some ε1/\c ε1 λb ε2=>if b=true then f ε2 λy ε3=>jf g c f ts xs (ys++[y]) (rst ts ε3) Q else jf g c f ts xs ys (rst ts ε2) Q
def zG:WT:=λε Q=>Q true ε
instance:Qc tYes zG where
 h:=λh _ _ _ _ _ _ rd _ k=>k true _ _ _ h rd (.refl _)
def je (cap:List (Option Nat))(ts:List Nat)(it:WA)(g:MG)(c:WT)(f:W):W:=λε Q=>it ε λxs ε1=>qO cap ts=true/\xs.length<=lim /\
 jf g c f ts xs [] (k9 cap ε1) λys ε2=>((∃ y:PV,ε1[0]?=some (MSlot.ow y))->∃ y:PV,(e9 cap ε2 ε1)[0]?=some (MSlot.ow y))/\Q (.lst ys) (e9 cap ε2 ε1)
noncomputable def xa (σ:St)(ε:ME)(H:Hp):Hp:=λb=>open Classical in if ∃(i:Nat)(x:PV),ε[i]?=some (MSlot.ow x)/\σ[i]?=some (some (V.ref b)) then none else H b
theorem XW {b:Addr}(h:xa σ ε H b=some o):H b=some o/\∀(i:Nat)(x:PV),ε[i]?=some (MSlot.ow x)->σ[i]?≠some (some (V.ref b)):=by
 unfold xa at h;split at h
 ·cases h
 ·rename_i hn;exact ⟨h,λi x h1 h2=>hn ⟨i,x,h1,h2⟩⟩
theorem WY {b:Addr}(h:xa σ ε H b=none):H b=none∨∃(i:Nat)(x:PV),ε[i]?=some (MSlot.ow x)/\σ[i]?=some (some (V.ref b)):=by
 unfold xa at h;split at h
 ·rename_i hn;exact .inr hn
 ·exact .inl h
theorem GK {cap:List (Option Nat)}(nb:∀(i:Nat)(x:PV),ε[i]?≠some (.bo x)):∀(i:Nat)(x:PV),(k9 cap ε)[i]?≠some (.bo x):=λi x h=>by
 unfold k9 at h;rw [yV] at h;cases ho:cap[i]? with
 |none=>rw [ho] at h;cases h
 |some o =>
  rw [ho] at h;cases o with
  |none=>cases h
  |some k =>
   cases hk:ε[k]? with
   |none=>simp only [uK,hk,ur] at h;cases h
   |some s=>simp only [uK,hk,Option.getD_some] at h;cases h;exact nb k x hk
theorem RD.block {cap:List (Option Nat)}(hc:(cap.filterMap id).Nodup)(r:RD S Hs0 H0 Hs H σ ε):RD [] Hs (xa (u8 cap σ) (k9 cap ε) H) Hs H (u8 cap σ) (k9 cap ε):=by have q:=(r.rs).cap hc;refine ⟨.refl _,λb o e _=>(XW e).1,r.s3,λ_ _ z=>z,q.sh,λi x h=>?_,q.nd,q.len,(λ_ z=>nomatch z),(λ_ z=>nomatch z),(λ_ z=>nomatch z),GK r.nb⟩;obtain ⟨a,h1,h2,h3,h4⟩:=q.ow i x h;refine ⟨a,h1,.inl ?_,h3,h4⟩;unfold xa;rw [if_pos ⟨i,x,h,h1⟩]
theorem zK {cap:List (Option Nat)}{i k:Nat}(h:cap[i]?=some (some k))(e:(u8 cap σ)[i]?=some (some v)):σ[k]?=some (some v):=by
 unfold u8 at e;rw [yV,h] at e;simp only [uK,yI,Option.some.injEq] at e;cases hs:σ[k]? with
 |none=>rw [hs] at e;cases e
 |some o=>rw [hs] at e;simp at e;rw [e]
theorem VX {cap:List (Option Nat)}{i:Nat}(h:(k9 cap ε)[i]?=some (.ow x)):∃ k:Nat,cap[i]?=some (some k)/\ε[k]?=some (.ow x):=by
 unfold k9 at h;rw [yV] at h;cases ho:cap[i]? with
 |none=>rw [ho] at h;cases h
 |some o =>
  rw [ho] at h;cases o with
  |none=>cases h
  |some k =>
   cases hk:ε[k]? with
   |none=>simp only [uK,hk,ur] at h;cases h
   |some s=>simp only [uK,hk,Option.getD_some] at h;cases h;exact ⟨k,rfl,hk⟩
theorem RD.unblock {Hs1 H1 Hs2 H2:Hp}{ε1 ε2:ME}{cap:List (Option Nat)}(hc:(cap.filterMap id).Nodup)(r:RD S Hs0 H0 Hs1 H1 σ ε1)(q:RD [] Hs1 (xa (u8 cap σ) (k9 cap ε1) H1) Hs2 H2 (u8 cap σ) ε2)(st:(∃ y,ε1[0]?=some (.ow y))->∃ y,(e9 cap ε2 ε1)[0]?=some (.ow y)):RD S Hs0 H0 Hs2 H2 σ (e9 cap ε2 ε1):=by
 have hl:cap.length=ε2.length:=by rw [<- q.len];unfold u8;rw [yZ]
 have at1:∀(i:Nat)(s:MSlot),(e9 cap ε2 ε1)[i]?=some s->(some i∉cap/\ε1[i]?=some s)∨∃ j:Nat,cap[j]?=some (some i)/\ε2[j]?=some s:=λi s h=>by
  by_cases hi:some i∈cap
  ·have hlt:i<ε1.length:=by have:=(yG.mp h).1;rwa [wT] at this
   obtain ⟨j,h1,h2⟩:=JE cap ε2 ε1 i hl hi hlt hc;exact .inr ⟨j,h1,h2▸h⟩
  ·exact .inl ⟨hi,JF cap ε2 ε1 i hi▸h⟩
 have own0:∀ a,xa (u8 cap σ) (k9 cap ε1) H1 a=none->H0 a=none∨a∈S:=λa h=>by
  rcases WY h with h|⟨i,x,h1,h2⟩
  ·exact .inl (r.free0 h)
  ·obtain ⟨k,hk,hx⟩:=VX h1;obtain ⟨c,hc',m0,_⟩:=r.ow k x hx;rw [zK hk h2] at hc';injection hc' with hc';injection hc' with hc';injection hc' with hc';rw [hc'];exact m0
 have keep:∀(k:Nat)(x:PV)(a:Addr),some k∉cap->ε1[k]?=some (.ow x)->σ[k]?=some (some (.ref a))->∀ o,H1 a=some o->xa (u8 cap σ) (k9 cap ε1) H1 a=some o:=λk x a hk hx ha o ho=>by
  cases z:xa (u8 cap σ) (k9 cap ε1) H1 a with
  |some u=>rw [<- ho,(XW z).1]
  |none =>
   rcases WY z with z|⟨i,y,h1,h2⟩
   ·rw [z] at ho;cases ho
   ·obtain ⟨m,hm,hy⟩:=VX h1;have:=r.nd k m x y a hx hy ha (zK hm h2);subst this;exact absurd (yu hm) hk
 have ow':∀(i:Nat)(x:PV),(e9 cap ε2 ε1)[i]?=some (.ow x)->∃ a,σ[i]?=some (some (.ref a))/\(H0 a=none∨a∈S)/\Hs2 a=none/\Top Hs2 H2 a x:=λi x h=>by
  rcases at1 i _ h with ⟨hi,e⟩|⟨j,hj,e⟩
  ·obtain ⟨a,ha,m0,m1,t⟩:=r.ow i x e;refine ⟨a,ha,m0,?_,t.mono q.s1 λo ho=>q.s2 a o (keep i x a hi e ha o ho) ya⟩;cases z:H1 a with
   |none=>exact absurd z t.there
   |some o=>exact q.s4 a (by rw [keep i x a hi e ha o z];exact λw=>nomatch w) m1
  ·obtain ⟨a,ha,m0,m1,t⟩:=q.ow j x e;exact ⟨a,zK hj ha,own0 a (m0.resolve_right ya),m1,t⟩
 have str':∀ a∈S,∃ y,(e9 cap ε2 ε1)[0]?=some (.ow y):=λa hS=>st (r.str a hS);refine ⟨r.s1.trans q.s1,λb o e hS=>?_,q.s3,λb h z=>?_,λi x h=>?_,ow',λi j x y a h1 h2 h3 h4=>?_,by rw [wT];exact r.len,r.pin,λb hS=>?_,str',λi x h=>by
  rcases at1 i _ h with ⟨_,e⟩|⟨j,_,e⟩
  ·exact r.nb i x e
  ·exact q.nb j x e⟩
 ·have e1:=r.s2 b o e hS;refine q.s2 b o ?_ ya;cases z:xa (u8 cap σ) (k9 cap ε1) H1 b with
  |some u=>rw [<- e1,(XW z).1]
  |none =>
   rcases own0 b z with w|w
   ·rw [w] at e;cases e
   ·exact absurd w hS
 ·have z1:=r.s4 b h z;by_cases hL:xa (u8 cap σ) (k9 cap ε1) H1 b=none
  ·rcases own0 b hL with w|w
   ·exact absurd w h
   ·obtain ⟨y,hy⟩:=str' b w;obtain ⟨a,ha,_,m1,_⟩:=ow' 0 y hy;rw [r.pin b w] at ha;injection ha with ha;injection ha with ha;injection ha with ha;rw [ha];exact m1
  ·exact q.s4 b hL z1
 ·rcases at1 i _ h with ⟨hi,e⟩|⟨j,hj,e⟩
  ·obtain ⟨v,hv,rv⟩:=r.sh i x e;exact ⟨v,hv,rv.mono q.s1⟩
  ·obtain ⟨v,hv,rv⟩:=q.sh j x e;exact ⟨v,zK hj hv,rv⟩
 ·rcases at1 i _ h1 with ⟨hi,e⟩|⟨k,hk,e⟩
  ·rcases at1 j _ h2 with ⟨hj,e'⟩|⟨l,hl',e'⟩
   ·exact r.nd i j x y a e e' h3 h4
   ·-- one of the block's own,one that it does not see
    obtain ⟨a',ha',m0,_,_⟩:=q.ow l y e';have ea:=zK hl' ha';rw [h4] at ea;injection ea with ea;injection ea with ea;injection ea with ea;subst ea;obtain ⟨c,hc1,_,_,t⟩:=r.ow i x e;rw [h3] at hc1;injection hc1 with hc1;injection hc1 with hc1;injection hc1 with hc1;subst hc1;cases z:H1 a with
    |none=>exact absurd z t.there
    |some o=>have w:=keep i x a hi e h3 o z;rw [m0.resolve_right ya] at w;cases w
  ·rcases at1 j _ h2 with ⟨hj,e'⟩|⟨l,hl',e'⟩
   ·obtain ⟨a',ha',m0,_,_⟩:=q.ow k x e;have ea:=zK hk ha';rw [h3] at ea;injection ea with ea;injection ea with ea;injection ea with ea;subst ea;obtain ⟨c,hc1,_,_,t⟩:=r.ow j y e';rw [h4] at hc1;injection hc1 with hc1;injection hc1 with hc1;injection hc1 with hc1;subst hc1;cases z:H1 a with
    |none=>exact absurd z t.there
    |some o=>have w:=keep j y a hj e' h4 o z;rw [m0.resolve_right ya] at w;cases w
   ·obtain ⟨a1,ha1,_⟩:=q.ow k x e;obtain ⟨a2,ha2,_⟩:=q.ow l y e';have e1:=zK hk ha1;have e2:=zK hl' ha2;rw [h3] at e1;rw [h4] at e2;injection e1 with e1;injection e1 with e1;injection e1 with e1;injection e2 with e2;injection e2 with e2;injection e2 with e2;subst e1;subst e2;have kl:=q.nd k l x y a e e' ha1 ha2;subst kl;rw [hk] at hl';injection hl' with hl';injection hl' with hl'
 ·obtain ⟨y,hy⟩:=str' b hS;obtain ⟨a,ha,_,_,t⟩:=ow' 0 y hy;rw [r.pin b hS] at ha;injection ha with ha;injection ha with ha;injection ha with ha;rw [ha];exact t.there
instance {cap:List (Option Nat)}{it:WA}{c:WT}{f:W}[si:SemWI wi it][sg:JT tg ts g][sc:Qc tt c][sf:SemW te f]:SemW (zl wi tg tt te cap) (je cap ts it g c f) where
 h:=λ{ε Q'} h S Hs0 H0 Hs H σ rd Q k=>si.h h rd λxs ε1 J Hs1 H1 h1 rd1 g1 ok=>by
  obtain ⟨hcap,hl,h1⟩:=h1;unfold qO at hcap;rw [yb] at hcap;have hnd:=yc hcap.1;have wk:∀ i∈ts,(u8 cap σ)[i]?=some none:=λi hi=>by
   unfold u8;rw [yV,yc (uY.mp hcap.2 i hi)];rfl
  refine ⟨λn m zs H=>m=xs.length-n/\n<=xs.length/\∃ Hs2 ws ε2,RD [] Hs1 (xa (u8 cap σ) (k9 cap ε1) H1) Hs2 H (u8 cap σ) ε2/\Reps Hs2 ws zs/\ws.length<=n /\
    jf g c f ts (xs.drop n) ws ε2 (λys ε3=>((∃ y:PV,ε1[0]?=some (MSlot.ow y))->∃ y:PV,(e9 cap ε3 ε1)[0]?=some (MSlot.ow y))/\Q' (PV.lst ys) (e9 cap ε3 ε1)),
   ⟨xs.length,by simp,yh _,Hs1,[],_,rd1.block hnd,.nil,yS _,h1⟩,?_⟩
  rintro n m zs H2 ⟨rfl,hn,Hs2,ws,ε2,r2,rz,hw,h2⟩;refine ⟨qj (by rw [rz.length];omega),?_⟩;by_cases hlt:n<xs.length
  ·have hd:xs.drop n=xs[n]::xs.drop (n+1):=yi hlt;rw [hd] at h2;obtain ⟨ε3,e3,h3⟩:=h2;obtain ⟨go,yl⟩:=ok.go n xs[n] Hs2 H2 (by simp [hlt]) r2.s1 r2.s3;refine .inr ⟨go,λv H3 y=>?_⟩;obtain ⟨Hs3,x3,r3⟩:=yl v H3 y;refine sg.h e3 (r2.go x3) r3 λσ4 rd4 bt=>⟨bt.wk wk,sc.h h3 rd4 λb ε5 Hs5 H5 h5 rd5 g5=>?_⟩;cases b with
   |true=>refine qP (sf.h (by simpa using h5) rd5 λy ε6 u Hs6 H6 h6 rd6 g6 ru=>⟨xs.length-(n+1),by omega,rfl,hlt,Hs6,ws++[y],_,rd6.reset bt,?_,by rw [yL];simp;omega,h6⟩);exact (rz.mono (x3.s1.trans (g5.trans g6))).snoc ru
   |false=>exact qB ⟨xs.length-(n+1),by omega,rfl,hlt,Hs5,ws,_,rd5.reset bt,rz.mono (x3.s1.trans g5),by omega,by simpa using h5⟩
  ·have en:n=xs.length:=by omega
   subst en;rw [uS] at h2;refine .inl ⟨ok.stop Hs2 H2 r2.s1 r2.s3,λD hD=>?_⟩;have rd2:=rd1.unblock hnd r2 h2.1;exact k _ _ _ _ _ h2.2 (rd2.go (.new rd2.s3 hD)) (g1.trans (r2.s1.trans (Ext.new rd2.s3 hD).s1)) (rep_lst.mpr ⟨D,zs,rfl,w6,rz.mono (Ext.new rd2.s3 hD).s1⟩)
section
variable {P:Program}{w:World}{K:Fg}{mg:Str->Option Value}{base:Heap}
theorem jL {n i:Nat}:(xs.map MSlot.sh++List.replicate n .no)[i]?≠some (.ow x):=λh=>by
 by_cases hi:i<xs.length
 ·rw [uL (by rw [yZ];exact hi),yV] at h;obtain ⟨y,_,z⟩:=yK.mp h;cases z
 ·rw [uE (by rw [yZ];omega),uA] at h;split at h<;>cases h
theorem ZA {n i:Nat}:(xs.map MSlot.sh++List.replicate n .no)[i]?≠some (.bo x):=λh=>by
 by_cases hi:i<xs.length
 ·rw [uL (by rw [yZ];exact hi),yV] at h;obtain ⟨y,_,z⟩:=yK.mp h;cases z
 ·rw [uE (by rw [yZ];omega),uA] at h;split at h<;>cases h
theorem Dg {a:Addr}(s:Same Hs H)(ha:Hs a=none)(hH:H a=some (.lst [.int n]))(r:Reps Hs xs ws):RD [a] Hs H Hs H (L2.start N (.ref a::ws)) (g7 n::xs.map .sh++List.replicate (N.length-(xs.length+1)) .no):=by
 have q:=jM (N:=N) (xs:= .at (.ref a)::xs) s (.cons (rep_at.mpr rfl) r);have tl:∀(i:Nat)(sl:MSlot),(g7 n::xs.map .sh++List.replicate (N.length-(xs.length+1)) .no)[i+1]?=some sl->((PV.at (.ref a)::xs).map MSlot.sh++List.replicate (N.length-(PV.at (.ref a)::xs).length) .no)[i+1]?=some sl:=λi sl h=>h;refine ⟨.refl _,λb o e _=>e,s,λ_ _ z=>z,λi x h=>?_,λi x h=>?_,λi j x y b h1 h2 _ _=>?_,?_,λb hb=>?_,λb hb=>?_,(λb hb=>⟨_,rfl⟩),λi x h=>by
  cases i with
  |zero=>unfold g7 at h;simp at h
  |succ i=>exact ZA (xs:=PV.at (.ref a)::xs) (tl i _ h)⟩
 ·cases i with
  |zero=>unfold g7 at h;simp at h
  |succ i=>exact q.sh (i+1) x (tl i _ h)
 ·cases i with
  |zero=>unfold g7 at h;simp at h;subst h;refine ⟨a,?_,.inr (yQ.mpr rfl),ha,_,hH,.one (rep_at.mpr rfl)⟩;unfold L2.start;rfl
  |succ i =>
   obtain ⟨c,h1,_⟩:=q.ow (i+1) x (tl i _ h);exact absurd (tl i _ h) λz=>by
    have:=jL (i:=i+1) (x:=x) (xs:=PV.at (.ref a)::xs) (n:=N.length-(PV.at (.ref a)::xs).length);exact this z
 ·cases i with
  |zero =>
   cases j with
   |zero=>rfl
   |succ j=>exact absurd (tl j _ h2) (jL (xs:=PV.at (.ref a)::xs))
  |succ i=>exact absurd (tl i _ h1) (jL (xs:=PV.at (.ref a)::xs))
 ·exact q.len
 ·rw [yQ.mp hb];unfold L2.start;rfl
 ·rw [yQ.mp hb,hH];exact λz=>nomatch z
theorem okD {x:Str}{f:Addr}{k:Nat}(F:Fun K x qual st f fd)(S:v9 N ps (j8 st))(hpre:∀ xs,pre xs->xs.length+1=ps.length)(hb:∀(cdv:Value)(A:Around)(outer:List Env)(s:Shared)(H:Hp)(E:XK),Room k (A.deeper (PyProof.Rows.envOfC qual (j8 st) s.heap.objs.size f cdv)) -> ∃ t,PSs (qG v5 P w K mg base N qual (j8 st) f cdv A outer s H E).nox (i4 st) t/\SemWS t b)(hw:∀ xs n,pre xs->b (g7 n::xs.map .sh++List.replicate (N.length-(xs.length+1)) .no) (λ_=>False) λy ε=>R xs y/\xz 0 ε):FnOk P w K mg base v5 (k+1) f fd ps (spD pre R):=by
 refine F.ok S (λvs H Q E h=>?_) (λcdv A outer s H vs Q E hr h=>?_)
 ·obtain ⟨Hs,a,n,xs,ws,rfl,_,_,_,r,hp,_⟩:=h;rw [yw,r.length];exact hpre xs hp
 ·obtain ⟨Hs,a,n,xs,ws,rfl,sm,ha,hH,r,hp,q⟩:=h;obtain ⟨t,ht,sem⟩:=hb cdv A outer s H E hr;refine ⟨t,ht,sem.h (hw xs n hp) (Dg sm ha hH r) (λε σ Hs' H' z _ _=>z.elim) λy ε σ v Hs' H' hR rd g rv=>?_⟩;obtain ⟨hR,n',hn'⟩:=hR;obtain ⟨a',ha',hH',hs',_⟩:=rd.strm_at hn';rw [rd.pin a (yQ.mpr rfl)] at ha';injection ha' with ha';injection ha' with ha';injection ha' with ha';subst ha';refine q y v n' Hs' H' hR ⟨g,λb o e hb=>rd.s2 b o e λz=>hb (yQ.mp z),rd.s3,λb h z=>rd.s4 b h z⟩ hs' hH' rv
end
def spN (pre:List PV->Prop)(R:List PV->PV->Prop):Sp:=λvs H Q _=>∃ Hs xs,Same Hs H/\Reps Hs xs vs/\pre xs/\∀ y a Hs' H',R xs y->Ext Hs H Hs' H'->H a=none->Hs' a=none->Top Hs' H' a y->Q (.ref a) H'
def spV (pre:List PV->Prop)(R:List PV->PV->Prop):Sp:=λvs H Q _=>∃ Hs xs,Same Hs H/\Reps Hs xs vs/\pre xs/\∀ y v Hs' H',R xs y->Ext Hs H Hs' H'->Rep Hs' y v->Q v H'
def Xh (i:Nat)(pre:List PV->Prop)(R:List PV->PV->Prop)(as:WA):WS:=λε N _=>as ε λxs ε1=>pre xs/\∀ y,R xs y->N (ε1.set i (.ow y))
instance {i:Nat}{as:WA}[sa:jn ta as]:SemWS (qT (qU (spN pre R) [] E ta) (r9 (i+1))) (Xh (i+1) pre R as) where
 h:=λh _ _ _ _ _ _ rd _ k _=>sa.h h rd λxs ε1 vs Hs1 H1 h1 rd1 g1 r1=>by
  refine ⟨Hs1,xs,rd1.s3,by rw [yn];exact r1,h1.1,λy a Hs' H' hR x n n' t=>?_⟩;refine k _ _ _ _ (h1.2 y hR) ((rd1.go x).putO (.inl (rd1.free0 n)) n' t λj z hj e=>?_) (g1.trans x.s1);obtain ⟨b,hb,_,_,tb⟩:=rd1.ow j z hj;rw [e] at hb;injection hb with hb;injection hb with hb;injection hb with hb;subst hb;exact tb.there n
def US (pre:List PV->Prop)(R:List PV->PV->Prop)(as:WA):W:=λε Q=>as ε λxs ε1=>pre xs/\∀ y,R xs y->Q y ε1
instance {as:WA}[sa:jn ta as]:SemW (qU (spV pre R) [] E ta) (US pre R as) where
 h:=λh _ _ _ _ _ _ rd _ k=>sa.h h rd λxs ε1 vs Hs1 H1 h1 rd1 g1 r1 =>
  ⟨Hs1,xs,rd1.s3,by rw [yn];exact r1,h1.1,λy v Hs' H' hR x rv=>k y ε1 v Hs' H' (h1.2 y hR) (rd1.go x) (g1.trans x.s1) rv⟩
section
variable {P:Program}{w:World}{K:Fg}{mg:Str->Option Value}{base:Heap}
theorem YX (s:Same Hs H)(r:Reps Hs xs vs):RD [] Hs H Hs H (L2.start N vs) (xs.map .sh++List.replicate (N.length-xs.length) .no):=by have q:=jM (N:=N) s r;exact ⟨.refl _,λb o e _=>e,s,λ_ _ z=>z,q.sh,λi x h=>absurd h jL,q.nd,q.len,(λ_ z=>nomatch z),(λ_ z=>nomatch z),(λ_ z=>nomatch z),λ_ _=>ZA⟩
theorem okV {x:Str}{f:Addr}{k:Nat}(F:Fun K x qual st f fd)(S:v9 N ps (j8 st))(hpre:∀ xs,pre xs->xs.length=ps.length)(hb:∀(cdv:Value)(A:Around)(outer:List Env)(s:Shared)(H:Hp)(E:XK),Room k (A.deeper (PyProof.Rows.envOfC qual (j8 st) s.heap.objs.size f cdv)) -> ∃ t,PSs (qG v5 P w K mg base N qual (j8 st) f cdv A outer s H E).nox (i4 st) t/\SemWS t b)(hw:∀ xs,pre xs->b (xs.map .sh++List.replicate (N.length-xs.length) .no) (λ_=>False) λy _=>R xs y):FnOk P w K mg base v5 (k+1) f fd ps (spV pre R):=by
 refine F.ok S (λvs H Q E h=>?_) (λcdv A outer s H vs Q E hr h=>?_)
 ·obtain ⟨Hs,xs,_,r,hp,_⟩:=h;rw [r.length];exact hpre xs hp
 ·obtain ⟨Hs,xs,sm,r,hp,q⟩:=h;obtain ⟨t,ht,sem⟩:=hb cdv A outer s H E hr;refine ⟨t,ht,sem.h (hw xs hp) (YX sm r) (λε σ Hs' H' z _ _=>z.elim) λy ε σ v Hs' H' hR rd g rv=>?_⟩;exact q y v Hs' H' hR ⟨g,λb o e=>rd.s2 b o e ya,rd.s3,rd.s4⟩ rv
def scr (K:Fg)(ns:List Int):PV:= .op λH v=>∃ a,v = .ref a/\SqL K H a (ns.map V.int)
theorem DR {K:Fg}{ns:List Int}(s:Same Hs H)(r:Rep Hs (scr K ns) v):∃ a,v = .ref a/\SqL K H a (ns.map V.int):=by obtain ⟨H1,s1,a,rfl,q⟩:=rep_op.mp r;exact ⟨a,rfl,(s1.trans s).seq q⟩
def wN (K:Fg):Sp:=λvs H Q _=>∃(a:Addr)(ns:List Int),vs=[.ref a]/\SqL K H a (ns.map V.int)/\ns.length<=63/\∀ H',Q (.bl true) H'
theorem okL {x:Str}{f:Addr}{k:Nat}(F:Fun K x qual st f fd)(S:v9 N ["script"] (j8 st))(hb:∀ (cdv:Value) (A:Around) (outer:List Env) (s:Shared) (H:Hp) (E:XK),Room k (A.deeper (PyProof.Rows.envOfC qual (j8 st) s.heap.objs.size f cdv)) -> ∃ t,PSs (qG v5 P w K mg base N qual (j8 st) f cdv A outer s H E).nox (i4 st) t/\SemWS t b)(hw:∀ ns:List Int,ns.length<=63->b (.sh (scr K ns)::List.replicate (N.length-1) .no) (λ_=>False) λy _=>y = .at (.bl true)):FnOk P w K mg base v5 (k+1) f fd ["script"] (wN K):=by
 refine F.ok S (λvs H Q E h=>?_) (λcdv A outer s H vs Q E hr h=>?_)
 ·obtain ⟨a,ns,rfl,_⟩:=h;rfl
 ·obtain ⟨a,ns,rfl,hS,h63,q⟩:=h;obtain ⟨t,ht,sem⟩:=hb cdv A outer s H E hr;have r:Reps H [scr K ns] [.ref a]:= .one (rep_op.mpr ⟨H,.refl _,a,rfl,hS⟩);refine ⟨t,ht,sem.h (hw ns h63) (YX (N:=N) (.refl H) r) (λε σ Hs' H' z _ _=>z.elim) λy ε σ v Hs' H' hR rd g rv=>?_⟩;subst hR;cases rep_at.mp rv;exact q H'
end
class qo (w:W):Prop where
 h:∀{ε:ME}{P P':PV->ME->Prop},(∀ y e,P y e->P' y e)->w ε P->w ε P'
class jT (w:WA):Prop where
 h:∀{ε:ME}{P P':List PV->ME->Prop},(∀ y e,P y e->P' y e)->w ε P->w ε P'
class jU (w:WT):Prop where
 h:∀{ε:ME}{P P':Bool->ME->Prop},(∀ y e,P y e->P' y e)->w ε P->w ε P'
class xk (w:WS):Prop where
 h:∀{ε:ME}{N N':ME->Prop}{R R':PV->ME->Prop},(∀ e,N e->N' e)->(∀ y e,R y e->R' y e)->w ε N R->w ε N' R'
instance {f:M}:qo (wP f) where h:=λk ⟨y,e,q⟩=>⟨y,e,k _ _ q⟩
instance {f:MB}:jU (wPT f) where h:=λk ⟨y,e,q⟩=>⟨y,e,k _ _ q⟩
instance {g:PV->PV->Option PV}{b:W}[A:qo a][B:qo b]:qo (qm g a b) where h:=λk h=>A.h (λ_ _ h1=>B.h (λ_ _ ⟨z,e,q⟩=>⟨z,e,k _ _ q⟩) h1) h
instance:jU zG where h:=λk h=>k _ _ h
theorem XR {c:Bool}{A B A' B':Prop}(h1:A->A')(h2:B->B')(h:if c=true then A else B):if c=true then A' else B':=by
 cases c with
 |true=>exact qP (h1 (by simpa using h))
 |false=>exact qB (h2 (by simpa using h))
instance:jT t9 where h:=λk h=>k _ _ h
instance [A:qo a][B:jT r]:jT (y4 a r) where h:=λk h=>A.h (λ_ _ h1=>B.h (λ_ _ h2=>k _ _ h2) h1) h
instance {i:Nat}[A:qo a]:qo (s9 i a) where h:=λk h=>⟨h.1,A.h (λ_ _ ⟨n,m,e1,e2,e3,q⟩=>⟨n,m,e1,e2,e3,k _ _ q⟩) h.2⟩
instance {i:Nat}{a:WA}[A:jT a]:qo (qV i pre R a) where h:=λk h=>⟨h.1,A.h (λ_ _ ⟨h1,h2,h3⟩=>⟨h1,h2,λy n r=>k _ _ (h3 y n r)⟩) h.2⟩
instance {i:Nat}[A:qo a]:qo (wPop i a) where h:=λk h=>⟨h.1,A.h (λ_ _ ⟨xs,j,y,e1,e2,e3,e4,e5,e6,q⟩=>⟨xs,j,y,e1,e2,e3,e4,e5,e6,k _ _ q⟩) h.2⟩
instance {f:MA}:jT (wIp f) where h:=λk ⟨y,e,q⟩=>⟨y,e,k _ _ q⟩
theorem JM {g:MG}{c:WT}{f:W}{ts:List Nat}[C:jU c][F:qo f]{Q Q':List PV->ME->Prop}(k:∀ y e,Q y e->Q' y e):∀(xs ys:List PV)(ε:ME),jf g c f ts xs ys ε Q->jf g c f ts xs ys ε Q'
 |[],ys,ε,h=>k _ _ h
 |x::xs,ys,ε,h=>by
  obtain ⟨ε1,e1,h1⟩:=h;exact ⟨ε1,e1,C.h (λb ε2 h2=>XR (λh3=>F.h (λy ε3 h4=>JM k xs _ _ h4) h3) (λh3=>JM k xs _ _ h3) h2) h1⟩
instance {cap:List (Option Nat)}{it:WA}{c:WT}{f:W}[I:jT it][C:jU c][F:qo f]:qo (je cap ts it g c f) where
 h:=λk h=>I.h (λ_ _ ⟨h1,h2,h3⟩=>⟨h1,h2,JM (λ_ _ ⟨q1,q2⟩=>⟨q1,k _ _ q2⟩) _ _ _ h3⟩) h
instance:xk qW where h:=λk _ h=>k _ h
instance {a:WS}[A:xk a][B:xk b]:xk (wSeq a b) where h:=λk r h=>A.h (λ_ h1=>B.h k r h1) r h
instance {i:Nat}[A:qo a]:xk (p0 i a) where h:=λk _ h=>A.h (λ_ _ h1=>k _ h1) h
instance [A:qo a]:xk (qu a) where h:=λ_ r h=>A.h r h
instance {c:WT}{a:WS}[C:jU c][A:xk a][B:xk b]:xk (qC c a b) where h:=λk r h=>C.h (λ_ _ h1=>XR (λh2=>A.h k r h2) (λh2=>B.h k r h2) h1) h
instance {i:Nat}[A:qo a]:xk (jd i a) where h:=λk _ h=>⟨h.1,A.h (λ_ _ ⟨xs,e1,e2,q⟩=>⟨xs,e1,e2,k _ q⟩) h.2⟩
theorem Xs {g:MG}{c:WT}{f:W}{ts:List Nat}{Q:List PV->ME->Prop}[C:jU c][F:qo f](I:List PV->List PV->ME->Prop)(hd:∀ ys ε,I [] ys ε->Q ys ε)(hs:∀ x xs ys ε,I (x::xs) ys ε->∃ ε1,g x ε=some ε1/\c ε1 λb ε2=>if b=true then f ε2 λy ε3=>I xs (ys++[y]) (rst ts ε3) else I xs ys (rst ts ε2)):∀(xs ys:List PV)(ε:ME),I xs ys ε->jf g c f ts xs ys ε Q
 |[],ys,ε,h=>hd ys ε h
 |x::xs,ys,ε,h=>by
  obtain ⟨ε1,e1,h1⟩:=hs x xs ys ε h;exact ⟨ε1,e1,C.h (λb ε2 h2=>XR (λh3=>F.h (λy ε3 h4=>Xs I hd hs xs _ _ h4) h3) (λh3=>Xs I hd hs xs _ _ h3) h2) h1⟩
theorem Qg {f:W}{Q:List PV->ME->Prop}[F:qo f](I:List PV->List PV->ME->Prop)(hd:∀ ys ε,I [] ys ε->Q ys ε)(hs:∀ x xs ys ε,I (x::xs) ys ε->∃ ε1,g x ε=some ε1/\f ε1 λy ε3=>I xs (ys++[y]) (rst ts ε3))(xs ys:List PV)(ε:ME)(h:I xs ys ε):jf g zG f ts xs ys ε Q :=
 Xs I hd (λx xs ys ε h=>by
  obtain ⟨ε1,e,q⟩:=hs x xs ys ε h;refine ⟨ε1,e,?_⟩;show if true=true then (f ε1 λy ε3=>I xs (ys++[y]) (rst ts ε3)) else I xs ys (rst ts ε1)
  rw [if_pos rfl];exact q) xs ys ε h
theorem Qz {g:MG}{f:WS}{N:ME->Prop}{R:PV->ME->Prop}[F:xk f](I:List PV->ME->Prop)(hd:∀ ε,I [] ε->N ε)(hs:∀ x xs ε,I (x::xs) ε->∃ ε1,g x ε=some ε1/\f ε1 (λε2=>I xs ε2) R):∀(xs:List PV)(ε:ME),I xs ε->wV g f xs ε N R
 |[],ε,h=>hd ε h
 |x::xs,ε,h=>by
  obtain ⟨ε1,e1,h1⟩:=hs x xs ε h;exact ⟨ε1,e1,F.h (λε2 h2=>Qz I hd hs xs ε2 h2) (λ_ _ z=>z) h1⟩
section
variable {ε ε1:ME}{a b:MS}{f g:M}{x y z:PV}{i:Nat}{o:Option Out}
theorem k6 (h:a ε=some (.nx ε1))(k:b ε1=o):w4 a b ε=o:=by unfold w4;rw [h];exact k
theorem XA (h:a ε=some (.rt y)):w4 a b ε=some (.rt y):=by unfold w4;rw [h];rfl
theorem xo (h:f ε=some x):o3 i f ε=some (.nx (ε.set i (.sh x))):=by unfold o3;rw [h];rfl
theorem XB (h:f ε=some x):vf i f ε=some (.nx (ε.set i (.ow x))):=by unfold vf;rw [h];rfl
theorem m4 (h:f ε=some x):u3 f ε=some (.rt x):=by unfold u3;rw [h];rfl
theorem v8 {G:PV->PV->Option PV}{r:Option PV}(h1:f ε=some x)(h2:g ε=some y)(h:G x y=r):z6 G f g ε=r:=by unfold z6;rw [h1];show Option.bind (g ε) _=_;rw [h2];exact h
theorem j9 {r:Option PV}(h1:as ε=some xs)(h:m xs=r):z5 m as ε=r:=by unfold z5;rw [h1];exact h
theorem v4 {r:MA}(h1:f ε=some x)(h2:r ε=some xs):q8 f r ε=some (x::xs):=by unfold q8;rw [h1];show Option.bind (r ε) _=_;rw [h2];rfl
theorem Qr (h:c ε=some true)(k:a ε=o):b9 c a b ε=o:=by unfold b9;rw [h];exact k
theorem qi (h:c ε=some false)(k:b ε=o):b9 c a b ε=o:=by unfold b9;rw [h];exact k
theorem vR (h:it ε=some xs)(k:f9 G a xs ε=o):xI it G a ε=o:=by unfold xI;rw [h];exact k
theorem WD {lo hi:Option Int}(h1:f ε=some (.lst xs))(h2:l ε=some lo)(h3:u ε=some hi):js f l u ε=some (.lst (zb xs lo hi)):=by unfold js;rw [h1];show Option.bind (l ε) _=_;rw [h2];show Option.bind (u ε) _=_;rw [h3];rfl
theorem zM (h:as ε=some xs)(hl:xs.length<=lim):qw as ε=some (.lst xs):=by unfold qw;rw [h];show (if _ then _ else _)=_;rw [if_pos hl]
theorem Qt (h:as ε=some xs)(hl:xs.length<=lim):xK as ε=some (.tup xs):=by unfold xK;rw [h];show (if _ then _ else _)=_;rw [if_pos hl]
theorem Ww {cap:List (Option Nat)}(h:it ε=some xs)(hc:qO cap ts=true)(hl:xs.length<=lim)(k:p7 G c f (k9 cap ε) xs=some ys):u6 cap ts it G c f ε=some (.lst ys):=by unfold u6;rw [h];show (if _ then _ else _)=_;rw [if_pos ⟨hc,hl⟩,k];rfl
end
theorem Ch (h:xs.length+ys.length<=lim):ql (.lst xs) (.lst ys)=some (.lst (xs++ys)):=by show (if _ then _ else _)=_;rw [if_pos h]
theorem vi {n k:Nat}{b:MS}(hl:xs.length=k)(h:b (xs.map .sh++List.replicate (n-k) .no)=some (.rt y)):xH n k b xs=some y:=by unfold xH;rw [if_pos hl,h];rfl
theorem r6 {n k:Nat}{b:MS}(hl:xs.length=k)(h:b (xs.map .sh++List.replicate (n-k) .no)=some (.rt y)):g8 n k b xs=some y:=by unfold g8;rw [if_pos hl,h];rfl
theorem Zm {f:PV->PV->Option Bool}:∀{xs:List PV},(∀ x∈xs,f x x=some true)->xQ f xs xs=some true
 |[],_=>rfl
 |x::xs,h=>by unfold xQ;rw [h x yO];show Option.bind (xQ f xs xs) _=_;rw [Zm λy hy=>h y (yT _ hy)];rfl
def jI:Nat->PV->Prop
 |_,.at u=>u4 u=true
 |n+1,.lst xs=>∀ x∈xs,jI n x
 |n+1,.tup xs=>∀ x∈xs,jI n x
 |_,_=>False
theorem QX:∀(n:Nat){x:PV},jI n x->peq n x x=some true
 |0,x,h=>by
  cases x with
  |«at» u=>show (if _ then _ else _)=_;rw [if_pos ⟨h,h⟩,Qn h]
  |_=>exact h.elim
 |n+1,x,h=>by
  cases x with
  |«at» u=>show (if _ then _ else _)=_;rw [if_pos ⟨(show u4 u=true from h),h⟩,Qn h]
  |lst xs=>show (if _ then _ else _)=_;rw [if_pos rfl];exact Zm λy hy=>QX n (h y hy)
  |tup xs=>show Option.bind (xQ (peq n) xs xs) _=_;rw [Zm λy hy=>QX n (h y hy)];show some (true&&(xs.length==xs.length))=_;rw [beq_self_eq_true];rfl
  |_=>exact h.elim
theorem Ys (h:jI 6 x):qd x x=some (.at (.bl true)):=by unfold qd;rw [QX 6 h];rfl
theorem zV (h:jI 6 x):t0 x x=some (.at (.bl false)):=by unfold t0;rw [QX 6 h];rfl
class zn (K:Fg)(C:Addr):Prop where
 c:Cls K C
class NoA (K:Fg)(C:Addr)(f:Str):Prop where
 n:NoAttr K C f
def vp (f:Str):List Str->List PV->Option PV
 |n::ns,x::xs=>if f=n then some x else vp f ns xs
 |_,_=>none
theorem Ya {H:Hp}{f:Str}{y:PV}:∀{fs:List (Str×V)}{xs:List PV},Reps H xs (fs.map (·.2))->vp f (fs.map (·.1)) xs=some y->∃ v,fs.lookup f=some v/\Rep H y v
 |[],xs,r,h=>by cases xs<;>cases h
 |p::fs,xs,r,h=>by
  cases xs with
  |nil=>cases h
  |cons x xs =>
   obtain ⟨v,w,e,p1,p2⟩:=reps_cons.mp r;rw [yN] at e;injection e with e1 e2;subst e1 e2;rw [yN] at h;unfold vp at h;rw [uU];split at h
   ·rename_i hf;cases h;rw [hf,beq_self_eq_true];exact ⟨p.2,rfl,p1⟩
   ·rename_i hf;rw [beq_eq_false_iff_ne.mpr hf];exact Ya p2 h
def zu (C:Addr)(f:Str)(a:M):M:=λε=>(a ε).bind λx=>match x with
 | .ob C' ns xs=>if C'=C then vp f ns xs else none
 |_=>none
theorem GU {a:M}(h:zu C f a ε=some y):∃ ns xs,a ε=some (.ob C ns xs)/\vp f ns xs=some y:=by
 unfold zu at h;obtain ⟨x,ex,h1⟩:=bind_some h;split at h1
 ·split at h1
  ·rename_i hc;subst hc;exact ⟨_,_,ex,h1⟩
  ·cases h1
 ·cases h1
instance {a:M}[c:zn K C][n:NoA K C f][s:c7 te a]:SemE (tFld K te f) (zu C f a) where
 h:=λe _ _ _ _ _ rs _ q=>by
  obtain ⟨ns,xs,ea,el⟩:=GU e;refine s.h ea rs λv Hs1 H1 x1 r1=>?_;obtain ⟨p,dx,fs,rfl,hp,hk,hr⟩:=Uc x1.s3 r1;rw [<- hk] at el;obtain ⟨u,hu,ru⟩:=Ya hr el;exact ⟨p,C,dx,fs,u,rfl,hp,c.c,n.n,hu,q u _ _ x1 ru⟩
theorem QT {ta:TE}(hK:X.K=K)(he:PE X e ta)(hb:attributeBase e f X.env (eval e X.env)=eval e X.env:=by rfl):PE X (.Attribute e f pos) (tFld K ta f):=by subst hK;exact Cr he hb
structure Mt (P:Program)(w:World)(K:Fg)(mg:Str->Option Value)(base:Heap)(k:Nat)(C:Addr)(m:Str)(ps:List Str)(sp:Sp):Prop where
 ex:∃ f fd,FnOk P w K mg base v5 k f fd ps sp/\vI K C m f/\Cls K C/\Binds K fd ps []
section
variable {X:Cx}{k j:Nat}{C:Addr}{m:Str}{ps:List Str}{sp:Sp}{o e:Expr}{es:List Expr}{ta:TE}{t:TA}{apos pos:Pos}
theorem Yv (c:Mt X.prog X.w X.K X.mg X.base k C m ps sp)(hr:Room j X.A)(hj:k<=j)(ho:PE X o ta)(ha:PA X (e::es) t)
  (hst:starEach (e::es) X.env=(false,eval e X.env)::starEach es X.env:=by rfl) (hpl:(backTo pos (starEach es X.env)).any (·.1)=false:=by rfl)
  (ht:eval (.Call (.Attribute o m apos) (e::es) [] pos) X.env=(do
   let ov <- eval o X.env
   standAt apos.atName
   let (f,first) <- holding [ov] (getMethod ov m pl)
   callWith pos f first (backTo pos (starEach (e::es) X.env)) (backToKw pos (keywordEach [] X.env))):=by rfl) :
  PE X (.Call (.Attribute o m apos) (e::es) [] pos) (jP C m sp [] E0 ta t):=by
 obtain ⟨f,fd,F,hm,hc,hb⟩:=c.ex;exact Ct ho hc hm F (hr.mono hj) hb .nil QS ha hst hpl ht
theorem QW (c:Mt X.prog X.w X.K X.mg X.base k C m ps sp)(hr:Room j X.A)(hj:k<=j)(ho:PE X o ta)
  (ht:eval (.Call (.Attribute o m apos) [] [] pos) X.env=(do
   let ov <- eval o X.env
   standAt apos.atName
   let (f,first) <- holding [ov] (getMethod ov m pl)
   callWith pos f first (backTo pos (starEach [] X.env)) (backToKw pos (keywordEach [] X.env))):=by rfl) :
  PE X (.Call (.Attribute o m apos) [] [] pos) (jP C m sp [] E0 ta i9):=by
 obtain ⟨f,fd,F,hm,hc,hb⟩:=c.ex;exact Cu ho hc hm F (hr.mono hj) hb .nil QS ht
end
variable {fr:Bool}
def xM:PV->Option z9
 | .at (.int i)=>some (.inl i)
 | .at (.str x)=>some (.inr x)
 |_=>none
theorem zO {k:z9}(r:RepB Hs H x v)(h:xM x=some k):v=kV k:=by
 unfold xM at h;split at h
 ·cases h;cases u7 r;rfl
 ·cases h;cases u7 r;rfl
 ·cases h
def qc (k:z9):List z9->List PV->Option PV
 |n::ns,x::xs=>if n=k then some x else qc k ns xs
 |_,_=>none
theorem Qx {H:Hp}{k:z9}:∀{kvs:List (z9×V)}{xs:List PV},Reps H xs (kvs.map (·.2))->match qc k (kvs.map (·.1)) xs with
  |some y=>∃ v,qa kvs k=some v/\Rep H y v
  |none=>qa kvs k=none
 |[],xs,r=>by
  have hx:xs=[]:=uz.mp r.length.symm;subst hx;rfl
 |p::kvs,xs,r=>by
  cases xs with
  |nil=>have:=r.length;simp at this
  |cons x xs =>
   obtain ⟨v,w,e,p1,p2⟩:=reps_cons.mp r;rw [yN] at e;injection e with e1 e2;subst e1 e2;rw [yN];unfold qc;by_cases hk:p.1=k
   ·rw [if_pos hk];refine ⟨p.2,?_,p1⟩;unfold qa;rw [uP,yt hk];rfl
   ·rw [if_neg hk];have ih:=Qx (k:=k) p2;have ev:qa (p::kvs) k=qa kvs k:=by unfold qa;rw [uP,yD hk]
    rw [ev];exact ih
def zc (a b:M):M:=λε=>(a ε).bind λx=>(b ε).bind λy=>(xM y).bind λk=>match x with
 | .dk ks xs=>qc k ks xs
 | .fk ks xs=>qc k ks xs
 |_=>none
instance {a b:M}[sa:c7 td a][sb:c7 ty b]:SemE (Uv td ty) (zc a b) where
 h:=λe _ _ _ _ _ rs _ q=>by
  obtain ⟨x,ex,e1⟩:=bind_some e;obtain ⟨y,ey,e2⟩:=bind_some e1;obtain ⟨k,ek,e3⟩:=bind_some e2;split at e3
  ·refine sa.h ex rs λv Hs1 H1 x1 r1=>sb.h ey (rs.go x1) λw Hs2 H2 x2 r2=>?_;obtain ⟨p,kvs,rfl,hp,hk,hr⟩:=ja x2.s3 (r1.ext x2);have l:=Qx (k:=k) hr;rw [hk,e3] at l;obtain ⟨u,hu,ru⟩:=l;have ew:=zO r2 ek;subst ew;exact ⟨p,u,rfl,by rw [<- hu];exact DGet.k hp,q u _ _ (x1.trans x2) ru⟩
  ·refine sa.h ex rs λv Hs1 H1 x1 r1=>sb.h ey (rs.go x1) λw Hs2 H2 x2 r2=>?_;obtain ⟨p,o,kvs,rfl,hp,hk,hr⟩:=wK x2.s3 (r1.ext x2);have l:=Qx (k:=k) hr;rw [hk,e3] at l;obtain ⟨u,hu,ru⟩:=l;have ew:=zO r2 ek;subst ew;exact ⟨p,u,rfl,by rw [<- hu];exact .inl ⟨kvs,k,.inr ⟨o,hp⟩,rfl,rfl⟩,q u _ _ (x1.trans x2) ru⟩
  ·cases e3
def dDIn (b a:M):M:=λε=>(b ε).bind λy=>(a ε).bind λx=>(xM y).bind λk=>match x with
 | .dk ks xs=>some (.at (.bl (qc k ks xs).isSome))
 | .fk ks xs=>some (.at (.bl (qc k ks xs).isSome))
 |_=>none
def Qi (b a:M):M:=λε=>(b ε).bind λy=>(a ε).bind λx=>(xM y).bind λk=>match x with
 | .dk ks xs=>some (.at (.bl (!(qc k ks xs).isSome)))
 | .fk ks xs=>some (.at (.bl (!(qc k ks xs).isSome)))
 |_=>none
theorem vW {k:z9}{kvs:List (z9×V)}(r:Reps H xs (kvs.map (·.2))):(qc k (kvs.map (·.1)) xs).isSome=(qa kvs k).isSome:=by
 have l:=Qx (k:=k) r;cases e:qc k (kvs.map (·.1)) xs with
 |none=>rw [e] at l;rw [show qa kvs k=none from l];rfl
 |some y=>rw [e] at l;obtain ⟨v,hv,_⟩:=l;rw [hv];rfl
instance {a b:M}[sa:c7 td a][sb:c7 ty b]:SemE (tDIn ty td) (dDIn b a) where
 h:=λe _ _ _ _ _ rs _ q=>by
  obtain ⟨y,ey,e1⟩:=bind_some e;obtain ⟨x,ex,e2⟩:=bind_some e1;obtain ⟨k,ek,e3⟩:=bind_some e2;split at e3
  ·cases e3;refine sb.h ey rs λw Hs1 H1 x1 r1=>sa.h ex (rs.go x1) λv Hs2 H2 x2 r2=>?_;obtain ⟨p,kvs,rfl,hp,hk,hr⟩:=ja x2.s3 r2;have ew:=zO r1 ek;subst ew;exact ⟨p,_,rfl,DGet.k hp,q _ _ _ (x1.trans x2) (rep_at.mpr (by rw [<- hk,vW hr]))⟩
  ·cases e3;refine sb.h ey rs λw Hs1 H1 x1 r1=>sa.h ex (rs.go x1) λv Hs2 H2 x2 r2=>?_;obtain ⟨p,o,kvs,rfl,hp,hk,hr⟩:=wK x2.s3 r2;have ew:=zO r1 ek;subst ew;exact ⟨p,_,rfl,.inl ⟨kvs,_,.inr ⟨o,hp⟩,rfl,rfl⟩,q _ _ _ (x1.trans x2) (rep_at.mpr (by rw [<- hk,vW hr]))⟩
  ·cases e3
instance {a b:M}[sa:c7 td a][sb:c7 ty b]:SemE (Ux ty td) (Qi b a) where
 h:=λe _ _ _ _ _ rs _ q=>by
  obtain ⟨y,ey,e1⟩:=bind_some e;obtain ⟨x,ex,e2⟩:=bind_some e1;obtain ⟨k,ek,e3⟩:=bind_some e2;split at e3
  ·cases e3;refine sb.h ey rs λw Hs1 H1 x1 r1=>sa.h ex (rs.go x1) λv Hs2 H2 x2 r2=>?_;obtain ⟨p,kvs,rfl,hp,hk,hr⟩:=ja x2.s3 r2;have ew:=zO r1 ek;subst ew;exact ⟨p,_,rfl,DGet.k hp,q _ _ _ (x1.trans x2) (rep_at.mpr (by rw [<- hk,vW hr]))⟩
  ·cases e3;refine sb.h ey rs λw Hs1 H1 x1 r1=>sa.h ex (rs.go x1) λv Hs2 H2 x2 r2=>?_;obtain ⟨p,o,kvs,rfl,hp,hk,hr⟩:=wK x2.s3 r2;have ew:=zO r1 ek;subst ew;exact ⟨p,_,rfl,.inl ⟨kvs,_,.inr ⟨o,hp⟩,rfl,rfl⟩,q _ _ _ (x1.trans x2) (rep_at.mpr (by rw [<- hk,vW hr]))⟩
  ·cases e3
def Wj:M:=λ_=>some (.dk [] [])
instance:qv Uw Wj where
 h:=λe _ _ _ _ _ rs _ q=>by
  cases e;exact λp hp=>q p _ _ (.newO rs.sub hp) hp (rs.sub.free hp) ⟨[],w6,rfl,.nil⟩
def wI (k:z9)(y:PV):List z9->List PV->List PV
 |n::ns,x::xs=>if n=k then y::wI k y ns xs else x::wI k y ns xs
 |_,xs=>xs
def Xc (k:z9)(y:PV)(ks:List z9)(xs:List PV):PV:=if (qc k ks xs).isSome=true then .dk ks (wI k y ks xs) else .dk (ks++[k]) (xs++[y])
theorem YG {H:Hp}{k:z9}{y:PV}{v:V}(ry:Rep H y v):∀{kvs:List (z9×V)}{xs:List PV},Reps H xs (kvs.map (·.2))->Reps H (wI k y (kvs.map (·.1)) xs) ((kvs.map (λkv=>if kv.1=k then (kv.1,v) else kv)).map (·.2))/\(kvs.map (λkv=>if kv.1=k then (kv.1,v) else kv)).map (·.1)=kvs.map (·.1)
 |[],xs,r=>by
  have hx:xs=[]:=uz.mp r.length.symm;subst hx;exact ⟨.nil,rfl⟩
 |p::kvs,xs,r=>by
  cases xs with
  |nil=>have:=r.length;simp at this
  |cons x xs =>
   obtain ⟨u,w,e,p1,p2⟩:=reps_cons.mp r;rw [yN] at e;injection e with e1 e2;subst e1 e2;obtain ⟨h1,h2⟩:=YG (k:=k) ry p2;rw [yN,yN,yN,yN];unfold wI;by_cases hk:p.1=k
   ·rw [if_pos hk,if_pos hk];exact ⟨.cons ry h1,by rw [h2]⟩
   ·rw [if_neg hk,if_neg hk];exact ⟨.cons p1 h1,by rw [h2]⟩
def dPut (i:Nat)(kk vv:M):MS:=λε=>(vv ε).bind λy=>(kk ε).bind λx=>(xM x).bind λk=>match ε[i]? with
 |some (.ow (.dk ks xs))=>if ks.length<=lim then some (.nx (ε.set i (.ow (Xc k y ks xs)))) else none
 |_=>none
instance {i:Nat}{kk vv:M}[sk:SemE ty kk][sv:SemE tv vv]:o8 fr (Ui (m3 i) ty tv) (dPut i kk vv) where
 h:=λe _ _ _ _ _ rs _ q=>by
  obtain ⟨y,ey,e1⟩:=bind_some e;obtain ⟨x,ex,e2⟩:=bind_some e1;obtain ⟨k,ek,e3⟩:=bind_some e2;split at e3
  ·rename_i ks xs hi;split at e3
   ·rename_i hl;cases e3;refine sv.h ey rs λv Hs1 H1 x1 r1=>?_;obtain ⟨p,hp,n0,n,t⟩:=(rs.go x1).ow i _ hi;refine ⟨_,hp,sk.h ex (rs.go x1) λw Hs2 H2 x2 r2=>?_⟩;obtain ⟨p',hp',_,n2,kvs,hv,hk,hr⟩:=((rs.go x1).go x2).ow i _ hi;rw [hp] at hp';injection hp' with hp';injection hp' with hp';injection hp' with hp';subst hp';have ew:=zO (.inl r2:RepB Hs2 H2 x w) ek;subst ew;have hlen:kvs.length<=lim:=by rw [<- hk,yZ] at hl;exact hl
    refine ⟨p,_,rfl,DPut.k hv (vo hlen),q _ _ _ (((rs.go x1).go x2).change hi hp ?_)⟩;have hs:=vW (k:=k) hr;unfold Xc xw;rw [JI,<- hs,hk];by_cases hc:(qc k ks xs).isSome=true
    ·rw [if_pos hc,if_pos hc];obtain ⟨q1,q2⟩:=YG (k:=k) (r1.mono x2.s1) hr;exact ⟨_,w6,by rw [q2,hk],by rw [<- hk];exact q1⟩
    ·rw [if_neg hc,if_neg hc];exact ⟨_,w6,by rw [yB,hk];rfl,by rw [yB];exact hr.append (.one (r1.mono x2.s1))⟩
   ·cases e3
  ·cases e3
def rLeS:R2:=λx y H Q=>∃ i j,x = .str i/\y = .str j/\Q (.bl (!decide (j.cps.toList<i.cps.toList))) H
theorem Yq :OpR X (compareOp .LtE) rLeS:=Cc
def pLeS:PV->PV->Option PV
 | .at (.str i),.at (.str j)=>some (.at (.bl (!decide (j.cps.toList<i.cps.toList))))
 |_,_=>none
instance:qN rLeS pLeS where
 h:=λ{x y z} e {Hs H v w} s a b {Q} q=>by
  unfold pLeS at e;split at e
  ·cases e;cases u7 a;cases u7 b;exact ⟨_,_,rfl,rfl,q _ _ _ (.refl s) (rep_at.mpr rfl)⟩
  ·cases e
def wM (z:Str):List PV:=z.cps.toList.map λc=> .at (.str ⟨#[c]⟩)
def dItS (a:M):MA:=λε=>(a ε).bind λx=>match x with
 | .at (.str z)=>some (wM z)
 |_=>none
theorem Bd {z:Str}:jg (ItS z) (wM z) Hs where
 go:=λi x Hs1 H1 e g1 g2=>by
  unfold wM at e;rw [yV] at e;obtain ⟨c,hc,rfl⟩:=yK.mp e;rw [Array.getElem?_toList] at hc;have hl:i<z.cps.size:=(Array.getElem?_eq_some_iff.mp hc).1;refine ⟨hl,λv H2 y=>?_⟩;obtain ⟨rfl,c',hc',rfl⟩:=y;rw [hc] at hc';cases hc';exact ⟨Hs1,.refl g2,rep_at.mpr rfl⟩
 stop:=λHs1 H1 g1 g2=>by
  show (wM z).length=z.cps.size;unfold wM;rw [yZ,Array.length_toList]
instance {a:M}[sa:SemE te a]:xl (iStr te) (dItS a) where
 h:=λe _ _ _ _ _ rs _ q=>by
  obtain ⟨x,ex,e1⟩:=bind_some e;split at e1
  ·cases e1;exact sa.h ex rs λv Hs1 H1 x1 r1=>⟨_,rep_at.mp r1,q _ _ _ x1 Bd⟩
  ·cases e1
theorem YF {f:Str}{v:V}:∀{fs:List (Str×V)},f∉fs.map (·.1)->qt f v fs=fs++[(f,v)]
 |[],_=>rfl
 |(g,x)::r,h=>by
  rw [yN] at h;unfold qt;rw [if_neg (show ¬ g=f from λz=>h (by rw [<- z];exact yO)),YF λz=>h (yT _ z)];rfl
def UU (C:Addr)(f:Str)(a:W):WS:=λε N _=>a ε λy ε1=>∃ ns xs,ε1[0]?=some (.ow (.ob C ns xs))/\f∉ns/\ns.length<1000/\N (ε1.set 0 (.ow (.ob C (ns++[f]) (xs++[y]))))
instance [c:zn K C][n:NoA K C f][sa:SemW te a]:SemWS (wL K (m3 0) te f) (UU C f a) where
 h:=λh _ _ _ _ _ _ rd _ k _=>sa.h h rd λy ε1 v Hs1 H1 h1 rd1 g1 r1=>by
  obtain ⟨ns,xs,he,hf,hl,h2⟩:=h1;obtain ⟨p,hp,h0,hs,dx,fs,hH,hk,hr⟩:=rd1.ow 0 _ he;have hf':f∉fs.map (·.1):=by rw [hk];exact hf
  have hl':fs.length<1000:=by rw [<- yZ (f:=(·.1)),hk];exact hl
  refine ⟨_,hp,p,C,dx,fs,rfl,hH,c.c,n.n,hl',?_⟩;rw [YF hf'];exact k _ _ _ _ h2 (rd1.change he hp ⟨dx,_,w6,by rw [yB,hk];rfl,by rw [yB];exact hr.append (.one r1)⟩) g1
def ve (C:Addr)(nm:Str)(m:List PV->Option PV)(i:Nat)(as:MA):M:=λε=>match ε[i]? with
 |some (.ow (.ob C' ns fs))=>if C'=C/\nm∉ns then (as ε).bind λxs=>(m (.ob C ns fs::xs)).bind λy=>match y with
  | .at u=>some (.at u)
  |_=>none else none
 |_=>none
instance {i:Nat}[sa:qp ta as]:SemE (jP C nm (v6 m) [] E (m3 i) ta) (ve C nm m i as) where
 h:=λ{ε y} e {Hs0 H0 Hs H σ} rs {Q} q=>by
  unfold ve at e;split at e
  ·rename_i C' ns fs hi;split at e
   ·rename_i hc;obtain ⟨rfl,hn⟩:=hc;obtain ⟨xs,ex,e1⟩:=bind_some e;obtain ⟨z,ez,e2⟩:=bind_some e1;split at e2
    ·rename_i u;cases e2;obtain ⟨p,hp,n0,n,dx,gs,hH,hk,hr⟩:=rs.ow i _ hi;refine ⟨_,hp,p,dx,gs,rfl,hH,XX (by rw [hk];exact hn),sa.h ex rs λvs Hs1 H1 x1 r1=>?_⟩;have hH1:=x1.s2 _ _ hH;have n1:Hs1 p=none:=x1.s4 p (by rw [hH];exact λz=>nomatch z) n;have g:Same Hs1 (z8 Hs1 p (.ins C' dx gs)):=λb w e=>by rw [j3 (u9 e n1)];exact e
     refine ⟨z8 Hs1 p (.ins C' dx gs),_,_,?_,?_,ez,λv Hs' H' x r=>?_⟩
     ·intro b w e;by_cases hb:b=p
      ·subst hb;rw [w6] at e;cases e;exact hH1
      ·rw [j3 hb] at e;exact x1.s3 _ _ e
     ·rw [yn];exact .cons (rep_ob.mpr ⟨p,dx,gs,rfl,w6,hk,(hr.mono x1.s1).mono g⟩) (r1.mono g)
     ·cases rep_at.mp r;refine q _ (λb=>if b=p then none else Hs' b) H' (x1.trans ⟨λb w e=>?_,x.s2,λb w e=>?_,λb hb w=>?_⟩) (rep_at.mpr rfl)
      ·rw [if_neg (u9 e n1)];exact x.s1 _ _ (g _ _ e)
      ·split at e
       ·cases e
       ·exact x.s3 _ _ e
      ·by_cases hbp:b=p
       ·rw [if_pos hbp]
       ·rw [if_neg hbp];exact x.s4 b hb (by rw [j3 hbp];exact w)
    ·cases e2
   ·cases e
  ·cases e
def spI (C:Addr)(m:List PV->Option PV):Sp:=λvs H Q _=>∃ Hs x dx xs ws y,vs = .ref x::ws/\Same Hs H/\H x=some (.ins C dx [])/\Hs x=none/\Reps Hs xs ws/\m xs=some y /\
 ∀ Hs' H',Same Hs Hs'->(∀ b o,H b=some o->b≠x->H' b=some o)->Same Hs' H'->(∀ b,H b≠none->b≠x->Hs b=none->Hs' b=none)->Rep Hs' y (.ref x)->Q .non H'
instance {ds:List V}[sa:qp ta as]:SemE (wQ C (spI C m) ds E ta) (Xu m ds as) where
 h:=λe _ _ _ _ _ rs _ q=>by
  obtain ⟨xs,ex,e1⟩:=bind_some e;refine sa.h ex rs λvs Hs1 H1 x1 r1=>λx dx hx hdx hne=>?_;have s3:Same Hs1 (z8 (z8 H1 dx (.own x)) x (.ins C dx [])):=λb o e=>by
   have e':=x1.s3 _ _ e;rw [j3 (u9 e' hx),j3 (u9 e' hdx)];exact e'
  refine ⟨Hs1,x,dx,_,_,_,rfl,s3,w6,x1.s3.free hx,r1.append (.ofAts ds),e1,λHs' H' g1 g2 g3 g4 r=>⟨rfl,q _ _ _ (x1.trans ⟨g1,λb o e=>?_,g3,λb hb z=>?_⟩) r⟩⟩
  ·refine g2 b o ?_ (u9 e hx);rw [j3 (u9 e hx),j3 (u9 e hdx)];exact e
  ·have hbx:b≠x:=λw=>hb (by rw [w];exact hx);have hbd:b≠dx:=λw=>hb (by rw [w];exact hdx);exact g4 b (by rw [j3 hbx,j3 hbd];exact hb) hbx z
section
variable {P:Program}{w:World}{K:Fg}{mg:Str->Option Value}{base:Heap}
theorem Dh {a:Addr}(s:Same Hs H)(ha:Hs a=none)(t:Top Hs H a y)(r:Reps Hs xs ws):RD [a] Hs H Hs H (L2.start N (.ref a::ws)) (.ow y::xs.map .sh++List.replicate (N.length-(xs.length+1)) .no):=by
 have q:=jM (N:=N) (xs:= .at (.ref a)::xs) s (.cons (rep_at.mpr rfl) r);have tl:∀(i:Nat)(sl:MSlot),(MSlot.ow y::xs.map .sh++List.replicate (N.length-(xs.length+1)) .no)[i+1]?=some sl->((PV.at (.ref a)::xs).map MSlot.sh++List.replicate (N.length-(PV.at (.ref a)::xs).length) .no)[i+1]?=some sl:=λi sl h=>h;refine ⟨.refl _,λb o e _=>e,s,λ_ _ z=>z,λi x h=>?_,λi x h=>?_,λi j x y b h1 h2 _ _=>?_,?_,λb hb=>?_,λb hb=>?_,(λb hb=>⟨_,rfl⟩),λi x h=>by
  cases i with
  |zero=>simp at h
  |succ i=>exact ZA (xs:=PV.at (.ref a)::xs) (tl i _ h)⟩
 ·cases i with
  |zero=>simp at h
  |succ i=>exact q.sh (i+1) x (tl i _ h)
 ·cases i with
  |zero=>simp at h;subst h;exact ⟨a,by unfold L2.start;rfl,.inr (yQ.mpr rfl),ha,t⟩
  |succ i=>exact absurd (tl i _ h) (jL (xs:=PV.at (.ref a)::xs))
 ·cases i with
  |zero =>
   cases j with
   |zero=>rfl
   |succ j=>exact absurd (tl j _ h2) (jL (xs:=PV.at (.ref a)::xs))
  |succ i=>exact absurd (tl i _ h1) (jL (xs:=PV.at (.ref a)::xs))
 ·exact q.len
 ·rw [yQ.mp hb];unfold L2.start;rfl
 ·rw [yQ.mp hb];exact t.there
end
variable {fr:Bool}
structure ItOkB (J:It)(xs:List PV)(Hs H:Hp):Prop where
 go:∀(i:Nat)(x:PV)(Hs1 H1:Hp),xs[i]?=some x->Same Hs Hs1->Same H H1->Same Hs1 H1->J.go i H1/\∀ v H2,J.yld i H1 v H2->∃ Hs2,Ext Hs1 H1 Hs2 H2/\Rep Hs2 x v
 stop:∀(Hs1 H1:Hp),Same Hs Hs1->Same H H1->Same Hs1 H1->J.stop xs.length H1
class JR (ti:TI)(f:MA):Prop where
 h:∀{ε xs},f ε=some xs->∀{Hs0 H0 Hs H σ},RS Hs0 H0 Hs H σ ε->∀{R:It->Hp->Prop},(∀ J Hs' H',Ext Hs H Hs' H'->ItOkB J xs Hs' H'->R J H')->ti σ H R
instance {a:M}[sa:c7 te a]:JR (vk K te) (y7 a) where
 h:=λe _ _ _ _ _ rs _ q=>by
  obtain ⟨x,ex,e1⟩:=bind_some e;split at e1
  ·cases e1;refine sa.h ex rs λv Hs1 H1 x1 r1=>?_;obtain ⟨p,vs,rfl,hp,r⟩:=i8 x1.s3 r1;refine ⟨p,rfl,⟨vs,SqL.of hp⟩,q _ _ _ x1 ⟨λi x Hs2 H2 ei g1 g2 g3=>?_,λHs2 H2 g1 g2 g3=>⟨vs,SqL.of (g2 _ _ hp),by rw [r.length];exact yS _⟩⟩⟩;obtain ⟨v,ev,rv⟩:=r.get ei;refine ⟨⟨vs,v,SqL.of (g2 _ _ hp),ev⟩,λw H3 y=>?_⟩;obtain ⟨rfl,y⟩:=y;have z:=y vs (SqL.of (g2 _ _ hp));rw [ev] at z;cases z;exact ⟨Hs2,.refl g3,rv.mono g1⟩
  ·cases e1
def zr (cap:List (Option Nat))(ts:List Nat)(i:MA)(g:MG)(c:MB)(f:M):M:=λε=>(i ε).bind λxs=>if qO cap ts=true/\xs.length<=lim then (p7 g c f (k9 cap ε) xs).bind λys=>some (.lst ys) else none
instance {cap:List (Option Nat)}{i:MA}{f:M}[si:JR wi i][sg:xY tg ts g][sc:f6 tt c][sf:SemE te f]:qv (zl wi tg tt te cap) (zr cap ts i g c f) where
 h:=λe Hs0 H0 Hs H σ rs Q q=>by
  obtain ⟨xs,ex,e1⟩:=bind_some e;split at e1
  ·rename_i hcl;obtain ⟨hcap,hl⟩:=hcl;unfold qO at hcap;rw [yb] at hcap;obtain ⟨ys,ey,e2⟩:=bind_some e1;cases e2;refine si.h ex rs λJ Hs1 H1 x1 ok=>?_;have rc:=((rs.go x1).cap (yc hcap.1)).rebase;have wk:∀ i∈ts,(u8 cap σ)[i]?=some none:=λi hi=>by
    unfold u8;rw [yV,yc (uY.mp hcap.2 i hi)];rfl
   refine ⟨λk m zs H=>m=xs.length-k/\k<=xs.length/\∃ Hs2 ws,Ext Hs1 H1 Hs2 H/\RS Hs1 H0 Hs2 H (u8 cap σ) (k9 cap _)/\Reps Hs2 ws zs/\ws.length<=k/\∃ rest,p7 g c f (k9 cap _) (xs.drop k)=some rest/\ys=ws++rest,
    ⟨xs.length,by simp,yh _,Hs1,[],.refl x1.s3,rc,.nil,yS _,ys,ey,rfl⟩,?_⟩
   rintro k m zs H2 ⟨rfl,hk,Hs2,ws,x2,r2,rz,hw,rest,er,eys⟩;refine ⟨qj (by rw [rz.length];omega),?_⟩;by_cases hlt:k<xs.length
   ·have hd:xs.drop k=xs[k]::xs.drop (k+1):=yi hlt;rw [hd] at er;unfold p7 at er;obtain ⟨ε1,eg,er1⟩:=bind_some er;obtain ⟨b,eb,er2⟩:=bind_some er1;obtain ⟨go,yl⟩:=ok.go k xs[k] Hs2 H2 (by simp [hlt]) x2.s1 x2.s2 x2.s3;refine .inr ⟨go,λv H3 y=>?_⟩;obtain ⟨Hs3,x3,r3⟩:=yl v H3 y;refine sg.h eg (r2.go x3) r3 λσ2 rs2 bt=>⟨bt.wk wk,sc.h eb rs2 λHs4 H4 x4=>?_⟩;cases b with
    |true =>
     rw [if_pos rfl] at er2;obtain ⟨z,ez,er3⟩:=bind_some er2;obtain ⟨rest',er4,er5⟩:=bind_some er3;cases er5;refine qP (sf.h ez (rs2.go x4) λu Hs5 H5 x5 r5=>⟨xs.length-(k+1),by omega,rfl,hlt,Hs5,ws++[z],x2.trans (x3.trans (x4.trans x5)),((r2.go x3).go x4).go x5,?_,?_,rest',er4,?_⟩)
     ·exact (rz.mono (x3.s1.trans (x4.s1.trans x5.s1))).snoc r5
     ·rw [yL];simp;omega
     ·rw [uV];exact eys
    |false=>rw [if_neg yW] at er2;exact qB ⟨xs.length-(k+1),by omega,rfl,hlt,Hs4,ws,x2.trans (x3.trans x4),(r2.go x3).go x4,rz.mono (x3.s1.trans x4.s1),by omega,rest,er2,eys⟩
   ·have ek:k=xs.length:=by omega
    subst ek;rw [uS] at er;unfold p7 at er;cases er;refine .inl ⟨ok.stop Hs2 H2 x2.s1 x2.s2 x2.s3,λD hD=>?_⟩;rw [yn] at eys;subst eys;have x12:=x1.trans x2;exact q D Hs2 _ (x12.trans (.newO x2.s3 hD)) (x12.s2.free hD) (x2.s3.free hD) ⟨zs,w6,rz⟩
  ·cases e1
section
variable {ε:ME}{c d:MB}{f:M}{a b:WS}{N:ME->Prop}{R:PV->ME->Prop}
theorem zm (h:c ε=some false)(k:b ε N R):qC (wPT c) a b ε N R:=by
 refine ⟨false,h,?_⟩;show if false=true then a ε N R else b ε N R
 rw [if_neg yW];exact k
theorem jR (h:c ε=some true)(k:a ε N R):qC (wPT c) a b ε N R:=by
 refine ⟨true,h,?_⟩;show if true=true then a ε N R else b ε N R
 rw [if_pos rfl];exact k
theorem qY (h1:c ε=some false)(h2:d ε=some false):n9 c d ε=some false:=by unfold n9;rw [h1];show (if false=true then some true else d ε)=_;rw [if_neg yW];exact h2
theorem Wl (h1:c ε=some true):n9 c d ε=some true:=by unfold n9;rw [h1];rfl
theorem Xv (h1:c ε=some false)(h2:d ε=some true):n9 c d ε=some true:=by unfold n9;rw [h1];show (if false=true then some true else d ε)=_;rw [if_neg yW];exact h2
theorem GT (h1:c ε=some false):zp c d ε=some false:=by unfold zp;rw [h1];rfl
theorem Xt {v:Bool}(h1:c ε=some true)(h2:d ε=some v):zp c d ε=some v:=by unfold zp;rw [h1];show (if true=true then d ε else some false)=_;rw [if_pos rfl];exact h2
theorem qh (h:c ε=some true):c5 c ε=some false:=by unfold c5;rw [h];rfl
theorem GV (h:c ε=some false):c5 c ε=some true:=by unfold c5;rw [h];rfl
theorem qz {v:Bool}(h:f ε=some (.at (.bl v))):p8 f ε=some v:=by unfold p8;rw [h];rfl
theorem k5 {v:Bool}(h:f ε=some (.at (.bl v))):dT f ε=some v:=by unfold dT;rw [h];rfl
theorem XO :m7 [.lst xs,.at (.ty "list")]=some (.at (.bl true)):=by unfold m7 tyP;simp only [yI,MJ]
end
variable {fr:Bool}
theorem Qh {g:MG}{f:M}{ε0:ME}{α:Type}(F G:α->PV):∀(l:List α),(∀ a∈l,∃ ε1,g (F a) ε0=some ε1/\f ε1=some (G a))->p7 g k4 f ε0 (l.map F)=some (l.map G)
 |[],_=>rfl
 |a::l,h=>by
  obtain ⟨ε1,e1,e2⟩:=h a yO;have ih:=Qh F G l λb hb=>h b (yT _ hb);show Option.bind (g (F a) ε0) (λε1=>Option.bind (k4 ε1) λb=>if b=true then (f ε1).bind λy=>(p7 g k4 f ε0 (l.map F)).bind λys=>some (y::ys) else p7 g k4 f ε0 (l.map F))=_;rw [e1,ih];show (if true=true then (f ε1).bind λy=>some (y::l.map G) else some (l.map G))=_;rw [if_pos rfl,e2];rfl
theorem Qf {g:MG}{c:MB}{f:M}{ε0:ME}{α:Type}(F G:α->PV)(p:α->Bool):∀(l:List α),(∀ a∈l,∃ ε1,g (F a) ε0=some ε1/\c ε1=some (p a)/\(p a=true->f ε1=some (G a)))->p7 g c f ε0 (l.map F)=some ((l.filter p).map G)
 |[],_=>rfl
 |a::l,h=>by
  obtain ⟨ε1,e1,e2,e3⟩:=h a yO;have ih:=Qf F G p l λb hb=>h b (yT _ hb);show Option.bind (g (F a) ε0) (λε1=>Option.bind (c ε1) λb=>if b=true then (f ε1).bind λy=>(p7 g c f ε0 (l.map F)).bind λys=>some (y::ys) else p7 g c f ε0 (l.map F))=_;rw [e1,ih];show Option.bind (c ε1) (λb=>if b=true then (f ε1).bind λy=>some (y::(l.filter p).map G) else some ((l.filter p).map G))=_;rw [e2,yI,uX];cases hp:p a with
  |true=>rw [if_pos rfl,if_pos rfl,e3 hp];rfl
  |false=>rw [if_neg yW,if_neg yW]
theorem o4 {cap:List (Option Nat)}{f:M}(F G:α->PV)(l:List α)(h:it ε=some (l.map F))(hc:qO cap ts=true)(hl:l.length<=lim)(k:∀ a∈l,∃ ε1,g (F a) (k9 cap ε)=some ε1/\f ε1=some (G a)):u6 cap ts it g k4 f ε=some (.lst (l.map G)):=Ww h hc (by rw [yZ];exact hl) (Qh F G l k)
theorem Wv {cap:List (Option Nat)}{f:M}(F G:α->PV)(p:α->Bool)(l:List α)(h:it ε=some (l.map F))(hc:qO cap ts=true)(hl:l.length<=lim)(k:∀ a∈l,∃ ε1,g (F a) (k9 cap ε)=some ε1/\c ε1=some (p a)/\(p a=true->f ε1=some (G a))):u6 cap ts it g c f ε=some (.lst ((l.filter p).map G)):=Ww h hc (by rw [yZ];exact hl) (Qf F G p l k)
theorem XY {g:MG}{f:MS}{α:Type}(F:α->PV)(I:List α->ME->Prop)(h:∀ a l ε,I (a::l) ε->∃ ε1 ε2,g (F a) ε=some ε1/\f ε1=some (.nx ε2)/\I l ε2):∀(l:List α)(ε:ME),I l ε->∃ ε',f9 g f (l.map F) ε=some (.nx ε')/\I [] ε'
 |[],ε,i=>⟨ε,rfl,i⟩
 |a::l,ε,i=>by
  obtain ⟨ε1,ε2,e1,e2,i2⟩:=h a l ε i;obtain ⟨ε',e3,i3⟩:=XY F I h l ε2 i2;refine ⟨ε',?_,i3⟩;show Option.bind (g (F a) ε) (λε1=>Option.bind (f ε1) λo=>match o with
   | .nx ε2=>f9 g f (l.map F) ε2
   | .ct ε2=>f9 g f (l.map F) ε2
   | .bk ε2=>some (.nx ε2)
   | .rt y=>some (.rt y))=_
  rw [e1,yI,e2];exact e3
section
variable {ε:ME}{a b:M}{v w:Bool}
theorem zv (h1:a ε=some (.at (.bl true)))(h2:b ε=some (.at (.bl w))):xm a b ε=some (.at (.bl w)):=by unfold xm;rw [h1];exact h2
theorem Kk (h1:a ε=some (.at (.bl v))):Qj a ε=some (.at (.bl (!v))):=by unfold Qj;rw [h1];rfl
theorem Kj (h:c ε=some true)(k:a ε=some x):dIf c a b ε=some x:=by unfold dIf;rw [h];exact k
theorem WB (h:c ε=some false)(k:b ε=some x):dIf c a b ε=some x:=by unfold dIf;rw [h];exact k
theorem Xy {g g':PV->PV->Option PV}{c:M}{z:PV}{r:Bool}(h1:a ε=some x)(h2:b ε=some y)(h3:g x y=some (.at (.bl true)))(h4:c ε=some z)(h5:g' y z=some (.at (.bl r))):zq g g' a b c ε=some (.at (.bl r)):=by unfold zq;rw [h1,yI,h2,yI,h3];show Option.bind (c ε) _=_;rw [h4];exact h5
theorem Qo (h:a ε=some x):zt a ε=some (.nx ε):=by unfold zt;rw [h];rfl
theorem qA:c4 ε=some (.nx ε):=rfl
theorem vj (h:a ε=some (.lst xs)):y7 a ε=some xs:=by unfold y7;rw [h];rfl
theorem Qp (h:a ε=some (.ob C ns xs))(k:vp f ns xs=some y):zu C f a ε=some y:=by unfold zu;rw [h,yI];show (if C=C then _ else _)=_;rw [if_pos rfl];exact k
theorem Qs {fs:List PV}{y:Option PV}(h:a ε=some (.ob C ns fs))(hn:nm∉ns)(k:as ε=some xs)(e:m (.ob C ns fs::xs)=y):zd C nm m a as ε=y:=by unfold zd;rw [h,yI];show (if C=C/\nm∉ns then _ else _)=_;rw [if_pos ⟨rfl,hn⟩,k];exact e
theorem Qq {n k:Nat}{bd:MS}(hl:xs.length=k)(h:bd (xs.map .sh++List.replicate (n-k) .no)=some (.nx ε')):g8 n k bd xs=some (.at .non):=by unfold g8;rw [if_pos hl,h];rfl
theorem KS :m7 [.at (.int n),.at (.ty "int")]=some (.at (.bl true)):=by unfold m7 tyP;simp only [yI,MI]
theorem KU :m7 [.at (.int n),.at (.ty "bool")]=some (.at (.bl false)):=by unfold m7 tyP;simp only [yI,MH]
theorem WN {n:Str}:m7 [.at (.str n),.at (.ty "str")]=some (.at (.bl true)):=by unfold m7 tyP;simp only [yI,MK]
theorem KW {n:List PV}:m7 [.tup n,.at (.ty "tuple")]=some (.at (.bl true)):=by unfold m7 tyP;simp only [yI,ML]
theorem VT:∀ bs:List Bool,bls (bs.map λb=> .at (.bl b))=some bs
 |[]=>rfl
 |b::bs=>by
  have ih:=VT bs;rw [yN];unfold bls;rw [ih];rfl
theorem Gd (bs:List Bool):xr [.lst (bs.map λb=> .at (.bl b))]=some (.at (.bl (bs.all id))):=by show (bls _).bind _=_;rw [VT];rfl
theorem jp (l:List α):xr [.lst (l.map λ_=> .at (.bl true))]=some (.at (.bl true)):=by
 have e:(l.map λ_=>PV.at (.bl true))=((l.map λ_=>true).map λb=>PV.at (.bl b)):=by rw [yr];rfl
 rw [e,Gd];have:(l.map λ_=>true).all id=true:=by simp
 rw [this]
end
def leS (a b:Str):Bool:=!decide (b.cps.toList<a.cps.toList)
def zF (ss:List Str):List Str:=ss.mergeSort leS
theorem Jy (ss:List Str):(zF ss).Perm ss:=List.mergeSort_perm ss leS
theorem Me (ss:List Str):Qd (zF ss):=by
 have:=List.pairwise_mergeSort (le:=leS) (λa b c h1 h2=>by
  unfold leS at h1 h2 ⊢;simp only [Bool.not_eq_true',decide_eq_false_iff_not] at h1 h2 ⊢;exact List.not_lt.mpr (List.le_trans (List.not_lt.mp h1) (List.not_lt.mp h2))) (λa b=>by
  unfold leS;by_cases h:b.cps.toList<a.cps.toList
  ·have h2:¬ (a.cps.toList<b.cps.toList):=λk=>List.lt_irrefl _ (List.lt_trans h k);simp [h2]
  ·simp [h]) ss
 exact this.imp λh=>by unfold leS at h;simpa using h
theorem Jx {ss ss':List Str}(p:ss'.Perm ss)(u:Qd ss'):ss'=zF ss :=
 List.Perm.eq_of_pairwise (λa b _ _ h1 h2=>by
  have e:=List.le_antisymm (List.not_lt.mp h1) (List.not_lt.mp h2);cases a;cases b;simp only [Str.mk.injEq];exact Array.toList_inj.mp e) u (Me ss) (p.trans (Jy ss).symm)
def jc:List PV->Option (List Str)
 |[]=>some []
 | .at (.str s)::xs=>(jc xs).map (s::·)
 |_::_=>none
theorem JA:∀{xs:List PV}{ss:List Str},jc xs=some ss->xs=ss.map λs=> .at (.str s)
 |[],_,h=>by cases h;rfl
 |x::xs,ss,h=>by
  unfold jc at h;split at h
  ·rename_i e;cases e
  ·rename_i s' xs' e;injection e with e1 e2;subst e1 e2;obtain ⟨r,hr,rfl⟩:=yK.mp h;rw [JA hr];rfl
  ·cases h
def zP:List z9->Option (List Str)
 |[]=>some []
 | .inr s::xs=>(zP xs).map (s::·)
 |_::_=>none
theorem XT:∀{xs:List z9}{ss:List Str},zP xs=some ss->xs=ss.map Sum.inr
 |[],_,h=>by cases h;rfl
 |x::xs,ss,h=>by
  unfold zP at h;split at h
  ·rename_i e;cases e
  ·rename_i s' xs' e;injection e with e1 e2;subst e1 e2;obtain ⟨r,hr,rfl⟩:=yK.mp h;rw [XT hr];rfl
  ·cases h
def Zj:List PV->Option PV
 |[.lst xs]=>(jc xs).bind λss=>if ss.length<64 then some (.lst ((zF ss).map λs=> .at (.str s))) else none
 |[.dk ks _]=>(zP ks).bind λss=>if ss.length<64 then some (.lst ((zF ss).map λs=> .at (.str s))) else none
 |[.fk ks _]=>(zP ks).bind λss=>if ss.length<64 then some (.lst ((zF ss).map λs=> .at (.str s))) else none
 |_=>none
theorem Zw (ss:List Str):Reps H (ss.map λs=> .at (.str s)) (ss.map V.str):=by have:=Reps.ofAts (H:=H) (ss.map V.str);rwa [yr] at this
instance :Xj (YS K) Zj where
 h:=λ{xs z} e {Hs H vs} s r {Q} q=>by
  unfold Zj at e;split at e
  ·obtain ⟨ss,eb,e1⟩:=bind_some e;split at e1
   ·rename_i hl;cases e1;obtain ⟨v,rfl,a⟩:=xx r;obtain ⟨p,ws,rfl,e1,r1⟩:=i8 s a;rw [JA eb,show (ss.map λb=>PV.at (.str b))=(ss.map V.str).map .at by rw [yr];rfl] at r1;cases r1.ats;refine ⟨p,ss,rfl,.inl (SqL.of e1),hl,λl ss' hn p1 p2=>?_⟩;rw [Jx p1 p2];exact q l _ _ (.newO s hn) hn (s.free hn) ⟨_,w6,Zw _⟩
   ·cases e1
  ·obtain ⟨ss,eb,e1⟩:=bind_some e;split at e1
   ·rename_i hl;cases e1;obtain ⟨v,rfl,a⟩:=xx r;obtain ⟨p,kvs,rfl,hp,hk,hr⟩:=ja s a;refine ⟨p,ss,rfl,.inr ⟨kvs,.inl hp,by rw [hk,XT eb]⟩,hl,λl ss' hn p1 p2=>?_⟩;rw [Jx p1 p2];exact q l _ _ (.newO s hn) hn (s.free hn) ⟨_,w6,Zw _⟩
   ·cases e1
  ·obtain ⟨ss,eb,e1⟩:=bind_some e;split at e1
   ·rename_i hl;cases e1;obtain ⟨v,rfl,a⟩:=xx r;obtain ⟨p,o,kvs,rfl,hp,hk,hr⟩:=wK s a;refine ⟨p,ss,rfl,.inr ⟨kvs,.inr ⟨o,hp⟩,by rw [hk,XT eb]⟩,hl,λl ss' hn p1 p2=>?_⟩;rw [Jx p1 p2];exact q l _ _ (.newO s hn) hn (s.free hn) ⟨_,w6,Zw _⟩
   ·cases e1
  ·cases e
def YR (K:Fg):List V->Hp->VK->Prop:=λxs H Q=>∃(a:Addr)(ss:List Str),xs=[.ref a]/\SqL K H a (ss.map V.str)/\ss.length<=1000 /\
  ∀ l,H l=none->Q (.ref l) (z8 H l (jo (b8 (λi=>(Sum.inr (ss.getD i ⟨#[]⟩):z9)) ss.length).length l))
theorem GE (hc:X.calm=true)(h:X.K=K):CallR X (.type "set") (YR K):=by subst h;exact GF hc
def Zd (ss:List Str):Nat:=(b8 (λi=>(Sum.inr (ss.getD i ⟨#[]⟩):z9)) ss.length).length
def YM:List V->Hp->VK->Prop:=λxs H Q=>∃(a:Addr)(n:Nat),xs=[.ref a]/\H a=some (jo n a)/\Q (.int n) H
theorem GB :CallR X (.builtin "len") YM:=GA
def Wh (a:M):M:=λε=>(a ε).bind λx=>match x with
 | .lst xs=>(jc xs).bind λss=>if ss.length<=1000 then some (.at (.int (Zd ss))) else none
 |_=>none
instance {a:M}[sa:c7 te a]:SemE (tCB YM (m9 (tCB (YR K) (m9 te i9)) i9)) (Wh a) where
 h:=λe _ _ _ _ _ rs _ q=>by
  obtain ⟨x,ex,e1⟩:=bind_some e;split at e1
  ·obtain ⟨ss,eb,e2⟩:=bind_some e1;split at e2
   ·rename_i hl;cases e2;refine sa.h ex rs λv Hs1 H1 x1 r1=>?_;obtain ⟨p,ws,rfl,ep,r2⟩:=i8 x1.s3 r1;rw [JA eb,show (ss.map λb=>PV.at (.str b))=(ss.map V.str).map .at by rw [yr];rfl] at r2;cases r2.ats;refine ⟨p,ss,rfl,SqL.of ep,hl,λl hn=>⟨l,_,rfl,w6,q _ _ _ (x1.trans (.newO x1.s3 hn)) (rep_at.mpr rfl)⟩⟩
   ·cases e2
  ·cases e1
structure Mkr (P:Program)(w:World)(K:Fg)(mg:Str->Option Value)(base:Heap)(k:Nat)(C:Addr)(ps:List Str)(sp:Sp):Prop where
 ex:∃ f fd,FnOk P w K mg base v5 k f fd ps sp/\Mk K C f/\Binds K fd ps []
theorem pe_mk {k j:Nat}{x:Str}{p:Pos}{es:List Expr}{t:TA}(c:Mkr X.prog X.w X.K X.mg X.base k C ps sp)(hr:Room j X.A)(hj:k+1<=j)(hg:Gl X x)(hm:X.mg x=some (.ref C))(ha:PA X (e::es) t)(hdb:(x==("__debug__":Str))=false:=by decide)(he:starEach (e::es) X.env=(false,eval e X.env)::starEach es X.env:=by rfl)(hpl:(backTo pos (starEach es X.env)).any (·.1)=false:=by rfl):PE X (.Call (.Name x p) (e::es) [] pos) (wQ C sp [] E0 t):=by obtain ⟨f,fd,F,hm',hb⟩:=c.ex;exact Cs hm' F (hr.mono hj) hg hm hb .nil QS ha hdb he hpl
instance (priority:=1100)[sa:qp ta as]:SemE (wQ C (spI C m) [] E ta) (z5 m as) where
 h:=λ{ε y} e=>SemE.h (te:=wQ C (spI C m) [] E ta) (f:=Xu m [] as) (by
  unfold Xu;unfold z5 at e;simpa using e)
structure FunD (K:Fg)(x qual:Str)(st:Stmt)(f:Addr)(fd:FuncData):Prop where
 ex:∃(oc:Value)(od:Option Addr)(dV kV doc pm:Value)(an:Option Addr)(cdv ct:Value)(osl:Array (Option Value)),
  fd=PySem.W.fnOf x qual (qZ st) (i4 st) (j8 st) dV kV doc pm an cdv ct/\K.lookup f=some ⟨oc,od,.func fd,osl⟩/\PySem.W.codeIn K cdv qual=true
 kp:PySem.W.keepIn K (.ref f)=true
section
variable {P:Program}{w:World}{K:Fg}{mg:Str->Option Value}{base:Heap}
theorem FunD.ok {x:Str}{f:Addr}{k:Nat}(F:FunD K x qual st f fd)(S:v9 N ps (j8 st))(len:∀ vs H Q E,sp vs H Q E->vs.length=ps.length)(hbody:∀(cdv:Value)(A:Around)(outer:List Env)(s:Shared)(H:Hp)(vs:List V)(Q:VK)(E:XK),Room k (A.deeper (PyProof.Rows.envOfC qual (j8 st) s.heap.objs.size f cdv))->sp vs H Q E -> ∃ t,PSs (qG v5 P w K mg base N qual (j8 st) f cdv A outer s H E).nox (i4 st) t/\t { nx:=λ_ H'=>Q .non H',rt:=Q } (L2.start N vs) H):FnOk P w K mg base v5 (k+1) f fd ps sp:=by obtain ⟨oc,od,dV,kV,doc,pm,an,cdv,ct,osl,rfl,lk,hcd⟩:=F.ex;refine WG lk hcd S len λA outer s H vs Q E hr hsp=>?_;obtain ⟨t,h,q⟩:=hbody cdv A outer s H vs Q E hr hsp;exact ⟨t,h.nox,q⟩
theorem Kr {x:Str}{f:Addr}{oc:Value}{od an:Option Addr}{osl:Array (Option Value)}{dV kV doc pm cdv ct:Value}(l:K.lookup f=some ⟨oc,od,.func (PySem.W.fnOf x qual (qZ st) (i4 st) (j8 st) dV kV doc pm an cdv ct),osl⟩)(c:PySem.W.codeIn K cdv qual=true)(k:PySem.W.keepIn K (.ref f)=true):FunD K x qual st f (PySem.W.fnOf x qual (qZ st) (i4 st) (j8 st) dV kV doc pm an cdv ct):=⟨⟨oc,od,dV,kV,doc,pm,an,cdv,ct,osl,rfl,l,c⟩,k⟩
theorem wH {o value:Expr}{ta:TE}{pos':Pos}(hK:X.K=K)(ha:PE X o ta)(hv:PE X value tv)(hs:swapsWith value (some (.Attribute o f pos')) pos.line X.env=pure false:=by rfl):PS X (.Assign [.Attribute o f pos'] value pos) (wL K ta tv f):=by subst hK;exact CP ha hv hs
theorem okI' {x:Str}{f:Addr}{k:Nat}(F:FunD K x qual st f fd)(S:v9 N ps (j8 st))(hm:∀ xs y,m xs=some y->xs.length+1=ps.length)(hb:∀(cdv:Value)(A:Around)(outer:List Env)(s:Shared)(H:Hp)(E:XK),Room k (A.deeper (PyProof.Rows.envOfC qual (j8 st) s.heap.objs.size f cdv)) -> ∃ t,PSs (qG v5 P w K mg base N qual (j8 st) f cdv A outer s H E).nox (i4 st) t/\SemWS t b)(hw:∀ xs y,m xs=some y->b (.ow (.ob C [] [])::xs.map .sh++List.replicate (N.length-(xs.length+1)) .no) (λε=>ε[0]?=some (.ow y)) λ_ _=>False):FnOk P w K mg base v5 (k+1) f fd ps (spI C m):=by
 refine F.ok S (λvs H Q E h=>?_) (λcdv A outer s H vs Q E hr h=>?_)
 ·obtain ⟨Hs,x,dx,xs,ws,y,rfl,_,_,_,r,e,_⟩:=h;rw [yw,r.length];exact hm xs y e
 ·obtain ⟨Hs,x,dx,xs,ws,y,rfl,sm,hx,hs,r,e,q⟩:=h;obtain ⟨t,ht,sem⟩:=hb cdv A outer s H E hr;refine ⟨t,ht,sem.h (hw xs y e) (Dh sm hs ⟨dx,[],hx,rfl,.nil⟩ r) (λε σ Hs' H' z rd g=>?_) λ_ _ _ _ _ _ z _ _ _=>z.elim⟩;obtain ⟨a,ha,_,n,tp⟩:=rd.ow 0 y z;rw [rd.pin x (yQ.mpr rfl)] at ha;injection ha with ha;injection ha with ha;injection ha with ha;subst ha;obtain ⟨o,ho,ro⟩:=tp.rep n;have g2:Same Hs' (z8 Hs' x o):=λb u e=>by rw [j3 (u9 e n)];exact e
  refine q (z8 Hs' x o) H' (g.trans g2) (λb u e hb=>rd.s2 b u e λw=>hb (yQ.mp w)) (λb u e=>?_) (λb hb hbx w=>?_) ro
  ·by_cases hbx:b=x
   ·subst hbx;rw [w6] at e;cases e;exact ho
   ·rw [j3 hbx] at e;exact rd.s3 _ _ e
  ·rw [j3 hbx];exact rd.s4 b hb w
end
def ze (C:Addr)(f:Str)(a:M):MS:=λε=>(a ε).bind λy=>match (ε[0]?:Option MSlot) with
 |some (.ow (.ob C' ns xs))=>if C'=C/\f∉ns/\ns.length<1000 then some (.nx (ε.set 0 (.ow (.ob C (ns++[f]) (xs++[y]))))) else none
 |_=>none
def wPN (f:MS):WS:=λε N _=>∃ ε',f ε=some (.nx ε')/\N ε'
theorem GW {a:M}{o:Out}(h:ze C f a ε=some o):∃ y ns xs,a ε=some y/\ε[0]?=some (.ow (.ob C ns xs))/\f∉ns/\ns.length<1000/\o = .nx (ε.set 0 (.ow (.ob C (ns++[f]) (xs++[y])))):=by
 unfold ze at h;obtain ⟨y,ey,h1⟩:=bind_some h;split at h1
 ·rename_i C' ns xs he;split at h1
  ·rename_i hc;cases h1;obtain ⟨rfl,h2,h3⟩:=hc;exact ⟨y,ns,xs,ey,he,h2,h3,rfl⟩
  ·cases h1
 ·cases h1
instance {a:M}[c:zn K C][n:NoA K C f][sa:SemE te a]:SemWS (wL K (m3 0) te f) (wPN (ze C f a)) where
 h:=λ{ε N R} h=>by
  obtain ⟨ε',e,h1⟩:=h;obtain ⟨y,ns,xs,ey,he,h2,h3,e4⟩:=GW e;injection e4 with e4;subst e4;exact SemWS.h (ts:=wL K (m3 0) te f) (w:=UU C f (wP a)) ⟨y,ey,ns,xs,he,h2,h3,h1⟩
instance {a:M}[sa:SemE te a]:SemWS (xV te) (wPN (zt a)) where
 h:=λ{ε N R} h=>by
  obtain ⟨ε',e,h1⟩:=h;obtain ⟨y,ey,e2⟩:=bind_some e;cases e2;exact SemWS.h (ts:=xV te) (w:=UT (wP a)) ⟨y,ey,h1⟩
instance DV {u:TS}{a b:MS}[sa:SemWS t (wPN a)][sb:SemWS u (wPN b)]:SemWS (tSeq t u) (wPN (w4 a b)) where
 h:=λ{ε N R} h S Hs0 H0 Hs H σ rd D k rt=>by
  obtain ⟨ε',e,h1⟩:=h;obtain ⟨o1,e1,e2⟩:=bind_some e;refine SemWS.h (ts:=tSeq t u) (w:=wSeq (wPN a) (wPN b)) (ε:=ε) (N:=N) (R:=R) ?_ rd k rt;cases o1 with
  |nx ε1=>exact ⟨ε1,e1,ε',e2,h1⟩
  |rt y=>cases e2
  |bk ε1=>cases e2
  |ct ε1=>cases e2
def vO (n k:Nat)(C:Addr)(f:MS):List PV->Option PV:=λxs=>if xs.length+1=k then (f (.ow (.ob C [] [])::xs.map .sh++List.replicate (n-k) .no)).bind λo=>match o with
 | .nx ε=>(match (ε[0]?:Option MSlot) with
  |some (.ow y)=>some y
  |_=>none)
 |_=>none else none
theorem okID {P:Program}{w:World}{mg:Str->Option Value}{base:Heap}{x:Str}{f:Addr}{k:Nat}{b:MS}(F:FunD K x qual st f fd)(S:v9 N ps (j8 st))(hm:m=vO N.length ps.length C b)(hb:∀(cdv:Value)(A:Around)(outer:List Env)(s:Shared)(H:Hp)(E:XK),Room k (A.deeper (PyProof.Rows.envOfC qual (j8 st) s.heap.objs.size f cdv)) -> ∃ t,PSs (qG v5 P w K mg base N qual (j8 st) f cdv A outer s H E).nox (i4 st) t/\SemWS t (wPN b)):FnOk P w K mg base v5 (k+1) f fd ps (spI C m):=by
 subst hm;refine okI' F S (λxs y e=>?_) hb (λxs y e=>?_)
 ·unfold vO at e;split at e
  ·rename_i hl;exact hl
  ·cases e
 ·unfold vO at e;split at e
  ·rename_i hl;obtain ⟨o,eo,e1⟩:=bind_some e;rw [hl];cases o with
   |nx ε =>
    refine ⟨ε,eo,?_⟩;have e2:(match (ε[0]?:Option MSlot) with
     |some (.ow y)=>some y
     |_=>none)=some y:=e1
    show ε[0]?=some (.ow y);split at e2
    ·rename_i z hz;cases e2;exact hz
    ·cases e2
   |rt z=>cases e1
   |bk z=>cases e1
   |ct z=>cases e1
  ·cases e
def xR:List PV->Option (List (z9×PV))
 |[]=>some []
 | .tup [k,v]::xs=>(xM k).bind λkk=>(xR xs).map ((kk,v)::·)
 |_::_=>none
def jG:List PV->Option PV
 |[.lst xs]=>(xR xs).bind λps=>if (ps.map (·.1)).Nodup/\ps.length<=1000 then some (.fk (ps.map (·.1)) (ps.map (·.2))) else none
 |_=>none
theorem YC {Hs H:Hp}(s:Same Hs H):∀{xs:List PV}{ps:List (z9×PV)}{vs:List V},xR xs=some ps->Reps Hs xs vs->∃(ts:List Addr)(kvs:List (z9×V)),vs=ts.map V.ref/\Paired (λt (kv:z9×V)=>H t=some (.tup [kV kv.1,kv.2])) ts kvs/\kvs.map (·.1)=ps.map (·.1)/\Reps Hs (ps.map (·.2)) (kvs.map (·.2))
 |[],ps,vs,h,r=>by
  cases h;cases reps_nil.mp r;exact ⟨[],[],rfl,.nil,rfl,.nil⟩
 |x::xs,ps,vs,h,r=>by
  unfold xR at h;split at h
  ·rename_i e;cases e
  ·rename_i k v xs' e;injection e with e1 e2;subst e1 e2;obtain ⟨kk,ek,h1⟩:=bind_some h;obtain ⟨ps',hp,rfl⟩:=yK.mp h1;obtain ⟨w,ws,rfl,r1,r2⟩:=reps_cons.mp r;obtain ⟨t,us,rfl,ht,ru⟩:=rep_tup.mp r1;obtain ⟨u1,us1,rfl,p1,p2⟩:=reps_cons.mp ru;obtain ⟨u2,us2,rfl,p3,p4⟩:=reps_cons.mp p2;cases reps_nil.mp p4;have ew:=zO (H:=H) (.inl p1) ek;subst ew;obtain ⟨ts,kvs,rfl,q1,q2,q3⟩:=YC s hp r2;exact ⟨t::ts,(kk,u2)::kvs,rfl,.cons (s _ _ ht) q1,by rw [yN,yN,q2],.cons p3 q3⟩
  ·cases h
instance:vK YL jG where
 h:=λ{xs z} e {Hs H vs} s r {Q} q=>by
  unfold jG at e;split at e
  ·obtain ⟨ps,eb,e1⟩:=bind_some e;split at e1
   ·rename_i hl;cases e1;obtain ⟨v,rfl,a⟩:=xx r;obtain ⟨p,ws,rfl,ep,r1⟩:=i8 s a;obtain ⟨ts,kvs,rfl,q1,q2,q3⟩:=YC s eb r1;have hk:kvs.length=ps.length:=by have:=congrArg List.length q2;rwa [yZ,yZ] at this
    refine ⟨p,ts,kvs,rfl,ep,q1,by rw [q2];exact hl.1,by omega,λl o hn=>?_⟩;exact q _ _ _ (.new s hn) (rep_fk.mpr ⟨l,o,kvs,rfl,w6,q2,q3.mono (Ext.new s hn).s1⟩)
   ·cases e1
  ·cases e
end Mi
namespace Mi
open PySem PySem.Spec PyProof.Rows L2
variable {fr:Bool}
section
variable {P:Program}{w:World}{K:Fg}{mg:Str->Option Value}{base:Heap}
theorem Wx {ε:ME}{f:M}{cap:List (Option Nat)}{ts:List Nat}{it:MA}{G:MG}{c:MB}{xs ys:List PV}(h:it ε=some xs)(hc:qO cap ts=true)(hl:xs.length<=lim)(k:p7 G c f (k9 cap ε) xs=some ys):zr cap ts it G c f ε=some (.lst ys):=by unfold zr;rw [h];show (if _ then _ else _)=_;rw [if_pos ⟨hc,hl⟩,k];rfl
end
end Mi
namespace Mi
open PySem L2
def AllSh (ε:ME):Prop:=∀(i:Nat)(s:MSlot),ε[i]?=some s->s = .no∨∃ x,s = .sh x
theorem AllSh.set {ε:ME}(h:AllSh ε)(i:Nat)(x:PV):AllSh (ε.set i (.sh x)):=λk s q=>by
 rw [yH] at q;split at q
 ·split at q
  ·cases q;exact .inr ⟨x,rfl⟩
  ·cases q
 ·exact h k s q
section
variable {j:Nat}{Hs0 H0 Hs H Hs' H':Hp}{σ σ':St}{ε ε':ME}{x x':DT}{fr:Bool}{D:qD}
theorem Um {ε:ME}{j:Nat}(h:j<ε.length)(s:MSlot):(ε.set j s)[j]?=some s:=by rw [ye h]
end
end Mi
namespace L2
open PySem PySem.Spec PyProof.Rows
section
variable {P:Program}{w:World}{K:Fg}{mg:Str->Option Value}{base:Heap}{A:Around}{outer:List Env}{s:Shared}{H:Hp}{f c':Addr}{pm ctv:Value}{params:Arguments}{body:Expr}{scope:Scope}{qual:Str}{clos:List (Str×Addr)}{ps fr:List Str}
 {us:List Value} {vs cv:List V} {t:TE} {Q:VK} {E:XK}
end
end L2
namespace Mi
open PySem L2
variable {fr:Bool}
def pRep:PV->PV->Option PV
 | .lst xs,.at (.int k)=>if -(lim:Int)<=k/\k<=lim/\xs.length*k.toNat<=lim then some (.lst (List.replicate k.toNat xs).flatten) else none
 |_,_=>none
theorem Reps.rep {H:Hp}{xs:List PV}{vs:List V}(r:Reps H xs vs):∀ k:Nat,Reps H (List.replicate k xs).flatten (List.replicate k vs).flatten
 |0=> .nil
 |k+1=>by
  rw [uO,uO,ym,ym];exact r.append (Reps.rep r k)
instance:JS rRep pRep where
 h:=λ{x y z} e {Hs H v w} s a b {Q} q=>by
  unfold pRep at e;split at e
  ·split at e
   ·rename_i xs k hl;cases e;obtain ⟨p,vs,rfl,e1,r1⟩:=i8 s a;cases u7 b;have hlim:(lim:Int)=1000000:=rfl;exact ⟨p,k,vs,rfl,rfl,e1,by omega,by omega,qj (by rw [r1.length];exact hl.2.2),λl hl=>q l _ _ (.newO s hl) hl (s.free hl) ⟨_,w6,r1.rep _⟩⟩
   ·cases e
  ·cases e
end Mi
namespace L2
open PySem PySem.Spec PySem.Calls PyProof.Rows
variable{x:Str}{e:Expr}{te:TE}{p pos:Pos}{es:List Expr}{t:TA}{h0:Heap}
section
variable {X:Cx}{K:Fg}
theorem y9 {N P:List Str}{sc:Scope}(h1:sc.kind = .function:=by rfl)(h2:sc.isCoroutine=false:=by rfl)(h3:sc.isGenerator=false:=by rfl)(h4:N.Nodup:=by decide +kernel)(h5:N.take P.length=P:=by rfl)(h6:∀ x∈P,sc.names.lookup x=some .local∨sc.names.lookup x=some .cell:=by decide +kernel)(h7:∀ y∈sc.names,y.2 ≠ .free:=by decide +kernel):v9 N P sc:=⟨h1,h2,h3,h4,h5,h6,h7⟩
theorem sW (i:Nat){pos':Pos}(hN:X.N.Nodup)(he:PE X e te)(hi:X.N[i]?=some x:=by rfl)(hx:Loc X.env.scope x:=by first|exact Or.inl rfl|exact Or.inr rfl)(hs:swapsWith e (some (.Name x pos')) pos.line X.env=pure false:=by rfl)(hf:X.fn x=true∨X.env.scope.names.lookup x=some .local:=by first|exact .inl rfl|exact .inr rfl):PS X (.Assign [.Name x pos'] e pos) (qT te (r9 i)):=o7 hN hi hx he hs hf
theorem aW (ha:PE X e te)(hs:starEach [e] X.env=(false,eval e X.env)::starEach [] X.env:=by rfl):PA X [e] (m9 te i9):=j6 ha y2 hs
theorem aC (ha:PE X e te)(hr:PA X es t)(hs:starEach (e::es) X.env=(false,eval e X.env)::starEach es X.env:=by rfl):PA X (e::es) (m9 te t):=j6 ha hr hs
theorem iW {a b:Expr}{ta tb:TE}(hK:X.K=K)(ha:PE X a ta)(hb:PE X b tb)(hs:JQ b:=by exact λ_ _=>rfl):PE X (.Subscript a b pos) (tOp (rIx K) ta tb):=QV (Bg hK) ha hb hs
end
section
variable {X:Cx}{K:Fg}
theorem fW {ps:List Str}{sp:Sp}{k j:Nat}(c:Fn X.prog X.w X.K X.mg X.base k x ps sp)(hr:Room j X.A)(ha:PA X (e::es) t)(hj:k<=j:=by decide)(hg:Gl X x:=by rfl)(hdb:(x==("__debug__":Str))=false:=by decide)(he:starEach (e::es) X.env=(false,eval e X.env)::starEach es X.env:=by rfl)(hpl:(backTo pos (starEach es X.env)).any (·.1)=false:=by rfl):PE X (.Call (.Name x p) (e::es) [] pos) (qU sp [] E0 t):=o6 c hr hj hg ha hdb he hpl
theorem gW (i:Nat)(hN:X.N.Nodup)(hi:X.N[i]?=some x:=by rfl)(hx:Loc X.env.scope x:=by first|exact Or.inl rfl|exact Or.inr rfl)(hf:X.fn x=true∨X.env.scope.names.lookup x=some .local:=by first|exact .inl rfl|exact .inr rfl):PG X (.Name x pos) (r9 i):=g9 hN hi hx hf
end
section
variable {P:Program}{w:World}{A:Around}{R:Result->Shared->Prop}{I S:Addr}{fp wr:List Addr}{n:Nat}{Pp:Nat->Value->Prop}{St:Nat->Heap->Prop}
theorem GL (W:Walks P w A.in1 I fp wr n Pp St)(its:Nat->List Value)(hSf:S∉fp)(lo:h0.objs.size<=S)(hw:∀ b∈wr,h0.get? b=none)(lv:∀ i h,St i h->∀ b∈wr,b<h.objs.size)(hv:∀ i v,Pp i v->∃ b c,v = .ref b/\IsL h0 b (its i).toArray c):∀ (m i:Nat) (s:Shared) (t c ct:Nat) (acc:List Value),n-i=m->i<=n->St i s.heap->(∀ b o,h0.get? b=some o->s.heap.get? b=some o) -> s.heap.get? S=some { cls:= .type "list",dict:=none,data:= .seq #[.ref t] c,slots:=#[] }->IsL s.heap t acc.toArray ct->t∉wr->t≠S->h0.objs.size<=t -> acc.length+((List.range' i (n-i)).flatMap its).length<=sizeLine -> (∀ h' tk t' c',(∀ b o,h0.get? b=some o->h'.get? b=some o)->IsL h' t' (acc++(List.range' i (n-i)).flatMap its).toArray c'->h0.objs.size<=t'->R (.ok (.ret (.ref t'))) { s with heap:=h',toks:=tk }) -> codeAny (model P w) A (.builtin "sum.loop" ⟨[.ref I,.ref S,rawInt 2,rawInt 0],[]⟩) R s:=by
 have hSw:S∉wr:=λz=>hSf (W.sub _ z);have new:∀ b o,h0.get? b=some o->b≠S:=λb o e z=>uZ _ (yy (z▸yP e) lo);intro m
 induction m with
 |zero =>
  intro i s t c ct acc hm hi st k0 hS ht tw tS lt sz hR;have hin:i=n:=by omega
  subst hin;refine codeAny_builtin PySem.F.entry_sum_loop ?_;rw [Around.under_plainId PySem.F.plain_sum_loop _];show wpAny _ A.in1 (seqItems? (.ref S) >>= _) _ _ s;refine yR (wpAny_seqItems hS rfl ?_);show wpAny _ A.in1 (tryCatch (pyNext (.ref I)) _ >>= _) _ _ s;refine yR (wpAny_tryCatch (W.done s _ _ st λh' tk kk=>?_));refine yx (hR h' tk t ct (λb o e=>kk b o (λz=>by rw [hw b z] at e;cases e) (k0 b o e)) ?_ lt);rw [Nat.sub_self];simp only [List.range'_zero,List.flatMap_nil,yn];exact kk t _ tw ht
 |succ m ih =>
  intro i s t c ct acc hm hi st k0 hS ht tw tS lt sz hR;have hlt:i<n:=by omega
  have er:List.range' i (n-i)=i::List.range' (i+1) (n-(i+1)):=by rw [show n-i=(n-(i+1))+1 by omega];rfl
  rw [er,List.flatMap_cons] at sz hR;rw [yL] at sz;refine codeAny_builtin PySem.F.entry_sum_loop ?_;rw [Around.under_plainId PySem.F.plain_sum_loop _];show wpAny _ A.in1 (seqItems? (.ref S) >>= _) _ _ s;refine yR (wpAny_seqItems hS rfl ?_);show wpAny _ A.in1 (tryCatch (pyNext (.ref I)) _ >>= _) _ _ s;refine yR (wpAny_tryCatch (W.item i s _ _ hlt st λv h' tk hP st' kk=>?_));obtain ⟨b,cb,rfl,hb⟩:=hv i v hP;have hS':=kk S _ hSw hS;have ht':=kk t _ tw ht;have k1:∀ b o,h0.get? b=some o->h'.get? b=some o:=λb o e=>kk b o (λz=>by rw [hw b z] at e;cases e) (k0 b o e);show wpAny _ A.in1 ((holding [Value.ref b] (binaryOp .Add (.ref t) (.ref b))).attempt >>= _) _ _ _;refine yR (wpAny_attempt (wpAny_holding (PySem.P.add_list ht' (k1 _ _ hb) ?_ (by rw [yY,yY];omega))));have hS1:=yX { cls:= .type "list",data:= .seq (acc.toArray++(its i).toArray) } hS';show wpAny _ A.in1 (updateSeq S (λ_=>#[Value.ref h'.objs.size]) >>= _) _ _ _;refine yR (wpAny_updateSeq hS1 rfl ?_);have hS2:=Heap.get?_update_self (Obj.mapSeq λ_=>#[Value.ref h'.objs.size]) hS1 rfl;refine yR (wpAny_letGo ?_);have ne:h'.objs.size≠S:=Nat.ne_of_gt (yP hS');have hlo:h0.objs.size<=h'.objs.size:=uT (Nat.lt_of_le_of_lt lo (yP hS'));have oth:∀ b o,b≠S->h'.get? b=some o->(((h'.push { cls:= .type "list",data:= .seq (acc.toArray++(its i).toArray) }).update S (Obj.mapSeq λ_=>#[Value.ref h'.objs.size])).update S (Obj.mapSeq λ_=>#[Value.ref h'.objs.size])).get? b=some o:=λb o nb e=>by
   rw [uN _ _ (Ne.symm nb),uN _ _ (Ne.symm nb)];exact yX _ e
  refine yR (wpAny_updateSeq hS2 rfl (yx ⟨plainId_quiet PySem.F.plain_sum_loop _,ih (i+1) _ h'.objs.size _ 0 (acc++its i) (by omega) hlt (W.frame _ _ _ st' λb z o e=>oth b o (λq=>hSf (q▸z)) e) (λb o e=>oth b o (new b o e) (k1 b o e)) (Heap.get?_update_self _ hS2 rfl) ?_ (λz=>uZ _ (lv _ _ st' _ z)) ne hlo (by rw [yL];omega) λh2 tk2 t2 c2 k2 l2 lo2=>?_⟩))
  ·show (((h'.push { cls:= .type "list",data:= .seq (acc.toArray++(its i).toArray) }).update S _).update S _).get? h'.objs.size=_;rw [uN _ _ (Ne.symm ne),uN _ _ (Ne.symm ne),yA _ rfl,List.append_toArray]
  ·rw [uV] at l2;exact hR h2 tk2 t2 c2 k2 l2 lo2
end
section
variable {P:Program}{w:World}{A:Around}{E:Value->Shared->Prop}{s:Shared}{l z:Addr}{bs:List Addr}
theorem Ge (v u:Value):argsOk "sum" ⟨[v],[(Str.ofString "start",u)]⟩:=by unfold argsOk;kernel_rfl
theorem Gu (u:Value):Builtin.Builtins.bindParams "sum" ["start"] 0 ⟨[],[(Str.ofString "start",u)]⟩=pure [some u]:=by kernel_rfl
theorem Ko:∀(its:List (List Value)),(List.range' 0 its.length).flatMap (λi=>its.getD i [])=its.flatten:=λits=>by
 have go:∀(m i:Nat),its.length-i=m->i<=its.length->(List.range' i m).flatMap (λi=>its.getD i [])=(its.drop i).flatten:=by
  intro m
  induction m with
  |zero=>intro i h hi;rw [List.drop_of_length_le (by omega)];rfl
  |succ m ih =>
   intro i h hi;have hl:i<its.length:=by omega
   rw [List.range'_succ,List.flatMap_cons,ih (i+1) (by omega) hl,yi hl,ym,yE,yU hl];rfl
 exact go its.length 0 rfl (yh _)
theorem Mn:isSubtype (.type "list") (.type "bytearray")=pure false:=by rw [isSubtype_type];kernel_rfl
theorem Mo {Q:Value->Shared->Prop}{its:List (List Value)}{cz:Nat}(hh:A.handled=none)(k0:∀ b o,h0.get? b=some o->s.heap.get? b=some o)(hl:s.heap.IsList l (bs.map Value.ref).toArray)(hz:IsL s.heap z #[] cz)(lz:h0.objs.size<=z)(hb:∀ (i:Nat) (b:Addr),bs[i]?=some b->∃ c,IsL h0 b (its.getD i []).toArray c)(el:its.length=bs.length)(sz:its.flatten.length<=sizeLine)(h:∀ h' tk t' c',(∀ b o,h0.get? b=some o->h'.get? b=some o)->IsL h' t' its.flatten.toArray c'->h0.objs.size<=t'->Q (.ref t') { s with heap:=h',toks:=tk }):wpAny (model P w) A (call (.builtin "sum") [.ref l] [(Str.ofString "start",Value.ref z)]) Q E s:=by
 have hTz:s.TypeIs (.ref z) "list":=⟨_,hz,rfl⟩;refine kmb_tree PySem.F.kind_sum PySem.F.plain_sum PySem.F.entry_sum (Ge _ _) ?_;show wpAny _ A.in1 (Builtin.Builtins.bindParams "sum" ["start"] 0 ⟨[],[(Str.ofString "start",Value.ref z)]⟩ >>= _) _ _ s;refine yR (wpAny_of_eq (Gu _) ?_);have hlt:l<s.heap.objs.size:=by obtain ⟨_,e,_⟩:=hl;exact yP e
 refine yR (wpAny_pyIter_list hl ?_);refine yR (yx ?_);have hz1:=yX { cls:= .type "list_iterator",data:= .fields #[.ref l,.int 0 0] } hz;have hT1:Shared.TypeIs { s with heap:=s.heap.push { cls:= .type "list_iterator",data:= .fields #[.ref l,.int 0 0] } } (.ref z) "list":=⟨_,hz1,rfl⟩;simp only [List.forIn_cons,List.forIn_nil];refine yR (yR (yR (wpAny_isInstance (b:=false) hT1 PySem.F.sub_list_str ?_)));simp only [uy,if_false];refine yx (yR (yR (wpAny_isInstance (b:=false) hT1 PySem.F.sub_list_bytes ?_)));simp only [uy,if_false];refine yx (yR (yR (wpAny_isInstance (b:=false) hT1 Mn ?_)));simp only [uy,if_false];refine yx (yx (yR (wpAny_newObj_type ?_)));have hI:l≠s.heap.objs.size:=yJ hlt;have hlo:h0.objs.size<=s.heap.objs.size:=yf lz (uT (yP hz));have zz:z<s.heap.objs.size:=yP hz;have sp:(s.heap.push { cls:= .type "list_iterator",data:= .fields #[.ref l,.int 0 0] }).objs.size=s.heap.objs.size+1:=uM _ _;have en:(bs.map Value.ref).toArray.size=its.length:=by rw [yY,yZ,el]
 have ef:(List.range' 0 ((bs.map Value.ref).toArray.size-0)).flatMap (λi=>its.getD i [])=its.flatten:=by rw [en];exact Ko its
 refine yx ⟨plainId_quiet PySem.F.plain_sum_loop _,GL (h0:=h0) (S:=(s.heap.push { cls:= .type "list_iterator",data:= .fields #[.ref l,.int 0 0] }).objs.size) (Walks.list (A:=A.in1) hh s.heap.objs.size l hI (bs.map Value.ref).toArray) (λi=>its.getD i []) (λq=>?_) (by rw [sp];exact Nat.le_succ_of_le hlo) (λb hb=>?_) (λi h st b hb=>?_) (λi v hv=>?_) _ 0 _ z _ cz [] rfl (yh _) ⟨⟨_,yX _ (yA _ rfl),rfl,rfl⟩,(hl.push _).push _⟩ (λb o e=>yX _ (yX _ (k0 b o e))) (yA _ rfl) (yX _ hz1) (λq=>?_) (λq=>?_) lz (by rw [ef];simpa using sz) λh' tk t' c' k l' lo'=>?_⟩
 ·rcases yM.mp q with q|q
  ·rw [sp] at q;exact absurd q (Nat.succ_ne_self _)
  ·have q:=yQ.mp q;rw [sp] at q;exact uZ _ (Nat.lt_trans (uH _) (q▸hlt))
 ·rw [yQ.mp hb];exact Heap.get?_none_of_le hlo
 ·rw [yQ.mp hb];obtain ⟨⟨o,e,_⟩,_⟩:=st;exact yP e
 ·rw [List.getElem?_toArray,yV] at hv;obtain ⟨b,e1,rfl⟩:=yK.mp hv;obtain ⟨c,e2⟩:=hb i b e1;exact ⟨b,c,rfl,e2⟩
 ·exact uZ _ (yQ.mp q▸zz)
 ·rw [sp] at q;exact uZ _ (Nat.lt_trans (uH _) (q▸zz))
 ·rw [ef,List.nil_append] at l';exact h h' tk t' c' k l' lo'
end
section
variable {X:Cx}
theorem YY:∀{bs:List Addr}{us:List Value},Vals (bs.map V.ref) us->us=bs.map Value.ref
 |[],us,r=>by cases r;rfl
 |b::bs,us,r=>by
  cases r with
  |cons r1 r2=>rw [YY r2,show _=Value.ref b from r1];rfl
theorem WZ {pins:List (Addr×Obj)}{σ:St}{H:Hp}{s:Shared}(I:Inv X pins σ H s):∀{bs:List Addr}{xss:List (List V)},xss.length=bs.length->(∀(i:Nat)(b:Addr),bs[i]?=some b->H b=some (.lst (xss.getD i []))) -> ∃ iss:List (List Value),iss.length=bs.length/\Vals xss.flatten iss.flatten/\∀(i:Nat)(b:Addr),bs[i]?=some b->∃ c,IsL s.heap b (iss.getD i []).toArray c
 |[],[],_,_=>⟨[],rfl,.nil,λi b z=>by simp at z⟩
 |b::bs,xs::xss,hl,h=>by
  obtain ⟨iss,e1,e2,e3⟩:=WZ I (bs:=bs) (xss:=xss) (by simpa using hl) λi b e=>h (i+1) b e;obtain ⟨z,its,n,r,hz,e⟩:=I.lstM (h 0 b rfl);refine ⟨its::iss,by simp [e1],r.append e2,λi b' q=>?_⟩;cases i with
  |zero=>cases q;exact ⟨n,e⟩
  |succ i=>exact e3 i b' q
def UC (K:Fg)(t:TA):TE:=λσ H Q=>t σ H λvs H1=>∃(a:Addr)(bs:List Addr)(xss:List (List V)),vs=[.ref a]/\SqL K H1 a (bs.map V.ref)/\(∀(i:Nat)(b:Addr),bs[i]?=some b->H1 b=some (.lst (xss.getD i [])))/\xss.length=bs.length/\xss.flatten.length<=sizeLine/\∀ p,H1 p=none->Q (.ref p) (z8 H1 p (.lst xss.flatten))
theorem Cw {K:Fg}{kp lp:Pos}(hK:X.K=K)(hc:X.calm=true)(hg:Gl X "sum")(hm:X.mg "sum"=none)(ha:PA X [e] t)(hs:backTo pos (starEach [e] X.env)=(false,eval e X.env)::backTo pos (starEach [] X.env):=by rfl)(hpl:(backTo pos (starEach [e] X.env)).any (·.1)=false:=by rfl):PE X (.Call (.Name "sum" p) [e] [⟨some "start",.List [] lp,kp⟩] pos) (UC K t):=by subst hK;intro pins s σ H Q I h;refine wpAny_Call_Name_kw (zQ I hg hm VV ?_ (by decide) (by decide));refine PyProof.Rows.callWith_kw (j4 (ha pos pins s σ H _ I h) λus s1 ⟨vs,H1,I1,r1,q1⟩=>?_) hs hpl;refine PyProof.Rows.kws_cons (wpAny_List_spliced ?_);obtain ⟨a,bs,xss,rfl,hq,hb,el,sz,q⟩:=q1;obtain ⟨u,rfl,ru⟩:=xW r1;obtain rfl:u=Value.ref a:=ru;obtain ⟨its,rv,pl,hz⟩:=I1.list hq;have ei:its=bs.map Value.ref:=YY rv;subst ei;obtain ⟨iss,e1,e2,e3⟩:=WZ I1 el hb;have hl:s1.heap.IsList a (bs.map Value.ref).toArray:=pl.isList;refine Calls.spliced_nil ⟨yh _,PyProof.Rows.kws_nil ?_⟩;show wpAny _ _ (call (.builtin "sum") [.ref a] [(Str.ofString "start",Value.ref s1.heap.objs.size)]) _ _ _;refine Mo (its:=iss) (bs:=bs) (h0:=s1.heap) (cz:=0) (I1.ok.hd hc) (λb o e=>yX _ e) (hl.push _) (yA _ rfl) (yS _) e3 e1 (by rw [<- e2.length];exact sz) λh' tk t' c' k l' lo'=>?_;exact ⟨.ref t',_,I1.laid (o:= .lst xss.flatten) (t':=tk) k lo' ⟨sz,_,c',e2,l'⟩,rfl,q t' (I1.hok.fresh lo')⟩
end
end L2
namespace Mi
open PySem L2
variable{K:Fg}{te:TE}{a f x:M}{ε:ME}{xs:List PV}{H Hs Hs':Hp}{b:Addr}{j n:Nat}{ts:List Nat}{it:MA}{g:MG}{c:MB}
def xb:List PV->Option (List (List PV))
 |[]=>some []
 | .lst ys::xs=>(xb xs).map (ys::·)
 |_::_=>none
theorem Yf {Hs:Hp}:∀{xs:List PV}{yss:List (List PV)}{ws:List V},xb xs=some yss->Reps Hs xs ws->∃(bs:List Addr)(xss:List (List V)),ws=bs.map V.ref/\xss.length=bs.length/\(∀(i:Nat)(b:Addr),bs[i]?=some b->Hs b=some (.lst (xss.getD i [])))/\Reps Hs yss.flatten xss.flatten
 |[],yss,ws,h,r=>by
  cases h;cases reps_nil.mp r;exact ⟨[],[],rfl,rfl,λi b z=>by simp at z,.nil⟩
 |x::xs,yss,ws,h,r=>by
  unfold xb at h;split at h
  ·rename_i e;cases e
  ·rename_i ys xs' e;injection e with e1 e2;subst e1 e2;obtain ⟨zss,hz,rfl⟩:=yK.mp h;obtain ⟨w,ws',rfl,p,q⟩:=reps_cons.mp r;obtain ⟨b,us,rfl,hb,ru⟩:=rep_lst.mp p;obtain ⟨bs,xss,rfl,e1,e2,e3⟩:=Yf hz q;refine ⟨b::bs,us::xss,rfl,by simp [e1],λi b' z=>?_,ru.append e3⟩;cases i with
   |zero=>cases z;exact hb
   |succ i=>exact e2 i b' z
  ·cases h
def Qk (a:M):M:=λε=>(a ε).bind λx=>match x with
 | .lst xs=>(xb xs).bind λyss=>if yss.flatten.length<=lim then some (.lst yss.flatten) else none
 |_=>none
instance [sa:c7 te a]:qv (UC K (m9 te i9)) (Qk a) where
 h:=λe _ _ _ _ _ rs _ q=>by
  obtain ⟨x,ex,e1⟩:=bind_some e;split at e1
  ·obtain ⟨yss,ey,e2⟩:=bind_some e1;split at e2
   ·rename_i hl;cases e2;refine sa.h ex rs λv Hs1 H1 x1 r1=>?_;obtain ⟨p,ws,rfl,ep,r2⟩:=i8 x1.s3 r1;obtain ⟨bs,xss,rfl,a1,a2,a3⟩:=Yf ey r2;exact ⟨p,bs,xss,rfl,SqL.of ep,λi b z=>x1.s3 _ _ (a2 i b z),a1,qj (by rw [a3.length];exact hl),λp' hp=>q _ _ _ (x1.trans (.newO x1.s3 hp)) (x1.s2.free hp) (x1.s3.free hp) ⟨_,w6,a3⟩⟩
   ·cases e2
  ·cases e1
theorem Kl {yss:List (List PV)}(h:a ε=some (.lst xs))(k:xb xs=some yss)(l:yss.flatten.length<=lim):Qk a ε=some (.lst yss.flatten):=by unfold Qk;rw [h];show (xb xs).bind _=_;rw [k];exact if_pos l
def Tops (Hs H:Hp):List Addr->List PV->Prop
 |[],[]=>True
 |a::as,w::ws=>Top Hs H a w/\Tops Hs H as ws
 |_,_=>False
theorem Tops.mono {H':Hp}(s1:Same Hs Hs')(s2:Same H H'):∀{as:List Addr}{ws:List PV},Tops Hs H as ws->Tops Hs' H' as ws
 |[],[],_=>trivial
 |_::_,_::_,h=>⟨h.1.mono s1 λo z=>s2 _ _ z,h.2.mono s1 s2⟩
 |[],_::_,h=>h.elim
 |_::_,[],h=>h.elim
theorem Tops.snoc {a:Addr}{w:PV}(t:Top Hs H a w):∀{as:List Addr}{ws:List PV},Tops Hs H as ws->Tops Hs H (as++[a]) (ws++[w])
 |[],[],_=>⟨t,trivial⟩
 |_::_,_::_,h=>⟨h.1,h.2.snoc t⟩
 |[],_::_,h=>h.elim
 |_::_,[],h=>h.elim
theorem Tops.mem :∀{as:List Addr}{ws:List PV},Tops Hs H as ws->b∈as->H b≠none
 |a::as,w::ws,h,hb=>by
  rcases yM.mp hb with rfl|z
  ·exact h.1.there
  ·exact h.2.mem z
 |[],_,_,hb=>nomatch hb
 |_::_,[],h,_=>h.elim
theorem Tops.at {Hs H:Hp}{l:List PV}:∀{as:List Addr}{ls:List (List PV)}{j:Nat},Tops Hs H as (ls.map .lst)->ls[j]?=some l->∃ b,as[j]?=some b/\Top Hs H b (.lst l)
 |a::as,x::ls,0,h,e=>by cases e;exact ⟨a,rfl,h.1⟩
 |a::as,x::ls,j+1,h,e=>Tops.at (as:=as) (ls:=ls) (j:=j) h.2 (by simpa using e)
 |_,[],_,_,e=>by simp at e
 |[],_::_,_,h,_=>h.elim
theorem XZ:∀{ys:List PV}{ls:List (List PV)},xb ys=some ls->ys=ls.map .lst
 |[],ls,h=>by cases h;rfl
 |y::ys,ls,h=>by
  unfold xb at h;split at h
  ·rename_i e;cases e
  ·rename_i e;cases e;obtain ⟨zs,hz,rfl⟩:=yK.mp h;rw [XZ hz];rfl
  ·cases h
theorem Yd:∀ ls:List (List PV),xb (ls.map .lst)=some ls
 |[]=>rfl
 |l::ls=>by
  show (xb (ls.map .lst)).map (l::·)=_;rw [Yd ls];rfl
theorem Tops.share {v:V}{x:PV}{vs:List V}(s1:Same Hs Hs')(hx:Rep Hs x v)(hb:H b=some (.lst vs)):∀{as:List Addr}{ls:List (List PV)},Tops Hs H as (ls.map .lst)->as.Nodup->as[j]?=some b->(∀ a∈as,Hs' a=if a=b then some (.lst (vs++[v])) else H a) -> Reps Hs' ((ls.set j (ls.getD j []++[x])).map .lst) (as.map V.ref):=by
 have no:∀{as:List Addr}{ls:List (List PV)},Tops Hs H as (ls.map .lst)->b∉as->(∀ a∈as,Hs' a=if a=b then some (.lst (vs++[v])) else H a)->Reps Hs' (ls.map .lst) (as.map V.ref):=by
  intro as
  induction as with
  |nil =>
   intro ls t _ _;cases ls with
   |nil=>exact .nil
   |cons _ _=>exact t.elim
  |cons a as ih =>
   intro ls t nb h;cases ls with
   |nil=>exact t.elim
   |cons l ls=>obtain ⟨⟨ws,h1,h2⟩,t2⟩:=t;have ab:a≠b:=λz=>nb (z▸yO);refine .cons (rep_lst.mpr ⟨a,ws,rfl,?_,h2.mono s1⟩) (ih t2 (λz=>nb (yT _ z)) λc hc=>h c (yT _ hc));rw [h a yO,if_neg ab];exact h1
 intro as
 induction as generalizing j with
 |nil=>intro ls t _ e;simp at e
 |cons a as ih =>
  intro ls t nd e h;cases ls with
  |nil=>exact t.elim
  |cons l ls =>
   obtain ⟨⟨ws,h1,h2⟩,t2⟩:=t;obtain ⟨na,nd2⟩:=yF.mp nd;cases j with
   |zero=>obtain rfl:a=b:=Option.some.inj e;rw [h1] at hb;cases hb;refine .cons (rep_lst.mpr ⟨a,_,rfl,?_,(h2.mono s1).snoc (hx.mono s1)⟩) (no t2 na λc hc=>h c (yT _ hc));rw [h a yO,if_pos rfl]
   |succ j =>
    have e':as[j]?=some b:=by simpa using e
    have ab:a≠b:=λz=>na (z▸yu e');refine .cons (rep_lst.mpr ⟨a,ws,rfl,?_,h2.mono s1⟩) (ih t2 nd2 e' λc hc=>h c (yT _ hc));rw [h a yO,if_neg ab];exact h1
theorem RS.hide {Hs0 H0:Hp}{σ:St}(r:RS Hs0 H0 Hs H σ ε)(i:Nat)(v:Option V):RS Hs0 H0 Hs H (σ.set i v) (ε.set i .no):=by
 have dn:∀(j:Nat)(s:MSlot),(ε.set i .no)[j]?=some s->s = .no∨(i≠j/\ε[j]?=some s):=λj s q=>by
  rw [yH] at q;split at q
  ·split at q
   ·cases q;exact .inl rfl
   ·cases q
  ·rename_i h;exact .inr ⟨h,q⟩
 have up:∀(j:Nat),i≠j->(σ.set i v)[j]?=σ[j]?:=λj h=>yv h;refine ⟨r.ext,λj x q=>?_,λj x q=>?_,λj k x y a h1 h2 h3 h4=>?_,by rw [yC,yC,r.len],λj x q=>?_⟩
 ·rcases dn j _ q with z|⟨h,q⟩
  ·cases z
  ·rw [up j h];exact r.sh j x q
 ·rcases dn j _ q with z|⟨h,q⟩
  ·cases z
  ·rw [up j h];exact r.ow j x q
 ·rcases dn j _ h1 with z|⟨g1,q1⟩
  ·cases z
  ·rcases dn k _ h2 with z|⟨g2,q2⟩
   ·cases z
   ·rw [up j g1] at h3;rw [up k g2] at h4;exact r.nd j k x y a q1 q2 h3 h4
 ·rcases dn j _ q with z|⟨h,q⟩
  ·cases z
  ·rw [up j h];exact r.bo j x q
def zL (i:Nat)(cap:List (Option Nat))(ts:List Nat)(it:MA)(g:MG)(c:MB)(f k x:M):MS:=λε=>(it ε).bind λxs=>if qO cap ts=true/\xs.length<=lim/\i<ε.length then (p7 g c f (k9 cap ε) xs).bind λys=>(xb ys).bind λls=>(k (ε.set i .no)).bind λkv=>match kv with
 | .at (.int n)=>(x (ε.set i .no)).bind λy=>if 0<=n/\n<ls.length/\(ls.getD n.toNat []).length<=lim then some (.nx (ε.set i (.ow (.lst ((ls.set n.toNat (ls.getD n.toNat []++[y])).map .lst))))) else none
 |_=>none else none
variable {fr:Bool}
instance (priority:=2000){wi:TI}{tg:TG}{tt:TT}{tk tx:TE}{cap:List (Option Nat)}{k:M}{u:TS}{r:MS}[si:xl wi it][sg:xY tg ts g][sc:f6 tt c][sf:qv te f][sk:SemE tk k][sx:SemE tx x][sr:o8 fr u r]:o8 fr (tSeq (qT (zl wi tg tt te cap) (r9 n)) (tSeq (xV (tBM K "list" wJ (tOp (rIx K) (m3 n) tk) (m9 tx i9))) u)) (w4 (zL n cap ts it g c f k x) r) where
 h:=λ{ε o} e Hs0 H0 Hs H σ rs D q=>by
  obtain ⟨o1,e1,e2⟩:=bind_some e;unfold zL at e1;obtain ⟨xs,ex,e1⟩:=bind_some e1;split at e1
  rotate_left
  ·cases e1
  rename_i hcl;obtain ⟨hcap,hl,hn⟩:=hcl;unfold qO at hcap;rw [yb] at hcap;obtain ⟨ys,ey,e1⟩:=bind_some e1;obtain ⟨ls,el,e1⟩:=bind_some e1;obtain ⟨kv,ek,e1⟩:=bind_some e1;split at e1
  rotate_left
  ·cases e1
  rename_i kk;obtain ⟨y,exx,e1⟩:=bind_some e1;split at e1
  rotate_left
  ·cases e1
  rename_i hk;obtain ⟨k0,k1,k2⟩:=hk;cases e1;cases XZ el;refine si.h ex rs λJ Hs1 H1 x1 ok=>?_;have rc:=((rs.go x1).cap (yc hcap.1)).rebase;have wk:∀ i∈ts,(u8 cap σ)[i]?=some none:=λi hi=>by
   unfold u8;rw [yV,yc (uY.mp hcap.2 i hi)];rfl
  refine ⟨λk m zs H=>m=xs.length-k/\k<=xs.length/\∃ Hs2 as ws,zs=as.map V.ref/\Ext Hs1 H1 Hs2 H/\RS Hs1 H0 Hs2 H (u8 cap σ) (k9 cap _)/\Tops Hs2 H as ws/\as.Nodup/\(∀ b∈as,H1 b=none/\Hs2 b=none)/\as.length<=k/\∃ rest,p7 g c f (k9 cap _) (xs.drop k)=some rest/\ls.map PV.lst=ws++rest,
   ⟨xs.length,by simp,yh _,Hs1,[],[],rfl,.refl x1.s3,rc,trivial,.nil,(λ_ z=>nomatch z),yS _,_,ey,rfl⟩,?_⟩
  rintro k m zs H2 ⟨rfl,hk,Hs2,as,ws,rfl,x2,r2,tp,nd,nw,hw,rest,er,eys⟩;refine ⟨qj (by rw [yZ];omega),?_⟩;by_cases hlt:k<xs.length
  ·have hd:xs.drop k=xs[k]::xs.drop (k+1):=yi hlt;rw [hd] at er;unfold p7 at er;obtain ⟨ε1,eg,er1⟩:=bind_some er;obtain ⟨b,eb,er2⟩:=bind_some er1;obtain ⟨go,yl⟩:=ok.go k xs[k] Hs2 H2 (by simp [hlt]) x2.s1 x2.s3;refine .inr ⟨go,λv H3 y=>?_⟩;obtain ⟨Hs3,x3,r3⟩:=yl v H3 y;refine sg.h eg (r2.go x3) r3 λσ2 rs2 bt=>⟨bt.wk wk,sc.h eb rs2 λHs4 H4 x4=>?_⟩;cases b with
   |true =>
    rw [if_pos rfl] at er2;obtain ⟨z,ez,er3⟩:=bind_some er2;obtain ⟨rest',er4,er5⟩:=bind_some er3;cases er5;refine qP (sf.h ez (rs2.go x4) λa Hs5 H5 x5 na ns t5=>⟨xs.length-(k+1),by omega,rfl,hlt,Hs5,as++[a],ws++[z],by rw [yB];rfl,x2.trans (x3.trans (x4.trans x5)),((r2.go x3).go x4).go x5,(tp.mono (x3.s1.trans (x4.s1.trans x5.s1)) (x3.s2.trans (x4.s2.trans x5.s2))).snoc t5,?_,?_,?_,rest',er4,?_⟩)
    ·refine uu.mpr ⟨nd,by simp,λb hb c hc z=>?_⟩;rw [yQ.mp hc] at z;subst z;exact Xe (x3.s2.trans x4.s2) (tp.mem hb) na
    ·intro b hb;rcases yk.mp hb with hb|hb
     ·exact ⟨(nw b hb).1,(x3.trans (x4.trans x5)).s4 b (tp.mem hb) (nw b hb).2⟩
     ·rw [yQ.mp hb];exact ⟨(x2.s2.trans (x3.s2.trans x4.s2)).free na,ns⟩
    ·rw [yL];simp;omega
    ·rw [uV];exact eys
   |false=>rw [if_neg yW] at er2;exact qB ⟨xs.length-(k+1),by omega,rfl,hlt,Hs4,as,ws,rfl,x2.trans (x3.trans x4),(r2.go x3).go x4,tp.mono (x3.s1.trans x4.s1) (x3.s2.trans x4.s2),nd,λb hb=>⟨(nw b hb).1,(x3.trans x4).s4 b (tp.mem hb) (nw b hb).2⟩,by omega,rest,er2,eys⟩
  ·have ek':k=xs.length:=by omega
   subst ek';rw [uS] at er;unfold p7 at er;cases er;refine .inl ⟨ok.stop Hs2 H2 x2.s1 x2.s3,λF hF=>?_⟩;rw [yn] at eys;subst eys;have x12:=x1.trans x2;have xF:Ext Hs2 H2 Hs2 (z8 H2 F (.lst (as.map V.ref))):= .newO x2.s3 hF;have hFl:z8 H2 F (.lst (as.map V.ref)) F=some (.lst (as.map V.ref)):=w6;generalize z8 H2 F (.lst (as.map V.ref))=H3 at xF hFl ⊢;have rs1:=(rs.go (x12.trans xF)).hide n (some (.ref F));have hnσ:(σ.set n (some (V.ref F)))[n]?=some (some (.ref F)):=ye (by rw [rs.len];exact hn);obtain ⟨l,hj⟩:∃ l,ls[kk.toNat]?=some l:=⟨_,yU (by omega)⟩;have gl:ls.getD kk.toNat []=l:=by rw [yE,hj];rfl
   obtain ⟨b,hb,vs,hv,rv⟩:=tp.at hj;have bm:=yu hb;have bF:b≠F:=λz=>by rw [z,hF] at hv;cases hv
   refine ⟨_,hnσ,sk.h ek rs1 λv Hs3 H4 x3 r3=>?_⟩;have ev:v = .int kk:=rep_at.mp r3;subst ev;have h4F:=x3.s2 _ _ hFl;have h4b:=x3.s2 _ _ (xF.s2 _ _ hv);refine .inl ⟨F,as.map V.ref,kk,.ref b,rfl,rfl,SqL.of h4F,?_,.inl ⟨rfl,vs,SqL.of h4b⟩,sx.h exx (rs1.go x3) λv Hs4 H5 x4 r4=>?_⟩
   ·have:kk=((kk.toNat:Nat):Int):=by omega
    rw [this];exact qX (by rw [yV,hb];rfl)
   have h5F:=x4.s2 _ _ h4F;have h5b:=x4.s2 _ _ h4b;rw [gl] at k2;refine ⟨b,vs,v,rfl,rfl,h5b,vo (by rw [rv.length];exact k2),?_⟩;have x25:=xF.trans (x3.trans x4);have xA:=x12.trans x25;have asH:∀ a∈as,H a=none:=λa ha=>x1.s2.free (nw a ha).1;have as5:∀ a∈as,Hs4 a=none:=λa ha=>x25.s4 a (tp.mem ha) (nw a ha).2;have Fa:F∉as:=λz=>tp.mem z hF
   open Classical in
   let Hs6:Hp:=λa=>if a∈as then z8 H5 b (.lst (vs++[v])) a else Hs4 a
   have hin:∀ a,a∈as->Hs6 a=z8 H5 b (.lst (vs++[v])) a:=λa ha=>if_pos ha;have hout:∀ a,a∉as->Hs6 a=Hs4 a:=λa ha=>if_neg ha
   clear_value Hs6
   have s46:Same Hs4 Hs6:=λa w z=>by
    rw [hout a (λy=>by rw [as5 a y] at z;cases z)];exact z
   have xB:Ext Hs H Hs6 (z8 H5 b (.lst (vs++[v]))):=by
    refine ⟨xA.s1.trans s46,λa w z=>?_,λa w z=>?_,λa h1 h2=>?_⟩
    ·rw [j3 (λy=>by rw [y,asH b bm] at z;cases z)];exact xA.s2 _ _ z
    ·by_cases ha:a∈as
     ·rw [hin a ha] at z;exact z
     ·rw [hout a ha] at z;rw [j3 (λy=>ha (by rw [y];exact bm))];exact xA.s3 _ _ z
    ·rw [hout a (λy=>h1 (asH a y))];exact xA.s4 a h1 h2
   refine sr.h e2 ((rs.go xB).putO (i:=n) (a:=F) ⟨rs.ext.s2.free (x12.s2.free hF),?_,as.map V.ref,?_,?_⟩ λj w hj2 z=>?_) q
   ·rw [hout F Fa];exact (x3.trans x4).s4 F (by rw [hFl];exact λz=>nomatch z) (x2.s3.free hF)
   ·rw [j3 bF.symm];exact h5F
   ·refine Tops.share (Hs:=Hs4) (H:=H5) s46 r4 h5b (tp.mono (x3.s1.trans x4.s1) x25.s2) nd hb λa ha=>?_;rw [hin a ha];rfl
   ·obtain ⟨b',hb',_,_,tb⟩:=rs.ow j w hj2;rw [z] at hb';injection hb' with hb';injection hb' with hb';injection hb' with hb';subst hb';exact tb.there (x12.s2.free hF)
theorem Wz {cap:List (Option Nat)}{k:M}{ls:List (List PV)}{y:PV}(h:it ε=some xs)(hc:qO cap ts=true)(hl:xs.length<=lim)(hn:n<ε.length)(hd:p7 g c f (k9 cap ε) xs=some (ls.map .lst))(hk:k (ε.set n .no)=some (.at (.int (j:Int))))(hx:x (ε.set n .no)=some y)(hj:j<ls.length)(h2:(ls.getD j []).length<=lim):zL n cap ts it g c f k x ε=some (.nx (ε.set n (.ow (.lst ((ls.set j (ls.getD j []++[y])).map .lst))))):=by unfold zL;rw [h,yI,if_pos ⟨hc,hl,hn⟩,hd,yI,Yd,yI,hk,yI];show (x (ε.set n .no)).bind _=_;rw [hx,yI,uR];exact if_pos ⟨by omega,by omega,h2⟩
end Mi
namespace Mi
open PySem PySem.Spec PyProof.Rows L2
variable{H H0 Hs:Hp}{a:Addr}{ps:List (Addr×PV)}{te:TE}{m:List PV->Option PV}{xs:List PV}{ta:TA}{as:MA}{E:XK}{b:MS}
structure Deep (H0 Hs H:Hp)(a:Addr)(ps:List (Addr×PV)):Prop where
 top:H a=some (.lst (ps.map λp=>V.ref p.1))
 each:∀ p∈ps,Top Hs H p.1 p.2
 nd:(a::ps.map (·.1)).Nodup
 new:∀ b∈a::ps.map (·.1),H0 b=none/\Hs b=none
theorem Deep.live (d:Deep H0 Hs H a ps):∀ b∈a::ps.map (·.1),H b≠none:=λb hb=>by
 rcases yM.mp hb with rfl|hb
 ·rw [d.top];exact λz=>nomatch z
 ·obtain ⟨p,hp,rfl⟩:=yq.mp hb;exact (d.each p hp).there
theorem Deep.go {Hs' H':Hp}(d:Deep H0 Hs H a ps)(x:Ext Hs H Hs' H'):Deep H0 Hs' H' a ps :=
 ⟨x.s2 _ _ d.top,λp hp=>(d.each p hp).mono x.s1 λo z=>x.s2 _ _ z,d.nd,λb hb=>⟨(d.new b hb).1,x.s4 b (d.live b hb) (d.new b hb).2⟩⟩
theorem Deep.reps {Hs H Hs':Hp}:∀{ps:List (Addr×PV)},(∀ p∈ps,Top Hs H p.1 p.2)->(∀ p∈ps,Hs p.1=none)->Same Hs Hs'->(∀ p∈ps,Hs' p.1=H p.1)->Reps Hs' (ps.map (·.2)) (ps.map λp=>V.ref p.1)
 |[],_,_,_,_=> .nil
 |p::ps,h,n,g,k=>by
  refine .cons ?_ (Deep.reps (λq hq=>h q (yT _ hq)) (λq hq=>n q (yT _ hq)) g λq hq=>k q (yT _ hq));obtain ⟨o,ho,hr⟩:=(h p yO).rep (n p yO);refine hr.mono λb u e=>?_;by_cases hb:b=p.1
  ·subst hb;rw [w6] at e;cases e;rw [k p yO];exact ho
  ·rw [j3 hb] at e;exact g _ _ e
theorem Deep.share {Ha Hb:Hp}(d:Deep H0 Hs H a ps)(x:Ext Ha Hb Hs H)(f:∀ b∈a::ps.map (·.1),Hb b=none):∃ Hp',Same Hs Hp'/\Ext Ha Hb Hp' H/\Rep Hp' (.lst (ps.map (·.2))) (.ref a)/\∀ b,b∉a::ps.map (·.1)->Hp' b=Hs b:=by
 open Classical in
 let Hp':Hp:=λb=>if b∈a::ps.map (·.1) then H b else Hs b
 have hin:∀ b,b∈a::ps.map (·.1)->Hp' b=H b:=λb hb=>if_pos hb;have hout:∀ b,b∉a::ps.map (·.1)->Hp' b=Hs b:=λb hb=>if_neg hb
 clear_value Hp'
 have g:Same Hs Hp':=λb o e=>by
  rw [hout b λz=>by rw [(d.new b z).2] at e;cases e];exact e
 refine ⟨Hp',g,⟨x.s1.trans g,x.s2,λb o e=>?_,λb h z=>?_⟩,rep_lst.mpr ⟨a,ps.map λp=>V.ref p.1,rfl,?_,?_⟩,hout⟩
 ·by_cases hb:b∈a::ps.map (·.1)
  ·rw [hin b hb] at e;exact e
  ·rw [hout b hb] at e;exact x.s3 _ _ e
 ·rw [hout b λw=>h (f b w)];exact x.s4 b h z
 ·rw [hin a yO];exact d.top
 ·exact Deep.reps (H:=H) d.each (λp hp=>(d.new _ (yT _ (uW hp))).2) g λp hp=>hin _ (yT _ (uW hp))
class SemZE (te:TE)(f:M):Prop where
 l:∀{ε y},f ε=some y->∃ zs,y = .lst zs
 h:∀{ε zs},f ε=some (.lst zs)->∀{Hs0 H0 Hs H σ},RS Hs0 H0 Hs H σ ε->∀{Q:VK},(∀ a ps Hs' H',Ext Hs H Hs' H'->Deep H Hs' H' a ps->zs=ps.map (·.2)->Q (.ref a) H')->te σ H Q
instance {wi:TI}{tg:TG}{ts:List Nat}{tt:TT}{cap:List (Option Nat)}{it:MA}{g:MG}{c:MB}{f:M}[si:xl wi it][sg:xY tg ts g][sc:f6 tt c][sf:qv te f]:SemZE (zl wi tg tt te cap) (u6 cap ts it g c f) where
 l:=λe=>by
  obtain ⟨xs,_,e⟩:=bind_some e;split at e
  ·obtain ⟨ys,_,e⟩:=bind_some e;cases e;exact ⟨_,rfl⟩
  ·cases e
 h:=λ{ε zs} e Hs0 H0 Hs H σ rs Q q=>by
  unfold u6 at e;obtain ⟨xs,ex,e1⟩:=bind_some e;split at e1
  rotate_left
  ·cases e1
  rename_i hcl;obtain ⟨hcap,hl⟩:=hcl;unfold qO at hcap;rw [yb] at hcap;obtain ⟨ys,ey,e1⟩:=bind_some e1;cases e1;refine si.h ex rs λJ Hs1 H1 x1 ok=>?_;have rc:=((rs.go x1).cap (yc hcap.1)).rebase;have wk:∀ i∈ts,(u8 cap σ)[i]?=some none:=λi hi=>by
   unfold u8;rw [yV,yc (uY.mp hcap.2 i hi)];rfl
  refine ⟨λk m vs H=>m=xs.length-k/\k<=xs.length/\∃(Hs2:Hp)(ps:List (Addr×PV)),vs=ps.map (λp=>V.ref p.1)/\Ext Hs1 H1 Hs2 H/\RS Hs1 H0 Hs2 H (u8 cap σ) (k9 cap _)/\(∀ p∈ps,Top Hs2 H p.1 p.2)/\(ps.map (·.1)).Nodup/\(∀ b∈ps.map (·.1),H1 b=none/\Hs2 b=none)/\ps.length<=k/\∃ rest,p7 g c f (k9 cap _) (xs.drop k)=some rest/\zs=ps.map (·.2)++rest,
   ⟨xs.length,by simp,yh _,Hs1,[],rfl,.refl x1.s3,rc,(λ_ z=>nomatch z),.nil,(λ_ z=>nomatch z),yS _,_,ey,rfl⟩,?_⟩
  rintro k m vs H2 ⟨rfl,hk,Hs2,ps,rfl,x2,r2,tp,nd,nw,hw,rest,er,eys⟩;refine ⟨qj (by rw [yZ];omega),?_⟩;have lv:∀ b∈ps.map (·.1),H2 b≠none:=λb hb=>by
   obtain ⟨p,hp,rfl⟩:=yq.mp hb;exact (tp p hp).there
  by_cases hlt:k<xs.length
  ·have hd:xs.drop k=xs[k]::xs.drop (k+1):=yi hlt;rw [hd] at er;unfold p7 at er;obtain ⟨ε1,eg,er1⟩:=bind_some er;obtain ⟨b,eb,er2⟩:=bind_some er1;obtain ⟨go,yl⟩:=ok.go k xs[k] Hs2 H2 (by simp [hlt]) x2.s1 x2.s3;refine .inr ⟨go,λv H3 y=>?_⟩;obtain ⟨Hs3,x3,r3⟩:=yl v H3 y;refine sg.h eg (r2.go x3) r3 λσ2 rs2 bt=>⟨bt.wk wk,sc.h eb rs2 λHs4 H4 x4=>?_⟩;cases b with
   |true =>
    rw [if_pos rfl] at er2;obtain ⟨z,ez,er3⟩:=bind_some er2;obtain ⟨rest',er4,er5⟩:=bind_some er3;cases er5;refine qP (sf.h ez (rs2.go x4) λa Hs5 H5 x5 na ns t5=>⟨xs.length-(k+1),by omega,rfl,hlt,Hs5,ps++[(a,z)],by rw [yB];rfl,x2.trans (x3.trans (x4.trans x5)),((r2.go x3).go x4).go x5,λp hp=>?_,?_,λb hb=>?_,?_,rest',er4,?_⟩)
    ·rcases yk.mp hp with hp|hp
     ·exact (tp p hp).mono (x3.s1.trans (x4.s1.trans x5.s1)) λo w=>(x3.s2.trans (x4.s2.trans x5.s2)) _ _ w
     ·rw [yQ.mp hp];exact t5
    ·rw [yB];refine uu.mpr ⟨nd,by simp,λb hb c hc z=>?_⟩;rw [show c=a from yQ.mp hc] at z;subst z;exact Xe (x3.s2.trans x4.s2) (lv b hb) na
    ·rw [yB] at hb;rcases yk.mp hb with hb|hb
     ·exact ⟨(nw b hb).1,(x3.trans (x4.trans x5)).s4 b (lv b hb) (nw b hb).2⟩
     ·rw [show b=a from yQ.mp hb];exact ⟨(x2.s2.trans (x3.s2.trans x4.s2)).free na,ns⟩
    ·rw [yL];simp;omega
    ·rw [yB,uV];exact eys
   |false=>rw [if_neg yW] at er2;exact qB ⟨xs.length-(k+1),by omega,rfl,hlt,Hs4,ps,rfl,x2.trans (x3.trans x4),(r2.go x3).go x4,λp hp=>(tp p hp).mono (x3.s1.trans x4.s1) λo w=>(x3.s2.trans x4.s2) _ _ w,nd,λb hb=>⟨(nw b hb).1,(x3.trans x4).s4 b (lv b hb) (nw b hb).2⟩,by omega,rest,er2,eys⟩
  ·have ek':k=xs.length:=by omega
   subst ek';rw [uS] at er;unfold p7 at er;cases er;refine .inl ⟨ok.stop Hs2 H2 x2.s1 x2.s3,λF hF=>?_⟩;rw [yn] at eys;have xF:Ext Hs2 H2 Hs2 (z8 H2 F (.lst (ps.map λp=>V.ref p.1))):= .newO x2.s3 hF;have Fp:F∉ps.map (·.1):=λz=>lv F z hF;refine q F ps Hs2 _ ((x1.trans x2).trans xF) ⟨w6,λp hp=>(tp p hp).mono (.refl _) λo w=>xF.s2 _ _ w,yF.mpr ⟨Fp,nd⟩,λb hb=>?_⟩ eys;rcases yM.mp hb with rfl|hb
   ·exact ⟨(x1.s2.trans x2.s2).free hF,x2.s3.free hF⟩
   ·exact ⟨x1.s2.free (nw b hb).1,(nw b hb).2⟩
def mZ (m:List PV->Option PV):List PV->Option PV:=λxs=>(m xs).bind λy=>match y with
 | .lst zs=>some (.lst zs)
 |_=>none
theorem vX {y:PV}(h:mZ m xs=some y):∃ zs,y = .lst zs/\m xs=some (.lst zs):=by
 unfold mZ at h;obtain ⟨u,e,h⟩:=bind_some h;split at h
 ·cases h;exact ⟨_,rfl,e⟩
 ·cases h
theorem Yg {zs:List PV}(h:m xs=some (.lst zs)):mZ m xs=some (.lst zs):=by unfold mZ;rw [h];rfl
def spZ (m:List PV->Option PV):Sp:=λvs H Q _=>∃ Hs xs zs,Same Hs H/\Reps Hs xs vs/\m xs=some (.lst zs)/\∀ a ps Hs' H',Ext Hs H Hs' H'->Deep H Hs' H' a ps->zs=ps.map (·.2)->Q (.ref a) H'
instance [sa:qp ta as]:SemZE (qU (spZ (mZ m)) [] E ta) (z5 (mZ m) as) where
 l:=λe=>by
  obtain ⟨xs,_,e⟩:=bind_some e;obtain ⟨zs,h,_⟩:=vX e;exact ⟨zs,h⟩
 h:=λ{ε zs} e _ _ _ _ _ rs _ q=>by
  obtain ⟨xs,ex,e1⟩:=bind_some e;refine sa.h ex rs λvs Hs1 H1 x1 r1=>⟨Hs1,xs,zs,x1.s3,by rw [yn];exact r1,e1,λa ps Hs' H' x d ez=>q a ps Hs' H' (x1.trans x) ⟨d.top,d.each,d.nd,λb hb=>⟨x1.s2.free (d.new b hb).1,(d.new b hb).2⟩⟩ ez⟩
instance [sa:qp ta as]:SemE (qU (spZ (mZ m)) [] E ta) (z5 (mZ m) as) where
 h:=λ{ε y} e _ _ _ _ _ rs _ q=>by
  obtain ⟨xs,ex,e1⟩:=bind_some e;obtain ⟨zs,rfl,e2⟩:=vX e1;refine sa.h ex rs λvs Hs1 H1 x1 r1=>⟨Hs1,xs,zs,x1.s3,by rw [yn];exact r1,e1,λa ps Hs' H' x d ez=>?_⟩;obtain ⟨Hp',g,x2,r2,_⟩:=d.share x λb hb=>(d.new b hb).1;subst ez;exact q _ _ _ (x1.trans x2) r2
class vL (ts:TS)(f:MS):Prop where
 h:∀{ε zs},f ε=some (.rt (.lst zs))->AllSh ε->∀{Hs0 H0 Hs H σ},RS Hs0 H0 Hs H σ ε->∀{D:qD},(∀ a ps Hs' H',Ext Hs0 H0 Hs' H'->Deep H0 Hs' H' a ps->zs=ps.map (·.2)->D.rt (.ref a) H')->ts D σ H
instance {a:M}{u:TS}[sa:SemE te a][sb:vL u b]:vL (tSeq (xV te) u) (w4 (zt a) b) where
 h:=λe all _ _ _ _ _ rs _ q=>by
  obtain ⟨o,eo,e1⟩:=bind_some e;obtain ⟨x,ex,e2⟩:=bind_some eo;cases e2;exact sa.h ex rs λv Hs1 H1 x1 r1=>sb.h e1 all (rs.go x1) q
section
variable {P:Program}{w:World}{K:Fg}{mg:Str->Option Value}{base:Heap}
theorem Gb (xs:List PV)(n:Nat):AllSh (xs.map MSlot.sh++List.replicate n .no):=λi s h=>by
 have:=yu h;rcases yk.mp this with z|z
 ·obtain ⟨x,_,rfl⟩:=yq.mp z;exact .inr ⟨x,rfl⟩
 ·exact .inl (List.eq_of_mem_replicate z)
theorem okZ {x qual:Str}{st:Stmt}{f:Addr}{fd:FuncData}{N ps:List Str}{k:Nat}(F:Fun K x qual st f fd)(S:v9 N ps (j8 st))(hm:m=mZ (g8 N.length ps.length b))(hb:∀(cdv:Value)(A:Around)(outer:List Env)(s:Shared)(H:Hp)(E:XK),Room k (A.deeper (envOfC qual (j8 st) s.heap.objs.size f cdv)) -> ∃ t,PSs (qG v5 P w K mg base N qual (j8 st) f cdv A outer s H E).nox (i4 st) t/\vL t b):FnOk P w K mg base v5 (k+1) f fd ps (spZ m):=by
 subst hm;refine F.ok S (λvs H Q E h=>?_) (λcdv A outer s H vs Q E hr h=>?_)
 ·obtain ⟨Hs,xs,y,_,r,e,_⟩:=h;obtain ⟨zs,_,e⟩:=vX e;unfold g8 at e;split at e
  ·rename_i hl;rw [r.length];exact hl
  ·cases e
 ·obtain ⟨Hs,xs,y,sm,r,e,q⟩:=h;obtain ⟨zs,ez,e⟩:=vX e;cases ez;obtain ⟨t,ht,sem⟩:=hb cdv A outer s H E hr;refine ⟨t,ht,?_⟩;unfold g8 at e;split at e
  ·rename_i hl;obtain ⟨o,eo,e1⟩:=bind_some e;cases o with
   |rt z=>cases e1;exact sem.h eo (Gb _ _) (by rw [<- hl];exact jM sm r) q
   |nx ε=>cases e1
   |bk ε=>cases e1
   |ct ε=>cases e1
  ·cases e
end
end Mi
namespace Mi
open PySem L2
variable{H H0 Hs Hs0:Hp}{a:Addr}{ps:List (Addr×PV)}{j n:Nat}{K:Fg}{wi:TI}{tg:TG}{ts:List Nat}{tt:TT}{te:TE}{it:MA}{g:MG}{c:MB}{f:M}{σ:St}{ε:ME}
theorem Xr:∀(ls:List (List PV)){ys:List PV},p7 (v3 0) (p8 (x8 0)) (q9 0) [.no] (ls.map .lst)=some ys->ys=(ls.filter λl=>!l.isEmpty).map .lst
 |[],ys,h=>by cases h;rfl
 |l::ls,ys,h=>by
  have h':(if (!l.isEmpty)=true then (some (PV.lst l)).bind λy=>(p7 (v3 0) (p8 (x8 0)) (q9 0) [.no] (ls.map .lst)).bind λys=>some (y::ys) else p7 (v3 0) (p8 (x8 0)) (q9 0) [.no] (ls.map .lst))=some ys:=h;split at h'
  ·rename_i hl;rw [yI] at h';obtain ⟨zs,ez,e⟩:=bind_some h';cases e;rw [uX,if_pos hl,yN,Xr ls ez]
  ·rename_i hl;rw [uX,if_neg hl];exact Xr ls h'
theorem Deep.at {ls:List (List PV)}{l:List PV}(d:Deep H0 Hs H a ps)(e:ps.map (·.2)=ls.map .lst)(hj:ls[j]?=some l):∃ p,ps[j]?=some p/\p.2 = .lst l/\Top Hs H p.1 (.lst l):=by
 have h:(ps.map (·.2))[j]?=some (.lst l):=by rw [e,yV,hj];rfl
 rw [yV] at h;obtain ⟨p,hp,h2⟩:=yK.mp h;exact ⟨p,hp,h2,h2▸d.each p (yu hp)⟩
theorem Deep.chg {p:Addr×PV}{o:HO}{y:PV}(d:Deep H0 Hs H a ps)(hj:ps[j]?=some p)(t:Top Hs (z8 H p.1 o) p.1 y):Deep H0 Hs (z8 H p.1 o) a (ps.set j (p.1,y)):=by
 have hp:=yu hj;obtain ⟨hl,hj'⟩:=yG.mp hj;have m1:(ps.set j (p.1,y)).map (·.1)=ps.map (·.1):=by
  rw [List.map_set];refine List.ext_getElem? λi=>?_;rw [yH];split
  ·rename_i h;subst h;rw [if_pos (by rw [yZ];exact hl),yV,hj];rfl
  ·rfl
 have pa:p.1≠a:=λz=>(yF.mp d.nd).1 (z▸uW hp);refine ⟨?_,λq hq=>?_,by rw [m1];exact d.nd,by rw [m1];exact d.new⟩
 ·rw [j3 pa.symm,d.top];have:(ps.set j (p.1,y)).map (λp=>V.ref p.1)=((ps.set j (p.1,y)).map (·.1)).map V.ref:=by rw [yr];rfl
  rw [this,m1,yr];rfl
 ·obtain ⟨i,hi,rfl⟩:=List.mem_iff_getElem.mp hq;rw [yC] at hi;rw [List.getElem_set];split
  ·exact t
  ·rename_i hne;have hq1:ps[i].1≠p.1:=λz=>by
    have nd:=(yF.mp d.nd).2;have e1:(ps.map (·.1))[i]'(by rw [yZ];exact hi)=(ps.map (·.1))[j]'(by rw [yZ];exact hl):=by rw [List.getElem_map,List.getElem_map,hj'];exact z
    exact hne ((List.getElem_inj (h₀:=by rw [yZ];exact hi) (h₁:=by rw [yZ];exact hl) nd).mp e1).symm
   exact (d.each _ (yz hi)).mono (.refl _) λo e=>by rw [j3 hq1];exact e
instance {tk tx:TE}{cap:List (Option Nat)}{k x:M}[si:xl wi it][sg:xY tg ts g][sc:f6 tt c][sf:qv te f][sk:SemE tk k][sx:SemE tx x]:vL (tSeq (qT (zl wi tg tt te cap) (r9 n)) (tSeq (xV (tBM K "list" wJ (tOp (rIx K) (m3 n) tk) (m9 tx i9))) (vE (zl (vk K (m3 n)) (r9 0) (tTru K (m3 0)) (m3 0) [none])))) (w4 (zL n cap ts it g c f k x) (u3 (zr [none] [0] (y7 (x8 n)) (v3 0) (p8 (x8 0)) (q9 0)))) where
 h:=λ{ε zs} e all Hs0 H0 Hs H σ rs D q=>by
  obtain ⟨o1,e1,e2⟩:=bind_some e;unfold zL at e1;obtain ⟨xs,ex,e1⟩:=bind_some e1;split at e1
  rotate_left
  ·cases e1
  rename_i hcl;obtain ⟨hcap,hl,hn⟩:=hcl;obtain ⟨ys,ey,e1⟩:=bind_some e1;obtain ⟨ls,el,e1⟩:=bind_some e1;obtain ⟨kv,ek,e1⟩:=bind_some e1;split at e1
  rotate_left
  ·cases e1
  rename_i kk;obtain ⟨y,exx,e1⟩:=bind_some e1;split at e1
  rotate_left
  ·cases e1
  rename_i hk;obtain ⟨k0,k1,k2⟩:=hk;cases e1;cases XZ el;have ec:u6 cap ts it g c f ε=some (.lst (ls.map .lst)):=by unfold u6;rw [ex,yI,if_pos ⟨hcap,hl⟩,ey];rfl
  have hnl:(ε.set n (MSlot.ow (PV.lst ((ls.set kk.toNat (ls.getD kk.toNat []++[y])).map .lst))))[n]?=some (MSlot.ow (PV.lst ((ls.set kk.toNat (ls.getD kk.toNat []++[y])).map .lst))):=ye hn;have e3:zs=((ls.set kk.toNat (ls.getD kk.toNat []++[y])).filter λl=>!l.isEmpty).map .lst:=by
   obtain ⟨r,er,e4⟩:=bind_some e2;cases e4;unfold zr at er;obtain ⟨xs2,ex2,er⟩:=bind_some er;have:xs2=(ls.set kk.toNat (ls.getD kk.toNat []++[y])).map .lst:=by unfold y7 x8 at ex2;rw [hnl] at ex2;cases ex2;rfl
   subst this;split at er
   ·obtain ⟨ys2,ey2,er⟩:=bind_some er;cases er;exact Xr _ ey2
   ·cases er
  have hl2:ls.length<=lim:=by
   have:∀{xs ys:List PV},p7 g c f (k9 cap ε) xs=some ys->ys.length<=xs.length:=by
    intro xs
    induction xs with
    |nil=>intro ys h;cases h;exact yS _
    |cons x xs ih =>
     intro ys h;unfold p7 at h;obtain ⟨ε1,_,h⟩:=bind_some h;obtain ⟨b,_,h⟩:=bind_some h;split at h
     ·obtain ⟨z,_,h⟩:=bind_some h;obtain ⟨r,hr,h⟩:=bind_some h;cases h;have:=ih hr;simp only [yw];omega
     ·have:=ih h;simp only [yw];omega
   have:=this ey;rw [yZ] at this;omega
  refine SemZE.h (te:=zl wi tg tt te cap) ec rs λa ps Hs1 H1 x1 d1 ez=>?_;have rs1:=(rs.go x1).hide n (some (.ref a));have hnσ:(σ.set n (some (V.ref a)))[n]?=some (some (.ref a)):=ye (by rw [rs.len];exact hn);obtain ⟨l,hj⟩:∃ l,ls[kk.toNat]?=some l:=⟨_,yU (by omega)⟩;have gl:ls.getD kk.toNat []=l:=by rw [yE,hj];rfl
  refine ⟨_,hnσ,sk.h ek rs1 λv Hs3 H3 x3 r3=>?_⟩;have ev:v = .int kk:=rep_at.mp r3;subst ev;have d3:=d1.go x3;obtain ⟨p,hp,hp2,vs,hv,rv⟩:=d3.at ez.symm hj;refine .inl ⟨a,_,kk,.ref p.1,rfl,rfl,SqL.of d3.top,?_,.inl ⟨rfl,vs,SqL.of hv⟩,sx.h exx (rs1.go x3) λv Hs4 H4 x4 r4=>?_⟩
  ·have:kk=((kk.toNat:Nat):Int):=by omega
   rw [this];exact qX (by rw [yV,hp];rfl)
  have d4:=d3.go x4;have h4b:=x4.s2 _ _ hv;rw [gl] at k2;refine ⟨p.1,vs,v,rfl,rfl,h4b,vo (by rw [rv.length];exact k2),?_⟩;have d5:=d4.chg (o:= .lst (vs++[v])) (y:= .lst (l++[y])) hp ⟨_,w6,(rv.mono x4.s1).append (.one r4)⟩;have pm:=yT a (uW (f:=(·.1)) (yu hp));have xA:=(x1.trans (x3.trans x4));have x5:Ext Hs H Hs4 (z8 H4 p.1 (.lst (vs++[v]))):=by
   refine ⟨xA.s1,λb w z=>?_,λb w z=>?_,xA.s4⟩
   ·rw [j3 (λy=>by rw [y,(d1.new _ pm).1] at z;cases z)];exact xA.s2 _ _ z
   ·rw [j3 (λy=>by rw [y,(d4.new _ pm).2] at z;cases z)];exact xA.s3 _ _ z
  have eps:(ps.set kk.toNat (p.1,PV.lst (l++[y]))).map (·.2)=(ls.set kk.toNat (ls.getD kk.toNat []++[y])).map .lst:=by rw [List.map_set,List.map_set,<- ez,gl]
  have psl:ps.length=ls.length:=by have:=congrArg List.length ez;simp only [yZ] at this;exact this.symm
  generalize z8 H4 p.1 (.lst (vs++[v]))=H5 at d5 x5 ⊢;generalize ls.set kk.toNat (ls.getD kk.toNat []++[y])=ls2 at e3 eps;have psl2:(ps.set kk.toNat (p.1,PV.lst (l++[y]))).length<=lim:=by rw [yC];omega
  generalize ps.set kk.toNat (p.1,PV.lst (l++[y]))=ps2 at d5 eps psl2;refine ⟨_,hnσ,a,rfl,⟨_,SqL.of d5.top⟩,λk m us H6=>m=ps2.length-k/\k<=ps2.length/\H6=H5/\us=(((ps2.take k).filter λp=>match p.2 with | .lst l=>!l.isEmpty|_=>false).map λp=>V.ref p.1),⟨ps2.length,by simp,yh _,rfl,by simp⟩,?_⟩;rintro k m us H6 ⟨rfl,hk,rfl,rfl⟩;refine ⟨qj ?_,?_⟩
  ·rw [yZ];refine yf (List.length_filter_le _ _) ?_;rw [uG];omega
  by_cases hlt:k<ps2.length
  ·refine .inr ⟨⟨_,.ref ps2[k].1,SqL.of d5.top,by rw [yV,yU hlt];rfl⟩,λu H7 yl=>?_⟩;obtain ⟨rfl,yl⟩:=yl;have hu:=yl _ (SqL.of d5.top);rw [yV,yU hlt] at hu;obtain rfl:V.ref ps2[k].1=u:=Option.some.inj hu;have hl3:∃ l,ps2[k].2 = .lst l:=by have:ps2[k].2∈ps2.map (·.2):=uW (yz hlt);rw [eps] at this;obtain ⟨l,_,h⟩:=yq.mp this;exact ⟨l,h.symm⟩
   obtain ⟨l3,hl3⟩:=hl3;have t3:=d5.each _ (yz hlt);rw [hl3] at t3;obtain ⟨ws,hw,rw3⟩:=t3;have tk:ps2.take (k+1)=ps2.take k++[ps2[k]]:=by rw [List.take_succ,yU hlt];rfl
   refine ⟨⟨rfl,λi v h=>by
    cases i with
    |zero=>cases h
    |succ i=>cases h⟩,.ref ps2[k].1,rfl,!ws.isEmpty,.inl ⟨ws,SqL.of hw,rfl⟩,?_⟩
   have he:(!ws.isEmpty)=(match ps2[k].2 with | .lst l=>!l.isEmpty|_=>false):=by rw [hl3,rw3.isEmpty]
   cases hb:(!ws.isEmpty) with
   |true=>refine qP ⟨.ref ps2[k].1,rfl,ps2.length-(k+1),by omega,rfl,hlt,rfl,?_⟩;rw [tk,List.filter_append,yB];rw [uX,if_pos (by rw [<- he,hb])];rfl
   |false=>refine qB ⟨ps2.length-(k+1),by omega,rfl,hlt,rfl,?_⟩;rw [tk,List.filter_append,yB];rw [uX,if_neg (by rw [<- he,hb];exact yW)];simp
  ·have ek':k=ps2.length:=by omega
   subst ek';refine .inl ⟨⟨_,SqL.of d5.top,by rw [yZ];exact yS _⟩,λF hF=>?_⟩;rw [List.take_length];have xF:Ext Hs4 H6 Hs4 (z8 H6 F (.lst ((ps2.filter λp=>match p.2 with | .lst l=>!l.isEmpty|_=>false).map λp=>V.ref p.1))):= .newO x5.s3 hF;have sub:∀ b,b∈((ps2.filter λp=>match p.2 with | .lst l=>!l.isEmpty|_=>false).map (·.1))->b∈a::ps2.map (·.1):=λb hb=>by
    obtain ⟨p,hp,rfl⟩:=yq.mp hb;exact yT _ (uW (uQ.mp hp).1)
   refine q F _ Hs4 _ (rs.ext.trans (x5.trans xF)) ⟨w6,λp hp=>(d5.each p (uQ.mp hp).1).mono (.refl _) λo w=>xF.s2 _ _ w,yF.mpr ⟨λz=>d5.live F (sub F z) hF,?_⟩,λb hb=>?_⟩ ?_
   ·exact ((List.filter_sublist (l:=ps2)).map (·.1)).nodup (yF.mp d5.nd).2
   ·rcases yM.mp hb with rfl|hb
    ·exact ⟨rs.ext.s2.free (x5.s2.free hF),x5.s3.free hF⟩
    ·exact ⟨rs.ext.s2.free (d5.new b (sub b hb)).1,(d5.new b (sub b hb)).2⟩
   ·rw [e3];have main:∀{ps:List (Addr×PV)}{ls:List (List PV)},ps.map (·.2)=ls.map PV.lst->(ls.filter λl=>!l.isEmpty).map PV.lst=(ps.filter λp=>match p.2 with | .lst l=>!l.isEmpty|_=>false).map (·.2):=by
     intro ps
     induction ps with
     |nil=>intro ls h;cases ls with
      |nil=>rfl
      |cons _ _=>cases h
     |cons p ps ih=>intro ls h;cases ls with
      |nil=>cases h
      |cons l ls =>
       rw [yN,yN] at h;injection h with h1 h2;rw [uX,uX,h1];cases hl:(!l.isEmpty) with
       |true=>rw [if_pos rfl,if_pos hl,yN,yN,ih h2,h1]
       |false=>rw [if_neg yW,if_neg (by show ¬ (!l.isEmpty)=true;rw [hl];exact yW),ih h2]
    exact main eps
class wW (g:MG):Prop where
 h:∀{x ε ε'},g x ε=some ε'->AllSh ε->AllSh ε'
 l:∀{x ε ε'},g x ε=some ε'->ε'.length=ε.length
class wX (g:List PV->ME->Option ME):Prop where
 h:∀{x ε ε'},g x ε=some ε'->AllSh ε->AllSh ε'
 l:∀{x ε ε'},g x ε=some ε'->ε'.length=ε.length
instance {i:Nat}:wW (v3 i) where
 h:=λe a=>by cases e;exact a.set _ _
 l:=λe=>by cases e;exact yC
instance:wX qH where
 h:=λ{x _ _} e a=>by
  unfold qH at e;split at e
  ·cases e;exact a
  ·cases e
 l:=λ{x _ _} e=>by
  unfold qH at e;split at e
  ·cases e;rfl
  ·cases e
instance {r:List PV->ME->Option ME}[kg:wW g][kr:wX r]:wX (m5 g r) where
 h:=λ{x _ _} e a=>by
  unfold m5 at e;split at e
  ·obtain ⟨ε1,e1,e2⟩:=bind_some e;exact kr.h e2 (kg.h e1 a)
  ·cases e
 l:=λ{x _ _} e=>by
  unfold m5 at e;split at e
  ·obtain ⟨ε1,e1,e2⟩:=bind_some e;exact (kr.l e2).trans (kg.l e1)
  ·cases e
instance {g:List PV->ME->Option ME}[kg:wX g]:wW (qI n g) where
 h:=λ{x _ _} e a=>by
  unfold qI at e;split at e
  ·split at e
   ·exact kg.h e a
   ·cases e
  ·cases e
 l:=λ{x _ _} e=>by
  unfold qI at e;split at e
  ·split at e
   ·exact kg.l e
   ·cases e
  ·cases e
class JN (j:Nat)(it:MA):Prop where
 h:∀(ε:ME)(s s':MSlot),it (ε.set j s)=it (ε.set j s')
theorem GX {i:Nat}(h:i≠j)(ε:ME)(s s':MSlot):q9 i (ε.set j s)=q9 i (ε.set j s'):=by unfold q9;rw [yv h.symm,yv h.symm]
theorem Deep.shareRS (d:Deep H0 Hs H a ps)(rs:RS Hs0 H0 Hs H σ (ε.set j (.sh (.at (.ref a)))))(all:AllSh ε)(jl:j<ε.length):∃ Hp',Same Hs Hp'/\RS Hs0 H0 Hp' H σ (ε.set j (.sh (.lst (ps.map (·.2))))):=by
 obtain ⟨Hp',g,x,r,_⟩:=d.share rs.ext λb hb=>(d.new b hb).1;have al2:AllSh (ε.set j (.sh (.lst (ps.map (·.2))))):=all.set j _;refine ⟨Hp',g,x,λi y h=>?_,λi y h=>?_,λi _ y _ _ h=>?_,by rw [yC];have:=rs.len;rw [yC] at this;exact this,λi y h=>?_⟩
 ·rw [yH] at h;split at h
  ·rename_i hij;cases h;obtain ⟨v,hv,rv⟩:=rs.sh j _ (Um jl _);cases rep_at.mp rv;exact ⟨_,hij▸hv,r⟩
  ·rename_i hij;obtain ⟨v,hv,rv⟩:=rs.sh i y (by rw [yv hij];exact h);exact ⟨v,hv,rv.mono g⟩
 ·rcases al2 i _ h with z|⟨_,z⟩<;>cases z
 ·rcases al2 i _ h with z|⟨_,z⟩<;>cases z
 ·rcases al2 i _ h with z|⟨_,z⟩<;>cases z
instance {tnv:TS}{ta:TA}{fe:M}{m:List PV->Option PV}{as:MA}{E:XK}[sz:SemZE te fe][si:xl wi it][ap:JN j it][sg:xY tg ts g][ks:wW g][sc:f6 tt c][sa:qp ta as]:vL (tSeq (qT te (r9 j)) (tSeq (tFor wi tg (tSeq (wO tt tnv wR) (qT (qU (spZ (mZ m)) [] E ta) (r9 j)))) (vE (m3 j)))) (w4 (o3 j fe) (w4 (xI it g (w4 (b9 c o9 c4) (o3 j (z5 (mZ m) as)))) (u3 (q9 j)))) where
 h:=λ{ε zs} e all Hs0 H0 Hs H σ rs D q=>by
  obtain ⟨o1,e1,e2⟩:=bind_some e;obtain ⟨y0,ey0,e1⟩:=bind_some e1;cases e1;obtain ⟨o2,e3,e4⟩:=bind_some e2;obtain ⟨xs,ex,e3⟩:=bind_some e3;obtain ⟨z0,rfl⟩:=sz.l ey0;have turn:∀{ε:ME}{o:Out},w4 (b9 c o9 c4) (o3 j (z5 (mZ m) as)) ε=some o->c ε=some false/\∃ z,z5 (mZ m) as ε=some (.lst z)/\o = .nx (ε.set j (.sh (.lst z))):=by
   intro ε o eo;obtain ⟨o',eo',eo⟩:=bind_some eo;obtain ⟨b,eb,eo'⟩:=bind_some eo';split at eo'
   ·cases eo'
   ·rename_i hb;cases eo';obtain ⟨z,ez,eo⟩:=bind_some eo;cases eo;obtain ⟨xs,hx,hz⟩:=bind_some ez;obtain ⟨zs,rfl,_⟩:=vX hz;exact ⟨by rw [eb];cases b;rfl;exact absurd rfl hb,zs,ez,rfl⟩
  have lp:∀{xs:List PV}{ε:ME}{o:Out},f9 g (w4 (b9 c o9 c4) (o3 j (z5 (mZ m) as))) xs ε=some o->∃ ε2,o = .nx ε2/\ε2.length=ε.length:=by
   intro xs
   induction xs with
   |nil=>intro ε o h;cases h;exact ⟨_,rfl,rfl⟩
   |cons x xs ih=>intro ε o h;unfold f9 at h;obtain ⟨ε1,eg,h⟩:=bind_some h;obtain ⟨o1,eo,h⟩:=bind_some h;obtain ⟨_,z,_,rfl⟩:=turn eo;obtain ⟨ε2,h1,h2⟩:=ih h;exact ⟨ε2,h1,by rw [h2,yC,ks.l eg]⟩
  obtain ⟨ε2,rfl,len2⟩:=lp e3;obtain ⟨r,er,e5⟩:=bind_some e4;cases e5;have jl:j<ε.length:=by
   rw [yC] at len2;rw [<- len2];unfold q9 at er;split at er
   ·rename_i h;exact (yG.mp h).1
   ·cases er
  refine sz.h ey0 rs λa ps Hs1 H1 x1 d1 ez=>?_;have rs1:=(rs.go x1).put (i:=j) (x:= .at (.ref a)) (v:= .ref a) (rep_at.mpr rfl);have d1':Deep H0 Hs1 H1 a ps:=⟨d1.top,d1.each,d1.nd,λb hb=>⟨rs.ext.s2.free (d1.new b hb).1,(d1.new b hb).2⟩⟩;rw [ap.h ε _ (.sh (.at (.ref a)))] at ex;subst ez;refine si.h ex rs1 λJ Hs2 H2 x2 ok=>?_;have d2:=d1'.go x2;have rs2:=(rs1.go x2).rebase;have eb2:=(rs1.go x2).ext;refine ⟨λk n σ H=>n=xs.length-k/\k<=xs.length/\∃(Hs:Hp)(ε:ME)(a:Addr)(ps:List (Addr×PV)),RS Hs2 H0 Hs H σ (ε.set j (.sh (.at (.ref a))))/\AllSh ε/\j<ε.length/\Deep H0 Hs H a ps/\f9 g (w4 (b9 c o9 c4) (o3 j (z5 (mZ m) as))) (xs.drop k) (ε.set j (.sh (.lst (ps.map (·.2)))))=some (.nx ε2),⟨xs.length,by simp,yh _,Hs2,ε,a,ps,rs2,all,jl,d2,e3⟩,?_⟩;rintro k n σ3 H3 ⟨rfl,hk,Hs3,ε3,a3,ps3,rs3,all3,jl3,d3,el⟩;by_cases hlt:k<xs.length
  ·obtain ⟨Hp',g',rs4⟩:=d3.shareRS rs3 all3 jl3;have hd:xs.drop k=xs[k]::xs.drop (k+1):=yi hlt;rw [hd] at el;unfold f9 at el;obtain ⟨ε1,eg,el1⟩:=bind_some el;obtain ⟨o,eo,el2⟩:=bind_some el1;obtain ⟨ec,z,ezc,rfl⟩:=turn eo;obtain ⟨go,yl⟩:=ok.go k xs[k] Hp' H3 (by simp [hlt]) rs4.ext.s1 rs4.ext.s3;refine .inr ⟨go,λσ' H'=>k+1<=xs.length/\∃(Hs:Hp)(ε:ME)(a:Addr)(ps:List (Addr×PV)),RS Hs2 H0 Hs H' σ' (ε.set j (.sh (.at (.ref a))))/\AllSh ε/\j<ε.length/\Deep H0 Hs H' a ps/\f9 g (w4 (b9 c o9 c4) (o3 j (z5 (mZ m) as))) (xs.drop (k+1)) (ε.set j (.sh (.lst (ps.map (·.2)))))=some (.nx ε2),λσ' H' p=>⟨xs.length-(k+1),by omega,rfl,p.1,p.2⟩,λv H4 y=>?_⟩;obtain ⟨Hs4,x4,r4⟩:=yl v H4 y;refine sg.h eg (rs4.go x4) r4 λσ5 rs5 _=>sc.h ec rs5 λHs6 H6 x6=>qB ?_;have rs6:=rs5.go x6;refine SemZE.h (te:=qU (spZ (mZ m)) [] E ta) (f:=z5 (mZ m) as) ezc rs6 λa' ps' Hs7 H7 x7 d7 ez7=>?_;subst ez7;exact ⟨hlt,Hs7,ε1,a',ps',(rs6.go x7).put (i:=j) (x:= .at (.ref a')) (v:= .ref a') (rep_at.mpr rfl),ks.h eg (all3.set j _),by rw [ks.l eg,yC];exact jl3,⟨d7.top,d7.each,d7.nd,λb hb=>⟨rs6.ext.s2.free (d7.new b hb).1,(d7.new b hb).2⟩⟩,el2⟩
  ·have ek:k=xs.length:=by omega
   subst ek;rw [uS] at el;unfold f9 at el;cases el;refine .inl ⟨ok.stop Hs3 H3 rs3.ext.s1 rs3.ext.s3,?_⟩;obtain ⟨v,hv,rv⟩:=rs3.sh j _ (Um jl3 _);cases rep_at.mp rv;refine ⟨_,hv,q a3 ps3 Hs3 H3 (Ext.unbase eb2 rs3.ext) d3 ?_⟩;unfold q9 at er;rw [ye jl3] at er;cases er;rfl
theorem RD.hide {S:List Addr}{σ':St}(r:RD S Hs0 H0 Hs H σ ε){i:Nat}(b:But [i+1] σ σ'):RD S Hs0 H0 Hs H σ' (ε.set (i+1) .no):=by
 have dn:∀(j:Nat)(s:MSlot),(ε.set (i+1) .no)[j]?=some s->s = .no∨(σ'[j]?=σ[j]?/\ε[j]?=some s):=λj s q=>by
  rw [yH] at q;split at q
  ·split at q
   ·cases q;exact .inl rfl
   ·cases q
  ·rename_i h;exact .inr ⟨b.2 j λz=>h (yQ.mp z).symm,q⟩
 have z0:σ'[0]?=σ[0]?:=b.2 0 λz=>absurd (yQ.mp z) (by omega);refine ⟨r.s1,r.s2,r.s3,r.s4,λj x q=>?_,λj x q=>?_,λj k x y a h1 h2 h3 h4=>?_,by rw [yC,<- r.len,b.1],λa ha=>by rw [z0];exact r.pin a ha,r.live,λa ha=>by rw [yv (by omega)];exact r.str a ha,jE r.nb λ_ z=>nomatch z⟩
 ·rcases dn j _ q with z|⟨h,q⟩
  ·cases z
  ·rw [h];exact r.sh j x q
 ·rcases dn j _ q with z|⟨h,q⟩
  ·cases z
  ·rw [h];exact r.ow j x q
 ·rcases dn j _ h1 with z|⟨g1,q1⟩
  ·cases z
  ·rcases dn k _ h2 with z|⟨g2,q2⟩
   ·cases z
   ·rw [g1] at h3;rw [g2] at h4;exact r.nd j k x y a q1 q2 h3 h4
class Xk (i:Nat)(tb:TS):Prop where
 h:∀{σ:St}{H:Hp}{b:Addr}{vs:List V}{D:qD},σ[i]?=some (some (.ref b))->H b=some (.lst vs)->vs.length<=lim->(∀ ws,D.nx σ (z8 H b (.lst ws)))->tb D σ H
instance {i:Nat}{v:V}:Xk i (xV (tBM K "list" wJ (m3 i) (m9 (tC v) i9))) where
 h:=λhi hb hl q=>⟨_,hi,.inl ⟨rfl,_,SqL.of hb⟩,_,_,v,rfl,rfl,hb,vo hl,q _⟩
instance {i:Nat}:Xk i (xV (tBM0 K "list" YK (m3 i))) where
 h:=λhi hb hl q=>⟨_,hi,.inl ⟨rfl,_,SqL.of hb⟩,_,_,rfl,rfl,hb,q _⟩
def vF (n i:Nat)(f:M)(c:MB):WS:=λε N _=>∃ zs:List PV,f ε=some (.lst zs)/\c (ε.set n (.sh (.lst zs)))=some false/\(∀ z∈zs,∃ l:List PV,z = .lst l/\l.length<=lim)/\n<ε.length/\i<ε.length/\∀ us:List PV,us.length=zs.length->N ((ε.set n (.ow (.lst us))).set i .no)
instance {i:Nat}:xk (vF n i f c) where
 h:=λk _ ⟨zs,h1,h2,h3,h4,h5,h6⟩=>⟨zs,h1,h2,h3,h4,h5,λus hu=>k _ (h6 us hu)⟩
instance (priority:=2000){i:Nat}{tr tb u:TS}{r:WS}[sz:SemZE te f][sc:f6 tt c][sb:Xk (i+1) tb][sr:SemWS u r]:SemWS (tSeq (qT te (r9 (n+1))) (tSeq (wO tt tr wR) (tSeq (tFor (vk K (m3 (n+1))) (r9 (i+1)) tb) u))) (wSeq (vF (n+1) (i+1) f c) r) where
 h:=λ{ε N R} h S Hs0 H0 Hs H σ rd D k rt=>by
  obtain ⟨zs,e1,e2,hz,hn,hni,h⟩:=h;refine sz.h e1 rd.rs λa ps Hs1 H1 x1 d1 ez=>?_;obtain ⟨Hp',g1,xp,rp,_⟩:=d1.share x1 λb hb=>(d1.new b hb).1;rw [<- ez] at rp;refine sc.h e2 ((rd.go xp).put (i:=n) rp).rs λHs2 H2 x2=>qB ?_;have g2:Same H1 H2:=x2.s2;have d2:Deep H Hs1 H2 a ps:=d1.go ⟨.refl _,g2,x1.s3.trans g2,λ_ _ z=>z⟩;have hnσ:(σ.set (n+1) (some (V.ref a)))[n+1]?=some (some (.ref a)):=ye (by rw [rd.len];exact hn);refine ⟨_,hnσ,a,rfl,⟨_,SqL.of d2.top⟩,λj m σ' H'=>m=ps.length-j/\j<=ps.length/\But [i+1] (σ.set (n+1) (some (V.ref a))) σ'/\(∀ b o,b∉ps.map (·.1)->H2 b=some o->H' b=some o)/\∀ p∈ps.drop j,H' p.1=H2 p.1,⟨ps.length,by simp,yh _,⟨rfl,λ_ _=>rfl⟩,λ_ _ _ e=>e,λ_ _=>rfl⟩,?_⟩;rintro j m σ' H' ⟨rfl,hj,bt,kp,dr⟩;have an:a∉ps.map (·.1):=(yF.mp d2.nd).1;have top':=kp a _ an d2.top;by_cases hlt:j<ps.length
  ·refine .inr ⟨⟨_,.ref ps[j].1,SqL.of top',by rw [yV,yU hlt];rfl⟩,λσ' H'=>j+1<=ps.length/\But [i+1] (σ.set (n+1) (some (V.ref a))) σ'/\(∀ b o,b∉ps.map (·.1)->H2 b=some o->H' b=some o)/\∀ p∈ps.drop (j+1),H' p.1=H2 p.1,λσ' H' p=>⟨ps.length-(j+1),by omega,rfl,p⟩,λv H3 y=>?_⟩;obtain ⟨rfl,y⟩:=y;have hu:=y _ (SqL.of top');rw [yV,yU hlt] at hu;obtain rfl:V.ref ps[j].1=v:=Option.some.inj hu;have hd:ps.drop j=ps[j]::ps.drop (j+1):=yi hlt;rw [hd] at dr;obtain ⟨l,hl,hll⟩:=hz ps[j].2 (by rw [ez];exact uW (yz hlt));have tj:=d2.each _ (yz hlt);rw [hl] at tj;obtain ⟨vs,hv,rv⟩:=tj;have il:i+1<σ'.length:=by rw [bt.1,yC,rd.len];exact hni
   refine sb.h (b:=ps[j].1) (vs:=vs) (ye il) ((dr _ yO).trans hv) (by rw [rv.length];exact hll) λws=>⟨hlt,⟨by rw [yC];exact bt.1,λq hq=>?_⟩,λb o hb e=>?_,λp hp=>?_⟩
   ·rw [yv λz=>hq (by rw [z];exact yQ.mpr rfl)];exact bt.2 q hq
   ·rw [j3 λz=>hb (by rw [z];exact uW (yz hlt))];exact kp b o hb e
   ·rw [j3 λz=>?_]
    ·exact dr p (yT _ hp)
    ·have nd:=(yF.mp d2.nd).2;have:(ps.drop j).map (·.1)=(ps.map (·.1)).drop j:=List.map_drop;have nd2:((ps.drop j).map (·.1)).Nodup:=by rw [this];exact (List.drop_sublist j _).nodup nd
     rw [hd,yN] at nd2;exact (yF.mp nd2).1 (z▸uW hp)
  ·refine .inl ⟨⟨_,SqL.of top',by rw [yZ];omega⟩,?_⟩;have nin:∀ b,H b≠none->b∉ps.map (·.1):=λb hb z=>hb (d1.new b (yT _ z)).1;have x3:Ext Hs H Hs1 H':=⟨x1.s1,λb o e=>kp b o (nin b (by rw [e];exact λz=>nomatch z)) (g2 _ _ (x1.s2 _ _ e)),λb o e=>kp b o (λz=>by rw [(d1.new b (yT _ z)).2] at e;cases e) (g2 _ _ (x1.s3 _ _ e)),x1.s4⟩;have na:=d1.new a yO;have rd3:=(rd.go x3).putO (i:=n) (a:=a) (x:= .lst (ps.map λp=> .at (.ref p.1))) (.inl (rd.free0 na.1)) na.2 ⟨_,top',?_⟩ λj y hj z=>?_
   ·exact sr.h (h _ (by rw [yZ,ez,yZ])) (rd3.hide bt) (λε2 σ2 Hs2 H2 h2 rd2 g2=>k ε2 σ2 Hs2 H2 h2 rd2 (x1.s1.trans g2)) λy ε2 σ2 v Hs2 H2 h2 rd2 g2 rv=>rt y ε2 σ2 v Hs2 H2 h2 rd2 (x1.s1.trans g2) rv
   ·have:=Reps.ofAts (H:=Hs1) (ps.map λp=>V.ref p.1);rw [yr] at this;exact this
   ·obtain ⟨b,hb,_,_,tb⟩:=rd.ow j y hj;rw [z] at hb;injection hb with hb;injection hb with hb;injection hb with hb;subst hb;exact tb.there na.1
end Mi
namespace Lw
open PySem L2 Mi
variable{α:Type}{g h to:Nat}{rss:List (List Int)}{a:M}{Aa b p:Addr}{H:Hp}{j n:Int}{r:List Int}{vs:List V}{Q:VK}{E:XK}{ε:ME}{Av B0 B9 Ey:Tok}{q qual s x:Str}{l:PySem.W.OpenLaw}{ks:List z9}{xs:List PV}{x1 x2 y:PV}{σ:St}{u:MSlot}{m:Str×Int}{ms:List (Str×Int)}{ps:List Str}{st:Stmt}{cd ct dc oc pm:Value}{an od:Option Addr}{sl:Array (Option Value)}
variable {P:Program}{w:World}{K:Fg}{mg:Str->Option Value}{base:Heap}{f:Addr}{fd:FuncData}
theorem l0:0<=lim:=by decide
theorem l1:1<=lim:=by decide
theorem l2:2<=lim:=by decide
theorem l3:3<=lim:=by decide
theorem l4:4<=lim:=by decide
theorem l5:5<=lim:=by decide
theorem l6:6<=lim:=by decide
theorem l7:7<=lim:=by decide
theorem l8:8<=lim:=by decide
theorem l9:9<=lim:=by decide
structure qE (h:Nat)(rss:List (List Int)):Prop where
 len:rss.length=h+1
 row:∀ r∈rss,r.length=h/\∀ v∈r,0<=v/\v<10 ^ 30
def rin (rss:List (List Int))(f g:Int):Int:=((atI rss f).bind λr=>atI r g).getD 0
def xX (rss:List (List Int)):Int->List Int->Int
 |_,[]=>0
 |f,h::r=>rin rss f h+xX rss h r
abbrev Wy:=Int×List Int
variable{T:List (List Wy)}{onw ws:List Wy}
def zf (a b:Wy):Wy:=if b.1<a.1 then b else a
def xL (a b:Wy):Wy:=(a.1+b.1,a.2++b.2)
def thr (ws:List Wy)(k:Nat)(onw:List Wy):List Wy:=List.zipWith (λw m=>zf w (xL (ws.getD k (0,[])) m)) ws onw
def qq (T:List (List Wy))(k:Nat):List (List Wy):=T.map λrow=>thr row k (T.getD k [])
def xT (row:List Int):List Wy:=row.mapIdx λi v=>(v,[(i:Int)])
def c9 (rss:List (List Int)):Nat->List (List Wy)
 |0=>rss.map xT
 |k+1=>qq (c9 rss k) k
def y1 (T:List (List Wy))(f g:Nat):Wy:=(T.getD f []).getD g (0,[])
def jz (rss:List (List Int))(h:Nat):List (List Int):=(c9 rss h).map λrow=>row.map (·.1)
structure Shp (h:Nat)(T:List (List Wy)):Prop where
 len:T.length=h+1
 row:∀ r∈T,r.length=h
theorem i6 {l:List α}{i:Nat}{d:α}(h:i<l.length):l.getD i d=l[i]:=by rw [yE,yU h];rfl
theorem Shp.rowAt (S:Shp h T){f:Nat}(hf:f<=h):(T.getD f []).length=h:=by
 have hl:f<T.length:=by have:=S.len;omega
 rw [i6 hl];exact S.row _ (yz hl)
theorem UE {k:Nat}(h:ws.length=onw.length):(thr ws k onw).length=ws.length:=by unfold thr;rw [List.length_zipWith,h,Nat.min_self]
theorem Shp.step (S:Shp h T){k:Nat}(hk:k<h):Shp h (qq T k):=by refine ⟨by unfold qq;rw [yZ];exact S.len,λr hr=>?_⟩;unfold qq at hr;obtain ⟨row,hm,rfl⟩:=yq.mp hr;have e1:=S.row row hm;rw [UE (by rw [e1,S.rowAt (by omega)]),e1]
theorem vg (S:Shp h T){k f:Nat}(hk:k<h)(hf:f<=h)(hg:g<h):y1 (qq T k) f g=zf (y1 T f g) (xL (y1 T f k) (y1 T k g)):=by
 have hl:f<T.length:=by have:=S.len;omega
 have hl2:f<(qq T k).length:=by unfold qq;rw [yZ];exact hl
 have e1:(qq T k).getD f []=thr (T.getD f []) k (T.getD k []):=by unfold qq;rw [i6 (by rw [yZ];exact hl),List.getElem_map,i6 hl]
 have r1:=S.rowAt hf;have r2:=S.rowAt (f:=k) (by omega);unfold y1;rw [e1,i6 (by rw [UE (by rw [r1,r2])];omega),i6 (l:=T.getD f []) (i:=g) (by omega),i6 (l:=T.getD k []) (i:=g) (by omega)];unfold thr;rw [List.getElem_zipWith]
theorem Shp.start (G:qE h rss):Shp h (c9 rss 0):=by refine ⟨by show (rss.map xT).length=_;rw [yZ];exact G.len,λr hr=>?_⟩;obtain ⟨row,hm,rfl⟩:=yq.mp hr;unfold xT;rw [List.length_mapIdx];exact (G.row row hm).1
theorem Shp.all {h:Nat}{rss:List (List Int)}(G:qE h rss):∀ k,k<=h->Shp h (c9 rss k)
 |0,_=>Shp.start G
 |k+1,hk=>(Shp.all G k (by omega)).step (by omega)
theorem Zx (G:qE h rss){f:Nat}(hf:f<=h)(hg:g<h):rin rss (f:Int) (g:Int)=(rss.getD f []).getD g 0:=by
 have hl:f<rss.length:=by have:=G.len;omega
 have e1:atI rss (f:Int)=some rss[f]:=qX (yU hl);have hg2:g<rss[f].length:=by rw [(G.row _ (yz hl)).1];exact hg
 have e2:atI rss[f] (g:Int)=some rss[f][g]:=qX (yU hg2);unfold rin;rw [e1];show (atI rss[f] (g:Int)).getD 0=_;rw [e2,i6 hl,i6 hg2];rfl
theorem Ql (G:qE h rss){f:Nat}(hf:f<=h)(hg:g<h):y1 (c9 rss 0) f g=(rin rss (f:Int) (g:Int),[(g:Int)]):=by
 have hl:f<rss.length:=by have:=G.len;omega
 have hl2:f<(rss.map xT).length:=by rw [yZ];exact hl
 have hg2:g<rss[f].length:=by rw [(G.row _ (yz hl)).1];exact hg
 rw [Zx G hf hg];unfold y1;show ((rss.map xT).getD f []).getD g (0,[])=_;rw [i6 hl2,List.getElem_map,i6 (by unfold xT;rw [List.length_mapIdx];exact hg2),i6 hl,i6 hg2];unfold xT;rw [List.getElem_mapIdx]
theorem Dj (G:qE h rss){f:Nat}(hf:f<=h)(hg:g<h):0<=rin rss (f:Int) (g:Int):=by
 have hl:f<rss.length:=by have:=G.len;omega
 have hg2:g<rss[f].length:=by rw [(G.row _ (yz hl)).1];exact hg
 rw [Zx G hf hg,i6 hl,i6 hg2];exact ((G.row _ (yz hl)).2 _ (yz hg2)).1
theorem UV {rss:List (List Int)}:∀{xs ys:List Int}{f g:Int},xs.getLast?=some g->xX rss f (xs++ys)=xX rss f xs+xX rss g ys
 |[],_,_,_,e=>by simp at e
 |[x],ys,f,g,e=>by
  have e':x=g:=by simpa using e
  subst e';show rin rss f x+xX rss x ys=rin rss f x+0+xX rss x ys;omega
 |x::y::r,ys,f,g,e=>by
  have q:=UV (rss:=rss) (xs:=y::r) (ys:=ys) (f:=x) (g:=g) (by simpa [List.getLast?_cons_cons] using e);show rin rss f x+xX rss x (y::r++ys)=rin rss f x+xX rss x (y::r)+xX rss g ys;rw [q];omega
structure WayOk (rss:List (List Int))(h:Nat)(f g:Nat)(w:Wy):Prop where
 sum:w.1=xX rss (f:Int) w.2
 last:w.2.getLast?=some (g:Int)
 ok:∀ x∈w.2,0<=x/\x<(h:Int)
structure FW (rss:List (List Int))(h k:Nat)(T:List (List Wy)):Prop where
 way:∀ f g,f<=h->g<h->WayOk rss h f g (y1 T f g)
 pos:∀ f g,f<=h->g<h->0<=(y1 T f g).1
 le:∀ f g,f<=h->g<h->(y1 T f g).1<=rin rss (f:Int) (g:Int)
 tri:∀ j f g,j<k->f<=h->g<h->(y1 T f g).1<=(y1 T f j).1+(y1 T j g).1
 len:∀ f g,f<=h->g<h->(y1 T f g).2.length<=2 ^ k
theorem vn (a b:Wy):(zf a b=a/\a.1<=b.1)∨(zf a b=b/\b.1<a.1):=by
 unfold zf;by_cases h:b.1<a.1
 ·rw [if_pos h];exact .inr ⟨rfl,h⟩
 ·rw [if_neg h];exact .inl ⟨rfl,by omega⟩
theorem Bw (a b:Wy):(zf a b).1<=a.1/\(zf a b).1<=b.1:=by
 rcases vn a b with ⟨e,q⟩|⟨e,q⟩
 ·rw [e];exact ⟨Int.le_refl _,q⟩
 ·rw [e];exact ⟨Int.le_of_lt q,Int.le_refl _⟩
theorem WayOk.join {f k:Nat}{a b:Wy}(x:WayOk rss h f k a)(y:WayOk rss h k g b):WayOk rss h f g (xL a b):=by
 refine ⟨?_,?_,λz hz=>?_⟩
 ·show a.1+b.1=xX rss f (a.2++b.2);rw [UV x.last,x.sum,y.sum]
 ·show (a.2++b.2).getLast?=_;rw [List.getLast?_append,y.last];rfl
 ·rcases yk.mp hz with q|q
  ·exact x.ok z q
  ·exact y.ok z q
theorem FW.start (G:qE h rss):FW rss h 0 (c9 rss 0):=by
 refine ⟨λf g hf hg=>?_,λf g hf hg=>?_,λf g hf hg=>?_,λj f g hj=>absurd hj (by omega),λf g hf hg=>?_⟩
 ·rw [Ql G hf hg];refine ⟨?_,rfl,λx hx=>?_⟩
  ·show rin rss f g=rin rss f g+0;omega
  ·have e:x=(g:Int):=by simpa using hx
   rw [e];omega
 ·rw [Ql G hf hg];exact Dj G hf hg
 ·rw [Ql G hf hg];exact Int.le_refl _
 ·rw [Ql G hf hg];exact yS 1
theorem FW.step {k:Nat}(S:Shp h T)(x:FW rss h k T)(hk:k<h):FW rss h (k+1) (qq T k):=by
 have kl:k<=h:=by omega
 have toK:∀ f,f<=h->(y1 (qq T k) f k).1=(y1 T f k).1:=λf hf=>by
  rw [vg S hk hf hk];rcases vn (y1 T f k) (xL (y1 T f k) (y1 T k k)) with ⟨e,q⟩|⟨e,q⟩
  ·rw [e]
  ·have p:=x.pos k k kl hk;have q':(y1 T f k).1+(y1 T k k).1<(y1 T f k).1:=q;omega
 have ofK:∀ g,g<h->(y1 (qq T k) k g).1=(y1 T k g).1:=λg hg=>by
  rw [vg S hk kl hg];rcases vn (y1 T k g) (xL (y1 T k k) (y1 T k g)) with ⟨e,q⟩|⟨e,q⟩
  ·rw [e]
  ·have p:=x.pos k k kl hk;have q':(y1 T k k).1+(y1 T k g).1<(y1 T k g).1:=q;omega
 have bound:∀ f g,f<=h->g<h->(y1 (qq T k) f g).1<=(y1 T f g).1/\(y1 (qq T k) f g).1<=(y1 T f k).1+(y1 T k g).1:=λf g hf hg=>by
  rw [vg S hk hf hg];exact Bw _ _
 have alt:∀ f g,f<=h->g<h->(y1 (qq T k) f g).1=(y1 T f g).1∨(y1 (qq T k) f g).1=(y1 T f k).1+(y1 T k g).1:=λf g hf hg=>by
  rw [vg S hk hf hg];rcases vn (y1 T f g) (xL (y1 T f k) (y1 T k g)) with ⟨e,q⟩|⟨e,q⟩
  ·rw [e];exact .inl rfl
  ·rw [e];exact .inr rfl
 refine ⟨λf g hf hg=>?_,λf g hf hg=>?_,λf g hf hg=>Int.le_trans (bound f g hf hg).1 (x.le f g hf hg),λj f g hj hf hg=>?_,λf g hf hg=>?_⟩
 ·rw [vg S hk hf hg];rcases vn (y1 T f g) (xL (y1 T f k) (y1 T k g)) with ⟨e,_⟩|⟨e,_⟩
  ·rw [e];exact x.way f g hf hg
  ·rw [e];exact (x.way f k hf hk).join (x.way k g kl hg)
 ·rcases alt f g hf hg with e|e
  ·rw [e];exact x.pos f g hf hg
  ·rw [e];have p1:=x.pos f k hf hk;have p2:=x.pos k g kl hg;omega
 ·by_cases hjk:j=k
  ·subst hjk;rw [toK f hf,ofK g hg];exact (bound f g hf hg).2
  ·have hj':j<k:=by omega
   have jl:j<=h:=by omega
   have jh:j<h:=by omega
   have b:=bound f g hf hg;have t1:=x.tri j f g hj' hf hg;have t2:=x.tri j f k hj' hf hk;have t3:=x.tri j k g hj' kl hg;have t4:=x.pos k j kl jh;have t5:=x.pos j k jl hk;rcases alt f j hf jh with e1|e1<;>rcases alt j g jl hg with e2|e2<;>rw [e1,e2]<;>omega
 ·rw [vg S hk hf hg];have e:2 ^ (k+1)=2 ^ k+2 ^ k:=by rw [Nat.pow_succ];omega
  rcases vn (y1 T f g) (xL (y1 T f k) (y1 T k g)) with ⟨q,_⟩|⟨q,_⟩
  ·rw [q];have:=x.len f g hf hg;omega
  ·rw [q];have a1:=x.len f k hf hk;have a2:=x.len k g kl hg;show ((y1 T f k).2++(y1 T k g).2).length<=_;rw [yL];omega
theorem FW.all {h:Nat}{rss:List (List Int)}(G:qE h rss):∀ k,k<=h->FW rss h k (c9 rss k)
 |0,_=>FW.start G
 |k+1,hk=>FW.step (Shp.all G k (by omega)) (FW.all G k (by omega)) (by omega)
theorem BB (G:qE h rss):qE h (jz rss h):=by
 have S:=Shp.all G h (yS _);have F:=FW.all G h (yS _);refine ⟨by unfold jz;rw [yZ];exact S.len,λr hr=>?_⟩;unfold jz at hr;obtain ⟨row,hm,rfl⟩:=yq.mp hr;refine ⟨by rw [yZ];exact S.row row hm,λv hv=>?_⟩;obtain ⟨w,hw,rfl⟩:=yq.mp hv;obtain ⟨f,hf,rfl⟩:=uI hm;obtain ⟨g,hg,rfl⟩:=uI hw;have hf':f<=h:=by have:=S.len;omega
 have hg':g<h:=by rw [<- S.row _ hm];exact hg
 have e:y1 (c9 rss h) f g=(c9 rss h)[f][g]:=by unfold y1;rw [i6 hf,i6 hg]
 have p:=F.pos f g hf' hg';have l:=F.le f g hf' hg';rw [e] at p l;refine ⟨p,Int.lt_of_le_of_lt l ?_⟩;have hl:f<rss.length:=by have:=G.len;omega
 have hg2:g<rss[f].length:=by rw [(G.row _ (yz hl)).1];exact hg'
 rw [Zx G hf' hg',i6 hl,i6 hg2];exact ((G.row _ (yz hl)).2 _ (yz hg2)).2
theorem Ym {α:Type}[DecidableEq α]:∀{ms left:List α},ms.Nodup->(∀ x∈ms,x∈left)->ms.length<=left.length
 |[],_,_,_=>yh _
 |x::r,left,hn,hs=>by
  have hn':=yF.mp hn;have q:=Ym (ms:=r) (left:=left.erase x) hn'.2 (λy hy=>(List.mem_erase_of_ne (λe=>hn'.1 (by rw [e] at hy;exact hy))).mpr (hs y (yT _ hy)));have hx:=hs x yO;rw [List.length_erase_of_mem hx] at q;have pos:0<left.length:=List.length_pos_of_mem hx;show r.length+1<=_;omega
def top (i:Nat):Stmt:=PySem.Challenge.pw_rinsework_k66_tray_moves_walked.main.body.getD i (.Pass ⟨0,0,0,0⟩)
abbrev Je:Stmt:=top 55
abbrev Xd:Stmt:=top 56
abbrev ZN:Stmt:=top 57
theorem Jv (h:H p=none)(o:HO):Same H (z8 H p o):=λb u q=>by rw [j3 (u9 q h)];exact q
theorem sizes {n:Nat}(h:n<=1000):n<=sizeLine:=uT (vD h)
def Jz:Sp:=λvs H Q _=>∃ c k:Int,vs=[.int c,.int k]/\0<=k/\k<=100/\∀ v:Int,0<=v->v<2147483648->Q (.int v) H
def Uq (K:Fg):Sp:=λvs H Q _=>∃(a:Addr)(ns:List Int)(k:Int),vs=[.ref a,.int k]/\SqL K H a (ns.map V.int)/\ns.length<=63/\0<=k/\k<=12 /\
 ∀(r:Addr)(n:Int)(H':Hp),H r=none->Same H H'->H' r=some (.lst [.int n])->Q (.ref r) H'
section
theorem sc_digit:v9 ["row","many","digit"] ["row","many"] (j8 ZN):=y9
theorem Pc (F:Fun K "_law_digit" "_law_digit" ZN f fd):FnOk P w K mg base v5 1 f fd ["row","many"] xS:=by
 refine F.ok sc_digit (λvs H Q E h=>?_) (λcdv A outer s H vs Q E hr h=>?_)
 ·obtain ⟨a,n,m,rfl,_⟩:=h;rfl
 obtain ⟨a,n,m,rfl,hH,hm,q⟩:=h;refine ⟨_,(j5 (o7 (i:=2) sc_digit.nd rfl (Or.inl rfl) (y6 jF (QV (XS (K:=K) rfl) (pv 0) z7 (λ_ _=>rfl)) (pv 1)))
  (j5 (CN (y6 Yn (QV (XS (K:=K) rfl) (pv 0) z7 (λ_ _=>rfl)) (pv 1)) (Cz (pv 0) z7 DW))
  (j7 (w9 (pv 2))))),?_⟩
 refine ⟨_,rfl,a,_,0,_,rfl,rfl,SqL.of hH,rfl,_,rfl,n,m,rfl,rfl,hm.1,?_⟩;refine ⟨_,rfl,a,_,0,_,rfl,rfl,SqL.of hH,rfl,_,rfl,n,m,rfl,rfl,hm,?_⟩;refine ⟨_,rfl,a,_,0,0,rfl,rfl,hH,rfl,?_⟩;exact ⟨_,rfl,q⟩
theorem sc_mixed:v9 ["cell","k","stir"] ["cell","k"] (j8 Je):=y9
theorem Pw (F:Fun K "_law_mixed" "_law_mixed" Je f fd):FnOk P w K mg base v5 1 f fd ["cell","k"] Jz:=by
 refine F.ok sc_mixed (λvs H Q E h=>?_) (λcdv A outer s H vs Q E hr h=>?_)
 ·obtain ⟨c,k,rfl,_⟩:=h;rfl
 obtain ⟨c,k,rfl,k0,k1,q⟩:=h;refine ⟨_,(j5 (o7 (i:=2) sc_mixed.nd rfl (Or.inl rfl) (y6 jF (y6 vx (y6 op_add (y6 op_add (y6 jF (pv 0) z7) (y6 vx z7 (pv 1))) z7) z7) z7))
  (j7 (w9 (y6 jF (y6 vx (y6 jF (y6 vx (pv 2) (pv 2)) z7) z7) z7)))),?_⟩
 refine ⟨_,rfl,_,_,rfl,rfl,(by show (0:Int)<1000000007;decide),_,rfl,_,_,rfl,rfl,.inl ⟨by decide,by decide⟩,_,_,rfl,rfl,_,_,rfl,rfl,_,_,rfl,rfl,.inr ⟨by decide,by decide⟩,_,_,rfl,rfl,(by show (0:Int)<2147483647;decide),?_⟩;generalize hone:(c % 1000000007+7919*k+1)*48271 % 2147483647=one;have o0:0<=one:=by rw [<- hone];exact yj _ (by decide)
 have o1:one<2147483647:=by rw [<- hone];exact yp _ (by decide)
 refine ⟨_,rfl,_,rfl,_,_,rfl,rfl,.inl ⟨by omega,by omega⟩,_,_,rfl,rfl,(by show (0:Int)<2147483629;decide),_,_,rfl,rfl,.inr ⟨by decide,by decide⟩,_,_,rfl,rfl,(by show (0:Int)<2147483647;decide),?_⟩;exact q _ (yj _ (by decide)) (Int.lt_trans (yp _ (by decide)) (by decide))
end
def MM:Int:=10 ^ (60:Int).toNat
theorem wY:0<MM:=by decide +kernel
theorem Wg:zI 10 60:=⟨by decide,by decide,by decide⟩
theorem Wf:zI 10 18:=⟨by decide,by decide,by decide⟩
theorem Gj:Builtin.Int.intBits MM<=2 ^ 20:=by decide +kernel
theorem Mg {M c r:Int}{i:Nat}(hM:0<M)(h0:0<=c)(h:c<M ^ i)(r0:0<=r)(r1:r<M):0<=c*M+r/\c*M+r<M ^ (i+1):=by
 have e:M ^ (i+1)=M ^ i*M:=Int.pow_succ M i;have h1:(c+1)*M<=M ^ i*M:=uJ (by omega) (Int.le_of_lt hM);have h2:(c+1)*M=c*M+M:=by rw [Int.add_mul,Int.one_mul]
 have h3:0<=c*M:=Int.mul_nonneg h0 (Int.le_of_lt hM);rw [e];omega
theorem Ga:∀ i:_root_.Fin 14,(MM ^ (i:Nat)).toNat<2 ^ 2700:=by decide +kernel
theorem Gk {c:Int}{i:Nat}(hi:i<=13)(h0:0<=c)(h:c<MM ^ i):Builtin.Int.intBits c<=2 ^ 20:=by
 obtain ⟨n,rfl⟩:=yg h0;have q:=Ga ⟨i,by omega⟩;have q2:n<2 ^ 2700:=by have q':(MM ^ i).toNat<2 ^ 2700:=q;omega
 exact yf (PyProof.Rows.intBits_le (by rw [Int.natAbs_natCast];exact q2)) (by decide)
theorem Dm:∀ i:_root_.Fin 13,∀ j:_root_.Fin 64,Builtin.Range.small ((i:Nat):Int) ((j:Nat):Int) 5=true:=by decide +kernel
theorem Zz {i:Int}:Builtin.Range.rangeSize i j 5=if i<j then (j-i-1) / 5+1 else 0:=rfl
theorem Dl {i:Int}(h0:0<=i)(h1:i<=12)(h2:0<=j)(h3:j<=63):0<=Builtin.Range.rangeSize i j 5/\Builtin.Range.small i j 5=true/\zE i j 5<=13/\∀ t:Nat,t<zE i j 5->i+t*5<j:=by
 refine ⟨?_,?_,?_,λt ht=>?_⟩
 ·rw [Zz];split<;>omega
 ·have q:=Dm ⟨i.toNat,by omega⟩ ⟨j.toNat,by omega⟩;have e1:((i.toNat:Nat):Int)=i:=by omega
  have e2:((j.toNat:Nat):Int)=j:=by omega
  have q':Builtin.Range.small ((i.toNat:Nat):Int) ((j.toNat:Nat):Int) 5=true:=q;rw [e1,e2] at q';exact q'
 ·unfold zE;rw [Zz];split<;>omega
 ·unfold zE at ht;rw [Zz] at ht;split at ht<;>omega
theorem Gf {ns:List Int}{k:Int}(h0:0<=k)(h:k<(ns.length:Int)):∃ v:Int,atI (ns.map V.int) k=some (.int v):=by
 have hk:k.toNat<ns.length:=by omega
 have ek:k=((k.toNat:Nat):Int):=by omega
 have q:atI (ns.map V.int) ((k.toNat:Nat):Int)=some (.int ns[k.toNat]):=qX (by rw [yV,yU hk]<;>rfl);rw [<- ek] at q;exact ⟨_,q⟩
section
theorem sc_stream:v9 ["script","k","cell","j","found"] ["script","k"] (j8 Xd):=y9
theorem PL (F:Fun K "_law_stream" "_law_stream" Xd f fd)(D5:Fn P w K mg base 1 "_law_mixed" ["cell","k"] Jz)(Ac:mg "len"=none)(Ae:mg "range"=none)(D9:mg "sum"=none):FnOk P w K mg base v5 2 f fd ["script","k"] (Uq K):=by
 refine F.ok sc_stream (λvs H Q E h=>?_) (λcdv A outer s H vs Q E hr h=>?_)
 ·obtain ⟨a,ns,k,rfl,_⟩:=h;rfl
 obtain ⟨a,ns,k,rfl,hS,h63,k0,k1,q⟩:=h;refine ⟨_,(j5 (o7 (i:=2) sc_stream.nd rfl (Or.inl rfl) z7)
  (j5 (xu PassesOwn.never rfl (CD rfl Ae (j6 (pv 1) (j6 (u5 (VW (K:=K) rfl) rfl Ac PySem.boot_len (j6 (pv 0) y2)) (j6 z7 y2)))) (gW 3 sc_stream.nd)
   (j7 (o7 (i:=2) sc_stream.nd rfl (Or.inl rfl) (y6 op_add (y6 QQ (pv 2) (y6 vy z7 z7)) (y6 jF (QV (XS (K:=K) rfl) (pv 0) (pv 3) (λ_ _=>rfl)) (y6 vy z7 z7))))))
  (j5 (p6 (c3 QN (pv 2) (y6 vy z7 z7) (k7 _)) (j7 (w9 (xg (j6 (pv 2) y2)))) p9)
  (j5 (o7 (i:=2) sc_stream.nd rfl (Or.inl rfl) (y6 op_add (pv 2) (u5 (GJ (K:=K) rfl rfl) rfl D9 VV (j6 (o5 (N':=["one"]) (cap:=[none]) (b7 rfl rfl rfl) rfl (p5 (K:=K) rfl (pv 0)) (λ_ _ _ _ _ _=>(g9 (i:=0) (by show (["one"]:List Str).Nodup;decide +kernel) rfl (Or.inl rfl))) (λ_ _ _ _ _ _=>c6) (λ_ _ _ _ _ _=>(y6 jF (pv 0) (y6 vy z7 z7)))) y2))))
  (j5 (o7 (i:=4) sc_stream.nd rfl (Or.inl rfl) z7)
  (j5 (xu PassesOwn.never rfl (zZ rfl Ae (j6 z7 y2)) (gW 3 sc_stream.nd)
   (j7 (o7 (i:=4) sc_stream.nd rfl (Or.inl rfl) (y6 op_add (y6 vx (pv 4) z7) (fW D5 hr (j6 (y6 op_add (y6 op_add (pv 2) (y6 vx z7 (pv 1))) (u5 (VW (K:=K) rfl) rfl Ac PySem.boot_len (j6 (pv 0) y2))) (j6 (pv 3) y2)))))))
  (j7 (w9 (xg (j6 (y6 Yn (pv 4) z7) y2)))))))))),?_⟩
 have hl:(((ns.map V.int).length:Nat):Int)=(ns.length:Int):=by rw [yZ]
 obtain ⟨z1,z2,z3,z4⟩:=Dl (i:=k) (j:=(((ns.map V.int).length:Nat):Int)) k0 k1 (by omega) (by omega);refine ⟨_,rfl,_,rfl,a,_,rfl,.inl hS,k,_,5,rfl,⟨by decide,by decide⟩,z1,z2,Kq (λi σ H2=>∃(c:Int)(j:Option V),σ=[some (.ref a),some (.int k),some (.int c),j,none]/\H2=H/\0<=c/\c<MM ^ i)
  ⟨0,none,rfl,rfl,Int.le_refl 0,by decide⟩ ?_ ?_⟩
 ·rintro i σ H2 hi ⟨c,j,rfl,rfl,c0,c1⟩;obtain ⟨v,hv⟩:=Gf (ns:=ns) (k:=k+i*5) (by omega) (by have:=z4 i hi;omega);refine ⟨_,rfl,_,_,rfl,rfl,Wg,_,_,rfl,rfl,⟨Gk (by omega) c0 c1,Gj⟩,_,rfl,_,rfl,a,_,_,_,rfl,rfl,hS,hv,
   _,_,rfl,rfl,Wg,_,_,rfl,rfl,wY,_,_,rfl,rfl,?_⟩
  have sb:=Mg (i:=i) wY c0 c1 (yj v (Ne.symm (Int.ne_of_lt wY))) (yp v wY);exact ⟨_,_,rfl,rfl,sb.1,sb.2⟩
 ·rintro σ H2 ⟨c,j,rfl,rfl,c0,c1⟩;refine ⟨_,rfl,_,_,rfl,rfl,Wf,_,_,rfl,rfl,_,rfl,ite2 (λ_=>?_) (λ_=>?_)⟩
  ·refine ⟨_,rfl,(by show 1<=sizeLine;decide),λp hp=>?_⟩;exact q p c _ hp (Jv hp _) w6
  ·refine ⟨_,rfl,_,rfl,a,rfl,⟨_,hS⟩,We (K:=K) (a:=a) (xs:=ns.map V.int) (λi ys H3=>H3=H2/\∃ ms:List Int,ys=ms.map V.int/\ms.length=i) ⟨rfl,[],rfl,rfl⟩ ?_ ?_ ?_ ?_⟩
   ·rintro i ys H3 hi ⟨_,ms,rfl,rfl⟩;rw [yZ] at hi ⊢;exact sizes (by omega)
   ·rintro i ys H3 hi ⟨rfl,_⟩;exact hS
   ·rintro i x ys H3 R hx ⟨rfl,ms,rfl,rfl⟩ hR;rw [yV] at hx;obtain ⟨v,hv,rfl⟩:=yK.mp hx;refine ⟨Wk.one rfl,⟨_,rfl,_,_,rfl,rfl,Wf,_,_,rfl,rfl,(by show (0:Int)<10 ^ (18:Int).toNat;decide),?_⟩⟩;exact hR _ _ ⟨rfl,ms++[_],by rw [yB];rfl,by rw [yL];rfl⟩
   ·rintro ys H3 ⟨rfl,ms,rfl,_⟩ D hD;refine ⟨D,ms,rfl,SqL.of w6,_,_,rfl,rfl,?_⟩;have g1:Same H3 (z8 H3 D (.lst (ms.map V.int))):=Jv hD _;refine ⟨12,rfl,by decide,by decide,WJ (n:=12) (λi σ H4=>∃(f:Int)(j:Option V),σ=[some (.ref a),some (.int k),some (.int (c+ms.sum)),j,some (.int f)]/\H4=z8 H3 D (.lst (ms.map V.int))) ⟨0,_,rfl,rfl⟩ ?_ ?_⟩
    ·rintro i σ H4 hi ⟨f,j,rfl,rfl⟩;refine ⟨_,rfl,_,_,rfl,rfl,.inr ⟨by decide,by decide⟩,_,rfl,_,rfl,_,_,rfl,rfl,.inl ⟨by decide,by decide⟩,_,_,rfl,rfl,_,rfl,a,_,rfl,.inl (g1.seq hS),_,_,rfl,rfl,_,rfl,_,_,rfl,by omega,by omega,λv v0 v1=>?_⟩;exact ⟨_,_,rfl,rfl,_,_,rfl,rfl⟩
    ·rintro σ H4 ⟨f,j,rfl,rfl⟩;refine ⟨_,rfl,_,_,rfl,rfl,⟨by decide,by decide +kernel⟩,(by show 1<=sizeLine;decide),λp hp=>?_⟩;exact q p (f / 64) _ (g1.free hp) (g1.trans (Jv hp _)) w6
end
def jK (K:Fg):List PV->Prop:=λxs=>∃(ns:List Int)(k:Int),xs=[scr K ns,.at (.int k)]/\ns.length<=63/\0<=k/\k<=12
def jm:List PV->PV->Prop:=λ_ y=>∃ n:Int,y = .lst [.at (.int n)]
theorem Mh {K:Fg}(h:spN (jK K) jm vs H Q E):Uq K vs H Q E:=by obtain ⟨Hs,xs,sm,r,⟨ns,k,rfl,h63,k0,k1⟩,q⟩:=h;obtain ⟨v,w,rfl,p1,p2⟩:=reps_cons.mp r;obtain ⟨u,z,rfl,p3,p4⟩:=reps_cons.mp p2;cases reps_nil.mp p4;cases rep_at.mp p3;obtain ⟨a,rfl,hS⟩:=DR sm p1;exact ⟨a,ns,k,rfl,hS,h63,k0,k1,λb n H' nb g e=>q _ b Hs H' ⟨n,rfl⟩ ⟨.refl _,g,sm.trans g,λ_ _ z=>z⟩ nb (sm.free nb) ⟨_,e,.one (rep_at.mpr rfl)⟩⟩
section
theorem PK (F:Fun K "_law_stream" "_law_stream" Xd f fd)(D5:Fn P w K mg base 1 "_law_mixed" ["cell","k"] Jz)(Ac:mg "len"=none)(Ae:mg "range"=none)(D9:mg "sum"=none):FnOk P w K mg base v5 2 f fd ["script","k"] (spN (jK K) jm):=(PL F D5 Ac Ae D9).imp λ_ _ _ _ h=>Mh h
end
def n8:Int:=10 ^ 30
theorem Bz {k:Int}(h0:0<=k)(h1:k<=2*n8):k.natAbs.log2<9000:=by
 have hb:(2*n8).toNat<2 ^ 9000:=yy (show (2*n8).toNat<2 ^ 110 by decide +kernel) (Nat.pow_le_pow_right (by decide) (by decide));have:k.natAbs<2 ^ 9000:=by omega
 by_cases hz:k.natAbs=0
 ·rw [hz];decide
 ·exact (Nat.log2_lt hz).mpr this
theorem za {k:Int}(h0:0<k)(h1:k<=2*n8):vG n k:=⟨h0,Bz (by omega) h1⟩
theorem zH:(1000:Int)<=n8:=by decide +kernel
def t6 (rss:List (List Int)):PV:= .lst (rss.map λr=> .lst (r.map λn=> .at (.int n)))
theorem vC {a:MA}{k:Nat}(h:a ε=some [.at (.int (k:Int))])(hk:k<=lim):xJ a ε=some (qQ 0 k):=by have hlim:(lim:Int)=1000000:=rfl;have hl:lim=1000000:=rfl;unfold xJ;rw [h];show (if -(lim:Int)<=(k:Int)/\(k:Int)<=(lim:Int) then some (qQ 0 (k:Int).toNat) else none)=_;rw [if_pos ⟨by omega,by omega⟩,uR]
def y3 (ss:List Str):List PV:=ss.map λs=> .at (.str s)
theorem qS (ss:List Str):(y3 ss).length=ss.length:=yZ _
def Low (x:Str):Prop:=∀ c∈x.cps.toList,97<=c/\c<=122
structure jV (x:Str):Prop where
 low:Low x
 one:1<=x.length
 eight:x.length<=8
 nq:x ≠ "qx"
theorem JU:∀ ss:List Str,ats (y3 ss)=some (ss.map V.str)
 |[]=>rfl
 |s::ss=>by
  show (ats (y3 ss)).map (V.str s::·)=_;rw [JU ss];rfl
theorem WL (x:Str):∀ ss:List Str,inV (.str x) (ss.map V.str)=decide (x∈ss)
 |[]=>by simp [inV]
 |s::ss=>by
  have ih:=WL x ss;unfold inV at ih ⊢;rw [yN,List.any_cons,ih];have e:h8 (.str s) (.str x)=decide (s=x):=rfl;rw [e];by_cases h:s=x
  ·subst h;simp
  ·simp [h,Ne.symm h]
theorem Kp (ss:List Str):(ss.map V.str).all u4=true:=by rw [uY];intro v hv;obtain ⟨s,_,rfl⟩:=yq.mp hv;rfl
theorem XN (neg:Bool)(x:Str)(ss:List Str):pIn neg (.at (.str x)) (.lst (y3 ss))=some (.at (.bl (if neg then !decide (x∈ss) else decide (x∈ss)))):=by show (ats (y3 ss)).bind _=_;rw [JU,yI,if_pos ⟨rfl,Kp ss⟩,WL]
structure Cl where
 name:Str
 hue:Nat
 len:Int
 due:Int
 wt:Int
variable{c:Cl}{cs ns:List Cl}{T':List (List Cl)}
def Cl.pv (c:Cl):PV:= .tup [.at (.str c.name),.at (.int c.hue),.at (.int c.len),.at (.int c.due),.at (.int c.wt)]
structure Cl.Ok (h:Nat)(c:Cl):Prop where
 nm:jV c.name
 hu:c.hue<h
 l1:1<=c.len
 l2:c.len<=n8
 d1:-n8<=c.due
 d2:c.due<=n8
 w1:1<=c.wt
 w2:c.wt<=n8
theorem Ze {α β:Type}{f:α->β}(hf:∀ x y,f x=f y->x=y):∀{a b:List α},a.map f=b.map f->a=b
 |[],[],_=>rfl
 |[],_::_,h=>by cases h
 |_::_,[],h=>by cases h
 |x::a,y::b,h=>by
  rw [yN,yN] at h;injection h with h1 h2;rw [hf x y h1,Ze hf h2]
theorem Ml {a b:List Str}(h:y3 a=y3 b):a=b:=Ze (λx y e=>by injection e with e;injection e) h
theorem Xx {α β:Type}(f:α->β):∀(l:List α)(i:Nat),(l.map f).eraseIdx i=(l.eraseIdx i).map f
 |[],_=>rfl
 |_::_,0=>rfl
 |x::l,i+1=>by simp [Xx f l i]
theorem Zn {α:Type}:∀{ss:List α}{j:Nat}(h:j<ss.length),(ss[j]::ss.eraseIdx j).Perm ss
 |x::ss,0,_=>List.Perm.refl _
 |x::ss,j+1,h=>by
  have hj:j<ss.length:=by simpa using h
  have ih:=Zn hj;show (ss[j]::x::ss.eraseIdx j).Perm (x::ss);exact (List.Perm.swap _ _ _).trans (ih.cons x)
structure Dr where
 h:Nat
 rss:List (List Int)
 cls:List Cl
 last:Int
 time:Int
variable{d:Dr}
def Dr.pv (d:Dr):PV:= .tup [t6 d.rss,.lst (d.cls.map Cl.pv),.at (.int d.last),.at (.int d.time)]
structure Dr.Ok (d:Dr):Prop where
 h1:1<=d.h
 h4:d.h<=4
 rin:qE d.h d.rss
 ten:d.cls.length<=10
 cl:∀ c∈d.cls,c.Ok d.h
 nd:(d.cls.map Cl.name).Nodup
 l1:-1<=d.last
 l2:d.last<d.h
 t1:0<=d.time
 t2:d.time<60*n8
theorem CT {a b:Cl}(h:a.pv=b.pv):a=b:=by cases a;cases b;unfold Cl.pv at h;injection h with h;simp only [List.cons.injEq,PV.at.injEq,V.str.injEq,V.int.injEq] at h;obtain ⟨h1,h2,h3,h4,h5,_⟩:=h;have h2:=Int.ofNat.inj h2;subst h1 h2 h3 h4 h5;rfl
theorem Wo {e:Dr}(h:d.pv=e.pv):d.cls=e.cls:=by unfold Dr.pv at h;injection h with h;injection h with _ h;injection h with h _;injection h with h;exact Ze (λ_ _=>CT) h
def T26:Int:=10 ^ 26
def T27:Int:=10 ^ 27
theorem Ts:T27=10*T26/\n8=1000*T27/\1000<T26:=by decide +kernel
theorem pow26:pPow (.at (.int 10)) (.at (.int 26))=some (.at (.int T26)):=by show (if zI 10 26 then some (V.int (10 ^ (26:Int).toNat)) else none).map PV.at=_;rw [if_pos ⟨by decide,by decide,by decide⟩];rfl
theorem pow27:pPow (.at (.int 10)) (.at (.int 27))=some (.at (.int T27)):=by show (if zI 10 27 then some (V.int (10 ^ (27:Int).toNat)) else none).map PV.at=_;rw [if_pos ⟨by decide,by decide,by decide⟩];rfl
theorem VR (h0:-n8<=n)(h1:n<=n8):Builtin.Int.intBits n<=2 ^ 20:=by
 have hb:n8<2 ^ 120:=by decide +kernel
 exact yf (PyProof.Rows.intBits_le (k:=120) (by omega)) (by decide)
theorem Zg {a b:Int}(a0:-n8<=a)(a1:a<=n8)(b0:-n8<=b)(b1:b<=n8):wy (.at (.int a)) (.at (.int b))=some (.at (.int (a*b))):=by show (if vH a b then some (V.int (a*b)) else none).map PV.at=_;rw [if_pos ⟨VR a0 a1,VR b0 b1⟩];rfl
def xt:List PV->Prop:=λxs=>∃ b:Bool,xs=[.at (.bl b)]
def xC:List PV->PV->Prop:=λ_ y=>∃ n:Int,y = .at (.int n)/\0<=n/\n<10*T27
abbrev Ji:Stmt:=top 58
abbrev VA (K:Fg):WS:=(wSeq (p0 2 (s9 0 (wP (dC (.int 10)))))
  (wSeq (qC (wPT (p8 (x8 1))) (p0 2 (qm ql (wP (z6 wy (x8 2) (z6 pPow (dC (.int 10)) (dC (.int 27))))) (s9 0 (wP (dC (.int 3)))))) qW)
  (qu (wP (q9 2)))))
theorem sc_number:v9 ["row","great","number"] ["row","great"] (j8 Ji):=y9
theorem KD:∀ xs,xt xs->xs.length+1=(["row","great"]:List Str).length:=by rintro xs ⟨b,rfl⟩;rfl
theorem KL {K:Fg}:∀ xs n,xt xs->VA K (g7 n::xs.map .sh++List.replicate ((["row","great","number"]:List Str).length-(xs.length+1)) .no) (λ_=>False) λy ε=>xC xs y/\xz 0 ε:=by
 rintro xs n ⟨b,rfl⟩;have hB:=zH;obtain ⟨t1,t2,t3⟩:=Ts;refine ⟨⟨n,rfl⟩,_,rfl,n,10,rfl,rfl,⟨by decide,by decide⟩,?_⟩;have a0:0<=n % 10:=yj _ (by decide);have a1:n % 10<10:=yp _ (by decide);cases b with
 |false=>exact zm rfl ⟨_,rfl,⟨_,rfl,a0,by omega⟩,_,rfl⟩
 |true =>
  have b0:0<=n / 10 % 3:=yj _ (by decide);have b1:n / 10 % 3<3:=yp _ (by decide);refine jR rfl ⟨_,v8 rfl (v8 rfl rfl pow27) (Zg (a:=n % 10) (b:=T27) (by omega) (by omega) (by omega) (by omega)),⟨_,rfl⟩,_,rfl,n / 10,3,rfl,rfl,⟨by decide,by decide⟩,_,rfl,_,rfl,⟨_,rfl,?_,?_⟩,_,rfl⟩
  ·generalize n % 10=p at a0 a1 ⊢;have:=Int.mul_nonneg a0 (show 0<=T27 by omega);omega
  ·generalize n % 10=p at a0 a1 ⊢;have:p*T27<=9*T27:=uJ (by omega) (by omega);omega
theorem PB (F:Fun K "_law_number" "_law_number" Ji f fd)(Ad:Fn P w K mg base 1 "_law_digit" ["row","many"] xS):FnOk P w K mg base v5 2 f fd ["row","great"] (spD xt xC) :=
 okD (k:=1) (b:=VA K) F sc_number KD (λcdv A outer s H E hr=>⟨_,(@j5 _ _ _ _ _ (@o7 _ _ 2 _ _ _ _ sc_number.nd rfl (Or.inl rfl) (o6 Ad hr (by decide) rfl (@j6 _ _ _ _ _ (pv 0) (@j6 _ _ _ _ _ z7 y2 (by rfl)) (by rfl))) (by rfl) (.inl rfl))
  (@j5 _ _ _ _ _ (p6 (qf (K:=K) rfl (pv 1) (λ_=>rfl)) (@j7 _ _ _ (@o7 _ _ 2 _ _ _ _ sc_number.nd rfl (Or.inl rfl) (y6 (xc (K:=K) rfl) (y6 (QQ) (pv 2) (y6 (vy) z7 z7)) (o6 Ad hr (by decide) rfl (@j6 _ _ _ _ _ (pv 0) (@j6 _ _ _ _ _ z7 y2 (by rfl)) (by rfl)))) (by rfl) (.inl rfl))) p9)
  (@j7 _ _ _ (w9 (pv 2))))),
  (by repeat' first|infer_instance|(refine @Mi.instSemWSTSeqWSeq _ _ _ _ ?_ ?_)|(apply @Mi.instSemWSTForWForOfSemWIOfSemWG))⟩) KL
def zk (r:List Int):PV:= .lst (r.map λn=> .at (.int n))
def wG:List PV->Prop:=λxs=>∃(h:Nat)(b:Bool),xs=[.at (.int h),.at (.bl b)]/\1<=h/\h<=4
def jY:List PV->PV->Prop:=λxs y=>∃(h:Nat)(b:Bool)(rss:List (List Int)),xs=[.at (.int h),.at (.bl b)]/\y=t6 rss/\qE h rss
abbrev Jl:Stmt:=top 59
abbrev VD (K:Fg):WS:=(wSeq (p0 3 (s9 0 (wP (dC (.int 4)))))
  (wSeq (Xi 4 (qw x9))
  (wSeq (wFor (wIp (xJ (q8 (z6 ql (x8 1) (dC (.int 1))) x9))) (v3 5) (wSeq (p0 6 (je [none,some 0,some 2] [0] (wIp (xJ (q8 (q9 1) x9))) (v3 0) zG (qV 1 xt xC (y4 (wP (q9 2)) t9))))
  (wSeq (qC (wPT (dT (z6 qd (x8 3) (dC (.int 0))))) (p0 6 (wP (z6 pRep (qw (q8 (dC (.int 0)) x9)) (x8 1)))) qW)
  (wSeq (qC (wPT (dT (z6 qd (x8 3) (dC (.int 1))))) (p0 6 (je [none,some 0] [0] (wIp (y7 (q9 6))) (v3 0) zG (qm wy (wP (q9 0)) (s9 1 (wP (dC (.int 2))))))) qW)
  (jd 4 (wP (q9 6)))))))
  (wFz 4 (qu (wP (q9 4)))))))
theorem sc_rinses:v9 ["row","hues","great","way","found","first","numbers"] ["row","hues","great"] (j8 Jl):=y9
theorem KF:∀ xs,wG xs->xs.length+1=(["row","hues","great"]:List Str).length:=by rintro xs ⟨h,b,rfl,_⟩;rfl
structure va (h:Nat)(r:List Int):Prop where
 len:r.length=h
 lo:∀ v∈r,0<=v/\v<10 ^ 30
theorem KN {K:Fg}:∀ xs n,wG xs->VD K (g7 n::xs.map .sh++List.replicate ((["row","hues","great","way","found","first","numbers"]:List Str).length-(xs.length+1)) .no) (λ_=>False) λy ε=>jY xs y/\xz 0 ε:=by
 rintro xs n ⟨h,b,rfl,h1,h4⟩;have hl:lim=1000000:=rfl;obtain ⟨t1,t2,t3⟩:=Ts;have eB:n8=10 ^ 30:=rfl;refine ⟨⟨n,rfl⟩,_,rfl,n,4,rfl,rfl,⟨by decide,by decide⟩,_,rfl,?_⟩;generalize n % 4=way;generalize n / 4=n1;refine ⟨qQ 0 (h+1),vC rfl (by omega),?_⟩;refine Qz (λrest ε=>∃(m:Int)(rss:List (List Int))(s5 s6:MSlot),rss.length+rest.length=h+1/\(∀ r∈rss,va h r)/\ε=[g7 m,.sh (.at (.int (h:Int))),.sh (.at (.bl b)),.sh (.at (.int way)),.ow (.lst (rss.map zk)),s5,s6]) ?_ ?_ _ _ ⟨n1,[],_,_,by rw [jb];simp,(λ_ z=>nomatch z),rfl⟩
 ·rintro ε ⟨m,rss,s5,s6,e1,e2,rfl⟩;exact ⟨_,rfl,⟨h,b,rss,rfl,rfl,by simpa using e1,λr hr=>⟨(e2 r hr).len,(e2 r hr).lo⟩⟩,m,rfl⟩
 ·rintro x rest ε ⟨m,rss,s5,s6,e1,e2,rfl⟩;simp only [yw] at e1;refine ⟨_,rfl,qQ 0 h,vC rfl (by omega),rfl,by rw [jb];omega,?_⟩;have app:∀(m:Int)(r:List Int),va h r->jd 4 (wP (q9 6)) [g7 m,.sh (.at (.int (h:Int))),.sh (.at (.bl b)),.sh (.at (.int way)),.ow (.lst (rss.map zk)),.sh x,.sh (zk r)] (λε=>∃(m:Int)(rss:List (List Int))(s5 s6:MSlot),rss.length+rest.length=h+1/\(∀ r∈rss,va h r)/\ε=[g7 m,.sh (.at (.int (h:Int))),.sh (.at (.bl b)),.sh (.at (.int way)),.ow (.lst (rss.map zk)),s5,s6]) (λy ε=>jY [.at (.int h),.at (.bl b)] y/\xz 0 ε):=by
   intro m r hr;refine ⟨⟨_,rfl⟩,_,rfl,_,rfl,by rw [yZ];omega,m,rss++[r],.sh x,.sh (zk r),by rw [yL];simp;omega,?_,by rw [yB];rfl⟩;intro q hq;rcases yk.mp hq with hq|hq
   ·exact e2 q hq
   ·rw [yQ.mp hq];exact hr
  have if1:∀(m:Int)(r:List Int),va h r->(wSeq (qC (wPT (dT (z6 qd (x8 3) (dC (.int 1))))) (p0 6 (je [none,some 0] [0] (wIp (y7 (q9 6))) (v3 0) zG (qm wy (wP (q9 0)) (s9 1 (wP (dC (.int 2))))))) qW) (jd 4 (wP (q9 6)))) [g7 m,.sh (.at (.int (h:Int))),.sh (.at (.bl b)),.sh (.at (.int way)),.ow (.lst (rss.map zk)),.sh x,.sh (zk r)] (λε=>∃(m:Int)(rss:List (List Int))(s5 s6:MSlot),rss.length+rest.length=h+1/\(∀ r∈rss,va h r)/\ε=[g7 m,.sh (.at (.int (h:Int))),.sh (.at (.bl b)),.sh (.at (.int way)),.ow (.lst (rss.map zk)),s5,s6]) (λy ε=>jY [.at (.int h),.at (.bl b)] y/\xz 0 ε):=by
   intro m r hr;by_cases hw:way=1
   ·subst hw;refine jR (k5 (v:=true) rfl) ⟨_,rfl,rfl,by rw [yZ,hr.len];omega,?_⟩;refine Qg (λtodo zs ε=>∃(m:Int)(done left:List Int),ε=[.no,g7 m]/\todo=left.map (λn=>PV.at (.int n))/\zs=done.map (λn=>PV.at (.int n))/\done.length+left.length=h/\(∀ v∈left,0<=v/\v<10 ^ 30)/\∀ v∈done,0<=v/\v<10 ^ 30) ?_ ?_ _ [] _ ⟨m,[],r,rfl,rfl,rfl,by rw [hr.len];simp,hr.lo,(λ_ z=>nomatch z)⟩
    ·rintro zs ε ⟨m2,done,left,rfl,z,rfl,g1,g2,g3⟩;have e:left=[]:=by cases left with|nil=>rfl|cons _ _=>cases z
     subst e;exact ⟨λ_=>⟨_,rfl⟩,app _ done ⟨by simpa using g1,g3⟩⟩
    ·rintro x2 rest2 zs ε ⟨m2,done,left,rfl,z,rfl,g1,g2,g3⟩;cases left with
     |nil=>cases z
     |cons v left =>
      rw [yN] at z;injection z with z1 z2;subst z1;simp only [yw] at g1;have v0:=g2 v yO;rw [<- eB] at v0;have c0:0<=m2 % 2:=yj _ (by decide);have c1:m2 % 2<2:=yp _ (by decide);refine ⟨_,rfl,_,rfl,⟨_,rfl⟩,_,rfl,m2,2,rfl,rfl,⟨by decide,by decide⟩,_,Zg (a:=v) (b:=m2 % 2) (by omega) (by omega) (by omega) (by omega),m2 / 2,done++[v*(m2 % 2)],left,rfl,z2,by rw [yB];rfl,by rw [yL];simp;omega,λw hw=>g2 w (yT _ hw),λw hw=>?_⟩;rcases yk.mp hw with hw|hw
      ·exact g3 w hw
      ·rw [yQ.mp hw,<- eB];have:m2 % 2=0∨m2 % 2=1:=by omega
       rcases this with e|e<;>rw [e]<;>omega
   ·refine zm (k5 (v:=false) ?_) (app m r hr);show some (PV.at (.bl (decide (way=1))))=_;rw [yD hw]
  refine Qg (λrest2 zs ε=>∃(m:Int)(r:List Int),ε=[.no,g7 m,.sh (.at (.bl b))]/\zs=r.map (λn=>PV.at (.int n))/\r.length+rest2.length=h/\(∀ v∈r,0<=v/\v<10 ^ 30)) ?_ ?_ _ [] _ ⟨m,[],rfl,rfl,by rw [jb];simp,(λ_ z=>nomatch z)⟩
  ·rintro zs ε ⟨m2,r,rfl,rfl,g1,g2⟩;have hr:va h r:=⟨by simpa using g1,g2⟩;refine ⟨λ_=>⟨_,rfl⟩,?_⟩;by_cases hw:way=0
   ·subst hw;refine jR (k5 (v:=true) rfl) ⟨zk (List.replicate h 0),?_,if1 m2 _ ⟨ut,λv hv=>?_⟩⟩
    ·refine v8 (zM (xs:=[.at (.int 0)]) rfl l1) rfl ?_;show (if -(lim:Int)<=(h:Int)/\(h:Int)<=lim/\[PV.at (.int 0)].length*(h:Int).toNat<=lim then some (PV.lst (List.replicate (h:Int).toNat [PV.at (.int 0)]).flatten) else none)=_;rw [if_pos ⟨by omega,by omega,by simp;omega⟩];unfold zk;simp
    ·rw [List.eq_of_mem_replicate hv];decide
   ·refine zm (k5 (v:=false) ?_) (if1 m2 r hr);show some (PV.at (.bl (decide (way=0))))=_;rw [yD hw]
  ·rintro x2 rest2 zs ε ⟨m2,r,rfl,rfl,g1,g2⟩;simp only [yw] at g1;refine ⟨_,rfl,⟨_,rfl⟩,_,rfl,⟨_,rfl⟩,⟨b,rfl⟩,?_⟩;rintro y n' ⟨v,rfl,v0,v1⟩;refine ⟨n',r++[v],rfl,by rw [yB];rfl,by rw [yL];simp;omega,λq hq=>?_⟩;rcases yk.mp hq with hq|hq
   ·exact g2 q hq
   ·rw [yQ.mp hq,<- eB];exact ⟨v0,by omega⟩
theorem PH (F:Fun K "_law_rinses" "_law_rinses" Jl f fd)(Ad:Fn P w K mg base 1 "_law_digit" ["row","many"] xS)(Aq:Fn P w K mg base 2 "_law_number" ["row","great"] (spD xt xC))(Ae:mg "range"=none):FnOk P w K mg base v5 3 f fd ["row","hues","great"] (spD wG jY) :=
 okD (k:=2) (b:=VD K) F sc_rinses KF (λcdv A outer s H E hr=>⟨_,(@j5 _ _ _ _ _ (@o7 _ _ 3 _ _ _ _ sc_rinses.nd rfl (Or.inl rfl) (o6 Ad hr (by decide) rfl (@j6 _ _ _ _ _ (pv 0) (@j6 _ _ _ _ _ z7 y2 (by rfl)) (by rfl))) (by rfl) (.inl rfl))
  (@j5 _ _ _ _ _ (@o7 _ _ 4 _ _ _ _ sc_rinses.nd rfl (Or.inl rfl) (@xg _ _ _ _ y2) (by rfl) (.inl rfl))
  (@j5 _ _ _ _ _ (xu PassesOwn.never rfl (zZ rfl Ae (@j6 _ _ _ _ _ (y6 (xc (K:=K) rfl) (pv 1) z7) y2 (by rfl))) (g9 (i:=5) sc_rinses.nd rfl (Or.inl rfl))
   (@j5 _ _ _ _ _ (xi (i:=6) (N':=["hue","row","great"]) (cap:=[none,some 0,some 2]) (b7 rfl rfl rfl) rfl sc_rinses.nd rfl rfl (zZ rfl Ae (@j6 _ _ _ _ _ (pv 1) y2 (by rfl))) (λ_ _ _ _ _ _=>(g9 (i:=0) (by show (["hue","row","great"]:List Str).Nodup;decide +kernel) rfl (Or.inl rfl))) (λ_ _ _ _ _ _=>c6) (λ_ _ _ _ _ _=>(o6 Aq hr (by decide) rfl (@j6 _ _ _ _ _ (pv 1) (@j6 _ _ _ _ _ (pv 2) y2 (by rfl)) (by rfl)))))
  (@j5 _ _ _ _ _ (p6 (c3 (xq (K:=K) (i7 hr) rfl) (pv 3) z7 (k7 _)) (@j7 _ _ _ (@o7 _ _ 6 _ _ _ _ sc_rinses.nd rfl (Or.inl rfl) (y6 (Cg) (@xg _ _ _ _ (@j6 _ _ _ _ _ z7 y2 (by rfl))) (pv 1)) (by rfl) (.inl rfl))) p9)
  (@j5 _ _ _ _ _ (p6 (c3 (xq (K:=K) (i7 hr) rfl) (pv 3) z7 (k7 _)) (@j7 _ _ _ (xi (i:=6) (N':=["number","row"]) (cap:=[none,some 0]) (b7 rfl rfl rfl) rfl sc_rinses.nd rfl rfl (@p5 _ K _ _ _ rfl (pv 6)) (λ_ _ _ _ _ _=>(g9 (i:=0) (by show (["number","row"]:List Str).Nodup;decide +kernel) rfl (Or.inl rfl))) (λ_ _ _ _ _ _=>c6) (λ_ _ _ _ _ _=>(y6 (QQ) (pv 0) (o6 Ad hr (by decide) rfl (@j6 _ _ _ _ _ (pv 1) (@j6 _ _ _ _ _ z7 y2 (by rfl)) (by rfl))))))) p9)
  (@j7 _ _ _ (xh (zh (K:=K) rfl PySem.F.plainAttrs_list PySem.F.slot_list_append PySem.F.type_list_append jD (pv 4) (j6 (pv 6) y2))))))))
  (@j7 _ _ _ (w9 (pv 4)))))),
  (by repeat' first|infer_instance|(refine @Mi.instSemWSTSeqWSeq _ _ _ _ ?_ ?_)|(apply @Mi.instSemWSTForWForOfSemWIOfSemWG))⟩) KN
def twelve:List Str:=["b","ab","a","abc","ba","aa","z","abcdefgh","abcdefgi","zz","abcd","bb"]
theorem MC:twelve.Nodup:=by decide +kernel
theorem MD:∀ s∈twelve,jV s:=by
 have:∀ s∈twelve,(∀ c∈s.cps.toList,97<=c/\c<=122)/\1<=s.length/\s.length<=8/\s ≠ "qx":=by decide +kernel
 exact λs hs=>⟨(this s hs).1,(this s hs).2.1,(this s hs).2.2.1,(this s hs).2.2.2⟩
def wE:List PV->Prop:=λxs=>∃ k:Nat,xs=[.at (.int k)]/\k<=12
def Qa:List PV->PV->Prop:=λxs y=>∃ ss:List Str,y = .lst (y3 ss)/\xs=[.at (.int ss.length)]/\ss.Nodup/\∀ s∈ss,jV s
abbrev Jh:Stmt:=top 60
abbrev Vz (K:Fg):WS:=(wSeq (Xi 2 (qw (q8 (dC (.str "b")) (q8 (dC (.str "ab")) (q8 (dC (.str "a")) (q8 (dC (.str "abc")) (q8 (dC (.str "ba")) (q8 (dC (.str "aa")) (q8 (dC (.str "z")) (q8 (dC (.str "abcdefgh")) (q8 (dC (.str "abcdefgi")) (q8 (dC (.str "zz")) (q8 (dC (.str "abcd")) (q8 (dC (.str "bb")) x9))))))))))))))
  (qu (je [none,some 2,some 0] [0] (wIp (xJ (q8 (q9 1) x9))) (v3 0) zG (wPop 1 (s9 2 (wP (z5 m8 (q8 (x8 1) x9))))))))
theorem sc_names:v9 ["row","many","free"] ["row","many"] (j8 Jh):=y9
theorem KC:∀ xs,wE xs->xs.length+1=(["row","many"]:List Str).length:=by rintro xs ⟨k,rfl,_⟩;rfl
theorem CK {free got all:List Str}{j:Nat}(h:j<free.length)(p:(got++free).Perm all):((got++[free[j]])++free.eraseIdx j).Perm all:=by rw [uV];exact ((Zn h).append_left got).trans p
theorem KK {K:Fg}:∀ xs n,wE xs->Vz K (g7 n::xs.map .sh++List.replicate ((["row","many","free"]:List Str).length-(xs.length+1)) .no) (λ_=>False) λy ε=>Qa xs y/\xz 0 ε:=by
 rintro xs n ⟨k,rfl,hk⟩;have hl:lim=1000000:=rfl;have hB:=zH;refine ⟨_,rfl,?_⟩;refine ⟨qQ 0 k,vC rfl (by omega),rfl,by rw [jb];omega,?_⟩;refine Qg (λrest ys ε=>∃(m:Int)(free got:List Str),ε=[.no,.ow (.lst (y3 free)),g7 m]/\ys=y3 got/\got.length+rest.length=k/\(got++free).Perm twelve) ?_ ?_ (qQ 0 k) [] _ ⟨n,twelve,[],rfl,rfl,by rw [jb];simp,.refl _⟩
 ·rintro ys ε ⟨m,free,got,rfl,rfl,h1,h2⟩;have nd:(got++free).Nodup:=h2.nodup_iff.mpr MC;refine ⟨λ_=>⟨_,rfl⟩,⟨got,rfl,?_,(uu.mp nd).1,λs hs=>MD s (h2.mem_iff.mp (uD _ hs))⟩,m,rfl⟩;simp at h1;rw [h1]
 ·rintro x rest ys ε ⟨m,free,got,rfl,rfl,h1,h2⟩;simp only [yw] at h1;have hlen:=h2.length_eq;rw [yL,show twelve.length=12 from rfl] at hlen;refine ⟨_,rfl,?_⟩;have hf:0<free.length:=by omega
  have c0:0<=m % (((y3 free).length:Nat):Int):=yj _ (by rw [qS];omega);have c1:m % (((y3 free).length:Nat):Int)<(((y3 free).length:Nat):Int):=yp _ (by rw [qS];omega);refine ⟨⟨_,rfl⟩,⟨m,rfl⟩,_,rfl,m,(((y3 free).length:Nat):Int),rfl,rfl,za (by rw [qS];omega) (by rw [qS];omega),?_⟩;generalize hj:m % (((y3 free).length:Nat):Int)=j at c0 c1;rw [qS] at c1;have hjl:j.toNat<free.length:=by omega
  refine ⟨y3 free,j,.at (.str free[j.toNat]),rfl,rfl,c0,by rw [qS];exact c1,by rw [qS];omega,?_,?_⟩
  ·unfold y3;rw [yV,yU hjl];rfl
  ·refine ⟨m / (((y3 free).length:Nat):Int),free.eraseIdx j.toNat,got++[free[j.toNat]],?_,?_,?_,CK hjl h2⟩
   ·show [MSlot.no,MSlot.ow (.lst ((y3 free).eraseIdx j.toNat)),g7 _]=_;unfold y3;rw [Xx]
   ·unfold y3;rw [yB];rfl
   ·rw [yL];simp only [yw,List.length_nil];omega
theorem Pz (F:Fun K "_law_names" "_law_names" Jh f fd)(Ad:Fn P w K mg base 1 "_law_digit" ["row","many"] xS)(Ac:mg "len"=none)(Ae:mg "range"=none):FnOk P w K mg base v5 2 f fd ["row","many"] (spD wE Qa) :=
 okD (k:=1) (b:=Vz K) F sc_names KC (λcdv A outer s H E hr=>⟨_,(@j5 _ _ _ _ _ (@o7 _ _ 2 _ _ _ _ sc_names.nd rfl (Or.inr rfl) (@xg _ _ _ _ (@j6 _ _ _ _ _ qK (@j6 _ _ _ _ _ qK (@j6 _ _ _ _ _ qK (@j6 _ _ _ _ _ qK (@j6 _ _ _ _ _ qK (@j6 _ _ _ _ _ qK (@j6 _ _ _ _ _ qK (@j6 _ _ _ _ _ qK (@j6 _ _ _ _ _ qK (@j6 _ _ _ _ _ qK (@j6 _ _ _ _ _ qK (@j6 _ _ _ _ _ qK y2 (by rfl)) (by rfl)) (by rfl)) (by rfl)) (by rfl)) (by rfl)) (by rfl)) (by rfl)) (by rfl)) (by rfl)) (by rfl)) (by rfl))) (by rfl) (.inl rfl))
  (@j7 _ _ _ (w9 (o5 (N':=["k","free","row"]) (cap:=[none,some 2,some 0]) (b7 rfl rfl rfl) rfl (zZ rfl Ae (@j6 _ _ _ _ _ (pv 1) y2 (by rfl))) (λ_ _ _ _ _ _=>(g9 (i:=0) (by show (["k","free","row"]:List Str).Nodup;decide +kernel) rfl (Or.inl rfl))) (λ_ _ _ _ _ _=>c6) (λ_ _ _ _ _ _=>(zh (K:=K) rfl PySem.F.plainAttrs_list PySem.F.slot_list_pop PySem.F.type_list_pop Yh (pv 1) (j6 (o6 Ad hr (by decide) rfl (@j6 _ _ _ _ _ (pv 2) (@j6 _ _ _ _ _ (u5 (i0 (K:=K) rfl) rfl Ac PySem.boot_len (@j6 _ _ _ _ _ (pv 1) y2 (by rfl))) y2 (by rfl)) (by rfl))) y2))))))),
  (by repeat' first|infer_instance|(refine @Mi.instSemWSTSeqWSeq _ _ _ _ ?_ ?_)|(apply @Mi.instSemWSTForWForOfSemWIOfSemWG))⟩) KK
def vz:List PV->Prop:=λxs=>∃(s:Str)(h:Nat)(b:Bool),xs=[.at (.str s),.at (.int h),.at (.bl b)]/\jV s/\1<=h/\h<=4
def jW:List PV->PV->Prop:=λxs y=>∃(s:Str)(h:Nat)(b:Bool)(c:Cl),xs=[.at (.str s),.at (.int h),.at (.bl b)]/\y=c.pv/\c.name=s/\c.Ok h
abbrev ZL:Stmt:=top 61
abbrev Ve (K:Fg):WS:=(wSeq (p0 4 (qm zW (s9 0 (wP (dC (.int 40)))) (wP (dC (.int 6)))))
  (wSeq (qC (wPT (p8 (x8 3))) (p0 4 (qm ql (wP (z6 wy (x8 4) (z6 pPow (dC (.int 10)) (dC (.int 26))))) (s9 0 (wP (dC (.int 3)))))) qW)
  (qu (jQ (y4 (wP (q9 1)) (y4 (s9 0 (wP (q9 2))) (y4 (qm ql (wP (dC (.int 1))) (qV 0 xt xC (y4 (wP (q9 3)) t9))) (y4 (wP (q9 4)) (y4 (qm ql (wP (dC (.int 1))) (s9 0 (wP (dC (.int 9))))) t9)))))))))
theorem sc_cloth:v9 ["row","name","hues","great","due"] ["row","name","hues","great"] (j8 ZL):=y9
theorem KA:∀ xs,vz xs->xs.length+1=(["row","name","hues","great"]:List Str).length:=by rintro xs ⟨s,h,b,rfl,_⟩;rfl
theorem KH {K:Fg}:∀ xs n,vz xs->Ve K (g7 n::xs.map .sh++List.replicate ((["row","name","hues","great","due"]:List Str).length-(xs.length+1)) .no) (λ_=>False) λy ε=>jW xs y/\xz 0 ε:=by
 rintro xs n ⟨s,h,b,rfl,hs,h1,h4⟩;have hB:=zH;obtain ⟨t1,t2,t3⟩:=Ts;have rest:∀(n due:Int),-n8<=due->due<=n8->((qu (jQ (y4 (wP (q9 1)) (y4 (s9 0 (wP (q9 2))) (y4 (qm ql (wP (dC (.int 1))) (qV 0 xt xC (y4 (wP (q9 3)) t9))) (y4 (wP (q9 4)) (y4 (qm ql (wP (dC (.int 1))) (s9 0 (wP (dC (.int 9))))) t9))))))):WS) [g7 n,.sh (.at (.str s)),.sh (.at (.int (h:Int))),.sh (.at (.bl b)),.sh (.at (.int due))] (λ_=>False) λy ε=>jW [.at (.str s),.at (.int h),.at (.bl b)] y/\xz 0 ε:=by intro n due d1 d2;refine ⟨_,rfl,⟨_,rfl⟩,_,rfl,n,(h:Int),rfl,rfl,za (by omega) (by omega),_,rfl,⟨_,rfl⟩,_,rfl,⟨_,rfl⟩,⟨b,rfl⟩,?_⟩;rintro y n' ⟨v,rfl,v0,v1⟩;have u0:0<=n % (h:Int):=yj _ (by omega);have u1:n % (h:Int)<h:=yp _ (by omega);obtain ⟨u,hu⟩:=yg u0;rw [hu] at u1 ⊢;have w0:0<=n' % 9:=yj _ (by decide);have w1:n' % 9<9:=yp _ (by decide);exact ⟨_,rfl,_,rfl,_,rfl,⟨_,rfl⟩,_,rfl,n',9,rfl,rfl,⟨by decide,by decide⟩,_,rfl,l5,⟨s,h,b,⟨s,u,1+v,due,1+n' % 9⟩,rfl,rfl,rfl,⟨hs,(show u<h by omega),(show (1:Int)<=1+v by omega),(show 1+v<=n8 by omega),d1,d2,(show (1:Int)<=1+n' % 9 by omega),(show 1+n' % 9<=n8 by omega)⟩⟩,_,rfl⟩
 refine ⟨⟨n,rfl⟩,_,rfl,n,40,rfl,rfl,⟨by decide,by decide⟩,_,rfl,_,rfl,?_⟩;have a0:0<=n % 40:=yj _ (by decide);have a1:n % 40<40:=yp _ (by decide);generalize n % 40=p at a0 a1 ⊢;generalize n / 40=n1;cases b with
 |false=>exact zm rfl (rest _ _ (by omega) (by omega))
 |true=>have b0:0<=n1 % 3:=yj _ (by decide);have b1:n1 % 3<3:=yp _ (by decide);have m1:(p-6)*T26<=34*T26:=uJ (by omega) (by omega);have m2:-6*T26<=(p-6)*T26:=uJ (by omega) (by omega);exact jR rfl ⟨_,v8 rfl (v8 rfl rfl pow26) (Zg (a:=p-6) (b:=T26) (by omega) (by omega) (by omega) (by omega)),⟨_,rfl⟩,_,rfl,n1,3,rfl,rfl,⟨by decide,by decide⟩,_,rfl,rest _ _ (by omega) (by omega)⟩
theorem Pa (F:Fun K "_law_cloth" "_law_cloth" ZL f fd)(Ad:Fn P w K mg base 1 "_law_digit" ["row","many"] xS)(Aq:Fn P w K mg base 2 "_law_number" ["row","great"] (spD xt xC)):FnOk P w K mg base v5 3 f fd ["row","name","hues","great"] (spD vz jW) :=
 okD (k:=2) (b:=Ve K) F sc_cloth KA (λcdv A outer s H E hr=>⟨_,(@j5 _ _ _ _ _ (@o7 _ _ 4 _ _ _ _ sc_cloth.nd rfl (Or.inl rfl) (y6 (wv) (o6 Ad hr (by decide) rfl (@j6 _ _ _ _ _ (pv 0) (@j6 _ _ _ _ _ z7 y2 (by rfl)) (by rfl))) z7) (by rfl) (.inl rfl))
  (@j5 _ _ _ _ _ (p6 (qf (K:=K) rfl (pv 3) (λ_=>rfl)) (@j7 _ _ _ (@o7 _ _ 4 _ _ _ _ sc_cloth.nd rfl (Or.inl rfl) (y6 (xc (K:=K) rfl) (y6 (QQ) (pv 4) (y6 (vy) z7 z7)) (o6 Ad hr (by decide) rfl (@j6 _ _ _ _ _ (pv 0) (@j6 _ _ _ _ _ z7 y2 (by rfl)) (by rfl)))) (by rfl) (.inl rfl))) p9)
  (@j7 _ _ _ (w9 (@zY _ _ _ _ _ (@j6 _ _ _ _ _ (pv 1) (@j6 _ _ _ _ _ (o6 Ad hr (by decide) rfl (@j6 _ _ _ _ _ (pv 0) (@j6 _ _ _ _ _ (pv 2) y2 (by rfl)) (by rfl))) (@j6 _ _ _ _ _ (y6 (xc (K:=K) rfl) z7 (o6 Aq hr (by decide) rfl (@j6 _ _ _ _ _ (pv 0) (@j6 _ _ _ _ _ (pv 3) y2 (by rfl)) (by rfl)))) (@j6 _ _ _ _ _ (pv 4) (@j6 _ _ _ _ _ (y6 (xc (K:=K) rfl) z7 (o6 Ad hr (by decide) rfl (@j6 _ _ _ _ _ (pv 0) (@j6 _ _ _ _ _ z7 y2 (by rfl)) (by rfl)))) y2 (by rfl)) (by rfl)) (by rfl)) (by rfl)) (by rfl))))))),
  (by repeat' first|infer_instance|(refine @Mi.instSemWSTSeqWSeq _ _ _ _ ?_ ?_)|(apply @Mi.instSemWSTForWForOfSemWIOfSemWG))⟩) KH
def wF (K:Fg):List PV->Prop:=λxs=>∃(ns:List Int)(m:Nat),xs=[scr K ns,.at (.int m)]/\ns.length<=63/\m<=10
def jX:List PV->PV->Prop:=λxs y=>∃(d:Dr)(z:PV)(m:Nat),xs=[z,.at (.int m)]/\y=d.pv/\d.Ok/\d.cls.length<=m
abbrev Jj:Stmt:=top 62
abbrev VB (K:Fg):WS:=(wSeq (Xh 2 (jK K) jm (y4 (wP (q9 0)) (y4 (wP (dC (.int 0))) t9)))
  (wSeq (p0 3 (qm qd (s9 2 (wP (dC (.int 6)))) (wP (dC (.int 5)))))
  (wSeq (p0 4 (qm ql (wP (dC (.int 1))) (s9 2 (wP (dC (.int 4))))))
  (wSeq (p0 5 (qV 2 wG jY (y4 (wP (q9 4)) (y4 (wP (q9 3)) t9))))
  (wSeq (Xh 6 (jK K) jm (y4 (wP (q9 0)) (y4 (wP (dC (.int 1))) t9)))
  (wSeq (p0 7 (qV 6 wE Qa (y4 (s9 6 (wP (z6 ql (x8 1) (dC (.int 1))))) t9)))
  (wSeq (p0 8 (je [none,some 6,some 4,some 3] [0] (wIp (y7 (q9 7))) (v3 0) zG (qV 1 vz jW (y4 (wP (q9 0)) (y4 (wP (q9 2)) (y4 (wP (q9 3)) t9))))))
  (qu (jQ (y4 (wP (q9 5)) (y4 (wP (q9 8)) (y4 (qm zW (s9 2 (wP (z6 ql (x8 4) (dC (.int 1))))) (wP (dC (.int 1)))) (y4 (qV 2 xt xC (y4 (wP (q9 3)) t9)) t9)))))))))))))
theorem sc_parts:v9 ["script","most","row","great","hues","rinses","more","names","cloths"] ["script","most"] (j8 Jj):=y9
theorem KE {K:Fg}:∀ xs,wF K xs->xs.length=(["script","most"]:List Str).length:=by rintro xs ⟨ns,m,rfl,_⟩;rfl
theorem KM {K:Fg}:∀ xs,wF K xs->VB K (xs.map .sh++List.replicate ((["script","most","row","great","hues","rinses","more","names","cloths"]:List Str).length-xs.length) .no) (λ_=>False) λy _=>jX xs y:=by
 rintro xs ⟨ns,mo,rfl,h63,hmo⟩;have hB:=zH;obtain ⟨t1,t2,t3⟩:=Ts;have hlim:lim=1000000:=rfl;refine ⟨_,rfl,_,rfl,⟨ns,0,rfl,h63,by decide,by decide⟩,?_⟩;rintro y ⟨n,rfl⟩
 -- great,hues
 refine ⟨⟨n,rfl⟩,_,rfl,n,6,rfl,rfl,⟨by decide,by decide⟩,_,rfl,_,rfl,?_⟩;generalize h8 (.int (n % 6)) (.int 5)=great;generalize n / 6=n1;refine ⟨_,rfl,⟨_,rfl⟩,_,rfl,n1,4,rfl,rfl,⟨by decide,by decide⟩,_,rfl,?_⟩;have a0:0<=n1 % 4:=yj _ (by decide);have a1:n1 % 4<4:=yp _ (by decide);obtain ⟨h,hh⟩:=yg (show 0<=1+n1 % 4 by omega);generalize n1 / 4=n2;have hh1:1<=h:=by omega
 have hh4:h<=4:=by omega
 rw [hh];clear a0 a1 hh
 -- rinses
 refine ⟨⟨_,rfl⟩,_,rfl,_,rfl,⟨_,rfl⟩,⟨h,great,rfl,hh1,hh4⟩,?_⟩;rintro y n3 ⟨h',b',rss,e,rfl,hr⟩;have e':h'=h:=by injection e with e _;injection e with e;injection e with e;omega
 subst e';have fin:∀(n3 m:Int)(z:MSlot)(cs:List Cl),cs.length<=10->cs.length<=mo->(∀ c∈cs,c.Ok h')->(cs.map Cl.name).Nodup->((qu (jQ (y4 (wP (q9 5)) (y4 (wP (q9 8)) (y4 (qm zW (s9 2 (wP (z6 ql (x8 4) (dC (.int 1))))) (wP (dC (.int 1)))) (y4 (qV 2 xt xC (y4 (wP (q9 3)) t9)) t9)))))):WS) [.sh (scr K ns),.sh (.at (.int (mo:Int))),g7 n3,.sh (.at (.bl great)),.sh (.at (.int (h':Int))),.sh (t6 rss),g7 m,z,.sh (.lst (cs.map Cl.pv))] (λ_=>False) λy _=>jX [scr K ns,.at (.int (mo:Int))] y:=by intro n3 m z cs l10 lmo g1 nd;have d0:0<=n3 % ((h':Int)+1):=yj _ (by omega);have d1:n3 % ((h':Int)+1)<(h':Int)+1:=yp _ (by omega);refine ⟨_,rfl,_,rfl,⟨n3,rfl⟩,_,rfl,n3,(h':Int)+1,rfl,rfl,za (by omega) (by omega),_,rfl,_,rfl,⟨_,rfl⟩,_,rfl,⟨_,rfl⟩,⟨great,rfl⟩,?_⟩;rintro y n4 ⟨ti,rfl,ti0,ti1⟩;exact ⟨by show 4<=lim;decide,⟨h',rss,cs,n3 % ((h':Int)+1)-1,ti⟩,scr K ns,mo,rfl,rfl,⟨hh1,hh4,hr,l10,g1,nd,(by show -1<=n3 % ((h':Int)+1)-1;omega),(by show n3 % ((h':Int)+1)-1<(h':Int);omega),ti0,(by show ti<60*n8;omega)⟩,lmo⟩
 -- cloths
 have cloths:∀(n3 q2:Int)(ss:List Str)(k:Nat),ss.length=k->k<=mo->ss.Nodup->(∀ s∈ss,jV s)->((wSeq (p0 8 (je [none,some 6,some 4,some 3] [0] (wIp (y7 (q9 7))) (v3 0) zG (qV 1 vz jW (y4 (wP (q9 0)) (y4 (wP (q9 2)) (y4 (wP (q9 3)) t9))))))
  (qu (jQ (y4 (wP (q9 5)) (y4 (wP (q9 8)) (y4 (qm zW (s9 2 (wP (z6 ql (x8 4) (dC (.int 1))))) (wP (dC (.int 1)))) (y4 (qV 2 xt xC (y4 (wP (q9 3)) t9)) t9))))))):WS) [.sh (scr K ns),.sh (.at (.int (mo:Int))),g7 n3,.sh (.at (.bl great)),.sh (.at (.int (h':Int))),.sh (t6 rss),g7 q2,.sh (.lst (y3 ss)),.no] (λ_=>False) λy _=>jX [scr K ns,.at (.int (mo:Int))] y:=by
  intro n3 q2 ss k el hkm nd nok;refine ⟨_,rfl,rfl,by rw [qS];omega,?_⟩;refine Qg (λrest ys ε=>∃(m:Int)(todo:List Str)(cs:List Cl),rest=y3 todo/\ε=[.no,g7 m,.sh (.at (.int (h':Int))),.sh (.at (.bl great))]/\ys=cs.map Cl.pv/\cs.map Cl.name++todo=ss/\(∀ c∈cs,c.Ok h')) ?_ ?_ _ [] _ ⟨q2,ss,[],rfl,rfl,rfl,rfl,(λ_ z=>nomatch z)⟩
  ·rintro ys ε ⟨m,todo,cs,e2,rfl,rfl,e3,g1⟩;have:todo=[]:=by
    cases todo with
    |nil=>rfl
    |cons _ _=>cases e2
   subst this;rw [yn] at e3;have cl:cs.length=k:=by rw [<- el,<- e3,yZ]
   refine ⟨(λ⟨y,e⟩=>nomatch (show some (MSlot.sh (scr K ns))=some (MSlot.ow y) from e)),?_⟩;exact fin n3 m _ cs (by omega) (by omega) g1 (by rw [e3];exact nd)
  ·rintro x rest ys ε ⟨m,todo,cs,e2,rfl,rfl,e3,g1⟩;cases todo with
   |nil=>cases e2
   |cons s todo =>
    have e2':x = .at (.str s)/\rest=y3 todo:=by injection e2 with e4 e5;exact ⟨e4,e5⟩
    obtain ⟨rfl,rfl⟩:=e2';have hs:s∈ss:=by rw [<- e3];exact yo _ yO
    refine ⟨_,rfl,⟨_,rfl⟩,_,rfl,_,rfl,_,rfl,⟨_,rfl⟩,⟨s,h',great,rfl,nok s hs,hh1,hh4⟩,?_⟩;rintro y m2 ⟨s2,h2,b2,c,e4,rfl,en,ok⟩;injection e4 with e4 e5;injection e4 with e4;injection e4 with e4;injection e5 with e5 _;injection e5 with e5;injection e5 with e5;have e6:h'=h2:=by omega
    subst e4 e6;refine ⟨m2,todo,cs++[c],rfl,rfl,by rw [yB];rfl,by rw [yB,uV,<- e3];show _++(c.name::todo)=_;rw [en],λx hx=>?_⟩;rcases yk.mp hx with hx|hx
    ·exact g1 x hx
    ·rw [yQ.mp hx];exact ok
 -- names
 refine ⟨_,rfl,_,rfl,⟨ns,1,rfl,h63,by decide,by decide⟩,?_⟩;rintro y ⟨q,rfl⟩;have c0:0<=q % ((mo:Int)+1):=yj _ (by omega);have c1:q % ((mo:Int)+1)<(mo:Int)+1:=yp _ (by omega);obtain ⟨k,hk⟩:=yg c0;refine ⟨⟨_,rfl⟩,⟨_,rfl⟩,_,rfl,q,(mo:Int)+1,rfl,rfl,za (by omega) (by omega),⟨_,rfl⟩,⟨k,by rw [hk],by omega⟩,?_⟩;rintro y q2 ⟨ss,rfl,e1,nd,nok⟩;have el:ss.length=k:=by injection e1 with e1 _;injection e1 with e1;injection e1 with e1;rw [hk] at e1;omega
 exact cloths n3 q2 ss k el (by omega) nd nok
theorem PD (F:Fun K "_law_parts" "_law_parts" Jj f fd)(Ew:Fn P w K mg base 3 "_law_cloth" ["row","name","hues","great"] (spD vz jW))(Ad:Fn P w K mg base 1 "_law_digit" ["row","many"] xS)(Eo:Fn P w K mg base 2 "_law_names" ["row","many"] (spD wE Qa))(Aq:Fn P w K mg base 2 "_law_number" ["row","great"] (spD xt xC))(Eb:Fn P w K mg base 3 "_law_rinses" ["row","hues","great"] (spD wG jY))(A3:Fn P w K mg base 2 "_law_stream" ["script","k"] (spN (jK K) jm)):FnOk P w K mg base v5 4 f fd ["script","most"] (spV (wF K) jX) :=
 okV (k:=3) (b:=VB K) F sc_parts KE (λcdv A outer s H E hr=>⟨_,(@j5 _ _ _ _ _ (@o7 _ _ 2 _ _ _ _ sc_parts.nd rfl (Or.inl rfl) (o6 A3 hr (by decide) rfl (@j6 _ _ _ _ _ (pv 0) (@j6 _ _ _ _ _ z7 y2 (by rfl)) (by rfl))) (by rfl) (.inl rfl))
  (@j5 _ _ _ _ _ (@o7 _ _ 3 _ _ _ _ sc_parts.nd rfl (Or.inr rfl) (zi (xq (K:=K) (i7 hr) rfl) (o6 Ad hr (by decide) rfl (@j6 _ _ _ _ _ (pv 2) (@j6 _ _ _ _ _ z7 y2 (by rfl)) (by rfl))) z7 (k7 _)) (by rfl) (.inl rfl))
  (@j5 _ _ _ _ _ (@o7 _ _ 4 _ _ _ _ sc_parts.nd rfl (Or.inr rfl) (y6 (xc (K:=K) rfl) z7 (o6 Ad hr (by decide) rfl (@j6 _ _ _ _ _ (pv 2) (@j6 _ _ _ _ _ z7 y2 (by rfl)) (by rfl)))) (by rfl) (.inl rfl))
  (@j5 _ _ _ _ _ (@o7 _ _ 5 _ _ _ _ sc_parts.nd rfl (Or.inl rfl) (o6 Eb hr (by decide) rfl (@j6 _ _ _ _ _ (pv 2) (@j6 _ _ _ _ _ (pv 4) (@j6 _ _ _ _ _ (pv 3) y2 (by rfl)) (by rfl)) (by rfl))) (by rfl) (.inl rfl))
  (@j5 _ _ _ _ _ (@o7 _ _ 6 _ _ _ _ sc_parts.nd rfl (Or.inr rfl) (o6 A3 hr (by decide) rfl (@j6 _ _ _ _ _ (pv 0) (@j6 _ _ _ _ _ z7 y2 (by rfl)) (by rfl))) (by rfl) (.inl rfl))
  (@j5 _ _ _ _ _ (@o7 _ _ 7 _ _ _ _ sc_parts.nd rfl (Or.inl rfl) (o6 Eo hr (by decide) rfl (@j6 _ _ _ _ _ (pv 6) (@j6 _ _ _ _ _ (o6 Ad hr (by decide) rfl (@j6 _ _ _ _ _ (pv 6) (@j6 _ _ _ _ _ (y6 (xc (K:=K) rfl) (pv 1) z7) y2 (by rfl)) (by rfl))) y2 (by rfl)) (by rfl))) (by rfl) (.inl rfl))
  (@j5 _ _ _ _ _ (xi (i:=8) (N':=["name","more","hues","great"]) (cap:=[none,some 6,some 4,some 3]) (b7 rfl rfl rfl) rfl sc_parts.nd rfl rfl (@p5 _ K _ _ _ rfl (pv 7)) (λ_ _ _ _ _ _=>(g9 (i:=0) (by show (["name","more","hues","great"]:List Str).Nodup;decide +kernel) rfl (Or.inl rfl))) (λ_ _ _ _ _ _=>c6) (λ_ _ _ _ _ _=>(o6 Ew hr (by decide) rfl (@j6 _ _ _ _ _ (pv 1) (@j6 _ _ _ _ _ (pv 0) (@j6 _ _ _ _ _ (pv 2) (@j6 _ _ _ _ _ (pv 3) y2 (by rfl)) (by rfl)) (by rfl)) (by rfl)))))
  (@j7 _ _ _ (w9 (@zY _ _ _ _ _ (@j6 _ _ _ _ _ (pv 5) (@j6 _ _ _ _ _ (pv 8) (@j6 _ _ _ _ _ (y6 (wv) (o6 Ad hr (by decide) rfl (@j6 _ _ _ _ _ (pv 2) (@j6 _ _ _ _ _ (y6 (xc (K:=K) rfl) (pv 4) z7) y2 (by rfl)) (by rfl))) z7) (@j6 _ _ _ _ _ (o6 Aq hr (by decide) rfl (@j6 _ _ _ _ _ (pv 2) (@j6 _ _ _ _ _ (pv 3) y2 (by rfl)) (by rfl))) y2 (by rfl)) (by rfl)) (by rfl)) (by rfl)))))))))))),
  (by repeat' first|infer_instance|(refine @Mi.instSemWSTSeqWSeq _ _ _ _ ?_ ?_)|(apply @Mi.instSemWSTForWForOfSemWIOfSemWG))⟩) KM
abbrev ZX:Stmt:=top 4
abbrev Vp:MS:=(u3 (xm (z5 m7 (q8 (x8 0) (q8 (dC (.ty "int")) x9))) (Qj (z5 m7 (q8 (x8 0) (q8 (dC (.ty "bool")) x9))))))
def zT:List PV->Option PV:=g8 1 1 Vp
theorem DF:v9 ["thing"] ["thing"] (j8 ZX):=y9
theorem Pm (F:Fun K "is_whole" "is_whole" ZX f fd)(E3:mg "bool"=none)(Ie:mg "int"=none)(Ab:mg "isinstance"=none):FnOk P w K mg base v5 1 f fd ["thing"] (v6 zT) :=
 c8 (k:=0) (b:=Vp) F DF rfl λcdv A outer s H E hr=>⟨_,(j7 (w9 (zB (u5 (xG (K:=K) rfl) rfl Ab xD (aC (pv 0) (aW (xP (v:= .ty "int") rfl Ie Go rfl)))) (zX (Cv (u5 (xG (K:=K) rfl) rfl Ab xD (aC (pv 0) (aW (xP (v:= .ty "bool") rfl E3 Gm rfl))))))))),
  inferInstance⟩
abbrev Jg:Stmt:=top 7
abbrev Vy:MS:=(u3 (z6 w5 (x8 0) (dC (.int 0))))
def zy:List PV->Option PV:=g8 1 1 Vy
theorem DK:v9 ["cloth"] ["cloth"] (j8 Jg):=y9
theorem Py (F:Fun K "name_of" "name_of" Jg f fd):FnOk P w K mg base v5 1 f fd ["cloth"] (v6 zy) :=
 c8 (k:=0) (b:=Vy) F DK rfl λcdv A outer s H E hr=>⟨_,(j7 (w9 (iW (K:=K) rfl (pv 0) z7))),
  inferInstance⟩
abbrev ZP:Stmt:=top 8
abbrev Vh:MS:=(u3 (z6 w5 (x8 0) (dC (.int 1))))
def zR:List PV->Option PV:=g8 1 1 Vh
theorem Dy:v9 ["cloth"] ["cloth"] (j8 ZP):=y9
theorem Pe (F:Fun K "hue_of" "hue_of" ZP f fd):FnOk P w K mg base v5 1 f fd ["cloth"] (v6 zR) :=
 c8 (k:=0) (b:=Vh) F Dy rfl λcdv A outer s H E hr=>⟨_,(j7 (w9 (iW (K:=K) rfl (pv 0) z7))),
  inferInstance⟩
abbrev Jc:Stmt:=top 9
abbrev Vv:MS:=(u3 (z6 w5 (x8 0) (dC (.int 2))))
def Zb:List PV->Option PV:=g8 1 1 Vv
theorem DI:v9 ["cloth"] ["cloth"] (j8 Jc):=y9
theorem Pt (F:Fun K "length_of" "length_of" Jc f fd):FnOk P w K mg base v5 1 f fd ["cloth"] (v6 Zb) :=
 c8 (k:=0) (b:=Vv) F DI rfl λcdv A outer s H E hr=>⟨_,(j7 (w9 (iW (K:=K) rfl (pv 0) z7))),
  inferInstance⟩
abbrev ZO:Stmt:=top 10
abbrev Vg:MS:=(u3 (z6 w5 (x8 0) (dC (.int 3))))
def Za:List PV->Option PV:=g8 1 1 Vg
theorem Dx:v9 ["cloth"] ["cloth"] (j8 ZO):=y9
theorem Pd (F:Fun K "due_of" "due_of" ZO f fd):FnOk P w K mg base v5 1 f fd ["cloth"] (v6 Za) :=
 c8 (k:=0) (b:=Vg) F Dx rfl λcdv A outer s H E hr=>⟨_,(j7 (w9 (iW (K:=K) rfl (pv 0) z7))),
  inferInstance⟩
abbrev Ju:Stmt:=top 11
abbrev VM:MS:=(u3 (z6 w5 (x8 0) (dC (.int 4))))
def Zc:List PV->Option PV:=g8 1 1 VM
theorem DQ:v9 ["cloth"] ["cloth"] (j8 Ju):=y9
theorem PY (F:Fun K "weight_of" "weight_of" Ju f fd):FnOk P w K mg base v5 1 f fd ["cloth"] (v6 Zc) :=
 c8 (k:=0) (b:=VM) F DQ rfl λcdv A outer s H E hr=>⟨_,(j7 (w9 (iW (K:=K) rfl (pv 0) z7))),
  inferInstance⟩
abbrev ZR:Stmt:=top 12
abbrev Vj:MS:=(u3 (xm (z5 zT (q8 (q9 0) x9)) (z6 pGe (x8 0) (x8 1))))
def zg:List PV->Option PV:=g8 2 2 Vj
theorem DA:v9 ["thing","least"] ["thing","least"] (j8 ZR):=y9
theorem Pg (F:Fun K "is_from" "is_from" ZR f fd)(Ai:Fn P w K mg base 1 "is_whole" ["thing"] (v6 zT)):FnOk P w K mg base v5 2 f fd ["thing","least"] (v6 zg) :=
 c8 (k:=1) (b:=Vj) F DA rfl λcdv A outer s H E hr=>⟨_,(j7 (w9 (zB (fW Ai hr (aW (pv 0))) (zX (zi (QN) (pv 0) (pv 1) (k7 _)))))),
  inferInstance⟩
abbrev ZS:Stmt:=top 3
abbrev Vk:MS:=(w4 (b9 (n9 (c5 (p8 (z5 m7 (q8 (x8 0) (q8 (dC (.ty "str")) x9))))) (c5 (dT (zq pLe pLe (dC (.int 1)) (z5 m8 (q8 (x8 0) x9)) (dC (.int 8)))))) (u3 (dC (.bl false))) c4)
  (u3 (z5 xr (q8 (u6 [none] [0] (dItS (q9 0)) (v3 0) k4 (zq pLeS pLeS (dC (.str "a")) (x8 0) (dC (.str "z")))) x9))))
def QF:List PV->Option PV:=g8 1 1 Vk
theorem DB:v9 ["thing"] ["thing"] (j8 ZS):=y9
theorem Ph (F:Fun K "is_name" "is_name" ZS f fd)(An:mg "all"=none)(Ab:mg "isinstance"=none)(Ac:mg "len"=none)(Ej:mg "str"=none)(A7:mg "LONGEST_NAME"=some (.int 8 Av)):FnOk P w K mg base v5 1 f fd ["thing"] (v6 QF) :=
 c8 (k:=0) (b:=Vk) F DB rfl λcdv A outer s H E hr=>⟨_,(j5 (p6 (PW.pt (xj (qe (qf (K:=K) rfl (u5 (xG (K:=K) rfl) rfl Ab xD (aC (pv 0) (aW (xP (v:= .ty "str") rfl Ej VU rfl)))) (λ_=>rfl))) (zD (qe (Zp (wu) (wu) z7 (u5 (i0 (K:=K) rfl) rfl Ac PySem.boot_len (aW (pv 0))) (QU (v:= .int 8) rfl A7 ⟨_,rfl⟩)))))) (j7 (w9 xO)) p9)
  (j7 (w9 (u5 (jr (K:=K) rfl rfl) rfl An jq (aW (o5 (N':=["sign"]) (cap:=[none]) (b7 rfl rfl rfl) rfl (CF (pv 0)) (λ_ _ _ _ _ _=>(g9 (i:=0) (by show (["sign"]:List Str).Nodup;decide +kernel) rfl (Or.inl rfl))) (λ_ _ _ _ _ _=>c6) (λ_ _ _ _ _ _=>(Cp (Yq) (Yq) qK (pv 0) qK)))))))),
  inferInstance⟩
abbrev ZQ:Stmt:=top 13
abbrev Vi:MS:=(w4 (b9 (n9 (c5 (p8 (z5 m7 (q8 (x8 0) (q8 (dC (.ty "tuple")) x9))))) (dT (z6 t0 (z5 m8 (q8 (x8 0) x9)) (dC (.int 5))))) (u3 (dC (.bl false))) c4)
  (w4 (b9 (n9 (c5 (p8 (z5 QF (q8 (z5 zy (q8 (q9 0) x9)) x9)))) (n9 (c5 (p8 (z5 zg (q8 (z5 zR (q8 (q9 0) x9)) (q8 (dC (.int 0)) x9))))) (dT (z6 pGe (z5 zR (q8 (q9 0) x9)) (x8 1))))) (u3 (dC (.bl false))) c4)
  (u3 (xm (z5 zg (q8 (z5 Zb (q8 (q9 0) x9)) (q8 (dC (.int 1)) x9))) (xm (z5 zT (q8 (z5 Za (q8 (q9 0) x9)) x9)) (z5 zg (q8 (z5 Zc (q8 (q9 0) x9)) (q8 (dC (.int 1)) x9))))))))
def QE:List PV->Option PV:=g8 2 2 Vi
theorem Dz:v9 ["thing","hues"] ["thing","hues"] (j8 ZQ):=y9
theorem Pf (F:Fun K "is_cloth" "is_cloth" ZQ f fd)(Ec:Fn P w K mg base 1 "due_of" ["cloth"] (v6 Za))(Ao:Fn P w K mg base 1 "hue_of" ["cloth"] (v6 zR))(Am:Fn P w K mg base 2 "is_from" ["thing","least"] (v6 zg))(D8:Fn P w K mg base 1 "is_name" ["thing"] (v6 QF))(Ai:Fn P w K mg base 1 "is_whole" ["thing"] (v6 zT))(D0:Fn P w K mg base 1 "length_of" ["cloth"] (v6 Zb))(Al:Fn P w K mg base 1 "name_of" ["cloth"] (v6 zy))(B7:Fn P w K mg base 1 "weight_of" ["cloth"] (v6 Zc))(Ab:mg "isinstance"=none)(Ac:mg "len"=none)(Er:mg "tuple"=none)(Ep:mg "PARTS"=some (.int 5 Ey)):FnOk P w K mg base v5 3 f fd ["thing","hues"] (v6 QE) :=
 c8 (k:=2) (b:=Vi) F Dz rfl λcdv A outer s H E hr=>⟨_,(j5 (p6 (PW.pt (xj (qe (qf (K:=K) rfl (u5 (xG (K:=K) rfl) rfl Ab xD (aC (pv 0) (aW (xP (v:= .ty "tuple") rfl Er Gr rfl)))) (λ_=>rfl))) (zD (c3 (xN (K:=K) (i7 hr) rfl) (u5 (i0 (K:=K) rfl) rfl Ac PySem.boot_len (aW (pv 0))) (QU (v:= .int 5) rfl Ep ⟨_,rfl⟩) (k7 _))))) (j7 (w9 xO)) p9)
  (j5 (p6 (PW.pt (xj (qe (qf (K:=K) rfl (fW D8 hr (aW (fW Al hr (aW (pv 0))))) (λ_=>rfl))) (xj (qe (qf (K:=K) rfl (fW Am hr (aC (fW Ao hr (aW (pv 0))) (aW z7))) (λ_=>rfl))) (zD (c3 (QN) (fW Ao hr (aW (pv 0))) (pv 1) (k7 _)))))) (j7 (w9 xO)) p9)
  (j7 (w9 (zB (fW Am hr (aC (fW D0 hr (aW (pv 0))) (aW z7))) (zB (fW Ai hr (aW (fW Ec hr (aW (pv 0))))) (zX (fW Am hr (aC (fW B7 hr (aW (pv 0))) (aW z7)))))))))),
  inferInstance⟩
abbrev ZV:Stmt:=top 40
abbrev Vn:MS:=(w4 (b9 (n9 (c5 (p8 (z5 m7 (q8 (x8 0) (q8 (dC (.ty "list")) x9))))) (dT (z6 t0 (z5 m8 (q8 (x8 0) x9)) (x8 1)))) (u3 (dC (.bl false))) c4)
  (u3 (z5 xr (q8 (u6 [none] [0] (y7 (q9 0)) (v3 0) k4 (xm (z5 zT (q8 (q9 0) x9)) (z6 pGe (x8 0) (dC (.int 0))))) x9))))
def we:List PV->Option PV:=g8 2 2 Vn
theorem DE:v9 ["row","hues"] ["row","hues"] (j8 ZV):=y9
theorem Pk (F:Fun K "is_rinse_row" "is_rinse_row" ZV f fd)(Ai:Fn P w K mg base 1 "is_whole" ["thing"] (v6 zT))(An:mg "all"=none)(Ab:mg "isinstance"=none)(Ac:mg "len"=none)(Ag:mg "list"=none):FnOk P w K mg base v5 2 f fd ["row","hues"] (v6 we) :=
 c8 (k:=1) (b:=Vn) F DE rfl λcdv A outer s H E hr=>⟨_,(j5 (p6 (PW.pt (xj (qe (qf (K:=K) rfl (u5 (xG (K:=K) rfl) rfl Ab xD (aC (pv 0) (aW (xP (v:= .ty "list") rfl Ag xE rfl)))) (λ_=>rfl))) (zD (c3 (xN (K:=K) (i7 hr) rfl) (u5 (i0 (K:=K) rfl) rfl Ac PySem.boot_len (aW (pv 0))) (pv 1) (k7 _))))) (j7 (w9 xO)) p9)
  (j7 (w9 (u5 (jr (K:=K) rfl rfl) rfl An jq (aW (o5 (N':=["number"]) (cap:=[none]) (b7 rfl rfl rfl) rfl (@p5 _ K _ _ _ rfl (pv 0)) (λ_ _ _ _ _ _=>(g9 (i:=0) (by show (["number"]:List Str).Nodup;decide +kernel) rfl (Or.inl rfl))) (λ_ _ _ _ _ _=>c6) (λ_ _ _ _ _ _=>(zB (fW Ai hr (aW (pv 0))) (zX (zi (QN) (pv 0) z7 (k7 _))))))))))),
  inferInstance⟩
abbrev ZI:Stmt:=top 41
abbrev Vb:MS:=(w4 (b9 (c5 (p8 (z5 m7 (q8 (x8 0) (q8 (dC (.ty "list")) x9))))) o9 c4)
  (w4 (o3 1 (z6 zW (z5 m8 (q8 (x8 0) x9)) (dC (.int 1))))
  (w4 (b9 (c5 (dT (zq pLe pLe (dC (.int 1)) (x8 1) (dC (.int 4))))) o9 c4)
  (b9 (c5 (p8 (z5 xr (q8 (u6 [none,some 1] [0] (y7 (q9 0)) (v3 0) k4 (z5 we (q8 (q9 0) (q8 (q9 1) x9)))) x9)))) o9 c4))))
def QC:List PV->Option PV:=g8 2 1 Vb
theorem sc_check_rinses:v9 ["rinses","hues"] ["rinses"] (j8 ZI):=y9
theorem BX (F:Fun K "check_rinses" "check_rinses" ZI f fd)(Az:Fn P w K mg base 2 "is_rinse_row" ["row","hues"] (v6 we))(An:mg "all"=none)(Ab:mg "isinstance"=none)(Ac:mg "len"=none)(Ag:mg "list"=none)(B8:mg "MOST_HUES"=some (.int 4 B9)):FnOk P w K mg base v5 3 f fd ["rinses"] (v6 QC) :=
 c8 (k:=2) (b:=Vb) F sc_check_rinses rfl λcdv A outer s H E hr=>⟨_,(j5 (p6 (qe (qf (K:=K) rfl (u5 (xG (K:=K) rfl) rfl Ab xD (aC (pv 0) (aW (xP (v:= .ty "list") rfl Ag xE rfl)))) (λ_=>rfl))) (j7 xv) p9)
  (j5 (sW 1 sc_check_rinses.nd (y6 (wv) (u5 (i0 (K:=K) rfl) rfl Ac PySem.boot_len (aW (pv 0))) z7))
  (j5 (p6 (qe (Zp (wu) (wu) z7 (pv 1) (QU (v:= .int 4) rfl B8 ⟨_,rfl⟩))) (j7 xv) p9)
  (j7 (p6 (qe (qf (K:=K) rfl (u5 (jr (K:=K) rfl rfl) rfl An jq (aW (o5 (N':=["row","hues"]) (cap:=[none,some 1]) (b7 rfl rfl rfl) rfl (@p5 _ K _ _ _ rfl (pv 0)) (λ_ _ _ _ _ _=>(g9 (i:=0) (by show (["row","hues"]:List Str).Nodup;decide +kernel) rfl (Or.inl rfl))) (λ_ _ _ _ _ _=>c6) (λ_ _ _ _ _ _=>(fW Az hr (aC (pv 0) (aW (pv 1)))))))) (λ_=>rfl))) (j7 xv) p9))))),
  inferInstance⟩
abbrev Jm:Stmt:=top 42
abbrev VE:MS:=(u3 (u6 [none,none] [0,1] (xn (q8 (q9 0) x9)) (qI 2 (m5 (v3 0) (m5 (v3 1) qH))) k4 (xK (q8 (q9 1) (q8 (qw (q8 (q9 0) x9)) x9)))))
def wm:List PV->Option PV:=xH 1 1 VE
theorem DL:v9 ["row"] ["row"] (j8 Jm):=y9
theorem PJ (F:Fun K "straight_ways" "straight_ways" Jm f fd)(Af:mg "enumerate"=none):FnOk P w K mg base v5 1 f fd ["row"] (spO wm) :=
 okO (k:=0) (b:=VE) F DL rfl λcdv A outer s H E hr=>⟨_,(j7 (w9 (o5 (N':=["hue","number"]) (cap:=[none,none]) (b7 rfl rfl rfl) rfl (QY (K:=K) rfl rfl Af (aW (pv 0))) (λ_ _ _ _ _ _=>(wA (K:=K) (n:=2) rfl rfl (zj (g9 (i:=0) (by show (["hue","number"]:List Str).Nodup;decide +kernel) rfl (Or.inl rfl)) (zj (g9 (i:=1) (by show (["hue","number"]:List Str).Nodup;decide +kernel) rfl (Or.inl rfl)) wB)))) (λ_ _ _ _ _ _=>c6) (λ_ _ _ _ _ _=>(@zY _ _ _ _ _ (aC (pv 1) (aW (@xg _ _ _ _ (aW (pv 0)))))))))),
  inferInstance⟩
abbrev ZY:Stmt:=top 43
abbrev Vq:MS:=(u3 (xK (q8 (z6 ql (z6 w5 (x8 0) (dC (.int 0))) (z6 w5 (x8 1) (dC (.int 0)))) (q8 (z6 ql (z6 w5 (x8 0) (dC (.int 1))) (z6 w5 (x8 1) (dC (.int 1)))) x9))))
def wf:List PV->Option PV:=g8 2 2 Vq
theorem DG:v9 ["way","onward"] ["way","onward"] (j8 ZY):=y9
theorem Pn (F:Fun K "joined" "joined" ZY f fd):FnOk P w K mg base v5 1 f fd ["way","onward"] (v6 wf) :=
 c8 (k:=0) (b:=Vq) F DG rfl λcdv A outer s H E hr=>⟨_,(j7 (w9 (@zY _ _ _ _ _ (aC (y6 (xc (K:=K) rfl) (iW (K:=K) rfl (pv 0) z7) (iW (K:=K) rfl (pv 1) z7)) (aW (y6 (xc (K:=K) rfl) (iW (K:=K) rfl (pv 0) z7) (iW (K:=K) rfl (pv 1) z7))))))),
  inferInstance⟩
abbrev Jd:Stmt:=top 44
abbrev Vw:MS:=(u3 (dIf (dT (z6 pLt (z6 w5 (x8 1) (dC (.int 0))) (z6 w5 (x8 0) (dC (.int 0))))) (q9 1) (q9 0)))
def wg:List PV->Option PV:=g8 2 2 Vw
theorem DJ:v9 ["way","other"] ["way","other"] (j8 Jd):=y9
theorem Pu (F:Fun K "lesser" "lesser" Jd f fd):FnOk P w K mg base v5 1 f fd ["way","other"] (v6 wg) :=
 c8 (k:=0) (b:=Vw) F DJ rfl λcdv A outer s H E hr=>⟨_,(j7 (w9 (Yu (c3 (QP) (iW (K:=K) rfl (pv 1) z7) (iW (K:=K) rfl (pv 0) z7) (k7 _)) (pv 1) (pv 0)))),
  inferInstance⟩
abbrev Jt:Stmt:=top 45
abbrev VL:MS:=(u3 (u6 [none,none,some 0,some 1] [0,1] (dZip (q8 (q9 0) (q8 (q9 2) x9))) (qI 2 (m5 (v3 0) (m5 (v3 1) qH))) k4 (z5 wg (q8 (q9 0) (q8 (z5 wf (q8 (z6 w5 (x8 2) (x8 3)) (q8 (q9 1) x9))) x9)))))
def vw:List PV->Option PV:=xH 3 3 VL
theorem DP:v9 ["ways","hue","onward"] ["ways","hue","onward"] (j8 Jt):=y9
theorem PX (F:Fun K "ways_through" "ways_through" Jt f fd)(Ed:Fn P w K mg base 1 "joined" ["way","onward"] (v6 wf))(Ef:Fn P w K mg base 1 "lesser" ["way","other"] (v6 wg))(E5:mg "zip"=none):FnOk P w K mg base v5 2 f fd ["ways","hue","onward"] (spO vw) :=
 okO (k:=1) (b:=VL) F DP rfl λcdv A outer s H E hr=>⟨_,(j7 (w9 (o5 (N':=["way","more","ways","hue"]) (cap:=[none,none,some 0,some 1]) (b7 rfl rfl rfl) rfl (CH (K:=K) rfl rfl E5 (aC (pv 0) (aW (pv 2)))) (λ_ _ _ _ _ _=>(wA (K:=K) (n:=2) rfl rfl (zj (g9 (i:=0) (by show (["way","more","ways","hue"]:List Str).Nodup;decide +kernel) rfl (Or.inl rfl)) (zj (g9 (i:=1) (by show (["way","more","ways","hue"]:List Str).Nodup;decide +kernel) rfl (Or.inl rfl)) wB)))) (λ_ _ _ _ _ _=>c6) (λ_ _ _ _ _ _=>(fW Ef hr (aC (pv 0) (aW (fW Ed hr (aC (iW (K:=K) rfl (pv 2) (pv 3)) (aW (pv 1))))))))))),
  inferInstance⟩
abbrev Jb:Stmt:=top 46
abbrev Vu:MS:=(w4 (o3 1 (u6 [none] [0] (y7 (q9 0)) (v3 0) k4 (z5 wm (q8 (q9 0) x9))))
  (w4 (xI (xJ (q8 (z6 zW (z5 m8 (q8 (x8 0) x9)) (dC (.int 1))) x9)) (v3 2) (w4 (o3 3 (z6 w5 (x8 1) (x8 2)))
  (o3 1 (u6 [none,some 2,some 3] [0] (y7 (q9 1)) (v3 0) k4 (z5 vw (q8 (q9 0) (q8 (q9 1) (q8 (q9 2) x9))))))))
  (u3 (q9 1))))
def QI:List PV->Option PV:=g8 4 1 Vu
theorem sc_least_ways:v9 ["rinses","table","hue","onward"] ["rinses"] (j8 Jb):=y9
theorem Ps (F:Fun K "least_ways" "least_ways" Jb f fd)(At:Fn P w K mg base 1 "straight_ways" ["row"] (spO wm))(A5:Fn P w K mg base 2 "ways_through" ["ways","hue","onward"] (spO vw))(Ac:mg "len"=none)(Ae:mg "range"=none):FnOk P w K mg base v5 3 f fd ["rinses"] (v6 QI) :=
 c8 (k:=2) (b:=Vu) F sc_least_ways rfl λcdv A outer s H E hr=>⟨_,(j5 (xi (i:=1) (N':=["row"]) (cap:=[none]) (b7 rfl rfl rfl) rfl sc_least_ways.nd rfl rfl (@p5 _ K _ _ _ rfl (pv 0)) (λ_ _ _ _ _ _=>(g9 (i:=0) (by show (["row"]:List Str).Nodup;decide +kernel) rfl (Or.inl rfl))) (λ_ _ _ _ _ _=>c6) (λ_ _ _ _ _ _=>(fW At hr (aW (pv 0)))))
  (j5 (xu PassesOwn.never rfl (zZ rfl Ae (aW (y6 (wv) (u5 (i0 (K:=K) rfl) rfl Ac PySem.boot_len (aW (pv 0))) z7))) (gW 2 sc_least_ways.nd)
   (j5 (sW 3 sc_least_ways.nd (iW (K:=K) rfl (pv 1) (pv 2)))
  (j7 (xi (i:=1) (N':=["ways","hue","onward"]) (cap:=[none,some 2,some 3]) (b7 rfl rfl rfl) rfl sc_least_ways.nd rfl rfl (@p5 _ K _ _ _ rfl (pv 1)) (λ_ _ _ _ _ _=>(g9 (i:=0) (by show (["ways","hue","onward"]:List Str).Nodup;decide +kernel) rfl (Or.inl rfl))) (λ_ _ _ _ _ _=>c6) (λ_ _ _ _ _ _=>(fW A5 hr (aC (pv 0) (aC (pv 1) (aW (pv 2))))))))))
  (j7 (w9 (pv 1))))),
  inferInstance⟩
abbrev Jn:Stmt:=top 47
abbrev VF:MS:=(u3 (u6 [none] [0] (y7 (q9 0)) (v3 0) k4 (z6 w5 (x8 0) (dC (.int 0)))))
def QJ:List PV->Option PV:=xH 1 1 VF
theorem DM:v9 ["ways"] ["ways"] (j8 Jn):=y9
theorem PM (F:Fun K "sums_of" "sums_of" Jn f fd):FnOk P w K mg base v5 1 f fd ["ways"] (spO QJ) :=
 okO (k:=0) (b:=VF) F DM rfl λcdv A outer s H E hr=>⟨_,(j7 (w9 (o5 (N':=["way"]) (cap:=[none]) (b7 rfl rfl rfl) rfl (@p5 _ K _ _ _ rfl (pv 0)) (λ_ _ _ _ _ _=>(g9 (i:=0) (by show (["way"]:List Str).Nodup;decide +kernel) rfl (Or.inl rfl))) (λ_ _ _ _ _ _=>c6) (λ_ _ _ _ _ _=>(iW (K:=K) rfl (pv 0) z7))))),
  inferInstance⟩
abbrev Ja:Stmt:=top 48
abbrev Vt:MS:=(w4 (zt (z5 QC (q8 (q9 0) x9)))
  (u3 (u6 [none] [0] (y7 (z5 QI (q8 (q9 0) x9))) (v3 0) k4 (z5 QJ (q8 (q9 0) x9)))))
def QH:List PV->Option PV:=xH 1 1 Vt
theorem DH:v9 ["rinses"] ["rinses"] (j8 Ja):=y9
theorem Pr (F:Fun K "least_rinses" "least_rinses" Ja f fd)(Ay:Fn P w K mg base 3 "check_rinses" ["rinses"] (v6 QC))(B5:Fn P w K mg base 3 "least_ways" ["rinses"] (v6 QI))(D6:Fn P w K mg base 1 "sums_of" ["ways"] (spO QJ)):FnOk P w K mg base v5 4 f fd ["rinses"] (spO QH) :=
 okO (k:=3) (b:=Vt) F DH rfl λcdv A outer s H E hr=>⟨_,(j5 (xh (fW Ay hr (aW (pv 0))))
  (j7 (w9 (o5 (N':=["ways"]) (cap:=[none]) (b7 rfl rfl rfl) rfl (@p5 _ K _ _ _ rfl (fW B5 hr (aW (pv 0)))) (λ_ _ _ _ _ _=>(g9 (i:=0) (by show (["ways"]:List Str).Nodup;decide +kernel) rfl (Or.inl rfl))) (λ_ _ _ _ _ _=>c6) (λ_ _ _ _ _ _=>(fW D6 hr (aW (pv 0)))))))),
  inferInstance⟩
abbrev ZJ:Stmt:=top 51
abbrev Vc:MS:=(w4 (b9 (zp (dT (z6 QR (x8 0) (dC .non))) (c5 (zp (p8 (z5 zg (q8 (q9 0) (q8 (dUn pNeg (dC (.int 1))) x9)))) (dT (z6 pLt (x8 0) (x8 2)))))) o9 c4)
  (b9 (c5 (p8 (z5 zg (q8 (q9 1) (q8 (dC (.int 0)) x9))))) o9 c4))
def QD:List PV->Option PV:=g8 3 3 Vc
theorem Du:v9 ["last","time","hues"] ["last","time","hues"] (j8 ZJ):=y9
theorem BY (F:Fun K "check_start" "check_start" ZJ f fd)(Am:Fn P w K mg base 2 "is_from" ["thing","least"] (v6 zg)):FnOk P w K mg base v5 3 f fd ["last","time","hues"] (v6 QD) :=
 c8 (k:=2) (b:=Vc) F Du rfl λcdv A outer s H E hr=>⟨_,(j5 (p6 (PW.pt (Zq (c3 (Yr) (pv 0) jH (k7 _)) (Zr (qe (PW.pt (Zq (qf (K:=K) rfl (fW Am hr (aC (pv 0) (aW (Yx UK z7)))) (λ_=>rfl)) (Zr (c3 (QP) (pv 0) (pv 2) (k7 _))))))))) (j7 xv) p9)
  (j7 (p6 (qe (qf (K:=K) rfl (fW Am hr (aC (pv 1) (aW z7))) (λ_=>rfl))) (j7 xv) p9))),
  inferInstance⟩
abbrev ZH:Stmt:=top 52
abbrev Va:MS:=(w4 (b9 (dT (z6 pGt (z5 m8 (q8 (x8 0) x9)) (dC (.int 10)))) o9 c4)
  (w4 (vf 2 Wj)
  (xI (y7 (q9 0)) (v3 3) (w4 (b9 (c5 (p8 (z5 QE (q8 (q9 3) (q8 (q9 1) x9))))) o9 c4)
  (w4 (b9 (dT (dDIn (z5 zy (q8 (q9 3) x9)) (x8 2))) o9 c4)
  (dPut 2 (z5 zy (q8 (q9 3) x9)) (dC (.bl true))))))))
def QB:List PV->Option PV:=g8 4 2 Va
theorem sc_check_cloths:v9 ["cloths","hues","seen","cloth"] ["cloths","hues"] (j8 ZH):=y9
theorem BW (F:Fun K "check_cloths" "check_cloths" ZH f fd)(D3:Fn P w K mg base 3 "is_cloth" ["thing","hues"] (v6 QE))(Al:Fn P w K mg base 1 "name_of" ["cloth"] (v6 zy))(Ac:mg "len"=none)(B3:mg "MOST_CLOTHS"=some (.int 10 B0)):FnOk P w K mg base v5 4 f fd ["cloths","hues"] (v6 QB) :=
 c8 (k:=3) (b:=Va) F sc_check_cloths rfl λcdv A outer s H E hr=>⟨_,(j5 (p6 (c3 (QO) (u5 (i0 (K:=K) rfl) rfl Ac PySem.boot_len (aW (pv 0))) (QU (v:= .int 10) rfl B3 ⟨_,rfl⟩) (k7 _)) (j7 xv) p9)
  (j5 (sW 2 sc_check_cloths.nd Cq)
  (j7 (xu PassesOwn.never rfl (@p5 _ K _ _ _ rfl (pv 0)) (gW 3 sc_check_cloths.nd)
   (j5 (p6 (qe (qf (K:=K) rfl (fW D3 hr (aC (pv 3) (aW (pv 1)))) (λ_=>rfl))) (j7 xv) p9)
  (j5 (p6 (YE (Cj (zN hr) (fW Al hr (aW (pv 3))) (pv 2))) (j7 xv) p9)
  (j7 (CO (zN hr) (pv 2) (fW Al hr (aW (pv 3))) xO rfl)))))))),
  inferInstance⟩
abbrev ZD:Stmt:=Qv (top 53) 1
abbrev JW (Aa:Addr):MS:=(u3 (z6 zW (z5 m8 (q8 (zu Aa "least" (q9 0)) x9)) (dC (.int 1))))
def vq (Aa:Addr):List PV->Option PV:=g8 1 1 (JW Aa)
theorem Dp:v9 ["self"] ["self"] (j8 ZD):=y9
theorem BQ (F:Fun K "hues" "Works.hues" ZD f fd)(Ac:mg "len"=none)[zn K Aa][NoA K Aa "least"]:FnOk P w K mg base v5 1 f fd ["self"] (v6 (vq Aa)) :=
 c8 (k:=0) (b:=(JW Aa)) F Dp rfl λcdv A outer s H E hr=>⟨_,(j7 (w9 (y6 (wv) (u5 (i0 (K:=K) rfl) rfl Ac PySem.boot_len (aW (QT (K:=K) rfl (pv 0) rfl))) z7))),
  inferInstance⟩
abbrev ZE:Stmt:=Qv (top 53) 6
abbrev JX (Aa:Addr):MS:=(u3 (z5 Zj (q8 (zu Aa "held" (q9 0)) x9)))
def jB (Aa:Addr):List PV->Option PV:=xH 1 1 (JX Aa)
theorem Ds:v9 ["self"] ["self"] (j8 ZE):=y9
theorem BS (F:Fun K "names" "Works.names" ZE f fd)(Ee:mg "sorted"=none)[zn K Aa][NoA K Aa "held"]:FnOk P w K mg base v5 1 f fd ["self"] (spO (jB Aa)) :=
 okO (k:=0) (b:=(JX Aa)) F Ds rfl λcdv A outer s H E hr=>⟨_,(j7 (w9 (u5 (GH (K:=K) rfl rfl) rfl Ee Gq (aW (QT (K:=K) rfl (pv 0) rfl))))),
  inferInstance⟩
abbrev ZC:Stmt:=Qv (top 53) 7
abbrev JV (Aa:Addr):MS:=(w4 (b9 (n9 (c5 (p8 (z5 m7 (q8 (x8 1) (q8 (dC (.ty "str")) x9))))) (dT (Qi (x8 1) (zu Aa "held" (q9 0))))) o9 c4)
  (u3 (zc (zu Aa "held" (q9 0)) (x8 1))))
def jA (Aa:Addr):List PV->Option PV:=g8 2 2 (JV Aa)
theorem Do:v9 ["self","name"] ["self","name"] (j8 ZC):=y9
theorem BP (F:Fun K "cloth" "Works.cloth" ZC f fd)(Ab:mg "isinstance"=none)(Ej:mg "str"=none)[zn K Aa][NoA K Aa "held"]:FnOk P w K mg base v5 1 f fd ["self","name"] (v6 (jA Aa)) :=
 c8 (k:=0) (b:=(JV Aa)) F Do rfl λcdv A outer s H E hr=>⟨_,(j5 (p6 (PW.pt (xj (qe (qf (K:=K) rfl (u5 (xG (K:=K) rfl) rfl Ab xD (aC (pv 1) (aW (xP (v:= .ty "str") rfl Ej VU rfl)))) (λ_=>rfl))) (zD (YE (Ck (zN hr) (pv 1) (QT (K:=K) rfl (pv 0) rfl)))))) (j7 xv) p9)
  (j7 (w9 (wz (zN hr) (QT (K:=K) rfl (pv 0) rfl) (pv 1) (λ_ _=>rfl))))),
  inferInstance⟩
abbrev ZG:Stmt:=top 25
abbrev JZ (Aa:Addr):MS:=(w4 (b9 (c5 (p8 (z5 m7 (q8 (x8 1) (q8 (dC (.ty "list")) x9))))) (u3 (dC (.bl false))) c4)
  (w4 (o3 2 (zd Aa "names" (jB Aa) (q9 0) x9))
  (u3 (xm (z5 xr (q8 (u6 [none,some 2] [0] (y7 (q9 1)) (v3 0) k4 (z6 (pIn false) (x8 0) (x8 1))) x9)) (z6 qd (Wh (x8 1)) (z5 m8 (q8 (x8 1) x9)))))))
def vY (Aa:Addr):List PV->Option PV:=g8 3 2 (JZ Aa)
theorem sc_are_names:v9 ["works","names","known"] ["works","names"] (j8 ZG):=y9
theorem BV (F:Fun K "are_names" "are_names" ZG f fd)(An:mg "all"=none)(Ab:mg "isinstance"=none)(Ac:mg "len"=none)(Ag:mg "list"=none)(Ig:mg "set"=none)(Aj:Mt P w K mg base 1 Aa "names" ["self"] (spO (jB Aa))):FnOk P w K mg base v5 2 f fd ["works","names"] (v6 (vY Aa)) :=
 c8 (k:=1) (b:=(JZ Aa)) F sc_are_names rfl λcdv A outer s H E hr=>⟨_,(j5 (p6 (qe (qf (K:=K) rfl (u5 (xG (K:=K) rfl) rfl Ab xD (aC (pv 1) (aW (xP (v:= .ty "list") rfl Ag xE rfl)))) (λ_=>rfl))) (j7 (w9 xO)) p9)
  (j5 (sW 2 sc_are_names.nd (QW Aj hr (by decide) (pv 0)))
  (j7 (w9 (zB (u5 (jr (K:=K) rfl rfl) rfl An jq (aW (o5 (N':=["thing","known"]) (cap:=[none,some 2]) (b7 rfl rfl rfl) rfl (@p5 _ K _ _ _ rfl (pv 1)) (λ_ _ _ _ _ _=>(g9 (i:=0) (by show (["thing","known"]:List Str).Nodup;decide +kernel) rfl (Or.inl rfl))) (λ_ _ _ _ _ _=>c6) (λ_ _ _ _ _ _=>(zi (Yo (K:=K) rfl) (pv 0) (pv 1) (by with_unfolding_all rfl)))))) (zX (zi (xq (K:=K) (i7 hr) rfl) (u5 GB rfl Ac PySem.boot_len (aW (zC (GE (K:=K) rfl rfl) rfl Ig Gp (aW (pv 1))))) (u5 (i0 (K:=K) rfl) rfl Ac PySem.boot_len (aW (pv 1))) (k7 _)))))))),
  inferInstance⟩
abbrev ZU:Stmt:=top 26
abbrev Vm (Aa:Addr):MS:=(u3 (xm (z5 (vY Aa) (q8 (q9 0) (q8 (q9 1) x9))) (z6 qd (z5 m8 (q8 (x8 1) x9)) (z5 m8 (q8 (zd Aa "names" (jB Aa) (q9 0) x9) x9)))))
def wc (Aa:Addr):List PV->Option PV:=g8 2 2 (Vm Aa)
theorem DD:v9 ["works","names"] ["works","names"] (j8 ZU):=y9
theorem Pj (F:Fun K "is_plan" "is_plan" ZU f fd)(D1:Fn P w K mg base 2 "are_names" ["works","names"] (v6 (vY Aa)))(Ac:mg "len"=none)(Aj:Mt P w K mg base 1 Aa "names" ["self"] (spO (jB Aa))):FnOk P w K mg base v5 3 f fd ["works","names"] (v6 (wc Aa)) :=
 c8 (k:=2) (b:=(Vm Aa)) F DD rfl λcdv A outer s H E hr=>⟨_,(j7 (w9 (zB (fW D1 hr (aC (pv 0) (aW (pv 1)))) (zX (zi (xq (K:=K) (i7 hr) rfl) (u5 (i0 (K:=K) rfl) rfl Ac PySem.boot_len (aW (pv 1))) (u5 (i0 (K:=K) rfl) rfl Ac PySem.boot_len (aW (QW Aj hr (by decide) (pv 0)))) (k7 _)))))),
  inferInstance⟩
abbrev ZM:Stmt:=top 28
abbrev Vf (Aa:Addr):MS:=(u3 (u6 [none,some 0] [0] (y7 (q9 1)) (v3 0) k4 (zd Aa "cloth" (jA Aa) (q9 1) (q8 (q9 0) x9))))
def wa (Aa:Addr):List PV->Option PV:=g8 2 2 (Vf Aa)
theorem Dw:v9 ["works","tray"] ["works","tray"] (j8 ZM):=y9
theorem Pb (F:Fun K "cloths_of" "cloths_of" ZM f fd)(Ak:Mt P w K mg base 1 Aa "cloth" ["self","name"] (v6 (jA Aa))):FnOk P w K mg base v5 2 f fd ["works","tray"] (v6 (wa Aa)) :=
 c8 (k:=1) (b:=(Vf Aa)) F Dw rfl λcdv A outer s H E hr=>⟨_,(j7 (w9 (o5 (N':=["name","works"]) (cap:=[none,some 0]) (b7 rfl rfl rfl) rfl (@p5 _ K _ _ _ rfl (pv 1)) (λ_ _ _ _ _ _=>(g9 (i:=0) (by show (["name","works"]:List Str).Nodup;decide +kernel) rfl (Or.inl rfl))) (λ_ _ _ _ _ _=>c6) (λ_ _ _ _ _ _=>(Yv Ak hr (by decide) (pv 1) (aW (pv 0))))))),
  inferInstance⟩
abbrev Jo:Stmt:=top 29
abbrev VG (Aa:Addr):MS:=(u3 (z5 zR (q8 (zd Aa "cloth" (jA Aa) (q9 0) (q8 (z6 w5 (x8 1) (dC (.int 0))) x9)) x9)))
def zU (Aa:Addr):List PV->Option PV:=g8 2 2 (VG Aa)
theorem DN:v9 ["works","tray"] ["works","tray"] (j8 Jo):=y9
theorem PN (F:Fun K "tray_hue" "tray_hue" Jo f fd)(Ao:Fn P w K mg base 1 "hue_of" ["cloth"] (v6 zR))(Ak:Mt P w K mg base 1 Aa "cloth" ["self","name"] (v6 (jA Aa))):FnOk P w K mg base v5 2 f fd ["works","tray"] (v6 (zU Aa)) :=
 c8 (k:=1) (b:=(VG Aa)) F DN rfl λcdv A outer s H E hr=>⟨_,(j7 (w9 (fW Ao hr (aW (Yv Ak hr (by decide) (pv 0) (aW (iW (K:=K) rfl (pv 1) z7))))))),
  inferInstance⟩
abbrev ZT:Stmt:=top 30
abbrev Vl (Aa:Addr):MS:=(u3 (z5 xr (q8 (u6 [none,some 0,some 1] [0] (y7 (z5 (wa Aa) (q8 (q9 0) (q8 (q9 1) x9)))) (v3 0) k4 (z6 qd (z5 zR (q8 (q9 0) x9)) (z5 (zU Aa) (q8 (q9 1) (q8 (q9 2) x9))))) x9)))
def wb (Aa:Addr):List PV->Option PV:=g8 2 2 (Vl Aa)
theorem DC:v9 ["works","tray"] ["works","tray"] (j8 ZT):=y9
theorem Pi (F:Fun K "is_of_one_hue" "is_of_one_hue" ZT f fd)(D2:Fn P w K mg base 2 "cloths_of" ["works","tray"] (v6 (wa Aa)))(Ao:Fn P w K mg base 1 "hue_of" ["cloth"] (v6 zR))(Ap:Fn P w K mg base 2 "tray_hue" ["works","tray"] (v6 (zU Aa)))(An:mg "all"=none):FnOk P w K mg base v5 3 f fd ["works","tray"] (v6 (wb Aa)) :=
 c8 (k:=2) (b:=(Vl Aa)) F DC rfl λcdv A outer s H E hr=>⟨_,(j7 (w9 (u5 (jr (K:=K) rfl rfl) rfl An jq (aW (o5 (N':=["cloth","works","tray"]) (cap:=[none,some 0,some 1]) (b7 rfl rfl rfl) rfl (@p5 _ K _ _ _ rfl (fW D2 hr (aC (pv 0) (aW (pv 1))))) (λ_ _ _ _ _ _=>(g9 (i:=0) (by show (["cloth","works","tray"]:List Str).Nodup;decide +kernel) rfl (Or.inl rfl))) (λ_ _ _ _ _ _=>c6) (λ_ _ _ _ _ _=>(zi (xq (K:=K) (i7 hr) rfl) (fW Ao hr (aW (pv 0))) (fW Ap hr (aC (pv 1) (aW (pv 2)))) (k7 _)))))))),
  inferInstance⟩
abbrev ZF:Stmt:=top 31
abbrev JY:MS:=(u3 (xm (z5 m7 (q8 (x8 0) (q8 (dC (.ty "list")) x9))) (z5 xr (q8 (u6 [none] [0] (y7 (q9 0)) (v3 0) k4 (xm (z5 m7 (q8 (x8 0) (q8 (dC (.ty "list")) x9))) (z6 pGt (z5 m8 (q8 (x8 0) x9)) (dC (.int 0))))) x9))))
def QA:List PV->Option PV:=g8 1 1 JY
theorem Dt:v9 ["trays"] ["trays"] (j8 ZF):=y9
theorem BU (F:Fun K "are_full_lists" "are_full_lists" ZF f fd)(An:mg "all"=none)(Ab:mg "isinstance"=none)(Ac:mg "len"=none)(Ag:mg "list"=none):FnOk P w K mg base v5 1 f fd ["trays"] (v6 QA) :=
 c8 (k:=0) (b:=JY) F Dt rfl λcdv A outer s H E hr=>⟨_,(j7 (w9 (zB (u5 (xG (K:=K) rfl) rfl Ab xD (aC (pv 0) (aW (xP (v:= .ty "list") rfl Ag xE rfl)))) (zX (u5 (jr (K:=K) rfl rfl) rfl An jq (aW (o5 (N':=["tray"]) (cap:=[none]) (b7 rfl rfl rfl) rfl (@p5 _ K _ _ _ rfl (pv 0)) (λ_ _ _ _ _ _=>(g9 (i:=0) (by show (["tray"]:List Str).Nodup;decide +kernel) rfl (Or.inl rfl))) (λ_ _ _ _ _ _=>c6) (λ_ _ _ _ _ _=>(zB (u5 (xG (K:=K) rfl) rfl Ab xD (aC (pv 0) (aW (xP (v:= .ty "list") rfl Ag xE rfl)))) (zX (zi (QO) (u5 (i0 (K:=K) rfl) rfl Ac PySem.boot_len (aW (pv 0))) z7 (k7 _)))))))))))),
  inferInstance⟩
abbrev ZK:Stmt:=top 32
abbrev Vd (Aa:Addr):MS:=(w4 (b9 (n9 (c5 (p8 (z5 QA (q8 (q9 1) x9)))) (c5 (p8 (z5 (wc Aa) (q8 (q9 0) (q8 (Qk (x8 1)) x9)))))) o9 c4)
  (b9 (c5 (p8 (z5 xr (q8 (u6 [none,some 0] [0] (y7 (q9 1)) (v3 0) k4 (z5 (wb Aa) (q8 (q9 1) (q8 (q9 0) x9)))) x9)))) o9 c4))
def vZ (Aa:Addr):List PV->Option PV:=g8 2 2 (Vd Aa)
theorem Dv:v9 ["works","trays"] ["works","trays"] (j8 ZK):=y9
theorem BZ (F:Fun K "check_trays" "check_trays" ZK f fd)(Ar:Fn P w K mg base 1 "are_full_lists" ["trays"] (v6 QA))(As:Fn P w K mg base 3 "is_of_one_hue" ["works","tray"] (v6 (wb Aa)))(D7:Fn P w K mg base 3 "is_plan" ["works","names"] (v6 (wc Aa)))(An:mg "all"=none)(D9:mg "sum"=none):FnOk P w K mg base v5 4 f fd ["works","trays"] (v6 (vZ Aa)) :=
 c8 (k:=3) (b:=(Vd Aa)) F Dv rfl λcdv A outer s H E hr=>⟨_,(j5 (p6 (PW.pt (xj (qe (qf (K:=K) rfl (fW Ar hr (aW (pv 1))) (λ_=>rfl))) (zD (qe (qf (K:=K) rfl (fW D7 hr (aC (pv 0) (aW (Cw (K:=K) rfl rfl rfl D9 (aW (pv 1)))))) (λ_=>rfl)))))) (j7 xv) p9)
  (j7 (p6 (qe (qf (K:=K) rfl (u5 (jr (K:=K) rfl rfl) rfl An jq (aW (o5 (N':=["tray","works"]) (cap:=[none,some 0]) (b7 rfl rfl rfl) rfl (@p5 _ K _ _ _ rfl (pv 1)) (λ_ _ _ _ _ _=>(g9 (i:=0) (by show (["tray","works"]:List Str).Nodup;decide +kernel) rfl (Or.inl rfl))) (λ_ _ _ _ _ _=>c6) (λ_ _ _ _ _ _=>(fW As hr (aC (pv 1) (aW (pv 0)))))))) (λ_=>rfl))) (j7 xv) p9))),
  inferInstance⟩
abbrev Jk:Stmt:=top 33
abbrev VC:MS:=(w4 (xI (xn (q8 (q9 0) x9)) (qI 2 (m5 (v3 2) (m5 (v3 3) qH))) (b9 (dT (z6 (pIn false) (x8 1) (x8 3))) (u3 (q9 2)) c4))
  (u3 (dC .non)))
def wj:List PV->Option PV:=g8 4 2 VC
theorem sc_place_of:v9 ["trays","name","place","tray"] ["trays","name"] (j8 Jk):=y9
theorem PF (F:Fun K "place_of" "place_of" Jk f fd)(Af:mg "enumerate"=none):FnOk P w K mg base v5 1 f fd ["trays","name"] (v6 wj) :=
 c8 (k:=0) (b:=VC) F sc_place_of rfl λcdv A outer s H E hr=>⟨_,(j5 (xu PassesOwn.never rfl (QY (K:=K) rfl rfl Af (aW (pv 0))) (wA (K:=K) (n:=2) rfl rfl (zj (gW 2 sc_place_of.nd) (zj (gW 3 sc_place_of.nd) wB)))
   (j7 (p6 (c3 (Yo (K:=K) rfl) (pv 1) (pv 3) (by with_unfolding_all rfl)) (j7 (w9 (pv 2))) p9)))
  (j7 (w9 jH))),
  inferInstance⟩
abbrev Jr:Stmt:=top 34
abbrev VJ:MS:=(u3 (u6 [none,some 1] [0] (y7 (q9 0)) (v3 0) (dT (z6 t0 (x8 0) (x8 1))) (q9 0)))
def wo:List PV->Option PV:=xH 2 2 VJ
theorem DO:v9 ["tray","name"] ["tray","name"] (j8 Jr):=y9
theorem PR (F:Fun K "tray_without" "tray_without" Jr f fd):FnOk P w K mg base v5 1 f fd ["tray","name"] (spO wo) :=
 okO (k:=0) (b:=VJ) F DO rfl λcdv A outer s H E hr=>⟨_,(j7 (w9 (o5 (N':=["other","name"]) (cap:=[none,some 1]) (b7 rfl rfl rfl) rfl (@p5 _ K _ _ _ rfl (pv 0)) (λ_ _ _ _ _ _=>(g9 (i:=0) (by show (["other","name"]:List Str).Nodup;decide +kernel) rfl (Or.inl rfl))) (λ_ _ _ _ _ _=>(vA (c3 (xN (K:=K) (i7 hr) rfl) (pv 0) (pv 1) (k7 _)))) (λ_ _ _ _ _ _=>(pv 0))))),
  inferInstance⟩
abbrev Jp:Stmt:=top 35
abbrev VH:MS:=(w4 (zL 2 [none,some 1] [0] (y7 (q9 0)) (v3 0) k4 (z5 wo (q8 (q9 0) (q8 (z6 w5 (x8 1) (dC (.int 0))) x9))) (z6 w5 (x8 1) (dC (.int 1))) (z6 w5 (x8 1) (dC (.int 0))))
  (u3 (zr [none] [0] (y7 (x8 2)) (v3 0) (p8 (x8 0)) (q9 0))))
abbrev wn:List PV->Option PV:=mZ (g8 3 2 VH)
theorem sc_tray_moved:v9 ["trays","move","found"] ["trays","move"] (j8 Jp):=y9
theorem PP (F:Fun K "tray_moved" "tray_moved" Jp f fd)(A0:Fn P w K mg base 1 "tray_without" ["tray","name"] (spO wo)):FnOk P w K mg base v5 2 f fd ["trays","move"] (spZ wn) :=
 okZ (k:=1) (b:=VH) F sc_tray_moved rfl λcdv A outer s H E hr=>⟨_,(j5 (xi (i:=2) (N':=["tray","move"]) (cap:=[none,some 1]) (b7 rfl rfl rfl) rfl sc_tray_moved.nd rfl rfl (@p5 _ K _ _ _ rfl (pv 0)) (λ_ _ _ _ _ _=>(g9 (i:=0) (by show (["tray","move"]:List Str).Nodup;decide +kernel) rfl (Or.inl rfl))) (λ_ _ _ _ _ _=>c6) (λ_ _ _ _ _ _=>(fW A0 hr (aC (pv 0) (aW (iW (K:=K) rfl (pv 1) z7))))))
  (j5 (xh (zh (K:=K) rfl PySem.F.plainAttrs_list PySem.F.slot_list_append PySem.F.type_list_append jD (iW (K:=K) rfl (pv 2) (iW (K:=K) rfl (pv 1) z7)) (j6 (iW (K:=K) rfl (pv 1) z7) y2)))
  (j7 (w9 (o5 (N':=["tray"]) (cap:=[none]) (b7 rfl rfl rfl) rfl (@p5 _ K _ _ _ rfl (pv 2)) (λ_ _ _ _ _ _=>(g9 (i:=0) (by show (["tray"]:List Str).Nodup;decide +kernel) rfl (Or.inl rfl))) (λ_ _ _ _ _ _=>(vA (qf (K:=K) rfl (pv 0) (λ_=>rfl)))) (λ_ _ _ _ _ _=>(pv 0))))))),
  by infer_instance⟩
abbrev ZW:Stmt:=top 36
abbrev Vo (Aa:Addr):MS:=(w4 (o3 3 (z5 wj (q8 (q9 1) (q8 (z6 w5 (x8 2) (dC (.int 0))) x9))))
  (w4 (o3 4 (z6 w5 (x8 2) (dC (.int 1))))
  (w4 (b9 (n9 (dT (z6 wx (x8 3) (dC .non))) (n9 (dT (z6 qd (x8 3) (x8 4))) (c5 (dT (zq pLe pLt (dC (.int 0)) (x8 4) (z5 m8 (q8 (x8 1) x9))))))) (u3 (dC (.bl false))) c4)
  (u3 (z6 qd (z5 (zU Aa) (q8 (q9 0) (q8 (z6 w5 (x8 1) (x8 3)) x9))) (z5 (zU Aa) (q8 (q9 0) (q8 (z6 w5 (x8 1) (x8 4)) x9))))))))
def zS (Aa:Addr):List PV->Option PV:=g8 5 3 (Vo Aa)
theorem sc_is_tray_move:v9 ["works","trays","move","at","to"] ["works","trays","move"] (j8 ZW):=y9
theorem Pl (F:Fun K "is_tray_move" "is_tray_move" ZW f fd)(D4:Fn P w K mg base 1 "place_of" ["trays","name"] (v6 wj))(Ap:Fn P w K mg base 2 "tray_hue" ["works","tray"] (v6 (zU Aa)))(Ac:mg "len"=none):FnOk P w K mg base v5 3 f fd ["works","trays","move"] (v6 (zS Aa)) :=
 c8 (k:=2) (b:=(Vo Aa)) F sc_is_tray_move rfl λcdv A outer s H E hr=>⟨_,(j5 (sW 3 sc_is_tray_move.nd (fW D4 hr (aC (pv 1) (aW (iW (K:=K) rfl (pv 2) z7)))))
  (j5 (sW 4 sc_is_tray_move.nd (iW (K:=K) rfl (pv 2) z7))
  (j5 (p6 (PW.pt (xj (c3 (Yp) (pv 3) jH (k7 _)) (xj (c3 (xq (K:=K) (i7 hr) rfl) (pv 3) (pv 4) (k7 _)) (zD (qe (Zp (wu) (QP) z7 (pv 4) (u5 (i0 (K:=K) rfl) rfl Ac PySem.boot_len (aW (pv 1))))))))) (j7 (w9 xO)) p9)
  (j7 (w9 (zi (xq (K:=K) (i7 hr) rfl) (fW Ap hr (aC (pv 0) (aW (iW (K:=K) rfl (pv 1) (pv 3))))) (fW Ap hr (aC (pv 0) (aW (iW (K:=K) rfl (pv 1) (pv 4))))) (k7 _))))))),
  inferInstance⟩
instance:JN 3 (xn (q8 (q9 2) x9)) where
 h:=λε s s'=>by
  have e:q8 (q9 2) x9 (ε.set 3 s)=q8 (q9 2) x9 (ε.set 3 s'):=by unfold q8;rw [GX (by decide) ε s s'];rfl
  unfold xn;rw [e]
abbrev Jq:Stmt:=top 37
abbrev VI (Aa:Addr):MS:=(w4 (zt (z5 (vZ Aa) (q8 (q9 0) (q8 (q9 1) x9))))
  (w4 (o3 3 (u6 [none] [0] (y7 (q9 1)) (v3 0) k4 (z5 zA (q8 (x8 0) x9))))
  (w4 (xI (xn (q8 (q9 2) x9)) (qI 2 (m5 (v3 4) (m5 (v3 5) qH))) (w4 (b9 (c5 (p8 (z5 (zS Aa) (q8 (q9 0) (q8 (q9 3) (q8 (q9 5) x9)))))) o9 c4)
  (o3 3 (z5 wn (q8 (q9 3) (q8 (q9 5) x9))))))
  (u3 (q9 3)))))
abbrev qk (Aa:Addr):List PV->Option PV:=mZ (g8 6 3 (VI Aa))
theorem sc_tray_walked:v9 ["works","trays","moves","found","number","move"] ["works","trays","moves"] (j8 Jq):=y9
theorem PQ (F:Fun K "tray_walked" "tray_walked" Jq f fd)(A8:Fn P w K mg base 4 "check_trays" ["works","trays"] (v6 (vZ Aa)))(A6:Fn P w K mg base 3 "is_tray_move" ["works","trays","move"] (v6 (zS Aa)))(B4:Fn P w K mg base 2 "tray_moved" ["trays","move"] (spZ wn))(Af:mg "enumerate"=none)(Ag:mg "list"=none):FnOk P w K mg base v5 5 f fd ["works","trays","moves"] (spZ (qk Aa)) :=
 okZ (k:=4) (b:=(VI Aa)) F sc_tray_walked rfl λcdv A outer s H E hr=>⟨_,(j5 (xh (fW A8 hr (aC (pv 0) (aW (pv 1)))))
  (j5 (xi (i:=3) (N':=["tray"]) (cap:=[none]) (b7 rfl rfl rfl) rfl sc_tray_walked.nd rfl rfl (@p5 _ K _ _ _ rfl (pv 1)) (λ_ _ _ _ _ _=>(g9 (i:=0) (by show (["tray"]:List Str).Nodup;decide +kernel) rfl (Or.inl rfl))) (λ_ _ _ _ _ _=>c6) (λ_ _ _ _ _ _=>(zC (vN (K:=K) rfl) rfl Ag xE (aW (pv 0)))))
  (j5 (xu PassesOwn.never rfl (QY (K:=K) rfl rfl Af (aW (pv 2))) (wA (K:=K) (n:=2) rfl rfl (zj (gW 4 sc_tray_walked.nd) (zj (gW 5 sc_tray_walked.nd) wB)))
   (j5 (p6 (qe (qf (K:=K) rfl (fW A6 hr (aC (pv 0) (aC (pv 3) (aW (pv 5))))) (λ_=>rfl))) (j7 xv) p9)
  (j7 (sW 3 sc_tray_walked.nd (fW B4 hr (aC (pv 3) (aW (pv 5))))))))
  (j7 (w9 (pv 3)))))),
  by infer_instance⟩
abbrev jN:Stmt:=Qv (top 53) 0
abbrev Qe (Aa:Addr):MS:=(w4 (ze Aa "least" (z5 QH (q8 (q9 1) x9)))
  (w4 (zt (z5 QD (q8 (q9 3) (q8 (q9 4) (q8 (ve Aa "hues" (vq Aa) 0 x9) x9)))))
  (w4 (zt (z5 QB (q8 (q9 2) (q8 (ve Aa "hues" (vq Aa) 0 x9) x9))))
  (w4 (ze Aa "given" (u6 [none] [0] (y7 (q9 1)) (v3 0) k4 (z5 zA (q8 (x8 0) x9))))
  (w4 (ze Aa "held" (z5 jG (q8 (u6 [none] [0] (y7 (q9 2)) (v3 0) k4 (xK (q8 (z5 zy (q8 (q9 0) x9)) (q8 (q9 0) x9)))) x9)))
  (w4 (ze Aa "last" (dIf (dT (z6 wx (x8 3) (dC .non))) (dUn pNeg (dC (.int 1))) (q9 3)))
  (ze Aa "time" (q9 4))))))))
def vt (Aa:Addr):List PV->Option PV:=vO 5 5 Aa (Qe Aa)
theorem Dq:v9 ["self","rinses","cloths","last","time"] ["self","rinses","cloths","last","time"] (j8 jN):=y9
theorem BR (F:FunD K "__init__" "Works.__init__" jN f fd)(Aw:Fn P w K mg base 4 "check_cloths" ["cloths","hues"] (v6 QB))(A9:Fn P w K mg base 3 "check_start" ["last","time","hues"] (v6 QD))(A4:Fn P w K mg base 4 "least_rinses" ["rinses"] (spO QH))(Al:Fn P w K mg base 1 "name_of" ["cloth"] (v6 zy))(B6:mg "dict"=none)(Ag:mg "list"=none)[zn K Aa][NoA K Aa "given"][NoA K Aa "held"][NoA K Aa "last"][NoA K Aa "least"][NoA K Aa "time"](Au:Mt P w K mg base 1 Aa "hues" ["self"] (v6 (vq Aa))):FnOk P w K mg base v5 5 f fd ["self","rinses","cloths","last","time"] (spI Aa (vt Aa)) :=
 okID (k:=4) (b:=Qe Aa) F Dq rfl (λcdv A outer s H E hr=>⟨_,(j5 (wH (K:=K) rfl (pv 0) (fW A4 hr (aW (pv 1))))
  (j5 (xh (fW A9 hr (aC (pv 3) (aC (pv 4) (aW (QW Au hr (by decide) (pv 0)))))))
  (j5 (xh (fW Aw hr (aC (pv 2) (aW (QW Au hr (by decide) (pv 0))))))
  (j5 (wH (K:=K) rfl (pv 0) (o5 (N':=["row"]) (cap:=[none]) (b7 rfl rfl rfl) rfl (@p5 _ K _ _ _ rfl (pv 1)) (λ_ _ _ _ _ _=>(g9 (i:=0) (by show (["row"]:List Str).Nodup;decide +kernel) rfl (Or.inl rfl))) (λ_ _ _ _ _ _=>c6) (λ_ _ _ _ _ _=>(zC (vN (K:=K) rfl) rfl Ag xE (aW (pv 0))))))
  (j5 (wH (K:=K) rfl (pv 0) (zC (Xo (K:=K) rfl rfl) rfl B6 Xn (aW (o5 (N':=["cloth"]) (cap:=[none]) (b7 rfl rfl rfl) rfl (@p5 _ K _ _ _ rfl (pv 2)) (λ_ _ _ _ _ _=>(g9 (i:=0) (by show (["cloth"]:List Str).Nodup;decide +kernel) rfl (Or.inl rfl))) (λ_ _ _ _ _ _=>c6) (λ_ _ _ _ _ _=>(@zY _ _ _ _ _ (aC (fW Al hr (aW (pv 0))) (aW (pv 0)))))))))
  (j5 (wH (K:=K) rfl (pv 0) (Yu (c3 (Yp) (pv 3) jH (k7 _)) (Yx UK z7) (pv 3)))
  (j7 (wH (K:=K) rfl (pv 0) (pv 4))))))))),
  (by repeat' first|infer_instance|(refine @Mi.DV _ _ _ _ ?_ ?_))⟩)
abbrev ZZ:Stmt:=top 64
abbrev Vr:MS:=(w4 (zL 3 [none,some 1] [0] (y7 (q9 0)) (v3 0) k4 (u6 [none,some 1] [0] (y7 (q9 0)) (v3 0) (dT (z6 t0 (x8 0) (x8 1))) (q9 0)) (q9 2) (q9 1))
  (u3 (zr [none] [0] (y7 (x8 3)) (v3 0) (dT (z6 pGt (z5 m8 (q8 (x8 0) x9)) (dC (.int 0)))) (q9 0))))
def QG:List PV->Option PV:=g8 4 3 Vr
theorem sc_l_tray_moved:v9 ["trays","name","to","here"] ["trays","name","to"] (j8 ZZ):=y9
theorem Po (F:Fun K "_law_tray_moved" "_law_tray_moved" ZZ f fd)(Ac:mg "len"=none):FnOk P w K mg base v5 1 f fd ["trays","name","to"] (v6 QG) :=
 c8 (k:=0) (b:=Vr) F sc_l_tray_moved rfl λcdv A outer s H E hr=>⟨_,(j5 (xi (i:=3) (N':=["tray","name"]) (cap:=[none,some 1]) (b7 rfl rfl rfl) rfl sc_l_tray_moved.nd rfl rfl (@p5 _ K _ _ _ rfl (pv 0)) (λ_ _ _ _ _ _=>(g9 (i:=0) (by show (["tray","name"]:List Str).Nodup;decide +kernel) rfl (Or.inl rfl))) (λ_ _ _ _ _ _=>c6) (λ_ _ _ _ _ _=>(o5 (N':=["other","name"]) (cap:=[none,some 1]) (b7 rfl rfl rfl) rfl (@p5 _ K _ _ _ rfl (pv 0)) (λ_ _ _ _ _ _=>(g9 (i:=0) (by show (["other","name"]:List Str).Nodup;decide +kernel) rfl (Or.inl rfl))) (λ_ _ _ _ _ _=>(vA (c3 (xN (K:=K) (i7 hr) rfl) (pv 0) (pv 1) (k7 _)))) (λ_ _ _ _ _ _=>(pv 0)))))
  (j5 (xh (zh (K:=K) rfl PySem.F.plainAttrs_list PySem.F.slot_list_append PySem.F.type_list_append jD (iW (K:=K) rfl (pv 3) (pv 2)) (j6 (pv 1) y2)))
  (j7 (w9 (o5 (N':=["tray"]) (cap:=[none]) (b7 rfl rfl rfl) rfl (@p5 _ K _ _ _ rfl (pv 3)) (λ_ _ _ _ _ _=>(g9 (i:=0) (by show (["tray"]:List Str).Nodup;decide +kernel) rfl (Or.inl rfl))) (λ_ _ _ _ _ _=>(vA (c3 (QO) (u5 (i0 (K:=K) rfl) rfl Ac PySem.boot_len (aW (pv 0))) z7 (k7 _)))) (λ_ _ _ _ _ _=>(pv 0))))))),
  inferInstance⟩
theorem JH (n:Int):zT [.at (.int n)]=some (.at (.bl true)):=r6 rfl (m4 (zv (j9 rfl KS) (Kk (v:=false) (j9 rfl KU))))
theorem MT (n k:Int):zg [.at (.int n),.at (.int k)]=some (.at (.bl (decide (k<=n)))):=r6 rfl (m4 (zv (j9 rfl (JH n)) rfl))
theorem wU {k:Int}(h:k<=n):zg [.at (.int n),.at (.int k)]=some (.at (.bl true)):=(MT n k).trans (by rw [yt h])
theorem MY (h:jV s):QF [.at (.str s)]=some (.at (.bl true)):=by
 have hl:lim=1000000:=rfl;have l1:=h.one;have l8:=h.eight;have ln:m8 [.at (.str s)]=some (.at (.int s.length)):=if_pos (by omega);refine r6 rfl (k6 (qi (qY (qh (qz (j9 rfl WN))) (qh (k5 (Xy (r:=true) rfl (j9 rfl ln) ?_ rfl ?_)))) qA) (m4 (j9 (v4 (o4 (λc:Nat=>PV.at (.str ⟨#[c]⟩)) (λ_=>PV.at (.bl true)) s.cps.toList rfl rfl ?_ ?_) rfl) (jp _))))
 ·show some (PV.at (.bl (decide ((1:Int)<=(s.length:Int)))))=_;rw [yt (by omega)]
 ·show some (PV.at (.bl (decide ((s.length:Int)<=8))))=_;rw [yt (by omega)]
 ·have:s.cps.toList.length=s.length:=by simp [Str.length]
  omega
 ·intro c hc;obtain ⟨c1,c2⟩:=h.low c hc;refine ⟨_,rfl,Xy rfl rfl ?_ rfl ?_⟩
  ·show some (PV.at (.bl (!decide ([c]<("a":Str).cps.toList))))=_;have e:¬ ([c]<[97]):=by rw [List.cons_lt_cons_iff];simp;omega
   rw [show ("a":Str).cps.toList=[97] by decide +kernel,yD e];rfl
  ·show some (PV.at (.bl (!decide (("z":Str).cps.toList<[c]))))=_;have e:¬ ([122]<[c]):=by rw [List.cons_lt_cons_iff];simp;omega
   rw [show ("z":Str).cps.toList=[122] by decide +kernel,yD e];rfl
theorem MW (ok:c.Ok h):QE [c.pv,.at (.int h)]=some (.at (.bl true)):=by refine r6 rfl (k6 (qi (qY (qh (qz (j9 rfl KW))) (k5 (v:=false) rfl)) qA) (k6 (qi (qY (qh (qz (j9 (v4 (j9 rfl rfl) rfl) (MY ok.nm)))) (qY (qh (qz (j9 (v4 (j9 rfl rfl) rfl) (wU (n:=(c.hue:Int)) (k:=0) (by omega))))) (k5 (v:=false) (v8 (j9 rfl rfl) rfl ?_)))) qA) (m4 (zv (j9 (v4 (j9 rfl rfl) rfl) (wU ok.l1)) (zv (j9 (v4 (j9 rfl rfl) rfl) (JH _)) (j9 (v4 (j9 rfl rfl) rfl) (wU ok.w1)))))));show some (PV.at (.bl (decide ((h:Int)<=(c.hue:Int)))))=_;have:=ok.hu;rw [yD (by omega)]
theorem MQ {l t:Int}(h1:-1<=l)(h2:l<(h:Int))(h3:0<=t):QD [.at (.int l),.at (.int t),.at (.int h)]=some (.at .non):=by refine Qq rfl (k6 (qi (Xt (v:=false) (k5 (v:=true) rfl) (qh (Xt (v:=true) (qz (j9 rfl (wU h1))) (k5 (v:=true) ?_)))) qA) (qi (qh (qz (j9 rfl (wU h3)))) qA));show some (PV.at (.bl (decide (l<(h:Int)))))=_;rw [yt h2]
def keysOf (cs:List Cl):List z9:=cs.map λc=>Sum.inr c.name
theorem Yb {x:Str}{α:Type}(f:Cl->PV):∀{cs:List Cl},x∉cs.map Cl.name->qc (.inr x) (keysOf cs) (cs.map f)=none
 |[],_=>rfl
 |c::cs,h=>by
  rw [yN] at h;show (if (Sum.inr c.name:z9) = .inr x then _ else qc (.inr x) (keysOf cs) (cs.map f))=_;rw [if_neg (λe=>h (by injection e with e;rw [e];exact yO)),Yb (α:=α) f λz=>h (yT _ z)]
theorem Qy (f:Cl->PV):∀{cs:List Cl},(cs.map Cl.name).Nodup->∀ c∈cs,qc (.inr c.name) (keysOf cs) (cs.map f)=some (f c)
 |[],_,_,h=>nomatch h
 |d::cs,nd,c,h=>by
  rw [yN] at nd;have nd':=yF.mp nd;show (if (Sum.inr d.name:z9) = .inr c.name then some (f d) else qc (.inr c.name) (keysOf cs) (cs.map f))=_;rcases yM.mp h with rfl|h
  ·rw [if_pos rfl]
  ·rw [if_neg (λe=>nd'.1 (by injection e with e;rw [e];exact yq.mpr ⟨c,h,rfl⟩)),Qy f nd'.2 c h]
theorem MO {cls:List Cl}(hok:∀ c∈cls,c.Ok h)(nd:(cls.map Cl.name).Nodup)(ten:cls.length<=10):QB [.lst (cls.map Cl.pv),.at (.int h)]=some (.at .non):=by
 have hl:lim=1000000:=rfl;refine Qq rfl (k6 (qi (k5 (v:=false) (v8 (j9 rfl rfl) rfl ?_)) qA) (k6 (XB rfl) (vR rfl (XY Cl.pv (λl ε=>∃(done:List Cl)(s3:MSlot),done++l=cls/\ε=[.sh (.lst (cls.map Cl.pv)),.sh (.at (.int h)),.ow (.dk (keysOf done) (done.map λ_=>PV.at (.bl true))),s3]) ?_ cls _ ⟨[],.no,rfl,rfl⟩).choose_spec.1)))
 ·show some (PV.at (.bl (decide ((10:Int)<((cls.map Cl.pv).length:Int)))))=_;rw [yZ,yD (by omega)]
 ·rintro c l ε ⟨done,s3,e,rfl⟩;have hc:c∈cls:=by rw [<- e];exact yo _ yO
  have hn:c.name∉done.map Cl.name:=λz=>by
   rw [<- e,yB,yN] at nd;exact (uu.mp nd).2.2 _ z _ yO rfl
  have ln:=Yb (α:=Unit) (λ_=>PV.at (.bl true)) hn;have hd:done.length<=10:=by rw [<- e] at ten;rw [yL] at ten;omega
  refine ⟨_,_,rfl,k6 (qi (qh (qz (j9 rfl (MW (hok c hc))))) qA) (k6 (qi (k5 (v:=false) ?_) qA) ?_),done++[c],.sh c.pv,by rw [<- e,uV];rfl,rfl⟩
  ·show some (PV.at (.bl (qc (.inr c.name) (keysOf done) (done.map λ_=>PV.at (.bl true))).isSome))=_;rw [ln];rfl
  ·show (if (keysOf done).length<=lim then some (Out.nx [_,_,.ow (Xc (.inr c.name) (.at (.bl true)) (keysOf done) (done.map λ_=>PV.at (.bl true))),_]) else none)=_;unfold Xc;rw [if_pos (by unfold keysOf;rw [yZ];omega),ln];simp only [Option.isSome_none,uy,if_false];unfold keysOf;rw [yB,yB];rfl
def jv (n:Int):PV:= .at (.int n)
def qR (r:List Int):PV:= .lst (r.map jv)
def wyP (w:Wy):PV:= .tup [.at (.int w.1),.lst (w.2.map jv)]
def qg (ws:List Wy):PV:= .lst (ws.map wyP)
theorem Lh (hl:r.length=h)(h4:h<=4)(hv:∀ v∈r,0<=v):we [qR r,.at (.int h)]=some (.at (.bl true)):=by
 have hlim:lim=1000000:=rfl;refine r6 rfl (k6 (qi (qY (qh (qz (j9 rfl XO))) (k5 (v:=false) (v8 (j9 rfl rfl) rfl ?_))) qA) (m4 (j9 (v4 (o4 jv (λ_=>PV.at (.bl true)) r rfl rfl (by omega) λv hvm=>?_) rfl) (jp _))))
 ·show (peq 6 (.at (.int ((r.map jv).length:Int))) (.at (.int (h:Int)))).bind _=_;rw [yZ,hl];exact zV (x:= .at (.int (h:Int))) rfl
 ·refine ⟨_,rfl,zv (j9 rfl (JH v)) ?_⟩;show some (PV.at (.bl (decide ((0:Int)<=v))))=_;rw [yt (hv v hvm)]
theorem MP (G:qE h rss)(h1:1<=h)(h4:h<=4):QC [t6 rss]=some (.at .non):=by
 have hlim:lim=1000000:=rfl;have hlen:=G.len;have eh:((rss.map qR).length:Int)-1=(h:Int):=by rw [yZ,hlen];omega
 have step:∀(k:Int),k=(h:Int)->w4 (b9 (c5 (dT (zq pLe pLe (dC (.int 1)) (x8 1) (dC (.int 4))))) o9 c4)
  (b9 (c5 (p8 (z5 xr (q8 (u6 [none,some 1] [0] (y7 (q9 0)) (v3 0) k4 (z5 we (q8 (q9 0) (q8 (q9 1) x9)))) x9)))) o9 c4) [.sh (t6 rss),.sh (.at (.int k))]=some (.nx [.sh (t6 rss),.sh (.at (.int k))]):=by
  rintro k rfl;refine k6 (qi (qh (k5 (Xy (r:=true) rfl rfl ?_ rfl ?_))) qA) (qi (qh (qz (j9 (v4 (o4 qR (λ_=>PV.at (.bl true)) rss rfl rfl (by omega) λr hr=>⟨_,rfl,j9 rfl (Lh (G.row r hr).1 h4 λv hv=>((G.row r hr).2 v hv).1)⟩) rfl) (jp _)))) qA)
  ·show some (PV.at (.bl (decide ((1:Int)<=(h:Int)))))=_;rw [yt (by omega)]
  ·show some (PV.at (.bl (decide ((h:Int)<=4))))=_;rw [yt (by omega)]
 exact Qq rfl (k6 (qi (qh (qz (j9 rfl XO))) qA) (k6 (xo rfl) (step _ eh)))
theorem Ws {α:Type}(f:α->PV):∀(l:List α)(n:Nat),i5 n (l.map f)=(l.zipIdx n).map λp=>PV.tup [.at (.int ((p.2:Nat):Int)),f p.1]
 |[],_=>rfl
 |x::l,n=>by
  rw [yN,List.zipIdx_cons,yN];show PV.tup [.at (.int n),f x]::i5 (n+1) (l.map f)=_;rw [Ws f l (n+1)]
theorem Li (h:r.length<=4):wm [qR r]=some (qg (xT r)):=by
 have hlim:lim=1000000:=rfl;refine vi rfl (m4 ?_);have e:=o4 (cap:=[none,none]) (ts:=[0,1]) (it:=xn (q8 (q9 0) x9)) (g:=qI 2 (m5 (v3 0) (m5 (v3 1) qH))) (f:=xK (q8 (q9 1) (q8 (qw (q8 (q9 0) x9)) x9))) (ε:=[.sh (qR r)])
  (λp:Int×Nat=>PV.tup [.at (.int ((p.2:Nat):Int)),jv p.1]) (λp:Int×Nat=>wyP (p.1,[(p.2:Int)])) (r.zipIdx 0) (by show some (i5 0 (r.map jv))=_;rw [Ws]) rfl (by rw [List.length_zipIdx];omega) λp _=>⟨_,rfl,rfl⟩
 refine e.trans ?_;unfold qg xT;rw [List.mapIdx_eq_zipIdx_map,yr];rfl
theorem MZ {a b:Wy}(h:a.2.length+b.2.length<=1000):wf [wyP a,wyP b]=some (wyP (xL a b)):=by have hlim:lim=1000000:=rfl;refine r6 rfl (m4 (Qt (v4 (v8 rfl rfl rfl) (v4 (v8 rfl rfl (Ch (by rw [yZ,yZ];omega))) rfl)) (by first|decide|(show 1<=lim;decide)|(show 2<=lim;decide)|(show 3<=lim;decide))) |>.trans ?_);unfold wyP xL;rw [yB]
theorem Lc (a b:Wy):wg [wyP a,wyP b]=some (wyP (zf a b)):=by
 unfold zf;by_cases h:b.1<a.1
 ·rw [if_pos h];exact r6 rfl (m4 (Kj (k5 (v:=true) (v8 rfl rfl (show some (PV.at (.bl (decide (b.1<a.1))))=_ by rw [yt h]))) rfl))
 ·rw [if_neg h];exact r6 rfl (m4 (WB (k5 (v:=false) (v8 rfl rfl (show some (PV.at (.bl (decide (b.1<a.1))))=_ by rw [yD h]))) rfl))
theorem UY {α β:Type}(f:α->PV)(g:β->PV):∀(l:List α)(m:List β),qM (l.map f) (m.map g)=(l.zip m).map λp=>PV.tup [f p.1,g p.2]
 |[],_=>by cases ‹List β›<;>rfl
 |_::_,[]=>rfl
 |x::l,y::m=>by
  show PV.tup [f x,g y]::qM (l.map f) (m.map g)=_;rw [UY f g l m];rfl
theorem UZ {α β γ:Type}(f:α->β->γ):∀(l:List α)(m:List β),List.zipWith f l m=(l.zip m).map λp=>f p.1 p.2
 |[],_=>by simp
 |_::_,[]=>rfl
 |x::l,y::m=>by
  show f x y::List.zipWith f l m=_;rw [UZ f l m];rfl
theorem Lk {k:Nat}(hk:k<ws.length)(h4:ws.length<=4)(l1:∀ w∈ws,w.2.length<=100)(l2:∀ w∈onw,w.2.length<=100):vw [qg ws,.at (.int (k:Int)),qg onw]=some (qg (thr ws k onw)):=by
 have hlim:lim=1000000:=rfl;have hg:ws.getD k (0,[])=ws[k]:=i6 hk;have hw:=yz hk;refine vi rfl (m4 ?_);have e:=o4 (cap:=[none,none,some 0,some 1]) (ts:=[0,1]) (it:=dZip (q8 (q9 0) (q8 (q9 2) x9))) (g:=qI 2 (m5 (v3 0) (m5 (v3 1) qH))) (f:=z5 wg (q8 (q9 0) (q8 (z5 wf (q8 (z6 w5 (x8 2) (x8 3)) (q8 (q9 1) x9))) x9))) (ε:=[.sh (qg ws),.sh (.at (.int (k:Int))),.sh (qg onw)])
  (λp:Wy×Wy=>PV.tup [wyP p.1,wyP p.2]) (λp:Wy×Wy=>wyP (zf p.1 (xL ws[k] p.2))) (ws.zip onw) (by show some (qM (ws.map wyP) (onw.map wyP))=_;rw [UY]) rfl (by rw [List.length_zip];omega) λp hp=>⟨_,rfl,j9 (v4 rfl (v4 (j9 (v4 (v8 rfl rfl (qX (v:=wyP ws[k]) (by rw [yV,yU hk];rfl))) (v4 rfl rfl)) (MZ (by
   have q1:=l1 _ hw;have q2:=l2 p.2 (List.of_mem_zip hp).2;omega))) rfl)) (Lc _ _)⟩
 refine e.trans ?_;unfold qg thr;rw [hg,UZ,yr];rfl
theorem Lo {k:Nat}(G:qE h rss)(hk:k<=h)(h4:h<=4):∀ r∈c9 rss k,∀ w∈r,w.2.length<=100:=by
 intro r hr w hw;have S:=Shp.all G k hk;have F:=FW.all G k hk;obtain ⟨f,hf,rfl⟩:=uI hr;obtain ⟨g,hg,rfl⟩:=uI hw;have hf':f<=h:=by have:=S.len;omega
 have hg':g<h:=by rw [<- S.row _ hr];exact hg
 have e:y1 (c9 rss k) f g=(c9 rss k)[f][g]:=by unfold y1;rw [i6 hf,i6 hg]
 have q:=F.len f g hf' hg';rw [e] at q;have:2 ^ k<=2 ^ 4:=Nat.pow_le_pow_right (by decide) (by omega);omega
def wS (T:List (List Wy)):PV:= .lst (T.map qg)
theorem Lb (G:qE h rss)(h1:1<=h)(h4:h<=4):QI [t6 rss]=some (wS (c9 rss h)):=by
 have hlim:lim=1000000:=rfl;have hlimI:(lim:Int)=1000000:=rfl;have hlen:=G.len;have st:u6 [none] [0] (y7 (q9 0)) (v3 0) k4 (z5 wm (q8 (q9 0) x9)) [.sh (t6 rss),.no,.no,.no]=some (wS (c9 rss 0)):=by refine (o4 qR (λr=>qg (xT r)) rss rfl rfl (by omega) λr hr=>⟨_,rfl,j9 rfl (Li (by rw [(G.row r hr).1];exact h4))⟩).trans ?_;show _=some (PV.lst ((rss.map xT).map qg));rw [yr];rfl
 have rg:xJ (q8 (z6 zW (z5 m8 (q8 (x8 0) x9)) (dC (.int 1))) x9) [.sh (t6 rss),.sh (wS (c9 rss 0)),.no,.no]=some ((List.range h).map λ(i:Nat)=>PV.at (.int ((0:Int)+i))):=by refine vC (k:=h) (v4 (v8 (j9 rfl rfl) rfl ?_) rfl) (by omega);show some (PV.at (.int (((rss.map qR).length:Int)-1)))=_;rw [yZ,hlen,show ((h+1:Nat):Int)-1=(h:Int) by omega]
 have lp:=XY (g:=v3 2) (f:=w4 (o3 3 (z6 w5 (x8 1) (x8 2))) (o3 1 (u6 [none,some 2,some 3] [0] (y7 (q9 1)) (v3 0) k4 (z5 vw (q8 (q9 0) (q8 (q9 1) (q8 (q9 2) x9)))))))
  (λ(i:Nat)=>PV.at (.int ((0:Int)+i))) (λl ε=>∃(k:Nat)(s2 s3:MSlot),l=(List.range h).drop k/\k<=h/\ε=[.sh (t6 rss),.sh (wS (c9 rss k)),s2,s3]) (by
   rintro i l ε ⟨k,s2,s3,el,hk,rfl⟩;have hkl:k<h:=by
    have e5:(i::l).length=((List.range h).drop k).length:=by rw [<- el]
    rw [uF,List.length_range,yw] at e5;omega
   have ei:i=k:=by
    have:((List.range h).drop k)[0]?=some i:=by rw [<- el];rfl
    rw [List.getElem?_drop,List.getElem?_range (by omega)] at this;simpa using this.symm
   have er:l=(List.range h).drop (k+1):=by
    have:((List.range h).drop k).tail=l:=by rw [<- el];rfl
    rw [<- this,List.tail_drop]
   subst ei;have S:=Shp.all G i hk;have hT:i<(c9 rss i).length:=by rw [S.len];omega
   have gD:(c9 rss i).getD i []=(c9 rss i)[i]:=i6 hT;have wl:=Lo G hk h4;refine ⟨_,_,rfl,k6 (xo (x:=qg (c9 rss i)[i]) (v8 rfl rfl ?_)) (xo (x:=wS (c9 rss (i+1))) ?_),i+1,_,_,er,hkl,rfl⟩
   ·show atI ((c9 rss i).map qg) (0+(i:Int))=_;rw [Int.zero_add];exact qX (by rw [yV,yU hT];rfl)
   ·refine (o4 qg (λrow=>qg (thr row i (c9 rss i)[i])) (c9 rss i) rfl rfl (by rw [S.len];omega) λrow hr=>⟨_,rfl,j9 rfl ?_⟩).trans ?_
    ·show vw [qg row,.at (.int (0+(i:Int))),qg (c9 rss i)[i]]=_;rw [Int.zero_add];exact Lk (by rw [S.row row hr];exact hkl) (by rw [S.row row hr];exact h4) (wl row hr) (wl _ (yz hT))
    ·show _=some (PV.lst ((qq (c9 rss i) i).map qg));unfold qq;rw [yr,gD];rfl) (List.range h) _ ⟨0,.no,.no,rfl,yh _,rfl⟩
 obtain ⟨ε',e',k,s2,s3,el,hk,rfl⟩:=lp;have ek:k=h:=by have:=congrArg List.length el;rw [uF,List.length_range] at this;simp at this;omega
 subst ek;exact r6 rfl (k6 (xo st) (k6 (vR rg e') (m4 rfl)))
theorem Lj (h4:ws.length<=4):QJ [qg ws]=some (qR (ws.map (·.1))):=by have hlim:lim=1000000:=rfl;refine vi rfl (m4 ((o4 wyP (λw=>jv w.1) ws rfl rfl (by omega) λw _=>⟨_,rfl,rfl⟩).trans ?_));unfold qR;rw [yr];rfl
theorem La (G:qE h rss)(h1:1<=h)(h4:h<=4):QH [t6 rss]=some (t6 (jz rss h)):=by have hlim:lim=1000000:=rfl;have S:=Shp.all G h (yS _);refine vi rfl (k6 (Qo (j9 rfl (MP G h1 h4))) (m4 ((o4 qg (λws=>qR (ws.map (·.1))) (c9 rss h) (vj (j9 rfl (Lb G h1 h4))) rfl (by rw [S.len];omega) λws hw=>⟨_,rfl,j9 rfl (Lj (by rw [S.row ws hw];exact h4))⟩).trans ?_)));show _=some (PV.lst ((jz rss h).map qR));unfold jz;rw [yr];rfl
def Dr.low (d:Dr):List (List Int):=jz d.rss d.h
def Km:List Str:=["least","given","held","last","time"]
def Dr.ob (C:Addr)(d:Dr):PV:= .ob C Km [t6 d.low,t6 d.rss,.fk (keysOf d.cls) (d.cls.map Cl.pv),.at (.int d.last),.at (.int d.time)]
def Dr.names (d:Dr):List Str:=d.cls.map Cl.name
section
variable {C:Addr}{d:Dr}
theorem Xz {b:M}{z:PV}{k:z9}(h1:a ε=some (.fk ks xs))(h2:b ε=some y)(h3:xM y=some k)(h4:qc k ks xs=some z):zc a b ε=some z:=by unfold zc;rw [h1,h2];show (xM y).bind _=_;rw [h3];exact h4
theorem Ki {b:M}{k:z9}{o:Option PV}(h1:a ε=some (.fk ks xs))(h2:b ε=some y)(h3:xM y=some k)(h4:qc k ks xs=o):Qi b a ε=some (.at (.bl (!o.isSome))):=by unfold Qi;rw [h1,h2];show (xM y).bind _=_;rw [h3,<- h4];rfl
theorem UL (ok:d.Ok)(hc:c∈d.cls):jA C [d.ob C,.at (.str c.name)]=some c.pv:=by
 have lk:=Qy Cl.pv ok.nd c hc;refine r6 rfl (k6 (qi (qY (qh (qz (j9 rfl WN))) (k5 (v:=false) ?_)) qA) (m4 ?_))
 ·exact Ki (Qp rfl rfl) rfl rfl lk
 ·exact Xz (Qp rfl rfl) rfl rfl lk
theorem vQ (a b:Int):qd (.at (.int a)) (.at (.int b))=some (.at (.bl (decide (a=b)))):=by show some (PV.at (.bl (h8 (.int a) (.int b))))=_;have:h8 (.int a) (.int b)=decide (a=b):=rfl;rw [this]
structure Lst (d:Dr)(ns:List Cl):Prop where
 sub:∀ c∈ns,c∈d.cls
 nd:(ns.map Cl.name).Nodup
def v7 (cs:List Cl):PV:= .lst (y3 (cs.map Cl.name))
theorem Lst.len (ok:d.Ok)(L:Lst d ns):ns.length<=10:=by
 have:=Ym L.nd (left:=d.cls.map Cl.name) λx hx=>by
  obtain ⟨c,hc,rfl⟩:=yq.mp hx;exact yq.mpr ⟨c,L.sub c hc,rfl⟩
 rw [yZ,yZ] at this;have:=ok.ten;omega
end
theorem Bu {K:Fg}{R:It->Hp->Prop}{i:Nat}{xs:List V}(hi:σ[i]?=some (some (.ref p)))(hp:SqL K H p xs)(hl:xs.length<=1000)(q:R (Itr 0 xs.length) H):Qu (m9 (tCB (vB K) (m9 (m3 i) i9)) i9) σ H R :=
 ⟨_,hi,.inl ⟨_,_,rfl,.inl ⟨xs,hp,rfl⟩,(xs.length:Int),rfl,by omega,by omega,by rw [uR];exact q⟩⟩
structure Tray (t:List Cl):Prop where
 ne:t≠[]
 one:∀ c∈t,∀ e∈t,c.hue=e.hue
structure Trays (d:Dr)(T:List (List Cl)):Prop where
 perm:T.flatten.Perm d.cls
 each:∀ t∈T,Tray t
def Xb:List PV->Prop:=λxs=>∃ d:Dr,xs=[d.pv]/\d.Ok
def Qb:List PV->PV->Prop:=λxs y=>∃(d:Dr)(T:List (List Cl)),xs=[d.pv]/\y = .lst (T.map v7)/\Trays d T
theorem Kz (h:spD Xb Qb vs H Q E):vs.length=(["row","parts"]:List Str).length:=by obtain ⟨Hs,a,n,xs,ws,rfl,_,_,_,r,⟨d,rfl,_⟩,_⟩:=h;rw [yw,r.length];rfl
def m6 (cs:List Cl):List V:=cs.map λc=>V.str c.name
theorem wq (cs:List Cl):(m6 cs).length=cs.length:=yZ _
theorem Yk (cs:List Cl):y3 (cs.map Cl.name)=(m6 cs).map PV.at:=by unfold y3 m6;rw [yr,yr];rfl
structure TI (H3:Hp)(a fr F:Addr)(H:Hp)(n:Int)(free:List Cl)(as:List Addr)(T:List (List Cl)):Prop where
 row:H a=some (.lst [.int n])
 fre:H fr=some (.lst (m6 free))
 top:H F=some (.lst (as.map V.ref))
 len:as.length=T.length
 tr:∀(i:Nat)(b:Addr)(t:List Cl),as[i]?=some b->T[i]?=some t->H b=some (.lst (m6 t))
 nd:(a::fr::F::as).Nodup
 new:∀ b∈as,H3 b=none
 kp:∀ b o,b≠a->b≠fr->b≠F->H3 b=some o->H b=some o
section
variable {H3 H:Hp}{a fr F p:Addr}{n m:Int}{free fre2:List Cl}{as:List Addr}{T:List (List Cl)}{o:HO}
theorem TI.ne (x:TI H3 a fr F H n free as T):a≠fr/\a≠F/\a∉as/\fr≠F/\fr∉as/\F∉as/\as.Nodup:=by obtain ⟨h1,h2⟩:=yF.mp x.nd;obtain ⟨h3,h4⟩:=yF.mp h2;obtain ⟨h5,h6⟩:=yF.mp h4;simp only [yM,not_or] at h1 h3;exact ⟨h1.1,h1.2.1,h1.2.2,h3.1,h3.2,h5,h6⟩
theorem TI.nb (x:TI H3 a fr F H n free as T)(hb:b∈as):b≠a/\b≠fr/\b≠F:=by obtain ⟨_,_,n3,_,n5,n6,_⟩:=x.ne;exact ⟨λz=>n3 (z▸hb),λz=>n5 (z▸hb),λz=>n6 (z▸hb)⟩
theorem TI.mem (x:TI H3 a fr F H n free as T)(hb:b∈as):∃(i:Nat)(t:List Cl),as[i]?=some b/\T[i]?=some t:=by obtain ⟨i,hi,e⟩:=List.mem_iff_getElem.mp hb;exact ⟨i,T[i]'(by rw [<- x.len];exact hi),by rw [yU hi,e],yU _⟩
theorem TI.setRow (x:TI H3 a fr F H n free as T):TI H3 a fr F (z8 H a (.lst [.int m])) m free as T:=by obtain ⟨n1,n2,n3,n4,n5,n6,_⟩:=x.ne;refine ⟨w6,by rw [j3 n1.symm];exact x.fre,by rw [j3 n2.symm];exact x.top,x.len,λi b t hb ht=>?_,x.nd,x.new,λb u h1 h2 h3 e=>by rw [j3 h1];exact x.kp b u h1 h2 h3 e⟩;rw [j3 (x.nb (yu hb)).1];exact x.tr i b t hb ht
theorem TI.setFre (x:TI H3 a fr F H n free as T):TI H3 a fr F (z8 H fr (.lst (m6 fre2))) n fre2 as T:=by obtain ⟨n1,n2,n3,n4,n5,n6,_⟩:=x.ne;refine ⟨by rw [j3 n1];exact x.row,w6,by rw [j3 n4.symm];exact x.top,x.len,λi b t hb ht=>?_,x.nd,x.new,λb u h1 h2 h3 e=>by rw [j3 h2];exact x.kp b u h1 h2 h3 e⟩;rw [j3 (x.nb (yu hb)).2.1];exact x.tr i b t hb ht
theorem TI.lay (x:TI H3 a fr F H n free as T)(hp:H p=none):TI H3 a fr F (z8 H p o) n free as T:=by
 have k:∀{b:Addr}{u:HO},H b=some u->z8 H p o b=some u:=λ{b u} e=>by rw [j3 (u9 e hp)];exact e
 exact ⟨k x.row,k x.fre,k x.top,x.len,λi b t hb ht=>k (x.tr i b t hb ht),x.nd,x.new,λb u h1 h2 h3 e=>k (x.kp b u h1 h2 h3 e)⟩
theorem TI.app (x:TI H3 a fr F H n free as T){i:Nat}{t:List Cl}(hb:as[i]?=some b)(ht:T[i]?=some t):TI H3 a fr F (z8 H b (.lst (m6 (t++[c])))) n free as (T.set i (t++[c])):=by
 obtain ⟨n1,n2,n3,n4,n5,n6,nd⟩:=x.ne;have bm:=yu hb;have hi:i<T.length:=(yG.mp ht).1;refine ⟨by rw [j3 (x.nb bm).1.symm];exact x.row,by rw [j3 (x.nb bm).2.1.symm];exact x.fre,by rw [j3 (x.nb bm).2.2.symm];exact x.top,by rw [yC];exact x.len,λj e u he hu=>?_,x.nd,x.new,λe u h1 h2 h3 z=>?_⟩
 ·by_cases hj:i=j
  ·subst hj;rw [hb] at he;cases he;rw [ye hi] at hu;cases hu;exact w6
  ·rw [yv hj] at hu;rw [j3 (λz=>?_)]
   ·exact x.tr j e u he hu
   ·subst z;obtain ⟨q1,e1⟩:=yG.mp hb;obtain ⟨q2,e2⟩:=yG.mp he;exact hj ((List.getElem_inj (h₀:=q1) (h₁:=q2) nd).mp (e1.trans e2.symm))
 ·rw [j3 (λy=>by rw [y,x.new b bm] at z;cases z)];exact x.kp e u h1 h2 h3 z
theorem ju {l:List α}{j i:Nat}{y b:α}(hj:j<=l.length)(h:(l.take j++y::l.drop j)[i]?=some b):(i<j/\l[i]?=some b)∨(i=j/\b=y)∨(j<i/\l[i-1]?=some b):=by
 rw [List.getElem?_append] at h;have tl:(l.take j).length=j:=by rw [uG];omega
 split at h
 ·rename_i hi;rw [tl] at hi;rw [List.getElem?_take_of_lt hi] at h;exact .inl ⟨hi,h⟩
 ·rename_i hi;rw [tl] at hi h;cases hk:i-j with
  |zero=>rw [hk] at h;cases h;exact .inr (.inl ⟨by omega,rfl⟩)
  |succ k=>rw [hk,List.getElem?_cons_succ,List.getElem?_drop] at h;refine .inr (.inr ⟨by omega,?_⟩);rw [show i-1=j+k by omega];exact h
theorem TI.ins (x:TI H3 a fr F H n free as T)(hp:H p=none)(h3:H3 p=none){c:Cl}{j:Nat}(hj:j<=as.length):TI H3 a fr F (z8 (z8 H p (.lst (m6 [c]))) F (.lst ((as.take j++p::as.drop j).map V.ref))) n free (as.take j++p::as.drop j) (T.take j++[c]::T.drop j):=by
 obtain ⟨n1,n2,n3,n4,n5,n6,nd⟩:=x.ne;have k:∀{b:Addr}{u:HO},H b=some u->z8 H p (.lst (m6 [c])) b=some u:=λ{b u} e=>by rw [j3 (u9 e hp)];exact e
 have pa:p≠a:=λz=>by rw [z,x.row] at hp;cases hp
 have pf:p≠fr:=λz=>by rw [z,x.fre] at hp;cases hp
 have pF:p≠F:=λz=>by rw [z,x.top] at hp;cases hp
 have ps:p∉as:=λz=>by
  obtain ⟨i,t,h1,h2⟩:=x.mem z;rw [x.tr i p t h1 h2] at hp;cases hp
 have pm:(as.take j++p::as.drop j).Perm (p::as):=by have:=uB (a:=p) (l₁:=as.take j) (l₂:=as.drop j);rwa [List.take_append_drop] at this
 have hT:j<=T.length:=by rw [<- x.len];exact hj
 refine ⟨by rw [j3 n2];exact k x.row,by rw [j3 n4];exact k x.fre,w6,by simp [x.len],λi b t hb ht=>?_,?_,λb hb=>?_,λb u h1 h2 h4 e=>by rw [j3 h4];exact k (x.kp b u h1 h2 h4 e)⟩
 ·have fb:b≠F:=λz=>by
   have:=pm.mem_iff.mp (yu hb);rw [z] at this;rcases yM.mp this with h|h
   ·exact pF h.symm
   ·exact n6 h
  rw [j3 fb];rcases ju hj hb with ⟨q1,q2⟩|⟨q1,rfl⟩|⟨q1,q2⟩<;>rcases ju hT ht with ⟨w1,w2⟩|⟨w1,rfl⟩|⟨w1,w2⟩<;>first|omega|exact k (x.tr _ b t q2 w2)|exact w6
 ·have:(a::fr::F::(as.take j++p::as.drop j)).Perm (p::a::fr::F::as):=by refine (((pm.cons F).cons fr).cons a).trans ?_;exact (((List.Perm.swap p F as).cons fr).cons a).trans ((List.Perm.swap p fr (F::as)).cons a |>.trans (List.Perm.swap p a (fr::F::as)))
  refine this.nodup_iff.mpr (yF.mpr ⟨?_,x.nd⟩);simp only [yM,not_or];exact ⟨pa,pf,pF,ps⟩
 ·rcases yM.mp (pm.mem_iff.mp hb) with rfl|h
  ·exact h3
  ·exact x.new b h
end
section
variable {K:Fg}{σ:St}{H:Hp}{Q:VK}{i:Nat}{p a:Addr}{xs:List V}{n m:Int}
theorem Zu (hi:σ[i]?=some (some (.ref p)))(hp:H p=some (.lst xs))(q:Q (.int xs.length) H):tCB (vB K) (m9 (m3 i) i9) σ H Q:=⟨_,hi,.inl ⟨_,_,rfl,.inl ⟨xs,SqL.of hp,rfl⟩,q⟩⟩
theorem YV (hi:σ[i]?=some (some (.ref p)))(hp:H p=some (.lst xs))(q:Q (.int (xs.length+1)) H):tOp (Zs K) (tCB (vB K) (m9 (m3 i) i9)) (tC (.int 1)) σ H Q:=Zu hi hp (.inl ⟨_,_,rfl,rfl,q⟩)
theorem Zv {te:TE}(hi:σ[0]?=some (some (.ref a)))(ha:H a=some (.lst [.int n]))(h:∀{R:VK},R (.int m) H->te σ H R)(hc:vG n m)(q:Q (.int (n % m)) (z8 H a (.lst [.int (n / m)]))):qU xS [] E0 (m9 (m3 0) (m9 te i9)) σ H Q :=
 ⟨_,hi,h ⟨a,n,m,rfl,ha,hc,q⟩⟩
end
theorem JD {K:Fg}{xs:List V}(h:H p=some (.lst xs)):tyV K "list" (.ref p) H:= .inl ⟨rfl,xs,SqL.of h⟩
theorem WU:∀{kvs:List (z9×V)}{cs:List Cl},kvs.map (·.1)=keysOf cs->(kvs.map (·.2)=cs.map λc=>V.int c.hue)->kvs=cs.map λc=>((Sum.inr c.name:z9),V.int c.hue)
 |[],[],_,_=>rfl
 |[],_::_,h,_=>by cases h
 |_::_,[],h,_=>by cases h
 |(k,v)::kvs,c::cs,h1,h2=>by
  injection h1 with a1 b1;injection h2 with a2 b2;rw [WU b1 b2,yN]
  congr 1
  exact Prod.ext a1 a2
theorem Zo (f:Cl->PV):∀ cs:List Cl,xR (cs.map λc=>PV.tup [.at (.str c.name),f c])=some (cs.map λc=>((.inr c.name:z9),f c))
 |[]=>rfl
 |c::cs=>by
  show Option.bind (some (Sum.inr c.name:z9)) (λkk=>(xR (cs.map λc=>PV.tup [.at (.str c.name),f c])).map ((kk,f c)::·))=_;rw [Zo f cs];rfl
theorem XF {α:Type}:∀{T:List (List α)},(∀ t∈T,t≠[])->T.length<=T.flatten.length
 |[],_=>yS _
 |t::T,h=>by
  rw [ym,yL,yw];have:=XF (T:=T) λx hx=>h x (yT _ hx);have:=List.length_pos_iff.mpr (h t yO);omega
theorem XE {α:Type}:∀{T:List (List α)}{t:List α},t∈T->t.length<=T.flatten.length
 |x::T,t,h=>by
  rw [ym,yL];rcases yM.mp h with rfl|h
  ·omega
  ·have:=XE h;omega
theorem XH {α:Type}:∀{T:List (List α)}{i:Nat}{t:List α}{c:α},T[i]?=some t->(T.set i (t++[c])).flatten.Perm (c::T.flatten)
 |[],i,_,_,h=>by simp at h
 |x::T,0,t,c,h=>by
  cases h;rw [List.set_cons_zero,ym,ym,uV];exact uB
 |x::T,i+1,t,c,h=>by
  rw [List.set_cons_succ,ym,ym];exact ((XH (T:=T) (c:=c) (by simpa using h)).append_left x).trans uB
theorem Kn (T:List (List α))(j:Nat)(c:α):(T.take j++[c]::T.drop j).flatten.Perm (c::T.flatten):=by
 rw [List.flatten_append,ym];have:T.flatten=(T.take j).flatten++(T.drop j).flatten:=by rw [<- List.flatten_append,List.take_append_drop]
 rw [this];exact uB
theorem keyN (h:(cs.map Cl.name).Nodup):(keysOf cs).Nodup:=by
 have e:keysOf cs=(cs.map Cl.name).map λs=>(Sum.inr s:z9):=by unfold keysOf;rw [yr];rfl
 rw [e];exact List.Pairwise.map _ (λa b hab z=>hab (Sum.inr.inj z)) h
theorem nine {l:List α}(h:l.length=9):∃ a b c d e f g i j,l=[a,b,c,d,e,f,g,i,j]:=by
 match l,h with
 |[a,b,c,d,e,f,g,i,j],_=>exact ⟨a,b,c,d,e,f,g,i,j,rfl⟩
theorem WK (nd:(cs.map Cl.name).Nodup)(hc:c∈cs):qa (cs.map λc=>((Sum.inr c.name:z9),V.int c.hue)) (Sum.inr c.name)=some (.int c.hue):=by
 unfold L2.qa
 induction cs with
 |nil=>cases hc
 |cons x cs ih =>
  rw [yN,yF] at nd;rw [yN,uP];rcases yM.mp hc with rfl|hc
  ·simp
  ·have:x.name≠c.name:=λe=>nd.1 (e▸yq.mpr ⟨c,hc,rfl⟩);rw [show decide ((Sum.inr x.name:z9)=Sum.inr c.name)=false by simp [this]];exact ih nd.2 hc
theorem seqS {t u:TS}{f:MS}[sf:o8 false t f]{ε':ME}{Hs0 H0 Hs:Hp}{D:qD}(e:f ε=some (.nx ε'))(rs:RS Hs0 H0 Hs H σ ε)(k:∀ Hs H σ,RS Hs0 H0 Hs H σ ε'->u D σ H):tSeq t u D σ H:=sf.h e rs k
abbrev Js:Stmt:=top 63
theorem sc_trays:v9 ["row","parts","hues","free","found","k","name","same","pick"] ["row","parts"] (j8 Js):=y9
theorem PU (F:Fun K "_law_trays" "_law_trays" Js f fd)(Ad:Fn P w K mg base 1 "_law_digit" ["row","many"] xS)(B6:mg "dict"=none)(Ac:mg "len"=none)(Ae:mg "range"=none):FnOk P w K mg base v5 2 f fd ["row","parts"] (spD Xb Qb):=by
 refine F.ok (k:=1) sc_trays (λvs H Q E h=>Kz h) (λcdv A outer s H vs Q E hr h=>⟨_,(j5 (sW 2 sc_trays.nd (zC (Xo (K:=K) rfl rfl) rfl B6 Xn (aW (o5 (N':=["cloth"]) (cap:=[none]) (b7 rfl rfl rfl) rfl (@p5 _ K _ _ _ rfl (iW (K:=K) rfl (pv 1) z7)) (λ_ _ _ _ _ _=>(g9 (i:=0) (by show (["cloth"]:List Str).Nodup;decide +kernel) rfl (Or.inl rfl))) (λ_ _ _ _ _ _=>c6) (λ_ _ _ _ _ _=>(@zY _ _ _ _ _ (aC (iW (K:=K) rfl (pv 0) z7) (aW (iW (K:=K) rfl (pv 0) z7)))))))))
  (j5 (xi (i:=3) (N':=["cloth"]) (cap:=[none]) (b7 rfl rfl rfl) rfl sc_trays.nd rfl rfl (@p5 _ K _ _ _ rfl (iW (K:=K) rfl (pv 1) z7)) (λ_ _ _ _ _ _=>(g9 (i:=0) (by show (["cloth"]:List Str).Nodup;decide +kernel) rfl (Or.inl rfl))) (λ_ _ _ _ _ _=>c6) (λ_ _ _ _ _ _=>(iW (K:=K) rfl (pv 0) z7)))
  (j5 (sW 4 sc_trays.nd (@xg _ _ _ _ y2))
  (j5 (xu PassesOwn.never rfl (zZ rfl Ae (aW (u5 (i0 (K:=K) rfl) rfl Ac PySem.boot_len (aW (pv 3))))) (gW 5 sc_trays.nd)
   (j5 (sW 6 sc_trays.nd (zh (K:=K) rfl PySem.F.plainAttrs_list PySem.F.slot_list_pop PySem.F.type_list_pop Yh (pv 3) (j6 (fW Ad hr (aC (pv 0) (aW (u5 (i0 (K:=K) rfl) rfl Ac PySem.boot_len (aW (pv 3)))))) y2)))
  (j5 (xi (i:=7) (N':=["tray","hues","name"]) (cap:=[none,some 2,some 6]) (b7 rfl rfl rfl) rfl sc_trays.nd rfl rfl (@p5 _ K _ _ _ rfl (pv 4)) (λ_ _ _ _ _ _=>(g9 (i:=0) (by show (["tray","hues","name"]:List Str).Nodup;decide +kernel) rfl (Or.inl rfl))) (λ_ _ _ _ _ _=>(vA (c3 (xq (K:=K) (i7 hr) rfl) (wz (zN hr) (pv 1) (iW (K:=K) rfl (pv 0) z7) (λ_ _=>rfl)) (wz (zN hr) (pv 1) (pv 2) (λ_ _=>rfl)) (k7 _)))) (λ_ _ _ _ _ _=>(pv 0)))
  (j5 (sW 8 sc_trays.nd (fW Ad hr (aC (pv 0) (aW (y6 (xc (K:=K) rfl) (u5 (i0 (K:=K) rfl) rfl Ac PySem.boot_len (aW (pv 7))) z7)))))
  (j7 (p6 (c3 (QP) (pv 8) (u5 (i0 (K:=K) rfl) rfl Ac PySem.boot_len (aW (pv 7))) (k7 _)) (j7 (xh (zh (K:=K) rfl PySem.F.plainAttrs_list PySem.F.slot_list_append PySem.F.type_list_append jD (iW (K:=K) rfl (pv 7) (pv 8)) (j6 (pv 6) y2)))) (j7 (xh (zh (K:=K) rfl PySem.F.plainAttrs_list PySem.F.slot_list_insert PySem.F.type_list_insert BJ (pv 4) (j6 (fW Ad hr (aC (pv 0) (aW (y6 (xc (K:=K) rfl) (u5 (i0 (K:=K) rfl) rfl Ac PySem.boot_len (aW (pv 4))) z7)))) (j6 (@xg _ _ _ _ (aW (pv 6))) y2)))))))))))
  (j7 (w9 (pv 4))))))),?_⟩)
 obtain ⟨Hs,a,n,xs,ws,rfl,sm,na,ha,r,⟨d,rfl,ok⟩,q⟩:=h;obtain ⟨v1,rr,rfl,p1,p2⟩:=reps_cons.mp r;cases reps_nil.mp p2;have hlim:lim=1000000:=rfl;have ten:=ok.ten;have rs0:RS Hs H Hs H _ _:=jM (N:=["row","parts","hues","free","found","k","name","same","pick"]) (xs:=[.op λ_ v=>v = .ref a,d.pv]) (vs:=[.ref a,v1]) sm (.cons (rep_op.mpr ⟨Hs,.refl _,rfl⟩) (.one p1));have e1:o3 2 (z5 jG (q8 (u6 [none] [0] (y7 (z6 w5 (x8 1) (dC (.int 1)))) (v3 0) k4 (xK (q8 (z6 w5 (x8 0) (dC (.int 0))) (q8 (z6 w5 (x8 0) (dC (.int 1))) x9)))) x9)) [.sh (.op λ_ v=>v = .ref a),.sh d.pv,.no,.no,.no,.no,.no,.no,.no]=some (.nx [.sh (.op λ_ v=>v = .ref a),.sh d.pv,.sh (.fk (keysOf d.cls) (d.cls.map λc=> .at (.int c.hue))),.no,.no,.no,.no,.no,.no]):=by
  refine xo (j9 (v4 (o4 Cl.pv (λc=>PV.tup [.at (.str c.name),.at (.int c.hue)]) d.cls (vj (v8 rfl rfl rfl)) rfl (by omega) λc _=>⟨_,rfl,Qt (v4 (v8 rfl rfl rfl) (v4 (v8 rfl rfl rfl) rfl)) l2⟩) rfl) ?_);show (xR (d.cls.map λc=>PV.tup [.at (.str c.name),.at (.int c.hue)])).bind _=_;have q1:(d.cls.map λc=>((.inr c.name:z9),PV.at (.int c.hue))).map (·.1)=keysOf d.cls:=by rw [yr];rfl
  have q2:(d.cls.map λc=>((.inr c.name:z9),PV.at (.int c.hue))).map (·.2)=d.cls.map λc=>PV.at (.int c.hue):=by rw [yr];rfl
  rw [Zo,yI,q1,q2];exact if_pos ⟨keyN ok.nd,by rw [yZ];omega⟩
 have e2:vf 3 (u6 [none] [0] (y7 (z6 w5 (x8 1) (dC (.int 1)))) (v3 0) k4 (z6 w5 (x8 0) (dC (.int 0)))) [.sh (.op λ_ v=>v = .ref a),.sh d.pv,.sh (.fk (keysOf d.cls) (d.cls.map λc=> .at (.int c.hue))),.no,.no,.no,.no,.no,.no]=some (.nx [.sh (.op λ_ v=>v = .ref a),.sh d.pv,.sh (.fk (keysOf d.cls) (d.cls.map λc=> .at (.int c.hue))),.ow (.lst (d.cls.map λc=> .at (.str c.name))),.no,.no,.no,.no,.no]) :=
  XB (o4 Cl.pv (λc=>PV.at (.str c.name)) d.cls (vj (v8 rfl rfl rfl)) rfl (by omega) λc _=>⟨_,rfl,v8 rfl rfl rfl⟩)
 have e3:vf 4 (qw x9) [.sh (.op λ_ v=>v = .ref a),.sh d.pv,.sh (.fk (keysOf d.cls) (d.cls.map λc=> .at (.int c.hue))),.ow (.lst (d.cls.map λc=> .at (.str c.name))),.no,.no,.no,.no,.no]=some (.nx [.sh (.op λ_ v=>v = .ref a),.sh d.pv,.sh (.fk (keysOf d.cls) (d.cls.map λc=> .at (.int c.hue))),.ow (.lst (d.cls.map λc=> .at (.str c.name))),.ow (.lst []),.no,.no,.no,.no]):=XB (zM rfl l0);refine seqS e1 rs0 λHs1 H1 σ1 r1=>seqS e2 r1 λHs2 H2 σ2 r2=>seqS e3 r2 λHs3 H3 σ3 r3=>?_;clear r1 r2 e1 e2 e3 rs0;obtain ⟨w0,g0,c0⟩:=r3.sh 0 _ rfl;obtain ⟨_,_,rfl⟩:=rep_op.mp c0;obtain ⟨w1,g1,c1⟩:=r3.sh 1 _ rfl;obtain ⟨w2,g2,c2⟩:=r3.sh 2 _ rfl;obtain ⟨hu,oo,kvs,rfl,hk,k1,k2⟩:=rep_fk.mp c2;obtain ⟨fr,g3,n3,s3,fv,hf,rf⟩:=r3.ow 3 _ rfl;obtain ⟨F0,g4,n4,s4,ov,hF,rF⟩:=r3.ow 4 _ rfl;cases reps_nil.mp rF;have ffr:fr≠F0:=λz=>by
  subst z;exact absurd (r3.nd 3 4 _ _ fr rfl rfl g3 g4) (by decide)
 have efv:fv=m6 d.cls:=by
  have:Reps Hs3 ((m6 d.cls).map PV.at) fv:=by rw [<- Yk];unfold y3;rw [yr];exact rf
  exact this.ats
 subst efv;have a3:H3 a=some (.lst [.int n]):=r3.ext.s2 _ _ ha;have sa:Hs3 a=none:=r3.ext.s4 a (by rw [ha];exact λz=>nomatch z) na;have anf:a≠fr:=λz=>by rw [<- z,ha] at n3;cases n3
 have anF:a≠F0:=λz=>by rw [<- z,ha] at n4;cases n4
 have ekv:kvs=d.cls.map λc=>((Sum.inr c.name:z9),V.int c.hue):=by
  have k3:kvs.map (·.2)=d.cls.map λc=>V.int c.hue:=by
   have:Reps Hs3 ((d.cls.map λc=>V.int c.hue).map PV.at) (kvs.map (·.2)):=by rw [yr];exact k2
   exact this.ats
  exact WU k1 k3
 have T0:TI H3 a fr F0 H3 n d.cls [] []:=⟨a3,hf,hF,rfl,(λi b t z=>by simp at z),by simp [anf,anF,ffr],(λ_ z=>nomatch z),λ_ _ _ _ _ e=>e⟩;obtain ⟨x0,x1,x2,x3,x4,s5,s6,s7,s8,rfl⟩:=nine r3.len;obtain rfl:x0=some (.ref a):=Option.some.inj g0;obtain rfl:x1=some w1:=Option.some.inj g1;obtain rfl:x2=some (.ref hu):=Option.some.inj g2;obtain rfl:x3=some (.ref fr):=Option.some.inj g3;obtain rfl:x4=some (.ref F0):=Option.some.inj g4;show tFor (Qu (m9 (tCB (vB K) (m9 (m3 3) i9)) i9)) (r9 5) _ _ [some (.ref a),some w1,some (.ref hu),some (.ref fr),some (.ref F0),s5,s6,s7,s8] _;refine Bu (K:=K) (i:=3) (p:=fr) (xs:=m6 d.cls) (σ:=[some (.ref a),some w1,some (.ref hu),some (.ref fr),some (.ref F0),s5,s6,s7,s8]) rfl (SqL.of hf) (by rw [wq];omega) ?_;rw [wq];have hua:hu≠a:=λz=>by rw [z,sa] at hk;cases hk
 have huf:hu≠fr:=λz=>by rw [z,s3] at hk;cases hk
 have huF:hu≠F0:=λz=>by rw [z,s4] at hk;cases hk
 have BT:=zH;refine WJ (λi σ H2=>∃(n:Int)(free:List Cl)(as:List Addr)(T:List (List Cl))(s5 s6 s7 s8:Option V),σ=[some (.ref a),some w1,some (.ref hu),some (.ref fr),some (.ref F0),s5,s6,s7,s8]/\TI H3 a fr F0 H2 n free as T/\free.length+i=d.cls.length/\(T.flatten++free).Perm d.cls/\∀ t∈T,Tray t) ⟨n,d.cls,[],[],_,_,_,_,rfl,T0,rfl,.refl _,(λ_ z=>nomatch z)⟩ ?_ ?_
 ·rintro i σ H2 hi ⟨n2,free,as,T,s5,s6,s7,s8,rfl,X,fl,pm,tr⟩;have hfl:0<free.length:=by omega
  have tl:T.length<=10:=by have:=XF λt ht=>(tr t ht).ne;have:=pm.length_eq;rw [yL] at this;omega
  have c0:0<=n2 % (free.length:Int):=yj _ (by omega);have c1:n2 % (free.length:Int)<(free.length:Int):=yp _ (by omega);obtain ⟨j,hj⟩:=yg c0;have jl:j<free.length:=by omega
  refine ⟨_,rfl,JD X.fre,Zv (m:=(free.length:Int)) rfl X.row (λ{R} z=>Zu (K:=K) (i:=3) rfl X.fre (by rw [wq];exact z)) (za (by omega) (by omega)) ?_⟩;have X1:=X.setRow (m:=n2 / (free.length:Int));refine ⟨fr,m6 free,_,j,.str free[j].name,rfl,rfl,X1.fre,by omega,by omega,?_,?_,?_⟩
  ·rw [hj,PySem.StrLaws.seqIndex_nonneg (by omega) (by rw [wq];omega),uR]
  ·unfold m6;rw [yV,yU jl];rfl
  have X2:=X1.setFre (fre2:=free.eraseIdx j);rw [show (m6 free).eraseIdx j=m6 (free.eraseIdx j) from Xx _ _ _];generalize z8 (z8 H2 a (.lst [.int (n2 / (free.length:Int))])) fr (.lst (m6 (free.eraseIdx j)))=Ha at X2 ⊢;clear X X1;have pe:=Zn jl;generalize hc:free[j]=c at pe ⊢;have cm:c∈d.cls:=pm.mem_iff.mp (yo _ (hc▸yz jl));have lf:(free.eraseIdx j).length+(i+1)=d.cls.length:=by rw [List.length_eraseIdx_of_lt jl];omega
  have pm2:(T.flatten++c::free.eraseIdx j).Perm d.cls:=(pe.append_left _).trans pm;have hd:Rd Ha hu (.dK kvs):= .inr ⟨oo,X2.kp hu _ hua huf huF (r3.ext.s3 _ _ hk)⟩;have tm:∀ t∈T,∀ e∈t,e∈d.cls:=λt ht e he=>pm.mem_iff.mp (uD _ (List.mem_flatten.mpr ⟨t,ht,he⟩));have al:(as.map V.ref).length<=10:=by rw [yZ,X2.len];exact tl
  refine ⟨_,rfl,F0,rfl,⟨_,SqL.of X2.top⟩,We (xs:=as.map V.ref) (λi ys H=>H=Ha/\ys.length<=i/\∀ y∈ys,∃(k:Nat)(b:Addr)(t:List Cl),as[k]?=some b/\T[k]?=some t/\y = .ref b/\∀ e∈t,e.hue=c.hue) ⟨rfl,yS _,(λ_ z=>nomatch z)⟩ (λi ys H hi h=>qj (by have:=h.2.1;omega)) (λi ys H _ h=>h.1▸SqL.of X2.top) ?_ ?_⟩
  ·rintro k x ys _ R hx ⟨rfl,hl,hy⟩ hR;rw [yV] at hx;obtain ⟨b,hb,rfl⟩:=yK.mp hx;obtain ⟨kl,_⟩:=yG.mp hb;have kT:k<T.length:=by rw [<- X2.len];exact kl
   have ht:=yU kT;generalize T[k]=t at ht;have mt:=yu ht;have Tt:=tr t mt;have hH:=X2.tr k b t hb ht;obtain ⟨e0,t',rfl⟩:=List.exists_cons_of_ne_nil Tt.ne;have em:e0∈d.cls:=tm _ mt e0 yO;refine ⟨Wk.one rfl,⟨_,rfl,⟨_,rfl,.inl ⟨b,m6 (e0::t'),0,.str e0.name,rfl,rfl,SqL.of hH,qX (j:=0) (show (m6 (e0::t'))[0]?=_ from rfl),⟨hu,.int e0.hue,rfl,.inl ⟨kvs,.inr e0.name,hd,rfl,by rw [ekv];exact (WK ok.nd em).symm⟩,⟨_,rfl,⟨_,rfl,⟨hu,.int c.hue,rfl,.inl ⟨kvs,.inr c.name,hd,rfl,by rw [ekv];exact (WK ok.nd cm).symm⟩,⟨h8 (.int e0.hue) (.int c.hue),.inl ⟨rfl,rfl,rfl⟩,⟨_,rfl,?_⟩⟩⟩⟩⟩⟩⟩⟩⟩⟩;have ev:h8 (.int e0.hue) (.int c.hue)=decide ((e0.hue:Int)=c.hue):=rfl;show (if h8 (.int e0.hue) (.int c.hue)=true then _ else _);rw [ev];by_cases he:(e0.hue:Int)=c.hue
   ·rw [if_pos (yt he)];refine ⟨_,rfl,hR _ _ ⟨rfl,by rw [yL];simp;omega,λy hm=>?_⟩⟩;rcases yk.mp hm with hm|hm
    ·exact hy y hm
    ·exact ⟨k,b,_,hb,ht,yQ.mp hm,λe h=>by have:=Tt.one e h e0 yO;omega⟩
   ·rw [if_neg (by rw [yD he];exact yW)];exact hR _ _ ⟨rfl,by omega,hy⟩
  rintro ys Ha ⟨rfl,hl,hy⟩ S hS;have X3:=X2.lay (o:= .lst ys) hS;have hSl:z8 Ha S (.lst ys) S=some (.lst ys):=w6;have Sa:S≠a:=λz=>by rw [z,X2.row] at hS;cases hS
  generalize z8 Ha S (.lst ys)=Hb at X3 hSl ⊢;clear X2 hd hS;refine Zv (m:=(ys.length:Int)+1) rfl X3.row (λ{R} z=>YV (K:=K) (i:=7) rfl hSl z) (za (by omega) (by omega)) ?_;generalize n2 / (free.length:Int)=n3 at X3 ⊢;have X4:=X3.setRow (m:=n3 / ((ys.length:Int)+1));have d0:0<=n3 % ((ys.length:Int)+1):=yj _ (by omega);have d1:n3 % ((ys.length:Int)+1)<(ys.length:Int)+1:=yp _ (by omega);obtain ⟨k,hk2⟩:=yg d0;rw [hk2];have hS2:z8 Hb a (.lst [.int (n3 / ((ys.length:Int)+1))]) S=some (.lst ys):=by rw [j3 Sa];exact hSl
  generalize n3 / ((ys.length:Int)+1)=n4 at X4 hS2 ⊢;generalize z8 Hb a (.lst [.int n4])=Hc at X4 hS2 ⊢;clear X3 hSl;refine ⟨_,rfl,Zu (K:=K) (i:=7) rfl hS2 ⟨_,_,rfl,rfl,⟨_,rfl,?_⟩⟩⟩;by_cases hp:(k:Int)<(ys.length:Int)
  ·refine Eq.mpr (if_pos (yt hp)) ?_;have kl:k<ys.length:=by omega
   obtain ⟨i2,b,t,hb,ht,ey,hh⟩:=hy ys[k] (yz kl);have mt:=yu ht;have tl2:(m6 t).length<sizeLine:=vo (by
    have:=XE mt;have:=pm.length_eq;rw [yL] at this;rw [wq];omega)
   have hH:=X4.tr i2 b t hb ht;refine ⟨_,rfl,_,rfl,.inl ⟨S,ys,(k:Int),.ref b,rfl,rfl,SqL.of hS2,qX (by rw [yU kl,ey]),JD hH,_,rfl,b,m6 t,_,rfl,rfl,hH,tl2,?_⟩⟩;have X5:=X4.app (c:=c) hb ht;rw [show m6 t++[V.str c.name]=m6 (t++[c]) by unfold m6;rw [yB];rfl];refine ⟨n4,free.eraseIdx j,as,T.set i2 (t++[c]),_,_,_,_,rfl,X5,lf,?_,λu hu2=>?_⟩
   ·refine ((XH ht).append_right _).trans (List.Perm.trans ?_ pm2);exact uB.symm
   ·rcases List.mem_or_eq_of_mem_set hu2 with h|rfl
    ·exact tr u h
    ·refine ⟨by simp,λx hx e he=>?_⟩;have hx':x.hue=c.hue:=by
      rcases yk.mp hx with h|h
      ·exact hh x h
      ·rw [yQ.mp h]
     have he':e.hue=c.hue:=by
      rcases yk.mp he with h|h
      ·exact hh e h
      ·rw [yQ.mp h]
     rw [hx',he']
  ·refine Eq.mpr (if_neg (by rw [yD hp];exact yW)) ?_;have al2:(as.map V.ref).length=as.length:=yZ _;refine ⟨_,rfl,JD X4.top,Zv (m:=((as.map V.ref).length:Int)+1) rfl X4.row (λ{R} z=>YV (K:=K) (i:=4) rfl X4.top z) (za (by omega) (by omega)) ?_⟩;have X5:=X4.setRow (m:=n4 / (((as.map V.ref).length:Int)+1));have f0:0<=n4 % (((as.map V.ref).length:Int)+1):=yj _ (by omega);have f1:n4 % (((as.map V.ref).length:Int)+1)<((as.map V.ref).length:Int)+1:=yp _ (by omega);obtain ⟨z,hz⟩:=yg f0;rw [hz];generalize n4 / (((as.map V.ref).length:Int)+1)=n5 at X5 ⊢;generalize z8 Hc a (.lst [.int n5])=Hd at X5 ⊢;clear X4 hS2;refine ⟨_,rfl,(by show 1<=sizeLine;exact qj l1),λp hp2=>⟨F0,as.map V.ref,(z:Int),.ref p,rfl,rfl,?_,by omega,by omega,by omega,?_⟩⟩
   ·exact (X5.lay hp2).top
   have h3p:H3 p=none:=by
    cases hq:H3 p with
    |none=>rfl
    |some o =>
     by_cases h1:p=a
     ·rw [h1,X5.row] at hp2;cases hp2
     ·by_cases h2:p=fr
      ·rw [h2,X5.fre] at hp2;cases hp2
      ·by_cases h3:p=F0
       ·rw [h3,X5.top] at hp2;cases hp2
       ·rw [X5.kp p o h1 h2 h3 hq] at hp2;cases hp2
   have X6:=X5.ins hp2 h3p (c:=c) (j:=z) (by omega);rw [uR];rw [show (as.map V.ref).take z++V.ref p::(as.map V.ref).drop z=(as.take z++p::as.drop z).map V.ref by rw [yB,yN,List.map_take,List.map_drop]];refine ⟨n5,free.eraseIdx j,_,_,_,_,_,_,rfl,X6,lf,?_,λu hu2=>?_⟩
   ·exact ((Kn T z c).append_right _).trans (uB.symm.trans pm2)
   ·rcases yk.mp hu2 with h|h
    ·exact tr u (List.mem_of_mem_take h)
    ·rcases yM.mp h with rfl|h
     ·exact ⟨by simp,λx hx e he=>by rw [yQ.mp hx,yQ.mp he]⟩
     ·exact tr u (List.mem_of_mem_drop h)
 ·rintro σ H2 ⟨n2,free,as,T,s5,s6,s7,s8,rfl,X,fl,pm,tr⟩;have f0:free=[]:=List.eq_nil_of_length_eq_zero (by omega);subst f0;rw [yn] at pm;have nn:∀ b,b=F0∨b∈as->H b=none:=λb hb=>by
   rcases hb with rfl|hb
   ·exact n4
   ·have:=X.new b hb;cases z:H b with
    |none=>rfl
    |some o=>rw [r3.ext.s2 _ _ z] at this;cases this
  have sn:∀ b,b=F0∨b∈as->Hs3 b=none:=λb hb=>by
   rcases hb with rfl|hb
   ·exact s4
   ·have:=X.new b hb;cases z:Hs3 b with
    |none=>rfl
    |some o=>rw [r3.ext.s3 _ _ z] at this;cases this
  have sm3:Same Hs3 H2:=λb o z=>X.kp b o (λy=>by rw [y,sa] at z;cases z) (λy=>by rw [y,s3] at z;cases z) (λy=>by rw [y,s4] at z;cases z) (r3.ext.s3 _ _ z)
  open Classical in
  let Hs':Hp:=λb=>if b=F0∨b∈as then H2 b else Hs3 b
  have hin:∀ b,(b=F0∨b∈as)->Hs' b=H2 b:=λb hb=>if_pos hb;have hout:∀ b,¬ (b=F0∨b∈as)->Hs' b=Hs3 b:=λb hb=>if_neg hb
  clear_value Hs'
  have ao:¬ (a=F0∨a∈as):=λy=>by rw [nn a y] at ha;cases ha
  refine ⟨_,rfl,q (.lst (T.map v7)) (.ref F0) n2 Hs' H2 ⟨d,T,rfl,rfl,pm,tr⟩ ⟨λb o z=>?_,λb o z nb=>?_,λb o z=>?_,λb hb z=>?_⟩ (by rw [hout a ao];exact sa) X.row (rep_lst.mpr ⟨F0,as.map V.ref,rfl,by rw [hin F0 (.inl rfl)];exact X.top,?_⟩)⟩
  ·have z1:=r3.ext.s1 _ _ z;rw [hout b (λy=>by rw [sn b y] at z1;cases z1)];exact z1
  ·have z1:=r3.ext.s2 _ _ z;exact X.kp b o nb (λy=>by rw [y,n3] at z;cases z) (λy=>by rw [y,n4] at z;cases z) z1
  ·by_cases hb:b=F0∨b∈as
   ·rw [hin b hb] at z;exact z
   ·rw [hout b hb] at z;exact sm3 _ _ z
  ·rw [hout b (λy=>hb (nn b y))];exact r3.ext.s4 b hb z
  ·have go:∀(as2:List Addr)(T2:List (List Cl)),as2.length=T2.length->(∀(i:Nat)(b:Addr)(t:List Cl),as2[i]?=some b->T2[i]?=some t->Hs' b=some (.lst (m6 t)))->Reps Hs' (T2.map v7) (as2.map V.ref):=by
    intro as2
    induction as2 with
    |nil =>
     intro T2 hl _;cases T2 with
     |nil=>exact .nil
     |cons _ _=>cases hl
    |cons b as2 ih =>
     intro T2 hl hr;cases T2 with
     |nil=>cases hl
     |cons t T2=>refine .cons (rep_lst.mpr ⟨b,m6 t,rfl,hr 0 b t rfl rfl,?_⟩) (ih T2 (by simpa using hl) λi e u he hu=>hr (i+1) e u he hu);rw [Yk];exact Reps.ofAts _
   exact go as T X.len λi b t hb ht=>by rw [hin b (.inr (yu hb))];exact X.tr i b t hb ht
section
variable {C:Addr}{d:Dr}
theorem vS {f:Str}{ns:List Str}(h1:a ε=some y)(h0:ε[0]?=some (.ow (.ob C ns xs)))(hf:f∉ns)(hl:ns.length<1000):ze C f a ε=some (.nx (ε.set 0 (.ow (.ob C (ns++[f]) (xs++[y]))))):=by unfold ze;rw [h1,yI,h0];exact if_pos ⟨rfl,hf,hl⟩
theorem WC {nm:Str}{m:List PV->Option PV}{i:Nat}{as:MA}{ns:List Str}{fs:List PV}{u:V}(h0:ε[i]?=some (.ow (.ob C ns fs)))(hn:nm∉ns)(k:as ε=some xs)(e:m (.ob C ns fs::xs)=some (.at u)):ve C nm m i as ε=some (.at u):=by unfold ve;rw [h0];show (if C=C/\nm∉ns then _ else _)=_;rw [if_pos ⟨rfl,hn⟩,k,yI,e];rfl
theorem UM (ok:d.Ok):vq C [.ob C ["least"] [t6 d.low]]=some (.at (.int d.h)):=by have G:=BB ok.rin;refine r6 rfl (m4 (v8 (j9 (v4 (Qp rfl rfl) rfl) rfl) rfl ?_));show some (PV.at (.int (((d.low.map qR).length:Int)-1)))=_;rw [yZ,show d.low.length=d.h+1 from G.len,show ((d.h+1:Nat):Int)-1=(d.h:Int) by omega]
theorem YD:∀ cs:List Cl,xR (cs.map λc=>PV.tup [.at (.str c.name),c.pv])=some (cs.map λc=>((.inr c.name:z9),c.pv))
 |[]=>rfl
 |c::cs=>by
  show Option.bind (some (Sum.inr c.name)) (λkk=>(xR (cs.map λc=>PV.tup [.at (.str c.name),c.pv])).map ((kk,c.pv)::·))=_;rw [yI,YD cs];rfl
theorem Bp (h:(cs.map Cl.name).Nodup):(keysOf cs).Nodup:=by
 induction cs with
 |nil=>exact List.nodup_nil
 |cons c cs ih=>rw [yN] at h;have h':=yF.mp h;refine yF.mpr ⟨λz=>?_,ih h'.2⟩;obtain ⟨y,hy,e⟩:=yq.mp z;injection e with e;exact h'.1 (yq.mpr ⟨y,hy,e⟩)
theorem MV (ok:d.Ok):vt C [t6 d.rss,.lst (d.cls.map Cl.pv),.at (.int d.last),.at (.int d.time)]=some (d.ob C):=by
 have hlim:lim=1000000:=rfl;have ten:=ok.ten;have glen:=ok.rin.len;have h4:=ok.h4;have cp:∀(s0 s2 s3 s4:MSlot),u6 [none] [0] (y7 (q9 1)) (v3 0) k4 (z5 zA (q8 (x8 0) x9)) [s0,.sh (t6 d.rss),s2,s3,s4]=some (t6 d.rss):=λs0 s2 s3 s4 =>
  o4 qR qR d.rss rfl rfl (by omega) λr _=>⟨_,rfl,rfl⟩
 have dk:∀(s0 s1 s3 s4:MSlot),z5 jG (q8 (u6 [none] [0] (y7 (q9 2)) (v3 0) k4 (xK (q8 (z5 zy (q8 (q9 0) x9)) (q8 (q9 0) x9)))) x9) [s0,s1,.sh (.lst (d.cls.map Cl.pv)),s3,s4]=some (.fk (keysOf d.cls) (d.cls.map Cl.pv)):=λs0 s1 s3 s4=>by
  refine j9 (v4 (o4 Cl.pv (λc=>PV.tup [.at (.str c.name),c.pv]) d.cls rfl rfl (by omega) λc _=>⟨_,rfl,Qt (v4 (j9 rfl rfl) (v4 rfl rfl)) l2⟩) rfl) ?_;show (xR (d.cls.map λc=>PV.tup [.at (.str c.name),c.pv])).bind _=_;have k1:(d.cls.map λc=>((.inr c.name:z9),c.pv)).map (·.1)=keysOf d.cls:=by rw [yr];rfl
  have k2:(d.cls.map λc=>((.inr c.name:z9),c.pv)).map (·.2)=d.cls.map Cl.pv:=by rw [yr];rfl
  rw [YD,yI,k1,k2];exact if_pos ⟨Bp ok.nd,by rw [yZ];omega⟩
 have run:Qe C [.ow (.ob C [] []),.sh (t6 d.rss),.sh (.lst (d.cls.map Cl.pv)),.sh (.at (.int d.last)),.sh (.at (.int d.time))]=some (.nx [.ow (d.ob C),.sh (t6 d.rss),.sh (.lst (d.cls.map Cl.pv)),.sh (.at (.int d.last)),.sh (.at (.int d.time))]) :=
  k6 (vS (j9 rfl (La ok.rin ok.h1 ok.h4)) rfl (by decide) (by decide)) (k6 (Qo (j9 (v4 rfl (v4 rfl (v4 (WC rfl (by decide) rfl (UM ok)) rfl))) (MQ ok.l1 ok.l2 ok.t1)))
   (k6 (Qo (j9 (v4 rfl (v4 (WC rfl (by decide) rfl (UM ok)) rfl)) (MO ok.cl ok.nd ok.ten)))
   (k6 (vS (cp _ _ _ _) rfl (by decide) (by decide)) (k6 (vS (dk _ _ _ _) rfl (by decide) (by decide)) (k6 (vS (y:= .at (.int d.last)) (f:="last") (ns:=["least","given","held"]) (WB (k5 (v:=false) (v8 rfl rfl rfl)) rfl) rfl (by decide) (by decide)) (vS (y:= .at (.int d.time)) (f:="time") (ns:=["least","given","held","last"]) (xs:=[t6 d.low,t6 d.rss,.fk (keysOf d.cls) (d.cls.map Cl.pv),.at (.int d.last)]) rfl rfl (by decide) (by decide)))))))
 unfold vt vO;refine (if_pos rfl).trans ?_;show (Qe C [.ow (.ob C [] []),.sh (t6 d.rss),.sh (.lst (d.cls.map Cl.pv)),.sh (.at (.int d.last)),.sh (.at (.int d.time))]).bind _=_;rw [run];rfl
end
section
variable {C:Addr}{d:Dr}
theorem Bo (cs:List Cl):zP (keysOf cs)=some (cs.map Cl.name):=by
 induction cs with
 |nil=>rfl
 |cons c cs ih=>show (zP (keysOf cs)).map (c.name::·)=_;rw [ih];rfl
theorem Mj (ss:List Str):jc (y3 ss)=some ss:=by
 induction ss with
 |nil=>rfl
 |cons s ss ih=>show (jc (y3 ss)).map (s::·)=_;rw [ih];rfl
theorem UN (ok:d.Ok):jB C [d.ob C]=some (.lst (y3 (zF d.names))):=by refine vi rfl (m4 (j9 (v4 (Qp rfl rfl) rfl) ?_));show (zP (keysOf d.cls)).bind _=_;rw [Bo,yI,if_pos (by rw [yZ];have:=ok.ten;omega)];rfl
theorem Uk {ss:List Str}(h:ss.Nodup):∀ i,i<=ss.length->b8 (λi=>(Sum.inr (ss.getD i ⟨#[]⟩):z9)) i=(ss.take i).map Sum.inr
 |0,_=>rfl
 |i+1,hi=>by
  have ih:=Uk h i (by omega);have hl:i<ss.length:=by omega
  have eg:ss.getD i ⟨#[]⟩=ss[i]:=i6 hl;have hn:ss[i]∉ss.take i:=λz=>by
   have e:ss=ss.take i++ss[i]::ss.drop (i+1):=by rw [<- yi hl,List.take_append_drop]
   rw [e] at h;exact (uu.mp h).2.2 _ z _ yO rfl
  unfold b8;rw [ih,eg,if_neg (λz=>hn (by
   obtain ⟨y,hy,e⟩:=yq.mp z;injection e with e;rw [<- e];exact hy)),List.take_add_one,yU hl,yB]
  rfl
theorem BF {ss:List Str}(h:ss.Nodup):Zd ss=ss.length:=by unfold Zd;rw [Uk h _ (yS _),yZ,List.take_length]
theorem v_are (ok:d.Ok)(L:Lst d ns):vY C [d.ob C,v7 ns]=some (.at (.bl true)):=by
 have hlim:lim=1000000:=rfl;have l10:=L.len ok;have en:y3 (ns.map Cl.name)=(ns.map Cl.name).map λs=>PV.at (.str s):=rfl;refine r6 rfl (k6 (qi (qh (qz (j9 rfl XO))) qA) (k6 (xo (Qs rfl (by decide) rfl (UN ok))) (m4 (zv (j9 (v4 (o4 (λs:Str=>PV.at (.str s)) (λ_=>PV.at (.bl true)) (ns.map Cl.name) rfl rfl (by rw [yZ];omega) λs hs=>⟨_,rfl,v8 rfl rfl ((XN false s _).trans ?_)⟩) rfl) (jp _)) (v8 (y:= .at (.int (ns.length:Int))) (x:= .at (.int (ns.length:Int))) ?_ ?_ (Ys rfl))))))
 ·obtain ⟨c,hc,rfl⟩:=yq.mp hs;have:c.name∈zF d.names:=(Jy d.names).mem_iff.mpr (yq.mpr ⟨c,L.sub c hc,rfl⟩);simp [this]
 ·show (jc (y3 (ns.map Cl.name))).bind _=_;rw [Mj,yI,if_pos (by rw [yZ];omega),BF L.nd,yZ]
 ·refine j9 rfl ?_;show some (PV.at (.int ((y3 (ns.map Cl.name)).length:Int)))=_;rw [qS,yZ]
end
theorem nm_F (l:List Cl):y3 (l.map Cl.name)=l.map λc=>PV.at (.str c.name):=by unfold y3;rw [yr];rfl
theorem QM :(y3 (ns.map Cl.name)).length=ns.length:=by rw [qS,yZ]
def qr:List Cl->Nat
 |[]=>0
 |c::_=>c.hue
def y8 (T:List (List Cl)):PV:= .lst (T.map v7)
section
variable {C:Addr}{d:Dr}{T:List (List Cl)}{t:List Cl}
theorem Trays.sub (x:Trays d T)(ht:t∈T):∀ c∈t,c∈d.cls:=λc hc=>x.perm.mem_iff.mp (List.mem_flatten.mpr ⟨t,ht,hc⟩)
theorem Trays.fl (x:Trays d T)(ok:d.Ok):T.flatten.length<=10:=by rw [x.perm.length_eq];exact ok.ten
theorem Trays.len (x:Trays d T)(ok:d.Ok):T.length<=10:=yf (XF λt ht=>(x.each t ht).ne) (x.fl ok)
theorem Trays.tl (x:Trays d T)(ok:d.Ok)(ht:t∈T):t.length<=10:=yf (XE ht) (x.fl ok)
theorem Trays.lst (x:Trays d T)(ok:d.Ok):Lst d T.flatten:=⟨λc h=>x.perm.mem_iff.mp h,(x.perm.map Cl.name).nodup_iff.mpr ok.nd⟩
theorem MR (ok:d.Ok)(h:∀ c∈t,c∈d.cls)(hl:t.length<=10):wa C [d.ob C,v7 t]=some (.lst (t.map Cl.pv)):=by have hlim:lim=1000000:=rfl;exact r6 rfl (m4 (o4 (λc:Cl=>PV.at (.str c.name)) Cl.pv t (by show some (y3 (t.map Cl.name))=_;rw [nm_F]) rfl (by omega) λc hc=>⟨_,rfl,Qs rfl (by decide) rfl (UL ok (h c hc))⟩))
theorem ix0 (c:Cl)(t:List Cl):w5 (v7 (c::t)) (.at (.int 0))=some (.at (.str c.name)):=qX (xs:=y3 ((c::t).map Cl.name)) (j:=0) rfl
theorem JG (ok:d.Ok)(h:∀ c∈t,c∈d.cls)(ne:t≠[]):zU C [d.ob C,v7 t]=some (.at (.int (qr t))):=by
 cases t with
 |nil=>exact absurd rfl ne
 |cons c t=>exact r6 rfl (m4 (j9 (v4 (Qs rfl (by decide) (v4 (v8 rfl rfl (ix0 c t)) rfl) (UL ok (h c yO))) rfl) rfl))
theorem Tray.hue (x:Tray t):∀ c∈t,c.hue=qr t:=λc hc=>by
 cases t with
 |nil=>cases hc
 |cons e t=>exact x.one c hc e yO
theorem v_one (ok:d.Ok)(h:∀ c∈t,c∈d.cls)(hl:t.length<=10)(x:Tray t):wb C [d.ob C,v7 t]=some (.at (.bl true)):=by have hlim:lim=1000000:=rfl;refine r6 rfl (m4 (j9 (v4 (o4 Cl.pv (λ_=>PV.at (.bl true)) t (vj (j9 rfl (MR ok h hl))) rfl (by omega) λc hc=>⟨_,rfl,v8 (x:= .at (.int c.hue)) (j9 rfl rfl) (j9 rfl (JG ok h x.ne)) ?_⟩) rfl) (jp _)));rw [x.hue c hc];exact (vQ _ _).trans (by rw [yt rfl])
theorem XQ (xs:List PV):m7 [.lst xs,.at (.ty "list")]=some (.at (.bl true)):=by unfold m7 tyP;rfl
theorem MU (ok:d.Ok)(x:Trays d T):QA [y8 T]=some (.at (.bl true)):=by have hlim:lim=1000000:=rfl;have tl:=x.len ok;refine r6 rfl (m4 (zv (j9 rfl (XQ _)) (j9 (v4 (o4 v7 (λ_=>PV.at (.bl true)) T rfl rfl (by omega) λt ht=>⟨_,rfl,zv (j9 rfl (XQ _)) (v8 (x:= .at (.int (t.length:Int))) (j9 rfl (by show some (PV.at (.int ((y3 (t.map Cl.name)).length:Int)))=_;rw [QM])) rfl ?_)⟩) rfl) (jp _))));have:=List.length_pos_iff.mpr (x.each t ht).ne;show some (PV.at (.bl (decide ((0:Int)<(t.length:Int)))))=_;rw [yt (by omega)]
theorem Lg (ok:d.Ok)(L:Lst d ns)(p:ns.Perm d.cls):wc C [d.ob C,v7 ns]=some (.at (.bl true)):=by refine r6 rfl (m4 (zv (j9 rfl (v_are ok L)) (v8 (x:= .at (.int (ns.length:Int))) (y:= .at (.int (ns.length:Int))) (j9 rfl (by show some (PV.at (.int ((y3 (ns.map Cl.name)).length:Int)))=_;rw [QM])) (j9 (v4 (Qs rfl (by decide) rfl (UN ok)) rfl) ?_) ((vQ _ _).trans (by rw [yt rfl])))));show some (PV.at (.int ((y3 (zF d.names)).length:Int)))=_;rw [qS,(Jy _).length_eq,p.length_eq];unfold Dr.names;rw [yZ]
theorem Ye:∀ T:List (List Cl),xb (T.map v7)=some (T.map λt=>y3 (t.map Cl.name))
 |[]=>rfl
 |t::T=>by
  show (xb (T.map v7)).map (y3 (t.map Cl.name)::·)=_;rw [Ye T];rfl
theorem WE (T:List (List Cl)):(T.map λt=>y3 (t.map Cl.name)).flatten=y3 (T.flatten.map Cl.name):=by unfold y3;rw [List.map_flatten,List.map_flatten,yr];rfl
theorem MN (ok:d.Ok)(x:Trays d T):vZ C [d.ob C,y8 T]=some (.at .non):=by have hlim:lim=1000000:=rfl;have tl:=x.len ok;have fl:=x.fl ok;refine Qq rfl (k6 (qi (qY (qh (qz (j9 rfl (MU ok x)))) (qh (qz (j9 (v4 rfl (v4 ((Kl rfl (Ye T) ?_).trans (by rw [WE];rfl)) rfl)) (Lg ok (x.lst ok) x.perm))))) qA) (qi (qh (qz (j9 (v4 (o4 v7 (λ_=>PV.at (.bl true)) T rfl rfl (by omega) λt ht=>⟨_,rfl,j9 rfl (v_one ok (x.sub ht) (x.tl ok ht) (x.each t ht))⟩) rfl) (jp _)))) qA));rw [WE,QM];omega
def hasN (s:Str)(t:List Cl):Bool:=decide (s∈t.map Cl.name)
def plc:List (List Cl)->Str->Option Nat
 |[],_=>none
 |t::T,s=>if hasN s t=true then some 0 else (plc T s).map (·+1)
theorem CJ {t:List Cl}{T:List (List Cl)}:plc (t::T) s=if hasN s t=true then some 0 else (plc T s).map (·+1):=rfl
def plP:Option Nat->PV
 |some k=> .at (.int k)
 |none=> .at .non
theorem Xa {s:Str}:∀{T:List (List Cl)}{k:Nat},plc T s=some k->∃ t,T[k]?=some t/\s∈t.map Cl.name
 |[],k,h=>by cases h
 |t::T,k,h=>by
  unfold plc at h;split at h
  ·rename_i h1;cases h;exact ⟨t,rfl,yc h1⟩
  ·obtain ⟨j,hj,rfl⟩:=yK.mp h;obtain ⟨u,h1,h2⟩:=Xa hj;exact ⟨u,by simpa using h1,h2⟩
theorem Yz {s:Str}:∀{T:List (List Cl)}{t:List Cl},t∈T->s∈t.map Cl.name->∃ k,plc T s=some k
 |u::T,t,ht,hs=>by
  unfold plc;split
  ·exact ⟨0,rfl⟩
  ·rename_i h1;rcases yM.mp ht with rfl|ht
   ·exact absurd (yt hs) h1
   ·obtain ⟨k,hk⟩:=Yz ht hs;exact ⟨k+1,by rw [hk];rfl⟩
abbrev plG:MG:=qI 2 (m5 (v3 2) (m5 (v3 3) qH))
abbrev plB:MS:=b9 (dT (z6 (pIn false) (x8 1) (x8 3))) (u3 (q9 2)) c4
theorem Yy {x0:PV}{s:Str}:∀{T:List (List Cl)}{k:Nat}{u v:MSlot},(∃ j,plc T s=some j/\f9 plG plB (i5 k (T.map v7)) [.sh x0,.sh (.at (.str s)),u,v]=some (.rt (.at (.int ((k+j:Nat):Int)))))∨(plc T s=none/\∃ u' v',f9 plG plB (i5 k (T.map v7)) [.sh x0,.sh (.at (.str s)),u,v]=some (.nx [.sh x0,.sh (.at (.str s)),u',v']))
 |[],k,u,v=> .inr ⟨rfl,u,v,rfl⟩
 |t::T,k,u,v=>by
  have c1:dT (z6 (pIn false) (x8 1) (x8 3)) [.sh x0,.sh (.at (.str s)),.sh (.at (.int k)),.sh (v7 t)]=some (hasN s t):=k5 (v8 rfl rfl (XN false s (t.map Cl.name)));cases h:hasN s t with
  |true=>refine .inl ⟨0,by unfold plc;rw [h];rfl,?_⟩;have b1:plB [.sh x0,.sh (.at (.str s)),.sh (.at (.int k)),.sh (v7 t)]=some (.rt (.at (.int k))):=Qr (c1.trans (by rw [h])) rfl;show Option.bind (plB [.sh x0,.sh (.at (.str s)),.sh (.at (.int k)),.sh (v7 t)]) _=_;rw [b1];rfl
  |false =>
   have b1:plB [.sh x0,.sh (.at (.str s)),.sh (.at (.int k)),.sh (v7 t)]=some (.nx [.sh x0,.sh (.at (.str s)),.sh (.at (.int k)),.sh (v7 t)]):=qi (c1.trans (by rw [h])) rfl;have st:f9 plG plB (i5 k ((t::T).map v7)) [.sh x0,.sh (.at (.str s)),u,v]=f9 plG plB (i5 (k+1) (T.map v7)) [.sh x0,.sh (.at (.str s)),.sh (.at (.int k)),.sh (v7 t)]:=by show Option.bind (plB [.sh x0,.sh (.at (.str s)),.sh (.at (.int k)),.sh (v7 t)]) _=_;rw [b1];rfl
   have ep:plc (t::T) s=(plc T s).map (·+1):=by rw [CJ,h];rfl
   rcases Yy (x0:=x0) (s:=s) (T:=T) (k:=k+1) (u:= .sh (.at (.int k))) (v:= .sh (v7 t)) with ⟨j,e1,e2⟩|⟨e1,u',v',e2⟩
   ·refine .inl ⟨j+1,by rw [ep,e1];rfl,?_⟩;rw [st,e2,show k+1+j=k+(j+1) by omega]
   ·exact .inr ⟨by rw [ep,e1];rfl,u',v',by rw [st,e2]⟩
theorem Lf :wj [y8 T,.at (.str s)]=some (plP (plc T s)):=by
 rcases Yy (x0:=y8 T) (s:=s) (T:=T) (k:=0) (u:= .no) (v:= .no) with ⟨j,e1,e2⟩|⟨e1,u',v',e2⟩
 ·rw [e1];refine r6 rfl ?_;show w4 (xI (xn (q8 (q9 0) x9)) plG plB) _ _=_;have:xI (xn (q8 (q9 0) x9)) plG plB [.sh (y8 T),.sh (.at (.str s)),.no,.no]=some (.rt (.at (.int ((0+j:Nat):Int)))):=vR (xs:=i5 0 (T.map v7)) rfl e2;unfold w4;show Option.bind (xI (xn (q8 (q9 0) x9)) plG plB [.sh (y8 T),.sh (.at (.str s)),.no,.no]) _=_;rw [this,Nat.zero_add];rfl
 ·rw [e1];exact r6 rfl (k6 (vR (xs:=i5 0 (T.map v7)) rfl e2) rfl)
def k8 (m:Str×Int):PV:= .tup [.at (.str m.1),.at (.int m.2)]
def mvB (T:List (List Cl))(m:Str×Int):Bool:=match plc T m.1 with
 |none=>false
 |some k=>!decide ((k:Int)=m.2)&&(decide (0<=m.2/\m.2<T.length)&&decide (qr (T.getD k [])=qr (T.getD m.2.toNat [])))
theorem UF {k:Nat}{t:List Cl}(h:T[k]?=some t):w5 (y8 T) (.at (.int (k:Int)))=some (v7 t):=qX (xs:=T.map v7) (by rw [yV,h];rfl)
theorem MX (ok:d.Ok)(x:Trays d T):zS C [d.ob C,y8 T,k8 m]=some (.at (.bl (mvB T m))):=by
 obtain ⟨s,to⟩:=m;have e0:z5 wj (q8 (q9 1) (q8 (z6 w5 (x8 2) (dC (.int 0))) x9)) [.sh (d.ob C),.sh (y8 T),.sh (k8 (s,to)),.no,.no]=some (plP (plc T s)):=j9 (v4 rfl (v4 (v8 rfl rfl rfl) rfl)) Lf;unfold mvB;cases hp:plc T s with
 |none=>rw [hp] at e0;refine r6 rfl (k6 (xo e0) (k6 (xo (x:= .at (.int to)) (v8 rfl rfl rfl)) (XA (Qr (Wl rfl) rfl))))
 |some k =>
  rw [hp] at e0;obtain ⟨t,ht,hs⟩:=Xa hp;have tl:=(yG.mp ht).1;have gk:T.getD k []=t:=by rw [yE,ht];rfl
  have en:dT (z6 wx (x8 3) (dC .non)) [.sh (d.ob C),.sh (y8 T),.sh (k8 (s,to)),.sh (.at (.int k)),.sh (.at (.int to))]=some false:=rfl;have ee:dT (z6 qd (x8 3) (x8 4)) [.sh (d.ob C),.sh (y8 T),.sh (k8 (s,to)),.sh (.at (.int k)),.sh (.at (.int to))]=some (decide ((k:Int)=to)):=k5 (v8 rfl rfl (vQ _ _));have ec:dT (zq pLe pLt (dC (.int 0)) (x8 4) (z5 m8 (q8 (x8 1) x9))) [.sh (d.ob C),.sh (y8 T),.sh (k8 (s,to)),.sh (.at (.int k)),.sh (.at (.int to))]=some (decide (0<=to/\to<T.length)):=by
   refine k5 ?_;show Option.bind (some (decide ((0:Int)<=to))) (λc=>if c=true then some (PV.at (.bl (decide (to<((T.map v7).length:Int))))) else some (.at (.bl false)))=_;rw [yZ];by_cases h:(0:Int)<=to
   ·rw [yt h,yI,if_pos rfl];have:decide (to<(T.length:Int))=decide (0<=to/\to<(T.length:Int)):=by simp [h]
    rw [this]
   ·rw [yD h,yI,if_neg yW];have:decide (0<=to/\to<(T.length:Int))=false:=by simp [h]
    rw [this]
  refine r6 rfl (k6 (xo e0) (k6 (xo (x:= .at (.int to)) (v8 rfl rfl rfl)) ?_));show w4 _ _ _=some (Out.rt (.at (.bl (!decide ((k:Int)=to)&&(decide (0<=to/\to<(T.length:Int))&&decide (qr (T.getD k [])=qr (T.getD to.toNat [])))))));by_cases h1:(k:Int)=to
  ·rw [yt h1] at ee ⊢;exact XA (Qr (Xv en (Wl ee)) rfl)
  ·rw [yD h1] at ee ⊢;by_cases h2:0<=to/\to<T.length
   ·rw [yt h2] at ec ⊢;obtain ⟨j,rfl⟩:=yg h2.1;have jl:j<T.length:=by omega
    have hj:=yU jl;have gj:T.getD j []=T[j]:=by rw [yE,hj];rfl
    have mt:=yu ht;have mj:=yz jl;refine k6 (qi (qY en (qY ee (qh ec))) rfl) (m4 (v8 (j9 (v4 rfl (v4 (v8 rfl rfl (UF ht)) rfl)) (JG ok (x.sub mt) (x.each t mt).ne)) (j9 (v4 rfl (v4 (v8 rfl rfl (UF hj)) rfl)) (JG ok (x.sub mj) (x.each _ mj).ne)) ?_));rw [vQ];show _=some (PV.at (.bl (!false&&(true&&decide (qr (T.getD k [])=qr (T.getD ((j:Int)).toNat []))))));rw [uR,gk,gj];simp;omega
   ·rw [yD h2] at ec ⊢;exact XA (Qr (Xv en (Xv ee (GV ec))) rfl)
end
section
variable {C:Addr}{d:Dr}{T:List (List Cl)}{t:List Cl}{s:Str}{c:Cl}
def rm (s:Str)(t:List Cl):List Cl:=t.filter λe=>!decide (e.name=s)
def qJ (T:List (List Cl))(c:Cl)(to:Nat):List (List Cl):=((T.map (rm c.name)).set to ((T.map (rm c.name)).getD to []++[c])).filter λt=>!t.isEmpty
theorem BL (a b:Str):t0 (.at (.str a)) (.at (.str b))=some (.at (.bl (!decide (a=b)))):=by show some (PV.at (.bl (!h8 (.str a) (.str b))))=_;have:h8 (.str a) (.str b)=decide (a=b):=rfl;rw [this]
theorem Ud (hl:t.length<=10):u6 [none,some 1] [0] (y7 (q9 0)) (v3 0) (dT (z6 t0 (x8 0) (x8 1))) (q9 0) [.sh (v7 t),.sh (.at (.str s))]=some (v7 (rm s t)):=by have hlim:lim=1000000:=rfl;refine (Wv (λc:Cl=>PV.at (.str c.name)) (λc:Cl=>PV.at (.str c.name)) (λe=>!decide (e.name=s)) t (by show some (y3 (t.map Cl.name))=_;rw [nm_F]) rfl (by omega) λc _=>⟨_,rfl,k5 (v8 rfl rfl (BL _ _)),λ_=>rfl⟩).trans ?_;unfold v7 rm;rw [nm_F]
theorem Ll (hl:t.length<=10):wo [v7 t,.at (.str s)]=some (v7 (rm s t)):=vi rfl (m4 (Ud hl))
abbrev nmL (T:List (List Cl)):List (List PV):=T.map λt=>y3 (t.map Cl.name)
theorem Zh (T:List (List Cl)):(nmL T).map PV.lst=T.map v7:=by rw [yr];rfl
theorem Zi (T:List (List Cl))(j:Nat):(nmL T).getD j []=y3 ((T.getD j []).map Cl.name):=by rw [yE,yE,yV];cases T[j]?<;>rfl
theorem Yj (T:List (List Cl))(j:Nat)(c:Cl):((nmL T).set j ((nmL T).getD j []++[.at (.str c.name)])).map PV.lst=(T.set j (T.getD j []++[c])).map v7:=by
 rw [List.map_set,List.map_set,Zh,Zi]
 congr 1
 unfold v7 y3;rw [yB,yB];rfl
theorem Zy (e:Cl)(h:e∈rm s t):e∈t/\e.name≠s:=by obtain ⟨h1,h2⟩:=uQ.mp h;exact ⟨h1,by simpa using h2⟩
theorem Ue:(rm s t).length<=t.length:=List.length_filter_le _ _
theorem Le (ok:d.Ok)(x:Trays d T)(hto:to<T.length):wn [y8 T,k8 (c.name,(to:Int))]=some (y8 (qJ T c to)):=by
 have hlim:lim=1000000:=rfl;have tl:=x.len ok;have e1:=Wz (n:=2) (cap:=[none,some 1]) (ts:=[0]) (it:=y7 (q9 0)) (g:=v3 0) (c:=k4) (f:=z5 wo (q8 (q9 0) (q8 (z6 w5 (x8 1) (dC (.int 0))) x9))) (k:=z6 w5 (x8 1) (dC (.int 1))) (x:=z6 w5 (x8 1) (dC (.int 0))) (ε:=[.sh (y8 T),.sh (k8 (c.name,(to:Int))),.no]) (xs:=T.map v7) (ls:=nmL (T.map (rm c.name))) (j:=to) (y:= .at (.str c.name)) rfl rfl (by rw [yZ];omega) (by show 2<3;decide)
  (by rw [Zh,yr];exact Qh v7 (λt=>v7 (rm c.name t)) T λt ht=>⟨_,rfl,j9 (v4 rfl (v4 (v8 rfl rfl rfl) rfl)) (Ll (x.tl ok ht))⟩) rfl rfl (by rw [yZ,yZ];exact hto) (by
   rw [Zi,qS,yZ,yE,yV,yU hto];have:=Ue (s:=c.name) (t:=T[to]);have:=x.tl ok (yz hto);show (rm c.name T[to]).length<=lim;omega)
 rw [Yj] at e1;show mZ _ _=some (.lst ((qJ T c to).map v7));refine Yg (r6 rfl (k6 e1 (m4 ?_)));have hl2:((T.map (rm c.name)).set to ((T.map (rm c.name)).getD to []++[c])).length=T.length:=by rw [yC,yZ]
 show zr [none] [0] (y7 (x8 2)) (v3 0) (p8 (x8 0)) (q9 0) _=some (y8 (qJ T c to));unfold y8 qJ;generalize (T.map (rm c.name)).set to ((T.map (rm c.name)).getD to []++[c])=T2 at hl2 ⊢;refine Wx (xs:=T2.map v7) rfl rfl (by rw [yZ];omega) ?_;refine Qf v7 v7 (λt=>!t.isEmpty) T2 λt _=>⟨_,rfl,?_,λ_=>rfl⟩;show (some (v7 t)).bind pTru=_;show some (!(y3 (t.map Cl.name)).isEmpty)=_;cases t<;>rfl
theorem Ld (ok:d.Ok)(x:Trays d T)(hto:to<T.length):QG [y8 T,.at (.str c.name),.at (.int (to:Int))]=some (y8 (qJ T c to)):=by
 have hlim:lim=1000000:=rfl;have tl:=x.len ok;have e1:=Wz (n:=3) (cap:=[none,some 1]) (ts:=[0]) (it:=y7 (q9 0)) (g:=v3 0) (c:=k4) (f:=u6 [none,some 1] [0] (y7 (q9 0)) (v3 0) (dT (z6 t0 (x8 0) (x8 1))) (q9 0)) (k:=q9 2) (x:=q9 1) (ε:=[.sh (y8 T),.sh (.at (.str c.name)),.sh (.at (.int (to:Int))),.no]) (xs:=T.map v7) (ls:=nmL (T.map (rm c.name))) (j:=to) (y:= .at (.str c.name)) rfl rfl (by rw [yZ];omega) (by show 3<4;decide)
  (by rw [Zh,yr];exact Qh v7 (λt=>v7 (rm c.name t)) T λt ht=>⟨_,rfl,Ud (x.tl ok ht)⟩) rfl rfl (by rw [yZ,yZ];exact hto) (by
   rw [Zi,qS,yZ,yE,yV,yU hto];have:=Ue (s:=c.name) (t:=T[to]);have:=x.tl ok (yz hto);show (rm c.name T[to]).length<=lim;omega)
 rw [Yj] at e1;refine r6 rfl (k6 e1 (m4 ?_));have hl2:((T.map (rm c.name)).set to ((T.map (rm c.name)).getD to []++[c])).length=T.length:=by rw [yC,yZ]
 show zr [none] [0] (y7 (x8 3)) (v3 0) (dT (z6 pGt (z5 m8 (q8 (x8 0) x9)) (dC (.int 0)))) (q9 0) _=some (y8 (qJ T c to));unfold y8 qJ;generalize (T.map (rm c.name)).set to ((T.map (rm c.name)).getD to []++[c])=T2 at hl2 ⊢;refine Wx (xs:=T2.map v7) rfl rfl (by rw [yZ];omega) ?_;refine Qf v7 v7 (λt=>!t.isEmpty) T2 λt _=>⟨_,rfl,k5 (v8 (j9 rfl rfl) rfl ?_),λ_=>rfl⟩;show some (PV.at (.bl (decide ((0:Int)<((y3 (t.map Cl.name)).length:Int)))))=_;cases t with
 |nil=>rfl
 |cons a t=>rw [yt (by rw [qS,yZ,yw];omega)];rfl
theorem XG {α:Type}:∀ T:List (List α),(T.filter λt=>!t.isEmpty).flatten=T.flatten
 |[]=>rfl
 |[]::T=>by rw [uX];exact XG T
 |(a::t)::T=>by
  show ((a::t)::T.filter λt=>!t.isEmpty).flatten=_;rw [ym,ym,XG T]
theorem WF (s:Str):∀ T:List (List Cl),(T.map (rm s)).flatten=rm s T.flatten
 |[]=>rfl
 |t::T=>by
  rw [yN,ym,ym,WF s T];unfold rm;rw [List.filter_append]
theorem Uf:∀{l:List Cl},(l.map Cl.name).Nodup->c∈l->(c::rm c.name l).Perm l
 |e::l,nd,hc=>by
  obtain ⟨h1,h2⟩:=yF.mp nd;by_cases he:e.name=c.name
  ·have ec:e=c:=by
    rcases yM.mp hc with z|z
    ·exact z.symm
    ·exact absurd (he▸yq.mpr ⟨c,z,rfl⟩) h1
   subst ec;have:rm e.name (e::l)=l:=by unfold rm;rw [uX,if_neg (by simp)];refine List.filter_eq_self.mpr λa ha=>?_;have:a.name≠e.name:=λz=>h1 (z▸yq.mpr ⟨a,ha,rfl⟩);simp [this]
   rw [this]
  ·have hc':c∈l:=by
    rcases yM.mp hc with z|z
    ·exact absurd (by rw [z]) he
    ·exact z
   have:rm c.name (e::l)=e::rm c.name l:=by unfold rm;rw [uX,if_pos (by simp [he])]
   rw [this];exact (List.Perm.swap e c _).trans ((Uf h2 hc').cons e)
theorem Trays.mov (ok:d.Ok)(x:Trays d T)(hc:c∈d.cls)(hto:to<T.length)(hh:c.hue=qr (T.getD to [])):Trays d (qJ T c to):=by
 have hL:to<(T.map (rm c.name)).length:=by rw [yZ];exact hto
 have gt:T.getD to []=T[to]:=by rw [yE,yU hto];rfl
 have g1:(T.map (rm c.name))[to]?=some (rm c.name T[to]):=by rw [yV,yU hto];rfl
 have g2:(T.map (rm c.name)).getD to []=rm c.name T[to]:=by rw [yE,g1];rfl
 rw [gt] at hh;have mt:=yz hto;refine ⟨?_,λu hu=>?_⟩
 ·unfold qJ;rw [XG,g2];refine (XH g1).trans ?_;rw [WF];exact (Uf (x.lst ok).nd (x.perm.mem_iff.mpr hc)).trans x.perm
 ·unfold qJ at hu;rw [g2] at hu;obtain ⟨h1,h2⟩:=uQ.mp hu;refine ⟨(λz=>by rw [z] at h2;cases h2),?_⟩;rcases List.mem_or_eq_of_mem_set h1 with h|rfl
  ·obtain ⟨w,hw,rfl⟩:=yq.mp h;exact λa ha b hb=>(x.each w hw).one a (Zy a ha).1 b (Zy b hb).1
  ·have hu2:∀ a∈rm c.name T[to]++[c],a.hue=c.hue:=λa ha=>by
    rcases yk.mp ha with h|h
    ·rw [hh];exact (x.each _ mt).hue a (Zy a h).1
    ·rw [yQ.mp h]
   exact λa ha b hb=>by rw [hu2 a ha,hu2 b hb]
end
section
variable {C CM:Addr}{d:Dr}{T T':List (List Cl)}{t:List Cl}{s:Str}{c:Cl}
structure ji (d:Dr)(T:List (List Cl))(c:Cl)(to:Nat):Prop where
 mem:c∈d.cls
 lt:to<T.length
 hue:c.hue=qr (T.getD to [])
 yes:mvB T (c.name,(to:Int))=true
inductive Walk (d:Dr):List (List Cl)->List (Str×Int)->List (List Cl)->Prop
 |nil {T:List (List Cl)}:Walk d T [] T
 |cons {T T':List (List Cl)} {c:Cl} {to:Nat} {ms:List (Str×Int)}:ji d T c to->Walk d (qJ T c to) ms T'->Walk d T ((c.name,(to:Int))::ms) T'
theorem Walk.trays (ok:d.Ok)(w:Walk d T ms T')(x:Trays d T):Trays d T':=by
 induction w with
 |nil=>exact x
 |cons m _ ih=>exact ih (x.mov ok m.mem m.lt m.hue)
theorem Walk.snoc (w:Walk d T ms T')(m:ji d T' c to):Walk d T (ms++[(c.name,(to:Int))]) (qJ T' c to):=by
 induction w with
 |nil=>exact .cons m .nil
 |cons m' _ ih=>exact .cons m' (ih m)
abbrev twG:MG:=qI 2 (m5 (v3 4) (m5 (v3 5) qH))
abbrev twC (C:Addr):MB:=c5 (p8 (z5 (zS C) (q8 (q9 0) (q8 (q9 3) (q8 (q9 5) x9)))))
abbrev twB (C:Addr):MS:=w4 (b9 (twC C) o9 c4) (o3 3 (z5 wn (q8 (q9 3) (q8 (q9 5) x9))))
abbrev twE (C:Addr)(d:Dr)(x1 x2:PV)(T:List (List Cl))(u v:MSlot):ME:=[.sh (d.ob C),.sh x1,.sh x2,.sh (y8 T),u,v]
theorem Mx (ok:d.Ok)(x:Trays d T):twC C (twE C d x1 x2 T u (.sh (k8 m)))=some (!mvB T m):=by have e1:z5 (zS C) (q8 (q9 0) (q8 (q9 3) (q8 (q9 5) x9))) (twE C d x1 x2 T u (.sh (k8 m)))=some (.at (.bl (mvB T m))):=j9 (v4 rfl (v4 rfl (v4 rfl rfl))) (MX ok x);show Option.bind (Option.bind (z5 (zS C) (q8 (q9 0) (q8 (q9 3) (q8 (q9 5) x9))) (twE C d x1 x2 T u (.sh (k8 m)))) pTru) _=_;rw [e1];rfl
theorem Mw (ok:d.Ok)(x:Trays d T)(h:ji d T c to):twB C (twE C d x1 x2 T u (.sh (k8 (c.name,(to:Int)))))=some (.nx (twE C d x1 x2 (qJ T c to) u (.sh (k8 (c.name,(to:Int)))))):=by refine k6 (ε1:=twE C d x1 x2 T u (.sh (k8 (c.name,(to:Int))))) (qi (by rw [Mx ok x,h.yes];rfl) rfl) ?_;exact xo (j9 (v4 rfl (v4 rfl rfl)) (Le ok x h.lt))
theorem Mz (ok:d.Ok)(w:Walk d T ms T'):∀{k:Nat}{u v:MSlot},Trays d T->∃ u' v',f9 twG (twB C) (i5 k (ms.map k8)) (twE C d x1 x2 T u v)=some (.nx (twE C d x1 x2 T' u' v')):=by
 induction w with
 |nil=>exact λ_=>⟨_,_,rfl⟩
 |@cons T0 T1 c to ms m _ ih=>intro k u v x;obtain ⟨u',v',e⟩:=ih (k:=k+1) (u:= .sh (.at (.int k))) (v:= .sh (k8 (c.name,(to:Int)))) (x.mov ok m.mem m.lt m.hue);refine ⟨u',v',?_⟩;show Option.bind (twB C (twE C d x1 x2 T0 (.sh (.at (.int k))) (.sh (k8 (c.name,(to:Int)))))) _=_;rw [Mw ok x m];exact e
theorem My (ok:d.Ok)(x:Trays d T)(h:q9 1 ε=some (y8 T)):u6 [none] [0] (y7 (q9 1)) (v3 0) k4 (z5 zA (q8 (x8 0) x9)) ε=some (y8 T):=by have hlim:lim=1000000:=rfl;have tl:=x.len ok;exact o4 v7 v7 T (vj h) rfl (by omega) λt _=>⟨_,rfl,j9 rfl rfl⟩
theorem Xg (ok:d.Ok)(x:Trays d T)(w:Walk d T ms T')(hl:ms.length<=100):qk C [d.ob C,y8 T,.lst (ms.map k8)]=some (y8 T'):=by obtain ⟨u,v,e⟩:=Mz (C:=C) ok w (x1:=y8 T) (x2:= .lst (ms.map k8)) (k:=0) (u:= .no) (v:= .no) x;show mZ _ _=some (.lst (T'.map v7));refine Yg (r6 rfl (k6 (Qo (j9 rfl (MN ok x))) (k6 (xo (My ok x rfl)) (k6 (vR (xs:=i5 0 (ms.map k8)) rfl e) rfl))))
def enT (p:List Cl×Nat):PV:= .tup [.at (.int (p.2:Int)),v7 p.1]
theorem Wt:∀(T:List (List Cl))(n:Nat),i5 n (T.map v7)=(T.zipIdx n).map enT
 |[],_=>rfl
 |t::T,n=>by
  show PV.tup [.at (.int n),v7 t]::i5 (n+1) (T.map v7)=_;rw [Wt T (n+1),List.zipIdx_cons];rfl
theorem XC:∀{l:List Cl}{c:Cl},(l.map Cl.name).Nodup->c∈l->l.filter (λe=>decide (e.name=c.name))=[c]
 |e::l,c,nd,hc=>by
  obtain ⟨h1,h2⟩:=yF.mp nd;rw [uX];by_cases he:e.name=c.name
  ·have ec:e=c:=by
    rcases yM.mp hc with z|z
    ·exact z.symm
    ·exact absurd (he▸yq.mpr ⟨c,z,rfl⟩) h1
   subst ec;rw [if_pos (yt rfl),List.filter_eq_nil_iff.mpr λa ha=>?_];have:a.name≠e.name:=λz=>h1 (z▸yq.mpr ⟨a,ha,rfl⟩);simp [this]
  ·have hc':c∈l:=by
    rcases yM.mp hc with z|z
    ·exact absurd (by rw [z]) he
    ·exact z
   rw [if_neg (by simp [he]),XC h2 hc']
theorem GN (x:Trays d T)(ok:d.Ok)(hc:c∈d.cls){k:Nat}(h:plc T c.name=some k):k<T.length/\qr (T.getD k [])=c.hue:=by
 obtain ⟨t,h1,h2⟩:=Xa h;have mt:=yu h1;obtain ⟨e,he,en⟩:=yq.mp h2;have:e=c:=by have p:=XC ok.nd hc;have q:e∈d.cls.filter (λe=>decide (e.name=c.name)):=uQ.mpr ⟨x.sub mt e he,yt en⟩;rw [p] at q;exact yQ.mp q
 subst this;refine ⟨(yG.mp h1).1,?_⟩;rw [yE,h1];exact ((x.each t mt).hue e he).symm
theorem GM (x:Trays d T)(hc:c∈d.cls):∃ k,plc T c.name=some k:=by obtain ⟨t,ht,hct⟩:=List.mem_flatten.mp (x.perm.mem_iff.mpr hc);exact Yz ht (yq.mpr ⟨c,hct,rfl⟩)
theorem mv_ok (ok:d.Ok)(x:Trays d T)(hc:c∈d.cls){k:Nat}{t:List Cl}(hk:T[k]?=some t)(h1:(qr t:Int)=(c.hue:Int))(h2:c.name∉t.map Cl.name):ji d T c k:=by
 have kl:=(yG.mp hk).1;have gk:T.getD k []=t:=by rw [yE,hk];rfl
 obtain ⟨j,hj⟩:=GM x hc;obtain ⟨jl,hh⟩:=GN x ok hc hj;have jk:j≠k:=λz=>by
  subst z;obtain ⟨u,e1,e2⟩:=Xa hj;rw [hk] at e1;cases e1;exact h2 e2
 refine ⟨hc,kl,by rw [gk];omega,?_⟩;unfold mvB;rw [hj];show (!decide ((j:Int)=k)&&(decide (0<=(k:Int)/\(k:Int)<T.length)&&decide (qr (T.getD j [])=qr (T.getD ((k:Int)).toNat []))))=true;rw [uR,hh,gk,yD (by omega),yt (show 0<=(k:Int)/\(k:Int)<T.length from ⟨by omega,by omega⟩),yt (show c.hue=qr t by omega)];rfl
end
section
variable {C:Addr}{d:Dr}{T T':List (List Cl)}{t:List Cl}{c:Cl}
theorem KG (ok:d.Ok)(h:x8 1 ε=some d.pv):z5 jG (q8 (u6 [none] [0] (y7 (z6 w5 (x8 1) (dC (.int 1)))) (v3 0) k4 (xK (q8 (z6 w5 (x8 0) (dC (.int 0))) (q8 (z6 w5 (x8 0) (dC (.int 1))) x9)))) x9) ε=some (.fk (keysOf d.cls) (d.cls.map λc=> .at (.int c.hue))):=by
 have hlim:lim=1000000:=rfl;have ten:=ok.ten;refine j9 (v4 (o4 Cl.pv (λc=>PV.tup [.at (.str c.name),.at (.int c.hue)]) d.cls (vj (v8 h rfl rfl)) rfl (by omega) λc _=>⟨_,rfl,Qt (v4 (v8 rfl rfl rfl) (v4 (v8 rfl rfl rfl) rfl)) l2⟩) rfl) ?_;show (xR (d.cls.map λc=>PV.tup [.at (.str c.name),.at (.int c.hue)])).bind _=_;have q1:(d.cls.map λc=>((.inr c.name:z9),PV.at (.int c.hue))).map (·.1)=keysOf d.cls:=by rw [yr];rfl
 have q2:(d.cls.map λc=>((.inr c.name:z9),PV.at (.int c.hue))).map (·.2)=d.cls.map λc=>PV.at (.int c.hue):=by rw [yr];rfl
 rw [Zo,yI,q1,q2];exact if_pos ⟨keyN ok.nd,by rw [yZ];omega⟩
def jC (c:Cl)(p:List Cl×Nat):Bool:=decide ((qr p.1:Int)=(c.hue:Int))&&!decide (c.name∈p.1.map Cl.name)
theorem Md (ok:d.Ok)(x:Trays d T)(hc:c∈d.cls){s0:MSlot}:u6 [none,none,some 3,some 4] [0,1] (xn (q8 (q9 2) x9)) (qI 2 (m5 (v3 0) (m5 (v3 1) qH))) (zp (dT (z6 qd (zc (x8 2) (z6 w5 (x8 1) (dC (.int 0)))) (zc (x8 2) (x8 3)))) (dT (z6 (pIn true) (x8 3) (x8 1)))) (q9 0) [s0,.sh x1,.sh (y8 T),.sh (.fk (keysOf d.cls) (d.cls.map λc=> .at (.int c.hue))),.sh (.at (.str c.name)),.no]=some (.lst ((T.zipIdx.filter (jC c)).map λp=>PV.at (.int (p.2:Int)))):=by
 have hlim:lim=1000000:=rfl;have tl:=x.len ok;refine Wv enT (λp=>PV.at (.int (p.2:Int))) (jC c) T.zipIdx (by show some (i5 0 (T.map v7))=_;rw [Wt]) rfl (by rw [List.length_zipIdx];omega) λp hp=>?_;have hp':=List.mem_zipIdx_iff_getElem?.mp hp;have mt:=yu hp';obtain ⟨c0,t',et⟩:=List.exists_cons_of_ne_nil (x.each _ mt).ne;have h0:c0∈d.cls:=x.sub mt c0 (by rw [et];exact yO);refine ⟨[.sh (.at (.int (p.2:Int))),.sh (v7 p.1),.sh (.fk (keysOf d.cls) (d.cls.map λc=> .at (.int c.hue))),.sh (.at (.str c.name))],rfl,?_,λ_=>rfl⟩;have a1:dT (z6 qd (zc (x8 2) (z6 w5 (x8 1) (dC (.int 0)))) (zc (x8 2) (x8 3))) [.sh (.at (.int (p.2:Int))),.sh (v7 p.1),.sh (.fk (keysOf d.cls) (d.cls.map λc=> .at (.int c.hue))),.sh (.at (.str c.name))]=some (decide ((qr p.1:Int)=(c.hue:Int))):=by refine k5 (v8 (x:= .at (.int (c0.hue:Int))) (y:= .at (.int (c.hue:Int))) (Xz rfl (v8 rfl rfl (by rw [et];exact ix0 c0 t')) rfl (Qy (λc=>PV.at (.int c.hue)) ok.nd c0 h0)) (Xz rfl rfl rfl (Qy (λc=>PV.at (.int c.hue)) ok.nd c hc)) ?_);rw [vQ,et];rfl
 have a2:dT (z6 (pIn true) (x8 3) (x8 1)) [.sh (.at (.int (p.2:Int))),.sh (v7 p.1),.sh (.fk (keysOf d.cls) (d.cls.map λc=> .at (.int c.hue))),.sh (.at (.str c.name))]=some (!decide (c.name∈p.1.map Cl.name)):=k5 (v8 rfl rfl (XN true c.name (p.1.map Cl.name)));unfold jC;cases hb:decide ((qr p.1:Int)=(c.hue:Int)) with
 |true=>rw [hb] at a1;rw [Bool.true_and];exact Xt a1 a2
 |false=>rw [hb] at a1;rw [Bool.false_and];exact GT a1
end
def wD:List PV->Prop:=λxs=>∃(d:Dr)(T:List (List Cl)),xs=[d.pv,y8 T]/\d.Ok/\Trays d T/\d.cls≠[]
def wZ:List PV->PV->Prop:=λxs y=>∃(d:Dr)(T:List (List Cl)),xs=[d.pv,y8 T]/\Trays d T/\(y = .at .non∨∃(c:Cl)(to:Nat),y=k8 (c.name,(to:Int))/\ji d T c to)
abbrev Jf:Stmt:=top 65
abbrev Vx (K:Fg):WS:=(wSeq (p0 3 (wP (z5 jG (q8 (u6 [none] [0] (y7 (z6 w5 (x8 1) (dC (.int 1)))) (v3 0) k4 (xK (q8 (z6 w5 (x8 0) (dC (.int 0))) (q8 (z6 w5 (x8 0) (dC (.int 1))) x9)))) x9))))
  (wSeq (p0 4 (qm w5 (qm w5 (wP (z6 w5 (x8 1) (dC (.int 1)))) (s9 0 (wP (z5 m8 (q8 (z6 w5 (x8 1) (dC (.int 1))) x9))))) (wP (dC (.int 0)))))
  (wSeq (p0 5 (wP (u6 [none,none,some 3,some 4] [0,1] (xn (q8 (q9 2) x9)) (qI 2 (m5 (v3 0) (m5 (v3 1) qH))) (zp (dT (z6 qd (zc (x8 2) (z6 w5 (x8 1) (dC (.int 0)))) (zc (x8 2) (x8 3)))) (dT (z6 (pIn true) (x8 3) (x8 1)))) (q9 0))))
  (wSeq (qC (wPT (dT (z6 qd (x8 5) (qw x9)))) (qu (wP (dC .non))) qW)
  (qu (jQ (y4 (wP (q9 4)) (y4 (qm w5 (wP (q9 5)) (s9 0 (wP (z5 m8 (q8 (x8 5) x9))))) t9))))))))
theorem sc_move:v9 ["row","parts","trays","hues","name","some"] ["row","parts","trays"] (j8 Jf):=y9
theorem KB:∀ xs,wD xs->xs.length+1=(["row","parts","trays"]:List Str).length:=by rintro xs ⟨d,T,rfl,_,_⟩;rfl
theorem KJ {K:Fg}:∀ xs n,wD xs->Vx K (g7 n::xs.map .sh++List.replicate ((["row","parts","trays","hues","name","some"]:List Str).length-(xs.length+1)) .no) (λ_=>False) λy ε=>wZ xs y/\xz 0 ε:=by
 rintro xs n ⟨d,T,rfl,ok,x,ne⟩;have hlim:lim=1000000:=rfl;have ten:=ok.ten;have BT:=zH;have tl:=x.len ok;have cl:0<d.cls.length:=List.length_pos_iff.mpr ne;have e2:((d.cls.map Cl.pv).length:Int)=d.cls.length:=by rw [yZ]
 have c0:0<=n % ((d.cls.map Cl.pv).length:Int):=yj _ (by omega);have c1:n % ((d.cls.map Cl.pv).length:Int)<((d.cls.map Cl.pv).length:Int):=yp _ (by omega);obtain ⟨j,hj0⟩:=yg c0;have hj:j<d.cls.length:=by omega
 refine ⟨_,KG ok rfl,_,rfl,⟨n,rfl⟩,_,rfl,n,_,rfl,rfl,za (by omega) (by omega),(d.cls[j]).pv,?_,_,rfl,.at (.str (d.cls[j]).name),rfl,?_⟩
 ·show atI (d.cls.map Cl.pv) (n % ((d.cls.map Cl.pv).length:Int))=_;rw [hj0];exact qX (by rw [yV,yU hj];rfl)
 generalize n / ((d.cls.map Cl.pv).length:Int)=n1;have hc:=yz hj;generalize d.cls[j]=c at hc;refine ⟨_,Md ok x hc,?_⟩;have hall:∀ p∈T.zipIdx.filter (jC c),ji d T c p.2:=λp hp=>by
  obtain ⟨h1,h2⟩:=uQ.mp hp;unfold jC at h2;rw [yb,Bool.not_eq_true'] at h2;exact mv_ok ok x hc (List.mem_zipIdx_iff_getElem?.mp h1) (yc h2.1) (of_decide_eq_false h2.2)
 have hlen:(T.zipIdx.filter (jC c)).length<=10:=yf (List.length_filter_le _ _) (by rw [List.length_zipIdx];exact tl);generalize T.zipIdx.filter (jC c)=ps at hall hlen;cases ps with
 |nil=>exact jR (k5 (v:=true) (v8 rfl (zM rfl l0) rfl)) ⟨_,rfl,⟨d,T,rfl,x,.inl rfl⟩,n1,rfl⟩
 |cons p ps =>
  refine zm (k5 (v:=false) (v8 rfl (zM rfl l0) rfl)) ?_;generalize hqs:p::ps=qs at hall hlen ⊢;have q0:0<qs.length:=by rw [<- hqs];exact Nat.succ_pos _
  have e3:((qs.map λp=>PV.at (.int (p.2:Int))).length:Int)=qs.length:=by rw [yZ]
  have d0:0<=n1 % ((qs.map λp=>PV.at (.int (p.2:Int))).length:Int):=yj _ (by omega);have d1:n1 % ((qs.map λp=>PV.at (.int (p.2:Int))).length:Int)<((qs.map λp=>PV.at (.int (p.2:Int))).length:Int):=yp _ (by omega);obtain ⟨i,hi0⟩:=yg d0;have hi:i<qs.length:=by omega
  refine ⟨_,rfl,_,rfl,⟨n1,rfl⟩,_,rfl,n1,_,rfl,rfl,za (by omega) (by omega),.at (.int (qs[i].2:Int)),?_,?_⟩
  ·show atI (qs.map λp=>PV.at (.int (p.2:Int))) (n1 % ((qs.map λp=>PV.at (.int (p.2:Int))).length:Int))=_;rw [hi0];exact qX (by rw [yV,yU hi];rfl)
  ·refine ⟨by show 2<=lim;decide,⟨d,T,rfl,x,.inr ⟨c,qs[i].2,rfl,hall _ (yz hi)⟩⟩,_,rfl⟩
theorem Px (F:Fun K "_law_move" "_law_move" Jf f fd)(Ad:Fn P w K mg base 1 "_law_digit" ["row","many"] xS)(B6:mg "dict"=none)(Af:mg "enumerate"=none)(Ac:mg "len"=none):FnOk P w K mg base v5 2 f fd ["row","parts","trays"] (spD wD wZ) :=
 okD (k:=1) (b:=Vx K) F sc_move KB (λcdv A outer s H E hr=>⟨_,(j5 (sW 3 sc_move.nd (zC (Xo (K:=K) rfl rfl) rfl B6 Xn (aW (o5 (N':=["cloth"]) (cap:=[none]) (b7 rfl rfl rfl) rfl (@p5 _ K _ _ _ rfl (iW (K:=K) rfl (pv 1) z7)) (λ_ _ _ _ _ _=>(g9 (i:=0) (by show (["cloth"]:List Str).Nodup;decide +kernel) rfl (Or.inl rfl))) (λ_ _ _ _ _ _=>c6) (λ_ _ _ _ _ _=>(@zY _ _ _ _ _ (aC (iW (K:=K) rfl (pv 0) z7) (aW (iW (K:=K) rfl (pv 0) z7)))))))))
  (j5 (sW 4 sc_move.nd (iW (K:=K) rfl (iW (K:=K) rfl (iW (K:=K) rfl (pv 1) z7) (fW Ad hr (aC (pv 0) (aW (u5 (i0 (K:=K) rfl) rfl Ac PySem.boot_len (aW (iW (K:=K) rfl (pv 1) z7))))))) z7))
  (j5 (xi (i:=5) (N':=["k","tray","hues","name"]) (cap:=[none,none,some 3,some 4]) (b7 rfl rfl rfl) rfl sc_move.nd rfl rfl (QY (K:=K) rfl rfl Af (aW (pv 2))) (λ_ _ _ _ _ _=>(wA (K:=K) (n:=2) rfl rfl (zj (g9 (i:=0) (by show (["k","tray","hues","name"]:List Str).Nodup;decide +kernel) rfl (Or.inl rfl)) (zj (g9 (i:=1) (by show (["k","tray","hues","name"]:List Str).Nodup;decide +kernel) rfl (Or.inl rfl)) wB)))) (λ_ _ _ _ _ _=>(vA (PW.pt (Zq (c3 (xq (K:=K) (i7 hr) rfl) (wz (zN hr) (pv 2) (iW (K:=K) rfl (pv 1) z7) (λ_ _=>rfl)) (wz (zN hr) (pv 2) (pv 3) (λ_ _=>rfl)) (k7 _)) (Zr (c3 (Ce (K:=K) rfl) (pv 3) (pv 1) (by with_unfolding_all rfl))))))) (λ_ _ _ _ _ _=>(pv 0)))
  (j5 (p6 (c3 (xq (K:=K) (i7 hr) rfl) (pv 5) (@xg _ _ _ _ y2) (k7 _)) (j7 (w9 jH)) p9)
  (j7 (w9 (@zY _ _ _ _ _ (aC (pv 4) (aW (iW (K:=K) rfl (pv 5) (fW Ad hr (aC (pv 0) (aW (u5 (i0 (K:=K) rfl) rfl Ac PySem.boot_len (aW (pv 5)))))))))))))))),
  (by repeat' first|infer_instance|(refine @Mi.instSemWSTSeqWSeq _ _ _ _ ?_ ?_)|(apply @Mi.instSemWSTForWForOfSemWIOfSemWG))⟩) KJ
theorem GR (xs:List PV)(a:Nat):zb xs none (some (a:Int))=xs.take a:=by
 unfold zb;rw [HT.sIx_nat,HT.sIx_none,List.drop_zero,Nat.sub_zero];by_cases h:a<=xs.length
 ·rw [Nat.min_eq_left h]
 ·rw [Nat.min_eq_right (by omega),List.take_length,uw (by omega)]
theorem GQ (xs:List PV)(a:Nat):zb xs (some (a:Int)) none=xs.drop a:=by
 unfold zb;rw [HT.sIx_nat,HT.sIx_none];by_cases h:a<=xs.length
 ·rw [Nat.min_eq_left h,uw (by rw [uF];omega)]
 ·rw [Nat.min_eq_right (by omega),uS,List.take_nil,List.drop_of_length_le (by omega)]
theorem jJ (T:List (List Cl)):jI 6 (y8 T):=λx hx=>by
 obtain ⟨t,_,rfl⟩:=yq.mp hx;intro y hy;obtain ⟨s,_,rfl⟩:=yq.mp hy;exact rfl
theorem CI (ms:List (Str×Int)):jI 6 (.lst (ms.map k8)):=λx hx=>by
 obtain ⟨m,_,rfl⟩:=yq.mp hx;intro y hy;rcases yM.mp hy with rfl|hy
 ·rfl
 ·rw [yQ.mp hy];rfl
theorem BK (ok:d.Ok){e:Cl}(hc:c∈d.cls)(he:e∈d.cls)(h:e.name=c.name):e=c:=by have p:=XC ok.nd hc;have q:e∈d.cls.filter (λe=>decide (e.name=c.name)):=uQ.mpr ⟨he,yt h⟩;rw [p] at q;exact yQ.mp q
theorem Yi {d:Dr}(ok:d.Ok):∀{a b:List Cl},(∀ c∈a,c∈d.cls)->(∀ c∈b,c∈d.cls)->a.map Cl.name=b.map Cl.name->a=b
 |[],[],_,_,_=>rfl
 |[],_::_,_,_,h=>by cases h
 |_::_,[],_,_,h=>by cases h
 |x::a,y::b,ha,hb,h=>by
  injection h with h1 h2;rw [BK ok (hb y yO) (ha x yO) h1,Yi ok (λc hc=>ha c (yT _ hc)) (λc hc=>hb c (yT _ hc)) h2]
theorem UH {d:Dr}(ok:d.Ok):∀{S T:List (List Cl)},(∀ t∈S,∀ c∈t,c∈d.cls)->(∀ t∈T,∀ c∈t,c∈d.cls)->S.map v7=T.map v7->S=T
 |[],[],_,_,_=>rfl
 |[],_::_,_,_,h=>by cases h
 |_::_,[],_,_,h=>by cases h
 |x::a,y::b,ha,hb,h=>by
  injection h with h1 h2;injection h1 with h1;rw [Yi ok (ha x yO) (hb y yO) (Ml h1),UH ok (λc hc=>ha c (yT _ hc)) (λc hc=>hb c (yT _ hc)) h2]
theorem Walk.split {T:List (List Cl)}(w:Walk d T ms T'):∀ k:Nat,∃ U,Walk d T (ms.take k) U/\Walk d U (ms.drop k) T':=by
 induction w with
 |nil=>intro k;cases k<;>exact ⟨_,.nil,.nil⟩
 |cons m w ih =>
  intro k;cases k with
  |zero=>exact ⟨_,.nil,.cons m w⟩
  |succ k=>obtain ⟨U,w1,w2⟩:=ih k;exact ⟨U,.cons m w1,w2⟩
theorem UG {T:List (List Cl)}(ok:d.Ok)(x:Trays d T):∀ z∈T.map v7,∃ l:List PV,z = .lst l/\l.length<=lim:=λz hz=>by
 obtain ⟨t,ht,rfl⟩:=yq.mp hz;have hlim:lim=1000000:=rfl;have:=x.tl ok ht;exact ⟨_,rfl,by rw [QM];omega⟩
abbrev jO:Stmt:=top 66
abbrev Vs (K:Fg)(Aa:Addr):WS:=(wSeq (p0 1 (US (wF K) jX (y4 (wP (q9 0)) (y4 (wP (dC (.int 9))) t9))))
  (wSeq (p0 2 (wP (z5 (vt Aa) (q8 (z6 w5 (x8 1) (dC (.int 0))) (q8 (z6 w5 (x8 1) (dC (.int 1))) (q8 (z6 w5 (x8 1) (dC (.int 2))) (q8 (z6 w5 (x8 1) (dC (.int 3))) x9)))))))
  (wSeq (Xh 3 (jK K) jm (y4 (wP (q9 0)) (y4 (wP (dC (.int 2))) t9)))
  (wSeq (p0 4 (qV 3 Xb Qb (y4 (wP (q9 1)) t9)))
  (wSeq (p0 5 (wP (u6 [none] [0] (y7 (q9 4)) (v3 0) k4 (z5 zA (q8 (x8 0) x9)))))
  (wSeq (Xi 6 (qw x9))
  (wSeq (wFor (wIp (xJ (q8 (dC (.int 12)) x9))) (v3 7) (wSeq (p0 8 (wP (dC .non)))
  (wSeq (qC (wPT (dT (z6 pGt (z5 m8 (q8 (z6 w5 (x8 1) (dC (.int 1))) x9)) (dC (.int 0))))) (p0 8 (qV 3 wD wZ (y4 (wP (q9 1)) (y4 (wP (q9 5)) t9)))) qW)
  (qC (wPT (dT (z6 QR (x8 8) (dC .non)))) (wSeq (jd 6 (wP (q9 8)))
  (p0 5 (wP (z5 QG (q8 (q9 5) (q8 (z6 w5 (x8 8) (dC (.int 0))) (q8 (z6 w5 (x8 8) (dC (.int 1))) x9))))))) qW))))
  (wSeq (p0 9 (wP (u6 [none] [0] (y7 (q9 4)) (v3 0) k4 (z5 zA (q8 (x8 0) x9)))))
  (wSeq (p0 10 (wP (z5 zA (q8 (x8 6) x9))))
  (wSeq (wFor (wIp (xJ (q8 (dC (.int 2)) x9))) (v3 7) (wSeq (vF 11 12 (z5 (qk Aa) (q8 (q9 2) (q8 (q9 9) (q8 (q9 10) x9)))) (n9 (c5 (p8 (z5 m7 (q8 (x8 11) (q8 (dC (.ty "list")) x9))))) (n9 (dT (z6 t0 (x8 11) (x8 5))) (n9 (dT (z6 t0 (x8 9) (x8 4))) (dT (z6 t0 (x8 10) (x8 6)))))))
  (wSeq (jd 11 (wP (qw x9)))
  (wSeq (qC (wPT (dT (z6 t0 (z5 (qk Aa) (q8 (q9 2) (q8 (q9 9) (q8 (q9 10) x9)))) (x8 5)))) (qu (wP (dC (.bl false)))) qW)
  (wSeq (vF 13 12 (z5 (qk Aa) (q8 (q9 2) (q8 (q9 9) (q8 (qw x9) x9)))) (dT (z6 t0 (x8 13) (x8 4))))
  (qC (wPT (n9 (dT (z6 t0 (z5 (qk Aa) (q8 (q9 2) (q8 (q9 9) (q8 (qw x9) x9)))) (x8 4))) (dT (z6 t0 (x8 9) (x8 4))))) (qu (wP (dC (.bl false)))) qW))))))
  (wSeq (p0 14 (s9 3 (wP (z6 ql (z5 m8 (q8 (x8 6) x9)) (dC (.int 1))))))
  (wSeq (p0 15 (wP (z5 (qk Aa) (q8 (q9 2) (q8 (q9 9) (q8 (js (x8 6) pNo (pSo (q9 14))) x9))))))
  (qu (wP (z6 qd (z5 (qk Aa) (q8 (q9 2) (q8 (q9 15) (q8 (js (x8 6) (pSo (q9 14)) pNo) x9)))) (x8 5))))))))))))))))
theorem sc_law:v9 ["script","parts","works","row","trays","due","moves","turn","move","handed","steps","found","tray","alone","cut","half"] ["script"] (j8 jO):=y9
theorem Bt {K:Fg}{ns:List Int}{T:List (List Cl)}{s7 s8:MSlot}(ok:d.Ok)(x:Trays d T)(w:Walk d T ms T')(hl:ms.length<=12):((wSeq (wFor (wIp (xJ (q8 (dC (.int 2)) x9))) (v3 7) (wSeq (vF 11 12 (z5 (qk Aa) (q8 (q9 2) (q8 (q9 9) (q8 (q9 10) x9)))) (n9 (c5 (p8 (z5 m7 (q8 (x8 11) (q8 (dC (.ty "list")) x9))))) (n9 (dT (z6 t0 (x8 11) (x8 5))) (n9 (dT (z6 t0 (x8 9) (x8 4))) (dT (z6 t0 (x8 10) (x8 6))))))) (wSeq (jd 11 (wP (qw x9))) (wSeq (qC (wPT (dT (z6 t0 (z5 (qk Aa) (q8 (q9 2) (q8 (q9 9) (q8 (q9 10) x9)))) (x8 5)))) (qu (wP (dC (.bl false)))) qW) (wSeq (vF 13 12 (z5 (qk Aa) (q8 (q9 2) (q8 (q9 9) (q8 (qw x9) x9)))) (dT (z6 t0 (x8 13) (x8 4)))) (qC (wPT (n9 (dT (z6 t0 (z5 (qk Aa) (q8 (q9 2) (q8 (q9 9) (q8 (qw x9) x9)))) (x8 4))) (dT (z6 t0 (x8 9) (x8 4))))) (qu (wP (dC (.bl false)))) qW)))))) (wSeq (p0 14 (s9 3 (wP (z6 ql (z5 m8 (q8 (x8 6) x9)) (dC (.int 1)))))) (wSeq (p0 15 (wP (z5 (qk Aa) (q8 (q9 2) (q8 (q9 9) (q8 (js (x8 6) pNo (pSo (q9 14))) x9)))))) (qu (wP (z6 qd (z5 (qk Aa) (q8 (q9 2) (q8 (q9 15) (q8 (js (x8 6) (pSo (q9 14)) pNo) x9)))) (x8 5))))))):WS) [.sh (scr K ns),.sh d.pv,.sh (d.ob Aa),g7 n,.sh (y8 T),.sh (y8 T'),.ow (.lst (ms.map k8)),s7,s8,.sh (y8 T),.sh (.lst (ms.map k8)),.no,.no,.no,.no,.no] (λ_=>False) λy _=>y = .at (.bl true):=by
 have hlim:lim=1000000:=rfl;have BT:=zH;have tl:=x.len ok;have x':=w.trays ok x;have tl':=x'.len ok;have wd:=Xg (C:=Aa) ok x w (by omega);have w0:qk Aa [d.ob Aa,y8 T,.lst []]=some (y8 T):=Xg ok x .nil (yh _);refine ⟨qQ 0 2,vC (k:=2) rfl (by omega),?_⟩;refine Qz (λ_ ε=>∃(s7 s11 s12 s13:MSlot),ε=[.sh (scr K ns),.sh d.pv,.sh (d.ob Aa),g7 n,.sh (y8 T),.sh (y8 T'),.ow (.lst (ms.map k8)),s7,s8,.sh (y8 T),.sh (.lst (ms.map k8)),s11,s12,s13,.no,.no]) ?_ ?_ _ _ ⟨_,_,_,_,rfl⟩
 ·rintro ε ⟨s7,s11,s12,s13,rfl⟩;have hlm:(ms.map k8).length=ms.length:=yZ _;have c0:0<=n % (((ms.map k8).length:Int)+1):=yj _ (by omega);have c1:n % (((ms.map k8).length:Int)+1)<((ms.map k8).length:Int)+1:=yp _ (by omega);refine ⟨⟨n,rfl⟩,_,rfl,n,((ms.map k8).length:Int)+1,rfl,rfl,za (by omega) (by omega),?_⟩;generalize hc:n % (((ms.map k8).length:Int)+1)=c at c0 c1;obtain ⟨k,rfl⟩:=yg c0;obtain ⟨U,u1,u2⟩:=w.split k;have xU:=u1.trays ok x;have l1:(ms.take k).length<=100:=by rw [uG];omega
  have l2:(ms.drop k).length<=100:=by rw [uF];omega
  have r1:qk Aa [d.ob Aa,y8 T,.lst (zb (ms.map k8) none (some (k:Int)))]=some (y8 U):=by rw [GR,<- List.map_take];exact Xg ok x u1 l1
  have r2:qk Aa [d.ob Aa,y8 U,.lst (zb (ms.map k8) (some (k:Int)) none)]=some (y8 T'):=by rw [GQ,<- List.map_drop];exact Xg ok xU u2 l2
  refine ⟨_,j9 (v4 rfl (v4 rfl (v4 (WD rfl rfl rfl) rfl))) r1,?_⟩;exact ⟨.at (.bl true),v8 (j9 (v4 rfl (v4 rfl (v4 (WD rfl rfl rfl) rfl))) r2) rfl (Ys (jJ T')),rfl⟩
 ·rintro y rest ε ⟨s7,s11,s12,s13,rfl⟩;refine ⟨_,rfl,?_⟩;refine ⟨T'.map v7,j9 (v4 rfl (v4 rfl (v4 rfl rfl))) wd,?_,UG ok x',by show 11<16;decide,by show 12<16;decide,λus hu=>?_⟩
  ·exact qY (qh (qz (j9 rfl (XQ _)))) (qY (k5 (v8 rfl rfl (zV (jJ T')))) (qY (k5 (v8 rfl rfl (zV (jJ T)))) (k5 (v8 rfl rfl (zV (CI ms))))))
  rw [yZ] at hu;refine ⟨⟨us,rfl⟩,_,zM rfl l0,us,rfl,by omega,?_⟩;refine zm (k5 (v8 (j9 (v4 rfl (v4 rfl (v4 rfl rfl))) wd) rfl (zV (jJ T')))) ?_;refine ⟨T.map v7,j9 (v4 rfl (v4 rfl (v4 (zM rfl l0) rfl))) w0,k5 (v8 rfl rfl (zV (jJ T))),UG ok x,by show 13<16;decide,by show 12<16;decide,λvs hv=>?_⟩;refine zm (qY (k5 (v8 (j9 (v4 rfl (v4 rfl (v4 (zM rfl l0) rfl))) w0) rfl (zV (jJ T)))) (k5 (v8 rfl rfl (zV (jJ T))))) ?_;exact ⟨_,_,_,_,rfl⟩
theorem KI {K:Fg}:∀ ns:List Int,ns.length<=63->Vs K Aa (.sh (scr K ns)::List.replicate ((["script","parts","works","row","trays","due","moves","turn","move","handed","steps","found","tray","alone","cut","half"]:List Str).length-1) .no) (λ_=>False) λy _=>y = .at (.bl true):=by
 intro ns h63;have hlim:lim=1000000:=rfl;have BT:=zH;refine ⟨_,rfl,_,rfl,⟨ns,9,rfl,h63,by decide⟩,?_⟩;rintro _ ⟨d,z,m,_,rfl,ok,_⟩;refine ⟨d.ob Aa,j9 (v4 (v8 rfl rfl rfl) (v4 (v8 rfl rfl rfl) (v4 (v8 rfl rfl rfl) (v4 (v8 rfl rfl rfl) rfl)))) (MV ok),?_⟩;refine ⟨_,rfl,_,rfl,⟨ns,2,rfl,h63,by decide,by decide⟩,?_⟩;rintro _ ⟨n,rfl⟩;refine ⟨⟨n,rfl⟩,_,rfl,⟨n,rfl⟩,⟨d,rfl,ok⟩,?_⟩;rintro _ n1 ⟨e,T,he,rfl,X0⟩;have X:Trays d T:=by injection he with he _;exact ⟨by rw [Wo he];exact X0.perm,X0.each⟩
 have tl:=X.len ok;refine ⟨y8 T,o4 v7 v7 T rfl rfl (by omega) λt _=>⟨_,rfl,j9 rfl rfl⟩,?_⟩;refine ⟨.lst [],zM rfl l0,?_⟩;refine ⟨qQ 0 12,vC (k:=12) rfl (by omega),?_⟩;refine Qz (λrest ε=>∃(n:Int)(ms:List (Str×Int))(T':List (List Cl))(s7 s8:MSlot),Walk d T ms T'/\ms.length+rest.length<=12/\ε=[.sh (scr K ns),.sh d.pv,.sh (d.ob Aa),g7 n,.sh (y8 T),.sh (y8 T'),.ow (.lst (ms.map k8)),s7,s8,.no,.no,.no,.no,.no,.no,.no]) ?_ ?_ _ _ ⟨n1,[],T,_,_,.nil,by rw [jb];decide,rfl⟩
 ·rintro ε ⟨n,ms,T',s7,s8,w,hl,rfl⟩;rw [List.length_nil] at hl;refine ⟨y8 T,o4 v7 v7 T rfl rfl (by omega) λt _=>⟨_,rfl,j9 rfl rfl⟩,?_⟩;refine ⟨.lst (ms.map k8),j9 rfl rfl,?_⟩;exact Bt ok X w (by omega)
 ·rintro y rest ε ⟨n,ms,T',s7,s8,w,hl,rfl⟩;rw [yw] at hl;have X':=w.trays ok X;refine ⟨_,rfl,.at .non,rfl,?_⟩;by_cases h0:d.cls=[]
  ·refine zm (k5 (v:=false) (v8 (j9 (v4 (v8 rfl rfl rfl) rfl) rfl) rfl ?_)) ?_
   ·show some (PV.at (.bl (decide ((0:Int)<((d.cls.map Cl.pv).length:Int)))))=_;rw [h0];rfl
   refine zm (k5 (v:=false) (v8 rfl rfl rfl)) ?_;exact ⟨n,ms,T',_,_,w,by omega,rfl⟩
  ·refine jR (k5 (v:=true) (v8 (j9 (v4 (v8 rfl rfl rfl) rfl) rfl) rfl ?_)) ?_
   ·show some (PV.at (.bl (decide ((0:Int)<((d.cls.map Cl.pv).length:Int)))))=_;have:=List.length_pos_iff.mpr h0;rw [yZ,yt (by omega)]
   refine ⟨⟨n,rfl⟩,_,rfl,_,rfl,⟨n,rfl⟩,⟨d,T',rfl,ok,X',h0⟩,?_⟩;rintro _ n2 ⟨e2,T2,he2,X2,hy⟩;injection he2 with h1 h2;injection h2 with h2 _;have ec:d.cls=e2.cls:=Wo h1;have X2':Trays d T2:=⟨by rw [ec];exact X2.perm,X2.each⟩;have eT:T'=T2:=by injection h2 with h2;exact UH ok (λt ht=>X'.sub ht) (λt ht=>X2'.sub ht) h2
   subst eT;rcases hy with rfl|⟨c,to,rfl,mo⟩
   ·refine zm (k5 (v:=false) (v8 rfl rfl rfl)) ?_;exact ⟨n2,ms,T',_,_,w,by omega,rfl⟩
   ·have mo':ji d T' c to:=⟨by rw [ec];exact mo.mem,mo.lt,mo.hue,mo.yes⟩;refine jR (k5 (v:=true) (v8 rfl rfl rfl)) ?_;refine ⟨⟨_,rfl⟩,_,rfl,_,rfl,by rw [yZ];omega,?_⟩;refine ⟨y8 (qJ T' c to),j9 (v4 rfl (v4 (v8 rfl rfl rfl) (v4 (v8 rfl rfl rfl) rfl))) (Ld ok X' mo'.lt),?_⟩;refine ⟨n2,ms++[(c.name,(to:Int))],qJ T' c to,.sh y,.sh (k8 (c.name,(to:Int))),w.snoc mo',by rw [yL];simp;omega,?_⟩;rw [yB];rfl
theorem Pq (F:Fun K "law" "law" jO f fd)(Ad:Fn P w K mg base 1 "_law_digit" ["row","many"] xS)(Ax:Fn P w K mg base 1 "_law_tray_moved" ["trays","name","to"] (v6 QG))(E2:Fn P w K mg base 2 "_law_move" ["row","parts","trays"] (spD wD wZ))(Es:Fn P w K mg base 4 "_law_parts" ["script","most"] (spV (wF K) jX))(A3:Fn P w K mg base 2 "_law_stream" ["script","k"] (spN (jK K) jm))(Ah:Fn P w K mg base 5 "tray_walked" ["works","trays","moves"] (spZ (qk Aa)))(En:Fn P w K mg base 2 "_law_trays" ["row","parts"] (spD Xb Qb))(Ab:mg "isinstance"=none)(Ac:mg "len"=none)(Ag:mg "list"=none)(Ae:mg "range"=none)(Ex:mg "Works"=some (.ref Aa))(El:Mkr P w K mg base 5 Aa ["self","rinses","cloths","last","time"] (spI Aa (vt Aa))):FnOk P w K mg base v5 7 f fd ["script"] (wN K) :=
 okL (k:=6) (b:=Vs K Aa) F sc_law (λcdv A outer s H E hr=>⟨_,(j5 (sW 1 sc_law.nd (fW Es hr (aC (pv 0) (aW z7))))
  (j5 (sW 2 sc_law.nd (pe_mk El hr (by decide) rfl Ex (aC (iW (K:=K) rfl (pv 1) z7) (aC (iW (K:=K) rfl (pv 1) z7) (aC (iW (K:=K) rfl (pv 1) z7) (aW (iW (K:=K) rfl (pv 1) z7)))))))
  (j5 (sW 3 sc_law.nd (fW A3 hr (aC (pv 0) (aW z7))))
  (j5 (sW 4 sc_law.nd (fW En hr (aC (pv 3) (aW (pv 1)))))
  (j5 (xi (i:=5) (N':=["tray"]) (cap:=[none]) (b7 rfl rfl rfl) rfl sc_law.nd rfl rfl (@p5 _ K _ _ _ rfl (pv 4)) (λ_ _ _ _ _ _=>(g9 (i:=0) (by show (["tray"]:List Str).Nodup;decide +kernel) rfl (Or.inl rfl))) (λ_ _ _ _ _ _=>c6) (λ_ _ _ _ _ _=>(zC (vN (K:=K) rfl) rfl Ag xE (aW (pv 0)))))
  (j5 (sW 6 sc_law.nd (@xg _ _ _ _ y2))
  (j5 (xu PassesOwn.never rfl (zZ rfl Ae (aW z7)) (gW 7 sc_law.nd)
   (j5 (sW 8 sc_law.nd jH)
  (j5 (p6 (c3 (QO) (u5 (i0 (K:=K) rfl) rfl Ac PySem.boot_len (aW (iW (K:=K) rfl (pv 1) z7))) z7 (k7 _)) (j7 (sW 8 sc_law.nd (fW E2 hr (aC (pv 3) (aC (pv 1) (aW (pv 5))))))) p9)
  (j7 (p6 (c3 (Yr) (pv 8) jH (k7 _)) (j5 (xh (zh (K:=K) rfl PySem.F.plainAttrs_list PySem.F.slot_list_append PySem.F.type_list_append jD (pv 6) (j6 (pv 8) y2)))
  (j7 (sW 5 sc_law.nd (fW Ax hr (aC (pv 5) (aC (iW (K:=K) rfl (pv 8) z7) (aW (iW (K:=K) rfl (pv 8) z7)))))))) p9)))))
  (j5 (xi (i:=9) (N':=["tray"]) (cap:=[none]) (b7 rfl rfl rfl) rfl sc_law.nd rfl rfl (@p5 _ K _ _ _ rfl (pv 4)) (λ_ _ _ _ _ _=>(g9 (i:=0) (by show (["tray"]:List Str).Nodup;decide +kernel) rfl (Or.inl rfl))) (λ_ _ _ _ _ _=>c6) (λ_ _ _ _ _ _=>(zC (vN (K:=K) rfl) rfl Ag xE (aW (pv 0)))))
  (j5 (sW 10 sc_law.nd (zC (vN (K:=K) rfl) rfl Ag xE (aW (pv 6))))
  (j5 (xu PassesOwn.never rfl (zZ rfl Ae (aW z7)) (gW 7 sc_law.nd)
   (j5 (sW 11 sc_law.nd (fW Ah hr (aC (pv 2) (aC (pv 9) (aW (pv 10))))))
  (j5 (p6 (PW.pt (xj (qe (qf (K:=K) rfl (u5 (xG (K:=K) rfl) rfl Ab xD (aC (pv 11) (aW (xP (v:= .ty "list") rfl Ag xE rfl)))) (λ_=>rfl))) (xj (c3 (xN (K:=K) (i7 hr) rfl) (pv 11) (pv 5) (k7 _)) (xj (c3 (xN (K:=K) (i7 hr) rfl) (pv 9) (pv 4) (k7 _)) (zD (c3 (xN (K:=K) (i7 hr) rfl) (pv 10) (pv 6) (k7 _))))))) (j7 (w9 xO)) p9)
  (j5 (xu PassesOwn.never rfl (@p5 _ K _ _ _ rfl (pv 11)) (gW 12 sc_law.nd)
   (j7 (xh (zh (K:=K) rfl PySem.F.plainAttrs_list PySem.F.slot_list_append PySem.F.type_list_append jD (pv 12) (j6 qK y2)))))
  (j5 (xh (zh (K:=K) rfl PySem.F.plainAttrs_list PySem.F.slot_list_append PySem.F.type_list_append jD (pv 11) (j6 (@xg _ _ _ _ y2) y2)))
  (j5 (p6 (c3 (xN (K:=K) (i7 hr) rfl) (fW Ah hr (aC (pv 2) (aC (pv 9) (aW (pv 10))))) (pv 5) (k7 _)) (j7 (w9 xO)) p9)
  (j5 (sW 13 sc_law.nd (fW Ah hr (aC (pv 2) (aC (pv 9) (aW (@xg _ _ _ _ y2))))))
  (j5 (p6 (c3 (xN (K:=K) (i7 hr) rfl) (pv 13) (pv 4) (k7 _)) (j7 (w9 xO)) p9)
  (j5 (xu PassesOwn.never rfl (@p5 _ K _ _ _ rfl (pv 13)) (gW 12 sc_law.nd)
   (j7 (xh (Cn (K:=K) rfl PySem.F.plainAttrs_list PySem.F.slot_list_clear PySem.F.type_list_clear BI (pv 12)))))
  (j7 (p6 (PW.pt (xj (c3 (xN (K:=K) (i7 hr) rfl) (fW Ah hr (aC (pv 2) (aC (pv 9) (aW (@xg _ _ _ _ y2))))) (pv 4) (k7 _)) (zD (c3 (xN (K:=K) (i7 hr) rfl) (pv 9) (pv 4) (k7 _))))) (j7 (w9 xO)) p9)))))))))))
  (j5 (sW 14 sc_law.nd (fW Ad hr (aC (pv 3) (aW (y6 (xc (K:=K) rfl) (u5 (i0 (K:=K) rfl) rfl Ac PySem.boot_len (aW (pv 6))) z7)))))
  (j5 (sW 15 sc_law.nd (fW Ah hr (aC (pv 2) (aC (pv 9) (aW (Yw (Uo (K:=K) rfl) (pv 6) YA (YB (pv 14))))))))
  (j7 (w9 (zi (xq (K:=K) (i7 hr) rfl) (fW Ah hr (aC (pv 2) (aC (pv 15) (aW (Yw (Uo (K:=K) rfl) (pv 6) (YB (pv 14)) YA))))) (pv 5) (k7 _)))))))))))))))),
  (by repeat' first|infer_instance|(refine @Mi.instSemWSTSeqWSeq _ _ _ _ ?_ ?_)|(apply @Mi.instSemWSTForWForOfSemWIOfSemWG))⟩) KI
theorem Gi {K:Fg}{fd:FuncData}{T:Addr}{ob:Obj}{items:Array Value}{n:Nat}(hd:fd.defaults = .ref T)(q:K.lookup T=some ob)(hs:ob.data = .seq items n)(h:∀ us:List Value,us.length=ps.length->∃ k:Option (Array Value)->Sem (List (Str×Value)),bindArgs fd ⟨us,[]⟩=seqItems? fd.defaults >>= k/\k (some items)=pure (ps.zip us)):Binds K fd ps []:=λs us X hl=>by
 rw [yn] at hl ⊢;obtain ⟨k,e1,e2⟩:=h us hl;exact BindsTo.of_defaults hd (X _ _ q) hs e1 e2
abbrev so (f:Addr):Option (Option Value):=some (some (.ref f))
abbrev fO (oc:Value)(od:Option Addr)(x q:Str)(st:Stmt)(dV kV dc pm:Value)(an:Option Addr)(cd ct:Value)(sl:Array (Option Value)):Option Obj:=some ⟨oc,od,.func (PySem.W.fnOf x q (qZ st) (i4 st) (j8 st) dV kV dc pm an cd ct),sl⟩
theorem fnM (P:Program)(w:World)(base:Heap){K:Fg}{mg:Str->Option Value}{k:Nat}{f:Addr}{fd:FuncData}{sp:Sp}(h:FnOk P w K mg base v5 k f fd ps sp)(a:mg x=some (.ref f))(kp:PySem.W.keepIn K (.ref f)=true)(b:Binds K fd ps []):Fn P w K mg base k x ps sp:=⟨f,fd,h,a,kp,b⟩
theorem bi1 {K:Fg}{f:Addr}{fd:FuncData}{p:Str}(F:Fun K x qual st f fd)(h:∀(kV doc pm:Value)(an:Option Addr)(cdv ct u:Value),bindArgs (PySem.W.fnOf x qual (qZ st) (i4 st) (j8 st) .none kV doc pm an cdv ct) ⟨[u],[]⟩=pure [(p,u)]):Binds K fd [p] []:=F.binds λa b c d e g us hl=>match us,hl with|[_],_=>h a b c d e g _
theorem bi2 {K:Fg}{f:Addr}{fd:FuncData}{p:Str}(F:Fun K x qual st f fd)(h:∀(kV doc pm:Value)(an:Option Addr)(cdv ct u v:Value),bindArgs (PySem.W.fnOf x qual (qZ st) (i4 st) (j8 st) .none kV doc pm an cdv ct) ⟨[u,v],[]⟩=pure [(p,u),(q,v)]):Binds K fd [p,q] []:=F.binds λa b c d e g us hl=>match us,hl with|[_,_],_=>h a b c d e g _ _
structure Zt (P:Program)(w:World)(K:Fg)(mg:Str->Option Value)(base h:Heap):Prop where
 X:K.In h
 G:h.Ns mainGlobals mg
def FG (K:Fg)(x:Str)(st:Stmt):Prop:=∃ f oc od kV dc pm an cd ct sl,PySem.W.nsIn K mainGlobals x=so f/\K.lookup f=fO oc od x x st .none kV dc pm an cd ct sl/\PySem.W.codeIn K cd x=true/\PySem.W.keepIn K (.ref f)=true
theorem FG.i {K:Fg}{f:Addr}{kV:Value}(a:PySem.W.nsIn K mainGlobals x=so f)(l:K.lookup f=fO oc od x x st .none kV dc pm an cd ct sl)(c:PySem.W.codeIn K cd x=true)(k:PySem.W.keepIn K (.ref f)=true):FG K x st:=⟨_,_,_,_,_,_,_,_,_,_,a,l,c,k⟩
def FM (K:Fg)(C:Addr)(x q:Str)(st:Stmt):Prop:=∃ f oc od kV dc pm an cd ct sl,PySem.W.findIn K (.ref C) x=so f/\PySem.W.isFn K (.ref f)=true/\K.lookup f=fO oc od x q st .none kV dc pm an cd ct sl/\PySem.W.codeIn K cd q=true/\PySem.W.keepIn K (.ref f)=true
theorem FM.i {K:Fg}{C:Addr}{f:Addr}{kV:Value}(a:PySem.W.findIn K (.ref C) x=so f)(i:PySem.W.isFn K (.ref f)=true)(l:K.lookup f=fO oc od x q st .none kV dc pm an cd ct sl)(c:PySem.W.codeIn K cd q=true)(k:PySem.W.keepIn K (.ref f)=true):FM K C x q st:=⟨_,_,_,_,_,_,_,_,_,_,a,i,l,c,k⟩
abbrev BdA (x q:Str)(st:Stmt)(ps:List Str):Prop:=∀(kV doc pm:Value)(an:Option Addr)(cdv ct:Value)(us:List Value),us.length=ps.length->bindArgs (PySem.W.fnOf x q (qZ st) (i4 st) (j8 st) .none kV doc pm an cdv ct) ⟨us,[]⟩=pure (ps.zip us)
section
variable {P:Program}{w:World}{K:Fg}{mg:Str->Option Value}{base h:Heap}{k:Nat}{ps:List Str}{sp:Sp}{x q:Str}{st:Stmt}{C:Addr}
theorem fG (Z:Zt P w K mg base h)(a:FG K x st)(H:∀{f fd},Fun K x x st f fd->FnOk P w K mg base v5 k f fd ps sp)(b:BdA x x st ps:=by intro _ _ _ _ _ _ us hl;first|exact (match us,hl with|[_],_=>rfl)|exact (match us,hl with|[_,_],_=>rfl)|exact (match us,hl with|[_,_,_],_=>rfl)|exact (match us,hl with|[_,_,_,_],_=>rfl)|exact (match us,hl with|[_,_,_,_,_],_=>rfl)):Fn P w K mg base k x ps sp:=by obtain ⟨f,oc,od,kV,dc,pm,an,cd,ct,sl,a,l,c,kp⟩:=a;exact ⟨f,_,H (vT l c kp),PySem.W.mg_of Z.X Z.G a,kp,(vT l c kp).binds b⟩
theorem fM (Z:Zt P w K mg base h)(kc:zn K C)(a:FM K C x q st)(H:∀{f fd},Fun K x q st f fd->FnOk P w K mg base v5 k f fd ps sp)(b:BdA x q st ps:=by intro _ _ _ _ _ _ us hl;first|exact (match us,hl with|[_],_=>rfl)|exact (match us,hl with|[_,_],_=>rfl)|exact (match us,hl with|[_,_,_],_=>rfl)|exact (match us,hl with|[_,_,_,_],_=>rfl)|exact (match us,hl with|[_,_,_,_,_],_=>rfl)):Mt P w K mg base k C x ps sp:=by obtain ⟨f,oc,od,kV,dc,pm,an,cd,ct,sl,a,i,l,c,kp⟩:=a;exact ⟨f,_,H (vT l c kp),⟨a,i,kp⟩,kc.c,(vT l c kp).binds b⟩
end
theorem all_mk {w:World}{K:Fg}{h:Heap}{mg:Str->Option Value}{fa f43 f47:Addr}{od43 od47 an43 an47:Option Addr}{sl43 sl47:Array (Option Value)}{oc43 oc47 kV43 kV47 dc43 dc47 pm43 pm47 ct43 ct47 cd43 cd47:Value}{T43:Addr}{qc43 qv43_0 qv43_1:Value}{qd43:Option Addr}{qn43:Nat}{qs43:Array (Option Value)}(X:K.In h)(TT:∀ P∈[],h.get? P=some (PySem.W.tabObj #[]))(hTB:TABS=[])(G:h.Ns mainGlobals mg)(hfa:mg "law"=some (.ref fa))(Im:W.nsIn K mainGlobals "Works"=some (some (.ref Aa)))(Id:PySem.W.plainGet K Aa Str.empty=true)(Ib:PySem.W.hasDictIn K Aa=true)(Ia:PySem.W.plainOver K Aa=true)(E4:W.findIn K (.ref Aa) "__setattr__"=some (some (.builtin "object.__setattr__")))(Ic:PySem.W.makesIn K Aa=true)(E8:W.keepIn K (.ref Aa)=true)(Eg:W.findIn K (.ref Aa) "given"=some none)(Ek:W.findIn K (.ref Aa) "held"=some none)(Em:W.findIn K (.ref Aa) "last"=some none)(Ei:W.findIn K (.ref Aa) "least"=some none)(Eu:W.findIn K (.ref Aa) "time"=some none)(a0:FG K "_law_mixed" Je)(a1:FG K "_law_digit" ZN)(a2:FG K "_law_stream" Xd)(a3:FG K "_law_number" Ji)(a4:FG K "_law_rinses" Jl)(a5:FG K "_law_names" Jh)(a6:FG K "_law_cloth" ZL)(a7:FG K "_law_parts" Jj)(a8:FG K "is_whole" ZX)(a9:FG K "name_of" Jg)(a10:FG K "hue_of" ZP)(a11:FG K "length_of" Jc)(a12:FG K "due_of" ZO)(a13:FG K "weight_of" Ju)(a14:FG K "is_from" ZR)(a15:FG K "is_name" ZS)(a16:FG K "is_cloth" ZQ)(a17:FG K "is_rinse_row" ZV)(a18:FG K "check_rinses" ZI)(a19:FG K "straight_ways" Jm)(a20:FG K "joined" ZY)(a21:FG K "lesser" Jd)(a22:FG K "ways_through" Jt)(a23:FG K "least_ways" Jb)(a24:FG K "sums_of" Jn)(a25:FG K "least_rinses" Ja)(a26:FG K "check_start" ZJ)(a27:FG K "check_cloths" ZH)(a28:FM K Aa "hues" "Works.hues" ZD)(a29:FM K Aa "names" "Works.names" ZE)(a30:FM K Aa "cloth" "Works.cloth" ZC)(a31:FG K "are_names" ZG)(a32:FG K "is_plan" ZU)(a33:FG K "cloths_of" ZM)(a34:FG K "tray_hue" Jo)(a35:FG K "is_of_one_hue" ZT)(a36:FG K "are_full_lists" ZF)(a37:FG K "check_trays" ZK)(a38:FG K "place_of" Jk)(a39:FG K "tray_without" Jr)(a40:FG K "tray_moved" Jp)(a41:FG K "is_tray_move" ZW)(a42:FG K "tray_walked" Jq)(a43:W.findIn K (.ref Aa) "__init__"=so f43)(i43:W.isFn K (.ref f43)=true)(l43:K.lookup f43=fO oc43 od43 "__init__" "Works.__init__" jN (.ref T43) kV43 dc43 pm43 an43 cd43 ct43 sl43)(c43:W.codeIn K cd43 "Works.__init__"=true)(k43:W.keepIn K (.ref f43)=true)(q43:K.lookup T43=some ⟨qc43,qd43,.seq #[qv43_0,qv43_1] qn43,qs43⟩)(a44:FG K "_law_tray_moved" ZZ)(a45:FG K "_law_trays" Js)(a46:FG K "_law_move" Jf)(a47:W.nsIn K mainGlobals "law"=so f47)(l47:K.lookup f47=fO oc47 od47 "law" "law" jO .none kV47 dc47 pm47 an47 cd47 ct47 sl47)(c47:W.codeIn K cd47 "law"=true)(k47:W.keepIn K (.ref f47)=true)(Iu:W.nsIn K mainGlobals "all"=some none)(Ir:W.nsIn K mainGlobals "bool"=some none)(Iq:W.nsIn K mainGlobals "dict"=some none)(Ez:W.nsIn K mainGlobals "enumerate"=some none)(J0:W.nsIn K mainGlobals "int"=some none)(Ev:W.nsIn K mainGlobals "isinstance"=some none)(Iv:W.nsIn K mainGlobals "len"=some none)(Ip:W.nsIn K mainGlobals "list"=some none)(Ik:W.nsIn K mainGlobals "range"=some none)(Ix:W.nsIn K mainGlobals "set"=some none)(E9:W.nsIn K mainGlobals "sorted"=some none)(Iw:W.nsIn K mainGlobals "str"=some none)(Iy:W.nsIn K mainGlobals "sum"=some none)(Il:W.nsIn K mainGlobals "tuple"=some none)(Iz:W.nsIn K mainGlobals "zip"=some none)(Ea:W.nsIn K mainGlobals "LONGEST_NAME"=some (some (.int 8 Av)))(Eh:W.nsIn K mainGlobals "MOST_CLOTHS"=some (some (.int 10 B0)))(E1:W.nsIn K mainGlobals "MOST_HUES"=some (some (.int 4 B9)))(Io:W.nsIn K mainGlobals "PARTS"=some (some (.int 5 Ey))):∃ fd:FuncData,(∀ (s:Shared) (v:Value),BindsTo s fd ⟨[v],[]⟩ [("script",v)])/\vc K h/\∀ base:Heap,K.In base->base.Ns mainGlobals mg->FnOk l.prog w K mg base v5 7 fa fd ["script"] (wN K):=by
 have e:=hfa.symm.trans (W.mg_of X G a47);cases e;have An:=W.mg_none_of X G Iu;have E3:=W.mg_none_of X G Ir;have B6:=W.mg_none_of X G Iq;have Af:=W.mg_none_of X G Ez;have Ie:=W.mg_none_of X G J0;have Ab:=W.mg_none_of X G Ev;have Ac:=W.mg_none_of X G Iv;have Ag:=W.mg_none_of X G Ip;have Ae:=W.mg_none_of X G Ik;have Ig:=W.mg_none_of X G Ix;have Ee:=W.mg_none_of X G E9;have Ej:=W.mg_none_of X G Iw;have D9:=W.mg_none_of X G Iy;have Er:=W.mg_none_of X G Il;have E5:=W.mg_none_of X G Iz;have A7:=W.mg_of X G Ea;have B3:=W.mg_of X G Eh;have B8:=W.mg_of X G E1;have Ep:=W.mg_of X G Io;have Ex:=W.mg_of X G Im;have Et:zn K Aa:=⟨⟨Id,Ib,Ia,E4⟩⟩;have E6:NoA K Aa "given":=⟨Eg⟩;have Ij:NoA K Aa "held":=⟨Ek⟩;have Ii:NoA K Aa "last":=⟨Em⟩;have E7:NoA K Aa "least":=⟨Ei⟩;have Ih:NoA K Aa "time":=⟨Eu⟩;have F43:=Kr (st:=jN) l43 c43 k43;have F47:=vT (st:=jO) l47 c47 k47;have b43:Binds K (W.fnOf "__init__" "Works.__init__" (qZ jN) (i4 jN) (j8 jN) (.ref T43) kV43 dc43 pm43 an43 cd43 ct43) ["self","rinses","cloths","last","time"] []:=Gi (T:=T43) rfl q43 rfl λus hl=>match us,hl with|[_,_,_,_,_],_=>⟨_,rfl,rfl⟩
 have TK:vc K h:=by refine ⟨λp hp=>?_,λp hp=>?_,λp hp q hq=>?_,λp hp=>?_,λp hp q hq e=>?_,λp hp=>?_⟩<;>rw [hTB] at hp<;>cases hp
 refine ⟨W.fnOf "law" "law" (qZ jO) (i4 jO) (j8 jO) .none kV47 dc47 pm47 an47 cd47 ct47,λs v=> .of_eq rfl,TK,λbase _ _=>?_⟩;have Z:Zt l.prog w K mg base h:=⟨X,G⟩;have D5:=fG Z a0 λF=>Pw F;have Ad:=fG Z a1 λF=>Pc F;have A3:=fG Z a2 λF=>PK F D5 Ac Ae D9;have Aq:=fG Z a3 λF=>PB F Ad;have Eb:=fG Z a4 λF=>PH F Ad Aq Ae;have Eo:=fG Z a5 λF=>Pz F Ad Ac Ae;have Ew:=fG Z a6 λF=>Pa F Ad Aq;have Es:=fG Z a7 λF=>PD F Ew Ad Eo Aq Eb A3;have Ai:=fG Z a8 λF=>Pm F E3 Ie Ab;have Al:=fG Z a9 λF=>Py F;have Ao:=fG Z a10 λF=>Pe F;have D0:=fG Z a11 λF=>Pt F;have Ec:=fG Z a12 λF=>Pd F;have B7:=fG Z a13 λF=>PY F;have Am:=fG Z a14 λF=>Pg F Ai;have D8:=fG Z a15 λF=>Ph F An Ab Ac Ej A7;have D3:=fG Z a16 λF=>Pf F Ec Ao Am D8 Ai D0 Al B7 Ab Ac Er Ep;have Az:=fG Z a17 λF=>Pk F Ai An Ab Ac Ag;have Ay:=fG Z a18 λF=>BX F Az An Ab Ac Ag B8;have At:=fG Z a19 λF=>PJ F Af;have Ed:=fG Z a20 λF=>Pn F;have Ef:=fG Z a21 λF=>Pu F;have A5:=fG Z a22 λF=>PX F Ed Ef E5;have B5:=fG Z a23 λF=>Ps F At A5 Ac Ae;have D6:=fG Z a24 λF=>PM F;have A4:=fG Z a25 λF=>Pr F Ay B5 D6;have A9:=fG Z a26 λF=>BY F Am;have Aw:=fG Z a27 λF=>BW F D3 Al Ac B3;have Au:=fM (sp:=(v6 (vq Aa))) Z Et a28 λF=>BQ F Ac;have Aj:=fM (sp:=(spO (jB Aa))) Z Et a29 λF=>BS F Ee;have Ak:=fM (sp:=(v6 (jA Aa))) Z Et a30 λF=>BP F Ab Ej;have D1:=fG (sp:=(v6 (vY Aa))) Z a31 λF=>BV F An Ab Ac Ag Ig Aj;have D7:=fG (sp:=(v6 (wc Aa))) Z a32 λF=>Pj F D1 Ac Aj;have D2:=fG (sp:=(v6 (wa Aa))) Z a33 λF=>Pb F Ak;have Ap:=fG (sp:=(v6 (zU Aa))) Z a34 λF=>PN F Ao Ak;have As:=fG (sp:=(v6 (wb Aa))) Z a35 λF=>Pi F D2 Ao Ap An;have Ar:=fG Z a36 λF=>BU F An Ab Ac Ag;have A8:=fG (sp:=(v6 (vZ Aa))) Z a37 λF=>BZ F Ar As D7 An D9;have D4:=fG Z a38 λF=>PF F Af;have A0:=fG Z a39 λF=>PR F;have B4:=fG Z a40 λF=>PP F A0;have A6:=fG (sp:=(v6 (zS Aa))) Z a41 λF=>Pl F D4 Ap Ac;have Ah:=fG (sp:=(spZ (qk Aa))) Z a42 λF=>PQ F A8 A6 B4 Af Ag;have El:Mkr l.prog w K mg base _ Aa _ (spI Aa (vt Aa)):=⟨_,_,BR F43 Aw A9 A4 Al B6 Ag Au,⟨Ic,a43,i43,E8⟩,b43⟩;have Ax:=fG Z a44 λF=>Po F Ac;have En:=fG Z a45 λF=>PU F Ad B6 Ac Ae;have E2:=fG Z a46 λF=>Px F Ad B6 Af Ac;exact Pq F47 Ad Ax E2 Es A3 Ah En Ab Ac Ag Ae Ex El
theorem walk {q:Program}{loose:List Str}{XP:(Str->Option Value)->Heap->Prop}{YP:World->Heap->Prop}{d:DefRec}{K:Params->Fg}(hn:l.most=some 63)(hdf:d.params.defaults=[])(hY:∀ (w:World) (h:Heap),YP w h->(K w.params).In h)(F:∀ (w:World) (mg:Str->Option Value) (fa:Addr) (h:Heap),YP w h->(K w.params).In h->h.Ns mainGlobals mg->mg d.name=some (.ref fa) -> ∃ fd:FuncData,(∀ (s:Shared) (u:Value),BindsTo s fd ⟨[u],[]⟩ [("script",u)])/\vc (K w.params) h/\∀ base:Heap,(K w.params).In base->base.Ns mainGlobals mg->FnOk l.prog w (K w.params) mg base v5 7 fa fd ["script"] (wN (K w.params))):PySem.W.WalkO q loose XP YP l.row.toRowW d [] (λf vs=>PySem.call f vs) :=
 L2.Ln (n:=63) (k:=7) (x:="script") (CX:=λ_=>v5) (sp:=λw=>wN (K w.params)) hn (by decide) hdf ⟨rfl,by decide,by decide⟩ hY F (λ_ _ a ns hl _ hS=>⟨a,ns,rfl,hS,hl,λ_=>rfl⟩) λ_ _ _ _ _ z=>z
end Lw
open PySem PySem.W PyProof.Rows
set_option maxRecDepth 100000 in
set_option maxHeartbeats 0 in
theorem PySem.Challenge.cw_rinsework_k66_tray_moves_walked_holds : PySem.Challenge.rw_rinsework_k66_tray_moves_walked.Holds := by
  w_on; o_law; k_head; (case hw => w_witness2)
  k_fill
  refine Lw.walk (l := PySem.Challenge.rw_rinsework_k66_tray_moves_walked) rfl rfl (λw h Y => PySem.W.kIn_of Y) ?F
  case F =>
    intro w mg fa h Y KX G hmg
    apply Lw.all_mk KX (λ_ z => nomatch z) rfl G hmg
    iterate 12 k_is
    iterate 28 (apply Lw.FG.i;iterate 4 k_is)
    iterate 3 (apply Lw.FM.i;iterate 5 k_is)
    iterate 12 (apply Lw.FG.i;iterate 4 k_is)
    iterate 6 k_is
    iterate 3 (apply Lw.FG.i;iterate 4 k_is)
    iterate 23 k_is
