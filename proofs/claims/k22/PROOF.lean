import PyProof.Rows.All
import Wide.All
import OpenK.AllK
import Wide.FinOn
import Lean
import PyProof.EqAt
import PyProof.EqKinds
import PyProof.NeKinds
import PyProof.TupleCall
import PySem.Challenge.RW_rinsework_k22_whole_moves_to_due_order
set_option Elab.async false
set_option linter.all false
set_option maxRecDepth 100000
namespace PySem.W.Fast
theorem tw11031309823698788800:True:=trivial
theorem tw11344725647790689888:True:=trivial
theorem tw14939896325419816673:True:=trivial
theorem tw1118514461788986564:True:=trivial
theorem tw5860148710825353508:True:=trivial
theorem tw5854696463396249989:True:=trivial
theorem tw16662162513295801799:True:=trivial
theorem tw13052154606669386215:True:=trivial
theorem tw2492400488455623816:True:=trivial
theorem tw18119037155121239208:True:=trivial
theorem tw10457483461447415336:True:=trivial
theorem tw10702182496766364331:True:=trivial
theorem tw6948727260032870189:True:=trivial
theorem tw5907663127340440785:True:=trivial
theorem tw16913269631661857430:True:=trivial
theorem tw17731059403023219031:True:=trivial
theorem tw7958774509022251644:True:=trivial
theorem tw786164377335944860:True:=trivial
theorem tw4742367381236328477:True:=trivial
theorem tw14378944355194121983:True:=trivial
theorem tw14514105907984687576:True:=trivial
theorem tw13054790159214411327:True:=trivial
theorem tw7643010388958043336:True:=trivial
theorem tw10704605986729320247:True:=trivial
theorem tw5557146597542937726:True:=trivial
theorem tw7621135973157076146:True:=trivial
theorem tw5460140773193842363:True:=trivial
theorem tw13326862955879438106:True:=trivial
theorem tw1655396548416107331:True:=trivial
theorem tw10374859099622840322:True:=trivial
theorem tw14552085022050282304:True:=trivial
theorem tw14676167260237976151:True:=trivial
theorem tw8169216928438387208:True:=trivial
theorem tw15349497202734369630:True:=trivial
theorem tw12220644191786356908:True:=trivial
theorem tw9333958311017567964:True:=trivial
theorem tw9650287481216284424:True:=trivial
theorem tw13744381228200146120:True:=trivial
theorem tw3566438670672984756:True:=trivial
theorem tw9276534457479373389:True:=trivial
theorem tw15386615623044729069:True:=trivial
theorem tw14355854921217386365:True:=trivial
theorem tw7851013710594995748:True:=trivial
theorem tw18408449685472241274:True:=trivial
theorem tw12059189872255498322:True:=trivial
theorem tw7073402670552762275:True:=trivial
theorem tw9008087397068094860:True:=trivial
theorem tw14586337477211338313:True:=trivial
theorem tw16840047218928089104:True:=trivial
theorem tw6566345548078448904:True:=trivial
theorem tw13323303630425846187:True:=trivial
theorem tw10831655600022131591:True:=trivial
theorem tw6932074311174510264:True:=trivial
theorem tw13073776463840639510:True:=trivial
theorem tw9928486972521014306:True:=trivial
theorem tw6762013039008852363:True:=trivial
theorem tw54252908653348177:True:=trivial
theorem tw2404154466503101154:True:=trivial
theorem tw10208778548279735150:True:=trivial
theorem tw12978091860856245591:True:=trivial
theorem tw5877140205466121200:True:=trivial
theorem tw15824206096915924394:True:=trivial
theorem tw2090924804912709782:True:=trivial
theorem tw4188275414942712705:True:=trivial
theorem tw12232176908718349924:True:=trivial
theorem tw11125647213772509375:True:=trivial
theorem tw13248141669575012604:True:=trivial
theorem tw8762368567416910943:True:=trivial
theorem tw12572558214786707592:True:=trivial
theorem tw16920308242139854235:True:=trivial
theorem tw16564570847376273692:True:=trivial
theorem tw14858501252403887492:True:=trivial
theorem tw15354750114849437761:True:=trivial
theorem tw17021087021488635386:True:=trivial
theorem tw12747300305688270618:True:=trivial
theorem tw3829317955848941088:True:=trivial
theorem tw14203065351241199520:True:=trivial
theorem tw15476816432106837911:True:=trivial
theorem tw7068267453909405307:True:=trivial
theorem tw44872570563383338:True:=trivial
theorem tw15455533385591832727:True:=trivial
theorem tw8865890268887096961:True:=trivial
theorem tw9058936901337237151:True:=trivial
theorem tw14531012968484460538:True:=trivial
theorem tw12497806912216184243:True:=trivial
theorem tw732139305884276760:True:=trivial
theorem tw9309104425751827547:True:=trivial
theorem tw10582646891094713286:True:=trivial
theorem tw2432072670031163257:True:=trivial
theorem tw8032478479513985298:True:=trivial
theorem tw10907135154350757724:True:=trivial
theorem tw18378199681604240817:True:=trivial
theorem tw988574680886633007:True:=trivial
theorem tw14648886619430348469:True:=trivial
theorem tw9302965241019447303:True:=trivial
theorem tw6789425540928759979:True:=trivial
theorem tw11922053002720657895:True:=trivial
theorem tw12994313074368232933:True:=trivial
theorem tw8415553330162398061:True:=trivial
theorem tw193040189734945841:True:=trivial
theorem tw15368675163049387912:True:=trivial
theorem tw583433831741645453:True:=trivial
theorem tw1539201711521381775:True:=trivial
theorem tw13898979426829492756:True:=trivial
theorem tw5492133720312073604:True:=trivial
theorem tw9357090193436514401:True:=trivial
theorem tw8407094633610368814:True:=trivial
theorem tw9674888468633031054:True:=trivial
theorem tw16433450272166087489:True:=trivial
theorem tw16183385169985067112:True:=trivial
theorem tw16134719150588199439:True:=trivial
theorem tw17933123852723414905:True:=trivial
theorem tw4424264227003719580:True:=trivial
theorem tw5256049909648302198:True:=trivial
theorem tw17525459749805475058:True:=trivial
theorem tw16912679163878313813:True:=trivial
theorem tw4626789879256615959:True:=trivial
theorem tw937745464759276995:True:=trivial
theorem tw16778071141485783702:True:=trivial
theorem tw5406336829679803031:True:=trivial
theorem tw13666846661248759616:True:=trivial
theorem tw1605457200795184430:True:=trivial
theorem tw3746022121490351446:True:=trivial
theorem tw17753037399274937936:True:=trivial
theorem tw13733428769280239160:True:=trivial
theorem tw11336873912730824482:True:=trivial
theorem tw14115077119354118569:True:=trivial
theorem tw17712416274802745064:True:=trivial
theorem tw13108712805315555734:True:=trivial
theorem tw3296145411493249052:True:=trivial
theorem tw1133581439483517007:True:=trivial
theorem tw9248297144422527623:True:=trivial
theorem tw4922567004973900383:True:=trivial
theorem tw2936529604706105283:True:=trivial
theorem tw2899792109815030535:True:=trivial
theorem tw249193463521369556:True:=trivial
theorem tw12462388044338820236:True:=trivial
theorem tw4352779209838631620:True:=trivial
theorem tw12682032636744764684:True:=trivial
theorem tw17561565464417092693:True:=trivial
theorem tw12750626973971496774:True:=trivial
theorem tw7009861758288705981:True:=trivial
theorem tw14369062601163277163:True:=trivial
theorem tw11497205686222079076:True:=trivial
theorem tw14136733940828135395:True:=trivial
theorem tw8936794068512612955:True:=trivial
theorem tw13473222773077427281:True:=trivial
theorem tw14532401118988097264:True:=trivial
theorem tw13929416833687907477:True:=trivial
theorem tw11101112502596562333:True:=trivial
theorem tw9655579392227080742:True:=trivial
theorem tw8561213594873629006:True:=trivial
theorem tw8888049619341418359:True:=trivial
theorem tw8636089429384934496:True:=trivial
theorem tw6679793127632718290:True:=trivial
theorem tw18431152669476047805:True:=trivial
theorem tw15826455268216852899:True:=trivial
theorem tw4088681914509776636:True:=trivial
theorem tw2248512963920922301:True:=trivial
theorem tw7109637256621361657:True:=trivial
theorem tw6267478850431573908:True:=trivial
theorem tw16334529909066944792:True:=trivial
theorem tw1300058428525304323:True:=trivial
theorem tw11229951500560903748:True:=trivial
theorem tw10865303261040043457:True:=trivial
theorem tw8851350574224002900:True:=trivial
theorem tw1439018438688620794:True:=trivial
theorem tw10330780828121794360:True:=trivial
theorem tw6240510831943351253:True:=trivial
theorem tw4035207214465403541:True:=trivial
theorem tw14212801941700886825:True:=trivial
theorem tw13766105851571942053:True:=trivial
theorem tw9656090930919565736:True:=trivial
theorem tw7924771946429054088:True:=trivial
theorem tw17365226385305376273:True:=trivial
theorem tw5552832991870875275:True:=trivial
theorem tw10740179839881247317:True:=trivial
theorem tw8929625232062436221:True:=trivial
theorem tw16080884486733840909:True:=trivial
theorem tw12566606833599850791:True:=trivial
theorem tw13998487505007511512:True:=trivial
theorem tw213667862052465213:True:=trivial
theorem tw11520528408804331974:True:=trivial
theorem tw2967954075363432363:True:=trivial
theorem tw12190810216617437578:True:=trivial
theorem tw16156581759635608813:True:=trivial
theorem tw16488263291935498728:True:=trivial
theorem tw609038529734129456:True:=trivial
theorem tw8632920503566466078:True:=trivial
theorem tw14696672901220617516:True:=trivial
theorem tw10221389929832539401:True:=trivial
theorem tw14021081265425493230:True:=trivial
theorem tw12704999774014633255:True:=trivial
theorem tw11001459684727447301:True:=trivial
theorem tw4840533978859864238:True:=trivial
theorem tw10895404176612459757:True:=trivial
theorem tw9720672258250879083:True:=trivial
theorem tw2808454318410696673:True:=trivial
theorem tw13822339267545329806:True:=trivial
theorem tw12027728080441745064:True:=trivial
theorem tw3724367222300970647:True:=trivial
theorem tw14958595263817482459:True:=trivial
theorem tw17770823047675232882:True:=trivial
theorem tw8679743490083998704:True:=trivial
theorem tw2038999317108134716:True:=trivial
theorem tw17652361879356467302:True:=trivial
theorem tw1653834841811725728:True:=trivial
theorem tw14116311270283101086:True:=trivial
theorem tw8091854437481754484:True:=trivial
theorem tw13713958250403853673:True:=trivial
theorem tw12445767377355755853:True:=trivial
theorem tw14825305881076393029:True:=trivial
theorem tw11539976243469125241:True:=trivial
theorem tw5821751750267403597:True:=trivial
theorem tw15842403518661150543:True:=trivial
theorem tw13183122537638738203:True:=trivial
theorem tw17481935149731529226:True:=trivial
theorem tw9495440242153471363:True:=trivial
theorem tw17265682696479631419:True:=trivial
theorem tw13815576410904701939:True:=trivial
theorem tw12999950969800913205:True:=trivial
theorem tw9982825496479648430:True:=trivial
theorem tw15368427669154706504:True:=trivial
theorem tw15566242640633603679:True:=trivial
theorem tw15012309661021784203:True:=trivial
theorem tw2535540794375604336:True:=trivial
theorem tw11405471278238066193:True:=trivial
theorem tw9589934220665628559:True:=trivial
theorem tw2279174711601030545:True:=trivial
theorem tw11595607522295881663:True:=trivial
theorem tw10212654000529743985:True:=trivial
theorem tw9113333333216476303:True:=trivial
theorem tw625036569935613026:True:=trivial
theorem tw18169247530646936564:True:=trivial
theorem tw14765667893467719742:True:=trivial
theorem tw10199621524728719961:True:=trivial
theorem tw9267040937672823164:True:=trivial
theorem tw299556406362323334:True:=trivial
theorem tw2601173745927131310:True:=trivial
theorem tw14318626881972675575:True:=trivial
theorem tw16821355608557872735:True:=trivial
theorem tw14639479466605247423:True:=trivial
theorem tw12044687505403895976:True:=trivial
theorem tw2575488579126962921:True:=trivial
theorem tw4490169497408821205:True:=trivial
theorem tw2180740742299679045:True:=trivial
theorem tw2207383879397031370:True:=trivial
theorem tw1737717779146154577:True:=trivial
theorem tw1384163995623195861:True:=trivial
theorem tw17852379196900820126:True:=trivial
theorem tw17066095855124027389:True:=trivial
end PySem.W.Fast
namespace L2
abbrev Fg:=PySem.W.Frag
end L2
namespace L2
open PySem PySem.Spec PyProof.Rows
abbrev j5:=Sum Int Str
def vJ:j5->Value->Bool
 | .inl k,v=>Value.isInt k v
 | .inr x,v=>Value.isStrOf x v
def keyH (w:World):j5->Int
 | .inl k=>hashInt k
 | .inr x=>hashStr w x
theorem jF:∀{k:j5}{v:Value},vJ k v=true->(∃ i t,k=Sum.inl i/\v=Value.int i t)∨(∃ x t,k=Sum.inr x/\v=Value.str x t)
 | .inl i,v,h=>by
  obtain ⟨t,e⟩:=Value.isInt_shape (k:=i) (v:=v) h;exact .inl ⟨i,t,rfl,e⟩
 | .inr x,v,h=>by
  obtain ⟨t,e⟩:=Value.isStrOf_shape (x:=x) (v:=v) h;exact .inr ⟨x,t,rfl,e⟩
theorem MN (i:Int)(t:Tok):vJ (.inl i) (.int i t)=true:=by simp [vJ,Value.isInt]
theorem Kd (x:Str)(t:Tok):vJ (.inr x) (.str x t)=true:=by simp [vJ,Value.isStrOf]
theorem MO (a b:Int):decide ((Sum.inl a:j5)=Sum.inl b)=(a==b):=by
 by_cases e:a=b
 ·subst e;simp
 ·have h:¬ (Sum.inl a:j5)=Sum.inl b:=fun q=>e (Sum.inl.inj q);rw [decide_eq_false h];exact (beq_eq_false_iff_ne.mpr e).symm
theorem MR (a b:Str):decide ((Sum.inr a:j5)=Sum.inr b)=decide (a=b):=by
 by_cases e:a=b
 ·subst e;simp
 ·have h:¬ (Sum.inr a:j5)=Sum.inr b:=fun q=>e (Sum.inr.inj q);rw [decide_eq_false h,decide_eq_false e]
theorem MP (a:Int)(b:Str):decide ((Sum.inl a:j5)=Sum.inr b)=false:=decide_eq_false (fun q=>nomatch q)
theorem MQ (a:Str)(b:Int):decide ((Sum.inr a:j5)=Sum.inl b)=false:=decide_eq_false (fun q=>nomatch q)
def qF (prog:Program)(w:World):PySem.KeyKind prog w j5 where
 is:=vJ
 hash:=keyH w
 inj:=fun v a b ha hb=>by
  rcases jF ha with ⟨i,t,rfl,rfl⟩|⟨x,t,rfl,rfl⟩
  ·rcases jF hb with ⟨j,u,rfl,e⟩|⟨y,u,rfl,e⟩
   ·injection e with e1 _;rw [e1]
   ·exact nomatch e
  ·rcases jF hb with ⟨j,u,rfl,e⟩|⟨y,u,rfl,e⟩
   ·exact nomatch e
   ·injection e with e1 _;rw [e1]
 byValue:=fun k v h=>by
  rcases jF h with ⟨i,t,rfl,rfl⟩|⟨x,t,rfl,rfl⟩<;>rfl
 pyHash:=fun hv h=>by
  rcases jF hv with ⟨i,t,rfl,rfl⟩|⟨x,t,rfl,rfl⟩
  ·exact wpAny_pyHash_int h
  ·exact wpAny_pyHash_str h
 eqBool:=fun hu hv h=>by
  rcases jF hu with ⟨i,t,rfl,rfl⟩|⟨x,t,rfl,rfl⟩
  ·rcases jF hv with ⟨j,u,rfl,rfl⟩|⟨y,u,rfl,rfl⟩
   ·rw [MO] at h;exact wpAny_eqBool_int h
   ·rw [MP] at h;exact SeqAt.EqAt.int_str i t y u _ _ _ _ h
  ·rcases jF hv with ⟨j,u,rfl,rfl⟩|⟨y,u,rfl,rfl⟩
   ·rw [MQ] at h;exact SeqAt.EqAt.str_int x t j u _ _ _ _ h
   ·rw [MR] at h;exact wpAny_eqBool_str h
 «strs»:=fun k x t v h=>by
  rcases jF h with ⟨i,u,rfl,e⟩|⟨y,u,rfl,e⟩
  ·exact nomatch e
  ·injection e with e1 _;subst e1;cases v<;>rfl
theorem LA (prog:Program)(w:World)(i:Int)(t:Tok):(qF prog w).is (.inl i) (.int i t)=true:=MN i t
theorem WE (prog:Program)(w:World)(x:Str)(t:Tok):(qF prog w).is (.inr x) (.str x t)=true:=Kd x t
end L2
namespace L2
open PySem PySem.Spec PyProof.Rows
inductive V where
 |non|bl (b:Bool)|int (i:Int)|str (x:Str)|byt (b:Array UInt8)|flt (b:UInt64)|ref (a:Addr)|ty (n:String)
 deriving DecidableEq
def RelV:V->Value->Prop
 | .non,u=>u=Value.none
 | .bl b,u=>u=Value.bool b
 | .int i,u=>∃ t,u=Value.int i t
 | .str x,u=>∃ t,u=Value.str x t
 | .byt b,u=>∃ t,u=Value.bytes b t
 | .flt b,u=>∃ t,u=Value.float b t
 | .ref a,u=>u=Value.ref a
 | .ty n,u=>u=Value.type n
abbrev Vals:List V->List Value->Prop:=Paired RelV
theorem Vals.length {xs:List V}{us:List Value}(r:Vals xs us):xs.length=us.length:=Paired.length r
theorem Vals.get:∀{xs:List V}{us:List Value}{i:Nat}{x:V},Vals xs us->xs[i]?=some x->∃ u,us[i]?=some u/\RelV x u
 |_,_,_,_,.nil,e=>by simp at e
 |_,_,0,_,.cons r _,e=>by simp at e;subst e;exact ⟨_,rfl,r⟩
 |_,_,i+1,x,.cons _ t,e=>by
  obtain ⟨u,h1,h2⟩:=Vals.get (i:=i) (x:=x) t (by simpa using e);exact ⟨u,by simpa using h1,h2⟩
theorem Vals.set {x:V}{u:Value}(r:RelV x u):∀{xs:List V}{us:List Value}(i:Nat),Vals xs us->Vals (xs.set i x) (us.set i u)
 |_,_,_,.nil=> .nil
 |_,_,0,.cons _ t=> .cons r t
 |_,_,i+1,.cons q t=> .cons q (Vals.set r i t)
theorem Vals.append:∀{xs ys:List V}{us ws:List Value},Vals xs us->Vals ys ws->Vals (xs++ys) (us++ws)
 |_,_,_,_,.nil,s=>s
 |_,_,_,_,.cons r t,s=> .cons r (Vals.append t s)
theorem Vals.take:∀{xs:List V}{us:List Value}(n:Nat),Vals xs us->Vals (xs.take n) (us.take n)
 |_,_,0,_=> .nil
 |_,_,_+1,.nil=> .nil
 |_,_,n+1,.cons r t=> .cons r (Vals.take n t)
theorem Vals.drop:∀{xs:List V}{us:List Value}(n:Nat),Vals xs us->Vals (xs.drop n) (us.drop n)
 |_,_,0,r=>r
 |_,_,_+1,.nil=> .nil
 |_,_,n+1,.cons _ t=>Vals.drop n t
def RelO:Option V->Option Value->Prop
 |some v,some u=>RelV v u
 |none,none=>True
 |_,_=>False
def KV {κ:Type}:List (κ×V)->List (κ×Value)->Prop:=Paired fun (p:κ×V) (q:κ×Value)=>p.1=q.1/\RelV p.2 q.2
def kV:j5->V
 | .inl i=> .int i
 | .inr x=> .str x
def TABS:List (Addr×Array Value×List (Pos×Str)):=[(212,#[],[((⟨58,30,58,75⟩:Pos),("by_dues.<locals>.<lambda>":Str))]),(274,#[],[((⟨109,44,109,68⟩:Pos),("to_dues.<locals>.<lambda>":Str))])]
inductive HO where
 /-- a list -/
 |lst (xs:List V)
 /-- a tuple (never changes) -/
 |tup (xs:List V)
 /-- a dict whose keys are ints and texts;one whose keys are tuples of ints and texts (the empty one is both) -/
 |dK (kvs:List (j5×V))|dT (kvs:List (List j5×V))
 /-- a set of ints: its members,its size -/
 |set (S:Int->Bool) (n:Nat)
 /-- an instance of the class at C,its dict at dx,its attributes -/
 |ins (C dx:Addr) (fs:List (Str×V))
 /-- the dict of the instance at x -/
 |own (x:Addr)
 /-- the dict of an exception -/
 |xd (fs:List (Str×V))
 /-- a bound method,f of x -/
 |met (f x:Addr)
 /-- a range object lo,lo+1,.. below hi -/
 |rng (lo hi:Int)
 /-- a thing that is known to the object (the script;a dict while a loop walks it): read,never written while it is so -/
 |frz (o:Obj) (u:HO)
 /-- a code object's table -/
 |tbl (ps:Array Value) (q:List (Pos×Str))
 /-- any other thing,by what is true of its one object (a def of one's own: vC a S n:=HO.ext fun h=> ..) -/
 |ext (φ:Heap->Prop)
abbrev Hp:=Addr->Option HO
def v8 (H:Hp)(a:Addr)(o:HO):Hp:=fun b=>if b=a then some o else H b
theorem u8 {H:Hp}{a:Addr}{o:HO}:v8 H a o a=some o:=by unfold v8;rw [if_pos rfl]
theorem j7 {H:Hp}{a b:Addr}{o:HO}(h:b≠a):v8 H a o b=H b:=by unfold v8;rw [if_neg h]
theorem ne_of {H:Hp}{a b:Addr}{o u:HO}(h:H a=some o)(h':H b=some u)(d:o≠u):a≠b:=by intro e;subst e;rw [h] at h';exact d (Option.some.inj h')
theorem p5 {H:Hp}{a b:Addr}{o:HO}(h:H a=some o)(h':H b=none):a≠b:=by intro e;subst e;rw [h] at h';cases h'
section
variable (P:Program)(w:World)
def ObjOk (H:Hp)(h:Heap)(a:Addr):HO->Prop
 | .lst xs=>xs.length<=sizeLine/\∃ (its:List Value) (n:Nat),Vals xs its/\h.get? a=some { cls:= .type "list",data:= .seq its.toArray n }
 | .tup xs=>xs.length<=sizeLine/\∃ its:List Value,Vals xs its/\IsTup h a its.toArray
 | .dK kvs=>kvs.length<=sizeLine/\(a==sysModules)=false/\∃ vs,KV kvs vs/\h.DictOf (qF P w) a vs
 | .dT kvs=>kvs.length<=sizeLine/\(a==sysModules)=false/\∃ xs:List (List j5×Addr×Value),
   Paired (fun (p:List j5×V) (q:List j5×Addr×Value)=>p.1=q.1/\H q.2.1=some (.tup (p.1.map kV))/\RelV p.2 q.2.2) kvs xs /\
   ∃ o es ep,h.get? a=some o/\o.ExactDict/\o.data = .dict es ep/\es.toList=xs.map (entryOfKey (tupleKind (qF P w)))/\(xs.map (·.1)).Nodup
 | .set S n=>h.SetOf (intKind P w) a S n
 | .ins C dx fs=>H dx=some (.own a)/\fs.length<=1000/\dx≠a/\h.get? a=some (PySem.W.instObj C dx) /\
   ∃ mA,h.Ns1 dx mA/\(∀ f,RelO (fs.lookup f) (mA f))/\PySem.Within mA (fs.map (·.1))
 | .own _=>∃ o,h.get? a=some o
 | .xd fs=>∃ mA,h.Ns1 a mA/\∀ f,RelO (fs.lookup f) (mA f)
 | .rng lo hi=>∃ t u v,h.get? a=some { cls:= .type "range",data:= .fields #[.int lo t,.int hi u,.int 1 v] }
 | .frz o u=>h.get? a=some o/\ObjOk H h a u
 | .tbl ps q=>∃ more:Array Value,h.get? a=some { cls:= .none,data:= .fields (ps++more) }/\TriplesOk (ps++more).toList /\
   ∀ p∈q,codeAmong p.1 (ps++more).toList=none∨∃ c o vs t,codeAmong p.1 (ps++more).toList=some (.ref c)/\H c=some (.frz o (.own a))/\o.data = .fields vs/\vs[1]?=some (.str p.2 t)
 | .met f x=>h.get? a=some (PySem.W.methodObj (.ref f) (.ref x))
 | .ext φ=>φ h/\(∃ o,h.get? a=some o)/\∀ h1 h2:Heap,φ h1->(∀ o,h1.get? a=some o->h2.get? a=some o)->φ h2
def HOk (H:Hp)(h:Heap):Prop:=∀ a o,H a=some o->ObjOk P w H h a o
end
section
variable {P:Program}{w:World}{H H':Hp}{h h':Heap}{a:Addr}{o:HO}
theorem ObjOk.lt (x:ObjOk P w H h a o):a<h.objs.size:=by
 cases o with
 |lst xs=>obtain ⟨_,_,_,_,e⟩:=x;exact Heap.lt_size e
 |tup xs=>obtain ⟨_,_,_,p⟩:=x;exact p.lt
 |dK kvs=>obtain ⟨_,_,_,_,o,_,_,e,_⟩:=x;exact Heap.lt_size e
 |dT kvs=>obtain ⟨_,_,_,_,o,_,_,e,_⟩:=x;exact Heap.lt_size e
 |set S n=>obtain ⟨o,_,_,_,e,_⟩:=x;exact Heap.lt_size e
 |ins C dx fs=>obtain ⟨_,_,_,e,_⟩:=x;exact Heap.lt_size e
 |own y=>obtain ⟨_,e⟩:=x;exact Heap.lt_size e
 |xd fs=>obtain ⟨_,⟨_,_,_,e,_⟩,_⟩:=x;exact Heap.lt_size e
 |rng lo hi=>obtain ⟨_,_,_,e⟩:=x;exact Heap.lt_size e
 |frz ob u=>obtain ⟨e,_⟩:=x;exact Heap.lt_size e
 |tbl ps q=>obtain ⟨_,e,_⟩:=x;exact Heap.lt_size e
 |met f y=>exact Heap.lt_size (show h.get? a=some _ from x)
 |ext φ=>obtain ⟨_,⟨_,e⟩,_⟩:=x;exact Heap.lt_size e
theorem Paired.mapP {α β:Type}{F G:α->β->Prop}:∀{l₁:List α}{l₂:List β},Paired F l₁ l₂->(∀ a b,F a b->G a b)->Paired G l₁ l₂
 |_,_,.nil,_=> .nil
 |_,_,.cons r t,f=> .cons (f _ _ r) (Paired.mapP t f)
theorem ObjOk.stay (x:ObjOk P w H h a o)(k:∀ b u,(b=a∨H b=some (.own a))->h.get? b=some u->h'.get? b=some u)(ho:∀ b,H b=some (.own a)->H' b=some (.own a))(ht:∀ b xs,H b=some (.tup xs)->H' b=some (.tup xs))(hz:∀ b o u,H b=some (.frz o u)->H' b=some (.frz o u)):ObjOk P w H' h' a o:=by
 induction o with
 |lst xs=>obtain ⟨z,its,n,r,e⟩:=x;exact ⟨z,its,n,r,k _ _ (.inl rfl) e⟩
 |tup xs=>obtain ⟨z,its,r,ob,e,c⟩:=x;exact ⟨z,its,r,ob,k _ _ (.inl rfl) e,c⟩
 |dK kvs=>obtain ⟨z,y,vs,r,ob,es,ep,e,c⟩:=x;exact ⟨z,y,vs,r,ob,es,ep,k _ _ (.inl rfl) e,c⟩
 |dT kvs=>obtain ⟨z,y,xs,r,ob,es,ep,e,c⟩:=x;exact ⟨z,y,xs,Paired.mapP r fun p q z=>⟨z.1,ht _ _ z.2.1,z.2.2⟩,ob,es,ep,k _ _ (.inl rfl) e,c⟩
 |set S n=>obtain ⟨ob,es,ep,t,e,c⟩:=x;exact ⟨ob,es,ep,t,k _ _ (.inl rfl) e,c⟩
 |ins C dx fs=>obtain ⟨d,z,ne,e,mA,⟨od,es,ep,e2,c⟩,r⟩:=x;exact ⟨ho _ d,z,ne,k _ _ (.inl rfl) e,mA,⟨od,es,ep,k _ _ (.inr d) e2,c⟩,r⟩
 |own y=>obtain ⟨ob,e⟩:=x;exact ⟨ob,k _ _ (.inl rfl) e⟩
 |xd fs=>obtain ⟨mA,⟨od,es,ep,e,c⟩,r⟩:=x;exact ⟨mA,⟨od,es,ep,k _ _ (.inl rfl) e,c⟩,r⟩
 |rng lo hi=>obtain ⟨t,u,v,e⟩:=x;exact ⟨t,u,v,k _ _ (.inl rfl) e⟩
 |frz ob u ih=>obtain ⟨e,q⟩:=x;exact ⟨k _ _ (.inl rfl) e,ih q⟩
 |tbl ps q =>
  obtain ⟨more,e,t,r⟩:=x;refine ⟨more,k a _ (.inl rfl) e,t,fun p hp=>?_⟩;rcases r p hp with z|⟨c,o,vs,t,z,oc,e2⟩
  ·exact .inl z
  ·exact .inr ⟨c,o,vs,t,z,hz c o _ oc,e2⟩
 |met f y=>have e:h.get? a=some (PySem.W.methodObj (.ref f) (.ref y)):=x;show h'.get? a=some (PySem.W.methodObj (.ref f) (.ref y));exact k a _ (.inl rfl) e
 |ext φ=>obtain ⟨p,⟨o,e⟩,st⟩:=x;exact ⟨st _ _ p fun o q=>k _ _ (.inl rfl) q,⟨o,k _ _ (.inl rfl) e⟩,st⟩
theorem HOk.lt (x:HOk P w H h)(e:H a=some o):a<h.objs.size:=(x a o e).lt
theorem HOk.fresh (x:HOk P w H h)(e:h.objs.size<=a):H a=none:=by
 cases q:H a with
 |none=>rfl
 |some u=>exact absurd (Nat.lt_of_lt_of_le (x.lt q) e) (Nat.lt_irrefl _)
theorem HOk.kept (x:HOk P w H h)(k:∀ b u,h.get? b=some u->h'.get? b=some u):HOk P w H h':=fun a o e =>
 (x a o e).stay (fun b u _ q=>k b u q) (fun _ q=>q) (fun _ _ q=>q) fun _ _ _ q=>q
theorem HOk.laid (x:HOk P w H h)(k:∀ b u,h.get? b=some u->h'.get? b=some u)(hp:h.objs.size<=a)(new:ObjOk P w (v8 H a o) h' a o):HOk P w (v8 H a o) h':=fun b u e=>by
 have hn:=x.fresh hp;by_cases hb:b=a
 ·subst hb;rw [u8] at e;cases e;exact new
 ·rw [j7 hb] at e;exact (x b u e).stay (fun c v _ q=>k c v q) (fun c q=>by rw [j7 (p5 q hn)];exact q) (fun c xs q=>by rw [j7 (p5 q hn)];exact q) fun c _ _ q=>by rw [j7 (p5 q hn)];exact q
end
def Rd (H:Hp)(a:Addr)(u:HO):Prop:=H a=some u∨∃ o,H a=some (.frz o u)
theorem Rd.ok {P:Program}{w:World}{H:Hp}{h:Heap}{a:Addr}{u:HO}(r:Rd H a u)(x:HOk P w H h):ObjOk P w H h a u:=by
 rcases r with r|⟨o,r⟩
 ·exact x a u r
 ·obtain ⟨_,q⟩:=x a _ r;exact q
def Mut:Option HO->Prop
 |some (.lst _)=>True
 |some (.dK _)=>True
 |some (.dT _)=>True
 |some (.set _ _)=>True
 |some (.ins _ _ _)=>True
 |some (.ext _)=>True
 |_=>False
section
variable {P:Program}{w:World}{H:Hp}{h h':Heap}{x e:Addr}{o':HO}
theorem HOk.write (ok:HOk P w H h)(mu:Mut (H x))(he:e=x∨H e=some (.own x))(k:∀ b u,b≠e->h.get? b=some u->h'.get? b=some u)(heo:∃ u,h'.get? e=some u)(new:ObjOk P w (v8 H x o') h' x o'):HOk P w (v8 H x o') h':=fun b u q=>by
 have nown:∀ c y,H c=some (.own y)->c≠x:=fun c y r z=>by subst z;rw [r] at mu;exact mu
 have ntup:∀ c xs,H c=some (.tup xs)->c≠x:=fun c xs r z=>by subst z;rw [r] at mu;exact mu
 have nfrz:∀ c ob xs,H c=some (.frz ob xs)->c≠x:=fun c ob xs r z=>by subst z;rw [r] at mu;exact mu
 by_cases hb:b=x
 ·subst hb;rw [u8] at q;cases q;exact new
 ·rw [j7 hb] at q;by_cases hbe:b=e
  ·have q':H b=some (.own x):=by
    rcases he with z|z
    ·exact absurd (hbe.trans z) hb
    ·rw [hbe];exact z
   rw [q] at q';cases q';obtain ⟨v,hv⟩:=heo;exact ⟨v,by rw [hbe];exact hv⟩
  ·refine (ok b u q).stay (fun c v hc r=>k c v ?_ r) (fun c r=>by rw [j7 (nown c b r)];exact r) (fun c xs r=>by rw [j7 (ntup c xs r)];exact r) fun c ob xs r=>by rw [j7 (nfrz c ob xs r)];exact r
   rcases hc with rfl|hc
   ·exact hbe
   ·rintro rfl;rcases he with z|z
    ·exact nown c b hc z
    ·rw [hc] at z;cases z;exact hb rfl
end
structure Un (fs ex:List Addr)(H H':Hp)(h h':Heap):Prop where
 keep:∀ b o,h.get? b=some o->H b=none->b∉fs->b∉ex->h'.get? b=some o
 slot:∀ b o,h.get? b=some o->H b=none->b∈fs->b∉ex->∃ sl,h'.get? b=some { o with slots:=sl }
 free:∀ b o,h.get? b=some o->H b=none->b∉ex->H' b=none
 there:∀ b o,h.get? b=some o->b∉ex->∃ o',h'.get? b=some o'
 tups:∀ b xs,H b=some (.tup xs)->H' b=some (.tup xs)
 frzs:∀ b o u,H b=some (.frz o u)->H' b=some (.frz o u)
 tbls:∀ b ps q,H b=some (.tbl ps q)->H' b=some (.tbl ps q)
section
variable {fs fs' ex ex':List Addr}{H H1 H2:Hp}{h h1 h2 h':Heap}{a x e:Addr}{o:HO}
theorem Un.any (u:Un fs ex H H1 h h1){b:Addr}{ob:Obj}(q:h.get? b=some ob)(n:H b=none)(hx:b∉ex):∃ sl,h1.get? b=some { ob with slots:=sl }:=by
 by_cases hb:b∈fs
 ·exact u.slot b ob q n hb hx
 ·exact ⟨ob.slots,u.keep b ob q n hb hx⟩
theorem Un.kept (k:∀ b u,h.get? b=some u->h'.get? b=some u):Un fs ex H H h h' :=
 ⟨fun b ob q _ _ _=>k b ob q,fun b ob q _ _ _=>⟨ob.slots,k b ob q⟩,fun _ _ _ n _=>n,fun b ob q _=>⟨ob,k b ob q⟩,fun _ _ q=>q,fun _ _ _ q=>q,fun _ _ _ q=>q⟩
theorem Un.refl:Un fs ex H H h h:=Un.kept fun _ _ q=>q
theorem Un.laid (k:∀ b u,h.get? b=some u->h'.get? b=some u)(hp:h.objs.size<=a)(hn:H a=none):Un fs ex H (v8 H a o) h h' where
 keep:=fun b u q _ _ _=>k b u q
 slot:=fun b u q _ _ _=>⟨u.slots,k b u q⟩
 free:=fun b u q n _=>by rw [j7 (Nat.ne_of_lt (Nat.lt_of_lt_of_le (Heap.lt_size q) hp))];exact n
 there:=fun b u q _=>⟨u,k b u q⟩
 tups:=fun b xs q=>by rw [j7 (p5 q hn)];exact q
 frzs:=fun b u xs q=>by rw [j7 (p5 q hn)];exact q
 tbls:=fun b ps z q=>by rw [j7 (p5 q hn)];exact q
theorem Un.write (mu:Mut (H x))(he:e=x∨H e=some (.own x))(k:∀ b u,b≠e->h.get? b=some u->h'.get? b=some u)(heo:∃ u,h'.get? e=some u):Un fs ex H (v8 H x o) h h':=by
 have hx:∀ b,H b=none->b≠x:=fun b n z=>by subst z;rw [n] at mu;exact mu
 have hb:∀ b,H b=none->b≠e:=fun b n z=>by
  subst z;rcases he with r|r
  ·exact hx b n r
  ·rw [n] at r;cases r
 have hm:∀ b u,H b=some u->¬ Mut (some u)->b≠x:=fun b u q nm z=>by subst z;rw [q] at mu;exact nm mu
 refine ⟨fun b u q n _ _=>k b u (hb b n) q,fun b u q n _ _=>⟨u.slots,k b u (hb b n) q⟩,fun b u q n _=>by rw [j7 (hx b n)];exact n,fun b u q _=>?_,
  fun b xs q=>by rw [j7 (hm b _ q fun z=>z)];exact q,fun b u xs q=>by rw [j7 (hm b _ q fun z=>z)];exact q,fun b ps r q=>by rw [j7 (hm b _ q fun z=>z)];exact q⟩
 by_cases hbe:b=e
 ·subst hbe;exact heo
 ·exact ⟨u,k b u hbe q⟩
end
def trk (h:Heap)(H:Hp):List Addr:=(List.range h.objs.size).filter fun a=>(H a).isSome
def jE (h:Heap)(H:Hp):Heap:=PySem.W.hideAll h (trk h H)
theorem DQ (h:Heap)(H:Hp):(jE h H).objs.size=h.objs.size:=PySem.W.hideAll_size _ _
theorem DP {h:Heap}{H:Hp}{b:Addr}{o:Obj}(e:h.get? b=some o)(n:H b=none):(jE h H).get? b=some o :=
 PySem.W.hideAll_get _ e fun hm=>by
  have q:(H b).isSome=true:=(List.mem_filter.mp hm).2;rw [n] at q;simp at q
theorem LI {h:Heap}{H:Hp}{b:Addr}{o:Obj}(e:(jE h H).get? b=some o):h.get? b=some o/\H b=none:=by
 have e':h.get? b=some o:=PySem.W.of_hideAll (trk h H) e;refine ⟨e',?_⟩;cases q:H b with
 |none=>rfl
 |some x=>have hm:b∈trk h H:=List.mem_filter.mpr ⟨List.mem_range.mpr (Heap.lt_size e'),by simp [q]⟩;have z:(jE h H).get? b=none:=PySem.W.hideAll_none (trk h H) hm;rw [z] at e;cases e
end L2
namespace L2
open PySem PySem.Spec PyProof.Rows
structure Mod (K:Fg)(mg:Str->Option Value)(base:Heap):Prop where
 kin:K.In base
 glob:base.Ns mainGlobals mg
 blt:∃ mb,base.Ns builtinsNs mb/\∀ x:Str,x ≠ "__name__"->mb x=bootBuiltins x
 nolimit:base.NoLimit
 bmn:∃ bm ob,mg "__builtins__"=some (.ref bm)/\bm≠builtinsNs/\base.get? bm=some ob/\ob.cls = .type "module"/\ob.dict=some builtinsNs/\ob.data = .plain
structure Cx where
 prog:Program
 w:World
 K:Fg
 mg:Str->Option Value
 base:Heap
 A:Around
 N:List Str
 s₀:Shared
 H₀:Hp
 env:Env
 outer:List Env
 stack:List Env
 ex:List Addr
 fn:Str->Bool
 calm:Bool
 pn:List (Addr×Obj)
 xe:Value->Shared->Prop
def frs (l:List Env):List Addr:=l.filterMap (·.frame)
abbrev Cx.fs (X:Cx):List Addr:=frs X.outer
def Vis (sc:Scope)(x:Str):Prop:=sc.names.lookup x=some .local∨sc.names.lookup x=some .cell∨sc.names.lookup x=some .free
def Loc (sc:Scope)(x:Str):Prop:=sc.names.lookup x=some .local∨sc.names.lookup x=some .cell
def Look (env:Env)(h:Heap)(m:Str->Option Value)(x:Str)(u:Value):Prop :=
 (env.kindOf x=some .local/\m x=some u)∨((env.kindOf x=some .cell∨env.kindOf x=some .free)/\∃ c,env.cells.lookup x=some c/\h.IsCell c (some u))
structure Cx.Ok (X:Cx):Prop where
 mod:Mod X.K X.mg X.base
 kind:X.env.scope.kind = .function
 glob:X.env.globals=mainGlobals
 blt:X.env.builtins=builtinsNs
 above:X.s₀.heap.objs.size<=X.env.locals
 inj:∀ x y c,X.env.cells.lookup x=some c->X.env.cells.lookup y=some c->x=y
 has:∀ x,(X.env.kindOf x=some .cell∨X.env.kindOf x=some .free)->∃ c,X.env.cells.lookup x=some c
 cab:∀ x c,X.fn x=true->X.env.cells.lookup x=some c->X.s₀.heap.objs.size<=c
 hd:X.calm=true->X.A.handled=none
 frames:X.A.frames=some X.stack
 stk:X.stack=X.outer∨(X.stack=X.env::X.outer/\X.env.frame=some X.env.locals)
 exf:∀ b∈X.ex,b≠X.env.locals/\∀ x c,X.env.cells.lookup x=some c->c≠b
 bs:∀ b o,X.base.get? b=some o->X.s₀.heap.get? b=some o/\X.H₀ b=none
 bsz:X.base.objs.size<=X.s₀.heap.objs.size
 noex:∀ b o,X.base.get? b=some o->b∉X.ex
 exfs:∀ b∈X.ex,b∉X.fs
 funs:X.s₀.heap.FunFrames X.base X.outer
 frf:∀ b∈X.fs,X.H₀ b=none
 tbs:∀ p∈TABS,X.H₀ p.1=some (.tbl p.2.1 p.2.2)
structure Inv (X:Cx)(pins:List (Addr×Obj))(Z:List (Option V))(H:Hp)(s:Shared):Prop where
 ok:X.Ok
 os:s.os=X.s₀.os
 bare:AllBare s.gens
 base:Un X.fs X.ex X.H₀ H X.s₀.heap s.heap
 loc:∃ m,s.heap.Ns X.env.locals m/\∀(i:Nat)(x:Str)(v:V),X.N[i]?=some x->Z[i]?=some (some v)->Vis X.env.scope x->∃ u,RelV v u/\Look X.env s.heap m x u
 cell:∀ x c,X.env.cells.lookup x=some c->∃ v,s.heap.IsCell c v
 free:H X.env.locals=none
 freeC:∀ x c,X.env.cells.lookup x=some c->H c=none
 pin:∀ p∈X.pn++pins,s.heap.get? p.1=some p.2/\H p.1=none/\p.1≠X.env.locals/\p.1∉X.fs/\∀ v,p.2.data ≠ .cell v
 hok:HOk X.prog X.w H s.heap
 len:Z.length=X.N.length
section
variable {X:Cx}{pins:List (Addr×Obj)}{Z:List (Option V)}{H H':Hp}{s:Shared}{h':Heap}
theorem Cx.Ok.nofr (ok:X.Ok){b:Addr}{o:Obj}(e:X.base.get? b=some o):b∉X.fs:=fun hb=>by
 have:=(ok.funs.mem hb).1;rw [e] at this;cases this
theorem Inv.bs (I:Inv X pins Z H s):∀ b o,X.base.get? b=some o->s.heap.get? b=some o/\H b=none:=fun b o e =>
 ⟨I.base.keep b o (I.ok.bs b o e).1 (I.ok.bs b o e).2 (I.ok.nofr e) (I.ok.noex b o e),I.base.free b o (I.ok.bs b o e).1 (I.ok.bs b o e).2 (I.ok.noex b o e)⟩
theorem Inv.bk (I:Inv X pins Z H s):∀ b o,X.base.get? b=some o->s.heap.get? b=some o:=fun b o e=>(I.bs b o e).1
theorem Inv.mod (I:Inv X pins Z H s):Mod X.K X.mg X.base:=I.ok.mod
theorem Inv.kIn (I:Inv X pins Z H s):X.K.In s.heap:=I.ok.mod.kin.keeps I.bk
theorem Inv.fr (I:Inv X pins Z H s):∃ m,Fr X.base X.env.locals s.heap m :=
 let ⟨m,hn,_⟩:=I.loc
 ⟨m,hn,I.bk,Nat.le_trans I.ok.bsz I.ok.above⟩
theorem Inv.lt (I:Inv X pins Z H s):X.env.locals<s.heap.objs.size:=let ⟨_,hn,_⟩:=I.loc;hn.lt
theorem Inv.sz (I:Inv X pins Z H s):X.s₀.heap.objs.size<=s.heap.objs.size:=Nat.le_trans I.ok.above (Nat.le_of_lt I.lt)
theorem Inv.nofs (I:Inv X pins Z H s){a:Addr}(h:s.heap.objs.size<=a):a∉X.fs:=fun hb=>by
 obtain ⟨_,o,ho,_⟩:=I.ok.funs.mem hb;exact absurd (Nat.lt_of_lt_of_le (Heap.lt_size ho) (Nat.le_trans I.sz h)) (Nat.lt_irrefl _)
theorem Inv.cne (I:Inv X pins Z H s):∀ x c,X.env.cells.lookup x=some c->c≠X.env.locals:=fun x c e z=>by
 obtain ⟨v,o,ho,hd⟩:=I.cell x c e;obtain ⟨m,⟨o',es,ep,ho',hd',_⟩,_⟩:=I.loc;rw [z,ho'] at ho;cases ho;rw [hd'] at hd;cases hd
theorem Inv.funs (I:Inv X pins Z H s):s.heap.FunFrames X.base X.outer:=by
 have all:∀(l:List Env),(∀ b∈frs l,b∈X.fs)->X.s₀.heap.FunFrames X.base l->s.heap.FunFrames X.base l:=by
  intro l
  induction l with
  |nil=>intro _ _;trivial
  |cons env r ih=>intro hs hl;obtain ⟨hk,⟨L,o,hf,hn,ho,hd⟩,hr⟩:=hl;have hL:L∈X.fs:=hs L (by unfold frs;rw [List.filterMap_cons,hf];exact List.mem_cons_self);obtain ⟨sl,e⟩:=I.base.slot L o ho (I.ok.frf L hL) hL fun z=>I.ok.exfs L z hL;exact ⟨hk,⟨L,_,hf,hn,e,hd⟩,ih (fun b hb=>hs b (by unfold frs;rw [List.filterMap_cons,hf];exact List.mem_cons_of_mem _ hb)) hr⟩
 exact all X.outer (fun _ hb=>hb) I.ok.funs
theorem Inv.stack (I:Inv X pins Z H s):s.heap.FunFrames X.base X.stack:=by
 rcases I.ok.stk with e|⟨e,hf⟩
 ·rw [e];exact I.funs
 ·rw [e];obtain ⟨m,hn,_⟩:=I.loc;refine .cons (by rw [I.ok.kind];decide) hf hn ?_ I.funs;exact Heap.get?_none_of_le (Nat.le_trans I.ok.bsz I.ok.above)
theorem Inv.stkSub (I:Inv X pins Z H s):∀ b∈frs X.stack,b∈X.env.locals::X.fs:=fun b hb=>by
 rcases I.ok.stk with e|⟨e,hf⟩
 ·rw [e] at hb;exact List.mem_cons_of_mem _ hb
 ·rw [e] at hb;unfold frs at hb;rw [List.filterMap_cons,hf] at hb;exact hb
theorem Inv.stkFree (I:Inv X pins Z H s):∀ b∈frs X.stack,H b=none:=fun b hb=>by
 rcases List.mem_cons.mp (I.stkSub b hb) with e|hb
 ·rw [e];exact I.free
 ·obtain ⟨_,o,ho,_⟩:=I.ok.funs.mem hb;exact I.base.free b o ho (I.ok.frf b hb) fun z=>I.ok.exfs b z hb
theorem Inv.step {g':Array GenState}{t':Nat}{d':Drawn}{ch:List Addr}(I:Inv X pins Z H s)(hch:∀ b∈ch,(b∈X.ex∨X.s₀.heap.objs.size<=b)/\b≠X.env.locals/\(∀ x c,X.env.cells.lookup x=some c->c≠b)/\∀ p∈X.pn++pins,p.1≠b)(keep:∀ b o,b≠X.env.locals->b∉X.fs->b∉ch->s.heap.get? b=some o->H b=none->h'.get? b=some o)(slot:∀ b o,b≠X.env.locals->b∈X.fs->b∉ch->s.heap.get? b=some o->H b=none->∃ sl,h'.get? b=some { o with slots:=sl })(free:∀ b o,b∉ch->s.heap.get? b=some o->H b=none->H' b=none)(there:∀ b o,b∉ch->s.heap.get? b=some o->∃ o',h'.get? b=some o')(tups:∀ b xs,H b=some (.tup xs)->H' b=some (.tup xs))(frzs:∀ b o u,H b=some (.frz o u)->H' b=some (.frz o u))(tbls:∀ b ps q,H b=some (.tbl ps q)->H' b=some (.tbl ps q))(ns:∀ m,s.heap.Ns X.env.locals m->h'.Ns X.env.locals m)(hok:HOk X.prog X.w H' h')(hg:AllBare g'):Inv X pins Z H' { s with heap:=h',gens:=g',drawn:=d',toks:=t' }:=by
 have neL:∀ b o,X.s₀.heap.get? b=some o->b≠X.env.locals:=fun b o e=>Nat.ne_of_lt (Nat.lt_of_lt_of_le (Heap.lt_size e) I.ok.above);have neC:∀ b o,X.s₀.heap.get? b=some o->b∉X.ex->b∉ch:=fun b o e hx hb=>by
  rcases (hch b hb).1 with z|z
  ·exact hx z
  ·exact absurd (Nat.lt_of_lt_of_le (Heap.lt_size e) z) (Nat.lt_irrefl _)
 have cellK:∀ x c,X.env.cells.lookup x=some c->∀ v,s.heap.IsCell c v->h'.IsCell c v:=fun x c e v ⟨o,ho,hd⟩=>by
  have nch:c∉ch:=fun z=>(hch c z).2.2.1 x c e rfl;by_cases hc:c∈X.fs
  ·obtain ⟨sl,q⟩:=slot c o (I.cne x c e) hc nch ho (I.freeC x c e);exact ⟨_,q,hd⟩
  ·exact ⟨o,keep c o (I.cne x c e) hc nch ho (I.freeC x c e),hd⟩
 refine ⟨I.ok,I.os,hg,⟨fun b o e n hb hx=>?_,fun b o e n hb hx=>?_,fun b o e n hx=>?_,fun b o e hx=>?_,fun b xs e=>tups b xs (I.base.tups b xs e),fun b o xs e=>frzs b o xs (I.base.frzs b o xs e),fun b ps q e=>tbls b ps q (I.base.tbls b ps q e)⟩,?_,fun x c e=>?_,?_,fun x c e=>?_,fun p hp=>?_,hok,I.len⟩
 ·exact keep b o (neL b o e) hb (neC b o e hx) (I.base.keep b o e n hb hx) (I.base.free b o e n hx)
 ·obtain ⟨sl,e1⟩:=I.base.slot b o e n hb hx;obtain ⟨sl',e2⟩:=slot b _ (neL b o e) hb (neC b o e hx) e1 (I.base.free b o e n hx);exact ⟨sl',e2⟩
 ·obtain ⟨o',e1⟩:=I.base.there b o e hx;exact free b o' (neC b o e hx) e1 (I.base.free b o e n hx)
 ·obtain ⟨o',e1⟩:=I.base.there b o e hx;exact there b o' (neC b o e hx) e1
 ·obtain ⟨m,hn,hl⟩:=I.loc;refine ⟨m,ns m hn,fun i x v e1 e2 e3=>?_⟩;obtain ⟨u,r,l⟩:=hl i x v e1 e2 e3;refine ⟨u,r,?_⟩;rcases l with l|⟨k,c,e,z⟩
  ·exact .inl l
  ·exact .inr ⟨k,c,e,cellK x c e _ z⟩
 ·obtain ⟨v,z⟩:=I.cell x c e;exact ⟨v,cellK x c e v z⟩
 ·obtain ⟨m,⟨o,_,_,ho,_⟩,_⟩:=I.loc;exact free _ o (fun z=>(hch _ z).2.1 rfl) ho I.free
 ·obtain ⟨v,o,ho,hd⟩:=I.cell x c e;exact free c o (fun z=>(hch c z).2.2.1 x c e rfl) ho (I.freeC x c e)
 ·obtain ⟨e,n,ne,nf,d⟩:=I.pin p hp;have nch:p.1∉ch:=fun z=>(hch p.1 z).2.2.2 p hp rfl;exact ⟨keep p.1 p.2 ne nf nch e n,free p.1 p.2 nch e n,ne,nf,d⟩
theorem Inv.un {t':Nat}(I:Inv X pins Z H s)(u:Un X.fs [] H H' s.heap h')(hok:HOk X.prog X.w H' h'):Inv X pins Z H' { s with heap:=h',toks:=t' }:=by
 obtain ⟨m,⟨o,es,ep,ho,r⟩,_⟩:=id I.loc;obtain ⟨sl,hL⟩:=u.any ho I.free (by simp);exact I.step (g':=s.gens) (d':=s.drawn) (ch:=[]) (fun _ z=>nomatch z) (fun b o _ hb _ e n=>u.keep b o e n hb (by simp)) (fun b o _ hb _ e n=>u.slot b o e n hb (by simp)) (fun b o _ e n=>u.free b o e n (by simp)) (fun b o _ e=>u.there b o e (by simp)) u.tups u.frzs u.tbls (fun m' hm=>by
  obtain ⟨o',es',ep',ho',r'⟩:=hm;rw [ho] at ho';cases ho';exact ⟨_,es',ep',hL,r'⟩) hok I.bare
theorem Inv.call {g':Array GenState}{t':Nat}{d':Drawn}{ch:List Addr}(I:Inv X pins Z H s)(u:Un (frs X.stack) ch H H' s.heap h')(hok:HOk X.prog X.w H' h')(hg:AllBare g')(hch:∀ b∈ch,(b∈X.ex∨X.s₀.heap.objs.size<=b)/\b≠X.env.locals/\(∀ x c,X.env.cells.lookup x=some c->c≠b)/\∀ p∈X.pn++pins,p.1≠b):Inv X pins Z H' { s with heap:=h',gens:=g',drawn:=d',toks:=t' }:=by
 obtain ⟨m,⟨o,es,ep,ho,r⟩,_⟩:=id I.loc;obtain ⟨sl,hL⟩:=u.any ho I.free fun z=>(hch _ z).2.1 rfl;exact I.step (ch:=ch) hch (fun b o hL hb hc e n=>u.keep b o e n (fun z=>(List.mem_cons.mp (I.stkSub b z)).elim hL hb) hc) (fun b o _ _ hc e n=>u.any e n hc) (fun b o hc e n=>u.free b o e n hc) (fun b o hc e=>u.there b o e hc) u.tups u.frzs u.tbls (fun m' hm=>by
  obtain ⟨o',es',ep',ho',r'⟩:=hm;rw [ho] at ho';cases ho';exact ⟨_,es',ep',hL,r'⟩) hok hg
theorem Inv.turned {t':Nat}{it:Addr}(I:Inv X pins Z H s)(k:∀ b o,b≠it->s.heap.get? b=some o->h'.get? b=some o)(hn:H it=none)(hL:it≠X.env.locals)(h1:it∈X.ex∨X.s₀.heap.objs.size<=it)(h2:∀ x c,X.env.cells.lookup x=some c->c≠it)(h3:∀ p∈X.pn++pins,p.1≠it):Inv X pins Z H { s with heap:=h',toks:=t' }:=by
 have nit:∀ b u,H b=some u->b≠it:=fun b u e z=>by rw [z,hn] at e;cases e
 refine I.step (g':=s.gens) (d':=s.drawn) (ch:=[it]) (fun b hb=>?_) (fun b o _ _ hc e _=>k b o (fun z=>hc (by simp [z])) e) (fun b o _ _ hc e _=>⟨o.slots,k b o (fun z=>hc (by simp [z])) e⟩) (fun _ _ _ _ n=>n)
  (fun b o hc e=>⟨o,k b o (fun z=>hc (by simp [z])) e⟩) (fun _ _ e=>e) (fun _ _ _ e=>e) (fun _ _ _ e=>e) (fun m hm=>?_) (fun b u e=>?_) I.bare
 ·have e:b=it:=by simpa using hb
  subst e;exact ⟨h1,hL,h2,h3⟩
 ·obtain ⟨o,es,ep,ho,r⟩:=hm;exact ⟨o,es,ep,k _ o (Ne.symm hL) ho,r⟩
 ·refine (I.hok b u e).stay (fun c v hc q=>k c v ?_ q) (fun _ q=>q) (fun _ _ q=>q) fun _ _ _ q=>q;rcases hc with z|z
  ·rw [z];exact nit b u e
  ·exact nit c _ z
theorem Inv.tok (I:Inv X pins Z H s)(t:Nat):Inv X pins Z H { s with toks:=t }:=I.un (h':=s.heap) (t':=t) Un.refl I.hok
theorem Inv.kept {t':Nat}(I:Inv X pins Z H s)(k:∀ b u,s.heap.get? b=some u->h'.get? b=some u):Inv X pins Z H { s with heap:=h',toks:=t' }:=I.un (Un.kept k) (I.hok.kept k)
theorem Inv.laid {a:Addr}{o:HO}{t':Nat}(I:Inv X pins Z H s)(k:∀ b u,s.heap.get? b=some u->h'.get? b=some u)(hp:s.heap.objs.size<=a)(new:ObjOk X.prog X.w (v8 H a o) h' a o):Inv X pins Z (v8 H a o) { s with heap:=h',toks:=t' }:=I.un (Un.laid k hp (I.hok.fresh hp)) (I.hok.laid k hp new)
theorem Inv.write {x e:Addr}{o:HO}{t':Nat}(I:Inv X pins Z H s)(mu:Mut (H x))(he:e=x∨H e=some (.own x))(k:∀ b u,b≠e->s.heap.get? b=some u->h'.get? b=some u)(heo:∃ u,h'.get? e=some u)(new:ObjOk X.prog X.w (v8 H x o) h' x o):Inv X pins Z (v8 H x o) { s with heap:=h',toks:=t' }:=I.un (Un.write mu he k heo) (I.hok.write mu he k heo new)
theorem Inv.weak {σ':List (Option V)}(I:Inv X pins Z H s)(hl:σ'.length=Z.length)(w:∀(i:Nat) v,σ'[i]?=some (some v)->Z[i]?=some (some v)):Inv X pins σ' H s :=
 ⟨I.ok,I.os,I.bare,I.base,let ⟨m,hn,hl'⟩:=I.loc;⟨m,hn,fun i x v e1 e2 e3=>hl' i x v e1 (w i v e2) e3⟩,I.cell,I.free,I.freeC,I.pin,I.hok,hl.trans I.len⟩
theorem Inv.pins_of {pins':List (Addr×Obj)}(I:Inv X pins Z H s)(h:∀ p∈pins',s.heap.get? p.1=some p.2/\H p.1=none/\p.1≠X.env.locals/\p.1∉X.fs/\∀ v,p.2.data ≠ .cell v):Inv X pins' Z H s :=
 ⟨I.ok,I.os,I.bare,I.base,I.loc,I.cell,I.free,I.freeC,fun p hp=>(List.mem_append.mp hp).elim (fun z=>I.pin p (List.mem_append_left _ z)) (h p),I.hok,I.len⟩
theorem KE {N:List Str}(hN:N.Nodup){i j:Nat}{x:Str}(a:N[i]?=some x)(b:N[j]?=some x):i=j:=by obtain ⟨h1,e1⟩:=List.getElem?_eq_some_iff.mp a;obtain ⟨h2,e2⟩:=List.getElem?_eq_some_iff.mp b;exact (List.getElem_inj hN).mp (e1.trans e2.symm)
theorem BT {M:Model}{A:Around}{E:Value->Shared->Prop}{i:Nat}{x:Str}{v:V}{u:Value}{Q:Unit->Shared->Prop}(I:Inv X pins Z H s)(hN:X.N.Nodup)(hi:X.N[i]?=some x)(hx:Loc X.env.scope x)(r:RelV v u)(h:∀ s',Inv X pins (Z.set i (some v)) H s'->(∃ a,Heap.SameBut a s.heap s'.heap/\(a=X.env.locals∨X.env.cells.lookup x=some a))->Q () s')(hf:X.fn x=true∨X.env.scope.names.lookup x=some .local:=by first|exact .inl rfl|exact .inr rfl|assumption):wpAny M A (storeName X.env x u) Q E s:=by
 obtain ⟨m,hn,hl⟩:=id I.loc;have hcls:(X.env.scope.kind == .class || (X.env.scope.kind == .module&&X.env.locals != X.env.globals))=false:=by rw [I.ok.kind];rfl
 have hiσ:i<Z.length:=by rw [I.len];exact (List.getElem?_eq_some_iff.mp hi).1
 have cne:=I.cne;have tracked:∀{a:Addr}{h':Heap},(∃ o,s.heap.get? a=some o/\H a=none)->Heap.SameBut a s.heap h'->HOk X.prog X.w H h':=fun {a h'} ha hs b ob e=>by
  obtain ⟨_,_,hfree⟩:=ha;refine (I.hok b ob e).stay (fun c w' hc q=>(hs.2 c ?_).trans q) (fun _ q=>q) (fun _ _ q=>q) fun _ _ _ q=>q;rintro rfl;rcases hc with rfl|hc
  ·rw [hfree] at e;cases e
  ·rw [hfree] at hc;cases hc
 rcases hx with hk|hk
 ·refine wpAny_storeName_local hk hn (fun h' hn' hs=>?_) hcls;obtain ⟨oL,_,_,hoL,_⟩:=id hn;refine h _ ⟨I.ok,I.os,I.bare,⟨fun b o e n hb hx=>?_,fun b o e n hb hx=>?_,I.base.free,fun b o e hx=>?_,I.base.tups,I.base.frzs,I.base.tbls⟩,⟨_,hn',fun j y v' e1 e2 e3=>?_⟩,fun y c e=>?_,I.free,I.freeC,fun p hp=>?_,tracked ⟨oL,hoL,I.free⟩ hs,by simpa using I.len⟩ ⟨_,hs,.inl rfl⟩
  ·exact (hs.2 b (Nat.ne_of_lt (Nat.lt_of_lt_of_le (Heap.lt_size e) I.ok.above))).trans (I.base.keep b o e n hb hx)
  ·obtain ⟨sl,e1⟩:=I.base.slot b o e n hb hx;exact ⟨sl,(hs.2 b (Nat.ne_of_lt (Nat.lt_of_lt_of_le (Heap.lt_size e) I.ok.above))).trans e1⟩
  ·obtain ⟨o',e1⟩:=I.base.there b o e hx;exact ⟨o',(hs.2 b (Nat.ne_of_lt (Nat.lt_of_lt_of_le (Heap.lt_size e) I.ok.above))).trans e1⟩
  ·by_cases hj:j=i
   ·subst hj;rw [hi] at e1;cases e1;rw [List.getElem?_set_self hiσ] at e2;cases e2;exact ⟨u,r,.inl ⟨hk,by simp⟩⟩
   ·rw [List.getElem?_set_ne (Ne.symm hj)] at e2;obtain ⟨u',r',q⟩:=hl j y v' e1 e2 e3;refine ⟨u',r',?_⟩;rcases q with ⟨k,e⟩|⟨k,c,e,z⟩
    ·refine .inl ⟨k,?_⟩;have:y≠x:=fun e=>hj (KE hN e1 (e▸hi));simp [this,e]
    ·exact .inr ⟨k,c,e,z.sameBut hs (cne y c e)⟩
  ·obtain ⟨w',z⟩:=I.cell y c e;exact ⟨w',z.sameBut hs (cne y c e)⟩
  ·obtain ⟨e,n,ne,nf,d⟩:=I.pin p hp;exact ⟨(hs.2 p.1 ne).trans e,n,ne,nf,d⟩
 ·have hfn:X.fn x=true:=by
   rcases hf with z|z
   ·exact z
   ·rw [z] at hk;cases hk
  obtain ⟨c,hc⟩:=I.ok.has x (.inl hk);obtain ⟨w',z⟩:=I.cell x c hc;refine wpAny_storeName_cell I.ok.kind hk hc z (fun h' hc' hs=>?_);obtain ⟨oc,hoc,hocd⟩:=id z;refine h { s with heap:=h' } ⟨I.ok,I.os,I.bare,⟨fun b o e n hb hx=>?_,fun b o e n hb hx=>?_,I.base.free,fun b o e hx=>?_,I.base.tups,I.base.frzs,I.base.tbls⟩,⟨m,hn.sameBut hs (Ne.symm (cne x c hc)),fun j y v' e1 e2 e3=>?_⟩,fun y c' e=>?_,I.free,I.freeC,fun p hp=>?_,tracked ⟨oc,hoc,I.freeC x c hc⟩ hs,by simpa using I.len⟩ ⟨c,hs,.inr hc⟩
  ·exact (hs.2 b (Nat.ne_of_lt (Nat.lt_of_lt_of_le (Heap.lt_size e) (I.ok.cab x c hfn hc)))).trans (I.base.keep b o e n hb hx)
  ·obtain ⟨sl,e1⟩:=I.base.slot b o e n hb hx;exact ⟨sl,(hs.2 b (Nat.ne_of_lt (Nat.lt_of_lt_of_le (Heap.lt_size e) (I.ok.cab x c hfn hc)))).trans e1⟩
  ·obtain ⟨o',e1⟩:=I.base.there b o e hx;exact ⟨o',(hs.2 b (Nat.ne_of_lt (Nat.lt_of_lt_of_le (Heap.lt_size e) (I.ok.cab x c hfn hc)))).trans e1⟩
  ·by_cases hj:j=i
   ·subst hj;rw [hi] at e1;cases e1;rw [List.getElem?_set_self hiσ] at e2;cases e2;exact ⟨u,r,.inr ⟨.inl hk,c,hc,hc'⟩⟩
   ·rw [List.getElem?_set_ne (Ne.symm hj)] at e2;obtain ⟨u',r',q⟩:=hl j y v' e1 e2 e3;refine ⟨u',r',?_⟩;rcases q with q|⟨k,c',e,z'⟩
    ·exact .inl q
    ·refine .inr ⟨k,c',e,z'.sameBut hs ?_⟩;rintro rfl;exact hj (KE hN e1 (I.ok.inj _ _ _ e hc▸hi))
  ·by_cases hcc:c'=c
   ·subst hcc;exact ⟨_,hc'⟩
   ·obtain ⟨w2,z2⟩:=I.cell y c' e;exact ⟨w2,z2.sameBut hs hcc⟩
  ·obtain ⟨e,n,ne,nf,d⟩:=I.pin p hp;refine ⟨(hs.2 p.1 ?_).trans e,n,ne,nf,d⟩;intro q;rw [q,hoc] at e;have q':oc=p.2:=Option.some.inj e;exact d w' (by rw [<- q'];exact hocd)
theorem BS {M:Model}{A:Around}{E:Value->Shared->Prop}{i:Nat}{x:Str}{v:V}{u:Value}{Q:Unit->Shared->Prop}(I:Inv X pins Z H s)(hN:X.N.Nodup)(hi:X.N[i]?=some x)(hx:Loc X.env.scope x)(r:RelV v u)(h:∀ s',Inv X pins (Z.set i (some v)) H s'->Q () s')(hf:X.fn x=true∨X.env.scope.names.lookup x=some .local:=by first|exact .inl rfl|exact .inr rfl|assumption):wpAny M A (storeName X.env x u) Q E s :=
 BT I hN hi hx r (fun s' I' _=>h s' I') hf
theorem Inv.call' {s':Shared}{ch:List Addr}(I:Inv X pins Z H s)(ho:s'.os=s.os)(u:Un (frs X.stack) ch H H' s.heap s'.heap)(hok:HOk X.prog X.w H' s'.heap)(hg:AllBare s'.gens)(hch:∀ b∈ch,(b∈X.ex∨X.s₀.heap.objs.size<=b)/\b≠X.env.locals/\(∀ x c,X.env.cells.lookup x=some c->c≠b)/\∀ p∈X.pn++pins,p.1≠b):Inv X pins Z H' s':=by obtain ⟨h',g',d',t',o'⟩:=s';have e:o'=s.os:=ho;subst e;exact I.call (g':=g') (t':=t') (d':=d') u hok hg hch
end
abbrev XK:=Value->Option Addr->Hp->Prop
abbrev St:=List (Option V)
abbrev VK:=V->Hp->Prop
abbrev TE:=St->Hp->VK->Prop
abbrev TT:=St->Hp->(Bool->Hp->Prop)->Prop
abbrev TA:=St->Hp->(List V->Hp->Prop)->Prop
structure zu where
 nx:St->Hp->Prop
 rt:VK
 bk:St->Hp->Prop:=fun _ _=>False
 ct:St->Hp->Prop:=fun _ _=>False
abbrev TS:=zu->St->Hp->Prop
def EP (X:Cx)(pins:List (Addr×Obj))(Z:St)(Q:VK)(u:Value)(s':Shared):Prop:=∃ v H',Inv X pins Z H' s'/\RelV v u/\Q v H'
def TP (X:Cx)(pins:List (Addr×Obj))(Z:St)(Q:Bool->Hp->Prop)(b:Bool)(s':Shared):Prop:=∃ H',Inv X pins Z H' s'/\Q b H'
def AP (X:Cx)(pins:List (Addr×Obj))(Z:St)(Q:List V->Hp->Prop)(us:List Value)(s':Shared):Prop:=∃ vs H',Inv X pins Z H' s'/\Vals vs us/\Q vs H'
def SP (X:Cx)(pins:List (Addr×Obj))(D:zu)(f:Flow)(s':Shared):Prop :=
 match f with
 | .next=>∃ σ' H',Inv X pins σ' H' s'/\D.nx σ' H'
 | .brk=>∃ σ' H',Inv X pins σ' H' s'/\D.bk σ' H'
 | .cont=>∃ σ' H',Inv X pins σ' H' s'/\D.ct σ' H'
 | .ret u=>∃ v σ' H',Inv X pins σ' H' s'/\RelV v u/\D.rt v H'
def PE (X:Cx)(e:Expr)(t:TE):Prop :=
 ∀(pins:List (Addr×Obj))(s:Shared)(Z:St)(H:Hp)(Q:VK),Inv X pins Z H s->t Z H Q->wpAny (model X.prog X.w) X.A (eval e X.env) (EP X pins Z Q) X.xe s
def PT (X:Cx)(e:Expr)(t:TT):Prop :=
 ∀(pins:List (Addr×Obj))(s:Shared)(Z:St)(H:Hp)(Q:Bool->Hp->Prop),Inv X pins Z H s->t Z H Q->wpAny (model X.prog X.w) X.A (isTrue e X.env (eval e X.env)) (TP X pins Z Q) X.xe s
def PW (X:Cx)(e:Expr)(t:TT):Prop :=
 ∀(whole:Sem Value)(pins:List (Addr×Obj))(s:Shared)(Z:St)(H:Hp)(Q:Bool->Hp->Prop),Inv X pins Z H s->t Z H Q->wpAny (model X.prog X.w) X.A (isTrue e X.env whole) (TP X pins Z Q) X.xe s
theorem PW.pt {X:Cx}{e:Expr}{t:TT}(h:PW X e t):PT X e t:=h _
def PA (X:Cx)(es:List Expr)(t:TA):Prop :=
 ∀(pos:Pos)(pins:List (Addr×Obj))(s:Shared)(Z:St)(H:Hp)(Q:List V->Hp->Prop),Inv X pins Z H s->t Z H Q->wpAny (model X.prog X.w) X.A (spliced (backTo pos (starEach es X.env))) (AP X pins Z Q) X.xe s
def PS (X:Cx)(st:Stmt)(t:TS):Prop :=
 ∀(pins:List (Addr×Obj))(s:Shared)(Z:St)(H:Hp)(D:zu),Inv X pins Z H s->t D Z H->wpAny (model X.prog X.w) X.A (exec st X.env) (SP X pins D) X.xe s
def PSs (X:Cx)(st:List Stmt)(t:TS):Prop :=
 ∀(pins:List (Addr×Obj))(s:Shared)(Z:St)(H:Hp)(D:zu),Inv X pins Z H s->t D Z H->wpAny (model X.prog X.w) X.A (execs st X.env) (SP X pins D) X.xe s
theorem j6 {α:Type}{t:Sem α}{Q Q':α->Shared->Prop}{M:Model}{A:Around}{E:Value->Shared->Prop}{s:Shared}(h:wpAny M A t Q E s)(hQ:∀ a s,Q a s->Q' a s):wpAny M A t Q' E s:=wpAny_mono h hQ fun _ _ x=>x
end L2
namespace L2
open PySem PySem.Spec PyProof.Rows
section
variable {X:Cx}
theorem bin {a b:Expr}{ta tb:TE}(ha:PE X a ta)(hb:PE X b tb){pins:List (Addr×Obj)}{s:Shared}{Z:St}{H:Hp}{R:V->V->Hp->Prop}(I:Inv X pins Z H s)(h:ta Z H fun x H1=>tb Z H1 fun y H2=>R x y H2){α:Type}{Q:α->Shared->Prop}{f:Value->Value->Sem α}(hf:∀ v u s2 x y H2,Inv X pins Z H2 s2->RelV x v->RelV y u->R x y H2->wpAny (model X.prog X.w) X.A (f v u) Q X.xe s2):wpAny (model X.prog X.w) X.A (eval a X.env) (fun v s₁=>wpAny (model X.prog X.w) X.A (eval b X.env) (fun u s₂=>wpAny (model X.prog X.w) X.A (f v u) Q X.xe s₂) X.xe s₁) X.xe s:=by refine j6 (ha pins s Z H _ I h) fun v s1 ⟨x,H1,I1,r1,q1⟩=>?_;refine j6 (hb pins s1 Z H1 _ I1 q1) fun u s2 ⟨y,H2,I2,r2,q2⟩=>?_;exact hf v u s2 x y H2 I2 r1 r2 q2
def qL (i:Nat):TE:=fun Z H Q=>∃ v,Z[i]?=some (some v)/\Q v H
def tC (v:V):TE:=fun _ H Q=>Q v H
theorem KO {i:Nat}{x:Str}{pos:Pos}(hN:X.N[i]?=some x)(hv:Vis X.env.scope x)(hd:(x==("__debug__":Str))=false:=by decide)(hcd:(x==("__classdict__":Str))=false:=by decide):PE X (.Name x pos) (qL i):=by
 intro pins s Z H Q I h;obtain ⟨v,e,h⟩:=h;obtain ⟨m,hn,hl⟩:=I.loc;obtain ⟨u,r,l⟩:=hl i x v hN e hv;have fin:EP X pins Z Q u s:=⟨v,H,I,r,h⟩;rcases l with ⟨hk,hm⟩|⟨hk,c,hc,hcell⟩
 ·exact wpAny_Name (wpAny_loadName_local I.ok.kind hk hn hm fin) hd
 ·rcases hk with hk|hk
  ·exact wpAny_Name (wpAny_loadName_cell I.ok.kind hk hc hcell fin) hd
  ·exact wpAny_Name (wpAny_loadName_free I.ok.kind hk hc hcell fin hcd) hd
theorem z0 {i j pos}:PE X (.Constant (.int i) j pos) (tC (.int i)):=fun _ _ _ H _ I h=>wpAny_Constant_int ⟨.int i,H,I.tok _,⟨_,rfl⟩,h⟩
theorem xR {b j pos}:PE X (.Constant (.bool b) j pos) (tC (.bl b)):=fun _ _ _ H _ I h=>Constant_bool ⟨.bl b,H,I,rfl,h⟩
theorem jr {j pos}:PE X (.Constant .none j pos) (tC .non):=fun _ _ _ H _ I h=>Constant_none ⟨.non,H,I,rfl,h⟩
theorem zg {x j pos}:PE X (.Constant (.str x) j pos) (tC (.str x)):=fun _ _ _ H _ I h=>Calls.Constant_str ⟨.str x,H,I.tok _,⟨_,rfl⟩,h⟩
def Gl (X:Cx)(x:Str):Prop:=X.env.kindOf x=some .globalImplicit
theorem Wm {E:Value->Shared->Prop}{pins:List (Addr×Obj)}{s:Shared}{Z:St}{H:Hp}{x:Str}{u:Value}{pos:Pos}{Q:Value->Shared->Prop}(I:Inv X pins Z H s)(hg:Gl X x)(hm:X.mg x=some u)(h:Q u s)(hd:(x==("__debug__":Str))=false:=by decide):wpAny (model X.prog X.w) X.A (eval (.Name x pos) X.env) Q E s :=
 Calls.Name_function_global I.ok.kind hg (Calls.loadGlobal_global (by rw [I.ok.glob];exact I.mod.glob.keeps I.bk) hm h) hd
theorem jG {E:Value->Shared->Prop}{pins:List (Addr×Obj)}{s:Shared}{Z:St}{H:Hp}{x:Str}{u:Value}{pos:Pos}{Q:Value->Shared->Prop}(I:Inv X pins Z H s)(hg:Gl X x)(hm:X.mg x=none)(hv:bootBuiltins x=some u)(h:Q u s)(hn:x ≠ "__name__":=by decide)(hd:(x==("__debug__":Str))=false:=by decide):wpAny (model X.prog X.w) X.A (eval (.Name x pos) X.env) Q E s:=by obtain ⟨mb,h1,h2⟩:=I.mod.blt;exact Calls.Name_function_global I.ok.kind hg (Calls.loadGlobal_builtin (by rw [I.ok.glob];exact I.mod.glob.keeps I.bk) hm (by rw [I.ok.blt];exact h1.keeps I.bk) ((h2 x hn).trans hv) h) hd
theorem ZW {x:Str}{v:V}{u:Value}{pos:Pos}(hg:Gl X x)(hm:X.mg x=some u)(r:RelV v u)(hd:(x==("__debug__":Str))=false:=by decide):PE X (.Name x pos) (tC v) :=
 fun _ _ _ H _ I h=>Wm I hg hm ⟨v,H,I,r,h⟩ hd
theorem zU {x:Str}{v:V}{u:Value}{pos:Pos}(hg:Gl X x)(hm:X.mg x=none)(hv:bootBuiltins x=some u)(r:RelV v u)(hn:x ≠ "__name__":=by decide)(hd:(x==("__debug__":Str))=false:=by decide):PE X (.Name x pos) (tC v) :=
 fun _ _ _ H _ I h=>jG I hg hm hv ⟨v,H,I,r,h⟩ hn hd
variable {a b:Expr}{ta tb:TE}{pos:Pos}
def PC (X:Cx)(op:CmpOp)(a b:Expr)(t:TE):Prop :=
 ∀(pins:List (Addr×Obj))(s:Shared)(Z:St)(H:Hp)(Q:VK),Inv X pins Z H s->t Z H Q ->
  wpAny (model X.prog X.w) X.A (eval a X.env) (fun v s₁=>wpAny (model X.prog X.w) X.A (eval b X.env) (fun u s₂=>wpAny (model X.prog X.w) X.A (compareOp op v u) (EP X pins Z Q) X.xe s₂) X.xe s₁) X.xe s
def tB (t:TE):TT:=fun Z H Q=>t Z H fun x H1=>∃ c,x = .bl c/\Q c H1
theorem HJ {op:CmpOp}{t:TE}(h:PC X op a b t)(h1:behindInMarks op b=false:=by first|exact nobehind _ (by decide) (by decide)|rfl):PT X (.Compare a [op] [b] pos) (tB t):=by intro pins s Z H Q I hw;refine wpAny_isTrue_Compare1 (j6 (h pins s Z H _ I hw) fun v s1 h1=>j6 h1 fun u s2 h2=>j6 h2 fun c s3 ⟨x,H1,I1,r1,q1⟩=>?_) h1;obtain ⟨d,rfl,q⟩:=q1;cases r1;exact wpAny_truthy_bool ⟨H1,I1,q⟩
variable {tA tB':TT}{rest:List Expr}
def tAnd (t u:TT):TT:=fun Z H Q=>t Z H fun c H1=>if c=true then u Z H1 Q else Q false H1
def tOr (t u:TT):TT:=fun Z H Q=>t Z H fun c H1=>if c=true then Q true H1 else u Z H1 Q
def tNot (t:TT):TT:=fun Z H Q=>t Z H fun c H1=>Q (!c) H1
theorem WZ (ha:PT X a tA):PW X (.BoolOp .And [a] pos) tA:=by
 intro wh pins s Z H Q I h;refine isTrue_and (j6 (ha pins s Z H Q I h) fun c s1 e=>?_);cases c with
 |true=>exact isTrue_and_nil e
 |false=>exact e
theorem jR (ha:PT X a tA):PW X (.BoolOp .Or [a] pos) tA:=by
 intro wh pins s Z H Q I h;refine isTrue_or (j6 (ha pins s Z H Q I h) fun c s1 e=>?_);cases c with
 |false=>exact isTrue_or_nil e
 |true=>exact e
theorem WY (ha:PT X a tA)(hb:PW X (.BoolOp .And (b::rest) pos) tB'):PW X (.BoolOp .And (a::b::rest) pos) (tAnd tA tB'):=by
 intro wh pins s Z H Q I h;refine isTrue_and (j6 (ha pins s Z H _ I h) fun c s1 ⟨H1,I1,q1⟩=>?_);cases c with
 |true=>exact hb wh pins s1 Z H1 Q I1 q1
 |false=>exact ⟨H1,I1,q1⟩
theorem zE (ha:PT X a tA)(hb:PW X (.BoolOp .Or (b::rest) pos) tB'):PW X (.BoolOp .Or (a::b::rest) pos) (tOr tA tB'):=by
 intro wh pins s Z H Q I h;refine isTrue_or (j6 (ha pins s Z H _ I h) fun c s1 ⟨H1,I1,q1⟩=>?_);cases c with
 |true=>exact ⟨H1,I1,q1⟩
 |false=>exact hb wh pins s1 Z H1 Q I1 q1
theorem qY (ha:PT X a tA):PT X (.UnaryOp .Not a pos) (tNot tA):=by intro pins s Z H Q I h;exact isTrue_not (ha pins s Z H (fun c H1=>Q (!c) H1) I h)
def BW (ta tb:TE):TE:=fun Z H Q=>ta Z H fun x H1=>∃ c,x = .bl c/\if c=true then tb Z H1 Q else Q (.bl false) H1
def Pc (ta:TE):TE:=fun Z H Q=>ta Z H fun x H1=>∃ c,x = .bl c/\Q (.bl (!c)) H1
theorem Qs {op}{t:TE}(h:PE X a t):PE X (.BoolOp op [a] pos) t:=fun pins s Z H Q I hw=>BoolOp_one (h pins s Z H Q I hw)
theorem vV (ha:PE X a ta)(hb:PE X (.BoolOp .And (b::rest) pos) tb):PE X (.BoolOp .And (a::b::rest) pos) (BW ta tb):=by
 intro pins s Z H Q I h;refine BoolOp_and (j6 (ha pins s Z H _ I h) fun v s1 ⟨x,H1,I1,r1,q1⟩=>?_);obtain ⟨c,rfl,q1⟩:=q1;cases r1;refine wpAny_truthy_bool ?_;cases c with
 |true=>exact hb pins s1 Z H1 Q I1 q1
 |false=>exact ⟨.bl false,H1,I1,rfl,q1⟩
theorem KN (ha:PE X a ta):PE X (.UnaryOp .Not a pos) (Pc ta):=by intro pins s Z H Q I h;refine UnaryOp_ (j6 (ha pins s Z H _ I h) fun v s1 ⟨x,H1,I1,r1,q1⟩=>?_);obtain ⟨c,rfl,q1⟩:=q1;cases r1;exact not_of (wpAny_truthy_bool ⟨.bl (!c),H1,I1,rfl,q1⟩)
def tIf (t:TT)(ta tb:TE):TE:=fun Z H Q=>t Z H fun c H1=>if c=true then ta Z H1 Q else tb Z H1 Q
theorem KL {c:Expr}(hc:PT X c tA)(ha:PE X a ta)(hb:PE X b tb):PE X (.IfExp c a b pos) (tIf tA ta tb):=by
 intro pins s Z H Q I h;refine wpAny_IfExp (j6 (hc pins s Z H _ I h) fun d s1 ⟨H1,I1,q1⟩=>?_);cases d with
 |true=>exact ha pins s1 Z H1 Q I1 q1
 |false=>exact hb pins s1 Z H1 Q I1 q1
end
end L2
namespace L2
open PySem PySem.Spec PyProof.Rows
def SqL (K:Fg)(H:Hp)(a:Addr)(xs:List V):Prop :=
 Rd H a (.lst xs) ∨
  ∃ (o:Obj) (its:Array Value) (n:Nat),K.lookup a=some o/\o.cls = .type "list"/\o.dict=none/\o.data = .seq its n/\its.size<=sizeLine/\Vals xs its.toList
def SqT (K:Fg)(H:Hp)(a:Addr)(xs:List V):Prop :=
 Rd H a (.tup xs) ∨
  ∃ (o:Obj) (its:Array Value) (n:Nat),K.lookup a=some o/\o.cls = .type "tuple"/\o.data = .seq its n/\its.size<=sizeLine/\Vals xs its.toList
def absV:Value->Option V
 | .none=>some .non
 | .bool b=>some (.bl b)
 | .int i _=>some (.int i)
 | .str x _=>some (.str x)
 | .bytes b _=>some (.byt b)
 | .float b _=>some (.flt b)
 | .ref a=>some (.ref a)
 | .type n=>some (.ty n)
 |_=>none
theorem RelV.abs {x:V}{u:Value}(r:RelV x u):absV u=some x:=by
 cases x with
 |non=>cases r;rfl
 |bl _=>cases r;rfl
 |int _=>obtain ⟨t,rfl⟩:=r;rfl
 |str _=>obtain ⟨t,rfl⟩:=r;rfl
 |byt _=>obtain ⟨t,rfl⟩:=r;rfl
 |flt _=>obtain ⟨t,rfl⟩:=r;rfl
 |ref _=>cases r;rfl
 |ty _=>cases r;rfl
theorem RelV.inj {x y:V}{u:Value}(r:RelV x u)(q:RelV y u):x=y:=Option.some.inj (r.abs.symm.trans q.abs)
theorem Vals.inj:∀{xs ys:List V}{us:List Value},Vals xs us->Vals ys us->xs=ys
 |_,_,_,.nil,.nil=>rfl
 |_,_,_,.cons r t,.cons r' t'=>by rw [r.inj r',Vals.inj t t']
section
variable {X:Cx}{pins:List (Addr×Obj)}{Z:St}{H:Hp}{s:Shared}{a:Addr}{xs ys:List V}
theorem SqL.of {K:Fg}(h:H a=some (.lst xs)):SqL K H a xs:= .inl (.inl h)
theorem SqT.of {K:Fg}(h:H a=some (.tup xs)):SqT K H a xs:= .inl (.inl h)
theorem Inv.list (I:Inv X pins Z H s)(h:SqL X.K H a xs):∃ its:List Value,Vals xs its/\PlainL s.heap a its.toArray/\xs.length<=sizeLine:=by
 rcases h with h|⟨o,its,n,hk,hc,hd,hs,hz,r⟩
 ·obtain ⟨z,its,n,r,e⟩:=h.ok I.hok;exact ⟨its,r,⟨_,n,e,rfl,rfl,rfl⟩,z⟩
 ·refine ⟨its.toList,r,⟨o,n,I.kIn a o hk,hc,hd,by simpa using hs⟩,?_⟩;have e:=r.length;simp only [Array.length_toList] at e;omega
theorem Inv.tuple (I:Inv X pins Z H s)(h:SqT X.K H a xs):∃ its:List Value,Vals xs its/\IsTup s.heap a its.toArray/\xs.length<=sizeLine:=by
 rcases h with h|⟨o,its,n,hk,hc,hs,hz,r⟩
 ·obtain ⟨z,its,r,p⟩:=h.ok I.hok;exact ⟨its,r,p,z⟩
 ·refine ⟨its.toList,r,⟨o,I.kIn a o hk,hc,n,by simpa using hs⟩,?_⟩;have e:=r.length;simp only [Array.length_toList] at e;omega
theorem Inv.list_inj (I:Inv X pins Z H s)(h:SqL X.K H a xs)(h':SqL X.K H a ys):xs=ys:=by
 obtain ⟨its,r,⟨o,n,e,_,_,d⟩,_⟩:=I.list h;obtain ⟨its',r',⟨o',n',e',_,_,d'⟩,_⟩:=I.list h';rw [e] at e';cases e';rw [d] at d';injection d' with d1 _;have:its=its':=by simpa using congrArg Array.toList d1
 subst this;exact r.inj r'
theorem Inv.tuple_inj (I:Inv X pins Z H s)(h:SqT X.K H a xs)(h':SqT X.K H a ys):xs=ys:=by
 obtain ⟨its,r,⟨o,e,_,n,d⟩,_⟩:=I.tuple h;obtain ⟨its',r',⟨o',e',_,n',d'⟩,_⟩:=I.tuple h';rw [e] at e';cases e';rw [d] at d';injection d' with d1 _;have:its=its':=by simpa using congrArg Array.toList d1
 subst this;exact r.inj r'
end
abbrev Cx.wish (X:Cx)(E:Value->Shared->Prop):Cx:={ X with xe:=E }
abbrev Cx.nox (X:Cx):Cx:=X.wish fun _ _=>False
theorem Cx.Ok.wish {X:Cx}(ok:X.Ok)(E:Value->Shared->Prop):(X.wish E).Ok :=
 ⟨ok.mod,ok.kind,ok.glob,ok.blt,ok.above,ok.inj,ok.has,ok.cab,ok.hd,ok.frames,ok.stk,ok.exf,ok.bs,ok.bsz,ok.noex,ok.exfs,ok.funs,ok.frf,ok.tbs⟩
theorem Cx.Ok.unwish {X:Cx}{E:Value->Shared->Prop}(ok:(X.wish E).Ok):X.Ok :=
 ⟨ok.mod,ok.kind,ok.glob,ok.blt,ok.above,ok.inj,ok.has,ok.cab,ok.hd,ok.frames,ok.stk,ok.exf,ok.bs,ok.bsz,ok.noex,ok.exfs,ok.funs,ok.frf,ok.tbs⟩
section
variable {X:Cx}{pins:List (Addr×Obj)}{Z:St}{H:Hp}{s:Shared}{E:Value->Shared->Prop}
theorem Inv.wish (I:Inv X pins Z H s)(E:Value->Shared->Prop):Inv (X.wish E) pins Z H s:=⟨I.ok.wish E,I.os,I.bare,I.base,I.loc,I.cell,I.free,I.freeC,I.pin,I.hok,I.len⟩
theorem Inv.unwish (I:Inv (X.wish E) pins Z H s):Inv X pins Z H s:=⟨I.ok.unwish,I.os,I.bare,I.base,I.loc,I.cell,I.free,I.freeC,I.pin,I.hok,I.len⟩
theorem SP.unwish {D:zu}{f:Flow}{s':Shared}(h:SP (X.wish E) pins D f s'):SP X pins D f s':=by
 cases f with
 |next=>obtain ⟨σ',H',I,q⟩:=h;exact ⟨σ',H',I.unwish,q⟩
 |brk=>obtain ⟨σ',H',I,q⟩:=h;exact ⟨σ',H',I.unwish,q⟩
 |cont=>obtain ⟨σ',H',I,q⟩:=h;exact ⟨σ',H',I.unwish,q⟩
 |ret u=>obtain ⟨v,σ',H',I,r,q⟩:=h;exact ⟨v,σ',H',I.unwish,r,q⟩
theorem PSs.nox {st:List Stmt}{t:TS}(h:PSs X.nox st t):PSs X st t:=fun pins s Z H D I hw =>
 wpAny_mono (h pins s Z H D (I.wish _) hw) (fun _ _ q=>q.unwish) fun _ _ z=>False.elim z
end
section
variable {X:Cx}{st:Stmt}{rest:List Stmt}{t u:TS}{e:Expr}{te:TE}{pos:Pos}
def Yp:TS:=fun D Z H=>D.nx Z H
def tSeq (t u:TS):TS:=fun D Z H=>t { D with nx:=u D } Z H
theorem o7:PSs X [] Yp:=fun _ _ Z H _ I h=>wpAny_execs_nil ⟨Z,H,I,h⟩
theorem j3 (h1:PS X st t)(h2:PSs X rest u):PSs X (st::rest) (tSeq t u):=by
 intro pins s Z H D I h;refine wpAny_execs_cons (j6 (h1 pins s Z H { D with nx:=u D } I h) fun f s1 q=>?_);cases f with
 |next=>obtain ⟨σ',H',I',q⟩:=q;exact h2 pins s1 σ' H' D I' q
 |ret v=>exact q
 |brk=>exact q
 |cont=>exact q
theorem j4 (h1:PS X st t):PSs X [st] t:=by
 intro pins s Z H D I h;refine wpAny_execs_cons (j6 (h1 pins s Z H D I h) fun f s1 q=>?_);cases f with
 |next=>exact wpAny_execs_nil q
 |ret v=>exact q
 |brk=>exact q
 |cont=>exact q
theorem Inv.quiet {pins:List (Addr×Obj)}{Z:St}{H:Hp}{s:Shared}(I:Inv X pins Z H s):interactive X.env=false:=by simp [interactive,I.ok.kind]
def vq (te:TE):TS:=fun D Z H=>te Z H fun _ H1=>D.nx Z H1
theorem jQ (he:PE X e te)(hs:swapsWith e none pos.line X.env=pure false:=by rfl):PS X (.Expr e pos) (vq te):=by intro pins s Z H D I h;exact wpAny_Expr_any (j6 (he pins s Z H _ I h) fun v s1 ⟨x,H1,I1,r1,q1⟩=>⟨Z,H1,I1,q1⟩) I.quiet hs
def vt (te:TE):TS:=fun D Z H=>te Z H D.rt
theorem y6 (he:PE X e te):PS X (.Return (some e) pos) (vt te):=by intro pins s Z H D I h;exact wpAny_Return_some (j6 (he pins s Z H _ I h) fun v s1 ⟨x,H1,I1,r1,q1⟩=>⟨x,Z,H1,I1,r1,q1⟩)
def tIfS (c:TT)(t u:TS):TS:=fun D Z H=>c Z H fun b H1=>if b=true then t D Z H1 else u D Z H1
theorem o6 {c:Expr}{a b:List Stmt}{tc:TT}(hc:PT X c tc)(ha:PSs X a t)(hb:PSs X b u):PS X (.If c a b pos) (tIfS tc t u):=by
 intro pins s Z H D I h;refine wpAny_If (j6 (hc pins s Z H _ I h) fun d s1 ⟨H1,I1,q1⟩=>?_);cases d with
 |true=>exact ha pins s1 Z H1 D I1 q1
 |false=>exact hb pins s1 Z H1 D I1 q1
def Pa:TS:=fun _ _ _=>False
theorem jt:PS X st Pa:=fun _ _ _ _ _ _ h=>h.elim
end
abbrev TG:=V->St->Hp->(St->Hp->Prop)->Prop
abbrev TGs:=List V->St->Hp->(St->Hp->Prop)->Prop
def PG (X:Cx)(target:Expr)(t:TG):Prop :=
 ∀(pins:List (Addr×Obj))(s:Shared)(Z:St)(H:Hp)(v:V)(u:Value)(Q:St->Hp->Prop),Inv X pins Z H s->RelV v u->t v Z H Q ->
  wpAny (model X.prog X.w) X.A (assign target X.env u) (fun _ s'=>∃ σ' H',Inv X pins σ' H' s'/\Q σ' H') X.xe s
def PGs (X:Cx)(ts:List Expr)(t:TGs):Prop :=
 ∀(pins:List (Addr×Obj))(s:Shared)(Z:St)(H:Hp)(vs:List V)(us:List Value)(Q:St->Hp->Prop),Inv X pins Z H s->Vals vs us->t vs Z H Q ->
  wpAny (model X.prog X.w) X.A (assignInOrder ((assignEach ts X.env).map (·.2)) us) (fun _ s'=>∃ σ' H',Inv X pins σ' H' s'/\Q σ' H') X.xe s
abbrev TSet:=V->V->V->Hp->(Hp->Prop)->Prop
def PSet (X:Cx)(t:TSet):Prop :=
 ∀(pins:List (Addr×Obj))(s:Shared)(Z:St)(H:Hp)(o i v:V)(ov iv u:Value)(Q:Hp->Prop),Inv X pins Z H s->RelV o ov->RelV i iv->RelV v u->t o i v H Q ->
  wpAny (model X.prog X.w) X.A (setItem ov iv u) (fun _ s'=>∃ H',Inv X pins Z H' s'/\Q H') X.xe s
section
variable {X:Cx}{pos:Pos}
def xt (i:Nat):TG:=fun v Z H Q=>Q (Z.set i (some v)) H
theorem u6 {i:Nat}{x:Str}(hN:X.N.Nodup)(hi:X.N[i]?=some x)(hx:Loc X.env.scope x)(hf:X.fn x=true∨X.env.scope.names.lookup x=some .local:=by first|exact .inl rfl|exact .inr rfl|assumption):PG X (.Name x pos) (xt i):=by intro pins s Z H v u Q I r h;exact wpAny_assign_Name (BS I hN hi hx r (fun s' I'=>⟨_,H,I',h⟩) hf)
def gNil:TGs:=fun vs Z H Q=>vs=[]/\Q Z H
def VZ (t:TG)(u:TGs):TGs:=fun vs Z H Q=>∃ v r,vs=v::r/\t v Z H fun σ' H'=>u r σ' H' Q
theorem jP:PGs X [] gNil:=by intro pins s Z H vs us Q I r h;obtain ⟨e,h⟩:=h;subst e;cases r;exact assignInOrder_nil ⟨Z,H,I,h⟩
theorem xC {e:Expr}{es:List Expr}{t:TG}{u:TGs}(h1:PG X e t)(h2:PGs X es u)(hs:(assignEach (e::es) X.env).map (·.2)=assign e X.env::(assignEach es X.env).map (·.2):=by rfl):PGs X (e::es) (VZ t u):=by
 intro pins s Z H vs us Q I r h;obtain ⟨v,vr,e1,h⟩:=h;subst e1;cases r with
 |cons r rr=>rw [hs];refine assignInOrder_cons (j6 (h1 pins s Z H _ _ _ I r h) fun _ s1 ⟨σ1,H1,I1,q1⟩=>?_);exact h2 pins s1 σ1 H1 _ _ Q I1 rr q1
def gTup (K:Fg)(n:Nat)(t:TGs):TG:=fun v Z H Q=>∃ a xs,v = .ref a/\SqT K H a xs/\xs.length=n/\t xs Z H Q
theorem Hq {es:List Expr}{k:Nat}{t:TGs}{n:Nat}(hc:X.calm=true)(h:PGs X es t)(hn:(assignEach es X.env).length=n:=by rfl)(hst:(assignEach es X.env).findIdx? (·.1)=none:=by rfl):PG X (.Tuple es k pos) (gTup X.K n t):=by intro pins s Z H v u Q I r hw;obtain ⟨a,xs,e1,hq,hl,hw⟩:=hw;subst e1;cases r;obtain ⟨its,rv,ht,hz⟩:=I.tuple hq;refine assign_Tuple_tuple (I.ok.hd hc) ht (by simp [hn,<- hl,rv.length]) hst fun h' hx=>?_;have I1:Inv X pins Z H { s with heap:=h' }:=I.kept (t':=s.toks) fun b o e=>hx b o (Nat.ne_of_lt (Heap.lt_size e)) e;exact h pins _ Z H xs _ Q I1 (by simpa using rv) hw
def gSub (to ti:TE)(t:TSet):TG:=fun v Z H Q=>to Z H fun o H1=>ti Z H1 fun i H2=>t o i v H2 fun H3=>Q Z H3
theorem KQ {o i:Expr}{to ti:TE}{t:TSet}(ho:PE X o to)(hi:PE X i ti)(hs:PSet X t)
  (ha:∀ v,assign (.Subscript o i pos) X.env v=(do
   let ov <- holding [v] (eval o X.env)
   let iv <- holding [v,ov] (eval i X.env)
   standAt pos
   holding [v,ov,iv] (setItem ov iv v)
   release [v,ov,iv] []):=by intro _;rfl):PG X (.Subscript o i pos) (gSub to ti t):=by
 intro pins s Z H v u Q I r h;rw [ha];refine wpAny_bind (wpAny_holding (j6 (ho pins s Z H _ I h) fun ov s1 ⟨x,H1,I1,r1,q1⟩=>?_));refine wpAny_bind (wpAny_holding (j6 (hi pins s1 Z H1 _ I1 q1) fun iv s2 ⟨y,H2,I2,r2,q2⟩=>?_));refine wpAny_bind (wpAny_standAt (wpAny_bind (wpAny_holding (j6 (hs pins s2 Z H2 x y v ov iv u _ I2 r1 r2 r q2) fun _ s3 ⟨H3,I3,q3⟩=>?_))));exact wpAny_release ⟨Z,H3,I3,q3⟩
def zX (te:TE)(g:TG):TS:=fun D Z H=>te Z H fun x H1=>g x Z H1 D.nx
theorem WX {tg e:Expr}{te:TE}{g:TG}(he:PE X e te)(hg:PG X tg g)(hs:swapsWithSole [tg] e pos.line X.env=pure false:=by rfl)(hw:swappedStores [tg] e X.env=pure none:=by rfl)(h1:(assignEach [tg] X.env).map (·.2)=[assign tg X.env]:=by rfl):PS X (.Assign [tg] e pos) (zX te g):=by intro pins s Z H D I h;refine wpAny_Assign_stores (j6 (he pins s Z H _ I h) fun v s1 ⟨x,H1,I1,r1,q1⟩=>?_) hs hw;rw [h1];exact j6 (hg pins s1 Z H1 x v _ I1 r1 q1) fun _ s2 q=>q
theorem qQ {i:Nat}{x:Str}{e:Expr}{te:TE}{pos':Pos}(hN:X.N.Nodup)(hi:X.N[i]?=some x)(hx:Loc X.env.scope x)(he:PE X e te)(hs:swapsWith e (some (.Name x pos')) pos.line X.env=pure false:=by rfl)(hf:X.fn x=true∨X.env.scope.names.lookup x=some .local:=by first|exact .inl rfl|exact .inr rfl|assumption):PS X (.Assign [.Name x pos'] e pos) (zX te (xt i)):=by intro pins s Z H D I h;refine wpAny_Assign_Name (j6 (he pins s Z H _ I h) fun v s1 ⟨y,H1,I1,r1,q1⟩=>?_) hs;exact BS I1 hN hi hx r1 (fun s2 I2=>⟨_,H1,I2,q1⟩) hf
end
section
variable {X:Cx}{pos:Pos}
def Pf (c:TT)(tb:TS):TS:=fun D Z H=>∃ W:Nat->St->Hp->Prop,(∃ m,W m Z H)/\∀ m Z H,W m Z H ->
 c Z H fun b H1=>if b=true then ∃ N:St->Hp->Prop,(∀ σ' H',N σ' H'->∃ m',m'<m/\W m' σ' H')/\tb { D with nx:=N,ct:=N,bk:=D.nx } Z H1 else D.nx Z H1
theorem HI {c:Expr}{body:List Stmt}{tc:TT}{tb:TS}(hp:PassesOwn (model X.prog X.w) X.A X.env X.xe)(hc:PT X c tc)(hb:PSs X body tb):PS X (.While c body [] pos) (Pf tc tb):=by
 intro pins s Z H D I h;obtain ⟨W,⟨m0,w0⟩,turn⟩:=h;refine wpAny_While (codeAny_whileLoop (fun n s'=>∃ σ' H',Inv X pins σ' H' s'/\W n σ' H') ?_ m0 ⟨Z,H,I,w0⟩);rintro n s1 ⟨σ1,H1,I1,w1⟩;refine wpAny_passesOwn hp (j6 (hc pins s1 σ1 H1 _ I1 (turn n σ1 H1 w1)) fun b s2 ⟨H2,I2,q2⟩=>?_);cases b with
 |true =>
  obtain ⟨N,hN,q2⟩:=q2;rw [if_pos rfl];refine wpAny_passesOwn hp (j6 (hb pins s2 σ1 H2 _ I2 q2) fun f s3 q3=>?_);cases f with
  |next=>obtain ⟨σ3,H3,I3,n3⟩:=q3;obtain ⟨m',hm,w3⟩:=hN σ3 H3 n3;exact ⟨m',hm,σ3,H3,I3,w3⟩
  |cont=>obtain ⟨σ3,H3,I3,n3⟩:=q3;obtain ⟨m',hm,w3⟩:=hN σ3 H3 n3;exact ⟨m',hm,σ3,H3,I3,w3⟩
  |brk=>exact q3
  |ret v=>exact q3
 |false=>rw [if_neg Bool.false_ne_true];exact wpAny_execs_nil ⟨σ1,H2,I2,q2⟩
end
structure It where
 go:Nat->Hp->Prop
 yld:Nat->Hp->V->Hp->Prop
 stop:Nat->Hp->Prop
def xN (X:Cx)(pins:List (Addr×Obj))(H:Hp)(b:Addr):Prop :=
 H b=none/\b≠X.env.locals/\b∉X.fs/\(b∈X.ex∨X.s₀.heap.objs.size<=b)/\(∀ x c,X.env.cells.lookup x=some c->c≠b)/\∀ p∈X.pn++pins,p.1≠b
theorem Inv.fpOk {X:Cx}{pins:List (Addr×Obj)}{Z:St}{H H':Hp}{s:Shared}{b:Addr}(I:Inv X pins Z H s)(hb:s.heap.objs.size<=b)(hn:H' b=none):xN X pins H' b:=by
 refine ⟨hn,Nat.ne_of_gt (Nat.lt_of_lt_of_le I.lt hb),I.nofs hb,.inr (Nat.le_trans I.sz hb),fun x c e z=>?_,fun p hp z=>?_⟩
 ·obtain ⟨v,q⟩:=I.cell x c e;exact absurd (Nat.lt_of_lt_of_le q.lt (by rw [z];exact hb)) (Nat.lt_irrefl _)
 ·exact absurd (Nat.lt_of_lt_of_le (Heap.lt_size (I.pin p hp).1) (by rw [z];exact hb)) (Nat.lt_irrefl _)
structure Turn (P:Program)(w:World)(K:Fg)(tg:Expr)(J:It)(fp:List Addr)(it:Addr)(tn:Nat->Heap->Prop):Prop where
 mem:it∈fp
 obj:∀ i h,tn i h->∀ b∈fp,∃ o,h.get? b=some o/\∀ v,o.data ≠ .cell v
 keep:∀ i h h',tn i h->(∀ b∈fp,∀ o,h.get? b=some o->h'.get? b=some o)->tn i h'
 item:∀(X:Cx),X.prog=P->X.w=w->X.K=K->X.calm=true->∀(i:Nat)(pins:List (Addr×Obj))(s:Shared)(Z:St)(H:Hp)(E:Value->Shared->Prop),Inv X pins Z H s->(∀ b∈fp,xN X pins H b)->tn i s.heap->J.go i H ->
  wpAny (model P w) X.A (pyNext (.ref it)) (fun r s1=>∃ u,r=some u /\
   wpAny (model P w) X.A (letOwnedTupleGo tg (.ref it) u) (fun _ s2=>∃ x H',Inv X pins Z H' s2/\RelV x u/\J.yld i H x H'/\tn (i+1) s2.heap/\∀ b∈fp,H' b=none) E s1) E s
 done:∀(X:Cx),X.prog=P->X.w=w->X.K=K->X.calm=true->∀(i:Nat)(pins:List (Addr×Obj))(s:Shared)(Z:St)(H:Hp)(E:Value->Shared->Prop),Inv X pins Z H s->(∀ b∈fp,xN X pins H b)->tn i s.heap->J.stop i H ->
  wpAny (model P w) X.A (pyNext (.ref it)) (fun r s1=>r=none/\Inv X pins Z H s1) E s
 self:∀(A:Around)(i:Nat)(s:Shared)(Q:Value->Shared->Prop)(E:Value->Shared->Prop),tn i s.heap->Q (.ref it) s->wpAny (model P w) A (pyIter (.ref it)) Q E s
abbrev TI:=St->Hp->(It->Hp->Prop)->Prop
def PIE (X:Cx)(pins:List (Addr×Obj))(Z:St)(tg:Expr)(R:It->Hp->Prop)(itv:Value)(s2:Shared):Prop :=
 ∃(it:Addr)(fp:List Addr)(tn:Nat->Heap->Prop)(J:It)(H':Hp),itv = .ref it/\Inv X pins Z H' s2/\Turn X.prog X.w X.K tg J fp it tn/\tn 0 s2.heap/\(∀ b∈fp,xN X pins H' b)/\R J H'
def PI (X:Cx)(tg iter:Expr)(wi:TI):Prop :=
 ∀(pins:List (Addr×Obj))(s:Shared)(Z:St)(H:Hp)(R:It->Hp->Prop),Inv X pins Z H s->wi Z H R ->
  wpAny (model X.prog X.w) X.A (eval iter X.env) (fun v s1=>wpAny (model X.prog X.w) X.A (pyIter v) (PIE X pins Z tg R) X.xe s1) X.xe s
theorem QT {M:Model}{A:Around}{E:Value->Shared->Prop}{s:Shared}{tg:Expr}{it:Addr}{u:Value}{o:Obj}{n:String}{vs:Array Value}{Q:Unit->Shared->Prop}(ho:s.heap.get? it=some o)(hc:o.cls = .type n)(hd:o.data = .fields vs)(hn:["enumerate", "zip", "dict_itemiterator", "dict_reverseitemiterator", "odict_iterator", "itertools.zip_longest", "itertools.pairwise"].contains n=false)(hQ:Q () s):wpAny M A (letOwnedTupleGo tg (.ref it) u) Q E s:=by
  unfold letOwnedTupleGo;cases tg<;>first
    |exact wpAny_pure hQ
    | (cases u <;> first
        |exact wpAny_pure hQ
        | (refine wpAny_bind (wpAny_load ho ?_)
           rw [hc,hd];show wpAny M A (if (["enumerate", "zip", "dict_itemiterator", "dict_reverseitemiterator", "odict_iterator", "itertools.zip_longest", "itertools.pairwise"].contains n&&vs[0]?==some (rawInt _))=true then _ else _) Q E s;rw [if_neg (by intro h;rw [hn,Bool.false_and] at h;cases h)];exact wpAny_pure hQ))
def Itl (K:Fg)(a:Addr):It :=
 ⟨fun i H=>∃ xs x,SqL K H a xs/\xs[i]?=some x,fun i H x H'=>H'=H/\∀ xs,SqL K H a xs->xs[i]?=some x,fun i H=>∃ xs,SqL K H a xs/\xs.length<=i⟩
def Itt (K:Fg)(a:Addr):It :=
 ⟨fun i H=>∃ xs x,SqT K H a xs/\xs[i]?=some x,fun i H x H'=>H'=H/\∀ xs,SqT K H a xs->xs[i]?=some x,fun i H=>∃ xs,SqT K H a xs/\xs.length<=i⟩
def Itr (lo:Int)(n:Nat):It:=⟨fun i _=>i<n,fun i H x H'=>H'=H/\x = .int (lo+i),fun i _=>n<=i⟩
theorem Tz {P:Program}{w:World}{K:Fg}{tg:Expr}(a it:Addr):Turn P w K tg (Itl K a) [it] it (fun i h=>h.IsListIter it a i) where
 mem:=by simp
 obj:=fun i h st b hb=>by
  have e:b=it:=by simpa using hb
  subst e;obtain ⟨o,e,c,d⟩:=st;exact ⟨o,e,fun v z=>by rw [d] at z;cases z⟩
 keep:=fun i h h' st k=>st.at fun o e=>k it (by simp) o e
 item:=by intro X hP hw hK hc i pins s Z H E I hf st hg;subst hP hw hK;obtain ⟨xs,x,hq,hx⟩:=hg;obtain ⟨its,rv,p,hz⟩:=I.list hq;obtain ⟨u,hu,ru⟩:=rv.get hx;obtain ⟨f0,f1,f2,f3,f4,f5⟩:=hf it (by simp);refine wpAny_pyNext_list_item st p.isList (x:=u) (by simpa using hu) fun h' st' sb=>?_;have I1:Inv X pins Z H { s with heap:=h' }:=I.turned (t':=s.toks) (fun b o hb e=>(sb.2 b hb).trans e) f0 f1 f3 f4 f5;obtain ⟨o,e,c,d⟩:=id st';exact ⟨u,rfl,QT (s:={ s with heap:=h' }) e c d (by decide) ⟨x,H,I1,ru,⟨rfl,fun ys hy=>by rw [I.list_inj hy hq];exact hx⟩,st',fun b hb=>(hf b hb).1⟩⟩
 done:=by intro X hP hw hK hc i pins s Z H E I hf st hg;subst hP hw hK;obtain ⟨xs,hq,hx⟩:=hg;obtain ⟨its,rv,p,hz⟩:=I.list hq;obtain ⟨f0,f1,f2,f3,f4,f5⟩:=hf it (by simp);have hl:=rv.length;exact wpAny_pyNext_list_end (I.ok.hd hc) st p.isList (by simp;omega) fun h' eb=>⟨rfl,I.turned (t':=s.toks) (fun b o hb e=>eb b o hb e) f0 f1 f3 f4 f5⟩
 self:=fun _ _ _ _ _ st h=>wpAny_pyIter_listiter st h
theorem TF {P:Program}{w:World}{K:Fg}{tg:Expr}(a it:Addr):Turn P w K tg (Itt K a) [it] it (fun i h=>h.IsTupleIter it a i) where
 mem:=by simp
 obj:=fun i h st b hb=>by
  have e:b=it:=by simpa using hb
  subst e;obtain ⟨o,e,c,d⟩:=st;exact ⟨o,e,fun v z=>by rw [d] at z;cases z⟩
 keep:=fun i h h' st k=>st.at fun o e=>k it (by simp) o e
 item:=by intro X hP hw hK hc i pins s Z H E I hf st hg;subst hP hw hK;obtain ⟨xs,x,hq,hx⟩:=hg;obtain ⟨its,rv,p,hz⟩:=I.tuple hq;obtain ⟨u,hu,ru⟩:=rv.get hx;obtain ⟨f0,f1,f2,f3,f4,f5⟩:=hf it (by simp);refine wpAny_pyNext_tuple_item st (show s.heap.IsTuple a its.toArray from p) (x:=u) (by simpa using hu) fun h' st' sb=>?_;have I1:Inv X pins Z H { s with heap:=h' }:=I.turned (t':=s.toks) (fun b o hb e=>(sb.2 b hb).trans e) f0 f1 f3 f4 f5;obtain ⟨o,e,c,d⟩:=id st';exact ⟨u,rfl,QT (s:={ s with heap:=h' }) e c d (by decide) ⟨x,H,I1,ru,⟨rfl,fun ys hy=>by rw [I.tuple_inj hy hq];exact hx⟩,st',fun b hb=>(hf b hb).1⟩⟩
 done:=by intro X hP hw hK hc i pins s Z H E I hf st hg;subst hP hw hK;obtain ⟨xs,hq,hx⟩:=hg;obtain ⟨its,rv,p,hz⟩:=I.tuple hq;obtain ⟨f0,f1,f2,f3,f4,f5⟩:=hf it (by simp);have hl:=rv.length;exact wpAny_pyNext_tuple_end (I.ok.hd hc) st (show s.heap.IsTuple a its.toArray from p) (by simp;omega) fun h' eb=>⟨rfl,I.turned (t':=s.toks) (fun b o hb e=>eb b o hb e) f0 f1 f3 f4 f5⟩
 self:=fun _ _ _ _ _ st h=>wpAny_pyIter_tupleiter st h
theorem TC {P:Program}{w:World}{K:Fg}{tg:Expr}(it:Addr)(lo:Int)(n:Nat):Turn P w K tg (Itr lo n) [it] it (fun i h=>IsRangeIter h it (lo+(i:Nat)*1) ((n:Int)-(i:Nat)) 1) where
 mem:=by simp
 obj:=fun i h st b hb=>by
  have e:b=it:=by simpa using hb
  subst e;exact ⟨_,st,fun v z=>by
   have z':Data.fields _=Data.cell v:=z;cases z'⟩
 keep:=fun i h h' st k=>k it (by simp) _ st
 item:=by intro X hP hw hK hc i pins s Z H E I hf st hg;subst hP hw hK;obtain ⟨f0,f1,f2,f3,f4,f5⟩:=hf it (by simp);have W:=Walks.range (prog:=X.prog) (w:=X.w) (I.ok.hd hc) it lo 1 n;refine W.item i s _ _ hg st fun v h' tk hv st' kk=>?_;obtain ⟨t,rfl⟩:=hv;have I1:Inv X pins Z H { s with heap:=h',toks:=tk }:=I.turned (fun b o hb e=>kk b o (by simpa using hb) e) f0 f1 f3 f4 f5;refine ⟨_,rfl,QT (s:={ s with heap:=h',toks:=tk }) (n := "range_iterator") st' rfl rfl (by decide) ⟨.int (lo+i),H,I1,⟨t,?_⟩,⟨rfl,rfl⟩,st',fun b hb=>(hf b hb).1⟩⟩;rw [Int.mul_one]
 done:=by intro X hP hw hK hc i pins s Z H E I hf st hg;subst hP hw hK;obtain ⟨f0,f1,f2,f3,f4,f5⟩:=hf it (by simp);exact wpAny_pyNext_range_end (I.ok.hd hc) st (by have:n<=i:=hg;omega) fun h' eb=>⟨rfl,I.turned (t':=s.toks) (fun b o hb e=>eb b o hb e) f0 f1 f3 f4 f5⟩
 self:=fun _ _ _ _ _ st h=>wpAny_pyIter_rangeiter st h
end L2
namespace L2
open PySem PySem.Spec PyProof.Rows
section
variable {X:Cx}{tg:Expr}
def Wd (K:Fg)(tl:TE):TI:=fun Z H R=>tl Z H fun x H1=>∃ a,x = .ref a/\(∃ xs,SqL K H1 a xs)/\R (Itl K a) H1
def iTup (K:Fg)(tl:TE):TI:=fun Z H R=>tl Z H fun x H1=>∃ a,x = .ref a/\(∃ xs,SqT K H1 a xs)/\R (Itt K a) H1
theorem Ht {l:Expr}{tl:TE}(hl:PE X l tl):PI X tg l (Wd X.K tl):=by
 intro pins s Z H R I h;refine j6 (hl pins s Z H _ I h) fun v s1 ⟨x,H1,I1,r1,q1⟩=>?_;obtain ⟨a,e,⟨xs,hq⟩,q⟩:=q1;subst e;cases r1;obtain ⟨its,rv,p,hz⟩:=I1.list hq;refine wpAny_pyIter_list p.isList ?_;refine ⟨s1.heap.objs.size,[s1.heap.objs.size],_,_,H1,rfl,I1.kept (t':=s1.toks) fun b o e=>Heap.get?_push_of_some _ e,Tz a _,⟨_,Heap.get?_push_size _ rfl,rfl,rfl⟩,fun b hb=>?_,q⟩;have e:b=s1.heap.objs.size:=by simpa using hb
 subst e;exact I1.fpOk (Nat.le_refl _) (I1.hok.fresh (Nat.le_refl _))
theorem Hw {l:Expr}{tl:TE}(hl:PE X l tl):PI X tg l (iTup X.K tl):=by
 intro pins s Z H R I h;refine j6 (hl pins s Z H _ I h) fun v s1 ⟨x,H1,I1,r1,q1⟩=>?_;obtain ⟨a,e,⟨xs,hq⟩,q⟩:=q1;subst e;cases r1;obtain ⟨its,rv,p,hz⟩:=I1.tuple hq;refine wpAny_pyIter_tuple (show s1.heap.IsTuple a its.toArray from p) ?_;refine ⟨s1.heap.objs.size,[s1.heap.objs.size],_,_,H1,rfl,I1.kept (t':=s1.toks) fun b o e=>Heap.get?_push_of_some _ e,TF a _,⟨_,Heap.get?_push_size _ rfl,rfl,rfl⟩,fun b hb=>?_,q⟩;have e:b=s1.heap.objs.size:=by simpa using hb
 subst e;exact I1.fpOk (Nat.le_refl _) (I1.hok.fresh (Nat.le_refl _))
theorem HN {pins:List (Addr×Obj)}{Z:St}{H:Hp}{s:Shared}{R:It->Hp->Prop}{E:Value->Shared->Prop}{lo hi:Int}{t u v:Tok}{tk:Nat}(I:Inv X pins Z H s)(h1:-(2 ^ 62)<=lo)(h2:lo<2 ^ 62)(h3:-(2 ^ 62)<=hi)(h4:hi<2 ^ 62)(q:R (Itr lo (hi-lo).toNat) H):wpAny (model X.prog X.w) X.A (pyIter (.ref s.heap.objs.size)) (PIE X pins Z tg R) E { s with heap:=s.heap.push { cls:= .type "range",data:= .fields #[.int lo t,.int hi u,.int 1 v] },toks:=tk }:=by
 refine wpAny_pyIter_range (IsRange.new ..) (small_one h1 h2 h3 h4) ?_;have I1:Inv X pins Z H { s with heap:=s.heap.push { cls:= .type "range",data:= .fields #[.int lo t,.int hi u,.int 1 v] },toks:=tk }:=I.kept fun b o e=>Heap.get?_push_of_some _ e;refine ⟨(s.heap.push { cls:= .type "range",data:= .fields #[.int lo t,.int hi u,.int 1 v] }).objs.size,[(s.heap.push { cls:= .type "range",data:= .fields #[.int lo t,.int hi u,.int 1 v] }).objs.size],_,_,H,rfl,
  I1.kept (t':=tk) fun b o e=>Heap.get?_push_of_some _ e,TC _ lo (hi-lo).toNat,?_,fun b hb=>?_,q⟩
 ·have e1:lo+((0:Nat):Int)*1=lo:=by simp
  have e2:(((hi-lo).toNat:Nat):Int)-((0:Nat):Int)=Builtin.Range.rangeSize lo hi 1:=by rw [rangeSize_one];split<;>omega
  show IsRangeIter _ _ (lo+((0:Nat):Int)*1) ((((hi-lo).toNat:Nat):Int)-((0:Nat):Int)) 1;rw [e1,e2];exact Heap.get?_push_size _ rfl
 ·have e:b=(s.heap.push { cls:= .type "range",data:= .fields #[.int lo t,.int hi u,.int 1 v] }).objs.size:=by simpa using hb
  subst e;exact I1.fpOk (Nat.le_refl _) (I1.hok.fresh (Nat.le_refl _))
def wW (ta:TA):TI:=fun Z H R=>ta Z H fun vs H1=>∃ j:Int,vs=[.int j]/\-(2 ^ 62)<=j/\j<2 ^ 62/\R (Itr 0 j.toNat) H1
theorem zo {a:Expr}{ta:TA}{p pos:Pos}(hg:Gl X "range")(hm:X.mg "range"=none)(ha:PA X [a] ta)(hs:starEach [a] X.env=[(false,eval a X.env)]:=by rfl):PI X tg (.Call (.Name "range" p) [a] [] pos) (wW ta):=by
 intro pins s Z H R I h;refine Call_ (jG I hg hm boot_range (PyProof.Rows.callWith_type1 (j6 (ha pos pins s Z H _ I h) fun us s1 ⟨vs,H1,I1,r1,q1⟩=>?_) hs rfl));obtain ⟨j,e,q1,q2,q⟩:=q1;subst e;cases r1 with
 |cons r rr=>cases rr;obtain ⟨t,rfl⟩:=r;exact call_range_1 (HN I1 (by omega) (by omega) q1 q2 (by simpa using q))
def tFor (wi:TI)(g:TG)(tb:TS):TS:=fun D Z H=>wi Z H fun J H1=>∃ W:Nat->Nat->St->Hp->Prop,(∃ m,W 0 m Z H1)/\∀ i m Z H,W i m Z H ->
 (J.stop i H/\D.nx Z H)∨(J.go i H/\∃ N:St->Hp->Prop,(∀ σ' H',N σ' H'->∃ m',m'<m/\W (i+1) m' σ' H')/\∀ x H',J.yld i H x H'->g x Z H' fun σ2 H2=>tb { D with nx:=N,ct:=N,bk:=D.nx } σ2 H2)
def Xr (fp:List Addr)(h:Heap):List (Addr×Obj):=fp.filterMap fun b=>(h.get? b).map fun o=>(b,o)
theorem ZO {fp:List Addr}{h:Heap}{b:Addr}{o:Obj}(hb:b∈fp)(e:h.get? b=some o):(b,o)∈Xr fp h:=List.mem_filterMap.mpr ⟨b,hb,by rw [e];rfl⟩
theorem LJ {fp:List Addr}{h:Heap}{p:Addr×Obj}(hp:p∈Xr fp h):p.1∈fp/\h.get? p.1=some p.2:=by
 obtain ⟨b,hb,e⟩:=List.mem_filterMap.mp hp;cases q:h.get? b with
 |none=>rw [q] at e;cases e
 |some o=>rw [q] at e;have e':(b,o)=p:=Option.some.inj e;subst e';exact ⟨hb,q⟩
theorem Inv.pinned {pins:List (Addr×Obj)}{Z:St}{H:Hp}{s:Shared}{fp:List Addr}(I:Inv X pins Z H s)(hf:∀ b∈fp,xN X pins H b)(ho:∀ b∈fp,∃ o,s.heap.get? b=some o/\∀ v,o.data ≠ .cell v):Inv X (pins++Xr fp s.heap) Z H s :=
 I.pins_of fun p hp=>(List.mem_append.mp hp).elim (fun z=>I.pin p (List.mem_append_right _ z)) fun z=>by
  obtain ⟨hb,e⟩:=LJ z;obtain ⟨f0,f1,f2,_⟩:=hf p.1 hb;obtain ⟨o,e',d⟩:=ho p.1 hb;rw [e] at e';cases e';exact ⟨e,f0,f1,f2,d⟩
theorem Inv.unpinned {pins pl:List (Addr×Obj)}{Z:St}{H:Hp}{s:Shared}(I:Inv X (pins++pl) Z H s):Inv X pins Z H s:=I.pins_of fun p hp=>I.pin p (List.mem_append_right _ (List.mem_append_left _ hp))
theorem xD {iter:Expr}{body:List Stmt}{wi:TI}{g:TG}{tb:TS}{pos:Pos}(hp:PassesOwn (model X.prog X.w) X.A X.env X.xe)(hc:X.calm=true)(hi:PI X tg iter wi)(hg:PG X tg g)(hb:PSs X body tb)(hs:∀ x,foldedSetIterable iter X.env x=pure x:=by intro _;rfl):PS X (.For tg iter body [] pos) (tFor wi g tb):=by
 intro pins s Z H D I h;refine wpAny_For (j6 (hi pins s Z H _ I h) fun v s1 h1=>j6 h1 fun itv s2 h2=>?_) hs;obtain ⟨it,fp,tn,J,H2,e,I2,T,st2,f2,W,⟨m0,w0⟩,turn⟩:=h2;subst e
 -- what stays true of the iterator's objects through the loop
 have stat:∀{H':Hp},(∀ b∈fp,H' b=none)->∀ b∈fp,xN X pins H' b:=fun hn b hb=>⟨hn b hb,(f2 b hb).2⟩;refine codeAny_forLoop_any (fun n s'=>∃ i σ' H',Inv X pins σ' H' s'/\tn i s'.heap/\(∀ b∈fp,H' b=none)/\W i n σ' H') ?_ m0 ⟨0,Z,H2,I2,st2,fun b hb=>(f2 b hb).1,w0⟩;rintro n s3 ⟨i,σ3,H3,I3,st3,fr3,w3⟩;rcases turn i n σ3 H3 w3 with ⟨stop,qn⟩|⟨go,N,hN,step⟩
 ·refine wpAny_passesOwn hp (j6 (T.done X rfl rfl rfl hc i pins s3 σ3 H3 X.xe I3 (stat fr3) st3 stop) fun r s4 ⟨hr,I4⟩=>?_);subst hr;exact wpAny_execs_nil ⟨σ3,H3,I4,qn⟩
 ·refine wpAny_passesOwn hp (j6 (T.item X rfl rfl rfl hc i pins s3 σ3 H3 X.xe I3 (stat fr3) st3 go) fun r s4 ⟨u,hr,h4⟩=>?_);subst hr;refine wpAny_passesOwn hp (j6 h4 fun _ s5 ⟨x,H5,I5,r5,y5,st5,fr5⟩=>?_);have I5':=I5.pinned (stat fr5) (T.obj _ _ st5);refine wpAny_passesOwn hp (j6 (hg _ s5 σ3 H5 x u _ I5' r5 (step x H5 y5)) fun _ s6 ⟨σ6,H6,I6,q6⟩=>?_);refine wpAny_passesOwn hp (j6 (hb _ s6 σ6 H6 _ I6 q6) fun f s7 q7=>?_);have again:∀{σ7:St}{H7:Hp},Inv X (pins++Xr fp s5.heap) σ7 H7 s7->N σ7 H7->∃ m,m<n/\∃ i σ' H',Inv X pins σ' H' s7/\tn i s7.heap/\(∀ b∈fp,H' b=none)/\W i m σ' H':=fun {σ7 H7} I7 n7=>by
   obtain ⟨m',hm,w7⟩:=hN σ7 H7 n7;refine ⟨m',hm,i+1,σ7,H7,I7.unpinned,T.keep _ _ _ st5 fun b hb o e=>(I7.pin (b,o) (List.mem_append_right _ (List.mem_append_right _ (ZO hb e)))).1,fun b hb=>?_,w7⟩;obtain ⟨o,e,d⟩:=T.obj _ _ st5 b hb;exact (I7.pin (b,o) (List.mem_append_right _ (List.mem_append_right _ (ZO hb e)))).2.1
  cases f with
  |next=>obtain ⟨σ7,H7,I7,n7⟩:=q7;exact again I7 n7
  |cont=>obtain ⟨σ7,H7,I7,n7⟩:=q7;exact again I7 n7
  |brk=>obtain ⟨σ7,H7,I7,q7⟩:=q7;exact ⟨σ7,H7,I7.unpinned,q7⟩
  |ret v=>obtain ⟨x7,σ7,H7,I7,r7,q7⟩:=q7;exact ⟨x7,σ7,H7,I7.unpinned,r7,q7⟩
end
theorem DI {K:Fg}{a:Addr}{xs:List V}{g:TG}{tb:TS}{D:zu}{Z:St}{H:Hp}(Pv:Nat->St->Hp->Prop)(h0:Pv 0 Z H)(hl:∀ i Z H,i<=xs.length->Pv i Z H->SqL K H a xs)(hs:∀ i x Z H,xs[i]?=some x->Pv i Z H->g x Z H fun σ2 H2=>tb { D with nx:=Pv (i+1),ct:=Pv (i+1),bk:=D.nx } σ2 H2)(hd:∀ Z H,Pv xs.length Z H->D.nx Z H):∃ W:Nat->Nat->St->Hp->Prop,(∃ m,W 0 m Z H)/\∀ i m Z H,W i m Z H -> ((Itl K a).stop i H/\D.nx Z H)∨((Itl K a).go i H/\∃ N:St->Hp->Prop,(∀ σ' H',N σ' H'->∃ m',m'<m/\W (i+1) m' σ' H')/\∀ x H',(Itl K a).yld i H x H'->g x Z H' fun σ2 H2=>tb { D with nx:=N,ct:=N,bk:=D.nx } σ2 H2):=by
 refine ⟨fun i m Z H=>m=xs.length-i/\i<=xs.length/\Pv i Z H,⟨xs.length,by simp,Nat.zero_le _,h0⟩,?_⟩;rintro i m Z H ⟨rfl,hi,p⟩;have q:=hl i Z H hi p;by_cases hlt:i<xs.length
 ·refine .inr ⟨⟨xs,xs[i],q,by simp [hlt]⟩,Pv (i+1),fun σ' H' p'=>⟨xs.length-(i+1),by omega,rfl,hlt,p'⟩,fun x H' y=>?_⟩;obtain ⟨e,y⟩:=y;subst e;exact hs i x Z _ (y xs q) p
 ·have e:i=xs.length:=by omega
  subst e;exact .inl ⟨⟨xs,q,Nat.le_refl _⟩,hd Z H p⟩
theorem Zq {lo:Int}{n:Nat}{g:TG}{tb:TS}{D:zu}{Z:St}{H:Hp}(Pv:Nat->St->Hp->Prop)(h0:Pv 0 Z H)(hs:∀ i Z H,i<n->Pv i Z H->g (.int (lo+i)) Z H fun σ2 H2=>tb { D with nx:=Pv (i+1),ct:=Pv (i+1),bk:=D.nx } σ2 H2)(hd:∀ Z H,Pv n Z H->D.nx Z H):∃ W:Nat->Nat->St->Hp->Prop,(∃ m,W 0 m Z H)/\∀ i m Z H,W i m Z H -> ((Itr lo n).stop i H/\D.nx Z H)∨((Itr lo n).go i H/\∃ N:St->Hp->Prop,(∀ σ' H',N σ' H'->∃ m',m'<m/\W (i+1) m' σ' H')/\∀ x H',(Itr lo n).yld i H x H'->g x Z H' fun σ2 H2=>tb { D with nx:=N,ct:=N,bk:=D.nx } σ2 H2):=by
 refine ⟨fun i m Z H=>m=n-i/\i<=n/\Pv i Z H,⟨n,by simp,Nat.zero_le _,h0⟩,?_⟩;rintro i m Z H ⟨rfl,hi,p⟩;by_cases hlt:i<n
 ·refine .inr ⟨hlt,Pv (i+1),fun σ' H' p'=>⟨n-(i+1),by omega,rfl,hlt,p'⟩,fun x H' y=>?_⟩;obtain ⟨e,y⟩:=y;subst e y;exact hs i Z _ hlt p
 ·have e:i=n:=by omega
  subst e;exact .inl ⟨Nat.le_refl _,hd Z H p⟩
end L2
namespace L2
open PySem PySem.Spec PyProof.Rows
abbrev R2:=V->V->Hp->VK->Prop
def OpR (X:Cx)(f:Value->Value->Sem Value)(r:R2):Prop :=
 ∀(pins:List (Addr×Obj))(s:Shared)(Z:St)(H:Hp)(x y:V)(v u:Value)(Q:VK),Inv X pins Z H s->RelV x v->RelV y u->r x y H Q ->
  wpAny (model X.prog X.w) X.A (f v u) (EP X pins Z Q) X.xe s
def UnR (X:Cx)(f:Value->Sem Value)(r:V->Hp->VK->Prop):Prop :=
 ∀(pins:List (Addr×Obj))(s:Shared)(Z:St)(H:Hp)(x:V)(v:Value)(Q:VK),Inv X pins Z H s->RelV x v->r x H Q ->
  wpAny (model X.prog X.w) X.A (f v) (EP X pins Z Q) X.xe s
def CallR (X:Cx)(f:Value)(r:List V->Hp->VK->Prop):Prop :=
 ∀(pins:List (Addr×Obj))(s:Shared)(Z:St)(H:Hp)(xs:List V)(us:List Value)(Q:VK),Inv X pins Z H s->Vals xs us->r xs H Q ->
  wpAny (model X.prog X.w) X.A (call f us) (EP X pins Z Q) X.xe s
def TruR (X:Cx)(r:V->Hp->(Bool->Hp->Prop)->Prop):Prop :=
 ∀(pins:List (Addr×Obj))(s:Shared)(Z:St)(H:Hp)(x:V)(v:Value)(Q:Bool->Hp->Prop),Inv X pins Z H s->RelV x v->r x H Q ->
  wpAny (model X.prog X.w) X.A (truthy v) (TP X pins Z Q) X.xe s
def tOp (r:R2)(ta tb:TE):TE:=fun Z H Q=>ta Z H fun x H1=>tb Z H1 fun y H2=>r x y H2 Q
def tUn (r:V->Hp->VK->Prop)(ta:TE):TE:=fun Z H Q=>ta Z H fun x H1=>r x H1 Q
def rI (C:Int->Int->Prop)(g:Int->Int->V):R2:=fun x y H Q=>∃ i j,x = .int i/\y = .int j/\C i j/\Q (g i j) H
def rI0 (g:Int->Int->V):R2:=fun x y H Q=>∃ i j,x = .int i/\y = .int j/\Q (g i j) H
def rU (g:Int->V):V->Hp->VK->Prop:=fun x H Q=>∃ i,x = .int i/\Q (g i) H
section
variable {X:Cx}{a b c:Expr}{ta tb tc:TE}{pos:Pos}
theorem binT (ha:PE X a ta)(hb:PE X b tb){pins:List (Addr×Obj)}{s:Shared}{Z:St}{H:Hp}{R:V->V->Hp->Prop}(I:Inv X pins Z H s)(h:ta Z H fun x H1=>tb Z H1 fun y H2=>R x y H2){Q:Value->Shared->Prop}{f:Value->Value->Sem Value}(hf:∀ v u s2 x y H2,Inv X pins Z H2 s2->RelV x v->RelV y u->R x y H2->wpAny (model X.prog X.w) X.A (f v u) Q X.xe s2):wpAny (model X.prog X.w) X.A (eval a X.env) (fun v s₁=>wpAny (model X.prog X.w) X.A (eval b X.env) (fun u s₂=>wpAny (model X.prog X.w) X.A (f v u) Q X.xe s₂) X.xe s₁) X.xe s:=by refine j6 (ha pins s Z H _ I h) fun v s1 ⟨x,H1,I1,r1,q1⟩=>?_;refine j6 (hb pins s1 Z H1 _ I1 q1) fun u s2 ⟨y,H2,I2,r2,q2⟩=>?_;exact hf v u s2 x y H2 I2 r1 r2 q2
theorem u5 {op:Operator}{r:R2}(ho:OpR X (binaryOp op) r)(ha:PE X a ta)(hb:PE X b tb):PE X (.BinOp a op b pos) (tOp r ta tb):=by intro pins s Z H Q I h;exact wpAny_BinOp (binT ha hb I h fun v u s2 x y H2 I2 rx ry q=>ho pins s2 Z H2 x y v u Q I2 rx ry q)
theorem WM {op:UnaryOp}{r:V->Hp->VK->Prop}(ho:UnR X (unaryOp op) r)(ha:PE X a ta):PE X (.UnaryOp op a pos) (tUn r ta):=by intro pins s Z H Q I h;exact UnaryOp_ (j6 (ha pins s Z H _ I h) fun v s1 ⟨x,H1,I1,r1,q1⟩=>ho pins s1 Z H1 x v Q I1 r1 q1)
theorem opI {f:Value->Value->Sem Value}{C:Int->Int->Prop}{g:Int->Int->Int}(rule:∀(i j:Int)(t u:Tok)(s:Shared)(Q:Value->Shared->Prop)(E:Value->Shared->Prop),C i j->Q (.int (g i j) s.toks) { s with toks:=s.toks+1 }->wpAny (model X.prog X.w) X.A (f (.int i t) (.int j u)) Q E s):OpR X f (rI C fun i j=> .int (g i j)):=by intro pins s Z H x y v u Q I rx ry h;obtain ⟨i,j,rfl,rfl,hc,q⟩:=h;obtain ⟨t,rfl⟩:=rx;obtain ⟨t',rfl⟩:=ry;exact rule i j t t' s _ _ hc ⟨.int (g i j),H,I.tok _,⟨_,rfl⟩,q⟩
theorem opI0 {f:Value->Value->Sem Value}{g:Int->Int->Int}(rule:∀(i j:Int)(t u:Tok)(s:Shared)(Q:Value->Shared->Prop)(E:Value->Shared->Prop),Q (.int (g i j) s.toks) { s with toks:=s.toks+1 }->wpAny (model X.prog X.w) X.A (f (.int i t) (.int j u)) Q E s):OpR X f (rI0 fun i j=> .int (g i j)):=by intro pins s Z H x y v u Q I rx ry h;obtain ⟨i,j,rfl,rfl,q⟩:=h;obtain ⟨t,rfl⟩:=rx;obtain ⟨t',rfl⟩:=ry;exact rule i j t t' s _ _ ⟨.int (g i j),H,I.tok _,⟨_,rfl⟩,q⟩
theorem opB0 {f:Value->Value->Sem Value}{g:Int->Int->Bool}(rule:∀(i j:Int)(t u:Tok)(s:Shared)(Q:Value->Shared->Prop)(E:Value->Shared->Prop),Q (.bool (g i j)) s->wpAny (model X.prog X.w) X.A (f (.int i t) (.int j u)) Q E s):OpR X f (rI0 fun i j=> .bl (g i j)):=by intro pins s Z H x y v u Q I rx ry h;obtain ⟨i,j,rfl,rfl,q⟩:=h;obtain ⟨t,rfl⟩:=rx;obtain ⟨t',rfl⟩:=ry;exact rule i j t t' s _ _ ⟨.bl (g i j),H,I,rfl,q⟩
def jW (i j:Int):Prop:=0<=j/\j<=1000000/\i.natAbs<2 ^ 64
def CMul (i j:Int):Prop:=(-(2 ^ 64)<i/\i<2 ^ 64)∨(-(2 ^ 64)<j/\j<2 ^ 64)
theorem CMul.ok {i j:Int}(h:CMul i j):IntMulOk i j:=by
 rcases h with ⟨h1,h2⟩|⟨h1,h2⟩
 ·exact .of_left (intBits_le_64 h1 h2)
 ·exact .of_right (intBits_le_64 h1 h2)
theorem op_add:OpR X (binaryOp .Add) (rI0 fun i j=> .int (i+j)):=opI0 fun _ _ _ _ _ _ _ q=>add_int q
theorem Qp:OpR X (binaryOp .Sub) (rI0 fun i j=> .int (i-j)):=opI0 fun _ _ _ _ _ _ _ q=>sub_int q
theorem Qm:OpR X (binaryOp .Mult) (rI CMul fun i j=> .int (i*j)):=opI fun _ _ _ _ _ _ _ hc q=>mul_int q hc.ok
theorem vR:OpR X (binaryOp .Mod) (rI (fun _ j=>0<j) fun i j=> .int (i % j)):=opI fun i j _ _ _ _ _ hc q=>by
 have h1:(0:Int)<j:=hc;exact mod_int' (by omega) (by rw [Int.fmod_eq_emod_of_nonneg i (by omega)];exact q)
theorem Qo:OpR X (binaryOp .Pow) (rI jW fun i j=> .int (i ^ j.toNat)):=opI fun _ _ _ _ _ _ _ hc q=>pow_int_small hc.1 hc.2.1 hc.2.2 q
theorem unI {f:Value->Sem Value}{g:Int->Int}(rule:∀(i:Int)(t:Tok)(s:Shared)(Q:Value->Shared->Prop)(E:Value->Shared->Prop),Q (.int (g i) s.toks) { s with toks:=s.toks+1 }->wpAny (model X.prog X.w) X.A (f (.int i t)) Q E s):UnR X f (rU fun i=> .int (g i)):=by intro pins s Z H x v Q I rx h;obtain ⟨i,rfl,q⟩:=h;obtain ⟨t,rfl⟩:=rx;exact rule i t s _ _ ⟨.int (g i),H,I.tok _,⟨_,rfl⟩,q⟩
theorem Yq:UnR X (unaryOp .USub) (rU fun i=> .int (-i)):=unI fun _ _ _ _ _ q=>neg_int q
end
section
variable {X:Cx}{a b c:Expr}{ta tb tc:TE}{pos:Pos}
theorem VX {pins:List (Addr×Obj)}{Z:St}{H:Hp}{s:Shared}{Q:VK}{k k':Bool}(I:Inv X pins Z H s)(q:Q (.bl k) H)(e:k=k'):EP X pins Z Q (.bool k') s:=by subst e;exact ⟨.bl k,H,I,rfl,q⟩
theorem ZU:OpR X (compareOp .Lt) (rI0 fun i j=> .bl (decide (i<j))):=opB0 fun _ _ _ _ _ _ _ q=>lt_int q
theorem Ql:OpR X (compareOp .LtE) (rI0 fun i j=> .bl (decide (i<=j))):=opB0 fun _ _ _ _ _ _ _ q=>le_int q
theorem Xo:OpR X (compareOp .Gt) (rI0 fun i j=> .bl (decide (j<i))):=opB0 fun _ _ _ _ _ _ _ q=>gt_int q
theorem ZT:OpR X (compareOp .GtE) (rI0 fun i j=> .bl (decide (j<=i))):=opB0 fun _ _ _ _ _ _ _ q=>ge_int q
theorem NV:OpR X (compareOp .Is) (fun x y H Q=>y = .non/\Q (.bl (decide (x = .non))) H):=by
 intro pins s Z H x y v u Q I rx ry h;obtain ⟨rfl,q⟩:=h;cases ry;refine is_none_gen (VX I q ?_);cases x<;>first
  |(cases rx;rfl)
  |(obtain ⟨t,rfl⟩:=rx;rfl)
theorem NX:OpR X (compareOp .IsNot) (fun x y H Q=>y = .non/\Q (.bl (!decide (x = .non))) H):=by
 intro pins s Z H x y v u Q I rx ry h;obtain ⟨rfl,q⟩:=h;cases ry;refine isnot_none_gen (VX I q ?_);cases x<;>first
  |(cases rx;rfl)
  |(obtain ⟨t,rfl⟩:=rx;rfl)
theorem OpR.or {f:Value->Value->Sem Value}{r r':R2}(h:OpR X f r)(h':OpR X f r'):OpR X f (fun x y H Q=>r x y H Q∨r' x y H Q):=by
 intro pins s Z H x y v u Q I rx ry q;rcases q with q|q
 ·exact h pins s Z H x y v u Q I rx ry q
 ·exact h' pins s Z H x y v u Q I rx ry q
theorem i4 (b:Expr){op:CmpOp}(h:op ≠ .In:=by decide)(h2:op ≠ .NotIn:=by decide):behindInMarks op b=false:=by
 have e1:(op==CmpOp.In)=false:=by cases op<;>first|rfl|exact absurd rfl h
 have e2:(op==CmpOp.NotIn)=false:=by cases op<;>first|rfl|exact absurd rfl h2
 cases b<;>simp [behindInMarks,e1,e2]
theorem jN {op:CmpOp}{r:R2}(ho:OpR X (compareOp op) r)(ha:PE X a ta)(hb:PE X b tb)(hm:behindInMarks op b=false):PE X (.Compare a [op] [b] pos) (tOp r ta tb):=by intro pins s Z H Q I h;exact wpAny_Compare1 (binT ha hb I h fun v u s2 x y H2 I2 rx ry q=>ho pins s2 Z H2 x y v u Q I2 rx ry q) hm
def Vj (t:TE):TT:=fun Z H Q=>t Z H fun x H'=>∃ k,x = .bl k/\Q k H'
theorem qh {op:CmpOp}{r:R2}(ho:OpR X (compareOp op) r)(ha:PE X a ta)(hb:PE X b tb)(hm:behindInMarks op b=false):PT X (.Compare a [op] [b] pos) (Vj (tOp r ta tb)):=by
 intro pins s Z H Q I h;refine wpAny_isTrue_Compare1 (j6 (ha pins s Z H _ I h) fun v s1 ⟨x,H1,I1,r1,q1⟩=>j6 (hb pins s1 Z H1 _ I1 q1) fun u s2 ⟨y,H2,I2,r2,q2⟩ =>
  j6 (ho pins s2 Z H2 x y v u _ I2 r1 r2 q2) fun c s3 ⟨z,H3,I3,r3,k,e,q3⟩=>?_) hm
 subst e;cases r3;exact wpAny_truthy_bool ⟨H3,I3,q3⟩
def Yo (r r':R2)(ta tb tc:TE):TE:=fun Z H Q=>ta Z H fun x H1=>tb Z H1 fun y H2=>r x y H2 fun z H3=>∃ k,z = .bl k /\
 (if k=true then tc Z H3 fun w' H4=>r' y w' H4 Q else Q (.bl false) H3)
theorem WK {op op':CmpOp}{r r':R2}(ho:OpR X (compareOp op) r)(ho':OpR X (compareOp op') r')(ha:PE X a ta)(hb:PE X b tb)(hc:PE X c tc)(hm:lastMarks [op,op'] [b,c]=false:=by with_unfolding_all rfl):PE X (.Compare a [op,op'] [b,c] pos) (Yo r r' ta tb tc):=by
 intro pins s Z H Q I h;refine Compare_chain (j6 (ha pins s Z H _ I h) fun v s1 ⟨x,H1,I1,r1,q1⟩=>chain_link (j6 (hb pins s1 Z H1 _ I1 q1) fun u s2 ⟨y,H2,I2,r2,q2⟩ =>
  j6 (ho pins s2 Z H2 x y v u _ I2 r1 r2 q2) fun d s3 ⟨z,H3,I3,r3,k,e,q3⟩=>?_)) hm
 subst e;cases r3;refine wpAny_truthy_bool ?_;cases k with
 |false=>exact ite_ff ⟨.bl false,H3,I3,rfl,q3⟩
 |true=>exact ite_tt (chain_last (j6 (hc pins s3 Z H3 _ I3 q3) fun w' s4 ⟨z',H4,I4,r4,q4⟩=>ho' pins s4 Z H4 y z' u w' Q I4 r2 r4 q4))
theorem KZ {op op':CmpOp}{r r':R2}(ho:OpR X (compareOp op) r)(ho':OpR X (compareOp op') r')(ha:PE X a ta)(hb:PE X b tb)(hc:PE X c tc)(hm:lastMarks [op,op'] [b,c]=false:=by with_unfolding_all rfl):PT X (.Compare a [op,op'] [b,c] pos) (Vj (Yo r r' ta tb tc)):=by
 intro pins s Z H Q I h;refine isTrue_chain (j6 (ha pins s Z H _ I h) fun v s1 ⟨x,H1,I1,r1,q1⟩=>test_link (j6 (hb pins s1 Z H1 _ I1 q1) fun u s2 ⟨y,H2,I2,r2,q2⟩ =>
  j6 (ho pins s2 Z H2 x y v u _ I2 r1 r2 q2) fun d s3 ⟨z,H3,I3,r3,k,e,q3⟩=>?_)) hm
 subst e;cases r3;refine wpAny_truthy_bool ?_;cases k with
 |false=>obtain ⟨k',e',q'⟩:=q3;cases e';exact ite_ff ⟨H3,I3,q'⟩
 |true=>refine ite_tt (test_last (j6 (hc pins s3 Z H3 _ I3 q3) fun w' s4 ⟨z',H4,I4,r4,q4⟩=>j6 (ho' pins s4 Z H4 y z' u w' _ I4 r2 r4 q4) fun d' s5 ⟨z2,H5,I5,r5,k2,e2,q5⟩=>?_));subst e2;cases r5;exact wpAny_truthy_bool ⟨H5,I5,q5⟩
def TruV (K:Fg)(x:V)(H:Hp)(k:Bool):Prop :=
 match x with
 | .non=>k=false
 | .bl b=>k=b
 | .int i=>k=(i != 0)
 | .str y=>y.length<=sizeLine/\k=((y.length:Int) != 0)
 | .byt y=>y.size<=sizeLine/\k=((y.size:Int) != 0)
 | .ref p=>(∃ xs,SqL K H p xs/\k=!xs.isEmpty)∨(∃ xs,SqT K H p xs/\k=!xs.isEmpty)∨∃ kvs,H p=some (.dK kvs)/\k=!kvs.isEmpty
 |_=>False
theorem Mo {κ:Type}{kvs:List (κ×V)}{vs:List (κ×Value)}(r:KV kvs vs):(!vs.isEmpty)=!kvs.isEmpty:=by cases r<;>rfl
theorem GY {xs:List V}{its:List Value}(r:Vals xs its):(!its.toArray.isEmpty)=!xs.isEmpty:=by cases r<;>simp
theorem vM:(sizeLine:Nat)<2 ^ 63:=by rw [sizeLine_eq];decide
theorem Tv:TruR X (fun x H Q=>∃ k,TruV X.K x H k/\Q k H):=by
 intro pins s Z H x v Q I rx h;obtain ⟨k,e,q⟩:=h;have hl:=vM;have hs:sizeLine=16777216:=sizeLine_eq;cases x with
 |non=>cases rx;have e':k=false:=e;subst e';exact truthy_none ⟨H,I,q⟩
 |bl b=>cases rx;have e':k=b:=e;subst e';exact wpAny_truthy_bool ⟨H,I,q⟩
 |int i=>obtain ⟨t,rfl⟩:=rx;have e':k=(i != 0):=e;subst e';exact PySem.P.truthy_int ⟨H,I,q⟩
 |str y=>obtain ⟨t,rfl⟩:=rx;obtain ⟨hy,e'⟩:y.length<=sizeLine/\k=((y.length:Int) != 0):=e;subst e';exact PySem.P.truthy_str (by omega) ⟨H,I.tok _,q⟩
 |byt y=>obtain ⟨t,rfl⟩:=rx;obtain ⟨hy,e'⟩:y.size<=sizeLine/\k=((y.size:Int) != 0):=e;subst e';exact PySem.W.truthy_bytes (by omega) ⟨H,I.tok _,q⟩
 |ref p =>
  cases rx;have e':(∃ xs,SqL X.K H p xs/\k=!xs.isEmpty)∨(∃ xs,SqT X.K H p xs/\k=!xs.isEmpty)∨∃ kvs,H p=some (.dK kvs)/\k=!kvs.isEmpty:=e;rcases e' with ⟨xs,hx,e'⟩|⟨xs,hx,e'⟩|⟨kvs,hx,e'⟩
  ·subst e';obtain ⟨its,r,pl,hz⟩:=I.list hx;have hlen:=r.length;exact wpAny_truthy_list pl.isList (by simp only [List.size_toArray];omega) ⟨H,I.tok _,by rw [GY r];exact q⟩
  ·subst e';obtain ⟨its,r,pl,hz⟩:=I.tuple hx;have hlen:=r.length;exact truthy_tuple pl (by simp only [List.size_toArray];omega) ⟨H,I.tok _,by rw [GY r];exact q⟩
  ·subst e';obtain ⟨hz,hS,vs,r,m⟩:kvs.length<=sizeLine/\(p==sysModules)=false/\∃ vs,KV kvs vs/\s.heap.DictOf (qF X.prog X.w) p vs:=I.hok p _ hx;have hlen:kvs.length=vs.length:=Paired.length r;exact wpAny_truthy_dict hS m (by omega) ⟨H,I.tok _,by rw [Mo r];exact q⟩
 |_=>exact (show False from e).elim
theorem HL (ha:PE X a ta)(he:∀ whole,isTrue a X.env whole=(do let v <- whole;standAt a.pos;holding [v] (truthy v))):
  PT X a (fun Z H Q=>ta Z H fun x H'=>∃ k,TruV X.K x H' k/\Q k H'):=by
 intro pins s Z H Q I h;exact isTrue_plain (j6 (ha pins s Z H _ I h) fun v s1 ⟨x,H1,I1,r1,q1⟩=>Tv pins s1 Z H1 x v Q I1 r1 q1) (he _)
theorem op_add_str:OpR X (binaryOp .Add) (fun x y H Q=>∃ i j,x = .str i/\y = .str j/\i.length+j.length<=sizeLine/\Q (.str (i++j)) H):=by intro pins s Z H x y v u Q I rx ry h;obtain ⟨i,j,rfl,rfl,hz,q⟩:=h;obtain ⟨t,rfl⟩:=rx;obtain ⟨t',rfl⟩:=ry;exact add_str (fun t' tk=>⟨.str (i++j),H,I.tok _,⟨_,rfl⟩,q⟩) hz
theorem zH {x:V}{us:List Value}(r:Vals [x] us):∃ u,us=[u]/\RelV x u:=by
 cases r with
 |cons r1 r2=>cases r2;exact ⟨_,rfl,r1⟩
theorem Yx {x y:V}{us:List Value}(r:Vals [x,y] us):∃ u w',us=[u,w']/\RelV x u/\RelV y w':=by
 cases r with
 |cons r1 r2 =>
  cases r2 with
  |cons r3 r4=>cases r4;exact ⟨_,_,rfl,r1,r3⟩
theorem CO (hc:X.calm=true):CallR X (.builtin "min") (fun xs H Q=>∃ i j,xs=[.int i,.int j]/\Q (.int (if j<i then j else i)) H):=by
 intro pins s Z H xs us Q I r h;obtain ⟨i,j,rfl,q⟩:=h;obtain ⟨u,w',rfl,⟨t,rfl⟩,⟨t',rfl⟩⟩:=Yx r;refine min_two_ints (I.ok.hd hc) fun h' tk k=>⟨_,H,I.kept k,?_,q⟩;by_cases hj:j<i
 ·rw [if_pos hj,if_pos hj];exact ⟨_,rfl⟩
 ·rw [if_neg hj,if_neg hj];exact ⟨_,rfl⟩
def LenV (K:Fg)(x:V)(H:Hp)(n:Nat):Prop :=
 match x with
 | .str y=>y.length<=sizeLine/\n=y.length
 | .byt y=>y.size<=sizeLine/\n=y.size
 | .ref p=>(∃ xs,SqL K H p xs/\n=xs.length)∨∃ xs,SqT K H p xs/\n=xs.length
 |_=>False
theorem CI:CallR X (.builtin "len") (fun xs H Q=>∃ x n,xs=[x]/\LenV X.K x H n/\Q (.int n) H):=by
 intro pins s Z H xs us Q I r h;obtain ⟨x,n,rfl,e,q⟩:=h;obtain ⟨u,rfl,rx⟩:=zH r;have hl:=vM;have hs:sizeLine=16777216:=sizeLine_eq;cases x with
 |str y=>obtain ⟨t,rfl⟩:=rx;obtain ⟨hy,e'⟩:y.length<=sizeLine/\n=y.length:=e;subst e';exact len_str (by omega) ⟨.int _,H,I.tok _,⟨_,rfl⟩,q⟩
 |byt y=>obtain ⟨t,rfl⟩:=rx;obtain ⟨hy,e'⟩:y.size<=sizeLine/\n=y.size:=e;subst e';exact PySem.W.len_bytes (by omega) ⟨.int _,H,I.tok _,⟨_,rfl⟩,q⟩
 |ref p =>
  cases rx;have e':(∃ xs,SqL X.K H p xs/\n=xs.length)∨∃ xs,SqT X.K H p xs/\n=xs.length:=e;rcases e' with ⟨xs,hx,e'⟩|⟨xs,hx,e'⟩
  ·subst e';obtain ⟨its,r',pl,hz⟩:=I.list hx;have hlen:=r'.length;exact Calls.call_len_list pl.isList (by simp only [List.size_toArray];omega) ⟨.int xs.length,H,I.tok _,⟨_,by simp only [List.size_toArray];rw [hlen]⟩,q⟩
  ·subst e';obtain ⟨its,r',pl,hz⟩:=I.tuple hx;have hlen:=r'.length;exact len_tuple pl (by simp only [List.size_toArray];omega) ⟨.int xs.length,H,I.tok _,⟨_,by simp only [List.size_toArray];rw [hlen]⟩,q⟩
 |_=>exact (show False from e).elim
end
end L2
namespace L2
open PySem PySem.Spec PyProof.Rows
structure ObjM (h:Heap)(x dx C:Addr)(mA:Str->Option Value):Prop where
 obj:h.get? x=some (PySem.W.instObj C dx)
 ns:h.Ns1 dx mA
 ne:dx≠x
theorem Li {h:Heap}{dx:Addr}{mA:Str->Option Value}(n:h.Ns1 dx mA):∃ od,h.get? dx=some od/\∀ name,PySem.W.lookIn name od=some (mA name):=by
 obtain ⟨o,es,ep,ho,hd,hk,_,hm⟩:=n;refine ⟨o,ho,fun name=>?_⟩;have e:=hm name;unfold nsFind findBy at e;rw [<- Array.find?_toList] at e;unfold PySem.W.lookIn;rw [hd]
 dsimp only
 split
 ·rename_i y q;rw [q] at e;exact congrArg some e
 ·rename_i q;rw [q] at e;have a:es.toList.any (·.refKey)=false:=by rw [List.any_eq_false];intro y hy;obtain ⟨z,t,hkey⟩:=hk y (Array.mem_toList_iff.mp hy);simp [DictEntry.refKey,hkey]
  have a':¬ es.toList.any (·.refKey)=true:=by rw [a];exact Bool.false_ne_true
  rw [if_neg a'];exact congrArg some e
theorem ObjM.look {h:Heap}{x dx C:Addr}{mA:Str->Option Value}(I:ObjM h x dx C mA):∃ od,PySem.W.InstAt h x (PySem.W.instObj C dx) C (some od)/\∀ name,PySem.W.lookIn name od=some (mA name) :=
 let ⟨od,ho,hl⟩:=Li I.ns
 ⟨od,⟨I.obj,rfl,rfl,ho⟩,hl⟩
section
variable {prog:Program}{w:World}{A:Around}{E:Value->Shared->Prop}{s:Shared}{K:Fg}{x dx C f:Addr}{mA:Str->Option Value}{name:Str}{v:Value}
theorem DL {expr:Bool}{Q:Value->Shared->Prop}(X:K.In s.heap)(I:ObjM s.heap x dx C mA)(hg:PySem.W.plainGet K C name=true)(hh:PySem.W.hasDictIn K C=true)(ha:PySem.W.findIn K (.ref C) name=some none)(hv:mA name=some v)(hv':PySem.W.handedIn v=true)(h:Q v { s with toks:=s.toks+1 }):wpAny (model prog w) A (getAttr (.ref x) name expr) Q E s:=by obtain ⟨od,J,hl⟩:=I.look;exact PySem.W.get_value X J (PySem.W.plainGet_of hg).1 (PySem.W.findObj_own hh ha rfl (by rw [hl,hv])) hv' h
theorem DM {pl:Sem Bool}{Q:Value×List Value->Shared->Prop}(X:K.In s.heap)(I:ObjM s.heap x dx C mA)(hg:PySem.W.plainGet K C name=true)(hf:PySem.W.findIn K (.ref C) name=some (some (.ref f)))(ht:PySem.W.isFn K (.ref f)=true)(hv:mA name=none)(h:Q (.ref f,[.ref x]) s):wpAny (model prog w) A (getMethod (.ref x) name pl) Q E s:=by obtain ⟨od,J,hl⟩:=I.look;exact PySem.W.method_fn X J (PySem.W.plainGet_of hg).1 (PySem.W.plainGet_of hg).2 hf (beq_iff_eq.mp ht) (by show (PySem.W.lookIn name od).map (·.isSome)=some false;rw [hl,hv];rfl) h
theorem Tb {ns:List Str}{Q:Unit->Shared->Prop}(X:K.In s.heap)(I:ObjM s.heap x dx C mA)(hs:PySem.W.findIn K (.ref C) "__setattr__"=some (some (.builtin "object.__setattr__")))(hp:PySem.W.plainOver K C=true)(ht:PySem.W.takerIn K C name=some none)(hh:PySem.W.hasDictIn K C=true)(hw:PySem.Within mA ns)(hsz:ns.length<=sizeLine)(h:∀ h',ObjM h' x dx C (fun y=>if y=name then some v else mA y)->Heap.SameBut dx s.heap h'->Q () { s with heap:=h',toks:=s.toks+2 }):wpAny (model prog w) A (setAttr (.ref x) name v) Q E s:=by obtain ⟨od,J,hl⟩:=I.look;refine PySem.W.set_plain X J hs (PySem.W.osa_open (s:={ s with toks:=s.toks+1 }) (r:=none) X J hp ht fun b=>?_);obtain ⟨cd,hc,hd'⟩:=PySem.W.any_some hh;have hx:s.heap.get? x=some ⟨.ref C,some dx,.plain,#[]⟩:=I.obj;refine wpAny_bind (wpAny_pure (wpAny_bind (wpAny_bind (wpAny_loadPart hx (wpAny_bind (PySem.W.Looks.here (s:={ s with toks:=s.toks+1 }) (PySem.W.looks_clsIn X hc) ?_))))));rw [hd'];refine wpAny_pure (a:=some dx) (wpAny_bind (wpAny_pure (wpAny_bind ?_)));refine wpAny_nsSet1 (s:={ s with toks:=s.toks+1 }) I.ns fun h' hn2 hs2=>?_;obtain ⟨oD,esD,epD,hoD,hdD,hcD⟩:=hn2.count (PySem.Within.cons name v hw);refine wpAny_bind (wpAny_lookBehind hoD (by rw [hdD];exact pastItsLine_dict (Nat.le_trans hcD (by rw [List.length_cons];omega))) ?_);exact wpAny_pure (h _ ⟨(hs2.2 _ (Ne.symm I.ne)).trans I.obj,hn2,I.ne⟩ hs2)
theorem Lp {R:Result->Shared->Prop}{vs:List Value}{kw:List (Str×Value)}(X:K.In s.heap)(hm:PySem.W.makesIn K C=true)(hi:PySem.W.findIn K (.ref C) "__init__"=some (some (.ref f)))(hf:PySem.W.typeIn K (.ref f)=some (.type "function"))(h:codeAny (model prog w) (A.under (.builtin "type.__call__" ⟨.ref C::vs,kw⟩)) (.call (.ref f) ⟨.ref (s.heap.objs.size+1)::vs,kw⟩) (PySem.W.InitBack (s.heap.objs.size+1) R) { s with heap:=(s.heap.push PySem.W.emptyDict).push (PySem.W.instObj C s.heap.objs.size) }):codeAny (model prog w) A (.call (.ref C) ⟨vs,kw⟩) R s:=by obtain ⟨hh,g,d,t,os⟩:=s;exact PySem.W.make_core (PySem.W.makes_of X hm) (PySem.W.looks_findIn X hi) (fun self=>PySem.W.bind_fn X self hf) (.inl rfl) h
end
def xE (f:Str)(v:V):List (Str×V)->List (Str×V)
 |[]=>[(f,v)]
 |(g,x)::r=>if g=f then (g,v)::r else (g,x)::xE f v r
theorem Ku (f g:Str)(v:V):∀ fs:List (Str×V),(xE f v fs).lookup g=if g=f then some v else fs.lookup g
 |[]=>by
  show List.lookup g [(f,v)]=_;by_cases h:g=f
  ·have hb:(g==f)=true:=beq_iff_eq.mpr h;simp only [List.lookup,hb,if_pos h]
  ·have hb:(g==f)=false:=beq_eq_false_iff_ne.mpr h;simp only [List.lookup,hb,if_neg h]
 |(k,x)::r=>by
  have ih:=Ku f g v r;rw [show xE f v ((k,x)::r)=(if k=f then (k,v)::r else (k,x)::xE f v r) from rfl];by_cases hk:k=f
  ·rw [if_pos hk];by_cases h:g=k
   ·have hb:(g==k)=true:=beq_iff_eq.mpr h;simp only [List.lookup,hb,if_pos (h.trans hk)]
   ·have hb:(g==k)=false:=beq_eq_false_iff_ne.mpr h;simp only [List.lookup,hb,if_neg (fun e:g=f=>h (e.trans hk.symm))]
  ·rw [if_neg hk];by_cases h:g=k
   ·have hb:(g==k)=true:=beq_iff_eq.mpr h;simp only [List.lookup,hb,if_neg (fun e:g=f=>hk (h.symm.trans e))]
   ·have hb:(g==k)=false:=beq_eq_false_iff_ne.mpr h;simp only [List.lookup,hb];exact ih
theorem Wl (f:Str)(v:V):∀ fs:List (Str×V),f∈(xE f v fs).map (·.1)/\∀ g,g∈fs.map (·.1)->g∈(xE f v fs).map (·.1)
 |[]=>⟨by simp [xE],fun g h=>by simp at h⟩
 |(k,x)::r=>by
  obtain ⟨i1,i2⟩:=Wl f v r;rw [show xE f v ((k,x)::r)=(if k=f then (k,v)::r else (k,x)::xE f v r) from rfl];by_cases hk:k=f
  ·rw [if_pos hk];subst hk;exact ⟨by simp,fun g h=>by simpa using h⟩
  ·rw [if_neg hk];refine ⟨?_,fun g h=>?_⟩
   ·rw [List.map_cons];exact List.mem_cons_of_mem _ i1
   ·rw [List.map_cons] at h ⊢;rcases List.mem_cons.mp h with e|e
    ·exact List.mem_cons.mpr (.inl e)
    ·exact List.mem_cons_of_mem _ (i2 g e)
theorem Kp (f:Str)(v:V):∀ fs:List (Str×V),(xE f v fs).length<=fs.length+1
 |[]=>by simp [xE]
 |(k,x)::r=>by
  have ih:=Kp f v r;rw [show xE f v ((k,x)::r)=(if k=f then (k,v)::r else (k,x)::xE f v r) from rfl];by_cases hk:k=f
  ·rw [if_pos hk,List.length_cons,List.length_cons];omega
  ·rw [if_neg hk,List.length_cons,List.length_cons];omega
theorem RelO.some_of {v:V}{o:Option Value}(r:RelO (some v) o):∃ u,o=some u/\RelV v u:=by
 cases o with
 |none=>exact (show False from r).elim
 |some u=>exact ⟨u,rfl,r⟩
theorem RelO.none_of {o:Option Value}(r:RelO none o):o=none:=by
 cases o with
 |none=>rfl
 |some u=>exact (show False from r).elim
theorem DO {v:V}{u:Value}(r:RelV v u):PySem.W.handedIn u=true:=by
 cases v with
 |non=>cases (show u=Value.none from r);rfl
 |bl b=>cases (show u=Value.bool b from r);rfl
 |int i=>obtain ⟨t,e⟩:=(show ∃ t,u=Value.int i t from r);cases e;rfl
 |str x=>obtain ⟨t,e⟩:=(show ∃ t,u=Value.str x t from r);cases e;rfl
 |byt b=>obtain ⟨t,e⟩:=(show ∃ t,u=Value.bytes b t from r);cases e;rfl
 |flt b=>obtain ⟨t,e⟩:=(show ∃ t,u=Value.float b t from r);cases e;rfl
 |ref a=>cases (show u=Value.ref a from r);rfl
 |ty n=>cases (show u=Value.type n from r);rfl
section
variable {P:Program}{w:World}{H H':Hp}{h h':Heap}{a C dx:Addr}{fs fs':List (Str×V)}
theorem Zu (hok:HOk P w H h)(e:H a=some (.ins C dx fs)):∃ mA,ObjM h a dx C mA/\(∀ f,RelO (fs.lookup f) (mA f))/\PySem.Within mA (fs.map (·.1))/\fs.length<=1000/\H dx=some (.own a):=by obtain ⟨d,z,ne,ob,mA,n,r,q⟩:=(show ObjOk P w H h a (.ins C dx fs) from hok a _ e);exact ⟨mA,⟨ob,n,ne⟩,r,q,z,d⟩
end
structure Cls (K:Fg)(C:Addr):Prop where
 pg:PySem.W.plainGet K C Str.empty=true
 hd:PySem.W.hasDictIn K C=true
 po:PySem.W.plainOver K C=true
 sa:PySem.W.findIn K (.ref C) "__setattr__"=some (some (.builtin "object.__setattr__"))
theorem Cls.get {K:Fg}{C:Addr}(c:Cls K C)(f:Str):PySem.W.plainGet K C f=true:=c.pg
def NoAttr (K:Fg)(C:Addr)(f:Str):Prop:=PySem.W.findIn K (.ref C) f=some none
theorem NoAttr.taker {K:Fg}{C:Addr}{f:Str}(n:NoAttr K C f):PySem.W.takerIn K C f=some none:=by unfold PySem.W.takerIn;rw [show PySem.W.findIn K (.ref C) f=some none from n];rfl
structure QF (K:Fg)(C:Addr)(m:Str)(f:Addr):Prop where
 at_:PySem.W.findIn K (.ref C) m=some (some (.ref f))
 fn:PySem.W.isFn K (.ref f)=true
 kp:PySem.W.keepIn K (.ref f)=true
section
variable {X:Cx}{pins:List (Addr×Obj)}{Z:St}{H:Hp}{s:Shared}{a C dx:Addr}{fs:List (Str×V)}{f:Str}{v:V}{A:Around}{E:Value->Shared->Prop}
theorem DN {b:Bool}{Q:Value->Shared->Prop}(I:Inv X pins Z H s)(e:H a=some (.ins C dx fs))(c:Cls X.K C)(n:NoAttr X.K C f)(l:fs.lookup f=some v)(h:∀ u s',Inv X pins Z H s'->RelV v u->Q u s'):wpAny (model X.prog X.w) A (getAttr (.ref a) f b) Q E s:=by obtain ⟨mA,O,r,_,_,_⟩:=Zu I.hok e;obtain ⟨u,hu,ru⟩:=RelO.some_of (v:=v) (o:=mA f) (by rw [<- l];exact r f);exact DL I.kIn O (c.get f) c.hd n hu (DO ru) (h u _ (I.tok _) ru)
theorem Wb {m:Str}{g:Addr}{pl:Sem Bool}{Q:Value×List Value->Shared->Prop}(I:Inv X pins Z H s)(e:H a=some (.ins C dx fs))(c:Cls X.K C)(k:QF X.K C m g)(l:fs.lookup m=none)(h:Q (.ref g,[.ref a]) s):wpAny (model X.prog X.w) A (getMethod (.ref a) m pl) Q E s:=by obtain ⟨mA,O,r,_,_,_⟩:=Zu I.hok e;have hn:mA m=none:=RelO.none_of (by rw [<- l];exact r m);exact DM I.kIn O (c.get m) k.at_ k.fn hn h
theorem Td {y:V}{u:Value}{Q:Unit->Shared->Prop}(I:Inv X pins Z H s)(e:H a=some (.ins C dx fs))(c:Cls X.K C)(n:NoAttr X.K C f)(hl:fs.length<1000)(ry:RelV y u)(h:∀ s',Inv X pins Z (v8 H a (.ins C dx (xE f y fs))) s'->Q () s'):wpAny (model X.prog X.w) A (setAttr (.ref a) f u) Q E s:=by
 obtain ⟨mA,O,r,wi,_,ho⟩:=Zu I.hok e;have hz:(fs.map (·.1)).length<=sizeLine:=by rw [List.length_map,sizeLine_eq];omega
 refine Tb I.kIn O c.sa c.po n.taker c.hd wi hz fun h' O' sb=>h _ ?_;have hd:∃ o,h'.get? dx=some o:=let ⟨o,_,_,e',_⟩:=O'.ns;⟨o,e'⟩
 refine I.write (x:=a) (e:=dx) (by rw [e];exact True.intro) (.inr ho) (fun b q hb z=>(sb.2 b hb).trans z) hd ?_;refine ⟨by rw [j7 O.ne];exact ho,?_,O.ne,O'.obj,_,O'.ns,fun g=>?_,fun g hg=>?_⟩
 ·have:=Kp f y fs;omega
 ·show RelO ((xE f y fs).lookup g) (if g=f then some u else mA g);rw [Ku];by_cases q:g=f
  ·rw [if_pos q,if_pos q];exact ry
  ·rw [if_neg q,if_neg q];exact r g
 ·by_cases q:g=f
  ·rw [q];exact (Wl f y fs).1
  ·refine (Wl f y fs).2 g (wi g fun z=>hg ?_);show (if g=f then some u else mA g)=none;rw [if_neg q];exact z
theorem Inv.made (I:Inv X pins Z H s):Inv X pins Z (v8 (v8 H s.heap.objs.size (.own (s.heap.objs.size+1))) (s.heap.objs.size+1) (.ins C s.heap.objs.size [])) { s with heap:=(s.heap.push PySem.W.emptyDict).push (PySem.W.instObj C s.heap.objs.size) }:=by
 have e1:(s.heap.push PySem.W.emptyDict).get? s.heap.objs.size=some PySem.W.emptyDict:=Heap.get?_push_size s.heap rfl;have e2:((s.heap.push PySem.W.emptyDict).push (PySem.W.instObj C s.heap.objs.size)).get? (s.heap.objs.size+1)=some (PySem.W.instObj C s.heap.objs.size):=by have:=Heap.get?_push_size (s.heap.push PySem.W.emptyDict) (o:=PySem.W.instObj C s.heap.objs.size) rfl;rwa [Heap.size_push] at this
 have e3:(s.heap.push PySem.W.emptyDict).Ns s.heap.objs.size (fun _=>none):=⟨PySem.W.emptyDict,#[],_,e1,rfl,(fun e he=>absurd he (by simp)),fun _=>rfl⟩;have I1:=I.laid (a:=s.heap.objs.size) (o:= .own (s.heap.objs.size+1)) (h':=s.heap.push PySem.W.emptyDict) (t':=s.toks) (fun b u q=>Heap.get?_push_of_some _ q) (Nat.le_refl _) ⟨_,e1⟩;refine I1.laid (a:=s.heap.objs.size+1) (o:= .ins C s.heap.objs.size []) (t':=s.toks) (fun b u q=>Heap.get?_push_of_some _ q) (Nat.le_of_eq (Heap.size_push _ _)) ?_;have ne:s.heap.objs.size≠s.heap.objs.size+1:=Nat.ne_of_lt (Nat.lt_succ_self _);refine ⟨by rw [j7 ne,u8],Nat.zero_le _,ne,e2,fun _=>none,(Heap.Ns1.of_empty e3).at fun o q=>Heap.get?_push_of_some _ q,fun _=>True.intro,fun y hy=>absurd rfl hy⟩
theorem Ci {prog:Program}{w:World}{env:Env}{e:Expr}{f:Str}{pos:Pos}{s:Shared}{Q:Value->Shared->Prop}(hb:attributeBase e f env (eval e env)=eval e env)(h:wpAny (model prog w) A (eval e env) (fun o s₁=>wpAny (model prog w) A (getAttr o f true) Q E s₁) E s):wpAny (model prog w) A (eval (.Attribute e f pos) env) Q E s :=
 Attribute_any_ h (by rw [arm_eval_Attribute,hb])
end
def tFld (K:Fg)(ta:TE)(f:Str):TE:=fun Z H Q=>ta Z H fun x H1=>∃ a C dx fs v,x = .ref a/\H1 a=some (.ins C dx fs)/\Cls K C/\NoAttr K C f/\fs.lookup f=some v/\Q v H1
def Xy (K:Fg)(ta tv:TE)(f:Str):TS:=fun D Z H=>tv Z H fun y H1=>ta Z H1 fun x H2=>∃ a C dx fs,x = .ref a/\H2 a=some (.ins C dx fs)/\Cls K C/\NoAttr K C f/\fs.length<1000 /\
 D.nx Z (v8 H2 a (.ins C dx (xE f y fs)))
section
variable {X:Cx}{o e value:Expr}{f:Str}{pos pos' tpos:Pos}{ta tv:TE}
theorem Hh (he:PE X e ta)(hb:attributeBase e f X.env (eval e X.env)=eval e X.env):PE X (.Attribute e f pos) (tFld X.K ta f):=by intro pins s Z H Q I h;refine Ci hb (j6 (he pins s Z H _ I h) fun u s1 ⟨x,H1,I1,rx,a,C,dx,fs,v,ex,ea,c,n,l,q⟩=>?_);subst ex;obtain rfl:u=Value.ref a:=rx;exact DN I1 ea c n l fun u' s2 I2 ru=>⟨v,H1,I2,ru,q⟩
theorem HH (ha:PE X o ta)(hv:PE X value tv)(hs:swapsWith value (some (.Attribute o f pos')) pos.line X.env=pure false):PS X (.Assign [.Attribute o f pos'] value pos) (Xy X.K ta tv f):=by intro pins s Z H D I h;refine plainObj_wpAny_Assign_Attribute (j6 (hv pins s Z H _ I h) fun u s1 ⟨y,H1,I1,ry,q⟩=>j6 (ha pins s1 Z H1 _ I1 q) fun ov s2 ⟨x,H2,I2,rx,a,C,dx,fs,ex,ea,c,n,l,q2⟩=>?_) hs;subst ex;obtain rfl:ov=Value.ref a:=rx;exact Td I2 ea c n l ry fun s3 I3=>⟨Z,_,I3,q2⟩
theorem SN {pl:Sem Bool}{m:Str}{apos:Pos}{args:List Expr}{pins:List (Addr×Obj)}{s:Shared}{Z:St}{H:Hp}{Q:Value->Shared->Prop}{te:TE}(he:PE X e te)(I:Inv X pins Z H s)
  (h:te Z H fun x H1=>∃ a C dx fs g,x = .ref a/\H1 a=some (.ins C dx fs)/\Cls X.K C/\QF X.K C m g/\fs.lookup m=none /\
   ∀ s1,Inv X pins Z H1 s1->wpAny (model X.prog X.w) X.A (callWith pos (.ref g) [.ref a] (backTo pos (starEach args X.env)) (backToKw pos (keywordEach [] X.env))) Q X.xe s1)
  (ht:eval (.Call (.Attribute e m apos) args [] pos) X.env=(do
   let ov <- eval e X.env
   standAt apos.atName
   let (f,first) <- holding [ov] (getMethod ov m pl)
   callWith pos f first (backTo pos (starEach args X.env)) (backToKw pos (keywordEach [] X.env)))) :
  wpAny (model X.prog X.w) X.A (eval (.Call (.Attribute e m apos) args [] pos) X.env) Q X.xe s:=by
 refine PySem.W.methodCall_KW (pl:=pl) (j6 (he pins s Z H _ I h) fun u s1 ⟨x,H1,I1,rx,a,C,dx,fs,g,ex,ea,c,k,l,q⟩=>?_) ht;subst ex;obtain rfl:u=Value.ref a:=rx;exact Wb I1 ea c k l (q s1 I1)
end
section
variable {X:Cx}{pins:List (Addr×Obj)}{Z:St}{H:Hp}{s:Shared}{A:Around}{E:Value->Shared->Prop}{Q:Value->Shared->Prop}{c:Value}{b:Bool}
inductive xU (K:Fg)(H:Hp):V->Value->Prop where
 |non:xU K H .non (.type "NoneType")
 |bl (x:Bool):xU K H (.bl x) (.type "bool")
 |int (i:Int):xU K H (.int i) (.type "int")
 |str (x:Str):xU K H (.str x) (.type "str")
 |flt (x:UInt64):xU K H (.flt x) (.type "float")
 |lst {a:Addr} {xs:List V} (e:H a=some (.lst xs)):xU K H (.ref a) (.type "list")
 |frz {a:Addr} {o:Obj} {xs:List V} (e:H a=some (.frz o (.lst xs))):xU K H (.ref a) (.type "list")
 |tup {a:Addr} {xs:List V} (e:H a=some (.tup xs)):xU K H (.ref a) (.type "tuple")
 |dK {a:Addr} {kvs:List (j5×V)} (e:H a=some (.dK kvs)):xU K H (.ref a) (.type "dict")
 |dT {a:Addr} {kvs:List (List j5×V)} (e:H a=some (.dT kvs)):xU K H (.ref a) (.type "dict")
 |ins {a C dx:Addr} {fs:List (Str×V)} (e:H a=some (.ins C dx fs)) (cl:Cls K C) (ha:PySem.W.findIn K (.ref C) "__class__"=some (some (.builtin "object.__class__")))
   (hn:PySem.W.specialIn K (.builtin "object.__class__") "__get__"=some (some (.builtin "getset_descriptor.__get__"))) (htk:PySem.W.takesIn K (.builtin "object.__class__")=some true)
   (hm:PySem.W.mroIn K C (.type "object")=some true):xU K H (.ref a) (.ref C)
theorem Mv {x:V}{u t:Value}(I:Inv X pins Z H s)(rx:RelV x u)(ty:xU X.K H x t)(e:PySem.W.kitOne X.K t c=some b)(h:∀ tk,Q (.bool b) { s with toks:=tk }):wpAny (model X.prog X.w) A (call (.builtin "isinstance") [u,c]) Q E s:=by
 cases ty with
 |non=>cases (show u=Value.none from rx);exact PySem.W.kia_one PySem.W.kitx_none I.kIn True.intro e (fun z=>nomatch z) h
 |bl y=>cases (show u=Value.bool y from rx);exact PySem.W.kia_one PySem.W.kitx_bool I.kIn True.intro e (fun z=>nomatch z) h
 |int i=>obtain ⟨t,q⟩:=(show ∃ t,u=Value.int i t from rx);cases q;exact PySem.W.kia_one PySem.W.kitx_int I.kIn True.intro e (fun z=>nomatch z) h
 |str y=>obtain ⟨t,q⟩:=(show ∃ t,u=Value.str y t from rx);cases q;exact PySem.W.kia_one PySem.W.kitx_str I.kIn True.intro e (fun z=>nomatch z) h
 |flt y=>obtain ⟨t,q⟩:=(show ∃ t,u=Value.float y t from rx);cases q;exact PySem.W.kia_one PySem.W.kitx_float I.kIn True.intro e (fun z=>nomatch z) h
 |@lst a xs ea=>cases (show u=Value.ref a from rx);obtain ⟨_,_,n,_,h1⟩:=(show ObjOk X.prog X.w H s.heap a (.lst xs) from I.hok a _ ea);exact PySem.W.kia_one PySem.W.kitx_list I.kIn ⟨_,h1,rfl⟩ e (fun z=>nomatch z) h
 |@frz a ob xs ea=>cases (show u=Value.ref a from rx);obtain ⟨_,_,_,n,_,h1⟩:=(show ObjOk X.prog X.w H s.heap a (.frz ob (.lst xs)) from I.hok a _ ea);exact PySem.W.kia_one PySem.W.kitx_list I.kIn ⟨_,h1,rfl⟩ e (fun z=>nomatch z) h
 |@tup a xs ea=>cases (show u=Value.ref a from rx);obtain ⟨_,_,_,p⟩:=(show ObjOk X.prog X.w H s.heap a (.tup xs) from I.hok a _ ea);obtain ⟨o,h1,h2,_⟩:=p;exact PySem.W.kia_one PySem.W.kitx_tuple I.kIn ⟨o,h1,h2⟩ e (fun z=>nomatch z) h
 |@dK a kvs ea=>cases (show u=Value.ref a from rx);obtain ⟨_,_,vs,_,p⟩:=(show ObjOk X.prog X.w H s.heap a (.dK kvs) from I.hok a _ ea);obtain ⟨o,es,ep,h1,h2,_⟩:=p;exact PySem.W.kia_one PySem.W.kitx_dict I.kIn ⟨o,h1,h2.1⟩ e (fun z=>nomatch z) h
 |@dT a kvs ea=>cases (show u=Value.ref a from rx);obtain ⟨_,_,xs,_,o,es,ep,h1,h2,_⟩:=(show ObjOk X.prog X.w H s.heap a (.dT kvs) from I.hok a _ ea);exact PySem.W.kia_one PySem.W.kitx_dict I.kIn ⟨o,h1,h2.1⟩ e (fun z=>nomatch z) h
 |@ins a C dx fs ea cl ha hn htk hm=>cases (show u=Value.ref a from rx);obtain ⟨mA,O,_⟩:=Zu I.hok ea;obtain ⟨od,J,_⟩:=O.look;exact PySem.W.kia_one (PySem.W.kitx_own (cl.get _) cl.hd ha hn htk hm) I.kIn J e (fun z=>nomatch z) h
end
end L2
namespace L2
open PySem PySem.Spec PyProof.Rows
structure Room (k:Nat)(A:Around):Prop where
 hd:A.handled=none
 dp:A.depth+3*k+5<recursionLimit
 un:A.units+16*k+200<cLine
theorem Room.mono {j k:Nat}{A:Around}(r:Room k A)(h:j<=k):Room j A:=⟨r.hd,by have:=r.dp;omega,by have:=r.un;omega⟩
theorem Room.deeper {k:Nat}{A:Around}(r:Room (k+1) A)(env:Env):Room k (A.deeper env) :=
 ⟨r.hd,by have:=r.dp;show A.depth+1+3*k+5<_;omega,by have:=r.un;show A.units+3+16*k+200<_;omega⟩
theorem Room.in1 {k:Nat}{A:Around}(r:Room (k+1) A):Room k A.in1 :=
 ⟨r.hd,by have:=r.dp;show A.depth+3*k+5<_;omega,by have:=r.un;show A.units+1+16*k+200<_;omega⟩
theorem Ln {A:Around}{C:Addr}{us:List Value}{kw:List (Str×Value)}:(A.under (.builtin "type.__call__" ⟨.ref C::us,kw⟩)).depth=A.depth+1:=by first|rfl|simp [Around.under,Code.weight,Code.isCreation,Code.isGuard,Code.isCaller,Code.frames,Code.isFrame,guardIds]
theorem Lq {A:Around}{C:Addr}{us:List Value}{kw:List (Str×Value)}:(A.under (.builtin "type.__call__" ⟨.ref C::us,kw⟩)).units=A.units+1:=by first|rfl|simp [Around.under,Code.cUnits,Code.frames,Code.isFrame]
theorem Room.make {k:Nat}{A:Around}(r:Room (k+1) A)(C:Addr)(us:List Value)(kw:List (Str×Value)):Room k (A.under (.builtin "type.__call__" ⟨.ref C::us,kw⟩)) :=
 ⟨r.hd,by have:=r.dp;rw [Ln];omega,by have:=r.un;rw [Lq];omega⟩
theorem Room.depth {k:Nat}{A:Around}(r:Room k A):A.depth<recursionLimit:=by have:=r.dp;omega
theorem Room.units {k:Nat}{A:Around}(r:Room k A):A.units+64<cLine:=by have:=r.un;omega
def qp:TA:=fun _ H Q=>Q [] H
def o8 (ta:TE)(tr:TA):TA:=fun Z H Q=>ta Z H fun x H1=>tr Z H1 fun xs H2=>Q (x::xs) H2
section
variable {X:Cx}{e:Expr}{es:List Expr}{te:TE}{t:TA}{pos:Pos}
theorem g0:PA X [] qp:=fun _ _ _ _ H Q I h=>Calls.spliced_nil ⟨[],H,I,.nil,h⟩
theorem v9 (ha:PE X e te)(hr:PA X es t)(hs:starEach (e::es) X.env=(false,eval e X.env)::starEach es X.env:=by rfl):PA X (e::es) (o8 te t):=by intro pos pins s Z H Q I h;rw [hs];show wpAny _ _ (spliced ((false,eval e X.env)::backTo pos (starEach es X.env))) _ _ s;refine Calls.spliced_cons (j6 (ha pins s Z H _ I h) fun u s1 ⟨x,H1,I1,r1,q1⟩=>?_);exact j6 (hr pos pins s1 Z H1 _ I1 q1) fun us s2 ⟨xs,H2,I2,r2,q2⟩=>⟨x::xs,H2,I2,.cons r1 r2,q2⟩
def tTup (t:TA):TE:=fun Z H Q=>t Z H fun xs H1=>xs.length<=sizeLine/\∀ p,H1 p=none->Q (.ref p) (v8 H1 p (.tup xs))
def tLst (t:TA):TE:=fun Z H Q=>t Z H fun xs H1=>xs.length<=sizeLine/\∀ p,H1 p=none->Q (.ref p) (v8 H1 p (.lst xs))
theorem xZ {x1}(h:PA X es t):PE X (.Tuple es x1 pos) (tTup t):=by intro pins s Z H Q I hq;refine wpAny_Tuple_spliced (j6 (h pos pins s Z H _ I hq) fun us s1 ⟨xs,H1,I1,r,z,q⟩=>⟨by rw [<- r.length];exact z,?_⟩);have hf:H1 s1.heap.objs.size=none:=I1.hok.fresh (Nat.le_refl _);refine ⟨.ref s1.heap.objs.size,v8 H1 s1.heap.objs.size (.tup xs),I1.laid (t':=s1.toks) (fun b u e=>Heap.get?_push_of_some _ e) (Nat.le_refl _) ?_,rfl,q _ hf⟩;exact ⟨z,us,r,⟨_,Heap.get?_push_size _ rfl,rfl,_,rfl⟩⟩
theorem zf (h:PA X es t):PE X (.List es pos) (tLst t):=by intro pins s Z H Q I hq;refine wpAny_List_spliced (j6 (h pos pins s Z H _ I hq) fun us s1 ⟨xs,H1,I1,r,z,q⟩=>⟨by rw [<- r.length];exact z,?_⟩);have hf:H1 s1.heap.objs.size=none:=I1.hok.fresh (Nat.le_refl _);refine ⟨.ref s1.heap.objs.size,v8 H1 s1.heap.objs.size (.lst xs),I1.laid (t':=s1.toks) (fun b u e=>Heap.get?_push_of_some _ e) (Nat.le_refl _) ?_,rfl,q _ hf⟩;exact ⟨z,us,0,r,Heap.get?_push_size _ rfl⟩
end
abbrev Sp:=List V->Hp->VK->XK->Prop
abbrev CXT:=List Env->Hp->Shared->XK->Value->Shared->Prop
structure Env0 (P:Program)(w:World)(K:Fg)(mg:Str->Option Value)(base:Heap)(A:Around)(outer:List Env)(s:Shared)(H:Hp):Prop where
 frames:A.frames=some outer
 mod:Mod K mg base
 bs:∀ b o,base.get? b=some o->s.heap.get? b=some o/\H b=none
 bsz:base.objs.size<=s.heap.objs.size
 funs:s.heap.FunFrames base outer
 frf:∀ b∈frs outer,H b=none
 hok:HOk P w H s.heap
 bare:AllBare s.gens
 tbs:∀ p∈TABS,H p.1=some (.tbl p.2.1 p.2.2)
def CE (outer:List Env)(P:Program)(w:World)(H:Hp)(s:Shared)(Q:VK)(u:Value)(s':Shared):Prop :=
 ∃ v H',s'.os=s.os/\AllBare s'.gens/\Un (frs outer) [] H H' s.heap s'.heap/\HOk P w H' s'.heap/\RelV v u/\Q v H'
def CR (CX:CXT)(outer:List Env)(P:Program)(w:World)(H:Hp)(s:Shared)(Q:VK)(E:XK)(r:Result)(s':Shared):Prop :=
 match r with
 | .ok (.ret u)=>CE outer P w H s Q u s'
 | .ok _=>False
 | .error e=>CX outer H s E e s'
structure FnOk (P:Program)(w:World)(K:Fg)(mg:Str->Option Value)(base:Heap)(CX:CXT)(k:Nat)(f:Addr)(fd:FuncData)(ps:List Str)(sp:Sp):Prop where
 len:∀ vs H Q E,sp vs H Q E->vs.length=ps.length
 run:∀(A:Around)(outer:List Env)(s:Shared)(H:Hp)(args:Args)(us:List Value)(vs:List V)(Q:VK)(E:XK),Room k A->Env0 P w K mg base A outer s H->BindsTo s fd args (ps.zip us)->Vals vs us->sp vs H Q E ->
  codeAny (model P w) A (.call (.ref f) args) (CR CX outer P w H s Q E) s
theorem FnOk.imp {P:Program}{w:World}{K:Fg}{mg:Str->Option Value}{base:Heap}{CX:CXT}{k:Nat}{f:Addr}{fd:FuncData}{ps:List Str}{sp sp':Sp}(F:FnOk P w K mg base CX k f fd ps sp)(h:∀ vs H Q E,sp' vs H Q E->sp vs H Q E):FnOk P w K mg base CX k f fd ps sp' :=
 ⟨fun vs H Q E q=>F.len vs H Q E (h _ _ _ _ q),fun A outer s H args us vs Q E hr he hb hv hs=>F.run A outer s H args us vs Q E hr he hb hv (h _ _ _ _ hs)⟩
theorem Env0.make {P:Program}{w:World}{K:Fg}{mg:Str->Option Value}{base:Heap}{A:Around}{outer:List Env}{s:Shared}{H:Hp}(e:Env0 P w K mg base A outer s H)(C:Addr)(us:List Value)(kw:List (Str×Value)):Env0 P w K mg base (A.under (.builtin "type.__call__" ⟨.ref C::us,kw⟩)) outer s H:=⟨by first|exact e.frames|(simpa [Around.under,Code.envs,Code.isFrame,pushEnvs] using e.frames),e.mod,e.bs,e.bsz,e.funs,e.frf,e.hok,e.bare,e.tbs⟩
theorem Env0.in1 {P:Program}{w:World}{K:Fg}{mg:Str->Option Value}{base:Heap}{A:Around}{outer:List Env}{s:Shared}{H:Hp}(e:Env0 P w K mg base A outer s H):Env0 P w K mg base A.in1 outer s H:=⟨e.frames,e.mod,e.bs,e.bsz,e.funs,e.frf,e.hok,e.bare,e.tbs⟩
section
variable {X:Cx}{pins:List (Addr×Obj)}{Z:St}{H:Hp}{s s':Shared}
theorem Inv.env0 (I:Inv X pins Z H s):Env0 X.prog X.w X.K X.mg X.base X.A X.stack s H :=
 ⟨I.ok.frames,I.ok.mod,I.bs,Nat.le_trans I.ok.bsz I.sz,I.stack,I.stkFree,I.hok,I.bare,fun p hp=>I.base.tbls _ _ _ (I.ok.tbs p hp)⟩
theorem Inv.after {Q:VK}{u:Value}(I:Inv X pins Z H s)(h:CE X.stack X.prog X.w H s Q u s'):EP X pins Z Q u s':=by obtain ⟨v,H',os,bare,un,hok,r,q⟩:=h;obtain ⟨hh,g,d,t,os'⟩:=s';obtain rfl:os'=s.os:=os;exact ⟨v,H',I.call (h':=hh) (g':=g) (d':=d) (t':=t) (ch:=[]) un hok bare (fun b z=>absurd z (by simp)),r,q⟩
end
def zY (sp:Sp)(dvs:List V)(E:XK)(t:TA):TE:=fun Z H Q=>t Z H fun vs H1=>sp (vs++dvs) H1 Q E
def we (C:Addr)(m:Str)(sp:Sp)(dvs:List V)(E:XK)(ta:TE)(t:TA):TE:=fun Z H Q=>ta Z H fun x H1=>∃ a dx fs,x = .ref a/\H1 a=some (.ins C dx fs)/\fs.lookup m=none /\
 t Z H1 fun vs H2=>sp (x::(vs++dvs)) H2 Q E
def XG (C:Addr)(sp:Sp)(dvs:List V)(E:XK)(t:TA):TE:=fun Z H Q=>t Z H fun vs H1=>∀ x dx,H1 x=none->H1 dx=none->dx≠x ->
 sp (.ref x::(vs++dvs)) (v8 (v8 H1 dx (.own x)) x (.ins C dx [])) (fun v H2=>v = .non/\Q (.ref x) H2) E
def Binds (K:Fg)(fd:FuncData)(ps:List Str)(ds:List Value):Prop :=
 ∀(s:Shared)(us:List Value),K.In s.heap->(us++ds).length=ps.length->BindsTo s fd ⟨us,[]⟩ (ps.zip (us++ds))
theorem Binds.all {K:Fg}{fd:FuncData}{ps:List Str}(h:∀ us:List Value,us.length=ps.length->bindArgs fd ⟨us,[]⟩=pure (ps.zip us)):Binds K fd ps []:=fun s us _ hl=>by
 rw [List.append_nil] at hl ⊢;exact .of_eq (h us hl)
def vz (CX:CXT)(X:Cx)(E:XK):Prop:=∀(pins:List (Addr×Obj))(Z:St)(H:Hp)(s:Shared)(e:Value)(s':Shared),Inv X pins Z H s->CX X.stack H s E e s'->X.xe e s'
section
variable {X:Cx}{CX:CXT}{k:Nat}{f C:Addr}{fd:FuncData}{ps:List Str}{sp:Sp}{dvs:List V}{ds:List Value}{E:XK}{x m:Str}{p pos apos:Pos}{e o:Expr}{es:List Expr}{ta:TE}{t:TA}
theorem Yh {pins:List (Addr×Obj)}{Z:St}{H:Hp}{s:Shared}{Q:VK}{us:List Value}{vs:List V}(F:FnOk X.prog X.w X.K X.mg X.base CX k f fd ps sp)(hr:Room k X.A)(hb:Binds X.K fd ps ds)(hd:Vals dvs ds)(hx:vz CX X E)(I:Inv X pins Z H s)(r:Vals vs us)(h:sp (vs++dvs) H Q E):wpAny (model X.prog X.w) X.A (call (.ref f) us) (EP X pins Z Q) X.xe s:=by
 have r2:Vals (vs++dvs) (us++ds):=r.append hd;have hl:(us++ds).length=ps.length:=by rw [<- r2.length];exact F.len _ _ _ _ h
 refine wpAny_call (codeAny_mono (F.run X.A X.stack s H ⟨us,[]⟩ (us++ds) (vs++dvs) Q E hr I.env0 (hb s us I.kIn hl) r2 h) fun r s' hq=>?_);cases r with
 |error e=>exact hx pins Z H s e s' I hq
 |ok fl =>
  cases fl with
  |ret u=>exact I.after hq
  |next=>exact False.elim hq
  |brk=>exact False.elim hq
  |cont=>exact False.elim hq
theorem Hd (F:FnOk X.prog X.w X.K X.mg X.base CX k f fd ps sp)(hr:Room k X.A)(hg:Gl X x)(hm:X.mg x=some (.ref f))(hk:PySem.W.keepIn X.K (.ref f)=true)(hb:Binds X.K fd ps ds)(hd:Vals dvs ds)(hx:vz CX X E)(ha:PA X (e::es) t)(hdb:(x==("__debug__":Str))=false:=by decide)(he:starEach (e::es) X.env=(false,eval e X.env)::starEach es X.env:=by rfl)(hpl:(backTo pos (starEach es X.env)).any (·.1)=false:=by rfl):PE X (.Call (.Name x p) (e::es) [] pos) (zY sp dvs E t):=by intro pins s Z H Q I h;refine wpAny_Call_Name_kw (Wm I hg hm ?_ hdb);refine PySem.W.callWith_K (h₀:=X.base) I.ok.mod.kin hk (j6 (ha pos pins s Z H _ I h) fun us s1 ⟨vs,H1,I1,r,q⟩=>⟨I1.kIn,?_⟩) he hpl;exact Yh F hr hb hd hx I1 r q
theorem Hm {pl:Sem Bool}(he:PE X o ta)(c:Cls X.K C)(hm:QF X.K C m f)(F:FnOk X.prog X.w X.K X.mg X.base CX k f fd ps sp)(hr:Room k X.A)(hb:Binds X.K fd ps ds)(hd:Vals dvs ds)(hx:vz CX X E)(ha:PA X (e::es) t)
  (hst:starEach (e::es) X.env=(false,eval e X.env)::starEach es X.env:=by rfl) (hpl:(backTo pos (starEach es X.env)).any (·.1)=false:=by rfl)
  (ht:eval (.Call (.Attribute o m apos) (e::es) [] pos) X.env=(do
   let ov <- eval o X.env
   standAt apos.atName
   let (f,first) <- holding [ov] (getMethod ov m pl)
   callWith pos f first (backTo pos (starEach (e::es) X.env)) (backToKw pos (keywordEach [] X.env))):=by rfl) :
  PE X (.Call (.Attribute o m apos) (e::es) [] pos) (we C m sp dvs E ta t):=by
 intro pins s Z H Q I h;refine PySem.W.methodCall_KW (pl:=pl) (j6 (he pins s Z H _ I h) fun u s1 ⟨x,H1,I1,rx,a,dx,fs,ex,ea,l,q⟩=>?_) ht;subst ex;obtain rfl:u=Value.ref a:=rx;refine Wb I1 ea c hm l ?_;refine PySem.W.callWith_K (first:=[.ref a]) (h₀:=X.base) I.ok.mod.kin hm.kp (j6 (ha pos pins s1 Z H1 _ I1 q) fun us s2 ⟨vs,H2,I2,r,q2⟩=>⟨I2.kIn,?_⟩) hst hpl;exact Yh (us:= .ref a::us) (vs:= .ref a::vs) F hr hb hd hx I2 (.cons rfl r) q2
theorem Hn {pl:Sem Bool}(he:PE X o ta)(c:Cls X.K C)(hm:QF X.K C m f)(F:FnOk X.prog X.w X.K X.mg X.base CX k f fd ps sp)(hr:Room k X.A)(hb:Binds X.K fd ps ds)(hd:Vals dvs ds)(hx:vz CX X E)
  (ht:eval (.Call (.Attribute o m apos) [] [] pos) X.env=(do
   let ov <- eval o X.env
   standAt apos.atName
   let (f,first) <- holding [ov] (getMethod ov m pl)
   callWith pos f first (backTo pos (starEach [] X.env)) (backToKw pos (keywordEach [] X.env))):=by rfl) :
  PE X (.Call (.Attribute o m apos) [] [] pos) (we C m sp dvs E ta qp):=by
 intro pins s Z H Q I h;refine PySem.W.methodCall_KW (pl:=pl) (j6 (he pins s Z H _ I h) fun u s1 ⟨x,H1,I1,rx,a,dx,fs,ex,ea,l,q⟩=>?_) ht;subst ex;obtain rfl:u=Value.ref a:=rx;refine Wb I1 ea c hm l ?_;exact PySem.W.callWith_K0 (first:=[.ref a]) I1.kIn hm.kp (Yh (us:=[.ref a]) (vs:=[.ref a]) F hr hb hd hx I1 (.cons rfl .nil) q)
structure Mk (K:Fg)(C f:Addr):Prop where
 makes:PySem.W.makesIn K C=true
 init:PySem.W.findIn K (.ref C) "__init__"=some (some (.ref f))
 fn:PySem.W.isFn K (.ref f)=true
 kp:PySem.W.keepIn K (.ref C)=true
theorem Rm {pins:List (Addr×Obj)}{Z:St}{H:Hp}{s:Shared}{Q:VK}{us:List Value}{vs:List V}(M:Mk X.K C f)(F:FnOk X.prog X.w X.K X.mg X.base CX k f fd ps sp)(hr:Room (k+1) X.A)(hb:Binds X.K fd ps ds)(hd:Vals dvs ds)(hx:vz CX X E)(I:Inv X pins Z H s)(r:Vals vs us)(h:∀ x dx,H x=none->H dx=none->dx≠x->sp (.ref x::(vs++dvs)) (v8 (v8 H dx (.own x)) x (.ins C dx [])) (fun v H2=>v = .non/\Q (.ref x) H2) E):wpAny (model X.prog X.w) X.A (call (.ref C) us) (EP X pins Z Q) X.xe s:=by
 have hq:=h (s.heap.objs.size+1) s.heap.objs.size (I.hok.fresh (Nat.le_succ _)) (I.hok.fresh (Nat.le_refl _)) (Nat.ne_of_lt (Nat.lt_succ_self _));have I2:=Inv.made (C:=C) I;have r2:Vals (V.ref (s.heap.objs.size+1)::(vs++dvs)) (Value.ref (s.heap.objs.size+1)::(us++ds)):= .cons rfl (r.append hd);have hl:(Value.ref (s.heap.objs.size+1)::us++ds).length=ps.length:=by have e:=r2.length;rw [F.len _ _ _ _ hq] at e;exact e.symm
 refine wpAny_call (Lp (f:=f) I.kIn M.makes M.init (beq_iff_eq.mp M.fn) (codeAny_mono (F.run _ X.stack _ _ ⟨Value.ref (s.heap.objs.size+1)::us,[]⟩ (Value.ref (s.heap.objs.size+1)::(us++ds)) _ _ E (hr.make C us [])
  (I2.env0.make C us []) (hb _ (Value.ref (s.heap.objs.size+1)::us) I2.kIn hl) r2 hq) fun r s' hq'=>?_))
 cases r with
 |error e=>exact hx pins Z _ _ e s' I2 hq'
 |ok fl =>
  cases fl with
  |ret u=>obtain ⟨v,H',I3,rv,ev,q3⟩:=I2.after hq';subst ev;exact ⟨rv,⟨V.ref (s.heap.objs.size+1),H',I3,rfl,q3⟩⟩
  |next=>exact False.elim hq'
  |brk=>exact False.elim hq'
  |cont=>exact False.elim hq'
theorem Hk (M:Mk X.K C f)(F:FnOk X.prog X.w X.K X.mg X.base CX k f fd ps sp)(hr:Room (k+1) X.A)(hg:Gl X x)(hm:X.mg x=some (.ref C))(hb:Binds X.K fd ps ds)(hd:Vals dvs ds)(hx:vz CX X E)(ha:PA X (e::es) t)(hdb:(x==("__debug__":Str))=false:=by decide)(he:starEach (e::es) X.env=(false,eval e X.env)::starEach es X.env:=by rfl)(hpl:(backTo pos (starEach es X.env)).any (·.1)=false:=by rfl):PE X (.Call (.Name x p) (e::es) [] pos) (XG C sp dvs E t):=by intro pins s Z H Q I h;refine wpAny_Call_Name_kw (Wm I hg hm ?_ hdb);refine PySem.W.callWith_K (h₀:=X.base) I.ok.mod.kin M.kp (j6 (ha pos pins s Z H _ I h) fun us s1 ⟨vs,H1,I1,r,q⟩=>⟨I1.kIn,?_⟩) he hpl;exact Rm M F hr hb hd hx I1 r q
end
structure y7 (N P:List Str)(sc:Scope):Prop where
 kind:sc.kind = .function
 co:sc.isCoroutine=false
 gen:sc.isGenerator=false
 nd:N.Nodup
 pre:N.take P.length=P
 par:∀ x∈P,sc.names.lookup x=some .local∨sc.names.lookup x=some .cell
 nofree:∀ y∈sc.names,y.2 ≠ .free
theorem UU {kindOf:Str->Option NameKind}{x:Str}:∀{binds:List (Str×Value)}{m:Str->Option Value},(∀ v,(x,v)∉binds)->bindL kindOf binds m x=m x
 |[],_,_=>rfl
 |(n,v)::r,m,h=>by
  unfold bindL;rw [UU fun w hw=>h w (List.mem_cons_of_mem _ hw)];split
  ·have:x≠n:=by rintro rfl;exact h v List.mem_cons_self
   simp [this]
  ·rfl
theorem US {kindOf:Str->Option NameKind}{x:Str}:∀{binds:List (Str×Value)}{m:Str->Option Value},(∀ v,(x,v)∉binds)->bindC kindOf binds m x=m x
 |[],_,_=>rfl
 |(n,v)::r,m,h=>by
  unfold bindC;rw [US fun w hw=>h w (List.mem_cons_of_mem _ hw)];split
  ·rfl
  ·have:x≠n:=by rintro rfl;exact h v List.mem_cons_self
   simp [this]
theorem UT {kindOf:Str->Option NameKind}{x:Str}{v:Value}:∀{P:List Str}{vs:List Value}{i:Nat}{m:Str->Option Value},P.Nodup->P[i]?=some x->vs[i]?=some v->kindOf x=some .local -> bindL kindOf (P.zip vs) m x=some v
 |[],_,_,_,_,h,_,_=>by simp at h
 |_::_,[],_,_,_,_,h,_=>by simp at h
 |p::P,w::vs,0,m,nd,h1,h2,hk=>by
  simp at h1 h2;subst h1;subst h2;show bindL kindOf ((p,w)::P.zip vs) m p=_;unfold bindL;rw [UU fun v hv=>(List.nodup_cons.mp nd).1 (List.of_mem_zip hv).1,if_pos hk];simp
 |p::P,w::vs,i+1,m,nd,h1,h2,hk=>by
  show bindL kindOf ((p,w)::P.zip vs) m x=_;unfold bindL;exact UT (i:=i) (List.nodup_cons.mp nd).2 (by simpa using h1) (by simpa using h2) hk
theorem UR {kindOf:Str->Option NameKind}{x:Str}{v:Value}:∀{P:List Str}{vs:List Value}{i:Nat}{m:Str->Option Value},P.Nodup->P[i]?=some x->vs[i]?=some v->kindOf x≠some .local -> bindC kindOf (P.zip vs) m x=some v
 |[],_,_,_,_,h,_,_=>by simp at h
 |_::_,[],_,_,_,_,h,_=>by simp at h
 |p::P,w::vs,0,m,nd,h1,h2,hk=>by
  simp at h1 h2;subst h1;subst h2;show bindC kindOf ((p,w)::P.zip vs) m p=_;unfold bindC;rw [US fun v hv=>(List.nodup_cons.mp nd).1 (List.of_mem_zip hv).1,if_neg hk];simp
 |p::P,w::vs,i+1,m,nd,h1,h2,hk=>by
  show bindC kindOf ((p,w)::P.zip vs) m x=_;unfold bindC;exact UR (i:=i) (List.nodup_cons.mp nd).2 (by simpa using h1) (by simpa using h2) hk
def start (N:List Str)(vs:List V):St:=vs.map some++List.replicate (N.length-vs.length) none
def xP (CX:CXT)(P:Program)(w:World)(K:Fg)(mg:Str->Option Value)(base:Heap)(N:List Str)(qual:Str)(scope:Scope)(f:Addr)(cd:Value)(A:Around)(outer:List Env)(s:Shared)(H:Hp)(E:XK):Cx where
 prog:=P
 w:=w
 K:=K
 mg:=mg
 base:=base
 A:=A.deeper (envOfC qual scope s.heap.objs.size f cd)
 N:=N
 s₀:=s
 H₀:=H
 env:=envOfC qual scope s.heap.objs.size f cd
 outer:=outer
 stack:=envOfC qual scope s.heap.objs.size f cd::outer
 ex:=[]
 calm:=true
 fn:=fun _=>true
 pn:=[]
 xe:=fun e s'=>wpAny (model P w) (A.deeper (envOfC qual scope s.heap.objs.size f cd)) (leaving (envOfC qual scope s.heap.objs.size f cd) e) (fun _ s''=>CX outer H s E e s'') (fun e' s''=>CX outer H s E e' s'') s'
theorem Gd {sc:Scope}{n:Nat}{x:Str}(h:sc.names.lookup x=some .cell):∃ c,(cellsFrom n sc.names []).lookup x=some c:=by have q:=PySem.W.cellsFrom_some sc.names n [] (.inl h);exact Option.isSome_iff_exists.mp q
theorem Mn {CX:CXT}{P:Program}{w:World}{K:Fg}{mg:Str->Option Value}{base:Heap}{N ps:List Str}{qual:Str}{scope:Scope}{f:Addr}{cd:Value}{A:Around}{outer:List Env}{s s1:Shared}{H:Hp}{E:XK}{us:List Value}{vs:List V}(S:y7 N ps scope)(hd:A.handled=none)(e0:Env0 P w K mg base A outer s H)(hl:vs.length=ps.length)(r:Vals vs us)(x:InCallC s s.heap.objs.size (bindL (envOfC qual scope s.heap.objs.size f cd).kindOf (ps.zip us) fun _=>none) (cellsFrom (s.heap.objs.size+1) scope.names []) (bindC (envOfC qual scope s.heap.objs.size f cd).kindOf (ps.zip us) fun _=>none) s1):Inv (xP CX P w K mg base N qual scope f cd A outer s H E) [] (start N vs) H s1:=by
 have hpl:ps.length<=N.length:=by have:=congrArg List.length S.pre;rw [List.length_take] at this;omega
 obtain ⟨h1,tk,rfl,hk⟩:=x.done;have noA:∀ b:Addr,b∉(xP CX P w K mg base N qual scope f cd A outer s H E).ex:=fun b z=>absurd (show b∈([]:List Addr) from z) (by simp);refine ⟨⟨e0.mod,S.kind,rfl,rfl,Nat.le_refl _,fun y z c h1 h2=>?_,fun y hy=>?_,fun y c _ h=>?_,fun _=>hd,Around.frames_deeper e0.frames,.inr ⟨rfl,rfl⟩,fun b z=>absurd z (noA b),e0.bs,e0.bsz,fun b _ _=>noA b,fun b z=>absurd z (noA b),e0.funs,e0.frf,e0.tbs⟩,
  rfl,e0.bare,Un.kept hk,⟨_,x.toInCall.ns,fun i y v h1 h2 h3=>?_⟩,fun y c h=>⟨_,x.cell y c h⟩,e0.hok.fresh (Nat.le_refl _),fun y c h=>?_,fun p hp=>absurd (show p∈([]:List (Addr×Obj)) from hp) (by simp),e0.hok.kept hk,?_⟩
 ·exact name_of_addr x.apart (PySem.mem_of_lookup h1) (PySem.mem_of_lookup h2)
 ·have hy:scope.names.lookup y=some .cell∨scope.names.lookup y=some .free:=hy;rcases hy with hy|hy
  ·exact Gd hy
  ·exact absurd rfl (S.nofree _ (PySem.mem_of_lookup hy))
 ·exact Nat.le_of_lt (x.above y c (PySem.mem_of_lookup h))
 ·have hi:i<vs.length:=by
   unfold start at h2;by_cases hi:i<vs.length
   ·exact hi
   ·rw [List.getElem?_append_right (by simpa using hi)] at h2;rw [List.getElem?_replicate] at h2;split at h2<;>cases h2
  have ha:vs[i]?=some v:=by
   unfold start at h2;rw [List.getElem?_append_left (by simpa using hi),List.getElem?_map] at h2;cases e:vs[i]? with
   |none=>rw [e] at h2;cases h2
   |some a=>rw [e] at h2;cases h2;rfl
  obtain ⟨u,hu,rv⟩:=r.get ha;have hp:ps[i]?=some y:=by rw [<- S.pre,List.getElem?_take_of_lt (by omega)];exact h1
  have ndP:ps.Nodup:=by rw [<- S.pre];exact S.nd.sublist (List.take_sublist _ _)
  refine ⟨u,rv,?_⟩;rcases S.par y (List.mem_of_getElem? hp) with k|k
  ·exact .inl ⟨k,UT ndP hp hu k⟩
  ·obtain ⟨c,e⟩:=Gd (n:=s.heap.objs.size+1) k;refine .inr ⟨.inl k,c,e,?_⟩;have q:=x.cell y c e;rw [UR ndP hp hu (by show scope.names.lookup y≠_;rw [k];decide)] at q;exact q
 ·exact e0.hok.fresh (Nat.le_of_lt (x.above y c (PySem.mem_of_lookup h)))
 ·unfold start;show _=N.length;rw [List.length_append,List.length_map,List.length_replicate];omega
theorem VY {CX:CXT}{P:Program}{w:World}{K:Fg}{mg:Str->Option Value}{base:Heap}{k:Nat}{f:Addr}{name qual:Str}{params:Arguments}{body:List Stmt}{scope:Scope}{dV kV doc pm cdv ct oc:Value}{an od:Option Addr}{osl:Array (Option Value)}{N ps:List Str}{sp:Sp}(lk:K.lookup f=some ⟨oc,od,.func (PySem.W.fnOf name qual params body scope dV kV doc pm an cdv ct),osl⟩)(hcd:PySem.W.codeIn K cdv qual=true)(S:y7 N ps scope)(len:∀ vs H Q E,sp vs H Q E->vs.length=ps.length)(hbody:∀(A:Around)(outer:List Env)(s:Shared)(H:Hp)(vs:List V)(Q:VK)(E:XK),Room k (A.deeper (envOfC qual scope s.heap.objs.size f cdv))->sp vs H Q E -> ∃ t,PSs (xP CX P w K mg base N qual scope f cdv A outer s H E) body t/\t { nx:=fun _ H'=>Q .non H',rt:=Q } (start N vs) H):FnOk P w K mg base CX (k+1) f (PySem.W.fnOf name qual params body scope dV kV doc pm an cdv ct) ps sp:=by
 refine ⟨len,fun A outer s H args us vs Q E hr e0 hb r hsp=>?_⟩;have hl:=len _ _ _ _ hsp;have KX:K.In s.heap:=e0.mod.kin.keeps fun b o e=>(e0.bs b o e).1;have lim:s.heap.NoLimit:=e0.mod.nolimit.keeps fun b o e=>(e0.bs b o e).1;have hkind:∀ y∈ps.zip us,scope.names.lookup y.1=some .local∨(scope.names.lookup y.1=some .cell/\((cellsFrom (s.heap.objs.size+1) scope.names []).lookup y.1).isSome=true):=fun ⟨n,v⟩ hy=>by
  rcases S.par n (List.of_mem_zip hy).1 with q|q
  ·exact .inl q
  ·exact .inr ⟨q,PySem.W.cellsFrom_some _ _ _ (.inl q)⟩
 refine codeAny_call_function hr.depth (KX _ _ lk) rfl S.co S.gen rfl (PySem.W.codeRec_of KX hcd) (hb _ _ _ _ ?_);refine wpAny_newFunctionEnv_cells S.kind hkind fun env he s1 x=>?_;subst he;refine ⟨lim.keeps x.toInCall.keep,codeAny_func ?_⟩;obtain ⟨t,ht,hq⟩:=hbody A outer s H vs Q E (hr.deeper _) hsp;have I:Inv (xP CX P w K mg base N qual scope f cdv A outer s H E) [] (start N vs) H s1:=Mn S hr.hd e0 hl r x;refine wpAny_mono (ht [] s1 (start N vs) H _ I hq) (fun fl s' hs=>?_) fun e s' hs=>hs;have fin:∀{σ':St}{H':Hp}{v:V}{u:Value},Inv (xP CX P w K mg base N qual scope f cdv A outer s H E) [] σ' H' s'->RelV v u->Q v H'->CE outer P w H s Q u s' :=
  fun {σ' H' v u} J rv q=>⟨v,H',J.os,J.bare,J.base,J.hok,rv,q⟩
 cases fl with
 |ret u=>obtain ⟨v,σ',H',J,rv,q⟩:=hs;exact fin J rv q
 |next=>obtain ⟨σ',H',J,q⟩:=hs;exact fin (v:=V.non) (u:=Value.none) J rfl q
 |brk=>obtain ⟨_,_,_,q⟩:=hs;exact False.elim q
 |cont=>obtain ⟨_,_,_,q⟩:=hs;exact False.elim q
end L2
namespace L2
open PySem PySem.Spec PyProof.Rows
section
variable {X:Cx}{x:Str}{p pos:Pos}{e:Expr}{es:List Expr}{t:TA}{id T:String}{r:List V->Hp->VK->Prop}
def tCB (r:List V->Hp->VK->Prop)(t:TA):TE:=fun Z H Q=>t Z H fun vs H1=>r vs H1 Q
theorem m4 (hc:CallR X (.builtin id) r)(hg:Gl X x)(hm:X.mg x=none)(hv:bootBuiltins x=some (.builtin id))(ha:PA X (e::es) t)(hn:x ≠ "__name__":=by decide)(hdb:(x==("__debug__":Str))=false:=by decide)(he:starEach (e::es) X.env=(false,eval e X.env)::starEach es X.env:=by rfl)(hpl:(backTo pos (starEach es X.env)).any (·.1)=false:=by rfl):PE X (.Call (.Name x p) (e::es) [] pos) (tCB r t):=by intro pins s Z H Q I h;refine wpAny_Call_Name_kw (jG I hg hm hv ?_ hn hdb);exact PyProof.Rows.callWith_builtin1 (j6 (ha pos pins s Z H _ I h) fun us s1 ⟨vs,H1,I1,r1,q1⟩=>hc pins s1 Z H1 vs us Q I1 r1 q1) he hpl
theorem zB (hc:CallR X (.type T) r)(hg:Gl X x)(hm:X.mg x=none)(hv:bootBuiltins x=some (.type T))(ha:PA X (e::es) t)(hn:x ≠ "__name__":=by decide)(hdb:(x==("__debug__":Str))=false:=by decide)(he:starEach (e::es) X.env=(false,eval e X.env)::starEach es X.env:=by rfl)(hpl:(backTo pos (starEach es X.env)).any (·.1)=false:=by rfl):PE X (.Call (.Name x p) (e::es) [] pos) (tCB r t):=by intro pins s Z H Q I h;refine wpAny_Call_Name_kw (jG I hg hm hv ?_ hn hdb);exact PyProof.Rows.callWith_type1 (j6 (ha pos pins s Z H _ I h) fun us s1 ⟨vs,H1,I1,r1,q1⟩=>hc pins s1 Z H1 vs us Q I1 r1 q1) he hpl
end
end L2
namespace HT
open PySem PyProof.Rows
section
variable {prog:Program}{w:World}{A:Around}{E:Value->Shared->Prop}{s:Shared}
theorem cat_tup {t b:Addr}{vs ws:List Value}{Q:Value->Shared->Prop}(ht:IsTup s.heap t vs.toArray)(hb:IsTup s.heap b ws.toArray)(hv:vs≠[])(h1:ws=[]->Q (.ref t) s)(h2:ws≠[]->Q (.ref s.heap.objs.size) { s with heap:=s.heap.push { cls:= .type "tuple",data:= .seq (vs++ws).toArray } })(hsz:vs.length+ws.length<=sizeLine):wpAny (model prog w) A (binaryOp .Add (.ref t) (.ref b)) Q E s:=by
 obtain ⟨⟨cls,dd,data,sl⟩,ho,hc,n,hd⟩:=id ht;obtain ⟨⟨cls2,dd2,data2,sl2⟩,ho2,hc2,n2,hd2⟩:=id hb;simp only at hc hd hc2 hd2;subst hc hd hc2 hd2;have e:vs.toArray++ws.toArray=(vs++ws).toArray:=by simp
 by_cases hw:ws=[]
 ·exact concat_meets ⟨_,ho,rfl⟩ ⟨_,ho2,rfl⟩ noFill_tuple_add seq_tuple_add PySem.F.slot_tuple_add PySem.F.entry_tuple_add (PySem.F.args_tuple_add_2 _ _)
   (tuple_addW1 t b vs.toArray ws.toArray n n2 dd dd2 sl sl2 (by simpa using hv) (by simp [hw])) ⟨ho,ho2,h1 hw⟩
 ·refine concat_meets ⟨_,ho,rfl⟩ ⟨_,ho2,rfl⟩ noFill_tuple_add seq_tuple_add PySem.F.slot_tuple_add PySem.F.entry_tuple_add (PySem.F.args_tuple_add_2 _ _)
   (tuple_addW2 t b vs.toArray ws.toArray n n2 dd dd2 sl sl2 (by simpa using hv) (by simpa using hw) (by rw [List.size_toArray,List.size_toArray];exact hsz)) ⟨ho,ho2,?_⟩
  rw [e];exact h2 hw
def sIx (n d:Nat):Option Int->Nat
 |none=>d
 |some v=>if v<0 then (v+(n:Int)).toNat else min v.toNat n
theorem sIx_none (n d:Nat):sIx n d none=d:=rfl
theorem sIx_nat (n d k:Nat):sIx n d (some (k:Int))=min k n:=by show (if (k:Int)<0 then ((k:Int)+(n:Int)).toNat else min (k:Int).toNat n)=min k n;rw [if_neg (by omega),Int.toNat_natCast]
end
end HT
namespace L2
open PySem PySem.Spec PyProof.Rows
abbrev TO:=St->Hp->(Option Int->Hp->Prop)->Prop
def PO (X:Cx)(e:Option Expr)(t:TO):Prop :=
 ∀(pins:List (Addr×Obj))(s:Shared)(Z:St)(H:Hp)(Q:Option Int->Hp->Prop),Inv X pins Z H s->t Z H Q ->
  wpAny (model X.prog X.w) X.A (evalPart e X.env) (fun u s'=>∃ o H',Inv X pins Z H' s'/\IsPart u o/\Q o H') X.xe s
def Pb:TO:=fun _ H Q=>Q none H
def Pd (t:TE):TO:=fun Z H Q=>t Z H fun x H1=>∃ i,x = .int i/\Q (some i) H1
section
variable {X:Cx}{e:Expr}{te:TE}{lo hi:Option Expr}{tl th:TO}{pos p2:Pos}
theorem Qu:PO X none Pb:=by intro pins s Z H Q I h;rw [evalPart_none];exact wpAny_pure ⟨none,H,I,.none,h⟩
theorem Qv (h:PE X e te):PO X (some e) (Pd te):=by intro pins s Z H Q I hw;rw [evalPart_some];refine j6 (h pins s Z H _ I hw) fun u s1 ⟨x,H1,I1,r1,q1⟩=>?_;obtain ⟨i,rfl,q⟩:=q1;obtain ⟨t,rfl⟩:=r1;exact ⟨some i,H1,I1,.int i t,q⟩
def SlR (X:Cx)(r:V->Option Int->Option Int->Hp->VK->Prop):Prop :=
 ∀(pins:List (Addr×Obj))(s:Shared)(Z:St)(H:Hp)(x:V)(v vl vu:Value)(lo hi:Option Int)(sl:Addr)(Q:VK),Inv X pins Z H s->RelV x v->s.heap.IsSliceOf sl vl vu .none->IsPart vl lo->IsPart vu hi->r x lo hi H Q ->
  ∃ T id,typeLookup (.type T) "__getitem__"=pure (some (.builtin id))/\s.TypeIs v T/\wpAny (model X.prog X.w) X.A (getItem v (.ref sl)) (EP X pins Z Q) X.xe s
def tSl (r:V->Option Int->Option Int->Hp->VK->Prop)(te:TE)(tl th:TO):TE:=fun Z H Q=>te Z H fun x H1=>tl Z H1 fun l H2=>th Z H2 fun u H3=>r x l u H3 Q
theorem Qt {r:V->Option Int->Option Int->Hp->VK->Prop}(hr:SlR X r)(he:PE X e te)(hl:PO X lo tl)(hu:PO X hi th):PE X (.Subscript e (.Slice lo hi none p2) pos) (tSl r te tl th):=by intro pins s Z H Q I h;refine Subscript_ (j6 (he pins s Z H _ I h) fun v s1 ⟨x,H1,I1,r1,q1⟩=>?_);refine wpAny_Slice (j6 (hl pins s1 Z H1 _ I1 q1) fun vl s2 ⟨l,H2,I2,pl,q2⟩=>j6 (hu pins s2 Z H2 _ I2 q2) fun vu s3 ⟨u,H3,I3,pu,q3⟩=>?_);rw [evalPart_none];refine wpAny_pure ?_;have I4:Inv X pins Z H3 { s3 with heap:=s3.heap.push { cls:= .type "slice",data:= .fields #[vl,vu,.none] } }:=I3.kept (t':=s3.toks) fun b ob q=>Heap.get?_push_of_some _ q;obtain ⟨T,id,hT,ht,hg⟩:=hr pins { s3 with heap:=s3.heap.push { cls:= .type "slice",data:= .fields #[vl,vu,.none] } } Z H3 x v vl vu l u s3.heap.objs.size Q I4 r1 (Heap.IsSliceOf.new ..) pl pu q3;show wpAny (model X.prog X.w) X.A (subscriptTail e (.Slice lo hi none p2) v (.ref s3.heap.objs.size)) (EP X pins Z Q) X.xe { s3 with heap:=s3.heap.push { cls:= .type "slice",data:= .fields #[vl,vu,.none] } };exact tail_any (ops:=[.ref s3.heap.objs.size,v]) ht hT hg (by with_unfolding_all rfl)
def wG (xs:List V)(lo hi:Option Int):List V:=(xs.drop (HT.sIx xs.length 0 lo)).take (HT.sIx xs.length xs.length hi-HT.sIx xs.length 0 lo)
theorem Dc (xs:List V)(lo hi:Option Int):(wG xs lo hi).length<=xs.length:=by unfold wG;rw [List.length_take,List.length_drop];omega
def Bh (K:Fg):R2:=fun x y H Q=>∃ a b xs ys,x = .ref a/\y = .ref b/\SqT K H a xs/\SqT K H b ys/\xs≠[]/\xs.length+ys.length<=sizeLine /\
 (ys=[]->Q (.ref a) H)/\(ys≠[]->∀ p,H p=none->Q (.ref p) (v8 H p (.tup (xs++ys))))
theorem Vals.nil_iff {xs:List V}{us:List Value}(r:Vals xs us):us=[]↔xs=[]:=by
 cases r with
 |nil=>simp
 |cons _ _=>simp
theorem NT:OpR X (binaryOp .Add) (Bh X.K):=by intro pins s Z H x y v u Q I rx ry h;obtain ⟨a,b,xs,ys,rfl,rfl,ha,hb,hx,hz,q1,q2⟩:=h;cases rx;cases ry;obtain ⟨its,r1,p1,_⟩:=I.tuple ha;obtain ⟨its2,r2,p2,_⟩:=I.tuple hb;refine HT.cat_tup p1 p2 (fun z=>hx (r1.nil_iff.mp z)) (fun z=>⟨.ref a,H,I,rfl,q1 (r2.nil_iff.mp z)⟩) (fun z=>?_) (by rw [<- r1.length,<- r2.length];exact hz);refine ⟨.ref s.heap.objs.size,_,I.laid (t':=s.toks) (o:= .tup (xs++ys)) (fun b ob q=>Heap.get?_push_of_some _ q) (Nat.le_refl _) ?_,rfl,q2 (fun w=>z (r2.nil_iff.mpr w)) _ (I.hok.fresh (Nat.le_refl _))⟩;exact ⟨by rw [List.length_append];exact hz,_,r1.append r2,IsTup.new _ _⟩
end
end L2
namespace L2
open PySem PySem.Spec PyProof.Rows
def xo (n:Nat)(i:Int):Option Nat:=if 0<=i then (if i<n then some i.toNat else none) else if -(n:Int)<=i then some (i+n).toNat else none
def atI {α:Type}(xs:List α)(i:Int):Option α:=(xo xs.length i).bind fun j=>xs[j]?
theorem Kb {n:Nat}{i:Int}{j:Nat}(h:xo n i=some j):seqIndex? i n=some j/\j<n/\-(n:Int)<=i/\i<n:=by
 unfold xo at h;by_cases h0:0<=i
 ·rw [if_pos h0] at h;by_cases h1:i<n
  ·rw [if_pos h1] at h;have e:i.toNat=j:=Option.some.inj h;exact ⟨by rw [seqIndex_of h0 h1,e],by omega,by omega,h1⟩
  ·rw [if_neg h1] at h;cases h
 ·rw [if_neg h0] at h;by_cases h1:-(n:Int)<=i
  ·rw [if_pos h1] at h;have e:(i+n).toNat=j:=Option.some.inj h;exact ⟨by rw [seqIndex_neg (by omega) h1,e],by omega,h1,by omega⟩
  ·rw [if_neg h1] at h;cases h
theorem Vv {α:Type}{xs:List α}{i:Int}{v:α}(h:atI xs i=some v):∃ j,seqIndex? i xs.length=some j/\xs[j]?=some v/\j<xs.length/\-(xs.length:Int)<=i/\i<xs.length:=by
 unfold atI at h;cases e:xo xs.length i with
 |none=>rw [e] at h;cases h
 |some j=>rw [e] at h;obtain ⟨h1,h2,h3,h4⟩:=Kb e;exact ⟨j,h1,h,h2,h3,h4⟩
theorem za {α:Type}{xs:List α}{j:Nat}{v:α}(h:xs[j]?=some v):atI xs (j:Int)=some v:=by
 have hj:j<xs.length:=(List.getElem?_eq_some_iff.mp h).1;have e:xo xs.length (j:Int)=some j:=by unfold xo;rw [if_pos (by omega),if_pos (by omega)];simp
 unfold atI;rw [e];exact h
def YF (b:Expr):Prop:=∀ o i,subscripted b false o i=operate [o,i] (getItem o i)
def IxR (X:Cx)(r:R2):Prop :=
 ∀(value slice:Expr)(pins:List (Addr×Obj))(s:Shared)(Z:St)(H:Hp)(x y:V)(v u:Value)(Q:VK),Inv X pins Z H s->RelV x v->RelV y u->r x y H Q ->
  subscripted slice false v u=operate [v,u] (getItem v u)->wpAny (model X.prog X.w) X.A (subscriptTail value slice v u) (EP X pins Z Q) X.xe s
def MtR (X:Cx)(id:String)(r:V->List V->Hp->VK->Prop):Prop :=
 ∀(pins:List (Addr×Obj))(s:Shared)(Z:St)(H:Hp)(x:V)(xs:List V)(v:Value)(us:List Value)(Q:VK),Inv X pins Z H s->RelV x v->Vals xs us->r x xs H Q ->
  wpAny (model X.prog X.w) X.A (call (.builtin id) (v::us)) (EP X pins Z Q) X.xe s
section
variable {X:Cx}{a b:Expr}{ta tb:TE}{pos:Pos}
theorem IxR.or {r r':R2}(h:IxR X r)(h':IxR X r'):IxR X (fun x y H Q=>r x y H Q∨r' x y H Q):=by
 intro value slice pins s Z H x y v u Q I rx ry q hs;rcases q with q|q
 ·exact h value slice pins s Z H x y v u Q I rx ry q hs
 ·exact h' value slice pins s Z H x y v u Q I rx ry q hs
theorem ZX {r:R2}(hr:IxR X r)(ha:PE X a ta)(hb:PE X b tb)(hs:YF b):PE X (.Subscript a b pos) (tOp r ta tb):=by intro pins s Z H Q I h;exact Subscript_ (binT ha hb I h fun v u s2 x y H2 I2 rx ry q=>hr a b pins s2 Z H2 x y v u Q I2 rx ry q (hs _ _))
def rIxL (K:Fg):R2:=fun x y H Q=>∃ p xs i v,x = .ref p/\y = .int i/\SqL K H p xs/\atI xs i=some v/\Q v H
def rIxT (K:Fg):R2:=fun x y H Q=>∃ p xs i v,x = .ref p/\y = .int i/\SqT K H p xs/\atI xs i=some v/\Q v H
def rIxS:R2:=fun x y H Q=>∃ z i c,x = .str z/\y = .int i/\z.length<=sizeLine/\atI z.cps.toList i=some c/\Q (.str ⟨#[c]⟩) H
theorem ix_list:IxR X (rIxL X.K):=by
 intro value slice pins s Z H x y v u Q I rx ry h hs;obtain ⟨p,xs,i,z,rfl,rfl,hq,he,q⟩:=h;cases rx;obtain ⟨t,rfl⟩:=ry;obtain ⟨its,r,pl,hz⟩:=I.list hq;obtain ⟨j,h1,h2,h3,h4,h5⟩:=Vv he;obtain ⟨w,ew,rw'⟩:=r.get h2;have hl:=r.length;have hn:=vM;have fin:EP X pins Z Q w s:=⟨z,H,I,rw',q⟩;by_cases h0:0<=i
 ·have hj:i.toNat=j:=by rw [seqIndex_of h0 h5] at h1;exact Option.some.inj h1
  exact item_listR pl.isList h0 (by omega) (by rw [hj];simpa using ew) fin hs
 ·have hj:(i+(its.toArray.size:Int)).toNat=j:=by rw [seqIndex_neg (by omega) h4] at h1;rw [List.size_toArray,<- hl];exact Option.some.inj h1
  exact subscriptTail_builtinR (x:=w) pl.isList.typeIs slot_list_getitem.lookup
   (wpAny_getItem_list_neg (Q:=fun r s'=>r=w/\EP X pins Z Q r s') pl.isList (by omega) (by rw [List.size_toArray]<;>omega) (by omega) (by rw [hj];simpa using ew) ⟨rfl,fin⟩) hs
theorem ix_tup:IxR X (rIxT X.K):=by
 intro value slice pins s Z H x y v u Q I rx ry h hs;obtain ⟨p,xs,i,z,rfl,rfl,hq,he,q⟩:=h;cases rx;obtain ⟨t,rfl⟩:=ry;obtain ⟨its,r,pl,hz⟩:=I.tuple hq;obtain ⟨j,h1,h2,h3,h4,h5⟩:=Vv he;obtain ⟨w,ew,rw'⟩:=r.get h2;have hl:=r.length;have hn:=vM;have fin:EP X pins Z Q w s:=⟨z,H,I,rw',q⟩;exact subscriptTail_builtinR (x:=w) pl.typeIs slot_tuple_getitem.lookup
  (getItem_tuple (j:=j) (Q:=fun r s'=>r=w/\EP X pins Z Q r s') pl (by omega) (by omega) (by rw [List.size_toArray,<- hl];exact h1) (by simpa using ew) ⟨rfl,fin⟩) hs
theorem MK:IxR X rIxS:=by
 intro value slice pins s Z H x y v u Q I rx ry h hs;obtain ⟨z,i,c,rfl,rfl,hz,he,q⟩:=h;obtain ⟨t,rfl⟩:=rx;obtain ⟨t',rfl⟩:=ry;obtain ⟨j,h1,h2,h3,h4,h5⟩:=Vv he;have hl:z.cps.toList.length=z.length:=by simp [Str.length]
 rw [hl] at h1 h4 h5;have hn:=vM;exact tail_any (typeIs_str s z t) slot_str_getitem.lookup (getItem_str (c:=c) (by
  have e1:decide (i < -(2 ^ 63:Int))=false:=decide_eq_false (by omega);have e2:decide (i >= 2 ^ 63)=false:=decide_eq_false (by omega);rw [e1,e2,Bool.or_false]) (by rw [h1];simpa using h2) ⟨.str ⟨#[c]⟩,H,I.tok _,⟨_,rfl⟩,q⟩) hs
def rIx (K:Fg):R2:=fun x y H Q=>rIxL K x y H Q∨rIxT K x y H Q∨rIxS x y H Q
theorem MI:IxR X (rIx X.K):=ix_list.or (ix_tup.or MK)
theorem Ls (its:List Value)(n j:Nat)(u:Value):Obj.mapSeq (·.setIfInBounds j u) { cls:= .type "list",data:= .seq its.toArray n }={ cls:= .type "list",data:= .seq (its.set j u).toArray n }:=by simp [Obj.mapSeq]
theorem Inv.lst {pins:List (Addr×Obj)}{Z:St}{H:Hp}{s:Shared}{p:Addr}{xs:List V}(I:Inv X pins Z H s)(h:H p=some (.lst xs)):∃ (its:List Value) (n:Nat),Vals xs its/\s.heap.get? p=some { cls:= .type "list",data:= .seq its.toArray n }/\xs.length<=sizeLine:=by obtain ⟨z,its,n,r,e⟩:=I.hok p _ h;exact ⟨its,n,r,e,z⟩
theorem Inv.lstUpd {pins:List (Addr×Obj)}{Z:St}{H:Hp}{s:Shared}{p:Addr}{xs ys:List V}{its its':List Value}{n n':Nat}{f:Obj->Obj}(I:Inv X pins Z H s)(h:H p=some (.lst xs))(ho:s.heap.get? p=some { cls:= .type "list",data:= .seq its.toArray n })(hf:f { cls:= .type "list",data:= .seq its.toArray n }={ cls:= .type "list",data:= .seq its'.toArray n' })(r:Vals ys its')(hz:ys.length<=sizeLine)(t:Nat):Inv X pins Z (v8 H p (.lst ys)) { s with heap:=s.heap.update p f,toks:=t }:=by
 have e:(s.heap.update p f).get? p=some { cls:= .type "list",data:= .seq its'.toArray n' }:=by rw [Heap.get?_update_self f ho (by rw [hf]<;>rfl),hf]
 refine I.write (x:=p) (e:=p) (by rw [h];trivial) (.inl rfl) (fun b u hb q=>(Heap.get?_update_other _ _ (Ne.symm hb)).trans q) ⟨_,e⟩ ?_;exact ⟨hz,its',n',r,e⟩
def rSetL:V->V->V->Hp->(Hp->Prop)->Prop:=fun o i v H Q=>∃ p xs k j,o = .ref p/\i = .int k/\H p=some (.lst xs)/\xo xs.length k=some j/\Q (v8 H p (.lst (xs.set j v)))
theorem BK:PSet X rSetL:=by
 intro pins s Z H o i v ov iv u Q I ro ri rv h;obtain ⟨p,xs,k,j,rfl,rfl,hp,hj,q⟩:=h;cases ro;obtain ⟨t,rfl⟩:=ri;obtain ⟨its,n,r,ho,hz⟩:=I.lst hp;obtain ⟨h1,h2,h3,h4⟩:=Kb hj;have hl:=r.length;have hn:=vM;have I':Inv X pins Z (v8 H p (.lst (xs.set j v))) { s with heap:=s.heap.update p (Obj.mapSeq (·.setIfInBounds j u)) } :=
  I.lstUpd hp ho (Ls its n j u) (r.set rv j) (by rw [List.length_set];exact hz) s.toks
 by_cases h0:0<=k
 ·have hk:k.toNat=j:=by rw [seqIndex_of h0 h4] at h1;exact Option.some.inj h1
  exact PySem.W.ki_setAt ho h0 (by omega) (by rw [List.size_toArray,<- hl];exact h4) (by rw [hk];exact ⟨_,I',q⟩)
 ·have hk:(k+(its.toArray.size:Int)).toNat=j:=by rw [seqIndex_neg (by omega) h3] at h1;rw [List.size_toArray,<- hl];exact Option.some.inj h1
  exact PySem.W.ki_setBack ho (by omega) (by rw [List.size_toArray,<- hl];exact h3) (by omega) (by rw [hk];exact ⟨_,I',q⟩)
theorem Th (lo hi:Option Int)(n:Nat):(sliceBounds lo hi none n).1=((HT.sIx n 0 lo:Nat):Int)/\(sliceBounds lo hi none n).2.1=((HT.sIx n n hi:Nat):Int)/\(sliceBounds lo hi none n).2.2=1:=by
 refine ⟨?_,?_,rfl⟩
 ·cases lo with
  |none=>simp [sliceBounds,HT.sIx]
  |some i =>
   simp only [sliceBounds,HT.sIx,Option.getD_none,show (1:Int) > 0 by decide,if_true];by_cases h:i<0
   ·simp only [h,if_true]<;>omega
   ·simp only [h,if_false]<;>omega
 ·cases hi with
  |none=>simp [sliceBounds,HT.sIx]
  |some i =>
   simp only [sliceBounds,HT.sIx,Option.getD_none,show (1:Int) > 0 by decide,if_true];by_cases h:i<0
   ·simp only [h,if_true]<;>omega
   ·simp only [h,if_false]<;>omega
theorem Tg (its:List Value)(lo hi:Option Int):slicePick its.toArray lo hi none=((its.drop (HT.sIx its.length 0 lo)).take (HT.sIx its.length its.length hi-HT.sIx its.length 0 lo)).toArray:=by obtain ⟨h1,h2,h3⟩:=Th lo hi its.toArray.size;unfold slicePick;rw [h1,h2,h3];simp only [sliceRange_one,pick_run,List.size_toArray]<;>rfl
def rSlL (K:Fg):V->Option Int->Option Int->Hp->VK->Prop:=fun x lo hi H Q=>∃ a xs,x = .ref a/\SqL K H a xs/\∀ p,H p=none->Q (.ref p) (v8 H p (.lst (wG xs lo hi)))
theorem Te:SlR X (rSlL X.K):=by intro pins s Z H x v vl vu lo hi sl Q I rx hs pl pu h;obtain ⟨a,xs,rfl,hx,q⟩:=h;cases rx;obtain ⟨its,r,ht,hz⟩:=I.list hx;have hlen:=r.length;refine ⟨"list",_,slot_list_getitem.lookup,ht.isList.typeIs,?_⟩;refine wpAny_getItem_list_slice ht.isList hs pl pu .none (by simp) ?_ (by rw [List.size_toArray]<;>omega);rw [Tg,<- hlen];refine ⟨.ref s.heap.objs.size,_,I.laid (t':=s.toks) (o:= .lst (wG xs lo hi)) (fun b ob q=>Heap.get?_push_of_some _ q) (Nat.le_refl _) ?_,rfl,q _ (I.hok.fresh (Nat.le_refl _))⟩;exact ⟨Nat.le_trans (Dc xs lo hi) hz,_,0,(r.drop (HT.sIx xs.length 0 lo)).take (HT.sIx xs.length xs.length hi-HT.sIx xs.length 0 lo),Heap.get?_push_size _ rfl⟩
def p7:V->Bool
 | .non=>true
 | .bl _=>true
 | .int _=>true
 | .str _=>true
 |_=>false
def qu:V->V->Bool
 | .non,.non=>true
 | .bl a,.bl b=>a==b
 | .bl a,.int b=>(if a then 1 else 0)==b
 | .int a,.bl b=>a==(if b then 1 else 0)
 | .int a,.int b=>a==b
 | .str a,.str b=>a==b
 |_,_=>false
theorem VQ {A:Around}{s:Shared}{y x:V}{u v:Value}(ry:RelV y u)(rx:RelV x v)(fy:p7 y=true)(fx:p7 x=true):SeqAt.EqAt A s u v (qu y x):=by
 cases y with
 |non =>
  cases ry;cases x with
  |non=>cases rx;exact SeqAt.EqAt.same _
  |bl b=>cases rx;exact SeqAt.EqAt.none_bool b
  |int b=>obtain ⟨t,rfl⟩:=rx;exact SeqAt.EqAt.none_int b t
  |str b=>obtain ⟨t,rfl⟩:=rx;exact SeqAt.EqAt.none_str b t
  |_=>exact absurd (show false=true from fx) Bool.false_ne_true
 |bl a =>
  cases ry;cases x with
  |non=>cases rx;exact SeqAt.EqAt.bool_none a
  |bl b=>cases rx;exact SeqAt.EqAt.bool_bool a b
  |int b=>obtain ⟨t,rfl⟩:=rx;exact SeqAt.EqAt.bool_int a b t
  |str b=>obtain ⟨t,rfl⟩:=rx;exact SeqAt.EqAt.bool_str a b t
  |_=>exact absurd (show false=true from fx) Bool.false_ne_true
 |int a =>
  obtain ⟨t',rfl⟩:=ry;cases x with
  |non=>cases rx;exact SeqAt.EqAt.int_none a t'
  |bl b=>cases rx;exact SeqAt.EqAt.int_bool a t' b
  |int b=>obtain ⟨t,rfl⟩:=rx;exact SeqAt.EqAt.int_int a t' b t
  |str b=>obtain ⟨t,rfl⟩:=rx;exact SeqAt.EqAt.int_str a t' b t
  |_=>exact absurd (show false=true from fx) Bool.false_ne_true
 |str a =>
  obtain ⟨t',rfl⟩:=ry;cases x with
  |non=>cases rx;exact SeqAt.EqAt.str_none a t'
  |bl b=>cases rx;exact SeqAt.EqAt.str_bool a t' b
  |int b=>obtain ⟨t,rfl⟩:=rx;exact SeqAt.EqAt.str_int a t' b t
  |str b=>obtain ⟨t,rfl⟩:=rx;exact SeqAt.EqAt.str_str a t' b t
  |_=>exact absurd (show false=true from fx) Bool.false_ne_true
 |_=>exact absurd (show false=true from fy) Bool.false_ne_true
def eqU (x:V)(u:Value):Bool:=match u with
 | .none=>qu .non x
 | .bool b=>qu (.bl b) x
 | .int i _=>qu (.int i) x
 | .str z _=>qu (.str z) x
 |_=>false
theorem VR {x y:V}{u:Value}(r:RelV y u)(f:p7 y=true):eqU x u=qu y x:=by
 cases y with
 |non=>cases r;rfl
 |bl b=>cases r;rfl
 |int i=>obtain ⟨t,rfl⟩:=r;rfl
 |str z=>obtain ⟨t,rfl⟩:=r;rfl
 |_=>exact absurd (show false=true from f) Bool.false_ne_true
theorem Vt {x:V}:∀{xs:List V}{us:List Value},Vals xs us->xs.all p7=true->us.any (eqU x)=xs.any fun y=>qu y x
 |_,_,.nil,_=>rfl
 |y::xs,u::us,.cons r t,f=>by
  rw [List.all_cons,Bool.and_eq_true] at f;rw [List.any_cons,List.any_cons,VR r f.1,Vt t f.2]
theorem ZN {A:Around}{s:Shared}{x:V}{v:Value}(rx:RelV x v)(fx:p7 x=true):∀{xs:List V}{us:List Value},Vals xs us->xs.all p7=true->∀ u∈us,SeqAt.EqAt A s u v (eqU x u)
 |_,_,.nil,_=>fun u hu=>by cases hu
 |y::xs,u::us,.cons r t,f=>fun u' hu=>by
  rw [List.all_cons,Bool.and_eq_true] at f;rcases List.mem_cons.mp hu with rfl|hu
  ·rw [VR r f.1];exact VQ r rx f.1 fx
  ·exact ZN rx fx t f.2 u' hu
def inV (x:V)(xs:List V):Bool:=xs.any fun y=>qu y x
def rIn (K:Fg)(neg:Bool):R2:=fun x y H Q=>∃ p xs,y = .ref p/\(SqL K H p xs∨SqT K H p xs)/\p7 x=true/\xs.all p7=true/\Q (.bl (if neg then !inV x xs else inV x xs)) H
theorem NU:OpR X (compareOp .In) (rIn X.K false):=by
 intro pins s Z H x y v u Q I rx ry h;obtain ⟨p,xs,rfl,hq,fx,fs,q⟩:=h;cases ry;rcases hq with hq|hq
 ·obtain ⟨its,r,pl,hz⟩:=I.list hq;refine SeqAt.in_listAt (eqU x) pl.isList (fun w hw=>ZN rx fx r fs w (by simpa using hw)) ⟨.bl _,H,I,rfl,?_⟩;rw [show its.toArray.any (eqU x)=its.any (eqU x) by simp,Vt r fs];exact q
 ·obtain ⟨its,r,pl,hz⟩:=I.tuple hq;refine SeqAt.in_tupleAt (eqU x) pl (fun w hw=>ZN rx fx r fs w (by simpa using hw)) ⟨.bl _,H,I,rfl,?_⟩;rw [show its.toArray.any (eqU x)=its.any (eqU x) by simp,Vt r fs];exact q
theorem CM:CallR X (.builtin "len") (fun xs H Q=>∃ p ys,xs=[.ref p]/\(SqL X.K H p ys∨SqT X.K H p ys)/\Q (.int ys.length) H):=by
 intro pins s Z H xs us Q I r h;obtain ⟨p,ys,rfl,hq,q⟩:=h;obtain ⟨u,rfl,rx⟩:=zH r;cases rx;have hn:=vM;rcases hq with hq|hq
 ·obtain ⟨its,r',pl,hz⟩:=I.list hq;have hlen:=r'.length;exact Calls.call_len_list pl.isList (by simp only [List.size_toArray]<;>omega) ⟨.int ys.length,H,I.tok _,⟨s.toks+1,by rw [List.size_toArray,hlen]⟩,q⟩
 ·obtain ⟨its,r',pl,hz⟩:=I.tuple hq;have hlen:=r'.length;exact len_tuple pl (by simp only [List.size_toArray]<;>omega) ⟨.int ys.length,H,I.tok _,⟨s.toks+1,by rw [List.size_toArray,hlen]⟩,q⟩
theorem CallR.or {f:Value}{r r':List V->Hp->VK->Prop}(h:CallR X f r)(h':CallR X f r'):CallR X f (fun xs H Q=>r xs H Q∨r' xs H Q):=by
 intro pins s Z H xs us Q I rs q;rcases q with q|q
 ·exact h pins s Z H xs us Q I rs q
 ·exact h' pins s Z H xs us Q I rs q
theorem CN:CallR X (.type "list") (fun xs H Q=>∃ p ys,xs=[.ref p]/\(SqL X.K H p ys∨SqT X.K H p ys)/\∀ l,H l=none->Q (.ref l) (v8 H l (.lst ys))):=by
 intro pins s Z H xs us Q I r h;obtain ⟨p,ys,rfl,hq,q⟩:=h;obtain ⟨u,rfl,rx⟩:=zH r;cases rx;have fin:∀(its:List Value),Vals ys its->ys.length<=sizeLine->∀(h':Heap)(c':Nat),(∀ b o',s.heap.get? b=some o'->h'.get? b=some o') ->
   h'.get? s.heap.objs.size=some { cls:= .type "list",dict:=none,data:= .seq its.toArray c',slots:=#[] }->EP X pins Z Q (.ref s.heap.objs.size) { s with heap:=h' }:=fun its r' hz h' c' kp e =>
  ⟨.ref s.heap.objs.size,_,I.laid (t':=s.toks) kp (Nat.le_refl _) (show ObjOk X.prog X.w _ h' _ (.lst ys) from ⟨hz,its,c',r',e⟩),rfl,q _ (I.hok.fresh (Nat.le_refl _))⟩
 rcases hq with hq|hq
 ·obtain ⟨its,r',pl,hz⟩:=I.list hq;have hlen:=r'.length;obtain ⟨o,ho,hc,n,hd⟩:=pl.isList;exact call_list_seq p (.inl rfl) ho hc hd (fun h' c' kp e=>fin its r' hz h' c' kp e) (by simp only [List.size_toArray]<;>omega)
 ·obtain ⟨its,r',pl,hz⟩:=I.tuple hq;have hlen:=r'.length;obtain ⟨o,ho,hc,n,hd⟩:=pl;exact call_list_seq p (.inr rfl) ho hc hd (fun h' c' kp e=>fin its r' hz h' c' kp e) (by simp only [List.size_toArray]<;>omega)
def tyV (K:Fg)(T:String)(x:V)(H:Hp):Prop:=match x with
 | .str _=>T = "str"
 | .int _=>T = "int"
 | .ref p=>(T = "list"/\∃ xs,SqL K H p xs)∨(T = "tuple"/\∃ o,K.lookup p=some o/\o.cls = .type "tuple"/\o.dict=none) ∨
   (T = "dict"/\((∃ kvs,H p=some (.dK kvs))∨∃ kvs,H p=some (.dT kvs)))∨(T = "set"/\∃ S n,H p=some (.set S n))
 |_=>False
theorem TQ {pins:List (Addr×Obj)}{Z:St}{H:Hp}{s:Shared}{T:String}{x:V}{v:Value}(I:Inv X pins Z H s)(r:RelV x v)(ty:tyV X.K T x H):s.TypeIs v T/\∀ a,v = .ref a->∃ ob,s.heap.get? a=some ob/\ob.dict=none:=by
 cases x with
 |str z=>obtain ⟨t,rfl⟩:=r;cases (show T = "str" from ty);exact ⟨typeIs_str s z t,fun _ e=>nomatch e⟩
 |int i=>obtain ⟨t,rfl⟩:=r;cases (show T = "int" from ty);exact ⟨typeIs_int s i t,fun _ e=>nomatch e⟩
 |ref p =>
  cases r;rcases ty with ⟨rfl,xs,hq⟩|⟨rfl,o,hk,hc,hd⟩|⟨rfl,hk⟩|⟨rfl,S,n,hk⟩
  ·obtain ⟨its,_,pl,_⟩:=I.list hq;refine ⟨pl.isList.typeIs,fun a e=>?_⟩;cases e;obtain ⟨o,n,e,c,hd,_⟩:=pl;exact ⟨o,e,hd⟩
  ·refine ⟨⟨o,I.kIn p o hk,hc⟩,fun a e=>?_⟩;cases e;exact ⟨o,I.kIn _ o hk,hd⟩
  ·have z:∃ o,s.heap.get? p=some o/\o.ExactDict:=by
    rcases hk with ⟨kvs,hk⟩|⟨kvs,hk⟩
    ·obtain ⟨_,_,_,_,o,_,_,e,ex,_⟩:=I.hok p _ hk;exact ⟨o,e,ex⟩
    ·obtain ⟨_,_,_,_,o,_,_,e,ex,_⟩:=I.hok p _ hk;exact ⟨o,e,ex⟩
   obtain ⟨o,e,ex⟩:=z;refine ⟨⟨o,e,ex.1⟩,fun a e2=>?_⟩;cases e2;exact ⟨o,e,ex.2.1⟩
  ·obtain ⟨o,_,_,_,e,ex,_⟩:=I.hok p _ hk;refine ⟨⟨o,e,ex.1⟩,fun a e2=>?_⟩;cases e2;exact ⟨o,e,ex.2.1⟩
 |_=>exact False.elim ty
def tBM (K:Fg)(T:String)(r:V->List V->Hp->VK->Prop)(to:TE)(t:TA):TE:=fun Z H Q=>to Z H fun x H1=>tyV K T x H1/\t Z H1 fun xs H2=>r x xs H2 Q
variable {o e:Expr}{es:List Expr}{to:TE}{t:TA}{name:Str}{apos cpos:Pos}{T id:String}{r:V->List V->Hp->VK->Prop}
theorem pe_bm (pa:PlainAttrs T)(slot:Slot T name id)(hty:typeOf (.builtin id)=pure (.type "method_descriptor"))(hm:MtR X id r)(ho:PE X o to)(ha:PA X (e::es) t)(hbase:attributeBase o name X.env (eval o X.env)=eval o X.env:=by rfl)(hfew:((backTo cpos (starEach (e::es) X.env)).all (fun x=>!x.1)&&(backToKw cpos (keywordEach [] X.env)).all (fun x=>x.1.isSome)&&decide ((e::es).length+([]:List Keyword).length+(if ([]:List Keyword).isEmpty then 0 else 1)<30))=true:=by rfl)(hline:(apos.endLine==cpos.line)=true:=by rfl)(hs:starEach (e::es) X.env=(false,eval e X.env)::starEach es X.env:=by rfl)(hplain:(backTo cpos (starEach es X.env)).any (·.1)=false:=by rfl):PE X (.Call (.Attribute o name apos) (e::es) [] cpos) (tBM X.K T r to t):=by intro pins s Z H Q I h;refine wpAny_Call_method_late hbase hfew hline rfl (j6 (ho pins s Z H _ I h) fun v s1 ⟨x,H1,I1,r1,ty,q1⟩=>?_);obtain ⟨h1,h2⟩:=TQ I1 r1 ty;refine ⟨T,id,pa,slot,hty,h1,h2,?_⟩;have hA:=ha cpos pins s1 Z H1 _ I1 q1;rw [hs] at hA ⊢;refine Calls.callWith_builtin (by show (false || (backTo cpos (starEach es X.env)).any (·.1))=false;rw [hplain]<;>rfl) (Calls.evalArgs_plain ?_);exact j6 hA fun us s2 ⟨vs,H2,I2,r2,q2⟩=>hm pins s2 Z H2 x vs v us Q I2 r1 r2 q2
end
end L2
namespace L2
open PySem PySem.Spec PyProof.Rows
def MtM (X:Cx)(id:String)(r:V->List V->Hp->VK->Prop):Prop :=
 ∀(pins:List (Addr×Obj))(s:Shared)(Z:St)(H:Hp)(x:V)(xs:List V)(v:Value)(us:List Value)(Q:VK),Inv X pins Z H s->RelV x v->Vals xs us->r x xs H Q ->
  wpAny (model X.prog X.w) X.A (call (.builtin id) (v::us)) (EP X pins Z Q) X.xe s
theorem Vals.one:∀{x:V}{us:List Value},Vals [x] us->∃ u,us=[u]/\RelV x u
 |_,_,.cons r .nil=>⟨_,rfl,r⟩
theorem Vals.two:∀{x y:V}{us:List Value},Vals [x,y] us->∃ u v,us=[u,v]/\RelV x u/\RelV y v
 |_,_,_,.cons r (.cons q .nil)=>⟨_,_,rfl,r,q⟩
theorem Vals.eraseIdx:∀{xs:List V}{us:List Value}(i:Nat),Vals xs us->Vals (xs.eraseIdx i) (us.eraseIdx i)
 |_,_,_,.nil=> .nil
 |_,_,0,.cons _ t=>t
 |_,_,i+1,.cons r t=> .cons r (Vals.eraseIdx i t)
theorem Vals.rep {xs:List V}{us:List Value}(h:Vals xs us):∀ k:Nat,Vals (List.replicate k xs).flatten (List.replicate k us).flatten
 |0=> .nil
 |k+1=>by
  rw [List.replicate_succ,List.replicate_succ,List.flatten_cons,List.flatten_cons];exact Vals.append h (Vals.rep h k)
theorem Ko {α:Type}:∀(l:List α)(i:Nat),(l.eraseIdx i).length<=l.length
 |[],_=>Nat.le_refl _
 |_::_,0=>Nat.le_succ _
 |_::r,i+1=>Nat.succ_le_succ (Ko r i)
theorem GO (its:List Value):∀(k:Nat)(acc:List Value), List.foldl (fun x1 x2=>x1++x2) acc.toArray (List.replicate k its.toArray)=(acc++(List.replicate k its).flatten).toArray
 |0,acc=>by simp
 |k+1,acc=>by
  have e:acc.toArray++its.toArray=(acc++its).toArray:=by simp
  have e2:(acc++its)++(List.replicate k its).flatten=acc++(List.replicate (k+1) its).flatten:=by rw [List.replicate_succ,List.flatten_cons,List.append_assoc]
  rw [<- e2,<- GO its k (acc++its),<- e,List.replicate_succ,List.foldl_cons]
section
variable {X:Cx}{pins:List (Addr×Obj)}{Z:St}{H:Hp}{s:Shared}{l b:Addr}{xs ys zs:List V}
theorem Inv.lset {its its':List Value}{n:Nat}{f:Array Value->Array Value}{t':Nat}(I:Inv X pins Z H s)(hH:H l=some (.lst xs))(e:s.heap.get? l=some { cls:= .type "list",data:= .seq its.toArray n })(hf:f its.toArray=its'.toArray)(hv:Vals ys its')(hz:ys.length<=sizeLine):Inv X pins Z (v8 H l (.lst ys)) { s with heap:=s.heap.update l (Obj.mapSeq f),toks:=t' }:=by have q:=PySem.IsL.update e f;rw [hf] at q;refine I.write (x:=l) (e:=l) (by rw [hH];exact trivial) (.inl rfl) (fun b' u hb hu=>(Heap.get?_update_other s.heap (Obj.mapSeq f) (Ne.symm hb)).trans hu) ⟨_,q⟩ ?_;exact ⟨hz,its',_,hv,q⟩
theorem Inv.lnew {its:List Value}{t':Nat}(I:Inv X pins Z H s)(hv:Vals ys its)(hz:ys.length<=sizeLine):Inv X pins Z (v8 H s.heap.objs.size (.lst ys)) { s with heap:=s.heap.push { cls:= .type "list",data:= .seq its.toArray },toks:=t' } :=
 I.laid (fun _ _ q=>Heap.get?_push_of_some _ q) (Nat.le_refl _) ⟨hz,its,0,hv,Heap.get?_push_size _ rfl⟩
theorem Inv.fresh (I:Inv X pins Z H s):H s.heap.objs.size=none:=I.hok.fresh (Nat.le_refl _)
theorem Inv.lstM (I:Inv X pins Z H s)(hH:H l=some (.lst xs)):xs.length<=sizeLine/\∃ (its:List Value) (n:Nat),Vals xs its/\xs.length=its.length/\s.heap.get? l=some { cls:= .type "list",data:= .seq its.toArray n }:=by obtain ⟨z,its,n,r,e⟩:=I.hok l _ hH;exact ⟨z,its,n,r,r.length,e⟩
theorem LH {n:Nat}(h:n<=sizeLine):Builtin.List.listTooLong n=false:=by unfold Builtin.List.listTooLong;exact decide_eq_false (by omega)
end
section
variable {X:Cx}
def Ya:V->List V->Hp->VK->Prop:=fun x vs H Q=>∃ l xs y,x = .ref l/\vs=[y]/\H l=some (.lst xs)/\xs.length<sizeLine/\Q .non (v8 H l (.lst (xs++[y])))
theorem ZQ:MtM X "list.append" Ya:=by intro pins s Z H x vs v us Q I rx rv h;obtain ⟨l,xs,y,rfl,rfl,hH,hz,q⟩:=h;cases rx;obtain ⟨u,rfl,ru⟩:=rv.one;obtain ⟨z,its,n,r,hl,e⟩:=I.lstM hH;refine call_meets F.slot_list_append ⟨_,e,rfl⟩ F.entry_list_append (F.args_list_append_2 _ _) (PySem.list_append l its.toArray n u (by rw [List.size_toArray];omega)) ⟨e,?_⟩;refine ⟨.non,_,I.lset (its':=its++[u]) hH e (by simp) (r.append (.cons ru .nil)) ?_,rfl,q⟩;rw [List.length_append,List.length_singleton];omega
def Yb:V->List V->Hp->VK->Prop:=fun x vs H Q=>∃ l xs i k y,x = .ref l/\vs=[.int i]/\H l=some (.lst xs)/\-(2 ^ 63)<=i/\i<2 ^ 63/\seqIndex? i xs.length=some k/\xs[k]?=some y/\Q y (v8 H l (.lst (xs.eraseIdx k)))
theorem WF:MtM X "list.pop" Yb:=by
 intro pins s Z H x vs v us Q I rx rv h;obtain ⟨l,xs,i,k,y,rfl,rfl,hH,h1,h2,hk,hy,q⟩:=h;cases rx;obtain ⟨u,rfl,ru⟩:=rv.one;obtain ⟨t,rfl⟩:=ru;obtain ⟨z,its,n,r,hl,e⟩:=I.lstM hH;obtain ⟨w,hw,rw'⟩:=r.get hy;refine call_meets F.slot_list_pop ⟨_,e,rfl⟩ F.entry_list_pop (F.args_list_pop_2 _ _)
  (MeetsSeq.list_pop_at l its.toArray n i t k w (fitsIndex_both h1 h2) (by rw [List.size_toArray,<- hl];exact hk) (by rw [<- Array.getElem?_toList];exact hw) (by rw [List.size_toArray];omega)) ⟨e,?_⟩
 refine ⟨y,_,I.lset (its':=its.eraseIdx k) hH e ?_ (r.eraseIdx k) ?_,rw',q⟩
 ·show its.toArray.eraseIdxIfInBounds k=(its.eraseIdx k).toArray;rw [List.eraseIdxIfInBounds_toArray]
 ·have:=Ko xs k;omega
def rRep:R2:=fun x y H Q=>∃ l k xs,x = .ref l/\y = .int k/\H l=some (.lst xs)/\-(2 ^ 63)<=k/\k<2 ^ 63/\xs.length*k.toNat<=sizeLine /\
 ∀ p,H p=none->Q (.ref p) (v8 H p (.lst (List.replicate k.toNat xs).flatten))
theorem Lc {α:Type}(xs:List α)(k:Nat):(List.replicate k xs).flatten.length=k*xs.length:=by
 induction k with
 |zero=>simp
 |succ k ih=>rw [List.replicate_succ,List.flatten_cons,List.length_append,ih,Nat.succ_mul,Nat.add_comm]
theorem NY:OpR X (binaryOp .Mult) rRep:=by
 intro pins s Z H x y v u Q I rx ry h;obtain ⟨l,k,xs,rfl,rfl,hH,h1,h2,hz,q⟩:=h;cases rx;obtain ⟨t,rfl⟩:=ry;obtain ⟨z,its,n,r,hl,e⟩:=I.lstM hH;have hlen:its.toArray.size*k.toNat<=sizeLine:=by rw [List.size_toArray,<- hl];exact hz
 have hcap:¬ its.toArray.size*k.toNat > (2 ^ 63-1) / 8:=by
  have:(sizeLine:Nat)<=(2 ^ 63-1) / 8:=by decide
  omega
 have hfit:¬ (!Builtin.List.listFitsIndex k)=true:=by rw [fitsIndex_both h1 h2];exact Bool.false_ne_true
 have hlong:¬ Builtin.List.listTooLong (its.toArray.size*k.toNat)=true:=by rw [LH hlen];exact Bool.false_ne_true
 have hnew:List.foldl (fun x1 x2=>x1++x2) #[] (List.replicate (if its.toArray.isEmpty=true then 0 else k.toNat) its.toArray)=(List.replicate k.toNat its).flatten.toArray:=by
  have f0:∀ m:Nat,List.foldl (fun x1 x2=>x1++x2) #[] (List.replicate m its.toArray)=(List.replicate m its).flatten.toArray:=fun m=>by
   have:=GO its m [];rw [List.nil_append] at this;exact this
  rw [f0];cases its with
  |nil=>simp
  |cons a r'=>rw [if_neg (by simp)]
 refine wpAny_binaryOp_repeat_ref (T := "list") (U := "int") (by decide) ⟨_,e,rfl⟩ (fun s'=>typeIs_int s' k t) noFill_list_mul F.fills_int_mul F.slot_int_rmul repeat_list F.slot_int_index.lookup
  (call_meets F.slot_int_rmul (typeIs_int s k t) F.entry_int_rmul (F.args_int_rmul_2 _ _) (int___rmul___int_list k t l its.toArray n)
   ⟨e,rfl,⟨_,e,rfl⟩,call_meets F.slot_list_mul ⟨_,e,rfl⟩ F.entry_list_mul (F.args_list_mul_2 _ _) (AutoListH.list___mul___list_int_3 l its.toArray n k t hfit hcap hlong) ⟨e,?_⟩⟩)
 rw [hnew];exact ⟨.ref _,_,I.lnew (t':=s.toks) (r.rep k.toNat) (by rw [Lc,Nat.mul_comm];exact hz),rfl,q _ I.fresh⟩
end
end L2
namespace L2
open PySem PySem.Spec PyProof.Rows
section
variable {κ:Type}[DecidableEq κ]
def xw (kvs:List (κ×V))(k:κ):Option V:=(kvs.find? fun kv=>decide (kv.1=k)).map (·.2)
def zD (kvs:List (κ×V))(k:κ)(v:V):List (κ×V) :=
 if (kvs.any fun kv=>decide (kv.1=k))=true then kvs.map (fun kv=>if kv.1=k then (kv.1,v) else kv) else kvs++[(k,v)]
theorem Yw {p:κ×V}{r:List (κ×V)}{k:κ}(e:p.1=k):xw (p::r) k=some p.2:=by simp [xw,List.find?_cons,e]
theorem Yv {p:κ×V}{r:List (κ×V)}{k:κ}(e:¬ p.1=k):xw (p::r) k=xw r k:=by simp [xw,List.find?_cons,e]
theorem Yu (k:κ):∀ kvs:List (κ×V),(kvs.any fun kv=>decide (kv.1=k))=(xw kvs k).isSome
 |[]=>rfl
 |p::r=>by
  rw [List.any_cons];by_cases e:p.1=k
  ·simp only [Yw e,decide_eq_true e,Bool.true_or,Option.isSome_some]
  ·rw [Yv e,decide_eq_false e,Bool.false_or];exact Yu k r
theorem Kq (kvs:List (κ×V))(k:κ)(v:V):(zD kvs k v).length<=kvs.length+1:=by
 unfold zD;split
 ·rw [List.length_map];omega
 ·rw [List.length_append,List.length_cons,List.length_nil];omega
theorem RelO.isSome_eq {o:Option V}{u:Option Value}(r:RelO o u):o.isSome=u.isSome:=by
 cases o with
 |none=>cases u with
  |none=>rfl
  |some _=>exact (show False from r).elim
 |some _=>cases u with
  |none=>exact (show False from r).elim
  |some _=>rfl
theorem KV.val {kvs:List (κ×V)}{vs:List (κ×Value)}(r:KV kvs vs)(k:κ):RelO (xw kvs k) (valueAt vs k):=by
 unfold KV at r
 induction r with
 |nil=>exact True.intro
 |@cons p q ps qs h t ih =>
  obtain ⟨h1,h2⟩:=h;by_cases e:p.1=k
  ·have e':q.1=k:=h1.symm.trans e;have b:valueAt (q::qs) k=some q.2:=by simp [valueAt,List.find?_cons,e']
   rw [Yw e,b];exact h2
  ·have e':¬ q.1=k:=fun z=>e (h1.trans z);have b:valueAt (q::qs) k=valueAt qs k:=by simp [valueAt,List.find?_cons,e']
   rw [Yv e,b];exact ih
theorem KV.any {kvs:List (κ×V)}{vs:List (κ×Value)}(r:KV kvs vs)(k:κ):(kvs.any fun kv=>decide (kv.1=k))=vs.any fun kv=>decide (kv.1=k):=by
 unfold KV at r
 induction r with
 |nil=>rfl
 |cons h t ih=>rw [List.any_cons,List.any_cons,ih,h.1]
theorem KV.repl {kvs:List (κ×V)}{vs:List (κ×Value)}(r:KV kvs vs)(k:κ){y:V}{u:Value}(ry:RelV y u):KV (kvs.map fun kv=>if kv.1=k then (kv.1,y) else kv) (vs.map fun kv=>if kv.1=k then (kv.1,u) else kv):=by
 unfold KV at r ⊢
 induction r with
 |nil=>exact .nil
 |@cons p q ps qs h t ih =>
  rw [List.map_cons,List.map_cons];refine .cons ?_ ih;obtain ⟨h1,h2⟩:=h;by_cases e:p.1=k
  ·rw [if_pos e,if_pos (h1.symm.trans e)];exact ⟨h1,ry⟩
  ·rw [if_neg e,if_neg (fun z=>e (h1.trans z))];exact ⟨h1,h2⟩
theorem KV.put {kvs:List (κ×V)}{vs:List (κ×Value)}(r:KV kvs vs)(k:κ){y:V}{u:Value}(ry:RelV y u):KV (zD kvs k y) (stored vs k u):=by
 unfold zD stored;rw [r.any k];by_cases e:(vs.any fun kv=>decide (kv.1=k))=true
 ·rw [if_pos e,if_pos e];exact r.repl k ry
 ·rw [if_neg e,if_neg e];exact Paired.snoc r ⟨rfl,ry⟩
theorem KV.length {kvs:List (κ×V)}{vs:List (κ×Value)}(r:KV kvs vs):kvs.length=vs.length:=Paired.length r
end
theorem QW {P:Program}{w:World}{k:j5}{u:Value}(r:RelV (kV k) u):(qF P w).is k u=true:=by
 cases k with
 |inl i=>obtain ⟨t,e⟩:=(show ∃ t,u=Value.int i t from r);subst e;exact LA P w i t
 |inr x=>obtain ⟨t,e⟩:=(show ∃ t,u=Value.str x t from r);subst e;exact WE P w x t
theorem GZ {P:Program}{w:World}:∀{ks:List j5}{us:List Value},Vals (ks.map kV) us->ItemsAre (qF P w) ks us
 |[],_,r=>by rw [List.map_nil] at r;cases r;exact .nil
 |k::ks,_,r=>by
  rw [List.map_cons] at r;cases r with
  |cons h t=>exact .cons (QW h) (GZ t)
abbrev KT (H:Hp):List (List j5×V)->List (List j5×Addr×Value)->Prop:=Paired fun p q=>p.1=q.1/\H q.2.1=some (.tup (p.1.map kV))/\RelV p.2 q.2.2
theorem KT.val {H:Hp}{kvs:List (List j5×V)}{xs:List (List j5×Addr×Value)}(r:KT H kvs xs)(k:List j5):RelO (xw kvs k) ((atKey xs k).map (·.2)):=by
 induction r with
 |nil=>exact True.intro
 |@cons p q ps qs h t ih =>
  obtain ⟨h1,_,h2⟩:=h;by_cases e:p.1=k
  ·have e':q.1=k:=h1.symm.trans e;have b:atKey (q::qs) k=some q.2:=by simp [atKey,List.find?_cons,e']
   rw [Yw e,b];exact h2
  ·have e':¬ q.1=k:=fun z=>e (h1.trans z);have b:atKey (q::qs) k=atKey qs k:=by simp [atKey,List.find?_cons,e']
   rw [Yv e,b];exact ih
theorem KT.repl {H:Hp}{kvs:List (List j5×V)}{xs:List (List j5×Addr×Value)}(r:KT H kvs xs)(k:List j5){y:V}{u:Value}(ry:RelV y u):KT H (kvs.map fun kv=>if kv.1=k then (kv.1,y) else kv) (xs.map (putAt k u)):=by
 induction r with
 |nil=>exact .nil
 |@cons p q ps qs h t ih =>
  rw [List.map_cons,List.map_cons];refine .cons ?_ ih;obtain ⟨h1,h2,h3⟩:=h;unfold putAt;by_cases e:p.1=k
  ·rw [if_pos e,if_pos (h1.symm.trans e)];exact ⟨h1,h2,ry⟩
  ·rw [if_neg e,if_neg (fun z=>e (h1.trans z))];exact ⟨h1,h2,h3⟩
theorem KT.put {H:Hp}{kvs:List (List j5×V)}{xs:List (List j5×Addr×Value)}(r:KT H kvs xs)(k:List j5){b:Addr}{y:V}{u:Value}(hb:H b=some (.tup (k.map kV)))(ry:RelV y u):KT H (zD kvs k y) (storedH xs k b u):=by
 have e:(kvs.any fun kv=>decide (kv.1=k))=(atKey xs k).isSome:=by rw [Yu,(r.val k).isSome_eq,Option.isSome_map]
 unfold zD storedH;rw [e];by_cases q:(atKey xs k).isSome=true
 ·rw [if_pos q,if_pos q];exact r.repl k ry
 ·rw [if_neg q,if_neg q];exact Paired.snoc r ⟨rfl,hb,ry⟩
theorem KT.keeps {H H':Hp}{kvs:List (List j5×V)}{xs:List (List j5×Addr×Value)}(r:KT H kvs xs)(ht:∀ b ys,H b=some (.tup ys)->H' b=some (.tup ys)):KT H' kvs xs :=
 Paired.mapP r fun _ _ z=>⟨z.1,ht _ _ z.2.1,z.2.2⟩
section
variable {P:Program}{w:World}{H:Hp}{h:Heap}{a:Addr}
theorem Bs {u:HO}(ok:HOk P w H h)(e:Rd H a u):ObjOk P w H h a u:=e.ok ok
theorem wO {kvs:List (j5×V)}(ok:HOk P w H h)(e:Rd H a (.dK kvs)):kvs.length<=sizeLine/\(a==sysModules)=false/\∃ vs,KV kvs vs/\h.DictOf (qF P w) a vs :=
 show ObjOk P w H h a (.dK kvs) from Bs ok e
theorem dk_of {kvs:List (j5×V)}(ok:HOk P w H h)(e:H a=some (.dK kvs)):kvs.length<=sizeLine/\(a==sysModules)=false/\∃ vs,KV kvs vs/\h.DictOf (qF P w) a vs:=wO ok (.inl e)
theorem Zx {ks:List j5}(ok:HOk P w H h)(e:H a=some (.tup (ks.map kV))):(tupleKind (qF P w)).is h ks a:=by obtain ⟨_,its,r,o,h1,h2,n,h3⟩:=(show ObjOk P w H h a (.tup (ks.map kV)) from ok a _ e);exact ⟨o,its.toArray,n,h1,h2,h3,by simpa using GZ r⟩
theorem Zd {kvs:List (List j5×V)}(ok:HOk P w H h)(e:Rd H a (.dT kvs)):kvs.length<=sizeLine/\(a==sysModules)=false /\ ∃ xs,KT H kvs xs/\h.DictOfH (tupleKind (qF P w)) a xs:=by
 obtain ⟨z,y,xs,r,o,es,ep,h1,h2,h3,h4,h5⟩:=(show ObjOk P w H h a (.dT kvs) from Bs ok e);refine ⟨z,y,xs,r,o,es,ep,h1,h2,h3,h4,fun x hx=>?_,h5⟩;have all:∀{l:List (List j5×V)}{m:List (List j5×Addr×Value)},KT H l m->∀ x∈m,(tupleKind (qF P w)).is h x.1 x.2.1:=by
  intro l m q
  induction q with
  |nil=>intro x hx;exact nomatch hx
  |@cons p q ps qs hq t ih =>
   intro x hx;rcases List.mem_cons.mp hx with e|hx
   ·subst e;exact Zx ok (by rw [<- hq.1];exact hq.2.1)
   ·exact ih x hx
 exact all r x hx
theorem dt_of {kvs:List (List j5×V)}(ok:HOk P w H h)(e:H a=some (.dT kvs)):kvs.length<=sizeLine/\(a==sysModules)=false /\ ∃ xs,KT H kvs xs/\h.DictOfH (tupleKind (qF P w)) a xs:=Zd ok (.inl e)
end
def DGet (H:Hp)(a:Addr)(y:V)(r:Option V):Prop :=
 (∃ kvs k,Rd H a (.dK kvs)/\y=kV k/\r=xw kvs k)∨∃ kvs k b,Rd H a (.dT kvs)/\y = .ref b/\H b=some (.tup (k.map kV))/\r=xw kvs k
def DPut (H:Hp)(a:Addr)(y v:V)(H':Hp):Prop :=
 (∃ kvs k,H a=some (.dK kvs)/\y=kV k/\kvs.length<sizeLine/\H'=v8 H a (.dK (zD kvs k v))) ∨
 ∃ kvs k b,H a=some (.dT kvs)/\y = .ref b/\H b=some (.tup (k.map kV))/\kvs.length<sizeLine/\H'=v8 H a (.dT (zD kvs k v))
theorem DGet.k {H:Hp}{a:Addr}{kvs:List (j5×V)}{k:j5}(e:H a=some (.dK kvs)):DGet H a (kV k) (xw kvs k):= .inl ⟨kvs,k,.inl e,rfl,rfl⟩
theorem DPut.k {H:Hp}{a:Addr}{kvs:List (j5×V)}{k:j5}{v:V}(e:H a=some (.dK kvs))(hl:kvs.length<sizeLine):DPut H a (kV k) v (v8 H a (.dK (zD kvs k v))):= .inl ⟨kvs,k,e,rfl,hl,rfl⟩
section
variable {X:Cx}{pins:List (Addr×Obj)}{Z:St}{H:Hp}{s:Shared}{a:Addr}{y v:V}{u r:Value}{o:Option V}{A:Around}{E:Value->Shared->Prop}
theorem Inv.big (I:Inv X pins Z H s):sysModules<s.heap.objs.size:=by have h:mainGlobals<s.heap.objs.size:=(I.mod.glob.keeps I.bk).lt;exact Nat.lt_trans (by decide) h
theorem Dh {Q:Value->Shared->Prop}(hu:A.units+1<cLine)(I:Inv X pins Z H s)(g:DGet H a y (some v))(ry:RelV y u)(h:∀ w' s',Inv X pins Z H s'->RelV v w'->Q w' s'):wpAny (model X.prog X.w) A (getItem (.ref a) u) Q E s:=by
 rcases g with ⟨kvs,k,e,ey,l⟩|⟨kvs,k,b,e,ey,eb,l⟩
 ·subst ey;obtain ⟨z,hd,vs,rel,dd⟩:=wO I.hok e;obtain ⟨w',hw,rw'⟩:=RelO.some_of (v:=v) (o:=valueAt vs k) (by rw [l];exact rel.val k);exact wpAny_getItem_of (QW ry) dd.mapOf hw (h w' _ (I.tok _) rw')
 ·subst ey;cases (show u=Value.ref b from ry);obtain ⟨z,hd,xs,rel,dd⟩:=Zd I.hok e;obtain ⟨w',hw,rw'⟩:=RelO.some_of (v:=v) (o:=(atKey xs k).map (·.2)) (by rw [l];exact rel.val k);obtain ⟨p,hp,hp2⟩:=Option.map_eq_some_iff.mp hw;refine wpAny_getItem_heap (tupleKind_room_in1 hu) (Zx I.hok eb) dd hp ?_;rw [hp2];exact h w' _ (I.tok _) rw'
theorem d_in {Q:Value->Shared->Prop}(hu:A.units+1<cLine)(I:Inv X pins Z H s)(g:DGet H a y o)(ry:RelV y u)(h:∀ s',Inv X pins Z H s'->Q (.bool o.isSome) s'):wpAny (model X.prog X.w) A (compareOp .In u (.ref a)) Q E s:=by
 rcases g with ⟨kvs,k,e,ey,l⟩|⟨kvs,k,b,e,ey,eb,l⟩
 ·subst ey;obtain ⟨z,hd,vs,rel,dd⟩:=wO I.hok e;refine wpAny_in_of (QW ry) hd dd.mapOf ?_;rw [<- (rel.val k).isSome_eq,<- l];exact h _ (I.tok _)
 ·subst ey;cases (show u=Value.ref b from ry);obtain ⟨z,hd,xs,rel,dd⟩:=Zd I.hok e;refine wpAny_in_heap (tupleKind_room_in1 hu) (Zx I.hok eb) hd dd ?_;have q:=(rel.val k).isSome_eq;rw [Option.isSome_map] at q;rw [<- q,<- l];exact h _ (I.tok _)
theorem Gy {h':Heap}{t':Nat}{ob:HO}(I:Inv X pins Z H s)(mu:Mut (H a))(hs:Heap.SameBut a s.heap h')(he:∃ q,h'.get? a=some q)(new:ObjOk X.prog X.w (v8 H a ob) h' a ob):Inv X pins Z (v8 H a ob) { s with heap:=h',toks:=t' } :=
 I.write (x:=a) (e:=a) mu (.inl rfl) (fun b q hb z=>(hs.2 b hb).trans z) he new
theorem GB {P:Program}{w:World}{H':Hp}{h':Heap}{kvs:List (j5×V)}{vs:List (j5×Value)}(z:kvs.length<=sizeLine)(hd:(a==sysModules)=false)(rel:KV kvs vs)(dd:h'.DictOf (qF P w) a vs):ObjOk P w H' h' a (.dK kvs):=⟨z,hd,vs,rel,dd⟩
theorem Di {H':Hp}{Q:Unit->Shared->Prop}(hu:A.units+1<cLine)(I:Inv X pins Z H s)(g:DPut H a y v H')(ry:RelV y u)(rv:RelV v r)(h:∀ s',Inv X pins Z H' s'->Q () s'):wpAny (model X.prog X.w) A (setItem (.ref a) u r) Q E s:=by
 rcases g with ⟨kvs,k,e,ey,l,eH⟩|⟨kvs,k,b,e,ey,eb,l,eH⟩
 ·subst ey eH;obtain ⟨z,hd,vs,rel,dd⟩:=dk_of I.hok e;have hz:vs.length<=sizeLine:=by rw [<- rel.length];exact z
  have hl:(zD kvs k v).length<=sizeLine:=by have:=Kq kvs k v;omega
  refine wpAny_setItem_pairs (hsz:=hz) (QW ry) dd fun h' dd' hs=>h _ ?_;have he:∃ q,h'.get? a=some q:=let ⟨q,_,_,hq,_⟩:=dd';⟨q,hq⟩
  exact Gy I (by rw [e];exact True.intro) hs he (GB hl hd (rel.put k rv) dd')
 ·subst ey eH;cases (show u=Value.ref b from ry);obtain ⟨z,hd,xs,rel,dd⟩:=dt_of I.hok e;have hz:xs.length<=sizeLine:=by rw [<- Paired.length rel];exact z
  have hl:(zD kvs k v).length<=sizeLine:=by have:=Kq kvs k v;omega
  refine wpAny_setItem_heap (hsz:=hz) (tupleKind_room_in1 hu) (Zx I.hok eb) dd fun h' dd' hs=>h _ ?_;obtain ⟨q,es,ep,hq,h2,h3,h4,_,h5⟩:=dd';refine Gy I (by rw [e];exact True.intro) hs ⟨q,hq⟩ ⟨hl,hd,_,(rel.put k eb rv).keeps fun c ys ec=>?_,q,es,ep,hq,h2,h3,h4,h5⟩;rw [j7 (ne_of ec e (fun z=>nomatch z))];exact ec
end
section
variable {X:Cx}{pins:List (Addr×Obj)}{Z:St}{H:Hp}{s:Shared}{a:Addr}{kvs:List (j5×V)}{k:j5}{u:Value}{A:Around}{E:Value->Shared->Prop}
theorem d_len {Q:Value->Shared->Prop}(I:Inv X pins Z H s)(e:Rd H a (.dK kvs))(h:∀ t s',Inv X pins Z H s'->Q (.int kvs.length t) s'):wpAny (model X.prog X.w) A (call (.builtin "len") [.ref a]) Q E s:=by obtain ⟨z,hd,vs,rel,dd⟩:=wO I.hok e;refine call_len_dict hd dd (by rw [<- rel.length];rw [sizeLine_eq] at z;omega) ?_;rw [<- rel.length];exact h _ _ (I.tok _)
end
def NoSl (i:Expr):Prop:=∀ ov iv,subscripted i false ov iv=operate [ov,iv] (getItem ov iv)
theorem Tq {prog:Program}{w:World}{A:Around}{E:Value->Shared->Prop}{s:Shared}{env:Env}{value slice:Expr}{pos:Pos}{T id:String}{Q:Value->Shared->Prop}(hl:typeLookup (.type T) "__getitem__"=pure (some (.builtin id)))(hs:NoSl slice)(h:wpAny (model prog w) A (eval value env) (fun o s₁=>wpAny (model prog w) A (eval slice env) (fun i s₂=>s₂.TypeIs o T/\wpAny (model prog w) A (getItem o i) Q E s₂) E s₁) E s):wpAny (model prog w) A (eval (.Subscript value slice pos) env) Q E s:=by
 refine Subscript_ (wpAny_mono h (fun o s₁ h₁=>wpAny_mono h₁ (fun i s₂ h₂=>?_) fun _ _ x=>x) fun _ _ x=>x);obtain ⟨hT,h₂⟩:=h₂;unfold subscriptTail;refine wpAny_bind ?_;rw [getitemInPython_of_ne hT.not_modules];refine wpAny_bind (wpAny_specialOf hT hl ?_);have fin:wpAny (model prog w) A (subscripted slice false o i) (fun r s₃=>wpAny (model prog w) A (letTemporaryGo value o r >>= fun _=>pure r) Q E s₃) E s₂:=by rw [hs o i];exact wpAny_operating (wpAny_mono h₂ (fun r s₃ h₃=>wpAny_bind (wpAny_letTemporaryGo (wpAny_pure h₃))) fun _ _ x=>x)
 first
  |exact wpAny_pure (wpAny_bind fin)
  |exact wpAny_bind (wpAny_pure (wpAny_bind fin))
  |exact wpAny_bind fin
theorem Dj {X:Cx}{pins:List (Addr×Obj)}{Z:St}{H:Hp}{s:Shared}{a:Addr}{y:V}{o:Option V}(I:Inv X pins Z H s)(g:DGet H a y o):s.TypeIs (.ref a) "dict":=by
 rcases g with ⟨kvs,k,e,_,_⟩|⟨kvs,k,b,e,_,_,_⟩
 ·obtain ⟨_,_,vs,_,dd⟩:=wO I.hok e;exact dd.typeIs
 ·obtain ⟨_,_,xs,_,dd⟩:=Zd I.hok e;exact dd.typeIs
def BX (td ty:TE):TE:=fun Z H Q=>td Z H fun x H1=>ty Z H1 fun y H2=>∃ a v,x = .ref a/\DGet H2 a y (some v)/\Q v H2
def tDIn (ty td:TE):TE:=fun Z H Q=>ty Z H fun y H1=>td Z H1 fun x H2=>∃ a o,x = .ref a/\DGet H2 a y o/\Q (.bl o.isSome) H2
def BF (td ty tv:TE):TS:=fun D Z H=>tv Z H fun v H1=>td Z H1 fun x H2=>ty Z H2 fun y H3=>∃ a H4,x = .ref a/\DPut H3 a y v H4/\D.nx Z H4
section
variable {X:Cx}{o i e value:Expr}{pos pos' tpos:Pos}{td ty tv:TE}
theorem vW (hu:X.A.units+1<cLine)(ho:PE X o td)(hi:PE X i ty)(hs:NoSl i):PE X (.Subscript o i pos) (BX td ty):=by intro pins s Z H Q I h;refine Tq PySem.F.slot_dict_getitem.lookup hs (j6 (ho pins s Z H _ I h) fun u s1 ⟨x,H1,I1,rx,q1⟩=>j6 (hi pins s1 Z H1 _ I1 q1) fun iv s2 ⟨y,H2,I2,ry,a,v,ex,g,q2⟩=>?_);subst ex;obtain rfl:u=Value.ref a:=rx;exact ⟨Dj I2 g,Dh hu I2 g ry fun w' s3 I3 rw'=>⟨v,H2,I3,rw',q2⟩⟩
theorem Hc (hu:X.A.units+1<cLine)(hi:PE X i ty)(ho:PE X o td):PC X .In i o (tDIn ty td):=by intro pins s Z H Q I h;refine j6 (hi pins s Z H _ I h) fun iv s1 ⟨y,H1,I1,ry,q1⟩=>j6 (ho pins s1 Z H1 _ I1 q1) fun u s2 ⟨x,H2,I2,rx,a,ov,ex,g,q2⟩=>?_;subst ex;obtain rfl:u=Value.ref a:=rx;exact d_in hu I2 g ry fun s3 I3=>⟨.bl ov.isSome,H2,I3,rfl,q2⟩
theorem HG (hu:X.A.units+1<cLine)(ho:PE X o td)(hi:PE X i ty)(hv:PE X value tv)(hs:swapsWith value (some (.Subscript o i pos')) pos.line X.env=pure false):PS X (.Assign [.Subscript o i pos'] value pos) (BF td ty tv):=by intro pins s Z H D I h;refine wpAny_Assign_Subscript (j6 (hv pins s Z H _ I h) fun r s1 ⟨v,H1,I1,rv,q1⟩=>j6 (ho pins s1 Z H1 _ I1 q1) fun u s2 ⟨x,H2,I2,rx,q2⟩=>j6 (hi pins s2 Z H2 _ I2 q2) fun iv s3 ⟨y,H3,I3,ry,a,H4,ex,g,q3⟩=>?_) hs;subst ex;obtain rfl:u=Value.ref a:=rx;exact Di hu I3 g ry rv fun s4 I4=>⟨Z,H4,I4,q3⟩
end
theorem Dl {P:Program}{w:World}{H:Hp}(h:Heap)(hb:sysModules<h.objs.size):ObjOk P w H (h.push { cls:= .type "dict",data:= .dict #[] }) h.objs.size (.dK []) :=
 ⟨Nat.zero_le _,beq_eq_false_iff_ne.mpr (Ne.symm (Nat.ne_of_lt hb)),[],.nil,Heap.DictOf.new h⟩
def BY:TE:=fun _ H Q=>∀ p,H p=none->Q (.ref p) (v8 H p (.dK []))
section
variable {X:Cx}{pos:Pos}
theorem Hg:PE X (.Dict [] [] pos) BY:=fun pins s Z H Q I h =>
 wpAny_Dict_empty ⟨.ref s.heap.objs.size,_,I.laid (a:=s.heap.objs.size) (o:= .dK []) (t':=s.toks) (fun _ _ q=>Heap.get?_push_of_some _ q) (Nat.le_refl _) (Dl s.heap I.big),rfl,h _ (I.hok.fresh (Nat.le_refl _))⟩
end
end L2
namespace Att
open PySem PySem.W PySem.Calls PyProof.Rows
theorem Mj {P:Params}{h:Heap}:∀(ns:List Int)(vs:List Value),WellAll P h vs (ns.map WData.int)->IntsAre vs ns:=by
 intro ns
 induction ns with
 |nil=>intro vs w;rw [List.map_nil] at w;cases w;exact .nil
 |cons n ns ih =>
  intro vs w;rw [List.map_cons] at w;cases w with
  |cons a b=>cases a;exact .cons _ _ (ih _ b)
theorem RY {l:OpenLaw}{n:Nat}(hn:l.most=some n){P:Params}{h:Heap}{args:List WData}{vals:List Value}(hpre:l.row.toRowW.claim.pre args=true)(hwl:WellAll P h vals args):∃ a vs ns,vals=[Value.ref a]/\args=[WData.list (ns.map WData.int)]/\h.get? a=some { cls:= .type "list",data:= .seq vs.toArray }/\IntsAre vs ns/\ns.length<=n:=by
 have hsh:WShape.hasAll [] args [.list .int]=true:=(pre_splitW hpre).1;have hc:l.pre.holds [] { args:=args }=true:=(pre_splitW hpre).2;obtain ⟨d,r,rfl,h1,h2⟩:=hasAllW_cons hsh;obtain rfl:=hasAllW_nil h2;obtain ⟨xs,rfl,h3⟩:=hasW_list h1;obtain ⟨ns,rfl⟩:=items_int h3;have hlen:ns.length<=n:=by
  unfold OpenLaw.pre at hc;have h4:(WTm.not (.lt (.lit (.int (n:Int))) (.len (.arg 0)))).holds [] { args:=[.list (ns.map .int)] }=true:=by have h4:=(holds_andW hc).1;rw [hn] at h4;exact h4
  have h5:=condW_of h4 (w_not (w_lt w_lit (w_len_list (w_arg rfl))));rw [List.length_map] at h5;refine Nat.le_of_not_lt fun q=>?_;have q':(n:Int)<((ns.length:Nat):Int):=by omega
  first
   |(rw [decide_eq_true q'] at h5;exact absurd h5 (by decide))
   |(simp at h5;omega)
 cases hwl with
 |cons w1 w2 =>
  cases w2;cases w1 with
  |list ho hall=>exact ⟨_,_,ns,rfl,rfl,ho,Mj ns _ hall,hlen⟩
theorem HF (l:OpenLaw)(args:List WData):l.row.toRowW.claim.post args (.bool true) args=true :=
 postW_of (r:=l.row.toRowW) (X:=(true==true))
  (show WShape.has [] (.bool true) .bool=true by first|rfl|decide|simp [WShape.has,WShape.arms,WShape.armsAll])
  (show (WTm.eq .res (.lit (.bool true))).value [] { args:=args,res:=some (.bool true),after:=args }=some (.bool (true==true)) from w_eq_bool (w_res rfl) w_lit) rfl
theorem attach_call {l:OpenLaw}{n:Nat}{q:Program}{loose:List Str}{XP:(Str->Option Value)->Heap->Prop}{YP:World->Heap->Prop}{d:DefRec}(hn:l.most=some n)(hdf:d.params.defaults=[])(call:∀ (w:World) (s₀ s₁:Shared) (mg mb:Str->Option Value) (fa:Addr) (o:Obj) (pm cd doc:Value) (a:Addr) (vs:List Value) (ns:List Int), Ground q loose [] XP w s₀ mg mb s₁.heap->YP w s₁.heap -> s₁.heap.get? fa=some o->o.data = .func (docDef d.name d.params d.body d.scope pm cd doc)->s₁.heap.CodeRec cd d.name->mg d.name=some (.ref fa) -> s₁.heap.get? a=some { cls:= .type "list",data:= .seq vs.toArray }->IntsAre vs ns->ns.length<=n->s₁.gens=#[] -> codeAny (model l.prog w) callerA (.call (.ref fa) ⟨[.ref a],[]⟩) (fun r s'=>r = .ok (.ret (.bool true))/\OldK s₁.heap s'.heap/\s'.os=s₁.os/\AllBare s'.gens) s₁):WalkO q loose XP YP l.row.toRowW d [] (fun f vs=>PySem.call f vs):=by intro w s₀ s₁ mg mb G Y fa o pm cd doc dV kV ho hd hcd hD hmg hg args vals as hpre hlay hrd hwl hlo;obtain rfl:dV = .none:=Dflts.none hD hdf;obtain rfl:kV = .none:=Dflts.noKw hD;obtain ⟨a,vs,ns,rfl,rfl,hobj,hints,hlen⟩:=RY hn hpre hwl;refine enter_call (codeAny_mono (call w s₀ s₁ mg mb fa o pm cd doc a vs ns G Y ho (fd_plain hd) hcd hmg hobj hints hlen hg) fun r s' hq=>?_);obtain ⟨rfl,h2,h3,h4⟩:=hq;exact ⟨.inl ⟨.bool true,.bool true,[],rfl,fun _=>rfl,.bool true,HF l _,fun _=>⟨List.Pairwise.nil,fun _ hm=>(nomatch hm)⟩⟩,h2,h3,h4⟩
end Att
namespace L2
open PySem PySem.Spec PyProof.Rows
theorem Pw:∀{vs:List Value}{ns:List Int},IntsAre vs ns->Vals (ns.map V.int) vs
 |_,_,.nil=> .nil
 |_,_,.cons n t h=> .cons ⟨t,rfl⟩ (Pw h)
def Only (H:Hp):Prop:=∀ b,H b=none∨(∃ o xs,H b=some (.frz o (.lst xs)))∨∃ p∈TABS,p.1=b/\H b=some (.tbl p.2.1 p.2.2)
structure wC (K:Fg)(h:Heap):Prop where
 at_:∀ p∈TABS,h.get? p.1=some { cls:= .none,data:= .fields p.2.1 }
 tri:∀ p∈TABS,TriplesOk p.2.1.toList
 non:∀ p∈TABS,∀ q∈p.2.2,codeAmong q.1 p.2.1.toList=none
 tab:∀ p∈TABS,isCodeTable h p.1
 one:∀ p∈TABS,∀ q∈TABS,p.1=q.1->p=q
 out:∀ p∈TABS,K.lookup p.1=none
def zG:Hp:=fun b=>(TABS.find? fun p=>p.1==b).map fun p=> .tbl p.2.1 p.2.2
theorem Vk {b:Addr}{u:HO}(h:zG b=some u):∃ p∈TABS,p.1=b/\u = .tbl p.2.1 p.2.2:=by unfold zG at h;obtain ⟨p,e,r⟩:=Option.map_eq_some_iff.mp h;exact ⟨p,List.mem_of_find?_eq_some e,by have:=List.find?_some e;simpa using this,r.symm⟩
theorem Pg {K:Fg}{h:Heap}(T:wC K h){p:Addr×Array Value×List (Pos×Str)}(hp:p∈TABS):zG p.1=some (.tbl p.2.1 p.2.2):=by
 unfold zG;cases e:TABS.find? fun q=>q.1==p.1 with
 |none=>exact absurd (List.find?_eq_none.mp e p hp) (by simp)
 |some q =>
  have e1:q.1=p.1:=by have:=List.find?_some e;simpa using this
  rw [T.one q (List.mem_of_find?_eq_some e) p hp e1];rfl
theorem MZ {P:Program}{w:World}{K:Fg}{mg mb:Str->Option Value}{CX:CXT}{k:Nat}{fa a:Addr}{fd:FuncData}{x:Str}{sp:Sp}{s₁:Shared}{vs:List Value}{ns:List Int}(KX:K.In s₁.heap)(T:wC K s₁.heap)(hns:s₁.heap.Ns mainGlobals mg)(hb:s₁.heap.Ns builtinsNs mb)(hbb:∀ x:Str,x ≠ "__name__"->mb x=bootBuiltins x)(hlim:s₁.heap.NoLimit)(hbm:∃ bm ob,mg "__builtins__"=some (.ref bm)/\bm≠builtinsNs/\s₁.heap.get? bm=some ob/\ob.cls = .type "module"/\ob.dict=some builtinsNs/\ob.data = .plain)(hg:s₁.gens=#[])(ha:s₁.heap.get? a=some { cls:= .type "list",data:= .seq vs.toArray })(hi:IntsAre vs ns)(hl:ns.length<=sizeLine)(hr:Room k callerA)(F:∀ base:Heap,K.In base->base.Ns mainGlobals mg->FnOk P w K mg base CX k fa fd [x] sp)(hbind:∀ (s:Shared) (u:Value),BindsTo s fd ⟨[u],[]⟩ [(x,u)])(hsp:∀ H:Hp,Only H->SqL K H a (ns.map V.int)->sp [.ref a] H (fun v _=>v = .bl true) fun _ _ _=>False)(hCX:∀ H e s',CX [] H s₁ (fun _ _ _=>False) e s'->False):codeAny (model P w) callerA (.call (.ref fa) ⟨[.ref a],[]⟩) (fun r s'=>r = .ok (.ret (.bool true))/\OldK s₁.heap s'.heap/\s'.os=s₁.os/\AllBare s'.gens) s₁:=by
 have rv:=Pw hi;have lenV:=hi.length;have naT:∀ p∈TABS,p.1≠a:=fun p hp z=>by
  have e:=T.at_ p hp;rw [z,ha] at e;cases e
 have core:∀ H:Hp,Only H->SqL K H a (ns.map V.int)->HOk P w H s₁.heap->(∀ b,H b≠none->b=a∨∃ p∈TABS,p.1=b)->(∀ b,H b≠none->K.lookup b=none)->(∀ p∈TABS,H p.1=some (.tbl p.2.1 p.2.2)) ->
   codeAny (model P w) callerA (.call (.ref fa) ⟨[.ref a],[]⟩) (fun r s'=>r = .ok (.ret (.bool true))/\OldK s₁.heap s'.heap/\s'.os=s₁.os/\AllBare s'.gens) s₁:=by
  intro H hO hS hok hA hK hT;have base_of:∀{b:Addr}{o:Obj},s₁.heap.get? b=some o->H b=none->(jE s₁.heap H).get? b=some o:=fun e n=>DP e n;have noA:∀{b:Addr}{o:Obj}{es:Array DictEntry}{ep:Nat},s₁.heap.get? b=some o->o.data = .dict es ep->H b=none:=fun {b o es ep} e d=>by
   cases q:H b with
   |none=>rfl
   |some u =>
    rcases hA b (by rw [q];simp) with e'|⟨p,hp,e'⟩
    ·subst e';rw [ha] at e;cases e;have d':Data.seq vs.toArray _=Data.dict es ep:=d;cases d'
    ·subst e';rw [T.at_ p hp] at e;cases e;have d':Data.fields p.2.1=Data.dict es ep:=d;cases d'
  have nsK:∀{b:Addr}{m:Str->Option Value},s₁.heap.Ns b m->(jE s₁.heap H).Ns b m:=fun {b m} ⟨o,es,ep,e,d,r⟩=>⟨o,es,ep,base_of e (noA e d),d,r⟩;have hKb:K.In (jE s₁.heap H):=fun b o e=>base_of (KX b o e) (by
   cases q:H b with
   |none=>rfl
   |some u=>rw [hK b (by rw [q];simp)] at e;cases e)
  have noP:∀{b:Addr}{o:Obj},s₁.heap.get? b=some o->o.data = .plain->H b=none:=fun {b o} e d=>by
   cases q:H b with
   |none=>rfl
   |some u =>
    rcases hA b (by rw [q];simp) with e'|⟨p,hp,e'⟩
    ·subst e';rw [ha] at e;cases e;have d':Data.seq vs.toArray _=Data.plain:=d;cases d'
    ·subst e';rw [T.at_ p hp] at e;cases e;have d':Data.fields p.2.1=Data.plain:=d;cases d'
  have hM:Mod K mg (jE s₁.heap H):=⟨hKb,nsK hns,⟨mb,nsK hb,hbb⟩,let ⟨mc,h1,h2⟩:=hlim;⟨mc,nsK h1,h2⟩,let ⟨bm,ob,b1,b2,b3,b4,b5,b6⟩:=hbm;⟨bm,ob,b1,b2,base_of b3 (noP b3 b6),b4,b5,b6⟩⟩;have e0:Env0 P w K mg (jE s₁.heap H) callerA [] s₁ H:=⟨rfl,hM,fun b o e=>LI e,Nat.le_of_eq (DQ _ _),trivial,fun b hb=>absurd (show b∈([]:List Addr) from hb) (by simp),hok,.of_eq hg,hT⟩;refine codeAny_mono ((F _ hKb (nsK hns)).run callerA [] s₁ H ⟨[.ref a],[]⟩ [.ref a] [.ref a] _ _ hr e0 (hbind s₁ (.ref a)) (.cons rfl .nil) (hsp H hO hS)) fun r s' h=>?_;cases r with
  |error e=>exact (hCX H e s' h).elim
  |ok fl =>
   cases fl with
   |next=>exact False.elim h
   |brk=>exact False.elim h
   |cont=>exact False.elim h
   |ret u =>
    obtain ⟨v,H',os,bare,un,hok',r',q⟩:=h;have q':v = .bl true:=q;subst q';obtain rfl:u=Value.bool true:=r';refine ⟨rfl,⟨fun b o e=>?_,fun b o e=>un.there b o e (by simp)⟩,os,bare⟩;rcases hO b with z|⟨ob,xs,z⟩|⟨p,hp,rfl,z⟩
    ·exact .inl (un.keep b o e z (by intro z;exact absurd (show b∈([]:List Addr) from z) (by simp)) (by simp))
    ·have z2:=un.frzs b ob _ z;obtain ⟨e1,_⟩:=hok b _ z;obtain ⟨e2,_⟩:=hok' b _ z2;rw [e] at e1;cases e1;exact .inl e2
    ·have z2:=un.tbls p.1 _ _ z;obtain ⟨more,e2,_⟩:=hok' p.1 _ z2;rw [T.at_ p hp] at e;cases e;exact .inr (.inl ⟨T.tab p hp,rfl,p.2.1,more,rfl,e2⟩)
 have tok:∀{H:Hp}{p:Addr×Array Value×List (Pos×Str)},p∈TABS->ObjOk P w H s₁.heap p.1 (.tbl p.2.1 p.2.2):=fun {H p} hp =>
  ⟨#[],by rw [Array.append_empty];exact T.at_ p hp,by rw [Array.append_empty];exact T.tri p hp,fun q hq=> .inl (by rw [Array.append_empty];exact T.non p hp q hq)⟩
 have only:∀ b,zG b=none∨(∃ o xs,zG b=some (.frz o (.lst xs)))∨∃ p∈TABS,p.1=b/\zG b=some (.tbl p.2.1 p.2.2):=fun b=>by
  cases q:zG b with
  |none=>exact .inl rfl
  |some u=>obtain ⟨p,hp,e1,rfl⟩:=Vk q;exact .inr (.inr ⟨p,hp,e1,rfl⟩)
 have mine:∀ b,zG b≠none->∃ p∈TABS,p.1=b:=fun b z=>by
  cases q:zG b with
  |none=>exact absurd q z
  |some u=>obtain ⟨p,hp,e1,_⟩:=Vk q;exact ⟨p,hp,e1⟩
 cases hk:K.lookup a with
 |some o =>
  have e:=KX a o hk;rw [ha] at e;cases e;refine core zG only (.inr ⟨_,vs.toArray,_,hk,rfl,rfl,rfl,by rw [List.size_toArray,lenV];exact hl,by simpa using rv⟩) (fun b u z=>?_) (fun b z=> .inr (mine b z)) (fun b z=>?_) fun p hp=>Pg T hp
  ·obtain ⟨p,hp,rfl,rfl⟩:=Vk z;exact tok hp
  ·obtain ⟨p,hp,rfl⟩:=mine b z;exact T.out p hp
 |none =>
  refine core (fun b=>if b=a then some (.frz { cls:= .type "list",data:= .seq vs.toArray } (.lst (ns.map V.int))) else zG b) (fun b=>?_) (.inl (.inr ⟨{ cls:= .type "list",data:= .seq vs.toArray },if_pos rfl⟩)) (fun b u z=>?_) (fun b z=>?_) (fun b z=>?_) fun p hp=>?_
  ·by_cases hb:b=a
   ·exact .inr (.inl ⟨_,_,if_pos hb⟩)
   ·rcases only b with z|⟨o,xs,z⟩|⟨p,hp,e1,z⟩
    ·exact .inl ((if_neg hb).trans z)
    ·exact .inr (.inl ⟨o,xs,(if_neg hb).trans z⟩)
    ·exact .inr (.inr ⟨p,hp,e1,(if_neg hb).trans z⟩)
  ·by_cases hb:b=a
   ·have z':=(if_pos hb).symm.trans z;cases z';subst hb;exact ⟨ha,by rw [List.length_map];exact hl,vs,_,rv,ha⟩
   ·have z':=(if_neg hb).symm.trans z;obtain ⟨p,hp,rfl,rfl⟩:=Vk z';exact tok hp
  ·by_cases hb:b=a
   ·exact .inl hb
   ·exact .inr (mine b fun q=>z ((if_neg hb).trans q))
  ·by_cases hb:b=a
   ·rw [hb];exact hk
   ·obtain ⟨p,hp,rfl⟩:=mine b fun q=>z ((if_neg hb).trans q);exact T.out p hp
  ·exact (if_neg (naT p hp)).trans (Pg T hp)
end L2
namespace L2
open PySem PySem.Spec PyProof.Rows
theorem SJ {l:PySem.W.OpenLaw}{n k:Nat}{q:Program}{loose:List Str}{XP:(Str->Option Value)->Heap->Prop}{YP:World->Heap->Prop}{d:DefRec}{K:Params->Fg}{CX:World->CXT}{sp:World->Sp}{x:Str}(hn:l.most=some n)(hn2:n<=sizeLine)(hdf:d.params.defaults=[])(hr:Room k callerA)(hY:∀(w:World)(h:Heap),YP w h->(K w.params).In h)(F:∀(w:World)(mg:Str->Option Value)(fa:Addr)(h:Heap),YP w h->(K w.params).In h->h.Ns mainGlobals mg->mg d.name=some (.ref fa) -> ∃ fd:FuncData,(∀(s:Shared)(u:Value),BindsTo s fd ⟨[u],[]⟩ [(x,u)])/\wC (K w.params) h /\ ∀ base:Heap,(K w.params).In base->base.Ns mainGlobals mg->FnOk l.prog w (K w.params) mg base (CX w) k fa fd [x] (sp w))(hsp:∀(w:World)(H:Hp)(a:Addr)(ns:List Int),ns.length<=n->Only H->SqL (K w.params) H a (ns.map V.int)->sp w [.ref a] H (fun v _=>v = .bl true) fun _ _ _=>False)(hCX:∀(w:World)(H:Hp)(s:Shared)(e:Value)(s':Shared),CX w [] H s (fun _ _ _=>False) e s'->False):PySem.W.WalkO q loose XP YP l.row.toRowW d [] (fun f vs=>PySem.call f vs):=by refine Att.attach_call hn hdf fun w s₀ s₁ mg mb fa o pm cd doc a vs ns G Y ho hd hcd hmg hobj hints hlen hg=>?_;have KX:=hY w _ Y;obtain ⟨fd,hb,hT,hF⟩:=F w mg fa _ Y KX G.T.g hmg;exact MZ KX hT G.T.g G.T.b G.T.builtins G.T.nolimit G.T.bmain hg hobj hints (Nat.le_trans hlen hn2) hr hF hb (fun H hO hS=>hsp w H a ns hlen hO hS) fun H e s'=>hCX w H s₁ e s'
end L2
namespace L2
open PySem PySem.Spec PyProof.Rows
def QU (s:Stmt)(j:Nat):Stmt:=match s with
 | .ClassDef _ _ _ body _ _ _ _ _ _ _=>body.getD j (.Pass ⟨0,0,0,0⟩)
 |_=> .Pass ⟨0,0,0,0⟩
def zy (s:Stmt):Arguments:=match s with
 | .FunctionDef _ a _ _ _ _ _ _ _ _=>a
 |_=>{ posonlyargs:=[],args:=[],vararg:=none,kwonlyargs:=[],kw_defaults:=[],kwarg:=none,defaults:=[] }
def qI (s:Stmt):List Stmt:=match s with
 | .FunctionDef _ _ b _ _ _ _ _ _ _=>b
 |_=>[]
def j8 (s:Stmt):Scope:=match s with
 | .FunctionDef _ _ _ _ _ _ sc _ _ _=>sc
 |_=>{ kind:= .function,names:=[],isGenerator:=false,isCoroutine:=false }
abbrev w6:CXT:=fun _ _ _ _ _ _=>False
abbrev E0:XK:=fun _ _ _=>False
theorem ZV {X:Cx}:vz w6 X E0:=fun _ _ _ _ _ _ _ h=>h.elim
structure Fun (K:Fg)(x qual:Str)(st:Stmt)(f:Addr)(fd:FuncData):Prop where
 ex:∃(oc:Value)(od:Option Addr)(kV doc pm:Value)(an:Option Addr)(cdv ct:Value)(osl:Array (Option Value)),
  fd=PySem.W.fnOf x qual (zy st) (qI st) (j8 st) .none kV doc pm an cdv ct/\K.lookup f=some ⟨oc,od,.func fd,osl⟩/\PySem.W.codeIn K cdv qual=true
 kp:PySem.W.keepIn K (.ref f)=true
section
variable {P:Program}{w:World}{K:Fg}{mg:Str->Option Value}{base:Heap}
theorem Fun.ok {x qual:Str}{st:Stmt}{f:Addr}{fd:FuncData}{N ps:List Str}{k:Nat}{sp:Sp}(F:Fun K x qual st f fd)(S:y7 N ps (j8 st))(len:∀ vs H Q E,sp vs H Q E->vs.length=ps.length)(hbody:∀(cdv:Value)(A:Around)(outer:List Env)(s:Shared)(H:Hp)(vs:List V)(Q:VK)(E:XK),Room k (A.deeper (envOfC qual (j8 st) s.heap.objs.size f cdv))->sp vs H Q E -> ∃ t,PSs (xP w6 P w K mg base N qual (j8 st) f cdv A outer s H E).nox (qI st) t/\t { nx:=fun _ H'=>Q .non H',rt:=Q } (start N vs) H):FnOk P w K mg base w6 (k+1) f fd ps sp:=by obtain ⟨oc,od,kV,doc,pm,an,cdv,ct,osl,rfl,lk,hcd⟩:=F.ex;refine VY lk hcd S len fun A outer s H vs Q E hr hsp=>?_;obtain ⟨t,h,q⟩:=hbody cdv A outer s H vs Q E hr hsp;exact ⟨t,h.nox,q⟩
theorem Fun.binds {x qual:Str}{st:Stmt}{f:Addr}{fd:FuncData}{ps:List Str}(F:Fun K x qual st f fd)(h:∀(kV doc pm:Value)(an:Option Addr)(cdv ct:Value)(us:List Value),us.length=ps.length->bindArgs (PySem.W.fnOf x qual (zy st) (qI st) (j8 st) .none kV doc pm an cdv ct) ⟨us,[]⟩=pure (ps.zip us)):Binds K fd ps []:=by obtain ⟨oc,od,kV,doc,pm,an,cdv,ct,osl,rfl,lk,hcd⟩:=F.ex;exact .all (h kV doc pm an cdv ct)
theorem u9 {x qual:Str}{st:Stmt}{f:Addr}{oc:Value}{od an:Option Addr}{osl:Array (Option Value)}{kV doc pm cdv ct:Value}(l:K.lookup f=some ⟨oc,od,.func (PySem.W.fnOf x qual (zy st) (qI st) (j8 st) .none kV doc pm an cdv ct),osl⟩)(c:PySem.W.codeIn K cdv qual=true)(k:PySem.W.keepIn K (.ref f)=true):Fun K x qual st f (PySem.W.fnOf x qual (zy st) (qI st) (j8 st) .none kV doc pm an cdv ct):=⟨⟨oc,od,kV,doc,pm,an,cdv,ct,osl,rfl,l,c⟩,k⟩
end
theorem zP {A:Around}{k:Nat}(hr:Room k A):A.units+1<cLine:=Nat.lt_of_le_of_lt (Nat.add_le_add_left (by decide:1<=64) _) hr.units
theorem QA {n:Nat}(h:n<=1000):n<sizeLine:=Nat.lt_of_le_of_lt h (by decide)
section
variable {X:Cx}
theorem pv (i:Nat){x:Str}{pos:Pos}(hN:X.N[i]?=some x:=by rfl)(hv:Vis X.env.scope x:=by first|exact Or.inl rfl|exact Or.inr (Or.inl rfl)|exact Or.inr (Or.inr rfl))(hd:(x==("__debug__":Str))=false:=by decide)(hcd:(x==("__classdict__":Str))=false:=by decide):PE X (.Name x pos) (qL i):=KO hN hv hd hcd
theorem CJ:CallR X (.builtin "len") (fun xs H Q=>∃ a kvs,xs=[V.ref a]/\H a=some (.dK kvs)/\Q (.int kvs.length) H):=by intro pins s Z H xs us Q I r h;obtain ⟨a,kvs,rfl,ha,q⟩:=h;obtain ⟨u,rfl,ru⟩:=zH r;cases ru;exact d_len I (.inl ha) fun t s' I'=>⟨.int kvs.length,H,I',⟨t,rfl⟩,q⟩
end
theorem zQ {A B:Prop}(h:B):if false=true then A else B:=by rw [if_neg Bool.false_ne_true];exact h
theorem zR {A B:Prop}(h:A):if true=true then A else B:=by rw [if_pos rfl];exact h
theorem ite2 {c A B:Prop}[Decidable c](h1:c->A)(h2:¬ c->B):if c then A else B:=by
 by_cases h:c
 ·rw [if_pos h];exact h1 h
 ·rw [if_neg h];exact h2 h
def Same (H H':Hp):Prop:=∀ b o,H b=some o->H' b=some o
theorem Same.refl (H:Hp):Same H H:=fun _ _ h=>h
theorem Same.trans {H H1 H2:Hp}(a:Same H H1)(b:Same H1 H2):Same H H2:=fun c o h=>b c o (a c o h)
theorem Same.free {H H':Hp}(e:Same H H'){l:Addr}(h:H' l=Option.none):H l=Option.none:=by
 cases q:H l with
 |none=>rfl
 |some o=>rw [e l o q] at h;cases h
theorem Same.seq {K:Fg}{H H':Hp}{a:Addr}{xs:List V}(e:Same H H')(h:SqL K H a xs):SqL K H' a xs:=by
 rcases h with (h|⟨o,h⟩)|h
 ·exact .inl (.inl (e _ _ h))
 ·exact .inl (.inr ⟨o,e _ _ h⟩)
 ·exact .inr h
end L2
set_option maxHeartbeats 4000000
set_option synthInstance.maxHeartbeats 4000000
set_option synthInstance.maxSize 4096
namespace L2
open PySem PySem.Spec PyProof.Rows
section
variable {prog:Program}{w:World}{A:Around}{R:Result->Shared->Prop}{s:Shared}
theorem Da {elt target iter:Expr}{ifs:List Expr}{scope:Scope}{pos:Pos}{it acc:Value}{env:Env}(I:Nat->Shared->Prop)
  (turn:∀ n s,I n s->wpAny (model prog w) A (pyNext it) (fun r s₁=>match r with
   |none=>R (.ok .next) s₁
   |some v=>wpAny (model prog w) A (letOwnedTupleGo target it v) (fun _ s₀=>wpAny (model prog w) A (assign target env v) (fun _ s₂ =>
     wpAny (model prog w) A (forIn ifs true fun c r=>if r=true then do let ok <- isTrue c env (eval c env);pure (ForInStep.yield ok) else pure (ForInStep.yield r)) (fun ok s₃ =>
      if ok=true then wpAny (model prog w) A (eval elt env) (fun x s₄ =>
       wpAny (model prog w) A (call (.builtin "list.append") [acc,x]) (fun _ s₅=>∃ m,m<n/\I m s₅) (fun _ _=>False) s₄) (fun _ _=>False) s₃
      else ∃ m,m<n/\I m s₃) (fun _ _=>False) s₂) (fun _ _=>False) s₀) (fun _ _=>False) s₁) (fun _ _=>False) s)
  (n:Nat) (h:I n s) :
  codeAny (model prog w) A (.compLoop (.ListComp elt [⟨target,iter,ifs,0⟩] scope pos) 0 it acc env) R s:=by
 refine codeAny_loop rfl I (fun n s hI=>?_) n h;show wpAny _ A ((compTurn (.ListComp elt [⟨target,iter,ifs,0⟩] scope pos) 0 it acc env).onRaise (fun x=>do noteFrame x env;theTreesLotGoes x)) _ _ s;refine wpAny_noted (wpAny_noRaise ?_);rw [compTurn_list];refine wpAny_bind (wpAny_standAt (wpAny_bind (j6 (turn n s hI) fun r s₁ h₁=>?_)));cases r with
 |none=>exact wpAny_pure h₁
 |some v =>
  refine wpAny_bind (j6 h₁ fun _ s₀ h₀=>?_);refine wpAny_bind (j6 h₀ fun _ s₂ h₂=>wpAny_bind (j6 h₂ fun ok s₃ h₃=>?_));cases ok with
  |false=>exact wpAny_pure ⟨rfl,h₃⟩
  |true=>exact wpAny_bind (wpAny_bind (j6 h₃ fun x s₄ h₄=>wpAny_bind (j6 h₄ fun _ s₅ h₅=>wpAny_pure (wpAny_pure ⟨rfl,h₅⟩))))
end
theorem GP {α β:Type}{f:α->β->Sem (ForInStep β)}(g:α->β->β):∀(l:List α)(b:β),(∀ a∈l,∀ b,f a b=pure (.yield (g a b)))->forIn l b f=(pure (l.foldl (fun b a=>g a b) b):Sem β)
 |[],_,_=>rfl
 |x::l,b,h=>by
  rw [List.forIn_cons,h x List.mem_cons_self,pure_bind];exact GP g l (g x b) fun y hy=>h y (List.mem_cons_of_mem _ hy)
def jz (env:Env)(y:Str×NameKind)(cs:List (Str×Addr)):List (Str×Addr):=if y.2 == .free then (y.1,(env.cells.lookup y.1).getD 0)::cs else cs
theorem Gf (env:Env):∀(l:List (Str×NameKind))(cs:List (Str×Addr)),(∀ y∈l,y.2 = .free->∃ c,env.cells.lookup y.1=some c)->(∀ x c,cs.lookup x=some c->env.cells.lookup x=some c) -> (∀ x c,(l.foldl (fun b a=>jz env a b) cs).lookup x=some c->env.cells.lookup x=some c)
 |[],_,_,h=>h
 |(n,k)::l,cs,hl,h=>by
  refine Gf env l _ (fun y hy=>hl y (List.mem_cons_of_mem _ hy)) fun x c e=>?_;unfold jz at e
  dsimp only at e
  cases hk:(k==NameKind.free) with
  |false=>rw [hk,if_neg Bool.false_ne_true] at e;exact h x c e
  |true =>
   rw [hk,if_pos rfl] at e;obtain ⟨c0,e0⟩:=hl (n,k) List.mem_cons_self (by simpa using hk);cases hx:x==n with
   |true =>
    rw [List.lookup_cons,hx] at e;have hx':x=n:=by simpa using hx
    subst hx';have e':(List.lookup x env.cells).getD 0=c:=Option.some.inj e;have e0':List.lookup x env.cells=some c0:=e0;rw [e0'] at e';rw [e0',<- e'];rfl
   |false=>rw [List.lookup_cons,hx] at e;exact h x c e
theorem Gg (env:Env)(x:Str):∀(l:List (Str×NameKind))(cs:List (Str×Addr)),(∃ c,cs.lookup x=some c)->∃ c,(l.foldl (fun b a=>jz env a b) cs).lookup x=some c
 |[],_,h=>h
 |(n,k)::l,cs,h=>by
  refine Gg env x l _ ?_;unfold jz
  dsimp only
  split
  ·rw [List.lookup_cons];cases hx:x==n with
   |true=>exact ⟨_,rfl⟩
   |false=>exact h
  ·exact h
theorem Ge (env:Env):∀(l:List (Str×NameKind))(cs:List (Str×Addr)),∀ y∈l,y.2 = .free->∃ c,(l.foldl (fun b a=>jz env a b) cs).lookup y.1=some c
 |[],_,_,h,_=>nomatch h
 |z::l,cs,y,h,hf=>by
  rcases List.mem_cons.mp h with e|h
  ·subst e;refine Gg env y.1 l _ ?_;unfold jz
   dsimp only
   rw [hf,if_pos (by rfl),List.lookup_cons,beq_self_eq_true];exact ⟨_,rfl⟩
  ·exact Ge env l _ y h hf
theorem Gh {scope:Scope}{env:Env}(h:∀ y∈scope.names,y.2 = .free->∃ c,env.cells.lookup y.1=some c):∃ cl,closureFor scope env=pure cl/\(∀ x c,cl.lookup x=some c->env.cells.lookup x=some c)/\∀ y∈scope.names,y.2 = .free->∃ c,cl.lookup y.1=some c:=by
 refine ⟨scope.names.foldl (fun b a=>jz env a b) [],?_,Gf env _ _ h (fun x c e=>by cases e),Ge env _ _⟩;simp only [closureFor];rw [GP (jz env) scope.names [] (fun y hy b=>?_)]
 ·rfl
 ·obtain ⟨n,k⟩:=y;unfold jz;cases hk:(k==NameKind.free) with
  |false=>simp only [hk,Bool.false_eq_true,if_false]<;>rfl
  |true=>obtain ⟨c,e⟩:=h (n,k) hy (by simpa using hk);have e':List.lookup n env.cells=some c:=e;simp only [hk,if_true,cellOf,e'];rfl
theorem Bu (env:Env)(n:Str)(k:NameKind)(r:List (Str×NameKind))(x:Str):((List.map (fun (n,k)=>if (k==NameKind.free&&env.scope.kind == .function&&env.kindOf n==some .cell) then (n,NameKind.cell) else (n,k)) ((n,k)::r)).lookup x) = (if x==n then some (if (k==NameKind.free&&env.scope.kind == .function&&env.kindOf n==some .cell) then NameKind.cell else k) else (List.map (fun (n,k)=>if (k==NameKind.free&&env.scope.kind == .function&&env.kindOf n==some .cell) then (n,NameKind.cell) else (n,k)) r).lookup x):=by
 rw [List.map_cons];show List.lookup x ((if (k==NameKind.free&&env.scope.kind == .function&&env.kindOf n==some .cell)=true then (n,NameKind.cell) else (n,k))::_)=_;by_cases hc:(k==NameKind.free&&env.scope.kind == .function&&env.kindOf n==some .cell)=true
 ·rw [if_pos hc,if_pos hc,List.lookup_cons];cases x==n<;>rfl
 ·rw [if_neg hc,if_neg hc,List.lookup_cons];cases x==n<;>rfl
theorem Bw {env:Env}{x:Str}{k:NameKind}:∀{names:List (Str×NameKind)}, (names.map fun (n,k)=>if (k==NameKind.free&&env.scope.kind == .function&&env.kindOf n==some .cell) then (n,NameKind.cell) else (n,k)).lookup x=some k -> ∃ k',names.lookup x=some k'/\(k'=k∨(k' = .free/\k = .cell))
 |[],h=>by simp at h
 |(n,q)::r,h=>by
  rw [Bu] at h;rw [List.lookup_cons];cases hx:x==n with
  |true =>
   rw [hx,if_pos rfl] at h;have h':=Option.some.inj h;refine ⟨q,rfl,?_⟩;by_cases hc:(q==NameKind.free&&env.scope.kind == .function&&env.kindOf n==some .cell)=true
   ·rw [if_pos hc] at h';have hq:(q==NameKind.free)=true:=by
     cases z:(q==NameKind.free) with
     |true=>rfl
     |false=>rw [z] at hc;simp at hc
    exact .inr ⟨by simpa using hq,h'.symm⟩
   ·rw [if_neg hc] at h';exact .inl h'
  |false=>rw [hx,if_neg Bool.false_ne_true] at h;exact Bw h
theorem Bv {env:Env}{x:Str}:∀{names:List (Str×NameKind)},names.lookup x=some .free -> (names.map fun (n,k)=>if (k==NameKind.free&&env.scope.kind == .function&&env.kindOf n==some .cell) then (n,NameKind.cell) else (n,k)).lookup x=some .cell∨(names.map fun (n,k)=>if (k==NameKind.free&&env.scope.kind == .function&&env.kindOf n==some .cell) then (n,NameKind.cell) else (n,k)).lookup x=some .free
 |[],h=>by simp at h
 |(n,q)::r,h=>by
  rw [Bu];rw [List.lookup_cons] at h;cases hx:x==n with
  |true =>
   rw [hx] at h;have h':q = .free:=Option.some.inj h;rw [if_pos rfl];by_cases hc:(q==NameKind.free&&env.scope.kind == .function&&env.kindOf n==some .cell)=true
   ·rw [if_pos hc];exact .inl rfl
   ·rw [if_neg hc,h'];exact .inr rfl
  |false=>rw [hx] at h;rw [if_neg Bool.false_ne_true];exact Bv h
def qc (cap:List (Option Nat))(Z:St):St:=cap.map fun o=>o.bind fun i=>(Z[i]?).join
structure wm (X:Cx)(N':List Str)(cap:List (Option Nat))(sc:Scope):Prop where
 kind:sc.kind = .function
 nocell:∀ y∈sc.names,y.2 ≠ .cell
 names:∀ y∈sc.names,y.2 = .local->sc.names.lookup y.1=some .local
 free:∀ y∈sc.names,y.2 = .free->X.env.kindOf y.1=some .cell∨X.env.kindOf y.1=some .free
 len:cap.length=N'.length
 cap:∀(j i:Nat),cap[j]?=some (some i)->∃ x,N'[j]?=some x/\X.N[i]?=some x/\sc.names.lookup x=some .free
def Ki:Option NameKind->Bool
 |some .cell=>true
 |some .free=>true
 |_=>false
theorem MV {k:Option NameKind}(h:Ki k=true):k=some .cell∨k=some .free:=by
 cases k with
 |none=>cases h
 |some k=>cases k<;>first|exact .inl rfl|exact .inr rfl|cases h
def ZS (names:List (Str×NameKind))(kd:Str->Option NameKind)(y:Str×NameKind):Bool :=
 match y.2 with
 | .cell=>false
 | .local=>names.lookup y.1==some .local
 | .free=>Ki (kd y.1)
 |_=>true
def jc (N:List Str)(sc:Scope):List Str->List (Option Nat)->Bool
 |[],[]=>true
 |_::r,none::c=>jc N sc r c
 |x::r,some i::c=>N[i]?==some x&&(sc.names.lookup x==some .free&&jc N sc r c)
 |_,_=>false
theorem VH {N:List Str}{sc:Scope}:∀{xs:List Str}{c:List (Option Nat)},jc N sc xs c=true->c.length=xs.length
 |[],[],_=>rfl
 |_::r,none::c,h=>by
  have h':jc N sc r c=true:=h;simp [VH h']
 |x::r,some i::c,h=>by
  have h':(N[i]?==some x&&(sc.names.lookup x==some .free&&jc N sc r c))=true:=h;simp only [Bool.and_eq_true] at h';simp [VH h'.2.2]
 |[],_::_,h=>by cases h
 |_::_,[],h=>by cases h
theorem VG {N:List Str}{sc:Scope}:∀{xs:List Str}{c:List (Option Nat)},jc N sc xs c=true->∀(j i:Nat),c[j]?=some (some i)->∃ x,xs[j]?=some x/\N[i]?=some x/\sc.names.lookup x=some .free
 |[],[],_,j,i,e=>by simp at e
 |_::r,none::c,h,0,i,e=>by simp at e
 |_::r,none::c,h,j+1,i,e=>by
  have h':jc N sc r c=true:=h;obtain ⟨x,h1,h2⟩:=VG h' j i (by simpa using e);exact ⟨x,by simpa using h1,h2⟩
 |x::r,some k::c,h,0,i,e=>by
  have h':(N[k]?==some x&&(sc.names.lookup x==some .free&&jc N sc r c))=true:=h;simp only [Bool.and_eq_true] at h';have e':k=i:=by simpa using e
  subst e';exact ⟨x,rfl,by simpa using h'.1,by simpa using h'.2.1⟩
 |x::r,some k::c,h,j+1,i,e=>by
  have h':(N[k]?==some x&&(sc.names.lookup x==some .free&&jc N sc r c))=true:=h;simp only [Bool.and_eq_true] at h';obtain ⟨x',h1,h2⟩:=VG h'.2.2 j i (by simpa using e);exact ⟨x',by simpa using h1,h2⟩
 |[],_::_,h,_,_,_=>by cases h
 |_::_,[],h,_,_,_=>by cases h
theorem qf {X:Cx}{N':List Str}{cap:List (Option Nat)}{sc:Scope}(h1:sc.kind = .function)(h2:(sc.names.all fun y=>ZS sc.names X.env.kindOf y)=true)(h3:jc X.N sc N' cap=true):wm X N' cap sc:=by
 have h2':=List.all_eq_true.mp h2;refine ⟨h1,fun y hy e=>?_,fun y hy e=>?_,fun y hy e=>?_,VH h3,VG h3⟩
 ·have q:=h2' y hy;unfold ZS at q;rw [e] at q;cases q
 ·have q:=h2' y hy;unfold ZS at q;rw [e] at q;simpa using q
 ·have q:=h2' y hy;unfold ZS at q;rw [e] at q;exact MV q
def xg (X:Cx)(N':List Str)(sc:Scope)(cl:List (Str×Addr))(C:Addr)(s:Shared)(H:Hp)(fp:List Addr)(pn:List (Addr×Obj)):Cx where
 prog:=X.prog
 w:=X.w
 K:=X.K
 mg:=X.mg
 base:=X.base
 A:=X.A
 N:=N'
 s₀:=s
 H₀:=H
 env:=compEnvC sc cl C X.env
 outer:=X.stack
 stack:=X.stack
 ex:=fp
 fn:=fun _=>false
 calm:=X.calm
 pn:=pn
 xe:=fun _ _=>False
section
variable {X:Cx}{pins:List (Addr×Obj)}{Z:St}{H:Hp}{s:Shared}{h1:Heap}{N':List Str}{cap:List (Option Nat)}{sc:Scope}{cl:List (Str×Addr)}{fp:List Addr}{C D:Addr}
theorem Dd (I:Inv X pins Z H s)(S:wm X N' cap sc)(hc1:∀ x c,cl.lookup x=some c->X.env.cells.lookup x=some c)(hc2:∀ y∈sc.names,y.2 = .free->∃ c,cl.lookup y.1=some c)(hf:∀ b∈fp,xN X pins H b)(ho:∀ b∈fp,b<s.heap.objs.size)(hC:s.heap.objs.size<=C):(xg X N' sc cl C s H fp (X.pn++pins)).Ok where
 mod:=I.ok.mod
 kind:=S.kind
 glob:=I.ok.glob
 blt:=I.ok.blt
 above:=hC
 inj:=fun x y c e1 e2=>I.ok.inj x y c (hc1 x c e1) (hc1 y c e2)
 has:=fun x hx=>by
  have key:∀ k,(relabel sc X.env).names.lookup x=some k->(k = .cell∨k = .free)->∃ c,cl.lookup x=some c:=fun k e hk=>by
   obtain ⟨k',e',q⟩:=Bw e;have hm:=PySem.mem_of_lookup e';have hfree:k' = .free:=by
    rcases q with q|q
    ·rcases hk with z|z
     ·exact absurd (q.trans z) (S.nocell _ hm)
     ·exact q.trans z
    ·exact q.1
   exact hc2 (x,k') hm hfree
  rcases hx with e|e
  ·exact key _ e (.inl rfl)
  ·exact key _ e (.inr rfl)
 cab:=fun x c hx _=>by cases hx
 hd:=I.ok.hd
 frames:=I.ok.frames
 stk:= .inl rfl
 exf:=fun b hb=>⟨Nat.ne_of_lt (Nat.lt_of_lt_of_le (ho b hb) hC),fun x c e=>(hf b hb).2.2.2.2.1 x c (hc1 x c e)⟩
 bs:=I.bs
 bsz:=Nat.le_trans I.ok.bsz I.sz
 noex:=fun b o e hb=>by
  rcases (hf b hb).2.2.2.1 with z|z
  ·exact I.ok.noex b o e z
  ·exact absurd (Nat.lt_of_lt_of_le (Heap.lt_size e) (Nat.le_trans I.ok.bsz z)) (Nat.lt_irrefl _)
 exfs:=fun b hb hz=>by
  rcases List.mem_cons.mp (I.stkSub b hz) with e|e
  ·exact (hf b hb).2.1 e
  ·exact (hf b hb).2.2.1 e
 funs:=I.stack
 frf:=I.stkFree
 tbs:=fun p hp=>I.base.tbls _ _ _ (I.ok.tbs p hp)
theorem Ml {m0:Str->Option Value}{o:Obj}(I:Inv X pins Z H s)(S:wm X N' cap sc)(hc1:∀ x c,cl.lookup x=some c->X.env.cells.lookup x=some c)(hc2:∀ y∈sc.names,y.2 = .free->∃ c,cl.lookup y.1=some c)(hf:∀ b∈fp,xN X pins H b)(ho:∀ b∈fp,b<s.heap.objs.size)(hD:s.heap.objs.size<=D)(hC:D<C)(hDo:h1.get? D=some o)(hoc:∀ v,o.data ≠ .cell v)(hns:h1.Ns C m0)(hk:∀ b o,s.heap.get? b=some o->h1.get? b=some o)(t:Nat):Inv (xg X N' sc cl C s H fp (X.pn++pins)) [(D,o)] (qc cap Z) H { s with heap:=h1,toks:=t }:=by
 have hCs:s.heap.objs.size<=C:=Nat.le_trans hD (Nat.le_of_lt hC);have lt_s:∀ b o,s.heap.get? b=some o->b≠C:=fun b o e=>Nat.ne_of_lt (Nat.lt_of_lt_of_le (Heap.lt_size e) hCs);refine ⟨Dd I S hc1 hc2 hf ho hCs,rfl,I.bare,Un.kept hk,⟨m0,hns,fun j x v e1 e2 e3=>?_⟩,fun x c e=>?_,I.hok.fresh hCs,fun x c e=>I.freeC x c (hc1 x c e),fun p hp=>?_,I.hok.kept hk,?_⟩
 ·obtain ⟨i,hi,hσ⟩:∃ i,cap[j]?=some (some i)/\Z[i]?=some (some v):=by
   unfold qc at e2;rw [List.getElem?_map] at e2;cases hc:cap[j]? with
   |none=>rw [hc] at e2;cases e2
   |some o' =>
    rw [hc] at e2;have e2':(o'.bind fun i=>(Z[i]?).join)=some v:=Option.some.inj e2;cases o' with
    |none=>cases e2'
    |some i =>
     refine ⟨i,rfl,?_⟩;have e3':(Z[i]?).join=some v:=e2';cases hs:Z[i]? with
     |none=>rw [hs] at e3';cases e3'
     |some q=>rw [hs] at e3';exact congrArg some e3'
  obtain ⟨x',n1,n2,n3⟩:=S.cap j i hi;have e1':N'[j]?=some x:=e1;rw [n1] at e1';obtain rfl:x'=x:=Option.some.inj e1';have hkd:=S.free (x',.free) (PySem.mem_of_lookup n3) rfl;obtain ⟨m,_,hl⟩:=I.loc;obtain ⟨u,r,l⟩:=hl i x' v n2 hσ (by
   rcases hkd with z|z
   ·exact .inr (.inl z)
   ·exact .inr (.inr z))
  refine ⟨u,r,?_⟩;rcases l with ⟨l1,_⟩|⟨_,c,ec,hcell⟩
  ·rcases hkd with z|z
   ·exact absurd (l1.symm.trans z) (by simp)
   ·exact absurd (l1.symm.trans z) (by simp)
  ·obtain ⟨c',ec'⟩:=hc2 (x',.free) (PySem.mem_of_lookup n3) rfl;have q:=hc1 x' c' ec';rw [ec] at q;obtain rfl:c=c':=Option.some.inj q;refine .inr ⟨Bv n3,c,ec',?_⟩;obtain ⟨oc,hoc',hd⟩:=hcell;exact ⟨oc,hk _ _ hoc',hd⟩
 ·obtain ⟨v,oc,hoc',hd⟩:=I.cell x c (hc1 x c e);exact ⟨v,oc,hk _ _ hoc',hd⟩
 ·rcases List.mem_append.mp hp with hp|hp
  ·obtain ⟨e,n,ne,nf,d⟩:=I.pin p hp;refine ⟨hk _ _ e,n,lt_s _ _ e,fun hz=>?_,d⟩;rcases List.mem_cons.mp (I.stkSub _ hz) with e'|e'
   ·exact ne e'
   ·exact nf e'
  ·have e:p=(D,o):=by simpa using hp
   subst e;refine ⟨hDo,I.hok.fresh hD,Nat.ne_of_lt hC,fun hz=>?_,hoc⟩;rcases List.mem_cons.mp (I.stkSub _ hz) with e'|e'
   ·exact absurd (Nat.lt_of_lt_of_le I.lt hD) (by rw [show X.env.locals=D from e'.symm];exact Nat.lt_irrefl _)
   ·exact I.nofs hD e'
 ·unfold qc;rw [List.length_map];exact S.len
end
end L2
namespace L2
open PySem PySem.Spec PyProof.Rows
structure Wk (Z σ':St):Prop where
 len:Z.length=σ'.length
 at':∀(i:Nat) v,Z[i]?=some (some v)->σ'[i]?=some (some v)
theorem Wk.refl (Z:St):Wk Z Z:=⟨rfl,fun _ _ h=>h⟩
theorem Wk.set {Z σ':St}{i:Nat}{o:Option V}(w:Wk Z σ')(h:Z[i]?=some none):Wk Z (σ'.set i o):=by
 refine ⟨by rw [List.length_set];exact w.len,fun j v e=>?_⟩;have ne:i≠j:=fun z=>by rw [<- z,h] at e;cases e
 rw [List.getElem?_set_ne ne];exact w.at' j v e
theorem Wk.one {Z:St}{i:Nat}{o:Option V}(h:Z[i]?=some none):Wk Z (Z.set i o):=(Wk.refl Z).set h
def PTs (X:Cx)(ifs:List Expr)(t:TT):Prop :=
 ∀(pins:List (Addr×Obj))(s:Shared)(Z:St)(H:Hp)(Q:Bool->Hp->Prop),Inv X pins Z H s->t Z H Q ->
  wpAny (model X.prog X.w) X.A (forIn ifs true fun c r=>if r=true then do let ok <- isTrue c X.env (eval c X.env);pure (ForInStep.yield ok) else pure (ForInStep.yield r)) (TP X pins Z Q) X.xe s
def tYes:TT:=fun _ H Q=>Q true H
theorem ql {X:Cx}:PTs X [] tYes:=fun _ _ _ H _ I h=>wpAny_tests_nil ⟨H,I,h⟩
theorem Ba {X:Cx}{c:Expr}{t:TT}(h:PT X c t):PTs X [c] t:=fun pins s Z H Q I q=>wpAny_tests_one (h pins s Z H Q I q)
def YC (J:It)(g:TG)(tt:TT)(te:TE)(Q:VK)(σ0:St)(H1:Hp):Prop:=∃ W:Nat->Nat->List V->Hp->Prop,(∃ m,W 0 m [] H1)/\∀ i m ys H,W i m ys H->ys.length<=sizeLine /\
  ((J.stop i H/\∀ D,H D=none->Q (.ref D) (v8 H D (.lst ys))) ∨
   (J.go i H/\∀ x H',J.yld i H x H'->g x σ0 H' fun σ2 H2=>Wk σ0 σ2/\tt σ2 H2 fun b H3 =>
      if b=true then te σ2 H3 fun v H4=>∃ m',m'<m/\W (i+1) m' (ys++[v]) H4 else ∃ m',m'<m/\W (i+1) m' ys H3))
def Vi (wi:TI)(g:TG)(tt:TT)(te:TE)(cap:List (Option Nat)):TE:=fun Z H Q=>wi Z H fun J H1=>YC J g tt te Q (qc cap Z) H1
section
variable {X:Cx}{pins:List (Addr×Obj)}{Z:St}{s₂:Shared}{N':List Str}{cap:List (Option Nat)}{sc:Scope}{cl:List (Str×Addr)}{fp:List Addr}
theorem Gj {tg iter elt:Expr}{ifs:List Expr}{pos:Pos}{g:TG}{tt:TT}{te:TE}{Q:VK}{H2:Hp}{it:Addr}{tn:Nat->Heap->Prop}{J:It}{E:Value->Shared->Prop}{RR:Value->Addr->Result->Shared->Prop}(S:wm X N' cap sc)(hc:X.calm=true)(hc1:∀ x c,cl.lookup x=some c->X.env.cells.lookup x=some c)(hc2:∀ y∈sc.names,y.2 = .free->∃ c,cl.lookup y.1=some c)(hg:∀ C pn,PG (xg X N' sc cl C s₂ H2 fp pn) tg g)(ht:∀ C pn,PTs (xg X N' sc cl C s₂ H2 fp pn) ifs tt)(he:∀ C pn,PE (xg X N' sc cl C s₂ H2 fp pn) elt te)(I2:Inv X pins Z H2 s₂)(T:Turn X.prog X.w X.K tg J fp it tn)(st2:tn 0 s₂.heap)(f2:∀ b∈fp,xN X pins H2 b)(W:Nat->Nat->List V->Hp->Prop)(w0:∃ m,W 0 m [] H2)(turn:∀ i m ys H,W i m ys H->ys.length<=sizeLine /\ ((J.stop i H/\∀ D,H D=none->Q (.ref D) (v8 H D (.lst ys)))∨(J.go i H/\∀ x H',J.yld i H x H'->g x (qc cap Z) H' fun σ2 H2=>Wk (qc cap Z) σ2/\tt σ2 H2 fun b H3 => if b=true then te σ2 H3 fun v H4=>∃ m',m'<m/\W (i+1) m' (ys++[v]) H4 else ∃ m',m'<m/\W (i+1) m' ys H3)))(hRR:∀ D C H' s' m,Inv X pins Z H' s'->s'.heap.Ns C m->xN X pins H' C->Q (.ref D) H'->RR (.ref D) C (.ok .next) s'):wpAny (model X.prog X.w) X.A (newList []) (fun acc s₃=>wpAny (model X.prog X.w) X.A (newFunctionEnv sc X.env.globals cl [] X.env.qual none .none (some X.env)) (fun cenv s₄ => codeAny (model X.prog X.w) X.A (.compStart (.ListComp elt [⟨tg,iter,ifs,0⟩] sc pos) 0 (.ref it) acc { cenv with scope:=relabel sc X.env }) (RR acc cenv.locals) s₄) E s₃) E s₂:=by
  refine wpAny_newObj_type (wpAny_newFunctionEnv S.nocell (by intro y hy;simp at hy) (fun h₁ hns₁ hsb₁=>?_) S.kind)
  dsimp only at hns₁ hsb₁ ⊢
  generalize hG:s₂.heap.push { cls:= .type "list",dict:=none,data:= .seq ([]:List Value).toArray }=G at hns₁ hsb₁ ⊢;have hC:G.objs.size=s₂.heap.objs.size+1:=by rw [<- hG,Heap.size_push]
  have hDC:s₂.heap.objs.size<G.objs.size:=by rw [hC];exact Nat.lt_succ_self _
  have old:∀ b o,s₂.heap.get? b=some o->h₁.get? b=some o:=fun b o e =>
    hsb₁.extBut b o (Nat.ne_of_lt (Nat.lt_trans (Heap.lt_size e) hDC)) (Heap.get?_push_of_some _ (hG▸Heap.get?_push_of_some _ e))
  have hacc:h₁.get? s₂.heap.objs.size=some (LCg.lst []):=hsb₁.extBut _ _ (Nat.ne_of_lt hDC) (Heap.get?_push_of_some _ (hG▸Heap.get?_push_size _ rfl));have fl:∀ b∈fp,b<s₂.heap.objs.size:=fun b hb=>by obtain ⟨o,e,_⟩:=T.obj _ _ st2 b hb;exact Heap.lt_size e
  have seqd:∀(us:List Value) v,(LCg.lst us).data ≠ .cell v:=fun us v z=>by cases z
  have cellt:∀ x c,cl.lookup x=some c->c<s₂.heap.objs.size:=fun x c e=>by obtain ⟨v,oc,ho,_⟩:=I2.cell x c (hc1 x c e);exact Heap.lt_size ho
  have pint:∀ p∈X.pn++pins,p.1<s₂.heap.objs.size:=fun p hp=>Heap.lt_size (I2.pin p hp).1;have I0:Inv (xg X N' sc cl G.objs.size s₂ H2 fp (X.pn++pins)) [(s₂.heap.objs.size,LCg.lst [])] (qc cap Z) H2 { s₂ with heap:=h₁,toks:=s₂.toks+([]:List (Str×Value)).length } :=
    Ml I2 S hc1 hc2 f2 fl (Nat.le_refl _) hDC hacc (seqd []) hns₁ old _
  have stat:∀{H':Hp}{us:List Value},(∀ b∈fp,H' b=none)->∀ b∈fp,xN (xg X N' sc cl G.objs.size s₂ H2 fp (X.pn++pins)) [(s₂.heap.objs.size,LCg.lst us)] H' b:=fun {H' us} hn b hb=>by
    obtain ⟨f0,f1,f2',f3,f4,f5⟩:=f2 b hb;refine ⟨hn b hb,Nat.ne_of_lt (Nat.lt_trans (fl b hb) hDC),fun hz=>?_,.inl hb,fun x c e=>f4 x c (hc1 x c e),fun p hp=>?_⟩
    · rcases List.mem_cons.mp (I2.stkSub b hz) with e|e
      · exact f1 e
      · exact f2' e
    · rcases List.mem_append.mp hp with hp|hp
      · exact f5 p hp
      · have e:p=(s₂.heap.objs.size,LCg.lst us):=by simpa using hp
        rw [e];exact Ne.symm (Nat.ne_of_lt (fl b hb))
  have loop:∀ s₃:Shared,s₃={ s₂ with heap:=h₁,toks:=s₂.toks+([]:List (Str×Value)).length } ->
      codeAny (model X.prog X.w) X.A (.compLoop (.ListComp elt [⟨tg,iter,ifs,0⟩] sc pos) 0 (.ref it) (.ref s₂.heap.objs.size) (compEnvC sc cl G.objs.size X.env)) (RR (.ref s₂.heap.objs.size) G.objs.size) s₃:=by
    rintro s₃ rfl;obtain ⟨m0,w0⟩:=w0;refine Da
      (fun n s'=>∃ i ys us H',Inv (xg X N' sc cl G.objs.size s₂ H2 fp (X.pn++pins)) [(s₂.heap.objs.size,LCg.lst us)] (qc cap Z) H' s'/\Vals ys us/\tn i s'.heap/\(∀ b∈fp,H' b=none)/\W i n ys H') ?_ m0
      ⟨0,[],[],H2,I0,.nil,T.keep _ _ _ st2 fun b _ o e=>old b o e,fun b hb=>(f2 b hb).1,w0⟩
    rintro n s3 ⟨i,ys,us,H3,I3,rv,st3,fr3,w3⟩;obtain ⟨hz,alt⟩:=turn i n ys H3 w3;rcases alt with ⟨stop,fin⟩|⟨go,step⟩
    · refine j6 (T.done (xg X N' sc cl G.objs.size s₂ H2 fp (X.pn++pins)) rfl rfl rfl hc i _ s3 _ H3 _ I3 (stat fr3) st3 stop) fun r s4 ⟨hr,I4⟩=>?_
      subst hr;obtain ⟨gD,nD,_,_,_⟩:=I4.pin (s₂.heap.objs.size,LCg.lst us) (List.mem_append_right _ (List.mem_singleton.mpr rfl));have nD':H3 s₂.heap.objs.size=none:=nD;have gD':s4.heap.get? s₂.heap.objs.size=some (LCg.lst us):=gD;have b4:Un (frs X.stack) fp H2 H3 s₂.heap s4.heap:=I4.base;have n2:H2 s₂.heap.objs.size=none:=I2.hok.fresh (Nat.le_refl _);have un:Un (frs X.stack) fp H2 (v8 H3 s₂.heap.objs.size (.lst ys)) s₂.heap s4.heap :=
        ⟨b4.keep,b4.slot,fun b o e n hx=>by rw [j7 (Nat.ne_of_lt (Heap.lt_size e))];exact b4.free b o e n hx,b4.there,
          fun b xs e=>by rw [j7 (p5 e n2)];exact b4.tups b xs e,fun b o u e=>by rw [j7 (p5 e n2)];exact b4.frzs b o u e,
          fun b ps q e=>by rw [j7 (p5 e n2)];exact b4.tbls b ps q e⟩
      have hok:HOk X.prog X.w (v8 H3 s₂.heap.objs.size (.lst ys)) s4.heap:=fun b u e=>by
        by_cases hb:b=s₂.heap.objs.size
        · subst hb
          rw [u8] at e;cases e;exact ⟨hz,us,us.length,rv,gD'⟩
        · rw [j7 hb] at e
          exact (I4.hok b u e).stay (fun c v _ q=>q) (fun c q=>by rw [j7 (p5 q nD')];exact q) (fun c xs q=>by rw [j7 (p5 q nD')];exact q) fun c _ _ q=>by rw [j7 (p5 q nD')];exact q
      have IF:Inv X pins Z (v8 H3 s₂.heap.objs.size (.lst ys)) s4:=I2.call' (ch:=fp) I4.os un hok I4.bare fun b hb=>by
        obtain ⟨f0,f1,f2',f3,f4,f5⟩:=f2 b hb;exact ⟨f3,f1,f4,f5⟩
      obtain ⟨mF,hnF,_⟩:=I4.loc;refine hRR _ _ _ _ mF IF hnF (I2.fpOk (Nat.le_of_lt hDC) ?_) (fin _ nD');rw [j7 (Ne.symm (Nat.ne_of_lt hDC))];exact I4.free
    · refine j6 (T.item (xg X N' sc cl G.objs.size s₂ H2 fp (X.pn++pins)) rfl rfl rfl hc i _ s3 _ H3 _ I3 (stat fr3) st3 go) fun r s4 ⟨u,hr,h4⟩=>?_
      subst hr;refine j6 h4 fun _ s5 ⟨x,H5,I5,r5,y5,st5,fr5⟩=>?_;have I5':=I5.pinned (stat fr5) (T.obj _ _ st5);refine j6 (hg G.objs.size (X.pn++pins) _ s5 _ H5 x u _ I5' r5 (step x H5 y5)) fun _ s6 ⟨σ6,H6,I6,wk,q6⟩=>?_;refine j6 (ht G.objs.size (X.pn++pins) _ s6 σ6 H6 _ I6 q6) fun ok s7 ⟨H7,I7,q7⟩=>?_;have back:∀{σ8:St}{H8:Hp}{s8:Shared}{us8:List Value},Inv (xg X N' sc cl G.objs.size s₂ H2 fp (X.pn++pins)) ([(s₂.heap.objs.size,LCg.lst us8)]++Xr fp s5.heap) σ8 H8 s8 ->
          tn (i+1) s8.heap/\∀ b∈fp,H8 b=none:=fun {σ8 H8 s8 us8} I8=>by
        refine ⟨T.keep _ _ _ st5 fun b hb o e=>(I8.pin (b,o) (List.mem_append_right _ (List.mem_append_right _ (ZO hb e)))).1,fun b hb=>?_⟩;obtain ⟨o,e,d⟩:=T.obj _ _ st5 b hb;exact (I8.pin (b,o) (List.mem_append_right _ (List.mem_append_right _ (ZO hb e)))).2.1
      cases ok with
      |false=>obtain ⟨m',hm,w7⟩:=q7;obtain ⟨t7,f7⟩:=back I7;exact ⟨m',hm,i+1,ys,us,H7,I7.unpinned.weak wk.len wk.at',rv,t7,f7,w7⟩
      |true =>
        refine j6 (he G.objs.size (X.pn++pins) _ s7 σ6 H7 _ I7 q7) fun uv s8 ⟨v,H8,I8,r8,m',hm,w8⟩=>?_;obtain ⟨t8,f8⟩:=back I8;obtain ⟨gD,nD,lD,fD,_⟩:=I8.pin (s₂.heap.objs.size,LCg.lst us) (List.mem_append_right _ (List.mem_append_left _ (List.mem_singleton.mpr rfl)));have gD':s8.heap.get? s₂.heap.objs.size=some { cls:= .type "list",data:= .seq us.toArray us.length }:=gD;refine append_at (hsz:=by rw [List.size_toArray,<- rv.length];exact hz) gD' fun h9 hs9 hD9=>?_;have I8a:Inv (xg X N' sc cl G.objs.size s₂ H2 fp (X.pn++pins)) [] σ6 H8 s8:=I8.pins_of fun p hp=>nomatch hp;have I9:Inv (xg X N' sc cl G.objs.size s₂ H2 fp (X.pn++pins)) [] σ6 H8 { s8 with heap:=h9,toks:=s8.toks } :=
          I8a.turned (it:=s₂.heap.objs.size) (fun b o hb e=>hs9.extBut b o hb e) nD lD (.inr (Nat.le_refl _)) (fun x c e=>Nat.ne_of_lt (cellt x c e)) fun p hp=>by
            rw [List.append_nil] at hp;exact Nat.ne_of_lt (pint p hp)
        have I10:Inv (xg X N' sc cl G.objs.size s₂ H2 fp (X.pn++pins)) [(s₂.heap.objs.size,LCg.lst (us++[uv]))] σ6 H8 { s8 with heap:=h9,toks:=s8.toks }:=I9.pins_of fun p hp=>by
          have e:p=(s₂.heap.objs.size,LCg.lst (us++[uv])):=by simpa using hp
          subst e;exact ⟨hD9.trans (congrArg some (LCg.lst_snoc us uv)),nD,lD,fD,seqd _⟩
        refine ⟨m',hm,i+1,ys++[v],us++[uv],H8,I10.weak wk.len wk.at',rv.append (.cons r8 .nil),T.keep _ _ _ t8 fun b hb o e=>hs9.extBut b o (Nat.ne_of_lt (fl b hb)) e,f8,w8⟩
  have st1:tn 0 h₁:=T.keep _ _ _ st2 fun b _ o e=>old b o e;exact codeAny_compStart_list (loop _ rfl) (T.self _ 0 _ _ _ st1 (loop _ rfl))
theorem qG {tg iter elt:Expr}{ifs:List Expr}{pos:Pos}{wi:TI}{g:TG}{tt:TT}{te:TE}(S:wm X N' cap sc)(hc:X.calm=true)(hi:PI X tg iter wi)(hg:∀ cl C s H fp pn,PG (xg X N' sc cl C s H fp pn) tg g)(ht:∀ cl C s H fp pn,PTs (xg X N' sc cl C s H fp pn) ifs tt)(he:∀ cl C s H fp pn,PE (xg X N' sc cl C s H fp pn) elt te)(hs:∀ x,foldedSetIterable iter X.env x=pure x:=by intro _;rfl):PE X (.ListComp elt [⟨tg,iter,ifs,0⟩] sc pos) (Vi wi g tt te cap):=by intro pins s Z H Q I h;rw [eval_ListComp];obtain ⟨cl,hcl,hc1,hc2⟩:=Gh (scope:=sc) (env:=X.env) fun y hy e=>I.ok.has y.1 (S.free y hy e);refine wpAny_comprehension_free (use:=none) rfl hs hcl S.kind S.names (j6 (hi pins s Z H _ I h) fun v s1 h1=>j6 h1 fun itv s2 h2=>?_);obtain ⟨it,fp,tn,J,H2,e,I2,T,st2,f2,W,w0,turn⟩:=h2;subst e;refine Gj (RR:=fun acc C=>compPost (model X.prog X.w) X.A X.xe none (EP X pins Z Q) acc C) S hc hc1 hc2 (fun C pn=>hg cl C s2 H2 fp pn) (fun C pn=>ht cl C s2 H2 fp pn) (fun C pn=>he cl C s2 H2 fp pn) I2 T st2 f2 W w0 turn ?_;intro D C H' s' m I' hn F q;obtain ⟨f0,f1,f2',f3,f4,f5⟩:=F;exact ⟨m,hn,fun h' hs'=>⟨.ref D,H',I'.turned (t':=s'.toks) (fun b o hb e=>hs'.extBut b o hb e) f0 f1 f3 f4 f5,rfl,q⟩⟩
theorem vY {i:Nat}{x:Str}{tg iter elt:Expr}{ifs:List Expr}{pos spos pos':Pos}{wi:TI}{g:TG}{tt:TT}{te:TE}(S:wm X N' cap sc)(hc:X.calm=true)(hN:X.N.Nodup)(hx:X.N[i]?=some x)(hk:X.env.scope.names.lookup x=some .local)(hi:PI X tg iter wi)
  (hg:∀ cl C s H fp pn,PG (xg X N' sc cl C s H fp pn) tg g) (ht:∀ cl C s H fp pn,PTs (xg X N' sc cl C s H fp pn) ifs tt) (he:∀ cl C s H fp pn,PE (xg X N' sc cl C s H fp pn) elt te)
  (hsw:swapsWith (.ListComp elt [⟨tg,iter,ifs,0⟩] sc pos) (some (.Name x pos')) spos.line X.env=pure true:=by rfl)
  (hs:∀ x,foldedSetIterable iter X.env x=pure x:=by intro _;rfl):PS X (.Assign [.Name x pos'] (.ListComp elt [⟨tg,iter,ifs,0⟩] sc pos) spos) (zX (Vi wi g tt te cap) (xt i)):=by
 intro pins s Z H D I h;rw [exec_Assign_Name_used _ _ _ _ hsw];refine wpAny_bind (wpAny_standAt (wpAny_bind ?_));show wpAny _ X.A (do let _ <- comprehension (.ListComp elt [⟨tg,iter,ifs,0⟩] sc pos) sc X.env _ (newList []) false (eval iter X.env) (some (assign (.Name x pos') X.env))) _ _ s;obtain ⟨cl,hcl,hc1,hc2⟩:=Gh (scope:=sc) (env:=X.env) fun y hy e=>I.ok.has y.1 (S.free y hy e);refine wpAny_bind (j6 (wpAny_comprehension_free (use:=some (assign (.Name x pos') X.env)) (Q:=fun _ s'=>SP X pins D .next s') rfl hs hcl S.kind S.names
  (j6 (hi pins s Z H _ I h) fun v s1 h1=>j6 h1 fun itv s2 h2=>?_)) fun _ s' hq=>wpAny_pure (wpAny_pure hq))
 obtain ⟨it,fp,tn,J,H2,e,I2,T,st2,f2,W,w0,turn⟩:=h2;subst e;refine Gj (Q:=fun v H1=>xt i v Z H1 D.nx) (RR:=fun acc C=>compPost (model X.prog X.w) X.A X.xe (some (assign (.Name x pos') X.env)) (fun _ s'=>SP X pins D .next s') acc C) S hc hc1 hc2 (fun C pn=>hg cl C s2 H2 fp pn) (fun C pn=>ht cl C s2 H2 fp pn) (fun C pn=>he cl C s2 H2 fp pn) I2 T st2 f2 W w0 turn ?_;intro E C H' s' m I' hn F q;obtain ⟨f0,f1,f2',f3,f4,f5⟩:=F;show wpAny _ X.A (assign (.Name x pos') X.env (.ref E)) _ _ _;refine wpAny_assign_Name (BT I' hN hx (.inl hk) (v:= .ref E) rfl (fun s'' I'' ch=>?_) (.inr hk));obtain ⟨a,sb,ha⟩:=ch;have nC:C≠a:=by
  rcases ha with z|z
  ·rw [z];exact f1
  ·exact Ne.symm (f4 x a z)
 exact ⟨m,hn.sameBut sb nC,fun h' hs'=>⟨_,H',I''.turned (t':=s''.toks) (fun b o hb e=>hs'.extBut b o hb e) f0 f1 f3 f4 f5,q⟩⟩
end
section
variable {g:TG}{tt:TT}{te:TE}{Q:VK}{H:Hp}{σ0:St}
theorem Gm {K:Fg}{a:Addr}{xs:List V}(Pv:Nat->List V->Hp->Prop)(h0:Pv 0 [] H)(hz:∀ i ys H,i<=xs.length->Pv i ys H->ys.length<=sizeLine)(hl:∀ i ys H,i<=xs.length->Pv i ys H->SqL K H a xs)(hs:∀ i x ys H (R:List V->Hp->Prop),xs[i]?=some x->Pv i ys H->(∀ ys' H',Pv (i+1) ys' H'->R ys' H')->g x σ0 H fun σ2 H2=>Wk σ0 σ2/\tt σ2 H2 fun b H3=>if b=true then te σ2 H3 fun v H4=>R (ys++[v]) H4 else R ys H3)(hd:∀ ys H,Pv xs.length ys H->∀ D,H D=none->Q (.ref D) (v8 H D (.lst ys))):YC (Itl K a) g tt te Q σ0 H:=by
 refine ⟨fun i m ys H=>m=xs.length-i/\i<=xs.length/\Pv i ys H,⟨xs.length,by simp,Nat.zero_le _,h0⟩,?_⟩;rintro i m ys H ⟨rfl,hi,p⟩;have q:=hl i ys H hi p;refine ⟨hz i ys H hi p,?_⟩;by_cases hlt:i<xs.length
 ·refine .inr ⟨⟨xs,xs[i],q,by simp [hlt]⟩,fun x H' y=>?_⟩;obtain ⟨e,y⟩:=y;subst e;exact hs i x ys _ (fun ys' H'=>∃ m',m'<xs.length-i/\m'=xs.length-(i+1)/\i+1<=xs.length/\Pv (i+1) ys' H') (y xs q) p fun ys' H' p'=>⟨xs.length-(i+1),by omega,rfl,hlt,p'⟩
 ·have e:i=xs.length:=by omega
  subst e;exact .inl ⟨⟨xs,q,Nat.le_refl _⟩,hd ys H p⟩
end
end L2
namespace L2
open PySem PySem.Spec PyProof.Rows
def tyB (T c:String):Option Bool:=if (Value.type T==Value.type c)=true then some true else if PySem.W.kitMeta c=true then (fastBuiltinMro T).map (·.contains (Value.type c)) else none
theorem MW {K:Fg}{T c:String}{b:Bool}(h:tyB T c=some b):PySem.W.kitOne K (.type T) (.type c)=some b:=h
theorem TU:tyB "int" "int"=some true:=by decide +kernel
theorem TR:tyB "int" "bool"=some false:=by decide +kernel
theorem TV:tyB "list" "list"=some true:=by decide +kernel
theorem TW:tyB "str" "str"=some true:=by decide +kernel
theorem zJ:bootBuiltins "isinstance"=some (.builtin "isinstance"):=by decide +kernel
theorem zw:bootBuiltins "list"=some (.type "list"):=by decide +kernel
theorem UZ:bootBuiltins "int"=some (.type "int"):=by decide +kernel
theorem UY:bootBuiltins "bool"=some (.type "bool"):=by decide +kernel
theorem CA:bootBuiltins "str"=some (.type "str"):=by decide +kernel
theorem vD:bootBuiltins "all"=some (.builtin "all"):=by decide +kernel
theorem CB:bootBuiltins "sum"=some (.builtin "sum"):=by decide +kernel
theorem Cy:bootBuiltins "min"=some (.builtin "min"):=by decide +kernel
theorem Cv:bootBuiltins "enumerate"=some (.type "enumerate"):=by decide +kernel
theorem CC:bootBuiltins "zip"=some (.type "zip"):=by decide +kernel
section
variable {X:Cx}
theorem CH:CallR X (.builtin "isinstance") (fun xs H Q=>∃ x n T b,xs=[x,.ty n]/\xU X.K H x (.type T)/\tyB T n=some b/\Q (.bl b) H):=by intro pins s Z H xs us Q I r h;obtain ⟨x,n,T,b,rfl,ty,e,q⟩:=h;obtain ⟨u,w',rfl,rx,rw'⟩:=Yx r;obtain rfl:w'=Value.type n:=rw';exact Mv I rx ty (MW e) fun tk=>⟨.bl b,H,I.tok _,rfl,q⟩
theorem Pu:∀{bs:List Bool}{us:List Value}{i:Nat}{u:Value},Vals (bs.map V.bl) us->us[i]?=some u->u = .bool (bs.getD i false)
 |[],_,_,_,.nil,e=>by simp at e
 |b::_,_,0,_,.cons r _,e=>by
  have e':=Option.some.inj e;subst e';exact r
 |_::bs,_,i+1,u,.cons _ t,e=>by
  have q:=Pu (i:=i) (u:=u) t (by simpa using e);simpa using q
theorem PZ:∀(bs:List Bool),(List.range bs.length).all (fun i=>bs.getD i false)=bs.all id:=by
 intro bs;rw [Bool.eq_iff_iff,List.all_eq_true,List.all_eq_true];constructor
 ·intro h b hb;obtain ⟨i,hi,e⟩:=List.getElem_of_mem hb;have q:=h i (List.mem_range.mpr hi);rw [List.getD_eq_getElem?_getD,List.getElem?_eq_getElem hi] at q;rw [<- e];exact q
 ·intro h i hi;have hi':=List.mem_range.mp hi;rw [List.getD_eq_getElem?_getD,List.getElem?_eq_getElem hi'];exact h _ (List.getElem_mem hi')
theorem CF (hc:X.calm=true):CallR X (.builtin "all") (fun xs H Q=>∃ (a:Addr) (bs:List Bool),xs=[.ref a]/\SqL X.K H a (bs.map V.bl)/\Q (.bl (bs.all id)) H):=by
 intro pins s Z H xs us Q I r h;obtain ⟨a,bs,rfl,hq,q⟩:=h;obtain ⟨u,rfl,ru⟩:=zH r;obtain rfl:u=Value.ref a:=ru;obtain ⟨its,rv,p,hz⟩:=I.list hq;have hlt:a<s.heap.objs.size:=by obtain ⟨_,_,e,_⟩:=p;exact Heap.lt_size e
 have hl:s.heap.IsList a its.toArray:=p.isList;refine call_all_walk (wpAny_pyIter_list hl ?_);refine ⟨s.heap.objs.size,_,_,_,_,_,fun i=>bs.getD i false,rfl,Walks.list (A:=X.A.in1) (I.ok.hd hc) s.heap.objs.size a (Nat.ne_of_lt hlt) its.toArray,⟨⟨_,Heap.get?_push_size _ rfl,rfl,rfl⟩,hl.push _⟩,?_,fun h' tk k=>?_⟩
 ·intro i v s' Q' E' hP hQ;have e:=Pu rv (by simpa using hP);subst e;exact wpAny_truthy_bool hQ
 ·have hn:its.toArray.size=bs.length:=by have e:=rv.length;rw [List.length_map] at e;rw [List.size_toArray];exact e.symm
  rw [hn,PZ];refine ⟨.bl (bs.all id),H,I.kept (t':=tk) (fun b o e=>k b o (fun hm=>?_) (Heap.get?_push_of_some _ e)),rfl,q⟩;have e':b=s.heap.objs.size:=by simpa using hm
  exact absurd (Heap.lt_size e) (by rw [e'];exact Nat.lt_irrefl _)
theorem Yz:∀{ns:List Int}{us:List Value},Vals (ns.map V.int) us->IntsAre us ns
 |[],_,.nil=> .nil
 |n::_,_,.cons ⟨t,e⟩ r=>by
  subst e;exact .cons n t (Yz r)
theorem CV (hc:X.calm=true):CallR X (.builtin "sum") (fun xs H Q=>∃ (a:Addr) (ns:List Int),xs=[.ref a]/\SqL X.K H a (ns.map V.int)/\Q (.int ns.sum) H):=by
 intro pins s Z H xs us Q I r h;obtain ⟨a,ns,rfl,hq,q⟩:=h;obtain ⟨u,rfl,ru⟩:=zH r;obtain rfl:u=Value.ref a:=ru;obtain ⟨its,rv,p,hz⟩:=I.list hq;have hi:=Yz rv;have hl:s.heap.IsList a its.toArray:=p.isList;obtain ⟨xs,ex⟩:=hi.allInts.items;have e2:(numsOf its.toArray.toList).sum=ns.sum:=by rw [show its.toArray.toList=its from rfl,hi.numsOf]
 rw [ex] at hl e2;rw [nums_intItems] at e2;refine sum_intListG (I.ok.hd hc) hl fun h' tk t' k=>⟨.int ns.sum,H,I.kept (t':=tk) k,?_,q⟩;rw [preSum_eq,List.take_of_length_le (by simp),e2];exact ⟨_,rfl⟩
def XN (_i j:Int):Prop:=0<j/\j.natAbs.log2<9000
theorem KF:OpR X (binaryOp .FloorDiv) (rI XN fun i j=> .int (i / j)):=opI fun i j _ _ _ _ _ hc q=>by
 have e:i.fdiv j=i / j:=Int.fdiv_eq_ediv_of_nonneg i (Int.le_of_lt hc.1);exact floordiv_int (Ne.symm (Int.ne_of_lt hc.1)) (by rw [e];exact q) (.inl (PyProof.noPylong_of_log2 hc.2))
def QD (i j:Int):Prop:=Builtin.Int.intBits i<=2 ^ 20/\Builtin.Int.intBits j<=2 ^ 20
theorem Qn:OpR X (binaryOp .Mult) (rI QD fun i j=> .int (i*j)):=opI fun _ _ _ _ _ _ _ hc q=>mul_int q (IntMulOk.of_bits hc.1 hc.2)
def Its (lo c:Int)(n:Nat):It:=⟨fun i _=>i<n,fun i H x H'=>H'=H/\x = .int (lo+i*c),fun i _=>n<=i⟩
theorem TD {P:Program}{w:World}{K:Fg}{tg:Expr}(it:Addr)(lo c:Int)(n:Nat):Turn P w K tg (Its lo c n) [it] it (fun i h=>IsRangeIter h it (lo+(i:Nat)*c) ((n:Int)-(i:Nat)) c) where
 mem:=by simp
 obj:=fun i h st b hb=>by
  have e:b=it:=by simpa using hb
  subst e;exact ⟨_,st,fun v z=>by
   have z':Data.fields _=Data.cell v:=z;cases z'⟩
 keep:=fun i h h' st k=>k it (by simp) _ st
 item:=by intro X hP hw hK hc i pins s Z H E I hf st hg;subst hP hw hK;obtain ⟨f0,f1,f2,f3,f4,f5⟩:=hf it (by simp);have W:=Walks.range (prog:=X.prog) (w:=X.w) (I.ok.hd hc) it lo c n;refine W.item i s _ _ hg st fun v h' tk hv st' kk=>?_;obtain ⟨t,rfl⟩:=hv;have I1:Inv X pins Z H { s with heap:=h',toks:=tk }:=I.turned (fun b o hb e=>kk b o (by simpa using hb) e) f0 f1 f3 f4 f5;exact ⟨_,rfl,QT (s:={ s with heap:=h',toks:=tk }) (n := "range_iterator") st' rfl rfl (by decide) ⟨.int (lo+i*c),H,I1,⟨t,rfl⟩,⟨rfl,rfl⟩,st',fun b hb=>(hf b hb).1⟩⟩
 done:=by intro X hP hw hK hc i pins s Z H E I hf st hg;subst hP hw hK;obtain ⟨f0,f1,f2,f3,f4,f5⟩:=hf it (by simp);exact wpAny_pyNext_range_end (I.ok.hd hc) st (by have:n<=i:=hg;omega) fun h' eb=>⟨rfl,I.turned (t':=s.toks) (fun b o hb e=>eb b o hb e) f0 f1 f3 f4 f5⟩
 self:=fun _ _ _ _ _ st h=>wpAny_pyIter_rangeiter st h
def jT (i j c:Int):Nat:=(Builtin.Range.rangeSize i j c).toNat
def iRng3 (ta:TA):TI:=fun Z H R=>ta Z H fun vs H1=>∃ i j c:Int,vs=[.int i,.int j,.int c]/\(0<c/\c<1073741824)/\0<=Builtin.Range.rangeSize i j c/\Builtin.Range.small i j c=true/\R (Its i c (jT i j c)) H1
variable {tg:Expr}
theorem Hu {a b c:Expr}{ta:TA}{p pos:Pos}(hg:Gl X "range")(hm:X.mg "range"=none)(ha:PA X [a,b,c] ta)(hs:starEach [a,b,c] X.env=[(false,eval a X.env),(false,eval b X.env),(false,eval c X.env)]:=by rfl)(hs2:starEach [b,c] X.env=[(false,eval b X.env),(false,eval c X.env)]:=by rfl):PI X tg (.Call (.Name "range" p) [a,b,c] [] pos) (iRng3 ta):=by
 intro pins s Z H R I h;refine Call_ (jG I hg hm boot_range (PyProof.Rows.callWith_type1 (j6 (ha pos pins s Z H _ I h) fun us s1 ⟨vs,H1,I1,r1,q1⟩=>?_) (by rw [hs,hs2]) (by rw [hs2];rfl)));obtain ⟨i,j,c,e,⟨q1,q2⟩,q3,q4,q⟩:=q1;subst e;cases r1 with
 |cons r rr =>
  cases rr with
  |cons r' rr =>
   cases rr with
   |cons r'' rr =>
    cases rr;obtain ⟨t,rfl⟩:=r;obtain ⟨t',rfl⟩:=r';obtain ⟨t'',rfl⟩:=r'';refine call_range_3 (Ne.symm (Int.ne_of_lt q1)) ?_ (.inl (PyProof.noPylong_small (by omega)));refine wpAny_pyIter_range (IsRange.new ..) q4 ?_;have I2:Inv X pins Z H1 { s1 with heap:=s1.heap.push { cls:= .type "range",data:= .fields #[.int i t,.int j t',.int c t''] },toks:=s1.toks }:=I1.kept fun b o e=>Heap.get?_push_of_some _ e;refine ⟨(s1.heap.push { cls:= .type "range",data:= .fields #[.int i t,.int j t',.int c t''] }).objs.size,[(s1.heap.push { cls:= .type "range",data:= .fields #[.int i t,.int j t',.int c t''] }).objs.size],_,_,H1,rfl,
     I2.kept (t':=s1.toks) fun b o e=>Heap.get?_push_of_some _ e,TD _ i c (jT i j c),?_,fun b hb=>?_,q⟩
    ·have e1:i+((0:Nat):Int)*c=i:=by simp
     have e2:((jT i j c:Nat):Int)-((0:Nat):Int)=Builtin.Range.rangeSize i j c:=by unfold jT;omega
     show IsRangeIter _ _ (i+((0:Nat):Int)*c) (((jT i j c:Nat):Int)-((0:Nat):Int)) c;rw [e1,e2];exact Heap.get?_push_size _ rfl
    ·have e:b=(s1.heap.push { cls:= .type "range",data:= .fields #[.int i t,.int j t',.int c t''] }).objs.size:=by simpa using hb
     subst e;exact I2.fpOk (Nat.le_refl _) (I2.hok.fresh (Nat.le_refl _))
end
theorem DH {lo c:Int}{n:Nat}{g:TG}{tb:TS}{D:zu}{Z:St}{H:Hp}(Pv:Nat->St->Hp->Prop)(h0:Pv 0 Z H)(hs:∀ i Z H,i<n->Pv i Z H->g (.int (lo+i*c)) Z H fun σ2 H2=>tb { D with nx:=Pv (i+1),ct:=Pv (i+1),bk:=D.nx } σ2 H2)(hd:∀ Z H,Pv n Z H->D.nx Z H):∃ W:Nat->Nat->St->Hp->Prop,(∃ m,W 0 m Z H)/\∀ i m Z H,W i m Z H -> ((Its lo c n).stop i H/\D.nx Z H)∨((Its lo c n).go i H/\∃ N:St->Hp->Prop,(∀ σ' H',N σ' H'->∃ m',m'<m/\W (i+1) m' σ' H')/\∀ x H',(Its lo c n).yld i H x H'->g x Z H' fun σ2 H2=>tb { D with nx:=N,ct:=N,bk:=D.nx } σ2 H2):=by
 refine ⟨fun i m Z H=>m=n-i/\i<=n/\Pv i Z H,⟨n,by simp,Nat.zero_le _,h0⟩,?_⟩;rintro i m Z H ⟨rfl,hi,p⟩;by_cases hlt:i<n
 ·refine .inr ⟨hlt,Pv (i+1),fun σ' H' p'=>⟨n-(i+1),by omega,rfl,hlt,p'⟩,fun x H' y=>?_⟩;obtain ⟨e,y⟩:=y;subst e y;exact hs i Z _ hlt p
 ·have e:i=n:=by omega
  subst e;exact .inl ⟨Nat.le_refl _,hd Z H p⟩
section
open PySem.SeqAt
theorem zn {α β:Type}{F:α->β->Prop}:∀{l₁:List α}{l₂:List β},Paired F l₁ l₂->∀(j:Nat)(h1:j<l₁.length)(h2:j<l₂.length),F l₁[j] l₂[j]
 |_,_,.cons r _,0,_,_=>r
 |_,_,.cons _ t,j+1,h1,h2=>zn t j (by simpa using h1) (by simpa using h2)
variable {X:Cx}
end
structure Fn (P:Program)(w:World)(K:Fg)(mg:Str->Option Value)(base:Heap)(k:Nat)(x:Str)(ps:List Str)(sp:Sp):Prop where
 ex:∃ f fd,FnOk P w K mg base w6 k f fd ps sp/\mg x=some (.ref f)/\PySem.W.keepIn K (.ref f)=true/\Binds K fd ps []
section
variable {X:Cx}{k j:Nat}{x:Str}{ps:List Str}{sp:Sp}{e:Expr}{es:List Expr}{t:TA}{p pos:Pos}
theorem w4 (c:Fn X.prog X.w X.K X.mg X.base k x ps sp)(hr:Room j X.A)(hj:k<=j)(hg:Gl X x)(ha:PA X (e::es) t)(hdb:(x==("__debug__":Str))=false:=by decide)(he:starEach (e::es) X.env=(false,eval e X.env)::starEach es X.env:=by rfl)(hpl:(backTo pos (starEach es X.env)).any (·.1)=false:=by rfl):PE X (.Call (.Name x p) (e::es) [] pos) (zY sp [] E0 t):=by obtain ⟨f,fd,F,hm,hk,hb⟩:=c.ex;exact Hd F (hr.mono hj) hg hm hk hb .nil ZV ha hdb he hpl
end
end L2
namespace L2
open PySem PySem.Spec PyProof.Rows
section
variable {X:Cx}{pins:List (Addr×Obj)}{Z:St}{H:Hp}{s:Shared}{h':Heap}
theorem Inv.turnedL {t':Nat}{ch:List Addr}(I:Inv X pins Z H s)(k:∀ b o,b∉ch->s.heap.get? b=some o->h'.get? b=some o)(hf:∀ b∈ch,xN X pins H b):Inv X pins Z H { s with heap:=h',toks:=t' }:=by
 have nit:∀ b u,H b=some u->b∉ch:=fun b u e z=>by rw [(hf b z).1] at e;cases e
 have nL:X.env.locals∉ch:=fun z=>(hf _ z).2.1 rfl;refine I.step (g':=s.gens) (d':=s.drawn) (ch:=ch) (fun b hb=>?_) (fun b o _ _ hc e _=>k b o hc e) (fun b o _ _ hc e _=>⟨o.slots,k b o hc e⟩) (fun _ _ _ _ n=>n)
  (fun b o hc e=>⟨o,k b o hc e⟩) (fun _ _ e=>e) (fun _ _ _ e=>e) (fun _ _ _ e=>e) (fun m hm=>?_) (fun b u e=>?_) I.bare
 ·obtain ⟨f0,f1,f2,f3,f4,f5⟩:=hf b hb;exact ⟨f3,f1,f4,f5⟩
 ·obtain ⟨o,es,ep,ho,r⟩:=hm;exact ⟨o,es,ep,k _ o nL ho,r⟩
 ·refine (I.hok b u e).stay (fun c v hc q=>k c v ?_ q) (fun _ q=>q) (fun _ _ q=>q) fun _ _ _ q=>q;rcases hc with z|z
  ·rw [z];exact nit b u e
  ·exact nit c _ z
theorem Inv.track {p:Addr}{o:HO}(I:Inv X pins Z H s)(hp:X.s₀.heap.objs.size<=p)(hn:H p=none)(nL:p≠X.env.locals)(nC:∀ x c,X.env.cells.lookup x=some c->c≠p)(nP:∀ q∈X.pn++pins,q.1≠p)(new:ObjOk X.prog X.w (v8 H p o) s.heap p o):Inv X pins Z (v8 H p o) s:=by
 refine ⟨I.ok,I.os,I.bare,⟨I.base.keep,I.base.slot,fun b ob e n hx=>?_,I.base.there,fun b xs e=>?_,fun b ob u e=>?_,fun b ps q e=>?_⟩,I.loc,I.cell,?_,fun x c e=>?_,fun q hq=>?_,fun b u e=>?_,I.len⟩
 ·rw [j7 (Nat.ne_of_lt (Nat.lt_of_lt_of_le (Heap.lt_size e) hp))];exact I.base.free b ob e n hx
 ·have z:=I.base.tups b xs e;rw [j7 (p5 z hn)];exact z
 ·have z:=I.base.frzs b ob u e;rw [j7 (p5 z hn)];exact z
 ·have z:=I.base.tbls b ps q e;rw [j7 (p5 z hn)];exact z
 ·rw [j7 (Ne.symm nL)];exact I.free
 ·rw [j7 (nC x c e)];exact I.freeC x c e
 ·obtain ⟨a1,a2,a3⟩:=I.pin q hq;exact ⟨a1,by rw [j7 (nP q hq)];exact a2,a3⟩
 ·by_cases hb:b=p
  ·subst hb;rw [u8] at e;cases e;exact new
  ·rw [j7 hb] at e;exact (I.hok b u e).stay (fun c v _ q=>q) (fun c q=>by rw [j7 (p5 q hn)];exact q) (fun c xs q=>by rw [j7 (p5 q hn)];exact q) fun c _ _ q=>by rw [j7 (p5 q hn)];exact q
theorem Inv.seq_ne {a b:Addr}{xs:List V}(I:Inv X pins Z H s)(hq:SqL X.K H a xs)(hf:xN X pins H b):a≠b:=by
 rintro rfl;rcases hq with (h|⟨o,h⟩)|⟨o,its,n,hk,_⟩
 ·rw [hf.1] at h;cases h
 ·rw [hf.1] at h;cases h
 ·have e:=I.ok.mod.kin a o hk;rcases hf.2.2.2.1 with z|z
  ·exact I.ok.noex a o e z
  ·exact absurd (Nat.lt_of_lt_of_le (Heap.lt_size e) (Nat.le_trans I.ok.bsz z)) (Nat.lt_irrefl _)
end
def Ite (K:Fg)(a:Addr):It :=
 ⟨fun i H=>∃ xs x,SqL K H a xs/\xs[i]?=some x,fun i H x H'=>∃ p y,H p=none/\x = .ref p/\H'=v8 H p (.tup [.int i,y])/\∀ xs,SqL K H a xs->xs[i]?=some y,fun i H=>∃ xs,SqL K H a xs/\xs.length<=i⟩
theorem Ty {P:Program}{w:World}{K:Fg}{elts:List Expr}{x1:Nat}{tp:Pos}(a e it:Addr)(hne:e≠it):Turn P w K (.Tuple elts x1 tp) (Ite K a) [e,it] e (fun i h=>(∃ old,IsEnum h e it ((i:Nat):Int) old)/\h.IsListIter it a i) where
 mem:=by simp
 obj:=fun i h st b hb=>by
  obtain ⟨⟨old,he⟩,hit⟩:=st;rcases List.mem_cons.mp hb with rfl|hb
  ·exact ⟨_,he,fun v z=>by
    have z':Data.fields _=Data.cell v:=z;cases z'⟩
  ·have eb:b=it:=by simpa using hb
   subst eb;obtain ⟨o,e1,c,d⟩:=hit;exact ⟨o,e1,fun v z=>by rw [d] at z;cases z⟩
 keep:=fun i h h' st k=>by
  obtain ⟨⟨old,he⟩,hit⟩:=st;exact ⟨⟨old,k e (by simp) _ he⟩,hit.at fun o q=>k it (by simp) o q⟩
 item:=by
  intro X hP hw hK hc i pins s Z H E I hf st hg;subst hP hw hK;obtain ⟨⟨old,he⟩,hit⟩:=st;obtain ⟨xs,x,hq,hx⟩:=hg;obtain ⟨its,rv,p,hz⟩:=I.list hq;obtain ⟨u,hu,ru⟩:=rv.get hx;have fz:xN X pins H s.heap.objs.size:=I.fpOk (Nat.le_refl _) (I.hok.fresh (Nat.le_refl _));have lte:e<s.heap.objs.size:=Heap.lt_size he;have lti:it<s.heap.objs.size:=by obtain ⟨o,q,_⟩:=hit;exact Heap.lt_size q
  refine wpAny_pyNext_enum_item he hit p.isList (x:=u) (by simpa using hu) hne fun h1 heo hit1 ht1 hz1 hk1=>⟨_,rfl,?_⟩;refine wpAny_letOwnedTupleGo_enum heo fun h2 he2 hs2=>?_;have hs2':Heap.SameBut e h1 h2:=hs2;have I2:Inv X pins Z H { s with heap:=h2,toks:=s.toks+1 }:=I.turnedL (ch:=[e,it]) (fun b o hb q=>by
   have n1:b≠e:=fun z=>hb (by rw [z];simp);have n2:b≠it:=fun z=>hb (by rw [z];simp);exact hs2'.extBut b o n1 (hk1 b o n1 n2 q)) hf
  obtain ⟨f0,f1,f2,f3,f4,f5⟩:=fz;have tup:h2.get? s.heap.objs.size=some { cls:= .type "tuple",data:= .seq #[.int i s.toks,u] }:=hs2'.extBut _ _ (Ne.symm (Nat.ne_of_lt lte)) ht1;refine ⟨.ref s.heap.objs.size,v8 H s.heap.objs.size (.tup [.int i,x]),I2.track I.sz f0 f1 f4 f5 ?_,rfl,⟨s.heap.objs.size,x,f0,rfl,rfl,fun ys hy=>by rw [I.list_inj hy hq];exact hx⟩,⟨⟨u,?_⟩,?_⟩,fun b hb=>?_⟩
  ·exact ⟨by show 2<=sizeLine;decide,[.int i s.toks,u],.cons ⟨_,rfl⟩ (.cons ru .nil),⟨_,tup,rfl,_,rfl⟩⟩
  ·have ei:(((i+1:Nat):Int))=(i:Int)+1:=by omega
   rw [ei];exact he2
  ·exact hit1.at fun o q=>hs2'.extBut it o (Ne.symm hne) q
  ·have nb:b≠s.heap.objs.size:=by
    rcases List.mem_cons.mp hb with rfl|hb
    ·exact Nat.ne_of_lt lte
    ·have eb:b=it:=by simpa using hb
     rw [eb];exact Nat.ne_of_lt lti
   rw [j7 nb];exact (hf b hb).1
 done:=by intro X hP hw hK hc i pins s Z H E I hf st hg;subst hP hw hK;obtain ⟨⟨old,he⟩,hit⟩:=st;obtain ⟨xs,hq,hx⟩:=hg;obtain ⟨its,rv,p,hz⟩:=I.list hq;have hl:=rv.length;exact wpAny_pyNext_enum_end (I.ok.hd hc) he hit p.isList (by simp;omega) fun h1 eb=>⟨rfl,I.turnedL (t':=s.toks) (ch:=[e,it]) (fun b o hb q=>eb b o (fun z=>hb (by rw [z];simp)) q) hf⟩
 self:=fun _ _ _ _ _ st h=>by
  obtain ⟨⟨old,he⟩,hit⟩:=st;exact wpAny_pyIter_enum he h
section
variable {X:Cx}{elts:List Expr}{x1:Nat}{tp:Pos}
def Wc (K:Fg)(ta:TA):TI:=fun Z H R=>ta Z H fun vs H1=>∃ a,vs=[.ref a]/\(∃ xs,SqL K H1 a xs)/\R (Ite K a) H1
theorem Hr {a:Expr}{ta:TA}{p pos:Pos}(hg:Gl X "enumerate")(hm:X.mg "enumerate"=none)(ha:PA X [a] ta)(hs:starEach [a] X.env=[(false,eval a X.env)]:=by rfl):PI X (.Tuple elts x1 tp) (.Call (.Name "enumerate" p) [a] [] pos) (Wc X.K ta):=by
 intro pins s Z H R I h;refine Call_ (jG I hg hm Cv (PyProof.Rows.callWith_type1 (j6 (ha pos pins s Z H _ I h) fun us s1 ⟨vs,H1,I1,r1,q1⟩=>?_) hs rfl));obtain ⟨a,e,⟨xs,hq⟩,q⟩:=q1;subst e;cases r1 with
 |cons r rr =>
  cases rr;cases r;obtain ⟨its,rv,p,hz⟩:=I1.list hq;refine call_enumerate_list p.isList fun h' he hit hsz hk=>?_;refine wpAny_pyIter_enum he ?_;refine ⟨s1.heap.objs.size+1,[s1.heap.objs.size+1,s1.heap.objs.size],_,_,H1,rfl,I1.kept (t':=s1.toks) hk,Ty a (s1.heap.objs.size+1) s1.heap.objs.size (Nat.ne_of_gt (Nat.lt_succ_self _)),⟨⟨_,he⟩,hit⟩,fun b hb=>?_,q⟩;rcases List.mem_cons.mp hb with rfl|hb
  ·exact I1.fpOk (Nat.le_succ _) (I1.hok.fresh (Nat.le_succ _))
  ·have eb:b=s1.heap.objs.size:=by simpa using hb
   subst eb;exact I1.fpOk (Nat.le_refl _) (I1.hok.fresh (Nat.le_refl _))
end
def Itz (K:Fg)(a b:Addr):It :=
  ⟨fun i H=>∃ xs ys x y,SqL K H a xs/\SqL K H b ys/\xs[i]?=some x/\ys[i]?=some y,
   fun i H z H'=>∃ p x y,H p=none/\z = .ref p/\H'=v8 H p (.tup [x,y])/\(∀ xs,SqL K H a xs->xs[i]?=some x)/\∀ ys,SqL K H b ys->ys[i]?=some y,
   fun i H=>∃ xs ys,SqL K H a xs/\SqL K H b ys/\(xs.length<=i∨ys.length<=i)⟩
theorem TJ {P:Program}{w:World}{K:Fg}{elts:List Expr}{x1:Nat}{tp:Pos}(a b z TI TO i1 i2:Addr)(d:[z,TI,TO,i1,i2].Nodup):Turn P w K (.Tuple elts x1 tp) (Itz K a b) [z,TI,TO,i1,i2] z (fun i h=>IsZip h z TI TO .none/\IsPair h TI (.ref i1) (.ref i2)/\(∃ u v,IsPair h TO u v)/\h.IsListIter i1 a i/\h.IsListIter i2 b i) where
 mem:=by simp
 obj:=fun i h st c hc=>by
  obtain ⟨hz,hTI,⟨u,v,hTO⟩,h1,h2⟩:=st;have hc':c=z∨c=TI∨c=TO∨c=i1∨c=i2:=by simpa using hc
  rcases hc' with rfl|rfl|rfl|rfl|rfl
  ·exact ⟨_,hz,fun v q=>by
    have q':Data.fields _=Data.cell v:=q;cases q'⟩
  ·exact ⟨_,hTI,fun v q=>by
    have q':Data.seq _ _=Data.cell v:=q;cases q'⟩
  ·exact ⟨_,hTO,fun v q=>by
    have q':Data.seq _ _=Data.cell v:=q;cases q'⟩
  ·obtain ⟨o,e1,cc,dd⟩:=h1;exact ⟨o,e1,fun v q=>by rw [dd] at q;cases q⟩
  ·obtain ⟨o,e1,cc,dd⟩:=h2;exact ⟨o,e1,fun v q=>by rw [dd] at q;cases q⟩
 keep:=fun i h h' st k=>by
  obtain ⟨hz,hTI,⟨u,v,hTO⟩,h1,h2⟩:=st;exact ⟨k z (by simp) _ hz,k TI (by simp) _ hTI,⟨u,v,k TO (by simp) _ hTO⟩,h1.at fun o e=>k i1 (by simp) o e,h2.at fun o e=>k i2 (by simp) o e⟩
 item:=by
  intro X hP hw hK hc i pins s Z H E I hf st hg;subst hP hw hK;obtain ⟨hz,hTI,⟨u0,v0,hTO⟩,h1,h2⟩:=st;obtain ⟨xs,ys,x,y,hqa,hqb,hx,hy⟩:=hg;obtain ⟨its,rv,p,_⟩:=I.list hqa;obtain ⟨jts,rw',p',_⟩:=I.list hqb;obtain ⟨u,hu,ru⟩:=rv.get hx;obtain ⟨v,hv,rv'⟩:=rw'.get hy;simp only [List.nodup_cons,List.mem_cons,not_or,List.not_mem_nil,not_false_eq_true,List.nodup_nil,and_true] at d;obtain ⟨⟨d1,d2,d3,d4⟩,⟨d5,d6,d7⟩,⟨d8,d9⟩,d10⟩:=d;have ap:ZipApart z TI TO i1 i2 a b:=⟨Ne.symm d1,Ne.symm d2,Ne.symm d3,Ne.symm d4,d5,d6,d7,d8,d9,d10,
   I.seq_ne hqa (hf z (by simp)),I.seq_ne hqa (hf TO (by simp)),I.seq_ne hqa (hf i1 (by simp)),I.seq_ne hqa (hf i2 (by simp)),
   I.seq_ne hqb (hf z (by simp)),I.seq_ne hqb (hf TO (by simp)),I.seq_ne hqb (hf i1 (by simp)),I.seq_ne hqb (hf i2 (by simp))⟩
  have fz:xN X pins H s.heap.objs.size:=I.fpOk (Nat.le_refl _) (I.hok.fresh (Nat.le_refl _));have lt:∀ c∈[z,TI,TO,i1,i2],c<s.heap.objs.size:=fun c hc=>by
   have hc':c=z∨c=TI∨c=TO∨c=i1∨c=i2:=by simpa using hc
   rcases hc' with rfl|rfl|rfl|rfl|rfl
   ·exact Heap.lt_size hz
   ·exact Heap.lt_size hTI
   ·exact Heap.lt_size hTO
   ·obtain ⟨o,q,_⟩:=h1;exact Heap.lt_size q
   ·obtain ⟨o,q,_⟩:=h2;exact Heap.lt_size q
  refine wpAny_pyNext_zip_item ap hz hTI hTO h1 h2 p.isList p'.isList (x:=u) (y:=v) (by simpa using hu) (by simpa using hv) fun h3 hz3 hTO3 h13 h23 hp3 hs3 hk3=>⟨_,rfl,?_⟩;refine wpAny_letOwnedTupleGo_zip hz3 fun h4 hz4 hs4=>?_;have hs4':Heap.SameBut z h3 h4:=hs4;have I4:Inv X pins Z H { s with heap:=h4,toks:=s.toks }:=I.turnedL (ch:=[z,TI,TO,i1,i2]) (fun c o hc q=>by
   have n1:c≠z:=fun e=>hc (by rw [e];simp);have n2:c≠TO:=fun e=>hc (by rw [e];simp);have n3:c≠i1:=fun e=>hc (by rw [e];simp);have n4:c≠i2:=fun e=>hc (by rw [e];simp);exact hs4'.extBut c o n1 (hk3 c o n1 n2 n3 n4 q)) hf
  obtain ⟨f0,f1,f2,f3,f4,f5⟩:=fz;have tup:h4.get? s.heap.objs.size=some { cls:= .type "tuple",data:= .seq #[u,v] }:=hs4'.extBut _ _ (Ne.symm (Nat.ne_of_lt (lt z (by simp)))) hp3;refine ⟨.ref s.heap.objs.size,v8 H s.heap.objs.size (.tup [x,y]),I4.track I.sz f0 f1 f4 f5 ?_,rfl,⟨s.heap.objs.size,x,y,f0,rfl,rfl,(fun zs hy'=>by rw [I.list_inj hy' hqa];exact hx),fun zs hy'=>by rw [I.list_inj hy' hqb];exact hy⟩,⟨hz4,?_,⟨u,v,?_⟩,?_,?_⟩,fun c hc=>?_⟩
  ·exact ⟨by show 2<=sizeLine;decide,[u,v],.cons ru (.cons rv' .nil),⟨_,tup,rfl,_,rfl⟩⟩
  ·exact hs4'.extBut _ _ (Ne.symm d1) (hk3 _ _ (Ne.symm d1) d5 d6 d7 hTI)
  ·exact hs4'.extBut _ _ (Ne.symm d2) hTO3
  ·exact h13.at fun o q=>hs4'.extBut i1 o (Ne.symm d3) q
  ·exact h23.at fun o q=>hs4'.extBut i2 o (Ne.symm d4) q
  ·rw [j7 (Nat.ne_of_lt (lt c hc))];exact (hf c hc).1
 done:=by
  intro X hP hw hK hc i pins s Z H E I hf st hg;subst hP hw hK;obtain ⟨hz,hTI,⟨u0,v0,hTO⟩,h1,h2⟩:=st;obtain ⟨xs,ys,hqa,hqb,hend⟩:=hg;obtain ⟨its,rv,p,_⟩:=I.list hqa;obtain ⟨jts,rw',p',_⟩:=I.list hqb;have l1:=rv.length;have l2:=rw'.length;simp only [List.nodup_cons,List.mem_cons,not_or,List.not_mem_nil,not_false_eq_true,List.nodup_nil,and_true] at d;obtain ⟨⟨d1,d2,d3,d4⟩,⟨d5,d6,d7⟩,⟨d8,d9⟩,d10⟩:=d;have ap:ZipApart z TI TO i1 i2 a b:=⟨Ne.symm d1,Ne.symm d2,Ne.symm d3,Ne.symm d4,d5,d6,d7,d8,d9,d10,
   I.seq_ne hqa (hf z (by simp)),I.seq_ne hqa (hf TO (by simp)),I.seq_ne hqa (hf i1 (by simp)),I.seq_ne hqa (hf i2 (by simp)),
   I.seq_ne hqb (hf z (by simp)),I.seq_ne hqb (hf TO (by simp)),I.seq_ne hqb (hf i1 (by simp)),I.seq_ne hqb (hf i2 (by simp))⟩
  refine wpAny_pyNext_zip_end (I.ok.hd hc) ap hz hTI hTO h1 h2 p.isList p'.isList (hend.elim (fun q=> .inl (by simp;omega)) (fun q=> .inr (by simp;omega))) fun h3 hk3=>⟨rfl,I.turnedL (t':=s.toks) (ch:=[z,TI,TO,i1,i2]) (fun c o hc q=>?_) hf⟩;exact hk3 c o (fun e=>hc (by rw [e];simp)) (fun e=>hc (by rw [e];simp)) (fun e=>hc (by rw [e];simp)) (fun e=>hc (by rw [e];simp)) q
 self:=fun _ _ _ _ _ st h=>wpAny_pyIter_zip st.1 h
section
variable {X:Cx}{elts:List Expr}{x1:Nat}{tp:Pos}
def iZip (K:Fg)(ta:TA):TI:=fun Z H R=>ta Z H fun vs H1=>∃ a b,vs=[.ref a,.ref b]/\(∃ xs,SqL K H1 a xs)/\(∃ ys,SqL K H1 b ys)/\R (Itz K a b) H1
theorem Hz {a b:Expr}{ta:TA}{p pos:Pos}(hg:Gl X "zip")(hm:X.mg "zip"=none)(ha:PA X [a,b] ta)(hs:starEach [a,b] X.env=[(false,eval a X.env),(false,eval b X.env)]:=by rfl)(hs2:starEach [b] X.env=[(false,eval b X.env)]:=by rfl):PI X (.Tuple elts x1 tp) (.Call (.Name "zip" p) [a,b] [] pos) (iZip X.K ta):=by
 intro pins s Z H R I h;refine Call_ (jG I hg hm CC (PyProof.Rows.callWith_type1 (j6 (ha pos pins s Z H _ I h) fun us s1 ⟨vs,H1,I1,r1,q1⟩=>?_) (by rw [hs,hs2]) (by rw [hs2];rfl)));obtain ⟨a,b,e,⟨xs,hq⟩,⟨ys,hq'⟩,q⟩:=q1;subst e;cases r1 with
 |cons r rr =>
  cases rr with
  |cons r' rr =>
   cases rr;cases r;cases r';obtain ⟨its,rv,p,hz⟩:=I1.list hq;obtain ⟨jts,rw',p',_⟩:=I1.list hq';refine call_zip_2 p.isList p'.isList fun h' g1 g2 g3 g4 g5 hsz hk=>?_;refine wpAny_pyIter_zip g1 ?_;refine ⟨s1.heap.objs.size+4,[s1.heap.objs.size+4,s1.heap.objs.size+2,s1.heap.objs.size+3,s1.heap.objs.size,s1.heap.objs.size+1],_,_,H1,rfl,I1.kept (t':=s1.toks) hk,TJ a b _ _ _ _ _ ?_,⟨g1,g2,⟨_,_,g3⟩,g4,g5⟩,fun c hc=>?_,q⟩
   ·simp only [List.nodup_cons,List.mem_cons,not_or,List.not_mem_nil,not_false_eq_true,List.nodup_nil,and_true];refine ⟨⟨?_,?_,?_,?_⟩,⟨?_,?_,?_⟩,⟨?_,?_⟩,?_⟩<;>(show ¬ (_:Nat)=_;omega)
   ·have hc':s1.heap.objs.size<=c:=by
     have hc2:c=s1.heap.objs.size+4∨c=s1.heap.objs.size+2∨c=s1.heap.objs.size+3∨c=s1.heap.objs.size∨c=s1.heap.objs.size+1:=by simpa using hc
     rcases hc2 with e|e|e|e|e<;>(rw [e];first|exact Nat.le_refl _|exact Nat.le_add_right _ _)
    exact I1.fpOk hc' (I1.hok.fresh hc')
end
end L2
namespace L2
open PySem PySem.Spec PyProof.Rows
section
variable {X:Cx}{K:Fg}
theorem Wh (h:X.K=K):IxR X (rIxL K):=by subst h;exact ix_list
theorem XB (h:X.K=K):SlR X (rSlL K):=by subst h;exact Te
theorem Gb (h:X.K=K):CallR X (.builtin "len") (fun xs H Q=>∃ p ys,xs=[.ref p]/\(SqL K H p ys∨SqT K H p ys)/\Q (.int ys.length) H):=by subst h;exact CM
theorem CW (hc:X.calm=true)(h:X.K=K):CallR X (.builtin "sum") (fun xs H Q=>∃ (a:Addr) (ns:List Int),xs=[.ref a]/\SqL K H a (ns.map V.int)/\Q (.int ns.sum) H):=by subst h;exact CV hc
theorem jO {es:List Expr}{k:Nat}{t:TGs}{n:Nat}{pos:Pos}(hc:X.calm=true)(hK:X.K=K)(h:PGs X es t)(hn:(assignEach es X.env).length=n:=by rfl)(hst:(assignEach es X.env).findIdx? (·.1)=none:=by rfl):PG X (.Tuple es k pos) (gTup K n t):=by subst hK;exact Hq hc h hn hst
theorem qC {tg l:Expr}{tl:TE}(hK:X.K=K)(hl:PE X l tl):PI X tg l (Wd K tl):=by subst hK;exact Ht hl
theorem WQ {elts:List Expr}{x1:Nat}{tp:Pos}{a:Expr}{ta:TA}{p pos:Pos}(hK:X.K=K)(hg:Gl X "enumerate")(hm:X.mg "enumerate"=none)(ha:PA X [a] ta)(hs:starEach [a] X.env=[(false,eval a X.env)]:=by rfl):PI X (.Tuple elts x1 tp) (.Call (.Name "enumerate" p) [a] [] pos) (Wc K ta):=by subst hK;exact Hr hg hm ha hs
theorem KR {elts:List Expr}{x1:Nat}{tp:Pos}{a b:Expr}{ta:TA}{p pos:Pos}(hK:X.K=K)(hg:Gl X "zip")(hm:X.mg "zip"=none)(ha:PA X [a,b] ta)(hs:starEach [a,b] X.env=[(false,eval a X.env),(false,eval b X.env)]:=by rfl)(hs2:starEach [b] X.env=[(false,eval b X.env)]:=by rfl):PI X (.Tuple elts x1 tp) (.Call (.Name "zip" p) [a,b] [] pos) (iZip K ta):=by subst hK;exact Hz hg hm ha hs hs2
end
end L2
namespace L2
open PySem PySem.Spec PyProof.Rows
section
variable {X:Cx}
theorem NW:OpR X (compareOp .LtE) (fun x y H Q=>∃ i j,x = .str i/\y = .str j/\Q (.bl (!decide (j.cps.toList<i.cps.toList))) H):=by intro pins s Z H x y v u Q I rx ry h;obtain ⟨i,j,rfl,rfl,q⟩:=h;obtain ⟨t,rfl⟩:=rx;obtain ⟨t',rfl⟩:=ry;exact PySem.P.le_str (VX I q rfl)
def ItS (z:Str):It:=⟨fun i _=>i<z.cps.size,fun i H x H'=>H'=H/\∃ c,z.cps[i]?=some c/\x = .str ⟨#[c]⟩,fun i _=>i=z.cps.size⟩
theorem Pk {P:Program}{w:World}{K:Fg}{x:Str}{px:Pos}(it:Addr)(ty:String)(z:Str)(t:Tok)(W:∀ A':Around,A'.handled=none->Walks P w A' it [it] [it] z.cps.size (SignAt z) (fun i h=>h.IsStrIter it ty z t i))(sf:∀(A:Around)(i:Nat)(s:Shared)(Q:Value->Shared->Prop)(E:Value->Shared->Prop),s.heap.IsStrIter it ty z t i->Q (.ref it) s->wpAny (model P w) A (pyIter (.ref it)) Q E s):Turn P w K (.Name x px) (ItS z) [it] it (fun i h=>h.IsStrIter it ty z t i) where
 mem:=by simp
 obj:=fun i h st b hb=>by
  have e:b=it:=by simpa using hb
  subst e;obtain ⟨o,e,c,d⟩:=st;exact ⟨o,e,fun v q=>by rw [d] at q;cases q⟩
 keep:=fun i h h' st k=>by
  obtain ⟨o,e,r⟩:=st;exact ⟨o,k it (by simp) o e,r⟩
 item:=by intro X hP hw hK hc i pins s Z H E I hf st hg;subst hP hw hK;obtain ⟨f0,f1,f2,f3,f4,f5⟩:=hf it (by simp);refine (W X.A (I.ok.hd hc)).item i s _ _ hg st fun v h' tk hv st' kk=>?_;obtain ⟨c,u,e1,rfl⟩:=hv;have I1:Inv X pins Z H { s with heap:=h',toks:=tk }:=I.turned (fun b o hb e=>kk b o (by simpa using hb) e) f0 f1 f3 f4 f5;refine ⟨_,rfl,?_⟩;show wpAny _ _ (pure ()) _ _ _;exact wpAny_pure ⟨.str ⟨#[c]⟩,H,I1,⟨u,rfl⟩,⟨rfl,c,e1,rfl⟩,st',fun b hb=>(hf b hb).1⟩
 done:=by intro X hP hw hK hc i pins s Z H E I hf st hg;subst hP hw hK;obtain ⟨f0,f1,f2,f3,f4,f5⟩:=hf it (by simp);have hg':i=z.cps.size:=hg;subst hg';exact (W X.A (I.ok.hd hc)).done s _ _ st fun h' tk kk=>⟨rfl,I.turned (fun b o hb e=>kk b o (by simpa using hb) e) f0 f1 f3 f4 f5⟩
 self:=sf
def iStr (tl:TE):TI:=fun Z H R=>tl Z H fun x H1=>∃ z,x = .str z/\R (ItS z) H1
theorem Hv {x:Str}{px:Pos}{l:Expr}{tl:TE}(hl:PE X l tl):PI X (.Name x px) l (iStr tl):=by
 intro pins s Z H R I h;refine j6 (hl pins s Z H _ I h) fun v s1 ⟨x,H1,I1,r1,q1⟩=>?_;obtain ⟨z,e,q⟩:=q1;subst e;obtain ⟨t,rfl⟩:=r1;have fp:∀ b∈[s1.heap.objs.size],xN X pins H1 b:=fun b hb=>by
  have e:b=s1.heap.objs.size:=by simpa using hb
  subst e;exact I1.fpOk (Nat.le_refl _) (I1.hok.fresh (Nat.le_refl _))
 cases ha:z.cps.all (·<128)
 ·refine wpAny_pyIter_wide ha ?_;exact ⟨s1.heap.objs.size,[s1.heap.objs.size],_,_,H1,rfl,I1.kept (t':=s1.toks) fun b o e=>Heap.get?_push_of_some _ e,Pk _ "str_iterator" z t (fun A' hA=>Walks.strWide hA _ z t) (fun _ _ _ _ _ st h=>wpAny_pyIter_striter_wide st h),⟨_,Heap.get?_push_size _ rfl,rfl,rfl⟩,fp,q⟩
 ·refine wpAny_pyIter_ascii ha ?_;exact ⟨s1.heap.objs.size,[s1.heap.objs.size],_,_,H1,rfl,I1.kept (t':=s1.toks) fun b o e=>Heap.get?_push_of_some _ e,Pk _ "str_ascii_iterator" z t (fun A' hA=>Walks.strAscii hA _ z t) (fun _ _ _ _ _ st h=>wpAny_pyIter_striter_ascii st h),⟨_,Heap.get?_push_size _ rfl,rfl,rfl⟩,fp,q⟩
end
end L2
namespace L2
open PySem PySem.Spec PyProof.Rows
section
variable {X:Cx}{K:Fg}
def Bg (K:Fg):R2:=fun x y H Q=>∃ l b xs zs,x = .ref l/\y = .ref b/\SqL K H l xs/\SqL K H b zs/\xs.length+zs.length<=sizeLine/\∀ p,H p=none->Q (.ref p) (v8 H p (.lst (xs++zs)))
theorem op_catL:OpR X (binaryOp .Add) (Bg X.K):=by
 intro pins s Z H x y v u Q I rx ry h;obtain ⟨l,b,xs,zs,rfl,rfl,hH,hB,hz,q⟩:=h;cases rx;cases ry;obtain ⟨its,r,⟨⟨cls,dd,data,sl⟩,n,e,h1,h2,h3⟩,_⟩:=I.list hH;obtain ⟨its2,r2,⟨⟨cls2,dd2,data2,sl2⟩,n2,e2,k1,k2,k3⟩,_⟩:=I.list hB
 dsimp only at h1 h2 h3 k1 k2 k3
 subst h1 h2 h3 k1 k2 k3;have hl:=r.length;have hl2:=r2.length;have hsz:its.toArray.size+its2.toArray.size<=sizeLine:=by rw [List.size_toArray,List.size_toArray];omega
 refine concat_meets ⟨_,e,rfl⟩ ⟨_,e2,rfl⟩ noFill_list_add seq_list_add PySem.F.slot_list_add PySem.F.entry_list_add (PySem.F.args_list_add_2 _ _) (list_addW l b its.toArray its2.toArray n n2 none none sl sl2 hsz) ⟨e,e2,?_⟩;have ea:its.toArray++its2.toArray=(its++its2).toArray:=by simp
 rw [ea];exact ⟨.ref _,_,I.lnew (t':=s.toks) (r.append r2) (by rw [List.length_append];omega),rfl,q _ I.fresh⟩
end
end L2
namespace L2
open PySem PySem.Spec PyProof.Rows
section
variable {X:Cx}
def Bk:V->List V->Hp->VK->Prop:=fun x vs H Q=>∃(l:Addr)(xs:List V)(i:Int)(y:V),x = .ref l/\vs=[.int i,y]/\H l=some (.lst xs)/\0<=i/\i<=(xs.length:Int)/\xs.length<1000/\Q .non (v8 H l (.lst (xs.take i.toNat++y::xs.drop i.toNat)))
theorem LB:MtM X "list.insert" Bk:=by
 intro pins s Z H x vs v us Q I rx rv h;obtain ⟨l,xs,i,y,rfl,rfl,hH,h0,hi,hz,q⟩:=h;cases rx;obtain ⟨u,w',rfl,⟨t,rfl⟩,rw'⟩:=rv.two;obtain ⟨z,its,n,r,hl,e⟩:=I.lstM hH;have hfit:¬ (!Builtin.List.listFitsIndex i)=true:=by rw [fitsIndex_both (k:=i) (by omega) (by omega)];decide
 have hsz:its.toArray.size<=sizeLine:=by rw [List.size_toArray,<- hl];exact z
 refine call_meets F.slot_list_insert ⟨_,e,rfl⟩ F.entry_list_insert (F.args_list_insert_3 _ _ _) (AutoSeq1.list_insert_list_int_val_1 l its.toArray n i t w' hfit hsz) ⟨e,?_⟩;refine ⟨.non,_,I.lset (its':=its.take i.toNat++w'::its.drop i.toNat) hH e ?_ ((r.take i.toNat).append (.cons rw' (r.drop i.toNat))) ?_,rfl,q⟩
 ·have e1:¬ (i<0):=by omega
  have e2:min i.toNat its.toArray.size=i.toNat:=by rw [List.size_toArray];omega
  show (its.toArray.extract 0 (if i<0 then (i+(its.toArray.size:Int)).toNat else min i.toNat its.toArray.size)).push w'++its.toArray.extract (if i<0 then (i+(its.toArray.size:Int)).toNat else min i.toNat its.toArray.size)=_;rw [if_neg e1,e2];apply Array.toList_inj.mp;simp [List.extract_eq_take_drop]
  try exact List.take_of_length_le (by rw [List.length_drop];exact Nat.le_refl _)
 ·rw [List.length_append,List.length_cons,List.length_take,List.length_drop];have:=QA (n:=1000) (Nat.le_refl _);omega
end
end L2
namespace L2
open PySem PySem.Spec PyProof.Rows PySem.SeqAt
def EqP (K:Fg)(H:Hp):Nat->V->V->Bool->Prop
 |0,x,y,b=>p7 x=true/\p7 y=true/\b=qu x y
 |n+1,x,y,b=>(p7 x=true/\p7 y=true/\b=qu x y) ∨
  (∃(a c:Addr)(xs ys:List V),x = .ref a/\y = .ref c/\SqL K H a xs/\SqL K H c ys/\((xs.length≠ys.length/\b=false)∨(xs.length=ys.length/\∃ e:Nat->Bool,(∀ j (h1:j<xs.length) (h2:j<ys.length),EqP K H n xs[j] ys[j] (e j))/\b=(List.range xs.length).all e))) ∨
  (∃(a c:Addr)(xs ys:List V),x = .ref a/\y = .ref c/\SqT K H a xs/\SqT K H c ys/\∃ e:Nat->Bool,(∀ j (h1:j<xs.length) (h2:j<ys.length),EqP K H n xs[j] ys[j] (e j))/\b=((List.range (min xs.length ys.length)).all e&&xs.length==ys.length)) ∨
  (∃(a c:Addr)(xs ys:List V),x = .ref a/\y = .ref c/\SqL K H a xs/\SqT K H c ys/\b=false) ∨
  (∃(a c:Addr)(xs ys:List V),x = .ref a/\y = .ref c/\SqT K H a xs/\SqL K H c ys/\b=false) ∨
  (∃(c:Addr)(ys:List V),p7 x=true/\y = .ref c/\(SqL K H c ys∨SqT K H c ys)/\b=false) ∨
  (∃(a:Addr)(xs:List V),p7 y=true/\x = .ref a/\(SqL K H a xs∨SqT K H a xs)/\b=false)
theorem Zh {x:V}(h:p7 x=true):qu x x=true:=by cases x<;>first|rfl|exact beq_self_eq_true _|cases h
theorem Bq {A:Around}{s:Shared}{y x:V}{u v:Value}(ry:RelV y u)(rx:RelV x v)(fy:p7 y=true)(fx:p7 x=true):RcAt A s u v (qu y x):=by
 cases y with
 |non =>
  cases ry;cases x with
  |non=>cases rx;exact RcAt.none_none
  |bl b=>cases rx;exact RcAt.none_bool b
  |int b=>obtain ⟨t2,rfl⟩:=rx;exact RcAt.none_int b t2
  |str b=>obtain ⟨t2,rfl⟩:=rx;exact RcAt.none_str b t2
  |_=>exact absurd (show false=true from fx) Bool.false_ne_true
 |bl a =>
  cases ry;cases x with
  |non=>cases rx;exact RcAt.bool_none a
  |bl b=>cases rx;exact RcAt.bool_bool a b
  |int b=>obtain ⟨t2,rfl⟩:=rx;exact RcAt.bool_int a b t2
  |str b=>obtain ⟨t2,rfl⟩:=rx;exact RcAt.bool_str a b t2
  |_=>exact absurd (show false=true from fx) Bool.false_ne_true
 |int a =>
  obtain ⟨t1,rfl⟩:=ry;cases x with
  |non=>cases rx;exact RcAt.int_none a t1
  |bl b=>cases rx;exact RcAt.int_bool a t1 b
  |int b=>obtain ⟨t2,rfl⟩:=rx;exact RcAt.int_int a t1 b t2
  |str b=>obtain ⟨t2,rfl⟩:=rx;exact RcAt.int_str a t1 b t2
  |_=>exact absurd (show false=true from fx) Bool.false_ne_true
 |str a =>
  obtain ⟨t1,rfl⟩:=ry;cases x with
  |non=>cases rx;exact RcAt.str_none a t1
  |bl b=>cases rx;exact RcAt.str_bool a t1 b
  |int b=>obtain ⟨t2,rfl⟩:=rx;exact RcAt.str_int a t1 b t2
  |str b=>obtain ⟨t2,rfl⟩:=rx;exact RcAt.str_str a t1 b t2
  |_=>exact absurd (show false=true from fx) Bool.false_ne_true
 |_=>exact absurd (show false=true from fy) Bool.false_ne_true
theorem Br {A:Around}{s:Shared}{y x:V}{u v:Value}(ry:RelV y u)(rx:RelV x v)(fy:p7 y=true)(fx:p7 x=true):RcNeAt A s u v (!qu y x):=by
 cases y with
 |non =>
  cases ry;cases x with
  |non=>cases rx;exact RcNeAt.none_none
  |bl b=>cases rx;exact RcNeAt.none_bool b
  |int b=>obtain ⟨t2,rfl⟩:=rx;exact RcNeAt.none_int b t2
  |str b=>obtain ⟨t2,rfl⟩:=rx;exact RcNeAt.none_str b t2
  |_=>exact absurd (show false=true from fx) Bool.false_ne_true
 |bl a =>
  cases ry;cases x with
  |non=>cases rx;exact RcNeAt.bool_none a
  |bl b=>cases rx;exact RcNeAt.bool_bool a b
  |int b=>obtain ⟨t2,rfl⟩:=rx;exact RcNeAt.bool_int a b t2
  |str b=>obtain ⟨t2,rfl⟩:=rx;exact RcNeAt.bool_str a b t2
  |_=>exact absurd (show false=true from fx) Bool.false_ne_true
 |int a =>
  obtain ⟨t1,rfl⟩:=ry;cases x with
  |non=>cases rx;exact RcNeAt.int_none a t1
  |bl b=>cases rx;exact RcNeAt.int_bool a t1 b
  |int b=>obtain ⟨t2,rfl⟩:=rx;exact RcNeAt.int_int a t1 b t2
  |str b=>obtain ⟨t2,rfl⟩:=rx;exact RcNeAt.int_str a t1 b t2
  |_=>exact absurd (show false=true from fx) Bool.false_ne_true
 |str a =>
  obtain ⟨t1,rfl⟩:=ry;cases x with
  |non=>cases rx;exact RcNeAt.str_none a t1
  |bl b=>cases rx;exact RcNeAt.str_bool a t1 b
  |int b=>obtain ⟨t2,rfl⟩:=rx;exact RcNeAt.str_int a t1 b t2
  |str b=>obtain ⟨t2,rfl⟩:=rx;exact RcNeAt.str_str a t1 b t2
  |_=>exact absurd (show false=true from fx) Bool.false_ne_true
 |_=>exact absurd (show false=true from fy) Bool.false_ne_true
theorem Do {A:Around}{s:Shared}{y:V}{u:Value}{l:Addr}{items:Array Value}(hl:s.heap.IsList l items)(hu:A.units<cLine)(ry:RelV y u)(fy:p7 y=true):EqAt A s u (.ref l) false:=by
 cases y with
 |non=>cases ry;exact EqAt.none_list hl hu
 |bl a=>cases ry;exact EqAt.bool_list a hl hu
 |int a=>obtain ⟨t1,rfl⟩:=ry;exact EqAt.int_list a t1 hl hu
 |str a=>obtain ⟨t1,rfl⟩:=ry;exact EqAt.str_list a t1 hl hu
 |_=>exact absurd (show false=true from fy) Bool.false_ne_true
theorem Dq {A:Around}{s:Shared}{y:V}{u:Value}{l:Addr}{items:Array Value}(hl:s.heap.IsList l items)(hu:A.units<cLine)(ry:RelV y u)(fy:p7 y=true):EqAt A s (.ref l) u false:=by
 cases y with
 |non=>cases ry;exact EqAt.list_none hl hu
 |bl a=>cases ry;exact EqAt.list_bool a hl hu
 |int a=>obtain ⟨t1,rfl⟩:=ry;exact EqAt.list_int a t1 hl hu
 |str a=>obtain ⟨t1,rfl⟩:=ry;exact EqAt.list_str a t1 hl hu
 |_=>exact absurd (show false=true from fy) Bool.false_ne_true
theorem Dp {A:Around}{s:Shared}{y:V}{u:Value}{l:Addr}{items:Array Value}(hl:s.heap.IsTuple l items)(hu:A.units<cLine)(ry:RelV y u)(fy:p7 y=true):EqAt A s u (.ref l) false:=by
 cases y with
 |non=>cases ry;exact EqAt.none_tuple hl hu
 |bl a=>cases ry;exact EqAt.bool_tuple a hl hu
 |int a=>obtain ⟨t1,rfl⟩:=ry;exact EqAt.int_tuple a t1 hl hu
 |str a=>obtain ⟨t1,rfl⟩:=ry;exact EqAt.str_tuple a t1 hl hu
 |_=>exact absurd (show false=true from fy) Bool.false_ne_true
theorem Ds {A:Around}{s:Shared}{y:V}{u:Value}{l:Addr}{items:Array Value}(hl:s.heap.IsTuple l items)(hu:A.units<cLine)(ry:RelV y u)(fy:p7 y=true):EqAt A s (.ref l) u false:=by
 cases y with
 |non=>cases ry;exact EqAt.tuple_none hl hu
 |bl a=>cases ry;exact EqAt.tuple_bool a hl hu
 |int a=>obtain ⟨t1,rfl⟩:=ry;exact EqAt.tuple_int a t1 hl hu
 |str a=>obtain ⟨t1,rfl⟩:=ry;exact EqAt.tuple_str a t1 hl hu
 |_=>exact absurd (show false=true from fy) Bool.false_ne_true
theorem HQ {A:Around}{s:Shared}{y:V}{u:Value}{l:Addr}{items:Array Value}(hl:s.heap.IsList l items)(hu:A.units<cLine)(ry:RelV y u)(fy:p7 y=true):RcAt A s u (.ref l) false:=by
 cases y with
 |non=>cases ry;exact RcAt.none_list hl hu
 |bl a=>cases ry;exact RcAt.bool_list a hl hu
 |int a=>obtain ⟨t1,rfl⟩:=ry;exact RcAt.int_list a t1 hl hu
 |str a=>obtain ⟨t1,rfl⟩:=ry;exact RcAt.str_list a t1 hl hu
 |_=>exact absurd (show false=true from fy) Bool.false_ne_true
theorem HS {A:Around}{s:Shared}{y:V}{u:Value}{l:Addr}{items:Array Value}(hl:s.heap.IsList l items)(hu:A.units<cLine)(ry:RelV y u)(fy:p7 y=true):RcAt A s (.ref l) u false:=by
 cases y with
 |non=>cases ry;exact RcAt.list_none hl hu
 |bl a=>cases ry;exact RcAt.list_bool a hl hu
 |int a=>obtain ⟨t1,rfl⟩:=ry;exact RcAt.list_int a t1 hl hu
 |str a=>obtain ⟨t1,rfl⟩:=ry;exact RcAt.list_str a t1 hl hu
 |_=>exact absurd (show false=true from fy) Bool.false_ne_true
theorem HR {A:Around}{s:Shared}{y:V}{u:Value}{l:Addr}{items:Array Value}(hl:s.heap.IsTuple l items)(hu:A.units<cLine)(ry:RelV y u)(fy:p7 y=true):RcAt A s u (.ref l) false:=by
 cases y with
 |non=>cases ry;exact RcAt.none_tuple hl hu
 |bl a=>cases ry;exact RcAt.bool_tuple a hl hu
 |int a=>obtain ⟨t1,rfl⟩:=ry;exact RcAt.int_tuple a t1 hl hu
 |str a=>obtain ⟨t1,rfl⟩:=ry;exact RcAt.str_tuple a t1 hl hu
 |_=>exact absurd (show false=true from fy) Bool.false_ne_true
theorem HU {A:Around}{s:Shared}{y:V}{u:Value}{l:Addr}{items:Array Value}(hl:s.heap.IsTuple l items)(hu:A.units<cLine)(ry:RelV y u)(fy:p7 y=true):RcAt A s (.ref l) u false:=by
 cases y with
 |non=>cases ry;exact RcAt.tuple_none hl hu
 |bl a=>cases ry;exact RcAt.tuple_bool a hl hu
 |int a=>obtain ⟨t1,rfl⟩:=ry;exact RcAt.tuple_int a t1 hl hu
 |str a=>obtain ⟨t1,rfl⟩:=ry;exact RcAt.tuple_str a t1 hl hu
 |_=>exact absurd (show false=true from fy) Bool.false_ne_true
theorem HV {A:Around}{s:Shared}{y:V}{u:Value}{l:Addr}{items:Array Value}(hl:s.heap.IsList l items)(hu:A.units<cLine)(ry:RelV y u)(fy:p7 y=true):RcNeAt A s u (.ref l) true:=by
 cases y with
 |non=>cases ry;exact RcNeAt.none_list hl hu
 |bl a=>cases ry;exact RcNeAt.bool_list a hl hu
 |int a=>obtain ⟨t1,rfl⟩:=ry;exact RcNeAt.int_list a t1 hl hu
 |str a=>obtain ⟨t1,rfl⟩:=ry;exact RcNeAt.str_list a t1 hl hu
 |_=>exact absurd (show false=true from fy) Bool.false_ne_true
theorem HX {A:Around}{s:Shared}{y:V}{u:Value}{l:Addr}{items:Array Value}(hl:s.heap.IsList l items)(hu:A.units<cLine)(ry:RelV y u)(fy:p7 y=true):RcNeAt A s (.ref l) u true:=by
 cases y with
 |non=>cases ry;exact RcNeAt.list_none hl hu
 |bl a=>cases ry;exact RcNeAt.list_bool a hl hu
 |int a=>obtain ⟨t1,rfl⟩:=ry;exact RcNeAt.list_int a t1 hl hu
 |str a=>obtain ⟨t1,rfl⟩:=ry;exact RcNeAt.list_str a t1 hl hu
 |_=>exact absurd (show false=true from fy) Bool.false_ne_true
theorem HW {A:Around}{s:Shared}{y:V}{u:Value}{l:Addr}{items:Array Value}(hl:s.heap.IsTuple l items)(hu:A.units<cLine)(ry:RelV y u)(fy:p7 y=true):RcNeAt A s u (.ref l) true:=by
 cases y with
 |non=>cases ry;exact RcNeAt.none_tuple hl hu
 |bl a=>cases ry;exact RcNeAt.bool_tuple a hl hu
 |int a=>obtain ⟨t1,rfl⟩:=ry;exact RcNeAt.int_tuple a t1 hl hu
 |str a=>obtain ⟨t1,rfl⟩:=ry;exact RcNeAt.str_tuple a t1 hl hu
 |_=>exact absurd (show false=true from fy) Bool.false_ne_true
theorem HY {A:Around}{s:Shared}{y:V}{u:Value}{l:Addr}{items:Array Value}(hl:s.heap.IsTuple l items)(hu:A.units<cLine)(ry:RelV y u)(fy:p7 y=true):RcNeAt A s (.ref l) u true:=by
 cases y with
 |non=>cases ry;exact RcNeAt.tuple_none hl hu
 |bl a=>cases ry;exact RcNeAt.tuple_bool a hl hu
 |int a=>obtain ⟨t1,rfl⟩:=ry;exact RcNeAt.tuple_int a t1 hl hu
 |str a=>obtain ⟨t1,rfl⟩:=ry;exact RcNeAt.tuple_str a t1 hl hu
 |_=>exact absurd (show false=true from fy) Bool.false_ne_true
section
variable {X:Cx}{pins:List (Addr×Obj)}{Z:St}{H:Hp}{s:Shared}
theorem Zg (I:Inv X pins Z H s):∀(n:Nat){x:V}{b:Bool},EqP X.K H n x x b->b=true
 |0,x,b,h=>by obtain ⟨h1,_,rfl⟩:=h;exact Zh h1
 |n+1,x,b,h=>by
  rcases h with ⟨h1,_,rfl⟩|⟨a,c,xs,ys,rfl,e2,p1,p2,h⟩|⟨a,c,xs,ys,rfl,e2,p1,p2,e,he,rfl⟩|⟨a,c,xs,ys,rfl,e2,p1,p2,_⟩|⟨a,c,xs,ys,rfl,e2,p1,p2,_⟩|⟨c,ys,f,rfl,_⟩|⟨c,ys,f,rfl,_⟩
  ·exact Zh h1
  ·cases e2;cases I.list_inj p1 p2;rcases h with ⟨h,_⟩|⟨_,e,he,rfl⟩
   ·exact absurd rfl h
   ·rw [List.all_eq_true];exact fun j hj=>Zg I n (he j (List.mem_range.mp hj) (List.mem_range.mp hj))
  ·cases e2;cases I.tuple_inj p1 p2;rw [Nat.min_self,beq_self_eq_true,Bool.and_true,List.all_eq_true];exact fun j hj=>Zg I n (he j (List.mem_range.mp hj) (List.mem_range.mp hj))
  ·cases e2;obtain ⟨_,_,⟨o1,_,q1,c1,_⟩,_⟩:=I.list p1;obtain ⟨_,_,⟨o2,q2,c2,_⟩,_⟩:=I.tuple p2;rw [q1] at q2;cases q2;rw [c1] at c2;exact absurd c2 (by decide)
  ·cases e2;obtain ⟨_,_,⟨o2,q2,c2,_⟩,_⟩:=I.tuple p1;obtain ⟨_,_,⟨o1,_,q1,c1,_⟩,_⟩:=I.list p2;rw [q1] at q2;cases q2;rw [c1] at c2;exact absurd c2 (by decide)
  ·cases f
  ·cases f
theorem wS (I:Inv X pins Z H s):∀(n:Nat)(A:Around){x y:V}{u v:Value}{b:Bool},A.units+n<cLine->EqP X.K H n x y b->RelV x u->RelV y v->EqAt A s u v b
 |0,A,x,y,u,v,b,hu,h,r1,r2=>by obtain ⟨h1,h2,rfl⟩:=h;exact VQ r1 r2 h1 h2
 |n+1,A,x,y,u,v,b,hu,h,r1,r2=>by
  have h':=h;rcases h with ⟨h1,h2,rfl⟩|⟨a,c,xs,ys,rfl,rfl,p1,p2,h⟩|⟨a,c,xs,ys,rfl,rfl,p1,p2,e,he,rfl⟩|⟨a,c,xs,ys,rfl,rfl,p1,p2,rfl⟩|⟨a,c,xs,ys,rfl,rfl,p1,p2,rfl⟩|⟨c,ys,f,rfl,p,rfl⟩|⟨c,ys,f,rfl,p,rfl⟩
  ·exact VQ r1 r2 h1 h2
  ·cases r1;cases r2;by_cases hac:a=c
   ·subst hac;have hb:=Zg I (n+1) h';rw [hb];exact EqAt.same _
   obtain ⟨us,v1,q1,_⟩:=I.list p1;obtain ⟨ws,v2,q2,_⟩:=I.list p2;have l1:=v1.length;have l2:=v2.length;refine EqAt.of_refs hac ?_;rcases h with ⟨h,rfl⟩|⟨hl,e,he,rfl⟩
   ·exact RcAt.lists_lengths q1.isList q2.isList (by rw [List.size_toArray,List.size_toArray];simp;omega) (by omega)
   ·have q:=RcAt.lists (A:=A) (s:=s) q1.isList q2.isList (by rw [List.size_toArray,List.size_toArray];omega) (by omega) (e:=e) (fun j j1 j2=>?_)
    ·rw [List.size_toArray,<- l1] at q;exact q
    ·have j1':j<us.length:=by simpa using j1
     have j2':j<ws.length:=by simpa using j2
     rw [List.getElem_toArray,List.getElem_toArray];exact wS I n A.in1 (by show A.units+1+n<cLine;omega) (he j (by omega) (by omega)) (zn v1 j (by omega) j1') (zn v2 j (by omega) j2')
  ·cases r1;cases r2;by_cases hac:a=c
   ·subst hac;have hb:=Zg I (n+1) h';rw [hb];exact EqAt.same _
   obtain ⟨us,v1,q1,_⟩:=I.tuple p1;obtain ⟨ws,v2,q2,_⟩:=I.tuple p2;have l1:=v1.length;have l2:=v2.length;refine EqAt.of_refs hac ?_;have q:=RcAt.tuples (A:=A) (s:=s) q1 q2 (by omega) (e:=e) (fun j j1 j2=>?_)
   ·rw [List.size_toArray,List.size_toArray,<- l1,<- l2] at q;exact q
   ·have j1':j<us.length:=by simpa using j1
    have j2':j<ws.length:=by simpa using j2
    rw [List.getElem_toArray,List.getElem_toArray];exact wS I n A.in1 (by show A.units+1+n<cLine;omega) (he j (by omega) (by omega)) (zn v1 j (by omega) j1') (zn v2 j (by omega) j2')
  ·cases r1;cases r2;obtain ⟨us,v1,q1,_⟩:=I.list p1;obtain ⟨ws,v2,q2,_⟩:=I.tuple p2;exact EqAt.list_tuple q1.isList q2 (by omega)
  ·cases r1;cases r2;obtain ⟨us,v1,q1,_⟩:=I.tuple p1;obtain ⟨ws,v2,q2,_⟩:=I.list p2;exact EqAt.tuple_list q1 q2.isList (by omega)
  ·cases r2;rcases p with p|p
   ·obtain ⟨us,v1,q1,_⟩:=I.list p;exact Do q1.isList (by omega) r1 f
   ·obtain ⟨us,v1,q1,_⟩:=I.tuple p;exact Dp q1 (by omega) r1 f
  ·cases r1;rcases p with p|p
   ·obtain ⟨us,v1,q1,_⟩:=I.list p;exact Dq q1.isList (by omega) r2 f
   ·obtain ⟨us,v1,q1,_⟩:=I.tuple p;exact Ds q1 (by omega) r2 f
theorem rc_at (I:Inv X pins Z H s){n:Nat}{A:Around}{x y:V}{u v:Value}{b:Bool}(hu:A.units+n<cLine)(h:EqP X.K H n x y b)(r1:RelV x u)(r2:RelV y v):RcAt A s u v b:=by
 cases n with
 |zero=>obtain ⟨h1,h2,rfl⟩:=h;exact Bq r1 r2 h1 h2
 |succ n =>
  rcases h with ⟨h1,h2,rfl⟩|⟨a,c,xs,ys,rfl,rfl,p1,p2,h⟩|⟨a,c,xs,ys,rfl,rfl,p1,p2,e,he,rfl⟩|⟨a,c,xs,ys,rfl,rfl,p1,p2,rfl⟩|⟨a,c,xs,ys,rfl,rfl,p1,p2,rfl⟩|⟨c,ys,f,rfl,p,rfl⟩|⟨c,ys,f,rfl,p,rfl⟩
  ·exact Bq r1 r2 h1 h2
  ·cases r1;cases r2;obtain ⟨us,v1,q1,_⟩:=I.list p1;obtain ⟨ws,v2,q2,_⟩:=I.list p2;have l1:=v1.length;have l2:=v2.length;rcases h with ⟨h,rfl⟩|⟨hl,e,he,rfl⟩
   ·exact RcAt.lists_lengths q1.isList q2.isList (by rw [List.size_toArray,List.size_toArray];simp;omega) (by omega)
   ·have q:=RcAt.lists (A:=A) (s:=s) q1.isList q2.isList (by rw [List.size_toArray,List.size_toArray];omega) (by omega) (e:=e) (fun j j1 j2=>?_)
    ·rw [List.size_toArray,<- l1] at q;exact q
    ·have j1':j<us.length:=by simpa using j1
     have j2':j<ws.length:=by simpa using j2
     rw [List.getElem_toArray,List.getElem_toArray];exact wS I n A.in1 (by show A.units+1+n<cLine;omega) (he j (by omega) (by omega)) (zn v1 j (by omega) j1') (zn v2 j (by omega) j2')
  ·cases r1;cases r2;obtain ⟨us,v1,q1,_⟩:=I.tuple p1;obtain ⟨ws,v2,q2,_⟩:=I.tuple p2;have l1:=v1.length;have l2:=v2.length;have q:=RcAt.tuples (A:=A) (s:=s) q1 q2 (by omega) (e:=e) (fun j j1 j2=>?_)
   ·rw [List.size_toArray,List.size_toArray,<- l1,<- l2] at q;exact q
   ·have j1':j<us.length:=by simpa using j1
    have j2':j<ws.length:=by simpa using j2
    rw [List.getElem_toArray,List.getElem_toArray];exact wS I n A.in1 (by show A.units+1+n<cLine;omega) (he j (by omega) (by omega)) (zn v1 j (by omega) j1') (zn v2 j (by omega) j2')
  ·cases r1;cases r2;obtain ⟨us,v1,q1,_⟩:=I.list p1;obtain ⟨ws,v2,q2,_⟩:=I.tuple p2;exact RcAt.list_tuple q1.isList q2 (by omega)
  ·cases r1;cases r2;obtain ⟨us,v1,q1,_⟩:=I.tuple p1;obtain ⟨ws,v2,q2,_⟩:=I.list p2;exact RcAt.tuple_list q1 q2.isList (by omega)
  ·cases r2;rcases p with p|p
   ·obtain ⟨us,v1,q1,_⟩:=I.list p;exact HQ q1.isList (by omega) r1 f
   ·obtain ⟨us,v1,q1,_⟩:=I.tuple p;exact HR q1 (by omega) r1 f
  ·cases r1;rcases p with p|p
   ·obtain ⟨us,v1,q1,_⟩:=I.list p;exact HS q1.isList (by omega) r2 f
   ·obtain ⟨us,v1,q1,_⟩:=I.tuple p;exact HU q1 (by omega) r2 f
theorem HZ (I:Inv X pins Z H s){n:Nat}{A:Around}{x y:V}{u v:Value}{b:Bool}(hu:A.units+n<cLine)(h:EqP X.K H n x y b)(r1:RelV x u)(r2:RelV y v):RcNeAt A s u v (!b):=by
 cases n with
 |zero=>obtain ⟨h1,h2,rfl⟩:=h;exact Br r1 r2 h1 h2
 |succ n =>
  rcases h with ⟨h1,h2,rfl⟩|⟨a,c,xs,ys,rfl,rfl,p1,p2,h⟩|⟨a,c,xs,ys,rfl,rfl,p1,p2,e,he,rfl⟩|⟨a,c,xs,ys,rfl,rfl,p1,p2,rfl⟩|⟨a,c,xs,ys,rfl,rfl,p1,p2,rfl⟩|⟨c,ys,f,rfl,p,rfl⟩|⟨c,ys,f,rfl,p,rfl⟩
  ·exact Br r1 r2 h1 h2
  ·cases r1;cases r2;obtain ⟨us,v1,q1,_⟩:=I.list p1;obtain ⟨ws,v2,q2,_⟩:=I.list p2;have l1:=v1.length;have l2:=v2.length;rcases h with ⟨h,rfl⟩|⟨hl,e,he,rfl⟩
   ·exact RcNeAt.lists_lengths q1.isList q2.isList (by rw [List.size_toArray,List.size_toArray];simp;omega) (by omega)
   ·have q:=RcNeAt.lists (A:=A) (s:=s) q1.isList q2.isList (by rw [List.size_toArray,List.size_toArray];omega) (by omega) (e:=e) (fun j j1 j2=>?_)
    ·rw [List.size_toArray,<- l1] at q;exact q
    ·have j1':j<us.length:=by simpa using j1
     have j2':j<ws.length:=by simpa using j2
     rw [List.getElem_toArray,List.getElem_toArray];exact wS I n A.in1 (by show A.units+1+n<cLine;omega) (he j (by omega) (by omega)) (zn v1 j (by omega) j1') (zn v2 j (by omega) j2')
  ·cases r1;cases r2;obtain ⟨us,v1,q1,_⟩:=I.tuple p1;obtain ⟨ws,v2,q2,_⟩:=I.tuple p2;have l1:=v1.length;have l2:=v2.length;have q:=RcNeAt.tuples (A:=A) (s:=s) q1 q2 (by omega) (e:=e) (fun j j1 j2=>?_)
   ·rw [List.size_toArray,List.size_toArray,<- l1,<- l2] at q;exact q
   ·have j1':j<us.length:=by simpa using j1
    have j2':j<ws.length:=by simpa using j2
    rw [List.getElem_toArray,List.getElem_toArray];exact wS I n A.in1 (by show A.units+1+n<cLine;omega) (he j (by omega) (by omega)) (zn v1 j (by omega) j1') (zn v2 j (by omega) j2')
  ·cases r1;cases r2;obtain ⟨us,v1,q1,_⟩:=I.list p1;obtain ⟨ws,v2,q2,_⟩:=I.tuple p2;exact RcNeAt.list_tuple q1.isList q2 (by omega)
  ·cases r1;cases r2;obtain ⟨us,v1,q1,_⟩:=I.tuple p1;obtain ⟨ws,v2,q2,_⟩:=I.list p2;exact RcNeAt.tuple_list q1 q2.isList (by omega)
  ·cases r2;rcases p with p|p
   ·obtain ⟨us,v1,q1,_⟩:=I.list p;exact HV q1.isList (by omega) r1 f
   ·obtain ⟨us,v1,q1,_⟩:=I.tuple p;exact HW q1 (by omega) r1 f
  ·cases r1;rcases p with p|p
   ·obtain ⟨us,v1,q1,_⟩:=I.list p;exact HX q1.isList (by omega) r2 f
   ·obtain ⟨us,v1,q1,_⟩:=I.tuple p;exact HY q1 (by omega) r2 f
def rEqD (K:Fg)(n:Nat)(neg:Bool):R2:=fun x y H Q=>∃ b,EqP K H n x y b/\Q (.bl (if neg then !b else b)) H
theorem jm {K:Fg}{n:Nat}(hu:X.A.units+n<cLine)(hK:X.K=K):OpR X (compareOp .Eq) (rEqD K n false):=by subst hK;intro pins s Z H x y v u Q I rx ry h;obtain ⟨b,h,q⟩:=h;exact rc_at I hu h rx ry X.prog X.w X.xe _ ⟨.bl b,H,I,rfl,q⟩
theorem jn {K:Fg}{n:Nat}(hu:X.A.units+n<cLine)(hK:X.K=K):OpR X (compareOp .NotEq) (rEqD K n true):=by subst hK;intro pins s Z H x y v u Q I rx ry h;obtain ⟨b,h,q⟩:=h;exact HZ I hu h rx ry X.prog X.w X.xe _ ⟨.bl (!b),H,I,rfl,q⟩
theorem xm {A:Around}{k:Nat}(hr:Room k A):A.units+6<cLine:=by have:=hr.units;omega
end
end L2
namespace L2
open PySem PySem.Spec PyProof.Rows
section
variable {X:Cx}{K:Fg}
def rAddS:R2:=fun x y H Q=>∃ i j,x = .str i/\y = .str j/\i.length+j.length<=sizeLine/\Q (.str (i++j)) H
def Be (K:Fg):R2:=fun x y H Q=>(rI0 fun i j=> .int (i+j)) x y H Q∨rAddS x y H Q∨Bg K x y H Q∨Bh K x y H Q
theorem xu (h:X.K=K):OpR X (binaryOp .Add) (Be K):=by subst h;exact op_add.or (op_add_str.or (op_catL.or NT))
theorem MJ (h:X.K=K):IxR X (rIx K):=by subst h;exact MI
def Qx (K:Fg):List V->Hp->VK->Prop:=fun xs H Q=>(∃ x n,xs=[x]/\LenV K x H n/\Q (.int n) H)∨∃ a kvs,xs=[V.ref a]/\H a=some (.dK kvs)/\Q (.int kvs.length) H
theorem xf (h:X.K=K):CallR X (.builtin "len") (Qx K):=by subst h;exact CallR.or (f:= .builtin "len") CI CJ
theorem HK {a:Expr}{ta:TE}(h:X.K=K)(ha:PE X a ta)(he:∀ whole,isTrue a X.env whole=(do let v <- whole;standAt a.pos;holding [v] (truthy v))):PT X a (fun Z H Q=>ta Z H fun x H'=>∃ k,TruV K x H' k/\Q k H'):=by subst h;exact HL ha he
theorem KG (h:X.K=K):OpR X (compareOp .In) (rIn K false):=by subst h;exact NU
theorem WR {tg l:Expr}{tl:TE}(hK:X.K=K)(hl:PE X l tl):PI X tg l (iTup K tl):=by subst hK;exact Hw hl
def Bm (K:Fg):List V->Hp->VK->Prop:=fun xs H Q=>∃ p ys,xs=[.ref p]/\(SqL K H p ys∨SqT K H p ys)/\∀ l,H l=none->Q (.ref l) (v8 H l (.lst ys))
theorem jY (h:X.K=K):CallR X (.type "list") (Bm K):=by subst h;exact CN
def rIsi (K:Fg):List V->Hp->VK->Prop:=fun xs H Q=>∃ x n T b,xs=[x,.ty n]/\xU K H x (.type T)/\tyB T n=some b/\Q (.bl b) H
theorem zK (h:X.K=K):CallR X (.builtin "isinstance") (rIsi K):=by subst h;exact CH
def Bf (K:Fg):List V->Hp->VK->Prop:=fun xs H Q=>∃(a:Addr)(bs:List Bool),xs=[.ref a]/\SqL K H a (bs.map V.bl)/\Q (.bl (bs.all id)) H
theorem vE (hc:X.calm=true)(h:X.K=K):CallR X (.builtin "all") (Bf K):=by subst h;exact CF hc
def rMin2:List V->Hp->VK->Prop:=fun xs H Q=>∃ i j,xs=[.int i,.int j]/\Q (.int (if j<i then j else i)) H
theorem CP (hc:X.calm=true):CallR X (.builtin "min") rMin2:=CO hc
def rIsN:R2:=fun x y H Q=>y = .non/\Q (.bl (decide (x = .non))) H
def Bn:R2:=fun x y H Q=>y = .non/\Q (.bl (!decide (x = .non))) H
theorem KH:OpR X (compareOp .Is) rIsN:=NV
theorem WH:OpR X (compareOp .IsNot) Bn:=NX
theorem Ga:bootBuiltins "tuple"=some (.type "tuple"):=by decide +kernel
theorem Cw:bootBuiltins "max"=some (.builtin "max"):=by decide +kernel
theorem XY:bootBuiltins "sorted"=some (.builtin "sorted"):=by decide +kernel
theorem VD:bootBuiltins "dict"=some (.type "dict"):=by decide +kernel
theorem TX:tyB "tuple" "tuple"=some true:=by decide +kernel
end
section
variable {X:Cx}{K:Fg}{o e:Expr}{es:List Expr}{to:TE}{t:TA}{name:Str}{apos cpos:Pos}{T id:String}{r:V->List V->Hp->VK->Prop}
theorem jq (hK:X.K=K)(pa:PlainAttrs T)(slot:Slot T name id)(hty:typeOf (.builtin id)=pure (.type "method_descriptor"))(hm:MtR X id r)(ho:PE X o to)(ha:PA X (e::es) t)(hbase:attributeBase o name X.env (eval o X.env)=eval o X.env:=by rfl)(hfew:((backTo cpos (starEach (e::es) X.env)).all (fun x=>!x.1)&&(backToKw cpos (keywordEach [] X.env)).all (fun x=>x.1.isSome)&&decide ((e::es).length+([]:List Keyword).length+(if ([]:List Keyword).isEmpty then 0 else 1)<30))=true:=by rfl)(hline:(apos.endLine==cpos.line)=true:=by rfl)(hs:starEach (e::es) X.env=(false,eval e X.env)::starEach es X.env:=by rfl)(hplain:(backTo cpos (starEach es X.env)).any (·.1)=false:=by rfl):PE X (.Call (.Attribute o name apos) (e::es) [] cpos) (tBM K T r to t):=by subst hK;exact pe_bm pa slot hty hm ho ha hbase hfew hline hs hplain
end
end L2
namespace L2
open PySem PySem.Spec PySem.Calls
section
variable {P:Program}{w:World}{κ:Type}[DecidableEq κ]{knd:PySem.KeyKind P w κ}
def qb (val:Nat->κ):Nat->List κ
 |0=>[]
 |i+1=>if val i∈qb val i then qb val i else qb val i++[val i]
theorem BH (val:Nat->κ):∀ i,(qb val i).length<=i
 |0=>Nat.le_refl _
 |i+1=>by
  have ih:=BH val i;unfold qb;split
  ·omega
  ·rw [List.length_append,List.length_singleton];omega
theorem BJ {h:Heap}{a:Addr}{S S':κ->Bool}{n n':Nat}(x:h.SetOf knd a S n)(e:∀ k,S k=S' k)(en:n=n'):h.SetOf knd a S' n':=by cases (funext e:S=S');cases en;exact x
theorem Yj {h h':Heap}{a:Addr}{S:κ->Bool}{n:Nat}(x:h.SetOf knd a S n)(e:∀ o,h.get? a=some o->h'.get? a=some o):h'.SetOf knd a S n:=by obtain ⟨o,es,ep,t,ho,r⟩:=x;exact ⟨o,es,ep,t,e _ ho,r⟩
theorem Tc {A:Around}{R:Result->Shared->Prop}{I:Addr}{fp wr:List Addr}{G:Array GenState->Array GenState->Prop}{n:Nat}{Pp:Nat->Value->Prop}{St:Nat->Shared->Prop}(W:WalksS P w A.in1 I fp wr G n Pp St)(a:Addr)(ha:a∉fp)(val:Nat->κ)(hv:∀ i v,Pp i v->knd.is (val i) v=true/\v.scannable=true)(hb:n+1<scanBound):∀ (m i:Nat) (s:Shared),n-i=m->i<=n->St i s->s.heap.SetOf knd a (fun x=>decide (x∈qb val i)) (qb val i).length -> (∀ s',Moved (a::wr) G s s'->s'.heap.SetOf knd a (fun x=>decide (x∈qb val n)) (qb val n).length->R (.ok (.ret .none)) s') -> codeAny (model P w) A (.builtin "set.update.loop" ⟨[.ref a,.ref I],[]⟩) R s:=by
 have haw:a∉wr:=fun z=>ha (W.sub _ z);have up:∀ b∈wr,b∈a::wr:=fun b z=>List.mem_cons_of_mem _ z;intro m
 induction m with
 |zero =>
  intro i s hm hi st hS hR;obtain rfl:i=n:=by omega
  refine codeAny_builtin PyProof.Rows.F.entry_set_update_loop ?_;rw [Around.under_plainId PyProof.Rows.F.plain_set_update_loop _];show wpAny _ A.in1 (pyNext (.ref I) >>= _) _ _ s;refine wpAny_bind (W.done s _ _ st fun s' mv=>?_);show wpAny _ A.in1 (ret Value.none) _ _ s';exact wpAny_pure (hR s' (mv.mono up) (Yj hS fun o e=>mv.heap a o haw e))
 |succ m ih =>
  intro i s hm hi st hS hR;have hlt:i<n:=by omega
  refine codeAny_builtin PyProof.Rows.F.entry_set_update_loop ?_;rw [Around.under_plainId PyProof.Rows.F.plain_set_update_loop _];show wpAny _ A.in1 (pyNext (.ref I) >>= _) _ _ s;refine wpAny_bind (W.item i s _ _ hlt st fun v s' hP st' mv=>?_);obtain ⟨hk,hsc⟩:=hv i v hP;have hS':s'.heap.SetOf knd a (fun x=>decide (x∈qb val i)) (qb val i).length:=Yj hS fun o e=>mv.heap a o haw e;show wpAny _ A.in1 (holding [v] (setAdd a v) >>= _) _ _ s';refine wpAny_bind (wpAny_holding ?_);unfold setAdd;refine wpAny_holding (wpAny_bind (knd.pyHash (k:=val i) hk ?_));have room:(qb val i).length+1<scanBound:=by have:=BH val i;omega
  refine wpAny_setAddHashed_of (knd:=knd) (s:={ s' with toks:=s'.toks+1 }) hk hsc hS' room fun h' sb hS2=>?_;have hSi:h'.SetOf knd a (fun x=>decide (x∈qb val (i+1))) (qb val (i+1)).length:=by
   refine BJ hS2 (fun x=>?_) ?_
   ·by_cases hc:val i∈qb val i
    ·rw [show qb val (i+1)=qb val i from if_pos hc];by_cases hx:x=val i
     ·subst hx;simp [hc]
     ·simp [hx]
    ·rw [show qb val (i+1)=qb val i++[val i] from if_neg hc];simp
   ·by_cases hc:val i∈qb val i
    ·rw [show qb val (i+1)=qb val i from if_pos hc];simp [hc]
    ·rw [show qb val (i+1)=qb val i++[val i] from if_neg hc];simp [hc]
  refine wpAny_pure ⟨plainId_quiet PyProof.Rows.F.plain_set_update_loop _,ih (i+1) _ (by omega) hlt (W.frame _ s' _ _ st' (Nat.le_succ _) fun b z o e=>?_) hSi fun s2 mv2 hS3=>?_⟩
  ·rw [sb.2 b (fun q:b=a=>ha (by rw [<- q];exact z))];exact e
  ·refine hR s2 (Moved.trans W.gtrans ((mv.mono up).then_heap (Nat.le_succ _) fun b o z e=>?_) mv2) hS3;rw [sb.2 b (fun q:b=a=>z (by rw [q];exact List.mem_cons_self))];exact e
theorem CT {A:Around}{E:Value->Shared->Prop}{s:Shared}{l:Addr}{its:Array Value}{val:Nat->κ}{Q:Value->Shared->Prop}(hh:A.handled=none)(hl:s.heap.IsList l its)(hv:∀ (i:Nat) (v:Value),its[i]?=some v->knd.is (val i) v=true/\v.scannable=true)(hb:its.size+1<scanBound)(h:∀ (h':Heap) (tk:Nat),h'.SetOf knd s.heap.objs.size (fun x=>decide (x∈qb val its.size)) (qb val its.size).length -> (∀ b o,s.heap.get? b=some o->h'.get? b=some o)->Q (.ref s.heap.objs.size) { s with heap:=h',toks:=tk }):wpAny (model P w) A (call (.type "set") [.ref l]) Q E s:=by
 obtain ⟨c,tl,hmro⟩:=PySem.F.called_set.mro;have hmade:=PySem.F.called_set.made;have hsub:=PySem.F.called_set.sub;refine wpAny_call (codeAny_of_tree ?_);show wpAny _ _ (callAny (.type "set") _) _ _ _;refine wpAny_pure ⟨Code.quiet_builtin _ (by decide +kernel),codeAny_builtin PySem.F.entry_type_call ?_⟩;rw [Around.under_plain (weight_type_call_type "set" [.ref l] []) rfl];have q1:=PySem.F.called_set.notType;have q2:=PySem.F.called_set.canCreate;have q3:=PySem.F.typeCall_set_1 (.ref l)
 (repeat (any_goals (first|assumption|wp_step)))
 refine codeAny_mono (code_set_new_1 (.ref l) (E:=E) (Q₁:=fun ob s1=>∃ led:Bool,ob = .ref s.heap.objs.size/\s1={ s with heap:=s.heap.push { cls:= .type "set",dict:=none,data:= .set #[] 0 (.fresh 0 0 led) } }) fun led=>⟨led,rfl,rfl⟩) fun r s1 hr=>?_;cases r with
 |error e=>exact hr
 |ok fl =>
  cases fl with
  |ret ob =>
   obtain ⟨led,rfl,rfl⟩:=hr;have hS:(s.heap.push { cls:= .type "set",dict:=none,data:= .set #[] 0 (.fresh 0 0 led) }).get? s.heap.objs.size=some { cls:= .type "set",dict:=none,data:= .set #[] 0 (.fresh 0 0 led) }:=Heap.get?_push_size _ rfl;have hT:Shared.TypeIs { s with heap:=s.heap.push { cls:= .type "set",dict:=none,data:= .set #[] 0 (.fresh 0 0 led) } } (.ref s.heap.objs.size) "set":=⟨_,hS,rfl⟩;have hli:=PySem.F.called_set.init.lookup;have hbi:=PySem.F.called_set.init.bind (.ref s.heap.objs.size)
   (repeat (any_goals (first|assumption|wp_step)))
   refine codeAny_mono (codeAny_call_builtin (R:=wants (fun r s2=>r = .none/\∃ h' tk,s2={ s with heap:=h',toks:=tk }/\h'.SetOf knd s.heap.objs.size (fun x=>decide (x∈qb val its.size)) (qb val its.size).length /\
     (∀ b o,s.heap.get? b=some o->h'.get? b=some o)) E) PySem.F.called_set.init.plain PySem.F.entry_set_init (check_set_init_1 hT ?_)) fun r2 s2 hr2=>?_
   ·obtain ⟨ol,hol,hcl,nl,hdl⟩:=hl;obtain ⟨ocls,odict,odata,oslots⟩:=ol;simp only at hcl hdl;subst hcl;subst hdl;have hol':(s.heap.push { cls:= .type "set",dict:=none,data:= .set #[] 0 (.fresh 0 0 led) }).get? l=some { cls:= .type "list",dict:=odict,data:= .seq its nl,slots:=oslots }:=Heap.get?_push_of_some _ hol;have z1:=PySem.F.sub_list_set;have z2:=PySem.F.sub_list_frozenset;have z3:(Value.type "list" == Value.type "dict")=false:=by decide
    have hl1:(s.heap.push { cls:= .type "set",dict:=none,data:= .set #[] 0 (.fresh 0 0 led) }).IsList l its:=⟨_,hol',rfl,nl,rfl⟩;unfold Builtin.«set.__init__» noKeywords Builtin.Frozenset.updateFrom;generalize hPI:pyIter=PI
    wp_walk
    subst hPI;refine wpAny_pyIter_list hl1 ?_;refine wpAny_bind (wpAny_runValue ?_);have hlS:l<s.heap.objs.size:=Heap.lt_size hol;have h3:A.in1.in1.in1.handled=none:=by simp [hh]
    have ne1:l≠(s.heap.push { cls:= .type "set",dict:=none,data:= .set #[] 0 (.fresh 0 0 led) }).objs.size:=by rw [Heap.size_push];exact Nat.ne_of_lt (Nat.lt_succ_of_lt hlS)
    have ne2:s.heap.objs.size∉[(s.heap.push { cls:= .type "set",dict:=none,data:= .set #[] 0 (.fresh 0 0 led) }).objs.size,l]:=by rw [Heap.size_push];simp only [List.mem_cons,List.not_mem_nil,or_false,not_or];exact ⟨Nat.ne_of_lt (Nat.lt_succ_self _),Nat.ne_of_gt hlS⟩
    refine Tc (knd:=knd) ((Walks.list h3 _ l ne1 its).toS) s.heap.objs.size ne2 val hv hb (its.size-0) 0 _ (by omega) (Nat.zero_le _) ⟨⟨_,Heap.get?_push_size _ rfl,rfl,rfl⟩,(hl1.push _)⟩ ?_ ?_
    ·have hg:((s.heap.push { cls:= .type "set",dict:=none,data:= .set #[] 0 (.fresh 0 0 led) }).push { cls:= .type "list_iterator",data:= .fields #[.ref l,.int 0 0] }).get? s.heap.objs.size=some { cls:= .type "set",dict:=none,data:= .set #[] 0 (.fresh 0 0 led) }:=Heap.get?_push_of_some _ hS;exact BJ ((PyProof.Rows.setObjOf_fresh (knd:=knd) led).setOf hg (by unfold scanBound;omega)) (fun x=>by simp [qb]) rfl
    ·rintro ⟨h',g',d',tk',os'⟩ mv hS';have eg:g'=s.gens:=mv.gens;have ed:d'=s.drawn:=mv.drawn;have eo:os'=s.os:=mv.os;subst eg ed eo;show wpAny _ _ _ _ _ _;refine wpAny_pure ?_;show wpAny _ _ (ret Value.none) _ _ _;refine wpAny_pure ⟨rfl,h',tk',rfl,hS',fun b o e=>?_⟩;have hb0:=Heap.lt_size e;refine mv.heap b o ?_ (Heap.get?_push_of_some _ (Heap.get?_push_of_some _ e));rw [Heap.size_push];simp only [List.mem_cons,List.not_mem_nil,or_false,not_or];exact ⟨Nat.ne_of_lt hb0,Nat.ne_of_lt (Nat.lt_succ_of_lt hb0)⟩
   ·cases r2 with
    |error e=>exact hr2
    |ok fl2 =>
     cases fl2 with
     |ret r =>
      obtain ⟨rfl,h',tk,rfl,hS',hk'⟩:=hr2
      (repeat (any_goals (first|assumption|wp_step)))
      exact h _ _ hS' hk'
     |_=>exact False.elim hr2
  |_=>exact False.elim hr
end
def vC (n:Nat)(a:Addr):HO:= .ext fun h=>∃(P:Program)(w:World)(S:j5->Bool),h.SetOf (qF P w) a S n
section
variable {X:Cx}
theorem SI {ss:List Str}{us:List Value}(r:Vals (ss.map V.str) us):∀(i:Nat)(v:Value),us[i]?=some v->∃ x t,ss[i]?=some x/\v = .str x t:=by
 have key:∀(ss:List Str)(us:List Value),Vals (ss.map V.str) us->∀(i:Nat)(v:Value),us[i]?=some v->∃ x t,ss[i]?=some x/\v = .str x t:=by
  intro ss
  induction ss with
  |nil=>intro us r i v e;cases r;simp at e
  |cons s ss ih =>
   intro us r i v e;cases r with
   |cons p q =>
    cases i with
    |zero=>obtain ⟨t,rfl⟩:=p;simp at e;exact ⟨s,t,rfl,e.symm⟩
    |succ i=>exact ih _ q i v (by simpa using e)
 intro i v e;exact key ss us r i v e
theorem CS (hc:X.calm=true):CallR X (.type "set") (fun xs H Q=>∃ (a:Addr) (ss:List Str),xs=[.ref a]/\SqL X.K H a (ss.map V.str)/\ss.length<=1000 /\ ∀ l,H l=none->Q (.ref l) (v8 H l (vC (qb (fun i=>(Sum.inr (ss.getD i ⟨#[]⟩):j5)) ss.length).length l))):=by
 intro pins s Z H xs us Q I r h;obtain ⟨a,ss,rfl,hq,hl,q⟩:=h;obtain ⟨u,rfl,ru⟩:=zH r;obtain rfl:u=Value.ref a:=ru;obtain ⟨its,rv,p,hz⟩:=I.list hq;have hn:its.length=ss.length:=by have e:=rv.length;rw [List.length_map] at e;exact e.symm
 refine CT (knd:=qF X.prog X.w) (its:=its.toArray) (val:=fun i=>(Sum.inr (ss.getD i ⟨#[]⟩):j5)) (I.ok.hd hc) p.isList (fun i v e=>?_) (by rw [List.size_toArray,hn];unfold scanBound;omega) fun h' tk hS k=>?_
 ·obtain ⟨x,t,hx,rfl⟩:=SI rv i v (by simpa using e);rw [List.getD_eq_getElem?_getD,hx];exact ⟨WE _ _ _ _,rfl⟩
 ·have e8:its.toArray.size=ss.length:=by rw [List.size_toArray];exact hn
  rw [e8] at hS;refine ⟨.ref s.heap.objs.size,_,I.laid (t':=tk) k (Nat.le_refl _) (show ObjOk X.prog X.w _ h' _ (vC _ _) from ⟨⟨_,_,_,hS⟩,?_,?_⟩),rfl,q _ (I.hok.fresh (Nat.le_refl _))⟩
  ·obtain ⟨o,_,_,_,ho,_⟩:=hS;exact ⟨o,ho⟩
  ·rintro h1 h2 ⟨P,w,S,x⟩ e;exact ⟨P,w,S,Yj x e⟩
theorem CK:CallR X (.builtin "len") (fun xs H Q=>∃ (a:Addr) (n:Nat),xs=[.ref a]/\H a=some (vC n a)/\Q (.int n) H):=by
 intro pins s Z H xs us Q I r h;obtain ⟨a,n,rfl,hq,q⟩:=h;obtain ⟨u,rfl,ru⟩:=zH r;obtain rfl:u=Value.ref a:=ru;obtain ⟨⟨P,w,S,o,es,ep,t,ho,hex,hd,_,_,hb,hf,hn⟩,_⟩:=(show ObjOk X.prog X.w H s.heap a (vC n a) from I.hok a _ hq);subst hn;have h63:((es.size:Nat):Int)<2 ^ 63:=by unfold scanBound at hb;omega
 exact call_len_set ho hex hd hf h63 ⟨.int es.size,H,I.tok _,⟨_,rfl⟩,q⟩
end
end L2
namespace L2
open PySem PySem.Spec PySem.Calls PyProof.Rows
section
variable {X:Cx}
theorem Mh {ns:List Int}{its:List Value}(rv:Vals (ns.map V.int) its):∃ xs:Array (Int×Tok),its.toArray=intItems xs/\xs.size=ns.length/\∀ i,i<ns.length->numAt xs i=ns.getD i 0:=by
 have hi:=Yz rv;obtain ⟨xs,ex⟩:=hi.allInts.items;have hl:xs.size=ns.length:=by
  have e:its.toArray.size=xs.size:=by rw [ex];unfold intItems;rw [Array.size_map]
  have e2:=rv.length;rw [List.length_map] at e2;rw [List.size_toArray] at e;omega
 refine ⟨xs,ex,hl,fun i h=>?_⟩;have hx:i<xs.size:=by omega
 have e1:its.toArray[i]?=some (.int xs[i].1 xs[i].2):=by rw [ex];unfold intItems;rw [Array.getElem?_map,Array.getElem?_eq_getElem hx];rfl
 have e2:its[i]?=some (.int xs[i].1 xs[i].2):=by simpa using e1
 obtain ⟨t,e3⟩:=IntsAre.int_at hi i _ e2;injection e3 with e3 _;unfold numAt;rw [Array.getElem?_eq_getElem hx];exact e3
theorem Co {ns:List Int}{f:Nat->Int}{k:Nat}(hf:∀ i,i<ns.length->f i=ns.getD i 0)(hk:k<ns.length):f k∈ns:=by rw [hf k hk,List.getD_eq_getElem?_getD,List.getElem?_eq_getElem hk];exact List.getElem_mem hk
theorem Cn {ns:List Int}{f:Nat->Int}{R:Int->Prop}(hf:∀ i,i<ns.length->f i=ns.getD i 0)(h:∀ j,j<ns.length->R (f j)):∀ x∈ns,R x:=by intro x hx;obtain ⟨j,hj,rfl⟩:=List.getElem_of_mem hx;have:=h j hj;rw [hf j hj,List.getD_eq_getElem?_getD,List.getElem?_eq_getElem hj] at this;exact this
def XS (ss:List Str):Prop:=ss.Pairwise fun x y=>¬ (y.cps.toList<x.cps.toList)
theorem BQ {ss:List Str}(h:sortedS ss=true):XS ss:=by
 cases ss with
 |nil=>exact List.Pairwise.nil
 |cons x r =>
  have key:∀(l:List Str)(p:Str),risingS p l=true->(p::l).Pairwise fun x y=>¬ (y.cps.toList<x.cps.toList):=by
   intro l
   induction l with
   |nil=>intro p _;exact List.pairwise_singleton _ _
   |cons y l ih =>
    intro p hp;have hp':(!ltCps y.cps.toList p.cps.toList&&risingS y l)=true:=hp;rw [Bool.and_eq_true] at hp';have i2:=ih y hp'.2;have hyp:¬ (y.cps.toList<p.cps.toList):=by have e:=hp'.1;rw [ltCps_eq] at e;simpa using e
    refine List.pairwise_cons.mpr ⟨fun z hz=>?_,i2⟩;rcases List.mem_cons.mp hz with rfl|hz
    ·exact hyp
    ·have hzy:=(List.pairwise_cons.mp i2).1 z hz;intro hlt;exact hyp (Std.lt_of_le_of_lt (Std.not_lt.mp hzy) hlt)
  exact key r x h
def Bp (K:Fg):List V->Hp->VK->Prop:=fun xs H Q=>∃(a:Addr)(ss:List Str),xs=[.ref a]/\(SqL K H a (ss.map V.str)∨∃ kvs,Rd H a (.dK kvs)/\kvs.map (·.1)=ss.map Sum.inr)/\ss.length<64 /\
 ∀ l ss',H l=none->ss'.Perm ss->XS ss'->Q (.ref l) (v8 H l (.lst (ss'.map V.str)))
theorem BV:∀{ss:List Str}{us:List Value},Vals (ss.map V.str) us->StrsAre us ss
 |[],_,.nil=> .nil
 |x::_,_,.cons ⟨t,e⟩ r=>by subst e;exact .cons x t (BV r)
theorem YA:∀{us:List Value}{ss:List Str},StrsAre us ss->Vals (ss.map V.str) us
 |_,_,.nil=> .nil
 |_,_,.cons x t r=> .cons ⟨t,rfl⟩ (YA r)
theorem MT:∀{kvs:List (j5×V)}{vs:List (j5×Value)}{ss:List Str},KV kvs vs->kvs.map (·.1)=ss.map Sum.inr->vs.map (·.1)=ss.map Sum.inr:=by
 intro kvs vs ss r e;rw [<- e];clear e
 induction r with
 |nil=>rfl
 |cons p _ ih=>rw [List.map_cons,List.map_cons,ih,p.1]
theorem Mx {P:Program}{w:World}{vs:List (j5×Value)}{ss:List Str}{acc:Array Value}(e:vs.map (·.1)=ss.map Sum.inr)(h:ItemsOf (fun i v=>∃ k x,vs[i]?=some (k,x)/\(qF P w).is k v=true) acc vs.length):StrsAre acc.toList ss:=by
 have hl:vs.length=ss.length:=by have:=congrArg List.length e;rwa [List.length_map,List.length_map] at this
 have h0:∀ v∈acc.toList,∃ x t,v = .str x t:=by
  intro v hv;obtain ⟨i,hi,rfl⟩:=List.getElem_of_mem hv;obtain ⟨k,x,hk,his⟩:=h.2 i acc.toList[i] (by simp at hi ⊢);have hk2:(vs.map (·.1))[i]?=some k:=by rw [List.getElem?_map,hk];rfl
  rw [e,List.getElem?_map] at hk2;obtain ⟨z,_,rfl⟩:=Option.map_eq_some_iff.mp hk2;cases hv2:acc.toList[i] with
  |str y t=>exact ⟨y,t,rfl⟩
  |_=>rw [hv2] at his;cases his
 have h1:=strsAre_map acc.toList h0;have e2:acc.toList.map strOf=ss:=by
  apply List.ext_getElem?;intro i;rw [List.getElem?_map];by_cases hi:i<acc.size
  ·obtain ⟨k,x,hk,his⟩:=h.2 i acc[i] (Array.getElem?_eq_getElem hi);have hk2:(vs.map (·.1))[i]?=some k:=by rw [List.getElem?_map,hk];rfl
   rw [e,List.getElem?_map] at hk2;obtain ⟨z,hz,rfl⟩:=Option.map_eq_some_iff.mp hk2;obtain ⟨y,t,hy⟩:=h0 acc[i] (by simp);rw [hy] at his;have:y=z:=by have q:vJ (Sum.inr z) (.str y t)=true:=his;have q2:=Kd y t;have q3:=(qF P w).inj (.str y t) (Sum.inr z) (Sum.inr y) his (WE P w y t);injection q3 with q3;exact q3.symm
   rw [hz,Array.getElem?_toList,Array.getElem?_eq_getElem hi,hy,<- this];rfl
  ·have h1:=h.1;rw [List.getElem?_eq_none (by simp;omega),List.getElem?_eq_none (by omega)];rfl
 rw [e2] at h1;exact h1
theorem SO {A:Around}{E:Value->Shared->Prop}{s:Shared}{vs:List Value}{ss:List Str}{Q:Value->Shared->Prop}{P:Program}{w:World}(hS:StrsAre vs ss)(h64:vs.length<64)(h:∀ (h':Heap) (out:List Value) (ss':List Str) (e:Nat),(∀ b o,s.heap.get? b=some o->h'.get? b=some o)->h'.get? s.heap.objs.size=some (seqObj "list" out.toArray e)->StrsAre out ss'->ss'.Perm ss->sortedS ss'=true->Q (.ref s.heap.objs.size) { s with heap:=h' }):wpAny (model P w) A (newList vs >>= fun l=>holding [l] (call (.builtin "list.sort") [l]) >>= fun _=>pure l) Q E s:=by
 refine wpAny_bind (wpAny_newList ?_);have ho:(s.heap.push (seqObj "list" vs.toArray 0)).get? s.heap.objs.size=some (seqObj "list" vs.toArray 0):=Heap.get?_push_size _ rfl;refine wpAny_bind (wpAny_holding (wpAny_call_entry slot_list_sort (s:={ s with heap:=s.heap.push (seqObj "list" vs.toArray 0) }) ⟨_,ho,rfl⟩ entry_list_sort
  (list_sort_treeK strKind_oneLt (s:={ s with heap:=s.heap.push (seqObj "list" vs.toArray 0) }) ho hS.keysOf (fun v1 v2 rest e=>keyKind_strs (by rw [<- e];exact hS)) h64 fun st p1 p2=>⟨_,rfl,?_⟩) (args_list_sort _)))
 obtain ⟨ss',a1,a2,a3⟩:=sorted_out_str hS p1 p2;obtain ⟨e,he⟩:=sortedHeap_at (out:=(arrOf st).map (·.2)) ho;refine wpAny_pure (h _ _ ss' e (fun b o hb=>?_) (by rw [Array.toArray_toList];exact he) a1 a2 a3);have hlt:=Heap.lt_size hb;rw [sortedHeap_old (Nat.ne_of_lt hlt) (by rw [Heap.size_push];exact Nat.lt_succ_of_lt hlt)];exact Heap.get?_push_of_some _ hb
theorem Tm {A:Around}{E:Value->Shared->Prop}{s:Shared}{vs:List Value}{ss:List Str}{Q:Value->Shared->Prop}{P:Program}{w:World}(hS:StrsAre vs ss)(h64:vs.length<64)(h:∀ (h':Heap) (out:List Value) (ss':List Str) (e:Nat),(∀ b o,s.heap.get? b=some o->h'.get? b=some o)->h'.get? s.heap.objs.size=some (seqObj "list" out.toArray e)->StrsAre out ss'->ss'.Perm ss->sortedS ss'=true->Q (.ref s.heap.objs.size) { s with heap:=h' }):wpAny (model P w) A (newList vs >>= fun l=>holding [l] (call (.builtin "list.sort") [l] []) >>= fun _=>ret l) (fun fin s'=>∃ v,fin=PySem.Fin.done (.ret v)/\Q v s') E s:=by
 refine wpAny_bind (wpAny_newList ?_);have ho:(s.heap.push (seqObj "list" vs.toArray 0)).get? s.heap.objs.size=some (seqObj "list" vs.toArray 0):=Heap.get?_push_size _ rfl;refine wpAny_bind (wpAny_holding (wpAny_call_entry slot_list_sort (s:={ s with heap:=s.heap.push (seqObj "list" vs.toArray 0) }) ⟨_,ho,rfl⟩ entry_list_sort
  (list_sort_treeK strKind_oneLt (s:={ s with heap:=s.heap.push (seqObj "list" vs.toArray 0) }) ho hS.keysOf (fun v1 v2 rest e=>keyKind_strs (by rw [<- e];exact hS)) h64 fun st p1 p2=>⟨_,rfl,?_⟩) (args_list_sort _)))
 obtain ⟨ss',a1,a2,a3⟩:=sorted_out_str hS p1 p2;obtain ⟨e,he⟩:=sortedHeap_at (out:=(arrOf st).map (·.2)) ho;refine wpAny_pure ⟨_,rfl,h _ _ ss' e (fun b o hb=>?_) (by rw [Array.toArray_toList];exact he) a1 a2 a3⟩;have hlt:=Heap.lt_size hb;rw [sortedHeap_old (Nat.ne_of_lt hlt) (by rw [Heap.size_push];exact Nat.lt_succ_of_lt hlt)];exact Heap.get?_push_of_some _ hb
theorem VF {K:Fg}(hc:X.calm=true)(hK:X.K=K):CallR X (.builtin "sorted") (Bp K):=by
 subst hK;intro pins s Z H xs us Q I r h;obtain ⟨a,ss,rfl,hq,h64,q⟩:=h;obtain ⟨u,rfl,ru⟩:=zH r;obtain rfl:u=Value.ref a:=ru;rcases hq with hq|⟨kvs,hq,hk⟩
 ·obtain ⟨its,rv,p,hz⟩:=I.list hq;have hS:=BV rv;have hl:its.length=ss.length:=by have e:=rv.length;rw [List.length_map] at e;exact e.symm
  refine sorted_strs p.isList hS (by omega) fun out ss' a1 a2 a3=>?_;obtain ⟨e,he⟩:=sortedAll_at s.heap its out;refine ⟨.ref _,_,I.laid (t':=s.toks) (o:= .lst (ss'.map V.str)) (fun b o hb=>sortedAll_old hb) (Nat.le_succ _) ?_,rfl,q _ ss' (I.hok.fresh (Nat.le_succ _)) a2 (BQ a3)⟩;exact ⟨by rw [List.length_map,a2.length_eq];exact Nat.le_of_lt (QA (by omega)),out.toList,e,YA a1,by simpa [seqObj] using he⟩
 ·obtain ⟨z,hd,vs,rel,dd⟩:=wO I.hok hq;obtain ⟨ep,hat⟩:=dd.dictAt;have ek:=MT rel hk;have hvl:vs.length=ss.length:=by have:=congrArg List.length ek;rwa [List.length_map,List.length_map] at this
  refine Calls.call_function_entry (id := "sorted") kind_sorted plain_sorted entry_sorted (args_sorted1 _) ?_;unfold Builtin.«sorted»;refine wpAny_bind (m:=checkCount "sorted" 1 1 _) (wpAny_pure ?_);refine wpAny_bind (PySem.W.kdu_collect (PySem.W.kdl_dict (knd:=qF X.prog X.w) (kvs:=vs) (ep:=ep) hd) (by simpa using I.ok.hd hc) hat (Nat.le_of_lt (QA (by omega))) fun h1 tk acc k1 hacc=>?_);have hS:=Mx ek hacc;have hal:acc.toList.length=ss.length:=by have:=hacc.1;simp;omega
  refine Tm (s:={ s with heap:=h1,toks:=tk }) hS (by omega) fun h' out ss' e k2 he a1 a2 a3=>?_;have I1:Inv X pins Z H { s with heap:=h1,toks:=tk }:=I.kept (t':=tk) k1;refine ⟨.ref _,_,I1.laid (t':=tk) (o:= .lst (ss'.map V.str)) k2 (Nat.le_refl _) ?_,rfl,q _ ss' (I1.hok.fresh (Nat.le_refl _)) a2 (BQ a3)⟩;exact ⟨by rw [List.length_map,a2.length_eq];exact Nat.le_of_lt (QA (by omega)),out,e,YA a1,he⟩
end
end L2
namespace L2
open PySem PySem.Spec PySem.Calls
section
variable {P:Program}{w:World}{A:Around}{E:Value->Shared->Prop}
theorem Lg:typeLookup (.type "list") "keys"=pure none:=am_miss_of_fast (by kernel_rfl)
theorem Le:typeLookup (.type "list") "__getattr__"=pure none:=am_miss_of_fast (by kernel_rfl)
theorem DK {hp:Heap}{g:Array GenState}{d:Drawn}{tk:Nat}{os:_}{a:Addr}{its:Array Value}{n:Nat}{u:Tok}{Q:PySem.Fin->Shared->Prop}(ho:hp.get? a=some { cls:= .type "list",data:= .seq its n })(hh:A.handled=none)(h:∀ h' tk' e,Heap.NewAttrErr hp h' e (.ref a) "keys"->E (.ref e) ⟨h',g,d,tk',os⟩):wpAny (model P w) A (Builtin.«object.__getattribute__» ⟨[.ref a,.str "keys" u],[]⟩) Q E ⟨hp,g,d,tk,os⟩:=by
 have hT:(⟨hp,g,d,tk,os⟩:Shared).TypeIs (.ref a) "list":=⟨_,ho,rfl⟩;have f0:=Lg;unfold Builtin.«object.__getattribute__»
 (repeat (any_goals (first|assumption|wp_step)))
 exact wpAny_raiseAttrError (s:=⟨hp,g,d,tk,os⟩) hh h (attrMsg_fits (by decide +kernel) (by decide +kernel))
theorem Ch {s:Shared}{a:Addr}{its:Array Value}{n:Nat}{Q:Option Value->Shared->Prop}(ho:s.heap.get? a=some { cls:= .type "list",data:= .seq its n })(hh:A.handled=none)(h:∀ h' tk,(∀ b o,s.heap.get? b=some o->h'.get? b=some o)->Q none { s with heap:=h',toks:=tk }):wpAny (model P w) A (getAttr? (.ref a) "keys") Q E s:=by
 obtain ⟨hp,g,d,tk,os⟩:=s;have hT:∀ t',(⟨hp,g,d,t',os⟩:Shared).TypeIs (.ref a) "list":=fun _=>⟨_,ho,rfl⟩;have f1:=sub_AttributeError;have f2:=PySem.F.slot_list_getattribute.lookup;have f3:=PySem.F.slot_list_getattribute.bind (.ref a);have f5:=Le;unfold getAttr? getAttrBy? getAttrBy
 (repeat (any_goals (first|assumption|exact hT _|wp_step)))
 refine codeAny_call_builtin PySem.F.slot_list_getattribute.plain PySem.F.entry_list_ga (PySem.F.slot_list_getattribute.check _ _ _ _ _ _ _ _ (hT _) (PySem.F.args_list_getattribute_2 _ _) (DK ho (by simpa using hh) fun h' tk' e hx=>?_));obtain ⟨t',u',he⟩:=hx.there;have hk:=hx.keeps;show wpAny _ _ (getattributeRaised _ _ _ _ _ _ _) _ _ _;unfold getattributeRaised
 (repeat (any_goals (first|assumption|wp_step)))
 exact h _ _ hk
end
end L2
namespace L2
open PySem PySem.Spec PySem.Calls PyProof.Rows
theorem Cz:bootBuiltins "set"=some (.type "set"):=by decide +kernel
section
variable {P:Program}{w:World}{A:Around}{R:Result->Shared->Prop}{I:Addr}{fp wr:List Addr}{n:Nat}{Pp:Nat->Value->Prop}{St:Nat->Heap->Prop}
abbrev dfl:List (Str×Value):=[(Str.ofString "default",Value.none)]
theorem Ly (W:Walks P w A.in1 I fp wr n Pp St)(bt:Nat->Nat->Bool)(hcmp:CmpOf P w A.in1 .Gt Pp bt)(a:Addr)(ha:a∉fp):∀ (m j:Nat) (s:Shared) (vb:Value) (c:Nat),n-(j+1)=m->j+1<=n->St (j+1) s.heap->Pp (argBest bt j) vb -> s.heap.get? a=some { cls:= .type "list",dict:=none,data:= .seq #[vb,vb] c,slots:=#[] } -> (∀ v h' tk,Pp (argBest bt (n-1)) v->(∀ b o,b∉wr->b≠a->s.heap.get? b=some o->h'.get? b=some o)->R (.ok (.ret v)) { s with heap:=h',toks:=tk }) -> codeAny (model P w) A (.builtin "max.loop" ⟨[.ref I,.none,.ref a],dfl⟩) R s:=by
 have haw:a∉wr:=fun z=>ha (W.sub _ z);have nm:(toString "max"++toString ".loop":String) = "max.loop":=by decide
 intro m
 induction m with
 |zero =>
  intro j s vb c hm hj st hP hS hR;have hin:j+1=n:=by omega
  refine codeAny_builtin PySem.F.entry_max_loop ?_;rw [Around.under_plainId PySem.F.plain_max_loop _];show wpAny _ A.in1 (seqItems? (.ref a) >>= _) _ _ s;refine wpAny_bind (wpAny_seqItems hS rfl ?_);show wpAny _ A.in1 (tryCatch (pyNext (.ref I)) _ >>= _) _ _ s;refine wpAny_bind (wpAny_tryCatch (W.done s _ _ (hin▸st) fun h' tk kk=>?_));have hS':=kk a _ haw hS;show wpAny _ A.in1 (updateSeq a (fun _=>#[]) >>= _) _ _ _;refine wpAny_bind (wpAny_updateSeq hS' rfl (wpAny_bind (wpAny_letGo (wpAny_pure ?_))));exact hR vb _ tk (by rw [<- hin];exact hP) fun b o z1 z2 e=>(Heap.get?_update_other _ _ (Ne.symm z2)).trans (kk b o z1 e)
 |succ m ih =>
  intro j s vb c hm hj st hP hS hR;have hlt:j+1<n:=by omega
  refine codeAny_builtin PySem.F.entry_max_loop ?_;rw [Around.under_plainId PySem.F.plain_max_loop _];show wpAny _ A.in1 (seqItems? (.ref a) >>= _) _ _ s;refine wpAny_bind (wpAny_seqItems hS rfl ?_);show wpAny _ A.in1 (tryCatch (pyNext (.ref I)) _ >>= _) _ _ s;refine wpAny_bind (wpAny_tryCatch (W.item (j+1) s _ _ hlt st fun v h' tk hPv st' kk=>?_));have hS':=kk a _ haw hS;show wpAny _ A.in1 (tryCatch (holding [v,v] (richCompare .Gt v vb >>= _)) _ >>= _) _ _ _;refine wpAny_bind (wpAny_tryCatch (wpAny_holding (wpAny_bind (hcmp (j+1) (argBest bt j) v vb _ _ _ hPv hP (wpAny_bind (wpAny_holding (wpAny_truthy_bool (wpAny_bind (wpAny_letGo (wpAny_pure ?_))))))))));cases hb:bt (j+1) (argBest bt j) with
  |true =>
   simp only [if_true];refine wpAny_bind (wpAny_updateSeq hS' rfl (wpAny_bind (wpAny_letGo ?_)));rw [nm];refine wpAny_pure ⟨plainId_quiet PySem.F.plain_max_loop _,ih (j+1) _ v _ (by omega) hlt (W.frame _ _ _ st' fun b z o e=>?_) (by simp only [argBest,hb,if_true];exact hPv) (Heap.get?_update_self _ hS' rfl) fun v' h2 tk2 hP2 k2=>?_⟩
   ·exact (Heap.get?_update_other _ _ (fun q:a=b=>ha (by rw [q];exact z))).trans e
   ·exact hR v' h2 tk2 hP2 fun b o z1 z2 e=>k2 b o z1 z2 ((Heap.get?_update_other _ _ (Ne.symm z2)).trans (kk b o z1 e))
  |false=>simp only [Bool.false_eq_true,if_false];refine wpAny_bind (wpAny_letGo ?_);rw [nm];refine wpAny_pure ⟨plainId_quiet PySem.F.plain_max_loop _,ih (j+1) _ vb c (by omega) hlt st' (by simp only [argBest,hb,Bool.false_eq_true,if_false];exact hP) hS' fun v' h2 tk2 hP2 k2=>?_⟩;exact hR v' h2 tk2 hP2 fun b o z1 z2 e=>k2 b o z1 z2 (kk b o z1 e)
theorem Lx (W:Walks P w A.in1 I fp wr n Pp St)(bt:Nat->Nat->Bool)(hcmp:CmpOf P w A.in1 .Gt Pp bt)(a:Addr)(ha:a∉fp){s:Shared}{c:Nat}(st:St 0 s.heap)(hS:s.heap.get? a=some { cls:= .type "list",dict:=none,data:= .seq #[] c,slots:=#[] })(hR:∀ v h' tk,(if n=0 then v = .none else Pp (argBest bt (n-1)) v)->(∀ b o,b∉wr->b≠a->s.heap.get? b=some o->h'.get? b=some o)->R (.ok (.ret v)) { s with heap:=h',toks:=tk }):codeAny (model P w) A (.builtin "max.loop" ⟨[.ref I,.none,.ref a],dfl⟩) R s:=by
 have haw:a∉wr:=fun z=>ha (W.sub _ z);have nm:(toString "max"++toString ".loop":String) = "max.loop":=by decide
 refine codeAny_builtin PySem.F.entry_max_loop ?_;rw [Around.under_plainId PySem.F.plain_max_loop _];show wpAny _ A.in1 (seqItems? (.ref a) >>= _) _ _ s;refine wpAny_bind (wpAny_seqItems hS rfl ?_);show wpAny _ A.in1 (tryCatch (pyNext (.ref I)) _ >>= _) _ _ s;by_cases hn:n=0
 ·subst hn;refine wpAny_bind (wpAny_tryCatch (W.done s _ _ st fun h' tk kk=>?_));show wpAny _ A.in1 (rule _ >>= _) _ _ _;refine wpAny_bind (wpAny_rule ?_);exact wpAny_pure (hR .none h' tk (by rw [if_pos rfl]) fun b o z1 _ e=>kk b o z1 e)
 ·refine wpAny_bind (wpAny_tryCatch (W.item 0 s _ _ (by omega) st fun v h' tk hPv st' kk=>?_));have hS':=kk a _ haw hS;show wpAny _ A.in1 (updateSeq a (fun _=>#[v,v]) >>= _) _ _ _;refine wpAny_bind (wpAny_updateSeq hS' rfl ?_);rw [nm];refine wpAny_pure ⟨plainId_quiet PySem.F.plain_max_loop _,Ly W bt hcmp a ha _ 0 _ v _ rfl (by omega) (W.frame _ _ _ st' fun b z o e=>?_) hPv (Heap.get?_update_self _ hS' rfl) fun v' h2 tk2 hP2 k2=>?_⟩
  ·exact (Heap.get?_update_other _ _ (fun q:a=b=>ha (by rw [q];exact z))).trans e
  ·exact hR v' h2 tk2 (by rw [if_neg hn];exact hP2) fun b o z1 z2 e=>k2 b o z1 z2 ((Heap.get?_update_other _ _ (Ne.symm z2)).trans (kk b o z1 e))
end
section
variable {P:Program}{w:World}{A:Around}{E:Value->Shared->Prop}{s:Shared}{l:Addr}{xs:Array (Int×Tok)}
theorem Cd (v:Value):argsOk "max" ⟨[v],[(Str.ofString "default",Value.none)]⟩:=by unfold argsOk;kernel_rfl
theorem CD:Builtin.Builtins.bindParams "max" ["key", "default"] 0 ⟨[],[(Str.ofString "default",Value.none)]⟩=pure [none,some Value.none]:=by kernel_rfl
theorem Lv {Q:Value->Shared->Prop}(hh:A.handled=none)(hl:s.heap.IsList l (intItems xs))(h:∀ v h' tk,(if xs.size=0 then v = .none else (intItems xs)[argBest (fun i j=>decide (numAt xs i > numAt xs j)) (xs.size-1)]?=some v)->(∀ b o,s.heap.get? b=some o->h'.get? b=some o)->Q v { s with heap:=h',toks:=tk }):wpAny (model P w) A (call (.builtin "max") [.ref l] [(Str.ofString "default",Value.none)]) Q E s:=by
 have nm:(toString "max"++toString ".loop":String) = "max.loop":=by decide
 refine kmb_tree PySem.F.kind_max PySem.F.plain_max PySem.F.entry_max (Cd _) ?_;show wpAny _ A.in1 (Builtin.Builtins.bindParams "max" ["key", "default"] 0 ⟨[],[(Str.ofString "default",Value.none)]⟩ >>= _) _ _ s;refine wpAny_bind (wpAny_of_eq CD ?_);refine wpAny_bind (wpAny_pure ?_);refine wpAny_bind (iter_intList hl fun s2 e st hfp hlI=>?_);subst e;refine wpAny_bind (wpAny_newObj_type ?_);have hSf:=fun hm=>Nat.lt_irrefl _ (hfp _ hm);rw [nm];refine wpAny_pure ⟨plainId_quiet PySem.F.plain_max_loop _,Lx (Walks.list (A:=A.in1) hh _ l hlI (intItems xs)) _ (CmpOf.ints_gt (numAt xs) (fun _ _=>intItems_at)) _ hSf (((Walks.list (prog:=P) (w:=w) (A:=A.in1) hh _ l hlI (intItems xs))).frame _ _ _ st fun b _ o e=>Heap.get?_push_of_some _ e) (Heap.get?_push_size _ rfl) fun v h' tk hP kk=>?_⟩;refine h v h' tk (by simpa [intItems] using hP) fun b o e=>?_;have hlt:=Heap.lt_size e;refine kk b o (by simp only [List.mem_singleton];exact Nat.ne_of_lt hlt) ?_ (Heap.get?_push_of_some _ (Heap.get?_push_of_some _ e));rw [Heap.size_push];exact Nat.ne_of_lt (Nat.lt_succ_of_lt hlt)
end
end L2
namespace L2
open PySem PySem.Spec PySem.Calls PyProof.Rows
section
variable {X:Cx}
def BZ (K:Fg)(t:TA):TE:=fun Z H Q=>t Z H fun vs H1=>∃(a:Addr)(ns:List Int),vs=[.ref a]/\SqL K H1 a (ns.map V.int)/\(ns=[]->Q .non H1)/\(ns≠[]->∀ m,m∈ns->(∀ y∈ns,y<=m)->Q (.int m) H1)
theorem Hl {K:Fg}{e:Expr}{t:TA}{p pos kp cp:Pos}{ct:Nat}(hK:X.K=K)(hc:X.calm=true)(hg:Gl X "max")(hm:X.mg "max"=none)(ha:PA X [e] t)(hs:backTo pos (starEach [e] X.env)=(false,eval e X.env)::backTo pos (starEach [] X.env):=by rfl)(hpl:(backTo pos (starEach [e] X.env)).any (·.1)=false:=by rfl):PE X (.Call (.Name "max" p) [e] [⟨some "default",.Constant .none ct cp,kp⟩] pos) (BZ K t):=by
 subst hK;intro pins s Z H Q I h;refine wpAny_Call_Name_kw (jG I hg hm Cw ?_ (by decide) (by decide));refine PyProof.Rows.callWith_kw (j6 (ha pos pins s Z H _ I h) fun us s1 ⟨vs,H1,I1,r1,q1⟩=>?_) hs hpl;refine PyProof.Rows.kws_cons (Constant_none (PyProof.Rows.kws_nil ?_));obtain ⟨a,ns,rfl,hq,qe,qn⟩:=q1;obtain ⟨u,rfl,ru⟩:=zH r1;obtain rfl:u=Value.ref a:=ru;obtain ⟨its,rv,pl,hz⟩:=I1.list hq;obtain ⟨ys,ey,el,en⟩:=Mh rv;have hl:s1.heap.IsList a its.toArray:=pl.isList;rw [ey] at hl;show wpAny _ _ (call (.builtin "max") [.ref a] [(Str.ofString "default",Value.none)]) _ _ _;refine Lv (I1.ok.hd hc) hl fun v h' tk hv k=>?_;by_cases hne:ns=[]
 ·have hz0:ys.size=0:=by rw [el,hne];rfl
  rw [if_pos hz0] at hv;subst hv;exact ⟨.non,H1,I1.kept (t':=tk) k,rfl,qe hne⟩
 ·have hp:0<ns.length:=List.length_pos_iff.mpr hne;rw [if_neg (by omega)] at hv;obtain ⟨t,rfl⟩:=intItems_at hv;obtain ⟨h1,h2⟩:=argBest_gt (numAt ys) (ys.size-1);exact ⟨.int _,H1,I1.kept (t':=tk) k,⟨t,rfl⟩,qn hne _ (Co en (by omega)) (Cn en fun j hj=>h2 j (by omega))⟩
end
section
variable {P:Program}{w:World}{κ:Type}[DecidableEq κ]{knd:PySem.KeyKind P w κ}
theorem GD:entryFor table "dict.update.loop"=some Builtin.«dict.update.loop»:=entryFor_of_tree (by kernel_rfl)
theorem Ja:plainId "dict.update.loop"=true:=by decide +kernel
theorem Dk {A:Around}{R:Result->Shared->Prop}{I:Addr}{fp wr:List Addr}{Pp:Nat->Value->Prop}{St:Nat->Heap->Prop}{more:List (κ×Value)}{lo:Addr}(W:Walks P w A.in1 I fp wr more.length Pp St)(d:Addr)(hdf:d∉fp)(hlo:lo<=d)(hwr:∀ b∈wr,lo<=b)(hsz:more.length<=sizeLine):∀ (m i:Nat) (z:Int) (tk:Tok) (s:Shared),more.length-i=m->i<=more.length->St i s.heap->s.heap.DictOf knd d (merged [] (more.take i)) -> (∀ j v kv,Pp j v->more[j]?=some kv->∃ t k,t<lo/\v = .ref t/\knd.is kv.1 k=true/\IsTup s.heap t #[k,kv.2]) -> (∀ h' tk',(∀ b o,b<lo->s.heap.get? b=some o->h'.get? b=some o)->h'.DictOf knd d (merged [] more)->R (.ok (.ret .none)) { s with heap:=h',toks:=tk' }) -> codeAny (model P w) A (.builtin "dict.update.loop" ⟨[.ref d,.ref I,.int z tk,.none],[]⟩) R s:=by
 have hdw:d∉wr:=fun q=>hdf (W.sub _ q);intro m
 induction m with
 |zero =>
  intro i z tk s hm hi st hd hp hR;have hin:i=more.length:=by omega
  subst hin;refine codeAny_builtin GD ?_;rw [Around.under_plainId Ja _];show wpAny _ A.in1 (pyNext (.ref I) >>= _) _ _ s;refine wpAny_bind (W.done s _ _ st fun h' tk' k=>?_);show wpAny _ A.in1 (Builtin.Dict.addKeywords d [] >>= _) _ _ _;refine wpAny_bind (wpAny_pure ?_);refine wpAny_pure (hR h' tk' (fun b o hb e=>k b o (fun q=>absurd (hwr b q) (Nat.not_le.mpr hb)) e) ?_);rw [List.take_length] at hd;obtain ⟨o,es,ep,ho,r⟩:=hd;exact ⟨o,es,ep,k d o hdw ho,r⟩
 |succ m ih =>
  intro i z tk s hm hi st hd hp hR;have hlt:i<more.length:=by omega
  refine codeAny_builtin GD ?_;rw [Around.under_plainId Ja _];show wpAny _ A.in1 (pyNext (.ref I) >>= _) _ _ s;refine wpAny_bind (W.item i s _ _ hlt st fun v h' tk' hPv st' k=>?_);obtain ⟨t,kk,ht,rfl,hk,o,ho,hc,n,hdt⟩:=hp i v more[i] hPv (List.getElem?_eq_getElem hlt);have ho':h'.get? t=some o:=k t o (fun q=>absurd (hwr t q) (Nat.not_le.mpr ht)) ho;have hd':h'.DictOf knd d (merged [] (more.take i)):=by obtain ⟨o,es,ep,ho,r⟩:=hd;exact ⟨o,es,ep,k d o hdw ho,r⟩
  have hT:Shared.TypeIs { s with heap:=h',toks:=tk' } (.ref t) "tuple":=⟨o,ho',hc⟩;show wpAny _ A.in1 (holding [.ref t] _ >>= _) _ _ _;refine wpAny_bind (wpAny_holding (wpAny_bind (wpAny_tryCatch ?_)));unfold Builtin.Dict.pairItems;refine wpAny_bind (wpAny_typeOf hT ?_);rw [if_pos (by decide)];refine wpAny_bind (wpAny_seqItems ho' hdt (wpAny_pure ?_));show wpAny _ A.in1 (holding [kk,more[i].2] (dictSet d kk more[i].2)) _ _ _;refine wpAny_holding (wpAny_dictSet_pairs (knd:=knd) hk hd' (fun h2 hd2 sb=>?_) ?_)
  ·rw [<- merged_take_succ [] more i more[i] (List.getElem?_eq_getElem hlt)] at hd2;have keep2:∀ b o,b<lo->s.heap.get? b=some o->h2.get? b=some o:=fun b o hb e=>by
    rw [sb.2 b (Nat.ne_of_lt (Nat.lt_of_lt_of_le hb hlo))];exact k b o (fun q=>absurd (hwr b q) (Nat.not_le.mpr hb)) e
   refine wpAny_pure ⟨plainId_quiet Ja _,ih (i+1) _ _ _ (by omega) hlt (W.frame _ _ _ st' fun b hb o e=>?_) hd2 (fun j v kv hv hj=>?_) fun h3 tk3 k3 hd3=>?_⟩
   ·rw [sb.2 b (fun q=>hdf (by rw [<- q];exact hb))];exact e
   ·obtain ⟨t,kk,ht,rfl,hk,o,ho,r⟩:=hp j v kv hv hj;exact ⟨t,kk,ht,rfl,hk,o,keep2 t o ht ho,r⟩
   ·exact hR h3 tk3 (fun b o hb e=>k3 b o hb (keep2 b o hb e)) hd3
  ·have:=merged_length_le [] (more.take i);rw [List.length_take,List.length_nil] at this;omega
theorem CG {A:Around}{E:Value->Shared->Prop}{s:Shared}{l:Addr}{its:Array Value}{n:Nat}{more:List (κ×Value)}{Q:Value->Shared->Prop}(hh:A.handled=none)(ho:s.heap.get? l=some { cls:= .type "list",data:= .seq its n })(hlen:its.size=more.length)(hsz:more.length<=sizeLine)(hp:∀ (j:Nat) (v:Value) (kv:κ×Value),its[j]?=some v->more[j]?=some kv->∃ t k,v = .ref t/\knd.is kv.1 k=true/\IsTup s.heap t #[k,kv.2])(h:∀ h' tk',(∀ b o,s.heap.get? b=some o->h'.get? b=some o)->h'.DictOf knd s.heap.objs.size (merged [] more)->Q (.ref s.heap.objs.size) { s with heap:=h',toks:=tk' }):wpAny (model P w) A (call (.type "dict") [.ref l]) Q E s:=by
 refine callType_codes (Q₁:=fun ob s1=>ob = .ref s.heap.objs.size/\s1={ s with heap:=s.heap.push { cls:= .type "dict",data:= .dict #[] } }) PySem.F.kt_called_dict (PySem.F.kt_typeCall_dict_1 _) PySem.F.entry_dict_init (kt_code_dict_new _ ⟨rfl,rfl⟩) ?_;rintro ob s1 ⟨rfl,rfl⟩;have hnew:(s.heap.push { cls:= .type "dict",data:= .dict #[] }).DictOf knd s.heap.objs.size []:=Heap.DictOf.new s.heap;have ho':(s.heap.push { cls:= .type "dict",data:= .dict #[] }).get? l=some { cls:= .type "list",data:= .seq its n }:=Heap.get?_push_of_some _ ho;have hTl:Shared.TypeIs { s with heap:=s.heap.push { cls:= .type "dict",data:= .dict #[] } } (.ref l) "list":=⟨_,ho',rfl⟩;have hlt:l<s.heap.objs.size:=Heap.lt_size ho;refine ⟨hnew.typeIs,PySem.F.args_dict_init_2 _ _,?_⟩;unfold Builtin.«dict.__init__»;refine wpAny_bind ?_;unfold Builtin.Dict.selfAndRest;refine wpAny_bind (wpAny_notOrdered_dict hnew.typeIs ?_);show wpAny _ _ (pure (s.heap.objs.size,[Value.ref l])) _ _ _;refine wpAny_pure ?_;show wpAny _ _ (Builtin.Dict.updateFrom "dict.__init__" s.heap.objs.size (.ref l) [] .none) _ _ _;unfold Builtin.Dict.updateFrom;refine wpAny_bind (wpAny_typeOf hTl ?_);rw [if_pos (by decide)];refine wpAny_bind (Ch ho' (by simpa using hh) fun h1 tk1 k1=>?_);rw [if_pos (show (none:Option Value).isNone=true from rfl)];refine wpAny_bind (wpAny_rule ?_);have ho1:=k1 _ _ ho';have hl1:h1.IsList l its:=⟨_,ho1,rfl,n,rfl⟩;refine wpAny_bind (wpAny_pyIter_list (s:={ s with heap:=h1,toks:=tk1 }) hl1 ?_);have hd1:h1.DictOf knd s.heap.objs.size []:=by obtain ⟨o,es,ep,hq,r⟩:=hnew;exact ⟨o,es,ep,k1 _ _ hq,r⟩
 have hdlt:s.heap.objs.size<h1.objs.size:=by obtain ⟨o,es,ep,hq,r⟩:=hd1;exact Heap.lt_size hq
 have hll:l<h1.objs.size:=Heap.lt_size ho1;refine wpAny_pure ⟨plainId_quiet Ja _,?_⟩;have W:=Walks.list (prog:=P) (w:=w) (A:=A.in1.in1) (by simpa using hh) h1.objs.size l (Nat.ne_of_lt hll) its;rw [hlen] at W;refine Dk (knd:=knd) (lo:=s.heap.objs.size) W s.heap.objs.size ?_ (Nat.le_refl _) (fun b hb=>?_) hsz more.length 0 _ _ { s with heap:=h1.push { cls:= .type "list_iterator",data:= .fields #[.ref l,.int 0 0] },toks:=tk1 } (by omega) (Nat.zero_le _) ⟨⟨_,Heap.get?_push_size _ rfl,rfl,rfl⟩,hl1.push _⟩ ?_ (fun j v kv hv hj=>?_) fun h' tk' kp hd=>?_
 ·simp only [List.mem_cons,List.not_mem_nil,or_false,not_or];exact ⟨Nat.ne_of_lt hdlt,Nat.ne_of_gt hlt⟩
 ·rw [List.mem_singleton.mp hb];exact Nat.le_of_lt hdlt
 ·obtain ⟨o,es,ep,hq,r⟩:=hd1;exact ⟨o,es,ep,Heap.get?_push_of_some _ hq,r⟩
 ·obtain ⟨t,k,rfl,hk,o,hto,r⟩:=hp j v kv hv hj;exact ⟨t,k,Heap.lt_size hto,rfl,hk,o,Heap.get?_push_of_some _ (k1 _ _ (Heap.get?_push_of_some _ hto)),r⟩
 ·exact ⟨rfl,h h' tk' (fun b o e=>kp b o (Heap.lt_size e) (Heap.get?_push_of_some _ (k1 _ _ (Heap.get?_push_of_some _ e)))) hd⟩
end
section
variable {X:Cx}
theorem Ha {pins:List (Addr×Obj)}{Z:St}{H:Hp}{s:Shared}(I:Inv X pins Z H s){ts:List Addr}{kvs:List (j5×V)}(r:Paired (fun t (kv:j5×V)=>H t=some (.tup [kV kv.1,kv.2])) ts kvs):∃ more:List (j5×Value),KV kvs more/\∀(j:Nat)(t:Addr)(m:j5×Value),ts[j]?=some t->more[j]?=some m->∃ k,(qF X.prog X.w).is m.1 k=true/\IsTup s.heap t #[k,m.2]:=by
 induction r with
 |nil=>exact ⟨[],.nil,fun j t m h=>by simp at h⟩
 |@cons t kv ts kvs p _ ih =>
  obtain ⟨more,k1,k2⟩:=ih;obtain ⟨_,its,rv,ht⟩:=(show ObjOk X.prog X.w H s.heap t (.tup [kV kv.1,kv.2]) from I.hok t _ p);cases rv with
  |cons p1 r1 =>
   cases r1 with
   |cons p2 r2 =>
    cases r2;rename_i u1 u2;refine ⟨(kv.1,u2)::more,.cons ⟨rfl,p2⟩ k1,fun j t' m h1 h2=>?_⟩;cases j with
    |zero=>simp at h1 h2;subst h1 h2;exact ⟨u1,QW p1,ht⟩
    |succ j=>exact k2 j t' m (by simpa using h1) (by simpa using h2)
theorem Pz:∀{ts:List Addr}{us:List Value},Vals (ts.map V.ref) us->us=ts.map Value.ref
 |[],_,.nil=>rfl
 |t::ts,_,.cons p r=>by
  obtain rfl:=(show _=Value.ref t from p);rw [Pz r];rfl
theorem YE:∀{kvs:List (j5×V)}{vs:List (j5×Value)},KV kvs vs->vs.map (·.1)=kvs.map (·.1)
 |[],_,.nil=>rfl
 |_::_,_,.cons p r=>by rw [List.map_cons,List.map_cons,YE r,p.1]
end
end L2
namespace L2
open PySem PySem.Spec PySem.Calls PyProof.Rows
theorem YD:∀{kvs:List (j5×V)}{vs:List (j5×Value)}{i:Nat}{k:j5}{x:V},KV kvs vs->kvs[i]?=some (k,x)->∃ u,vs[i]?=some (k,u)/\RelV x u
 |[],_,i,_,_,_,e=>by simp at e
 |_::_,_,0,k,x,.cons (b:=q) p _,e=>by
  simp at e;subst e;refine ⟨q.2,?_,p.2⟩;have e1:k=q.1:=p.1;rw [e1];rfl
 |_::_,_,i+1,k,x,.cons _ r,e=>by
  obtain ⟨u,h1,h2⟩:=YD (i:=i) (k:=k) (x:=x) r (by simpa using e);exact ⟨u,by simpa using h1,h2⟩
def Itv (a:Addr)(o:Obj)(kvs:List (j5×V)):It :=
 ⟨fun i H=>H a=some (.frz o (.dK kvs))/\i<kvs.length,fun i H x H'=>H'=H/\∃ k,kvs[i]?=some (k,x),fun i H=>H a=some (.frz o (.dK kvs))/\kvs.length<=i⟩
theorem Zr {P:Program}{w:World}{H:Hp}{h:Heap}{a:Addr}{o:Obj}{es:Array DictEntry}{ep:Nat}{kvs:List (j5×V)}(ok:HOk P w H h)(e:H a=some (.frz o (.dK kvs)))(hd:o.data = .dict es ep):(a==sysModules)=false/\∃ vs,KV kvs vs/\h.DictAt (qF P w) a vs ep:=by obtain ⟨h1,h2,h3,vs,r,o',es',ep',h4,h5,h6,h7⟩:=(show ObjOk P w H h a (.frz o (.dK kvs)) from ok a _ e);rw [h1] at h4;cases h4;rw [hd] at h6;cases h6;exact ⟨h3,vs,r,o,es,h1,h5,hd,h7⟩
theorem TH {P:Program}{w:World}{K:Fg}{tg:Expr}(a it:Addr){o:Obj}{es:Array DictEntry}{ep:Nat}(kvs:List (j5×V))(hd:o.data = .dict es ep):Turn P w K tg (Itv a o kvs) [it] it (fun i h=>h.IsValIter it a i kvs.length ep) where
 mem:=by simp
 obj:=fun i h st b hb=>by
  have e:b=it:=by simpa using hb
  subst e;obtain ⟨o,e,c,d⟩:=st;exact ⟨o,e,fun v z=>by rw [d] at z;cases z⟩
 keep:=fun i h h' st k=>by
  obtain ⟨o,e,c,d⟩:=st;exact ⟨o,k it (by simp) o e,c,d⟩
 item:=by
  intro X hP hw hK hc i pins s Z H E I hf st hg;subst hP hw hK;obtain ⟨hq,hl⟩:=hg;obtain ⟨_,vs,r,hm⟩:=Zr I.hok hq hd;have lv:vs.length=kvs.length:=(KV.length r).symm;obtain ⟨u,hu,ru⟩:=YD (i:=i) (k:=kvs[i].1) (x:=kvs[i].2) r (List.getElem?_eq_getElem hl);obtain ⟨f0,f1,f2,f3,f4,f5⟩:=hf it (by simp);have st1:s.heap.IsValIter it a i vs.length ep:=by rw [lv];exact st
  refine wpAny_pyNext_values_item st1 hm hu fun h' st' sb=>?_;have I1:Inv X pins Z H { s with heap:=h' }:=I.turned (t':=s.toks) (fun b o hb e=>(sb.2 b hb).trans e) f0 f1 f3 f4 f5;rw [lv] at st';obtain ⟨o1,e1,c1,d1⟩:=id st';exact ⟨u,rfl,QT (s:={ s with heap:=h' }) e1 c1 d1 (by decide) ⟨kvs[i].2,H,I1,ru,⟨rfl,kvs[i].1,List.getElem?_eq_getElem hl⟩,st',fun b hb=>(hf b hb).1⟩⟩
 done:=by
  intro X hP hw hK hc i pins s Z H E I hf st hg;subst hP hw hK;obtain ⟨hq,hl⟩:=hg;obtain ⟨_,vs,r,hm⟩:=Zr I.hok hq hd;have lv:vs.length=kvs.length:=(KV.length r).symm;obtain ⟨f0,f1,f2,f3,f4,f5⟩:=hf it (by simp);have st1:s.heap.IsValIter it a i vs.length ep:=by rw [lv];exact st
  exact wpAny_pyNext_values_end (I.ok.hd hc) st1 hm (List.getElem?_eq_none (by omega)) fun h' eb=>⟨rfl,I.turned (t':=s.toks) (fun b o hb e=>eb b o hb e) f0 f1 f3 f4 f5⟩
 self:=fun _ _ _ _ _ st h=>wpAny_pyIter_valiter st h
section
variable {X:Cx}{tg:Expr}
def GQ (td:TE):TI:=fun Z H R=>td Z H fun x H1=>∃ a o kvs,x = .ref a/\H1 a=some (.frz o (.dK kvs))/\R (Itv a o kvs) H1
theorem Hy {d:Expr}{td:TE}{apos cpos:Pos}(ho:PE X d td)(hbase:attributeBase d "values" X.env (eval d X.env)=eval d X.env:=by rfl)(hline:(apos.endLine==cpos.line)=true:=by rfl):PI X tg (.Call (.Attribute d "values" apos) [] [] cpos) (GQ td):=by
 intro pins s Z H R I h;refine wpAny_Call_method0_late hbase hline (j6 (ho pins s Z H _ I h) fun v s1 ⟨x,H1,I1,r1,q1⟩=>?_);obtain ⟨a,o,kvs,e,hq,q⟩:=q1;subst e;cases r1;obtain ⟨g1,g2,g3,ws,rw',o',es,ep,g4,g5,g6,g7⟩:=(show ObjOk X.prog X.w H1 s1.heap a (.frz o (.dK kvs)) from I1.hok a _ hq);rw [g1] at g4;cases g4;obtain ⟨hs,vs,r,hm⟩:=Zr I1.hok hq g6;have lv:vs.length=kvs.length:=(KV.length r).symm;refine ⟨"dict", "dict.values",PySem.F.plainAttrs_dict,PySem.F.slot_dict_values,PySem.F.type_dict_values,hm.dictOf.typeIs,fun b e=>?_,Calls.callWith_builtin rfl (PySem.evalArgs_none ?_)⟩
 ·cases e;exact ⟨o,g1,g5.2.1⟩
 refine call_meetsIn PySem.F.slot_dict_values hm.dictOf.typeIs PySem.F.entry_dict_values (PySem.F.args_dict_values_1 _) (meets_dict_values (qF X.prog X.w) a hs) ⟨⟨vs,hm.dictOf⟩,?_⟩;have I2:Inv X pins Z H1 { s1 with heap:=s1.heap.push { cls:= .type "dict_values",data:= .fields #[.ref a] } }:=I1.kept (t':=s1.toks) fun b o e=>Heap.get?_push_of_some _ e;obtain ⟨_,vs2,r2,hm2⟩:=Zr I2.hok hq g6;have lv2:vs2.length=kvs.length:=(KV.length r2).symm;refine wpAny_pyIter_values (knd:=qF X.prog X.w) (kvs:=vs2) ⟨_,Heap.get?_push_size _ rfl,rfl,rfl⟩ hm2 ?_;refine ⟨_,[_],_,Itv a o kvs,H1,rfl,I2.kept (t':=s1.toks) fun b o e=>Heap.get?_push_of_some _ e,TH a _ kvs g6,⟨_,Heap.get?_push_size _ rfl,rfl,?_⟩,fun b hb=>?_,q⟩
 ·rw [lv2];rfl
 have e:b=(s1.heap.push { cls:= .type "dict_values",data:= .fields #[.ref a] }).objs.size:=by simpa using hb
 subst e;exact I2.fpOk (Nat.le_refl _) (I2.hok.fresh (Nat.le_refl _))
def Bi:List V->Hp->VK->Prop:=fun xs H Q=>∃(a:Addr)(ts:List Addr)(kvs:List (j5×V)),xs=[.ref a]/\H a=some (.lst (ts.map V.ref))/\Paired (fun t (kv:j5×V)=>H t=some (.tup [kV kv.1,kv.2])) ts kvs/\(kvs.map (·.1)).Nodup/\kvs.length<=1000 /\
  ∀ l o,H l=none->Q (.ref l) (v8 H l (.frz o (.dK kvs)))
theorem VE {K:Fg}(hc:X.calm=true)(_:X.K=K):CallR X (.type "dict") Bi:=by
 intro pins s Z H xs us Q I r h;obtain ⟨a,ts,kvs,rfl,hq,hp,hn,h1000,q⟩:=h;obtain ⟨u,rfl,ru⟩:=zH r;obtain rfl:u=Value.ref a:=ru;obtain ⟨hz,its,n,rv,ho⟩:=(show ObjOk X.prog X.w H s.heap a (.lst (ts.map V.ref)) from I.hok a _ hq);have ei:=Pz rv;obtain ⟨more,k1,k2⟩:=Ha I hp;have lk:more.length=kvs.length:=k1.length.symm;have lt:=hp.length;have hsl:more.length<=sizeLine:=Nat.le_of_lt (QA (by omega));refine CG (knd:=qF X.prog X.w) (more:=more) (I.ok.hd hc) ho (by rw [List.size_toArray,ei,List.length_map];omega) hsl (fun j v m hv hm=>?_) fun h' tk k hd=>?_
 ·have hv':its[j]?=some v:=by simpa using hv
  rw [ei,List.getElem?_map] at hv';obtain ⟨t,ht,rfl⟩:=Option.map_eq_some_iff.mp hv';obtain ⟨kk,x1,x2⟩:=k2 j t m ht hm;exact ⟨t,kk,rfl,x1,x2⟩
 ·rw [merged_nil_of_nodup more (by rw [YE k1];exact hn)] at hd;obtain ⟨o,es,ep,ho',_⟩:=id hd;refine ⟨.ref s.heap.objs.size,_,I.laid (t':=tk) (o:= .frz o (.dK kvs)) k (Nat.le_refl _) ⟨ho',GB (by omega) (beq_eq_false_iff_ne.mpr (Ne.symm (Nat.ne_of_lt I.big))) k1 hd⟩,rfl,q _ _ (I.hok.fresh (Nat.le_refl _))⟩
end
end L2
namespace Mi
open PySem L2
inductive PV where
 |at (v:V)|tup (xs:List PV)|lst (xs:List PV)|dk (ks:List j5) (xs:List PV)|fk (ks:List j5) (xs:List PV)|ob (C:Addr) (ns:List Str) (xs:List PV)|op (φ:Hp->V->Prop)
mutual
def Rep (H:Hp):PV->V->Prop
 | .at u,v=>v=u
 | .tup xs,v=>∃ a vs,v = .ref a/\H a=some (.tup vs)/\Reps H xs vs
 | .lst xs,v=>∃ a vs,v = .ref a/\H a=some (.lst vs)/\Reps H xs vs
 | .dk ks xs,v=>∃ a kvs,v = .ref a/\H a=some (.dK kvs)/\kvs.map (·.1)=ks/\Reps H xs (kvs.map (·.2))
 | .fk ks xs,v=>∃ a o kvs,v = .ref a/\H a=some (.frz o (.dK kvs))/\kvs.map (·.1)=ks/\Reps H xs (kvs.map (·.2))
 | .ob C ns xs,v=>∃ a dx fs,v = .ref a/\H a=some (.ins C dx fs)/\fs.map (·.1)=ns/\Reps H xs (fs.map (·.2))
 | .op φ,v=>∃ H',Same H' H/\φ H' v
def Reps (H:Hp):List PV->List V->Prop
 |[],vs=>vs=[]
 |x::xs,vs=>∃ v r,vs=v::r/\Rep H x v/\Reps H xs r
end
mutual
theorem Rep.mono {H H':Hp}(g:Same H H'):∀{x:PV}{v:V},Rep H x v->Rep H' x v
 | .at u,v,h=>by unfold Rep at h ⊢;exact h
 | .tup xs,v,h=>by unfold Rep at h ⊢;obtain ⟨a,vs,e,p,r⟩:=h;exact ⟨a,vs,e,g _ _ p,Reps.mono g r⟩
 | .lst xs,v,h=>by unfold Rep at h ⊢;obtain ⟨a,vs,e,p,r⟩:=h;exact ⟨a,vs,e,g _ _ p,Reps.mono g r⟩
 | .dk ks xs,v,h=>by unfold Rep at h ⊢;obtain ⟨a,vs,e,p,q,r⟩:=h;exact ⟨a,vs,e,g _ _ p,q,Reps.mono g r⟩
 | .fk ks xs,v,h=>by unfold Rep at h ⊢;obtain ⟨a,o,vs,e,p,q,r⟩:=h;exact ⟨a,o,vs,e,g _ _ p,q,Reps.mono g r⟩
 | .ob C ns xs,v,h=>by unfold Rep at h ⊢;obtain ⟨a,dx,vs,e,p,q,r⟩:=h;exact ⟨a,dx,vs,e,g _ _ p,q,Reps.mono g r⟩
 | .op φ,v,h=>by unfold Rep at h ⊢;obtain ⟨H1,s,p⟩:=h;exact ⟨H1,s.trans g,p⟩
theorem Reps.mono {H H':Hp}(g:Same H H'):∀{xs:List PV}{vs:List V},Reps H xs vs->Reps H' xs vs
 |[],vs,h=>by unfold Reps at h ⊢;exact h
 |x::xs,vs,h=>by unfold Reps at h ⊢;obtain ⟨v,r,e,p,q⟩:=h;exact ⟨v,r,e,Rep.mono g p,Reps.mono g q⟩
end
theorem rep_at {H:Hp}{u v:V}:Rep H (.at u) v↔v=u:=by unfold Rep;exact Iff.rfl
theorem rep_tup {H:Hp}{xs:List PV}{v:V}:Rep H (.tup xs) v↔∃ a vs,v = .ref a/\H a=some (.tup vs)/\Reps H xs vs:=by unfold Rep;exact Iff.rfl
theorem rep_lst {H:Hp}{xs:List PV}{v:V}:Rep H (.lst xs) v↔∃ a vs,v = .ref a/\H a=some (.lst vs)/\Reps H xs vs:=by unfold Rep;exact Iff.rfl
theorem rep_dk {H:Hp}{ks:List j5}{xs:List PV}{v:V}:Rep H (.dk ks xs) v↔∃ a kvs,v = .ref a/\H a=some (.dK kvs)/\kvs.map (·.1)=ks/\Reps H xs (kvs.map (·.2)):=by unfold Rep;exact Iff.rfl
theorem rep_fk {H:Hp}{ks:List j5}{xs:List PV}{v:V}:Rep H (.fk ks xs) v↔∃ a o kvs,v = .ref a/\H a=some (.frz o (.dK kvs))/\kvs.map (·.1)=ks/\Reps H xs (kvs.map (·.2)):=by unfold Rep;exact Iff.rfl
theorem rep_ob {H:Hp}{C:Addr}{ns:List Str}{xs:List PV}{v:V}:Rep H (.ob C ns xs) v↔∃ a dx fs,v = .ref a/\H a=some (.ins C dx fs)/\fs.map (·.1)=ns/\Reps H xs (fs.map (·.2)):=by unfold Rep;exact Iff.rfl
theorem rep_op {H:Hp}{φ:Hp->V->Prop}{v:V}:Rep H (.op φ) v↔∃ H',Same H' H/\φ H' v:=by unfold Rep;exact Iff.rfl
theorem reps_nil {H:Hp}{vs:List V}:Reps H [] vs↔vs=[]:=by unfold Reps;exact Iff.rfl
theorem reps_cons {H:Hp}{x:PV}{xs:List PV}{vs:List V}:Reps H (x::xs) vs↔∃ v r,vs=v::r/\Rep H x v/\Reps H xs r:=by
 constructor
 ·intro h;unfold Reps at h;exact h
 ·intro h;unfold Reps;exact h
theorem Reps.nil {H:Hp}:Reps H [] []:=reps_nil.mpr rfl
theorem Reps.cons {H:Hp}{x:PV}{v:V}{xs:List PV}{vs:List V}(p:Rep H x v)(q:Reps H xs vs):Reps H (x::xs) (v::vs):=reps_cons.mpr ⟨v,vs,rfl,p,q⟩
theorem Reps.length {H:Hp}:∀{xs:List PV}{vs:List V},Reps H xs vs->vs.length=xs.length
 |[],vs,h=>by rw [reps_nil.mp h];rfl
 |x::xs,vs,h=>by obtain ⟨v,r,rfl,_,q⟩:=reps_cons.mp h;rw [List.length_cons,List.length_cons,Reps.length q]
theorem Reps.append {H:Hp}:∀{xs ys:List PV}{vs ws:List V},Reps H xs vs->Reps H ys ws->Reps H (xs++ys) (vs++ws)
 |[],ys,vs,ws,h,k=>by rw [reps_nil.mp h];exact k
 |x::xs,ys,vs,ws,h,k=>by obtain ⟨v,r,rfl,p,q⟩:=reps_cons.mp h;exact .cons p (Reps.append q k)
theorem Reps.one {H:Hp}{x:PV}{v:V}(p:Rep H x v):Reps H [x] [v]:= .cons p .nil
theorem Reps.get {H:Hp}:∀{xs:List PV}{vs:List V}{i:Nat}{x:PV},Reps H xs vs->xs[i]?=some x->∃ v,vs[i]?=some v/\Rep H x v
 |[],_,i,x,_,e=>by simp at e
 |y::xs,vs,0,x,h,e=>by
  obtain ⟨v,r,rfl,p,q⟩:=reps_cons.mp h;simp at e;subst e;exact ⟨v,rfl,p⟩
 |y::xs,vs,i+1,x,h,e=>by
  obtain ⟨v,r,rfl,p,q⟩:=reps_cons.mp h;obtain ⟨w,e1,e2⟩:=Reps.get (i:=i) (x:=x) q (by simpa using e);exact ⟨w,by simpa using e1,e2⟩
theorem Reps.take {H:Hp}:∀(n:Nat){xs:List PV}{vs:List V},Reps H xs vs->Reps H (xs.take n) (vs.take n)
 |0,_,_,_=>by rw [List.take_zero,List.take_zero];exact .nil
 |n+1,[],vs,h=>by rw [reps_nil.mp h];exact .nil
 |n+1,x::xs,vs,h=>by
  obtain ⟨v,r,rfl,p,q⟩:=reps_cons.mp h;exact .cons p (Reps.take n q)
theorem Reps.drop {H:Hp}:∀(n:Nat){xs:List PV}{vs:List V},Reps H xs vs->Reps H (xs.drop n) (vs.drop n)
 |0,_,_,h=>h
 |n+1,[],vs,h=>by rw [reps_nil.mp h];exact .nil
 |n+1,x::xs,vs,h=>by
  obtain ⟨v,r,rfl,p,q⟩:=reps_cons.mp h;exact Reps.drop n q
theorem Reps.ats {H:Hp}:∀{us vs:List V},Reps H (us.map .at) vs->vs=us
 |[],vs,h=>reps_nil.mp h
 |u::us,vs,h=>by
  obtain ⟨v,r,rfl,p,q⟩:=reps_cons.mp h;rw [rep_at.mp p,Reps.ats q]
theorem Reps.ofAts {H:Hp}:∀(us:List V),Reps H (us.map .at) us
 |[]=> .nil
 |u::us=> .cons (rep_at.mpr rfl) (Reps.ofAts us)
structure Ext (Hs H Hs' H':Hp):Prop where
 s1:Same Hs Hs'
 s2:Same H H'
 s3:Same Hs' H'
 s4:∀ b,H b≠none->Hs b=none->Hs' b=none
theorem BN {H H':Hp}(g:Same H H'){b:Addr}(h:H b≠none):H' b≠none:=fun z=>h (g.free z)
theorem Ext.refl {Hs H:Hp}(s:Same Hs H):Ext Hs H Hs H:=⟨.refl _,.refl _,s,fun _ _ z=>z⟩
theorem Ext.trans {A B A1 B1 A2 B2:Hp}(x:Ext A B A1 B1)(y:Ext A1 B1 A2 B2):Ext A B A2 B2:=⟨x.s1.trans y.s1,x.s2.trans y.s2,y.s3,fun b h z=>y.s4 b (BN x.s2 h) (x.s4 b h z)⟩
theorem Ext.new {Hs H:Hp}(s:Same Hs H){p:Addr}{o:HO}(h:H p=none):Ext Hs H (v8 Hs p o) (v8 H p o):=by
 have hs:Hs p=none:=s.free h;refine ⟨fun b u e=>?_,fun b u e=>?_,fun b u e=>?_,fun b e z=>?_⟩
 ·rw [j7 (p5 e hs)];exact e
 ·rw [j7 (p5 e h)];exact e
 ·by_cases hb:b=p
  ·subst hb;rw [u8] at e ⊢;exact e
  ·rw [j7 hb] at e ⊢;exact s _ _ e
 ·have hb:b≠p:=fun q=>e (by rw [q];exact h);rw [j7 hb];exact z
theorem Ext.newO {Hs H:Hp}(s:Same Hs H){p:Addr}{o:HO}(h:H p=none):Ext Hs H Hs (v8 H p o) :=
 ⟨.refl _,fun b u e=>by rw [j7 (p5 e h)];exact e,fun b u e=>by rw [j7 (p5 (s _ _ e) h)];exact s _ _ e,fun _ _ z=>z⟩
def Top (Hs H:Hp)(a:Addr):PV->Prop
 | .lst xs=>∃ vs,H a=some (.lst vs)/\Reps Hs xs vs
 | .dk ks xs=>∃ kvs,H a=some (.dK kvs)/\kvs.map (·.1)=ks/\Reps Hs xs (kvs.map (·.2))
 | .ob C ns xs=>∃ dx fs,H a=some (.ins C dx fs)/\fs.map (·.1)=ns/\Reps Hs xs (fs.map (·.2))
 |_=>False
theorem Top.there {Hs H:Hp}{a:Addr}:∀{x:PV},Top Hs H a x->H a≠none
 | .lst _,h,z=>by obtain ⟨vs,e,_⟩:=h;rw [e] at z;cases z
 | .dk _ _,h,z=>by obtain ⟨vs,e,_⟩:=h;rw [e] at z;cases z
 | .ob _ _ _,h,z=>by obtain ⟨dx,vs,e,_⟩:=h;rw [e] at z;cases z
theorem Top.mono {Hs H Hs' H':Hp}{a:Addr}(g:Same Hs Hs')(e:∀ o,H a=some o->H' a=some o):∀{x:PV},Top Hs H a x->Top Hs' H' a x
 | .lst _,h=>by obtain ⟨vs,q,r⟩:=h;exact ⟨vs,e _ q,r.mono g⟩
 | .dk _ _,h=>by obtain ⟨vs,q,k,r⟩:=h;exact ⟨vs,e _ q,k,r.mono g⟩
 | .ob _ _ _,h=>by obtain ⟨dx,vs,q,k,r⟩:=h;exact ⟨dx,vs,e _ q,k,r.mono g⟩
theorem Top.rep {Hs H:Hp}{a:Addr}:∀{x:PV},Top Hs H a x->Hs a=none->∃ o,H a=some o/\Rep (v8 Hs a o) x (.ref a)
 | .lst _,h,n=>by
  obtain ⟨vs,q,r⟩:=h;exact ⟨_,q,rep_lst.mpr ⟨a,vs,rfl,u8,r.mono fun b u e=>by rw [j7 (p5 e n)];exact e⟩⟩
 | .dk _ _,h,n=>by
  obtain ⟨vs,q,k,r⟩:=h;exact ⟨_,q,rep_dk.mpr ⟨a,vs,rfl,u8,k,r.mono fun b u e=>by rw [j7 (p5 e n)];exact e⟩⟩
 | .ob _ _ _,h,n=>by
  obtain ⟨dx,vs,q,k,r⟩:=h;exact ⟨_,q,rep_ob.mpr ⟨a,dx,vs,rfl,u8,k,r.mono fun b u e=>by rw [j7 (p5 e n)];exact e⟩⟩
theorem Ext.share {Hs H Hs' H':Hp}{a:Addr}{o:HO}(x:Ext Hs H Hs' H')(h:H a=none)(n:Hs' a=none)(e:H' a=some o):Ext Hs H (v8 Hs' a o) H':=by
 refine ⟨fun b u q=>?_,x.s2,fun b u q=>?_,fun b q z=>?_⟩
 ·rw [j7 (p5 (x.s1 _ _ q) n)];exact x.s1 _ _ q
 ·by_cases hb:b=a
  ·subst hb;rw [u8] at q;cases q;exact e
  ·rw [j7 hb] at q;exact x.s3 _ _ q
 ·have hb:b≠a:=fun r=>q (by rw [r];exact h);rw [j7 hb];exact x.s4 b q z
def RepB (Hs H:Hp)(x:PV)(v:V):Prop:=Rep Hs x v∨∃ a,v = .ref a/\Hs a=none/\Top Hs H a x
theorem RepB.ext {Hs H Hs' H':Hp}{x:PV}{v:V}(e:Ext Hs H Hs' H')(h:RepB Hs H x v):RepB Hs' H' x v:=by
 rcases h with h|⟨a,rfl,n,t⟩
 ·exact .inl (h.mono e.s1)
 ·exact .inr ⟨a,rfl,e.s4 a t.there n,t.mono e.s1 fun o q=>e.s2 _ _ q⟩
inductive MSlot where
 |no|sh (x:PV)|ow (x:PV)|bo (x:PV)
abbrev ME:=List MSlot
def Own (H0 Hs H:Hp)(a:Addr)(x:PV):Prop:=H0 a=none/\Hs a=none/\Top Hs H a x
structure RS (Hs0 H0 Hs H:Hp)(Z:St)(ε:ME):Prop where
 ext:Ext Hs0 H0 Hs H
 sh:∀(i:Nat)(x:PV),ε[i]?=some (.sh x)->∃ v,Z[i]?=some (some v)/\Rep Hs x v
 ow:∀(i:Nat)(x:PV),ε[i]?=some (.ow x)->∃ a,Z[i]?=some (some (.ref a))/\Own H0 Hs H a x
 nd:∀(i j:Nat)(x y:PV)(a:Addr),ε[i]?=some (.ow x)->ε[j]?=some (.ow y)->Z[i]?=some (some (.ref a))->Z[j]?=some (some (.ref a))->i=j
 len:Z.length=ε.length
 bo:∀(i:Nat)(x:PV),ε[i]?=some (.bo x)->∃ v,Z[i]?=some (some v)/\(Rep Hs x v∨∃ a,v = .ref a/\H0 a≠none/\Hs a=none/\Top Hs H a x)
section
variable {Hs0 H0 Hs H Hs' H':Hp}{Z:St}{ε:ME}
theorem RS.go (r:RS Hs0 H0 Hs H Z ε)(e:Ext Hs H Hs' H'):RS Hs0 H0 Hs' H' Z ε where
 ext:=r.ext.trans e
 sh:=fun i x q=>by obtain ⟨v,a,b⟩:=r.sh i x q;exact ⟨v,a,b.mono e.s1⟩
 ow:=fun i x q=>by
  obtain ⟨a,b,n0,n,t⟩:=r.ow i x q;exact ⟨a,b,n0,e.s4 a t.there n,t.mono e.s1 fun o z=>e.s2 _ _ z⟩
 nd:=r.nd
 len:=r.len
 bo:=fun i x q=>by
  obtain ⟨v,b,h|⟨a,rfl,n0,n,t⟩⟩:=r.bo i x q
  ·exact ⟨v,b,.inl (h.mono e.s1)⟩
  ·exact ⟨_,b,.inr ⟨a,rfl,n0,e.s4 a t.there n,t.mono e.s1 fun o z=>e.s2 _ _ z⟩⟩
theorem RS.sub (r:RS Hs0 H0 Hs H Z ε):Same Hs H:=r.ext.s3
theorem RS.rebase (r:RS Hs0 H0 Hs H Z ε):RS Hs H0 Hs H Z ε:=⟨⟨.refl _,r.ext.s2,r.ext.s3,fun _ _ z=>z⟩,r.sh,r.ow,r.nd,r.len,r.bo⟩
theorem Ext.unbase {Hb:Hp}(r:Ext Hs0 H0 Hb H)(e:Ext Hb H0 Hs' H'):Ext Hs0 H0 Hs' H':=⟨r.s1.trans e.s1,e.s2,e.s3,fun b h z=>e.s4 b h (r.s4 b h z)⟩
theorem RS.unbase {Hb:Hp}{σ':St}{ε':ME}(r:Ext Hs0 H0 Hb H)(e:RS Hb H0 Hs' H' σ' ε'):RS Hs0 H0 Hs' H' σ' ε':=⟨r.unbase e.ext,e.sh,e.ow,e.nd,e.len,e.bo⟩
theorem RS.put (r:RS Hs0 H0 Hs H Z ε){i:Nat}{x:PV}{v:V}(h:Rep Hs x v):RS Hs0 H0 Hs H (Z.set i (some v)) (ε.set i (.sh x)) where
 ext:=r.ext
 sh:=fun j y q=>by
  rw [List.getElem?_set] at q ⊢;split at q
  ·rename_i hij;split at q
   ·rename_i hl;injection q with q;injection q with q;subst q;rw [if_pos hij,if_pos (by rw [r.len,hij];rw [hij] at hl;exact hl)];exact ⟨v,rfl,h⟩
   ·cases q
  ·rename_i hij;rw [if_neg hij];exact r.sh j y q
 ow:=fun j y q=>by
  rw [List.getElem?_set] at q ⊢;split at q
  ·split at q<;>cases q
  ·rename_i hij;rw [if_neg hij];exact r.ow j y q
 nd:=fun j k x y a h1 h2 h3 h4=>by
  rw [List.getElem?_set] at h1 h2 h3 h4;split at h1
  ·split at h1<;>cases h1
  ·rename_i hj;rw [if_neg hj] at h3;split at h2
   ·split at h2<;>cases h2
   ·rename_i hk;rw [if_neg hk] at h4;exact r.nd j k x y a h1 h2 h3 h4
 len:=by rw [List.length_set,List.length_set,r.len]
 bo:=fun j y q=>by
  rw [List.getElem?_set] at q ⊢;split at q
  ·split at q<;>cases q
  ·rename_i hij;rw [if_neg hij];exact r.bo j y q
theorem RS.putO (r:RS Hs0 H0 Hs H Z ε){i:Nat}{x:PV}{a:Addr}(h:Own H0 Hs H a x)(ne:∀(j:Nat)(y:PV),ε[j]?=some (.ow y)->Z[j]?≠some (some (.ref a))):RS Hs0 H0 Hs H (Z.set i (some (.ref a))) (ε.set i (.ow x)) where
 ext:=r.ext
 sh:=fun j y q=>by
  rw [List.getElem?_set] at q ⊢;split at q
  ·split at q<;>cases q
  ·rename_i hij;rw [if_neg hij];exact r.sh j y q
 ow:=fun j y q=>by
  rw [List.getElem?_set] at q ⊢;split at q
  ·rename_i hij;split at q
   ·rename_i hl;injection q with q;injection q with q;subst q;rw [if_pos hij,if_pos (by rw [r.len,hij];rw [hij] at hl;exact hl)];exact ⟨a,rfl,h⟩
   ·cases q
  ·rename_i hij;rw [if_neg hij];exact r.ow j y q
 nd:=fun j k x' y b h1 h2 h3 h4=>by
  rw [List.getElem?_set] at h1 h2 h3 h4;split at h1
  ·rename_i hj;rw [if_pos hj] at h3;split at h1
   ·rename_i hl;rw [if_pos (by rw [r.len];exact hl)] at h3;injection h3 with h3;injection h3 with h3;injection h3 with h3;subst h3;split at h2
    ·rename_i hk;exact hj.symm.trans hk
    ·rename_i hk;rw [if_neg hk] at h4;exact absurd h4 (ne k y h2)
   ·cases h1
  ·rename_i hj;rw [if_neg hj] at h3;split at h2
   ·rename_i hk;rw [if_pos hk] at h4;split at h2
    ·rename_i hl;rw [if_pos (by rw [r.len];exact hl)] at h4;injection h4 with h4;injection h4 with h4;injection h4 with h4;subst h4;exact absurd h3 (ne j x' h1)
    ·cases h2
   ·rename_i hk;rw [if_neg hk] at h4;exact r.nd j k x' y b h1 h2 h3 h4
 len:=by rw [List.length_set,List.length_set,r.len]
 bo:=fun j y q=>by
  rw [List.getElem?_set] at q ⊢;split at q
  ·split at q<;>cases q
  ·rename_i hij;rw [if_neg hij];exact r.bo j y q
theorem RS.change (r:RS Hs0 H0 Hs H Z ε){i:Nat}{x y:PV}{a:Addr}{o:HO}(hi:ε[i]?=some (.ow x))(ha:Z[i]?=some (some (.ref a)))(t:Top Hs (v8 H a o) a y):RS Hs0 H0 Hs (v8 H a o) Z (ε.set i (.ow y)):=by
 obtain ⟨b,hb,n0,n,tx⟩:=r.ow i x hi;rw [ha] at hb;injection hb with hb;injection hb with hb;injection hb with hb;subst hb;refine ⟨⟨r.ext.s1,fun b u e=>?_,fun b u e=>?_,r.ext.s4⟩,fun j z q=>?_,fun j z q=>?_,fun j k z z' c h1 h2 h3 h4=>?_,by rw [List.length_set,r.len],fun j z q=>?_⟩
 ·rw [j7 (p5 e n0)];exact r.ext.s2 _ _ e
 ·rw [j7 (p5 e n)];exact r.ext.s3 _ _ e
 ·rw [List.getElem?_set] at q;split at q
  ·split at q<;>cases q
  ·exact r.sh j z q
 ·rw [List.getElem?_set] at q;split at q
  ·rename_i hij;split at q
   ·injection q with q;injection q with q;subst q;exact ⟨a,hij▸ha,n0,n,t⟩
   ·cases q
  ·rename_i hij;obtain ⟨c,hc,m0,m,tc⟩:=r.ow j z q;have hne:c≠a:=fun e=>hij (r.nd i j x z a hi q ha (e▸hc));exact ⟨c,hc,m0,m,tc.mono (.refl _) fun o' e=>by rw [j7 hne];exact e⟩
 ·have down:∀{m:Nat}{w:PV},(ε.set i (.ow y))[m]?=some (.ow w)->∃ w',ε[m]?=some (.ow w'):=by
   intro m w q;rw [List.getElem?_set] at q;split at q
   ·rename_i him;exact ⟨x,him▸hi⟩
   ·exact ⟨w,q⟩
  obtain ⟨w1,q1⟩:=down h1;obtain ⟨w2,q2⟩:=down h2;exact r.nd j k w1 w2 c q1 q2 h3 h4
 ·rw [List.getElem?_set] at q;split at q
  ·split at q<;>cases q
  ·obtain ⟨v,hv,h|⟨c,rfl,m0,m,tc⟩⟩:=r.bo j z q
   ·exact ⟨v,hv,.inl h⟩
   ·have hne:c≠a:=fun e=>m0 (e▸n0);exact ⟨_,hv,.inr ⟨c,rfl,m0,m,tc.mono (.refl _) fun o' e=>by rw [j7 hne];exact e⟩⟩
def fz (i:Nat)(ε:ME):ME:=match ε[i]? with
 |some (.ow x)=>ε.set i (.sh x)
 |_=>ε
end
theorem Qk {ε:ME}{j:Nat}{s:MSlot}(h:∀(i:Nat)(x:PV),ε[i]?≠some (.bo x))(hs:∀ x,s ≠ .bo x):∀(i:Nat)(x:PV),(ε.set j s)[i]?≠some (.bo x):=fun i x q=>by
 rw [List.getElem?_set] at q;split at q
 ·split at q
  ·injection q with q;exact hs x q
  ·cases q
 ·exact h i x q
abbrev M:=ME->Option PV
abbrev MB:=ME->Option Bool
abbrev MA:=ME->Option (List PV)
class SemE (te:TE)(f:M):Prop where
 h:∀{ε y},f ε=some y->∀{Hs0 H0 Hs H Z},RS Hs0 H0 Hs H Z ε->∀{Q:VK},(∀ v Hs' H',Ext Hs H Hs' H'->Rep Hs' y v->Q v H')->te Z H Q
class qr (te:TE)(f:M):Prop where
 h:∀{ε y},f ε=some y->∀{Hs0 H0 Hs H Z},RS Hs0 H0 Hs H Z ε->∀{Q:VK},(∀ v Hs' H',Ext Hs H Hs' H'->RepB Hs' H' y v->Q v H')->te Z H Q
class zi (te:TE)(f:M):Prop where
 h:∀{ε y},f ε=some y->∀{Hs0 H0 Hs H Z},RS Hs0 H0 Hs H Z ε->∀{Q:VK},(∀ a Hs' H',Ext Hs H Hs' H'->H a=none->Hs' a=none->Top Hs' H' a y->Q (.ref a) H')->te Z H Q
class xI (tt:TT)(f:MB):Prop where
 h:∀{ε y},f ε=some y->∀{Hs0 H0 Hs H Z},RS Hs0 H0 Hs H Z ε->∀{Q:Bool->Hp->Prop},(∀ Hs' H',Ext Hs H Hs' H'->Q y H')->tt Z H Q
class xy (ta:TA)(f:MA):Prop where
 h:∀{ε ys},f ε=some ys->∀{Hs0 H0 Hs H Z},RS Hs0 H0 Hs H Z ε->∀{Q:List V->Hp->Prop},(∀ vs Hs' H',Ext Hs H Hs' H'->Reps Hs' ys vs->Q vs H')->ta Z H Q
def wx (Hs H:Hp):List PV->List V->Prop
 |[],vs=>vs=[]
 |x::xs,vs=>∃ v r,vs=v::r/\RepB Hs H x v/\wx Hs H xs r
class QH (ta:TA)(f:MA):Prop where
 h:∀{ε ys},f ε=some ys->∀{Hs0 H0 Hs H Z},RS Hs0 H0 Hs H Z ε->∀{Q:List V->Hp->Prop},(∀ vs Hs' H',Ext Hs H Hs' H'->wx Hs' H' ys vs->Q vs H')->ta Z H Q
class xT (r:R2)(g:PV->PV->Option PV):Prop where
 h:∀{x y z},g x y=some z->∀{Hs H:Hp}{v w:V},Same Hs H->RepB Hs H x v->RepB Hs H y w->∀{Q:VK},(∀ u Hs' H',Ext Hs H Hs' H'->Rep Hs' z u->Q u H')->r v w H Q
class YG (r:R2)(g:PV->PV->Option PV):Prop where
 h:∀{x y z},g x y=some z->∀{Hs H:Hp}{v w:V},Same Hs H->RepB Hs H x v->RepB Hs H y w->∀{Q:VK},(∀ a Hs' H',Ext Hs H Hs' H'->H a=none->Hs' a=none->Top Hs' H' a z->Q (.ref a) H')->r v w H Q
instance (priority:=50) semE_O {te:TE}{f:M}[s:zi te f]:SemE te f where
 h:=fun e _ _ _ _ _ r _ q=>s.h e r fun a Hs' H' x h n t=>by
  obtain ⟨o,ho,hr⟩:=t.rep n;exact q _ _ _ (x.share h n ho) hr
instance (priority:=50) semB_E {te:TE}{f:M}[s:SemE te f]:qr te f where
 h:=fun e _ _ _ _ _ r _ q=>s.h e r fun v Hs' H' x h=>q v Hs' H' x (.inl h)
def q8 (i:Nat):M:=fun ε=>match ε[i]? with
 |some (.sh x)=>some x
 |_=>none
def q9 (i:Nat):M:=fun ε=>match ε[i]? with
 |some (.sh x)=>some x
 |some (.ow x)=>some x
 |some (.bo x)=>some x
 |_=>none
def dC (v:V):M:=fun _=>some (.at v)
instance {i:Nat}:SemE (qL i) (q8 i) where
 h:=fun {ε y} e {_ _ _ _ _} r {_} q=>by
  unfold q8 at e;split at e
  ·rename_i x hx;cases e;obtain ⟨v,h1,h2⟩:=r.sh i _ hx;exact ⟨v,h1,q v _ _ (.refl r.sub) h2⟩
  ·cases e
instance {i:Nat}:qr (qL i) (q9 i) where
 h:=fun {ε y} e {_ _ _ _ _} r {_} q=>by
  unfold q9 at e;split at e
  ·rename_i x hx;cases e;obtain ⟨v,h1,h2⟩:=r.sh i _ hx;exact ⟨v,h1,q v _ _ (.refl r.sub) (.inl h2)⟩
  ·rename_i x hx;cases e;obtain ⟨a,h1,_,n,t⟩:=r.ow i _ hx;exact ⟨_,h1,q _ _ _ (.refl r.sub) (.inr ⟨a,rfl,n,t⟩)⟩
  ·rename_i x hx;cases e;obtain ⟨v,h1,h2|⟨a,rfl,_,n,t⟩⟩:=r.bo i _ hx
   ·exact ⟨v,h1,q v _ _ (.refl r.sub) (.inl h2)⟩
   ·exact ⟨_,h1,q _ _ _ (.refl r.sub) (.inr ⟨a,rfl,n,t⟩)⟩
  ·cases e
instance {v:V}:SemE (tC v) (dC v) where
 h:=fun e _ _ _ _ _ r _ q=>by cases e;exact q v _ _ (.refl r.sub) (rep_at.mpr rfl)
def x8 (g:PV->PV->Option PV)(a b:M):M:=fun ε=>(a ε).bind fun x=>(b ε).bind fun y=>g x y
theorem bind_some {α β:Type}{o:Option α}{f:α->Option β}{y:β}(h:o.bind f=some y):∃ x,o=some x/\f x=some y:=by
 cases o with
 |none=>cases h
 |some x=>exact ⟨x,rfl,h⟩
instance {r:R2}{g:PV->PV->Option PV}{ta tb:TE}{a b:M}[sr:xT r g][sa:qr ta a][sb:qr tb b]:SemE (tOp r ta tb) (x8 g a b) where
 h:=fun e _ _ _ _ _ rs _ q=>by
  obtain ⟨x,ex,e⟩:=bind_some e;obtain ⟨y,ey,e⟩:=bind_some e;exact sa.h ex rs fun v Hs1 H1 x1 r1=>sb.h ey (rs.go x1) fun w Hs2 H2 x2 r2=>sr.h e x2.s3 (r1.ext x2) r2 fun u Hs3 H3 x3 r3=>q u _ _ (x1.trans (x2.trans x3)) r3
instance {r:R2}{g:PV->PV->Option PV}{ta tb:TE}{a b:M}[sr:YG r g][sa:qr ta a][sb:qr tb b]:zi (tOp r ta tb) (x8 g a b) where
 h:=fun e _ _ _ _ _ rs _ q=>by
  obtain ⟨x,ex,e⟩:=bind_some e;obtain ⟨y,ey,e⟩:=bind_some e;exact sa.h ex rs fun v Hs1 H1 x1 r1=>sb.h ey (rs.go x1) fun w Hs2 H2 x2 r2=>sr.h e x2.s3 (r1.ext x2) r2 fun u Hs3 H3 x3 n n' r3=>q u _ _ (x1.trans (x2.trans x3)) (x1.s2.free (x2.s2.free n)) n' r3
def x6:MA:=fun _=>some []
def q0 (a:M)(r:MA):MA:=fun ε=>(a ε).bind fun x=>(r ε).bind fun xs=>some (x::xs)
instance:xy qp x6 where
 h:=fun e _ _ _ _ _ r _ q=>by cases e;exact q [] _ _ (.refl r.sub) .nil
instance {te:TE}{ta:TA}{a:M}{f:MA}[sa:SemE te a][sr:xy ta f]:xy (o8 te ta) (q0 a f) where
 h:=fun e _ _ _ _ _ rs _ q=>by
  obtain ⟨x,ex,e⟩:=bind_some e;obtain ⟨xs,ey,e⟩:=bind_some e;cases e;exact sa.h ex rs fun v Hs1 H1 x1 r1=>sr.h ey (rs.go x1) fun vs Hs2 H2 x2 r2=>q _ _ _ (x1.trans x2) (.cons (r1.mono x2.s1) r2)
instance:QH qp x6 where
 h:=fun e _ _ _ _ _ r _ q=>by cases e;exact q [] _ _ (.refl r.sub) rfl
instance {te:TE}{ta:TA}{a:M}{f:MA}[sa:qr te a][sr:QH ta f]:QH (o8 te ta) (q0 a f) where
 h:=fun e _ _ _ _ _ rs _ q=>by
  obtain ⟨x,ex,e⟩:=bind_some e;obtain ⟨xs,ey,e⟩:=bind_some e;cases e;exact sa.h ex rs fun v Hs1 H1 x1 r1=>sr.h ey (rs.go x1) fun vs Hs2 H2 x2 r2=>q _ _ _ (x1.trans x2) ⟨_,_,rfl,r1.ext x2,r2⟩
def lim:Nat:=1000000
theorem zk {n:Nat}(h:n<=lim):n<=sizeLine:=Nat.le_trans h (by rw [sizeLine_eq];decide)
theorem Wp {n:Nat}(h:n<=lim):n<sizeLine:=Nat.lt_of_le_of_lt h (by rw [sizeLine_eq];decide)
def qO (a:MA):M:=fun ε=>(a ε).bind fun xs=>if xs.length<=lim then some (.tup xs) else none
def xz (a:MA):M:=fun ε=>(a ε).bind fun xs=>if xs.length<=lim then some (.lst xs) else none
instance {ta:TA}{f:MA}[sa:xy ta f]:SemE (tTup ta) (qO f) where
 h:=fun e _ _ _ _ _ rs _ q=>by
  obtain ⟨xs,ex,e⟩:=bind_some e;split at e
  ·rename_i hl;cases e;exact sa.h ex rs fun vs Hs1 H1 x1 r1=>⟨zk (r1.length▸hl),fun p hp=>q _ _ _ (x1.trans (.new x1.s3 hp)) (rep_tup.mpr ⟨p,vs,rfl,u8,r1.mono (Ext.new x1.s3 hp).s1⟩)⟩
  ·cases e
instance {ta:TA}{f:MA}[sa:xy ta f]:zi (tLst ta) (xz f) where
 h:=fun e _ _ _ _ _ rs _ q=>by
  obtain ⟨xs,ex,e⟩:=bind_some e;split at e
  ·rename_i hl;cases e;exact sa.h ex rs fun vs Hs1 H1 x1 r1=>⟨zk (r1.length▸hl),fun p hp=>q _ _ _ (x1.trans (.newO x1.s3 hp)) (x1.s2.free hp) (x1.s3.free hp) ⟨vs,u8,r1⟩⟩
  ·cases e
end Mi
namespace Mi
open PySem L2
theorem m8 {Hs H:Hp}{u v:V}(h:RepB Hs H (.at u) v):v=u:=by
 rcases h with h|⟨a,_,_,t⟩
 ·exact rep_at.mp h
 ·exact t.elim
theorem qK {Hs H:Hp}{xs:List PV}{v:V}(s:Same Hs H)(h:RepB Hs H (.lst xs) v):∃ a vs,v = .ref a/\H a=some (.lst vs)/\Reps Hs xs vs:=by
 rcases h with h|⟨a,rfl,_,vs,e,r⟩
 ·obtain ⟨a,vs,rfl,e,r⟩:=rep_lst.mp h;exact ⟨a,vs,rfl,s _ _ e,r⟩
 ·exact ⟨a,vs,rfl,e,r⟩
theorem xF {Hs H:Hp}{xs:List PV}{v:V}(s:Same Hs H)(h:RepB Hs H (.tup xs) v):∃ a vs,v = .ref a/\H a=some (.tup vs)/\Reps Hs xs vs:=by
 rcases h with h|⟨a,rfl,_,t⟩
 ·obtain ⟨a,vs,rfl,e,r⟩:=rep_tup.mp h;exact ⟨a,vs,rfl,s _ _ e,r⟩
 ·exact t.elim
theorem Jc {Hs H:Hp}{ks:List j5}{xs:List PV}{v:V}(s:Same Hs H)(h:RepB Hs H (.fk ks xs) v):∃ a o kvs,v = .ref a/\H a=some (.frz o (.dK kvs))/\kvs.map (·.1)=ks/\Reps Hs xs (kvs.map (·.2)):=by
 rcases h with h|⟨a,rfl,n,t⟩
 ·obtain ⟨a,o,kvs,rfl,e,k,r⟩:=rep_fk.mp h;exact ⟨a,o,kvs,rfl,s _ _ e,k,r⟩
 ·exact t.elim
theorem vZ {Hs H:Hp}{ks:List j5}{xs:List PV}{v:V}(s:Same Hs H)(h:RepB Hs H (.dk ks xs) v):∃ a kvs,v = .ref a/\H a=some (.dK kvs)/\kvs.map (·.1)=ks/\Reps Hs xs (kvs.map (·.2)):=by
 rcases h with h|⟨a,rfl,_,kvs,e,k,r⟩
 ·obtain ⟨a,kvs,rfl,e,k,r⟩:=rep_dk.mp h;exact ⟨a,kvs,rfl,s _ _ e,k,r⟩
 ·exact ⟨a,kvs,rfl,e,k,r⟩
theorem Bx {Hs H:Hp}{C:Addr}{ns:List Str}{xs:List PV}{v:V}(s:Same Hs H)(h:RepB Hs H (.ob C ns xs) v):∃ a dx fs,v = .ref a/\H a=some (.ins C dx fs)/\fs.map (·.1)=ns/\Reps Hs xs (fs.map (·.2)):=by
 rcases h with h|⟨a,rfl,_,dx,fs,e,k,r⟩
 ·obtain ⟨a,dx,fs,rfl,e,k,r⟩:=rep_ob.mp h;exact ⟨a,dx,fs,rfl,s _ _ e,k,r⟩
 ·exact ⟨a,dx,fs,rfl,e,k,r⟩
def pI (g:Int->Int->Option V):PV->PV->Option PV
 | .at (.int i),.at (.int j)=>(g i j).map .at
 |_,_=>none
theorem KK {g:Int->Int->Option V}{x y z:PV}(h:pI g x y=some z):∃ i j u,x = .at (.int i)/\y = .at (.int j)/\g i j=some u/\z = .at u:=by
 unfold pI at h;split at h
 ·rename_i i j;obtain ⟨u,e,rfl⟩:=Option.map_eq_some_iff.mp h;exact ⟨i,j,u,rfl,rfl,e,rfl⟩
 ·cases h
instance {g:Int->Int->V}:xT (rI0 g) (pI fun i j=>some (g i j)) where
 h:=fun e _ _ _ _ s a b _ q=>by
  obtain ⟨i,j,u,rfl,rfl,e,rfl⟩:=KK e;cases e;exact ⟨i,j,m8 a,m8 b,q _ _ _ (.refl s) (rep_at.mpr rfl)⟩
instance {C:Int->Int->Prop}[d:∀ i j,Decidable (C i j)]{g:Int->Int->V}:xT (rI C g) (pI fun i j=>if C i j then some (g i j) else none) where
 h:=fun e _ _ _ _ s a b _ q=>by
  obtain ⟨i,j,u,rfl,rfl,e',rfl⟩:=KK e;split at e'
  ·rename_i hc;cases e';exact ⟨i,j,m8 a,m8 b,hc,q _ _ _ (.refl s) (rep_at.mpr rfl)⟩
  ·cases e'
def w9:PV->PV->Option PV
 | .lst xs,.at (.int i)=>atI xs i
 | .tup xs,.at (.int i)=>atI xs i
 | .at (.str z),.at (.int i)=>if z.length<=lim then (L2.atI z.cps.toList i).map fun c=> .at (.str ⟨#[c]⟩) else none
 |_,_=>none
theorem Reps.atI {H:Hp}{xs:List PV}{vs:List V}{i:Int}{x:PV}(r:Reps H xs vs)(h:atI xs i=some x):∃ v,L2.atI vs i=some v/\Rep H x v:=by unfold L2.atI at h ⊢;rw [r.length];obtain ⟨j,ej,e⟩:=bind_some h;rw [ej];exact r.get e
instance {K:Fg}:xT (rIx K) w9 where
 h:=fun {x y z} e {Hs H v w} s a b {Q} q=>by
  unfold w9 at e;split at e
  ·obtain ⟨p,vs,rfl,e1,r1⟩:=qK s a;obtain ⟨u,hu,r⟩:=r1.atI e;exact .inl ⟨p,vs,_,u,rfl,m8 b,SqL.of e1,hu,q _ _ _ (.refl s) r⟩
  ·obtain ⟨p,vs,rfl,e1,r1⟩:=xF s a;obtain ⟨u,hu,r⟩:=r1.atI e;exact .inr (.inl ⟨p,vs,_,u,rfl,m8 b,SqT.of e1,hu,q _ _ _ (.refl s) r⟩)
  ·split at e
   ·rename_i hz;obtain ⟨c,hc,rfl⟩:=Option.map_eq_some_iff.mp e;exact .inr (.inr ⟨_,_,c,m8 a,m8 b,zk hz,hc,q _ _ _ (.refl s) (rep_at.mpr rfl)⟩)
   ·cases e
  ·cases e
def ats:List PV->Option (List V)
 |[]=>some []
 | .at u::xs=>(ats xs).map (u::·)
 |_::_=>none
theorem XT:∀{xs:List PV}{us:List V},ats xs=some us->xs=us.map .at
 |[],_,h=>by cases h;rfl
 | .at u::xs,us,h=>by
  unfold ats at h;obtain ⟨r,e,rfl⟩:=Option.map_eq_some_iff.mp h;rw [List.map_cons,XT e]
 | .tup _::_,_,h=>by cases h
 | .lst _::_,_,h=>by cases h
 | .dk _ _::_,_,h=>by cases h
 | .fk _ _::_,_,h=>by cases h
 | .ob _ _ _::_,_,h=>by cases h
 | .op _::_,_,h=>by cases h
def pIn (neg:Bool):PV->PV->Option PV
 | .at u,.lst xs=>(ats xs).bind fun us=>if p7 u=true/\us.all p7=true then some (.at (.bl (if neg then !inV u us else inV u us))) else none
 | .at u,.tup xs=>(ats xs).bind fun us=>if p7 u=true/\us.all p7=true then some (.at (.bl (if neg then !inV u us else inV u us))) else none
 |_,_=>none
instance {K:Fg}{neg:Bool}:xT (rIn K neg) (pIn neg) where
 h:=fun {x y z} e {Hs H v w} s a b {Q} q=>by
  unfold pIn at e;split at e
  ·obtain ⟨us,e1,e⟩:=bind_some e;split at e
   ·rename_i hf;cases e;obtain ⟨p,vs,rfl,e2,r2⟩:=qK s b;rw [XT e1] at r2;cases r2.ats;cases m8 a;exact ⟨p,_,rfl,.inl (SqL.of e2),hf.1,hf.2,q _ _ _ (.refl s) (rep_at.mpr rfl)⟩
   ·cases e
  ·obtain ⟨us,e1,e⟩:=bind_some e;split at e
   ·rename_i hf;cases e;obtain ⟨p,vs,rfl,e2,r2⟩:=xF s b;rw [XT e1] at r2;cases r2.ats;cases m8 a;exact ⟨p,_,rfl,.inr (SqT.of e2),hf.1,hf.2,q _ _ _ (.refl s) (rep_at.mpr rfl)⟩
   ·cases e
  ·cases e
class SemU (r:V->Hp->VK->Prop)(g:PV->Option PV):Prop where
 h:∀{x z},g x=some z->∀{Hs H:Hp}{v:V},Same Hs H->RepB Hs H x v->∀{Q:VK},(∀ u Hs' H',Ext Hs H Hs' H'->Rep Hs' z u->Q u H')->r v H Q
def dUn (g:PV->Option PV)(a:M):M:=fun ε=>(a ε).bind g
instance {r:V->Hp->VK->Prop}{g:PV->Option PV}{ta:TE}{a:M}[sr:SemU r g][sa:qr ta a]:SemE (tUn r ta) (dUn g a) where
 h:=fun e _ _ _ _ _ rs _ q=>by
  obtain ⟨x,ex,e⟩:=bind_some e;exact sa.h ex rs fun v Hs1 H1 x1 r1=>sr.h e x1.s3 r1 fun u Hs3 H3 x3 r3=>q u _ _ (x1.trans x3) r3
def pU (g:Int->V):PV->Option PV
 | .at (.int i)=>some (.at (g i))
 |_=>none
instance {g:Int->V}:SemU (rU g) (pU g) where
 h:=fun {x z} e {_ _ _} s a {_} q=>by
  unfold pU at e;split at e
  ·cases e;exact ⟨_,m8 a,q _ _ _ (.refl s) (rep_at.mpr rfl)⟩
  ·cases e
def pB:PV->Option Bool
 | .at (.bl b)=>some b
 |_=>none
theorem Qq {x:PV}{b:Bool}(h:pB x=some b):x = .at (.bl b):=by
 unfold pB at h;split at h
 ·cases h;rfl
 ·cases h
def dT (a:M):MB:=fun ε=>(a ε).bind pB
instance {te:TE}{a:M}[sa:qr te a]:xI (Vj te) (dT a) where
 h:=fun e _ _ _ _ _ rs _ q=>by
  obtain ⟨x,ex,e⟩:=bind_some e;cases Qq e;exact sa.h ex rs fun v Hs1 H1 x1 r1=>⟨_,m8 r1,q _ _ x1⟩
instance {te:TE}{a:M}[sa:qr te a]:xI (tB te) (dT a) where
 h:=fun e _ _ _ _ _ rs _ q=>by
  obtain ⟨x,ex,e⟩:=bind_some e;cases Qq e;exact sa.h ex rs fun v Hs1 H1 x1 r1=>⟨_,m8 r1,q _ _ x1⟩
def tTru (K:Fg)(ta:TE):TT:=fun Z H Q=>ta Z H fun x H'=>∃ k,TruV K x H' k/\Q k H'
def pTru:PV->Option Bool
 | .at .non=>some false
 | .at (.bl b)=>some b
 | .at (.int i)=>some (i != 0)
 | .at (.str y)=>if y.length<=lim then some ((y.length:Int) != 0) else none
 | .lst xs=>some (!xs.isEmpty)
 | .tup xs=>some (!xs.isEmpty)
 | .dk ks _=>some (!ks.isEmpty)
 |_=>none
def i9 (a:M):MB:=fun ε=>(a ε).bind pTru
theorem Reps.isEmpty {H:Hp}{xs:List PV}{vs:List V}(r:Reps H xs vs):vs.isEmpty=xs.isEmpty:=by have:=r.length;cases xs<;>cases vs<;>first|rfl|(simp at this)
instance {K:Fg}{te:TE}{a:M}[sa:qr te a]:xI (tTru K te) (i9 a) where
 h:=fun e _ _ _ _ _ rs _ q=>by
  obtain ⟨x,ex,e⟩:=bind_some e;refine sa.h ex rs fun v Hs1 H1 x1 r1=>?_;unfold pTru at e;split at e
  ·cases e;cases m8 r1;exact ⟨_,rfl,q _ _ x1⟩
  ·cases e;cases m8 r1;exact ⟨_,rfl,q _ _ x1⟩
  ·cases e;cases m8 r1;exact ⟨_,rfl,q _ _ x1⟩
  ·split at e
   ·rename_i hl;cases e;cases m8 r1;exact ⟨_,⟨zk hl,rfl⟩,q _ _ x1⟩
   ·cases e
  ·cases e;obtain ⟨p,vs,rfl,e1,r2⟩:=qK x1.s3 r1;exact ⟨_,.inl ⟨vs,SqL.of e1,by rw [r2.isEmpty]⟩,q _ _ x1⟩
  ·cases e;obtain ⟨p,vs,rfl,e1,r2⟩:=xF x1.s3 r1;exact ⟨_,.inr (.inl ⟨vs,SqT.of e1,by rw [r2.isEmpty]⟩),q _ _ x1⟩
  ·cases e;obtain ⟨p,kvs,rfl,e1,k,r2⟩:=vZ x1.s3 r1;refine ⟨_,.inr (.inr ⟨kvs,e1,?_⟩),q _ _ x1⟩;rw [<- k];cases kvs<;>rfl
  ·cases e
def zM (a b:MB):MB:=fun ε=>(a ε).bind fun c=>if c=true then b ε else some false
def qU (a b:MB):MB:=fun ε=>(a ε).bind fun c=>if c=true then some true else b ε
def qd (a:MB):MB:=fun ε=>(a ε).bind fun c=>some (!c)
instance {t u:TT}{a b:MB}[sa:xI t a][sb:xI u b]:xI (tAnd t u) (zM a b) where
 h:=fun e _ _ _ _ _ rs _ q=>by
  obtain ⟨c,ex,e⟩:=bind_some e;refine sa.h ex rs fun Hs1 H1 x1=>?_;cases c with
  |true=>exact zR (sb.h e (rs.go x1) fun Hs2 H2 x2=>q _ _ (x1.trans x2))
  |false=>cases e;exact zQ (q _ _ x1)
instance {t u:TT}{a b:MB}[sa:xI t a][sb:xI u b]:xI (tOr t u) (qU a b) where
 h:=fun e _ _ _ _ _ rs _ q=>by
  obtain ⟨c,ex,e⟩:=bind_some e;refine sa.h ex rs fun Hs1 H1 x1=>?_;cases c with
  |true=>cases e;exact zR (q _ _ x1)
  |false=>exact zQ (sb.h e (rs.go x1) fun Hs2 H2 x2=>q _ _ (x1.trans x2))
instance {t:TT}{a:MB}[sa:xI t a]:xI (tNot t) (qd a) where
 h:=fun e _ _ _ _ _ rs _ q=>by
  obtain ⟨c,ex,e⟩:=bind_some e;cases e;exact sa.h ex rs fun Hs1 H1 x1=>q _ _ x1
def zN (a b:M):M:=fun ε=>(a ε).bind fun x=>(pB x).bind fun c=>if c=true then b ε else some (.at (.bl false))
def wM (a:M):M:=fun ε=>(a ε).bind fun x=>(pB x).bind fun c=>some (.at (.bl (!c)))
instance {t u:TE}{a b:M}[sa:SemE t a][sb:SemE u b]:SemE (BW t u) (zN a b) where
 h:=fun e _ _ _ _ _ rs _ q=>by
  obtain ⟨x,ex,e⟩:=bind_some e;obtain ⟨c,ec,e⟩:=bind_some e;cases Qq ec;refine sa.h ex rs fun v Hs1 H1 x1 r1=>⟨c,rep_at.mp r1,?_⟩;cases c with
  |true=>exact zR (sb.h e (rs.go x1) fun w Hs2 H2 x2 r2=>q _ _ _ (x1.trans x2) r2)
  |false=>cases e;exact zQ (q _ _ _ x1 (rep_at.mpr rfl))
instance {t:TE}{a:M}[sa:qr t a]:SemE (Pc t) (wM a) where
 h:=fun e _ _ _ _ _ rs _ q=>by
  obtain ⟨x,ex,e⟩:=bind_some e;obtain ⟨c,ec,e⟩:=bind_some e;cases Qq ec;cases e;exact sa.h ex rs fun v Hs1 H1 x1 r1=>⟨c,m8 r1,q _ _ _ x1 (rep_at.mpr rfl)⟩
def dIf (c:MB)(a b:M):M:=fun ε=>(c ε).bind fun k=>if k=true then a ε else b ε
instance {t:TT}{ta tb:TE}{c:MB}{a b:M}[sc:xI t c][sa:SemE ta a][sb:SemE tb b]:SemE (tIf t ta tb) (dIf c a b) where
 h:=fun e _ _ _ _ _ rs _ q=>by
  obtain ⟨k,ex,e⟩:=bind_some e;refine sc.h ex rs fun Hs1 H1 x1=>?_;cases k with
  |true=>exact zR (sa.h e (rs.go x1) fun w Hs2 H2 x2 r2=>q _ _ _ (x1.trans x2) r2)
  |false=>exact zQ (sb.h e (rs.go x1) fun w Hs2 H2 x2 r2=>q _ _ _ (x1.trans x2) r2)
def zb (g g':PV->PV->Option PV)(a b c:M):M:=fun ε=>(a ε).bind fun x=>(b ε).bind fun y=>(g x y).bind fun z=>(pB z).bind fun k=>if k=true then (c ε).bind fun w=>g' y w else some (.at (.bl false))
instance {r r':R2}{g g':PV->PV->Option PV}{ta tb tc:TE}{a b c:M}[sr:xT r g][sr':xT r' g'][sa:qr ta a][sb:qr tb b][sc:qr tc c]:SemE (Yo r r' ta tb tc) (zb g g' a b c) where
 h:=fun e _ _ _ _ _ rs _ q=>by
  obtain ⟨x,ex,e1⟩:=bind_some e;obtain ⟨y,ey,e2⟩:=bind_some e1;obtain ⟨z,ez,e3⟩:=bind_some e2;obtain ⟨k,ek,e4⟩:=bind_some e3;have ez':=Qq ek;subst ez';refine sa.h ex rs fun v Hs1 H1 x1 r1=>sb.h ey (rs.go x1) fun w Hs2 H2 x2 r2=>sr.h ez x2.s3 (r1.ext x2) r2 fun u Hs3 H3 x3 r3=>⟨k,rep_at.mp r3,?_⟩;cases k with
  |true=>obtain ⟨w',ew,e5⟩:=bind_some e4;exact zR (sc.h ew (((rs.go x1).go x2).go x3) fun u' Hs4 H4 x4 r4=>sr'.h e5 x4.s3 ((r2.ext x3).ext x4) r4 fun u'' Hs5 H5 x5 r5=>q _ _ _ (x1.trans (x2.trans (x3.trans (x4.trans x5)))) r5)
  |false=>cases e4;exact zQ (q _ _ _ (x1.trans (x2.trans x3)) (rep_at.mpr rfl))
end Mi
namespace Mi
open PySem L2
def y0 (m:List PV->Option PV):Sp:=fun vs H Q _=>∃ Hs xs y,Same Hs H/\Reps Hs xs vs/\m xs=some y/\∀ v Hs' H',Ext Hs H Hs' H'->Rep Hs' y v->Q v H'
def m9 (m:List PV->Option PV):Sp:=fun vs H Q _=>∃ Hs xs y,Same Hs H/\Reps Hs xs vs/\m xs=some y/\∀ a Hs' H',Ext Hs H Hs' H'->H a=none->Hs' a=none->Top Hs' H' a y->Q (.ref a) H'
def x9 (m:List PV->Option PV)(as:MA):M:=fun ε=>(as ε).bind m
instance {m:List PV->Option PV}{ta:TA}{as:MA}{E:XK}[sa:xy ta as]:SemE (zY (y0 m) [] E ta) (x9 m as) where
 h:=fun e _ _ _ _ _ rs _ q=>by
  obtain ⟨xs,ex,e1⟩:=bind_some e;refine sa.h ex rs fun vs Hs1 H1 x1 r1=>⟨Hs1,xs,_,x1.s3,by rw [List.append_nil];exact r1,e1,fun v Hs' H' x r=>q v _ _ (x1.trans x) r⟩
instance {m:List PV->Option PV}{ta:TA}{as:MA}{E:XK}[sa:xy ta as]:zi (zY (m9 m) [] E ta) (x9 m as) where
 h:=fun e _ _ _ _ _ rs _ q=>by
  obtain ⟨xs,ex,e1⟩:=bind_some e;refine sa.h ex rs fun vs Hs1 H1 x1 r1=>⟨Hs1,xs,_,x1.s3,by rw [List.append_nil];exact r1,e1,fun a Hs' H' x n n' r=>q a _ _ (x1.trans x) (x1.s2.free n) n' r⟩
def VM (m:List PV->Option PV)(ds:List V)(as:MA):M:=fun ε=>(as ε).bind fun xs=>m (xs++ds.map .at)
def jd (C:Addr)(nm:Str)(m:List PV->Option PV)(a:M)(as:MA):M:=fun ε=>(a ε).bind fun x=>match x with
 | .ob C' ns fs=>if C'=C/\nm∉ns then (as ε).bind fun xs=>m (x::xs) else none
 |_=>none
theorem Wr {fs:List (Str×V)}{f:Str}(h:f∉fs.map (·.1)):fs.lookup f=none:=by
 induction fs with
 |nil=>rfl
 |cons p r ih =>
  rw [List.map_cons] at h;rw [List.lookup_cons];have h1:(f==p.1)=false:=by rw [beq_eq_false_iff_ne];exact fun e=>h (e▸List.mem_cons_self)
  rw [h1];exact ih fun z=>h (List.mem_cons_of_mem _ z)
theorem Gu {C:Addr}{nm:Str}{m:List PV->Option PV}{a:M}{as:MA}{ε:ME}{y:PV}(h:jd C nm m a as ε=some y):∃ ns fs xs,a ε=some (.ob C ns fs)/\nm∉ns/\as ε=some xs/\m (.ob C ns fs::xs)=some y:=by
 unfold jd at h;obtain ⟨x,ex,h1⟩:=bind_some h;split at h1
 ·rename_i C' ns fs;split at h1
  ·rename_i hc;obtain ⟨xs,e2,h2⟩:=bind_some h1;obtain ⟨rfl,hn⟩:=hc;exact ⟨ns,fs,xs,ex,hn,e2,h2⟩
  ·cases h1
 ·cases h1
instance {C:Addr}{nm:Str}{m:List PV->Option PV}{te:TE}{ta:TA}{a:M}{as:MA}{E:XK}[so:SemE te a][sa:xy ta as]:SemE (we C nm (y0 m) [] E te ta) (jd C nm m a as) where
 h:=fun e _ _ _ _ _ rs _ q=>by
  obtain ⟨ns,fs,xs,ea,hn,e1,e2⟩:=Gu e;refine so.h ea rs fun v Hs1 H1 x1 r1=>?_;obtain ⟨p,dx,gs,rfl,hp,hk,hr⟩:=rep_ob.mp r1;refine ⟨p,dx,gs,rfl,x1.s3 _ _ hp,Wr (by rw [hk];exact hn),sa.h e1 (rs.go x1) fun vs Hs2 H2 x2 r2=>?_⟩;exact ⟨Hs2,_,_,x2.s3,by rw [List.append_nil];exact .cons (r1.mono x2.s1) r2,e2,fun v Hs' H' x r=>q v _ _ (x1.trans (x2.trans x)) r⟩
instance {C:Addr}{nm:Str}{m:List PV->Option PV}{te:TE}{ta:TA}{a:M}{as:MA}{E:XK}[so:SemE te a][sa:xy ta as]:zi (we C nm (m9 m) [] E te ta) (jd C nm m a as) where
 h:=fun e _ _ _ _ _ rs _ q=>by
  obtain ⟨ns,fs,xs,ea,hn,e1,e2⟩:=Gu e;refine so.h ea rs fun v Hs1 H1 x1 r1=>?_;obtain ⟨p,dx,gs,rfl,hp,hk,hr⟩:=rep_ob.mp r1;refine ⟨p,dx,gs,rfl,x1.s3 _ _ hp,Wr (by rw [hk];exact hn),sa.h e1 (rs.go x1) fun vs Hs2 H2 x2 r2=>?_⟩;exact ⟨Hs2,_,_,x2.s3,by rw [List.append_nil];exact .cons (r1.mono x2.s1) r2,e2,fun v Hs' H' x n n' r=>q v _ _ (x1.trans (x2.trans x)) (x1.s2.free (x2.s2.free n)) n' r⟩
class QI (r:List V->Hp->VK->Prop)(g:List PV->Option PV):Prop where
 h:∀{xs z},g xs=some z->∀{Hs H:Hp}{vs:List V},Same Hs H->wx Hs H xs vs->∀{Q:VK},(∀ u Hs' H',Ext Hs H Hs' H'->Rep Hs' z u->Q u H')->r vs H Q
class Vr (r:List V->Hp->VK->Prop)(g:List PV->Option PV):Prop where
 h:∀{xs z},g xs=some z->∀{Hs H:Hp}{vs:List V},Same Hs H->wx Hs H xs vs->∀{Q:VK},(∀ a Hs' H',Ext Hs H Hs' H'->H a=none->Hs' a=none->Top Hs' H' a z->Q (.ref a) H')->r vs H Q
instance {r:List V->Hp->VK->Prop}{g:List PV->Option PV}{ta:TA}{as:MA}[sr:QI r g][sa:QH ta as]:SemE (tCB r ta) (x9 g as) where
 h:=fun e _ _ _ _ _ rs _ q=>by
  obtain ⟨xs,ex,e1⟩:=bind_some e;exact sa.h ex rs fun vs Hs1 H1 x1 r1=>sr.h e1 x1.s3 r1 fun v Hs' H' x r=>q v _ _ (x1.trans x) r
instance {r:List V->Hp->VK->Prop}{g:List PV->Option PV}{ta:TA}{as:MA}[sr:Vr r g][sa:QH ta as]:zi (tCB r ta) (x9 g as) where
 h:=fun e _ _ _ _ _ rs _ q=>by
  obtain ⟨xs,ex,e1⟩:=bind_some e;exact sa.h ex rs fun vs Hs1 H1 x1 r1=>sr.h e1 x1.s3 r1 fun v Hs' H' x n n' r=>q v _ _ (x1.trans x) (x1.s2.free n) n' r
theorem zF {Hs H:Hp}{x:PV}{vs:List V}(h:wx Hs H [x] vs):∃ v,vs=[v]/\RepB Hs H x v:=by obtain ⟨v,r,rfl,a,b⟩:=h;cases (show r=[] from b);exact ⟨v,rfl,a⟩
theorem Rc {Hs H:Hp}{x y:PV}{vs:List V}(h:wx Hs H [x,y] vs):∃ v w,vs=[v,w]/\RepB Hs H x v/\RepB Hs H y w:=by obtain ⟨v,r,rfl,a,b⟩:=h;obtain ⟨w,rfl,c⟩:=zF b;exact ⟨v,w,rfl,a,c⟩
inductive Out where
 |nx (ε:ME)|rt (y:PV)|bk (ε:ME)|ct (ε:ME)
abbrev MS:=ME->Option Out
def OutK (fr:Bool)(Hs0 H0:Hp)(D:zu):Out->Prop
 | .nx ε=>∀ Hs H Z,RS Hs0 H0 Hs H Z ε->D.nx Z H
 | .bk ε=>∀ Hs H Z,RS Hs0 H0 Hs H Z ε->D.bk Z H
 | .ct ε=>∀ Hs H Z,RS Hs0 H0 Hs H Z ε->D.ct Z H
 | .rt y=>match fr with
  |true=>∀ a Hs H,Ext Hs0 H0 Hs H->H0 a=none->Hs a=none->Top Hs H a y->D.rt (.ref a) H
  |false=>∀ v Hs H,Ext Hs0 H0 Hs H->Rep Hs y v->D.rt v H
class SemS (fr:Bool)(ts:TS)(f:MS):Prop where
 h:∀{ε o},f ε=some o->∀{Hs0 H0 Hs H Z},RS Hs0 H0 Hs H Z ε->∀{D:zu},OutK fr Hs0 H0 D o->ts D Z H
variable {fr:Bool}
def n5:MS:=fun ε=>some (.nx ε)
instance:SemS fr Yp n5 where
 h:=fun e _ _ _ _ _ rs _ q=>by cases e;exact q _ _ _ rs
def w5 (a b:MS):MS:=fun ε=>(a ε).bind fun o=>match o with
 | .nx ε'=>b ε'
 |o=>some o
instance {t u:TS}{a b:MS}[sa:SemS fr t a][sb:SemS fr u b]:SemS fr (tSeq t u) (w5 a b) where
 h:=fun e _ _ _ _ _ rs D q=>by
  obtain ⟨o,eo,e1⟩:=bind_some e;refine sa.h eo rs ?_;cases o with
  |nx ε'=>exact fun Hs H Z r=>sb.h e1 r q
  |rt y=>cases e1;exact q
  |bk ε'=>cases e1;exact q
  |ct ε'=>cases e1;exact q
def va (a:M):MS:=fun ε=>(a ε).bind fun _=>some (.nx ε)
instance (priority:=100){te:TE}{a:M}[sa:qr te a]:SemS fr (vq te) (va a) where
 h:=fun e _ _ _ _ _ rs _ q=>by
  obtain ⟨x,ex,e1⟩:=bind_some e;cases e1;exact sa.h ex rs fun v Hs1 H1 x1 r1=>q _ _ _ (rs.go x1)
def y8 (a:M):MS:=fun ε=>(a ε).bind fun x=>some (.rt x)
instance {te:TE}{a:M}[sa:SemE te a]:SemS false (vt te) (y8 a) where
 h:=fun e _ _ _ _ _ rs _ q=>by
  obtain ⟨x,ex,e1⟩:=bind_some e;cases e1;exact sa.h ex rs fun v Hs1 H1 x1 r1=>q _ _ _ (rs.ext.trans x1) r1
instance {te:TE}{a:M}[sa:zi te a]:SemS true (vt te) (y8 a) where
 h:=fun e _ _ _ _ _ rs _ q=>by
  obtain ⟨x,ex,e1⟩:=bind_some e;cases e1;exact sa.h ex rs fun v Hs1 H1 x1 n n' r1=>q _ _ _ (rs.ext.trans x1) (rs.ext.s2.free n) n' r1
def Xn (i:Nat):M:=fun ε=>match ε[i]? with
 |some (.ow x)=>some x
 |_=>none
instance {i:Nat}:SemS true (vt (qL i)) (y8 (Xn i)) where
 h:=fun e _ _ _ _ _ rs _ q=>by
  obtain ⟨x,ex,e1⟩:=bind_some e;cases e1;unfold Xn at ex;split at ex
  ·rename_i y hy;cases ex;obtain ⟨a,ha,n0,n,t⟩:=rs.ow i _ hy;exact ⟨_,ha,q _ _ _ rs.ext n0 n t⟩
  ·cases ex
def m5 (c:MB)(a b:MS):MS:=fun ε=>(c ε).bind fun k=>if k=true then a ε else b ε
instance {t:TT}{ta tb:TS}{c:MB}{a b:MS}[sc:xI t c][sa:SemS fr ta a][sb:SemS fr tb b]:SemS fr (tIfS t ta tb) (m5 c a b) where
 h:=fun e _ _ _ _ _ rs _ q=>by
  obtain ⟨k,ex,e1⟩:=bind_some e;refine sc.h ex rs fun Hs1 H1 x1=>?_;cases k with
  |true=>exact zR (sa.h e1 (rs.go x1) q)
  |false=>exact zQ (sb.h e1 (rs.go x1) q)
def xQ:MS:=fun _=>none
instance:SemS fr Pa xQ where
 h:=fun e=>by cases e
abbrev MG:=PV->ME->Option ME
def But (ts:List Nat)(Z σ':St):Prop:=σ'.length=Z.length/\∀ j,j∉ts->σ'[j]?=Z[j]?
theorem But.refl (Z:St):But [] Z Z:=⟨rfl,fun _ _=>rfl⟩
theorem But.trans {a b:List Nat}{Z σ1 σ2:St}(x:But a Z σ1)(y:But b σ1 σ2):But (a++b) Z σ2 :=
 ⟨y.1.trans x.1,fun j hj=>(y.2 j fun z=>hj (List.mem_append.mpr (.inr z))).trans (x.2 j fun z=>hj (List.mem_append.mpr (.inl z)))⟩
theorem But.wk {ts:List Nat}{Z σ':St}(b:But ts Z σ')(h:∀ i∈ts,Z[i]?=some none):Wk Z σ':=by refine ⟨b.1.symm,fun i v e=>?_⟩;rw [b.2 i fun z=>by rw [h i z] at e;cases e];exact e
class wz (tg:TG)(ts:outParam (List Nat))(g:MG):Prop where
 h:∀{x ε ε'},g x ε=some ε'->∀{Hs0 H0 Hs H Z v},RS Hs0 H0 Hs H Z ε->Rep Hs x v->∀{Q:St->Hp->Prop},(∀ σ',RS Hs0 H0 Hs H σ' ε'->But ts Z σ'->Q σ' H)->tg v Z H Q
class wA (tg:TGs)(ts:outParam (List Nat))(g:List PV->ME->Option ME):Prop where
 h:∀{xs ε ε'},g xs ε=some ε'->∀{Hs0 H0 Hs H Z vs},RS Hs0 H0 Hs H Z ε->Reps Hs xs vs->∀{Q:St->Hp->Prop},(∀ σ',RS Hs0 H0 Hs H σ' ε'->But ts Z σ'->Q σ' H)->tg vs Z H Q
def v6 (i:Nat):MG:=fun x ε=>some (ε.set i (.sh x))
instance {i:Nat}:wz (xt i) [i] (v6 i) where
 h:=fun e _ _ _ _ _ _ rs r _ q=>by
  cases e;exact q _ (rs.put r) ⟨List.length_set,fun j hj=>List.getElem?_set_ne fun z=>hj (by rw [<- z];exact List.mem_singleton.mpr rfl)⟩
def qV:List PV->ME->Option ME:=fun xs ε=>match xs with
 |[]=>some ε
 |_=>none
def n9 (g:MG)(r:List PV->ME->Option ME):List PV->ME->Option ME:=fun xs ε=>match xs with
 |x::xs=>(g x ε).bind (r xs)
 |_=>none
instance:wA gNil [] qV where
 h:=fun {xs ε ε'} e {_ _ _ _ _ _} rs r {_} q=>by
  unfold qV at e;split at e
  ·cases e;exact ⟨reps_nil.mp r,q _ rs (.refl _)⟩
  ·cases e
instance RZ {t:TG}{u:TGs}{a b:List Nat}{g:MG}{r:List PV->ME->Option ME}[sg:wz t a g][sr:wA u b r]:wA (VZ t u) (a++b) (n9 g r) where
 h:=fun {xs ε ε'} e {_ _ _ _ _ _} rs rr {_} q=>by
  unfold n9 at e;split at e
  ·obtain ⟨ε1,e1,e2⟩:=bind_some e;obtain ⟨v,w,rfl,r1,r2⟩:=reps_cons.mp rr;exact ⟨v,w,rfl,sg.h e1 rs r1 fun σ1 rs1 b1=>sr.h e2 rs1 r2 fun σ2 rs2 b2=>q _ rs2 (b1.trans b2)⟩
  ·cases e
instance (priority:=2000){i:Nat}{u:TGs}{b:List Nat}{r:List PV->ME->Option ME}[sr:wA u b r]:wA (VZ (xt i) u) (i::b) (n9 (v6 i) r) where
 h:=fun e _ _ _ _ _ _ rs rr _ q=>(RZ (t:=xt i) (a:=[i]) (g:=v6 i)).h e rs rr q
def qW (n:Nat)(g:List PV->ME->Option ME):MG:=fun x ε=>match x with
 | .tup xs=>if xs.length=n then g xs ε else none
 |_=>none
instance {K:Fg}{n:Nat}{t:TGs}{ts:List Nat}{g:List PV->ME->Option ME}[sg:wA t ts g]:wz (gTup K n t) ts (qW n g) where
 h:=fun {x ε ε'} e {_ _ _ _ _ _} rs rr {_} q=>by
  unfold qW at e;split at e
  ·split at e
   ·rename_i hl;obtain ⟨a,vs,rfl,h,r⟩:=rep_tup.mp rr;exact ⟨a,vs,rfl,SqT.of (rs.sub _ _ h),by rw [r.length];exact hl,sg.h e rs r fun σ' rs' b=>q _ rs' b⟩
   ·cases e
  ·cases e
def p6 (i:Nat)(a:M):MS:=fun ε=>(a ε).bind fun x=>some (.nx (ε.set i (.sh x)))
def vH (i:Nat)(a:M):MS:=fun ε=>(a ε).bind fun x=>some (.nx (ε.set i (.ow x)))
instance {i:Nat}{te:TE}{a:M}[sa:SemE te a]:SemS fr (zX te (xt i)) (p6 i a) where
 h:=fun e _ _ _ _ _ rs _ q=>by
  obtain ⟨x,ex,e1⟩:=bind_some e;cases e1;exact sa.h ex rs fun v Hs1 H1 x1 r1=>q _ _ _ ((rs.go x1).put r1)
instance {i:Nat}{te:TE}{a:M}[sa:zi te a]:SemS fr (zX te (xt i)) (vH i a) where
 h:=fun e _ _ _ _ _ rs _ q=>by
  obtain ⟨x,ex,e1⟩:=bind_some e;cases e1;refine sa.h ex rs fun p Hs1 H1 x1 n n' t=>q _ _ _ ((rs.go x1).putO ⟨rs.ext.s2.free n,n',t⟩ fun j y hj z=>?_);obtain ⟨b,hb,_,_,tb⟩:=rs.ow j y hj;rw [z] at hb;injection hb with hb;injection hb with hb;injection hb with hb;subst hb;exact tb.there n
def dAsg (g:MG)(a:M):MS:=fun ε=>(a ε).bind fun x=>(g x ε).bind fun ε'=>some (.nx ε')
instance (priority:=500){te:TE}{tg:TG}{ts:List Nat}{a:M}{g:MG}[sa:SemE te a][sg:wz tg ts g]:SemS fr (zX te tg) (dAsg g a) where
 h:=fun e _ _ _ _ _ rs _ q=>by
  obtain ⟨x,ex,e1⟩:=bind_some e;obtain ⟨ε',e2,e3⟩:=bind_some e1;cases e3;exact sa.h ex rs fun v Hs1 H1 x1 r1=>sg.h e2 (rs.go x1) r1 fun σ' rs' _=>q _ _ _ rs'
def pIp (g:Int->Int->Int):PV->PV->Option PV
 | .at (.int i),.at (.int j)=>some (.at (.int (g i j)))
 |_,_=>none
def vG (i:Nat)(a:M):MS:=fun ε=>(a ε).bind fun x=>match ε[i]? with
 |some (.ow (.lst xs))=>if xs.length<=lim then some (.nx (ε.set i (.ow (.lst (xs++[x]))))) else none
 |_=>none
instance {K:Fg}{i:Nat}{te:TE}{a:M}[sa:SemE te a]:SemS fr (vq (tBM K "list" Ya (qL i) (o8 te qp))) (vG i a) where
 h:=fun e _ _ _ _ _ rs _ q=>by
  obtain ⟨x,ex,e1⟩:=bind_some e;split at e1
  ·rename_i xs hi;split at e1
   ·rename_i hl;cases e1;obtain ⟨p,hp,n0,n,vs,hv,rv⟩:=rs.ow i _ hi;refine ⟨_,hp,.inl ⟨rfl,vs,SqL.of hv⟩,sa.h ex rs fun v Hs1 H1 x1 r1=>?_⟩;have hv1:=x1.s2 _ _ hv;refine ⟨p,vs,v,rfl,rfl,hv1,Wp (by rw [rv.length];exact hl),q _ _ _ ((rs.go x1).change hi hp ⟨_,u8,(rv.mono x1.s1).append (.one r1)⟩)⟩
   ·cases e1
  ·cases e1
def dExtend (i:Nat)(a:M):MS:=fun ε=>(a ε).bind fun x=>match x with
 | .lst ys=>(match ε[i]? with
  |some (.ow (.lst xs))=>if xs.length+ys.length<=lim then some (.nx (ε.set i (.ow (.lst (xs++ys))))) else none
  |_=>none)
 |_=>none
structure jx (J:It)(xs:List PV)(Hs:Hp):Prop where
 go:∀(i:Nat)(x:PV)(Hs1 H1:Hp),xs[i]?=some x->Same Hs Hs1->Same Hs1 H1->J.go i H1/\∀ v H2,J.yld i H1 v H2->∃ Hs2,Ext Hs1 H1 Hs2 H2/\Rep Hs2 x v
 stop:∀(Hs1 H1:Hp),Same Hs Hs1->Same Hs1 H1->J.stop xs.length H1
class jb (ti:TI)(f:MA):Prop where
 h:∀{ε xs},f ε=some xs->∀{Hs0 H0 Hs H Z},RS Hs0 H0 Hs H Z ε->∀{R:It->Hp->Prop},(∀ J Hs' H',Ext Hs H Hs' H'->jx J xs Hs'->R J H')->ti Z H R
def o9 (a:M):MA:=fun ε=>(a ε).bind fun x=>match x with
 | .lst xs=>some xs
 |_=>none
def wK (a:M):MA:=fun ε=>(a ε).bind fun x=>match x with
 | .tup xs=>some xs
 |_=>none
theorem My {K:Fg}{a:Addr}{xs:List PV}{vs:List V}{Hs:Hp}(h:Hs a=some (.lst vs))(r:Reps Hs xs vs):jx (Itl K a) xs Hs where
 go:=fun i x Hs1 H1 e g1 g2=>by
  obtain ⟨v,ev,rv⟩:=r.get e;refine ⟨⟨vs,v,SqL.of (g2 _ _ (g1 _ _ h)),ev⟩,fun w H2 y=>?_⟩;obtain ⟨rfl,y⟩:=y;have z:=y vs (SqL.of (g2 _ _ (g1 _ _ h)));rw [ev] at z;cases z;exact ⟨Hs1,.refl g2,rv.mono g1⟩
 stop:=fun Hs1 H1 g1 g2=>⟨vs,SqL.of (g2 _ _ (g1 _ _ h)),by rw [r.length];exact Nat.le_refl _⟩
theorem MD {K:Fg}{a:Addr}{xs:List PV}{vs:List V}{Hs:Hp}(h:Hs a=some (.tup vs))(r:Reps Hs xs vs):jx (Itt K a) xs Hs where
 go:=fun i x Hs1 H1 e g1 g2=>by
  obtain ⟨v,ev,rv⟩:=r.get e;refine ⟨⟨vs,v,SqT.of (g2 _ _ (g1 _ _ h)),ev⟩,fun w H2 y=>?_⟩;obtain ⟨rfl,y⟩:=y;have z:=y vs (SqT.of (g2 _ _ (g1 _ _ h)));rw [ev] at z;cases z;exact ⟨Hs1,.refl g2,rv.mono g1⟩
 stop:=fun Hs1 H1 g1 g2=>⟨vs,SqT.of (g2 _ _ (g1 _ _ h)),by rw [r.length];exact Nat.le_refl _⟩
instance {K:Fg}{te:TE}{a:M}[sa:SemE te a]:jb (Wd K te) (o9 a) where
 h:=fun e _ _ _ _ _ rs _ q=>by
  obtain ⟨x,ex,e1⟩:=bind_some e;split at e1
  ·cases e1;refine sa.h ex rs fun v Hs1 H1 x1 r1=>?_;obtain ⟨p,vs,rfl,hp,r⟩:=rep_lst.mp r1;exact ⟨p,rfl,⟨vs,SqL.of (x1.s3 _ _ hp)⟩,q _ _ _ x1 (My hp r)⟩
  ·cases e1
instance {K:Fg}{te:TE}{a:M}[sa:SemE te a]:jb (iTup K te) (wK a) where
 h:=fun e _ _ _ _ _ rs _ q=>by
  obtain ⟨x,ex,e1⟩:=bind_some e;split at e1
  ·cases e1;refine sa.h ex rs fun v Hs1 H1 x1 r1=>?_;obtain ⟨p,vs,rfl,hp,r⟩:=rep_tup.mp r1;exact ⟨p,rfl,⟨vs,SqT.of (x1.s3 _ _ hp)⟩,q _ _ _ x1 (MD hp r)⟩
  ·cases e1
def zh (lo:Int)(n:Nat):List PV:=(List.range n).map fun (i:Nat)=> .at (.int (lo+i))
theorem jU {lo:Int}{n:Nat}:(zh lo n).length=n:=by unfold zh;rw [List.length_map,List.length_range]
theorem Rh {lo:Int}{n i:Nat}{x:PV}(h:(zh lo n)[i]?=some x):i<n/\x = .at (.int (lo+i)):=by
 have hl:i<n:=by have:=(List.getElem?_eq_some_iff.mp h).1;rw [jU] at this;exact this
 refine ⟨hl,?_⟩;unfold zh at h;rw [List.getElem?_map,List.getElem?_range hl] at h;cases h;rfl
theorem Mz {lo:Int}{n:Nat}{Hs:Hp}:jx (Itr lo n) (zh lo n) Hs where
 go:=fun i x Hs1 H1 e g1 g2=>by
  obtain ⟨hl,rfl⟩:=Rh e;refine ⟨hl,fun v H2 y=>?_⟩;obtain ⟨rfl,rfl⟩:=y;exact ⟨Hs1,.refl g2,rep_at.mpr rfl⟩
 stop:=fun Hs1 H1 g1 g2=>by show n<=_;rw [jU];exact Nat.le_refl _
def xA (a:MA):MA:=fun ε=>(a ε).bind fun xs=>match xs with
 |[.at (.int j)]=>if -(lim:Int)<=j/\j<=lim then some (zh 0 j.toNat) else none
 |_=>none
instance {ta:TA}{a:MA}[sa:xy ta a]:jb (wW ta) (xA a) where
 h:=fun e _ _ _ _ _ rs _ q=>by
  obtain ⟨xs,ex,e1⟩:=bind_some e;split at e1
  ·rename_i j;split at e1
   ·rename_i hl;cases e1;refine sa.h ex rs fun vs Hs1 H1 x1 r1=>?_;obtain ⟨v,r,rfl,p1,p2⟩:=reps_cons.mp r1;cases reps_nil.mp p2;cases rep_at.mp p1;have hlim:(lim:Int)=1000000:=rfl;exact ⟨j,rfl,by omega,by omega,q _ _ _ x1 Mz⟩
   ·cases e1
  ·cases e1
def qi (g:MG)(f:MS):List PV->ME->Option Out
 |[],ε=>some (.nx ε)
 |x::xs,ε=>(g x ε).bind fun ε1=>(f ε1).bind fun o=>match o with
  | .nx ε2=>qi g f xs ε2
  | .ct ε2=>qi g f xs ε2
  | .bk ε2=>some (.nx ε2)
  | .rt y=>some (.rt y)
def xV (i:MA)(g:MG)(f:MS):MS:=fun ε=>(i ε).bind fun xs=>qi g f xs ε
theorem OutK.unbase {Hs0 H0 Hb H:Hp}{D:zu}(x:Ext Hs0 H0 Hb H):∀{o:Out},OutK fr Hs0 H0 D o->OutK fr Hb H0 D o
 | .nx _,h=>fun Hs H Z r=>h _ _ _ (RS.unbase x r)
 | .bk _,h=>fun Hs H Z r=>h _ _ _ (RS.unbase x r)
 | .ct _,h=>fun Hs H Z r=>h _ _ _ (RS.unbase x r)
 | .rt _,h=>by
  cases fr with
  |true=>exact fun a Hs H e n n' t=>h a Hs H (x.unbase e) n n' t
  |false=>exact fun a Hs H e r=>h a Hs H (x.unbase e) r
instance {wi:TI}{tg:TG}{ts:List Nat}{tb:TS}{i:MA}{g:MG}{f:MS}[si:jb wi i][sg:wz tg ts g][sf:SemS fr tb f]:SemS fr (tFor wi tg tb) (xV i g f) where
 h:=fun e Hs0 H0 _ _ _ rs D q=>by
  obtain ⟨xs,ex,e1⟩:=bind_some e;refine si.h ex rs fun J Hs1 H1 x1 ok=>?_;have rs1:=rs.go x1;have q1:=OutK.unbase rs1.ext q;refine ⟨fun k m Z H=>m=xs.length-k/\k<=xs.length/\∃ Hs ε,RS Hs1 H0 Hs H Z ε/\qi g f (xs.drop k) ε=some _,⟨xs.length,by simp,Nat.zero_le _,Hs1,_,rs1.rebase,e1⟩,?_⟩;rintro k m Z H ⟨rfl,hk,Hs,ε,r,el⟩;by_cases hlt:k<xs.length
  ·have hd:xs.drop k=xs[k]::xs.drop (k+1):=List.drop_eq_getElem_cons hlt;rw [hd] at el;unfold qi at el;obtain ⟨ε1,eg,el1⟩:=bind_some el;obtain ⟨o,eo,el2⟩:=bind_some el1;obtain ⟨go,yl⟩:=ok.go k xs[k] Hs H (by simp [hlt]) r.ext.s1 r.ext.s3;refine .inr ⟨go,fun σ' H'=>k+1<=xs.length/\∃ Hs ε,RS Hs1 H0 Hs H' σ' ε/\qi g f (xs.drop (k+1)) ε=some _,fun σ' H' p=>⟨xs.length-(k+1),by omega,rfl,p.1,p.2⟩,fun v H2 y=>?_⟩;obtain ⟨Hs2,x2,r2⟩:=yl v H2 y;refine sg.h eg (r.go x2) r2 fun σ2 rs2 _=>sf.h eo rs2 ?_;cases o with
   |nx ε2=>exact fun Hs3 H3 σ3 r3=>⟨hlt,Hs3,ε2,r3,el2⟩
   |ct ε2=>exact fun Hs3 H3 σ3 r3=>⟨hlt,Hs3,ε2,r3,el2⟩
   |bk ε2=>cases el2;exact q1
   |rt y=>cases el2;exact q1
  ·have ek:k=xs.length:=by omega
   subst ek;rw [List.drop_length] at el;unfold qi at el;cases el;exact .inl ⟨ok.stop Hs H r.ext.s1 r.ext.s3,q1 _ _ _ r⟩
def qE (cap:List (Option Nat))(ε:ME):ME:=cap.map fun o=>match o with
 |none=> .no
 |some i=>(ε[i]?).getD .no
def zj (g:MG)(c:MB)(f:M)(ε0:ME):List PV->Option (List PV)
 |[]=>some []
 |x::xs=>(g x ε0).bind fun ε1=>(c ε1).bind fun b=>if b=true then (f ε1).bind fun y=>(zj g c f ε0 xs).bind fun ys=>some (y::ys) else zj g c f ε0 xs
def i5:MB:=fun _=>some true
instance:xI tYes i5 where
 h:=fun e _ _ _ _ _ rs _ q=>by cases e;exact q _ _ (.refl rs.sub)
def vF (cap:List (Option Nat))(ts:List Nat):Bool:=decide (cap.filterMap id).Nodup&&ts.all fun i=>decide (cap[i]?=some none)
def h8 (cap:List (Option Nat))(ts:List Nat)(i:MA)(g:MG)(c:MB)(f:M):M:=fun ε=>(i ε).bind fun xs=>if vF cap ts=true/\xs.length<=lim then (zj g c f (qE cap ε) xs).bind fun ys=>some (.lst ys) else none
theorem RS.cap {Hs0 H0 Hs H:Hp}{Z:St}{ε:ME}{cap:List (Option Nat)}(hc:(cap.filterMap id).Nodup)(r:RS Hs0 H0 Hs H Z ε):RS Hs0 H0 Hs H (qc cap Z) (qE cap ε):=by
 have inj:∀(i j k:Nat),cap[i]?=some (some k)->cap[j]?=some (some k)->i=j:=by
  clear r
  induction cap with
  |nil=>intro i j k h;simp at h
  |cons o cap ih =>
   intro i j k hi hj;have no:∀(l:Nat),o=some k->cap[l]?=some (some k)->False:=fun l ho hl=>by
    subst ho;rw [List.filterMap_cons_some (by rfl)] at hc;exact (List.nodup_cons.mp hc).1 (List.mem_filterMap.mpr ⟨some k,List.mem_of_getElem? hl,rfl⟩)
   have hc':(cap.filterMap id).Nodup:=by
    cases o with
    |none=>rwa [List.filterMap_cons_none (by rfl)] at hc
    |some m=>rw [List.filterMap_cons_some (by rfl)] at hc;exact (List.nodup_cons.mp hc).2
   cases i with
   |zero =>
    cases j with
    |zero=>rfl
    |succ j=>exact (no j (by simpa using hi) (by simpa using hj)).elim
   |succ i =>
    cases j with
    |zero=>exact (no i (by simpa using hj) (by simpa using hi)).elim
    |succ j=>rw [ih hc' i j k (by simpa using hi) (by simpa using hj)]
 have at1:∀(i:Nat)(sl:MSlot),(qE cap ε)[i]?=some sl->sl = .no∨∃ k,cap[i]?=some (some k)/\ε[k]?=some sl:=by
  intro i sl h;unfold qE at h;rw [List.getElem?_map] at h;cases ho:cap[i]? with
  |none=>rw [ho] at h;cases h
  |some o =>
   rw [ho] at h;cases o with
   |none=>cases h;exact .inl rfl
   |some k =>
    cases hk:ε[k]? with
    |none=>simp only [Option.map_some,hk,Option.getD_none] at h;cases h;exact .inl rfl
    |some s=>simp only [Option.map_some,hk,Option.getD_some] at h;cases h;exact .inr ⟨k,rfl,hk⟩
 have at2:∀(i k:Nat),cap[i]?=some (some k)->∀ v,Z[k]?=some (some v)->(qc cap Z)[i]?=some (some v):=by intro i k h v e;unfold qc;rw [List.getElem?_map,h];simp [e]
 have at3:∀(i k:Nat)(v:V),cap[i]?=some (some k)->(qc cap Z)[i]?=some (some v)->Z[k]?=some (some v):=by
  intro i k v h e;unfold qc at e;rw [List.getElem?_map,h] at e;simp only [Option.map_some,Option.bind_some,Option.some.injEq] at e;cases hs:Z[k]? with
  |none=>rw [hs] at e;cases e
  |some o=>rw [hs] at e;simp at e;rw [e]
 refine ⟨r.ext,fun i x h=>?_,fun i x h=>?_,fun i j x y a h1 h2 h3 h4=>?_,by unfold qc qE;rw [List.length_map,List.length_map],fun i x h=>?_⟩
 ·rcases at1 i _ h with z|⟨k,hk,e⟩
  ·cases z
  ·obtain ⟨v,hv,rv⟩:=r.sh k x e;exact ⟨v,at2 i k hk v hv,rv⟩
 ·rcases at1 i _ h with z|⟨k,hk,e⟩
  ·cases z
  ·obtain ⟨v,hv,rv⟩:=r.ow k x e;exact ⟨v,at2 i k hk _ hv,rv⟩
 ·rcases at1 i _ h1 with z|⟨k,hk,e⟩
  ·cases z
  ·rcases at1 j _ h2 with z|⟨l,hl,e'⟩
   ·cases z
   ·have kl:=r.nd k l x y a e e' (at3 i k _ hk h3) (at3 j l _ hl h4);subst kl;exact inj i j k hk hl
 ·rcases at1 i _ h with z|⟨k,hk,e⟩
  ·cases z
  ·obtain ⟨v,hv,rv⟩:=r.bo k x e;exact ⟨v,at2 i k hk _ hv,rv⟩
theorem Reps.snoc {H:Hp}{xs:List PV}{vs:List V}{x:PV}{v:V}(r:Reps H xs vs)(p:Rep H x v):Reps H (xs++[x]) (vs++[v]):=r.append (.one p)
instance {wi:TI}{tg:TG}{ts:List Nat}{tt:TT}{te:TE}{cap:List (Option Nat)}{i:MA}{g:MG}{c:MB}{f:M}[si:jb wi i][sg:wz tg ts g][sc:xI tt c][sf:SemE te f]:zi (Vi wi tg tt te cap) (h8 cap ts i g c f) where
 h:=fun e Hs0 H0 Hs H Z rs Q q=>by
  obtain ⟨xs,ex,e1⟩:=bind_some e;split at e1
  ·rename_i hcl;obtain ⟨hcap,hl⟩:=hcl;unfold vF at hcap;rw [Bool.and_eq_true] at hcap;obtain ⟨ys,ey,e2⟩:=bind_some e1;cases e2;refine si.h ex rs fun J Hs1 H1 x1 ok=>?_;have rc:=((rs.go x1).cap (of_decide_eq_true hcap.1)).rebase;have wk:∀ i∈ts,(qc cap Z)[i]?=some none:=fun i hi=>by
    unfold qc;rw [List.getElem?_map,of_decide_eq_true (List.all_eq_true.mp hcap.2 i hi)];rfl
   refine ⟨fun k m zs H=>m=xs.length-k/\k<=xs.length/\∃ Hs2 ws,Ext Hs1 H1 Hs2 H/\RS Hs1 H0 Hs2 H (qc cap Z) (qE cap _)/\Reps Hs2 ws zs/\ws.length<=k/\∃ rest,zj g c f (qE cap _) (xs.drop k)=some rest/\ys=ws++rest,
    ⟨xs.length,by simp,Nat.zero_le _,Hs1,[],.refl x1.s3,rc,.nil,Nat.le_refl _,ys,ey,rfl⟩,?_⟩
   rintro k m zs H2 ⟨rfl,hk,Hs2,ws,x2,r2,rz,hw,rest,er,eys⟩;refine ⟨zk (by rw [rz.length];omega),?_⟩;by_cases hlt:k<xs.length
   ·have hd:xs.drop k=xs[k]::xs.drop (k+1):=List.drop_eq_getElem_cons hlt;rw [hd] at er;unfold zj at er;obtain ⟨ε1,eg,er1⟩:=bind_some er;obtain ⟨b,eb,er2⟩:=bind_some er1;obtain ⟨go,yl⟩:=ok.go k xs[k] Hs2 H2 (by simp [hlt]) x2.s1 x2.s3;refine .inr ⟨go,fun v H3 y=>?_⟩;obtain ⟨Hs3,x3,r3⟩:=yl v H3 y;refine sg.h eg (r2.go x3) r3 fun σ2 rs2 bt=>⟨bt.wk wk,sc.h eb rs2 fun Hs4 H4 x4=>?_⟩;cases b with
    |true =>
     rw [if_pos rfl] at er2;obtain ⟨z,ez,er3⟩:=bind_some er2;obtain ⟨rest',er4,er5⟩:=bind_some er3;cases er5;refine zR (sf.h ez (rs2.go x4) fun u Hs5 H5 x5 r5=>⟨xs.length-(k+1),by omega,rfl,hlt,Hs5,ws++[z],x2.trans (x3.trans (x4.trans x5)),((r2.go x3).go x4).go x5,?_,?_,rest',er4,?_⟩)
     ·exact (rz.mono (x3.s1.trans (x4.s1.trans x5.s1))).snoc r5
     ·rw [List.length_append];simp;omega
     ·rw [List.append_assoc];exact eys
    |false=>rw [if_neg Bool.false_ne_true] at er2;exact zQ ⟨xs.length-(k+1),by omega,rfl,hlt,Hs4,ws,x2.trans (x3.trans x4),(r2.go x3).go x4,rz.mono (x3.s1.trans x4.s1),by omega,rest,er2,eys⟩
   ·have ek:k=xs.length:=by omega
    subst ek;rw [List.drop_length] at er;unfold zj at er;cases er;refine .inl ⟨ok.stop Hs2 H2 x2.s1 x2.s3,fun D hD=>?_⟩;rw [List.append_nil] at eys;subst eys;have x12:=x1.trans x2;exact q D Hs2 _ (x12.trans (.newO x2.s3 hD)) (x12.s2.free hD) (x2.s3.free hD) ⟨zs,u8,rz⟩
  ·cases e1
def r6 (n k:Nat)(f:MS):List PV->Option PV:=fun xs=>if xs.length=k then (f (xs.map .sh++List.replicate (n-k) .no)).bind fun o=>match o with
 | .rt y=>some y
 | .nx _=>some (.at .non)
 |_=>none else none
def qN (n k:Nat)(f:MS):List PV->Option PV:=fun xs=>if xs.length=k then (f (xs.map .sh++List.replicate (n-k) .no)).bind fun o=>match o with
 | .rt y=>some y
 |_=>none else none
end Mi
namespace Mi
open PySem PySem.Spec PyProof.Rows L2
theorem vn {N:List Str}{Hs H:Hp}{xs:List PV}{vs:List V}(s:Same Hs H)(r:Reps Hs xs vs):RS Hs H Hs H (L2.start N vs) (xs.map .sh++List.replicate (N.length-xs.length) .no):=by
 have el:=r.length;have at1:∀(i:Nat)(sl:MSlot),(xs.map MSlot.sh++List.replicate (N.length-xs.length) .no)[i]?=some sl->sl = .no∨∃ x,xs[i]?=some x/\sl = .sh x:=by
  intro i sl h;by_cases hi:i<xs.length
  ·rw [List.getElem?_append_left (by rw [List.length_map];exact hi),List.getElem?_map] at h;obtain ⟨x,hx,rfl⟩:=Option.map_eq_some_iff.mp h;exact .inr ⟨x,hx,rfl⟩
  ·rw [List.getElem?_append_right (by rw [List.length_map];omega),List.getElem?_replicate] at h;split at h
   ·cases h;exact .inl rfl
   ·cases h
 refine ⟨.refl s,fun i x h=>?_,fun i x h=>?_,fun i j x y a h1 _ _ _=>?_,?_,fun i x h=>?_⟩
 ·rcases at1 i _ h with z|⟨y,hy,z⟩
  ·cases z
  ·cases z;obtain ⟨v,hv,rv⟩:=r.get hy;refine ⟨v,?_,rv⟩;unfold L2.start;rw [List.getElem?_append_left (by rw [List.length_map];exact (List.getElem?_eq_some_iff.mp hv).1),List.getElem?_map,hv];rfl
 ·rcases at1 i _ h with z|⟨y,hy,z⟩<;>cases z
 ·rcases at1 i _ h1 with z|⟨y,hy,z⟩<;>cases z
 ·unfold L2.start;rw [List.length_append,List.length_append,List.length_map,List.length_map,List.length_replicate,List.length_replicate,el]
 ·rcases at1 i _ h with z|⟨y,hy,z⟩<;>cases z
section
variable {P:Program}{w:World}{K:Fg}{mg:Str->Option Value}{base:Heap}
theorem qg {x qual:Str}{st:Stmt}{f:Addr}{fd:FuncData}{N ps:List Str}{k:Nat}{b:MS}{m:List PV->Option PV}(F:Fun K x qual st f fd)(S:y7 N ps (j8 st))(hm:m=r6 N.length ps.length b)(hb:∀(cdv:Value)(A:Around)(outer:List Env)(s:Shared)(H:Hp)(E:XK),Room k (A.deeper (envOfC qual (j8 st) s.heap.objs.size f cdv)) -> ∃ t,PSs (xP w6 P w K mg base N qual (j8 st) f cdv A outer s H E).nox (qI st) t/\SemS false t b):FnOk P w K mg base w6 (k+1) f fd ps (y0 m):=by
 subst hm;refine F.ok S (fun vs H Q E h=>?_) (fun cdv A outer s H vs Q E hr h=>?_)
 ·obtain ⟨Hs,xs,y,_,r,e,_⟩:=h;unfold r6 at e;split at e
  ·rename_i hl;rw [r.length];exact hl
  ·cases e
 ·obtain ⟨Hs,xs,y,sm,r,e,q⟩:=h;obtain ⟨t,ht,sem⟩:=hb cdv A outer s H E hr;refine ⟨t,ht,?_⟩;unfold r6 at e;split at e
  ·rename_i hl;obtain ⟨o,eo,e1⟩:=bind_some e;refine sem.h eo (by rw [<- hl];exact vn sm r) ?_;cases o with
   |rt z=>cases e1;exact fun v Hs' H' x rv=>q v Hs' H' x rv
   |nx ε=>cases e1;exact fun Hs' H' Z rs=>q _ Hs' H' rs.ext (rep_at.mpr rfl)
   |bk ε=>cases e1
   |ct ε=>cases e1
  ·cases e
theorem okO {x qual:Str}{st:Stmt}{f:Addr}{fd:FuncData}{N ps:List Str}{k:Nat}{b:MS}{m:List PV->Option PV}(F:Fun K x qual st f fd)(S:y7 N ps (j8 st))(hm:m=qN N.length ps.length b)(hb:∀(cdv:Value)(A:Around)(outer:List Env)(s:Shared)(H:Hp)(E:XK),Room k (A.deeper (envOfC qual (j8 st) s.heap.objs.size f cdv)) -> ∃ t,PSs (xP w6 P w K mg base N qual (j8 st) f cdv A outer s H E).nox (qI st) t/\SemS true t b):FnOk P w K mg base w6 (k+1) f fd ps (m9 m):=by
 subst hm;refine F.ok S (fun vs H Q E h=>?_) (fun cdv A outer s H vs Q E hr h=>?_)
 ·obtain ⟨Hs,xs,y,_,r,e,_⟩:=h;unfold qN at e;split at e
  ·rename_i hl;rw [r.length];exact hl
  ·cases e
 ·obtain ⟨Hs,xs,y,sm,r,e,q⟩:=h;obtain ⟨t,ht,sem⟩:=hb cdv A outer s H E hr;refine ⟨t,ht,?_⟩;unfold qN at e;split at e
  ·rename_i hl;obtain ⟨o,eo,e1⟩:=bind_some e;refine sem.h eo (by rw [<- hl];exact vn sm r) ?_;cases o with
   |rt z=>cases e1;exact fun a Hs' H' x n n' t=>q a Hs' H' x n n' t
   |nx ε=>cases e1
   |bk ε=>cases e1
   |ct ε=>cases e1
  ·cases e
end
end Mi
namespace Mi
open PySem L2
theorem qR {X:Cx}{K:Fg}{a:Expr}{ta:TE}(h:X.K=K)(ha:PE X a ta)(he:∀ whole,isTrue a X.env whole=(do let v <- whole;standAt a.pos;holding [v] (truthy v))):PT X a (tTru K ta):=HK h ha he
abbrev jM:PV->PV->Option PV:=pI fun i j=>some (.int (i-j))
abbrev pLt:PV->PV->Option PV:=pI fun i j=>some (.bl (decide (i<j)))
abbrev pLe:PV->PV->Option PV:=pI fun i j=>some (.bl (decide (i<=j)))
abbrev pGt:PV->PV->Option PV:=pI fun i j=>some (.bl (decide (j<i)))
abbrev pGe:PV->PV->Option PV:=pI fun i j=>some (.bl (decide (j<=i)))
instance {i j:Int}:Decidable (QD i j):=by unfold QD;infer_instance
instance {i j:Int}:Decidable (jW i j):=by unfold jW;infer_instance
abbrev vT:PV->PV->Option PV:=pI fun i j=>if QD i j then some (.int (i*j)) else none
abbrev pPow:PV->PV->Option PV:=pI fun i j=>if jW i j then some (.int (i ^ j.toNat)) else none
abbrev pNeg:PV->Option PV:=pU fun i=> .int (-i)
theorem Reps.nil_of {H:Hp}{xs:List PV}(r:Reps H xs []):xs=[]:=List.length_eq_zero_iff.mp r.length.symm
def qm:PV->PV->Option PV
 | .at (.int i),.at (.int j)=>some (.at (.int (i+j)))
 | .at (.str x),.at (.str y)=>if x.length+y.length<=lim then some (.at (.str (x++y))) else none
 | .lst xs,.lst ys=>if xs.length+ys.length<=lim then some (.lst (xs++ys)) else none
 | .tup xs,.tup ys=>if xs≠[]/\xs.length+ys.length<=lim then some (.tup (xs++ys)) else none
 |_,_=>none
instance {K:Fg}:xT (Be K) qm where
 h:=fun {x y z} e {Hs H v w} s a b {Q} q=>by
  unfold qm at e;split at e
  ·cases e;exact .inl ⟨_,_,m8 a,m8 b,q _ _ _ (.refl s) (rep_at.mpr rfl)⟩
  ·split at e
   ·rename_i hl;cases e;exact .inr (.inl ⟨_,_,m8 a,m8 b,zk hl,q _ _ _ (.refl s) (rep_at.mpr rfl)⟩)
   ·cases e
  ·split at e
   ·rename_i hl;cases e;obtain ⟨p,vs,rfl,e1,r1⟩:=qK s a;obtain ⟨p',ws,rfl,e2,r2⟩:=qK s b;refine .inr (.inr (.inl ⟨p,p',vs,ws,rfl,rfl,SqL.of e1,SqL.of e2,zk (by rw [r1.length,r2.length];exact hl),fun l hl=>?_⟩));exact q _ _ _ (.new s hl) (rep_lst.mpr ⟨l,_,rfl,u8,(r1.append r2).mono (Ext.new s hl).s1⟩)
   ·cases e
  ·split at e
   ·rename_i hl;cases e;obtain ⟨p,vs,rfl,e1,r1⟩:=xF s a;obtain ⟨p',ws,rfl,e2,r2⟩:=xF s b;have hn:vs≠[]:=fun z=>by
     have h1:=r1.length;rw [z] at h1;exact hl.1 (List.length_eq_zero_iff.mp h1.symm)
    refine .inr (.inr (.inr ⟨p,p',vs,ws,rfl,rfl,SqT.of e1,SqT.of e2,hn,zk (by rw [r1.length,r2.length];exact hl.2),fun z=>?_,fun z l hl=>?_⟩))
    ·subst z;cases r2.nil_of;rw [List.append_nil] at q;rcases a with a|⟨_,_,_,t⟩
     ·exact q _ _ _ (.refl s) a
     ·exact t.elim
    ·exact q _ _ _ (.new s hl) (rep_tup.mpr ⟨l,_,rfl,u8,(r1.append r2).mono (Ext.new s hl).s1⟩)
   ·cases e
  ·cases e
def qj:List PV->Option PV
 |[.at (.str x)]=>if x.length<=lim then some (.at (.int x.length)) else none
 |[.lst xs]=>some (.at (.int xs.length))
 |[.tup xs]=>some (.at (.int xs.length))
 |[.dk ks _]=>some (.at (.int ks.length))
 |_=>none
instance {K:Fg}:QI (Qx K) qj where
 h:=fun {xs z} e {Hs H vs} s r {Q} q=>by
  unfold qj at e;split at e
  ·split at e
   ·rename_i hl;cases e;obtain ⟨v,rfl,a⟩:=zF r;cases m8 a;exact .inl ⟨_,_,rfl,⟨zk hl,rfl⟩,q _ _ _ (.refl s) (rep_at.mpr rfl)⟩
   ·cases e
  ·cases e;obtain ⟨v,rfl,a⟩:=zF r;obtain ⟨p,ws,rfl,e1,r1⟩:=qK s a;exact .inl ⟨_,_,rfl,.inl ⟨ws,SqL.of e1,rfl⟩,q _ _ _ (.refl s) (rep_at.mpr (by rw [r1.length]))⟩
  ·cases e;obtain ⟨v,rfl,a⟩:=zF r;obtain ⟨p,ws,rfl,e1,r1⟩:=xF s a;exact .inl ⟨_,_,rfl,.inr ⟨ws,SqT.of e1,rfl⟩,q _ _ _ (.refl s) (rep_at.mpr (by rw [r1.length]))⟩
  ·cases e;obtain ⟨v,rfl,a⟩:=zF r;obtain ⟨p,kvs,rfl,e1,k,r1⟩:=vZ s a;exact .inr ⟨p,kvs,rfl,e1,q _ _ _ (.refl s) (rep_at.mpr (by rw [<- k,List.length_map]))⟩
  ·cases e
def zA:List PV->Option PV
 |[.lst xs]=>some (.lst xs)
 |[.tup xs]=>some (.lst xs)
 |_=>none
instance {K:Fg}:Vr (Bm K) zA where
 h:=fun {xs z} e {Hs H vs} s r {Q} q=>by
  unfold zA at e;split at e
  ·cases e;obtain ⟨v,rfl,a⟩:=zF r;obtain ⟨p,ws,rfl,e1,r1⟩:=qK s a;exact ⟨p,ws,rfl,.inl (SqL.of e1),fun l hl=>q l _ _ (.newO s hl) hl (s.free hl) ⟨ws,u8,r1⟩⟩
  ·cases e;obtain ⟨v,rfl,a⟩:=zF r;obtain ⟨p,ws,rfl,e1,r1⟩:=xF s a;exact ⟨p,ws,rfl,.inr (SqT.of e1),fun l hl=>q l _ _ (.newO s hl) hl (s.free hl) ⟨ws,u8,r1⟩⟩
  ·cases e
def tyP:PV->Option String
 | .at .non=>some "NoneType"
 | .at (.bl _)=>some "bool"
 | .at (.int _)=>some "int"
 | .at (.str _)=>some "str"
 | .lst _=>some "list"
 | .tup _=>some "tuple"
 | .dk _ _=>some "dict"
 |_=>none
theorem TN {K:Fg}{Hs H:Hp}{x:PV}{v:V}{T:String}(s:Same Hs H)(r:RepB Hs H x v)(e:tyP x=some T):xU K H v (.type T):=by
 unfold tyP at e;split at e
 ·cases e;cases m8 r;exact .non
 ·cases e;cases m8 r;exact .bl _
 ·cases e;cases m8 r;exact .int _
 ·cases e;cases m8 r;exact .str _
 ·cases e;obtain ⟨p,ws,rfl,e1,r1⟩:=qK s r;exact .lst e1
 ·cases e;obtain ⟨p,ws,rfl,e1,r1⟩:=xF s r;exact .tup e1
 ·cases e;obtain ⟨p,ws,rfl,e1,_⟩:=vZ s r;exact .dK e1
 ·cases e
def qy:List PV->Option PV
 |[x,.at (.ty n)]=>(tyP x).bind fun T=>(tyB T n).bind fun b=>some (.at (.bl b))
 |_=>none
instance {K:Fg}:QI (rIsi K) qy where
 h:=fun {xs z} e {Hs H vs} s r {Q} q=>by
  unfold qy at e;split at e
  ·obtain ⟨T,eT,e1⟩:=bind_some e;obtain ⟨b,eb,e2⟩:=bind_some e1;cases e2;obtain ⟨v,w,rfl,a,c⟩:=Rc r;cases m8 c;exact ⟨v,_,T,b,rfl,TN s a eT,eb,q _ _ _ (.refl s) (rep_at.mpr rfl)⟩
  ·cases e
def bls:List PV->Option (List Bool)
 |[]=>some []
 | .at (.bl b)::xs=>(bls xs).map (b::·)
 |_::_=>none
theorem UW:∀{xs:List PV}{bs:List Bool},bls xs=some bs->xs=bs.map fun b=> .at (.bl b)
 |[],_,h=>by cases h;rfl
 |x::xs,bs,h=>by
  unfold bls at h;split at h
  ·rename_i heq;cases heq
  ·rename_i b ys heq;injection heq with h1 h2;obtain ⟨r,e,rfl⟩:=Option.map_eq_some_iff.mp h;subst h2;rw [h1,List.map_cons,UW e]
  ·cases h
def vc:List PV->Option (List Int)
 |[]=>some []
 | .at (.int b)::xs=>(vc xs).map (b::·)
 |_::_=>none
theorem GV:∀{xs:List PV}{bs:List Int},vc xs=some bs->xs=bs.map fun b=> .at (.int b)
 |[],_,h=>by cases h;rfl
 |x::xs,bs,h=>by
  unfold vc at h;split at h
  ·rename_i heq;cases heq
  ·rename_i b ys heq;injection heq with h1 h2;obtain ⟨r,e,rfl⟩:=Option.map_eq_some_iff.mp h;subst h2;rw [h1,List.map_cons,GV e]
  ·cases h
def ze:List PV->Option PV
 |[.lst xs]=>(bls xs).bind fun bs=>some (.at (.bl (bs.all id)))
 |_=>none
instance {K:Fg}:QI (Bf K) ze where
 h:=fun {xs z} e {Hs H vs} s r {Q} q=>by
  unfold ze at e;split at e
  ·obtain ⟨bs,eb,e1⟩:=bind_some e;cases e1;obtain ⟨v,rfl,a⟩:=zF r;obtain ⟨p,ws,rfl,e1,r1⟩:=qK s a;rw [UW eb,show (bs.map fun b=>PV.at (.bl b))=(bs.map V.bl).map .at by rw [List.map_map];rfl] at r1;cases r1.ats;exact ⟨p,bs,rfl,SqL.of e1,q _ _ _ (.refl s) (rep_at.mpr rfl)⟩
  ·cases e
def vI:PV->Bool
 | .at .non=>true
 |_=>false
def QV:PV->Bool
 | .op _=>true
 |_=>false
def Xq:PV->PV->Option PV:=fun x y=>if vI y=true/\QV x=false then some (.at (.bl (vI x))) else none
def vU:PV->PV->Option PV:=fun x y=>if vI y=true/\QV x=false then some (.at (.bl (!vI x))) else none
theorem Zv {Hs H:Hp}{x:PV}{v:V}(s:Same Hs H)(r:RepB Hs H x v)(ho:QV x=false):decide (v = .non)=vI x:=by
 cases x with
 |«at» u=>cases m8 r;cases v<;>first|rfl|(exact decide_eq_false (fun z=>nomatch z))
 |tup xs=>obtain ⟨p,ws,rfl,_⟩:=xF s r;exact decide_eq_false (fun z=>nomatch z)
 |lst xs=>obtain ⟨p,ws,rfl,_⟩:=qK s r;exact decide_eq_false (fun z=>nomatch z)
 |dk ks xs=>obtain ⟨p,ws,rfl,_⟩:=vZ s r;exact decide_eq_false (fun z=>nomatch z)
 |fk ks xs=>obtain ⟨p,o,ws,rfl,_⟩:=Jc s r;exact decide_eq_false (fun z=>nomatch z)
 |ob C ns xs=>obtain ⟨p,dx,ws,rfl,_⟩:=Bx s r;exact decide_eq_false (fun z=>nomatch z)
 |op φ=>cases ho
instance:xT rIsN Xq where
 h:=fun {x y z} e {Hs H v w} s a b {Q} q=>by
  unfold Xq at e;split at e
  ·rename_i hy;cases e;have hb:QV y=false:=by cases y<;>first|rfl|(exact absurd hy.1 (by simp [vI]))
   refine ⟨of_decide_eq_true ((Zv s b hb).trans hy.1),?_⟩;rw [Zv s a hy.2];exact q _ _ _ (.refl s) (rep_at.mpr rfl)
  ·cases e
instance:xT Bn vU where
 h:=fun {x y z} e {Hs H v w} s a b {Q} q=>by
  unfold vU at e;split at e
  ·rename_i hy;cases e;have hb:QV y=false:=by cases y<;>first|rfl|(exact absurd hy.1 (by simp [vI]))
   refine ⟨of_decide_eq_true ((Zv s b hb).trans hy.1),?_⟩;rw [Zv s a hy.2];exact q _ _ _ (.refl s) (rep_at.mpr rfl)
  ·cases e
def zV (f:PV->PV->Option Bool):List PV->List PV->Option Bool
 |x::xs,y::ys=>(f x y).bind fun a=>(zV f xs ys).bind fun b=>some (a&&b)
 |_,_=>some true
def peq0:PV->PV->Option Bool
 | .at u,.at v=>if p7 u=true/\p7 v=true then some (qu u v) else none
 |_,_=>none
def peq1 (f:PV->PV->Option Bool):PV->PV->Option Bool
 | .at u,.at v=>if p7 u=true/\p7 v=true then some (qu u v) else none
 | .lst xs,.lst ys=>if xs.length=ys.length then zV f xs ys else some false
 | .tup xs,.tup ys=>(zV f xs ys).bind fun b=>some (b&&xs.length==ys.length)
 | .lst _,.tup _=>some false
 | .tup _,.lst _=>some false
 | .at u,.lst _=>if p7 u=true then some false else none
 | .at u,.tup _=>if p7 u=true then some false else none
 | .lst _,.at u=>if p7 u=true then some false else none
 | .tup _,.at u=>if p7 u=true then some false else none
 |_,_=>none
def peq:Nat->PV->PV->Option Bool
 |0=>peq0
 |n+1=>peq1 (peq n)
theorem WO {K:Fg}{Hs H:Hp}{n:Nat}(s:Same Hs H)(ih:∀{x y:PV}{v w:V}{b:Bool},peq n x y=some b->Rep Hs x v->Rep Hs y w->EqP K H n v w b):∀{xs ys:List PV}{vs ws:List V}{b:Bool},zV (peq n) xs ys=some b->Reps Hs xs vs->Reps Hs ys ws->∃ e:Nat->Bool,(∀ j (h1:j<vs.length) (h2:j<ws.length),EqP K H n vs[j] ws[j] (e j))/\b=(List.range (min vs.length ws.length)).all e
 |[],ys,vs,ws,b,h,r1,r2=>by
  cases reps_nil.mp r1;unfold zV at h;cases h;exact ⟨fun _=>true,fun j h1=>absurd h1 (Nat.not_lt_zero _),by simp⟩
 |x::xs,[],vs,ws,b,h,r1,r2=>by
  cases reps_nil.mp r2;unfold zV at h;cases h;exact ⟨fun _=>true,fun j h1 h2=>absurd h2 (Nat.not_lt_zero _),by simp⟩
 |x::xs,y::ys,vs,ws,b,h,r1,r2=>by
  obtain ⟨v,vr,rfl,p1,q1⟩:=reps_cons.mp r1;obtain ⟨w,wr,rfl,p2,q2⟩:=reps_cons.mp r2;unfold zV at h;obtain ⟨a,ea,h1⟩:=bind_some h;obtain ⟨c,ec,h2⟩:=bind_some h1;cases h2;obtain ⟨e,he,hb⟩:=WO s ih ec q1 q2;refine ⟨fun j=>match j with|0=>a|j+1=>e j,fun j h1 h2=>?_,?_⟩
  ·cases j with
   |zero=>exact ih ea p1 p2
   |succ j=>exact he j (by simpa using h1) (by simpa using h2)
  ·rw [List.length_cons,List.length_cons,Nat.succ_min_succ,List.range_succ_eq_map,List.all_cons,List.all_map,hb];rfl
theorem WN {K:Fg}{Hs H:Hp}(s:Same Hs H):∀(n:Nat){x y:PV}{v w:V}{b:Bool},peq n x y=some b->RepB Hs H x v->RepB Hs H y w->EqP K H n v w b
 |0,x,y,v,w,b,h,r1,r2=>by
  unfold peq peq0 at h;split at h
  ·split at h
   ·rename_i hf;cases h;cases m8 r1;cases m8 r2;exact ⟨hf.1,hf.2,rfl⟩
   ·cases h
  ·cases h
 |n+1,x,y,v,w,b,h,r1,r2=>by
  have ih:∀{x y:PV}{v w:V}{b:Bool},peq n x y=some b->Rep Hs x v->Rep Hs y w->EqP K H n v w b:=fun h r1 r2=>WN s n h (.inl r1) (.inl r2);unfold peq peq1 at h;split at h
  ·split at h
   ·rename_i hf;cases h;cases m8 r1;cases m8 r2;exact .inl ⟨hf.1,hf.2,rfl⟩
   ·cases h
  ·obtain ⟨a,vs,rfl,e1,q1⟩:=qK s r1;obtain ⟨c,ws,rfl,e2,q2⟩:=qK s r2;refine .inr (.inl ⟨a,c,vs,ws,rfl,rfl,SqL.of e1,SqL.of e2,?_⟩);split at h
   ·rename_i hl;obtain ⟨e,he,hb⟩:=WO s ih h q1 q2;have hl':vs.length=ws.length:=by rw [q1.length,q2.length,hl]
    exact .inr ⟨hl',e,he,by rw [hb,<- hl',Nat.min_self]⟩
   ·rename_i hl;cases h;exact .inl ⟨by rw [q1.length,q2.length];exact hl,rfl⟩
  ·obtain ⟨a,vs,rfl,e1,q1⟩:=xF s r1;obtain ⟨c,ws,rfl,e2,q2⟩:=xF s r2;obtain ⟨d,ed,h1⟩:=bind_some h;cases h1;obtain ⟨e,he,hb⟩:=WO s ih ed q1 q2;exact .inr (.inr (.inl ⟨a,c,vs,ws,rfl,rfl,SqT.of e1,SqT.of e2,e,he,by rw [hb,q1.length,q2.length]⟩))
  ·cases h;obtain ⟨a,vs,rfl,e1,q1⟩:=qK s r1;obtain ⟨c,ws,rfl,e2,q2⟩:=xF s r2;exact .inr (.inr (.inr (.inl ⟨a,c,vs,ws,rfl,rfl,SqL.of e1,SqT.of e2,rfl⟩)))
  ·cases h;obtain ⟨a,vs,rfl,e1,q1⟩:=xF s r1;obtain ⟨c,ws,rfl,e2,q2⟩:=qK s r2;exact .inr (.inr (.inr (.inr (.inl ⟨a,c,vs,ws,rfl,rfl,SqT.of e1,SqL.of e2,rfl⟩))))
  ·split at h
   ·rename_i hf;cases h;cases m8 r1;obtain ⟨c,ws,rfl,e2,q2⟩:=qK s r2;exact .inr (.inr (.inr (.inr (.inr (.inl ⟨c,ws,hf,rfl,.inl (SqL.of e2),rfl⟩)))))
   ·cases h
  ·split at h
   ·rename_i hf;cases h;cases m8 r1;obtain ⟨c,ws,rfl,e2,q2⟩:=xF s r2;exact .inr (.inr (.inr (.inr (.inr (.inl ⟨c,ws,hf,rfl,.inr (SqT.of e2),rfl⟩)))))
   ·cases h
  ·split at h
   ·rename_i hf;cases h;cases m8 r2;obtain ⟨c,ws,rfl,e2,q2⟩:=qK s r1;exact .inr (.inr (.inr (.inr (.inr (.inr ⟨c,ws,hf,rfl,.inl (SqL.of e2),rfl⟩)))))
   ·cases h
  ·split at h
   ·rename_i hf;cases h;cases m8 r2;obtain ⟨c,ws,rfl,e2,q2⟩:=xF s r1;exact .inr (.inr (.inr (.inr (.inr (.inr ⟨c,ws,hf,rfl,.inr (SqT.of e2),rfl⟩)))))
   ·cases h
  ·cases h
def qX:PV->PV->Option PV:=fun x y=>(peq 6 x y).bind fun b=>some (.at (.bl b))
def qP:PV->PV->Option PV:=fun x y=>(peq 6 x y).bind fun b=>some (.at (.bl (!b)))
instance {K:Fg}:xT (rEqD K 6 false) qX where
 h:=fun {x y z} e {Hs H v w} s a b {Q} q=>by
  obtain ⟨c,ec,e1⟩:=bind_some e;cases e1;exact ⟨c,WN s 6 ec a b,q _ _ _ (.refl s) (rep_at.mpr rfl)⟩
instance {K:Fg}:xT (rEqD K 6 true) qP where
 h:=fun {x y z} e {Hs H v w} s a b {Q} q=>by
  obtain ⟨c,ec,e1⟩:=bind_some e;cases e1;exact ⟨c,WN s 6 ec a b,q _ _ _ (.refl s) (rep_at.mpr rfl)⟩
class wB (to:TO)(f:ME->Option (Option Int)):Prop where
 h:∀{ε y},f ε=some y->∀{Hs0 H0 Hs H Z},RS Hs0 H0 Hs H Z ε->∀{Q:Option Int->Hp->Prop},(∀ Hs' H',Ext Hs H Hs' H'->Q y H')->to Z H Q
def pNo:ME->Option (Option Int):=fun _=>some none
def pInt:PV->Option Int
 | .at (.int i)=>some i
 |_=>none
def pSo (a:M):ME->Option (Option Int):=fun ε=>(a ε).bind fun x=>(pInt x).bind fun i=>some (some i)
instance:wB Pb pNo where
 h:=fun e _ _ _ _ _ rs _ q=>by cases e;exact q _ _ (.refl rs.sub)
instance {te:TE}{a:M}[sa:qr te a]:wB (Pd te) (pSo a) where
 h:=fun e _ _ _ _ _ rs _ q=>by
  obtain ⟨x,ex,e1⟩:=bind_some e;obtain ⟨i,ei,e2⟩:=bind_some e1;cases e2;unfold pInt at ei;split at ei
  ·cases ei;exact sa.h ex rs fun v Hs1 H1 x1 r1=>⟨_,m8 r1,q _ _ x1⟩
  ·cases ei
def zL (xs:List PV)(lo hi:Option Int):List PV:=(xs.drop (HT.sIx xs.length 0 lo)).take (HT.sIx xs.length xs.length hi-HT.sIx xs.length 0 lo)
theorem Reps.cut {H:Hp}{xs:List PV}{vs:List V}(r:Reps H xs vs)(lo hi:Option Int):Reps H (zL xs lo hi) (wG vs lo hi):=by unfold zL wG;rw [r.length];exact (r.drop _).take _
def jC (a:M)(l u:ME->Option (Option Int)):M:=fun ε=>(a ε).bind fun x=>(l ε).bind fun lo=>(u ε).bind fun hi=>match x with
 | .lst xs=>some (.lst (zL xs lo hi))
 |_=>none
instance {K:Fg}{te:TE}{tl th:TO}{a:M}{l u:ME->Option (Option Int)}[sa:qr te a][sl:wB tl l][su:wB th u]:zi (tSl (rSlL K) te tl th) (jC a l u) where
 h:=fun e _ _ _ _ _ rs _ q=>by
  obtain ⟨x,ex,e1⟩:=bind_some e;obtain ⟨lo,el,e2⟩:=bind_some e1;obtain ⟨hi,eu,e3⟩:=bind_some e2;split at e3
  ·cases e3;refine sa.h ex rs fun v Hs1 H1 x1 r1=>sl.h el (rs.go x1) fun Hs2 H2 x2=>su.h eu ((rs.go x1).go x2) fun Hs3 H3 x3=>?_;obtain ⟨p,vs,rfl,e1,r⟩:=qK x3.s3 ((r1.ext x2).ext x3);have x13:=x1.trans (x2.trans x3);exact ⟨p,vs,rfl,SqL.of e1,fun d hd=>q d _ _ (x13.trans (.newO x3.s3 hd)) (x13.s2.free hd) (x3.s3.free hd) ⟨_,u8,r.cut lo hi⟩⟩
  ·cases e3
def xJ (n:Nat):List PV->List PV
 |[]=>[]
 |x::xs=> .tup [.at (.int n),x]::xJ (n+1) xs
theorem GE:∀{xs:List PV}{n i:Nat}{z:PV},(xJ n xs)[i]?=some z->∃ x,xs[i]?=some x/\z = .tup [.at (.int ((n+i:Nat):Int)),x]
 |[],n,i,z,h=>by simp [xJ] at h
 |x::xs,n,0,z,h=>by simp [xJ] at h;exact ⟨x,rfl,h.symm⟩
 |x::xs,n,i+1,z,h=>by
  obtain ⟨y,h1,h2⟩:=GE (xs:=xs) (n:=n+1) (i:=i) (z:=z) (by simpa [xJ] using h);exact ⟨y,by simpa using h1,by rw [h2,show n+1+i=n+(i+1) by omega]⟩
theorem GF:∀{xs:List PV}{n:Nat},(xJ n xs).length=xs.length
 |[],_=>rfl
 |x::xs,n=>by simp [xJ,GF]
theorem Mw {K:Fg}{a:Addr}{xs:List PV}{vs:List V}{Hs:Hp}(h:Hs a=some (.lst vs))(r:Reps Hs xs vs):jx (Ite K a) (xJ 0 xs) Hs where
 go:=fun i x Hs1 H1 e g1 g2=>by
  obtain ⟨y,ey,rfl⟩:=GE e;obtain ⟨v,ev,rv⟩:=r.get ey;refine ⟨⟨vs,v,SqL.of (g2 _ _ (g1 _ _ h)),ev⟩,fun w H2 z=>?_⟩;obtain ⟨p,u,hp,rfl,rfl,hu⟩:=z;have e1:=hu vs (SqL.of (g2 _ _ (g1 _ _ h)));rw [ev] at e1;cases e1;refine ⟨_,.new g2 hp,rep_tup.mpr ⟨p,_,rfl,u8,.cons (rep_at.mpr (by rw [Nat.zero_add])) (.one (rv.mono (g1.trans (Ext.new g2 hp).s1)))⟩⟩
 stop:=fun Hs1 H1 g1 g2=>⟨vs,SqL.of (g2 _ _ (g1 _ _ h)),by rw [r.length,GF];exact Nat.le_refl _⟩
def wJ (a:MA):MA:=fun ε=>(a ε).bind fun xs=>match xs with
 |[.lst ys]=>some (xJ 0 ys)
 |_=>none
instance {K:Fg}{ta:TA}{a:MA}[sa:xy ta a]:jb (Wc K ta) (wJ a) where
 h:=fun e _ _ _ _ _ rs _ q=>by
  obtain ⟨xs,ex,e1⟩:=bind_some e;split at e1
  ·cases e1;refine sa.h ex rs fun vs Hs1 H1 x1 r1=>?_;obtain ⟨v,r,rfl,p1,p2⟩:=reps_cons.mp r1;cases reps_nil.mp p2;obtain ⟨p,ws,rfl,hp,rw⟩:=rep_lst.mp p1;exact ⟨p,rfl,⟨ws,SqL.of (x1.s3 _ _ hp)⟩,q _ _ _ x1 (Mw hp rw)⟩
  ·cases e1
def xH:List PV->List PV->List PV
 |x::xs,y::ys=> .tup [x,y]::xH xs ys
 |_,_=>[]
theorem PL:∀{xs ys:List PV}{i:Nat}{z:PV},(xH xs ys)[i]?=some z->∃ x y,xs[i]?=some x/\ys[i]?=some y/\z = .tup [x,y]
 |[],_,i,z,h=>by simp [xH] at h
 |_::_,[],i,z,h=>by simp [xH] at h
 |x::xs,y::ys,0,z,h=>by simp [xH] at h;exact ⟨x,y,rfl,rfl,h.symm⟩
 |x::xs,y::ys,i+1,z,h=>by
  obtain ⟨u,v,h1,h2,h3⟩:=PL (xs:=xs) (ys:=ys) (i:=i) (z:=z) (by simpa [xH] using h);exact ⟨u,v,by simpa using h1,by simpa using h2,h3⟩
theorem PM:∀{xs ys:List PV},(xH xs ys).length=min xs.length ys.length
 |[],_=>by simp [xH]
 |_::_,[]=>by simp [xH]
 |x::xs,y::ys=>by simp [xH,PM,Nat.succ_min_succ]
theorem MH {K:Fg}{a b:Addr}{xs ys:List PV}{vs ws:List V}{Hs:Hp}(h:Hs a=some (.lst vs))(r:Reps Hs xs vs)(h':Hs b=some (.lst ws))(r':Reps Hs ys ws):jx (Itz K a b) (xH xs ys) Hs where
 go:=fun i x Hs1 H1 e g1 g2=>by
  obtain ⟨y,z,ey,ez,rfl⟩:=PL e;obtain ⟨v,ev,rv⟩:=r.get ey;obtain ⟨w,ew,rw⟩:=r'.get ez;have q1:SqL K H1 a vs:=SqL.of (g2 _ _ (g1 _ _ h));have q2:SqL K H1 b ws:=SqL.of (g2 _ _ (g1 _ _ h'));refine ⟨⟨vs,ws,v,w,q1,q2,ev,ew⟩,fun u H2 z=>?_⟩;obtain ⟨p,v',w',hp,rfl,rfl,hv,hw⟩:=z;have e1:=hv vs q1;have e2:=hw ws q2;rw [ev] at e1;rw [ew] at e2;cases e1;cases e2;have g3:=g1.trans (Ext.new (o:= .tup [v,w]) g2 hp).s1;exact ⟨_,.new g2 hp,rep_tup.mpr ⟨p,_,rfl,u8,.cons (rv.mono g3) (.one (rw.mono g3))⟩⟩
 stop:=fun Hs1 H1 g1 g2=>⟨vs,ws,SqL.of (g2 _ _ (g1 _ _ h)),SqL.of (g2 _ _ (g1 _ _ h')),by rw [r.length,r'.length,PM];omega⟩
def wN (a:MA):MA:=fun ε=>(a ε).bind fun xs=>match xs with
 |[.lst ys,.lst zs]=>some (xH ys zs)
 |_=>none
instance {K:Fg}{ta:TA}{a:MA}[sa:xy ta a]:jb (iZip K ta) (wN a) where
 h:=fun e _ _ _ _ _ rs _ q=>by
  obtain ⟨xs,ex,e1⟩:=bind_some e;split at e1
  ·cases e1;refine sa.h ex rs fun vs Hs1 H1 x1 r1=>?_;obtain ⟨v,r,rfl,p1,p2⟩:=reps_cons.mp r1;obtain ⟨v',r',rfl,p3,p4⟩:=reps_cons.mp p2;cases reps_nil.mp p4;obtain ⟨p,ws,rfl,hp,rw1⟩:=rep_lst.mp p1;obtain ⟨p',ws',rfl,hp',rw2⟩:=rep_lst.mp p3;exact ⟨p,p',rfl,⟨ws,SqL.of (x1.s3 _ _ hp)⟩,⟨ws',SqL.of (x1.s3 _ _ hp')⟩,q _ _ _ x1 (MH hp rw1 hp' rw2)⟩
  ·cases e1
end Mi
namespace Mi
open PySem L2
structure RD (S:List Addr)(Hs0 H0 Hs H:Hp)(Z:St)(ε:ME):Prop where
 s1:Same Hs0 Hs
 s2:∀ b o,H0 b=some o->b∉S->H b=some o
 s3:Same Hs H
 s4:∀ b,H0 b≠none->Hs0 b=none->Hs b=none
 sh:∀(i:Nat)(x:PV),ε[i]?=some (.sh x)->∃ v,Z[i]?=some (some v)/\Rep Hs x v
 ow:∀(i:Nat)(x:PV),ε[i]?=some (.ow x)->∃ a,Z[i]?=some (some (.ref a))/\(H0 a=none∨a∈S)/\Hs a=none/\Top Hs H a x
 nd:∀(i j:Nat)(x y:PV)(a:Addr),ε[i]?=some (.ow x)->ε[j]?=some (.ow y)->Z[i]?=some (some (.ref a))->Z[j]?=some (some (.ref a))->i=j
 len:Z.length=ε.length
 pin:∀ a∈S,Z[0]?=some (some (.ref a))
 live:∀ a∈S,H a≠none
 str:∀ a∈S,∃ y,ε[0]?=some (.ow y)
 nb:∀(i:Nat)(x:PV),ε[i]?≠some (.bo x)
section
variable {S:List Addr}{Hs0 H0 Hs H Hs' H':Hp}{Z:St}{ε:ME}
theorem RD.rs (r:RD S Hs0 H0 Hs H Z ε):RS Hs Hs Hs H Z ε where
 ext:=⟨.refl _,r.s3,r.s3,fun _ h z=>absurd z h⟩
 sh:=r.sh
 ow:=fun i x h=>by obtain ⟨a,h1,_,h3,h4⟩:=r.ow i x h;exact ⟨a,h1,h3,h3,h4⟩
 nd:=r.nd
 len:=r.len
 bo:=fun i x h=>absurd h (r.nb i x)
theorem RD.there (r:RD S Hs0 H0 Hs H Z ε){b:Addr}(h:H0 b≠none):H b≠none:=by
 by_cases hS:b∈S
 ·exact r.live b hS
 ·cases q:H0 b with
  |none=>exact absurd q h
  |some o=>rw [r.s2 b o q hS];exact fun z=>nomatch z
theorem RD.go (r:RD S Hs0 H0 Hs H Z ε)(e:Ext Hs H Hs' H'):RD S Hs0 H0 Hs' H' Z ε where
 s1:=r.s1.trans e.s1
 s2:=fun b o h n=>e.s2 _ _ (r.s2 b o h n)
 s3:=e.s3
 s4:=fun b h z=>e.s4 b (r.there h) (r.s4 b h z)
 sh:=fun i x q=>by obtain ⟨v,a,b⟩:=r.sh i x q;exact ⟨v,a,b.mono e.s1⟩
 ow:=fun i x q=>by
  obtain ⟨a,b,n0,n,t⟩:=r.ow i x q;exact ⟨a,b,n0,e.s4 a t.there n,t.mono e.s1 fun o z=>e.s2 _ _ z⟩
 nd:=r.nd
 len:=r.len
 pin:=r.pin
 live:=fun a h=>BN e.s2 (r.live a h)
 str:=r.str
 nb:=r.nb
theorem RD.change (r:RD S Hs0 H0 Hs H Z ε){i:Nat}{x y:PV}{a:Addr}{o:HO}(hi:ε[i]?=some (.ow x))(ha:Z[i]?=some (some (.ref a)))(t:Top Hs (v8 H a o) a y):RD S Hs0 H0 Hs (v8 H a o) Z (ε.set i (.ow y)):=by
 obtain ⟨b,hb,n0,n,tx⟩:=r.ow i x hi;rw [ha] at hb;injection hb with hb;injection hb with hb;injection hb with hb;subst hb;have q:=(r.rs).change hi ha t;refine ⟨r.s1,fun b u e hS=>?_,fun b u e=>?_,r.s4,q.sh,fun j z hz=>?_,q.nd,q.len,r.pin,fun b hS=>?_,fun b hS=>?_,Qk r.nb fun _ z=>nomatch z⟩
 ·have hne:b≠a:=fun z=>by
   rcases n0 with n0|n0
   ·rw [z,n0] at e;cases e
   ·exact hS (z▸n0)
  rw [j7 hne];exact r.s2 b u e hS
 ·rw [j7 (p5 e n)];exact r.s3 _ _ e
 ·obtain ⟨c,hc,m1,m2,tc⟩:=q.ow j z hz;refine ⟨c,hc,?_,m2,tc⟩;rw [List.getElem?_set] at hz;split at hz
  ·rename_i hij;rw [<- hij,ha] at hc;injection hc with hc;injection hc with hc;injection hc with hc;rw [<- hc];exact n0
  ·obtain ⟨d,hd,m0,_⟩:=r.ow j z hz;rw [hd] at hc;injection hc with hc;injection hc with hc;injection hc with hc;rw [<- hc];exact m0
 ·by_cases hba:b=a
  ·rw [hba,u8];exact fun z=>nomatch z
  ·rw [j7 hba];exact r.live b hS
 ·obtain ⟨y',hy⟩:=r.str b hS;rw [List.getElem?_set];split
  ·rename_i h0;rw [if_pos (by rw [h0];exact (List.getElem?_eq_some_iff.mp hy).1)];exact ⟨y,rfl⟩
  ·exact ⟨y',hy⟩
theorem RD.put (r:RD S Hs0 H0 Hs H Z ε){i:Nat}{x:PV}{v:V}(h:Rep Hs x v):RD S Hs0 H0 Hs H (Z.set (i+1) (some v)) (ε.set (i+1) (.sh x)):=by
 have q:=(r.rs).put (i:=i+1) h;refine ⟨r.s1,r.s2,r.s3,r.s4,q.sh,fun j z hz=>?_,q.nd,q.len,fun a hS=>by rw [List.getElem?_set_ne (by omega)];exact r.pin a hS,r.live,fun a hS=>by rw [List.getElem?_set_ne (by omega)];exact r.str a hS,Qk r.nb fun _ z=>nomatch z⟩;obtain ⟨c,hc,m1,m2,tc⟩:=q.ow j z hz;refine ⟨c,hc,?_,m2,tc⟩;rw [List.getElem?_set] at hz hc;split at hz
 ·split at hz<;>cases hz
 ·rename_i hij;rw [if_neg hij] at hc;obtain ⟨d,hd,m0,_⟩:=r.ow j z hz;rw [hd] at hc;injection hc with hc;injection hc with hc;injection hc with hc;rw [<- hc];exact m0
theorem RD.putO (r:RD S Hs0 H0 Hs H Z ε){i:Nat}{x:PV}{a:Addr}(h0:H0 a=none∨a∈S)(h1:Hs a=none)(h2:Top Hs H a x)(ne:∀(j:Nat)(y:PV),ε[j]?=some (.ow y)->Z[j]?≠some (some (.ref a))):RD S Hs0 H0 Hs H (Z.set (i+1) (some (.ref a))) (ε.set (i+1) (.ow x)):=by
 have q:=(r.rs).putO (i:=i+1) ⟨h1,h1,h2⟩ ne;refine ⟨r.s1,r.s2,r.s3,r.s4,q.sh,fun j z hz=>?_,q.nd,q.len,fun a hS=>by rw [List.getElem?_set_ne (by omega)];exact r.pin a hS,r.live,fun a hS=>by rw [List.getElem?_set_ne (by omega)];exact r.str a hS,Qk r.nb fun _ z=>nomatch z⟩;obtain ⟨c,hc,m1,m2,tc⟩:=q.ow j z hz;refine ⟨c,hc,?_,m2,tc⟩;rw [List.getElem?_set] at hz hc;split at hz
 ·rename_i hij;rw [if_pos hij] at hc;split at hc
  ·injection hc with hc;injection hc with hc;injection hc with hc;rw [<- hc];exact h0
  ·cases hc
 ·rename_i hij;rw [if_neg hij] at hc;obtain ⟨d,hd,m0,_⟩:=r.ow j z hz;rw [hd] at hc;injection hc with hc;injection hc with hc;injection hc with hc;rw [<- hc];exact m0
theorem RD.free0 (r:RD S Hs0 H0 Hs H Z ε){a:Addr}(h:H a=none):H0 a=none:=by
 cases q:H0 a with
 |none=>rfl
 |some o=>exact absurd h (r.there (by rw [q];exact fun z=>nomatch z))
theorem RD.freeze (r:RD S Hs0 H0 Hs H Z ε)(i:Nat):∃ Hs',Same Hs Hs'/\RD S Hs0 H0 Hs' H Z (fz (i+1) ε):=by
 by_cases h:∃ x,ε[i+1]?=some (.ow x)
 ·obtain ⟨x,hi⟩:=h;obtain ⟨a,ha,n0,n,t⟩:=r.ow (i+1) x hi;have hS:a∉S:=fun hS=>by
   obtain ⟨y,hy⟩:=r.str a hS;exact absurd (r.nd 0 (i+1) y x a hy hi (r.pin a hS) ha) (by omega)
  obtain ⟨o,ho,hr⟩:=t.rep n;have g:Same Hs (v8 Hs a o):=fun b u e=>by rw [j7 (p5 e n)];exact e
  have ef:fz (i+1) ε=ε.set (i+1) (.sh x):=by unfold fz;rw [hi]
  have n0':H0 a=none:=n0.resolve_right hS;rw [ef];have dn:∀(j:Nat)(y:PV),(ε.set (i+1) (.sh x))[j]?=some (.ow y)->i+1≠j/\ε[j]?=some (.ow y):=fun j y q=>by
   rw [List.getElem?_set] at q;split at q
   ·split at q<;>cases q
   ·rename_i hij;exact ⟨hij,q⟩
  refine ⟨v8 Hs a o,g,r.s1.trans g,r.s2,fun b u e=>?_,fun b h z=>?_,fun j y q=>?_,fun j y q=>?_,fun j k z z' c h1 h2 h3 h4=>r.nd j k z z' c (dn j z h1).2 (dn k z' h2).2 h3 h4,by rw [List.length_set,r.len],r.pin,r.live,(fun b hb=>by rw [List.getElem?_set_ne (by omega)];exact r.str b hb),Qk r.nb fun _ z=>nomatch z⟩
  ·by_cases hb:b=a
   ·subst hb;rw [u8] at e;cases e;exact ho
   ·rw [j7 hb] at e;exact r.s3 _ _ e
  ·have hb:b≠a:=fun e=>h (e▸n0');rw [j7 hb];exact r.s4 b h z
  ·rw [List.getElem?_set] at q;split at q
   ·rename_i hij;split at q
    ·injection q with q;injection q with q;subst q;exact ⟨.ref a,hij▸ha,hr⟩
    ·cases q
   ·obtain ⟨v,e,w⟩:=r.sh j y q;exact ⟨v,e,w.mono g⟩
  ·obtain ⟨hij,hq⟩:=dn j y q;obtain ⟨c,hc,m0,m,tc⟩:=r.ow j y hq;have hne:c≠a:=fun e=>hij (r.nd (i+1) j x y a hi hq ha (e▸hc));exact ⟨c,hc,m0,by rw [j7 hne];exact m,tc.mono g fun _ e=>e⟩
 ·refine ⟨Hs,.refl _,?_⟩;unfold fz;split
  ·rename_i x hx;exact absurd ⟨x,hx⟩ h
  ·exact r
end
abbrev W:=ME->(PV->ME->Prop)->Prop
abbrev WA:=ME->(List PV->ME->Prop)->Prop
abbrev WT:=ME->(Bool->ME->Prop)->Prop
abbrev WS:=ME->(ME->Prop)->(PV->ME->Prop)->Prop
class SemW (te:TE)(w:W):Prop where
 h:∀{ε Q'},w ε Q'->∀{S Hs0 H0 Hs H Z},RD S Hs0 H0 Hs H Z ε->∀{Q:VK},(∀ y ε' v Hs' H',Q' y ε'->RD S Hs0 H0 Hs' H' Z ε'->Same Hs Hs'->Rep Hs' y v->Q v H')->te Z H Q
class vB (ta:TA)(w:WA):Prop where
 h:∀{ε Q'},w ε Q'->∀{S Hs0 H0 Hs H Z},RD S Hs0 H0 Hs H Z ε->∀{Q:List V->Hp->Prop},(∀ ys ε' vs Hs' H',Q' ys ε'->RD S Hs0 H0 Hs' H' Z ε'->Same Hs Hs'->Reps Hs' ys vs->Q vs H')->ta Z H Q
class QJ (tt:TT)(w:WT):Prop where
 h:∀{ε Q'},w ε Q'->∀{S Hs0 H0 Hs H Z},RD S Hs0 H0 Hs H Z ε->∀{Q:Bool->Hp->Prop},(∀ b ε' Hs' H',Q' b ε'->RD S Hs0 H0 Hs' H' Z ε'->Same Hs Hs'->Q b H')->tt Z H Q
class SemWS (ts:TS)(w:WS):Prop where
 h:∀{ε N R},w ε N R->∀{S Hs0 H0 Hs H Z},RD S Hs0 H0 Hs H Z ε->∀{D:zu},(∀ ε' σ' Hs' H',N ε'->RD S Hs0 H0 Hs' H' σ' ε'->Same Hs Hs'->D.nx σ' H') ->
  (∀ y ε' σ' v Hs' H',R y ε'->RD S Hs0 H0 Hs' H' σ' ε'->Same Hs Hs'->Rep Hs' y v->D.rt v H')->ts D Z H
def wP (f:M):W:=fun ε Q=>∃ y,f ε=some y/\Q y ε
def wPT (f:MB):WT:=fun ε Q=>∃ y,f ε=some y/\Q y ε
instance (priority:=50){te:TE}{f:M}[s:SemE te f]:SemW te (wP f) where
 h:=fun ⟨y,e,q⟩ _ _ _ _ _ _ r _ k=>s.h e r.rs fun v Hs' H' x rv=>k y _ v Hs' H' q (r.go x) x.s1 rv
instance (priority:=50){tt:TT}{f:MB}[s:xI tt f]:QJ tt (wPT f) where
 h:=fun ⟨y,e,q⟩ _ _ _ _ _ _ r _ k=>s.h e r.rs fun Hs' H' x=>k y _ Hs' H' q (r.go x) x.s1
def xM (g:PV->PV->Option PV)(a b:W):W:=fun ε Q=>a ε fun x ε1=>b ε1 fun y ε2=>∃ z,g x y=some z/\Q z ε2
instance {r:R2}{g:PV->PV->Option PV}{ta tb:TE}{a b:W}[sr:xT r g][sa:SemW ta a][sb:SemW tb b]:SemW (tOp r ta tb) (xM g a b) where
 h:=fun h _ _ _ _ _ _ rd _ k=>sa.h h rd fun x ε1 v Hs1 H1 h1 rd1 g1 r1=>sb.h h1 rd1 fun y ε2 w Hs2 H2 h2 rd2 g2 r2=>by
  obtain ⟨z,ez,h2⟩:=h2;exact sr.h ez rd2.s3 (.inl (r1.mono g2)) (.inl r2) fun u Hs3 H3 x3 r3=>k z ε2 u Hs3 H3 h2 (rd2.go x3) (g1.trans (g2.trans x3.s1)) r3
def wT (a:W):WT:=fun ε Q=>a ε fun x ε1=>∃ b,pB x=some b/\Q b ε1
instance {te:TE}{a:W}[sa:SemW te a]:QJ (Vj te) (wT a) where
 h:=fun h _ _ _ _ _ _ rd _ k=>sa.h h rd fun x ε1 v Hs1 H1 h1 rd1 g1 r1=>by
  obtain ⟨b,eb,h2⟩:=h1;cases Qq eb;exact ⟨b,rep_at.mp r1,k b ε1 Hs1 H1 h2 rd1 g1⟩
def qT:WA:=fun ε Q=>Q [] ε
def m3 (a:W)(r:WA):WA:=fun ε Q=>a ε fun x ε1=>r ε1 fun xs ε2=>Q (x::xs) ε2
instance:vB qp qT where
 h:=fun h _ _ _ _ _ _ rd _ k=>k [] _ [] _ _ h rd (.refl _) .nil
instance {te:TE}{ta:TA}{a:W}{r:WA}[sa:SemW te a][sr:vB ta r]:vB (o8 te ta) (m3 a r) where
 h:=fun h _ _ _ _ _ _ rd _ k=>sa.h h rd fun x ε1 v Hs1 H1 h1 rd1 g1 r1=>sr.h h1 rd1 fun xs ε2 vs Hs2 H2 h2 rd2 g2 r2=>k _ ε2 _ Hs2 H2 h2 rd2 (g1.trans g2) (.cons (r1.mono g2) r2)
def QC (a:WA):W:=fun ε Q=>a ε fun xs ε1=>xs.length<=lim/\Q (.tup xs) ε1
instance {ta:TA}{a:WA}[sa:vB ta a]:SemW (tTup ta) (QC a) where
 h:=fun h _ _ _ _ _ _ rd _ k=>sa.h h rd fun xs ε1 vs Hs1 H1 h1 rd1 g1 r1=>⟨zk (r1.length▸h1.1),fun p hp=>k _ ε1 _ _ _ h1.2 (rd1.go (.new rd1.s3 hp)) (g1.trans (Ext.new rd1.s3 hp).s1) (rep_tup.mpr ⟨p,vs,rfl,u8,r1.mono (Ext.new rd1.s3 hp).s1⟩)⟩
def vp:Sp:=fun vs H Q _=>∃(a:Addr)(n m:Int),vs=[.ref a,.int m]/\H a=some (.lst [.int n])/\XN n m/\Q (.int (n % m)) (v8 H a (.lst [.int (n / m)]))
def m7 (n:Int):MSlot:= .ow (.lst [.at (.int n)])
def wTake (i:Nat)(a:W):W:=fun ε Q=>a ε fun x ε1=>∃ n k,x = .at (.int k)/\ε1[i]?=some (m7 n)/\XN n k/\Q (.at (.int (n % k))) (ε1.set i (m7 (n / k)))
theorem RD.strm_at {S:List Addr}{Hs0 H0 Hs H:Hp}{Z:St}{ε:ME}{i:Nat}{n:Int}(r:RD S Hs0 H0 Hs H Z ε)(h:ε[i]?=some (m7 n)):∃ a,Z[i]?=some (some (.ref a))/\H a=some (.lst [.int n])/\Hs a=none/\(H0 a=none∨a∈S):=by obtain ⟨a,ha,n0,n1,vs,hv,rv⟩:=r.ow i _ h;obtain ⟨v,w,rfl,p1,p2⟩:=reps_cons.mp rv;cases reps_nil.mp p2;cases rep_at.mp p1;exact ⟨a,ha,hv,n1,n0⟩
def zt (i:Nat):ME->Prop:=fun ε=>∃ n,ε[i]?=some (m7 n)
def qH (i:Nat)(a:W):W:=fun ε Q=>zt i ε/\wTake i a ε Q
instance {i:Nat}{te:TE}{a:W}{E:XK}[sa:SemW te a]:SemW (zY vp [] E (o8 (qL i) (o8 te qp))) (qH i a) where
 h:=fun h _ _ _ _ _ _ rd _ k=>by
  obtain ⟨⟨n0,hn0⟩,h⟩:=h;obtain ⟨p,hp,_⟩:=rd.strm_at hn0;refine ⟨_,hp,sa.h h rd fun x ε1 v Hs1 H1 h1 rd1 g1 r1=>?_⟩;obtain ⟨n,m,rfl,hn,hc,h2⟩:=h1;obtain ⟨p',hp',hH,hs,_⟩:=rd1.strm_at hn;rw [hp] at hp';injection hp' with hp';injection hp' with hp';injection hp' with hp';subst hp';cases rep_at.mp r1;exact ⟨p,n,m,rfl,hH,hc,k _ _ _ _ _ h2 (rd1.change hn hp ⟨_,u8,.one (rep_at.mpr rfl)⟩) g1 (rep_at.mpr rfl)⟩
end Mi
namespace Mi
open PySem L2
structure ExtD (p:Addr)(Hs H Hs' H':Hp):Prop where
 s1:Same Hs Hs'
 s2:∀ b o,H b=some o->b≠p->H' b=some o
 s3:Same Hs' H'
 s4:∀ b,H b≠none->Hs b=none->Hs' b=none
def spD (pre:List PV->Prop)(R:List PV->PV->Prop):Sp:=fun vs H Q _=>∃ Hs a n xs ws,vs = .ref a::ws/\Same Hs H/\Hs a=none/\H a=some (.lst [.int n])/\Reps Hs xs ws/\pre xs /\
 ∀ y v n' Hs' H',R xs y->ExtD a Hs H Hs' H'->Hs' a=none->H' a=some (.lst [.int n'])->Rep Hs' y v->Q v H'
section
variable {S:List Addr}{Hs0 H0 Hs H Hs' H':Hp}{Z:St}{ε:ME}
theorem RD.drawn (r:RD S Hs0 H0 Hs H Z ε){i:Nat}{n n':Int}{p:Addr}(hi:ε[i]?=some (m7 n))(hp:Z[i]?=some (some (.ref p)))(x:ExtD p Hs H Hs' H')(np:Hs' p=none)(ep:H' p=some (.lst [.int n'])):RD S Hs0 H0 Hs' H' Z (ε.set i (m7 n')):=by
 obtain ⟨p',hp',hH,hs,h0⟩:=r.strm_at hi;rw [hp] at hp';injection hp' with hp';injection hp' with hp';injection hp' with hp';subst hp';have up:∀(j:Nat)(z:PV),(ε.set i (m7 n'))[j]?=some (.ow z)->(j=i/\z = .lst [.at (.int n')])∨(j≠i/\ε[j]?=some (.ow z)):=fun j z q=>by
  rw [List.getElem?_set] at q;split at q
  ·rename_i hij;split at q
   ·injection q with q;unfold m7 at q;injection q with q;exact .inl ⟨hij.symm,q.symm⟩
   ·cases q
  ·rename_i hij;exact .inr ⟨Ne.symm hij,q⟩
 have wasOw:∀(j:Nat)(z:PV),(ε.set i (m7 n'))[j]?=some (.ow z)->∃ z',ε[j]?=some (.ow z'):=fun j z q=>by
  rcases up j z q with ⟨rfl,_⟩|⟨_,q⟩
  ·exact ⟨_,hi⟩
  ·exact ⟨z,q⟩
 refine ⟨r.s1.trans x.s1,fun b o e hS=>x.s2 b o (r.s2 b o e hS) fun z=>?_,x.s3,fun b h z=>x.s4 b (r.there h) (r.s4 b h z),fun j z q=>?_,fun j z q=>?_,fun j k z z' c h1 h2 h3 h4=>?_,by rw [List.length_set,r.len],r.pin,fun b hS=>?_,fun b hS=>?_,Qk r.nb fun _ z=>by unfold m7 at z;cases z⟩
 ·rcases h0 with h0|h0
  ·rw [z,h0] at e;cases e
  ·exact hS (z▸h0)
 ·rw [List.getElem?_set] at q;split at q
  ·split at q
   ·unfold m7 at q;cases q
   ·cases q
  ·obtain ⟨v,h1,h2⟩:=r.sh j z q;exact ⟨v,h1,h2.mono x.s1⟩
 ·rcases up j z q with ⟨rfl,rfl⟩|⟨hij,q⟩
  ·exact ⟨p,hp,h0,np,_,ep,.one (rep_at.mpr rfl)⟩
  ·obtain ⟨c,hc,m0,m1,tc⟩:=r.ow j z q;have hne:c≠p:=fun e=>hij (r.nd j i z _ p q hi (e▸hc) hp);exact ⟨c,hc,m0,x.s4 c tc.there m1,tc.mono x.s1 fun o e=>x.s2 c o e hne⟩
 ·obtain ⟨w1,q1⟩:=wasOw j z h1;obtain ⟨w2,q2⟩:=wasOw k z' h2;exact r.nd j k w1 w2 c q1 q2 h3 h4
 ·by_cases hb:b=p
  ·rw [hb,ep];exact fun z=>nomatch z
  ·have:=r.live b hS;cases q:H b with
   |none=>exact absurd q this
   |some o=>rw [x.s2 b o q hb];exact fun z=>nomatch z
 ·obtain ⟨y',hy⟩:=r.str b hS;rw [List.getElem?_set];split
  ·rename_i h0;rw [if_pos (by rw [h0];exact (List.getElem?_eq_some_iff.mp hy).1)];exact ⟨_,rfl⟩
  ·exact ⟨y',hy⟩
end
def zr (i:Nat)(pre:List PV->Prop)(R:List PV->PV->Prop)(as:WA):W:=fun ε Q=>zt i ε/\as ε fun xs ε1=>zt i ε1/\pre xs/\∀ y n',R xs y->Q y (ε1.set i (m7 n'))
instance {i:Nat}{pre:List PV->Prop}{R:List PV->PV->Prop}{ta:TA}{as:WA}{E:XK}[sa:vB ta as]:SemW (zY (spD pre R) [] E (o8 (qL i) ta)) (zr i pre R as) where
 h:=fun h _ _ _ _ _ _ rd _ k=>by
  obtain ⟨⟨n0,hn0⟩,h⟩:=h;obtain ⟨p,hp,_⟩:=rd.strm_at hn0;refine ⟨_,hp,sa.h h rd fun xs ε1 vs Hs1 H1 h1 rd1 g1 r1=>?_⟩;obtain ⟨⟨n,hn⟩,hpre,h2⟩:=h1;obtain ⟨p',hp',hH,hs,_⟩:=rd1.strm_at hn;rw [hp] at hp';injection hp' with hp';injection hp' with hp';injection hp' with hp';subst hp';refine ⟨Hs1,p,n,xs,vs,by rw [List.append_nil],rd1.s3,hs,hH,r1,hpre,fun y v n' Hs' H' hR x np ep rv=>?_⟩;exact k y _ v Hs' H' (h2 y n' hR) (rd1.drawn hn hp x np ep) (g1.trans x.s1) rv
def xS:WS:=fun ε N _=>N ε
def wSeq (a b:WS):WS:=fun ε N R=>a ε (fun ε1=>b ε1 N R) R
def qq (i:Nat)(a:W):WS:=fun ε N _=>a ε fun x ε1=>N (ε1.set i (.sh x))
def wg (i:Nat)(f:M):WS:=fun ε N _=>∃ x,f ε=some x/\N (ε.set i (.ow x))
def xb (a:W):WS:=fun ε _ R=>a ε R
def PD (a:W):WS:=fun ε N _=>a ε fun _ ε1=>N ε1
def xG (c:WT)(a b:WS):WS:=fun ε N R=>c ε fun k ε1=>if k=true then a ε1 N R else b ε1 N R
def wFz (i:Nat)(a:WS):WS:=fun ε N R=>a (fz i ε) N R
def wf (i:Nat)(a:W):WS:=fun ε N _=>(∃ xs,ε[i]?=some (.ow (.lst xs)))/\a ε fun x ε1=>∃ xs,ε1[i]?=some (.ow (.lst xs))/\xs.length<=lim/\N (ε1.set i (.ow (.lst (xs++[x]))))
instance:SemWS Yp xS where
 h:=fun h _ _ _ _ _ _ rd _ k _=>k _ _ _ _ h rd (.refl _)
instance {t u:TS}{a b:WS}[sa:SemWS t a][sb:SemWS u b]:SemWS (tSeq t u) (wSeq a b) where
 h:=fun h _ _ _ _ _ _ rd _ k r=>sa.h h rd (fun ε1 σ1 Hs1 H1 h1 rd1 g1=>sb.h h1 rd1 (fun ε2 σ2 Hs2 H2 h2 rd2 g2=>k ε2 σ2 Hs2 H2 h2 rd2 (g1.trans g2)) fun y ε2 σ2 v Hs2 H2 h2 rd2 g2 rv=>r y ε2 σ2 v Hs2 H2 h2 rd2 (g1.trans g2) rv) r
instance {i:Nat}{te:TE}{a:W}[sa:SemW te a]:SemWS (zX te (xt (i+1))) (qq (i+1) a) where
 h:=fun h _ _ _ _ _ _ rd _ k _=>sa.h h rd fun x ε1 v Hs1 H1 h1 rd1 g1 r1=>k _ _ _ _ h1 (rd1.put r1) g1
instance {i:Nat}{te:TE}{f:M}[sa:zi te f]:SemWS (zX te (xt (i+1))) (wg (i+1) f) where
 h:=fun ⟨x,e,h⟩ _ _ _ _ _ _ rd _ k _=>sa.h e rd.rs fun a Hs1 H1 x1 n n' t=>k _ _ _ _ h ((rd.go x1).putO (.inl (rd.free0 n)) n' t fun j y hj z=>by
  obtain ⟨b,hb,_,_,tb⟩:=rd.ow j y hj;rw [z] at hb;injection hb with hb;injection hb with hb;injection hb with hb;subst hb;exact tb.there n) x1.s1
instance {te:TE}{a:W}[sa:SemW te a]:SemWS (vt te) (xb a) where
 h:=fun h _ _ _ _ _ _ rd _ _ r=>sa.h h rd fun x ε1 v Hs1 H1 h1 rd1 g1 r1=>r x ε1 _ v Hs1 H1 h1 rd1 g1 r1
instance {te:TE}{a:W}[sa:SemW te a]:SemWS (vq te) (PD a) where
 h:=fun h _ _ _ _ _ _ rd _ k _=>sa.h h rd fun x ε1 v Hs1 H1 h1 rd1 g1 r1=>k ε1 _ Hs1 H1 h1 rd1 g1
instance {t:TT}{ta tb:TS}{c:WT}{a b:WS}[sc:QJ t c][sa:SemWS ta a][sb:SemWS tb b]:SemWS (tIfS t ta tb) (xG c a b) where
 h:=fun h _ _ _ _ _ _ rd _ k r=>sc.h h rd fun c ε1 Hs1 H1 h1 rd1 g1=>by
  cases c with
  |true=>exact zR (sa.h (by simpa using h1) rd1 (fun ε2 σ2 Hs2 H2 h2 rd2 g2=>k ε2 σ2 Hs2 H2 h2 rd2 (g1.trans g2)) fun y ε2 σ2 v Hs2 H2 h2 rd2 g2 rv=>r y ε2 σ2 v Hs2 H2 h2 rd2 (g1.trans g2) rv)
  |false=>exact zQ (sb.h (by simpa using h1) rd1 (fun ε2 σ2 Hs2 H2 h2 rd2 g2=>k ε2 σ2 Hs2 H2 h2 rd2 (g1.trans g2)) fun y ε2 σ2 v Hs2 H2 h2 rd2 g2 rv=>r y ε2 σ2 v Hs2 H2 h2 rd2 (g1.trans g2) rv)
instance {i:Nat}{t:TS}{a:WS}[sa:SemWS t a]:SemWS t (wFz (i+1) a) where
 h:=fun h _ _ _ _ _ _ rd _ k r=>by
  obtain ⟨Hs',g,rd'⟩:=rd.freeze i;exact sa.h h rd' (fun ε2 σ2 Hs2 H2 h2 rd2 g2=>k ε2 σ2 Hs2 H2 h2 rd2 (g.trans g2)) fun y ε2 σ2 v Hs2 H2 h2 rd2 g2 rv=>r y ε2 σ2 v Hs2 H2 h2 rd2 (g.trans g2) rv
instance {K:Fg}{i:Nat}{te:TE}{a:W}[sa:SemW te a]:SemWS (vq (tBM K "list" Ya (qL i) (o8 te qp))) (wf i a) where
 h:=fun h _ _ _ _ _ _ rd _ k _=>by
  obtain ⟨⟨xs0,hx0⟩,h⟩:=h;obtain ⟨p,hp,n0,n,vs,hv,rv⟩:=rd.ow i _ hx0;refine ⟨_,hp,.inl ⟨rfl,vs,SqL.of hv⟩,sa.h h rd fun x ε1 v Hs1 H1 h1 rd1 g1 r1=>?_⟩;obtain ⟨xs,hx,hl,h2⟩:=h1;obtain ⟨p',hp',_,n1,ws,hw,rw⟩:=rd1.ow i _ hx;rw [hp] at hp';injection hp' with hp';injection hp' with hp';injection hp' with hp';subst hp';exact ⟨p,ws,v,rfl,rfl,hw,Wp (by rw [rw.length];exact hl),k _ _ _ _ h2 (rd1.change hx hp ⟨_,u8,rw.append (.one r1)⟩) g1⟩
def XM (i:Nat)(a:W):W:=fun ε Q=>(∃ xs,ε[i]?=some (.ow (.lst xs)))/\a ε fun x ε1=>∃ xs k y,ε1[i]?=some (.ow (.lst xs))/\x = .at (.int k)/\0<=k/\k<xs.length/\xs.length<=lim/\xs[k.toNat]?=some y/\Q y (ε1.set i (.ow (.lst (xs.eraseIdx k.toNat))))
theorem Reps.eraseIdx {H:Hp}:∀(i:Nat){xs:List PV}{vs:List V},Reps H xs vs->Reps H (xs.eraseIdx i) (vs.eraseIdx i)
 |i,[],vs,h=>by rw [reps_nil.mp h];exact .nil
 |0,x::xs,vs,h=>by obtain ⟨v,r,rfl,p,q⟩:=reps_cons.mp h;exact q
 |i+1,x::xs,vs,h=>by obtain ⟨v,r,rfl,p,q⟩:=reps_cons.mp h;exact .cons p (Reps.eraseIdx i q)
instance {K:Fg}{i:Nat}{te:TE}{a:W}[sa:SemW te a]:SemW (tBM K "list" Yb (qL i) (o8 te qp)) (XM i a) where
 h:=fun h _ _ _ _ _ _ rd _ k=>by
  obtain ⟨⟨xs0,hx0⟩,h⟩:=h;obtain ⟨p,hp,n0,n,vs,hv,rv⟩:=rd.ow i _ hx0;refine ⟨_,hp,.inl ⟨rfl,vs,SqL.of hv⟩,sa.h h rd fun x ε1 v Hs1 H1 h1 rd1 g1 r1=>?_⟩;obtain ⟨xs,j,y,hx,rfl,j0,j1,hl,hy,h2⟩:=h1;obtain ⟨p',hp',_,n1,ws,hw,rw⟩:=rd1.ow i _ hx;rw [hp] at hp';injection hp' with hp';injection hp' with hp';injection hp' with hp';subst hp';cases rep_at.mp r1;obtain ⟨u,hu,ru⟩:=rw.get hy;have hlim:lim=1000000:=rfl;refine ⟨p,ws,j,j.toNat,u,rfl,rfl,hw,by omega,by omega,?_,hu,k _ _ _ _ _ h2 (rd1.change hx hp ⟨_,u8,rw.eraseIdx j.toNat⟩) g1 ru⟩;unfold seqIndex?;have e1:(if j<0 then j+(ws.length:Int) else j)=j:=if_neg (by omega);simp only [e1];rw [if_pos];rw [rw.length];simp only [Bool.and_eq_true,decide_eq_true_eq];exact ⟨j0,j1⟩
class SemWI (ti:TI)(w:WA):Prop where
 h:∀{ε Q'},w ε Q'->∀{S Hs0 H0 Hs H Z},RD S Hs0 H0 Hs H Z ε->∀{R:It->Hp->Prop},(∀ xs ε' J Hs' H',Q' xs ε'->RD S Hs0 H0 Hs' H' Z ε'->Same Hs Hs'->jx J xs Hs'->R J H')->ti Z H R
def wIp (f:MA):WA:=fun ε Q=>∃ xs,f ε=some xs/\Q xs ε
instance (priority:=50){ti:TI}{f:MA}[s:jb ti f]:SemWI ti (wIp f) where
 h:=fun ⟨xs,e,q⟩ _ _ _ _ _ _ r _ k=>s.h e r.rs fun J Hs' H' x ok=>k xs _ J Hs' H' q (r.go x) x.s1 ok
class SemWG (tg:TG)(g:MG):Prop where
 h:∀{x ε ε'},g x ε=some ε'->∀{S Hs0 H0 Hs H Z v},RD S Hs0 H0 Hs H Z ε->Rep Hs x v->∀{Q:St->Hp->Prop},(∀ σ',RD S Hs0 H0 Hs H σ' ε'->Q σ' H)->tg v Z H Q
instance {i:Nat}:SemWG (xt (i+1)) (v6 (i+1)) where
 h:=fun e _ _ _ _ _ _ _ rd r _ q=>by cases e;exact q _ (rd.put r)
def XL (g:MG)(f:WS):List PV->WS
 |[]=>fun ε N _=>N ε
 |x::xs=>fun ε N R=>∃ ε1,g x ε=some ε1/\f ε1 (fun ε2=>XL g f xs ε2 N R) R
def wFor (it:WA)(g:MG)(f:WS):WS:=fun ε N R=>it ε fun xs ε1=>XL g f xs ε1 N R
theorem RD.rebase {S:List Addr}{Hs0 H0 Hs H:Hp}{Z:St}{ε:ME}(r:RD S Hs0 H0 Hs H Z ε):RD S Hs H0 Hs H Z ε :=
 ⟨.refl _,r.s2,r.s3,fun _ _ z=>z,r.sh,r.ow,r.nd,r.len,r.pin,r.live,r.str,r.nb⟩
theorem RD.unbase {S:List Addr}{Hs0 H0 Hb Hx Hs H:Hp}{Z σ':St}{ε ε':ME}(b:RD S Hs0 H0 Hb Hx Z ε)(r:RD S Hb H0 Hs H σ' ε'):RD S Hs0 H0 Hs H σ' ε' :=
 ⟨b.s1.trans r.s1,r.s2,r.s3,fun c h z=>r.s4 c h (b.s4 c h z),r.sh,r.ow,r.nd,r.len,r.pin,r.live,r.str,r.nb⟩
instance {wi:TI}{tg:TG}{tb:TS}{it:WA}{g:MG}{f:WS}[si:SemWI wi it][sg:SemWG tg g][sf:SemWS tb f]:SemWS (tFor wi tg tb) (wFor it g f) where
 h:=fun {ε N R} h S Hs0 H0 _ _ _ rd D k rt=>si.h h rd fun xs ε1 J Hs1 H1 h1 rd1 g1 ok=>by
  refine ⟨fun n m Z H=>m=xs.length-n/\n<=xs.length/\∃ Hs ε,RD S Hs1 H0 Hs H Z ε/\XL g f (xs.drop n) ε N R,⟨xs.length,by simp,Nat.zero_le _,Hs1,ε1,rd1.rebase,h1⟩,?_⟩;rintro n m Z H ⟨rfl,hn,Hs,ε2,r2,h2⟩;by_cases hlt:n<xs.length
  ·have hd:xs.drop n=xs[n]::xs.drop (n+1):=List.drop_eq_getElem_cons hlt;rw [hd] at h2;obtain ⟨ε3,e3,h3⟩:=h2;obtain ⟨go,yl⟩:=ok.go n xs[n] Hs H (by simp [hlt]) r2.s1 r2.s3;refine .inr ⟨go,fun σ' H'=>n+1<=xs.length/\∃ Hs ε,RD S Hs1 H0 Hs H' σ' ε/\XL g f (xs.drop (n+1)) ε N R,fun σ' H' p=>⟨xs.length-(n+1),by omega,rfl,p.1,p.2⟩,fun v H3 y=>?_⟩;obtain ⟨Hs3,x3,r3⟩:=yl v H3 y;refine sg.h e3 (r2.go x3) r3 fun σ4 rd4=>sf.h h3 rd4 (fun ε5 σ5 Hs5 H5 h5 rd5 g5=>⟨hlt,Hs5,ε5,rd5,h5⟩) fun y ε5 σ5 v Hs5 H5 h5 rd5 g5 rv=>rt y ε5 σ5 v Hs5 H5 h5 (rd1.unbase rd5) (g1.trans rd5.s1) rv
  ·have en:n=xs.length:=by omega
   subst en;rw [List.drop_length] at h2;exact .inl ⟨ok.stop Hs H r2.s1 r2.s3,k _ _ _ _ h2 (rd1.unbase r2) (g1.trans r2.s1)⟩
end Mi
namespace Mi
open PySem L2
def xa:List (Option Nat)->ME->ME->ME
 |some i::cap,s::ε2,ε1=>(xa cap ε2 ε1).set i s
 |none::cap,_::ε2,ε1=>xa cap ε2 ε1
 |_,_,ε1=>ε1
theorem XI:∀(cap:List (Option Nat))(ε2 ε1:ME),(xa cap ε2 ε1).length=ε1.length
 |some i::cap,s::ε2,ε1=>by unfold xa;rw [List.length_set,XI]
 |none::cap,_::ε2,ε1=>by unfold xa;exact XI cap ε2 ε1
 |[],_,_=>rfl
 |some _::_,[],_=>rfl
 |none::_,[],_=>rfl
theorem Ys:∀(cap:List (Option Nat))(ε2 ε1:ME)(i:Nat),some i∉cap->(xa cap ε2 ε1)[i]?=ε1[i]?
 |some k::cap,s::ε2,ε1,i,h=>by
  unfold xa;rw [List.getElem?_set_ne (fun z=>h (by rw [z];exact List.mem_cons_self))];exact Ys cap ε2 ε1 i fun z=>h (List.mem_cons_of_mem _ z)
 |none::cap,_::ε2,ε1,i,h=>by unfold xa;exact Ys cap ε2 ε1 i fun z=>h (List.mem_cons_of_mem _ z)
 |[],_,_,_,_=>rfl
 |some _::_,[],_,_,_=>rfl
 |none::_,[],_,_,_=>rfl
theorem Yr:∀(cap:List (Option Nat))(ε2 ε1:ME)(i:Nat),cap.length=ε2.length->some i∈cap->i<ε1.length->(cap.filterMap id).Nodup->∃ j:Nat,cap[j]?=some (some i)/\(xa cap ε2 ε1)[i]?=ε2[j]?
 |some k::cap,s::ε2,ε1,i,hl,h,hi,nd=>by
  rw [List.filterMap_cons_some (by rfl)] at nd;by_cases e:k=i
  ·subst e;refine ⟨0,rfl,?_⟩;unfold xa;rw [List.getElem?_set_self (by rw [XI];exact hi)];rfl
  ·obtain ⟨j,h1,h2⟩:=Yr cap ε2 ε1 i (by simpa using hl) (by rcases List.mem_cons.mp h with z|z;exact absurd (Option.some.inj z).symm e;exact z) hi (List.nodup_cons.mp nd).2;refine ⟨j+1,by simpa using h1,?_⟩;unfold xa;rw [List.getElem?_set_ne e];simpa using h2
 |none::cap,s::ε2,ε1,i,hl,h,hi,nd=>by
  rw [List.filterMap_cons_none (by rfl)] at nd;obtain ⟨j,h1,h2⟩:=Yr cap ε2 ε1 i (by simpa using hl) (by rcases List.mem_cons.mp h with z|z;exact nomatch z;exact z) hi nd;exact ⟨j+1,by simpa using h1,by unfold xa;simpa using h2⟩
 |[],_,_,_,_,h,_,_=>nomatch h
 |some _::_,[],_,_,hl,_,_,_=>by simp at hl
 |none::_,[],_,_,hl,_,_,_=>by simp at hl
def rst:List Nat->ME->ME
 |[],ε=>ε
 |t::ts,ε=>(rst ts ε).set t .no
theorem BE:∀(ts:List Nat)(ε:ME),(rst ts ε).length=ε.length
 |[],_=>rfl
 |t::ts,ε=>by unfold rst;rw [List.length_set,BE]
theorem BD:∀(ts:List Nat)(ε:ME)(i:Nat)(s:MSlot),(rst ts ε)[i]?=some s->s = .no∨(i∉ts/\ε[i]?=some s)
 |[],_,_,_,h=> .inr ⟨List.not_mem_nil,h⟩
 |t::ts,ε,i,s,h=>by
  unfold rst at h;rw [List.getElem?_set] at h;split at h
  ·split at h
   ·cases h;exact .inl rfl
   ·cases h
  ·rename_i hne;rcases BD ts ε i s h with z|⟨z1,z2⟩
   ·exact .inl z
   ·exact .inr ⟨fun m=>by rcases List.mem_cons.mp m with m|m;exact hne m.symm;exact z1 m,z2⟩
theorem RD.reset {Hs0 H0 Hs H:Hp}{Z σ':St}{ε:ME}{ts:List Nat}(r:RD [] Hs0 H0 Hs H σ' ε)(b:But ts Z σ'):RD [] Hs0 H0 Hs H Z (rst ts ε):=by
 have at1:∀(i:Nat)(s:MSlot),(rst ts ε)[i]?=some s->s = .no∨(σ'[i]?=Z[i]?/\ε[i]?=some s):=fun i s h=>by
  rcases BD ts ε i s h with z|⟨z1,z2⟩
  ·exact .inl z
  ·exact .inr ⟨b.2 i z1,z2⟩
 refine ⟨r.s1,r.s2,r.s3,r.s4,fun i x h=>?_,fun i x h=>?_,fun i j x y a h1 h2 h3 h4=>?_,by rw [BE,<- r.len,b.1],(fun _ z=>nomatch z),(fun _ z=>nomatch z),(fun _ z=>nomatch z),fun i x h=>by
  rcases at1 i _ h with z|⟨_,z2⟩
  ·cases z
  ·exact r.nb i x z2⟩
 ·rcases at1 i _ h with z|⟨z1,z2⟩
  ·cases z
  ·rw [<- z1];exact r.sh i x z2
 ·rcases at1 i _ h with z|⟨z1,z2⟩
  ·cases z
  ·rw [<- z1];exact r.ow i x z2
 ·rcases at1 i _ h1 with z|⟨z1,z2⟩
  ·cases z
  ·rcases at1 j _ h2 with w|⟨w1,w2⟩
   ·cases w
   ·exact r.nd i j x y a z2 w2 (z1.trans h3) (w1.trans h4)
class YH (tg:TG)(ts:outParam (List Nat))(g:MG):Prop where
 h:∀{x ε ε'},g x ε=some ε'->∀{Hs0 H0 Hs H Z v},RD [] Hs0 H0 Hs H Z ε->Rep Hs x v->∀{Q:St->Hp->Prop},(∀ σ',RD [] Hs0 H0 Hs H σ' ε'->But ts Z σ'->Q σ' H)->tg v Z H Q
theorem RD.put0 {Hs0 H0 Hs H:Hp}{Z:St}{ε:ME}(r:RD [] Hs0 H0 Hs H Z ε){i:Nat}{x:PV}{v:V}(h:Rep Hs x v):RD [] Hs0 H0 Hs H (Z.set i (some v)) (ε.set i (.sh x)):=by
 have q:=(r.rs).put (i:=i) h;refine ⟨r.s1,r.s2,r.s3,r.s4,q.sh,fun j z hz=>?_,q.nd,q.len,(fun _ z=>nomatch z),(fun _ z=>nomatch z),(fun _ z=>nomatch z),Qk r.nb fun _ z=>nomatch z⟩;obtain ⟨c,hc,m1,m2,tc⟩:=q.ow j z hz;refine ⟨c,hc,?_,m2,tc⟩;rw [List.getElem?_set] at hz hc;split at hz
 ·split at hz<;>cases hz
 ·rename_i hij;rw [if_neg hij] at hc;obtain ⟨d,hd,m0,_⟩:=r.ow j z hz;rw [hd] at hc;injection hc with hc;injection hc with hc;injection hc with hc;rw [<- hc];exact m0
instance {i:Nat}:YH (xt i) [i] (v6 i) where
 h:=fun e _ _ _ _ _ _ rd r _ q=>by
  cases e;exact q _ (rd.put0 r) ⟨List.length_set,fun j hj=>List.getElem?_set_ne fun z=>hj (by rw [<- z];exact List.mem_singleton.mpr rfl)⟩
def vx (g:MG)(c:WT)(f:W)(ts:List Nat):List PV->List PV->ME->(List PV->ME->Prop)->Prop
 |[],ys,ε,Q=>Q ys ε
 |x::xs,ys,ε,Q=>∃ ε1,g x ε=some ε1/\c ε1 fun b ε2=>if b=true then f ε2 fun y ε3=>vx g c f ts xs (ys++[y]) (rst ts ε3) Q else vx g c f ts xs ys (rst ts ε2) Q
def zZ:WT:=fun ε Q=>Q true ε
instance:QJ tYes zZ where
 h:=fun h _ _ _ _ _ _ rd _ k=>k true _ _ _ h rd (.refl _)
def jw (cap:List (Option Nat))(ts:List Nat)(it:WA)(g:MG)(c:WT)(f:W):W:=fun ε Q=>it ε fun xs ε1=>vF cap ts=true/\xs.length<=lim /\
 vx g c f ts xs [] (qE cap ε1) fun ys ε2=>((∃ y:PV,ε1[0]?=some (MSlot.ow y))->∃ y:PV,(xa cap ε2 ε1)[0]?=some (MSlot.ow y))/\Q (.lst ys) (xa cap ε2 ε1)
noncomputable def less (Z:St)(ε:ME)(H:Hp):Hp:=fun b=>open Classical in if ∃(i:Nat)(x:PV),ε[i]?=some (MSlot.ow x)/\Z[i]?=some (some (V.ref b)) then none else H b
theorem Wo {Z:St}{ε:ME}{H:Hp}{b:Addr}{o:HO}(h:less Z ε H b=some o):H b=some o/\∀(i:Nat)(x:PV),ε[i]?=some (MSlot.ow x)->Z[i]?≠some (some (V.ref b)):=by
 unfold less at h;split at h
 ·cases h
 ·rename_i hn;exact ⟨h,fun i x h1 h2=>hn ⟨i,x,h1,h2⟩⟩
theorem Kr {Z:St}{ε:ME}{H:Hp}{b:Addr}(h:less Z ε H b=none):H b=none∨∃(i:Nat)(x:PV),ε[i]?=some (MSlot.ow x)/\Z[i]?=some (some (V.ref b)):=by
 unfold less at h;split at h
 ·rename_i hn;exact .inr hn
 ·exact .inl h
theorem CY {cap:List (Option Nat)}{ε:ME}(nb:∀(i:Nat)(x:PV),ε[i]?≠some (.bo x)):∀(i:Nat)(x:PV),(qE cap ε)[i]?≠some (.bo x):=fun i x h=>by
 unfold qE at h;rw [List.getElem?_map] at h;cases ho:cap[i]? with
 |none=>rw [ho] at h;cases h
 |some o =>
  rw [ho] at h;cases o with
  |none=>cases h
  |some k =>
   cases hk:ε[k]? with
   |none=>simp only [Option.map_some,hk,Option.getD_none] at h;cases h
   |some s=>simp only [Option.map_some,hk,Option.getD_some] at h;cases h;exact nb k x hk
theorem RD.block {S:List Addr}{Hs0 H0 Hs H:Hp}{Z:St}{ε:ME}{cap:List (Option Nat)}(hc:(cap.filterMap id).Nodup)(r:RD S Hs0 H0 Hs H Z ε):RD [] Hs (less (qc cap Z) (qE cap ε) H) Hs H (qc cap Z) (qE cap ε):=by have q:=(r.rs).cap hc;refine ⟨.refl _,fun b o e _=>(Wo e).1,r.s3,fun _ _ z=>z,q.sh,fun i x h=>?_,q.nd,q.len,(fun _ z=>nomatch z),(fun _ z=>nomatch z),(fun _ z=>nomatch z),CY r.nb⟩;obtain ⟨a,h1,h2,h3,h4⟩:=q.ow i x h;refine ⟨a,h1,.inl ?_,h3,h4⟩;unfold less;rw [if_pos ⟨i,x,h,h1⟩]
theorem jZ {cap:List (Option Nat)}{Z:St}{i k:Nat}{v:V}(h:cap[i]?=some (some k))(e:(qc cap Z)[i]?=some (some v)):Z[k]?=some (some v):=by
 unfold qc at e;rw [List.getElem?_map,h] at e;simp only [Option.map_some,Option.bind_some,Option.some.injEq] at e;cases hs:Z[k]? with
 |none=>rw [hs] at e;cases e
 |some o=>rw [hs] at e;simp at e;rw [e]
theorem Gc {cap:List (Option Nat)}{ε:ME}{i:Nat}{x:PV}(h:(qE cap ε)[i]?=some (.ow x)):∃ k:Nat,cap[i]?=some (some k)/\ε[k]?=some (.ow x):=by
 unfold qE at h;rw [List.getElem?_map] at h;cases ho:cap[i]? with
 |none=>rw [ho] at h;cases h
 |some o =>
  rw [ho] at h;cases o with
  |none=>cases h
  |some k =>
   cases hk:ε[k]? with
   |none=>simp only [Option.map_some,hk,Option.getD_none] at h;cases h
   |some s=>simp only [Option.map_some,hk,Option.getD_some] at h;cases h;exact ⟨k,rfl,hk⟩
theorem RD.unblock {S:List Addr}{Hs0 H0 Hs1 H1 Hs2 H2:Hp}{Z:St}{ε1 ε2:ME}{cap:List (Option Nat)}(hc:(cap.filterMap id).Nodup)(r:RD S Hs0 H0 Hs1 H1 Z ε1)(q:RD [] Hs1 (less (qc cap Z) (qE cap ε1) H1) Hs2 H2 (qc cap Z) ε2)(st:(∃ y,ε1[0]?=some (.ow y))->∃ y,(xa cap ε2 ε1)[0]?=some (.ow y)):RD S Hs0 H0 Hs2 H2 Z (xa cap ε2 ε1):=by
 have hl:cap.length=ε2.length:=by rw [<- q.len];unfold qc;rw [List.length_map]
 have at1:∀(i:Nat)(s:MSlot),(xa cap ε2 ε1)[i]?=some s->(some i∉cap/\ε1[i]?=some s)∨∃ j:Nat,cap[j]?=some (some i)/\ε2[j]?=some s:=fun i s h=>by
  by_cases hi:some i∈cap
  ·have hlt:i<ε1.length:=by have:=(List.getElem?_eq_some_iff.mp h).1;rwa [XI] at this
   obtain ⟨j,h1,h2⟩:=Yr cap ε2 ε1 i hl hi hlt hc;exact .inr ⟨j,h1,h2▸h⟩
  ·exact .inl ⟨hi,Ys cap ε2 ε1 i hi▸h⟩
 have own0:∀ a,less (qc cap Z) (qE cap ε1) H1 a=none->H0 a=none∨a∈S:=fun a h=>by
  rcases Kr h with h|⟨i,x,h1,h2⟩
  ·exact .inl (r.free0 h)
  ·obtain ⟨k,hk,hx⟩:=Gc h1;obtain ⟨c,hc',m0,_⟩:=r.ow k x hx;rw [jZ hk h2] at hc';injection hc' with hc';injection hc' with hc';injection hc' with hc';rw [hc'];exact m0
 have keep:∀(k:Nat)(x:PV)(a:Addr),some k∉cap->ε1[k]?=some (.ow x)->Z[k]?=some (some (.ref a))->∀ o,H1 a=some o->less (qc cap Z) (qE cap ε1) H1 a=some o:=fun k x a hk hx ha o ho=>by
  cases z:less (qc cap Z) (qE cap ε1) H1 a with
  |some u=>rw [<- ho,(Wo z).1]
  |none =>
   rcases Kr z with z|⟨i,y,h1,h2⟩
   ·rw [z] at ho;cases ho
   ·obtain ⟨m,hm,hy⟩:=Gc h1;have:=r.nd k m x y a hx hy ha (jZ hm h2);subst this;exact absurd (List.mem_of_getElem? hm) hk
 have ow':∀(i:Nat)(x:PV),(xa cap ε2 ε1)[i]?=some (.ow x)->∃ a,Z[i]?=some (some (.ref a))/\(H0 a=none∨a∈S)/\Hs2 a=none/\Top Hs2 H2 a x:=fun i x h=>by
  rcases at1 i _ h with ⟨hi,e⟩|⟨j,hj,e⟩
  ·obtain ⟨a,ha,m0,m1,t⟩:=r.ow i x e;refine ⟨a,ha,m0,?_,t.mono q.s1 fun o ho=>q.s2 a o (keep i x a hi e ha o ho) List.not_mem_nil⟩;cases z:H1 a with
   |none=>exact absurd z t.there
   |some o=>exact q.s4 a (by rw [keep i x a hi e ha o z];exact fun w=>nomatch w) m1
  ·obtain ⟨a,ha,m0,m1,t⟩:=q.ow j x e;exact ⟨a,jZ hj ha,own0 a (m0.resolve_right List.not_mem_nil),m1,t⟩
 have str':∀ a∈S,∃ y,(xa cap ε2 ε1)[0]?=some (.ow y):=fun a hS=>st (r.str a hS);refine ⟨r.s1.trans q.s1,fun b o e hS=>?_,q.s3,fun b h z=>?_,fun i x h=>?_,ow',fun i j x y a h1 h2 h3 h4=>?_,by rw [XI];exact r.len,r.pin,fun b hS=>?_,str',fun i x h=>by
  rcases at1 i _ h with ⟨_,e⟩|⟨j,_,e⟩
  ·exact r.nb i x e
  ·exact q.nb j x e⟩
 ·have e1:=r.s2 b o e hS;refine q.s2 b o ?_ List.not_mem_nil;cases z:less (qc cap Z) (qE cap ε1) H1 b with
  |some u=>rw [<- e1,(Wo z).1]
  |none =>
   rcases own0 b z with w|w
   ·rw [w] at e;cases e
   ·exact absurd w hS
 ·have z1:=r.s4 b h z;by_cases hL:less (qc cap Z) (qE cap ε1) H1 b=none
  ·rcases own0 b hL with w|w
   ·exact absurd w h
   ·obtain ⟨y,hy⟩:=str' b w;obtain ⟨a,ha,_,m1,_⟩:=ow' 0 y hy;rw [r.pin b w] at ha;injection ha with ha;injection ha with ha;injection ha with ha;rw [ha];exact m1
  ·exact q.s4 b hL z1
 ·rcases at1 i _ h with ⟨hi,e⟩|⟨j,hj,e⟩
  ·obtain ⟨v,hv,rv⟩:=r.sh i x e;exact ⟨v,hv,rv.mono q.s1⟩
  ·obtain ⟨v,hv,rv⟩:=q.sh j x e;exact ⟨v,jZ hj hv,rv⟩
 ·rcases at1 i _ h1 with ⟨hi,e⟩|⟨k,hk,e⟩
  ·rcases at1 j _ h2 with ⟨hj,e'⟩|⟨l,hl',e'⟩
   ·exact r.nd i j x y a e e' h3 h4
   ·-- one of the block's own,one that it does not see
    obtain ⟨a',ha',m0,_,_⟩:=q.ow l y e';have ea:=jZ hl' ha';rw [h4] at ea;injection ea with ea;injection ea with ea;injection ea with ea;subst ea;obtain ⟨c,hc1,_,_,t⟩:=r.ow i x e;rw [h3] at hc1;injection hc1 with hc1;injection hc1 with hc1;injection hc1 with hc1;subst hc1;cases z:H1 a with
    |none=>exact absurd z t.there
    |some o=>have w:=keep i x a hi e h3 o z;rw [m0.resolve_right List.not_mem_nil] at w;cases w
  ·rcases at1 j _ h2 with ⟨hj,e'⟩|⟨l,hl',e'⟩
   ·obtain ⟨a',ha',m0,_,_⟩:=q.ow k x e;have ea:=jZ hk ha';rw [h3] at ea;injection ea with ea;injection ea with ea;injection ea with ea;subst ea;obtain ⟨c,hc1,_,_,t⟩:=r.ow j y e';rw [h4] at hc1;injection hc1 with hc1;injection hc1 with hc1;injection hc1 with hc1;subst hc1;cases z:H1 a with
    |none=>exact absurd z t.there
    |some o=>have w:=keep j y a hj e' h4 o z;rw [m0.resolve_right List.not_mem_nil] at w;cases w
   ·obtain ⟨a1,ha1,_⟩:=q.ow k x e;obtain ⟨a2,ha2,_⟩:=q.ow l y e';have e1:=jZ hk ha1;have e2:=jZ hl' ha2;rw [h3] at e1;rw [h4] at e2;injection e1 with e1;injection e1 with e1;injection e1 with e1;injection e2 with e2;injection e2 with e2;injection e2 with e2;subst e1;subst e2;have kl:=q.nd k l x y a e e' ha1 ha2;subst kl;rw [hk] at hl';injection hl' with hl';injection hl' with hl'
 ·obtain ⟨y,hy⟩:=str' b hS;obtain ⟨a,ha,_,_,t⟩:=ow' 0 y hy;rw [r.pin b hS] at ha;injection ha with ha;injection ha with ha;injection ha with ha;rw [ha];exact t.there
instance {wi:TI}{tg:TG}{ts:List Nat}{tt:TT}{te:TE}{cap:List (Option Nat)}{it:WA}{g:MG}{c:WT}{f:W}[si:SemWI wi it][sg:YH tg ts g][sc:QJ tt c][sf:SemW te f]:SemW (Vi wi tg tt te cap) (jw cap ts it g c f) where
 h:=fun {ε Q'} h S Hs0 H0 Hs H Z rd Q k=>si.h h rd fun xs ε1 J Hs1 H1 h1 rd1 g1 ok=>by
  obtain ⟨hcap,hl,h1⟩:=h1;unfold vF at hcap;rw [Bool.and_eq_true] at hcap;have hnd:=of_decide_eq_true hcap.1;have wk:∀ i∈ts,(qc cap Z)[i]?=some none:=fun i hi=>by
   unfold qc;rw [List.getElem?_map,of_decide_eq_true (List.all_eq_true.mp hcap.2 i hi)];rfl
  refine ⟨fun n m zs H=>m=xs.length-n/\n<=xs.length/\∃ Hs2 ws ε2,RD [] Hs1 (less (qc cap Z) (qE cap ε1) H1) Hs2 H (qc cap Z) ε2/\Reps Hs2 ws zs/\ws.length<=n /\
    vx g c f ts (xs.drop n) ws ε2 (fun ys ε3=>((∃ y:PV,ε1[0]?=some (MSlot.ow y))->∃ y:PV,(xa cap ε3 ε1)[0]?=some (MSlot.ow y))/\Q' (PV.lst ys) (xa cap ε3 ε1)),
   ⟨xs.length,by simp,Nat.zero_le _,Hs1,[],_,rd1.block hnd,.nil,Nat.le_refl _,h1⟩,?_⟩
  rintro n m zs H2 ⟨rfl,hn,Hs2,ws,ε2,r2,rz,hw,h2⟩;refine ⟨zk (by rw [rz.length];omega),?_⟩;by_cases hlt:n<xs.length
  ·have hd:xs.drop n=xs[n]::xs.drop (n+1):=List.drop_eq_getElem_cons hlt;rw [hd] at h2;obtain ⟨ε3,e3,h3⟩:=h2;obtain ⟨go,yl⟩:=ok.go n xs[n] Hs2 H2 (by simp [hlt]) r2.s1 r2.s3;refine .inr ⟨go,fun v H3 y=>?_⟩;obtain ⟨Hs3,x3,r3⟩:=yl v H3 y;refine sg.h e3 (r2.go x3) r3 fun σ4 rd4 bt=>⟨bt.wk wk,sc.h h3 rd4 fun b ε5 Hs5 H5 h5 rd5 g5=>?_⟩;cases b with
   |true=>refine zR (sf.h (by simpa using h5) rd5 fun y ε6 u Hs6 H6 h6 rd6 g6 ru=>⟨xs.length-(n+1),by omega,rfl,hlt,Hs6,ws++[y],_,rd6.reset bt,?_,by rw [List.length_append];simp;omega,h6⟩);exact (rz.mono (x3.s1.trans (g5.trans g6))).snoc ru
   |false=>exact zQ ⟨xs.length-(n+1),by omega,rfl,hlt,Hs5,ws,_,rd5.reset bt,rz.mono (x3.s1.trans g5),by omega,by simpa using h5⟩
  ·have en:n=xs.length:=by omega
   subst en;rw [List.drop_length] at h2;refine .inl ⟨ok.stop Hs2 H2 r2.s1 r2.s3,fun D hD=>?_⟩;have rd2:=rd1.unblock hnd r2 h2.1;exact k _ _ _ _ _ h2.2 (rd2.go (.new rd2.s3 hD)) (g1.trans (r2.s1.trans (Ext.new rd2.s3 hD).s1)) (rep_lst.mpr ⟨D,zs,rfl,u8,rz.mono (Ext.new rd2.s3 hD).s1⟩)
section
variable {P:Program}{w:World}{K:Fg}{mg:Str->Option Value}{base:Heap}
theorem wb {xs:List PV}{n i:Nat}{x:PV}:(xs.map MSlot.sh++List.replicate n .no)[i]?≠some (.ow x):=fun h=>by
 by_cases hi:i<xs.length
 ·rw [List.getElem?_append_left (by rw [List.length_map];exact hi),List.getElem?_map] at h;obtain ⟨y,_,z⟩:=Option.map_eq_some_iff.mp h;cases z
 ·rw [List.getElem?_append_right (by rw [List.length_map];omega),List.getElem?_replicate] at h;split at h<;>cases h
theorem Yg {xs:List PV}{n i:Nat}{x:PV}:(xs.map MSlot.sh++List.replicate n .no)[i]?≠some (.bo x):=fun h=>by
 by_cases hi:i<xs.length
 ·rw [List.getElem?_append_left (by rw [List.length_map];exact hi),List.getElem?_map] at h;obtain ⟨y,_,z⟩:=Option.map_eq_some_iff.mp h;cases z
 ·rw [List.getElem?_append_right (by rw [List.length_map];omega),List.getElem?_replicate] at h;split at h<;>cases h
theorem Ra {N:List Str}{Hs H:Hp}{a:Addr}{n:Int}{xs:List PV}{ws:List V}(s:Same Hs H)(ha:Hs a=none)(hH:H a=some (.lst [.int n]))(r:Reps Hs xs ws):RD [a] Hs H Hs H (L2.start N (.ref a::ws)) (m7 n::xs.map .sh++List.replicate (N.length-(xs.length+1)) .no):=by
 have q:=vn (N:=N) (xs:= .at (.ref a)::xs) s (.cons (rep_at.mpr rfl) r);have tl:∀(i:Nat)(sl:MSlot),(m7 n::xs.map .sh++List.replicate (N.length-(xs.length+1)) .no)[i+1]?=some sl->((PV.at (.ref a)::xs).map MSlot.sh++List.replicate (N.length-(PV.at (.ref a)::xs).length) .no)[i+1]?=some sl:=fun i sl h=>h;refine ⟨.refl _,fun b o e _=>e,s,fun _ _ z=>z,fun i x h=>?_,fun i x h=>?_,fun i j x y b h1 h2 _ _=>?_,?_,fun b hb=>?_,fun b hb=>?_,(fun b hb=>⟨_,rfl⟩),fun i x h=>by
  cases i with
  |zero=>unfold m7 at h;simp at h
  |succ i=>exact Yg (xs:=PV.at (.ref a)::xs) (tl i _ h)⟩
 ·cases i with
  |zero=>unfold m7 at h;simp at h
  |succ i=>exact q.sh (i+1) x (tl i _ h)
 ·cases i with
  |zero=>unfold m7 at h;simp at h;subst h;refine ⟨a,?_,.inr (List.mem_singleton.mpr rfl),ha,_,hH,.one (rep_at.mpr rfl)⟩;unfold L2.start;rfl
  |succ i =>
   obtain ⟨c,h1,_⟩:=q.ow (i+1) x (tl i _ h);exact absurd (tl i _ h) fun z=>by
    have:=wb (i:=i+1) (x:=x) (xs:=PV.at (.ref a)::xs) (n:=N.length-(PV.at (.ref a)::xs).length);exact this z
 ·cases i with
  |zero =>
   cases j with
   |zero=>rfl
   |succ j=>exact absurd (tl j _ h2) (wb (xs:=PV.at (.ref a)::xs))
  |succ i=>exact absurd (tl i _ h1) (wb (xs:=PV.at (.ref a)::xs))
 ·exact q.len
 ·rw [List.mem_singleton.mp hb];unfold L2.start;rfl
 ·rw [List.mem_singleton.mp hb,hH];exact fun z=>nomatch z
theorem okD {x qual:Str}{st:Stmt}{f:Addr}{fd:FuncData}{N ps:List Str}{k:Nat}{b:WS}{pre:List PV->Prop}{R:List PV->PV->Prop}(F:Fun K x qual st f fd)(S:y7 N ps (j8 st))(hpre:∀ xs,pre xs->xs.length+1=ps.length)(hb:∀(cdv:Value)(A:Around)(outer:List Env)(s:Shared)(H:Hp)(E:XK),Room k (A.deeper (PyProof.Rows.envOfC qual (j8 st) s.heap.objs.size f cdv)) -> ∃ t,PSs (xP w6 P w K mg base N qual (j8 st) f cdv A outer s H E).nox (qI st) t/\SemWS t b)(hw:∀ xs n,pre xs->b (m7 n::xs.map .sh++List.replicate (N.length-(xs.length+1)) .no) (fun _=>False) fun y ε=>R xs y/\zt 0 ε):FnOk P w K mg base w6 (k+1) f fd ps (spD pre R):=by
 refine F.ok S (fun vs H Q E h=>?_) (fun cdv A outer s H vs Q E hr h=>?_)
 ·obtain ⟨Hs,a,n,xs,ws,rfl,_,_,_,r,hp,_⟩:=h;rw [List.length_cons,r.length];exact hpre xs hp
 ·obtain ⟨Hs,a,n,xs,ws,rfl,sm,ha,hH,r,hp,q⟩:=h;obtain ⟨t,ht,sem⟩:=hb cdv A outer s H E hr;refine ⟨t,ht,sem.h (hw xs n hp) (Ra sm ha hH r) (fun ε Z Hs' H' z _ _=>z.elim) fun y ε Z v Hs' H' hR rd g rv=>?_⟩;obtain ⟨hR,n',hn'⟩:=hR;obtain ⟨a',ha',hH',hs',_⟩:=rd.strm_at hn';rw [rd.pin a (List.mem_singleton.mpr rfl)] at ha';injection ha' with ha';injection ha' with ha';injection ha' with ha';subst ha';refine q y v n' Hs' H' hR ⟨g,fun b o e hb=>rd.s2 b o e fun z=>hb (List.mem_singleton.mp z),rd.s3,fun b h z=>rd.s4 b h z⟩ hs' hH' rv
end
end Mi
namespace Mi
open PySem L2
def spN (pre:List PV->Prop)(R:List PV->PV->Prop):Sp:=fun vs H Q _=>∃ Hs xs,Same Hs H/\Reps Hs xs vs/\pre xs/\∀ y a Hs' H',R xs y->Ext Hs H Hs' H'->H a=none->Hs' a=none->Top Hs' H' a y->Q (.ref a) H'
def spV (pre:List PV->Prop)(R:List PV->PV->Prop):Sp:=fun vs H Q _=>∃ Hs xs,Same Hs H/\Reps Hs xs vs/\pre xs/\∀ y v Hs' H',R xs y->Ext Hs H Hs' H'->Rep Hs' y v->Q v H'
def Vm (i:Nat)(pre:List PV->Prop)(R:List PV->PV->Prop)(as:WA):WS:=fun ε N _=>as ε fun xs ε1=>pre xs/\∀ y,R xs y->N (ε1.set i (.ow y))
instance {i:Nat}{pre:List PV->Prop}{R:List PV->PV->Prop}{ta:TA}{as:WA}{E:XK}[sa:vB ta as]:SemWS (zX (zY (spN pre R) [] E ta) (xt (i+1))) (Vm (i+1) pre R as) where
 h:=fun h _ _ _ _ _ _ rd _ k _=>sa.h h rd fun xs ε1 vs Hs1 H1 h1 rd1 g1 r1=>by
  refine ⟨Hs1,xs,rd1.s3,by rw [List.append_nil];exact r1,h1.1,fun y a Hs' H' hR x n n' t=>?_⟩;refine k _ _ _ _ (h1.2 y hR) ((rd1.go x).putO (.inl (rd1.free0 n)) n' t fun j z hj e=>?_) (g1.trans x.s1);obtain ⟨b,hb,_,_,tb⟩:=rd1.ow j z hj;rw [e] at hb;injection hb with hb;injection hb with hb;injection hb with hb;subst hb;exact tb.there n
def PB (pre:List PV->Prop)(R:List PV->PV->Prop)(as:WA):W:=fun ε Q=>as ε fun xs ε1=>pre xs/\∀ y,R xs y->Q y ε1
instance {pre:List PV->Prop}{R:List PV->PV->Prop}{ta:TA}{as:WA}{E:XK}[sa:vB ta as]:SemW (zY (spV pre R) [] E ta) (PB pre R as) where
 h:=fun h _ _ _ _ _ _ rd _ k=>sa.h h rd fun xs ε1 vs Hs1 H1 h1 rd1 g1 r1 =>
  ⟨Hs1,xs,rd1.s3,by rw [List.append_nil];exact r1,h1.1,fun y v Hs' H' hR x rv=>k y ε1 v Hs' H' (h1.2 y hR) (rd1.go x) (g1.trans x.s1) rv⟩
section
variable {P:Program}{w:World}{K:Fg}{mg:Str->Option Value}{base:Heap}
theorem Bt {N:List Str}{Hs H:Hp}{xs:List PV}{vs:List V}(s:Same Hs H)(r:Reps Hs xs vs):RD [] Hs H Hs H (L2.start N vs) (xs.map .sh++List.replicate (N.length-xs.length) .no):=by have q:=vn (N:=N) s r;exact ⟨.refl _,fun b o e _=>e,s,fun _ _ z=>z,q.sh,fun i x h=>absurd h wb,q.nd,q.len,(fun _ z=>nomatch z),(fun _ z=>nomatch z),(fun _ z=>nomatch z),fun _ _=>Yg⟩
theorem okV {x qual:Str}{st:Stmt}{f:Addr}{fd:FuncData}{N ps:List Str}{k:Nat}{b:WS}{pre:List PV->Prop}{R:List PV->PV->Prop}(F:Fun K x qual st f fd)(S:y7 N ps (j8 st))(hpre:∀ xs,pre xs->xs.length=ps.length)(hb:∀(cdv:Value)(A:Around)(outer:List Env)(s:Shared)(H:Hp)(E:XK),Room k (A.deeper (PyProof.Rows.envOfC qual (j8 st) s.heap.objs.size f cdv)) -> ∃ t,PSs (xP w6 P w K mg base N qual (j8 st) f cdv A outer s H E).nox (qI st) t/\SemWS t b)(hw:∀ xs,pre xs->b (xs.map .sh++List.replicate (N.length-xs.length) .no) (fun _=>False) fun y _=>R xs y):FnOk P w K mg base w6 (k+1) f fd ps (spV pre R):=by
 refine F.ok S (fun vs H Q E h=>?_) (fun cdv A outer s H vs Q E hr h=>?_)
 ·obtain ⟨Hs,xs,_,r,hp,_⟩:=h;rw [r.length];exact hpre xs hp
 ·obtain ⟨Hs,xs,sm,r,hp,q⟩:=h;obtain ⟨t,ht,sem⟩:=hb cdv A outer s H E hr;refine ⟨t,ht,sem.h (hw xs hp) (Bt sm r) (fun ε Z Hs' H' z _ _=>z.elim) fun y ε Z v Hs' H' hR rd g rv=>?_⟩;exact q y v Hs' H' hR ⟨g,fun b o e=>rd.s2 b o e List.not_mem_nil,rd.s3,rd.s4⟩ rv
def scr (K:Fg)(ns:List Int):PV:= .op fun H v=>∃ a,v = .ref a/\SqL K H a (ns.map V.int)
theorem RX {K:Fg}{Hs H:Hp}{ns:List Int}{v:V}(s:Same Hs H)(r:Rep Hs (scr K ns) v):∃ a,v = .ref a/\SqL K H a (ns.map V.int):=by obtain ⟨H1,s1,a,rfl,q⟩:=rep_op.mp r;exact ⟨a,rfl,(s1.trans s).seq q⟩
def XD (K:Fg):Sp:=fun vs H Q _=>∃(a:Addr)(ns:List Int),vs=[.ref a]/\SqL K H a (ns.map V.int)/\ns.length<=63/\∀ H',Q (.bl true) H'
theorem okL {x qual:Str}{st:Stmt}{f:Addr}{fd:FuncData}{N:List Str}{k:Nat}{b:WS}(F:Fun K x qual st f fd)(S:y7 N ["script"] (j8 st))(hb:∀ (cdv:Value) (A:Around) (outer:List Env) (s:Shared) (H:Hp) (E:XK),Room k (A.deeper (PyProof.Rows.envOfC qual (j8 st) s.heap.objs.size f cdv)) -> ∃ t,PSs (xP w6 P w K mg base N qual (j8 st) f cdv A outer s H E).nox (qI st) t/\SemWS t b)(hw:∀ ns:List Int,ns.length<=63->b (.sh (scr K ns)::List.replicate (N.length-1) .no) (fun _=>False) fun y _=>y = .at (.bl true)):FnOk P w K mg base w6 (k+1) f fd ["script"] (XD K):=by
 refine F.ok S (fun vs H Q E h=>?_) (fun cdv A outer s H vs Q E hr h=>?_)
 ·obtain ⟨a,ns,rfl,_⟩:=h;rfl
 ·obtain ⟨a,ns,rfl,hS,h63,q⟩:=h;obtain ⟨t,ht,sem⟩:=hb cdv A outer s H E hr;have r:Reps H [scr K ns] [.ref a]:= .one (rep_op.mpr ⟨H,.refl _,a,rfl,hS⟩);refine ⟨t,ht,sem.h (hw ns h63) (Bt (N:=N) (.refl H) r) (fun ε Z Hs' H' z _ _=>z.elim) fun y ε Z v Hs' H' hR rd g rv=>?_⟩;subst hR;cases rep_at.mp rv;exact q H'
end
end Mi
namespace Mi
open PySem L2
variable {fr:Bool}
def Gw (i j:Nat)(a:M):MS:=fun ε=>(a ε).bind fun x=>match x,ε[i]? with
 | .at (.int k),some (.ow (.lst xs))=>if 0<=k/\k<xs.length/\xs.length<=lim then (xs[k.toNat]?).bind fun y=>some (.nx ((ε.set i (.ow (.lst (xs.eraseIdx k.toNat)))).set j (.sh y))) else none
 |_,_=>none
instance {K:Fg}{i j:Nat}{te:TE}{a:M}[sa:SemE te a]:SemS fr (zX (tBM K "list" Yb (qL i) (o8 te qp)) (xt j)) (Gw i j a) where
 h:=fun e _ _ _ _ _ rs _ q=>by
  obtain ⟨x,ex,e1⟩:=bind_some e;split at e1
  ·rename_i k xs hi;split at e1
   ·rename_i hk;obtain ⟨y,hy,e2⟩:=bind_some e1;cases e2;obtain ⟨p,hp,n0,n,vs,hv,rv⟩:=rs.ow i _ hi;refine ⟨_,hp,.inl ⟨rfl,vs,SqL.of hv⟩,sa.h ex rs fun v Hs1 H1 x1 r1=>?_⟩;cases rep_at.mp r1;have hv1:=x1.s2 _ _ hv;have rv1:=rv.mono x1.s1;obtain ⟨u,hu,ru⟩:=rv1.get hy;have hlim:lim=1000000:=rfl;refine ⟨p,vs,k,k.toNat,u,rfl,rfl,hv1,by omega,by omega,?_,hu,q _ _ _ (((rs.go x1).change (y:= .lst (xs.eraseIdx k.toNat)) hi hp ⟨_,u8,rv1.eraseIdx k.toNat⟩).put ru)⟩;unfold seqIndex?;have e1:(if k<0 then k+(vs.length:Int) else k)=k:=if_neg (by omega);simp only [e1];rw [if_pos];rw [rv.length];simp only [Bool.and_eq_true,decide_eq_true_eq];exact ⟨hk.1,hk.2.1⟩
   ·cases e1
  ·cases e1
def Gr (i:Nat)(a b:M):MS:=fun ε=>(a ε).bind fun x=>(b ε).bind fun y=>match x,ε[i]? with
 | .at (.int k),some (.ow (.lst xs))=>if 0<=k/\k<=xs.length/\xs.length<1000 then some (.nx (ε.set i (.ow (.lst (xs.take k.toNat++y::xs.drop k.toNat))))) else none
 |_,_=>none
instance {K:Fg}{i:Nat}{te tb:TE}{a b:M}[sa:SemE te a][sb:SemE tb b]:SemS fr (vq (tBM K "list" Bk (qL i) (o8 te (o8 tb qp)))) (Gr i a b) where
 h:=fun e _ _ _ _ _ rs _ q=>by
  obtain ⟨x,ex,e1⟩:=bind_some e;obtain ⟨y,ey,e2⟩:=bind_some e1;split at e2
  ·rename_i k xs hi;split at e2
   ·rename_i hk;cases e2;obtain ⟨p,hp,n0,n,vs,hv,rv⟩:=rs.ow i _ hi;refine ⟨_,hp,.inl ⟨rfl,vs,SqL.of hv⟩,sa.h ex rs fun v Hs1 H1 x1 r1=>sb.h ey (rs.go x1) fun u Hs2 H2 x2 r2=>?_⟩;cases rep_at.mp r1;have x12:=x1.trans x2;have hv1:=x12.s2 _ _ hv;have rv1:=rv.mono x12.s1;exact ⟨p,vs,k,u,rfl,rfl,hv1,hk.1,by rw [rv.length];exact hk.2.1,by rw [rv.length];exact hk.2.2,q _ _ _ ((rs.go x12).change hi hp ⟨_,u8,(rv1.take k.toNat).append (.cons r2 (rv1.drop k.toNat))⟩)⟩
   ·cases e2
  ·cases e2
end Mi
namespace Mi
open PySem L2
class xx (w:W):Prop where
 h:∀{ε:ME}{P P':PV->ME->Prop},(∀ y e,P y e->P' y e)->w ε P->w ε P'
class wo (w:WA):Prop where
 h:∀{ε:ME}{P P':List PV->ME->Prop},(∀ y e,P y e->P' y e)->w ε P->w ε P'
class wp (w:WT):Prop where
 h:∀{ε:ME}{P P':Bool->ME->Prop},(∀ y e,P y e->P' y e)->w ε P->w ε P'
class zv (w:WS):Prop where
 h:∀{ε:ME}{N N':ME->Prop}{R R':PV->ME->Prop},(∀ e,N e->N' e)->(∀ y e,R y e->R' y e)->w ε N R->w ε N' R'
instance {f:M}:xx (wP f) where h:=fun k ⟨y,e,q⟩=>⟨y,e,k _ _ q⟩
instance {f:MB}:wp (wPT f) where h:=fun k ⟨y,e,q⟩=>⟨y,e,k _ _ q⟩
instance {g:PV->PV->Option PV}{a b:W}[A:xx a][B:xx b]:xx (xM g a b) where h:=fun k h=>A.h (fun _ _ h1=>B.h (fun _ _ ⟨z,e,q⟩=>⟨z,e,k _ _ q⟩) h1) h
instance:wp zZ where h:=fun k h=>k _ _ h
theorem Wg {c:Bool}{A B A' B':Prop}(h1:A->A')(h2:B->B')(h:if c=true then A else B):if c=true then A' else B':=by
 cases c with
 |true=>exact zR (h1 (by simpa using h))
 |false=>exact zQ (h2 (by simpa using h))
instance:wo qT where h:=fun k h=>k _ _ h
instance {a:W}{r:WA}[A:xx a][B:wo r]:wo (m3 a r) where h:=fun k h=>A.h (fun _ _ h1=>B.h (fun _ _ h2=>k _ _ h2) h1) h
instance {i:Nat}{a:W}[A:xx a]:xx (qH i a) where h:=fun k h=>⟨h.1,A.h (fun _ _ ⟨n,m,e1,e2,e3,q⟩=>⟨n,m,e1,e2,e3,k _ _ q⟩) h.2⟩
instance {i:Nat}{pre:List PV->Prop}{R:List PV->PV->Prop}{a:WA}[A:wo a]:xx (zr i pre R a) where h:=fun k h=>⟨h.1,A.h (fun _ _ ⟨h1,h2,h3⟩=>⟨h1,h2,fun y n r=>k _ _ (h3 y n r)⟩) h.2⟩
instance {i:Nat}{a:W}[A:xx a]:xx (XM i a) where h:=fun k h=>⟨h.1,A.h (fun _ _ ⟨xs,j,y,e1,e2,e3,e4,e5,e6,q⟩=>⟨xs,j,y,e1,e2,e3,e4,e5,e6,k _ _ q⟩) h.2⟩
instance {f:MA}:wo (wIp f) where h:=fun k ⟨y,e,q⟩=>⟨y,e,k _ _ q⟩
theorem YB {g:MG}{c:WT}{f:W}{ts:List Nat}[C:wp c][F:xx f]{Q Q':List PV->ME->Prop}(k:∀ y e,Q y e->Q' y e):∀(xs ys:List PV)(ε:ME),vx g c f ts xs ys ε Q->vx g c f ts xs ys ε Q'
 |[],ys,ε,h=>k _ _ h
 |x::xs,ys,ε,h=>by
  obtain ⟨ε1,e1,h1⟩:=h;exact ⟨ε1,e1,C.h (fun b ε2 h2=>Wg (fun h3=>F.h (fun y ε3 h4=>YB k xs _ _ h4) h3) (fun h3=>YB k xs _ _ h3) h2) h1⟩
instance {cap:List (Option Nat)}{ts:List Nat}{it:WA}{g:MG}{c:WT}{f:W}[I:wo it][C:wp c][F:xx f]:xx (jw cap ts it g c f) where
 h:=fun k h=>I.h (fun _ _ ⟨h1,h2,h3⟩=>⟨h1,h2,YB (fun _ _ ⟨q1,q2⟩=>⟨q1,k _ _ q2⟩) _ _ _ h3⟩) h
instance:zv xS where h:=fun k _ h=>k _ h
instance {a b:WS}[A:zv a][B:zv b]:zv (wSeq a b) where h:=fun k r h=>A.h (fun _ h1=>B.h k r h1) r h
instance {i:Nat}{a:W}[A:xx a]:zv (qq i a) where h:=fun k _ h=>A.h (fun _ _ h1=>k _ h1) h
instance {i:Nat}{f:M}:zv (wg i f) where h:=fun k _ ⟨x,e,q⟩=>⟨x,e,k _ q⟩
instance {a:W}[A:xx a]:zv (xb a) where h:=fun _ r h=>A.h r h
instance {c:WT}{a b:WS}[C:wp c][A:zv a][B:zv b]:zv (xG c a b) where h:=fun k r h=>C.h (fun _ _ h1=>Wg (fun h2=>A.h k r h2) (fun h2=>B.h k r h2) h1) h
instance {i:Nat}{a:W}[A:xx a]:zv (wf i a) where h:=fun k _ h=>⟨h.1,A.h (fun _ _ ⟨xs,e1,e2,q⟩=>⟨xs,e1,e2,k _ q⟩) h.2⟩
theorem VI {g:MG}{c:WT}{f:W}{ts:List Nat}{Q:List PV->ME->Prop}[C:wp c][F:xx f](I:List PV->List PV->ME->Prop)(hd:∀ ys ε,I [] ys ε->Q ys ε)(hs:∀ x xs ys ε,I (x::xs) ys ε->∃ ε1,g x ε=some ε1/\c ε1 fun b ε2=>if b=true then f ε2 fun y ε3=>I xs (ys++[y]) (rst ts ε3) else I xs ys (rst ts ε2)):∀(xs ys:List PV)(ε:ME),I xs ys ε->vx g c f ts xs ys ε Q
 |[],ys,ε,h=>hd ys ε h
 |x::xs,ys,ε,h=>by
  obtain ⟨ε1,e1,h1⟩:=hs x xs ys ε h;exact ⟨ε1,e1,C.h (fun b ε2 h2=>Wg (fun h3=>F.h (fun y ε3 h4=>VI I hd hs xs _ _ h4) h3) (fun h3=>VI I hd hs xs _ _ h3) h2) h1⟩
theorem QL {g:MG}{f:W}{ts:List Nat}{Q:List PV->ME->Prop}[F:xx f](I:List PV->List PV->ME->Prop)(hd:∀ ys ε,I [] ys ε->Q ys ε)(hs:∀ x xs ys ε,I (x::xs) ys ε->∃ ε1,g x ε=some ε1/\f ε1 fun y ε3=>I xs (ys++[y]) (rst ts ε3))(xs ys:List PV)(ε:ME)(h:I xs ys ε):vx g zZ f ts xs ys ε Q :=
 VI I hd (fun x xs ys ε h=>by
  obtain ⟨ε1,e,q⟩:=hs x xs ys ε h;refine ⟨ε1,e,?_⟩;show if true=true then (f ε1 fun y ε3=>I xs (ys++[y]) (rst ts ε3)) else I xs ys (rst ts ε1)
  rw [if_pos rfl];exact q) xs ys ε h
theorem Wt {g:MG}{f:WS}{N:ME->Prop}{R:PV->ME->Prop}[F:zv f](I:List PV->ME->Prop)(hd:∀ ε,I [] ε->N ε)(hs:∀ x xs ε,I (x::xs) ε->∃ ε1,g x ε=some ε1/\f ε1 (fun ε2=>I xs ε2) R):∀(xs:List PV)(ε:ME),I xs ε->XL g f xs ε N R
 |[],ε,h=>hd ε h
 |x::xs,ε,h=>by
  obtain ⟨ε1,e1,h1⟩:=hs x xs ε h;exact ⟨ε1,e1,F.h (fun ε2 h2=>Wt I hd hs xs ε2 h2) (fun _ _ z=>z) h1⟩
end Mi
namespace Mi
open PySem L2
section
variable {ε ε1:ME}{a b:MS}{f g:M}{x y z:PV}{i:Nat}{o:Option Out}
theorem y4 (h:a ε=some (.nx ε1))(k:b ε1=o):w5 a b ε=o:=by unfold w5;rw [h];exact k
theorem Zo (h:a ε=some (.rt y)):w5 a b ε=some (.rt y):=by unfold w5;rw [h];rfl
theorem qa (h:f ε=some x):p6 i f ε=some (.nx (ε.set i (.sh x))):=by unfold p6;rw [h];rfl
theorem Zp (h:f ε=some x):vH i f ε=some (.nx (ε.set i (.ow x))):=by unfold vH;rw [h];rfl
theorem i6 (h:f ε=some x):y8 f ε=some (.rt x):=by unfold y8;rw [h];rfl
theorem y3 {G:PV->PV->Option PV}{r:Option PV}(h1:f ε=some x)(h2:g ε=some y)(h:G x y=r):x8 G f g ε=r:=by unfold x8;rw [h1];show Option.bind (g ε) _=_;rw [h2];exact h
theorem j9 {m:List PV->Option PV}{as:MA}{xs:List PV}{r:Option PV}(h1:as ε=some xs)(h:m xs=r):x9 m as ε=r:=by unfold x9;rw [h1];exact h
theorem u4 {r:MA}{xs:List PV}(h1:f ε=some x)(h2:r ε=some xs):q0 f r ε=some (x::xs):=by unfold q0;rw [h1];show Option.bind (r ε) _=_;rw [h2];rfl
theorem QO {c:MB}(h:c ε=some true)(k:a ε=o):m5 c a b ε=o:=by unfold m5;rw [h];exact k
theorem qw {c:MB}(h:c ε=some false)(k:b ε=o):m5 c a b ε=o:=by unfold m5;rw [h];exact k
theorem zd {it:MA}{G:MG}{xs:List PV}(h:it ε=some xs)(k:qi G a xs ε=o):xV it G a ε=o:=by unfold xV;rw [h];exact k
theorem QQ {l u:ME->Option (Option Int)}{xs:List PV}{lo hi:Option Int}(h1:f ε=some (.lst xs))(h2:l ε=some lo)(h3:u ε=some hi):jC f l u ε=some (.lst (zL xs lo hi)):=by unfold jC;rw [h1];show Option.bind (l ε) _=_;rw [h2];show Option.bind (u ε) _=_;rw [h3];rfl
theorem jD {as:MA}{xs:List PV}(h:as ε=some xs)(hl:xs.length<=lim):xz as ε=some (.lst xs):=by unfold xz;rw [h];show (if _ then _ else _)=_;rw [if_pos hl]
theorem zO {as:MA}{xs:List PV}(h:as ε=some xs)(hl:xs.length<=lim):qO as ε=some (.tup xs):=by unfold qO;rw [h];show (if _ then _ else _)=_;rw [if_pos hl]
theorem VW {cap:List (Option Nat)}{ts:List Nat}{it:MA}{G:MG}{c:MB}{xs ys:List PV}(h:it ε=some xs)(hc:vF cap ts=true)(hl:xs.length<=lim)(k:zj G c f (qE cap ε) xs=some ys):h8 cap ts it G c f ε=some (.lst ys):=by unfold h8;rw [h];show (if _ then _ else _)=_;rw [if_pos ⟨hc,hl⟩,k];rfl
end
theorem Xp {xs ys:List PV}(h:xs.length+ys.length<=lim):qm (.lst xs) (.lst ys)=some (.lst (xs++ys)):=by show (if _ then _ else _)=_;rw [if_pos h]
theorem zc {n k:Nat}{b:MS}{xs:List PV}{y:PV}(hl:xs.length=k)(h:b (xs.map .sh++List.replicate (n-k) .no)=some (.rt y)):qN n k b xs=some y:=by unfold qN;rw [if_pos hl,h];rfl
theorem qv {n k:Nat}{b:MS}{xs:List PV}{y:PV}(hl:xs.length=k)(h:b (xs.map .sh++List.replicate (n-k) .no)=some (.rt y)):r6 n k b xs=some y:=by unfold r6;rw [if_pos hl,h];rfl
theorem WP {f:PV->PV->Option Bool}:∀{xs:List PV},(∀ x∈xs,f x x=some true)->zV f xs xs=some true
 |[],_=>rfl
 |x::xs,h=>by unfold zV;rw [h x List.mem_cons_self];show Option.bind (zV f xs xs) _=_;rw [WP fun y hy=>h y (List.mem_cons_of_mem _ hy)];rfl
def vk:Nat->PV->Prop
 |_,.at u=>p7 u=true
 |n+1,.lst xs=>∀ x∈xs,vk n x
 |n+1,.tup xs=>∀ x∈xs,vk n x
 |_,_=>False
theorem ZZ:∀(n:Nat){x:PV},vk n x->peq n x x=some true
 |0,x,h=>by
  cases x with
  |«at» u=>show (if _ then _ else _)=_;rw [if_pos ⟨h,h⟩,Zh h]
  |_=>exact h.elim
 |n+1,x,h=>by
  cases x with
  |«at» u=>show (if _ then _ else _)=_;rw [if_pos ⟨(show p7 u=true from h),h⟩,Zh h]
  |lst xs=>show (if _ then _ else _)=_;rw [if_pos rfl];exact WP fun y hy=>ZZ n (h y hy)
  |tup xs=>show Option.bind (zV (peq n) xs xs) _=_;rw [WP fun y hy=>ZZ n (h y hy)];show some (true&&(xs.length==xs.length))=_;rw [beq_self_eq_true];rfl
  |_=>exact h.elim
theorem NZ {x:PV}(h:vk 6 x):qX x x=some (.at (.bl true)):=by unfold qX;rw [ZZ 6 h];rfl
theorem Qr {x:PV}(h:vk 6 x):qP x x=some (.at (.bl false)):=by unfold qP;rw [ZZ 6 h];rfl
end Mi
namespace Mi
open PySem L2
class jX (K:Fg)(C:Addr):Prop where
 c:Cls K C
class NoA (K:Fg)(C:Addr)(f:Str):Prop where
 n:NoAttr K C f
def Qa (f:Str):List Str->List PV->Option PV
 |n::ns,x::xs=>if f=n then some x else Qa f ns xs
 |_,_=>none
theorem Ks {H:Hp}{f:Str}{y:PV}:∀{fs:List (Str×V)}{xs:List PV},Reps H xs (fs.map (·.2))->Qa f (fs.map (·.1)) xs=some y->∃ v,fs.lookup f=some v/\Rep H y v
 |[],xs,r,h=>by cases xs<;>cases h
 |p::fs,xs,r,h=>by
  cases xs with
  |nil=>cases h
  |cons x xs =>
   obtain ⟨v,w,e,p1,p2⟩:=reps_cons.mp r;rw [List.map_cons] at e;injection e with e1 e2;subst e1 e2;rw [List.map_cons] at h;unfold Qa at h;rw [List.lookup_cons];split at h
   ·rename_i hf;cases h;rw [hf,beq_self_eq_true];exact ⟨p.2,rfl,p1⟩
   ·rename_i hf;rw [beq_eq_false_iff_ne.mpr hf];exact Ks p2 h
def jA (C:Addr)(f:Str)(a:M):M:=fun ε=>(a ε).bind fun x=>match x with
 | .ob C' ns xs=>if C'=C then Qa f ns xs else none
 |_=>none
theorem Df {C:Addr}{f:Str}{a:M}{ε:ME}{y:PV}(h:jA C f a ε=some y):∃ ns xs,a ε=some (.ob C ns xs)/\Qa f ns xs=some y:=by
 unfold jA at h;obtain ⟨x,ex,h1⟩:=bind_some h;split at h1
 ·split at h1
  ·rename_i hc;subst hc;exact ⟨_,_,ex,h1⟩
  ·cases h1
 ·cases h1
instance {K:Fg}{C:Addr}{f:Str}{te:TE}{a:M}[c:jX K C][n:NoA K C f][s:qr te a]:SemE (tFld K te f) (jA C f a) where
 h:=fun e _ _ _ _ _ rs _ q=>by
  obtain ⟨ns,xs,ea,el⟩:=Df e;refine s.h ea rs fun v Hs1 H1 x1 r1=>?_;obtain ⟨p,dx,fs,rfl,hp,hk,hr⟩:=Bx x1.s3 r1;rw [<- hk] at el;obtain ⟨u,hu,ru⟩:=Ks hr el;exact ⟨p,C,dx,fs,u,rfl,hp,c.c,n.n,hu,q u _ _ x1 ru⟩
theorem WL {X:Cx}{K:Fg}{e:Expr}{f:Str}{ta:TE}{pos:Pos}(hK:X.K=K)(he:PE X e ta)(hb:attributeBase e f X.env (eval e X.env)=eval e X.env:=by rfl):PE X (.Attribute e f pos) (tFld K ta f):=by subst hK;exact Hh he hb
structure Mt (P:Program)(w:World)(K:Fg)(mg:Str->Option Value)(base:Heap)(k:Nat)(C:Addr)(m:Str)(ps:List Str)(sp:Sp):Prop where
 ex:∃ f fd,FnOk P w K mg base w6 k f fd ps sp/\QF K C m f/\Cls K C/\Binds K fd ps []
section
variable {X:Cx}{k j:Nat}{C:Addr}{m:Str}{ps:List Str}{sp:Sp}{o e:Expr}{es:List Expr}{ta:TE}{t:TA}{apos pos:Pos}
theorem KM {pl:Sem Bool}(c:Mt X.prog X.w X.K X.mg X.base k C m ps sp)(hr:Room j X.A)(hj:k<=j)(ho:PE X o ta)(ha:PA X (e::es) t)
  (hst:starEach (e::es) X.env=(false,eval e X.env)::starEach es X.env:=by rfl) (hpl:(backTo pos (starEach es X.env)).any (·.1)=false:=by rfl)
  (ht:eval (.Call (.Attribute o m apos) (e::es) [] pos) X.env=(do
   let ov <- eval o X.env
   standAt apos.atName
   let (f,first) <- holding [ov] (getMethod ov m pl)
   callWith pos f first (backTo pos (starEach (e::es) X.env)) (backToKw pos (keywordEach [] X.env))):=by rfl) :
  PE X (.Call (.Attribute o m apos) (e::es) [] pos) (we C m sp [] E0 ta t):=by
 obtain ⟨f,fd,F,hm,hc,hb⟩:=c.ex;exact Hm ho hc hm F (hr.mono hj) hb .nil ZV ha hst hpl ht
theorem ZY {pl:Sem Bool}(c:Mt X.prog X.w X.K X.mg X.base k C m ps sp)(hr:Room j X.A)(hj:k<=j)(ho:PE X o ta)
  (ht:eval (.Call (.Attribute o m apos) [] [] pos) X.env=(do
   let ov <- eval o X.env
   standAt apos.atName
   let (f,first) <- holding [ov] (getMethod ov m pl)
   callWith pos f first (backTo pos (starEach [] X.env)) (backToKw pos (keywordEach [] X.env))):=by rfl) :
  PE X (.Call (.Attribute o m apos) [] [] pos) (we C m sp [] E0 ta qp):=by
 obtain ⟨f,fd,F,hm,hc,hb⟩:=c.ex;exact Hn ho hc hm F (hr.mono hj) hb .nil ZV ht
end
end Mi
namespace Mi
open PySem L2
variable {fr:Bool}
def jf (c:MB)(b:MS):Nat->MS
 |0=>fun _=>none
 |n+1=>fun ε=>(c ε).bind fun k=>if k=true then (b ε).bind fun o=>match o with
  | .nx ε'=>jf c b n ε'
  | .ct ε'=>jf c b n ε'
  | .bk ε'=>some (.nx ε')
  | .rt y=>some (.rt y) else some (.nx ε)
instance {t:TT}{tb:TS}{c:MB}{b:MS}{n:Nat}[sc:xI t c][sb:SemS fr tb b]:SemS fr (Pf t tb) (jf c b n) where
 h:=fun {ε o} e Hs0 H0 Hs H Z rs D q=>by
  refine ⟨fun m Z H=>∃ Hs ε,RS Hs0 H0 Hs H Z ε/\jf c b m ε=some o,⟨n,Hs,ε,rs,e⟩,?_⟩;rintro m σ1 H1 ⟨Hs1,ε1,r1,e1⟩;cases m with
  |zero=>cases e1
  |succ m =>
   unfold jf at e1;obtain ⟨k,ek,e2⟩:=bind_some e1;refine sc.h ek r1 fun Hs2 H2 x2=>?_;cases k with
   |true =>
    rw [if_pos rfl] at e2;obtain ⟨o1,eo,e3⟩:=bind_some e2;refine zR ⟨fun σ' H'=>∃ Hs ε,RS Hs0 H0 Hs H' σ' ε/\jf c b m ε=some o,fun σ' H' p=>⟨m,Nat.lt_succ_self m,p⟩,sb.h eo (r1.go x2) ?_⟩;cases o1 with
    |nx ε'=>exact fun Hs3 H3 σ3 r3=>⟨Hs3,ε',r3,e3⟩
    |ct ε'=>exact fun Hs3 H3 σ3 r3=>⟨Hs3,ε',r3,e3⟩
    |bk ε'=>cases e3;exact q
    |rt y=>cases e3;exact q
   |false=>rw [if_neg Bool.false_ne_true] at e2;cases e2;exact zQ (q _ _ _ (r1.go x2))
def vd:PV->Option j5
 | .at (.int i)=>some (.inl i)
 | .at (.str x)=>some (.inr x)
 |_=>none
theorem wY {Hs H:Hp}{x:PV}{v:V}{k:j5}(r:RepB Hs H x v)(h:vd x=some k):v=kV k:=by
 unfold vd at h;split at h
 ·cases h;cases m8 r;rfl
 ·cases h;cases m8 r;rfl
 ·cases h
def xK (k:j5):List j5->List PV->Option PV
 |n::ns,x::xs=>if n=k then some x else xK k ns xs
 |_,_=>none
theorem Zy {H:Hp}{k:j5}:∀{kvs:List (j5×V)}{xs:List PV},Reps H xs (kvs.map (·.2))->match xK k (kvs.map (·.1)) xs with
  |some y=>∃ v,xw kvs k=some v/\Rep H y v
  |none=>xw kvs k=none
 |[],xs,r=>by
  have hx:xs=[]:=List.length_eq_zero_iff.mp r.length.symm;subst hx;rfl
 |p::kvs,xs,r=>by
  cases xs with
  |nil=>have:=r.length;simp at this
  |cons x xs =>
   obtain ⟨v,w,e,p1,p2⟩:=reps_cons.mp r;rw [List.map_cons] at e;injection e with e1 e2;subst e1 e2;rw [List.map_cons];unfold xK;by_cases hk:p.1=k
   ·rw [if_pos hk];refine ⟨p.2,?_,p1⟩;unfold xw;rw [List.find?_cons,decide_eq_true hk];rfl
   ·rw [if_neg hk];have ih:=Zy (k:=k) p2;have ev:xw (p::kvs) k=xw kvs k:=by unfold xw;rw [List.find?_cons,decide_eq_false hk]
    rw [ev];exact ih
def qA (a b:M):M:=fun ε=>(a ε).bind fun x=>(b ε).bind fun y=>(vd y).bind fun k=>match x with
 | .dk ks xs=>xK k ks xs
 | .fk ks xs=>xK k ks xs
 |_=>none
instance {td ty:TE}{a b:M}[sa:qr td a][sb:qr ty b]:SemE (BX td ty) (qA a b) where
 h:=fun e _ _ _ _ _ rs _ q=>by
  obtain ⟨x,ex,e1⟩:=bind_some e;obtain ⟨y,ey,e2⟩:=bind_some e1;obtain ⟨k,ek,e3⟩:=bind_some e2;split at e3
  ·refine sa.h ex rs fun v Hs1 H1 x1 r1=>sb.h ey (rs.go x1) fun w Hs2 H2 x2 r2=>?_;obtain ⟨p,kvs,rfl,hp,hk,hr⟩:=vZ x2.s3 (r1.ext x2);have l:=Zy (k:=k) hr;rw [hk,e3] at l;obtain ⟨u,hu,ru⟩:=l;have ew:=wY r2 ek;subst ew;exact ⟨p,u,rfl,by rw [<- hu];exact DGet.k hp,q u _ _ (x1.trans x2) ru⟩
  ·refine sa.h ex rs fun v Hs1 H1 x1 r1=>sb.h ey (rs.go x1) fun w Hs2 H2 x2 r2=>?_;obtain ⟨p,o,kvs,rfl,hp,hk,hr⟩:=Jc x2.s3 (r1.ext x2);have l:=Zy (k:=k) hr;rw [hk,e3] at l;obtain ⟨u,hu,ru⟩:=l;have ew:=wY r2 ek;subst ew;exact ⟨p,u,rfl,by rw [<- hu];exact .inl ⟨kvs,k,.inr ⟨o,hp⟩,rfl,rfl⟩,q u _ _ (x1.trans x2) ru⟩
  ·cases e3
def dDIn (b a:M):M:=fun ε=>(b ε).bind fun y=>(a ε).bind fun x=>(vd y).bind fun k=>match x with
 | .dk ks xs=>some (.at (.bl (xK k ks xs).isSome))
 | .fk ks xs=>some (.at (.bl (xK k ks xs).isSome))
 |_=>none
theorem Wq {H:Hp}{k:j5}{kvs:List (j5×V)}{xs:List PV}(r:Reps H xs (kvs.map (·.2))):(xK k (kvs.map (·.1)) xs).isSome=(xw kvs k).isSome:=by
 have l:=Zy (k:=k) r;cases e:xK k (kvs.map (·.1)) xs with
 |none=>rw [e] at l;rw [show xw kvs k=none from l];rfl
 |some y=>rw [e] at l;obtain ⟨v,hv,_⟩:=l;rw [hv];rfl
instance {td ty:TE}{a b:M}[sa:qr td a][sb:qr ty b]:SemE (tDIn ty td) (dDIn b a) where
 h:=fun e _ _ _ _ _ rs _ q=>by
  obtain ⟨y,ey,e1⟩:=bind_some e;obtain ⟨x,ex,e2⟩:=bind_some e1;obtain ⟨k,ek,e3⟩:=bind_some e2;split at e3
  ·cases e3;refine sb.h ey rs fun w Hs1 H1 x1 r1=>sa.h ex (rs.go x1) fun v Hs2 H2 x2 r2=>?_;obtain ⟨p,kvs,rfl,hp,hk,hr⟩:=vZ x2.s3 r2;have ew:=wY r1 ek;subst ew;exact ⟨p,_,rfl,DGet.k hp,q _ _ _ (x1.trans x2) (rep_at.mpr (by rw [<- hk,Wq hr]))⟩
  ·cases e3;refine sb.h ey rs fun w Hs1 H1 x1 r1=>sa.h ex (rs.go x1) fun v Hs2 H2 x2 r2=>?_;obtain ⟨p,o,kvs,rfl,hp,hk,hr⟩:=Jc x2.s3 r2;have ew:=wY r1 ek;subst ew;exact ⟨p,_,rfl,.inl ⟨kvs,_,.inr ⟨o,hp⟩,rfl,rfl⟩,q _ _ _ (x1.trans x2) (rep_at.mpr (by rw [<- hk,Wq hr]))⟩
  ·cases e3
def Gv:M:=fun _=>some (.dk [] [])
instance:zi BY Gv where
 h:=fun e _ _ _ _ _ rs _ q=>by
  cases e;exact fun p hp=>q p _ _ (.newO rs.sub hp) hp (rs.sub.free hp) ⟨[],u8,rfl,.nil⟩
def Xx (k:j5)(y:PV):List j5->List PV->List PV
 |n::ns,x::xs=>if n=k then y::Xx k y ns xs else x::Xx k y ns xs
 |_,xs=>xs
def Jb (k:j5)(y:PV)(ks:List j5)(xs:List PV):PV:=if (xK k ks xs).isSome=true then .dk ks (Xx k y ks xs) else .dk (ks++[k]) (xs++[y])
theorem Bc {H:Hp}{k:j5}{y:PV}{v:V}(ry:Rep H y v):∀{kvs:List (j5×V)}{xs:List PV},Reps H xs (kvs.map (·.2))->Reps H (Xx k y (kvs.map (·.1)) xs) ((kvs.map (fun kv=>if kv.1=k then (kv.1,v) else kv)).map (·.2))/\(kvs.map (fun kv=>if kv.1=k then (kv.1,v) else kv)).map (·.1)=kvs.map (·.1)
 |[],xs,r=>by
  have hx:xs=[]:=List.length_eq_zero_iff.mp r.length.symm;subst hx;exact ⟨.nil,rfl⟩
 |p::kvs,xs,r=>by
  cases xs with
  |nil=>have:=r.length;simp at this
  |cons x xs =>
   obtain ⟨u,w,e,p1,p2⟩:=reps_cons.mp r;rw [List.map_cons] at e;injection e with e1 e2;subst e1 e2;obtain ⟨h1,h2⟩:=Bc (k:=k) ry p2;rw [List.map_cons,List.map_cons,List.map_cons,List.map_cons];unfold Xx;by_cases hk:p.1=k
   ·rw [if_pos hk,if_pos hk];exact ⟨.cons ry h1,by rw [h2]⟩
   ·rw [if_neg hk,if_neg hk];exact ⟨.cons p1 h1,by rw [h2]⟩
def dPut (i:Nat)(kk vv:M):MS:=fun ε=>(vv ε).bind fun y=>(kk ε).bind fun x=>(vd x).bind fun k=>match ε[i]? with
 |some (.ow (.dk ks xs))=>if ks.length<=lim then some (.nx (ε.set i (.ow (Jb k y ks xs)))) else none
 |_=>none
instance {i:Nat}{ty tv:TE}{kk vv:M}[sk:SemE ty kk][sv:SemE tv vv]:SemS fr (BF (qL i) ty tv) (dPut i kk vv) where
 h:=fun e _ _ _ _ _ rs _ q=>by
  obtain ⟨y,ey,e1⟩:=bind_some e;obtain ⟨x,ex,e2⟩:=bind_some e1;obtain ⟨k,ek,e3⟩:=bind_some e2;split at e3
  ·rename_i ks xs hi;split at e3
   ·rename_i hl;cases e3;refine sv.h ey rs fun v Hs1 H1 x1 r1=>?_;obtain ⟨p,hp,n0,n,t⟩:=(rs.go x1).ow i _ hi;refine ⟨_,hp,sk.h ex (rs.go x1) fun w Hs2 H2 x2 r2=>?_⟩;obtain ⟨p',hp',_,n2,kvs,hv,hk,hr⟩:=((rs.go x1).go x2).ow i _ hi;rw [hp] at hp';injection hp' with hp';injection hp' with hp';injection hp' with hp';subst hp';have ew:=wY (.inl r2:RepB Hs2 H2 x w) ek;subst ew;have hlen:kvs.length<=lim:=by rw [<- hk,List.length_map] at hl;exact hl
    refine ⟨p,_,rfl,DPut.k hv (Wp hlen),q _ _ _ (((rs.go x1).go x2).change hi hp ?_)⟩;have hs:=Wq (k:=k) hr;unfold Jb zD;rw [Yu,<- hs,hk];by_cases hc:(xK k ks xs).isSome=true
    ·rw [if_pos hc,if_pos hc];obtain ⟨q1,q2⟩:=Bc (k:=k) (r1.mono x2.s1) hr;exact ⟨_,u8,by rw [q2,hk],by rw [<- hk];exact q1⟩
    ·rw [if_neg hc,if_neg hc];exact ⟨_,u8,by rw [List.map_append,hk];rfl,by rw [List.map_append];exact hr.append (.one (r1.mono x2.s1))⟩
   ·cases e3
  ·cases e3
end Mi
namespace Mi
open PySem L2
def rLeS:R2:=fun x y H Q=>∃ i j,x = .str i/\y = .str j/\Q (.bl (!decide (j.cps.toList<i.cps.toList))) H
theorem KI {X:Cx}:OpR X (compareOp .LtE) rLeS:=NW
def pLeS:PV->PV->Option PV
 | .at (.str i),.at (.str j)=>some (.at (.bl (!decide (j.cps.toList<i.cps.toList))))
 |_,_=>none
instance:xT rLeS pLeS where
 h:=fun {x y z} e {Hs H v w} s a b {Q} q=>by
  unfold pLeS at e;split at e
  ·cases e;cases m8 a;cases m8 b;exact ⟨_,_,rfl,rfl,q _ _ _ (.refl s) (rep_at.mpr rfl)⟩
  ·cases e
def XA (z:Str):List PV:=z.cps.toList.map fun c=> .at (.str ⟨#[c]⟩)
def dItS (a:M):MA:=fun ε=>(a ε).bind fun x=>match x with
 | .at (.str z)=>some (XA z)
 |_=>none
theorem MC {z:Str}{Hs:Hp}:jx (ItS z) (XA z) Hs where
 go:=fun i x Hs1 H1 e g1 g2=>by
  unfold XA at e;rw [List.getElem?_map] at e;obtain ⟨c,hc,rfl⟩:=Option.map_eq_some_iff.mp e;rw [Array.getElem?_toList] at hc;have hl:i<z.cps.size:=(Array.getElem?_eq_some_iff.mp hc).1;refine ⟨hl,fun v H2 y=>?_⟩;obtain ⟨rfl,c',hc',rfl⟩:=y;rw [hc] at hc';cases hc';exact ⟨Hs1,.refl g2,rep_at.mpr rfl⟩
 stop:=fun Hs1 H1 g1 g2=>by
  show (XA z).length=z.cps.size;unfold XA;rw [List.length_map,Array.length_toList]
instance {te:TE}{a:M}[sa:SemE te a]:jb (iStr te) (dItS a) where
 h:=fun e _ _ _ _ _ rs _ q=>by
  obtain ⟨x,ex,e1⟩:=bind_some e;split at e1
  ·cases e1;exact sa.h ex rs fun v Hs1 H1 x1 r1=>⟨_,rep_at.mp r1,q _ _ _ x1 MC⟩
  ·cases e1
end Mi
namespace Mi
open PySem L2
theorem Bb {f:Str}{v:V}:∀{fs:List (Str×V)},f∉fs.map (·.1)->xE f v fs=fs++[(f,v)]
 |[],_=>rfl
 |(g,x)::r,h=>by
  rw [List.map_cons] at h;unfold xE;rw [if_neg (show ¬ g=f from fun z=>h (by rw [<- z];exact List.mem_cons_self)),Bb fun z=>h (List.mem_cons_of_mem _ z)];rfl
def PF (C:Addr)(f:Str)(a:W):WS:=fun ε N _=>a ε fun y ε1=>∃ ns xs,ε1[0]?=some (.ow (.ob C ns xs))/\f∉ns/\ns.length<1000/\N (ε1.set 0 (.ow (.ob C (ns++[f]) (xs++[y]))))
instance {K:Fg}{C:Addr}{f:Str}{te:TE}{a:W}[c:jX K C][n:NoA K C f][sa:SemW te a]:SemWS (Xy K (qL 0) te f) (PF C f a) where
 h:=fun h _ _ _ _ _ _ rd _ k _=>sa.h h rd fun y ε1 v Hs1 H1 h1 rd1 g1 r1=>by
  obtain ⟨ns,xs,he,hf,hl,h2⟩:=h1;obtain ⟨p,hp,h0,hs,dx,fs,hH,hk,hr⟩:=rd1.ow 0 _ he;have hf':f∉fs.map (·.1):=by rw [hk];exact hf
  have hl':fs.length<1000:=by rw [<- List.length_map (f:=(·.1)),hk];exact hl
  refine ⟨_,hp,p,C,dx,fs,rfl,hH,c.c,n.n,hl',?_⟩;rw [Bb hf'];exact k _ _ _ _ h2 (rd1.change he hp ⟨dx,_,u8,by rw [List.map_append,hk];rfl,by rw [List.map_append];exact hr.append (.one r1)⟩) g1
def wL (C:Addr)(nm:Str)(m:List PV->Option PV)(i:Nat)(as:MA):M:=fun ε=>match ε[i]? with
 |some (.ow (.ob C' ns fs))=>if C'=C/\nm∉ns then (as ε).bind fun xs=>(m (.ob C ns fs::xs)).bind fun y=>match y with
  | .at u=>some (.at u)
  |_=>none else none
 |_=>none
instance {C:Addr}{nm:Str}{m:List PV->Option PV}{i:Nat}{ta:TA}{as:MA}{E:XK}[sa:xy ta as]:SemE (we C nm (y0 m) [] E (qL i) ta) (wL C nm m i as) where
 h:=fun {ε y} e {Hs0 H0 Hs H Z} rs {Q} q=>by
  unfold wL at e;split at e
  ·rename_i C' ns fs hi;split at e
   ·rename_i hc;obtain ⟨rfl,hn⟩:=hc;obtain ⟨xs,ex,e1⟩:=bind_some e;obtain ⟨z,ez,e2⟩:=bind_some e1;split at e2
    ·rename_i u;cases e2;obtain ⟨p,hp,n0,n,dx,gs,hH,hk,hr⟩:=rs.ow i _ hi;refine ⟨_,hp,p,dx,gs,rfl,hH,Wr (by rw [hk];exact hn),sa.h ex rs fun vs Hs1 H1 x1 r1=>?_⟩;have hH1:=x1.s2 _ _ hH;have n1:Hs1 p=none:=x1.s4 p (by rw [hH];exact fun z=>nomatch z) n;have g:Same Hs1 (v8 Hs1 p (.ins C' dx gs)):=fun b w e=>by rw [j7 (p5 e n1)];exact e
     refine ⟨v8 Hs1 p (.ins C' dx gs),_,_,?_,?_,ez,fun v Hs' H' x r=>?_⟩
     ·intro b w e;by_cases hb:b=p
      ·subst hb;rw [u8] at e;cases e;exact hH1
      ·rw [j7 hb] at e;exact x1.s3 _ _ e
     ·rw [List.append_nil];exact .cons (rep_ob.mpr ⟨p,dx,gs,rfl,u8,hk,(hr.mono x1.s1).mono g⟩) (r1.mono g)
     ·cases rep_at.mp r;refine q _ (fun b=>if b=p then none else Hs' b) H' (x1.trans ⟨fun b w e=>?_,x.s2,fun b w e=>?_,fun b hb w=>?_⟩) (rep_at.mpr rfl)
      ·rw [if_neg (p5 e n1)];exact x.s1 _ _ (g _ _ e)
      ·split at e
       ·cases e
       ·exact x.s3 _ _ e
      ·by_cases hbp:b=p
       ·rw [if_pos hbp]
       ·rw [if_neg hbp];exact x.s4 b hb (by rw [j7 hbp];exact w)
    ·cases e2
   ·cases e
  ·cases e
def spI (C:Addr)(m:List PV->Option PV):Sp:=fun vs H Q _=>∃ Hs x dx xs ws y,vs = .ref x::ws/\Same Hs H/\H x=some (.ins C dx [])/\Hs x=none/\Reps Hs xs ws/\m xs=some y /\
 ∀ Hs' H',Same Hs Hs'->(∀ b o,H b=some o->b≠x->H' b=some o)->Same Hs' H'->(∀ b,H b≠none->b≠x->Hs b=none->Hs' b=none)->Rep Hs' y (.ref x)->Q .non H'
instance {C:Addr}{m:List PV->Option PV}{ta:TA}{as:MA}{E:XK}{ds:List V}[sa:xy ta as]:SemE (XG C (spI C m) ds E ta) (VM m ds as) where
 h:=fun e _ _ _ _ _ rs _ q=>by
  obtain ⟨xs,ex,e1⟩:=bind_some e;refine sa.h ex rs fun vs Hs1 H1 x1 r1=>fun x dx hx hdx hne=>?_;have s3:Same Hs1 (v8 (v8 H1 dx (.own x)) x (.ins C dx [])):=fun b o e=>by
   have e':=x1.s3 _ _ e;rw [j7 (p5 e' hx),j7 (p5 e' hdx)];exact e'
  refine ⟨Hs1,x,dx,_,_,_,rfl,s3,u8,x1.s3.free hx,r1.append (.ofAts ds),e1,fun Hs' H' g1 g2 g3 g4 r=>⟨rfl,q _ _ _ (x1.trans ⟨g1,fun b o e=>?_,g3,fun b hb z=>?_⟩) r⟩⟩
  ·refine g2 b o ?_ (p5 e hx);rw [j7 (p5 e hx),j7 (p5 e hdx)];exact e
  ·have hbx:b≠x:=fun w=>hb (by rw [w];exact hx);have hbd:b≠dx:=fun w=>hb (by rw [w];exact hdx);exact g4 b (by rw [j7 hbx,j7 hbd];exact hb) hbx z
section
variable {P:Program}{w:World}{K:Fg}{mg:Str->Option Value}{base:Heap}
theorem Rb {N:List Str}{Hs H:Hp}{a:Addr}{y:PV}{xs:List PV}{ws:List V}(s:Same Hs H)(ha:Hs a=none)(t:Top Hs H a y)(r:Reps Hs xs ws):RD [a] Hs H Hs H (L2.start N (.ref a::ws)) (.ow y::xs.map .sh++List.replicate (N.length-(xs.length+1)) .no):=by
 have q:=vn (N:=N) (xs:= .at (.ref a)::xs) s (.cons (rep_at.mpr rfl) r);have tl:∀(i:Nat)(sl:MSlot),(MSlot.ow y::xs.map .sh++List.replicate (N.length-(xs.length+1)) .no)[i+1]?=some sl->((PV.at (.ref a)::xs).map MSlot.sh++List.replicate (N.length-(PV.at (.ref a)::xs).length) .no)[i+1]?=some sl:=fun i sl h=>h;refine ⟨.refl _,fun b o e _=>e,s,fun _ _ z=>z,fun i x h=>?_,fun i x h=>?_,fun i j x y b h1 h2 _ _=>?_,?_,fun b hb=>?_,fun b hb=>?_,(fun b hb=>⟨_,rfl⟩),fun i x h=>by
  cases i with
  |zero=>simp at h
  |succ i=>exact Yg (xs:=PV.at (.ref a)::xs) (tl i _ h)⟩
 ·cases i with
  |zero=>simp at h
  |succ i=>exact q.sh (i+1) x (tl i _ h)
 ·cases i with
  |zero=>simp at h;subst h;exact ⟨a,by unfold L2.start;rfl,.inr (List.mem_singleton.mpr rfl),ha,t⟩
  |succ i=>exact absurd (tl i _ h) (wb (xs:=PV.at (.ref a)::xs))
 ·cases i with
  |zero =>
   cases j with
   |zero=>rfl
   |succ j=>exact absurd (tl j _ h2) (wb (xs:=PV.at (.ref a)::xs))
  |succ i=>exact absurd (tl i _ h1) (wb (xs:=PV.at (.ref a)::xs))
 ·exact q.len
 ·rw [List.mem_singleton.mp hb];unfold L2.start;rfl
 ·rw [List.mem_singleton.mp hb];exact t.there
end
end Mi
namespace Mi
open PySem L2
variable {fr:Bool}
section
variable {ε:ME}{c d:MB}{f:M}{a b:WS}{N:ME->Prop}{R:PV->ME->Prop}
theorem vy (h:c ε=some false)(k:b ε N R):xG (wPT c) a b ε N R:=by
 refine ⟨false,h,?_⟩;show if false=true then a ε N R else b ε N R
 rw [if_neg Bool.false_ne_true];exact k
theorem Vo (h:c ε=some true)(k:a ε N R):xG (wPT c) a b ε N R:=by
 refine ⟨true,h,?_⟩;show if true=true then a ε N R else b ε N R
 rw [if_pos rfl];exact k
theorem zx (h1:c ε=some false)(h2:d ε=some false):qU c d ε=some false:=by unfold qU;rw [h1];show (if false=true then some true else d ε)=_;rw [if_neg Bool.false_ne_true];exact h2
theorem De (h1:c ε=some false):zM c d ε=some false:=by unfold zM;rw [h1];rfl
theorem VL {v:Bool}(h1:c ε=some true)(h2:d ε=some v):zM c d ε=some v:=by unfold zM;rw [h1];show (if true=true then d ε else some false)=_;rw [if_pos rfl];exact h2
theorem xh (h:c ε=some true):qd c ε=some false:=by unfold qd;rw [h];rfl
theorem xr {v:Bool}(h:f ε=some (.at (.bl v))):i9 f ε=some v:=by unfold i9;rw [h];rfl
theorem r9 {v:Bool}(h:f ε=some (.at (.bl v))):dT f ε=some v:=by unfold dT;rw [h];rfl
theorem Zw {xs:List PV}:qy [.lst xs,.at (.ty "list")]=some (.at (.bl true)):=by unfold qy tyP;simp only [Option.bind_some,TV]
end
end Mi
namespace Mi
open PySem L2
variable {fr:Bool}
theorem Gn {g:MG}{f:M}{ε0:ME}{α:Type}(F G:α->PV):∀(l:List α),(∀ a∈l,∃ ε1,g (F a) ε0=some ε1/\f ε1=some (G a))->zj g i5 f ε0 (l.map F)=some (l.map G)
 |[],_=>rfl
 |a::l,h=>by
  obtain ⟨ε1,e1,e2⟩:=h a List.mem_cons_self;have ih:=Gn F G l fun b hb=>h b (List.mem_cons_of_mem _ hb);show Option.bind (g (F a) ε0) (fun ε1=>Option.bind (i5 ε1) fun b=>if b=true then (f ε1).bind fun y=>(zj g i5 f ε0 (l.map F)).bind fun ys=>some (y::ys) else zj g i5 f ε0 (l.map F))=_;rw [e1,ih];show (if true=true then (f ε1).bind fun y=>some (y::l.map G) else some (l.map G))=_;rw [if_pos rfl,e2];rfl
theorem Gk {g:MG}{c:MB}{f:M}{ε0:ME}{α:Type}(F G:α->PV)(p:α->Bool):∀(l:List α),(∀ a∈l,∃ ε1,g (F a) ε0=some ε1/\c ε1=some (p a)/\(p a=true->f ε1=some (G a)))->zj g c f ε0 (l.map F)=some ((l.filter p).map G)
 |[],_=>rfl
 |a::l,h=>by
  obtain ⟨ε1,e1,e2,e3⟩:=h a List.mem_cons_self;have ih:=Gk F G p l fun b hb=>h b (List.mem_cons_of_mem _ hb);show Option.bind (g (F a) ε0) (fun ε1=>Option.bind (c ε1) fun b=>if b=true then (f ε1).bind fun y=>(zj g c f ε0 (l.map F)).bind fun ys=>some (y::ys) else zj g c f ε0 (l.map F))=_;rw [e1,ih];show Option.bind (c ε1) (fun b=>if b=true then (f ε1).bind fun y=>some (y::(l.filter p).map G) else some ((l.filter p).map G))=_;rw [e2,Option.bind_some,List.filter_cons];cases hp:p a with
  |true=>rw [if_pos rfl,if_pos rfl,e3 hp];rfl
  |false=>rw [if_neg Bool.false_ne_true,if_neg Bool.false_ne_true]
theorem xk {cap:List (Option Nat)}{ts:List Nat}{it:MA}{g:MG}{f:M}{ε:ME}{α:Type}(F G:α->PV)(l:List α)(h:it ε=some (l.map F))(hc:vF cap ts=true)(hl:l.length<=lim)(k:∀ a∈l,∃ ε1,g (F a) (qE cap ε)=some ε1/\f ε1=some (G a)):h8 cap ts it g i5 f ε=some (.lst (l.map G)):=VW h hc (by rw [List.length_map];exact hl) (Gn F G l k)
theorem GI {cap:List (Option Nat)}{ts:List Nat}{it:MA}{g:MG}{c:MB}{f:M}{ε:ME}{α:Type}(F G:α->PV)(p:α->Bool)(l:List α)(h:it ε=some (l.map F))(hc:vF cap ts=true)(hl:l.length<=lim)(k:∀ a∈l,∃ ε1,g (F a) (qE cap ε)=some ε1/\c ε1=some (p a)/\(p a=true->f ε1=some (G a))):h8 cap ts it g c f ε=some (.lst ((l.filter p).map G)):=VW h hc (by rw [List.length_map];exact hl) (Gk F G p l k)
theorem QY {g:MG}{f:MS}{α:Type}(F:α->PV)(I:List α->ME->Prop)(h:∀ a l ε,I (a::l) ε->∃ ε1 ε2,g (F a) ε=some ε1/\f ε1=some (.nx ε2)/\I l ε2):∀(l:List α)(ε:ME),I l ε->∃ ε',qi g f (l.map F) ε=some (.nx ε')/\I [] ε'
 |[],ε,i=>⟨ε,rfl,i⟩
 |a::l,ε,i=>by
  obtain ⟨ε1,ε2,e1,e2,i2⟩:=h a l ε i;obtain ⟨ε',e3,i3⟩:=QY F I h l ε2 i2;refine ⟨ε',?_,i3⟩;show Option.bind (g (F a) ε) (fun ε1=>Option.bind (f ε1) fun o=>match o with
   | .nx ε2=>qi g f (l.map F) ε2
   | .ct ε2=>qi g f (l.map F) ε2
   | .bk ε2=>some (.nx ε2)
   | .rt y=>some (.rt y))=_
  rw [e1,Option.bind_some,e2];exact e3
section
variable {ε:ME}{a b:M}{v w:Bool}
theorem wU (h1:a ε=some (.at (.bl true)))(h2:b ε=some (.at (.bl w))):zN a b ε=some (.at (.bl w)):=by unfold zN;rw [h1];exact h2
theorem DA (h1:a ε=some (.at (.bl v))):wM a ε=some (.at (.bl (!v))):=by unfold wM;rw [h1];rfl
theorem Dz {c:MB}{x:PV}(h:c ε=some true)(k:a ε=some x):dIf c a b ε=some x:=by unfold dIf;rw [h];exact k
theorem GJ {c:MB}{x:PV}(h:c ε=some false)(k:b ε=some x):dIf c a b ε=some x:=by unfold dIf;rw [h];exact k
theorem VV {g g':PV->PV->Option PV}{c:M}{x y z:PV}{r:Bool}(h1:a ε=some x)(h2:b ε=some y)(h3:g x y=some (.at (.bl true)))(h4:c ε=some z)(h5:g' y z=some (.at (.bl r))):zb g g' a b c ε=some (.at (.bl r)):=by unfold zb;rw [h1,Option.bind_some,h2,Option.bind_some,h3];show Option.bind (c ε) _=_;rw [h4];exact h5
theorem Zj {x:PV}(h:a ε=some x):va a ε=some (.nx ε):=by unfold va;rw [h];rfl
theorem Dw {G:MG}{ε':ME}{x:PV}(h:a ε=some x)(k:G x ε=some ε'):dAsg G a ε=some (.nx ε'):=by unfold dAsg;rw [h,Option.bind_some,k];rfl
theorem qB:n5 ε=some (.nx ε):=rfl
theorem Zm {xs:List PV}(h:a ε=some (.lst xs)):o9 a ε=some xs:=by unfold o9;rw [h];rfl
theorem Zk {C:Addr}{f:Str}{ns:List Str}{xs:List PV}{y:PV}(h:a ε=some (.ob C ns xs))(k:Qa f ns xs=some y):jA C f a ε=some y:=by unfold jA;rw [h,Option.bind_some];show (if C=C then _ else _)=_;rw [if_pos rfl];exact k
theorem Zn {C:Addr}{nm:Str}{m:List PV->Option PV}{as:MA}{ns:List Str}{fs xs:List PV}{y:Option PV}(h:a ε=some (.ob C ns fs))(hn:nm∉ns)(k:as ε=some xs)(e:m (.ob C ns fs::xs)=y):jd C nm m a as ε=y:=by unfold jd;rw [h,Option.bind_some];show (if C=C/\nm∉ns then _ else _)=_;rw [if_pos ⟨rfl,hn⟩,k];exact e
theorem Zl {n k:Nat}{bd:MS}{xs:List PV}{ε':ME}(hl:xs.length=k)(h:bd (xs.map .sh++List.replicate (n-k) .no)=some (.nx ε')):r6 n k bd xs=some (.at .non):=by unfold r6;rw [if_pos hl,h];rfl
theorem Mq {n:Int}:qy [.at (.int n),.at (.ty "int")]=some (.at (.bl true)):=by unfold qy tyP;simp only [Option.bind_some,TU]
theorem Mr {n:Int}:qy [.at (.int n),.at (.ty "bool")]=some (.at (.bl false)):=by unfold qy tyP;simp only [Option.bind_some,TR]
theorem Ms {n:Str}:qy [.at (.str n),.at (.ty "str")]=some (.at (.bl true)):=by unfold qy tyP;simp only [Option.bind_some,TW]
theorem Mu {n:List PV}:qy [.tup n,.at (.ty "tuple")]=some (.at (.bl true)):=by unfold qy tyP;simp only [Option.bind_some,TX]
theorem UX:∀ bs:List Bool,bls (bs.map fun b=> .at (.bl b))=some bs
 |[]=>rfl
 |b::bs=>by
  have ih:=UX bs;rw [List.map_cons];unfold bls;rw [ih];rfl
theorem GW:∀ bs:List Int,vc (bs.map fun b=> .at (.int b))=some bs
 |[]=>rfl
 |b::bs=>by
  have ih:=GW bs;rw [List.map_cons];unfold vc;rw [ih];rfl
theorem Ca (bs:List Bool):ze [.lst (bs.map fun b=> .at (.bl b))]=some (.at (.bl (bs.all id))):=by show (bls _).bind _=_;rw [UX];rfl
theorem wD {α:Type}(l:List α):ze [.lst (l.map fun _=> .at (.bl true))]=some (.at (.bl true)):=by
 have e:(l.map fun _=>PV.at (.bl true))=((l.map fun _=>true).map fun b=>PV.at (.bl b)):=by rw [List.map_map];rfl
 rw [e,Ca];have:(l.map fun _=>true).all id=true:=by simp
 rw [this]
end
end Mi
namespace Mi
open PySem L2
def Qj:List Int->Int
 |[]=>0
 |x::l=>l.foldl (fun b y=>if y<b then y else b) x
theorem WC (l:List Int):∀ b:Int,l.foldl (fun b y=>if y<b then y else b) b<=b/\(∀ y∈l,l.foldl (fun b y=>if y<b then y else b) b<=y)/\(l.foldl (fun b y=>if y<b then y else b) b=b∨l.foldl (fun b y=>if y<b then y else b) b∈l):=by
 induction l with
 |nil=>intro b;exact ⟨Int.le_refl _,(fun _ z=>nomatch z),.inl rfl⟩
 |cons x l ih =>
  intro b;rw [List.foldl_cons];obtain ⟨h1,h2,h3⟩:=ih (if x<b then x else b);have hx:(if x<b then x else b)<=b/\(if x<b then x else b)<=x:=by split<;>omega
  refine ⟨by omega,fun y hy=>?_,?_⟩
  ·rcases List.mem_cons.mp hy with rfl|hy
   ·omega
   ·exact h2 y hy
  ·rcases h3 with h3|h3
   ·rw [h3];by_cases hc:x<b
    ·rw [if_pos hc];exact .inr List.mem_cons_self
    ·rw [if_neg hc];exact .inl rfl
   ·exact .inr (List.mem_cons_of_mem _ h3)
theorem WD {l:List Int}(h:l≠[]):Qj l∈l:=by
 cases l with
 |nil=>exact absurd rfl h
 |cons x l =>
  rcases (WC l x).2.2 with e|e
  ·show l.foldl _ x∈_;rw [e];exact List.mem_cons_self
  ·exact List.mem_cons_of_mem _ e
theorem ZP {l:List Int}{y:Int}(h:y∈l):Qj l<=y:=by
 cases l with
 |nil=>cases h
 |cons x l =>
  rcases List.mem_cons.mp h with rfl|h
  ·exact (WC l y).1
  ·exact (WC l x).2.1 y h
def jK (l:List Int):Int:=-Qj (l.map fun x=>-x)
theorem Ky {l:List Int}(h:l≠[]):jK l∈l:=by have:=WD (l:=l.map fun x=>-x) (by cases l with|nil=>exact absurd rfl h|cons x l=>simp);obtain ⟨x,hx,e⟩:=List.mem_map.mp this;unfold jK;rw [<- e,Int.neg_neg];exact hx
theorem Kx {l:List Int}{y:Int}(h:y∈l):y<=jK l:=by have:=ZP (l:=l.map fun x=>-x) (y:=-y) (List.mem_map.mpr ⟨y,h,rfl⟩);unfold jK;omega
def pMinL:List PV->Option PV
 |[.lst xs]=>(vc xs).bind fun ns=>if ns=[] then none else some (.at (.int (Qj ns)))
 |_=>none
def leS (a b:Str):Bool:=!decide (b.cps.toList<a.cps.toList)
def zq (ss:List Str):List Str:=ss.mergeSort leS
theorem Yl (ss:List Str):(zq ss).Perm ss:=List.mergeSort_perm ss leS
theorem BP (ss:List Str):XS (zq ss):=by
 have:=List.pairwise_mergeSort (le:=leS) (fun a b c h1 h2=>by
  unfold leS at h1 h2 ⊢;simp only [Bool.not_eq_true',decide_eq_false_iff_not] at h1 h2 ⊢;exact List.not_lt.mpr (List.le_trans (List.not_lt.mp h1) (List.not_lt.mp h2))) (fun a b=>by
  unfold leS;by_cases h:b.cps.toList<a.cps.toList
  ·have h2:¬ (a.cps.toList<b.cps.toList):=fun k=>List.lt_irrefl _ (List.lt_trans h k);simp [h2]
  ·simp [h]) ss
 exact this.imp fun h=>by unfold leS at h;simpa using h
theorem Vh {ss ss':List Str}(p:ss'.Perm ss)(u:XS ss'):ss'=zq ss :=
 List.Perm.eq_of_pairwise (fun a b _ _ h1 h2=>by
  have e:=List.le_antisymm (List.not_lt.mp h1) (List.not_lt.mp h2);cases a;cases b;simp only [Str.mk.injEq];exact Array.toList_inj.mp e) u (BP ss) (p.trans (Yl ss).symm)
def jV:List PV->Option (List Str)
 |[]=>some []
 | .at (.str s)::xs=>(jV xs).map (s::·)
 |_::_=>none
theorem Yn:∀{xs:List PV}{ss:List Str},jV xs=some ss->xs=ss.map fun s=> .at (.str s)
 |[],_,h=>by cases h;rfl
 |x::xs,ss,h=>by
  unfold jV at h;split at h
  ·rename_i e;cases e
  ·rename_i s' xs' e;injection e with e1 e2;subst e1 e2;obtain ⟨r,hr,rfl⟩:=Option.map_eq_some_iff.mp h;rw [Yn hr];rfl
  ·cases h
def ve:List j5->Option (List Str)
 |[]=>some []
 | .inr s::xs=>(ve xs).map (s::·)
 |_::_=>none
theorem Wj:∀{xs:List j5}{ss:List Str},ve xs=some ss->xs=ss.map Sum.inr
 |[],_,h=>by cases h;rfl
 |x::xs,ss,h=>by
  unfold ve at h;split at h
  ·rename_i e;cases e
  ·rename_i s' xs' e;injection e with e1 e2;subst e1 e2;obtain ⟨r,hr,rfl⟩:=Option.map_eq_some_iff.mp h;rw [Wj hr];rfl
  ·cases h
def vj:List PV->Option PV
 |[.lst xs]=>(jV xs).bind fun ss=>if ss.length<64 then some (.lst ((zq ss).map fun s=> .at (.str s))) else none
 |[.dk ks _]=>(ve ks).bind fun ss=>if ss.length<64 then some (.lst ((zq ss).map fun s=> .at (.str s))) else none
 |[.fk ks _]=>(ve ks).bind fun ss=>if ss.length<64 then some (.lst ((zq ss).map fun s=> .at (.str s))) else none
 |_=>none
theorem Yd {H:Hp}(ss:List Str):Reps H (ss.map fun s=> .at (.str s)) (ss.map V.str):=by have:=Reps.ofAts (H:=H) (ss.map V.str);rwa [List.map_map] at this
instance {K:Fg}:Vr (Bp K) vj where
 h:=fun {xs z} e {Hs H vs} s r {Q} q=>by
  unfold vj at e;split at e
  ·obtain ⟨ss,eb,e1⟩:=bind_some e;split at e1
   ·rename_i hl;cases e1;obtain ⟨v,rfl,a⟩:=zF r;obtain ⟨p,ws,rfl,e1,r1⟩:=qK s a;rw [Yn eb,show (ss.map fun b=>PV.at (.str b))=(ss.map V.str).map .at by rw [List.map_map];rfl] at r1;cases r1.ats;refine ⟨p,ss,rfl,.inl (SqL.of e1),hl,fun l ss' hn p1 p2=>?_⟩;rw [Vh p1 p2];exact q l _ _ (.newO s hn) hn (s.free hn) ⟨_,u8,Yd _⟩
   ·cases e1
  ·obtain ⟨ss,eb,e1⟩:=bind_some e;split at e1
   ·rename_i hl;cases e1;obtain ⟨v,rfl,a⟩:=zF r;obtain ⟨p,kvs,rfl,hp,hk,hr⟩:=vZ s a;refine ⟨p,ss,rfl,.inr ⟨kvs,.inl hp,by rw [hk,Wj eb]⟩,hl,fun l ss' hn p1 p2=>?_⟩;rw [Vh p1 p2];exact q l _ _ (.newO s hn) hn (s.free hn) ⟨_,u8,Yd _⟩
   ·cases e1
  ·obtain ⟨ss,eb,e1⟩:=bind_some e;split at e1
   ·rename_i hl;cases e1;obtain ⟨v,rfl,a⟩:=zF r;obtain ⟨p,o,kvs,rfl,hp,hk,hr⟩:=Jc s a;refine ⟨p,ss,rfl,.inr ⟨kvs,.inr ⟨o,hp⟩,by rw [hk,Wj eb]⟩,hl,fun l ss' hn p1 p2=>?_⟩;rw [Vh p1 p2];exact q l _ _ (.newO s hn) hn (s.free hn) ⟨_,u8,Yd _⟩
   ·cases e1
  ·cases e
def Bo (K:Fg):List V->Hp->VK->Prop:=fun xs H Q=>∃(a:Addr)(ss:List Str),xs=[.ref a]/\SqL K H a (ss.map V.str)/\ss.length<=1000 /\
  ∀ l,H l=none->Q (.ref l) (v8 H l (vC (qb (fun i=>(Sum.inr (ss.getD i ⟨#[]⟩):j5)) ss.length).length l))
theorem CQ {X:Cx}{K:Fg}(hc:X.calm=true)(h:X.K=K):CallR X (.type "set") (Bo K):=by subst h;exact CS hc
def Wz (ss:List Str):Nat:=(qb (fun i=>(Sum.inr (ss.getD i ⟨#[]⟩):j5)) ss.length).length
def Bl:List V->Hp->VK->Prop:=fun xs H Q=>∃(a:Addr)(n:Nat),xs=[.ref a]/\H a=some (vC n a)/\Q (.int n) H
theorem CL {X:Cx}:CallR X (.builtin "len") Bl:=CK
def Gs (a:M):M:=fun ε=>(a ε).bind fun x=>match x with
 | .lst xs=>(jV xs).bind fun ss=>if ss.length<=1000 then some (.at (.int (Wz ss))) else none
 |_=>none
instance {K:Fg}{te:TE}{a:M}[sa:qr te a]:SemE (tCB Bl (o8 (tCB (Bo K) (o8 te qp)) qp)) (Gs a) where
 h:=fun e _ _ _ _ _ rs _ q=>by
  obtain ⟨x,ex,e1⟩:=bind_some e;split at e1
  ·obtain ⟨ss,eb,e2⟩:=bind_some e1;split at e2
   ·rename_i hl;cases e2;refine sa.h ex rs fun v Hs1 H1 x1 r1=>?_;obtain ⟨p,ws,rfl,ep,r2⟩:=qK x1.s3 r1;rw [Yn eb,show (ss.map fun b=>PV.at (.str b))=(ss.map V.str).map .at by rw [List.map_map];rfl] at r2;cases r2.ats;refine ⟨p,ss,rfl,SqL.of ep,hl,fun l hn=>⟨l,_,rfl,u8,q _ _ _ (x1.trans (.newO x1.s3 hn)) (rep_at.mpr rfl)⟩⟩
   ·cases e2
  ·cases e1
structure Mkr (P:Program)(w:World)(K:Fg)(mg:Str->Option Value)(base:Heap)(k:Nat)(C:Addr)(ps:List Str)(sp:Sp):Prop where
 ex:∃ f fd,FnOk P w K mg base w6 k f fd ps sp/\Mk K C f/\Binds K fd ps []
theorem pe_mk {X:Cx}{k j:Nat}{C:Addr}{ps:List Str}{sp:Sp}{x:Str}{p pos:Pos}{e:Expr}{es:List Expr}{t:TA}(c:Mkr X.prog X.w X.K X.mg X.base k C ps sp)(hr:Room j X.A)(hj:k+1<=j)(hg:Gl X x)(hm:X.mg x=some (.ref C))(ha:PA X (e::es) t)(hdb:(x==("__debug__":Str))=false:=by decide)(he:starEach (e::es) X.env=(false,eval e X.env)::starEach es X.env:=by rfl)(hpl:(backTo pos (starEach es X.env)).any (·.1)=false:=by rfl):PE X (.Call (.Name x p) (e::es) [] pos) (XG C sp [] E0 t):=by obtain ⟨f,fd,F,hm',hb⟩:=c.ex;exact Hk hm' F (hr.mono hj) hg hm hb .nil ZV ha hdb he hpl
instance (priority:=1100){C:Addr}{m:List PV->Option PV}{ta:TA}{as:MA}{E:XK}[sa:xy ta as]:SemE (XG C (spI C m) [] E ta) (x9 m as) where
 h:=fun {ε y} e=>SemE.h (te:=XG C (spI C m) [] E ta) (f:=VM m [] as) (by
  unfold VM;unfold x9 at e;simpa using e)
structure FunD (K:Fg)(x qual:Str)(st:Stmt)(f:Addr)(fd:FuncData):Prop where
 ex:∃(oc:Value)(od:Option Addr)(dV kV doc pm:Value)(an:Option Addr)(cdv ct:Value)(osl:Array (Option Value)),
  fd=PySem.W.fnOf x qual (zy st) (qI st) (j8 st) dV kV doc pm an cdv ct/\K.lookup f=some ⟨oc,od,.func fd,osl⟩/\PySem.W.codeIn K cdv qual=true
 kp:PySem.W.keepIn K (.ref f)=true
section
variable {P:Program}{w:World}{K:Fg}{mg:Str->Option Value}{base:Heap}
theorem FunD.ok {x qual:Str}{st:Stmt}{f:Addr}{fd:FuncData}{N ps:List Str}{k:Nat}{sp:Sp}(F:FunD K x qual st f fd)(S:y7 N ps (j8 st))(len:∀ vs H Q E,sp vs H Q E->vs.length=ps.length)(hbody:∀(cdv:Value)(A:Around)(outer:List Env)(s:Shared)(H:Hp)(vs:List V)(Q:VK)(E:XK),Room k (A.deeper (PyProof.Rows.envOfC qual (j8 st) s.heap.objs.size f cdv))->sp vs H Q E -> ∃ t,PSs (xP w6 P w K mg base N qual (j8 st) f cdv A outer s H E).nox (qI st) t/\t { nx:=fun _ H'=>Q .non H',rt:=Q } (L2.start N vs) H):FnOk P w K mg base w6 (k+1) f fd ps sp:=by obtain ⟨oc,od,dV,kV,doc,pm,an,cdv,ct,osl,rfl,lk,hcd⟩:=F.ex;refine VY lk hcd S len fun A outer s H vs Q E hr hsp=>?_;obtain ⟨t,h,q⟩:=hbody cdv A outer s H vs Q E hr hsp;exact ⟨t,h.nox,q⟩
theorem DJ {x qual:Str}{st:Stmt}{f:Addr}{oc:Value}{od an:Option Addr}{osl:Array (Option Value)}{dV kV doc pm cdv ct:Value}(l:K.lookup f=some ⟨oc,od,.func (PySem.W.fnOf x qual (zy st) (qI st) (j8 st) dV kV doc pm an cdv ct),osl⟩)(c:PySem.W.codeIn K cdv qual=true)(k:PySem.W.keepIn K (.ref f)=true):FunD K x qual st f (PySem.W.fnOf x qual (zy st) (qI st) (j8 st) dV kV doc pm an cdv ct):=⟨⟨oc,od,dV,kV,doc,pm,an,cdv,ct,osl,rfl,l,c⟩,k⟩
theorem Xw {X:Cx}{o value:Expr}{f:Str}{ta tv:TE}{pos pos':Pos}(hK:X.K=K)(ha:PE X o ta)(hv:PE X value tv)(hs:swapsWith value (some (.Attribute o f pos')) pos.line X.env=pure false:=by rfl):PS X (.Assign [.Attribute o f pos'] value pos) (Xy K ta tv f):=by subst hK;exact HH ha hv hs
theorem okI' {x qual:Str}{st:Stmt}{f C:Addr}{fd:FuncData}{N ps:List Str}{k:Nat}{b:WS}{m:List PV->Option PV}(F:FunD K x qual st f fd)(S:y7 N ps (j8 st))(hm:∀ xs y,m xs=some y->xs.length+1=ps.length)(hb:∀(cdv:Value)(A:Around)(outer:List Env)(s:Shared)(H:Hp)(E:XK),Room k (A.deeper (PyProof.Rows.envOfC qual (j8 st) s.heap.objs.size f cdv)) -> ∃ t,PSs (xP w6 P w K mg base N qual (j8 st) f cdv A outer s H E).nox (qI st) t/\SemWS t b)(hw:∀ xs y,m xs=some y->b (.ow (.ob C [] [])::xs.map .sh++List.replicate (N.length-(xs.length+1)) .no) (fun ε=>ε[0]?=some (.ow y)) fun _ _=>False):FnOk P w K mg base w6 (k+1) f fd ps (spI C m):=by
 refine F.ok S (fun vs H Q E h=>?_) (fun cdv A outer s H vs Q E hr h=>?_)
 ·obtain ⟨Hs,x,dx,xs,ws,y,rfl,_,_,_,r,e,_⟩:=h;rw [List.length_cons,r.length];exact hm xs y e
 ·obtain ⟨Hs,x,dx,xs,ws,y,rfl,sm,hx,hs,r,e,q⟩:=h;obtain ⟨t,ht,sem⟩:=hb cdv A outer s H E hr;refine ⟨t,ht,sem.h (hw xs y e) (Rb sm hs ⟨dx,[],hx,rfl,.nil⟩ r) (fun ε Z Hs' H' z rd g=>?_) fun _ _ _ _ _ _ z _ _ _=>z.elim⟩;obtain ⟨a,ha,_,n,tp⟩:=rd.ow 0 y z;rw [rd.pin x (List.mem_singleton.mpr rfl)] at ha;injection ha with ha;injection ha with ha;injection ha with ha;subst ha;obtain ⟨o,ho,ro⟩:=tp.rep n;have g2:Same Hs' (v8 Hs' x o):=fun b u e=>by rw [j7 (p5 e n)];exact e
  refine q (v8 Hs' x o) H' (g.trans g2) (fun b u e hb=>rd.s2 b u e fun w=>hb (List.mem_singleton.mp w)) (fun b u e=>?_) (fun b hb hbx w=>?_) ro
  ·by_cases hbx:b=x
   ·subst hbx;rw [u8] at e;cases e;exact ho
   ·rw [j7 hbx] at e;exact rd.s3 _ _ e
  ·rw [j7 hbx];exact rd.s4 b hb w
end
def je (C:Addr)(f:Str)(a:M):MS:=fun ε=>(a ε).bind fun y=>match (ε[0]?:Option MSlot) with
 |some (.ow (.ob C' ns xs))=>if C'=C/\f∉ns/\ns.length<1000 then some (.nx (ε.set 0 (.ow (.ob C (ns++[f]) (xs++[y]))))) else none
 |_=>none
def wPN (f:MS):WS:=fun ε N _=>∃ ε',f ε=some (.nx ε')/\N ε'
theorem Dg {C:Addr}{f:Str}{a:M}{ε:ME}{o:Out}(h:je C f a ε=some o):∃ y ns xs,a ε=some y/\ε[0]?=some (.ow (.ob C ns xs))/\f∉ns/\ns.length<1000/\o = .nx (ε.set 0 (.ow (.ob C (ns++[f]) (xs++[y])))):=by
 unfold je at h;obtain ⟨y,ey,h1⟩:=bind_some h;split at h1
 ·rename_i C' ns xs he;split at h1
  ·rename_i hc;cases h1;obtain ⟨rfl,h2,h3⟩:=hc;exact ⟨y,ns,xs,ey,he,h2,h3,rfl⟩
  ·cases h1
 ·cases h1
instance {K:Fg}{C:Addr}{f:Str}{te:TE}{a:M}[c:jX K C][n:NoA K C f][sa:SemE te a]:SemWS (Xy K (qL 0) te f) (wPN (je C f a)) where
 h:=fun {ε N R} h=>by
  obtain ⟨ε',e,h1⟩:=h;obtain ⟨y,ns,xs,ey,he,h2,h3,e4⟩:=Dg e;injection e4 with e4;subst e4;exact SemWS.h (ts:=Xy K (qL 0) te f) (w:=PF C f (wP a)) ⟨y,ey,ns,xs,he,h2,h3,h1⟩
instance {te:TE}{a:M}[sa:SemE te a]:SemWS (vq te) (wPN (va a)) where
 h:=fun {ε N R} h=>by
  obtain ⟨ε',e,h1⟩:=h;obtain ⟨y,ey,e2⟩:=bind_some e;cases e2;exact SemWS.h (ts:=vq te) (w:=PD (wP a)) ⟨y,ey,h1⟩
instance Ta {t u:TS}{a b:MS}[sa:SemWS t (wPN a)][sb:SemWS u (wPN b)]:SemWS (tSeq t u) (wPN (w5 a b)) where
 h:=fun {ε N R} h S Hs0 H0 Hs H Z rd D k rt=>by
  obtain ⟨ε',e,h1⟩:=h;obtain ⟨o1,e1,e2⟩:=bind_some e;refine SemWS.h (ts:=tSeq t u) (w:=wSeq (wPN a) (wPN b)) (ε:=ε) (N:=N) (R:=R) ?_ rd k rt;cases o1 with
  |nx ε1=>exact ⟨ε1,e1,ε',e2,h1⟩
  |rt y=>cases e2
  |bk ε1=>cases e2
  |ct ε1=>cases e2
def QM (n k:Nat)(C:Addr)(f:MS):List PV->Option PV:=fun xs=>if xs.length+1=k then (f (.ow (.ob C [] [])::xs.map .sh++List.replicate (n-k) .no)).bind fun o=>match o with
 | .nx ε=>(match (ε[0]?:Option MSlot) with
  |some (.ow y)=>some y
  |_=>none)
 |_=>none else none
theorem okID {P:Program}{w:World}{K:Fg}{mg:Str->Option Value}{base:Heap}{x qual:Str}{st:Stmt}{f C:Addr}{fd:FuncData}{N ps:List Str}{k:Nat}{b:MS}{m:List PV->Option PV}(F:FunD K x qual st f fd)(S:y7 N ps (j8 st))(hm:m=QM N.length ps.length C b)(hb:∀(cdv:Value)(A:Around)(outer:List Env)(s:Shared)(H:Hp)(E:XK),Room k (A.deeper (PyProof.Rows.envOfC qual (j8 st) s.heap.objs.size f cdv)) -> ∃ t,PSs (xP w6 P w K mg base N qual (j8 st) f cdv A outer s H E).nox (qI st) t/\SemWS t (wPN b)):FnOk P w K mg base w6 (k+1) f fd ps (spI C m):=by
 subst hm;refine okI' F S (fun xs y e=>?_) hb (fun xs y e=>?_)
 ·unfold QM at e;split at e
  ·rename_i hl;exact hl
  ·cases e
 ·unfold QM at e;split at e
  ·rename_i hl;obtain ⟨o,eo,e1⟩:=bind_some e;rw [hl];cases o with
   |nx ε =>
    refine ⟨ε,eo,?_⟩;have e2:(match (ε[0]?:Option MSlot) with
     |some (.ow y)=>some y
     |_=>none)=some y:=e1
    show ε[0]?=some (.ow y);split at e2
    ·rename_i z hz;cases e2;exact hz
    ·cases e2
   |rt z=>cases e1
   |bk z=>cases e1
   |ct z=>cases e1
  ·cases e
end Mi
namespace Mi
open PySem L2
def Za (a:M):M:=fun ε=>(a ε).bind fun x=>match x with
 | .lst xs=>(vc xs).bind fun ns=>if ns=[] then some (.at .non) else some (.at (.int (jK ns)))
 |_=>none
instance {K:Fg}{te:TE}{a:M}[sa:qr te a]:SemE (BZ K (o8 te qp)) (Za a) where
 h:=fun e _ _ _ _ _ rs _ q=>by
  obtain ⟨x,ex,e1⟩:=bind_some e;split at e1
  ·obtain ⟨ns,eb,e2⟩:=bind_some e1;refine sa.h ex rs fun v Hs1 H1 x1 r1=>?_;obtain ⟨p,ws,rfl,ep,r2⟩:=qK x1.s3 r1;rw [GV eb,show (ns.map fun b=>PV.at (.int b))=(ns.map V.int).map .at by rw [List.map_map];rfl] at r2;cases r2.ats;refine ⟨p,ns,rfl,SqL.of ep,fun hn=>?_,fun hn m m1 m2=>?_⟩
   ·rw [if_pos hn] at e2;cases e2;exact q _ _ _ x1 (rep_at.mpr rfl)
   ·rw [if_neg hn] at e2;cases e2;have em:m=jK ns:=Int.le_antisymm (Kx m1) (m2 _ (Ky hn));subst em;exact q _ _ _ x1 (rep_at.mpr rfl)
  ·cases e1
def vm:List PV->Option (List (j5×PV))
 |[]=>some []
 | .tup [k,v]::xs=>(vd k).bind fun kk=>(vm xs).map ((kk,v)::·)
 |_::_=>none
def vS:List PV->Option PV
 |[.lst xs]=>(vm xs).bind fun ps=>if (ps.map (·.1)).Nodup/\ps.length<=1000 then some (.fk (ps.map (·.1)) (ps.map (·.2))) else none
 |_=>none
theorem KY {Hs H:Hp}(s:Same Hs H):∀{xs:List PV}{ps:List (j5×PV)}{vs:List V},vm xs=some ps->Reps Hs xs vs->∃(ts:List Addr)(kvs:List (j5×V)),vs=ts.map V.ref/\Paired (fun t (kv:j5×V)=>H t=some (.tup [kV kv.1,kv.2])) ts kvs/\kvs.map (·.1)=ps.map (·.1)/\Reps Hs (ps.map (·.2)) (kvs.map (·.2))
 |[],ps,vs,h,r=>by
  cases h;cases reps_nil.mp r;exact ⟨[],[],rfl,.nil,rfl,.nil⟩
 |x::xs,ps,vs,h,r=>by
  unfold vm at h;split at h
  ·rename_i e;cases e
  ·rename_i k v xs' e;injection e with e1 e2;subst e1 e2;obtain ⟨kk,ek,h1⟩:=bind_some h;obtain ⟨ps',hp,rfl⟩:=Option.map_eq_some_iff.mp h1;obtain ⟨w,ws,rfl,r1,r2⟩:=reps_cons.mp r;obtain ⟨t,us,rfl,ht,ru⟩:=rep_tup.mp r1;obtain ⟨u1,us1,rfl,p1,p2⟩:=reps_cons.mp ru;obtain ⟨u2,us2,rfl,p3,p4⟩:=reps_cons.mp p2;cases reps_nil.mp p4;have ew:=wY (H:=H) (.inl p1) ek;subst ew;obtain ⟨ts,kvs,rfl,q1,q2,q3⟩:=KY s hp r2;exact ⟨t::ts,(kk,u2)::kvs,rfl,.cons (s _ _ ht) q1,by rw [List.map_cons,List.map_cons,q2],.cons p3 q3⟩
  ·cases h
instance:QI Bi vS where
 h:=fun {xs z} e {Hs H vs} s r {Q} q=>by
  unfold vS at e;split at e
  ·obtain ⟨ps,eb,e1⟩:=bind_some e;split at e1
   ·rename_i hl;cases e1;obtain ⟨v,rfl,a⟩:=zF r;obtain ⟨p,ws,rfl,ep,r1⟩:=qK s a;obtain ⟨ts,kvs,rfl,q1,q2,q3⟩:=KY s eb r1;have hk:kvs.length=ps.length:=by have:=congrArg List.length q2;rwa [List.length_map,List.length_map] at this
    refine ⟨p,ts,kvs,rfl,ep,q1,by rw [q2];exact hl.1,by omega,fun l o hn=>?_⟩;exact q _ _ _ (.new s hn) (rep_fk.mpr ⟨l,o,kvs,rfl,u8,q2,q3.mono (Ext.new s hn).s1⟩)
   ·cases e1
  ·cases e
def dItV (a:M):MA:=fun ε=>(a ε).bind fun x=>match x with
 | .fk _ xs=>some xs
 |_=>none
theorem MF {a:Addr}{o:Obj}{xs:List PV}{kvs:List (j5×V)}{Hs:Hp}(h:Hs a=some (.frz o (.dK kvs)))(r:Reps Hs xs (kvs.map (·.2))):jx (Itv a o kvs) xs Hs where
 go:=fun i x Hs1 H1 e g1 g2=>by
  obtain ⟨v,ev,rv⟩:=r.get e;have hl:i<kvs.length:=by have:=(List.getElem?_eq_some_iff.mp ev).1;rwa [List.length_map] at this
  refine ⟨⟨g2 _ _ (g1 _ _ h),hl⟩,fun w H2 y=>?_⟩;obtain ⟨rfl,k,y⟩:=y;rw [List.getElem?_map,y] at ev;cases ev;exact ⟨Hs1,.refl g2,rv.mono g1⟩
 stop:=fun Hs1 H1 g1 g2=>⟨g2 _ _ (g1 _ _ h),by have:=r.length;rw [List.length_map] at this;omega⟩
instance {te:TE}{a:M}[sa:SemE te a]:jb (GQ te) (dItV a) where
 h:=fun e _ _ _ _ _ rs _ q=>by
  obtain ⟨x,ex,e1⟩:=bind_some e;split at e1
  ·cases e1;refine sa.h ex rs fun v Hs1 H1 x1 r1=>?_;obtain ⟨p,o,kvs,rfl,hp,_,r⟩:=rep_fk.mp r1;exact ⟨p,o,kvs,rfl,x1.s3 _ _ hp,q _ _ _ x1 (MF hp r)⟩
  ·cases e1
end Mi
namespace L2
open PySem PySem.Spec PyProof.Rows
theorem Tu:∀{l:List Value}{i j:Int}{t u:Tok}{c:Value},TriplesOk l->TriplesOk (l++[.int i t,.int j u,c]):=by
 intro l i j t u c h
 fun_induction TriplesOk l with
 |case1=>trivial
 |case2 _ _ _ _ _ rest ih=>exact ih h
 |case3=>exact h.elim
theorem Cc {pos:Pos}{c:Value}{l r:List Value}(h:codeAmong pos l=some c):codeAmong pos (l++r)=some c:=by
 fun_induction codeAmong pos l with
 |case1 line t col u d rest e=>show codeAmong pos (.int line t:: .int col u::d::(rest++r))=some c;unfold codeAmong;rw [if_pos e];exact h
 |case2 line t col u d rest e ih=>show codeAmong pos (.int line t:: .int col u::d::(rest++r))=some c;unfold codeAmong;rw [if_neg e];exact ih h
 |case3=>cases h
theorem Cb {pos:Pos}{l:List Value}{i j:Int}{t u:Tok}{d:Value}(ok:TriplesOk l)(h:codeAmong pos l=none):codeAmong pos (l++[.int i t,.int j u,d])=if i==pos.line&&j==pos.col then some d else none:=by
 fun_induction TriplesOk l with
 |case1=>show codeAmong pos (.int i t:: .int j u::d::[])=_;unfold codeAmong;rfl
 |case2 a b c e f rest ih =>
  unfold codeAmong at h;split at h
  ·cases h
  ·rename_i ne;show codeAmong pos (.int a b:: .int c e::f::(rest++_))=_;unfold codeAmong;rw [if_neg ne];exact ih ok h
 |case3=>exact ok.elim
section
variable {X:Cx}{pins:List (Addr×Obj)}{Z:St}{H:Hp}{s:Shared}{Pt c:Addr}{ps:Array Value}{wt:List (Pos×Str)}{params:Arguments}{body:Expr}{scope:Scope}{pos:Pos}{clos:List (Str×Addr)}{Q:Value->Shared->Prop}{E:Value->Shared->Prop}
theorem Inv.trackN {h':Heap}{tk:Tok}{o:HO}{ob:Obj}(I':Inv X pins Z H { s with heap:=h',toks:=tk })(nb:H h'.objs.size=none)(J:Inv X pins Z H { s with heap:=h'.push ob,toks:=tk })(new:ObjOk X.prog X.w (v8 H h'.objs.size o) (h'.push ob) h'.objs.size o):Inv X pins Z (v8 H h'.objs.size o) { s with heap:=h'.push ob,toks:=tk }:=by
 refine J.track I'.sz nb (Nat.ne_of_gt I'.lt) (fun x c e=>?_) (fun q hq=>?_) new
 ·obtain ⟨v,oc,e1,_⟩:=I'.cell x c e;exact Nat.ne_of_lt (Heap.lt_size e1)
 ·exact Nat.ne_of_lt (Heap.lt_size (I'.pin q hq).1)
theorem Kk (I:Inv X pins Z H s)(hP:(Pt,ps,wt)∈TABS)(hw:(pos,X.env.qual ++ "<lambda>")∈wt)(hu:∀ p∈wt,(p.1.line==pos.line&&p.1.col==pos.col)=true->p.2=X.env.qual ++ "<lambda>")(hcode:X.env.code = .ref c)(C:PySem.W.CodeHd X.base c Pt)(hcl:closureFor scope X.env=pure clos)(hdef:defaultsOf params X.env=([],[]))(h:∀ (f c':Addr) (oc:Obj) (vs:Array Value) (tq:Tok) (ctv:Value) (H':Hp) (h':Heap) (tk:Tok),Inv X pins Z H' { s with heap:=h',toks:=tk }->(∀ b o,H b=some o->H' b=some o)->(∀ b,H b=none->H' b≠none->s.heap.get? b=none) -> H' f=some (.frz (PySem.W.kla_obj "<lambda>" (X.env.qual ++ "<lambda>") params body scope clos ((X.mg "__name__").getD .none) c' ctv) (.own Pt))->H' c'=some (.frz oc (.own Pt))->oc.data = .fields vs->vs[1]?=some (.str (X.env.qual ++ "<lambda>") tq)->Q (.ref f) { s with heap:=h',toks:=tk }):wpAny (model X.prog X.w) X.A (eval (.Lambda params body scope pos) X.env) Q E s:=by
 have hT:H Pt=some (.tbl ps wt):=I.base.tbls _ _ _ (I.ok.tbs _ hP);obtain ⟨more,eP,tri,wk⟩:=I.hok Pt _ hT;obtain ⟨bm,ob,b1,b2,b3,b4,b5,b6⟩:=I.mod.bmn;have hgs:=(I.mod.glob).keeps I.bk;have hgP:mainGlobals≠Pt:=fun z=>by
  obtain ⟨o,_,_,e,_⟩:=I.mod.glob;have:=(I.bs _ _ e).2;rw [z,hT] at this;cases this
 have hbP:bm≠Pt:=fun z=>by
  have:=(I.bs _ _ b3).2;rw [z,hT] at this;cases this
 have hbG:bm≠mainGlobals:=fun z=>by
  obtain ⟨o,es,ep,e,hd,_⟩:=I.mod.glob;rw [z,e] at b3;cases b3;rw [hd] at b6;cases b6
 have hB:s.heap.BuiltinsAt X.mg Pt:=⟨bm,ob,b1,b2,hbG,hbP,I.bk _ _ b3,b4,b5,b6⟩;refine PySem.W.kla_eval hdef ?_;rcases wk _ hw with hn|⟨cc,o1,vs1,t1,hf,oc,e2,e3⟩
 ·refine PySem.W.kla_makeFunction (mg:=X.mg) hcl I.ok.glob hgs hcode (C.keeps I.bk) eP tri hn hgP hB fun c' ctv h' tk hx hge hlt hrec htb=>?_;obtain ⟨c2,oc,vs,tq,z1,z2,z3,z4⟩:=hrec;cases z1;have nc:H c'=none:=I.hok.fresh hge;have un:Un X.fs [] H (v8 H c' (.frz oc (.own Pt))) s.heap h':=by
   refine ⟨fun b o e n _ _=>hx b o (fun z=>by rw [z,hT] at n;cases n) e,fun b o e n _ _=>⟨o.slots,hx b o (fun z=>by rw [z,hT] at n;cases n) e⟩,fun b o e n _=>?_,fun b o e _=>?_,fun b xs e=>?_,fun b o u e=>?_,fun b q r e=>?_⟩
   ·rw [j7 (Nat.ne_of_lt (Nat.lt_of_lt_of_le (Heap.lt_size e) hge))];exact n
   ·by_cases hb:b=Pt
    ·exact ⟨_,hb▸htb⟩
    ·exact ⟨o,hx b o hb e⟩
   ·rw [j7 (p5 e nc)];exact e
   ·rw [j7 (p5 e nc)];exact e
   ·rw [j7 (p5 e nc)];exact e
  have hok:HOk X.prog X.w (v8 H c' (.frz oc (.own Pt))) h':=fun b u e=>by
   by_cases hb:b=c'
   ·subst hb;rw [u8] at e;cases e;exact ⟨z2,oc,z2⟩
   ·rw [j7 hb] at e;by_cases hb2:b=Pt
    ·rw [hb2] at e ⊢;rw [hT] at e;cases e;have ea:ps++(more++#[rawInt pos.line,rawInt pos.col,.ref c'])=ps++more++#[rawInt pos.line,rawInt pos.col,.ref c']:=(Array.append_assoc).symm;have el:(ps++more++#[rawInt pos.line,rawInt pos.col,.ref c']).toList=(ps++more).toList++[rawInt pos.line,rawInt pos.col,.ref c']:=Array.toList_append;refine ⟨more++#[rawInt pos.line,rawInt pos.col,.ref c'],by rw [ea];exact htb,by rw [ea,el];exact Tu tri,fun p hp=>?_⟩;rw [ea,el];rcases wk p hp with z|⟨d,o2,vs2,t2,z,od,z2⟩
     ·have am:=Cb (pos:=p.1) (i:=pos.line) (j:=pos.col) (t:=0) (u:=0) (d:= .ref c') tri z;by_cases hm:(((pos.line:Int)==p.1.line&&(pos.col:Int)==p.1.col)=true)
      ·rw [if_pos hm] at am;have hq:p.2=X.env.qual ++ "<lambda>":=hu p hp (by
        simp only [Bool.and_eq_true,beq_iff_eq] at hm ⊢;omega)
       exact .inr ⟨c',oc,vs,tq,am,u8,z3,by rw [hq];exact z4⟩
      ·rw [if_neg hm] at am;exact .inl am
     ·exact .inr ⟨d,o2,vs2,t2,Cc z,by rw [j7 (p5 od nc)];exact od,z2⟩
    ·refine (I.hok b u e).stay (fun d v hd q=>hx d v ?_ q) (fun d q=>by rw [j7 (p5 q nc)];exact q) (fun d xs q=>by rw [j7 (p5 q nc)];exact q) fun d _ xs q=>by rw [j7 (p5 q nc)];exact q
     rcases hd with z|z
     ·rw [z];exact hb2
     ·intro q;rw [q,hT] at z;cases z
  have I':=I.un (t':=tk) un hok;have ncf:c'≠h'.objs.size:=Nat.ne_of_lt hlt;have sz:s.heap.objs.size<=h'.objs.size:=Nat.le_trans hge (Nat.le_of_lt hlt);have nf:v8 H c' (.frz oc (.own Pt)) h'.objs.size=none:=by rw [j7 (Ne.symm ncf)];exact I.hok.fresh sz
  have kp:∀ b o,h'.get? b=some o->(h'.push (PySem.W.kla_obj "<lambda>" (X.env.qual ++ "<lambda>") params body scope clos ((X.mg "__name__").getD .none) c' ctv)).get? b=some o:=fun b o e=>Heap.get?_push_of_some _ e;have J:=I'.un (t':=tk) (Un.kept kp) (I'.hok.kept kp);have f1:=Heap.get?_push_size (h:=h') (o:=PySem.W.kla_obj "<lambda>" (X.env.qual ++ "<lambda>") params body scope clos ((X.mg "__name__").getD .none) c' ctv) rfl;refine h _ c' oc vs tq ctv _ _ tk (Inv.trackN (o:= .frz (PySem.W.kla_obj "<lambda>" (X.env.qual ++ "<lambda>") params body scope clos ((X.mg "__name__").getD .none) c' ctv) (.own Pt)) I' nf J ⟨f1,_,f1⟩) (fun b o e=>?_) (fun b n n'=>?_) u8 (by rw [j7 ncf];exact u8) z3 z4
  ·have n1:b≠c':=p5 e nc;have e':v8 H c' (.frz oc (.own Pt)) b=some o:=by rw [j7 n1];exact e
   rw [j7 (p5 e' nf)];exact e'
  ·by_cases hb:b=h'.objs.size
   ·rw [hb];exact Heap.get?_none_of_le sz
   ·rw [j7 hb] at n';by_cases hb2:b=c'
    ·rw [hb2];exact Heap.get?_none_of_le hge
    ·rw [j7 hb2] at n';exact absurd n n'
 ·refine PySem.W.kla_makeFunctionHit (mg:=X.mg) hcl I.ok.glob hgs hcode (C.keeps I.bk) eP tri hf hB fun ctv h' tk hk hsz=>?_;have I':=I.un (t':=tk) (Un.kept hk) (I.hok.kept hk);have kp:∀ b o,h'.get? b=some o->(h'.push (PySem.W.kla_obj "<lambda>" (X.env.qual ++ "<lambda>") params body scope clos ((X.mg "__name__").getD .none) cc ctv)).get? b=some o:=fun b o e=>Heap.get?_push_of_some _ e;have nf:H h'.objs.size=none:=I.hok.fresh hsz;have J:=I'.un (t':=tk) (Un.kept kp) (I'.hok.kept kp);have f1:=Heap.get?_push_size (h:=h') (o:=PySem.W.kla_obj "<lambda>" (X.env.qual ++ "<lambda>") params body scope clos ((X.mg "__name__").getD .none) cc ctv) rfl;refine h _ cc o1 vs1 t1 ctv _ _ tk (Inv.trackN (o:= .frz (PySem.W.kla_obj "<lambda>" (X.env.qual ++ "<lambda>") params body scope clos ((X.mg "__name__").getD .none) cc ctv) (.own Pt)) I' nf J ⟨f1,_,f1⟩) (fun b o e=>by rw [j7 (p5 e nf)];exact e) (fun b n n'=>?_) u8 (by rw [j7 (p5 oc nf)];exact oc) e2 e3;by_cases hb:b=h'.objs.size
  ·rw [hb];exact Heap.get?_none_of_le hsz
  ·rw [j7 hb] at n';exact absurd n n'
end
end L2
namespace L2
open PySem PySem.Spec PyProof.Rows
def wH (P:Program)(w:World)(K:Fg)(mg:Str->Option Value)(base:Heap)(N:List Str)(qual:Str)(scope:Scope)(f c':Addr)(clos:List (Str×Addr))(A:Around)(outer:List Env)(s:Shared)(H:Hp):Cx where
 prog:=P
 w:=w
 K:=K
 mg:=mg
 base:=base
 A:=A.deeper (PySem.W.envX qual scope s.heap.objs.size f (.ref c') clos)
 N:=N
 s₀:=s
 H₀:=H
 env:=PySem.W.envX qual scope s.heap.objs.size f (.ref c') clos
 outer:=outer
 stack:=PySem.W.envX qual scope s.heap.objs.size f (.ref c') clos::outer
 ex:=[]
 calm:=true
 fn:=fun _=>false
 pn:=[]
 xe:=fun _ _=>False
structure XO (ps fr:List Str)(scope:Scope):Prop where
 co:scope.isCoroutine=false
 gen:scope.isGenerator=false
 kind:scope.kind = .function
 nocell:∀ x∈scope.names,x.2 ≠ .cell
 par:∀ x∈ps,scope.names.lookup x=some .local
 fre:∀ x,scope.names.lookup x=some .free->x∈fr
 nd:ps.Nodup
theorem PR:∀{ps:List Str}{us:List Value}{i:Nat}{x:Str}{u:Value},ps.Nodup->ps[i]?=some x->us[i]?=some u->(ps.zip us).reverse.lookup x=some u
 |[],_,i,x,u,_,h,_=>by simp at h
 |_::_,[],i,x,u,_,_,h=>by simp at h
 |p::ps,v::us,0,x,u,nd,h1,h2=>by
  simp at h1 h2;subst h1;subst h2;rw [List.zip_cons_cons,List.reverse_cons,List.lookup_append];have n:(ps.zip us).reverse.lookup p=none:=by rw [List.lookup_eq_none_iff];intro q hq;have hq':=List.mem_reverse.mp hq;obtain ⟨a,b⟩:=q;have:=(List.of_mem_zip hq').1;simp only [bne_iff_ne,ne_eq,beq_eq_false_iff_ne];intro e;subst e;exact (List.nodup_cons.mp nd).1 this
  rw [n];simp
 |p::ps,v::us,i+1,x,u,nd,h1,h2=>by
  rw [List.zip_cons_cons,List.reverse_cons,List.lookup_append,PR (i:=i) (List.nodup_cons.mp nd).2 (by simpa using h1) (by simpa using h2)];rfl
section
variable {P:Program}{w:World}{K:Fg}{mg:Str->Option Value}{base:Heap}{A:Around}{outer:List Env}{s:Shared}{H:Hp}{f c':Addr}{pm ctv:Value}{params:Arguments}{body:Expr}{scope:Scope}{qual:Str}{clos:List (Str×Addr)}{ps fr:List Str}
 {us:List Value} {vs cv:List V} {t:TE} {Q:VK} {E:XK}
theorem Kj (S:XO ps fr scope)(hdp:A.depth<recursionLimit)(hhd:A.handled=none)(e0:Env0 P w K mg base A outer s H)(hf:s.heap.get? f=some (PySem.W.kla_obj "<lambda>" qual params body scope clos pm c' ctv))(hcd:s.heap.CodeRec (.ref c') qual)(hbind:bindArgs (PySem.W.kla_fn "<lambda>" qual params body scope clos pm (.ref c') ctv) ⟨us,[]⟩=pure (ps.zip us))(hl:vs.length=ps.length)(r:Vals vs us)(inj:∀ x y c,clos.lookup x=some c->clos.lookup y=some c->x=y)(hc:∀ x c,clos.lookup x=some c->(∃ v,s.heap.IsCell c v)/\H c=none)(hlc:cv.length=fr.length)(hcv:∀ (i:Nat) (x:Str) (v:V),fr[i]?=some x->cv[i]?=some v->scope.names.lookup x=some .free/\∃ c u,clos.lookup x=some c/\s.heap.IsCell c (some u)/\RelV v u)(hb:PE (wH P w K mg base (ps++fr) qual scope f c' clos A outer s H) body t)(hq:t ((vs++cv).map some) H Q):codeAny (model P w) A (.call (.ref f) ⟨us,[]⟩) (CR w6 outer P w H s Q E) s:=by
 have lim:s.heap.NoLimit:=e0.mod.nolimit.keeps fun b o e=>(e0.bs b o e).1;refine PySem.W.kla_callFunE hdp hf rfl S.co S.gen rfl hcd ?_;rw [hbind];refine wpAny_pure (wpAny_newFunctionEnv S.nocell (fun y hy=>S.par _ (List.of_mem_zip (show (y.1,y.2)∈ps.zip us from hy)).1) (fun h₁ hns hsb=>⟨lim.fresh _ hsb,?_⟩) S.kind);show codeAny _ _ (.expr body (PySem.W.envX qual scope s.heap.objs.size f (.ref c') clos)) _ _;have hk₁:∀ b o,s.heap.get? b=some o->h₁.get? b=some o:=fun b o e=>hsb.extBut b o (Nat.ne_of_lt (Heap.lt_size e)) (Heap.get?_push_of_some _ e);have noA:∀ b:Addr,b∉(wH P w K mg base (ps++fr) qual scope f c' clos A outer s H).ex:=fun b z=>absurd (show b∈([]:List Addr) from z) (by simp);have cellK:∀{c:Addr}{v:Option Value},s.heap.IsCell c v->h₁.IsCell c v:=fun {c v} ⟨o,e,d⟩=>⟨o,hk₁ _ _ e,d⟩;have I:Inv (wH P w K mg base (ps++fr) qual scope f c' clos A outer s H) [] ((vs++cv).map some) H { s with heap:=h₁,toks:=s.toks+(ps.zip us).length }:=by
  refine ⟨⟨e0.mod,S.kind,rfl,rfl,Nat.le_refl _,inj,fun x hx=>?_,fun x c z=>absurd (show false=true from z) (by decide),fun _=>hhd,Around.frames_deeper e0.frames,.inr ⟨rfl,rfl⟩,fun b z=>absurd z (noA b),e0.bs,e0.bsz,fun b _ _=>noA b,fun b z=>absurd z (noA b),e0.funs,e0.frf,e0.tbs⟩,
   rfl,e0.bare,Un.kept hk₁,⟨_,hns,fun i x v h1 h2 h3=>?_⟩,fun x c e=>?_,e0.hok.fresh (Nat.le_refl _),fun x c e=>(hc x c e).2,fun p hp=>absurd (show p∈([]:List (Addr×Obj)) from hp) (by simp),e0.hok.kept hk₁,?_⟩
  ·have hx:scope.names.lookup x=some .cell∨scope.names.lookup x=some .free:=hx;rcases hx with z|z
   ·exact absurd rfl (S.nocell _ (PySem.mem_of_lookup z))
   ·obtain ⟨i,hi,e⟩:=List.getElem_of_mem (S.fre x z);have hic:i<cv.length:=by omega
    obtain ⟨_,c,u,e1,_⟩:=hcv i x cv[i] (by rw [List.getElem?_eq_getElem hi,e]) (List.getElem?_eq_getElem hic);exact ⟨c,e1⟩
  ·have h1':(ps++fr)[i]?=some x:=h1;rw [List.getElem?_map] at h2;obtain ⟨v',e1,e2⟩:=Option.map_eq_some_iff.mp h2;cases e2;by_cases hi:i<ps.length
   ·rw [List.getElem?_append_left hi] at h1';rw [List.getElem?_append_left (by omega)] at e1;obtain ⟨u,hu,rv⟩:=r.get e1;exact ⟨u,rv,.inl ⟨S.par x (List.mem_of_getElem? h1'),PR S.nd h1' hu⟩⟩
   ·rw [List.getElem?_append_right (by omega)] at h1';rw [List.getElem?_append_right (by omega),hl] at e1;obtain ⟨k,c,u,a1,a2,a3⟩:=hcv _ x _ h1' e1;exact ⟨u,a3,.inr ⟨.inr k,c,a1,cellK a2⟩⟩
  ·obtain ⟨⟨v,z⟩,_⟩:=hc x c e;exact ⟨v,cellK z⟩
  ·show ((vs++cv).map some).length=(ps++fr).length;rw [List.length_map,List.length_append,List.length_append,hl,hlc]
 refine PySem.W.kla_codeExpr (wpAny_mono (hb [] _ _ H Q I hq) (fun u s' z=>?_) fun e s' z=>z.elim);obtain ⟨v,H',J,rv,q⟩:=z;exact ⟨v,H',J.os,J.bare,J.base,J.hok,rv,q⟩
end
end L2
namespace Ka
open PySem.W PyProof.Rows
def ev {α:Type}(ans:Nat->Nat->Bool):KasT α->α
 | .ret a=>a
 | .ask i j k=>ev ans (k (ans i j))
theorem wV {α β:Type}{ans:Nat->Nat->Bool}{f:α->KasT β}:∀ t:KasT α,ev ans (t.bind f)=ev ans (f (ev ans t))
 | .ret _=>rfl
 | .ask i j k=>wV (k (ans i j))
structure Ord (lt:Nat->Nat->Bool):Prop where
 irr:∀ a,lt a a=false
 tr:∀ a b c,lt a b=true->lt b c=true->lt a c=true
 neg:∀ a b c,lt a c=true->lt a b=true∨lt b c=true
section
variable {lt:Nat->Nat->Bool}(O:Ord lt)
def le (lt:Nat->Nat->Bool)(a b:Nat):Prop:=lt b a=false
include O in
theorem le_refl (a:Nat):le lt a a:=O.irr a
include O in
theorem le_trans {a b c:Nat}(h:le lt a b)(k:le lt b c):le lt a c:=by
 unfold le at *
 cases e:lt c a with
 |false=>rfl
 |true =>
  rcases O.neg c b a e with z|z
  ·rw [k] at z;cases z
  ·rw [h] at z;cases z
include O in
theorem le_of_lt {a b:Nat}(h:lt a b=true):le lt a b:=by
 unfold le;cases e:lt b a with
 |false=>rfl
 |true=>have:=O.tr a b a h e;rw [O.irr] at this;cases this
def g (p:Array Nat)(i:Nat):Nat:=p.getD i 0
theorem QR {p q:Array Nat}{i j:Nat}(h:p[i]?=q[j]?):g p i=g q j:=by unfold g;rw [Array.getD_eq_getD_getElem?,Array.getD_eq_getD_getElem?,h]
def Up (lt:Nat->Nat->Bool)(p:Array Nat)(k:Nat):Prop:=∀ i j,i<=j->j<k->le lt (g p i) (g p j)
def ja (lt:Nat->Nat->Bool)(p:Array Nat)(k:Nat):Prop:=∀ i j,i<=j->j<k->le lt (g p j) (g p i)
def Eqs (lt:Nat->Nat->Bool)(p:Array Nat)(a b:Nat):Prop:=∀ i j,a<=i->i<b->a<=j->j<b->le lt (g p i) (g p j)
include O in
theorem TZ (p:Array Nat):Up lt p 1:=fun i j h k=>by
 have:i=j:=by omega
 subst this;exact le_refl O _
include O in
theorem TY {p:Array Nat}{n:Nat}(h1:1<=n)(h:Up lt p n)(k:le lt (g p (n-1)) (g p n)):Up lt p (n+1):=fun i j hij hj=>by
 by_cases e:j=n
 ·subst e;by_cases e2:i=j
  ·subst e2;exact le_refl O _
  ·exact le_trans O (h i (j-1) (by omega) (by omega)) k
 ·exact h i j hij (by omega)
include O in
theorem Zc {p:Array Nat}{n:Nat}(h1:1<=n)(h:ja lt p n)(k:le lt (g p n) (g p (n-1))):ja lt p (n+1):=fun i j hij hj=>by
 by_cases e:j=n
 ·subst e;by_cases e2:i=j
  ·subst e2;exact le_refl O _
  ·exact le_trans O k (h i (j-1) (by omega) (by omega))
 ·exact h i j hij (by omega)
theorem QS {p:Array Nat}{i j:Nat}(hj:j<=p.size)(k:Nat):g (kas_rev p i j) k=if i<=k/\k<j then g p (i+j-1-k) else g p k:=by
 have e:=getElem?_mirror_all (xs:=p) (i:=i) hj k;unfold kas_rev;split
 ·rename_i h;rw [if_pos h] at e;exact QR e
 ·rename_i h;rw [if_neg h] at e;exact QR e
theorem wa {p:Array Nat}{i j:Nat}:(kas_rev p i j).size=p.size:=mirror_size _ _ _ _
theorem rev_perm {p:Array Nat}{i j:Nat}:(kas_rev p i j).Perm p:=mirror_perm _ _ _ _
include O in
theorem Vu {p:Array Nat}:∀(f n:Nat),1<=n->Up lt p n -> n<=ev lt (kas_asc p f n)/\ev lt (kas_asc p f n)<=n+f/\Up lt p (ev lt (kas_asc p f n))/\(ev lt (kas_asc p f n)=n+f∨lt (g p (ev lt (kas_asc p f n))) (g p (ev lt (kas_asc p f n)-1))=true)
 |0,n,_,h=>⟨Nat.le_refl _,Nat.le_refl _,h,.inl rfl⟩
 |f+1,n,h1,h=>by
  have e:ev lt (kas_asc p (f+1) n)=ev lt (if lt (g p n) (g p (n-1))=true then KasT.ret n else kas_asc p f (n+1)):=rfl;cases c:lt (g p n) (g p (n-1)) with
  |true=>rw [c,if_pos rfl] at e;rw [e];exact ⟨Nat.le_refl _,by show n<=_;omega,h,.inr c⟩
  |false=>rw [c,if_neg (by simp)] at e;rw [e];obtain ⟨a1,a2,a3,a4⟩:=Vu f (n+1) (by omega) (TY O h1 h c);exact ⟨by omega,by omega,a3,by rcases a4 with z|z;exact .inl (by omega);exact .inr z⟩
include O in
theorem VP {p:Array Nat}{n a:Nat}(ha:a<=n)(hn:n<=p.size)(h:ja lt p n)(q:Eqs lt p a n):ja lt (kas_rev p a n) n/\∀ i,i<n->le lt (g p (n-1)) (g (kas_rev p a n) i):=by
 have eqv:∀ i,i<n->le lt (g (kas_rev p a n) i) (g p i)/\le lt (g p i) (g (kas_rev p a n) i):=fun i hi=>by
  rw [QS hn];split
  ·rename_i z;exact ⟨q _ _ (by omega) (by omega) (by omega) (by omega),q _ _ (by omega) (by omega) (by omega) (by omega)⟩
  ·exact ⟨le_refl O _,le_refl O _⟩
 refine ⟨fun i j hij hj=>?_,fun i hi=>?_⟩
 ·exact le_trans O (le_trans O (eqv j hj).1 (h i j hij hj)) (eqv i (by omega)).2
 ·exact le_trans O (h i (n-1) (by omega) (by omega)) (eqv i hi).2
include O in
theorem Zb:∀(f:Nat)(p:Array Nat)(n q:Nat),q+1<=n->n+f<=p.size->ja lt p n->Eqs lt p (n-(q+1)) n -> ∃ p' n' q',ev lt (kas_desc f p n q)=(p',n',q')/\p'.Perm p/\p'.size=p.size/\n<=n'/\n'<=n+f/\ja lt p' n'/\q'+1<=n'/\Eqs lt p' (n'-(q'+1)) n'
 |0,p,n,q,hq,_,h,e=>⟨p,n,q,rfl,.refl _,rfl,Nat.le_refl _,Nat.le_refl _,h,hq,e⟩
 |f+1,p,n,q,hq,hs,h,he=>by
  have ee:ev lt (kas_desc (f+1) p n q)=ev lt (if lt (g p n) (g p (n-1))=true then (if q > 0 then kas_desc f (kas_rev p (n-(q+1)) n) (n+1) 0 else kas_desc f p (n+1) 0) else KasT.ask (g p (n-1)) (g p n) fun d=>if d=true then .ret (p,n,q) else kas_desc f p (n+1) (q+1)):=rfl;cases c:lt (g p n) (g p (n-1)) with
  |true =>
   rw [c,if_pos rfl] at ee;by_cases hq0:q > 0
   ·rw [if_pos hq0] at ee;obtain ⟨d1,d2⟩:=VP O (a:=n-(q+1)) (by omega) (by omega) h he;have gn:g (kas_rev p (n-(q+1)) n) n=g p n:=by rw [QS (by omega),if_neg (by omega)]
    have dn:ja lt (kas_rev p (n-(q+1)) n) (n+1):=Zc O (by omega) d1 (by rw [gn];exact le_trans O (le_of_lt O c) (d2 (n-1) (by omega)));obtain ⟨p',n',q',a1,a2,a3,a4,a5,a6⟩:=Zb f (kas_rev p (n-(q+1)) n) (n+1) 0 (by omega) (by rw [wa];omega) dn (fun i j i1 i2 j1 j2=>(show i=j by omega)▸le_refl O _);exact ⟨p',n',q',ee.trans a1,a2.trans rev_perm,a3.trans wa,by omega,by omega,a6⟩
   ·rw [if_neg hq0] at ee;obtain ⟨p',n',q',a1,a2,a3,a4,a5,a6⟩:=Zb f p (n+1) 0 (by omega) (by omega) (Zc O (by omega) h (le_of_lt O c)) (fun i j i1 i2 j1 j2=>(show i=j by omega)▸le_refl O _);exact ⟨p',n',q',ee.trans a1,a2,a3,by omega,by omega,a6⟩
  |false =>
   rw [c,if_neg (by simp)] at ee;have e2:ev lt (kas_desc (f+1) p n q)=ev lt (if lt (g p (n-1)) (g p n)=true then KasT.ret (p,n,q) else kas_desc f p (n+1) (q+1)):=ee;cases d:lt (g p (n-1)) (g p n) with
   |true=>rw [d,if_pos rfl] at e2;exact ⟨p,n,q,e2,.refl _,rfl,Nat.le_refl _,by omega,h,hq,he⟩
   |false =>
    rw [d,if_neg (by simp)] at e2;have dn:=Zc O (by omega) h (show le lt (g p n) (g p (n-1)) from d);obtain ⟨p',n',q',a1,a2,a3,a4,a5,a6⟩:=Zb f p (n+1) (q+1) (by omega) (by omega) dn (fun i j i1 i2 j1 j2=>by
     have lo:∀ k,n-(q+1)<=k->k<n+1->le lt (g p k) (g p (n-1))/\le lt (g p (n-1)) (g p k):=fun k k1 k2=>by
      by_cases hk:k=n
      ·subst hk;exact ⟨d,c⟩
      ·exact ⟨he _ _ (by omega) (by omega) (by omega) (by omega),he _ _ (by omega) (by omega) (by omega) (by omega)⟩
     exact le_trans O (lo i (by omega) i2).1 (lo j (by omega) j2).2)
    exact ⟨p',n',q',e2.trans a1,a2,a3,by omega,by omega,a6⟩
include O in
theorem Ph {p:Array Nat}{n nrem:Nat}(h1:1<=n)(hn:n<=nrem)(hs:nrem<=p.size)(h:ja lt p n):∃ m p',ev lt (kas_tail3 n nrem p)=(m,p')/\p'.Perm p/\p'.size=p.size/\1<=m/\m<=nrem/\Up lt p' m:=by
 unfold kas_tail3;rw [wV];have up:Up lt (kas_rev p 0 n) n:=fun i j hij hj=>by
  rw [QS (by omega),QS (by omega),if_pos (by omega),if_pos (by omega)];exact h _ _ (by omega) (by omega)
 obtain ⟨a1,a2,a3,_⟩:=Vu O (nrem-n) n h1 up;exact ⟨_,_,rfl,rev_perm,wa,by omega,by omega,a3⟩
include O in
theorem Gz {p:Array Nat}{n nrem:Nat}(hn:n+1<=nrem)(hs:nrem<=p.size)(h:ja lt p (n+1)):∃ m p',ev lt (kas_descPart n nrem p)=(m,p')/\p'.Perm p/\p'.size=p.size/\1<=m/\m<=nrem/\Up lt p' m:=by
 unfold kas_descPart;rw [wV];obtain ⟨p',n',q',a1,a2,a3,a4,a5,a6,a7,a8⟩:=Zb O (nrem-(n+1)) p (n+1) 0 (by omega) (by omega) h (fun i j i1 i2 j1 j2=>(show i=j by omega)▸le_refl O _);rw [a1]
 dsimp only
 split
 ·obtain ⟨d1,_⟩:=VP O (a:=n'-(q'+1)) (by omega) (by omega) a6 a8;obtain ⟨m,p2,b1,b2,b3,b4⟩:=Ph O (nrem:=nrem) (by omega) (by omega) (by rw [wa];omega) d1;exact ⟨m,p2,b1,b2.trans (rev_perm.trans a2),by rw [b3,wa,a3],b4⟩
 ·obtain ⟨m,p2,b1,b2,b3,b4⟩:=Ph O (nrem:=nrem) (by omega) (by omega) (by omega) a6;exact ⟨m,p2,b1,b2.trans a2,by rw [b3,a3],b4⟩
include O in
theorem Db {p:Array Nat}{nrem:Nat}(h0:1<=nrem)(hs:nrem<=p.size):∃ m p',ev lt (kas_count nrem p)=(m,p')/\p'.Perm p/\p'.size=p.size/\1<=m/\m<=nrem/\Up lt p' m:=by
 unfold kas_count;rw [wV];obtain ⟨a1,a2,a3,a4⟩:=Vu O (p:=p) (nrem-1) 1 (Nat.le_refl _) (TZ O p);generalize hm:ev lt (kas_asc p (nrem-1) 1)=m at a1 a2 a3 a4 ⊢;by_cases e1:(m==nrem)=true
 ·rw [if_pos e1];exact ⟨m,p,rfl,.refl _,rfl,a1,by omega,a3⟩
 ·rw [if_neg e1];have ne:m≠nrem:=fun z=>e1 (by rw [z];exact beq_self_eq_true _);have c:lt (g p m) (g p (m-1))=true:=by
   rcases a4 with z|z
   ·omega
   ·exact z
  by_cases e2:m > 1
  ·rw [if_pos e2];have ee:ev lt (KasT.ask (p.getD 0 0) (p.getD (m-1) 0) fun c=>if c=true then KasT.ret (m,p) else kas_descPart m nrem (kas_rev p 0 m))=ev lt (if lt (g p 0) (g p (m-1))=true then KasT.ret (m,p) else kas_descPart m nrem (kas_rev p 0 m)):=rfl;rw [ee];cases d:lt (g p 0) (g p (m-1)) with
   |true=>rw [if_pos rfl];exact ⟨m,p,rfl,.refl _,rfl,a1,by omega,a3⟩
   |false =>
    rw [if_neg (by simp)];have all:Eqs lt p 0 m:=fun i j _ i2 _ j2=>le_trans O (le_trans O (a3 i (m-1) (by omega) (by omega)) (show le lt (g p (m-1)) (g p 0) from d)) (a3 0 j (by omega) j2);obtain ⟨d1,d2⟩:=VP O (a:=0) (by omega) (by omega) (fun i j hij hj=>all _ _ (by omega) (by omega) (by omega) (by omega)) all;have gm:g (kas_rev p 0 m) m=g p m:=by rw [QS (by omega),if_neg (by omega)]
    have dn:ja lt (kas_rev p 0 m) (m+1):=Zc O (by omega) d1 (by rw [gm];exact le_trans O (le_of_lt O c) (d2 (m-1) (by omega)));obtain ⟨m2,p2,b1,b2,b3,b4⟩:=Gz O (nrem:=nrem) (by omega) (by rw [wa];omega) dn;exact ⟨m2,p2,b1,b2.trans rev_perm,by rw [b3,wa],b4⟩
  ·rw [if_neg e2];have e3:m=1:=by omega
   subst e3;exact Gz O (by omega) hs (fun i j hij hj=>by
    by_cases z:i=j
    ·subst z;exact le_refl O _
    ·have z1:i=0:=by omega
     have z2:j=1:=by omega
     subst z1 z2;exact le_of_lt O c)
include O in
theorem WV {p:Array Nat}{k:Nat}(up:Up lt p k):∀(f l r:Nat),r-l<=f->l<=r->r<=k->(∀ i,i<l->le lt (g p i) (g p k))->(∀ i,r<=i->i<k->le lt (g p k) (g p i)) -> ev lt (kas_place p k f l r)<=k/\(∀ i,i<ev lt (kas_place p k f l r)->le lt (g p i) (g p k))/\∀ i,ev lt (kas_place p k f l r)<=i->i<k->le lt (g p k) (g p i)
 |0,l,r,hf,hl,hr,h1,h2=>by
  have e:l=r:=by omega
  subst e;exact ⟨hr,h1,h2⟩
 |f+1,l,r,hf,hl,hr,h1,h2=>by
  have e:ev lt (kas_place p k (f+1) l r)=ev lt (if l >= r then KasT.ret l else KasT.ask (p.getD k 0) (p.getD ((l+r) / 2) 0) fun c=>if c=true then kas_place p k f l ((l+r) / 2) else kas_place p k f ((l+r) / 2+1) r):=rfl;by_cases c:l >= r
  ·rw [if_pos c] at e;have e':l=r:=by omega
   subst e';rw [e];exact ⟨hr,h1,h2⟩
  ·rw [if_neg c] at e;have e2:ev lt (kas_place p k (f+1) l r)=ev lt (if lt (g p k) (g p ((l+r) / 2))=true then kas_place p k f l ((l+r) / 2) else kas_place p k f ((l+r) / 2+1) r):=e;cases d:lt (g p k) (g p ((l+r) / 2)) with
   |true=>rw [d,if_pos rfl] at e2;rw [e2];exact WV up f l ((l+r) / 2) (by omega) (by omega) (by omega) h1 fun i i1 i2=>le_trans O (le_of_lt O d) (up _ _ i1 i2)
   |false=>rw [d,if_neg (by simp)] at e2;rw [e2];exact WV up f ((l+r) / 2+1) r (by omega) (by omega) hr (fun i hi=>le_trans O (up i ((l+r) / 2) (by omega) (by omega)) d) h2
include O in
theorem UQ:∀(f:Nat)(p:Array Nat)(k:Nat),k+f<=p.size->Up lt p k->∃ p',ev lt (kas_bin f p k)=p'/\p'.Perm p/\p'.size=p.size/\Up lt p' (k+f)
 |0,p,k,_,h=>⟨p,rfl,.refl _,rfl,h⟩
 |f+1,p,k,hs,h=>by
  have e:ev lt (kas_bin (f+1) p k)=ev lt ((kas_place p k k 0 k).bind fun l=>kas_bin f (bubble p k (k-l)) (k+1)):=rfl;rw [wV] at e;obtain ⟨a1,a2,a3⟩:=WV O h k 0 k (by omega) (by omega) (Nat.le_refl _) (fun i hi=>absurd hi (by omega)) fun i i1 i2=>absurd i1 (by omega);generalize ev lt (kas_place p k k 0 k)=l at e a1 a2 a3;have gb:∀ i,g (bubble p k (k-l)) i=if i=l then g p k else if l<i/\i<=k then g p (i-1) else g p i:=fun i=>by
   have z:=getElem?_bubble (xs:=p) (src:=k) (by omega) (k-l) (by omega) i;have el:k-(k-l)=l:=by omega
   rw [el] at z;split
   ·rename_i q;rw [if_pos q] at z;exact QR z
   ·rename_i q;rw [if_neg q] at z;split
    ·rename_i q2;rw [if_pos q2] at z;exact QR z
    ·rename_i q2;rw [if_neg q2] at z;exact QR z
  have up:Up lt (bubble p k (k-l)) (k+1):=fun i j hij hj=>by
   by_cases e0:i=j
   ·subst e0;exact le_refl O _
   rw [gb,gb];by_cases i1:i=l
   ·rw [if_pos i1,if_neg (by omega),if_pos (by omega)];exact a3 _ (by omega) (by omega)
   ·rw [if_neg i1];by_cases j1:j=l
    ·rw [if_neg (by omega),if_pos j1];exact a2 _ (by omega)
    ·rw [if_neg j1];by_cases i2:l<i/\i<=k
     ·rw [if_pos i2,if_pos (by omega)];exact h _ _ (by omega) (by omega)
     ·rw [if_neg i2];by_cases j2:l<j/\j<=k
      ·rw [if_pos j2];exact h _ _ (by omega) (by omega)
      ·rw [if_neg j2];exact h _ _ (by omega) (by omega)
  obtain ⟨p',b1,b2,b3,b4⟩:=UQ f (bubble p k (k-l)) (k+1) (by rw [bubble_size];omega) up;exact ⟨p',e.trans b1,b2.trans (bubble_perm _ _ _),by rw [b3,bubble_size],by rw [show k+1+f=k+(f+1) by omega] at b4;exact b4⟩
include O in
theorem Tl {n:Nat}(h:1<=n):∃ p,ev lt (kas_sort n)=p/\p.Perm (List.toArray (List.range n))/\p.size=n/\Up lt p n:=by
 unfold kas_sort;rw [wV];obtain ⟨m,p,a1,a2,a3,a4,a5,a6⟩:=Db O (p:=List.toArray (List.range n)) (nrem:=n) h (by simp);have hp:p.size=n:=by rw [a3];simp
 rw [a1]
 dsimp only
 split
 ·have mx:max m 1=m:=by omega
  rw [mx];obtain ⟨p',b1,b2,b3,b4⟩:=UQ O (n-m) p m (by omega) a6;exact ⟨p',b1,b2.trans a2,by omega,by rw [show m+(n-m)=n by omega] at b4;exact b4⟩
 ·have e:m=n:=by omega
  subst e;exact ⟨p,rfl,a2,hp,a6⟩
end
end Ka
namespace Ka
open PySem PySem.W PyProof.Rows
def Bd {α:Type}(n:Nat):KasT α->Prop
 | .ret _=>True
 | .ask i j k=>i<n/\j<n/\∀ b,Bd n (k b)
def BdP {α:Type}(n:Nat)(R:α->Prop):KasT α->Prop
 | .ret a=>R a
 | .ask i j k=>i<n/\j<n/\∀ b,BdP n R (k b)
theorem wE {α β:Type}{n:Nat}{R:α->Prop}{S:β->Prop}{f:α->KasT β}:∀{t:KasT α},BdP n R t->(∀ a,R a->BdP n S (f a))->BdP n S (t.bind f)
 | .ret a,h,k=>k a h
 | .ask _ _ _,⟨a,b,c⟩,k=>⟨a,b,fun x=>wE (c x) k⟩
def Lo (n:Nat)(p:Array Nat):Prop:=1<=n/\∀ x∈p.toList,x<n
theorem Lo.g {n:Nat}{p:Array Nat}(h:Lo n p)(i:Nat):p.getD i 0<n:=by
 rw [Array.getD_eq_getD_getElem?];cases e:p[i]? with
 |none=>exact h.1
 |some x=>exact h.2 x (by rw [<- Array.getElem?_toList] at e;exact List.mem_of_getElem? e)
theorem Lo.perm {n:Nat}{p q:Array Nat}(h:Lo n p)(k:q.Perm p):Lo n q:=⟨h.1,fun x hx=>h.2 x ((Array.perm_iff_toList_perm.mp k).mem_iff.mp hx)⟩
section
variable {n:Nat}
theorem Vz {p:Array Nat}(h:Lo n p):∀ f m,BdP n (fun _=>True) (kas_asc p f m)
 |0,_=>trivial
 |f+1,m=>⟨h.g _,h.g _,fun b=>by
  cases b with
  |true=>exact trivial
  |false=>exact Vz h f (m+1)⟩
theorem XV:∀(f:Nat){p:Array Nat}(m q:Nat),Lo n p->BdP n (fun r=>Lo n r.1) (kas_desc f p m q)
 |0,_,_,_,h=>h
 |f+1,p,m,q,h=>⟨h.g _,h.g _,fun b=>by
  cases b with
  |true =>
   show BdP n _ (if q > 0 then kas_desc f (kas_rev p (m-(q+1)) m) (m+1) 0 else kas_desc f p (m+1) 0);split
   ·exact XV f _ _ (h.perm rev_perm)
   ·exact XV f _ _ h
  |false=>exact ⟨h.g _,h.g _,fun d=>by
    cases d with
    |true=>exact h
    |false=>exact XV f _ _ h⟩⟩
theorem UP {p:Array Nat}{m r:Nat}(h:Lo n p):BdP n (fun q=>Lo n q.2) (kas_tail3 m r p):=wE (Vz (h.perm rev_perm) _ _) fun _ _=>h.perm rev_perm
theorem UO {p:Array Nat}{m r:Nat}(h:Lo n p):BdP n (fun q=>Lo n q.2) (kas_descPart m r p):=wE (XV _ _ _ h) fun a ha=>by
 split
 ·exact UP (ha.perm rev_perm)
 ·exact UP ha
theorem Ck {p:Array Nat}{r:Nat}(h:Lo n p):BdP n (fun q=>Lo n q.2) (kas_count r p):=wE (Vz h _ _) fun m _=>by
 split
 ·exact h
 ·split
  ·exact ⟨h.g _,h.g _,fun b=>by
    cases b with
    |true=>exact h
    |false=>exact UO (h.perm rev_perm)⟩
  ·exact UO h
theorem VA {p:Array Nat}{k:Nat}(h:Lo n p):∀ f l r,BdP n (fun _=>True) (kas_place p k f l r)
 |0,_,_=>trivial
 |f+1,l,r=>by
  show BdP n _ (if l >= r then _ else _);split
  ·exact trivial
  ·exact ⟨h.g _,h.g _,fun b=>by
    cases b with
    |true=>exact VA h f _ _
    |false=>exact VA h f _ _⟩
theorem UN:∀(f:Nat){p:Array Nat}(k:Nat),Lo n p->BdP n (fun _=>True) (kas_bin f p k)
 |0,_,_,_=>trivial
 |f+1,p,k,h=>wE (VA h _ _ _) fun _ _=>UN f _ (h.perm (bubble_perm _ _ _))
theorem Cm (h:1<=n):BdP n (fun _=>True) (kas_sort n):=wE (Ck ⟨h,fun x hx=>by simpa using hx⟩) fun r hr=>by
 split
 ·exact UN _ _ hr
 ·exact trivial
theorem PJ {α:Type}{cmp:Nat->Nat->(Bool->Shared->Prop)->Shared->Prop}{lt:Nat->Nat->Bool}{s:Shared}{R:α->Prop}{G:α->Shared->Prop}(hc:∀ i j (C:Bool->Shared->Prop),i<n->j<n->C (lt i j) s->cmp i j C s):∀{t:KasT α},BdP n R t->G (ev lt t) s->t.kasWp cmp G s
 | .ret _,_,h=>h
 | .ask i j k,⟨a,b,c⟩,h=>hc i j _ a b (PJ hc (c (lt i j)) h)
end
theorem sort_wp {n:Nat}{cmp:Nat->Nat->(Bool->Shared->Prop)->Shared->Prop}{lt:Nat->Nat->Bool}{s:Shared}{G:Array Nat->Shared->Prop}(O:Ord lt)(h:1<=n)(hc:∀ i j (C:Bool->Shared->Prop),i<n->j<n->C (lt i j) s->cmp i j C s)(hG:∀ p:Array Nat,p.Perm (List.toArray (List.range n))->p.size=n->(∀ i j,i<=j->j<n->lt (p.getD j 0) (p.getD i 0)=false)->G p s):(kas_sort n).kasWp cmp G s:=by obtain ⟨p,e,a1,a2,a3⟩:=Tl O h;refine PJ hc (Cm h) ?_;rw [e];exact hG p a1 a2 fun i j hij hj=>a3 i j hij hj
end Ka
namespace L2
open PySem PySem.Spec PyProof.Rows
def g9 (p q:Int×Str):Bool:=decide (p.1<q.1) || (p.1==q.1&&decide (p.2.cps.toList<q.2.cps.toList))
theorem ltK_iff {p q:Int×Str}:g9 p q=true↔p.1<q.1∨(p.1=q.1/\p.2.cps.toList<q.2.cps.toList):=by unfold g9;simp only [Bool.or_eq_true,Bool.and_eq_true,decide_eq_true_eq,beq_iff_eq]
theorem QZ (kf:Nat->Int×Str):Ka.Ord fun i j=>g9 (kf i) (kf j) where
 irr a:=by
  cases e:g9 (kf a) (kf a) with
  |false=>rfl
  |true =>
   rcases ltK_iff.mp e with z|⟨_,z⟩
   ·omega
   ·exact absurd z (List.lt_irrefl _)
 tr a b c h k:=by
  refine ltK_iff.mpr ?_;rcases ltK_iff.mp h with z|⟨z1,z2⟩<;>rcases ltK_iff.mp k with y|⟨y1,y2⟩
  ·exact .inl (by omega)
  ·exact .inl (by omega)
  ·exact .inl (by omega)
  ·exact .inr ⟨by omega,List.lt_trans z2 y2⟩
 neg a b c h:=by
  rcases ltK_iff.mp h with z|⟨z1,z2⟩
  ·by_cases q:(kf a).1<(kf b).1
   ·exact .inl (ltK_iff.mpr (.inl q))
   ·exact .inr (ltK_iff.mpr (.inl (by omega)))
  ·by_cases q:(kf a).1<(kf b).1
   ·exact .inl (ltK_iff.mpr (.inl q))
   ·by_cases q2:(kf b).1<(kf c).1
    ·exact .inr (ltK_iff.mpr (.inl q2))
    ·by_cases q3:(kf a).2.cps.toList<(kf b).2.cps.toList
     ·exact .inl (ltK_iff.mpr (.inr ⟨by omega,q3⟩))
     ·exact .inr (ltK_iff.mpr (.inr ⟨by omega,List.lt_of_le_of_lt (List.not_lt.mp q3) z2⟩))
section
variable {prog:Program}{w:World}{A:Around}{E:Value->Shared->Prop}{s:Shared}
theorem Tw {x y:Addr}{ox oy:Obj}{i j:Int}{a b:Str}{t u t' u':Tok}{n k:Nat}{Q:Bool->Shared->Prop}(hx:s.heap.get? x=some ox)(dx:ox.data = .seq #[.int i t,.str a u] n)(hy:s.heap.get? y=some oy)(dy:oy.data = .seq #[.int j t',.str b u'] k)(h:Q (g9 (i,a) (j,b)) s):wpAny (model prog w) A (keyLt' (tuples' true) (.ref x) (.ref y)) Q E s:=by
 refine PySem.W.kat_lt hx dx hy dy ?_;show PySem.W.KatLex prog w A true _ Q [(.int i t,.int j t'),(.str a u,.str b u')] 0 s;refine PySem.W.kat_cons (wpAny_eqBool_int ?_);by_cases e:i=j
 ·subst e;rw [beq_self_eq_true];refine PySem.W.kat_yes (PySem.W.kat_cons (wpAny_eqBool_str ?_));by_cases e2:a=b
  ·subst e2;rw [decide_eq_true rfl];refine PySem.W.kat_yes (PySem.W.kat_nil ?_);have z:g9 (i,a) (i,a)=false:=(QZ fun _=>(i,a)).irr 0;rw [z] at h;exact h
  ·rw [decide_eq_false e2];refine PySem.W.kat_no (PySem.W.kat_one _ _ (PyProof.Rows.lt_str ?_));have z:g9 (i,a) (i,b)=decide (a.cps.toList<b.cps.toList):=by unfold g9;simp
   rw [z] at h;exact h
 ·have e':(i==j)=false:=by simpa using e
  rw [e'];refine PySem.W.kat_no ?_;show wpAny _ _ (oneLt' true (.int i t) (.int j t')) Q _ s;refine oneLt_int ?_;have z:g9 (i,a) (j,b)=decide (i<j):=by unfold g9;simp [e']
  rw [z] at h;exact h
end
end L2
namespace L2
open PySem PySem.Spec PyProof.Rows
def Grow (H H':Hp):Prop:=∀ b o,H b=some o->H' b=some o
theorem Grow.refl {H:Hp}:Grow H H:=fun _ _ e=>e
theorem Grow.trans {H H1 H2:Hp}(a:Grow H H1)(b:Grow H1 H2):Grow H H2:=fun c o e=>b c o (a c o e)
structure KeysIn (kf:Nat->Int×Str)(H:Hp)(xs:List V)(ks:List Value):Prop where
 len:ks.length=xs.length
 at_:∀(i:Nat)(x:V),xs[i]?=some x->∃ p,ks[i]?=some (.ref p)/\H p=some (.tup [.int (kf i).1,.str (kf i).2])
theorem KeysIn.nil {kf:Nat->Int×Str}{H:Hp}:KeysIn kf H [] []:=⟨rfl,fun i x e=>by simp at e⟩
theorem KeysIn.snoc {kf:Nat->Int×Str}{H H':Hp}{xs:List V}{ks:List Value}{x:V}{p:Addr}(h:KeysIn kf H xs ks)(g:Grow H H')(e:H' p=some (.tup [.int (kf xs.length).1,.str (kf xs.length).2])):KeysIn kf H' (xs++[x]) (ks++[.ref p]):=by
 refine ⟨by rw [List.length_append,List.length_append,h.len];rfl,fun i y q=>?_⟩;by_cases hi:i<xs.length
 ·rw [List.getElem?_append_left hi] at q;obtain ⟨a,e1,e2⟩:=h.at_ i y q;exact ⟨a,by rw [List.getElem?_append_left (by rw [h.len];exact hi)];exact e1,g _ _ e2⟩
 ·rw [List.getElem?_append_right (by omega)] at q;have hz:i-xs.length=0:=by
   cases hd:i-xs.length with
   |zero=>rfl
   |succ k=>rw [hd] at q;simp at q
  rw [hz] at q;simp at q;have hi':i=xs.length:=by omega
  refine ⟨p,?_,by rw [hi'];exact e⟩;rw [List.getElem?_append_right (by rw [h.len];omega),h.len,hz];rfl
structure jy (X:Cx)(pins:List (Addr×Obj))(b:Addr):Prop where
 s0:X.s₀.heap.objs.size<=b
 nL:b≠X.env.locals
 nC:∀ x c,X.env.cells.lookup x=some c->c≠b
 nP:∀ p∈X.pn++pins,p.1≠b
 nS:b∉frs X.stack
section
variable {X:Cx}{pins:List (Addr×Obj)}{Z:St}{H:Hp}{s:Shared}{h':Heap}{b:Addr}
theorem Inv.mine (I:Inv X pins Z H s)(h:s.heap.objs.size<=b):jy X pins b where
 s0:=Nat.le_trans I.sz h
 nL:=Nat.ne_of_gt (Nat.lt_of_lt_of_le I.lt h)
 nC:=fun x c e=>by
  obtain ⟨v,o,e1,_⟩:=I.cell x c e;exact Nat.ne_of_lt (Nat.lt_of_lt_of_le (Heap.lt_size e1) h)
 nP:=fun p hp=>Nat.ne_of_lt (Nat.lt_of_lt_of_le (Heap.lt_size (I.pin p hp).1) h)
 nS:=fun z=>by
  rcases List.mem_cons.mp (I.stkSub b z) with q|q
  ·exact absurd q (Nat.ne_of_gt (Nat.lt_of_lt_of_le I.lt h))
  ·exact I.nofs h q
theorem Inv.turn {t':Nat}(I:Inv X pins Z H s)(m:jy X pins b)(hn:H b=none)(k:∀ c o,c≠b->s.heap.get? c=some o->h'.get? c=some o):Inv X pins Z H { s with heap:=h',toks:=t' } :=
 I.turned k hn m.nL (.inr m.s0) m.nC m.nP
theorem QB {h:Heap}{a c:Addr}{g:Array Value->Array Value}{o:Obj}(n:c≠a)(e:h.get? c=some o):(h.update a (Obj.mapSeq g)).get? c=some o:=(Heap.get?_update_ne _ _ _ _ n).trans e
end
section
variable {X:Cx}{pins:List (Addr×Obj)}{Z:St}{H:Hp}{s:Shared}{A2:Around}{D kS f:Addr}{e1:Nat}{xs:List V}{us:List Value}{kf:Nat->Int×Str}{P:PySem.Fin->Shared->Prop}{E:Value->Shared->Prop}
def YI (X:Cx)(pins:List (Addr×Obj))(Z:St)(H:Hp)(kf:Nat->Int×Str)(D:Addr)(xs:List V)(R:Shared->Prop):Prop:=∀(l:List Nat)(out:List Value)(H':Hp)(s':Shared)(e':Nat),Inv X pins Z H' s'->Grow H H'->H' D=none ->
 s'.heap.get? D=some (seqObj "list" out.toArray e')->l.Perm (List.range xs.length)->Vals (l.map fun i=>xs.getD i .non) out->l.Pairwise (fun a b=>g9 (kf b) (kf a)=false)->R s'
theorem Pi {st:SortSt}{out:List Value}{ks:List Value}{e:Nat}{H1:Hp}{s1:Shared}(I:Inv X pins Z H1 s1)(mD:jy X pins D)(mK:jy X pins kS)(ne:D≠kS)(nD:H1 D=none)(nK:H1 kS=none)(hD:s1.heap.get? D=some (seqObj "list" #[] e1))(hk:s1.heap.get? kS=some (seqObj "list" ks.toArray e))(hout:(arrOf st).map (·.2)=out.toArray)(hz:out.length<64)(hkz:ks.length<64)(hf:failedOf st=none)(h:∀ (h':Heap) (e':Nat),Inv X pins Z H1 { s1 with heap:=h' }->h'.get? D=some (seqObj "list" out.toArray e')->P (.done (.ret .none)) { s1 with heap:=h' }):wpAny (model X.prog X.w) A2 (ksk_tail D false e1 (.ref kS) st) P E s1:=by
 have hD1:(s1.heap.update kS (Obj.mapSeq fun _=>(#[]:Array Value))).get? D=some (seqObj "list" #[] e1):=QB ne hD;obtain ⟨c2,hc2⟩:∃ c2,((s1.heap.update kS (Obj.mapSeq fun _=>(#[]:Array Value))).update D (Obj.mapSeq fun _=>out.toArray)).get? D=some (seqObj "list" out.toArray c2):=⟨_,get?_update_seq hD1 fun _=>out.toArray⟩;have I1:=I.turn (t':=s1.toks) mK nK (h':=s1.heap.update kS (Obj.mapSeq fun _=>(#[]:Array Value))) fun c o n q=>QB n q;have I2:=I1.turn (t':=s1.toks) mD nD (h':=(s1.heap.update kS (Obj.mapSeq fun _=>(#[]:Array Value))).update D (Obj.mapSeq fun _=>out.toArray)) fun c o n q=>QB n q;unfold ksk_tail
 dsimp only
 rw [hout];refine wpAny_bind (listUpdate_at hk rfl ?_ (by rw [List.size_toArray,sizeLine_eq];omega) (Nat.zero_le _));refine wpAny_bind (wpAny_letGo ?_);refine wpAny_bind (seqEpoch_at hD1 rfl ?_);refine wpAny_bind (listUpdate_at hD1 rfl ?_ (Nat.zero_le _) (by show out.toArray.size<=_;rw [List.size_toArray,sizeLine_eq];omega));rw [hf];simp only [bne_self_eq_false,Bool.false_eq_true,if_false];exact wpAny_pure (h _ c2 I2 hc2)
end
end L2
namespace L2
open PySem PySem.Spec PyProof.Rows
section
variable {X:Cx}{pins:List (Addr×Obj)}{Z:St}{H:Hp}{s:Shared}{A2:Around}{D kS f:Addr}{e1:Nat}{xs:List V}{us:List Value}{kf:Nat->Int×Str}{P:PySem.Fin->Shared->Prop}{E:Value->Shared->Prop}
theorem Yy:∀{xs:List V}{us:List Value}{i:Nat},Vals xs us->i<xs.length->RelV (xs.getD i .non) (us.getD i Value.none)
 |_,_,i,.nil,h=>by simp at h
 |_,_,0,.cons r _,_=>r
 |_,_,i+1,.cons _ q,h=>by
  have:=Yy (i:=i) q (by simpa using h);simpa using this
theorem Py {xs:List V}{us:List Value}(rv:Vals xs us):∀{l:List Nat},(∀ i∈l,i<xs.length)->Vals (l.map fun i=>xs.getD i .non) (l.map fun i=>us.getD i Value.none)
 |[],_=> .nil
 |i::l,h=> .cons (Yy rv (h i List.mem_cons_self)) (Py rv fun j hj=>h j (List.mem_cons_of_mem _ hj))
theorem WB {α:Type}{d:α}:∀ xs:List α,(List.range xs.length).map (fun i=>xs.getD i d)=xs:=fun xs=>by
 apply List.ext_getElem?;intro i;rw [List.getElem?_map];by_cases h:i<xs.length
 ·rw [List.getElem?_range h,List.getElem?_eq_getElem h];simp [h]
 ·rw [List.getElem?_eq_none (by simpa using h),List.getElem?_eq_none (by simpa using h)];rfl
theorem end_K {ks:List Value}{e:Nat}{H1:Hp}{s1:Shared}(I:Inv X pins Z H1 s1)(mD:jy X pins D)(mK:jy X pins kS)(ne:D≠kS)(nD:H1 D=none)(nK:H1 kS=none)(hD:s1.heap.get? D=some (seqObj "list" #[] e1))(hk:s1.heap.get? kS=some (seqObj "list" ks.toArray e))(rv:Vals xs us)(hK:KeysIn kf H1 xs ks)(h64:xs.length<64)(h:∀ (l:List Nat) (out:List Value) (h':Heap) (e':Nat),Inv X pins Z H1 { s1 with heap:=h' }->h'.get? D=some (seqObj "list" out.toArray e')->l.Perm (List.range xs.length)->Vals (l.map fun i=>xs.getD i .non) out->l.Pairwise (fun a b=>g9 (kf b) (kf a)=false)->P (.done (.ret .none)) { s1 with heap:=h' }):wpAny (model X.prog X.w) A2 (ksk_end D false us.toArray e1 (.ref kS) ks.toArray) P E s1:=by
 have hul:us.length=xs.length:=rv.length.symm;have hkl:ks.length=us.length:=by rw [hK.len,hul]
 unfold ksk_end
 dsimp only
 simp only [Bool.false_eq_true,if_false];by_cases h2:us.toArray.size<2
 ·rw [if_pos h2,if_pos h2];refine wpAny_bind (wpAny_pure ?_);refine wpAny_bind (wpAny_pure ?_);refine Pi (out:=us) (ks:=ks) I mD mK ne nD nK hD hk ?_ (by omega) (by omega) rfl fun h' e' I' hd=>h (List.range xs.length) us h' e' I' hd (.refl _) (by rw [WB];exact rv) ?_
  ·show ((ks.toArray.zip us.toArray)).map (·.2)=us.toArray;apply Array.toList_inj.mp;rw [Array.toList_map,ksk_zip];exact List.map_snd_zip (by simp;omega)
  ·have hx:xs.length<2:=by rw [List.size_toArray] at h2;omega
   have hr:xs.length=0∨xs.length=1:=by omega
   rcases hr with z|z
   ·rw [z];exact List.Pairwise.nil
   ·rw [z];exact List.pairwise_singleton _ _
 ·rw [if_neg h2,if_neg h2];have h2':2<=us.length:=by rw [List.size_toArray] at h2;omega
  have tup:∀ i,i<xs.length->∃ p ox t u n,ks.getD i Value.none = .ref p/\s1.heap.get? p=some ox/\ox.cls = .type "tuple"/\ox.data = .seq #[.int (kf i).1 t,.str (kf i).2 u] n:=fun i hi=>by
   obtain ⟨p,a1,a2⟩:=hK.at_ i (xs.getD i .non) (by rw [List.getElem?_eq_getElem hi];simp [hi]);obtain ⟨_,its,r,o,e1,e2,n,e3⟩:=I.hok p _ a2;obtain ⟨u1,u2,rfl,z1,z2⟩:=Yx r;obtain ⟨t,rfl⟩:∃ t,u1 = .int (kf i).1 t:=z1;obtain ⟨u,rfl⟩:∃ u,u2 = .str (kf i).2 u:=z2;exact ⟨p,o,t,u,n,by simp [a1],e1,e2,e3⟩
  have kt:∀{l:List Nat},(∀ i∈l,i<xs.length)->∃ fs,PySem.W.KatTups s1.heap (l.map fun i=>ks.getD i Value.none) fs/\fs.length=l.length/\∀ v∈fs,∃ i t,v=Value.int i t:=fun {l}=>by
   induction l with
   |nil=>exact fun _=>⟨[],.nil,rfl,fun v hv=>by simp at hv⟩
   |cons i l ih =>
    intro hl;obtain ⟨fs,b1,b2,b3⟩:=ih fun j hj=>hl j (List.mem_cons_of_mem _ hj);obtain ⟨p,ox,t,u,n,c1,c2,c3,c4⟩:=tup i (hl i List.mem_cons_self);refine ⟨Value.int (kf i).1 t::fs,?_,by rw [List.length_cons,List.length_cons,b2],fun v hv=>?_⟩
    ·rw [List.map_cons,c1];exact .cons c2 c3 c4 rfl b1
    ·rcases List.mem_cons.mp hv with z|z
     ·exact ⟨_,_,z⟩
     ·exact b3 v z
  obtain ⟨fs,f1,f2,f3⟩:=kt (l:=List.range ks.length) fun i hi=>by rw [List.mem_range,hK.len] at hi;exact hi
  rw [WB] at f1;rw [List.length_range] at f2;refine wpAny_bind (PySem.W.kat_kind (T:= .type "int") f1 (by omega) (fun v hv=>?_) rfl ?_)
  ·obtain ⟨i,t,rfl⟩:=f3 v hv;exact .now
  have O:=QZ fun i=>kf i;refine wpAny_bind (wpAny_mono (PySem.W.kat_run (vs:=us) (ks:=ks) (Q:=fun st' s'=>s'=s1/\∃ p:Array Nat,p.Perm (List.toArray (List.range us.length))/\p.size=us.length/\(∀ i j,i<=j->j<us.length->g9 (kf (p.getD j 0)) (kf (p.getD i 0))=false)/\arrOf st'=p.map (PySem.W.kas_item (ks.toArray.zip us.toArray))/\failedOf st'=none)
   (G:=fun p s'=>s'=s1/\p.Perm (List.toArray (List.range us.length))/\p.size=us.length/\∀ i j,i<=j->j<us.length->g9 (kf (p.getD j 0)) (kf (p.getD i 0))=false) hkl h2' (by omega)
   (fun p st' s' z1 z2 z3 z4=>⟨z4.1,p,z4.2.1,z4.2.2.1,z4.2.2.2,z2,z3⟩)
   (Ka.sort_wp O (by omega) (fun i j C hi hj hC=>?_) fun p z1 z2 z3=>⟨rfl,z1,z2,z3⟩)) (fun r s' hr=>?_) fun _ _ z=>z)
  ·obtain ⟨p,ox,t,u,n,c1,c2,c3,c4⟩:=tup i (by omega);obtain ⟨q,oy,t',u',m,d1,d2,d3,d4⟩:=tup j (by omega);show wpAny _ _ (keyLt' _ (ks.getD i Value.none) (ks.getD j Value.none)) C _ _;rw [c1,d1];exact Tw c2 c4 d2 d4 hC
  ·obtain ⟨⟨⟩,st⟩:=r;obtain ⟨rfl,p,q1,q2,q3,q4,q5⟩:=hr
   dsimp only
   have pl:p.toList.Perm (List.range us.length):=Array.perm_iff_toList_perm.mp q1;have lo:∀ i∈p.toList,i<xs.length:=fun i hi=>by
    have:=pl.mem_iff.mp hi;rw [List.mem_range] at this;omega
   refine Pi (out:=p.toList.map fun i=>us.getD i Value.none) (ks:=ks) I mD mK ne nD nK hD hk (PySem.W.kat_snds hkl q4) (by rw [List.length_map,Array.length_toList,q2];omega) (by omega) q5 fun h' e' I' hd=>h p.toList _ h' e' I' hd (by rw [<- hul];exact pl) (Py rv lo) ?_;rw [List.pairwise_iff_getElem];intro i j hi hj hij;rw [Array.length_toList,q2] at hi hj;have:=q3 i j (by omega) hj;have gi:∀ k,(hk:k<p.size)->p.getD k 0=p[k]:=fun k hk=>by simp [Array.getD,hk]
   rw [gi i (by omega),gi j (by omega)] at this;simpa using this
end
end L2
namespace L2
open PySem PySem.Spec PyProof.Rows
section
variable {X:Cx}{pins:List (Addr×Obj)}{Z:St}{H:Hp}{s:Shared}{A2:Around}{D kS f:Addr}{e1:Nat}{xs:List V}{us:List Value}{kf:Nat->Int×Str}{P:PySem.Fin->Shared->Prop}{E:Value->Shared->Prop}
def Vq (X:Cx)(pins:List (Addr×Obj))(Z:St)(H:Hp)(A2:Around)(f:Addr)(kf:Nat->Int×Str)(xs:List V):Prop:=∀(H':Hp)(s':Shared)(i:Nat)(x:V)(u:Value),xs[i]?=some x->RelV x u->Inv X pins Z H' s'->Grow H H' ->
 wpAny (model X.prog X.w) A2 (call (.ref f) [u]) (fun u' s''=>CE X.stack X.prog X.w H' s' (fun v H''=>Grow H' H''/\∃ p,v = .ref p/\H'' p=some (.tup [.int (kf i).1,.str (kf i).2])) u' s'') (fun _ _=>False) s'
theorem Re (I:Inv X pins Z H s)(mD:jy X pins D)(mK:jy X pins kS)(ne:D≠kS)(nD:H D=none)(nK:H kS=none)(hD:s.heap.get? D=some (seqObj "list" #[] e1))(hk:s.heap.get? kS=some (seqObj "list" #[] 0))(rv:Vals xs us)(h64:xs.length<64)(hkey:Vq X pins Z H A2 f kf xs)(h:YI X pins Z H kf D xs fun s'=>P (.done (.ret .none)) s'):wpAny (model X.prog X.w) A2 (ksk_rest D (.ref f) false us.toArray e1 (.ref kS)) P E s:=by
 have hul:us.length=xs.length:=rv.length.symm;unfold ksk_rest;refine wpAny_bind (wpAny_rule ?_)
 first
  |rw [List.forIn_toArray]
  |(rw [<- Array.forIn_toList];simp only [List.toList_toArray])
 refine wpAny_bind (ksk_fold (fun j s'=>∃ (H':Hp) (ks:List Value) (e:Nat),Inv X pins Z H' s'/\Grow H H'/\H' D=none/\H' kS=none/\s'.heap.get? D=some (seqObj "list" #[] e1)/\s'.heap.get? kS=some (seqObj "list" ks.toArray e)/\KeysIn kf H' (xs.take j) ks) us 0 s
  ⟨H,[],0,I,.refl,nD,nK,hD,hk,by rw [List.take_zero];exact .nil⟩ (fun j u s' hu hI=>?_) fun s' hI=>?_)
 ·rw [Nat.zero_add] at hI ⊢;obtain ⟨H',ks,e,I',g,n1,n2,d1,d2,kk⟩:=hI;have hj:j<us.length:=by
   rcases Nat.lt_or_ge j us.length with z|z
   ·exact z
   ·rw [List.getElem?_eq_none z] at hu;cases hu
  obtain ⟨x,hx,rx⟩:∃ x,xs[j]?=some x/\RelV x u:=by
   have z:=Yy (i:=j) rv (by omega);refine ⟨xs.getD j .non,by rw [List.getElem?_eq_getElem (by omega)];simp [show j<xs.length by omega],?_⟩;have e2:us.getD j Value.none=u:=by simp [hu]
   rw [e2] at z;exact z
  have lk:ks.length<64:=by rw [kk.len,List.length_take];omega
  refine wpAny_bind (wpAny_attempt (wpAny_mono (hkey H' s' j x u hx rx I' g) (fun u' s'' ce=>?_) fun _ _ z=>z.elim));have ep:=I'.after ce;obtain ⟨v,H'',os,bare,un,hok,r,g2,p,rfl,hp⟩:=ce;obtain rfl:u'=Value.ref p:=r;have I'':Inv X pins Z H'' s'':=by obtain ⟨hh,gg,dd,tt,os'⟩:=s'';obtain rfl:os'=s'.os:=os;exact I'.call (h':=hh) (g':=gg) (d':=dd) (t':=tt) (ch:=[]) un hok bare (fun b z=>absurd z (by simp))
  have d1':=un.keep D _ d1 n1 mD.nS (by simp);have d2':=un.keep kS _ d2 n2 mK.nS (by simp);have n1':=un.free D _ d1 n1 (by simp);have n2':=un.free kS _ d2 n2 (by simp);have ea:ks.toArray.push (.ref p)=(ks++[Value.ref p]).toArray:=by simp
  obtain ⟨c2,hc2⟩:∃ c2,(s''.heap.update kS (Obj.mapSeq (·.push (Value.ref p)))).get? kS=some (seqObj "list" (ks++[Value.ref p]).toArray c2):=⟨_,by rw [<- ea];exact get?_update_seq d2' (·.push (Value.ref p))⟩
  dsimp only
  refine wpAny_bind (listUpdate_at d2' rfl ?_ (by rw [List.size_toArray,sizeLine_eq];omega) (by show (ks.toArray.push (Value.ref p)).size<=_;rw [Array.size_push,List.size_toArray,sizeLine_eq];omega));refine wpAny_pure ⟨rfl,H'',ks++[Value.ref p],c2,I''.turn (t':=s''.toks) mK n2' fun c o n q=>QB n q,g.trans g2,n1',n2',QB ne d1',hc2,?_⟩;have et:xs.take (j+1)=xs.take j++[x]:=by rw [List.take_add_one,hx];rfl
  rw [et];exact kk.snoc g2 (by rw [List.length_take,Nat.min_eq_left (by omega)];exact hp)
 ·rw [Nat.zero_add] at hI;obtain ⟨H',ks,e,I',g,n1,n2,d1,d2,kk⟩:=hI;rw [hul,List.take_length] at kk;refine wpAny_bind (listItems_at d2 rfl ?_);exact end_K I' mD mK ne n1 n2 d1 d2 rv kk h64 fun l out h' e' J hd p r q=>h l out H' _ e' J g n1 hd p r q
theorem Tt {n:Nat}(I:Inv X pins Z H s)(mD:jy X pins D)(nD:H D=none)(hD:s.heap.get? D=some (seqObj "list" us.toArray n))(rv:Vals xs us)(h64:xs.length<64)(hkey:Vq X pins Z H A2 f kf xs)(h:YI X pins Z H kf D xs fun s'=>P (.done (.ret .none)) s'):wpAny (model X.prog X.w) A2 (ksk_tree D (.ref f) false) P E s:=by have hul:us.length=xs.length:=rv.length.symm;obtain ⟨e1,hD1⟩:∃ e1,(s.heap.update D (Obj.mapSeq fun _=>(#[]:Array Value))).get? D=some (seqObj "list" #[] e1):=⟨_,get?_update_seq hD fun _=>#[]⟩;have I1:=I.turn (t':=s.toks) mD nD (h':=s.heap.update D (Obj.mapSeq fun _=>(#[]:Array Value))) fun c o n q=>QB n q;have k2:∀ b o,(s.heap.update D (Obj.mapSeq fun _=>(#[]:Array Value))).get? b=some o->((s.heap.update D (Obj.mapSeq fun _=>(#[]:Array Value))).push (seqObj "tuple" us.toArray 0)).get? b=some o:=fun b o e=>Heap.get?_push_of_some _ e;have I2:=I1.kept (t':=s.toks) k2;have k3:∀ b o,((s.heap.update D (Obj.mapSeq fun _=>(#[]:Array Value))).push (seqObj "tuple" us.toArray 0)).get? b=some o->(((s.heap.update D (Obj.mapSeq fun _=>(#[]:Array Value))).push (seqObj "tuple" us.toArray 0)).push (seqObj "list" #[] 0)).get? b=some o:=fun b o e=>Heap.get?_push_of_some _ e;have I3:=I2.kept (t':=s.toks) k3;have mK:=I2.mine (b:=((s.heap.update D (Obj.mapSeq fun _=>(#[]:Array Value))).push (seqObj "tuple" us.toArray 0)).objs.size) (Nat.le_refl _);have nK:=I2.hok.fresh (a:=((s.heap.update D (Obj.mapSeq fun _=>(#[]:Array Value))).push (seqObj "tuple" us.toArray 0)).objs.size) (Nat.le_refl _);unfold ksk_tree;refine wpAny_bind (listItems_at hD rfl ?_);refine wpAny_bind (listUpdate_at hD rfl ?_ (by rw [List.size_toArray,sizeLine_eq];omega) (Nat.zero_le _));refine wpAny_bind (seqEpoch_at hD1 rfl ?_);refine wpAny_bind (wpAny_newTuple ?_ (by show us.length<=_;rw [sizeLine_eq];omega));refine wpAny_bind (wpAny_newList ?_ (Nat.zero_le _));refine wpAny_holding ?_;exact Re (s:={ s with heap:=((s.heap.update D (Obj.mapSeq fun _=>(#[]:Array Value))).push (seqObj "tuple" us.toArray 0)).push (seqObj "list" #[] 0) }) I3 mD mK (Nat.ne_of_lt (Heap.lt_size (k2 _ _ hD1))) nD nK (k3 _ _ (k2 _ _ hD1)) (Heap.get?_push_size _ rfl) rv h64 hkey h
end
end L2
namespace L2
open PySem PySem.Spec PyProof.Rows
section
variable {X:Cx}{pins:List (Addr×Obj)}{Z:St}{H:Hp}{s:Shared}{a f:Addr}{xs:List V}{kf:Nat->Int×Str}{Q:VK}{E:Value->Shared->Prop}
theorem CU (I:Inv X pins Z H s)(hl:SqL X.K H a xs)(h64:xs.length<64)(hkey:Vq X pins Z H X.A.in1.in1 f kf xs)(h:∀ (D:Addr) (l:List Nat) (H':Hp),Grow H H'->H' D=none->l.Perm (List.range xs.length)->l.Pairwise (fun a b=>g9 (kf b) (kf a)=false)->Q (.ref D) (v8 H' D (.lst (l.map fun i=>xs.getD i .non)))):wpAny (model X.prog X.w) X.A (call (.builtin "sorted") [.ref a] [(Str.ofString "key",.ref f)]) (EP X pins Z Q) E s:=by
 obtain ⟨us,rv,p,hz⟩:=I.list hl;have hul:us.length=xs.length:=rv.length.symm;refine call_function_entry_kw kind_sorted plain_sorted entry_sorted (ksk_s1 _ _) ?_;unfold Builtin.«sorted»;refine wpAny_bind (m:=checkCount "sorted" 1 1 _) (wpAny_pure ?_);refine wpAny_bind (collect_list p.isList ?_ (by rw [sizeLine_eq];omega));refine wpAny_bind (wpAny_newList ?_ (by rw [sizeLine_eq];omega));have keep:∀ b o,s.heap.get? b=some o->((s.heap.push (seqObj "list" #[] 0)).update s.heap.objs.size (Obj.mapSeq (·++us.toArray))).get? b=some o:=fun b o q=>by
  rw [Heap.get?_update_ne _ _ _ _ (Nat.ne_of_lt (Heap.lt_size q))];exact Heap.get?_push_of_some _ q
 have I1:=I.kept (t':=s.toks) keep;have k2:∀ b o,((s.heap.push (seqObj "list" #[] 0)).update s.heap.objs.size (Obj.mapSeq (·++us.toArray))).get? b=some o->(((s.heap.push (seqObj "list" #[] 0)).update s.heap.objs.size (Obj.mapSeq (·++us.toArray))).push (seqObj "list" us.toArray 0)).get? b=some o:=fun b o e=>Heap.get?_push_of_some _ e;have I2:=I1.kept (t':=s.toks) k2;have mD:=I1.mine (b:=((s.heap.push (seqObj "list" #[] 0)).update s.heap.objs.size (Obj.mapSeq (·++us.toArray))).objs.size) (Nat.le_refl _);have nD:=I1.hok.fresh (a:=((s.heap.push (seqObj "list" #[] 0)).update s.heap.objs.size (Obj.mapSeq (·++us.toArray))).objs.size) (Nat.le_refl _);have hoL:(((s.heap.push (seqObj "list" #[] 0)).update s.heap.objs.size (Obj.mapSeq (·++us.toArray))).push (seqObj "list" us.toArray 0)).get? ((s.heap.push (seqObj "list" #[] 0)).update s.heap.objs.size (Obj.mapSeq (·++us.toArray))).objs.size=some (seqObj "list" us.toArray 0):=Heap.get?_push_size _ rfl;refine wpAny_bind (wpAny_holding (wpAny_call_entry_kw slot_list_sort (s:={ s with heap:=((s.heap.push (seqObj "list" #[] 0)).update s.heap.objs.size (Obj.mapSeq (·++us.toArray))).push (seqObj "list" us.toArray 0) }) ⟨_,hoL,rfl⟩ entry_list_sort ?body (ksk_l1 _ _)));show wpAny (model X.prog X.w) X.A.in1.in1 (Builtin.«list.sort» ⟨[.ref _],[(Str.ofString "key",.ref f)]⟩) _ _ _;rw [ksk_t1];refine Tt (s:={ s with heap:=((s.heap.push (seqObj "list" #[] 0)).update s.heap.objs.size (Obj.mapSeq (·++us.toArray))).push (seqObj "list" us.toArray 0) }) (kf:=kf) I2 mD nD hoL rv h64 hkey fun l out H' s' e' J g n hd pm r pw=>⟨_,rfl,wpAny_pure ⟨_,rfl,.ref _,_,J.track mD.s0 n mD.nL mD.nC mD.nP (o:= .lst (l.map fun i=>xs.getD i .non)) ?_,rfl,h _ l H' g n pm pw⟩⟩;exact ⟨by rw [List.length_map,pm.length_eq,List.length_range];exact hz,out,e',r,hd⟩
end
end L2
namespace L2
open PySem PySem.Spec PySem.Calls PyProof.Rows
section
variable {P:Program}{w:World}{K:Fg}{mg:Str->Option Value}{base:Heap}
theorem Fun.okC {x qual:Str}{st:Stmt}{f:Addr}{fd:FuncData}{N ps:List Str}{k:Nat}{sp:Sp}(F:Fun K x qual st f fd)(S:y7 N ps (j8 st))(len:∀ vs H Q E,sp vs H Q E->vs.length=ps.length)(hbody:∀(A:Around)(outer:List Env)(s:Shared)(H:Hp)(vs:List V)(Q:VK)(E:XK),Room k (A.deeper (envOfC qual (j8 st) s.heap.objs.size f fd.code))->sp vs H Q E -> ∃ t,PSs (xP w6 P w K mg base N qual (j8 st) f fd.code A outer s H E).nox (qI st) t/\t { nx:=fun _ H'=>Q .non H',rt:=Q } (start N vs) H):FnOk P w K mg base w6 (k+1) f fd ps sp:=by obtain ⟨oc,od,kV,doc,pm,an,cdv,ct,osl,rfl,lk,hcd⟩:=F.ex;refine VY lk hcd S len fun A outer s H vs Q E hr hsp=>?_;obtain ⟨t,h,q⟩:=hbody A outer s H vs Q E hr hsp;exact ⟨t,h.nox,q⟩
end
theorem SqL.grow {K:Fg}{H H':Hp}{a:Addr}{xs:List V}(h:SqL K H a xs)(g:Grow H H'):SqL K H' a xs:=by
 rcases h with (h|⟨o,h⟩)|h
 ·exact .inl (.inl (g _ _ h))
 ·exact .inl (.inr ⟨o,g _ _ h⟩)
 ·exact .inr h
end L2
namespace L2
open PySem PySem.Spec PySem.Calls PyProof.Rows
section
variable {X:Cx}
def Pe (K:Fg)(fi:List Nat)(t:TA)(tb:TE):TE:=fun Z H Q=>t Z H fun vs H1=>∃(a:Addr)(xs:List V)(kf:Nat->Int×Str)(cv:List V),vs=[.ref a]/\(fi.map fun i=>Z[i]?)=cv.map (fun v=>some (some v))/\SqL K H1 a xs/\xs.length<64 /\
 (∀(i:Nat)(x:V),xs[i]?=some x->∀(H':Hp)(Q':VK),Grow H1 H'->(∀ p H'',Grow H' H''->H'' p=some (.tup [.int (kf i).1,.str (kf i).2])->Q' (.ref p) H'')->tb (([x]++cv).map some) H' Q') /\
 ∀(D:Addr)(l:List Nat)(H':Hp),Grow H1 H'->H' D=none->l.Perm (List.range xs.length)->l.Pairwise (fun a b=>g9 (kf b) (kf a)=false)->Q (.ref D) (v8 H' D (.lst (l.map fun i=>xs.getD i .non)))
structure PX (X:Cx)(scope:Scope)(clos:List (Str×Addr))(fr:List Str)(fi:List Nat):Prop where
 len:fi.length=fr.length
 at_:∀(j:Nat)(y:Str)(i:Nat),fr[j]?=some y->fi[j]?=some i->X.N[i]?=some y/\X.env.kindOf y=some .cell/\scope.names.lookup y=some .free/\Vis X.env.scope y
 sub:∀ y c,clos.lookup y=some c->X.env.cells.lookup y=some c
 has:∀ y c,y∈fr->X.env.cells.lookup y=some c->clos.lookup y=some c
theorem Ho {K:Fg}{e body:Expr}{t:TA}{tb:TE}{p pos kp lp:Pos}{params:Arguments}{scope:Scope}{x:Str}{c Pt:Addr}{ps:Array Value}{wt:List (Pos×Str)}{k:Nat}{clos:List (Str×Addr)}{fr:List Str}{fi:List Nat}(hK:X.K=K)(hr:Room (k+3) X.A)(hg:Gl X "sorted")(hm:X.mg "sorted"=none)(ha:PA X [e] t)(hP:(Pt,ps,wt)∈TABS)(hw:(lp,X.env.qual ++ "<lambda>")∈wt)(hu:∀ p∈wt,(p.1.line==lp.line&&p.1.col==lp.col)=true->p.2=X.env.qual ++ "<lambda>")(hcode:X.env.code = .ref c)(hC:∀ h:Heap,X.K.In h->PySem.W.CodeHd h c Pt)(S:XO [x] fr scope)(LF:PX X scope clos fr fi)(hb:∀ (f c':Addr) (s:Shared) (H:Hp),Room k (X.A.in1.in1.deeper (PySem.W.envX (X.env.qual ++ "<lambda>") scope s.heap.objs.size f (.ref c') clos))->PE (wH X.prog X.w X.K X.mg X.base ([x]++fr) (X.env.qual ++ "<lambda>") scope f c' clos X.A.in1.in1 X.stack s H) body tb)(hbd:∀ (qual:Str) (pm cdv ctv u:Value),bindArgs (PySem.W.kla_fn "<lambda>" qual params body scope clos pm cdv ctv) ⟨[u],[]⟩=pure [(x,u)])(hcl:closureFor scope X.env=pure clos:=by rfl)(hdef:defaultsOf params X.env=([],[]):=by rfl)(hs:backTo pos (starEach [e] X.env)=(false,eval e X.env)::backTo pos (starEach [] X.env):=by rfl)(hpl:(backTo pos (starEach [e] X.env)).any (·.1)=false:=by rfl):PE X (.Call (.Name "sorted" p) [e] [⟨some "key",.Lambda params body scope lp,kp⟩] pos) (Pe K fi t tb):=by
 subst hK;intro pins s Z H Q I h;refine wpAny_Call_Name_kw (jG I hg hm XY ?_ (by decide) (by decide));refine PyProof.Rows.callWith_kw (j6 (ha pos pins s Z H _ I h) fun us s1 ⟨vs,H1,I1,r1,q1⟩=>?_) hs hpl;obtain ⟨a,xs,kf,cv,rfl,hcv,hq,h64,qk,qe⟩:=q1;obtain ⟨u,rfl,ru⟩:=zH r1;obtain rfl:u=Value.ref a:=ru;refine PyProof.Rows.kws_cons (Kk I1 hP hw hu hcode (hC _ I1.mod.kin) hcl hdef fun f c' oc vs tq ctv H' h' tk I2 g _ hf hc hd hv=>PyProof.Rows.kws_nil ?_);show wpAny _ _ (call (.builtin "sorted") [.ref a] [(Str.ofString "key",Value.ref f)]) _ _ _;refine CU I2 (hq.grow g) h64 (kf:=kf) (fun H3 s3 i3 x3 u3 hx rx I3 g3=>?_) fun D l H3 g3 n pm pw=>qe D l H3 (Grow.trans g g3) n pm pw;obtain ⟨hf3,_⟩:=I3.hok f _ (g3 _ _ hf);obtain ⟨hc3,_⟩:=I3.hok c' _ (g3 _ _ hc);have room:=hr.in1.in1;have lcv:cv.length=fr.length:=by have z:=congrArg List.length hcv;rw [List.length_map,List.length_map] at z;rw [<- z,LF.len]
 refine wpAny_call (codeAny_mono (Kj (vs:=[x3]) (cv:=cv) (t:=tb) (E:=fun _ _ _=>False) (Q:=fun v H''=>Grow H3 H''/\∃ p,v = .ref p/\H'' p=some (.tup [.int (kf i3).1,.str (kf i3).2])) S room.depth room.hd I3.env0.in1.in1 hf3 ⟨c',oc,vs,tq,rfl,hc3,hd,hv⟩ (hbd _ _ _ _ _) rfl (.cons rx .nil)
  (fun y z d e1 e2=>I3.ok.inj y z d (LF.sub y d e1) (LF.sub z d e2)) (fun y d e1=>⟨I3.cell y d (LF.sub y d e1),I3.freeC y d (LF.sub y d e1)⟩) lcv
  (fun j y v e1 e2=>?_) (hb f c' s3 H3 (room.deeper _)) (qk i3 x3 hx H3 _ (Grow.trans g g3) fun p H'' g4 hp=>⟨g4,p,rfl,hp⟩)) fun r s' z=>?_)
 ·have hj:j<fi.length:=by
   rw [LF.len];rcases Nat.lt_or_ge j fr.length with q|q
   ·exact q
   ·rw [List.getElem?_eq_none q] at e1;cases e1
  obtain ⟨n1,n2,n3,n4⟩:=LF.at_ j y fi[j] e1 (List.getElem?_eq_getElem hj);have es:Z[fi[j]]?=some (some v):=by have z:=congrArg (fun l=>l[j]?) hcv;simp only [List.getElem?_map,e2,List.getElem?_eq_getElem hj,Option.map_some,Option.some.injEq] at z;exact z
  obtain ⟨m,_,lk⟩:=I3.loc;obtain ⟨u,rv,look⟩:=lk fi[j] y v n1 es n4;refine ⟨n3,?_⟩;rcases look with ⟨q,_⟩|⟨_,d,q1,q2⟩
  ·rw [n2] at q;cases q
  ·exact ⟨d,u,LF.has y d (List.mem_of_getElem? e1) q1,q2,rv⟩
 ·cases r with
  |error e=>exact z.elim
  |ok fl =>
   cases fl with
   |ret u=>exact z
   |next=>exact False.elim z
   |brk=>exact False.elim z
   |cont=>exact False.elim z
end
end L2
namespace Mi
open PySem L2
def Wi:PV->Option (Int×Str)
 | .tup [.at (.int i),.at (.str n)]=>some (i,n)
 |_=>none
theorem ML {y:PV}{k:Int×Str}(h:Wi y=some k):y = .tup [.at (.int k.1),.at (.str k.2)]:=by
 unfold Wi at h;split at h
 ·cases h;rfl
 ·cases h
def vK (kb:PV->Option PV):List PV->Option (List (Int×Str))
 |[]=>some []
 |x::xs=>((kb x).bind Wi).bind fun k=>(vK kb xs).map (k::·)
theorem Kf {kb:PV->Option PV}:∀{xs:List PV}{ks:List (Int×Str)},vK kb xs=some ks->ks.length=xs.length
 |[],ks,h=>by cases h;rfl
 |x::xs,ks,h=>by
  obtain ⟨k,_,h2⟩:=Option.bind_eq_some_iff.mp h;obtain ⟨r,h3,rfl⟩:=Option.map_eq_some_iff.mp h2;rw [List.length_cons,List.length_cons,Kf h3]
theorem Ke {kb:PV->Option PV}:∀{xs:List PV}{ks:List (Int×Str)}{i:Nat}{x:PV},vK kb xs=some ks->xs[i]?=some x->∃ k,ks[i]?=some k/\kb x=some (.tup [.at (.int k.1),.at (.str k.2)])
 |[],_,_,_,_,e=>by simp at e
 |y::xs,ks,0,x,h,e=>by
  obtain ⟨k,h1,h2⟩:=Option.bind_eq_some_iff.mp h;obtain ⟨r,h3,rfl⟩:=Option.map_eq_some_iff.mp h2;obtain ⟨z,h4,h5⟩:=Option.bind_eq_some_iff.mp h1;simp at e;subst e;exact ⟨k,rfl,by rw [h4,ML h5]⟩
 |y::xs,ks,i+1,x,h,e=>by
  obtain ⟨k,h1,h2⟩:=Option.bind_eq_some_iff.mp h;obtain ⟨r,h3,rfl⟩:=Option.map_eq_some_iff.mp h2;obtain ⟨k',a,b⟩:=Ke (i:=i) h3 (by simpa using e);exact ⟨k',by simpa using a,b⟩
def xp (ks:List (Int×Str))(i:Nat):Int×Str:=ks.getD i (0, "")
def leI (ks:List (Int×Str))(a b:Nat):Bool:=!g9 (xp ks b) (xp ks a)
def vo (ks:List (Int×Str)):List Nat:=(List.range ks.length).mergeSort (leI ks)
theorem XC (ks:List (Int×Str)):(vo ks).Perm (List.range ks.length):=List.mergeSort_perm _ _
theorem BO (ks:List (Int×Str)):(vo ks).Pairwise fun a b=>g9 (xp ks b) (xp ks a)=false:=by
 have O:=QZ (xp ks);have:=List.pairwise_mergeSort (le:=leI ks) (fun a b c h1 h2=>by
  unfold leI at h1 h2 ⊢;simp only [Bool.not_eq_true'] at h1 h2 ⊢;exact Ka.le_trans (lt:=fun i j=>g9 (xp ks i) (xp ks j)) O (a:=a) (b:=b) (c:=c) h1 h2) (fun a b=>by
  unfold leI;cases h:g9 (xp ks b) (xp ks a) with
  |false=>rfl
  |true =>
   have h2:g9 (xp ks a) (xp ks b)=false:=Ka.le_of_lt (lt:=fun i j=>g9 (xp ks i) (xp ks j)) O (a:=b) (b:=a) h;rw [h2];rfl) (List.range ks.length)
 exact this.imp fun h=>by unfold leI at h;simpa using h
theorem Kw {p q:Int×Str}(h1:g9 p q=false)(h2:g9 q p=false):p=q:=by
 have n1:¬ (p.1<q.1∨(p.1=q.1/\p.2.cps.toList<q.2.cps.toList)):=fun z=>by rw [ltK_iff.mpr z] at h1;cases h1
 have n2:¬ (q.1<p.1∨(q.1=p.1/\q.2.cps.toList<p.2.cps.toList)):=fun z=>by rw [ltK_iff.mpr z] at h2;cases h2
 have e1:p.1=q.1:=by omega
 have e2:p.2.cps.toList=q.2.cps.toList:=List.le_antisymm (List.not_lt.mp fun z=>n2 (.inr ⟨e1.symm,z⟩)) (List.not_lt.mp fun z=>n1 (.inr ⟨e1,z⟩));obtain ⟨i,⟨s⟩⟩:=p;obtain ⟨j,⟨t⟩⟩:=q;cases e1;cases Array.toList_inj.mp e2;rfl
theorem Tj {ks:List (Int×Str)}(nd:ks.Nodup){l:List Nat}(p:l.Perm (List.range ks.length))(u:l.Pairwise fun a b=>g9 (xp ks b) (xp ks a)=false):l=vo ks :=
 List.Perm.eq_of_pairwise (fun a b ha hb h1 h2=>by
  have la:a<ks.length:=List.mem_range.mp (p.mem_iff.mp ha);have lb:b<ks.length:=List.mem_range.mp ((XC ks).mem_iff.mp hb);have e:=Kw h2 h1;unfold xp at e;simp only [List.getD_eq_getElem?_getD,List.getElem?_eq_getElem la,List.getElem?_eq_getElem lb,Option.getD_some] at e;have nd':=List.pairwise_iff_getElem.mp nd;rcases Nat.lt_trichotomy a b with z|z|z
  ·exact absurd e (nd' a b la lb z)
  ·exact z
  ·exact absurd e.symm (nd' b a lb la z)) u (BO ks) (p.trans (XC ks).symm)
def WI (kb:PV->Option PV):List PV->Option PV
 |[.lst xs]=>(vK kb xs).bind fun ks=>if xs.length<64/\ks.Nodup then some (.lst ((vo ks).map fun i=>xs.getD i (.at .non))) else none
 |_=>none
theorem Bz {H:Hp}{xs:List PV}{vs:List V}(r:Reps H xs vs):∀{l:List Nat},(∀ i∈l,i<xs.length)->Reps H (l.map fun i=>xs.getD i (.at .non)) (l.map fun i=>vs.getD i .non)
 |[],_=> .nil
 |i::l,h=>by
  have hi:=h i List.mem_cons_self;obtain ⟨v,e1,e2⟩:=r.get (i:=i) (x:=xs.getD i (.at .non)) (by rw [List.getElem?_eq_getElem hi];simp [hi]);refine .cons ?_ (Bz r fun j hj=>h j (List.mem_cons_of_mem _ hj));have:vs.getD i .non=v:=by simp [e1]
  show Rep H (xs.getD i (.at .non)) (vs.getD i .non);rw [this];exact e2
section
variable {K:Fg}{t:TA}{tb:TE}{as:MA}{kb:M}
def shs (ε:ME):List Nat->Option (List PV)
 |[]=>some []
 |i::l=>match ε[i]? with
  |some (.sh x)=>(shs ε l).map (x::·)
  |_=>none
theorem BL {Hs0 H0 Hs H:Hp}{Z:St}{ε:ME}(r:RS Hs0 H0 Hs H Z ε):∀{l:List Nat}{cs:List PV},shs ε l=some cs->∃ cv,(l.map fun i=>Z[i]?)=cv.map (fun v=>some (some v))/\Reps Hs cs cv
 |[],_,h=>by cases h;exact ⟨[],rfl,.nil⟩
 |i::l,cs,h=>by
  unfold shs at h;split at h
  ·rename_i x hx;obtain ⟨r',h2,rfl⟩:=Option.map_eq_some_iff.mp h;obtain ⟨v,e1,e2⟩:=r.sh i x hx;obtain ⟨cv,e3,e4⟩:=BL r h2;exact ⟨v::cv,by rw [List.map_cons,List.map_cons,e1,e3],.cons e2 e4⟩
  ·cases h
def Gx (fi:List Nat)(as:MA)(kb:M):M:=fun ε=>(shs ε fi).bind fun cs=>(as ε).bind (WI fun x=>kb (.sh x::cs.map .sh))
instance {fi:List Nat}[sa:xy t as][sb:SemE tb kb]:zi (Pe K fi t tb) (Gx fi as kb) where
 h:=fun {ε y} h {Hs0 H0 Hs H Z} rs {Q} q=>by
  obtain ⟨cs,h0,h⟩:=Option.bind_eq_some_iff.mp h;obtain ⟨ys,h1,h2⟩:=Option.bind_eq_some_iff.mp h;unfold WI at h2;split at h2
  ·rename_i xs;obtain ⟨ks,h3,h4⟩:=Option.bind_eq_some_iff.mp h2;split at h4
   ·rename_i hc;cases h4;obtain ⟨cv,ec,rc⟩:=BL rs h0;refine sa.h h1 rs fun vs Hs1 H1 x1 r1=>?_;obtain ⟨v,w,rfl,p1,p2⟩:=reps_cons.mp r1;cases reps_nil.mp p2;obtain ⟨a,xv,rfl,e1,e2⟩:=rep_lst.mp p1;have lx:xv.length=xs.length:=e2.length;have lk:ks.length=xs.length:=Kf h3;refine ⟨a,xv,xp ks,cv,rfl,ec,SqL.of (x1.s3 _ _ e1),by omega,fun i x hx H' Q' g hq=>?_,fun D l H' g n pm pw=>?_⟩
    ·have hi:i<xs.length:=by
      rcases Nat.lt_or_ge i xv.length with z|z
      ·omega
      ·rw [List.getElem?_eq_none z] at hx;cases hx
     obtain ⟨x',e3,e4⟩:=e2.get (i:=i) (x:=xs[i]) (List.getElem?_eq_getElem hi);rw [hx] at e3;cases e3;obtain ⟨k,e5,e6⟩:=Ke h3 (List.getElem?_eq_getElem hi);have ek:xp ks i=k:=by unfold xp;simp [e5]
     have st:=vn (N:=List.replicate (([x]++cv).length) "") (xs:=xs[i]::cs) (vs:=x::cv) (show Same Hs1 H' from fun b o e=>g b o (x1.s3 b o e)) (.cons e4 (rc.mono x1.s1));have lc:cv.length=cs.length:=rc.length;refine sb.h e6 (Z:=([x]++cv).map some) (Hs0:=Hs1) (H0:=H') (Hs:=Hs1) ?_ fun v Hs2 H2 x2 r2=>?_
     ·simpa [L2.start,lc] using st
     ·obtain ⟨p,us,rfl,e7,e8⟩:=rep_tup.mp r2;have e9:=e8;rw [show [PV.at (.int k.1),PV.at (.str k.2)]=[V.int k.1,V.str k.2].map .at from rfl] at e9;cases Reps.ats e9;exact hq p H2 (fun b o e=>x2.s2 b o e) (by rw [ek];exact x2.s3 _ _ e7)
    ·have el:l=vo ks:=Tj hc.2 (by rw [lk,<- lx];exact pm) pw;subst el;have nH1:H1 D=none:=by
      cases z:H1 D with
      |none=>rfl
      |some o=>rw [g D o z] at n;cases n
     have nH:H D=none:=x1.s2.free nH1;have nS:Hs1 D=none:=x1.s3.free nH1;refine q D Hs1 _ (x1.trans ⟨.refl _,fun b o e=>?_,fun b o e=>?_,fun _ _ z=>z⟩) nH nS ⟨_,u8,Bz e2 fun i hi=>?_⟩
     ·rw [j7 (p5 (g b o e) n)];exact g b o e
     ·have e':=g b o (x1.s3 b o e);rw [j7 (p5 e' n)];exact e'
     ·have:=List.mem_range.mp ((XC ks).mem_iff.mp hi);omega
   ·cases h4
  ·cases h2
end
end Mi
namespace Mi
open PySem L2 PyProof.Rows
section
variable {P:Program}{w:World}{K:Fg}{mg:Str->Option Value}{base:Heap}
theorem okOC {x qual:Str}{st:Stmt}{f:Addr}{fd:FuncData}{N ps:List Str}{k:Nat}{b:MS}{m:List PV->Option PV}(F:Fun K x qual st f fd)(S:y7 N ps (j8 st))(hm:m=qN N.length ps.length b)(hb:∀(A:Around)(outer:List Env)(s:Shared)(H:Hp)(E:XK),Room k (A.deeper (envOfC qual (j8 st) s.heap.objs.size f fd.code)) -> ∃ t,PSs (xP w6 P w K mg base N qual (j8 st) f fd.code A outer s H E).nox (qI st) t/\SemS true t b):FnOk P w K mg base w6 (k+1) f fd ps (m9 m):=by
 subst hm;refine F.okC S (fun vs H Q E h=>?_) (fun A outer s H vs Q E hr h=>?_)
 ·obtain ⟨Hs,xs,y,_,r,e,_⟩:=h;unfold qN at e;split at e
  ·rename_i hl;rw [r.length];exact hl
  ·cases e
 ·obtain ⟨Hs,xs,y,sm,r,e,q⟩:=h;obtain ⟨t,ht,sem⟩:=hb A outer s H E hr;refine ⟨t,ht,?_⟩;unfold qN at e;split at e
  ·rename_i hl;obtain ⟨o,eo,e1⟩:=bind_some e;refine sem.h eo (by rw [<- hl];exact vn sm r) ?_;cases o with
   |rt z=>cases e1;exact fun a Hs' H' x n n' t=>q a Hs' H' x n n' t
   |nx ε=>cases e1
   |bk ε=>cases e1
   |ct ε=>cases e1
  ·cases e
end
end Mi
namespace L2
open PySem PySem.Spec PyProof.Rows
section
variable {X:Cx}{K:Fg}
def Bj (K:Fg):V->List V->Hp->VK->Prop:=fun o vs H Q=>∃ p xs x j,o = .ref p/\vs=[x]/\SqL K H p xs/\p7 x=true/\xs.all p7=true/\xs.length<=1000000/\(xs[j]?.map fun y=>qu y x)=some true/\(∀(m:Nat)(y:V),m<j->xs[m]?=some y->qu y x=false)/\Q (.int j) H
theorem VS {x:V}:∀{xs:List V}{us:List Value}{i:Nat}{y:V},Vals xs us->xs.all p7=true->xs[i]?=some y->∃ u,us[i]?=some u/\eqU x u=qu y x
 |_,_,_,_,.nil,_,h=>by simp at h
 |z::xs,u::us,0,y,.cons r t,f,h=>by
  rw [List.all_cons,Bool.and_eq_true] at f;cases h;exact ⟨u,rfl,VR r f.1⟩
 |z::xs,u::us,i+1,y,.cons r t,f,h=>by
  rw [List.all_cons,Bool.and_eq_true] at f;exact VS (i:=i) t f.2 (by simpa using h)
theorem KC (hK:X.K=K):MtM X "list.index" (Bj K):=by
 subst hK;intro pins s Z H o vs v us Q I ro rv h;obtain ⟨p,xs,x,j,rfl,rfl,hq,fx,fs,hl,hj,hno,q⟩:=h;cases ro;obtain ⟨u,rfl,ru⟩:=rv.one;obtain ⟨its,r,⟨⟨cls,dd,data,sl⟩,n,ho,hc,hd,hs⟩,hz⟩:=I.list hq;simp only at hc hd hs;subst hc hd hs;obtain ⟨y,hy,hyt⟩:=Option.map_eq_some_iff.mp hj;obtain ⟨w,hw,ew⟩:=VS (x:=x) r fs hy;have hlen:=r.length;have jl:j<its.length:=(List.getElem?_eq_some_iff.mp hw).1;have ej:its.toArray[j]'(by simpa using jl)=w:=by have:=(List.getElem?_eq_some_iff.mp hw).2;simpa using this
 refine call_meets F.slot_list_index ⟨_,ho,rfl⟩ F.entry_list_index (F.args_list_index_2 _ _)
  (SeqAt.list_indexAt p its.toArray n none sl u (eqU x) j (by simpa using jl) (by omega) (by rw [ej,ew];exact hyt) (fun m hm hmj=>?_)) ⟨ho,fun w hw=>ZN ru fx r fs w (by simpa using hw),?_⟩
 ·have ml:m<its.length:=by simpa using hm
  obtain ⟨z,hz⟩:∃ z,xs[m]?=some z:=⟨xs[m]'(by omega),List.getElem?_eq_getElem _⟩;obtain ⟨w2,hw2,ew2⟩:=VS (x:=x) r fs hz;have:its.toArray[m]'hm=w2:=by have:=(List.getElem?_eq_some_iff.mp hw2).2;simpa using this
  rw [this,ew2];exact hno m z hmj hz
 ·exact ⟨.int j,H,I.kept (t':=s.toks+1) fun b o e=>e,⟨_,rfl⟩,q⟩
theorem Tx (l b:Addr)(i j:Int)(x y:Str)(t u t' u':Tok)(n n2:Nat)(dd dd2:Option Addr)(sl sl2:Array (Option Value)):Meets (Builtin.«tuple.__lt__» ⟨[.ref l,.ref b],[]⟩) (fun _ R s=>s.heap.get? l=some { cls:= .type "tuple",dict:=dd,data:= .seq #[.int i t,.str x u] n,slots:=sl }/\s.heap.get? b=some { cls:= .type "tuple",dict:=dd2,data:= .seq #[.int j t',.str y u'] n2,slots:=sl2 } /\ R (.ok (.ret (.bool (g9 (i,x) (j,y))))) s) :=
 .of_wp fun prog w A R s h=>by
  obtain ⟨hp,g,d,tk,os⟩:=s;obtain ⟨hl,hb,h⟩:=h;have f2:=AutoSeq1.sub_tuple_tuple
  wp_walk using wpAny_loadPart' hl,wpAny_loadPart' hb
  show wpAny _ _ (eqBool (.int i t) (.int j t')) _ _ _;refine wpAny_eqBool_int ?_;by_cases e:i=j
  ·subst e;rw [beq_self_eq_true]
   wp_walk
   show wpAny _ _ (eqBool (.str x u) (.str y u')) _ _ _;refine wpAny_eqBool_str ?_;by_cases e2:x=y
   ·subst e2;rw [decide_eq_true rfl]
    wp_walk
    refine ⟨_,rfl,?_⟩;have z:g9 (i,x) (i,x)=false:=(QZ fun _=>(i,x)).irr 0;rw [z] at h;exact h
   ·rw [decide_eq_false e2];refine wpAny_bind (wpAny_rule (wpAny_bind (show wpAny _ _ (richCompare .Lt (.str x u) (.str y u')) _ _ _ from PyProof.Rows.lt_str ?_)))
    wp_walk
    refine ⟨_,rfl,?_⟩;have z:g9 (i,x) (i,y)=decide (x.cps.toList<y.cps.toList):=by unfold g9;simp
    rw [z] at h;exact h
  ·have e':(i==j)=false:=by simpa using e
   rw [e'];refine wpAny_bind (wpAny_rule (wpAny_bind (show wpAny _ _ (richCompare .Lt (.int i t) (.int j t')) _ _ _ from PyProof.Rows.lt_int ?_)))
   wp_walk
   refine ⟨_,rfl,?_⟩;have z:g9 (i,x) (j,y)=decide (i<j):=by unfold g9;simp [e']
   rw [z] at h;exact h
end
end L2
namespace L2
open PySem PySem.Spec PyProof.Rows
section
variable {X:Cx}{K:Fg}
def rLtP (K:Fg):R2:=fun x y H Q=>∃ p q i a j b,x = .ref p/\y = .ref q/\SqT K H p [.int i,.str a]/\SqT K H q [.int j,.str b]/\Q (.bl (g9 (i,a) (j,b))) H
theorem Px {i:Int}{a:Str}{us:List Value}(r:Vals [.int i,.str a] us):∃ t u,us=[.int i t,.str a u]:=by
 cases r with
 |cons p q =>
  cases q with
  |cons p' q'=>cases q';obtain ⟨t,rfl⟩:=p;obtain ⟨u,rfl⟩:=p';exact ⟨t,u,rfl⟩
theorem KJ (hu:X.A.units+1<cLine)(hK:X.K=K):OpR X (compareOp .Lt) (rLtP K):=by
 subst hK;intro pins s Z H x y v u Q I rx ry h;obtain ⟨p,q,i,a,j,b,rfl,rfl,h1,h2,k⟩:=h;cases rx;cases ry;obtain ⟨its,r,hl,_⟩:=I.tuple h1;obtain ⟨its2,r2,hl2,_⟩:=I.tuple h2;obtain ⟨t,u,rfl⟩:=Px r;obtain ⟨t',u',rfl⟩:=Px r2;obtain ⟨⟨cls,dd,data,sl⟩,ho,hc,n,hd⟩:=id hl;obtain ⟨⟨cls2,dd2,data2,sl2⟩,ho2,hc2,n2,hd2⟩:=id hl2;simp only at hc hd hc2 hd2;subst hc hd hc2 hd2;exact richCompare_meets_room (op:= .Lt) ⟨_,ho,rfl⟩ ⟨_,ho2,rfl⟩ F.slot_tuple_lt F.entry_tuple_lt (F.args_tuple_lt_2 _ _) (Tx p q i j a b t u t' u' n n2 dd dd2 sl sl2)
  ⟨ho,ho2,show Value.bool (g9 (i,a) (j,b))≠Value.notImplemented/\EP X pins Z Q (.bool (g9 (i,a) (j,b))) s from ⟨(fun x=>nomatch x),.bl _,H,I,rfl,k⟩⟩ (by omega)
end
end L2
namespace Mi
open PySem L2
variable {fr:Bool}
def pLtP:PV->PV->Option PV
 | .tup [.at (.int i),.at (.str x)],.tup [.at (.int j),.at (.str y)]=>some (.at (.bl (g9 (i,x) (j,y))))
 |_,_=>none
theorem By {H:Hp}{i:Int}{x:Str}{vs:List V}(r:Reps H [.at (.int i),.at (.str x)] vs):vs=[.int i,.str x]:=Reps.ats (us:=[.int i,.str x]) r
instance {K:Fg}:xT (rLtP K) pLtP where
 h:=fun {x y z} e {Hs H v w} s a b {Q} q=>by
  unfold pLtP at e;split at e
  ·cases e;obtain ⟨p,vs,rfl,e1,r1⟩:=xF s a;obtain ⟨p',ws,rfl,e2,r2⟩:=xF s b;rw [By r1] at e1;rw [By r2] at e2;exact ⟨p,p',_,_,_,_,rfl,rfl,SqT.of e1,SqT.of e2,q _ _ _ (.refl s) (rep_at.mpr rfl)⟩
  ·cases e
def pRep:PV->PV->Option PV
 | .lst xs,.at (.int k)=>if -(lim:Int)<=k/\k<=lim/\xs.length*k.toNat<=lim then some (.lst (List.replicate k.toNat xs).flatten) else none
 |_,_=>none
theorem Reps.rep {H:Hp}{xs:List PV}{vs:List V}(r:Reps H xs vs):∀ k:Nat,Reps H (List.replicate k xs).flatten (List.replicate k vs).flatten
 |0=> .nil
 |k+1=>by
  rw [List.replicate_succ,List.replicate_succ,List.flatten_cons,List.flatten_cons];exact r.append (Reps.rep r k)
instance:YG rRep pRep where
 h:=fun {x y z} e {Hs H v w} s a b {Q} q=>by
  unfold pRep at e;split at e
  ·split at e
   ·rename_i xs k hl;cases e;obtain ⟨p,vs,rfl,e1,r1⟩:=qK s a;cases m8 b;have hlim:(lim:Int)=1000000:=rfl;exact ⟨p,k,vs,rfl,rfl,e1,by omega,by omega,zk (by rw [r1.length];exact hl.2.2),fun l hl=>q l _ _ (.newO s hl) hl (s.free hl) ⟨_,u8,r1.rep _⟩⟩
   ·cases e
  ·cases e
def wX (u:V):List V->Option Nat
 |[]=>none
 |y::ys=>if qu y u=true then some 0 else (wX u ys).map (·+1)
theorem GR {u:V}:∀{us:List V}{j:Nat},wX u us=some j->(us[j]?.map fun y=>qu y u)=some true/\∀(m:Nat)(y:V),m<j->us[m]?=some y->qu y u=false
 |[],_,h=>by cases h
 |y::ys,j,h=>by
  unfold wX at h;split at h
  ·rename_i hy;cases h;exact ⟨by simp [hy],fun m y hm=>absurd hm (Nat.not_lt_zero _)⟩
  ·rename_i hy;obtain ⟨k,hk,rfl⟩:=Option.map_eq_some_iff.mp h;obtain ⟨h1,h2⟩:=GR hk;refine ⟨by simpa using h1,fun m z hm hz=>?_⟩;cases m with
   |zero=>cases hz;simpa using hy
   |succ m=>exact h2 m z (by omega) (by simpa using hz)
def jB (a b:M):M:=fun ε=>(a ε).bind fun x=>(b ε).bind fun y=>match x,y with
 | .lst xs,.at u=>(ats xs).bind fun us=>if p7 u=true/\us.all p7=true/\us.length<=lim then (wX u us).map fun (j:Nat)=>PV.at (.int (j:Int)) else none
 |_,_=>none
instance {K:Fg}{to te:TE}{a b:M}[sa:qr to a][sb:SemE te b]:SemE (tBM K "list" (Bj K) to (o8 te qp)) (jB a b) where
 h:=fun e _ _ _ _ _ rs _ q=>by
  obtain ⟨x,ex,e⟩:=bind_some e;obtain ⟨y,ey,e⟩:=bind_some e;split at e
  ·rename_i xs u;obtain ⟨us,eu,e⟩:=bind_some e;split at e
   ·rename_i hf;obtain ⟨j,hj,rfl⟩:=Option.map_eq_some_iff.mp e;refine sa.h ex rs fun v Hs1 H1 x1 r1=>?_;obtain ⟨p,vs,rfl,e1,r2⟩:=qK x1.s3 r1;rw [XT eu] at r2;cases r2.ats;refine ⟨.inl ⟨rfl,_,SqL.of e1⟩,sb.h ey (rs.go x1) fun w Hs2 H2 x2 r3=>?_⟩;cases rep_at.mp r3;obtain ⟨j1,j2⟩:=GR hj;exact ⟨p,us,_,j,rfl,rfl,SqL.of (x2.s2 _ _ e1),hf.1,hf.2.1,hf.2.2,j1,j2,q _ _ _ (x1.trans x2) (rep_at.mpr rfl)⟩
   ·cases e
  ·cases e
end Mi
namespace Mi
open PySem L2
def fndR (g:MG)(f:MS)(xs:List PV)(ε:ME)(I:ME->Prop):Option PV->Prop
 |some y=>qi g f xs ε=some (.rt y)
 |none=>∃ ε',qi g f xs ε=some (.nx ε')/\I ε'
def stpR (f:MS)(ε:ME)(I:ME->Prop):Option PV->Prop
 |some y=>f ε=some (.rt y)
 |none=>∃ ε',f ε=some (.nx ε')/\I ε'
theorem Ws {g:MG}{f:MS}{α:Type}(F:α->PV)(I:ME->Prop)(r:α->Option PV):∀(l:List α)(_:∀ a∈l,∀ ε,I ε->∃ ε1,g (F a) ε=some ε1/\stpR f ε1 I (r a))(ε:ME),I ε->fndR g f (l.map F) ε I (l.findSome? r)
 |[],_,ε,i=>⟨ε,rfl,i⟩
 |a::l,h,ε,i=>by
  obtain ⟨ε1,e1,s⟩:=h a List.mem_cons_self ε i;have ih:=Ws F I r l fun b hb=>h b (List.mem_cons_of_mem _ hb);rw [List.findSome?_cons];have st:∀ o,f ε1=some o->qi g f ((a::l).map F) ε=match o with
   | .nx ε2=>qi g f (l.map F) ε2
   | .ct ε2=>qi g f (l.map F) ε2
   | .bk ε2=>some (.nx ε2)
   | .rt y=>some (.rt y):=fun o eo=>by
   show Option.bind (g (F a) ε) (fun ε1=>Option.bind (f ε1) fun o=>match o with
    | .nx ε2=>qi g f (l.map F) ε2
    | .ct ε2=>qi g f (l.map F) ε2
    | .bk ε2=>some (.nx ε2)
    | .rt y=>some (.rt y))=_
   rw [e1,Option.bind_some,eo];rfl
  cases hr:r a with
  |some y=>rw [hr] at s;exact st _ s
  |none=>rw [hr] at s;obtain ⟨ε2,e2,i2⟩:=s;have:=st _ e2;have q:=ih ε2 i2;unfold fndR at q ⊢;rw [this];exact q
theorem DG {it:MA}{g:MG}{f:MS}{xs:List PV}{ε:ME}{I:ME->Prop}{o:Option PV}(h:it ε=some xs)(k:fndR g f xs ε I o):stpR (xV it g f) ε I o:=by
 cases o with
 |some y=>exact zd h k
 |none=>obtain ⟨ε',e,i⟩:=k;exact ⟨ε',zd h e,i⟩
end Mi
namespace L2
open PySem PySem.Spec PySem.Calls PyProof.Rows
structure FrzFn (H:Hp)(f:Addr):Prop where
 ex:∃(oc:Value)(od:Option Addr)(fd:FuncData)(sl:Array (Option Value))(u:HO),H f=some (.frz ⟨oc,od,.func fd,sl⟩ u)
theorem FrzFn.mono {H H':Hp}{f:Addr}(F:FrzFn H f)(g:∀ b o,H b=some o->H' b=some o):FrzFn H' f:=by obtain ⟨oc,od,fd,sl,u,e⟩:=F.ex;exact ⟨oc,od,fd,sl,u,g _ _ e⟩
def LamF (P:Program)(w:World)(K:Fg)(mg:Str->Option Value)(base:Heap)(k n:Nat)(tb:TE)(H:Hp)(f c:Addr):Prop :=
 FrzFn H f/\(∃(oc:Obj)(u:HO),H c=some (.frz oc u))/\∀(A:Around)(outer:List Env)(s:Shared)(H2:Hp)(us:List Value)(vs:List V)(Q:VK)(E:XK),Room (k+1) A->Env0 P w K mg base A outer s H2->H2 f=H f->H2 c=H c->Vals vs us->vs.length=n ->
  tb (vs.map some) H2 Q->codeAny (model P w) A (.call (.ref f) ⟨us,[]⟩) (CR w6 outer P w H2 s Q E) s
def XF (P:Program)(w:World)(K:Fg)(mg:Str->Option Value)(base:Heap)(k n:Nat)(tb:TE):TE:=fun _ H Q=>∀(f c:Addr)(H':Hp),(∀ b o,H b=some o->H' b=some o)->LamF P w K mg base k n tb H' f c->Q (.ref f) H'
section
variable {X:Cx}
theorem Hi {body:Expr}{tb:TE}{lp:Pos}{params:Arguments}{scope:Scope}{ps:List Str}{c Pt:Addr}{pt:Array Value}{wt:List (Pos×Str)}{k n:Nat}(hP:(Pt,pt,wt)∈TABS)(hw:(lp,X.env.qual ++ "<lambda>")∈wt)(hu:∀ p∈wt,(p.1.line==lp.line&&p.1.col==lp.col)=true->p.2=X.env.qual ++ "<lambda>")(hcode:X.env.code = .ref c)(hC:∀ h:Heap,X.K.In h->PySem.W.CodeHd h c Pt)(S:XO ps [] scope)(hn:ps.length=n)(hb:∀ (f c':Addr) (A:Around) (outer:List Env) (s:Shared) (H:Hp),Room k (A.deeper (PySem.W.envX (X.env.qual ++ "<lambda>") scope s.heap.objs.size f (.ref c') []))->PE (wH X.prog X.w X.K X.mg X.base ps (X.env.qual ++ "<lambda>") scope f c' [] A outer s H) body tb)(hbd:∀ (qual:Str) (pm cdv ctv:Value) (us:List Value),us.length=n->bindArgs (PySem.W.kla_fn "<lambda>" qual params body scope [] pm cdv ctv) ⟨us,[]⟩=pure (ps.zip us))(hcl:closureFor scope X.env=pure []:=by rfl)(hdef:defaultsOf params X.env=([],[]):=by rfl):PE X (.Lambda params body scope lp) (XF X.prog X.w X.K X.mg X.base k n tb):=by
 intro pins s Z H Q I h;refine Kk I hP hw hu hcode (hC _ I.mod.kin) hcl hdef fun f c' oc vs tq ctv H' h' tk I2 g _ hf hc hd hv=>⟨.ref f,H',I2,rfl,h f c' H' g ⟨⟨_,_,_,_,_,hf⟩,⟨_,_,hc⟩,fun A outer s3 H3 us vs3 Q3 E3 hr3 e3 g3 g4 rv hl ht=>?_⟩⟩;obtain ⟨hf3,_⟩:=e3.hok f _ (g3.trans hf);obtain ⟨hc3,_⟩:=e3.hok c' _ (g4.trans hc);have lu:us.length=n:=by rw [<- rv.length];exact hl
 have hb':=hb f c' A outer s3 H3 (hr3.deeper _);rw [<- List.append_nil ps] at hb';refine Kj (vs:=vs3) (cv:=[]) (t:=tb) S (by have:=hr3.dp;omega) hr3.hd e3 hf3 ⟨c',oc,vs,tq,rfl,hc3,hd,hv⟩ (hbd _ _ _ _ _ lu) (hl.trans hn.symm) rv (fun x y c e=>by cases e) (fun x c e=>by cases e) rfl (fun i x v e=>by simp at e) hb' ?_;rw [List.append_nil];exact ht
def XE (P:Program)(w:World)(K:Fg)(mg:Str->Option Value)(base:Heap)(k i:Nat)(ta:TA):TE:=fun Z H Q=>∃ f,Z[i]?=some (some (.ref f))/\FrzFn H f/\ta Z H fun vs H1=>(∀ b o,H b=some o->H1 b=some o) /\
 ∀(A:Around)(outer:List Env)(s:Shared)(us:List Value),Room k A->Env0 P w K mg base A outer s H1->Vals vs us->codeAny (model P w) A (.call (.ref f) ⟨us,[]⟩) (CR w6 outer P w H1 s Q E0) s
theorem He {i k:Nat}{x:Str}{p pos:Pos}{e:Expr}{es:List Expr}{t:TA}(hN:X.N[i]?=some x)(hr:Room k X.A)(ha:PA X (e::es) t)(hv:Vis X.env.scope x:=by first|exact Or.inl rfl|exact Or.inr (Or.inl rfl)|exact Or.inr (Or.inr rfl))(hd:(x==("__debug__":Str))=false:=by decide)(hcd:(x==("__classdict__":Str))=false:=by decide)(he:starEach (e::es) X.env=(false,eval e X.env)::starEach es X.env:=by rfl)(hpl:(backTo pos (starEach es X.env)).any (·.1)=false:=by rfl):PE X (.Call (.Name x p) (e::es) [] pos) (XE X.prog X.w X.K X.mg X.base k i t):=by
 intro pins s Z H Q I h;obtain ⟨f,hf,F,h⟩:=h;refine wpAny_Call_Name_kw (j6 (KO (pos:=p) hN hv hd hcd pins s Z H (fun v H'=>v = .ref f/\H'=H) I ⟨_,hf,rfl,rfl⟩) fun u s1 ⟨v,H1,I1,r1,ev,eH⟩=>?_);subst ev eH;obtain rfl:u=Value.ref f:=r1;have fnat:∀{H':Hp}{s':Shared},HOk X.prog X.w H' s'.heap->FrzFn H' f->PySem.W.FnAt f s'.heap:=fun hok F'=>by
  obtain ⟨oc,od,fd,sl,u,e⟩:=F'.ex;obtain ⟨hf3,_⟩:=hok f _ e;exact ⟨oc,od,fd,sl,hf3⟩
 refine PySem.W.callWith_F (fnat I1.hok F) (j6 (ha pos pins s1 Z H1 _ I1 h) fun us s2 ⟨vs,H2,I2,r2,g,q⟩=>⟨fnat I2.hok (F.mono g),?_⟩) he hpl;refine wpAny_call (codeAny_mono (q X.A X.stack s2 us hr I2.env0 r2) fun r s' hq=>?_);cases r with
 |error e=>exact hq.elim
 |ok fl =>
  cases fl with
  |ret u=>exact I2.after hq
  |next=>exact False.elim hq
  |brk=>exact False.elim hq
  |cont=>exact False.elim hq
end
end L2
namespace Mi
open PySem L2
def wn (P:Program)(w:World)(K:Fg)(mg:Str->Option Value)(base:Heap)(k:Nat)(m:List PV->Option PV):Hp->V->Prop:=fun H v=>∃ f,v = .ref f/\FrzFn H f /\
 ∀(A:Around)(outer:List Env)(s:Shared)(H2:Hp)(us:List Value)(vs:List V)(Q:VK)(E:XK),Room k A->Env0 P w K mg base A outer s H2->Same H H2->Vals vs us->y0 m vs H2 Q E->codeAny (model P w) A (.call (.ref f) ⟨us,[]⟩) (CR w6 outer P w H2 s Q E) s
def jg (n:Nat)(kb:M):List PV->Option PV:=fun xs=>if xs.length=n then kb (xs.map .sh) else none
theorem Rl {Hs H:Hp}{xs:List PV}{vs:List V}(s:Same Hs H)(r:Reps Hs xs vs):RS Hs H Hs H (vs.map some) (xs.map .sh):=by
 have q:=vn (N:=[]) s r;have e1:L2.start [] vs=vs.map some:=by unfold L2.start;simp
 have e2:xs.map MSlot.sh++List.replicate (([]:List Str).length-xs.length) .no=xs.map .sh:=by simp
 rw [e1,e2] at q;exact q
section
variable {P:Program}{w:World}{K:Fg}{mg:Str->Option Value}{base:Heap}{k n i:Nat}
def two (f c:Addr)(H:Hp):Hp:=fun b=>if b=f∨b=c then H b else none
theorem MY {tb:TE}{kb:M}[sb:SemE tb kb]{H:Hp}{f c:Addr}(L:LamF P w K mg base k n tb H f c):wn P w K mg base (k+1) (jg n kb) (two f c H) (.ref f):=by
 obtain ⟨F,⟨oc,u,hc⟩,h⟩:=L;obtain ⟨o1,o2,o3,o4,o5,hf⟩:=F.ex;have ef:two f c H f=some (.frz ⟨o1,o2,.func o3,o4⟩ o5):=by unfold two;rw [if_pos (.inl rfl)];exact hf
 have ec:two f c H c=some (.frz oc u):=by unfold two;rw [if_pos (.inr rfl)];exact hc
 refine ⟨f,rfl,⟨_,_,_,_,_,ef⟩,fun A outer s H2 us vs Q E hr e0 g rv hs=>?_⟩;obtain ⟨Hs,xs,y,sm,r,e,q⟩:=hs;unfold jg at e;split at e
 ·rename_i hl;exact h A outer s H2 us vs Q E hr e0 ((g _ _ ef).trans hf.symm) ((g _ _ ec).trans hc.symm) rv (r.length.trans hl) (sb.h e (Rl sm r) fun v Hs' H' x rv=>q v Hs' H' x rv)
 ·cases e
noncomputable def wI (P:Program)(w:World)(K:Fg)(mg:Str->Option Value)(base:Heap)(k:Nat)(m:List PV->Option PV)(i:Nat)(as:MA):M:=fun ε=>open Classical in if ε[i]?=some (.sh (.op (wn P w K mg base k m))) then (as ε).bind m else none
theorem Dy {m:List PV->Option PV}{as:MA}{ε:ME}{xs:List PV}{r:Option PV}(hi:ε[i]?=some (.sh (.op (wn P w K mg base k m))))(h1:as ε=some xs)(h:m xs=r):wI P w K mg base k m i as ε=r:=by unfold wI;rw [if_pos hi,h1];exact h
instance {m:List PV->Option PV}{ta:TA}{as:MA}[sa:xy ta as]:SemE (XE P w K mg base k i ta) (wI P w K mg base k m i as) where
 h:=fun e Hs0 H0 Hs H Z rs Q q=>by
  unfold wI at e;split at e
  ·rename_i hi;obtain ⟨xs,ex,e1⟩:=bind_some e;obtain ⟨v,hv,rv⟩:=rs.sh i _ hi;obtain ⟨H'',s1,f,rfl,F,h⟩:=rep_op.mp rv;refine ⟨f,hv,F.mono fun b o z=>rs.sub b o (s1 b o z),sa.h ex rs fun vs Hs1 H1 x1 r1=>⟨x1.s2,fun A outer s us hr e0 ru=>?_⟩⟩;exact h A outer s H1 us vs Q E0 hr e0 (fun b o z=>x1.s3 b o (x1.s1 b o (s1 b o z))) ru ⟨Hs1,xs,_,x1.s3,r1,e1,fun v Hs' H' x r=>q v _ _ (x1.trans x) r⟩
  ·cases e
end
mutual
def plB:PV->Bool
 | .at _=>true
 | .tup xs=>js xs
 | .lst xs=>js xs
 |_=>false
def js:List PV->Bool
 |[]=>true
 |x::xs=>plB x&&js xs
end
mutual
theorem Rep.drop {H H':Hp}(g:∀ b o,H b=some o->(∀ o' u,o ≠ .frz o' u)->H' b=some o):∀{x:PV}{v:V},plB x=true->Rep H x v->Rep H' x v
 | .at u,v,_,r=>rep_at.mpr (rep_at.mp r)
 | .tup xs,v,p,r=>by
  obtain ⟨a,vs,e,h,rs⟩:=rep_tup.mp r;unfold plB at p;exact rep_tup.mpr ⟨a,vs,e,g _ _ h (fun _ _ z=>nomatch z),Reps.drop' g p rs⟩
 | .lst xs,v,p,r=>by
  obtain ⟨a,vs,e,h,rs⟩:=rep_lst.mp r;unfold plB at p;exact rep_lst.mpr ⟨a,vs,e,g _ _ h (fun _ _ z=>nomatch z),Reps.drop' g p rs⟩
 | .dk _ _,_,p,_=>by unfold plB at p;cases p
 | .fk _ _,_,p,_=>by unfold plB at p;cases p
 | .ob _ _ _,_,p,_=>by unfold plB at p;cases p
 | .op _,_,p,_=>by unfold plB at p;cases p
theorem Reps.drop' {H H':Hp}(g:∀ b o,H b=some o->(∀ o' u,o ≠ .frz o' u)->H' b=some o):∀{xs:List PV}{vs:List V},js xs=true->Reps H xs vs->Reps H' xs vs
 |[],vs,_,r=>reps_nil.mpr (reps_nil.mp r)
 |x::xs,vs,p,r=>by
  unfold js at p;rw [Bool.and_eq_true] at p;obtain ⟨v,r',e,r1,r2⟩:=reps_cons.mp r;exact reps_cons.mpr ⟨v,r',e,Rep.drop g p.1 r1,Reps.drop' g p.2 r2⟩
end
def QN (φ:Hp->V->Prop)(m:List PV->Option PV)(a b:M):MS:=fun ε=>(a ε).bind fun x=>(b ε).bind fun y=>(m [x,y,.op φ]).bind fun z=>match z with
 | .lst zs=>if js zs=true then some (.rt (.lst zs)) else none
 |_=>none
instance {P:Program}{w:World}{K:Fg}{mg:Str->Option Value}{base:Heap}{k n:Nat}{tl ta tb:TE}{kb a b:M}{m:List PV->Option PV}{E:XK}[sl:SemE tl kb][sa:SemE ta a][sb:SemE tb b]:SemS true (vt (zY (m9 m) [] E (o8 ta (o8 tb (o8 (XF P w K mg base k n tl) qp))))) (QN (wn P w K mg base (k+1) (jg n kb)) m a b) where
 h:=fun e Hs0 H0 Hs H Z rs D q=>by
  obtain ⟨x,ex,e⟩:=bind_some e;obtain ⟨y,ey,e⟩:=bind_some e;obtain ⟨z,ez,e⟩:=bind_some e;split at e
  ·rename_i zs;split at e
   ·rename_i hp;cases e;refine sa.h ex rs fun v1 Hs1 H1 x1 r1=>sb.h ey (rs.go x1) fun v2 Hs2 H2 x2 r2=>fun f c H3 g L=>?_;obtain ⟨⟨o1,o2,o3,o4,o5,hf⟩,⟨oc,u,hc⟩,_⟩:=id L
    let Hs3:Hp:=fun b=>if b=f∨b=c then H3 b else Hs2 b
    have g3:∀ b o,Hs2 b=some o->H3 b=some o:=fun b o h=>g b o (x2.s3 b o h);have s3:Same Hs3 H3:=fun b o h=>by
     have h:(if b=f∨b=c then H3 b else Hs2 b)=some o:=h;split at h
     ·exact h
     ·exact g3 b o h
    have s23:Same Hs2 Hs3:=fun b o h=>by
     show (if b=f∨b=c then H3 b else Hs2 b)=some o;split
     ·exact g3 b o h
     ·exact h
    have st:Same (two f c H3) Hs3:=fun b o h=>by
     unfold two at h;show (if b=f∨b=c then H3 b else Hs2 b)=some o;split at h
     ·rename_i hb;rw [if_pos hb];exact h
     ·cases h
    have f3:Hs3 f=some (.frz ⟨o1,o2,.func o3,o4⟩ o5):=by show (if _ then _ else _)=_;rw [if_pos (.inl rfl)];exact hf
    have c3:Hs3 c=some (.frz oc u):=by show (if _ then _ else _)=_;rw [if_pos (.inr rfl)];exact hc
    refine ⟨Hs3,[x,y,.op _],.lst zs,s3,.cons (r1.mono (x2.s1.trans s23)) (.cons (r2.mono s23) (.one (rep_op.mpr ⟨_,st,MY L⟩))),ez,fun p Hs4 H4 x4 na ns tp=>?_⟩
    let Hs5:Hp:=fun b=>if (b=f∨b=c)/\Hs2 b=none then none else Hs4 b
    have x5:Ext Hs2 H2 Hs5 H4:=by
     refine ⟨fun b o h=>?_,fun b o h=>x4.s2 b o (g b o h),fun b o h=>?_,fun b h z=>?_⟩
     ·show (if _ then _ else _)=_;rw [if_neg (fun y=>by rw [y.2] at h;cases h)];exact x4.s1 b o (s23 b o h)
     ·have h:(if (b=f∨b=c)/\Hs2 b=none then none else Hs4 b)=some o:=h;split at h
      ·cases h
      ·exact x4.s3 b o h
     ·show (if _ then _ else _)=_;by_cases hb:b=f∨b=c
      ·rw [if_pos ⟨hb,z⟩]
      ·rw [if_neg (fun y=>hb y.1)];refine x4.s4 b (fun y=>h ?_) ?_
       ·cases hh:H2 b with
        |none=>rfl
        |some o=>rw [g b o hh] at y;cases y
       ·show (if _ then _ else _)=_;rw [if_neg hb];exact z
    have n2:H2 p=none:=by
     cases hh:H2 p with
     |none=>rfl
     |some o=>rw [g p o hh] at na;cases na
    refine q p Hs5 H4 (rs.ext.trans (x1.trans (x2.trans x5))) (rs.ext.s2.free (x1.s2.free (x2.s2.free n2))) ?_ ?_
    ·show (if _ then _ else _)=_;split
     ·rfl
     ·exact ns
    ·obtain ⟨vs,hv,rv⟩:=tp;refine ⟨vs,hv,Reps.drop' (fun b o h hn=>?_) hp rv⟩;show (if _ then _ else _)=_;rw [if_neg]
     ·exact h
     ·rintro ⟨rfl|rfl,_⟩
      ·rw [x4.s1 _ _ f3] at h;cases h;exact hn _ _ rfl
      ·rw [x4.s1 _ _ c3] at h;cases h;exact hn _ _ rfl
   ·cases e
  ·cases e
theorem DB {φ:Hp->V->Prop}{m:List PV->Option PV}{a b:M}{ε:ME}{x y:PV}{zs:List PV}(h1:a ε=some x)(h2:b ε=some y)(h3:m [x,y,.op φ]=some (.lst zs))(h4:js zs=true):QN φ m a b ε=some (.rt (.lst zs)):=by unfold QN;rw [h1,Option.bind_some,h2,Option.bind_some,h3,Option.bind_some];exact if_pos h4
end Mi
namespace Mi
open PySem L2
structure LQ where
 P:Program
 w:World
 K:Fg
 mg:Str->Option Value
 base:Heap
abbrev QE (q:LQ)(k:Nat)(m:List PV->Option PV):Hp->V->Prop:=wn q.P q.w q.K q.mg q.base k m
noncomputable def XZ (q:LQ)(k:Nat)(m:List PV->Option PV)(i:Nat)(as:MA):M:=wI q.P q.w q.K q.mg q.base k m i as
theorem Dx {q:LQ}{k i:Nat}{m:List PV->Option PV}{as:MA}{ε:ME}{xs:List PV}{r:Option PV}(hi:ε[i]?=some (.sh (.op (QE q k m))))(h1:as ε=some xs)(h:m xs=r):XZ q k m i as ε=r:=Dy hi h1 h
instance {P:Program}{w:World}{K:Fg}{mg:Str->Option Value}{base:Heap}{k i:Nat}{m:List PV->Option PV}{ta:TA}{as:MA}[sa:xy ta as]:SemE (XE P w K mg base k i ta) (XZ (LQ.mk P w K mg base) k m i as) where
 h:=fun e _ _ _ _ _ rs _ q=>SemE.h (te:=XE P w K mg base k i ta) (f:=wI P w K mg base k m i as) e rs q
def VN (q:LQ)(k n:Nat)(kb:M)(m:List PV->Option PV)(a b:M):MS:=QN (QE q k (jg n kb)) m a b
instance {P:Program}{w:World}{K:Fg}{mg:Str->Option Value}{base:Heap}{k n:Nat}{tl ta tb:TE}{kb a b:M}{m:List PV->Option PV}{E:XK}[sl:SemE tl kb][sa:SemE ta a][sb:SemE tb b]:SemS true (vt (zY (m9 m) [] E (o8 ta (o8 tb (o8 (XF P w K mg base k n tl) qp))))) (VN (LQ.mk P w K mg base) (k+1) n kb m a b) where
 h:=fun e _ _ _ _ _ rs _ q=>SemS.h (fr:=true) (ts:=vt (zY (m9 m) [] E (o8 ta (o8 tb (o8 (XF P w K mg base k n tl) qp))))) (f:=QN (wn P w K mg base (k+1) (jg n kb)) m a b) e rs q
theorem DC {q:LQ}{k n:Nat}{kb:M}{m:List PV->Option PV}{a b:M}{ε:ME}{x y:PV}{zs:List PV}(h1:a ε=some x)(h2:b ε=some y)(h3:m [x,y,.op (QE q k (jg n kb))]=some (.lst zs))(h4:js zs=true):VN q k n kb m a b ε=some (.rt (.lst zs)):=DB h1 h2 h3 h4
end Mi
namespace L2
open PySem PySem.Spec PySem.Calls PyProof.Rows Mi
section
variable {X:Cx}{P:Program}{w:World}{K:Fg}{mg:Str->Option Value}{base:Heap}
theorem Hj {body:Expr}{tb:TE}{lp:Pos}{params:Arguments}{scope:Scope}{ps:List Str}{c Pt:Addr}{pt:Array Value}{wt:List (Pos×Str)}{k n:Nat}(z:LQ.mk X.prog X.w X.K X.mg X.base=LQ.mk P w K mg base)(hP:(Pt,pt,wt)∈TABS)(hw:(lp,X.env.qual ++ "<lambda>")∈wt)(hu:∀ p∈wt,(p.1.line==lp.line&&p.1.col==lp.col)=true->p.2=X.env.qual ++ "<lambda>")(hcode:X.env.code = .ref c)(hC:∀ h:Heap,X.K.In h->PySem.W.CodeHd h c Pt)(S:XO ps [] scope)(hn:ps.length=n)(hb:∀ (f c':Addr) (A:Around) (outer:List Env) (s:Shared) (H:Hp),Room k (A.deeper (PySem.W.envX (X.env.qual ++ "<lambda>") scope s.heap.objs.size f (.ref c') []))->PE (wH X.prog X.w X.K X.mg X.base ps (X.env.qual ++ "<lambda>") scope f c' [] A outer s H) body tb)(hbd:∀ (qual:Str) (pm cdv ctv:Value) (us:List Value),us.length=n->bindArgs (PySem.W.kla_fn "<lambda>" qual params body scope [] pm cdv ctv) ⟨us,[]⟩=pure (ps.zip us))(hcl:closureFor scope X.env=pure []:=by rfl)(hdef:defaultsOf params X.env=([],[]):=by rfl):PE X (.Lambda params body scope lp) (XF P w K mg base k n tb):=by injection z with z1 z2 z3 z4 z5;have q:=Hi (X:=X) hP hw hu hcode hC S hn hb hbd hcl hdef;rw [z1,z2,z3,z4,z5] at q;exact q
theorem Hf {i k:Nat}{x:Str}{p pos:Pos}{e:Expr}{es:List Expr}{t:TA}(z:LQ.mk X.prog X.w X.K X.mg X.base=LQ.mk P w K mg base)(hN:X.N[i]?=some x)(hr:Room k X.A)(ha:PA X (e::es) t)(hv:Vis X.env.scope x:=by first|exact Or.inl rfl|exact Or.inr (Or.inl rfl)|exact Or.inr (Or.inr rfl))(hd:(x==("__debug__":Str))=false:=by decide)(hcd:(x==("__classdict__":Str))=false:=by decide)(he:starEach (e::es) X.env=(false,eval e X.env)::starEach es X.env:=by rfl)(hpl:(backTo pos (starEach es X.env)).any (·.1)=false:=by rfl):PE X (.Call (.Name x p) (e::es) [] pos) (XE P w K mg base k i t):=by injection z with z1 z2 z3 z4 z5;have q:=He (X:=X) (k:=k) (i:=i) (p:=p) (pos:=pos) hN hr ha hv hd hcd he hpl;rw [z1,z2,z3,z4,z5] at q;exact q
end
end L2
namespace L2
open PySem PySem.Spec PySem.Calls PyProof.Rows
def rSlU (K:Fg):V->Option Int->Option Int->Hp->VK->Prop:=fun x lo hi H Q=>∃(a:Addr)(xs:List V)(n:Nat),x = .ref a/\SqT K H a xs/\lo=some (n:Int)/\hi=none/\1<=n/\n<=xs.length/\∀ p,H p=none->Q (.ref p) (v8 H p (.tup (xs.drop n)))
theorem Tf {X:Cx}{K:Fg}(h:X.K=K):SlR X (rSlU K):=by subst h;intro pins s Z H x v vl vu lo hi sl Q I rx hs pl pu h;obtain ⟨a,xs,n,rfl,hx,rfl,rfl,h1,h2,q⟩:=h;cases rx;cases pl;cases pu;obtain ⟨its,r,ht,hz⟩:=I.tuple hx;have hlen:=r.length;refine ⟨"tuple",_,slot_tuple_getitem.lookup,ht.typeIs,?_⟩;refine getItem_tuple_from ht hs h1 (by rw [List.size_toArray];omega) ?_ (by rw [List.size_toArray];omega);refine ⟨.ref s.heap.objs.size,_,I.laid (t':=s.toks) (o:= .tup (xs.drop n)) (fun b ob q=>Heap.get?_push_of_some _ q) (Nat.le_refl _) ?_,rfl,q _ (I.hok.fresh (Nat.le_refl _))⟩;exact ⟨by rw [List.length_drop];omega,_,r.drop n,⟨_,Heap.get?_push_size _ rfl,rfl,_,rfl⟩⟩
end L2
namespace Mi
open PySem L2
def dSlT (a:M)(l u:ME->Option (Option Int)):M:=fun ε=>(a ε).bind fun x=>(l ε).bind fun lo=>(u ε).bind fun hi=>match x,lo,hi with
 | .tup xs,some i,none=>if 1<=i/\i.toNat<=xs.length then some (.tup (xs.drop i.toNat)) else none
 |_,_,_=>none
theorem DD {f:M}{l u:ME->Option (Option Int)}{ε:ME}{xs:List PV}{i:Int}(h1:f ε=some (.tup xs))(h2:l ε=some (some i))(h3:u ε=some none)(h4:1<=i/\i.toNat<=xs.length):dSlT f l u ε=some (.tup (xs.drop i.toNat)):=by unfold dSlT;rw [h1];show Option.bind (l ε) _=_;rw [h2];show Option.bind (u ε) _=_;rw [h3];exact if_pos h4
instance {K:Fg}{te:TE}{tl th:TO}{a:M}{l u:ME->Option (Option Int)}[sa:qr te a][sl:wB tl l][su:wB th u]:SemE (tSl (rSlU K) te tl th) (dSlT a l u) where
 h:=fun e _ _ _ _ _ rs _ q=>by
  obtain ⟨x,ex,e1⟩:=bind_some e;obtain ⟨lo,el,e2⟩:=bind_some e1;obtain ⟨hi,eu,e3⟩:=bind_some e2;split at e3
  ·split at e3
   ·rename_i xs i hl;cases e3;refine sa.h ex rs fun v Hs1 H1 x1 r1=>sl.h el (rs.go x1) fun Hs2 H2 x2=>su.h eu ((rs.go x1).go x2) fun Hs3 H3 x3=>?_;have x13:=x1.trans (x2.trans x3);obtain ⟨p,vs,rfl,e1,r⟩:=xF x3.s3 ((r1.ext x2).ext x3);have hn:vs.length=xs.length:=r.length;refine ⟨p,vs,i.toNat,rfl,SqT.of e1,by congr 1;omega,rfl,by omega,by omega,fun d hd=>q _ _ _ (x13.trans (.new x3.s3 hd)) (rep_tup.mpr ⟨d,_,rfl,u8,(r.mono (Ext.new x3.s3 hd).s1).drop _⟩)⟩
   ·cases e3
  ·cases e3
end Mi
namespace L2
open PySem PySem.Spec PySem.Calls PyProof.Rows
section
variable {X:Cx}{K:Fg}
theorem u7 {N P:List Str}{sc:Scope}(h1:sc.kind = .function:=by rfl)(h2:sc.isCoroutine=false:=by rfl)(h3:sc.isGenerator=false:=by rfl)(h4:N.Nodup:=by decide +kernel)(h5:N.take P.length=P:=by rfl)(h6:∀ x∈P,sc.names.lookup x=some .local∨sc.names.lookup x=some .cell:=by decide +kernel)(h7:∀ y∈sc.names,y.2 ≠ .free:=by decide +kernel):y7 N P sc:=⟨h1,h2,h3,h4,h5,h6,h7⟩
theorem sW (i:Nat){x:Str}{e:Expr}{te:TE}{pos pos':Pos}(hN:X.N.Nodup)(he:PE X e te)(hi:X.N[i]?=some x:=by rfl)(hx:Loc X.env.scope x:=by first|exact Or.inl rfl|exact Or.inr rfl)(hs:swapsWith e (some (.Name x pos')) pos.line X.env=pure false:=by rfl)(hf:X.fn x=true∨X.env.scope.names.lookup x=some .local:=by first|exact .inl rfl|exact .inr rfl):PS X (.Assign [.Name x pos'] e pos) (zX te (xt i)):=qQ hN hi hx he hs hf
theorem aW {e:Expr}{te:TE}(ha:PE X e te)(hs:starEach [e] X.env=(false,eval e X.env)::starEach [] X.env:=by rfl):PA X [e] (o8 te qp):=v9 ha g0 hs
theorem aC {e:Expr}{es:List Expr}{te:TE}{t:TA}(ha:PE X e te)(hr:PA X es t)(hs:starEach (e::es) X.env=(false,eval e X.env)::starEach es X.env:=by rfl):PA X (e::es) (o8 te t):=v9 ha hr hs
theorem iW {a b:Expr}{ta tb:TE}{pos:Pos}(hK:X.K=K)(ha:PE X a ta)(hb:PE X b tb)(hs:YF b:=by exact fun _ _=>rfl):PE X (.Subscript a b pos) (tOp (rIx K) ta tb):=ZX (MJ hK) ha hb hs
end
end L2
namespace Lw
open PySem L2 Mi
variable {P:Program}{w:World}{K:Fg}{mg:Str->Option Value}{base:Heap}{f:Addr}{fd:FuncData}
theorem l0:0<=lim:=by decide
theorem l1:1<=lim:=by decide
theorem l2:2<=lim:=by decide
theorem l3:3<=lim:=by decide
theorem l4:4<=lim:=by decide
theorem l5:5<=lim:=by decide
theorem l6:6<=lim:=by decide
theorem l7:7<=lim:=by decide
theorem l8:8<=lim:=by decide
theorem l9:9<=lim:=by decide
structure i7 (h:Nat)(rss:List (List Int)):Prop where
 len:rss.length=h+1
 row:∀ r∈rss,r.length=h/\∀ v∈r,0<=v/\v<10 ^ 30
def rin (rss:List (List Int))(f g:Int):Int:=((atI rss f).bind fun r=>atI r g).getD 0
def xc (rss:List (List Int)):Int->List Int->Int
 |_,[]=>0
 |f,h::r=>rin rss f h+xc rss h r
theorem Jd {rss:List (List Int)}{h:Nat}(e:rss.length=h+1)(g:Int):rin rss (-1) g=rin rss (h:Int) g:=by
 unfold rin atI;rw [e];have e1:xo (h+1) (-1)=some h:=by
  unfold xo;rw [if_neg (by decide),if_pos (by omega)]
  congr 1
  omega
 have e2:xo (h+1) (h:Int)=some h:=by
  unfold xo;rw [if_pos (by omega),if_pos (by omega)]
  congr 1
 rw [e1,e2]
abbrev Wy:=Int×List Int
def jj (a b:Wy):Wy:=if b.1<a.1 then b else a
def zS (a b:Wy):Wy:=(a.1+b.1,a.2++b.2)
def thr (ws:List Wy)(k:Nat)(onw:List Wy):List Wy:=List.zipWith (fun w m=>jj w (zS (ws.getD k (0,[])) m)) ws onw
def xB (T:List (List Wy))(k:Nat):List (List Wy):=T.map fun row=>thr row k (T.getD k [])
def zW (row:List Int):List Wy:=row.mapIdx fun i v=>(v,[(i:Int)])
def n8 (rss:List (List Int)):Nat->List (List Wy)
 |0=>rss.map zW
 |k+1=>xB (n8 rss k) k
def y9 (T:List (List Wy))(f g:Nat):Wy:=(T.getD f []).getD g (0,[])
def qx (rss:List (List Int))(h:Nat):List (List Int):=(n8 rss h).map fun row=>row.map (·.1)
structure Shp (h:Nat)(T:List (List Wy)):Prop where
 len:T.length=h+1
 row:∀ r∈T,r.length=h
theorem g8 {α:Type}{l:List α}{i:Nat}{d:α}(h:i<l.length):l.getD i d=l[i]:=by rw [List.getD_eq_getElem?_getD,List.getElem?_eq_getElem h];rfl
theorem Shp.rowAt {h:Nat}{T:List (List Wy)}(S:Shp h T){f:Nat}(hf:f<=h):(T.getD f []).length=h:=by
 have hl:f<T.length:=by have:=S.len;omega
 rw [g8 hl];exact S.row _ (List.getElem_mem hl)
theorem Pj {ws onw:List Wy}{k:Nat}(h:ws.length=onw.length):(thr ws k onw).length=ws.length:=by unfold thr;rw [List.length_zipWith,h,Nat.min_self]
theorem Shp.step {h:Nat}{T:List (List Wy)}(S:Shp h T){k:Nat}(hk:k<h):Shp h (xB T k):=by refine ⟨by unfold xB;rw [List.length_map];exact S.len,fun r hr=>?_⟩;unfold xB at hr;obtain ⟨row,hm,rfl⟩:=List.mem_map.mp hr;have e1:=S.row row hm;rw [Pj (by rw [e1,S.rowAt (by omega)]),e1]
theorem wR {h:Nat}{T:List (List Wy)}(S:Shp h T){k f g:Nat}(hk:k<h)(hf:f<=h)(hg:g<h):y9 (xB T k) f g=jj (y9 T f g) (zS (y9 T f k) (y9 T k g)):=by
 have hl:f<T.length:=by have:=S.len;omega
 have hl2:f<(xB T k).length:=by unfold xB;rw [List.length_map];exact hl
 have e1:(xB T k).getD f []=thr (T.getD f []) k (T.getD k []):=by unfold xB;rw [g8 (by rw [List.length_map];exact hl),List.getElem_map,g8 hl]
 have r1:=S.rowAt hf;have r2:=S.rowAt (f:=k) (by omega);unfold y9;rw [e1,g8 (by rw [Pj (by rw [r1,r2])];omega),g8 (l:=T.getD f []) (i:=g) (by omega),g8 (l:=T.getD k []) (i:=g) (by omega)];unfold thr;rw [List.getElem_zipWith]
theorem Shp.start {h:Nat}{rss:List (List Int)}(G:i7 h rss):Shp h (n8 rss 0):=by refine ⟨by show (rss.map zW).length=_;rw [List.length_map];exact G.len,fun r hr=>?_⟩;obtain ⟨row,hm,rfl⟩:=List.mem_map.mp hr;unfold zW;rw [List.length_mapIdx];exact (G.row row hm).1
theorem Shp.all {h:Nat}{rss:List (List Int)}(G:i7 h rss):∀ k,k<=h->Shp h (n8 rss k)
 |0,_=>Shp.start G
 |k+1,hk=>(Shp.all G k (by omega)).step (by omega)
theorem ju {h:Nat}{rss:List (List Int)}(G:i7 h rss){f g:Nat}(hf:f<=h)(hg:g<h):rin rss (f:Int) (g:Int)=(rss.getD f []).getD g 0:=by
 have hl:f<rss.length:=by have:=G.len;omega
 have e1:atI rss (f:Int)=some rss[f]:=za (List.getElem?_eq_getElem hl);have hg2:g<rss[f].length:=by rw [(G.row _ (List.getElem_mem hl)).1];exact hg
 have e2:atI rss[f] (g:Int)=some rss[f][g]:=za (List.getElem?_eq_getElem hg2);unfold rin;rw [e1];show (atI rss[f] (g:Int)).getD 0=_;rw [e2,g8 hl,g8 hg2];rfl
theorem Zf {h:Nat}{rss:List (List Int)}(G:i7 h rss){f g:Nat}(hf:f<=h)(hg:g<h):y9 (n8 rss 0) f g=(rin rss (f:Int) (g:Int),[(g:Int)]):=by
 have hl:f<rss.length:=by have:=G.len;omega
 have hl2:f<(rss.map zW).length:=by rw [List.length_map];exact hl
 have hg2:g<rss[f].length:=by rw [(G.row _ (List.getElem_mem hl)).1];exact hg
 rw [ju G hf hg];unfold y9;show ((rss.map zW).getD f []).getD g (0,[])=_;rw [g8 hl2,List.getElem_map,g8 (by unfold zW;rw [List.length_mapIdx];exact hg2),g8 hl,g8 hg2];unfold zW;rw [List.getElem_mapIdx]
theorem BA {h:Nat}{rss:List (List Int)}(G:i7 h rss){f g:Nat}(hf:f<=h)(hg:g<h):0<=rin rss (f:Int) (g:Int):=by
 have hl:f<rss.length:=by have:=G.len;omega
 have hg2:g<rss[f].length:=by rw [(G.row _ (List.getElem_mem hl)).1];exact hg
 rw [ju G hf hg,g8 hl,g8 hg2];exact ((G.row _ (List.getElem_mem hl)).2 _ (List.getElem_mem hg2)).1
theorem Vp {rss:List (List Int)}:∀{xs ys:List Int}{f g:Int},xs.getLast?=some g->xc rss f (xs++ys)=xc rss f xs+xc rss g ys
 |[],_,_,_,e=>by simp at e
 |[x],ys,f,g,e=>by
  have e':x=g:=by simpa using e
  subst e';show rin rss f x+xc rss x ys=rin rss f x+0+xc rss x ys;omega
 |x::y::r,ys,f,g,e=>by
  have q:=Vp (rss:=rss) (xs:=y::r) (ys:=ys) (f:=x) (g:=g) (by simpa [List.getLast?_cons_cons] using e);show rin rss f x+xc rss x (y::r++ys)=rin rss f x+xc rss x (y::r)+xc rss g ys;rw [q];omega
structure WayOk (rss:List (List Int))(h:Nat)(f g:Nat)(w:Wy):Prop where
 sum:w.1=xc rss (f:Int) w.2
 last:w.2.getLast?=some (g:Int)
 ok:∀ x∈w.2,0<=x/\x<(h:Int)
structure FW (rss:List (List Int))(h k:Nat)(T:List (List Wy)):Prop where
 way:∀ f g,f<=h->g<h->WayOk rss h f g (y9 T f g)
 pos:∀ f g,f<=h->g<h->0<=(y9 T f g).1
 le:∀ f g,f<=h->g<h->(y9 T f g).1<=rin rss (f:Int) (g:Int)
 tri:∀ j f g,j<k->f<=h->g<h->(y9 T f g).1<=(y9 T f j).1+(y9 T j g).1
 len:∀ f g,f<=h->g<h->(y9 T f g).2.length<=2 ^ k
theorem wZ (a b:Wy):(jj a b=a/\a.1<=b.1)∨(jj a b=b/\b.1<a.1):=by
 unfold jj;by_cases h:b.1<a.1
 ·rw [if_pos h];exact .inr ⟨rfl,h⟩
 ·rw [if_neg h];exact .inl ⟨rfl,by omega⟩
theorem Ld (a b:Wy):(jj a b).1<=a.1/\(jj a b).1<=b.1:=by
 rcases wZ a b with ⟨e,q⟩|⟨e,q⟩
 ·rw [e];exact ⟨Int.le_refl _,q⟩
 ·rw [e];exact ⟨Int.le_of_lt q,Int.le_refl _⟩
theorem WayOk.join {rss:List (List Int)}{h f k g:Nat}{a b:Wy}(x:WayOk rss h f k a)(y:WayOk rss h k g b):WayOk rss h f g (zS a b):=by
 refine ⟨?_,?_,fun z hz=>?_⟩
 ·show a.1+b.1=xc rss f (a.2++b.2);rw [Vp x.last,x.sum,y.sum]
 ·show (a.2++b.2).getLast?=_;rw [List.getLast?_append,y.last];rfl
 ·rcases List.mem_append.mp hz with q|q
  ·exact x.ok z q
  ·exact y.ok z q
theorem FW.start {h:Nat}{rss:List (List Int)}(G:i7 h rss):FW rss h 0 (n8 rss 0):=by
 refine ⟨fun f g hf hg=>?_,fun f g hf hg=>?_,fun f g hf hg=>?_,fun j f g hj=>absurd hj (by omega),fun f g hf hg=>?_⟩
 ·rw [Zf G hf hg];refine ⟨?_,rfl,fun x hx=>?_⟩
  ·show rin rss f g=rin rss f g+0;omega
  ·have e:x=(g:Int):=by simpa using hx
   rw [e];omega
 ·rw [Zf G hf hg];exact BA G hf hg
 ·rw [Zf G hf hg];exact Int.le_refl _
 ·rw [Zf G hf hg];exact Nat.le_refl 1
theorem FW.step {h k:Nat}{rss:List (List Int)}{T:List (List Wy)}(S:Shp h T)(x:FW rss h k T)(hk:k<h):FW rss h (k+1) (xB T k):=by
 have kl:k<=h:=by omega
 have toK:∀ f,f<=h->(y9 (xB T k) f k).1=(y9 T f k).1:=fun f hf=>by
  rw [wR S hk hf hk];rcases wZ (y9 T f k) (zS (y9 T f k) (y9 T k k)) with ⟨e,q⟩|⟨e,q⟩
  ·rw [e]
  ·have p:=x.pos k k kl hk;have q':(y9 T f k).1+(y9 T k k).1<(y9 T f k).1:=q;omega
 have ofK:∀ g,g<h->(y9 (xB T k) k g).1=(y9 T k g).1:=fun g hg=>by
  rw [wR S hk kl hg];rcases wZ (y9 T k g) (zS (y9 T k k) (y9 T k g)) with ⟨e,q⟩|⟨e,q⟩
  ·rw [e]
  ·have p:=x.pos k k kl hk;have q':(y9 T k k).1+(y9 T k g).1<(y9 T k g).1:=q;omega
 have bound:∀ f g,f<=h->g<h->(y9 (xB T k) f g).1<=(y9 T f g).1/\(y9 (xB T k) f g).1<=(y9 T f k).1+(y9 T k g).1:=fun f g hf hg=>by
  rw [wR S hk hf hg];exact Ld _ _
 have alt:∀ f g,f<=h->g<h->(y9 (xB T k) f g).1=(y9 T f g).1∨(y9 (xB T k) f g).1=(y9 T f k).1+(y9 T k g).1:=fun f g hf hg=>by
  rw [wR S hk hf hg];rcases wZ (y9 T f g) (zS (y9 T f k) (y9 T k g)) with ⟨e,q⟩|⟨e,q⟩
  ·rw [e];exact .inl rfl
  ·rw [e];exact .inr rfl
 refine ⟨fun f g hf hg=>?_,fun f g hf hg=>?_,fun f g hf hg=>Int.le_trans (bound f g hf hg).1 (x.le f g hf hg),fun j f g hj hf hg=>?_,fun f g hf hg=>?_⟩
 ·rw [wR S hk hf hg];rcases wZ (y9 T f g) (zS (y9 T f k) (y9 T k g)) with ⟨e,_⟩|⟨e,_⟩
  ·rw [e];exact x.way f g hf hg
  ·rw [e];exact (x.way f k hf hk).join (x.way k g kl hg)
 ·rcases alt f g hf hg with e|e
  ·rw [e];exact x.pos f g hf hg
  ·rw [e];have p1:=x.pos f k hf hk;have p2:=x.pos k g kl hg;omega
 ·by_cases hjk:j=k
  ·subst hjk;rw [toK f hf,ofK g hg];exact (bound f g hf hg).2
  ·have hj':j<k:=by omega
   have jl:j<=h:=by omega
   have jh:j<h:=by omega
   have b:=bound f g hf hg;have t1:=x.tri j f g hj' hf hg;have t2:=x.tri j f k hj' hf hk;have t3:=x.tri j k g hj' kl hg;have t4:=x.pos k j kl jh;have t5:=x.pos j k jl hk;rcases alt f j hf jh with e1|e1<;>rcases alt j g jl hg with e2|e2<;>rw [e1,e2]<;>omega
 ·rw [wR S hk hf hg];have e:2 ^ (k+1)=2 ^ k+2 ^ k:=by rw [Nat.pow_succ];omega
  rcases wZ (y9 T f g) (zS (y9 T f k) (y9 T k g)) with ⟨q,_⟩|⟨q,_⟩
  ·rw [q];have:=x.len f g hf hg;omega
  ·rw [q];have a1:=x.len f k hf hk;have a2:=x.len k g kl hg;show ((y9 T f k).2++(y9 T k g).2).length<=_;rw [List.length_append];omega
theorem FW.all {h:Nat}{rss:List (List Int)}(G:i7 h rss):∀ k,k<=h->FW rss h k (n8 rss k)
 |0,_=>FW.start G
 |k+1,hk=>FW.step (Shp.all G k (by omega)) (FW.all G k (by omega)) (by omega)
theorem Wu {h:Nat}{rss:List (List Int)}(G:i7 h rss){f g:Nat}(hf:f<=h)(hg:g<h):((qx rss h).getD f []).getD g 0=(y9 (n8 rss h) f g).1:=by
 have S:=Shp.all G h (Nat.le_refl _);have hl:f<(n8 rss h).length:=by have:=S.len;omega
 have hl2:f<(qx rss h).length:=by unfold qx;rw [List.length_map];exact hl
 have r:=S.rowAt hf;rw [g8 hl] at r;unfold y9;rw [g8 hl,g8 (l:=(n8 rss h)[f]) (by omega)];unfold qx;rw [g8 (l:=(n8 rss h).map fun row=>row.map (·.1)) (i:=f) (by rw [List.length_map];exact hl),List.getElem_map,g8 (by rw [List.length_map];omega),List.getElem_map]
theorem jH {h:Nat}{rss:List (List Int)}(G:i7 h rss):i7 h (qx rss h):=by
 have S:=Shp.all G h (Nat.le_refl _);have F:=FW.all G h (Nat.le_refl _);refine ⟨by unfold qx;rw [List.length_map];exact S.len,fun r hr=>?_⟩;unfold qx at hr;obtain ⟨row,hm,rfl⟩:=List.mem_map.mp hr;refine ⟨by rw [List.length_map];exact S.row row hm,fun v hv=>?_⟩;obtain ⟨w,hw,rfl⟩:=List.mem_map.mp hv;obtain ⟨f,hf,rfl⟩:=List.getElem_of_mem hm;obtain ⟨g,hg,rfl⟩:=List.getElem_of_mem hw;have hf':f<=h:=by have:=S.len;omega
 have hg':g<h:=by rw [<- S.row _ hm];exact hg
 have e:y9 (n8 rss h) f g=(n8 rss h)[f][g]:=by unfold y9;rw [g8 hf,g8 hg]
 have p:=F.pos f g hf' hg';have l:=F.le f g hf' hg';rw [e] at p l;refine ⟨p,Int.lt_of_le_of_lt l ?_⟩;have hl:f<rss.length:=by have:=G.len;omega
 have hg2:g<rss[f].length:=by rw [(G.row _ (List.getElem_mem hl)).1];exact hg'
 rw [ju G hf' hg',g8 hl,g8 hg2];exact ((G.row _ (List.getElem_mem hl)).2 _ (List.getElem_mem hg2)).2
theorem Wv {h:Nat}{rss:List (List Int)}(G:i7 h rss){f g:Nat}(hf:f<=h)(hg:g<h):rin (qx rss h) (f:Int) (g:Int)=(y9 (n8 rss h) f g).1:=by rw [ju (jH G) hf hg,Wu G hf hg]
theorem PK {rss:List (List Int)}{h:Nat}(G:i7 h rss):∀(hs:List Int)(f:Nat),f<=h->(∀ x∈hs,0<=x/\x<(h:Int))->0<=xc rss (f:Int) hs
 |[],_,_,_=>Int.le_refl _
 |x::r,f,hf,ho=>by
  obtain ⟨x0,x1⟩:=ho x List.mem_cons_self;obtain ⟨m,rfl⟩:=Int.eq_ofNat_of_zero_le x0;have q:=PK G r m (by omega) fun y hy=>ho y (List.mem_cons_of_mem _ hy);have p:=BA G hf (g:=m) (by omega);show 0<=rin rss f m+xc rss m r;omega
theorem BM {rss:List (List Int)}{h:Nat}(G:i7 h rss){g:Nat}(hg:g<h):∀(mids:List Int)(f:Nat),f<=h->(∀ x∈mids,0<=x/\x<(h:Int)) -> ∃ ms:List Int,ms.Nodup/\(∀ x∈ms,x∈mids)/\xc rss (f:Int) (ms++[(g:Int)])<=xc rss (f:Int) (mids++[(g:Int)])
 |[],_,_,_=>⟨[],List.nodup_nil,fun _ z=>z,Int.le_refl _⟩
 |x::r,f,hf,ho=>by
  obtain ⟨x0,x1⟩:=ho x List.mem_cons_self;obtain ⟨m,rfl⟩:=Int.eq_ofNat_of_zero_le x0;obtain ⟨ms,hn,hs,hw⟩:=BM G hg r m (by omega) fun y hy=>ho y (List.mem_cons_of_mem _ hy);by_cases hm:(m:Int)∈ms
  ·obtain ⟨p,s,rfl⟩:=List.append_of_mem hm;have hn2:=List.nodup_append.mp hn;refine ⟨(m:Int)::s,hn2.2.1,fun y hy=>?_,?_⟩
   ·rcases List.mem_cons.mp hy with e|hy
    ·rw [e];exact List.mem_cons_self
    ·exact List.mem_cons_of_mem _ (hs y (List.mem_append_right _ (List.mem_cons_of_mem _ hy)))
   ·have e1:p++(m:Int)::s++[(g:Int)]=(p++[(m:Int)])++(s++[(g:Int)]):=by simp
    rw [e1,Vp (g:=(m:Int)) (by simp)] at hw;have nn:=PK G (p++[(m:Int)]) m (by omega) (fun y hy=>by
     rcases List.mem_append.mp hy with hy|hy
     ·exact ho y (List.mem_cons_of_mem _ (hs y (List.mem_append_left _ hy)))
     ·rw [List.mem_singleton.mp hy];exact ⟨x0,x1⟩)
    show rin rss f m+xc rss m (s++[(g:Int)])<=rin rss f m+xc rss m (r++[(g:Int)]);omega
  ·refine ⟨(m:Int)::ms,List.nodup_cons.mpr ⟨hm,hn⟩,fun y hy=>?_,?_⟩
   ·rcases List.mem_cons.mp hy with e|hy
    ·rw [e];exact List.mem_cons_self
    ·exact List.mem_cons_of_mem _ (hs y hy)
   ·show rin rss f m+xc rss m (ms++[(g:Int)])<=rin rss f m+xc rss m (r++[(g:Int)]);omega
def Zs (h:Nat):List Int:=(List.range h).map fun (i:Nat)=>(i:Int)
theorem mem_huesL {h:Nat}{x:Int}:x∈Zs h↔0<=x/\x<(h:Int):=by
 unfold Zs;constructor
 ·intro hx;obtain ⟨i,hi,rfl⟩:=List.mem_map.mp hx;have:=List.mem_range.mp hi;omega
 ·intro hx;exact List.mem_map.mpr ⟨x.toNat,List.mem_range.mpr (by omega),by omega⟩
theorem WG {α:Type}[DecidableEq α]:∀{ms left:List α},ms.Nodup->(∀ x∈ms,x∈left)->ms.length<=left.length
 |[],_,_,_=>Nat.zero_le _
 |x::r,left,hn,hs=>by
  have hn':=List.nodup_cons.mp hn;have q:=WG (ms:=r) (left:=left.erase x) hn'.2 (fun y hy=>(List.mem_erase_of_ne (fun e=>hn'.1 (by rw [e] at hy;exact hy))).mpr (hs y (List.mem_cons_of_mem _ hy)));have hx:=hs x List.mem_cons_self;rw [List.length_erase_of_mem hx] at q;have pos:0<left.length:=List.length_pos_of_mem hx;show r.length+1<=_;omega
def QK (rss:List (List Int))(h:Nat)(row:List Int):List Int:=(List.range h).map fun g=>Qj (row.getD g 0::(List.range h).map fun a=>row.getD a 0+(rss.getD a []).getD g 0)
def bfN (rss:List (List Int))(h:Nat):Nat->List (List Int)
 |0=>rss
 |k+1=>(bfN rss h k).map (QK rss h)
theorem VB {rss:List (List Int)}{h:Nat}(G:i7 h rss):∀ k,(bfN rss h k).length=h+1/\∀ r∈bfN rss h k,r.length=h
 |0=>⟨G.len,fun r hr=>(G.row r hr).1⟩
 |k+1=>by
  have ih:=VB G k;refine ⟨by show ((bfN rss h k).map _).length=_;rw [List.length_map];exact ih.1,fun r hr=>?_⟩;obtain ⟨q,_,rfl⟩:=List.mem_map.mp hr;unfold QK;rw [List.length_map,List.length_range]
def i8 (rss:List (List Int))(h k f g:Nat):Int:=((bfN rss h k).getD f []).getD g 0
theorem XW {rss:List (List Int)}{h:Nat}(G:i7 h rss){k f g:Nat}(hf:f<=h)(hg:g<h):i8 rss h (k+1) f g=Qj (i8 rss h k f g::(List.range h).map fun a=>i8 rss h k f a+rin rss (a:Int) (g:Int)):=by
 have L:=VB G k;have hl:f<(bfN rss h k).length:=by omega
 unfold i8;show (((bfN rss h k).map (QK rss h)).getD f []).getD g 0=_;rw [g8 (l:=(bfN rss h k).map (QK rss h)) (i:=f) (by rw [List.length_map];exact hl),List.getElem_map,g8 (l:=bfN rss h k) (i:=f) hl];unfold QK;rw [g8 (by rw [List.length_map,List.length_range];exact hg),List.getElem_map,List.getElem_range]
 congr 2
 refine List.map_congr_left fun a ha=>?_;rw [ju G (by have:=List.mem_range.mp ha;omega) hg]
theorem XX {rss:List (List Int)}{h:Nat}(G:i7 h rss):∀ k f g,f<=h->g<h->(y9 (n8 rss h) f g).1<=i8 rss h k f g
 |0,f,g,hf,hg=>by
  have q:=(FW.all G h (Nat.le_refl _)).le f g hf hg;rw [ju G hf hg] at q;exact q
 |k+1,f,g,hf,hg=>by
  rw [XW G hf hg];have m:=WD (l:=i8 rss h k f g::(List.range h).map fun a=>i8 rss h k f a+rin rss (a:Int) (g:Int)) (by simp);rcases List.mem_cons.mp m with e|e
  ·rw [e];exact XX G k f g hf hg
  ·obtain ⟨a,ha,e2⟩:=List.mem_map.mp e;rw [<- e2];have ha':=List.mem_range.mp ha;have F:=FW.all G h (Nat.le_refl _);have i:=XX G k f a hf ha';have t:=F.tri a f g ha' hf hg;have l:=F.le a g (by omega) hg;omega
theorem VC {rss:List (List Int)}{h:Nat}(G:i7 h rss):∀(k:Nat)(ms:List Int)(f g:Nat),f<=h->g<h->(∀ x∈ms,0<=x/\x<(h:Int))->ms.length<=k->i8 rss h k f g<=xc rss (f:Int) (ms++[(g:Int)])
 |0,ms,f,g,hf,hg,_,hl=>by
  have:ms=[]:=List.length_eq_zero_iff.mp (by omega);subst this;show _<=rin rss f g+0;rw [ju G hf hg];show (rss.getD f []).getD g 0<=_;omega
 |k+1,ms,f,g,hf,hg,ho,hl=>by
  rw [XW G hf hg];by_cases hk:ms.length<=k
  ·exact Int.le_trans (ZP List.mem_cons_self) (VC G k ms f g hf hg ho hk)
  ·have hne:ms≠[]:=fun z=>by rw [z] at hk;simp at hk
   have e:=List.dropLast_concat_getLast hne;obtain ⟨x0,x1⟩:=ho (ms.getLast hne) (List.getLast_mem hne);obtain ⟨a,ha⟩:=Int.eq_ofNat_of_zero_le x0;rw [ha] at x1 e;have i:=VC G k ms.dropLast f a hf (by omega) (fun x hx=>ho x ((List.dropLast_sublist ms).subset hx)) (by rw [List.length_dropLast];omega);refine Int.le_trans (ZP (List.mem_cons_of_mem _ (List.mem_map.mpr ⟨a,List.mem_range.mpr (by omega),rfl⟩))) ?_;rw [<- e,Vp (g:=(a:Int)) (by simp)];show _<=xc rss f (ms.dropLast++[(a:Int)])+(rin rss a g+0);omega
theorem Cp {rss:List (List Int)}{h:Nat}(G:i7 h rss):bfN rss h h=qx rss h:=by
 have L:=VB G h;have G2:=jH G;have F:=FW.all G h (Nat.le_refl _);refine List.ext_getElem (by rw [L.1,G2.len]) fun f h1 h2=>?_;have hf:f<=h:=by omega
 refine List.ext_getElem (by rw [L.2 _ (List.getElem_mem h1),(G2.row _ (List.getElem_mem h2)).1]) fun g g1 g2=>?_;have hg:g<h:=by rw [L.2 _ (List.getElem_mem h1)] at g1;exact g1
 have a1:i8 rss h h f g=(bfN rss h h)[f][g]:=by unfold i8;rw [g8 h1,g8 g1]
 have a2:=Wu G hf hg;rw [g8 h2,g8 g2] at a2;rw [<- a1,a2];refine Int.le_antisymm ?_ (XX G h f g hf hg);have W:=F.way f g hf hg;obtain ⟨mids,e⟩:∃ mids,(y9 (n8 rss h) f g).2=mids++[(g:Int)]:=by
  have ne:(y9 (n8 rss h) f g).2≠[]:=fun z=>by have q:=W.last;rw [z] at q;cases q
  refine ⟨(y9 (n8 rss h) f g).2.dropLast,?_⟩;have q:=List.dropLast_concat_getLast ne;have q2:(y9 (n8 rss h) f g).2.getLast ne=(g:Int):=by have q3:=W.last;rw [List.getLast?_eq_some_getLast ne] at q3;exact Option.some.inj q3
  rw [q2] at q;exact q.symm
 have hmid:∀ x∈mids,0<=x/\x<(h:Int):=fun x hx=>W.ok x (by rw [e];exact List.mem_append_left _ hx);obtain ⟨ms,hn,hs,hw⟩:=BM G hg mids f hf hmid;have sub:∀ x∈ms,x∈Zs h:=fun x hx=>mem_huesL.mpr (hmid x (hs x hx));have lm:ms.length<=h:=by have q:=WG hn sub;unfold Zs at q;rw [List.length_map,List.length_range] at q;exact q
 have b:=VC G h ms f g hf hg (fun x hx=>hmid x (hs x hx)) lm;have s:=W.sum;rw [e] at s;omega
def top (i:Nat):Stmt:=PySem.Challenge.pw_rinsework_k22_whole_moves_to_due_order.main.body.getD i (.Pass ⟨0,0,0,0⟩)
abbrev JM:Stmt:=top 55
abbrev Xz:Stmt:=top 56
abbrev Jq:Stmt:=top 57
theorem Vg {H:Hp}{p:Addr}(h:H p=none)(o:HO):Same H (v8 H p o):=fun b u q=>by rw [j7 (p5 q h)];exact q
theorem sizes {n:Nat}(h:n<=1000):n<=sizeLine:=Nat.le_of_lt (QA h)
def Ym:Sp:=fun vs H Q _=>∃ c k:Int,vs=[.int c,.int k]/\0<=k/\k<=100/\∀ v:Int,0<=v->v<2147483648->Q (.int v) H
def BR (K:Fg):Sp:=fun vs H Q _=>∃(a:Addr)(ns:List Int)(k:Int),vs=[.ref a,.int k]/\SqL K H a (ns.map V.int)/\ns.length<=63/\0<=k/\k<=12 /\
 ∀(r:Addr)(n:Int)(H':Hp),H r=none->Same H H'->H' r=some (.lst [.int n])->Q (.ref r) H'
section
theorem sc_digit:y7 ["row", "many", "digit"] ["row", "many"] (j8 Jq):=u7
theorem LY (F:Fun K "_law_digit" "_law_digit" Jq f fd):FnOk P w K mg base w6 1 f fd ["row", "many"] vp:=by
 refine F.ok sc_digit (fun vs H Q E h=>?_) (fun cdv A outer s H vs Q E hr h=>?_)
 ·obtain ⟨a,n,m,rfl,_⟩:=h;rfl
 obtain ⟨a,n,m,rfl,hH,hm,q⟩:=h;refine ⟨_,(j3 (qQ (i:=2) sc_digit.nd rfl (Or.inl rfl) (u5 vR (ZX (Wh (K:=K) rfl) (pv 0) z0 (fun _ _=>rfl)) (pv 1)))
  (j3 (WX (u5 KF (ZX (Wh (K:=K) rfl) (pv 0) z0 (fun _ _=>rfl)) (pv 1)) (KQ (pv 0) z0 BK))
  (j4 (y6 (pv 2))))),?_⟩
 refine ⟨_,rfl,a,_,0,_,rfl,rfl,SqL.of hH,rfl,_,rfl,n,m,rfl,rfl,hm.1,?_⟩;refine ⟨_,rfl,a,_,0,_,rfl,rfl,SqL.of hH,rfl,_,rfl,n,m,rfl,rfl,hm,?_⟩;refine ⟨_,rfl,a,_,0,0,rfl,rfl,hH,rfl,?_⟩;exact ⟨_,rfl,q⟩
theorem sc_mixed:y7 ["cell", "k", "stir"] ["cell", "k"] (j8 JM):=u7
theorem Nx (F:Fun K "_law_mixed" "_law_mixed" JM f fd):FnOk P w K mg base w6 1 f fd ["cell", "k"] Ym:=by
 refine F.ok sc_mixed (fun vs H Q E h=>?_) (fun cdv A outer s H vs Q E hr h=>?_)
 ·obtain ⟨c,k,rfl,_⟩:=h;rfl
 obtain ⟨c,k,rfl,k0,k1,q⟩:=h;refine ⟨_,(j3 (qQ (i:=2) sc_mixed.nd rfl (Or.inl rfl) (u5 vR (u5 Qm (u5 op_add (u5 op_add (u5 vR (pv 0) z0) (u5 Qm z0 (pv 1))) z0) z0) z0))
  (j4 (y6 (u5 vR (u5 Qm (u5 vR (u5 Qm (pv 2) (pv 2)) z0) z0) z0)))),?_⟩
 refine ⟨_,rfl,_,_,rfl,rfl,(by show (0:Int)<1000000007;decide),_,rfl,_,_,rfl,rfl,.inl ⟨by decide,by decide⟩,_,_,rfl,rfl,_,_,rfl,rfl,_,_,rfl,rfl,.inr ⟨by decide,by decide⟩,_,_,rfl,rfl,(by show (0:Int)<2147483647;decide),?_⟩;generalize hone:(c % 1000000007+7919*k+1)*48271 % 2147483647=one;have o0:0<=one:=by rw [<- hone];exact Int.emod_nonneg _ (by decide)
 have o1:one<2147483647:=by rw [<- hone];exact Int.emod_lt_of_pos _ (by decide)
 refine ⟨_,rfl,_,rfl,_,_,rfl,rfl,.inl ⟨by omega,by omega⟩,_,_,rfl,rfl,(by show (0:Int)<2147483629;decide),_,_,rfl,rfl,.inr ⟨by decide,by decide⟩,_,_,rfl,rfl,(by show (0:Int)<2147483647;decide),?_⟩;exact q _ (Int.emod_nonneg _ (by decide)) (Int.lt_trans (Int.emod_lt_of_pos _ (by decide)) (by decide))
end
def MM:Int:=10 ^ (60:Int).toNat
theorem XQ:0<MM:=by decide +kernel
theorem Gp:jW 10 60:=⟨by decide,by decide,by decide⟩
theorem Go:jW 10 18:=⟨by decide,by decide,by decide⟩
theorem Ct:Builtin.Int.intBits MM<=2 ^ 20:=by decide +kernel
theorem Tn {M c r:Int}{i:Nat}(hM:0<M)(h0:0<=c)(h:c<M ^ i)(r0:0<=r)(r1:r<M):0<=c*M+r/\c*M+r<M ^ (i+1):=by
 have e:M ^ (i+1)=M ^ i*M:=Int.pow_succ M i;have h1:(c+1)*M<=M ^ i*M:=Int.mul_le_mul_of_nonneg_right (by omega) (Int.le_of_lt hM);have h2:(c+1)*M=c*M+M:=by rw [Int.add_mul,Int.one_mul]
 have h3:0<=c*M:=Int.mul_nonneg h0 (Int.le_of_lt hM);rw [e];omega
theorem PY:∀ i:_root_.Fin 14,(MM ^ (i:Nat)).toNat<2 ^ 2700:=by decide +kernel
theorem Cu {c:Int}{i:Nat}(hi:i<=13)(h0:0<=c)(h:c<MM ^ i):Builtin.Int.intBits c<=2 ^ 20:=by
 obtain ⟨n,rfl⟩:=Int.eq_ofNat_of_zero_le h0;have q:=PY ⟨i,by omega⟩;have q2:n<2 ^ 2700:=by have q':(MM ^ i).toNat<2 ^ 2700:=q;omega
 exact Nat.le_trans (PyProof.Rows.intBits_le (by rw [Int.natAbs_natCast];exact q2)) (by decide)
theorem Rj:∀ i:_root_.Fin 13,∀ j:_root_.Fin 64,Builtin.Range.small ((i:Nat):Int) ((j:Nat):Int) 5=true:=by decide +kernel
theorem Ye {i j:Int}:Builtin.Range.rangeSize i j 5=if i<j then (j-i-1) / 5+1 else 0:=rfl
theorem Ri {i j:Int}(h0:0<=i)(h1:i<=12)(h2:0<=j)(h3:j<=63):0<=Builtin.Range.rangeSize i j 5/\Builtin.Range.small i j 5=true/\jT i j 5<=13/\∀ t:Nat,t<jT i j 5->i+t*5<j:=by
 refine ⟨?_,?_,?_,fun t ht=>?_⟩
 ·rw [Ye];split<;>omega
 ·have q:=Rj ⟨i.toNat,by omega⟩ ⟨j.toNat,by omega⟩;have e1:((i.toNat:Nat):Int)=i:=by omega
  have e2:((j.toNat:Nat):Int)=j:=by omega
  have q':Builtin.Range.small ((i.toNat:Nat):Int) ((j.toNat:Nat):Int) 5=true:=q;rw [e1,e2] at q';exact q'
 ·unfold jT;rw [Ye];split<;>omega
 ·unfold jT at ht;rw [Ye] at ht;split at ht<;>omega
theorem Cg {ns:List Int}{k:Int}(h0:0<=k)(h:k<(ns.length:Int)):∃ v:Int,atI (ns.map V.int) k=some (.int v):=by
 have hk:k.toNat<ns.length:=by omega
 have ek:k=((k.toNat:Nat):Int):=by omega
 have q:atI (ns.map V.int) ((k.toNat:Nat):Int)=some (.int ns[k.toNat]):=za (by rw [List.getElem?_map,List.getElem?_eq_getElem hk]<;>rfl);rw [<- ek] at q;exact ⟨_,q⟩
section
theorem sc_stream:y7 ["script", "k", "cell", "j", "found"] ["script", "k"] (j8 Xz):=u7
theorem NK (F:Fun K "_law_stream" "_law_stream" Xz f fd)(Ec:Fn P w K mg base 1 "_law_mixed" ["cell", "k"] Ym)(Ad:mg "len"=none)(Ac:mg "range"=none)(Ih:mg "sum"=none):FnOk P w K mg base w6 2 f fd ["script", "k"] (BR K):=by
 refine F.ok sc_stream (fun vs H Q E h=>?_) (fun cdv A outer s H vs Q E hr h=>?_)
 ·obtain ⟨a,ns,k,rfl,_⟩:=h;rfl
 obtain ⟨a,ns,k,rfl,hS,h63,k0,k1,q⟩:=h;refine ⟨_,(j3 (qQ (i:=2) sc_stream.nd rfl (Or.inl rfl) z0)
  (j3 (xD PassesOwn.never rfl (Hu rfl Ac (v9 (pv 1) (v9 (m4 (Gb (K:=K) rfl) rfl Ad PySem.boot_len (v9 (pv 0) g0)) (v9 z0 g0)))) (u6 (i:=3) sc_stream.nd rfl (Or.inl rfl))
   (j4 (qQ (i:=2) sc_stream.nd rfl (Or.inl rfl) (u5 op_add (u5 Qn (pv 2) (u5 Qo z0 z0)) (u5 vR (ZX (Wh (K:=K) rfl) (pv 0) (pv 3) (fun _ _=>rfl)) (u5 Qo z0 z0))))))
  (j3 (o6 (qh ZT (pv 2) (u5 Qo z0 z0) (i4 _)) (j4 (y6 (zf (v9 (pv 2) g0)))) o7)
  (j3 (qQ (i:=2) sc_stream.nd rfl (Or.inl rfl) (u5 op_add (pv 2) (m4 (CW (K:=K) rfl rfl) rfl Ih CB (v9 (qG (N':=["one"]) (cap:=[none]) (qf rfl rfl rfl) rfl (qC (K:=K) rfl (pv 0)) (fun _ _ _ _ _ _=>(u6 (i:=0) (by show (["one"]:List Str).Nodup;decide +kernel) rfl (Or.inl rfl))) (fun _ _ _ _ _ _=>ql) (fun _ _ _ _ _ _=>(u5 vR (pv 0) (u5 Qo z0 z0)))) g0))))
  (j3 (qQ (i:=4) sc_stream.nd rfl (Or.inl rfl) z0)
  (j3 (xD PassesOwn.never rfl (zo rfl Ac (v9 z0 g0)) (u6 (i:=3) sc_stream.nd rfl (Or.inl rfl))
   (j4 (qQ (i:=4) sc_stream.nd rfl (Or.inl rfl) (u5 op_add (u5 Qm (pv 4) z0) (w4 Ec hr (by decide) rfl (v9 (u5 op_add (u5 op_add (pv 2) (u5 Qm z0 (pv 1))) (m4 (Gb (K:=K) rfl) rfl Ad PySem.boot_len (v9 (pv 0) g0))) (v9 (pv 3) g0)))))))
  (j4 (y6 (zf (v9 (u5 KF (pv 4) z0) g0)))))))))),?_⟩
 have hl:(((ns.map V.int).length:Nat):Int)=(ns.length:Int):=by rw [List.length_map]
 obtain ⟨z1,z2,z3,z4⟩:=Ri (i:=k) (j:=(((ns.map V.int).length:Nat):Int)) k0 k1 (by omega) (by omega);refine ⟨_,rfl,_,rfl,a,_,rfl,.inl hS,k,_,5,rfl,⟨by decide,by decide⟩,z1,z2,DH (fun i Z H2=>∃(c:Int)(j:Option V),Z=[some (.ref a),some (.int k),some (.int c),j,none]/\H2=H/\0<=c/\c<MM ^ i)
  ⟨0,none,rfl,rfl,Int.le_refl 0,by decide⟩ ?_ ?_⟩
 ·rintro i Z H2 hi ⟨c,j,rfl,rfl,c0,c1⟩;obtain ⟨v,hv⟩:=Cg (ns:=ns) (k:=k+i*5) (by omega) (by have:=z4 i hi;omega);refine ⟨_,rfl,_,_,rfl,rfl,Gp,_,_,rfl,rfl,⟨Cu (by omega) c0 c1,Ct⟩,_,rfl,_,rfl,a,_,_,_,rfl,rfl,hS,hv,
   _,_,rfl,rfl,Gp,_,_,rfl,rfl,XQ,_,_,rfl,rfl,?_⟩
  have sb:=Tn (i:=i) XQ c0 c1 (Int.emod_nonneg v (Ne.symm (Int.ne_of_lt XQ))) (Int.emod_lt_of_pos v XQ);exact ⟨_,_,rfl,rfl,sb.1,sb.2⟩
 ·rintro Z H2 ⟨c,j,rfl,rfl,c0,c1⟩;refine ⟨_,rfl,_,_,rfl,rfl,Go,_,_,rfl,rfl,_,rfl,ite2 (fun _=>?_) (fun _=>?_)⟩
  ·refine ⟨_,rfl,(by show 1<=sizeLine;decide),fun p hp=>?_⟩;exact q p c _ hp (Vg hp _) u8
  ·refine ⟨_,rfl,_,rfl,a,rfl,⟨_,hS⟩,Gm (K:=K) (a:=a) (xs:=ns.map V.int) (fun i ys H3=>H3=H2/\∃ ms:List Int,ys=ms.map V.int/\ms.length=i) ⟨rfl,[],rfl,rfl⟩ ?_ ?_ ?_ ?_⟩
   ·rintro i ys H3 hi ⟨_,ms,rfl,rfl⟩;rw [List.length_map] at hi ⊢;exact sizes (by omega)
   ·rintro i ys H3 hi ⟨rfl,_⟩;exact hS
   ·rintro i x ys H3 R hx ⟨rfl,ms,rfl,rfl⟩ hR;rw [List.getElem?_map] at hx;obtain ⟨v,hv,rfl⟩:=Option.map_eq_some_iff.mp hx;refine ⟨Wk.one rfl,⟨_,rfl,_,_,rfl,rfl,Go,_,_,rfl,rfl,(by show (0:Int)<10 ^ (18:Int).toNat;decide),?_⟩⟩;exact hR _ _ ⟨rfl,ms++[_],by rw [List.map_append];rfl,by rw [List.length_append];rfl⟩
   ·rintro ys H3 ⟨rfl,ms,rfl,_⟩ D hD;refine ⟨D,ms,rfl,SqL.of u8,_,_,rfl,rfl,?_⟩;have g1:Same H3 (v8 H3 D (.lst (ms.map V.int))):=Vg hD _;refine ⟨12,rfl,by decide,by decide,Zq (n:=12) (fun i Z H4=>∃(f:Int)(j:Option V),Z=[some (.ref a),some (.int k),some (.int (c+ms.sum)),j,some (.int f)]/\H4=v8 H3 D (.lst (ms.map V.int))) ⟨0,_,rfl,rfl⟩ ?_ ?_⟩
    ·rintro i Z H4 hi ⟨f,j,rfl,rfl⟩;refine ⟨_,rfl,_,_,rfl,rfl,.inr ⟨by decide,by decide⟩,_,rfl,_,rfl,_,_,rfl,rfl,.inl ⟨by decide,by decide⟩,_,_,rfl,rfl,_,rfl,a,_,rfl,.inl (g1.seq hS),_,_,rfl,rfl,_,rfl,_,_,rfl,by omega,by omega,fun v v0 v1=>?_⟩;exact ⟨_,_,rfl,rfl,_,_,rfl,rfl⟩
    ·rintro Z H4 ⟨f,j,rfl,rfl⟩;refine ⟨_,rfl,_,_,rfl,rfl,⟨by decide,by decide +kernel⟩,(by show 1<=sizeLine;decide),fun p hp=>?_⟩;exact q p (f / 64) _ (g1.free hp) (g1.trans (Vg hp _)) u8
end
def vX (K:Fg):List PV->Prop:=fun xs=>∃(ns:List Int)(k:Int),xs=[scr K ns,.at (.int k)]/\ns.length<=63/\0<=k/\k<=12
def vA:List PV->PV->Prop:=fun _ y=>∃ n:Int,y = .lst [.at (.int n)]
theorem To {K:Fg}{vs:List V}{H:Hp}{Q:VK}{E:XK}(h:spN (vX K) vA vs H Q E):BR K vs H Q E:=by obtain ⟨Hs,xs,sm,r,⟨ns,k,rfl,h63,k0,k1⟩,q⟩:=h;obtain ⟨v,w,rfl,p1,p2⟩:=reps_cons.mp r;obtain ⟨u,z,rfl,p3,p4⟩:=reps_cons.mp p2;cases reps_nil.mp p4;cases rep_at.mp p3;obtain ⟨a,rfl,hS⟩:=RX sm p1;exact ⟨a,ns,k,rfl,hS,h63,k0,k1,fun b n H' nb g e=>q _ b Hs H' ⟨n,rfl⟩ ⟨.refl _,g,sm.trans g,fun _ _ z=>z⟩ nb (sm.free nb) ⟨_,e,.one (rep_at.mpr rfl)⟩⟩
section
theorem NJ (F:Fun K "_law_stream" "_law_stream" Xz f fd)(Ec:Fn P w K mg base 1 "_law_mixed" ["cell", "k"] Ym)(Ad:mg "len"=none)(Ac:mg "range"=none)(Ih:mg "sum"=none):FnOk P w K mg base w6 2 f fd ["script", "k"] (spN (vX K) vA):=(NK F Ec Ad Ac Ih).imp fun _ _ _ _ h=>To h
end
def qD:Int:=10 ^ 30
theorem Lh {k:Int}(h0:0<=k)(h1:k<=2*qD):k.natAbs.log2<9000:=by
 have hb:(2*qD).toNat<2 ^ 9000:=Nat.lt_of_lt_of_le (show (2*qD).toNat<2 ^ 110 by decide +kernel) (Nat.pow_le_pow_right (by decide) (by decide));have:k.natAbs<2 ^ 9000:=by omega
 by_cases hz:k.natAbs=0
 ·rw [hz];decide
 ·exact (Nat.log2_lt hz).mpr this
theorem wF {n k:Int}(h0:0<k)(h1:k<=2*qD):XN n k:=⟨h0,Lh (by omega) h1⟩
theorem wj:(1000:Int)<=qD:=by decide +kernel
def i0 (rss:List (List Int)):PV:= .lst (rss.map fun r=> .lst (r.map fun n=> .at (.int n)))
theorem jS {ε:ME}{a:MA}{k:Nat}(h:a ε=some [.at (.int (k:Int))])(hk:k<=lim):xA a ε=some (zh 0 k):=by have hlim:(lim:Int)=1000000:=rfl;have hl:lim=1000000:=rfl;unfold xA;rw [h];show (if -(lim:Int)<=(k:Int)/\(k:Int)<=(lim:Int) then some (zh 0 (k:Int).toNat) else none)=_;rw [if_pos ⟨by omega,by omega⟩,Int.toNat_natCast]
def v7 (ss:List Str):List PV:=ss.map fun s=> .at (.str s)
theorem qZ (ss:List Str):(v7 ss).length=ss.length:=List.length_map _
def Low (x:Str):Prop:=∀ c∈x.cps.toList,97<=c/\c<=122
structure wq (x:Str):Prop where
 low:Low x
 one:1<=x.length
 eight:x.length<=8
theorem Vx:∀ ss:List Str,ats (v7 ss)=some (ss.map V.str)
 |[]=>rfl
 |s::ss=>by
  show (ats (v7 ss)).map (V.str s::·)=_;rw [Vx ss];rfl
theorem GT (x:Str):∀ ss:List Str,inV (.str x) (ss.map V.str)=decide (x∈ss)
 |[]=>by simp [inV]
 |s::ss=>by
  have ih:=GT x ss;unfold inV at ih ⊢;rw [List.map_cons,List.any_cons,ih];have e:qu (.str s) (.str x)=decide (s=x):=rfl;rw [e];by_cases h:s=x
  ·subst h;simp
  ·simp [h,Ne.symm h]
theorem GN (ss:List Str):(ss.map V.str).all p7=true:=by rw [List.all_eq_true];intro v hv;obtain ⟨s,_,rfl⟩:=List.mem_map.mp hv;rfl
theorem GU (neg:Bool)(x:Str)(ss:List Str):pIn neg (.at (.str x)) (.lst (v7 ss))=some (.at (.bl (if neg then !decide (x∈ss) else decide (x∈ss)))):=by show (ats (v7 ss)).bind _=_;rw [Vx,Option.bind_some,if_pos ⟨rfl,GN ss⟩,GT]
structure Cl where
 name:Str
 hue:Nat
 len:Int
 due:Int
 wt:Int
def Cl.pv (c:Cl):PV:= .tup [.at (.str c.name),.at (.int c.hue),.at (.int c.len),.at (.int c.due),.at (.int c.wt)]
structure Cl.Ok (h:Nat)(c:Cl):Prop where
 nm:wq c.name
 hu:c.hue<h
 l1:1<=c.len
 l2:c.len<=qD
 d1:-qD<=c.due
 d2:c.due<=qD
 w1:1<=c.wt
 w2:c.wt<=qD
theorem ZM {α β:Type}{f:α->β}(hf:∀ x y,f x=f y->x=y):∀{a b:List α},a.map f=b.map f->a=b
 |[],[],_=>rfl
 |[],_::_,h=>by cases h
 |_::_,[],h=>by cases h
 |x::a,y::b,h=>by
  rw [List.map_cons,List.map_cons] at h;injection h with h1 h2;rw [hf x y h1,ZM hf h2]
theorem VU {α β:Type}(f:α->β):∀(l:List α)(i:Nat),(l.map f).eraseIdx i=(l.eraseIdx i).map f
 |[],_=>rfl
 |_::_,0=>rfl
 |x::l,i+1=>by simp [VU f l i]
theorem KP {α:Type}:∀{ss:List α}{j:Nat}(h:j<ss.length),(ss[j]::ss.eraseIdx j).Perm ss
 |x::ss,0,_=>List.Perm.refl _
 |x::ss,j+1,h=>by
  have hj:j<ss.length:=by simpa using h
  have ih:=KP hj;show (ss[j]::x::ss.eraseIdx j).Perm (x::ss);exact (List.Perm.swap _ _ _).trans (ih.cons x)
structure Dr where
 h:Nat
 rss:List (List Int)
 cls:List Cl
 last:Int
 time:Int
def Dr.pv (d:Dr):PV:= .tup [i0 d.rss,.lst (d.cls.map Cl.pv),.at (.int d.last),.at (.int d.time)]
structure Dr.Ok (d:Dr):Prop where
 h1:1<=d.h
 h4:d.h<=4
 rin:i7 d.h d.rss
 ten:d.cls.length<=10
 cl:∀ c∈d.cls,c.Ok d.h
 nd:(d.cls.map Cl.name).Nodup
 l1:-1<=d.last
 l2:d.last<d.h
 t1:0<=d.time
 t2:d.time<60*qD
theorem HM {a b:Cl}(h:a.pv=b.pv):a=b:=by cases a;cases b;unfold Cl.pv at h;injection h with h;simp only [List.cons.injEq,PV.at.injEq,V.str.injEq,V.int.injEq] at h;obtain ⟨h1,h2,h3,h4,h5,_⟩:=h;have h2:=Int.ofNat.inj h2;subst h1 h2 h3 h4 h5;rfl
theorem Dm {d e:Dr}(h:d.pv=e.pv):d.cls=e.cls:=by unfold Dr.pv at h;injection h with h;injection h with _ h;injection h with h _;injection h with h;exact ZM (fun _ _=>HM) h
def T26:Int:=10 ^ 26
def T27:Int:=10 ^ 27
theorem Ts:T27=10*T26/\qD=1000*T27/\1000<T26:=by decide +kernel
theorem pow26:pPow (.at (.int 10)) (.at (.int 26))=some (.at (.int T26)):=by show (if jW 10 26 then some (V.int (10 ^ (26:Int).toNat)) else none).map PV.at=_;rw [if_pos ⟨by decide,by decide,by decide⟩];rfl
theorem pow27:pPow (.at (.int 10)) (.at (.int 27))=some (.at (.int T27)):=by show (if jW 10 27 then some (V.int (10 ^ (27:Int).toNat)) else none).map PV.at=_;rw [if_pos ⟨by decide,by decide,by decide⟩];rfl
theorem UV {n:Int}(h0:-qD<=n)(h1:n<=qD):Builtin.Int.intBits n<=2 ^ 20:=by
 have hb:qD<2 ^ 120:=by decide +kernel
 exact Nat.le_trans (PyProof.Rows.intBits_le (k:=120) (by omega)) (by decide)
theorem Xm {a b:Int}(a0:-qD<=a)(a1:a<=qD)(b0:-qD<=b)(b1:b<=qD):vT (.at (.int a)) (.at (.int b))=some (.at (.int (a*b))):=by show (if QD a b then some (V.int (a*b)) else none).map PV.at=_;rw [if_pos ⟨UV a0 a1,UV b0 b1⟩];rfl
def zC:List PV->Prop:=fun xs=>∃ b:Bool,xs=[.at (.bl b)]
def zI:List PV->PV->Prop:=fun _ y=>∃ n:Int,y = .at (.int n)/\0<=n/\n<10*T27
abbrev JT:Stmt:=top 58
abbrev UB (K:Fg):WS:=(wSeq (qq 2 (qH 0 (wP (dC (.int 10)))))
  (wSeq (xG (wPT (i9 (q9 1))) (qq 2 (xM qm (wP (x8 vT (q9 2) (x8 pPow (dC (.int 10)) (dC (.int 27))))) (qH 0 (wP (dC (.int 3)))))) xS)
  (xb (wP (q8 2)))))
theorem sc_number:y7 ["row", "great", "number"] ["row", "great"] (j8 JT):=u7
theorem DU:∀ xs,zC xs->xs.length+1=(["row", "great"]:List Str).length:=by rintro xs ⟨b,rfl⟩;rfl
theorem Mb {K:Fg}:∀ xs n,zC xs->UB K (m7 n::xs.map .sh++List.replicate ((["row", "great", "number"]:List Str).length-(xs.length+1)) .no) (fun _=>False) fun y ε=>zI xs y/\zt 0 ε:=by
 rintro xs n ⟨b,rfl⟩;have hB:=wj;obtain ⟨t1,t2,t3⟩:=Ts;refine ⟨⟨n,rfl⟩,_,rfl,n,10,rfl,rfl,⟨by decide,by decide⟩,?_⟩;have a0:0<=n % 10:=Int.emod_nonneg _ (by decide);have a1:n % 10<10:=Int.emod_lt_of_pos _ (by decide);cases b with
 |false=>exact vy rfl ⟨_,rfl,⟨_,rfl,a0,by omega⟩,_,rfl⟩
 |true =>
  have b0:0<=n / 10 % 3:=Int.emod_nonneg _ (by decide);have b1:n / 10 % 3<3:=Int.emod_lt_of_pos _ (by decide);refine Vo rfl ⟨_,y3 rfl (y3 rfl rfl pow27) (Xm (a:=n % 10) (b:=T27) (by omega) (by omega) (by omega) (by omega)),⟨_,rfl⟩,_,rfl,n / 10,3,rfl,rfl,⟨by decide,by decide⟩,_,rfl,_,rfl,⟨_,rfl,?_,?_⟩,_,rfl⟩
  ·generalize n % 10=p at a0 a1 ⊢;have:=Int.mul_nonneg a0 (show 0<=T27 by omega);omega
  ·generalize n % 10=p at a0 a1 ⊢;have:p*T27<=9*T27:=Int.mul_le_mul_of_nonneg_right (by omega) (by omega);omega
theorem NE (F:Fun K "_law_number" "_law_number" JT f fd)(Ae:Fn P w K mg base 1 "_law_digit" ["row", "many"] vp):FnOk P w K mg base w6 2 f fd ["row", "great"] (spD zC zI) :=
 okD (k:=1) (b:=UB K) F sc_number DU (fun cdv A outer s H E hr=>⟨_,(@j3 _ _ _ _ _ (@qQ _ _ 2 _ _ _ _ sc_number.nd rfl (Or.inl rfl) (w4 Ae hr (by decide) rfl (@v9 _ _ _ _ _ (pv 0) (@v9 _ _ _ _ _ z0 g0 (by rfl)) (by rfl))) (by rfl) (.inl rfl))
  (@j3 _ _ _ _ _ (o6 (qR (K:=K) rfl (pv 1) (fun _=>rfl)) (@j4 _ _ _ (@qQ _ _ 2 _ _ _ _ sc_number.nd rfl (Or.inl rfl) (u5 (xu (K:=K) rfl) (u5 (Qn) (pv 2) (u5 (Qo) z0 z0)) (w4 Ae hr (by decide) rfl (@v9 _ _ _ _ _ (pv 0) (@v9 _ _ _ _ _ z0 g0 (by rfl)) (by rfl)))) (by rfl) (.inl rfl))) o7)
  (@j4 _ _ _ (y6 (pv 2))))),
  (by repeat' first|infer_instance|(refine @Mi.instSemWSTSeqWSeq _ _ _ _ ?_ ?_)|(apply @Mi.instSemWSTForWForOfSemWIOfSemWG))⟩) Mb
def jv (r:List Int):PV:= .lst (r.map fun n=> .at (.int n))
def Xu:List PV->Prop:=fun xs=>∃(h:Nat)(b:Bool),xs=[.at (.int h),.at (.bl b)]/\1<=h/\h<=4
def ww:List PV->PV->Prop:=fun xs y=>∃(h:Nat)(b:Bool)(rss:List (List Int)),xs=[.at (.int h),.at (.bl b)]/\y=i0 rss/\i7 h rss
abbrev JV:Stmt:=top 59
abbrev UD (K:Fg):WS:=(wSeq (qq 3 (qH 0 (wP (dC (.int 4)))))
  (wSeq (wg 4 (xz x6))
  (wSeq (wFor (wIp (xA (q0 (x8 qm (q9 1) (dC (.int 1))) x6))) (v6 5) (wSeq (qq 6 (jw [none,some 0,some 2] [0] (wIp (xA (q0 (q8 1) x6))) (v6 0) zZ (zr 1 zC zI (m3 (wP (q8 2)) qT))))
  (wSeq (xG (wPT (dT (x8 qX (q9 3) (dC (.int 0))))) (qq 6 (wP (x8 pRep (xz (q0 (dC (.int 0)) x6)) (q9 1)))) xS)
  (wSeq (xG (wPT (dT (x8 qX (q9 3) (dC (.int 1))))) (qq 6 (jw [none,some 0] [0] (wIp (o9 (q8 6))) (v6 0) zZ (xM vT (wP (q8 0)) (qH 1 (wP (dC (.int 2))))))) xS)
  (wf 4 (wP (q8 6)))))))
  (wFz 4 (xb (wP (q8 4)))))))
theorem sc_rinses:y7 ["row", "hues", "great", "way", "found", "first", "numbers"] ["row", "hues", "great"] (j8 JV):=u7
theorem DW:∀ xs,Xu xs->xs.length+1=(["row", "hues", "great"]:List Str).length:=by rintro xs ⟨h,b,rfl,_⟩;rfl
structure wy (h:Nat)(r:List Int):Prop where
 len:r.length=h
 lo:∀ v∈r,0<=v/\v<10 ^ 30
theorem Md {K:Fg}:∀ xs n,Xu xs->UD K (m7 n::xs.map .sh++List.replicate ((["row", "hues", "great", "way", "found", "first", "numbers"]:List Str).length-(xs.length+1)) .no) (fun _=>False) fun y ε=>ww xs y/\zt 0 ε:=by
 rintro xs n ⟨h,b,rfl,h1,h4⟩;have hl:lim=1000000:=rfl;obtain ⟨t1,t2,t3⟩:=Ts;have eB:qD=10 ^ 30:=rfl;refine ⟨⟨n,rfl⟩,_,rfl,n,4,rfl,rfl,⟨by decide,by decide⟩,_,rfl,?_⟩;generalize n % 4=way;generalize n / 4=n1;refine ⟨zh 0 (h+1),jS rfl (by omega),?_⟩;refine Wt (fun rest ε=>∃(m:Int)(rss:List (List Int))(s5 s6:MSlot),rss.length+rest.length=h+1/\(∀ r∈rss,wy h r)/\ε=[m7 m,.sh (.at (.int (h:Int))),.sh (.at (.bl b)),.sh (.at (.int way)),.ow (.lst (rss.map jv)),s5,s6]) ?_ ?_ _ _ ⟨n1,[],_,_,by rw [jU];simp,(fun _ z=>nomatch z),rfl⟩
 ·rintro ε ⟨m,rss,s5,s6,e1,e2,rfl⟩;exact ⟨_,rfl,⟨h,b,rss,rfl,rfl,by simpa using e1,fun r hr=>⟨(e2 r hr).len,(e2 r hr).lo⟩⟩,m,rfl⟩
 ·rintro x rest ε ⟨m,rss,s5,s6,e1,e2,rfl⟩;simp only [List.length_cons] at e1;refine ⟨_,rfl,zh 0 h,jS rfl (by omega),rfl,by rw [jU];omega,?_⟩;have app:∀(m:Int)(r:List Int),wy h r->wf 4 (wP (q8 6)) [m7 m,.sh (.at (.int (h:Int))),.sh (.at (.bl b)),.sh (.at (.int way)),.ow (.lst (rss.map jv)),.sh x,.sh (jv r)] (fun ε=>∃(m:Int)(rss:List (List Int))(s5 s6:MSlot),rss.length+rest.length=h+1/\(∀ r∈rss,wy h r)/\ε=[m7 m,.sh (.at (.int (h:Int))),.sh (.at (.bl b)),.sh (.at (.int way)),.ow (.lst (rss.map jv)),s5,s6]) (fun y ε=>ww [.at (.int h),.at (.bl b)] y/\zt 0 ε):=by
   intro m r hr;refine ⟨⟨_,rfl⟩,_,rfl,_,rfl,by rw [List.length_map];omega,m,rss++[r],.sh x,.sh (jv r),by rw [List.length_append];simp;omega,?_,by rw [List.map_append];rfl⟩;intro q hq;rcases List.mem_append.mp hq with hq|hq
   ·exact e2 q hq
   ·rw [List.mem_singleton.mp hq];exact hr
  have if1:∀(m:Int)(r:List Int),wy h r->(wSeq (xG (wPT (dT (x8 qX (q9 3) (dC (.int 1))))) (qq 6 (jw [none,some 0] [0] (wIp (o9 (q8 6))) (v6 0) zZ (xM vT (wP (q8 0)) (qH 1 (wP (dC (.int 2))))))) xS) (wf 4 (wP (q8 6)))) [m7 m,.sh (.at (.int (h:Int))),.sh (.at (.bl b)),.sh (.at (.int way)),.ow (.lst (rss.map jv)),.sh x,.sh (jv r)] (fun ε=>∃(m:Int)(rss:List (List Int))(s5 s6:MSlot),rss.length+rest.length=h+1/\(∀ r∈rss,wy h r)/\ε=[m7 m,.sh (.at (.int (h:Int))),.sh (.at (.bl b)),.sh (.at (.int way)),.ow (.lst (rss.map jv)),s5,s6]) (fun y ε=>ww [.at (.int h),.at (.bl b)] y/\zt 0 ε):=by
   intro m r hr;by_cases hw:way=1
   ·subst hw;refine Vo (r9 (v:=true) rfl) ⟨_,rfl,rfl,by rw [List.length_map,hr.len];omega,?_⟩;refine QL (fun todo zs ε=>∃(m:Int)(done left:List Int),ε=[.no,m7 m]/\todo=left.map (fun n=>PV.at (.int n))/\zs=done.map (fun n=>PV.at (.int n))/\done.length+left.length=h/\(∀ v∈left,0<=v/\v<10 ^ 30)/\∀ v∈done,0<=v/\v<10 ^ 30) ?_ ?_ _ [] _ ⟨m,[],r,rfl,rfl,rfl,by rw [hr.len];simp,hr.lo,(fun _ z=>nomatch z)⟩
    ·rintro zs ε ⟨m2,done,left,rfl,z,rfl,g1,g2,g3⟩;have e:left=[]:=by cases left with|nil=>rfl|cons _ _=>cases z
     subst e;exact ⟨fun _=>⟨_,rfl⟩,app _ done ⟨by simpa using g1,g3⟩⟩
    ·rintro x2 rest2 zs ε ⟨m2,done,left,rfl,z,rfl,g1,g2,g3⟩;cases left with
     |nil=>cases z
     |cons v left =>
      rw [List.map_cons] at z;injection z with z1 z2;subst z1;simp only [List.length_cons] at g1;have v0:=g2 v List.mem_cons_self;rw [<- eB] at v0;have c0:0<=m2 % 2:=Int.emod_nonneg _ (by decide);have c1:m2 % 2<2:=Int.emod_lt_of_pos _ (by decide);refine ⟨_,rfl,_,rfl,⟨_,rfl⟩,_,rfl,m2,2,rfl,rfl,⟨by decide,by decide⟩,_,Xm (a:=v) (b:=m2 % 2) (by omega) (by omega) (by omega) (by omega),m2 / 2,done++[v*(m2 % 2)],left,rfl,z2,by rw [List.map_append];rfl,by rw [List.length_append];simp;omega,fun w hw=>g2 w (List.mem_cons_of_mem _ hw),fun w hw=>?_⟩;rcases List.mem_append.mp hw with hw|hw
      ·exact g3 w hw
      ·rw [List.mem_singleton.mp hw,<- eB];have:m2 % 2=0∨m2 % 2=1:=by omega
       rcases this with e|e<;>rw [e]<;>omega
   ·refine vy (r9 (v:=false) ?_) (app m r hr);show some (PV.at (.bl (decide (way=1))))=_;rw [decide_eq_false hw]
  refine QL (fun rest2 zs ε=>∃(m:Int)(r:List Int),ε=[.no,m7 m,.sh (.at (.bl b))]/\zs=r.map (fun n=>PV.at (.int n))/\r.length+rest2.length=h/\(∀ v∈r,0<=v/\v<10 ^ 30)) ?_ ?_ _ [] _ ⟨m,[],rfl,rfl,by rw [jU];simp,(fun _ z=>nomatch z)⟩
  ·rintro zs ε ⟨m2,r,rfl,rfl,g1,g2⟩;have hr:wy h r:=⟨by simpa using g1,g2⟩;refine ⟨fun _=>⟨_,rfl⟩,?_⟩;by_cases hw:way=0
   ·subst hw;refine Vo (r9 (v:=true) rfl) ⟨jv (List.replicate h 0),?_,if1 m2 _ ⟨List.length_replicate,fun v hv=>?_⟩⟩
    ·refine y3 (jD (xs:=[.at (.int 0)]) rfl l1) rfl ?_;show (if -(lim:Int)<=(h:Int)/\(h:Int)<=lim/\[PV.at (.int 0)].length*(h:Int).toNat<=lim then some (PV.lst (List.replicate (h:Int).toNat [PV.at (.int 0)]).flatten) else none)=_;rw [if_pos ⟨by omega,by omega,by simp;omega⟩];unfold jv;simp
    ·rw [List.eq_of_mem_replicate hv];decide
   ·refine vy (r9 (v:=false) ?_) (if1 m2 r hr);show some (PV.at (.bl (decide (way=0))))=_;rw [decide_eq_false hw]
  ·rintro x2 rest2 zs ε ⟨m2,r,rfl,rfl,g1,g2⟩;simp only [List.length_cons] at g1;refine ⟨_,rfl,⟨_,rfl⟩,_,rfl,⟨_,rfl⟩,⟨b,rfl⟩,?_⟩;rintro y n' ⟨v,rfl,v0,v1⟩;refine ⟨n',r++[v],rfl,by rw [List.map_append];rfl,by rw [List.length_append];simp;omega,fun q hq=>?_⟩;rcases List.mem_append.mp hq with hq|hq
   ·exact g2 q hq
   ·rw [List.mem_singleton.mp hq,<- eB];exact ⟨v0,by omega⟩
theorem NG (F:Fun K "_law_rinses" "_law_rinses" JV f fd)(Ae:Fn P w K mg base 1 "_law_digit" ["row", "many"] vp)(Ap:Fn P w K mg base 2 "_law_number" ["row", "great"] (spD zC zI))(Ac:mg "range"=none):FnOk P w K mg base w6 3 f fd ["row", "hues", "great"] (spD Xu ww) :=
 okD (k:=2) (b:=UD K) F sc_rinses DW (fun cdv A outer s H E hr=>⟨_,(@j3 _ _ _ _ _ (@qQ _ _ 3 _ _ _ _ sc_rinses.nd rfl (Or.inl rfl) (w4 Ae hr (by decide) rfl (@v9 _ _ _ _ _ (pv 0) (@v9 _ _ _ _ _ z0 g0 (by rfl)) (by rfl))) (by rfl) (.inl rfl))
  (@j3 _ _ _ _ _ (@qQ _ _ 4 _ _ _ _ sc_rinses.nd rfl (Or.inl rfl) (@zf _ _ _ _ g0) (by rfl) (.inl rfl))
  (@j3 _ _ _ _ _ (xD PassesOwn.never rfl (zo rfl Ac (@v9 _ _ _ _ _ (u5 (xu (K:=K) rfl) (pv 1) z0) g0 (by rfl))) (u6 (i:=5) sc_rinses.nd rfl (Or.inl rfl))
   (@j3 _ _ _ _ _ (vY (i:=6) (N':=["hue", "row", "great"]) (cap:=[none,some 0,some 2]) (qf rfl rfl rfl) rfl sc_rinses.nd rfl rfl (zo rfl Ac (@v9 _ _ _ _ _ (pv 1) g0 (by rfl))) (fun _ _ _ _ _ _=>(u6 (i:=0) (by show (["hue", "row", "great"]:List Str).Nodup;decide +kernel) rfl (Or.inl rfl))) (fun _ _ _ _ _ _=>ql) (fun _ _ _ _ _ _=>(w4 Ap hr (by decide) rfl (@v9 _ _ _ _ _ (pv 1) (@v9 _ _ _ _ _ (pv 2) g0 (by rfl)) (by rfl)))))
  (@j3 _ _ _ _ _ (o6 (qh (jm (K:=K) (xm hr) rfl) (pv 3) z0 (i4 _)) (@j4 _ _ _ (@qQ _ _ 6 _ _ _ _ sc_rinses.nd rfl (Or.inl rfl) (u5 (NY) (@zf _ _ _ _ (@v9 _ _ _ _ _ z0 g0 (by rfl))) (pv 1)) (by rfl) (.inl rfl))) o7)
  (@j3 _ _ _ _ _ (o6 (qh (jm (K:=K) (xm hr) rfl) (pv 3) z0 (i4 _)) (@j4 _ _ _ (vY (i:=6) (N':=["number", "row"]) (cap:=[none,some 0]) (qf rfl rfl rfl) rfl sc_rinses.nd rfl rfl (@qC _ K _ _ _ rfl (pv 6)) (fun _ _ _ _ _ _=>(u6 (i:=0) (by show (["number", "row"]:List Str).Nodup;decide +kernel) rfl (Or.inl rfl))) (fun _ _ _ _ _ _=>ql) (fun _ _ _ _ _ _=>(u5 (Qn) (pv 0) (w4 Ae hr (by decide) rfl (@v9 _ _ _ _ _ (pv 1) (@v9 _ _ _ _ _ z0 g0 (by rfl)) (by rfl))))))) o7)
  (@j4 _ _ _ (jQ (jq (K:=K) rfl PySem.F.plainAttrs_list PySem.F.slot_list_append PySem.F.type_list_append ZQ (pv 4) (v9 (pv 6) g0))))))))
  (@j4 _ _ _ (y6 (pv 4)))))),
  (by repeat' first|infer_instance|(refine @Mi.instSemWSTSeqWSeq _ _ _ _ ?_ ?_)|(apply @Mi.instSemWSTForWForOfSemWIOfSemWG))⟩) Md
def twelve:List Str:=["b", "ab", "a", "abc", "ba", "aa", "z", "abcdefgh", "abcdefgi", "zz", "abcd", "bb"]
theorem TL:twelve.Nodup:=by decide +kernel
theorem TM:∀ s∈twelve,wq s:=by
 have:∀ s∈twelve,(∀ c∈s.cps.toList,97<=c/\c<=122)/\1<=s.length/\s.length<=8:=by decide +kernel
 exact fun s hs=>⟨(this s hs).1,(this s hs).2.1,(this s hs).2.2⟩
def Xs:List PV->Prop:=fun xs=>∃ k:Nat,xs=[.at (.int k)]/\k<=12
def XR:List PV->PV->Prop:=fun xs y=>∃ ss:List Str,y = .lst (v7 ss)/\xs=[.at (.int ss.length)]/\ss.Nodup/\∀ s∈ss,wq s
abbrev JR:Stmt:=top 60
abbrev Uz (K:Fg):WS:=(wSeq (wg 2 (xz (q0 (dC (.str "b")) (q0 (dC (.str "ab")) (q0 (dC (.str "a")) (q0 (dC (.str "abc")) (q0 (dC (.str "ba")) (q0 (dC (.str "aa")) (q0 (dC (.str "z")) (q0 (dC (.str "abcdefgh")) (q0 (dC (.str "abcdefgi")) (q0 (dC (.str "zz")) (q0 (dC (.str "abcd")) (q0 (dC (.str "bb")) x6))))))))))))))
  (xb (jw [none,some 2,some 0] [0] (wIp (xA (q0 (q8 1) x6))) (v6 0) zZ (XM 1 (qH 2 (wP (x9 qj (q0 (q9 1) x6))))))))
theorem sc_names:y7 ["row", "many", "free"] ["row", "many"] (j8 JR):=u7
theorem DT:∀ xs,Xs xs->xs.length+1=(["row", "many"]:List Str).length:=by rintro xs ⟨k,rfl,_⟩;rfl
theorem KW {free got all:List Str}{j:Nat}(h:j<free.length)(p:(got++free).Perm all):((got++[free[j]])++free.eraseIdx j).Perm all:=by rw [List.append_assoc];exact ((KP h).append_left got).trans p
theorem Ma {K:Fg}:∀ xs n,Xs xs->Uz K (m7 n::xs.map .sh++List.replicate ((["row", "many", "free"]:List Str).length-(xs.length+1)) .no) (fun _=>False) fun y ε=>XR xs y/\zt 0 ε:=by
 rintro xs n ⟨k,rfl,hk⟩;have hl:lim=1000000:=rfl;have hB:=wj;refine ⟨_,rfl,?_⟩;refine ⟨zh 0 k,jS rfl (by omega),rfl,by rw [jU];omega,?_⟩;refine QL (fun rest ys ε=>∃(m:Int)(free got:List Str),ε=[.no,.ow (.lst (v7 free)),m7 m]/\ys=v7 got/\got.length+rest.length=k/\(got++free).Perm twelve) ?_ ?_ (zh 0 k) [] _ ⟨n,twelve,[],rfl,rfl,by rw [jU];simp,.refl _⟩
 ·rintro ys ε ⟨m,free,got,rfl,rfl,h1,h2⟩;have nd:(got++free).Nodup:=h2.nodup_iff.mpr TL;refine ⟨fun _=>⟨_,rfl⟩,⟨got,rfl,?_,(List.nodup_append.mp nd).1,fun s hs=>TM s (h2.mem_iff.mp (List.mem_append_left _ hs))⟩,m,rfl⟩;simp at h1;rw [h1]
 ·rintro x rest ys ε ⟨m,free,got,rfl,rfl,h1,h2⟩;simp only [List.length_cons] at h1;have hlen:=h2.length_eq;rw [List.length_append,show twelve.length=12 from rfl] at hlen;refine ⟨_,rfl,?_⟩;have hf:0<free.length:=by omega
  have c0:0<=m % (((v7 free).length:Nat):Int):=Int.emod_nonneg _ (by rw [qZ];omega);have c1:m % (((v7 free).length:Nat):Int)<(((v7 free).length:Nat):Int):=Int.emod_lt_of_pos _ (by rw [qZ];omega);refine ⟨⟨_,rfl⟩,⟨m,rfl⟩,_,rfl,m,(((v7 free).length:Nat):Int),rfl,rfl,wF (by rw [qZ];omega) (by rw [qZ];omega),?_⟩;generalize hj:m % (((v7 free).length:Nat):Int)=j at c0 c1;rw [qZ] at c1;have hjl:j.toNat<free.length:=by omega
  refine ⟨v7 free,j,.at (.str free[j.toNat]),rfl,rfl,c0,by rw [qZ];exact c1,by rw [qZ];omega,?_,?_⟩
  ·unfold v7;rw [List.getElem?_map,List.getElem?_eq_getElem hjl];rfl
  ·refine ⟨m / (((v7 free).length:Nat):Int),free.eraseIdx j.toNat,got++[free[j.toNat]],?_,?_,?_,KW hjl h2⟩
   ·show [MSlot.no,MSlot.ow (.lst ((v7 free).eraseIdx j.toNat)),m7 _]=_;unfold v7;rw [VU]
   ·unfold v7;rw [List.map_append];rfl
   ·rw [List.length_append];simp only [List.length_cons,List.length_nil];omega
theorem NC (F:Fun K "_law_names" "_law_names" JR f fd)(Ae:Fn P w K mg base 1 "_law_digit" ["row", "many"] vp)(Ad:mg "len"=none)(Ac:mg "range"=none):FnOk P w K mg base w6 2 f fd ["row", "many"] (spD Xs XR) :=
 okD (k:=1) (b:=Uz K) F sc_names DT (fun cdv A outer s H E hr=>⟨_,(@j3 _ _ _ _ _ (@qQ _ _ 2 _ _ _ _ sc_names.nd rfl (Or.inr rfl) (@zf _ _ _ _ (@v9 _ _ _ _ _ zg (@v9 _ _ _ _ _ zg (@v9 _ _ _ _ _ zg (@v9 _ _ _ _ _ zg (@v9 _ _ _ _ _ zg (@v9 _ _ _ _ _ zg (@v9 _ _ _ _ _ zg (@v9 _ _ _ _ _ zg (@v9 _ _ _ _ _ zg (@v9 _ _ _ _ _ zg (@v9 _ _ _ _ _ zg (@v9 _ _ _ _ _ zg g0 (by rfl)) (by rfl)) (by rfl)) (by rfl)) (by rfl)) (by rfl)) (by rfl)) (by rfl)) (by rfl)) (by rfl)) (by rfl)) (by rfl))) (by rfl) (.inl rfl))
  (@j4 _ _ _ (y6 (qG (N':=["k", "free", "row"]) (cap:=[none,some 2,some 0]) (qf rfl rfl rfl) rfl (zo rfl Ac (@v9 _ _ _ _ _ (pv 1) g0 (by rfl))) (fun _ _ _ _ _ _=>(u6 (i:=0) (by show (["k", "free", "row"]:List Str).Nodup;decide +kernel) rfl (Or.inl rfl))) (fun _ _ _ _ _ _=>ql) (fun _ _ _ _ _ _=>(jq (K:=K) rfl PySem.F.plainAttrs_list PySem.F.slot_list_pop PySem.F.type_list_pop WF (pv 1) (v9 (w4 Ae hr (by decide) rfl (@v9 _ _ _ _ _ (pv 2) (@v9 _ _ _ _ _ (m4 (xf (K:=K) rfl) rfl Ad PySem.boot_len (@v9 _ _ _ _ _ (pv 1) g0 (by rfl))) g0 (by rfl)) (by rfl))) g0))))))),
  (by repeat' first|infer_instance|(refine @Mi.instSemWSTSeqWSeq _ _ _ _ ?_ ?_)|(apply @Mi.instSemWSTForWForOfSemWIOfSemWG))⟩) Ma
def Qw:List PV->Prop:=fun xs=>∃(s:Str)(h:Nat)(b:Bool),xs=[.at (.str s),.at (.int h),.at (.bl b)]/\wq s/\1<=h/\h<=4
def wu:List PV->PV->Prop:=fun xs y=>∃(s:Str)(h:Nat)(b:Bool)(c:Cl),xs=[.at (.str s),.at (.int h),.at (.bl b)]/\y=c.pv/\c.name=s/\c.Ok h
abbrev Jp:Stmt:=top 61
abbrev YX (K:Fg):WS:=(wSeq (qq 4 (xM jM (qH 0 (wP (dC (.int 40)))) (wP (dC (.int 6)))))
  (wSeq (xG (wPT (i9 (q9 3))) (qq 4 (xM qm (wP (x8 vT (q9 4) (x8 pPow (dC (.int 10)) (dC (.int 26))))) (qH 0 (wP (dC (.int 3)))))) xS)
  (xb (QC (m3 (wP (q8 1)) (m3 (qH 0 (wP (q8 2))) (m3 (xM qm (wP (dC (.int 1))) (zr 0 zC zI (m3 (wP (q8 3)) qT))) (m3 (wP (q8 4)) (m3 (xM qm (wP (dC (.int 1))) (qH 0 (wP (dC (.int 9))))) qT)))))))))
theorem sc_cloth:y7 ["row", "name", "hues", "great", "due"] ["row", "name", "hues", "great"] (j8 Jp):=u7
theorem DS:∀ xs,Qw xs->xs.length+1=(["row", "name", "hues", "great"]:List Str).length:=by rintro xs ⟨s,h,b,rfl,_⟩;rfl
theorem DY {K:Fg}:∀ xs n,Qw xs->YX K (m7 n::xs.map .sh++List.replicate ((["row", "name", "hues", "great", "due"]:List Str).length-(xs.length+1)) .no) (fun _=>False) fun y ε=>wu xs y/\zt 0 ε:=by
 rintro xs n ⟨s,h,b,rfl,hs,h1,h4⟩;have hB:=wj;obtain ⟨t1,t2,t3⟩:=Ts;have rest:∀(n due:Int),-qD<=due->due<=qD->((xb (QC (m3 (wP (q8 1)) (m3 (qH 0 (wP (q8 2))) (m3 (xM qm (wP (dC (.int 1))) (zr 0 zC zI (m3 (wP (q8 3)) qT))) (m3 (wP (q8 4)) (m3 (xM qm (wP (dC (.int 1))) (qH 0 (wP (dC (.int 9))))) qT))))))):WS) [m7 n,.sh (.at (.str s)),.sh (.at (.int (h:Int))),.sh (.at (.bl b)),.sh (.at (.int due))] (fun _=>False) fun y ε=>wu [.at (.str s),.at (.int h),.at (.bl b)] y/\zt 0 ε:=by intro n due d1 d2;refine ⟨_,rfl,⟨_,rfl⟩,_,rfl,n,(h:Int),rfl,rfl,wF (by omega) (by omega),_,rfl,⟨_,rfl⟩,_,rfl,⟨_,rfl⟩,⟨b,rfl⟩,?_⟩;rintro y n' ⟨v,rfl,v0,v1⟩;have u0:0<=n % (h:Int):=Int.emod_nonneg _ (by omega);have u1:n % (h:Int)<h:=Int.emod_lt_of_pos _ (by omega);obtain ⟨u,hu⟩:=Int.eq_ofNat_of_zero_le u0;rw [hu] at u1 ⊢;have w0:0<=n' % 9:=Int.emod_nonneg _ (by decide);have w1:n' % 9<9:=Int.emod_lt_of_pos _ (by decide);exact ⟨_,rfl,_,rfl,_,rfl,⟨_,rfl⟩,_,rfl,n',9,rfl,rfl,⟨by decide,by decide⟩,_,rfl,l5,⟨s,h,b,⟨s,u,1+v,due,1+n' % 9⟩,rfl,rfl,rfl,⟨hs,(show u<h by omega),(show (1:Int)<=1+v by omega),(show 1+v<=qD by omega),d1,d2,(show (1:Int)<=1+n' % 9 by omega),(show 1+n' % 9<=qD by omega)⟩⟩,_,rfl⟩
 refine ⟨⟨n,rfl⟩,_,rfl,n,40,rfl,rfl,⟨by decide,by decide⟩,_,rfl,_,rfl,?_⟩;have a0:0<=n % 40:=Int.emod_nonneg _ (by decide);have a1:n % 40<40:=Int.emod_lt_of_pos _ (by decide);generalize n % 40=p at a0 a1 ⊢;generalize n / 40=n1;cases b with
 |false=>exact vy rfl (rest _ _ (by omega) (by omega))
 |true=>have b0:0<=n1 % 3:=Int.emod_nonneg _ (by decide);have b1:n1 % 3<3:=Int.emod_lt_of_pos _ (by decide);have m1:(p-6)*T26<=34*T26:=Int.mul_le_mul_of_nonneg_right (by omega) (by omega);have m2:-6*T26<=(p-6)*T26:=Int.mul_le_mul_of_nonneg_right (by omega) (by omega);exact Vo rfl ⟨_,y3 rfl (y3 rfl rfl pow26) (Xm (a:=p-6) (b:=T26) (by omega) (by omega) (by omega) (by omega)),⟨_,rfl⟩,_,rfl,n1,3,rfl,rfl,⟨by decide,by decide⟩,_,rfl,rest _ _ (by omega) (by omega)⟩
theorem LX (F:Fun K "_law_cloth" "_law_cloth" Jp f fd)(Ae:Fn P w K mg base 1 "_law_digit" ["row", "many"] vp)(Ap:Fn P w K mg base 2 "_law_number" ["row", "great"] (spD zC zI)):FnOk P w K mg base w6 3 f fd ["row", "name", "hues", "great"] (spD Qw wu) :=
 okD (k:=2) (b:=YX K) F sc_cloth DS (fun cdv A outer s H E hr=>⟨_,(@j3 _ _ _ _ _ (@qQ _ _ 4 _ _ _ _ sc_cloth.nd rfl (Or.inl rfl) (u5 (Qp) (w4 Ae hr (by decide) rfl (@v9 _ _ _ _ _ (pv 0) (@v9 _ _ _ _ _ z0 g0 (by rfl)) (by rfl))) z0) (by rfl) (.inl rfl))
  (@j3 _ _ _ _ _ (o6 (qR (K:=K) rfl (pv 3) (fun _=>rfl)) (@j4 _ _ _ (@qQ _ _ 4 _ _ _ _ sc_cloth.nd rfl (Or.inl rfl) (u5 (xu (K:=K) rfl) (u5 (Qn) (pv 4) (u5 (Qo) z0 z0)) (w4 Ae hr (by decide) rfl (@v9 _ _ _ _ _ (pv 0) (@v9 _ _ _ _ _ z0 g0 (by rfl)) (by rfl)))) (by rfl) (.inl rfl))) o7)
  (@j4 _ _ _ (y6 (@xZ _ _ _ _ _ (@v9 _ _ _ _ _ (pv 1) (@v9 _ _ _ _ _ (w4 Ae hr (by decide) rfl (@v9 _ _ _ _ _ (pv 0) (@v9 _ _ _ _ _ (pv 2) g0 (by rfl)) (by rfl))) (@v9 _ _ _ _ _ (u5 (xu (K:=K) rfl) z0 (w4 Ap hr (by decide) rfl (@v9 _ _ _ _ _ (pv 0) (@v9 _ _ _ _ _ (pv 3) g0 (by rfl)) (by rfl)))) (@v9 _ _ _ _ _ (pv 4) (@v9 _ _ _ _ _ (u5 (xu (K:=K) rfl) z0 (w4 Ae hr (by decide) rfl (@v9 _ _ _ _ _ (pv 0) (@v9 _ _ _ _ _ z0 g0 (by rfl)) (by rfl)))) g0 (by rfl)) (by rfl)) (by rfl)) (by rfl)) (by rfl))))))),
  (by repeat' first|infer_instance|(refine @Mi.instSemWSTSeqWSeq _ _ _ _ ?_ ?_)|(apply @Mi.instSemWSTForWForOfSemWIOfSemWG))⟩) DY
def Xt (K:Fg):List PV->Prop:=fun xs=>∃(ns:List Int)(m:Nat),xs=[scr K ns,.at (.int m)]/\ns.length<=63/\m<=10
def wv:List PV->PV->Prop:=fun xs y=>∃(d:Dr)(z:PV)(m:Nat),xs=[z,.at (.int m)]/\y=d.pv/\d.Ok/\d.cls.length<=m
abbrev JU:Stmt:=top 62
abbrev UC (K:Fg):WS:=(wSeq (Vm 2 (vX K) vA (m3 (wP (q8 0)) (m3 (wP (dC (.int 0))) qT)))
  (wSeq (qq 3 (xM qX (qH 2 (wP (dC (.int 6)))) (wP (dC (.int 5)))))
  (wSeq (qq 4 (xM qm (wP (dC (.int 1))) (qH 2 (wP (dC (.int 4))))))
  (wSeq (qq 5 (zr 2 Xu ww (m3 (wP (q8 4)) (m3 (wP (q8 3)) qT))))
  (wSeq (Vm 6 (vX K) vA (m3 (wP (q8 0)) (m3 (wP (dC (.int 1))) qT)))
  (wSeq (qq 7 (zr 6 Xs XR (m3 (qH 6 (wP (x8 qm (q9 1) (dC (.int 1))))) qT)))
  (wSeq (qq 8 (jw [none,some 6,some 4,some 3] [0] (wIp (o9 (q8 7))) (v6 0) zZ (zr 1 Qw wu (m3 (wP (q8 0)) (m3 (wP (q8 2)) (m3 (wP (q8 3)) qT))))))
  (xb (QC (m3 (wP (q8 5)) (m3 (wP (q8 8)) (m3 (xM jM (qH 2 (wP (x8 qm (q9 4) (dC (.int 1))))) (wP (dC (.int 1)))) (m3 (zr 2 zC zI (m3 (wP (q8 3)) qT)) qT)))))))))))))
theorem sc_parts:y7 ["script", "most", "row", "great", "hues", "rinses", "more", "names", "cloths"] ["script", "most"] (j8 JU):=u7
theorem DV {K:Fg}:∀ xs,Xt K xs->xs.length=(["script", "most"]:List Str).length:=by rintro xs ⟨ns,m,rfl,_⟩;rfl
theorem Mc {K:Fg}:∀ xs,Xt K xs->UC K (xs.map .sh++List.replicate ((["script", "most", "row", "great", "hues", "rinses", "more", "names", "cloths"]:List Str).length-xs.length) .no) (fun _=>False) fun y _=>wv xs y:=by
 rintro xs ⟨ns,mo,rfl,h63,hmo⟩;have hB:=wj;obtain ⟨t1,t2,t3⟩:=Ts;have hlim:lim=1000000:=rfl;refine ⟨_,rfl,_,rfl,⟨ns,0,rfl,h63,by decide,by decide⟩,?_⟩;rintro y ⟨n,rfl⟩
 -- great,hues
 refine ⟨⟨n,rfl⟩,_,rfl,n,6,rfl,rfl,⟨by decide,by decide⟩,_,rfl,_,rfl,?_⟩;generalize qu (.int (n % 6)) (.int 5)=great;generalize n / 6=n1;refine ⟨_,rfl,⟨_,rfl⟩,_,rfl,n1,4,rfl,rfl,⟨by decide,by decide⟩,_,rfl,?_⟩;have a0:0<=n1 % 4:=Int.emod_nonneg _ (by decide);have a1:n1 % 4<4:=Int.emod_lt_of_pos _ (by decide);obtain ⟨h,hh⟩:=Int.eq_ofNat_of_zero_le (show 0<=1+n1 % 4 by omega);generalize n1 / 4=n2;have hh1:1<=h:=by omega
 have hh4:h<=4:=by omega
 rw [hh];clear a0 a1 hh
 -- rinses
 refine ⟨⟨_,rfl⟩,_,rfl,_,rfl,⟨_,rfl⟩,⟨h,great,rfl,hh1,hh4⟩,?_⟩;rintro y n3 ⟨h',b',rss,e,rfl,hr⟩;have e':h'=h:=by injection e with e _;injection e with e;injection e with e;omega
 subst e';have fin:∀(n3 m:Int)(z:MSlot)(cs:List Cl),cs.length<=10->cs.length<=mo->(∀ c∈cs,c.Ok h')->(cs.map Cl.name).Nodup->((xb (QC (m3 (wP (q8 5)) (m3 (wP (q8 8)) (m3 (xM jM (qH 2 (wP (x8 qm (q9 4) (dC (.int 1))))) (wP (dC (.int 1)))) (m3 (zr 2 zC zI (m3 (wP (q8 3)) qT)) qT)))))):WS) [.sh (scr K ns),.sh (.at (.int (mo:Int))),m7 n3,.sh (.at (.bl great)),.sh (.at (.int (h':Int))),.sh (i0 rss),m7 m,z,.sh (.lst (cs.map Cl.pv))] (fun _=>False) fun y _=>wv [scr K ns,.at (.int (mo:Int))] y:=by intro n3 m z cs l10 lmo g1 nd;have d0:0<=n3 % ((h':Int)+1):=Int.emod_nonneg _ (by omega);have d1:n3 % ((h':Int)+1)<(h':Int)+1:=Int.emod_lt_of_pos _ (by omega);refine ⟨_,rfl,_,rfl,⟨n3,rfl⟩,_,rfl,n3,(h':Int)+1,rfl,rfl,wF (by omega) (by omega),_,rfl,_,rfl,⟨_,rfl⟩,_,rfl,⟨_,rfl⟩,⟨great,rfl⟩,?_⟩;rintro y n4 ⟨ti,rfl,ti0,ti1⟩;exact ⟨by show 4<=lim;decide,⟨h',rss,cs,n3 % ((h':Int)+1)-1,ti⟩,scr K ns,mo,rfl,rfl,⟨hh1,hh4,hr,l10,g1,nd,(by show -1<=n3 % ((h':Int)+1)-1;omega),(by show n3 % ((h':Int)+1)-1<(h':Int);omega),ti0,(by show ti<60*qD;omega)⟩,lmo⟩
 -- cloths
 have cloths:∀(n3 q2:Int)(ss:List Str)(k:Nat),ss.length=k->k<=mo->ss.Nodup->(∀ s∈ss,wq s)->((wSeq (qq 8 (jw [none,some 6,some 4,some 3] [0] (wIp (o9 (q8 7))) (v6 0) zZ (zr 1 Qw wu (m3 (wP (q8 0)) (m3 (wP (q8 2)) (m3 (wP (q8 3)) qT))))))
  (xb (QC (m3 (wP (q8 5)) (m3 (wP (q8 8)) (m3 (xM jM (qH 2 (wP (x8 qm (q9 4) (dC (.int 1))))) (wP (dC (.int 1)))) (m3 (zr 2 zC zI (m3 (wP (q8 3)) qT)) qT))))))):WS) [.sh (scr K ns),.sh (.at (.int (mo:Int))),m7 n3,.sh (.at (.bl great)),.sh (.at (.int (h':Int))),.sh (i0 rss),m7 q2,.sh (.lst (v7 ss)),.no] (fun _=>False) fun y _=>wv [scr K ns,.at (.int (mo:Int))] y:=by
  intro n3 q2 ss k el hkm nd nok;refine ⟨_,rfl,rfl,by rw [qZ];omega,?_⟩;refine QL (fun rest ys ε=>∃(m:Int)(todo:List Str)(cs:List Cl),rest=v7 todo/\ε=[.no,m7 m,.sh (.at (.int (h':Int))),.sh (.at (.bl great))]/\ys=cs.map Cl.pv/\cs.map Cl.name++todo=ss/\(∀ c∈cs,c.Ok h')) ?_ ?_ _ [] _ ⟨q2,ss,[],rfl,rfl,rfl,rfl,(fun _ z=>nomatch z)⟩
  ·rintro ys ε ⟨m,todo,cs,e2,rfl,rfl,e3,g1⟩;have:todo=[]:=by
    cases todo with
    |nil=>rfl
    |cons _ _=>cases e2
   subst this;rw [List.append_nil] at e3;have cl:cs.length=k:=by rw [<- el,<- e3,List.length_map]
   refine ⟨(fun ⟨y,e⟩=>nomatch (show some (MSlot.sh (scr K ns))=some (MSlot.ow y) from e)),?_⟩;exact fin n3 m _ cs (by omega) (by omega) g1 (by rw [e3];exact nd)
  ·rintro x rest ys ε ⟨m,todo,cs,e2,rfl,rfl,e3,g1⟩;cases todo with
   |nil=>cases e2
   |cons s todo =>
    have e2':x = .at (.str s)/\rest=v7 todo:=by injection e2 with e4 e5;exact ⟨e4,e5⟩
    obtain ⟨rfl,rfl⟩:=e2';have hs:s∈ss:=by rw [<- e3];exact List.mem_append_right _ List.mem_cons_self
    refine ⟨_,rfl,⟨_,rfl⟩,_,rfl,_,rfl,_,rfl,⟨_,rfl⟩,⟨s,h',great,rfl,nok s hs,hh1,hh4⟩,?_⟩;rintro y m2 ⟨s2,h2,b2,c,e4,rfl,en,ok⟩;injection e4 with e4 e5;injection e4 with e4;injection e4 with e4;injection e5 with e5 _;injection e5 with e5;injection e5 with e5;have e6:h'=h2:=by omega
    subst e4 e6;refine ⟨m2,todo,cs++[c],rfl,rfl,by rw [List.map_append];rfl,by rw [List.map_append,List.append_assoc,<- e3];show _++(c.name::todo)=_;rw [en],fun x hx=>?_⟩;rcases List.mem_append.mp hx with hx|hx
    ·exact g1 x hx
    ·rw [List.mem_singleton.mp hx];exact ok
 -- names
 refine ⟨_,rfl,_,rfl,⟨ns,1,rfl,h63,by decide,by decide⟩,?_⟩;rintro y ⟨q,rfl⟩;have c0:0<=q % ((mo:Int)+1):=Int.emod_nonneg _ (by omega);have c1:q % ((mo:Int)+1)<(mo:Int)+1:=Int.emod_lt_of_pos _ (by omega);obtain ⟨k,hk⟩:=Int.eq_ofNat_of_zero_le c0;refine ⟨⟨_,rfl⟩,⟨_,rfl⟩,_,rfl,q,(mo:Int)+1,rfl,rfl,wF (by omega) (by omega),⟨_,rfl⟩,⟨k,by rw [hk],by omega⟩,?_⟩;rintro y q2 ⟨ss,rfl,e1,nd,nok⟩;have el:ss.length=k:=by injection e1 with e1 _;injection e1 with e1;injection e1 with e1;rw [hk] at e1;omega
 exact cloths n3 q2 ss k el (by omega) nd nok
theorem NF (F:Fun K "_law_parts" "_law_parts" JU f fd)(Ig:Fn P w K mg base 3 "_law_cloth" ["row", "name", "hues", "great"] (spD Qw wu))(Ae:Fn P w K mg base 1 "_law_digit" ["row", "many"] vp)(Ex:Fn P w K mg base 2 "_law_names" ["row", "many"] (spD Xs XR))(Ap:Fn P w K mg base 2 "_law_number" ["row", "great"] (spD zC zI))(Em:Fn P w K mg base 3 "_law_rinses" ["row", "hues", "great"] (spD Xu ww))(A5:Fn P w K mg base 2 "_law_stream" ["script", "k"] (spN (vX K) vA)):FnOk P w K mg base w6 4 f fd ["script", "most"] (spV (Xt K) wv) :=
 okV (k:=3) (b:=UC K) F sc_parts DV (fun cdv A outer s H E hr=>⟨_,(@j3 _ _ _ _ _ (@qQ _ _ 2 _ _ _ _ sc_parts.nd rfl (Or.inl rfl) (w4 A5 hr (by decide) rfl (@v9 _ _ _ _ _ (pv 0) (@v9 _ _ _ _ _ z0 g0 (by rfl)) (by rfl))) (by rfl) (.inl rfl))
  (@j3 _ _ _ _ _ (@qQ _ _ 3 _ _ _ _ sc_parts.nd rfl (Or.inr rfl) (jN (jm (K:=K) (xm hr) rfl) (w4 Ae hr (by decide) rfl (@v9 _ _ _ _ _ (pv 2) (@v9 _ _ _ _ _ z0 g0 (by rfl)) (by rfl))) z0 (i4 _)) (by rfl) (.inl rfl))
  (@j3 _ _ _ _ _ (@qQ _ _ 4 _ _ _ _ sc_parts.nd rfl (Or.inr rfl) (u5 (xu (K:=K) rfl) z0 (w4 Ae hr (by decide) rfl (@v9 _ _ _ _ _ (pv 2) (@v9 _ _ _ _ _ z0 g0 (by rfl)) (by rfl)))) (by rfl) (.inl rfl))
  (@j3 _ _ _ _ _ (@qQ _ _ 5 _ _ _ _ sc_parts.nd rfl (Or.inl rfl) (w4 Em hr (by decide) rfl (@v9 _ _ _ _ _ (pv 2) (@v9 _ _ _ _ _ (pv 4) (@v9 _ _ _ _ _ (pv 3) g0 (by rfl)) (by rfl)) (by rfl))) (by rfl) (.inl rfl))
  (@j3 _ _ _ _ _ (@qQ _ _ 6 _ _ _ _ sc_parts.nd rfl (Or.inr rfl) (w4 A5 hr (by decide) rfl (@v9 _ _ _ _ _ (pv 0) (@v9 _ _ _ _ _ z0 g0 (by rfl)) (by rfl))) (by rfl) (.inl rfl))
  (@j3 _ _ _ _ _ (@qQ _ _ 7 _ _ _ _ sc_parts.nd rfl (Or.inl rfl) (w4 Ex hr (by decide) rfl (@v9 _ _ _ _ _ (pv 6) (@v9 _ _ _ _ _ (w4 Ae hr (by decide) rfl (@v9 _ _ _ _ _ (pv 6) (@v9 _ _ _ _ _ (u5 (xu (K:=K) rfl) (pv 1) z0) g0 (by rfl)) (by rfl))) g0 (by rfl)) (by rfl))) (by rfl) (.inl rfl))
  (@j3 _ _ _ _ _ (vY (i:=8) (N':=["name", "more", "hues", "great"]) (cap:=[none,some 6,some 4,some 3]) (qf rfl rfl rfl) rfl sc_parts.nd rfl rfl (@qC _ K _ _ _ rfl (pv 7)) (fun _ _ _ _ _ _=>(u6 (i:=0) (by show (["name", "more", "hues", "great"]:List Str).Nodup;decide +kernel) rfl (Or.inl rfl))) (fun _ _ _ _ _ _=>ql) (fun _ _ _ _ _ _=>(w4 Ig hr (by decide) rfl (@v9 _ _ _ _ _ (pv 1) (@v9 _ _ _ _ _ (pv 0) (@v9 _ _ _ _ _ (pv 2) (@v9 _ _ _ _ _ (pv 3) g0 (by rfl)) (by rfl)) (by rfl)) (by rfl)))))
  (@j4 _ _ _ (y6 (@xZ _ _ _ _ _ (@v9 _ _ _ _ _ (pv 5) (@v9 _ _ _ _ _ (pv 8) (@v9 _ _ _ _ _ (u5 (Qp) (w4 Ae hr (by decide) rfl (@v9 _ _ _ _ _ (pv 2) (@v9 _ _ _ _ _ (u5 (xu (K:=K) rfl) (pv 4) z0) g0 (by rfl)) (by rfl))) z0) (@v9 _ _ _ _ _ (w4 Ap hr (by decide) rfl (@v9 _ _ _ _ _ (pv 2) (@v9 _ _ _ _ _ (pv 3) g0 (by rfl)) (by rfl))) g0 (by rfl)) (by rfl)) (by rfl)) (by rfl)))))))))))),
  (by repeat' first|infer_instance|(refine @Mi.instSemWSTSeqWSeq _ _ _ _ ?_ ?_)|(apply @Mi.instSemWSTForWForOfSemWIOfSemWG))⟩) Mc
def Xv:List PV->Prop:=fun xs=>∃ d:Dr,xs=[d.pv]/\d.Ok
def QG:List PV->PV->Prop:=fun xs y=>∃(d:Dr)(os:List Str),xs=[d.pv]/\y = .lst (v7 os)/\os.Nodup/\∀ s∈os,s∈d.cls.map Cl.name
abbrev JW:Stmt:=top 69
abbrev UE (K:Fg):WS:=(wSeq (wg 2 (h8 [none] [0] (o9 (x8 w9 (q9 1) (dC (.int 1)))) (v6 0) i5 (x8 w9 (q9 0) (dC (.int 0)))))
  (wSeq (qq 3 (wP (x9 qj (q0 (q9 2) x6))))
  (wSeq (xG (wT (xM qX (qH 0 (wP (dC (.int 3)))) (wP (dC (.int 0))))) (qq 3 (qH 0 (wP (x8 qm (x9 qj (q0 (q9 2) x6)) (dC (.int 1)))))) xS)
  (xb (jw [none,some 2,some 0] [0] (wIp (xA (q0 (q8 3) x6))) (v6 0) zZ (XM 1 (qH 2 (wP (x9 qj (q0 (q9 1) x6))))))))))
theorem sc_some:y7 ["row", "parts", "free", "many"] ["row", "parts"] (j8 JW):=u7
theorem DX:∀ xs,Xv xs->xs.length+1=(["row", "parts"]:List Str).length:=by rintro xs ⟨d,rfl,_⟩;rfl
theorem Me {K:Fg}:∀ xs n,Xv xs->UE K (m7 n::xs.map .sh++List.replicate ((["row", "parts", "free", "many"]:List Str).length-(xs.length+1)) .no) (fun _=>False) fun y ε=>QG xs y/\zt 0 ε:=by
 rintro xs n ⟨d,rfl,ok⟩;have hl:lim=1000000:=rfl;have hB:=wj;have ten:=ok.ten;have fr:h8 [none] [0] (o9 (x8 w9 (q9 1) (dC (.int 1)))) (v6 0) i5 (x8 w9 (q9 0) (dC (.int 0))) [m7 n,.sh d.pv,.no,.no]=some (.lst (v7 (d.cls.map Cl.name))):=by refine (xk Cl.pv (fun c=>PV.at (.str c.name)) d.cls rfl rfl (by omega) fun c _=>⟨_,rfl,rfl⟩).trans ?_;unfold v7;rw [List.map_map];rfl
 refine ⟨_,fr,_,rfl,?_⟩;generalize hall:d.cls.map Cl.name=all;have al:all.length<=10:=by rw [<- hall,List.length_map];exact ten
 have rest:∀(n:Int)(k:Nat),k<=all.length->((xb (jw [none,some 2,some 0] [0] (wIp (xA (q0 (q8 3) x6))) (v6 0) zZ (XM 1 (qH 2 (wP (x9 qj (q0 (q9 1) x6))))))):WS) [m7 n,.sh d.pv,.ow (.lst (v7 all)),.sh (.at (.int (k:Int)))] (fun _=>False) fun y ε=>QG [d.pv] y/\zt 0 ε:=by
  intro n k hk;refine ⟨zh 0 k,jS rfl (by omega),rfl,by rw [jU];omega,?_⟩;refine QL (fun rest ys ε=>∃(m:Int)(free got:List Str),ε=[.no,.ow (.lst (v7 free)),m7 m]/\ys=v7 got/\got.length+rest.length=k/\(got++free).Perm all) ?_ ?_ (zh 0 k) [] _ ⟨n,all,[],rfl,rfl,by rw [jU];simp,.refl _⟩
  ·rintro ys ε ⟨m,free,got,rfl,rfl,h1,h2⟩;have nd:(got++free).Nodup:=h2.nodup_iff.mpr (hall▸ok.nd);exact ⟨fun _=>⟨_,rfl⟩,⟨d,got,rfl,rfl,(List.nodup_append.mp nd).1,fun s hs=>hall▸h2.mem_iff.mp (List.mem_append_left _ hs)⟩,m,rfl⟩
  ·rintro x rest ys ε ⟨m,free,got,rfl,rfl,h1,h2⟩;simp only [List.length_cons] at h1;have hlen:=h2.length_eq;rw [List.length_append] at hlen;refine ⟨_,rfl,?_⟩;have hf:0<free.length:=by omega
   have c0:0<=m % (((v7 free).length:Nat):Int):=Int.emod_nonneg _ (by rw [qZ];omega);have c1:m % (((v7 free).length:Nat):Int)<(((v7 free).length:Nat):Int):=Int.emod_lt_of_pos _ (by rw [qZ];omega);refine ⟨⟨_,rfl⟩,⟨m,rfl⟩,_,rfl,m,(((v7 free).length:Nat):Int),rfl,rfl,wF (by rw [qZ];omega) (by rw [qZ];omega),?_⟩;generalize hj:m % (((v7 free).length:Nat):Int)=j at c0 c1;rw [qZ] at c1;have hjl:j.toNat<free.length:=by omega
   refine ⟨v7 free,j,.at (.str free[j.toNat]),rfl,rfl,c0,by rw [qZ];exact c1,by rw [qZ];omega,?_,?_⟩
   ·unfold v7;rw [List.getElem?_map,List.getElem?_eq_getElem hjl];rfl
   ·refine ⟨m / (((v7 free).length:Nat):Int),free.eraseIdx j.toNat,got++[free[j.toNat]],?_,?_,?_,KW hjl h2⟩
    ·show [MSlot.no,MSlot.ow (.lst ((v7 free).eraseIdx j.toNat)),m7 _]=_;unfold v7;rw [VU]
    ·unfold v7;rw [List.map_append];rfl
    ·rw [List.length_append];simp only [List.length_cons,List.length_nil];omega
 refine ⟨⟨_,rfl⟩,_,rfl,n,3,rfl,rfl,⟨by decide,by decide⟩,_,rfl,_,rfl,decide (n % 3=0),rfl,?_⟩;have sl:(v7 all).length=all.length:=qZ _;by_cases hk:n % 3=0
 ·refine Eq.mpr (if_pos (decide_eq_true hk)) ?_;have c0:0<=n / 3 % (((v7 all).length:Int)+1):=Int.emod_nonneg _ (by omega);have c1:n / 3 % (((v7 all).length:Int)+1)<((v7 all).length:Int)+1:=Int.emod_lt_of_pos _ (by omega);obtain ⟨k,hk⟩:=Int.eq_ofNat_of_zero_le c0;refine ⟨⟨_,rfl⟩,_,rfl,n / 3,((v7 all).length:Int)+1,rfl,rfl,wF (by omega) (by omega),?_⟩;rw [hk];exact rest _ k (by omega)
 ·refine Eq.mpr (if_neg (by rw [decide_eq_false hk];exact Bool.false_ne_true)) ?_;have:=rest (n / 3) all.length (Nat.le_refl _);rw [<- sl] at this;exact this
theorem NH (F:Fun K "_law_some" "_law_some" JW f fd)(Ae:Fn P w K mg base 1 "_law_digit" ["row", "many"] vp)(Ad:mg "len"=none)(Ac:mg "range"=none):FnOk P w K mg base w6 2 f fd ["row", "parts"] (spD Xv QG) :=
 okD (k:=1) (b:=UE K) F sc_some DX (fun cdv A outer s H E hr=>⟨_,(j3 (sW 2 sc_some.nd (qG (N':=["cloth"]) (cap:=[none]) (qf rfl rfl rfl) rfl (@qC _ K _ _ _ rfl (iW (K:=K) rfl (pv 1) z0)) (fun _ _ _ _ _ _=>(u6 (i:=0) (by show (["cloth"]:List Str).Nodup;decide +kernel) rfl (Or.inl rfl))) (fun _ _ _ _ _ _=>ql) (fun _ _ _ _ _ _=>(iW (K:=K) rfl (pv 0) z0))))
  (j3 (sW 3 sc_some.nd (m4 (xf (K:=K) rfl) rfl Ad PySem.boot_len (aW (pv 2))))
  (j3 (o6 (qh (jm (K:=K) (xm hr) rfl) (w4 Ae hr (by decide) rfl (aC (pv 0) (aW z0))) z0 (i4 _)) (j4 (sW 3 sc_some.nd (w4 Ae hr (by decide) rfl (aC (pv 0) (aW (u5 (xu (K:=K) rfl) (m4 (xf (K:=K) rfl) rfl Ad PySem.boot_len (aW (pv 2))) z0)))))) o7)
  (j4 (y6 (qG (N':=["k", "free", "row"]) (cap:=[none,some 2,some 0]) (qf rfl rfl rfl) rfl (zo rfl Ac (aW (pv 3))) (fun _ _ _ _ _ _=>(u6 (i:=0) (by show (["k", "free", "row"]:List Str).Nodup;decide +kernel) rfl (Or.inl rfl))) (fun _ _ _ _ _ _=>ql) (fun _ _ _ _ _ _=>(jq (K:=K) rfl PySem.F.plainAttrs_list PySem.F.slot_list_pop PySem.F.type_list_pop WF (pv 1) (v9 (w4 Ae hr (by decide) rfl (aC (pv 2) (aW (m4 (xf (K:=K) rfl) rfl Ad PySem.boot_len (aW (pv 1)))))) g0))))))))),
  (by repeat' first|infer_instance|(refine @Mi.instSemWSTSeqWSeq _ _ _ _ ?_ ?_)|(apply @Mi.instSemWSTForWForOfSemWIOfSemWG))⟩) Me
structure Mat (H:Hp)(F:Addr)(as:List Addr)(M:List (List Int)):Prop where
 top:H F=some (.lst (as.map V.ref))
 len:as.length=M.length
 row:∀(i:Nat)(a:Addr)(r:List Int),as[i]?=some a->M[i]?=some r->H a=some (.lst (r.map V.int))
 nd:(F::as).Nodup
def me (M:List (List Int))(f g:Nat):Int:=(M.getD f []).getD g 0
def zm (M:List (List Int))(i l:Nat)(v:Int):List (List Int):=M.set i ((M.getD i []).set l v)
theorem Lz {M:List (List Int)}{i l f g:Nat}(hi:i<M.length)(hl:l<(M.getD i []).length)(v:Int):me (zm M i l v) f g=if f=i/\g=l then v else me M f g:=by
 unfold me zm;by_cases hf:f=i
 ·subst hf;have e:(M.set f ((M.getD f []).set l v)).getD f []=(M.getD f []).set l v:=by rw [List.getD_eq_getElem?_getD,List.getElem?_set_self hi];rfl
  rw [e];by_cases hg:g=l
  ·subst hg;rw [if_pos ⟨rfl,rfl⟩,List.getD_eq_getElem?_getD,List.getElem?_set_self hl];rfl
  ·rw [if_neg (fun z=>hg z.2),List.getD_eq_getElem?_getD,List.getElem?_set_ne (Ne.symm hg),<- List.getD_eq_getElem?_getD]
 ·have e:(M.set i ((M.getD i []).set l v)).getD f []=M.getD f []:=by rw [List.getD_eq_getElem?_getD,List.getElem?_set_ne (Ne.symm hf),<- List.getD_eq_getElem?_getD]
  rw [if_neg (fun z=>hf z.1),e]
theorem Mat.set {H:Hp}{F:Addr}{as:List Addr}{M:List (List Int)}(m:Mat H F as M){i:Nat}{a:Addr}(ha:as[i]?=some a)(l:Nat)(v:Int):Mat (v8 H a (.lst (((M.getD i []).set l v).map V.int))) F as (zm M i l v):=by
 have nd:=List.nodup_cons.mp m.nd;have am:a∈as:=List.mem_of_getElem? ha;have fa:F≠a:=fun z=>nd.1 (z▸am);have hi:i<M.length:=by rw [<- m.len];exact (List.getElem?_eq_some_iff.mp ha).1
 refine ⟨by rw [j7 fa];exact m.top,by unfold zm;rw [List.length_set];exact m.len,fun j b r hb hr=>?_,m.nd⟩;unfold zm at hr;by_cases hj:j=i
 ·subst hj;rw [ha] at hb;cases hb;rw [List.getElem?_set_self hi] at hr;cases hr;exact u8
 ·rw [List.getElem?_set_ne (Ne.symm hj)] at hr;have:b≠a:=fun z=>by
   subst z;obtain ⟨h1,e1⟩:=List.getElem?_eq_some_iff.mp ha;obtain ⟨h2,e2⟩:=List.getElem?_eq_some_iff.mp hb;exact hj ((List.getElem_inj (h₀:=h2) (h₁:=h1) nd.2).mp (e2.trans e1.symm))
  rw [j7 this];exact m.row j b r hb hr
structure ShM (h:Nat)(M:List (List Int)):Prop where
 len:M.length=h+1
 row:∀ i,i<=h->(M.getD i []).length=h
theorem ShM.set {h:Nat}{M:List (List Int)}(s:ShM h M){i l:Nat}(v:Int):ShM h (zm M i l v):=by
 refine ⟨by unfold zm;rw [List.length_set];exact s.len,fun j hj=>?_⟩;unfold zm;by_cases e:j=i
 ·subst e;rw [List.getD_eq_getElem?_getD,List.getElem?_set_self (by rw [s.len];omega)];show ((M.getD j []).set l v).length=h;rw [List.length_set];exact s.row j hj
 ·rw [List.getD_eq_getElem?_getD,List.getElem?_set_ne (Ne.symm e),<- List.getD_eq_getElem?_getD];exact s.row j hj
theorem ShM.ofGood {h:Nat}{M:List (List Int)}(G:i7 h M):ShM h M:=⟨G.len,fun i hi=>by
 have hl:i<M.length:=by rw [G.len];omega
 rw [g8 hl];exact (G.row _ (List.getElem_mem hl)).1⟩
structure Rlx (rss:List (List Int))(h t:Nat)(M:List (List Int)):Prop where
 sh:ShM h M
 ge:∀ f g,f<=h->g<h->(y9 (n8 rss h) f g).1<=me M f g
 z:∀ f g,f<=h->g<h->me M f g<=i8 rss h 0 f g
 t:∀ f g,f<=h->g<h->me M f g<=i8 rss h t f g
theorem Rlx.step {rss:List (List Int)}{h t:Nat}{M:List (List Int)}(G:i7 h rss)(R:Rlx rss h t M){i a l:Nat}(hi:i<=h)(ha:a<h)(hl:l<h){v:Int}(hv:v=me M i l∨v=me M i a+me M a l)(v1:v<=me M i l)(v2:v<=me M i a+me M a l):Rlx rss h t (zm M i l v)/\(∀ f g,me (zm M i l v) f g<=me M f g)/\me (zm M i l v) i l<=i8 rss h t i a+i8 rss h 0 a l:=by
 have hil:i<M.length:=by rw [R.sh.len];omega
 have hll:l<(M.getD i []).length:=by rw [R.sh.row i hi];exact hl
 have ee:=fun f g=>Lz (M:=M) (i:=i) (l:=l) (f:=f) (g:=g) hil hll v;have dn:∀ f g,me (zm M i l v) f g<=me M f g:=fun f g=>by
  rw [ee];split
  ·rename_i e;rw [e.1,e.2];exact v1
  ·exact Int.le_refl _
 refine ⟨⟨R.sh.set v,fun f g hf hg=>?_,fun f g hf hg=>Int.le_trans (dn f g) (R.z f g hf hg),fun f g hf hg=>Int.le_trans (dn f g) (R.t f g hf hg)⟩,dn,?_⟩
 ·rw [ee];split
  ·rename_i e;rw [e.1,e.2];rcases hv with hv|hv
   ·rw [hv];exact R.ge i l hi hl
   ·have t1:=(FW.all G h (Nat.le_refl _)).tri a i l ha hi hl;have t2:=R.ge i a hi ha;have t3:=R.ge a l (by omega) hl;omega
  ·exact R.ge f g hf hg
 ·rw [ee,if_pos ⟨rfl,rfl⟩];have t2:=R.t i a hi ha;have t3:=R.z a l (by omega) hl;omega
theorem Cr {rss:List (List Int)}{h:Nat}(G:i7 h rss){f g:Nat}(hf:f<=h)(hg:g<h):i8 rss h 0 f g=rin rss (f:Int) (g:Int):=(ju G hf hg).symm
theorem Cq {rss:List (List Int)}{h t:Nat}(G:i7 h rss){f g:Nat}{v:Int}(hf:f<=h)(hg:g<h)(h0:v<=i8 rss h t f g)(h1:∀ a,a<h->v<=i8 rss h t f a+i8 rss h 0 a g):v<=i8 rss h (t+1) f g:=by
 rw [XW G hf hg];rcases List.mem_cons.mp (WD (l:=i8 rss h t f g::(List.range h).map fun a=>i8 rss h t f a+rin rss (a:Int) (g:Int)) (by simp)) with e|e
 ·rw [e];exact h0
 ·obtain ⟨a,ha,e⟩:=List.mem_map.mp e;have ha:=List.mem_range.mp ha;rw [<- e,<- Cr G (by omega) hg];exact h1 a ha
theorem Ll {rss M:List (List Int)}{h t:Nat}(G:i7 h rss)(ht:h<=t)(R:Rlx rss h t M):M=qx rss h:=by
 have G2:=jH G;have dec:∀ k f g,f<=h->g<h->i8 rss h (k+1) f g<=i8 rss h k f g:=fun k f g hf hg=>by
  rw [XW G hf hg];exact ZP List.mem_cons_self
 have dec2:∀ k f g,f<=h->g<h->i8 rss h (h+k) f g<=i8 rss h h f g:=fun k f g hf hg=>by
  induction k with
  |zero=>exact Int.le_refl _
  |succ k ih=>exact Int.le_trans (dec (h+k) f g hf hg) ih
 have lowE:∀ f g,f<=h->g<h->((qx rss h).getD f []).getD g 0=(y9 (n8 rss h) f g).1:=fun f g hf hg=>Wu G hf hg;have bl:∀ f g,f<=h->g<h->i8 rss h h f g=(y9 (n8 rss h) f g).1:=fun f g hf hg=>by
  unfold i8;rw [Cp G];exact lowE f g hf hg
 refine List.ext_getElem (by rw [R.sh.len,G2.len]) fun i h1 h2=>?_;have hi:i<=h:=by rw [R.sh.len] at h1;omega
 have r1:=R.sh.row i hi;rw [g8 h1] at r1;have r2:=(G2.row _ (List.getElem_mem h2)).1;refine List.ext_getElem (by rw [r1,r2]) fun j j1 j2=>?_;have hj:j<h:=by rw [r1] at j1;exact j1
 have e1:M[i][j]=me M i j:=by unfold me;rw [g8 h1,g8 j1]
 have e2:(qx rss h)[i][j]=(y9 (n8 rss h) i j).1:=by rw [<- lowE i j hi hj,g8 h2,g8 j2]
 rw [e1,e2];have a:=R.ge i j hi hj;have b:=R.t i j hi hj;have c:=dec2 (t-h) i j hi hj;rw [show h+(t-h)=t by omega,bl i j hi hj] at c;omega
theorem Yc {K:Fg}{Z:St}{H:Hp}{Q:VK}{i j:Nat}{p:Addr}{xs:List V}{k:Int}{u:V}(hi:Z[i]?=some (some (.ref p)))(hj:Z[j]?=some (some (.int k)))(hp:H p=some (.lst xs))(hk:atI xs k=some u)(q:Q u H):tOp (rIx K) (qL i) (qL j) Z H Q :=
 ⟨_,hi,_,hj,.inl ⟨p,xs,k,u,rfl,rfl,SqL.of hp,hk,q⟩⟩
theorem Vw {r:List Int}{k:Nat}(h:k<r.length):atI (r.map V.int) ((0:Int)+(k:Int))=some (.int (r.getD k 0)):=by rw [Int.zero_add];exact za (by rw [List.getElem?_map,List.getElem?_eq_getElem h,g8 h];rfl)
theorem Wn {K:Fg}{Z:St}{H:Hp}{R:It->Hp->Prop}{i:Nat}{p:Addr}{xs:List V}(hi:Z[i]?=some (some (.ref p)))(hp:SqL K H p xs)(hl:xs.length<=1000)(q:R (Itr 0 xs.length) H):wW (o8 (tCB (Qx K) (o8 (qL i) qp)) qp) Z H R :=
 ⟨_,hi,.inl ⟨_,_,rfl,.inl ⟨xs,hp,rfl⟩,(xs.length:Int),rfl,by omega,by omega,by rw [Int.toNat_natCast];exact q⟩⟩
noncomputable def vg:List PV->Option PV:=fun xs=>open Classical in if h:∃(n:Nat)(rss:List (List Int)),xs=[i0 rss]/\i7 n rss/\1<=n/\n<=4 then some (i0 (qx h.choose_spec.choose h.choose)) else none
theorem Rf {a b:List (List Int)}(h:i0 a=i0 b):a=b:=by unfold i0 at h;injection h with h;exact ZM (fun x y e=>by injection e with e;exact ZM (fun _ _ e=>by injection e with e;injection e) e) h
theorem Sq {rss:List (List Int)}{h:Nat}(G:i7 h rss)(h1:1<=h)(h4:h<=4):vg [i0 rss]=some (i0 (qx rss h)):=by
 have ex:∃(n:Nat)(rs:List (List Int)),[i0 rss]=[i0 rs]/\i7 n rs/\1<=n/\n<=4:=⟨h,rss,rfl,G,h1,h4⟩;unfold vg;rw [dif_pos ex];have q:=ex.choose_spec.choose_spec;generalize ex.choose_spec.choose=rs at q;generalize ex.choose=n at q;obtain ⟨e,G',_⟩:=q;injection e with e _;have e:=Rf e;subst e;have:n=h:=by have:=G.len;have:=G'.len;omega
 subst this;rfl
theorem Km {xs:List PV}{y:PV}(h:vg xs=some y):∃(n:Nat)(rss:List (List Int)),xs=[i0 rss]/\i7 n rss/\1<=n/\n<=4/\y=i0 (qx rss n):=by
 unfold vg at h;split at h
 ·rename_i ex;obtain ⟨e,G,h1,h4⟩:=ex.choose_spec.choose_spec;exact ⟨_,_,e,G,h1,h4,(Option.some.inj h).symm⟩
 ·cases h
theorem DR {vs:List V}{H:Hp}{Q:VK}{E:XK}(h:y0 vg vs H Q E):vs.length=(["rinses"]:List Str).length:=by obtain ⟨Hs,xs,y,_,r,e,_⟩:=h;obtain ⟨n,rss,rfl,_⟩:=Km e;rw [r.length];rfl
structure Copied (H0 H:Hp)(as:List Addr)(M:List (List Int)):Prop where
 len:as.length=M.length
 row:∀(i:Nat)(a:Addr)(r:List Int),as[i]?=some a->M[i]?=some r->H a=some (.lst (r.map V.int))
 new:∀ a∈as,H0 a=none
 nd:as.Nodup
 keep:Same H0 H
theorem Copied.snoc {H0 H:Hp}{as:List Addr}{M:List (List Int)}(c:Copied H0 H as M){a:Addr}{r:List Int}(ha:H a=none):Copied H0 (v8 H a (.lst (r.map V.int))) (as++[a]) (M++[r]):=by
 have na:∀ b∈as,b≠a:=fun b hb z=>by
  obtain ⟨i,hi,e⟩:=List.mem_iff_getElem.mp hb;have hm:i<M.length:=by rw [<- c.len];exact hi
  have:=c.row i b M[i] (by rw [List.getElem?_eq_getElem hi,e]) (List.getElem?_eq_getElem hm);rw [z,ha] at this;cases this
 refine ⟨by rw [List.length_append,List.length_append,c.len];rfl,fun i b q hb hq=>?_,fun b hb=>?_,?_,fun b o h=>?_⟩
 ·rw [List.getElem?_append] at hb hq;split at hb
  ·rename_i hi;rw [if_pos (by rw [<- c.len];exact hi)] at hq;rw [j7 (na b (List.mem_of_getElem? hb))];exact c.row i b q hb hq
  ·rename_i hi;rw [if_neg (by rw [<- c.len];exact hi)] at hq;rw [c.len] at hb;cases hk:i-M.length with
   |zero=>rw [hk] at hb hq;cases hb;cases hq;exact u8
   |succ k=>rw [hk] at hb;simp at hb
 ·rcases List.mem_append.mp hb with hb|hb
  ·exact c.new b hb
  ·rw [List.mem_singleton.mp hb];cases h:H0 a with
   |none=>rfl
   |some o=>rw [c.keep _ _ h] at ha;cases ha
 ·refine List.nodup_append.mpr ⟨c.nd,List.nodup_cons.mpr ⟨by simp,List.nodup_nil⟩,fun x hx y hy=>?_⟩;rw [List.mem_singleton.mp hy];exact na x hx
 ·rw [j7 (fun z=>by rw [z,] at h;rw [c.keep _ _ h] at ha;cases ha)];exact c.keep b o h
abbrev JG:Stmt:=top 63
theorem sc_least:y7 ["rinses", "found", "turn", "row", "amid", "last"] ["rinses"] (j8 JG):=u7
theorem Nq (F:Fun K "_law_least" "_law_least" JG f fd)(Ad:mg "len"=none)(Af:mg "list"=none)(Ip:mg "min"=none)(Ac:mg "range"=none):FnOk P w K mg base w6 1 f fd ["rinses"] (y0 vg):=by
 refine F.ok (k:=0) sc_least (fun vs H Q E h=>DR h) (fun cdv A outer s H vs Q E hr h=>⟨_,(j3 (vY (i:=1) (N':=["row"]) (cap:=[none]) (qf rfl rfl rfl) rfl sc_least.nd rfl rfl (@qC _ K _ _ _ rfl (pv 0)) (fun _ _ _ _ _ _=>(u6 (i:=0) (by show (["row"]:List Str).Nodup;decide +kernel) rfl (Or.inl rfl))) (fun _ _ _ _ _ _=>ql) (fun _ _ _ _ _ _=>(zB (jY (K:=K) rfl) rfl Af zw (aW (pv 0)))))
  (j3 (xD PassesOwn.never rfl (zo rfl Ac (aW (m4 (xf (K:=K) rfl) rfl Ad PySem.boot_len (aW (pv 0))))) (u6 (i:=2) sc_least.nd rfl (Or.inl rfl))
   (j4 (xD PassesOwn.never rfl (@qC _ K _ _ _ rfl (pv 1)) (u6 (i:=3) sc_least.nd rfl (Or.inl rfl))
   (j4 (xD PassesOwn.never rfl (zo rfl Ac (aW (m4 (xf (K:=K) rfl) rfl Ad PySem.boot_len (aW (pv 3))))) (u6 (i:=4) sc_least.nd rfl (Or.inl rfl))
   (j4 (xD PassesOwn.never rfl (zo rfl Ac (aW (m4 (xf (K:=K) rfl) rfl Ad PySem.boot_len (aW (pv 3))))) (u6 (i:=5) sc_least.nd rfl (Or.inl rfl))
   (j4 (WX (m4 (CP rfl) rfl Ip Cy (aC (iW (K:=K) rfl (pv 3) (pv 5)) (aW (u5 (xu (K:=K) rfl) (iW (K:=K) rfl (pv 3) (pv 4)) (iW (K:=K) rfl (iW (K:=K) rfl (pv 1) (pv 4)) (pv 5)))))) (KQ (pv 3) (pv 5) BK))))))))))
  (j4 (y6 (pv 1))))),?_⟩)
 obtain ⟨Hs,xs,y,sm,r,e,q⟩:=h;obtain ⟨h,rss,rfl,G,h1,h4,rfl⟩:=Km e;obtain ⟨v0,rr,rfl,p1,p2⟩:=reps_cons.mp r;cases reps_nil.mp p2;obtain ⟨A0,ws,rfl,hA,rA⟩:=rep_lst.mp p1;have hlim:lim=1000000:=rfl;have glen:=G.len;have wl:ws.length=h+1:=by rw [rA.length,List.length_map];exact glen
 -- copies
 refine ⟨_,rfl,A0,rfl,⟨ws,SqL.of (sm _ _ hA)⟩,Gm (xs:=ws) (fun i ys H'=>∃ as:List Addr,ys=as.map V.ref/\Copied H H' as (rss.take i)) ⟨[],rfl,rfl,(fun _ _ _ z=>by simp at z),(fun _ z=>nomatch z),List.nodup_nil,.refl _⟩ (fun i ys H' hi ⟨as,e,c⟩=>zk (by rw [e,List.length_map,c.len,List.length_take];omega)) (fun i ys H' hi ⟨as,e,c⟩=>SqL.of (c.keep _ _ (sm _ _ hA))) ?_ ?_⟩
 ·rintro i x ys H' R hx ⟨as,rfl,c⟩ hR;have hi:i<rss.length:=by have:=(List.getElem?_eq_some_iff.mp hx).1;omega
  obtain ⟨w,hw,rw'⟩:=rA.get (i:=i) (x:= .lst (rss[i].map fun n=> .at (.int n))) (by rw [List.getElem?_map,List.getElem?_eq_getElem hi];rfl);rw [hx] at hw;cases hw;obtain ⟨b,us,rfl,hb,rb⟩:=rep_lst.mp rw';have eu:us=rss[i].map V.int:=by have:=Reps.ats (us:=rss[i].map V.int) (by rw [List.map_map];exact rb);exact this
  subst eu;refine ⟨Wk.one rfl,_,rfl,b,_,rfl,.inl (SqL.of (c.keep _ _ (sm _ _ hb))),fun l hl=>hR _ _ ⟨as++[l],by rw [List.map_append];rfl,?_⟩⟩;rw [List.take_add_one,List.getElem?_eq_getElem hi];exact c.snoc hl
 ·rintro ys H1 ⟨as,rfl,c⟩ F hF;rw [wl,<- glen,List.take_length] at c;have m0:Mat (v8 H1 F (.lst (as.map V.ref))) F as rss:=by
   have fa:∀ a∈as,a≠F:=fun a ha z=>by
    obtain ⟨i,hi,e⟩:=List.mem_iff_getElem.mp ha;have hm:i<rss.length:=by rw [<- c.len];exact hi
    have:=c.row i a rss[i] (by rw [List.getElem?_eq_getElem hi,e]) (List.getElem?_eq_getElem hm);rw [z,hF] at this;cases this
   exact ⟨u8,c.len,fun i a r ha hr=>by rw [j7 (fa a (List.mem_of_getElem? ha))];exact c.row i a r ha hr,List.nodup_cons.mpr ⟨fun z=>fa F z rfl,c.nd⟩⟩
  have k0:Same H (v8 H1 F (.lst (as.map V.ref))):=c.keep.trans (Vg hF _);have nF:H F=none:=by
   cases z:H F with
   |none=>rfl
   |some o=>rw [c.keep _ _ z] at hF;cases hF
  have al:as.length=h+1:=c.len.trans glen;have kp:∀{H2:Hp}{a:Addr}{o:HO},Same H H2->a∈as->Same H (v8 H2 a o):=fun {H2 a o} k ha b u z=>by
   rw [j7 (fun e=>by rw [e,c.new a ha] at z;cases z)];exact k b u z
  have R0:Rlx rss h 0 rss:=⟨ShM.ofGood G,fun f g hf hg=>by
   have:=XX G 0 f g hf hg;exact this,fun f g _ _=>Int.le_refl _,fun f g _ _=>Int.le_refl _⟩
  show tFor (wW (o8 (tCB (Qx K) (o8 (qL 0) qp)) qp)) (xt 2) _ _ [some (.ref A0),some (.ref F),none,none,none,none] _;refine Wn (K:=K) (i:=0) (p:=A0) (xs:=ws) (Z:=[some (.ref A0),some (.ref F),none,none,none,none]) rfl (SqL.of (k0 _ _ (sm _ _ hA))) (by omega) ?_;refine Zq (fun t Z H2=>∃(M:List (List Int))(s2 s3 s4 s5:Option V),Z=[some (.ref A0),some (.ref F),s2,s3,s4,s5]/\Mat H2 F as M/\Same H H2/\Rlx rss h t M) ⟨rss,_,_,_,_,rfl,m0,k0,R0⟩ ?_ ?_
  ·rintro t Z H2 ht ⟨M,s2,s3,s4,s5,rfl,m,k,R⟩;refine ⟨_,rfl,F,rfl,⟨_,SqL.of m.top⟩,DI (xs:=as.map V.ref) (fun i Z H2=>∃(M:List (List Int))(s3 s4 s5:Option V),Z=[some (.ref A0),some (.ref F),some (.int (0+t)),s3,s4,s5]/\Mat H2 F as M/\Same H H2/\Rlx rss h t M/\∀ f g,f<i->f<=h->g<h->me M f g<=i8 rss h (t+1) f g) ⟨M,s3,s4,s5,rfl,m,k,R,fun f g hf=>absurd hf (Nat.not_lt_zero _)⟩ (fun i Z H2 _ ⟨M,_,_,_,_,m,_⟩=>SqL.of m.top) ?_ ?_⟩
   ·rintro i x Z H2 hx ⟨M,s3,s4,s5,rfl,m,k,R,C⟩;rw [List.getElem?_map] at hx;obtain ⟨a,ha,rfl⟩:=Option.map_eq_some_iff.mp hx;have hi:i<=h:=by have:=(List.getElem?_eq_some_iff.mp ha).1;omega
    have hiM:∀{M:List (List Int)},ShM h M->M[i]?=some (M.getD i []):=fun {M} s=>by
     have:i<M.length:=by rw [s.len];omega
     rw [g8 this,List.getElem?_eq_getElem this]
    have am:a∈as:=List.mem_of_getElem? ha;show tFor (wW (o8 (tCB (Qx K) (o8 (qL 3) qp)) qp)) (xt 4) _ _ [some (.ref A0),some (.ref F),some (.int (0+t)),some (.ref a),s4,s5] _;refine Wn (K:=K) (i:=3) (p:=a) (xs:=(M.getD i []).map V.int) (Z:=[some (.ref A0),some (.ref F),some (.int (0+t)),some (.ref a),s4,s5]) rfl (SqL.of (m.row i a _ ha (hiM R.sh))) (by rw [List.length_map,R.sh.row i hi];omega) ?_;rw [List.length_map,R.sh.row i hi];refine Zq (fun b Z H2=>∃(M:List (List Int))(s4 s5:Option V),Z=[some (.ref A0),some (.ref F),some (.int (0+t)),some (.ref a),s4,s5]/\Mat H2 F as M/\Same H H2/\Rlx rss h t M/\(∀ f g,f<i->f<=h->g<h->me M f g<=i8 rss h (t+1) f g)/\∀ c g,c<b->c<h->g<h->me M i g<=i8 rss h t i c+i8 rss h 0 c g) ⟨M,s4,s5,rfl,m,k,R,C,fun c g hc=>absurd hc (Nat.not_lt_zero _)⟩ ?_ ?_
    ·rintro b Z H2 hb ⟨M,s4,s5,rfl,m,k,R,C,D⟩;show tFor (wW (o8 (tCB (Qx K) (o8 (qL 3) qp)) qp)) (xt 5) _ _ [some (.ref A0),some (.ref F),some (.int (0+t)),some (.ref a),some (.int (0+b)),s5] _;refine Wn (K:=K) (i:=3) (p:=a) (xs:=(M.getD i []).map V.int) (Z:=[some (.ref A0),some (.ref F),some (.int (0+t)),some (.ref a),some (.int (0+b)),s5]) rfl (SqL.of (m.row i a _ ha (hiM R.sh))) (by rw [List.length_map,R.sh.row i hi];omega) ?_;rw [List.length_map,R.sh.row i hi];refine Zq (fun l Z H2=>∃(M:List (List Int))(s5:Option V),Z=[some (.ref A0),some (.ref F),some (.int (0+t)),some (.ref a),some (.int (0+b)),s5]/\Mat H2 F as M/\Same H H2/\Rlx rss h t M/\(∀ f g,f<i->f<=h->g<h->me M f g<=i8 rss h (t+1) f g)/\(∀ c g,c<b->c<h->g<h->me M i g<=i8 rss h t i c+i8 rss h 0 c g)/\∀ g,g<l->g<h->me M i g<=i8 rss h t i b+i8 rss h 0 b g) ⟨M,s5,rfl,m,k,R,C,D,fun g hg=>absurd hg (Nat.not_lt_zero _)⟩ ?_ ?_
     ·rintro l Z H2 hl ⟨M,s5,rfl,m,k,R,C,D,L⟩;have ri:H2 a=some (.lst ((M.getD i []).map V.int)):=m.row i a _ ha (hiM R.sh);have bl:b<as.length:=by omega
      have rbM:M[b]?=some (M.getD b []):=by
       have:b<M.length:=by rw [R.sh.len];omega
       rw [g8 this,List.getElem?_eq_getElem this]
      have rb:H2 as[b]=some (.lst ((M.getD b []).map V.int)):=m.row b _ _ (List.getElem?_eq_getElem bl) rbM;have li:l<(M.getD i []).length:=by rw [R.sh.row i hi];exact hl
      have bi:b<(M.getD i []).length:=by rw [R.sh.row i hi];exact hb
      have lb:l<(M.getD b []).length:=by rw [R.sh.row b (by omega)];exact hl
      refine Yc (k:=0+(l:Int)) rfl rfl ri (Vw li) ?_;refine Yc (k:=0+(b:Int)) rfl rfl ri (Vw bi) ?_;refine Yc (i:=1) (k:=0+(b:Int)) (u:= .ref as[b]) rfl rfl m.top (by rw [Int.zero_add];exact za (by rw [List.getElem?_map,List.getElem?_eq_getElem bl];rfl)) ?_;refine ⟨_,rfl,.inl ⟨_,_,_,_,rfl,rfl,SqL.of rb,Vw lb,.inl ⟨_,_,rfl,rfl,_,_,rfl,?_⟩⟩⟩;generalize hv:(if (M.getD i []).getD b 0+(M.getD b []).getD l 0<(M.getD i []).getD l 0 then (M.getD i []).getD b 0+(M.getD b []).getD l 0 else (M.getD i []).getD l 0)=v;have hv':(v=me M i l∨v=me M i b+me M b l)/\v<=me M i l/\v<=me M i b+me M b l:=by unfold me;rw [<- hv];split<;>omega
      obtain ⟨R',dn,ne⟩:=R.step G hi hb hl hv'.1 hv'.2.1 hv'.2.2;refine ⟨_,rfl,_,rfl,a,_,_,l,rfl,rfl,ri,?_,?_⟩
      ·rw [List.length_map,R.sh.row i hi,Int.zero_add];unfold xo;rw [if_pos (by omega),if_pos (by omega)]
       congr 1
      ·have es:((M.getD i []).map V.int).set l (.int v)=(((M.getD i []).set l v).map V.int):=by rw [List.map_set]
       rw [es];refine ⟨zm M i l v,_,rfl,m.set ha l v,kp k am,R',fun f g hf hf' hg=>Int.le_trans (dn f g) (C f g hf hf' hg),fun c g hc hc' hg=>Int.le_trans (dn i g) (D c g hc hc' hg),fun g hg hg'=>?_⟩;rcases Nat.lt_or_ge g l with z|z
       ·exact Int.le_trans (dn i g) (L g z hg')
       ·have:g=l:=by omega
        subst this;exact ne
     ·rintro Z H2 ⟨M,s5,rfl,m,k,R,C,D,L⟩;refine ⟨M,_,_,rfl,m,k,R,C,fun c g hc hc' hg=>?_⟩;rcases Nat.lt_or_ge c b with z|z
      ·exact D c g z hc' hg
      ·have:c=b:=by omega
       subst this;exact L g hg hg
    ·rintro Z H2 ⟨M,s4,s5,rfl,m,k,R,C,D⟩;refine ⟨M,_,_,_,rfl,m,k,R,fun f g hf hf' hg=>?_⟩;rcases Nat.lt_or_ge f i with z|z
     ·exact C f g z hf' hg
     ·have:f=i:=by omega
      subst this;exact Cq G hf' hg (R.t f g hf' hg) fun c hc=>D c g hc hc hg
   ·rintro Z H2 ⟨M,s3,s4,s5,rfl,m,k,R,C⟩;rw [List.length_map,al] at C;exact ⟨M,_,_,_,_,rfl,m,k,R.sh,R.ge,R.z,fun f g hf hg=>C f g (by omega) hf hg⟩
  ·rintro Z H2 ⟨M,s2,s3,s4,s5,rfl,m,k,R⟩;rw [wl] at R;have eM:=Ll G (Nat.le_succ h) R;subst eM
   -- all of it becomes shared
   let Hs':Hp:=fun b=>if b=F∨b∈as then H2 b else Hs b
   have nn:∀ b,b=F∨b∈as->H b=none:=fun b hb=>by
    rcases hb with rfl|hb
    ·exact nF
    ·exact c.new b hb
   have s1:Same Hs Hs':=fun b o z=>by
    show (if _ then _ else _)=_;rw [if_neg (fun y=>by have:=sm _ _ z;rw [nn b y] at this;cases this)];exact z
   have s3:Same Hs' H2:=fun b o z=>by
    have z:(if b=F∨b∈as then H2 b else Hs b)=some o:=z;split at z
    ·exact z
    ·exact k _ _ (sm _ _ z)
   refine ⟨_,rfl,q (.ref F) Hs' H2 ⟨s1,k,s3,fun b hb z=>?_⟩ (rep_lst.mpr ⟨F,as.map V.ref,rfl,?_,?_⟩)⟩
   ·show (if _ then _ else _)=_;rw [if_neg (fun y=>hb (nn b y))];exact z
   ·show (if _ then _ else _)=_;rw [if_pos (.inl rfl)];exact m.top
   ·have lens:=m.len;have rows:=m.row;have inAs:∀ a∈as,Hs' a=H2 a:=fun a ha=>by show (if _ then _ else _)=_;rw [if_pos (.inr ha)]
    clear_value Hs'
    clear m R q s1 s3;generalize qx rss h=M at lens rows;have go:∀(as:List Addr)(M:List (List Int)),as.length=M.length->(∀(i:Nat)(a:Addr)(r:List Int),as[i]?=some a->M[i]?=some r->Hs' a=some (.lst (r.map V.int)))->Reps Hs' (M.map fun r=>PV.lst (r.map fun n=> .at (.int n))) (as.map V.ref):=by
     intro as
     induction as with
     |nil =>
      intro M hl _;cases M with
      |nil=>exact .nil
      |cons _ _=>cases hl
     |cons a as ih =>
      intro M hl hr;cases M with
      |nil=>cases hl
      |cons r M=>refine .cons (rep_lst.mpr ⟨a,r.map V.int,rfl,hr 0 a r rfl rfl,?_⟩) (ih M (by simpa using hl) fun i b q hb hq=>hr (i+1) b q hb hq);have:=Reps.ofAts (H:=Hs') (r.map V.int);rw [List.map_map] at this;exact this
    exact go as M lens fun i a r ha hr=>by rw [inAs a (List.mem_of_getElem? ha)];exact rows i a r ha hr
abbrev JC:Stmt:=top 14
abbrev Uj:MS:=(y8 (zN (x9 qy (q0 (q9 0) (q0 (dC (.ty "int")) x6))) (wM (x9 qy (q0 (q9 0) (q0 (dC (.ty "bool")) x6))))))
def vf:List PV->Option PV:=r6 1 1 Uj
theorem RH:y7 ["thing"] ["thing"] (j8 JC):=u7
theorem Nl (F:Fun K "is_whole" "is_whole" JC f fd)(Ef:mg "bool"=none)(Ev:mg "int"=none)(Ab:mg "isinstance"=none):FnOk P w K mg base w6 1 f fd ["thing"] (y0 vf) :=
 qg (k:=0) (b:=Uj) F RH rfl fun cdv A outer s H E hr=>⟨_,(j4 (y6 (vV (m4 (zK (K:=K) rfl) rfl Ab zJ (aC (pv 0) (aW (zU (v:= .ty "int") rfl Ev UZ rfl)))) (Qs (KN (m4 (zK (K:=K) rfl) rfl Ab zJ (aC (pv 0) (aW (zU (v:= .ty "bool") rfl Ef UY rfl))))))))),
  inferInstance⟩
abbrev JQ:Stmt:=top 17
abbrev Uy:MS:=(y8 (x8 w9 (q9 0) (dC (.int 0))))
def zl:List PV->Option PV:=r6 1 1 Uy
theorem RN:y7 ["cloth"] ["cloth"] (j8 JQ):=u7
theorem NB (F:Fun K "name_of" "name_of" JQ f fd):FnOk P w K mg base w6 1 f fd ["cloth"] (y0 zl) :=
 qg (k:=0) (b:=Uy) F RN rfl fun cdv A outer s H E hr=>⟨_,(j4 (y6 (iW (K:=K) rfl (pv 0) z0))),
  inferInstance⟩
abbrev Jv:Stmt:=top 18
abbrev Uc:MS:=(y8 (x8 w9 (q9 0) (dC (.int 1))))
def Qf:List PV->Option PV:=r6 1 1 Uc
theorem RA:y7 ["cloth"] ["cloth"] (j8 Jv):=u7
theorem Nd (F:Fun K "hue_of" "hue_of" Jv f fd):FnOk P w K mg base w6 1 f fd ["cloth"] (y0 Qf) :=
 qg (k:=0) (b:=Uc) F RA rfl fun cdv A outer s H E hr=>⟨_,(j4 (y6 (iW (K:=K) rfl (pv 0) z0))),
  inferInstance⟩
abbrev JK:Stmt:=top 19
abbrev Ut:MS:=(y8 (x8 w9 (q9 0) (dC (.int 2))))
def Ww:List PV->Option PV:=r6 1 1 Ut
theorem RL:y7 ["cloth"] ["cloth"] (j8 JK):=u7
theorem Nv (F:Fun K "length_of" "length_of" JK f fd):FnOk P w K mg base w6 1 f fd ["cloth"] (y0 Ww) :=
 qg (k:=0) (b:=Ut) F RL rfl fun cdv A outer s H E hr=>⟨_,(j4 (y6 (iW (K:=K) rfl (pv 0) z0))),
  inferInstance⟩
abbrev Jr:Stmt:=top 20
abbrev YY:MS:=(y8 (x8 w9 (q9 0) (dC (.int 3))))
def Xd:List PV->Option PV:=r6 1 1 YY
theorem Rx:y7 ["cloth"] ["cloth"] (j8 Jr):=u7
theorem LZ (F:Fun K "due_of" "due_of" Jr f fd):FnOk P w K mg base w6 1 f fd ["cloth"] (y0 Xd) :=
 qg (k:=0) (b:=YY) F Rx rfl fun cdv A outer s H E hr=>⟨_,(j4 (y6 (iW (K:=K) rfl (pv 0) z0))),
  inferInstance⟩
abbrev Ve:Stmt:=top 21
abbrev UM:MS:=(y8 (x8 w9 (q9 0) (dC (.int 4))))
def Wx:List PV->Option PV:=r6 1 1 UM
theorem RV:y7 ["cloth"] ["cloth"] (j8 Ve):=u7
theorem NR (F:Fun K "weight_of" "weight_of" Ve f fd):FnOk P w K mg base w6 1 f fd ["cloth"] (y0 Wx) :=
 qg (k:=0) (b:=UM) F RV rfl fun cdv A outer s H E hr=>⟨_,(j4 (y6 (iW (K:=K) rfl (pv 0) z0))),
  inferInstance⟩
abbrev Jy:Stmt:=top 22
abbrev Uf:MS:=(y8 (zN (x9 vf (q0 (q8 0) x6)) (x8 pGe (q9 0) (q9 1))))
def jk:List PV->Option PV:=r6 2 2 Uf
theorem RC:y7 ["thing", "least"] ["thing", "least"] (j8 Jy):=u7
theorem Nh (F:Fun K "is_from" "is_from" Jy f fd)(Aj:Fn P w K mg base 1 "is_whole" ["thing"] (y0 vf)):FnOk P w K mg base w6 2 f fd ["thing", "least"] (y0 jk) :=
 qg (k:=1) (b:=Uf) F RC rfl fun cdv A outer s H E hr=>⟨_,(j4 (y6 (vV (w4 Aj hr (by decide) rfl (aW (pv 0))) (Qs (jN (ZT) (pv 0) (pv 1) (i4 _)))))),
  inferInstance⟩
abbrev JA:Stmt:=top 13
abbrev Uh:MS:=(w5 (m5 (qU (qd (i9 (x9 qy (q0 (q9 0) (q0 (dC (.ty "str")) x6))))) (qd (dT (zb pLe pLe (dC (.int 1)) (x9 qj (q0 (q9 0) x6)) (dC (.int 8)))))) (y8 (dC (.bl false))) n5)
  (y8 (x9 ze (q0 (h8 [none] [0] (dItS (q8 0)) (v6 0) i5 (zb pLeS pLeS (dC (.str "a")) (q9 0) (dC (.str "z")))) x6))))
def ZF:List PV->Option PV:=r6 1 1 Uh
theorem RF:y7 ["thing"] ["thing"] (j8 JA):=u7
theorem Nj (F:Fun K "is_name" "is_name" JA f fd)(Aq:mg "all"=none)(Ab:mg "isinstance"=none)(Ad:mg "len"=none)(Io:mg "str"=none){A3:Tok}(Au:mg "LONGEST_NAME"=some (.int 8 A3)):FnOk P w K mg base w6 1 f fd ["thing"] (y0 ZF) :=
 qg (k:=0) (b:=Uh) F RF rfl fun cdv A outer s H E hr=>⟨_,(j3 (o6 (PW.pt (zE (qY (qR (K:=K) rfl (m4 (zK (K:=K) rfl) rfl Ab zJ (aC (pv 0) (aW (zU (v:= .ty "str") rfl Io CA rfl)))) (fun _=>rfl))) (jR (qY (KZ (Ql) (Ql) z0 (m4 (xf (K:=K) rfl) rfl Ad PySem.boot_len (aW (pv 0))) (ZW (v:= .int 8) rfl Au ⟨_,rfl⟩)))))) (j4 (y6 xR)) o7)
  (j4 (y6 (m4 (vE (K:=K) rfl rfl) rfl Aq vD (aW (qG (N':=["sign"]) (cap:=[none]) (qf rfl rfl rfl) rfl (Hv (pv 0)) (fun _ _ _ _ _ _=>(u6 (i:=0) (by show (["sign"]:List Str).Nodup;decide +kernel) rfl (Or.inl rfl))) (fun _ _ _ _ _ _=>ql) (fun _ _ _ _ _ _=>(WK (KI) (KI) zg (pv 0) zg)))))))),
  inferInstance⟩
abbrev Jx:Stmt:=top 23
abbrev Ue:MS:=(w5 (m5 (qU (qd (i9 (x9 qy (q0 (q9 0) (q0 (dC (.ty "tuple")) x6))))) (dT (x8 qP (x9 qj (q0 (q9 0) x6)) (dC (.int 5))))) (y8 (dC (.bl false))) n5)
  (w5 (m5 (qU (qd (i9 (x9 ZF (q0 (x9 zl (q0 (q8 0) x6)) x6)))) (qU (qd (i9 (x9 jk (q0 (x9 Qf (q0 (q8 0) x6)) (q0 (dC (.int 0)) x6))))) (dT (x8 pGe (x9 Qf (q0 (q8 0) x6)) (q9 1))))) (y8 (dC (.bl false))) n5)
  (y8 (zN (x9 jk (q0 (x9 Ww (q0 (q8 0) x6)) (q0 (dC (.int 1)) x6))) (zN (x9 vf (q0 (x9 Xd (q0 (q8 0) x6)) x6)) (x9 jk (q0 (x9 Wx (q0 (q8 0) x6)) (q0 (dC (.int 1)) x6))))))))
def ZE:List PV->Option PV:=r6 2 2 Ue
theorem RB:y7 ["thing", "hues"] ["thing", "hues"] (j8 Jx):=u7
theorem Ng (F:Fun K "is_cloth" "is_cloth" Jx f fd)(B3:Fn P w K mg base 1 "due_of" ["cloth"] (y0 Xd))(Az:Fn P w K mg base 1 "hue_of" ["cloth"] (y0 Qf))(Al:Fn P w K mg base 2 "is_from" ["thing", "least"] (y0 jk))(Eg:Fn P w K mg base 1 "is_name" ["thing"] (y0 ZF))(Aj:Fn P w K mg base 1 "is_whole" ["thing"] (y0 vf))(B8:Fn P w K mg base 1 "length_of" ["cloth"] (y0 Ww))(Ag:Fn P w K mg base 1 "name_of" ["cloth"] (y0 zl))(D4:Fn P w K mg base 1 "weight_of" ["cloth"] (y0 Wx))(Ab:mg "isinstance"=none)(Ad:mg "len"=none)(D6:mg "tuple"=none){Ew:Tok}(Id:mg "PARTS"=some (.int 5 Ew)):FnOk P w K mg base w6 3 f fd ["thing", "hues"] (y0 ZE) :=
 qg (k:=2) (b:=Ue) F RB rfl fun cdv A outer s H E hr=>⟨_,(j3 (o6 (PW.pt (zE (qY (qR (K:=K) rfl (m4 (zK (K:=K) rfl) rfl Ab zJ (aC (pv 0) (aW (zU (v:= .ty "tuple") rfl D6 Ga rfl)))) (fun _=>rfl))) (jR (qh (jn (K:=K) (xm hr) rfl) (m4 (xf (K:=K) rfl) rfl Ad PySem.boot_len (aW (pv 0))) (ZW (v:= .int 5) rfl Id ⟨_,rfl⟩) (i4 _))))) (j4 (y6 xR)) o7)
  (j3 (o6 (PW.pt (zE (qY (qR (K:=K) rfl (w4 Eg hr (by decide) rfl (aW (w4 Ag hr (by decide) rfl (aW (pv 0))))) (fun _=>rfl))) (zE (qY (qR (K:=K) rfl (w4 Al hr (by decide) rfl (aC (w4 Az hr (by decide) rfl (aW (pv 0))) (aW z0))) (fun _=>rfl))) (jR (qh (ZT) (w4 Az hr (by decide) rfl (aW (pv 0))) (pv 1) (i4 _)))))) (j4 (y6 xR)) o7)
  (j4 (y6 (vV (w4 Al hr (by decide) rfl (aC (w4 B8 hr (by decide) rfl (aW (pv 0))) (aW z0))) (vV (w4 Aj hr (by decide) rfl (aW (w4 B3 hr (by decide) rfl (aW (pv 0))))) (Qs (w4 Al hr (by decide) rfl (aC (w4 D4 hr (by decide) rfl (aW (pv 0))) (aW z0)))))))))),
  inferInstance⟩
abbrev JB:Stmt:=top 40
abbrev Ui:MS:=(w5 (m5 (qU (qd (i9 (x9 qy (q0 (q9 0) (q0 (dC (.ty "list")) x6))))) (dT (x8 qP (x9 qj (q0 (q9 0) x6)) (q9 1)))) (y8 (dC (.bl false))) n5)
  (y8 (x9 ze (q0 (h8 [none] [0] (o9 (q8 0)) (v6 0) i5 (zN (x9 vf (q0 (q8 0) x6)) (x8 pGe (q9 0) (dC (.int 0))))) x6))))
def Xf:List PV->Option PV:=r6 2 2 Ui
theorem RG:y7 ["row", "hues"] ["row", "hues"] (j8 JB):=u7
theorem Nk (F:Fun K "is_rinse_row" "is_rinse_row" JB f fd)(Aj:Fn P w K mg base 1 "is_whole" ["thing"] (y0 vf))(Aq:mg "all"=none)(Ab:mg "isinstance"=none)(Ad:mg "len"=none)(Af:mg "list"=none):FnOk P w K mg base w6 2 f fd ["row", "hues"] (y0 Xf) :=
 qg (k:=1) (b:=Ui) F RG rfl fun cdv A outer s H E hr=>⟨_,(j3 (o6 (PW.pt (zE (qY (qR (K:=K) rfl (m4 (zK (K:=K) rfl) rfl Ab zJ (aC (pv 0) (aW (zU (v:= .ty "list") rfl Af zw rfl)))) (fun _=>rfl))) (jR (qh (jn (K:=K) (xm hr) rfl) (m4 (xf (K:=K) rfl) rfl Ad PySem.boot_len (aW (pv 0))) (pv 1) (i4 _))))) (j4 (y6 xR)) o7)
  (j4 (y6 (m4 (vE (K:=K) rfl rfl) rfl Aq vD (aW (qG (N':=["number"]) (cap:=[none]) (qf rfl rfl rfl) rfl (@qC _ K _ _ _ rfl (pv 0)) (fun _ _ _ _ _ _=>(u6 (i:=0) (by show (["number"]:List Str).Nodup;decide +kernel) rfl (Or.inl rfl))) (fun _ _ _ _ _ _=>ql) (fun _ _ _ _ _ _=>(vV (w4 Aj hr (by decide) rfl (aW (pv 0))) (Qs (jN (ZT) (pv 0) z0 (i4 _))))))))))),
  inferInstance⟩
abbrev Jn:Stmt:=top 41
abbrev YV:MS:=(w5 (m5 (qd (i9 (x9 qy (q0 (q9 0) (q0 (dC (.ty "list")) x6))))) xQ n5)
  (w5 (p6 1 (x8 jM (x9 qj (q0 (q9 0) x6)) (dC (.int 1))))
  (w5 (m5 (qd (dT (zb pLe pLe (dC (.int 1)) (q9 1) (dC (.int 4))))) xQ n5)
  (m5 (qd (i9 (x9 ze (q0 (h8 [none,some 1] [0] (o9 (q8 0)) (v6 0) i5 (x9 Xf (q0 (q8 0) (q0 (q8 1) x6)))) x6)))) xQ n5))))
def ZC:List PV->Option PV:=r6 2 1 YV
theorem sc_check_rinses:y7 ["rinses", "hues"] ["rinses"] (j8 Jn):=u7
theorem LV (F:Fun K "check_rinses" "check_rinses" Jn f fd)(A4:Fn P w K mg base 2 "is_rinse_row" ["row", "hues"] (y0 Xf))(Aq:mg "all"=none)(Ab:mg "isinstance"=none)(Ad:mg "len"=none)(Af:mg "list"=none){D2:Tok}(D3:mg "MOST_HUES"=some (.int 4 D2)):FnOk P w K mg base w6 3 f fd ["rinses"] (y0 ZC) :=
 qg (k:=2) (b:=YV) F sc_check_rinses rfl fun cdv A outer s H E hr=>⟨_,(j3 (o6 (qY (qR (K:=K) rfl (m4 (zK (K:=K) rfl) rfl Ab zJ (aC (pv 0) (aW (zU (v:= .ty "list") rfl Af zw rfl)))) (fun _=>rfl))) (j4 jt) o7)
  (j3 (sW 1 sc_check_rinses.nd (u5 (Qp) (m4 (xf (K:=K) rfl) rfl Ad PySem.boot_len (aW (pv 0))) z0))
  (j3 (o6 (qY (KZ (Ql) (Ql) z0 (pv 1) (ZW (v:= .int 4) rfl D3 ⟨_,rfl⟩))) (j4 jt) o7)
  (j4 (o6 (qY (qR (K:=K) rfl (m4 (vE (K:=K) rfl rfl) rfl Aq vD (aW (qG (N':=["row", "hues"]) (cap:=[none,some 1]) (qf rfl rfl rfl) rfl (@qC _ K _ _ _ rfl (pv 0)) (fun _ _ _ _ _ _=>(u6 (i:=0) (by show (["row", "hues"]:List Str).Nodup;decide +kernel) rfl (Or.inl rfl))) (fun _ _ _ _ _ _=>ql) (fun _ _ _ _ _ _=>(w4 A4 hr (by decide) rfl (aC (pv 0) (aW (pv 1)))))))) (fun _=>rfl))) (j4 jt) o7))))),
  inferInstance⟩
abbrev JX:Stmt:=top 42
abbrev UF:MS:=(y8 (h8 [none,none] [0,1] (wJ (q0 (q8 0) x6)) (qW 2 (n9 (v6 0) (n9 (v6 1) qV))) i5 (qO (q0 (q8 1) (q0 (xz (q0 (q8 0) x6)) x6)))))
def Xk:List PV->Option PV:=qN 1 1 UF
theorem RP:y7 ["row"] ["row"] (j8 JX):=u7
theorem NI (F:Fun K "straight_ways" "straight_ways" JX f fd)(Ah:mg "enumerate"=none):FnOk P w K mg base w6 1 f fd ["row"] (m9 Xk) :=
 okO (k:=0) (b:=UF) F RP rfl fun cdv A outer s H E hr=>⟨_,(j4 (y6 (qG (N':=["hue", "number"]) (cap:=[none,none]) (qf rfl rfl rfl) rfl (WQ (K:=K) rfl rfl Ah (aW (pv 0))) (fun _ _ _ _ _ _=>(jO (K:=K) (n:=2) rfl rfl (xC (u6 (i:=0) (by show (["hue", "number"]:List Str).Nodup;decide +kernel) rfl (Or.inl rfl)) (xC (u6 (i:=1) (by show (["hue", "number"]:List Str).Nodup;decide +kernel) rfl (Or.inl rfl)) jP)))) (fun _ _ _ _ _ _=>ql) (fun _ _ _ _ _ _=>(@xZ _ _ _ _ _ (aC (pv 1) (aW (@zf _ _ _ _ (aW (pv 0)))))))))),
  inferInstance⟩
abbrev JD:Stmt:=top 43
abbrev Uk:MS:=(y8 (qO (q0 (x8 qm (x8 w9 (q9 0) (dC (.int 0))) (x8 w9 (q9 1) (dC (.int 0)))) (q0 (x8 qm (x8 w9 (q9 0) (dC (.int 1))) (x8 w9 (q9 1) (dC (.int 1)))) x6))))
def Xg:List PV->Option PV:=r6 2 2 Uk
theorem RI:y7 ["way", "onward"] ["way", "onward"] (j8 JD):=u7
theorem Nm (F:Fun K "joined" "joined" JD f fd):FnOk P w K mg base w6 1 f fd ["way", "onward"] (y0 Xg) :=
 qg (k:=0) (b:=Uk) F RI rfl fun cdv A outer s H E hr=>⟨_,(j4 (y6 (@xZ _ _ _ _ _ (aC (u5 (xu (K:=K) rfl) (iW (K:=K) rfl (pv 0) z0) (iW (K:=K) rfl (pv 1) z0)) (aW (u5 (xu (K:=K) rfl) (iW (K:=K) rfl (pv 0) z0) (iW (K:=K) rfl (pv 1) z0))))))),
  inferInstance⟩
abbrev JL:Stmt:=top 44
abbrev Uu:MS:=(y8 (dIf (dT (x8 pLt (x8 w9 (q9 1) (dC (.int 0))) (x8 w9 (q9 0) (dC (.int 0))))) (q8 1) (q8 0)))
def Xi:List PV->Option PV:=r6 2 2 Uu
theorem RM:y7 ["way", "other"] ["way", "other"] (j8 JL):=u7
theorem Nw (F:Fun K "lesser" "lesser" JL f fd):FnOk P w K mg base w6 1 f fd ["way", "other"] (y0 Xi) :=
 qg (k:=0) (b:=Uu) F RM rfl fun cdv A outer s H E hr=>⟨_,(j4 (y6 (KL (qh (ZU) (iW (K:=K) rfl (pv 1) z0) (iW (K:=K) rfl (pv 0) z0) (i4 _)) (pv 1) (pv 0)))),
  inferInstance⟩
abbrev Vd:Stmt:=top 45
abbrev UL:MS:=(y8 (h8 [none,none,some 0,some 1] [0,1] (wN (q0 (q8 0) (q0 (q8 2) x6))) (qW 2 (n9 (v6 0) (n9 (v6 1) qV))) i5 (x9 Xi (q0 (q8 0) (q0 (x9 Xg (q0 (x8 w9 (q9 2) (q9 3)) (q0 (q8 1) x6))) x6)))))
def Qh:List PV->Option PV:=qN 3 3 UL
theorem RU:y7 ["ways", "hue", "onward"] ["ways", "hue", "onward"] (j8 Vd):=u7
theorem NQ (F:Fun K "ways_through" "ways_through" Vd f fd)(El:Fn P w K mg base 1 "joined" ["way", "onward"] (y0 Xg))(Eo:Fn P w K mg base 1 "lesser" ["way", "other"] (y0 Xi))(Eu:mg "zip"=none):FnOk P w K mg base w6 2 f fd ["ways", "hue", "onward"] (m9 Qh) :=
 okO (k:=1) (b:=UL) F RU rfl fun cdv A outer s H E hr=>⟨_,(j4 (y6 (qG (N':=["way", "more", "ways", "hue"]) (cap:=[none,none,some 0,some 1]) (qf rfl rfl rfl) rfl (KR (K:=K) rfl rfl Eu (aC (pv 0) (aW (pv 2)))) (fun _ _ _ _ _ _=>(jO (K:=K) (n:=2) rfl rfl (xC (u6 (i:=0) (by show (["way", "more", "ways", "hue"]:List Str).Nodup;decide +kernel) rfl (Or.inl rfl)) (xC (u6 (i:=1) (by show (["way", "more", "ways", "hue"]:List Str).Nodup;decide +kernel) rfl (Or.inl rfl)) jP)))) (fun _ _ _ _ _ _=>ql) (fun _ _ _ _ _ _=>(w4 Eo hr (by decide) rfl (aC (pv 0) (aW (w4 El hr (by decide) rfl (aC (iW (K:=K) rfl (pv 2) (pv 3)) (aW (pv 1))))))))))),
  inferInstance⟩
abbrev JI:Stmt:=top 46
abbrev Ur:MS:=(w5 (p6 1 (h8 [none] [0] (o9 (q8 0)) (v6 0) i5 (x9 Xk (q0 (q8 0) x6))))
  (w5 (xV (xA (q0 (x8 jM (x9 qj (q0 (q9 0) x6)) (dC (.int 1))) x6)) (v6 2) (w5 (p6 3 (x8 w9 (q9 1) (q9 2)))
  (p6 1 (h8 [none,some 2,some 3] [0] (o9 (q8 1)) (v6 0) i5 (x9 Qh (q0 (q8 0) (q0 (q8 1) (q0 (q8 2) x6))))))))
  (y8 (q8 1))))
def ZH:List PV->Option PV:=r6 4 1 Ur
theorem sc_least_ways:y7 ["rinses", "table", "hue", "onward"] ["rinses"] (j8 JI):=u7
theorem Nt (F:Fun K "least_ways" "least_ways" JI f fd)(As:Fn P w K mg base 1 "straight_ways" ["row"] (m9 Xk))(Av:Fn P w K mg base 2 "ways_through" ["ways", "hue", "onward"] (m9 Qh))(Ad:mg "len"=none)(Ac:mg "range"=none):FnOk P w K mg base w6 3 f fd ["rinses"] (y0 ZH) :=
 qg (k:=2) (b:=Ur) F sc_least_ways rfl fun cdv A outer s H E hr=>⟨_,(j3 (vY (i:=1) (N':=["row"]) (cap:=[none]) (qf rfl rfl rfl) rfl sc_least_ways.nd rfl rfl (@qC _ K _ _ _ rfl (pv 0)) (fun _ _ _ _ _ _=>(u6 (i:=0) (by show (["row"]:List Str).Nodup;decide +kernel) rfl (Or.inl rfl))) (fun _ _ _ _ _ _=>ql) (fun _ _ _ _ _ _=>(w4 As hr (by decide) rfl (aW (pv 0)))))
  (j3 (xD PassesOwn.never rfl (zo rfl Ac (aW (u5 (Qp) (m4 (xf (K:=K) rfl) rfl Ad PySem.boot_len (aW (pv 0))) z0))) (u6 (i:=2) sc_least_ways.nd rfl (Or.inr rfl))
   (j3 (sW 3 sc_least_ways.nd (iW (K:=K) rfl (pv 1) (pv 2)))
  (j4 (vY (i:=1) (N':=["ways", "hue", "onward"]) (cap:=[none,some 2,some 3]) (qf rfl rfl rfl) rfl sc_least_ways.nd rfl rfl (@qC _ K _ _ _ rfl (pv 1)) (fun _ _ _ _ _ _=>(u6 (i:=0) (by show (["ways", "hue", "onward"]:List Str).Nodup;decide +kernel) rfl (Or.inl rfl))) (fun _ _ _ _ _ _=>ql) (fun _ _ _ _ _ _=>(w4 Av hr (by decide) rfl (aC (pv 0) (aC (pv 1) (aW (pv 2))))))))))
  (j4 (y6 (pv 1))))),
  inferInstance⟩
abbrev JY:Stmt:=top 47
abbrev UG:MS:=(y8 (h8 [none] [0] (o9 (q8 0)) (v6 0) i5 (x8 w9 (q9 0) (dC (.int 0)))))
def ZK:List PV->Option PV:=qN 1 1 UG
theorem RQ:y7 ["ways"] ["ways"] (j8 JY):=u7
theorem NL (F:Fun K "sums_of" "sums_of" JY f fd):FnOk P w K mg base w6 1 f fd ["ways"] (m9 ZK) :=
 okO (k:=0) (b:=UG) F RQ rfl fun cdv A outer s H E hr=>⟨_,(j4 (y6 (qG (N':=["way"]) (cap:=[none]) (qf rfl rfl rfl) rfl (@qC _ K _ _ _ rfl (pv 0)) (fun _ _ _ _ _ _=>(u6 (i:=0) (by show (["way"]:List Str).Nodup;decide +kernel) rfl (Or.inl rfl))) (fun _ _ _ _ _ _=>ql) (fun _ _ _ _ _ _=>(iW (K:=K) rfl (pv 0) z0))))),
  inferInstance⟩
abbrev JH:Stmt:=top 48
abbrev Uq:MS:=(w5 (va (x9 ZC (q0 (q8 0) x6)))
  (y8 (h8 [none] [0] (o9 (x9 ZH (q0 (q8 0) x6))) (v6 0) i5 (x9 ZK (q0 (q8 0) x6)))))
def ZG:List PV->Option PV:=qN 1 1 Uq
theorem RK:y7 ["rinses"] ["rinses"] (j8 JH):=u7
theorem Nr (F:Fun K "least_rinses" "least_rinses" JH f fd)(Ax:Fn P w K mg base 3 "check_rinses" ["rinses"] (y0 ZC))(B6:Fn P w K mg base 3 "least_ways" ["rinses"] (y0 ZH))(Ej:Fn P w K mg base 1 "sums_of" ["ways"] (m9 ZK)):FnOk P w K mg base w6 4 f fd ["rinses"] (m9 ZG) :=
 okO (k:=3) (b:=Uq) F RK rfl fun cdv A outer s H E hr=>⟨_,(j3 (jQ (w4 Ax hr (by decide) rfl (aW (pv 0))))
  (j4 (y6 (qG (N':=["ways"]) (cap:=[none]) (qf rfl rfl rfl) rfl (@qC _ K _ _ _ rfl (w4 B6 hr (by decide) rfl (aW (pv 0)))) (fun _ _ _ _ _ _=>(u6 (i:=0) (by show (["ways"]:List Str).Nodup;decide +kernel) rfl (Or.inl rfl))) (fun _ _ _ _ _ _=>ql) (fun _ _ _ _ _ _=>(w4 Ej hr (by decide) rfl (aW (pv 0)))))))),
  inferInstance⟩
abbrev Jo:Stmt:=top 51
abbrev YW:MS:=(w5 (m5 (zM (dT (x8 vU (q9 0) (dC .non))) (qd (zM (i9 (x9 jk (q0 (q8 0) (q0 (dUn pNeg (dC (.int 1))) x6)))) (dT (x8 pLt (q9 0) (q9 2)))))) xQ n5)
  (m5 (qd (i9 (x9 jk (q0 (q8 1) (q0 (dC (.int 0)) x6))))) xQ n5))
def ZD:List PV->Option PV:=r6 3 3 YW
theorem Rw:y7 ["last", "time", "hues"] ["last", "time", "hues"] (j8 Jo):=u7
theorem LW (F:Fun K "check_start" "check_start" Jo f fd)(Al:Fn P w K mg base 2 "is_from" ["thing", "least"] (y0 jk)):FnOk P w K mg base w6 3 f fd ["last", "time", "hues"] (y0 ZD) :=
 qg (k:=2) (b:=YW) F Rw rfl fun cdv A outer s H E hr=>⟨_,(j3 (o6 (PW.pt (WY (qh (WH) (pv 0) jr (i4 _)) (WZ (qY (PW.pt (WY (qR (K:=K) rfl (w4 Al hr (by decide) rfl (aC (pv 0) (aW (WM Yq z0)))) (fun _=>rfl)) (WZ (qh (ZU) (pv 0) (pv 2) (i4 _))))))))) (j4 jt) o7)
  (j4 (o6 (qY (qR (K:=K) rfl (w4 Al hr (by decide) rfl (aC (pv 1) (aW z0))) (fun _=>rfl))) (j4 jt) o7))),
  inferInstance⟩
abbrev Jl:Stmt:=top 52
abbrev YT:MS:=(w5 (m5 (dT (x8 pGt (x9 qj (q0 (q9 0) x6)) (dC (.int 10)))) xQ n5)
  (w5 (vH 2 Gv)
  (xV (o9 (q8 0)) (v6 3) (w5 (m5 (qd (i9 (x9 ZE (q0 (q8 3) (q0 (q8 1) x6))))) xQ n5)
  (w5 (m5 (dT (dDIn (x9 zl (q0 (q8 3) x6)) (q9 2))) xQ n5)
  (dPut 2 (x9 zl (q0 (q8 3) x6)) (dC (.bl true))))))))
def ZB:List PV->Option PV:=r6 4 2 YT
theorem sc_check_cloths:y7 ["cloths", "hues", "seen", "cloth"] ["cloths", "hues"] (j8 Jl):=u7
theorem LT (F:Fun K "check_cloths" "check_cloths" Jl f fd)(D9:Fn P w K mg base 3 "is_cloth" ["thing", "hues"] (y0 ZE))(Ag:Fn P w K mg base 1 "name_of" ["cloth"] (y0 zl))(Ad:mg "len"=none){B0:Tok}(A7:mg "MOST_CLOTHS"=some (.int 10 B0)):FnOk P w K mg base w6 4 f fd ["cloths", "hues"] (y0 ZB) :=
 qg (k:=3) (b:=YT) F sc_check_cloths rfl fun cdv A outer s H E hr=>⟨_,(j3 (o6 (qh (Xo) (m4 (xf (K:=K) rfl) rfl Ad PySem.boot_len (aW (pv 0))) (ZW (v:= .int 10) rfl A7 ⟨_,rfl⟩) (i4 _)) (j4 jt) o7)
  (j3 (sW 2 sc_check_cloths.nd Hg)
  (j4 (xD PassesOwn.never rfl (@qC _ K _ _ _ rfl (pv 0)) (u6 (i:=3) sc_check_cloths.nd rfl (Or.inl rfl))
   (j3 (o6 (qY (qR (K:=K) rfl (w4 D9 hr (by decide) rfl (aC (pv 3) (aW (pv 1)))) (fun _=>rfl))) (j4 jt) o7)
  (j3 (o6 (HJ (Hc (zP hr) (w4 Ag hr (by decide) rfl (aW (pv 3))) (pv 2))) (j4 jt) o7)
  (j4 (HG (zP hr) (pv 2) (w4 Ag hr (by decide) rfl (aW (pv 3))) xR rfl)))))))),
  inferInstance⟩
abbrev Jg:Stmt:=QU (top 53) 1
abbrev YN (Aa:Addr):MS:=(y8 (x8 jM (x9 qj (q0 (jA Aa "least" (q8 0)) x6)) (dC (.int 1))))
def jI (Aa:Addr):List PV->Option PV:=r6 1 1 (YN Aa)
theorem Rq:y7 ["self"] ["self"] (j8 Jg):=u7
theorem LM {Aa:Addr}(F:Fun K "hues" "Works.hues" Jg f fd)(Ad:mg "len"=none)[jX K Aa][NoA K Aa "least"]:FnOk P w K mg base w6 1 f fd ["self"] (y0 (jI Aa)) :=
 qg (k:=0) (b:=(YN Aa)) F Rq rfl fun cdv A outer s H E hr=>⟨_,(j4 (y6 (u5 (Qp) (m4 (xf (K:=K) rfl) rfl Ad PySem.boot_len (aW (WL (K:=K) rfl (pv 0) rfl))) z0))),
  inferInstance⟩
abbrev Jh:Stmt:=QU (top 53) 6
abbrev YO (Aa:Addr):MS:=(y8 (x9 vj (q0 (jA Aa "held" (q8 0)) x6)))
def Xb (Aa:Addr):List PV->Option PV:=qN 1 1 (YO Aa)
theorem Rs:y7 ["self"] ["self"] (j8 Jh):=u7
theorem LO {Aa:Addr}(F:Fun K "names" "Works.names" Jh f fd)(Am:mg "sorted"=none)[jX K Aa][NoA K Aa "held"]:FnOk P w K mg base w6 1 f fd ["self"] (m9 (Xb Aa)) :=
 okO (k:=0) (b:=(YO Aa)) F Rs rfl fun cdv A outer s H E hr=>⟨_,(j4 (y6 (m4 (VF (K:=K) rfl rfl) rfl Am XY (aW (WL (K:=K) rfl (pv 0) rfl))))),
  inferInstance⟩
abbrev JS:Stmt:=top 24
abbrev UA:MS:=(y8 (h8 [none] [0] (o9 (q8 0)) (v6 0) i5 (x9 zl (q0 (q8 0) x6))))
def ZJ:List PV->Option PV:=qN 1 1 UA
theorem RO:y7 ["cloths"] ["cloths"] (j8 JS):=u7
theorem ND (F:Fun K "names_of" "names_of" JS f fd)(Ag:Fn P w K mg base 1 "name_of" ["cloth"] (y0 zl)):FnOk P w K mg base w6 2 f fd ["cloths"] (m9 ZJ) :=
 okO (k:=1) (b:=UA) F RO rfl fun cdv A outer s H E hr=>⟨_,(j4 (y6 (qG (N':=["cloth"]) (cap:=[none]) (qf rfl rfl rfl) rfl (@qC _ K _ _ _ rfl (pv 0)) (fun _ _ _ _ _ _=>(u6 (i:=0) (by show (["cloth"]:List Str).Nodup;decide +kernel) rfl (Or.inl rfl))) (fun _ _ _ _ _ _=>ql) (fun _ _ _ _ _ _=>(w4 Ag hr (by decide) rfl (aW (pv 0))))))),
  inferInstance⟩
abbrev Jk:Stmt:=top 25
abbrev YS:MS:=(y8 (Gx [] (q0 (q8 0) x6) (qO (q0 (x9 Xd (q0 (q8 0) x6)) (q0 (x9 zl (q0 (q8 0) x6)) x6)))))
def ZA:List PV->Option PV:=qN 1 1 YS
theorem Ru:y7 ["cloths"] ["cloths"] (j8 Jk):=u7
theorem LS (F:Fun K "by_dues" "by_dues" Jk f fd)(B3:Fn P w K mg base 1 "due_of" ["cloth"] (y0 Xd))(Ag:Fn P w K mg base 1 "name_of" ["cloth"] (y0 zl))(Am:mg "sorted"=none){c_l P_l:Addr}{p_l:Array Value}(l_f:fd.code = .ref c_l)(l_C:∀ h:Heap,K.In h->PySem.W.CodeHd h c_l P_l)(l_P:(P_l,p_l,[((⟨58,30,58,75⟩:Pos),("by_dues.<locals>.<lambda>":Str))])∈TABS):FnOk P w K mg base w6 6 f fd ["cloths"] (m9 ZA) :=
 okOC (k:=5) (b:=YS) F Ru rfl fun A outer s H E hr=>⟨_,(j4 (y6 (Ho (K:=K) (k:=2) (x := "cloth") (fr:=[]) (fi:=[]) (clos:=[]) rfl (hr.mono (by decide)) rfl Am (aW (pv 0)) l_P
  (by exact List.mem_singleton.mpr rfl) (fun p hp _=>by rw [List.mem_singleton.mp hp];rfl) l_f l_C ⟨rfl,rfl,rfl,by decide +kernel,by decide +kernel,(fun x h=>by
   exfalso
   revert h
   show ¬ (List.lookup x _=_);simp only [List.lookup]
   repeat' split
   all_goals simp),by decide +kernel⟩ ⟨rfl,(fun j y i e=>by simp at e),(fun y c e=>by cases e),(fun y c hy=>by simp at hy)⟩
  (fun f c' s H hr2=>(@xZ _ _ _ _ _ (aC (w4 B3 hr2 (by decide) rfl (aW (pv 0))) (aW (w4 Ag hr2 (by decide) rfl (aW (pv 0)))))))
  (fun _ _ _ _ _=>rfl)))),
  inferInstance⟩
abbrev Je:Stmt:=QU (top 53) 8
abbrev YL (Aa:Addr):MS:=(y8 (h8 [none,some 1] [0] (dItV (jA Aa "held" (q8 0))) (v6 0) (dT (x8 qX (x9 Qf (q0 (q8 0) x6)) (q9 1))) (q8 0)))
def Xa (Aa:Addr):List PV->Option PV:=qN 2 2 (YL Aa)
theorem Ro:y7 ["self", "hue"] ["self", "hue"] (j8 Je):=u7
theorem LK {Aa:Addr}(F:Fun K "cloths_in" "Works.cloths_in" Je f fd)(Az:Fn P w K mg base 1 "hue_of" ["cloth"] (y0 Qf))[jX K Aa][NoA K Aa "held"]:FnOk P w K mg base w6 2 f fd ["self", "hue"] (m9 (Xa Aa)) :=
 okO (k:=1) (b:=(YL Aa)) F Ro rfl fun cdv A outer s H E hr=>⟨_,(j4 (y6 (qG (N':=["cloth", "hue"]) (cap:=[none,some 1]) (qf rfl rfl rfl) rfl (Hy (WL (K:=K) rfl (pv 0) rfl)) (fun _ _ _ _ _ _=>(u6 (i:=0) (by show (["cloth", "hue"]:List Str).Nodup;decide +kernel) rfl (Or.inl rfl))) (fun _ _ _ _ _ _=>(Ba (qh (jm (K:=K) (xm hr) rfl) (w4 Az hr (by decide) rfl (aW (pv 0))) (pv 1) (i4 _)))) (fun _ _ _ _ _ _=>(pv 0))))),
  inferInstance⟩
abbrev Jf:Stmt:=QU (top 53) 9
abbrev YM (Aa:Addr):MS:=(y8 (x9 ZJ (q0 (x9 ZA (q0 (jd Aa "cloths_in" (Xa Aa) (q8 0) (q0 (q8 1) x6)) x6)) x6)))
def Qb (Aa:Addr):List PV->Option PV:=qN 2 2 (YM Aa)
theorem Rp:y7 ["self", "hue"] ["self", "hue"] (j8 Jf):=u7
theorem LL {Aa:Addr}(F:Fun K "due_row" "Works.due_row" Jf f fd)(Ee:Fn P w K mg base 6 "by_dues" ["cloths"] (m9 ZA))(D8:Fn P w K mg base 2 "names_of" ["cloths"] (m9 ZJ))(Ao:Mt P w K mg base 2 Aa "cloths_in" ["self", "hue"] (m9 (Xa Aa))):FnOk P w K mg base w6 7 f fd ["self", "hue"] (m9 (Qb Aa)) :=
 okO (k:=6) (b:=(YM Aa)) F Rp rfl fun cdv A outer s H E hr=>⟨_,(j4 (y6 (w4 D8 hr (by decide) rfl (aW (w4 Ee hr (by decide) rfl (aW (KM Ao hr (by decide) (pv 0) (aW (pv 1))))))))),
  inferInstance⟩
abbrev Jj:Stmt:=top 27
abbrev YR (Aa:Addr):MS:=(w5 (m5 (qd (i9 (x9 qy (q0 (q9 1) (q0 (dC (.ty "list")) x6))))) (y8 (dC (.bl false))) n5)
  (w5 (p6 2 (jd Aa "names" (Xb Aa) (q8 0) x6))
  (y8 (zN (x9 ze (q0 (h8 [none,some 2] [0] (o9 (q8 1)) (v6 0) i5 (x8 (pIn false) (q9 0) (q9 1))) x6)) (x8 qX (Gs (q9 1)) (x9 qj (q0 (q9 1) x6)))))))
def Qd (Aa:Addr):List PV->Option PV:=r6 3 2 (YR Aa)
theorem sc_are_names:y7 ["works", "names", "known"] ["works", "names"] (j8 Jj):=u7
theorem LR {Aa:Addr}(F:Fun K "are_names" "are_names" Jj f fd)(Aq:mg "all"=none)(Ab:mg "isinstance"=none)(Ad:mg "len"=none)(Af:mg "list"=none)(Iw:mg "set"=none)(A8:Mt P w K mg base 1 Aa "names" ["self"] (m9 (Xb Aa))):FnOk P w K mg base w6 2 f fd ["works", "names"] (y0 (Qd Aa)) :=
 qg (k:=1) (b:=(YR Aa)) F sc_are_names rfl fun cdv A outer s H E hr=>⟨_,(j3 (o6 (qY (qR (K:=K) rfl (m4 (zK (K:=K) rfl) rfl Ab zJ (aC (pv 1) (aW (zU (v:= .ty "list") rfl Af zw rfl)))) (fun _=>rfl))) (j4 (y6 xR)) o7)
  (j3 (sW 2 sc_are_names.nd (ZY A8 hr (by decide) (pv 0)))
  (j4 (y6 (vV (m4 (vE (K:=K) rfl rfl) rfl Aq vD (aW (qG (N':=["thing", "known"]) (cap:=[none,some 2]) (qf rfl rfl rfl) rfl (@qC _ K _ _ _ rfl (pv 1)) (fun _ _ _ _ _ _=>(u6 (i:=0) (by show (["thing", "known"]:List Str).Nodup;decide +kernel) rfl (Or.inl rfl))) (fun _ _ _ _ _ _=>ql) (fun _ _ _ _ _ _=>(jN (KG (K:=K) rfl) (pv 0) (pv 1) (by with_unfolding_all rfl)))))) (Qs (jN (jm (K:=K) (xm hr) rfl) (m4 CL rfl Ad PySem.boot_len (aW (zB (CQ (K:=K) rfl rfl) rfl Iw Cz (aW (pv 1))))) (m4 (xf (K:=K) rfl) rfl Ad PySem.boot_len (aW (pv 1))) (i4 _)))))))),
  inferInstance⟩
abbrev Jm:Stmt:=top 28
abbrev YU (Aa:Addr):MS:=(m5 (qd (i9 (x9 (Qd Aa) (q0 (q8 0) (q0 (q8 1) x6))))) xQ n5)
def Xc (Aa:Addr):List PV->Option PV:=r6 2 2 (YU Aa)
theorem Rv:y7 ["works", "names"] ["works", "names"] (j8 Jm):=u7
theorem LU {Aa:Addr}(F:Fun K "check_names" "check_names" Jm f fd)(B9:Fn P w K mg base 2 "are_names" ["works", "names"] (y0 (Qd Aa))):FnOk P w K mg base w6 3 f fd ["works", "names"] (y0 (Xc Aa)) :=
 qg (k:=2) (b:=(YU Aa)) F Rv rfl fun cdv A outer s H E hr=>⟨_,(j4 (o6 (qY (qR (K:=K) rfl (w4 B9 hr (by decide) rfl (aC (pv 0) (aW (pv 1)))) (fun _=>rfl))) (j4 jt) o7)),
  inferInstance⟩
abbrev Js:Stmt:=top 33
abbrev YZ (Aa:Addr):MS:=(y8 (h8 [none,some 0] [0] (xA (q0 (jd Aa "hues" (jI Aa) (q8 0) x6) x6)) (v6 0) i5 (jd Aa "due_row" (Qb Aa) (q8 1) (q0 (q8 0) x6))))
def Xe (Aa:Addr):List PV->Option PV:=qN 1 1 (YZ Aa)
theorem Ry:y7 ["works"] ["works"] (j8 Js):=u7
theorem Na {Aa:Addr}(F:Fun K "due_rows" "due_rows" Js f fd)(Ac:mg "range"=none)(At:Mt P w K mg base 7 Aa "due_row" ["self", "hue"] (m9 (Qb Aa)))(Ai:Mt P w K mg base 1 Aa "hues" ["self"] (y0 (jI Aa))):FnOk P w K mg base w6 8 f fd ["works"] (m9 (Xe Aa)) :=
 okO (k:=7) (b:=(YZ Aa)) F Ry rfl fun cdv A outer s H E hr=>⟨_,(j4 (y6 (qG (N':=["hue", "works"]) (cap:=[none,some 0]) (qf rfl rfl rfl) rfl (zo rfl Ac (aW (ZY Ai hr (by decide) (pv 0)))) (fun _ _ _ _ _ _=>(u6 (i:=0) (by show (["hue", "works"]:List Str).Nodup;decide +kernel) rfl (Or.inl rfl))) (fun _ _ _ _ _ _=>ql) (fun _ _ _ _ _ _=>(KM At hr (by decide) (pv 1) (aW (pv 0))))))),
  inferInstance⟩
abbrev Va:Stmt:=top 34
abbrev UI:MS:=(w5 (p6 2 (h8 [none,none,some 0] [0,1] (wJ (q0 (q8 1) x6)) (qW 2 (n9 (v6 0) (n9 (v6 1) qV))) (dT (x8 (pIn false) (q9 1) (q9 2))) (q8 0)))
  (w5 (xV (wN (q0 (q8 2) (q0 (jC (q9 2) (pSo (dC (.int 1))) pNo) x6))) (qW 2 (n9 (v6 3) (n9 (v6 4) qV))) (m5 (dT (x8 pGt (jB (q9 0) (x8 w9 (q9 1) (q9 3))) (jB (q9 0) (x8 w9 (q9 1) (q9 4))))) (y8 (qO (q0 (q8 3) (q0 (q8 4) x6)))) n5))
  (y8 (dC .non))))
def Xl:List PV->Option PV:=r6 5 2 UI
theorem sc_turned_in:y7 ["row", "names", "places", "ahead", "behind"] ["row", "names"] (j8 Va):=u7
theorem NN (F:Fun K "turned_in" "turned_in" Va f fd)(Ah:mg "enumerate"=none)(Eu:mg "zip"=none):FnOk P w K mg base w6 1 f fd ["row", "names"] (y0 Xl) :=
 qg (k:=0) (b:=UI) F sc_turned_in rfl fun cdv A outer s H E hr=>⟨_,(j3 (vY (i:=2) (N':=["place", "name", "row"]) (cap:=[none,none,some 0]) (qf rfl rfl rfl) rfl sc_turned_in.nd rfl rfl (WQ (K:=K) rfl rfl Ah (aW (pv 1))) (fun _ _ _ _ _ _=>(jO (K:=K) (n:=2) rfl rfl (xC (u6 (i:=0) (by show (["place", "name", "row"]:List Str).Nodup;decide +kernel) rfl (Or.inl rfl)) (xC (u6 (i:=1) (by show (["place", "name", "row"]:List Str).Nodup;decide +kernel) rfl (Or.inl rfl)) jP)))) (fun _ _ _ _ _ _=>(Ba (qh (KG (K:=K) rfl) (pv 1) (pv 2) (by with_unfolding_all rfl)))) (fun _ _ _ _ _ _=>(pv 0)))
  (j3 (xD PassesOwn.never rfl (KR (K:=K) rfl rfl Eu (aC (pv 2) (aW (Qt (XB (K:=K) rfl) (pv 2) (Qv z0) Qu)))) (jO (K:=K) (n:=2) rfl rfl (xC (u6 (i:=3) sc_turned_in.nd rfl (Or.inl rfl)) (xC (u6 (i:=4) sc_turned_in.nd rfl (Or.inl rfl)) jP)))
   (j4 (o6 (qh (Xo) (jq (K:=K) rfl PySem.F.plainAttrs_list PySem.F.slot_list_index PySem.F.type_list_index (KC (K:=K) rfl) (pv 0) (v9 (iW (K:=K) rfl (pv 1) (pv 3)) g0)) (jq (K:=K) rfl PySem.F.plainAttrs_list PySem.F.slot_list_index PySem.F.type_list_index (KC (K:=K) rfl) (pv 0) (v9 (iW (K:=K) rfl (pv 1) (pv 4)) g0)) (i4 _)) (j4 (y6 (@xZ _ _ _ _ _ (aC (pv 3) (aW (pv 4)))))) o7)))
  (j4 (y6 jr)))),
  inferInstance⟩
abbrev Vb:Stmt:=top 35
abbrev UJ:MS:=(w5 (xV (o9 (q8 0)) (v6 2) (w5 (p6 3 (x9 Xl (q0 (q8 2) (q0 (q8 1) x6))))
  (m5 (dT (x8 vU (q9 3) (dC .non))) (y8 (q8 3)) n5)))
  (y8 (dC .non)))
def vh:List PV->Option PV:=r6 4 2 UJ
theorem sc_turned_pair:y7 ["rows", "names", "row", "pair"] ["rows", "names"] (j8 Vb):=u7
theorem NO (F:Fun K "turned_pair" "turned_pair" Vb f fd)(D5:Fn P w K mg base 1 "turned_in" ["row", "names"] (y0 Xl)):FnOk P w K mg base w6 2 f fd ["rows", "names"] (y0 vh) :=
 qg (k:=1) (b:=UJ) F sc_turned_pair rfl fun cdv A outer s H E hr=>⟨_,(j3 (xD PassesOwn.never rfl (@qC _ K _ _ _ rfl (pv 0)) (u6 (i:=2) sc_turned_pair.nd rfl (Or.inl rfl))
   (j3 (sW 3 sc_turned_pair.nd (w4 D5 hr (by decide) rfl (aC (pv 2) (aW (pv 1)))))
  (j4 (o6 (qh (WH) (pv 3) jr (i4 _)) (j4 (y6 (pv 3))) o7))))
  (j4 (y6 jr))),
  inferInstance⟩
abbrev JN:Stmt:=top 30
abbrev Uv:MS:=(w5 (p6 2 (x8 w9 (q9 1) (dC (.int 0))))
  (w5 (p6 3 (x8 w9 (q9 1) (dC (.int 1))))
  (w5 (p6 4 (x8 qm (jC (q9 0) pNo (pSo (q8 2))) (jC (q9 0) (pSo (x8 qm (q9 2) (dC (.int 1)))) pNo)))
  (y8 (x8 qm (x8 qm (jC (q9 4) pNo (pSo (q8 3))) (xz (q0 (x8 w9 (q9 0) (q9 2)) x6))) (jC (q9 4) (pSo (q8 3)) pNo))))))
def zT:List PV->Option PV:=r6 5 2 Uv
theorem sc_moved:y7 ["names", "move", "at", "to", "others"] ["names", "move"] (j8 JN):=u7
theorem Ny (F:Fun K "moved" "moved" JN f fd):FnOk P w K mg base w6 1 f fd ["names", "move"] (y0 zT) :=
 qg (k:=0) (b:=Uv) F sc_moved rfl fun cdv A outer s H E hr=>⟨_,(j3 (sW 2 sc_moved.nd (iW (K:=K) rfl (pv 1) z0))
  (j3 (sW 3 sc_moved.nd (iW (K:=K) rfl (pv 1) z0))
  (j3 (sW 4 sc_moved.nd (u5 (xu (K:=K) rfl) (Qt (XB (K:=K) rfl) (pv 0) Qu (Qv (pv 2))) (Qt (XB (K:=K) rfl) (pv 0) (Qv (u5 (xu (K:=K) rfl) (pv 2) z0)) Qu)))
  (j4 (y6 (u5 (xu (K:=K) rfl) (u5 (xu (K:=K) rfl) (Qt (XB (K:=K) rfl) (pv 4) Qu (Qv (pv 3))) (@zf _ _ _ _ (aW (iW (K:=K) rfl (pv 0) (pv 2))))) (Qt (XB (K:=K) rfl) (pv 4) (Qv (pv 3)) Qu))))))),
  inferInstance⟩
abbrev Jz:Stmt:=top 31
abbrev Ug:MS:=(y8 (x9 ze (q0 (h8 [none,some 1] [0] (wK (q8 0)) (v6 0) i5 (zb pLe pLt (dC (.int 0)) (q9 0) (q9 1))) x6)))
def jJ:List PV->Option PV:=r6 2 2 Ug
theorem RE:y7 ["move", "many"] ["move", "many"] (j8 Jz):=u7
theorem Ni (F:Fun K "is_move" "is_move" Jz f fd)(Aq:mg "all"=none):FnOk P w K mg base w6 1 f fd ["move", "many"] (y0 jJ) :=
 qg (k:=0) (b:=Ug) F RE rfl fun cdv A outer s H E hr=>⟨_,(j4 (y6 (m4 (vE (K:=K) rfl rfl) rfl Aq vD (aW (qG (N':=["place", "many"]) (cap:=[none,some 1]) (qf rfl rfl rfl) rfl (WR (K:=K) rfl (pv 0)) (fun _ _ _ _ _ _=>(u6 (i:=0) (by show (["place", "many"]:List Str).Nodup;decide +kernel) rfl (Or.inl rfl))) (fun _ _ _ _ _ _=>ql) (fun _ _ _ _ _ _=>(WK (Ql) (ZU) z0 (pv 0) (pv 1)))))))),
  inferInstance⟩
abbrev Vc:Stmt:=top 32
abbrev UK:MS:=(w5 (p6 2 (x9 zA (q0 (q9 0) x6)))
  (w5 (xV (wJ (q0 (q8 1) x6)) (qW 2 (n9 (v6 3) (n9 (v6 4) qV))) (w5 (m5 (qd (i9 (x9 jJ (q0 (q8 4) (q0 (x9 qj (q0 (q9 2) x6)) x6))))) xQ n5)
  (p6 2 (x9 zT (q0 (q8 2) (q0 (q8 4) x6))))))
  (y8 (q8 2))))
def ZL:List PV->Option PV:=r6 5 2 UK
theorem sc_walked:y7 ["names", "moves", "found", "number", "move"] ["names", "moves"] (j8 Vc):=u7
theorem NP (F:Fun K "walked" "walked" Vc f fd)(Eh:Fn P w K mg base 1 "is_move" ["move", "many"] (y0 jJ))(D7:Fn P w K mg base 1 "moved" ["names", "move"] (y0 zT))(Ah:mg "enumerate"=none)(Ad:mg "len"=none)(Af:mg "list"=none):FnOk P w K mg base w6 2 f fd ["names", "moves"] (y0 ZL) :=
 qg (k:=1) (b:=UK) F sc_walked rfl fun cdv A outer s H E hr=>⟨_,(j3 (sW 2 sc_walked.nd (zB (jY (K:=K) rfl) rfl Af zw (aW (pv 0))))
  (j3 (xD PassesOwn.never rfl (WQ (K:=K) rfl rfl Ah (aW (pv 1))) (jO (K:=K) (n:=2) rfl rfl (xC (u6 (i:=3) sc_walked.nd rfl (Or.inl rfl)) (xC (u6 (i:=4) sc_walked.nd rfl (Or.inl rfl)) jP)))
   (j3 (o6 (qY (qR (K:=K) rfl (w4 Eh hr (by decide) rfl (aC (pv 4) (aW (m4 (xf (K:=K) rfl) rfl Ad PySem.boot_len (aW (pv 2)))))) (fun _=>rfl))) (j4 jt) o7)
  (j4 (sW 2 sc_walked.nd (w4 D7 hr (by decide) rfl (aC (pv 2) (aW (pv 4))))))))
  (j4 (y6 (pv 2))))),
  inferInstance⟩
abbrev JO:Stmt:=top 36
noncomputable abbrev Uw (An:LQ):MS:=(w5 (vH 3 (xz x6))
  (w5 (p6 4 (x9 zA (q0 (q9 1) x6)))
  (w5 (p6 5 (x9 vh (q0 (q8 0) (q0 (q8 4) x6))))
  (w5 (jf (dT (x8 vU (q9 5) (dC .non))) (w5 (p6 6 (XZ An 1 (jg 2 (q8 1)) 2 (q0 (q8 4) (q0 (q8 5) x6))))
  (w5 (vG 3 (q8 6))
  (w5 (p6 4 (x9 zT (q0 (q8 4) (q0 (q8 6) x6))))
  (p6 5 (x9 vh (q0 (q8 0) (q0 (q8 4) x6))))))) 101)
  (y8 (Xn 3))))))
noncomputable def Xj (An:LQ):List PV->Option PV:=qN 7 3 (Uw An)
theorem sc_moves_to:y7 ["rows", "names", "move_for", "moves", "found", "pair", "move"] ["rows", "names", "move_for"] (j8 JO):=u7
theorem Nz (F:Fun K "moves_to" "moves_to" JO f fd)(D7:Fn P w K mg base 1 "moved" ["names", "move"] (y0 zT))(Ar:Fn P w K mg base 2 "turned_pair" ["rows", "names"] (y0 vh))(Af:mg "list"=none):FnOk P w K mg base w6 3 f fd ["rows", "names", "move_for"] (m9 (Xj (LQ.mk P w K mg base))) :=
 okO (k:=2) (b:=(Uw (LQ.mk P w K mg base))) F sc_moves_to rfl fun cdv A outer s H E hr=>⟨_,(j3 (sW 3 sc_moves_to.nd (@zf _ _ _ _ g0))
  (j3 (sW 4 sc_moves_to.nd (zB (jY (K:=K) rfl) rfl Af zw (aW (pv 1))))
  (j3 (sW 5 sc_moves_to.nd (w4 Ar hr (by decide) rfl (aC (pv 0) (aW (pv 4)))))
  (j3 (HI PassesOwn.never (qh (WH) (pv 5) jr (i4 _))
   (j3 (sW 6 sc_moves_to.nd (Hf (P:=P) (w:=w) (K:=K) (mg:=mg) (base:=base) (i:=2) (k:=1) rfl rfl (hr.mono (by decide)) (aC (pv 4) (aW (pv 5)))))
  (j3 (jQ (jq (K:=K) rfl PySem.F.plainAttrs_list PySem.F.slot_list_append PySem.F.type_list_append ZQ (pv 3) (v9 (pv 6) g0)))
  (j3 (sW 4 sc_moves_to.nd (w4 D7 hr (by decide) rfl (aC (pv 4) (aW (pv 6)))))
  (j4 (sW 5 sc_moves_to.nd (w4 Ar hr (by decide) rfl (aC (pv 0) (aW (pv 4))))))))))
  (j4 (y6 (pv 3))))))),
  inferInstance⟩
abbrev JZ:Stmt:=top 37
noncomputable abbrev UH (An:LQ)(Aa:Addr):MS:=(w5 (va (x9 (Xc Aa) (q0 (q8 0) (q0 (q8 1) x6))))
  (VN An 1 2 (q8 1) (Xj An) (x9 (Xe Aa) (q0 (q8 0) x6)) (q8 1)))
noncomputable def xY (An:LQ)(Aa:Addr):List PV->Option PV:=qN 2 2 (UH An Aa)
theorem RT:y7 ["works", "names"] ["works", "names"] (j8 JZ):=u7
theorem NM {Aa:Addr}(F:Fun K "to_dues" "to_dues" JZ f fd)(A9:Fn P w K mg base 3 "check_names" ["works", "names"] (y0 (Xc Aa)))(Eb:Fn P w K mg base 8 "due_rows" ["works"] (m9 (Xe Aa)))(Ea:Fn P w K mg base 3 "moves_to" ["rows", "names", "move_for"] (m9 (Xj (LQ.mk P w K mg base)))){c_l P_l:Addr}{p_l:Array Value}(l_f:fd.code = .ref c_l)(l_C:∀ h:Heap,K.In h->PySem.W.CodeHd h c_l P_l)(l_P:(P_l,p_l,[((⟨109,44,109,68⟩:Pos),("to_dues.<locals>.<lambda>":Str))])∈TABS):FnOk P w K mg base w6 9 f fd ["works", "names"] (m9 (xY (LQ.mk P w K mg base) Aa)) :=
 okOC (k:=8) (b:=(UH (LQ.mk P w K mg base) Aa)) F RT rfl fun A outer s H E hr=>⟨_,(j3 (jQ (w4 A9 hr (by decide) rfl (aC (pv 0) (aW (pv 1)))))
  (j4 (y6 (w4 Ea hr (by decide) rfl (aC (w4 Eb hr (by decide) rfl (aW (pv 0))) (aC (pv 1) (aW (Hj (P:=P) (w:=w) (K:=K) (mg:=mg) (base:=base) (k:=0) (n:=2) (ps:=["found", "pair"]) rfl l_P (by exact List.mem_singleton.mpr rfl) (fun p hp _=>by rw [List.mem_singleton.mp hp];rfl) l_f l_C ⟨rfl,rfl,rfl,by decide +kernel,by decide +kernel,(fun x h=>by
   exfalso
   revert h
   show ¬ (List.lookup x _=_);simp only [List.lookup]
   repeat' split
   all_goals simp),by decide +kernel⟩ rfl (fun f c' A outer s H hr2=>(pv 1)) (fun _ _ _ _ us hl=>match us,hl with|[_,_],_=>rfl))))))))),
  inferInstance⟩
abbrev wc:Stmt:=QU (top 53) 0
abbrev XU (Aa:Addr):MS:=(w5 (je Aa "least" (x9 ZG (q0 (q8 1) x6)))
  (w5 (va (x9 ZD (q0 (q8 3) (q0 (q8 4) (q0 (wL Aa "hues" (jI Aa) 0 x6) x6)))))
  (w5 (va (x9 ZB (q0 (q8 2) (q0 (wL Aa "hues" (jI Aa) 0 x6) x6))))
  (w5 (je Aa "given" (h8 [none] [0] (o9 (q8 1)) (v6 0) i5 (x9 zA (q0 (q9 0) x6))))
  (w5 (je Aa "held" (x9 vS (q0 (h8 [none] [0] (o9 (q8 2)) (v6 0) i5 (qO (q0 (x9 zl (q0 (q8 0) x6)) (q0 (q8 0) x6)))) x6)))
  (w5 (je Aa "last" (dIf (dT (x8 Xq (q9 3) (dC .non))) (dUn pNeg (dC (.int 1))) (q8 3)))
  (je Aa "time" (q8 4))))))))
def Qc (Aa:Addr):List PV->Option PV:=QM 5 5 Aa (XU Aa)
theorem Rr:y7 ["self", "rinses", "cloths", "last", "time"] ["self", "rinses", "cloths", "last", "time"] (j8 wc):=u7
theorem LN {Aa:Addr}(F:FunD K "__init__" "Works.__init__" wc f fd)(Ay:Fn P w K mg base 4 "check_cloths" ["cloths", "hues"] (y0 ZB))(A6:Fn P w K mg base 3 "check_start" ["last", "time", "hues"] (y0 ZD))(Aw:Fn P w K mg base 4 "least_rinses" ["rinses"] (m9 ZG))(Ag:Fn P w K mg base 1 "name_of" ["cloth"] (y0 zl))(B7:mg "dict"=none)(Af:mg "list"=none)[jX K Aa][NoA K Aa "given"][NoA K Aa "held"][NoA K Aa "last"][NoA K Aa "least"][NoA K Aa "time"](Ai:Mt P w K mg base 1 Aa "hues" ["self"] (y0 (jI Aa))):FnOk P w K mg base w6 5 f fd ["self", "rinses", "cloths", "last", "time"] (spI Aa (Qc Aa)) :=
 okID (k:=4) (b:=XU Aa) F Rr rfl (fun cdv A outer s H E hr=>⟨_,(j3 (Xw (K:=K) rfl (pv 0) (w4 Aw hr (by decide) rfl (aW (pv 1))))
  (j3 (jQ (w4 A6 hr (by decide) rfl (aC (pv 3) (aC (pv 4) (aW (ZY Ai hr (by decide) (pv 0)))))))
  (j3 (jQ (w4 Ay hr (by decide) rfl (aC (pv 2) (aW (ZY Ai hr (by decide) (pv 0))))))
  (j3 (Xw (K:=K) rfl (pv 0) (qG (N':=["row"]) (cap:=[none]) (qf rfl rfl rfl) rfl (@qC _ K _ _ _ rfl (pv 1)) (fun _ _ _ _ _ _=>(u6 (i:=0) (by show (["row"]:List Str).Nodup;decide +kernel) rfl (Or.inl rfl))) (fun _ _ _ _ _ _=>ql) (fun _ _ _ _ _ _=>(zB (jY (K:=K) rfl) rfl Af zw (aW (pv 0))))))
  (j3 (Xw (K:=K) rfl (pv 0) (zB (VE (K:=K) rfl rfl) rfl B7 VD (aW (qG (N':=["cloth"]) (cap:=[none]) (qf rfl rfl rfl) rfl (@qC _ K _ _ _ rfl (pv 2)) (fun _ _ _ _ _ _=>(u6 (i:=0) (by show (["cloth"]:List Str).Nodup;decide +kernel) rfl (Or.inl rfl))) (fun _ _ _ _ _ _=>ql) (fun _ _ _ _ _ _=>(@xZ _ _ _ _ _ (aC (w4 Ag hr (by decide) rfl (aW (pv 0))) (aW (pv 0)))))))))
  (j3 (Xw (K:=K) rfl (pv 0) (KL (qh (KH) (pv 3) jr (i4 _)) (WM Yq z0) (pv 3)))
  (j4 (Xw (K:=K) rfl (pv 0) (pv 4))))))))),
  (by repeat' first|infer_instance|(refine @Mi.Ta _ _ _ _ ?_ ?_))⟩)
abbrev Ju:Stmt:=top 64
noncomputable abbrev Ub:MS:=(w5 (p6 2 (x9 vg (q0 (x8 w9 (q9 0) (dC (.int 0))) x6)))
  (w5 (p6 3 (x9 vS (q0 (h8 [none] [0] (o9 (x8 w9 (q9 0) (dC (.int 1)))) (v6 0) i5 (qO (q0 (x8 w9 (q9 0) (dC (.int 0))) (q0 (q8 0) x6)))) x6)))
  (w5 (dAsg (qW 2 (n9 (v6 4) (n9 (v6 5) qV))) (dSlT (q9 0) (pSo (dC (.int 2))) pNo))
  (w5 (vH 6 (xz x6))
  (w5 (xV (o9 (q8 1)) (v6 7) (w5 (m5 (dT (x8 qP (x8 w9 (qA (q9 3) (q9 7)) (dC (.int 1))) (q9 4))) (p6 5 (x8 qm (q9 5) (x8 w9 (x8 w9 (q9 2) (q9 4)) (x8 w9 (qA (q9 3) (q9 7)) (dC (.int 1)))))) n5)
  (w5 (p6 5 (x8 qm (q9 5) (x8 w9 (qA (q9 3) (q9 7)) (dC (.int 2)))))
  (w5 (p6 4 (x8 w9 (qA (q9 3) (q9 7)) (dC (.int 1))))
  (vG 6 (qO (q0 (qA (q9 3) (q9 7)) (q0 (q8 5) x6))))))))
  (y8 (Xn 6)))))))
noncomputable def Qe:List PV->Option PV:=qN 8 2 Ub
theorem sc_ends:y7 ["parts", "names", "least", "cloths", "last", "time", "found", "name"] ["parts", "names"] (j8 Ju):=u7
theorem Nc (F:Fun K "_law_ends" "_law_ends" Ju f fd)(Ey:Fn P w K mg base 1 "_law_least" ["rinses"] (y0 vg))(B7:mg "dict"=none):FnOk P w K mg base w6 2 f fd ["parts", "names"] (m9 Qe) :=
 okO (k:=1) (b:=Ub) F sc_ends rfl fun cdv A outer s H E hr=>⟨_,(j3 (sW 2 sc_ends.nd (w4 Ey hr (by decide) rfl (aW (iW (K:=K) rfl (pv 0) z0))))
  (j3 (sW 3 sc_ends.nd (zB (VE (K:=K) rfl rfl) rfl B7 VD (aW (qG (N':=["cloth"]) (cap:=[none]) (qf rfl rfl rfl) rfl (@qC _ K _ _ _ rfl (iW (K:=K) rfl (pv 0) z0)) (fun _ _ _ _ _ _=>(u6 (i:=0) (by show (["cloth"]:List Str).Nodup;decide +kernel) rfl (Or.inl rfl))) (fun _ _ _ _ _ _=>ql) (fun _ _ _ _ _ _=>(@xZ _ _ _ _ _ (aC (iW (K:=K) rfl (pv 0) z0) (aW (pv 0)))))))))
  (j3 (WX (Qt (Tf (K:=K) rfl) (pv 0) (Qv z0) Qu) (jO (K:=K) (n:=2) rfl rfl (xC (u6 (i:=4) sc_ends.nd rfl (Or.inl rfl)) (xC (u6 (i:=5) sc_ends.nd rfl (Or.inl rfl)) jP))))
  (j3 (sW 6 sc_ends.nd (@zf _ _ _ _ g0))
  (j3 (xD PassesOwn.never rfl (@qC _ K _ _ _ rfl (pv 1)) (u6 (i:=7) sc_ends.nd rfl (Or.inl rfl))
   (j3 (o6 (qh (jn (K:=K) (xm hr) rfl) (iW (K:=K) rfl (vW (zP hr) (pv 3) (pv 7) (fun _ _=>rfl)) z0) (pv 4) (i4 _)) (j4 (sW 5 sc_ends.nd (u5 (xu (K:=K) rfl) (pv 5) (iW (K:=K) rfl (iW (K:=K) rfl (pv 2) (pv 4)) (iW (K:=K) rfl (vW (zP hr) (pv 3) (pv 7) (fun _ _=>rfl)) z0))))) o7)
  (j3 (sW 5 sc_ends.nd (u5 (xu (K:=K) rfl) (pv 5) (iW (K:=K) rfl (vW (zP hr) (pv 3) (pv 7) (fun _ _=>rfl)) z0)))
  (j3 (sW 4 sc_ends.nd (iW (K:=K) rfl (vW (zP hr) (pv 3) (pv 7) (fun _ _=>rfl)) z0))
  (j4 (jQ (jq (K:=K) rfl PySem.F.plainAttrs_list PySem.F.slot_list_append PySem.F.type_list_append ZQ (pv 6) (v9 (@xZ _ _ _ _ _ (aC (vW (zP hr) (pv 3) (pv 7) (fun _ _=>rfl)) (aW (pv 5)))) g0))))))))
  (j4 (y6 (pv 6)))))))),
  inferInstance⟩
abbrev JF:Stmt:=top 65
noncomputable abbrev Um:MS:=(y8 (Za (h8 [none,none] [0,1] (o9 (x9 Qe (q0 (q8 0) (q0 (q8 1) x6)))) (qW 2 (n9 (v6 0) (n9 (v6 1) qV))) i5 (x8 jM (q9 1) (x8 w9 (q9 0) (dC (.int 3)))))))
noncomputable def vQ:List PV->Option PV:=r6 2 2 Um
theorem RJ:y7 ["parts", "names"] ["parts", "names"] (j8 JF):=u7
theorem No (F:Fun K "_law_late" "_law_late" JF f fd)(Ei:Fn P w K mg base 2 "_law_ends" ["parts", "names"] (m9 Qe))(Iz:mg "max"=none):FnOk P w K mg base w6 3 f fd ["parts", "names"] (y0 vQ) :=
 qg (k:=2) (b:=Um) F RJ rfl fun cdv A outer s H E hr=>⟨_,(j4 (y6 (Hl (K:=K) rfl rfl rfl Iz (aW (qG (N':=["cloth", "end"]) (cap:=[none,none]) (qf rfl rfl rfl) rfl (@qC _ K _ _ _ rfl (w4 Ei hr (by decide) rfl (aC (pv 0) (aW (pv 1))))) (fun _ _ _ _ _ _=>(jO (K:=K) (n:=2) rfl rfl (xC (u6 (i:=0) (by show (["cloth", "end"]:List Str).Nodup;decide +kernel) rfl (Or.inl rfl)) (xC (u6 (i:=1) (by show (["cloth", "end"]:List Str).Nodup;decide +kernel) rfl (Or.inl rfl)) jP)))) (fun _ _ _ _ _ _=>ql) (fun _ _ _ _ _ _=>(u5 (Qp) (pv 1) (iW (K:=K) rfl (pv 0) z0)))))))),
  inferInstance⟩
abbrev Jt:Stmt:=top 66
noncomputable abbrev Ua:MS:=(y8 (x8 w9 (x8 qm (xz (q0 (x8 w9 (q9 0) (dC (.int 3))) x6)) (h8 [none,none] [0,1] (o9 (x9 Qe (q0 (q8 0) (q0 (q8 1) x6)))) (qW 2 (n9 (v6 0) (n9 (v6 1) qV))) i5 (q8 1))) (dUn pNeg (dC (.int 1)))))
noncomputable def vO:List PV->Option PV:=r6 2 2 Ua
theorem Rz:y7 ["parts", "names"] ["parts", "names"] (j8 Jt):=u7
theorem Nb (F:Fun K "_law_end" "_law_end" Jt f fd)(Ei:Fn P w K mg base 2 "_law_ends" ["parts", "names"] (m9 Qe)):FnOk P w K mg base w6 3 f fd ["parts", "names"] (y0 vO) :=
 qg (k:=2) (b:=Ua) F Rz rfl fun cdv A outer s H E hr=>⟨_,(j4 (y6 (iW (K:=K) rfl (u5 (xu (K:=K) rfl) (@zf _ _ _ _ (aW (iW (K:=K) rfl (pv 0) z0))) (qG (N':=["cloth", "end"]) (cap:=[none,none]) (qf rfl rfl rfl) rfl (@qC _ K _ _ _ rfl (w4 Ei hr (by decide) rfl (aC (pv 0) (aW (pv 1))))) (fun _ _ _ _ _ _=>(jO (K:=K) (n:=2) rfl rfl (xC (u6 (i:=0) (by show (["cloth", "end"]:List Str).Nodup;decide +kernel) rfl (Or.inl rfl)) (xC (u6 (i:=1) (by show (["cloth", "end"]:List Str).Nodup;decide +kernel) rfl (Or.inl rfl)) jP)))) (fun _ _ _ _ _ _=>ql) (fun _ _ _ _ _ _=>(pv 1)))) (WM Yq z0)))),
  inferInstance⟩
abbrev Ji:Stmt:=top 67
abbrev YQ:MS:=(w5 (m5 (dT (x8 qX (q9 2) (dC (.int 0)))) (y8 (x8 pLtP (qO (q0 (x8 w9 (q9 0) (dC (.int 3))) (q0 (x8 w9 (q9 0) (dC (.int 0))) x6))) (qO (q0 (x8 w9 (q9 1) (dC (.int 3))) (q0 (x8 w9 (q9 1) (dC (.int 0))) x6))))) n5)
  (y8 (x8 pLtP (qO (q0 (x8 vT (x8 w9 (q9 0) (dC (.int 2))) (x8 w9 (q9 1) (dC (.int 4)))) (q0 (x8 w9 (q9 0) (dC (.int 0))) x6))) (qO (q0 (x8 vT (x8 w9 (q9 1) (dC (.int 2))) (x8 w9 (q9 0) (dC (.int 4)))) (q0 (x8 w9 (q9 1) (dC (.int 0))) x6))))))
def vN:List PV->Option PV:=r6 3 3 YQ
theorem Rt:y7 ["one", "other", "way"] ["one", "other", "way"] (j8 Ji):=u7
theorem LP (F:Fun K "_law_ahead" "_law_ahead" Ji f fd):FnOk P w K mg base w6 1 f fd ["one", "other", "way"] (y0 vN) :=
 qg (k:=0) (b:=YQ) F Rt rfl fun cdv A outer s H E hr=>⟨_,(j3 (o6 (qh (jm (K:=K) (xm hr) rfl) (pv 2) z0 (i4 _)) (j4 (y6 (jN (KJ (zP hr) (K:=K) rfl) (@xZ _ _ _ _ _ (aC (iW (K:=K) rfl (pv 0) z0) (aW (iW (K:=K) rfl (pv 0) z0)))) (@xZ _ _ _ _ _ (aC (iW (K:=K) rfl (pv 1) z0) (aW (iW (K:=K) rfl (pv 1) z0)))) (i4 _)))) o7)
  (j4 (y6 (jN (KJ (zP hr) (K:=K) rfl) (@xZ _ _ _ _ _ (aC (u5 (Qn) (iW (K:=K) rfl (pv 0) z0) (iW (K:=K) rfl (pv 1) z0)) (aW (iW (K:=K) rfl (pv 0) z0)))) (@xZ _ _ _ _ _ (aC (u5 (Qn) (iW (K:=K) rfl (pv 1) z0) (iW (K:=K) rfl (pv 0) z0)) (aW (iW (K:=K) rfl (pv 1) z0)))) (i4 _))))),
  inferInstance⟩
abbrev Jw:Stmt:=top 68
abbrev Ud:MS:=(w5 (p6 3 (x9 vS (q0 (h8 [none] [0] (o9 (x8 w9 (q9 0) (dC (.int 1)))) (v6 0) i5 (qO (q0 (x8 w9 (q9 0) (dC (.int 0))) (q0 (q8 0) x6)))) x6)))
  (w5 (xV (xA (q0 (x9 qj (q0 (q9 1) x6)) x6)) (v6 4) (xV (xA (q0 (q8 4) x6)) (v6 5) (w5 (p6 6 (qA (q9 3) (x8 w9 (q9 1) (q9 5))))
  (w5 (p6 7 (qA (q9 3) (x8 w9 (q9 1) (q9 4))))
  (m5 (zM (dT (x8 qX (x8 w9 (q9 6) (dC (.int 1))) (x8 w9 (q9 7) (dC (.int 1))))) (i9 (x9 vN (q0 (q8 7) (q0 (q8 6) (q0 (q8 2) x6)))))) (y8 (dC (.bl false))) n5)))))
  (y8 (dC (.bl true)))))
def vP:List PV->Option PV:=r6 8 3 Ud
theorem sc_in_order:y7 ["parts", "names", "way", "cloths", "k", "j", "one", "other"] ["parts", "names", "way"] (j8 Jw):=u7
theorem Nf (F:Fun K "_law_in_order" "_law_in_order" Jw f fd)(Ia:Fn P w K mg base 1 "_law_ahead" ["one", "other", "way"] (y0 vN))(B7:mg "dict"=none)(Ad:mg "len"=none)(Ac:mg "range"=none):FnOk P w K mg base w6 2 f fd ["parts", "names", "way"] (y0 vP) :=
 qg (k:=1) (b:=Ud) F sc_in_order rfl fun cdv A outer s H E hr=>⟨_,(j3 (sW 3 sc_in_order.nd (zB (VE (K:=K) rfl rfl) rfl B7 VD (aW (qG (N':=["cloth"]) (cap:=[none]) (qf rfl rfl rfl) rfl (@qC _ K _ _ _ rfl (iW (K:=K) rfl (pv 0) z0)) (fun _ _ _ _ _ _=>(u6 (i:=0) (by show (["cloth"]:List Str).Nodup;decide +kernel) rfl (Or.inl rfl))) (fun _ _ _ _ _ _=>ql) (fun _ _ _ _ _ _=>(@xZ _ _ _ _ _ (aC (iW (K:=K) rfl (pv 0) z0) (aW (pv 0)))))))))
  (j3 (xD PassesOwn.never rfl (zo rfl Ac (aW (m4 (xf (K:=K) rfl) rfl Ad PySem.boot_len (aW (pv 1))))) (u6 (i:=4) sc_in_order.nd rfl (Or.inl rfl))
   (j4 (xD PassesOwn.never rfl (zo rfl Ac (aW (pv 4))) (u6 (i:=5) sc_in_order.nd rfl (Or.inl rfl))
   (j3 (sW 6 sc_in_order.nd (vW (zP hr) (pv 3) (iW (K:=K) rfl (pv 1) (pv 5)) (fun _ _=>rfl)))
  (j3 (sW 7 sc_in_order.nd (vW (zP hr) (pv 3) (iW (K:=K) rfl (pv 1) (pv 4)) (fun _ _=>rfl)))
  (j4 (o6 (PW.pt (WY (qh (jm (K:=K) (xm hr) rfl) (iW (K:=K) rfl (pv 6) z0) (iW (K:=K) rfl (pv 7) z0) (i4 _)) (WZ (qR (K:=K) rfl (w4 Ia hr (by decide) rfl (aC (pv 7) (aC (pv 6) (aW (pv 2))))) (fun _=>rfl))))) (j4 (y6 xR)) o7)))))))
  (j4 (y6 xR)))),
  inferInstance⟩
abbrev JE:Stmt:=top 70
abbrev Ul:MS:=(w5 (vH 3 (x9 zA (q0 (q9 0) x6)))
  (w5 (Gw 3 4 (q8 1))
  (w5 (Gr 3 (q8 2) (q8 4))
  (y8 (Xn 3)))))
def Xh:List PV->Option PV:=qN 5 3 Ul
theorem sc_l_moved:y7 ["names", "at", "to", "here", "name"] ["names", "at", "to"] (j8 JE):=u7
theorem Nn (F:Fun K "_law_moved" "_law_moved" JE f fd)(Af:mg "list"=none):FnOk P w K mg base w6 1 f fd ["names", "at", "to"] (m9 Xh) :=
 okO (k:=0) (b:=Ul) F sc_l_moved rfl fun cdv A outer s H E hr=>⟨_,(j3 (sW 3 sc_l_moved.nd (zB (jY (K:=K) rfl) rfl Af zw (aW (pv 0))))
  (j3 (sW 4 sc_l_moved.nd (jq (K:=K) rfl PySem.F.plainAttrs_list PySem.F.slot_list_pop PySem.F.type_list_pop WF (pv 3) (v9 (pv 1) g0)))
  (j3 (jQ (jq (K:=K) rfl PySem.F.plainAttrs_list PySem.F.slot_list_insert PySem.F.type_list_insert LB (pv 3) (v9 (pv 2) (v9 (pv 4) g0))))
  (j4 (y6 (pv 3)))))),
  inferInstance⟩
abbrev Vf:Stmt:=top 71
abbrev Vy:MS:=(y8 (zN (x9 qy (q0 (q9 0) (q0 (dC (.ty "int")) x6))) (wM (x9 qy (q0 (q9 0) (q0 (dC (.ty "bool")) x6))))))
def Qi:List PV->Option PV:=r6 1 1 Vy
theorem RW:y7 ["thing"] ["thing"] (j8 Vf):=u7
theorem NS (F:Fun K "_law_whole" "_law_whole" Vf f fd)(Ef:mg "bool"=none)(Ev:mg "int"=none)(Ab:mg "isinstance"=none):FnOk P w K mg base w6 1 f fd ["thing"] (y0 Qi) :=
 qg (k:=0) (b:=Vy) F RW rfl fun cdv A outer s H E hr=>⟨_,(j4 (y6 (vV (m4 (zK (K:=K) rfl) rfl Ab zJ (aC (pv 0) (aW (zU (v:= .ty "int") rfl Ev UZ rfl)))) (Qs (KN (m4 (zK (K:=K) rfl) rfl Ab zJ (aC (pv 0) (aW (zU (v:= .ty "bool") rfl Ef UY rfl))))))))),
  inferInstance⟩
abbrev JP:Stmt:=top 72
abbrev Ux:MS:=(w5 (m5 (qU (qd (i9 (x9 qy (q0 (q9 0) (q0 (dC (.ty "list")) x6))))) (dT (x8 pGt (x9 qj (q0 (q9 0) x6)) (dC (.int 100))))) (y8 (dC (.bl false))) n5)
  (w5 (xV (o9 (q8 0)) (v6 2) (w5 (m5 (qU (qd (i9 (x9 qy (q0 (q9 2) (q0 (dC (.ty "tuple")) x6))))) (qU (dT (x8 qP (x9 qj (q0 (q9 2) x6)) (dC (.int 2)))) (qd (i9 (x9 ze (q0 (h8 [none] [0] (wK (q8 2)) (v6 0) i5 (x9 Qi (q0 (q8 0) x6))) x6)))))) (y8 (dC (.bl false))) n5)
  (m5 (qd (i9 (x9 ze (q0 (h8 [none,some 1] [0] (wK (q8 2)) (v6 0) i5 (zb pLe pLt (dC (.int 0)) (q9 0) (q9 1))) x6)))) (y8 (dC (.bl false))) n5)))
  (y8 (dC (.bl true)))))
def ZI:List PV->Option PV:=r6 3 2 Ux
theorem sc_moves_told:y7 ["moves", "many", "move"] ["moves", "many"] (j8 JP):=u7
theorem NA (F:Fun K "_law_moves_told" "_law_moves_told" JP f fd)(Ie:Fn P w K mg base 1 "_law_whole" ["thing"] (y0 Qi))(Aq:mg "all"=none)(Ab:mg "isinstance"=none)(Ad:mg "len"=none)(Af:mg "list"=none)(D6:mg "tuple"=none):FnOk P w K mg base w6 2 f fd ["moves", "many"] (y0 ZI) :=
 qg (k:=1) (b:=Ux) F sc_moves_told rfl fun cdv A outer s H E hr=>⟨_,(j3 (o6 (PW.pt (zE (qY (qR (K:=K) rfl (m4 (zK (K:=K) rfl) rfl Ab zJ (aC (pv 0) (aW (zU (v:= .ty "list") rfl Af zw rfl)))) (fun _=>rfl))) (jR (qh (Xo) (m4 (xf (K:=K) rfl) rfl Ad PySem.boot_len (aW (pv 0))) z0 (i4 _))))) (j4 (y6 xR)) o7)
  (j3 (xD PassesOwn.never rfl (@qC _ K _ _ _ rfl (pv 0)) (u6 (i:=2) sc_moves_told.nd rfl (Or.inl rfl))
   (j3 (o6 (PW.pt (zE (qY (qR (K:=K) rfl (m4 (zK (K:=K) rfl) rfl Ab zJ (aC (pv 2) (aW (zU (v:= .ty "tuple") rfl D6 Ga rfl)))) (fun _=>rfl))) (zE (qh (jn (K:=K) (xm hr) rfl) (m4 (xf (K:=K) rfl) rfl Ad PySem.boot_len (aW (pv 2))) z0 (i4 _)) (jR (qY (qR (K:=K) rfl (m4 (vE (K:=K) rfl rfl) rfl Aq vD (aW (qG (N':=["place"]) (cap:=[none]) (qf rfl rfl rfl) rfl (WR (K:=K) rfl (pv 2)) (fun _ _ _ _ _ _=>(u6 (i:=0) (by show (["place"]:List Str).Nodup;decide +kernel) rfl (Or.inl rfl))) (fun _ _ _ _ _ _=>ql) (fun _ _ _ _ _ _=>(w4 Ie hr (by decide) rfl (aW (pv 0))))))) (fun _=>rfl))))))) (j4 (y6 xR)) o7)
  (j4 (o6 (qY (qR (K:=K) rfl (m4 (vE (K:=K) rfl rfl) rfl Aq vD (aW (qG (N':=["place", "many"]) (cap:=[none,some 1]) (qf rfl rfl rfl) rfl (WR (K:=K) rfl (pv 2)) (fun _ _ _ _ _ _=>(u6 (i:=0) (by show (["place", "many"]:List Str).Nodup;decide +kernel) rfl (Or.inl rfl))) (fun _ _ _ _ _ _=>ql) (fun _ _ _ _ _ _=>(WK (Ql) (ZU) z0 (pv 0) (pv 1)))))) (fun _=>rfl))) (j4 (y6 xR)) o7))))
  (j4 (y6 xR)))),
  inferInstance⟩
abbrev JJ:Stmt:=top 73
noncomputable abbrev Us (An:LQ)(Aa:Addr):MS:=(w5 (p6 3 (x9 (xY An Aa) (q0 (q8 0) (q0 (q8 2) x6))))
  (w5 (m5 (qd (i9 (x9 ZI (q0 (q8 3) (q0 (x9 qj (q0 (q9 2) x6)) x6))))) (y8 (dC .non)) n5)
  (w5 (p6 4 (x9 zA (q0 (q9 2) x6)))
  (w5 (xV (o9 (q8 3)) (qW 2 (n9 (v6 5) (n9 (v6 6) qV))) (w5 (p6 7 (x9 Xh (q0 (q8 4) (q0 (q8 5) (q0 (q8 6) x6)))))
  (w5 (m5 (qU (dT (x8 pGt (x9 vQ (q0 (q8 1) (q0 (q8 7) x6))) (x9 vQ (q0 (q8 1) (q0 (q8 4) x6))))) (dT (x8 pGt (x9 vO (q0 (q8 1) (q0 (q8 7) x6))) (x9 vO (q0 (q8 1) (q0 (q8 4) x6)))))) (y8 (dC .non)) n5)
  (p6 4 (q8 7)))))
  (w5 (m5 (dT (x8 qP (x9 ZL (q0 (q8 2) (q0 (q8 3) x6))) (q9 4))) (y8 (dC .non)) n5)
  (y8 (q8 4)))))))
noncomputable def Qg (An:LQ)(Aa:Addr):List PV->Option PV:=r6 8 3 (Us An Aa)
theorem sc_led:y7 ["works", "parts", "names", "moves", "here", "at", "to", "other"] ["works", "parts", "names"] (j8 JJ):=u7
theorem Nu {Aa:Addr}(F:Fun K "_law_led" "_law_led" JJ f fd)(Il:Fn P w K mg base 3 "_law_end" ["parts", "names"] (y0 vO))(Ed:Fn P w K mg base 1 "_law_moved" ["names", "at", "to"] (m9 Xh))(Ez:Fn P w K mg base 3 "_law_late" ["parts", "names"] (y0 vQ))(B5:Fn P w K mg base 2 "_law_moves_told" ["moves", "many"] (y0 ZI))(Ak:Fn P w K mg base 9 "to_dues" ["works", "names"] (m9 (xY (LQ.mk P w K mg base) Aa)))(Ep:Fn P w K mg base 2 "walked" ["names", "moves"] (y0 ZL))(Ad:mg "len"=none)(Af:mg "list"=none):FnOk P w K mg base w6 10 f fd ["works", "parts", "names"] (y0 (Qg (LQ.mk P w K mg base) Aa)) :=
 qg (k:=9) (b:=(Us (LQ.mk P w K mg base) Aa)) F sc_led rfl fun cdv A outer s H E hr=>⟨_,(j3 (sW 3 sc_led.nd (w4 Ak hr (by decide) rfl (aC (pv 0) (aW (pv 2)))))
  (j3 (o6 (qY (qR (K:=K) rfl (w4 B5 hr (by decide) rfl (aC (pv 3) (aW (m4 (xf (K:=K) rfl) rfl Ad PySem.boot_len (aW (pv 2)))))) (fun _=>rfl))) (j4 (y6 jr)) o7)
  (j3 (sW 4 sc_led.nd (zB (jY (K:=K) rfl) rfl Af zw (aW (pv 2))))
  (j3 (xD PassesOwn.never rfl (@qC _ K _ _ _ rfl (pv 3)) (jO (K:=K) (n:=2) rfl rfl (xC (u6 (i:=5) sc_led.nd rfl (Or.inl rfl)) (xC (u6 (i:=6) sc_led.nd rfl (Or.inl rfl)) jP)))
   (j3 (sW 7 sc_led.nd (w4 Ed hr (by decide) rfl (aC (pv 4) (aC (pv 5) (aW (pv 6))))))
  (j3 (o6 (PW.pt (zE (qh (Xo) (w4 Ez hr (by decide) rfl (aC (pv 1) (aW (pv 7)))) (w4 Ez hr (by decide) rfl (aC (pv 1) (aW (pv 4)))) (i4 _)) (jR (qh (Xo) (w4 Il hr (by decide) rfl (aC (pv 1) (aW (pv 7)))) (w4 Il hr (by decide) rfl (aC (pv 1) (aW (pv 4)))) (i4 _))))) (j4 (y6 jr)) o7)
  (j4 (sW 4 sc_led.nd (pv 7))))))
  (j3 (o6 (qh (jn (K:=K) (xm hr) rfl) (w4 Ep hr (by decide) rfl (aC (pv 2) (aW (pv 3)))) (pv 4) (i4 _)) (j4 (y6 jr)) o7)
  (j4 (y6 (pv 4)))))))),
  inferInstance⟩
theorem Yt (n:Int):vf [.at (.int n)]=some (.at (.bl true)):=qv rfl (i6 (wU (j9 rfl Mq) (DA (v:=false) (j9 rfl Mr))))
theorem Sj (n k:Int):jk [.at (.int n),.at (.int k)]=some (.at (.bl (decide (k<=n)))):=qv rfl (i6 (wU (j9 rfl (Yt n)) rfl))
theorem XJ {n k:Int}(h:k<=n):jk [.at (.int n),.at (.int k)]=some (.at (.bl true)):=(Sj n k).trans (by rw [decide_eq_true h])
theorem Sn {s:Str}(h:wq s):ZF [.at (.str s)]=some (.at (.bl true)):=by
 have hl:lim=1000000:=rfl;have l1:=h.one;have l8:=h.eight;have ln:qj [.at (.str s)]=some (.at (.int s.length)):=if_pos (by omega);refine qv rfl (y4 (qw (zx (xh (xr (j9 rfl Ms))) (xh (r9 (VV (r:=true) rfl (j9 rfl ln) ?_ rfl ?_)))) qB) (i6 (j9 (u4 (xk (fun c:Nat=>PV.at (.str ⟨#[c]⟩)) (fun _=>PV.at (.bl true)) s.cps.toList rfl rfl ?_ ?_) rfl) (wD _))))
 ·show some (PV.at (.bl (decide ((1:Int)<=(s.length:Int)))))=_;rw [decide_eq_true (by omega)]
 ·show some (PV.at (.bl (decide ((s.length:Int)<=8))))=_;rw [decide_eq_true (by omega)]
 ·have:s.cps.toList.length=s.length:=by simp [Str.length]
  omega
 ·intro c hc;obtain ⟨c1,c2⟩:=h.low c hc;refine ⟨_,rfl,VV rfl rfl ?_ rfl ?_⟩
  ·show some (PV.at (.bl (!decide ([c]<("a":Str).cps.toList))))=_;have e:¬ ([c]<[97]):=by rw [List.cons_lt_cons_iff];simp;omega
   rw [show ("a":Str).cps.toList=[97] by decide +kernel,decide_eq_false e];rfl
  ·show some (PV.at (.bl (!decide (("z":Str).cps.toList<[c]))))=_;have e:¬ ([122]<[c]):=by rw [List.cons_lt_cons_iff];simp;omega
   rw [show ("z":Str).cps.toList=[122] by decide +kernel,decide_eq_false e];rfl
theorem Sm {h:Nat}{c:Cl}(ok:c.Ok h):ZE [c.pv,.at (.int h)]=some (.at (.bl true)):=by refine qv rfl (y4 (qw (zx (xh (xr (j9 rfl Mu))) (r9 (v:=false) rfl)) qB) (y4 (qw (zx (xh (xr (j9 (u4 (j9 rfl rfl) rfl) (Sn ok.nm)))) (zx (xh (xr (j9 (u4 (j9 rfl rfl) rfl) (XJ (n:=(c.hue:Int)) (k:=0) (by omega))))) (r9 (v:=false) (y3 (j9 rfl rfl) rfl ?_)))) qB) (i6 (wU (j9 (u4 (j9 rfl rfl) rfl) (XJ ok.l1)) (wU (j9 (u4 (j9 rfl rfl) rfl) (Yt _)) (j9 (u4 (j9 rfl rfl) rfl) (XJ ok.w1)))))));show some (PV.at (.bl (decide ((h:Int)<=(c.hue:Int)))))=_;have:=ok.hu;rw [decide_eq_false (by omega)]
theorem Sf {l t:Int}{h:Nat}(h1:-1<=l)(h2:l<(h:Int))(h3:0<=t):ZD [.at (.int l),.at (.int t),.at (.int h)]=some (.at .non):=by refine Zl rfl (y4 (qw (VL (v:=false) (r9 (v:=true) rfl) (xh (VL (v:=true) (xr (j9 rfl (XJ h1))) (r9 (v:=true) ?_)))) qB) (qw (xh (xr (j9 rfl (XJ h3)))) qB));show some (PV.at (.bl (decide (l<(h:Int)))))=_;rw [decide_eq_true h2]
def keysOf (cs:List Cl):List j5:=cs.map fun c=>Sum.inr c.name
theorem Kt {x:Str}{α:Type}(f:Cl->PV):∀{cs:List Cl},x∉cs.map Cl.name->xK (.inr x) (keysOf cs) (cs.map f)=none
 |[],_=>rfl
 |c::cs,h=>by
  rw [List.map_cons] at h;show (if (Sum.inr c.name:j5) = .inr x then _ else xK (.inr x) (keysOf cs) (cs.map f))=_;rw [if_neg (fun e=>h (by injection e with e;rw [e];exact List.mem_cons_self)),Kt (α:=α) f fun z=>h (List.mem_cons_of_mem _ z)]
theorem Zz (f:Cl->PV):∀{cs:List Cl},(cs.map Cl.name).Nodup->∀ c∈cs,xK (.inr c.name) (keysOf cs) (cs.map f)=some (f c)
 |[],_,_,h=>nomatch h
 |d::cs,nd,c,h=>by
  rw [List.map_cons] at nd;have nd':=List.nodup_cons.mp nd;show (if (Sum.inr d.name:j5) = .inr c.name then some (f d) else xK (.inr c.name) (keysOf cs) (cs.map f))=_;rcases List.mem_cons.mp h with rfl|h
  ·rw [if_pos rfl]
  ·rw [if_neg (fun e=>nd'.1 (by injection e with e;rw [e];exact List.mem_map.mpr ⟨c,h,rfl⟩)),Zz f nd'.2 c h]
theorem Sc {cls:List Cl}{h:Nat}(hok:∀ c∈cls,c.Ok h)(nd:(cls.map Cl.name).Nodup)(ten:cls.length<=10):ZB [.lst (cls.map Cl.pv),.at (.int h)]=some (.at .non):=by
 have hl:lim=1000000:=rfl;refine Zl rfl (y4 (qw (r9 (v:=false) (y3 (j9 rfl rfl) rfl ?_)) qB) (y4 (Zp rfl) (zd rfl (QY Cl.pv (fun l ε=>∃(done:List Cl)(s3:MSlot),done++l=cls/\ε=[.sh (.lst (cls.map Cl.pv)),.sh (.at (.int h)),.ow (.dk (keysOf done) (done.map fun _=>PV.at (.bl true))),s3]) ?_ cls _ ⟨[],.no,rfl,rfl⟩).choose_spec.1)))
 ·show some (PV.at (.bl (decide ((10:Int)<((cls.map Cl.pv).length:Int)))))=_;rw [List.length_map,decide_eq_false (by omega)]
 ·rintro c l ε ⟨done,s3,e,rfl⟩;have hc:c∈cls:=by rw [<- e];exact List.mem_append_right _ List.mem_cons_self
  have hn:c.name∉done.map Cl.name:=fun z=>by
   rw [<- e,List.map_append,List.map_cons] at nd;exact (List.nodup_append.mp nd).2.2 _ z _ List.mem_cons_self rfl
  have ln:=Kt (α:=Unit) (fun _=>PV.at (.bl true)) hn;have hd:done.length<=10:=by rw [<- e] at ten;rw [List.length_append] at ten;omega
  refine ⟨_,_,rfl,y4 (qw (xh (xr (j9 rfl (Sm (hok c hc))))) qB) (y4 (qw (r9 (v:=false) ?_) qB) ?_),done++[c],.sh c.pv,by rw [<- e,List.append_assoc];rfl,rfl⟩
  ·show some (PV.at (.bl (xK (.inr c.name) (keysOf done) (done.map fun _=>PV.at (.bl true))).isSome))=_;rw [ln];rfl
  ·show (if (keysOf done).length<=lim then some (Out.nx [_,_,.ow (Jb (.inr c.name) (.at (.bl true)) (keysOf done) (done.map fun _=>PV.at (.bl true))),_]) else none)=_;unfold Jb;rw [if_pos (by unfold keysOf;rw [List.length_map];omega),ln];simp only [Option.isSome_none,Bool.false_eq_true,if_false];unfold keysOf;rw [List.map_append,List.map_append];rfl
def xX (n:Int):PV:= .at (.int n)
def qS (r:List Int):PV:= .lst (r.map xX)
def wyP (w:Wy):PV:= .tup [.at (.int w.1),.lst (w.2.map xX)]
def xq (ws:List Wy):PV:= .lst (ws.map wyP)
theorem Sy {r:List Int}{h:Nat}(hl:r.length=h)(h4:h<=4)(hv:∀ v∈r,0<=v):Xf [qS r,.at (.int h)]=some (.at (.bl true)):=by
 have hlim:lim=1000000:=rfl;refine qv rfl (y4 (qw (zx (xh (xr (j9 rfl Zw))) (r9 (v:=false) (y3 (j9 rfl rfl) rfl ?_))) qB) (i6 (j9 (u4 (xk xX (fun _=>PV.at (.bl true)) r rfl rfl (by omega) fun v hvm=>?_) rfl) (wD _))))
 ·show (peq 6 (.at (.int ((r.map xX).length:Int))) (.at (.int (h:Int)))).bind _=_;rw [List.length_map,hl];exact Qr (x:= .at (.int (h:Int))) rfl
 ·refine ⟨_,rfl,wU (j9 rfl (Yt v)) ?_⟩;show some (PV.at (.bl (decide ((0:Int)<=v))))=_;rw [decide_eq_true (hv v hvm)]
theorem Se {rss:List (List Int)}{h:Nat}(G:i7 h rss)(h1:1<=h)(h4:h<=4):ZC [i0 rss]=some (.at .non):=by
 have hlim:lim=1000000:=rfl;have hlen:=G.len;have eh:((rss.map qS).length:Int)-1=(h:Int):=by rw [List.length_map,hlen];omega
 have step:∀(k:Int),k=(h:Int)->w5 (m5 (qd (dT (zb pLe pLe (dC (.int 1)) (q9 1) (dC (.int 4))))) xQ n5)
  (m5 (qd (i9 (x9 ze (q0 (h8 [none,some 1] [0] (o9 (q8 0)) (v6 0) i5 (x9 Xf (q0 (q8 0) (q0 (q8 1) x6)))) x6)))) xQ n5) [.sh (i0 rss),.sh (.at (.int k))]=some (.nx [.sh (i0 rss),.sh (.at (.int k))]):=by
  rintro k rfl;refine y4 (qw (xh (r9 (VV (r:=true) rfl rfl ?_ rfl ?_))) qB) (qw (xh (xr (j9 (u4 (xk qS (fun _=>PV.at (.bl true)) rss rfl rfl (by omega) fun r hr=>⟨_,rfl,j9 rfl (Sy (G.row r hr).1 h4 fun v hv=>((G.row r hr).2 v hv).1)⟩) rfl) (wD _)))) qB)
  ·show some (PV.at (.bl (decide ((1:Int)<=(h:Int)))))=_;rw [decide_eq_true (by omega)]
  ·show some (PV.at (.bl (decide ((h:Int)<=4))))=_;rw [decide_eq_true (by omega)]
 exact Zl rfl (y4 (qw (xh (xr (j9 rfl Zw))) qB) (y4 (qa rfl) (step _ eh)))
theorem GG {α:Type}(f:α->PV):∀(l:List α)(n:Nat),xJ n (l.map f)=(l.zipIdx n).map fun p=>PV.tup [.at (.int ((p.2:Nat):Int)),f p.1]
 |[],_=>rfl
 |x::l,n=>by
  rw [List.map_cons,List.zipIdx_cons,List.map_cons];show PV.tup [.at (.int n),f x]::xJ (n+1) (l.map f)=_;rw [GG f l (n+1)]
theorem SA {r:List Int}(h:r.length<=4):Xk [qS r]=some (xq (zW r)):=by
 have hlim:lim=1000000:=rfl;refine zc rfl (i6 ?_);have e:=xk (cap:=[none,none]) (ts:=[0,1]) (it:=wJ (q0 (q8 0) x6)) (g:=qW 2 (n9 (v6 0) (n9 (v6 1) qV))) (f:=qO (q0 (q8 1) (q0 (xz (q0 (q8 0) x6)) x6))) (ε:=[.sh (qS r)])
  (fun p:Int×Nat=>PV.tup [.at (.int ((p.2:Nat):Int)),xX p.1]) (fun p:Int×Nat=>wyP (p.1,[(p.2:Int)])) (r.zipIdx 0) (by show some (xJ 0 (r.map xX))=_;rw [GG]) rfl (by rw [List.length_zipIdx];omega) fun p _=>⟨_,rfl,rfl⟩
 refine e.trans ?_;unfold xq zW;rw [List.mapIdx_eq_zipIdx_map,List.map_map];rfl
theorem So {a b:Wy}(h:a.2.length+b.2.length<=1000):Xg [wyP a,wyP b]=some (wyP (zS a b)):=by have hlim:lim=1000000:=rfl;refine qv rfl (i6 (zO (u4 (y3 rfl rfl rfl) (u4 (y3 rfl rfl (Xp (by rw [List.length_map,List.length_map];omega))) rfl)) (by first|decide|(show 1<=lim;decide)|(show 2<=lim;decide)|(show 3<=lim;decide))) |>.trans ?_);unfold wyP zS;rw [List.map_append]
theorem Su (a b:Wy):Xi [wyP a,wyP b]=some (wyP (jj a b)):=by
 unfold jj;by_cases h:b.1<a.1
 ·rw [if_pos h];exact qv rfl (i6 (Dz (r9 (v:=true) (y3 rfl rfl (show some (PV.at (.bl (decide (b.1<a.1))))=_ by rw [decide_eq_true h]))) rfl))
 ·rw [if_neg h];exact qv rfl (i6 (GJ (r9 (v:=false) (y3 rfl rfl (show some (PV.at (.bl (decide (b.1<a.1))))=_ by rw [decide_eq_false h]))) rfl))
theorem PN {α β:Type}(f:α->PV)(g:β->PV):∀(l:List α)(m:List β),xH (l.map f) (m.map g)=(l.zip m).map fun p=>PV.tup [f p.1,g p.2]
 |[],_=>by cases ‹List β›<;>rfl
 |_::_,[]=>rfl
 |x::l,y::m=>by
  show PV.tup [f x,g y]::xH (l.map f) (m.map g)=_;rw [PN f g l m];rfl
theorem PP {α β γ:Type}(f:α->β->γ):∀(l:List α)(m:List β),List.zipWith f l m=(l.zip m).map fun p=>f p.1 p.2
 |[],_=>by simp
 |_::_,[]=>rfl
 |x::l,y::m=>by
  show f x y::List.zipWith f l m=_;rw [PP f l m];rfl
theorem SC {ws onw:List Wy}{k:Nat}(hk:k<ws.length)(h4:ws.length<=4)(l1:∀ w∈ws,w.2.length<=100)(l2:∀ w∈onw,w.2.length<=100):Qh [xq ws,.at (.int (k:Int)),xq onw]=some (xq (thr ws k onw)):=by
 have hlim:lim=1000000:=rfl;have hg:ws.getD k (0,[])=ws[k]:=g8 hk;have hw:=List.getElem_mem hk;refine zc rfl (i6 ?_);have e:=xk (cap:=[none,none,some 0,some 1]) (ts:=[0,1]) (it:=wN (q0 (q8 0) (q0 (q8 2) x6))) (g:=qW 2 (n9 (v6 0) (n9 (v6 1) qV))) (f:=x9 Xi (q0 (q8 0) (q0 (x9 Xg (q0 (x8 w9 (q9 2) (q9 3)) (q0 (q8 1) x6))) x6))) (ε:=[.sh (xq ws),.sh (.at (.int (k:Int))),.sh (xq onw)])
  (fun p:Wy×Wy=>PV.tup [wyP p.1,wyP p.2]) (fun p:Wy×Wy=>wyP (jj p.1 (zS ws[k] p.2))) (ws.zip onw) (by show some (xH (ws.map wyP) (onw.map wyP))=_;rw [PN]) rfl (by rw [List.length_zip];omega) fun p hp=>⟨_,rfl,j9 (u4 rfl (u4 (j9 (u4 (y3 rfl rfl (za (v:=wyP ws[k]) (by rw [List.getElem?_map,List.getElem?_eq_getElem hk];rfl))) (u4 rfl rfl)) (So (by
   have q1:=l1 _ hw;have q2:=l2 p.2 (List.of_mem_zip hp).2;omega))) rfl)) (Su _ _)⟩
 refine e.trans ?_;unfold xq thr;rw [hg,PP,List.map_map];rfl
theorem SL {h k:Nat}{rss:List (List Int)}(G:i7 h rss)(hk:k<=h)(h4:h<=4):∀ r∈n8 rss k,∀ w∈r,w.2.length<=100:=by
 intro r hr w hw;have S:=Shp.all G k hk;have F:=FW.all G k hk;obtain ⟨f,hf,rfl⟩:=List.getElem_of_mem hr;obtain ⟨g,hg,rfl⟩:=List.getElem_of_mem hw;have hf':f<=h:=by have:=S.len;omega
 have hg':g<h:=by rw [<- S.row _ hr];exact hg
 have e:y9 (n8 rss k) f g=(n8 rss k)[f][g]:=by unfold y9;rw [g8 hf,g8 hg]
 have q:=F.len f g hf' hg';rw [e] at q;have:2 ^ k<=2 ^ 4:=Nat.pow_le_pow_right (by decide) (by omega);omega
def XH (T:List (List Wy)):PV:= .lst (T.map xq)
theorem Ss {rss:List (List Int)}{h:Nat}(G:i7 h rss)(h1:1<=h)(h4:h<=4):ZH [i0 rss]=some (XH (n8 rss h)):=by
 have hlim:lim=1000000:=rfl;have hlimI:(lim:Int)=1000000:=rfl;have hlen:=G.len;have st:h8 [none] [0] (o9 (q8 0)) (v6 0) i5 (x9 Xk (q0 (q8 0) x6)) [.sh (i0 rss),.no,.no,.no]=some (XH (n8 rss 0)):=by refine (xk qS (fun r=>xq (zW r)) rss rfl rfl (by omega) fun r hr=>⟨_,rfl,j9 rfl (SA (by rw [(G.row r hr).1];exact h4))⟩).trans ?_;show _=some (PV.lst ((rss.map zW).map xq));rw [List.map_map];rfl
 have rg:xA (q0 (x8 jM (x9 qj (q0 (q9 0) x6)) (dC (.int 1))) x6) [.sh (i0 rss),.sh (XH (n8 rss 0)),.no,.no]=some ((List.range h).map fun (i:Nat)=>PV.at (.int ((0:Int)+i))):=by refine jS (k:=h) (u4 (y3 (j9 rfl rfl) rfl ?_) rfl) (by omega);show some (PV.at (.int (((rss.map qS).length:Int)-1)))=_;rw [List.length_map,hlen,show ((h+1:Nat):Int)-1=(h:Int) by omega]
 have lp:=QY (g:=v6 2) (f:=w5 (p6 3 (x8 w9 (q9 1) (q9 2))) (p6 1 (h8 [none,some 2,some 3] [0] (o9 (q8 1)) (v6 0) i5 (x9 Qh (q0 (q8 0) (q0 (q8 1) (q0 (q8 2) x6)))))))
  (fun (i:Nat)=>PV.at (.int ((0:Int)+i))) (fun l ε=>∃(k:Nat)(s2 s3:MSlot),l=(List.range h).drop k/\k<=h/\ε=[.sh (i0 rss),.sh (XH (n8 rss k)),s2,s3]) (by
   rintro i l ε ⟨k,s2,s3,el,hk,rfl⟩;have hkl:k<h:=by
    have e5:(i::l).length=((List.range h).drop k).length:=by rw [<- el]
    rw [List.length_drop,List.length_range,List.length_cons] at e5;omega
   have ei:i=k:=by
    have:((List.range h).drop k)[0]?=some i:=by rw [<- el];rfl
    rw [List.getElem?_drop,List.getElem?_range (by omega)] at this;simpa using this.symm
   have er:l=(List.range h).drop (k+1):=by
    have:((List.range h).drop k).tail=l:=by rw [<- el];rfl
    rw [<- this,List.tail_drop]
   subst ei;have S:=Shp.all G i hk;have hT:i<(n8 rss i).length:=by rw [S.len];omega
   have gD:(n8 rss i).getD i []=(n8 rss i)[i]:=g8 hT;have wl:=SL G hk h4;refine ⟨_,_,rfl,y4 (qa (x:=xq (n8 rss i)[i]) (y3 rfl rfl ?_)) (qa (x:=XH (n8 rss (i+1))) ?_),i+1,_,_,er,hkl,rfl⟩
   ·show atI ((n8 rss i).map xq) (0+(i:Int))=_;rw [Int.zero_add];exact za (by rw [List.getElem?_map,List.getElem?_eq_getElem hT];rfl)
   ·refine (xk xq (fun row=>xq (thr row i (n8 rss i)[i])) (n8 rss i) rfl rfl (by rw [S.len];omega) fun row hr=>⟨_,rfl,j9 rfl ?_⟩).trans ?_
    ·show Qh [xq row,.at (.int (0+(i:Int))),xq (n8 rss i)[i]]=_;rw [Int.zero_add];exact SC (by rw [S.row row hr];exact hkl) (by rw [S.row row hr];exact h4) (wl row hr) (wl _ (List.getElem_mem hT))
    ·show _=some (PV.lst ((xB (n8 rss i) i).map xq));unfold xB;rw [List.map_map,gD];rfl) (List.range h) _ ⟨0,.no,.no,rfl,Nat.zero_le _,rfl⟩
 obtain ⟨ε',e',k,s2,s3,el,hk,rfl⟩:=lp;have ek:k=h:=by have:=congrArg List.length el;rw [List.length_drop,List.length_range] at this;simp at this;omega
 subst ek;exact qv rfl (y4 (qa st) (y4 (zd rg e') (i6 rfl)))
theorem SB {ws:List Wy}(h4:ws.length<=4):ZK [xq ws]=some (qS (ws.map (·.1))):=by have hlim:lim=1000000:=rfl;refine zc rfl (i6 ((xk wyP (fun w=>xX w.1) ws rfl rfl (by omega) fun w _=>⟨_,rfl,rfl⟩).trans ?_));unfold qS;rw [List.map_map];rfl
theorem Sr {rss:List (List Int)}{h:Nat}(G:i7 h rss)(h1:1<=h)(h4:h<=4):ZG [i0 rss]=some (i0 (qx rss h)):=by have hlim:lim=1000000:=rfl;have S:=Shp.all G h (Nat.le_refl _);refine zc rfl (y4 (Zj (j9 rfl (Se G h1 h4))) (i6 ((xk xq (fun ws=>qS (ws.map (·.1))) (n8 rss h) (Zm (j9 rfl (Ss G h1 h4))) rfl (by rw [S.len];omega) fun ws hw=>⟨_,rfl,j9 rfl (SB (by rw [S.row ws hw];exact h4))⟩).trans ?_)));show _=some (PV.lst ((qx rss h).map qS));unfold qx;rw [List.map_map];rfl
def Dr.low (d:Dr):List (List Int):=qx d.rss d.h
def DE:List Str:=["least", "given", "held", "last", "time"]
def Dr.ob (C:Addr)(d:Dr):PV:= .ob C DE [i0 d.low,i0 d.rss,.fk (keysOf d.cls) (d.cls.map Cl.pv),.at (.int d.last),.at (.int d.time)]
def Dr.names (d:Dr):List Str:=d.cls.map Cl.name
theorem VT (a b:Int):qX (.at (.int a)) (.at (.int b))=some (.at (.bl (decide (a=b)))):=by show some (PV.at (.bl (qu (.int a) (.int b))))=_;have:qu (.int a) (.int b)=decide (a=b):=rfl;rw [this]
theorem KD (a b:Int):qP (.at (.int a)) (.at (.int b))=some (.at (.bl (!decide (a=b)))):=by show some (PV.at (.bl (!qu (.int a) (.int b))))=_;have:qu (.int a) (.int b)=decide (a=b):=rfl;rw [this]
section
variable {C:Addr}{d:Dr}
theorem Sk (ok:d.Ok):jI C [d.ob C]=some (.at (.int d.h)):=by have G:=jH ok.rin;refine qv rfl (i6 (y3 (j9 (u4 (Zk rfl rfl) rfl) rfl) rfl ?_));show some (PV.at (.int (((d.low.map qS).length:Int)-1)))=_;rw [List.length_map,show d.low.length=d.h+1 from G.len,show ((d.h+1:Nat):Int)-1=(d.h:Int) by omega]
structure Lst (d:Dr)(ns:List Cl):Prop where
 sub:∀ c∈ns,c∈d.cls
 nd:(ns.map Cl.name).Nodup
def p9 (cs:List Cl):PV:= .lst (v7 (cs.map Cl.name))
theorem Lst.len {ns:List Cl}(ok:d.Ok)(L:Lst d ns):ns.length<=10:=by
 have:=WG L.nd (left:=d.cls.map Cl.name) fun x hx=>by
  obtain ⟨c,hc,rfl⟩:=List.mem_map.mp hx;exact List.mem_map.mpr ⟨c,L.sub c hc,rfl⟩
 rw [List.length_map,List.length_map] at this;have:=ok.ten;omega
theorem Sd (ok:d.Ok){ns:List Cl}(L:Lst d ns)(hN:Qd C [d.ob C,p9 ns]=some (.at (.bl true))):Xc C [d.ob C,p9 ns]=some (.at .non):=Zl rfl (qw (xh (xr (j9 rfl hN))) qB)
end
section
variable {C:Addr}{d:Dr}
theorem QP {f:Str}{a:M}{ε:ME}{y:PV}{ns:List Str}{xs:List PV}(h1:a ε=some y)(h0:ε[0]?=some (.ow (.ob C ns xs)))(hf:f∉ns)(hl:ns.length<1000):je C f a ε=some (.nx (ε.set 0 (.ow (.ob C (ns++[f]) (xs++[y]))))):=by unfold je;rw [h1,Option.bind_some,h0];exact if_pos ⟨rfl,hf,hl⟩
theorem GL {nm:Str}{m:List PV->Option PV}{i:Nat}{as:MA}{ε:ME}{ns:List Str}{fs xs:List PV}{u:V}(h0:ε[i]?=some (.ow (.ob C ns fs)))(hn:nm∉ns)(k:as ε=some xs)(e:m (.ob C ns fs::xs)=some (.at u)):wL C nm m i as ε=some (.at u):=by unfold wL;rw [h0];show (if C=C/\nm∉ns then _ else _)=_;rw [if_pos ⟨rfl,hn⟩,k,Option.bind_some,e];rfl
theorem Pn (ok:d.Ok):jI C [.ob C ["least"] [i0 d.low]]=some (.at (.int d.h)):=by have G:=jH ok.rin;refine qv rfl (i6 (y3 (j9 (u4 (Zk rfl rfl) rfl) rfl) rfl ?_));show some (PV.at (.int (((d.low.map qS).length:Int)-1)))=_;rw [List.length_map,show d.low.length=d.h+1 from G.len,show ((d.h+1:Nat):Int)-1=(d.h:Int) by omega]
theorem WW:∀ cs:List Cl,vm (cs.map fun c=>PV.tup [.at (.str c.name),c.pv])=some (cs.map fun c=>((.inr c.name:j5),c.pv))
 |[]=>rfl
 |c::cs=>by
  show Option.bind (some (Sum.inr c.name)) (fun kk=>(vm (cs.map fun c=>PV.tup [.at (.str c.name),c.pv])).map ((kk,c.pv)::·))=_;rw [Option.bind_some,WW cs];rfl
theorem Kh {cs:List Cl}(h:(cs.map Cl.name).Nodup):(keysOf cs).Nodup:=by
 induction cs with
 |nil=>exact List.nodup_nil
 |cons c cs ih=>rw [List.map_cons] at h;have h':=List.nodup_cons.mp h;refine List.nodup_cons.mpr ⟨fun z=>?_,ih h'.2⟩;obtain ⟨y,hy,e⟩:=List.mem_map.mp z;injection e with e;exact h'.1 (List.mem_map.mpr ⟨y,hy,e⟩)
theorem Sl (ok:d.Ok):Qc C [i0 d.rss,.lst (d.cls.map Cl.pv),.at (.int d.last),.at (.int d.time)]=some (d.ob C):=by
 have hlim:lim=1000000:=rfl;have ten:=ok.ten;have glen:=ok.rin.len;have h4:=ok.h4;have cp:∀(s0 s2 s3 s4:MSlot),h8 [none] [0] (o9 (q8 1)) (v6 0) i5 (x9 zA (q0 (q9 0) x6)) [s0,.sh (i0 d.rss),s2,s3,s4]=some (i0 d.rss):=fun s0 s2 s3 s4 =>
  xk qS qS d.rss rfl rfl (by omega) fun r _=>⟨_,rfl,rfl⟩
 have dk:∀(s0 s1 s3 s4:MSlot),x9 vS (q0 (h8 [none] [0] (o9 (q8 2)) (v6 0) i5 (qO (q0 (x9 zl (q0 (q8 0) x6)) (q0 (q8 0) x6)))) x6) [s0,s1,.sh (.lst (d.cls.map Cl.pv)),s3,s4]=some (.fk (keysOf d.cls) (d.cls.map Cl.pv)):=fun s0 s1 s3 s4=>by
  refine j9 (u4 (xk Cl.pv (fun c=>PV.tup [.at (.str c.name),c.pv]) d.cls rfl rfl (by omega) fun c _=>⟨_,rfl,zO (u4 (j9 rfl rfl) (u4 rfl rfl)) l2⟩) rfl) ?_;show (vm (d.cls.map fun c=>PV.tup [.at (.str c.name),c.pv])).bind _=_;have k1:(d.cls.map fun c=>((.inr c.name:j5),c.pv)).map (·.1)=keysOf d.cls:=by rw [List.map_map];rfl
  have k2:(d.cls.map fun c=>((.inr c.name:j5),c.pv)).map (·.2)=d.cls.map Cl.pv:=by rw [List.map_map];rfl
  rw [WW,Option.bind_some,k1,k2];exact if_pos ⟨Kh ok.nd,by rw [List.length_map];omega⟩
 have run:XU C [.ow (.ob C [] []),.sh (i0 d.rss),.sh (.lst (d.cls.map Cl.pv)),.sh (.at (.int d.last)),.sh (.at (.int d.time))]=some (.nx [.ow (d.ob C),.sh (i0 d.rss),.sh (.lst (d.cls.map Cl.pv)),.sh (.at (.int d.last)),.sh (.at (.int d.time))]) :=
  y4 (QP (j9 rfl (Sr ok.rin ok.h1 ok.h4)) rfl (by decide) (by decide)) (y4 (Zj (j9 (u4 rfl (u4 rfl (u4 (GL rfl (by decide) rfl (Pn ok)) rfl))) (Sf ok.l1 ok.l2 ok.t1)))
   (y4 (Zj (j9 (u4 rfl (u4 (GL rfl (by decide) rfl (Pn ok)) rfl)) (Sc ok.cl ok.nd ok.ten)))
   (y4 (QP (cp _ _ _ _) rfl (by decide) (by decide)) (y4 (QP (dk _ _ _ _) rfl (by decide) (by decide)) (y4 (QP (y:= .at (.int d.last)) (f := "last") (ns:=["least", "given", "held"]) (GJ (r9 (v:=false) (y3 rfl rfl rfl)) rfl) rfl (by decide) (by decide)) (QP (y:= .at (.int d.time)) (f := "time") (ns:=["least", "given", "held", "last"]) (xs:=[i0 d.low,i0 d.rss,.fk (keysOf d.cls) (d.cls.map Cl.pv),.at (.int d.last)]) rfl rfl (by decide) (by decide)))))))
 unfold Qc QM;refine (if_pos rfl).trans ?_;show (XU C [.ow (.ob C [] []),.sh (i0 d.rss),.sh (.lst (d.cls.map Cl.pv)),.sh (.at (.int d.last)),.sh (.at (.int d.time))]).bind _=_;rw [run];rfl
end
section
variable {C:Addr}{d:Dr}
theorem MU (cs:List Cl):ve (keysOf cs)=some (cs.map Cl.name):=by
 induction cs with
 |nil=>rfl
 |cons c cs ih=>show (ve (keysOf cs)).map (c.name::·)=_;rw [ih];rfl
theorem BU (ss:List Str):jV (v7 ss)=some ss:=by
 induction ss with
 |nil=>rfl
 |cons s ss ih=>show (jV (v7 ss)).map (s::·)=_;rw [ih];rfl
theorem Sw (ok:d.Ok):Xb C [d.ob C]=some (.lst (v7 (zq d.names))):=by refine zc rfl (i6 (j9 (u4 (Zk rfl rfl) rfl) ?_));show (ve (keysOf d.cls)).bind _=_;rw [MU,Option.bind_some,if_pos (by rw [List.length_map];have:=ok.ten;omega)];rfl
theorem BI {ss:List Str}(h:ss.Nodup):∀ i,i<=ss.length->qb (fun i=>(Sum.inr (ss.getD i ⟨#[]⟩):j5)) i=(ss.take i).map Sum.inr
 |0,_=>rfl
 |i+1,hi=>by
  have ih:=BI h i (by omega);have hl:i<ss.length:=by omega
  have eg:ss.getD i ⟨#[]⟩=ss[i]:=g8 hl;have hn:ss[i]∉ss.take i:=fun z=>by
   have e:ss=ss.take i++ss[i]::ss.drop (i+1):=by rw [<- List.drop_eq_getElem_cons hl,List.take_append_drop]
   rw [e] at h;exact (List.nodup_append.mp h).2.2 _ z _ List.mem_cons_self rfl
  unfold qb;rw [ih,eg,if_neg (fun z=>hn (by
   obtain ⟨y,hy,e⟩:=List.mem_map.mp z;injection e with e;rw [<- e];exact hy)),List.take_add_one,List.getElem?_eq_getElem hl,List.map_append]
  rfl
theorem Lr {ss:List Str}(h:ss.Nodup):Wz ss=ss.length:=by unfold Wz;rw [BI h _ (Nat.le_refl _),List.length_map,List.take_length]
theorem v_are (ok:d.Ok){ns:List Cl}(L:Lst d ns):Qd C [d.ob C,p9 ns]=some (.at (.bl true)):=by
 have hlim:lim=1000000:=rfl;have l10:=L.len ok;have en:v7 (ns.map Cl.name)=(ns.map Cl.name).map fun s=>PV.at (.str s):=rfl;refine qv rfl (y4 (qw (xh (xr (j9 rfl Zw))) qB) (y4 (qa (Zn rfl (by decide) rfl (Sw ok))) (i6 (wU (j9 (u4 (xk (fun s:Str=>PV.at (.str s)) (fun _=>PV.at (.bl true)) (ns.map Cl.name) rfl rfl (by rw [List.length_map];omega) fun s hs=>⟨_,rfl,y3 rfl rfl ((GU false s _).trans ?_)⟩) rfl) (wD _)) (y3 (y:= .at (.int (ns.length:Int))) (x:= .at (.int (ns.length:Int))) ?_ ?_ (NZ rfl))))))
 ·obtain ⟨c,hc,rfl⟩:=List.mem_map.mp hs;have:c.name∈zq d.names:=(Yl d.names).mem_iff.mpr (List.mem_map.mpr ⟨c,L.sub c hc,rfl⟩);simp [this]
 ·show (jV (v7 (ns.map Cl.name))).bind _=_;rw [BU,Option.bind_some,if_pos (by rw [List.length_map];omega),Lr L.nd,List.length_map]
 ·refine j9 rfl ?_;show some (PV.at (.int ((v7 (ns.map Cl.name)).length:Int)))=_;rw [qZ,List.length_map]
end
section
variable {α:Type}
def xL (d0:α)(ks:List (Int×Str))(xs:List α):List α:=(vo ks).map fun i=>xs.getD i d0
theorem Yk {ks:List (Int×Str)}{i:Nat}(h:i∈vo ks):i<ks.length:=List.mem_range.mp ((XC ks).mem_iff.mp h)
theorem WU (d0:α){ks:List (Int×Str)}{xs:List α}(h:ks.length=xs.length):(xL d0 ks xs).Perm xs:=by have:=(XC ks).map fun i=>xs.getD i d0;rw [h,WB] at this;exact this
theorem Wa {β:Type}(f:α->β)(d0:α)(e0:β){xs:List α}{i:Nat}(h:i<xs.length):(xs.map f).getD i e0=f (xs.getD i d0):=by rw [List.getD_eq_getElem?_getD,List.getD_eq_getElem?_getD,List.getElem?_map,List.getElem?_eq_getElem h];rfl
theorem HA {β:Type}(f:α->β)(d0:α)(e0:β){ks:List (Int×Str)}{xs:List α}(h:ks.length=xs.length):(vo ks).map (fun i=>(xs.map f).getD i e0)=(xL d0 ks xs).map f:=by unfold xL;rw [List.map_map];exact List.map_congr_left fun i hi=>Wa f d0 e0 (h▸Yk hi)
theorem HB (d0:α)(key:α->Int×Str)(xs:List α):(xL d0 (xs.map key) xs).Pairwise fun a b=>g9 (key b) (key a)=false:=by unfold xL;rw [List.pairwise_map];refine (BO (xs.map key)).imp_of_mem fun {a b} ha hb h=>?_;have la:=Yk ha;have lb:=Yk hb;rw [List.length_map] at la lb;unfold xp at h;rw [Wa key d0 _ la,Wa key d0 _ lb] at h;exact h
theorem Kg {kb:PV->Option PV}(f:α->PV)(key:α->Int×Str):∀{xs:List α},(∀ x∈xs,kb (f x)=some (.tup [.at (.int (key x).1),.at (.str (key x).2)]))->vK kb (xs.map f)=some (xs.map key)
 |[],_=>rfl
 |x::xs,h=>by
  rw [List.map_cons];unfold vK;rw [h x List.mem_cons_self,Kg f key fun y hy=>h y (List.mem_cons_of_mem _ hy)];rfl
theorem Sz (d0:α){kb:PV->Option PV}(f:α->PV)(key:α->Int×Str){xs:List α}(h:∀ x∈xs,kb (f x)=some (.tup [.at (.int (key x).1),.at (.str (key x).2)]))(l:xs.length<64)(nd:(xs.map key).Nodup):WI kb [.lst (xs.map f)]=some (.lst ((xL d0 (xs.map key) xs).map f)):=by show (vK kb (xs.map f)).bind _=_;rw [Kg f key h,Option.bind_some,if_pos ⟨by rw [List.length_map];exact l,nd⟩,HA f d0 _ (List.length_map _)]
end
theorem LE {α β:Type}(f:α->β){l:List α}(h:(l.map f).Nodup):l.Nodup:=List.Pairwise.of_map f (fun _ _ h e=>h (congrArg f e)) h
theorem LD {xs:List Cl}{g:Cl->Int}(nd:(xs.map Cl.name).Nodup):(xs.map fun c=>(g c,c.name)).Nodup:=by refine LE Prod.snd ?_;rw [List.map_map];exact nd
def c0:Cl:=⟨"",0,0,0,0⟩
def xW (c:Cl):Int×Str:=(c.due,c.name)
theorem Sb {xs:List Cl}(nd:(xs.map Cl.name).Nodup)(l:xs.length<=10):ZA [.lst (xs.map Cl.pv)]=some (.lst ((xL c0 (xs.map xW) xs).map Cl.pv)) :=
 zc rfl (i6 (Sz c0 Cl.pv xW (fun c _=>zO (u4 (j9 rfl rfl) (u4 (j9 rfl rfl) rfl)) l2) (by omega) (LD nd)))
theorem Sx {xs:List Cl}(l:xs.length<=10):ZJ [.lst (xs.map Cl.pv)]=some (.lst (v7 (xs.map Cl.name))):=by have hlim:lim=1000000:=rfl;refine zc rfl (i6 ((xk Cl.pv (fun c=>PV.at (.str c.name)) xs rfl rfl (by omega) fun c _=>⟨_,rfl,j9 rfl rfl⟩).trans ?_));unfold v7;rw [List.map_map];rfl
section
variable {C:Addr}{d:Dr}
def Dr.inH (d:Dr)(h:Nat):List Cl:=d.cls.filter fun c=>decide (c.hue=h)
theorem We (ok:d.Ok){h:Nat}:(d.inH h).length<=10:=Nat.le_trans (List.length_filter_le _ _) ok.ten
theorem Mg {h:Nat}{c:Cl}(hc:c∈d.inH h):c∈d.cls:=(List.mem_filter.mp hc).1
theorem Zt (ok:d.Ok){h:Nat}:((d.inH h).map Cl.name).Nodup:=ok.nd.sublist (List.filter_sublist.map _)
theorem Sg (ok:d.Ok)(h:Nat):Xa C [d.ob C,.at (.int h)]=some (.lst ((d.inH h).map Cl.pv)):=by
 have hlim:lim=1000000:=rfl;have:=ok.ten;refine zc rfl (i6 (GI Cl.pv Cl.pv (fun c=>decide (c.hue=h)) d.cls ?_ rfl (by omega) fun c _=>⟨_,rfl,r9 (y3 (j9 rfl rfl) rfl ((VT _ _).trans ?_)),fun _=>rfl⟩))
 ·show (jA C "held" (q8 0) _).bind _=_;rw [Zk rfl rfl];rfl
 ·rw [show decide ((c.hue:Int)=(h:Int))=decide (c.hue=h) by rw [decide_eq_decide];omega]
def Dr.dueR (d:Dr)(h:Nat):List Cl:=xL c0 ((d.inH h).map xW) (d.inH h)
theorem Ze (h:Nat):(d.dueR h).Perm (d.inH h):=WU c0 (List.length_map _)
theorem Sh (ok:d.Ok)(h:Nat):Qb C [d.ob C,.at (.int h)]=some (.lst (v7 ((d.dueR h).map Cl.name))) :=
 zc rfl (i6 (j9 (u4 (j9 (u4 (Zn rfl (by decide) rfl (Sg ok h)) rfl) (Sb (Zt ok) (We ok))) rfl) (Sx (by have:=(Ze (d:=d) h).length_eq;have:=We ok (h:=h);show (d.dueR h).length<=10;omega))))
end
section
variable {C:Addr}{d:Dr}
def p8 (R:List Str):PV:= .lst (v7 R)
theorem HP {ε:ME}{a:MA}{k:Nat}(h:a ε=some [.at (.int (k:Int))])(hk:k<=1000):xA a ε=some ((List.range k).map fun (i:Nat)=>PV.at (.int ((0:Int)+i))):=jS h (by have:lim=1000000:=rfl;omega)
def Dr.dueN (d:Dr)(g:Nat):List Str:=(d.dueR g).map Cl.name
theorem Si (ok:d.Ok):Xe C [d.ob C]=some (.lst (((List.range d.h).map d.dueN).map p8)):=by
 have hlim:lim=1000000:=rfl;have h4:=ok.h4;refine zc rfl (i6 ((xk (fun (i:Nat)=>PV.at (.int ((0:Int)+i))) (fun i=>p8 (d.dueN i)) (List.range d.h) (HP (u4 (Zn rfl (by decide) rfl (Sk ok)) rfl) (by omega)) rfl (by rw [List.length_range];omega) fun i _=>⟨_,rfl,Zn rfl (by decide) rfl ?_⟩).trans ?_))
 ·show Qb C [d.ob C,.at (.int ((0:Int)+i))]=_;rw [Int.zero_add];exact Sh ok i
 ·rw [List.map_map];rfl
end
theorem GS (s:Str):∀{R:List Str},s∈R->wX (.str s) (R.map V.str)=some (R.idxOf s)
 |[],h=>nomatch h
 |r::R,h=>by
  show (if decide (r=s)=true then some 0 else (wX (.str s) (R.map V.str)).map (·+1))=_;rw [List.idxOf_cons];by_cases e:r=s
  ·subst e;simp
  ·rcases List.mem_cons.mp h with z|z
   ·exact absurd z.symm e
   ·rw [if_neg (by simpa using e),GS s z];have:(r==s)=false:=by simpa using e
    rw [this];rfl
theorem GK {a b:M}{ε:ME}{R:List Str}{s:Str}(h1:a ε=some (p8 R))(h2:b ε=some (.at (.str s)))(hs:s∈R)(hl:R.length<=1000):jB a b ε=some (.at (.int (R.idxOf s:Nat))):=by have hlim:lim=1000000:=rfl;unfold jB;rw [h1,Option.bind_some,h2,Option.bind_some];show (ats (v7 R)).bind _=_;rw [Vx,Option.bind_some,if_pos ⟨rfl,GN R,by rw [List.length_map];omega⟩,GS s hs];rfl
def qM (R:List Str):List (Str×Nat)->Option (Nat×Nat)
 |x::y::l=>if R.idxOf y.1<R.idxOf x.1 then some (x.2,y.2) else qM R (y::l)
 |_=>none
def qo (R N:List Str):List (Str×Nat):=N.zipIdx.filter fun p=>decide (p.1∈R)
def jo:Option (Nat×Nat)->PV
 |none=> .at .non
 |some p=> .tup [.at (.int p.1),.at (.int p.2)]
def enF (p:Str×Nat):PV:= .tup [.at (.int p.2),.at (.str p.1)]
theorem GH:∀(N:List Str)(n:Nat),xJ n (v7 N)=(N.zipIdx n).map enF
 |[],_=>rfl
 |s::N,n=>by
  show PV.tup [.at (.int n),.at (.str s)]::xJ (n+1) (v7 N)=_;rw [GH N (n+1),List.zipIdx_cons];rfl
def n6 (p:Str×Nat):PV:= .at (.int (p.2:Int))
theorem PQ:∀ l:List (Str×Nat),xH (l.map n6) ((l.map n6).drop 1)=(l.zip (l.drop 1)).map fun q=>PV.tup [n6 q.1,n6 q.2]
 |[]=>rfl
 |[x]=>rfl
 |x::y::l=>by
  show PV.tup [n6 x,n6 y]::xH ((y::l).map n6) (((y::l).map n6).drop 1)=_;rw [PQ (y::l)];rfl
theorem Kv {R N:List Str}{f:MS}{s2:MSlot}(hl:∀(x y:Str×Nat)(s3 s4:MSlot),x∈qo R N->y∈qo R N->f [.sh (p8 R),.sh (p8 N),s2,.sh (n6 x),.sh (n6 y)]=if R.idxOf y.1<R.idxOf x.1 then some (.rt (.tup [n6 x,n6 y])) else some (.nx [.sh (p8 R),.sh (p8 N),s2,.sh (n6 x),.sh (n6 y)])):∀(l:List (Str×Nat)),(∀ x∈l,x∈qo R N)->∀(s3 s4:MSlot),(∃ p,qM R l=some p/\qi (qW 2 (n9 (v6 3) (n9 (v6 4) qV))) f ((l.zip (l.drop 1)).map fun q=>PV.tup [n6 q.1,n6 q.2]) [.sh (p8 R),.sh (p8 N),s2,s3,s4]=some (.rt (jo (some p))))∨(qM R l=none/\∃ s3' s4':MSlot,qi (qW 2 (n9 (v6 3) (n9 (v6 4) qV))) f ((l.zip (l.drop 1)).map fun q=>PV.tup [n6 q.1,n6 q.2]) [.sh (p8 R),.sh (p8 N),s2,s3,s4]=some (.nx [.sh (p8 R),.sh (p8 N),s2,s3',s4']))
 |[],_,s3,s4=> .inr ⟨rfl,s3,s4,rfl⟩
 |[x],_,s3,s4=> .inr ⟨rfl,s3,s4,rfl⟩
 |x::y::l,h,s3,s4=>by
  have hf:=hl x y s3 s4 (h x List.mem_cons_self) (h y (List.mem_cons_of_mem _ List.mem_cons_self));have st:qi (qW 2 (n9 (v6 3) (n9 (v6 4) qV))) f (((x::y::l).zip ((x::y::l).drop 1)).map fun q=>PV.tup [n6 q.1,n6 q.2]) [.sh (p8 R),.sh (p8 N),s2,s3,s4]=(f [.sh (p8 R),.sh (p8 N),s2,.sh (n6 x),.sh (n6 y)]).bind fun o=>match o with
   | .nx ε2=>qi (qW 2 (n9 (v6 3) (n9 (v6 4) qV))) f (((y::l).zip ((y::l).drop 1)).map fun q=>PV.tup [n6 q.1,n6 q.2]) ε2
   | .ct ε2=>qi (qW 2 (n9 (v6 3) (n9 (v6 4) qV))) f (((y::l).zip ((y::l).drop 1)).map fun q=>PV.tup [n6 q.1,n6 q.2]) ε2
   | .bk ε2=>some (.nx ε2)
   | .rt y=>some (.rt y):=rfl
  by_cases e:R.idxOf y.1<R.idxOf x.1
  ·rw [if_pos e] at hf;refine .inl ⟨(x.2,y.2),by unfold qM;rw [if_pos e],?_⟩;rw [st,hf];rfl
  ·rw [if_neg e] at hf;have ea:qM R (x::y::l)=qM R (y::l):=by show (if R.idxOf y.1<R.idxOf x.1 then some (x.2,y.2) else qM R (y::l))=_;rw [if_neg e]
   rcases Kv hl (y::l) (fun z hz=>h z (List.mem_cons_of_mem _ hz)) (.sh (n6 x)) (.sh (n6 y)) with ⟨p,e1,e2⟩|⟨e1,s3',s4',e2⟩
   ·refine .inl ⟨p,ea.trans e1,?_⟩;rw [st,hf];exact e2
   ·refine .inr ⟨ea.trans e1,s3',s4',?_⟩;rw [st,hf];exact e2
theorem KU {R N:List Str}{x:Str×Nat}(h:x∈qo R N):x.1∈R/\N[x.2]?=some x.1:=by obtain ⟨h1,h2⟩:=List.mem_filter.mp h;exact ⟨of_decide_eq_true h2,List.mem_zipIdx_iff_getElem?.mp h1⟩
theorem SF {R N:List Str}(hR:R.length<=1000)(hN:N.length<=1000):Xl [p8 R,p8 N]=some (jo (qM R (qo R N))):=by
 have hlim:lim=1000000:=rfl;have cp:h8 [none,none,some 0] [0,1] (wJ (q0 (q8 1) x6)) (qW 2 (n9 (v6 0) (n9 (v6 1) qV))) (dT (x8 (pIn false) (q9 1) (q9 2))) (q8 0) [.sh (p8 R),.sh (p8 N),.no,.no,.no]=some (.lst ((qo R N).map n6)):=by refine GI enF n6 (fun p=>decide (p.1∈R)) N.zipIdx ?_ rfl (by rw [List.length_zipIdx];omega) fun p _=>⟨_,rfl,r9 (y3 rfl rfl ((GU false p.1 R).trans rfl)),fun _=>rfl⟩;show some (xJ 0 (v7 N))=_;rw [GH]
 have zp:wN (q0 (q8 2) (q0 (jC (q9 2) (pSo (dC (.int 1))) pNo) x6)) [.sh (p8 R),.sh (p8 N),.sh (.lst ((qo R N).map n6)),.no,.no]=some (((qo R N).zip ((qo R N).drop 1)).map fun q=>PV.tup [n6 q.1,n6 q.2]):=by
  unfold wN;rw [u4 rfl (u4 (QQ rfl rfl rfl) rfl),Option.bind_some];show some (xH ((qo R N).map n6) (zL ((qo R N).map n6) (some 1) none))=_;have ec:zL ((qo R N).map n6) (some 1) none=((qo R N).map n6).drop 1:=by
   unfold zL;cases hp:(qo R N).map n6 with
   |nil=>rfl
   |cons x l =>
    have e1:HT.sIx (x::l).length 0 (some 1)=1:=by unfold HT.sIx;simp
    have e2:HT.sIx (x::l).length (x::l).length none=(x::l).length:=rfl;rw [e1,e2,List.take_of_length_le (by simp)]
  rw [ec,PQ]
 have bd:=Kv (R:=R) (N:=N) (s2:= .sh (.lst ((qo R N).map n6))) (f:=m5 (dT (x8 pGt (jB (q9 0) (x8 w9 (q9 1) (q9 3))) (jB (q9 0) (x8 w9 (q9 1) (q9 4))))) (y8 (qO (q0 (q8 3) (q0 (q8 4) x6)))) n5) (by
  intro x y s3 s4 hx hy;obtain ⟨x1,x2⟩:=KU hx;obtain ⟨y1,y2⟩:=KU hy;have ix:∀{z:Str×Nat},N[z.2]?=some z.1->w9 (p8 N) (.at (.int (z.2:Int)))=some (.at (.str z.1)):=fun {z} hz=>by
   show atI (v7 N) (z.2:Int)=_;refine za ?_;unfold v7;rw [List.getElem?_map,hz];rfl
  have c:dT (x8 pGt (jB (q9 0) (x8 w9 (q9 1) (q9 3))) (jB (q9 0) (x8 w9 (q9 1) (q9 4)))) [.sh (p8 R),.sh (p8 N),.sh (.lst ((qo R N).map n6)),.sh (n6 x),.sh (n6 y)]=some (decide (R.idxOf y.1<R.idxOf x.1)):=by refine r9 (y3 (GK rfl (y3 rfl rfl (ix x2)) x1 hR) (GK rfl (y3 rfl rfl (ix y2)) y1 hR) ?_);show some (PV.at (.bl (decide ((R.idxOf y.1:Int)<(R.idxOf x.1:Int)))))=_;rw [show decide ((R.idxOf y.1:Int)<(R.idxOf x.1:Int))=decide (R.idxOf y.1<R.idxOf x.1) by rw [decide_eq_decide];omega]
  by_cases e:R.idxOf y.1<R.idxOf x.1
  ·rw [if_pos e];rw [decide_eq_true e] at c;exact QO c (i6 (zO rfl l2))
  ·rw [if_neg e];rw [decide_eq_false e] at c;exact qw c qB) (qo R N) (fun _ h=>h) .no .no
 rcases bd with ⟨p,e1,e2⟩|⟨e1,s3',s4',e2⟩
 ·rw [e1];exact qv rfl (y4 (qa cp) (Zo (zd zp e2)))
 ·rw [e1];exact qv rfl (y4 (qa cp) (y4 (zd zp e2) (i6 rfl)))
abbrev fTp:MS:=w5 (p6 3 (x9 Xl (q0 (q8 2) (q0 (q8 1) x6)))) (m5 (dT (x8 vU (q9 3) (dC .non))) (y8 (q8 3)) n5)
theorem SG {N:List Str}(hN:N.length<=1000):∀(rows:List (List Str)),(∀ R∈rows,R.length<=1000)->vh [.lst (rows.map p8),p8 N]=some (jo (rows.findSome? fun R=>qM R (qo R N))):=by
 intro rows hr;have lp:∀(l:List (List Str))(s2 s3:MSlot),(∀ R∈l,R.length<=1000)->(∃ p,(l.findSome? fun R=>qM R (qo R N))=some p/\qi (v6 2) fTp (l.map p8) [.sh (.lst (rows.map p8)),.sh (p8 N),s2,s3]=some (.rt (jo (some p)))) ∨
   ((l.findSome? fun R=>qM R (qo R N))=none/\∃ s2' s3':MSlot,qi (v6 2) fTp (l.map p8) [.sh (.lst (rows.map p8)),.sh (p8 N),s2,s3]=some (.nx [.sh (.lst (rows.map p8)),.sh (p8 N),s2',s3'])):=by
  intro l
  induction l with
  |nil=>exact fun s2 s3 _=> .inr ⟨rfl,s2,s3,rfl⟩
  |cons R l ih =>
   intro s2 s3 h;have st:∀ o,fTp [.sh (.lst (rows.map p8)),.sh (p8 N),.sh (p8 R),s3]=some o->qi (v6 2) fTp ((R::l).map p8) [.sh (.lst (rows.map p8)),.sh (p8 N),s2,s3]=match o with
    | .nx ε2=>qi (v6 2) fTp (l.map p8) ε2
    | .ct ε2=>qi (v6 2) fTp (l.map p8) ε2
    | .bk ε2=>some (.nx ε2)
    | .rt y=>some (.rt y):=fun o e=>by
    show Option.bind (fTp [.sh (.lst (rows.map p8)),.sh (p8 N),.sh (p8 R),s3]) _=_;rw [e];rfl
   have ht:=SF (h R List.mem_cons_self) hN;cases ea:qM R (qo R N) with
   |some p=>rw [ea] at ht;refine .inl ⟨p,by rw [List.findSome?_cons,ea],?_⟩;rw [st _ (y4 (qa (j9 rfl ht)) (QO (r9 (v:=true) rfl) (i6 rfl)))]
   |none =>
    rw [ea] at ht;have:=st _ (y4 (qa (j9 rfl ht)) (qw (r9 (v:=false) rfl) qB));rw [List.findSome?_cons,ea];rcases ih (.sh (p8 R)) (.sh (.at .non)) fun Q hQ=>h Q (List.mem_cons_of_mem _ hQ) with ⟨p,e1,e2⟩|⟨e1,s2',s3',e2⟩
    ·exact .inl ⟨p,e1,this.trans e2⟩
    ·exact .inr ⟨e1,s2',s3',this.trans e2⟩
 rcases lp rows .no .no hr with ⟨p,e1,e2⟩|⟨e1,s2,s3,e2⟩
 ·rw [e1];exact qv rfl (Zo (zd rfl e2))
 ·rw [e1];exact qv rfl (y4 (zd rfl e2) (i6 rfl))
theorem YK {R:List Str}:∀{l:List (Str×Nat)},qM R l=none↔(l.map (·.1)).Pairwise fun a b=>R.idxOf a<=R.idxOf b
 |[]=>by simp [qM]
 |[x]=>by simp [qM]
 |x::y::l=>by
  have ih:=YK (R:=R) (l:=y::l);rw [List.map_cons,List.pairwise_cons];unfold qM;constructor
  ·intro h;split at h
   ·cases h
   ·rename_i hn;have hp:=ih.mp h;refine ⟨fun z hz=>?_,hp⟩;rw [List.map_cons] at hz hp;rcases List.mem_cons.mp hz with rfl|hz
    ·omega
    ·have:=(List.pairwise_cons.mp hp).1 z hz;omega
  ·rintro ⟨h1,h2⟩;rw [if_neg (by have:=h1 y.1 (by rw [List.map_cons];exact List.mem_cons_self);omega)];exact ih.mpr h2
theorem HE (R N:List Str):(qo R N).map (·.1)=N.filter fun s=>decide (s∈R):=by
 unfold qo;have:∀(N:List Str)(n:Nat),((N.zipIdx n).filter fun p=>decide (p.1∈R)).map (·.1)=N.filter fun s=>decide (s∈R):=by
  intro N
  induction N with
  |nil=>intro n;rfl
  |cons s N ih =>
   intro n;rw [List.zipIdx_cons,List.filter_cons,List.filter_cons];by_cases h:s∈R
   ·rw [if_pos (by simpa using h),if_pos (by simpa using h),List.map_cons,ih]
   ·rw [if_neg (by simpa using h),if_neg (by simpa using h),ih]
 exact this N 0
theorem Yf {key:Cl->Int×Str}{xs:List Cl}(hk:∀ c,(key c).2=c.name)(nd:(xs.map Cl.name).Nodup){a b:Cl}(ha:a∈xs)(hb:b∈xs):((xL c0 (xs.map key) xs).map Cl.name).idxOf b.name<((xL c0 (xs.map key) xs).map Cl.name).idxOf a.name↔g9 (key b) (key a)=true:=by
 have pm:=WU c0 (ks:=xs.map key) (xs:=xs) (List.length_map _);have up:=HB c0 key xs;generalize xL c0 (xs.map key) xs=row at pm up;have ndr:(row.map Cl.name).Nodup:=(pm.map Cl.name).nodup_iff.mpr nd;have ia:=(List.mem_iff_getElem.mp (pm.mem_iff.mpr ha));have ib:=(List.mem_iff_getElem.mp (pm.mem_iff.mpr hb));obtain ⟨i,hi,ei⟩:=ia;obtain ⟨j,hj,ej⟩:=ib;have xi:(row.map Cl.name).idxOf a.name=i:=by
  have:(row.map Cl.name)[i]'(by rw [List.length_map];exact hi)=a.name:=by rw [List.getElem_map,ei]
  rw [<- this];exact ndr.idxOf_getElem i _
 have xj:(row.map Cl.name).idxOf b.name=j:=by
  have:(row.map Cl.name)[j]'(by rw [List.length_map];exact hj)=b.name:=by rw [List.getElem_map,ej]
  rw [<- this];exact ndr.idxOf_getElem j _
 rw [xi,xj];have pg:=List.pairwise_iff_getElem.mp up;constructor
 ·intro h;have q:=pg j i hj hi h;rw [ei,ej] at q;cases e:g9 (key b) (key a) with
  |true=>rfl
  |false =>
   have:=congrArg Prod.snd (Kw e q);rw [hk,hk] at this;have z:row.map Cl.name=row.map Cl.name:=rfl;exfalso;have:j=i:=by rw [<- xi,<- xj,this]
   omega
 ·intro h;rcases Nat.lt_trichotomy j i with q|q|q
  ·exact q
  ·subst q;have e:a=b:=by rw [<- ei,<- ej]
   subst e;have:=(QZ fun _=>key a).irr 0;rw [h] at this;cases this
  ·have z:=pg i j hi hj q;rw [ei,ej,h] at z;cases z
theorem BB {d:Dr}(ok:d.Ok){ns:List Cl}(L:Lst d ns){g:Nat}{key:Cl->Int×Str}(hk:∀ c,(key c).2=c.name):qM ((xL c0 ((d.inH g).map key) (d.inH g)).map Cl.name) (qo ((xL c0 ((d.inH g).map key) (d.inH g)).map Cl.name) (ns.map Cl.name))=none↔ns.Pairwise fun a b=>a.hue=g->b.hue=g->g9 (key b) (key a)=false:=by
 have pm:=WU c0 (ks:=(d.inH g).map key) (xs:=d.inH g) (List.length_map _);have mem:∀ c∈ns,c.name∈(xL c0 ((d.inH g).map key) (d.inH g)).map Cl.name↔c.hue=g:=by
  intro c hc;rw [(pm.map Cl.name).mem_iff];constructor
  ·intro h;obtain ⟨x,hx,e⟩:=List.mem_map.mp h;obtain ⟨x1,x2⟩:=List.mem_filter.mp hx;have:x=c:=by have nd:=ok.nd;obtain ⟨i,hi,ei⟩:=List.mem_iff_getElem.mp x1;obtain ⟨j,hj,ej⟩:=List.mem_iff_getElem.mp (L.sub c hc);have:=(List.getElem_inj (xs:=d.cls.map Cl.name) (h₀:=by rw [List.length_map];exact hi) (h₁:=by rw [List.length_map];exact hj) nd).mp (by rw [List.getElem_map,List.getElem_map,ei,ej,e]);subst this;rw [<- ei,<- ej]
   subst this;exact of_decide_eq_true x2
  ·intro h;exact List.mem_map.mpr ⟨c,List.mem_filter.mpr ⟨L.sub c hc,by rw [h];exact decide_eq_true rfl⟩,rfl⟩
 rw [YK,HE,List.filter_map,List.pairwise_map,List.pairwise_filter];constructor
 ·intro h;refine h.imp_of_mem fun {a b} ha hb q h1 h2=>?_;have q:=q (by simpa using (mem a ha).mpr h1) (by simpa using (mem b hb).mpr h2);cases e:g9 (key b) (key a) with
  |false=>rfl
  |true=>have:=(Yf hk (Zt ok (h:=g)) (a:=a) (b:=b) (List.mem_filter.mpr ⟨L.sub a ha,by rw [h1];exact decide_eq_true rfl⟩) (List.mem_filter.mpr ⟨L.sub b hb,by rw [h2];exact decide_eq_true rfl⟩)).mpr e;omega
 ·intro h;refine h.imp_of_mem fun {a b} ha hb q h1 h2=>?_;have h1:a.hue=g:=(mem a ha).mp (by simpa using h1);have h2:b.hue=g:=(mem b hb).mp (by simpa using h2);have q:=q h1 h2;rcases Nat.lt_or_ge (((xL c0 ((d.inH g).map key) (d.inH g)).map Cl.name).idxOf b.name) (((xL c0 ((d.inH g).map key) (d.inH g)).map Cl.name).idxOf a.name) with z|z
  ·rw [(Yf hk (Zt ok (h:=g)) (a:=a) (b:=b) (List.mem_filter.mpr ⟨L.sub a ha,by rw [h1];exact decide_eq_true rfl⟩) (List.mem_filter.mpr ⟨L.sub b hb,by rw [h2];exact decide_eq_true rfl⟩)).mp z] at q;cases q
  ·exact z
theorem DF {α β:Type}{f:α->Option β}{l:List α}:l.findSome? f=none↔∀ x∈l,f x=none:=List.findSome?_eq_none_iff
theorem pw_all {α:Type}{h:Nat}{P:Nat->α->α->Prop}:∀{l:List α},(∀ g,g<h->l.Pairwise (P g))↔l.Pairwise fun a b=>∀ g,g<h->P g a b
 |[]=>⟨fun _=> .nil,fun _ _ _=> .nil⟩
 |x::l=>by
  rw [List.pairwise_cons];constructor
  ·intro q;exact ⟨fun y hy g hg=>(List.pairwise_cons.mp (q g hg)).1 y hy,pw_all.mp fun g hg=>(List.pairwise_cons.mp (q g hg)).2⟩
  ·intro q g hg;exact List.pairwise_cons.mpr ⟨fun y hy=>q.1 y hy g hg,pw_all.mpr q.2 g hg⟩
def Vs (way:Int)(a b:Cl):Bool:=if way=0 then g9 (a.due,a.name) (b.due,b.name) else g9 (a.len*b.wt,a.name) (b.len*a.wt,b.name)
theorem Sa {a b:Cl}{h:Nat}{way:Int}(oa:a.Ok h)(ob:b.Ok h):vN [a.pv,b.pv,.at (.int way)]=some (.at (.bl (Vs way a b))):=by
 have hB:=wj;have g1:=oa.l1;have g2:=oa.l2;have w1:=oa.w1;have w2:=oa.w2;have k1:=ob.l1;have k2:=ob.l2;have v1:=ob.w1;have v2:=ob.w2;unfold Vs;by_cases hw:way=0
 ·subst hw;rw [if_pos rfl];exact qv rfl (Zo (QO (r9 (v:=true) rfl) (i6 (y3 (zO rfl l2) (zO rfl l2) rfl))))
 ·rw [if_neg hw];refine qv rfl (y4 (qw (r9 (v:=false) (y3 rfl rfl ((VT _ _).trans (by rw [decide_eq_false hw])))) qB) (i6 (y3 (zO (u4 (y3 rfl rfl (Xm (a:=a.len) (b:=b.wt) (by omega) g2 (by omega) v2)) (u4 rfl rfl)) l2) (zO (u4 (y3 rfl rfl (Xm (a:=b.len) (b:=a.wt) (by omega) k2 (by omega) w2)) (u4 rfl rfl)) l2) rfl)))
theorem Zi {a b:M}{ε:ME}{ks:List j5}{xs:List PV}{y z:PV}{k:j5}(h1:a ε=some (.fk ks xs))(h2:b ε=some y)(h3:vd y=some k)(h4:xK k ks xs=some z):qA a b ε=some z:=by unfold qA;rw [h1,h2];show (vd y).bind _=_;rw [h3];exact h4
theorem GA {d:Dr}(ok:d.Ok){ε:ME}(h0:ε[0]?=some (.sh d.pv)):x9 vS (q0 (h8 [none] [0] (o9 (x8 w9 (q9 0) (dC (.int 1)))) (v6 0) i5 (qO (q0 (x8 w9 (q9 0) (dC (.int 0))) (q0 (q8 0) x6)))) x6) ε=some (.fk (keysOf d.cls) (d.cls.map Cl.pv)):=by
 have hlim:lim=1000000:=rfl;have ten:=ok.ten;have b0:q9 0 ε=some d.pv:=by unfold q9;rw [h0]
 refine j9 (u4 (xk Cl.pv (fun c=>PV.tup [.at (.str c.name),c.pv]) d.cls (Zm (y3 b0 rfl rfl)) rfl (by omega) fun c _=>⟨_,rfl,zO (u4 (y3 rfl rfl rfl) (u4 rfl rfl)) l2⟩) rfl) ?_;show (vm (d.cls.map fun c=>PV.tup [.at (.str c.name),c.pv])).bind _=_;have k1:(d.cls.map fun c=>((.inr c.name:j5),c.pv)).map (·.1)=keysOf d.cls:=by rw [List.map_map];rfl
 have k2:(d.cls.map fun c=>((.inr c.name:j5),c.pv)).map (·.2)=d.cls.map Cl.pv:=by rw [List.map_map];rfl
 rw [WW,Option.bind_some,k1,k2];exact if_pos ⟨Kh ok.nd,by rw [List.length_map];omega⟩
theorem Kc {ns:List Cl}{i:Nat}(h:i<ns.length):w9 (p9 ns) (.at (.int ((0:Int)+(i:Int))))=some (.at (.str ns[i].name)):=by show atI (v7 (ns.map Cl.name)) ((0:Int)+(i:Int))=_;rw [Int.zero_add];refine za ?_;unfold v7;rw [List.getElem?_map,List.getElem?_map,List.getElem?_eq_getElem h];rfl
def xO (way:Int)(a b:Cl):Prop:=a.hue=b.hue/\Vs way b a=true
instance {way:Int}{a b:Cl}:Decidable (xO way a b):=by unfold xO;infer_instance
theorem Cj {d:Dr}(ok:d.Ok){a b:Cl}(ha:a∈d.cls)(hb:b∈d.cls){way:Int}{ε:ME}{i j k:Nat}(h6:ε[i]?=some (.sh a.pv))(h7:ε[j]?=some (.sh b.pv))(h2:ε[k]?=some (.sh (.at (.int way)))):zM (dT (x8 qX (x8 w9 (q9 i) (dC (.int 1))) (x8 w9 (q9 j) (dC (.int 1))))) (i9 (x9 vN (q0 (q8 j) (q0 (q8 i) (q0 (q8 k) x6))))) ε=some (decide (xO way a b)):=by
 have b6:q9 i ε=some a.pv:=by unfold q9;rw [h6]
 have b7:q9 j ε=some b.pv:=by unfold q9;rw [h7]
 have d6:q8 i ε=some a.pv:=by unfold q8;rw [h6]
 have d7:q8 j ε=some b.pv:=by unfold q8;rw [h7]
 have d2:q8 k ε=some (.at (.int way)):=by unfold q8;rw [h2]
 have eq:dT (x8 qX (x8 w9 (q9 i) (dC (.int 1))) (x8 w9 (q9 j) (dC (.int 1)))) ε=some (decide (a.hue=b.hue)):=by refine r9 (y3 (y3 b6 rfl rfl) (y3 b7 rfl rfl) ((VT _ _).trans ?_));rw [show decide ((a.hue:Int)=(b.hue:Int))=decide (a.hue=b.hue) by rw [decide_eq_decide];omega]
 unfold xO;by_cases e:a.hue=b.hue
 ·rw [decide_eq_true e] at eq;rw [VL eq (xr (j9 (u4 d7 (u4 d6 (u4 d2 rfl))) (Sa (ok.cl b hb) (ok.cl a ha))))];simp [e]
 ·rw [decide_eq_false e] at eq;rw [De eq];simp [e]
def jL (way:Int)(ns:List Cl)(k j:Nat):Option PV:=if xO way (ns.getD j c0) (ns.getD k c0) then some (.at (.bl false)) else none
theorem GM {α β:Type}{f:α->Option β}{y:β}(h:∀ x z,f x=some z->z=y){l:List α}{z:β}(e:l.findSome? f=some z):z=y:=by obtain ⟨x,_,hx⟩:=List.exists_of_findSome?_eq_some e;exact h x z hx
theorem ord_none {way:Int}{ns:List Cl}:((List.range ns.length).findSome? fun k=>(List.range k).findSome? (jL way ns k))=none↔ns.Pairwise fun a b=>¬ xO way a b:=by
 rw [List.findSome?_eq_none_iff,List.pairwise_iff_getElem];constructor
 ·intro h i j hi hj hij z;have:=List.findSome?_eq_none_iff.mp (h j (List.mem_range.mpr hj)) i (List.mem_range.mpr hij);unfold jL at this;rw [g8 hi,g8 hj,if_pos z] at this;cases this
 ·intro h k hk;have hk:=List.mem_range.mp hk;refine List.findSome?_eq_none_iff.mpr fun j hj=>?_;have hj:=List.mem_range.mp hj;unfold jL;rw [g8 hk,g8 (show j<ns.length by omega),if_neg (h j k (by omega) hk hj)]
theorem Po {d:Dr}(ok:d.Ok){ns:List Cl}(L:Lst d ns)(way:Int):vP [d.pv,p9 ns,.at (.int way)]=some (.at (.bl (decide (ns.Pairwise fun a b=>¬ xO way a b)))):=by
 have hlim:lim=1000000:=rfl;have l10:=L.len ok;have dc:=GA ok (ε:=[.sh d.pv,.sh (p9 ns),.sh (.at (.int way)),.no,.no,.no,.no,.no]) rfl;have it:xA (q0 (x9 qj (q0 (q9 1) x6)) x6) [.sh d.pv,.sh (p9 ns),.sh (.at (.int way)),.sh (.fk (keysOf d.cls) (d.cls.map Cl.pv)),.no,.no,.no,.no]=some ((List.range ns.length).map fun (i:Nat)=>PV.at (.int ((0:Int)+i))):=jS (u4 (j9 rfl (by show some (PV.at (.int ((v7 (ns.map Cl.name)).length:Int)))=_;rw [qZ,List.length_map])) rfl) (by omega);have o:=Ws (g:=v6 4) (f:=xV (xA (q0 (q8 4) x6)) (v6 5) (w5 (p6 6 (qA (q9 3) (x8 w9 (q9 1) (q9 5)))) (w5 (p6 7 (qA (q9 3) (x8 w9 (q9 1) (q9 4)))) (m5 (zM (dT (x8 qX (x8 w9 (q9 6) (dC (.int 1))) (x8 w9 (q9 7) (dC (.int 1))))) (i9 (x9 vN (q0 (q8 7) (q0 (q8 6) (q0 (q8 2) x6)))))) (y8 (dC (.bl false))) n5))))
  (fun (i:Nat)=>PV.at (.int ((0:Int)+i))) (fun ε=>∃ s4 s5 s6 s7:MSlot,ε=[.sh d.pv,.sh (p9 ns),.sh (.at (.int way)),.sh (.fk (keysOf d.cls) (d.cls.map Cl.pv)),s4,s5,s6,s7]) (fun k=>(List.range k).findSome? (jL way ns k)) (List.range ns.length) (by
   rintro k hk ε ⟨s4,s5,s6,s7,rfl⟩;have hk:=List.mem_range.mp hk;have mk:=L.sub _ (List.getElem_mem hk);have inn:=Ws (g:=v6 5) (f:=w5 (p6 6 (qA (q9 3) (x8 w9 (q9 1) (q9 5)))) (w5 (p6 7 (qA (q9 3) (x8 w9 (q9 1) (q9 4)))) (m5 (zM (dT (x8 qX (x8 w9 (q9 6) (dC (.int 1))) (x8 w9 (q9 7) (dC (.int 1))))) (i9 (x9 vN (q0 (q8 7) (q0 (q8 6) (q0 (q8 2) x6)))))) (y8 (dC (.bl false))) n5)))
    (fun (i:Nat)=>PV.at (.int ((0:Int)+i))) (fun ε=>∃ s5 s6 s7:MSlot,ε=[.sh d.pv,.sh (p9 ns),.sh (.at (.int way)),.sh (.fk (keysOf d.cls) (d.cls.map Cl.pv)),.sh (.at (.int ((0:Int)+k))),s5,s6,s7]) (jL way ns k) (List.range k) (by
     rintro j hj ε ⟨s5,s6,s7,rfl⟩;have hj:=List.mem_range.mp hj;have hjn:j<ns.length:=by omega
     have mj:=L.sub _ (List.getElem_mem hjn);have t:=Cj ok mj mk (way:=way) (ε:=[.sh d.pv,.sh (p9 ns),.sh (.at (.int way)),.sh (.fk (keysOf d.cls) (d.cls.map Cl.pv)),.sh (.at (.int ((0:Int)+k))),.sh (.at (.int ((0:Int)+j))),.sh ns[j].pv,.sh ns[k].pv]) (i:=6) (j:=7) (k:=2) rfl rfl rfl;have g1:qA (q9 3) (x8 w9 (q9 1) (q9 5)) [.sh d.pv,.sh (p9 ns),.sh (.at (.int way)),.sh (.fk (keysOf d.cls) (d.cls.map Cl.pv)),.sh (.at (.int ((0:Int)+k))),.sh (.at (.int ((0:Int)+j))),s6,s7]=some ns[j].pv:=Zi rfl (y3 rfl rfl (Kc hjn)) rfl (Zz Cl.pv ok.nd _ mj);have g2:qA (q9 3) (x8 w9 (q9 1) (q9 4)) [.sh d.pv,.sh (p9 ns),.sh (.at (.int way)),.sh (.fk (keysOf d.cls) (d.cls.map Cl.pv)),.sh (.at (.int ((0:Int)+k))),.sh (.at (.int ((0:Int)+j))),.sh ns[j].pv,s7]=some ns[k].pv:=Zi rfl (y3 rfl rfl (Kc hk)) rfl (Zz Cl.pv ok.nd _ mk);refine ⟨_,rfl,?_⟩;unfold jL;rw [g8 hjn,g8 hk];by_cases hb:xO way ns[j] ns[k]
     ·rw [decide_eq_true hb] at t;rw [if_pos hb];exact y4 (qa g1) (y4 (qa g2) (QO t (i6 rfl)))
     ·rw [decide_eq_false hb] at t;rw [if_neg hb];exact ⟨_,y4 (qa g1) (y4 (qa g2) (qw t qB)),_,_,_,rfl⟩) [.sh d.pv,.sh (p9 ns),.sh (.at (.int way)),.sh (.fk (keysOf d.cls) (d.cls.map Cl.pv)),.sh (.at (.int ((0:Int)+k))),s5,s6,s7] ⟨s5,s6,s7,rfl⟩
   refine ⟨_,rfl,?_⟩;have ff:=DG (it:=xA (q0 (q8 4) x6)) (jS (k:=k) (by rw [u4 (x:= .at (.int (k:Int))) (by show some (PV.at (.int ((0:Int)+k)))=_;rw [Int.zero_add]) rfl]) (by omega)) inn;cases e:(List.range k).findSome? (jL way ns k) with
   |some y=>rw [e] at ff;exact ff
   |none =>
    rw [e] at ff;obtain ⟨ε',e1,s5',s6',s7',rfl⟩:=ff;exact ⟨_,e1,_,_,_,_,rfl⟩) _ ⟨.no,.no,.no,.no,rfl⟩
 by_cases q:ns.Pairwise fun a b=>¬ xO way a b
 ·rw [ord_none.mpr q] at o;obtain ⟨ε',e,_⟩:=o;rw [decide_eq_true q];exact qv rfl (y4 (qa dc) (y4 (zd it e) (i6 rfl)))
 ·rw [decide_eq_false q];cases e:((List.range ns.length).findSome? fun k=>(List.range k).findSome? (jL way ns k)) with
  |none=>exact absurd (ord_none.mp e) q
  |some y=>rw [e] at o;have:y = .at (.bl false):=GM (fun k z hz=>GM (fun j w hw=>by unfold jL at hw;split at hw;exact (Option.some.inj hw).symm;cases hw) hz) e;subst this;exact qv rfl (y4 (qa dc) (Zo (zd it o)))
theorem Lst.perm {d:Dr}{ns os:List Cl}(L:Lst d ns)(p:os.Perm ns):Lst d os:=⟨fun c h=>L.sub c (p.mem_iff.mp h),(p.map Cl.name).nodup_iff.mpr L.nd⟩
section
variable {C:Addr}{d:Dr}
theorem Dn (ok:d.Ok)(g:Nat):(d.dueN g).length<=10:=by unfold Dr.dueN;rw [List.length_map];have:=(Ze (d:=d) g).length_eq;have:=We ok (h:=g);omega
theorem in_of {rows:Nat->List Str}(ok:d.Ok){ns:List Cl}(L:Lst d ns)(hr:∀ g,(rows g).length<=10):vh [.lst (((List.range d.h).map rows).map p8),p9 ns]=some (jo (((List.range d.h).map rows).findSome? fun R=>qM R (qo R (ns.map Cl.name)))):=by have l10:=L.len ok;refine SG (by rw [List.length_map];omega) _ fun R hR=>?_;obtain ⟨g,_,rfl⟩:=List.mem_map.mp hR;have:=hr g;omega
theorem LG {rows:Nat->List Str}{key:Nat->Cl->Int×Str}(ok:d.Ok){ns:List Cl}(L:Lst d ns)(hrow:∀ g,rows g=(xL c0 ((d.inH g).map (key g)) (d.inH g)).map Cl.name)(hk:∀ g c,(key g c).2=c.name):(((List.range d.h).map rows).findSome? fun R=>qM R (qo R (ns.map Cl.name)))=none↔ns.Pairwise fun a b=>a.hue=b.hue->g9 (key a.hue b) (key a.hue a)=false:=by
 rw [DF];constructor
 ·intro h;have q:∀ g,g<d.h->ns.Pairwise fun a b=>a.hue=g->b.hue=g->g9 (key g b) (key g a)=false:=fun g hg=>by
   have:=h (rows g) (List.mem_map.mpr ⟨g,List.mem_range.mpr hg,rfl⟩);rw [hrow] at this;exact (BB ok L (hk g)).mp this
  refine (pw_all.mp q).imp_of_mem fun {a b} ha hb z e=>?_;exact z a.hue (ok.cl a (L.sub a ha)).hu rfl e.symm
 ·intro h R hR;obtain ⟨g,hg,rfl⟩:=List.mem_map.mp hR;rw [hrow];refine (BB ok L (hk g)).mpr (h.imp fun {a b} z e1 e2=>?_);have:=z (e1.trans e2.symm);rw [e1] at this;exact this
def jp (d:Dr)(ns:List Cl):Option (Nat×Nat):=((List.range d.h).map d.dueN).findSome? fun R=>qM R (qo R (ns.map Cl.name))
theorem WJ (ok:d.Ok){ns:List Cl}(L:Lst d ns):jp d ns=none↔ns.Pairwise fun a b=>¬ xO 0 a b:=by
 have iff:=LG (rows:=d.dueN) (key:=fun _=>xW) ok L (fun _=>rfl) (fun _ _=>rfl);have pe:(ns.Pairwise fun a b=>a.hue=b.hue->g9 (xW b) (xW a)=false)↔ns.Pairwise fun a b=>¬ xO 0 a b:=by
  have hq:∀ a b:Cl,(a.hue=b.hue->g9 (xW b) (xW a)=false)↔¬ xO 0 a b:=fun a b=>by
   unfold xO;show _↔¬ (_/\g9 (xW b) (xW a)=true);simp
  exact ⟨fun h=>h.imp fun {a b} z=>(hq a b).mp z,fun h=>h.imp fun {a b} z=>(hq a b).mpr z⟩
 exact iff.trans pe
theorem Pr (ok:d.Ok){ns:List Cl}(L:Lst d ns):vh [.lst (((List.range d.h).map d.dueN).map p8),p9 ns]=some (jo (jp d ns)):=in_of ok L (Dn ok)
end
theorem VJ (xs:List PV)(a:Nat):zL xs none (some (a:Int))=xs.take a:=by
 unfold zL;rw [HT.sIx_nat,HT.sIx_none,List.drop_zero,Nat.sub_zero];by_cases h:a<=xs.length
 ·rw [Nat.min_eq_left h]
 ·rw [Nat.min_eq_right (by omega),List.take_length,List.take_of_length_le (by omega)]
theorem Gq (xs:List PV)(a:Nat):zL xs (some (a:Int)) none=xs.drop a:=by
 unfold zL;rw [HT.sIx_nat,HT.sIx_none];by_cases h:a<=xs.length
 ·rw [Nat.min_eq_left h,List.take_of_length_le (by rw [List.length_drop];omega)]
 ·rw [Nat.min_eq_right (by omega),List.drop_length,List.take_nil,List.drop_of_length_le (by omega)]
theorem Cf {xs:List PV}{a:Nat}{x:PV}(h:xs[a]?=some x):atI xs (a:Int)=some x:=za h
def mvL (xs:List PV)(a t:Nat):List PV:=match xs[a]? with
 |some x=>(xs.eraseIdx a).take t++x::(xs.eraseIdx a).drop t
 |none=>xs
theorem ZR {xs:List PV}{a t:Nat}{x:PV}(h:xs[a]?=some x):mvL xs a t=(xs.eraseIdx a).take t++x::(xs.eraseIdx a).drop t:=by unfold mvL;rw [h]
theorem LC {xs:List PV}{a t:Nat}(h:a<xs.length):(mvL xs a t).length=xs.length:=by rw [ZR (List.getElem?_eq_getElem h),List.length_append,List.length_cons,List.length_take,List.length_drop,List.length_eraseIdx_of_lt h];omega
theorem Du {xs:List PV}{a:Nat}:xs.eraseIdx a=xs.take a++xs.drop (a+1):=List.eraseIdx_eq_take_drop_succ xs a
def mvP (m:Nat×Nat):PV:= .tup [.at (.int m.1),.at (.int m.2)]
theorem Kz {xs:List PV}{m:Nat×Nat}(h1:m.1<xs.length)(hl:xs.length<=12):zT [.lst xs,mvP m]=some (.lst (mvL xs m.1 m.2)):=by
 have hlim:lim=1000000:=rfl;have hx:=List.getElem?_eq_getElem h1;obtain ⟨a,t⟩:=m;simp only at h1 hx ⊢;rw [ZR hx,Du];have ol:(xs.take a++xs.drop (a+1)).length<=12:=by rw [List.length_append,List.length_take,List.length_drop];omega
 generalize ho:xs.take a++xs.drop (a+1)=o at ol;refine qv rfl (y4 (qa (x:= .at (.int a)) rfl) (y4 (qa (x:= .at (.int t)) rfl) (y4 (qa (x:= .lst o) (y3 (QQ rfl rfl rfl) (QQ (hi:=none) rfl (lo:=some (a+1)) rfl rfl) ?_)) (i6 (y3 (y3 (QQ (xs:=o) rfl rfl rfl) (jD (u4 (y3 rfl rfl (Cf hx)) rfl) (by simp;omega)) (Xp ?_)) (QQ (xs:=o) rfl rfl rfl) ?_)))))
 ·rw [VJ,show ((a:Int)+1)=((a+1:Nat):Int) by omega,Gq,Xp (by rw [List.length_take,List.length_drop];omega),ho]
 ·rw [VJ,List.length_take];simp;omega
 ·rw [VJ,Gq,Xp (by rw [List.length_append,List.length_take,List.length_drop];simp;omega)];simp
theorem MX {xs:List PV}{a t:Nat}(h1:a<xs.length)(h2:t<xs.length)(hl:xs.length<=12):Xh [.lst xs,.at (.int a),.at (.int t)]=some (.lst (mvL xs a t)):=by
 have hlim:lim=1000000:=rfl;have hx:=List.getElem?_eq_getElem h1;have he:(xs.eraseIdx a).length=xs.length-1:=List.length_eraseIdx_of_lt h1;rw [ZR hx];refine zc rfl (y4 (Zp (x:= .lst xs) rfl) (y4 (ε1:=[.sh (.lst xs),.sh (.at (.int a)),.sh (.at (.int t)),.ow (.lst (xs.eraseIdx a)),.sh xs[a]]) ?_ (y4 (ε1:=[.sh (.lst xs),.sh (.at (.int a)),.sh (.at (.int t)),.ow (.lst ((xs.eraseIdx a).take t++xs[a]::(xs.eraseIdx a).drop t)),.sh xs[a]]) ?_ rfl)))
 ·show (if 0<=(a:Int)/\(a:Int)<xs.length/\xs.length<=lim then (xs[(a:Int).toNat]?).bind _ else none)=_;rw [if_pos ⟨by omega,by omega,by omega⟩,Int.toNat_natCast,hx];rfl
 ·show (if 0<=(t:Int)/\(t:Int)<=(xs.eraseIdx a).length/\(xs.eraseIdx a).length<1000 then _ else none)=_;rw [if_pos ⟨by omega,by omega,by omega⟩,Int.toNat_natCast];rfl
theorem Mp {n:Nat}{m:Nat×Nat}(h1:m.1<n)(h2:m.2<n):jJ [mvP m,.at (.int n)]=some (.at (.bl true)):=by
 have e:∀ k:Nat,k<n->∀ s:MSlot,zb pLe pLt (dC (.int 0)) (q9 0) (q9 1) [.sh (.at (.int k)),.sh (.at (.int n))]=some (.at (.bl true)):=fun k hk _=>by
  show Option.bind (some (decide ((0:Int)<=(k:Int)))) (fun c=>if c=true then some (PV.at (.bl (decide ((k:Int)<(n:Int))))) else some (.at (.bl false)))=_;rw [decide_eq_true (show (0:Int)<=(k:Int) by omega),decide_eq_true (show (k:Int)<(n:Int) by omega)];rfl
 refine qv rfl (i6 (j9 (u4 (VW (xs:=[.at (.int m.1),.at (.int m.2)]) (ys:=[.at (.bl true),.at (.bl true)]) rfl rfl l2 ?_) rfl) rfl));show Option.bind (zb pLe pLt (dC (.int 0)) (q9 0) (q9 1) [.sh (.at (.int m.1)),.sh (.at (.int n))]) (fun y=>Option.bind (Option.bind (zb pLe pLt (dC (.int 0)) (q9 0) (q9 1) [.sh (.at (.int m.2)),.sh (.at (.int n))]) fun y=>Option.bind (some []) fun ys=>some (y::ys)) fun ys=>some (y::ys))=_;rw [e _ h1 .no,e _ h2 .no];rfl
def Vn (xs:List PV)(ms:List (Nat×Nat)):List PV:=ms.foldl (fun l m=>mvL l m.1 m.2) xs
def qJ (ms:List (Nat×Nat)):List PV:=ms.map mvP
theorem PH {xs0 mv:PV}:∀{ms:List (Nat×Nat)}{xs:List PV}{k:Nat}{u v:MSlot},(∀ m∈ms,m.1<xs.length/\m.2<xs.length)->xs.length<=12 -> ∃ u' v',qi (qW 2 (n9 (v6 3) (n9 (v6 4) qV))) (w5 (m5 (qd (i9 (x9 jJ (q0 (q8 4) (q0 (x9 qj (q0 (q9 2) x6)) x6))))) xQ n5) (p6 2 (x9 zT (q0 (q8 2) (q0 (q8 4) x6))))) (xJ k (qJ ms)) [.sh xs0,.sh mv,.sh (.lst xs),u,v]=some (.nx [.sh xs0,.sh mv,.sh (.lst (Vn xs ms)),u',v'])
 |[],xs,k,u,v,_,_=>⟨u,v,rfl⟩
 |m::ms,xs,k,u,v,h,hl=>by
  have hm:=h m List.mem_cons_self;have el:=LC (t:=m.2) hm.1;obtain ⟨u',v',e⟩:=PH (xs0:=xs0) (mv:=mv) (ms:=ms) (xs:=mvL xs m.1 m.2) (k:=k+1) (u:= .sh (.at (.int k))) (v:= .sh (mvP m)) (fun q hq=>by rw [el];exact h q (List.mem_cons_of_mem _ hq)) (by rw [el];exact hl);refine ⟨u',v',?_⟩;have b1:(w5 (m5 (qd (i9 (x9 jJ (q0 (q8 4) (q0 (x9 qj (q0 (q9 2) x6)) x6))))) xQ n5) (p6 2 (x9 zT (q0 (q8 2) (q0 (q8 4) x6))))) [.sh xs0,.sh mv,.sh (.lst xs),.sh (.at (.int k)),.sh (mvP m)]=some (.nx [.sh xs0,.sh mv,.sh (.lst (mvL xs m.1 m.2)),.sh (.at (.int k)),.sh (mvP m)]):=by
   refine y4 (ε1:=[.sh xs0,.sh mv,.sh (.lst xs),.sh (.at (.int k)),.sh (mvP m)]) (qw ?_ rfl) ?_
   ·have e1:x9 jJ (q0 (q8 4) (q0 (x9 qj (q0 (q9 2) x6)) x6)) [.sh xs0,.sh mv,.sh (.lst xs),.sh (.at (.int k)),.sh (mvP m)]=some (.at (.bl true)):=j9 (u4 rfl (u4 rfl rfl)) (Mp hm.1 hm.2);show Option.bind (Option.bind (x9 jJ (q0 (q8 4) (q0 (x9 qj (q0 (q9 2) x6)) x6)) [.sh xs0,.sh mv,.sh (.lst xs),.sh (.at (.int k)),.sh (mvP m)]) pTru) _=_;rw [e1];rfl
   ·exact qa (j9 (u4 rfl (u4 rfl rfl)) (Kz hm.1 hl))
  show Option.bind ((w5 (m5 (qd (i9 (x9 jJ (q0 (q8 4) (q0 (x9 qj (q0 (q9 2) x6)) x6))))) xQ n5) (p6 2 (x9 zT (q0 (q8 2) (q0 (q8 4) x6))))) [.sh xs0,.sh mv,.sh (.lst xs),.sh (.at (.int k)),.sh (mvP m)]) _=_;rw [b1];exact e
theorem SK {xs:List PV}{ms:List (Nat×Nat)}(h:∀ m∈ms,m.1<xs.length/\m.2<xs.length)(hl:xs.length<=12):ZL [.lst xs,.lst (qJ ms)]=some (.lst (Vn xs ms)):=by obtain ⟨u,v,e⟩:=PH (xs0:= .lst xs) (mv:= .lst (qJ ms)) (k:=0) (u:= .no) (v:= .no) h hl;exact qv rfl (y4 (qa (x:= .lst xs) rfl) (y4 (zd (xs:=xJ 0 (qJ ms)) rfl e) rfl))
structure Turn (ns os:List Cl)(p:Nat×Nat)(A:List Cl)(x:Cl)(M:List Cl)(y:Cl)(B:List Cl):Prop where
 old:ns=A++x::(M++y::B)
 new:os=A++(M++y::x::B)
 at1:p.1=A.length
 at2:p.2=A.length+1+M.length
 hue:x.hue=y.hue
 amid:∀ m∈M,m.hue≠x.hue
 bad:g9 (xW y) (xW x)=true
theorem YJ {R:List Str}{p:Nat×Nat}:∀{l:List (Str×Nat)},qM R l=some p->∃ l1 x y l2,l=l1++x::y::l2/\R.idxOf y.1<R.idxOf x.1/\p=(x.2,y.2)
 |[],h=>by cases h
 |[_],h=>by cases h
 |x::y::l,h=>by
  unfold qM at h;split at h
  ·rename_i hn;exact ⟨[],x,y,l,rfl,hn,(Option.some.inj h).symm⟩
  ·obtain ⟨l1,u,v,l2,e,h1,h2⟩:=YJ h;exact ⟨x::l1,u,v,l2,by rw [e];rfl,h1,h2⟩
theorem PU {N:List Str}{Z1 Z2:List (Str×Nat)}{x:Str×Nat}(h:N.zipIdx=Z1++x::Z2):x.2=Z1.length:=by
 have:N.zipIdx[Z1.length]?=some x:=by rw [h,List.getElem?_append_right (Nat.le_refl _),Nat.sub_self];rfl
 rw [List.getElem?_zipIdx] at this;obtain ⟨s,_,e⟩:=Option.map_eq_some_iff.mp this;rw [<- e];simp
theorem SM (N:List Str):N.zipIdx.map (·.1)=N:=by
 have:∀(N:List Str)(n:Nat),(N.zipIdx n).map (·.1)=N:=by
  intro N
  induction N with
  |nil=>intro n;rfl
  |cons s N ih=>intro n;rw [List.zipIdx_cons,List.map_cons,ih]
 exact this N 0
section
variable {d:Dr}
theorem CZ (ok:d.Ok){a b:Cl}(ha:a∈d.cls)(hb:b∈d.cls)(nm:a.name=b.name):a=b:=by have nd:=ok.nd;obtain ⟨i,hi,ei⟩:=List.mem_iff_getElem.mp ha;obtain ⟨j,hj,ej⟩:=List.mem_iff_getElem.mp hb;have:=(List.getElem_inj (xs:=d.cls.map Cl.name) (h₀:=by rw [List.length_map];exact hi) (h₁:=by rw [List.length_map];exact hj) nd).mp (by rw [List.getElem_map,List.getElem_map,ei,ej,nm]);subst this;rw [<- ei,<- ej]
theorem Wf (ok:d.Ok){c:Cl}(hc:c∈d.cls){g:Nat}:c.name∈d.dueN g↔c.hue=g:=by
 unfold Dr.dueN;constructor
 ·intro h;obtain ⟨e,he,en⟩:=List.mem_map.mp h;have he:=(Ze (d:=d) g).mem_iff.mp he;rw [<- CZ ok (Mg he) hc en];exact of_decide_eq_true (List.mem_filter.mp he).2
 ·intro h;exact List.mem_map.mpr ⟨c,(Ze (d:=d) g).mem_iff.mpr (List.mem_filter.mpr ⟨hc,decide_eq_true h⟩),rfl⟩
theorem TB (ok:d.Ok){ns:List Cl}(L:Lst d ns){p:Nat×Nat}(h:jp d ns=some p):∃ os A x M y B,Turn ns os p A x M y B:=by
 unfold jp at h;obtain ⟨R,hR,e⟩:=List.exists_of_findSome?_eq_some h;obtain ⟨g,hg,rfl⟩:=List.mem_map.mp hR;obtain ⟨l1,x,y,l2,e1,e2,rfl⟩:=YJ e;unfold qo at e1;obtain ⟨Z1,Z2,z1,z2,z3⟩:=List.filter_eq_append_iff.mp e1;obtain ⟨Z3,Z4,z4,z5,z6,z7⟩:=List.filter_eq_cons_iff.mp z3;obtain ⟨Z5,Z6,z8,z9,z10,z11⟩:=List.filter_eq_cons_iff.mp z7;have ex:(ns.map Cl.name).zipIdx=(Z1++Z3)++x::(Z5++y::Z6):=by rw [z1,z4,z8,List.append_assoc]
 have ey:(ns.map Cl.name).zipIdx=(Z1++Z3++x::Z5)++y::Z6:=by rw [ex];simp
 have px:=PU ex;have py:=PU ey;have en:=SM (ns.map Cl.name);have en:(Z1++Z3).map (·.1)++x.1::(Z5.map (·.1)++y.1::Z6.map (·.1))=ns.map Cl.name:=by rw [<- en,ex];simp
 obtain ⟨A,T,t1,t2,t3⟩:=List.map_eq_append_iff.mp en.symm;obtain ⟨cx,T2,t4,t5,t6⟩:=List.map_eq_cons_iff.mp t3;obtain ⟨M,T3,t7,t8,t9⟩:=List.map_eq_append_iff.mp t6;obtain ⟨cy,B,t10,t11,t12⟩:=List.map_eq_cons_iff.mp t9;subst t10 t7 t4 t1;have la:A.length=(Z1++Z3).length:=by have:=congrArg List.length t2;rwa [List.length_map,List.length_map] at this
 have lm:M.length=Z5.length:=by have:=congrArg List.length t8;rwa [List.length_map,List.length_map] at this
 have mx:cx∈d.cls:=L.sub cx (by simp);have my:cy∈d.cls:=L.sub cy (by simp);have hx:cx.hue=g:=(Wf ok mx).mp (by rw [t5];exact of_decide_eq_true z6);have hy:cy.hue=g:=(Wf ok my).mp (by rw [t11];exact of_decide_eq_true z10);refine ⟨A++(M++cy::cx::B),A,cx,M,cy,B,rfl,rfl,?_,?_,hx.trans hy.symm,fun m hm e=>?_,?_⟩
 ·rw [la];exact px
 ·show y.2=_;rw [py,la,lm];simp;omega
 ·have mm:m∈d.cls:=L.sub m (by simp [hm]);have:m.name∈d.dueN g:=(Wf ok mm).mpr (e.trans hx);have hm2:m.name∈Z5.map (·.1):=by rw [<- t8];exact List.mem_map.mpr ⟨m,hm,rfl⟩
  obtain ⟨z,hz,ez⟩:=List.mem_map.mp hm2;exact z9 z hz (decide_eq_true (by rw [ez];exact this))
 ·have:=(Yf (key:=xW) (fun _=>rfl) (Zt ok (h:=g)) (List.mem_filter.mpr ⟨mx,decide_eq_true hx⟩:cx∈d.inH g) (List.mem_filter.mpr ⟨my,decide_eq_true hy⟩:cy∈d.inH g)).mp;rw [<- t5,<- t11] at e2;exact this e2
def qz (c e:Cl):Bool:=decide (c.hue=e.hue)&&g9 (xW e) (xW c)
def xn:List Cl->Nat
 |[]=>0
 |c::cs=>cs.countP (qz c)+xn cs
theorem Lm {a b:Int×Str}(h:g9 a b=true):g9 b a=false:=by
 cases e:g9 b a with
 |false=>rfl
 |true =>
  rcases ltK_iff.mp h with z|⟨z1,z2⟩<;>rcases ltK_iff.mp e with y|⟨y1,y2⟩
  ·omega
  ·omega
  ·omega
  ·exact absurd y2 (List.lt_asymm z2)
theorem GX {x y:Cl}{B:List Cl}(hy:qz y x=false):∀{M:List Cl},(∀ m∈M,m.hue≠x.hue)->xn (M++y::x::B)=xn (M++y::B)+B.countP (qz x)
 |[],_=>by
  show (x::B).countP (qz y)+((B.countP (qz x))+xn B)=B.countP (qz y)+xn B+B.countP (qz x);rw [List.countP_cons_of_neg (by rw [hy];exact Bool.false_ne_true)];omega
 |m::M,h=>by
  have ih:=GX (B:=B) hy (M:=M) fun z hz=>h z (List.mem_cons_of_mem _ hz);show (M++y::x::B).countP (qz m)+xn (M++y::x::B)=(M++y::B).countP (qz m)+xn (M++y::B)+_;have mx:qz m x=false:=by unfold qz;rw [decide_eq_false (h m List.mem_cons_self)];rfl
  have e1:(x::B).countP (qz m)=B.countP (qz m):=List.countP_cons_of_neg (by rw [mx];exact Bool.false_ne_true);have e2:(y::x::B).countP (qz m)=(y::B).countP (qz m):=by rw [List.countP_cons (a:=y),e1,List.countP_cons (a:=y)]
  rw [ih,List.countP_append,List.countP_append,e2];omega
theorem Turn.perm {ns os:List Cl}{p:Nat×Nat}{A:List Cl}{x:Cl}{M:List Cl}{y:Cl}{B:List Cl}(T:Turn ns os p A x M y B):os.Perm ns:=by
 rw [T.old,T.new];refine List.Perm.append_left A ?_;have e1:(M++y::x::B).Perm (x::(M++y::B)):=by
  have:M++y::x::B=(M++[y])++x::B:=by simp
  rw [this];refine List.perm_middle.trans ?_;simp
 exact e1
theorem Turn.less {ns os:List Cl}{p:Nat×Nat}{A:List Cl}{x:Cl}{M:List Cl}{y:Cl}{B:List Cl}(T:Turn ns os p A x M y B):xn os<xn ns:=by
 have pm:(M++y::x::B).Perm (x::(M++y::B)):=by
  have:M++y::x::B=(M++[y])++x::B:=by simp
  rw [this];refine List.perm_middle.trans ?_;simp
 have base:xn (M++y::x::B)<xn (x::(M++y::B)):=by
  have hyx:qz y x=false:=by unfold qz;rw [Lm T.bad,Bool.and_false]
  have hxy:qz x y=true:=by unfold qz;rw [T.bad,decide_eq_true T.hue];rfl
  rw [GX hyx T.amid];show _<(M++y::B).countP (qz x)+xn (M++y::B);rw [List.countP_append,List.countP_cons_of_pos hxy];omega
 rw [T.old,T.new];have:∀ A:List Cl,xn (A++(M++y::x::B))<xn (A++x::(M++y::B)):=by
  intro A
  induction A with
  |nil=>exact base
  |cons c A ih=>show (A++(M++y::x::B)).countP (qz c)+xn (A++(M++y::x::B))<(A++x::(M++y::B)).countP (qz c)+xn (A++x::(M++y::B));have:=(List.Perm.append_left A pm).countP_eq (qz c);omega
 exact this A
theorem Mm:∀{ns:List Cl},ns.length<=10->xn ns<=90:=by
 intro ns h;have:∀ ns:List Cl,ns.length<=10->xn ns<=9*ns.length:=by
  intro ns
  induction ns with
  |nil=>intro _;exact Nat.zero_le _
  |cons c cs ih=>intro h;have:=ih (by simp at h;omega);have q:cs.countP (qz c)<=cs.length:=List.countP_le_length;show cs.countP (qz c)+xn cs<=9*(cs.length+1);simp at h;omega
 have:=this ns h;omega
inductive Led (d:Dr):List Cl->List (Nat×Nat)->List Cl->Prop
 |done {ns:List Cl} (h:jp d ns=none):Led d ns [] ns
 |turn {ns os fs A M B:List Cl} {x y:Cl} {p:Nat×Nat} {ms:List (Nat×Nat)} (h:jp d ns=some p) (T:Turn ns os p A x M y B) (r:Led d os ms fs):Led d ns (p::ms) fs
theorem Kn (ok:d.Ok):∀(n:Nat){ns:List Cl},Lst d ns->xn ns<=n->∃ ms fs,Led d ns ms fs/\ms.length<=n
 |n,ns,L,hn=>by
  cases h:jp d ns with
  |none=>exact ⟨[],ns,.done h,Nat.zero_le _⟩
  |some p =>
   obtain ⟨os,A,x,M,y,B,T⟩:=TB ok L h;have:=T.less;cases n with
   |zero=>omega
   |succ n=>obtain ⟨ms,fs,r,l⟩:=Kn ok n (L.perm T.perm) (by omega);exact ⟨p::ms,fs,.turn h T r,by simp;omega⟩
theorem Led.perm {ns fs:List Cl}{ms:List (Nat×Nat)}(r:Led d ns ms fs):fs.Perm ns:=by
 induction r with
 |done _=>exact .refl _
 |turn _ T _ ih=>exact ih.trans T.perm
theorem Led.last {ns fs:List Cl}{ms:List (Nat×Nat)}(r:Led d ns ms fs):jp d fs=none:=by
 induction r with
 |done h=>exact h
 |turn _ _ _ ih=>exact ih
theorem Turn.lt {ns os:List Cl}{p:Nat×Nat}{A:List Cl}{x:Cl}{M:List Cl}{y:Cl}{B:List Cl}(T:Turn ns os p A x M y B):p.1<ns.length/\p.2<ns.length:=by rw [T.at1,T.at2,T.old];simp;omega
theorem Led.lt {ns fs:List Cl}{ms:List (Nat×Nat)}(r:Led d ns ms fs):∀ m∈ms,m.1<ns.length/\m.2<ns.length:=by
 induction r with
 |done h=>exact fun _ z=>nomatch z
 |turn _ T _ ih =>
  intro m hm;rcases List.mem_cons.mp hm with rfl|hm
  ·exact T.lt
  ·have:=ih m hm;rwa [T.perm.length_eq] at this
end
def Dr.rz (d:Dr)(f:Int)(g:Nat):Int:=if f=(g:Int) then 0 else rin d.low f (g:Int)
section
variable {d:Dr}
theorem Lk {rss:List (List Int)}{h:Nat}(G:i7 h rss){f:Int}{g:Nat}(f0:-1<=f)(f1:f<(h:Int))(hg:g<h):0<=rin rss f (g:Int):=by
 have main:∀ n:Nat,n<=h->0<=rin rss (n:Int) (g:Int):=by
  intro n hn;have hl:n<rss.length:=by have:=G.len;omega
  have hgl:g<rss[n].length:=by rw [(G.row _ (List.getElem_mem hl)).1];exact hg
  rw [ju G hn hg,g8 hl,g8 hgl];exact ((G.row _ (List.getElem_mem hl)).2 _ (List.getElem_mem hgl)).1
 by_cases hf:f=-1
 ·subst hf;rw [Jd G.len];exact main h (Nat.le_refl _)
 ·obtain ⟨n,rfl⟩:=Int.eq_ofNat_of_zero_le (show 0<=f by omega);exact main n (by omega)
theorem Yi (ok:d.Ok){f:Int}{g:Nat}(f0:-1<=f)(f1:f<(d.h:Int))(hg:g<d.h):0<=d.rz f g:=by
 unfold Dr.rz;split
 ·exact Int.le_refl _
 ·exact Lk (jH ok.rin) f0 f1 hg
theorem Rg {h:Nat}{rss:List (List Int)}(G:i7 h rss){f:Int}{k g:Nat}(f0:-1<=f)(f1:f<(h:Int))(hk:k<h)(hg:g<h):rin (qx rss h) f (g:Int)<=rin (qx rss h) f (k:Int)+rin (qx rss h) (k:Int) (g:Int):=by
 have main:∀ n:Nat,n<=h->rin (qx rss h) (n:Int) (g:Int)<=rin (qx rss h) (n:Int) (k:Int)+rin (qx rss h) (k:Int) (g:Int):=fun n hn=>by
  rw [Wv G hn hg,Wv G hn hk,Wv G (by omega) hg];exact (FW.all G h (Nat.le_refl _)).tri k n g hk hn hg
 by_cases hf:f=-1
 ·rw [hf,Jd (jH G).len,Jd (jH G).len];exact main h (Nat.le_refl _)
 ·obtain ⟨n,rfl⟩:=Int.eq_ofNat_of_zero_le (show 0<=f by omega);exact main n (by omega)
theorem Rn (ok:d.Ok){f:Int}{k g:Nat}(f0:-1<=f)(f1:f<(d.h:Int))(hk:k<d.h)(hg:g<d.h):d.rz f g<=d.rz f k+d.rz (k:Int) g:=by
 have z1:=Yi ok f0 f1 hk;have z2:=Yi ok (f:=(k:Int)) (by omega) (by omega) hg;by_cases h1:f=(g:Int)
 ·unfold Dr.rz at z1 z2 ⊢;rw [if_pos h1];omega
 by_cases h2:f=(k:Int)
 ·rw [<- h2];have e:d.rz f k=0:=by unfold Dr.rz;rw [if_pos h2]
  omega
 by_cases h3:(k:Int)=(g:Int)
 ·have e:k=g:=by omega
  subst e;omega
 have t:=Rg ok.rin f0 f1 hk hg;unfold Dr.rz;rw [if_neg h1,if_neg h2,if_neg h3];exact t
def Dr.sch (d:Dr):Int->Int->List Cl->List (Cl×Int)
 |_,_,[]=>[]
 |l,t,c::cs=>(c,t+d.rz l c.hue+c.len)::d.sch c.hue (t+d.rz l c.hue+c.len) cs
def Dr.endT (d:Dr):Int->Int->List Cl->Int
 |_,t,[]=>t
 |l,t,c::cs=>d.endT c.hue (t+d.rz l c.hue+c.len) cs
def vL:Int->List Cl->Int
 |l,[]=>l
 |_,c::cs=>vL c.hue cs
theorem Qy:∀{P Q:List Cl}{l t:Int},d.sch l t (P++Q)=d.sch l t P++d.sch (vL l P) (d.endT l t P) Q
 |[],_,_,_=>rfl
 |c::P,Q,l,t=>by
  show _::d.sch _ _ (P++Q)=_::(d.sch _ _ P++_);rw [Qy (P:=P)];rfl
theorem wQ:∀{P Q:List Cl}{l t:Int},d.endT l t (P++Q)=d.endT (vL l P) (d.endT l t P) Q
 |[],_,_,_=>rfl
 |c::P,Q,l,t=>by
  show d.endT _ _ (P++Q)=_;rw [wQ (P:=P)];rfl
theorem QX:∀{P:List Cl}{c:Cl}{l:Int},vL l (P++[c])=c.hue
 |[],_,_=>rfl
 |_::P,_,_=>QX (P:=P)
theorem Kl (ok:d.Ok):∀{P:List Cl}{l:Int},(∀ c∈P,c∈d.cls)->-1<=l->l<(d.h:Int)->-1<=vL l P/\vL l P<(d.h:Int)
 |[],_,_,h1,h2=>⟨h1,h2⟩
 |c::P,l,h,_,_=>by
  have hk:=(ok.cl c (h c List.mem_cons_self)).hu;exact Kl ok (P:=P) (fun x hx=>h x (List.mem_cons_of_mem _ hx)) (by omega) (by omega)
structure Dom (d:Dr)(k l' t' l t:Int):Prop where
 all:∀ g:Nat,g<d.h->t'+k+d.rz l' g<=t+d.rz l g
 one:t'+k<=t
theorem VO (ok:d.Ok):∀{P:List Cl},(∀ c∈P,c∈d.cls)->∀{k l' t' l t:Int},Dom d k l' t' l t -> (∀ r'∈d.sch l' t' P,∃ r∈d.sch l t P,r.1=r'.1/\r'.2+k<=r.2)/\d.endT l' t' P+k<=d.endT l t P
 |[],_,_,_,_,_,_,D=>⟨(fun _ z=>nomatch z),D.one⟩
 |c::P,hc,k,l',t',l,t,D=>by
  have hk:=ok.cl c (hc c List.mem_cons_self);have a:=D.all c.hue hk.hu;obtain ⟨q1,q2⟩:=VO ok (P:=P) (fun x hx=>hc x (List.mem_cons_of_mem _ hx)) (k:=k) (l':=(c.hue:Int)) (t':=t'+d.rz l' c.hue+c.len) (l:=(c.hue:Int)) (t:=t+d.rz l c.hue+c.len) ⟨fun g _=>by omega,by omega⟩;refine ⟨fun r' hr=>?_,q2⟩;rcases List.mem_cons.mp hr with rfl|hr
  ·exact ⟨_,List.mem_cons_self,rfl,by show t'+d.rz l' c.hue+c.len+k<=t+d.rz l c.hue+c.len;omega⟩
  ·obtain ⟨r,h1,h2,h3⟩:=q1 r' hr;exact ⟨r,List.mem_cons_of_mem _ h1,h2,h3⟩
def ji (r:Cl×Int):Int:=r.2-r.1.due
theorem Turn.better (ok:d.Ok){ns os:List Cl}{p:Nat×Nat}{A:List Cl}{x:Cl}{M:List Cl}{y:Cl}{B:List Cl}(T:Turn ns os p A x M y B)(hs:∀ c∈ns,c∈d.cls){l t:Int}(l1:-1<=l)(l2:l<(d.h:Int)):(∀ r'∈d.sch l t os,∃ r∈d.sch l t ns,ji r'<=ji r)/\d.endT l t os<=d.endT l t ns:=by
 have sA:∀ c∈A,c∈d.cls:=fun c h=>hs c (by rw [T.old];simp [h]);have sx:x∈d.cls:=hs x (by rw [T.old];simp);have sM:∀ c∈M++[y],c∈d.cls:=fun c h=>hs c (by rw [T.old];simp at h ⊢;rcases h with h|h<;>simp [h]);have sB:∀ c∈B,c∈d.cls:=fun c h=>hs c (by rw [T.old];simp [h]);have eo:os=A++((M++[y])++x::B):=by rw [T.new];simp
 have en:ns=A++x::((M++[y])++B):=by rw [T.old];simp
 obtain ⟨g1,g2⟩:=Kl ok sA l1 l2;rw [eo,en,Qy (P:=A) (Q:=(M++[y])++x::B),Qy (P:=A) (Q:=x::((M++[y])++B)),wQ (P:=A) (Q:=(M++[y])++x::B),wQ (P:=A) (Q:=x::((M++[y])++B))];generalize vL l A=l0 at g1 g2;generalize d.endT l t A=t0;have kx:=ok.cl x sx;have xl:=kx.l1;have hx:=kx.hu;have rx:=Yi ok g1 g2 hx
 -- the moved one is left out at first
 have D0:Dom d x.len l0 t0 (x.hue:Int) (t0+d.rz l0 x.hue+x.len):=⟨fun g hg=>by
  have:=Rn ok g1 g2 hx hg;omega,by omega⟩
 obtain ⟨q1,q2⟩:=VO ok sM D0;have hz:d.rz (y.hue:Int) x.hue=0:=by unfold Dr.rz;rw [if_pos (by rw [T.hue])]
 have dd:y.due<=x.due:=by
  rcases ltK_iff.mp T.bad with z|⟨z,_⟩
  ·have z:y.due<x.due:=z;omega
  ·have z:y.due=x.due:=z;omega
 have E1:d.sch l0 t0 ((M++[y])++x::B)=d.sch l0 t0 (M++[y])++(x,d.endT l0 t0 (M++[y])+x.len)::d.sch x.hue (d.endT l0 t0 (M++[y])+x.len) B:=by rw [Qy,QX];show _++(x,d.endT l0 t0 (M++[y])+d.rz (y.hue:Int) x.hue+x.len)::d.sch x.hue (d.endT l0 t0 (M++[y])+d.rz (y.hue:Int) x.hue+x.len) B=_;rw [hz,Int.add_zero]
 have E2:d.endT l0 t0 ((M++[y])++x::B)=d.endT x.hue (d.endT l0 t0 (M++[y])+x.len) B:=by rw [wQ,QX];show d.endT x.hue (d.endT l0 t0 (M++[y])+d.rz (y.hue:Int) x.hue+x.len) B=_;rw [hz,Int.add_zero]
 have E3:d.sch l0 t0 (x::((M++[y])++B))=(x,t0+d.rz l0 x.hue+x.len)::(d.sch x.hue (t0+d.rz l0 x.hue+x.len) (M++[y])++d.sch y.hue (d.endT x.hue (t0+d.rz l0 x.hue+x.len) (M++[y])) B):=by show _::d.sch _ _ ((M++[y])++B)=_;rw [Qy,QX]
 have E4:d.endT l0 t0 (x::((M++[y])++B))=d.endT y.hue (d.endT x.hue (t0+d.rz l0 x.hue+x.len) (M++[y])) B:=by show d.endT _ _ ((M++[y])++B)=_;rw [wQ,QX]
 have yin:(y,d.endT x.hue (t0+d.rz l0 x.hue+x.len) (M++[y]))∈d.sch x.hue (t0+d.rz l0 x.hue+x.len) (M++[y]):=by rw [Qy,wQ];exact List.mem_append_right _ List.mem_cons_self
 rw [E1,E2,E3,E4];generalize d.endT l0 t0 (M++[y])=T1 at q2;generalize d.endT x.hue (t0+d.rz l0 x.hue+x.len) (M++[y])=T2 at q2 yin;have D1:Dom d 0 (x.hue:Int) (T1+x.len) (y.hue:Int) T2:=⟨fun g _=>by rw [T.hue];omega,by omega⟩;obtain ⟨p1,p2⟩:=VO ok sB D1;refine ⟨fun r' hr=>?_,by omega⟩;rcases List.mem_append.mp hr with hr|hr
 ·exact ⟨r',List.mem_append_left _ hr,Int.le_refl _⟩
 rcases List.mem_append.mp hr with hr|hr
 ·obtain ⟨r,h1,h2,h3⟩:=q1 r' hr;refine ⟨r,List.mem_append_right _ (List.mem_cons_of_mem _ (List.mem_append_left _ h1)),?_⟩;unfold ji;rw [h2];omega
 rcases List.mem_cons.mp hr with rfl|hr
 ·refine ⟨_,List.mem_append_right _ (List.mem_cons_of_mem _ (List.mem_append_left _ yin)),?_⟩;show T1+x.len-x.due<=T2-y.due;omega
 ·obtain ⟨r,h1,h2,h3⟩:=p1 r' hr;refine ⟨r,List.mem_append_right _ (List.mem_cons_of_mem _ (List.mem_append_right _ h1)),?_⟩;unfold ji;rw [h2];omega
end
theorem Tp {A B M:List Cl}{x y:Cl}:mvL (v7 ((A++x::(M++y::B)).map Cl.name)) A.length (A.length+1+M.length)=v7 ((A++(M++y::x::B)).map Cl.name):=by
 have e:v7 ((A++x::(M++y::B)).map Cl.name)=v7 (A.map Cl.name)++ .at (.str x.name)::(v7 (M.map Cl.name)++ .at (.str y.name)::v7 (B.map Cl.name)):=by unfold v7;simp
 have e2:v7 ((A++(M++y::x::B)).map Cl.name)=v7 (A.map Cl.name)++(v7 (M.map Cl.name)++ .at (.str y.name):: .at (.str x.name)::v7 (B.map Cl.name)):=by unfold v7;simp
 rw [e,e2];have la:A.length=(v7 (A.map Cl.name)).length:=by rw [qZ,List.length_map]
 have lm:M.length=(v7 (M.map Cl.name)).length:=by rw [qZ,List.length_map]
 rw [la,lm];generalize v7 (A.map Cl.name)=a;generalize v7 (M.map Cl.name)=m;generalize v7 (B.map Cl.name)=b;rw [ZR (x:= .at (.str x.name)) (by rw [List.getElem?_append_right (Nat.le_refl _),Nat.sub_self];rfl)];have er:(a++PV.at (.str x.name)::(m++ .at (.str y.name)::b)).eraseIdx a.length=(a++m++[.at (.str y.name)])++b:=by rw [List.eraseIdx_append_of_length_le (Nat.le_refl _),Nat.sub_self];simp
 rw [er];have ll:a.length+1+m.length=(a++m++[PV.at (.str y.name)]).length:=by simp;omega
 rw [ll,List.take_left,List.drop_left];simp
section
variable {C:Addr}{d:Dr}
theorem Turn.mv {ns os:List Cl}{p:Nat×Nat}{A:List Cl}{x:Cl}{M:List Cl}{y:Cl}{B:List Cl}(T:Turn ns os p A x M y B):mvL (v7 (ns.map Cl.name)) p.1 p.2=v7 (os.map Cl.name):=by rw [T.old,T.new,T.at1,T.at2];exact Tp
theorem Led.walk {ns fs:List Cl}{ms:List (Nat×Nat)}(r:Led d ns ms fs):Vn (v7 (ns.map Cl.name)) ms=v7 (fs.map Cl.name):=by
 induction r with
 |done _=>rfl
 |turn _ T _ ih=>show Vn (mvL _ _ _) _=_;rw [T.mv];exact ih
theorem vi {ns:List Cl}:(v7 (ns.map Cl.name)).length=ns.length:=by rw [qZ,List.length_map]
theorem SE (ok:d.Ok){ns os:List Cl}(L:Lst d ns){p:Nat×Nat}{A:List Cl}{x:Cl}{M:List Cl}{y:Cl}{B:List Cl}(T:Turn ns os p A x M y B):zT [p9 ns,mvP p]=some (p9 os):=by have l10:=L.len ok;have:=Kz (xs:=v7 (ns.map Cl.name)) (m:=p) (by rw [vi];exact T.lt.1) (by rw [vi];omega);rw [T.mv] at this;exact this
def BC (d:Dr):PV:= .lst (((List.range d.h).map d.dueN).map p8)
noncomputable abbrev fMv (q:LQ):MS:=w5 (p6 6 (XZ q 1 (jg 2 (q8 1)) 2 (q0 (q8 4) (q0 (q8 5) x6)))) (w5 (vG 3 (q8 6)) (w5 (p6 4 (x9 zT (q0 (q8 4) (q0 (q8 6) x6)))) (p6 5 (x9 vh (q0 (q8 0) (q0 (q8 4) x6))))))
abbrev eMv (d:Dr)(q:LQ)(N:PV)(l:List (Nat×Nat))(a b:PV)(s:MSlot):ME:=[.sh (BC d),.sh N,.sh (.op (QE q 1 (jg 2 (q8 1)))),.ow (.lst (qJ l)),.sh a,.sh b,s]
theorem Lj (q:LQ)(ok:d.Ok){N:PV}{ns fs:List Cl}{ms:List (Nat×Nat)}(r:Led d ns ms fs):∀(L:Lst d ns)(done:List (Nat×Nat))(s6:MSlot)(f:Nat),ms.length<f->done.length+ms.length<=1000 -> ∃ s6':MSlot,jf (dT (x8 vU (q9 5) (dC .non))) (fMv q) f (eMv d q N done (p9 ns) (jo (jp d ns)) s6)=some (.nx (eMv d q N (done++ms) (p9 fs) (.at .non) s6')):=by
 have hlim:lim=1000000:=rfl
 induction r with
 |@done ns h =>
  intro L done s6 f hf _;cases f with
  |zero=>exact absurd hf (Nat.not_lt_zero _)
  |succ f=>refine ⟨s6,?_⟩;rw [h,List.append_nil];unfold jf;rw [r9 (v:=false) (y3 rfl rfl rfl)];rfl
 |@turn ns os fs A M B x y p ms h T r ih =>
  intro L done s6 f hf hd;cases f with
  |zero=>exact absurd hf (Nat.not_lt_zero _)
  |succ f =>
   simp only [List.length_cons] at hf hd;obtain ⟨s6',e⟩:=ih (L.perm T.perm) (done++[p]) (.sh (mvP p)) f (by omega) (by simp;omega);refine ⟨s6',?_⟩;rw [List.append_assoc] at e;rw [h];unfold jf;rw [r9 (v:=true) (y3 rfl rfl rfl),Option.bind_some,if_pos rfl];have b:fMv q (eMv d q N done (p9 ns) (jo (some p)) s6)
     = some (.nx (eMv d q N (done++[p]) (p9 os) (jo (jp d os)) (.sh (mvP p)))):=by
    refine y4 (qa (x:=mvP p) (Dx rfl rfl rfl)) (y4 (ε1:=(eMv d q N (done++[p]) (p9 ns) (jo (some p)) (.sh (mvP p)))) ?_ (y4 (qa (j9 rfl (SE ok L T))) (qa (j9 rfl (Pr ok (L.perm T.perm))))));show (if (qJ done).length<=lim then _ else none)=_;rw [if_pos (by unfold qJ;rw [List.length_map];omega)];unfold eMv qJ;rw [List.map_append];rfl
   rw [b];exact e
theorem Sv (q:LQ)(ok:d.Ok){ns fs:List Cl}{ms:List (Nat×Nat)}(L:Lst d ns)(r:Led d ns ms fs)(h:ms.length<=100):Xj q [BC d,p9 ns,.op (QE q 1 (jg 2 (q8 1)))]=some (.lst (qJ ms)):=by obtain ⟨s6,e⟩:=Lj q ok (N:=p9 ns) r L [] .no 101 (by omega) (by simp;omega);exact zc rfl (y4 (Zp (x:= .lst (qJ [])) (jD rfl l0)) (y4 (qa (x:=p9 ns) (j9 rfl rfl)) (y4 (qa (j9 rfl (Pr ok L))) (y4 e (i6 rfl)))))
theorem KB:∀ ms:List (Nat×Nat),js (qJ ms)=true
 |[]=>rfl
 |m::ms=>by
  show (plB (mvP m)&&js (qJ ms))=true;rw [KB ms];rfl
theorem Vl (q:LQ)(ok:d.Ok){ns fs:List Cl}{ms:List (Nat×Nat)}(L:Lst d ns)(r:Led d ns ms fs)(h:ms.length<=100):xY q C [d.ob C,p9 ns]=some (.lst (qJ ms)) :=
 zc rfl (y4 (Zj (j9 rfl (Sd ok L (v_are ok L)))) (DC (j9 rfl (Si ok)) rfl (Sv q ok L r h) (KB ms)))
end
section
variable {C:Addr}{d:Dr}
theorem Dv {a:M}{ε:ME}{i:Nat}{xs:List PV}{x:PV}(h1:a ε=some x)(h2:ε[i]?=some (.ow (.lst xs)))(h3:xs.length<=lim):vG i a ε=some (.nx (ε.set i (.ow (.lst (xs++[x]))))):=by unfold vG;rw [h1];show (match ε[i]? with|some (.ow (.lst xs))=>if xs.length<=lim then some (Out.nx (ε.set i (.ow (.lst (xs++[x]))))) else none|_=>none)=_;rw [h2];exact if_pos h3
theorem Rk {rss:List (List Int)}{h:Nat}(G:i7 h rss){f:Int}{g:Nat}(f0:-1<=f)(f1:f<(h:Int))(hg:g<h):∃ r:List Int,atI (rss.map qS) f=some (qS r)/\atI (r.map xX) (g:Int)=some (.at (.int (rin rss f (g:Int)))):=by
 have main:∀ n:Nat,n<=h->∃ r:List Int,(rss.map qS)[n]?=some (qS r)/\rss[n]?=some r/\atI (r.map xX) (g:Int)=some (.at (.int (rin rss (n:Int) (g:Int)))):=by
  intro n hn;have hl:n<rss.length:=by have:=G.len;omega
  have hgl:g<rss[n].length:=by rw [(G.row _ (List.getElem_mem hl)).1];exact hg
  refine ⟨rss[n],by rw [List.getElem?_map,List.getElem?_eq_getElem hl];rfl,List.getElem?_eq_getElem hl,?_⟩;rw [ju G hn hg,g8 hl,g8 hgl];exact za (by rw [List.getElem?_map,List.getElem?_eq_getElem hgl];rfl)
 by_cases hf:f=-1
 ·subst hf;obtain ⟨r,e1,e2,e3⟩:=main h (Nat.le_refl _);refine ⟨r,?_,?_⟩
  ·have hlen:(rss.map qS).length=h+1:=by rw [List.length_map];exact G.len
   have e:atI (rss.map qS) (h:Int)=some (qS r):=za e1;rw [<- e];unfold atI;rw [hlen];have i1:xo (h+1) (-1)=some h:=by
    unfold xo;rw [if_neg (by decide),if_pos (by omega)]
    congr 1
    omega
   have i2:xo (h+1) (h:Int)=some h:=by
    unfold xo;rw [if_pos (by omega),if_pos (by omega)]
    congr 1
   rw [i1,i2]
  ·rw [Jd G.len];exact e3
 ·obtain ⟨n,rfl⟩:=Int.eq_ofNat_of_zero_le (show 0<=f by omega);obtain ⟨r,e1,e2,e3⟩:=main n (by omega);exact ⟨r,za e1,e3⟩
def epP (r:Cl×Int):PV:= .tup [r.1.pv,.at (.int r.2)]
theorem Qz:∀{ns:List Cl}{l t:Int},(d.sch l t ns).length=ns.length
 |[],_,_=>rfl
 |_::ns,_,_=>congrArg (·+1) (Qz (ns:=ns))
abbrev eEn (d:Dr)(ns:List Cl)(a b:Int)(z:List PV)(s:MSlot):ME:=[.sh d.pv,.sh (p9 ns),.sh (i0 d.low),.sh (.fk (keysOf d.cls) (d.cls.map Cl.pv)),.sh (.at (.int a)),.sh (.at (.int b)),.ow (.lst z),s]
theorem Pm (ok:d.Ok){ns:List Cl}(L:Lst d ns):Qe [d.pv,p9 ns]=some (.lst ((d.sch d.last d.time ns).map epP)):=by
 have hlim:lim=1000000:=rfl;have l10:=L.len ok;have en:v7 (ns.map Cl.name)=ns.map fun c=>PV.at (.str c.name):=by unfold v7;rw [List.map_map];rfl
 have dc:=GA ok (ε:=[.sh d.pv,.sh (p9 ns),.sh (i0 d.low),.no,.no,.no,.no,.no]) rfl;obtain ⟨ε',e',rest⟩:=QY (g:=v6 7) (f:=w5 (m5 (dT (x8 qP (x8 w9 (qA (q9 3) (q9 7)) (dC (.int 1))) (q9 4))) (p6 5 (x8 qm (q9 5) (x8 w9 (x8 w9 (q9 2) (q9 4)) (x8 w9 (qA (q9 3) (q9 7)) (dC (.int 1)))))) n5)
  (w5 (p6 5 (x8 qm (q9 5) (x8 w9 (qA (q9 3) (q9 7)) (dC (.int 2)))))
  (w5 (p6 4 (x8 w9 (qA (q9 3) (q9 7)) (dC (.int 1))))
  (vG 6 (qO (q0 (qA (q9 3) (q9 7)) (q0 (q8 5) x6)))))))
  (fun c:Cl=>PV.at (.str c.name)) (fun l ε=>∃(la ti:Int)(done:List (Cl×Int))(s7:MSlot),done++d.sch la ti l=d.sch d.last d.time ns/\(∀ c∈l,c∈ns)/\done.length+l.length=ns.length/\-1<=la/\la<(d.h:Int) /\
   ε=(eEn d ns la ti (done.map epP) s7)) (by
   rintro c l ε ⟨la,ti,done,s7,e1,e2,e3,g1,g2,rfl⟩;have hc:=e2 c List.mem_cons_self;have hk:=ok.cl c (L.sub c hc);have lk:=Zz Cl.pv ok.nd c (L.sub c hc);simp only [List.length_cons] at e3;have gd:∀(t:Int),qA (q9 3) (q9 7) (eEn d ns la t (done.map epP) (.sh (.at (.str c.name))))=some c.pv:=fun t=>Zi rfl rfl rfl lk;have gd2:∀(t:Int),qA (q9 3) (q9 7) (eEn d ns (c.hue:Int) t (done.map epP) (.sh (.at (.str c.name))))=some c.pv:=fun t=>Zi rfl rfl rfl lk;have s1:m5 (dT (x8 qP (x8 w9 (qA (q9 3) (q9 7)) (dC (.int 1))) (q9 4))) (p6 5 (x8 qm (q9 5) (x8 w9 (x8 w9 (q9 2) (q9 4)) (x8 w9 (qA (q9 3) (q9 7)) (dC (.int 1)))))) n5 (eEn d ns la ti (done.map epP) (.sh (.at (.str c.name))))=some (.nx (eEn d ns la (ti+d.rz la c.hue) (done.map epP) (.sh (.at (.str c.name))))):=by
    unfold Dr.rz;by_cases h:la=(c.hue:Int)
    ·rw [if_pos h,Int.add_zero];exact qw (r9 (v:=false) (y3 (y3 (gd ti) rfl rfl) rfl ((KD _ _).trans (by rw [decide_eq_true h.symm];rfl)))) qB
    ·rw [if_neg h];obtain ⟨r,r1,r2⟩:=Rk (jH ok.rin) g1 g2 hk.hu;exact QO (r9 (v:=true) (y3 (y3 (gd ti) rfl rfl) rfl ((KD _ _).trans (by rw [decide_eq_false (Ne.symm h)];rfl)))) (qa (y3 rfl (y3 (y3 rfl rfl r1) (y3 (gd ti) rfl rfl) r2) rfl))
   refine ⟨_,(eEn d ns (c.hue:Int) (ti+d.rz la c.hue+c.len) ((done++[(c,ti+d.rz la c.hue+c.len)]).map epP) (.sh (.at (.str c.name)))),rfl,y4 s1 (y4 (qa (x:= .at (.int (ti+d.rz la c.hue+c.len))) (y3 rfl (y3 (gd _) rfl rfl) rfl)) (y4 (qa (x:= .at (.int (c.hue:Int))) (y3 (gd _) rfl rfl)) ?_)),?_⟩
   rotate_left
   ·refine ⟨(c.hue:Int),ti+d.rz la c.hue+c.len,done++[(c,ti+d.rz la c.hue+c.len)],_,by rw [List.append_assoc];exact e1,fun x hx=>e2 x (List.mem_cons_of_mem _ hx),by rw [List.length_append];simp;omega,by omega,by have:=hk.hu;omega,rfl⟩
   ·rw [List.map_append];exact Dv (zO (u4 (gd2 _) (u4 rfl rfl)) l2) rfl (by rw [List.length_map];omega)) ns (eEn d ns d.last d.time [] .no) ⟨d.last,d.time,[],.no,rfl,fun c h=>h,by simp,ok.l1,ok.l2,rfl⟩
 obtain ⟨la,ti,done,s7,e1,_,_,_,_,rfl⟩:=rest;have e2:done=d.sch d.last d.time ns:=by have:done++[]=d.sch d.last d.time ns:=e1;rwa [List.append_nil] at this
 subst e2;refine zc rfl (y4 (qa (x:=i0 d.low) (j9 (u4 (y3 rfl rfl rfl) rfl) (Sq ok.rin ok.h1 ok.h4))) (y4 (qa dc) (y4 (Dw (x:= .tup [.at (.int d.last),.at (.int d.time)]) (DD (i:=2) (xs:=[i0 d.rss,.lst (d.cls.map Cl.pv),.at (.int d.last),.at (.int d.time)]) rfl rfl rfl ⟨by decide,by show 2<=4;decide⟩) rfl) (y4 (Zp (jD rfl l0)) (y4 (zd (by show some (v7 (ns.map Cl.name))=_;rw [en]) e') rfl)))))
def vw (l:List Int):PV:=if l=[] then .at .non else .at (.int (jK l))
theorem Lu {a:M}{ε:ME}{l:List Int}(h:a ε=some (.lst (l.map xX))):Za a ε=some (vw l):=by unfold Za vw;rw [h,Option.bind_some];show (vc (l.map fun b=>PV.at (.int b))).bind _=_;rw [GW,Option.bind_some];split<;>rfl
theorem BG (ok:d.Ok){ns:List Cl}(L:Lst d ns):(d.sch d.last d.time ns).length<=lim:=by have hlim:lim=1000000:=rfl;have l10:=L.len ok;rw [Qz];omega
theorem Pq (ok:d.Ok){ns:List Cl}(L:Lst d ns):vQ [d.pv,p9 ns]=some (vw ((d.sch d.last d.time ns).map ji)):=by refine qv rfl (i6 (Lu ((xk epP (fun r=>xX (ji r)) (d.sch d.last d.time ns) (Zm (j9 rfl (Pm ok L))) rfl (BG ok L) fun r hr=>⟨_,rfl,y3 rfl (y3 rfl rfl rfl) rfl⟩).trans ?_)));rw [List.map_map];rfl
theorem GC:∀{ns:List Cl}{l t:Int},(t::(d.sch l t ns).map (·.2))[ns.length]?=some (d.endT l t ns)
 |[],_,_=>rfl
 |c::ns,l,t=>by
  show ((d.sch l t (c::ns)).map (·.2))[ns.length]?=_;exact GC (ns:=ns)
theorem Ce {xs:List PV}{n:Nat}{x:PV}(h:xs.length=n+1)(e:xs[n]?=some x):atI xs (-1)=some x:=by
 have e2:atI xs (n:Int)=some x:=za e;rw [<- e2];unfold atI;rw [h];have i1:xo (n+1) (-1)=some n:=by
  unfold xo;rw [if_neg (by decide),if_pos (by omega)]
  congr 1
  omega
 have i2:xo (n+1) (n:Int)=some n:=by
  unfold xo;rw [if_pos (by omega),if_pos (by omega)]
  congr 1
 rw [i1,i2]
theorem Pl (ok:d.Ok){ns:List Cl}(L:Lst d ns):vO [d.pv,p9 ns]=some (.at (.int (d.endT d.last d.time ns))):=by
 have hlim:lim=1000000:=rfl;have l10:=L.len ok;refine qv rfl (i6 (y3 (x:= .lst (PV.at (.int d.time)::(d.sch d.last d.time ns).map fun r=>xX r.2)) (y3 (jD (u4 (y3 rfl rfl rfl) rfl) l1) (xk epP (fun r=>xX r.2) (d.sch d.last d.time ns) (Zm (j9 rfl (Pm ok L))) rfl (BG ok L) fun r hr=>⟨_,rfl,rfl⟩) (Xp (by simp [Qz];omega))) rfl ?_));refine Ce (n:=ns.length) (by simp [Qz]) ?_;have:=GC (d:=d) (ns:=ns) (l:=d.last) (t:=d.time);have e:(PV.at (.int d.time)::(d.sch d.last d.time ns).map fun r=>xX r.2)=(d.time::(d.sch d.last d.time ns).map (·.2)).map xX:=by rw [List.map_cons,List.map_map];rfl
 rw [e,List.getElem?_map,this];rfl
theorem SH (k:Int):Qi [.at (.int k)]=some (.at (.bl true)):=by unfold Qi Vy r6 y8 zN x9 wM q0 x6 q9 dC qy tyP;rfl
theorem KA (ms:List (Nat×Nat)):(qJ ms).length=ms.length:=List.length_map _
theorem SD {n:Nat}{ms:List (Nat×Nat)}(h:∀ m∈ms,m.1<n/\m.2<n)(hl:ms.length<=100):ZI [.lst (qJ ms),.at (.int (n:Int))]=some (.at (.bl true)):=by
 have hlim:lim=1000000:=rfl;obtain ⟨ε',e',_,s2,rfl⟩:=QY (g:=v6 2) (f:=w5 (m5 (qU (qd (i9 (x9 qy (q0 (q9 2) (q0 (dC (.ty "tuple")) x6))))) (qU (dT (x8 qP (x9 qj (q0 (q9 2) x6)) (dC (.int 2)))) (qd (i9 (x9 ze (q0 (h8 [none] [0] (wK (q8 2)) (v6 0) i5 (x9 Qi (q0 (q8 0) x6))) x6)))))) (y8 (dC (.bl false))) n5)
  (m5 (qd (i9 (x9 ze (q0 (h8 [none,some 1] [0] (wK (q8 2)) (v6 0) i5 (zb pLe pLt (dC (.int 0)) (q9 0) (q9 1))) x6)))) (y8 (dC (.bl false))) n5)) mvP (fun l ε=>(∀ m∈l,m∈ms)/\∃ s2:MSlot,ε=[.sh (.lst (qJ ms)),.sh (.at (.int (n:Int))),s2]) (by
   rintro m l ε ⟨hm,s2,rfl⟩;obtain ⟨h1,h2⟩:=h m (hm m List.mem_cons_self);have ch:∀ k:Nat,k<n->∀ ε1:ME,ε1=[.sh (.at (.int k)),.sh (.at (.int n))]->zb pLe pLt (dC (.int 0)) (q9 0) (q9 1) ε1=some (.at (.bl true)):=fun k hk _ e=>by
    subst e;show Option.bind (some (decide ((0:Int)<=(k:Int)))) (fun c=>if c=true then some (PV.at (.bl (decide ((k:Int)<(n:Int))))) else some (.at (.bl false)))=_;rw [decide_eq_true (show (0:Int)<=(k:Int) by omega),decide_eq_true (show (k:Int)<(n:Int) by omega)];rfl
   refine ⟨_,_,rfl,y4 (qw (zx (xh (xr (j9 rfl (by unfold qy tyP;rfl)))) (zx (r9 (v:=false) (y3 (x:= .at (.int 2)) (j9 rfl rfl) rfl rfl)) (xh (xr (j9 (u4 (xk (fun k:Nat=>PV.at (.int (k:Int))) (fun _=>PV.at (.bl true)) [m.1,m.2] rfl rfl l2 fun k _=>⟨_,rfl,j9 rfl ?_⟩) rfl) (wD _)))))) qB) (qw (xh (xr (j9 (u4 (xk (fun k:Nat=>PV.at (.int (k:Int))) (fun _=>PV.at (.bl true)) [m.1,m.2] rfl rfl l2 fun k hk=>⟨_,rfl,ch k ?_ _ rfl⟩) rfl) (wD _)))) qB),fun x hx=>hm x (List.mem_cons_of_mem _ hx),_,rfl⟩
   ·exact SH _
   ·rcases List.mem_cons.mp hk with rfl|hk
    ·exact h1
    ·rw [List.mem_singleton.mp hk];exact h2) ms [.sh (.lst (qJ ms)),.sh (.at (.int (n:Int))),.no] ⟨fun _ h=>h,_,rfl⟩
 refine qv rfl (y4 (qw (zx (xh (xr (j9 rfl Zw))) (r9 (v:=false) (y3 (x:= .at (.int (ms.length:Int))) (j9 rfl (by show some (PV.at (.int ((qJ ms).length:Int)))=_;rw [KA])) rfl ?_))) qB) (y4 (zd rfl e') (i6 rfl)));show some (PV.at (.bl (decide ((100:Int)<(ms.length:Int)))))=_;rw [decide_eq_false (by omega)]
theorem Tr {l' l:List Int}(n':l'≠[])(n:l≠[])(h:∀ x∈l',∃ y∈l,x<=y):pGt (vw l') (vw l)=some (.at (.bl false)):=by unfold vw;rw [if_neg n',if_neg n];obtain ⟨y,hy,q⟩:=h _ (Ky n');have:=Kx hy;show some (PV.at (.bl (decide (jK l<jK l'))))=_;rw [decide_eq_false (by omega)]
theorem HD (ns:List Cl):vk 6 (p9 ns):=fun x hx=>by
 obtain ⟨s,_,rfl⟩:=List.mem_map.mp hx;exact rfl
noncomputable abbrev fLd:MS:=w5 (p6 7 (x9 Xh (q0 (q8 4) (q0 (q8 5) (q0 (q8 6) x6)))))
  (w5 (m5 (qU (dT (x8 pGt (x9 vQ (q0 (q8 1) (q0 (q8 7) x6))) (x9 vQ (q0 (q8 1) (q0 (q8 4) x6))))) (dT (x8 pGt (x9 vO (q0 (q8 1) (q0 (q8 7) x6))) (x9 vO (q0 (q8 1) (q0 (q8 4) x6)))))) (y8 (dC .non)) n5)
  (p6 4 (q8 7)))
theorem La (q:LQ)(ok:d.Ok){N P:PV}{ns fs:List Cl}{ms:List (Nat×Nat)}(r:Led d ns ms fs):∀(L:Lst d ns)(s5 s6 s7:MSlot),∃ s5' s6' s7':MSlot,qi (qW 2 (n9 (v6 5) (n9 (v6 6) qV))) fLd (qJ ms) [.sh (d.ob C),.sh d.pv,.sh N,.sh P,.sh (p9 ns),s5,s6,s7]=some (.nx [.sh (d.ob C),.sh d.pv,.sh N,.sh P,.sh (p9 fs),s5',s6',s7']):=by
 induction r with
 |done h=>exact fun _ s5 s6 s7=>⟨s5,s6,s7,rfl⟩
 |@turn ns os fs A M B x y p ms h T r ih =>
  intro L s5 s6 s7;have l10:=L.len ok;have Lo:=L.perm T.perm;have lm:=MX (xs:=v7 (ns.map Cl.name)) (a:=p.1) (t:=p.2) (by rw [vi];exact T.lt.1) (by rw [vi];exact T.lt.2) (by rw [vi];omega);rw [T.mv] at lm;obtain ⟨b1,b2⟩:=T.better ok L.sub (t:=d.time) ok.l1 ok.l2;have n0:ns≠[]:=fun z=>by have:=T.lt.1;rw [z] at this;exact absurd this (Nat.not_lt_zero _)
  have n1:(d.sch d.last d.time ns).map ji≠[]:=fun z=>n0 (List.length_eq_zero_iff.mp (by have:=congrArg List.length z;rw [List.length_map,Qz] at this;exact this));have n2:(d.sch d.last d.time os).map ji≠[]:=fun z=>n0 (List.length_eq_zero_iff.mp (by have:=congrArg List.length z;rw [List.length_map,Qz,T.perm.length_eq] at this;exact this));have g1:pGt (vw ((d.sch d.last d.time os).map ji)) (vw ((d.sch d.last d.time ns).map ji))=some (.at (.bl false)):=Tr n2 n1 fun v hv=>by
   obtain ⟨r',hr,rfl⟩:=List.mem_map.mp hv;obtain ⟨r,h1,h2⟩:=b1 r' hr;exact ⟨_,List.mem_map.mpr ⟨r,h1,rfl⟩,h2⟩
  have g2:pGt (.at (.int (d.endT d.last d.time os))) (.at (.int (d.endT d.last d.time ns)))=some (.at (.bl false)):=by show some (PV.at (.bl (decide (d.endT d.last d.time ns<d.endT d.last d.time os))))=_;rw [decide_eq_false (by omega)]
  obtain ⟨s5',s6',s7',e⟩:=ih Lo (.sh (.at (.int p.1))) (.sh (.at (.int p.2))) (.sh (p9 os));refine ⟨s5',s6',s7',?_⟩;have bd:fLd [.sh (d.ob C),.sh d.pv,.sh N,.sh P,.sh (p9 ns),.sh (.at (.int p.1)),.sh (.at (.int p.2)),s7]=some (.nx [.sh (d.ob C),.sh d.pv,.sh N,.sh P,.sh (p9 os),.sh (.at (.int p.1)),.sh (.at (.int p.2)),.sh (p9 os)]) :=
   y4 (qa (x:=p9 os) (j9 rfl lm)) (y4 (qw (zx (r9 (v:=false) (y3 (j9 rfl (Pq ok Lo)) (j9 rfl (Pq ok L)) g1)) (r9 (v:=false) (y3 (j9 rfl (Pl ok Lo)) (j9 rfl (Pl ok L)) g2))) qB) (qa rfl))
  show Option.bind (fLd [.sh (d.ob C),.sh d.pv,.sh N,.sh P,.sh (p9 ns),.sh (.at (.int p.1)),.sh (.at (.int p.2)),s7]) _=_;rw [bd];exact e
theorem v_led (q:LQ)(ok:d.Ok){ns fs:List Cl}{ms:List (Nat×Nat)}(L:Lst d ns)(r:Led d ns ms fs)(h:ms.length<=100):Qg q C [d.ob C,d.pv,p9 ns]=some (p9 fs):=by have l10:=L.len ok;obtain ⟨s5,s6,s7,e⟩:=La (C:=C) q ok (N:=p9 ns) (P:= .lst (qJ ms)) r L .no .no .no;have w:=SK (xs:=v7 (ns.map Cl.name)) (ms:=ms) (by rw [vi];exact r.lt) (by rw [vi];omega);rw [r.walk] at w;exact qv rfl (y4 (qa (j9 rfl (Vl q ok L r h))) (y4 (qw (xh (xr (j9 (u4 rfl (u4 (j9 rfl (by show some (PV.at (.int ((v7 (ns.map Cl.name)).length:Int)))=_;rw [vi])) rfl)) (SD r.lt h)))) qB) (y4 (qa (x:=p9 ns) (j9 rfl rfl)) (y4 (zd rfl e) (y4 (qw (r9 (v:=false) (y3 (j9 rfl w) rfl (Qr (HD fs)))) qB) (i6 rfl))))))
end
abbrev wd:Stmt:=top 74
noncomputable abbrev Uo (K:Fg)(An:LQ)(Aa:Addr):WS:=(wSeq (qq 1 (PB (Xt K) wv (m3 (wP (q8 0)) (m3 (wP (dC (.int 9))) qT))))
  (wSeq (qq 2 (wP (x9 (Qc Aa) (q0 (x8 w9 (q9 1) (dC (.int 0))) (q0 (x8 w9 (q9 1) (dC (.int 1))) (q0 (x8 w9 (q9 1) (dC (.int 2))) (q0 (x8 w9 (q9 1) (dC (.int 3))) x6)))))))
  (wSeq (Vm 3 (vX K) vA (m3 (wP (q8 0)) (m3 (wP (dC (.int 2))) qT)))
  (wSeq (wFor (wIp (xA (q0 (dC (.int 2)) x6))) (v6 4) (wSeq (qq 5 (zr 3 Xv QG (m3 (wP (q8 1)) qT)))
  (wSeq (qq 6 (wP (x9 zA (q0 (q9 5) x6))))
  (wSeq (qq 7 (wP (x9 (Qg An Aa) (q0 (q8 2) (q0 (q8 1) (q0 (q8 6) x6))))))
  (wSeq (xG (wPT (qU (dT (x8 Xq (q9 7) (dC .non))) (qU (dT (x8 qP (q9 6) (q9 5))) (dT (x8 qP (x9 vj (q0 (q9 7) x6)) (x9 vj (q0 (q9 5) x6))))))) (xb (wP (dC (.bl false)))) xS)
  (wSeq (xG (wPT (qU (qd (i9 (x9 vP (q0 (q8 1) (q0 (q8 7) (q0 (dC (.int 0)) x6)))))) (dT (x8 qP (x9 (xY An Aa) (q0 (q8 2) (q0 (q8 7) x6))) (xz x6))))) (xb (wP (dC (.bl false)))) xS)
  (wSeq (xG (wPT (dT (x8 qP (x8 qX (x9 (xY An Aa) (q0 (q8 2) (q0 (q8 5) x6))) (xz x6)) (x9 vP (q0 (q8 1) (q0 (q8 5) (q0 (dC (.int 0)) x6))))))) (xb (wP (dC (.bl false)))) xS)
  (wSeq (wg 8 (x9 (xY An Aa) (q0 (q8 2) (q0 (q8 5) x6))))
  (wSeq (qq 9 (wP (x9 zA (q0 (q9 8) x6))))
  (wSeq (wf 8 (wP (qO (q0 (dC (.int 0)) (q0 (dC (.int 0)) x6)))))
  (xG (wPT (dT (x8 qP (x9 (xY An Aa) (q0 (q8 2) (q0 (q8 5) x6))) (q9 9)))) (xb (wP (dC (.bl false)))) xS)))))))))))
  (xb (wP (x8 qX (x9 (xY An Aa) (q0 (q8 2) (q0 (xz x6) x6))) (xz x6))))))))
theorem sc_law:y7 ["script", "parts", "works", "row", "turn", "names", "handed", "found", "told", "copy"] ["script"] (j8 wd):=u7
theorem Gi {cs:List Cl}:∀{os:List Str},(∀ s∈os,s∈cs.map Cl.name)->∃ ns:List Cl,ns.map Cl.name=os/\∀ c∈ns,c∈cs
 |[],_=>⟨[],rfl,fun _ z=>nomatch z⟩
 |s::os,h=>by
  obtain ⟨ns,e,q⟩:=Gi (os:=os) fun x hx=>h x (List.mem_cons_of_mem _ hx);obtain ⟨c,hc,ec⟩:=List.mem_map.mp (h s List.mem_cons_self);refine ⟨c::ns,by rw [List.map_cons,e,ec],fun x hx=>?_⟩;rcases List.mem_cons.mp hx with rfl|hx
  ·exact hc
  ·exact q x hx
theorem Ti {d e:Dr}{os:List Str}(h:([d.pv]:List PV)=[e.pv])(nd:os.Nodup)(hs:∀ s∈os,s∈e.cls.map Cl.name):∃ ns:List Cl,p9 ns = .lst (v7 os)/\Lst d ns:=by injection h with h _;rw [<- Dm h] at hs;obtain ⟨ns,e,q⟩:=Gi hs;exact ⟨ns,by unfold p9;rw [e],q,by rw [e];exact nd⟩
theorem Ps {ss:List Str}(h:ss.length<64):vj [.lst (v7 ss)]=some (.lst (v7 (zq ss))):=by show (jV (v7 ss)).bind _=_;rw [BU,Option.bind_some,if_pos h];rfl
theorem Tk {a b:List Str}(p:a.Perm b):zq a=zq b:=Vh ((Yl a).trans p) (BP a)
theorem KS (ss:List Str):vk 6 (.lst (v7 ss)):=fun x hx=>by
 obtain ⟨s,_,rfl⟩:=List.mem_map.mp hx;exact rfl
theorem HC (ms:List (Nat×Nat)):vk 6 (.lst (qJ ms)):=fun x hx=>by
 obtain ⟨m,_,rfl⟩:=List.mem_map.mp hx;intro y hy;rcases List.mem_cons.mp hy with rfl|hy
 ·exact rfl
 ·rw [List.mem_singleton.mp hy];exact rfl
theorem Dt (ms:List (Nat×Nat)):qX (.lst (qJ ms)) (.lst [])=some (.at (.bl (decide (ms=[])))):=by
 cases ms with
 |nil=>rfl
 |cons m ms=>rfl
theorem Lb {d:Dr}(ok:d.Ok){ns fs:List Cl}{ms:List (Nat×Nat)}(L:Lst d ns)(r:Led d ns ms fs):ms=[]↔ns.Pairwise fun a b=>¬ xO 0 a b:=by
 rw [<- WJ ok L];cases r with
 |done h=>simp [h]
 |turn h _ _=>simp [h]
theorem Mf {K:Fg}{An:LQ}{Aa:Addr}{ns:List Int}{d:Dr}(ok:d.Ok){os:List Cl}(L:Lst d os)(n:Int)(s4 s6 s7 s8 s9:MSlot){N:ME->Prop}(hN:∀ s4 s5 s6 s7 s8 s9:MSlot,N [.sh (scr K ns),.sh d.pv,.sh (d.ob Aa),m7 n,s4,s5,s6,s7,s8,s9]){R:PV->ME->Prop}:(wSeq (qq 6 (wP (x9 zA (q0 (q9 5) x6)))) (wSeq (qq 7 (wP (x9 (Qg An Aa) (q0 (q8 2) (q0 (q8 1) (q0 (q8 6) x6)))))) (wSeq (xG (wPT (qU (dT (x8 Xq (q9 7) (dC .non))) (qU (dT (x8 qP (q9 6) (q9 5))) (dT (x8 qP (x9 vj (q0 (q9 7) x6)) (x9 vj (q0 (q9 5) x6))))))) (xb (wP (dC (.bl false)))) xS) (wSeq (xG (wPT (qU (qd (i9 (x9 vP (q0 (q8 1) (q0 (q8 7) (q0 (dC (.int 0)) x6)))))) (dT (x8 qP (x9 (xY An Aa) (q0 (q8 2) (q0 (q8 7) x6))) (xz x6))))) (xb (wP (dC (.bl false)))) xS) (wSeq (xG (wPT (dT (x8 qP (x8 qX (x9 (xY An Aa) (q0 (q8 2) (q0 (q8 5) x6))) (xz x6)) (x9 vP (q0 (q8 1) (q0 (q8 5) (q0 (dC (.int 0)) x6))))))) (xb (wP (dC (.bl false)))) xS) (wSeq (wg 8 (x9 (xY An Aa) (q0 (q8 2) (q0 (q8 5) x6)))) (wSeq (qq 9 (wP (x9 zA (q0 (q9 8) x6)))) (wSeq (wf 8 (wP (qO (q0 (dC (.int 0)) (q0 (dC (.int 0)) x6))))) (xG (wPT (dT (x8 qP (x9 (xY An Aa) (q0 (q8 2) (q0 (q8 5) x6))) (q9 9)))) (xb (wP (dC (.bl false)))) xS))))))))) [.sh (scr K ns),.sh d.pv,.sh (d.ob Aa),m7 n,s4,.sh (p9 os),s6,s7,s8,s9] N R:=by have hlim:lim=1000000:=rfl;have l10:=L.len ok;obtain ⟨ms,fs,r,hm⟩:=Kn ok 90 L (Mm l10);have pm:=r.perm;have Lf:=L.perm pm;have p0:fs.Pairwise fun a b=>¬ xO 0 a b:=(WJ ok Lf).mp r.last;have f10:=Lf.len ok;have v1:=v_led (C:=Aa) An ok L r (by omega);have v2:=Po ok Lf 0;rw [decide_eq_true p0] at v2;have v3:=Vl (C:=Aa) An ok Lf (.done r.last) (by simp);have v4:=Vl (C:=Aa) An ok L r (by omega);have v5:=Po ok L 0;have e45:decide (ms=[])=decide (os.Pairwise fun a b=>¬ xO 0 a b):=decide_eq_decide.mpr (Lb ok L r);rw [<- e45] at v5;have es:zq (fs.map Cl.name)=zq (os.map Cl.name):=Tk (pm.map Cl.name);have w1:=Ps (ss:=fs.map Cl.name) (by rw [List.length_map];omega);have w2:=Ps (ss:=os.map Cl.name) (by rw [List.length_map];omega);rw [es] at w1;refine ⟨p9 os,j9 rfl rfl,p9 fs,j9 rfl v1,?_⟩;refine vy (zx (r9 (v:=false) rfl) (zx (r9 (v:=false) (y3 rfl rfl (Qr (KS _)))) (r9 (v:=false) (y3 (j9 rfl w1) (j9 rfl w2) (Qr (KS _)))))) ?_;refine vy (zx (xh (xr (j9 rfl v2))) (r9 (v:=false) (y3 (j9 rfl v3) (jD rfl l0) rfl))) ?_;refine vy (r9 (v:=false) (y3 (y3 (j9 rfl v4) (jD rfl l0) (Dt ms)) (j9 rfl v5) (Qr rfl))) ?_;refine ⟨_,j9 rfl v4,.lst (qJ ms),j9 rfl rfl,?_⟩;refine ⟨⟨_,rfl⟩,_,zO rfl l2,_,rfl,(by rw [KA];omega),?_⟩;exact vy (r9 (v:=false) (y3 (j9 rfl v4) rfl (Qr (HC ms)))) (hN _ _ _ _ _ _)
theorem DZ {K:Fg}{An:LQ}{Aa:Addr}:∀ ns:List Int,ns.length<=63->Uo K An Aa (.sh (scr K ns)::List.replicate ((["script", "parts", "works", "row", "turn", "names", "handed", "found", "told", "copy"]:List Str).length-1) .no) (fun _=>False) fun y _=>y = .at (.bl true):=by
 intro ns h63;have hlim:lim=1000000:=rfl;refine ⟨_,rfl,_,rfl,⟨ns,9,rfl,h63,by decide⟩,?_⟩;rintro _ ⟨d,z,m,_,rfl,ok,_⟩;refine ⟨d.ob Aa,j9 (u4 (y3 rfl rfl rfl) (u4 (y3 rfl rfl rfl) (u4 (y3 rfl rfl rfl) (u4 (y3 rfl rfl rfl) rfl)))) (Sl ok),?_⟩;refine ⟨_,rfl,_,rfl,⟨ns,2,rfl,h63,by decide,by decide⟩,?_⟩;rintro _ ⟨n,rfl⟩;refine ⟨_,jS (k:=2) rfl (by decide),?_⟩;refine Wt (fun rest ε=>∃(n:Int)(s4 s5 s6 s7 s8 s9:MSlot),ε=[.sh (scr K ns),.sh d.pv,.sh (d.ob Aa),m7 n,s4,s5,s6,s7,s8,s9]) ?_ ?_ _ _ ⟨n,_,_,_,_,_,_,rfl⟩
 ·rintro ε ⟨n,s4,s5,s6,s7,s8,s9,rfl⟩;have L0:Lst d []:=⟨(fun _ z=>nomatch z),List.nodup_nil⟩;have v0:=Vl (C:=Aa) An ok L0 (.done ((WJ ok L0).mpr .nil)) (by simp);exact ⟨.at (.bl true),y3 (j9 (u4 rfl (u4 (jD rfl l0) rfl)) v0) (jD rfl l0) rfl,rfl⟩
 ·rintro x rest ε ⟨n,s4,s5,s6,s7,s8,s9,rfl⟩;refine ⟨_,rfl,⟨n,rfl⟩,_,rfl,⟨n,rfl⟩,⟨d,rfl,ok⟩,?_⟩;rintro _ n1 ⟨e,os,he,rfl,nd,hs⟩;obtain ⟨cs,ec,L⟩:=Ti he nd hs;rw [<- ec];exact Mf ok L n1 _ _ _ _ _ fun _ _ _ _ _ _=>⟨n1,_,_,_,_,_,_,rfl⟩
theorem Np {Aa:Addr}(F:Fun K "law" "law" wd f fd)(B4:Fn P w K mg base 2 "_law_in_order" ["parts", "names", "way"] (y0 vP))(J0:Fn P w K mg base 10 "_law_led" ["works", "parts", "names"] (y0 (Qg (LQ.mk P w K mg base) Aa)))(Ic:Fn P w K mg base 4 "_law_parts" ["script", "most"] (spV (Xt K) wv))(Ik:Fn P w K mg base 2 "_law_some" ["row", "parts"] (spD Xv QG))(A5:Fn P w K mg base 2 "_law_stream" ["script", "k"] (spN (vX K) vA))(Ak:Fn P w K mg base 9 "to_dues" ["works", "names"] (m9 (xY (LQ.mk P w K mg base) Aa)))(Af:mg "list"=none)(Ac:mg "range"=none)(Am:mg "sorted"=none)(E5:mg "Works"=some (.ref Aa))(E8:Mkr P w K mg base 5 Aa ["self", "rinses", "cloths", "last", "time"] (spI Aa (Qc Aa))):FnOk P w K mg base w6 11 f fd ["script"] (XD K) :=
 okL (k:=10) (b:=Uo K (LQ.mk P w K mg base) Aa) F sc_law (fun cdv A outer s H E hr=>⟨_,(j3 (sW 1 sc_law.nd (w4 Ic hr (by decide) rfl (aC (pv 0) (aW z0))))
  (j3 (sW 2 sc_law.nd (pe_mk E8 hr (by decide) rfl E5 (aC (iW (K:=K) rfl (pv 1) z0) (aC (iW (K:=K) rfl (pv 1) z0) (aC (iW (K:=K) rfl (pv 1) z0) (aW (iW (K:=K) rfl (pv 1) z0)))))))
  (j3 (sW 3 sc_law.nd (w4 A5 hr (by decide) rfl (aC (pv 0) (aW z0))))
  (j3 (xD PassesOwn.never rfl (zo rfl Ac (aW z0)) (u6 (i:=4) sc_law.nd rfl (Or.inl rfl))
   (j3 (sW 5 sc_law.nd (w4 Ik hr (by decide) rfl (aC (pv 3) (aW (pv 1)))))
  (j3 (sW 6 sc_law.nd (zB (jY (K:=K) rfl) rfl Af zw (aW (pv 5))))
  (j3 (sW 7 sc_law.nd (w4 J0 hr (by decide) rfl (aC (pv 2) (aC (pv 1) (aW (pv 6))))))
  (j3 (o6 (PW.pt (zE (qh (KH) (pv 7) jr (i4 _)) (zE (qh (jn (K:=K) (xm hr) rfl) (pv 6) (pv 5) (i4 _)) (jR (qh (jn (K:=K) (xm hr) rfl) (m4 (VF (K:=K) rfl rfl) rfl Am XY (aW (pv 7))) (m4 (VF (K:=K) rfl rfl) rfl Am XY (aW (pv 5))) (i4 _)))))) (j4 (y6 xR)) o7)
  (j3 (o6 (PW.pt (zE (qY (qR (K:=K) rfl (w4 B4 hr (by decide) rfl (aC (pv 1) (aC (pv 7) (aW z0)))) (fun _=>rfl))) (jR (qh (jn (K:=K) (xm hr) rfl) (w4 Ak hr (by decide) rfl (aC (pv 2) (aW (pv 7)))) (@zf _ _ _ _ g0) (i4 _))))) (j4 (y6 xR)) o7)
  (j3 (o6 (qh (jn (K:=K) (xm hr) rfl) (jN (jm (K:=K) (xm hr) rfl) (w4 Ak hr (by decide) rfl (aC (pv 2) (aW (pv 5)))) (@zf _ _ _ _ g0) (i4 _)) (w4 B4 hr (by decide) rfl (aC (pv 1) (aC (pv 5) (aW z0)))) (i4 _)) (j4 (y6 xR)) o7)
  (j3 (sW 8 sc_law.nd (w4 Ak hr (by decide) rfl (aC (pv 2) (aW (pv 5)))))
  (j3 (sW 9 sc_law.nd (zB (jY (K:=K) rfl) rfl Af zw (aW (pv 8))))
  (j3 (jQ (jq (K:=K) rfl PySem.F.plainAttrs_list PySem.F.slot_list_append PySem.F.type_list_append ZQ (pv 8) (v9 (@xZ _ _ _ _ _ (aC z0 (aW z0))) g0)))
  (j4 (o6 (qh (jn (K:=K) (xm hr) rfl) (w4 Ak hr (by decide) rfl (aC (pv 2) (aW (pv 5)))) (pv 9) (i4 _)) (j4 (y6 xR)) o7))))))))))))
  (j4 (y6 (jN (jm (K:=K) (xm hr) rfl) (w4 Ak hr (by decide) rfl (aC (pv 2) (aW (@zf _ _ _ _ g0)))) (@zf _ _ _ _ g0) (i4 _)))))))),
  (by repeat' first|infer_instance|(refine @Mi.instSemWSTSeqWSeq _ _ _ _ ?_ ?_)|(apply @Mi.instSemWSTForWForOfSemWIOfSemWG))⟩) DZ
theorem Cs {K:Fg}{fd:FuncData}{ps:List Str}{T:Addr}{ob:Obj}{items:Array Value}{n:Nat}(hd:fd.defaults = .ref T)(q:K.lookup T=some ob)(hs:ob.data = .seq items n)(h:∀ us:List Value,us.length=ps.length->∃ k:Option (Array Value)->Sem (List (Str×Value)),bindArgs fd ⟨us,[]⟩=seqItems? fd.defaults >>= k/\k (some items)=pure (ps.zip us)):Binds K fd ps []:=fun s us X hl=>by
 rw [List.append_nil] at hl ⊢;obtain ⟨k,e1,e2⟩:=h us hl;exact BindsTo.of_defaults hd (X _ _ q) hs e1 e2
abbrev so (f:Addr):Option (Option Value):=some (some (.ref f))
abbrev fO (oc:Value)(od:Option Addr)(x q:Str)(st:Stmt)(dV kV dc pm:Value)(an:Option Addr)(cd ct:Value)(sl:Array (Option Value)):Option Obj:=some ⟨oc,od,.func (PySem.W.fnOf x q (zy st) (qI st) (j8 st) dV kV dc pm an cd ct),sl⟩
theorem m6 (P:Program)(w:World)(base:Heap){K:Fg}{mg:Str->Option Value}{k:Nat}{f:Addr}{fd:FuncData}{ps:List Str}{sp:Sp}{x:Str}(h:FnOk P w K mg base w6 k f fd ps sp)(a:mg x=some (.ref f))(kp:PySem.W.keepIn K (.ref f)=true)(b:Binds K fd ps []):Fn P w K mg base k x ps sp:=⟨f,fd,h,a,kp,b⟩
theorem bi1 {K:Fg}{x qual:Str}{st:Stmt}{f:Addr}{fd:FuncData}{p:Str}(F:Fun K x qual st f fd)(h:∀(kV doc pm:Value)(an:Option Addr)(cdv ct u:Value),bindArgs (PySem.W.fnOf x qual (zy st) (qI st) (j8 st) .none kV doc pm an cdv ct) ⟨[u],[]⟩=pure [(p,u)]):Binds K fd [p] []:=F.binds fun a b c d e g us hl=>match us,hl with|[_],_=>h a b c d e g _
theorem qt {K:Fg}{x qual:Str}{st:Stmt}{f:Addr}{fd:FuncData}{p q:Str}(F:Fun K x qual st f fd)(h:∀(kV doc pm:Value)(an:Option Addr)(cdv ct u v:Value),bindArgs (PySem.W.fnOf x qual (zy st) (qI st) (j8 st) .none kV doc pm an cdv ct) ⟨[u,v],[]⟩=pure [(p,u),(q,v)]):Binds K fd [p,q] []:=F.binds fun a b c d e g us hl=>match us,hl with|[_,_],_=>h a b c d e g _ _
theorem all_mk {l:PySem.W.OpenLaw}{w:World}{K:Fg}{h:Heap}{mg:Str->Option Value}{fa f0 f1 f2 f3 f4 f5 f6 f7 f8 f9 f10 f11 f12 f13 f14 f15 f16 f17 f18 f19 f20 f21 f22 f23 f24 f25 f26 f27 f28 f29 f30 f31 f32 f33 f34 f35 f36 f37 f38 f39 f40 f41 f42 f43 f44 f45 f46 f47 f48 f49 f50 f51 f52 f53 f54 f55 f56:Addr}{od0 od1 od2 od3 od4 od5 od6 od7 od8 od9 od10 od11 od12 od13 od14 od15 od16 od17 od18 od19 od20 od21 od22 od23 od24 od25 od26 od27 od28 od29 od30 od31 od32 od33 od34 od35 od36 od37 od38 od39 od40 od41 od42 od43 od44 od45 od46 od47 od48 od49 od50 od51 od52 od53 od54 od55 od56 an0 an1 an2 an3 an4 an5 an6 an7 an8 an9 an10 an11 an12 an13 an14 an15 an16 an17 an18 an19 an20 an21 an22 an23 an24 an25 an26 an27 an28 an29 an30 an31 an32 an33 an34 an35 an36 an37 an38 an39 an40 an41 an42 an43 an44 an45 an46 an47 an48 an49 an50 an51 an52 an53 an54 an55 an56:Option Addr}{sl0 sl1 sl2 sl3 sl4 sl5 sl6 sl7 sl8 sl9 sl10 sl11 sl12 sl13 sl14 sl15 sl16 sl17 sl18 sl19 sl20 sl21 sl22 sl23 sl24 sl25 sl26 sl27 sl28 sl29 sl30 sl31 sl32 sl33 sl34 sl35 sl36 sl37 sl38 sl39 sl40 sl41 sl42 sl43 sl44 sl45 sl46 sl47 sl48 sl49 sl50 sl51 sl52 sl53 sl54 sl55 sl56:Array (Option Value)}{oc0 oc1 oc2 oc3 oc4 oc5 oc6 oc7 oc8 oc9 oc10 oc11 oc12 oc13 oc14 oc15 oc16 oc17 oc18 oc19 oc20 oc21 oc22 oc23 oc24 oc25 oc26 oc27 oc28 oc29 oc30 oc31 oc32 oc33 oc34 oc35 oc36 oc37 oc38 oc39 oc40 oc41 oc42 oc43 oc44 oc45 oc46 oc47 oc48 oc49 oc50 oc51 oc52 oc53 oc54 oc55 oc56 kV0 kV1 kV2 kV3 kV4 kV5 kV6 kV7 kV8 kV9 kV10 kV11 kV12 kV13 kV14 kV15 kV16 kV17 kV18 kV19 kV20 kV21 kV22 kV23 kV24 kV25 kV26 kV27 kV28 kV29 kV30 kV31 kV32 kV33 kV34 kV35 kV36 kV37 kV38 kV39 kV40 kV41 kV42 kV43 kV44 kV45 kV46 kV47 kV48 kV49 kV50 kV51 kV52 kV53 kV54 kV55 kV56 dc0 dc1 dc2 dc3 dc4 dc5 dc6 dc7 dc8 dc9 dc10 dc11 dc12 dc13 dc14 dc15 dc16 dc17 dc18 dc19 dc20 dc21 dc22 dc23 dc24 dc25 dc26 dc27 dc28 dc29 dc30 dc31 dc32 dc33 dc34 dc35 dc36 dc37 dc38 dc39 dc40 dc41 dc42 dc43 dc44 dc45 dc46 dc47 dc48 dc49 dc50 dc51 dc52 dc53 dc54 dc55 dc56 pm0 pm1 pm2 pm3 pm4 pm5 pm6 pm7 pm8 pm9 pm10 pm11 pm12 pm13 pm14 pm15 pm16 pm17 pm18 pm19 pm20 pm21 pm22 pm23 pm24 pm25 pm26 pm27 pm28 pm29 pm30 pm31 pm32 pm33 pm34 pm35 pm36 pm37 pm38 pm39 pm40 pm41 pm42 pm43 pm44 pm45 pm46 pm47 pm48 pm49 pm50 pm51 pm52 pm53 pm54 pm55 pm56 ct0 ct1 ct2 ct3 ct4 ct5 ct6 ct7 ct8 ct9 ct10 ct11 ct12 ct13 ct14 ct15 ct16 ct17 ct18 ct19 ct20 ct21 ct22 ct23 ct24 ct25 ct26 ct27 ct28 ct29 ct30 ct31 ct32 ct33 ct34 ct35 ct36 ct37 ct38 ct39 ct40 ct41 ct42 ct43 ct44 ct45 ct46 ct47 ct48 ct49 ct50 ct51 ct52 ct53 ct54 ct55 ct56 cd0 cd1 cd2 cd3 cd4 cd5 cd6 cd7 cd8 cd9 cd10 cd11 cd12 cd13 cd14 cd15 cd16 cd17 cd18 cd19 cd20 cd21 cd22 cd23 cd24 cd25 cd26 cd27 cd28 cd29 cd30 cd31 cd32 cd34 cd35 cd36 cd37 cd38 cd39 cd40 cd41 cd42 cd43 cd44 cd46 cd47 cd48 cd49 cd50 cd51 cd52 cd53 cd54 cd55 cd56:Value}{cc33 cc45:Addr}{Aa:Addr}{T46:Addr}{qc46 qv46_0 qv46_1:Value}{qd46:Option Addr}{qn46:Nat}{qs46:Array (Option Value)}{A3 B0 D2 Ew:Tok}(X:K.In h)(TT:∀ P∈[212,274],h.get? P=some (PySem.W.tabObj #[]))(hTB:TABS=[(212,#[],[((⟨58,30,58,75⟩:Pos),("by_dues.<locals>.<lambda>":Str))]),(274,#[],[((⟨109,44,109,68⟩:Pos),("to_dues.<locals>.<lambda>":Str))])])(G:h.Ns mainGlobals mg)(hfa:mg "law"=some (.ref fa))(J6:W.nsIn K mainGlobals "Works"=some (some (.ref Aa)))(Ix:PySem.W.plainGet K Aa Str.empty=true)(Iv:PySem.W.hasDictIn K Aa=true)(Iq:PySem.W.plainOver K Aa=true)(Iy:W.findIn K (.ref Aa) "__setattr__"=some (some (.builtin "object.__setattr__")))(J2:PySem.W.makesIn K Aa=true)(Im:W.keepIn K (.ref Aa)=true)(Es:W.findIn K (.ref Aa) "given"=some none)(E9:W.findIn K (.ref Aa) "held"=some none)(E6:W.findIn K (.ref Aa) "last"=some none)(Et:W.findIn K (.ref Aa) "least"=some none)(E7:W.findIn K (.ref Aa) "time"=some none)(a0:W.nsIn K mainGlobals "_law_mixed"=so f0)(l0:K.lookup f0=fO oc0 od0 "_law_mixed" "_law_mixed" JM .none kV0 dc0 pm0 an0 cd0 ct0 sl0)(c0:W.codeIn K cd0 "_law_mixed"=true)(k0:W.keepIn K (.ref f0)=true)(a1:W.nsIn K mainGlobals "_law_digit"=so f1)(l1:K.lookup f1=fO oc1 od1 "_law_digit" "_law_digit" Jq .none kV1 dc1 pm1 an1 cd1 ct1 sl1)(c1:W.codeIn K cd1 "_law_digit"=true)(k1:W.keepIn K (.ref f1)=true)(a2:W.nsIn K mainGlobals "_law_stream"=so f2)(l2:K.lookup f2=fO oc2 od2 "_law_stream" "_law_stream" Xz .none kV2 dc2 pm2 an2 cd2 ct2 sl2)(c2:W.codeIn K cd2 "_law_stream"=true)(k2:W.keepIn K (.ref f2)=true)(a3:W.nsIn K mainGlobals "_law_number"=so f3)(l3:K.lookup f3=fO oc3 od3 "_law_number" "_law_number" JT .none kV3 dc3 pm3 an3 cd3 ct3 sl3)(c3:W.codeIn K cd3 "_law_number"=true)(k3:W.keepIn K (.ref f3)=true)(a4:W.nsIn K mainGlobals "_law_rinses"=so f4)(l4:K.lookup f4=fO oc4 od4 "_law_rinses" "_law_rinses" JV .none kV4 dc4 pm4 an4 cd4 ct4 sl4)(c4:W.codeIn K cd4 "_law_rinses"=true)(k4:W.keepIn K (.ref f4)=true)(a5:W.nsIn K mainGlobals "_law_names"=so f5)(l5:K.lookup f5=fO oc5 od5 "_law_names" "_law_names" JR .none kV5 dc5 pm5 an5 cd5 ct5 sl5)(c5:W.codeIn K cd5 "_law_names"=true)(k5:W.keepIn K (.ref f5)=true)(a6:W.nsIn K mainGlobals "_law_cloth"=so f6)(l6:K.lookup f6=fO oc6 od6 "_law_cloth" "_law_cloth" Jp .none kV6 dc6 pm6 an6 cd6 ct6 sl6)(c6:W.codeIn K cd6 "_law_cloth"=true)(k6:W.keepIn K (.ref f6)=true)(a7:W.nsIn K mainGlobals "_law_parts"=so f7)(l7:K.lookup f7=fO oc7 od7 "_law_parts" "_law_parts" JU .none kV7 dc7 pm7 an7 cd7 ct7 sl7)(c7:W.codeIn K cd7 "_law_parts"=true)(k7:W.keepIn K (.ref f7)=true)(a8:W.nsIn K mainGlobals "_law_some"=so f8)(l8:K.lookup f8=fO oc8 od8 "_law_some" "_law_some" JW .none kV8 dc8 pm8 an8 cd8 ct8 sl8)(c8:W.codeIn K cd8 "_law_some"=true)(k8:W.keepIn K (.ref f8)=true)(a9:W.nsIn K mainGlobals "_law_least"=so f9)(l9:K.lookup f9=fO oc9 od9 "_law_least" "_law_least" JG .none kV9 dc9 pm9 an9 cd9 ct9 sl9)(c9:W.codeIn K cd9 "_law_least"=true)(k9:W.keepIn K (.ref f9)=true)(a10:W.nsIn K mainGlobals "is_whole"=so f10)(l10:K.lookup f10=fO oc10 od10 "is_whole" "is_whole" JC .none kV10 dc10 pm10 an10 cd10 ct10 sl10)(c10:W.codeIn K cd10 "is_whole"=true)(k10:W.keepIn K (.ref f10)=true)(a11:W.nsIn K mainGlobals "name_of"=so f11)(l11:K.lookup f11=fO oc11 od11 "name_of" "name_of" JQ .none kV11 dc11 pm11 an11 cd11 ct11 sl11)(c11:W.codeIn K cd11 "name_of"=true)(k11:W.keepIn K (.ref f11)=true)(a12:W.nsIn K mainGlobals "hue_of"=so f12)(l12:K.lookup f12=fO oc12 od12 "hue_of" "hue_of" Jv .none kV12 dc12 pm12 an12 cd12 ct12 sl12)(c12:W.codeIn K cd12 "hue_of"=true)(k12:W.keepIn K (.ref f12)=true)(a13:W.nsIn K mainGlobals "length_of"=so f13)(l13:K.lookup f13=fO oc13 od13 "length_of" "length_of" JK .none kV13 dc13 pm13 an13 cd13 ct13 sl13)(c13:W.codeIn K cd13 "length_of"=true)(k13:W.keepIn K (.ref f13)=true)(a14:W.nsIn K mainGlobals "due_of"=so f14)(l14:K.lookup f14=fO oc14 od14 "due_of" "due_of" Jr .none kV14 dc14 pm14 an14 cd14 ct14 sl14)(c14:W.codeIn K cd14 "due_of"=true)(k14:W.keepIn K (.ref f14)=true)(a15:W.nsIn K mainGlobals "weight_of"=so f15)(l15:K.lookup f15=fO oc15 od15 "weight_of" "weight_of" Ve .none kV15 dc15 pm15 an15 cd15 ct15 sl15)(c15:W.codeIn K cd15 "weight_of"=true)(k15:W.keepIn K (.ref f15)=true)(a16:W.nsIn K mainGlobals "is_from"=so f16)(l16:K.lookup f16=fO oc16 od16 "is_from" "is_from" Jy .none kV16 dc16 pm16 an16 cd16 ct16 sl16)(c16:W.codeIn K cd16 "is_from"=true)(k16:W.keepIn K (.ref f16)=true)(a17:W.nsIn K mainGlobals "is_name"=so f17)(l17:K.lookup f17=fO oc17 od17 "is_name" "is_name" JA .none kV17 dc17 pm17 an17 cd17 ct17 sl17)(c17:W.codeIn K cd17 "is_name"=true)(k17:W.keepIn K (.ref f17)=true)(a18:W.nsIn K mainGlobals "is_cloth"=so f18)(l18:K.lookup f18=fO oc18 od18 "is_cloth" "is_cloth" Jx .none kV18 dc18 pm18 an18 cd18 ct18 sl18)(c18:W.codeIn K cd18 "is_cloth"=true)(k18:W.keepIn K (.ref f18)=true)(a19:W.nsIn K mainGlobals "is_rinse_row"=so f19)(l19:K.lookup f19=fO oc19 od19 "is_rinse_row" "is_rinse_row" JB .none kV19 dc19 pm19 an19 cd19 ct19 sl19)(c19:W.codeIn K cd19 "is_rinse_row"=true)(k19:W.keepIn K (.ref f19)=true)(a20:W.nsIn K mainGlobals "check_rinses"=so f20)(l20:K.lookup f20=fO oc20 od20 "check_rinses" "check_rinses" Jn .none kV20 dc20 pm20 an20 cd20 ct20 sl20)(c20:W.codeIn K cd20 "check_rinses"=true)(k20:W.keepIn K (.ref f20)=true)(a21:W.nsIn K mainGlobals "straight_ways"=so f21)(l21:K.lookup f21=fO oc21 od21 "straight_ways" "straight_ways" JX .none kV21 dc21 pm21 an21 cd21 ct21 sl21)(c21:W.codeIn K cd21 "straight_ways"=true)(k21:W.keepIn K (.ref f21)=true)(a22:W.nsIn K mainGlobals "joined"=so f22)(l22:K.lookup f22=fO oc22 od22 "joined" "joined" JD .none kV22 dc22 pm22 an22 cd22 ct22 sl22)(c22:W.codeIn K cd22 "joined"=true)(k22:W.keepIn K (.ref f22)=true)(a23:W.nsIn K mainGlobals "lesser"=so f23)(l23:K.lookup f23=fO oc23 od23 "lesser" "lesser" JL .none kV23 dc23 pm23 an23 cd23 ct23 sl23)(c23:W.codeIn K cd23 "lesser"=true)(k23:W.keepIn K (.ref f23)=true)(a24:W.nsIn K mainGlobals "ways_through"=so f24)(l24:K.lookup f24=fO oc24 od24 "ways_through" "ways_through" Vd .none kV24 dc24 pm24 an24 cd24 ct24 sl24)(c24:W.codeIn K cd24 "ways_through"=true)(k24:W.keepIn K (.ref f24)=true)(a25:W.nsIn K mainGlobals "least_ways"=so f25)(l25:K.lookup f25=fO oc25 od25 "least_ways" "least_ways" JI .none kV25 dc25 pm25 an25 cd25 ct25 sl25)(c25:W.codeIn K cd25 "least_ways"=true)(k25:W.keepIn K (.ref f25)=true)(a26:W.nsIn K mainGlobals "sums_of"=so f26)(l26:K.lookup f26=fO oc26 od26 "sums_of" "sums_of" JY .none kV26 dc26 pm26 an26 cd26 ct26 sl26)(c26:W.codeIn K cd26 "sums_of"=true)(k26:W.keepIn K (.ref f26)=true)(a27:W.nsIn K mainGlobals "least_rinses"=so f27)(l27:K.lookup f27=fO oc27 od27 "least_rinses" "least_rinses" JH .none kV27 dc27 pm27 an27 cd27 ct27 sl27)(c27:W.codeIn K cd27 "least_rinses"=true)(k27:W.keepIn K (.ref f27)=true)(a28:W.nsIn K mainGlobals "check_start"=so f28)(l28:K.lookup f28=fO oc28 od28 "check_start" "check_start" Jo .none kV28 dc28 pm28 an28 cd28 ct28 sl28)(c28:W.codeIn K cd28 "check_start"=true)(k28:W.keepIn K (.ref f28)=true)(a29:W.nsIn K mainGlobals "check_cloths"=so f29)(l29:K.lookup f29=fO oc29 od29 "check_cloths" "check_cloths" Jl .none kV29 dc29 pm29 an29 cd29 ct29 sl29)(c29:W.codeIn K cd29 "check_cloths"=true)(k29:W.keepIn K (.ref f29)=true)(a30:W.findIn K (.ref Aa) "hues"=so f30)(i30:W.isFn K (.ref f30)=true)(l30:K.lookup f30=fO oc30 od30 "hues" "Works.hues" Jg .none kV30 dc30 pm30 an30 cd30 ct30 sl30)(c30:W.codeIn K cd30 "Works.hues"=true)(k30:W.keepIn K (.ref f30)=true)(a31:W.findIn K (.ref Aa) "names"=so f31)(i31:W.isFn K (.ref f31)=true)(l31:K.lookup f31=fO oc31 od31 "names" "Works.names" Jh .none kV31 dc31 pm31 an31 cd31 ct31 sl31)(c31:W.codeIn K cd31 "Works.names"=true)(k31:W.keepIn K (.ref f31)=true)(a32:W.nsIn K mainGlobals "names_of"=so f32)(l32:K.lookup f32=fO oc32 od32 "names_of" "names_of" JS .none kV32 dc32 pm32 an32 cd32 ct32 sl32)(c32:W.codeIn K cd32 "names_of"=true)(k32:W.keepIn K (.ref f32)=true)(a33:W.nsIn K mainGlobals "by_dues"=so f33)(l33:K.lookup f33=fO oc33 od33 "by_dues" "by_dues" Jk .none kV33 dc33 pm33 an33 (.ref cc33) ct33 sl33)(c33:W.codeIn K (.ref cc33) "by_dues"=true)(k33:W.keepIn K (.ref f33)=true)(a34:W.findIn K (.ref Aa) "cloths_in"=so f34)(i34:W.isFn K (.ref f34)=true)(l34:K.lookup f34=fO oc34 od34 "cloths_in" "Works.cloths_in" Je .none kV34 dc34 pm34 an34 cd34 ct34 sl34)(c34:W.codeIn K cd34 "Works.cloths_in"=true)(k34:W.keepIn K (.ref f34)=true)(a35:W.findIn K (.ref Aa) "due_row"=so f35)(i35:W.isFn K (.ref f35)=true)(l35:K.lookup f35=fO oc35 od35 "due_row" "Works.due_row" Jf .none kV35 dc35 pm35 an35 cd35 ct35 sl35)(c35:W.codeIn K cd35 "Works.due_row"=true)(k35:W.keepIn K (.ref f35)=true)(a36:W.nsIn K mainGlobals "are_names"=so f36)(l36:K.lookup f36=fO oc36 od36 "are_names" "are_names" Jj .none kV36 dc36 pm36 an36 cd36 ct36 sl36)(c36:W.codeIn K cd36 "are_names"=true)(k36:W.keepIn K (.ref f36)=true)(a37:W.nsIn K mainGlobals "check_names"=so f37)(l37:K.lookup f37=fO oc37 od37 "check_names" "check_names" Jm .none kV37 dc37 pm37 an37 cd37 ct37 sl37)(c37:W.codeIn K cd37 "check_names"=true)(k37:W.keepIn K (.ref f37)=true)(a38:W.nsIn K mainGlobals "due_rows"=so f38)(l38:K.lookup f38=fO oc38 od38 "due_rows" "due_rows" Js .none kV38 dc38 pm38 an38 cd38 ct38 sl38)(c38:W.codeIn K cd38 "due_rows"=true)(k38:W.keepIn K (.ref f38)=true)(a39:W.nsIn K mainGlobals "turned_in"=so f39)(l39:K.lookup f39=fO oc39 od39 "turned_in" "turned_in" Va .none kV39 dc39 pm39 an39 cd39 ct39 sl39)(c39:W.codeIn K cd39 "turned_in"=true)(k39:W.keepIn K (.ref f39)=true)(a40:W.nsIn K mainGlobals "turned_pair"=so f40)(l40:K.lookup f40=fO oc40 od40 "turned_pair" "turned_pair" Vb .none kV40 dc40 pm40 an40 cd40 ct40 sl40)(c40:W.codeIn K cd40 "turned_pair"=true)(k40:W.keepIn K (.ref f40)=true)(a41:W.nsIn K mainGlobals "moved"=so f41)(l41:K.lookup f41=fO oc41 od41 "moved" "moved" JN .none kV41 dc41 pm41 an41 cd41 ct41 sl41)(c41:W.codeIn K cd41 "moved"=true)(k41:W.keepIn K (.ref f41)=true)(a42:W.nsIn K mainGlobals "is_move"=so f42)(l42:K.lookup f42=fO oc42 od42 "is_move" "is_move" Jz .none kV42 dc42 pm42 an42 cd42 ct42 sl42)(c42:W.codeIn K cd42 "is_move"=true)(k42:W.keepIn K (.ref f42)=true)(a43:W.nsIn K mainGlobals "walked"=so f43)(l43:K.lookup f43=fO oc43 od43 "walked" "walked" Vc .none kV43 dc43 pm43 an43 cd43 ct43 sl43)(c43:W.codeIn K cd43 "walked"=true)(k43:W.keepIn K (.ref f43)=true)(a44:W.nsIn K mainGlobals "moves_to"=so f44)(l44:K.lookup f44=fO oc44 od44 "moves_to" "moves_to" JO .none kV44 dc44 pm44 an44 cd44 ct44 sl44)(c44:W.codeIn K cd44 "moves_to"=true)(k44:W.keepIn K (.ref f44)=true)(a45:W.nsIn K mainGlobals "to_dues"=so f45)(l45:K.lookup f45=fO oc45 od45 "to_dues" "to_dues" JZ .none kV45 dc45 pm45 an45 (.ref cc45) ct45 sl45)(c45:W.codeIn K (.ref cc45) "to_dues"=true)(k45:W.keepIn K (.ref f45)=true)(a46:W.findIn K (.ref Aa) "__init__"=so f46)(i46:W.isFn K (.ref f46)=true)(l46:K.lookup f46=fO oc46 od46 "__init__" "Works.__init__" wc (.ref T46) kV46 dc46 pm46 an46 cd46 ct46 sl46)(c46:W.codeIn K cd46 "Works.__init__"=true)(k46:W.keepIn K (.ref f46)=true)(q46:K.lookup T46=some ⟨qc46,qd46,.seq #[qv46_0,qv46_1] qn46,qs46⟩)(a47:W.nsIn K mainGlobals "_law_ends"=so f47)(l47:K.lookup f47=fO oc47 od47 "_law_ends" "_law_ends" Ju .none kV47 dc47 pm47 an47 cd47 ct47 sl47)(c47:W.codeIn K cd47 "_law_ends"=true)(k47:W.keepIn K (.ref f47)=true)(a48:W.nsIn K mainGlobals "_law_late"=so f48)(l48:K.lookup f48=fO oc48 od48 "_law_late" "_law_late" JF .none kV48 dc48 pm48 an48 cd48 ct48 sl48)(c48:W.codeIn K cd48 "_law_late"=true)(k48:W.keepIn K (.ref f48)=true)(a49:W.nsIn K mainGlobals "_law_end"=so f49)(l49:K.lookup f49=fO oc49 od49 "_law_end" "_law_end" Jt .none kV49 dc49 pm49 an49 cd49 ct49 sl49)(c49:W.codeIn K cd49 "_law_end"=true)(k49:W.keepIn K (.ref f49)=true)(a50:W.nsIn K mainGlobals "_law_ahead"=so f50)(l50:K.lookup f50=fO oc50 od50 "_law_ahead" "_law_ahead" Ji .none kV50 dc50 pm50 an50 cd50 ct50 sl50)(c50:W.codeIn K cd50 "_law_ahead"=true)(k50:W.keepIn K (.ref f50)=true)(a51:W.nsIn K mainGlobals "_law_in_order"=so f51)(l51:K.lookup f51=fO oc51 od51 "_law_in_order" "_law_in_order" Jw .none kV51 dc51 pm51 an51 cd51 ct51 sl51)(c51:W.codeIn K cd51 "_law_in_order"=true)(k51:W.keepIn K (.ref f51)=true)(a52:W.nsIn K mainGlobals "_law_moved"=so f52)(l52:K.lookup f52=fO oc52 od52 "_law_moved" "_law_moved" JE .none kV52 dc52 pm52 an52 cd52 ct52 sl52)(c52:W.codeIn K cd52 "_law_moved"=true)(k52:W.keepIn K (.ref f52)=true)(a53:W.nsIn K mainGlobals "_law_whole"=so f53)(l53:K.lookup f53=fO oc53 od53 "_law_whole" "_law_whole" Vf .none kV53 dc53 pm53 an53 cd53 ct53 sl53)(c53:W.codeIn K cd53 "_law_whole"=true)(k53:W.keepIn K (.ref f53)=true)(a54:W.nsIn K mainGlobals "_law_moves_told"=so f54)(l54:K.lookup f54=fO oc54 od54 "_law_moves_told" "_law_moves_told" JP .none kV54 dc54 pm54 an54 cd54 ct54 sl54)(c54:W.codeIn K cd54 "_law_moves_told"=true)(k54:W.keepIn K (.ref f54)=true)(a55:W.nsIn K mainGlobals "_law_led"=so f55)(l55:K.lookup f55=fO oc55 od55 "_law_led" "_law_led" JJ .none kV55 dc55 pm55 an55 cd55 ct55 sl55)(c55:W.codeIn K cd55 "_law_led"=true)(k55:W.keepIn K (.ref f55)=true)(a56:W.nsIn K mainGlobals "law"=so f56)(l56:K.lookup f56=fO oc56 od56 "law" "law" wd .none kV56 dc56 pm56 an56 cd56 ct56 sl56)(c56:W.codeIn K cd56 "law"=true)(k56:W.keepIn K (.ref f56)=true)(Q0:W.nsIn K mainGlobals "all"=some none)(N2:W.nsIn K mainGlobals "bool"=some none)(N0:W.nsIn K mainGlobals "dict"=some none)(Ij:W.nsIn K mainGlobals "enumerate"=some none)(N4:W.nsIn K mainGlobals "int"=some none)(Ib:W.nsIn K mainGlobals "isinstance"=some none)(N8:W.nsIn K mainGlobals "len"=some none)(N1:W.nsIn K mainGlobals "list"=some none)(N7:W.nsIn K mainGlobals "max"=some none)(N3:W.nsIn K mainGlobals "min"=some none)(J8:W.nsIn K mainGlobals "range"=some none)(N6:W.nsIn K mainGlobals "set"=some none)(Ir:W.nsIn K mainGlobals "sorted"=some none)(N9:W.nsIn K mainGlobals "str"=some none)(N5:W.nsIn K mainGlobals "sum"=some none)(J9:W.nsIn K mainGlobals "tuple"=some none)(Q1:W.nsIn K mainGlobals "zip"=some none)(En:W.nsIn K mainGlobals "LONGEST_NAME"=some (some (.int 8 A3)))(Er:W.nsIn K mainGlobals "MOST_CLOTHS"=some (some (.int 10 B0)))(Ii:W.nsIn K mainGlobals "MOST_HUES"=some (some (.int 4 D2)))(J7:W.nsIn K mainGlobals "PARTS"=some (some (.int 5 Ew)))(hC33:PySem.W.codeHdIn K cc33 212=true)(o33:K.lookup 212=none)(hC45:PySem.W.codeHdIn K cc45 274=true)(o45:K.lookup 274=none):∃ fd:FuncData,(∀ (s:Shared) (v:Value),BindsTo s fd ⟨[v],[]⟩ [("script",v)])/\wC K h/\∀ base:Heap,K.In base->base.Ns mainGlobals mg->FnOk l.prog w K mg base w6 11 fa fd ["script"] (XD K):=by
 have e:=hfa.symm.trans (W.mg_of X G a56);cases e;have Aq:=W.mg_none_of X G Q0;have Ef:=W.mg_none_of X G N2;have B7:=W.mg_none_of X G N0;have Ah:=W.mg_none_of X G Ij;have Ev:=W.mg_none_of X G N4;have Ab:=W.mg_none_of X G Ib;have Ad:=W.mg_none_of X G N8;have Af:=W.mg_none_of X G N1;have Iz:=W.mg_none_of X G N7;have Ip:=W.mg_none_of X G N3;have Ac:=W.mg_none_of X G J8;have Iw:=W.mg_none_of X G N6;have Am:=W.mg_none_of X G Ir;have Io:=W.mg_none_of X G N9;have Ih:=W.mg_none_of X G N5;have D6:=W.mg_none_of X G J9;have Eu:=W.mg_none_of X G Q1;have Au:=W.mg_of X G En;have A7:=W.mg_of X G Er;have D3:=W.mg_of X G Ii;have Id:=W.mg_of X G J7;have E5:=W.mg_of X G J6;have Ek:jX K Aa:=⟨⟨Ix,Iv,Iq,Iy⟩⟩;have Iu:NoA K Aa "given":=⟨Es⟩;have J3:NoA K Aa "held":=⟨E9⟩;have J5:NoA K Aa "last":=⟨E6⟩;have J1:NoA K Aa "least":=⟨Et⟩;have J4:NoA K Aa "time":=⟨E7⟩;have F0:=u9 (st:=JM) l0 c0 k0;have F1:=u9 (st:=Jq) l1 c1 k1;have F2:=u9 (st:=Xz) l2 c2 k2;have F3:=u9 (st:=JT) l3 c3 k3;have F4:=u9 (st:=JV) l4 c4 k4;have F5:=u9 (st:=JR) l5 c5 k5;have F6:=u9 (st:=Jp) l6 c6 k6;have F7:=u9 (st:=JU) l7 c7 k7;have F8:=u9 (st:=JW) l8 c8 k8;have F9:=u9 (st:=JG) l9 c9 k9;have F10:=u9 (st:=JC) l10 c10 k10;have F11:=u9 (st:=JQ) l11 c11 k11;have F12:=u9 (st:=Jv) l12 c12 k12;have F13:=u9 (st:=JK) l13 c13 k13;have F14:=u9 (st:=Jr) l14 c14 k14;have F15:=u9 (st:=Ve) l15 c15 k15;have F16:=u9 (st:=Jy) l16 c16 k16;have F17:=u9 (st:=JA) l17 c17 k17;have F18:=u9 (st:=Jx) l18 c18 k18;have F19:=u9 (st:=JB) l19 c19 k19;have F20:=u9 (st:=Jn) l20 c20 k20;have F21:=u9 (st:=JX) l21 c21 k21;have F22:=u9 (st:=JD) l22 c22 k22;have F23:=u9 (st:=JL) l23 c23 k23;have F24:=u9 (st:=Vd) l24 c24 k24;have F25:=u9 (st:=JI) l25 c25 k25;have F26:=u9 (st:=JY) l26 c26 k26;have F27:=u9 (st:=JH) l27 c27 k27;have F28:=u9 (st:=Jo) l28 c28 k28;have F29:=u9 (st:=Jl) l29 c29 k29;have F30:=u9 (st:=Jg) l30 c30 k30;have F31:=u9 (st:=Jh) l31 c31 k31;have F32:=u9 (st:=JS) l32 c32 k32;have F33:=u9 (st:=Jk) l33 c33 k33;have F34:=u9 (st:=Je) l34 c34 k34;have F35:=u9 (st:=Jf) l35 c35 k35;have F36:=u9 (st:=Jj) l36 c36 k36;have F37:=u9 (st:=Jm) l37 c37 k37;have F38:=u9 (st:=Js) l38 c38 k38;have F39:=u9 (st:=Va) l39 c39 k39;have F40:=u9 (st:=Vb) l40 c40 k40;have F41:=u9 (st:=JN) l41 c41 k41;have F42:=u9 (st:=Jz) l42 c42 k42;have F43:=u9 (st:=Vc) l43 c43 k43;have F44:=u9 (st:=JO) l44 c44 k44;have F45:=u9 (st:=JZ) l45 c45 k45;have F46:=DJ (st:=wc) l46 c46 k46;have F47:=u9 (st:=Ju) l47 c47 k47;have F48:=u9 (st:=JF) l48 c48 k48;have F49:=u9 (st:=Jt) l49 c49 k49;have F50:=u9 (st:=Ji) l50 c50 k50;have F51:=u9 (st:=Jw) l51 c51 k51;have F52:=u9 (st:=JE) l52 c52 k52;have F53:=u9 (st:=Vf) l53 c53 k53;have F54:=u9 (st:=JP) l54 c54 k54;have F55:=u9 (st:=JJ) l55 c55 k55;have F56:=u9 (st:=wd) l56 c56 k56;have b0:=qt (p := "cell") (q := "k") F0 fun _ _ _ _ _ _ _ _=>rfl;have b1:=qt (p := "row") (q := "many") F1 fun _ _ _ _ _ _ _ _=>rfl;have b2:=qt (p := "script") (q := "k") F2 fun _ _ _ _ _ _ _ _=>rfl;have b3:=qt (p := "row") (q := "great") F3 fun _ _ _ _ _ _ _ _=>rfl;have b4:=F4.binds (ps:=["row", "hues", "great"]) fun _ _ _ _ _ _ us hl=>match us,hl with|[_,_,_],_=>rfl
 have b5:=qt (p := "row") (q := "many") F5 fun _ _ _ _ _ _ _ _=>rfl;have b6:=F6.binds (ps:=["row", "name", "hues", "great"]) fun _ _ _ _ _ _ us hl=>match us,hl with|[_,_,_,_],_=>rfl
 have b7:=qt (p := "script") (q := "most") F7 fun _ _ _ _ _ _ _ _=>rfl;have b8:=qt (p := "row") (q := "parts") F8 fun _ _ _ _ _ _ _ _=>rfl;have b9:=bi1 (p := "rinses") F9 fun _ _ _ _ _ _ _=>rfl;have b10:=bi1 (p := "thing") F10 fun _ _ _ _ _ _ _=>rfl;have b11:=bi1 (p := "cloth") F11 fun _ _ _ _ _ _ _=>rfl;have b12:=bi1 (p := "cloth") F12 fun _ _ _ _ _ _ _=>rfl;have b13:=bi1 (p := "cloth") F13 fun _ _ _ _ _ _ _=>rfl;have b14:=bi1 (p := "cloth") F14 fun _ _ _ _ _ _ _=>rfl;have b15:=bi1 (p := "cloth") F15 fun _ _ _ _ _ _ _=>rfl;have b16:=qt (p := "thing") (q := "least") F16 fun _ _ _ _ _ _ _ _=>rfl;have b17:=bi1 (p := "thing") F17 fun _ _ _ _ _ _ _=>rfl;have b18:=qt (p := "thing") (q := "hues") F18 fun _ _ _ _ _ _ _ _=>rfl;have b19:=qt (p := "row") (q := "hues") F19 fun _ _ _ _ _ _ _ _=>rfl;have b20:=bi1 (p := "rinses") F20 fun _ _ _ _ _ _ _=>rfl;have b21:=bi1 (p := "row") F21 fun _ _ _ _ _ _ _=>rfl;have b22:=qt (p := "way") (q := "onward") F22 fun _ _ _ _ _ _ _ _=>rfl;have b23:=qt (p := "way") (q := "other") F23 fun _ _ _ _ _ _ _ _=>rfl;have b24:=F24.binds (ps:=["ways", "hue", "onward"]) fun _ _ _ _ _ _ us hl=>match us,hl with|[_,_,_],_=>rfl
 have b25:=bi1 (p := "rinses") F25 fun _ _ _ _ _ _ _=>rfl;have b26:=bi1 (p := "ways") F26 fun _ _ _ _ _ _ _=>rfl;have b27:=bi1 (p := "rinses") F27 fun _ _ _ _ _ _ _=>rfl;have b28:=F28.binds (ps:=["last", "time", "hues"]) fun _ _ _ _ _ _ us hl=>match us,hl with|[_,_,_],_=>rfl
 have b29:=qt (p := "cloths") (q := "hues") F29 fun _ _ _ _ _ _ _ _=>rfl;have b30:=bi1 (p := "self") F30 fun _ _ _ _ _ _ _=>rfl;have b31:=bi1 (p := "self") F31 fun _ _ _ _ _ _ _=>rfl;have b32:=bi1 (p := "cloths") F32 fun _ _ _ _ _ _ _=>rfl;have b33:=bi1 (p := "cloths") F33 fun _ _ _ _ _ _ _=>rfl;have b34:=qt (p := "self") (q := "hue") F34 fun _ _ _ _ _ _ _ _=>rfl;have b35:=qt (p := "self") (q := "hue") F35 fun _ _ _ _ _ _ _ _=>rfl;have b36:=qt (p := "works") (q := "names") F36 fun _ _ _ _ _ _ _ _=>rfl;have b37:=qt (p := "works") (q := "names") F37 fun _ _ _ _ _ _ _ _=>rfl;have b38:=bi1 (p := "works") F38 fun _ _ _ _ _ _ _=>rfl;have b39:=qt (p := "row") (q := "names") F39 fun _ _ _ _ _ _ _ _=>rfl;have b40:=qt (p := "rows") (q := "names") F40 fun _ _ _ _ _ _ _ _=>rfl;have b41:=qt (p := "names") (q := "move") F41 fun _ _ _ _ _ _ _ _=>rfl;have b42:=qt (p := "move") (q := "many") F42 fun _ _ _ _ _ _ _ _=>rfl;have b43:=qt (p := "names") (q := "moves") F43 fun _ _ _ _ _ _ _ _=>rfl;have b44:=F44.binds (ps:=["rows", "names", "move_for"]) fun _ _ _ _ _ _ us hl=>match us,hl with|[_,_,_],_=>rfl
 have b45:=qt (p := "works") (q := "names") F45 fun _ _ _ _ _ _ _ _=>rfl;have b46:Binds K (W.fnOf "__init__" "Works.__init__" (zy wc) (qI wc) (j8 wc) (.ref T46) kV46 dc46 pm46 an46 cd46 ct46) ["self", "rinses", "cloths", "last", "time"] []:=Cs (T:=T46) rfl q46 rfl fun us hl=>match us,hl with|[_,_,_,_,_],_=>⟨_,rfl,rfl⟩
 have b47:=qt (p := "parts") (q := "names") F47 fun _ _ _ _ _ _ _ _=>rfl;have b48:=qt (p := "parts") (q := "names") F48 fun _ _ _ _ _ _ _ _=>rfl;have b49:=qt (p := "parts") (q := "names") F49 fun _ _ _ _ _ _ _ _=>rfl;have b50:=F50.binds (ps:=["one", "other", "way"]) fun _ _ _ _ _ _ us hl=>match us,hl with|[_,_,_],_=>rfl
 have b51:=F51.binds (ps:=["parts", "names", "way"]) fun _ _ _ _ _ _ us hl=>match us,hl with|[_,_,_],_=>rfl
 have b52:=F52.binds (ps:=["names", "at", "to"]) fun _ _ _ _ _ _ us hl=>match us,hl with|[_,_,_],_=>rfl
 have b53:=bi1 (p := "thing") F53 fun _ _ _ _ _ _ _=>rfl;have b54:=qt (p := "moves") (q := "many") F54 fun _ _ _ _ _ _ _ _=>rfl;have b55:=F55.binds (ps:=["works", "parts", "names"]) fun _ _ _ _ _ _ us hl=>match us,hl with|[_,_,_],_=>rfl
 have tB33:(212,#[],[((⟨58,30,58,75⟩:Pos),("by_dues.<locals>.<lambda>":Str))])∈TABS:=by rw [hTB];simp
 have tB45:(274,#[],[((⟨109,44,109,68⟩:Pos),("to_dues.<locals>.<lambda>":Str))])∈TABS:=by rw [hTB];simp
 have TK:wC K h:=by
  have hd33:=PySem.W.codeHd_of_K X hC33;have hd45:=PySem.W.codeHd_of_K X hC45;refine ⟨fun p hp=>?_,fun p hp=>?_,fun p hp q hq=>?_,fun p hp=>?_,fun p hp q hq e=>?_,fun p hp=>?_⟩<;>rw [hTB] at hp<;>(try rw [hTB] at hq)<;>simp only [List.mem_cons,List.not_mem_nil,or_false] at hp
  ·rcases hp with rfl|rfl
   ·exact TT 212 (by simp)
   ·exact TT 274 (by simp)
  ·rcases hp with rfl|rfl
   ·exact trivial
   ·exact trivial
  ·rcases hp with rfl|rfl
   ·rfl
   ·rfl
  ·rcases hp with rfl|rfl
   ·exact (hd33.tab (TT 212 (by simp))).isCodeTable
   ·exact (hd45.tab (TT 274 (by simp))).isCodeTable
  ·simp only [List.mem_cons,List.not_mem_nil,or_false] at hq;rcases hp with rfl|rfl<;>rcases hq with rfl|rfl<;>first|rfl|exact absurd e (by decide)
  ·rcases hp with rfl|rfl
   ·exact o33
   ·exact o45
 refine ⟨W.fnOf "law" "law" (zy wd) (qI wd) (j8 wd) .none kV56 dc56 pm56 an56 cd56 ct56,fun s v=> .of_eq rfl,TK,fun base _ _=>?_⟩;have Ec:=m6 l.prog w base (Nx F0 ) (W.mg_of X G a0) k0 b0;have Ae:=m6 l.prog w base (LY F1 ) (W.mg_of X G a1) k1 b1;have A5:=m6 l.prog w base (NJ F2 Ec Ad Ac Ih) (W.mg_of X G a2) k2 b2;have Ap:=m6 l.prog w base (NE F3 Ae) (W.mg_of X G a3) k3 b3;have Em:=m6 l.prog w base (NG F4 Ae Ap Ac) (W.mg_of X G a4) k4 b4;have Ex:=m6 l.prog w base (NC F5 Ae Ad Ac) (W.mg_of X G a5) k5 b5;have Ig:=m6 l.prog w base (LX F6 Ae Ap) (W.mg_of X G a6) k6 b6;have Ic:=m6 l.prog w base (NF F7 Ig Ae Ex Ap Em A5) (W.mg_of X G a7) k7 b7;have Ik:=m6 l.prog w base (NH F8 Ae Ad Ac) (W.mg_of X G a8) k8 b8;have Ey:=m6 l.prog w base (Nq F9 Ad Af Ip Ac) (W.mg_of X G a9) k9 b9;have Aj:=m6 l.prog w base (Nl F10 Ef Ev Ab) (W.mg_of X G a10) k10 b10;have Ag:=m6 l.prog w base (NB F11 ) (W.mg_of X G a11) k11 b11;have Az:=m6 l.prog w base (Nd F12 ) (W.mg_of X G a12) k12 b12;have B8:=m6 l.prog w base (Nv F13 ) (W.mg_of X G a13) k13 b13;have B3:=m6 l.prog w base (LZ F14 ) (W.mg_of X G a14) k14 b14;have D4:=m6 l.prog w base (NR F15 ) (W.mg_of X G a15) k15 b15;have Al:=m6 l.prog w base (Nh F16 Aj) (W.mg_of X G a16) k16 b16;have Eg:=m6 l.prog w base (Nj F17 Aq Ab Ad Io Au) (W.mg_of X G a17) k17 b17;have D9:=m6 l.prog w base (Ng F18 B3 Az Al Eg Aj B8 Ag D4 Ab Ad D6 Id) (W.mg_of X G a18) k18 b18;have A4:=m6 l.prog w base (Nk F19 Aj Aq Ab Ad Af) (W.mg_of X G a19) k19 b19;have Ax:=m6 l.prog w base (LV F20 A4 Aq Ab Ad Af D3) (W.mg_of X G a20) k20 b20;have As:=m6 l.prog w base (NI F21 Ah) (W.mg_of X G a21) k21 b21;have El:=m6 l.prog w base (Nm F22 ) (W.mg_of X G a22) k22 b22;have Eo:=m6 l.prog w base (Nw F23 ) (W.mg_of X G a23) k23 b23;have Av:=m6 l.prog w base (NQ F24 El Eo Eu) (W.mg_of X G a24) k24 b24;have B6:=m6 l.prog w base (Nt F25 As Av Ad Ac) (W.mg_of X G a25) k25 b25;have Ej:=m6 l.prog w base (NL F26 ) (W.mg_of X G a26) k26 b26;have Aw:=m6 l.prog w base (Nr F27 Ax B6 Ej) (W.mg_of X G a27) k27 b27;have A6:=m6 l.prog w base (LW F28 Al) (W.mg_of X G a28) k28 b28;have Ay:=m6 l.prog w base (LT F29 D9 Ag Ad A7) (W.mg_of X G a29) k29 b29;have Ai:Mt l.prog w K mg base _ Aa _ _ (y0 (jI Aa)):=⟨_,_,LM F30 Ad,⟨a30,i30,k30⟩,Ek.c,b30⟩;have A8:Mt l.prog w K mg base _ Aa _ _ (m9 (Xb Aa)):=⟨_,_,LO F31 Am,⟨a31,i31,k31⟩,Ek.c,b31⟩;have D8:=m6 l.prog w base (ND F32 Ag) (W.mg_of X G a32) k32 b32;have Ee:=m6 l.prog w base (LS F33 B3 Ag Am rfl (fun _ X2=>PySem.W.codeHd_of_K X2 hC33) tB33) (W.mg_of X G a33) k33 b33;have Ao:Mt l.prog w K mg base _ Aa _ _ (m9 (Xa Aa)):=⟨_,_,LK F34 Az,⟨a34,i34,k34⟩,Ek.c,b34⟩;have At:Mt l.prog w K mg base _ Aa _ _ (m9 (Qb Aa)):=⟨_,_,LL F35 Ee D8 Ao,⟨a35,i35,k35⟩,Ek.c,b35⟩;have B9:Fn l.prog w K mg base _ _ _ (y0 (Qd Aa)):=⟨_,_,LR F36 Aq Ab Ad Af Iw A8,W.mg_of X G a36,k36,b36⟩;have A9:Fn l.prog w K mg base _ _ _ (y0 (Xc Aa)):=⟨_,_,LU F37 B9,W.mg_of X G a37,k37,b37⟩;have Eb:Fn l.prog w K mg base _ _ _ (m9 (Xe Aa)):=⟨_,_,Na F38 Ac At Ai,W.mg_of X G a38,k38,b38⟩;have D5:=m6 l.prog w base (NN F39 Ah Eu) (W.mg_of X G a39) k39 b39;have Ar:=m6 l.prog w base (NO F40 D5) (W.mg_of X G a40) k40 b40;have D7:=m6 l.prog w base (Ny F41 ) (W.mg_of X G a41) k41 b41;have Eh:=m6 l.prog w base (Ni F42 Aq) (W.mg_of X G a42) k42 b42;have Ep:=m6 l.prog w base (NP F43 Eh D7 Ah Ad Af) (W.mg_of X G a43) k43 b43;have Ea:Fn l.prog w K mg base _ _ _ (m9 (Xj (LQ.mk l.prog w K mg base))):=⟨_,_,Nz F44 D7 Ar Af,W.mg_of X G a44,k44,b44⟩;have Ak:Fn l.prog w K mg base _ _ _ (m9 (xY (LQ.mk l.prog w K mg base) Aa)):=⟨_,_,NM F45 A9 Eb Ea rfl (fun _ X2=>PySem.W.codeHd_of_K X2 hC45) tB45,W.mg_of X G a45,k45,b45⟩;have E8:Mkr l.prog w K mg base _ Aa _ (spI Aa (Qc Aa)):=⟨_,_,LN F46 Ay A6 Aw Ag B7 Af Ai,⟨J2,a46,i46,Im⟩,b46⟩;have Ei:=m6 l.prog w base (Nc F47 Ey B7) (W.mg_of X G a47) k47 b47;have Ez:=m6 l.prog w base (No F48 Ei Iz) (W.mg_of X G a48) k48 b48;have Il:=m6 l.prog w base (Nb F49 Ei) (W.mg_of X G a49) k49 b49;have Ia:=m6 l.prog w base (LP F50 ) (W.mg_of X G a50) k50 b50;have B4:=m6 l.prog w base (Nf F51 Ia B7 Ad Ac) (W.mg_of X G a51) k51 b51;have Ed:=m6 l.prog w base (Nn F52 Af) (W.mg_of X G a52) k52 b52;have Ie:=m6 l.prog w base (NS F53 Ef Ev Ab) (W.mg_of X G a53) k53 b53;have B5:=m6 l.prog w base (NA F54 Ie Aq Ab Ad Af D6) (W.mg_of X G a54) k54 b54;have J0:Fn l.prog w K mg base _ _ _ (y0 (Qg (LQ.mk l.prog w K mg base) Aa)):=⟨_,_,Nu F55 Il Ed Ez B5 Ak Ep Ad Af,W.mg_of X G a55,k55,b55⟩;exact Np F56 B4 J0 Ic Ik A5 Ak Af Ac Am E5 E8
theorem walk {l:PySem.W.OpenLaw}{q:Program}{loose:List Str}{XP:(Str->Option Value)->Heap->Prop}{YP:World->Heap->Prop}{d:DefRec}{K:Params->Fg}(hn:l.most=some 63)(hdf:d.params.defaults=[])(hY:∀ (w:World) (h:Heap),YP w h->(K w.params).In h)(F:∀ (w:World) (mg:Str->Option Value) (fa:Addr) (h:Heap),YP w h->(K w.params).In h->h.Ns mainGlobals mg->mg d.name=some (.ref fa) -> ∃ fd:FuncData,(∀ (s:Shared) (u:Value),BindsTo s fd ⟨[u],[]⟩ [("script",u)])/\wC (K w.params) h/\∀ base:Heap,(K w.params).In base->base.Ns mainGlobals mg->FnOk l.prog w (K w.params) mg base w6 11 fa fd ["script"] (XD (K w.params))):PySem.W.WalkO q loose XP YP l.row.toRowW d [] (fun f vs=>PySem.call f vs) :=
 L2.SJ (n:=63) (k:=11) (x := "script") (CX:=fun _=>w6) (sp:=fun w=>XD (K w.params)) hn (by decide) hdf ⟨rfl,by decide,by decide⟩ hY F (fun _ _ a ns hl _ hS=>⟨a,ns,rfl,hS,hl,fun _=>rfl⟩) fun _ _ _ _ _ z=>z
end Lw
open PySem PySem.W PyProof.Rows
set_option maxRecDepth 100000 in
set_option maxHeartbeats 0 in
theorem PySem.Challenge.cw_rinsework_k22_whole_moves_to_due_order_holds : PySem.Challenge.rw_rinsework_k22_whole_moves_to_due_order.Holds := by
  w_on; o_law; k_head; (case hw => w_witness2)
  k_fill
  refine Lw.walk (l := PySem.Challenge.rw_rinsework_k22_whole_moves_to_due_order) rfl rfl (fun w h Y => PySem.W.km_in_of Y) ?F
  case F =>
    intro w mg fa h Y KX G hmg
    apply Lw.all_mk KX (PySem.W.km_tabs_of Y) rfl G hmg
    iterate 267 k_is
    iterate 4 kernel_rfl
