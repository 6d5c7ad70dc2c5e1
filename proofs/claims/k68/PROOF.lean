import PyProof.Rows.All
import Wide.All
import OpenK.AllK
import Wide.FinOn
import Lean
import PyProof.EqAt
import PyProof.EqKinds
import PyProof.NeKinds
import PyProof.TupleCall
import PySem.Challenge.RW_rinsework_k68_whole_trays_to_due_order
set_option Elab.async false
set_option linter.all false
set_option maxRecDepth 100000
namespace PySem.W.Fast
theorem tw6289679901473764064:True:=trivial
theorem tw3907614626020426756:True:=trivial
theorem tw13604875960403528550:True:=trivial
theorem tw14444405895605442568:True:=trivial
theorem tw13403917138446005930:True:=trivial
theorem tw212246129704694188:True:=trivial
theorem tw10060006604703487310:True:=trivial
theorem tw6435299436014037487:True:=trivial
theorem tw9677551903300985840:True:=trivial
theorem tw1380950066020563089:True:=trivial
theorem tw12879374621314387314:True:=trivial
theorem tw5072167589371427378:True:=trivial
theorem tw5146511876791979219:True:=trivial
theorem tw3694148550995537720:True:=trivial
theorem tw14032277213495208698:True:=trivial
theorem tw956702073412055419:True:=trivial
theorem tw11775403364984296476:True:=trivial
theorem tw15202366874538917149:True:=trivial
theorem tw13994075474891526877:True:=trivial
theorem tw18015332488534290273:True:=trivial
theorem tw18398391062785963456:True:=trivial
theorem tw7550784914031934566:True:=trivial
theorem tw2814035975243404066:True:=trivial
theorem tw1802003903279051709:True:=trivial
theorem tw16918255024130347429:True:=trivial
theorem tw11911959429827068863:True:=trivial
theorem tw513914637690652745:True:=trivial
theorem tw992869968118661662:True:=trivial
theorem tw3004643273893129973:True:=trivial
theorem tw15823350632997846646:True:=trivial
theorem tw6581547420326133853:True:=trivial
theorem tw15918913573425550328:True:=trivial
theorem tw9493829665261390570:True:=trivial
theorem tw6742054545594032603:True:=trivial
theorem tw8013956772913988136:True:=trivial
theorem tw5731947760432712320:True:=trivial
theorem tw2192852282987615505:True:=trivial
theorem tw5616982217959135285:True:=trivial
theorem tw16179352553066831493:True:=trivial
theorem tw9701039007478670478:True:=trivial
theorem tw12626433512947236402:True:=trivial
theorem tw2553110239320534606:True:=trivial
theorem tw12584363167695104388:True:=trivial
theorem tw8125599073232633382:True:=trivial
theorem tw11847703572097231069:True:=trivial
theorem tw1348681719897183586:True:=trivial
theorem tw10110994729435487355:True:=trivial
theorem tw9759529231249851685:True:=trivial
theorem tw15872357968381267072:True:=trivial
theorem tw10364468219715182202:True:=trivial
theorem tw8418455078913740993:True:=trivial
theorem tw17735554443058531119:True:=trivial
theorem tw8546096937423223735:True:=trivial
theorem tw6670446511073220502:True:=trivial
theorem tw846090505780332091:True:=trivial
theorem tw15656202695916285485:True:=trivial
theorem tw2137614900297993922:True:=trivial
theorem tw8695047484204288979:True:=trivial
theorem tw4600769965506771892:True:=trivial
theorem tw5892379319593561555:True:=trivial
theorem tw9466405643655525022:True:=trivial
theorem tw356002316662643830:True:=trivial
theorem tw17272692405348944518:True:=trivial
theorem tw5245231748954559639:True:=trivial
theorem tw9594355071852037338:True:=trivial
theorem tw3596226615218059427:True:=trivial
theorem tw3755821816269581537:True:=trivial
theorem tw13154456181331258776:True:=trivial
theorem tw7009911480692349400:True:=trivial
theorem tw13629672258339562066:True:=trivial
theorem tw16746581625306797666:True:=trivial
theorem tw10368442298973796196:True:=trivial
theorem tw4668675266172957502:True:=trivial
theorem tw6961630515330690586:True:=trivial
theorem tw6525258306679668794:True:=trivial
theorem tw1736401337727492269:True:=trivial
theorem tw12638190159002258199:True:=trivial
theorem tw15860189865405614191:True:=trivial
theorem tw681973263598923500:True:=trivial
theorem tw1009374169763651611:True:=trivial
theorem tw5332794773095443058:True:=trivial
theorem tw8862575190726212520:True:=trivial
theorem tw16660299635812058940:True:=trivial
theorem tw4413039883590406103:True:=trivial
theorem tw13500660949058187313:True:=trivial
theorem tw15850513763307659352:True:=trivial
theorem tw5929741946052491966:True:=trivial
theorem tw9890485882896058743:True:=trivial
theorem tw754424070413258046:True:=trivial
theorem tw4351919140140630096:True:=trivial
theorem tw16354045498390984150:True:=trivial
theorem tw3820374737774219673:True:=trivial
theorem tw2400137001986880163:True:=trivial
theorem tw13766828124133994129:True:=trivial
theorem tw18407673212040757463:True:=trivial
theorem tw1173703980909524207:True:=trivial
theorem tw16153867383732402887:True:=trivial
theorem tw10980865876138970674:True:=trivial
theorem tw9515128331634714127:True:=trivial
theorem tw9075121704661157014:True:=trivial
theorem tw10952750555497104893:True:=trivial
theorem tw10478826224939742620:True:=trivial
theorem tw11901965519014934127:True:=trivial
theorem tw5366062007753784673:True:=trivial
theorem tw8248231029599055580:True:=trivial
theorem tw5426835811567023717:True:=trivial
theorem tw4218861284733164465:True:=trivial
theorem tw17028271237082077189:True:=trivial
theorem tw13598568700725814038:True:=trivial
theorem tw13986883062576861218:True:=trivial
theorem tw4642427845174878658:True:=trivial
theorem tw6543337240446294172:True:=trivial
end PySem.W.Fast
abbrev yZ:=@List.length_map
abbrev yY:=@List.getElem?_eq_getElem
abbrev yX:=@PySem.wpAny_bind
abbrev yW:=@List.size_toArray
abbrev yV:=@PySem.Heap.get?_push_of_some
abbrev yU:=@Nat.le_refl
abbrev yT:=@List.mem_cons_self
abbrev yS:=@List.mem_cons_of_mem
abbrev yR:=@Bool.false_ne_true
abbrev yQ:=@List.length_append
abbrev yP:=@List.getElem?_map
abbrev yO:=@PySem.Heap.lt_size
abbrev yN:=@List.getD_eq_getElem?_getD
abbrev yM:=@List.mem_cons
abbrev yL:=@List.getElem?_eq_some_iff
abbrev yK:=@List.mem_singleton
abbrev yJ:=@Option.map_eq_some_iff
abbrev yI:=@List.map_cons
abbrev yH:=@Nat.ne_of_lt
abbrev yG:=@List.length_cons
abbrev yF:=@List.mem_map
abbrev yE:=@Option.bind_some
abbrev yD:=@PySem.Heap.get?_push_size
abbrev yC:=@PySem.wpAny_pure
abbrev yB:=@decide_eq_false
abbrev yA:=@List.mem_of_getElem?
abbrev yz:=@Nat.lt_of_lt_of_le
abbrev yy:=@decide_eq_true
abbrev yx:=@List.map_map
abbrev yw:=@List.map_append
abbrev yv:=@List.getElem?_set
abbrev yu:=@List.nodup_cons
abbrev yt:=@List.getElem_mem
abbrev yr:=@List.mem_append_right
abbrev yq:=@List.getElem?_set_ne
abbrev yp:=@List.flatten_cons
abbrev yo:=@List.mem_append
abbrev yn:=@List.append_nil
abbrev ym:=@List.length_set
abbrev yk:=@Int.emod_lt_of_pos
abbrev yj:=@Int.eq_ofNat_of_zero_le
abbrev yi:=@List.mem_range
abbrev yh:=@Nat.zero_le
abbrev yg:=@Nat.le_trans
abbrev yf:=@Bool.and_eq_true
abbrev ye:=@List.not_mem_nil
abbrev yd:=@Int.emod_nonneg
abbrev yc:=@List.drop_eq_getElem_cons
abbrev yb:=@PySem.Heap.get?_update_other
abbrev ya:=@List.getElem_toArray
abbrev uZ:=@List.append_assoc
abbrev uY:=@List.getElem?_append_left
abbrev uX:=@List.mem_append_left
abbrev uW:=@List.getElem?_append_right
abbrev uV:=@of_decide_eq_true
abbrev uU:=@List.getElem?_set_self
abbrev uT:=@Nat.lt_irrefl
abbrev uS:=@Nat.le_of_lt
abbrev uR:=@List.getElem?_eq_none
abbrev uQ:=@Bool.false_eq_true
abbrev uP:=@Option.bind_eq_some_iff
abbrev uO:=@List.length_take
abbrev uN:=@List.lookup_cons
abbrev uM:=@List.all_eq_true
abbrev uL:=@List.length_range
abbrev uK:=@List.getElem_of_mem
abbrev uJ:=@List.mem_filter
abbrev uI:=@PySem.Heap.size_push
abbrev uH:=@Int.toNat_natCast
abbrev uG:=@List.nodup_append
abbrev uF:=@List.find?_cons
abbrev uE:=@Option.map_some
abbrev uD:=@List.replicate_succ
abbrev uC:=@Int.le_refl
abbrev uB:=@List.exists_cons_of_ne_nil
abbrev uA:=@Nat.lt_succ_self
abbrev uz:=@List.pairwise_cons
abbrev uy:=@Int.le_trans
abbrev ux:=@Int.mul_le_mul_of_nonneg_right
abbrev uw:=@List.length_eq_zero_iff
abbrev uu:=@List.length_drop
abbrev ut:=@List.drop_length
abbrev ur:=@List.not_lt
abbrev uq:=@List.of_mem_zip
abbrev uo:=@PySem.Heap.get?_update_self
abbrev um:=@List.take_append_drop
abbrev uk:=@PySem.Heap.get?_none_of_le
abbrev uj:=@Array.getElem?_eq_getElem
abbrev ui:=@Nat.le_succ
abbrev ug:=@List.nodup_nil
abbrev uf:=@Nat.ne_of_gt
abbrev ue:=@List.filter_cons
abbrev ud:=@List.getElem_map
abbrev uc:=@List.perm_middle
abbrev ub:=@List.mem_flatten
abbrev ua:=@Array.length_toList
abbrev tZ:=@List.getElem?_replicate
abbrev tY:=@Nat.not_lt_zero
abbrev tX:=@Nat.lt_succ_of_lt
abbrev tW:=@List.flatMap_cons
abbrev tV:=@List.length_replicate
abbrev tU:=@Array.getElem?_toList
abbrev tT:=@Option.getD_none
abbrev tR:=@Array.toList_inj
namespace L2
abbrev Fg:=PySem.W.Frag
end L2
namespace L2
open PySem PySem.Spec PyProof.Rows
variable{us:List Value}{C a b dx it:Addr}{u:Value}{P:Program}{w:World}{base h:Heap}{g':Array GenState}{j n t':Nat}{d':Drawn}{ch fp:List Addr}{m qual x:Str}{c e tg:Expr}{N ps:List Str}{A:Around}{E Q:Value->Shared->Prop}{s s':Shared}{α:Type}{pins:List (Addr×Obj)}{pos:Pos}{op op':CmpOp}{K:Fg}{f:Value->Value->Sem Value}{es:List Expr}{body:List Stmt}{lo:Int}{mA mg:Str->Option Value}{kw:List (Str×Value)}{fd:FuncData}{outer:List Env}{scope:Scope}
abbrev z9:=Sum Int Str
def vt:z9->Value->Bool
 | .inl k,v=>Value.isInt k v
 | .inr x,v=>Value.isStrOf x v
def keyH (w:World):z9->Int
 | .inl k=>hashInt k
 | .inr x=>hashStr w x
theorem jn:∀{k:z9}{v:Value},vt k v=true->(∃ i t,k=Sum.inl i/\v=Value.int i t)∨(∃ x t,k=Sum.inr x/\v=Value.str x t)
 | .inl i,v,h=>by
  obtain ⟨t,e⟩:=Value.isInt_shape (k:=i) (v:=v) h;exact .inl ⟨i,t,rfl,e⟩
 | .inr x,v,h=>by
  obtain ⟨t,e⟩:=Value.isStrOf_shape (x:=x) (v:=v) h;exact .inr ⟨x,t,rfl,e⟩
theorem Lu (i:Int)(t:Tok):vt (.inl i) (.int i t)=true:=by simp [vt,Value.isInt]
theorem KB (x:Str)(t:Tok):vt (.inr x) (.str x t)=true:=by simp [vt,Value.isStrOf]
theorem Lv (a b:Int):decide ((Sum.inl a:z9)=Sum.inl b)=(a==b):=by
 by_cases e:a=b
 ·subst e;simp
 ·have h:¬ (Sum.inl a:z9)=Sum.inl b:=λq=>e (Sum.inl.inj q);rw [yB h];exact (beq_eq_false_iff_ne.mpr e).symm
theorem Lz (a b:Str):decide ((Sum.inr a:z9)=Sum.inr b)=decide (a=b):=by
 by_cases e:a=b
 ·subst e;simp
 ·have h:¬ (Sum.inr a:z9)=Sum.inr b:=λq=>e (Sum.inr.inj q);rw [yB h,yB e]
theorem Lx (a:Int)(b:Str):decide ((Sum.inl a:z9)=Sum.inr b)=false:=yB (λq=>nomatch q)
theorem Ly (a:Str)(b:Int):decide ((Sum.inr a:z9)=Sum.inl b)=false:=yB (λq=>nomatch q)
def qm (prog:Program)(w:World):PySem.KeyKind prog w z9 where
 is:=vt
 hash:=keyH w
 inj:=λv a b ha hb=>by
  rcases jn ha with ⟨i,t,rfl,rfl⟩|⟨x,t,rfl,rfl⟩
  ·rcases jn hb with ⟨j,u,rfl,e⟩|⟨y,u,rfl,e⟩
   ·injection e with e1 _;rw [e1]
   ·exact nomatch e
  ·rcases jn hb with ⟨j,u,rfl,e⟩|⟨y,u,rfl,e⟩
   ·exact nomatch e
   ·injection e with e1 _;rw [e1]
 byValue:=λk v h=>by
  rcases jn h with ⟨i,t,rfl,rfl⟩|⟨x,t,rfl,rfl⟩<;>rfl
 pyHash:=λhv h=>by
  rcases jn hv with ⟨i,t,rfl,rfl⟩|⟨x,t,rfl,rfl⟩
  ·exact wpAny_pyHash_int h
  ·exact wpAny_pyHash_str h
 eqBool:=λhu hv h=>by
  rcases jn hu with ⟨i,t,rfl,rfl⟩|⟨x,t,rfl,rfl⟩
  ·rcases jn hv with ⟨j,u,rfl,rfl⟩|⟨y,u,rfl,rfl⟩
   ·rw [Lv] at h;exact wpAny_eqBool_int h
   ·rw [Lx] at h;exact SeqAt.EqAt.int_str i t y u _ _ _ _ h
  ·rcases jn hv with ⟨j,u,rfl,rfl⟩|⟨y,u,rfl,rfl⟩
   ·rw [Ly] at h;exact SeqAt.EqAt.str_int x t j u _ _ _ _ h
   ·rw [Lz] at h;exact wpAny_eqBool_str h
 «strs»:=λk x t v h=>by
  rcases jn h with ⟨i,u,rfl,e⟩|⟨y,u,rfl,e⟩
  ·exact nomatch e
  ·injection e with e1 _;subst e1;cases v<;>rfl
theorem Nh (prog:Program)(w:World)(i:Int)(t:Tok):(qm prog w).is (.inl i) (.int i t)=true:=Lu i t
theorem Ve (prog:Program)(w:World)(x:Str)(t:Tok):(qm prog w).is (.inr x) (.str x t)=true:=KB x t
inductive V where
 |non|bl (b:Bool)|int (i:Int)|str (x:Str)|byt (b:Array UInt8)|flt (b:UInt64)|ref (a:Addr)|ty (n:String)
 deriving DecidableEq
variable{vs xs:List V}{v y:V}
def RelV:V->Value->Prop
 | .non,u=>u=Value.none
 | .bl b,u=>u=Value.bool b
 | .int i,u=>∃ t,u=Value.int i t
 | .str x,u=>∃ t,u=Value.str x t
 | .byt b,u=>∃ t,u=Value.bytes b t
 | .flt b,u=>∃ t,u=Value.float b t
 | .ref a,u=>u=Value.ref a
 | .ty n,u=>u=Value.type n
abbrev Vals:List V->List Value->Prop:=Paired RelV
theorem Vals.length (r:Vals xs us):xs.length=us.length:=Paired.length r
theorem Vals.get:∀{xs:List V}{us:List Value}{i:Nat}{x:V},Vals xs us->xs[i]?=some x->∃ u,us[i]?=some u/\RelV x u
 |_,_,_,_,.nil,e=>by simp at e
 |_,_,0,_,.cons r _,e=>by simp at e;subst e;exact ⟨_,rfl,r⟩
 |_,_,i+1,x,.cons _ t,e=>by
  obtain ⟨u,h1,h2⟩:=Vals.get (i:=i) (x:=x) t (by simpa using e);exact ⟨u,by simpa using h1,h2⟩
theorem Vals.set {x:V}{u:Value}(r:RelV x u):∀{xs:List V}{us:List Value}(i:Nat),Vals xs us->Vals (xs.set i x) (us.set i u)
 |_,_,_,.nil=> .nil
 |_,_,0,.cons _ t=> .cons r t
 |_,_,i+1,.cons q t=> .cons q (Vals.set r i t)
theorem Vals.append:∀{xs ys:List V}{us ws:List Value},Vals xs us->Vals ys ws->Vals (xs++ys) (us++ws)
 |_,_,_,_,.nil,s=>s
 |_,_,_,_,.cons r t,s=> .cons r (Vals.append t s)
theorem Vals.take:∀{xs:List V}{us:List Value}(n:Nat),Vals xs us->Vals (xs.take n) (us.take n)
 |_,_,0,_=> .nil
 |_,_,_+1,.nil=> .nil
 |_,_,n+1,.cons r t=> .cons r (Vals.take n t)
theorem Vals.drop:∀{xs:List V}{us:List Value}(n:Nat),Vals xs us->Vals (xs.drop n) (us.drop n)
 |_,_,0,r=>r
 |_,_,_+1,.nil=> .nil
 |_,_,n+1,.cons _ t=>Vals.drop n t
def RelO:Option V->Option Value->Prop
 |some v,some u=>RelV v u
 |none,none=>True
 |_,_=>False
def KV {κ:Type}:List (κ×V)->List (κ×Value)->Prop:=Paired λ(p:κ×V) (q:κ×Value)=>p.1=q.1/\RelV p.2 q.2
def kV:z9->V
 | .inl i=> .int i
 | .inr x=> .str x
def TABS:List (Addr×Array Value×List (Pos×Str)):=[(89,#[],[((⟨35,30,35,75⟩:Pos),("by_dues.<locals>.<lambda>":Str))])]
inductive HO where
 /-- a list -/
 |lst (xs:List V)
 /-- a tuple (never changes) -/
 |tup (xs:List V)
 /-- a dict whose keys are ints and texts;one whose keys are tuples of ints and texts (the empty one is both) -/
 |dK (kvs:List (z9×V))|dT (kvs:List (List z9×V))
 /-- a set of ints: its members,its size -/
 |set (S:Int->Bool) (n:Nat)
 /-- an instance of the class at C,its dict at dx,its attributes -/
 |ins (C dx:Addr) (fs:List (Str×V))
 /-- the dict of the instance at x -/
 |own (x:Addr)
 /-- the dict of an exception -/
 |xd (fs:List (Str×V))
 /-- a bound method,f of x -/
 |met (f x:Addr)
 /-- a range object lo,lo+1,.. below hi -/
 |rng (lo hi:Int)
 /-- a thing that is known to the object (the script;a dict while a loop walks it): read,never written while it is so -/
 |frz (o:Obj) (u:HO)
 /-- a code object's table -/
 |tbl (ps:Array Value) (q:List (Pos×Str))
 /-- any other thing,by what is true of its one object (a def of one's own: va a S n:=HO.ext λh=> ..) -/
 |ext (φ:Heap->Prop)
variable{o:HO}
abbrev Hp:=Addr->Option HO
variable{H:Hp}{R:V->V->Hp->Prop}
def j4 (H:Hp)(a:Addr)(o:HO):Hp:=λb=>if b=a then some o else H b
theorem y9 :j4 H a o a=some o:=by unfold j4;rw [if_pos rfl]
theorem z5 (h:b≠a):j4 H a o b=H b:=by unfold j4;rw [if_neg h]
theorem ne_of {u:HO}(h:H a=some o)(h':H b=some u)(d:o≠u):a≠b:=by intro e;subst e;rw [h] at h';exact d (Option.some.inj h')
theorem u6 (h:H a=some o)(h':H b=none):a≠b:=by intro e;subst e;rw [h] at h';cases h'
section
variable (P:Program)(w:World)
def ObjOk (H:Hp)(h:Heap)(a:Addr):HO->Prop
 | .lst xs=>xs.length<=sizeLine/\∃ (its:List Value) (n:Nat),Vals xs its/\h.get? a=some { cls:= .type "list",data:= .seq its.toArray n }
 | .tup xs=>xs.length<=sizeLine/\∃ its:List Value,Vals xs its/\IsTup h a its.toArray
 | .dK kvs=>kvs.length<=sizeLine/\(a==sysModules)=false/\∃ vs,KV kvs vs/\h.DictOf (qm P w) a vs
 | .dT kvs=>kvs.length<=sizeLine/\(a==sysModules)=false/\∃ xs:List (List z9×Addr×Value),
   Paired (λ(p:List z9×V) (q:List z9×Addr×Value)=>p.1=q.1/\H q.2.1=some (.tup (p.1.map kV))/\RelV p.2 q.2.2) kvs xs /\
   ∃ o es ep,h.get? a=some o/\o.ExactDict/\o.data = .dict es ep/\es.toList=xs.map (entryOfKey (tupleKind (qm P w)))/\(xs.map (·.1)).Nodup
 | .set S n=>h.SetOf (intKind P w) a S n
 | .ins C dx fs=>H dx=some (.own a)/\fs.length<=1000/\dx≠a/\h.get? a=some (PySem.W.instObj C dx) /\
   ∃ mA,h.Ns1 dx mA/\(∀ f,RelO (fs.lookup f) (mA f))/\PySem.Within mA (fs.map (·.1))
 | .own _=>∃ o,h.get? a=some o
 | .xd fs=>∃ mA,h.Ns1 a mA/\∀ f,RelO (fs.lookup f) (mA f)
 | .rng lo hi=>∃ t u v,h.get? a=some { cls:= .type "range",data:= .fields #[.int lo t,.int hi u,.int 1 v] }
 | .frz o u=>h.get? a=some o/\ObjOk H h a u
 | .tbl ps q=>∃ more:Array Value,h.get? a=some { cls:= .none,data:= .fields (ps++more) }/\TriplesOk (ps++more).toList /\
   ∀ p∈q,codeAmong p.1 (ps++more).toList=none∨∃ c o vs t,codeAmong p.1 (ps++more).toList=some (.ref c)/\H c=some (.frz o (.own a))/\o.data = .fields vs/\vs[1]?=some (.str p.2 t)
 | .met f x=>h.get? a=some (PySem.W.methodObj (.ref f) (.ref x))
 | .ext φ=>φ h/\(∃ o,h.get? a=some o)/\∀ h1 h2:Heap,φ h1->(∀ o,h1.get? a=some o->h2.get? a=some o)->φ h2
def HOk (H:Hp)(h:Heap):Prop:=∀ a o,H a=some o->ObjOk P w H h a o
end
section
variable {P:Program}{w:World}{H H':Hp}{h h':Heap}{a:Addr}{o:HO}
theorem ObjOk.lt (x:ObjOk P w H h a o):a<h.objs.size:=by
 cases o with
 |lst xs=>obtain ⟨_,_,_,_,e⟩:=x;exact yO e
 |tup xs=>obtain ⟨_,_,_,p⟩:=x;exact p.lt
 |dK kvs=>obtain ⟨_,_,_,_,o,_,_,e,_⟩:=x;exact yO e
 |dT kvs=>obtain ⟨_,_,_,_,o,_,_,e,_⟩:=x;exact yO e
 |set S n=>obtain ⟨o,_,_,_,e,_⟩:=x;exact yO e
 |ins C dx fs=>obtain ⟨_,_,_,e,_⟩:=x;exact yO e
 |own y=>obtain ⟨_,e⟩:=x;exact yO e
 |xd fs=>obtain ⟨_,⟨_,_,_,e,_⟩,_⟩:=x;exact yO e
 |rng lo hi=>obtain ⟨_,_,_,e⟩:=x;exact yO e
 |frz ob u=>obtain ⟨e,_⟩:=x;exact yO e
 |tbl ps q=>obtain ⟨_,e,_⟩:=x;exact yO e
 |met f y=>exact yO (show h.get? a=some _ from x)
 |ext φ=>obtain ⟨_,⟨_,e⟩,_⟩:=x;exact yO e
theorem Paired.mapP {α β:Type}{F G:α->β->Prop}:∀{l₁:List α}{l₂:List β},Paired F l₁ l₂->(∀ a b,F a b->G a b)->Paired G l₁ l₂
 |_,_,.nil,_=> .nil
 |_,_,.cons r t,f=> .cons (f _ _ r) (Paired.mapP t f)
theorem ObjOk.stay (x:ObjOk P w H h a o)(k:∀ b u,(b=a∨H b=some (.own a))->h.get? b=some u->h'.get? b=some u)(ho:∀ b,H b=some (.own a)->H' b=some (.own a))(ht:∀ b xs,H b=some (.tup xs)->H' b=some (.tup xs))(hz:∀ b o u,H b=some (.frz o u)->H' b=some (.frz o u)):ObjOk P w H' h' a o:=by
 induction o with
 |lst xs=>obtain ⟨z,its,n,r,e⟩:=x;exact ⟨z,its,n,r,k _ _ (.inl rfl) e⟩
 |tup xs=>obtain ⟨z,its,r,ob,e,c⟩:=x;exact ⟨z,its,r,ob,k _ _ (.inl rfl) e,c⟩
 |dK kvs=>obtain ⟨z,y,vs,r,ob,es,ep,e,c⟩:=x;exact ⟨z,y,vs,r,ob,es,ep,k _ _ (.inl rfl) e,c⟩
 |dT kvs=>obtain ⟨z,y,xs,r,ob,es,ep,e,c⟩:=x;exact ⟨z,y,xs,Paired.mapP r λp q z=>⟨z.1,ht _ _ z.2.1,z.2.2⟩,ob,es,ep,k _ _ (.inl rfl) e,c⟩
 |set S n=>obtain ⟨ob,es,ep,t,e,c⟩:=x;exact ⟨ob,es,ep,t,k _ _ (.inl rfl) e,c⟩
 |ins C dx fs=>obtain ⟨d,z,ne,e,mA,⟨od,es,ep,e2,c⟩,r⟩:=x;exact ⟨ho _ d,z,ne,k _ _ (.inl rfl) e,mA,⟨od,es,ep,k _ _ (.inr d) e2,c⟩,r⟩
 |own y=>obtain ⟨ob,e⟩:=x;exact ⟨ob,k _ _ (.inl rfl) e⟩
 |xd fs=>obtain ⟨mA,⟨od,es,ep,e,c⟩,r⟩:=x;exact ⟨mA,⟨od,es,ep,k _ _ (.inl rfl) e,c⟩,r⟩
 |rng lo hi=>obtain ⟨t,u,v,e⟩:=x;exact ⟨t,u,v,k _ _ (.inl rfl) e⟩
 |frz ob u ih=>obtain ⟨e,q⟩:=x;exact ⟨k _ _ (.inl rfl) e,ih q⟩
 |tbl ps q =>
  obtain ⟨more,e,t,r⟩:=x;refine ⟨more,k a _ (.inl rfl) e,t,λp hp=>?_⟩;rcases r p hp with z|⟨c,o,vs,t,z,oc,e2⟩
  ·exact .inl z
  ·exact .inr ⟨c,o,vs,t,z,hz c o _ oc,e2⟩
 |met f y=>have e:h.get? a=some (PySem.W.methodObj (.ref f) (.ref y)):=x;show h'.get? a=some (PySem.W.methodObj (.ref f) (.ref y));exact k a _ (.inl rfl) e
 |ext φ=>obtain ⟨p,⟨o,e⟩,st⟩:=x;exact ⟨st _ _ p λo q=>k _ _ (.inl rfl) q,⟨o,k _ _ (.inl rfl) e⟩,st⟩
theorem HOk.lt (x:HOk P w H h)(e:H a=some o):a<h.objs.size:=(x a o e).lt
theorem HOk.fresh (x:HOk P w H h)(e:h.objs.size<=a):H a=none:=by
 cases q:H a with
 |none=>rfl
 |some u=>exact absurd (yz (x.lt q) e) (uT _)
theorem HOk.kept (x:HOk P w H h)(k:∀ b u,h.get? b=some u->h'.get? b=some u):HOk P w H h':=λa o e =>
 (x a o e).stay (λb u _ q=>k b u q) (λ_ q=>q) (λ_ _ q=>q) λ_ _ _ q=>q
theorem HOk.laid (x:HOk P w H h)(k:∀ b u,h.get? b=some u->h'.get? b=some u)(hp:h.objs.size<=a)(new:ObjOk P w (j4 H a o) h' a o):HOk P w (j4 H a o) h':=λb u e=>by
 have hn:=x.fresh hp;by_cases hb:b=a
 ·subst hb;rw [y9] at e;cases e;exact new
 ·rw [z5 hb] at e;exact (x b u e).stay (λc v _ q=>k c v q) (λc q=>by rw [z5 (u6 q hn)];exact q) (λc xs q=>by rw [z5 (u6 q hn)];exact q) λc _ _ q=>by rw [z5 (u6 q hn)];exact q
end
def Rd (H:Hp)(a:Addr)(u:HO):Prop:=H a=some u∨∃ o,H a=some (.frz o u)
theorem Rd.ok {u:HO}(r:Rd H a u)(x:HOk P w H h):ObjOk P w H h a u:=by
 rcases r with r|⟨o,r⟩
 ·exact x a u r
 ·obtain ⟨_,q⟩:=x a _ r;exact q
def Mut:Option HO->Prop
 |some (.lst _)=>True
 |some (.dK _)=>True
 |some (.dT _)=>True
 |some (.set _ _)=>True
 |some (.ins _ _ _)=>True
 |some (.ext _)=>True
 |_=>False
section
variable {P:Program}{w:World}{H:Hp}{h h':Heap}{x e:Addr}{o':HO}
theorem HOk.write (ok:HOk P w H h)(mu:Mut (H x))(he:e=x∨H e=some (.own x))(k:∀ b u,b≠e->h.get? b=some u->h'.get? b=some u)(heo:∃ u,h'.get? e=some u)(new:ObjOk P w (j4 H x o') h' x o'):HOk P w (j4 H x o') h':=λb u q=>by
 have nown:∀ c y,H c=some (.own y)->c≠x:=λc y r z=>by subst z;rw [r] at mu;exact mu
 have ntup:∀ c xs,H c=some (.tup xs)->c≠x:=λc xs r z=>by subst z;rw [r] at mu;exact mu
 have nfrz:∀ c ob xs,H c=some (.frz ob xs)->c≠x:=λc ob xs r z=>by subst z;rw [r] at mu;exact mu
 by_cases hb:b=x
 ·subst hb;rw [y9] at q;cases q;exact new
 ·rw [z5 hb] at q;by_cases hbe:b=e
  ·have q':H b=some (.own x):=by
    rcases he with z|z
    ·exact absurd (hbe.trans z) hb
    ·rw [hbe];exact z
   rw [q] at q';cases q';obtain ⟨v,hv⟩:=heo;exact ⟨v,by rw [hbe];exact hv⟩
  ·refine (ok b u q).stay (λc v hc r=>k c v ?_ r) (λc r=>by rw [z5 (nown c b r)];exact r) (λc xs r=>by rw [z5 (ntup c xs r)];exact r) λc ob xs r=>by rw [z5 (nfrz c ob xs r)];exact r
   rcases hc with rfl|hc
   ·exact hbe
   ·rintro rfl;rcases he with z|z
    ·exact nown c b hc z
    ·rw [hc] at z;cases z;exact hb rfl
end
structure Un (fs ex:List Addr)(H H':Hp)(h h':Heap):Prop where
 keep:∀ b o,h.get? b=some o->H b=none->b∉fs->b∉ex->h'.get? b=some o
 slot:∀ b o,h.get? b=some o->H b=none->b∈fs->b∉ex->∃ sl,h'.get? b=some { o with slots:=sl }
 free:∀ b o,h.get? b=some o->H b=none->b∉ex->H' b=none
 there:∀ b o,h.get? b=some o->b∉ex->∃ o',h'.get? b=some o'
 tups:∀ b xs,H b=some (.tup xs)->H' b=some (.tup xs)
 frzs:∀ b o u,H b=some (.frz o u)->H' b=some (.frz o u)
 tbls:∀ b ps q,H b=some (.tbl ps q)->H' b=some (.tbl ps q)
section
variable {fs fs' ex ex':List Addr}{H H1 H2:Hp}{h h1 h2 h':Heap}{a x e:Addr}{o:HO}
theorem Un.any (u:Un fs ex H H1 h h1){ob:Obj}(q:h.get? b=some ob)(n:H b=none)(hx:b∉ex):∃ sl,h1.get? b=some { ob with slots:=sl }:=by
 by_cases hb:b∈fs
 ·exact u.slot b ob q n hb hx
 ·exact ⟨ob.slots,u.keep b ob q n hb hx⟩
theorem Un.kept (k:∀ b u,h.get? b=some u->h'.get? b=some u):Un fs ex H H h h' :=
 ⟨λb ob q _ _ _=>k b ob q,λb ob q _ _ _=>⟨ob.slots,k b ob q⟩,λ_ _ _ n _=>n,λb ob q _=>⟨ob,k b ob q⟩,λ_ _ q=>q,λ_ _ _ q=>q,λ_ _ _ q=>q⟩
theorem Un.refl:Un fs ex H H h h:=Un.kept λ_ _ q=>q
theorem Un.laid (k:∀ b u,h.get? b=some u->h'.get? b=some u)(hp:h.objs.size<=a)(hn:H a=none):Un fs ex H (j4 H a o) h h' where
 keep:=λb u q _ _ _=>k b u q
 slot:=λb u q _ _ _=>⟨u.slots,k b u q⟩
 free:=λb u q n _=>by rw [z5 (yH (yz (yO q) hp))];exact n
 there:=λb u q _=>⟨u,k b u q⟩
 tups:=λb xs q=>by rw [z5 (u6 q hn)];exact q
 frzs:=λb u xs q=>by rw [z5 (u6 q hn)];exact q
 tbls:=λb ps z q=>by rw [z5 (u6 q hn)];exact q
theorem Un.write (mu:Mut (H x))(he:e=x∨H e=some (.own x))(k:∀ b u,b≠e->h.get? b=some u->h'.get? b=some u)(heo:∃ u,h'.get? e=some u):Un fs ex H (j4 H x o) h h':=by
 have hx:∀ b,H b=none->b≠x:=λb n z=>by subst z;rw [n] at mu;exact mu
 have hb:∀ b,H b=none->b≠e:=λb n z=>by
  subst z;rcases he with r|r
  ·exact hx b n r
  ·rw [n] at r;cases r
 have hm:∀ b u,H b=some u->¬ Mut (some u)->b≠x:=λb u q nm z=>by subst z;rw [q] at mu;exact nm mu
 refine ⟨λb u q n _ _=>k b u (hb b n) q,λb u q n _ _=>⟨u.slots,k b u (hb b n) q⟩,λb u q n _=>by rw [z5 (hx b n)];exact n,λb u q _=>?_,
  λb xs q=>by rw [z5 (hm b _ q λz=>z)];exact q,λb u xs q=>by rw [z5 (hm b _ q λz=>z)];exact q,λb ps r q=>by rw [z5 (hm b _ q λz=>z)];exact q⟩
 by_cases hbe:b=e
 ·subst hbe;exact heo
 ·exact ⟨u,k b u hbe q⟩
end
def trk (h:Heap)(H:Hp):List Addr:=(List.range h.objs.size).filter λa=>(H a).isSome
def jj (h:Heap)(H:Hp):Heap:=PySem.W.hideAll h (trk h H)
theorem MI (h:Heap)(H:Hp):(jj h H).objs.size=h.objs.size:=PySem.W.hideAll_size _ _
theorem MH {o:Obj}(e:h.get? b=some o)(n:H b=none):(jj h H).get? b=some o :=
 PySem.W.hideAll_get _ e λhm=>by
  have q:(H b).isSome=true:=(uJ.mp hm).2;rw [n] at q;simp at q
theorem Np {o:Obj}(e:(jj h H).get? b=some o):h.get? b=some o/\H b=none:=by
 have e':h.get? b=some o:=PySem.W.of_hideAll (trk h H) e;refine ⟨e',?_⟩;cases q:H b with
 |none=>rfl
 |some x=>have hm:b∈trk h H:=uJ.mpr ⟨yi.mpr (yO e'),by simp [q]⟩;have z:(jj h H).get? b=none:=PySem.W.hideAll_none (trk h H) hm;rw [z] at e;cases e
structure Mod (K:Fg)(mg:Str->Option Value)(base:Heap):Prop where
 kin:K.In base
 glob:base.Ns mainGlobals mg
 blt:∃ mb,base.Ns builtinsNs mb/\∀ x:Str,x ≠ "__name__"->mb x=bootBuiltins x
 nolimit:base.NoLimit
 bmn:∃ bm ob,mg "__builtins__"=some (.ref bm)/\bm≠builtinsNs/\base.get? bm=some ob/\ob.cls = .type "module"/\ob.dict=some builtinsNs/\ob.data = .plain
structure Cx where
 prog:Program
 w:World
 K:Fg
 mg:Str->Option Value
 base:Heap
 A:Around
 N:List Str
 s₀:Shared
 H₀:Hp
 env:Env
 outer:List Env
 stack:List Env
 ex:List Addr
 fn:Str->Bool
 calm:Bool
 pn:List (Addr×Obj)
 xe:Value->Shared->Prop
variable{X:Cx}
def frs (l:List Env):List Addr:=l.filterMap (·.frame)
abbrev Cx.fs (X:Cx):List Addr:=frs X.outer
def Vis (sc:Scope)(x:Str):Prop:=sc.names.lookup x=some .local∨sc.names.lookup x=some .cell∨sc.names.lookup x=some .free
def Loc (sc:Scope)(x:Str):Prop:=sc.names.lookup x=some .local∨sc.names.lookup x=some .cell
def Look (env:Env)(h:Heap)(m:Str->Option Value)(x:Str)(u:Value):Prop :=
 (env.kindOf x=some .local/\m x=some u)∨((env.kindOf x=some .cell∨env.kindOf x=some .free)/\∃ c,env.cells.lookup x=some c/\h.IsCell c (some u))
structure Cx.Ok (X:Cx):Prop where
 mod:Mod X.K X.mg X.base
 kind:X.env.scope.kind = .function
 glob:X.env.globals=mainGlobals
 blt:X.env.builtins=builtinsNs
 above:X.s₀.heap.objs.size<=X.env.locals
 inj:∀ x y c,X.env.cells.lookup x=some c->X.env.cells.lookup y=some c->x=y
 has:∀ x,(X.env.kindOf x=some .cell∨X.env.kindOf x=some .free)->∃ c,X.env.cells.lookup x=some c
 cab:∀ x c,X.fn x=true->X.env.cells.lookup x=some c->X.s₀.heap.objs.size<=c
 hd:X.calm=true->X.A.handled=none
 frames:X.A.frames=some X.stack
 stk:X.stack=X.outer∨(X.stack=X.env::X.outer/\X.env.frame=some X.env.locals)
 exf:∀ b∈X.ex,b≠X.env.locals/\∀ x c,X.env.cells.lookup x=some c->c≠b
 bs:∀ b o,X.base.get? b=some o->X.s₀.heap.get? b=some o/\X.H₀ b=none
 bsz:X.base.objs.size<=X.s₀.heap.objs.size
 noex:∀ b o,X.base.get? b=some o->b∉X.ex
 exfs:∀ b∈X.ex,b∉X.fs
 funs:X.s₀.heap.FunFrames X.base X.outer
 frf:∀ b∈X.fs,X.H₀ b=none
 tbs:∀ p∈TABS,X.H₀ p.1=some (.tbl p.2.1 p.2.2)
structure Inv (X:Cx)(pins:List (Addr×Obj))(σ:List (Option V))(H:Hp)(s:Shared):Prop where
 ok:X.Ok
 os:s.os=X.s₀.os
 bare:AllBare s.gens
 base:Un X.fs X.ex X.H₀ H X.s₀.heap s.heap
 loc:∃ m,s.heap.Ns X.env.locals m/\∀(i:Nat)(x:Str)(v:V),X.N[i]?=some x->σ[i]?=some (some v)->Vis X.env.scope x->∃ u,RelV v u/\Look X.env s.heap m x u
 cell:∀ x c,X.env.cells.lookup x=some c->∃ v,s.heap.IsCell c v
 free:H X.env.locals=none
 freeC:∀ x c,X.env.cells.lookup x=some c->H c=none
 pin:∀ p∈X.pn++pins,s.heap.get? p.1=some p.2/\H p.1=none/\p.1≠X.env.locals/\p.1∉X.fs/\∀ v,p.2.data ≠ .cell v
 hok:HOk X.prog X.w H s.heap
 len:σ.length=X.N.length
section
variable {X:Cx}{pins:List (Addr×Obj)}{σ:List (Option V)}{H H':Hp}{s:Shared}{h':Heap}
theorem Cx.Ok.nofr (ok:X.Ok){o:Obj}(e:X.base.get? b=some o):b∉X.fs:=λhb=>by
 have:=(ok.funs.mem hb).1;rw [e] at this;cases this
theorem Inv.bs (I:Inv X pins σ H s):∀ b o,X.base.get? b=some o->s.heap.get? b=some o/\H b=none:=λb o e =>
 ⟨I.base.keep b o (I.ok.bs b o e).1 (I.ok.bs b o e).2 (I.ok.nofr e) (I.ok.noex b o e),I.base.free b o (I.ok.bs b o e).1 (I.ok.bs b o e).2 (I.ok.noex b o e)⟩
theorem Inv.bk (I:Inv X pins σ H s):∀ b o,X.base.get? b=some o->s.heap.get? b=some o:=λb o e=>(I.bs b o e).1
theorem Inv.mod (I:Inv X pins σ H s):Mod X.K X.mg X.base:=I.ok.mod
theorem Inv.kIn (I:Inv X pins σ H s):X.K.In s.heap:=I.ok.mod.kin.keeps I.bk
theorem Inv.fr (I:Inv X pins σ H s):∃ m,Fr X.base X.env.locals s.heap m :=
 let ⟨m,hn,_⟩:=I.loc
 ⟨m,hn,I.bk,yg I.ok.bsz I.ok.above⟩
theorem Inv.lt (I:Inv X pins σ H s):X.env.locals<s.heap.objs.size:=let ⟨_,hn,_⟩:=I.loc;hn.lt
theorem Inv.sz (I:Inv X pins σ H s):X.s₀.heap.objs.size<=s.heap.objs.size:=yg I.ok.above (uS I.lt)
theorem Inv.nofs (I:Inv X pins σ H s)(h:s.heap.objs.size<=a):a∉X.fs:=λhb=>by
 obtain ⟨_,o,ho,_⟩:=I.ok.funs.mem hb;exact absurd (yz (yO ho) (yg I.sz h)) (uT _)
theorem Inv.cne (I:Inv X pins σ H s):∀ x c,X.env.cells.lookup x=some c->c≠X.env.locals:=λx c e z=>by
 obtain ⟨v,o,ho,hd⟩:=I.cell x c e;obtain ⟨m,⟨o',es,ep,ho',hd',_⟩,_⟩:=I.loc;rw [z,ho'] at ho;cases ho;rw [hd'] at hd;cases hd
theorem Inv.funs (I:Inv X pins σ H s):s.heap.FunFrames X.base X.outer:=by
 have all:∀(l:List Env),(∀ b∈frs l,b∈X.fs)->X.s₀.heap.FunFrames X.base l->s.heap.FunFrames X.base l:=by
  intro l
  induction l with
  |nil=>intro _ _;trivial
  |cons env r ih=>intro hs hl;obtain ⟨hk,⟨L,o,hf,hn,ho,hd⟩,hr⟩:=hl;have hL:L∈X.fs:=hs L (by unfold frs;rw [List.filterMap_cons,hf];exact yT);obtain ⟨sl,e⟩:=I.base.slot L o ho (I.ok.frf L hL) hL λz=>I.ok.exfs L z hL;exact ⟨hk,⟨L,_,hf,hn,e,hd⟩,ih (λb hb=>hs b (by unfold frs;rw [List.filterMap_cons,hf];exact yS _ hb)) hr⟩
 exact all X.outer (λ_ hb=>hb) I.ok.funs
theorem Inv.stack (I:Inv X pins σ H s):s.heap.FunFrames X.base X.stack:=by
 rcases I.ok.stk with e|⟨e,hf⟩
 ·rw [e];exact I.funs
 ·rw [e];obtain ⟨m,hn,_⟩:=I.loc;refine .cons (by rw [I.ok.kind];decide) hf hn ?_ I.funs;exact uk (yg I.ok.bsz I.ok.above)
theorem Inv.stkSub (I:Inv X pins σ H s):∀ b∈frs X.stack,b∈X.env.locals::X.fs:=λb hb=>by
 rcases I.ok.stk with e|⟨e,hf⟩
 ·rw [e] at hb;exact yS _ hb
 ·rw [e] at hb;unfold frs at hb;rw [List.filterMap_cons,hf] at hb;exact hb
theorem Inv.stkFree (I:Inv X pins σ H s):∀ b∈frs X.stack,H b=none:=λb hb=>by
 rcases yM.mp (I.stkSub b hb) with e|hb
 ·rw [e];exact I.free
 ·obtain ⟨_,o,ho,_⟩:=I.ok.funs.mem hb;exact I.base.free b o ho (I.ok.frf b hb) λz=>I.ok.exfs b z hb
theorem Inv.step (I:Inv X pins σ H s)(hch:∀ b∈ch,(b∈X.ex∨X.s₀.heap.objs.size<=b)/\b≠X.env.locals/\(∀ x c,X.env.cells.lookup x=some c->c≠b)/\∀ p∈X.pn++pins,p.1≠b)(keep:∀ b o,b≠X.env.locals->b∉X.fs->b∉ch->s.heap.get? b=some o->H b=none->h'.get? b=some o)(slot:∀ b o,b≠X.env.locals->b∈X.fs->b∉ch->s.heap.get? b=some o->H b=none->∃ sl,h'.get? b=some { o with slots:=sl })(free:∀ b o,b∉ch->s.heap.get? b=some o->H b=none->H' b=none)(there:∀ b o,b∉ch->s.heap.get? b=some o->∃ o',h'.get? b=some o')(tups:∀ b xs,H b=some (.tup xs)->H' b=some (.tup xs))(frzs:∀ b o u,H b=some (.frz o u)->H' b=some (.frz o u))(tbls:∀ b ps q,H b=some (.tbl ps q)->H' b=some (.tbl ps q))(ns:∀ m,s.heap.Ns X.env.locals m->h'.Ns X.env.locals m)(hok:HOk X.prog X.w H' h')(hg:AllBare g'):Inv X pins σ H' { s with heap:=h',gens:=g',drawn:=d',toks:=t' }:=by
 have neL:∀ b o,X.s₀.heap.get? b=some o->b≠X.env.locals:=λb o e=>yH (yz (yO e) I.ok.above);have neC:∀ b o,X.s₀.heap.get? b=some o->b∉X.ex->b∉ch:=λb o e hx hb=>by
  rcases (hch b hb).1 with z|z
  ·exact hx z
  ·exact absurd (yz (yO e) z) (uT _)
 have cellK:∀ x c,X.env.cells.lookup x=some c->∀ v,s.heap.IsCell c v->h'.IsCell c v:=λx c e v ⟨o,ho,hd⟩=>by
  have nch:c∉ch:=λz=>(hch c z).2.2.1 x c e rfl;by_cases hc:c∈X.fs
  ·obtain ⟨sl,q⟩:=slot c o (I.cne x c e) hc nch ho (I.freeC x c e);exact ⟨_,q,hd⟩
  ·exact ⟨o,keep c o (I.cne x c e) hc nch ho (I.freeC x c e),hd⟩
 refine ⟨I.ok,I.os,hg,⟨λb o e n hb hx=>?_,λb o e n hb hx=>?_,λb o e n hx=>?_,λb o e hx=>?_,λb xs e=>tups b xs (I.base.tups b xs e),λb o xs e=>frzs b o xs (I.base.frzs b o xs e),λb ps q e=>tbls b ps q (I.base.tbls b ps q e)⟩,?_,λx c e=>?_,?_,λx c e=>?_,λp hp=>?_,hok,I.len⟩
 ·exact keep b o (neL b o e) hb (neC b o e hx) (I.base.keep b o e n hb hx) (I.base.free b o e n hx)
 ·obtain ⟨sl,e1⟩:=I.base.slot b o e n hb hx;obtain ⟨sl',e2⟩:=slot b _ (neL b o e) hb (neC b o e hx) e1 (I.base.free b o e n hx);exact ⟨sl',e2⟩
 ·obtain ⟨o',e1⟩:=I.base.there b o e hx;exact free b o' (neC b o e hx) e1 (I.base.free b o e n hx)
 ·obtain ⟨o',e1⟩:=I.base.there b o e hx;exact there b o' (neC b o e hx) e1
 ·obtain ⟨m,hn,hl⟩:=I.loc;refine ⟨m,ns m hn,λi x v e1 e2 e3=>?_⟩;obtain ⟨u,r,l⟩:=hl i x v e1 e2 e3;refine ⟨u,r,?_⟩;rcases l with l|⟨k,c,e,z⟩
  ·exact .inl l
  ·exact .inr ⟨k,c,e,cellK x c e _ z⟩
 ·obtain ⟨v,z⟩:=I.cell x c e;exact ⟨v,cellK x c e v z⟩
 ·obtain ⟨m,⟨o,_,_,ho,_⟩,_⟩:=I.loc;exact free _ o (λz=>(hch _ z).2.1 rfl) ho I.free
 ·obtain ⟨v,o,ho,hd⟩:=I.cell x c e;exact free c o (λz=>(hch c z).2.2.1 x c e rfl) ho (I.freeC x c e)
 ·obtain ⟨e,n,ne,nf,d⟩:=I.pin p hp;have nch:p.1∉ch:=λz=>(hch p.1 z).2.2.2 p hp rfl;exact ⟨keep p.1 p.2 ne nf nch e n,free p.1 p.2 nch e n,ne,nf,d⟩
theorem Inv.un (I:Inv X pins σ H s)(u:Un X.fs [] H H' s.heap h')(hok:HOk X.prog X.w H' h'):Inv X pins σ H' { s with heap:=h',toks:=t' }:=by
 obtain ⟨m,⟨o,es,ep,ho,r⟩,_⟩:=id I.loc;obtain ⟨sl,hL⟩:=u.any ho I.free (by simp);exact I.step (g':=s.gens) (d':=s.drawn) (ch:=[]) (λ_ z=>nomatch z) (λb o _ hb _ e n=>u.keep b o e n hb (by simp)) (λb o _ hb _ e n=>u.slot b o e n hb (by simp)) (λb o _ e n=>u.free b o e n (by simp)) (λb o _ e=>u.there b o e (by simp)) u.tups u.frzs u.tbls (λm' hm=>by
  obtain ⟨o',es',ep',ho',r'⟩:=hm;rw [ho] at ho';cases ho';exact ⟨_,es',ep',hL,r'⟩) hok I.bare
theorem Inv.call (I:Inv X pins σ H s)(u:Un (frs X.stack) ch H H' s.heap h')(hok:HOk X.prog X.w H' h')(hg:AllBare g')(hch:∀ b∈ch,(b∈X.ex∨X.s₀.heap.objs.size<=b)/\b≠X.env.locals/\(∀ x c,X.env.cells.lookup x=some c->c≠b)/\∀ p∈X.pn++pins,p.1≠b):Inv X pins σ H' { s with heap:=h',gens:=g',drawn:=d',toks:=t' }:=by
 obtain ⟨m,⟨o,es,ep,ho,r⟩,_⟩:=id I.loc;obtain ⟨sl,hL⟩:=u.any ho I.free λz=>(hch _ z).2.1 rfl;exact I.step (ch:=ch) hch (λb o hL hb hc e n=>u.keep b o e n (λz=>(yM.mp (I.stkSub b z)).elim hL hb) hc) (λb o _ _ hc e n=>u.any e n hc) (λb o hc e n=>u.free b o e n hc) (λb o hc e=>u.there b o e hc) u.tups u.frzs u.tbls (λm' hm=>by
  obtain ⟨o',es',ep',ho',r'⟩:=hm;rw [ho] at ho';cases ho';exact ⟨_,es',ep',hL,r'⟩) hok hg
theorem Inv.turned (I:Inv X pins σ H s)(k:∀ b o,b≠it->s.heap.get? b=some o->h'.get? b=some o)(hn:H it=none)(hL:it≠X.env.locals)(h1:it∈X.ex∨X.s₀.heap.objs.size<=it)(h2:∀ x c,X.env.cells.lookup x=some c->c≠it)(h3:∀ p∈X.pn++pins,p.1≠it):Inv X pins σ H { s with heap:=h',toks:=t' }:=by
 have nit:∀ b u,H b=some u->b≠it:=λb u e z=>by rw [z,hn] at e;cases e
 refine I.step (g':=s.gens) (d':=s.drawn) (ch:=[it]) (λb hb=>?_) (λb o _ _ hc e _=>k b o (λz=>hc (by simp [z])) e) (λb o _ _ hc e _=>⟨o.slots,k b o (λz=>hc (by simp [z])) e⟩) (λ_ _ _ _ n=>n)
  (λb o hc e=>⟨o,k b o (λz=>hc (by simp [z])) e⟩) (λ_ _ e=>e) (λ_ _ _ e=>e) (λ_ _ _ e=>e) (λm hm=>?_) (λb u e=>?_) I.bare
 ·have e:b=it:=by simpa using hb
  subst e;exact ⟨h1,hL,h2,h3⟩
 ·obtain ⟨o,es,ep,ho,r⟩:=hm;exact ⟨o,es,ep,k _ o (Ne.symm hL) ho,r⟩
 ·refine (I.hok b u e).stay (λc v hc q=>k c v ?_ q) (λ_ q=>q) (λ_ _ q=>q) λ_ _ _ q=>q;rcases hc with z|z
  ·rw [z];exact nit b u e
  ·exact nit c _ z
theorem Inv.tok (I:Inv X pins σ H s)(t:Nat):Inv X pins σ H { s with toks:=t }:=I.un (h':=s.heap) (t':=t) Un.refl I.hok
theorem Inv.kept (I:Inv X pins σ H s)(k:∀ b u,s.heap.get? b=some u->h'.get? b=some u):Inv X pins σ H { s with heap:=h',toks:=t' }:=I.un (Un.kept k) (I.hok.kept k)
theorem Inv.laid (I:Inv X pins σ H s)(k:∀ b u,s.heap.get? b=some u->h'.get? b=some u)(hp:s.heap.objs.size<=a)(new:ObjOk X.prog X.w (j4 H a o) h' a o):Inv X pins σ (j4 H a o) { s with heap:=h',toks:=t' }:=I.un (Un.laid k hp (I.hok.fresh hp)) (I.hok.laid k hp new)
theorem Inv.write {x e:Addr}(I:Inv X pins σ H s)(mu:Mut (H x))(he:e=x∨H e=some (.own x))(k:∀ b u,b≠e->s.heap.get? b=some u->h'.get? b=some u)(heo:∃ u,h'.get? e=some u)(new:ObjOk X.prog X.w (j4 H x o) h' x o):Inv X pins σ (j4 H x o) { s with heap:=h',toks:=t' }:=I.un (Un.write mu he k heo) (I.hok.write mu he k heo new)
theorem Inv.weak {σ':List (Option V)}(I:Inv X pins σ H s)(hl:σ'.length=σ.length)(w:∀(i:Nat) v,σ'[i]?=some (some v)->σ[i]?=some (some v)):Inv X pins σ' H s :=
 ⟨I.ok,I.os,I.bare,I.base,let ⟨m,hn,hl'⟩:=I.loc;⟨m,hn,λi x v e1 e2 e3=>hl' i x v e1 (w i v e2) e3⟩,I.cell,I.free,I.freeC,I.pin,I.hok,hl.trans I.len⟩
theorem Inv.pins_of {pins':List (Addr×Obj)}(I:Inv X pins σ H s)(h:∀ p∈pins',s.heap.get? p.1=some p.2/\H p.1=none/\p.1≠X.env.locals/\p.1∉X.fs/\∀ v,p.2.data ≠ .cell v):Inv X pins' σ H s :=
 ⟨I.ok,I.os,I.bare,I.base,I.loc,I.cell,I.free,I.freeC,λp hp=>(yo.mp hp).elim (λz=>I.pin p (uX _ z)) (h p),I.hok,I.len⟩
theorem Bi (hN:N.Nodup){i:Nat}(a:N[i]?=some x)(b:N[j]?=some x):i=j:=by obtain ⟨h1,e1⟩:=yL.mp a;obtain ⟨h2,e2⟩:=yL.mp b;exact (List.getElem_inj hN).mp (e1.trans e2.symm)
theorem PF {M:Model}{i:Nat}{Q:Unit->Shared->Prop}(I:Inv X pins σ H s)(hN:X.N.Nodup)(hi:X.N[i]?=some x)(hx:Loc X.env.scope x)(r:RelV v u)(h:∀ s',Inv X pins (σ.set i (some v)) H s'->(∃ a,Heap.SameBut a s.heap s'.heap/\(a=X.env.locals∨X.env.cells.lookup x=some a))->Q () s')(hf:X.fn x=true∨X.env.scope.names.lookup x=some .local:=by first|exact .inl rfl|exact .inr rfl|assumption):wpAny M A (storeName X.env x u) Q E s:=by
 obtain ⟨m,hn,hl⟩:=id I.loc;have hcls:(X.env.scope.kind == .class || (X.env.scope.kind == .module&&X.env.locals != X.env.globals))=false:=by rw [I.ok.kind];rfl
 have hiσ:i<σ.length:=by rw [I.len];exact (yL.mp hi).1
 have cne:=I.cne;have tracked:∀{a:Addr}{h':Heap},(∃ o,s.heap.get? a=some o/\H a=none)->Heap.SameBut a s.heap h'->HOk X.prog X.w H h':=λ{a h'} ha hs b ob e=>by
  obtain ⟨_,_,hfree⟩:=ha;refine (I.hok b ob e).stay (λc w' hc q=>(hs.2 c ?_).trans q) (λ_ q=>q) (λ_ _ q=>q) λ_ _ _ q=>q;rintro rfl;rcases hc with rfl|hc
  ·rw [hfree] at e;cases e
  ·rw [hfree] at hc;cases hc
 rcases hx with hk|hk
 ·refine wpAny_storeName_local hk hn (λh' hn' hs=>?_) hcls;obtain ⟨oL,_,_,hoL,_⟩:=id hn;refine h _ ⟨I.ok,I.os,I.bare,⟨λb o e n hb hx=>?_,λb o e n hb hx=>?_,I.base.free,λb o e hx=>?_,I.base.tups,I.base.frzs,I.base.tbls⟩,⟨_,hn',λj y v' e1 e2 e3=>?_⟩,λy c e=>?_,I.free,I.freeC,λp hp=>?_,tracked ⟨oL,hoL,I.free⟩ hs,by simpa using I.len⟩ ⟨_,hs,.inl rfl⟩
  ·exact (hs.2 b (yH (yz (yO e) I.ok.above))).trans (I.base.keep b o e n hb hx)
  ·obtain ⟨sl,e1⟩:=I.base.slot b o e n hb hx;exact ⟨sl,(hs.2 b (yH (yz (yO e) I.ok.above))).trans e1⟩
  ·obtain ⟨o',e1⟩:=I.base.there b o e hx;exact ⟨o',(hs.2 b (yH (yz (yO e) I.ok.above))).trans e1⟩
  ·by_cases hj:j=i
   ·subst hj;rw [hi] at e1;cases e1;rw [uU hiσ] at e2;cases e2;exact ⟨u,r,.inl ⟨hk,by simp⟩⟩
   ·rw [yq (Ne.symm hj)] at e2;obtain ⟨u',r',q⟩:=hl j y v' e1 e2 e3;refine ⟨u',r',?_⟩;rcases q with ⟨k,e⟩|⟨k,c,e,z⟩
    ·refine .inl ⟨k,?_⟩;have:y≠x:=λe=>hj (Bi hN e1 (e▸hi));simp [this,e]
    ·exact .inr ⟨k,c,e,z.sameBut hs (cne y c e)⟩
  ·obtain ⟨w',z⟩:=I.cell y c e;exact ⟨w',z.sameBut hs (cne y c e)⟩
  ·obtain ⟨e,n,ne,nf,d⟩:=I.pin p hp;exact ⟨(hs.2 p.1 ne).trans e,n,ne,nf,d⟩
 ·have hfn:X.fn x=true:=by
   rcases hf with z|z
   ·exact z
   ·rw [z] at hk;cases hk
  obtain ⟨c,hc⟩:=I.ok.has x (.inl hk);obtain ⟨w',z⟩:=I.cell x c hc;refine wpAny_storeName_cell I.ok.kind hk hc z (λh' hc' hs=>?_);obtain ⟨oc,hoc,hocd⟩:=id z;refine h { s with heap:=h' } ⟨I.ok,I.os,I.bare,⟨λb o e n hb hx=>?_,λb o e n hb hx=>?_,I.base.free,λb o e hx=>?_,I.base.tups,I.base.frzs,I.base.tbls⟩,⟨m,hn.sameBut hs (Ne.symm (cne x c hc)),λj y v' e1 e2 e3=>?_⟩,λy c' e=>?_,I.free,I.freeC,λp hp=>?_,tracked ⟨oc,hoc,I.freeC x c hc⟩ hs,by simpa using I.len⟩ ⟨c,hs,.inr hc⟩
  ·exact (hs.2 b (yH (yz (yO e) (I.ok.cab x c hfn hc)))).trans (I.base.keep b o e n hb hx)
  ·obtain ⟨sl,e1⟩:=I.base.slot b o e n hb hx;exact ⟨sl,(hs.2 b (yH (yz (yO e) (I.ok.cab x c hfn hc)))).trans e1⟩
  ·obtain ⟨o',e1⟩:=I.base.there b o e hx;exact ⟨o',(hs.2 b (yH (yz (yO e) (I.ok.cab x c hfn hc)))).trans e1⟩
  ·by_cases hj:j=i
   ·subst hj;rw [hi] at e1;cases e1;rw [uU hiσ] at e2;cases e2;exact ⟨u,r,.inr ⟨.inl hk,c,hc,hc'⟩⟩
   ·rw [yq (Ne.symm hj)] at e2;obtain ⟨u',r',q⟩:=hl j y v' e1 e2 e3;refine ⟨u',r',?_⟩;rcases q with q|⟨k,c',e,z'⟩
    ·exact .inl q
    ·refine .inr ⟨k,c',e,z'.sameBut hs ?_⟩;rintro rfl;exact hj (Bi hN e1 (I.ok.inj _ _ _ e hc▸hi))
  ·by_cases hcc:c'=c
   ·subst hcc;exact ⟨_,hc'⟩
   ·obtain ⟨w2,z2⟩:=I.cell y c' e;exact ⟨w2,z2.sameBut hs hcc⟩
  ·obtain ⟨e,n,ne,nf,d⟩:=I.pin p hp;refine ⟨(hs.2 p.1 ?_).trans e,n,ne,nf,d⟩;intro q;rw [q,hoc] at e;have q':oc=p.2:=Option.some.inj e;exact d w' (by rw [<- q'];exact hocd)
theorem PD {M:Model}{i:Nat}{Q:Unit->Shared->Prop}(I:Inv X pins σ H s)(hN:X.N.Nodup)(hi:X.N[i]?=some x)(hx:Loc X.env.scope x)(r:RelV v u)(h:∀ s',Inv X pins (σ.set i (some v)) H s'->Q () s')(hf:X.fn x=true∨X.env.scope.names.lookup x=some .local:=by first|exact .inl rfl|exact .inr rfl|assumption):wpAny M A (storeName X.env x u) Q E s :=
 PF I hN hi hx r (λs' I' _=>h s' I') hf
theorem Inv.call' (I:Inv X pins σ H s)(ho:s'.os=s.os)(u:Un (frs X.stack) ch H H' s.heap s'.heap)(hok:HOk X.prog X.w H' s'.heap)(hg:AllBare s'.gens)(hch:∀ b∈ch,(b∈X.ex∨X.s₀.heap.objs.size<=b)/\b≠X.env.locals/\(∀ x c,X.env.cells.lookup x=some c->c≠b)/\∀ p∈X.pn++pins,p.1≠b):Inv X pins σ H' s':=by obtain ⟨h',g',d',t',o'⟩:=s';have e:o'=s.os:=ho;subst e;exact I.call (g':=g') (t':=t') (d':=d') u hok hg hch
end
abbrev XK:=Value->Option Addr->Hp->Prop
abbrev St:=List (Option V)
variable{σ:St}
abbrev VK:=V->Hp->Prop
abbrev TE:=St->Hp->VK->Prop
variable{t te:TE}
abbrev TT:=St->Hp->(Bool->Hp->Prop)->Prop
variable{tc:TT}
abbrev TA:=St->Hp->(List V->Hp->Prop)->Prop
structure xK where
 nx:St->Hp->Prop
 rt:VK
 bk:St->Hp->Prop:=λ_ _=>False
 ct:St->Hp->Prop:=λ_ _=>False
variable{D:xK}
abbrev TS:=xK->St->Hp->Prop
variable{tb:TS}
def EP (X:Cx)(pins:List (Addr×Obj))(σ:St)(Q:VK)(u:Value)(s':Shared):Prop:=∃ v H',Inv X pins σ H' s'/\RelV v u/\Q v H'
def TP (X:Cx)(pins:List (Addr×Obj))(σ:St)(Q:Bool->Hp->Prop)(b:Bool)(s':Shared):Prop:=∃ H',Inv X pins σ H' s'/\Q b H'
def AP (X:Cx)(pins:List (Addr×Obj))(σ:St)(Q:List V->Hp->Prop)(us:List Value)(s':Shared):Prop:=∃ vs H',Inv X pins σ H' s'/\Vals vs us/\Q vs H'
def SP (X:Cx)(pins:List (Addr×Obj))(D:xK)(f:Flow)(s':Shared):Prop :=
 match f with
 | .next=>∃ σ' H',Inv X pins σ' H' s'/\D.nx σ' H'
 | .brk=>∃ σ' H',Inv X pins σ' H' s'/\D.bk σ' H'
 | .cont=>∃ σ' H',Inv X pins σ' H' s'/\D.ct σ' H'
 | .ret u=>∃ v σ' H',Inv X pins σ' H' s'/\RelV v u/\D.rt v H'
def PE (X:Cx)(e:Expr)(t:TE):Prop :=
 ∀(pins:List (Addr×Obj))(s:Shared)(σ:St)(H:Hp)(Q:VK),Inv X pins σ H s->t σ H Q->wpAny (model X.prog X.w) X.A (eval e X.env) (EP X pins σ Q) X.xe s
def PT (X:Cx)(e:Expr)(t:TT):Prop :=
 ∀(pins:List (Addr×Obj))(s:Shared)(σ:St)(H:Hp)(Q:Bool->Hp->Prop),Inv X pins σ H s->t σ H Q->wpAny (model X.prog X.w) X.A (isTrue e X.env (eval e X.env)) (TP X pins σ Q) X.xe s
def PW (X:Cx)(e:Expr)(t:TT):Prop :=
 ∀(whole:Sem Value)(pins:List (Addr×Obj))(s:Shared)(σ:St)(H:Hp)(Q:Bool->Hp->Prop),Inv X pins σ H s->t σ H Q->wpAny (model X.prog X.w) X.A (isTrue e X.env whole) (TP X pins σ Q) X.xe s
theorem PW.pt {t:TT}(h:PW X e t):PT X e t:=h _
def PA (X:Cx)(es:List Expr)(t:TA):Prop :=
 ∀(pos:Pos)(pins:List (Addr×Obj))(s:Shared)(σ:St)(H:Hp)(Q:List V->Hp->Prop),Inv X pins σ H s->t σ H Q->wpAny (model X.prog X.w) X.A (spliced (backTo pos (starEach es X.env))) (AP X pins σ Q) X.xe s
def PS (X:Cx)(st:Stmt)(t:TS):Prop :=
 ∀(pins:List (Addr×Obj))(s:Shared)(σ:St)(H:Hp)(D:xK),Inv X pins σ H s->t D σ H->wpAny (model X.prog X.w) X.A (exec st X.env) (SP X pins D) X.xe s
def PSs (X:Cx)(st:List Stmt)(t:TS):Prop :=
 ∀(pins:List (Addr×Obj))(s:Shared)(σ:St)(H:Hp)(D:xK),Inv X pins σ H s->t D σ H->wpAny (model X.prog X.w) X.A (execs st X.env) (SP X pins D) X.xe s
theorem v5 {t:Sem α}{Q Q':α->Shared->Prop}{M:Model}(h:wpAny M A t Q E s)(hQ:∀ a s,Q a s->Q' a s):wpAny M A t Q' E s:=wpAny_mono h hQ λ_ _ x=>x
section
variable {X:Cx}
theorem bin {a b:Expr}{ta tb:TE}(ha:PE X a ta)(hb:PE X b tb)(I:Inv X pins σ H s)(h:ta σ H λx H1=>tb σ H1 λy H2=>R x y H2){Q:α->Shared->Prop}{f:Value->Value->Sem α}(hf:∀ v u s2 x y H2,Inv X pins σ H2 s2->RelV x v->RelV y u->R x y H2->wpAny (model X.prog X.w) X.A (f v u) Q X.xe s2):wpAny (model X.prog X.w) X.A (eval a X.env) (λv s₁=>wpAny (model X.prog X.w) X.A (eval b X.env) (λu s₂=>wpAny (model X.prog X.w) X.A (f v u) Q X.xe s₂) X.xe s₁) X.xe s:=by refine v5 (ha pins s σ H _ I h) λv s1 ⟨x,H1,I1,r1,q1⟩=>?_;refine v5 (hb pins s1 σ H1 _ I1 q1) λu s2 ⟨y,H2,I2,r2,q2⟩=>?_;exact hf v u s2 x y H2 I2 r1 r2 q2
def qb (i:Nat):TE:=λσ H Q=>∃ v,σ[i]?=some (some v)/\Q v H
def tC (v:V):TE:=λ_ H Q=>Q v H
theorem Rm {i:Nat}(hN:X.N[i]?=some x)(hv:Vis X.env.scope x)(hd:(x==("__debug__":Str))=false:=by decide)(hcd:(x==("__classdict__":Str))=false:=by decide):PE X (.Name x pos) (qb i):=by
 intro pins s σ H Q I h;obtain ⟨v,e,h⟩:=h;obtain ⟨m,hn,hl⟩:=I.loc;obtain ⟨u,r,l⟩:=hl i x v hN e hv;have fin:EP X pins σ Q u s:=⟨v,H,I,r,h⟩;rcases l with ⟨hk,hm⟩|⟨hk,c,hc,hcell⟩
 ·exact wpAny_Name (wpAny_loadName_local I.ok.kind hk hn hm fin) hd
 ·rcases hk with hk|hk
  ·exact wpAny_Name (wpAny_loadName_cell I.ok.kind hk hc hcell fin) hd
  ·exact wpAny_Name (wpAny_loadName_free I.ok.kind hk hc hcell fin hcd) hd
theorem z0 {i j pos}:PE X (.Constant (.int i) j pos) (tC (.int i)):=λ_ _ _ H _ I h=>wpAny_Constant_int ⟨.int i,H,I.tok _,⟨_,rfl⟩,h⟩
theorem qN {b j pos}:PE X (.Constant (.bool b) j pos) (tC (.bl b)):=λ_ _ _ H _ I h=>Constant_bool ⟨.bl b,H,I,rfl,h⟩
theorem zC {j pos}:PE X (.Constant .none j pos) (tC .non):=λ_ _ _ H _ I h=>Constant_none ⟨.non,H,I,rfl,h⟩
theorem xx {x j pos}:PE X (.Constant (.str x) j pos) (tC (.str x)):=λ_ _ _ H _ I h=>Calls.Constant_str ⟨.str x,H,I.tok _,⟨_,rfl⟩,h⟩
def Gl (X:Cx)(x:Str):Prop:=X.env.kindOf x=some .globalImplicit
theorem JP (I:Inv X pins σ H s)(hg:Gl X x)(hm:X.mg x=some u)(h:Q u s)(hd:(x==("__debug__":Str))=false:=by decide):wpAny (model X.prog X.w) X.A (eval (.Name x pos) X.env) Q E s :=
 Calls.Name_function_global I.ok.kind hg (Calls.loadGlobal_global (by rw [I.ok.glob];exact I.mod.glob.keeps I.bk) hm h) hd
theorem zS (I:Inv X pins σ H s)(hg:Gl X x)(hm:X.mg x=none)(hv:bootBuiltins x=some u)(h:Q u s)(hn:x ≠ "__name__":=by decide)(hd:(x==("__debug__":Str))=false:=by decide):wpAny (model X.prog X.w) X.A (eval (.Name x pos) X.env) Q E s:=by obtain ⟨mb,h1,h2⟩:=I.mod.blt;exact Calls.Name_function_global I.ok.kind hg (Calls.loadGlobal_builtin (by rw [I.ok.glob];exact I.mod.glob.keeps I.bk) hm (by rw [I.ok.blt];exact h1.keeps I.bk) ((h2 x hn).trans hv) h) hd
theorem ZF (hg:Gl X x)(hm:X.mg x=some u)(r:RelV v u)(hd:(x==("__debug__":Str))=false:=by decide):PE X (.Name x pos) (tC v) :=
 λ_ _ _ H _ I h=>JP I hg hm ⟨v,H,I,r,h⟩ hd
theorem xE (hg:Gl X x)(hm:X.mg x=none)(hv:bootBuiltins x=some u)(r:RelV v u)(hn:x ≠ "__name__":=by decide)(hd:(x==("__debug__":Str))=false:=by decide):PE X (.Name x pos) (tC v) :=
 λ_ _ _ H _ I h=>zS I hg hm hv ⟨v,H,I,r,h⟩ hn hd
variable {a b:Expr}{ta tb:TE}{pos:Pos}
def PC (X:Cx)(op:CmpOp)(a b:Expr)(t:TE):Prop :=
 ∀(pins:List (Addr×Obj))(s:Shared)(σ:St)(H:Hp)(Q:VK),Inv X pins σ H s->t σ H Q ->
  wpAny (model X.prog X.w) X.A (eval a X.env) (λv s₁=>wpAny (model X.prog X.w) X.A (eval b X.env) (λu s₂=>wpAny (model X.prog X.w) X.A (compareOp op v u) (EP X pins σ Q) X.xe s₂) X.xe s₁) X.xe s
def tB (t:TE):TT:=λσ H Q=>t σ H λx H1=>∃ c,x = .bl c/\Q c H1
theorem VF (h:PC X op a b t)(h1:behindInMarks op b=false:=by first|exact nobehind _ (by decide) (by decide)|rfl):PT X (.Compare a [op] [b] pos) (tB t):=by intro pins s σ H Q I hw;refine wpAny_isTrue_Compare1 (v5 (h pins s σ H _ I hw) λv s1 h1=>v5 h1 λu s2 h2=>v5 h2 λc s3 ⟨x,H1,I1,r1,q1⟩=>?_) h1;obtain ⟨d,rfl,q⟩:=q1;cases r1;exact wpAny_truthy_bool ⟨H1,I1,q⟩
variable {tA tB':TT}{rest:List Expr}
def tAnd (t u:TT):TT:=λσ H Q=>t σ H λc H1=>if c=true then u σ H1 Q else Q false H1
def tOr (t u:TT):TT:=λσ H Q=>t σ H λc H1=>if c=true then Q true H1 else u σ H1 Q
def tNot (t:TT):TT:=λσ H Q=>t σ H λc H1=>Q (!c) H1
theorem VH (ha:PT X a tA):PW X (.BoolOp .And [a] pos) tA:=by
 intro wh pins s σ H Q I h;refine isTrue_and (v5 (ha pins s σ H Q I h) λc s1 e=>?_);cases c with
 |true=>exact isTrue_and_nil e
 |false=>exact e
theorem xY (ha:PT X a tA):PW X (.BoolOp .Or [a] pos) tA:=by
 intro wh pins s σ H Q I h;refine isTrue_or (v5 (ha pins s σ H Q I h) λc s1 e=>?_);cases c with
 |false=>exact isTrue_or_nil e
 |true=>exact e
theorem VG (ha:PT X a tA)(hb:PW X (.BoolOp .And (b::rest) pos) tB'):PW X (.BoolOp .And (a::b::rest) pos) (tAnd tA tB'):=by
 intro wh pins s σ H Q I h;refine isTrue_and (v5 (ha pins s σ H _ I h) λc s1 ⟨H1,I1,q1⟩=>?_);cases c with
 |true=>exact hb wh pins s1 σ H1 Q I1 q1
 |false=>exact ⟨H1,I1,q1⟩
theorem xb (ha:PT X a tA)(hb:PW X (.BoolOp .Or (b::rest) pos) tB'):PW X (.BoolOp .Or (a::b::rest) pos) (tOr tA tB'):=by
 intro wh pins s σ H Q I h;refine isTrue_or (v5 (ha pins s σ H _ I h) λc s1 ⟨H1,I1,q1⟩=>?_);cases c with
 |true=>exact ⟨H1,I1,q1⟩
 |false=>exact hb wh pins s1 σ H1 Q I1 q1
theorem qd (ha:PT X a tA):PT X (.UnaryOp .Not a pos) (tNot tA):=by intro pins s σ H Q I h;exact isTrue_not (ha pins s σ H (λc H1=>Q (!c) H1) I h)
def PJ (ta tb:TE):TE:=λσ H Q=>ta σ H λx H1=>∃ c,x = .bl c/\if c=true then tb σ H1 Q else Q (.bl false) H1
def PR (ta:TE):TE:=λσ H Q=>ta σ H λx H1=>∃ c,x = .bl c/\Q (.bl (!c)) H1
theorem zD {op}(h:PE X a t):PE X (.BoolOp op [a] pos) t:=λpins s σ H Q I hw=>BoolOp_one (h pins s σ H Q I hw)
theorem zh (ha:PE X a ta)(hb:PE X (.BoolOp .And (b::rest) pos) tb):PE X (.BoolOp .And (a::b::rest) pos) (PJ ta tb):=by
 intro pins s σ H Q I h;refine BoolOp_and (v5 (ha pins s σ H _ I h) λv s1 ⟨x,H1,I1,r1,q1⟩=>?_);obtain ⟨c,rfl,q1⟩:=q1;cases r1;refine wpAny_truthy_bool ?_;cases c with
 |true=>exact hb pins s1 σ H1 Q I1 q1
 |false=>exact ⟨.bl false,H1,I1,rfl,q1⟩
theorem Bu (ha:PE X a ta):PE X (.UnaryOp .Not a pos) (PR ta):=by intro pins s σ H Q I h;refine UnaryOp_ (v5 (ha pins s σ H _ I h) λv s1 ⟨x,H1,I1,r1,q1⟩=>?_);obtain ⟨c,rfl,q1⟩:=q1;cases r1;exact not_of (wpAny_truthy_bool ⟨.bl (!c),H1,I1,rfl,q1⟩)
def tIf (t:TT)(ta tb:TE):TE:=λσ H Q=>t σ H λc H1=>if c=true then ta σ H1 Q else tb σ H1 Q
theorem Bt (hc:PT X c tA)(ha:PE X a ta)(hb:PE X b tb):PE X (.IfExp c a b pos) (tIf tA ta tb):=by
 intro pins s σ H Q I h;refine wpAny_IfExp (v5 (hc pins s σ H _ I h) λd s1 ⟨H1,I1,q1⟩=>?_);cases d with
 |true=>exact ha pins s1 σ H1 Q I1 q1
 |false=>exact hb pins s1 σ H1 Q I1 q1
end
def SqL (K:Fg)(H:Hp)(a:Addr)(xs:List V):Prop :=
 Rd H a (.lst xs) ∨
  ∃ (o:Obj) (its:Array Value) (n:Nat),K.lookup a=some o/\o.cls = .type "list"/\o.dict=none/\o.data = .seq its n/\its.size<=sizeLine/\Vals xs its.toList
def SqT (K:Fg)(H:Hp)(a:Addr)(xs:List V):Prop :=
 Rd H a (.tup xs) ∨
  ∃ (o:Obj) (its:Array Value) (n:Nat),K.lookup a=some o/\o.cls = .type "tuple"/\o.data = .seq its n/\its.size<=sizeLine/\Vals xs its.toList
def absV:Value->Option V
 | .none=>some .non
 | .bool b=>some (.bl b)
 | .int i _=>some (.int i)
 | .str x _=>some (.str x)
 | .bytes b _=>some (.byt b)
 | .float b _=>some (.flt b)
 | .ref a=>some (.ref a)
 | .type n=>some (.ty n)
 |_=>none
theorem RelV.abs {x:V}(r:RelV x u):absV u=some x:=by
 cases x with
 |non=>cases r;rfl
 |bl _=>cases r;rfl
 |int _=>obtain ⟨t,rfl⟩:=r;rfl
 |str _=>obtain ⟨t,rfl⟩:=r;rfl
 |byt _=>obtain ⟨t,rfl⟩:=r;rfl
 |flt _=>obtain ⟨t,rfl⟩:=r;rfl
 |ref _=>cases r;rfl
 |ty _=>cases r;rfl
theorem RelV.inj {x:V}(r:RelV x u)(q:RelV y u):x=y:=Option.some.inj (r.abs.symm.trans q.abs)
theorem Vals.inj:∀{xs ys:List V}{us:List Value},Vals xs us->Vals ys us->xs=ys
 |_,_,_,.nil,.nil=>rfl
 |_,_,_,.cons r t,.cons r' t'=>by rw [r.inj r',Vals.inj t t']
section
variable {X:Cx}{pins:List (Addr×Obj)}{σ:St}{H:Hp}{s:Shared}{a:Addr}{xs ys:List V}
theorem SqL.of (h:H a=some (.lst xs)):SqL K H a xs:= .inl (.inl h)
theorem SqT.of (h:H a=some (.tup xs)):SqT K H a xs:= .inl (.inl h)
theorem Inv.list (I:Inv X pins σ H s)(h:SqL X.K H a xs):∃ its:List Value,Vals xs its/\PlainL s.heap a its.toArray/\xs.length<=sizeLine:=by
 rcases h with h|⟨o,its,n,hk,hc,hd,hs,hz,r⟩
 ·obtain ⟨z,its,n,r,e⟩:=h.ok I.hok;exact ⟨its,r,⟨_,n,e,rfl,rfl,rfl⟩,z⟩
 ·refine ⟨its.toList,r,⟨o,n,I.kIn a o hk,hc,hd,by simpa using hs⟩,?_⟩;have e:=r.length;simp only [ua] at e;omega
theorem Inv.tuple (I:Inv X pins σ H s)(h:SqT X.K H a xs):∃ its:List Value,Vals xs its/\IsTup s.heap a its.toArray/\xs.length<=sizeLine:=by
 rcases h with h|⟨o,its,n,hk,hc,hs,hz,r⟩
 ·obtain ⟨z,its,r,p⟩:=h.ok I.hok;exact ⟨its,r,p,z⟩
 ·refine ⟨its.toList,r,⟨o,I.kIn a o hk,hc,n,by simpa using hs⟩,?_⟩;have e:=r.length;simp only [ua] at e;omega
theorem Inv.list_inj (I:Inv X pins σ H s)(h:SqL X.K H a xs)(h':SqL X.K H a ys):xs=ys:=by
 obtain ⟨its,r,⟨o,n,e,_,_,d⟩,_⟩:=I.list h;obtain ⟨its',r',⟨o',n',e',_,_,d'⟩,_⟩:=I.list h';rw [e] at e';cases e';rw [d] at d';injection d' with d1 _;have:its=its':=by simpa using congrArg Array.toList d1
 subst this;exact r.inj r'
theorem Inv.tuple_inj (I:Inv X pins σ H s)(h:SqT X.K H a xs)(h':SqT X.K H a ys):xs=ys:=by
 obtain ⟨its,r,⟨o,e,_,n,d⟩,_⟩:=I.tuple h;obtain ⟨its',r',⟨o',e',_,n',d'⟩,_⟩:=I.tuple h';rw [e] at e';cases e';rw [d] at d';injection d' with d1 _;have:its=its':=by simpa using congrArg Array.toList d1
 subst this;exact r.inj r'
end
abbrev Cx.wish (X:Cx)(E:Value->Shared->Prop):Cx:={ X with xe:=E }
abbrev Cx.nox (X:Cx):Cx:=X.wish λ_ _=>False
theorem Cx.Ok.wish (ok:X.Ok)(E:Value->Shared->Prop):(X.wish E).Ok :=
 ⟨ok.mod,ok.kind,ok.glob,ok.blt,ok.above,ok.inj,ok.has,ok.cab,ok.hd,ok.frames,ok.stk,ok.exf,ok.bs,ok.bsz,ok.noex,ok.exfs,ok.funs,ok.frf,ok.tbs⟩
theorem Cx.Ok.unwish (ok:(X.wish E).Ok):X.Ok :=
 ⟨ok.mod,ok.kind,ok.glob,ok.blt,ok.above,ok.inj,ok.has,ok.cab,ok.hd,ok.frames,ok.stk,ok.exf,ok.bs,ok.bsz,ok.noex,ok.exfs,ok.funs,ok.frf,ok.tbs⟩
section
variable {X:Cx}{pins:List (Addr×Obj)}{σ:St}{H:Hp}{s:Shared}{E:Value->Shared->Prop}
theorem Inv.wish (I:Inv X pins σ H s)(E:Value->Shared->Prop):Inv (X.wish E) pins σ H s:=⟨I.ok.wish E,I.os,I.bare,I.base,I.loc,I.cell,I.free,I.freeC,I.pin,I.hok,I.len⟩
theorem Inv.unwish (I:Inv (X.wish E) pins σ H s):Inv X pins σ H s:=⟨I.ok.unwish,I.os,I.bare,I.base,I.loc,I.cell,I.free,I.freeC,I.pin,I.hok,I.len⟩
theorem SP.unwish {f:Flow}(h:SP (X.wish E) pins D f s'):SP X pins D f s':=by
 cases f with
 |next=>obtain ⟨σ',H',I,q⟩:=h;exact ⟨σ',H',I.unwish,q⟩
 |brk=>obtain ⟨σ',H',I,q⟩:=h;exact ⟨σ',H',I.unwish,q⟩
 |cont=>obtain ⟨σ',H',I,q⟩:=h;exact ⟨σ',H',I.unwish,q⟩
 |ret u=>obtain ⟨v,σ',H',I,r,q⟩:=h;exact ⟨v,σ',H',I.unwish,r,q⟩
theorem PSs.nox {st:List Stmt}{t:TS}(h:PSs X.nox st t):PSs X st t:=λpins s σ H D I hw =>
 wpAny_mono (h pins s σ H D (I.wish _) hw) (λ_ _ q=>q.unwish) λ_ _ z=>False.elim z
end
section
variable {X:Cx}{st:Stmt}{rest:List Stmt}{t u:TS}{e:Expr}{te:TE}{pos:Pos}
def Yo:TS:=λD σ H=>D.nx σ H
def tSeq (t u:TS):TS:=λD σ H=>t { D with nx:=u D } σ H
theorem m4:PSs X [] Yo:=λ_ _ σ H _ I h=>wpAny_execs_nil ⟨σ,H,I,h⟩
theorem z8 (h1:PS X st t)(h2:PSs X rest u):PSs X (st::rest) (tSeq t u):=by
 intro pins s σ H D I h;refine wpAny_execs_cons (v5 (h1 pins s σ H { D with nx:=u D } I h) λf s1 q=>?_);cases f with
 |next=>obtain ⟨σ',H',I',q⟩:=q;exact h2 pins s1 σ' H' D I' q
 |ret v=>exact q
 |brk=>exact q
 |cont=>exact q
theorem z7 (h1:PS X st t):PSs X [st] t:=by
 intro pins s σ H D I h;refine wpAny_execs_cons (v5 (h1 pins s σ H D I h) λf s1 q=>?_);cases f with
 |next=>exact wpAny_execs_nil q
 |ret v=>exact q
 |brk=>exact q
 |cont=>exact q
theorem Inv.quiet (I:Inv X pins σ H s):interactive X.env=false:=by simp [interactive,I.ok.kind]
def jU (te:TE):TS:=λD σ H=>te σ H λ_ H1=>D.nx σ H1
theorem xI (he:PE X e te)(hs:swapsWith e none pos.line X.env=pure false:=by rfl):PS X (.Expr e pos) (jU te):=by intro pins s σ H D I h;exact wpAny_Expr_any (v5 (he pins s σ H _ I h) λv s1 ⟨x,H1,I1,r1,q1⟩=>⟨σ,H1,I1,q1⟩) I.quiet hs
def Xs (te:TE):TS:=λD σ H=>te σ H D.rt
theorem w5 (he:PE X e te):PS X (.Return (some e) pos) (Xs te):=by intro pins s σ H D I h;exact wpAny_Return_some (v5 (he pins s σ H _ I h) λv s1 ⟨x,H1,I1,r1,q1⟩=>⟨x,σ,H1,I1,r1,q1⟩)
def tIfS (c:TT)(t u:TS):TS:=λD σ H=>c σ H λb H1=>if b=true then t D σ H1 else u D σ H1
theorem c6 {a b:List Stmt}(hc:PT X c tc)(ha:PSs X a t)(hb:PSs X b u):PS X (.If c a b pos) (tIfS tc t u):=by
 intro pins s σ H D I h;refine wpAny_If (v5 (hc pins s σ H _ I h) λd s1 ⟨H1,I1,q1⟩=>?_);cases d with
 |true=>exact ha pins s1 σ H1 D I1 q1
 |false=>exact hb pins s1 σ H1 D I1 q1
def PP:TS:=λ_ _ _=>False
theorem zj:PS X st PP:=λ_ _ _ _ _ _ h=>h.elim
end
abbrev TG:=V->St->Hp->(St->Hp->Prop)->Prop
abbrev TGs:=List V->St->Hp->(St->Hp->Prop)->Prop
def PG (X:Cx)(target:Expr)(t:TG):Prop :=
 ∀(pins:List (Addr×Obj))(s:Shared)(σ:St)(H:Hp)(v:V)(u:Value)(Q:St->Hp->Prop),Inv X pins σ H s->RelV v u->t v σ H Q ->
  wpAny (model X.prog X.w) X.A (assign target X.env u) (λ_ s'=>∃ σ' H',Inv X pins σ' H' s'/\Q σ' H') X.xe s
def PGs (X:Cx)(ts:List Expr)(t:TGs):Prop :=
 ∀(pins:List (Addr×Obj))(s:Shared)(σ:St)(H:Hp)(vs:List V)(us:List Value)(Q:St->Hp->Prop),Inv X pins σ H s->Vals vs us->t vs σ H Q ->
  wpAny (model X.prog X.w) X.A (assignInOrder ((assignEach ts X.env).map (·.2)) us) (λ_ s'=>∃ σ' H',Inv X pins σ' H' s'/\Q σ' H') X.xe s
abbrev TSet:=V->V->V->Hp->(Hp->Prop)->Prop
def PSet (X:Cx)(t:TSet):Prop :=
 ∀(pins:List (Addr×Obj))(s:Shared)(σ:St)(H:Hp)(o i v:V)(ov iv u:Value)(Q:Hp->Prop),Inv X pins σ H s->RelV o ov->RelV i iv->RelV v u->t o i v H Q ->
  wpAny (model X.prog X.w) X.A (setItem ov iv u) (λ_ s'=>∃ H',Inv X pins σ H' s'/\Q H') X.xe s
section
variable {X:Cx}{pos:Pos}
def qE (i:Nat):TG:=λv σ H Q=>Q (σ.set i (some v)) H
theorem k9 {i:Nat}(hN:X.N.Nodup)(hi:X.N[i]?=some x)(hx:Loc X.env.scope x)(hf:X.fn x=true∨X.env.scope.names.lookup x=some .local:=by first|exact .inl rfl|exact .inr rfl|assumption):PG X (.Name x pos) (qE i):=by intro pins s σ H v u Q I r h;exact wpAny_assign_Name (PD I hN hi hx r (λs' I'=>⟨_,H,I',h⟩) hf)
def gNil:TGs:=λvs σ H Q=>vs=[]/\Q σ H
def JB (t:TG)(u:TGs):TGs:=λvs σ H Q=>∃ v r,vs=v::r/\t v σ H λσ' H'=>u r σ' H' Q
theorem vJ:PGs X [] gNil:=by intro pins s σ H vs us Q I r h;obtain ⟨e,h⟩:=h;subst e;cases r;exact assignInOrder_nil ⟨σ,H,I,h⟩
theorem xH {t:TG}{u:TGs}(h1:PG X e t)(h2:PGs X es u)(hs:(assignEach (e::es) X.env).map (·.2)=assign e X.env::(assignEach es X.env).map (·.2):=by rfl):PGs X (e::es) (JB t u):=by
 intro pins s σ H vs us Q I r h;obtain ⟨v,vr,e1,h⟩:=h;subst e1;cases r with
 |cons r rr=>rw [hs];refine assignInOrder_cons (v5 (h1 pins s σ H _ _ _ I r h) λ_ s1 ⟨σ1,H1,I1,q1⟩=>?_);exact h2 pins s1 σ1 H1 _ _ Q I1 rr q1
def gTup (K:Fg)(n:Nat)(t:TGs):TG:=λv σ H Q=>∃ a xs,v = .ref a/\SqT K H a xs/\xs.length=n/\t xs σ H Q
theorem Rn {k:Nat}{t:TGs}(hc:X.calm=true)(h:PGs X es t)(hn:(assignEach es X.env).length=n:=by rfl)(hst:(assignEach es X.env).findIdx? (·.1)=none:=by rfl):PG X (.Tuple es k pos) (gTup X.K n t):=by intro pins s σ H v u Q I r hw;obtain ⟨a,xs,e1,hq,hl,hw⟩:=hw;subst e1;cases r;obtain ⟨its,rv,ht,hz⟩:=I.tuple hq;refine assign_Tuple_tuple (I.ok.hd hc) ht (by simp [hn,<- hl,rv.length]) hst λh' hx=>?_;have I1:Inv X pins σ H { s with heap:=h' }:=I.kept (t':=s.toks) λb o e=>hx b o (yH (yO e)) e;exact h pins _ σ H xs _ Q I1 (by simpa using rv) hw
def gSub (to ti:TE)(t:TSet):TG:=λv σ H Q=>to σ H λo H1=>ti σ H1 λi H2=>t o i v H2 λH3=>Q σ H3
theorem Bw {o i:Expr}{to ti:TE}{t:TSet}(ho:PE X o to)(hi:PE X i ti)(hs:PSet X t)
  (ha:∀ v,assign (.Subscript o i pos) X.env v=(do
   let ov <- holding [v] (eval o X.env)
   let iv <- holding [v,ov] (eval i X.env)
   standAt pos
   holding [v,ov,iv] (setItem ov iv v)
   release [v,ov,iv] []):=by intro _;rfl):PG X (.Subscript o i pos) (gSub to ti t):=by
 intro pins s σ H v u Q I r h;rw [ha];refine yX (wpAny_holding (v5 (ho pins s σ H _ I h) λov s1 ⟨x,H1,I1,r1,q1⟩=>?_));refine yX (wpAny_holding (v5 (hi pins s1 σ H1 _ I1 q1) λiv s2 ⟨y,H2,I2,r2,q2⟩=>?_));refine yX (wpAny_standAt (yX (wpAny_holding (v5 (hs pins s2 σ H2 x y v ov iv u _ I2 r1 r2 r q2) λ_ s3 ⟨H3,I3,q3⟩=>?_))));exact wpAny_release ⟨σ,H3,I3,q3⟩
def zI (te:TE)(g:TG):TS:=λD σ H=>te σ H λx H1=>g x σ H1 D.nx
theorem VE {g:TG}(he:PE X e te)(hg:PG X tg g)(hs:swapsWithSole [tg] e pos.line X.env=pure false:=by rfl)(hw:swappedStores [tg] e X.env=pure none:=by rfl)(h1:(assignEach [tg] X.env).map (·.2)=[assign tg X.env]:=by rfl):PS X (.Assign [tg] e pos) (zI te g):=by intro pins s σ H D I h;refine wpAny_Assign_stores (v5 (he pins s σ H _ I h) λv s1 ⟨x,H1,I1,r1,q1⟩=>?_) hs hw;rw [h1];exact v5 (hg pins s1 σ H1 x v _ I1 r1 q1) λ_ s2 q=>q
theorem qA {i:Nat}{x:Str}{e:Expr}{te:TE}{pos':Pos}(hN:X.N.Nodup)(hi:X.N[i]?=some x)(hx:Loc X.env.scope x)(he:PE X e te)(hs:swapsWith e (some (.Name x pos')) pos.line X.env=pure false:=by rfl)(hf:X.fn x=true∨X.env.scope.names.lookup x=some .local:=by first|exact .inl rfl|exact .inr rfl|assumption):PS X (.Assign [.Name x pos'] e pos) (zI te (qE i)):=by intro pins s σ H D I h;refine wpAny_Assign_Name (v5 (he pins s σ H _ I h) λv s1 ⟨y,H1,I1,r1,q1⟩=>?_) hs;exact PD I1 hN hi hx r1 (λs2 I2=>⟨_,H1,I2,q1⟩) hf
end
section
variable {X:Cx}{pos:Pos}
def PZ (c:TT)(tb:TS):TS:=λD σ H=>∃ W:Nat->St->Hp->Prop,(∃ m,W m σ H)/\∀ m σ H,W m σ H ->
 c σ H λb H1=>if b=true then ∃ N:St->Hp->Prop,(∀ σ' H',N σ' H'->∃ m',m'<m/\W m' σ' H')/\tb { D with nx:=N,ct:=N,bk:=D.nx } σ H1 else D.nx σ H1
theorem RA (hp:PassesOwn (model X.prog X.w) X.A X.env X.xe)(hc:PT X c tc)(hb:PSs X body tb):PS X (.While c body [] pos) (PZ tc tb):=by
 intro pins s σ H D I h;obtain ⟨W,⟨m0,w0⟩,turn⟩:=h;refine wpAny_While (codeAny_whileLoop (λn s'=>∃ σ' H',Inv X pins σ' H' s'/\W n σ' H') ?_ m0 ⟨σ,H,I,w0⟩);rintro n s1 ⟨σ1,H1,I1,w1⟩;refine wpAny_passesOwn hp (v5 (hc pins s1 σ1 H1 _ I1 (turn n σ1 H1 w1)) λb s2 ⟨H2,I2,q2⟩=>?_);cases b with
 |true =>
  obtain ⟨N,hN,q2⟩:=q2;rw [if_pos rfl];refine wpAny_passesOwn hp (v5 (hb pins s2 σ1 H2 _ I2 q2) λf s3 q3=>?_);cases f with
  |next=>obtain ⟨σ3,H3,I3,n3⟩:=q3;obtain ⟨m',hm,w3⟩:=hN σ3 H3 n3;exact ⟨m',hm,σ3,H3,I3,w3⟩
  |cont=>obtain ⟨σ3,H3,I3,n3⟩:=q3;obtain ⟨m',hm,w3⟩:=hN σ3 H3 n3;exact ⟨m',hm,σ3,H3,I3,w3⟩
  |brk=>exact q3
  |ret v=>exact q3
 |false=>rw [if_neg yR];exact wpAny_execs_nil ⟨σ1,H2,I2,q2⟩
end
structure It where
 go:Nat->Hp->Prop
 yld:Nat->Hp->V->Hp->Prop
 stop:Nat->Hp->Prop
def xf (X:Cx)(pins:List (Addr×Obj))(H:Hp)(b:Addr):Prop :=
 H b=none/\b≠X.env.locals/\b∉X.fs/\(b∈X.ex∨X.s₀.heap.objs.size<=b)/\(∀ x c,X.env.cells.lookup x=some c->c≠b)/\∀ p∈X.pn++pins,p.1≠b
theorem Inv.fpOk {H':Hp}(I:Inv X pins σ H s)(hb:s.heap.objs.size<=b)(hn:H' b=none):xf X pins H' b:=by
 refine ⟨hn,uf (yz I.lt hb),I.nofs hb,.inr (yg I.sz hb),λx c e z=>?_,λp hp z=>?_⟩
 ·obtain ⟨v,q⟩:=I.cell x c e;exact absurd (yz q.lt (by rw [z];exact hb)) (uT _)
 ·exact absurd (yz (yO (I.pin p hp).1) (by rw [z];exact hb)) (uT _)
structure je (P:Program)(w:World)(K:Fg)(tg:Expr)(J:It)(fp:List Addr)(it:Addr)(tn:Nat->Heap->Prop):Prop where
 mem:it∈fp
 obj:∀ i h,tn i h->∀ b∈fp,∃ o,h.get? b=some o/\∀ v,o.data ≠ .cell v
 keep:∀ i h h',tn i h->(∀ b∈fp,∀ o,h.get? b=some o->h'.get? b=some o)->tn i h'
 item:∀(X:Cx),X.prog=P->X.w=w->X.K=K->X.calm=true->∀(i:Nat)(pins:List (Addr×Obj))(s:Shared)(σ:St)(H:Hp)(E:Value->Shared->Prop),Inv X pins σ H s->(∀ b∈fp,xf X pins H b)->tn i s.heap->J.go i H ->
  wpAny (model P w) X.A (pyNext (.ref it)) (λr s1=>∃ u,r=some u /\
   wpAny (model P w) X.A (letOwnedTupleGo tg (.ref it) u) (λ_ s2=>∃ x H',Inv X pins σ H' s2/\RelV x u/\J.yld i H x H'/\tn (i+1) s2.heap/\∀ b∈fp,H' b=none) E s1) E s
 done:∀(X:Cx),X.prog=P->X.w=w->X.K=K->X.calm=true->∀(i:Nat)(pins:List (Addr×Obj))(s:Shared)(σ:St)(H:Hp)(E:Value->Shared->Prop),Inv X pins σ H s->(∀ b∈fp,xf X pins H b)->tn i s.heap->J.stop i H ->
  wpAny (model P w) X.A (pyNext (.ref it)) (λr s1=>r=none/\Inv X pins σ H s1) E s
 self:∀(A:Around)(i:Nat)(s:Shared)(Q:Value->Shared->Prop)(E:Value->Shared->Prop),tn i s.heap->Q (.ref it) s->wpAny (model P w) A (pyIter (.ref it)) Q E s
abbrev TI:=St->Hp->(It->Hp->Prop)->Prop
def PIE (X:Cx)(pins:List (Addr×Obj))(σ:St)(tg:Expr)(R:It->Hp->Prop)(itv:Value)(s2:Shared):Prop :=
 ∃(it:Addr)(fp:List Addr)(tn:Nat->Heap->Prop)(J:It)(H':Hp),itv = .ref it/\Inv X pins σ H' s2/\je X.prog X.w X.K tg J fp it tn/\tn 0 s2.heap/\(∀ b∈fp,xf X pins H' b)/\R J H'
def PI (X:Cx)(tg iter:Expr)(wi:TI):Prop :=
 ∀(pins:List (Addr×Obj))(s:Shared)(σ:St)(H:Hp)(R:It->Hp->Prop),Inv X pins σ H s->wi σ H R ->
  wpAny (model X.prog X.w) X.A (eval iter X.env) (λv s1=>wpAny (model X.prog X.w) X.A (pyIter v) (PIE X pins σ tg R) X.xe s1) X.xe s
theorem XZ {M:Model}{o:Obj}{n:String}{vs:Array Value}{Q:Unit->Shared->Prop}(ho:s.heap.get? it=some o)(hc:o.cls = .type n)(hd:o.data = .fields vs)(hn:["enumerate","zip","dict_itemiterator","dict_reverseitemiterator","odict_iterator","itertools.zip_longest","itertools.pairwise"].contains n=false)(hQ:Q () s):wpAny M A (letOwnedTupleGo tg (.ref it) u) Q E s:=by
  unfold letOwnedTupleGo;cases tg<;>first
    |exact yC hQ
    | (cases u <;> first
        |exact yC hQ
        | (refine yX (wpAny_load ho ?_)
           rw [hc,hd];show wpAny M A (if (["enumerate","zip","dict_itemiterator","dict_reverseitemiterator","odict_iterator","itertools.zip_longest","itertools.pairwise"].contains n&&vs[0]?==some (rawInt _))=true then _ else _) Q E s;rw [if_neg (by intro h;rw [hn,Bool.false_and] at h;cases h)];exact yC hQ))
def Itl (K:Fg)(a:Addr):It :=
 ⟨λi H=>∃ xs x,SqL K H a xs/\xs[i]?=some x,λi H x H'=>H'=H/\∀ xs,SqL K H a xs->xs[i]?=some x,λi H=>∃ xs,SqL K H a xs/\xs.length<=i⟩
def Itr (lo:Int)(n:Nat):It:=⟨λi _=>i<n,λi H x H'=>H'=H/\x = .int (lo+i),λi _=>n<=i⟩
theorem SI (a it:Addr):je P w K tg (Itl K a) [it] it (λi h=>h.IsListIter it a i) where
 mem:=by simp
 obj:=λi h st b hb=>by
  have e:b=it:=by simpa using hb
  subst e;obtain ⟨o,e,c,d⟩:=st;exact ⟨o,e,λv z=>by rw [d] at z;cases z⟩
 keep:=λi h h' st k=>st.at λo e=>k it (by simp) o e
 item:=by intro X hP hw hK hc i pins s σ H E I hf st hg;subst hP hw hK;obtain ⟨xs,x,hq,hx⟩:=hg;obtain ⟨its,rv,p,hz⟩:=I.list hq;obtain ⟨u,hu,ru⟩:=rv.get hx;obtain ⟨f0,f1,f2,f3,f4,f5⟩:=hf it (by simp);refine wpAny_pyNext_list_item st p.isList (x:=u) (by simpa using hu) λh' st' sb=>?_;have I1:Inv X pins σ H { s with heap:=h' }:=I.turned (t':=s.toks) (λb o hb e=>(sb.2 b hb).trans e) f0 f1 f3 f4 f5;obtain ⟨o,e,c,d⟩:=id st';exact ⟨u,rfl,XZ (s:={ s with heap:=h' }) e c d (by decide) ⟨x,H,I1,ru,⟨rfl,λys hy=>by rw [I.list_inj hy hq];exact hx⟩,st',λb hb=>(hf b hb).1⟩⟩
 done:=by intro X hP hw hK hc i pins s σ H E I hf st hg;subst hP hw hK;obtain ⟨xs,hq,hx⟩:=hg;obtain ⟨its,rv,p,hz⟩:=I.list hq;obtain ⟨f0,f1,f2,f3,f4,f5⟩:=hf it (by simp);have hl:=rv.length;exact wpAny_pyNext_list_end (I.ok.hd hc) st p.isList (by simp;omega) λh' eb=>⟨rfl,I.turned (t':=s.toks) (λb o hb e=>eb b o hb e) f0 f1 f3 f4 f5⟩
 self:=λ_ _ _ _ _ st h=>wpAny_pyIter_listiter st h
theorem SJ (it:Addr)(lo:Int)(n:Nat):je P w K tg (Itr lo n) [it] it (λi h=>IsRangeIter h it (lo+(i:Nat)*1) ((n:Int)-(i:Nat)) 1) where
 mem:=by simp
 obj:=λi h st b hb=>by
  have e:b=it:=by simpa using hb
  subst e;exact ⟨_,st,λv z=>by
   have z':Data.fields _=Data.cell v:=z;cases z'⟩
 keep:=λi h h' st k=>k it (by simp) _ st
 item:=by intro X hP hw hK hc i pins s σ H E I hf st hg;subst hP hw hK;obtain ⟨f0,f1,f2,f3,f4,f5⟩:=hf it (by simp);have W:=Walks.range (prog:=X.prog) (w:=X.w) (I.ok.hd hc) it lo 1 n;refine W.item i s _ _ hg st λv h' tk hv st' kk=>?_;obtain ⟨t,rfl⟩:=hv;have I1:Inv X pins σ H { s with heap:=h',toks:=tk }:=I.turned (λb o hb e=>kk b o (by simpa using hb) e) f0 f1 f3 f4 f5;refine ⟨_,rfl,XZ (s:={ s with heap:=h',toks:=tk }) (n:="range_iterator") st' rfl rfl (by decide) ⟨.int (lo+i),H,I1,⟨t,?_⟩,⟨rfl,rfl⟩,st',λb hb=>(hf b hb).1⟩⟩;rw [Int.mul_one]
 done:=by intro X hP hw hK hc i pins s σ H E I hf st hg;subst hP hw hK;obtain ⟨f0,f1,f2,f3,f4,f5⟩:=hf it (by simp);exact wpAny_pyNext_range_end (I.ok.hd hc) st (by have:n<=i:=hg;omega) λh' eb=>⟨rfl,I.turned (t':=s.toks) (λb o hb e=>eb b o hb e) f0 f1 f3 f4 f5⟩
 self:=λ_ _ _ _ _ st h=>wpAny_pyIter_rangeiter st h
section
variable {X:Cx}{tg:Expr}
def Zc (K:Fg)(tl:TE):TI:=λσ H R=>tl σ H λx H1=>∃ a,x = .ref a/\(∃ xs,SqL K H1 a xs)/\R (Itl K a) H1
theorem Rp {l:Expr}{tl:TE}(hl:PE X l tl):PI X tg l (Zc X.K tl):=by
 intro pins s σ H R I h;refine v5 (hl pins s σ H _ I h) λv s1 ⟨x,H1,I1,r1,q1⟩=>?_;obtain ⟨a,e,⟨xs,hq⟩,q⟩:=q1;subst e;cases r1;obtain ⟨its,rv,p,hz⟩:=I1.list hq;refine wpAny_pyIter_list p.isList ?_;refine ⟨s1.heap.objs.size,[s1.heap.objs.size],_,_,H1,rfl,I1.kept (t':=s1.toks) λb o e=>yV _ e,SI a _,⟨_,yD _ rfl,rfl,rfl⟩,λb hb=>?_,q⟩;have e:b=s1.heap.objs.size:=by simpa using hb
 subst e;exact I1.fpOk (yU _) (I1.hok.fresh (yU _))
theorem RG {R:It->Hp->Prop}{hi:Int}{t u v:Tok}{tk:Nat}(I:Inv X pins σ H s)(h1:-(2 ^ 62)<=lo)(h2:lo<2 ^ 62)(h3:-(2 ^ 62)<=hi)(h4:hi<2 ^ 62)(q:R (Itr lo (hi-lo).toNat) H):wpAny (model X.prog X.w) X.A (pyIter (.ref s.heap.objs.size)) (PIE X pins σ tg R) E { s with heap:=s.heap.push { cls:= .type "range",data:= .fields #[.int lo t,.int hi u,.int 1 v] },toks:=tk }:=by
 refine wpAny_pyIter_range (IsRange.new ..) (small_one h1 h2 h3 h4) ?_;have I1:Inv X pins σ H { s with heap:=s.heap.push { cls:= .type "range",data:= .fields #[.int lo t,.int hi u,.int 1 v] },toks:=tk }:=I.kept λb o e=>yV _ e;refine ⟨(s.heap.push { cls:= .type "range",data:= .fields #[.int lo t,.int hi u,.int 1 v] }).objs.size,[(s.heap.push { cls:= .type "range",data:= .fields #[.int lo t,.int hi u,.int 1 v] }).objs.size],_,_,H,rfl,
  I1.kept (t':=tk) λb o e=>yV _ e,SJ _ lo (hi-lo).toNat,?_,λb hb=>?_,q⟩
 ·have e1:lo+((0:Nat):Int)*1=lo:=by simp
  have e2:(((hi-lo).toNat:Nat):Int)-((0:Nat):Int)=Builtin.Range.rangeSize lo hi 1:=by rw [rangeSize_one];split<;>omega
  show IsRangeIter _ _ (lo+((0:Nat):Int)*1) ((((hi-lo).toNat:Nat):Int)-((0:Nat):Int)) 1;rw [e1,e2];exact yD _ rfl
 ·have e:b=(s.heap.push { cls:= .type "range",data:= .fields #[.int lo t,.int hi u,.int 1 v] }).objs.size:=by simpa using hb
  subst e;exact I1.fpOk (yU _) (I1.hok.fresh (yU _))
def vo (ta:TA):TI:=λσ H R=>ta σ H λvs H1=>∃ j:Int,vs=[.int j]/\-(2 ^ 62)<=j/\j<2 ^ 62/\R (Itr 0 j.toNat) H1
theorem zF {a:Expr}{ta:TA}{p:Pos}(hg:Gl X "range")(hm:X.mg "range"=none)(ha:PA X [a] ta)(hs:starEach [a] X.env=[(false,eval a X.env)]:=by rfl):PI X tg (.Call (.Name "range" p) [a] [] pos) (vo ta):=by
 intro pins s σ H R I h;refine Call_ (zS I hg hm boot_range (PyProof.Rows.callWith_type1 (v5 (ha pos pins s σ H _ I h) λus s1 ⟨vs,H1,I1,r1,q1⟩=>?_) hs rfl));obtain ⟨j,e,q1,q2,q⟩:=q1;subst e;cases r1 with
 |cons r rr=>cases rr;obtain ⟨t,rfl⟩:=r;exact call_range_1 (RG I1 (by omega) (by omega) q1 q2 (by simpa using q))
def tFor (wi:TI)(g:TG)(tb:TS):TS:=λD σ H=>wi σ H λJ H1=>∃ W:Nat->Nat->St->Hp->Prop,(∃ m,W 0 m σ H1)/\∀ i m σ H,W i m σ H ->
 (J.stop i H/\D.nx σ H)∨(J.go i H/\∃ N:St->Hp->Prop,(∀ σ' H',N σ' H'->∃ m',m'<m/\W (i+1) m' σ' H')/\∀ x H',J.yld i H x H'->g x σ H' λσ2 H2=>tb { D with nx:=N,ct:=N,bk:=D.nx } σ2 H2)
def Xe (fp:List Addr)(h:Heap):List (Addr×Obj):=fp.filterMap λb=>(h.get? b).map λo=>(b,o)
theorem Zy {o:Obj}(hb:b∈fp)(e:h.get? b=some o):(b,o)∈Xe fp h:=List.mem_filterMap.mpr ⟨b,hb,by rw [e];rfl⟩
theorem Nq {p:Addr×Obj}(hp:p∈Xe fp h):p.1∈fp/\h.get? p.1=some p.2:=by
 obtain ⟨b,hb,e⟩:=List.mem_filterMap.mp hp;cases q:h.get? b with
 |none=>rw [q] at e;cases e
 |some o=>rw [q] at e;have e':(b,o)=p:=Option.some.inj e;subst e';exact ⟨hb,q⟩
theorem Inv.pinned (I:Inv X pins σ H s)(hf:∀ b∈fp,xf X pins H b)(ho:∀ b∈fp,∃ o,s.heap.get? b=some o/\∀ v,o.data ≠ .cell v):Inv X (pins++Xe fp s.heap) σ H s :=
 I.pins_of λp hp=>(yo.mp hp).elim (λz=>I.pin p (yr _ z)) λz=>by
  obtain ⟨hb,e⟩:=Nq z;obtain ⟨f0,f1,f2,_⟩:=hf p.1 hb;obtain ⟨o,e',d⟩:=ho p.1 hb;rw [e] at e';cases e';exact ⟨e,f0,f1,f2,d⟩
theorem Inv.unpinned {pl:List (Addr×Obj)}(I:Inv X (pins++pl) σ H s):Inv X pins σ H s:=I.pins_of λp hp=>I.pin p (yr _ (uX _ hp))
theorem qO {iter:Expr}{wi:TI}{g:TG}(hp:PassesOwn (model X.prog X.w) X.A X.env X.xe)(hc:X.calm=true)(hi:PI X tg iter wi)(hg:PG X tg g)(hb:PSs X body tb)(hs:∀ x,foldedSetIterable iter X.env x=pure x:=by intro _;rfl):PS X (.For tg iter body [] pos) (tFor wi g tb):=by
 intro pins s σ H D I h;refine wpAny_For (v5 (hi pins s σ H _ I h) λv s1 h1=>v5 h1 λitv s2 h2=>?_) hs;obtain ⟨it,fp,tn,J,H2,e,I2,T,st2,f2,W,⟨m0,w0⟩,turn⟩:=h2;subst e
 -- what stays true of the iterator's objects through the loop
 have stat:∀{H':Hp},(∀ b∈fp,H' b=none)->∀ b∈fp,xf X pins H' b:=λhn b hb=>⟨hn b hb,(f2 b hb).2⟩;refine codeAny_forLoop_any (λn s'=>∃ i σ' H',Inv X pins σ' H' s'/\tn i s'.heap/\(∀ b∈fp,H' b=none)/\W i n σ' H') ?_ m0 ⟨0,σ,H2,I2,st2,λb hb=>(f2 b hb).1,w0⟩;rintro n s3 ⟨i,σ3,H3,I3,st3,fr3,w3⟩;rcases turn i n σ3 H3 w3 with ⟨stop,qn⟩|⟨go,N,hN,step⟩
 ·refine wpAny_passesOwn hp (v5 (T.done X rfl rfl rfl hc i pins s3 σ3 H3 X.xe I3 (stat fr3) st3 stop) λr s4 ⟨hr,I4⟩=>?_);subst hr;exact wpAny_execs_nil ⟨σ3,H3,I4,qn⟩
 ·refine wpAny_passesOwn hp (v5 (T.item X rfl rfl rfl hc i pins s3 σ3 H3 X.xe I3 (stat fr3) st3 go) λr s4 ⟨u,hr,h4⟩=>?_);subst hr;refine wpAny_passesOwn hp (v5 h4 λ_ s5 ⟨x,H5,I5,r5,y5,st5,fr5⟩=>?_);have I5':=I5.pinned (stat fr5) (T.obj _ _ st5);refine wpAny_passesOwn hp (v5 (hg _ s5 σ3 H5 x u _ I5' r5 (step x H5 y5)) λ_ s6 ⟨σ6,H6,I6,q6⟩=>?_);refine wpAny_passesOwn hp (v5 (hb _ s6 σ6 H6 _ I6 q6) λf s7 q7=>?_);have again:∀{σ7:St}{H7:Hp},Inv X (pins++Xe fp s5.heap) σ7 H7 s7->N σ7 H7->∃ m,m<n/\∃ i σ' H',Inv X pins σ' H' s7/\tn i s7.heap/\(∀ b∈fp,H' b=none)/\W i m σ' H':=λ{σ7 H7} I7 n7=>by
   obtain ⟨m',hm,w7⟩:=hN σ7 H7 n7;refine ⟨m',hm,i+1,σ7,H7,I7.unpinned,T.keep _ _ _ st5 λb hb o e=>(I7.pin (b,o) (yr _ (yr _ (Zy hb e)))).1,λb hb=>?_,w7⟩;obtain ⟨o,e,d⟩:=T.obj _ _ st5 b hb;exact (I7.pin (b,o) (yr _ (yr _ (Zy hb e)))).2.1
  cases f with
  |next=>obtain ⟨σ7,H7,I7,n7⟩:=q7;exact again I7 n7
  |cont=>obtain ⟨σ7,H7,I7,n7⟩:=q7;exact again I7 n7
  |brk=>obtain ⟨σ7,H7,I7,q7⟩:=q7;exact ⟨σ7,H7,I7.unpinned,q7⟩
  |ret v=>obtain ⟨x7,σ7,H7,I7,r7,q7⟩:=q7;exact ⟨x7,σ7,H7,I7.unpinned,r7,q7⟩
end
theorem Mw {g:TG}(Pv:Nat->St->Hp->Prop)(h0:Pv 0 σ H)(hl:∀ i σ H,i<=xs.length->Pv i σ H->SqL K H a xs)(hs:∀ i x σ H,xs[i]?=some x->Pv i σ H->g x σ H λσ2 H2=>tb { D with nx:=Pv (i+1),ct:=Pv (i+1),bk:=D.nx } σ2 H2)(hd:∀ σ H,Pv xs.length σ H->D.nx σ H):∃ W:Nat->Nat->St->Hp->Prop,(∃ m,W 0 m σ H)/\∀ i m σ H,W i m σ H -> ((Itl K a).stop i H/\D.nx σ H)∨((Itl K a).go i H/\∃ N:St->Hp->Prop,(∀ σ' H',N σ' H'->∃ m',m'<m/\W (i+1) m' σ' H')/\∀ x H',(Itl K a).yld i H x H'->g x σ H' λσ2 H2=>tb { D with nx:=N,ct:=N,bk:=D.nx } σ2 H2):=by
 refine ⟨λi m σ H=>m=xs.length-i/\i<=xs.length/\Pv i σ H,⟨xs.length,by simp,yh _,h0⟩,?_⟩;rintro i m σ H ⟨rfl,hi,p⟩;have q:=hl i σ H hi p;by_cases hlt:i<xs.length
 ·refine .inr ⟨⟨xs,xs[i],q,by simp [hlt]⟩,Pv (i+1),λσ' H' p'=>⟨xs.length-(i+1),by omega,rfl,hlt,p'⟩,λx H' y=>?_⟩;obtain ⟨e,y⟩:=y;subst e;exact hs i x σ _ (y xs q) p
 ·have e:i=xs.length:=by omega
  subst e;exact .inl ⟨⟨xs,q,yU _⟩,hd σ H p⟩
theorem Qz {g:TG}(Pv:Nat->St->Hp->Prop)(h0:Pv 0 σ H)(hs:∀ i σ H,i<n->Pv i σ H->g (.int (lo+i)) σ H λσ2 H2=>tb { D with nx:=Pv (i+1),ct:=Pv (i+1),bk:=D.nx } σ2 H2)(hd:∀ σ H,Pv n σ H->D.nx σ H):∃ W:Nat->Nat->St->Hp->Prop,(∃ m,W 0 m σ H)/\∀ i m σ H,W i m σ H -> ((Itr lo n).stop i H/\D.nx σ H)∨((Itr lo n).go i H/\∃ N:St->Hp->Prop,(∀ σ' H',N σ' H'->∃ m',m'<m/\W (i+1) m' σ' H')/\∀ x H',(Itr lo n).yld i H x H'->g x σ H' λσ2 H2=>tb { D with nx:=N,ct:=N,bk:=D.nx } σ2 H2):=by
 refine ⟨λi m σ H=>m=n-i/\i<=n/\Pv i σ H,⟨n,by simp,yh _,h0⟩,?_⟩;rintro i m σ H ⟨rfl,hi,p⟩;by_cases hlt:i<n
 ·refine .inr ⟨hlt,Pv (i+1),λσ' H' p'=>⟨n-(i+1),by omega,rfl,hlt,p'⟩,λx H' y=>?_⟩;obtain ⟨e,y⟩:=y;subst e y;exact hs i σ _ hlt p
 ·have e:i=n:=by omega
  subst e;exact .inl ⟨yU _,hd σ H p⟩
abbrev R2:=V->V->Hp->VK->Prop
variable{r r':R2}
def OpR (X:Cx)(f:Value->Value->Sem Value)(r:R2):Prop :=
 ∀(pins:List (Addr×Obj))(s:Shared)(σ:St)(H:Hp)(x y:V)(v u:Value)(Q:VK),Inv X pins σ H s->RelV x v->RelV y u->r x y H Q ->
  wpAny (model X.prog X.w) X.A (f v u) (EP X pins σ Q) X.xe s
def UnR (X:Cx)(f:Value->Sem Value)(r:V->Hp->VK->Prop):Prop :=
 ∀(pins:List (Addr×Obj))(s:Shared)(σ:St)(H:Hp)(x:V)(v:Value)(Q:VK),Inv X pins σ H s->RelV x v->r x H Q ->
  wpAny (model X.prog X.w) X.A (f v) (EP X pins σ Q) X.xe s
def CallR (X:Cx)(f:Value)(r:List V->Hp->VK->Prop):Prop :=
 ∀(pins:List (Addr×Obj))(s:Shared)(σ:St)(H:Hp)(xs:List V)(us:List Value)(Q:VK),Inv X pins σ H s->Vals xs us->r xs H Q ->
  wpAny (model X.prog X.w) X.A (call f us) (EP X pins σ Q) X.xe s
def TruR (X:Cx)(r:V->Hp->(Bool->Hp->Prop)->Prop):Prop :=
 ∀(pins:List (Addr×Obj))(s:Shared)(σ:St)(H:Hp)(x:V)(v:Value)(Q:Bool->Hp->Prop),Inv X pins σ H s->RelV x v->r x H Q ->
  wpAny (model X.prog X.w) X.A (truthy v) (TP X pins σ Q) X.xe s
def tOp (r:R2)(ta tb:TE):TE:=λσ H Q=>ta σ H λx H1=>tb σ H1 λy H2=>r x y H2 Q
def tUn (r:V->Hp->VK->Prop)(ta:TE):TE:=λσ H Q=>ta σ H λx H1=>r x H1 Q
def rI (C:Int->Int->Prop)(g:Int->Int->V):R2:=λx y H Q=>∃ i j,x = .int i/\y = .int j/\C i j/\Q (g i j) H
def rI0 (g:Int->Int->V):R2:=λx y H Q=>∃ i j,x = .int i/\y = .int j/\Q (g i j) H
def rU (g:Int->V):V->Hp->VK->Prop:=λx H Q=>∃ i,x = .int i/\Q (g i) H
section
variable {X:Cx}{a b c:Expr}{ta tb tc:TE}{pos:Pos}
theorem binT (ha:PE X a ta)(hb:PE X b tb)(I:Inv X pins σ H s)(h:ta σ H λx H1=>tb σ H1 λy H2=>R x y H2)(hf:∀ v u s2 x y H2,Inv X pins σ H2 s2->RelV x v->RelV y u->R x y H2->wpAny (model X.prog X.w) X.A (f v u) Q X.xe s2):wpAny (model X.prog X.w) X.A (eval a X.env) (λv s₁=>wpAny (model X.prog X.w) X.A (eval b X.env) (λu s₂=>wpAny (model X.prog X.w) X.A (f v u) Q X.xe s₂) X.xe s₁) X.xe s:=by refine v5 (ha pins s σ H _ I h) λv s1 ⟨x,H1,I1,r1,q1⟩=>?_;refine v5 (hb pins s1 σ H1 _ I1 q1) λu s2 ⟨y,H2,I2,r2,q2⟩=>?_;exact hf v u s2 x y H2 I2 r1 r2 q2
theorem u5 {op:Operator}(ho:OpR X (binaryOp op) r)(ha:PE X a ta)(hb:PE X b tb):PE X (.BinOp a op b pos) (tOp r ta tb):=by intro pins s σ H Q I h;exact wpAny_BinOp (binT ha hb I h λv u s2 x y H2 I2 rx ry q=>ho pins s2 σ H2 x y v u Q I2 rx ry q)
theorem Vs {op:UnaryOp}{r:V->Hp->VK->Prop}(ho:UnR X (unaryOp op) r)(ha:PE X a ta):PE X (.UnaryOp op a pos) (tUn r ta):=by intro pins s σ H Q I h;exact UnaryOp_ (v5 (ha pins s σ H _ I h) λv s1 ⟨x,H1,I1,r1,q1⟩=>ho pins s1 σ H1 x v Q I1 r1 q1)
theorem opI {C:Int->Int->Prop}{g:Int->Int->Int}(rule:∀(i j:Int)(t u:Tok)(s:Shared)(Q:Value->Shared->Prop)(E:Value->Shared->Prop),C i j->Q (.int (g i j) s.toks) { s with toks:=s.toks+1 }->wpAny (model X.prog X.w) X.A (f (.int i t) (.int j u)) Q E s):OpR X f (rI C λi j=> .int (g i j)):=by intro pins s σ H x y v u Q I rx ry h;obtain ⟨i,j,rfl,rfl,hc,q⟩:=h;obtain ⟨t,rfl⟩:=rx;obtain ⟨t',rfl⟩:=ry;exact rule i j t t' s _ _ hc ⟨.int (g i j),H,I.tok _,⟨_,rfl⟩,q⟩
theorem opI0 {g:Int->Int->Int}(rule:∀(i j:Int)(t u:Tok)(s:Shared)(Q:Value->Shared->Prop)(E:Value->Shared->Prop),Q (.int (g i j) s.toks) { s with toks:=s.toks+1 }->wpAny (model X.prog X.w) X.A (f (.int i t) (.int j u)) Q E s):OpR X f (rI0 λi j=> .int (g i j)):=by intro pins s σ H x y v u Q I rx ry h;obtain ⟨i,j,rfl,rfl,q⟩:=h;obtain ⟨t,rfl⟩:=rx;obtain ⟨t',rfl⟩:=ry;exact rule i j t t' s _ _ ⟨.int (g i j),H,I.tok _,⟨_,rfl⟩,q⟩
theorem opB0 {g:Int->Int->Bool}(rule:∀(i j:Int)(t u:Tok)(s:Shared)(Q:Value->Shared->Prop)(E:Value->Shared->Prop),Q (.bool (g i j)) s->wpAny (model X.prog X.w) X.A (f (.int i t) (.int j u)) Q E s):OpR X f (rI0 λi j=> .bl (g i j)):=by intro pins s σ H x y v u Q I rx ry h;obtain ⟨i,j,rfl,rfl,q⟩:=h;obtain ⟨t,rfl⟩:=rx;obtain ⟨t',rfl⟩:=ry;exact rule i j t t' s _ _ ⟨.bl (g i j),H,I,rfl,q⟩
def jx (i j:Int):Prop:=0<=j/\j<=1000000/\i.natAbs<2 ^ 64
def CMul (i j:Int):Prop:=(-(2 ^ 64)<i/\i<2 ^ 64)∨(-(2 ^ 64)<j/\j<2 ^ 64)
theorem CMul.ok {i j:Int}(h:CMul i j):IntMulOk i j:=by
 rcases h with ⟨h1,h2⟩|⟨h1,h2⟩
 ·exact .of_left (intBits_le_64 h1 h2)
 ·exact .of_right (intBits_le_64 h1 h2)
theorem op_add:OpR X (binaryOp .Add) (rI0 λi j=> .int (i+j)):=opI0 λ_ _ _ _ _ _ _ q=>add_int q
theorem wT:OpR X (binaryOp .Sub) (rI0 λi j=> .int (i-j)):=opI0 λ_ _ _ _ _ _ _ q=>sub_int q
theorem wR:OpR X (binaryOp .Mult) (rI CMul λi j=> .int (i*j)):=opI λ_ _ _ _ _ _ _ hc q=>mul_int q hc.ok
theorem vD:OpR X (binaryOp .Mod) (rI (λ_ j=>0<j) λi j=> .int (i % j)):=opI λi j _ _ _ _ _ hc q=>by
 have h1:(0:Int)<j:=hc;exact mod_int' (by omega) (by rw [Int.fmod_eq_emod_of_nonneg i (by omega)];exact q)
theorem wS:OpR X (binaryOp .Pow) (rI jx λi j=> .int (i ^ j.toNat)):=opI λ_ _ _ _ _ _ _ hc q=>pow_int_small hc.1 hc.2.1 hc.2.2 q
theorem unI {f:Value->Sem Value}{g:Int->Int}(rule:∀(i:Int)(t:Tok)(s:Shared)(Q:Value->Shared->Prop)(E:Value->Shared->Prop),Q (.int (g i) s.toks) { s with toks:=s.toks+1 }->wpAny (model X.prog X.w) X.A (f (.int i t)) Q E s):UnR X f (rU λi=> .int (g i)):=by intro pins s σ H x v Q I rx h;obtain ⟨i,rfl,q⟩:=h;obtain ⟨t,rfl⟩:=rx;exact rule i t s _ _ ⟨.int (g i),H,I.tok _,⟨_,rfl⟩,q⟩
theorem Yr:UnR X (unaryOp .USub) (rU λi=> .int (-i)):=unI λ_ _ _ _ _ q=>neg_int q
end
section
variable {X:Cx}{a b c:Expr}{ta tb tc:TE}{pos:Pos}
theorem XX {Q:VK}{k k':Bool}(I:Inv X pins σ H s)(q:Q (.bl k) H)(e:k=k'):EP X pins σ Q (.bool k') s:=by subst e;exact ⟨.bl k,H,I,rfl,q⟩
theorem wQ:OpR X (compareOp .Lt) (rI0 λi j=> .bl (decide (i<j))):=opB0 λ_ _ _ _ _ _ _ q=>lt_int q
theorem wO:OpR X (compareOp .LtE) (rI0 λi j=> .bl (decide (i<=j))):=opB0 λ_ _ _ _ _ _ _ q=>le_int q
theorem vC:OpR X (compareOp .Gt) (rI0 λi j=> .bl (decide (j<i))):=opB0 λ_ _ _ _ _ _ _ q=>gt_int q
theorem ZB:OpR X (compareOp .GtE) (rI0 λi j=> .bl (decide (j<=i))):=opB0 λ_ _ _ _ _ _ _ q=>ge_int q
theorem HP:OpR X (compareOp .Is) (λx y H Q=>y = .non/\Q (.bl (decide (x = .non))) H):=by
 intro pins s σ H x y v u Q I rx ry h;obtain ⟨rfl,q⟩:=h;cases ry;refine is_none_gen (XX I q ?_);cases x<;>first
  |(cases rx;rfl)
  |(obtain ⟨t,rfl⟩:=rx;rfl)
theorem HW:OpR X (compareOp .IsNot) (λx y H Q=>y = .non/\Q (.bl (!decide (x = .non))) H):=by
 intro pins s σ H x y v u Q I rx ry h;obtain ⟨rfl,q⟩:=h;cases ry;refine isnot_none_gen (XX I q ?_);cases x<;>first
  |(cases rx;rfl)
  |(obtain ⟨t,rfl⟩:=rx;rfl)
theorem OpR.or (h:OpR X f r)(h':OpR X f r'):OpR X f (λx y H Q=>r x y H Q∨r' x y H Q):=by
 intro pins s σ H x y v u Q I rx ry q;rcases q with q|q
 ·exact h pins s σ H x y v u Q I rx ry q
 ·exact h' pins s σ H x y v u Q I rx ry q
theorem k5 (b:Expr)(h:op ≠ .In:=by decide)(h2:op ≠ .NotIn:=by decide):behindInMarks op b=false:=by
 have e1:(op==CmpOp.In)=false:=by cases op<;>first|rfl|exact absurd rfl h
 have e2:(op==CmpOp.NotIn)=false:=by cases op<;>first|rfl|exact absurd rfl h2
 cases b<;>simp [behindInMarks,e1,e2]
theorem xm (ho:OpR X (compareOp op) r)(ha:PE X a ta)(hb:PE X b tb)(hm:behindInMarks op b=false):PE X (.Compare a [op] [b] pos) (tOp r ta tb):=by intro pins s σ H Q I h;exact wpAny_Compare1 (binT ha hb I h λv u s2 x y H2 I2 rx ry q=>ho pins s2 σ H2 x y v u Q I2 rx ry q) hm
def Yp (t:TE):TT:=λσ H Q=>t σ H λx H'=>∃ k,x = .bl k/\Q k H'
theorem n9 (ho:OpR X (compareOp op) r)(ha:PE X a ta)(hb:PE X b tb)(hm:behindInMarks op b=false):PT X (.Compare a [op] [b] pos) (Yp (tOp r ta tb)):=by
 intro pins s σ H Q I h;refine wpAny_isTrue_Compare1 (v5 (ha pins s σ H _ I h) λv s1 ⟨x,H1,I1,r1,q1⟩=>v5 (hb pins s1 σ H1 _ I1 q1) λu s2 ⟨y,H2,I2,r2,q2⟩ =>
  v5 (ho pins s2 σ H2 x y v u _ I2 r1 r2 q2) λc s3 ⟨z,H3,I3,r3,k,e,q3⟩=>?_) hm
 subst e;cases r3;exact wpAny_truthy_bool ⟨H3,I3,q3⟩
def Yn (r r':R2)(ta tb tc:TE):TE:=λσ H Q=>ta σ H λx H1=>tb σ H1 λy H2=>r x y H2 λz H3=>∃ k,z = .bl k /\
 (if k=true then tc σ H3 λw' H4=>r' y w' H4 Q else Q (.bl false) H3)
theorem Rc (ho:OpR X (compareOp op) r)(ho':OpR X (compareOp op') r')(ha:PE X a ta)(hb:PE X b tb)(hc:PE X c tc)(hm:lastMarks [op,op'] [b,c]=false:=by with_unfolding_all rfl):PE X (.Compare a [op,op'] [b,c] pos) (Yn r r' ta tb tc):=by
 intro pins s σ H Q I h;refine Compare_chain (v5 (ha pins s σ H _ I h) λv s1 ⟨x,H1,I1,r1,q1⟩=>chain_link (v5 (hb pins s1 σ H1 _ I1 q1) λu s2 ⟨y,H2,I2,r2,q2⟩ =>
  v5 (ho pins s2 σ H2 x y v u _ I2 r1 r2 q2) λd s3 ⟨z,H3,I3,r3,k,e,q3⟩=>?_)) hm
 subst e;cases r3;refine wpAny_truthy_bool ?_;cases k with
 |false=>exact ite_ff ⟨.bl false,H3,I3,rfl,q3⟩
 |true=>exact ite_tt (chain_last (v5 (hc pins s3 σ H3 _ I3 q3) λw' s4 ⟨z',H4,I4,r4,q4⟩=>ho' pins s4 σ H4 y z' u w' Q I4 r2 r4 q4))
theorem ZL (ho:OpR X (compareOp op) r)(ho':OpR X (compareOp op') r')(ha:PE X a ta)(hb:PE X b tb)(hc:PE X c tc)(hm:lastMarks [op,op'] [b,c]=false:=by with_unfolding_all rfl):PT X (.Compare a [op,op'] [b,c] pos) (Yp (Yn r r' ta tb tc)):=by
 intro pins s σ H Q I h;refine isTrue_chain (v5 (ha pins s σ H _ I h) λv s1 ⟨x,H1,I1,r1,q1⟩=>test_link (v5 (hb pins s1 σ H1 _ I1 q1) λu s2 ⟨y,H2,I2,r2,q2⟩ =>
  v5 (ho pins s2 σ H2 x y v u _ I2 r1 r2 q2) λd s3 ⟨z,H3,I3,r3,k,e,q3⟩=>?_)) hm
 subst e;cases r3;refine wpAny_truthy_bool ?_;cases k with
 |false=>obtain ⟨k',e',q'⟩:=q3;cases e';exact ite_ff ⟨H3,I3,q'⟩
 |true=>refine ite_tt (test_last (v5 (hc pins s3 σ H3 _ I3 q3) λw' s4 ⟨z',H4,I4,r4,q4⟩=>v5 (ho' pins s4 σ H4 y z' u w' _ I4 r2 r4 q4) λd' s5 ⟨z2,H5,I5,r5,k2,e2,q5⟩=>?_));subst e2;cases r5;exact wpAny_truthy_bool ⟨H5,I5,q5⟩
def TruV (K:Fg)(x:V)(H:Hp)(k:Bool):Prop :=
 match x with
 | .non=>k=false
 | .bl b=>k=b
 | .int i=>k=(i != 0)
 | .str y=>y.length<=sizeLine/\k=((y.length:Int) != 0)
 | .byt y=>y.size<=sizeLine/\k=((y.size:Int) != 0)
 | .ref p=>(∃ xs,SqL K H p xs/\k=!xs.isEmpty)∨(∃ xs,SqT K H p xs/\k=!xs.isEmpty)∨∃ kvs,H p=some (.dK kvs)/\k=!kvs.isEmpty
 |_=>False
theorem Lf {κ:Type}{kvs:List (κ×V)}{vs:List (κ×Value)}(r:KV kvs vs):(!vs.isEmpty)=!kvs.isEmpty:=by cases r<;>rfl
theorem Ku {its:List Value}(r:Vals xs its):(!its.toArray.isEmpty)=!xs.isEmpty:=by cases r<;>simp
theorem vx:(sizeLine:Nat)<2 ^ 63:=by rw [sizeLine_eq];decide
theorem SE:TruR X (λx H Q=>∃ k,TruV X.K x H k/\Q k H):=by
 intro pins s σ H x v Q I rx h;obtain ⟨k,e,q⟩:=h;have hl:=vx;have hs:sizeLine=16777216:=sizeLine_eq;cases x with
 |non=>cases rx;have e':k=false:=e;subst e';exact truthy_none ⟨H,I,q⟩
 |bl b=>cases rx;have e':k=b:=e;subst e';exact wpAny_truthy_bool ⟨H,I,q⟩
 |int i=>obtain ⟨t,rfl⟩:=rx;have e':k=(i != 0):=e;subst e';exact PySem.P.truthy_int ⟨H,I,q⟩
 |str y=>obtain ⟨t,rfl⟩:=rx;obtain ⟨hy,e'⟩:y.length<=sizeLine/\k=((y.length:Int) != 0):=e;subst e';exact PySem.P.truthy_str (by omega) ⟨H,I.tok _,q⟩
 |byt y=>obtain ⟨t,rfl⟩:=rx;obtain ⟨hy,e'⟩:y.size<=sizeLine/\k=((y.size:Int) != 0):=e;subst e';exact PySem.W.truthy_bytes (by omega) ⟨H,I.tok _,q⟩
 |ref p =>
  cases rx;have e':(∃ xs,SqL X.K H p xs/\k=!xs.isEmpty)∨(∃ xs,SqT X.K H p xs/\k=!xs.isEmpty)∨∃ kvs,H p=some (.dK kvs)/\k=!kvs.isEmpty:=e;rcases e' with ⟨xs,hx,e'⟩|⟨xs,hx,e'⟩|⟨kvs,hx,e'⟩
  ·subst e';obtain ⟨its,r,pl,hz⟩:=I.list hx;have hlen:=r.length;exact wpAny_truthy_list pl.isList (by simp only [yW];omega) ⟨H,I.tok _,by rw [Ku r];exact q⟩
  ·subst e';obtain ⟨its,r,pl,hz⟩:=I.tuple hx;have hlen:=r.length;exact truthy_tuple pl (by simp only [yW];omega) ⟨H,I.tok _,by rw [Ku r];exact q⟩
  ·subst e';obtain ⟨hz,hS,vs,r,m⟩:kvs.length<=sizeLine/\(p==sysModules)=false/\∃ vs,KV kvs vs/\s.heap.DictOf (qm X.prog X.w) p vs:=I.hok p _ hx;have hlen:kvs.length=vs.length:=Paired.length r;exact wpAny_truthy_dict hS m (by omega) ⟨H,I.tok _,by rw [Lf r];exact q⟩
 |_=>exact (show False from e).elim
theorem RC (ha:PE X a ta)(he:∀ whole,isTrue a X.env whole=(do let v <- whole;standAt a.pos;holding [v] (truthy v))):
  PT X a (λσ H Q=>ta σ H λx H'=>∃ k,TruV X.K x H' k/\Q k H'):=by
 intro pins s σ H Q I h;exact isTrue_plain (v5 (ha pins s σ H _ I h) λv s1 ⟨x,H1,I1,r1,q1⟩=>SE pins s1 σ H1 x v Q I1 r1 q1) (he _)
theorem op_add_str:OpR X (binaryOp .Add) (λx y H Q=>∃ i j,x = .str i/\y = .str j/\i.length+j.length<=sizeLine/\Q (.str (i++j)) H):=by intro pins s σ H x y v u Q I rx ry h;obtain ⟨i,j,rfl,rfl,hz,q⟩:=h;obtain ⟨t,rfl⟩:=rx;obtain ⟨t',rfl⟩:=ry;exact add_str (λt' tk=>⟨.str (i++j),H,I.tok _,⟨_,rfl⟩,q⟩) hz
theorem za {x:V}(r:Vals [x] us):∃ u,us=[u]/\RelV x u:=by
 cases r with
 |cons r1 r2=>cases r2;exact ⟨_,rfl,r1⟩
theorem YB {x:V}(r:Vals [x,y] us):∃ u w',us=[u,w']/\RelV x u/\RelV y w':=by
 cases r with
 |cons r1 r2 =>
  cases r2 with
  |cons r3 r4=>cases r4;exact ⟨_,_,rfl,r1,r3⟩
theorem Dz (hc:X.calm=true):CallR X (.builtin "min") (λxs H Q=>∃ i j,xs=[.int i,.int j]/\Q (.int (if j<i then j else i)) H):=by
 intro pins s σ H xs us Q I r h;obtain ⟨i,j,rfl,q⟩:=h;obtain ⟨u,w',rfl,⟨t,rfl⟩,⟨t',rfl⟩⟩:=YB r;refine min_two_ints (I.ok.hd hc) λh' tk k=>⟨_,H,I.kept k,?_,q⟩;by_cases hj:j<i
 ·rw [if_pos hj,if_pos hj];exact ⟨_,rfl⟩
 ·rw [if_neg hj,if_neg hj];exact ⟨_,rfl⟩
def LenV (K:Fg)(x:V)(H:Hp)(n:Nat):Prop :=
 match x with
 | .str y=>y.length<=sizeLine/\n=y.length
 | .byt y=>y.size<=sizeLine/\n=y.size
 | .ref p=>(∃ xs,SqL K H p xs/\n=xs.length)∨∃ xs,SqT K H p xs/\n=xs.length
 |_=>False
theorem Dt:CallR X (.builtin "len") (λxs H Q=>∃ x n,xs=[x]/\LenV X.K x H n/\Q (.int n) H):=by
 intro pins s σ H xs us Q I r h;obtain ⟨x,n,rfl,e,q⟩:=h;obtain ⟨u,rfl,rx⟩:=za r;have hl:=vx;have hs:sizeLine=16777216:=sizeLine_eq;cases x with
 |str y=>obtain ⟨t,rfl⟩:=rx;obtain ⟨hy,e'⟩:y.length<=sizeLine/\n=y.length:=e;subst e';exact len_str (by omega) ⟨.int _,H,I.tok _,⟨_,rfl⟩,q⟩
 |byt y=>obtain ⟨t,rfl⟩:=rx;obtain ⟨hy,e'⟩:y.size<=sizeLine/\n=y.size:=e;subst e';exact PySem.W.len_bytes (by omega) ⟨.int _,H,I.tok _,⟨_,rfl⟩,q⟩
 |ref p =>
  cases rx;have e':(∃ xs,SqL X.K H p xs/\n=xs.length)∨∃ xs,SqT X.K H p xs/\n=xs.length:=e;rcases e' with ⟨xs,hx,e'⟩|⟨xs,hx,e'⟩
  ·subst e';obtain ⟨its,r',pl,hz⟩:=I.list hx;have hlen:=r'.length;exact Calls.call_len_list pl.isList (by simp only [yW];omega) ⟨.int xs.length,H,I.tok _,⟨_,by simp only [yW];rw [hlen]⟩,q⟩
  ·subst e';obtain ⟨its,r',pl,hz⟩:=I.tuple hx;have hlen:=r'.length;exact len_tuple pl (by simp only [yW];omega) ⟨.int xs.length,H,I.tok _,⟨_,by simp only [yW];rw [hlen]⟩,q⟩
 |_=>exact (show False from e).elim
end
structure ObjM (h:Heap)(x dx C:Addr)(mA:Str->Option Value):Prop where
 obj:h.get? x=some (PySem.W.instObj C dx)
 ns:h.Ns1 dx mA
 ne:dx≠x
theorem LT (n:h.Ns1 dx mA):∃ od,h.get? dx=some od/\∀ name,PySem.W.lookIn name od=some (mA name):=by
 obtain ⟨o,es,ep,ho,hd,hk,_,hm⟩:=n;refine ⟨o,ho,λname=>?_⟩;have e:=hm name;unfold nsFind findBy at e;rw [<- Array.find?_toList] at e;unfold PySem.W.lookIn;rw [hd]
 dsimp only
 split
 ·rename_i y q;rw [q] at e;exact congrArg some e
 ·rename_i q;rw [q] at e;have a:es.toList.any (·.refKey)=false:=by rw [List.any_eq_false];intro y hy;obtain ⟨z,t,hkey⟩:=hk y (Array.mem_toList_iff.mp hy);simp [DictEntry.refKey,hkey]
  have a':¬ es.toList.any (·.refKey)=true:=by rw [a];exact yR
  rw [if_neg a'];exact congrArg some e
theorem ObjM.look {x:Addr}(I:ObjM h x dx C mA):∃ od,PySem.W.InstAt h x (PySem.W.instObj C dx) C (some od)/\∀ name,PySem.W.lookIn name od=some (mA name) :=
 let ⟨od,ho,hl⟩:=LT I.ns
 ⟨od,⟨I.obj,rfl,rfl,ho⟩,hl⟩
section
variable {prog:Program}{w:World}{A:Around}{E:Value->Shared->Prop}{s:Shared}{K:Fg}{x dx C f:Addr}{mA:Str->Option Value}{name:Str}{v:Value}
theorem Mz {expr:Bool}(X:K.In s.heap)(I:ObjM s.heap x dx C mA)(hg:PySem.W.plainGet K C name=true)(hh:PySem.W.hasDictIn K C=true)(ha:PySem.W.findIn K (.ref C) name=some none)(hv:mA name=some v)(hv':PySem.W.handedIn v=true)(h:Q v { s with toks:=s.toks+1 }):wpAny (model prog w) A (getAttr (.ref x) name expr) Q E s:=by obtain ⟨od,J,hl⟩:=I.look;exact PySem.W.get_value X J (PySem.W.plainGet_of hg).1 (PySem.W.findObj_own hh ha rfl (by rw [hl,hv])) hv' h
theorem MC {pl:Sem Bool}{Q:Value×List Value->Shared->Prop}(X:K.In s.heap)(I:ObjM s.heap x dx C mA)(hg:PySem.W.plainGet K C name=true)(hf:PySem.W.findIn K (.ref C) name=some (some (.ref f)))(ht:PySem.W.isFn K (.ref f)=true)(hv:mA name=none)(h:Q (.ref f,[.ref x]) s):wpAny (model prog w) A (getMethod (.ref x) name pl) Q E s:=by obtain ⟨od,J,hl⟩:=I.look;exact PySem.W.method_fn X J (PySem.W.plainGet_of hg).1 (PySem.W.plainGet_of hg).2 hf (beq_iff_eq.mp ht) (by show (PySem.W.lookIn name od).map (·.isSome)=some false;rw [hl,hv];rfl) h
theorem Sf {ns:List Str}{Q:Unit->Shared->Prop}(X:K.In s.heap)(I:ObjM s.heap x dx C mA)(hs:PySem.W.findIn K (.ref C) "__setattr__"=some (some (.builtin "object.__setattr__")))(hp:PySem.W.plainOver K C=true)(ht:PySem.W.takerIn K C name=some none)(hh:PySem.W.hasDictIn K C=true)(hw:PySem.Within mA ns)(hsz:ns.length<=sizeLine)(h:∀ h',ObjM h' x dx C (λy=>if y=name then some v else mA y)->Heap.SameBut dx s.heap h'->Q () { s with heap:=h',toks:=s.toks+2 }):wpAny (model prog w) A (setAttr (.ref x) name v) Q E s:=by obtain ⟨od,J,hl⟩:=I.look;refine PySem.W.set_plain X J hs (PySem.W.osa_open (s:={ s with toks:=s.toks+1 }) (r:=none) X J hp ht λb=>?_);obtain ⟨cd,hc,hd'⟩:=PySem.W.any_some hh;have hx:s.heap.get? x=some ⟨.ref C,some dx,.plain,#[]⟩:=I.obj;refine yX (yC (yX (yX (wpAny_loadPart hx (yX (PySem.W.Looks.here (s:={ s with toks:=s.toks+1 }) (PySem.W.looks_clsIn X hc) ?_))))));rw [hd'];refine yC (a:=some dx) (yX (yC (yX ?_)));refine wpAny_nsSet1 (s:={ s with toks:=s.toks+1 }) I.ns λh' hn2 hs2=>?_;obtain ⟨oD,esD,epD,hoD,hdD,hcD⟩:=hn2.count (PySem.Within.cons name v hw);refine yX (wpAny_lookBehind hoD (by rw [hdD];exact pastItsLine_dict (yg hcD (by rw [yG];omega))) ?_);exact yC (h _ ⟨(hs2.2 _ (Ne.symm I.ne)).trans I.obj,hn2,I.ne⟩ hs2)
theorem LY {R:Result->Shared->Prop}{vs:List Value}(X:K.In s.heap)(hm:PySem.W.makesIn K C=true)(hi:PySem.W.findIn K (.ref C) "__init__"=some (some (.ref f)))(hf:PySem.W.typeIn K (.ref f)=some (.type "function"))(h:codeAny (model prog w) (A.under (.builtin "type.__call__" ⟨.ref C::vs,kw⟩)) (.call (.ref f) ⟨.ref (s.heap.objs.size+1)::vs,kw⟩) (PySem.W.InitBack (s.heap.objs.size+1) R) { s with heap:=(s.heap.push PySem.W.emptyDict).push (PySem.W.instObj C s.heap.objs.size) }):codeAny (model prog w) A (.call (.ref C) ⟨vs,kw⟩) R s:=by obtain ⟨hh,g,d,t,os⟩:=s;exact PySem.W.make_core (PySem.W.makes_of X hm) (PySem.W.looks_findIn X hi) (λself=>PySem.W.bind_fn X self hf) (.inl rfl) h
end
def qX (f:Str)(v:V):List (Str×V)->List (Str×V)
 |[]=>[(f,v)]
 |(g,x)::r=>if g=f then (g,v)::r else (g,x)::qX f v r
theorem KS (f g:Str)(v:V):∀ fs:List (Str×V),(qX f v fs).lookup g=if g=f then some v else fs.lookup g
 |[]=>by
  show List.lookup g [(f,v)]=_;by_cases h:g=f
  ·have hb:(g==f)=true:=beq_iff_eq.mpr h;simp only [List.lookup,hb,if_pos h]
  ·have hb:(g==f)=false:=beq_eq_false_iff_ne.mpr h;simp only [List.lookup,hb,if_neg h]
 |(k,x)::r=>by
  have ih:=KS f g v r;rw [show qX f v ((k,x)::r)=(if k=f then (k,v)::r else (k,x)::qX f v r) from rfl];by_cases hk:k=f
  ·rw [if_pos hk];by_cases h:g=k
   ·have hb:(g==k)=true:=beq_iff_eq.mpr h;simp only [List.lookup,hb,if_pos (h.trans hk)]
   ·have hb:(g==k)=false:=beq_eq_false_iff_ne.mpr h;simp only [List.lookup,hb,if_neg (λe:g=f=>h (e.trans hk.symm))]
  ·rw [if_neg hk];by_cases h:g=k
   ·have hb:(g==k)=true:=beq_iff_eq.mpr h;simp only [List.lookup,hb,if_neg (λe:g=f=>hk (h.symm.trans e))]
   ·have hb:(g==k)=false:=beq_eq_false_iff_ne.mpr h;simp only [List.lookup,hb];exact ih
theorem JN (f:Str)(v:V):∀ fs:List (Str×V),f∈(qX f v fs).map (·.1)/\∀ g,g∈fs.map (·.1)->g∈(qX f v fs).map (·.1)
 |[]=>⟨by simp [qX],λg h=>by simp at h⟩
 |(k,x)::r=>by
  obtain ⟨i1,i2⟩:=JN f v r;rw [show qX f v ((k,x)::r)=(if k=f then (k,v)::r else (k,x)::qX f v r) from rfl];by_cases hk:k=f
  ·rw [if_pos hk];subst hk;exact ⟨by simp,λg h=>by simpa using h⟩
  ·rw [if_neg hk];refine ⟨?_,λg h=>?_⟩
   ·rw [yI];exact yS _ i1
   ·rw [yI] at h ⊢;rcases yM.mp h with e|e
    ·exact yM.mpr (.inl e)
    ·exact yS _ (i2 g e)
theorem KM (f:Str)(v:V):∀ fs:List (Str×V),(qX f v fs).length<=fs.length+1
 |[]=>by simp [qX]
 |(k,x)::r=>by
  have ih:=KM f v r;rw [show qX f v ((k,x)::r)=(if k=f then (k,v)::r else (k,x)::qX f v r) from rfl];by_cases hk:k=f
  ·rw [if_pos hk,yG,yG];omega
  ·rw [if_neg hk,yG,yG];omega
theorem RelO.some_of {o:Option Value}(r:RelO (some v) o):∃ u,o=some u/\RelV v u:=by
 cases o with
 |none=>exact (show False from r).elim
 |some u=>exact ⟨u,rfl,r⟩
theorem RelO.none_of {o:Option Value}(r:RelO none o):o=none:=by
 cases o with
 |none=>rfl
 |some u=>exact (show False from r).elim
theorem MF (r:RelV v u):PySem.W.handedIn u=true:=by
 cases v with
 |non=>cases (show u=Value.none from r);rfl
 |bl b=>cases (show u=Value.bool b from r);rfl
 |int i=>obtain ⟨t,e⟩:=(show ∃ t,u=Value.int i t from r);cases e;rfl
 |str x=>obtain ⟨t,e⟩:=(show ∃ t,u=Value.str x t from r);cases e;rfl
 |byt b=>obtain ⟨t,e⟩:=(show ∃ t,u=Value.bytes b t from r);cases e;rfl
 |flt b=>obtain ⟨t,e⟩:=(show ∃ t,u=Value.float b t from r);cases e;rfl
 |ref a=>cases (show u=Value.ref a from r);rfl
 |ty n=>cases (show u=Value.type n from r);rfl
section
variable {P:Program}{w:World}{H H':Hp}{h h':Heap}{a C dx:Addr}{fs fs':List (Str×V)}
theorem vp (hok:HOk P w H h)(e:H a=some (.ins C dx fs)):∃ mA,ObjM h a dx C mA/\(∀ f,RelO (fs.lookup f) (mA f))/\PySem.Within mA (fs.map (·.1))/\fs.length<=1000/\H dx=some (.own a):=by obtain ⟨d,z,ne,ob,mA,n,r,q⟩:=(show ObjOk P w H h a (.ins C dx fs) from hok a _ e);exact ⟨mA,⟨ob,n,ne⟩,r,q,z,d⟩
end
structure Cls (K:Fg)(C:Addr):Prop where
 pg:PySem.W.plainGet K C Str.empty=true
 hd:PySem.W.hasDictIn K C=true
 po:PySem.W.plainOver K C=true
 sa:PySem.W.findIn K (.ref C) "__setattr__"=some (some (.builtin "object.__setattr__"))
theorem Cls.get (c:Cls K C)(f:Str):PySem.W.plainGet K C f=true:=c.pg
def NoAttr (K:Fg)(C:Addr)(f:Str):Prop:=PySem.W.findIn K (.ref C) f=some none
theorem NoAttr.taker {f:Str}(n:NoAttr K C f):PySem.W.takerIn K C f=some none:=by unfold PySem.W.takerIn;rw [show PySem.W.findIn K (.ref C) f=some none from n];rfl
structure Qi (K:Fg)(C:Addr)(m:Str)(f:Addr):Prop where
 at_:PySem.W.findIn K (.ref C) m=some (some (.ref f))
 fn:PySem.W.isFn K (.ref f)=true
 kp:PySem.W.keepIn K (.ref f)=true
section
variable {X:Cx}{pins:List (Addr×Obj)}{σ:St}{H:Hp}{s:Shared}{a C dx:Addr}{fs:List (Str×V)}{f:Str}{v:V}{A:Around}{E:Value->Shared->Prop}
theorem MD {b:Bool}(I:Inv X pins σ H s)(e:H a=some (.ins C dx fs))(c:Cls X.K C)(n:NoAttr X.K C f)(l:fs.lookup f=some v)(h:∀ u s',Inv X pins σ H s'->RelV v u->Q u s'):wpAny (model X.prog X.w) A (getAttr (.ref a) f b) Q E s:=by obtain ⟨mA,O,r,_,_,_⟩:=vp I.hok e;obtain ⟨u,hu,ru⟩:=RelO.some_of (v:=v) (o:=mA f) (by rw [<- l];exact r f);exact Mz I.kIn O (c.get f) c.hd n hu (MF ru) (h u _ (I.tok _) ru)
theorem JD {g:Addr}{pl:Sem Bool}{Q:Value×List Value->Shared->Prop}(I:Inv X pins σ H s)(e:H a=some (.ins C dx fs))(c:Cls X.K C)(k:Qi X.K C m g)(l:fs.lookup m=none)(h:Q (.ref g,[.ref a]) s):wpAny (model X.prog X.w) A (getMethod (.ref a) m pl) Q E s:=by obtain ⟨mA,O,r,_,_,_⟩:=vp I.hok e;have hn:mA m=none:=RelO.none_of (by rw [<- l];exact r m);exact MC I.kIn O (c.get m) k.at_ k.fn hn h
theorem Sh {Q:Unit->Shared->Prop}(I:Inv X pins σ H s)(e:H a=some (.ins C dx fs))(c:Cls X.K C)(n:NoAttr X.K C f)(hl:fs.length<1000)(ry:RelV y u)(h:∀ s',Inv X pins σ (j4 H a (.ins C dx (qX f y fs))) s'->Q () s'):wpAny (model X.prog X.w) A (setAttr (.ref a) f u) Q E s:=by
 obtain ⟨mA,O,r,wi,_,ho⟩:=vp I.hok e;have hz:(fs.map (·.1)).length<=sizeLine:=by rw [yZ,sizeLine_eq];omega
 refine Sf I.kIn O c.sa c.po n.taker c.hd wi hz λh' O' sb=>h _ ?_;have hd:∃ o,h'.get? dx=some o:=let ⟨o,_,_,e',_⟩:=O'.ns;⟨o,e'⟩
 refine I.write (x:=a) (e:=dx) (by rw [e];exact True.intro) (.inr ho) (λb q hb z=>(sb.2 b hb).trans z) hd ?_;refine ⟨by rw [z5 O.ne];exact ho,?_,O.ne,O'.obj,_,O'.ns,λg=>?_,λg hg=>?_⟩
 ·have:=KM f y fs;omega
 ·show RelO ((qX f y fs).lookup g) (if g=f then some u else mA g);rw [KS];by_cases q:g=f
  ·rw [if_pos q,if_pos q];exact ry
  ·rw [if_neg q,if_neg q];exact r g
 ·by_cases q:g=f
  ·rw [q];exact (JN f y fs).1
  ·refine (JN f y fs).2 g (wi g λz=>hg ?_);show (if g=f then some u else mA g)=none;rw [if_neg q];exact z
theorem Inv.made (I:Inv X pins σ H s):Inv X pins σ (j4 (j4 H s.heap.objs.size (.own (s.heap.objs.size+1))) (s.heap.objs.size+1) (.ins C s.heap.objs.size [])) { s with heap:=(s.heap.push PySem.W.emptyDict).push (PySem.W.instObj C s.heap.objs.size) }:=by
 have e1:(s.heap.push PySem.W.emptyDict).get? s.heap.objs.size=some PySem.W.emptyDict:=yD s.heap rfl;have e2:((s.heap.push PySem.W.emptyDict).push (PySem.W.instObj C s.heap.objs.size)).get? (s.heap.objs.size+1)=some (PySem.W.instObj C s.heap.objs.size):=by have:=yD (s.heap.push PySem.W.emptyDict) (o:=PySem.W.instObj C s.heap.objs.size) rfl;rwa [uI] at this
 have e3:(s.heap.push PySem.W.emptyDict).Ns s.heap.objs.size (λ_=>none):=⟨PySem.W.emptyDict,#[],_,e1,rfl,(λe he=>absurd he (by simp)),λ_=>rfl⟩;have I1:=I.laid (a:=s.heap.objs.size) (o:= .own (s.heap.objs.size+1)) (h':=s.heap.push PySem.W.emptyDict) (t':=s.toks) (λb u q=>yV _ q) (yU _) ⟨_,e1⟩;refine I1.laid (a:=s.heap.objs.size+1) (o:= .ins C s.heap.objs.size []) (t':=s.toks) (λb u q=>yV _ q) (Nat.le_of_eq (uI _ _)) ?_;have ne:s.heap.objs.size≠s.heap.objs.size+1:=yH (uA _);refine ⟨by rw [z5 ne,y9],yh _,ne,e2,λ_=>none,(Heap.Ns1.of_empty e3).at λo q=>yV _ q,λ_=>True.intro,λy hy=>absurd rfl hy⟩
theorem CW {prog:Program}{env:Env}{f:Str}{s:Shared}(hb:attributeBase e f env (eval e env)=eval e env)(h:wpAny (model prog w) A (eval e env) (λo s₁=>wpAny (model prog w) A (getAttr o f true) Q E s₁) E s):wpAny (model prog w) A (eval (.Attribute e f pos) env) Q E s :=
 Attribute_any_ h (by rw [arm_eval_Attribute,hb])
end
def tFld (K:Fg)(ta:TE)(f:Str):TE:=λσ H Q=>ta σ H λx H1=>∃ a C dx fs v,x = .ref a/\H1 a=some (.ins C dx fs)/\Cls K C/\NoAttr K C f/\fs.lookup f=some v/\Q v H1
def Xn (K:Fg)(ta tv:TE)(f:Str):TS:=λD σ H=>tv σ H λy H1=>ta σ H1 λx H2=>∃ a C dx fs,x = .ref a/\H2 a=some (.ins C dx fs)/\Cls K C/\NoAttr K C f/\fs.length<1000 /\
 D.nx σ (j4 H2 a (.ins C dx (qX f y fs)))
section
variable {X:Cx}{o e value:Expr}{f:Str}{pos pos' tpos:Pos}{ta tv:TE}
theorem Rf (he:PE X e ta)(hb:attributeBase e f X.env (eval e X.env)=eval e X.env):PE X (.Attribute e f pos) (tFld X.K ta f):=by intro pins s σ H Q I h;refine CW hb (v5 (he pins s σ H _ I h) λu s1 ⟨x,H1,I1,rx,a,C,dx,fs,v,ex,ea,c,n,l,q⟩=>?_);subst ex;obtain rfl:u=Value.ref a:=rx;exact MD I1 ea c n l λu' s2 I2 ru=>⟨v,H1,I2,ru,q⟩
theorem Rz (ha:PE X o ta)(hv:PE X value tv)(hs:swapsWith value (some (.Attribute o f pos')) pos.line X.env=pure false):PS X (.Assign [.Attribute o f pos'] value pos) (Xn X.K ta tv f):=by intro pins s σ H D I h;refine plainObj_wpAny_Assign_Attribute (v5 (hv pins s σ H _ I h) λu s1 ⟨y,H1,I1,ry,q⟩=>v5 (ha pins s1 σ H1 _ I1 q) λov s2 ⟨x,H2,I2,rx,a,C,dx,fs,ex,ea,c,n,l,q2⟩=>?_) hs;subst ex;obtain rfl:ov=Value.ref a:=rx;exact Sh I2 ea c n l ry λs3 I3=>⟨σ,_,I3,q2⟩
theorem IW {pl:Sem Bool}{apos:Pos}{args:List Expr}(he:PE X e te)(I:Inv X pins σ H s)
  (h:te σ H λx H1=>∃ a C dx fs g,x = .ref a/\H1 a=some (.ins C dx fs)/\Cls X.K C/\Qi X.K C m g/\fs.lookup m=none /\
   ∀ s1,Inv X pins σ H1 s1->wpAny (model X.prog X.w) X.A (callWith pos (.ref g) [.ref a] (backTo pos (starEach args X.env)) (backToKw pos (keywordEach [] X.env))) Q X.xe s1)
  (ht:eval (.Call (.Attribute e m apos) args [] pos) X.env=(do
   let ov <- eval e X.env
   standAt apos.atName
   let (f,first) <- holding [ov] (getMethod ov m pl)
   callWith pos f first (backTo pos (starEach args X.env)) (backToKw pos (keywordEach [] X.env)))) :
  wpAny (model X.prog X.w) X.A (eval (.Call (.Attribute e m apos) args [] pos) X.env) Q X.xe s:=by
 refine PySem.W.methodCall_KW (pl:=pl) (v5 (he pins s σ H _ I h) λu s1 ⟨x,H1,I1,rx,a,C,dx,fs,g,ex,ea,c,k,l,q⟩=>?_) ht;subst ex;obtain rfl:u=Value.ref a:=rx;exact JD I1 ea c k l (q s1 I1)
end
section
variable {X:Cx}{pins:List (Addr×Obj)}{σ:St}{H:Hp}{s:Shared}{A:Around}{E:Value->Shared->Prop}{Q:Value->Shared->Prop}{c:Value}{b:Bool}
inductive xp (K:Fg)(H:Hp):V->Value->Prop where
 |non:xp K H .non (.type "NoneType")
 |bl (x:Bool):xp K H (.bl x) (.type "bool")
 |int (i:Int):xp K H (.int i) (.type "int")
 |str (x:Str):xp K H (.str x) (.type "str")
 |flt (x:UInt64):xp K H (.flt x) (.type "float")
 |lst {a:Addr} {xs:List V} (e:H a=some (.lst xs)):xp K H (.ref a) (.type "list")
 |frz {a:Addr} {o:Obj} {xs:List V} (e:H a=some (.frz o (.lst xs))):xp K H (.ref a) (.type "list")
 |tup {a:Addr} {xs:List V} (e:H a=some (.tup xs)):xp K H (.ref a) (.type "tuple")
 |dK {a:Addr} {kvs:List (z9×V)} (e:H a=some (.dK kvs)):xp K H (.ref a) (.type "dict")
 |dT {a:Addr} {kvs:List (List z9×V)} (e:H a=some (.dT kvs)):xp K H (.ref a) (.type "dict")
 |ins {a C dx:Addr} {fs:List (Str×V)} (e:H a=some (.ins C dx fs)) (cl:Cls K C) (ha:PySem.W.findIn K (.ref C) "__class__"=some (some (.builtin "object.__class__")))
   (hn:PySem.W.specialIn K (.builtin "object.__class__") "__get__"=some (some (.builtin "getset_descriptor.__get__"))) (htk:PySem.W.takesIn K (.builtin "object.__class__")=some true)
   (hm:PySem.W.mroIn K C (.type "object")=some true):xp K H (.ref a) (.ref C)
theorem Lg {x:V}{t:Value}(I:Inv X pins σ H s)(rx:RelV x u)(ty:xp X.K H x t)(e:PySem.W.kitOne X.K t c=some b)(h:∀ tk,Q (.bool b) { s with toks:=tk }):wpAny (model X.prog X.w) A (call (.builtin "isinstance") [u,c]) Q E s:=by
 cases ty with
 |non=>cases (show u=Value.none from rx);exact PySem.W.kia_one PySem.W.kitx_none I.kIn True.intro e (λz=>nomatch z) h
 |bl y=>cases (show u=Value.bool y from rx);exact PySem.W.kia_one PySem.W.kitx_bool I.kIn True.intro e (λz=>nomatch z) h
 |int i=>obtain ⟨t,q⟩:=(show ∃ t,u=Value.int i t from rx);cases q;exact PySem.W.kia_one PySem.W.kitx_int I.kIn True.intro e (λz=>nomatch z) h
 |str y=>obtain ⟨t,q⟩:=(show ∃ t,u=Value.str y t from rx);cases q;exact PySem.W.kia_one PySem.W.kitx_str I.kIn True.intro e (λz=>nomatch z) h
 |flt y=>obtain ⟨t,q⟩:=(show ∃ t,u=Value.float y t from rx);cases q;exact PySem.W.kia_one PySem.W.kitx_float I.kIn True.intro e (λz=>nomatch z) h
 |@lst a xs ea=>cases (show u=Value.ref a from rx);obtain ⟨_,_,n,_,h1⟩:=(show ObjOk X.prog X.w H s.heap a (.lst xs) from I.hok a _ ea);exact PySem.W.kia_one PySem.W.kitx_list I.kIn ⟨_,h1,rfl⟩ e (λz=>nomatch z) h
 |@frz a ob xs ea=>cases (show u=Value.ref a from rx);obtain ⟨_,_,_,n,_,h1⟩:=(show ObjOk X.prog X.w H s.heap a (.frz ob (.lst xs)) from I.hok a _ ea);exact PySem.W.kia_one PySem.W.kitx_list I.kIn ⟨_,h1,rfl⟩ e (λz=>nomatch z) h
 |@tup a xs ea=>cases (show u=Value.ref a from rx);obtain ⟨_,_,_,p⟩:=(show ObjOk X.prog X.w H s.heap a (.tup xs) from I.hok a _ ea);obtain ⟨o,h1,h2,_⟩:=p;exact PySem.W.kia_one PySem.W.kitx_tuple I.kIn ⟨o,h1,h2⟩ e (λz=>nomatch z) h
 |@dK a kvs ea=>cases (show u=Value.ref a from rx);obtain ⟨_,_,vs,_,p⟩:=(show ObjOk X.prog X.w H s.heap a (.dK kvs) from I.hok a _ ea);obtain ⟨o,es,ep,h1,h2,_⟩:=p;exact PySem.W.kia_one PySem.W.kitx_dict I.kIn ⟨o,h1,h2.1⟩ e (λz=>nomatch z) h
 |@dT a kvs ea=>cases (show u=Value.ref a from rx);obtain ⟨_,_,xs,_,o,es,ep,h1,h2,_⟩:=(show ObjOk X.prog X.w H s.heap a (.dT kvs) from I.hok a _ ea);exact PySem.W.kia_one PySem.W.kitx_dict I.kIn ⟨o,h1,h2.1⟩ e (λz=>nomatch z) h
 |@ins a C dx fs ea cl ha hn htk hm=>cases (show u=Value.ref a from rx);obtain ⟨mA,O,_⟩:=vp I.hok ea;obtain ⟨od,J,_⟩:=O.look;exact PySem.W.kia_one (PySem.W.kitx_own (cl.get _) cl.hd ha hn htk hm) I.kIn J e (λz=>nomatch z) h
end
structure Room (k:Nat)(A:Around):Prop where
 hd:A.handled=none
 dp:A.depth+3*k+5<recursionLimit
 un:A.units+16*k+200<cLine
theorem Room.mono {k:Nat}(r:Room k A)(h:j<=k):Room j A:=⟨r.hd,by have:=r.dp;omega,by have:=r.un;omega⟩
theorem Room.deeper {k:Nat}(r:Room (k+1) A)(env:Env):Room k (A.deeper env) :=
 ⟨r.hd,by have:=r.dp;show A.depth+1+3*k+5<_;omega,by have:=r.un;show A.units+3+16*k+200<_;omega⟩
theorem Room.in1 {k:Nat}(r:Room (k+1) A):Room k A.in1 :=
 ⟨r.hd,by have:=r.dp;show A.depth+3*k+5<_;omega,by have:=r.un;show A.units+1+16*k+200<_;omega⟩
theorem LX :(A.under (.builtin "type.__call__" ⟨.ref C::us,kw⟩)).depth=A.depth+1:=by first|rfl|simp [Around.under,Code.weight,Code.isCreation,Code.isGuard,Code.isCaller,Code.frames,Code.isFrame,guardIds]
theorem LZ :(A.under (.builtin "type.__call__" ⟨.ref C::us,kw⟩)).units=A.units+1:=by first|rfl|simp [Around.under,Code.cUnits,Code.frames,Code.isFrame]
theorem Room.make {k:Nat}(r:Room (k+1) A)(C:Addr)(us:List Value)(kw:List (Str×Value)):Room k (A.under (.builtin "type.__call__" ⟨.ref C::us,kw⟩)) :=
 ⟨r.hd,by have:=r.dp;rw [LX];omega,by have:=r.un;rw [LZ];omega⟩
theorem Room.depth {k:Nat}(r:Room k A):A.depth<recursionLimit:=by have:=r.dp;omega
theorem Room.units {k:Nat}(r:Room k A):A.units+64<cLine:=by have:=r.un;omega
def i7:TA:=λ_ H Q=>Q [] H
def i0 (ta:TE)(tr:TA):TA:=λσ H Q=>ta σ H λx H1=>tr σ H1 λxs H2=>Q (x::xs) H2
section
variable {X:Cx}{e:Expr}{es:List Expr}{te:TE}{t:TA}{pos:Pos}
theorem u4:PA X [] i7:=λ_ _ _ _ H Q I h=>Calls.spliced_nil ⟨[],H,I,.nil,h⟩
theorem v8 (ha:PE X e te)(hr:PA X es t)(hs:starEach (e::es) X.env=(false,eval e X.env)::starEach es X.env:=by rfl):PA X (e::es) (i0 te t):=by intro pos pins s σ H Q I h;rw [hs];show wpAny _ _ (spliced ((false,eval e X.env)::backTo pos (starEach es X.env))) _ _ s;refine Calls.spliced_cons (v5 (ha pins s σ H _ I h) λu s1 ⟨x,H1,I1,r1,q1⟩=>?_);exact v5 (hr pos pins s1 σ H1 _ I1 q1) λus s2 ⟨xs,H2,I2,r2,q2⟩=>⟨x::xs,H2,I2,.cons r1 r2,q2⟩
def tTup (t:TA):TE:=λσ H Q=>t σ H λxs H1=>xs.length<=sizeLine/\∀ p,H1 p=none->Q (.ref p) (j4 H1 p (.tup xs))
def tLst (t:TA):TE:=λσ H Q=>t σ H λxs H1=>xs.length<=sizeLine/\∀ p,H1 p=none->Q (.ref p) (j4 H1 p (.lst xs))
theorem xn {x1}(h:PA X es t):PE X (.Tuple es x1 pos) (tTup t):=by intro pins s σ H Q I hq;refine wpAny_Tuple_spliced (v5 (h pos pins s σ H _ I hq) λus s1 ⟨xs,H1,I1,r,z,q⟩=>⟨by rw [<- r.length];exact z,?_⟩);have hf:H1 s1.heap.objs.size=none:=I1.hok.fresh (yU _);refine ⟨.ref s1.heap.objs.size,j4 H1 s1.heap.objs.size (.tup xs),I1.laid (t':=s1.toks) (λb u e=>yV _ e) (yU _) ?_,rfl,q _ hf⟩;exact ⟨z,us,r,⟨_,yD _ rfl,rfl,_,rfl⟩⟩
theorem xG (h:PA X es t):PE X (.List es pos) (tLst t):=by intro pins s σ H Q I hq;refine wpAny_List_spliced (v5 (h pos pins s σ H _ I hq) λus s1 ⟨xs,H1,I1,r,z,q⟩=>⟨by rw [<- r.length];exact z,?_⟩);have hf:H1 s1.heap.objs.size=none:=I1.hok.fresh (yU _);refine ⟨.ref s1.heap.objs.size,j4 H1 s1.heap.objs.size (.lst xs),I1.laid (t':=s1.toks) (λb u e=>yV _ e) (yU _) ?_,rfl,q _ hf⟩;exact ⟨z,us,0,r,yD _ rfl⟩
end
abbrev Sp:=List V->Hp->VK->XK->Prop
variable{sp:Sp}
abbrev CXT:=List Env->Hp->Shared->XK->Value->Shared->Prop
variable{CX:CXT}
structure Env0 (P:Program)(w:World)(K:Fg)(mg:Str->Option Value)(base:Heap)(A:Around)(outer:List Env)(s:Shared)(H:Hp):Prop where
 frames:A.frames=some outer
 mod:Mod K mg base
 bs:∀ b o,base.get? b=some o->s.heap.get? b=some o/\H b=none
 bsz:base.objs.size<=s.heap.objs.size
 funs:s.heap.FunFrames base outer
 frf:∀ b∈frs outer,H b=none
 hok:HOk P w H s.heap
 bare:AllBare s.gens
 tbs:∀ p∈TABS,H p.1=some (.tbl p.2.1 p.2.2)
def CE (outer:List Env)(P:Program)(w:World)(H:Hp)(s:Shared)(Q:VK)(u:Value)(s':Shared):Prop :=
 ∃ v H',s'.os=s.os/\AllBare s'.gens/\Un (frs outer) [] H H' s.heap s'.heap/\HOk P w H' s'.heap/\RelV v u/\Q v H'
def CR (CX:CXT)(outer:List Env)(P:Program)(w:World)(H:Hp)(s:Shared)(Q:VK)(E:XK)(r:Result)(s':Shared):Prop :=
 match r with
 | .ok (.ret u)=>CE outer P w H s Q u s'
 | .ok _=>False
 | .error e=>CX outer H s E e s'
structure FnOk (P:Program)(w:World)(K:Fg)(mg:Str->Option Value)(base:Heap)(CX:CXT)(k:Nat)(f:Addr)(fd:FuncData)(ps:List Str)(sp:Sp):Prop where
 len:∀ vs H Q E,sp vs H Q E->vs.length=ps.length
 run:∀(A:Around)(outer:List Env)(s:Shared)(H:Hp)(args:Args)(us:List Value)(vs:List V)(Q:VK)(E:XK),Room k A->Env0 P w K mg base A outer s H->BindsTo s fd args (ps.zip us)->Vals vs us->sp vs H Q E ->
  codeAny (model P w) A (.call (.ref f) args) (CR CX outer P w H s Q E) s
theorem FnOk.imp {k:Nat}{f:Addr}{sp':Sp}(F:FnOk P w K mg base CX k f fd ps sp)(h:∀ vs H Q E,sp' vs H Q E->sp vs H Q E):FnOk P w K mg base CX k f fd ps sp' :=
 ⟨λvs H Q E q=>F.len vs H Q E (h _ _ _ _ q),λA outer s H args us vs Q E hr he hb hv hs=>F.run A outer s H args us vs Q E hr he hb hv (h _ _ _ _ hs)⟩
theorem Env0.make (e:Env0 P w K mg base A outer s H)(C:Addr)(us:List Value)(kw:List (Str×Value)):Env0 P w K mg base (A.under (.builtin "type.__call__" ⟨.ref C::us,kw⟩)) outer s H:=⟨by first|exact e.frames|(simpa [Around.under,Code.envs,Code.isFrame,pushEnvs] using e.frames),e.mod,e.bs,e.bsz,e.funs,e.frf,e.hok,e.bare,e.tbs⟩
theorem Env0.in1 (e:Env0 P w K mg base A outer s H):Env0 P w K mg base A.in1 outer s H:=⟨e.frames,e.mod,e.bs,e.bsz,e.funs,e.frf,e.hok,e.bare,e.tbs⟩
section
variable {X:Cx}{pins:List (Addr×Obj)}{σ:St}{H:Hp}{s s':Shared}
theorem Inv.env0 (I:Inv X pins σ H s):Env0 X.prog X.w X.K X.mg X.base X.A X.stack s H :=
 ⟨I.ok.frames,I.ok.mod,I.bs,yg I.ok.bsz I.sz,I.stack,I.stkFree,I.hok,I.bare,λp hp=>I.base.tbls _ _ _ (I.ok.tbs p hp)⟩
theorem Inv.after {Q:VK}(I:Inv X pins σ H s)(h:CE X.stack X.prog X.w H s Q u s'):EP X pins σ Q u s':=by obtain ⟨v,H',os,bare,un,hok,r,q⟩:=h;obtain ⟨hh,g,d,t,os'⟩:=s';obtain rfl:os'=s.os:=os;exact ⟨v,H',I.call (h':=hh) (g':=g) (d':=d) (t':=t) (ch:=[]) un hok bare (λb z=>absurd z (by simp)),r,q⟩
end
def jb (sp:Sp)(dvs:List V)(E:XK)(t:TA):TE:=λσ H Q=>t σ H λvs H1=>sp (vs++dvs) H1 Q E
def vR (C:Addr)(m:Str)(sp:Sp)(dvs:List V)(E:XK)(ta:TE)(t:TA):TE:=λσ H Q=>ta σ H λx H1=>∃ a dx fs,x = .ref a/\H1 a=some (.ins C dx fs)/\fs.lookup m=none /\
 t σ H1 λvs H2=>sp (x::(vs++dvs)) H2 Q E
def Xr (C:Addr)(sp:Sp)(dvs:List V)(E:XK)(t:TA):TE:=λσ H Q=>t σ H λvs H1=>∀ x dx,H1 x=none->H1 dx=none->dx≠x ->
 sp (.ref x::(vs++dvs)) (j4 (j4 H1 dx (.own x)) x (.ins C dx [])) (λv H2=>v = .non/\Q (.ref x) H2) E
def Binds (K:Fg)(fd:FuncData)(ps:List Str)(ds:List Value):Prop :=
 ∀(s:Shared)(us:List Value),K.In s.heap->(us++ds).length=ps.length->BindsTo s fd ⟨us,[]⟩ (ps.zip (us++ds))
theorem Binds.all (h:∀ us:List Value,us.length=ps.length->bindArgs fd ⟨us,[]⟩=pure (ps.zip us)):Binds K fd ps []:=λs us _ hl=>by
 rw [yn] at hl ⊢;exact .of_eq (h us hl)
def jX (CX:CXT)(X:Cx)(E:XK):Prop:=∀(pins:List (Addr×Obj))(σ:St)(H:Hp)(s:Shared)(e:Value)(s':Shared),Inv X pins σ H s->CX X.stack H s E e s'->X.xe e s'
section
variable {X:Cx}{CX:CXT}{k:Nat}{f C:Addr}{fd:FuncData}{ps:List Str}{sp:Sp}{dvs:List V}{ds:List Value}{E:XK}{x m:Str}{p pos apos:Pos}{e o:Expr}{es:List Expr}{ta:TE}{t:TA}
theorem VS {Q:VK}(F:FnOk X.prog X.w X.K X.mg X.base CX k f fd ps sp)(hr:Room k X.A)(hb:Binds X.K fd ps ds)(hd:Vals dvs ds)(hx:jX CX X E)(I:Inv X pins σ H s)(r:Vals vs us)(h:sp (vs++dvs) H Q E):wpAny (model X.prog X.w) X.A (call (.ref f) us) (EP X pins σ Q) X.xe s:=by
 have r2:Vals (vs++dvs) (us++ds):=r.append hd;have hl:(us++ds).length=ps.length:=by rw [<- r2.length];exact F.len _ _ _ _ h
 refine wpAny_call (codeAny_mono (F.run X.A X.stack s H ⟨us,[]⟩ (us++ds) (vs++dvs) Q E hr I.env0 (hb s us I.kIn hl) r2 h) λr s' hq=>?_);cases r with
 |error e=>exact hx pins σ H s e s' I hq
 |ok fl =>
  cases fl with
  |ret u=>exact I.after hq
  |next=>exact False.elim hq
  |brk=>exact False.elim hq
  |cont=>exact False.elim hq
theorem Rb (F:FnOk X.prog X.w X.K X.mg X.base CX k f fd ps sp)(hr:Room k X.A)(hg:Gl X x)(hm:X.mg x=some (.ref f))(hk:PySem.W.keepIn X.K (.ref f)=true)(hb:Binds X.K fd ps ds)(hd:Vals dvs ds)(hx:jX CX X E)(ha:PA X (e::es) t)(hdb:(x==("__debug__":Str))=false:=by decide)(he:starEach (e::es) X.env=(false,eval e X.env)::starEach es X.env:=by rfl)(hpl:(backTo pos (starEach es X.env)).any (·.1)=false:=by rfl):PE X (.Call (.Name x p) (e::es) [] pos) (jb sp dvs E t):=by intro pins s σ H Q I h;refine wpAny_Call_Name_kw (JP I hg hm ?_ hdb);refine PySem.W.callWith_K (h₀:=X.base) I.ok.mod.kin hk (v5 (ha pos pins s σ H _ I h) λus s1 ⟨vs,H1,I1,r,q⟩=>⟨I1.kIn,?_⟩) he hpl;exact VS F hr hb hd hx I1 r q
theorem Ri {pl:Sem Bool}(he:PE X o ta)(c:Cls X.K C)(hm:Qi X.K C m f)(F:FnOk X.prog X.w X.K X.mg X.base CX k f fd ps sp)(hr:Room k X.A)(hb:Binds X.K fd ps ds)(hd:Vals dvs ds)(hx:jX CX X E)(ha:PA X (e::es) t)
  (hst:starEach (e::es) X.env=(false,eval e X.env)::starEach es X.env:=by rfl) (hpl:(backTo pos (starEach es X.env)).any (·.1)=false:=by rfl)
  (ht:eval (.Call (.Attribute o m apos) (e::es) [] pos) X.env=(do
   let ov <- eval o X.env
   standAt apos.atName
   let (f,first) <- holding [ov] (getMethod ov m pl)
   callWith pos f first (backTo pos (starEach (e::es) X.env)) (backToKw pos (keywordEach [] X.env))):=by rfl) :
  PE X (.Call (.Attribute o m apos) (e::es) [] pos) (vR C m sp dvs E ta t):=by
 intro pins s σ H Q I h;refine PySem.W.methodCall_KW (pl:=pl) (v5 (he pins s σ H _ I h) λu s1 ⟨x,H1,I1,rx,a,dx,fs,ex,ea,l,q⟩=>?_) ht;subst ex;obtain rfl:u=Value.ref a:=rx;refine JD I1 ea c hm l ?_;refine PySem.W.callWith_K (first:=[.ref a]) (h₀:=X.base) I.ok.mod.kin hm.kp (v5 (ha pos pins s1 σ H1 _ I1 q) λus s2 ⟨vs,H2,I2,r,q2⟩=>⟨I2.kIn,?_⟩) hst hpl;exact VS (us:= .ref a::us) (vs:= .ref a::vs) F hr hb hd hx I2 (.cons rfl r) q2
theorem Rj {pl:Sem Bool}(he:PE X o ta)(c:Cls X.K C)(hm:Qi X.K C m f)(F:FnOk X.prog X.w X.K X.mg X.base CX k f fd ps sp)(hr:Room k X.A)(hb:Binds X.K fd ps ds)(hd:Vals dvs ds)(hx:jX CX X E)
  (ht:eval (.Call (.Attribute o m apos) [] [] pos) X.env=(do
   let ov <- eval o X.env
   standAt apos.atName
   let (f,first) <- holding [ov] (getMethod ov m pl)
   callWith pos f first (backTo pos (starEach [] X.env)) (backToKw pos (keywordEach [] X.env))):=by rfl) :
  PE X (.Call (.Attribute o m apos) [] [] pos) (vR C m sp dvs E ta i7):=by
 intro pins s σ H Q I h;refine PySem.W.methodCall_KW (pl:=pl) (v5 (he pins s σ H _ I h) λu s1 ⟨x,H1,I1,rx,a,dx,fs,ex,ea,l,q⟩=>?_) ht;subst ex;obtain rfl:u=Value.ref a:=rx;refine JD I1 ea c hm l ?_;exact PySem.W.callWith_K0 (first:=[.ref a]) I1.kIn hm.kp (VS (us:=[.ref a]) (vs:=[.ref a]) F hr hb hd hx I1 (.cons rfl .nil) q)
structure Mk (K:Fg)(C f:Addr):Prop where
 makes:PySem.W.makesIn K C=true
 init:PySem.W.findIn K (.ref C) "__init__"=some (some (.ref f))
 fn:PySem.W.isFn K (.ref f)=true
 kp:PySem.W.keepIn K (.ref C)=true
theorem Td {Q:VK}(M:Mk X.K C f)(F:FnOk X.prog X.w X.K X.mg X.base CX k f fd ps sp)(hr:Room (k+1) X.A)(hb:Binds X.K fd ps ds)(hd:Vals dvs ds)(hx:jX CX X E)(I:Inv X pins σ H s)(r:Vals vs us)(h:∀ x dx,H x=none->H dx=none->dx≠x->sp (.ref x::(vs++dvs)) (j4 (j4 H dx (.own x)) x (.ins C dx [])) (λv H2=>v = .non/\Q (.ref x) H2) E):wpAny (model X.prog X.w) X.A (call (.ref C) us) (EP X pins σ Q) X.xe s:=by
 have hq:=h (s.heap.objs.size+1) s.heap.objs.size (I.hok.fresh (ui _)) (I.hok.fresh (yU _)) (yH (uA _));have I2:=Inv.made (C:=C) I;have r2:Vals (V.ref (s.heap.objs.size+1)::(vs++dvs)) (Value.ref (s.heap.objs.size+1)::(us++ds)):= .cons rfl (r.append hd);have hl:(Value.ref (s.heap.objs.size+1)::us++ds).length=ps.length:=by have e:=r2.length;rw [F.len _ _ _ _ hq] at e;exact e.symm
 refine wpAny_call (LY (f:=f) I.kIn M.makes M.init (beq_iff_eq.mp M.fn) (codeAny_mono (F.run _ X.stack _ _ ⟨Value.ref (s.heap.objs.size+1)::us,[]⟩ (Value.ref (s.heap.objs.size+1)::(us++ds)) _ _ E (hr.make C us [])
  (I2.env0.make C us []) (hb _ (Value.ref (s.heap.objs.size+1)::us) I2.kIn hl) r2 hq) λr s' hq'=>?_))
 cases r with
 |error e=>exact hx pins σ _ _ e s' I2 hq'
 |ok fl =>
  cases fl with
  |ret u=>obtain ⟨v,H',I3,rv,ev,q3⟩:=I2.after hq';subst ev;exact ⟨rv,⟨V.ref (s.heap.objs.size+1),H',I3,rfl,q3⟩⟩
  |next=>exact False.elim hq'
  |brk=>exact False.elim hq'
  |cont=>exact False.elim hq'
theorem Rg (M:Mk X.K C f)(F:FnOk X.prog X.w X.K X.mg X.base CX k f fd ps sp)(hr:Room (k+1) X.A)(hg:Gl X x)(hm:X.mg x=some (.ref C))(hb:Binds X.K fd ps ds)(hd:Vals dvs ds)(hx:jX CX X E)(ha:PA X (e::es) t)(hdb:(x==("__debug__":Str))=false:=by decide)(he:starEach (e::es) X.env=(false,eval e X.env)::starEach es X.env:=by rfl)(hpl:(backTo pos (starEach es X.env)).any (·.1)=false:=by rfl):PE X (.Call (.Name x p) (e::es) [] pos) (Xr C sp dvs E t):=by intro pins s σ H Q I h;refine wpAny_Call_Name_kw (JP I hg hm ?_ hdb);refine PySem.W.callWith_K (h₀:=X.base) I.ok.mod.kin M.kp (v5 (ha pos pins s σ H _ I h) λus s1 ⟨vs,H1,I1,r,q⟩=>⟨I1.kIn,?_⟩) he hpl;exact Td M F hr hb hd hx I1 r q
end
structure w6 (N P:List Str)(sc:Scope):Prop where
 kind:sc.kind = .function
 co:sc.isCoroutine=false
 gen:sc.isGenerator=false
 nd:N.Nodup
 pre:N.take P.length=P
 par:∀ x∈P,sc.names.lookup x=some .local∨sc.names.lookup x=some .cell
 nofree:∀ y∈sc.names,y.2 ≠ .free
theorem Gg {kindOf:Str->Option NameKind}{x:Str}:∀{binds:List (Str×Value)}{m:Str->Option Value},(∀ v,(x,v)∉binds)->bindL kindOf binds m x=m x
 |[],_,_=>rfl
 |(n,v)::r,m,h=>by
  unfold bindL;rw [Gg λw hw=>h w (yS _ hw)];split
  ·have:x≠n:=by rintro rfl;exact h v yT
   simp [this]
  ·rfl
theorem Ge {kindOf:Str->Option NameKind}{x:Str}:∀{binds:List (Str×Value)}{m:Str->Option Value},(∀ v,(x,v)∉binds)->bindC kindOf binds m x=m x
 |[],_,_=>rfl
 |(n,v)::r,m,h=>by
  unfold bindC;rw [Ge λw hw=>h w (yS _ hw)];split
  ·rfl
  ·have:x≠n:=by rintro rfl;exact h v yT
   simp [this]
theorem Gf {kindOf:Str->Option NameKind}{x:Str}{v:Value}:∀{P:List Str}{vs:List Value}{i:Nat}{m:Str->Option Value},P.Nodup->P[i]?=some x->vs[i]?=some v->kindOf x=some .local -> bindL kindOf (P.zip vs) m x=some v
 |[],_,_,_,_,h,_,_=>by simp at h
 |_::_,[],_,_,_,_,h,_=>by simp at h
 |p::P,w::vs,0,m,nd,h1,h2,hk=>by
  simp at h1 h2;subst h1;subst h2;show bindL kindOf ((p,w)::P.zip vs) m p=_;unfold bindL;rw [Gg λv hv=>(yu.mp nd).1 (uq hv).1,if_pos hk];simp
 |p::P,w::vs,i+1,m,nd,h1,h2,hk=>by
  show bindL kindOf ((p,w)::P.zip vs) m x=_;unfold bindL;exact Gf (i:=i) (yu.mp nd).2 (by simpa using h1) (by simpa using h2) hk
theorem Gd {kindOf:Str->Option NameKind}{x:Str}{v:Value}:∀{P:List Str}{vs:List Value}{i:Nat}{m:Str->Option Value},P.Nodup->P[i]?=some x->vs[i]?=some v->kindOf x≠some .local -> bindC kindOf (P.zip vs) m x=some v
 |[],_,_,_,_,h,_,_=>by simp at h
 |_::_,[],_,_,_,_,h,_=>by simp at h
 |p::P,w::vs,0,m,nd,h1,h2,hk=>by
  simp at h1 h2;subst h1;subst h2;show bindC kindOf ((p,w)::P.zip vs) m p=_;unfold bindC;rw [Ge λv hv=>(yu.mp nd).1 (uq hv).1,if_neg hk];simp
 |p::P,w::vs,i+1,m,nd,h1,h2,hk=>by
  show bindC kindOf ((p,w)::P.zip vs) m x=_;unfold bindC;exact Gd (i:=i) (yu.mp nd).2 (by simpa using h1) (by simpa using h2) hk
def start (N:List Str)(vs:List V):St:=vs.map some++List.replicate (N.length-vs.length) none
def xj (CX:CXT)(P:Program)(w:World)(K:Fg)(mg:Str->Option Value)(base:Heap)(N:List Str)(qual:Str)(scope:Scope)(f:Addr)(cd:Value)(A:Around)(outer:List Env)(s:Shared)(H:Hp)(E:XK):Cx where
 prog:=P
 w:=w
 K:=K
 mg:=mg
 base:=base
 A:=A.deeper (envOfC qual scope s.heap.objs.size f cd)
 N:=N
 s₀:=s
 H₀:=H
 env:=envOfC qual scope s.heap.objs.size f cd
 outer:=outer
 stack:=envOfC qual scope s.heap.objs.size f cd::outer
 ex:=[]
 calm:=true
 fn:=λ_=>true
 pn:=[]
 xe:=λe s'=>wpAny (model P w) (A.deeper (envOfC qual scope s.heap.objs.size f cd)) (leaving (envOfC qual scope s.heap.objs.size f cd) e) (λ_ s''=>CX outer H s E e s'') (λe' s''=>CX outer H s E e' s'') s'
theorem Gv {sc:Scope}(h:sc.names.lookup x=some .cell):∃ c,(cellsFrom n sc.names []).lookup x=some c:=by have q:=PySem.W.cellsFrom_some sc.names n [] (.inl h);exact Option.isSome_iff_exists.mp q
theorem Ld {f:Addr}{cd:Value}{s1:Shared}{E:XK}(S:w6 N ps scope)(hd:A.handled=none)(e0:Env0 P w K mg base A outer s H)(hl:vs.length=ps.length)(r:Vals vs us)(x:InCallC s s.heap.objs.size (bindL (envOfC qual scope s.heap.objs.size f cd).kindOf (ps.zip us) λ_=>none) (cellsFrom (s.heap.objs.size+1) scope.names []) (bindC (envOfC qual scope s.heap.objs.size f cd).kindOf (ps.zip us) λ_=>none) s1):Inv (xj CX P w K mg base N qual scope f cd A outer s H E) [] (start N vs) H s1:=by
 have hpl:ps.length<=N.length:=by have:=congrArg List.length S.pre;rw [uO] at this;omega
 obtain ⟨h1,tk,rfl,hk⟩:=x.done;have noA:∀ b:Addr,b∉(xj CX P w K mg base N qual scope f cd A outer s H E).ex:=λb z=>absurd (show b∈([]:List Addr) from z) (by simp);refine ⟨⟨e0.mod,S.kind,rfl,rfl,yU _,λy z c h1 h2=>?_,λy hy=>?_,λy c _ h=>?_,λ_=>hd,Around.frames_deeper e0.frames,.inr ⟨rfl,rfl⟩,λb z=>absurd z (noA b),e0.bs,e0.bsz,λb _ _=>noA b,λb z=>absurd z (noA b),e0.funs,e0.frf,e0.tbs⟩,
  rfl,e0.bare,Un.kept hk,⟨_,x.toInCall.ns,λi y v h1 h2 h3=>?_⟩,λy c h=>⟨_,x.cell y c h⟩,e0.hok.fresh (yU _),λy c h=>?_,λp hp=>absurd (show p∈([]:List (Addr×Obj)) from hp) (by simp),e0.hok.kept hk,?_⟩
 ·exact name_of_addr x.apart (PySem.mem_of_lookup h1) (PySem.mem_of_lookup h2)
 ·have hy:scope.names.lookup y=some .cell∨scope.names.lookup y=some .free:=hy;rcases hy with hy|hy
  ·exact Gv hy
  ·exact absurd rfl (S.nofree _ (PySem.mem_of_lookup hy))
 ·exact uS (x.above y c (PySem.mem_of_lookup h))
 ·have hi:i<vs.length:=by
   unfold start at h2;by_cases hi:i<vs.length
   ·exact hi
   ·rw [uW (by simpa using hi)] at h2;rw [tZ] at h2;split at h2<;>cases h2
  have ha:vs[i]?=some v:=by
   unfold start at h2;rw [uY (by simpa using hi),yP] at h2;cases e:vs[i]? with
   |none=>rw [e] at h2;cases h2
   |some a=>rw [e] at h2;cases h2;rfl
  obtain ⟨u,hu,rv⟩:=r.get ha;have hp:ps[i]?=some y:=by rw [<- S.pre,List.getElem?_take_of_lt (by omega)];exact h1
  have ndP:ps.Nodup:=by rw [<- S.pre];exact S.nd.sublist (List.take_sublist _ _)
  refine ⟨u,rv,?_⟩;rcases S.par y (yA hp) with k|k
  ·exact .inl ⟨k,Gf ndP hp hu k⟩
  ·obtain ⟨c,e⟩:=Gv (n:=s.heap.objs.size+1) k;refine .inr ⟨.inl k,c,e,?_⟩;have q:=x.cell y c e;rw [Gd ndP hp hu (by show scope.names.lookup y≠_;rw [k];decide)] at q;exact q
 ·exact e0.hok.fresh (uS (x.above y c (PySem.mem_of_lookup h)))
 ·unfold start;show _=N.length;rw [yQ,yZ,tV];omega
theorem JA {k:Nat}{f:Addr}{name:Str}{params:Arguments}{dV kV doc pm cdv ct oc:Value}{an od:Option Addr}{osl:Array (Option Value)}(lk:K.lookup f=some ⟨oc,od,.func (PySem.W.fnOf name qual params body scope dV kV doc pm an cdv ct),osl⟩)(hcd:PySem.W.codeIn K cdv qual=true)(S:w6 N ps scope)(len:∀ vs H Q E,sp vs H Q E->vs.length=ps.length)(hbody:∀(A:Around)(outer:List Env)(s:Shared)(H:Hp)(vs:List V)(Q:VK)(E:XK),Room k (A.deeper (envOfC qual scope s.heap.objs.size f cdv))->sp vs H Q E -> ∃ t,PSs (xj CX P w K mg base N qual scope f cdv A outer s H E) body t/\t { nx:=λ_ H'=>Q .non H',rt:=Q } (start N vs) H):FnOk P w K mg base CX (k+1) f (PySem.W.fnOf name qual params body scope dV kV doc pm an cdv ct) ps sp:=by
 refine ⟨len,λA outer s H args us vs Q E hr e0 hb r hsp=>?_⟩;have hl:=len _ _ _ _ hsp;have KX:K.In s.heap:=e0.mod.kin.keeps λb o e=>(e0.bs b o e).1;have lim:s.heap.NoLimit:=e0.mod.nolimit.keeps λb o e=>(e0.bs b o e).1;have hkind:∀ y∈ps.zip us,scope.names.lookup y.1=some .local∨(scope.names.lookup y.1=some .cell/\((cellsFrom (s.heap.objs.size+1) scope.names []).lookup y.1).isSome=true):=λ⟨n,v⟩ hy=>by
  rcases S.par n (uq hy).1 with q|q
  ·exact .inl q
  ·exact .inr ⟨q,PySem.W.cellsFrom_some _ _ _ (.inl q)⟩
 refine codeAny_call_function hr.depth (KX _ _ lk) rfl S.co S.gen rfl (PySem.W.codeRec_of KX hcd) (hb _ _ _ _ ?_);refine wpAny_newFunctionEnv_cells S.kind hkind λenv he s1 x=>?_;subst he;refine ⟨lim.keeps x.toInCall.keep,codeAny_func ?_⟩;obtain ⟨t,ht,hq⟩:=hbody A outer s H vs Q E (hr.deeper _) hsp;have I:Inv (xj CX P w K mg base N qual scope f cdv A outer s H E) [] (start N vs) H s1:=Ld S hr.hd e0 hl r x;refine wpAny_mono (ht [] s1 (start N vs) H _ I hq) (λfl s' hs=>?_) λe s' hs=>hs;have fin:∀{σ':St}{H':Hp}{v:V}{u:Value},Inv (xj CX P w K mg base N qual scope f cdv A outer s H E) [] σ' H' s'->RelV v u->Q v H'->CE outer P w H s Q u s' :=
  λ{σ' H' v u} J rv q=>⟨v,H',J.os,J.bare,J.base,J.hok,rv,q⟩
 cases fl with
 |ret u=>obtain ⟨v,σ',H',J,rv,q⟩:=hs;exact fin J rv q
 |next=>obtain ⟨σ',H',J,q⟩:=hs;exact fin (v:=V.non) (u:=Value.none) J rfl q
 |brk=>obtain ⟨_,_,_,q⟩:=hs;exact False.elim q
 |cont=>obtain ⟨_,_,_,q⟩:=hs;exact False.elim q
section
variable {X:Cx}{x:Str}{p pos:Pos}{e:Expr}{es:List Expr}{t:TA}{id T:String}{r:List V->Hp->VK->Prop}
def tCB (r:List V->Hp->VK->Prop)(t:TA):TE:=λσ H Q=>t σ H λvs H1=>r vs H1 Q
theorem u7 (hc:CallR X (.builtin id) r)(hg:Gl X x)(hm:X.mg x=none)(hv:bootBuiltins x=some (.builtin id))(ha:PA X (e::es) t)(hn:x ≠ "__name__":=by decide)(hdb:(x==("__debug__":Str))=false:=by decide)(he:starEach (e::es) X.env=(false,eval e X.env)::starEach es X.env:=by rfl)(hpl:(backTo pos (starEach es X.env)).any (·.1)=false:=by rfl):PE X (.Call (.Name x p) (e::es) [] pos) (tCB r t):=by intro pins s σ H Q I h;refine wpAny_Call_Name_kw (zS I hg hm hv ?_ hn hdb);exact PyProof.Rows.callWith_builtin1 (v5 (ha pos pins s σ H _ I h) λus s1 ⟨vs,H1,I1,r1,q1⟩=>hc pins s1 σ H1 vs us Q I1 r1 q1) he hpl
theorem zB (hc:CallR X (.type T) r)(hg:Gl X x)(hm:X.mg x=none)(hv:bootBuiltins x=some (.type T))(ha:PA X (e::es) t)(hn:x ≠ "__name__":=by decide)(hdb:(x==("__debug__":Str))=false:=by decide)(he:starEach (e::es) X.env=(false,eval e X.env)::starEach es X.env:=by rfl)(hpl:(backTo pos (starEach es X.env)).any (·.1)=false:=by rfl):PE X (.Call (.Name x p) (e::es) [] pos) (tCB r t):=by intro pins s σ H Q I h;refine wpAny_Call_Name_kw (zS I hg hm hv ?_ hn hdb);exact PyProof.Rows.callWith_type1 (v5 (ha pos pins s σ H _ I h) λus s1 ⟨vs,H1,I1,r1,q1⟩=>hc pins s1 σ H1 vs us Q I1 r1 q1) he hpl
end
end L2
namespace HT
open PySem PyProof.Rows
section
variable {prog:Program}{w:World}{A:Around}{E:Value->Shared->Prop}{s:Shared}
theorem cat_tup {t b:Addr}{vs ws:List Value}{Q:Value->Shared->Prop}(ht:IsTup s.heap t vs.toArray)(hb:IsTup s.heap b ws.toArray)(hv:vs≠[])(h1:ws=[]->Q (.ref t) s)(h2:ws≠[]->Q (.ref s.heap.objs.size) { s with heap:=s.heap.push { cls:= .type "tuple",data:= .seq (vs++ws).toArray } })(hsz:vs.length+ws.length<=sizeLine):wpAny (model prog w) A (binaryOp .Add (.ref t) (.ref b)) Q E s:=by
 obtain ⟨⟨cls,dd,data,sl⟩,ho,hc,n,hd⟩:=id ht;obtain ⟨⟨cls2,dd2,data2,sl2⟩,ho2,hc2,n2,hd2⟩:=id hb;simp only at hc hd hc2 hd2;subst hc hd hc2 hd2;have e:vs.toArray++ws.toArray=(vs++ws).toArray:=by simp
 by_cases hw:ws=[]
 ·exact concat_meets ⟨_,ho,rfl⟩ ⟨_,ho2,rfl⟩ noFill_tuple_add seq_tuple_add PySem.F.slot_tuple_add PySem.F.entry_tuple_add (PySem.F.args_tuple_add_2 _ _)
   (tuple_addW1 t b vs.toArray ws.toArray n n2 dd dd2 sl sl2 (by simpa using hv) (by simp [hw])) ⟨ho,ho2,h1 hw⟩
 ·refine concat_meets ⟨_,ho,rfl⟩ ⟨_,ho2,rfl⟩ noFill_tuple_add seq_tuple_add PySem.F.slot_tuple_add PySem.F.entry_tuple_add (PySem.F.args_tuple_add_2 _ _)
   (tuple_addW2 t b vs.toArray ws.toArray n n2 dd dd2 sl sl2 (by simpa using hv) (by simpa using hw) (by rw [yW,yW];exact hsz)) ⟨ho,ho2,?_⟩
  rw [e];exact h2 hw
def sIx (n d:Nat):Option Int->Nat
 |none=>d
 |some v=>if v<0 then (v+(n:Int)).toNat else min v.toNat n
theorem sIx_none (n d:Nat):sIx n d none=d:=rfl
theorem sIx_nat (n d k:Nat):sIx n d (some (k:Int))=min k n:=by show (if (k:Int)<0 then ((k:Int)+(n:Int)).toNat else min (k:Int).toNat n)=min k n;rw [if_neg (by omega),uH]
end
end HT
namespace L2
open PySem PySem.Spec PyProof.Rows
variable{r:R2}{xs:List (List z9×Addr×Value)}{j n t':Nat}{α:Type}{pins:List (Addr×Obj)}{σ:St}{H H':Hp}{s:Shared}{its its':List Value}{A:Around}{x y:V}{u v:Value}{T:String}{o:Option V}{P:Program}{w:World}{kvs:List (List z9×V)}{a:Addr}{Q:Value->Shared->Prop}{h':Heap}
abbrev TO:=St->Hp->(Option Int->Hp->Prop)->Prop
def PO (X:Cx)(e:Option Expr)(t:TO):Prop :=
 ∀(pins:List (Addr×Obj))(s:Shared)(σ:St)(H:Hp)(Q:Option Int->Hp->Prop),Inv X pins σ H s->t σ H Q ->
  wpAny (model X.prog X.w) X.A (evalPart e X.env) (λu s'=>∃ o H',Inv X pins σ H' s'/\IsPart u o/\Q o H') X.xe s
def PQ:TO:=λ_ H Q=>Q none H
def PU (t:TE):TO:=λσ H Q=>t σ H λx H1=>∃ i,x = .int i/\Q (some i) H1
section
variable {X:Cx}{e:Expr}{te:TE}{lo hi:Option Expr}{tl th:TO}{pos p2:Pos}
theorem BB:PO X none PQ:=by intro pins s σ H Q I h;rw [evalPart_none];exact yC ⟨none,H,I,.none,h⟩
theorem BC (h:PE X e te):PO X (some e) (PU te):=by intro pins s σ H Q I hw;rw [evalPart_some];refine v5 (h pins s σ H _ I hw) λu s1 ⟨x,H1,I1,r1,q1⟩=>?_;obtain ⟨i,rfl,q⟩:=q1;obtain ⟨t,rfl⟩:=r1;exact ⟨some i,H1,I1,.int i t,q⟩
def SlR (X:Cx)(r:V->Option Int->Option Int->Hp->VK->Prop):Prop :=
 ∀(pins:List (Addr×Obj))(s:Shared)(σ:St)(H:Hp)(x:V)(v vl vu:Value)(lo hi:Option Int)(sl:Addr)(Q:VK),Inv X pins σ H s->RelV x v->s.heap.IsSliceOf sl vl vu .none->IsPart vl lo->IsPart vu hi->r x lo hi H Q ->
  ∃ T id,typeLookup (.type T) "__getitem__"=pure (some (.builtin id))/\s.TypeIs v T/\wpAny (model X.prog X.w) X.A (getItem v (.ref sl)) (EP X pins σ Q) X.xe s
def tSl (r:V->Option Int->Option Int->Hp->VK->Prop)(te:TE)(tl th:TO):TE:=λσ H Q=>te σ H λx H1=>tl σ H1 λl H2=>th σ H2 λu H3=>r x l u H3 Q
theorem Bv {r:V->Option Int->Option Int->Hp->VK->Prop}(hr:SlR X r)(he:PE X e te)(hl:PO X lo tl)(hu:PO X hi th):PE X (.Subscript e (.Slice lo hi none p2) pos) (tSl r te tl th):=by intro pins s σ H Q I h;refine Subscript_ (v5 (he pins s σ H _ I h) λv s1 ⟨x,H1,I1,r1,q1⟩=>?_);refine wpAny_Slice (v5 (hl pins s1 σ H1 _ I1 q1) λvl s2 ⟨l,H2,I2,pl,q2⟩=>v5 (hu pins s2 σ H2 _ I2 q2) λvu s3 ⟨u,H3,I3,pu,q3⟩=>?_);rw [evalPart_none];refine yC ?_;have I4:Inv X pins σ H3 { s3 with heap:=s3.heap.push { cls:= .type "slice",data:= .fields #[vl,vu,.none] } }:=I3.kept (t':=s3.toks) λb ob q=>yV _ q;obtain ⟨T,id,hT,ht,hg⟩:=hr pins { s3 with heap:=s3.heap.push { cls:= .type "slice",data:= .fields #[vl,vu,.none] } } σ H3 x v vl vu l u s3.heap.objs.size Q I4 r1 (Heap.IsSliceOf.new ..) pl pu q3;show wpAny (model X.prog X.w) X.A (subscriptTail e (.Slice lo hi none p2) v (.ref s3.heap.objs.size)) (EP X pins σ Q) X.xe { s3 with heap:=s3.heap.push { cls:= .type "slice",data:= .fields #[vl,vu,.none] } };exact tail_any (ops:=[.ref s3.heap.objs.size,v]) ht hT hg (by with_unfolding_all rfl)
def wj (xs:List V)(lo hi:Option Int):List V:=(xs.drop (HT.sIx xs.length 0 lo)).take (HT.sIx xs.length xs.length hi-HT.sIx xs.length 0 lo)
theorem DO (xs:List V)(lo hi:Option Int):(wj xs lo hi).length<=xs.length:=by unfold wj;rw [uO,uu];omega
def BJ (K:Fg):R2:=λx y H Q=>∃ a b xs ys,x = .ref a/\y = .ref b/\SqT K H a xs/\SqT K H b ys/\xs≠[]/\xs.length+ys.length<=sizeLine /\
 (ys=[]->Q (.ref a) H)/\(ys≠[]->∀ p,H p=none->Q (.ref p) (j4 H p (.tup (xs++ys))))
theorem Vals.nil_iff {xs:List V}{us:List Value}(r:Vals xs us):us=[]↔xs=[]:=by
 cases r with
 |nil=>simp
 |cons _ _=>simp
theorem HM:OpR X (binaryOp .Add) (BJ X.K):=by intro pins s σ H x y v u Q I rx ry h;obtain ⟨a,b,xs,ys,rfl,rfl,ha,hb,hx,hz,q1,q2⟩:=h;cases rx;cases ry;obtain ⟨its,r1,p1,_⟩:=I.tuple ha;obtain ⟨its2,r2,p2,_⟩:=I.tuple hb;refine HT.cat_tup p1 p2 (λz=>hx (r1.nil_iff.mp z)) (λz=>⟨.ref a,H,I,rfl,q1 (r2.nil_iff.mp z)⟩) (λz=>?_) (by rw [<- r1.length,<- r2.length];exact hz);refine ⟨.ref s.heap.objs.size,_,I.laid (t':=s.toks) (o:= .tup (xs++ys)) (λb ob q=>yV _ q) (yU _) ?_,rfl,q2 (λw=>z (r2.nil_iff.mpr w)) _ (I.hok.fresh (yU _))⟩;exact ⟨by rw [yQ];exact hz,_,r1.append r2,IsTup.new _ _⟩
end
def ixN (n:Nat)(i:Int):Option Nat:=if 0<=i then (if i<n then some i.toNat else none) else if -(n:Int)<=i then some (i+n).toNat else none
def atI {α:Type}(xs:List α)(i:Int):Option α:=(ixN xs.length i).bind λj=>xs[j]?
theorem KA {i:Int}(h:ixN n i=some j):seqIndex? i n=some j/\j<n/\-(n:Int)<=i/\i<n:=by
 unfold ixN at h;by_cases h0:0<=i
 ·rw [if_pos h0] at h;by_cases h1:i<n
  ·rw [if_pos h1] at h;have e:i.toNat=j:=Option.some.inj h;exact ⟨by rw [seqIndex_of h0 h1,e],by omega,by omega,h1⟩
  ·rw [if_neg h1] at h;cases h
 ·rw [if_neg h0] at h;by_cases h1:-(n:Int)<=i
  ·rw [if_pos h1] at h;have e:(i+n).toNat=j:=Option.some.inj h;exact ⟨by rw [seqIndex_neg (by omega) h1,e],by omega,h1,by omega⟩
  ·rw [if_neg h1] at h;cases h
theorem Ja {xs:List α}{i:Int}{v:α}(h:atI xs i=some v):∃ j,seqIndex? i xs.length=some j/\xs[j]?=some v/\j<xs.length/\-(xs.length:Int)<=i/\i<xs.length:=by
 unfold atI at h;cases e:ixN xs.length i with
 |none=>rw [e] at h;cases h
 |some j=>rw [e] at h;obtain ⟨h1,h2,h3,h4⟩:=KA e;exact ⟨j,h1,h,h2,h3,h4⟩
theorem xq {xs:List α}{v:α}(h:xs[j]?=some v):atI xs (j:Int)=some v:=by
 have hj:j<xs.length:=(yL.mp h).1;have e:ixN xs.length (j:Int)=some j:=by unfold ixN;rw [if_pos (by omega),if_pos (by omega)];simp
 unfold atI;rw [e];exact h
def YK (b:Expr):Prop:=∀ o i,subscripted b false o i=operate [o,i] (getItem o i)
def IxR (X:Cx)(r:R2):Prop :=
 ∀(value slice:Expr)(pins:List (Addr×Obj))(s:Shared)(σ:St)(H:Hp)(x y:V)(v u:Value)(Q:VK),Inv X pins σ H s->RelV x v->RelV y u->r x y H Q ->
  subscripted slice false v u=operate [v,u] (getItem v u)->wpAny (model X.prog X.w) X.A (subscriptTail value slice v u) (EP X pins σ Q) X.xe s
def MtR (X:Cx)(id:String)(r:V->List V->Hp->VK->Prop):Prop :=
 ∀(pins:List (Addr×Obj))(s:Shared)(σ:St)(H:Hp)(x:V)(xs:List V)(v:Value)(us:List Value)(Q:VK),Inv X pins σ H s->RelV x v->Vals xs us->r x xs H Q ->
  wpAny (model X.prog X.w) X.A (call (.builtin id) (v::us)) (EP X pins σ Q) X.xe s
section
variable {X:Cx}{a b:Expr}{ta tb:TE}{pos:Pos}
theorem IxR.or {r':R2}(h:IxR X r)(h':IxR X r'):IxR X (λx y H Q=>r x y H Q∨r' x y H Q):=by
 intro value slice pins s σ H x y v u Q I rx ry q hs;rcases q with q|q
 ·exact h value slice pins s σ H x y v u Q I rx ry q hs
 ·exact h' value slice pins s σ H x y v u Q I rx ry q hs
theorem ZG (hr:IxR X r)(ha:PE X a ta)(hb:PE X b tb)(hs:YK b):PE X (.Subscript a b pos) (tOp r ta tb):=by intro pins s σ H Q I h;exact Subscript_ (binT ha hb I h λv u s2 x y H2 I2 rx ry q=>hr a b pins s2 σ H2 x y v u Q I2 rx ry q (hs _ _))
def rIxL (K:Fg):R2:=λx y H Q=>∃ p xs i v,x = .ref p/\y = .int i/\SqL K H p xs/\atI xs i=some v/\Q v H
def rIxT (K:Fg):R2:=λx y H Q=>∃ p xs i v,x = .ref p/\y = .int i/\SqT K H p xs/\atI xs i=some v/\Q v H
def rIxS:R2:=λx y H Q=>∃ z i c,x = .str z/\y = .int i/\z.length<=sizeLine/\atI z.cps.toList i=some c/\Q (.str ⟨#[c]⟩) H
theorem ix_list:IxR X (rIxL X.K):=by
 intro value slice pins s σ H x y v u Q I rx ry h hs;obtain ⟨p,xs,i,z,rfl,rfl,hq,he,q⟩:=h;cases rx;obtain ⟨t,rfl⟩:=ry;obtain ⟨its,r,pl,hz⟩:=I.list hq;obtain ⟨j,h1,h2,h3,h4,h5⟩:=Ja he;obtain ⟨w,ew,rw'⟩:=r.get h2;have hl:=r.length;have hn:=vx;have fin:EP X pins σ Q w s:=⟨z,H,I,rw',q⟩;by_cases h0:0<=i
 ·have hj:i.toNat=j:=by rw [seqIndex_of h0 h5] at h1;exact Option.some.inj h1
  exact item_listR pl.isList h0 (by omega) (by rw [hj];simpa using ew) fin hs
 ·have hj:(i+(its.toArray.size:Int)).toNat=j:=by rw [seqIndex_neg (by omega) h4] at h1;rw [yW,<- hl];exact Option.some.inj h1
  exact subscriptTail_builtinR (x:=w) pl.isList.typeIs slot_list_getitem.lookup
   (wpAny_getItem_list_neg (Q:=λr s'=>r=w/\EP X pins σ Q r s') pl.isList (by omega) (by rw [yW]<;>omega) (by omega) (by rw [hj];simpa using ew) ⟨rfl,fin⟩) hs
theorem ix_tup:IxR X (rIxT X.K):=by
 intro value slice pins s σ H x y v u Q I rx ry h hs;obtain ⟨p,xs,i,z,rfl,rfl,hq,he,q⟩:=h;cases rx;obtain ⟨t,rfl⟩:=ry;obtain ⟨its,r,pl,hz⟩:=I.tuple hq;obtain ⟨j,h1,h2,h3,h4,h5⟩:=Ja he;obtain ⟨w,ew,rw'⟩:=r.get h2;have hl:=r.length;have hn:=vx;have fin:EP X pins σ Q w s:=⟨z,H,I,rw',q⟩;exact subscriptTail_builtinR (x:=w) pl.typeIs slot_tuple_getitem.lookup
  (getItem_tuple (j:=j) (Q:=λr s'=>r=w/\EP X pins σ Q r s') pl (by omega) (by omega) (by rw [yW,<- hl];exact h1) (by simpa using ew) ⟨rfl,fin⟩) hs
theorem Lr:IxR X rIxS:=by
 intro value slice pins s σ H x y v u Q I rx ry h hs;obtain ⟨z,i,c,rfl,rfl,hz,he,q⟩:=h;obtain ⟨t,rfl⟩:=rx;obtain ⟨t',rfl⟩:=ry;obtain ⟨j,h1,h2,h3,h4,h5⟩:=Ja he;have hl:z.cps.toList.length=z.length:=by simp [Str.length]
 rw [hl] at h1 h4 h5;have hn:=vx;exact tail_any (typeIs_str s z t) slot_str_getitem.lookup (getItem_str (c:=c) (by
  have e1:decide (i < -(2 ^ 63:Int))=false:=yB (by omega);have e2:decide (i >= 2 ^ 63)=false:=yB (by omega);rw [e1,e2,Bool.or_false]) (by rw [h1];simpa using h2) ⟨.str ⟨#[c]⟩,H,I.tok _,⟨_,rfl⟩,q⟩) hs
def rIx (K:Fg):R2:=λx y H Q=>rIxL K x y H Q∨rIxT K x y H Q∨rIxS x y H Q
theorem Lp:IxR X (rIx X.K):=ix_list.or (ix_tup.or Lr)
theorem Nb (its:List Value)(n j:Nat)(u:Value):Obj.mapSeq (·.setIfInBounds j u) { cls:= .type "list",data:= .seq its.toArray n }={ cls:= .type "list",data:= .seq (its.set j u).toArray n }:=by simp [Obj.mapSeq]
theorem Inv.lst {pins:List (Addr×Obj)}{σ:St}{H:Hp}{s:Shared}{p:Addr}{xs:List V}(I:Inv X pins σ H s)(h:H p=some (.lst xs)):∃ (its:List Value) (n:Nat),Vals xs its/\s.heap.get? p=some { cls:= .type "list",data:= .seq its.toArray n }/\xs.length<=sizeLine:=by obtain ⟨z,its,n,r,e⟩:=I.hok p _ h;exact ⟨its,n,r,e,z⟩
theorem Inv.lstUpd {p:Addr}{xs ys:List V}{n':Nat}{f:Obj->Obj}(I:Inv X pins σ H s)(h:H p=some (.lst xs))(ho:s.heap.get? p=some { cls:= .type "list",data:= .seq its.toArray n })(hf:f { cls:= .type "list",data:= .seq its.toArray n }={ cls:= .type "list",data:= .seq its'.toArray n' })(r:Vals ys its')(hz:ys.length<=sizeLine)(t:Nat):Inv X pins σ (j4 H p (.lst ys)) { s with heap:=s.heap.update p f,toks:=t }:=by
 have e:(s.heap.update p f).get? p=some { cls:= .type "list",data:= .seq its'.toArray n' }:=by rw [uo f ho (by rw [hf]<;>rfl),hf]
 refine I.write (x:=p) (e:=p) (by rw [h];trivial) (.inl rfl) (λb u hb q=>(yb _ _ (Ne.symm hb)).trans q) ⟨_,e⟩ ?_;exact ⟨hz,its',n',r,e⟩
def rSetL:V->V->V->Hp->(Hp->Prop)->Prop:=λo i v H Q=>∃ p xs k j,o = .ref p/\i = .int k/\H p=some (.lst xs)/\ixN xs.length k=some j/\Q (j4 H p (.lst (xs.set j v)))
theorem Pr:PSet X rSetL:=by
 intro pins s σ H o i v ov iv u Q I ro ri rv h;obtain ⟨p,xs,k,j,rfl,rfl,hp,hj,q⟩:=h;cases ro;obtain ⟨t,rfl⟩:=ri;obtain ⟨its,n,r,ho,hz⟩:=I.lst hp;obtain ⟨h1,h2,h3,h4⟩:=KA hj;have hl:=r.length;have hn:=vx;have I':Inv X pins σ (j4 H p (.lst (xs.set j v))) { s with heap:=s.heap.update p (Obj.mapSeq (·.setIfInBounds j u)) } :=
  I.lstUpd hp ho (Nb its n j u) (r.set rv j) (by rw [ym];exact hz) s.toks
 by_cases h0:0<=k
 ·have hk:k.toNat=j:=by rw [seqIndex_of h0 h4] at h1;exact Option.some.inj h1
  exact PySem.W.ki_setAt ho h0 (by omega) (by rw [yW,<- hl];exact h4) (by rw [hk];exact ⟨_,I',q⟩)
 ·have hk:(k+(its.toArray.size:Int)).toNat=j:=by rw [seqIndex_neg (by omega) h3] at h1;rw [yW,<- hl];exact Option.some.inj h1
  exact PySem.W.ki_setBack ho (by omega) (by rw [yW,<- hl];exact h3) (by omega) (by rw [hk];exact ⟨_,I',q⟩)
theorem Sm (lo hi:Option Int)(n:Nat):(sliceBounds lo hi none n).1=((HT.sIx n 0 lo:Nat):Int)/\(sliceBounds lo hi none n).2.1=((HT.sIx n n hi:Nat):Int)/\(sliceBounds lo hi none n).2.2=1:=by
 refine ⟨?_,?_,rfl⟩
 ·cases lo with
  |none=>simp [sliceBounds,HT.sIx]
  |some i =>
   simp only [sliceBounds,HT.sIx,tT,show (1:Int) > 0 by decide,if_true];by_cases h:i<0
   ·simp only [h,if_true]<;>omega
   ·simp only [h,if_false]<;>omega
 ·cases hi with
  |none=>simp [sliceBounds,HT.sIx]
  |some i =>
   simp only [sliceBounds,HT.sIx,tT,show (1:Int) > 0 by decide,if_true];by_cases h:i<0
   ·simp only [h,if_true]<;>omega
   ·simp only [h,if_false]<;>omega
theorem Sl (its:List Value)(lo hi:Option Int):slicePick its.toArray lo hi none=((its.drop (HT.sIx its.length 0 lo)).take (HT.sIx its.length its.length hi-HT.sIx its.length 0 lo)).toArray:=by obtain ⟨h1,h2,h3⟩:=Sm lo hi its.toArray.size;unfold slicePick;rw [h1,h2,h3];simp only [sliceRange_one,pick_run,yW]<;>rfl
def rSlL (K:Fg):V->Option Int->Option Int->Hp->VK->Prop:=λx lo hi H Q=>∃ a xs,x = .ref a/\SqL K H a xs/\∀ p,H p=none->Q (.ref p) (j4 H p (.lst (wj xs lo hi)))
theorem Si:SlR X (rSlL X.K):=by intro pins s σ H x v vl vu lo hi sl Q I rx hs pl pu h;obtain ⟨a,xs,rfl,hx,q⟩:=h;cases rx;obtain ⟨its,r,ht,hz⟩:=I.list hx;have hlen:=r.length;refine ⟨"list",_,slot_list_getitem.lookup,ht.isList.typeIs,?_⟩;refine wpAny_getItem_list_slice ht.isList hs pl pu .none (by simp) ?_ (by rw [yW]<;>omega);rw [Sl,<- hlen];refine ⟨.ref s.heap.objs.size,_,I.laid (t':=s.toks) (o:= .lst (wj xs lo hi)) (λb ob q=>yV _ q) (yU _) ?_,rfl,q _ (I.hok.fresh (yU _))⟩;exact ⟨yg (DO xs lo hi) hz,_,0,(r.drop (HT.sIx xs.length 0 lo)).take (HT.sIx xs.length xs.length hi-HT.sIx xs.length 0 lo),yD _ rfl⟩
def u8:V->Bool
 | .non=>true
 | .bl _=>true
 | .int _=>true
 | .str _=>true
 |_=>false
def i5:V->V->Bool
 | .non,.non=>true
 | .bl a,.bl b=>a==b
 | .bl a,.int b=>(if a then 1 else 0)==b
 | .int a,.bl b=>a==(if b then 1 else 0)
 | .int a,.int b=>a==b
 | .str a,.str b=>a==b
 |_,_=>false
theorem Jq (ry:RelV y u)(rx:RelV x v)(fy:u8 y=true)(fx:u8 x=true):SeqAt.EqAt A s u v (i5 y x):=by
 cases y with
 |non =>
  cases ry;cases x with
  |non=>cases rx;exact SeqAt.EqAt.same _
  |bl b=>cases rx;exact SeqAt.EqAt.none_bool b
  |int b=>obtain ⟨t,rfl⟩:=rx;exact SeqAt.EqAt.none_int b t
  |str b=>obtain ⟨t,rfl⟩:=rx;exact SeqAt.EqAt.none_str b t
  |_=>exact absurd (show false=true from fx) yR
 |bl a =>
  cases ry;cases x with
  |non=>cases rx;exact SeqAt.EqAt.bool_none a
  |bl b=>cases rx;exact SeqAt.EqAt.bool_bool a b
  |int b=>obtain ⟨t,rfl⟩:=rx;exact SeqAt.EqAt.bool_int a b t
  |str b=>obtain ⟨t,rfl⟩:=rx;exact SeqAt.EqAt.bool_str a b t
  |_=>exact absurd (show false=true from fx) yR
 |int a =>
  obtain ⟨t',rfl⟩:=ry;cases x with
  |non=>cases rx;exact SeqAt.EqAt.int_none a t'
  |bl b=>cases rx;exact SeqAt.EqAt.int_bool a t' b
  |int b=>obtain ⟨t,rfl⟩:=rx;exact SeqAt.EqAt.int_int a t' b t
  |str b=>obtain ⟨t,rfl⟩:=rx;exact SeqAt.EqAt.int_str a t' b t
  |_=>exact absurd (show false=true from fx) yR
 |str a =>
  obtain ⟨t',rfl⟩:=ry;cases x with
  |non=>cases rx;exact SeqAt.EqAt.str_none a t'
  |bl b=>cases rx;exact SeqAt.EqAt.str_bool a t' b
  |int b=>obtain ⟨t,rfl⟩:=rx;exact SeqAt.EqAt.str_int a t' b t
  |str b=>obtain ⟨t,rfl⟩:=rx;exact SeqAt.EqAt.str_str a t' b t
  |_=>exact absurd (show false=true from fx) yR
 |_=>exact absurd (show false=true from fy) yR
def eqU (x:V)(u:Value):Bool:=match u with
 | .none=>i5 .non x
 | .bool b=>i5 (.bl b) x
 | .int i _=>i5 (.int i) x
 | .str z _=>i5 (.str z) x
 |_=>false
theorem Jr (r:RelV y u)(f:u8 y=true):eqU x u=i5 y x:=by
 cases y with
 |non=>cases r;rfl
 |bl b=>cases r;rfl
 |int i=>obtain ⟨t,rfl⟩:=r;rfl
 |str z=>obtain ⟨t,rfl⟩:=r;rfl
 |_=>exact absurd (show false=true from f) yR
theorem Ql {x:V}:∀{xs:List V}{us:List Value},Vals xs us->xs.all u8=true->us.any (eqU x)=xs.any λy=>i5 y x
 |_,_,.nil,_=>rfl
 |y::xs,u::us,.cons r t,f=>by
  rw [List.all_cons,yf] at f;rw [List.any_cons,List.any_cons,Jr r f.1,Ql t f.2]
theorem wL {A:Around}{s:Shared}{x:V}{v:Value}(rx:RelV x v)(fx:u8 x=true):∀{xs:List V}{us:List Value},Vals xs us->xs.all u8=true->∀ u∈us,SeqAt.EqAt A s u v (eqU x u)
 |_,_,.nil,_=>λu hu=>by cases hu
 |y::xs,u::us,.cons r t,f=>λu' hu=>by
  rw [List.all_cons,yf] at f;rcases yM.mp hu with rfl|hu
  ·rw [Jr r f.1];exact Jq r rx f.1 fx
  ·exact wL rx fx t f.2 u' hu
def inV (x:V)(xs:List V):Bool:=xs.any λy=>i5 y x
def rIn (K:Fg)(neg:Bool):R2:=λx y H Q=>∃ p xs,y = .ref p/\(SqL K H p xs∨SqT K H p xs)/\u8 x=true/\xs.all u8=true/\Q (.bl (if neg then !inV x xs else inV x xs)) H
theorem HN:OpR X (compareOp .In) (rIn X.K false):=by
 intro pins s σ H x y v u Q I rx ry h;obtain ⟨p,xs,rfl,hq,fx,fs,q⟩:=h;cases ry;rcases hq with hq|hq
 ·obtain ⟨its,r,pl,hz⟩:=I.list hq;refine SeqAt.in_listAt (eqU x) pl.isList (λw hw=>wL rx fx r fs w (by simpa using hw)) ⟨.bl _,H,I,rfl,?_⟩;rw [show its.toArray.any (eqU x)=its.any (eqU x) by simp,Ql r fs];exact q
 ·obtain ⟨its,r,pl,hz⟩:=I.tuple hq;refine SeqAt.in_tupleAt (eqU x) pl (λw hw=>wL rx fx r fs w (by simpa using hw)) ⟨.bl _,H,I,rfl,?_⟩;rw [show its.toArray.any (eqU x)=its.any (eqU x) by simp,Ql r fs];exact q
theorem HU:OpR X (compareOp .NotIn) (rIn X.K true):=by
 intro pins s σ H x y v u Q I rx ry h;obtain ⟨p,xs,rfl,hq,fx,fs,q⟩:=h;cases ry;rcases hq with hq|hq
 ·obtain ⟨its,r,pl,hz⟩:=I.list hq;refine SeqAt.notIn_listAt (eqU x) pl.isList (λw hw=>wL rx fx r fs w (by simpa using hw)) ⟨.bl _,H,I,rfl,?_⟩;rw [show its.toArray.any (eqU x)=its.any (eqU x) by simp,Ql r fs];exact q
 ·obtain ⟨its,r,pl,hz⟩:=I.tuple hq;refine SeqAt.notIn_tupleAt (eqU x) pl (λw hw=>wL rx fx r fs w (by simpa using hw)) ⟨.bl _,H,I,rfl,?_⟩;rw [show its.toArray.any (eqU x)=its.any (eqU x) by simp,Ql r fs];exact q
theorem Dx:CallR X (.builtin "len") (λxs H Q=>∃ p ys,xs=[.ref p]/\(SqL X.K H p ys∨SqT X.K H p ys)/\Q (.int ys.length) H):=by
 intro pins s σ H xs us Q I r h;obtain ⟨p,ys,rfl,hq,q⟩:=h;obtain ⟨u,rfl,rx⟩:=za r;cases rx;have hn:=vx;rcases hq with hq|hq
 ·obtain ⟨its,r',pl,hz⟩:=I.list hq;have hlen:=r'.length;exact Calls.call_len_list pl.isList (by simp only [yW]<;>omega) ⟨.int ys.length,H,I.tok _,⟨s.toks+1,by rw [yW,hlen]⟩,q⟩
 ·obtain ⟨its,r',pl,hz⟩:=I.tuple hq;have hlen:=r'.length;exact len_tuple pl (by simp only [yW]<;>omega) ⟨.int ys.length,H,I.tok _,⟨s.toks+1,by rw [yW,hlen]⟩,q⟩
theorem CallR.or {f:Value}{r r':List V->Hp->VK->Prop}(h:CallR X f r)(h':CallR X f r'):CallR X f (λxs H Q=>r xs H Q∨r' xs H Q):=by
 intro pins s σ H xs us Q I rs q;rcases q with q|q
 ·exact h pins s σ H xs us Q I rs q
 ·exact h' pins s σ H xs us Q I rs q
theorem Dy:CallR X (.type "list") (λxs H Q=>∃ p ys,xs=[.ref p]/\(SqL X.K H p ys∨SqT X.K H p ys)/\∀ l,H l=none->Q (.ref l) (j4 H l (.lst ys))):=by
 intro pins s σ H xs us Q I r h;obtain ⟨p,ys,rfl,hq,q⟩:=h;obtain ⟨u,rfl,rx⟩:=za r;cases rx;have fin:∀(its:List Value),Vals ys its->ys.length<=sizeLine->∀(h':Heap)(c':Nat),(∀ b o',s.heap.get? b=some o'->h'.get? b=some o') ->
   h'.get? s.heap.objs.size=some { cls:= .type "list",dict:=none,data:= .seq its.toArray c',slots:=#[] }->EP X pins σ Q (.ref s.heap.objs.size) { s with heap:=h' }:=λits r' hz h' c' kp e =>
  ⟨.ref s.heap.objs.size,_,I.laid (t':=s.toks) kp (yU _) (show ObjOk X.prog X.w _ h' _ (.lst ys) from ⟨hz,its,c',r',e⟩),rfl,q _ (I.hok.fresh (yU _))⟩
 rcases hq with hq|hq
 ·obtain ⟨its,r',pl,hz⟩:=I.list hq;have hlen:=r'.length;obtain ⟨o,ho,hc,n,hd⟩:=pl.isList;exact call_list_seq p (.inl rfl) ho hc hd (λh' c' kp e=>fin its r' hz h' c' kp e) (by simp only [yW]<;>omega)
 ·obtain ⟨its,r',pl,hz⟩:=I.tuple hq;have hlen:=r'.length;obtain ⟨o,ho,hc,n,hd⟩:=pl;exact call_list_seq p (.inr rfl) ho hc hd (λh' c' kp e=>fin its r' hz h' c' kp e) (by simp only [yW]<;>omega)
def tyV (K:Fg)(T:String)(x:V)(H:Hp):Prop:=match x with
 | .str _=>T = "str"
 | .int _=>T = "int"
 | .ref p=>(T = "list"/\∃ xs,SqL K H p xs)∨(T = "tuple"/\∃ o,K.lookup p=some o/\o.cls = .type "tuple"/\o.dict=none) ∨
   (T = "dict"/\((∃ kvs,H p=some (.dK kvs))∨∃ kvs,H p=some (.dT kvs)))∨(T = "set"/\∃ S n,H p=some (.set S n))
 |_=>False
theorem SV (I:Inv X pins σ H s)(r:RelV x v)(ty:tyV X.K T x H):s.TypeIs v T/\∀ a,v = .ref a->∃ ob,s.heap.get? a=some ob/\ob.dict=none:=by
 cases x with
 |str z=>obtain ⟨t,rfl⟩:=r;cases (show T = "str" from ty);exact ⟨typeIs_str s z t,λ_ e=>nomatch e⟩
 |int i=>obtain ⟨t,rfl⟩:=r;cases (show T = "int" from ty);exact ⟨typeIs_int s i t,λ_ e=>nomatch e⟩
 |ref p =>
  cases r;rcases ty with ⟨rfl,xs,hq⟩|⟨rfl,o,hk,hc,hd⟩|⟨rfl,hk⟩|⟨rfl,S,n,hk⟩
  ·obtain ⟨its,_,pl,_⟩:=I.list hq;refine ⟨pl.isList.typeIs,λa e=>?_⟩;cases e;obtain ⟨o,n,e,c,hd,_⟩:=pl;exact ⟨o,e,hd⟩
  ·refine ⟨⟨o,I.kIn p o hk,hc⟩,λa e=>?_⟩;cases e;exact ⟨o,I.kIn _ o hk,hd⟩
  ·have z:∃ o,s.heap.get? p=some o/\o.ExactDict:=by
    rcases hk with ⟨kvs,hk⟩|⟨kvs,hk⟩
    ·obtain ⟨_,_,_,_,o,_,_,e,ex,_⟩:=I.hok p _ hk;exact ⟨o,e,ex⟩
    ·obtain ⟨_,_,_,_,o,_,_,e,ex,_⟩:=I.hok p _ hk;exact ⟨o,e,ex⟩
   obtain ⟨o,e,ex⟩:=z;refine ⟨⟨o,e,ex.1⟩,λa e2=>?_⟩;cases e2;exact ⟨o,e,ex.2.1⟩
  ·obtain ⟨o,_,_,_,e,ex,_⟩:=I.hok p _ hk;refine ⟨⟨o,e,ex.1⟩,λa e2=>?_⟩;cases e2;exact ⟨o,e,ex.2.1⟩
 |_=>exact False.elim ty
def tBM (K:Fg)(T:String)(r:V->List V->Hp->VK->Prop)(to:TE)(t:TA):TE:=λσ H Q=>to σ H λx H1=>tyV K T x H1/\t σ H1 λxs H2=>r x xs H2 Q
variable {o e:Expr}{es:List Expr}{to:TE}{t:TA}{name:Str}{apos cpos:Pos}{T id:String}{r:V->List V->Hp->VK->Prop}
theorem pe_bm (pa:PlainAttrs T)(slot:Slot T name id)(hty:typeOf (.builtin id)=pure (.type "method_descriptor"))(hm:MtR X id r)(ho:PE X o to)(ha:PA X (e::es) t)(hbase:attributeBase o name X.env (eval o X.env)=eval o X.env:=by rfl)(hfew:((backTo cpos (starEach (e::es) X.env)).all (λx=>!x.1)&&(backToKw cpos (keywordEach [] X.env)).all (λx=>x.1.isSome)&&decide ((e::es).length+([]:List Keyword).length+(if ([]:List Keyword).isEmpty then 0 else 1)<30))=true:=by rfl)(hline:(apos.endLine==cpos.line)=true:=by rfl)(hs:starEach (e::es) X.env=(false,eval e X.env)::starEach es X.env:=by rfl)(hplain:(backTo cpos (starEach es X.env)).any (·.1)=false:=by rfl):PE X (.Call (.Attribute o name apos) (e::es) [] cpos) (tBM X.K T r to t):=by intro pins s σ H Q I h;refine wpAny_Call_method_late hbase hfew hline rfl (v5 (ho pins s σ H _ I h) λv s1 ⟨x,H1,I1,r1,ty,q1⟩=>?_);obtain ⟨h1,h2⟩:=SV I1 r1 ty;refine ⟨T,id,pa,slot,hty,h1,h2,?_⟩;have hA:=ha cpos pins s1 σ H1 _ I1 q1;rw [hs] at hA ⊢;refine Calls.callWith_builtin (by show (false || (backTo cpos (starEach es X.env)).any (·.1))=false;rw [hplain]<;>rfl) (Calls.evalArgs_plain ?_);exact v5 hA λus s2 ⟨vs,H2,I2,r2,q2⟩=>hm pins s2 σ H2 x vs v us Q I2 r1 r2 q2
end
def MtM (X:Cx)(id:String)(r:V->List V->Hp->VK->Prop):Prop :=
 ∀(pins:List (Addr×Obj))(s:Shared)(σ:St)(H:Hp)(x:V)(xs:List V)(v:Value)(us:List Value)(Q:VK),Inv X pins σ H s->RelV x v->Vals xs us->r x xs H Q ->
  wpAny (model X.prog X.w) X.A (call (.builtin id) (v::us)) (EP X pins σ Q) X.xe s
theorem Vals.one:∀{x:V}{us:List Value},Vals [x] us->∃ u,us=[u]/\RelV x u
 |_,_,.cons r .nil=>⟨_,rfl,r⟩
theorem Vals.two:∀{x y:V}{us:List Value},Vals [x,y] us->∃ u v,us=[u,v]/\RelV x u/\RelV y v
 |_,_,_,.cons r (.cons q .nil)=>⟨_,_,rfl,r,q⟩
theorem Vals.eraseIdx:∀{xs:List V}{us:List Value}(i:Nat),Vals xs us->Vals (xs.eraseIdx i) (us.eraseIdx i)
 |_,_,_,.nil=> .nil
 |_,_,0,.cons _ t=>t
 |_,_,i+1,.cons r t=> .cons r (Vals.eraseIdx i t)
theorem Vals.rep {xs:List V}{us:List Value}(h:Vals xs us):∀ k:Nat,Vals (List.replicate k xs).flatten (List.replicate k us).flatten
 |0=> .nil
 |k+1=>by
  rw [uD,uD,yp,yp];exact Vals.append h (Vals.rep h k)
theorem KL {α:Type}:∀(l:List α)(i:Nat),(l.eraseIdx i).length<=l.length
 |[],_=>yU _
 |_::_,0=>ui _
 |_::r,i+1=>Nat.succ_le_succ (KL r i)
theorem Ki (its:List Value):∀(k:Nat)(acc:List Value), List.foldl (λx1 x2=>x1++x2) acc.toArray (List.replicate k its.toArray)=(acc++(List.replicate k its).flatten).toArray
 |0,acc=>by simp
 |k+1,acc=>by
  have e:acc.toArray++its.toArray=(acc++its).toArray:=by simp
  have e2:(acc++its)++(List.replicate k its).flatten=acc++(List.replicate (k+1) its).flatten:=by rw [uD,yp,uZ]
  rw [<- e2,<- Ki its k (acc++its),<- e,uD,List.foldl_cons]
section
variable {X:Cx}{pins:List (Addr×Obj)}{σ:St}{H:Hp}{s:Shared}{l b:Addr}{xs ys zs:List V}
theorem Inv.lset {f:Array Value->Array Value}(I:Inv X pins σ H s)(hH:H l=some (.lst xs))(e:s.heap.get? l=some { cls:= .type "list",data:= .seq its.toArray n })(hf:f its.toArray=its'.toArray)(hv:Vals ys its')(hz:ys.length<=sizeLine):Inv X pins σ (j4 H l (.lst ys)) { s with heap:=s.heap.update l (Obj.mapSeq f),toks:=t' }:=by have q:=PySem.IsL.update e f;rw [hf] at q;refine I.write (x:=l) (e:=l) (by rw [hH];exact trivial) (.inl rfl) (λb' u hb hu=>(yb s.heap (Obj.mapSeq f) (Ne.symm hb)).trans hu) ⟨_,q⟩ ?_;exact ⟨hz,its',_,hv,q⟩
theorem Inv.lnew (I:Inv X pins σ H s)(hv:Vals ys its)(hz:ys.length<=sizeLine):Inv X pins σ (j4 H s.heap.objs.size (.lst ys)) { s with heap:=s.heap.push { cls:= .type "list",data:= .seq its.toArray },toks:=t' } :=
 I.laid (λ_ _ q=>yV _ q) (yU _) ⟨hz,its,0,hv,yD _ rfl⟩
theorem Inv.fresh (I:Inv X pins σ H s):H s.heap.objs.size=none:=I.hok.fresh (yU _)
theorem Inv.lstM (I:Inv X pins σ H s)(hH:H l=some (.lst xs)):xs.length<=sizeLine/\∃ (its:List Value) (n:Nat),Vals xs its/\xs.length=its.length/\s.heap.get? l=some { cls:= .type "list",data:= .seq its.toArray n }:=by obtain ⟨z,its,n,r,e⟩:=I.hok l _ hH;exact ⟨z,its,n,r,r.length,e⟩
theorem No (h:n<=sizeLine):Builtin.List.listTooLong n=false:=by unfold Builtin.List.listTooLong;exact yB (by omega)
end
section
variable {X:Cx}
def ZN:V->List V->Hp->VK->Prop:=λx vs H Q=>∃ l xs y,x = .ref l/\vs=[y]/\H l=some (.lst xs)/\xs.length<sizeLine/\Q .non (j4 H l (.lst (xs++[y])))
theorem vB:MtM X "list.append" ZN:=by intro pins s σ H x vs v us Q I rx rv h;obtain ⟨l,xs,y,rfl,rfl,hH,hz,q⟩:=h;cases rx;obtain ⟨u,rfl,ru⟩:=rv.one;obtain ⟨z,its,n,r,hl,e⟩:=I.lstM hH;refine call_meets F.slot_list_append ⟨_,e,rfl⟩ F.entry_list_append (F.args_list_append_2 _ _) (PySem.list_append l its.toArray n u (by rw [yW];omega)) ⟨e,?_⟩;refine ⟨.non,_,I.lset (its':=its++[u]) hH e (by simp) (r.append (.cons ru .nil)) ?_,rfl,q⟩;rw [yQ,List.length_singleton];omega
def BQ:V->List V->Hp->VK->Prop:=λx vs H Q=>∃ l xs i k y,x = .ref l/\vs=[.int i]/\H l=some (.lst xs)/\-(2 ^ 63)<=i/\i<2 ^ 63/\seqIndex? i xs.length=some k/\xs[k]?=some y/\Q y (j4 H l (.lst (xs.eraseIdx k)))
theorem Bc:MtM X "list.pop" BQ:=by
 intro pins s σ H x vs v us Q I rx rv h;obtain ⟨l,xs,i,k,y,rfl,rfl,hH,h1,h2,hk,hy,q⟩:=h;cases rx;obtain ⟨u,rfl,ru⟩:=rv.one;obtain ⟨t,rfl⟩:=ru;obtain ⟨z,its,n,r,hl,e⟩:=I.lstM hH;obtain ⟨w,hw,rw'⟩:=r.get hy;refine call_meets F.slot_list_pop ⟨_,e,rfl⟩ F.entry_list_pop (F.args_list_pop_2 _ _)
  (MeetsSeq.list_pop_at l its.toArray n i t k w (fitsIndex_both h1 h2) (by rw [yW,<- hl];exact hk) (by rw [<- tU];exact hw) (by rw [yW];omega)) ⟨e,?_⟩
 refine ⟨y,_,I.lset (its':=its.eraseIdx k) hH e ?_ (r.eraseIdx k) ?_,rw',q⟩
 ·show its.toArray.eraseIdxIfInBounds k=(its.eraseIdx k).toArray;rw [List.eraseIdxIfInBounds_toArray]
 ·have:=KL xs k;omega
def rRep:R2:=λx y H Q=>∃ l k xs,x = .ref l/\y = .int k/\H l=some (.lst xs)/\-(2 ^ 63)<=k/\k<2 ^ 63/\xs.length*k.toNat<=sizeLine /\
 ∀ p,H p=none->Q (.ref p) (j4 H p (.lst (List.replicate k.toNat xs).flatten))
theorem LO (xs:List α)(k:Nat):(List.replicate k xs).flatten.length=k*xs.length:=by
 induction k with
 |zero=>simp
 |succ k ih=>rw [uD,yp,yQ,ih,Nat.succ_mul,Nat.add_comm]
theorem HX:OpR X (binaryOp .Mult) rRep:=by
 intro pins s σ H x y v u Q I rx ry h;obtain ⟨l,k,xs,rfl,rfl,hH,h1,h2,hz,q⟩:=h;cases rx;obtain ⟨t,rfl⟩:=ry;obtain ⟨z,its,n,r,hl,e⟩:=I.lstM hH;have hlen:its.toArray.size*k.toNat<=sizeLine:=by rw [yW,<- hl];exact hz
 have hcap:¬ its.toArray.size*k.toNat > (2 ^ 63-1) / 8:=by
  have:(sizeLine:Nat)<=(2 ^ 63-1) / 8:=by decide
  omega
 have hfit:¬ (!Builtin.List.listFitsIndex k)=true:=by rw [fitsIndex_both h1 h2];exact yR
 have hlong:¬ Builtin.List.listTooLong (its.toArray.size*k.toNat)=true:=by rw [No hlen];exact yR
 have hnew:List.foldl (λx1 x2=>x1++x2) #[] (List.replicate (if its.toArray.isEmpty=true then 0 else k.toNat) its.toArray)=(List.replicate k.toNat its).flatten.toArray:=by
  have f0:∀ m:Nat,List.foldl (λx1 x2=>x1++x2) #[] (List.replicate m its.toArray)=(List.replicate m its).flatten.toArray:=λm=>by
   have:=Ki its m [];rw [List.nil_append] at this;exact this
  rw [f0];cases its with
  |nil=>simp
  |cons a r'=>rw [if_neg (by simp)]
 refine wpAny_binaryOp_repeat_ref (T:="list") (U:="int") (by decide) ⟨_,e,rfl⟩ (λs'=>typeIs_int s' k t) noFill_list_mul F.fills_int_mul F.slot_int_rmul repeat_list F.slot_int_index.lookup
  (call_meets F.slot_int_rmul (typeIs_int s k t) F.entry_int_rmul (F.args_int_rmul_2 _ _) (int___rmul___int_list k t l its.toArray n)
   ⟨e,rfl,⟨_,e,rfl⟩,call_meets F.slot_list_mul ⟨_,e,rfl⟩ F.entry_list_mul (F.args_list_mul_2 _ _) (AutoListH.list___mul___list_int_3 l its.toArray n k t hfit hcap hlong) ⟨e,?_⟩⟩)
 rw [hnew];exact ⟨.ref _,_,I.lnew (t':=s.toks) (r.rep k.toNat) (by rw [LO,Nat.mul_comm];exact hz),rfl,q _ I.fresh⟩
end
section
variable {κ:Type}[DecidableEq κ]
def qG (kvs:List (κ×V))(k:κ):Option V:=(kvs.find? λkv=>decide (kv.1=k)).map (·.2)
def zl (kvs:List (κ×V))(k:κ)(v:V):List (κ×V) :=
 if (kvs.any λkv=>decide (kv.1=k))=true then kvs.map (λkv=>if kv.1=k then (kv.1,v) else kv) else kvs++[(k,v)]
theorem YA {p:κ×V}{r:List (κ×V)}{k:κ}(e:p.1=k):qG (p::r) k=some p.2:=by simp [qG,uF,e]
theorem Yz {p:κ×V}{r:List (κ×V)}{k:κ}(e:¬ p.1=k):qG (p::r) k=qG r k:=by simp [qG,uF,e]
theorem Yy (k:κ):∀ kvs:List (κ×V),(kvs.any λkv=>decide (kv.1=k))=(qG kvs k).isSome
 |[]=>rfl
 |p::r=>by
  rw [List.any_cons];by_cases e:p.1=k
  ·simp only [YA e,yy e,Bool.true_or,Option.isSome_some]
  ·rw [Yz e,yB e,Bool.false_or];exact Yy k r
theorem KN (kvs:List (κ×V))(k:κ)(v:V):(zl kvs k v).length<=kvs.length+1:=by
 unfold zl;split
 ·rw [yZ];omega
 ·rw [yQ,yG,List.length_nil];omega
theorem RelO.isSome_eq {u:Option Value}(r:RelO o u):o.isSome=u.isSome:=by
 cases o with
 |none=>cases u with
  |none=>rfl
  |some _=>exact (show False from r).elim
 |some _=>cases u with
  |none=>exact (show False from r).elim
  |some _=>rfl
theorem KV.val {kvs:List (κ×V)}{vs:List (κ×Value)}(r:KV kvs vs)(k:κ):RelO (qG kvs k) (valueAt vs k):=by
 unfold KV at r
 induction r with
 |nil=>exact True.intro
 |@cons p q ps qs h t ih =>
  obtain ⟨h1,h2⟩:=h;by_cases e:p.1=k
  ·have e':q.1=k:=h1.symm.trans e;have b:valueAt (q::qs) k=some q.2:=by simp [valueAt,uF,e']
   rw [YA e,b];exact h2
  ·have e':¬ q.1=k:=λz=>e (h1.trans z);have b:valueAt (q::qs) k=valueAt qs k:=by simp [valueAt,uF,e']
   rw [Yz e,b];exact ih
theorem KV.any {kvs:List (κ×V)}{vs:List (κ×Value)}(r:KV kvs vs)(k:κ):(kvs.any λkv=>decide (kv.1=k))=vs.any λkv=>decide (kv.1=k):=by
 unfold KV at r
 induction r with
 |nil=>rfl
 |cons h t ih=>rw [List.any_cons,List.any_cons,ih,h.1]
theorem KV.repl {kvs:List (κ×V)}{vs:List (κ×Value)}(r:KV kvs vs)(k:κ)(ry:RelV y u):KV (kvs.map λkv=>if kv.1=k then (kv.1,y) else kv) (vs.map λkv=>if kv.1=k then (kv.1,u) else kv):=by
 unfold KV at r ⊢
 induction r with
 |nil=>exact .nil
 |@cons p q ps qs h t ih =>
  rw [yI,yI];refine .cons ?_ ih;obtain ⟨h1,h2⟩:=h;by_cases e:p.1=k
  ·rw [if_pos e,if_pos (h1.symm.trans e)];exact ⟨h1,ry⟩
  ·rw [if_neg e,if_neg (λz=>e (h1.trans z))];exact ⟨h1,h2⟩
theorem KV.put {kvs:List (κ×V)}{vs:List (κ×Value)}(r:KV kvs vs)(k:κ)(ry:RelV y u):KV (zl kvs k y) (stored vs k u):=by
 unfold zl stored;rw [r.any k];by_cases e:(vs.any λkv=>decide (kv.1=k))=true
 ·rw [if_pos e,if_pos e];exact r.repl k ry
 ·rw [if_neg e,if_neg e];exact Paired.snoc r ⟨rfl,ry⟩
theorem KV.length {kvs:List (κ×V)}{vs:List (κ×Value)}(r:KV kvs vs):kvs.length=vs.length:=Paired.length r
end
theorem wC {k:z9}(r:RelV (kV k) u):(qm P w).is k u=true:=by
 cases k with
 |inl i=>obtain ⟨t,e⟩:=(show ∃ t,u=Value.int i t from r);subst e;exact Nh P w i t
 |inr x=>obtain ⟨t,e⟩:=(show ∃ t,u=Value.str x t from r);subst e;exact Ve P w x t
theorem Kz {P:Program}{w:World}:∀{ks:List z9}{us:List Value},Vals (ks.map kV) us->ItemsAre (qm P w) ks us
 |[],_,r=>by rw [List.map_nil] at r;cases r;exact .nil
 |k::ks,_,r=>by
  rw [yI] at r;cases r with
  |cons h t=>exact .cons (wC h) (Kz t)
abbrev KT (H:Hp):List (List z9×V)->List (List z9×Addr×Value)->Prop:=Paired λp q=>p.1=q.1/\H q.2.1=some (.tup (p.1.map kV))/\RelV p.2 q.2.2
theorem KT.val (r:KT H kvs xs)(k:List z9):RelO (qG kvs k) ((atKey xs k).map (·.2)):=by
 induction r with
 |nil=>exact True.intro
 |@cons p q ps qs h t ih =>
  obtain ⟨h1,_,h2⟩:=h;by_cases e:p.1=k
  ·have e':q.1=k:=h1.symm.trans e;have b:atKey (q::qs) k=some q.2:=by simp [atKey,uF,e']
   rw [YA e,b];exact h2
  ·have e':¬ q.1=k:=λz=>e (h1.trans z);have b:atKey (q::qs) k=atKey qs k:=by simp [atKey,uF,e']
   rw [Yz e,b];exact ih
theorem KT.repl (r:KT H kvs xs)(k:List z9)(ry:RelV y u):KT H (kvs.map λkv=>if kv.1=k then (kv.1,y) else kv) (xs.map (putAt k u)):=by
 induction r with
 |nil=>exact .nil
 |@cons p q ps qs h t ih =>
  rw [yI,yI];refine .cons ?_ ih;obtain ⟨h1,h2,h3⟩:=h;unfold putAt;by_cases e:p.1=k
  ·rw [if_pos e,if_pos (h1.symm.trans e)];exact ⟨h1,h2,ry⟩
  ·rw [if_neg e,if_neg (λz=>e (h1.trans z))];exact ⟨h1,h2,h3⟩
theorem KT.put (r:KT H kvs xs)(k:List z9){b:Addr}(hb:H b=some (.tup (k.map kV)))(ry:RelV y u):KT H (zl kvs k y) (storedH xs k b u):=by
 have e:(kvs.any λkv=>decide (kv.1=k))=(atKey xs k).isSome:=by rw [Yy,(r.val k).isSome_eq,Option.isSome_map]
 unfold zl storedH;rw [e];by_cases q:(atKey xs k).isSome=true
 ·rw [if_pos q,if_pos q];exact r.repl k ry
 ·rw [if_neg q,if_neg q];exact Paired.snoc r ⟨rfl,hb,ry⟩
theorem KT.keeps (r:KT H kvs xs)(ht:∀ b ys,H b=some (.tup ys)->H' b=some (.tup ys)):KT H' kvs xs :=
 Paired.mapP r λ_ _ z=>⟨z.1,ht _ _ z.2.1,z.2.2⟩
section
variable {P:Program}{w:World}{H:Hp}{h:Heap}{a:Addr}
theorem BY {u:HO}(ok:HOk P w H h)(e:Rd H a u):ObjOk P w H h a u:=e.ok ok
theorem vk {kvs:List (z9×V)}(ok:HOk P w H h)(e:Rd H a (.dK kvs)):kvs.length<=sizeLine/\(a==sysModules)=false/\∃ vs,KV kvs vs/\h.DictOf (qm P w) a vs :=
 show ObjOk P w H h a (.dK kvs) from BY ok e
theorem dk_of {kvs:List (z9×V)}(ok:HOk P w H h)(e:H a=some (.dK kvs)):kvs.length<=sizeLine/\(a==sysModules)=false/\∃ vs,KV kvs vs/\h.DictOf (qm P w) a vs:=vk ok (.inl e)
theorem QD {ks:List z9}(ok:HOk P w H h)(e:H a=some (.tup (ks.map kV))):(tupleKind (qm P w)).is h ks a:=by obtain ⟨_,its,r,o,h1,h2,n,h3⟩:=(show ObjOk P w H h a (.tup (ks.map kV)) from ok a _ e);exact ⟨o,its.toArray,n,h1,h2,h3,by simpa using Kz r⟩
theorem Qt (ok:HOk P w H h)(e:Rd H a (.dT kvs)):kvs.length<=sizeLine/\(a==sysModules)=false /\ ∃ xs,KT H kvs xs/\h.DictOfH (tupleKind (qm P w)) a xs:=by
 obtain ⟨z,y,xs,r,o,es,ep,h1,h2,h3,h4,h5⟩:=(show ObjOk P w H h a (.dT kvs) from BY ok e);refine ⟨z,y,xs,r,o,es,ep,h1,h2,h3,h4,λx hx=>?_,h5⟩;have all:∀{l:List (List z9×V)}{m:List (List z9×Addr×Value)},KT H l m->∀ x∈m,(tupleKind (qm P w)).is h x.1 x.2.1:=by
  intro l m q
  induction q with
  |nil=>intro x hx;exact nomatch hx
  |@cons p q ps qs hq t ih =>
   intro x hx;rcases yM.mp hx with e|hx
   ·subst e;exact QD ok (by rw [<- hq.1];exact hq.2.1)
   ·exact ih x hx
 exact all r x hx
theorem dt_of (ok:HOk P w H h)(e:H a=some (.dT kvs)):kvs.length<=sizeLine/\(a==sysModules)=false /\ ∃ xs,KT H kvs xs/\h.DictOfH (tupleKind (qm P w)) a xs:=Qt ok (.inl e)
end
def DGet (H:Hp)(a:Addr)(y:V)(r:Option V):Prop :=
 (∃ kvs k,Rd H a (.dK kvs)/\y=kV k/\r=qG kvs k)∨∃ kvs k b,Rd H a (.dT kvs)/\y = .ref b/\H b=some (.tup (k.map kV))/\r=qG kvs k
def DPut (H:Hp)(a:Addr)(y v:V)(H':Hp):Prop :=
 (∃ kvs k,H a=some (.dK kvs)/\y=kV k/\kvs.length<sizeLine/\H'=j4 H a (.dK (zl kvs k v))) ∨
 ∃ kvs k b,H a=some (.dT kvs)/\y = .ref b/\H b=some (.tup (k.map kV))/\kvs.length<sizeLine/\H'=j4 H a (.dT (zl kvs k v))
theorem DGet.k {kvs:List (z9×V)}{k:z9}(e:H a=some (.dK kvs)):DGet H a (kV k) (qG kvs k):= .inl ⟨kvs,k,.inl e,rfl,rfl⟩
theorem DPut.k {kvs:List (z9×V)}{k:z9}{v:V}(e:H a=some (.dK kvs))(hl:kvs.length<sizeLine):DPut H a (kV k) v (j4 H a (.dK (zl kvs k v))):= .inl ⟨kvs,k,e,rfl,hl,rfl⟩
section
variable {X:Cx}{pins:List (Addr×Obj)}{σ:St}{H:Hp}{s:Shared}{a:Addr}{y v:V}{u r:Value}{o:Option V}{A:Around}{E:Value->Shared->Prop}
theorem Inv.big (I:Inv X pins σ H s):sysModules<s.heap.objs.size:=by have h:mainGlobals<s.heap.objs.size:=(I.mod.glob.keeps I.bk).lt;exact Nat.lt_trans (by decide) h
theorem DV (hu:A.units+1<cLine)(I:Inv X pins σ H s)(g:DGet H a y (some v))(ry:RelV y u)(h:∀ w' s',Inv X pins σ H s'->RelV v w'->Q w' s'):wpAny (model X.prog X.w) A (getItem (.ref a) u) Q E s:=by
 rcases g with ⟨kvs,k,e,ey,l⟩|⟨kvs,k,b,e,ey,eb,l⟩
 ·subst ey;obtain ⟨z,hd,vs,rel,dd⟩:=vk I.hok e;obtain ⟨w',hw,rw'⟩:=RelO.some_of (v:=v) (o:=valueAt vs k) (by rw [l];exact rel.val k);exact wpAny_getItem_of (wC ry) dd.mapOf hw (h w' _ (I.tok _) rw')
 ·subst ey;cases (show u=Value.ref b from ry);obtain ⟨z,hd,xs,rel,dd⟩:=Qt I.hok e;obtain ⟨w',hw,rw'⟩:=RelO.some_of (v:=v) (o:=(atKey xs k).map (·.2)) (by rw [l];exact rel.val k);obtain ⟨p,hp,hp2⟩:=yJ.mp hw;refine wpAny_getItem_heap (tupleKind_room_in1 hu) (QD I.hok eb) dd hp ?_;rw [hp2];exact h w' _ (I.tok _) rw'
theorem d_in (hu:A.units+1<cLine)(I:Inv X pins σ H s)(g:DGet H a y o)(ry:RelV y u)(h:∀ s',Inv X pins σ H s'->Q (.bool o.isSome) s'):wpAny (model X.prog X.w) A (compareOp .In u (.ref a)) Q E s:=by
 rcases g with ⟨kvs,k,e,ey,l⟩|⟨kvs,k,b,e,ey,eb,l⟩
 ·subst ey;obtain ⟨z,hd,vs,rel,dd⟩:=vk I.hok e;refine wpAny_in_of (wC ry) hd dd.mapOf ?_;rw [<- (rel.val k).isSome_eq,<- l];exact h _ (I.tok _)
 ·subst ey;cases (show u=Value.ref b from ry);obtain ⟨z,hd,xs,rel,dd⟩:=Qt I.hok e;refine wpAny_in_heap (tupleKind_room_in1 hu) (QD I.hok eb) hd dd ?_;have q:=(rel.val k).isSome_eq;rw [Option.isSome_map] at q;rw [<- q,<- l];exact h _ (I.tok _)
theorem DW (hu:A.units+1<cLine)(I:Inv X pins σ H s)(g:DGet H a y o)(ry:RelV y u)(h:∀ s',Inv X pins σ H s'->Q (.bool (!o.isSome)) s'):wpAny (model X.prog X.w) A (compareOp .NotIn u (.ref a)) Q E s:=by
 rcases g with ⟨kvs,k,e,ey,l⟩|⟨kvs,k,b,e,ey,eb,l⟩
 ·subst ey;obtain ⟨z,hd,vs,rel,dd⟩:=vk I.hok e;refine wpAny_notIn_of (wC ry) hd dd.mapOf ?_;rw [<- (rel.val k).isSome_eq,<- l];exact h _ (I.tok _)
 ·subst ey;cases (show u=Value.ref b from ry);obtain ⟨z,hd,xs,rel,dd⟩:=Qt I.hok e;refine wpAny_notIn_heap (tupleKind_room_in1 hu) (QD I.hok eb) hd dd ?_;have q:=(rel.val k).isSome_eq;rw [Option.isSome_map] at q;rw [<- q,<- l];exact h _ (I.tok _)
theorem GI {ob:HO}(I:Inv X pins σ H s)(mu:Mut (H a))(hs:Heap.SameBut a s.heap h')(he:∃ q,h'.get? a=some q)(new:ObjOk X.prog X.w (j4 H a ob) h' a ob):Inv X pins σ (j4 H a ob) { s with heap:=h',toks:=t' } :=
 I.write (x:=a) (e:=a) mu (.inl rfl) (λb q hb z=>(hs.2 b hb).trans z) he new
theorem GK {kvs:List (z9×V)}{vs:List (z9×Value)}(z:kvs.length<=sizeLine)(hd:(a==sysModules)=false)(rel:KV kvs vs)(dd:h'.DictOf (qm P w) a vs):ObjOk P w H' h' a (.dK kvs):=⟨z,hd,vs,rel,dd⟩
theorem DX {Q:Unit->Shared->Prop}(hu:A.units+1<cLine)(I:Inv X pins σ H s)(g:DPut H a y v H')(ry:RelV y u)(rv:RelV v r)(h:∀ s',Inv X pins σ H' s'->Q () s'):wpAny (model X.prog X.w) A (setItem (.ref a) u r) Q E s:=by
 rcases g with ⟨kvs,k,e,ey,l,eH⟩|⟨kvs,k,b,e,ey,eb,l,eH⟩
 ·subst ey eH;obtain ⟨z,hd,vs,rel,dd⟩:=dk_of I.hok e;have hz:vs.length<=sizeLine:=by rw [<- rel.length];exact z
  have hl:(zl kvs k v).length<=sizeLine:=by have:=KN kvs k v;omega
  refine wpAny_setItem_pairs (hsz:=hz) (wC ry) dd λh' dd' hs=>h _ ?_;have he:∃ q,h'.get? a=some q:=let ⟨q,_,_,hq,_⟩:=dd';⟨q,hq⟩
  exact GI I (by rw [e];exact True.intro) hs he (GK hl hd (rel.put k rv) dd')
 ·subst ey eH;cases (show u=Value.ref b from ry);obtain ⟨z,hd,xs,rel,dd⟩:=dt_of I.hok e;have hz:xs.length<=sizeLine:=by rw [<- Paired.length rel];exact z
  have hl:(zl kvs k v).length<=sizeLine:=by have:=KN kvs k v;omega
  refine wpAny_setItem_heap (hsz:=hz) (tupleKind_room_in1 hu) (QD I.hok eb) dd λh' dd' hs=>h _ ?_;obtain ⟨q,es,ep,hq,h2,h3,h4,_,h5⟩:=dd';refine GI I (by rw [e];exact True.intro) hs ⟨q,hq⟩ ⟨hl,hd,_,(rel.put k eb rv).keeps λc ys ec=>?_,q,es,ep,hq,h2,h3,h4,h5⟩;rw [z5 (ne_of ec e (λz=>nomatch z))];exact ec
end
section
variable {X:Cx}{pins:List (Addr×Obj)}{σ:St}{H:Hp}{s:Shared}{a:Addr}{kvs:List (z9×V)}{k:z9}{u:Value}{A:Around}{E:Value->Shared->Prop}
theorem d_len (I:Inv X pins σ H s)(e:Rd H a (.dK kvs))(h:∀ t s',Inv X pins σ H s'->Q (.int kvs.length t) s'):wpAny (model X.prog X.w) A (call (.builtin "len") [.ref a]) Q E s:=by obtain ⟨z,hd,vs,rel,dd⟩:=vk I.hok e;refine call_len_dict hd dd (by rw [<- rel.length];rw [sizeLine_eq] at z;omega) ?_;rw [<- rel.length];exact h _ _ (I.tok _)
end
def NoSl (i:Expr):Prop:=∀ ov iv,subscripted i false ov iv=operate [ov,iv] (getItem ov iv)
theorem Sx {prog:Program}{E:Value->Shared->Prop}{env:Env}{value slice:Expr}{pos:Pos}{id:String}(hl:typeLookup (.type T) "__getitem__"=pure (some (.builtin id)))(hs:NoSl slice)(h:wpAny (model prog w) A (eval value env) (λo s₁=>wpAny (model prog w) A (eval slice env) (λi s₂=>s₂.TypeIs o T/\wpAny (model prog w) A (getItem o i) Q E s₂) E s₁) E s):wpAny (model prog w) A (eval (.Subscript value slice pos) env) Q E s:=by
 refine Subscript_ (wpAny_mono h (λo s₁ h₁=>wpAny_mono h₁ (λi s₂ h₂=>?_) λ_ _ x=>x) λ_ _ x=>x);obtain ⟨hT,h₂⟩:=h₂;unfold subscriptTail;refine yX ?_;rw [getitemInPython_of_ne hT.not_modules];refine yX (wpAny_specialOf hT hl ?_);have fin:wpAny (model prog w) A (subscripted slice false o i) (λr s₃=>wpAny (model prog w) A (letTemporaryGo value o r >>= λ_=>pure r) Q E s₃) E s₂:=by rw [hs o i];exact wpAny_operating (wpAny_mono h₂ (λr s₃ h₃=>yX (wpAny_letTemporaryGo (yC h₃))) λ_ _ x=>x)
 first
  |exact yC (yX fin)
  |exact yX (yC (yX fin))
  |exact yX fin
theorem DY {X:Cx}(I:Inv X pins σ H s)(g:DGet H a y o):s.TypeIs (.ref a) "dict":=by
 rcases g with ⟨kvs,k,e,_,_⟩|⟨kvs,k,b,e,_,_,_⟩
 ·obtain ⟨_,_,vs,_,dd⟩:=vk I.hok e;exact dd.typeIs
 ·obtain ⟨_,_,xs,_,dd⟩:=Qt I.hok e;exact dd.typeIs
def PK (td ty:TE):TE:=λσ H Q=>td σ H λx H1=>ty σ H1 λy H2=>∃ a v,x = .ref a/\DGet H2 a y (some v)/\Q v H2
def tDIn (ty td:TE):TE:=λσ H Q=>ty σ H λy H1=>td σ H1 λx H2=>∃ a o,x = .ref a/\DGet H2 a y o/\Q (.bl o.isSome) H2
def PM (ty td:TE):TE:=λσ H Q=>ty σ H λy H1=>td σ H1 λx H2=>∃ a o,x = .ref a/\DGet H2 a y o/\Q (.bl (!o.isSome)) H2
def Pm (td ty tv:TE):TS:=λD σ H=>tv σ H λv H1=>td σ H1 λx H2=>ty σ H2 λy H3=>∃ a H4,x = .ref a/\DPut H3 a y v H4/\D.nx σ H4
section
variable {X:Cx}{o i e value:Expr}{pos pos' tpos:Pos}{td ty tv:TE}
theorem jO (hu:X.A.units+1<cLine)(ho:PE X o td)(hi:PE X i ty)(hs:NoSl i):PE X (.Subscript o i pos) (PK td ty):=by intro pins s σ H Q I h;refine Sx PySem.F.slot_dict_getitem.lookup hs (v5 (ho pins s σ H _ I h) λu s1 ⟨x,H1,I1,rx,q1⟩=>v5 (hi pins s1 σ H1 _ I1 q1) λiv s2 ⟨y,H2,I2,ry,a,v,ex,g,q2⟩=>?_);subst ex;obtain rfl:u=Value.ref a:=rx;exact ⟨DY I2 g,DV hu I2 g ry λw' s3 I3 rw'=>⟨v,H2,I3,rw',q2⟩⟩
theorem Ra (hu:X.A.units+1<cLine)(hi:PE X i ty)(ho:PE X o td):PC X .In i o (tDIn ty td):=by intro pins s σ H Q I h;refine v5 (hi pins s σ H _ I h) λiv s1 ⟨y,H1,I1,ry,q1⟩=>v5 (ho pins s1 σ H1 _ I1 q1) λu s2 ⟨x,H2,I2,rx,a,ov,ex,g,q2⟩=>?_;subst ex;obtain rfl:u=Value.ref a:=rx;exact d_in hu I2 g ry λs3 I3=>⟨.bl ov.isSome,H2,I3,rfl,q2⟩
theorem Bs (hu:X.A.units+1<cLine)(hi:PE X i ty)(ho:PE X o td):PC X .NotIn i o (PM ty td):=by intro pins s σ H Q I h;refine v5 (hi pins s σ H _ I h) λiv s1 ⟨y,H1,I1,ry,q1⟩=>v5 (ho pins s1 σ H1 _ I1 q1) λu s2 ⟨x,H2,I2,rx,a,ov,ex,g,q2⟩=>?_;subst ex;obtain rfl:u=Value.ref a:=rx;exact DW hu I2 g ry λs3 I3=>⟨.bl (!ov.isSome),H2,I3,rfl,q2⟩
theorem Ry (hu:X.A.units+1<cLine)(ho:PE X o td)(hi:PE X i ty)(hv:PE X value tv)(hs:swapsWith value (some (.Subscript o i pos')) pos.line X.env=pure false):PS X (.Assign [.Subscript o i pos'] value pos) (Pm td ty tv):=by intro pins s σ H D I h;refine wpAny_Assign_Subscript (v5 (hv pins s σ H _ I h) λr s1 ⟨v,H1,I1,rv,q1⟩=>v5 (ho pins s1 σ H1 _ I1 q1) λu s2 ⟨x,H2,I2,rx,q2⟩=>v5 (hi pins s2 σ H2 _ I2 q2) λiv s3 ⟨y,H3,I3,ry,a,H4,ex,g,q3⟩=>?_) hs;subst ex;obtain rfl:u=Value.ref a:=rx;exact DX hu I3 g ry rv λs4 I4=>⟨σ,H4,I4,q3⟩
end
theorem Ma (h:Heap)(hb:sysModules<h.objs.size):ObjOk P w H (h.push { cls:= .type "dict",data:= .dict #[] }) h.objs.size (.dK []) :=
 ⟨yh _,beq_eq_false_iff_ne.mpr (Ne.symm (yH hb)),[],.nil,Heap.DictOf.new h⟩
def PL:TE:=λ_ H Q=>∀ p,H p=none->Q (.ref p) (j4 H p (.dK []))
section
variable {X:Cx}{pos:Pos}
theorem Re:PE X (.Dict [] [] pos) PL:=λpins s σ H Q I h =>
 wpAny_Dict_empty ⟨.ref s.heap.objs.size,_,I.laid (a:=s.heap.objs.size) (o:= .dK []) (t':=s.toks) (λ_ _ q=>yV _ q) (yU _) (Ma s.heap I.big),rfl,h _ (I.hok.fresh (yU _))⟩
end
end L2
namespace Att
open PySem PySem.W PySem.Calls PyProof.Rows
variable{P:Params}{h:Heap}{l:OpenLaw}{n:Nat}
theorem Lb :∀(ns:List Int)(vs:List Value),WellAll P h vs (ns.map WData.int)->IntsAre vs ns:=by
 intro ns
 induction ns with
 |nil=>intro vs w;rw [List.map_nil] at w;cases w;exact .nil
 |cons n ns ih =>
  intro vs w;rw [yI] at w;cases w with
  |cons a b=>cases a;exact .cons _ _ (ih _ b)
theorem Sc (hn:l.most=some n){args:List WData}{vals:List Value}(hpre:l.row.toRowW.claim.pre args=true)(hwl:WellAll P h vals args):∃ a vs ns,vals=[Value.ref a]/\args=[WData.list (ns.map WData.int)]/\h.get? a=some { cls:= .type "list",data:= .seq vs.toArray }/\IntsAre vs ns/\ns.length<=n:=by
 have hsh:WShape.hasAll [] args [.list .int]=true:=(pre_splitW hpre).1;have hc:l.pre.holds [] { args:=args }=true:=(pre_splitW hpre).2;obtain ⟨d,r,rfl,h1,h2⟩:=hasAllW_cons hsh;obtain rfl:=hasAllW_nil h2;obtain ⟨xs,rfl,h3⟩:=hasW_list h1;obtain ⟨ns,rfl⟩:=items_int h3;have hlen:ns.length<=n:=by
  unfold OpenLaw.pre at hc;have h4:(WTm.not (.lt (.lit (.int (n:Int))) (.len (.arg 0)))).holds [] { args:=[.list (ns.map .int)] }=true:=by have h4:=(holds_andW hc).1;rw [hn] at h4;exact h4
  have h5:=condW_of h4 (w_not (w_lt w_lit (w_len_list (w_arg rfl))));rw [yZ] at h5;refine Nat.le_of_not_lt λq=>?_;have q':(n:Int)<((ns.length:Nat):Int):=by omega
  first
   |(rw [yy q'] at h5;exact absurd h5 (by decide))
   |(simp at h5;omega)
 cases hwl with
 |cons w1 w2 =>
  cases w2;cases w1 with
  |list ho hall=>exact ⟨_,_,ns,rfl,rfl,ho,Lb ns _ hall,hlen⟩
theorem Rx (l:OpenLaw)(args:List WData):l.row.toRowW.claim.post args (.bool true) args=true :=
 postW_of (r:=l.row.toRowW) (X:=(true==true))
  (show WShape.has [] (.bool true) .bool=true by first|rfl|decide|simp [WShape.has,WShape.arms,WShape.armsAll])
  (show (WTm.eq .res (.lit (.bool true))).value [] { args:=args,res:=some (.bool true),after:=args }=some (.bool (true==true)) from w_eq_bool (w_res rfl) w_lit) rfl
theorem attach_call {q:Program}{loose:List Str}{XP:(Str->Option Value)->Heap->Prop}{YP:World->Heap->Prop}{d:DefRec}(hn:l.most=some n)(hdf:d.params.defaults=[])(call:∀ (w:World) (s₀ s₁:Shared) (mg mb:Str->Option Value) (fa:Addr) (o:Obj) (pm cd doc:Value) (a:Addr) (vs:List Value) (ns:List Int), Ground q loose [] XP w s₀ mg mb s₁.heap->YP w s₁.heap -> s₁.heap.get? fa=some o->o.data = .func (docDef d.name d.params d.body d.scope pm cd doc)->s₁.heap.CodeRec cd d.name->mg d.name=some (.ref fa) -> s₁.heap.get? a=some { cls:= .type "list",data:= .seq vs.toArray }->IntsAre vs ns->ns.length<=n->s₁.gens=#[] -> codeAny (model l.prog w) callerA (.call (.ref fa) ⟨[.ref a],[]⟩) (λr s'=>r = .ok (.ret (.bool true))/\OldK s₁.heap s'.heap/\s'.os=s₁.os/\AllBare s'.gens) s₁):WalkO q loose XP YP l.row.toRowW d [] (λf vs=>PySem.call f vs):=by intro w s₀ s₁ mg mb G Y fa o pm cd doc dV kV ho hd hcd hD hmg hg args vals as hpre hlay hrd hwl hlo;obtain rfl:dV = .none:=Dflts.none hD hdf;obtain rfl:kV = .none:=Dflts.noKw hD;obtain ⟨a,vs,ns,rfl,rfl,hobj,hints,hlen⟩:=Sc hn hpre hwl;refine enter_call (codeAny_mono (call w s₀ s₁ mg mb fa o pm cd doc a vs ns G Y ho (fd_plain hd) hcd hmg hobj hints hlen hg) λr s' hq=>?_);obtain ⟨rfl,h2,h3,h4⟩:=hq;exact ⟨.inl ⟨.bool true,.bool true,[],rfl,λ_=>rfl,.bool true,Rx l _,λ_=>⟨List.Pairwise.nil,λ_ hm=>(nomatch hm)⟩⟩,h2,h3,h4⟩
end Att
namespace L2
open PySem PySem.Spec PyProof.Rows
variable{K:Fg}{a f:Addr}{fd:FuncData}{qual x:Str}{sp:Sp}{n:Nat}{st:Stmt}{ps:List Str}{A B:Prop}{H H':Hp}
theorem Ct:∀{vs:List Value}{ns:List Int},IntsAre vs ns->Vals (ns.map V.int) vs
 |_,_,.nil=> .nil
 |_,_,.cons n t h=> .cons ⟨t,rfl⟩ (Ct h)
def Only (H:Hp):Prop:=∀ b,H b=none∨(∃ o xs,H b=some (.frz o (.lst xs)))∨∃ p∈TABS,p.1=b/\H b=some (.tbl p.2.1 p.2.2)
structure wf (K:Fg)(h:Heap):Prop where
 at_:∀ p∈TABS,h.get? p.1=some { cls:= .none,data:= .fields p.2.1 }
 tri:∀ p∈TABS,TriplesOk p.2.1.toList
 non:∀ p∈TABS,∀ q∈p.2.2,codeAmong q.1 p.2.1.toList=none
 tab:∀ p∈TABS,isCodeTable h p.1
 one:∀ p∈TABS,∀ q∈TABS,p.1=q.1->p=q
 out:∀ p∈TABS,K.lookup p.1=none
def zn:Hp:=λb=>(TABS.find? λp=>p.1==b).map λp=> .tbl p.2.1 p.2.2
theorem ZS {b:Addr}{u:HO}(h:zn b=some u):∃ p∈TABS,p.1=b/\u = .tbl p.2.1 p.2.2:=by unfold zn at h;obtain ⟨p,e,r⟩:=yJ.mp h;exact ⟨p,List.mem_of_find?_eq_some e,by have:=List.find?_some e;simpa using this,r.symm⟩
theorem Ca {h:Heap}(T:wf K h){p:Addr×Array Value×List (Pos×Str)}(hp:p∈TABS):zn p.1=some (.tbl p.2.1 p.2.2):=by
 unfold zn;cases e:TABS.find? λq=>q.1==p.1 with
 |none=>exact absurd (List.find?_eq_none.mp e p hp) (by simp)
 |some q =>
  have e1:q.1=p.1:=by have:=List.find?_some e;simpa using this
  rw [T.one q (List.mem_of_find?_eq_some e) p hp e1];rfl
theorem LJ {P:Program}{w:World}{mg mb:Str->Option Value}{CX:CXT}{k:Nat}{fa:Addr}{s₁:Shared}{vs:List Value}{ns:List Int}(KX:K.In s₁.heap)(T:wf K s₁.heap)(hns:s₁.heap.Ns mainGlobals mg)(hb:s₁.heap.Ns builtinsNs mb)(hbb:∀ x:Str,x ≠ "__name__"->mb x=bootBuiltins x)(hlim:s₁.heap.NoLimit)(hbm:∃ bm ob,mg "__builtins__"=some (.ref bm)/\bm≠builtinsNs/\s₁.heap.get? bm=some ob/\ob.cls = .type "module"/\ob.dict=some builtinsNs/\ob.data = .plain)(hg:s₁.gens=#[])(ha:s₁.heap.get? a=some { cls:= .type "list",data:= .seq vs.toArray })(hi:IntsAre vs ns)(hl:ns.length<=sizeLine)(hr:Room k callerA)(F:∀ base:Heap,K.In base->base.Ns mainGlobals mg->FnOk P w K mg base CX k fa fd [x] sp)(hbind:∀ (s:Shared) (u:Value),BindsTo s fd ⟨[u],[]⟩ [(x,u)])(hsp:∀ H:Hp,Only H->SqL K H a (ns.map V.int)->sp [.ref a] H (λv _=>v = .bl true) λ_ _ _=>False)(hCX:∀ H e s',CX [] H s₁ (λ_ _ _=>False) e s'->False):codeAny (model P w) callerA (.call (.ref fa) ⟨[.ref a],[]⟩) (λr s'=>r = .ok (.ret (.bool true))/\OldK s₁.heap s'.heap/\s'.os=s₁.os/\AllBare s'.gens) s₁:=by
 have rv:=Ct hi;have lenV:=hi.length;have naT:∀ p∈TABS,p.1≠a:=λp hp z=>by
  have e:=T.at_ p hp;rw [z,ha] at e;cases e
 have core:∀ H:Hp,Only H->SqL K H a (ns.map V.int)->HOk P w H s₁.heap->(∀ b,H b≠none->b=a∨∃ p∈TABS,p.1=b)->(∀ b,H b≠none->K.lookup b=none)->(∀ p∈TABS,H p.1=some (.tbl p.2.1 p.2.2)) ->
   codeAny (model P w) callerA (.call (.ref fa) ⟨[.ref a],[]⟩) (λr s'=>r = .ok (.ret (.bool true))/\OldK s₁.heap s'.heap/\s'.os=s₁.os/\AllBare s'.gens) s₁:=by
  intro H hO hS hok hA hK hT;have base_of:∀{b:Addr}{o:Obj},s₁.heap.get? b=some o->H b=none->(jj s₁.heap H).get? b=some o:=λe n=>MH e n;have noA:∀{b:Addr}{o:Obj}{es:Array DictEntry}{ep:Nat},s₁.heap.get? b=some o->o.data = .dict es ep->H b=none:=λ{b o es ep} e d=>by
   cases q:H b with
   |none=>rfl
   |some u =>
    rcases hA b (by rw [q];simp) with e'|⟨p,hp,e'⟩
    ·subst e';rw [ha] at e;cases e;have d':Data.seq vs.toArray _=Data.dict es ep:=d;cases d'
    ·subst e';rw [T.at_ p hp] at e;cases e;have d':Data.fields p.2.1=Data.dict es ep:=d;cases d'
  have nsK:∀{b:Addr}{m:Str->Option Value},s₁.heap.Ns b m->(jj s₁.heap H).Ns b m:=λ{b m} ⟨o,es,ep,e,d,r⟩=>⟨o,es,ep,base_of e (noA e d),d,r⟩;have hKb:K.In (jj s₁.heap H):=λb o e=>base_of (KX b o e) (by
   cases q:H b with
   |none=>rfl
   |some u=>rw [hK b (by rw [q];simp)] at e;cases e)
  have noP:∀{b:Addr}{o:Obj},s₁.heap.get? b=some o->o.data = .plain->H b=none:=λ{b o} e d=>by
   cases q:H b with
   |none=>rfl
   |some u =>
    rcases hA b (by rw [q];simp) with e'|⟨p,hp,e'⟩
    ·subst e';rw [ha] at e;cases e;have d':Data.seq vs.toArray _=Data.plain:=d;cases d'
    ·subst e';rw [T.at_ p hp] at e;cases e;have d':Data.fields p.2.1=Data.plain:=d;cases d'
  have hM:Mod K mg (jj s₁.heap H):=⟨hKb,nsK hns,⟨mb,nsK hb,hbb⟩,let ⟨mc,h1,h2⟩:=hlim;⟨mc,nsK h1,h2⟩,let ⟨bm,ob,b1,b2,b3,b4,b5,b6⟩:=hbm;⟨bm,ob,b1,b2,base_of b3 (noP b3 b6),b4,b5,b6⟩⟩;have e0:Env0 P w K mg (jj s₁.heap H) callerA [] s₁ H:=⟨rfl,hM,λb o e=>Np e,Nat.le_of_eq (MI _ _),trivial,λb hb=>absurd (show b∈([]:List Addr) from hb) (by simp),hok,.of_eq hg,hT⟩;refine codeAny_mono ((F _ hKb (nsK hns)).run callerA [] s₁ H ⟨[.ref a],[]⟩ [.ref a] [.ref a] _ _ hr e0 (hbind s₁ (.ref a)) (.cons rfl .nil) (hsp H hO hS)) λr s' h=>?_;cases r with
  |error e=>exact (hCX H e s' h).elim
  |ok fl =>
   cases fl with
   |next=>exact False.elim h
   |brk=>exact False.elim h
   |cont=>exact False.elim h
   |ret u =>
    obtain ⟨v,H',os,bare,un,hok',r',q⟩:=h;have q':v = .bl true:=q;subst q';obtain rfl:u=Value.bool true:=r';refine ⟨rfl,⟨λb o e=>?_,λb o e=>un.there b o e (by simp)⟩,os,bare⟩;rcases hO b with z|⟨ob,xs,z⟩|⟨p,hp,rfl,z⟩
    ·exact .inl (un.keep b o e z (by intro z;exact absurd (show b∈([]:List Addr) from z) (by simp)) (by simp))
    ·have z2:=un.frzs b ob _ z;obtain ⟨e1,_⟩:=hok b _ z;obtain ⟨e2,_⟩:=hok' b _ z2;rw [e] at e1;cases e1;exact .inl e2
    ·have z2:=un.tbls p.1 _ _ z;obtain ⟨more,e2,_⟩:=hok' p.1 _ z2;rw [T.at_ p hp] at e;cases e;exact .inr (.inl ⟨T.tab p hp,rfl,p.2.1,more,rfl,e2⟩)
 have tok:∀{H:Hp}{p:Addr×Array Value×List (Pos×Str)},p∈TABS->ObjOk P w H s₁.heap p.1 (.tbl p.2.1 p.2.2):=λ{H p} hp =>
  ⟨#[],by rw [Array.append_empty];exact T.at_ p hp,by rw [Array.append_empty];exact T.tri p hp,λq hq=> .inl (by rw [Array.append_empty];exact T.non p hp q hq)⟩
 have only:∀ b,zn b=none∨(∃ o xs,zn b=some (.frz o (.lst xs)))∨∃ p∈TABS,p.1=b/\zn b=some (.tbl p.2.1 p.2.2):=λb=>by
  cases q:zn b with
  |none=>exact .inl rfl
  |some u=>obtain ⟨p,hp,e1,rfl⟩:=ZS q;exact .inr (.inr ⟨p,hp,e1,rfl⟩)
 have mine:∀ b,zn b≠none->∃ p∈TABS,p.1=b:=λb z=>by
  cases q:zn b with
  |none=>exact absurd q z
  |some u=>obtain ⟨p,hp,e1,_⟩:=ZS q;exact ⟨p,hp,e1⟩
 cases hk:K.lookup a with
 |some o =>
  have e:=KX a o hk;rw [ha] at e;cases e;refine core zn only (.inr ⟨_,vs.toArray,_,hk,rfl,rfl,rfl,by rw [yW,lenV];exact hl,by simpa using rv⟩) (λb u z=>?_) (λb z=> .inr (mine b z)) (λb z=>?_) λp hp=>Ca T hp
  ·obtain ⟨p,hp,rfl,rfl⟩:=ZS z;exact tok hp
  ·obtain ⟨p,hp,rfl⟩:=mine b z;exact T.out p hp
 |none =>
  refine core (λb=>if b=a then some (.frz { cls:= .type "list",data:= .seq vs.toArray } (.lst (ns.map V.int))) else zn b) (λb=>?_) (.inl (.inr ⟨{ cls:= .type "list",data:= .seq vs.toArray },if_pos rfl⟩)) (λb u z=>?_) (λb z=>?_) (λb z=>?_) λp hp=>?_
  ·by_cases hb:b=a
   ·exact .inr (.inl ⟨_,_,if_pos hb⟩)
   ·rcases only b with z|⟨o,xs,z⟩|⟨p,hp,e1,z⟩
    ·exact .inl ((if_neg hb).trans z)
    ·exact .inr (.inl ⟨o,xs,(if_neg hb).trans z⟩)
    ·exact .inr (.inr ⟨p,hp,e1,(if_neg hb).trans z⟩)
  ·by_cases hb:b=a
   ·have z':=(if_pos hb).symm.trans z;cases z';subst hb;exact ⟨ha,by rw [yZ];exact hl,vs,_,rv,ha⟩
   ·have z':=(if_neg hb).symm.trans z;obtain ⟨p,hp,rfl,rfl⟩:=ZS z';exact tok hp
  ·by_cases hb:b=a
   ·exact .inl hb
   ·exact .inr (mine b λq=>z ((if_neg hb).trans q))
  ·by_cases hb:b=a
   ·rw [hb];exact hk
   ·obtain ⟨p,hp,rfl⟩:=mine b λq=>z ((if_neg hb).trans q);exact T.out p hp
  ·exact (if_neg (naT p hp)).trans (Ca T hp)
theorem IT {l:PySem.W.OpenLaw}{k:Nat}{q:Program}{loose:List Str}{XP:(Str->Option Value)->Heap->Prop}{YP:World->Heap->Prop}{d:DefRec}{K:Params->Fg}{CX:World->CXT}{sp:World->Sp}(hn:l.most=some n)(hn2:n<=sizeLine)(hdf:d.params.defaults=[])(hr:Room k callerA)(hY:∀(w:World)(h:Heap),YP w h->(K w.params).In h)(F:∀(w:World)(mg:Str->Option Value)(fa:Addr)(h:Heap),YP w h->(K w.params).In h->h.Ns mainGlobals mg->mg d.name=some (.ref fa) -> ∃ fd:FuncData,(∀(s:Shared)(u:Value),BindsTo s fd ⟨[u],[]⟩ [(x,u)])/\wf (K w.params) h /\ ∀ base:Heap,(K w.params).In base->base.Ns mainGlobals mg->FnOk l.prog w (K w.params) mg base (CX w) k fa fd [x] (sp w))(hsp:∀(w:World)(H:Hp)(a:Addr)(ns:List Int),ns.length<=n->Only H->SqL (K w.params) H a (ns.map V.int)->sp w [.ref a] H (λv _=>v = .bl true) λ_ _ _=>False)(hCX:∀(w:World)(H:Hp)(s:Shared)(e:Value)(s':Shared),CX w [] H s (λ_ _ _=>False) e s'->False):PySem.W.WalkO q loose XP YP l.row.toRowW d [] (λf vs=>PySem.call f vs):=by refine Att.attach_call hn hdf λw s₀ s₁ mg mb fa o pm cd doc a vs ns G Y ho hd hcd hmg hobj hints hlen hg=>?_;have KX:=hY w _ Y;obtain ⟨fd,hb,hT,hF⟩:=F w mg fa _ Y KX G.T.g hmg;exact LJ KX hT G.T.g G.T.b G.T.builtins G.T.nolimit G.T.bmain hg hobj hints (yg hlen hn2) hr hF hb (λH hO hS=>hsp w H a ns hlen hO hS) λH e s'=>hCX w H s₁ e s'
def wB (s:Stmt)(j:Nat):Stmt:=match s with
 | .ClassDef _ _ _ body _ _ _ _ _ _ _=>body.getD j (.Pass ⟨0,0,0,0⟩)
 |_=> .Pass ⟨0,0,0,0⟩
def xN (s:Stmt):Arguments:=match s with
 | .FunctionDef _ a _ _ _ _ _ _ _ _=>a
 |_=>{ posonlyargs:=[],args:=[],vararg:=none,kwonlyargs:=[],kw_defaults:=[],kwarg:=none,defaults:=[] }
def qj (s:Stmt):List Stmt:=match s with
 | .FunctionDef _ _ b _ _ _ _ _ _ _=>b
 |_=>[]
def j7 (s:Stmt):Scope:=match s with
 | .FunctionDef _ _ _ _ _ _ sc _ _ _=>sc
 |_=>{ kind:= .function,names:=[],isGenerator:=false,isCoroutine:=false }
abbrev v7:CXT:=λ_ _ _ _ _ _=>False
abbrev E0:XK:=λ_ _ _=>False
theorem ZE {X:Cx}:jX v7 X E0:=λ_ _ _ _ _ _ _ h=>h.elim
structure Fun (K:Fg)(x qual:Str)(st:Stmt)(f:Addr)(fd:FuncData):Prop where
 ex:∃(oc:Value)(od:Option Addr)(kV doc pm:Value)(an:Option Addr)(cdv ct:Value)(osl:Array (Option Value)),
  fd=PySem.W.fnOf x qual (xN st) (qj st) (j7 st) .none kV doc pm an cdv ct/\K.lookup f=some ⟨oc,od,.func fd,osl⟩/\PySem.W.codeIn K cdv qual=true
 kp:PySem.W.keepIn K (.ref f)=true
section
variable {P:Program}{w:World}{K:Fg}{mg:Str->Option Value}{base:Heap}
theorem Fun.ok {N:List Str}{k:Nat}(F:Fun K x qual st f fd)(S:w6 N ps (j7 st))(len:∀ vs H Q E,sp vs H Q E->vs.length=ps.length)(hbody:∀(cdv:Value)(A:Around)(outer:List Env)(s:Shared)(H:Hp)(vs:List V)(Q:VK)(E:XK),Room k (A.deeper (envOfC qual (j7 st) s.heap.objs.size f cdv))->sp vs H Q E -> ∃ t,PSs (xj v7 P w K mg base N qual (j7 st) f cdv A outer s H E).nox (qj st) t/\t { nx:=λ_ H'=>Q .non H',rt:=Q } (start N vs) H):FnOk P w K mg base v7 (k+1) f fd ps sp:=by obtain ⟨oc,od,kV,doc,pm,an,cdv,ct,osl,rfl,lk,hcd⟩:=F.ex;refine JA lk hcd S len λA outer s H vs Q E hr hsp=>?_;obtain ⟨t,h,q⟩:=hbody cdv A outer s H vs Q E hr hsp;exact ⟨t,h.nox,q⟩
theorem Fun.binds (F:Fun K x qual st f fd)(h:∀(kV doc pm:Value)(an:Option Addr)(cdv ct:Value)(us:List Value),us.length=ps.length->bindArgs (PySem.W.fnOf x qual (xN st) (qj st) (j7 st) .none kV doc pm an cdv ct) ⟨us,[]⟩=pure (ps.zip us)):Binds K fd ps []:=by obtain ⟨oc,od,kV,doc,pm,an,cdv,ct,osl,rfl,lk,hcd⟩:=F.ex;exact .all (h kV doc pm an cdv ct)
theorem wz {oc:Value}{od an:Option Addr}{osl:Array (Option Value)}{kV doc pm cdv ct:Value}(l:K.lookup f=some ⟨oc,od,.func (PySem.W.fnOf x qual (xN st) (qj st) (j7 st) .none kV doc pm an cdv ct),osl⟩)(c:PySem.W.codeIn K cdv qual=true)(k:PySem.W.keepIn K (.ref f)=true):Fun K x qual st f (PySem.W.fnOf x qual (xN st) (qj st) (j7 st) .none kV doc pm an cdv ct):=⟨⟨oc,od,kV,doc,pm,an,cdv,ct,osl,rfl,l,c⟩,k⟩
end
theorem xQ {A:Around}{k:Nat}(hr:Room k A):A.units+1<cLine:=Nat.lt_of_le_of_lt (Nat.add_le_add_left (by decide:1<=64) _) hr.units
theorem wZ (h:n<=1000):n<sizeLine:=Nat.lt_of_le_of_lt h (by decide)
section
variable {X:Cx}
theorem pv (i:Nat){pos:Pos}(hN:X.N[i]?=some x:=by rfl)(hv:Vis X.env.scope x:=by first|exact Or.inl rfl|exact Or.inr (Or.inl rfl)|exact Or.inr (Or.inr rfl))(hd:(x==("__debug__":Str))=false:=by decide)(hcd:(x==("__classdict__":Str))=false:=by decide):PE X (.Name x pos) (qb i):=Rm hN hv hd hcd
theorem Du:CallR X (.builtin "len") (λxs H Q=>∃ a kvs,xs=[V.ref a]/\H a=some (.dK kvs)/\Q (.int kvs.length) H):=by intro pins s σ H xs us Q I r h;obtain ⟨a,kvs,rfl,ha,q⟩:=h;obtain ⟨u,rfl,ru⟩:=za r;cases ru;exact d_len I (.inl ha) λt s' I'=>⟨.int kvs.length,H,I',⟨t,rfl⟩,q⟩
end
theorem xR (h:B):if false=true then A else B:=by rw [if_neg yR];exact h
theorem xS (h:A):if true=true then A else B:=by rw [if_pos rfl];exact h
theorem ite2 {c:Prop}[Decidable c](h1:c->A)(h2:¬ c->B):if c then A else B:=by
 by_cases h:c
 ·rw [if_pos h];exact h1 h
 ·rw [if_neg h];exact h2 h
def Same (H H':Hp):Prop:=∀ b o,H b=some o->H' b=some o
theorem Same.refl (H:Hp):Same H H:=λ_ _ h=>h
theorem Same.trans {H1 H2:Hp}(a:Same H H1)(b:Same H1 H2):Same H H2:=λc o h=>b c o (a c o h)
theorem Same.free (e:Same H H'){l:Addr}(h:H' l=Option.none):H l=Option.none:=by
 cases q:H l with
 |none=>rfl
 |some o=>rw [e l o q] at h;cases h
theorem Same.seq {xs:List V}(e:Same H H')(h:SqL K H a xs):SqL K H' a xs:=by
 rcases h with (h|⟨o,h⟩)|h
 ·exact .inl (.inl (e _ _ h))
 ·exact .inl (.inr ⟨o,e _ _ h⟩)
 ·exact .inr h
end L2
set_option maxHeartbeats 4000000
set_option synthInstance.maxHeartbeats 4000000
set_option synthInstance.maxSize 4096
namespace L2
open PySem PySem.Spec PyProof.Rows
variable{c elt iter tg:Expr}{ifs:List Expr}{scope:Scope}{pos:Pos}{env:Env}{X:Cx}{o:Option V}{σ:St}{tt:TT}{te:TE}{wi:TI}{K:Fg}
section
variable {prog:Program}{w:World}{A:Around}{R:Result->Shared->Prop}{s:Shared}
theorem DM {target:Expr}{it acc:Value}(I:Nat->Shared->Prop)
  (turn:∀ n s,I n s->wpAny (model prog w) A (pyNext it) (λr s₁=>match r with
   |none=>R (.ok .next) s₁
   |some v=>wpAny (model prog w) A (letOwnedTupleGo target it v) (λ_ s₀=>wpAny (model prog w) A (assign target env v) (λ_ s₂ =>
     wpAny (model prog w) A (forIn ifs true λc r=>if r=true then do let ok <- isTrue c env (eval c env);pure (ForInStep.yield ok) else pure (ForInStep.yield r)) (λok s₃ =>
      if ok=true then wpAny (model prog w) A (eval elt env) (λx s₄ =>
       wpAny (model prog w) A (call (.builtin "list.append") [acc,x]) (λ_ s₅=>∃ m,m<n/\I m s₅) (λ_ _=>False) s₄) (λ_ _=>False) s₃
      else ∃ m,m<n/\I m s₃) (λ_ _=>False) s₂) (λ_ _=>False) s₀) (λ_ _=>False) s₁) (λ_ _=>False) s)
  (n:Nat) (h:I n s) :
  codeAny (model prog w) A (.compLoop (.ListComp elt [⟨target,iter,ifs,0⟩] scope pos) 0 it acc env) R s:=by
 refine codeAny_loop rfl I (λn s hI=>?_) n h;show wpAny _ A ((compTurn (.ListComp elt [⟨target,iter,ifs,0⟩] scope pos) 0 it acc env).onRaise (λx=>do noteFrame x env;theTreesLotGoes x)) _ _ s;refine wpAny_noted (wpAny_noRaise ?_);rw [compTurn_list];refine yX (wpAny_standAt (yX (v5 (turn n s hI) λr s₁ h₁=>?_)));cases r with
 |none=>exact yC h₁
 |some v =>
  refine yX (v5 h₁ λ_ s₀ h₀=>?_);refine yX (v5 h₀ λ_ s₂ h₂=>yX (v5 h₂ λok s₃ h₃=>?_));cases ok with
  |false=>exact yC ⟨rfl,h₃⟩
  |true=>exact yX (yX (v5 h₃ λx s₄ h₄=>yX (v5 h₄ λ_ s₅ h₅=>yC (yC ⟨rfl,h₅⟩))))
end
theorem Kj {α β:Type}{f:α->β->Sem (ForInStep β)}(g:α->β->β):∀(l:List α)(b:β),(∀ a∈l,∀ b,f a b=pure (.yield (g a b)))->forIn l b f=(pure (l.foldl (λb a=>g a b) b):Sem β)
 |[],_,_=>rfl
 |x::l,b,h=>by
  rw [List.forIn_cons,h x yT,pure_bind];exact Kj g l (g x b) λy hy=>h y (yS _ hy)
def jf (env:Env)(y:Str×NameKind)(cs:List (Str×Addr)):List (Str×Addr):=if y.2 == .free then (y.1,(env.cells.lookup y.1).getD 0)::cs else cs
theorem Gx (env:Env):∀(l:List (Str×NameKind))(cs:List (Str×Addr)),(∀ y∈l,y.2 = .free->∃ c,env.cells.lookup y.1=some c)->(∀ x c,cs.lookup x=some c->env.cells.lookup x=some c) -> (∀ x c,(l.foldl (λb a=>jf env a b) cs).lookup x=some c->env.cells.lookup x=some c)
 |[],_,_,h=>h
 |(n,k)::l,cs,hl,h=>by
  refine Gx env l _ (λy hy=>hl y (yS _ hy)) λx c e=>?_;unfold jf at e
  dsimp only at e
  cases hk:(k==NameKind.free) with
  |false=>rw [hk,if_neg yR] at e;exact h x c e
  |true =>
   rw [hk,if_pos rfl] at e;obtain ⟨c0,e0⟩:=hl (n,k) yT (by simpa using hk);cases hx:x==n with
   |true =>
    rw [uN,hx] at e;have hx':x=n:=by simpa using hx
    subst hx';have e':(List.lookup x env.cells).getD 0=c:=Option.some.inj e;have e0':List.lookup x env.cells=some c0:=e0;rw [e0'] at e';rw [e0',<- e'];rfl
   |false=>rw [uN,hx] at e;exact h x c e
theorem Gy (env:Env)(x:Str):∀(l:List (Str×NameKind))(cs:List (Str×Addr)),(∃ c,cs.lookup x=some c)->∃ c,(l.foldl (λb a=>jf env a b) cs).lookup x=some c
 |[],_,h=>h
 |(n,k)::l,cs,h=>by
  refine Gy env x l _ ?_;unfold jf
  dsimp only
  split
  ·rw [uN];cases hx:x==n with
   |true=>exact ⟨_,rfl⟩
   |false=>exact h
  ·exact h
theorem Gw (env:Env):∀(l:List (Str×NameKind))(cs:List (Str×Addr)),∀ y∈l,y.2 = .free->∃ c,(l.foldl (λb a=>jf env a b) cs).lookup y.1=some c
 |[],_,_,h,_=>nomatch h
 |z::l,cs,y,h,hf=>by
  rcases yM.mp h with e|h
  ·subst e;refine Gy env y.1 l _ ?_;unfold jf
   dsimp only
   rw [hf,if_pos (by rfl),uN,beq_self_eq_true];exact ⟨_,rfl⟩
  ·exact Gw env l _ y h hf
theorem Gz (h:∀ y∈scope.names,y.2 = .free->∃ c,env.cells.lookup y.1=some c):∃ cl,closureFor scope env=pure cl/\(∀ x c,cl.lookup x=some c->env.cells.lookup x=some c)/\∀ y∈scope.names,y.2 = .free->∃ c,cl.lookup y.1=some c:=by
 refine ⟨scope.names.foldl (λb a=>jf env a b) [],?_,Gx env _ _ h (λx c e=>by cases e),Gw env _ _⟩;simp only [closureFor];rw [Kj (jf env) scope.names [] (λy hy b=>?_)]
 ·rfl
 ·obtain ⟨n,k⟩:=y;unfold jf;cases hk:(k==NameKind.free) with
  |false=>simp only [hk,uQ,if_false]<;>rfl
  |true=>obtain ⟨c,e⟩:=h (n,k) hy (by simpa using hk);have e':List.lookup n env.cells=some c:=e;simp only [hk,if_true,cellOf,e'];rfl
theorem Pb (env:Env)(n:Str)(k:NameKind)(r:List (Str×NameKind))(x:Str):((List.map (λ(n,k)=>if (k==NameKind.free&&env.scope.kind == .function&&env.kindOf n==some .cell) then (n,NameKind.cell) else (n,k)) ((n,k)::r)).lookup x) = (if x==n then some (if (k==NameKind.free&&env.scope.kind == .function&&env.kindOf n==some .cell) then NameKind.cell else k) else (List.map (λ(n,k)=>if (k==NameKind.free&&env.scope.kind == .function&&env.kindOf n==some .cell) then (n,NameKind.cell) else (n,k)) r).lookup x):=by
 rw [yI];show List.lookup x ((if (k==NameKind.free&&env.scope.kind == .function&&env.kindOf n==some .cell)=true then (n,NameKind.cell) else (n,k))::_)=_;by_cases hc:(k==NameKind.free&&env.scope.kind == .function&&env.kindOf n==some .cell)=true
 ·rw [if_pos hc,if_pos hc,uN];cases x==n<;>rfl
 ·rw [if_neg hc,if_neg hc,uN];cases x==n<;>rfl
theorem Pd {env:Env}{x:Str}{k:NameKind}:∀{names:List (Str×NameKind)}, (names.map λ(n,k)=>if (k==NameKind.free&&env.scope.kind == .function&&env.kindOf n==some .cell) then (n,NameKind.cell) else (n,k)).lookup x=some k -> ∃ k',names.lookup x=some k'/\(k'=k∨(k' = .free/\k = .cell))
 |[],h=>by simp at h
 |(n,q)::r,h=>by
  rw [Pb] at h;rw [uN];cases hx:x==n with
  |true =>
   rw [hx,if_pos rfl] at h;have h':=Option.some.inj h;refine ⟨q,rfl,?_⟩;by_cases hc:(q==NameKind.free&&env.scope.kind == .function&&env.kindOf n==some .cell)=true
   ·rw [if_pos hc] at h';have hq:(q==NameKind.free)=true:=by
     cases z:(q==NameKind.free) with
     |true=>rfl
     |false=>rw [z] at hc;simp at hc
    exact .inr ⟨by simpa using hq,h'.symm⟩
   ·rw [if_neg hc] at h';exact .inl h'
  |false=>rw [hx,if_neg yR] at h;exact Pd h
theorem Pc {env:Env}{x:Str}:∀{names:List (Str×NameKind)},names.lookup x=some .free -> (names.map λ(n,k)=>if (k==NameKind.free&&env.scope.kind == .function&&env.kindOf n==some .cell) then (n,NameKind.cell) else (n,k)).lookup x=some .cell∨(names.map λ(n,k)=>if (k==NameKind.free&&env.scope.kind == .function&&env.kindOf n==some .cell) then (n,NameKind.cell) else (n,k)).lookup x=some .free
 |[],h=>by simp at h
 |(n,q)::r,h=>by
  rw [Pb];rw [uN] at h;cases hx:x==n with
  |true =>
   rw [hx] at h;have h':q = .free:=Option.some.inj h;rw [if_pos rfl];by_cases hc:(q==NameKind.free&&env.scope.kind == .function&&env.kindOf n==some .cell)=true
   ·rw [if_pos hc];exact .inl rfl
   ·rw [if_neg hc,h'];exact .inr rfl
  |false=>rw [hx] at h;rw [if_neg yR];exact Pc h
def p9 (cap:List (Option Nat))(σ:St):St:=cap.map λo=>o.bind λi=>(σ[i]?).join
structure vT (X:Cx)(N':List Str)(cap:List (Option Nat))(sc:Scope):Prop where
 kind:sc.kind = .function
 nocell:∀ y∈sc.names,y.2 ≠ .cell
 names:∀ y∈sc.names,y.2 = .local->sc.names.lookup y.1=some .local
 free:∀ y∈sc.names,y.2 = .free->X.env.kindOf y.1=some .cell∨X.env.kindOf y.1=some .free
 len:cap.length=N'.length
 cap:∀(j i:Nat),cap[j]?=some (some i)->∃ x,N'[j]?=some x/\X.N[i]?=some x/\sc.names.lookup x=some .free
def KF:Option NameKind->Bool
 |some .cell=>true
 |some .free=>true
 |_=>false
theorem LD {k:Option NameKind}(h:KF k=true):k=some .cell∨k=some .free:=by
 cases k with
 |none=>cases h
 |some k=>cases k<;>first|exact .inl rfl|exact .inr rfl|cases h
def ZA (names:List (Str×NameKind))(kd:Str->Option NameKind)(y:Str×NameKind):Bool :=
 match y.2 with
 | .cell=>false
 | .local=>names.lookup y.1==some .local
 | .free=>KF (kd y.1)
 |_=>true
def zO (N:List Str)(sc:Scope):List Str->List (Option Nat)->Bool
 |[],[]=>true
 |_::r,none::c=>zO N sc r c
 |x::r,some i::c=>N[i]?==some x&&(sc.names.lookup x==some .free&&zO N sc r c)
 |_,_=>false
theorem Ji {N:List Str}{sc:Scope}:∀{xs:List Str}{c:List (Option Nat)},zO N sc xs c=true->c.length=xs.length
 |[],[],_=>rfl
 |_::r,none::c,h=>by
  have h':zO N sc r c=true:=h;simp [Ji h']
 |x::r,some i::c,h=>by
  have h':(N[i]?==some x&&(sc.names.lookup x==some .free&&zO N sc r c))=true:=h;simp only [yf] at h';simp [Ji h'.2.2]
 |[],_::_,h=>by cases h
 |_::_,[],h=>by cases h
theorem Jh {N:List Str}{sc:Scope}:∀{xs:List Str}{c:List (Option Nat)},zO N sc xs c=true->∀(j i:Nat),c[j]?=some (some i)->∃ x,xs[j]?=some x/\N[i]?=some x/\sc.names.lookup x=some .free
 |[],[],_,j,i,e=>by simp at e
 |_::r,none::c,h,0,i,e=>by simp at e
 |_::r,none::c,h,j+1,i,e=>by
  have h':zO N sc r c=true:=h;obtain ⟨x,h1,h2⟩:=Jh h' j i (by simpa using e);exact ⟨x,by simpa using h1,h2⟩
 |x::r,some k::c,h,0,i,e=>by
  have h':(N[k]?==some x&&(sc.names.lookup x==some .free&&zO N sc r c))=true:=h;simp only [yf] at h';have e':k=i:=by simpa using e
  subst e';exact ⟨x,rfl,by simpa using h'.1,by simpa using h'.2.1⟩
 |x::r,some k::c,h,j+1,i,e=>by
  have h':(N[k]?==some x&&(sc.names.lookup x==some .free&&zO N sc r c))=true:=h;simp only [yf] at h';obtain ⟨x',h1,h2⟩:=Jh h'.2.2 j i (by simpa using e);exact ⟨x',by simpa using h1,h2⟩
 |[],_::_,h,_,_,_=>by cases h
 |_::_,[],h,_,_,_=>by cases h
theorem b9 {N':List Str}{cap:List (Option Nat)}{sc:Scope}(h1:sc.kind = .function)(h2:(sc.names.all λy=>ZA sc.names X.env.kindOf y)=true)(h3:zO X.N sc N' cap=true):vT X N' cap sc:=by
 have h2':=uM.mp h2;refine ⟨h1,λy hy e=>?_,λy hy e=>?_,λy hy e=>?_,Ji h3,Jh h3⟩
 ·have q:=h2' y hy;unfold ZA at q;rw [e] at q;cases q
 ·have q:=h2' y hy;unfold ZA at q;rw [e] at q;simpa using q
 ·have q:=h2' y hy;unfold ZA at q;rw [e] at q;exact LD q
def qI (X:Cx)(N':List Str)(sc:Scope)(cl:List (Str×Addr))(C:Addr)(s:Shared)(H:Hp)(fp:List Addr)(pn:List (Addr×Obj)):Cx where
 prog:=X.prog
 w:=X.w
 K:=X.K
 mg:=X.mg
 base:=X.base
 A:=X.A
 N:=N'
 s₀:=s
 H₀:=H
 env:=compEnvC sc cl C X.env
 outer:=X.stack
 stack:=X.stack
 ex:=fp
 fn:=λ_=>false
 calm:=X.calm
 pn:=pn
 xe:=λ_ _=>False
section
variable {X:Cx}{pins:List (Addr×Obj)}{σ:St}{H:Hp}{s:Shared}{h1:Heap}{N':List Str}{cap:List (Option Nat)}{sc:Scope}{cl:List (Str×Addr)}{fp:List Addr}{C D:Addr}
theorem DQ (I:Inv X pins σ H s)(S:vT X N' cap sc)(hc1:∀ x c,cl.lookup x=some c->X.env.cells.lookup x=some c)(hc2:∀ y∈sc.names,y.2 = .free->∃ c,cl.lookup y.1=some c)(hf:∀ b∈fp,xf X pins H b)(ho:∀ b∈fp,b<s.heap.objs.size)(hC:s.heap.objs.size<=C):(qI X N' sc cl C s H fp (X.pn++pins)).Ok where
 mod:=I.ok.mod
 kind:=S.kind
 glob:=I.ok.glob
 blt:=I.ok.blt
 above:=hC
 inj:=λx y c e1 e2=>I.ok.inj x y c (hc1 x c e1) (hc1 y c e2)
 has:=λx hx=>by
  have key:∀ k,(relabel sc X.env).names.lookup x=some k->(k = .cell∨k = .free)->∃ c,cl.lookup x=some c:=λk e hk=>by
   obtain ⟨k',e',q⟩:=Pd e;have hm:=PySem.mem_of_lookup e';have hfree:k' = .free:=by
    rcases q with q|q
    ·rcases hk with z|z
     ·exact absurd (q.trans z) (S.nocell _ hm)
     ·exact q.trans z
    ·exact q.1
   exact hc2 (x,k') hm hfree
  rcases hx with e|e
  ·exact key _ e (.inl rfl)
  ·exact key _ e (.inr rfl)
 cab:=λx c hx _=>by cases hx
 hd:=I.ok.hd
 frames:=I.ok.frames
 stk:= .inl rfl
 exf:=λb hb=>⟨yH (yz (ho b hb) hC),λx c e=>(hf b hb).2.2.2.2.1 x c (hc1 x c e)⟩
 bs:=I.bs
 bsz:=yg I.ok.bsz I.sz
 noex:=λb o e hb=>by
  rcases (hf b hb).2.2.2.1 with z|z
  ·exact I.ok.noex b o e z
  ·exact absurd (yz (yO e) (yg I.ok.bsz z)) (uT _)
 exfs:=λb hb hz=>by
  rcases yM.mp (I.stkSub b hz) with e|e
  ·exact (hf b hb).2.1 e
  ·exact (hf b hb).2.2.1 e
 funs:=I.stack
 frf:=I.stkFree
 tbs:=λp hp=>I.base.tbls _ _ _ (I.ok.tbs p hp)
theorem Lc {m0:Str->Option Value}{o:Obj}(I:Inv X pins σ H s)(S:vT X N' cap sc)(hc1:∀ x c,cl.lookup x=some c->X.env.cells.lookup x=some c)(hc2:∀ y∈sc.names,y.2 = .free->∃ c,cl.lookup y.1=some c)(hf:∀ b∈fp,xf X pins H b)(ho:∀ b∈fp,b<s.heap.objs.size)(hD:s.heap.objs.size<=D)(hC:D<C)(hDo:h1.get? D=some o)(hoc:∀ v,o.data ≠ .cell v)(hns:h1.Ns C m0)(hk:∀ b o,s.heap.get? b=some o->h1.get? b=some o)(t:Nat):Inv (qI X N' sc cl C s H fp (X.pn++pins)) [(D,o)] (p9 cap σ) H { s with heap:=h1,toks:=t }:=by
 have hCs:s.heap.objs.size<=C:=yg hD (uS hC);have lt_s:∀ b o,s.heap.get? b=some o->b≠C:=λb o e=>yH (yz (yO e) hCs);refine ⟨DQ I S hc1 hc2 hf ho hCs,rfl,I.bare,Un.kept hk,⟨m0,hns,λj x v e1 e2 e3=>?_⟩,λx c e=>?_,I.hok.fresh hCs,λx c e=>I.freeC x c (hc1 x c e),λp hp=>?_,I.hok.kept hk,?_⟩
 ·obtain ⟨i,hi,hσ⟩:∃ i,cap[j]?=some (some i)/\σ[i]?=some (some v):=by
   unfold p9 at e2;rw [yP] at e2;cases hc:cap[j]? with
   |none=>rw [hc] at e2;cases e2
   |some o' =>
    rw [hc] at e2;have e2':(o'.bind λi=>(σ[i]?).join)=some v:=Option.some.inj e2;cases o' with
    |none=>cases e2'
    |some i =>
     refine ⟨i,rfl,?_⟩;have e3':(σ[i]?).join=some v:=e2';cases hs:σ[i]? with
     |none=>rw [hs] at e3';cases e3'
     |some q=>rw [hs] at e3';exact congrArg some e3'
  obtain ⟨x',n1,n2,n3⟩:=S.cap j i hi;have e1':N'[j]?=some x:=e1;rw [n1] at e1';obtain rfl:x'=x:=Option.some.inj e1';have hkd:=S.free (x',.free) (PySem.mem_of_lookup n3) rfl;obtain ⟨m,_,hl⟩:=I.loc;obtain ⟨u,r,l⟩:=hl i x' v n2 hσ (by
   rcases hkd with z|z
   ·exact .inr (.inl z)
   ·exact .inr (.inr z))
  refine ⟨u,r,?_⟩;rcases l with ⟨l1,_⟩|⟨_,c,ec,hcell⟩
  ·rcases hkd with z|z
   ·exact absurd (l1.symm.trans z) (by simp)
   ·exact absurd (l1.symm.trans z) (by simp)
  ·obtain ⟨c',ec'⟩:=hc2 (x',.free) (PySem.mem_of_lookup n3) rfl;have q:=hc1 x' c' ec';rw [ec] at q;obtain rfl:c=c':=Option.some.inj q;refine .inr ⟨Pc n3,c,ec',?_⟩;obtain ⟨oc,hoc',hd⟩:=hcell;exact ⟨oc,hk _ _ hoc',hd⟩
 ·obtain ⟨v,oc,hoc',hd⟩:=I.cell x c (hc1 x c e);exact ⟨v,oc,hk _ _ hoc',hd⟩
 ·rcases yo.mp hp with hp|hp
  ·obtain ⟨e,n,ne,nf,d⟩:=I.pin p hp;refine ⟨hk _ _ e,n,lt_s _ _ e,λhz=>?_,d⟩;rcases yM.mp (I.stkSub _ hz) with e'|e'
   ·exact ne e'
   ·exact nf e'
  ·have e:p=(D,o):=by simpa using hp
   subst e;refine ⟨hDo,I.hok.fresh hD,yH hC,λhz=>?_,hoc⟩;rcases yM.mp (I.stkSub _ hz) with e'|e'
   ·exact absurd (yz I.lt hD) (by rw [show X.env.locals=D from e'.symm];exact uT _)
   ·exact I.nofs hD e'
 ·unfold p9;rw [yZ];exact S.len
end
structure Wk (σ σ':St):Prop where
 len:σ.length=σ'.length
 at':∀(i:Nat) v,σ[i]?=some (some v)->σ'[i]?=some (some v)
theorem Wk.refl (σ:St):Wk σ σ:=⟨rfl,λ_ _ h=>h⟩
theorem Wk.set {σ':St}{i:Nat}(w:Wk σ σ')(h:σ[i]?=some none):Wk σ (σ'.set i o):=by
 refine ⟨by rw [ym];exact w.len,λj v e=>?_⟩;have ne:i≠j:=λz=>by rw [<- z,h] at e;cases e
 rw [yq ne];exact w.at' j v e
theorem Wk.one {i:Nat}(h:σ[i]?=some none):Wk σ (σ.set i o):=(Wk.refl σ).set h
def PTs (X:Cx)(ifs:List Expr)(t:TT):Prop :=
 ∀(pins:List (Addr×Obj))(s:Shared)(σ:St)(H:Hp)(Q:Bool->Hp->Prop),Inv X pins σ H s->t σ H Q ->
  wpAny (model X.prog X.w) X.A (forIn ifs true λc r=>if r=true then do let ok <- isTrue c X.env (eval c X.env);pure (ForInStep.yield ok) else pure (ForInStep.yield r)) (TP X pins σ Q) X.xe s
def tYes:TT:=λ_ H Q=>Q true H
theorem m9 :PTs X [] tYes:=λ_ _ _ H _ I h=>wpAny_tests_nil ⟨H,I,h⟩
theorem wX {t:TT}(h:PT X c t):PTs X [c] t:=λpins s σ H Q I q=>wpAny_tests_one (h pins s σ H Q I q)
def YG (J:It)(g:TG)(tt:TT)(te:TE)(Q:VK)(σ0:St)(H1:Hp):Prop:=∃ W:Nat->Nat->List V->Hp->Prop,(∃ m,W 0 m [] H1)/\∀ i m ys H,W i m ys H->ys.length<=sizeLine /\
  ((J.stop i H/\∀ D,H D=none->Q (.ref D) (j4 H D (.lst ys))) ∨
   (J.go i H/\∀ x H',J.yld i H x H'->g x σ0 H' λσ2 H2=>Wk σ0 σ2/\tt σ2 H2 λb H3 =>
      if b=true then te σ2 H3 λv H4=>∃ m',m'<m/\W (i+1) m' (ys++[v]) H4 else ∃ m',m'<m/\W (i+1) m' ys H3))
def Qb (wi:TI)(g:TG)(tt:TT)(te:TE)(cap:List (Option Nat)):TE:=λσ H Q=>wi σ H λJ H1=>YG J g tt te Q (p9 cap σ) H1
section
variable {X:Cx}{pins:List (Addr×Obj)}{σ:St}{s₂:Shared}{N':List Str}{cap:List (Option Nat)}{sc:Scope}{cl:List (Str×Addr)}{fp:List Addr}
theorem GA {g:TG}{Q:VK}{H2:Hp}{it:Addr}{tn:Nat->Heap->Prop}{J:It}{E:Value->Shared->Prop}{RR:Value->Addr->Result->Shared->Prop}(S:vT X N' cap sc)(hc:X.calm=true)(hc1:∀ x c,cl.lookup x=some c->X.env.cells.lookup x=some c)(hc2:∀ y∈sc.names,y.2 = .free->∃ c,cl.lookup y.1=some c)(hg:∀ C pn,PG (qI X N' sc cl C s₂ H2 fp pn) tg g)(ht:∀ C pn,PTs (qI X N' sc cl C s₂ H2 fp pn) ifs tt)(he:∀ C pn,PE (qI X N' sc cl C s₂ H2 fp pn) elt te)(I2:Inv X pins σ H2 s₂)(T:je X.prog X.w X.K tg J fp it tn)(st2:tn 0 s₂.heap)(f2:∀ b∈fp,xf X pins H2 b)(W:Nat->Nat->List V->Hp->Prop)(w0:∃ m,W 0 m [] H2)(turn:∀ i m ys H,W i m ys H->ys.length<=sizeLine /\ ((J.stop i H/\∀ D,H D=none->Q (.ref D) (j4 H D (.lst ys)))∨(J.go i H/\∀ x H',J.yld i H x H'->g x (p9 cap σ) H' λσ2 H2=>Wk (p9 cap σ) σ2/\tt σ2 H2 λb H3 => if b=true then te σ2 H3 λv H4=>∃ m',m'<m/\W (i+1) m' (ys++[v]) H4 else ∃ m',m'<m/\W (i+1) m' ys H3)))(hRR:∀ D C H' s' m,Inv X pins σ H' s'->s'.heap.Ns C m->xf X pins H' C->Q (.ref D) H'->RR (.ref D) C (.ok .next) s'):wpAny (model X.prog X.w) X.A (newList []) (λacc s₃=>wpAny (model X.prog X.w) X.A (newFunctionEnv sc X.env.globals cl [] X.env.qual none .none (some X.env)) (λcenv s₄ => codeAny (model X.prog X.w) X.A (.compStart (.ListComp elt [⟨tg,iter,ifs,0⟩] sc pos) 0 (.ref it) acc { cenv with scope:=relabel sc X.env }) (RR acc cenv.locals) s₄) E s₃) E s₂:=by
  refine wpAny_newObj_type (wpAny_newFunctionEnv S.nocell (by intro y hy;simp at hy) (λh₁ hns₁ hsb₁=>?_) S.kind)
  dsimp only at hns₁ hsb₁ ⊢
  generalize hG:s₂.heap.push { cls:= .type "list",dict:=none,data:= .seq ([]:List Value).toArray }=G at hns₁ hsb₁ ⊢;have hC:G.objs.size=s₂.heap.objs.size+1:=by rw [<- hG,uI]
  have hDC:s₂.heap.objs.size<G.objs.size:=by rw [hC];exact uA _
  have old:∀ b o,s₂.heap.get? b=some o->h₁.get? b=some o:=λb o e =>
    hsb₁.extBut b o (yH (Nat.lt_trans (yO e) hDC)) (yV _ (hG▸yV _ e))
  have hacc:h₁.get? s₂.heap.objs.size=some (LCg.lst []):=hsb₁.extBut _ _ (yH hDC) (yV _ (hG▸yD _ rfl));have fl:∀ b∈fp,b<s₂.heap.objs.size:=λb hb=>by obtain ⟨o,e,_⟩:=T.obj _ _ st2 b hb;exact yO e
  have seqd:∀(us:List Value) v,(LCg.lst us).data ≠ .cell v:=λus v z=>by cases z
  have cellt:∀ x c,cl.lookup x=some c->c<s₂.heap.objs.size:=λx c e=>by obtain ⟨v,oc,ho,_⟩:=I2.cell x c (hc1 x c e);exact yO ho
  have pint:∀ p∈X.pn++pins,p.1<s₂.heap.objs.size:=λp hp=>yO (I2.pin p hp).1;have I0:Inv (qI X N' sc cl G.objs.size s₂ H2 fp (X.pn++pins)) [(s₂.heap.objs.size,LCg.lst [])] (p9 cap σ) H2 { s₂ with heap:=h₁,toks:=s₂.toks+([]:List (Str×Value)).length } :=
    Lc I2 S hc1 hc2 f2 fl (yU _) hDC hacc (seqd []) hns₁ old _
  have stat:∀{H':Hp}{us:List Value},(∀ b∈fp,H' b=none)->∀ b∈fp,xf (qI X N' sc cl G.objs.size s₂ H2 fp (X.pn++pins)) [(s₂.heap.objs.size,LCg.lst us)] H' b:=λ{H' us} hn b hb=>by
    obtain ⟨f0,f1,f2',f3,f4,f5⟩:=f2 b hb;refine ⟨hn b hb,yH (Nat.lt_trans (fl b hb) hDC),λhz=>?_,.inl hb,λx c e=>f4 x c (hc1 x c e),λp hp=>?_⟩
    · rcases yM.mp (I2.stkSub b hz) with e|e
      · exact f1 e
      · exact f2' e
    · rcases yo.mp hp with hp|hp
      · exact f5 p hp
      · have e:p=(s₂.heap.objs.size,LCg.lst us):=by simpa using hp
        rw [e];exact Ne.symm (yH (fl b hb))
  have loop:∀ s₃:Shared,s₃={ s₂ with heap:=h₁,toks:=s₂.toks+([]:List (Str×Value)).length } ->
      codeAny (model X.prog X.w) X.A (.compLoop (.ListComp elt [⟨tg,iter,ifs,0⟩] sc pos) 0 (.ref it) (.ref s₂.heap.objs.size) (compEnvC sc cl G.objs.size X.env)) (RR (.ref s₂.heap.objs.size) G.objs.size) s₃:=by
    rintro s₃ rfl;obtain ⟨m0,w0⟩:=w0;refine DM
      (λn s'=>∃ i ys us H',Inv (qI X N' sc cl G.objs.size s₂ H2 fp (X.pn++pins)) [(s₂.heap.objs.size,LCg.lst us)] (p9 cap σ) H' s'/\Vals ys us/\tn i s'.heap/\(∀ b∈fp,H' b=none)/\W i n ys H') ?_ m0
      ⟨0,[],[],H2,I0,.nil,T.keep _ _ _ st2 λb _ o e=>old b o e,λb hb=>(f2 b hb).1,w0⟩
    rintro n s3 ⟨i,ys,us,H3,I3,rv,st3,fr3,w3⟩;obtain ⟨hz,alt⟩:=turn i n ys H3 w3;rcases alt with ⟨stop,fin⟩|⟨go,step⟩
    · refine v5 (T.done (qI X N' sc cl G.objs.size s₂ H2 fp (X.pn++pins)) rfl rfl rfl hc i _ s3 _ H3 _ I3 (stat fr3) st3 stop) λr s4 ⟨hr,I4⟩=>?_
      subst hr;obtain ⟨gD,nD,_,_,_⟩:=I4.pin (s₂.heap.objs.size,LCg.lst us) (yr _ (yK.mpr rfl));have nD':H3 s₂.heap.objs.size=none:=nD;have gD':s4.heap.get? s₂.heap.objs.size=some (LCg.lst us):=gD;have b4:Un (frs X.stack) fp H2 H3 s₂.heap s4.heap:=I4.base;have n2:H2 s₂.heap.objs.size=none:=I2.hok.fresh (yU _);have un:Un (frs X.stack) fp H2 (j4 H3 s₂.heap.objs.size (.lst ys)) s₂.heap s4.heap :=
        ⟨b4.keep,b4.slot,λb o e n hx=>by rw [z5 (yH (yO e))];exact b4.free b o e n hx,b4.there,
          λb xs e=>by rw [z5 (u6 e n2)];exact b4.tups b xs e,λb o u e=>by rw [z5 (u6 e n2)];exact b4.frzs b o u e,
          λb ps q e=>by rw [z5 (u6 e n2)];exact b4.tbls b ps q e⟩
      have hok:HOk X.prog X.w (j4 H3 s₂.heap.objs.size (.lst ys)) s4.heap:=λb u e=>by
        by_cases hb:b=s₂.heap.objs.size
        · subst hb
          rw [y9] at e;cases e;exact ⟨hz,us,us.length,rv,gD'⟩
        · rw [z5 hb] at e
          exact (I4.hok b u e).stay (λc v _ q=>q) (λc q=>by rw [z5 (u6 q nD')];exact q) (λc xs q=>by rw [z5 (u6 q nD')];exact q) λc _ _ q=>by rw [z5 (u6 q nD')];exact q
      have IF:Inv X pins σ (j4 H3 s₂.heap.objs.size (.lst ys)) s4:=I2.call' (ch:=fp) I4.os un hok I4.bare λb hb=>by
        obtain ⟨f0,f1,f2',f3,f4,f5⟩:=f2 b hb;exact ⟨f3,f1,f4,f5⟩
      obtain ⟨mF,hnF,_⟩:=I4.loc;refine hRR _ _ _ _ mF IF hnF (I2.fpOk (uS hDC) ?_) (fin _ nD');rw [z5 (Ne.symm (yH hDC))];exact I4.free
    · refine v5 (T.item (qI X N' sc cl G.objs.size s₂ H2 fp (X.pn++pins)) rfl rfl rfl hc i _ s3 _ H3 _ I3 (stat fr3) st3 go) λr s4 ⟨u,hr,h4⟩=>?_
      subst hr;refine v5 h4 λ_ s5 ⟨x,H5,I5,r5,y5,st5,fr5⟩=>?_;have I5':=I5.pinned (stat fr5) (T.obj _ _ st5);refine v5 (hg G.objs.size (X.pn++pins) _ s5 _ H5 x u _ I5' r5 (step x H5 y5)) λ_ s6 ⟨σ6,H6,I6,wk,q6⟩=>?_;refine v5 (ht G.objs.size (X.pn++pins) _ s6 σ6 H6 _ I6 q6) λok s7 ⟨H7,I7,q7⟩=>?_;have back:∀{σ8:St}{H8:Hp}{s8:Shared}{us8:List Value},Inv (qI X N' sc cl G.objs.size s₂ H2 fp (X.pn++pins)) ([(s₂.heap.objs.size,LCg.lst us8)]++Xe fp s5.heap) σ8 H8 s8 ->
          tn (i+1) s8.heap/\∀ b∈fp,H8 b=none:=λ{σ8 H8 s8 us8} I8=>by
        refine ⟨T.keep _ _ _ st5 λb hb o e=>(I8.pin (b,o) (yr _ (yr _ (Zy hb e)))).1,λb hb=>?_⟩;obtain ⟨o,e,d⟩:=T.obj _ _ st5 b hb;exact (I8.pin (b,o) (yr _ (yr _ (Zy hb e)))).2.1
      cases ok with
      |false=>obtain ⟨m',hm,w7⟩:=q7;obtain ⟨t7,f7⟩:=back I7;exact ⟨m',hm,i+1,ys,us,H7,I7.unpinned.weak wk.len wk.at',rv,t7,f7,w7⟩
      |true =>
        refine v5 (he G.objs.size (X.pn++pins) _ s7 σ6 H7 _ I7 q7) λuv s8 ⟨v,H8,I8,r8,m',hm,w8⟩=>?_;obtain ⟨t8,f8⟩:=back I8;obtain ⟨gD,nD,lD,fD,_⟩:=I8.pin (s₂.heap.objs.size,LCg.lst us) (yr _ (uX _ (yK.mpr rfl)));have gD':s8.heap.get? s₂.heap.objs.size=some { cls:= .type "list",data:= .seq us.toArray us.length }:=gD;refine append_at (hsz:=by rw [yW,<- rv.length];exact hz) gD' λh9 hs9 hD9=>?_;have I8a:Inv (qI X N' sc cl G.objs.size s₂ H2 fp (X.pn++pins)) [] σ6 H8 s8:=I8.pins_of λp hp=>nomatch hp;have I9:Inv (qI X N' sc cl G.objs.size s₂ H2 fp (X.pn++pins)) [] σ6 H8 { s8 with heap:=h9,toks:=s8.toks } :=
          I8a.turned (it:=s₂.heap.objs.size) (λb o hb e=>hs9.extBut b o hb e) nD lD (.inr (yU _)) (λx c e=>yH (cellt x c e)) λp hp=>by
            rw [yn] at hp;exact yH (pint p hp)
        have I10:Inv (qI X N' sc cl G.objs.size s₂ H2 fp (X.pn++pins)) [(s₂.heap.objs.size,LCg.lst (us++[uv]))] σ6 H8 { s8 with heap:=h9,toks:=s8.toks }:=I9.pins_of λp hp=>by
          have e:p=(s₂.heap.objs.size,LCg.lst (us++[uv])):=by simpa using hp
          subst e;exact ⟨hD9.trans (congrArg some (LCg.lst_snoc us uv)),nD,lD,fD,seqd _⟩
        refine ⟨m',hm,i+1,ys++[v],us++[uv],H8,I10.weak wk.len wk.at',rv.append (.cons r8 .nil),T.keep _ _ _ t8 λb hb o e=>hs9.extBut b o (yH (fl b hb)) e,f8,w8⟩
  have st1:tn 0 h₁:=T.keep _ _ _ st2 λb _ o e=>old b o e;exact codeAny_compStart_list (loop _ rfl) (T.self _ 0 _ _ _ st1 (loop _ rfl))
theorem i6 {g:TG}(S:vT X N' cap sc)(hc:X.calm=true)(hi:PI X tg iter wi)(hg:∀ cl C s H fp pn,PG (qI X N' sc cl C s H fp pn) tg g)(ht:∀ cl C s H fp pn,PTs (qI X N' sc cl C s H fp pn) ifs tt)(he:∀ cl C s H fp pn,PE (qI X N' sc cl C s H fp pn) elt te)(hs:∀ x,foldedSetIterable iter X.env x=pure x:=by intro _;rfl):PE X (.ListComp elt [⟨tg,iter,ifs,0⟩] sc pos) (Qb wi g tt te cap):=by intro pins s σ H Q I h;rw [eval_ListComp];obtain ⟨cl,hcl,hc1,hc2⟩:=Gz (scope:=sc) (env:=X.env) λy hy e=>I.ok.has y.1 (S.free y hy e);refine wpAny_comprehension_free (use:=none) rfl hs hcl S.kind S.names (v5 (hi pins s σ H _ I h) λv s1 h1=>v5 h1 λitv s2 h2=>?_);obtain ⟨it,fp,tn,J,H2,e,I2,T,st2,f2,W,w0,turn⟩:=h2;subst e;refine GA (RR:=λacc C=>compPost (model X.prog X.w) X.A X.xe none (EP X pins σ Q) acc C) S hc hc1 hc2 (λC pn=>hg cl C s2 H2 fp pn) (λC pn=>ht cl C s2 H2 fp pn) (λC pn=>he cl C s2 H2 fp pn) I2 T st2 f2 W w0 turn ?_;intro D C H' s' m I' hn F q;obtain ⟨f0,f1,f2',f3,f4,f5⟩:=F;exact ⟨m,hn,λh' hs'=>⟨.ref D,H',I'.turned (t':=s'.toks) (λb o hb e=>hs'.extBut b o hb e) f0 f1 f3 f4 f5,rfl,q⟩⟩
theorem zk {i:Nat}{x:Str}{spos pos':Pos}{g:TG}(S:vT X N' cap sc)(hc:X.calm=true)(hN:X.N.Nodup)(hx:X.N[i]?=some x)(hk:X.env.scope.names.lookup x=some .local)(hi:PI X tg iter wi)
  (hg:∀ cl C s H fp pn,PG (qI X N' sc cl C s H fp pn) tg g) (ht:∀ cl C s H fp pn,PTs (qI X N' sc cl C s H fp pn) ifs tt) (he:∀ cl C s H fp pn,PE (qI X N' sc cl C s H fp pn) elt te)
  (hsw:swapsWith (.ListComp elt [⟨tg,iter,ifs,0⟩] sc pos) (some (.Name x pos')) spos.line X.env=pure true:=by rfl)
  (hs:∀ x,foldedSetIterable iter X.env x=pure x:=by intro _;rfl):PS X (.Assign [.Name x pos'] (.ListComp elt [⟨tg,iter,ifs,0⟩] sc pos) spos) (zI (Qb wi g tt te cap) (qE i)):=by
 intro pins s σ H D I h;rw [exec_Assign_Name_used _ _ _ _ hsw];refine yX (wpAny_standAt (yX ?_));show wpAny _ X.A (do let _ <- comprehension (.ListComp elt [⟨tg,iter,ifs,0⟩] sc pos) sc X.env _ (newList []) false (eval iter X.env) (some (assign (.Name x pos') X.env))) _ _ s;obtain ⟨cl,hcl,hc1,hc2⟩:=Gz (scope:=sc) (env:=X.env) λy hy e=>I.ok.has y.1 (S.free y hy e);refine yX (v5 (wpAny_comprehension_free (use:=some (assign (.Name x pos') X.env)) (Q:=λ_ s'=>SP X pins D .next s') rfl hs hcl S.kind S.names
  (v5 (hi pins s σ H _ I h) λv s1 h1=>v5 h1 λitv s2 h2=>?_)) λ_ s' hq=>yC (yC hq))
 obtain ⟨it,fp,tn,J,H2,e,I2,T,st2,f2,W,w0,turn⟩:=h2;subst e;refine GA (Q:=λv H1=>qE i v σ H1 D.nx) (RR:=λacc C=>compPost (model X.prog X.w) X.A X.xe (some (assign (.Name x pos') X.env)) (λ_ s'=>SP X pins D .next s') acc C) S hc hc1 hc2 (λC pn=>hg cl C s2 H2 fp pn) (λC pn=>ht cl C s2 H2 fp pn) (λC pn=>he cl C s2 H2 fp pn) I2 T st2 f2 W w0 turn ?_;intro E C H' s' m I' hn F q;obtain ⟨f0,f1,f2',f3,f4,f5⟩:=F;show wpAny _ X.A (assign (.Name x pos') X.env (.ref E)) _ _ _;refine wpAny_assign_Name (PF I' hN hx (.inl hk) (v:= .ref E) rfl (λs'' I'' ch=>?_) (.inr hk));obtain ⟨a,sb,ha⟩:=ch;have nC:C≠a:=by
  rcases ha with z|z
  ·rw [z];exact f1
  ·exact Ne.symm (f4 x a z)
 exact ⟨m,hn.sameBut sb nC,λh' hs'=>⟨_,H',I''.turned (t':=s''.toks) (λb o hb e=>hs'.extBut b o hb e) f0 f1 f3 f4 f5,q⟩⟩
end
section
variable {g:TG}{tt:TT}{te:TE}{Q:VK}{H:Hp}{σ0:St}
theorem Jk {a:Addr}{xs:List V}(Pv:Nat->List V->Hp->Prop)(h0:Pv 0 [] H)(hz:∀ i ys H,i<=xs.length->Pv i ys H->ys.length<=sizeLine)(hl:∀ i ys H,i<=xs.length->Pv i ys H->SqL K H a xs)(hs:∀ i x ys H (R:List V->Hp->Prop),xs[i]?=some x->Pv i ys H->(∀ ys' H',Pv (i+1) ys' H'->R ys' H')->g x σ0 H λσ2 H2=>Wk σ0 σ2/\tt σ2 H2 λb H3=>if b=true then te σ2 H3 λv H4=>R (ys++[v]) H4 else R ys H3)(hd:∀ ys H,Pv xs.length ys H->∀ D,H D=none->Q (.ref D) (j4 H D (.lst ys))):YG (Itl K a) g tt te Q σ0 H:=by
 refine ⟨λi m ys H=>m=xs.length-i/\i<=xs.length/\Pv i ys H,⟨xs.length,by simp,yh _,h0⟩,?_⟩;rintro i m ys H ⟨rfl,hi,p⟩;have q:=hl i ys H hi p;refine ⟨hz i ys H hi p,?_⟩;by_cases hlt:i<xs.length
 ·refine .inr ⟨⟨xs,xs[i],q,by simp [hlt]⟩,λx H' y=>?_⟩;obtain ⟨e,y⟩:=y;subst e;exact hs i x ys _ (λys' H'=>∃ m',m'<xs.length-i/\m'=xs.length-(i+1)/\i+1<=xs.length/\Pv (i+1) ys' H') (y xs q) p λys' H' p'=>⟨xs.length-(i+1),by omega,rfl,hlt,p'⟩
 ·have e:i=xs.length:=by omega
  subst e;exact .inl ⟨⟨xs,q,yU _⟩,hd ys H p⟩
end
def tyB (T c:String):Option Bool:=if (Value.type T==Value.type c)=true then some true else if PySem.W.kitMeta c=true then (fastBuiltinMro T).map (·.contains (Value.type c)) else none
theorem LE {T c:String}{b:Bool}(h:tyB T c=some b):PySem.W.kitOne K (.type T) (.type c)=some b:=h
theorem SX:tyB "int" "int"=some true:=by decide +kernel
theorem SW:tyB "int" "bool"=some false:=by decide +kernel
theorem SY:tyB "list" "list"=some true:=by decide +kernel
theorem SZ:tyB "str" "str"=some true:=by decide +kernel
theorem xz:bootBuiltins "isinstance"=some (.builtin "isinstance"):=by decide +kernel
theorem zp:bootBuiltins "list"=some (.type "list"):=by decide +kernel
theorem Gm:bootBuiltins "int"=some (.type "int"):=by decide +kernel
theorem Gk:bootBuiltins "bool"=some (.type "bool"):=by decide +kernel
theorem Go:bootBuiltins "str"=some (.type "str"):=by decide +kernel
theorem ve:bootBuiltins "all"=some (.builtin "all"):=by decide +kernel
theorem Jg:bootBuiltins "sum"=some (.builtin "sum"):=by decide +kernel
theorem Dk:bootBuiltins "min"=some (.builtin "min"):=by decide +kernel
theorem Di:bootBuiltins "enumerate"=some (.type "enumerate"):=by decide +kernel
theorem Dm:bootBuiltins "zip"=some (.type "zip"):=by decide +kernel
section
variable {X:Cx}
theorem Ds:CallR X (.builtin "isinstance") (λxs H Q=>∃ x n T b,xs=[x,.ty n]/\xp X.K H x (.type T)/\tyB T n=some b/\Q (.bl b) H):=by intro pins s σ H xs us Q I r h;obtain ⟨x,n,T,b,rfl,ty,e,q⟩:=h;obtain ⟨u,w',rfl,rx,rw'⟩:=YB r;obtain rfl:w'=Value.type n:=rw';exact Lg I rx ty (LE e) λtk=>⟨.bl b,H,I.tok _,rfl,q⟩
theorem Cs:∀{bs:List Bool}{us:List Value}{i:Nat}{u:Value},Vals (bs.map V.bl) us->us[i]?=some u->u = .bool (bs.getD i false)
 |[],_,_,_,.nil,e=>by simp at e
 |b::_,_,0,_,.cons r _,e=>by
  have e':=Option.some.inj e;subst e';exact r
 |_::bs,_,i+1,u,.cons _ t,e=>by
  have q:=Cs (i:=i) (u:=u) t (by simpa using e);simpa using q
theorem CM:∀(bs:List Bool),(List.range bs.length).all (λi=>bs.getD i false)=bs.all id:=by
 intro bs;rw [Bool.eq_iff_iff,uM,uM];constructor
 ·intro h b hb;obtain ⟨i,hi,e⟩:=uK hb;have q:=h i (yi.mpr hi);rw [yN,yY hi] at q;rw [<- e];exact q
 ·intro h i hi;have hi':=yi.mp hi;rw [yN,yY hi'];exact h _ (yt hi')
theorem Dp (hc:X.calm=true):CallR X (.builtin "all") (λxs H Q=>∃ (a:Addr) (bs:List Bool),xs=[.ref a]/\SqL X.K H a (bs.map V.bl)/\Q (.bl (bs.all id)) H):=by
 intro pins s σ H xs us Q I r h;obtain ⟨a,bs,rfl,hq,q⟩:=h;obtain ⟨u,rfl,ru⟩:=za r;obtain rfl:u=Value.ref a:=ru;obtain ⟨its,rv,p,hz⟩:=I.list hq;have hlt:a<s.heap.objs.size:=by obtain ⟨_,_,e,_⟩:=p;exact yO e
 have hl:s.heap.IsList a its.toArray:=p.isList;refine call_all_walk (wpAny_pyIter_list hl ?_);refine ⟨s.heap.objs.size,_,_,_,_,_,λi=>bs.getD i false,rfl,Walks.list (A:=X.A.in1) (I.ok.hd hc) s.heap.objs.size a (yH hlt) its.toArray,⟨⟨_,yD _ rfl,rfl,rfl⟩,hl.push _⟩,?_,λh' tk k=>?_⟩
 ·intro i v s' Q' E' hP hQ;have e:=Cs rv (by simpa using hP);subst e;exact wpAny_truthy_bool hQ
 ·have hn:its.toArray.size=bs.length:=by have e:=rv.length;rw [yZ] at e;rw [yW];exact e.symm
  rw [hn,CM];refine ⟨.bl (bs.all id),H,I.kept (t':=tk) (λb o e=>k b o (λhm=>?_) (yV _ e)),rfl,q⟩;have e':b=s.heap.objs.size:=by simpa using hm
  exact absurd (yO e) (by rw [e'];exact uT _)
theorem YD:∀{ns:List Int}{us:List Value},Vals (ns.map V.int) us->IntsAre us ns
 |[],_,.nil=> .nil
 |n::_,_,.cons ⟨t,e⟩ r=>by
  subst e;exact .cons n t (YD r)
theorem Gr (hc:X.calm=true):CallR X (.builtin "sum") (λxs H Q=>∃ (a:Addr) (ns:List Int),xs=[.ref a]/\SqL X.K H a (ns.map V.int)/\Q (.int ns.sum) H):=by
 intro pins s σ H xs us Q I r h;obtain ⟨a,ns,rfl,hq,q⟩:=h;obtain ⟨u,rfl,ru⟩:=za r;obtain rfl:u=Value.ref a:=ru;obtain ⟨its,rv,p,hz⟩:=I.list hq;have hi:=YD rv;have hl:s.heap.IsList a its.toArray:=p.isList;obtain ⟨xs,ex⟩:=hi.allInts.items;have e2:(numsOf its.toArray.toList).sum=ns.sum:=by rw [show its.toArray.toList=its from rfl,hi.numsOf]
 rw [ex] at hl e2;rw [nums_intItems] at e2;refine sum_intListG (I.ok.hd hc) hl λh' tk t' k=>⟨.int ns.sum,H,I.kept (t':=tk) k,?_,q⟩;rw [preSum_eq,List.take_of_length_le (by simp),e2];exact ⟨_,rfl⟩
def Qg (_i j:Int):Prop:=0<j/\j.natAbs.log2<9000
theorem Bn:OpR X (binaryOp .FloorDiv) (rI Qg λi j=> .int (i / j)):=opI λi j _ _ _ _ _ hc q=>by
 have e:i.fdiv j=i / j:=Int.fdiv_eq_ediv_of_nonneg i (Int.le_of_lt hc.1);exact floordiv_int (Ne.symm (Int.ne_of_lt hc.1)) (by rw [e];exact q) (.inl (PyProof.noPylong_of_log2 hc.2))
def Qh (i j:Int):Prop:=Builtin.Int.intBits i<=2 ^ 20/\Builtin.Int.intBits j<=2 ^ 20
theorem ZD:OpR X (binaryOp .Mult) (rI Qh λi j=> .int (i*j)):=opI λ_ _ _ _ _ _ _ hc q=>mul_int q (IntMulOk.of_bits hc.1 hc.2)
def Its (lo c:Int)(n:Nat):It:=⟨λi _=>i<n,λi H x H'=>H'=H/\x = .int (lo+i*c),λi _=>n<=i⟩
theorem SK {P:Program}{w:World}(it:Addr)(lo c:Int)(n:Nat):je P w K tg (Its lo c n) [it] it (λi h=>IsRangeIter h it (lo+(i:Nat)*c) ((n:Int)-(i:Nat)) c) where
 mem:=by simp
 obj:=λi h st b hb=>by
  have e:b=it:=by simpa using hb
  subst e;exact ⟨_,st,λv z=>by
   have z':Data.fields _=Data.cell v:=z;cases z'⟩
 keep:=λi h h' st k=>k it (by simp) _ st
 item:=by intro X hP hw hK hc i pins s σ H E I hf st hg;subst hP hw hK;obtain ⟨f0,f1,f2,f3,f4,f5⟩:=hf it (by simp);have W:=Walks.range (prog:=X.prog) (w:=X.w) (I.ok.hd hc) it lo c n;refine W.item i s _ _ hg st λv h' tk hv st' kk=>?_;obtain ⟨t,rfl⟩:=hv;have I1:Inv X pins σ H { s with heap:=h',toks:=tk }:=I.turned (λb o hb e=>kk b o (by simpa using hb) e) f0 f1 f3 f4 f5;exact ⟨_,rfl,XZ (s:={ s with heap:=h',toks:=tk }) (n:="range_iterator") st' rfl rfl (by decide) ⟨.int (lo+i*c),H,I1,⟨t,rfl⟩,⟨rfl,rfl⟩,st',λb hb=>(hf b hb).1⟩⟩
 done:=by intro X hP hw hK hc i pins s σ H E I hf st hg;subst hP hw hK;obtain ⟨f0,f1,f2,f3,f4,f5⟩:=hf it (by simp);exact wpAny_pyNext_range_end (I.ok.hd hc) st (by have:n<=i:=hg;omega) λh' eb=>⟨rfl,I.turned (t':=s.toks) (λb o hb e=>eb b o hb e) f0 f1 f3 f4 f5⟩
 self:=λ_ _ _ _ _ st h=>wpAny_pyIter_rangeiter st h
def jt (i j c:Int):Nat:=(Builtin.Range.rangeSize i j c).toNat
def iRng3 (ta:TA):TI:=λσ H R=>ta σ H λvs H1=>∃ i j c:Int,vs=[.int i,.int j,.int c]/\(0<c/\c<1073741824)/\0<=Builtin.Range.rangeSize i j c/\Builtin.Range.small i j c=true/\R (Its i c (jt i j c)) H1
variable {tg:Expr}
theorem Rq {a b:Expr}{ta:TA}{p:Pos}(hg:Gl X "range")(hm:X.mg "range"=none)(ha:PA X [a,b,c] ta)(hs:starEach [a,b,c] X.env=[(false,eval a X.env),(false,eval b X.env),(false,eval c X.env)]:=by rfl)(hs2:starEach [b,c] X.env=[(false,eval b X.env),(false,eval c X.env)]:=by rfl):PI X tg (.Call (.Name "range" p) [a,b,c] [] pos) (iRng3 ta):=by
 intro pins s σ H R I h;refine Call_ (zS I hg hm boot_range (PyProof.Rows.callWith_type1 (v5 (ha pos pins s σ H _ I h) λus s1 ⟨vs,H1,I1,r1,q1⟩=>?_) (by rw [hs,hs2]) (by rw [hs2];rfl)));obtain ⟨i,j,c,e,⟨q1,q2⟩,q3,q4,q⟩:=q1;subst e;cases r1 with
 |cons r rr =>
  cases rr with
  |cons r' rr =>
   cases rr with
   |cons r'' rr =>
    cases rr;obtain ⟨t,rfl⟩:=r;obtain ⟨t',rfl⟩:=r';obtain ⟨t'',rfl⟩:=r'';refine call_range_3 (Ne.symm (Int.ne_of_lt q1)) ?_ (.inl (PyProof.noPylong_small (by omega)));refine wpAny_pyIter_range (IsRange.new ..) q4 ?_;have I2:Inv X pins σ H1 { s1 with heap:=s1.heap.push { cls:= .type "range",data:= .fields #[.int i t,.int j t',.int c t''] },toks:=s1.toks }:=I1.kept λb o e=>yV _ e;refine ⟨(s1.heap.push { cls:= .type "range",data:= .fields #[.int i t,.int j t',.int c t''] }).objs.size,[(s1.heap.push { cls:= .type "range",data:= .fields #[.int i t,.int j t',.int c t''] }).objs.size],_,_,H1,rfl,
     I2.kept (t':=s1.toks) λb o e=>yV _ e,SK _ i c (jt i j c),?_,λb hb=>?_,q⟩
    ·have e1:i+((0:Nat):Int)*c=i:=by simp
     have e2:((jt i j c:Nat):Int)-((0:Nat):Int)=Builtin.Range.rangeSize i j c:=by unfold jt;omega
     show IsRangeIter _ _ (i+((0:Nat):Int)*c) (((jt i j c:Nat):Int)-((0:Nat):Int)) c;rw [e1,e2];exact yD _ rfl
    ·have e:b=(s1.heap.push { cls:= .type "range",data:= .fields #[.int i t,.int j t',.int c t''] }).objs.size:=by simpa using hb
     subst e;exact I2.fpOk (yU _) (I2.hok.fresh (yU _))
end
theorem Mv {lo c:Int}{n:Nat}{g:TG}{tb:TS}{D:xK}{H:Hp}(Pv:Nat->St->Hp->Prop)(h0:Pv 0 σ H)(hs:∀ i σ H,i<n->Pv i σ H->g (.int (lo+i*c)) σ H λσ2 H2=>tb { D with nx:=Pv (i+1),ct:=Pv (i+1),bk:=D.nx } σ2 H2)(hd:∀ σ H,Pv n σ H->D.nx σ H):∃ W:Nat->Nat->St->Hp->Prop,(∃ m,W 0 m σ H)/\∀ i m σ H,W i m σ H -> ((Its lo c n).stop i H/\D.nx σ H)∨((Its lo c n).go i H/\∃ N:St->Hp->Prop,(∀ σ' H',N σ' H'->∃ m',m'<m/\W (i+1) m' σ' H')/\∀ x H',(Its lo c n).yld i H x H'->g x σ H' λσ2 H2=>tb { D with nx:=N,ct:=N,bk:=D.nx } σ2 H2):=by
 refine ⟨λi m σ H=>m=n-i/\i<=n/\Pv i σ H,⟨n,by simp,yh _,h0⟩,?_⟩;rintro i m σ H ⟨rfl,hi,p⟩;by_cases hlt:i<n
 ·refine .inr ⟨hlt,Pv (i+1),λσ' H' p'=>⟨n-(i+1),by omega,rfl,hlt,p'⟩,λx H' y=>?_⟩;obtain ⟨e,y⟩:=y;subst e y;exact hs i σ _ hlt p
 ·have e:i=n:=by omega
  subst e;exact .inl ⟨yU _,hd σ H p⟩
section
open PySem.SeqAt
theorem xX {α β:Type}{F:α->β->Prop}:∀{l₁:List α}{l₂:List β},Paired F l₁ l₂->∀(j:Nat)(h1:j<l₁.length)(h2:j<l₂.length),F l₁[j] l₂[j]
 |_,_,.cons r _,0,_,_=>r
 |_,_,.cons _ t,j+1,h1,h2=>xX t j (by simpa using h1) (by simpa using h2)
variable {X:Cx}
end
structure Fn (P:Program)(w:World)(K:Fg)(mg:Str->Option Value)(base:Heap)(k:Nat)(x:Str)(ps:List Str)(sp:Sp):Prop where
 ex:∃ f fd,FnOk P w K mg base v7 k f fd ps sp/\mg x=some (.ref f)/\PySem.W.keepIn K (.ref f)=true/\Binds K fd ps []
section
variable {X:Cx}{k j:Nat}{x:Str}{ps:List Str}{sp:Sp}{e:Expr}{es:List Expr}{t:TA}{p pos:Pos}
theorem qy (c:Fn X.prog X.w X.K X.mg X.base k x ps sp)(hr:Room j X.A)(hj:k<=j)(hg:Gl X x)(ha:PA X (e::es) t)(hdb:(x==("__debug__":Str))=false:=by decide)(he:starEach (e::es) X.env=(false,eval e X.env)::starEach es X.env:=by rfl)(hpl:(backTo pos (starEach es X.env)).any (·.1)=false:=by rfl):PE X (.Call (.Name x p) (e::es) [] pos) (jb sp [] E0 t):=by obtain ⟨f,fd,F,hm,hk,hb⟩:=c.ex;exact Rb F (hr.mono hj) hg hm hk hb .nil ZE ha hdb he hpl
end
end L2
namespace L2
open PySem PySem.Spec PyProof.Rows
variable{p pos px tp:Pos}{a b:Expr}{P:Program}{w:World}{K:Fg}{elts:List Expr}{x1:Nat}{ta:TA}{x:Str}
section
variable {X:Cx}{pins:List (Addr×Obj)}{σ:St}{H:Hp}{s:Shared}{h':Heap}
theorem Inv.turnedL {t':Nat}{ch:List Addr}(I:Inv X pins σ H s)(k:∀ b o,b∉ch->s.heap.get? b=some o->h'.get? b=some o)(hf:∀ b∈ch,xf X pins H b):Inv X pins σ H { s with heap:=h',toks:=t' }:=by
 have nit:∀ b u,H b=some u->b∉ch:=λb u e z=>by rw [(hf b z).1] at e;cases e
 have nL:X.env.locals∉ch:=λz=>(hf _ z).2.1 rfl;refine I.step (g':=s.gens) (d':=s.drawn) (ch:=ch) (λb hb=>?_) (λb o _ _ hc e _=>k b o hc e) (λb o _ _ hc e _=>⟨o.slots,k b o hc e⟩) (λ_ _ _ _ n=>n)
  (λb o hc e=>⟨o,k b o hc e⟩) (λ_ _ e=>e) (λ_ _ _ e=>e) (λ_ _ _ e=>e) (λm hm=>?_) (λb u e=>?_) I.bare
 ·obtain ⟨f0,f1,f2,f3,f4,f5⟩:=hf b hb;exact ⟨f3,f1,f4,f5⟩
 ·obtain ⟨o,es,ep,ho,r⟩:=hm;exact ⟨o,es,ep,k _ o nL ho,r⟩
 ·refine (I.hok b u e).stay (λc v hc q=>k c v ?_ q) (λ_ q=>q) (λ_ _ q=>q) λ_ _ _ q=>q;rcases hc with z|z
  ·rw [z];exact nit b u e
  ·exact nit c _ z
theorem Inv.track {p:Addr}{o:HO}(I:Inv X pins σ H s)(hp:X.s₀.heap.objs.size<=p)(hn:H p=none)(nL:p≠X.env.locals)(nC:∀ x c,X.env.cells.lookup x=some c->c≠p)(nP:∀ q∈X.pn++pins,q.1≠p)(new:ObjOk X.prog X.w (j4 H p o) s.heap p o):Inv X pins σ (j4 H p o) s:=by
 refine ⟨I.ok,I.os,I.bare,⟨I.base.keep,I.base.slot,λb ob e n hx=>?_,I.base.there,λb xs e=>?_,λb ob u e=>?_,λb ps q e=>?_⟩,I.loc,I.cell,?_,λx c e=>?_,λq hq=>?_,λb u e=>?_,I.len⟩
 ·rw [z5 (yH (yz (yO e) hp))];exact I.base.free b ob e n hx
 ·have z:=I.base.tups b xs e;rw [z5 (u6 z hn)];exact z
 ·have z:=I.base.frzs b ob u e;rw [z5 (u6 z hn)];exact z
 ·have z:=I.base.tbls b ps q e;rw [z5 (u6 z hn)];exact z
 ·rw [z5 (Ne.symm nL)];exact I.free
 ·rw [z5 (nC x c e)];exact I.freeC x c e
 ·obtain ⟨a1,a2,a3⟩:=I.pin q hq;exact ⟨a1,by rw [z5 (nP q hq)];exact a2,a3⟩
 ·by_cases hb:b=p
  ·subst hb;rw [y9] at e;cases e;exact new
  ·rw [z5 hb] at e;exact (I.hok b u e).stay (λc v _ q=>q) (λc q=>by rw [z5 (u6 q hn)];exact q) (λc xs q=>by rw [z5 (u6 q hn)];exact q) λc _ _ q=>by rw [z5 (u6 q hn)];exact q
theorem Inv.seq_ne {a b:Addr}{xs:List V}(I:Inv X pins σ H s)(hq:SqL X.K H a xs)(hf:xf X pins H b):a≠b:=by
 rintro rfl;rcases hq with (h|⟨o,h⟩)|⟨o,its,n,hk,_⟩
 ·rw [hf.1] at h;cases h
 ·rw [hf.1] at h;cases h
 ·have e:=I.ok.mod.kin a o hk;rcases hf.2.2.2.1 with z|z
  ·exact I.ok.noex a o e z
  ·exact absurd (yz (yO e) (yg I.ok.bsz z)) (uT _)
end
def Ite (K:Fg)(a:Addr):It :=
 ⟨λi H=>∃ xs x,SqL K H a xs/\xs[i]?=some x,λi H x H'=>∃ p y,H p=none/\x = .ref p/\H'=j4 H p (.tup [.int i,y])/\∀ xs,SqL K H a xs->xs[i]?=some y,λi H=>∃ xs,SqL K H a xs/\xs.length<=i⟩
theorem SH (a e it:Addr)(hne:e≠it):je P w K (.Tuple elts x1 tp) (Ite K a) [e,it] e (λi h=>(∃ old,IsEnum h e it ((i:Nat):Int) old)/\h.IsListIter it a i) where
 mem:=by simp
 obj:=λi h st b hb=>by
  obtain ⟨⟨old,he⟩,hit⟩:=st;rcases yM.mp hb with rfl|hb
  ·exact ⟨_,he,λv z=>by
    have z':Data.fields _=Data.cell v:=z;cases z'⟩
  ·have eb:b=it:=by simpa using hb
   subst eb;obtain ⟨o,e1,c,d⟩:=hit;exact ⟨o,e1,λv z=>by rw [d] at z;cases z⟩
 keep:=λi h h' st k=>by
  obtain ⟨⟨old,he⟩,hit⟩:=st;exact ⟨⟨old,k e (by simp) _ he⟩,hit.at λo q=>k it (by simp) o q⟩
 item:=by
  intro X hP hw hK hc i pins s σ H E I hf st hg;subst hP hw hK;obtain ⟨⟨old,he⟩,hit⟩:=st;obtain ⟨xs,x,hq,hx⟩:=hg;obtain ⟨its,rv,p,hz⟩:=I.list hq;obtain ⟨u,hu,ru⟩:=rv.get hx;have fz:xf X pins H s.heap.objs.size:=I.fpOk (yU _) (I.hok.fresh (yU _));have lte:e<s.heap.objs.size:=yO he;have lti:it<s.heap.objs.size:=by obtain ⟨o,q,_⟩:=hit;exact yO q
  refine wpAny_pyNext_enum_item he hit p.isList (x:=u) (by simpa using hu) hne λh1 heo hit1 ht1 hz1 hk1=>⟨_,rfl,?_⟩;refine wpAny_letOwnedTupleGo_enum heo λh2 he2 hs2=>?_;have hs2':Heap.SameBut e h1 h2:=hs2;have I2:Inv X pins σ H { s with heap:=h2,toks:=s.toks+1 }:=I.turnedL (ch:=[e,it]) (λb o hb q=>by
   have n1:b≠e:=λz=>hb (by rw [z];simp);have n2:b≠it:=λz=>hb (by rw [z];simp);exact hs2'.extBut b o n1 (hk1 b o n1 n2 q)) hf
  obtain ⟨f0,f1,f2,f3,f4,f5⟩:=fz;have tup:h2.get? s.heap.objs.size=some { cls:= .type "tuple",data:= .seq #[.int i s.toks,u] }:=hs2'.extBut _ _ (Ne.symm (yH lte)) ht1;refine ⟨.ref s.heap.objs.size,j4 H s.heap.objs.size (.tup [.int i,x]),I2.track I.sz f0 f1 f4 f5 ?_,rfl,⟨s.heap.objs.size,x,f0,rfl,rfl,λys hy=>by rw [I.list_inj hy hq];exact hx⟩,⟨⟨u,?_⟩,?_⟩,λb hb=>?_⟩
  ·exact ⟨by show 2<=sizeLine;decide,[.int i s.toks,u],.cons ⟨_,rfl⟩ (.cons ru .nil),⟨_,tup,rfl,_,rfl⟩⟩
  ·have ei:(((i+1:Nat):Int))=(i:Int)+1:=by omega
   rw [ei];exact he2
  ·exact hit1.at λo q=>hs2'.extBut it o (Ne.symm hne) q
  ·have nb:b≠s.heap.objs.size:=by
    rcases yM.mp hb with rfl|hb
    ·exact yH lte
    ·have eb:b=it:=by simpa using hb
     rw [eb];exact yH lti
   rw [z5 nb];exact (hf b hb).1
 done:=by intro X hP hw hK hc i pins s σ H E I hf st hg;subst hP hw hK;obtain ⟨⟨old,he⟩,hit⟩:=st;obtain ⟨xs,hq,hx⟩:=hg;obtain ⟨its,rv,p,hz⟩:=I.list hq;have hl:=rv.length;exact wpAny_pyNext_enum_end (I.ok.hd hc) he hit p.isList (by simp;omega) λh1 eb=>⟨rfl,I.turnedL (t':=s.toks) (ch:=[e,it]) (λb o hb q=>eb b o (λz=>hb (by rw [z];simp)) q) hf⟩
 self:=λ_ _ _ _ _ st h=>by
  obtain ⟨⟨old,he⟩,hit⟩:=st;exact wpAny_pyIter_enum he h
section
variable {X:Cx}{elts:List Expr}{x1:Nat}{tp:Pos}
def JE (K:Fg)(ta:TA):TI:=λσ H R=>ta σ H λvs H1=>∃ a,vs=[.ref a]/\(∃ xs,SqL K H1 a xs)/\R (Ite K a) H1
theorem Ro (hg:Gl X "enumerate")(hm:X.mg "enumerate"=none)(ha:PA X [a] ta)(hs:starEach [a] X.env=[(false,eval a X.env)]:=by rfl):PI X (.Tuple elts x1 tp) (.Call (.Name "enumerate" p) [a] [] pos) (JE X.K ta):=by
 intro pins s σ H R I h;refine Call_ (zS I hg hm Di (PyProof.Rows.callWith_type1 (v5 (ha pos pins s σ H _ I h) λus s1 ⟨vs,H1,I1,r1,q1⟩=>?_) hs rfl));obtain ⟨a,e,⟨xs,hq⟩,q⟩:=q1;subst e;cases r1 with
 |cons r rr =>
  cases rr;cases r;obtain ⟨its,rv,p,hz⟩:=I1.list hq;refine call_enumerate_list p.isList λh' he hit hsz hk=>?_;refine wpAny_pyIter_enum he ?_;refine ⟨s1.heap.objs.size+1,[s1.heap.objs.size+1,s1.heap.objs.size],_,_,H1,rfl,I1.kept (t':=s1.toks) hk,SH a (s1.heap.objs.size+1) s1.heap.objs.size (uf (uA _)),⟨⟨_,he⟩,hit⟩,λb hb=>?_,q⟩;rcases yM.mp hb with rfl|hb
  ·exact I1.fpOk (ui _) (I1.hok.fresh (ui _))
  ·have eb:b=s1.heap.objs.size:=by simpa using hb
   subst eb;exact I1.fpOk (yU _) (I1.hok.fresh (yU _))
end
def Itz (K:Fg)(a b:Addr):It :=
  ⟨λi H=>∃ xs ys x y,SqL K H a xs/\SqL K H b ys/\xs[i]?=some x/\ys[i]?=some y,
   λi H z H'=>∃ p x y,H p=none/\z = .ref p/\H'=j4 H p (.tup [x,y])/\(∀ xs,SqL K H a xs->xs[i]?=some x)/\∀ ys,SqL K H b ys->ys[i]?=some y,
   λi H=>∃ xs ys,SqL K H a xs/\SqL K H b ys/\(xs.length<=i∨ys.length<=i)⟩
theorem SM (a b z TI TO i1 i2:Addr)(d:[z,TI,TO,i1,i2].Nodup):je P w K (.Tuple elts x1 tp) (Itz K a b) [z,TI,TO,i1,i2] z (λi h=>IsZip h z TI TO .none/\IsPair h TI (.ref i1) (.ref i2)/\(∃ u v,IsPair h TO u v)/\h.IsListIter i1 a i/\h.IsListIter i2 b i) where
 mem:=by simp
 obj:=λi h st c hc=>by
  obtain ⟨hz,hTI,⟨u,v,hTO⟩,h1,h2⟩:=st;have hc':c=z∨c=TI∨c=TO∨c=i1∨c=i2:=by simpa using hc
  rcases hc' with rfl|rfl|rfl|rfl|rfl
  ·exact ⟨_,hz,λv q=>by
    have q':Data.fields _=Data.cell v:=q;cases q'⟩
  ·exact ⟨_,hTI,λv q=>by
    have q':Data.seq _ _=Data.cell v:=q;cases q'⟩
  ·exact ⟨_,hTO,λv q=>by
    have q':Data.seq _ _=Data.cell v:=q;cases q'⟩
  ·obtain ⟨o,e1,cc,dd⟩:=h1;exact ⟨o,e1,λv q=>by rw [dd] at q;cases q⟩
  ·obtain ⟨o,e1,cc,dd⟩:=h2;exact ⟨o,e1,λv q=>by rw [dd] at q;cases q⟩
 keep:=λi h h' st k=>by
  obtain ⟨hz,hTI,⟨u,v,hTO⟩,h1,h2⟩:=st;exact ⟨k z (by simp) _ hz,k TI (by simp) _ hTI,⟨u,v,k TO (by simp) _ hTO⟩,h1.at λo e=>k i1 (by simp) o e,h2.at λo e=>k i2 (by simp) o e⟩
 item:=by
  intro X hP hw hK hc i pins s σ H E I hf st hg;subst hP hw hK;obtain ⟨hz,hTI,⟨u0,v0,hTO⟩,h1,h2⟩:=st;obtain ⟨xs,ys,x,y,hqa,hqb,hx,hy⟩:=hg;obtain ⟨its,rv,p,_⟩:=I.list hqa;obtain ⟨jts,rw',p',_⟩:=I.list hqb;obtain ⟨u,hu,ru⟩:=rv.get hx;obtain ⟨v,hv,rv'⟩:=rw'.get hy;simp only [yu,yM,not_or,ye,not_false_eq_true,ug,and_true] at d;obtain ⟨⟨d1,d2,d3,d4⟩,⟨d5,d6,d7⟩,⟨d8,d9⟩,d10⟩:=d;have ap:ZipApart z TI TO i1 i2 a b:=⟨Ne.symm d1,Ne.symm d2,Ne.symm d3,Ne.symm d4,d5,d6,d7,d8,d9,d10,
   I.seq_ne hqa (hf z (by simp)),I.seq_ne hqa (hf TO (by simp)),I.seq_ne hqa (hf i1 (by simp)),I.seq_ne hqa (hf i2 (by simp)),
   I.seq_ne hqb (hf z (by simp)),I.seq_ne hqb (hf TO (by simp)),I.seq_ne hqb (hf i1 (by simp)),I.seq_ne hqb (hf i2 (by simp))⟩
  have fz:xf X pins H s.heap.objs.size:=I.fpOk (yU _) (I.hok.fresh (yU _));have lt:∀ c∈[z,TI,TO,i1,i2],c<s.heap.objs.size:=λc hc=>by
   have hc':c=z∨c=TI∨c=TO∨c=i1∨c=i2:=by simpa using hc
   rcases hc' with rfl|rfl|rfl|rfl|rfl
   ·exact yO hz
   ·exact yO hTI
   ·exact yO hTO
   ·obtain ⟨o,q,_⟩:=h1;exact yO q
   ·obtain ⟨o,q,_⟩:=h2;exact yO q
  refine wpAny_pyNext_zip_item ap hz hTI hTO h1 h2 p.isList p'.isList (x:=u) (y:=v) (by simpa using hu) (by simpa using hv) λh3 hz3 hTO3 h13 h23 hp3 hs3 hk3=>⟨_,rfl,?_⟩;refine wpAny_letOwnedTupleGo_zip hz3 λh4 hz4 hs4=>?_;have hs4':Heap.SameBut z h3 h4:=hs4;have I4:Inv X pins σ H { s with heap:=h4,toks:=s.toks }:=I.turnedL (ch:=[z,TI,TO,i1,i2]) (λc o hc q=>by
   have n1:c≠z:=λe=>hc (by rw [e];simp);have n2:c≠TO:=λe=>hc (by rw [e];simp);have n3:c≠i1:=λe=>hc (by rw [e];simp);have n4:c≠i2:=λe=>hc (by rw [e];simp);exact hs4'.extBut c o n1 (hk3 c o n1 n2 n3 n4 q)) hf
  obtain ⟨f0,f1,f2,f3,f4,f5⟩:=fz;have tup:h4.get? s.heap.objs.size=some { cls:= .type "tuple",data:= .seq #[u,v] }:=hs4'.extBut _ _ (Ne.symm (yH (lt z (by simp)))) hp3;refine ⟨.ref s.heap.objs.size,j4 H s.heap.objs.size (.tup [x,y]),I4.track I.sz f0 f1 f4 f5 ?_,rfl,⟨s.heap.objs.size,x,y,f0,rfl,rfl,(λzs hy'=>by rw [I.list_inj hy' hqa];exact hx),λzs hy'=>by rw [I.list_inj hy' hqb];exact hy⟩,⟨hz4,?_,⟨u,v,?_⟩,?_,?_⟩,λc hc=>?_⟩
  ·exact ⟨by show 2<=sizeLine;decide,[u,v],.cons ru (.cons rv' .nil),⟨_,tup,rfl,_,rfl⟩⟩
  ·exact hs4'.extBut _ _ (Ne.symm d1) (hk3 _ _ (Ne.symm d1) d5 d6 d7 hTI)
  ·exact hs4'.extBut _ _ (Ne.symm d2) hTO3
  ·exact h13.at λo q=>hs4'.extBut i1 o (Ne.symm d3) q
  ·exact h23.at λo q=>hs4'.extBut i2 o (Ne.symm d4) q
  ·rw [z5 (yH (lt c hc))];exact (hf c hc).1
 done:=by
  intro X hP hw hK hc i pins s σ H E I hf st hg;subst hP hw hK;obtain ⟨hz,hTI,⟨u0,v0,hTO⟩,h1,h2⟩:=st;obtain ⟨xs,ys,hqa,hqb,hend⟩:=hg;obtain ⟨its,rv,p,_⟩:=I.list hqa;obtain ⟨jts,rw',p',_⟩:=I.list hqb;have l1:=rv.length;have l2:=rw'.length;simp only [yu,yM,not_or,ye,not_false_eq_true,ug,and_true] at d;obtain ⟨⟨d1,d2,d3,d4⟩,⟨d5,d6,d7⟩,⟨d8,d9⟩,d10⟩:=d;have ap:ZipApart z TI TO i1 i2 a b:=⟨Ne.symm d1,Ne.symm d2,Ne.symm d3,Ne.symm d4,d5,d6,d7,d8,d9,d10,
   I.seq_ne hqa (hf z (by simp)),I.seq_ne hqa (hf TO (by simp)),I.seq_ne hqa (hf i1 (by simp)),I.seq_ne hqa (hf i2 (by simp)),
   I.seq_ne hqb (hf z (by simp)),I.seq_ne hqb (hf TO (by simp)),I.seq_ne hqb (hf i1 (by simp)),I.seq_ne hqb (hf i2 (by simp))⟩
  refine wpAny_pyNext_zip_end (I.ok.hd hc) ap hz hTI hTO h1 h2 p.isList p'.isList (hend.elim (λq=> .inl (by simp;omega)) (λq=> .inr (by simp;omega))) λh3 hk3=>⟨rfl,I.turnedL (t':=s.toks) (ch:=[z,TI,TO,i1,i2]) (λc o hc q=>?_) hf⟩;exact hk3 c o (λe=>hc (by rw [e];simp)) (λe=>hc (by rw [e];simp)) (λe=>hc (by rw [e];simp)) (λe=>hc (by rw [e];simp)) q
 self:=λ_ _ _ _ _ st h=>wpAny_pyIter_zip st.1 h
section
variable {X:Cx}{elts:List Expr}{x1:Nat}{tp:Pos}
def iZip (K:Fg)(ta:TA):TI:=λσ H R=>ta σ H λvs H1=>∃ a b,vs=[.ref a,.ref b]/\(∃ xs,SqL K H1 a xs)/\(∃ ys,SqL K H1 b ys)/\R (Itz K a b) H1
theorem Rt (hg:Gl X "zip")(hm:X.mg "zip"=none)(ha:PA X [a,b] ta)(hs:starEach [a,b] X.env=[(false,eval a X.env),(false,eval b X.env)]:=by rfl)(hs2:starEach [b] X.env=[(false,eval b X.env)]:=by rfl):PI X (.Tuple elts x1 tp) (.Call (.Name "zip" p) [a,b] [] pos) (iZip X.K ta):=by
 intro pins s σ H R I h;refine Call_ (zS I hg hm Dm (PyProof.Rows.callWith_type1 (v5 (ha pos pins s σ H _ I h) λus s1 ⟨vs,H1,I1,r1,q1⟩=>?_) (by rw [hs,hs2]) (by rw [hs2];rfl)));obtain ⟨a,b,e,⟨xs,hq⟩,⟨ys,hq'⟩,q⟩:=q1;subst e;cases r1 with
 |cons r rr =>
  cases rr with
  |cons r' rr =>
   cases rr;cases r;cases r';obtain ⟨its,rv,p,hz⟩:=I1.list hq;obtain ⟨jts,rw',p',_⟩:=I1.list hq';refine call_zip_2 p.isList p'.isList λh' g1 g2 g3 g4 g5 hsz hk=>?_;refine wpAny_pyIter_zip g1 ?_;refine ⟨s1.heap.objs.size+4,[s1.heap.objs.size+4,s1.heap.objs.size+2,s1.heap.objs.size+3,s1.heap.objs.size,s1.heap.objs.size+1],_,_,H1,rfl,I1.kept (t':=s1.toks) hk,SM a b _ _ _ _ _ ?_,⟨g1,g2,⟨_,_,g3⟩,g4,g5⟩,λc hc=>?_,q⟩
   ·simp only [yu,yM,not_or,ye,not_false_eq_true,ug,and_true];refine ⟨⟨?_,?_,?_,?_⟩,⟨?_,?_,?_⟩,⟨?_,?_⟩,?_⟩<;>(show ¬ (_:Nat)=_;omega)
   ·have hc':s1.heap.objs.size<=c:=by
     have hc2:c=s1.heap.objs.size+4∨c=s1.heap.objs.size+2∨c=s1.heap.objs.size+3∨c=s1.heap.objs.size∨c=s1.heap.objs.size+1:=by simpa using hc
     rcases hc2 with e|e|e|e|e<;>(rw [e];first|exact yU _|exact Nat.le_add_right _ _)
    exact I1.fpOk hc' (I1.hok.fresh hc')
end
section
variable {X:Cx}{K:Fg}
theorem JK (h:X.K=K):IxR X (rIxL K):=by subst h;exact ix_list
theorem Sj (h:X.K=K):SlR X (rSlL K):=by subst h;exact Si
theorem Gq (h:X.K=K):CallR X (.builtin "len") (λxs H Q=>∃ p ys,xs=[.ref p]/\(SqL K H p ys∨SqT K H p ys)/\Q (.int ys.length) H):=by subst h;exact Dx
theorem DG (hc:X.calm=true)(h:X.K=K):CallR X (.builtin "sum") (λxs H Q=>∃ (a:Addr) (ns:List Int),xs=[.ref a]/\SqL K H a (ns.map V.int)/\Q (.int ns.sum) H):=by subst h;exact Gr hc
theorem vI {es:List Expr}{k:Nat}{t:TGs}{n:Nat}(hc:X.calm=true)(hK:X.K=K)(h:PGs X es t)(hn:(assignEach es X.env).length=n:=by rfl)(hst:(assignEach es X.env).findIdx? (·.1)=none:=by rfl):PG X (.Tuple es k pos) (gTup K n t):=by subst hK;exact Rn hc h hn hst
theorem p0 {tg l:Expr}{tl:TE}(hK:X.K=K)(hl:PE X l tl):PI X tg l (Zc K tl):=by subst hK;exact Rp hl
theorem Vx (hK:X.K=K)(hg:Gl X "enumerate")(hm:X.mg "enumerate"=none)(ha:PA X [a] ta)(hs:starEach [a] X.env=[(false,eval a X.env)]:=by rfl):PI X (.Tuple elts x1 tp) (.Call (.Name "enumerate" p) [a] [] pos) (JE K ta):=by subst hK;exact Ro hg hm ha hs
theorem Vy (hK:X.K=K)(hg:Gl X "zip")(hm:X.mg "zip"=none)(ha:PA X [a,b] ta)(hs:starEach [a,b] X.env=[(false,eval a X.env),(false,eval b X.env)]:=by rfl)(hs2:starEach [b] X.env=[(false,eval b X.env)]:=by rfl):PI X (.Tuple elts x1 tp) (.Call (.Name "zip" p) [a,b] [] pos) (iZip K ta):=by subst hK;exact Rt hg hm ha hs hs2
end
section
variable {X:Cx}
theorem HQ:OpR X (compareOp .LtE) (λx y H Q=>∃ i j,x = .str i/\y = .str j/\Q (.bl (!decide (j.cps.toList<i.cps.toList))) H):=by intro pins s σ H x y v u Q I rx ry h;obtain ⟨i,j,rfl,rfl,q⟩:=h;obtain ⟨t,rfl⟩:=rx;obtain ⟨t',rfl⟩:=ry;exact PySem.P.le_str (XX I q rfl)
def ItS (z:Str):It:=⟨λi _=>i<z.cps.size,λi H x H'=>H'=H/\∃ c,z.cps[i]?=some c/\x = .str ⟨#[c]⟩,λi _=>i=z.cps.size⟩
theorem Cf (it:Addr)(ty:String)(z:Str)(t:Tok)(W:∀ A':Around,A'.handled=none->Walks P w A' it [it] [it] z.cps.size (SignAt z) (λi h=>h.IsStrIter it ty z t i))(sf:∀(A:Around)(i:Nat)(s:Shared)(Q:Value->Shared->Prop)(E:Value->Shared->Prop),s.heap.IsStrIter it ty z t i->Q (.ref it) s->wpAny (model P w) A (pyIter (.ref it)) Q E s):je P w K (.Name x px) (ItS z) [it] it (λi h=>h.IsStrIter it ty z t i) where
 mem:=by simp
 obj:=λi h st b hb=>by
  have e:b=it:=by simpa using hb
  subst e;obtain ⟨o,e,c,d⟩:=st;exact ⟨o,e,λv q=>by rw [d] at q;cases q⟩
 keep:=λi h h' st k=>by
  obtain ⟨o,e,r⟩:=st;exact ⟨o,k it (by simp) o e,r⟩
 item:=by intro X hP hw hK hc i pins s σ H E I hf st hg;subst hP hw hK;obtain ⟨f0,f1,f2,f3,f4,f5⟩:=hf it (by simp);refine (W X.A (I.ok.hd hc)).item i s _ _ hg st λv h' tk hv st' kk=>?_;obtain ⟨c,u,e1,rfl⟩:=hv;have I1:Inv X pins σ H { s with heap:=h',toks:=tk }:=I.turned (λb o hb e=>kk b o (by simpa using hb) e) f0 f1 f3 f4 f5;refine ⟨_,rfl,?_⟩;show wpAny _ _ (pure ()) _ _ _;exact yC ⟨.str ⟨#[c]⟩,H,I1,⟨u,rfl⟩,⟨rfl,c,e1,rfl⟩,st',λb hb=>(hf b hb).1⟩
 done:=by intro X hP hw hK hc i pins s σ H E I hf st hg;subst hP hw hK;obtain ⟨f0,f1,f2,f3,f4,f5⟩:=hf it (by simp);have hg':i=z.cps.size:=hg;subst hg';exact (W X.A (I.ok.hd hc)).done s _ _ st λh' tk kk=>⟨rfl,I.turned (λb o hb e=>kk b o (by simpa using hb) e) f0 f1 f3 f4 f5⟩
 self:=sf
def iStr (tl:TE):TI:=λσ H R=>tl σ H λx H1=>∃ z,x = .str z/\R (ItS z) H1
theorem Rr {l:Expr}{tl:TE}(hl:PE X l tl):PI X (.Name x px) l (iStr tl):=by
 intro pins s σ H R I h;refine v5 (hl pins s σ H _ I h) λv s1 ⟨x,H1,I1,r1,q1⟩=>?_;obtain ⟨z,e,q⟩:=q1;subst e;obtain ⟨t,rfl⟩:=r1;have fp:∀ b∈[s1.heap.objs.size],xf X pins H1 b:=λb hb=>by
  have e:b=s1.heap.objs.size:=by simpa using hb
  subst e;exact I1.fpOk (yU _) (I1.hok.fresh (yU _))
 cases ha:z.cps.all (·<128)
 ·refine wpAny_pyIter_wide ha ?_;exact ⟨s1.heap.objs.size,[s1.heap.objs.size],_,_,H1,rfl,I1.kept (t':=s1.toks) λb o e=>yV _ e,Cf _ "str_iterator" z t (λA' hA=>Walks.strWide hA _ z t) (λ_ _ _ _ _ st h=>wpAny_pyIter_striter_wide st h),⟨_,yD _ rfl,rfl,rfl⟩,fp,q⟩
 ·refine wpAny_pyIter_ascii ha ?_;exact ⟨s1.heap.objs.size,[s1.heap.objs.size],_,_,H1,rfl,I1.kept (t':=s1.toks) λb o e=>yV _ e,Cf _ "str_ascii_iterator" z t (λA' hA=>Walks.strAscii hA _ z t) (λ_ _ _ _ _ st h=>wpAny_pyIter_striter_ascii st h),⟨_,yD _ rfl,rfl,rfl⟩,fp,q⟩
end
section
variable {X:Cx}{K:Fg}
def BI (K:Fg):R2:=λx y H Q=>∃ l b xs zs,x = .ref l/\y = .ref b/\SqL K H l xs/\SqL K H b zs/\xs.length+zs.length<=sizeLine/\∀ p,H p=none->Q (.ref p) (j4 H p (.lst (xs++zs)))
theorem op_catL:OpR X (binaryOp .Add) (BI X.K):=by
 intro pins s σ H x y v u Q I rx ry h;obtain ⟨l,b,xs,zs,rfl,rfl,hH,hB,hz,q⟩:=h;cases rx;cases ry;obtain ⟨its,r,⟨⟨cls,dd,data,sl⟩,n,e,h1,h2,h3⟩,_⟩:=I.list hH;obtain ⟨its2,r2,⟨⟨cls2,dd2,data2,sl2⟩,n2,e2,k1,k2,k3⟩,_⟩:=I.list hB
 dsimp only at h1 h2 h3 k1 k2 k3
 subst h1 h2 h3 k1 k2 k3;have hl:=r.length;have hl2:=r2.length;have hsz:its.toArray.size+its2.toArray.size<=sizeLine:=by rw [yW,yW];omega
 refine concat_meets ⟨_,e,rfl⟩ ⟨_,e2,rfl⟩ noFill_list_add seq_list_add PySem.F.slot_list_add PySem.F.entry_list_add (PySem.F.args_list_add_2 _ _) (list_addW l b its.toArray its2.toArray n n2 none none sl sl2 hsz) ⟨e,e2,?_⟩;have ea:its.toArray++its2.toArray=(its++its2).toArray:=by simp
 rw [ea];exact ⟨.ref _,_,I.lnew (t':=s.toks) (r.append r2) (by rw [yQ];omega),rfl,q _ I.fresh⟩
end
section
variable {X:Cx}
def RF:V->List V->Hp->VK->Prop:=λx vs H Q=>∃(l:Addr)(xs:List V)(i:Int)(y:V),x = .ref l/\vs=[.int i,y]/\H l=some (.lst xs)/\0<=i/\i<=(xs.length:Int)/\xs.length<1000/\Q .non (j4 H l (.lst (xs.take i.toNat++y::xs.drop i.toNat)))
theorem Nj:MtM X "list.insert" RF:=by
 intro pins s σ H x vs v us Q I rx rv h;obtain ⟨l,xs,i,y,rfl,rfl,hH,h0,hi,hz,q⟩:=h;cases rx;obtain ⟨u,w',rfl,⟨t,rfl⟩,rw'⟩:=rv.two;obtain ⟨z,its,n,r,hl,e⟩:=I.lstM hH;have hfit:¬ (!Builtin.List.listFitsIndex i)=true:=by rw [fitsIndex_both (k:=i) (by omega) (by omega)];decide
 have hsz:its.toArray.size<=sizeLine:=by rw [yW,<- hl];exact z
 refine call_meets F.slot_list_insert ⟨_,e,rfl⟩ F.entry_list_insert (F.args_list_insert_3 _ _ _) (AutoSeq1.list_insert_list_int_val_1 l its.toArray n i t w' hfit hsz) ⟨e,?_⟩;refine ⟨.non,_,I.lset (its':=its.take i.toNat++w'::its.drop i.toNat) hH e ?_ ((r.take i.toNat).append (.cons rw' (r.drop i.toNat))) ?_,rfl,q⟩
 ·have e1:¬ (i<0):=by omega
  have e2:min i.toNat its.toArray.size=i.toNat:=by rw [yW];omega
  show (its.toArray.extract 0 (if i<0 then (i+(its.toArray.size:Int)).toNat else min i.toNat its.toArray.size)).push w'++its.toArray.extract (if i<0 then (i+(its.toArray.size:Int)).toNat else min i.toNat its.toArray.size)=_;rw [if_neg e1,e2];apply tR.mp;simp [List.extract_eq_take_drop]
  try exact List.take_of_length_le (by rw [uu];exact yU _)
 ·rw [yQ,yG,uO,uu];have:=wZ (n:=1000) (yU _);omega
end
end L2
namespace L2
open PySem PySem.Spec PyProof.Rows PySem.SeqAt
variable{x y:V}{A:Around}{s:Shared}{u v:Value}{l:Addr}{items:Array Value}{n:Nat}{b:Bool}{K:Fg}
def EqP (K:Fg)(H:Hp):Nat->V->V->Bool->Prop
 |0,x,y,b=>u8 x=true/\u8 y=true/\b=i5 x y
 |n+1,x,y,b=>(u8 x=true/\u8 y=true/\b=i5 x y) ∨
  (∃(a c:Addr)(xs ys:List V),x = .ref a/\y = .ref c/\SqL K H a xs/\SqL K H c ys/\((xs.length≠ys.length/\b=false)∨(xs.length=ys.length/\∃ e:Nat->Bool,(∀ j (h1:j<xs.length) (h2:j<ys.length),EqP K H n xs[j] ys[j] (e j))/\b=(List.range xs.length).all e))) ∨
  (∃(a c:Addr)(xs ys:List V),x = .ref a/\y = .ref c/\SqT K H a xs/\SqT K H c ys/\∃ e:Nat->Bool,(∀ j (h1:j<xs.length) (h2:j<ys.length),EqP K H n xs[j] ys[j] (e j))/\b=((List.range (min xs.length ys.length)).all e&&xs.length==ys.length)) ∨
  (∃(a c:Addr)(xs ys:List V),x = .ref a/\y = .ref c/\SqL K H a xs/\SqT K H c ys/\b=false) ∨
  (∃(a c:Addr)(xs ys:List V),x = .ref a/\y = .ref c/\SqT K H a xs/\SqL K H c ys/\b=false) ∨
  (∃(c:Addr)(ys:List V),u8 x=true/\y = .ref c/\(SqL K H c ys∨SqT K H c ys)/\b=false) ∨
  (∃(a:Addr)(xs:List V),u8 y=true/\x = .ref a/\(SqL K H a xs∨SqT K H a xs)/\b=false)
theorem XU (h:u8 x=true):i5 x x=true:=by cases x<;>first|rfl|exact beq_self_eq_true _|cases h
theorem BV (ry:RelV y u)(rx:RelV x v)(fy:u8 y=true)(fx:u8 x=true):RcAt A s u v (i5 y x):=by
 cases y with
 |non =>
  cases ry;cases x with
  |non=>cases rx;exact RcAt.none_none
  |bl b=>cases rx;exact RcAt.none_bool b
  |int b=>obtain ⟨t2,rfl⟩:=rx;exact RcAt.none_int b t2
  |str b=>obtain ⟨t2,rfl⟩:=rx;exact RcAt.none_str b t2
  |_=>exact absurd (show false=true from fx) yR
 |bl a =>
  cases ry;cases x with
  |non=>cases rx;exact RcAt.bool_none a
  |bl b=>cases rx;exact RcAt.bool_bool a b
  |int b=>obtain ⟨t2,rfl⟩:=rx;exact RcAt.bool_int a b t2
  |str b=>obtain ⟨t2,rfl⟩:=rx;exact RcAt.bool_str a b t2
  |_=>exact absurd (show false=true from fx) yR
 |int a =>
  obtain ⟨t1,rfl⟩:=ry;cases x with
  |non=>cases rx;exact RcAt.int_none a t1
  |bl b=>cases rx;exact RcAt.int_bool a t1 b
  |int b=>obtain ⟨t2,rfl⟩:=rx;exact RcAt.int_int a t1 b t2
  |str b=>obtain ⟨t2,rfl⟩:=rx;exact RcAt.int_str a t1 b t2
  |_=>exact absurd (show false=true from fx) yR
 |str a =>
  obtain ⟨t1,rfl⟩:=ry;cases x with
  |non=>cases rx;exact RcAt.str_none a t1
  |bl b=>cases rx;exact RcAt.str_bool a t1 b
  |int b=>obtain ⟨t2,rfl⟩:=rx;exact RcAt.str_int a t1 b t2
  |str b=>obtain ⟨t2,rfl⟩:=rx;exact RcAt.str_str a t1 b t2
  |_=>exact absurd (show false=true from fx) yR
 |_=>exact absurd (show false=true from fy) yR
theorem BW (ry:RelV y u)(rx:RelV x v)(fy:u8 y=true)(fx:u8 x=true):RcNeAt A s u v (!i5 y x):=by
 cases y with
 |non =>
  cases ry;cases x with
  |non=>cases rx;exact RcNeAt.none_none
  |bl b=>cases rx;exact RcNeAt.none_bool b
  |int b=>obtain ⟨t2,rfl⟩:=rx;exact RcNeAt.none_int b t2
  |str b=>obtain ⟨t2,rfl⟩:=rx;exact RcNeAt.none_str b t2
  |_=>exact absurd (show false=true from fx) yR
 |bl a =>
  cases ry;cases x with
  |non=>cases rx;exact RcNeAt.bool_none a
  |bl b=>cases rx;exact RcNeAt.bool_bool a b
  |int b=>obtain ⟨t2,rfl⟩:=rx;exact RcNeAt.bool_int a b t2
  |str b=>obtain ⟨t2,rfl⟩:=rx;exact RcNeAt.bool_str a b t2
  |_=>exact absurd (show false=true from fx) yR
 |int a =>
  obtain ⟨t1,rfl⟩:=ry;cases x with
  |non=>cases rx;exact RcNeAt.int_none a t1
  |bl b=>cases rx;exact RcNeAt.int_bool a t1 b
  |int b=>obtain ⟨t2,rfl⟩:=rx;exact RcNeAt.int_int a t1 b t2
  |str b=>obtain ⟨t2,rfl⟩:=rx;exact RcNeAt.int_str a t1 b t2
  |_=>exact absurd (show false=true from fx) yR
 |str a =>
  obtain ⟨t1,rfl⟩:=ry;cases x with
  |non=>cases rx;exact RcNeAt.str_none a t1
  |bl b=>cases rx;exact RcNeAt.str_bool a t1 b
  |int b=>obtain ⟨t2,rfl⟩:=rx;exact RcNeAt.str_int a t1 b t2
  |str b=>obtain ⟨t2,rfl⟩:=rx;exact RcNeAt.str_str a t1 b t2
  |_=>exact absurd (show false=true from fx) yR
 |_=>exact absurd (show false=true from fy) yR
theorem Md (hl:s.heap.IsList l items)(hu:A.units<cLine)(ry:RelV y u)(fy:u8 y=true):EqAt A s u (.ref l) false:=by
 cases y with
 |non=>cases ry;exact EqAt.none_list hl hu
 |bl a=>cases ry;exact EqAt.bool_list a hl hu
 |int a=>obtain ⟨t1,rfl⟩:=ry;exact EqAt.int_list a t1 hl hu
 |str a=>obtain ⟨t1,rfl⟩:=ry;exact EqAt.str_list a t1 hl hu
 |_=>exact absurd (show false=true from fy) yR
theorem Mf (hl:s.heap.IsList l items)(hu:A.units<cLine)(ry:RelV y u)(fy:u8 y=true):EqAt A s (.ref l) u false:=by
 cases y with
 |non=>cases ry;exact EqAt.list_none hl hu
 |bl a=>cases ry;exact EqAt.list_bool a hl hu
 |int a=>obtain ⟨t1,rfl⟩:=ry;exact EqAt.list_int a t1 hl hu
 |str a=>obtain ⟨t1,rfl⟩:=ry;exact EqAt.list_str a t1 hl hu
 |_=>exact absurd (show false=true from fy) yR
theorem Me (hl:s.heap.IsTuple l items)(hu:A.units<cLine)(ry:RelV y u)(fy:u8 y=true):EqAt A s u (.ref l) false:=by
 cases y with
 |non=>cases ry;exact EqAt.none_tuple hl hu
 |bl a=>cases ry;exact EqAt.bool_tuple a hl hu
 |int a=>obtain ⟨t1,rfl⟩:=ry;exact EqAt.int_tuple a t1 hl hu
 |str a=>obtain ⟨t1,rfl⟩:=ry;exact EqAt.str_tuple a t1 hl hu
 |_=>exact absurd (show false=true from fy) yR
theorem Mg (hl:s.heap.IsTuple l items)(hu:A.units<cLine)(ry:RelV y u)(fy:u8 y=true):EqAt A s (.ref l) u false:=by
 cases y with
 |non=>cases ry;exact EqAt.tuple_none hl hu
 |bl a=>cases ry;exact EqAt.tuple_bool a hl hu
 |int a=>obtain ⟨t1,rfl⟩:=ry;exact EqAt.tuple_int a t1 hl hu
 |str a=>obtain ⟨t1,rfl⟩:=ry;exact EqAt.tuple_str a t1 hl hu
 |_=>exact absurd (show false=true from fy) yR
theorem RH (hl:s.heap.IsList l items)(hu:A.units<cLine)(ry:RelV y u)(fy:u8 y=true):RcAt A s u (.ref l) false:=by
 cases y with
 |non=>cases ry;exact RcAt.none_list hl hu
 |bl a=>cases ry;exact RcAt.bool_list a hl hu
 |int a=>obtain ⟨t1,rfl⟩:=ry;exact RcAt.int_list a t1 hl hu
 |str a=>obtain ⟨t1,rfl⟩:=ry;exact RcAt.str_list a t1 hl hu
 |_=>exact absurd (show false=true from fy) yR
theorem RJ (hl:s.heap.IsList l items)(hu:A.units<cLine)(ry:RelV y u)(fy:u8 y=true):RcAt A s (.ref l) u false:=by
 cases y with
 |non=>cases ry;exact RcAt.list_none hl hu
 |bl a=>cases ry;exact RcAt.list_bool a hl hu
 |int a=>obtain ⟨t1,rfl⟩:=ry;exact RcAt.list_int a t1 hl hu
 |str a=>obtain ⟨t1,rfl⟩:=ry;exact RcAt.list_str a t1 hl hu
 |_=>exact absurd (show false=true from fy) yR
theorem RI (hl:s.heap.IsTuple l items)(hu:A.units<cLine)(ry:RelV y u)(fy:u8 y=true):RcAt A s u (.ref l) false:=by
 cases y with
 |non=>cases ry;exact RcAt.none_tuple hl hu
 |bl a=>cases ry;exact RcAt.bool_tuple a hl hu
 |int a=>obtain ⟨t1,rfl⟩:=ry;exact RcAt.int_tuple a t1 hl hu
 |str a=>obtain ⟨t1,rfl⟩:=ry;exact RcAt.str_tuple a t1 hl hu
 |_=>exact absurd (show false=true from fy) yR
theorem RK (hl:s.heap.IsTuple l items)(hu:A.units<cLine)(ry:RelV y u)(fy:u8 y=true):RcAt A s (.ref l) u false:=by
 cases y with
 |non=>cases ry;exact RcAt.tuple_none hl hu
 |bl a=>cases ry;exact RcAt.tuple_bool a hl hu
 |int a=>obtain ⟨t1,rfl⟩:=ry;exact RcAt.tuple_int a t1 hl hu
 |str a=>obtain ⟨t1,rfl⟩:=ry;exact RcAt.tuple_str a t1 hl hu
 |_=>exact absurd (show false=true from fy) yR
theorem RL (hl:s.heap.IsList l items)(hu:A.units<cLine)(ry:RelV y u)(fy:u8 y=true):RcNeAt A s u (.ref l) true:=by
 cases y with
 |non=>cases ry;exact RcNeAt.none_list hl hu
 |bl a=>cases ry;exact RcNeAt.bool_list a hl hu
 |int a=>obtain ⟨t1,rfl⟩:=ry;exact RcNeAt.int_list a t1 hl hu
 |str a=>obtain ⟨t1,rfl⟩:=ry;exact RcNeAt.str_list a t1 hl hu
 |_=>exact absurd (show false=true from fy) yR
theorem RN (hl:s.heap.IsList l items)(hu:A.units<cLine)(ry:RelV y u)(fy:u8 y=true):RcNeAt A s (.ref l) u true:=by
 cases y with
 |non=>cases ry;exact RcNeAt.list_none hl hu
 |bl a=>cases ry;exact RcNeAt.list_bool a hl hu
 |int a=>obtain ⟨t1,rfl⟩:=ry;exact RcNeAt.list_int a t1 hl hu
 |str a=>obtain ⟨t1,rfl⟩:=ry;exact RcNeAt.list_str a t1 hl hu
 |_=>exact absurd (show false=true from fy) yR
theorem RM (hl:s.heap.IsTuple l items)(hu:A.units<cLine)(ry:RelV y u)(fy:u8 y=true):RcNeAt A s u (.ref l) true:=by
 cases y with
 |non=>cases ry;exact RcNeAt.none_tuple hl hu
 |bl a=>cases ry;exact RcNeAt.bool_tuple a hl hu
 |int a=>obtain ⟨t1,rfl⟩:=ry;exact RcNeAt.int_tuple a t1 hl hu
 |str a=>obtain ⟨t1,rfl⟩:=ry;exact RcNeAt.str_tuple a t1 hl hu
 |_=>exact absurd (show false=true from fy) yR
theorem RO (hl:s.heap.IsTuple l items)(hu:A.units<cLine)(ry:RelV y u)(fy:u8 y=true):RcNeAt A s (.ref l) u true:=by
 cases y with
 |non=>cases ry;exact RcNeAt.tuple_none hl hu
 |bl a=>cases ry;exact RcNeAt.tuple_bool a hl hu
 |int a=>obtain ⟨t1,rfl⟩:=ry;exact RcNeAt.tuple_int a t1 hl hu
 |str a=>obtain ⟨t1,rfl⟩:=ry;exact RcNeAt.tuple_str a t1 hl hu
 |_=>exact absurd (show false=true from fy) yR
section
variable {X:Cx}{pins:List (Addr×Obj)}{σ:St}{H:Hp}{s:Shared}
theorem XT (I:Inv X pins σ H s):∀(n:Nat){x:V}{b:Bool},EqP X.K H n x x b->b=true
 |0,x,b,h=>by obtain ⟨h1,_,rfl⟩:=h;exact XU h1
 |n+1,x,b,h=>by
  rcases h with ⟨h1,_,rfl⟩|⟨a,c,xs,ys,rfl,e2,p1,p2,h⟩|⟨a,c,xs,ys,rfl,e2,p1,p2,e,he,rfl⟩|⟨a,c,xs,ys,rfl,e2,p1,p2,_⟩|⟨a,c,xs,ys,rfl,e2,p1,p2,_⟩|⟨c,ys,f,rfl,_⟩|⟨c,ys,f,rfl,_⟩
  ·exact XU h1
  ·cases e2;cases I.list_inj p1 p2;rcases h with ⟨h,_⟩|⟨_,e,he,rfl⟩
   ·exact absurd rfl h
   ·rw [uM];exact λj hj=>XT I n (he j (yi.mp hj) (yi.mp hj))
  ·cases e2;cases I.tuple_inj p1 p2;rw [Nat.min_self,beq_self_eq_true,Bool.and_true,uM];exact λj hj=>XT I n (he j (yi.mp hj) (yi.mp hj))
  ·cases e2;obtain ⟨_,_,⟨o1,_,q1,c1,_⟩,_⟩:=I.list p1;obtain ⟨_,_,⟨o2,q2,c2,_⟩,_⟩:=I.tuple p2;rw [q1] at q2;cases q2;rw [c1] at c2;exact absurd c2 (by decide)
  ·cases e2;obtain ⟨_,_,⟨o2,q2,c2,_⟩,_⟩:=I.tuple p1;obtain ⟨_,_,⟨o1,_,q1,c1,_⟩,_⟩:=I.list p2;rw [q1] at q2;cases q2;rw [c1] at c2;exact absurd c2 (by decide)
  ·cases f
  ·cases f
theorem wq (I:Inv X pins σ H s):∀(n:Nat)(A:Around){x y:V}{u v:Value}{b:Bool},A.units+n<cLine->EqP X.K H n x y b->RelV x u->RelV y v->EqAt A s u v b
 |0,A,x,y,u,v,b,hu,h,r1,r2=>by obtain ⟨h1,h2,rfl⟩:=h;exact Jq r1 r2 h1 h2
 |n+1,A,x,y,u,v,b,hu,h,r1,r2=>by
  have h':=h;rcases h with ⟨h1,h2,rfl⟩|⟨a,c,xs,ys,rfl,rfl,p1,p2,h⟩|⟨a,c,xs,ys,rfl,rfl,p1,p2,e,he,rfl⟩|⟨a,c,xs,ys,rfl,rfl,p1,p2,rfl⟩|⟨a,c,xs,ys,rfl,rfl,p1,p2,rfl⟩|⟨c,ys,f,rfl,p,rfl⟩|⟨c,ys,f,rfl,p,rfl⟩
  ·exact Jq r1 r2 h1 h2
  ·cases r1;cases r2;by_cases hac:a=c
   ·subst hac;have hb:=XT I (n+1) h';rw [hb];exact EqAt.same _
   obtain ⟨us,v1,q1,_⟩:=I.list p1;obtain ⟨ws,v2,q2,_⟩:=I.list p2;have l1:=v1.length;have l2:=v2.length;refine EqAt.of_refs hac ?_;rcases h with ⟨h,rfl⟩|⟨hl,e,he,rfl⟩
   ·exact RcAt.lists_lengths q1.isList q2.isList (by rw [yW,yW];simp;omega) (by omega)
   ·have q:=RcAt.lists (A:=A) (s:=s) q1.isList q2.isList (by rw [yW,yW];omega) (by omega) (e:=e) (λj j1 j2=>?_)
    ·rw [yW,<- l1] at q;exact q
    ·have j1':j<us.length:=by simpa using j1
     have j2':j<ws.length:=by simpa using j2
     rw [ya,ya];exact wq I n A.in1 (by show A.units+1+n<cLine;omega) (he j (by omega) (by omega)) (xX v1 j (by omega) j1') (xX v2 j (by omega) j2')
  ·cases r1;cases r2;by_cases hac:a=c
   ·subst hac;have hb:=XT I (n+1) h';rw [hb];exact EqAt.same _
   obtain ⟨us,v1,q1,_⟩:=I.tuple p1;obtain ⟨ws,v2,q2,_⟩:=I.tuple p2;have l1:=v1.length;have l2:=v2.length;refine EqAt.of_refs hac ?_;have q:=RcAt.tuples (A:=A) (s:=s) q1 q2 (by omega) (e:=e) (λj j1 j2=>?_)
   ·rw [yW,yW,<- l1,<- l2] at q;exact q
   ·have j1':j<us.length:=by simpa using j1
    have j2':j<ws.length:=by simpa using j2
    rw [ya,ya];exact wq I n A.in1 (by show A.units+1+n<cLine;omega) (he j (by omega) (by omega)) (xX v1 j (by omega) j1') (xX v2 j (by omega) j2')
  ·cases r1;cases r2;obtain ⟨us,v1,q1,_⟩:=I.list p1;obtain ⟨ws,v2,q2,_⟩:=I.tuple p2;exact EqAt.list_tuple q1.isList q2 (by omega)
  ·cases r1;cases r2;obtain ⟨us,v1,q1,_⟩:=I.tuple p1;obtain ⟨ws,v2,q2,_⟩:=I.list p2;exact EqAt.tuple_list q1 q2.isList (by omega)
  ·cases r2;rcases p with p|p
   ·obtain ⟨us,v1,q1,_⟩:=I.list p;exact Md q1.isList (by omega) r1 f
   ·obtain ⟨us,v1,q1,_⟩:=I.tuple p;exact Me q1 (by omega) r1 f
  ·cases r1;rcases p with p|p
   ·obtain ⟨us,v1,q1,_⟩:=I.list p;exact Mf q1.isList (by omega) r2 f
   ·obtain ⟨us,v1,q1,_⟩:=I.tuple p;exact Mg q1 (by omega) r2 f
theorem rc_at (I:Inv X pins σ H s)(hu:A.units+n<cLine)(h:EqP X.K H n x y b)(r1:RelV x u)(r2:RelV y v):RcAt A s u v b:=by
 cases n with
 |zero=>obtain ⟨h1,h2,rfl⟩:=h;exact BV r1 r2 h1 h2
 |succ n =>
  rcases h with ⟨h1,h2,rfl⟩|⟨a,c,xs,ys,rfl,rfl,p1,p2,h⟩|⟨a,c,xs,ys,rfl,rfl,p1,p2,e,he,rfl⟩|⟨a,c,xs,ys,rfl,rfl,p1,p2,rfl⟩|⟨a,c,xs,ys,rfl,rfl,p1,p2,rfl⟩|⟨c,ys,f,rfl,p,rfl⟩|⟨c,ys,f,rfl,p,rfl⟩
  ·exact BV r1 r2 h1 h2
  ·cases r1;cases r2;obtain ⟨us,v1,q1,_⟩:=I.list p1;obtain ⟨ws,v2,q2,_⟩:=I.list p2;have l1:=v1.length;have l2:=v2.length;rcases h with ⟨h,rfl⟩|⟨hl,e,he,rfl⟩
   ·exact RcAt.lists_lengths q1.isList q2.isList (by rw [yW,yW];simp;omega) (by omega)
   ·have q:=RcAt.lists (A:=A) (s:=s) q1.isList q2.isList (by rw [yW,yW];omega) (by omega) (e:=e) (λj j1 j2=>?_)
    ·rw [yW,<- l1] at q;exact q
    ·have j1':j<us.length:=by simpa using j1
     have j2':j<ws.length:=by simpa using j2
     rw [ya,ya];exact wq I n A.in1 (by show A.units+1+n<cLine;omega) (he j (by omega) (by omega)) (xX v1 j (by omega) j1') (xX v2 j (by omega) j2')
  ·cases r1;cases r2;obtain ⟨us,v1,q1,_⟩:=I.tuple p1;obtain ⟨ws,v2,q2,_⟩:=I.tuple p2;have l1:=v1.length;have l2:=v2.length;have q:=RcAt.tuples (A:=A) (s:=s) q1 q2 (by omega) (e:=e) (λj j1 j2=>?_)
   ·rw [yW,yW,<- l1,<- l2] at q;exact q
   ·have j1':j<us.length:=by simpa using j1
    have j2':j<ws.length:=by simpa using j2
    rw [ya,ya];exact wq I n A.in1 (by show A.units+1+n<cLine;omega) (he j (by omega) (by omega)) (xX v1 j (by omega) j1') (xX v2 j (by omega) j2')
  ·cases r1;cases r2;obtain ⟨us,v1,q1,_⟩:=I.list p1;obtain ⟨ws,v2,q2,_⟩:=I.tuple p2;exact RcAt.list_tuple q1.isList q2 (by omega)
  ·cases r1;cases r2;obtain ⟨us,v1,q1,_⟩:=I.tuple p1;obtain ⟨ws,v2,q2,_⟩:=I.list p2;exact RcAt.tuple_list q1 q2.isList (by omega)
  ·cases r2;rcases p with p|p
   ·obtain ⟨us,v1,q1,_⟩:=I.list p;exact RH q1.isList (by omega) r1 f
   ·obtain ⟨us,v1,q1,_⟩:=I.tuple p;exact RI q1 (by omega) r1 f
  ·cases r1;rcases p with p|p
   ·obtain ⟨us,v1,q1,_⟩:=I.list p;exact RJ q1.isList (by omega) r2 f
   ·obtain ⟨us,v1,q1,_⟩:=I.tuple p;exact RK q1 (by omega) r2 f
theorem RP (I:Inv X pins σ H s)(hu:A.units+n<cLine)(h:EqP X.K H n x y b)(r1:RelV x u)(r2:RelV y v):RcNeAt A s u v (!b):=by
 cases n with
 |zero=>obtain ⟨h1,h2,rfl⟩:=h;exact BW r1 r2 h1 h2
 |succ n =>
  rcases h with ⟨h1,h2,rfl⟩|⟨a,c,xs,ys,rfl,rfl,p1,p2,h⟩|⟨a,c,xs,ys,rfl,rfl,p1,p2,e,he,rfl⟩|⟨a,c,xs,ys,rfl,rfl,p1,p2,rfl⟩|⟨a,c,xs,ys,rfl,rfl,p1,p2,rfl⟩|⟨c,ys,f,rfl,p,rfl⟩|⟨c,ys,f,rfl,p,rfl⟩
  ·exact BW r1 r2 h1 h2
  ·cases r1;cases r2;obtain ⟨us,v1,q1,_⟩:=I.list p1;obtain ⟨ws,v2,q2,_⟩:=I.list p2;have l1:=v1.length;have l2:=v2.length;rcases h with ⟨h,rfl⟩|⟨hl,e,he,rfl⟩
   ·exact RcNeAt.lists_lengths q1.isList q2.isList (by rw [yW,yW];simp;omega) (by omega)
   ·have q:=RcNeAt.lists (A:=A) (s:=s) q1.isList q2.isList (by rw [yW,yW];omega) (by omega) (e:=e) (λj j1 j2=>?_)
    ·rw [yW,<- l1] at q;exact q
    ·have j1':j<us.length:=by simpa using j1
     have j2':j<ws.length:=by simpa using j2
     rw [ya,ya];exact wq I n A.in1 (by show A.units+1+n<cLine;omega) (he j (by omega) (by omega)) (xX v1 j (by omega) j1') (xX v2 j (by omega) j2')
  ·cases r1;cases r2;obtain ⟨us,v1,q1,_⟩:=I.tuple p1;obtain ⟨ws,v2,q2,_⟩:=I.tuple p2;have l1:=v1.length;have l2:=v2.length;have q:=RcNeAt.tuples (A:=A) (s:=s) q1 q2 (by omega) (e:=e) (λj j1 j2=>?_)
   ·rw [yW,yW,<- l1,<- l2] at q;exact q
   ·have j1':j<us.length:=by simpa using j1
    have j2':j<ws.length:=by simpa using j2
    rw [ya,ya];exact wq I n A.in1 (by show A.units+1+n<cLine;omega) (he j (by omega) (by omega)) (xX v1 j (by omega) j1') (xX v2 j (by omega) j2')
  ·cases r1;cases r2;obtain ⟨us,v1,q1,_⟩:=I.list p1;obtain ⟨ws,v2,q2,_⟩:=I.tuple p2;exact RcNeAt.list_tuple q1.isList q2 (by omega)
  ·cases r1;cases r2;obtain ⟨us,v1,q1,_⟩:=I.tuple p1;obtain ⟨ws,v2,q2,_⟩:=I.list p2;exact RcNeAt.tuple_list q1 q2.isList (by omega)
  ·cases r2;rcases p with p|p
   ·obtain ⟨us,v1,q1,_⟩:=I.list p;exact RL q1.isList (by omega) r1 f
   ·obtain ⟨us,v1,q1,_⟩:=I.tuple p;exact RM q1 (by omega) r1 f
  ·cases r1;rcases p with p|p
   ·obtain ⟨us,v1,q1,_⟩:=I.list p;exact RN q1.isList (by omega) r2 f
   ·obtain ⟨us,v1,q1,_⟩:=I.tuple p;exact RO q1 (by omega) r2 f
def rEqD (K:Fg)(n:Nat)(neg:Bool):R2:=λx y H Q=>∃ b,EqP K H n x y b/\Q (.bl (if neg then !b else b)) H
theorem xW (hu:X.A.units+n<cLine)(hK:X.K=K):OpR X (compareOp .Eq) (rEqD K n false):=by subst hK;intro pins s σ H x y v u Q I rx ry h;obtain ⟨b,h,q⟩:=h;exact rc_at I hu h rx ry X.prog X.w X.xe _ ⟨.bl b,H,I,rfl,q⟩
theorem zy (hu:X.A.units+n<cLine)(hK:X.K=K):OpR X (compareOp .NotEq) (rEqD K n true):=by subst hK;intro pins s σ H x y v u Q I rx ry h;obtain ⟨b,h,q⟩:=h;exact RP I hu h rx ry X.prog X.w X.xe _ ⟨.bl (!b),H,I,rfl,q⟩
theorem ql {k:Nat}(hr:Room k A):A.units+6<cLine:=by have:=hr.units;omega
end
end L2
namespace L2
open PySem PySem.Spec PyProof.Rows
section
variable {X:Cx}{K:Fg}
def rAddS:R2:=λx y H Q=>∃ i j,x = .str i/\y = .str j/\i.length+j.length<=sizeLine/\Q (.str (i++j)) H
def VI (K:Fg):R2:=λx y H Q=>(rI0 λi j=> .int (i+j)) x y H Q∨rAddS x y H Q∨BI K x y H Q∨BJ K x y H Q
theorem xa (h:X.K=K):OpR X (binaryOp .Add) (VI K):=by subst h;exact op_add.or (op_add_str.or (op_catL.or HM))
theorem Lq (h:X.K=K):IxR X (rIx K):=by subst h;exact Lp
def jr (K:Fg):List V->Hp->VK->Prop:=λxs H Q=>(∃ x n,xs=[x]/\LenV K x H n/\Q (.int n) H)∨∃ a kvs,xs=[V.ref a]/\H a=some (.dK kvs)/\Q (.int kvs.length) H
theorem qc (h:X.K=K):CallR X (.builtin "len") (jr K):=by subst h;exact CallR.or (f:= .builtin "len") Dt Du
theorem RB {a:Expr}{ta:TE}(h:X.K=K)(ha:PE X a ta)(he:∀ whole,isTrue a X.env whole=(do let v <- whole;standAt a.pos;holding [v] (truthy v))):PT X a (λσ H Q=>ta σ H λx H'=>∃ k,TruV K x H' k/\Q k H'):=by subst h;exact RC ha he
theorem Vn (h:X.K=K):OpR X (compareOp .In) (rIn K false):=by subst h;exact HN
theorem HV (h:X.K=K):OpR X (compareOp .NotIn) (rIn K true):=by subst h;exact HU
def BN (K:Fg):List V->Hp->VK->Prop:=λxs H Q=>∃ p ys,xs=[.ref p]/\(SqL K H p ys∨SqT K H p ys)/\∀ l,H l=none->Q (.ref l) (j4 H l (.lst ys))
theorem Qp (h:X.K=K):CallR X (.type "list") (BN K):=by subst h;exact Dy
def rIsi (K:Fg):List V->Hp->VK->Prop:=λxs H Q=>∃ x n T b,xs=[x,.ty n]/\xp K H x (.type T)/\tyB T n=some b/\Q (.bl b) H
theorem xC (h:X.K=K):CallR X (.builtin "isinstance") (rIsi K):=by subst h;exact Ds
def BH (K:Fg):List V->Hp->VK->Prop:=λxs H Q=>∃(a:Addr)(bs:List Bool),xs=[.ref a]/\SqL K H a (bs.map V.bl)/\Q (.bl (bs.all id)) H
theorem vf (hc:X.calm=true)(h:X.K=K):CallR X (.builtin "all") (BH K):=by subst h;exact Dp hc
def BU (K:Fg):List V->Hp->VK->Prop:=λxs H Q=>∃(a:Addr)(ns:List Int),xs=[.ref a]/\SqL K H a (ns.map V.int)/\Q (.int ns.sum) H
theorem DH (hc:X.calm=true)(h:X.K=K):CallR X (.builtin "sum") (BU K):=by subst h;exact Gr hc
def rMin2:List V->Hp->VK->Prop:=λxs H Q=>∃ i j,xs=[.int i,.int j]/\Q (.int (if j<i then j else i)) H
theorem DA (hc:X.calm=true):CallR X (.builtin "min") rMin2:=Dz hc
def rIsN:R2:=λx y H Q=>y = .non/\Q (.bl (decide (x = .non))) H
def BP:R2:=λx y H Q=>y = .non/\Q (.bl (!decide (x = .non))) H
theorem ZC:OpR X (compareOp .Is) rIsN:=HP
theorem Bp:OpR X (compareOp .IsNot) BP:=HW
theorem Gp:bootBuiltins "tuple"=some (.type "tuple"):=by decide +kernel
theorem Dj:bootBuiltins "max"=some (.builtin "max"):=by decide +kernel
theorem Gn:bootBuiltins "sorted"=some (.builtin "sorted"):=by decide +kernel
theorem Qn:bootBuiltins "dict"=some (.type "dict"):=by decide +kernel
theorem Ia:tyB "tuple" "tuple"=some true:=by decide +kernel
end
section
variable {X:Cx}{K:Fg}{o e:Expr}{es:List Expr}{to:TE}{t:TA}{name:Str}{apos cpos:Pos}{T id:String}{r:V->List V->Hp->VK->Prop}
theorem zA (hK:X.K=K)(pa:PlainAttrs T)(slot:Slot T name id)(hty:typeOf (.builtin id)=pure (.type "method_descriptor"))(hm:MtR X id r)(ho:PE X o to)(ha:PA X (e::es) t)(hbase:attributeBase o name X.env (eval o X.env)=eval o X.env:=by rfl)(hfew:((backTo cpos (starEach (e::es) X.env)).all (λx=>!x.1)&&(backToKw cpos (keywordEach [] X.env)).all (λx=>x.1.isSome)&&decide ((e::es).length+([]:List Keyword).length+(if ([]:List Keyword).isEmpty then 0 else 1)<30))=true:=by rfl)(hline:(apos.endLine==cpos.line)=true:=by rfl)(hs:starEach (e::es) X.env=(false,eval e X.env)::starEach es X.env:=by rfl)(hplain:(backTo cpos (starEach es X.env)).any (·.1)=false:=by rfl):PE X (.Call (.Attribute o name apos) (e::es) [] cpos) (tBM K T r to t):=by subst hK;exact pe_bm pa slot hty hm ho ha hbase hfew hline hs hplain
end
end L2
namespace L2
open PySem PySem.Spec PySem.Calls
variable{h:Heap}{a:Addr}{n:Nat}{A:Around}
section
variable {P:Program}{w:World}{κ:Type}[DecidableEq κ]{knd:PySem.KeyKind P w κ}
def r6 (val:Nat->κ):Nat->List κ
 |0=>[]
 |i+1=>if val i∈r6 val i then r6 val i else r6 val i++[val i]
theorem Pn (val:Nat->κ):∀ i,(r6 val i).length<=i
 |0=>yU _
 |i+1=>by
  have ih:=Pn val i;unfold r6;split
  ·omega
  ·rw [yQ,List.length_singleton];omega
theorem Pq {S S':κ->Bool}{n':Nat}(x:h.SetOf knd a S n)(e:∀ k,S k=S' k)(en:n=n'):h.SetOf knd a S' n':=by cases (funext e:S=S');cases en;exact x
theorem Yg {h':Heap}{S:κ->Bool}(x:h.SetOf knd a S n)(e:∀ o,h.get? a=some o->h'.get? a=some o):h'.SetOf knd a S n:=by obtain ⟨o,es,ep,t,ho,r⟩:=x;exact ⟨o,es,ep,t,e _ ho,r⟩
theorem Sg {R:Result->Shared->Prop}{I:Addr}{fp wr:List Addr}{G:Array GenState->Array GenState->Prop}{Pp:Nat->Value->Prop}{St:Nat->Shared->Prop}(W:WalksS P w A.in1 I fp wr G n Pp St)(a:Addr)(ha:a∉fp)(val:Nat->κ)(hv:∀ i v,Pp i v->knd.is (val i) v=true/\v.scannable=true)(hb:n+1<scanBound):∀ (m i:Nat) (s:Shared),n-i=m->i<=n->St i s->s.heap.SetOf knd a (λx=>decide (x∈r6 val i)) (r6 val i).length -> (∀ s',Moved (a::wr) G s s'->s'.heap.SetOf knd a (λx=>decide (x∈r6 val n)) (r6 val n).length->R (.ok (.ret .none)) s') -> codeAny (model P w) A (.builtin "set.update.loop" ⟨[.ref a,.ref I],[]⟩) R s:=by
 have haw:a∉wr:=λz=>ha (W.sub _ z);have up:∀ b∈wr,b∈a::wr:=λb z=>yS _ z;intro m
 induction m with
 |zero =>
  intro i s hm hi st hS hR;obtain rfl:i=n:=by omega
  refine codeAny_builtin PyProof.Rows.F.entry_set_update_loop ?_;rw [Around.under_plainId PyProof.Rows.F.plain_set_update_loop _];show wpAny _ A.in1 (pyNext (.ref I) >>= _) _ _ s;refine yX (W.done s _ _ st λs' mv=>?_);show wpAny _ A.in1 (ret Value.none) _ _ s';exact yC (hR s' (mv.mono up) (Yg hS λo e=>mv.heap a o haw e))
 |succ m ih =>
  intro i s hm hi st hS hR;have hlt:i<n:=by omega
  refine codeAny_builtin PyProof.Rows.F.entry_set_update_loop ?_;rw [Around.under_plainId PyProof.Rows.F.plain_set_update_loop _];show wpAny _ A.in1 (pyNext (.ref I) >>= _) _ _ s;refine yX (W.item i s _ _ hlt st λv s' hP st' mv=>?_);obtain ⟨hk,hsc⟩:=hv i v hP;have hS':s'.heap.SetOf knd a (λx=>decide (x∈r6 val i)) (r6 val i).length:=Yg hS λo e=>mv.heap a o haw e;show wpAny _ A.in1 (holding [v] (setAdd a v) >>= _) _ _ s';refine yX (wpAny_holding ?_);unfold setAdd;refine wpAny_holding (yX (knd.pyHash (k:=val i) hk ?_));have room:(r6 val i).length+1<scanBound:=by have:=Pn val i;omega
  refine wpAny_setAddHashed_of (knd:=knd) (s:={ s' with toks:=s'.toks+1 }) hk hsc hS' room λh' sb hS2=>?_;have hSi:h'.SetOf knd a (λx=>decide (x∈r6 val (i+1))) (r6 val (i+1)).length:=by
   refine Pq hS2 (λx=>?_) ?_
   ·by_cases hc:val i∈r6 val i
    ·rw [show r6 val (i+1)=r6 val i from if_pos hc];by_cases hx:x=val i
     ·subst hx;simp [hc]
     ·simp [hx]
    ·rw [show r6 val (i+1)=r6 val i++[val i] from if_neg hc];simp
   ·by_cases hc:val i∈r6 val i
    ·rw [show r6 val (i+1)=r6 val i from if_pos hc];simp [hc]
    ·rw [show r6 val (i+1)=r6 val i++[val i] from if_neg hc];simp [hc]
  refine yC ⟨plainId_quiet PyProof.Rows.F.plain_set_update_loop _,ih (i+1) _ (by omega) hlt (W.frame _ s' _ _ st' (ui _) λb z o e=>?_) hSi λs2 mv2 hS3=>?_⟩
  ·rw [sb.2 b (λq:b=a=>ha (by rw [<- q];exact z))];exact e
  ·refine hR s2 (Moved.trans W.gtrans ((mv.mono up).then_heap (ui _) λb o z e=>?_) mv2) hS3;rw [sb.2 b (λq:b=a=>z (by rw [q];exact yT))];exact e
theorem DD {E:Value->Shared->Prop}{s:Shared}{l:Addr}{its:Array Value}{val:Nat->κ}{Q:Value->Shared->Prop}(hh:A.handled=none)(hl:s.heap.IsList l its)(hv:∀ (i:Nat) (v:Value),its[i]?=some v->knd.is (val i) v=true/\v.scannable=true)(hb:its.size+1<scanBound)(h:∀ (h':Heap) (tk:Nat),h'.SetOf knd s.heap.objs.size (λx=>decide (x∈r6 val its.size)) (r6 val its.size).length -> (∀ b o,s.heap.get? b=some o->h'.get? b=some o)->Q (.ref s.heap.objs.size) { s with heap:=h',toks:=tk }):wpAny (model P w) A (call (.type "set") [.ref l]) Q E s:=by
 obtain ⟨c,tl,hmro⟩:=PySem.F.called_set.mro;have hmade:=PySem.F.called_set.made;have hsub:=PySem.F.called_set.sub;refine wpAny_call (codeAny_of_tree ?_);show wpAny _ _ (callAny (.type "set") _) _ _ _;refine yC ⟨Code.quiet_builtin _ (by decide +kernel),codeAny_builtin PySem.F.entry_type_call ?_⟩;rw [Around.under_plain (weight_type_call_type "set" [.ref l] []) rfl];have q1:=PySem.F.called_set.notType;have q2:=PySem.F.called_set.canCreate;have q3:=PySem.F.typeCall_set_1 (.ref l)
 (repeat (any_goals (first|assumption|wp_step)))
 refine codeAny_mono (code_set_new_1 (.ref l) (E:=E) (Q₁:=λob s1=>∃ led:Bool,ob = .ref s.heap.objs.size/\s1={ s with heap:=s.heap.push { cls:= .type "set",dict:=none,data:= .set #[] 0 (.fresh 0 0 led) } }) λled=>⟨led,rfl,rfl⟩) λr s1 hr=>?_;cases r with
 |error e=>exact hr
 |ok fl =>
  cases fl with
  |ret ob =>
   obtain ⟨led,rfl,rfl⟩:=hr;have hS:(s.heap.push { cls:= .type "set",dict:=none,data:= .set #[] 0 (.fresh 0 0 led) }).get? s.heap.objs.size=some { cls:= .type "set",dict:=none,data:= .set #[] 0 (.fresh 0 0 led) }:=yD _ rfl;have hT:Shared.TypeIs { s with heap:=s.heap.push { cls:= .type "set",dict:=none,data:= .set #[] 0 (.fresh 0 0 led) } } (.ref s.heap.objs.size) "set":=⟨_,hS,rfl⟩;have hli:=PySem.F.called_set.init.lookup;have hbi:=PySem.F.called_set.init.bind (.ref s.heap.objs.size)
   (repeat (any_goals (first|assumption|wp_step)))
   refine codeAny_mono (codeAny_call_builtin (R:=wants (λr s2=>r = .none/\∃ h' tk,s2={ s with heap:=h',toks:=tk }/\h'.SetOf knd s.heap.objs.size (λx=>decide (x∈r6 val its.size)) (r6 val its.size).length /\
     (∀ b o,s.heap.get? b=some o->h'.get? b=some o)) E) PySem.F.called_set.init.plain PySem.F.entry_set_init (check_set_init_1 hT ?_)) λr2 s2 hr2=>?_
   ·obtain ⟨ol,hol,hcl,nl,hdl⟩:=hl;obtain ⟨ocls,odict,odata,oslots⟩:=ol;simp only at hcl hdl;subst hcl;subst hdl;have hol':(s.heap.push { cls:= .type "set",dict:=none,data:= .set #[] 0 (.fresh 0 0 led) }).get? l=some { cls:= .type "list",dict:=odict,data:= .seq its nl,slots:=oslots }:=yV _ hol;have z1:=PySem.F.sub_list_set;have z2:=PySem.F.sub_list_frozenset;have z3:(Value.type "list" == Value.type "dict")=false:=by decide
    have hl1:(s.heap.push { cls:= .type "set",dict:=none,data:= .set #[] 0 (.fresh 0 0 led) }).IsList l its:=⟨_,hol',rfl,nl,rfl⟩;unfold Builtin.«set.__init__» noKeywords Builtin.Frozenset.updateFrom;generalize hPI:pyIter=PI
    wp_walk
    subst hPI;refine wpAny_pyIter_list hl1 ?_;refine yX (wpAny_runValue ?_);have hlS:l<s.heap.objs.size:=yO hol;have h3:A.in1.in1.in1.handled=none:=by simp [hh]
    have ne1:l≠(s.heap.push { cls:= .type "set",dict:=none,data:= .set #[] 0 (.fresh 0 0 led) }).objs.size:=by rw [uI];exact yH (tX hlS)
    have ne2:s.heap.objs.size∉[(s.heap.push { cls:= .type "set",dict:=none,data:= .set #[] 0 (.fresh 0 0 led) }).objs.size,l]:=by rw [uI];simp only [yM,ye,or_false,not_or];exact ⟨yH (uA _),uf hlS⟩
    refine Sg (knd:=knd) ((Walks.list h3 _ l ne1 its).toS) s.heap.objs.size ne2 val hv hb (its.size-0) 0 _ (by omega) (yh _) ⟨⟨_,yD _ rfl,rfl,rfl⟩,(hl1.push _)⟩ ?_ ?_
    ·have hg:((s.heap.push { cls:= .type "set",dict:=none,data:= .set #[] 0 (.fresh 0 0 led) }).push { cls:= .type "list_iterator",data:= .fields #[.ref l,.int 0 0] }).get? s.heap.objs.size=some { cls:= .type "set",dict:=none,data:= .set #[] 0 (.fresh 0 0 led) }:=yV _ hS;exact Pq ((PyProof.Rows.setObjOf_fresh (knd:=knd) led).setOf hg (by unfold scanBound;omega)) (λx=>by simp [r6]) rfl
    ·rintro ⟨h',g',d',tk',os'⟩ mv hS';have eg:g'=s.gens:=mv.gens;have ed:d'=s.drawn:=mv.drawn;have eo:os'=s.os:=mv.os;subst eg ed eo;show wpAny _ _ _ _ _ _;refine yC ?_;show wpAny _ _ (ret Value.none) _ _ _;refine yC ⟨rfl,h',tk',rfl,hS',λb o e=>?_⟩;have hb0:=yO e;refine mv.heap b o ?_ (yV _ (yV _ e));rw [uI];simp only [yM,ye,or_false,not_or];exact ⟨yH hb0,yH (tX hb0)⟩
   ·cases r2 with
    |error e=>exact hr2
    |ok fl2 =>
     cases fl2 with
     |ret r =>
      obtain ⟨rfl,h',tk,rfl,hS',hk'⟩:=hr2
      (repeat (any_goals (first|assumption|wp_step)))
      exact h _ _ hS' hk'
     |_=>exact False.elim hr2
  |_=>exact False.elim hr
end
def va (n:Nat)(a:Addr):HO:= .ext λh=>∃(P:Program)(w:World)(S:z9->Bool),h.SetOf (qm P w) a S n
section
variable {X:Cx}
theorem IR {ss:List Str}{us:List Value}(r:Vals (ss.map V.str) us):∀(i:Nat)(v:Value),us[i]?=some v->∃ x t,ss[i]?=some x/\v = .str x t:=by
 have key:∀(ss:List Str)(us:List Value),Vals (ss.map V.str) us->∀(i:Nat)(v:Value),us[i]?=some v->∃ x t,ss[i]?=some x/\v = .str x t:=by
  intro ss
  induction ss with
  |nil=>intro us r i v e;cases r;simp at e
  |cons s ss ih =>
   intro us r i v e;cases r with
   |cons p q =>
    cases i with
    |zero=>obtain ⟨t,rfl⟩:=p;simp at e;exact ⟨s,t,rfl,e.symm⟩
    |succ i=>exact ih _ q i v (by simpa using e)
 intro i v e;exact key ss us r i v e
theorem DC (hc:X.calm=true):CallR X (.type "set") (λxs H Q=>∃ (a:Addr) (ss:List Str),xs=[.ref a]/\SqL X.K H a (ss.map V.str)/\ss.length<=1000 /\ ∀ l,H l=none->Q (.ref l) (j4 H l (va (r6 (λi=>(Sum.inr (ss.getD i ⟨#[]⟩):z9)) ss.length).length l))):=by
 intro pins s σ H xs us Q I r h;obtain ⟨a,ss,rfl,hq,hl,q⟩:=h;obtain ⟨u,rfl,ru⟩:=za r;obtain rfl:u=Value.ref a:=ru;obtain ⟨its,rv,p,hz⟩:=I.list hq;have hn:its.length=ss.length:=by have e:=rv.length;rw [yZ] at e;exact e.symm
 refine DD (knd:=qm X.prog X.w) (its:=its.toArray) (val:=λi=>(Sum.inr (ss.getD i ⟨#[]⟩):z9)) (I.ok.hd hc) p.isList (λi v e=>?_) (by rw [yW,hn];unfold scanBound;omega) λh' tk hS k=>?_
 ·obtain ⟨x,t,hx,rfl⟩:=IR rv i v (by simpa using e);rw [yN,hx];exact ⟨Ve _ _ _ _,rfl⟩
 ·have e8:its.toArray.size=ss.length:=by rw [yW];exact hn
  rw [e8] at hS;refine ⟨.ref s.heap.objs.size,_,I.laid (t':=tk) k (yU _) (show ObjOk X.prog X.w _ h' _ (va _ _) from ⟨⟨_,_,_,hS⟩,?_,?_⟩),rfl,q _ (I.hok.fresh (yU _))⟩
  ·obtain ⟨o,_,_,_,ho,_⟩:=hS;exact ⟨o,ho⟩
  ·rintro h1 h2 ⟨P,w,S,x⟩ e;exact ⟨P,w,S,Yg x e⟩
theorem Dv:CallR X (.builtin "len") (λxs H Q=>∃ (a:Addr) (n:Nat),xs=[.ref a]/\H a=some (va n a)/\Q (.int n) H):=by
 intro pins s σ H xs us Q I r h;obtain ⟨a,n,rfl,hq,q⟩:=h;obtain ⟨u,rfl,ru⟩:=za r;obtain rfl:u=Value.ref a:=ru;obtain ⟨⟨P,w,S,o,es,ep,t,ho,hex,hd,_,_,hb,hf,hn⟩,_⟩:=(show ObjOk X.prog X.w H s.heap a (va n a) from I.hok a _ hq);subst hn;have h63:((es.size:Nat):Int)<2 ^ 63:=by unfold scanBound at hb;omega
 exact call_len_set ho hex hd hf h63 ⟨.int es.size,H,I.tok _,⟨_,rfl⟩,q⟩
end
end L2
namespace L2
open PySem PySem.Spec PySem.Calls PyProof.Rows
variable{ns:List Int}{f:Nat->Int}{ss:List Str}{P:Program}{w:World}{vs:List Value}{A:Around}{E Q:Value->Shared->Prop}{s:Shared}
section
variable {X:Cx}
theorem La {its:List Value}(rv:Vals (ns.map V.int) its):∃ xs:Array (Int×Tok),its.toArray=intItems xs/\xs.size=ns.length/\∀ i,i<ns.length->numAt xs i=ns.getD i 0:=by
 have hi:=YD rv;obtain ⟨xs,ex⟩:=hi.allInts.items;have hl:xs.size=ns.length:=by
  have e:its.toArray.size=xs.size:=by rw [ex];unfold intItems;rw [Array.size_map]
  have e2:=rv.length;rw [yZ] at e2;rw [yW] at e;omega
 refine ⟨xs,ex,hl,λi h=>?_⟩;have hx:i<xs.size:=by omega
 have e1:its.toArray[i]?=some (.int xs[i].1 xs[i].2):=by rw [ex];unfold intItems;rw [Array.getElem?_map,uj hx];rfl
 have e2:its[i]?=some (.int xs[i].1 xs[i].2):=by simpa using e1
 obtain ⟨t,e3⟩:=IntsAre.int_at hi i _ e2;injection e3 with e3 _;unfold numAt;rw [uj hx];exact e3
theorem Db {k:Nat}(hf:∀ i,i<ns.length->f i=ns.getD i 0)(hk:k<ns.length):f k∈ns:=by rw [hf k hk,yN,yY hk];exact yt hk
theorem Da {R:Int->Prop}(hf:∀ i,i<ns.length->f i=ns.getD i 0)(h:∀ j,j<ns.length->R (f j)):∀ x∈ns,R x:=by intro x hx;obtain ⟨j,hj,rfl⟩:=uK hx;have:=h j hj;rw [hf j hj,yN,yY hj] at this;exact this
def XC (ss:List Str):Prop:=ss.Pairwise λx y=>¬ (y.cps.toList<x.cps.toList)
theorem Py (h:sortedS ss=true):XC ss:=by
 cases ss with
 |nil=>exact List.Pairwise.nil
 |cons x r =>
  have key:∀(l:List Str)(p:Str),risingS p l=true->(p::l).Pairwise λx y=>¬ (y.cps.toList<x.cps.toList):=by
   intro l
   induction l with
   |nil=>intro p _;exact List.pairwise_singleton _ _
   |cons y l ih =>
    intro p hp;have hp':(!ltCps y.cps.toList p.cps.toList&&risingS y l)=true:=hp;rw [yf] at hp';have i2:=ih y hp'.2;have hyp:¬ (y.cps.toList<p.cps.toList):=by have e:=hp'.1;rw [ltCps_eq] at e;simpa using e
    refine uz.mpr ⟨λz hz=>?_,i2⟩;rcases yM.mp hz with rfl|hz
    ·exact hyp
    ·have hzy:=(uz.mp i2).1 z hz;intro hlt;exact hyp (Std.lt_of_le_of_lt (Std.not_lt.mp hzy) hlt)
  exact key r x h
def BS (K:Fg):List V->Hp->VK->Prop:=λxs H Q=>∃(a:Addr)(ss:List Str),xs=[.ref a]/\(SqL K H a (ss.map V.str)∨∃ kvs,Rd H a (.dK kvs)/\kvs.map (·.1)=ss.map Sum.inr)/\ss.length<64 /\
 ∀ l ss',H l=none->ss'.Perm ss->XC ss'->Q (.ref l) (j4 H l (.lst (ss'.map V.str)))
theorem PH:∀{ss:List Str}{us:List Value},Vals (ss.map V.str) us->StrsAre us ss
 |[],_,.nil=> .nil
 |x::_,_,.cons ⟨t,e⟩ r=>by subst e;exact .cons x t (PH r)
theorem YE:∀{us:List Value}{ss:List Str},StrsAre us ss->Vals (ss.map V.str) us
 |_,_,.nil=> .nil
 |_,_,.cons x t r=> .cons ⟨t,rfl⟩ (YE r)
theorem LA:∀{kvs:List (z9×V)}{vs:List (z9×Value)}{ss:List Str},KV kvs vs->kvs.map (·.1)=ss.map Sum.inr->vs.map (·.1)=ss.map Sum.inr:=by
 intro kvs vs ss r e;rw [<- e];clear e
 induction r with
 |nil=>rfl
 |cons p _ ih=>rw [yI,yI,ih,p.1]
theorem Li {vs:List (z9×Value)}{acc:Array Value}(e:vs.map (·.1)=ss.map Sum.inr)(h:ItemsOf (λi v=>∃ k x,vs[i]?=some (k,x)/\(qm P w).is k v=true) acc vs.length):StrsAre acc.toList ss:=by
 have hl:vs.length=ss.length:=by have:=congrArg List.length e;rwa [yZ,yZ] at this
 have h0:∀ v∈acc.toList,∃ x t,v = .str x t:=by
  intro v hv;obtain ⟨i,hi,rfl⟩:=uK hv;obtain ⟨k,x,hk,his⟩:=h.2 i acc.toList[i] (by simp at hi ⊢);have hk2:(vs.map (·.1))[i]?=some k:=by rw [yP,hk];rfl
  rw [e,yP] at hk2;obtain ⟨z,_,rfl⟩:=yJ.mp hk2;cases hv2:acc.toList[i] with
  |str y t=>exact ⟨y,t,rfl⟩
  |_=>rw [hv2] at his;cases his
 have h1:=strsAre_map acc.toList h0;have e2:acc.toList.map strOf=ss:=by
  apply List.ext_getElem?;intro i;rw [yP];by_cases hi:i<acc.size
  ·obtain ⟨k,x,hk,his⟩:=h.2 i acc[i] (uj hi);have hk2:(vs.map (·.1))[i]?=some k:=by rw [yP,hk];rfl
   rw [e,yP] at hk2;obtain ⟨z,hz,rfl⟩:=yJ.mp hk2;obtain ⟨y,t,hy⟩:=h0 acc[i] (by simp);rw [hy] at his;have:y=z:=by have q:vt (Sum.inr z) (.str y t)=true:=his;have q2:=KB y t;have q3:=(qm P w).inj (.str y t) (Sum.inr z) (Sum.inr y) his (Ve P w y t);injection q3 with q3;exact q3.symm
   rw [hz,tU,uj hi,hy,<- this];rfl
  ·have h1:=h.1;rw [uR (by simp;omega),uR (by omega)];rfl
 rw [e2] at h1;exact h1
theorem IX (hS:StrsAre vs ss)(h64:vs.length<64)(h:∀ (h':Heap) (out:List Value) (ss':List Str) (e:Nat),(∀ b o,s.heap.get? b=some o->h'.get? b=some o)->h'.get? s.heap.objs.size=some (seqObj "list" out.toArray e)->StrsAre out ss'->ss'.Perm ss->sortedS ss'=true->Q (.ref s.heap.objs.size) { s with heap:=h' }):wpAny (model P w) A (newList vs >>= λl=>holding [l] (call (.builtin "list.sort") [l]) >>= λ_=>pure l) Q E s:=by
 refine yX (wpAny_newList ?_);have ho:(s.heap.push (seqObj "list" vs.toArray 0)).get? s.heap.objs.size=some (seqObj "list" vs.toArray 0):=yD _ rfl;refine yX (wpAny_holding (wpAny_call_entry slot_list_sort (s:={ s with heap:=s.heap.push (seqObj "list" vs.toArray 0) }) ⟨_,ho,rfl⟩ entry_list_sort
  (list_sort_treeK strKind_oneLt (s:={ s with heap:=s.heap.push (seqObj "list" vs.toArray 0) }) ho hS.keysOf (λv1 v2 rest e=>keyKind_strs (by rw [<- e];exact hS)) h64 λst p1 p2=>⟨_,rfl,?_⟩) (args_list_sort _)))
 obtain ⟨ss',a1,a2,a3⟩:=sorted_out_str hS p1 p2;obtain ⟨e,he⟩:=sortedHeap_at (out:=(arrOf st).map (·.2)) ho;refine yC (h _ _ ss' e (λb o hb=>?_) (by rw [Array.toArray_toList];exact he) a1 a2 a3);have hlt:=yO hb;rw [sortedHeap_old (yH hlt) (by rw [uI];exact tX hlt)];exact yV _ hb
theorem Sr (hS:StrsAre vs ss)(h64:vs.length<64)(h:∀ (h':Heap) (out:List Value) (ss':List Str) (e:Nat),(∀ b o,s.heap.get? b=some o->h'.get? b=some o)->h'.get? s.heap.objs.size=some (seqObj "list" out.toArray e)->StrsAre out ss'->ss'.Perm ss->sortedS ss'=true->Q (.ref s.heap.objs.size) { s with heap:=h' }):wpAny (model P w) A (newList vs >>= λl=>holding [l] (call (.builtin "list.sort") [l] []) >>= λ_=>ret l) (λfin s'=>∃ v,fin=PySem.Fin.done (.ret v)/\Q v s') E s:=by
 refine yX (wpAny_newList ?_);have ho:(s.heap.push (seqObj "list" vs.toArray 0)).get? s.heap.objs.size=some (seqObj "list" vs.toArray 0):=yD _ rfl;refine yX (wpAny_holding (wpAny_call_entry slot_list_sort (s:={ s with heap:=s.heap.push (seqObj "list" vs.toArray 0) }) ⟨_,ho,rfl⟩ entry_list_sort
  (list_sort_treeK strKind_oneLt (s:={ s with heap:=s.heap.push (seqObj "list" vs.toArray 0) }) ho hS.keysOf (λv1 v2 rest e=>keyKind_strs (by rw [<- e];exact hS)) h64 λst p1 p2=>⟨_,rfl,?_⟩) (args_list_sort _)))
 obtain ⟨ss',a1,a2,a3⟩:=sorted_out_str hS p1 p2;obtain ⟨e,he⟩:=sortedHeap_at (out:=(arrOf st).map (·.2)) ho;refine yC ⟨_,rfl,h _ _ ss' e (λb o hb=>?_) (by rw [Array.toArray_toList];exact he) a1 a2 a3⟩;have hlt:=yO hb;rw [sortedHeap_old (yH hlt) (by rw [uI];exact tX hlt)];exact yV _ hb
theorem DE {K:Fg}(hc:X.calm=true)(hK:X.K=K):CallR X (.builtin "sorted") (BS K):=by
 subst hK;intro pins s σ H xs us Q I r h;obtain ⟨a,ss,rfl,hq,h64,q⟩:=h;obtain ⟨u,rfl,ru⟩:=za r;obtain rfl:u=Value.ref a:=ru;rcases hq with hq|⟨kvs,hq,hk⟩
 ·obtain ⟨its,rv,p,hz⟩:=I.list hq;have hS:=PH rv;have hl:its.length=ss.length:=by have e:=rv.length;rw [yZ] at e;exact e.symm
  refine sorted_strs p.isList hS (by omega) λout ss' a1 a2 a3=>?_;obtain ⟨e,he⟩:=sortedAll_at s.heap its out;refine ⟨.ref _,_,I.laid (t':=s.toks) (o:= .lst (ss'.map V.str)) (λb o hb=>sortedAll_old hb) (ui _) ?_,rfl,q _ ss' (I.hok.fresh (ui _)) a2 (Py a3)⟩;exact ⟨by rw [yZ,a2.length_eq];exact uS (wZ (by omega)),out.toList,e,YE a1,by simpa [seqObj] using he⟩
 ·obtain ⟨z,hd,vs,rel,dd⟩:=vk I.hok hq;obtain ⟨ep,hat⟩:=dd.dictAt;have ek:=LA rel hk;have hvl:vs.length=ss.length:=by have:=congrArg List.length ek;rwa [yZ,yZ] at this
  refine Calls.call_function_entry (id:="sorted") kind_sorted plain_sorted entry_sorted (args_sorted1 _) ?_;unfold Builtin.«sorted»;refine yX (m:=checkCount "sorted" 1 1 _) (yC ?_);refine yX (PySem.W.kdu_collect (PySem.W.kdl_dict (knd:=qm X.prog X.w) (kvs:=vs) (ep:=ep) hd) (by simpa using I.ok.hd hc) hat (uS (wZ (by omega))) λh1 tk acc k1 hacc=>?_);have hS:=Li ek hacc;have hal:acc.toList.length=ss.length:=by have:=hacc.1;simp;omega
  refine Sr (s:={ s with heap:=h1,toks:=tk }) hS (by omega) λh' out ss' e k2 he a1 a2 a3=>?_;have I1:Inv X pins σ H { s with heap:=h1,toks:=tk }:=I.kept (t':=tk) k1;refine ⟨.ref _,_,I1.laid (t':=tk) (o:= .lst (ss'.map V.str)) k2 (yU _) ?_,rfl,q _ ss' (I1.hok.fresh (yU _)) a2 (Py a3)⟩;exact ⟨by rw [yZ,a2.length_eq];exact uS (wZ (by omega)),out,e,YE a1,he⟩
end
end L2
namespace L2
open PySem PySem.Spec PySem.Calls
variable{a:Addr}{its:Array Value}{n:Nat}
section
variable {P:Program}{w:World}{A:Around}{E:Value->Shared->Prop}
theorem LR:typeLookup (.type "list") "keys"=pure none:=am_miss_of_fast (by kernel_rfl)
theorem LQ:typeLookup (.type "list") "__getattr__"=pure none:=am_miss_of_fast (by kernel_rfl)
theorem My {hp:Heap}{g:Array GenState}{d:Drawn}{tk:Nat}{os:_}{u:Tok}{Q:PySem.Fin->Shared->Prop}(ho:hp.get? a=some { cls:= .type "list",data:= .seq its n })(hh:A.handled=none)(h:∀ h' tk' e,Heap.NewAttrErr hp h' e (.ref a) "keys"->E (.ref e) ⟨h',g,d,tk',os⟩):wpAny (model P w) A (Builtin.«object.__getattribute__» ⟨[.ref a,.str "keys" u],[]⟩) Q E ⟨hp,g,d,tk,os⟩:=by
 have hT:(⟨hp,g,d,tk,os⟩:Shared).TypeIs (.ref a) "list":=⟨_,ho,rfl⟩;have f0:=LR;unfold Builtin.«object.__getattribute__»
 (repeat (any_goals (first|assumption|wp_step)))
 exact wpAny_raiseAttrError (s:=⟨hp,g,d,tk,os⟩) hh h (attrMsg_fits (by decide +kernel) (by decide +kernel))
theorem CV {s:Shared}{Q:Option Value->Shared->Prop}(ho:s.heap.get? a=some { cls:= .type "list",data:= .seq its n })(hh:A.handled=none)(h:∀ h' tk,(∀ b o,s.heap.get? b=some o->h'.get? b=some o)->Q none { s with heap:=h',toks:=tk }):wpAny (model P w) A (getAttr? (.ref a) "keys") Q E s:=by
 obtain ⟨hp,g,d,tk,os⟩:=s;have hT:∀ t',(⟨hp,g,d,t',os⟩:Shared).TypeIs (.ref a) "list":=λ_=>⟨_,ho,rfl⟩;have f1:=sub_AttributeError;have f2:=PySem.F.slot_list_getattribute.lookup;have f3:=PySem.F.slot_list_getattribute.bind (.ref a);have f5:=LQ;unfold getAttr? getAttrBy? getAttrBy
 (repeat (any_goals (first|assumption|exact hT _|wp_step)))
 refine codeAny_call_builtin PySem.F.slot_list_getattribute.plain PySem.F.entry_list_ga (PySem.F.slot_list_getattribute.check _ _ _ _ _ _ _ _ (hT _) (PySem.F.args_list_getattribute_2 _ _) (My ho (by simpa using hh) λh' tk' e hx=>?_));obtain ⟨t',u',he⟩:=hx.there;have hk:=hx.keeps;show wpAny _ _ (getattributeRaised _ _ _ _ _ _ _) _ _ _;unfold getattributeRaised
 (repeat (any_goals (first|assumption|wp_step)))
 exact h _ _ hk
end
end L2
namespace L2
open PySem PySem.Spec PySem.Calls PyProof.Rows
variable{s:Shared}{Q:Value->Shared->Prop}{K:Fg}{A:Around}{H:Hp}{kvs:List (z9×V)}{P:Program}{w:World}{o:Obj}{es:Array DictEntry}{ep:Nat}
section
variable {X:Cx}
def BO:R2:=λx y H Q=>∃ b c,x = .bl b/\y = .bl c/\Q (.bl (!decide (b=c))) H
theorem HS:OpR X (compareOp .IsNot) BO:=by intro pins s σ H x y v u Q I rx ry h;obtain ⟨b,c,rfl,rfl,q⟩:=h;cases rx;cases ry;refine wpAny_isNot_plain rfl (XX I q ?_);cases b<;>cases c<;>rfl
end
theorem Dl:bootBuiltins "set"=some (.type "set"):=by decide +kernel
section
variable {P:Program}{w:World}{A:Around}{R:Result->Shared->Prop}{I:Addr}{fp wr:List Addr}{n:Nat}{Pp:Nat->Value->Prop}{St:Nat->Heap->Prop}
abbrev dfl:List (Str×Value):=[(Str.ofString "default",Value.none)]
theorem Nf (W:Walks P w A.in1 I fp wr n Pp St)(bt:Nat->Nat->Bool)(hcmp:CmpOf P w A.in1 .Gt Pp bt)(a:Addr)(ha:a∉fp):∀ (m j:Nat) (s:Shared) (vb:Value) (c:Nat),n-(j+1)=m->j+1<=n->St (j+1) s.heap->Pp (argBest bt j) vb -> s.heap.get? a=some { cls:= .type "list",dict:=none,data:= .seq #[vb,vb] c,slots:=#[] } -> (∀ v h' tk,Pp (argBest bt (n-1)) v->(∀ b o,b∉wr->b≠a->s.heap.get? b=some o->h'.get? b=some o)->R (.ok (.ret v)) { s with heap:=h',toks:=tk }) -> codeAny (model P w) A (.builtin "max.loop" ⟨[.ref I,.none,.ref a],dfl⟩) R s:=by
 have haw:a∉wr:=λz=>ha (W.sub _ z);have nm:(toString "max"++toString ".loop":String) = "max.loop":=by decide
 intro m
 induction m with
 |zero =>
  intro j s vb c hm hj st hP hS hR;have hin:j+1=n:=by omega
  refine codeAny_builtin PySem.F.entry_max_loop ?_;rw [Around.under_plainId PySem.F.plain_max_loop _];show wpAny _ A.in1 (seqItems? (.ref a) >>= _) _ _ s;refine yX (wpAny_seqItems hS rfl ?_);show wpAny _ A.in1 (tryCatch (pyNext (.ref I)) _ >>= _) _ _ s;refine yX (wpAny_tryCatch (W.done s _ _ (hin▸st) λh' tk kk=>?_));have hS':=kk a _ haw hS;show wpAny _ A.in1 (updateSeq a (λ_=>#[]) >>= _) _ _ _;refine yX (wpAny_updateSeq hS' rfl (yX (wpAny_letGo (yC ?_))));exact hR vb _ tk (by rw [<- hin];exact hP) λb o z1 z2 e=>(yb _ _ (Ne.symm z2)).trans (kk b o z1 e)
 |succ m ih =>
  intro j s vb c hm hj st hP hS hR;have hlt:j+1<n:=by omega
  refine codeAny_builtin PySem.F.entry_max_loop ?_;rw [Around.under_plainId PySem.F.plain_max_loop _];show wpAny _ A.in1 (seqItems? (.ref a) >>= _) _ _ s;refine yX (wpAny_seqItems hS rfl ?_);show wpAny _ A.in1 (tryCatch (pyNext (.ref I)) _ >>= _) _ _ s;refine yX (wpAny_tryCatch (W.item (j+1) s _ _ hlt st λv h' tk hPv st' kk=>?_));have hS':=kk a _ haw hS;show wpAny _ A.in1 (tryCatch (holding [v,v] (richCompare .Gt v vb >>= _)) _ >>= _) _ _ _;refine yX (wpAny_tryCatch (wpAny_holding (yX (hcmp (j+1) (argBest bt j) v vb _ _ _ hPv hP (yX (wpAny_holding (wpAny_truthy_bool (yX (wpAny_letGo (yC ?_))))))))));cases hb:bt (j+1) (argBest bt j) with
  |true =>
   simp only [if_true];refine yX (wpAny_updateSeq hS' rfl (yX (wpAny_letGo ?_)));rw [nm];refine yC ⟨plainId_quiet PySem.F.plain_max_loop _,ih (j+1) _ v _ (by omega) hlt (W.frame _ _ _ st' λb z o e=>?_) (by simp only [argBest,hb,if_true];exact hPv) (uo _ hS' rfl) λv' h2 tk2 hP2 k2=>?_⟩
   ·exact (yb _ _ (λq:a=b=>ha (by rw [q];exact z))).trans e
   ·exact hR v' h2 tk2 hP2 λb o z1 z2 e=>k2 b o z1 z2 ((yb _ _ (Ne.symm z2)).trans (kk b o z1 e))
  |false=>simp only [uQ,if_false];refine yX (wpAny_letGo ?_);rw [nm];refine yC ⟨plainId_quiet PySem.F.plain_max_loop _,ih (j+1) _ vb c (by omega) hlt st' (by simp only [argBest,hb,uQ,if_false];exact hP) hS' λv' h2 tk2 hP2 k2=>?_⟩;exact hR v' h2 tk2 hP2 λb o z1 z2 e=>k2 b o z1 z2 (kk b o z1 e)
theorem Nd (W:Walks P w A.in1 I fp wr n Pp St)(bt:Nat->Nat->Bool)(hcmp:CmpOf P w A.in1 .Gt Pp bt)(a:Addr)(ha:a∉fp){c:Nat}(st:St 0 s.heap)(hS:s.heap.get? a=some { cls:= .type "list",dict:=none,data:= .seq #[] c,slots:=#[] })(hR:∀ v h' tk,(if n=0 then v = .none else Pp (argBest bt (n-1)) v)->(∀ b o,b∉wr->b≠a->s.heap.get? b=some o->h'.get? b=some o)->R (.ok (.ret v)) { s with heap:=h',toks:=tk }):codeAny (model P w) A (.builtin "max.loop" ⟨[.ref I,.none,.ref a],dfl⟩) R s:=by
 have haw:a∉wr:=λz=>ha (W.sub _ z);have nm:(toString "max"++toString ".loop":String) = "max.loop":=by decide
 refine codeAny_builtin PySem.F.entry_max_loop ?_;rw [Around.under_plainId PySem.F.plain_max_loop _];show wpAny _ A.in1 (seqItems? (.ref a) >>= _) _ _ s;refine yX (wpAny_seqItems hS rfl ?_);show wpAny _ A.in1 (tryCatch (pyNext (.ref I)) _ >>= _) _ _ s;by_cases hn:n=0
 ·subst hn;refine yX (wpAny_tryCatch (W.done s _ _ st λh' tk kk=>?_));show wpAny _ A.in1 (rule _ >>= _) _ _ _;refine yX (wpAny_rule ?_);exact yC (hR .none h' tk (by rw [if_pos rfl]) λb o z1 _ e=>kk b o z1 e)
 ·refine yX (wpAny_tryCatch (W.item 0 s _ _ (by omega) st λv h' tk hPv st' kk=>?_));have hS':=kk a _ haw hS;show wpAny _ A.in1 (updateSeq a (λ_=>#[v,v]) >>= _) _ _ _;refine yX (wpAny_updateSeq hS' rfl ?_);rw [nm];refine yC ⟨plainId_quiet PySem.F.plain_max_loop _,Nf W bt hcmp a ha _ 0 _ v _ rfl (by omega) (W.frame _ _ _ st' λb z o e=>?_) hPv (uo _ hS' rfl) λv' h2 tk2 hP2 k2=>?_⟩
  ·exact (yb _ _ (λq:a=b=>ha (by rw [q];exact z))).trans e
  ·exact hR v' h2 tk2 (by rw [if_neg hn];exact hP2) λb o z1 z2 e=>k2 b o z1 z2 ((yb _ _ (Ne.symm z2)).trans (kk b o z1 e))
end
section
variable {P:Program}{w:World}{A:Around}{E:Value->Shared->Prop}{s:Shared}{l:Addr}{xs:Array (Int×Tok)}
theorem CQ (v:Value):argsOk "max" ⟨[v],[(Str.ofString "default",Value.none)]⟩:=by unfold argsOk;kernel_rfl
theorem Dn:Builtin.Builtins.bindParams "max" ["key","default"] 0 ⟨[],[(Str.ofString "default",Value.none)]⟩=pure [none,some Value.none]:=by kernel_rfl
theorem Nc (hh:A.handled=none)(hl:s.heap.IsList l (intItems xs))(h:∀ v h' tk,(if xs.size=0 then v = .none else (intItems xs)[argBest (λi j=>decide (numAt xs i > numAt xs j)) (xs.size-1)]?=some v)->(∀ b o,s.heap.get? b=some o->h'.get? b=some o)->Q v { s with heap:=h',toks:=tk }):wpAny (model P w) A (call (.builtin "max") [.ref l] [(Str.ofString "default",Value.none)]) Q E s:=by
 have nm:(toString "max"++toString ".loop":String) = "max.loop":=by decide
 refine kmb_tree PySem.F.kind_max PySem.F.plain_max PySem.F.entry_max (CQ _) ?_;show wpAny _ A.in1 (Builtin.Builtins.bindParams "max" ["key","default"] 0 ⟨[],[(Str.ofString "default",Value.none)]⟩ >>= _) _ _ s;refine yX (wpAny_of_eq Dn ?_);refine yX (yC ?_);refine yX (iter_intList hl λs2 e st hfp hlI=>?_);subst e;refine yX (wpAny_newObj_type ?_);have hSf:=λhm=>uT _ (hfp _ hm);rw [nm];refine yC ⟨plainId_quiet PySem.F.plain_max_loop _,Nd (Walks.list (A:=A.in1) hh _ l hlI (intItems xs)) _ (CmpOf.ints_gt (numAt xs) (λ_ _=>intItems_at)) _ hSf (((Walks.list (prog:=P) (w:=w) (A:=A.in1) hh _ l hlI (intItems xs))).frame _ _ _ st λb _ o e=>yV _ e) (yD _ rfl) λv h' tk hP kk=>?_⟩;refine h v h' tk (by simpa [intItems] using hP) λb o e=>?_;have hlt:=yO e;refine kk b o (by simp only [yK];exact yH hlt) ?_ (yV _ (yV _ e));rw [uI];exact yH (tX hlt)
end
section
variable {X:Cx}
def PN (K:Fg)(t:TA):TE:=λσ H Q=>t σ H λvs H1=>∃(a:Addr)(ns:List Int),vs=[.ref a]/\SqL K H1 a (ns.map V.int)/\(ns=[]->Q .non H1)/\(ns≠[]->∀ m,m∈ns->(∀ y∈ns,y<=m)->Q (.int m) H1)
theorem Rh {e:Expr}{t:TA}{p pos kp cp:Pos}{ct:Nat}(hK:X.K=K)(hc:X.calm=true)(hg:Gl X "max")(hm:X.mg "max"=none)(ha:PA X [e] t)(hs:backTo pos (starEach [e] X.env)=(false,eval e X.env)::backTo pos (starEach [] X.env):=by rfl)(hpl:(backTo pos (starEach [e] X.env)).any (·.1)=false:=by rfl):PE X (.Call (.Name "max" p) [e] [⟨some "default",.Constant .none ct cp,kp⟩] pos) (PN K t):=by
 subst hK;intro pins s σ H Q I h;refine wpAny_Call_Name_kw (zS I hg hm Dj ?_ (by decide) (by decide));refine PyProof.Rows.callWith_kw (v5 (ha pos pins s σ H _ I h) λus s1 ⟨vs,H1,I1,r1,q1⟩=>?_) hs hpl;refine PyProof.Rows.kws_cons (Constant_none (PyProof.Rows.kws_nil ?_));obtain ⟨a,ns,rfl,hq,qe,qn⟩:=q1;obtain ⟨u,rfl,ru⟩:=za r1;obtain rfl:u=Value.ref a:=ru;obtain ⟨its,rv,pl,hz⟩:=I1.list hq;obtain ⟨ys,ey,el,en⟩:=La rv;have hl:s1.heap.IsList a its.toArray:=pl.isList;rw [ey] at hl;show wpAny _ _ (call (.builtin "max") [.ref a] [(Str.ofString "default",Value.none)]) _ _ _;refine Nc (I1.ok.hd hc) hl λv h' tk hv k=>?_;by_cases hne:ns=[]
 ·have hz0:ys.size=0:=by rw [el,hne];rfl
  rw [if_pos hz0] at hv;subst hv;exact ⟨.non,H1,I1.kept (t':=tk) k,rfl,qe hne⟩
 ·have hp:0<ns.length:=List.length_pos_iff.mpr hne;rw [if_neg (by omega)] at hv;obtain ⟨t,rfl⟩:=intItems_at hv;obtain ⟨h1,h2⟩:=argBest_gt (numAt ys) (ys.size-1);exact ⟨.int _,H1,I1.kept (t':=tk) k,⟨t,rfl⟩,qn hne _ (Db en (by omega)) (Da en λj hj=>h2 j (by omega))⟩
end
section
variable {P:Program}{w:World}{κ:Type}[DecidableEq κ]{knd:PySem.KeyKind P w κ}
theorem GP:entryFor table "dict.update.loop"=some Builtin.«dict.update.loop»:=entryFor_of_tree (by kernel_rfl)
theorem ZJ:plainId "dict.update.loop"=true:=by decide +kernel
theorem DZ {R:Result->Shared->Prop}{I:Addr}{fp wr:List Addr}{Pp:Nat->Value->Prop}{St:Nat->Heap->Prop}{more:List (κ×Value)}{lo:Addr}(W:Walks P w A.in1 I fp wr more.length Pp St)(d:Addr)(hdf:d∉fp)(hlo:lo<=d)(hwr:∀ b∈wr,lo<=b)(hsz:more.length<=sizeLine):∀ (m i:Nat) (z:Int) (tk:Tok) (s:Shared),more.length-i=m->i<=more.length->St i s.heap->s.heap.DictOf knd d (merged [] (more.take i)) -> (∀ j v kv,Pp j v->more[j]?=some kv->∃ t k,t<lo/\v = .ref t/\knd.is kv.1 k=true/\IsTup s.heap t #[k,kv.2]) -> (∀ h' tk',(∀ b o,b<lo->s.heap.get? b=some o->h'.get? b=some o)->h'.DictOf knd d (merged [] more)->R (.ok (.ret .none)) { s with heap:=h',toks:=tk' }) -> codeAny (model P w) A (.builtin "dict.update.loop" ⟨[.ref d,.ref I,.int z tk,.none],[]⟩) R s:=by
 have hdw:d∉wr:=λq=>hdf (W.sub _ q);intro m
 induction m with
 |zero =>
  intro i z tk s hm hi st hd hp hR;have hin:i=more.length:=by omega
  subst hin;refine codeAny_builtin GP ?_;rw [Around.under_plainId ZJ _];show wpAny _ A.in1 (pyNext (.ref I) >>= _) _ _ s;refine yX (W.done s _ _ st λh' tk' k=>?_);show wpAny _ A.in1 (Builtin.Dict.addKeywords d [] >>= _) _ _ _;refine yX (yC ?_);refine yC (hR h' tk' (λb o hb e=>k b o (λq=>absurd (hwr b q) (Nat.not_le.mpr hb)) e) ?_);rw [List.take_length] at hd;obtain ⟨o,es,ep,ho,r⟩:=hd;exact ⟨o,es,ep,k d o hdw ho,r⟩
 |succ m ih =>
  intro i z tk s hm hi st hd hp hR;have hlt:i<more.length:=by omega
  refine codeAny_builtin GP ?_;rw [Around.under_plainId ZJ _];show wpAny _ A.in1 (pyNext (.ref I) >>= _) _ _ s;refine yX (W.item i s _ _ hlt st λv h' tk' hPv st' k=>?_);obtain ⟨t,kk,ht,rfl,hk,o,ho,hc,n,hdt⟩:=hp i v more[i] hPv (yY hlt);have ho':h'.get? t=some o:=k t o (λq=>absurd (hwr t q) (Nat.not_le.mpr ht)) ho;have hd':h'.DictOf knd d (merged [] (more.take i)):=by obtain ⟨o,es,ep,ho,r⟩:=hd;exact ⟨o,es,ep,k d o hdw ho,r⟩
  have hT:Shared.TypeIs { s with heap:=h',toks:=tk' } (.ref t) "tuple":=⟨o,ho',hc⟩;show wpAny _ A.in1 (holding [.ref t] _ >>= _) _ _ _;refine yX (wpAny_holding (yX (wpAny_tryCatch ?_)));unfold Builtin.Dict.pairItems;refine yX (wpAny_typeOf hT ?_);rw [if_pos (by decide)];refine yX (wpAny_seqItems ho' hdt (yC ?_));show wpAny _ A.in1 (holding [kk,more[i].2] (dictSet d kk more[i].2)) _ _ _;refine wpAny_holding (wpAny_dictSet_pairs (knd:=knd) hk hd' (λh2 hd2 sb=>?_) ?_)
  ·rw [<- merged_take_succ [] more i more[i] (yY hlt)] at hd2;have keep2:∀ b o,b<lo->s.heap.get? b=some o->h2.get? b=some o:=λb o hb e=>by
    rw [sb.2 b (yH (yz hb hlo))];exact k b o (λq=>absurd (hwr b q) (Nat.not_le.mpr hb)) e
   refine yC ⟨plainId_quiet ZJ _,ih (i+1) _ _ _ (by omega) hlt (W.frame _ _ _ st' λb hb o e=>?_) hd2 (λj v kv hv hj=>?_) λh3 tk3 k3 hd3=>?_⟩
   ·rw [sb.2 b (λq=>hdf (by rw [<- q];exact hb))];exact e
   ·obtain ⟨t,kk,ht,rfl,hk,o,ho,r⟩:=hp j v kv hv hj;exact ⟨t,kk,ht,rfl,hk,o,keep2 t o ht ho,r⟩
   ·exact hR h3 tk3 (λb o hb e=>k3 b o hb (keep2 b o hb e)) hd3
  ·have:=merged_length_le [] (more.take i);rw [uO,List.length_nil] at this;omega
theorem Dq {E:Value->Shared->Prop}{l:Addr}{its:Array Value}{n:Nat}{more:List (κ×Value)}(hh:A.handled=none)(ho:s.heap.get? l=some { cls:= .type "list",data:= .seq its n })(hlen:its.size=more.length)(hsz:more.length<=sizeLine)(hp:∀ (j:Nat) (v:Value) (kv:κ×Value),its[j]?=some v->more[j]?=some kv->∃ t k,v = .ref t/\knd.is kv.1 k=true/\IsTup s.heap t #[k,kv.2])(h:∀ h' tk',(∀ b o,s.heap.get? b=some o->h'.get? b=some o)->h'.DictOf knd s.heap.objs.size (merged [] more)->Q (.ref s.heap.objs.size) { s with heap:=h',toks:=tk' }):wpAny (model P w) A (call (.type "dict") [.ref l]) Q E s:=by
 refine callType_codes (Q₁:=λob s1=>ob = .ref s.heap.objs.size/\s1={ s with heap:=s.heap.push { cls:= .type "dict",data:= .dict #[] } }) PySem.F.kt_called_dict (PySem.F.kt_typeCall_dict_1 _) PySem.F.entry_dict_init (kt_code_dict_new _ ⟨rfl,rfl⟩) ?_;rintro ob s1 ⟨rfl,rfl⟩;have hnew:(s.heap.push { cls:= .type "dict",data:= .dict #[] }).DictOf knd s.heap.objs.size []:=Heap.DictOf.new s.heap;have ho':(s.heap.push { cls:= .type "dict",data:= .dict #[] }).get? l=some { cls:= .type "list",data:= .seq its n }:=yV _ ho;have hTl:Shared.TypeIs { s with heap:=s.heap.push { cls:= .type "dict",data:= .dict #[] } } (.ref l) "list":=⟨_,ho',rfl⟩;have hlt:l<s.heap.objs.size:=yO ho;refine ⟨hnew.typeIs,PySem.F.args_dict_init_2 _ _,?_⟩;unfold Builtin.«dict.__init__»;refine yX ?_;unfold Builtin.Dict.selfAndRest;refine yX (wpAny_notOrdered_dict hnew.typeIs ?_);show wpAny _ _ (pure (s.heap.objs.size,[Value.ref l])) _ _ _;refine yC ?_;show wpAny _ _ (Builtin.Dict.updateFrom "dict.__init__" s.heap.objs.size (.ref l) [] .none) _ _ _;unfold Builtin.Dict.updateFrom;refine yX (wpAny_typeOf hTl ?_);rw [if_pos (by decide)];refine yX (CV ho' (by simpa using hh) λh1 tk1 k1=>?_);rw [if_pos (show (none:Option Value).isNone=true from rfl)];refine yX (wpAny_rule ?_);have ho1:=k1 _ _ ho';have hl1:h1.IsList l its:=⟨_,ho1,rfl,n,rfl⟩;refine yX (wpAny_pyIter_list (s:={ s with heap:=h1,toks:=tk1 }) hl1 ?_);have hd1:h1.DictOf knd s.heap.objs.size []:=by obtain ⟨o,es,ep,hq,r⟩:=hnew;exact ⟨o,es,ep,k1 _ _ hq,r⟩
 have hdlt:s.heap.objs.size<h1.objs.size:=by obtain ⟨o,es,ep,hq,r⟩:=hd1;exact yO hq
 have hll:l<h1.objs.size:=yO ho1;refine yC ⟨plainId_quiet ZJ _,?_⟩;have W:=Walks.list (prog:=P) (w:=w) (A:=A.in1.in1) (by simpa using hh) h1.objs.size l (yH hll) its;rw [hlen] at W;refine DZ (knd:=knd) (lo:=s.heap.objs.size) W s.heap.objs.size ?_ (yU _) (λb hb=>?_) hsz more.length 0 _ _ { s with heap:=h1.push { cls:= .type "list_iterator",data:= .fields #[.ref l,.int 0 0] },toks:=tk1 } (by omega) (yh _) ⟨⟨_,yD _ rfl,rfl,rfl⟩,hl1.push _⟩ ?_ (λj v kv hv hj=>?_) λh' tk' kp hd=>?_
 ·simp only [yM,ye,or_false,not_or];exact ⟨yH hdlt,uf hlt⟩
 ·rw [yK.mp hb];exact uS hdlt
 ·obtain ⟨o,es,ep,hq,r⟩:=hd1;exact ⟨o,es,ep,yV _ hq,r⟩
 ·obtain ⟨t,k,rfl,hk,o,hto,r⟩:=hp j v kv hv hj;exact ⟨t,k,yO hto,rfl,hk,o,yV _ (k1 _ _ (yV _ hto)),r⟩
 ·exact ⟨rfl,h h' tk' (λb o e=>kp b o (yO e) (yV _ (k1 _ _ (yV _ e)))) hd⟩
end
section
variable {X:Cx}
theorem HZ {pins:List (Addr×Obj)}{σ:St}(I:Inv X pins σ H s){ts:List Addr}(r:Paired (λt (kv:z9×V)=>H t=some (.tup [kV kv.1,kv.2])) ts kvs):∃ more:List (z9×Value),KV kvs more/\∀(j:Nat)(t:Addr)(m:z9×Value),ts[j]?=some t->more[j]?=some m->∃ k,(qm X.prog X.w).is m.1 k=true/\IsTup s.heap t #[k,m.2]:=by
 induction r with
 |nil=>exact ⟨[],.nil,λj t m h=>by simp at h⟩
 |@cons t kv ts kvs p _ ih =>
  obtain ⟨more,k1,k2⟩:=ih;obtain ⟨_,its,rv,ht⟩:=(show ObjOk X.prog X.w H s.heap t (.tup [kV kv.1,kv.2]) from I.hok t _ p);cases rv with
  |cons p1 r1 =>
   cases r1 with
   |cons p2 r2 =>
    cases r2;rename_i u1 u2;refine ⟨(kv.1,u2)::more,.cons ⟨rfl,p2⟩ k1,λj t' m h1 h2=>?_⟩;cases j with
    |zero=>simp at h1 h2;subst h1 h2;exact ⟨u1,wC p1,ht⟩
    |succ j=>exact k2 j t' m (by simpa using h1) (by simpa using h2)
theorem Cw:∀{ts:List Addr}{us:List Value},Vals (ts.map V.ref) us->us=ts.map Value.ref
 |[],_,.nil=>rfl
 |t::ts,_,.cons p r=>by
  obtain rfl:=(show _=Value.ref t from p);rw [Cw r];rfl
theorem YI:∀{kvs:List (z9×V)}{vs:List (z9×Value)},KV kvs vs->vs.map (·.1)=kvs.map (·.1)
 |[],_,.nil=>rfl
 |_::_,_,.cons p r=>by rw [yI,yI,YI r,p.1]
end
theorem YH:∀{kvs:List (z9×V)}{vs:List (z9×Value)}{i:Nat}{k:z9}{x:V},KV kvs vs->kvs[i]?=some (k,x)->∃ u,vs[i]?=some (k,u)/\RelV x u
 |[],_,i,_,_,_,e=>by simp at e
 |_::_,_,0,k,x,.cons (b:=q) p _,e=>by
  simp at e;subst e;refine ⟨q.2,?_,p.2⟩;have e1:k=q.1:=p.1;rw [e1];rfl
 |_::_,_,i+1,k,x,.cons _ r,e=>by
  obtain ⟨u,h1,h2⟩:=YH (i:=i) (k:=k) (x:=x) r (by simpa using e);exact ⟨u,by simpa using h1,h2⟩
def Itv (a:Addr)(o:Obj)(kvs:List (z9×V)):It :=
 ⟨λi H=>H a=some (.frz o (.dK kvs))/\i<kvs.length,λi H x H'=>H'=H/\∃ k,kvs[i]?=some (k,x),λi H=>H a=some (.frz o (.dK kvs))/\kvs.length<=i⟩
theorem XY {h:Heap}{a:Addr}(ok:HOk P w H h)(e:H a=some (.frz o (.dK kvs)))(hd:o.data = .dict es ep):(a==sysModules)=false/\∃ vs,KV kvs vs/\h.DictAt (qm P w) a vs ep:=by obtain ⟨h1,h2,h3,vs,r,o',es',ep',h4,h5,h6,h7⟩:=(show ObjOk P w H h a (.frz o (.dK kvs)) from ok a _ e);rw [h1] at h4;cases h4;rw [hd] at h6;cases h6;exact ⟨h3,vs,r,o,es,h1,h5,hd,h7⟩
theorem SL {tg:Expr}(a it:Addr)(kvs:List (z9×V))(hd:o.data = .dict es ep):je P w K tg (Itv a o kvs) [it] it (λi h=>h.IsValIter it a i kvs.length ep) where
 mem:=by simp
 obj:=λi h st b hb=>by
  have e:b=it:=by simpa using hb
  subst e;obtain ⟨o,e,c,d⟩:=st;exact ⟨o,e,λv z=>by rw [d] at z;cases z⟩
 keep:=λi h h' st k=>by
  obtain ⟨o,e,c,d⟩:=st;exact ⟨o,k it (by simp) o e,c,d⟩
 item:=by
  intro X hP hw hK hc i pins s σ H E I hf st hg;subst hP hw hK;obtain ⟨hq,hl⟩:=hg;obtain ⟨_,vs,r,hm⟩:=XY I.hok hq hd;have lv:vs.length=kvs.length:=(KV.length r).symm;obtain ⟨u,hu,ru⟩:=YH (i:=i) (k:=kvs[i].1) (x:=kvs[i].2) r (yY hl);obtain ⟨f0,f1,f2,f3,f4,f5⟩:=hf it (by simp);have st1:s.heap.IsValIter it a i vs.length ep:=by rw [lv];exact st
  refine wpAny_pyNext_values_item st1 hm hu λh' st' sb=>?_;have I1:Inv X pins σ H { s with heap:=h' }:=I.turned (t':=s.toks) (λb o hb e=>(sb.2 b hb).trans e) f0 f1 f3 f4 f5;rw [lv] at st';obtain ⟨o1,e1,c1,d1⟩:=id st';exact ⟨u,rfl,XZ (s:={ s with heap:=h' }) e1 c1 d1 (by decide) ⟨kvs[i].2,H,I1,ru,⟨rfl,kvs[i].1,yY hl⟩,st',λb hb=>(hf b hb).1⟩⟩
 done:=by
  intro X hP hw hK hc i pins s σ H E I hf st hg;subst hP hw hK;obtain ⟨hq,hl⟩:=hg;obtain ⟨_,vs,r,hm⟩:=XY I.hok hq hd;have lv:vs.length=kvs.length:=(KV.length r).symm;obtain ⟨f0,f1,f2,f3,f4,f5⟩:=hf it (by simp);have st1:s.heap.IsValIter it a i vs.length ep:=by rw [lv];exact st
  exact wpAny_pyNext_values_end (I.ok.hd hc) st1 hm (uR (by omega)) λh' eb=>⟨rfl,I.turned (t':=s.toks) (λb o hb e=>eb b o hb e) f0 f1 f3 f4 f5⟩
 self:=λ_ _ _ _ _ st h=>wpAny_pyIter_valiter st h
section
variable {X:Cx}{tg:Expr}
def Ko (td:TE):TI:=λσ H R=>td σ H λx H1=>∃ a o kvs,x = .ref a/\H1 a=some (.frz o (.dK kvs))/\R (Itv a o kvs) H1
theorem Rs {d:Expr}{td:TE}{apos cpos:Pos}(ho:PE X d td)(hbase:attributeBase d "values" X.env (eval d X.env)=eval d X.env:=by rfl)(hline:(apos.endLine==cpos.line)=true:=by rfl):PI X tg (.Call (.Attribute d "values" apos) [] [] cpos) (Ko td):=by
 intro pins s σ H R I h;refine wpAny_Call_method0_late hbase hline (v5 (ho pins s σ H _ I h) λv s1 ⟨x,H1,I1,r1,q1⟩=>?_);obtain ⟨a,o,kvs,e,hq,q⟩:=q1;subst e;cases r1;obtain ⟨g1,g2,g3,ws,rw',o',es,ep,g4,g5,g6,g7⟩:=(show ObjOk X.prog X.w H1 s1.heap a (.frz o (.dK kvs)) from I1.hok a _ hq);rw [g1] at g4;cases g4;obtain ⟨hs,vs,r,hm⟩:=XY I1.hok hq g6;have lv:vs.length=kvs.length:=(KV.length r).symm;refine ⟨"dict","dict.values",PySem.F.plainAttrs_dict,PySem.F.slot_dict_values,PySem.F.type_dict_values,hm.dictOf.typeIs,λb e=>?_,Calls.callWith_builtin rfl (PySem.evalArgs_none ?_)⟩
 ·cases e;exact ⟨o,g1,g5.2.1⟩
 refine call_meetsIn PySem.F.slot_dict_values hm.dictOf.typeIs PySem.F.entry_dict_values (PySem.F.args_dict_values_1 _) (meets_dict_values (qm X.prog X.w) a hs) ⟨⟨vs,hm.dictOf⟩,?_⟩;have I2:Inv X pins σ H1 { s1 with heap:=s1.heap.push { cls:= .type "dict_values",data:= .fields #[.ref a] } }:=I1.kept (t':=s1.toks) λb o e=>yV _ e;obtain ⟨_,vs2,r2,hm2⟩:=XY I2.hok hq g6;have lv2:vs2.length=kvs.length:=(KV.length r2).symm;refine wpAny_pyIter_values (knd:=qm X.prog X.w) (kvs:=vs2) ⟨_,yD _ rfl,rfl,rfl⟩ hm2 ?_;refine ⟨_,[_],_,Itv a o kvs,H1,rfl,I2.kept (t':=s1.toks) λb o e=>yV _ e,SL a _ kvs g6,⟨_,yD _ rfl,rfl,?_⟩,λb hb=>?_,q⟩
 ·rw [lv2];rfl
 have e:b=(s1.heap.push { cls:= .type "dict_values",data:= .fields #[.ref a] }).objs.size:=by simpa using hb
 subst e;exact I2.fpOk (yU _) (I2.hok.fresh (yU _))
def BK:List V->Hp->VK->Prop:=λxs H Q=>∃(a:Addr)(ts:List Addr)(kvs:List (z9×V)),xs=[.ref a]/\H a=some (.lst (ts.map V.ref))/\Paired (λt (kv:z9×V)=>H t=some (.tup [kV kv.1,kv.2])) ts kvs/\(kvs.map (·.1)).Nodup/\kvs.length<=1000 /\
  ∀ l o,H l=none->Q (.ref l) (j4 H l (.frz o (.dK kvs)))
theorem Qo (hc:X.calm=true)(_:X.K=K):CallR X (.type "dict") BK:=by
 intro pins s σ H xs us Q I r h;obtain ⟨a,ts,kvs,rfl,hq,hp,hn,h1000,q⟩:=h;obtain ⟨u,rfl,ru⟩:=za r;obtain rfl:u=Value.ref a:=ru;obtain ⟨hz,its,n,rv,ho⟩:=(show ObjOk X.prog X.w H s.heap a (.lst (ts.map V.ref)) from I.hok a _ hq);have ei:=Cw rv;obtain ⟨more,k1,k2⟩:=HZ I hp;have lk:more.length=kvs.length:=k1.length.symm;have lt:=hp.length;have hsl:more.length<=sizeLine:=uS (wZ (by omega));refine Dq (knd:=qm X.prog X.w) (more:=more) (I.ok.hd hc) ho (by rw [yW,ei,yZ];omega) hsl (λj v m hv hm=>?_) λh' tk k hd=>?_
 ·have hv':its[j]?=some v:=by simpa using hv
  rw [ei,yP] at hv';obtain ⟨t,ht,rfl⟩:=yJ.mp hv';obtain ⟨kk,x1,x2⟩:=k2 j t m ht hm;exact ⟨t,kk,rfl,x1,x2⟩
 ·rw [merged_nil_of_nodup more (by rw [YI k1];exact hn)] at hd;obtain ⟨o,es,ep,ho',_⟩:=id hd;refine ⟨.ref s.heap.objs.size,_,I.laid (t':=tk) (o:= .frz o (.dK kvs)) k (yU _) ⟨ho',GK (by omega) (beq_eq_false_iff_ne.mpr (Ne.symm (yH I.big))) k1 hd⟩,rfl,q _ _ (I.hok.fresh (yU _))⟩
end
end L2
namespace Mi
open PySem L2
variable{H H' H0 Hb Hs Hs' Hs0:Hp}{u v:V}{ks:List z9}{C p:Addr}{ns:List Str}{vs:List V}{o:HO}{σ σ':St}{tb te:TE}{r:R2}{ta:TA}{n:Nat}{K:Fg}{t:TT}{E:XK}{nm:Str}{ts:List Nat}{tg:TG}{lo:Int}{wi:TI}
inductive PV where
 |at (v:V)|tup (xs:List PV)|lst (xs:List PV)|dk (ks:List z9) (xs:List PV)|fk (ks:List z9) (xs:List PV)|ob (C:Addr) (ns:List Str) (xs:List PV)|op (φ:Hp->V->Prop)
variable{xs:List PV}{x y:PV}{m:List PV->Option PV}
mutual
def Rep (H:Hp):PV->V->Prop
 | .at u,v=>v=u
 | .tup xs,v=>∃ a vs,v = .ref a/\H a=some (.tup vs)/\Reps H xs vs
 | .lst xs,v=>∃ a vs,v = .ref a/\H a=some (.lst vs)/\Reps H xs vs
 | .dk ks xs,v=>∃ a kvs,v = .ref a/\H a=some (.dK kvs)/\kvs.map (·.1)=ks/\Reps H xs (kvs.map (·.2))
 | .fk ks xs,v=>∃ a o kvs,v = .ref a/\H a=some (.frz o (.dK kvs))/\kvs.map (·.1)=ks/\Reps H xs (kvs.map (·.2))
 | .ob C ns xs,v=>∃ a dx fs,v = .ref a/\H a=some (.ins C dx fs)/\fs.map (·.1)=ns/\Reps H xs (fs.map (·.2))
 | .op φ,v=>∃ H',Same H' H/\φ H' v
def Reps (H:Hp):List PV->List V->Prop
 |[],vs=>vs=[]
 |x::xs,vs=>∃ v r,vs=v::r/\Rep H x v/\Reps H xs r
end
mutual
theorem Rep.mono {H H':Hp}(g:Same H H'):∀{x:PV}{v:V},Rep H x v->Rep H' x v
 | .at u,v,h=>by unfold Rep at h ⊢;exact h
 | .tup xs,v,h=>by unfold Rep at h ⊢;obtain ⟨a,vs,e,p,r⟩:=h;exact ⟨a,vs,e,g _ _ p,Reps.mono g r⟩
 | .lst xs,v,h=>by unfold Rep at h ⊢;obtain ⟨a,vs,e,p,r⟩:=h;exact ⟨a,vs,e,g _ _ p,Reps.mono g r⟩
 | .dk ks xs,v,h=>by unfold Rep at h ⊢;obtain ⟨a,vs,e,p,q,r⟩:=h;exact ⟨a,vs,e,g _ _ p,q,Reps.mono g r⟩
 | .fk ks xs,v,h=>by unfold Rep at h ⊢;obtain ⟨a,o,vs,e,p,q,r⟩:=h;exact ⟨a,o,vs,e,g _ _ p,q,Reps.mono g r⟩
 | .ob C ns xs,v,h=>by unfold Rep at h ⊢;obtain ⟨a,dx,vs,e,p,q,r⟩:=h;exact ⟨a,dx,vs,e,g _ _ p,q,Reps.mono g r⟩
 | .op φ,v,h=>by unfold Rep at h ⊢;obtain ⟨H1,s,p⟩:=h;exact ⟨H1,s.trans g,p⟩
theorem Reps.mono {H H':Hp}(g:Same H H'):∀{xs:List PV}{vs:List V},Reps H xs vs->Reps H' xs vs
 |[],vs,h=>by unfold Reps at h ⊢;exact h
 |x::xs,vs,h=>by unfold Reps at h ⊢;obtain ⟨v,r,e,p,q⟩:=h;exact ⟨v,r,e,Rep.mono g p,Reps.mono g q⟩
end
theorem rep_at :Rep H (.at u) v↔v=u:=by unfold Rep;exact Iff.rfl
theorem rep_tup :Rep H (.tup xs) v↔∃ a vs,v = .ref a/\H a=some (.tup vs)/\Reps H xs vs:=by unfold Rep;exact Iff.rfl
theorem rep_lst :Rep H (.lst xs) v↔∃ a vs,v = .ref a/\H a=some (.lst vs)/\Reps H xs vs:=by unfold Rep;exact Iff.rfl
theorem rep_dk :Rep H (.dk ks xs) v↔∃ a kvs,v = .ref a/\H a=some (.dK kvs)/\kvs.map (·.1)=ks/\Reps H xs (kvs.map (·.2)):=by unfold Rep;exact Iff.rfl
theorem rep_fk :Rep H (.fk ks xs) v↔∃ a o kvs,v = .ref a/\H a=some (.frz o (.dK kvs))/\kvs.map (·.1)=ks/\Reps H xs (kvs.map (·.2)):=by unfold Rep;exact Iff.rfl
theorem rep_ob :Rep H (.ob C ns xs) v↔∃ a dx fs,v = .ref a/\H a=some (.ins C dx fs)/\fs.map (·.1)=ns/\Reps H xs (fs.map (·.2)):=by unfold Rep;exact Iff.rfl
theorem rep_op {φ:Hp->V->Prop}:Rep H (.op φ) v↔∃ H',Same H' H/\φ H' v:=by unfold Rep;exact Iff.rfl
theorem reps_nil :Reps H [] vs↔vs=[]:=by unfold Reps;exact Iff.rfl
theorem reps_cons :Reps H (x::xs) vs↔∃ v r,vs=v::r/\Rep H x v/\Reps H xs r:=by
 constructor
 ·intro h;unfold Reps at h;exact h
 ·intro h;unfold Reps;exact h
theorem Reps.nil {H:Hp}:Reps H [] []:=reps_nil.mpr rfl
theorem Reps.cons {H:Hp}{x:PV}{v:V}{xs:List PV}{vs:List V}(p:Rep H x v)(q:Reps H xs vs):Reps H (x::xs) (v::vs):=reps_cons.mpr ⟨v,vs,rfl,p,q⟩
theorem Reps.length {H:Hp}:∀{xs:List PV}{vs:List V},Reps H xs vs->vs.length=xs.length
 |[],vs,h=>by rw [reps_nil.mp h];rfl
 |x::xs,vs,h=>by obtain ⟨v,r,rfl,_,q⟩:=reps_cons.mp h;rw [yG,yG,Reps.length q]
theorem Reps.append {H:Hp}:∀{xs ys:List PV}{vs ws:List V},Reps H xs vs->Reps H ys ws->Reps H (xs++ys) (vs++ws)
 |[],ys,vs,ws,h,k=>by rw [reps_nil.mp h];exact k
 |x::xs,ys,vs,ws,h,k=>by obtain ⟨v,r,rfl,p,q⟩:=reps_cons.mp h;exact .cons p (Reps.append q k)
theorem Reps.one (p:Rep H x v):Reps H [x] [v]:= .cons p .nil
theorem Reps.get {H:Hp}:∀{xs:List PV}{vs:List V}{i:Nat}{x:PV},Reps H xs vs->xs[i]?=some x->∃ v,vs[i]?=some v/\Rep H x v
 |[],_,i,x,_,e=>by simp at e
 |y::xs,vs,0,x,h,e=>by
  obtain ⟨v,r,rfl,p,q⟩:=reps_cons.mp h;simp at e;subst e;exact ⟨v,rfl,p⟩
 |y::xs,vs,i+1,x,h,e=>by
  obtain ⟨v,r,rfl,p,q⟩:=reps_cons.mp h;obtain ⟨w,e1,e2⟩:=Reps.get (i:=i) (x:=x) q (by simpa using e);exact ⟨w,by simpa using e1,e2⟩
theorem Reps.take {H:Hp}:∀(n:Nat){xs:List PV}{vs:List V},Reps H xs vs->Reps H (xs.take n) (vs.take n)
 |0,_,_,_=>by rw [List.take_zero,List.take_zero];exact .nil
 |n+1,[],vs,h=>by rw [reps_nil.mp h];exact .nil
 |n+1,x::xs,vs,h=>by
  obtain ⟨v,r,rfl,p,q⟩:=reps_cons.mp h;exact .cons p (Reps.take n q)
theorem Reps.drop {H:Hp}:∀(n:Nat){xs:List PV}{vs:List V},Reps H xs vs->Reps H (xs.drop n) (vs.drop n)
 |0,_,_,h=>h
 |n+1,[],vs,h=>by rw [reps_nil.mp h];exact .nil
 |n+1,x::xs,vs,h=>by
  obtain ⟨v,r,rfl,p,q⟩:=reps_cons.mp h;exact Reps.drop n q
theorem Reps.ats {H:Hp}:∀{us vs:List V},Reps H (us.map .at) vs->vs=us
 |[],vs,h=>reps_nil.mp h
 |u::us,vs,h=>by
  obtain ⟨v,r,rfl,p,q⟩:=reps_cons.mp h;rw [rep_at.mp p,Reps.ats q]
theorem Reps.ofAts {H:Hp}:∀(us:List V),Reps H (us.map .at) us
 |[]=> .nil
 |u::us=> .cons (rep_at.mpr rfl) (Reps.ofAts us)
structure Ext (Hs H Hs' H':Hp):Prop where
 s1:Same Hs Hs'
 s2:Same H H'
 s3:Same Hs' H'
 s4:∀ b,H b≠none->Hs b=none->Hs' b=none
theorem Yh (g:Same H H'){b:Addr}(h:H b≠none):H' b≠none:=λz=>h (g.free z)
theorem Ext.refl (s:Same Hs H):Ext Hs H Hs H:=⟨.refl _,.refl _,s,λ_ _ z=>z⟩
theorem Ext.trans {A B A1 B1 A2 B2:Hp}(x:Ext A B A1 B1)(y:Ext A1 B1 A2 B2):Ext A B A2 B2:=⟨x.s1.trans y.s1,x.s2.trans y.s2,y.s3,λb h z=>y.s4 b (Yh x.s2 h) (x.s4 b h z)⟩
theorem Ext.new (s:Same Hs H)(h:H p=none):Ext Hs H (j4 Hs p o) (j4 H p o):=by
 have hs:Hs p=none:=s.free h;refine ⟨λb u e=>?_,λb u e=>?_,λb u e=>?_,λb e z=>?_⟩
 ·rw [z5 (u6 e hs)];exact e
 ·rw [z5 (u6 e h)];exact e
 ·by_cases hb:b=p
  ·subst hb;rw [y9] at e ⊢;exact e
  ·rw [z5 hb] at e ⊢;exact s _ _ e
 ·have hb:b≠p:=λq=>e (by rw [q];exact h);rw [z5 hb];exact z
theorem Ext.newO (s:Same Hs H)(h:H p=none):Ext Hs H Hs (j4 H p o) :=
 ⟨.refl _,λb u e=>by rw [z5 (u6 e h)];exact e,λb u e=>by rw [z5 (u6 (s _ _ e) h)];exact s _ _ e,λ_ _ z=>z⟩
def Top (Hs H:Hp)(a:Addr):PV->Prop
 | .lst xs=>∃ vs,H a=some (.lst vs)/\Reps Hs xs vs
 | .dk ks xs=>∃ kvs,H a=some (.dK kvs)/\kvs.map (·.1)=ks/\Reps Hs xs (kvs.map (·.2))
 | .ob C ns xs=>∃ dx fs,H a=some (.ins C dx fs)/\fs.map (·.1)=ns/\Reps Hs xs (fs.map (·.2))
 |_=>False
theorem Top.there {a:Addr}:∀{x:PV},Top Hs H a x->H a≠none
 | .lst _,h,z=>by obtain ⟨vs,e,_⟩:=h;rw [e] at z;cases z
 | .dk _ _,h,z=>by obtain ⟨vs,e,_⟩:=h;rw [e] at z;cases z
 | .ob _ _ _,h,z=>by obtain ⟨dx,vs,e,_⟩:=h;rw [e] at z;cases z
theorem Top.mono {a:Addr}(g:Same Hs Hs')(e:∀ o,H a=some o->H' a=some o):∀{x:PV},Top Hs H a x->Top Hs' H' a x
 | .lst _,h=>by obtain ⟨vs,q,r⟩:=h;exact ⟨vs,e _ q,r.mono g⟩
 | .dk _ _,h=>by obtain ⟨vs,q,k,r⟩:=h;exact ⟨vs,e _ q,k,r.mono g⟩
 | .ob _ _ _,h=>by obtain ⟨dx,vs,q,k,r⟩:=h;exact ⟨dx,vs,e _ q,k,r.mono g⟩
theorem Top.rep {a:Addr}:∀{x:PV},Top Hs H a x->Hs a=none->∃ o,H a=some o/\Rep (j4 Hs a o) x (.ref a)
 | .lst _,h,n=>by
  obtain ⟨vs,q,r⟩:=h;exact ⟨_,q,rep_lst.mpr ⟨a,vs,rfl,y9,r.mono λb u e=>by rw [z5 (u6 e n)];exact e⟩⟩
 | .dk _ _,h,n=>by
  obtain ⟨vs,q,k,r⟩:=h;exact ⟨_,q,rep_dk.mpr ⟨a,vs,rfl,y9,k,r.mono λb u e=>by rw [z5 (u6 e n)];exact e⟩⟩
 | .ob _ _ _,h,n=>by
  obtain ⟨dx,vs,q,k,r⟩:=h;exact ⟨_,q,rep_ob.mpr ⟨a,dx,vs,rfl,y9,k,r.mono λb u e=>by rw [z5 (u6 e n)];exact e⟩⟩
theorem Ext.share {a:Addr}(x:Ext Hs H Hs' H')(h:H a=none)(n:Hs' a=none)(e:H' a=some o):Ext Hs H (j4 Hs' a o) H':=by
 refine ⟨λb u q=>?_,x.s2,λb u q=>?_,λb q z=>?_⟩
 ·rw [z5 (u6 (x.s1 _ _ q) n)];exact x.s1 _ _ q
 ·by_cases hb:b=a
  ·subst hb;rw [y9] at q;cases q;exact e
  ·rw [z5 hb] at q;exact x.s3 _ _ q
 ·have hb:b≠a:=λr=>q (by rw [r];exact h);rw [z5 hb];exact x.s4 b q z
def RepB (Hs H:Hp)(x:PV)(v:V):Prop:=Rep Hs x v∨∃ a,v = .ref a/\Hs a=none/\Top Hs H a x
theorem RepB.ext (e:Ext Hs H Hs' H')(h:RepB Hs H x v):RepB Hs' H' x v:=by
 rcases h with h|⟨a,rfl,n,t⟩
 ·exact .inl (h.mono e.s1)
 ·exact .inr ⟨a,rfl,e.s4 a t.there n,t.mono e.s1 λo q=>e.s2 _ _ q⟩
inductive MSlot where
 |no|sh (x:PV)|ow (x:PV)|bo (x:PV)
abbrev ME:=List MSlot
variable{ε:ME}
def Own (H0 Hs H:Hp)(a:Addr)(x:PV):Prop:=H0 a=none/\Hs a=none/\Top Hs H a x
structure RS (Hs0 H0 Hs H:Hp)(σ:St)(ε:ME):Prop where
 ext:Ext Hs0 H0 Hs H
 sh:∀(i:Nat)(x:PV),ε[i]?=some (.sh x)->∃ v,σ[i]?=some (some v)/\Rep Hs x v
 ow:∀(i:Nat)(x:PV),ε[i]?=some (.ow x)->∃ a,σ[i]?=some (some (.ref a))/\Own H0 Hs H a x
 nd:∀(i j:Nat)(x y:PV)(a:Addr),ε[i]?=some (.ow x)->ε[j]?=some (.ow y)->σ[i]?=some (some (.ref a))->σ[j]?=some (some (.ref a))->i=j
 len:σ.length=ε.length
 bo:∀(i:Nat)(x:PV),ε[i]?=some (.bo x)->∃ v,σ[i]?=some (some v)/\(Rep Hs x v∨∃ a,v = .ref a/\H0 a≠none/\Hs a=none/\Top Hs H a x)
section
variable {Hs0 H0 Hs H Hs' H':Hp}{σ:St}{ε:ME}
theorem RS.go (r:RS Hs0 H0 Hs H σ ε)(e:Ext Hs H Hs' H'):RS Hs0 H0 Hs' H' σ ε where
 ext:=r.ext.trans e
 sh:=λi x q=>by obtain ⟨v,a,b⟩:=r.sh i x q;exact ⟨v,a,b.mono e.s1⟩
 ow:=λi x q=>by
  obtain ⟨a,b,n0,n,t⟩:=r.ow i x q;exact ⟨a,b,n0,e.s4 a t.there n,t.mono e.s1 λo z=>e.s2 _ _ z⟩
 nd:=r.nd
 len:=r.len
 bo:=λi x q=>by
  obtain ⟨v,b,h|⟨a,rfl,n0,n,t⟩⟩:=r.bo i x q
  ·exact ⟨v,b,.inl (h.mono e.s1)⟩
  ·exact ⟨_,b,.inr ⟨a,rfl,n0,e.s4 a t.there n,t.mono e.s1 λo z=>e.s2 _ _ z⟩⟩
theorem RS.sub (r:RS Hs0 H0 Hs H σ ε):Same Hs H:=r.ext.s3
theorem RS.rebase (r:RS Hs0 H0 Hs H σ ε):RS Hs H0 Hs H σ ε:=⟨⟨.refl _,r.ext.s2,r.ext.s3,λ_ _ z=>z⟩,r.sh,r.ow,r.nd,r.len,r.bo⟩
theorem Ext.unbase (r:Ext Hs0 H0 Hb H)(e:Ext Hb H0 Hs' H'):Ext Hs0 H0 Hs' H':=⟨r.s1.trans e.s1,e.s2,e.s3,λb h z=>e.s4 b h (r.s4 b h z)⟩
theorem RS.unbase {ε':ME}(r:Ext Hs0 H0 Hb H)(e:RS Hb H0 Hs' H' σ' ε'):RS Hs0 H0 Hs' H' σ' ε':=⟨r.unbase e.ext,e.sh,e.ow,e.nd,e.len,e.bo⟩
theorem RS.put (r:RS Hs0 H0 Hs H σ ε){i:Nat}(h:Rep Hs x v):RS Hs0 H0 Hs H (σ.set i (some v)) (ε.set i (.sh x)) where
 ext:=r.ext
 sh:=λj y q=>by
  rw [yv] at q ⊢;split at q
  ·rename_i hij;split at q
   ·rename_i hl;injection q with q;injection q with q;subst q;rw [if_pos hij,if_pos (by rw [r.len,hij];rw [hij] at hl;exact hl)];exact ⟨v,rfl,h⟩
   ·cases q
  ·rename_i hij;rw [if_neg hij];exact r.sh j y q
 ow:=λj y q=>by
  rw [yv] at q ⊢;split at q
  ·split at q<;>cases q
  ·rename_i hij;rw [if_neg hij];exact r.ow j y q
 nd:=λj k x y a h1 h2 h3 h4=>by
  rw [yv] at h1 h2 h3 h4;split at h1
  ·split at h1<;>cases h1
  ·rename_i hj;rw [if_neg hj] at h3;split at h2
   ·split at h2<;>cases h2
   ·rename_i hk;rw [if_neg hk] at h4;exact r.nd j k x y a h1 h2 h3 h4
 len:=by rw [ym,ym,r.len]
 bo:=λj y q=>by
  rw [yv] at q ⊢;split at q
  ·split at q<;>cases q
  ·rename_i hij;rw [if_neg hij];exact r.bo j y q
theorem RS.putO (r:RS Hs0 H0 Hs H σ ε){i:Nat}{a:Addr}(h:Own H0 Hs H a x)(ne:∀(j:Nat)(y:PV),ε[j]?=some (.ow y)->σ[j]?≠some (some (.ref a))):RS Hs0 H0 Hs H (σ.set i (some (.ref a))) (ε.set i (.ow x)) where
 ext:=r.ext
 sh:=λj y q=>by
  rw [yv] at q ⊢;split at q
  ·split at q<;>cases q
  ·rename_i hij;rw [if_neg hij];exact r.sh j y q
 ow:=λj y q=>by
  rw [yv] at q ⊢;split at q
  ·rename_i hij;split at q
   ·rename_i hl;injection q with q;injection q with q;subst q;rw [if_pos hij,if_pos (by rw [r.len,hij];rw [hij] at hl;exact hl)];exact ⟨a,rfl,h⟩
   ·cases q
  ·rename_i hij;rw [if_neg hij];exact r.ow j y q
 nd:=λj k x' y b h1 h2 h3 h4=>by
  rw [yv] at h1 h2 h3 h4;split at h1
  ·rename_i hj;rw [if_pos hj] at h3;split at h1
   ·rename_i hl;rw [if_pos (by rw [r.len];exact hl)] at h3;injection h3 with h3;injection h3 with h3;injection h3 with h3;subst h3;split at h2
    ·rename_i hk;exact hj.symm.trans hk
    ·rename_i hk;rw [if_neg hk] at h4;exact absurd h4 (ne k y h2)
   ·cases h1
  ·rename_i hj;rw [if_neg hj] at h3;split at h2
   ·rename_i hk;rw [if_pos hk] at h4;split at h2
    ·rename_i hl;rw [if_pos (by rw [r.len];exact hl)] at h4;injection h4 with h4;injection h4 with h4;injection h4 with h4;subst h4;exact absurd h3 (ne j x' h1)
    ·cases h2
   ·rename_i hk;rw [if_neg hk] at h4;exact r.nd j k x' y b h1 h2 h3 h4
 len:=by rw [ym,ym,r.len]
 bo:=λj y q=>by
  rw [yv] at q ⊢;split at q
  ·split at q<;>cases q
  ·rename_i hij;rw [if_neg hij];exact r.bo j y q
theorem RS.change (r:RS Hs0 H0 Hs H σ ε){i:Nat}{a:Addr}(hi:ε[i]?=some (.ow x))(ha:σ[i]?=some (some (.ref a)))(t:Top Hs (j4 H a o) a y):RS Hs0 H0 Hs (j4 H a o) σ (ε.set i (.ow y)):=by
 obtain ⟨b,hb,n0,n,tx⟩:=r.ow i x hi;rw [ha] at hb;injection hb with hb;injection hb with hb;injection hb with hb;subst hb;refine ⟨⟨r.ext.s1,λb u e=>?_,λb u e=>?_,r.ext.s4⟩,λj z q=>?_,λj z q=>?_,λj k z z' c h1 h2 h3 h4=>?_,by rw [ym,r.len],λj z q=>?_⟩
 ·rw [z5 (u6 e n0)];exact r.ext.s2 _ _ e
 ·rw [z5 (u6 e n)];exact r.ext.s3 _ _ e
 ·rw [yv] at q;split at q
  ·split at q<;>cases q
  ·exact r.sh j z q
 ·rw [yv] at q;split at q
  ·rename_i hij;split at q
   ·injection q with q;injection q with q;subst q;exact ⟨a,hij▸ha,n0,n,t⟩
   ·cases q
  ·rename_i hij;obtain ⟨c,hc,m0,m,tc⟩:=r.ow j z q;have hne:c≠a:=λe=>hij (r.nd i j x z a hi q ha (e▸hc));exact ⟨c,hc,m0,m,tc.mono (.refl _) λo' e=>by rw [z5 hne];exact e⟩
 ·have down:∀{m:Nat}{w:PV},(ε.set i (.ow y))[m]?=some (.ow w)->∃ w',ε[m]?=some (.ow w'):=by
   intro m w q;rw [yv] at q;split at q
   ·rename_i him;exact ⟨x,him▸hi⟩
   ·exact ⟨w,q⟩
  obtain ⟨w1,q1⟩:=down h1;obtain ⟨w2,q2⟩:=down h2;exact r.nd j k w1 w2 c q1 q2 h3 h4
 ·rw [yv] at q;split at q
  ·split at q<;>cases q
  ·obtain ⟨v,hv,h|⟨c,rfl,m0,m,tc⟩⟩:=r.bo j z q
   ·exact ⟨v,hv,.inl h⟩
   ·have hne:c≠a:=λe=>m0 (e▸n0);exact ⟨_,hv,.inr ⟨c,rfl,m0,m,tc.mono (.refl _) λo' e=>by rw [z5 hne];exact e⟩⟩
def fz (i:Nat)(ε:ME):ME:=match ε[i]? with
 |some (.ow x)=>ε.set i (.sh x)
 |_=>ε
end
theorem wN {j:Nat}{s:MSlot}(h:∀(i:Nat)(x:PV),ε[i]?≠some (.bo x))(hs:∀ x,s ≠ .bo x):∀(i:Nat)(x:PV),(ε.set j s)[i]?≠some (.bo x):=λi x q=>by
 rw [yv] at q;split at q
 ·split at q
  ·injection q with q;exact hs x q
  ·cases q
 ·exact h i x q
abbrev M:=ME->Option PV
variable{a b:M}
abbrev MB:=ME->Option Bool
variable{c:MB}
abbrev MA:=ME->Option (List PV)
variable{as f:MA}
class SemE (te:TE)(f:M):Prop where
 h:∀{ε y},f ε=some y->∀{Hs0 H0 Hs H σ},RS Hs0 H0 Hs H σ ε->∀{Q:VK},(∀ v Hs' H',Ext Hs H Hs' H'->Rep Hs' y v->Q v H')->te σ H Q
class i4 (te:TE)(f:M):Prop where
 h:∀{ε y},f ε=some y->∀{Hs0 H0 Hs H σ},RS Hs0 H0 Hs H σ ε->∀{Q:VK},(∀ v Hs' H',Ext Hs H Hs' H'->RepB Hs' H' y v->Q v H')->te σ H Q
class xh (te:TE)(f:M):Prop where
 h:∀{ε y},f ε=some y->∀{Hs0 H0 Hs H σ},RS Hs0 H0 Hs H σ ε->∀{Q:VK},(∀ a Hs' H',Ext Hs H Hs' H'->H a=none->Hs' a=none->Top Hs' H' a y->Q (.ref a) H')->te σ H Q
class qR (tt:TT)(f:MB):Prop where
 h:∀{ε y},f ε=some y->∀{Hs0 H0 Hs H σ},RS Hs0 H0 Hs H σ ε->∀{Q:Bool->Hp->Prop},(∀ Hs' H',Ext Hs H Hs' H'->Q y H')->tt σ H Q
class xg (ta:TA)(f:MA):Prop where
 h:∀{ε ys},f ε=some ys->∀{Hs0 H0 Hs H σ},RS Hs0 H0 Hs H σ ε->∀{Q:List V->Hp->Prop},(∀ vs Hs' H',Ext Hs H Hs' H'->Reps Hs' ys vs->Q vs H')->ta σ H Q
def wa (Hs H:Hp):List PV->List V->Prop
 |[],vs=>vs=[]
 |x::xs,vs=>∃ v r,vs=v::r/\RepB Hs H x v/\wa Hs H xs r
class Qk (ta:TA)(f:MA):Prop where
 h:∀{ε ys},f ε=some ys->∀{Hs0 H0 Hs H σ},RS Hs0 H0 Hs H σ ε->∀{Q:List V->Hp->Prop},(∀ vs Hs' H',Ext Hs H Hs' H'->wa Hs' H' ys vs->Q vs H')->ta σ H Q
class xi (r:R2)(g:PV->PV->Option PV):Prop where
 h:∀{x y z},g x y=some z->∀{Hs H:Hp}{v w:V},Same Hs H->RepB Hs H x v->RepB Hs H y w->∀{Q:VK},(∀ u Hs' H',Ext Hs H Hs' H'->Rep Hs' z u->Q u H')->r v w H Q
class YM (r:R2)(g:PV->PV->Option PV):Prop where
 h:∀{x y z},g x y=some z->∀{Hs H:Hp}{v w:V},Same Hs H->RepB Hs H x v->RepB Hs H y w->∀{Q:VK},(∀ a Hs' H',Ext Hs H Hs' H'->H a=none->Hs' a=none->Top Hs' H' a z->Q (.ref a) H')->r v w H Q
instance (priority:=50) semE_O {f:M}[s:xh te f]:SemE te f where
 h:=λe _ _ _ _ _ r _ q=>s.h e r λa Hs' H' x h n t=>by
  obtain ⟨o,ho,hr⟩:=t.rep n;exact q _ _ _ (x.share h n ho) hr
instance (priority:=50) semB_E {f:M}[s:SemE te f]:i4 te f where
 h:=λe _ _ _ _ _ r _ q=>s.h e r λv Hs' H' x h=>q v Hs' H' x (.inl h)
def q8 (i:Nat):M:=λε=>match ε[i]? with
 |some (.sh x)=>some x
 |_=>none
def q9 (i:Nat):M:=λε=>match ε[i]? with
 |some (.sh x)=>some x
 |some (.ow x)=>some x
 |some (.bo x)=>some x
 |_=>none
def dC (v:V):M:=λ_=>some (.at v)
instance {i:Nat}:SemE (qb i) (q8 i) where
 h:=λ{ε y} e {_ _ _ _ _} r {_} q=>by
  unfold q8 at e;split at e
  ·rename_i x hx;cases e;obtain ⟨v,h1,h2⟩:=r.sh i _ hx;exact ⟨v,h1,q v _ _ (.refl r.sub) h2⟩
  ·cases e
instance {i:Nat}:i4 (qb i) (q9 i) where
 h:=λ{ε y} e {_ _ _ _ _} r {_} q=>by
  unfold q9 at e;split at e
  ·rename_i x hx;cases e;obtain ⟨v,h1,h2⟩:=r.sh i _ hx;exact ⟨v,h1,q v _ _ (.refl r.sub) (.inl h2)⟩
  ·rename_i x hx;cases e;obtain ⟨a,h1,_,n,t⟩:=r.ow i _ hx;exact ⟨_,h1,q _ _ _ (.refl r.sub) (.inr ⟨a,rfl,n,t⟩)⟩
  ·rename_i x hx;cases e;obtain ⟨v,h1,h2|⟨a,rfl,_,n,t⟩⟩:=r.bo i _ hx
   ·exact ⟨v,h1,q v _ _ (.refl r.sub) (.inl h2)⟩
   ·exact ⟨_,h1,q _ _ _ (.refl r.sub) (.inr ⟨a,rfl,n,t⟩)⟩
  ·cases e
instance :SemE (tC v) (dC v) where
 h:=λe _ _ _ _ _ r _ q=>by cases e;exact q v _ _ (.refl r.sub) (rep_at.mpr rfl)
def x8 (g:PV->PV->Option PV)(a b:M):M:=λε=>(a ε).bind λx=>(b ε).bind λy=>g x y
theorem bind_some {α β:Type}{o:Option α}{f:α->Option β}{y:β}(h:o.bind f=some y):∃ x,o=some x/\f x=some y:=by
 cases o with
 |none=>cases h
 |some x=>exact ⟨x,rfl,h⟩
instance {g:PV->PV->Option PV}{ta:TE}[sr:xi r g][sa:i4 ta a][sb:i4 tb b]:SemE (tOp r ta tb) (x8 g a b) where
 h:=λe _ _ _ _ _ rs _ q=>by
  obtain ⟨x,ex,e⟩:=bind_some e;obtain ⟨y,ey,e⟩:=bind_some e;exact sa.h ex rs λv Hs1 H1 x1 r1=>sb.h ey (rs.go x1) λw Hs2 H2 x2 r2=>sr.h e x2.s3 (r1.ext x2) r2 λu Hs3 H3 x3 r3=>q u _ _ (x1.trans (x2.trans x3)) r3
instance {g:PV->PV->Option PV}{ta:TE}[sr:YM r g][sa:i4 ta a][sb:i4 tb b]:xh (tOp r ta tb) (x8 g a b) where
 h:=λe _ _ _ _ _ rs _ q=>by
  obtain ⟨x,ex,e⟩:=bind_some e;obtain ⟨y,ey,e⟩:=bind_some e;exact sa.h ex rs λv Hs1 H1 x1 r1=>sb.h ey (rs.go x1) λw Hs2 H2 x2 r2=>sr.h e x2.s3 (r1.ext x2) r2 λu Hs3 H3 x3 n n' r3=>q u _ _ (x1.trans (x2.trans x3)) (x1.s2.free (x2.s2.free n)) n' r3
def x6:MA:=λ_=>some []
def q0 (a:M)(r:MA):MA:=λε=>(a ε).bind λx=>(r ε).bind λxs=>some (x::xs)
instance:xg i7 x6 where
 h:=λe _ _ _ _ _ r _ q=>by cases e;exact q [] _ _ (.refl r.sub) .nil
instance [sa:SemE te a][sr:xg ta f]:xg (i0 te ta) (q0 a f) where
 h:=λe _ _ _ _ _ rs _ q=>by
  obtain ⟨x,ex,e⟩:=bind_some e;obtain ⟨xs,ey,e⟩:=bind_some e;cases e;exact sa.h ex rs λv Hs1 H1 x1 r1=>sr.h ey (rs.go x1) λvs Hs2 H2 x2 r2=>q _ _ _ (x1.trans x2) (.cons (r1.mono x2.s1) r2)
instance:Qk i7 x6 where
 h:=λe _ _ _ _ _ r _ q=>by cases e;exact q [] _ _ (.refl r.sub) rfl
instance [sa:i4 te a][sr:Qk ta f]:Qk (i0 te ta) (q0 a f) where
 h:=λe _ _ _ _ _ rs _ q=>by
  obtain ⟨x,ex,e⟩:=bind_some e;obtain ⟨xs,ey,e⟩:=bind_some e;cases e;exact sa.h ex rs λv Hs1 H1 x1 r1=>sr.h ey (rs.go x1) λvs Hs2 H2 x2 r2=>q _ _ _ (x1.trans x2) ⟨_,_,rfl,r1.ext x2,r2⟩
def lim:Nat:=1000000
theorem qW (h:n<=lim):n<=sizeLine:=yg h (by rw [sizeLine_eq];decide)
theorem QE (h:n<=lim):n<sizeLine:=Nat.lt_of_le_of_lt h (by rw [sizeLine_eq];decide)
def f6 (a:MA):M:=λε=>(a ε).bind λxs=>if xs.length<=lim then some (.tup xs) else none
def xr (a:MA):M:=λε=>(a ε).bind λxs=>if xs.length<=lim then some (.lst xs) else none
instance [sa:xg ta f]:SemE (tTup ta) (f6 f) where
 h:=λe _ _ _ _ _ rs _ q=>by
  obtain ⟨xs,ex,e⟩:=bind_some e;split at e
  ·rename_i hl;cases e;exact sa.h ex rs λvs Hs1 H1 x1 r1=>⟨qW (r1.length▸hl),λp hp=>q _ _ _ (x1.trans (.new x1.s3 hp)) (rep_tup.mpr ⟨p,vs,rfl,y9,r1.mono (Ext.new x1.s3 hp).s1⟩)⟩
  ·cases e
instance [sa:xg ta f]:xh (tLst ta) (xr f) where
 h:=λe _ _ _ _ _ rs _ q=>by
  obtain ⟨xs,ex,e⟩:=bind_some e;split at e
  ·rename_i hl;cases e;exact sa.h ex rs λvs Hs1 H1 x1 r1=>⟨qW (r1.length▸hl),λp hp=>q _ _ _ (x1.trans (.newO x1.s3 hp)) (x1.s2.free hp) (x1.s3.free hp) ⟨vs,y9,r1⟩⟩
  ·cases e
theorem b7 (h:RepB Hs H (.at u) v):v=u:=by
 rcases h with h|⟨a,_,_,t⟩
 ·exact rep_at.mp h
 ·exact t.elim
theorem qa (s:Same Hs H)(h:RepB Hs H (.lst xs) v):∃ a vs,v = .ref a/\H a=some (.lst vs)/\Reps Hs xs vs:=by
 rcases h with h|⟨a,rfl,_,vs,e,r⟩
 ·obtain ⟨a,vs,rfl,e,r⟩:=rep_lst.mp h;exact ⟨a,vs,rfl,s _ _ e,r⟩
 ·exact ⟨a,vs,rfl,e,r⟩
theorem qY (s:Same Hs H)(h:RepB Hs H (.tup xs) v):∃ a vs,v = .ref a/\H a=some (.tup vs)/\Reps Hs xs vs:=by
 rcases h with h|⟨a,rfl,_,t⟩
 ·obtain ⟨a,vs,rfl,e,r⟩:=rep_tup.mp h;exact ⟨a,vs,rfl,s _ _ e,r⟩
 ·exact t.elim
theorem Xl (s:Same Hs H)(h:RepB Hs H (.fk ks xs) v):∃ a o kvs,v = .ref a/\H a=some (.frz o (.dK kvs))/\kvs.map (·.1)=ks/\Reps Hs xs (kvs.map (·.2)):=by
 rcases h with h|⟨a,rfl,n,t⟩
 ·obtain ⟨a,o,kvs,rfl,e,k,r⟩:=rep_fk.mp h;exact ⟨a,o,kvs,rfl,s _ _ e,k,r⟩
 ·exact t.elim
theorem jQ (s:Same Hs H)(h:RepB Hs H (.dk ks xs) v):∃ a kvs,v = .ref a/\H a=some (.dK kvs)/\kvs.map (·.1)=ks/\Reps Hs xs (kvs.map (·.2)):=by
 rcases h with h|⟨a,rfl,_,kvs,e,k,r⟩
 ·obtain ⟨a,kvs,rfl,e,k,r⟩:=rep_dk.mp h;exact ⟨a,kvs,rfl,s _ _ e,k,r⟩
 ·exact ⟨a,kvs,rfl,e,k,r⟩
theorem Pe (s:Same Hs H)(h:RepB Hs H (.ob C ns xs) v):∃ a dx fs,v = .ref a/\H a=some (.ins C dx fs)/\fs.map (·.1)=ns/\Reps Hs xs (fs.map (·.2)):=by
 rcases h with h|⟨a,rfl,_,dx,fs,e,k,r⟩
 ·obtain ⟨a,dx,fs,rfl,e,k,r⟩:=rep_ob.mp h;exact ⟨a,dx,fs,rfl,s _ _ e,k,r⟩
 ·exact ⟨a,dx,fs,rfl,e,k,r⟩
def pI (g:Int->Int->Option V):PV->PV->Option PV
 | .at (.int i),.at (.int j)=>(g i j).map .at
 |_,_=>none
theorem Bq {g:Int->Int->Option V}{z:PV}(h:pI g x y=some z):∃ i j u,x = .at (.int i)/\y = .at (.int j)/\g i j=some u/\z = .at u:=by
 unfold pI at h;split at h
 ·rename_i i j;obtain ⟨u,e,rfl⟩:=yJ.mp h;exact ⟨i,j,u,rfl,rfl,e,rfl⟩
 ·cases h
instance {g:Int->Int->V}:xi (rI0 g) (pI λi j=>some (g i j)) where
 h:=λe _ _ _ _ s a b _ q=>by
  obtain ⟨i,j,u,rfl,rfl,e,rfl⟩:=Bq e;cases e;exact ⟨i,j,b7 a,b7 b,q _ _ _ (.refl s) (rep_at.mpr rfl)⟩
instance {C:Int->Int->Prop}[d:∀ i j,Decidable (C i j)]{g:Int->Int->V}:xi (rI C g) (pI λi j=>if C i j then some (g i j) else none) where
 h:=λe _ _ _ _ s a b _ q=>by
  obtain ⟨i,j,u,rfl,rfl,e',rfl⟩:=Bq e;split at e'
  ·rename_i hc;cases e';exact ⟨i,j,b7 a,b7 b,hc,q _ _ _ (.refl s) (rep_at.mpr rfl)⟩
  ·cases e'
def j3:PV->PV->Option PV
 | .lst xs,.at (.int i)=>atI xs i
 | .tup xs,.at (.int i)=>atI xs i
 | .at (.str z),.at (.int i)=>if z.length<=lim then (L2.atI z.cps.toList i).map λc=> .at (.str ⟨#[c]⟩) else none
 |_,_=>none
theorem Reps.atI {i:Int}(r:Reps H xs vs)(h:atI xs i=some x):∃ v,L2.atI vs i=some v/\Rep H x v:=by unfold L2.atI at h ⊢;rw [r.length];obtain ⟨j,ej,e⟩:=bind_some h;rw [ej];exact r.get e
instance :xi (rIx K) j3 where
 h:=λ{x y z} e {Hs H v w} s a b {Q} q=>by
  unfold j3 at e;split at e
  ·obtain ⟨p,vs,rfl,e1,r1⟩:=qa s a;obtain ⟨u,hu,r⟩:=r1.atI e;exact .inl ⟨p,vs,_,u,rfl,b7 b,SqL.of e1,hu,q _ _ _ (.refl s) r⟩
  ·obtain ⟨p,vs,rfl,e1,r1⟩:=qY s a;obtain ⟨u,hu,r⟩:=r1.atI e;exact .inr (.inl ⟨p,vs,_,u,rfl,b7 b,SqT.of e1,hu,q _ _ _ (.refl s) r⟩)
  ·split at e
   ·rename_i hz;obtain ⟨c,hc,rfl⟩:=yJ.mp e;exact .inr (.inr ⟨_,_,c,b7 a,b7 b,qW hz,hc,q _ _ _ (.refl s) (rep_at.mpr rfl)⟩)
   ·cases e
  ·cases e
def ats:List PV->Option (List V)
 |[]=>some []
 | .at u::xs=>(ats xs).map (u::·)
 |_::_=>none
theorem vd:∀{xs:List PV}{us:List V},ats xs=some us->xs=us.map .at
 |[],_,h=>by cases h;rfl
 | .at u::xs,us,h=>by
  unfold ats at h;obtain ⟨r,e,rfl⟩:=yJ.mp h;rw [yI,vd e]
 | .tup _::_,_,h=>by cases h
 | .lst _::_,_,h=>by cases h
 | .dk _ _::_,_,h=>by cases h
 | .fk _ _::_,_,h=>by cases h
 | .ob _ _ _::_,_,h=>by cases h
 | .op _::_,_,h=>by cases h
def pIn (neg:Bool):PV->PV->Option PV
 | .at u,.lst xs=>(ats xs).bind λus=>if u8 u=true/\us.all u8=true then some (.at (.bl (if neg then !inV u us else inV u us))) else none
 | .at u,.tup xs=>(ats xs).bind λus=>if u8 u=true/\us.all u8=true then some (.at (.bl (if neg then !inV u us else inV u us))) else none
 |_,_=>none
instance {neg:Bool}:xi (rIn K neg) (pIn neg) where
 h:=λ{x y z} e {Hs H v w} s a b {Q} q=>by
  unfold pIn at e;split at e
  ·obtain ⟨us,e1,e⟩:=bind_some e;split at e
   ·rename_i hf;cases e;obtain ⟨p,vs,rfl,e2,r2⟩:=qa s b;rw [vd e1] at r2;cases r2.ats;cases b7 a;exact ⟨p,_,rfl,.inl (SqL.of e2),hf.1,hf.2,q _ _ _ (.refl s) (rep_at.mpr rfl)⟩
   ·cases e
  ·obtain ⟨us,e1,e⟩:=bind_some e;split at e
   ·rename_i hf;cases e;obtain ⟨p,vs,rfl,e2,r2⟩:=qY s b;rw [vd e1] at r2;cases r2.ats;cases b7 a;exact ⟨p,_,rfl,.inr (SqT.of e2),hf.1,hf.2,q _ _ _ (.refl s) (rep_at.mpr rfl)⟩
   ·cases e
  ·cases e
class SemU (r:V->Hp->VK->Prop)(g:PV->Option PV):Prop where
 h:∀{x z},g x=some z->∀{Hs H:Hp}{v:V},Same Hs H->RepB Hs H x v->∀{Q:VK},(∀ u Hs' H',Ext Hs H Hs' H'->Rep Hs' z u->Q u H')->r v H Q
def dUn (g:PV->Option PV)(a:M):M:=λε=>(a ε).bind g
instance {r:V->Hp->VK->Prop}{g:PV->Option PV}{ta:TE}[sr:SemU r g][sa:i4 ta a]:SemE (tUn r ta) (dUn g a) where
 h:=λe _ _ _ _ _ rs _ q=>by
  obtain ⟨x,ex,e⟩:=bind_some e;exact sa.h ex rs λv Hs1 H1 x1 r1=>sr.h e x1.s3 r1 λu Hs3 H3 x3 r3=>q u _ _ (x1.trans x3) r3
def pU (g:Int->V):PV->Option PV
 | .at (.int i)=>some (.at (g i))
 |_=>none
instance {g:Int->V}:SemU (rU g) (pU g) where
 h:=λ{x z} e {_ _ _} s a {_} q=>by
  unfold pU at e;split at e
  ·cases e;exact ⟨_,b7 a,q _ _ _ (.refl s) (rep_at.mpr rfl)⟩
  ·cases e
def pB:PV->Option Bool
 | .at (.bl b)=>some b
 |_=>none
theorem Xa {b:Bool}(h:pB x=some b):x = .at (.bl b):=by
 unfold pB at h;split at h
 ·cases h;rfl
 ·cases h
def dT (a:M):MB:=λε=>(a ε).bind pB
instance [sa:i4 te a]:qR (Yp te) (dT a) where
 h:=λe _ _ _ _ _ rs _ q=>by
  obtain ⟨x,ex,e⟩:=bind_some e;cases Xa e;exact sa.h ex rs λv Hs1 H1 x1 r1=>⟨_,b7 r1,q _ _ x1⟩
instance [sa:i4 te a]:qR (tB te) (dT a) where
 h:=λe _ _ _ _ _ rs _ q=>by
  obtain ⟨x,ex,e⟩:=bind_some e;cases Xa e;exact sa.h ex rs λv Hs1 H1 x1 r1=>⟨_,b7 r1,q _ _ x1⟩
def tTru (K:Fg)(ta:TE):TT:=λσ H Q=>ta σ H λx H'=>∃ k,TruV K x H' k/\Q k H'
def pTru:PV->Option Bool
 | .at .non=>some false
 | .at (.bl b)=>some b
 | .at (.int i)=>some (i != 0)
 | .at (.str y)=>if y.length<=lim then some ((y.length:Int) != 0) else none
 | .lst xs=>some (!xs.isEmpty)
 | .tup xs=>some (!xs.isEmpty)
 | .dk ks _=>some (!ks.isEmpty)
 |_=>none
def t0 (a:M):MB:=λε=>(a ε).bind pTru
theorem Reps.isEmpty (r:Reps H xs vs):vs.isEmpty=xs.isEmpty:=by have:=r.length;cases xs<;>cases vs<;>first|rfl|(simp at this)
instance [sa:i4 te a]:qR (tTru K te) (t0 a) where
 h:=λe _ _ _ _ _ rs _ q=>by
  obtain ⟨x,ex,e⟩:=bind_some e;refine sa.h ex rs λv Hs1 H1 x1 r1=>?_;unfold pTru at e;split at e
  ·cases e;cases b7 r1;exact ⟨_,rfl,q _ _ x1⟩
  ·cases e;cases b7 r1;exact ⟨_,rfl,q _ _ x1⟩
  ·cases e;cases b7 r1;exact ⟨_,rfl,q _ _ x1⟩
  ·split at e
   ·rename_i hl;cases e;cases b7 r1;exact ⟨_,⟨qW hl,rfl⟩,q _ _ x1⟩
   ·cases e
  ·cases e;obtain ⟨p,vs,rfl,e1,r2⟩:=qa x1.s3 r1;exact ⟨_,.inl ⟨vs,SqL.of e1,by rw [r2.isEmpty]⟩,q _ _ x1⟩
  ·cases e;obtain ⟨p,vs,rfl,e1,r2⟩:=qY x1.s3 r1;exact ⟨_,.inr (.inl ⟨vs,SqT.of e1,by rw [r2.isEmpty]⟩),q _ _ x1⟩
  ·cases e;obtain ⟨p,kvs,rfl,e1,k,r2⟩:=jQ x1.s3 r1;refine ⟨_,.inr (.inr ⟨kvs,e1,?_⟩),q _ _ x1⟩;rw [<- k];cases kvs<;>rfl
  ·cases e
def jg (a b:MB):MB:=λε=>(a ε).bind λc=>if c=true then b ε else some false
def qi (a b:MB):MB:=λε=>(a ε).bind λc=>if c=true then some true else b ε
def h8 (a:MB):MB:=λε=>(a ε).bind λc=>some (!c)
instance {u:TT}{a b:MB}[sa:qR t a][sb:qR u b]:qR (tAnd t u) (jg a b) where
 h:=λe _ _ _ _ _ rs _ q=>by
  obtain ⟨c,ex,e⟩:=bind_some e;refine sa.h ex rs λHs1 H1 x1=>?_;cases c with
  |true=>exact xS (sb.h e (rs.go x1) λHs2 H2 x2=>q _ _ (x1.trans x2))
  |false=>cases e;exact xR (q _ _ x1)
instance {u:TT}{a b:MB}[sa:qR t a][sb:qR u b]:qR (tOr t u) (qi a b) where
 h:=λe _ _ _ _ _ rs _ q=>by
  obtain ⟨c,ex,e⟩:=bind_some e;refine sa.h ex rs λHs1 H1 x1=>?_;cases c with
  |true=>cases e;exact xS (q _ _ x1)
  |false=>exact xR (sb.h e (rs.go x1) λHs2 H2 x2=>q _ _ (x1.trans x2))
instance {a:MB}[sa:qR t a]:qR (tNot t) (h8 a) where
 h:=λe _ _ _ _ _ rs _ q=>by
  obtain ⟨c,ex,e⟩:=bind_some e;cases e;exact sa.h ex rs λHs1 H1 x1=>q _ _ x1
def qS (a b:M):M:=λε=>(a ε).bind λx=>(pB x).bind λc=>if c=true then b ε else some (.at (.bl false))
def Qs (a:M):M:=λε=>(a ε).bind λx=>(pB x).bind λc=>some (.at (.bl (!c)))
instance {t u:TE}[sa:SemE t a][sb:SemE u b]:SemE (PJ t u) (qS a b) where
 h:=λe _ _ _ _ _ rs _ q=>by
  obtain ⟨x,ex,e⟩:=bind_some e;obtain ⟨c,ec,e⟩:=bind_some e;cases Xa ec;refine sa.h ex rs λv Hs1 H1 x1 r1=>⟨c,rep_at.mp r1,?_⟩;cases c with
  |true=>exact xS (sb.h e (rs.go x1) λw Hs2 H2 x2 r2=>q _ _ _ (x1.trans x2) r2)
  |false=>cases e;exact xR (q _ _ _ x1 (rep_at.mpr rfl))
instance {t:TE}[sa:i4 t a]:SemE (PR t) (Qs a) where
 h:=λe _ _ _ _ _ rs _ q=>by
  obtain ⟨x,ex,e⟩:=bind_some e;obtain ⟨c,ec,e⟩:=bind_some e;cases Xa ec;cases e;exact sa.h ex rs λv Hs1 H1 x1 r1=>⟨c,b7 r1,q _ _ _ x1 (rep_at.mpr rfl)⟩
def dIf (c:MB)(a b:M):M:=λε=>(c ε).bind λk=>if k=true then a ε else b ε
instance {ta:TE}[sc:qR t c][sa:SemE ta a][sb:SemE tb b]:SemE (tIf t ta tb) (dIf c a b) where
 h:=λe _ _ _ _ _ rs _ q=>by
  obtain ⟨k,ex,e⟩:=bind_some e;refine sc.h ex rs λHs1 H1 x1=>?_;cases k with
  |true=>exact xS (sa.h e (rs.go x1) λw Hs2 H2 x2 r2=>q _ _ _ (x1.trans x2) r2)
  |false=>exact xR (sb.h e (rs.go x1) λw Hs2 H2 x2 r2=>q _ _ _ (x1.trans x2) r2)
def zq (g g':PV->PV->Option PV)(a b c:M):M:=λε=>(a ε).bind λx=>(b ε).bind λy=>(g x y).bind λz=>(pB z).bind λk=>if k=true then (c ε).bind λw=>g' y w else some (.at (.bl false))
instance {r':R2}{g g':PV->PV->Option PV}{ta tc:TE}{c:M}[sr:xi r g][sr':xi r' g'][sa:i4 ta a][sb:i4 tb b][sc:i4 tc c]:SemE (Yn r r' ta tb tc) (zq g g' a b c) where
 h:=λe _ _ _ _ _ rs _ q=>by
  obtain ⟨x,ex,e1⟩:=bind_some e;obtain ⟨y,ey,e2⟩:=bind_some e1;obtain ⟨z,ez,e3⟩:=bind_some e2;obtain ⟨k,ek,e4⟩:=bind_some e3;have ez':=Xa ek;subst ez';refine sa.h ex rs λv Hs1 H1 x1 r1=>sb.h ey (rs.go x1) λw Hs2 H2 x2 r2=>sr.h ez x2.s3 (r1.ext x2) r2 λu Hs3 H3 x3 r3=>⟨k,rep_at.mp r3,?_⟩;cases k with
  |true=>obtain ⟨w',ew,e5⟩:=bind_some e4;exact xS (sc.h ew (((rs.go x1).go x2).go x3) λu' Hs4 H4 x4 r4=>sr'.h e5 x4.s3 ((r2.ext x3).ext x4) r4 λu'' Hs5 H5 x5 r5=>q _ _ _ (x1.trans (x2.trans (x3.trans (x4.trans x5)))) r5)
  |false=>cases e4;exact xR (q _ _ _ (x1.trans (x2.trans x3)) (rep_at.mpr rfl))
def j5 (m:List PV->Option PV):Sp:=λvs H Q _=>∃ Hs xs y,Same Hs H/\Reps Hs xs vs/\m xs=some y/\∀ v Hs' H',Ext Hs H Hs' H'->Rep Hs' y v->Q v H'
def m5 (m:List PV->Option PV):Sp:=λvs H Q _=>∃ Hs xs y,Same Hs H/\Reps Hs xs vs/\m xs=some y/\∀ a Hs' H',Ext Hs H Hs' H'->H a=none->Hs' a=none->Top Hs' H' a y->Q (.ref a) H'
def x9 (m:List PV->Option PV)(as:MA):M:=λε=>(as ε).bind m
instance [sa:xg ta as]:SemE (jb (j5 m) [] E ta) (x9 m as) where
 h:=λe _ _ _ _ _ rs _ q=>by
  obtain ⟨xs,ex,e1⟩:=bind_some e;refine sa.h ex rs λvs Hs1 H1 x1 r1=>⟨Hs1,xs,_,x1.s3,by rw [yn];exact r1,e1,λv Hs' H' x r=>q v _ _ (x1.trans x) r⟩
instance [sa:xg ta as]:xh (jb (m5 m) [] E ta) (x9 m as) where
 h:=λe _ _ _ _ _ rs _ q=>by
  obtain ⟨xs,ex,e1⟩:=bind_some e;refine sa.h ex rs λvs Hs1 H1 x1 r1=>⟨Hs1,xs,_,x1.s3,by rw [yn];exact r1,e1,λa Hs' H' x n n' r=>q a _ _ (x1.trans x) (x1.s2.free n) n' r⟩
def Jl (m:List PV->Option PV)(ds:List V)(as:MA):M:=λε=>(as ε).bind λxs=>m (xs++ds.map .at)
def xM (C:Addr)(nm:Str)(m:List PV->Option PV)(a:M)(as:MA):M:=λε=>(a ε).bind λx=>match x with
 | .ob C' ns fs=>if C'=C/\nm∉ns then (as ε).bind λxs=>m (x::xs) else none
 |_=>none
theorem JR {fs:List (Str×V)}{f:Str}(h:f∉fs.map (·.1)):fs.lookup f=none:=by
 induction fs with
 |nil=>rfl
 |cons p r ih =>
  rw [yI] at h;rw [uN];have h1:(f==p.1)=false:=by rw [beq_eq_false_iff_ne];exact λe=>h (e▸yT)
  rw [h1];exact ih λz=>h (yS _ z)
theorem GE (h:xM C nm m a as ε=some y):∃ ns fs xs,a ε=some (.ob C ns fs)/\nm∉ns/\as ε=some xs/\m (.ob C ns fs::xs)=some y:=by
 unfold xM at h;obtain ⟨x,ex,h1⟩:=bind_some h;split at h1
 ·rename_i C' ns fs;split at h1
  ·rename_i hc;obtain ⟨xs,e2,h2⟩:=bind_some h1;obtain ⟨rfl,hn⟩:=hc;exact ⟨ns,fs,xs,ex,hn,e2,h2⟩
  ·cases h1
 ·cases h1
instance [so:SemE te a][sa:xg ta as]:SemE (vR C nm (j5 m) [] E te ta) (xM C nm m a as) where
 h:=λe _ _ _ _ _ rs _ q=>by
  obtain ⟨ns,fs,xs,ea,hn,e1,e2⟩:=GE e;refine so.h ea rs λv Hs1 H1 x1 r1=>?_;obtain ⟨p,dx,gs,rfl,hp,hk,hr⟩:=rep_ob.mp r1;refine ⟨p,dx,gs,rfl,x1.s3 _ _ hp,JR (by rw [hk];exact hn),sa.h e1 (rs.go x1) λvs Hs2 H2 x2 r2=>?_⟩;exact ⟨Hs2,_,_,x2.s3,by rw [yn];exact .cons (r1.mono x2.s1) r2,e2,λv Hs' H' x r=>q v _ _ (x1.trans (x2.trans x)) r⟩
instance [so:SemE te a][sa:xg ta as]:xh (vR C nm (m5 m) [] E te ta) (xM C nm m a as) where
 h:=λe _ _ _ _ _ rs _ q=>by
  obtain ⟨ns,fs,xs,ea,hn,e1,e2⟩:=GE e;refine so.h ea rs λv Hs1 H1 x1 r1=>?_;obtain ⟨p,dx,gs,rfl,hp,hk,hr⟩:=rep_ob.mp r1;refine ⟨p,dx,gs,rfl,x1.s3 _ _ hp,JR (by rw [hk];exact hn),sa.h e1 (rs.go x1) λvs Hs2 H2 x2 r2=>?_⟩;exact ⟨Hs2,_,_,x2.s3,by rw [yn];exact .cons (r1.mono x2.s1) r2,e2,λv Hs' H' x n n' r=>q v _ _ (x1.trans (x2.trans x)) (x1.s2.free (x2.s2.free n)) n' r⟩
class wc (r:List V->Hp->VK->Prop)(g:List PV->Option PV):Prop where
 h:∀{xs z},g xs=some z->∀{Hs H:Hp}{vs:List V},Same Hs H->wa Hs H xs vs->∀{Q:VK},(∀ u Hs' H',Ext Hs H Hs' H'->Rep Hs' z u->Q u H')->r vs H Q
class ZY (r:List V->Hp->VK->Prop)(g:List PV->Option PV):Prop where
 h:∀{xs z},g xs=some z->∀{Hs H:Hp}{vs:List V},Same Hs H->wa Hs H xs vs->∀{Q:VK},(∀ a Hs' H',Ext Hs H Hs' H'->H a=none->Hs' a=none->Top Hs' H' a z->Q (.ref a) H')->r vs H Q
instance {r:List V->Hp->VK->Prop}{g:List PV->Option PV}[sr:wc r g][sa:Qk ta as]:SemE (tCB r ta) (x9 g as) where
 h:=λe _ _ _ _ _ rs _ q=>by
  obtain ⟨xs,ex,e1⟩:=bind_some e;exact sa.h ex rs λvs Hs1 H1 x1 r1=>sr.h e1 x1.s3 r1 λv Hs' H' x r=>q v _ _ (x1.trans x) r
instance {r:List V->Hp->VK->Prop}{g:List PV->Option PV}[sr:ZY r g][sa:Qk ta as]:xh (tCB r ta) (x9 g as) where
 h:=λe _ _ _ _ _ rs _ q=>by
  obtain ⟨xs,ex,e1⟩:=bind_some e;exact sa.h ex rs λvs Hs1 H1 x1 r1=>sr.h e1 x1.s3 r1 λv Hs' H' x n n' r=>q v _ _ (x1.trans x) (x1.s2.free n) n' r
theorem xZ (h:wa Hs H [x] vs):∃ v,vs=[v]/\RepB Hs H x v:=by obtain ⟨v,r,rfl,a,b⟩:=h;cases (show r=[] from b);exact ⟨v,rfl,a⟩
theorem RU (h:wa Hs H [x,y] vs):∃ v w,vs=[v,w]/\RepB Hs H x v/\RepB Hs H y w:=by obtain ⟨v,r,rfl,a,b⟩:=h;obtain ⟨w,rfl,c⟩:=xZ b;exact ⟨v,w,rfl,a,c⟩
inductive Out where
 |nx (ε:ME)|rt (y:PV)|bk (ε:ME)|ct (ε:ME)
abbrev MS:=ME->Option Out
def OutK (fr:Bool)(Hs0 H0:Hp)(D:xK):Out->Prop
 | .nx ε=>∀ Hs H σ,RS Hs0 H0 Hs H σ ε->D.nx σ H
 | .bk ε=>∀ Hs H σ,RS Hs0 H0 Hs H σ ε->D.bk σ H
 | .ct ε=>∀ Hs H σ,RS Hs0 H0 Hs H σ ε->D.ct σ H
 | .rt y=>match fr with
  |true=>∀ a Hs H,Ext Hs0 H0 Hs H->H0 a=none->Hs a=none->Top Hs H a y->D.rt (.ref a) H
  |false=>∀ v Hs H,Ext Hs0 H0 Hs H->Rep Hs y v->D.rt v H
class o4 (fr:Bool)(ts:TS)(f:MS):Prop where
 h:∀{ε o},f ε=some o->∀{Hs0 H0 Hs H σ},RS Hs0 H0 Hs H σ ε->∀{D:xK},OutK fr Hs0 H0 D o->ts D σ H
variable {fr:Bool}
def c9:MS:=λε=>some (.nx ε)
instance:o4 fr Yo c9 where
 h:=λe _ _ _ _ _ rs _ q=>by cases e;exact q _ _ _ rs
def v9 (a b:MS):MS:=λε=>(a ε).bind λo=>match o with
 | .nx ε'=>b ε'
 |o=>some o
instance {t u:TS}{a b:MS}[sa:o4 fr t a][sb:o4 fr u b]:o4 fr (tSeq t u) (v9 a b) where
 h:=λe _ _ _ _ _ rs D q=>by
  obtain ⟨o,eo,e1⟩:=bind_some e;refine sa.h eo rs ?_;cases o with
  |nx ε'=>exact λHs H σ r=>sb.h e1 r q
  |rt y=>cases e1;exact q
  |bk ε'=>cases e1;exact q
  |ct ε'=>cases e1;exact q
def zP (a:M):MS:=λε=>(a ε).bind λ_=>some (.nx ε)
instance (priority:=100)[sa:i4 te a]:o4 fr (jU te) (zP a) where
 h:=λe _ _ _ _ _ rs _ q=>by
  obtain ⟨x,ex,e1⟩:=bind_some e;cases e1;exact sa.h ex rs λv Hs1 H1 x1 r1=>q _ _ _ (rs.go x1)
def w9 (a:M):MS:=λε=>(a ε).bind λx=>some (.rt x)
instance [sa:SemE te a]:o4 false (Xs te) (w9 a) where
 h:=λe _ _ _ _ _ rs _ q=>by
  obtain ⟨x,ex,e1⟩:=bind_some e;cases e1;exact sa.h ex rs λv Hs1 H1 x1 r1=>q _ _ _ (rs.ext.trans x1) r1
instance [sa:xh te a]:o4 true (Xs te) (w9 a) where
 h:=λe _ _ _ _ _ rs _ q=>by
  obtain ⟨x,ex,e1⟩:=bind_some e;cases e1;exact sa.h ex rs λv Hs1 H1 x1 n n' r1=>q _ _ _ (rs.ext.trans x1) (rs.ext.s2.free n) n' r1
def oVar (i:Nat):M:=λε=>match ε[i]? with
 |some (.ow x)=>some x
 |_=>none
instance {i:Nat}:o4 true (Xs (qb i)) (w9 (oVar i)) where
 h:=λe _ _ _ _ _ rs _ q=>by
  obtain ⟨x,ex,e1⟩:=bind_some e;cases e1;unfold oVar at ex;split at ex
  ·rename_i y hy;cases ex;obtain ⟨a,ha,n0,n,t⟩:=rs.ow i _ hy;exact ⟨_,ha,q _ _ _ rs.ext n0 n t⟩
  ·cases ex
def p7 (c:MB)(a b:MS):MS:=λε=>(c ε).bind λk=>if k=true then a ε else b ε
instance {ta tb:TS}{a b:MS}[sc:qR t c][sa:o4 fr ta a][sb:o4 fr tb b]:o4 fr (tIfS t ta tb) (p7 c a b) where
 h:=λe _ _ _ _ _ rs _ q=>by
  obtain ⟨k,ex,e1⟩:=bind_some e;refine sc.h ex rs λHs1 H1 x1=>?_;cases k with
  |true=>exact xS (sa.h e1 (rs.go x1) q)
  |false=>exact xR (sb.h e1 (rs.go x1) q)
def xk:MS:=λ_=>none
instance:o4 fr PP xk where
 h:=λe=>by cases e
abbrev MG:=PV->ME->Option ME
def But (ts:List Nat)(σ σ':St):Prop:=σ'.length=σ.length/\∀ j,j∉ts->σ'[j]?=σ[j]?
theorem But.refl (σ:St):But [] σ σ:=⟨rfl,λ_ _=>rfl⟩
theorem But.trans {a b:List Nat}{σ1 σ2:St}(x:But a σ σ1)(y:But b σ1 σ2):But (a++b) σ σ2 :=
 ⟨y.1.trans x.1,λj hj=>(y.2 j λz=>hj (yo.mpr (.inr z))).trans (x.2 j λz=>hj (yo.mpr (.inl z)))⟩
theorem But.wk (b:But ts σ σ')(h:∀ i∈ts,σ[i]?=some none):Wk σ σ':=by refine ⟨b.1.symm,λi v e=>?_⟩;rw [b.2 i λz=>by rw [h i z] at e;cases e];exact e
class jz (tg:TG)(ts:outParam (List Nat))(g:MG):Prop where
 h:∀{x ε ε'},g x ε=some ε'->∀{Hs0 H0 Hs H σ v},RS Hs0 H0 Hs H σ ε->Rep Hs x v->∀{Q:St->Hp->Prop},(∀ σ',RS Hs0 H0 Hs H σ' ε'->But ts σ σ'->Q σ' H)->tg v σ H Q
class wd (tg:TGs)(ts:outParam (List Nat))(g:List PV->ME->Option ME):Prop where
 h:∀{xs ε ε'},g xs ε=some ε'->∀{Hs0 H0 Hs H σ vs},RS Hs0 H0 Hs H σ ε->Reps Hs xs vs->∀{Q:St->Hp->Prop},(∀ σ',RS Hs0 H0 Hs H σ' ε'->But ts σ σ'->Q σ' H)->tg vs σ H Q
def j9 (i:Nat):MG:=λx ε=>some (ε.set i (.sh x))
instance {i:Nat}:jz (qE i) [i] (j9 i) where
 h:=λe _ _ _ _ _ _ rs r _ q=>by
  cases e;exact q _ (rs.put r) ⟨ym,λj hj=>yq λz=>hj (by rw [<- z];exact yK.mpr rfl)⟩
def xt:List PV->ME->Option ME:=λxs ε=>match xs with
 |[]=>some ε
 |_=>none
def i8 (g:MG)(r:List PV->ME->Option ME):List PV->ME->Option ME:=λxs ε=>match xs with
 |x::xs=>(g x ε).bind (r xs)
 |_=>none
instance:wd gNil [] xt where
 h:=λ{xs ε ε'} e {_ _ _ _ _ _} rs r {_} q=>by
  unfold xt at e;split at e
  ·cases e;exact ⟨reps_nil.mp r,q _ rs (.refl _)⟩
  ·cases e
instance Sd {t:TG}{u:TGs}{a b:List Nat}{g:MG}{r:List PV->ME->Option ME}[sg:jz t a g][sr:wd u b r]:wd (JB t u) (a++b) (i8 g r) where
 h:=λ{xs ε ε'} e {_ _ _ _ _ _} rs rr {_} q=>by
  unfold i8 at e;split at e
  ·obtain ⟨ε1,e1,e2⟩:=bind_some e;obtain ⟨v,w,rfl,r1,r2⟩:=reps_cons.mp rr;exact ⟨v,w,rfl,sg.h e1 rs r1 λσ1 rs1 b1=>sr.h e2 rs1 r2 λσ2 rs2 b2=>q _ rs2 (b1.trans b2)⟩
  ·cases e
instance (priority:=2000){i:Nat}{u:TGs}{b:List Nat}{r:List PV->ME->Option ME}[sr:wd u b r]:wd (JB (qE i) u) (i::b) (i8 (j9 i) r) where
 h:=λe _ _ _ _ _ _ rs rr _ q=>(Sd (t:=qE i) (a:=[i]) (g:=j9 i)).h e rs rr q
def xu (n:Nat)(g:List PV->ME->Option ME):MG:=λx ε=>match x with
 | .tup xs=>if xs.length=n then g xs ε else none
 |_=>none
instance {t:TGs}{g:List PV->ME->Option ME}[sg:wd t ts g]:jz (gTup K n t) ts (xu n g) where
 h:=λ{x ε ε'} e {_ _ _ _ _ _} rs rr {_} q=>by
  unfold xu at e;split at e
  ·split at e
   ·rename_i hl;obtain ⟨a,vs,rfl,h,r⟩:=rep_tup.mp rr;exact ⟨a,vs,rfl,SqT.of (rs.sub _ _ h),by rw [r.length];exact hl,sg.h e rs r λσ' rs' b=>q _ rs' b⟩
   ·cases e
  ·cases e
def b8 (i:Nat)(a:M):MS:=λε=>(a ε).bind λx=>some (.nx (ε.set i (.sh x)))
def jC (i:Nat)(a:M):MS:=λε=>(a ε).bind λx=>some (.nx (ε.set i (.ow x)))
instance {i:Nat}[sa:SemE te a]:o4 fr (zI te (qE i)) (b8 i a) where
 h:=λe _ _ _ _ _ rs _ q=>by
  obtain ⟨x,ex,e1⟩:=bind_some e;cases e1;exact sa.h ex rs λv Hs1 H1 x1 r1=>q _ _ _ ((rs.go x1).put r1)
instance {i:Nat}[sa:xh te a]:o4 fr (zI te (qE i)) (jC i a) where
 h:=λe _ _ _ _ _ rs _ q=>by
  obtain ⟨x,ex,e1⟩:=bind_some e;cases e1;refine sa.h ex rs λp Hs1 H1 x1 n n' t=>q _ _ _ ((rs.go x1).putO ⟨rs.ext.s2.free n,n',t⟩ λj y hj z=>?_);obtain ⟨b,hb,_,_,tb⟩:=rs.ow j y hj;rw [z] at hb;injection hb with hb;injection hb with hb;injection hb with hb;subst hb;exact tb.there n
def dAsg (g:MG)(a:M):MS:=λε=>(a ε).bind λx=>(g x ε).bind λε'=>some (.nx ε')
instance (priority:=500){g:MG}[sa:SemE te a][sg:jz tg ts g]:o4 fr (zI te tg) (dAsg g a) where
 h:=λe _ _ _ _ _ rs _ q=>by
  obtain ⟨x,ex,e1⟩:=bind_some e;obtain ⟨ε',e2,e3⟩:=bind_some e1;cases e3;exact sa.h ex rs λv Hs1 H1 x1 r1=>sg.h e2 (rs.go x1) r1 λσ' rs' _=>q _ _ _ rs'
def pIp (g:Int->Int->Int):PV->PV->Option PV
 | .at (.int i),.at (.int j)=>some (.at (.int (g i j)))
 |_,_=>none
def vi (i:Nat)(a:M):MS:=λε=>(a ε).bind λx=>match ε[i]? with
 |some (.ow (.lst xs))=>if xs.length<=lim then some (.nx (ε.set i (.ow (.lst (xs++[x]))))) else none
 |_=>none
instance {i:Nat}[sa:SemE te a]:o4 fr (jU (tBM K "list" ZN (qb i) (i0 te i7))) (vi i a) where
 h:=λe _ _ _ _ _ rs _ q=>by
  obtain ⟨x,ex,e1⟩:=bind_some e;split at e1
  ·rename_i xs hi;split at e1
   ·rename_i hl;cases e1;obtain ⟨p,hp,n0,n,vs,hv,rv⟩:=rs.ow i _ hi;refine ⟨_,hp,.inl ⟨rfl,vs,SqL.of hv⟩,sa.h ex rs λv Hs1 H1 x1 r1=>?_⟩;have hv1:=x1.s2 _ _ hv;refine ⟨p,vs,v,rfl,rfl,hv1,QE (by rw [rv.length];exact hl),q _ _ _ ((rs.go x1).change hi hp ⟨_,y9,(rv.mono x1.s1).append (.one r1)⟩)⟩
   ·cases e1
  ·cases e1
def dExtend (i:Nat)(a:M):MS:=λε=>(a ε).bind λx=>match x with
 | .lst ys=>(match ε[i]? with
  |some (.ow (.lst xs))=>if xs.length+ys.length<=lim then some (.nx (ε.set i (.ow (.lst (xs++ys))))) else none
  |_=>none)
 |_=>none
structure jy (J:It)(xs:List PV)(Hs:Hp):Prop where
 go:∀(i:Nat)(x:PV)(Hs1 H1:Hp),xs[i]?=some x->Same Hs Hs1->Same Hs1 H1->J.go i H1/\∀ v H2,J.yld i H1 v H2->∃ Hs2,Ext Hs1 H1 Hs2 H2/\Rep Hs2 x v
 stop:∀(Hs1 H1:Hp),Same Hs Hs1->Same Hs1 H1->J.stop xs.length H1
class zN (ti:TI)(f:MA):Prop where
 h:∀{ε xs},f ε=some xs->∀{Hs0 H0 Hs H σ},RS Hs0 H0 Hs H σ ε->∀{R:It->Hp->Prop},(∀ J Hs' H',Ext Hs H Hs' H'->jy J xs Hs'->R J H')->ti σ H R
def y7 (a:M):MA:=λε=>(a ε).bind λx=>match x with
 | .lst xs=>some xs
 |_=>none
theorem Lj {a:Addr}(h:Hs a=some (.lst vs))(r:Reps Hs xs vs):jy (Itl K a) xs Hs where
 go:=λi x Hs1 H1 e g1 g2=>by
  obtain ⟨v,ev,rv⟩:=r.get e;refine ⟨⟨vs,v,SqL.of (g2 _ _ (g1 _ _ h)),ev⟩,λw H2 y=>?_⟩;obtain ⟨rfl,y⟩:=y;have z:=y vs (SqL.of (g2 _ _ (g1 _ _ h)));rw [ev] at z;cases z;exact ⟨Hs1,.refl g2,rv.mono g1⟩
 stop:=λHs1 H1 g1 g2=>⟨vs,SqL.of (g2 _ _ (g1 _ _ h)),by rw [r.length];exact yU _⟩
instance [sa:SemE te a]:zN (Zc K te) (y7 a) where
 h:=λe _ _ _ _ _ rs _ q=>by
  obtain ⟨x,ex,e1⟩:=bind_some e;split at e1
  ·cases e1;refine sa.h ex rs λv Hs1 H1 x1 r1=>?_;obtain ⟨p,vs,rfl,hp,r⟩:=rep_lst.mp r1;exact ⟨p,rfl,⟨vs,SqL.of (x1.s3 _ _ hp)⟩,q _ _ _ x1 (Lj hp r)⟩
  ·cases e1
def zm (lo:Int)(n:Nat):List PV:=(List.range n).map λ(i:Nat)=> .at (.int (lo+i))
theorem vN :(zm lo n).length=n:=by unfold zm;rw [yZ,uL]
theorem RY {i:Nat}(h:(zm lo n)[i]?=some x):i<n/\x = .at (.int (lo+i)):=by
 have hl:i<n:=by have:=(yL.mp h).1;rw [vN] at this;exact this
 refine ⟨hl,?_⟩;unfold zm at h;rw [yP,List.getElem?_range hl] at h;cases h;rfl
theorem Lk :jy (Itr lo n) (zm lo n) Hs where
 go:=λi x Hs1 H1 e g1 g2=>by
  obtain ⟨hl,rfl⟩:=RY e;refine ⟨hl,λv H2 y=>?_⟩;obtain ⟨rfl,rfl⟩:=y;exact ⟨Hs1,.refl g2,rep_at.mpr rfl⟩
 stop:=λHs1 H1 g1 g2=>by show n<=_;rw [vN];exact yU _
def zt (a:MA):MA:=λε=>(a ε).bind λxs=>match xs with
 |[.at (.int j)]=>if -(lim:Int)<=j/\j<=lim then some (zm 0 j.toNat) else none
 |_=>none
instance {a:MA}[sa:xg ta a]:zN (vo ta) (zt a) where
 h:=λe _ _ _ _ _ rs _ q=>by
  obtain ⟨xs,ex,e1⟩:=bind_some e;split at e1
  ·rename_i j;split at e1
   ·rename_i hl;cases e1;refine sa.h ex rs λvs Hs1 H1 x1 r1=>?_;obtain ⟨v,r,rfl,p1,p2⟩:=reps_cons.mp r1;cases reps_nil.mp p2;cases rep_at.mp p1;have hlim:(lim:Int)=1000000:=rfl;exact ⟨j,rfl,by omega,by omega,q _ _ _ x1 Lk⟩
   ·cases e1
  ·cases e1
def r9 (g:MG)(f:MS):List PV->ME->Option Out
 |[],ε=>some (.nx ε)
 |x::xs,ε=>(g x ε).bind λε1=>(f ε1).bind λo=>match o with
  | .nx ε2=>r9 g f xs ε2
  | .ct ε2=>r9 g f xs ε2
  | .bk ε2=>some (.nx ε2)
  | .rt y=>some (.rt y)
def qJ (i:MA)(g:MG)(f:MS):MS:=λε=>(i ε).bind λxs=>r9 g f xs ε
theorem OutK.unbase {D:xK}(x:Ext Hs0 H0 Hb H):∀{o:Out},OutK fr Hs0 H0 D o->OutK fr Hb H0 D o
 | .nx _,h=>λHs H σ r=>h _ _ _ (RS.unbase x r)
 | .bk _,h=>λHs H σ r=>h _ _ _ (RS.unbase x r)
 | .ct _,h=>λHs H σ r=>h _ _ _ (RS.unbase x r)
 | .rt _,h=>by
  cases fr with
  |true=>exact λa Hs H e n n' t=>h a Hs H (x.unbase e) n n' t
  |false=>exact λa Hs H e r=>h a Hs H (x.unbase e) r
instance {tb:TS}{i:MA}{g:MG}{f:MS}[si:zN wi i][sg:jz tg ts g][sf:o4 fr tb f]:o4 fr (tFor wi tg tb) (qJ i g f) where
 h:=λe Hs0 H0 _ _ _ rs D q=>by
  obtain ⟨xs,ex,e1⟩:=bind_some e;refine si.h ex rs λJ Hs1 H1 x1 ok=>?_;have rs1:=rs.go x1;have q1:=OutK.unbase rs1.ext q;refine ⟨λk m σ H=>m=xs.length-k/\k<=xs.length/\∃ Hs ε,RS Hs1 H0 Hs H σ ε/\r9 g f (xs.drop k) ε=some _,⟨xs.length,by simp,yh _,Hs1,_,rs1.rebase,e1⟩,?_⟩;rintro k m σ H ⟨rfl,hk,Hs,ε,r,el⟩;by_cases hlt:k<xs.length
  ·have hd:xs.drop k=xs[k]::xs.drop (k+1):=yc hlt;rw [hd] at el;unfold r9 at el;obtain ⟨ε1,eg,el1⟩:=bind_some el;obtain ⟨o,eo,el2⟩:=bind_some el1;obtain ⟨go,yl⟩:=ok.go k xs[k] Hs H (by simp [hlt]) r.ext.s1 r.ext.s3;refine .inr ⟨go,λσ' H'=>k+1<=xs.length/\∃ Hs ε,RS Hs1 H0 Hs H' σ' ε/\r9 g f (xs.drop (k+1)) ε=some _,λσ' H' p=>⟨xs.length-(k+1),by omega,rfl,p.1,p.2⟩,λv H2 y=>?_⟩;obtain ⟨Hs2,x2,r2⟩:=yl v H2 y;refine sg.h eg (r.go x2) r2 λσ2 rs2 _=>sf.h eo rs2 ?_;cases o with
   |nx ε2=>exact λHs3 H3 σ3 r3=>⟨hlt,Hs3,ε2,r3,el2⟩
   |ct ε2=>exact λHs3 H3 σ3 r3=>⟨hlt,Hs3,ε2,r3,el2⟩
   |bk ε2=>cases el2;exact q1
   |rt y=>cases el2;exact q1
  ·have ek:k=xs.length:=by omega
   subst ek;rw [ut] at el;unfold r9 at el;cases el;exact .inl ⟨ok.stop Hs H r.ext.s1 r.ext.s3,q1 _ _ _ r⟩
def t6 (cap:List (Option Nat))(ε:ME):ME:=cap.map λo=>match o with
 |none=> .no
 |some i=>(ε[i]?).getD .no
def qr (g:MG)(c:MB)(f:M)(ε0:ME):List PV->Option (List PV)
 |[]=>some []
 |x::xs=>(g x ε0).bind λε1=>(c ε1).bind λb=>if b=true then (f ε1).bind λy=>(qr g c f ε0 xs).bind λys=>some (y::ys) else qr g c f ε0 xs
def g9:MB:=λ_=>some true
instance:qR tYes g9 where
 h:=λe _ _ _ _ _ rs _ q=>by cases e;exact q _ _ (.refl rs.sub)
def xL (cap:List (Option Nat))(ts:List Nat):Bool:=decide (cap.filterMap id).Nodup&&ts.all λi=>decide (cap[i]?=some none)
def g8 (cap:List (Option Nat))(ts:List Nat)(i:MA)(g:MG)(c:MB)(f:M):M:=λε=>(i ε).bind λxs=>if xL cap ts=true/\xs.length<=lim then (qr g c f (t6 cap ε) xs).bind λys=>some (.lst ys) else none
theorem RS.cap {cap:List (Option Nat)}(hc:(cap.filterMap id).Nodup)(r:RS Hs0 H0 Hs H σ ε):RS Hs0 H0 Hs H (p9 cap σ) (t6 cap ε):=by
 have inj:∀(i j k:Nat),cap[i]?=some (some k)->cap[j]?=some (some k)->i=j:=by
  clear r
  induction cap with
  |nil=>intro i j k h;simp at h
  |cons o cap ih =>
   intro i j k hi hj;have no:∀(l:Nat),o=some k->cap[l]?=some (some k)->False:=λl ho hl=>by
    subst ho;rw [List.filterMap_cons_some (by rfl)] at hc;exact (yu.mp hc).1 (List.mem_filterMap.mpr ⟨some k,yA hl,rfl⟩)
   have hc':(cap.filterMap id).Nodup:=by
    cases o with
    |none=>rwa [List.filterMap_cons_none (by rfl)] at hc
    |some m=>rw [List.filterMap_cons_some (by rfl)] at hc;exact (yu.mp hc).2
   cases i with
   |zero =>
    cases j with
    |zero=>rfl
    |succ j=>exact (no j (by simpa using hi) (by simpa using hj)).elim
   |succ i =>
    cases j with
    |zero=>exact (no i (by simpa using hj) (by simpa using hi)).elim
    |succ j=>rw [ih hc' i j k (by simpa using hi) (by simpa using hj)]
 have at1:∀(i:Nat)(sl:MSlot),(t6 cap ε)[i]?=some sl->sl = .no∨∃ k,cap[i]?=some (some k)/\ε[k]?=some sl:=by
  intro i sl h;unfold t6 at h;rw [yP] at h;cases ho:cap[i]? with
  |none=>rw [ho] at h;cases h
  |some o =>
   rw [ho] at h;cases o with
   |none=>cases h;exact .inl rfl
   |some k =>
    cases hk:ε[k]? with
    |none=>simp only [uE,hk,tT] at h;cases h;exact .inl rfl
    |some s=>simp only [uE,hk,Option.getD_some] at h;cases h;exact .inr ⟨k,rfl,hk⟩
 have at2:∀(i k:Nat),cap[i]?=some (some k)->∀ v,σ[k]?=some (some v)->(p9 cap σ)[i]?=some (some v):=by intro i k h v e;unfold p9;rw [yP,h];simp [e]
 have at3:∀(i k:Nat)(v:V),cap[i]?=some (some k)->(p9 cap σ)[i]?=some (some v)->σ[k]?=some (some v):=by
  intro i k v h e;unfold p9 at e;rw [yP,h] at e;simp only [uE,yE,Option.some.injEq] at e;cases hs:σ[k]? with
  |none=>rw [hs] at e;cases e
  |some o=>rw [hs] at e;simp at e;rw [e]
 refine ⟨r.ext,λi x h=>?_,λi x h=>?_,λi j x y a h1 h2 h3 h4=>?_,by unfold p9 t6;rw [yZ,yZ],λi x h=>?_⟩
 ·rcases at1 i _ h with z|⟨k,hk,e⟩
  ·cases z
  ·obtain ⟨v,hv,rv⟩:=r.sh k x e;exact ⟨v,at2 i k hk v hv,rv⟩
 ·rcases at1 i _ h with z|⟨k,hk,e⟩
  ·cases z
  ·obtain ⟨v,hv,rv⟩:=r.ow k x e;exact ⟨v,at2 i k hk _ hv,rv⟩
 ·rcases at1 i _ h1 with z|⟨k,hk,e⟩
  ·cases z
  ·rcases at1 j _ h2 with z|⟨l,hl,e'⟩
   ·cases z
   ·have kl:=r.nd k l x y a e e' (at3 i k _ hk h3) (at3 j l _ hl h4);subst kl;exact inj i j k hk hl
 ·rcases at1 i _ h with z|⟨k,hk,e⟩
  ·cases z
  ·obtain ⟨v,hv,rv⟩:=r.bo k x e;exact ⟨v,at2 i k hk _ hv,rv⟩
theorem Reps.snoc (r:Reps H xs vs)(p:Rep H x v):Reps H (xs++[x]) (vs++[v]):=r.append (.one p)
instance {tt:TT}{cap:List (Option Nat)}{i:MA}{g:MG}{f:M}[si:zN wi i][sg:jz tg ts g][sc:qR tt c][sf:SemE te f]:xh (Qb wi tg tt te cap) (g8 cap ts i g c f) where
 h:=λe Hs0 H0 Hs H σ rs Q q=>by
  obtain ⟨xs,ex,e1⟩:=bind_some e;split at e1
  ·rename_i hcl;obtain ⟨hcap,hl⟩:=hcl;unfold xL at hcap;rw [yf] at hcap;obtain ⟨ys,ey,e2⟩:=bind_some e1;cases e2;refine si.h ex rs λJ Hs1 H1 x1 ok=>?_;have rc:=((rs.go x1).cap (uV hcap.1)).rebase;have wk:∀ i∈ts,(p9 cap σ)[i]?=some none:=λi hi=>by
    unfold p9;rw [yP,uV (uM.mp hcap.2 i hi)];rfl
   refine ⟨λk m zs H=>m=xs.length-k/\k<=xs.length/\∃ Hs2 ws,Ext Hs1 H1 Hs2 H/\RS Hs1 H0 Hs2 H (p9 cap σ) (t6 cap _)/\Reps Hs2 ws zs/\ws.length<=k/\∃ rest,qr g c f (t6 cap _) (xs.drop k)=some rest/\ys=ws++rest,
    ⟨xs.length,by simp,yh _,Hs1,[],.refl x1.s3,rc,.nil,yU _,ys,ey,rfl⟩,?_⟩
   rintro k m zs H2 ⟨rfl,hk,Hs2,ws,x2,r2,rz,hw,rest,er,eys⟩;refine ⟨qW (by rw [rz.length];omega),?_⟩;by_cases hlt:k<xs.length
   ·have hd:xs.drop k=xs[k]::xs.drop (k+1):=yc hlt;rw [hd] at er;unfold qr at er;obtain ⟨ε1,eg,er1⟩:=bind_some er;obtain ⟨b,eb,er2⟩:=bind_some er1;obtain ⟨go,yl⟩:=ok.go k xs[k] Hs2 H2 (by simp [hlt]) x2.s1 x2.s3;refine .inr ⟨go,λv H3 y=>?_⟩;obtain ⟨Hs3,x3,r3⟩:=yl v H3 y;refine sg.h eg (r2.go x3) r3 λσ2 rs2 bt=>⟨bt.wk wk,sc.h eb rs2 λHs4 H4 x4=>?_⟩;cases b with
    |true =>
     rw [if_pos rfl] at er2;obtain ⟨z,ez,er3⟩:=bind_some er2;obtain ⟨rest',er4,er5⟩:=bind_some er3;cases er5;refine xS (sf.h ez (rs2.go x4) λu Hs5 H5 x5 r5=>⟨xs.length-(k+1),by omega,rfl,hlt,Hs5,ws++[z],x2.trans (x3.trans (x4.trans x5)),((r2.go x3).go x4).go x5,?_,?_,rest',er4,?_⟩)
     ·exact (rz.mono (x3.s1.trans (x4.s1.trans x5.s1))).snoc r5
     ·rw [yQ];simp;omega
     ·rw [uZ];exact eys
    |false=>rw [if_neg yR] at er2;exact xR ⟨xs.length-(k+1),by omega,rfl,hlt,Hs4,ws,x2.trans (x3.trans x4),(r2.go x3).go x4,rz.mono (x3.s1.trans x4.s1),by omega,rest,er2,eys⟩
   ·have ek:k=xs.length:=by omega
    subst ek;rw [ut] at er;unfold qr at er;cases er;refine .inl ⟨ok.stop Hs2 H2 x2.s1 x2.s3,λD hD=>?_⟩;rw [yn] at eys;subst eys;have x12:=x1.trans x2;exact q D Hs2 _ (x12.trans (.newO x2.s3 hD)) (x12.s2.free hD) (x2.s3.free hD) ⟨zs,y9,rz⟩
  ·cases e1
def k6 (n k:Nat)(f:MS):List PV->Option PV:=λxs=>if xs.length=k then (f (xs.map .sh++List.replicate (n-k) .no)).bind λo=>match o with
 | .rt y=>some y
 | .nx _=>some (.at .non)
 |_=>none else none
def qD (n k:Nat)(f:MS):List PV->Option PV:=λxs=>if xs.length=k then (f (xs.map .sh++List.replicate (n-k) .no)).bind λo=>match o with
 | .rt y=>some y
 |_=>none else none
end Mi
namespace Mi
open PySem PySem.Spec PyProof.Rows L2
variable{N ps:List Str}{qual x:Str}{st:Stmt}{f:Addr}{fd:FuncData}{b:MS}{m:List PV->Option PV}
theorem jR {Hs H:Hp}{xs:List PV}{vs:List V}(s:Same Hs H)(r:Reps Hs xs vs):RS Hs H Hs H (L2.start N vs) (xs.map .sh++List.replicate (N.length-xs.length) .no):=by
 have el:=r.length;have at1:∀(i:Nat)(sl:MSlot),(xs.map MSlot.sh++List.replicate (N.length-xs.length) .no)[i]?=some sl->sl = .no∨∃ x,xs[i]?=some x/\sl = .sh x:=by
  intro i sl h;by_cases hi:i<xs.length
  ·rw [uY (by rw [yZ];exact hi),yP] at h;obtain ⟨x,hx,rfl⟩:=yJ.mp h;exact .inr ⟨x,hx,rfl⟩
  ·rw [uW (by rw [yZ];omega),tZ] at h;split at h
   ·cases h;exact .inl rfl
   ·cases h
 refine ⟨.refl s,λi x h=>?_,λi x h=>?_,λi j x y a h1 _ _ _=>?_,?_,λi x h=>?_⟩
 ·rcases at1 i _ h with z|⟨y,hy,z⟩
  ·cases z
  ·cases z;obtain ⟨v,hv,rv⟩:=r.get hy;refine ⟨v,?_,rv⟩;unfold L2.start;rw [uY (by rw [yZ];exact (yL.mp hv).1),yP,hv];rfl
 ·rcases at1 i _ h with z|⟨y,hy,z⟩<;>cases z
 ·rcases at1 i _ h1 with z|⟨y,hy,z⟩<;>cases z
 ·unfold L2.start;rw [yQ,yQ,yZ,yZ,tV,tV,el]
 ·rcases at1 i _ h with z|⟨y,hy,z⟩<;>cases z
section
variable {P:Program}{w:World}{K:Fg}{mg:Str->Option Value}{base:Heap}
theorem c5 {k:Nat}(F:Fun K x qual st f fd)(S:w6 N ps (j7 st))(hm:m=k6 N.length ps.length b)(hb:∀(cdv:Value)(A:Around)(outer:List Env)(s:Shared)(H:Hp)(E:XK),Room k (A.deeper (envOfC qual (j7 st) s.heap.objs.size f cdv)) -> ∃ t,PSs (xj v7 P w K mg base N qual (j7 st) f cdv A outer s H E).nox (qj st) t/\o4 false t b):FnOk P w K mg base v7 (k+1) f fd ps (j5 m):=by
 subst hm;refine F.ok S (λvs H Q E h=>?_) (λcdv A outer s H vs Q E hr h=>?_)
 ·obtain ⟨Hs,xs,y,_,r,e,_⟩:=h;unfold k6 at e;split at e
  ·rename_i hl;rw [r.length];exact hl
  ·cases e
 ·obtain ⟨Hs,xs,y,sm,r,e,q⟩:=h;obtain ⟨t,ht,sem⟩:=hb cdv A outer s H E hr;refine ⟨t,ht,?_⟩;unfold k6 at e;split at e
  ·rename_i hl;obtain ⟨o,eo,e1⟩:=bind_some e;refine sem.h eo (by rw [<- hl];exact jR sm r) ?_;cases o with
   |rt z=>cases e1;exact λv Hs' H' x rv=>q v Hs' H' x rv
   |nx ε=>cases e1;exact λHs' H' σ rs=>q _ Hs' H' rs.ext (rep_at.mpr rfl)
   |bk ε=>cases e1
   |ct ε=>cases e1
  ·cases e
theorem okO {k:Nat}(F:Fun K x qual st f fd)(S:w6 N ps (j7 st))(hm:m=qD N.length ps.length b)(hb:∀(cdv:Value)(A:Around)(outer:List Env)(s:Shared)(H:Hp)(E:XK),Room k (A.deeper (envOfC qual (j7 st) s.heap.objs.size f cdv)) -> ∃ t,PSs (xj v7 P w K mg base N qual (j7 st) f cdv A outer s H E).nox (qj st) t/\o4 true t b):FnOk P w K mg base v7 (k+1) f fd ps (m5 m):=by
 subst hm;refine F.ok S (λvs H Q E h=>?_) (λcdv A outer s H vs Q E hr h=>?_)
 ·obtain ⟨Hs,xs,y,_,r,e,_⟩:=h;unfold qD at e;split at e
  ·rename_i hl;rw [r.length];exact hl
  ·cases e
 ·obtain ⟨Hs,xs,y,sm,r,e,q⟩:=h;obtain ⟨t,ht,sem⟩:=hb cdv A outer s H E hr;refine ⟨t,ht,?_⟩;unfold qD at e;split at e
  ·rename_i hl;obtain ⟨o,eo,e1⟩:=bind_some e;refine sem.h eo (by rw [<- hl];exact jR sm r) ?_;cases o with
   |rt z=>cases e1;exact λa Hs' H' x n n' t=>q a Hs' H' x n n' t
   |nx ε=>cases e1
   |bk ε=>cases e1
   |ct ε=>cases e1
  ·cases e
end
end Mi
namespace Mi
open PySem L2
variable{X:Cx}{K:Fg}{ta:TA}{j:Int}{H H0 Hs Hs0:Hp}{xs ys:List PV}{x y:PV}{v:V}{td te tv ty:TE}{vs ws:List V}{l:List Int}{u:ME->Option (Option Int)}{o:HO}{f nm qual:Str}{tt:TT}{t tb:TS}{S:List Addr}{σ σ':St}{ε ε':ME}{n:Nat}{E:XK}{pre:List PV->Prop}{R:List PV->PV->Prop}{as it:MA}{c:MB}{wi:TI}{tg:TG}{ts:List Nat}{N ns ps:List Str}{st:Stmt}{fd:FuncData}{G:MG}{m:List PV->Option PV}{C:Addr}{e:Expr}{pos:Pos}{kvs:List (z9×V)}{α:Type}{sp:Sp}
theorem qf {a:Expr}{ta:TE}(h:X.K=K)(ha:PE X a ta)(he:∀ whole,isTrue a X.env whole=(do let v <- whole;standAt a.pos;holding [v] (truthy v))):PT X a (tTru K ta):=RB h ha he
abbrev zZ:PV->PV->Option PV:=pI λi j=>some (.int (i-j))
abbrev pLt:PV->PV->Option PV:=pI λi j=>some (.bl (decide (i<j)))
abbrev pLe:PV->PV->Option PV:=pI λi j=>some (.bl (decide (i<=j)))
abbrev pGt:PV->PV->Option PV:=pI λi j=>some (.bl (decide (j<i)))
abbrev pGe:PV->PV->Option PV:=pI λi j=>some (.bl (decide (j<=i)))
instance {i:Int}:Decidable (Qh i j):=by unfold Qh;infer_instance
instance {i:Int}:Decidable (jx i j):=by unfold jx;infer_instance
abbrev Xb:PV->PV->Option PV:=pI λi j=>if Qh i j then some (.int (i*j)) else none
abbrev pPow:PV->PV->Option PV:=pI λi j=>if jx i j then some (.int (i ^ j.toNat)) else none
abbrev pNeg:PV->Option PV:=pU λi=> .int (-i)
theorem Reps.nil_of (r:Reps H xs []):xs=[]:=uw.mp r.length.symm
def qo:PV->PV->Option PV
 | .at (.int i),.at (.int j)=>some (.at (.int (i+j)))
 | .at (.str x),.at (.str y)=>if x.length+y.length<=lim then some (.at (.str (x++y))) else none
 | .lst xs,.lst ys=>if xs.length+ys.length<=lim then some (.lst (xs++ys)) else none
 | .tup xs,.tup ys=>if xs≠[]/\xs.length+ys.length<=lim then some (.tup (xs++ys)) else none
 |_,_=>none
instance :xi (VI K) qo where
 h:=λ{x y z} e {Hs H v w} s a b {Q} q=>by
  unfold qo at e;split at e
  ·cases e;exact .inl ⟨_,_,b7 a,b7 b,q _ _ _ (.refl s) (rep_at.mpr rfl)⟩
  ·split at e
   ·rename_i hl;cases e;exact .inr (.inl ⟨_,_,b7 a,b7 b,qW hl,q _ _ _ (.refl s) (rep_at.mpr rfl)⟩)
   ·cases e
  ·split at e
   ·rename_i hl;cases e;obtain ⟨p,vs,rfl,e1,r1⟩:=qa s a;obtain ⟨p',ws,rfl,e2,r2⟩:=qa s b;refine .inr (.inr (.inl ⟨p,p',vs,ws,rfl,rfl,SqL.of e1,SqL.of e2,qW (by rw [r1.length,r2.length];exact hl),λl hl=>?_⟩));exact q _ _ _ (.new s hl) (rep_lst.mpr ⟨l,_,rfl,y9,(r1.append r2).mono (Ext.new s hl).s1⟩)
   ·cases e
  ·split at e
   ·rename_i hl;cases e;obtain ⟨p,vs,rfl,e1,r1⟩:=qY s a;obtain ⟨p',ws,rfl,e2,r2⟩:=qY s b;have hn:vs≠[]:=λz=>by
     have h1:=r1.length;rw [z] at h1;exact hl.1 (uw.mp h1.symm)
    refine .inr (.inr (.inr ⟨p,p',vs,ws,rfl,rfl,SqT.of e1,SqT.of e2,hn,qW (by rw [r1.length,r2.length];exact hl.2),λz=>?_,λz l hl=>?_⟩))
    ·subst z;cases r2.nil_of;rw [yn] at q;rcases a with a|⟨_,_,_,t⟩
     ·exact q _ _ _ (.refl s) a
     ·exact t.elim
    ·exact q _ _ _ (.new s hl) (rep_tup.mpr ⟨l,_,rfl,y9,(r1.append r2).mono (Ext.new s hl).s1⟩)
   ·cases e
  ·cases e
def qp:List PV->Option PV
 |[.at (.str x)]=>if x.length<=lim then some (.at (.int x.length)) else none
 |[.lst xs]=>some (.at (.int xs.length))
 |[.tup xs]=>some (.at (.int xs.length))
 |[.dk ks _]=>some (.at (.int ks.length))
 |_=>none
instance :wc (jr K) qp where
 h:=λ{xs z} e {Hs H vs} s r {Q} q=>by
  unfold qp at e;split at e
  ·split at e
   ·rename_i hl;cases e;obtain ⟨v,rfl,a⟩:=xZ r;cases b7 a;exact .inl ⟨_,_,rfl,⟨qW hl,rfl⟩,q _ _ _ (.refl s) (rep_at.mpr rfl)⟩
   ·cases e
  ·cases e;obtain ⟨v,rfl,a⟩:=xZ r;obtain ⟨p,ws,rfl,e1,r1⟩:=qa s a;exact .inl ⟨_,_,rfl,.inl ⟨ws,SqL.of e1,rfl⟩,q _ _ _ (.refl s) (rep_at.mpr (by rw [r1.length]))⟩
  ·cases e;obtain ⟨v,rfl,a⟩:=xZ r;obtain ⟨p,ws,rfl,e1,r1⟩:=qY s a;exact .inl ⟨_,_,rfl,.inr ⟨ws,SqT.of e1,rfl⟩,q _ _ _ (.refl s) (rep_at.mpr (by rw [r1.length]))⟩
  ·cases e;obtain ⟨v,rfl,a⟩:=xZ r;obtain ⟨p,kvs,rfl,e1,k,r1⟩:=jQ s a;exact .inr ⟨p,kvs,rfl,e1,q _ _ _ (.refl s) (rep_at.mpr (by rw [<- k,yZ]))⟩
  ·cases e
def vF:List PV->Option PV
 |[.lst xs]=>some (.lst xs)
 |[.tup xs]=>some (.lst xs)
 |_=>none
instance :ZY (BN K) vF where
 h:=λ{xs z} e {Hs H vs} s r {Q} q=>by
  unfold vF at e;split at e
  ·cases e;obtain ⟨v,rfl,a⟩:=xZ r;obtain ⟨p,ws,rfl,e1,r1⟩:=qa s a;exact ⟨p,ws,rfl,.inl (SqL.of e1),λl hl=>q l _ _ (.newO s hl) hl (s.free hl) ⟨ws,y9,r1⟩⟩
  ·cases e;obtain ⟨v,rfl,a⟩:=xZ r;obtain ⟨p,ws,rfl,e1,r1⟩:=qY s a;exact ⟨p,ws,rfl,.inr (SqT.of e1),λl hl=>q l _ _ (.newO s hl) hl (s.free hl) ⟨ws,y9,r1⟩⟩
  ·cases e
def tyP:PV->Option String
 | .at .non=>some "NoneType"
 | .at (.bl _)=>some "bool"
 | .at (.int _)=>some "int"
 | .at (.str _)=>some "str"
 | .lst _=>some "list"
 | .tup _=>some "tuple"
 | .dk _ _=>some "dict"
 |_=>none
theorem SU {T:String}(s:Same Hs H)(r:RepB Hs H x v)(e:tyP x=some T):xp K H v (.type T):=by
 unfold tyP at e;split at e
 ·cases e;cases b7 r;exact .non
 ·cases e;cases b7 r;exact .bl _
 ·cases e;cases b7 r;exact .int _
 ·cases e;cases b7 r;exact .str _
 ·cases e;obtain ⟨p,ws,rfl,e1,r1⟩:=qa s r;exact .lst e1
 ·cases e;obtain ⟨p,ws,rfl,e1,r1⟩:=qY s r;exact .tup e1
 ·cases e;obtain ⟨p,ws,rfl,e1,_⟩:=jQ s r;exact .dK e1
 ·cases e
def o3:List PV->Option PV
 |[x,.at (.ty n)]=>(tyP x).bind λT=>(tyB T n).bind λb=>some (.at (.bl b))
 |_=>none
instance :wc (rIsi K) o3 where
 h:=λ{xs z} e {Hs H vs} s r {Q} q=>by
  unfold o3 at e;split at e
  ·obtain ⟨T,eT,e1⟩:=bind_some e;obtain ⟨b,eb,e2⟩:=bind_some e1;cases e2;obtain ⟨v,w,rfl,a,c⟩:=RU r;cases b7 c;exact ⟨v,_,T,b,rfl,SU s a eT,eb,q _ _ _ (.refl s) (rep_at.mpr rfl)⟩
  ·cases e
def bls:List PV->Option (List Bool)
 |[]=>some []
 | .at (.bl b)::xs=>(bls xs).map (b::·)
 |_::_=>none
theorem Gi:∀{xs:List PV}{bs:List Bool},bls xs=some bs->xs=bs.map λb=> .at (.bl b)
 |[],_,h=>by cases h;rfl
 |x::xs,bs,h=>by
  unfold bls at h;split at h
  ·rename_i heq;cases heq
  ·rename_i b ys heq;injection heq with h1 h2;obtain ⟨r,e,rfl⟩:=yJ.mp h;subst h2;rw [h1,yI,Gi e]
  ·cases h
def zR:List PV->Option (List Int)
 |[]=>some []
 | .at (.int b)::xs=>(zR xs).map (b::·)
 |_::_=>none
theorem JF:∀{xs:List PV}{bs:List Int},zR xs=some bs->xs=bs.map λb=> .at (.int b)
 |[],_,h=>by cases h;rfl
 |x::xs,bs,h=>by
  unfold zR at h;split at h
  ·rename_i heq;cases heq
  ·rename_i b ys heq;injection heq with h1 h2;obtain ⟨r,e,rfl⟩:=yJ.mp h;subst h2;rw [h1,yI,JF e]
  ·cases h
def zg:List PV->Option PV
 |[.lst xs]=>(bls xs).bind λbs=>some (.at (.bl (bs.all id)))
 |_=>none
instance :wc (BH K) zg where
 h:=λ{xs z} e {Hs H vs} s r {Q} q=>by
  unfold zg at e;split at e
  ·obtain ⟨bs,eb,e1⟩:=bind_some e;cases e1;obtain ⟨v,rfl,a⟩:=xZ r;obtain ⟨p,ws,rfl,e1,r1⟩:=qa s a;rw [Gi eb,show (bs.map λb=>PV.at (.bl b))=(bs.map V.bl).map .at by rw [yx];rfl] at r1;cases r1.ats;exact ⟨p,bs,rfl,SqL.of e1,q _ _ _ (.refl s) (rep_at.mpr rfl)⟩
  ·cases e
def wV:List PV->Option PV
 |[.lst xs]=>(zR xs).bind λbs=>some (.at (.int bs.sum))
 |_=>none
instance :wc (BU K) wV where
 h:=λ{xs z} e {Hs H vs} s r {Q} q=>by
  unfold wV at e;split at e
  ·obtain ⟨bs,eb,e1⟩:=bind_some e;cases e1;obtain ⟨v,rfl,a⟩:=xZ r;obtain ⟨p,ws,rfl,e1,r1⟩:=qa s a;rw [JF eb,show (bs.map λb=>PV.at (.int b))=(bs.map V.int).map .at by rw [yx];rfl] at r1;cases r1.ats;exact ⟨p,bs,rfl,SqL.of e1,q _ _ _ (.refl s) (rep_at.mpr rfl)⟩
  ·cases e
def vq:PV->Bool
 | .at .non=>true
 |_=>false
def QC:PV->Bool
 | .op _=>true
 |_=>false
def vE:PV->PV->Option PV:=λx y=>if vq y=true/\QC x=false then some (.at (.bl (vq x))) else none
def vH:PV->PV->Option PV:=λx y=>if vq y=true/\QC x=false then some (.at (.bl (!vq x))) else none
theorem Ze (s:Same Hs H)(r:RepB Hs H x v)(ho:QC x=false):decide (v = .non)=vq x:=by
 cases x with
 |«at» u=>cases b7 r;cases v<;>first|rfl|(exact yB (λz=>nomatch z))
 |tup xs=>obtain ⟨p,ws,rfl,_⟩:=qY s r;exact yB (λz=>nomatch z)
 |lst xs=>obtain ⟨p,ws,rfl,_⟩:=qa s r;exact yB (λz=>nomatch z)
 |dk ks xs=>obtain ⟨p,ws,rfl,_⟩:=jQ s r;exact yB (λz=>nomatch z)
 |fk ks xs=>obtain ⟨p,o,ws,rfl,_⟩:=Xl s r;exact yB (λz=>nomatch z)
 |ob C ns xs=>obtain ⟨p,dx,ws,rfl,_⟩:=Pe s r;exact yB (λz=>nomatch z)
 |op φ=>cases ho
instance:xi rIsN vE where
 h:=λ{x y z} e {Hs H v w} s a b {Q} q=>by
  unfold vE at e;split at e
  ·rename_i hy;cases e;have hb:QC y=false:=by cases y<;>first|rfl|(exact absurd hy.1 (by simp [vq]))
   refine ⟨uV ((Ze s b hb).trans hy.1),?_⟩;rw [Ze s a hy.2];exact q _ _ _ (.refl s) (rep_at.mpr rfl)
  ·cases e
instance:xi BP vH where
 h:=λ{x y z} e {Hs H v w} s a b {Q} q=>by
  unfold vH at e;split at e
  ·rename_i hy;cases e;have hb:QC y=false:=by cases y<;>first|rfl|(exact absurd hy.1 (by simp [vq]))
   refine ⟨uV ((Ze s b hb).trans hy.1),?_⟩;rw [Ze s a hy.2];exact q _ _ _ (.refl s) (rep_at.mpr rfl)
  ·cases e
def zE (f:PV->PV->Option Bool):List PV->List PV->Option Bool
 |x::xs,y::ys=>(f x y).bind λa=>(zE f xs ys).bind λb=>some (a&&b)
 |_,_=>some true
def peq0:PV->PV->Option Bool
 | .at u,.at v=>if u8 u=true/\u8 v=true then some (i5 u v) else none
 |_,_=>none
def peq1 (f:PV->PV->Option Bool):PV->PV->Option Bool
 | .at u,.at v=>if u8 u=true/\u8 v=true then some (i5 u v) else none
 | .lst xs,.lst ys=>if xs.length=ys.length then zE f xs ys else some false
 | .tup xs,.tup ys=>(zE f xs ys).bind λb=>some (b&&xs.length==ys.length)
 | .lst _,.tup _=>some false
 | .tup _,.lst _=>some false
 | .at u,.lst _=>if u8 u=true then some false else none
 | .at u,.tup _=>if u8 u=true then some false else none
 | .lst _,.at u=>if u8 u=true then some false else none
 | .tup _,.at u=>if u8 u=true then some false else none
 |_,_=>none
def peq:Nat->PV->PV->Option Bool
 |0=>peq0
 |n+1=>peq1 (peq n)
theorem Vu {K:Fg}{Hs H:Hp}{n:Nat}(s:Same Hs H)(ih:∀{x y:PV}{v w:V}{b:Bool},peq n x y=some b->Rep Hs x v->Rep Hs y w->EqP K H n v w b):∀{xs ys:List PV}{vs ws:List V}{b:Bool},zE (peq n) xs ys=some b->Reps Hs xs vs->Reps Hs ys ws->∃ e:Nat->Bool,(∀ j (h1:j<vs.length) (h2:j<ws.length),EqP K H n vs[j] ws[j] (e j))/\b=(List.range (min vs.length ws.length)).all e
 |[],ys,vs,ws,b,h,r1,r2=>by
  cases reps_nil.mp r1;unfold zE at h;cases h;exact ⟨λ_=>true,λj h1=>absurd h1 (tY _),by simp⟩
 |x::xs,[],vs,ws,b,h,r1,r2=>by
  cases reps_nil.mp r2;unfold zE at h;cases h;exact ⟨λ_=>true,λj h1 h2=>absurd h2 (tY _),by simp⟩
 |x::xs,y::ys,vs,ws,b,h,r1,r2=>by
  obtain ⟨v,vr,rfl,p1,q1⟩:=reps_cons.mp r1;obtain ⟨w,wr,rfl,p2,q2⟩:=reps_cons.mp r2;unfold zE at h;obtain ⟨a,ea,h1⟩:=bind_some h;obtain ⟨c,ec,h2⟩:=bind_some h1;cases h2;obtain ⟨e,he,hb⟩:=Vu s ih ec q1 q2;refine ⟨λj=>match j with|0=>a|j+1=>e j,λj h1 h2=>?_,?_⟩
  ·cases j with
   |zero=>exact ih ea p1 p2
   |succ j=>exact he j (by simpa using h1) (by simpa using h2)
  ·rw [yG,yG,Nat.succ_min_succ,List.range_succ_eq_map,List.all_cons,List.all_map,hb];rfl
theorem Vt {K:Fg}{Hs H:Hp}(s:Same Hs H):∀(n:Nat){x y:PV}{v w:V}{b:Bool},peq n x y=some b->RepB Hs H x v->RepB Hs H y w->EqP K H n v w b
 |0,x,y,v,w,b,h,r1,r2=>by
  unfold peq peq0 at h;split at h
  ·split at h
   ·rename_i hf;cases h;cases b7 r1;cases b7 r2;exact ⟨hf.1,hf.2,rfl⟩
   ·cases h
  ·cases h
 |n+1,x,y,v,w,b,h,r1,r2=>by
  have ih:∀{x y:PV}{v w:V}{b:Bool},peq n x y=some b->Rep Hs x v->Rep Hs y w->EqP K H n v w b:=λh r1 r2=>Vt s n h (.inl r1) (.inl r2);unfold peq peq1 at h;split at h
  ·split at h
   ·rename_i hf;cases h;cases b7 r1;cases b7 r2;exact .inl ⟨hf.1,hf.2,rfl⟩
   ·cases h
  ·obtain ⟨a,vs,rfl,e1,q1⟩:=qa s r1;obtain ⟨c,ws,rfl,e2,q2⟩:=qa s r2;refine .inr (.inl ⟨a,c,vs,ws,rfl,rfl,SqL.of e1,SqL.of e2,?_⟩);split at h
   ·rename_i hl;obtain ⟨e,he,hb⟩:=Vu s ih h q1 q2;have hl':vs.length=ws.length:=by rw [q1.length,q2.length,hl]
    exact .inr ⟨hl',e,he,by rw [hb,<- hl',Nat.min_self]⟩
   ·rename_i hl;cases h;exact .inl ⟨by rw [q1.length,q2.length];exact hl,rfl⟩
  ·obtain ⟨a,vs,rfl,e1,q1⟩:=qY s r1;obtain ⟨c,ws,rfl,e2,q2⟩:=qY s r2;obtain ⟨d,ed,h1⟩:=bind_some h;cases h1;obtain ⟨e,he,hb⟩:=Vu s ih ed q1 q2;exact .inr (.inr (.inl ⟨a,c,vs,ws,rfl,rfl,SqT.of e1,SqT.of e2,e,he,by rw [hb,q1.length,q2.length]⟩))
  ·cases h;obtain ⟨a,vs,rfl,e1,q1⟩:=qa s r1;obtain ⟨c,ws,rfl,e2,q2⟩:=qY s r2;exact .inr (.inr (.inr (.inl ⟨a,c,vs,ws,rfl,rfl,SqL.of e1,SqT.of e2,rfl⟩)))
  ·cases h;obtain ⟨a,vs,rfl,e1,q1⟩:=qY s r1;obtain ⟨c,ws,rfl,e2,q2⟩:=qa s r2;exact .inr (.inr (.inr (.inr (.inl ⟨a,c,vs,ws,rfl,rfl,SqT.of e1,SqL.of e2,rfl⟩))))
  ·split at h
   ·rename_i hf;cases h;cases b7 r1;obtain ⟨c,ws,rfl,e2,q2⟩:=qa s r2;exact .inr (.inr (.inr (.inr (.inr (.inl ⟨c,ws,hf,rfl,.inl (SqL.of e2),rfl⟩)))))
   ·cases h
  ·split at h
   ·rename_i hf;cases h;cases b7 r1;obtain ⟨c,ws,rfl,e2,q2⟩:=qY s r2;exact .inr (.inr (.inr (.inr (.inr (.inl ⟨c,ws,hf,rfl,.inr (SqT.of e2),rfl⟩)))))
   ·cases h
  ·split at h
   ·rename_i hf;cases h;cases b7 r2;obtain ⟨c,ws,rfl,e2,q2⟩:=qa s r1;exact .inr (.inr (.inr (.inr (.inr (.inr ⟨c,ws,hf,rfl,.inl (SqL.of e2),rfl⟩)))))
   ·cases h
  ·split at h
   ·rename_i hf;cases h;cases b7 r2;obtain ⟨c,ws,rfl,e2,q2⟩:=qY s r1;exact .inr (.inr (.inr (.inr (.inr (.inr ⟨c,ws,hf,rfl,.inr (SqT.of e2),rfl⟩)))))
   ·cases h
  ·cases h
def qx:PV->PV->Option PV:=λx y=>(peq 6 x y).bind λb=>some (.at (.bl b))
def pNe:PV->PV->Option PV:=λx y=>(peq 6 x y).bind λb=>some (.at (.bl (!b)))
instance :xi (rEqD K 6 false) qx where
 h:=λ{x y z} e {Hs H v w} s a b {Q} q=>by
  obtain ⟨c,ec,e1⟩:=bind_some e;cases e1;exact ⟨c,Vt s 6 ec a b,q _ _ _ (.refl s) (rep_at.mpr rfl)⟩
instance :xi (rEqD K 6 true) pNe where
 h:=λ{x y z} e {Hs H v w} s a b {Q} q=>by
  obtain ⟨c,ec,e1⟩:=bind_some e;cases e1;exact ⟨c,Vt s 6 ec a b,q _ _ _ (.refl s) (rep_at.mpr rfl)⟩
class we (to:TO)(f:ME->Option (Option Int)):Prop where
 h:∀{ε y},f ε=some y->∀{Hs0 H0 Hs H σ},RS Hs0 H0 Hs H σ ε->∀{Q:Option Int->Hp->Prop},(∀ Hs' H',Ext Hs H Hs' H'->Q y H')->to σ H Q
def pNo:ME->Option (Option Int):=λ_=>some none
def pInt:PV->Option Int
 | .at (.int i)=>some i
 |_=>none
def pSo (a:M):ME->Option (Option Int):=λε=>(a ε).bind λx=>(pInt x).bind λi=>some (some i)
instance:we PQ pNo where
 h:=λe _ _ _ _ _ rs _ q=>by cases e;exact q _ _ (.refl rs.sub)
instance {a:M}[sa:i4 te a]:we (PU te) (pSo a) where
 h:=λe _ _ _ _ _ rs _ q=>by
  obtain ⟨x,ex,e1⟩:=bind_some e;obtain ⟨i,ei,e2⟩:=bind_some e1;cases e2;unfold pInt at ei;split at ei
  ·cases ei;exact sa.h ex rs λv Hs1 H1 x1 r1=>⟨_,b7 r1,q _ _ x1⟩
  ·cases ei
def vh (xs:List PV)(lo hi:Option Int):List PV:=(xs.drop (HT.sIx xs.length 0 lo)).take (HT.sIx xs.length xs.length hi-HT.sIx xs.length 0 lo)
theorem Reps.cut (r:Reps H xs vs)(lo hi:Option Int):Reps H (vh xs lo hi) (wj vs lo hi):=by unfold vh wj;rw [r.length];exact (r.drop _).take _
def wo (a:M)(l u:ME->Option (Option Int)):M:=λε=>(a ε).bind λx=>(l ε).bind λlo=>(u ε).bind λhi=>match x with
 | .lst xs=>some (.lst (vh xs lo hi))
 |_=>none
instance {tl th:TO}{a:M}{l:ME->Option (Option Int)}[sa:i4 te a][sl:we tl l][su:we th u]:xh (tSl (rSlL K) te tl th) (wo a l u) where
 h:=λe _ _ _ _ _ rs _ q=>by
  obtain ⟨x,ex,e1⟩:=bind_some e;obtain ⟨lo,el,e2⟩:=bind_some e1;obtain ⟨hi,eu,e3⟩:=bind_some e2;split at e3
  ·cases e3;refine sa.h ex rs λv Hs1 H1 x1 r1=>sl.h el (rs.go x1) λHs2 H2 x2=>su.h eu ((rs.go x1).go x2) λHs3 H3 x3=>?_;obtain ⟨p,vs,rfl,e1,r⟩:=qa x3.s3 ((r1.ext x2).ext x3);have x13:=x1.trans (x2.trans x3);exact ⟨p,vs,rfl,SqL.of e1,λd hd=>q d _ _ (x13.trans (.newO x3.s3 hd)) (x13.s2.free hd) (x3.s3.free hd) ⟨_,y9,r.cut lo hi⟩⟩
  ·cases e3
def qK (n:Nat):List PV->List PV
 |[]=>[]
 |x::xs=> .tup [.at (.int n),x]::qK (n+1) xs
theorem GQ:∀{xs:List PV}{n i:Nat}{z:PV},(qK n xs)[i]?=some z->∃ x,xs[i]?=some x/\z = .tup [.at (.int ((n+i:Nat):Int)),x]
 |[],n,i,z,h=>by simp [qK] at h
 |x::xs,n,0,z,h=>by simp [qK] at h;exact ⟨x,rfl,h.symm⟩
 |x::xs,n,i+1,z,h=>by
  obtain ⟨y,h1,h2⟩:=GQ (xs:=xs) (n:=n+1) (i:=i) (z:=z) (by simpa [qK] using h);exact ⟨y,by simpa using h1,by rw [h2,show n+1+i=n+(i+1) by omega]⟩
theorem GR:∀{xs:List PV}{n:Nat},(qK n xs).length=xs.length
 |[],_=>rfl
 |x::xs,n=>by simp [qK,GR]
theorem Lh {a:Addr}(h:Hs a=some (.lst vs))(r:Reps Hs xs vs):jy (Ite K a) (qK 0 xs) Hs where
 go:=λi x Hs1 H1 e g1 g2=>by
  obtain ⟨y,ey,rfl⟩:=GQ e;obtain ⟨v,ev,rv⟩:=r.get ey;refine ⟨⟨vs,v,SqL.of (g2 _ _ (g1 _ _ h)),ev⟩,λw H2 z=>?_⟩;obtain ⟨p,u,hp,rfl,rfl,hu⟩:=z;have e1:=hu vs (SqL.of (g2 _ _ (g1 _ _ h)));rw [ev] at e1;cases e1;refine ⟨_,.new g2 hp,rep_tup.mpr ⟨p,_,rfl,y9,.cons (rep_at.mpr (by rw [Nat.zero_add])) (.one (rv.mono (g1.trans (Ext.new g2 hp).s1)))⟩⟩
 stop:=λHs1 H1 g1 g2=>⟨vs,SqL.of (g2 _ _ (g1 _ _ h)),by rw [r.length,GR];exact yU _⟩
def jB (a:MA):MA:=λε=>(a ε).bind λxs=>match xs with
 |[.lst ys]=>some (qK 0 ys)
 |_=>none
instance {a:MA}[sa:xg ta a]:zN (JE K ta) (jB a) where
 h:=λe _ _ _ _ _ rs _ q=>by
  obtain ⟨xs,ex,e1⟩:=bind_some e;split at e1
  ·cases e1;refine sa.h ex rs λvs Hs1 H1 x1 r1=>?_;obtain ⟨v,r,rfl,p1,p2⟩:=reps_cons.mp r1;cases reps_nil.mp p2;obtain ⟨p,ws,rfl,hp,rw⟩:=rep_lst.mp p1;exact ⟨p,rfl,⟨ws,SqL.of (x1.s3 _ _ hp)⟩,q _ _ _ x1 (Lh hp rw)⟩
  ·cases e1
def o7:List PV->List PV->List PV
 |x::xs,y::ys=> .tup [x,y]::o7 xs ys
 |_,_=>[]
theorem CD:∀{xs ys:List PV}{i:Nat}{z:PV},(o7 xs ys)[i]?=some z->∃ x y,xs[i]?=some x/\ys[i]?=some y/\z = .tup [x,y]
 |[],_,i,z,h=>by simp [o7] at h
 |_::_,[],i,z,h=>by simp [o7] at h
 |x::xs,y::ys,0,z,h=>by simp [o7] at h;exact ⟨x,y,rfl,rfl,h.symm⟩
 |x::xs,y::ys,i+1,z,h=>by
  obtain ⟨u,v,h1,h2,h3⟩:=CD (xs:=xs) (ys:=ys) (i:=i) (z:=z) (by simpa [o7] using h);exact ⟨u,v,by simpa using h1,by simpa using h2,h3⟩
theorem CF:∀{xs ys:List PV},(o7 xs ys).length=min xs.length ys.length
 |[],_=>by simp [o7]
 |_::_,[]=>by simp [o7]
 |x::xs,y::ys=>by simp [o7,CF,Nat.succ_min_succ]
theorem Ln {a b:Addr}(h:Hs a=some (.lst vs))(r:Reps Hs xs vs)(h':Hs b=some (.lst ws))(r':Reps Hs ys ws):jy (Itz K a b) (o7 xs ys) Hs where
 go:=λi x Hs1 H1 e g1 g2=>by
  obtain ⟨y,z,ey,ez,rfl⟩:=CD e;obtain ⟨v,ev,rv⟩:=r.get ey;obtain ⟨w,ew,rw⟩:=r'.get ez;have q1:SqL K H1 a vs:=SqL.of (g2 _ _ (g1 _ _ h));have q2:SqL K H1 b ws:=SqL.of (g2 _ _ (g1 _ _ h'));refine ⟨⟨vs,ws,v,w,q1,q2,ev,ew⟩,λu H2 z=>?_⟩;obtain ⟨p,v',w',hp,rfl,rfl,hv,hw⟩:=z;have e1:=hv vs q1;have e2:=hw ws q2;rw [ev] at e1;rw [ew] at e2;cases e1;cases e2;have g3:=g1.trans (Ext.new (o:= .tup [v,w]) g2 hp).s1;exact ⟨_,.new g2 hp,rep_tup.mpr ⟨p,_,rfl,y9,.cons (rv.mono g3) (.one (rw.mono g3))⟩⟩
 stop:=λHs1 H1 g1 g2=>⟨vs,ws,SqL.of (g2 _ _ (g1 _ _ h)),SqL.of (g2 _ _ (g1 _ _ h')),by rw [r.length,r'.length,CF];omega⟩
def ji (a:MA):MA:=λε=>(a ε).bind λxs=>match xs with
 |[.lst ys,.lst zs]=>some (o7 ys zs)
 |_=>none
instance {a:MA}[sa:xg ta a]:zN (iZip K ta) (ji a) where
 h:=λe _ _ _ _ _ rs _ q=>by
  obtain ⟨xs,ex,e1⟩:=bind_some e;split at e1
  ·cases e1;refine sa.h ex rs λvs Hs1 H1 x1 r1=>?_;obtain ⟨v,r,rfl,p1,p2⟩:=reps_cons.mp r1;obtain ⟨v',r',rfl,p3,p4⟩:=reps_cons.mp p2;cases reps_nil.mp p4;obtain ⟨p,ws,rfl,hp,rw1⟩:=rep_lst.mp p1;obtain ⟨p',ws',rfl,hp',rw2⟩:=rep_lst.mp p3;exact ⟨p,p',rfl,⟨ws,SqL.of (x1.s3 _ _ hp)⟩,⟨ws',SqL.of (x1.s3 _ _ hp')⟩,q _ _ _ x1 (Ln hp rw1 hp' rw2)⟩
  ·cases e1
structure RD (S:List Addr)(Hs0 H0 Hs H:Hp)(σ:St)(ε:ME):Prop where
 s1:Same Hs0 Hs
 s2:∀ b o,H0 b=some o->b∉S->H b=some o
 s3:Same Hs H
 s4:∀ b,H0 b≠none->Hs0 b=none->Hs b=none
 sh:∀(i:Nat)(x:PV),ε[i]?=some (.sh x)->∃ v,σ[i]?=some (some v)/\Rep Hs x v
 ow:∀(i:Nat)(x:PV),ε[i]?=some (.ow x)->∃ a,σ[i]?=some (some (.ref a))/\(H0 a=none∨a∈S)/\Hs a=none/\Top Hs H a x
 nd:∀(i j:Nat)(x y:PV)(a:Addr),ε[i]?=some (.ow x)->ε[j]?=some (.ow y)->σ[i]?=some (some (.ref a))->σ[j]?=some (some (.ref a))->i=j
 len:σ.length=ε.length
 pin:∀ a∈S,σ[0]?=some (some (.ref a))
 live:∀ a∈S,H a≠none
 str:∀ a∈S,∃ y,ε[0]?=some (.ow y)
 nb:∀(i:Nat)(x:PV),ε[i]?≠some (.bo x)
section
variable {S:List Addr}{Hs0 H0 Hs H Hs' H':Hp}{σ:St}{ε:ME}
theorem RD.rs (r:RD S Hs0 H0 Hs H σ ε):RS Hs Hs Hs H σ ε where
 ext:=⟨.refl _,r.s3,r.s3,λ_ h z=>absurd z h⟩
 sh:=r.sh
 ow:=λi x h=>by obtain ⟨a,h1,_,h3,h4⟩:=r.ow i x h;exact ⟨a,h1,h3,h3,h4⟩
 nd:=r.nd
 len:=r.len
 bo:=λi x h=>absurd h (r.nb i x)
theorem RD.there (r:RD S Hs0 H0 Hs H σ ε){b:Addr}(h:H0 b≠none):H b≠none:=by
 by_cases hS:b∈S
 ·exact r.live b hS
 ·cases q:H0 b with
  |none=>exact absurd q h
  |some o=>rw [r.s2 b o q hS];exact λz=>nomatch z
theorem RD.go (r:RD S Hs0 H0 Hs H σ ε)(e:Ext Hs H Hs' H'):RD S Hs0 H0 Hs' H' σ ε where
 s1:=r.s1.trans e.s1
 s2:=λb o h n=>e.s2 _ _ (r.s2 b o h n)
 s3:=e.s3
 s4:=λb h z=>e.s4 b (r.there h) (r.s4 b h z)
 sh:=λi x q=>by obtain ⟨v,a,b⟩:=r.sh i x q;exact ⟨v,a,b.mono e.s1⟩
 ow:=λi x q=>by
  obtain ⟨a,b,n0,n,t⟩:=r.ow i x q;exact ⟨a,b,n0,e.s4 a t.there n,t.mono e.s1 λo z=>e.s2 _ _ z⟩
 nd:=r.nd
 len:=r.len
 pin:=r.pin
 live:=λa h=>Yh e.s2 (r.live a h)
 str:=r.str
 nb:=r.nb
theorem RD.change (r:RD S Hs0 H0 Hs H σ ε){i:Nat}{a:Addr}(hi:ε[i]?=some (.ow x))(ha:σ[i]?=some (some (.ref a)))(t:Top Hs (j4 H a o) a y):RD S Hs0 H0 Hs (j4 H a o) σ (ε.set i (.ow y)):=by
 obtain ⟨b,hb,n0,n,tx⟩:=r.ow i x hi;rw [ha] at hb;injection hb with hb;injection hb with hb;injection hb with hb;subst hb;have q:=(r.rs).change hi ha t;refine ⟨r.s1,λb u e hS=>?_,λb u e=>?_,r.s4,q.sh,λj z hz=>?_,q.nd,q.len,r.pin,λb hS=>?_,λb hS=>?_,wN r.nb λ_ z=>nomatch z⟩
 ·have hne:b≠a:=λz=>by
   rcases n0 with n0|n0
   ·rw [z,n0] at e;cases e
   ·exact hS (z▸n0)
  rw [z5 hne];exact r.s2 b u e hS
 ·rw [z5 (u6 e n)];exact r.s3 _ _ e
 ·obtain ⟨c,hc,m1,m2,tc⟩:=q.ow j z hz;refine ⟨c,hc,?_,m2,tc⟩;rw [yv] at hz;split at hz
  ·rename_i hij;rw [<- hij,ha] at hc;injection hc with hc;injection hc with hc;injection hc with hc;rw [<- hc];exact n0
  ·obtain ⟨d,hd,m0,_⟩:=r.ow j z hz;rw [hd] at hc;injection hc with hc;injection hc with hc;injection hc with hc;rw [<- hc];exact m0
 ·by_cases hba:b=a
  ·rw [hba,y9];exact λz=>nomatch z
  ·rw [z5 hba];exact r.live b hS
 ·obtain ⟨y',hy⟩:=r.str b hS;rw [yv];split
  ·rename_i h0;rw [if_pos (by rw [h0];exact (yL.mp hy).1)];exact ⟨y,rfl⟩
  ·exact ⟨y',hy⟩
theorem RD.put (r:RD S Hs0 H0 Hs H σ ε){i:Nat}(h:Rep Hs x v):RD S Hs0 H0 Hs H (σ.set (i+1) (some v)) (ε.set (i+1) (.sh x)):=by
 have q:=(r.rs).put (i:=i+1) h;refine ⟨r.s1,r.s2,r.s3,r.s4,q.sh,λj z hz=>?_,q.nd,q.len,λa hS=>by rw [yq (by omega)];exact r.pin a hS,r.live,λa hS=>by rw [yq (by omega)];exact r.str a hS,wN r.nb λ_ z=>nomatch z⟩;obtain ⟨c,hc,m1,m2,tc⟩:=q.ow j z hz;refine ⟨c,hc,?_,m2,tc⟩;rw [yv] at hz hc;split at hz
 ·split at hz<;>cases hz
 ·rename_i hij;rw [if_neg hij] at hc;obtain ⟨d,hd,m0,_⟩:=r.ow j z hz;rw [hd] at hc;injection hc with hc;injection hc with hc;injection hc with hc;rw [<- hc];exact m0
theorem RD.putO (r:RD S Hs0 H0 Hs H σ ε){i:Nat}{a:Addr}(h0:H0 a=none∨a∈S)(h1:Hs a=none)(h2:Top Hs H a x)(ne:∀(j:Nat)(y:PV),ε[j]?=some (.ow y)->σ[j]?≠some (some (.ref a))):RD S Hs0 H0 Hs H (σ.set (i+1) (some (.ref a))) (ε.set (i+1) (.ow x)):=by
 have q:=(r.rs).putO (i:=i+1) ⟨h1,h1,h2⟩ ne;refine ⟨r.s1,r.s2,r.s3,r.s4,q.sh,λj z hz=>?_,q.nd,q.len,λa hS=>by rw [yq (by omega)];exact r.pin a hS,r.live,λa hS=>by rw [yq (by omega)];exact r.str a hS,wN r.nb λ_ z=>nomatch z⟩;obtain ⟨c,hc,m1,m2,tc⟩:=q.ow j z hz;refine ⟨c,hc,?_,m2,tc⟩;rw [yv] at hz hc;split at hz
 ·rename_i hij;rw [if_pos hij] at hc;split at hc
  ·injection hc with hc;injection hc with hc;injection hc with hc;rw [<- hc];exact h0
  ·cases hc
 ·rename_i hij;rw [if_neg hij] at hc;obtain ⟨d,hd,m0,_⟩:=r.ow j z hz;rw [hd] at hc;injection hc with hc;injection hc with hc;injection hc with hc;rw [<- hc];exact m0
theorem RD.free0 (r:RD S Hs0 H0 Hs H σ ε){a:Addr}(h:H a=none):H0 a=none:=by
 cases q:H0 a with
 |none=>rfl
 |some o=>exact absurd h (r.there (by rw [q];exact λz=>nomatch z))
theorem RD.freeze (r:RD S Hs0 H0 Hs H σ ε)(i:Nat):∃ Hs',Same Hs Hs'/\RD S Hs0 H0 Hs' H σ (fz (i+1) ε):=by
 by_cases h:∃ x,ε[i+1]?=some (.ow x)
 ·obtain ⟨x,hi⟩:=h;obtain ⟨a,ha,n0,n,t⟩:=r.ow (i+1) x hi;have hS:a∉S:=λhS=>by
   obtain ⟨y,hy⟩:=r.str a hS;exact absurd (r.nd 0 (i+1) y x a hy hi (r.pin a hS) ha) (by omega)
  obtain ⟨o,ho,hr⟩:=t.rep n;have g:Same Hs (j4 Hs a o):=λb u e=>by rw [z5 (u6 e n)];exact e
  have ef:fz (i+1) ε=ε.set (i+1) (.sh x):=by unfold fz;rw [hi]
  have n0':H0 a=none:=n0.resolve_right hS;rw [ef];have dn:∀(j:Nat)(y:PV),(ε.set (i+1) (.sh x))[j]?=some (.ow y)->i+1≠j/\ε[j]?=some (.ow y):=λj y q=>by
   rw [yv] at q;split at q
   ·split at q<;>cases q
   ·rename_i hij;exact ⟨hij,q⟩
  refine ⟨j4 Hs a o,g,r.s1.trans g,r.s2,λb u e=>?_,λb h z=>?_,λj y q=>?_,λj y q=>?_,λj k z z' c h1 h2 h3 h4=>r.nd j k z z' c (dn j z h1).2 (dn k z' h2).2 h3 h4,by rw [ym,r.len],r.pin,r.live,(λb hb=>by rw [yq (by omega)];exact r.str b hb),wN r.nb λ_ z=>nomatch z⟩
  ·by_cases hb:b=a
   ·subst hb;rw [y9] at e;cases e;exact ho
   ·rw [z5 hb] at e;exact r.s3 _ _ e
  ·have hb:b≠a:=λe=>h (e▸n0');rw [z5 hb];exact r.s4 b h z
  ·rw [yv] at q;split at q
   ·rename_i hij;split at q
    ·injection q with q;injection q with q;subst q;exact ⟨.ref a,hij▸ha,hr⟩
    ·cases q
   ·obtain ⟨v,e,w⟩:=r.sh j y q;exact ⟨v,e,w.mono g⟩
  ·obtain ⟨hij,hq⟩:=dn j y q;obtain ⟨c,hc,m0,m,tc⟩:=r.ow j y hq;have hne:c≠a:=λe=>hij (r.nd (i+1) j x y a hi hq ha (e▸hc));exact ⟨c,hc,m0,by rw [z5 hne];exact m,tc.mono g λ_ e=>e⟩
 ·refine ⟨Hs,.refl _,?_⟩;unfold fz;split
  ·rename_i x hx;exact absurd ⟨x,hx⟩ h
  ·exact r
end
abbrev W:=ME->(PV->ME->Prop)->Prop
variable{a:W}
abbrev WA:=ME->(List PV->ME->Prop)->Prop
variable{r:WA}
abbrev WT:=ME->(Bool->ME->Prop)->Prop
abbrev WS:=ME->(ME->Prop)->(PV->ME->Prop)->Prop
variable{b:WS}
class SemW (te:TE)(w:W):Prop where
 h:∀{ε Q'},w ε Q'->∀{S Hs0 H0 Hs H σ},RD S Hs0 H0 Hs H σ ε->∀{Q:VK},(∀ y ε' v Hs' H',Q' y ε'->RD S Hs0 H0 Hs' H' σ ε'->Same Hs Hs'->Rep Hs' y v->Q v H')->te σ H Q
class jZ (ta:TA)(w:WA):Prop where
 h:∀{ε Q'},w ε Q'->∀{S Hs0 H0 Hs H σ},RD S Hs0 H0 Hs H σ ε->∀{Q:List V->Hp->Prop},(∀ ys ε' vs Hs' H',Q' ys ε'->RD S Hs0 H0 Hs' H' σ ε'->Same Hs Hs'->Reps Hs' ys vs->Q vs H')->ta σ H Q
class XB (tt:TT)(w:WT):Prop where
 h:∀{ε Q'},w ε Q'->∀{S Hs0 H0 Hs H σ},RD S Hs0 H0 Hs H σ ε->∀{Q:Bool->Hp->Prop},(∀ b ε' Hs' H',Q' b ε'->RD S Hs0 H0 Hs' H' σ ε'->Same Hs Hs'->Q b H')->tt σ H Q
class SemWS (ts:TS)(w:WS):Prop where
 h:∀{ε N R},w ε N R->∀{S Hs0 H0 Hs H σ},RD S Hs0 H0 Hs H σ ε->∀{D:xK},(∀ ε' σ' Hs' H',N ε'->RD S Hs0 H0 Hs' H' σ' ε'->Same Hs Hs'->D.nx σ' H') ->
  (∀ y ε' σ' v Hs' H',R y ε'->RD S Hs0 H0 Hs' H' σ' ε'->Same Hs Hs'->Rep Hs' y v->D.rt v H')->ts D σ H
def wP (f:M):W:=λε Q=>∃ y,f ε=some y/\Q y ε
def wPT (f:MB):WT:=λε Q=>∃ y,f ε=some y/\Q y ε
instance (priority:=50){f:M}[s:SemE te f]:SemW te (wP f) where
 h:=λ⟨y,e,q⟩ _ _ _ _ _ _ r _ k=>s.h e r.rs λv Hs' H' x rv=>k y _ v Hs' H' q (r.go x) x.s1 rv
instance (priority:=50){f:MB}[s:qR tt f]:XB tt (wPT f) where
 h:=λ⟨y,e,q⟩ _ _ _ _ _ _ r _ k=>s.h e r.rs λHs' H' x=>k y _ Hs' H' q (r.go x) x.s1
def xo (g:PV->PV->Option PV)(a b:W):W:=λε Q=>a ε λx ε1=>b ε1 λy ε2=>∃ z,g x y=some z/\Q z ε2
instance {r:R2}{g:PV->PV->Option PV}{ta tb:TE}{b:W}[sr:xi r g][sa:SemW ta a][sb:SemW tb b]:SemW (tOp r ta tb) (xo g a b) where
 h:=λh _ _ _ _ _ _ rd _ k=>sa.h h rd λx ε1 v Hs1 H1 h1 rd1 g1 r1=>sb.h h1 rd1 λy ε2 w Hs2 H2 h2 rd2 g2 r2=>by
  obtain ⟨z,ez,h2⟩:=h2;exact sr.h ez rd2.s3 (.inl (r1.mono g2)) (.inl r2) λu Hs3 H3 x3 r3=>k z ε2 u Hs3 H3 h2 (rd2.go x3) (g1.trans (g2.trans x3.s1)) r3
def qC:WA:=λε Q=>Q [] ε
def k4 (a:W)(r:WA):WA:=λε Q=>a ε λx ε1=>r ε1 λxs ε2=>Q (x::xs) ε2
instance:jZ i7 qC where
 h:=λh _ _ _ _ _ _ rd _ k=>k [] _ [] _ _ h rd (.refl _) .nil
instance [sa:SemW te a][sr:jZ ta r]:jZ (i0 te ta) (k4 a r) where
 h:=λh _ _ _ _ _ _ rd _ k=>sa.h h rd λx ε1 v Hs1 H1 h1 rd1 g1 r1=>sr.h h1 rd1 λxs ε2 vs Hs2 H2 h2 rd2 g2 r2=>k _ ε2 _ Hs2 H2 h2 rd2 (g1.trans g2) (.cons (r1.mono g2) r2)
def Qe (a:WA):W:=λε Q=>a ε λxs ε1=>xs.length<=lim/\Q (.tup xs) ε1
instance {a:WA}[sa:jZ ta a]:SemW (tTup ta) (Qe a) where
 h:=λh _ _ _ _ _ _ rd _ k=>sa.h h rd λxs ε1 vs Hs1 H1 h1 rd1 g1 r1=>⟨qW (r1.length▸h1.1),λp hp=>k _ ε1 _ _ _ h1.2 (rd1.go (.new rd1.s3 hp)) (g1.trans (Ext.new rd1.s3 hp).s1) (rep_tup.mpr ⟨p,vs,rfl,y9,r1.mono (Ext.new rd1.s3 hp).s1⟩)⟩
def jv:Sp:=λvs H Q _=>∃(a:Addr)(n m:Int),vs=[.ref a,.int m]/\H a=some (.lst [.int n])/\Qg n m/\Q (.int (n % m)) (j4 H a (.lst [.int (n / m)]))
def c8 (n:Int):MSlot:= .ow (.lst [.at (.int n)])
def wTake (i:Nat)(a:W):W:=λε Q=>a ε λx ε1=>∃ n k,x = .at (.int k)/\ε1[i]?=some (c8 n)/\Qg n k/\Q (.at (.int (n % k))) (ε1.set i (c8 (n / k)))
theorem RD.strm_at {i:Nat}{n:Int}(r:RD S Hs0 H0 Hs H σ ε)(h:ε[i]?=some (c8 n)):∃ a,σ[i]?=some (some (.ref a))/\H a=some (.lst [.int n])/\Hs a=none/\(H0 a=none∨a∈S):=by obtain ⟨a,ha,n0,n1,vs,hv,rv⟩:=r.ow i _ h;obtain ⟨v,w,rfl,p1,p2⟩:=reps_cons.mp rv;cases reps_nil.mp p2;cases rep_at.mp p1;exact ⟨a,ha,hv,n1,n0⟩
def zK (i:Nat):ME->Prop:=λε=>∃ n,ε[i]?=some (c8 n)
def qP (i:Nat)(a:W):W:=λε Q=>zK i ε/\wTake i a ε Q
instance {i:Nat}[sa:SemW te a]:SemW (jb jv [] E (i0 (qb i) (i0 te i7))) (qP i a) where
 h:=λh _ _ _ _ _ _ rd _ k=>by
  obtain ⟨⟨n0,hn0⟩,h⟩:=h;obtain ⟨p,hp,_⟩:=rd.strm_at hn0;refine ⟨_,hp,sa.h h rd λx ε1 v Hs1 H1 h1 rd1 g1 r1=>?_⟩;obtain ⟨n,m,rfl,hn,hc,h2⟩:=h1;obtain ⟨p',hp',hH,hs,_⟩:=rd1.strm_at hn;rw [hp] at hp';injection hp' with hp';injection hp' with hp';injection hp' with hp';subst hp';cases rep_at.mp r1;exact ⟨p,n,m,rfl,hH,hc,k _ _ _ _ _ h2 (rd1.change hn hp ⟨_,y9,.one (rep_at.mpr rfl)⟩) g1 (rep_at.mpr rfl)⟩
structure ExtD (p:Addr)(Hs H Hs' H':Hp):Prop where
 s1:Same Hs Hs'
 s2:∀ b o,H b=some o->b≠p->H' b=some o
 s3:Same Hs' H'
 s4:∀ b,H b≠none->Hs b=none->Hs' b=none
def spD (pre:List PV->Prop)(R:List PV->PV->Prop):Sp:=λvs H Q _=>∃ Hs a n xs ws,vs = .ref a::ws/\Same Hs H/\Hs a=none/\H a=some (.lst [.int n])/\Reps Hs xs ws/\pre xs /\
 ∀ y v n' Hs' H',R xs y->ExtD a Hs H Hs' H'->Hs' a=none->H' a=some (.lst [.int n'])->Rep Hs' y v->Q v H'
section
variable {S:List Addr}{Hs0 H0 Hs H Hs' H':Hp}{σ:St}{ε:ME}
theorem RD.drawn (r:RD S Hs0 H0 Hs H σ ε){i:Nat}{n n':Int}{p:Addr}(hi:ε[i]?=some (c8 n))(hp:σ[i]?=some (some (.ref p)))(x:ExtD p Hs H Hs' H')(np:Hs' p=none)(ep:H' p=some (.lst [.int n'])):RD S Hs0 H0 Hs' H' σ (ε.set i (c8 n')):=by
 obtain ⟨p',hp',hH,hs,h0⟩:=r.strm_at hi;rw [hp] at hp';injection hp' with hp';injection hp' with hp';injection hp' with hp';subst hp';have up:∀(j:Nat)(z:PV),(ε.set i (c8 n'))[j]?=some (.ow z)->(j=i/\z = .lst [.at (.int n')])∨(j≠i/\ε[j]?=some (.ow z)):=λj z q=>by
  rw [yv] at q;split at q
  ·rename_i hij;split at q
   ·injection q with q;unfold c8 at q;injection q with q;exact .inl ⟨hij.symm,q.symm⟩
   ·cases q
  ·rename_i hij;exact .inr ⟨Ne.symm hij,q⟩
 have wasOw:∀(j:Nat)(z:PV),(ε.set i (c8 n'))[j]?=some (.ow z)->∃ z',ε[j]?=some (.ow z'):=λj z q=>by
  rcases up j z q with ⟨rfl,_⟩|⟨_,q⟩
  ·exact ⟨_,hi⟩
  ·exact ⟨z,q⟩
 refine ⟨r.s1.trans x.s1,λb o e hS=>x.s2 b o (r.s2 b o e hS) λz=>?_,x.s3,λb h z=>x.s4 b (r.there h) (r.s4 b h z),λj z q=>?_,λj z q=>?_,λj k z z' c h1 h2 h3 h4=>?_,by rw [ym,r.len],r.pin,λb hS=>?_,λb hS=>?_,wN r.nb λ_ z=>by unfold c8 at z;cases z⟩
 ·rcases h0 with h0|h0
  ·rw [z,h0] at e;cases e
  ·exact hS (z▸h0)
 ·rw [yv] at q;split at q
  ·split at q
   ·unfold c8 at q;cases q
   ·cases q
  ·obtain ⟨v,h1,h2⟩:=r.sh j z q;exact ⟨v,h1,h2.mono x.s1⟩
 ·rcases up j z q with ⟨rfl,rfl⟩|⟨hij,q⟩
  ·exact ⟨p,hp,h0,np,_,ep,.one (rep_at.mpr rfl)⟩
  ·obtain ⟨c,hc,m0,m1,tc⟩:=r.ow j z q;have hne:c≠p:=λe=>hij (r.nd j i z _ p q hi (e▸hc) hp);exact ⟨c,hc,m0,x.s4 c tc.there m1,tc.mono x.s1 λo e=>x.s2 c o e hne⟩
 ·obtain ⟨w1,q1⟩:=wasOw j z h1;obtain ⟨w2,q2⟩:=wasOw k z' h2;exact r.nd j k w1 w2 c q1 q2 h3 h4
 ·by_cases hb:b=p
  ·rw [hb,ep];exact λz=>nomatch z
  ·have:=r.live b hS;cases q:H b with
   |none=>exact absurd q this
   |some o=>rw [x.s2 b o q hb];exact λz=>nomatch z
 ·obtain ⟨y',hy⟩:=r.str b hS;rw [yv];split
  ·rename_i h0;rw [if_pos (by rw [h0];exact (yL.mp hy).1)];exact ⟨_,rfl⟩
  ·exact ⟨y',hy⟩
end
def zb (i:Nat)(pre:List PV->Prop)(R:List PV->PV->Prop)(as:WA):W:=λε Q=>zK i ε/\as ε λxs ε1=>zK i ε1/\pre xs/\∀ y n',R xs y->Q y (ε1.set i (c8 n'))
instance {i:Nat}{as:WA}[sa:jZ ta as]:SemW (jb (spD pre R) [] E (i0 (qb i) ta)) (zb i pre R as) where
 h:=λh _ _ _ _ _ _ rd _ k=>by
  obtain ⟨⟨n0,hn0⟩,h⟩:=h;obtain ⟨p,hp,_⟩:=rd.strm_at hn0;refine ⟨_,hp,sa.h h rd λxs ε1 vs Hs1 H1 h1 rd1 g1 r1=>?_⟩;obtain ⟨⟨n,hn⟩,hpre,h2⟩:=h1;obtain ⟨p',hp',hH,hs,_⟩:=rd1.strm_at hn;rw [hp] at hp';injection hp' with hp';injection hp' with hp';injection hp' with hp';subst hp';refine ⟨Hs1,p,n,xs,vs,by rw [yn],rd1.s3,hs,hH,r1,hpre,λy v n' Hs' H' hR x np ep rv=>?_⟩;exact k y _ v Hs' H' (h2 y n' hR) (rd1.drawn hn hp x np ep) (g1.trans x.s1) rv
def zc:WS:=λε N _=>N ε
def wSeq (a b:WS):WS:=λε N R=>a ε (λε1=>b ε1 N R) R
def qq (i:Nat)(a:W):WS:=λε N _=>a ε λx ε1=>N (ε1.set i (.sh x))
def Xx (i:Nat)(f:M):WS:=λε N _=>∃ x,f ε=some x/\N (ε.set i (.ow x))
def xc (a:W):WS:=λε _ R=>a ε R
def Cz (a:W):WS:=λε N _=>a ε λ_ ε1=>N ε1
def xy (c:WT)(a b:WS):WS:=λε N R=>c ε λk ε1=>if k=true then a ε1 N R else b ε1 N R
def wFz (i:Nat)(a:WS):WS:=λε N R=>a (fz i ε) N R
def Qd (i:Nat)(a:W):WS:=λε N _=>(∃ xs,ε[i]?=some (.ow (.lst xs)))/\a ε λx ε1=>∃ xs,ε1[i]?=some (.ow (.lst xs))/\xs.length<=lim/\N (ε1.set i (.ow (.lst (xs++[x]))))
instance:SemWS Yo zc where
 h:=λh _ _ _ _ _ _ rd _ k _=>k _ _ _ _ h rd (.refl _)
instance {u:TS}{a:WS}[sa:SemWS t a][sb:SemWS u b]:SemWS (tSeq t u) (wSeq a b) where
 h:=λh _ _ _ _ _ _ rd _ k r=>sa.h h rd (λε1 σ1 Hs1 H1 h1 rd1 g1=>sb.h h1 rd1 (λε2 σ2 Hs2 H2 h2 rd2 g2=>k ε2 σ2 Hs2 H2 h2 rd2 (g1.trans g2)) λy ε2 σ2 v Hs2 H2 h2 rd2 g2 rv=>r y ε2 σ2 v Hs2 H2 h2 rd2 (g1.trans g2) rv) r
instance {i:Nat}[sa:SemW te a]:SemWS (zI te (qE (i+1))) (qq (i+1) a) where
 h:=λh _ _ _ _ _ _ rd _ k _=>sa.h h rd λx ε1 v Hs1 H1 h1 rd1 g1 r1=>k _ _ _ _ h1 (rd1.put r1) g1
instance {i:Nat}{f:M}[sa:xh te f]:SemWS (zI te (qE (i+1))) (Xx (i+1) f) where
 h:=λ⟨x,e,h⟩ _ _ _ _ _ _ rd _ k _=>sa.h e rd.rs λa Hs1 H1 x1 n n' t=>k _ _ _ _ h ((rd.go x1).putO (.inl (rd.free0 n)) n' t λj y hj z=>by
  obtain ⟨b,hb,_,_,tb⟩:=rd.ow j y hj;rw [z] at hb;injection hb with hb;injection hb with hb;injection hb with hb;subst hb;exact tb.there n) x1.s1
instance [sa:SemW te a]:SemWS (Xs te) (xc a) where
 h:=λh _ _ _ _ _ _ rd _ _ r=>sa.h h rd λx ε1 v Hs1 H1 h1 rd1 g1 r1=>r x ε1 _ v Hs1 H1 h1 rd1 g1 r1
instance [sa:SemW te a]:SemWS (jU te) (Cz a) where
 h:=λh _ _ _ _ _ _ rd _ k _=>sa.h h rd λx ε1 v Hs1 H1 h1 rd1 g1 r1=>k ε1 _ Hs1 H1 h1 rd1 g1
instance {t:TT}{ta:TS}{c:WT}{a:WS}[sc:XB t c][sa:SemWS ta a][sb:SemWS tb b]:SemWS (tIfS t ta tb) (xy c a b) where
 h:=λh _ _ _ _ _ _ rd _ k r=>sc.h h rd λc ε1 Hs1 H1 h1 rd1 g1=>by
  cases c with
  |true=>exact xS (sa.h (by simpa using h1) rd1 (λε2 σ2 Hs2 H2 h2 rd2 g2=>k ε2 σ2 Hs2 H2 h2 rd2 (g1.trans g2)) λy ε2 σ2 v Hs2 H2 h2 rd2 g2 rv=>r y ε2 σ2 v Hs2 H2 h2 rd2 (g1.trans g2) rv)
  |false=>exact xR (sb.h (by simpa using h1) rd1 (λε2 σ2 Hs2 H2 h2 rd2 g2=>k ε2 σ2 Hs2 H2 h2 rd2 (g1.trans g2)) λy ε2 σ2 v Hs2 H2 h2 rd2 g2 rv=>r y ε2 σ2 v Hs2 H2 h2 rd2 (g1.trans g2) rv)
instance {i:Nat}{a:WS}[sa:SemWS t a]:SemWS t (wFz (i+1) a) where
 h:=λh _ _ _ _ _ _ rd _ k r=>by
  obtain ⟨Hs',g,rd'⟩:=rd.freeze i;exact sa.h h rd' (λε2 σ2 Hs2 H2 h2 rd2 g2=>k ε2 σ2 Hs2 H2 h2 rd2 (g.trans g2)) λy ε2 σ2 v Hs2 H2 h2 rd2 g2 rv=>r y ε2 σ2 v Hs2 H2 h2 rd2 (g.trans g2) rv
instance {i:Nat}[sa:SemW te a]:SemWS (jU (tBM K "list" ZN (qb i) (i0 te i7))) (Qd i a) where
 h:=λh _ _ _ _ _ _ rd _ k _=>by
  obtain ⟨⟨xs0,hx0⟩,h⟩:=h;obtain ⟨p,hp,n0,n,vs,hv,rv⟩:=rd.ow i _ hx0;refine ⟨_,hp,.inl ⟨rfl,vs,SqL.of hv⟩,sa.h h rd λx ε1 v Hs1 H1 h1 rd1 g1 r1=>?_⟩;obtain ⟨xs,hx,hl,h2⟩:=h1;obtain ⟨p',hp',_,n1,ws,hw,rw⟩:=rd1.ow i _ hx;rw [hp] at hp';injection hp' with hp';injection hp' with hp';injection hp' with hp';subst hp';exact ⟨p,ws,v,rfl,rfl,hw,QE (by rw [rw.length];exact hl),k _ _ _ _ h2 (rd1.change hx hp ⟨_,y9,rw.append (.one r1)⟩) g1⟩
def wPop (i:Nat)(a:W):W:=λε Q=>(∃ xs,ε[i]?=some (.ow (.lst xs)))/\a ε λx ε1=>∃ xs k y,ε1[i]?=some (.ow (.lst xs))/\x = .at (.int k)/\0<=k/\k<xs.length/\xs.length<=lim/\xs[k.toNat]?=some y/\Q y (ε1.set i (.ow (.lst (xs.eraseIdx k.toNat))))
theorem Reps.eraseIdx {H:Hp}:∀(i:Nat){xs:List PV}{vs:List V},Reps H xs vs->Reps H (xs.eraseIdx i) (vs.eraseIdx i)
 |i,[],vs,h=>by rw [reps_nil.mp h];exact .nil
 |0,x::xs,vs,h=>by obtain ⟨v,r,rfl,p,q⟩:=reps_cons.mp h;exact q
 |i+1,x::xs,vs,h=>by obtain ⟨v,r,rfl,p,q⟩:=reps_cons.mp h;exact .cons p (Reps.eraseIdx i q)
instance {i:Nat}[sa:SemW te a]:SemW (tBM K "list" BQ (qb i) (i0 te i7)) (wPop i a) where
 h:=λh _ _ _ _ _ _ rd _ k=>by
  obtain ⟨⟨xs0,hx0⟩,h⟩:=h;obtain ⟨p,hp,n0,n,vs,hv,rv⟩:=rd.ow i _ hx0;refine ⟨_,hp,.inl ⟨rfl,vs,SqL.of hv⟩,sa.h h rd λx ε1 v Hs1 H1 h1 rd1 g1 r1=>?_⟩;obtain ⟨xs,j,y,hx,rfl,j0,j1,hl,hy,h2⟩:=h1;obtain ⟨p',hp',_,n1,ws,hw,rw⟩:=rd1.ow i _ hx;rw [hp] at hp';injection hp' with hp';injection hp' with hp';injection hp' with hp';subst hp';cases rep_at.mp r1;obtain ⟨u,hu,ru⟩:=rw.get hy;have hlim:lim=1000000:=rfl;refine ⟨p,ws,j,j.toNat,u,rfl,rfl,hw,by omega,by omega,?_,hu,k _ _ _ _ _ h2 (rd1.change hx hp ⟨_,y9,rw.eraseIdx j.toNat⟩) g1 ru⟩;unfold seqIndex?;have e1:(if j<0 then j+(ws.length:Int) else j)=j:=if_neg (by omega);simp only [e1];rw [if_pos];rw [rw.length];simp only [yf,decide_eq_true_eq];exact ⟨j0,j1⟩
class SemWI (ti:TI)(w:WA):Prop where
 h:∀{ε Q'},w ε Q'->∀{S Hs0 H0 Hs H σ},RD S Hs0 H0 Hs H σ ε->∀{R:It->Hp->Prop},(∀ xs ε' J Hs' H',Q' xs ε'->RD S Hs0 H0 Hs' H' σ ε'->Same Hs Hs'->jy J xs Hs'->R J H')->ti σ H R
def wIp (f:MA):WA:=λε Q=>∃ xs,f ε=some xs/\Q xs ε
instance (priority:=50){ti:TI}{f:MA}[s:zN ti f]:SemWI ti (wIp f) where
 h:=λ⟨xs,e,q⟩ _ _ _ _ _ _ r _ k=>s.h e r.rs λJ Hs' H' x ok=>k xs _ J Hs' H' q (r.go x) x.s1 ok
class SemWG (tg:TG)(g:MG):Prop where
 h:∀{x ε ε'},g x ε=some ε'->∀{S Hs0 H0 Hs H σ v},RD S Hs0 H0 Hs H σ ε->Rep Hs x v->∀{Q:St->Hp->Prop},(∀ σ',RD S Hs0 H0 Hs H σ' ε'->Q σ' H)->tg v σ H Q
instance {i:Nat}:SemWG (qE (i+1)) (j9 (i+1)) where
 h:=λe _ _ _ _ _ _ _ rd r _ q=>by cases e;exact q _ (rd.put r)
def Xw (g:MG)(f:WS):List PV->WS
 |[]=>λε N _=>N ε
 |x::xs=>λε N R=>∃ ε1,g x ε=some ε1/\f ε1 (λε2=>Xw g f xs ε2 N R) R
def wFor (it:WA)(g:MG)(f:WS):WS:=λε N R=>it ε λxs ε1=>Xw g f xs ε1 N R
theorem RD.rebase (r:RD S Hs0 H0 Hs H σ ε):RD S Hs H0 Hs H σ ε :=
 ⟨.refl _,r.s2,r.s3,λ_ _ z=>z,r.sh,r.ow,r.nd,r.len,r.pin,r.live,r.str,r.nb⟩
theorem RD.unbase {Hb Hx:Hp}(b:RD S Hs0 H0 Hb Hx σ ε)(r:RD S Hb H0 Hs H σ' ε'):RD S Hs0 H0 Hs H σ' ε' :=
 ⟨b.s1.trans r.s1,r.s2,r.s3,λc h z=>r.s4 c h (b.s4 c h z),r.sh,r.ow,r.nd,r.len,r.pin,r.live,r.str,r.nb⟩
instance {it:WA}{g:MG}{f:WS}[si:SemWI wi it][sg:SemWG tg g][sf:SemWS tb f]:SemWS (tFor wi tg tb) (wFor it g f) where
 h:=λ{ε N R} h S Hs0 H0 _ _ _ rd D k rt=>si.h h rd λxs ε1 J Hs1 H1 h1 rd1 g1 ok=>by
  refine ⟨λn m σ H=>m=xs.length-n/\n<=xs.length/\∃ Hs ε,RD S Hs1 H0 Hs H σ ε/\Xw g f (xs.drop n) ε N R,⟨xs.length,by simp,yh _,Hs1,ε1,rd1.rebase,h1⟩,?_⟩;rintro n m σ H ⟨rfl,hn,Hs,ε2,r2,h2⟩;by_cases hlt:n<xs.length
  ·have hd:xs.drop n=xs[n]::xs.drop (n+1):=yc hlt;rw [hd] at h2;obtain ⟨ε3,e3,h3⟩:=h2;obtain ⟨go,yl⟩:=ok.go n xs[n] Hs H (by simp [hlt]) r2.s1 r2.s3;refine .inr ⟨go,λσ' H'=>n+1<=xs.length/\∃ Hs ε,RD S Hs1 H0 Hs H' σ' ε/\Xw g f (xs.drop (n+1)) ε N R,λσ' H' p=>⟨xs.length-(n+1),by omega,rfl,p.1,p.2⟩,λv H3 y=>?_⟩;obtain ⟨Hs3,x3,r3⟩:=yl v H3 y;refine sg.h e3 (r2.go x3) r3 λσ4 rd4=>sf.h h3 rd4 (λε5 σ5 Hs5 H5 h5 rd5 g5=>⟨hlt,Hs5,ε5,rd5,h5⟩) λy ε5 σ5 v Hs5 H5 h5 rd5 g5 rv=>rt y ε5 σ5 v Hs5 H5 h5 (rd1.unbase rd5) (g1.trans rd5.s1) rv
  ·have en:n=xs.length:=by omega
   subst en;rw [ut] at h2;exact .inl ⟨ok.stop Hs H r2.s1 r2.s3,k _ _ _ _ h2 (rd1.unbase r2) (g1.trans r2.s1)⟩
def qF:List (Option Nat)->ME->ME->ME
 |some i::cap,s::ε2,ε1=>(qF cap ε2 ε1).set i s
 |none::cap,_::ε2,ε1=>qF cap ε2 ε1
 |_,_,ε1=>ε1
theorem Xu:∀(cap:List (Option Nat))(ε2 ε1:ME),(qF cap ε2 ε1).length=ε1.length
 |some i::cap,s::ε2,ε1=>by unfold qF;rw [ym,Xu]
 |none::cap,_::ε2,ε1=>by unfold qF;exact Xu cap ε2 ε1
 |[],_,_=>rfl
 |some _::_,[],_=>rfl
 |none::_,[],_=>rfl
theorem Yt:∀(cap:List (Option Nat))(ε2 ε1:ME)(i:Nat),some i∉cap->(qF cap ε2 ε1)[i]?=ε1[i]?
 |some k::cap,s::ε2,ε1,i,h=>by
  unfold qF;rw [yq (λz=>h (by rw [z];exact yT))];exact Yt cap ε2 ε1 i λz=>h (yS _ z)
 |none::cap,_::ε2,ε1,i,h=>by unfold qF;exact Yt cap ε2 ε1 i λz=>h (yS _ z)
 |[],_,_,_,_=>rfl
 |some _::_,[],_,_,_=>rfl
 |none::_,[],_,_,_=>rfl
theorem Ys:∀(cap:List (Option Nat))(ε2 ε1:ME)(i:Nat),cap.length=ε2.length->some i∈cap->i<ε1.length->(cap.filterMap id).Nodup->∃ j:Nat,cap[j]?=some (some i)/\(qF cap ε2 ε1)[i]?=ε2[j]?
 |some k::cap,s::ε2,ε1,i,hl,h,hi,nd=>by
  rw [List.filterMap_cons_some (by rfl)] at nd;by_cases e:k=i
  ·subst e;refine ⟨0,rfl,?_⟩;unfold qF;rw [uU (by rw [Xu];exact hi)];rfl
  ·obtain ⟨j,h1,h2⟩:=Ys cap ε2 ε1 i (by simpa using hl) (by rcases yM.mp h with z|z;exact absurd (Option.some.inj z).symm e;exact z) hi (yu.mp nd).2;refine ⟨j+1,by simpa using h1,?_⟩;unfold qF;rw [yq e];simpa using h2
 |none::cap,s::ε2,ε1,i,hl,h,hi,nd=>by
  rw [List.filterMap_cons_none (by rfl)] at nd;obtain ⟨j,h1,h2⟩:=Ys cap ε2 ε1 i (by simpa using hl) (by rcases yM.mp h with z|z;exact nomatch z;exact z) hi nd;exact ⟨j+1,by simpa using h1,by unfold qF;simpa using h2⟩
 |[],_,_,_,_,h,_,_=>nomatch h
 |some _::_,[],_,_,hl,_,_,_=>by simp at hl
 |none::_,[],_,_,hl,_,_,_=>by simp at hl
def rst:List Nat->ME->ME
 |[],ε=>ε
 |t::ts,ε=>(rst ts ε).set t .no
theorem Pl:∀(ts:List Nat)(ε:ME),(rst ts ε).length=ε.length
 |[],_=>rfl
 |t::ts,ε=>by unfold rst;rw [ym,Pl]
theorem Pk:∀(ts:List Nat)(ε:ME)(i:Nat)(s:MSlot),(rst ts ε)[i]?=some s->s = .no∨(i∉ts/\ε[i]?=some s)
 |[],_,_,_,h=> .inr ⟨ye,h⟩
 |t::ts,ε,i,s,h=>by
  unfold rst at h;rw [yv] at h;split at h
  ·split at h
   ·cases h;exact .inl rfl
   ·cases h
  ·rename_i hne;rcases Pk ts ε i s h with z|⟨z1,z2⟩
   ·exact .inl z
   ·exact .inr ⟨λm=>by rcases yM.mp m with m|m;exact hne m.symm;exact z1 m,z2⟩
theorem RD.reset (r:RD [] Hs0 H0 Hs H σ' ε)(b:But ts σ σ'):RD [] Hs0 H0 Hs H σ (rst ts ε):=by
 have at1:∀(i:Nat)(s:MSlot),(rst ts ε)[i]?=some s->s = .no∨(σ'[i]?=σ[i]?/\ε[i]?=some s):=λi s h=>by
  rcases Pk ts ε i s h with z|⟨z1,z2⟩
  ·exact .inl z
  ·exact .inr ⟨b.2 i z1,z2⟩
 refine ⟨r.s1,r.s2,r.s3,r.s4,λi x h=>?_,λi x h=>?_,λi j x y a h1 h2 h3 h4=>?_,by rw [Pl,<- r.len,b.1],(λ_ z=>nomatch z),(λ_ z=>nomatch z),(λ_ z=>nomatch z),λi x h=>by
  rcases at1 i _ h with z|⟨_,z2⟩
  ·cases z
  ·exact r.nb i x z2⟩
 ·rcases at1 i _ h with z|⟨z1,z2⟩
  ·cases z
  ·rw [<- z1];exact r.sh i x z2
 ·rcases at1 i _ h with z|⟨z1,z2⟩
  ·cases z
  ·rw [<- z1];exact r.ow i x z2
 ·rcases at1 i _ h1 with z|⟨z1,z2⟩
  ·cases z
  ·rcases at1 j _ h2 with w|⟨w1,w2⟩
   ·cases w
   ·exact r.nd i j x y a z2 w2 (z1.trans h3) (w1.trans h4)
class YN (tg:TG)(ts:outParam (List Nat))(g:MG):Prop where
 h:∀{x ε ε'},g x ε=some ε'->∀{Hs0 H0 Hs H σ v},RD [] Hs0 H0 Hs H σ ε->Rep Hs x v->∀{Q:St->Hp->Prop},(∀ σ',RD [] Hs0 H0 Hs H σ' ε'->But ts σ σ'->Q σ' H)->tg v σ H Q
theorem RD.put0 (r:RD [] Hs0 H0 Hs H σ ε){i:Nat}(h:Rep Hs x v):RD [] Hs0 H0 Hs H (σ.set i (some v)) (ε.set i (.sh x)):=by
 have q:=(r.rs).put (i:=i) h;refine ⟨r.s1,r.s2,r.s3,r.s4,q.sh,λj z hz=>?_,q.nd,q.len,(λ_ z=>nomatch z),(λ_ z=>nomatch z),(λ_ z=>nomatch z),wN r.nb λ_ z=>nomatch z⟩;obtain ⟨c,hc,m1,m2,tc⟩:=q.ow j z hz;refine ⟨c,hc,?_,m2,tc⟩;rw [yv] at hz hc;split at hz
 ·split at hz<;>cases hz
 ·rename_i hij;rw [if_neg hij] at hc;obtain ⟨d,hd,m0,_⟩:=r.ow j z hz;rw [hd] at hc;injection hc with hc;injection hc with hc;injection hc with hc;rw [<- hc];exact m0
instance {i:Nat}:YN (qE i) [i] (j9 i) where
 h:=λe _ _ _ _ _ _ rd r _ q=>by
  cases e;exact q _ (rd.put0 r) ⟨ym,λj hj=>yq λz=>hj (by rw [<- z];exact yK.mpr rfl)⟩
def jW (g:MG)(c:WT)(f:W)(ts:List Nat):List PV->List PV->ME->(List PV->ME->Prop)->Prop
 |[],ys,ε,Q=>Q ys ε
 |x::xs,ys,ε,Q=>∃ ε1,g x ε=some ε1/\c ε1 λb ε2=>if b=true then f ε2 λy ε3=>jW g c f ts xs (ys++[y]) (rst ts ε3) Q else jW g c f ts xs ys (rst ts ε2) Q
def jw:WT:=λε Q=>Q true ε
instance:XB tYes jw where
 h:=λh _ _ _ _ _ _ rd _ k=>k true _ _ _ h rd (.refl _)
def jV (cap:List (Option Nat))(ts:List Nat)(it:WA)(g:MG)(c:WT)(f:W):W:=λε Q=>it ε λxs ε1=>xL cap ts=true/\xs.length<=lim /\
 jW g c f ts xs [] (t6 cap ε1) λys ε2=>((∃ y:PV,ε1[0]?=some (MSlot.ow y))->∃ y:PV,(qF cap ε2 ε1)[0]?=some (MSlot.ow y))/\Q (.lst ys) (qF cap ε2 ε1)
noncomputable def less (σ:St)(ε:ME)(H:Hp):Hp:=λb=>open Classical in if ∃(i:Nat)(x:PV),ε[i]?=some (MSlot.ow x)/\σ[i]?=some (some (V.ref b)) then none else H b
theorem JQ {b:Addr}(h:less σ ε H b=some o):H b=some o/\∀(i:Nat)(x:PV),ε[i]?=some (MSlot.ow x)->σ[i]?≠some (some (V.ref b)):=by
 unfold less at h;split at h
 ·cases h
 ·rename_i hn;exact ⟨h,λi x h1 h2=>hn ⟨i,x,h1,h2⟩⟩
theorem KO {b:Addr}(h:less σ ε H b=none):H b=none∨∃(i:Nat)(x:PV),ε[i]?=some (MSlot.ow x)/\σ[i]?=some (some (V.ref b)):=by
 unfold less at h;split at h
 ·rename_i hn;exact .inr hn
 ·exact .inl h
theorem DI {cap:List (Option Nat)}(nb:∀(i:Nat)(x:PV),ε[i]?≠some (.bo x)):∀(i:Nat)(x:PV),(t6 cap ε)[i]?≠some (.bo x):=λi x h=>by
 unfold t6 at h;rw [yP] at h;cases ho:cap[i]? with
 |none=>rw [ho] at h;cases h
 |some o =>
  rw [ho] at h;cases o with
  |none=>cases h
  |some k =>
   cases hk:ε[k]? with
   |none=>simp only [uE,hk,tT] at h;cases h
   |some s=>simp only [uE,hk,Option.getD_some] at h;cases h;exact nb k x hk
theorem RD.block {cap:List (Option Nat)}(hc:(cap.filterMap id).Nodup)(r:RD S Hs0 H0 Hs H σ ε):RD [] Hs (less (p9 cap σ) (t6 cap ε) H) Hs H (p9 cap σ) (t6 cap ε):=by have q:=(r.rs).cap hc;refine ⟨.refl _,λb o e _=>(JQ e).1,r.s3,λ_ _ z=>z,q.sh,λi x h=>?_,q.nd,q.len,(λ_ z=>nomatch z),(λ_ z=>nomatch z),(λ_ z=>nomatch z),DI r.nb⟩;obtain ⟨a,h1,h2,h3,h4⟩:=q.ow i x h;refine ⟨a,h1,.inl ?_,h3,h4⟩;unfold less;rw [if_pos ⟨i,x,h,h1⟩]
theorem jA {cap:List (Option Nat)}{i k:Nat}(h:cap[i]?=some (some k))(e:(p9 cap σ)[i]?=some (some v)):σ[k]?=some (some v):=by
 unfold p9 at e;rw [yP,h] at e;simp only [uE,yE,Option.some.injEq] at e;cases hs:σ[k]? with
 |none=>rw [hs] at e;cases e
 |some o=>rw [hs] at e;simp at e;rw [e]
theorem Gs {cap:List (Option Nat)}{i:Nat}(h:(t6 cap ε)[i]?=some (.ow x)):∃ k:Nat,cap[i]?=some (some k)/\ε[k]?=some (.ow x):=by
 unfold t6 at h;rw [yP] at h;cases ho:cap[i]? with
 |none=>rw [ho] at h;cases h
 |some o =>
  rw [ho] at h;cases o with
  |none=>cases h
  |some k =>
   cases hk:ε[k]? with
   |none=>simp only [uE,hk,tT] at h;cases h
   |some s=>simp only [uE,hk,Option.getD_some] at h;cases h;exact ⟨k,rfl,hk⟩
theorem RD.unblock {Hs1 H1 Hs2 H2:Hp}{ε1 ε2:ME}{cap:List (Option Nat)}(hc:(cap.filterMap id).Nodup)(r:RD S Hs0 H0 Hs1 H1 σ ε1)(q:RD [] Hs1 (less (p9 cap σ) (t6 cap ε1) H1) Hs2 H2 (p9 cap σ) ε2)(st:(∃ y,ε1[0]?=some (.ow y))->∃ y,(qF cap ε2 ε1)[0]?=some (.ow y)):RD S Hs0 H0 Hs2 H2 σ (qF cap ε2 ε1):=by
 have hl:cap.length=ε2.length:=by rw [<- q.len];unfold p9;rw [yZ]
 have at1:∀(i:Nat)(s:MSlot),(qF cap ε2 ε1)[i]?=some s->(some i∉cap/\ε1[i]?=some s)∨∃ j:Nat,cap[j]?=some (some i)/\ε2[j]?=some s:=λi s h=>by
  by_cases hi:some i∈cap
  ·have hlt:i<ε1.length:=by have:=(yL.mp h).1;rwa [Xu] at this
   obtain ⟨j,h1,h2⟩:=Ys cap ε2 ε1 i hl hi hlt hc;exact .inr ⟨j,h1,h2▸h⟩
  ·exact .inl ⟨hi,Yt cap ε2 ε1 i hi▸h⟩
 have own0:∀ a,less (p9 cap σ) (t6 cap ε1) H1 a=none->H0 a=none∨a∈S:=λa h=>by
  rcases KO h with h|⟨i,x,h1,h2⟩
  ·exact .inl (r.free0 h)
  ·obtain ⟨k,hk,hx⟩:=Gs h1;obtain ⟨c,hc',m0,_⟩:=r.ow k x hx;rw [jA hk h2] at hc';injection hc' with hc';injection hc' with hc';injection hc' with hc';rw [hc'];exact m0
 have keep:∀(k:Nat)(x:PV)(a:Addr),some k∉cap->ε1[k]?=some (.ow x)->σ[k]?=some (some (.ref a))->∀ o,H1 a=some o->less (p9 cap σ) (t6 cap ε1) H1 a=some o:=λk x a hk hx ha o ho=>by
  cases z:less (p9 cap σ) (t6 cap ε1) H1 a with
  |some u=>rw [<- ho,(JQ z).1]
  |none =>
   rcases KO z with z|⟨i,y,h1,h2⟩
   ·rw [z] at ho;cases ho
   ·obtain ⟨m,hm,hy⟩:=Gs h1;have:=r.nd k m x y a hx hy ha (jA hm h2);subst this;exact absurd (yA hm) hk
 have ow':∀(i:Nat)(x:PV),(qF cap ε2 ε1)[i]?=some (.ow x)->∃ a,σ[i]?=some (some (.ref a))/\(H0 a=none∨a∈S)/\Hs2 a=none/\Top Hs2 H2 a x:=λi x h=>by
  rcases at1 i _ h with ⟨hi,e⟩|⟨j,hj,e⟩
  ·obtain ⟨a,ha,m0,m1,t⟩:=r.ow i x e;refine ⟨a,ha,m0,?_,t.mono q.s1 λo ho=>q.s2 a o (keep i x a hi e ha o ho) ye⟩;cases z:H1 a with
   |none=>exact absurd z t.there
   |some o=>exact q.s4 a (by rw [keep i x a hi e ha o z];exact λw=>nomatch w) m1
  ·obtain ⟨a,ha,m0,m1,t⟩:=q.ow j x e;exact ⟨a,jA hj ha,own0 a (m0.resolve_right ye),m1,t⟩
 have str':∀ a∈S,∃ y,(qF cap ε2 ε1)[0]?=some (.ow y):=λa hS=>st (r.str a hS);refine ⟨r.s1.trans q.s1,λb o e hS=>?_,q.s3,λb h z=>?_,λi x h=>?_,ow',λi j x y a h1 h2 h3 h4=>?_,by rw [Xu];exact r.len,r.pin,λb hS=>?_,str',λi x h=>by
  rcases at1 i _ h with ⟨_,e⟩|⟨j,_,e⟩
  ·exact r.nb i x e
  ·exact q.nb j x e⟩
 ·have e1:=r.s2 b o e hS;refine q.s2 b o ?_ ye;cases z:less (p9 cap σ) (t6 cap ε1) H1 b with
  |some u=>rw [<- e1,(JQ z).1]
  |none =>
   rcases own0 b z with w|w
   ·rw [w] at e;cases e
   ·exact absurd w hS
 ·have z1:=r.s4 b h z;by_cases hL:less (p9 cap σ) (t6 cap ε1) H1 b=none
  ·rcases own0 b hL with w|w
   ·exact absurd w h
   ·obtain ⟨y,hy⟩:=str' b w;obtain ⟨a,ha,_,m1,_⟩:=ow' 0 y hy;rw [r.pin b w] at ha;injection ha with ha;injection ha with ha;injection ha with ha;rw [ha];exact m1
  ·exact q.s4 b hL z1
 ·rcases at1 i _ h with ⟨hi,e⟩|⟨j,hj,e⟩
  ·obtain ⟨v,hv,rv⟩:=r.sh i x e;exact ⟨v,hv,rv.mono q.s1⟩
  ·obtain ⟨v,hv,rv⟩:=q.sh j x e;exact ⟨v,jA hj hv,rv⟩
 ·rcases at1 i _ h1 with ⟨hi,e⟩|⟨k,hk,e⟩
  ·rcases at1 j _ h2 with ⟨hj,e'⟩|⟨l,hl',e'⟩
   ·exact r.nd i j x y a e e' h3 h4
   ·-- one of the block's own,one that it does not see
    obtain ⟨a',ha',m0,_,_⟩:=q.ow l y e';have ea:=jA hl' ha';rw [h4] at ea;injection ea with ea;injection ea with ea;injection ea with ea;subst ea;obtain ⟨c,hc1,_,_,t⟩:=r.ow i x e;rw [h3] at hc1;injection hc1 with hc1;injection hc1 with hc1;injection hc1 with hc1;subst hc1;cases z:H1 a with
    |none=>exact absurd z t.there
    |some o=>have w:=keep i x a hi e h3 o z;rw [m0.resolve_right ye] at w;cases w
  ·rcases at1 j _ h2 with ⟨hj,e'⟩|⟨l,hl',e'⟩
   ·obtain ⟨a',ha',m0,_,_⟩:=q.ow k x e;have ea:=jA hk ha';rw [h3] at ea;injection ea with ea;injection ea with ea;injection ea with ea;subst ea;obtain ⟨c,hc1,_,_,t⟩:=r.ow j y e';rw [h4] at hc1;injection hc1 with hc1;injection hc1 with hc1;injection hc1 with hc1;subst hc1;cases z:H1 a with
    |none=>exact absurd z t.there
    |some o=>have w:=keep j y a hj e' h4 o z;rw [m0.resolve_right ye] at w;cases w
   ·obtain ⟨a1,ha1,_⟩:=q.ow k x e;obtain ⟨a2,ha2,_⟩:=q.ow l y e';have e1:=jA hk ha1;have e2:=jA hl' ha2;rw [h3] at e1;rw [h4] at e2;injection e1 with e1;injection e1 with e1;injection e1 with e1;injection e2 with e2;injection e2 with e2;injection e2 with e2;subst e1;subst e2;have kl:=q.nd k l x y a e e' ha1 ha2;subst kl;rw [hk] at hl';injection hl' with hl';injection hl' with hl'
 ·obtain ⟨y,hy⟩:=str' b hS;obtain ⟨a,ha,_,_,t⟩:=ow' 0 y hy;rw [r.pin b hS] at ha;injection ha with ha;injection ha with ha;injection ha with ha;rw [ha];exact t.there
instance {cap:List (Option Nat)}{it:WA}{g:MG}{c:WT}{f:W}[si:SemWI wi it][sg:YN tg ts g][sc:XB tt c][sf:SemW te f]:SemW (Qb wi tg tt te cap) (jV cap ts it g c f) where
 h:=λ{ε Q'} h S Hs0 H0 Hs H σ rd Q k=>si.h h rd λxs ε1 J Hs1 H1 h1 rd1 g1 ok=>by
  obtain ⟨hcap,hl,h1⟩:=h1;unfold xL at hcap;rw [yf] at hcap;have hnd:=uV hcap.1;have wk:∀ i∈ts,(p9 cap σ)[i]?=some none:=λi hi=>by
   unfold p9;rw [yP,uV (uM.mp hcap.2 i hi)];rfl
  refine ⟨λn m zs H=>m=xs.length-n/\n<=xs.length/\∃ Hs2 ws ε2,RD [] Hs1 (less (p9 cap σ) (t6 cap ε1) H1) Hs2 H (p9 cap σ) ε2/\Reps Hs2 ws zs/\ws.length<=n /\
    jW g c f ts (xs.drop n) ws ε2 (λys ε3=>((∃ y:PV,ε1[0]?=some (MSlot.ow y))->∃ y:PV,(qF cap ε3 ε1)[0]?=some (MSlot.ow y))/\Q' (PV.lst ys) (qF cap ε3 ε1)),
   ⟨xs.length,by simp,yh _,Hs1,[],_,rd1.block hnd,.nil,yU _,h1⟩,?_⟩
  rintro n m zs H2 ⟨rfl,hn,Hs2,ws,ε2,r2,rz,hw,h2⟩;refine ⟨qW (by rw [rz.length];omega),?_⟩;by_cases hlt:n<xs.length
  ·have hd:xs.drop n=xs[n]::xs.drop (n+1):=yc hlt;rw [hd] at h2;obtain ⟨ε3,e3,h3⟩:=h2;obtain ⟨go,yl⟩:=ok.go n xs[n] Hs2 H2 (by simp [hlt]) r2.s1 r2.s3;refine .inr ⟨go,λv H3 y=>?_⟩;obtain ⟨Hs3,x3,r3⟩:=yl v H3 y;refine sg.h e3 (r2.go x3) r3 λσ4 rd4 bt=>⟨bt.wk wk,sc.h h3 rd4 λb ε5 Hs5 H5 h5 rd5 g5=>?_⟩;cases b with
   |true=>refine xS (sf.h (by simpa using h5) rd5 λy ε6 u Hs6 H6 h6 rd6 g6 ru=>⟨xs.length-(n+1),by omega,rfl,hlt,Hs6,ws++[y],_,rd6.reset bt,?_,by rw [yQ];simp;omega,h6⟩);exact (rz.mono (x3.s1.trans (g5.trans g6))).snoc ru
   |false=>exact xR ⟨xs.length-(n+1),by omega,rfl,hlt,Hs5,ws,_,rd5.reset bt,rz.mono (x3.s1.trans g5),by omega,by simpa using h5⟩
  ·have en:n=xs.length:=by omega
   subst en;rw [ut] at h2;refine .inl ⟨ok.stop Hs2 H2 r2.s1 r2.s3,λD hD=>?_⟩;have rd2:=rd1.unblock hnd r2 h2.1;exact k _ _ _ _ _ h2.2 (rd2.go (.new rd2.s3 hD)) (g1.trans (r2.s1.trans (Ext.new rd2.s3 hD).s1)) (rep_lst.mpr ⟨D,zs,rfl,y9,rz.mono (Ext.new rd2.s3 hD).s1⟩)
section
variable {P:Program}{w:World}{K:Fg}{mg:Str->Option Value}{base:Heap}
theorem vO {i:Nat}:(xs.map MSlot.sh++List.replicate n .no)[i]?≠some (.ow x):=λh=>by
 by_cases hi:i<xs.length
 ·rw [uY (by rw [yZ];exact hi),yP] at h;obtain ⟨y,_,z⟩:=yJ.mp h;cases z
 ·rw [uW (by rw [yZ];omega),tZ] at h;split at h<;>cases h
theorem VR {i:Nat}:(xs.map MSlot.sh++List.replicate n .no)[i]?≠some (.bo x):=λh=>by
 by_cases hi:i<xs.length
 ·rw [uY (by rw [yZ];exact hi),yP] at h;obtain ⟨y,_,z⟩:=yJ.mp h;cases z
 ·rw [uW (by rw [yZ];omega),tZ] at h;split at h<;>cases h
theorem RQ {a:Addr}{n:Int}(s:Same Hs H)(ha:Hs a=none)(hH:H a=some (.lst [.int n]))(r:Reps Hs xs ws):RD [a] Hs H Hs H (L2.start N (.ref a::ws)) (c8 n::xs.map .sh++List.replicate (N.length-(xs.length+1)) .no):=by
 have q:=jR (N:=N) (xs:= .at (.ref a)::xs) s (.cons (rep_at.mpr rfl) r);have tl:∀(i:Nat)(sl:MSlot),(c8 n::xs.map .sh++List.replicate (N.length-(xs.length+1)) .no)[i+1]?=some sl->((PV.at (.ref a)::xs).map MSlot.sh++List.replicate (N.length-(PV.at (.ref a)::xs).length) .no)[i+1]?=some sl:=λi sl h=>h;refine ⟨.refl _,λb o e _=>e,s,λ_ _ z=>z,λi x h=>?_,λi x h=>?_,λi j x y b h1 h2 _ _=>?_,?_,λb hb=>?_,λb hb=>?_,(λb hb=>⟨_,rfl⟩),λi x h=>by
  cases i with
  |zero=>unfold c8 at h;simp at h
  |succ i=>exact VR (xs:=PV.at (.ref a)::xs) (tl i _ h)⟩
 ·cases i with
  |zero=>unfold c8 at h;simp at h
  |succ i=>exact q.sh (i+1) x (tl i _ h)
 ·cases i with
  |zero=>unfold c8 at h;simp at h;subst h;refine ⟨a,?_,.inr (yK.mpr rfl),ha,_,hH,.one (rep_at.mpr rfl)⟩;unfold L2.start;rfl
  |succ i =>
   obtain ⟨c,h1,_⟩:=q.ow (i+1) x (tl i _ h);exact absurd (tl i _ h) λz=>by
    have:=vO (i:=i+1) (x:=x) (xs:=PV.at (.ref a)::xs) (n:=N.length-(PV.at (.ref a)::xs).length);exact this z
 ·cases i with
  |zero =>
   cases j with
   |zero=>rfl
   |succ j=>exact absurd (tl j _ h2) (vO (xs:=PV.at (.ref a)::xs))
  |succ i=>exact absurd (tl i _ h1) (vO (xs:=PV.at (.ref a)::xs))
 ·exact q.len
 ·rw [yK.mp hb];unfold L2.start;rfl
 ·rw [yK.mp hb,hH];exact λz=>nomatch z
theorem okD {x:Str}{f:Addr}{k:Nat}(F:Fun K x qual st f fd)(S:w6 N ps (j7 st))(hpre:∀ xs,pre xs->xs.length+1=ps.length)(hb:∀(cdv:Value)(A:Around)(outer:List Env)(s:Shared)(H:Hp)(E:XK),Room k (A.deeper (PyProof.Rows.envOfC qual (j7 st) s.heap.objs.size f cdv)) -> ∃ t,PSs (xj v7 P w K mg base N qual (j7 st) f cdv A outer s H E).nox (qj st) t/\SemWS t b)(hw:∀ xs n,pre xs->b (c8 n::xs.map .sh++List.replicate (N.length-(xs.length+1)) .no) (λ_=>False) λy ε=>R xs y/\zK 0 ε):FnOk P w K mg base v7 (k+1) f fd ps (spD pre R):=by
 refine F.ok S (λvs H Q E h=>?_) (λcdv A outer s H vs Q E hr h=>?_)
 ·obtain ⟨Hs,a,n,xs,ws,rfl,_,_,_,r,hp,_⟩:=h;rw [yG,r.length];exact hpre xs hp
 ·obtain ⟨Hs,a,n,xs,ws,rfl,sm,ha,hH,r,hp,q⟩:=h;obtain ⟨t,ht,sem⟩:=hb cdv A outer s H E hr;refine ⟨t,ht,sem.h (hw xs n hp) (RQ sm ha hH r) (λε σ Hs' H' z _ _=>z.elim) λy ε σ v Hs' H' hR rd g rv=>?_⟩;obtain ⟨hR,n',hn'⟩:=hR;obtain ⟨a',ha',hH',hs',_⟩:=rd.strm_at hn';rw [rd.pin a (yK.mpr rfl)] at ha';injection ha' with ha';injection ha' with ha';injection ha' with ha';subst ha';refine q y v n' Hs' H' hR ⟨g,λb o e hb=>rd.s2 b o e λz=>hb (yK.mp z),rd.s3,λb h z=>rd.s4 b h z⟩ hs' hH' rv
end
def spN (pre:List PV->Prop)(R:List PV->PV->Prop):Sp:=λvs H Q _=>∃ Hs xs,Same Hs H/\Reps Hs xs vs/\pre xs/\∀ y a Hs' H',R xs y->Ext Hs H Hs' H'->H a=none->Hs' a=none->Top Hs' H' a y->Q (.ref a) H'
def spV (pre:List PV->Prop)(R:List PV->PV->Prop):Sp:=λvs H Q _=>∃ Hs xs,Same Hs H/\Reps Hs xs vs/\pre xs/\∀ y v Hs' H',R xs y->Ext Hs H Hs' H'->Rep Hs' y v->Q v H'
def ZU (i:Nat)(pre:List PV->Prop)(R:List PV->PV->Prop)(as:WA):WS:=λε N _=>as ε λxs ε1=>pre xs/\∀ y,R xs y->N (ε1.set i (.ow y))
instance {i:Nat}{as:WA}[sa:jZ ta as]:SemWS (zI (jb (spN pre R) [] E ta) (qE (i+1))) (ZU (i+1) pre R as) where
 h:=λh _ _ _ _ _ _ rd _ k _=>sa.h h rd λxs ε1 vs Hs1 H1 h1 rd1 g1 r1=>by
  refine ⟨Hs1,xs,rd1.s3,by rw [yn];exact r1,h1.1,λy a Hs' H' hR x n n' t=>?_⟩;refine k _ _ _ _ (h1.2 y hR) ((rd1.go x).putO (.inl (rd1.free0 n)) n' t λj z hj e=>?_) (g1.trans x.s1);obtain ⟨b,hb,_,_,tb⟩:=rd1.ow j z hj;rw [e] at hb;injection hb with hb;injection hb with hb;injection hb with hb;subst hb;exact tb.there n
def Cy (pre:List PV->Prop)(R:List PV->PV->Prop)(as:WA):W:=λε Q=>as ε λxs ε1=>pre xs/\∀ y,R xs y->Q y ε1
instance {as:WA}[sa:jZ ta as]:SemW (jb (spV pre R) [] E ta) (Cy pre R as) where
 h:=λh _ _ _ _ _ _ rd _ k=>sa.h h rd λxs ε1 vs Hs1 H1 h1 rd1 g1 r1 =>
  ⟨Hs1,xs,rd1.s3,by rw [yn];exact r1,h1.1,λy v Hs' H' hR x rv=>k y ε1 v Hs' H' (h1.2 y hR) (rd1.go x) (g1.trans x.s1) rv⟩
section
variable {P:Program}{w:World}{K:Fg}{mg:Str->Option Value}{base:Heap}
theorem BZ (s:Same Hs H)(r:Reps Hs xs vs):RD [] Hs H Hs H (L2.start N vs) (xs.map .sh++List.replicate (N.length-xs.length) .no):=by have q:=jR (N:=N) s r;exact ⟨.refl _,λb o e _=>e,s,λ_ _ z=>z,q.sh,λi x h=>absurd h vO,q.nd,q.len,(λ_ z=>nomatch z),(λ_ z=>nomatch z),(λ_ z=>nomatch z),λ_ _=>VR⟩
theorem okV {x:Str}{f:Addr}{k:Nat}(F:Fun K x qual st f fd)(S:w6 N ps (j7 st))(hpre:∀ xs,pre xs->xs.length=ps.length)(hb:∀(cdv:Value)(A:Around)(outer:List Env)(s:Shared)(H:Hp)(E:XK),Room k (A.deeper (PyProof.Rows.envOfC qual (j7 st) s.heap.objs.size f cdv)) -> ∃ t,PSs (xj v7 P w K mg base N qual (j7 st) f cdv A outer s H E).nox (qj st) t/\SemWS t b)(hw:∀ xs,pre xs->b (xs.map .sh++List.replicate (N.length-xs.length) .no) (λ_=>False) λy _=>R xs y):FnOk P w K mg base v7 (k+1) f fd ps (spV pre R):=by
 refine F.ok S (λvs H Q E h=>?_) (λcdv A outer s H vs Q E hr h=>?_)
 ·obtain ⟨Hs,xs,_,r,hp,_⟩:=h;rw [r.length];exact hpre xs hp
 ·obtain ⟨Hs,xs,sm,r,hp,q⟩:=h;obtain ⟨t,ht,sem⟩:=hb cdv A outer s H E hr;refine ⟨t,ht,sem.h (hw xs hp) (BZ sm r) (λε σ Hs' H' z _ _=>z.elim) λy ε σ v Hs' H' hR rd g rv=>?_⟩;exact q y v Hs' H' hR ⟨g,λb o e=>rd.s2 b o e ye,rd.s3,rd.s4⟩ rv
def scr (K:Fg)(ns:List Int):PV:= .op λH v=>∃ a,v = .ref a/\SqL K H a (ns.map V.int)
theorem Sb {K:Fg}{ns:List Int}(s:Same Hs H)(r:Rep Hs (scr K ns) v):∃ a,v = .ref a/\SqL K H a (ns.map V.int):=by obtain ⟨H1,s1,a,rfl,q⟩:=rep_op.mp r;exact ⟨a,rfl,(s1.trans s).seq q⟩
def Xq (K:Fg):Sp:=λvs H Q _=>∃(a:Addr)(ns:List Int),vs=[.ref a]/\SqL K H a (ns.map V.int)/\ns.length<=63/\∀ H',Q (.bl true) H'
theorem okL {x:Str}{f:Addr}{k:Nat}(F:Fun K x qual st f fd)(S:w6 N ["script"] (j7 st))(hb:∀ (cdv:Value) (A:Around) (outer:List Env) (s:Shared) (H:Hp) (E:XK),Room k (A.deeper (PyProof.Rows.envOfC qual (j7 st) s.heap.objs.size f cdv)) -> ∃ t,PSs (xj v7 P w K mg base N qual (j7 st) f cdv A outer s H E).nox (qj st) t/\SemWS t b)(hw:∀ ns:List Int,ns.length<=63->b (.sh (scr K ns)::List.replicate (N.length-1) .no) (λ_=>False) λy _=>y = .at (.bl true)):FnOk P w K mg base v7 (k+1) f fd ["script"] (Xq K):=by
 refine F.ok S (λvs H Q E h=>?_) (λcdv A outer s H vs Q E hr h=>?_)
 ·obtain ⟨a,ns,rfl,_⟩:=h;rfl
 ·obtain ⟨a,ns,rfl,hS,h63,q⟩:=h;obtain ⟨t,ht,sem⟩:=hb cdv A outer s H E hr;have r:Reps H [scr K ns] [.ref a]:= .one (rep_op.mpr ⟨H,.refl _,a,rfl,hS⟩);refine ⟨t,ht,sem.h (hw ns h63) (BZ (N:=N) (.refl H) r) (λε σ Hs' H' z _ _=>z.elim) λy ε σ v Hs' H' hR rd g rv=>?_⟩;subst hR;cases rep_at.mp rv;exact q H'
end
class qU (w:W):Prop where
 h:∀{ε:ME}{P P':PV->ME->Prop},(∀ y e,P y e->P' y e)->w ε P->w ε P'
class vU (w:WA):Prop where
 h:∀{ε:ME}{P P':List PV->ME->Prop},(∀ y e,P y e->P' y e)->w ε P->w ε P'
class vV (w:WT):Prop where
 h:∀{ε:ME}{P P':Bool->ME->Prop},(∀ y e,P y e->P' y e)->w ε P->w ε P'
class zd (w:WS):Prop where
 h:∀{ε:ME}{N N':ME->Prop}{R R':PV->ME->Prop},(∀ e,N e->N' e)->(∀ y e,R y e->R' y e)->w ε N R->w ε N' R'
instance {f:M}:qU (wP f) where h:=λk ⟨y,e,q⟩=>⟨y,e,k _ _ q⟩
instance {f:MB}:vV (wPT f) where h:=λk ⟨y,e,q⟩=>⟨y,e,k _ _ q⟩
instance {g:PV->PV->Option PV}{b:W}[A:qU a][B:qU b]:qU (xo g a b) where h:=λk h=>A.h (λ_ _ h1=>B.h (λ_ _ ⟨z,e,q⟩=>⟨z,e,k _ _ q⟩) h1) h
instance:vV jw where h:=λk h=>k _ _ h
theorem JJ {c:Bool}{A B A' B':Prop}(h1:A->A')(h2:B->B')(h:if c=true then A else B):if c=true then A' else B':=by
 cases c with
 |true=>exact xS (h1 (by simpa using h))
 |false=>exact xR (h2 (by simpa using h))
instance:vU qC where h:=λk h=>k _ _ h
instance [A:qU a][B:vU r]:vU (k4 a r) where h:=λk h=>A.h (λ_ _ h1=>B.h (λ_ _ h2=>k _ _ h2) h1) h
instance {i:Nat}[A:qU a]:qU (qP i a) where h:=λk h=>⟨h.1,A.h (λ_ _ ⟨n,m,e1,e2,e3,q⟩=>⟨n,m,e1,e2,e3,k _ _ q⟩) h.2⟩
instance {i:Nat}{a:WA}[A:vU a]:qU (zb i pre R a) where h:=λk h=>⟨h.1,A.h (λ_ _ ⟨h1,h2,h3⟩=>⟨h1,h2,λy n r=>k _ _ (h3 y n r)⟩) h.2⟩
instance {i:Nat}[A:qU a]:qU (wPop i a) where h:=λk h=>⟨h.1,A.h (λ_ _ ⟨xs,j,y,e1,e2,e3,e4,e5,e6,q⟩=>⟨xs,j,y,e1,e2,e3,e4,e5,e6,k _ _ q⟩) h.2⟩
instance {f:MA}:vU (wIp f) where h:=λk ⟨y,e,q⟩=>⟨y,e,k _ _ q⟩
theorem YF {g:MG}{c:WT}{f:W}{ts:List Nat}[C:vV c][F:qU f]{Q Q':List PV->ME->Prop}(k:∀ y e,Q y e->Q' y e):∀(xs ys:List PV)(ε:ME),jW g c f ts xs ys ε Q->jW g c f ts xs ys ε Q'
 |[],ys,ε,h=>k _ _ h
 |x::xs,ys,ε,h=>by
  obtain ⟨ε1,e1,h1⟩:=h;exact ⟨ε1,e1,C.h (λb ε2 h2=>JJ (λh3=>F.h (λy ε3 h4=>YF k xs _ _ h4) h3) (λh3=>YF k xs _ _ h3) h2) h1⟩
instance {cap:List (Option Nat)}{it:WA}{g:MG}{c:WT}{f:W}[I:vU it][C:vV c][F:qU f]:qU (jV cap ts it g c f) where
 h:=λk h=>I.h (λ_ _ ⟨h1,h2,h3⟩=>⟨h1,h2,YF (λ_ _ ⟨q1,q2⟩=>⟨q1,k _ _ q2⟩) _ _ _ h3⟩) h
instance:zd zc where h:=λk _ h=>k _ h
instance {a:WS}[A:zd a][B:zd b]:zd (wSeq a b) where h:=λk r h=>A.h (λ_ h1=>B.h k r h1) r h
instance {i:Nat}[A:qU a]:zd (qq i a) where h:=λk _ h=>A.h (λ_ _ h1=>k _ h1) h
instance {i:Nat}{f:M}:zd (Xx i f) where h:=λk _ ⟨x,e,q⟩=>⟨x,e,k _ q⟩
instance [A:qU a]:zd (xc a) where h:=λ_ r h=>A.h r h
instance {c:WT}{a:WS}[C:vV c][A:zd a][B:zd b]:zd (xy c a b) where h:=λk r h=>C.h (λ_ _ h1=>JJ (λh2=>A.h k r h2) (λh2=>B.h k r h2) h1) h
instance {i:Nat}[A:qU a]:zd (Qd i a) where h:=λk _ h=>⟨h.1,A.h (λ_ _ ⟨xs,e1,e2,q⟩=>⟨xs,e1,e2,k _ q⟩) h.2⟩
theorem Jj {g:MG}{c:WT}{f:W}{ts:List Nat}{Q:List PV->ME->Prop}[C:vV c][F:qU f](I:List PV->List PV->ME->Prop)(hd:∀ ys ε,I [] ys ε->Q ys ε)(hs:∀ x xs ys ε,I (x::xs) ys ε->∃ ε1,g x ε=some ε1/\c ε1 λb ε2=>if b=true then f ε2 λy ε3=>I xs (ys++[y]) (rst ts ε3) else I xs ys (rst ts ε2)):∀(xs ys:List PV)(ε:ME),I xs ys ε->jW g c f ts xs ys ε Q
 |[],ys,ε,h=>hd ys ε h
 |x::xs,ys,ε,h=>by
  obtain ⟨ε1,e1,h1⟩:=hs x xs ys ε h;exact ⟨ε1,e1,C.h (λb ε2 h2=>JJ (λh3=>F.h (λy ε3 h4=>Jj I hd hs xs _ _ h4) h3) (λh3=>Jj I hd hs xs _ _ h3) h2) h1⟩
theorem XI {g:MG}{f:W}{Q:List PV->ME->Prop}[F:qU f](I:List PV->List PV->ME->Prop)(hd:∀ ys ε,I [] ys ε->Q ys ε)(hs:∀ x xs ys ε,I (x::xs) ys ε->∃ ε1,g x ε=some ε1/\f ε1 λy ε3=>I xs (ys++[y]) (rst ts ε3))(xs ys:List PV)(ε:ME)(h:I xs ys ε):jW g jw f ts xs ys ε Q :=
 Jj I hd (λx xs ys ε h=>by
  obtain ⟨ε1,e,q⟩:=hs x xs ys ε h;refine ⟨ε1,e,?_⟩;show if true=true then (f ε1 λy ε3=>I xs (ys++[y]) (rst ts ε3)) else I xs ys (rst ts ε1)
  rw [if_pos rfl];exact q) xs ys ε h
theorem JT {g:MG}{f:WS}{N:ME->Prop}{R:PV->ME->Prop}[F:zd f](I:List PV->ME->Prop)(hd:∀ ε,I [] ε->N ε)(hs:∀ x xs ε,I (x::xs) ε->∃ ε1,g x ε=some ε1/\f ε1 (λε2=>I xs ε2) R):∀(xs:List PV)(ε:ME),I xs ε->Xw g f xs ε N R
 |[],ε,h=>hd ε h
 |x::xs,ε,h=>by
  obtain ⟨ε1,e1,h1⟩:=hs x xs ε h;exact ⟨ε1,e1,F.h (λε2 h2=>JT I hd hs xs ε2 h2) (λ_ _ z=>z) h1⟩
section
variable {ε ε1:ME}{a b:MS}{f g:M}{x y z:PV}{i:Nat}{o:Option Out}
theorem y0 (h:a ε=some (.nx ε1))(k:b ε1=o):v9 a b ε=o:=by unfold v9;rw [h];exact k
theorem Qw (h:a ε=some (.rt y)):v9 a b ε=some (.rt y):=by unfold v9;rw [h];rfl
theorem t9 (h:f ε=some x):b8 i f ε=some (.nx (ε.set i (.sh x))):=by unfold b8;rw [h];rfl
theorem Qy (h:f ε=some x):jC i f ε=some (.nx (ε.set i (.ow x))):=by unfold jC;rw [h];rfl
theorem p8 (h:f ε=some x):w9 f ε=some (.rt x):=by unfold w9;rw [h];rfl
theorem j6 {G:PV->PV->Option PV}{r:Option PV}(h1:f ε=some x)(h2:g ε=some y)(h:G x y=r):x8 G f g ε=r:=by unfold x8;rw [h1];show Option.bind (g ε) _=_;rw [h2];exact h
theorem z6 {r:Option PV}(h1:as ε=some xs)(h:m xs=r):x9 m as ε=r:=by unfold x9;rw [h1];exact h
theorem j8 {r:MA}(h1:f ε=some x)(h2:r ε=some xs):q0 f r ε=some (x::xs):=by unfold q0;rw [h1];show Option.bind (r ε) _=_;rw [h2];rfl
theorem wy (h:c ε=some true)(k:a ε=o):p7 c a b ε=o:=by unfold p7;rw [h];exact k
theorem o5 (h:c ε=some false)(k:b ε=o):p7 c a b ε=o:=by unfold p7;rw [h];exact k
theorem xl (h:it ε=some xs)(k:r9 G a xs ε=o):qJ it G a ε=o:=by unfold qJ;rw [h];exact k
theorem ev_sl {l:ME->Option (Option Int)}{lo hi:Option Int}(h1:f ε=some (.lst xs))(h2:l ε=some lo)(h3:u ε=some hi):wo f l u ε=some (.lst (vh xs lo hi)):=by unfold wo;rw [h1];show Option.bind (l ε) _=_;rw [h2];show Option.bind (u ε) _=_;rw [h3];rfl
theorem Qv (h:as ε=some xs)(hl:xs.length<=lim):xr as ε=some (.lst xs):=by unfold xr;rw [h];show (if _ then _ else _)=_;rw [if_pos hl]
theorem xP (h:as ε=some xs)(hl:xs.length<=lim):f6 as ε=some (.tup xs):=by unfold f6;rw [h];show (if _ then _ else _)=_;rw [if_pos hl]
theorem GV {cap:List (Option Nat)}(h:it ε=some xs)(hc:xL cap ts=true)(hl:xs.length<=lim)(k:qr G c f (t6 cap ε) xs=some ys):g8 cap ts it G c f ε=some (.lst ys):=by unfold g8;rw [h];show (if _ then _ else _)=_;rw [if_pos ⟨hc,hl⟩,k];rfl
end
theorem Vo (h:xs.length+ys.length<=lim):qo (.lst xs) (.lst ys)=some (.lst (xs++ys)):=by show (if _ then _ else _)=_;rw [if_pos h]
theorem xO {k:Nat}{b:MS}(hl:xs.length=k)(h:b (xs.map .sh++List.replicate (n-k) .no)=some (.rt y)):qD n k b xs=some y:=by unfold qD;rw [if_pos hl,h];rfl
theorem m7 {k:Nat}{b:MS}(hl:xs.length=k)(h:b (xs.map .sh++List.replicate (n-k) .no)=some (.rt y)):k6 n k b xs=some y:=by unfold k6;rw [if_pos hl,h];rfl
theorem Vv {f:PV->PV->Option Bool}:∀{xs:List PV},(∀ x∈xs,f x x=some true)->zE f xs xs=some true
 |[],_=>rfl
 |x::xs,h=>by unfold zE;rw [h x yT];show Option.bind (zE f xs xs) _=_;rw [Vv λy hy=>h y (yS _ hy)];rfl
def vK:Nat->PV->Prop
 |_,.at u=>u8 u=true
 |n+1,.lst xs=>∀ x∈xs,vK n x
 |n+1,.tup xs=>∀ x∈xs,vK n x
 |_,_=>False
theorem ZI:∀(n:Nat){x:PV},vK n x->peq n x x=some true
 |0,x,h=>by
  cases x with
  |«at» u=>show (if _ then _ else _)=_;rw [if_pos ⟨h,h⟩,XU h]
  |_=>exact h.elim
 |n+1,x,h=>by
  cases x with
  |«at» u=>show (if _ then _ else _)=_;rw [if_pos ⟨(show u8 u=true from h),h⟩,XU h]
  |lst xs=>show (if _ then _ else _)=_;rw [if_pos rfl];exact Vv λy hy=>ZI n (h y hy)
  |tup xs=>show Option.bind (zE (peq n) xs xs) _=_;rw [Vv λy hy=>ZI n (h y hy)];show some (true&&(xs.length==xs.length))=_;rw [beq_self_eq_true];rfl
  |_=>exact h.elim
theorem HY (h:vK 6 x):qx x x=some (.at (.bl true)):=by unfold qx;rw [ZI 6 h];rfl
theorem vG (h:vK 6 x):pNe x x=some (.at (.bl false)):=by unfold pNe;rw [ZI 6 h];rfl
class zL (K:Fg)(C:Addr):Prop where
 c:Cls K C
class NoA (K:Fg)(C:Addr)(f:Str):Prop where
 n:NoAttr K C f
def wF (f:Str):List Str->List PV->Option PV
 |n::ns,x::xs=>if f=n then some x else wF f ns xs
 |_,_=>none
theorem KQ {H:Hp}{f:Str}{y:PV}:∀{fs:List (Str×V)}{xs:List PV},Reps H xs (fs.map (·.2))->wF f (fs.map (·.1)) xs=some y->∃ v,fs.lookup f=some v/\Rep H y v
 |[],xs,r,h=>by cases xs<;>cases h
 |p::fs,xs,r,h=>by
  cases xs with
  |nil=>cases h
  |cons x xs =>
   obtain ⟨v,w,e,p1,p2⟩:=reps_cons.mp r;rw [yI] at e;injection e with e1 e2;subst e1 e2;rw [yI] at h;unfold wF at h;rw [uN];split at h
   ·rename_i hf;cases h;rw [hf,beq_self_eq_true];exact ⟨p.2,rfl,p1⟩
   ·rename_i hf;rw [beq_eq_false_iff_ne.mpr hf];exact KQ p2 h
def zr (C:Addr)(f:Str)(a:M):M:=λε=>(a ε).bind λx=>match x with
 | .ob C' ns xs=>if C'=C then wF f ns xs else none
 |_=>none
theorem DS {a:M}(h:zr C f a ε=some y):∃ ns xs,a ε=some (.ob C ns xs)/\wF f ns xs=some y:=by
 unfold zr at h;obtain ⟨x,ex,h1⟩:=bind_some h;split at h1
 ·split at h1
  ·rename_i hc;subst hc;exact ⟨_,_,ex,h1⟩
  ·cases h1
 ·cases h1
instance {a:M}[c:zL K C][n:NoA K C f][s:i4 te a]:SemE (tFld K te f) (zr C f a) where
 h:=λe _ _ _ _ _ rs _ q=>by
  obtain ⟨ns,xs,ea,el⟩:=DS e;refine s.h ea rs λv Hs1 H1 x1 r1=>?_;obtain ⟨p,dx,fs,rfl,hp,hk,hr⟩:=Pe x1.s3 r1;rw [<- hk] at el;obtain ⟨u,hu,ru⟩:=KQ hr el;exact ⟨p,C,dx,fs,u,rfl,hp,c.c,n.n,hu,q u _ _ x1 ru⟩
theorem Xc {ta:TE}(hK:X.K=K)(he:PE X e ta)(hb:attributeBase e f X.env (eval e X.env)=eval e X.env:=by rfl):PE X (.Attribute e f pos) (tFld K ta f):=by subst hK;exact Rf he hb
structure Mt (P:Program)(w:World)(K:Fg)(mg:Str->Option Value)(base:Heap)(k:Nat)(C:Addr)(m:Str)(ps:List Str)(sp:Sp):Prop where
 ex:∃ f fd,FnOk P w K mg base v7 k f fd ps sp/\Qi K C m f/\Cls K C/\Binds K fd ps []
section
variable {X:Cx}{k j:Nat}{C:Addr}{m:Str}{ps:List Str}{sp:Sp}{o e:Expr}{es:List Expr}{ta:TE}{t:TA}{apos pos:Pos}
theorem ZH {pl:Sem Bool}(c:Mt X.prog X.w X.K X.mg X.base k C m ps sp)(hr:Room j X.A)(hj:k<=j)(ho:PE X o ta)(ha:PA X (e::es) t)
  (hst:starEach (e::es) X.env=(false,eval e X.env)::starEach es X.env:=by rfl) (hpl:(backTo pos (starEach es X.env)).any (·.1)=false:=by rfl)
  (ht:eval (.Call (.Attribute o m apos) (e::es) [] pos) X.env=(do
   let ov <- eval o X.env
   standAt apos.atName
   let (f,first) <- holding [ov] (getMethod ov m pl)
   callWith pos f first (backTo pos (starEach (e::es) X.env)) (backToKw pos (keywordEach [] X.env))):=by rfl) :
  PE X (.Call (.Attribute o m apos) (e::es) [] pos) (vR C m sp [] E0 ta t):=by
 obtain ⟨f,fd,F,hm,hc,hb⟩:=c.ex;exact Ri ho hc hm F (hr.mono hj) hb .nil ZE ha hst hpl ht
theorem Xd {pl:Sem Bool}(c:Mt X.prog X.w X.K X.mg X.base k C m ps sp)(hr:Room j X.A)(hj:k<=j)(ho:PE X o ta)
  (ht:eval (.Call (.Attribute o m apos) [] [] pos) X.env=(do
   let ov <- eval o X.env
   standAt apos.atName
   let (f,first) <- holding [ov] (getMethod ov m pl)
   callWith pos f first (backTo pos (starEach [] X.env)) (backToKw pos (keywordEach [] X.env))):=by rfl) :
  PE X (.Call (.Attribute o m apos) [] [] pos) (vR C m sp [] E0 ta i7):=by
 obtain ⟨f,fd,F,hm,hc,hb⟩:=c.ex;exact Rj ho hc hm F (hr.mono hj) hb .nil ZE ht
end
variable {fr:Bool}
def zu (c:MB)(b:MS):Nat->MS
 |0=>λ_=>none
 |n+1=>λε=>(c ε).bind λk=>if k=true then (b ε).bind λo=>match o with
  | .nx ε'=>zu c b n ε'
  | .ct ε'=>zu c b n ε'
  | .bk ε'=>some (.nx ε')
  | .rt y=>some (.rt y) else some (.nx ε)
instance {t:TT}{b:MS}[sc:qR t c][sb:o4 fr tb b]:o4 fr (PZ t tb) (zu c b n) where
 h:=λ{ε o} e Hs0 H0 Hs H σ rs D q=>by
  refine ⟨λm σ H=>∃ Hs ε,RS Hs0 H0 Hs H σ ε/\zu c b m ε=some o,⟨n,Hs,ε,rs,e⟩,?_⟩;rintro m σ1 H1 ⟨Hs1,ε1,r1,e1⟩;cases m with
  |zero=>cases e1
  |succ m =>
   unfold zu at e1;obtain ⟨k,ek,e2⟩:=bind_some e1;refine sc.h ek r1 λHs2 H2 x2=>?_;cases k with
   |true =>
    rw [if_pos rfl] at e2;obtain ⟨o1,eo,e3⟩:=bind_some e2;refine xS ⟨λσ' H'=>∃ Hs ε,RS Hs0 H0 Hs H' σ' ε/\zu c b m ε=some o,λσ' H' p=>⟨m,uA m,p⟩,sb.h eo (r1.go x2) ?_⟩;cases o1 with
    |nx ε'=>exact λHs3 H3 σ3 r3=>⟨Hs3,ε',r3,e3⟩
    |ct ε'=>exact λHs3 H3 σ3 r3=>⟨Hs3,ε',r3,e3⟩
    |bk ε'=>cases e3;exact q
    |rt y=>cases e3;exact q
   |false=>rw [if_neg yR] at e2;cases e2;exact xR (q _ _ _ (r1.go x2))
def zx:PV->Option z9
 | .at (.int i)=>some (.inl i)
 | .at (.str x)=>some (.inr x)
 |_=>none
theorem jD {k:z9}(r:RepB Hs H x v)(h:zx x=some k):v=kV k:=by
 unfold zx at h;split at h
 ·cases h;cases b7 r;rfl
 ·cases h;cases b7 r;rfl
 ·cases h
def qM (k:z9):List z9->List PV->Option PV
 |n::ns,x::xs=>if n=k then some x else qM k ns xs
 |_,_=>none
theorem Zh {H:Hp}{k:z9}:∀{kvs:List (z9×V)}{xs:List PV},Reps H xs (kvs.map (·.2))->match qM k (kvs.map (·.1)) xs with
  |some y=>∃ v,qG kvs k=some v/\Rep H y v
  |none=>qG kvs k=none
 |[],xs,r=>by
  have hx:xs=[]:=uw.mp r.length.symm;subst hx;rfl
 |p::kvs,xs,r=>by
  cases xs with
  |nil=>have:=r.length;simp at this
  |cons x xs =>
   obtain ⟨v,w,e,p1,p2⟩:=reps_cons.mp r;rw [yI] at e;injection e with e1 e2;subst e1 e2;rw [yI];unfold qM;by_cases hk:p.1=k
   ·rw [if_pos hk];refine ⟨p.2,?_,p1⟩;unfold qG;rw [uF,yy hk];rfl
   ·rw [if_neg hk];have ih:=Zh (k:=k) p2;have ev:qG (p::kvs) k=qG kvs k:=by unfold qG;rw [uF,yB hk]
    rw [ev];exact ih
def xD (a b:M):M:=λε=>(a ε).bind λx=>(b ε).bind λy=>(zx y).bind λk=>match x with
 | .dk ks xs=>qM k ks xs
 | .fk ks xs=>qM k ks xs
 |_=>none
instance {a b:M}[sa:i4 td a][sb:i4 ty b]:SemE (PK td ty) (xD a b) where
 h:=λe _ _ _ _ _ rs _ q=>by
  obtain ⟨x,ex,e1⟩:=bind_some e;obtain ⟨y,ey,e2⟩:=bind_some e1;obtain ⟨k,ek,e3⟩:=bind_some e2;split at e3
  ·refine sa.h ex rs λv Hs1 H1 x1 r1=>sb.h ey (rs.go x1) λw Hs2 H2 x2 r2=>?_;obtain ⟨p,kvs,rfl,hp,hk,hr⟩:=jQ x2.s3 (r1.ext x2);have l:=Zh (k:=k) hr;rw [hk,e3] at l;obtain ⟨u,hu,ru⟩:=l;have ew:=jD r2 ek;subst ew;exact ⟨p,u,rfl,by rw [<- hu];exact DGet.k hp,q u _ _ (x1.trans x2) ru⟩
  ·refine sa.h ex rs λv Hs1 H1 x1 r1=>sb.h ey (rs.go x1) λw Hs2 H2 x2 r2=>?_;obtain ⟨p,o,kvs,rfl,hp,hk,hr⟩:=Xl x2.s3 (r1.ext x2);have l:=Zh (k:=k) hr;rw [hk,e3] at l;obtain ⟨u,hu,ru⟩:=l;have ew:=jD r2 ek;subst ew;exact ⟨p,u,rfl,by rw [<- hu];exact .inl ⟨kvs,k,.inr ⟨o,hp⟩,rfl,rfl⟩,q u _ _ (x1.trans x2) ru⟩
  ·cases e3
def dDIn (b a:M):M:=λε=>(b ε).bind λy=>(a ε).bind λx=>(zx y).bind λk=>match x with
 | .dk ks xs=>some (.at (.bl (qM k ks xs).isSome))
 | .fk ks xs=>some (.at (.bl (qM k ks xs).isSome))
 |_=>none
def Qq (b a:M):M:=λε=>(b ε).bind λy=>(a ε).bind λx=>(zx y).bind λk=>match x with
 | .dk ks xs=>some (.at (.bl (!(qM k ks xs).isSome)))
 | .fk ks xs=>some (.at (.bl (!(qM k ks xs).isSome)))
 |_=>none
theorem QF {k:z9}(r:Reps H xs (kvs.map (·.2))):(qM k (kvs.map (·.1)) xs).isSome=(qG kvs k).isSome:=by
 have l:=Zh (k:=k) r;cases e:qM k (kvs.map (·.1)) xs with
 |none=>rw [e] at l;rw [show qG kvs k=none from l];rfl
 |some y=>rw [e] at l;obtain ⟨v,hv,_⟩:=l;rw [hv];rfl
instance {a b:M}[sa:i4 td a][sb:i4 ty b]:SemE (tDIn ty td) (dDIn b a) where
 h:=λe _ _ _ _ _ rs _ q=>by
  obtain ⟨y,ey,e1⟩:=bind_some e;obtain ⟨x,ex,e2⟩:=bind_some e1;obtain ⟨k,ek,e3⟩:=bind_some e2;split at e3
  ·cases e3;refine sb.h ey rs λw Hs1 H1 x1 r1=>sa.h ex (rs.go x1) λv Hs2 H2 x2 r2=>?_;obtain ⟨p,kvs,rfl,hp,hk,hr⟩:=jQ x2.s3 r2;have ew:=jD r1 ek;subst ew;exact ⟨p,_,rfl,DGet.k hp,q _ _ _ (x1.trans x2) (rep_at.mpr (by rw [<- hk,QF hr]))⟩
  ·cases e3;refine sb.h ey rs λw Hs1 H1 x1 r1=>sa.h ex (rs.go x1) λv Hs2 H2 x2 r2=>?_;obtain ⟨p,o,kvs,rfl,hp,hk,hr⟩:=Xl x2.s3 r2;have ew:=jD r1 ek;subst ew;exact ⟨p,_,rfl,.inl ⟨kvs,_,.inr ⟨o,hp⟩,rfl,rfl⟩,q _ _ _ (x1.trans x2) (rep_at.mpr (by rw [<- hk,QF hr]))⟩
  ·cases e3
instance {a b:M}[sa:i4 td a][sb:i4 ty b]:SemE (PM ty td) (Qq b a) where
 h:=λe _ _ _ _ _ rs _ q=>by
  obtain ⟨y,ey,e1⟩:=bind_some e;obtain ⟨x,ex,e2⟩:=bind_some e1;obtain ⟨k,ek,e3⟩:=bind_some e2;split at e3
  ·cases e3;refine sb.h ey rs λw Hs1 H1 x1 r1=>sa.h ex (rs.go x1) λv Hs2 H2 x2 r2=>?_;obtain ⟨p,kvs,rfl,hp,hk,hr⟩:=jQ x2.s3 r2;have ew:=jD r1 ek;subst ew;exact ⟨p,_,rfl,DGet.k hp,q _ _ _ (x1.trans x2) (rep_at.mpr (by rw [<- hk,QF hr]))⟩
  ·cases e3;refine sb.h ey rs λw Hs1 H1 x1 r1=>sa.h ex (rs.go x1) λv Hs2 H2 x2 r2=>?_;obtain ⟨p,o,kvs,rfl,hp,hk,hr⟩:=Xl x2.s3 r2;have ew:=jD r1 ek;subst ew;exact ⟨p,_,rfl,.inl ⟨kvs,_,.inr ⟨o,hp⟩,rfl,rfl⟩,q _ _ _ (x1.trans x2) (rep_at.mpr (by rw [<- hk,QF hr]))⟩
  ·cases e3
def GF:M:=λ_=>some (.dk [] [])
instance:xh PL GF where
 h:=λe _ _ _ _ _ rs _ q=>by
  cases e;exact λp hp=>q p _ _ (.newO rs.sub hp) hp (rs.sub.free hp) ⟨[],y9,rfl,.nil⟩
def Xk (k:z9)(y:PV):List z9->List PV->List PV
 |n::ns,x::xs=>if n=k then y::Xk k y ns xs else x::Xk k y ns xs
 |_,xs=>xs
def ZM (k:z9)(y:PV)(ks:List z9)(xs:List PV):PV:=if (qM k ks xs).isSome=true then .dk ks (Xk k y ks xs) else .dk (ks++[k]) (xs++[y])
theorem BG {H:Hp}{k:z9}{y:PV}{v:V}(ry:Rep H y v):∀{kvs:List (z9×V)}{xs:List PV},Reps H xs (kvs.map (·.2))->Reps H (Xk k y (kvs.map (·.1)) xs) ((kvs.map (λkv=>if kv.1=k then (kv.1,v) else kv)).map (·.2))/\(kvs.map (λkv=>if kv.1=k then (kv.1,v) else kv)).map (·.1)=kvs.map (·.1)
 |[],xs,r=>by
  have hx:xs=[]:=uw.mp r.length.symm;subst hx;exact ⟨.nil,rfl⟩
 |p::kvs,xs,r=>by
  cases xs with
  |nil=>have:=r.length;simp at this
  |cons x xs =>
   obtain ⟨u,w,e,p1,p2⟩:=reps_cons.mp r;rw [yI] at e;injection e with e1 e2;subst e1 e2;obtain ⟨h1,h2⟩:=BG (k:=k) ry p2;rw [yI,yI,yI,yI];unfold Xk;by_cases hk:p.1=k
   ·rw [if_pos hk,if_pos hk];exact ⟨.cons ry h1,by rw [h2]⟩
   ·rw [if_neg hk,if_neg hk];exact ⟨.cons p1 h1,by rw [h2]⟩
def dPut (i:Nat)(kk vv:M):MS:=λε=>(vv ε).bind λy=>(kk ε).bind λx=>(zx x).bind λk=>match ε[i]? with
 |some (.ow (.dk ks xs))=>if ks.length<=lim then some (.nx (ε.set i (.ow (ZM k y ks xs)))) else none
 |_=>none
instance {i:Nat}{kk vv:M}[sk:SemE ty kk][sv:SemE tv vv]:o4 fr (Pm (qb i) ty tv) (dPut i kk vv) where
 h:=λe _ _ _ _ _ rs _ q=>by
  obtain ⟨y,ey,e1⟩:=bind_some e;obtain ⟨x,ex,e2⟩:=bind_some e1;obtain ⟨k,ek,e3⟩:=bind_some e2;split at e3
  ·rename_i ks xs hi;split at e3
   ·rename_i hl;cases e3;refine sv.h ey rs λv Hs1 H1 x1 r1=>?_;obtain ⟨p,hp,n0,n,t⟩:=(rs.go x1).ow i _ hi;refine ⟨_,hp,sk.h ex (rs.go x1) λw Hs2 H2 x2 r2=>?_⟩;obtain ⟨p',hp',_,n2,kvs,hv,hk,hr⟩:=((rs.go x1).go x2).ow i _ hi;rw [hp] at hp';injection hp' with hp';injection hp' with hp';injection hp' with hp';subst hp';have ew:=jD (.inl r2:RepB Hs2 H2 x w) ek;subst ew;have hlen:kvs.length<=lim:=by rw [<- hk,yZ] at hl;exact hl
    refine ⟨p,_,rfl,DPut.k hv (QE hlen),q _ _ _ (((rs.go x1).go x2).change hi hp ?_)⟩;have hs:=QF (k:=k) hr;unfold ZM zl;rw [Yy,<- hs,hk];by_cases hc:(qM k ks xs).isSome=true
    ·rw [if_pos hc,if_pos hc];obtain ⟨q1,q2⟩:=BG (k:=k) (r1.mono x2.s1) hr;exact ⟨_,y9,by rw [q2,hk],by rw [<- hk];exact q1⟩
    ·rw [if_neg hc,if_neg hc];exact ⟨_,y9,by rw [yw,hk];rfl,by rw [yw];exact hr.append (.one (r1.mono x2.s1))⟩
   ·cases e3
  ·cases e3
def rLeS:R2:=λx y H Q=>∃ i j,x = .str i/\y = .str j/\Q (.bl (!decide (j.cps.toList<i.cps.toList))) H
theorem Bo :OpR X (compareOp .LtE) rLeS:=HQ
def pLeS:PV->PV->Option PV
 | .at (.str i),.at (.str j)=>some (.at (.bl (!decide (j.cps.toList<i.cps.toList))))
 |_,_=>none
instance:xi rLeS pLeS where
 h:=λ{x y z} e {Hs H v w} s a b {Q} q=>by
  unfold pLeS at e;split at e
  ·cases e;cases b7 a;cases b7 b;exact ⟨_,_,rfl,rfl,q _ _ _ (.refl s) (rep_at.mpr rfl)⟩
  ·cases e
def Xo (z:Str):List PV:=z.cps.toList.map λc=> .at (.str ⟨#[c]⟩)
def dItS (a:M):MA:=λε=>(a ε).bind λx=>match x with
 | .at (.str z)=>some (Xo z)
 |_=>none
theorem Ll {z:Str}:jy (ItS z) (Xo z) Hs where
 go:=λi x Hs1 H1 e g1 g2=>by
  unfold Xo at e;rw [yP] at e;obtain ⟨c,hc,rfl⟩:=yJ.mp e;rw [tU] at hc;have hl:i<z.cps.size:=(Array.getElem?_eq_some_iff.mp hc).1;refine ⟨hl,λv H2 y=>?_⟩;obtain ⟨rfl,c',hc',rfl⟩:=y;rw [hc] at hc';cases hc';exact ⟨Hs1,.refl g2,rep_at.mpr rfl⟩
 stop:=λHs1 H1 g1 g2=>by
  show (Xo z).length=z.cps.size;unfold Xo;rw [yZ,ua]
instance {a:M}[sa:SemE te a]:zN (iStr te) (dItS a) where
 h:=λe _ _ _ _ _ rs _ q=>by
  obtain ⟨x,ex,e1⟩:=bind_some e;split at e1
  ·cases e1;exact sa.h ex rs λv Hs1 H1 x1 r1=>⟨_,rep_at.mp r1,q _ _ _ x1 Ll⟩
  ·cases e1
theorem BF {f:Str}{v:V}:∀{fs:List (Str×V)},f∉fs.map (·.1)->qX f v fs=fs++[(f,v)]
 |[],_=>rfl
 |(g,x)::r,h=>by
  rw [yI] at h;unfold qX;rw [if_neg (show ¬ g=f from λz=>h (by rw [<- z];exact yT)),BF λz=>h (yS _ z)];rfl
def CA (C:Addr)(f:Str)(a:W):WS:=λε N _=>a ε λy ε1=>∃ ns xs,ε1[0]?=some (.ow (.ob C ns xs))/\f∉ns/\ns.length<1000/\N (ε1.set 0 (.ow (.ob C (ns++[f]) (xs++[y]))))
instance [c:zL K C][n:NoA K C f][sa:SemW te a]:SemWS (Xn K (qb 0) te f) (CA C f a) where
 h:=λh _ _ _ _ _ _ rd _ k _=>sa.h h rd λy ε1 v Hs1 H1 h1 rd1 g1 r1=>by
  obtain ⟨ns,xs,he,hf,hl,h2⟩:=h1;obtain ⟨p,hp,h0,hs,dx,fs,hH,hk,hr⟩:=rd1.ow 0 _ he;have hf':f∉fs.map (·.1):=by rw [hk];exact hf
  have hl':fs.length<1000:=by rw [<- yZ (f:=(·.1)),hk];exact hl
  refine ⟨_,hp,p,C,dx,fs,rfl,hH,c.c,n.n,hl',?_⟩;rw [BF hf'];exact k _ _ _ _ h2 (rd1.change he hp ⟨dx,_,y9,by rw [yw,hk];rfl,by rw [yw];exact hr.append (.one r1)⟩) g1
def wn (C:Addr)(nm:Str)(m:List PV->Option PV)(i:Nat)(as:MA):M:=λε=>match ε[i]? with
 |some (.ow (.ob C' ns fs))=>if C'=C/\nm∉ns then (as ε).bind λxs=>(m (.ob C ns fs::xs)).bind λy=>match y with
  | .at u=>some (.at u)
  |_=>none else none
 |_=>none
instance {i:Nat}[sa:xg ta as]:SemE (vR C nm (j5 m) [] E (qb i) ta) (wn C nm m i as) where
 h:=λ{ε y} e {Hs0 H0 Hs H σ} rs {Q} q=>by
  unfold wn at e;split at e
  ·rename_i C' ns fs hi;split at e
   ·rename_i hc;obtain ⟨rfl,hn⟩:=hc;obtain ⟨xs,ex,e1⟩:=bind_some e;obtain ⟨z,ez,e2⟩:=bind_some e1;split at e2
    ·rename_i u;cases e2;obtain ⟨p,hp,n0,n,dx,gs,hH,hk,hr⟩:=rs.ow i _ hi;refine ⟨_,hp,p,dx,gs,rfl,hH,JR (by rw [hk];exact hn),sa.h ex rs λvs Hs1 H1 x1 r1=>?_⟩;have hH1:=x1.s2 _ _ hH;have n1:Hs1 p=none:=x1.s4 p (by rw [hH];exact λz=>nomatch z) n;have g:Same Hs1 (j4 Hs1 p (.ins C' dx gs)):=λb w e=>by rw [z5 (u6 e n1)];exact e
     refine ⟨j4 Hs1 p (.ins C' dx gs),_,_,?_,?_,ez,λv Hs' H' x r=>?_⟩
     ·intro b w e;by_cases hb:b=p
      ·subst hb;rw [y9] at e;cases e;exact hH1
      ·rw [z5 hb] at e;exact x1.s3 _ _ e
     ·rw [yn];exact .cons (rep_ob.mpr ⟨p,dx,gs,rfl,y9,hk,(hr.mono x1.s1).mono g⟩) (r1.mono g)
     ·cases rep_at.mp r;refine q _ (λb=>if b=p then none else Hs' b) H' (x1.trans ⟨λb w e=>?_,x.s2,λb w e=>?_,λb hb w=>?_⟩) (rep_at.mpr rfl)
      ·rw [if_neg (u6 e n1)];exact x.s1 _ _ (g _ _ e)
      ·split at e
       ·cases e
       ·exact x.s3 _ _ e
      ·by_cases hbp:b=p
       ·rw [if_pos hbp]
       ·rw [if_neg hbp];exact x.s4 b hb (by rw [z5 hbp];exact w)
    ·cases e2
   ·cases e
  ·cases e
def spI (C:Addr)(m:List PV->Option PV):Sp:=λvs H Q _=>∃ Hs x dx xs ws y,vs = .ref x::ws/\Same Hs H/\H x=some (.ins C dx [])/\Hs x=none/\Reps Hs xs ws/\m xs=some y /\
 ∀ Hs' H',Same Hs Hs'->(∀ b o,H b=some o->b≠x->H' b=some o)->Same Hs' H'->(∀ b,H b≠none->b≠x->Hs b=none->Hs' b=none)->Rep Hs' y (.ref x)->Q .non H'
instance {ds:List V}[sa:xg ta as]:SemE (Xr C (spI C m) ds E ta) (Jl m ds as) where
 h:=λe _ _ _ _ _ rs _ q=>by
  obtain ⟨xs,ex,e1⟩:=bind_some e;refine sa.h ex rs λvs Hs1 H1 x1 r1=>λx dx hx hdx hne=>?_;have s3:Same Hs1 (j4 (j4 H1 dx (.own x)) x (.ins C dx [])):=λb o e=>by
   have e':=x1.s3 _ _ e;rw [z5 (u6 e' hx),z5 (u6 e' hdx)];exact e'
  refine ⟨Hs1,x,dx,_,_,_,rfl,s3,y9,x1.s3.free hx,r1.append (.ofAts ds),e1,λHs' H' g1 g2 g3 g4 r=>⟨rfl,q _ _ _ (x1.trans ⟨g1,λb o e=>?_,g3,λb hb z=>?_⟩) r⟩⟩
  ·refine g2 b o ?_ (u6 e hx);rw [z5 (u6 e hx),z5 (u6 e hdx)];exact e
  ·have hbx:b≠x:=λw=>hb (by rw [w];exact hx);have hbd:b≠dx:=λw=>hb (by rw [w];exact hdx);exact g4 b (by rw [z5 hbx,z5 hbd];exact hb) hbx z
section
variable {P:Program}{w:World}{K:Fg}{mg:Str->Option Value}{base:Heap}
theorem RT {a:Addr}(s:Same Hs H)(ha:Hs a=none)(t:Top Hs H a y)(r:Reps Hs xs ws):RD [a] Hs H Hs H (L2.start N (.ref a::ws)) (.ow y::xs.map .sh++List.replicate (N.length-(xs.length+1)) .no):=by
 have q:=jR (N:=N) (xs:= .at (.ref a)::xs) s (.cons (rep_at.mpr rfl) r);have tl:∀(i:Nat)(sl:MSlot),(MSlot.ow y::xs.map .sh++List.replicate (N.length-(xs.length+1)) .no)[i+1]?=some sl->((PV.at (.ref a)::xs).map MSlot.sh++List.replicate (N.length-(PV.at (.ref a)::xs).length) .no)[i+1]?=some sl:=λi sl h=>h;refine ⟨.refl _,λb o e _=>e,s,λ_ _ z=>z,λi x h=>?_,λi x h=>?_,λi j x y b h1 h2 _ _=>?_,?_,λb hb=>?_,λb hb=>?_,(λb hb=>⟨_,rfl⟩),λi x h=>by
  cases i with
  |zero=>simp at h
  |succ i=>exact VR (xs:=PV.at (.ref a)::xs) (tl i _ h)⟩
 ·cases i with
  |zero=>simp at h
  |succ i=>exact q.sh (i+1) x (tl i _ h)
 ·cases i with
  |zero=>simp at h;subst h;exact ⟨a,by unfold L2.start;rfl,.inr (yK.mpr rfl),ha,t⟩
  |succ i=>exact absurd (tl i _ h) (vO (xs:=PV.at (.ref a)::xs))
 ·cases i with
  |zero =>
   cases j with
   |zero=>rfl
   |succ j=>exact absurd (tl j _ h2) (vO (xs:=PV.at (.ref a)::xs))
  |succ i=>exact absurd (tl i _ h1) (vO (xs:=PV.at (.ref a)::xs))
 ·exact q.len
 ·rw [yK.mp hb];unfold L2.start;rfl
 ·rw [yK.mp hb];exact t.there
end
variable {fr:Bool}
structure ItOkB (J:It)(xs:List PV)(Hs H:Hp):Prop where
 go:∀(i:Nat)(x:PV)(Hs1 H1:Hp),xs[i]?=some x->Same Hs Hs1->Same H H1->Same Hs1 H1->J.go i H1/\∀ v H2,J.yld i H1 v H2->∃ Hs2,Ext Hs1 H1 Hs2 H2/\Rep Hs2 x v
 stop:∀(Hs1 H1:Hp),Same Hs Hs1->Same H H1->Same Hs1 H1->J.stop xs.length H1
class YL (ti:TI)(f:MA):Prop where
 h:∀{ε xs},f ε=some xs->∀{Hs0 H0 Hs H σ},RS Hs0 H0 Hs H σ ε->∀{R:It->Hp->Prop},(∀ J Hs' H',Ext Hs H Hs' H'->ItOkB J xs Hs' H'->R J H')->ti σ H R
instance {a:M}[sa:i4 te a]:YL (Zc K te) (y7 a) where
 h:=λe _ _ _ _ _ rs _ q=>by
  obtain ⟨x,ex,e1⟩:=bind_some e;split at e1
  ·cases e1;refine sa.h ex rs λv Hs1 H1 x1 r1=>?_;obtain ⟨p,vs,rfl,hp,r⟩:=qa x1.s3 r1;refine ⟨p,rfl,⟨vs,SqL.of hp⟩,q _ _ _ x1 ⟨λi x Hs2 H2 ei g1 g2 g3=>?_,λHs2 H2 g1 g2 g3=>⟨vs,SqL.of (g2 _ _ hp),by rw [r.length];exact yU _⟩⟩⟩;obtain ⟨v,ev,rv⟩:=r.get ei;refine ⟨⟨vs,v,SqL.of (g2 _ _ hp),ev⟩,λw H3 y=>?_⟩;obtain ⟨rfl,y⟩:=y;have z:=y vs (SqL.of (g2 _ _ hp));rw [ev] at z;cases z;exact ⟨Hs2,.refl g3,rv.mono g1⟩
  ·cases e1
def vj (cap:List (Option Nat))(ts:List Nat)(i:MA)(g:MG)(c:MB)(f:M):M:=λε=>(i ε).bind λxs=>if xL cap ts=true/\xs.length<=lim then (qr g c f (t6 cap ε) xs).bind λys=>some (.lst ys) else none
instance {cap:List (Option Nat)}{i:MA}{g:MG}{f:M}[si:YL wi i][sg:jz tg ts g][sc:qR tt c][sf:SemE te f]:xh (Qb wi tg tt te cap) (vj cap ts i g c f) where
 h:=λe Hs0 H0 Hs H σ rs Q q=>by
  obtain ⟨xs,ex,e1⟩:=bind_some e;split at e1
  ·rename_i hcl;obtain ⟨hcap,hl⟩:=hcl;unfold xL at hcap;rw [yf] at hcap;obtain ⟨ys,ey,e2⟩:=bind_some e1;cases e2;refine si.h ex rs λJ Hs1 H1 x1 ok=>?_;have rc:=((rs.go x1).cap (uV hcap.1)).rebase;have wk:∀ i∈ts,(p9 cap σ)[i]?=some none:=λi hi=>by
    unfold p9;rw [yP,uV (uM.mp hcap.2 i hi)];rfl
   refine ⟨λk m zs H=>m=xs.length-k/\k<=xs.length/\∃ Hs2 ws,Ext Hs1 H1 Hs2 H/\RS Hs1 H0 Hs2 H (p9 cap σ) (t6 cap _)/\Reps Hs2 ws zs/\ws.length<=k/\∃ rest,qr g c f (t6 cap _) (xs.drop k)=some rest/\ys=ws++rest,
    ⟨xs.length,by simp,yh _,Hs1,[],.refl x1.s3,rc,.nil,yU _,ys,ey,rfl⟩,?_⟩
   rintro k m zs H2 ⟨rfl,hk,Hs2,ws,x2,r2,rz,hw,rest,er,eys⟩;refine ⟨qW (by rw [rz.length];omega),?_⟩;by_cases hlt:k<xs.length
   ·have hd:xs.drop k=xs[k]::xs.drop (k+1):=yc hlt;rw [hd] at er;unfold qr at er;obtain ⟨ε1,eg,er1⟩:=bind_some er;obtain ⟨b,eb,er2⟩:=bind_some er1;obtain ⟨go,yl⟩:=ok.go k xs[k] Hs2 H2 (by simp [hlt]) x2.s1 x2.s2 x2.s3;refine .inr ⟨go,λv H3 y=>?_⟩;obtain ⟨Hs3,x3,r3⟩:=yl v H3 y;refine sg.h eg (r2.go x3) r3 λσ2 rs2 bt=>⟨bt.wk wk,sc.h eb rs2 λHs4 H4 x4=>?_⟩;cases b with
    |true =>
     rw [if_pos rfl] at er2;obtain ⟨z,ez,er3⟩:=bind_some er2;obtain ⟨rest',er4,er5⟩:=bind_some er3;cases er5;refine xS (sf.h ez (rs2.go x4) λu Hs5 H5 x5 r5=>⟨xs.length-(k+1),by omega,rfl,hlt,Hs5,ws++[z],x2.trans (x3.trans (x4.trans x5)),((r2.go x3).go x4).go x5,?_,?_,rest',er4,?_⟩)
     ·exact (rz.mono (x3.s1.trans (x4.s1.trans x5.s1))).snoc r5
     ·rw [yQ];simp;omega
     ·rw [uZ];exact eys
    |false=>rw [if_neg yR] at er2;exact xR ⟨xs.length-(k+1),by omega,rfl,hlt,Hs4,ws,x2.trans (x3.trans x4),(r2.go x3).go x4,rz.mono (x3.s1.trans x4.s1),by omega,rest,er2,eys⟩
   ·have ek:k=xs.length:=by omega
    subst ek;rw [ut] at er;unfold qr at er;cases er;refine .inl ⟨ok.stop Hs2 H2 x2.s1 x2.s2 x2.s3,λD hD=>?_⟩;rw [yn] at eys;subst eys;have x12:=x1.trans x2;exact q D Hs2 _ (x12.trans (.newO x2.s3 hD)) (x12.s2.free hD) (x2.s3.free hD) ⟨zs,y9,rz⟩
  ·cases e1
section
variable {ε:ME}{c d:MB}{f:M}{a b:WS}{N:ME->Prop}{R:PV->ME->Prop}
theorem jc (h:c ε=some false)(k:b ε N R):xy (wPT c) a b ε N R:=by
 refine ⟨false,h,?_⟩;show if false=true then a ε N R else b ε N R
 rw [if_neg yR];exact k
theorem ZV (h:c ε=some true)(k:a ε N R):xy (wPT c) a b ε N R:=by
 refine ⟨true,h,?_⟩;show if true=true then a ε N R else b ε N R
 rw [if_pos rfl];exact k
theorem qZ (h1:c ε=some false)(h2:d ε=some false):qi c d ε=some false:=by unfold qi;rw [h1];show (if false=true then some true else d ε)=_;rw [if_neg yR];exact h2
theorem GG (h1:c ε=some true):qi c d ε=some true:=by unfold qi;rw [h1];rfl
theorem Jn (h1:c ε=some false)(h2:d ε=some true):qi c d ε=some true:=by unfold qi;rw [h1];show (if false=true then some true else d ε)=_;rw [if_neg yR];exact h2
theorem DR (h1:c ε=some false):jg c d ε=some false:=by unfold jg;rw [h1];rfl
theorem XM {v:Bool}(h1:c ε=some true)(h2:d ε=some v):jg c d ε=some v:=by unfold jg;rw [h1];show (if true=true then d ε else some false)=_;rw [if_pos rfl];exact h2
theorem qh (h:c ε=some true):h8 c ε=some false:=by unfold h8;rw [h];rfl
theorem DT (h:c ε=some false):h8 c ε=some true:=by unfold h8;rw [h];rfl
theorem qt {v:Bool}(h:f ε=some (.at (.bl v))):t0 f ε=some v:=by unfold t0;rw [h];rfl
theorem p5 {v:Bool}(h:f ε=some (.at (.bl v))):dT f ε=some v:=by unfold dT;rw [h];rfl
theorem JH :o3 [.lst xs,.at (.ty "list")]=some (.at (.bl true)):=by unfold o3 tyP;simp only [yE,SY]
end
variable {fr:Bool}
theorem XJ {g:MG}{f:M}{ε0:ME}{α:Type}(F G:α->PV):∀(l:List α),(∀ a∈l,∃ ε1,g (F a) ε0=some ε1/\f ε1=some (G a))->qr g g9 f ε0 (l.map F)=some (l.map G)
 |[],_=>rfl
 |a::l,h=>by
  obtain ⟨ε1,e1,e2⟩:=h a yT;have ih:=XJ F G l λb hb=>h b (yS _ hb);show Option.bind (g (F a) ε0) (λε1=>Option.bind (g9 ε1) λb=>if b=true then (f ε1).bind λy=>(qr g g9 f ε0 (l.map F)).bind λys=>some (y::ys) else qr g g9 f ε0 (l.map F))=_;rw [e1,ih];show (if true=true then (f ε1).bind λy=>some (y::l.map G) else some (l.map G))=_;rw [if_pos rfl,e2];rfl
theorem XH {g:MG}{c:MB}{f:M}{ε0:ME}{α:Type}(F G:α->PV)(p:α->Bool):∀(l:List α),(∀ a∈l,∃ ε1,g (F a) ε0=some ε1/\c ε1=some (p a)/\(p a=true->f ε1=some (G a)))->qr g c f ε0 (l.map F)=some ((l.filter p).map G)
 |[],_=>rfl
 |a::l,h=>by
  obtain ⟨ε1,e1,e2,e3⟩:=h a yT;have ih:=XH F G p l λb hb=>h b (yS _ hb);show Option.bind (g (F a) ε0) (λε1=>Option.bind (c ε1) λb=>if b=true then (f ε1).bind λy=>(qr g c f ε0 (l.map F)).bind λys=>some (y::ys) else qr g c f ε0 (l.map F))=_;rw [e1,ih];show Option.bind (c ε1) (λb=>if b=true then (f ε1).bind λy=>some (y::(l.filter p).map G) else some ((l.filter p).map G))=_;rw [e2,yE,ue];cases hp:p a with
  |true=>rw [if_pos rfl,if_pos rfl,e3 hp];rfl
  |false=>rw [if_neg yR,if_neg yR]
theorem f9 {cap:List (Option Nat)}{g:MG}{f:M}(F G:α->PV)(l:List α)(h:it ε=some (l.map F))(hc:xL cap ts=true)(hl:l.length<=lim)(k:∀ a∈l,∃ ε1,g (F a) (t6 cap ε)=some ε1/\f ε1=some (G a)):g8 cap ts it g g9 f ε=some (.lst (l.map G)):=GV h hc (by rw [yZ];exact hl) (XJ F G l k)
theorem GU {cap:List (Option Nat)}{g:MG}{f:M}(F G:α->PV)(p:α->Bool)(l:List α)(h:it ε=some (l.map F))(hc:xL cap ts=true)(hl:l.length<=lim)(k:∀ a∈l,∃ ε1,g (F a) (t6 cap ε)=some ε1/\c ε1=some (p a)/\(p a=true->f ε1=some (G a))):g8 cap ts it g c f ε=some (.lst ((l.filter p).map G)):=GV h hc (by rw [yZ];exact hl) (XH F G p l k)
theorem QG {g:MG}{f:MS}{α:Type}(F:α->PV)(I:List α->ME->Prop)(h:∀ a l ε,I (a::l) ε->∃ ε1 ε2,g (F a) ε=some ε1/\f ε1=some (.nx ε2)/\I l ε2):∀(l:List α)(ε:ME),I l ε->∃ ε',r9 g f (l.map F) ε=some (.nx ε')/\I [] ε'
 |[],ε,i=>⟨ε,rfl,i⟩
 |a::l,ε,i=>by
  obtain ⟨ε1,ε2,e1,e2,i2⟩:=h a l ε i;obtain ⟨ε',e3,i3⟩:=QG F I h l ε2 i2;refine ⟨ε',?_,i3⟩;show Option.bind (g (F a) ε) (λε1=>Option.bind (f ε1) λo=>match o with
   | .nx ε2=>r9 g f (l.map F) ε2
   | .ct ε2=>r9 g f (l.map F) ε2
   | .bk ε2=>some (.nx ε2)
   | .rt y=>some (.rt y))=_
  rw [e1,yE,e2];exact e3
section
variable {ε:ME}{a b:M}{v w:Bool}
theorem ze (h1:a ε=some (.at (.bl true)))(h2:b ε=some (.at (.bl w))):qS a b ε=some (.at (.bl w)):=by unfold qS;rw [h1];exact h2
theorem Mh (h1:a ε=some (.at (.bl false))):qS a b ε=some (.at (.bl false)):=by unfold qS;rw [h1];rfl
theorem Kc (h1:a ε=some (.at (.bl v))):Qs a ε=some (.at (.bl (!v))):=by unfold Qs;rw [h1];rfl
theorem Ml (h:c ε=some true)(k:a ε=some x):dIf c a b ε=some x:=by unfold dIf;rw [h];exact k
theorem GZ (h:c ε=some false)(k:b ε=some x):dIf c a b ε=some x:=by unfold dIf;rw [h];exact k
theorem XV {g g':PV->PV->Option PV}{c:M}{z:PV}{r:Bool}(h1:a ε=some x)(h2:b ε=some y)(h3:g x y=some (.at (.bl true)))(h4:c ε=some z)(h5:g' y z=some (.at (.bl r))):zq g g' a b c ε=some (.at (.bl r)):=by unfold zq;rw [h1,yE,h2,yE,h3];show Option.bind (c ε) _=_;rw [h4];exact h5
theorem ww (h:a ε=some x):zP a ε=some (.nx ε):=by unfold zP;rw [h];rfl
theorem Mj (h:a ε=some x)(k:G x ε=some ε'):dAsg G a ε=some (.nx ε'):=by unfold dAsg;rw [h,yE,k];rfl
theorem qu:c9 ε=some (.nx ε):=rfl
theorem zv (h:a ε=some (.lst xs)):y7 a ε=some xs:=by unfold y7;rw [h];rfl
theorem wx (h:a ε=some (.ob C ns xs))(k:wF f ns xs=some y):zr C f a ε=some y:=by unfold zr;rw [h,yE];show (if C=C then _ else _)=_;rw [if_pos rfl];exact k
theorem vn {fs:List PV}{y:Option PV}(h:a ε=some (.ob C ns fs))(hn:nm∉ns)(k:as ε=some xs)(e:m (.ob C ns fs::xs)=y):xM C nm m a as ε=y:=by unfold xM;rw [h,yE];show (if C=C/\nm∉ns then _ else _)=_;rw [if_pos ⟨rfl,hn⟩,k];exact e
theorem XW {k:Nat}{bd:MS}(hl:xs.length=k)(h:bd (xs.map .sh++List.replicate (n-k) .no)=some (.nx ε')):k6 n k bd xs=some (.at .non):=by unfold k6;rw [if_pos hl,h];rfl
theorem Kv {n:Int}:o3 [.at (.int n),.at (.ty "int")]=some (.at (.bl true)):=by unfold o3 tyP;simp only [yE,SX]
theorem Kw {n:Int}:o3 [.at (.int n),.at (.ty "bool")]=some (.at (.bl false)):=by unfold o3 tyP;simp only [yE,SW]
theorem Kx {n:Str}:o3 [.at (.str n),.at (.ty "str")]=some (.at (.bl true)):=by unfold o3 tyP;simp only [yE,SZ]
theorem Ky {n:List PV}:o3 [.tup n,.at (.ty "tuple")]=some (.at (.bl true)):=by unfold o3 tyP;simp only [yE,Ia]
theorem Gj:∀ bs:List Bool,bls (bs.map λb=> .at (.bl b))=some bs
 |[]=>rfl
 |b::bs=>by
  have ih:=Gj bs;rw [yI];unfold bls;rw [ih];rfl
theorem JG:∀ bs:List Int,zR (bs.map λb=> .at (.int b))=some bs
 |[]=>rfl
 |b::bs=>by
  have ih:=JG bs;rw [yI];unfold zR;rw [ih];rfl
theorem CN (bs:List Bool):zg [.lst (bs.map λb=> .at (.bl b))]=some (.at (.bl (bs.all id))):=by show (bls _).bind _=_;rw [Gj];rfl
theorem SA (bs:List Int):wV [.lst (bs.map λb=> .at (.int b))]=some (.at (.int bs.sum)):=by show (zR _).bind _=_;rw [JG];rfl
theorem vc (l:List α):zg [.lst (l.map λ_=> .at (.bl true))]=some (.at (.bl true)):=by
 have e:(l.map λ_=>PV.at (.bl true))=((l.map λ_=>true).map λb=>PV.at (.bl b)):=by rw [yx];rfl
 rw [e,CN];have:(l.map λ_=>true).all id=true:=by simp
 rw [this]
end
def wM:List Int->Int
 |[]=>0
 |x::l=>l.foldl (λb y=>if y<b then y else b) x
theorem Vc (l:List Int):∀ b:Int,l.foldl (λb y=>if y<b then y else b) b<=b/\(∀ y∈l,l.foldl (λb y=>if y<b then y else b) b<=y)/\(l.foldl (λb y=>if y<b then y else b) b=b∨l.foldl (λb y=>if y<b then y else b) b∈l):=by
 induction l with
 |nil=>intro b;exact ⟨uC _,(λ_ z=>nomatch z),.inl rfl⟩
 |cons x l ih =>
  intro b;rw [List.foldl_cons];obtain ⟨h1,h2,h3⟩:=ih (if x<b then x else b);have hx:(if x<b then x else b)<=b/\(if x<b then x else b)<=x:=by split<;>omega
  refine ⟨by omega,λy hy=>?_,?_⟩
  ·rcases yM.mp hy with rfl|hy
   ·omega
   ·exact h2 y hy
  ·rcases h3 with h3|h3
   ·rw [h3];by_cases hc:x<b
    ·rw [if_pos hc];exact .inr yT
    ·rw [if_neg hc];exact .inl rfl
   ·exact .inr (yS _ h3)
theorem Vd (h:l≠[]):wM l∈l:=by
 cases l with
 |nil=>exact absurd rfl h
 |cons x l =>
  rcases (Vc l x).2.2 with e|e
  ·show l.foldl _ x∈_;rw [e];exact yT
  ·exact yS _ e
theorem Zz {y:Int}(h:y∈l):wM l<=y:=by
 cases l with
 |nil=>cases h
 |cons x l =>
  rcases yM.mp h with rfl|h
  ·exact (Vc l y).1
  ·exact (Vc l x).2.1 y h
def zX (l:List Int):Int:=-wM (l.map λx=>-x)
theorem Bb (h:l≠[]):zX l∈l:=by have:=Vd (l:=l.map λx=>-x) (by cases l with|nil=>exact absurd rfl h|cons x l=>simp);obtain ⟨x,hx,e⟩:=yF.mp this;unfold zX;rw [<- e,Int.neg_neg];exact hx
theorem Ba {y:Int}(h:y∈l):y<=zX l:=by have:=Zz (l:=l.map λx=>-x) (y:=-y) (yF.mpr ⟨y,h,rfl⟩);unfold zX;omega
def pMinL:List PV->Option PV
 |[.lst xs]=>(zR xs).bind λns=>if ns=[] then none else some (.at (.int (wM ns)))
 |_=>none
def leS (a b:Str):Bool:=!decide (b.cps.toList<a.cps.toList)
def ju (ss:List Str):List Str:=ss.mergeSort leS
theorem Yk (ss:List Str):(ju ss).Perm ss:=List.mergeSort_perm ss leS
theorem So (ss:List Str):XC (ju ss):=by
 have:=List.pairwise_mergeSort (le:=leS) (λa b c h1 h2=>by
  unfold leS at h1 h2 ⊢;simp only [Bool.not_eq_true',decide_eq_false_iff_not] at h1 h2 ⊢;exact ur.mpr (List.le_trans (ur.mp h1) (ur.mp h2))) (λa b=>by
  unfold leS;by_cases h:b.cps.toList<a.cps.toList
  ·have h2:¬ (a.cps.toList<b.cps.toList):=λk=>List.lt_irrefl _ (List.lt_trans h k);simp [h2]
  ·simp [h]) ss
 exact this.imp λh=>by unfold leS at h;simpa using h
theorem Yj {ss ss':List Str}(p:ss'.Perm ss)(u:XC ss'):ss'=ju ss :=
 List.Perm.eq_of_pairwise (λa b _ _ h1 h2=>by
  have e:=List.le_antisymm (ur.mp h1) (ur.mp h2);cases a;cases b;simp only [Str.mk.injEq];exact tR.mp e) u (So ss) (p.trans (Yk ss).symm)
def jT:List PV->Option (List Str)
 |[]=>some []
 | .at (.str s)::xs=>(jT xs).map (s::·)
 |_::_=>none
theorem Ym:∀{xs:List PV}{ss:List Str},jT xs=some ss->xs=ss.map λs=> .at (.str s)
 |[],_,h=>by cases h;rfl
 |x::xs,ss,h=>by
  unfold jT at h;split at h
  ·rename_i e;cases e
  ·rename_i s' xs' e;injection e with e1 e2;subst e1 e2;obtain ⟨r,hr,rfl⟩:=yJ.mp h;rw [Ym hr];rfl
  ·cases h
def jE:List z9->Option (List Str)
 |[]=>some []
 | .inr s::xs=>(jE xs).map (s::·)
 |_::_=>none
theorem JM:∀{xs:List z9}{ss:List Str},jE xs=some ss->xs=ss.map Sum.inr
 |[],_,h=>by cases h;rfl
 |x::xs,ss,h=>by
  unfold jE at h;split at h
  ·rename_i e;cases e
  ·rename_i s' xs' e;injection e with e1 e2;subst e1 e2;obtain ⟨r,hr,rfl⟩:=yJ.mp h;rw [JM hr];rfl
  ·cases h
def Vr:List PV->Option PV
 |[.lst xs]=>(jT xs).bind λss=>if ss.length<64 then some (.lst ((ju ss).map λs=> .at (.str s))) else none
 |[.dk ks _]=>(jE ks).bind λss=>if ss.length<64 then some (.lst ((ju ss).map λs=> .at (.str s))) else none
 |[.fk ks _]=>(jE ks).bind λss=>if ss.length<64 then some (.lst ((ju ss).map λs=> .at (.str s))) else none
 |_=>none
theorem VN (ss:List Str):Reps H (ss.map λs=> .at (.str s)) (ss.map V.str):=by have:=Reps.ofAts (H:=H) (ss.map V.str);rwa [yx] at this
instance :ZY (BS K) Vr where
 h:=λ{xs z} e {Hs H vs} s r {Q} q=>by
  unfold Vr at e;split at e
  ·obtain ⟨ss,eb,e1⟩:=bind_some e;split at e1
   ·rename_i hl;cases e1;obtain ⟨v,rfl,a⟩:=xZ r;obtain ⟨p,ws,rfl,e1,r1⟩:=qa s a;rw [Ym eb,show (ss.map λb=>PV.at (.str b))=(ss.map V.str).map .at by rw [yx];rfl] at r1;cases r1.ats;refine ⟨p,ss,rfl,.inl (SqL.of e1),hl,λl ss' hn p1 p2=>?_⟩;rw [Yj p1 p2];exact q l _ _ (.newO s hn) hn (s.free hn) ⟨_,y9,VN _⟩
   ·cases e1
  ·obtain ⟨ss,eb,e1⟩:=bind_some e;split at e1
   ·rename_i hl;cases e1;obtain ⟨v,rfl,a⟩:=xZ r;obtain ⟨p,kvs,rfl,hp,hk,hr⟩:=jQ s a;refine ⟨p,ss,rfl,.inr ⟨kvs,.inl hp,by rw [hk,JM eb]⟩,hl,λl ss' hn p1 p2=>?_⟩;rw [Yj p1 p2];exact q l _ _ (.newO s hn) hn (s.free hn) ⟨_,y9,VN _⟩
   ·cases e1
  ·obtain ⟨ss,eb,e1⟩:=bind_some e;split at e1
   ·rename_i hl;cases e1;obtain ⟨v,rfl,a⟩:=xZ r;obtain ⟨p,o,kvs,rfl,hp,hk,hr⟩:=Xl s a;refine ⟨p,ss,rfl,.inr ⟨kvs,.inr ⟨o,hp⟩,by rw [hk,JM eb]⟩,hl,λl ss' hn p1 p2=>?_⟩;rw [Yj p1 p2];exact q l _ _ (.newO s hn) hn (s.free hn) ⟨_,y9,VN _⟩
   ·cases e1
  ·cases e
def BR (K:Fg):List V->Hp->VK->Prop:=λxs H Q=>∃(a:Addr)(ss:List Str),xs=[.ref a]/\SqL K H a (ss.map V.str)/\ss.length<=1000 /\
  ∀ l,H l=none->Q (.ref l) (j4 H l (va (r6 (λi=>(Sum.inr (ss.getD i ⟨#[]⟩):z9)) ss.length).length l))
theorem DB (hc:X.calm=true)(h:X.K=K):CallR X (.type "set") (BR K):=by subst h;exact DC hc
def JZ (ss:List Str):Nat:=(r6 (λi=>(Sum.inr (ss.getD i ⟨#[]⟩):z9)) ss.length).length
def BM:List V->Hp->VK->Prop:=λxs H Q=>∃(a:Addr)(n:Nat),xs=[.ref a]/\H a=some (va n a)/\Q (.int n) H
theorem Dw :CallR X (.builtin "len") BM:=Dv
def GD (a:M):M:=λε=>(a ε).bind λx=>match x with
 | .lst xs=>(jT xs).bind λss=>if ss.length<=1000 then some (.at (.int (JZ ss))) else none
 |_=>none
instance {a:M}[sa:i4 te a]:SemE (tCB BM (i0 (tCB (BR K) (i0 te i7)) i7)) (GD a) where
 h:=λe _ _ _ _ _ rs _ q=>by
  obtain ⟨x,ex,e1⟩:=bind_some e;split at e1
  ·obtain ⟨ss,eb,e2⟩:=bind_some e1;split at e2
   ·rename_i hl;cases e2;refine sa.h ex rs λv Hs1 H1 x1 r1=>?_;obtain ⟨p,ws,rfl,ep,r2⟩:=qa x1.s3 r1;rw [Ym eb,show (ss.map λb=>PV.at (.str b))=(ss.map V.str).map .at by rw [yx];rfl] at r2;cases r2.ats;refine ⟨p,ss,rfl,SqL.of ep,hl,λl hn=>⟨l,_,rfl,y9,q _ _ _ (x1.trans (.newO x1.s3 hn)) (rep_at.mpr rfl)⟩⟩
   ·cases e2
  ·cases e1
def pIsB:PV->PV->Option PV
 | .at (.bl b),.at (.bl c)=>some (.at (.bl (decide (b=c))))
 |_,_=>none
def Vp:PV->PV->Option PV
 | .at (.bl b),.at (.bl c)=>some (.at (.bl (!decide (b=c))))
 |_,_=>none
instance:xi BO Vp where
 h:=λ{x y z} e {Hs H v w} s a b {Q} q=>by
  unfold Vp at e;split at e
  ·cases e;exact ⟨_,_,b7 a,b7 b,q _ _ _ (.refl s) (rep_at.mpr rfl)⟩
  ·cases e
structure Mkr (P:Program)(w:World)(K:Fg)(mg:Str->Option Value)(base:Heap)(k:Nat)(C:Addr)(ps:List Str)(sp:Sp):Prop where
 ex:∃ f fd,FnOk P w K mg base v7 k f fd ps sp/\Mk K C f/\Binds K fd ps []
theorem pe_mk {k j:Nat}{x:Str}{p:Pos}{es:List Expr}{t:TA}(c:Mkr X.prog X.w X.K X.mg X.base k C ps sp)(hr:Room j X.A)(hj:k+1<=j)(hg:Gl X x)(hm:X.mg x=some (.ref C))(ha:PA X (e::es) t)(hdb:(x==("__debug__":Str))=false:=by decide)(he:starEach (e::es) X.env=(false,eval e X.env)::starEach es X.env:=by rfl)(hpl:(backTo pos (starEach es X.env)).any (·.1)=false:=by rfl):PE X (.Call (.Name x p) (e::es) [] pos) (Xr C sp [] E0 t):=by obtain ⟨f,fd,F,hm',hb⟩:=c.ex;exact Rg hm' F (hr.mono hj) hg hm hb .nil ZE ha hdb he hpl
instance (priority:=1100)[sa:xg ta as]:SemE (Xr C (spI C m) [] E ta) (x9 m as) where
 h:=λ{ε y} e=>SemE.h (te:=Xr C (spI C m) [] E ta) (f:=Jl m [] as) (by
  unfold Jl;unfold x9 at e;simpa using e)
structure FunD (K:Fg)(x qual:Str)(st:Stmt)(f:Addr)(fd:FuncData):Prop where
 ex:∃(oc:Value)(od:Option Addr)(dV kV doc pm:Value)(an:Option Addr)(cdv ct:Value)(osl:Array (Option Value)),
  fd=PySem.W.fnOf x qual (xN st) (qj st) (j7 st) dV kV doc pm an cdv ct/\K.lookup f=some ⟨oc,od,.func fd,osl⟩/\PySem.W.codeIn K cdv qual=true
 kp:PySem.W.keepIn K (.ref f)=true
section
variable {P:Program}{w:World}{K:Fg}{mg:Str->Option Value}{base:Heap}
theorem FunD.ok {x:Str}{f:Addr}{k:Nat}(F:FunD K x qual st f fd)(S:w6 N ps (j7 st))(len:∀ vs H Q E,sp vs H Q E->vs.length=ps.length)(hbody:∀(cdv:Value)(A:Around)(outer:List Env)(s:Shared)(H:Hp)(vs:List V)(Q:VK)(E:XK),Room k (A.deeper (PyProof.Rows.envOfC qual (j7 st) s.heap.objs.size f cdv))->sp vs H Q E -> ∃ t,PSs (xj v7 P w K mg base N qual (j7 st) f cdv A outer s H E).nox (qj st) t/\t { nx:=λ_ H'=>Q .non H',rt:=Q } (L2.start N vs) H):FnOk P w K mg base v7 (k+1) f fd ps sp:=by obtain ⟨oc,od,dV,kV,doc,pm,an,cdv,ct,osl,rfl,lk,hcd⟩:=F.ex;refine JA lk hcd S len λA outer s H vs Q E hr hsp=>?_;obtain ⟨t,h,q⟩:=hbody cdv A outer s H vs Q E hr hsp;exact ⟨t,h.nox,q⟩
theorem Mx {x:Str}{f:Addr}{oc:Value}{od an:Option Addr}{osl:Array (Option Value)}{dV kV doc pm cdv ct:Value}(l:K.lookup f=some ⟨oc,od,.func (PySem.W.fnOf x qual (xN st) (qj st) (j7 st) dV kV doc pm an cdv ct),osl⟩)(c:PySem.W.codeIn K cdv qual=true)(k:PySem.W.keepIn K (.ref f)=true):FunD K x qual st f (PySem.W.fnOf x qual (xN st) (qj st) (j7 st) dV kV doc pm an cdv ct):=⟨⟨oc,od,dV,kV,doc,pm,an,cdv,ct,osl,rfl,l,c⟩,k⟩
theorem Xj {o value:Expr}{ta:TE}{pos':Pos}(hK:X.K=K)(ha:PE X o ta)(hv:PE X value tv)(hs:swapsWith value (some (.Attribute o f pos')) pos.line X.env=pure false:=by rfl):PS X (.Assign [.Attribute o f pos'] value pos) (Xn K ta tv f):=by subst hK;exact Rz ha hv hs
theorem okI' {x:Str}{f:Addr}{k:Nat}(F:FunD K x qual st f fd)(S:w6 N ps (j7 st))(hm:∀ xs y,m xs=some y->xs.length+1=ps.length)(hb:∀(cdv:Value)(A:Around)(outer:List Env)(s:Shared)(H:Hp)(E:XK),Room k (A.deeper (PyProof.Rows.envOfC qual (j7 st) s.heap.objs.size f cdv)) -> ∃ t,PSs (xj v7 P w K mg base N qual (j7 st) f cdv A outer s H E).nox (qj st) t/\SemWS t b)(hw:∀ xs y,m xs=some y->b (.ow (.ob C [] [])::xs.map .sh++List.replicate (N.length-(xs.length+1)) .no) (λε=>ε[0]?=some (.ow y)) λ_ _=>False):FnOk P w K mg base v7 (k+1) f fd ps (spI C m):=by
 refine F.ok S (λvs H Q E h=>?_) (λcdv A outer s H vs Q E hr h=>?_)
 ·obtain ⟨Hs,x,dx,xs,ws,y,rfl,_,_,_,r,e,_⟩:=h;rw [yG,r.length];exact hm xs y e
 ·obtain ⟨Hs,x,dx,xs,ws,y,rfl,sm,hx,hs,r,e,q⟩:=h;obtain ⟨t,ht,sem⟩:=hb cdv A outer s H E hr;refine ⟨t,ht,sem.h (hw xs y e) (RT sm hs ⟨dx,[],hx,rfl,.nil⟩ r) (λε σ Hs' H' z rd g=>?_) λ_ _ _ _ _ _ z _ _ _=>z.elim⟩;obtain ⟨a,ha,_,n,tp⟩:=rd.ow 0 y z;rw [rd.pin x (yK.mpr rfl)] at ha;injection ha with ha;injection ha with ha;injection ha with ha;subst ha;obtain ⟨o,ho,ro⟩:=tp.rep n;have g2:Same Hs' (j4 Hs' x o):=λb u e=>by rw [z5 (u6 e n)];exact e
  refine q (j4 Hs' x o) H' (g.trans g2) (λb u e hb=>rd.s2 b u e λw=>hb (yK.mp w)) (λb u e=>?_) (λb hb hbx w=>?_) ro
  ·by_cases hbx:b=x
   ·subst hbx;rw [y9] at e;cases e;exact ho
   ·rw [z5 hbx] at e;exact rd.s3 _ _ e
  ·rw [z5 hbx];exact rd.s4 b hb w
end
def zQ (C:Addr)(f:Str)(a:M):MS:=λε=>(a ε).bind λy=>match (ε[0]?:Option MSlot) with
 |some (.ow (.ob C' ns xs))=>if C'=C/\f∉ns/\ns.length<1000 then some (.nx (ε.set 0 (.ow (.ob C (ns++[f]) (xs++[y]))))) else none
 |_=>none
def wPN (f:MS):WS:=λε N _=>∃ ε',f ε=some (.nx ε')/\N ε'
theorem DU {a:M}{o:Out}(h:zQ C f a ε=some o):∃ y ns xs,a ε=some y/\ε[0]?=some (.ow (.ob C ns xs))/\f∉ns/\ns.length<1000/\o = .nx (ε.set 0 (.ow (.ob C (ns++[f]) (xs++[y])))):=by
 unfold zQ at h;obtain ⟨y,ey,h1⟩:=bind_some h;split at h1
 ·rename_i C' ns xs he;split at h1
  ·rename_i hc;cases h1;obtain ⟨rfl,h2,h3⟩:=hc;exact ⟨y,ns,xs,ey,he,h2,h3,rfl⟩
  ·cases h1
 ·cases h1
instance {a:M}[c:zL K C][n:NoA K C f][sa:SemE te a]:SemWS (Xn K (qb 0) te f) (wPN (zQ C f a)) where
 h:=λ{ε N R} h=>by
  obtain ⟨ε',e,h1⟩:=h;obtain ⟨y,ns,xs,ey,he,h2,h3,e4⟩:=DU e;injection e4 with e4;subst e4;exact SemWS.h (ts:=Xn K (qb 0) te f) (w:=CA C f (wP a)) ⟨y,ey,ns,xs,he,h2,h3,h1⟩
instance {a:M}[sa:SemE te a]:SemWS (jU te) (wPN (zP a)) where
 h:=λ{ε N R} h=>by
  obtain ⟨ε',e,h1⟩:=h;obtain ⟨y,ey,e2⟩:=bind_some e;cases e2;exact SemWS.h (ts:=jU te) (w:=Cz (wP a)) ⟨y,ey,h1⟩
instance Se {u:TS}{a b:MS}[sa:SemWS t (wPN a)][sb:SemWS u (wPN b)]:SemWS (tSeq t u) (wPN (v9 a b)) where
 h:=λ{ε N R} h S Hs0 H0 Hs H σ rd D k rt=>by
  obtain ⟨ε',e,h1⟩:=h;obtain ⟨o1,e1,e2⟩:=bind_some e;refine SemWS.h (ts:=tSeq t u) (w:=wSeq (wPN a) (wPN b)) (ε:=ε) (N:=N) (R:=R) ?_ rd k rt;cases o1 with
  |nx ε1=>exact ⟨ε1,e1,ε',e2,h1⟩
  |rt y=>cases e2
  |bk ε1=>cases e2
  |ct ε1=>cases e2
def Qr (n k:Nat)(C:Addr)(f:MS):List PV->Option PV:=λxs=>if xs.length+1=k then (f (.ow (.ob C [] [])::xs.map .sh++List.replicate (n-k) .no)).bind λo=>match o with
 | .nx ε=>(match (ε[0]?:Option MSlot) with
  |some (.ow y)=>some y
  |_=>none)
 |_=>none else none
theorem okID {P:Program}{w:World}{mg:Str->Option Value}{base:Heap}{x:Str}{f:Addr}{k:Nat}{b:MS}(F:FunD K x qual st f fd)(S:w6 N ps (j7 st))(hm:m=Qr N.length ps.length C b)(hb:∀(cdv:Value)(A:Around)(outer:List Env)(s:Shared)(H:Hp)(E:XK),Room k (A.deeper (PyProof.Rows.envOfC qual (j7 st) s.heap.objs.size f cdv)) -> ∃ t,PSs (xj v7 P w K mg base N qual (j7 st) f cdv A outer s H E).nox (qj st) t/\SemWS t (wPN b)):FnOk P w K mg base v7 (k+1) f fd ps (spI C m):=by
 subst hm;refine okI' F S (λxs y e=>?_) hb (λxs y e=>?_)
 ·unfold Qr at e;split at e
  ·rename_i hl;exact hl
  ·cases e
 ·unfold Qr at e;split at e
  ·rename_i hl;obtain ⟨o,eo,e1⟩:=bind_some e;rw [hl];cases o with
   |nx ε =>
    refine ⟨ε,eo,?_⟩;have e2:(match (ε[0]?:Option MSlot) with
     |some (.ow y)=>some y
     |_=>none)=some y:=e1
    show ε[0]?=some (.ow y);split at e2
    ·rename_i z hz;cases e2;exact hz
    ·cases e2
   |rt z=>cases e1
   |bk z=>cases e1
   |ct z=>cases e1
  ·cases e
def XN (a:M):M:=λε=>(a ε).bind λx=>match x with
 | .lst xs=>(zR xs).bind λns=>if ns=[] then some (.at .non) else some (.at (.int (zX ns)))
 |_=>none
instance {a:M}[sa:i4 te a]:SemE (PN K (i0 te i7)) (XN a) where
 h:=λe _ _ _ _ _ rs _ q=>by
  obtain ⟨x,ex,e1⟩:=bind_some e;split at e1
  ·obtain ⟨ns,eb,e2⟩:=bind_some e1;refine sa.h ex rs λv Hs1 H1 x1 r1=>?_;obtain ⟨p,ws,rfl,ep,r2⟩:=qa x1.s3 r1;rw [JF eb,show (ns.map λb=>PV.at (.int b))=(ns.map V.int).map .at by rw [yx];rfl] at r2;cases r2.ats;refine ⟨p,ns,rfl,SqL.of ep,λhn=>?_,λhn m m1 m2=>?_⟩
   ·rw [if_pos hn] at e2;cases e2;exact q _ _ _ x1 (rep_at.mpr rfl)
   ·rw [if_neg hn] at e2;cases e2;have em:m=zX ns:=Int.le_antisymm (Ba m1) (m2 _ (Bb hn));subst em;exact q _ _ _ x1 (rep_at.mpr rfl)
  ·cases e1
def zG:List PV->Option (List (z9×PV))
 |[]=>some []
 | .tup [k,v]::xs=>(zx k).bind λkk=>(zG xs).map ((kk,v)::·)
 |_::_=>none
def zY:List PV->Option PV
 |[.lst xs]=>(zG xs).bind λps=>if (ps.map (·.1)).Nodup/\ps.length<=1000 then some (.fk (ps.map (·.1)) (ps.map (·.2))) else none
 |_=>none
theorem BD {Hs H:Hp}(s:Same Hs H):∀{xs:List PV}{ps:List (z9×PV)}{vs:List V},zG xs=some ps->Reps Hs xs vs->∃(ts:List Addr)(kvs:List (z9×V)),vs=ts.map V.ref/\Paired (λt (kv:z9×V)=>H t=some (.tup [kV kv.1,kv.2])) ts kvs/\kvs.map (·.1)=ps.map (·.1)/\Reps Hs (ps.map (·.2)) (kvs.map (·.2))
 |[],ps,vs,h,r=>by
  cases h;cases reps_nil.mp r;exact ⟨[],[],rfl,.nil,rfl,.nil⟩
 |x::xs,ps,vs,h,r=>by
  unfold zG at h;split at h
  ·rename_i e;cases e
  ·rename_i k v xs' e;injection e with e1 e2;subst e1 e2;obtain ⟨kk,ek,h1⟩:=bind_some h;obtain ⟨ps',hp,rfl⟩:=yJ.mp h1;obtain ⟨w,ws,rfl,r1,r2⟩:=reps_cons.mp r;obtain ⟨t,us,rfl,ht,ru⟩:=rep_tup.mp r1;obtain ⟨u1,us1,rfl,p1,p2⟩:=reps_cons.mp ru;obtain ⟨u2,us2,rfl,p3,p4⟩:=reps_cons.mp p2;cases reps_nil.mp p4;have ew:=jD (H:=H) (.inl p1) ek;subst ew;obtain ⟨ts,kvs,rfl,q1,q2,q3⟩:=BD s hp r2;exact ⟨t::ts,(kk,u2)::kvs,rfl,.cons (s _ _ ht) q1,by rw [yI,yI,q2],.cons p3 q3⟩
  ·cases h
instance:wc BK zY where
 h:=λ{xs z} e {Hs H vs} s r {Q} q=>by
  unfold zY at e;split at e
  ·obtain ⟨ps,eb,e1⟩:=bind_some e;split at e1
   ·rename_i hl;cases e1;obtain ⟨v,rfl,a⟩:=xZ r;obtain ⟨p,ws,rfl,ep,r1⟩:=qa s a;obtain ⟨ts,kvs,rfl,q1,q2,q3⟩:=BD s eb r1;have hk:kvs.length=ps.length:=by have:=congrArg List.length q2;rwa [yZ,yZ] at this
    refine ⟨p,ts,kvs,rfl,ep,q1,by rw [q2];exact hl.1,by omega,λl o hn=>?_⟩;exact q _ _ _ (.new s hn) (rep_fk.mpr ⟨l,o,kvs,rfl,y9,q2,q3.mono (Ext.new s hn).s1⟩)
   ·cases e1
  ·cases e
def dItV (a:M):MA:=λε=>(a ε).bind λx=>match x with
 | .fk _ xs=>some xs
 |_=>none
theorem Lm {a:Addr}{o:Obj}(h:Hs a=some (.frz o (.dK kvs)))(r:Reps Hs xs (kvs.map (·.2))):jy (Itv a o kvs) xs Hs where
 go:=λi x Hs1 H1 e g1 g2=>by
  obtain ⟨v,ev,rv⟩:=r.get e;have hl:i<kvs.length:=by have:=(yL.mp ev).1;rwa [yZ] at this
  refine ⟨⟨g2 _ _ (g1 _ _ h),hl⟩,λw H2 y=>?_⟩;obtain ⟨rfl,k,y⟩:=y;rw [yP,y] at ev;cases ev;exact ⟨Hs1,.refl g2,rv.mono g1⟩
 stop:=λHs1 H1 g1 g2=>⟨g2 _ _ (g1 _ _ h),by have:=r.length;rw [yZ] at this;omega⟩
instance {a:M}[sa:SemE te a]:zN (Ko te) (dItV a) where
 h:=λe _ _ _ _ _ rs _ q=>by
  obtain ⟨x,ex,e1⟩:=bind_some e;split at e1
  ·cases e1;refine sa.h ex rs λv Hs1 H1 x1 r1=>?_;obtain ⟨p,o,kvs,rfl,hp,_,r⟩:=rep_fk.mp r1;exact ⟨p,o,kvs,rfl,x1.s3 _ _ hp,q _ _ _ x1 (Lm hp r)⟩
  ·cases e1
end Mi
namespace Mi
open PySem PySem.Spec PyProof.Rows L2
variable {fr:Bool}
section
variable {P:Program}{w:World}{K:Fg}{mg:Str->Option Value}{base:Heap}
theorem GW {ε:ME}{f:M}{cap:List (Option Nat)}{ts:List Nat}{it:MA}{G:MG}{c:MB}{xs ys:List PV}(h:it ε=some xs)(hc:xL cap ts=true)(hl:xs.length<=lim)(k:qr G c f (t6 cap ε) xs=some ys):vj cap ts it G c f ε=some (.lst ys):=by unfold vj;rw [h];show (if _ then _ else _)=_;rw [if_pos ⟨hc,hl⟩,k];rfl
end
end Mi
namespace L2
open PySem PySem.Spec PyProof.Rows
variable{pos:Pos}{l:List Value}
theorem SD:∀{l:List Value}{i j:Int}{t u:Tok}{c:Value},TriplesOk l->TriplesOk (l++[.int i t,.int j u,c]):=by
 intro l i j t u c h
 fun_induction TriplesOk l with
 |case1=>trivial
 |case2 _ _ _ _ _ rest ih=>exact ih h
 |case3=>exact h.elim
theorem CP {c:Value}{r:List Value}(h:codeAmong pos l=some c):codeAmong pos (l++r)=some c:=by
 fun_induction codeAmong pos l with
 |case1 line t col u d rest e=>show codeAmong pos (.int line t:: .int col u::d::(rest++r))=some c;unfold codeAmong;rw [if_pos e];exact h
 |case2 line t col u d rest e ih=>show codeAmong pos (.int line t:: .int col u::d::(rest++r))=some c;unfold codeAmong;rw [if_neg e];exact ih h
 |case3=>cases h
theorem CO {i j:Int}{t u:Tok}{d:Value}(ok:TriplesOk l)(h:codeAmong pos l=none):codeAmong pos (l++[.int i t,.int j u,d])=if i==pos.line&&j==pos.col then some d else none:=by
 fun_induction TriplesOk l with
 |case1=>show codeAmong pos (.int i t:: .int j u::d::[])=_;unfold codeAmong;rfl
 |case2 a b c e f rest ih =>
  unfold codeAmong at h;split at h
  ·cases h
  ·rename_i ne;show codeAmong pos (.int a b:: .int c e::f::(rest++_))=_;unfold codeAmong;rw [if_neg ne];exact ih ok h
 |case3=>exact ok.elim
section
variable {X:Cx}{pins:List (Addr×Obj)}{σ:St}{H:Hp}{s:Shared}{Pt c:Addr}{ps:Array Value}{wt:List (Pos×Str)}{params:Arguments}{body:Expr}{scope:Scope}{pos:Pos}{clos:List (Str×Addr)}{Q:Value->Shared->Prop}{E:Value->Shared->Prop}
theorem Inv.trackN {h':Heap}{tk:Tok}{o:HO}{ob:Obj}(I':Inv X pins σ H { s with heap:=h',toks:=tk })(nb:H h'.objs.size=none)(J:Inv X pins σ H { s with heap:=h'.push ob,toks:=tk })(new:ObjOk X.prog X.w (j4 H h'.objs.size o) (h'.push ob) h'.objs.size o):Inv X pins σ (j4 H h'.objs.size o) { s with heap:=h'.push ob,toks:=tk }:=by
 refine J.track I'.sz nb (uf I'.lt) (λx c e=>?_) (λq hq=>?_) new
 ·obtain ⟨v,oc,e1,_⟩:=I'.cell x c e;exact yH (yO e1)
 ·exact yH (yO (I'.pin q hq).1)
theorem LH (I:Inv X pins σ H s)(hP:(Pt,ps,wt)∈TABS)(hw:(pos,X.env.qual ++ "<lambda>")∈wt)(hu:∀ p∈wt,(p.1.line==pos.line&&p.1.col==pos.col)=true->p.2=X.env.qual ++ "<lambda>")(hcode:X.env.code = .ref c)(C:PySem.W.CodeHd X.base c Pt)(hcl:closureFor scope X.env=pure clos)(hdef:defaultsOf params X.env=([],[]))(h:∀ (f c':Addr) (oc:Obj) (vs:Array Value) (tq:Tok) (ctv:Value) (H':Hp) (h':Heap) (tk:Tok),Inv X pins σ H' { s with heap:=h',toks:=tk }->(∀ b o,H b=some o->H' b=some o)->(∀ b,H b=none->H' b≠none->s.heap.get? b=none) -> H' f=some (.frz (PySem.W.kla_obj "<lambda>" (X.env.qual ++ "<lambda>") params body scope clos ((X.mg "__name__").getD .none) c' ctv) (.own Pt))->H' c'=some (.frz oc (.own Pt))->oc.data = .fields vs->vs[1]?=some (.str (X.env.qual ++ "<lambda>") tq)->Q (.ref f) { s with heap:=h',toks:=tk }):wpAny (model X.prog X.w) X.A (eval (.Lambda params body scope pos) X.env) Q E s:=by
 have hT:H Pt=some (.tbl ps wt):=I.base.tbls _ _ _ (I.ok.tbs _ hP);obtain ⟨more,eP,tri,wk⟩:=I.hok Pt _ hT;obtain ⟨bm,ob,b1,b2,b3,b4,b5,b6⟩:=I.mod.bmn;have hgs:=(I.mod.glob).keeps I.bk;have hgP:mainGlobals≠Pt:=λz=>by
  obtain ⟨o,_,_,e,_⟩:=I.mod.glob;have:=(I.bs _ _ e).2;rw [z,hT] at this;cases this
 have hbP:bm≠Pt:=λz=>by
  have:=(I.bs _ _ b3).2;rw [z,hT] at this;cases this
 have hbG:bm≠mainGlobals:=λz=>by
  obtain ⟨o,es,ep,e,hd,_⟩:=I.mod.glob;rw [z,e] at b3;cases b3;rw [hd] at b6;cases b6
 have hB:s.heap.BuiltinsAt X.mg Pt:=⟨bm,ob,b1,b2,hbG,hbP,I.bk _ _ b3,b4,b5,b6⟩;refine PySem.W.kla_eval hdef ?_;rcases wk _ hw with hn|⟨cc,o1,vs1,t1,hf,oc,e2,e3⟩
 ·refine PySem.W.kla_makeFunction (mg:=X.mg) hcl I.ok.glob hgs hcode (C.keeps I.bk) eP tri hn hgP hB λc' ctv h' tk hx hge hlt hrec htb=>?_;obtain ⟨c2,oc,vs,tq,z1,z2,z3,z4⟩:=hrec;cases z1;have nc:H c'=none:=I.hok.fresh hge;have un:Un X.fs [] H (j4 H c' (.frz oc (.own Pt))) s.heap h':=by
   refine ⟨λb o e n _ _=>hx b o (λz=>by rw [z,hT] at n;cases n) e,λb o e n _ _=>⟨o.slots,hx b o (λz=>by rw [z,hT] at n;cases n) e⟩,λb o e n _=>?_,λb o e _=>?_,λb xs e=>?_,λb o u e=>?_,λb q r e=>?_⟩
   ·rw [z5 (yH (yz (yO e) hge))];exact n
   ·by_cases hb:b=Pt
    ·exact ⟨_,hb▸htb⟩
    ·exact ⟨o,hx b o hb e⟩
   ·rw [z5 (u6 e nc)];exact e
   ·rw [z5 (u6 e nc)];exact e
   ·rw [z5 (u6 e nc)];exact e
  have hok:HOk X.prog X.w (j4 H c' (.frz oc (.own Pt))) h':=λb u e=>by
   by_cases hb:b=c'
   ·subst hb;rw [y9] at e;cases e;exact ⟨z2,oc,z2⟩
   ·rw [z5 hb] at e;by_cases hb2:b=Pt
    ·rw [hb2] at e ⊢;rw [hT] at e;cases e;have ea:ps++(more++#[rawInt pos.line,rawInt pos.col,.ref c'])=ps++more++#[rawInt pos.line,rawInt pos.col,.ref c']:=(Array.append_assoc).symm;have el:(ps++more++#[rawInt pos.line,rawInt pos.col,.ref c']).toList=(ps++more).toList++[rawInt pos.line,rawInt pos.col,.ref c']:=Array.toList_append;refine ⟨more++#[rawInt pos.line,rawInt pos.col,.ref c'],by rw [ea];exact htb,by rw [ea,el];exact SD tri,λp hp=>?_⟩;rw [ea,el];rcases wk p hp with z|⟨d,o2,vs2,t2,z,od,z2⟩
     ·have am:=CO (pos:=p.1) (i:=pos.line) (j:=pos.col) (t:=0) (u:=0) (d:= .ref c') tri z;by_cases hm:(((pos.line:Int)==p.1.line&&(pos.col:Int)==p.1.col)=true)
      ·rw [if_pos hm] at am;have hq:p.2=X.env.qual ++ "<lambda>":=hu p hp (by
        simp only [yf,beq_iff_eq] at hm ⊢;omega)
       exact .inr ⟨c',oc,vs,tq,am,y9,z3,by rw [hq];exact z4⟩
      ·rw [if_neg hm] at am;exact .inl am
     ·exact .inr ⟨d,o2,vs2,t2,CP z,by rw [z5 (u6 od nc)];exact od,z2⟩
    ·refine (I.hok b u e).stay (λd v hd q=>hx d v ?_ q) (λd q=>by rw [z5 (u6 q nc)];exact q) (λd xs q=>by rw [z5 (u6 q nc)];exact q) λd _ xs q=>by rw [z5 (u6 q nc)];exact q
     rcases hd with z|z
     ·rw [z];exact hb2
     ·intro q;rw [q,hT] at z;cases z
  have I':=I.un (t':=tk) un hok;have ncf:c'≠h'.objs.size:=yH hlt;have sz:s.heap.objs.size<=h'.objs.size:=yg hge (uS hlt);have nf:j4 H c' (.frz oc (.own Pt)) h'.objs.size=none:=by rw [z5 (Ne.symm ncf)];exact I.hok.fresh sz
  have kp:∀ b o,h'.get? b=some o->(h'.push (PySem.W.kla_obj "<lambda>" (X.env.qual ++ "<lambda>") params body scope clos ((X.mg "__name__").getD .none) c' ctv)).get? b=some o:=λb o e=>yV _ e;have J:=I'.un (t':=tk) (Un.kept kp) (I'.hok.kept kp);have f1:=yD (h:=h') (o:=PySem.W.kla_obj "<lambda>" (X.env.qual ++ "<lambda>") params body scope clos ((X.mg "__name__").getD .none) c' ctv) rfl;refine h _ c' oc vs tq ctv _ _ tk (Inv.trackN (o:= .frz (PySem.W.kla_obj "<lambda>" (X.env.qual ++ "<lambda>") params body scope clos ((X.mg "__name__").getD .none) c' ctv) (.own Pt)) I' nf J ⟨f1,_,f1⟩) (λb o e=>?_) (λb n n'=>?_) y9 (by rw [z5 ncf];exact y9) z3 z4
  ·have n1:b≠c':=u6 e nc;have e':j4 H c' (.frz oc (.own Pt)) b=some o:=by rw [z5 n1];exact e
   rw [z5 (u6 e' nf)];exact e'
  ·by_cases hb:b=h'.objs.size
   ·rw [hb];exact uk sz
   ·rw [z5 hb] at n';by_cases hb2:b=c'
    ·rw [hb2];exact uk hge
    ·rw [z5 hb2] at n';exact absurd n n'
 ·refine PySem.W.kla_makeFunctionHit (mg:=X.mg) hcl I.ok.glob hgs hcode (C.keeps I.bk) eP tri hf hB λctv h' tk hk hsz=>?_;have I':=I.un (t':=tk) (Un.kept hk) (I.hok.kept hk);have kp:∀ b o,h'.get? b=some o->(h'.push (PySem.W.kla_obj "<lambda>" (X.env.qual ++ "<lambda>") params body scope clos ((X.mg "__name__").getD .none) cc ctv)).get? b=some o:=λb o e=>yV _ e;have nf:H h'.objs.size=none:=I.hok.fresh hsz;have J:=I'.un (t':=tk) (Un.kept kp) (I'.hok.kept kp);have f1:=yD (h:=h') (o:=PySem.W.kla_obj "<lambda>" (X.env.qual ++ "<lambda>") params body scope clos ((X.mg "__name__").getD .none) cc ctv) rfl;refine h _ cc o1 vs1 t1 ctv _ _ tk (Inv.trackN (o:= .frz (PySem.W.kla_obj "<lambda>" (X.env.qual ++ "<lambda>") params body scope clos ((X.mg "__name__").getD .none) cc ctv) (.own Pt)) I' nf J ⟨f1,_,f1⟩) (λb o e=>by rw [z5 (u6 e nf)];exact e) (λb n n'=>?_) y9 (by rw [z5 (u6 oc nf)];exact oc) e2 e3;by_cases hb:b=h'.objs.size
  ·rw [hb];exact uk hsz
  ·rw [z5 hb] at n';exact absurd n n'
end
def XL (P:Program)(w:World)(K:Fg)(mg:Str->Option Value)(base:Heap)(N:List Str)(qual:Str)(scope:Scope)(f c':Addr)(clos:List (Str×Addr))(A:Around)(outer:List Env)(s:Shared)(H:Hp):Cx where
 prog:=P
 w:=w
 K:=K
 mg:=mg
 base:=base
 A:=A.deeper (PySem.W.envX qual scope s.heap.objs.size f (.ref c') clos)
 N:=N
 s₀:=s
 H₀:=H
 env:=PySem.W.envX qual scope s.heap.objs.size f (.ref c') clos
 outer:=outer
 stack:=PySem.W.envX qual scope s.heap.objs.size f (.ref c') clos::outer
 ex:=[]
 calm:=true
 fn:=λ_=>false
 pn:=[]
 xe:=λ_ _=>False
structure YJ (ps fr:List Str)(scope:Scope):Prop where
 co:scope.isCoroutine=false
 gen:scope.isGenerator=false
 kind:scope.kind = .function
 nocell:∀ x∈scope.names,x.2 ≠ .cell
 par:∀ x∈ps,scope.names.lookup x=some .local
 fre:∀ x,scope.names.lookup x=some .free->x∈fr
 nd:ps.Nodup
theorem CJ:∀{ps:List Str}{us:List Value}{i:Nat}{x:Str}{u:Value},ps.Nodup->ps[i]?=some x->us[i]?=some u->(ps.zip us).reverse.lookup x=some u
 |[],_,i,x,u,_,h,_=>by simp at h
 |_::_,[],i,x,u,_,_,h=>by simp at h
 |p::ps,v::us,0,x,u,nd,h1,h2=>by
  simp at h1 h2;subst h1;subst h2;rw [List.zip_cons_cons,List.reverse_cons,List.lookup_append];have n:(ps.zip us).reverse.lookup p=none:=by rw [List.lookup_eq_none_iff];intro q hq;have hq':=List.mem_reverse.mp hq;obtain ⟨a,b⟩:=q;have:=(uq hq').1;simp only [bne_iff_ne,ne_eq,beq_eq_false_iff_ne];intro e;subst e;exact (yu.mp nd).1 this
  rw [n];simp
 |p::ps,v::us,i+1,x,u,nd,h1,h2=>by
  rw [List.zip_cons_cons,List.reverse_cons,List.lookup_append,CJ (i:=i) (yu.mp nd).2 (by simpa using h1) (by simpa using h2)];rfl
section
variable {P:Program}{w:World}{K:Fg}{mg:Str->Option Value}{base:Heap}{A:Around}{outer:List Env}{s:Shared}{H:Hp}{f c':Addr}{pm ctv:Value}{params:Arguments}{body:Expr}{scope:Scope}{qual:Str}{clos:List (Str×Addr)}{ps fr:List Str}
 {us:List Value} {vs cv:List V} {t:TE} {Q:VK} {E:XK}
theorem LG (S:YJ ps fr scope)(hdp:A.depth<recursionLimit)(hhd:A.handled=none)(e0:Env0 P w K mg base A outer s H)(hf:s.heap.get? f=some (PySem.W.kla_obj "<lambda>" qual params body scope clos pm c' ctv))(hcd:s.heap.CodeRec (.ref c') qual)(hbind:bindArgs (PySem.W.kla_fn "<lambda>" qual params body scope clos pm (.ref c') ctv) ⟨us,[]⟩=pure (ps.zip us))(hl:vs.length=ps.length)(r:Vals vs us)(inj:∀ x y c,clos.lookup x=some c->clos.lookup y=some c->x=y)(hc:∀ x c,clos.lookup x=some c->(∃ v,s.heap.IsCell c v)/\H c=none)(hlc:cv.length=fr.length)(hcv:∀ (i:Nat) (x:Str) (v:V),fr[i]?=some x->cv[i]?=some v->scope.names.lookup x=some .free/\∃ c u,clos.lookup x=some c/\s.heap.IsCell c (some u)/\RelV v u)(hb:PE (XL P w K mg base (ps++fr) qual scope f c' clos A outer s H) body t)(hq:t ((vs++cv).map some) H Q):codeAny (model P w) A (.call (.ref f) ⟨us,[]⟩) (CR v7 outer P w H s Q E) s:=by
 have lim:s.heap.NoLimit:=e0.mod.nolimit.keeps λb o e=>(e0.bs b o e).1;refine PySem.W.kla_callFunE hdp hf rfl S.co S.gen rfl hcd ?_;rw [hbind];refine yC (wpAny_newFunctionEnv S.nocell (λy hy=>S.par _ (uq (show (y.1,y.2)∈ps.zip us from hy)).1) (λh₁ hns hsb=>⟨lim.fresh _ hsb,?_⟩) S.kind);show codeAny _ _ (.expr body (PySem.W.envX qual scope s.heap.objs.size f (.ref c') clos)) _ _;have hk₁:∀ b o,s.heap.get? b=some o->h₁.get? b=some o:=λb o e=>hsb.extBut b o (yH (yO e)) (yV _ e);have noA:∀ b:Addr,b∉(XL P w K mg base (ps++fr) qual scope f c' clos A outer s H).ex:=λb z=>absurd (show b∈([]:List Addr) from z) (by simp);have cellK:∀{c:Addr}{v:Option Value},s.heap.IsCell c v->h₁.IsCell c v:=λ{c v} ⟨o,e,d⟩=>⟨o,hk₁ _ _ e,d⟩;have I:Inv (XL P w K mg base (ps++fr) qual scope f c' clos A outer s H) [] ((vs++cv).map some) H { s with heap:=h₁,toks:=s.toks+(ps.zip us).length }:=by
  refine ⟨⟨e0.mod,S.kind,rfl,rfl,yU _,inj,λx hx=>?_,λx c z=>absurd (show false=true from z) (by decide),λ_=>hhd,Around.frames_deeper e0.frames,.inr ⟨rfl,rfl⟩,λb z=>absurd z (noA b),e0.bs,e0.bsz,λb _ _=>noA b,λb z=>absurd z (noA b),e0.funs,e0.frf,e0.tbs⟩,
   rfl,e0.bare,Un.kept hk₁,⟨_,hns,λi x v h1 h2 h3=>?_⟩,λx c e=>?_,e0.hok.fresh (yU _),λx c e=>(hc x c e).2,λp hp=>absurd (show p∈([]:List (Addr×Obj)) from hp) (by simp),e0.hok.kept hk₁,?_⟩
  ·have hx:scope.names.lookup x=some .cell∨scope.names.lookup x=some .free:=hx;rcases hx with z|z
   ·exact absurd rfl (S.nocell _ (PySem.mem_of_lookup z))
   ·obtain ⟨i,hi,e⟩:=uK (S.fre x z);have hic:i<cv.length:=by omega
    obtain ⟨_,c,u,e1,_⟩:=hcv i x cv[i] (by rw [yY hi,e]) (yY hic);exact ⟨c,e1⟩
  ·have h1':(ps++fr)[i]?=some x:=h1;rw [yP] at h2;obtain ⟨v',e1,e2⟩:=yJ.mp h2;cases e2;by_cases hi:i<ps.length
   ·rw [uY hi] at h1';rw [uY (by omega)] at e1;obtain ⟨u,hu,rv⟩:=r.get e1;exact ⟨u,rv,.inl ⟨S.par x (yA h1'),CJ S.nd h1' hu⟩⟩
   ·rw [uW (by omega)] at h1';rw [uW (by omega),hl] at e1;obtain ⟨k,c,u,a1,a2,a3⟩:=hcv _ x _ h1' e1;exact ⟨u,a3,.inr ⟨.inr k,c,a1,cellK a2⟩⟩
  ·obtain ⟨⟨v,z⟩,_⟩:=hc x c e;exact ⟨v,cellK z⟩
  ·show ((vs++cv).map some).length=(ps++fr).length;rw [yZ,yQ,yQ,hl,hlc]
 refine PySem.W.kla_codeExpr (wpAny_mono (hb [] _ _ H Q I hq) (λu s' z=>?_) λe s' z=>z.elim);obtain ⟨v,H',J,rv,q⟩:=z;exact ⟨v,H',J.os,J.bare,J.base,J.hok,rv,q⟩
end
end L2
namespace Ka
open PySem.W PyProof.Rows
variable{a b j n nrem:Nat}{p:Array Nat}
def ev {α:Type}(ans:Nat->Nat->Bool):KasT α->α
 | .ret a=>a
 | .ask i j k=>ev ans (k (ans i j))
theorem wu {α β:Type}{ans:Nat->Nat->Bool}{f:α->KasT β}:∀ t:KasT α,ev ans (t.bind f)=ev ans (f (ev ans t))
 | .ret _=>rfl
 | .ask i j k=>wu (k (ans i j))
structure Ord (lt:Nat->Nat->Bool):Prop where
 irr:∀ a,lt a a=false
 tr:∀ a b c,lt a b=true->lt b c=true->lt a c=true
 neg:∀ a b c,lt a c=true->lt a b=true∨lt b c=true
section
variable {lt:Nat->Nat->Bool}(O:Ord lt)
def le (lt:Nat->Nat->Bool)(a b:Nat):Prop:=lt b a=false
include O in
theorem le_refl (a:Nat):le lt a a:=O.irr a
include O in
theorem le_trans {c:Nat}(h:le lt a b)(k:le lt b c):le lt a c:=by
 unfold le at *
 cases e:lt c a with
 |false=>rfl
 |true =>
  rcases O.neg c b a e with z|z
  ·rw [k] at z;cases z
  ·rw [h] at z;cases z
include O in
theorem le_of_lt (h:lt a b=true):le lt a b:=by
 unfold le;cases e:lt b a with
 |false=>rfl
 |true=>have:=O.tr a b a h e;rw [O.irr] at this;cases this
def g (p:Array Nat)(i:Nat):Nat:=p.getD i 0
theorem QA {q:Array Nat}{i:Nat}(h:p[i]?=q[j]?):g p i=g q j:=by unfold g;rw [Array.getD_eq_getD_getElem?,Array.getD_eq_getD_getElem?,h]
def Up (lt:Nat->Nat->Bool)(p:Array Nat)(k:Nat):Prop:=∀ i j,i<=j->j<k->le lt (g p i) (g p j)
def zM (lt:Nat->Nat->Bool)(p:Array Nat)(k:Nat):Prop:=∀ i j,i<=j->j<k->le lt (g p j) (g p i)
def Eqs (lt:Nat->Nat->Bool)(p:Array Nat)(a b:Nat):Prop:=∀ i j,a<=i->i<b->a<=j->j<b->le lt (g p i) (g p j)
include O in
theorem Ic (p:Array Nat):Up lt p 1:=λi j h k=>by
 have:i=j:=by omega
 subst this;exact le_refl O _
include O in
theorem Ib (h1:1<=n)(h:Up lt p n)(k:le lt (g p (n-1)) (g p n)):Up lt p (n+1):=λi j hij hj=>by
 by_cases e:j=n
 ·subst e;by_cases e2:i=j
  ·subst e2;exact le_refl O _
  ·exact le_trans O (h i (j-1) (by omega) (by omega)) k
 ·exact h i j hij (by omega)
include O in
theorem XR (h1:1<=n)(h:zM lt p n)(k:le lt (g p n) (g p (n-1))):zM lt p (n+1):=λi j hij hj=>by
 by_cases e:j=n
 ·subst e;by_cases e2:i=j
  ·subst e2;exact le_refl O _
  ·exact le_trans O k (h i (j-1) (by omega) (by omega))
 ·exact h i j hij (by omega)
theorem QB {i:Nat}(hj:j<=p.size)(k:Nat):g (kas_rev p i j) k=if i<=k/\k<j then g p (i+j-1-k) else g p k:=by
 have e:=getElem?_mirror_all (xs:=p) (i:=i) hj k;unfold kas_rev;split
 ·rename_i h;rw [if_pos h] at e;exact QA e
 ·rename_i h;rw [if_neg h] at e;exact QA e
theorem vM {i:Nat}:(kas_rev p i j).size=p.size:=mirror_size _ _ _ _
theorem rev_perm {i:Nat}:(kas_rev p i j).Perm p:=mirror_perm _ _ _ _
include O in
theorem ZZ {p:Array Nat}:∀(f n:Nat),1<=n->Up lt p n -> n<=ev lt (kas_asc p f n)/\ev lt (kas_asc p f n)<=n+f/\Up lt p (ev lt (kas_asc p f n))/\(ev lt (kas_asc p f n)=n+f∨lt (g p (ev lt (kas_asc p f n))) (g p (ev lt (kas_asc p f n)-1))=true)
 |0,n,_,h=>⟨yU _,yU _,h,.inl rfl⟩
 |f+1,n,h1,h=>by
  have e:ev lt (kas_asc p (f+1) n)=ev lt (if lt (g p n) (g p (n-1))=true then KasT.ret n else kas_asc p f (n+1)):=rfl;cases c:lt (g p n) (g p (n-1)) with
  |true=>rw [c,if_pos rfl] at e;rw [e];exact ⟨yU _,by show n<=_;omega,h,.inr c⟩
  |false=>rw [c,if_neg (by simp)] at e;rw [e];obtain ⟨a1,a2,a3,a4⟩:=ZZ f (n+1) (by omega) (Ib O h1 h c);exact ⟨by omega,by omega,a3,by rcases a4 with z|z;exact .inl (by omega);exact .inr z⟩
include O in
theorem Jp (ha:a<=n)(hn:n<=p.size)(h:zM lt p n)(q:Eqs lt p a n):zM lt (kas_rev p a n) n/\∀ i,i<n->le lt (g p (n-1)) (g (kas_rev p a n) i):=by
 have eqv:∀ i,i<n->le lt (g (kas_rev p a n) i) (g p i)/\le lt (g p i) (g (kas_rev p a n) i):=λi hi=>by
  rw [QB hn];split
  ·rename_i z;exact ⟨q _ _ (by omega) (by omega) (by omega) (by omega),q _ _ (by omega) (by omega) (by omega) (by omega)⟩
  ·exact ⟨le_refl O _,le_refl O _⟩
 refine ⟨λi j hij hj=>?_,λi hi=>?_⟩
 ·exact le_trans O (le_trans O (eqv j hj).1 (h i j hij hj)) (eqv i (by omega)).2
 ·exact le_trans O (h i (n-1) (by omega) (by omega)) (eqv i hi).2
include O in
theorem XQ:∀(f:Nat)(p:Array Nat)(n q:Nat),q+1<=n->n+f<=p.size->zM lt p n->Eqs lt p (n-(q+1)) n -> ∃ p' n' q',ev lt (kas_desc f p n q)=(p',n',q')/\p'.Perm p/\p'.size=p.size/\n<=n'/\n'<=n+f/\zM lt p' n'/\q'+1<=n'/\Eqs lt p' (n'-(q'+1)) n'
 |0,p,n,q,hq,_,h,e=>⟨p,n,q,rfl,.refl _,rfl,yU _,yU _,h,hq,e⟩
 |f+1,p,n,q,hq,hs,h,he=>by
  have ee:ev lt (kas_desc (f+1) p n q)=ev lt (if lt (g p n) (g p (n-1))=true then (if q > 0 then kas_desc f (kas_rev p (n-(q+1)) n) (n+1) 0 else kas_desc f p (n+1) 0) else KasT.ask (g p (n-1)) (g p n) λd=>if d=true then .ret (p,n,q) else kas_desc f p (n+1) (q+1)):=rfl;cases c:lt (g p n) (g p (n-1)) with
  |true =>
   rw [c,if_pos rfl] at ee;by_cases hq0:q > 0
   ·rw [if_pos hq0] at ee;obtain ⟨d1,d2⟩:=Jp O (a:=n-(q+1)) (by omega) (by omega) h he;have gn:g (kas_rev p (n-(q+1)) n) n=g p n:=by rw [QB (by omega),if_neg (by omega)]
    have dn:zM lt (kas_rev p (n-(q+1)) n) (n+1):=XR O (by omega) d1 (by rw [gn];exact le_trans O (le_of_lt O c) (d2 (n-1) (by omega)));obtain ⟨p',n',q',a1,a2,a3,a4,a5,a6⟩:=XQ f (kas_rev p (n-(q+1)) n) (n+1) 0 (by omega) (by rw [vM];omega) dn (λi j i1 i2 j1 j2=>(show i=j by omega)▸le_refl O _);exact ⟨p',n',q',ee.trans a1,a2.trans rev_perm,a3.trans vM,by omega,by omega,a6⟩
   ·rw [if_neg hq0] at ee;obtain ⟨p',n',q',a1,a2,a3,a4,a5,a6⟩:=XQ f p (n+1) 0 (by omega) (by omega) (XR O (by omega) h (le_of_lt O c)) (λi j i1 i2 j1 j2=>(show i=j by omega)▸le_refl O _);exact ⟨p',n',q',ee.trans a1,a2,a3,by omega,by omega,a6⟩
  |false =>
   rw [c,if_neg (by simp)] at ee;have e2:ev lt (kas_desc (f+1) p n q)=ev lt (if lt (g p (n-1)) (g p n)=true then KasT.ret (p,n,q) else kas_desc f p (n+1) (q+1)):=ee;cases d:lt (g p (n-1)) (g p n) with
   |true=>rw [d,if_pos rfl] at e2;exact ⟨p,n,q,e2,.refl _,rfl,yU _,by omega,h,hq,he⟩
   |false =>
    rw [d,if_neg (by simp)] at e2;have dn:=XR O (by omega) h (show le lt (g p n) (g p (n-1)) from d);obtain ⟨p',n',q',a1,a2,a3,a4,a5,a6⟩:=XQ f p (n+1) (q+1) (by omega) (by omega) dn (λi j i1 i2 j1 j2=>by
     have lo:∀ k,n-(q+1)<=k->k<n+1->le lt (g p k) (g p (n-1))/\le lt (g p (n-1)) (g p k):=λk k1 k2=>by
      by_cases hk:k=n
      ·subst hk;exact ⟨d,c⟩
      ·exact ⟨he _ _ (by omega) (by omega) (by omega) (by omega),he _ _ (by omega) (by omega) (by omega) (by omega)⟩
     exact le_trans O (lo i (by omega) i2).1 (lo j (by omega) j2).2)
    exact ⟨p',n',q',e2.trans a1,a2,a3,by omega,by omega,a6⟩
include O in
theorem Cb (h1:1<=n)(hn:n<=nrem)(hs:nrem<=p.size)(h:zM lt p n):∃ m p',ev lt (kas_tail3 n nrem p)=(m,p')/\p'.Perm p/\p'.size=p.size/\1<=m/\m<=nrem/\Up lt p' m:=by
 unfold kas_tail3;rw [wu];have up:Up lt (kas_rev p 0 n) n:=λi j hij hj=>by
  rw [QB (by omega),QB (by omega),if_pos (by omega),if_pos (by omega)];exact h _ _ (by omega) (by omega)
 obtain ⟨a1,a2,a3,_⟩:=ZZ O (nrem-n) n h1 up;exact ⟨_,_,rfl,rev_perm,vM,by omega,by omega,a3⟩
include O in
theorem GJ (hn:n+1<=nrem)(hs:nrem<=p.size)(h:zM lt p (n+1)):∃ m p',ev lt (kas_descPart n nrem p)=(m,p')/\p'.Perm p/\p'.size=p.size/\1<=m/\m<=nrem/\Up lt p' m:=by
 unfold kas_descPart;rw [wu];obtain ⟨p',n',q',a1,a2,a3,a4,a5,a6,a7,a8⟩:=XQ O (nrem-(n+1)) p (n+1) 0 (by omega) (by omega) h (λi j i1 i2 j1 j2=>(show i=j by omega)▸le_refl O _);rw [a1]
 dsimp only
 split
 ·obtain ⟨d1,_⟩:=Jp O (a:=n'-(q'+1)) (by omega) (by omega) a6 a8;obtain ⟨m,p2,b1,b2,b3,b4⟩:=Cb O (nrem:=nrem) (by omega) (by omega) (by rw [vM];omega) d1;exact ⟨m,p2,b1,b2.trans (rev_perm.trans a2),by rw [b3,vM,a3],b4⟩
 ·obtain ⟨m,p2,b1,b2,b3,b4⟩:=Cb O (nrem:=nrem) (by omega) (by omega) (by omega) a6;exact ⟨m,p2,b1,b2.trans a2,by rw [b3,a3],b4⟩
include O in
theorem DN (h0:1<=nrem)(hs:nrem<=p.size):∃ m p',ev lt (kas_count nrem p)=(m,p')/\p'.Perm p/\p'.size=p.size/\1<=m/\m<=nrem/\Up lt p' m:=by
 unfold kas_count;rw [wu];obtain ⟨a1,a2,a3,a4⟩:=ZZ O (p:=p) (nrem-1) 1 (yU _) (Ic O p);generalize hm:ev lt (kas_asc p (nrem-1) 1)=m at a1 a2 a3 a4 ⊢;by_cases e1:(m==nrem)=true
 ·rw [if_pos e1];exact ⟨m,p,rfl,.refl _,rfl,a1,by omega,a3⟩
 ·rw [if_neg e1];have ne:m≠nrem:=λz=>e1 (by rw [z];exact beq_self_eq_true _);have c:lt (g p m) (g p (m-1))=true:=by
   rcases a4 with z|z
   ·omega
   ·exact z
  by_cases e2:m > 1
  ·rw [if_pos e2];have ee:ev lt (KasT.ask (p.getD 0 0) (p.getD (m-1) 0) λc=>if c=true then KasT.ret (m,p) else kas_descPart m nrem (kas_rev p 0 m))=ev lt (if lt (g p 0) (g p (m-1))=true then KasT.ret (m,p) else kas_descPart m nrem (kas_rev p 0 m)):=rfl;rw [ee];cases d:lt (g p 0) (g p (m-1)) with
   |true=>rw [if_pos rfl];exact ⟨m,p,rfl,.refl _,rfl,a1,by omega,a3⟩
   |false =>
    rw [if_neg (by simp)];have all:Eqs lt p 0 m:=λi j _ i2 _ j2=>le_trans O (le_trans O (a3 i (m-1) (by omega) (by omega)) (show le lt (g p (m-1)) (g p 0) from d)) (a3 0 j (by omega) j2);obtain ⟨d1,d2⟩:=Jp O (a:=0) (by omega) (by omega) (λi j hij hj=>all _ _ (by omega) (by omega) (by omega) (by omega)) all;have gm:g (kas_rev p 0 m) m=g p m:=by rw [QB (by omega),if_neg (by omega)]
    have dn:zM lt (kas_rev p 0 m) (m+1):=XR O (by omega) d1 (by rw [gm];exact le_trans O (le_of_lt O c) (d2 (m-1) (by omega)));obtain ⟨m2,p2,b1,b2,b3,b4⟩:=GJ O (nrem:=nrem) (by omega) (by rw [vM];omega) dn;exact ⟨m2,p2,b1,b2.trans rev_perm,by rw [b3,vM],b4⟩
  ·rw [if_neg e2];have e3:m=1:=by omega
   subst e3;exact GJ O (by omega) hs (λi j hij hj=>by
    by_cases z:i=j
    ·subst z;exact le_refl O _
    ·have z1:i=0:=by omega
     have z2:j=1:=by omega
     subst z1 z2;exact le_of_lt O c)
include O in
theorem VA {p:Array Nat}{k:Nat}(up:Up lt p k):∀(f l r:Nat),r-l<=f->l<=r->r<=k->(∀ i,i<l->le lt (g p i) (g p k))->(∀ i,r<=i->i<k->le lt (g p k) (g p i)) -> ev lt (kas_place p k f l r)<=k/\(∀ i,i<ev lt (kas_place p k f l r)->le lt (g p i) (g p k))/\∀ i,ev lt (kas_place p k f l r)<=i->i<k->le lt (g p k) (g p i)
 |0,l,r,hf,hl,hr,h1,h2=>by
  have e:l=r:=by omega
  subst e;exact ⟨hr,h1,h2⟩
 |f+1,l,r,hf,hl,hr,h1,h2=>by
  have e:ev lt (kas_place p k (f+1) l r)=ev lt (if l >= r then KasT.ret l else KasT.ask (p.getD k 0) (p.getD ((l+r) / 2) 0) λc=>if c=true then kas_place p k f l ((l+r) / 2) else kas_place p k f ((l+r) / 2+1) r):=rfl;by_cases c:l >= r
  ·rw [if_pos c] at e;have e':l=r:=by omega
   subst e';rw [e];exact ⟨hr,h1,h2⟩
  ·rw [if_neg c] at e;have e2:ev lt (kas_place p k (f+1) l r)=ev lt (if lt (g p k) (g p ((l+r) / 2))=true then kas_place p k f l ((l+r) / 2) else kas_place p k f ((l+r) / 2+1) r):=e;cases d:lt (g p k) (g p ((l+r) / 2)) with
   |true=>rw [d,if_pos rfl] at e2;rw [e2];exact VA up f l ((l+r) / 2) (by omega) (by omega) (by omega) h1 λi i1 i2=>le_trans O (le_of_lt O d) (up _ _ i1 i2)
   |false=>rw [d,if_neg (by simp)] at e2;rw [e2];exact VA up f ((l+r) / 2+1) r (by omega) (by omega) hr (λi hi=>le_trans O (up i ((l+r) / 2) (by omega) (by omega)) d) h2
include O in
theorem Gc:∀(f:Nat)(p:Array Nat)(k:Nat),k+f<=p.size->Up lt p k->∃ p',ev lt (kas_bin f p k)=p'/\p'.Perm p/\p'.size=p.size/\Up lt p' (k+f)
 |0,p,k,_,h=>⟨p,rfl,.refl _,rfl,h⟩
 |f+1,p,k,hs,h=>by
  have e:ev lt (kas_bin (f+1) p k)=ev lt ((kas_place p k k 0 k).bind λl=>kas_bin f (bubble p k (k-l)) (k+1)):=rfl;rw [wu] at e;obtain ⟨a1,a2,a3⟩:=VA O h k 0 k (by omega) (by omega) (yU _) (λi hi=>absurd hi (by omega)) λi i1 i2=>absurd i1 (by omega);generalize ev lt (kas_place p k k 0 k)=l at e a1 a2 a3;have gb:∀ i,g (bubble p k (k-l)) i=if i=l then g p k else if l<i/\i<=k then g p (i-1) else g p i:=λi=>by
   have z:=getElem?_bubble (xs:=p) (src:=k) (by omega) (k-l) (by omega) i;have el:k-(k-l)=l:=by omega
   rw [el] at z;split
   ·rename_i q;rw [if_pos q] at z;exact QA z
   ·rename_i q;rw [if_neg q] at z;split
    ·rename_i q2;rw [if_pos q2] at z;exact QA z
    ·rename_i q2;rw [if_neg q2] at z;exact QA z
  have up:Up lt (bubble p k (k-l)) (k+1):=λi j hij hj=>by
   by_cases e0:i=j
   ·subst e0;exact le_refl O _
   rw [gb,gb];by_cases i1:i=l
   ·rw [if_pos i1,if_neg (by omega),if_pos (by omega)];exact a3 _ (by omega) (by omega)
   ·rw [if_neg i1];by_cases j1:j=l
    ·rw [if_neg (by omega),if_pos j1];exact a2 _ (by omega)
    ·rw [if_neg j1];by_cases i2:l<i/\i<=k
     ·rw [if_pos i2,if_pos (by omega)];exact h _ _ (by omega) (by omega)
     ·rw [if_neg i2];by_cases j2:l<j/\j<=k
      ·rw [if_pos j2];exact h _ _ (by omega) (by omega)
      ·rw [if_neg j2];exact h _ _ (by omega) (by omega)
  obtain ⟨p',b1,b2,b3,b4⟩:=Gc f (bubble p k (k-l)) (k+1) (by rw [bubble_size];omega) up;exact ⟨p',e.trans b1,b2.trans (bubble_perm _ _ _),by rw [b3,bubble_size],by rw [show k+1+f=k+(f+1) by omega] at b4;exact b4⟩
include O in
theorem Sq (h:1<=n):∃ p,ev lt (kas_sort n)=p/\p.Perm (List.toArray (List.range n))/\p.size=n/\Up lt p n:=by
 unfold kas_sort;rw [wu];obtain ⟨m,p,a1,a2,a3,a4,a5,a6⟩:=DN O (p:=List.toArray (List.range n)) (nrem:=n) h (by simp);have hp:p.size=n:=by rw [a3];simp
 rw [a1]
 dsimp only
 split
 ·have mx:max m 1=m:=by omega
  rw [mx];obtain ⟨p',b1,b2,b3,b4⟩:=Gc O (n-m) p m (by omega) a6;exact ⟨p',b1,b2.trans a2,by omega,by rw [show m+(n-m)=n by omega] at b4;exact b4⟩
 ·have e:m=n:=by omega
  subst e;exact ⟨p,rfl,a2,hp,a6⟩
end
end Ka
namespace Ka
open PySem PySem.W PyProof.Rows
variable{m n r:Nat}{p:Array Nat}
def Bd {α:Type}(n:Nat):KasT α->Prop
 | .ret _=>True
 | .ask i j k=>i<n/\j<n/\∀ b,Bd n (k b)
def BdP {α:Type}(n:Nat)(R:α->Prop):KasT α->Prop
 | .ret a=>R a
 | .ask i j k=>i<n/\j<n/\∀ b,BdP n R (k b)
theorem wg {α β:Type}{n:Nat}{R:α->Prop}{S:β->Prop}{f:α->KasT β}:∀{t:KasT α},BdP n R t->(∀ a,R a->BdP n S (f a))->BdP n S (t.bind f)
 | .ret a,h,k=>k a h
 | .ask _ _ _,⟨a,b,c⟩,k=>⟨a,b,λx=>wg (c x) k⟩
def Lo (n:Nat)(p:Array Nat):Prop:=1<=n/\∀ x∈p.toList,x<n
theorem Lo.g (h:Lo n p)(i:Nat):p.getD i 0<n:=by
 rw [Array.getD_eq_getD_getElem?];cases e:p[i]? with
 |none=>exact h.1
 |some x=>exact h.2 x (by rw [<- tU] at e;exact yA e)
theorem Lo.perm {q:Array Nat}(h:Lo n p)(k:q.Perm p):Lo n q:=⟨h.1,λx hx=>h.2 x ((Array.perm_iff_toList_perm.mp k).mem_iff.mp hx)⟩
section
variable {n:Nat}
theorem Jc {p:Array Nat}(h:Lo n p):∀ f m,BdP n (λ_=>True) (kas_asc p f m)
 |0,_=>trivial
 |f+1,m=>⟨h.g _,h.g _,λb=>by
  cases b with
  |true=>exact trivial
  |false=>exact Jc h f (m+1)⟩
theorem XE:∀(f:Nat){p:Array Nat}(m q:Nat),Lo n p->BdP n (λr=>Lo n r.1) (kas_desc f p m q)
 |0,_,_,_,h=>h
 |f+1,p,m,q,h=>⟨h.g _,h.g _,λb=>by
  cases b with
  |true =>
   show BdP n _ (if q > 0 then kas_desc f (kas_rev p (m-(q+1)) m) (m+1) 0 else kas_desc f p (m+1) 0);split
   ·exact XE f _ _ (h.perm rev_perm)
   ·exact XE f _ _ h
  |false=>exact ⟨h.g _,h.g _,λd=>by
    cases d with
    |true=>exact h
    |false=>exact XE f _ _ h⟩⟩
theorem Gb (h:Lo n p):BdP n (λq=>Lo n q.2) (kas_tail3 m r p):=wg (Jc (h.perm rev_perm) _ _) λ_ _=>h.perm rev_perm
theorem Ga (h:Lo n p):BdP n (λq=>Lo n q.2) (kas_descPart m r p):=wg (XE _ _ _ h) λa ha=>by
 split
 ·exact Gb (ha.perm rev_perm)
 ·exact Gb ha
theorem CY (h:Lo n p):BdP n (λq=>Lo n q.2) (kas_count r p):=wg (Jc h _ _) λm _=>by
 split
 ·exact h
 ·split
  ·exact ⟨h.g _,h.g _,λb=>by
    cases b with
    |true=>exact h
    |false=>exact Ga (h.perm rev_perm)⟩
  ·exact Ga h
theorem Jd {p:Array Nat}{k:Nat}(h:Lo n p):∀ f l r,BdP n (λ_=>True) (kas_place p k f l r)
 |0,_,_=>trivial
 |f+1,l,r=>by
  show BdP n _ (if l >= r then _ else _);split
  ·exact trivial
  ·exact ⟨h.g _,h.g _,λb=>by
    cases b with
    |true=>exact Jd h f _ _
    |false=>exact Jd h f _ _⟩
theorem UZ:∀(f:Nat){p:Array Nat}(k:Nat),Lo n p->BdP n (λ_=>True) (kas_bin f p k)
 |0,_,_,_=>trivial
 |f+1,p,k,h=>wg (Jd h _ _ _) λ_ _=>UZ f _ (h.perm (bubble_perm _ _ _))
theorem CZ (h:1<=n):BdP n (λ_=>True) (kas_sort n):=wg (CY ⟨h,λx hx=>by simpa using hx⟩) λr hr=>by
 split
 ·exact UZ _ _ hr
 ·exact trivial
theorem CB {α:Type}{cmp:Nat->Nat->(Bool->Shared->Prop)->Shared->Prop}{lt:Nat->Nat->Bool}{s:Shared}{R:α->Prop}{G:α->Shared->Prop}(hc:∀ i j (C:Bool->Shared->Prop),i<n->j<n->C (lt i j) s->cmp i j C s):∀{t:KasT α},BdP n R t->G (ev lt t) s->t.kasWp cmp G s
 | .ret _,_,h=>h
 | .ask i j k,⟨a,b,c⟩,h=>hc i j _ a b (CB hc (c (lt i j)) h)
end
theorem sort_wp {cmp:Nat->Nat->(Bool->Shared->Prop)->Shared->Prop}{lt:Nat->Nat->Bool}{s:Shared}{G:Array Nat->Shared->Prop}(O:Ord lt)(h:1<=n)(hc:∀ i j (C:Bool->Shared->Prop),i<n->j<n->C (lt i j) s->cmp i j C s)(hG:∀ p:Array Nat,p.Perm (List.toArray (List.range n))->p.size=n->(∀ i j,i<=j->j<n->lt (p.getD j 0) (p.getD i 0)=false)->G p s):(kas_sort n).kasWp cmp G s:=by obtain ⟨p,e,a1,a2,a3⟩:=Sq O h;refine CB hc (CZ h) ?_;rw [e];exact hG p a1 a2 λi j hij hj=>a3 i j hij hj
end Ka
namespace L2
open PySem PySem.Spec PyProof.Rows
variable{e n:Nat}{H H1:Hp}{ks:List Value}{s1:Shared}
def k8 (p q:Int×Str):Bool:=decide (p.1<q.1) || (p.1==q.1&&decide (p.2.cps.toList<q.2.cps.toList))
theorem ltK_iff {p q:Int×Str}:k8 p q=true↔p.1<q.1∨(p.1=q.1/\p.2.cps.toList<q.2.cps.toList):=by unfold k8;simp only [Bool.or_eq_true,yf,decide_eq_true_eq,beq_iff_eq]
theorem Zi (kf:Nat->Int×Str):Ka.Ord λi j=>k8 (kf i) (kf j) where
 irr a:=by
  cases e:k8 (kf a) (kf a) with
  |false=>rfl
  |true =>
   rcases ltK_iff.mp e with z|⟨_,z⟩
   ·omega
   ·exact absurd z (List.lt_irrefl _)
 tr a b c h k:=by
  refine ltK_iff.mpr ?_;rcases ltK_iff.mp h with z|⟨z1,z2⟩<;>rcases ltK_iff.mp k with y|⟨y1,y2⟩
  ·exact .inl (by omega)
  ·exact .inl (by omega)
  ·exact .inl (by omega)
  ·exact .inr ⟨by omega,List.lt_trans z2 y2⟩
 neg a b c h:=by
  rcases ltK_iff.mp h with z|⟨z1,z2⟩
  ·by_cases q:(kf a).1<(kf b).1
   ·exact .inl (ltK_iff.mpr (.inl q))
   ·exact .inr (ltK_iff.mpr (.inl (by omega)))
  ·by_cases q:(kf a).1<(kf b).1
   ·exact .inl (ltK_iff.mpr (.inl q))
   ·by_cases q2:(kf b).1<(kf c).1
    ·exact .inr (ltK_iff.mpr (.inl q2))
    ·by_cases q3:(kf a).2.cps.toList<(kf b).2.cps.toList
     ·exact .inl (ltK_iff.mpr (.inr ⟨by omega,q3⟩))
     ·exact .inr (ltK_iff.mpr (.inr ⟨by omega,List.lt_of_le_of_lt (ur.mp q3) z2⟩))
section
variable {prog:Program}{w:World}{A:Around}{E:Value->Shared->Prop}{s:Shared}
theorem SF {x y:Addr}{ox oy:Obj}{i j:Int}{a b:Str}{t u t' u':Tok}{k:Nat}{Q:Bool->Shared->Prop}(hx:s.heap.get? x=some ox)(dx:ox.data = .seq #[.int i t,.str a u] n)(hy:s.heap.get? y=some oy)(dy:oy.data = .seq #[.int j t',.str b u'] k)(h:Q (k8 (i,a) (j,b)) s):wpAny (model prog w) A (keyLt' (tuples' true) (.ref x) (.ref y)) Q E s:=by
 refine PySem.W.kat_lt hx dx hy dy ?_;show PySem.W.KatLex prog w A true _ Q [(.int i t,.int j t'),(.str a u,.str b u')] 0 s;refine PySem.W.kat_cons (wpAny_eqBool_int ?_);by_cases e:i=j
 ·subst e;rw [beq_self_eq_true];refine PySem.W.kat_yes (PySem.W.kat_cons (wpAny_eqBool_str ?_));by_cases e2:a=b
  ·subst e2;rw [yy rfl];refine PySem.W.kat_yes (PySem.W.kat_nil ?_);have z:k8 (i,a) (i,a)=false:=(Zi λ_=>(i,a)).irr 0;rw [z] at h;exact h
  ·rw [yB e2];refine PySem.W.kat_no (PySem.W.kat_one _ _ (PyProof.Rows.lt_str ?_));have z:k8 (i,a) (i,b)=decide (a.cps.toList<b.cps.toList):=by unfold k8;simp
   rw [z] at h;exact h
 ·have e':(i==j)=false:=by simpa using e
  rw [e'];refine PySem.W.kat_no ?_;show wpAny _ _ (oneLt' true (.int i t) (.int j t')) Q _ s;refine oneLt_int ?_;have z:k8 (i,a) (j,b)=decide (i<j):=by unfold k8;simp [e']
  rw [z] at h;exact h
end
def Grow (H H':Hp):Prop:=∀ b o,H b=some o->H' b=some o
theorem Grow.refl :Grow H H:=λ_ _ e=>e
theorem Grow.trans {H2:Hp}(a:Grow H H1)(b:Grow H1 H2):Grow H H2:=λc o e=>b c o (a c o e)
structure KeysIn (kf:Nat->Int×Str)(H:Hp)(xs:List V)(ks:List Value):Prop where
 len:ks.length=xs.length
 at_:∀(i:Nat)(x:V),xs[i]?=some x->∃ p,ks[i]?=some (.ref p)/\H p=some (.tup [.int (kf i).1,.str (kf i).2])
theorem KeysIn.nil {kf:Nat->Int×Str}{H:Hp}:KeysIn kf H [] []:=⟨rfl,λi x e=>by simp at e⟩
theorem KeysIn.snoc {kf:Nat->Int×Str}{H':Hp}{xs:List V}{x:V}{p:Addr}(h:KeysIn kf H xs ks)(g:Grow H H')(e:H' p=some (.tup [.int (kf xs.length).1,.str (kf xs.length).2])):KeysIn kf H' (xs++[x]) (ks++[.ref p]):=by
 refine ⟨by rw [yQ,yQ,h.len];rfl,λi y q=>?_⟩;by_cases hi:i<xs.length
 ·rw [uY hi] at q;obtain ⟨a,e1,e2⟩:=h.at_ i y q;exact ⟨a,by rw [uY (by rw [h.len];exact hi)];exact e1,g _ _ e2⟩
 ·rw [uW (by omega)] at q;have hz:i-xs.length=0:=by
   cases hd:i-xs.length with
   |zero=>rfl
   |succ k=>rw [hd] at q;simp at q
  rw [hz] at q;simp at q;have hi':i=xs.length:=by omega
  refine ⟨p,?_,by rw [hi'];exact e⟩;rw [uW (by rw [h.len];omega),h.len,hz];rfl
structure jd (X:Cx)(pins:List (Addr×Obj))(b:Addr):Prop where
 s0:X.s₀.heap.objs.size<=b
 nL:b≠X.env.locals
 nC:∀ x c,X.env.cells.lookup x=some c->c≠b
 nP:∀ p∈X.pn++pins,p.1≠b
 nS:b∉frs X.stack
section
variable {X:Cx}{pins:List (Addr×Obj)}{σ:St}{H:Hp}{s:Shared}{h':Heap}{b:Addr}
theorem Inv.mine (I:Inv X pins σ H s)(h:s.heap.objs.size<=b):jd X pins b where
 s0:=yg I.sz h
 nL:=uf (yz I.lt h)
 nC:=λx c e=>by
  obtain ⟨v,o,e1,_⟩:=I.cell x c e;exact yH (yz (yO e1) h)
 nP:=λp hp=>yH (yz (yO (I.pin p hp).1) h)
 nS:=λz=>by
  rcases yM.mp (I.stkSub b z) with q|q
  ·exact absurd q (uf (yz I.lt h))
  ·exact I.nofs h q
theorem Inv.turn {t':Nat}(I:Inv X pins σ H s)(m:jd X pins b)(hn:H b=none)(k:∀ c o,c≠b->s.heap.get? c=some o->h'.get? c=some o):Inv X pins σ H { s with heap:=h',toks:=t' } :=
 I.turned k hn m.nL (.inr m.s0) m.nC m.nP
theorem Qc {h:Heap}{a c:Addr}{g:Array Value->Array Value}{o:Obj}(n:c≠a)(e:h.get? c=some o):(h.update a (Obj.mapSeq g)).get? c=some o:=(Heap.get?_update_ne _ _ _ _ n).trans e
end
section
variable {X:Cx}{pins:List (Addr×Obj)}{σ:St}{H:Hp}{s:Shared}{A2:Around}{D kS f:Addr}{e1:Nat}{xs:List V}{us:List Value}{kf:Nat->Int×Str}{P:PySem.Fin->Shared->Prop}{E:Value->Shared->Prop}
def YO (X:Cx)(pins:List (Addr×Obj))(σ:St)(H:Hp)(kf:Nat->Int×Str)(D:Addr)(xs:List V)(R:Shared->Prop):Prop:=∀(l:List Nat)(out:List Value)(H':Hp)(s':Shared)(e':Nat),Inv X pins σ H' s'->Grow H H'->H' D=none ->
 s'.heap.get? D=some (seqObj "list" out.toArray e')->l.Perm (List.range xs.length)->Vals (l.map λi=>xs.getD i .non) out->l.Pairwise (λa b=>k8 (kf b) (kf a)=false)->R s'
theorem Cc {st:SortSt}{out:List Value}(I:Inv X pins σ H1 s1)(mD:jd X pins D)(mK:jd X pins kS)(ne:D≠kS)(nD:H1 D=none)(nK:H1 kS=none)(hD:s1.heap.get? D=some (seqObj "list" #[] e1))(hk:s1.heap.get? kS=some (seqObj "list" ks.toArray e))(hout:(arrOf st).map (·.2)=out.toArray)(hz:out.length<64)(hkz:ks.length<64)(hf:failedOf st=none)(h:∀ (h':Heap) (e':Nat),Inv X pins σ H1 { s1 with heap:=h' }->h'.get? D=some (seqObj "list" out.toArray e')->P (.done (.ret .none)) { s1 with heap:=h' }):wpAny (model X.prog X.w) A2 (ksk_tail D false e1 (.ref kS) st) P E s1:=by
 have hD1:(s1.heap.update kS (Obj.mapSeq λ_=>(#[]:Array Value))).get? D=some (seqObj "list" #[] e1):=Qc ne hD;obtain ⟨c2,hc2⟩:∃ c2,((s1.heap.update kS (Obj.mapSeq λ_=>(#[]:Array Value))).update D (Obj.mapSeq λ_=>out.toArray)).get? D=some (seqObj "list" out.toArray c2):=⟨_,get?_update_seq hD1 λ_=>out.toArray⟩;have I1:=I.turn (t':=s1.toks) mK nK (h':=s1.heap.update kS (Obj.mapSeq λ_=>(#[]:Array Value))) λc o n q=>Qc n q;have I2:=I1.turn (t':=s1.toks) mD nD (h':=(s1.heap.update kS (Obj.mapSeq λ_=>(#[]:Array Value))).update D (Obj.mapSeq λ_=>out.toArray)) λc o n q=>Qc n q;unfold ksk_tail
 dsimp only
 rw [hout];refine yX (listUpdate_at hk rfl ?_ (by rw [yW,sizeLine_eq];omega) (yh _));refine yX (wpAny_letGo ?_);refine yX (seqEpoch_at hD1 rfl ?_);refine yX (listUpdate_at hD1 rfl ?_ (yh _) (by show out.toArray.size<=_;rw [yW,sizeLine_eq];omega));rw [hf];simp only [bne_self_eq_false,uQ,if_false];exact yC (h _ c2 I2 hc2)
end
section
variable {X:Cx}{pins:List (Addr×Obj)}{σ:St}{H:Hp}{s:Shared}{A2:Around}{D kS f:Addr}{e1:Nat}{xs:List V}{us:List Value}{kf:Nat->Int×Str}{P:PySem.Fin->Shared->Prop}{E:Value->Shared->Prop}
theorem YC:∀{xs:List V}{us:List Value}{i:Nat},Vals xs us->i<xs.length->RelV (xs.getD i .non) (us.getD i Value.none)
 |_,_,i,.nil,h=>by simp at h
 |_,_,0,.cons r _,_=>r
 |_,_,i+1,.cons _ q,h=>by
  have:=YC (i:=i) q (by simpa using h);simpa using this
theorem Cv {xs:List V}{us:List Value}(rv:Vals xs us):∀{l:List Nat},(∀ i∈l,i<xs.length)->Vals (l.map λi=>xs.getD i .non) (l.map λi=>us.getD i Value.none)
 |[],_=> .nil
 |i::l,h=> .cons (YC rv (h i yT)) (Cv rv λj hj=>h j (yS _ hj))
theorem Vb {α:Type}{d:α}:∀ xs:List α,(List.range xs.length).map (λi=>xs.getD i d)=xs:=λxs=>by
 apply List.ext_getElem?;intro i;rw [yP];by_cases h:i<xs.length
 ·rw [List.getElem?_range h,yY h];simp [h]
 ·rw [uR (by simpa using h),uR (by simpa using h)];rfl
theorem end_K (I:Inv X pins σ H1 s1)(mD:jd X pins D)(mK:jd X pins kS)(ne:D≠kS)(nD:H1 D=none)(nK:H1 kS=none)(hD:s1.heap.get? D=some (seqObj "list" #[] e1))(hk:s1.heap.get? kS=some (seqObj "list" ks.toArray e))(rv:Vals xs us)(hK:KeysIn kf H1 xs ks)(h64:xs.length<64)(h:∀ (l:List Nat) (out:List Value) (h':Heap) (e':Nat),Inv X pins σ H1 { s1 with heap:=h' }->h'.get? D=some (seqObj "list" out.toArray e')->l.Perm (List.range xs.length)->Vals (l.map λi=>xs.getD i .non) out->l.Pairwise (λa b=>k8 (kf b) (kf a)=false)->P (.done (.ret .none)) { s1 with heap:=h' }):wpAny (model X.prog X.w) A2 (ksk_end D false us.toArray e1 (.ref kS) ks.toArray) P E s1:=by
 have hul:us.length=xs.length:=rv.length.symm;have hkl:ks.length=us.length:=by rw [hK.len,hul]
 unfold ksk_end
 dsimp only
 simp only [uQ,if_false];by_cases h2:us.toArray.size<2
 ·rw [if_pos h2,if_pos h2];refine yX (yC ?_);refine yX (yC ?_);refine Cc (out:=us) (ks:=ks) I mD mK ne nD nK hD hk ?_ (by omega) (by omega) rfl λh' e' I' hd=>h (List.range xs.length) us h' e' I' hd (.refl _) (by rw [Vb];exact rv) ?_
  ·show ((ks.toArray.zip us.toArray)).map (·.2)=us.toArray;apply tR.mp;rw [Array.toList_map,ksk_zip];exact List.map_snd_zip (by simp;omega)
  ·have hx:xs.length<2:=by rw [yW] at h2;omega
   have hr:xs.length=0∨xs.length=1:=by omega
   rcases hr with z|z
   ·rw [z];exact List.Pairwise.nil
   ·rw [z];exact List.pairwise_singleton _ _
 ·rw [if_neg h2,if_neg h2];have h2':2<=us.length:=by rw [yW] at h2;omega
  have tup:∀ i,i<xs.length->∃ p ox t u n,ks.getD i Value.none = .ref p/\s1.heap.get? p=some ox/\ox.cls = .type "tuple"/\ox.data = .seq #[.int (kf i).1 t,.str (kf i).2 u] n:=λi hi=>by
   obtain ⟨p,a1,a2⟩:=hK.at_ i (xs.getD i .non) (by rw [yY hi];simp [hi]);obtain ⟨_,its,r,o,e1,e2,n,e3⟩:=I.hok p _ a2;obtain ⟨u1,u2,rfl,z1,z2⟩:=YB r;obtain ⟨t,rfl⟩:∃ t,u1 = .int (kf i).1 t:=z1;obtain ⟨u,rfl⟩:∃ u,u2 = .str (kf i).2 u:=z2;exact ⟨p,o,t,u,n,by simp [a1],e1,e2,e3⟩
  have kt:∀{l:List Nat},(∀ i∈l,i<xs.length)->∃ fs,PySem.W.KatTups s1.heap (l.map λi=>ks.getD i Value.none) fs/\fs.length=l.length/\∀ v∈fs,∃ i t,v=Value.int i t:=λ{l}=>by
   induction l with
   |nil=>exact λ_=>⟨[],.nil,rfl,λv hv=>by simp at hv⟩
   |cons i l ih =>
    intro hl;obtain ⟨fs,b1,b2,b3⟩:=ih λj hj=>hl j (yS _ hj);obtain ⟨p,ox,t,u,n,c1,c2,c3,c4⟩:=tup i (hl i yT);refine ⟨Value.int (kf i).1 t::fs,?_,by rw [yG,yG,b2],λv hv=>?_⟩
    ·rw [yI,c1];exact .cons c2 c3 c4 rfl b1
    ·rcases yM.mp hv with z|z
     ·exact ⟨_,_,z⟩
     ·exact b3 v z
  obtain ⟨fs,f1,f2,f3⟩:=kt (l:=List.range ks.length) λi hi=>by rw [yi,hK.len] at hi;exact hi
  rw [Vb] at f1;rw [uL] at f2;refine yX (PySem.W.kat_kind (T:= .type "int") f1 (by omega) (λv hv=>?_) rfl ?_)
  ·obtain ⟨i,t,rfl⟩:=f3 v hv;exact .now
  have O:=Zi λi=>kf i;refine yX (wpAny_mono (PySem.W.kat_run (vs:=us) (ks:=ks) (Q:=λst' s'=>s'=s1/\∃ p:Array Nat,p.Perm (List.toArray (List.range us.length))/\p.size=us.length/\(∀ i j,i<=j->j<us.length->k8 (kf (p.getD j 0)) (kf (p.getD i 0))=false)/\arrOf st'=p.map (PySem.W.kas_item (ks.toArray.zip us.toArray))/\failedOf st'=none)
   (G:=λp s'=>s'=s1/\p.Perm (List.toArray (List.range us.length))/\p.size=us.length/\∀ i j,i<=j->j<us.length->k8 (kf (p.getD j 0)) (kf (p.getD i 0))=false) hkl h2' (by omega)
   (λp st' s' z1 z2 z3 z4=>⟨z4.1,p,z4.2.1,z4.2.2.1,z4.2.2.2,z2,z3⟩)
   (Ka.sort_wp O (by omega) (λi j C hi hj hC=>?_) λp z1 z2 z3=>⟨rfl,z1,z2,z3⟩)) (λr s' hr=>?_) λ_ _ z=>z)
  ·obtain ⟨p,ox,t,u,n,c1,c2,c3,c4⟩:=tup i (by omega);obtain ⟨q,oy,t',u',m,d1,d2,d3,d4⟩:=tup j (by omega);show wpAny _ _ (keyLt' _ (ks.getD i Value.none) (ks.getD j Value.none)) C _ _;rw [c1,d1];exact SF c2 c4 d2 d4 hC
  ·obtain ⟨⟨⟩,st⟩:=r;obtain ⟨rfl,p,q1,q2,q3,q4,q5⟩:=hr
   dsimp only
   have pl:p.toList.Perm (List.range us.length):=Array.perm_iff_toList_perm.mp q1;have lo:∀ i∈p.toList,i<xs.length:=λi hi=>by
    have:=pl.mem_iff.mp hi;rw [yi] at this;omega
   refine Cc (out:=p.toList.map λi=>us.getD i Value.none) (ks:=ks) I mD mK ne nD nK hD hk (PySem.W.kat_snds hkl q4) (by rw [yZ,ua,q2];omega) (by omega) q5 λh' e' I' hd=>h p.toList _ h' e' I' hd (by rw [<- hul];exact pl) (Cv rv lo) ?_;rw [List.pairwise_iff_getElem];intro i j hi hj hij;rw [ua,q2] at hi hj;have:=q3 i j (by omega) hj;have gi:∀ k,(hk:k<p.size)->p.getD k 0=p[k]:=λk hk=>by simp [Array.getD,hk]
   rw [gi i (by omega),gi j (by omega)] at this;simpa using this
end
section
variable {X:Cx}{pins:List (Addr×Obj)}{σ:St}{H:Hp}{s:Shared}{A2:Around}{D kS f:Addr}{e1:Nat}{xs:List V}{us:List Value}{kf:Nat->Int×Str}{P:PySem.Fin->Shared->Prop}{E:Value->Shared->Prop}
def ZX (X:Cx)(pins:List (Addr×Obj))(σ:St)(H:Hp)(A2:Around)(f:Addr)(kf:Nat->Int×Str)(xs:List V):Prop:=∀(H':Hp)(s':Shared)(i:Nat)(x:V)(u:Value),xs[i]?=some x->RelV x u->Inv X pins σ H' s'->Grow H H' ->
 wpAny (model X.prog X.w) A2 (call (.ref f) [u]) (λu' s''=>CE X.stack X.prog X.w H' s' (λv H''=>Grow H' H''/\∃ p,v = .ref p/\H'' p=some (.tup [.int (kf i).1,.str (kf i).2])) u' s'') (λ_ _=>False) s'
theorem RV (I:Inv X pins σ H s)(mD:jd X pins D)(mK:jd X pins kS)(ne:D≠kS)(nD:H D=none)(nK:H kS=none)(hD:s.heap.get? D=some (seqObj "list" #[] e1))(hk:s.heap.get? kS=some (seqObj "list" #[] 0))(rv:Vals xs us)(h64:xs.length<64)(hkey:ZX X pins σ H A2 f kf xs)(h:YO X pins σ H kf D xs λs'=>P (.done (.ret .none)) s'):wpAny (model X.prog X.w) A2 (ksk_rest D (.ref f) false us.toArray e1 (.ref kS)) P E s:=by
 have hul:us.length=xs.length:=rv.length.symm;unfold ksk_rest;refine yX (wpAny_rule ?_)
 first
  |rw [List.forIn_toArray]
  |(rw [<- Array.forIn_toList];simp only [List.toList_toArray])
 refine yX (ksk_fold (λj s'=>∃ (H':Hp) (ks:List Value) (e:Nat),Inv X pins σ H' s'/\Grow H H'/\H' D=none/\H' kS=none/\s'.heap.get? D=some (seqObj "list" #[] e1)/\s'.heap.get? kS=some (seqObj "list" ks.toArray e)/\KeysIn kf H' (xs.take j) ks) us 0 s
  ⟨H,[],0,I,.refl,nD,nK,hD,hk,by rw [List.take_zero];exact .nil⟩ (λj u s' hu hI=>?_) λs' hI=>?_)
 ·rw [Nat.zero_add] at hI ⊢;obtain ⟨H',ks,e,I',g,n1,n2,d1,d2,kk⟩:=hI;have hj:j<us.length:=by
   rcases Nat.lt_or_ge j us.length with z|z
   ·exact z
   ·rw [uR z] at hu;cases hu
  obtain ⟨x,hx,rx⟩:∃ x,xs[j]?=some x/\RelV x u:=by
   have z:=YC (i:=j) rv (by omega);refine ⟨xs.getD j .non,by rw [yY (by omega)];simp [show j<xs.length by omega],?_⟩;have e2:us.getD j Value.none=u:=by simp [hu]
   rw [e2] at z;exact z
  have lk:ks.length<64:=by rw [kk.len,uO];omega
  refine yX (wpAny_attempt (wpAny_mono (hkey H' s' j x u hx rx I' g) (λu' s'' ce=>?_) λ_ _ z=>z.elim));have ep:=I'.after ce;obtain ⟨v,H'',os,bare,un,hok,r,g2,p,rfl,hp⟩:=ce;obtain rfl:u'=Value.ref p:=r;have I'':Inv X pins σ H'' s'':=by obtain ⟨hh,gg,dd,tt,os'⟩:=s'';obtain rfl:os'=s'.os:=os;exact I'.call (h':=hh) (g':=gg) (d':=dd) (t':=tt) (ch:=[]) un hok bare (λb z=>absurd z (by simp))
  have d1':=un.keep D _ d1 n1 mD.nS (by simp);have d2':=un.keep kS _ d2 n2 mK.nS (by simp);have n1':=un.free D _ d1 n1 (by simp);have n2':=un.free kS _ d2 n2 (by simp);have ea:ks.toArray.push (.ref p)=(ks++[Value.ref p]).toArray:=by simp
  obtain ⟨c2,hc2⟩:∃ c2,(s''.heap.update kS (Obj.mapSeq (·.push (Value.ref p)))).get? kS=some (seqObj "list" (ks++[Value.ref p]).toArray c2):=⟨_,by rw [<- ea];exact get?_update_seq d2' (·.push (Value.ref p))⟩
  dsimp only
  refine yX (listUpdate_at d2' rfl ?_ (by rw [yW,sizeLine_eq];omega) (by show (ks.toArray.push (Value.ref p)).size<=_;rw [Array.size_push,yW,sizeLine_eq];omega));refine yC ⟨rfl,H'',ks++[Value.ref p],c2,I''.turn (t':=s''.toks) mK n2' λc o n q=>Qc n q,g.trans g2,n1',n2',Qc ne d1',hc2,?_⟩;have et:xs.take (j+1)=xs.take j++[x]:=by rw [List.take_add_one,hx];rfl
  rw [et];exact kk.snoc g2 (by rw [uO,Nat.min_eq_left (by omega)];exact hp)
 ·rw [Nat.zero_add] at hI;obtain ⟨H',ks,e,I',g,n1,n2,d1,d2,kk⟩:=hI;rw [hul,List.take_length] at kk;refine yX (listItems_at d2 rfl ?_);exact end_K I' mD mK ne n1 n2 d1 d2 rv kk h64 λl out h' e' J hd p r q=>h l out H' _ e' J g n1 hd p r q
theorem SC (I:Inv X pins σ H s)(mD:jd X pins D)(nD:H D=none)(hD:s.heap.get? D=some (seqObj "list" us.toArray n))(rv:Vals xs us)(h64:xs.length<64)(hkey:ZX X pins σ H A2 f kf xs)(h:YO X pins σ H kf D xs λs'=>P (.done (.ret .none)) s'):wpAny (model X.prog X.w) A2 (ksk_tree D (.ref f) false) P E s:=by have hul:us.length=xs.length:=rv.length.symm;obtain ⟨e1,hD1⟩:∃ e1,(s.heap.update D (Obj.mapSeq λ_=>(#[]:Array Value))).get? D=some (seqObj "list" #[] e1):=⟨_,get?_update_seq hD λ_=>#[]⟩;have I1:=I.turn (t':=s.toks) mD nD (h':=s.heap.update D (Obj.mapSeq λ_=>(#[]:Array Value))) λc o n q=>Qc n q;have k2:∀ b o,(s.heap.update D (Obj.mapSeq λ_=>(#[]:Array Value))).get? b=some o->((s.heap.update D (Obj.mapSeq λ_=>(#[]:Array Value))).push (seqObj "tuple" us.toArray 0)).get? b=some o:=λb o e=>yV _ e;have I2:=I1.kept (t':=s.toks) k2;have k3:∀ b o,((s.heap.update D (Obj.mapSeq λ_=>(#[]:Array Value))).push (seqObj "tuple" us.toArray 0)).get? b=some o->(((s.heap.update D (Obj.mapSeq λ_=>(#[]:Array Value))).push (seqObj "tuple" us.toArray 0)).push (seqObj "list" #[] 0)).get? b=some o:=λb o e=>yV _ e;have I3:=I2.kept (t':=s.toks) k3;have mK:=I2.mine (b:=((s.heap.update D (Obj.mapSeq λ_=>(#[]:Array Value))).push (seqObj "tuple" us.toArray 0)).objs.size) (yU _);have nK:=I2.hok.fresh (a:=((s.heap.update D (Obj.mapSeq λ_=>(#[]:Array Value))).push (seqObj "tuple" us.toArray 0)).objs.size) (yU _);unfold ksk_tree;refine yX (listItems_at hD rfl ?_);refine yX (listUpdate_at hD rfl ?_ (by rw [yW,sizeLine_eq];omega) (yh _));refine yX (seqEpoch_at hD1 rfl ?_);refine yX (wpAny_newTuple ?_ (by show us.length<=_;rw [sizeLine_eq];omega));refine yX (wpAny_newList ?_ (yh _));refine wpAny_holding ?_;exact RV (s:={ s with heap:=((s.heap.update D (Obj.mapSeq λ_=>(#[]:Array Value))).push (seqObj "tuple" us.toArray 0)).push (seqObj "list" #[] 0) }) I3 mD mK (yH (yO (k2 _ _ hD1))) nD nK (k3 _ _ (k2 _ _ hD1)) (yD _ rfl) rv h64 hkey h
end
section
variable {X:Cx}{pins:List (Addr×Obj)}{σ:St}{H:Hp}{s:Shared}{a f:Addr}{xs:List V}{kf:Nat->Int×Str}{Q:VK}{E:Value->Shared->Prop}
theorem DF (I:Inv X pins σ H s)(hl:SqL X.K H a xs)(h64:xs.length<64)(hkey:ZX X pins σ H X.A.in1.in1 f kf xs)(h:∀ (D:Addr) (l:List Nat) (H':Hp),Grow H H'->H' D=none->l.Perm (List.range xs.length)->l.Pairwise (λa b=>k8 (kf b) (kf a)=false)->Q (.ref D) (j4 H' D (.lst (l.map λi=>xs.getD i .non)))):wpAny (model X.prog X.w) X.A (call (.builtin "sorted") [.ref a] [(Str.ofString "key",.ref f)]) (EP X pins σ Q) E s:=by
 obtain ⟨us,rv,p,hz⟩:=I.list hl;have hul:us.length=xs.length:=rv.length.symm;refine call_function_entry_kw kind_sorted plain_sorted entry_sorted (ksk_s1 _ _) ?_;unfold Builtin.«sorted»;refine yX (m:=checkCount "sorted" 1 1 _) (yC ?_);refine yX (collect_list p.isList ?_ (by rw [sizeLine_eq];omega));refine yX (wpAny_newList ?_ (by rw [sizeLine_eq];omega));have keep:∀ b o,s.heap.get? b=some o->((s.heap.push (seqObj "list" #[] 0)).update s.heap.objs.size (Obj.mapSeq (·++us.toArray))).get? b=some o:=λb o q=>by
  rw [Heap.get?_update_ne _ _ _ _ (yH (yO q))];exact yV _ q
 have I1:=I.kept (t':=s.toks) keep;have k2:∀ b o,((s.heap.push (seqObj "list" #[] 0)).update s.heap.objs.size (Obj.mapSeq (·++us.toArray))).get? b=some o->(((s.heap.push (seqObj "list" #[] 0)).update s.heap.objs.size (Obj.mapSeq (·++us.toArray))).push (seqObj "list" us.toArray 0)).get? b=some o:=λb o e=>yV _ e;have I2:=I1.kept (t':=s.toks) k2;have mD:=I1.mine (b:=((s.heap.push (seqObj "list" #[] 0)).update s.heap.objs.size (Obj.mapSeq (·++us.toArray))).objs.size) (yU _);have nD:=I1.hok.fresh (a:=((s.heap.push (seqObj "list" #[] 0)).update s.heap.objs.size (Obj.mapSeq (·++us.toArray))).objs.size) (yU _);have hoL:(((s.heap.push (seqObj "list" #[] 0)).update s.heap.objs.size (Obj.mapSeq (·++us.toArray))).push (seqObj "list" us.toArray 0)).get? ((s.heap.push (seqObj "list" #[] 0)).update s.heap.objs.size (Obj.mapSeq (·++us.toArray))).objs.size=some (seqObj "list" us.toArray 0):=yD _ rfl;refine yX (wpAny_holding (wpAny_call_entry_kw slot_list_sort (s:={ s with heap:=((s.heap.push (seqObj "list" #[] 0)).update s.heap.objs.size (Obj.mapSeq (·++us.toArray))).push (seqObj "list" us.toArray 0) }) ⟨_,hoL,rfl⟩ entry_list_sort ?body (ksk_l1 _ _)));show wpAny (model X.prog X.w) X.A.in1.in1 (Builtin.«list.sort» ⟨[.ref _],[(Str.ofString "key",.ref f)]⟩) _ _ _;rw [ksk_t1];refine SC (s:={ s with heap:=((s.heap.push (seqObj "list" #[] 0)).update s.heap.objs.size (Obj.mapSeq (·++us.toArray))).push (seqObj "list" us.toArray 0) }) (kf:=kf) I2 mD nD hoL rv h64 hkey λl out H' s' e' J g n hd pm r pw=>⟨_,rfl,yC ⟨_,rfl,.ref _,_,J.track mD.s0 n mD.nL mD.nC mD.nP (o:= .lst (l.map λi=>xs.getD i .non)) ?_,rfl,h _ l H' g n pm pw⟩⟩;exact ⟨by rw [yZ,pm.length_eq,uL];exact hz,out,e',r,hd⟩
end
end L2
namespace L2
open PySem PySem.Spec PySem.Calls PyProof.Rows
variable{x:Str}{K:Fg}
section
variable {P:Program}{w:World}{K:Fg}{mg:Str->Option Value}{base:Heap}
theorem Fun.okC {qual:Str}{st:Stmt}{f:Addr}{fd:FuncData}{N ps:List Str}{k:Nat}{sp:Sp}(F:Fun K x qual st f fd)(S:w6 N ps (j7 st))(len:∀ vs H Q E,sp vs H Q E->vs.length=ps.length)(hbody:∀(A:Around)(outer:List Env)(s:Shared)(H:Hp)(vs:List V)(Q:VK)(E:XK),Room k (A.deeper (envOfC qual (j7 st) s.heap.objs.size f fd.code))->sp vs H Q E -> ∃ t,PSs (xj v7 P w K mg base N qual (j7 st) f fd.code A outer s H E).nox (qj st) t/\t { nx:=λ_ H'=>Q .non H',rt:=Q } (start N vs) H):FnOk P w K mg base v7 (k+1) f fd ps sp:=by obtain ⟨oc,od,kV,doc,pm,an,cdv,ct,osl,rfl,lk,hcd⟩:=F.ex;refine JA lk hcd S len λA outer s H vs Q E hr hsp=>?_;obtain ⟨t,h,q⟩:=hbody A outer s H vs Q E hr hsp;exact ⟨t,h.nox,q⟩
end
theorem SqL.grow {H H':Hp}{a:Addr}{xs:List V}(h:SqL K H a xs)(g:Grow H H'):SqL K H' a xs:=by
 rcases h with (h|⟨o,h⟩)|h
 ·exact .inl (.inl (g _ _ h))
 ·exact .inl (.inr ⟨o,g _ _ h⟩)
 ·exact .inr h
section
variable {X:Cx}
def PX (K:Fg)(fi:List Nat)(t:TA)(tb:TE):TE:=λσ H Q=>t σ H λvs H1=>∃(a:Addr)(xs:List V)(kf:Nat->Int×Str)(cv:List V),vs=[.ref a]/\(fi.map λi=>σ[i]?)=cv.map (λv=>some (some v))/\SqL K H1 a xs/\xs.length<64 /\
 (∀(i:Nat)(x:V),xs[i]?=some x->∀(H':Hp)(Q':VK),Grow H1 H'->(∀ p H'',Grow H' H''->H'' p=some (.tup [.int (kf i).1,.str (kf i).2])->Q' (.ref p) H'')->tb (([x]++cv).map some) H' Q') /\
 ∀(D:Addr)(l:List Nat)(H':Hp),Grow H1 H'->H' D=none->l.Perm (List.range xs.length)->l.Pairwise (λa b=>k8 (kf b) (kf a)=false)->Q (.ref D) (j4 H' D (.lst (l.map λi=>xs.getD i .non)))
structure CK (X:Cx)(scope:Scope)(clos:List (Str×Addr))(fr:List Str)(fi:List Nat):Prop where
 len:fi.length=fr.length
 at_:∀(j:Nat)(y:Str)(i:Nat),fr[j]?=some y->fi[j]?=some i->X.N[i]?=some y/\X.env.kindOf y=some .cell/\scope.names.lookup y=some .free/\Vis X.env.scope y
 sub:∀ y c,clos.lookup y=some c->X.env.cells.lookup y=some c
 has:∀ y c,y∈fr->X.env.cells.lookup y=some c->clos.lookup y=some c
theorem Rk {e body:Expr}{t:TA}{tb:TE}{p pos kp lp:Pos}{params:Arguments}{scope:Scope}{c Pt:Addr}{ps:Array Value}{wt:List (Pos×Str)}{k:Nat}{clos:List (Str×Addr)}{fr:List Str}{fi:List Nat}(hK:X.K=K)(hr:Room (k+3) X.A)(hg:Gl X "sorted")(hm:X.mg "sorted"=none)(ha:PA X [e] t)(hP:(Pt,ps,wt)∈TABS)(hw:(lp,X.env.qual ++ "<lambda>")∈wt)(hu:∀ p∈wt,(p.1.line==lp.line&&p.1.col==lp.col)=true->p.2=X.env.qual ++ "<lambda>")(hcode:X.env.code = .ref c)(hC:∀ h:Heap,X.K.In h->PySem.W.CodeHd h c Pt)(S:YJ [x] fr scope)(LF:CK X scope clos fr fi)(hb:∀ (f c':Addr) (s:Shared) (H:Hp),Room k (X.A.in1.in1.deeper (PySem.W.envX (X.env.qual ++ "<lambda>") scope s.heap.objs.size f (.ref c') clos))->PE (XL X.prog X.w X.K X.mg X.base ([x]++fr) (X.env.qual ++ "<lambda>") scope f c' clos X.A.in1.in1 X.stack s H) body tb)(hbd:∀ (qual:Str) (pm cdv ctv u:Value),bindArgs (PySem.W.kla_fn "<lambda>" qual params body scope clos pm cdv ctv) ⟨[u],[]⟩=pure [(x,u)])(hcl:closureFor scope X.env=pure clos:=by rfl)(hdef:defaultsOf params X.env=([],[]):=by rfl)(hs:backTo pos (starEach [e] X.env)=(false,eval e X.env)::backTo pos (starEach [] X.env):=by rfl)(hpl:(backTo pos (starEach [e] X.env)).any (·.1)=false:=by rfl):PE X (.Call (.Name "sorted" p) [e] [⟨some "key",.Lambda params body scope lp,kp⟩] pos) (PX K fi t tb):=by
 subst hK;intro pins s σ H Q I h;refine wpAny_Call_Name_kw (zS I hg hm Gn ?_ (by decide) (by decide));refine PyProof.Rows.callWith_kw (v5 (ha pos pins s σ H _ I h) λus s1 ⟨vs,H1,I1,r1,q1⟩=>?_) hs hpl;obtain ⟨a,xs,kf,cv,rfl,hcv,hq,h64,qk,qe⟩:=q1;obtain ⟨u,rfl,ru⟩:=za r1;obtain rfl:u=Value.ref a:=ru;refine PyProof.Rows.kws_cons (LH I1 hP hw hu hcode (hC _ I1.mod.kin) hcl hdef λf c' oc vs tq ctv H' h' tk I2 g _ hf hc hd hv=>PyProof.Rows.kws_nil ?_);show wpAny _ _ (call (.builtin "sorted") [.ref a] [(Str.ofString "key",Value.ref f)]) _ _ _;refine DF I2 (hq.grow g) h64 (kf:=kf) (λH3 s3 i3 x3 u3 hx rx I3 g3=>?_) λD l H3 g3 n pm pw=>qe D l H3 (Grow.trans g g3) n pm pw;obtain ⟨hf3,_⟩:=I3.hok f _ (g3 _ _ hf);obtain ⟨hc3,_⟩:=I3.hok c' _ (g3 _ _ hc);have room:=hr.in1.in1;have lcv:cv.length=fr.length:=by have z:=congrArg List.length hcv;rw [yZ,yZ] at z;rw [<- z,LF.len]
 refine wpAny_call (codeAny_mono (LG (vs:=[x3]) (cv:=cv) (t:=tb) (E:=λ_ _ _=>False) (Q:=λv H''=>Grow H3 H''/\∃ p,v = .ref p/\H'' p=some (.tup [.int (kf i3).1,.str (kf i3).2])) S room.depth room.hd I3.env0.in1.in1 hf3 ⟨c',oc,vs,tq,rfl,hc3,hd,hv⟩ (hbd _ _ _ _ _) rfl (.cons rx .nil)
  (λy z d e1 e2=>I3.ok.inj y z d (LF.sub y d e1) (LF.sub z d e2)) (λy d e1=>⟨I3.cell y d (LF.sub y d e1),I3.freeC y d (LF.sub y d e1)⟩) lcv
  (λj y v e1 e2=>?_) (hb f c' s3 H3 (room.deeper _)) (qk i3 x3 hx H3 _ (Grow.trans g g3) λp H'' g4 hp=>⟨g4,p,rfl,hp⟩)) λr s' z=>?_)
 ·have hj:j<fi.length:=by
   rw [LF.len];rcases Nat.lt_or_ge j fr.length with q|q
   ·exact q
   ·rw [uR q] at e1;cases e1
  obtain ⟨n1,n2,n3,n4⟩:=LF.at_ j y fi[j] e1 (yY hj);have es:σ[fi[j]]?=some (some v):=by have z:=congrArg (λl=>l[j]?) hcv;simp only [yP,e2,yY hj,uE,Option.some.injEq] at z;exact z
  obtain ⟨m,_,lk⟩:=I3.loc;obtain ⟨u,rv,look⟩:=lk fi[j] y v n1 es n4;refine ⟨n3,?_⟩;rcases look with ⟨q,_⟩|⟨_,d,q1,q2⟩
  ·rw [n2] at q;cases q
  ·exact ⟨d,u,LF.has y d (yA e1) q1,q2,rv⟩
 ·cases r with
  |error e=>exact z.elim
  |ok fl =>
   cases fl with
   |ret u=>exact z
   |next=>exact False.elim z
   |brk=>exact False.elim z
   |cont=>exact False.elim z
end
end L2
namespace Mi
open PySem L2
def JL:PV->Option (Int×Str)
 | .tup [.at (.int i),.at (.str n)]=>some (i,n)
 |_=>none
theorem Ls {y:PV}{k:Int×Str}(h:JL y=some k):y = .tup [.at (.int k.1),.at (.str k.2)]:=by
 unfold JL at h;split at h
 ·cases h;rfl
 ·cases h
def vw (kb:PV->Option PV):List PV->Option (List (Int×Str))
 |[]=>some []
 |x::xs=>((kb x).bind JL).bind λk=>(vw kb xs).map (k::·)
theorem KD {kb:PV->Option PV}:∀{xs:List PV}{ks:List (Int×Str)},vw kb xs=some ks->ks.length=xs.length
 |[],ks,h=>by cases h;rfl
 |x::xs,ks,h=>by
  obtain ⟨k,_,h2⟩:=uP.mp h;obtain ⟨r,h3,rfl⟩:=yJ.mp h2;rw [yG,yG,KD h3]
theorem KC {kb:PV->Option PV}:∀{xs:List PV}{ks:List (Int×Str)}{i:Nat}{x:PV},vw kb xs=some ks->xs[i]?=some x->∃ k,ks[i]?=some k/\kb x=some (.tup [.at (.int k.1),.at (.str k.2)])
 |[],_,_,_,_,e=>by simp at e
 |y::xs,ks,0,x,h,e=>by
  obtain ⟨k,h1,h2⟩:=uP.mp h;obtain ⟨r,h3,rfl⟩:=yJ.mp h2;obtain ⟨z,h4,h5⟩:=uP.mp h1;simp at e;subst e;exact ⟨k,rfl,by rw [h4,Ls h5]⟩
 |y::xs,ks,i+1,x,h,e=>by
  obtain ⟨k,h1,h2⟩:=uP.mp h;obtain ⟨r,h3,rfl⟩:=yJ.mp h2;obtain ⟨k',a,b⟩:=KC (i:=i) h3 (by simpa using e);exact ⟨k',by simpa using a,b⟩
def qL (ks:List (Int×Str))(i:Nat):Int×Str:=ks.getD i (0, "")
def leI (ks:List (Int×Str))(a b:Nat):Bool:=!k8 (qL ks b) (qL ks a)
def jS (ks:List (Int×Str)):List Nat:=(List.range ks.length).mergeSort (leI ks)
theorem Xp (ks:List (Int×Str)):(jS ks).Perm (List.range ks.length):=List.mergeSort_perm _ _
theorem Px (ks:List (Int×Str)):(jS ks).Pairwise λa b=>k8 (qL ks b) (qL ks a)=false:=by
 have O:=Zi (qL ks);have:=List.pairwise_mergeSort (le:=leI ks) (λa b c h1 h2=>by
  unfold leI at h1 h2 ⊢;simp only [Bool.not_eq_true'] at h1 h2 ⊢;exact Ka.le_trans (lt:=λi j=>k8 (qL ks i) (qL ks j)) O (a:=a) (b:=b) (c:=c) h1 h2) (λa b=>by
  unfold leI;cases h:k8 (qL ks b) (qL ks a) with
  |false=>rfl
  |true =>
   have h2:k8 (qL ks a) (qL ks b)=false:=Ka.le_of_lt (lt:=λi j=>k8 (qL ks i) (qL ks j)) O (a:=b) (b:=a) h;rw [h2];rfl) (List.range ks.length)
 exact this.imp λh=>by unfold leI at h;simpa using h
theorem LV {p q:Int×Str}(h1:k8 p q=false)(h2:k8 q p=false):p=q:=by
 have n1:¬ (p.1<q.1∨(p.1=q.1/\p.2.cps.toList<q.2.cps.toList)):=λz=>by rw [ltK_iff.mpr z] at h1;cases h1
 have n2:¬ (q.1<p.1∨(q.1=p.1/\q.2.cps.toList<p.2.cps.toList)):=λz=>by rw [ltK_iff.mpr z] at h2;cases h2
 have e1:p.1=q.1:=by omega
 have e2:p.2.cps.toList=q.2.cps.toList:=List.le_antisymm (ur.mp λz=>n2 (.inr ⟨e1.symm,z⟩)) (ur.mp λz=>n1 (.inr ⟨e1,z⟩));obtain ⟨i,⟨s⟩⟩:=p;obtain ⟨j,⟨t⟩⟩:=q;cases e1;cases tR.mp e2;rfl
theorem Sn {ks:List (Int×Str)}(nd:ks.Nodup){l:List Nat}(p:l.Perm (List.range ks.length))(u:l.Pairwise λa b=>k8 (qL ks b) (qL ks a)=false):l=jS ks :=
 List.Perm.eq_of_pairwise (λa b ha hb h1 h2=>by
  have la:a<ks.length:=yi.mp (p.mem_iff.mp ha);have lb:b<ks.length:=yi.mp ((Xp ks).mem_iff.mp hb);have e:=LV h2 h1;unfold qL at e;simp only [yN,yY la,yY lb,Option.getD_some] at e;have nd':=List.pairwise_iff_getElem.mp nd;rcases Nat.lt_trichotomy a b with z|z|z
  ·exact absurd e (nd' a b la lb z)
  ·exact z
  ·exact absurd e.symm (nd' b a lb la z)) u (Px ks) (p.trans (Xp ks).symm)
def Vq (kb:PV->Option PV):List PV->Option PV
 |[.lst xs]=>(vw kb xs).bind λks=>if xs.length<64/\ks.Nodup then some (.lst ((jS ks).map λi=>xs.getD i (.at .non))) else none
 |_=>none
theorem Pg {H:Hp}{xs:List PV}{vs:List V}(r:Reps H xs vs):∀{l:List Nat},(∀ i∈l,i<xs.length)->Reps H (l.map λi=>xs.getD i (.at .non)) (l.map λi=>vs.getD i .non)
 |[],_=> .nil
 |i::l,h=>by
  have hi:=h i yT;obtain ⟨v,e1,e2⟩:=r.get (i:=i) (x:=xs.getD i (.at .non)) (by rw [yY hi];simp [hi]);refine .cons ?_ (Pg r λj hj=>h j (yS _ hj));have:vs.getD i .non=v:=by simp [e1]
  show Rep H (xs.getD i (.at .non)) (vs.getD i .non);rw [this];exact e2
section
variable {K:Fg}{t:TA}{tb:TE}{as:MA}{kb:M}
def shs (ε:ME):List Nat->Option (List PV)
 |[]=>some []
 |i::l=>match ε[i]? with
  |some (.sh x)=>(shs ε l).map (x::·)
  |_=>none
theorem Pu {Hs0 H0 Hs H:Hp}{σ:St}{ε:ME}(r:RS Hs0 H0 Hs H σ ε):∀{l:List Nat}{cs:List PV},shs ε l=some cs->∃ cv,(l.map λi=>σ[i]?)=cv.map (λv=>some (some v))/\Reps Hs cs cv
 |[],_,h=>by cases h;exact ⟨[],rfl,.nil⟩
 |i::l,cs,h=>by
  unfold shs at h;split at h
  ·rename_i x hx;obtain ⟨r',h2,rfl⟩:=yJ.mp h;obtain ⟨v,e1,e2⟩:=r.sh i x hx;obtain ⟨cv,e3,e4⟩:=Pu r h2;exact ⟨v::cv,by rw [yI,yI,e1,e3],.cons e2 e4⟩
  ·cases h
def GH (fi:List Nat)(as:MA)(kb:M):M:=λε=>(shs ε fi).bind λcs=>(as ε).bind (Vq λx=>kb (.sh x::cs.map .sh))
instance {fi:List Nat}[sa:xg t as][sb:SemE tb kb]:xh (PX K fi t tb) (GH fi as kb) where
 h:=λ{ε y} h {Hs0 H0 Hs H σ} rs {Q} q=>by
  obtain ⟨cs,h0,h⟩:=uP.mp h;obtain ⟨ys,h1,h2⟩:=uP.mp h;unfold Vq at h2;split at h2
  ·rename_i xs;obtain ⟨ks,h3,h4⟩:=uP.mp h2;split at h4
   ·rename_i hc;cases h4;obtain ⟨cv,ec,rc⟩:=Pu rs h0;refine sa.h h1 rs λvs Hs1 H1 x1 r1=>?_;obtain ⟨v,w,rfl,p1,p2⟩:=reps_cons.mp r1;cases reps_nil.mp p2;obtain ⟨a,xv,rfl,e1,e2⟩:=rep_lst.mp p1;have lx:xv.length=xs.length:=e2.length;have lk:ks.length=xs.length:=KD h3;refine ⟨a,xv,qL ks,cv,rfl,ec,SqL.of (x1.s3 _ _ e1),by omega,λi x hx H' Q' g hq=>?_,λD l H' g n pm pw=>?_⟩
    ·have hi:i<xs.length:=by
      rcases Nat.lt_or_ge i xv.length with z|z
      ·omega
      ·rw [uR z] at hx;cases hx
     obtain ⟨x',e3,e4⟩:=e2.get (i:=i) (x:=xs[i]) (yY hi);rw [hx] at e3;cases e3;obtain ⟨k,e5,e6⟩:=KC h3 (yY hi);have ek:qL ks i=k:=by unfold qL;simp [e5]
     have st:=jR (N:=List.replicate (([x]++cv).length) "") (xs:=xs[i]::cs) (vs:=x::cv) (show Same Hs1 H' from λb o e=>g b o (x1.s3 b o e)) (.cons e4 (rc.mono x1.s1));have lc:cv.length=cs.length:=rc.length;refine sb.h e6 (σ:=([x]++cv).map some) (Hs0:=Hs1) (H0:=H') (Hs:=Hs1) ?_ λv Hs2 H2 x2 r2=>?_
     ·simpa [L2.start,lc] using st
     ·obtain ⟨p,us,rfl,e7,e8⟩:=rep_tup.mp r2;have e9:=e8;rw [show [PV.at (.int k.1),PV.at (.str k.2)]=[V.int k.1,V.str k.2].map .at from rfl] at e9;cases Reps.ats e9;exact hq p H2 (λb o e=>x2.s2 b o e) (by rw [ek];exact x2.s3 _ _ e7)
    ·have el:l=jS ks:=Sn hc.2 (by rw [lk,<- lx];exact pm) pw;subst el;have nH1:H1 D=none:=by
      cases z:H1 D with
      |none=>rfl
      |some o=>rw [g D o z] at n;cases n
     have nH:H D=none:=x1.s2.free nH1;have nS:Hs1 D=none:=x1.s3.free nH1;refine q D Hs1 _ (x1.trans ⟨.refl _,λb o e=>?_,λb o e=>?_,λ_ _ z=>z⟩) nH nS ⟨_,y9,Pg e2 λi hi=>?_⟩
     ·rw [z5 (u6 (g b o e) n)];exact g b o e
     ·have e':=g b o (x1.s3 b o e);rw [z5 (u6 e' n)];exact e'
     ·have:=yi.mp ((Xp ks).mem_iff.mp hi);omega
   ·cases h4
  ·cases h2
end
end Mi
namespace Mi
open PySem L2 PyProof.Rows
section
variable {P:Program}{w:World}{K:Fg}{mg:Str->Option Value}{base:Heap}
theorem okOC {x qual:Str}{st:Stmt}{f:Addr}{fd:FuncData}{N ps:List Str}{k:Nat}{b:MS}{m:List PV->Option PV}(F:Fun K x qual st f fd)(S:w6 N ps (j7 st))(hm:m=qD N.length ps.length b)(hb:∀(A:Around)(outer:List Env)(s:Shared)(H:Hp)(E:XK),Room k (A.deeper (envOfC qual (j7 st) s.heap.objs.size f fd.code)) -> ∃ t,PSs (xj v7 P w K mg base N qual (j7 st) f fd.code A outer s H E).nox (qj st) t/\o4 true t b):FnOk P w K mg base v7 (k+1) f fd ps (m5 m):=by
 subst hm;refine F.okC S (λvs H Q E h=>?_) (λA outer s H vs Q E hr h=>?_)
 ·obtain ⟨Hs,xs,y,_,r,e,_⟩:=h;unfold qD at e;split at e
  ·rename_i hl;rw [r.length];exact hl
  ·cases e
 ·obtain ⟨Hs,xs,y,sm,r,e,q⟩:=h;obtain ⟨t,ht,sem⟩:=hb A outer s H E hr;refine ⟨t,ht,?_⟩;unfold qD at e;split at e
  ·rename_i hl;obtain ⟨o,eo,e1⟩:=bind_some e;refine sem.h eo (by rw [<- hl];exact jR sm r) ?_;cases o with
   |rt z=>cases e1;exact λa Hs' H' x n n' t=>q a Hs' H' x n n' t
   |nx ε=>cases e1
   |bk ε=>cases e1
   |ct ε=>cases e1
  ·cases e
end
end Mi
namespace L2
open PySem PySem.Spec PyProof.Rows
section
variable {X:Cx}{K:Fg}
def BL (K:Fg):V->List V->Hp->VK->Prop:=λo vs H Q=>∃ p xs x j,o = .ref p/\vs=[x]/\SqL K H p xs/\u8 x=true/\xs.all u8=true/\xs.length<=1000000/\(xs[j]?.map λy=>i5 y x)=some true/\(∀(m:Nat)(y:V),m<j->xs[m]?=some y->i5 y x=false)/\Q (.int j) H
theorem Js {x:V}:∀{xs:List V}{us:List Value}{i:Nat}{y:V},Vals xs us->xs.all u8=true->xs[i]?=some y->∃ u,us[i]?=some u/\eqU x u=i5 y x
 |_,_,_,_,.nil,_,h=>by simp at h
 |z::xs,u::us,0,y,.cons r t,f,h=>by
  rw [List.all_cons,yf] at f;cases h;exact ⟨u,rfl,Jr r f.1⟩
 |z::xs,u::us,i+1,y,.cons r t,f,h=>by
  rw [List.all_cons,yf] at f;exact Js (i:=i) t f.2 (by simpa using h)
theorem Ni (hK:X.K=K):MtM X "list.index" (BL K):=by
 subst hK;intro pins s σ H o vs v us Q I ro rv h;obtain ⟨p,xs,x,j,rfl,rfl,hq,fx,fs,hl,hj,hno,q⟩:=h;cases ro;obtain ⟨u,rfl,ru⟩:=rv.one;obtain ⟨its,r,⟨⟨cls,dd,data,sl⟩,n,ho,hc,hd,hs⟩,hz⟩:=I.list hq;simp only at hc hd hs;subst hc hd hs;obtain ⟨y,hy,hyt⟩:=yJ.mp hj;obtain ⟨w,hw,ew⟩:=Js (x:=x) r fs hy;have hlen:=r.length;have jl:j<its.length:=(yL.mp hw).1;have ej:its.toArray[j]'(by simpa using jl)=w:=by have:=(yL.mp hw).2;simpa using this
 refine call_meets F.slot_list_index ⟨_,ho,rfl⟩ F.entry_list_index (F.args_list_index_2 _ _)
  (SeqAt.list_indexAt p its.toArray n none sl u (eqU x) j (by simpa using jl) (by omega) (by rw [ej,ew];exact hyt) (λm hm hmj=>?_)) ⟨ho,λw hw=>wL ru fx r fs w (by simpa using hw),?_⟩
 ·have ml:m<its.length:=by simpa using hm
  obtain ⟨z,hz⟩:∃ z,xs[m]?=some z:=⟨xs[m]'(by omega),yY _⟩;obtain ⟨w2,hw2,ew2⟩:=Js (x:=x) r fs hz;have:its.toArray[m]'hm=w2:=by have:=(yL.mp hw2).2;simpa using this
  rw [this,ew2];exact hno m z hmj hz
 ·exact ⟨.int j,H,I.kept (t':=s.toks+1) λb o e=>e,⟨_,rfl⟩,q⟩
theorem SG (l b:Addr)(i j:Int)(x y:Str)(t u t' u':Tok)(n n2:Nat)(dd dd2:Option Addr)(sl sl2:Array (Option Value)):Meets (Builtin.«tuple.__lt__» ⟨[.ref l,.ref b],[]⟩) (λ_ R s=>s.heap.get? l=some { cls:= .type "tuple",dict:=dd,data:= .seq #[.int i t,.str x u] n,slots:=sl }/\s.heap.get? b=some { cls:= .type "tuple",dict:=dd2,data:= .seq #[.int j t',.str y u'] n2,slots:=sl2 } /\ R (.ok (.ret (.bool (k8 (i,x) (j,y))))) s) :=
 .of_wp λprog w A R s h=>by
  obtain ⟨hp,g,d,tk,os⟩:=s;obtain ⟨hl,hb,h⟩:=h;have f2:=AutoSeq1.sub_tuple_tuple
  wp_walk using wpAny_loadPart' hl,wpAny_loadPart' hb
  show wpAny _ _ (eqBool (.int i t) (.int j t')) _ _ _;refine wpAny_eqBool_int ?_;by_cases e:i=j
  ·subst e;rw [beq_self_eq_true]
   wp_walk
   show wpAny _ _ (eqBool (.str x u) (.str y u')) _ _ _;refine wpAny_eqBool_str ?_;by_cases e2:x=y
   ·subst e2;rw [yy rfl]
    wp_walk
    refine ⟨_,rfl,?_⟩;have z:k8 (i,x) (i,x)=false:=(Zi λ_=>(i,x)).irr 0;rw [z] at h;exact h
   ·rw [yB e2];refine yX (wpAny_rule (yX (show wpAny _ _ (richCompare .Lt (.str x u) (.str y u')) _ _ _ from PyProof.Rows.lt_str ?_)))
    wp_walk
    refine ⟨_,rfl,?_⟩;have z:k8 (i,x) (i,y)=decide (x.cps.toList<y.cps.toList):=by unfold k8;simp
    rw [z] at h;exact h
  ·have e':(i==j)=false:=by simpa using e
   rw [e'];refine yX (wpAny_rule (yX (show wpAny _ _ (richCompare .Lt (.int i t) (.int j t')) _ _ _ from PyProof.Rows.lt_int ?_)))
   wp_walk
   refine ⟨_,rfl,?_⟩;have z:k8 (i,x) (j,y)=decide (i<j):=by unfold k8;simp [e']
   rw [z] at h;exact h
end
section
variable {X:Cx}{K:Fg}
def rLtP (K:Fg):R2:=λx y H Q=>∃ p q i a j b,x = .ref p/\y = .ref q/\SqT K H p [.int i,.str a]/\SqT K H q [.int j,.str b]/\Q (.bl (k8 (i,a) (j,b))) H
theorem Cu {i:Int}{a:Str}{us:List Value}(r:Vals [.int i,.str a] us):∃ t u,us=[.int i t,.str a u]:=by
 cases r with
 |cons p q =>
  cases q with
  |cons p' q'=>cases q';obtain ⟨t,rfl⟩:=p;obtain ⟨u,rfl⟩:=p';exact ⟨t,u,rfl⟩
theorem HR (hu:X.A.units+1<cLine)(hK:X.K=K):OpR X (compareOp .Lt) (rLtP K):=by
 subst hK;intro pins s σ H x y v u Q I rx ry h;obtain ⟨p,q,i,a,j,b,rfl,rfl,h1,h2,k⟩:=h;cases rx;cases ry;obtain ⟨its,r,hl,_⟩:=I.tuple h1;obtain ⟨its2,r2,hl2,_⟩:=I.tuple h2;obtain ⟨t,u,rfl⟩:=Cu r;obtain ⟨t',u',rfl⟩:=Cu r2;obtain ⟨⟨cls,dd,data,sl⟩,ho,hc,n,hd⟩:=id hl;obtain ⟨⟨cls2,dd2,data2,sl2⟩,ho2,hc2,n2,hd2⟩:=id hl2;simp only at hc hd hc2 hd2;subst hc hd hc2 hd2;exact richCompare_meets_room (op:= .Lt) ⟨_,ho,rfl⟩ ⟨_,ho2,rfl⟩ F.slot_tuple_lt F.entry_tuple_lt (F.args_tuple_lt_2 _ _) (SG p q i j a b t u t' u' n n2 dd dd2 sl sl2)
  ⟨ho,ho2,show Value.bool (k8 (i,a) (j,b))≠Value.notImplemented/\EP X pins σ Q (.bool (k8 (i,a) (j,b))) s from ⟨(λx=>nomatch x),.bl _,H,I,rfl,k⟩⟩ (by omega)
end
end L2
namespace Mi
open PySem L2
variable{K:Fg}
variable {fr:Bool}
def wU:PV->PV->Option PV
 | .tup [.at (.int i),.at (.str x)],.tup [.at (.int j),.at (.str y)]=>some (.at (.bl (k8 (i,x) (j,y))))
 |_,_=>none
theorem Pf {H:Hp}{i:Int}{x:Str}{vs:List V}(r:Reps H [.at (.int i),.at (.str x)] vs):vs=[.int i,.str x]:=Reps.ats (us:=[.int i,.str x]) r
instance :xi (rLtP K) wU where
 h:=λ{x y z} e {Hs H v w} s a b {Q} q=>by
  unfold wU at e;split at e
  ·cases e;obtain ⟨p,vs,rfl,e1,r1⟩:=qY s a;obtain ⟨p',ws,rfl,e2,r2⟩:=qY s b;rw [Pf r1] at e1;rw [Pf r2] at e2;exact ⟨p,p',_,_,_,_,rfl,rfl,SqT.of e1,SqT.of e2,q _ _ _ (.refl s) (rep_at.mpr rfl)⟩
  ·cases e
def pRep:PV->PV->Option PV
 | .lst xs,.at (.int k)=>if -(lim:Int)<=k/\k<=lim/\xs.length*k.toNat<=lim then some (.lst (List.replicate k.toNat xs).flatten) else none
 |_,_=>none
theorem Reps.rep {H:Hp}{xs:List PV}{vs:List V}(r:Reps H xs vs):∀ k:Nat,Reps H (List.replicate k xs).flatten (List.replicate k vs).flatten
 |0=> .nil
 |k+1=>by
  rw [uD,uD,yp,yp];exact r.append (Reps.rep r k)
instance:YM rRep pRep where
 h:=λ{x y z} e {Hs H v w} s a b {Q} q=>by
  unfold pRep at e;split at e
  ·split at e
   ·rename_i xs k hl;cases e;obtain ⟨p,vs,rfl,e1,r1⟩:=qa s a;cases b7 b;have hlim:(lim:Int)=1000000:=rfl;exact ⟨p,k,vs,rfl,rfl,e1,by omega,by omega,qW (by rw [r1.length];exact hl.2.2),λl hl=>q l _ _ (.newO s hl) hl (s.free hl) ⟨_,y9,r1.rep _⟩⟩
   ·cases e
  ·cases e
def wA (u:V):List V->Option Nat
 |[]=>none
 |y::ys=>if i5 y u=true then some 0 else (wA u ys).map (·+1)
theorem Kp {u:V}:∀{us:List V}{j:Nat},wA u us=some j->(us[j]?.map λy=>i5 y u)=some true/\∀(m:Nat)(y:V),m<j->us[m]?=some y->i5 y u=false
 |[],_,h=>by cases h
 |y::ys,j,h=>by
  unfold wA at h;split at h
  ·rename_i hy;cases h;exact ⟨by simp [hy],λm y hm=>absurd hm (tY _)⟩
  ·rename_i hy;obtain ⟨k,hk,rfl⟩:=yJ.mp h;obtain ⟨h1,h2⟩:=Kp hk;refine ⟨by simpa using h1,λm z hm hz=>?_⟩;cases m with
   |zero=>cases hz;simpa using hy
   |succ m=>exact h2 m z (by omega) (by simpa using hz)
def Jm (a b:M):M:=λε=>(a ε).bind λx=>(b ε).bind λy=>match x,y with
 | .lst xs,.at u=>(ats xs).bind λus=>if u8 u=true/\us.all u8=true/\us.length<=lim then (wA u us).map λ(j:Nat)=>PV.at (.int (j:Int)) else none
 |_,_=>none
instance {to te:TE}{a b:M}[sa:i4 to a][sb:SemE te b]:SemE (tBM K "list" (BL K) to (i0 te i7)) (Jm a b) where
 h:=λe _ _ _ _ _ rs _ q=>by
  obtain ⟨x,ex,e⟩:=bind_some e;obtain ⟨y,ey,e⟩:=bind_some e;split at e
  ·rename_i xs u;obtain ⟨us,eu,e⟩:=bind_some e;split at e
   ·rename_i hf;obtain ⟨j,hj,rfl⟩:=yJ.mp e;refine sa.h ex rs λv Hs1 H1 x1 r1=>?_;obtain ⟨p,vs,rfl,e1,r2⟩:=qa x1.s3 r1;rw [vd eu] at r2;cases r2.ats;refine ⟨.inl ⟨rfl,_,SqL.of e1⟩,sb.h ey (rs.go x1) λw Hs2 H2 x2 r3=>?_⟩;cases rep_at.mp r3;obtain ⟨j1,j2⟩:=Kp hj;exact ⟨p,us,_,j,rfl,rfl,SqL.of (x2.s2 _ _ e1),hf.1,hf.2.1,hf.2.2,j1,j2,q _ _ _ (x1.trans x2) (rep_at.mpr rfl)⟩
   ·cases e
  ·cases e
def fndR (g:MG)(f:MS)(xs:List PV)(ε:ME)(I:ME->Prop):Option PV->Prop
 |some y=>r9 g f xs ε=some (.rt y)
 |none=>∃ ε',r9 g f xs ε=some (.nx ε')/\I ε'
def stpR (f:MS)(ε:ME)(I:ME->Prop):Option PV->Prop
 |some y=>f ε=some (.rt y)
 |none=>∃ ε',f ε=some (.nx ε')/\I ε'
theorem JS {g:MG}{f:MS}{α:Type}(F:α->PV)(I:ME->Prop)(r:α->Option PV):∀(l:List α)(_:∀ a∈l,∀ ε,I ε->∃ ε1,g (F a) ε=some ε1/\stpR f ε1 I (r a))(ε:ME),I ε->fndR g f (l.map F) ε I (l.findSome? r)
 |[],_,ε,i=>⟨ε,rfl,i⟩
 |a::l,h,ε,i=>by
  obtain ⟨ε1,e1,s⟩:=h a yT ε i;have ih:=JS F I r l λb hb=>h b (yS _ hb);rw [List.findSome?_cons];have st:∀ o,f ε1=some o->r9 g f ((a::l).map F) ε=match o with
   | .nx ε2=>r9 g f (l.map F) ε2
   | .ct ε2=>r9 g f (l.map F) ε2
   | .bk ε2=>some (.nx ε2)
   | .rt y=>some (.rt y):=λo eo=>by
   show Option.bind (g (F a) ε) (λε1=>Option.bind (f ε1) λo=>match o with
    | .nx ε2=>r9 g f (l.map F) ε2
    | .ct ε2=>r9 g f (l.map F) ε2
    | .bk ε2=>some (.nx ε2)
    | .rt y=>some (.rt y))=_
   rw [e1,yE,eo];rfl
  cases hr:r a with
  |some y=>rw [hr] at s;exact st _ s
  |none=>rw [hr] at s;obtain ⟨ε2,e2,i2⟩:=s;have:=st _ e2;have q:=ih ε2 i2;unfold fndR at q ⊢;rw [this];exact q
theorem Mu {it:MA}{g:MG}{f:MS}{xs:List PV}{ε:ME}{I:ME->Prop}{o:Option PV}(h:it ε=some xs)(k:fndR g f xs ε I o):stpR (qJ it g f) ε I o:=by
 cases o with
 |some y=>exact xl h k
 |none=>obtain ⟨ε',e,i⟩:=k;exact ⟨ε',xl h e,i⟩
end Mi
namespace L2
open PySem PySem.Spec PySem.Calls PyProof.Rows
def rSlU (K:Fg):V->Option Int->Option Int->Hp->VK->Prop:=λx lo hi H Q=>∃(a:Addr)(xs:List V)(n:Nat),x = .ref a/\SqT K H a xs/\lo=some (n:Int)/\hi=none/\1<=n/\n<=xs.length/\∀ p,H p=none->Q (.ref p) (j4 H p (.tup (xs.drop n)))
theorem Sk {X:Cx}{K:Fg}(h:X.K=K):SlR X (rSlU K):=by subst h;intro pins s σ H x v vl vu lo hi sl Q I rx hs pl pu h;obtain ⟨a,xs,n,rfl,hx,rfl,rfl,h1,h2,q⟩:=h;cases rx;cases pl;cases pu;obtain ⟨its,r,ht,hz⟩:=I.tuple hx;have hlen:=r.length;refine ⟨"tuple",_,slot_tuple_getitem.lookup,ht.typeIs,?_⟩;refine getItem_tuple_from ht hs h1 (by rw [yW];omega) ?_ (by rw [yW];omega);refine ⟨.ref s.heap.objs.size,_,I.laid (t':=s.toks) (o:= .tup (xs.drop n)) (λb ob q=>yV _ q) (yU _) ?_,rfl,q _ (I.hok.fresh (yU _))⟩;exact ⟨by rw [uu];omega,_,r.drop n,⟨_,yD _ rfl,rfl,_,rfl⟩⟩
end L2
namespace Mi
open PySem L2
variable{l u:ME->Option (Option Int)}
def dSlT (a:M)(l u:ME->Option (Option Int)):M:=λε=>(a ε).bind λx=>(l ε).bind λlo=>(u ε).bind λhi=>match x,lo,hi with
 | .tup xs,some i,none=>if 1<=i/\i.toNat<=xs.length then some (.tup (xs.drop i.toNat)) else none
 |_,_,_=>none
theorem Mn {f:M}{ε:ME}{xs:List PV}{i:Int}(h1:f ε=some (.tup xs))(h2:l ε=some (some i))(h3:u ε=some none)(h4:1<=i/\i.toNat<=xs.length):dSlT f l u ε=some (.tup (xs.drop i.toNat)):=by unfold dSlT;rw [h1];show Option.bind (l ε) _=_;rw [h2];show Option.bind (u ε) _=_;rw [h3];exact if_pos h4
instance {K:Fg}{te:TE}{tl th:TO}{a:M}[sa:i4 te a][sl:we tl l][su:we th u]:SemE (tSl (rSlU K) te tl th) (dSlT a l u) where
 h:=λe _ _ _ _ _ rs _ q=>by
  obtain ⟨x,ex,e1⟩:=bind_some e;obtain ⟨lo,el,e2⟩:=bind_some e1;obtain ⟨hi,eu,e3⟩:=bind_some e2;split at e3
  ·split at e3
   ·rename_i xs i hl;cases e3;refine sa.h ex rs λv Hs1 H1 x1 r1=>sl.h el (rs.go x1) λHs2 H2 x2=>su.h eu ((rs.go x1).go x2) λHs3 H3 x3=>?_;have x13:=x1.trans (x2.trans x3);obtain ⟨p,vs,rfl,e1,r⟩:=qY x3.s3 ((r1.ext x2).ext x3);have hn:vs.length=xs.length:=r.length;refine ⟨p,vs,i.toNat,rfl,SqT.of e1,by congr 1;omega,rfl,by omega,by omega,λd hd=>q _ _ _ (x13.trans (.new x3.s3 hd)) (rep_tup.mpr ⟨d,_,rfl,y9,(r.mono (Ext.new x3.s3 hd).s1).drop _⟩)⟩
   ·cases e3
  ·cases e3
end Mi
namespace L2
open PySem PySem.Spec PySem.Calls PyProof.Rows
variable{x:Str}{e:Expr}{te:TE}{p pos:Pos}{es:List Expr}{t:TA}{h0:Heap}
section
variable {X:Cx}{K:Fg}
theorem y8 {N P:List Str}{sc:Scope}(h1:sc.kind = .function:=by rfl)(h2:sc.isCoroutine=false:=by rfl)(h3:sc.isGenerator=false:=by rfl)(h4:N.Nodup:=by decide +kernel)(h5:N.take P.length=P:=by rfl)(h6:∀ x∈P,sc.names.lookup x=some .local∨sc.names.lookup x=some .cell:=by decide +kernel)(h7:∀ y∈sc.names,y.2 ≠ .free:=by decide +kernel):w6 N P sc:=⟨h1,h2,h3,h4,h5,h6,h7⟩
theorem sW (i:Nat){pos':Pos}(hN:X.N.Nodup)(he:PE X e te)(hi:X.N[i]?=some x:=by rfl)(hx:Loc X.env.scope x:=by first|exact Or.inl rfl|exact Or.inr rfl)(hs:swapsWith e (some (.Name x pos')) pos.line X.env=pure false:=by rfl)(hf:X.fn x=true∨X.env.scope.names.lookup x=some .local:=by first|exact .inl rfl|exact .inr rfl):PS X (.Assign [.Name x pos'] e pos) (zI te (qE i)):=qA hN hi hx he hs hf
theorem aW (ha:PE X e te)(hs:starEach [e] X.env=(false,eval e X.env)::starEach [] X.env:=by rfl):PA X [e] (i0 te i7):=v8 ha u4 hs
theorem aC (ha:PE X e te)(hr:PA X es t)(hs:starEach (e::es) X.env=(false,eval e X.env)::starEach es X.env:=by rfl):PA X (e::es) (i0 te t):=v8 ha hr hs
theorem iW {a b:Expr}{ta tb:TE}(hK:X.K=K)(ha:PE X a ta)(hb:PE X b tb)(hs:YK b:=by exact λ_ _=>rfl):PE X (.Subscript a b pos) (tOp (rIx K) ta tb):=ZG (Lq hK) ha hb hs
end
section
variable {X:Cx}{K:Fg}
theorem fW {ps:List Str}{sp:Sp}{k j:Nat}(c:Fn X.prog X.w X.K X.mg X.base k x ps sp)(hr:Room j X.A)(ha:PA X (e::es) t)(hj:k<=j:=by decide)(hg:Gl X x:=by rfl)(hdb:(x==("__debug__":Str))=false:=by decide)(he:starEach (e::es) X.env=(false,eval e X.env)::starEach es X.env:=by rfl)(hpl:(backTo pos (starEach es X.env)).any (·.1)=false:=by rfl):PE X (.Call (.Name x p) (e::es) [] pos) (jb sp [] E0 t):=qy c hr hj hg ha hdb he hpl
theorem gW (i:Nat)(hN:X.N.Nodup)(hi:X.N[i]?=some x:=by rfl)(hx:Loc X.env.scope x:=by first|exact Or.inl rfl|exact Or.inr rfl)(hf:X.fn x=true∨X.env.scope.names.lookup x=some .local:=by first|exact .inl rfl|exact .inr rfl):PG X (.Name x pos) (qE i):=k9 hN hi hx hf
end
section
variable {P:Program}{w:World}{A:Around}{R:Result->Shared->Prop}{I S:Addr}{fp wr:List Addr}{n:Nat}{Pp:Nat->Value->Prop}{St:Nat->Heap->Prop}
theorem DJ (W:Walks P w A.in1 I fp wr n Pp St)(its:Nat->List Value)(hSf:S∉fp)(lo:h0.objs.size<=S)(hw:∀ b∈wr,h0.get? b=none)(lv:∀ i h,St i h->∀ b∈wr,b<h.objs.size)(hv:∀ i v,Pp i v->∃ b c,v = .ref b/\IsL h0 b (its i).toArray c):∀ (m i:Nat) (s:Shared) (t c ct:Nat) (acc:List Value),n-i=m->i<=n->St i s.heap->(∀ b o,h0.get? b=some o->s.heap.get? b=some o) -> s.heap.get? S=some { cls:= .type "list",dict:=none,data:= .seq #[.ref t] c,slots:=#[] }->IsL s.heap t acc.toArray ct->t∉wr->t≠S->h0.objs.size<=t -> acc.length+((List.range' i (n-i)).flatMap its).length<=sizeLine -> (∀ h' tk t' c',(∀ b o,h0.get? b=some o->h'.get? b=some o)->IsL h' t' (acc++(List.range' i (n-i)).flatMap its).toArray c'->h0.objs.size<=t'->R (.ok (.ret (.ref t'))) { s with heap:=h',toks:=tk }) -> codeAny (model P w) A (.builtin "sum.loop" ⟨[.ref I,.ref S,rawInt 2,rawInt 0],[]⟩) R s:=by
 have hSw:S∉wr:=λz=>hSf (W.sub _ z);have new:∀ b o,h0.get? b=some o->b≠S:=λb o e z=>uT _ (yz (z▸yO e) lo);intro m
 induction m with
 |zero =>
  intro i s t c ct acc hm hi st k0 hS ht tw tS lt sz hR;have hin:i=n:=by omega
  subst hin;refine codeAny_builtin PySem.F.entry_sum_loop ?_;rw [Around.under_plainId PySem.F.plain_sum_loop _];show wpAny _ A.in1 (seqItems? (.ref S) >>= _) _ _ s;refine yX (wpAny_seqItems hS rfl ?_);show wpAny _ A.in1 (tryCatch (pyNext (.ref I)) _ >>= _) _ _ s;refine yX (wpAny_tryCatch (W.done s _ _ st λh' tk kk=>?_));refine yC (hR h' tk t ct (λb o e=>kk b o (λz=>by rw [hw b z] at e;cases e) (k0 b o e)) ?_ lt);rw [Nat.sub_self];simp only [List.range'_zero,List.flatMap_nil,yn];exact kk t _ tw ht
 |succ m ih =>
  intro i s t c ct acc hm hi st k0 hS ht tw tS lt sz hR;have hlt:i<n:=by omega
  have er:List.range' i (n-i)=i::List.range' (i+1) (n-(i+1)):=by rw [show n-i=(n-(i+1))+1 by omega];rfl
  rw [er,tW] at sz hR;rw [yQ] at sz;refine codeAny_builtin PySem.F.entry_sum_loop ?_;rw [Around.under_plainId PySem.F.plain_sum_loop _];show wpAny _ A.in1 (seqItems? (.ref S) >>= _) _ _ s;refine yX (wpAny_seqItems hS rfl ?_);show wpAny _ A.in1 (tryCatch (pyNext (.ref I)) _ >>= _) _ _ s;refine yX (wpAny_tryCatch (W.item i s _ _ hlt st λv h' tk hP st' kk=>?_));obtain ⟨b,cb,rfl,hb⟩:=hv i v hP;have hS':=kk S _ hSw hS;have ht':=kk t _ tw ht;have k1:∀ b o,h0.get? b=some o->h'.get? b=some o:=λb o e=>kk b o (λz=>by rw [hw b z] at e;cases e) (k0 b o e);show wpAny _ A.in1 ((holding [Value.ref b] (binaryOp .Add (.ref t) (.ref b))).attempt >>= _) _ _ _;refine yX (wpAny_attempt (wpAny_holding (PySem.P.add_list ht' (k1 _ _ hb) ?_ (by rw [yW,yW];omega))));have hS1:=yV { cls:= .type "list",data:= .seq (acc.toArray++(its i).toArray) } hS';show wpAny _ A.in1 (updateSeq S (λ_=>#[Value.ref h'.objs.size]) >>= _) _ _ _;refine yX (wpAny_updateSeq hS1 rfl ?_);have hS2:=uo (Obj.mapSeq λ_=>#[Value.ref h'.objs.size]) hS1 rfl;refine yX (wpAny_letGo ?_);have ne:h'.objs.size≠S:=uf (yO hS');have hlo:h0.objs.size<=h'.objs.size:=uS (Nat.lt_of_le_of_lt lo (yO hS'));have oth:∀ b o,b≠S->h'.get? b=some o->(((h'.push { cls:= .type "list",data:= .seq (acc.toArray++(its i).toArray) }).update S (Obj.mapSeq λ_=>#[Value.ref h'.objs.size])).update S (Obj.mapSeq λ_=>#[Value.ref h'.objs.size])).get? b=some o:=λb o nb e=>by
   rw [yb _ _ (Ne.symm nb),yb _ _ (Ne.symm nb)];exact yV _ e
  refine yX (wpAny_updateSeq hS2 rfl (yC ⟨plainId_quiet PySem.F.plain_sum_loop _,ih (i+1) _ h'.objs.size _ 0 (acc++its i) (by omega) hlt (W.frame _ _ _ st' λb z o e=>oth b o (λq=>hSf (q▸z)) e) (λb o e=>oth b o (new b o e) (k1 b o e)) (uo _ hS2 rfl) ?_ (λz=>uT _ (lv _ _ st' _ z)) ne hlo (by rw [yQ];omega) λh2 tk2 t2 c2 k2 l2 lo2=>?_⟩))
  ·show (((h'.push { cls:= .type "list",data:= .seq (acc.toArray++(its i).toArray) }).update S _).update S _).get? h'.objs.size=_;rw [yb _ _ (Ne.symm ne),yb _ _ (Ne.symm ne),yD _ rfl,List.append_toArray]
  ·rw [uZ] at l2;exact hR h2 tk2 t2 c2 k2 l2 lo2
end
section
variable {P:Program}{w:World}{A:Around}{E:Value->Shared->Prop}{s:Shared}{l z:Addr}{bs:List Addr}
theorem CS (v u:Value):argsOk "sum" ⟨[v],[(Str.ofString "start",u)]⟩:=by unfold argsOk;kernel_rfl
theorem Do (u:Value):Builtin.Builtins.bindParams "sum" ["start"] 0 ⟨[],[(Str.ofString "start",u)]⟩=pure [some u]:=by kernel_rfl
theorem Mr:∀(its:List (List Value)),(List.range' 0 its.length).flatMap (λi=>its.getD i [])=its.flatten:=λits=>by
 have go:∀(m i:Nat),its.length-i=m->i<=its.length->(List.range' i m).flatMap (λi=>its.getD i [])=(its.drop i).flatten:=by
  intro m
  induction m with
  |zero=>intro i h hi;rw [List.drop_of_length_le (by omega)];rfl
  |succ m ih =>
   intro i h hi;have hl:i<its.length:=by omega
   rw [List.range'_succ,tW,ih (i+1) (by omega) hl,yc hl,yp,yN,yY hl];rfl
 exact go its.length 0 rfl (yh _)
theorem Sy:isSubtype (.type "list") (.type "bytearray")=pure false:=by rw [isSubtype_type];kernel_rfl
theorem Sz {Q:Value->Shared->Prop}{its:List (List Value)}{cz:Nat}(hh:A.handled=none)(k0:∀ b o,h0.get? b=some o->s.heap.get? b=some o)(hl:s.heap.IsList l (bs.map Value.ref).toArray)(hz:IsL s.heap z #[] cz)(lz:h0.objs.size<=z)(hb:∀ (i:Nat) (b:Addr),bs[i]?=some b->∃ c,IsL h0 b (its.getD i []).toArray c)(el:its.length=bs.length)(sz:its.flatten.length<=sizeLine)(h:∀ h' tk t' c',(∀ b o,h0.get? b=some o->h'.get? b=some o)->IsL h' t' its.flatten.toArray c'->h0.objs.size<=t'->Q (.ref t') { s with heap:=h',toks:=tk }):wpAny (model P w) A (call (.builtin "sum") [.ref l] [(Str.ofString "start",Value.ref z)]) Q E s:=by
 have hTz:s.TypeIs (.ref z) "list":=⟨_,hz,rfl⟩;refine kmb_tree PySem.F.kind_sum PySem.F.plain_sum PySem.F.entry_sum (CS _ _) ?_;show wpAny _ A.in1 (Builtin.Builtins.bindParams "sum" ["start"] 0 ⟨[],[(Str.ofString "start",Value.ref z)]⟩ >>= _) _ _ s;refine yX (wpAny_of_eq (Do _) ?_);have hlt:l<s.heap.objs.size:=by obtain ⟨_,e,_⟩:=hl;exact yO e
 refine yX (wpAny_pyIter_list hl ?_);refine yX (yC ?_);have hz1:=yV { cls:= .type "list_iterator",data:= .fields #[.ref l,.int 0 0] } hz;have hT1:Shared.TypeIs { s with heap:=s.heap.push { cls:= .type "list_iterator",data:= .fields #[.ref l,.int 0 0] } } (.ref z) "list":=⟨_,hz1,rfl⟩;simp only [List.forIn_cons,List.forIn_nil];refine yX (yX (yX (wpAny_isInstance (b:=false) hT1 PySem.F.sub_list_str ?_)));simp only [uQ,if_false];refine yC (yX (yX (wpAny_isInstance (b:=false) hT1 PySem.F.sub_list_bytes ?_)));simp only [uQ,if_false];refine yC (yX (yX (wpAny_isInstance (b:=false) hT1 Sy ?_)));simp only [uQ,if_false];refine yC (yC (yX (wpAny_newObj_type ?_)));have hI:l≠s.heap.objs.size:=yH hlt;have hlo:h0.objs.size<=s.heap.objs.size:=yg lz (uS (yO hz));have zz:z<s.heap.objs.size:=yO hz;have sp:(s.heap.push { cls:= .type "list_iterator",data:= .fields #[.ref l,.int 0 0] }).objs.size=s.heap.objs.size+1:=uI _ _;have en:(bs.map Value.ref).toArray.size=its.length:=by rw [yW,yZ,el]
 have ef:(List.range' 0 ((bs.map Value.ref).toArray.size-0)).flatMap (λi=>its.getD i [])=its.flatten:=by rw [en];exact Mr its
 refine yC ⟨plainId_quiet PySem.F.plain_sum_loop _,DJ (h0:=h0) (S:=(s.heap.push { cls:= .type "list_iterator",data:= .fields #[.ref l,.int 0 0] }).objs.size) (Walks.list (A:=A.in1) hh s.heap.objs.size l hI (bs.map Value.ref).toArray) (λi=>its.getD i []) (λq=>?_) (by rw [sp];exact Nat.le_succ_of_le hlo) (λb hb=>?_) (λi h st b hb=>?_) (λi v hv=>?_) _ 0 _ z _ cz [] rfl (yh _) ⟨⟨_,yV _ (yD _ rfl),rfl,rfl⟩,(hl.push _).push _⟩ (λb o e=>yV _ (yV _ (k0 b o e))) (yD _ rfl) (yV _ hz1) (λq=>?_) (λq=>?_) lz (by rw [ef];simpa using sz) λh' tk t' c' k l' lo'=>?_⟩
 ·rcases yM.mp q with q|q
  ·rw [sp] at q;exact absurd q (Nat.succ_ne_self _)
  ·have q:=yK.mp q;rw [sp] at q;exact uT _ (Nat.lt_trans (uA _) (q▸hlt))
 ·rw [yK.mp hb];exact uk hlo
 ·rw [yK.mp hb];obtain ⟨⟨o,e,_⟩,_⟩:=st;exact yO e
 ·rw [List.getElem?_toArray,yP] at hv;obtain ⟨b,e1,rfl⟩:=yJ.mp hv;obtain ⟨c,e2⟩:=hb i b e1;exact ⟨b,c,rfl,e2⟩
 ·exact uT _ (yK.mp q▸zz)
 ·rw [sp] at q;exact uT _ (Nat.lt_trans (uA _) (q▸zz))
 ·rw [ef,List.nil_append] at l';exact h h' tk t' c' k l' lo'
end
section
variable {X:Cx}
theorem Pa:∀{bs:List Addr}{us:List Value},Vals (bs.map V.ref) us->us=bs.map Value.ref
 |[],us,r=>by cases r;rfl
 |b::bs,us,r=>by
  cases r with
  |cons r1 r2=>rw [Pa r2,show _=Value.ref b from r1];rfl
theorem KP {pins:List (Addr×Obj)}{σ:St}{H:Hp}{s:Shared}(I:Inv X pins σ H s):∀{bs:List Addr}{xss:List (List V)},xss.length=bs.length->(∀(i:Nat)(b:Addr),bs[i]?=some b->H b=some (.lst (xss.getD i []))) -> ∃ iss:List (List Value),iss.length=bs.length/\Vals xss.flatten iss.flatten/\∀(i:Nat)(b:Addr),bs[i]?=some b->∃ c,IsL s.heap b (iss.getD i []).toArray c
 |[],[],_,_=>⟨[],rfl,.nil,λi b z=>by simp at z⟩
 |b::bs,xs::xss,hl,h=>by
  obtain ⟨iss,e1,e2,e3⟩:=KP I (bs:=bs) (xss:=xss) (by simpa using hl) λi b e=>h (i+1) b e;obtain ⟨z,its,n,r,hz,e⟩:=I.lstM (h 0 b rfl);refine ⟨its::iss,by simp [e1],r.append e2,λi b' q=>?_⟩;cases i with
  |zero=>cases q;exact ⟨n,e⟩
  |succ i=>exact e3 i b' q
def PY (K:Fg)(t:TA):TE:=λσ H Q=>t σ H λvs H1=>∃(a:Addr)(bs:List Addr)(xss:List (List V)),vs=[.ref a]/\SqL K H1 a (bs.map V.ref)/\(∀(i:Nat)(b:Addr),bs[i]?=some b->H1 b=some (.lst (xss.getD i [])))/\xss.length=bs.length/\xss.flatten.length<=sizeLine/\∀ p,H1 p=none->Q (.ref p) (j4 H1 p (.lst xss.flatten))
theorem Rl {K:Fg}{kp lp:Pos}(hK:X.K=K)(hc:X.calm=true)(hg:Gl X "sum")(hm:X.mg "sum"=none)(ha:PA X [e] t)(hs:backTo pos (starEach [e] X.env)=(false,eval e X.env)::backTo pos (starEach [] X.env):=by rfl)(hpl:(backTo pos (starEach [e] X.env)).any (·.1)=false:=by rfl):PE X (.Call (.Name "sum" p) [e] [⟨some "start",.List [] lp,kp⟩] pos) (PY K t):=by subst hK;intro pins s σ H Q I h;refine wpAny_Call_Name_kw (zS I hg hm Jg ?_ (by decide) (by decide));refine PyProof.Rows.callWith_kw (v5 (ha pos pins s σ H _ I h) λus s1 ⟨vs,H1,I1,r1,q1⟩=>?_) hs hpl;refine PyProof.Rows.kws_cons (wpAny_List_spliced ?_);obtain ⟨a,bs,xss,rfl,hq,hb,el,sz,q⟩:=q1;obtain ⟨u,rfl,ru⟩:=za r1;obtain rfl:u=Value.ref a:=ru;obtain ⟨its,rv,pl,hz⟩:=I1.list hq;have ei:its=bs.map Value.ref:=Pa rv;subst ei;obtain ⟨iss,e1,e2,e3⟩:=KP I1 el hb;have hl:s1.heap.IsList a (bs.map Value.ref).toArray:=pl.isList;refine Calls.spliced_nil ⟨yh _,PyProof.Rows.kws_nil ?_⟩;show wpAny _ _ (call (.builtin "sum") [.ref a] [(Str.ofString "start",Value.ref s1.heap.objs.size)]) _ _ _;refine Sz (its:=iss) (bs:=bs) (h0:=s1.heap) (cz:=0) (I1.ok.hd hc) (λb o e=>yV _ e) (hl.push _) (yD _ rfl) (yU _) e3 e1 (by rw [<- e2.length];exact sz) λh' tk t' c' k l' lo'=>?_;exact ⟨.ref t',_,I1.laid (o:= .lst xss.flatten) (t':=tk) k lo' ⟨sz,_,c',e2,l'⟩,rfl,q t' (I1.hok.fresh lo')⟩
end
end L2
namespace Mi
open PySem L2
variable{K:Fg}{te:TE}{a f x:M}{ε:ME}{xs:List PV}{H Hs Hs':Hp}{b:Addr}{j n:Nat}{ts:List Nat}{it:MA}{c:MB}
def xT:List PV->Option (List (List PV))
 |[]=>some []
 | .lst ys::xs=>(xT xs).map (ys::·)
 |_::_=>none
theorem KZ {Hs:Hp}:∀{xs:List PV}{yss:List (List PV)}{ws:List V},xT xs=some yss->Reps Hs xs ws->∃(bs:List Addr)(xss:List (List V)),ws=bs.map V.ref/\xss.length=bs.length/\(∀(i:Nat)(b:Addr),bs[i]?=some b->Hs b=some (.lst (xss.getD i [])))/\Reps Hs yss.flatten xss.flatten
 |[],yss,ws,h,r=>by
  cases h;cases reps_nil.mp r;exact ⟨[],[],rfl,rfl,λi b z=>by simp at z,.nil⟩
 |x::xs,yss,ws,h,r=>by
  unfold xT at h;split at h
  ·rename_i e;cases e
  ·rename_i ys xs' e;injection e with e1 e2;subst e1 e2;obtain ⟨zss,hz,rfl⟩:=yJ.mp h;obtain ⟨w,ws',rfl,p,q⟩:=reps_cons.mp r;obtain ⟨b,us,rfl,hb,ru⟩:=rep_lst.mp p;obtain ⟨bs,xss,rfl,e1,e2,e3⟩:=KZ hz q;refine ⟨b::bs,us::xss,rfl,by simp [e1],λi b' z=>?_,ru.append e3⟩;cases i with
   |zero=>cases z;exact hb
   |succ i=>exact e2 i b' z
  ·cases h
def XO (a:M):M:=λε=>(a ε).bind λx=>match x with
 | .lst xs=>(xT xs).bind λyss=>if yss.flatten.length<=lim then some (.lst yss.flatten) else none
 |_=>none
instance [sa:i4 te a]:xh (PY K (i0 te i7)) (XO a) where
 h:=λe _ _ _ _ _ rs _ q=>by
  obtain ⟨x,ex,e1⟩:=bind_some e;split at e1
  ·obtain ⟨yss,ey,e2⟩:=bind_some e1;split at e2
   ·rename_i hl;cases e2;refine sa.h ex rs λv Hs1 H1 x1 r1=>?_;obtain ⟨p,ws,rfl,ep,r2⟩:=qa x1.s3 r1;obtain ⟨bs,xss,rfl,a1,a2,a3⟩:=KZ ey r2;exact ⟨p,bs,xss,rfl,SqL.of ep,λi b z=>x1.s3 _ _ (a2 i b z),a1,qW (by rw [a3.length];exact hl),λp' hp=>q _ _ _ (x1.trans (.newO x1.s3 hp)) (x1.s2.free hp) (x1.s3.free hp) ⟨_,y9,a3⟩⟩
   ·cases e2
  ·cases e1
theorem Mo {yss:List (List PV)}(h:a ε=some (.lst xs))(k:xT xs=some yss)(l:yss.flatten.length<=lim):XO a ε=some (.lst yss.flatten):=by unfold XO;rw [h];show (xT xs).bind _=_;rw [k];exact if_pos l
def Tops (Hs H:Hp):List Addr->List PV->Prop
 |[],[]=>True
 |a::as,w::ws=>Top Hs H a w/\Tops Hs H as ws
 |_,_=>False
theorem Tops.mono {H':Hp}(s1:Same Hs Hs')(s2:Same H H'):∀{as:List Addr}{ws:List PV},Tops Hs H as ws->Tops Hs' H' as ws
 |[],[],_=>trivial
 |_::_,_::_,h=>⟨h.1.mono s1 λo z=>s2 _ _ z,h.2.mono s1 s2⟩
 |[],_::_,h=>h.elim
 |_::_,[],h=>h.elim
theorem Tops.snoc {a:Addr}{w:PV}(t:Top Hs H a w):∀{as:List Addr}{ws:List PV},Tops Hs H as ws->Tops Hs H (as++[a]) (ws++[w])
 |[],[],_=>⟨t,trivial⟩
 |_::_,_::_,h=>⟨h.1,h.2.snoc t⟩
 |[],_::_,h=>h.elim
 |_::_,[],h=>h.elim
theorem Tops.mem :∀{as:List Addr}{ws:List PV},Tops Hs H as ws->b∈as->H b≠none
 |a::as,w::ws,h,hb=>by
  rcases yM.mp hb with rfl|z
  ·exact h.1.there
  ·exact h.2.mem z
 |[],_,_,hb=>nomatch hb
 |_::_,[],h,_=>h.elim
theorem Tops.at {Hs H:Hp}{l:List PV}:∀{as:List Addr}{ls:List (List PV)}{j:Nat},Tops Hs H as (ls.map .lst)->ls[j]?=some l->∃ b,as[j]?=some b/\Top Hs H b (.lst l)
 |a::as,x::ls,0,h,e=>by cases e;exact ⟨a,rfl,h.1⟩
 |a::as,x::ls,j+1,h,e=>Tops.at (as:=as) (ls:=ls) (j:=j) h.2 (by simpa using e)
 |_,[],_,_,e=>by simp at e
 |[],_::_,_,h,_=>h.elim
theorem KU:∀{ys:List PV}{ls:List (List PV)},xT ys=some ls->ys=ls.map .lst
 |[],ls,h=>by cases h;rfl
 |y::ys,ls,h=>by
  unfold xT at h;split at h
  ·rename_i e;cases e
  ·rename_i e;cases e;obtain ⟨zs,hz,rfl⟩:=yJ.mp h;rw [KU hz];rfl
  ·cases h
theorem KW:∀ ls:List (List PV),xT (ls.map .lst)=some ls
 |[]=>rfl
 |l::ls=>by
  show (xT (ls.map .lst)).map (l::·)=_;rw [KW ls];rfl
theorem Tops.share {v:V}{x:PV}{vs:List V}(s1:Same Hs Hs')(hx:Rep Hs x v)(hb:H b=some (.lst vs)):∀{as:List Addr}{ls:List (List PV)},Tops Hs H as (ls.map .lst)->as.Nodup->as[j]?=some b->(∀ a∈as,Hs' a=if a=b then some (.lst (vs++[v])) else H a) -> Reps Hs' ((ls.set j (ls.getD j []++[x])).map .lst) (as.map V.ref):=by
 have no:∀{as:List Addr}{ls:List (List PV)},Tops Hs H as (ls.map .lst)->b∉as->(∀ a∈as,Hs' a=if a=b then some (.lst (vs++[v])) else H a)->Reps Hs' (ls.map .lst) (as.map V.ref):=by
  intro as
  induction as with
  |nil =>
   intro ls t _ _;cases ls with
   |nil=>exact .nil
   |cons _ _=>exact t.elim
  |cons a as ih =>
   intro ls t nb h;cases ls with
   |nil=>exact t.elim
   |cons l ls=>obtain ⟨⟨ws,h1,h2⟩,t2⟩:=t;have ab:a≠b:=λz=>nb (z▸yT);refine .cons (rep_lst.mpr ⟨a,ws,rfl,?_,h2.mono s1⟩) (ih t2 (λz=>nb (yS _ z)) λc hc=>h c (yS _ hc));rw [h a yT,if_neg ab];exact h1
 intro as
 induction as generalizing j with
 |nil=>intro ls t _ e;simp at e
 |cons a as ih =>
  intro ls t nd e h;cases ls with
  |nil=>exact t.elim
  |cons l ls =>
   obtain ⟨⟨ws,h1,h2⟩,t2⟩:=t;obtain ⟨na,nd2⟩:=yu.mp nd;cases j with
   |zero=>obtain rfl:a=b:=Option.some.inj e;rw [h1] at hb;cases hb;refine .cons (rep_lst.mpr ⟨a,_,rfl,?_,(h2.mono s1).snoc (hx.mono s1)⟩) (no t2 na λc hc=>h c (yS _ hc));rw [h a yT,if_pos rfl]
   |succ j =>
    have e':as[j]?=some b:=by simpa using e
    have ab:a≠b:=λz=>na (z▸yA e');refine .cons (rep_lst.mpr ⟨a,ws,rfl,?_,h2.mono s1⟩) (ih t2 nd2 e' λc hc=>h c (yS _ hc));rw [h a yT,if_neg ab];exact h1
theorem RS.hide {Hs0 H0:Hp}{σ:St}(r:RS Hs0 H0 Hs H σ ε)(i:Nat)(v:Option V):RS Hs0 H0 Hs H (σ.set i v) (ε.set i .no):=by
 have dn:∀(j:Nat)(s:MSlot),(ε.set i .no)[j]?=some s->s = .no∨(i≠j/\ε[j]?=some s):=λj s q=>by
  rw [yv] at q;split at q
  ·split at q
   ·cases q;exact .inl rfl
   ·cases q
  ·rename_i h;exact .inr ⟨h,q⟩
 have up:∀(j:Nat),i≠j->(σ.set i v)[j]?=σ[j]?:=λj h=>yq h;refine ⟨r.ext,λj x q=>?_,λj x q=>?_,λj k x y a h1 h2 h3 h4=>?_,by rw [ym,ym,r.len],λj x q=>?_⟩
 ·rcases dn j _ q with z|⟨h,q⟩
  ·cases z
  ·rw [up j h];exact r.sh j x q
 ·rcases dn j _ q with z|⟨h,q⟩
  ·cases z
  ·rw [up j h];exact r.ow j x q
 ·rcases dn j _ h1 with z|⟨g1,q1⟩
  ·cases z
  ·rcases dn k _ h2 with z|⟨g2,q2⟩
   ·cases z
   ·rw [up j g1] at h3;rw [up k g2] at h4;exact r.nd j k x y a q1 q2 h3 h4
 ·rcases dn j _ q with z|⟨h,q⟩
  ·cases z
  ·rw [up j h];exact r.bo j x q
def wm (i:Nat)(cap:List (Option Nat))(ts:List Nat)(it:MA)(g:MG)(c:MB)(f k x:M):MS:=λε=>(it ε).bind λxs=>if xL cap ts=true/\xs.length<=lim/\i<ε.length then (qr g c f (t6 cap ε) xs).bind λys=>(xT ys).bind λls=>(k (ε.set i .no)).bind λkv=>match kv with
 | .at (.int n)=>(x (ε.set i .no)).bind λy=>if 0<=n/\n<ls.length/\(ls.getD n.toNat []).length<=lim then some (.nx (ε.set i (.ow (.lst ((ls.set n.toNat (ls.getD n.toNat []++[y])).map .lst))))) else none
 |_=>none else none
variable {fr:Bool}
instance (priority:=2000){wi:TI}{tg:TG}{tt:TT}{tk tx:TE}{cap:List (Option Nat)}{g:MG}{k:M}{u:TS}{r:MS}[si:zN wi it][sg:jz tg ts g][sc:qR tt c][sf:xh te f][sk:SemE tk k][sx:SemE tx x][sr:o4 fr u r]:o4 fr (tSeq (zI (Qb wi tg tt te cap) (qE n)) (tSeq (jU (tBM K "list" ZN (tOp (rIx K) (qb n) tk) (i0 tx i7))) u)) (v9 (wm n cap ts it g c f k x) r) where
 h:=λ{ε o} e Hs0 H0 Hs H σ rs D q=>by
  obtain ⟨o1,e1,e2⟩:=bind_some e;unfold wm at e1;obtain ⟨xs,ex,e1⟩:=bind_some e1;split at e1
  rotate_left
  ·cases e1
  rename_i hcl;obtain ⟨hcap,hl,hn⟩:=hcl;unfold xL at hcap;rw [yf] at hcap;obtain ⟨ys,ey,e1⟩:=bind_some e1;obtain ⟨ls,el,e1⟩:=bind_some e1;obtain ⟨kv,ek,e1⟩:=bind_some e1;split at e1
  rotate_left
  ·cases e1
  rename_i kk;obtain ⟨y,exx,e1⟩:=bind_some e1;split at e1
  rotate_left
  ·cases e1
  rename_i hk;obtain ⟨k0,k1,k2⟩:=hk;cases e1;cases KU el;refine si.h ex rs λJ Hs1 H1 x1 ok=>?_;have rc:=((rs.go x1).cap (uV hcap.1)).rebase;have wk:∀ i∈ts,(p9 cap σ)[i]?=some none:=λi hi=>by
   unfold p9;rw [yP,uV (uM.mp hcap.2 i hi)];rfl
  refine ⟨λk m zs H=>m=xs.length-k/\k<=xs.length/\∃ Hs2 as ws,zs=as.map V.ref/\Ext Hs1 H1 Hs2 H/\RS Hs1 H0 Hs2 H (p9 cap σ) (t6 cap _)/\Tops Hs2 H as ws/\as.Nodup/\(∀ b∈as,H1 b=none/\Hs2 b=none)/\as.length<=k/\∃ rest,qr g c f (t6 cap _) (xs.drop k)=some rest/\ls.map PV.lst=ws++rest,
   ⟨xs.length,by simp,yh _,Hs1,[],[],rfl,.refl x1.s3,rc,trivial,.nil,(λ_ z=>nomatch z),yU _,_,ey,rfl⟩,?_⟩
  rintro k m zs H2 ⟨rfl,hk,Hs2,as,ws,rfl,x2,r2,tp,nd,nw,hw,rest,er,eys⟩;refine ⟨qW (by rw [yZ];omega),?_⟩;by_cases hlt:k<xs.length
  ·have hd:xs.drop k=xs[k]::xs.drop (k+1):=yc hlt;rw [hd] at er;unfold qr at er;obtain ⟨ε1,eg,er1⟩:=bind_some er;obtain ⟨b,eb,er2⟩:=bind_some er1;obtain ⟨go,yl⟩:=ok.go k xs[k] Hs2 H2 (by simp [hlt]) x2.s1 x2.s3;refine .inr ⟨go,λv H3 y=>?_⟩;obtain ⟨Hs3,x3,r3⟩:=yl v H3 y;refine sg.h eg (r2.go x3) r3 λσ2 rs2 bt=>⟨bt.wk wk,sc.h eb rs2 λHs4 H4 x4=>?_⟩;cases b with
   |true =>
    rw [if_pos rfl] at er2;obtain ⟨z,ez,er3⟩:=bind_some er2;obtain ⟨rest',er4,er5⟩:=bind_some er3;cases er5;refine xS (sf.h ez (rs2.go x4) λa Hs5 H5 x5 na ns t5=>⟨xs.length-(k+1),by omega,rfl,hlt,Hs5,as++[a],ws++[z],by rw [yw];rfl,x2.trans (x3.trans (x4.trans x5)),((r2.go x3).go x4).go x5,(tp.mono (x3.s1.trans (x4.s1.trans x5.s1)) (x3.s2.trans (x4.s2.trans x5.s2))).snoc t5,?_,?_,?_,rest',er4,?_⟩)
    ·refine uG.mpr ⟨nd,by simp,λb hb c hc z=>?_⟩;rw [yK.mp hc] at z;subst z;exact Yh (x3.s2.trans x4.s2) (tp.mem hb) na
    ·intro b hb;rcases yo.mp hb with hb|hb
     ·exact ⟨(nw b hb).1,(x3.trans (x4.trans x5)).s4 b (tp.mem hb) (nw b hb).2⟩
     ·rw [yK.mp hb];exact ⟨(x2.s2.trans (x3.s2.trans x4.s2)).free na,ns⟩
    ·rw [yQ];simp;omega
    ·rw [uZ];exact eys
   |false=>rw [if_neg yR] at er2;exact xR ⟨xs.length-(k+1),by omega,rfl,hlt,Hs4,as,ws,rfl,x2.trans (x3.trans x4),(r2.go x3).go x4,tp.mono (x3.s1.trans x4.s1) (x3.s2.trans x4.s2),nd,λb hb=>⟨(nw b hb).1,(x3.trans x4).s4 b (tp.mem hb) (nw b hb).2⟩,by omega,rest,er2,eys⟩
  ·have ek':k=xs.length:=by omega
   subst ek';rw [ut] at er;unfold qr at er;cases er;refine .inl ⟨ok.stop Hs2 H2 x2.s1 x2.s3,λF hF=>?_⟩;rw [yn] at eys;subst eys;have x12:=x1.trans x2;have xF:Ext Hs2 H2 Hs2 (j4 H2 F (.lst (as.map V.ref))):= .newO x2.s3 hF;have hFl:j4 H2 F (.lst (as.map V.ref)) F=some (.lst (as.map V.ref)):=y9;generalize j4 H2 F (.lst (as.map V.ref))=H3 at xF hFl ⊢;have rs1:=(rs.go (x12.trans xF)).hide n (some (.ref F));have hnσ:(σ.set n (some (V.ref F)))[n]?=some (some (.ref F)):=uU (by rw [rs.len];exact hn);obtain ⟨l,hj⟩:∃ l,ls[kk.toNat]?=some l:=⟨_,yY (by omega)⟩;have gl:ls.getD kk.toNat []=l:=by rw [yN,hj];rfl
   obtain ⟨b,hb,vs,hv,rv⟩:=tp.at hj;have bm:=yA hb;have bF:b≠F:=λz=>by rw [z,hF] at hv;cases hv
   refine ⟨_,hnσ,sk.h ek rs1 λv Hs3 H4 x3 r3=>?_⟩;have ev:v = .int kk:=rep_at.mp r3;subst ev;have h4F:=x3.s2 _ _ hFl;have h4b:=x3.s2 _ _ (xF.s2 _ _ hv);refine .inl ⟨F,as.map V.ref,kk,.ref b,rfl,rfl,SqL.of h4F,?_,.inl ⟨rfl,vs,SqL.of h4b⟩,sx.h exx (rs1.go x3) λv Hs4 H5 x4 r4=>?_⟩
   ·have:kk=((kk.toNat:Nat):Int):=by omega
    rw [this];exact xq (by rw [yP,hb];rfl)
   have h5F:=x4.s2 _ _ h4F;have h5b:=x4.s2 _ _ h4b;rw [gl] at k2;refine ⟨b,vs,v,rfl,rfl,h5b,QE (by rw [rv.length];exact k2),?_⟩;have x25:=xF.trans (x3.trans x4);have xA:=x12.trans x25;have asH:∀ a∈as,H a=none:=λa ha=>x1.s2.free (nw a ha).1;have as5:∀ a∈as,Hs4 a=none:=λa ha=>x25.s4 a (tp.mem ha) (nw a ha).2;have Fa:F∉as:=λz=>tp.mem z hF
   open Classical in
   let Hs6:Hp:=λa=>if a∈as then j4 H5 b (.lst (vs++[v])) a else Hs4 a
   have hin:∀ a,a∈as->Hs6 a=j4 H5 b (.lst (vs++[v])) a:=λa ha=>if_pos ha;have hout:∀ a,a∉as->Hs6 a=Hs4 a:=λa ha=>if_neg ha
   clear_value Hs6
   have s46:Same Hs4 Hs6:=λa w z=>by
    rw [hout a (λy=>by rw [as5 a y] at z;cases z)];exact z
   have xB:Ext Hs H Hs6 (j4 H5 b (.lst (vs++[v]))):=by
    refine ⟨xA.s1.trans s46,λa w z=>?_,λa w z=>?_,λa h1 h2=>?_⟩
    ·rw [z5 (λy=>by rw [y,asH b bm] at z;cases z)];exact xA.s2 _ _ z
    ·by_cases ha:a∈as
     ·rw [hin a ha] at z;exact z
     ·rw [hout a ha] at z;rw [z5 (λy=>ha (by rw [y];exact bm))];exact xA.s3 _ _ z
    ·rw [hout a (λy=>h1 (asH a y))];exact xA.s4 a h1 h2
   refine sr.h e2 ((rs.go xB).putO (i:=n) (a:=F) ⟨rs.ext.s2.free (x12.s2.free hF),?_,as.map V.ref,?_,?_⟩ λj w hj2 z=>?_) q
   ·rw [hout F Fa];exact (x3.trans x4).s4 F (by rw [hFl];exact λz=>nomatch z) (x2.s3.free hF)
   ·rw [z5 bF.symm];exact h5F
   ·refine Tops.share (Hs:=Hs4) (H:=H5) s46 r4 h5b (tp.mono (x3.s1.trans x4.s1) x25.s2) nd hb λa ha=>?_;rw [hin a ha];rfl
   ·obtain ⟨b',hb',_,_,tb⟩:=rs.ow j w hj2;rw [z] at hb';injection hb' with hb';injection hb' with hb';injection hb' with hb';subst hb';exact tb.there (x12.s2.free hF)
theorem GX {cap:List (Option Nat)}{g:MG}{k:M}{ls:List (List PV)}{y:PV}(h:it ε=some xs)(hc:xL cap ts=true)(hl:xs.length<=lim)(hn:n<ε.length)(hd:qr g c f (t6 cap ε) xs=some (ls.map .lst))(hk:k (ε.set n .no)=some (.at (.int (j:Int))))(hx:x (ε.set n .no)=some y)(hj:j<ls.length)(h2:(ls.getD j []).length<=lim):wm n cap ts it g c f k x ε=some (.nx (ε.set n (.ow (.lst ((ls.set j (ls.getD j []++[y])).map .lst))))):=by unfold wm;rw [h,yE,if_pos ⟨hc,hl,hn⟩,hd,yE,KW,yE,hk,yE];show (x (ε.set n .no)).bind _=_;rw [hx,yE,uH];exact if_pos ⟨by omega,by omega,h2⟩
end Mi
namespace Lw
open PySem L2 Mi
variable{rss:List (List Int)}{h j l to:Nat}{α β:Type}{a:M}{Aa b p:Addr}{q qual s x:Str}{H H0:Hp}{n v:Int}{X Y Y' r:List Int}{vs:List V}{Q:VK}{E:XK}{ε:ME}{as:List Addr}{σ:St}{xs:List PV}{u:V}{x1 x2 y:PV}{B8 D4 Ef J5:Tok}{ks:List (Int×Str)}{m:Str×Int}{ms:List (Str×Int)}{ps:List Str}{st:Stmt}{cd ct dc oc pm:Value}{an od:Option Addr}{sl:Array (Option Value)}
variable {P:Program}{w:World}{K:Fg}{mg:Str->Option Value}{base:Heap}{f:Addr}{fd:FuncData}
theorem l0:0<=lim:=by decide
theorem l1:1<=lim:=by decide
theorem l2:2<=lim:=by decide
theorem l3:3<=lim:=by decide
theorem l4:4<=lim:=by decide
theorem l5:5<=lim:=by decide
theorem l6:6<=lim:=by decide
theorem l7:7<=lim:=by decide
theorem l8:8<=lim:=by decide
theorem l9:9<=lim:=by decide
structure n8 (h:Nat)(rss:List (List Int)):Prop where
 len:rss.length=h+1
 row:∀ r∈rss,r.length=h/\∀ v∈r,0<=v/\v<10 ^ 30
def rin (rss:List (List Int))(f g:Int):Int:=((atI rss f).bind λr=>atI r g).getD 0
def qH (rss:List (List Int)):Int->List Int->Int
 |_,[]=>0
 |f,h::r=>rin rss f h+qH rss h r
theorem VO (e:rss.length=h+1)(g:Int):rin rss (-1) g=rin rss (h:Int) g:=by
 unfold rin atI;rw [e];have e1:ixN (h+1) (-1)=some h:=by
  unfold ixN;rw [if_neg (by decide),if_pos (by omega)]
  congr 1
  omega
 have e2:ixN (h+1) (h:Int)=some h:=by
  unfold ixN;rw [if_pos (by omega),if_pos (by omega)]
  congr 1
 rw [e1,e2]
abbrev Wy:=Int×List Int
variable{T:List (List Wy)}{onw ws:List Wy}
def zT (a b:Wy):Wy:=if b.1<a.1 then b else a
def zw (a b:Wy):Wy:=(a.1+b.1,a.2++b.2)
def thr (ws:List Wy)(k:Nat)(onw:List Wy):List Wy:=List.zipWith (λw m=>zT w (zw (ws.getD k (0,[])) m)) ws onw
def qV (T:List (List Wy))(k:Nat):List (List Wy):=T.map λrow=>thr row k (T.getD k [])
def zH (row:List Int):List Wy:=row.mapIdx λi v=>(v,[(i:Int)])
def p6 (rss:List (List Int)):Nat->List (List Wy)
 |0=>rss.map zH
 |k+1=>qV (p6 rss k) k
def y4 (T:List (List Wy))(f g:Nat):Wy:=(T.getD f []).getD g (0,[])
def o8 (rss:List (List Int))(h:Nat):List (List Int):=(p6 rss h).map λrow=>row.map (·.1)
structure Shp (h:Nat)(T:List (List Wy)):Prop where
 len:T.length=h+1
 row:∀ r∈T,r.length=h
theorem k7 {l:List α}{i:Nat}{d:α}(h:i<l.length):l.getD i d=l[i]:=by rw [yN,yY h];rfl
theorem Shp.rowAt (S:Shp h T){f:Nat}(hf:f<=h):(T.getD f []).length=h:=by
 have hl:f<T.length:=by have:=S.len;omega
 rw [k7 hl];exact S.row _ (yt hl)
theorem Cd {k:Nat}(h:ws.length=onw.length):(thr ws k onw).length=ws.length:=by unfold thr;rw [List.length_zipWith,h,Nat.min_self]
theorem Shp.step (S:Shp h T){k:Nat}(hk:k<h):Shp h (qV T k):=by refine ⟨by unfold qV;rw [yZ];exact S.len,λr hr=>?_⟩;unfold qV at hr;obtain ⟨row,hm,rfl⟩:=yF.mp hr;have e1:=S.row row hm;rw [Cd (by rw [e1,S.rowAt (by omega)]),e1]
theorem wp (S:Shp h T){k f g:Nat}(hk:k<h)(hf:f<=h)(hg:g<h):y4 (qV T k) f g=zT (y4 T f g) (zw (y4 T f k) (y4 T k g)):=by
 have hl:f<T.length:=by have:=S.len;omega
 have hl2:f<(qV T k).length:=by unfold qV;rw [yZ];exact hl
 have e1:(qV T k).getD f []=thr (T.getD f []) k (T.getD k []):=by unfold qV;rw [k7 (by rw [yZ];exact hl),ud,k7 hl]
 have r1:=S.rowAt hf;have r2:=S.rowAt (f:=k) (by omega);unfold y4;rw [e1,k7 (by rw [Cd (by rw [r1,r2])];omega),k7 (l:=T.getD f []) (i:=g) (by omega),k7 (l:=T.getD k []) (i:=g) (by omega)];unfold thr;rw [List.getElem_zipWith]
theorem Shp.start (G:n8 h rss):Shp h (p6 rss 0):=by refine ⟨by show (rss.map zH).length=_;rw [yZ];exact G.len,λr hr=>?_⟩;obtain ⟨row,hm,rfl⟩:=yF.mp hr;unfold zH;rw [List.length_mapIdx];exact (G.row row hm).1
theorem Shp.all {h:Nat}{rss:List (List Int)}(G:n8 h rss):∀ k,k<=h->Shp h (p6 rss k)
 |0,_=>Shp.start G
 |k+1,hk=>(Shp.all G k (by omega)).step (by omega)
theorem js (G:n8 h rss){f g:Nat}(hf:f<=h)(hg:g<h):rin rss (f:Int) (g:Int)=(rss.getD f []).getD g 0:=by
 have hl:f<rss.length:=by have:=G.len;omega
 have e1:atI rss (f:Int)=some rss[f]:=xq (yY hl);have hg2:g<rss[f].length:=by rw [(G.row _ (yt hl)).1];exact hg
 have e2:atI rss[f] (g:Int)=some rss[f][g]:=xq (yY hg2);unfold rin;rw [e1];show (atI rss[f] (g:Int)).getD 0=_;rw [e2,k7 hl,k7 hg2];rfl
theorem XS (G:n8 h rss){f g:Nat}(hf:f<=h)(hg:g<h):y4 (p6 rss 0) f g=(rin rss (f:Int) (g:Int),[(g:Int)]):=by
 have hl:f<rss.length:=by have:=G.len;omega
 have hl2:f<(rss.map zH).length:=by rw [yZ];exact hl
 have hg2:g<rss[f].length:=by rw [(G.row _ (yt hl)).1];exact hg
 rw [js G hf hg];unfold y4;show ((rss.map zH).getD f []).getD g (0,[])=_;rw [k7 hl2,ud,k7 (by unfold zH;rw [List.length_mapIdx];exact hg2),k7 hl,k7 hg2];unfold zH;rw [List.getElem_mapIdx]
theorem Ph (G:n8 h rss){f g:Nat}(hf:f<=h)(hg:g<h):0<=rin rss (f:Int) (g:Int):=by
 have hl:f<rss.length:=by have:=G.len;omega
 have hg2:g<rss[f].length:=by rw [(G.row _ (yt hl)).1];exact hg
 rw [js G hf hg,k7 hl,k7 hg2];exact ((G.row _ (yt hl)).2 _ (yt hg2)).1
theorem ZW {rss:List (List Int)}:∀{xs ys:List Int}{f g:Int},xs.getLast?=some g->qH rss f (xs++ys)=qH rss f xs+qH rss g ys
 |[],_,_,_,e=>by simp at e
 |[x],ys,f,g,e=>by
  have e':x=g:=by simpa using e
  subst e';show rin rss f x+qH rss x ys=rin rss f x+0+qH rss x ys;omega
 |x::y::r,ys,f,g,e=>by
  have q:=ZW (rss:=rss) (xs:=y::r) (ys:=ys) (f:=x) (g:=g) (by simpa [List.getLast?_cons_cons] using e);show rin rss f x+qH rss x (y::r++ys)=rin rss f x+qH rss x (y::r)+qH rss g ys;rw [q];omega
structure WayOk (rss:List (List Int))(h:Nat)(f g:Nat)(w:Wy):Prop where
 sum:w.1=qH rss (f:Int) w.2
 last:w.2.getLast?=some (g:Int)
 ok:∀ x∈w.2,0<=x/\x<(h:Int)
structure FW (rss:List (List Int))(h k:Nat)(T:List (List Wy)):Prop where
 way:∀ f g,f<=h->g<h->WayOk rss h f g (y4 T f g)
 pos:∀ f g,f<=h->g<h->0<=(y4 T f g).1
 le:∀ f g,f<=h->g<h->(y4 T f g).1<=rin rss (f:Int) (g:Int)
 tri:∀ j f g,j<k->f<=h->g<h->(y4 T f g).1<=(y4 T f j).1+(y4 T j g).1
 len:∀ f g,f<=h->g<h->(y4 T f g).2.length<=2 ^ k
theorem wE (a b:Wy):(zT a b=a/\a.1<=b.1)∨(zT a b=b/\b.1<a.1):=by
 unfold zT;by_cases h:b.1<a.1
 ·rw [if_pos h];exact .inr ⟨rfl,h⟩
 ·rw [if_neg h];exact .inl ⟨rfl,by omega⟩
theorem LP (a b:Wy):(zT a b).1<=a.1/\(zT a b).1<=b.1:=by
 rcases wE a b with ⟨e,q⟩|⟨e,q⟩
 ·rw [e];exact ⟨uC _,q⟩
 ·rw [e];exact ⟨Int.le_of_lt q,uC _⟩
theorem WayOk.join {f k g:Nat}{a b:Wy}(x:WayOk rss h f k a)(y:WayOk rss h k g b):WayOk rss h f g (zw a b):=by
 refine ⟨?_,?_,λz hz=>?_⟩
 ·show a.1+b.1=qH rss f (a.2++b.2);rw [ZW x.last,x.sum,y.sum]
 ·show (a.2++b.2).getLast?=_;rw [List.getLast?_append,y.last];rfl
 ·rcases yo.mp hz with q|q
  ·exact x.ok z q
  ·exact y.ok z q
theorem FW.start (G:n8 h rss):FW rss h 0 (p6 rss 0):=by
 refine ⟨λf g hf hg=>?_,λf g hf hg=>?_,λf g hf hg=>?_,λj f g hj=>absurd hj (by omega),λf g hf hg=>?_⟩
 ·rw [XS G hf hg];refine ⟨?_,rfl,λx hx=>?_⟩
  ·show rin rss f g=rin rss f g+0;omega
  ·have e:x=(g:Int):=by simpa using hx
   rw [e];omega
 ·rw [XS G hf hg];exact Ph G hf hg
 ·rw [XS G hf hg];exact uC _
 ·rw [XS G hf hg];exact yU 1
theorem FW.step {k:Nat}(S:Shp h T)(x:FW rss h k T)(hk:k<h):FW rss h (k+1) (qV T k):=by
 have kl:k<=h:=by omega
 have toK:∀ f,f<=h->(y4 (qV T k) f k).1=(y4 T f k).1:=λf hf=>by
  rw [wp S hk hf hk];rcases wE (y4 T f k) (zw (y4 T f k) (y4 T k k)) with ⟨e,q⟩|⟨e,q⟩
  ·rw [e]
  ·have p:=x.pos k k kl hk;have q':(y4 T f k).1+(y4 T k k).1<(y4 T f k).1:=q;omega
 have ofK:∀ g,g<h->(y4 (qV T k) k g).1=(y4 T k g).1:=λg hg=>by
  rw [wp S hk kl hg];rcases wE (y4 T k g) (zw (y4 T k k) (y4 T k g)) with ⟨e,q⟩|⟨e,q⟩
  ·rw [e]
  ·have p:=x.pos k k kl hk;have q':(y4 T k k).1+(y4 T k g).1<(y4 T k g).1:=q;omega
 have bound:∀ f g,f<=h->g<h->(y4 (qV T k) f g).1<=(y4 T f g).1/\(y4 (qV T k) f g).1<=(y4 T f k).1+(y4 T k g).1:=λf g hf hg=>by
  rw [wp S hk hf hg];exact LP _ _
 have alt:∀ f g,f<=h->g<h->(y4 (qV T k) f g).1=(y4 T f g).1∨(y4 (qV T k) f g).1=(y4 T f k).1+(y4 T k g).1:=λf g hf hg=>by
  rw [wp S hk hf hg];rcases wE (y4 T f g) (zw (y4 T f k) (y4 T k g)) with ⟨e,q⟩|⟨e,q⟩
  ·rw [e];exact .inl rfl
  ·rw [e];exact .inr rfl
 refine ⟨λf g hf hg=>?_,λf g hf hg=>?_,λf g hf hg=>uy (bound f g hf hg).1 (x.le f g hf hg),λj f g hj hf hg=>?_,λf g hf hg=>?_⟩
 ·rw [wp S hk hf hg];rcases wE (y4 T f g) (zw (y4 T f k) (y4 T k g)) with ⟨e,_⟩|⟨e,_⟩
  ·rw [e];exact x.way f g hf hg
  ·rw [e];exact (x.way f k hf hk).join (x.way k g kl hg)
 ·rcases alt f g hf hg with e|e
  ·rw [e];exact x.pos f g hf hg
  ·rw [e];have p1:=x.pos f k hf hk;have p2:=x.pos k g kl hg;omega
 ·by_cases hjk:j=k
  ·subst hjk;rw [toK f hf,ofK g hg];exact (bound f g hf hg).2
  ·have hj':j<k:=by omega
   have jl:j<=h:=by omega
   have jh:j<h:=by omega
   have b:=bound f g hf hg;have t1:=x.tri j f g hj' hf hg;have t2:=x.tri j f k hj' hf hk;have t3:=x.tri j k g hj' kl hg;have t4:=x.pos k j kl jh;have t5:=x.pos j k jl hk;rcases alt f j hf jh with e1|e1<;>rcases alt j g jl hg with e2|e2<;>rw [e1,e2]<;>omega
 ·rw [wp S hk hf hg];have e:2 ^ (k+1)=2 ^ k+2 ^ k:=by rw [Nat.pow_succ];omega
  rcases wE (y4 T f g) (zw (y4 T f k) (y4 T k g)) with ⟨q,_⟩|⟨q,_⟩
  ·rw [q];have:=x.len f g hf hg;omega
  ·rw [q];have a1:=x.len f k hf hk;have a2:=x.len k g kl hg;show ((y4 T f k).2++(y4 T k g).2).length<=_;rw [yQ];omega
theorem FW.all {h:Nat}{rss:List (List Int)}(G:n8 h rss):∀ k,k<=h->FW rss h k (p6 rss k)
 |0,_=>FW.start G
 |k+1,hk=>FW.step (Shp.all G k (by omega)) (FW.all G k (by omega)) (by omega)
theorem JU (G:n8 h rss){f g:Nat}(hf:f<=h)(hg:g<h):((o8 rss h).getD f []).getD g 0=(y4 (p6 rss h) f g).1:=by
 have S:=Shp.all G h (yU _);have hl:f<(p6 rss h).length:=by have:=S.len;omega
 have hl2:f<(o8 rss h).length:=by unfold o8;rw [yZ];exact hl
 have r:=S.rowAt hf;rw [k7 hl] at r;unfold y4;rw [k7 hl,k7 (l:=(p6 rss h)[f]) (by omega)];unfold o8;rw [k7 (l:=(p6 rss h).map λrow=>row.map (·.1)) (i:=f) (by rw [yZ];exact hl),ud,k7 (by rw [yZ];omega),ud]
theorem jF (G:n8 h rss):n8 h (o8 rss h):=by
 have S:=Shp.all G h (yU _);have F:=FW.all G h (yU _);refine ⟨by unfold o8;rw [yZ];exact S.len,λr hr=>?_⟩;unfold o8 at hr;obtain ⟨row,hm,rfl⟩:=yF.mp hr;refine ⟨by rw [yZ];exact S.row row hm,λv hv=>?_⟩;obtain ⟨w,hw,rfl⟩:=yF.mp hv;obtain ⟨f,hf,rfl⟩:=uK hm;obtain ⟨g,hg,rfl⟩:=uK hw;have hf':f<=h:=by have:=S.len;omega
 have hg':g<h:=by rw [<- S.row _ hm];exact hg
 have e:y4 (p6 rss h) f g=(p6 rss h)[f][g]:=by unfold y4;rw [k7 hf,k7 hg]
 have p:=F.pos f g hf' hg';have l:=F.le f g hf' hg';rw [e] at p l;refine ⟨p,Int.lt_of_le_of_lt l ?_⟩;have hl:f<rss.length:=by have:=G.len;omega
 have hg2:g<rss[f].length:=by rw [(G.row _ (yt hl)).1];exact hg'
 rw [js G hf' hg',k7 hl,k7 hg2];exact ((G.row _ (yt hl)).2 _ (yt hg2)).2
theorem JV (G:n8 h rss){f g:Nat}(hf:f<=h)(hg:g<h):rin (o8 rss h) (f:Int) (g:Int)=(y4 (p6 rss h) f g).1:=by rw [js (jF G) hf hg,JU G hf hg]
theorem CC {rss:List (List Int)}{h:Nat}(G:n8 h rss):∀(hs:List Int)(f:Nat),f<=h->(∀ x∈hs,0<=x/\x<(h:Int))->0<=qH rss (f:Int) hs
 |[],_,_,_=>uC _
 |x::r,f,hf,ho=>by
  obtain ⟨x0,x1⟩:=ho x yT;obtain ⟨m,rfl⟩:=yj x0;have q:=CC G r m (by omega) λy hy=>ho y (yS _ hy);have p:=Ph G hf (g:=m) (by omega);show 0<=rin rss f m+qH rss m r;omega
theorem Pw {rss:List (List Int)}{h:Nat}(G:n8 h rss){g:Nat}(hg:g<h):∀(mids:List Int)(f:Nat),f<=h->(∀ x∈mids,0<=x/\x<(h:Int)) -> ∃ ms:List Int,ms.Nodup/\(∀ x∈ms,x∈mids)/\qH rss (f:Int) (ms++[(g:Int)])<=qH rss (f:Int) (mids++[(g:Int)])
 |[],_,_,_=>⟨[],ug,λ_ z=>z,uC _⟩
 |x::r,f,hf,ho=>by
  obtain ⟨x0,x1⟩:=ho x yT;obtain ⟨m,rfl⟩:=yj x0;obtain ⟨ms,hn,hs,hw⟩:=Pw G hg r m (by omega) λy hy=>ho y (yS _ hy);by_cases hm:(m:Int)∈ms
  ·obtain ⟨p,s,rfl⟩:=List.append_of_mem hm;have hn2:=uG.mp hn;refine ⟨(m:Int)::s,hn2.2.1,λy hy=>?_,?_⟩
   ·rcases yM.mp hy with e|hy
    ·rw [e];exact yT
    ·exact yS _ (hs y (yr _ (yS _ hy)))
   ·have e1:p++(m:Int)::s++[(g:Int)]=(p++[(m:Int)])++(s++[(g:Int)]):=by simp
    rw [e1,ZW (g:=(m:Int)) (by simp)] at hw;have nn:=CC G (p++[(m:Int)]) m (by omega) (λy hy=>by
     rcases yo.mp hy with hy|hy
     ·exact ho y (yS _ (hs y (uX _ hy)))
     ·rw [yK.mp hy];exact ⟨x0,x1⟩)
    show rin rss f m+qH rss m (s++[(g:Int)])<=rin rss f m+qH rss m (r++[(g:Int)]);omega
  ·refine ⟨(m:Int)::ms,yu.mpr ⟨hm,hn⟩,λy hy=>?_,?_⟩
   ·rcases yM.mp hy with e|hy
    ·rw [e];exact yT
    ·exact yS _ (hs y hy)
   ·show rin rss f m+qH rss m (ms++[(g:Int)])<=rin rss f m+qH rss m (r++[(g:Int)]);omega
def Zb (h:Nat):List Int:=(List.range h).map λ(i:Nat)=>(i:Int)
theorem mem_huesL {x:Int}:x∈Zb h↔0<=x/\x<(h:Int):=by
 unfold Zb;constructor
 ·intro hx;obtain ⟨i,hi,rfl⟩:=yF.mp hx;have:=yi.mp hi;omega
 ·intro hx;exact yF.mpr ⟨x.toNat,yi.mpr (by omega),by omega⟩
theorem Vj {α:Type}[DecidableEq α]:∀{ms left:List α},ms.Nodup->(∀ x∈ms,x∈left)->ms.length<=left.length
 |[],_,_,_=>yh _
 |x::r,left,hn,hs=>by
  have hn':=yu.mp hn;have q:=Vj (ms:=r) (left:=left.erase x) hn'.2 (λy hy=>(List.mem_erase_of_ne (λe=>hn'.1 (by rw [e] at hy;exact hy))).mpr (hs y (yS _ hy)));have hx:=hs x yT;rw [List.length_erase_of_mem hx] at q;have pos:0<left.length:=List.length_pos_of_mem hx;show r.length+1<=_;omega
def Qm (rss:List (List Int))(h:Nat)(row:List Int):List Int:=(List.range h).map λg=>wM (row.getD g 0::(List.range h).map λa=>row.getD a 0+(rss.getD a []).getD g 0)
def bfN (rss:List (List Int))(h:Nat):Nat->List (List Int)
 |0=>rss
 |k+1=>(bfN rss h k).map (Qm rss h)
theorem Je {rss:List (List Int)}{h:Nat}(G:n8 h rss):∀ k,(bfN rss h k).length=h+1/\∀ r∈bfN rss h k,r.length=h
 |0=>⟨G.len,λr hr=>(G.row r hr).1⟩
 |k+1=>by
  have ih:=Je G k;refine ⟨by show ((bfN rss h k).map _).length=_;rw [yZ];exact ih.1,λr hr=>?_⟩;obtain ⟨q,_,rfl⟩:=yF.mp hr;unfold Qm;rw [yZ,uL]
def m6 (rss:List (List Int))(h k f g:Nat):Int:=((bfN rss h k).getD f []).getD g 0
theorem XF (G:n8 h rss){k f g:Nat}(hf:f<=h)(hg:g<h):m6 rss h (k+1) f g=wM (m6 rss h k f g::(List.range h).map λa=>m6 rss h k f a+rin rss (a:Int) (g:Int)):=by
 have L:=Je G k;have hl:f<(bfN rss h k).length:=by omega
 unfold m6;show (((bfN rss h k).map (Qm rss h)).getD f []).getD g 0=_;rw [k7 (l:=(bfN rss h k).map (Qm rss h)) (i:=f) (by rw [yZ];exact hl),ud,k7 (l:=bfN rss h k) (i:=f) hl];unfold Qm;rw [k7 (by rw [yZ,uL];exact hg),ud,List.getElem_range]
 congr 2
 refine List.map_congr_left λa ha=>?_;rw [js G (by have:=yi.mp ha;omega) hg]
theorem XG {rss:List (List Int)}{h:Nat}(G:n8 h rss):∀ k f g,f<=h->g<h->(y4 (p6 rss h) f g).1<=m6 rss h k f g
 |0,f,g,hf,hg=>by
  have q:=(FW.all G h (yU _)).le f g hf hg;rw [js G hf hg] at q;exact q
 |k+1,f,g,hf,hg=>by
  rw [XF G hf hg];have m:=Vd (l:=m6 rss h k f g::(List.range h).map λa=>m6 rss h k f a+rin rss (a:Int) (g:Int)) (by simp);rcases yM.mp m with e|e
  ·rw [e];exact XG G k f g hf hg
  ·obtain ⟨a,ha,e2⟩:=yF.mp e;rw [<- e2];have ha':=yi.mp ha;have F:=FW.all G h (yU _);have i:=XG G k f a hf ha';have t:=F.tri a f g ha' hf hg;have l:=F.le a g (by omega) hg;omega
theorem Jf {rss:List (List Int)}{h:Nat}(G:n8 h rss):∀(k:Nat)(ms:List Int)(f g:Nat),f<=h->g<h->(∀ x∈ms,0<=x/\x<(h:Int))->ms.length<=k->m6 rss h k f g<=qH rss (f:Int) (ms++[(g:Int)])
 |0,ms,f,g,hf,hg,_,hl=>by
  have:ms=[]:=uw.mp (by omega);subst this;show _<=rin rss f g+0;rw [js G hf hg];show (rss.getD f []).getD g 0<=_;omega
 |k+1,ms,f,g,hf,hg,ho,hl=>by
  rw [XF G hf hg];by_cases hk:ms.length<=k
  ·exact uy (Zz yT) (Jf G k ms f g hf hg ho hk)
  ·have hne:ms≠[]:=λz=>by rw [z] at hk;simp at hk
   have e:=List.dropLast_concat_getLast hne;obtain ⟨x0,x1⟩:=ho (ms.getLast hne) (List.getLast_mem hne);obtain ⟨a,ha⟩:=yj x0;rw [ha] at x1 e;have i:=Jf G k ms.dropLast f a hf (by omega) (λx hx=>ho x ((List.dropLast_sublist ms).subset hx)) (by rw [List.length_dropLast];omega);refine uy (Zz (yS _ (yF.mpr ⟨a,yi.mpr (by omega),rfl⟩))) ?_;rw [<- e,ZW (g:=(a:Int)) (by simp)];show _<=qH rss f (ms.dropLast++[(a:Int)])+(rin rss a g+0);omega
theorem Dc (G:n8 h rss):bfN rss h h=o8 rss h:=by
 have L:=Je G h;have G2:=jF G;have F:=FW.all G h (yU _);refine List.ext_getElem (by rw [L.1,G2.len]) λf h1 h2=>?_;have hf:f<=h:=by omega
 refine List.ext_getElem (by rw [L.2 _ (yt h1),(G2.row _ (yt h2)).1]) λg g1 g2=>?_;have hg:g<h:=by rw [L.2 _ (yt h1)] at g1;exact g1
 have a1:m6 rss h h f g=(bfN rss h h)[f][g]:=by unfold m6;rw [k7 h1,k7 g1]
 have a2:=JU G hf hg;rw [k7 h2,k7 g2] at a2;rw [<- a1,a2];refine Int.le_antisymm ?_ (XG G h f g hf hg);have W:=F.way f g hf hg;obtain ⟨mids,e⟩:∃ mids,(y4 (p6 rss h) f g).2=mids++[(g:Int)]:=by
  have ne:(y4 (p6 rss h) f g).2≠[]:=λz=>by have q:=W.last;rw [z] at q;cases q
  refine ⟨(y4 (p6 rss h) f g).2.dropLast,?_⟩;have q:=List.dropLast_concat_getLast ne;have q2:(y4 (p6 rss h) f g).2.getLast ne=(g:Int):=by have q3:=W.last;rw [List.getLast?_eq_some_getLast ne] at q3;exact Option.some.inj q3
  rw [q2] at q;exact q.symm
 have hmid:∀ x∈mids,0<=x/\x<(h:Int):=λx hx=>W.ok x (by rw [e];exact uX _ hx);obtain ⟨ms,hn,hs,hw⟩:=Pw G hg mids f hf hmid;have sub:∀ x∈ms,x∈Zb h:=λx hx=>mem_huesL.mpr (hmid x (hs x hx));have lm:ms.length<=h:=by have q:=Vj hn sub;unfold Zb at q;rw [yZ,uL] at q;exact q
 have b:=Jf G h ms f g hf hg (λx hx=>hmid x (hs x hx)) lm;have s:=W.sum;rw [e] at s;omega
def top (i:Nat):Stmt:=PySem.Challenge.pw_rinsework_k68_whole_trays_to_due_order.main.body.getD i (.Pass ⟨0,0,0,0⟩)
abbrev WF:Stmt:=top 62
abbrev ZQ:Stmt:=top 63
abbrev Wg:Stmt:=top 64
theorem ZR (h:H p=none)(o:HO):Same H (j4 H p o):=λb u q=>by rw [z5 (u6 q h)];exact q
theorem sizes {n:Nat}(h:n<=1000):n<=sizeLine:=uS (wZ h)
def Yl:Sp:=λvs H Q _=>∃ c k:Int,vs=[.int c,.int k]/\0<=k/\k<=100/\∀ v:Int,0<=v->v<2147483648->Q (.int v) H
def Pz (K:Fg):Sp:=λvs H Q _=>∃(a:Addr)(ns:List Int)(k:Int),vs=[.ref a,.int k]/\SqL K H a (ns.map V.int)/\ns.length<=63/\0<=k/\k<=12 /\
 ∀(r:Addr)(n:Int)(H':Hp),H r=none->Same H H'->H' r=some (.lst [.int n])->Q (.ref r) H'
section
theorem sc_digit:w6 ["row","many","digit"] ["row","many"] (j7 Wg):=y8
theorem NH (F:Fun K "_law_digit" "_law_digit" Wg f fd):FnOk P w K mg base v7 1 f fd ["row","many"] jv:=by
 refine F.ok sc_digit (λvs H Q E h=>?_) (λcdv A outer s H vs Q E hr h=>?_)
 ·obtain ⟨a,n,m,rfl,_⟩:=h;rfl
 obtain ⟨a,n,m,rfl,hH,hm,q⟩:=h;refine ⟨_,(z8 (qA (i:=2) sc_digit.nd rfl (Or.inl rfl) (u5 vD (ZG (JK (K:=K) rfl) (pv 0) z0 (λ_ _=>rfl)) (pv 1)))
  (z8 (VE (u5 Bn (ZG (JK (K:=K) rfl) (pv 0) z0 (λ_ _=>rfl)) (pv 1)) (Bw (pv 0) z0 Pr))
  (z7 (w5 (pv 2))))),?_⟩
 refine ⟨_,rfl,a,_,0,_,rfl,rfl,SqL.of hH,rfl,_,rfl,n,m,rfl,rfl,hm.1,?_⟩;refine ⟨_,rfl,a,_,0,_,rfl,rfl,SqL.of hH,rfl,_,rfl,n,m,rfl,rfl,hm,?_⟩;refine ⟨_,rfl,a,_,0,0,rfl,rfl,hH,rfl,?_⟩;exact ⟨_,rfl,q⟩
theorem sc_mixed:w6 ["cell","k","stir"] ["cell","k"] (j7 WF):=y8
theorem Hi (F:Fun K "_law_mixed" "_law_mixed" WF f fd):FnOk P w K mg base v7 1 f fd ["cell","k"] Yl:=by
 refine F.ok sc_mixed (λvs H Q E h=>?_) (λcdv A outer s H vs Q E hr h=>?_)
 ·obtain ⟨c,k,rfl,_⟩:=h;rfl
 obtain ⟨c,k,rfl,k0,k1,q⟩:=h;refine ⟨_,(z8 (qA (i:=2) sc_mixed.nd rfl (Or.inl rfl) (u5 vD (u5 wR (u5 op_add (u5 op_add (u5 vD (pv 0) z0) (u5 wR z0 (pv 1))) z0) z0) z0))
  (z7 (w5 (u5 vD (u5 wR (u5 vD (u5 wR (pv 2) (pv 2)) z0) z0) z0)))),?_⟩
 refine ⟨_,rfl,_,_,rfl,rfl,(by show (0:Int)<1000000007;decide),_,rfl,_,_,rfl,rfl,.inl ⟨by decide,by decide⟩,_,_,rfl,rfl,_,_,rfl,rfl,_,_,rfl,rfl,.inr ⟨by decide,by decide⟩,_,_,rfl,rfl,(by show (0:Int)<2147483647;decide),?_⟩;generalize hone:(c % 1000000007+7919*k+1)*48271 % 2147483647=one;have o0:0<=one:=by rw [<- hone];exact yd _ (by decide)
 have o1:one<2147483647:=by rw [<- hone];exact yk _ (by decide)
 refine ⟨_,rfl,_,rfl,_,_,rfl,rfl,.inl ⟨by omega,by omega⟩,_,_,rfl,rfl,(by show (0:Int)<2147483629;decide),_,_,rfl,rfl,.inr ⟨by decide,by decide⟩,_,_,rfl,rfl,(by show (0:Int)<2147483647;decide),?_⟩;exact q _ (yd _ (by decide)) (Int.lt_trans (yk _ (by decide)) (by decide))
end
def MM:Int:=10 ^ (60:Int).toNat
theorem Xy:0<MM:=by decide +kernel
theorem GC:jx 10 60:=⟨by decide,by decide,by decide⟩
theorem GB:jx 10 18:=⟨by decide,by decide,by decide⟩
theorem Dg:Builtin.Int.intBits MM<=2 ^ 20:=by decide +kernel
theorem Ss {M c r:Int}{i:Nat}(hM:0<M)(h0:0<=c)(h:c<M ^ i)(r0:0<=r)(r1:r<M):0<=c*M+r/\c*M+r<M ^ (i+1):=by
 have e:M ^ (i+1)=M ^ i*M:=Int.pow_succ M i;have h1:(c+1)*M<=M ^ i*M:=ux (by omega) (Int.le_of_lt hM);have h2:(c+1)*M=c*M+M:=by rw [Int.add_mul,Int.one_mul]
 have h3:0<=c*M:=Int.mul_nonneg h0 (Int.le_of_lt hM);rw [e];omega
theorem CL:∀ i:_root_.Fin 14,(MM ^ (i:Nat)).toNat<2 ^ 2700:=by decide +kernel
theorem Dh {c:Int}{i:Nat}(hi:i<=13)(h0:0<=c)(h:c<MM ^ i):Builtin.Int.intBits c<=2 ^ 20:=by
 obtain ⟨n,rfl⟩:=yj h0;have q:=CL ⟨i,by omega⟩;have q2:n<2 ^ 2700:=by have q':(MM ^ i).toNat<2 ^ 2700:=q;omega
 exact yg (PyProof.Rows.intBits_le (by rw [Int.natAbs_natCast];exact q2)) (by decide)
theorem Tb:∀ i:_root_.Fin 13,∀ j:_root_.Fin 64,Builtin.Range.small ((i:Nat):Int) ((j:Nat):Int) 5=true:=by decide +kernel
theorem VP {i j:Int}:Builtin.Range.rangeSize i j 5=if i<j then (j-i-1) / 5+1 else 0:=rfl
theorem RZ {i j:Int}(h0:0<=i)(h1:i<=12)(h2:0<=j)(h3:j<=63):0<=Builtin.Range.rangeSize i j 5/\Builtin.Range.small i j 5=true/\jt i j 5<=13/\∀ t:Nat,t<jt i j 5->i+t*5<j:=by
 refine ⟨?_,?_,?_,λt ht=>?_⟩
 ·rw [VP];split<;>omega
 ·have q:=Tb ⟨i.toNat,by omega⟩ ⟨j.toNat,by omega⟩;have e1:((i.toNat:Nat):Int)=i:=by omega
  have e2:((j.toNat:Nat):Int)=j:=by omega
  have q':Builtin.Range.small ((i.toNat:Nat):Int) ((j.toNat:Nat):Int) 5=true:=q;rw [e1,e2] at q';exact q'
 ·unfold jt;rw [VP];split<;>omega
 ·unfold jt at ht;rw [VP] at ht;split at ht<;>omega
theorem CU {ns:List Int}{k:Int}(h0:0<=k)(h:k<(ns.length:Int)):∃ v:Int,atI (ns.map V.int) k=some (.int v):=by
 have hk:k.toNat<ns.length:=by omega
 have ek:k=((k.toNat:Nat):Int):=by omega
 have q:atI (ns.map V.int) ((k.toNat:Nat):Int)=some (.int ns[k.toNat]):=xq (by rw [yP,yY hk]<;>rfl);rw [<- ek] at q;exact ⟨_,q⟩
section
theorem sc_stream:w6 ["script","k","cell","j","found"] ["script","k"] (j7 ZQ):=y8
theorem Hw (F:Fun K "_law_stream" "_law_stream" ZQ f fd)(En:Fn P w K mg base 1 "_law_mixed" ["cell","k"] Yl)(Ac:mg "len"=none)(Ad:mg "range"=none)(Ec:mg "sum"=none):FnOk P w K mg base v7 2 f fd ["script","k"] (Pz K):=by
 refine F.ok sc_stream (λvs H Q E h=>?_) (λcdv A outer s H vs Q E hr h=>?_)
 ·obtain ⟨a,ns,k,rfl,_⟩:=h;rfl
 obtain ⟨a,ns,k,rfl,hS,h63,k0,k1,q⟩:=h;refine ⟨_,(z8 (qA (i:=2) sc_stream.nd rfl (Or.inl rfl) z0)
  (z8 (qO PassesOwn.never rfl (Rq rfl Ad (v8 (pv 1) (v8 (u7 (Gq (K:=K) rfl) rfl Ac PySem.boot_len (v8 (pv 0) u4)) (v8 z0 u4)))) (gW 3 sc_stream.nd)
   (z7 (qA (i:=2) sc_stream.nd rfl (Or.inl rfl) (u5 op_add (u5 ZD (pv 2) (u5 wS z0 z0)) (u5 vD (ZG (JK (K:=K) rfl) (pv 0) (pv 3) (λ_ _=>rfl)) (u5 wS z0 z0))))))
  (z8 (c6 (n9 ZB (pv 2) (u5 wS z0 z0) (k5 _)) (z7 (w5 (xG (v8 (pv 2) u4)))) m4)
  (z8 (qA (i:=2) sc_stream.nd rfl (Or.inl rfl) (u5 op_add (pv 2) (u7 (DG (K:=K) rfl rfl) rfl Ec Jg (v8 (i6 (N':=["one"]) (cap:=[none]) (b9 rfl rfl rfl) rfl (p0 (K:=K) rfl (pv 0)) (λ_ _ _ _ _ _=>(k9 (i:=0) (by show (["one"]:List Str).Nodup;decide +kernel) rfl (Or.inl rfl))) (λ_ _ _ _ _ _=>m9) (λ_ _ _ _ _ _=>(u5 vD (pv 0) (u5 wS z0 z0)))) u4))))
  (z8 (qA (i:=4) sc_stream.nd rfl (Or.inl rfl) z0)
  (z8 (qO PassesOwn.never rfl (zF rfl Ad (v8 z0 u4)) (gW 3 sc_stream.nd)
   (z7 (qA (i:=4) sc_stream.nd rfl (Or.inl rfl) (u5 op_add (u5 wR (pv 4) z0) (fW En hr (v8 (u5 op_add (u5 op_add (pv 2) (u5 wR z0 (pv 1))) (u7 (Gq (K:=K) rfl) rfl Ac PySem.boot_len (v8 (pv 0) u4))) (v8 (pv 3) u4)))))))
  (z7 (w5 (xG (v8 (u5 Bn (pv 4) z0) u4)))))))))),?_⟩
 have hl:(((ns.map V.int).length:Nat):Int)=(ns.length:Int):=by rw [yZ]
 obtain ⟨z1,z2,z3,z4⟩:=RZ (i:=k) (j:=(((ns.map V.int).length:Nat):Int)) k0 k1 (by omega) (by omega);refine ⟨_,rfl,_,rfl,a,_,rfl,.inl hS,k,_,5,rfl,⟨by decide,by decide⟩,z1,z2,Mv (λi σ H2=>∃(c:Int)(j:Option V),σ=[some (.ref a),some (.int k),some (.int c),j,none]/\H2=H/\0<=c/\c<MM ^ i)
  ⟨0,none,rfl,rfl,uC 0,by decide⟩ ?_ ?_⟩
 ·rintro i σ H2 hi ⟨c,j,rfl,rfl,c0,c1⟩;obtain ⟨v,hv⟩:=CU (ns:=ns) (k:=k+i*5) (by omega) (by have:=z4 i hi;omega);refine ⟨_,rfl,_,_,rfl,rfl,GC,_,_,rfl,rfl,⟨Dh (by omega) c0 c1,Dg⟩,_,rfl,_,rfl,a,_,_,_,rfl,rfl,hS,hv,
   _,_,rfl,rfl,GC,_,_,rfl,rfl,Xy,_,_,rfl,rfl,?_⟩
  have sb:=Ss (i:=i) Xy c0 c1 (yd v (Ne.symm (Int.ne_of_lt Xy))) (yk v Xy);exact ⟨_,_,rfl,rfl,sb.1,sb.2⟩
 ·rintro σ H2 ⟨c,j,rfl,rfl,c0,c1⟩;refine ⟨_,rfl,_,_,rfl,rfl,GB,_,_,rfl,rfl,_,rfl,ite2 (λ_=>?_) (λ_=>?_)⟩
  ·refine ⟨_,rfl,(by show 1<=sizeLine;decide),λp hp=>?_⟩;exact q p c _ hp (ZR hp _) y9
  ·refine ⟨_,rfl,_,rfl,a,rfl,⟨_,hS⟩,Jk (K:=K) (a:=a) (xs:=ns.map V.int) (λi ys H3=>H3=H2/\∃ ms:List Int,ys=ms.map V.int/\ms.length=i) ⟨rfl,[],rfl,rfl⟩ ?_ ?_ ?_ ?_⟩
   ·rintro i ys H3 hi ⟨_,ms,rfl,rfl⟩;rw [yZ] at hi ⊢;exact sizes (by omega)
   ·rintro i ys H3 hi ⟨rfl,_⟩;exact hS
   ·rintro i x ys H3 R hx ⟨rfl,ms,rfl,rfl⟩ hR;rw [yP] at hx;obtain ⟨v,hv,rfl⟩:=yJ.mp hx;refine ⟨Wk.one rfl,⟨_,rfl,_,_,rfl,rfl,GB,_,_,rfl,rfl,(by show (0:Int)<10 ^ (18:Int).toNat;decide),?_⟩⟩;exact hR _ _ ⟨rfl,ms++[_],by rw [yw];rfl,by rw [yQ];rfl⟩
   ·rintro ys H3 ⟨rfl,ms,rfl,_⟩ D hD;refine ⟨D,ms,rfl,SqL.of y9,_,_,rfl,rfl,?_⟩;have g1:Same H3 (j4 H3 D (.lst (ms.map V.int))):=ZR hD _;refine ⟨12,rfl,by decide,by decide,Qz (n:=12) (λi σ H4=>∃(f:Int)(j:Option V),σ=[some (.ref a),some (.int k),some (.int (c+ms.sum)),j,some (.int f)]/\H4=j4 H3 D (.lst (ms.map V.int))) ⟨0,_,rfl,rfl⟩ ?_ ?_⟩
    ·rintro i σ H4 hi ⟨f,j,rfl,rfl⟩;refine ⟨_,rfl,_,_,rfl,rfl,.inr ⟨by decide,by decide⟩,_,rfl,_,rfl,_,_,rfl,rfl,.inl ⟨by decide,by decide⟩,_,_,rfl,rfl,_,rfl,a,_,rfl,.inl (g1.seq hS),_,_,rfl,rfl,_,rfl,_,_,rfl,by omega,by omega,λv v0 v1=>?_⟩;exact ⟨_,_,rfl,rfl,_,_,rfl,rfl⟩
    ·rintro σ H4 ⟨f,j,rfl,rfl⟩;refine ⟨_,rfl,_,_,rfl,rfl,⟨by decide,by decide +kernel⟩,(by show 1<=sizeLine;decide),λp hp=>?_⟩;exact q p (f / 64) _ (g1.free hp) (g1.trans (ZR hp _)) y9
end
def vL (K:Fg):List PV->Prop:=λxs=>∃(ns:List Int)(k:Int),xs=[scr K ns,.at (.int k)]/\ns.length<=63/\0<=k/\k<=12
def jY:List PV->PV->Prop:=λ_ y=>∃ n:Int,y = .lst [.at (.int n)]
theorem Sv {K:Fg}(h:spN (vL K) jY vs H Q E):Pz K vs H Q E:=by obtain ⟨Hs,xs,sm,r,⟨ns,k,rfl,h63,k0,k1⟩,q⟩:=h;obtain ⟨v,w,rfl,p1,p2⟩:=reps_cons.mp r;obtain ⟨u,z,rfl,p3,p4⟩:=reps_cons.mp p2;cases reps_nil.mp p4;cases rep_at.mp p3;obtain ⟨a,rfl,hS⟩:=Sb sm p1;exact ⟨a,ns,k,rfl,hS,h63,k0,k1,λb n H' nb g e=>q _ b Hs H' ⟨n,rfl⟩ ⟨.refl _,g,sm.trans g,λ_ _ z=>z⟩ nb (sm.free nb) ⟨_,e,.one (rep_at.mpr rfl)⟩⟩
section
theorem Hv (F:Fun K "_law_stream" "_law_stream" ZQ f fd)(En:Fn P w K mg base 1 "_law_mixed" ["cell","k"] Yl)(Ac:mg "len"=none)(Ad:mg "range"=none)(Ec:mg "sum"=none):FnOk P w K mg base v7 2 f fd ["script","k"] (spN (vL K) jY):=(Hw F En Ac Ad Ec).imp λ_ _ _ _ h=>Sv h
end
def qg:Int:=10 ^ 30
theorem LS {k:Int}(h0:0<=k)(h1:k<=2*qg):k.natAbs.log2<9000:=by
 have hb:(2*qg).toNat<2 ^ 9000:=yz (show (2*qg).toNat<2 ^ 110 by decide +kernel) (Nat.pow_le_pow_right (by decide) (by decide));have:k.natAbs<2 ^ 9000:=by omega
 by_cases hz:k.natAbs=0
 ·rw [hz];decide
 ·exact (Nat.log2_lt hz).mpr this
theorem vg {k:Int}(h0:0<k)(h1:k<=2*qg):Qg n k:=⟨h0,LS (by omega) h1⟩
theorem Qf:(1000:Int)<=qg:=by decide +kernel
def c7 (rss:List (List Int)):PV:= .lst (rss.map λr=> .lst (r.map λn=> .at (.int n)))
theorem wY {a:MA}{k:Nat}(h:a ε=some [.at (.int (k:Int))])(hk:k<=lim):zt a ε=some (zm 0 k):=by have hlim:(lim:Int)=1000000:=rfl;have hl:lim=1000000:=rfl;unfold zt;rw [h];show (if -(lim:Int)<=(k:Int)/\(k:Int)<=(lim:Int) then some (zm 0 (k:Int).toNat) else none)=_;rw [if_pos ⟨by omega,by omega⟩,uH]
def y3 (ss:List Str):List PV:=ss.map λs=> .at (.str s)
theorem xJ (ss:List Str):(y3 ss).length=ss.length:=yZ _
def Low (x:Str):Prop:=∀ c∈x.cps.toList,97<=c/\c<=122
structure vW (x:Str):Prop where
 low:Low x
 one:1<=x.length
 eight:x.length<=8
theorem YQ:∀ ss:List Str,ats (y3 ss)=some (ss.map V.str)
 |[]=>rfl
 |s::ss=>by
  show (ats (y3 ss)).map (V.str s::·)=_;rw [YQ ss];rfl
theorem Ks (x:Str):∀ ss:List Str,inV (.str x) (ss.map V.str)=decide (x∈ss)
 |[]=>by simp [inV]
 |s::ss=>by
  have ih:=Ks x ss;unfold inV at ih ⊢;rw [yI,List.any_cons,ih];have e:i5 (.str s) (.str x)=decide (s=x):=rfl;rw [e];by_cases h:s=x
  ·subst h;simp
  ·simp [h,Ne.symm h]
theorem Ms (ss:List Str):(ss.map V.str).all u8=true:=by rw [uM];intro v hv;obtain ⟨s,_,rfl⟩:=yF.mp hv;rfl
theorem Zd (neg:Bool)(x:Str)(ss:List Str):pIn neg (.at (.str x)) (.lst (y3 ss))=some (.at (.bl (if neg then !decide (x∈ss) else decide (x∈ss)))):=by show (ats (y3 ss)).bind _=_;rw [YQ,yE,if_pos ⟨rfl,Ms ss⟩,Ks]
structure Cl where
 name:Str
 hue:Nat
 len:Int
 due:Int
 wt:Int
variable{c e:Cl}{cs ns t:List Cl}{T':List (List Cl)}
def Cl.pv (c:Cl):PV:= .tup [.at (.str c.name),.at (.int c.hue),.at (.int c.len),.at (.int c.due),.at (.int c.wt)]
structure Cl.Ok (h:Nat)(c:Cl):Prop where
 nm:vW c.name
 hu:c.hue<h
 l1:1<=c.len
 l2:c.len<=qg
 d1:-qg<=c.due
 d2:c.due<=qg
 w1:1<=c.wt
 w2:c.wt<=qg
theorem Zx {α β:Type}{f:α->β}(hf:∀ x y,f x=f y->x=y):∀{a b:List α},a.map f=b.map f->a=b
 |[],[],_=>rfl
 |[],_::_,h=>by cases h
 |_::_,[],h=>by cases h
 |x::a,y::b,h=>by
  rw [yI,yI] at h;injection h with h1 h2;rw [hf x y h1,Zx hf h2]
theorem Jt {α β:Type}(f:α->β):∀(l:List α)(i:Nat),(l.map f).eraseIdx i=(l.eraseIdx i).map f
 |[],_=>rfl
 |_::_,0=>rfl
 |x::l,i+1=>by simp [Jt f l i]
theorem Vw {α:Type}:∀{ss:List α}{j:Nat}(h:j<ss.length),(ss[j]::ss.eraseIdx j).Perm ss
 |x::ss,0,_=>List.Perm.refl _
 |x::ss,j+1,h=>by
  have hj:j<ss.length:=by simpa using h
  have ih:=Vw hj;show (ss[j]::x::ss.eraseIdx j).Perm (x::ss);exact (List.Perm.swap _ _ _).trans (ih.cons x)
structure Dr where
 h:Nat
 rss:List (List Int)
 cls:List Cl
 last:Int
 time:Int
def Dr.pv (d:Dr):PV:= .tup [c7 d.rss,.lst (d.cls.map Cl.pv),.at (.int d.last),.at (.int d.time)]
structure Dr.Ok (d:Dr):Prop where
 h1:1<=d.h
 h4:d.h<=4
 rin:n8 d.h d.rss
 ten:d.cls.length<=10
 cl:∀ c∈d.cls,c.Ok d.h
 nd:(d.cls.map Cl.name).Nodup
 l1:-1<=d.last
 l2:d.last<d.h
 t1:0<=d.time
 t2:d.time<60*qg
theorem RE {a b:Cl}(h:a.pv=b.pv):a=b:=by cases a;cases b;unfold Cl.pv at h;injection h with h;simp only [List.cons.injEq,PV.at.injEq,V.str.injEq,V.int.injEq] at h;obtain ⟨h1,h2,h3,h4,h5,_⟩:=h;have h2:=Int.ofNat.inj h2;subst h1 h2 h3 h4 h5;rfl
theorem Mc {d e:Dr}(h:d.pv=e.pv):d.cls=e.cls:=by unfold Dr.pv at h;injection h with h;injection h with _ h;injection h with h _;injection h with h;exact Zx (λ_ _=>RE) h
def T26:Int:=10 ^ 26
def T27:Int:=10 ^ 27
theorem Ts:T27=10*T26/\qg=1000*T27/\1000<T26:=by decide +kernel
theorem pow26:pPow (.at (.int 10)) (.at (.int 26))=some (.at (.int T26)):=by show (if jx 10 26 then some (V.int (10 ^ (26:Int).toNat)) else none).map PV.at=_;rw [if_pos ⟨by decide,by decide,by decide⟩];rfl
theorem pow27:pPow (.at (.int 10)) (.at (.int 27))=some (.at (.int T27)):=by show (if jx 10 27 then some (V.int (10 ^ (27:Int).toNat)) else none).map PV.at=_;rw [if_pos ⟨by decide,by decide,by decide⟩];rfl
theorem Gh (h0:-qg<=n)(h1:n<=qg):Builtin.Int.intBits n<=2 ^ 20:=by
 have hb:qg<2 ^ 120:=by decide +kernel
 exact yg (PyProof.Rows.intBits_le (k:=120) (by omega)) (by decide)
theorem Vf {a b:Int}(a0:-qg<=a)(a1:a<=qg)(b0:-qg<=b)(b1:b<=qg):Xb (.at (.int a)) (.at (.int b))=some (.at (.int (a*b))):=by show (if Qh a b then some (V.int (a*b)) else none).map PV.at=_;rw [if_pos ⟨Gh a0 a1,Gh b0 b1⟩];rfl
def zi:List PV->Prop:=λxs=>∃ b:Bool,xs=[.at (.bl b)]
def zo:List PV->PV->Prop:=λ_ y=>∃ n:Int,y = .at (.int n)/\0<=n/\n<10*T27
abbrev WK:Stmt:=top 65
abbrev UG (K:Fg):WS:=(wSeq (qq 2 (qP 0 (wP (dC (.int 10)))))
  (wSeq (xy (wPT (t0 (q9 1))) (qq 2 (xo qo (wP (x8 Xb (q9 2) (x8 pPow (dC (.int 10)) (dC (.int 27))))) (qP 0 (wP (dC (.int 3)))))) zc)
  (xc (wP (q8 2)))))
theorem sc_number:w6 ["row","great","number"] ["row","great"] (j7 WK):=y8
theorem MO:∀ xs,zi xs->xs.length+1=(["row","great"]:List Str).length:=by rintro xs ⟨b,rfl⟩;rfl
theorem MV {K:Fg}:∀ xs n,zi xs->UG K (c8 n::xs.map .sh++List.replicate ((["row","great","number"]:List Str).length-(xs.length+1)) .no) (λ_=>False) λy ε=>zo xs y/\zK 0 ε:=by
 rintro xs n ⟨b,rfl⟩;have hB:=Qf;obtain ⟨t1,t2,t3⟩:=Ts;refine ⟨⟨n,rfl⟩,_,rfl,n,10,rfl,rfl,⟨by decide,by decide⟩,?_⟩;have a0:0<=n % 10:=yd _ (by decide);have a1:n % 10<10:=yk _ (by decide);cases b with
 |false=>exact jc rfl ⟨_,rfl,⟨_,rfl,a0,by omega⟩,_,rfl⟩
 |true =>
  have b0:0<=n / 10 % 3:=yd _ (by decide);have b1:n / 10 % 3<3:=yk _ (by decide);refine ZV rfl ⟨_,j6 rfl (j6 rfl rfl pow27) (Vf (a:=n % 10) (b:=T27) (by omega) (by omega) (by omega) (by omega)),⟨_,rfl⟩,_,rfl,n / 10,3,rfl,rfl,⟨by decide,by decide⟩,_,rfl,_,rfl,⟨_,rfl,?_,?_⟩,_,rfl⟩
  ·generalize n % 10=p at a0 a1 ⊢;have:=Int.mul_nonneg a0 (show 0<=T27 by omega);omega
  ·generalize n % 10=p at a0 a1 ⊢;have:p*T27<=9*T27:=ux (by omega) (by omega);omega
theorem Hn (F:Fun K "_law_number" "_law_number" WK f fd)(Ae:Fn P w K mg base 1 "_law_digit" ["row","many"] jv):FnOk P w K mg base v7 2 f fd ["row","great"] (spD zi zo) :=
 okD (k:=1) (b:=UG K) F sc_number MO (λcdv A outer s H E hr=>⟨_,(@z8 _ _ _ _ _ (@qA _ _ 2 _ _ _ _ sc_number.nd rfl (Or.inl rfl) (qy Ae hr (by decide) rfl (@v8 _ _ _ _ _ (pv 0) (@v8 _ _ _ _ _ z0 u4 (by rfl)) (by rfl))) (by rfl) (.inl rfl))
  (@z8 _ _ _ _ _ (c6 (qf (K:=K) rfl (pv 1) (λ_=>rfl)) (@z7 _ _ _ (@qA _ _ 2 _ _ _ _ sc_number.nd rfl (Or.inl rfl) (u5 (xa (K:=K) rfl) (u5 (ZD) (pv 2) (u5 (wS) z0 z0)) (qy Ae hr (by decide) rfl (@v8 _ _ _ _ _ (pv 0) (@v8 _ _ _ _ _ z0 u4 (by rfl)) (by rfl)))) (by rfl) (.inl rfl))) m4)
  (@z7 _ _ _ (w5 (pv 2))))),
  (by repeat' first|infer_instance|(refine @Mi.instSemWSTSeqWSeq _ _ _ _ ?_ ?_)|(apply @Mi.instSemWSTForWForOfSemWIOfSemWG))⟩) MV
def ja (r:List Int):PV:= .lst (r.map λn=> .at (.int n))
def Xi:List PV->Prop:=λxs=>∃(h:Nat)(b:Bool),xs=[.at (.int h),.at (.bl b)]/\1<=h/\h<=4
def vZ:List PV->PV->Prop:=λxs y=>∃(h:Nat)(b:Bool)(rss:List (List Int)),xs=[.at (.int h),.at (.bl b)]/\y=c7 rss/\n8 h rss
abbrev WO:Stmt:=top 66
abbrev UK (K:Fg):WS:=(wSeq (qq 3 (qP 0 (wP (dC (.int 4)))))
  (wSeq (Xx 4 (xr x6))
  (wSeq (wFor (wIp (zt (q0 (x8 qo (q9 1) (dC (.int 1))) x6))) (j9 5) (wSeq (qq 6 (jV [none,some 0,some 2] [0] (wIp (zt (q0 (q8 1) x6))) (j9 0) jw (zb 1 zi zo (k4 (wP (q8 2)) qC))))
  (wSeq (xy (wPT (dT (x8 qx (q9 3) (dC (.int 0))))) (qq 6 (wP (x8 pRep (xr (q0 (dC (.int 0)) x6)) (q9 1)))) zc)
  (wSeq (xy (wPT (dT (x8 qx (q9 3) (dC (.int 1))))) (qq 6 (jV [none,some 0] [0] (wIp (y7 (q8 6))) (j9 0) jw (xo Xb (wP (q8 0)) (qP 1 (wP (dC (.int 2))))))) zc)
  (Qd 4 (wP (q8 6)))))))
  (wFz 4 (xc (wP (q8 4)))))))
theorem sc_rinses:w6 ["row","hues","great","way","found","first","numbers"] ["row","hues","great"] (j7 WO):=y8
theorem MQ:∀ xs,Xi xs->xs.length+1=(["row","hues","great"]:List Str).length:=by rintro xs ⟨h,b,rfl,_⟩;rfl
structure wb (h:Nat)(r:List Int):Prop where
 len:r.length=h
 lo:∀ v∈r,0<=v/\v<10 ^ 30
theorem MX {K:Fg}:∀ xs n,Xi xs->UK K (c8 n::xs.map .sh++List.replicate ((["row","hues","great","way","found","first","numbers"]:List Str).length-(xs.length+1)) .no) (λ_=>False) λy ε=>vZ xs y/\zK 0 ε:=by
 rintro xs n ⟨h,b,rfl,h1,h4⟩;have hl:lim=1000000:=rfl;obtain ⟨t1,t2,t3⟩:=Ts;have eB:qg=10 ^ 30:=rfl;refine ⟨⟨n,rfl⟩,_,rfl,n,4,rfl,rfl,⟨by decide,by decide⟩,_,rfl,?_⟩;generalize n % 4=way;generalize n / 4=n1;refine ⟨zm 0 (h+1),wY rfl (by omega),?_⟩;refine JT (λrest ε=>∃(m:Int)(rss:List (List Int))(s5 s6:MSlot),rss.length+rest.length=h+1/\(∀ r∈rss,wb h r)/\ε=[c8 m,.sh (.at (.int (h:Int))),.sh (.at (.bl b)),.sh (.at (.int way)),.ow (.lst (rss.map ja)),s5,s6]) ?_ ?_ _ _ ⟨n1,[],_,_,by rw [vN];simp,(λ_ z=>nomatch z),rfl⟩
 ·rintro ε ⟨m,rss,s5,s6,e1,e2,rfl⟩;exact ⟨_,rfl,⟨h,b,rss,rfl,rfl,by simpa using e1,λr hr=>⟨(e2 r hr).len,(e2 r hr).lo⟩⟩,m,rfl⟩
 ·rintro x rest ε ⟨m,rss,s5,s6,e1,e2,rfl⟩;simp only [yG] at e1;refine ⟨_,rfl,zm 0 h,wY rfl (by omega),rfl,by rw [vN];omega,?_⟩;have app:∀(m:Int)(r:List Int),wb h r->Qd 4 (wP (q8 6)) [c8 m,.sh (.at (.int (h:Int))),.sh (.at (.bl b)),.sh (.at (.int way)),.ow (.lst (rss.map ja)),.sh x,.sh (ja r)] (λε=>∃(m:Int)(rss:List (List Int))(s5 s6:MSlot),rss.length+rest.length=h+1/\(∀ r∈rss,wb h r)/\ε=[c8 m,.sh (.at (.int (h:Int))),.sh (.at (.bl b)),.sh (.at (.int way)),.ow (.lst (rss.map ja)),s5,s6]) (λy ε=>vZ [.at (.int h),.at (.bl b)] y/\zK 0 ε):=by
   intro m r hr;refine ⟨⟨_,rfl⟩,_,rfl,_,rfl,by rw [yZ];omega,m,rss++[r],.sh x,.sh (ja r),by rw [yQ];simp;omega,?_,by rw [yw];rfl⟩;intro q hq;rcases yo.mp hq with hq|hq
   ·exact e2 q hq
   ·rw [yK.mp hq];exact hr
  have if1:∀(m:Int)(r:List Int),wb h r->(wSeq (xy (wPT (dT (x8 qx (q9 3) (dC (.int 1))))) (qq 6 (jV [none,some 0] [0] (wIp (y7 (q8 6))) (j9 0) jw (xo Xb (wP (q8 0)) (qP 1 (wP (dC (.int 2))))))) zc) (Qd 4 (wP (q8 6)))) [c8 m,.sh (.at (.int (h:Int))),.sh (.at (.bl b)),.sh (.at (.int way)),.ow (.lst (rss.map ja)),.sh x,.sh (ja r)] (λε=>∃(m:Int)(rss:List (List Int))(s5 s6:MSlot),rss.length+rest.length=h+1/\(∀ r∈rss,wb h r)/\ε=[c8 m,.sh (.at (.int (h:Int))),.sh (.at (.bl b)),.sh (.at (.int way)),.ow (.lst (rss.map ja)),s5,s6]) (λy ε=>vZ [.at (.int h),.at (.bl b)] y/\zK 0 ε):=by
   intro m r hr;by_cases hw:way=1
   ·subst hw;refine ZV (p5 (v:=true) rfl) ⟨_,rfl,rfl,by rw [yZ,hr.len];omega,?_⟩;refine XI (λtodo zs ε=>∃(m:Int)(done left:List Int),ε=[.no,c8 m]/\todo=left.map (λn=>PV.at (.int n))/\zs=done.map (λn=>PV.at (.int n))/\done.length+left.length=h/\(∀ v∈left,0<=v/\v<10 ^ 30)/\∀ v∈done,0<=v/\v<10 ^ 30) ?_ ?_ _ [] _ ⟨m,[],r,rfl,rfl,rfl,by rw [hr.len];simp,hr.lo,(λ_ z=>nomatch z)⟩
    ·rintro zs ε ⟨m2,done,left,rfl,z,rfl,g1,g2,g3⟩;have e:left=[]:=by cases left with|nil=>rfl|cons _ _=>cases z
     subst e;exact ⟨λ_=>⟨_,rfl⟩,app _ done ⟨by simpa using g1,g3⟩⟩
    ·rintro x2 rest2 zs ε ⟨m2,done,left,rfl,z,rfl,g1,g2,g3⟩;cases left with
     |nil=>cases z
     |cons v left =>
      rw [yI] at z;injection z with z1 z2;subst z1;simp only [yG] at g1;have v0:=g2 v yT;rw [<- eB] at v0;have c0:0<=m2 % 2:=yd _ (by decide);have c1:m2 % 2<2:=yk _ (by decide);refine ⟨_,rfl,_,rfl,⟨_,rfl⟩,_,rfl,m2,2,rfl,rfl,⟨by decide,by decide⟩,_,Vf (a:=v) (b:=m2 % 2) (by omega) (by omega) (by omega) (by omega),m2 / 2,done++[v*(m2 % 2)],left,rfl,z2,by rw [yw];rfl,by rw [yQ];simp;omega,λw hw=>g2 w (yS _ hw),λw hw=>?_⟩;rcases yo.mp hw with hw|hw
      ·exact g3 w hw
      ·rw [yK.mp hw,<- eB];have:m2 % 2=0∨m2 % 2=1:=by omega
       rcases this with e|e<;>rw [e]<;>omega
   ·refine jc (p5 (v:=false) ?_) (app m r hr);show some (PV.at (.bl (decide (way=1))))=_;rw [yB hw]
  refine XI (λrest2 zs ε=>∃(m:Int)(r:List Int),ε=[.no,c8 m,.sh (.at (.bl b))]/\zs=r.map (λn=>PV.at (.int n))/\r.length+rest2.length=h/\(∀ v∈r,0<=v/\v<10 ^ 30)) ?_ ?_ _ [] _ ⟨m,[],rfl,rfl,by rw [vN];simp,(λ_ z=>nomatch z)⟩
  ·rintro zs ε ⟨m2,r,rfl,rfl,g1,g2⟩;have hr:wb h r:=⟨by simpa using g1,g2⟩;refine ⟨λ_=>⟨_,rfl⟩,?_⟩;by_cases hw:way=0
   ·subst hw;refine ZV (p5 (v:=true) rfl) ⟨ja (List.replicate h 0),?_,if1 m2 _ ⟨tV,λv hv=>?_⟩⟩
    ·refine j6 (Qv (xs:=[.at (.int 0)]) rfl l1) rfl ?_;show (if -(lim:Int)<=(h:Int)/\(h:Int)<=lim/\[PV.at (.int 0)].length*(h:Int).toNat<=lim then some (PV.lst (List.replicate (h:Int).toNat [PV.at (.int 0)]).flatten) else none)=_;rw [if_pos ⟨by omega,by omega,by simp;omega⟩];unfold ja;simp
    ·rw [List.eq_of_mem_replicate hv];decide
   ·refine jc (p5 (v:=false) ?_) (if1 m2 r hr);show some (PV.at (.bl (decide (way=0))))=_;rw [yB hw]
  ·rintro x2 rest2 zs ε ⟨m2,r,rfl,rfl,g1,g2⟩;simp only [yG] at g1;refine ⟨_,rfl,⟨_,rfl⟩,_,rfl,⟨_,rfl⟩,⟨b,rfl⟩,?_⟩;rintro y n' ⟨v,rfl,v0,v1⟩;refine ⟨n',r++[v],rfl,by rw [yw];rfl,by rw [yQ];simp;omega,λq hq=>?_⟩;rcases yo.mp hq with hq|hq
   ·exact g2 q hq
   ·rw [yK.mp hq,<- eB];exact ⟨v0,by omega⟩
theorem Ht (F:Fun K "_law_rinses" "_law_rinses" WO f fd)(Ae:Fn P w K mg base 1 "_law_digit" ["row","many"] jv)(Ay:Fn P w K mg base 2 "_law_number" ["row","great"] (spD zi zo))(Ad:mg "range"=none):FnOk P w K mg base v7 3 f fd ["row","hues","great"] (spD Xi vZ) :=
 okD (k:=2) (b:=UK K) F sc_rinses MQ (λcdv A outer s H E hr=>⟨_,(@z8 _ _ _ _ _ (@qA _ _ 3 _ _ _ _ sc_rinses.nd rfl (Or.inl rfl) (qy Ae hr (by decide) rfl (@v8 _ _ _ _ _ (pv 0) (@v8 _ _ _ _ _ z0 u4 (by rfl)) (by rfl))) (by rfl) (.inl rfl))
  (@z8 _ _ _ _ _ (@qA _ _ 4 _ _ _ _ sc_rinses.nd rfl (Or.inl rfl) (@xG _ _ _ _ u4) (by rfl) (.inl rfl))
  (@z8 _ _ _ _ _ (qO PassesOwn.never rfl (zF rfl Ad (@v8 _ _ _ _ _ (u5 (xa (K:=K) rfl) (pv 1) z0) u4 (by rfl))) (k9 (i:=5) sc_rinses.nd rfl (Or.inl rfl))
   (@z8 _ _ _ _ _ (zk (i:=6) (N':=["hue","row","great"]) (cap:=[none,some 0,some 2]) (b9 rfl rfl rfl) rfl sc_rinses.nd rfl rfl (zF rfl Ad (@v8 _ _ _ _ _ (pv 1) u4 (by rfl))) (λ_ _ _ _ _ _=>(k9 (i:=0) (by show (["hue","row","great"]:List Str).Nodup;decide +kernel) rfl (Or.inl rfl))) (λ_ _ _ _ _ _=>m9) (λ_ _ _ _ _ _=>(qy Ay hr (by decide) rfl (@v8 _ _ _ _ _ (pv 1) (@v8 _ _ _ _ _ (pv 2) u4 (by rfl)) (by rfl)))))
  (@z8 _ _ _ _ _ (c6 (n9 (xW (K:=K) (ql hr) rfl) (pv 3) z0 (k5 _)) (@z7 _ _ _ (@qA _ _ 6 _ _ _ _ sc_rinses.nd rfl (Or.inl rfl) (u5 (HX) (@xG _ _ _ _ (@v8 _ _ _ _ _ z0 u4 (by rfl))) (pv 1)) (by rfl) (.inl rfl))) m4)
  (@z8 _ _ _ _ _ (c6 (n9 (xW (K:=K) (ql hr) rfl) (pv 3) z0 (k5 _)) (@z7 _ _ _ (zk (i:=6) (N':=["number","row"]) (cap:=[none,some 0]) (b9 rfl rfl rfl) rfl sc_rinses.nd rfl rfl (@p0 _ K _ _ _ rfl (pv 6)) (λ_ _ _ _ _ _=>(k9 (i:=0) (by show (["number","row"]:List Str).Nodup;decide +kernel) rfl (Or.inl rfl))) (λ_ _ _ _ _ _=>m9) (λ_ _ _ _ _ _=>(u5 (ZD) (pv 0) (qy Ae hr (by decide) rfl (@v8 _ _ _ _ _ (pv 1) (@v8 _ _ _ _ _ z0 u4 (by rfl)) (by rfl))))))) m4)
  (@z7 _ _ _ (xI (zA (K:=K) rfl PySem.F.plainAttrs_list PySem.F.slot_list_append PySem.F.type_list_append vB (pv 4) (v8 (pv 6) u4))))))))
  (@z7 _ _ _ (w5 (pv 4)))))),
  (by repeat' first|infer_instance|(refine @Mi.instSemWSTSeqWSeq _ _ _ _ ?_ ?_)|(apply @Mi.instSemWSTForWForOfSemWIOfSemWG))⟩) MX
def twelve:List Str:=["b","ab","a","abc","ba","aa","z","abcdefgh","abcdefgi","zz","abcd","bb"]
theorem SR:twelve.Nodup:=by decide +kernel
theorem SS:∀ s∈twelve,vW s:=by
 have:∀ s∈twelve,(∀ c∈s.cps.toList,97<=c/\c<=122)/\1<=s.length/\s.length<=8:=by decide +kernel
 exact λs hs=>⟨(this s hs).1,(this s hs).2.1,(this s hs).2.2⟩
def Xg:List PV->Prop:=λxs=>∃ k:Nat,xs=[.at (.int k)]/\k<=12
def Xz:List PV->PV->Prop:=λxs y=>∃ ss:List Str,y = .lst (y3 ss)/\xs=[.at (.int ss.length)]/\ss.Nodup/\∀ s∈ss,vW s
abbrev WH:Stmt:=top 67
abbrev UD (K:Fg):WS:=(wSeq (Xx 2 (xr (q0 (dC (.str "b")) (q0 (dC (.str "ab")) (q0 (dC (.str "a")) (q0 (dC (.str "abc")) (q0 (dC (.str "ba")) (q0 (dC (.str "aa")) (q0 (dC (.str "z")) (q0 (dC (.str "abcdefgh")) (q0 (dC (.str "abcdefgi")) (q0 (dC (.str "zz")) (q0 (dC (.str "abcd")) (q0 (dC (.str "bb")) x6))))))))))))))
  (xc (jV [none,some 2,some 0] [0] (wIp (zt (q0 (q8 1) x6))) (j9 0) jw (wPop 1 (qP 2 (wP (x9 qp (q0 (q9 1) x6))))))))
theorem sc_names:w6 ["row","many","free"] ["row","many"] (j7 WH):=y8
theorem MN:∀ xs,Xg xs->xs.length+1=(["row","many"]:List Str).length:=by rintro xs ⟨k,rfl,_⟩;rfl
theorem Rw {free got all:List Str}(h:j<free.length)(p:(got++free).Perm all):((got++[free[j]])++free.eraseIdx j).Perm all:=by rw [uZ];exact ((Vw h).append_left got).trans p
theorem MU {K:Fg}:∀ xs n,Xg xs->UD K (c8 n::xs.map .sh++List.replicate ((["row","many","free"]:List Str).length-(xs.length+1)) .no) (λ_=>False) λy ε=>Xz xs y/\zK 0 ε:=by
 rintro xs n ⟨k,rfl,hk⟩;have hl:lim=1000000:=rfl;have hB:=Qf;refine ⟨_,rfl,?_⟩;refine ⟨zm 0 k,wY rfl (by omega),rfl,by rw [vN];omega,?_⟩;refine XI (λrest ys ε=>∃(m:Int)(free got:List Str),ε=[.no,.ow (.lst (y3 free)),c8 m]/\ys=y3 got/\got.length+rest.length=k/\(got++free).Perm twelve) ?_ ?_ (zm 0 k) [] _ ⟨n,twelve,[],rfl,rfl,by rw [vN];simp,.refl _⟩
 ·rintro ys ε ⟨m,free,got,rfl,rfl,h1,h2⟩;have nd:(got++free).Nodup:=h2.nodup_iff.mpr SR;refine ⟨λ_=>⟨_,rfl⟩,⟨got,rfl,?_,(uG.mp nd).1,λs hs=>SS s (h2.mem_iff.mp (uX _ hs))⟩,m,rfl⟩;simp at h1;rw [h1]
 ·rintro x rest ys ε ⟨m,free,got,rfl,rfl,h1,h2⟩;simp only [yG] at h1;have hlen:=h2.length_eq;rw [yQ,show twelve.length=12 from rfl] at hlen;refine ⟨_,rfl,?_⟩;have hf:0<free.length:=by omega
  have c0:0<=m % (((y3 free).length:Nat):Int):=yd _ (by rw [xJ];omega);have c1:m % (((y3 free).length:Nat):Int)<(((y3 free).length:Nat):Int):=yk _ (by rw [xJ];omega);refine ⟨⟨_,rfl⟩,⟨m,rfl⟩,_,rfl,m,(((y3 free).length:Nat):Int),rfl,rfl,vg (by rw [xJ];omega) (by rw [xJ];omega),?_⟩;generalize hj:m % (((y3 free).length:Nat):Int)=j at c0 c1;rw [xJ] at c1;have hjl:j.toNat<free.length:=by omega
  refine ⟨y3 free,j,.at (.str free[j.toNat]),rfl,rfl,c0,by rw [xJ];exact c1,by rw [xJ];omega,?_,?_⟩
  ·unfold y3;rw [yP,yY hjl];rfl
  ·refine ⟨m / (((y3 free).length:Nat):Int),free.eraseIdx j.toNat,got++[free[j.toNat]],?_,?_,?_,Rw hjl h2⟩
   ·show [MSlot.no,MSlot.ow (.lst ((y3 free).eraseIdx j.toNat)),c8 _]=_;unfold y3;rw [Jt]
   ·unfold y3;rw [yw];rfl
   ·rw [yQ];simp only [yG,List.length_nil];omega
theorem Hk (F:Fun K "_law_names" "_law_names" WH f fd)(Ae:Fn P w K mg base 1 "_law_digit" ["row","many"] jv)(Ac:mg "len"=none)(Ad:mg "range"=none):FnOk P w K mg base v7 2 f fd ["row","many"] (spD Xg Xz) :=
 okD (k:=1) (b:=UD K) F sc_names MN (λcdv A outer s H E hr=>⟨_,(@z8 _ _ _ _ _ (@qA _ _ 2 _ _ _ _ sc_names.nd rfl (Or.inr rfl) (@xG _ _ _ _ (@v8 _ _ _ _ _ xx (@v8 _ _ _ _ _ xx (@v8 _ _ _ _ _ xx (@v8 _ _ _ _ _ xx (@v8 _ _ _ _ _ xx (@v8 _ _ _ _ _ xx (@v8 _ _ _ _ _ xx (@v8 _ _ _ _ _ xx (@v8 _ _ _ _ _ xx (@v8 _ _ _ _ _ xx (@v8 _ _ _ _ _ xx (@v8 _ _ _ _ _ xx u4 (by rfl)) (by rfl)) (by rfl)) (by rfl)) (by rfl)) (by rfl)) (by rfl)) (by rfl)) (by rfl)) (by rfl)) (by rfl)) (by rfl))) (by rfl) (.inl rfl))
  (@z7 _ _ _ (w5 (i6 (N':=["k","free","row"]) (cap:=[none,some 2,some 0]) (b9 rfl rfl rfl) rfl (zF rfl Ad (@v8 _ _ _ _ _ (pv 1) u4 (by rfl))) (λ_ _ _ _ _ _=>(k9 (i:=0) (by show (["k","free","row"]:List Str).Nodup;decide +kernel) rfl (Or.inl rfl))) (λ_ _ _ _ _ _=>m9) (λ_ _ _ _ _ _=>(zA (K:=K) rfl PySem.F.plainAttrs_list PySem.F.slot_list_pop PySem.F.type_list_pop Bc (pv 1) (v8 (qy Ae hr (by decide) rfl (@v8 _ _ _ _ _ (pv 2) (@v8 _ _ _ _ _ (u7 (qc (K:=K) rfl) rfl Ac PySem.boot_len (@v8 _ _ _ _ _ (pv 1) u4 (by rfl))) u4 (by rfl)) (by rfl))) u4))))))),
  (by repeat' first|infer_instance|(refine @Mi.instSemWSTSeqWSeq _ _ _ _ ?_ ?_)|(apply @Mi.instSemWSTForWForOfSemWIOfSemWG))⟩) MU
def wW:List PV->Prop:=λxs=>∃(s:Str)(h:Nat)(b:Bool),xs=[.at (.str s),.at (.int h),.at (.bl b)]/\vW s/\1<=h/\h<=4
def vX:List PV->PV->Prop:=λxs y=>∃(s:Str)(h:Nat)(b:Bool)(c:Cl),xs=[.at (.str s),.at (.int h),.at (.bl b)]/\y=c.pv/\c.name=s/\c.Ok h
abbrev We:Stmt:=top 68
abbrev Ud (K:Fg):WS:=(wSeq (qq 4 (xo zZ (qP 0 (wP (dC (.int 40)))) (wP (dC (.int 6)))))
  (wSeq (xy (wPT (t0 (q9 3))) (qq 4 (xo qo (wP (x8 Xb (q9 4) (x8 pPow (dC (.int 10)) (dC (.int 26))))) (qP 0 (wP (dC (.int 3)))))) zc)
  (xc (Qe (k4 (wP (q8 1)) (k4 (qP 0 (wP (q8 2))) (k4 (xo qo (wP (dC (.int 1))) (zb 0 zi zo (k4 (wP (q8 3)) qC))) (k4 (wP (q8 4)) (k4 (xo qo (wP (dC (.int 1))) (qP 0 (wP (dC (.int 9))))) qC)))))))))
theorem sc_cloth:w6 ["row","name","hues","great","due"] ["row","name","hues","great"] (j7 We):=y8
theorem ML:∀ xs,wW xs->xs.length+1=(["row","name","hues","great"]:List Str).length:=by rintro xs ⟨s,h,b,rfl,_⟩;rfl
theorem MR {K:Fg}:∀ xs n,wW xs->Ud K (c8 n::xs.map .sh++List.replicate ((["row","name","hues","great","due"]:List Str).length-(xs.length+1)) .no) (λ_=>False) λy ε=>vX xs y/\zK 0 ε:=by
 rintro xs n ⟨s,h,b,rfl,hs,h1,h4⟩;have hB:=Qf;obtain ⟨t1,t2,t3⟩:=Ts;have rest:∀(n due:Int),-qg<=due->due<=qg->((xc (Qe (k4 (wP (q8 1)) (k4 (qP 0 (wP (q8 2))) (k4 (xo qo (wP (dC (.int 1))) (zb 0 zi zo (k4 (wP (q8 3)) qC))) (k4 (wP (q8 4)) (k4 (xo qo (wP (dC (.int 1))) (qP 0 (wP (dC (.int 9))))) qC))))))):WS) [c8 n,.sh (.at (.str s)),.sh (.at (.int (h:Int))),.sh (.at (.bl b)),.sh (.at (.int due))] (λ_=>False) λy ε=>vX [.at (.str s),.at (.int h),.at (.bl b)] y/\zK 0 ε:=by intro n due d1 d2;refine ⟨_,rfl,⟨_,rfl⟩,_,rfl,n,(h:Int),rfl,rfl,vg (by omega) (by omega),_,rfl,⟨_,rfl⟩,_,rfl,⟨_,rfl⟩,⟨b,rfl⟩,?_⟩;rintro y n' ⟨v,rfl,v0,v1⟩;have u0:0<=n % (h:Int):=yd _ (by omega);have u1:n % (h:Int)<h:=yk _ (by omega);obtain ⟨u,hu⟩:=yj u0;rw [hu] at u1 ⊢;have w0:0<=n' % 9:=yd _ (by decide);have w1:n' % 9<9:=yk _ (by decide);exact ⟨_,rfl,_,rfl,_,rfl,⟨_,rfl⟩,_,rfl,n',9,rfl,rfl,⟨by decide,by decide⟩,_,rfl,l5,⟨s,h,b,⟨s,u,1+v,due,1+n' % 9⟩,rfl,rfl,rfl,⟨hs,(show u<h by omega),(show (1:Int)<=1+v by omega),(show 1+v<=qg by omega),d1,d2,(show (1:Int)<=1+n' % 9 by omega),(show 1+n' % 9<=qg by omega)⟩⟩,_,rfl⟩
 refine ⟨⟨n,rfl⟩,_,rfl,n,40,rfl,rfl,⟨by decide,by decide⟩,_,rfl,_,rfl,?_⟩;have a0:0<=n % 40:=yd _ (by decide);have a1:n % 40<40:=yk _ (by decide);generalize n % 40=p at a0 a1 ⊢;generalize n / 40=n1;cases b with
 |false=>exact jc rfl (rest _ _ (by omega) (by omega))
 |true=>have b0:0<=n1 % 3:=yd _ (by decide);have b1:n1 % 3<3:=yk _ (by decide);have m1:(p-6)*T26<=34*T26:=ux (by omega) (by omega);have m2:-6*T26<=(p-6)*T26:=ux (by omega) (by omega);exact ZV rfl ⟨_,j6 rfl (j6 rfl rfl pow26) (Vf (a:=p-6) (b:=T26) (by omega) (by omega) (by omega) (by omega)),⟨_,rfl⟩,_,rfl,n1,3,rfl,rfl,⟨by decide,by decide⟩,_,rfl,rest _ _ (by omega) (by omega)⟩
theorem NF (F:Fun K "_law_cloth" "_law_cloth" We f fd)(Ae:Fn P w K mg base 1 "_law_digit" ["row","many"] jv)(Ay:Fn P w K mg base 2 "_law_number" ["row","great"] (spD zi zo)):FnOk P w K mg base v7 3 f fd ["row","name","hues","great"] (spD wW vX) :=
 okD (k:=2) (b:=Ud K) F sc_cloth ML (λcdv A outer s H E hr=>⟨_,(@z8 _ _ _ _ _ (@qA _ _ 4 _ _ _ _ sc_cloth.nd rfl (Or.inl rfl) (u5 (wT) (qy Ae hr (by decide) rfl (@v8 _ _ _ _ _ (pv 0) (@v8 _ _ _ _ _ z0 u4 (by rfl)) (by rfl))) z0) (by rfl) (.inl rfl))
  (@z8 _ _ _ _ _ (c6 (qf (K:=K) rfl (pv 3) (λ_=>rfl)) (@z7 _ _ _ (@qA _ _ 4 _ _ _ _ sc_cloth.nd rfl (Or.inl rfl) (u5 (xa (K:=K) rfl) (u5 (ZD) (pv 4) (u5 (wS) z0 z0)) (qy Ae hr (by decide) rfl (@v8 _ _ _ _ _ (pv 0) (@v8 _ _ _ _ _ z0 u4 (by rfl)) (by rfl)))) (by rfl) (.inl rfl))) m4)
  (@z7 _ _ _ (w5 (@xn _ _ _ _ _ (@v8 _ _ _ _ _ (pv 1) (@v8 _ _ _ _ _ (qy Ae hr (by decide) rfl (@v8 _ _ _ _ _ (pv 0) (@v8 _ _ _ _ _ (pv 2) u4 (by rfl)) (by rfl))) (@v8 _ _ _ _ _ (u5 (xa (K:=K) rfl) z0 (qy Ay hr (by decide) rfl (@v8 _ _ _ _ _ (pv 0) (@v8 _ _ _ _ _ (pv 3) u4 (by rfl)) (by rfl)))) (@v8 _ _ _ _ _ (pv 4) (@v8 _ _ _ _ _ (u5 (xa (K:=K) rfl) z0 (qy Ae hr (by decide) rfl (@v8 _ _ _ _ _ (pv 0) (@v8 _ _ _ _ _ z0 u4 (by rfl)) (by rfl)))) u4 (by rfl)) (by rfl)) (by rfl)) (by rfl)) (by rfl))))))),
  (by repeat' first|infer_instance|(refine @Mi.instSemWSTSeqWSeq _ _ _ _ ?_ ?_)|(apply @Mi.instSemWSTForWForOfSemWIOfSemWG))⟩) MR
def Xh (K:Fg):List PV->Prop:=λxs=>∃(ns:List Int)(m:Nat),xs=[scr K ns,.at (.int m)]/\ns.length<=63/\m<=10
def vY:List PV->PV->Prop:=λxs y=>∃(d:Dr)(z:PV)(m:Nat),xs=[z,.at (.int m)]/\y=d.pv/\d.Ok/\d.cls.length<=m
abbrev WL:Stmt:=top 69
abbrev UH (K:Fg):WS:=(wSeq (ZU 2 (vL K) jY (k4 (wP (q8 0)) (k4 (wP (dC (.int 0))) qC)))
  (wSeq (qq 3 (xo qx (qP 2 (wP (dC (.int 6)))) (wP (dC (.int 5)))))
  (wSeq (qq 4 (xo qo (wP (dC (.int 1))) (qP 2 (wP (dC (.int 4))))))
  (wSeq (qq 5 (zb 2 Xi vZ (k4 (wP (q8 4)) (k4 (wP (q8 3)) qC))))
  (wSeq (ZU 6 (vL K) jY (k4 (wP (q8 0)) (k4 (wP (dC (.int 1))) qC)))
  (wSeq (qq 7 (zb 6 Xg Xz (k4 (qP 6 (wP (x8 qo (q9 1) (dC (.int 1))))) qC)))
  (wSeq (qq 8 (jV [none,some 6,some 4,some 3] [0] (wIp (y7 (q8 7))) (j9 0) jw (zb 1 wW vX (k4 (wP (q8 0)) (k4 (wP (q8 2)) (k4 (wP (q8 3)) qC))))))
  (xc (Qe (k4 (wP (q8 5)) (k4 (wP (q8 8)) (k4 (xo zZ (qP 2 (wP (x8 qo (q9 4) (dC (.int 1))))) (wP (dC (.int 1)))) (k4 (zb 2 zi zo (k4 (wP (q8 3)) qC)) qC)))))))))))))
theorem sc_parts:w6 ["script","most","row","great","hues","rinses","more","names","cloths"] ["script","most"] (j7 WL):=y8
theorem MP {K:Fg}:∀ xs,Xh K xs->xs.length=(["script","most"]:List Str).length:=by rintro xs ⟨ns,m,rfl,_⟩;rfl
theorem MW {K:Fg}:∀ xs,Xh K xs->UH K (xs.map .sh++List.replicate ((["script","most","row","great","hues","rinses","more","names","cloths"]:List Str).length-xs.length) .no) (λ_=>False) λy _=>vY xs y:=by
 rintro xs ⟨ns,mo,rfl,h63,hmo⟩;have hB:=Qf;obtain ⟨t1,t2,t3⟩:=Ts;have hlim:lim=1000000:=rfl;refine ⟨_,rfl,_,rfl,⟨ns,0,rfl,h63,by decide,by decide⟩,?_⟩;rintro y ⟨n,rfl⟩
 -- great,hues
 refine ⟨⟨n,rfl⟩,_,rfl,n,6,rfl,rfl,⟨by decide,by decide⟩,_,rfl,_,rfl,?_⟩;generalize i5 (.int (n % 6)) (.int 5)=great;generalize n / 6=n1;refine ⟨_,rfl,⟨_,rfl⟩,_,rfl,n1,4,rfl,rfl,⟨by decide,by decide⟩,_,rfl,?_⟩;have a0:0<=n1 % 4:=yd _ (by decide);have a1:n1 % 4<4:=yk _ (by decide);obtain ⟨h,hh⟩:=yj (show 0<=1+n1 % 4 by omega);generalize n1 / 4=n2;have hh1:1<=h:=by omega
 have hh4:h<=4:=by omega
 rw [hh];clear a0 a1 hh
 -- rinses
 refine ⟨⟨_,rfl⟩,_,rfl,_,rfl,⟨_,rfl⟩,⟨h,great,rfl,hh1,hh4⟩,?_⟩;rintro y n3 ⟨h',b',rss,e,rfl,hr⟩;have e':h'=h:=by injection e with e _;injection e with e;injection e with e;omega
 subst e';have fin:∀(n3 m:Int)(z:MSlot)(cs:List Cl),cs.length<=10->cs.length<=mo->(∀ c∈cs,c.Ok h')->(cs.map Cl.name).Nodup->((xc (Qe (k4 (wP (q8 5)) (k4 (wP (q8 8)) (k4 (xo zZ (qP 2 (wP (x8 qo (q9 4) (dC (.int 1))))) (wP (dC (.int 1)))) (k4 (zb 2 zi zo (k4 (wP (q8 3)) qC)) qC)))))):WS) [.sh (scr K ns),.sh (.at (.int (mo:Int))),c8 n3,.sh (.at (.bl great)),.sh (.at (.int (h':Int))),.sh (c7 rss),c8 m,z,.sh (.lst (cs.map Cl.pv))] (λ_=>False) λy _=>vY [scr K ns,.at (.int (mo:Int))] y:=by intro n3 m z cs l10 lmo g1 nd;have d0:0<=n3 % ((h':Int)+1):=yd _ (by omega);have d1:n3 % ((h':Int)+1)<(h':Int)+1:=yk _ (by omega);refine ⟨_,rfl,_,rfl,⟨n3,rfl⟩,_,rfl,n3,(h':Int)+1,rfl,rfl,vg (by omega) (by omega),_,rfl,_,rfl,⟨_,rfl⟩,_,rfl,⟨_,rfl⟩,⟨great,rfl⟩,?_⟩;rintro y n4 ⟨ti,rfl,ti0,ti1⟩;exact ⟨by show 4<=lim;decide,⟨h',rss,cs,n3 % ((h':Int)+1)-1,ti⟩,scr K ns,mo,rfl,rfl,⟨hh1,hh4,hr,l10,g1,nd,(by show -1<=n3 % ((h':Int)+1)-1;omega),(by show n3 % ((h':Int)+1)-1<(h':Int);omega),ti0,(by show ti<60*qg;omega)⟩,lmo⟩
 -- cloths
 have cloths:∀(n3 q2:Int)(ss:List Str)(k:Nat),ss.length=k->k<=mo->ss.Nodup->(∀ s∈ss,vW s)->((wSeq (qq 8 (jV [none,some 6,some 4,some 3] [0] (wIp (y7 (q8 7))) (j9 0) jw (zb 1 wW vX (k4 (wP (q8 0)) (k4 (wP (q8 2)) (k4 (wP (q8 3)) qC))))))
  (xc (Qe (k4 (wP (q8 5)) (k4 (wP (q8 8)) (k4 (xo zZ (qP 2 (wP (x8 qo (q9 4) (dC (.int 1))))) (wP (dC (.int 1)))) (k4 (zb 2 zi zo (k4 (wP (q8 3)) qC)) qC))))))):WS) [.sh (scr K ns),.sh (.at (.int (mo:Int))),c8 n3,.sh (.at (.bl great)),.sh (.at (.int (h':Int))),.sh (c7 rss),c8 q2,.sh (.lst (y3 ss)),.no] (λ_=>False) λy _=>vY [scr K ns,.at (.int (mo:Int))] y:=by
  intro n3 q2 ss k el hkm nd nok;refine ⟨_,rfl,rfl,by rw [xJ];omega,?_⟩;refine XI (λrest ys ε=>∃(m:Int)(todo:List Str)(cs:List Cl),rest=y3 todo/\ε=[.no,c8 m,.sh (.at (.int (h':Int))),.sh (.at (.bl great))]/\ys=cs.map Cl.pv/\cs.map Cl.name++todo=ss/\(∀ c∈cs,c.Ok h')) ?_ ?_ _ [] _ ⟨q2,ss,[],rfl,rfl,rfl,rfl,(λ_ z=>nomatch z)⟩
  ·rintro ys ε ⟨m,todo,cs,e2,rfl,rfl,e3,g1⟩;have:todo=[]:=by
    cases todo with
    |nil=>rfl
    |cons _ _=>cases e2
   subst this;rw [yn] at e3;have cl:cs.length=k:=by rw [<- el,<- e3,yZ]
   refine ⟨(λ⟨y,e⟩=>nomatch (show some (MSlot.sh (scr K ns))=some (MSlot.ow y) from e)),?_⟩;exact fin n3 m _ cs (by omega) (by omega) g1 (by rw [e3];exact nd)
  ·rintro x rest ys ε ⟨m,todo,cs,e2,rfl,rfl,e3,g1⟩;cases todo with
   |nil=>cases e2
   |cons s todo =>
    have e2':x = .at (.str s)/\rest=y3 todo:=by injection e2 with e4 e5;exact ⟨e4,e5⟩
    obtain ⟨rfl,rfl⟩:=e2';have hs:s∈ss:=by rw [<- e3];exact yr _ yT
    refine ⟨_,rfl,⟨_,rfl⟩,_,rfl,_,rfl,_,rfl,⟨_,rfl⟩,⟨s,h',great,rfl,nok s hs,hh1,hh4⟩,?_⟩;rintro y m2 ⟨s2,h2,b2,c,e4,rfl,en,ok⟩;injection e4 with e4 e5;injection e4 with e4;injection e4 with e4;injection e5 with e5 _;injection e5 with e5;injection e5 with e5;have e6:h'=h2:=by omega
    subst e4 e6;refine ⟨m2,todo,cs++[c],rfl,rfl,by rw [yw];rfl,by rw [yw,uZ,<- e3];show _++(c.name::todo)=_;rw [en],λx hx=>?_⟩;rcases yo.mp hx with hx|hx
    ·exact g1 x hx
    ·rw [yK.mp hx];exact ok
 -- names
 refine ⟨_,rfl,_,rfl,⟨ns,1,rfl,h63,by decide,by decide⟩,?_⟩;rintro y ⟨q,rfl⟩;have c0:0<=q % ((mo:Int)+1):=yd _ (by omega);have c1:q % ((mo:Int)+1)<(mo:Int)+1:=yk _ (by omega);obtain ⟨k,hk⟩:=yj c0;refine ⟨⟨_,rfl⟩,⟨_,rfl⟩,_,rfl,q,(mo:Int)+1,rfl,rfl,vg (by omega) (by omega),⟨_,rfl⟩,⟨k,by rw [hk],by omega⟩,?_⟩;rintro y q2 ⟨ss,rfl,e1,nd,nok⟩;have el:ss.length=k:=by injection e1 with e1 _;injection e1 with e1;injection e1 with e1;rw [hk] at e1;omega
 exact cloths n3 q2 ss k el (by omega) nd nok
theorem Ho (F:Fun K "_law_parts" "_law_parts" WL f fd)(E9:Fn P w K mg base 3 "_law_cloth" ["row","name","hues","great"] (spD wW vX))(Ae:Fn P w K mg base 1 "_law_digit" ["row","many"] jv)(J7:Fn P w K mg base 2 "_law_names" ["row","many"] (spD Xg Xz))(Ay:Fn P w K mg base 2 "_law_number" ["row","great"] (spD zi zo))(Ew:Fn P w K mg base 3 "_law_rinses" ["row","hues","great"] (spD Xi vZ))(D0:Fn P w K mg base 2 "_law_stream" ["script","k"] (spN (vL K) jY)):FnOk P w K mg base v7 4 f fd ["script","most"] (spV (Xh K) vY) :=
 okV (k:=3) (b:=UH K) F sc_parts MP (λcdv A outer s H E hr=>⟨_,(@z8 _ _ _ _ _ (@qA _ _ 2 _ _ _ _ sc_parts.nd rfl (Or.inl rfl) (qy D0 hr (by decide) rfl (@v8 _ _ _ _ _ (pv 0) (@v8 _ _ _ _ _ z0 u4 (by rfl)) (by rfl))) (by rfl) (.inl rfl))
  (@z8 _ _ _ _ _ (@qA _ _ 3 _ _ _ _ sc_parts.nd rfl (Or.inr rfl) (xm (xW (K:=K) (ql hr) rfl) (qy Ae hr (by decide) rfl (@v8 _ _ _ _ _ (pv 2) (@v8 _ _ _ _ _ z0 u4 (by rfl)) (by rfl))) z0 (k5 _)) (by rfl) (.inl rfl))
  (@z8 _ _ _ _ _ (@qA _ _ 4 _ _ _ _ sc_parts.nd rfl (Or.inr rfl) (u5 (xa (K:=K) rfl) z0 (qy Ae hr (by decide) rfl (@v8 _ _ _ _ _ (pv 2) (@v8 _ _ _ _ _ z0 u4 (by rfl)) (by rfl)))) (by rfl) (.inl rfl))
  (@z8 _ _ _ _ _ (@qA _ _ 5 _ _ _ _ sc_parts.nd rfl (Or.inl rfl) (qy Ew hr (by decide) rfl (@v8 _ _ _ _ _ (pv 2) (@v8 _ _ _ _ _ (pv 4) (@v8 _ _ _ _ _ (pv 3) u4 (by rfl)) (by rfl)) (by rfl))) (by rfl) (.inl rfl))
  (@z8 _ _ _ _ _ (@qA _ _ 6 _ _ _ _ sc_parts.nd rfl (Or.inr rfl) (qy D0 hr (by decide) rfl (@v8 _ _ _ _ _ (pv 0) (@v8 _ _ _ _ _ z0 u4 (by rfl)) (by rfl))) (by rfl) (.inl rfl))
  (@z8 _ _ _ _ _ (@qA _ _ 7 _ _ _ _ sc_parts.nd rfl (Or.inl rfl) (qy J7 hr (by decide) rfl (@v8 _ _ _ _ _ (pv 6) (@v8 _ _ _ _ _ (qy Ae hr (by decide) rfl (@v8 _ _ _ _ _ (pv 6) (@v8 _ _ _ _ _ (u5 (xa (K:=K) rfl) (pv 1) z0) u4 (by rfl)) (by rfl))) u4 (by rfl)) (by rfl))) (by rfl) (.inl rfl))
  (@z8 _ _ _ _ _ (zk (i:=8) (N':=["name","more","hues","great"]) (cap:=[none,some 6,some 4,some 3]) (b9 rfl rfl rfl) rfl sc_parts.nd rfl rfl (@p0 _ K _ _ _ rfl (pv 7)) (λ_ _ _ _ _ _=>(k9 (i:=0) (by show (["name","more","hues","great"]:List Str).Nodup;decide +kernel) rfl (Or.inl rfl))) (λ_ _ _ _ _ _=>m9) (λ_ _ _ _ _ _=>(qy E9 hr (by decide) rfl (@v8 _ _ _ _ _ (pv 1) (@v8 _ _ _ _ _ (pv 0) (@v8 _ _ _ _ _ (pv 2) (@v8 _ _ _ _ _ (pv 3) u4 (by rfl)) (by rfl)) (by rfl)) (by rfl)))))
  (@z7 _ _ _ (w5 (@xn _ _ _ _ _ (@v8 _ _ _ _ _ (pv 5) (@v8 _ _ _ _ _ (pv 8) (@v8 _ _ _ _ _ (u5 (wT) (qy Ae hr (by decide) rfl (@v8 _ _ _ _ _ (pv 2) (@v8 _ _ _ _ _ (u5 (xa (K:=K) rfl) (pv 4) z0) u4 (by rfl)) (by rfl))) z0) (@v8 _ _ _ _ _ (qy Ay hr (by decide) rfl (@v8 _ _ _ _ _ (pv 2) (@v8 _ _ _ _ _ (pv 3) u4 (by rfl)) (by rfl))) u4 (by rfl)) (by rfl)) (by rfl)) (by rfl)))))))))))),
  (by repeat' first|infer_instance|(refine @Mi.instSemWSTSeqWSeq _ _ _ _ ?_ ?_)|(apply @Mi.instSemWSTForWForOfSemWIOfSemWG))⟩) MW
structure Mat (H:Hp)(F:Addr)(as:List Addr)(M:List (List Int)):Prop where
 top:H F=some (.lst (as.map V.ref))
 len:as.length=M.length
 row:∀(i:Nat)(a:Addr)(r:List Int),as[i]?=some a->M[i]?=some r->H a=some (.lst (r.map V.int))
 nd:(F::as).Nodup
def me (M:List (List Int))(f g:Nat):Int:=(M.getD f []).getD g 0
def xV (M:List (List Int))(i l:Nat)(v:Int):List (List Int):=M.set i ((M.getD i []).set l v)
theorem Ng {M:List (List Int)}{i f g:Nat}(hi:i<M.length)(hl:l<(M.getD i []).length)(v:Int):me (xV M i l v) f g=if f=i/\g=l then v else me M f g:=by
 unfold me xV;by_cases hf:f=i
 ·subst hf;have e:(M.set f ((M.getD f []).set l v)).getD f []=(M.getD f []).set l v:=by rw [yN,uU hi];rfl
  rw [e];by_cases hg:g=l
  ·subst hg;rw [if_pos ⟨rfl,rfl⟩,yN,uU hl];rfl
  ·rw [if_neg (λz=>hg z.2),yN,yq (Ne.symm hg),<- yN]
 ·have e:(M.set i ((M.getD i []).set l v)).getD f []=M.getD f []:=by rw [yN,yq (Ne.symm hf),<- yN]
  rw [if_neg (λz=>hf z.1),e]
theorem Mat.set {F:Addr}{M:List (List Int)}(m:Mat H F as M){i:Nat}{a:Addr}(ha:as[i]?=some a)(l:Nat)(v:Int):Mat (j4 H a (.lst (((M.getD i []).set l v).map V.int))) F as (xV M i l v):=by
 have nd:=yu.mp m.nd;have am:a∈as:=yA ha;have fa:F≠a:=λz=>nd.1 (z▸am);have hi:i<M.length:=by rw [<- m.len];exact (yL.mp ha).1
 refine ⟨by rw [z5 fa];exact m.top,by unfold xV;rw [ym];exact m.len,λj b r hb hr=>?_,m.nd⟩;unfold xV at hr;by_cases hj:j=i
 ·subst hj;rw [ha] at hb;cases hb;rw [uU hi] at hr;cases hr;exact y9
 ·rw [yq (Ne.symm hj)] at hr;have:b≠a:=λz=>by
   subst z;obtain ⟨h1,e1⟩:=yL.mp ha;obtain ⟨h2,e2⟩:=yL.mp hb;exact hj ((List.getElem_inj (h₀:=h2) (h₁:=h1) nd.2).mp (e2.trans e1.symm))
  rw [z5 this];exact m.row j b r hb hr
structure ShM (h:Nat)(M:List (List Int)):Prop where
 len:M.length=h+1
 row:∀ i,i<=h->(M.getD i []).length=h
theorem ShM.set {M:List (List Int)}(s:ShM h M){i:Nat}(v:Int):ShM h (xV M i l v):=by
 refine ⟨by unfold xV;rw [ym];exact s.len,λj hj=>?_⟩;unfold xV;by_cases e:j=i
 ·subst e;rw [yN,uU (by rw [s.len];omega)];show ((M.getD j []).set l v).length=h;rw [ym];exact s.row j hj
 ·rw [yN,yq (Ne.symm e),<- yN];exact s.row j hj
theorem ShM.ofGood {M:List (List Int)}(G:n8 h M):ShM h M:=⟨G.len,λi hi=>by
 have hl:i<M.length:=by rw [G.len];omega
 rw [k7 hl];exact (G.row _ (yt hl)).1⟩
structure Rlx (rss:List (List Int))(h t:Nat)(M:List (List Int)):Prop where
 sh:ShM h M
 ge:∀ f g,f<=h->g<h->(y4 (p6 rss h) f g).1<=me M f g
 z:∀ f g,f<=h->g<h->me M f g<=m6 rss h 0 f g
 t:∀ f g,f<=h->g<h->me M f g<=m6 rss h t f g
theorem Rlx.step {t:Nat}{M:List (List Int)}(G:n8 h rss)(R:Rlx rss h t M){i a:Nat}(hi:i<=h)(ha:a<h)(hl:l<h)(hv:v=me M i l∨v=me M i a+me M a l)(v1:v<=me M i l)(v2:v<=me M i a+me M a l):Rlx rss h t (xV M i l v)/\(∀ f g,me (xV M i l v) f g<=me M f g)/\me (xV M i l v) i l<=m6 rss h t i a+m6 rss h 0 a l:=by
 have hil:i<M.length:=by rw [R.sh.len];omega
 have hll:l<(M.getD i []).length:=by rw [R.sh.row i hi];exact hl
 have ee:=λf g=>Ng (M:=M) (i:=i) (l:=l) (f:=f) (g:=g) hil hll v;have dn:∀ f g,me (xV M i l v) f g<=me M f g:=λf g=>by
  rw [ee];split
  ·rename_i e;rw [e.1,e.2];exact v1
  ·exact uC _
 refine ⟨⟨R.sh.set v,λf g hf hg=>?_,λf g hf hg=>uy (dn f g) (R.z f g hf hg),λf g hf hg=>uy (dn f g) (R.t f g hf hg)⟩,dn,?_⟩
 ·rw [ee];split
  ·rename_i e;rw [e.1,e.2];rcases hv with hv|hv
   ·rw [hv];exact R.ge i l hi hl
   ·have t1:=(FW.all G h (yU _)).tri a i l ha hi hl;have t2:=R.ge i a hi ha;have t3:=R.ge a l (by omega) hl;omega
  ·exact R.ge f g hf hg
 ·rw [ee,if_pos ⟨rfl,rfl⟩];have t2:=R.t i a hi ha;have t3:=R.z a l (by omega) hl;omega
theorem De (G:n8 h rss){f g:Nat}(hf:f<=h)(hg:g<h):m6 rss h 0 f g=rin rss (f:Int) (g:Int):=(js G hf hg).symm
theorem Dd {t:Nat}(G:n8 h rss){f g:Nat}(hf:f<=h)(hg:g<h)(h0:v<=m6 rss h t f g)(h1:∀ a,a<h->v<=m6 rss h t f a+m6 rss h 0 a g):v<=m6 rss h (t+1) f g:=by
 rw [XF G hf hg];rcases yM.mp (Vd (l:=m6 rss h t f g::(List.range h).map λa=>m6 rss h t f a+rin rss (a:Int) (g:Int)) (by simp)) with e|e
 ·rw [e];exact h0
 ·obtain ⟨a,ha,e⟩:=yF.mp e;have ha:=yi.mp ha;rw [<- e,<- De G (by omega) hg];exact h1 a ha
theorem LU {M:List (List Int)}{t:Nat}(G:n8 h rss)(ht:h<=t)(R:Rlx rss h t M):M=o8 rss h:=by
 have G2:=jF G;have dec:∀ k f g,f<=h->g<h->m6 rss h (k+1) f g<=m6 rss h k f g:=λk f g hf hg=>by
  rw [XF G hf hg];exact Zz yT
 have dec2:∀ k f g,f<=h->g<h->m6 rss h (h+k) f g<=m6 rss h h f g:=λk f g hf hg=>by
  induction k with
  |zero=>exact uC _
  |succ k ih=>exact uy (dec (h+k) f g hf hg) ih
 have lowE:∀ f g,f<=h->g<h->((o8 rss h).getD f []).getD g 0=(y4 (p6 rss h) f g).1:=λf g hf hg=>JU G hf hg;have bl:∀ f g,f<=h->g<h->m6 rss h h f g=(y4 (p6 rss h) f g).1:=λf g hf hg=>by
  unfold m6;rw [Dc G];exact lowE f g hf hg
 refine List.ext_getElem (by rw [R.sh.len,G2.len]) λi h1 h2=>?_;have hi:i<=h:=by rw [R.sh.len] at h1;omega
 have r1:=R.sh.row i hi;rw [k7 h1] at r1;have r2:=(G2.row _ (yt h2)).1;refine List.ext_getElem (by rw [r1,r2]) λj j1 j2=>?_;have hj:j<h:=by rw [r1] at j1;exact j1
 have e1:M[i][j]=me M i j:=by unfold me;rw [k7 h1,k7 j1]
 have e2:(o8 rss h)[i][j]=(y4 (p6 rss h) i j).1:=by rw [<- lowE i j hi hj,k7 h2,k7 j2]
 rw [e1,e2];have a:=R.ge i j hi hj;have b:=R.t i j hi hj;have c:=dec2 (t-h) i j hi hj;rw [show h+(t-h)=t by omega,bl i j hi hj] at c;omega
theorem VJ {K:Fg}{i:Nat}{xs:List V}{k:Int}(hi:σ[i]?=some (some (.ref p)))(hj:σ[j]?=some (some (.int k)))(hp:H p=some (.lst xs))(hk:atI xs k=some u)(q:Q u H):tOp (rIx K) (qb i) (qb j) σ H Q :=
 ⟨_,hi,_,hj,.inl ⟨p,xs,k,u,rfl,rfl,SqL.of hp,hk,q⟩⟩
theorem Jb {k:Nat}(h:k<r.length):atI (r.map V.int) ((0:Int)+(k:Int))=some (.int (r.getD k 0)):=by rw [Int.zero_add];exact xq (by rw [yP,yY h,k7 h];rfl)
theorem Zg {K:Fg}{R:It->Hp->Prop}{i:Nat}{xs:List V}(hi:σ[i]?=some (some (.ref p)))(hp:SqL K H p xs)(hl:xs.length<=1000)(q:R (Itr 0 xs.length) H):vo (i0 (tCB (jr K) (i0 (qb i) i7)) i7) σ H R :=
 ⟨_,hi,.inl ⟨_,_,rfl,.inl ⟨xs,hp,rfl⟩,(xs.length:Int),rfl,by omega,by omega,by rw [uH];exact q⟩⟩
noncomputable def jI:List PV->Option PV:=λxs=>open Classical in if h:∃(n:Nat)(rss:List (List Int)),xs=[c7 rss]/\n8 n rss/\1<=n/\n<=4 then some (c7 (o8 h.choose_spec.choose h.choose)) else none
theorem RW {a b:List (List Int)}(h:c7 a=c7 b):a=b:=by unfold c7 at h;injection h with h;exact Zx (λx y e=>by injection e with e;exact Zx (λ_ _ e=>by injection e with e;injection e) e) h
theorem IA (G:n8 h rss)(h1:1<=h)(h4:h<=4):jI [c7 rss]=some (c7 (o8 rss h)):=by
 have ex:∃(n:Nat)(rs:List (List Int)),[c7 rss]=[c7 rs]/\n8 n rs/\1<=n/\n<=4:=⟨h,rss,rfl,G,h1,h4⟩;unfold jI;rw [dif_pos ex];have q:=ex.choose_spec.choose_spec;generalize ex.choose_spec.choose=rs at q;generalize ex.choose=n at q;obtain ⟨e,G',_⟩:=q;injection e with e _;have e:=RW e;subst e;have:n=h:=by have:=G.len;have:=G'.len;omega
 subst this;rfl
theorem KI (h:jI xs=some y):∃(n:Nat)(rss:List (List Int)),xs=[c7 rss]/\n8 n rss/\1<=n/\n<=4/\y=c7 (o8 rss n):=by
 unfold jI at h;split at h
 ·rename_i ex;obtain ⟨e,G,h1,h4⟩:=ex.choose_spec.choose_spec;exact ⟨_,_,e,G,h1,h4,(Option.some.inj h).symm⟩
 ·cases h
theorem MJ (h:j5 jI vs H Q E):vs.length=(["rinses"]:List Str).length:=by obtain ⟨Hs,xs,y,_,r,e,_⟩:=h;obtain ⟨n,rss,rfl,_⟩:=KI e;rw [r.length];rfl
structure Copied (H0 H:Hp)(as:List Addr)(M:List (List Int)):Prop where
 len:as.length=M.length
 row:∀(i:Nat)(a:Addr)(r:List Int),as[i]?=some a->M[i]?=some r->H a=some (.lst (r.map V.int))
 new:∀ a∈as,H0 a=none
 nd:as.Nodup
 keep:Same H0 H
theorem Copied.snoc {M:List (List Int)}(c:Copied H0 H as M){a:Addr}(ha:H a=none):Copied H0 (j4 H a (.lst (r.map V.int))) (as++[a]) (M++[r]):=by
 have na:∀ b∈as,b≠a:=λb hb z=>by
  obtain ⟨i,hi,e⟩:=List.mem_iff_getElem.mp hb;have hm:i<M.length:=by rw [<- c.len];exact hi
  have:=c.row i b M[i] (by rw [yY hi,e]) (yY hm);rw [z,ha] at this;cases this
 refine ⟨by rw [yQ,yQ,c.len];rfl,λi b q hb hq=>?_,λb hb=>?_,?_,λb o h=>?_⟩
 ·rw [List.getElem?_append] at hb hq;split at hb
  ·rename_i hi;rw [if_pos (by rw [<- c.len];exact hi)] at hq;rw [z5 (na b (yA hb))];exact c.row i b q hb hq
  ·rename_i hi;rw [if_neg (by rw [<- c.len];exact hi)] at hq;rw [c.len] at hb;cases hk:i-M.length with
   |zero=>rw [hk] at hb hq;cases hb;cases hq;exact y9
   |succ k=>rw [hk] at hb;simp at hb
 ·rcases yo.mp hb with hb|hb
  ·exact c.new b hb
  ·rw [yK.mp hb];cases h:H0 a with
   |none=>rfl
   |some o=>rw [c.keep _ _ h] at ha;cases ha
 ·refine uG.mpr ⟨c.nd,yu.mpr ⟨by simp,ug⟩,λx hx y hy=>?_⟩;rw [yK.mp hy];exact na x hx
 ·rw [z5 (λz=>by rw [z,] at h;rw [c.keep _ _ h] at ha;cases ha)];exact c.keep b o h
abbrev Wx:Stmt:=top 71
theorem sc_least:w6 ["rinses","found","turn","row","amid","last"] ["rinses"] (j7 Wx):=y8
theorem NY (F:Fun K "_law_least" "_law_least" Wx f fd)(Ac:mg "len"=none)(Ag:mg "list"=none)(Q2:mg "min"=none)(Ad:mg "range"=none):FnOk P w K mg base v7 1 f fd ["rinses"] (j5 jI):=by
 refine F.ok (k:=0) sc_least (λvs H Q E h=>MJ h) (λcdv A outer s H vs Q E hr h=>⟨_,(z8 (zk (i:=1) (N':=["row"]) (cap:=[none]) (b9 rfl rfl rfl) rfl sc_least.nd rfl rfl (@p0 _ K _ _ _ rfl (pv 0)) (λ_ _ _ _ _ _=>(k9 (i:=0) (by show (["row"]:List Str).Nodup;decide +kernel) rfl (Or.inl rfl))) (λ_ _ _ _ _ _=>m9) (λ_ _ _ _ _ _=>(zB (Qp (K:=K) rfl) rfl Ag zp (aW (pv 0)))))
  (z8 (qO PassesOwn.never rfl (zF rfl Ad (aW (u7 (qc (K:=K) rfl) rfl Ac PySem.boot_len (aW (pv 0))))) (gW 2 sc_least.nd)
   (z7 (qO PassesOwn.never rfl (@p0 _ K _ _ _ rfl (pv 1)) (gW 3 sc_least.nd)
   (z7 (qO PassesOwn.never rfl (zF rfl Ad (aW (u7 (qc (K:=K) rfl) rfl Ac PySem.boot_len (aW (pv 3))))) (gW 4 sc_least.nd)
   (z7 (qO PassesOwn.never rfl (zF rfl Ad (aW (u7 (qc (K:=K) rfl) rfl Ac PySem.boot_len (aW (pv 3))))) (gW 5 sc_least.nd)
   (z7 (VE (u7 (DA rfl) rfl Q2 Dk (aC (iW (K:=K) rfl (pv 3) (pv 5)) (aW (u5 (xa (K:=K) rfl) (iW (K:=K) rfl (pv 3) (pv 4)) (iW (K:=K) rfl (iW (K:=K) rfl (pv 1) (pv 4)) (pv 5)))))) (Bw (pv 3) (pv 5) Pr))))))))))
  (z7 (w5 (pv 1))))),?_⟩)
 obtain ⟨Hs,xs,y,sm,r,e,q⟩:=h;obtain ⟨h,rss,rfl,G,h1,h4,rfl⟩:=KI e;obtain ⟨v0,rr,rfl,p1,p2⟩:=reps_cons.mp r;cases reps_nil.mp p2;obtain ⟨A0,ws,rfl,hA,rA⟩:=rep_lst.mp p1;have hlim:lim=1000000:=rfl;have glen:=G.len;have wl:ws.length=h+1:=by rw [rA.length,yZ];exact glen
 -- copies
 refine ⟨_,rfl,A0,rfl,⟨ws,SqL.of (sm _ _ hA)⟩,Jk (xs:=ws) (λi ys H'=>∃ as:List Addr,ys=as.map V.ref/\Copied H H' as (rss.take i)) ⟨[],rfl,rfl,(λ_ _ _ z=>by simp at z),(λ_ z=>nomatch z),ug,.refl _⟩ (λi ys H' hi ⟨as,e,c⟩=>qW (by rw [e,yZ,c.len,uO];omega)) (λi ys H' hi ⟨as,e,c⟩=>SqL.of (c.keep _ _ (sm _ _ hA))) ?_ ?_⟩
 ·rintro i x ys H' R hx ⟨as,rfl,c⟩ hR;have hi:i<rss.length:=by have:=(yL.mp hx).1;omega
  obtain ⟨w,hw,rw'⟩:=rA.get (i:=i) (x:= .lst (rss[i].map λn=> .at (.int n))) (by rw [yP,yY hi];rfl);rw [hx] at hw;cases hw;obtain ⟨b,us,rfl,hb,rb⟩:=rep_lst.mp rw';have eu:us=rss[i].map V.int:=by have:=Reps.ats (us:=rss[i].map V.int) (by rw [yx];exact rb);exact this
  subst eu;refine ⟨Wk.one rfl,_,rfl,b,_,rfl,.inl (SqL.of (c.keep _ _ (sm _ _ hb))),λl hl=>hR _ _ ⟨as++[l],by rw [yw];rfl,?_⟩⟩;rw [List.take_add_one,yY hi];exact c.snoc hl
 ·rintro ys H1 ⟨as,rfl,c⟩ F hF;rw [wl,<- glen,List.take_length] at c;have m0:Mat (j4 H1 F (.lst (as.map V.ref))) F as rss:=by
   have fa:∀ a∈as,a≠F:=λa ha z=>by
    obtain ⟨i,hi,e⟩:=List.mem_iff_getElem.mp ha;have hm:i<rss.length:=by rw [<- c.len];exact hi
    have:=c.row i a rss[i] (by rw [yY hi,e]) (yY hm);rw [z,hF] at this;cases this
   exact ⟨y9,c.len,λi a r ha hr=>by rw [z5 (fa a (yA ha))];exact c.row i a r ha hr,yu.mpr ⟨λz=>fa F z rfl,c.nd⟩⟩
  have k0:Same H (j4 H1 F (.lst (as.map V.ref))):=c.keep.trans (ZR hF _);have nF:H F=none:=by
   cases z:H F with
   |none=>rfl
   |some o=>rw [c.keep _ _ z] at hF;cases hF
  have al:as.length=h+1:=c.len.trans glen;have kp:∀{H2:Hp}{a:Addr}{o:HO},Same H H2->a∈as->Same H (j4 H2 a o):=λ{H2 a o} k ha b u z=>by
   rw [z5 (λe=>by rw [e,c.new a ha] at z;cases z)];exact k b u z
  have R0:Rlx rss h 0 rss:=⟨ShM.ofGood G,λf g hf hg=>by
   have:=XG G 0 f g hf hg;exact this,λf g _ _=>uC _,λf g _ _=>uC _⟩
  show tFor (vo (i0 (tCB (jr K) (i0 (qb 0) i7)) i7)) (qE 2) _ _ [some (.ref A0),some (.ref F),none,none,none,none] _;refine Zg (K:=K) (i:=0) (p:=A0) (xs:=ws) (σ:=[some (.ref A0),some (.ref F),none,none,none,none]) rfl (SqL.of (k0 _ _ (sm _ _ hA))) (by omega) ?_;refine Qz (λt σ H2=>∃(M:List (List Int))(s2 s3 s4 s5:Option V),σ=[some (.ref A0),some (.ref F),s2,s3,s4,s5]/\Mat H2 F as M/\Same H H2/\Rlx rss h t M) ⟨rss,_,_,_,_,rfl,m0,k0,R0⟩ ?_ ?_
  ·rintro t σ H2 ht ⟨M,s2,s3,s4,s5,rfl,m,k,R⟩;refine ⟨_,rfl,F,rfl,⟨_,SqL.of m.top⟩,Mw (xs:=as.map V.ref) (λi σ H2=>∃(M:List (List Int))(s3 s4 s5:Option V),σ=[some (.ref A0),some (.ref F),some (.int (0+t)),s3,s4,s5]/\Mat H2 F as M/\Same H H2/\Rlx rss h t M/\∀ f g,f<i->f<=h->g<h->me M f g<=m6 rss h (t+1) f g) ⟨M,s3,s4,s5,rfl,m,k,R,λf g hf=>absurd hf (tY _)⟩ (λi σ H2 _ ⟨M,_,_,_,_,m,_⟩=>SqL.of m.top) ?_ ?_⟩
   ·rintro i x σ H2 hx ⟨M,s3,s4,s5,rfl,m,k,R,C⟩;rw [yP] at hx;obtain ⟨a,ha,rfl⟩:=yJ.mp hx;have hi:i<=h:=by have:=(yL.mp ha).1;omega
    have hiM:∀{M:List (List Int)},ShM h M->M[i]?=some (M.getD i []):=λ{M} s=>by
     have:i<M.length:=by rw [s.len];omega
     rw [k7 this,yY this]
    have am:a∈as:=yA ha;show tFor (vo (i0 (tCB (jr K) (i0 (qb 3) i7)) i7)) (qE 4) _ _ [some (.ref A0),some (.ref F),some (.int (0+t)),some (.ref a),s4,s5] _;refine Zg (K:=K) (i:=3) (p:=a) (xs:=(M.getD i []).map V.int) (σ:=[some (.ref A0),some (.ref F),some (.int (0+t)),some (.ref a),s4,s5]) rfl (SqL.of (m.row i a _ ha (hiM R.sh))) (by rw [yZ,R.sh.row i hi];omega) ?_;rw [yZ,R.sh.row i hi];refine Qz (λb σ H2=>∃(M:List (List Int))(s4 s5:Option V),σ=[some (.ref A0),some (.ref F),some (.int (0+t)),some (.ref a),s4,s5]/\Mat H2 F as M/\Same H H2/\Rlx rss h t M/\(∀ f g,f<i->f<=h->g<h->me M f g<=m6 rss h (t+1) f g)/\∀ c g,c<b->c<h->g<h->me M i g<=m6 rss h t i c+m6 rss h 0 c g) ⟨M,s4,s5,rfl,m,k,R,C,λc g hc=>absurd hc (tY _)⟩ ?_ ?_
    ·rintro b σ H2 hb ⟨M,s4,s5,rfl,m,k,R,C,D⟩;show tFor (vo (i0 (tCB (jr K) (i0 (qb 3) i7)) i7)) (qE 5) _ _ [some (.ref A0),some (.ref F),some (.int (0+t)),some (.ref a),some (.int (0+b)),s5] _;refine Zg (K:=K) (i:=3) (p:=a) (xs:=(M.getD i []).map V.int) (σ:=[some (.ref A0),some (.ref F),some (.int (0+t)),some (.ref a),some (.int (0+b)),s5]) rfl (SqL.of (m.row i a _ ha (hiM R.sh))) (by rw [yZ,R.sh.row i hi];omega) ?_;rw [yZ,R.sh.row i hi];refine Qz (λl σ H2=>∃(M:List (List Int))(s5:Option V),σ=[some (.ref A0),some (.ref F),some (.int (0+t)),some (.ref a),some (.int (0+b)),s5]/\Mat H2 F as M/\Same H H2/\Rlx rss h t M/\(∀ f g,f<i->f<=h->g<h->me M f g<=m6 rss h (t+1) f g)/\(∀ c g,c<b->c<h->g<h->me M i g<=m6 rss h t i c+m6 rss h 0 c g)/\∀ g,g<l->g<h->me M i g<=m6 rss h t i b+m6 rss h 0 b g) ⟨M,s5,rfl,m,k,R,C,D,λg hg=>absurd hg (tY _)⟩ ?_ ?_
     ·rintro l σ H2 hl ⟨M,s5,rfl,m,k,R,C,D,L⟩;have ri:H2 a=some (.lst ((M.getD i []).map V.int)):=m.row i a _ ha (hiM R.sh);have bl:b<as.length:=by omega
      have rbM:M[b]?=some (M.getD b []):=by
       have:b<M.length:=by rw [R.sh.len];omega
       rw [k7 this,yY this]
      have rb:H2 as[b]=some (.lst ((M.getD b []).map V.int)):=m.row b _ _ (yY bl) rbM;have li:l<(M.getD i []).length:=by rw [R.sh.row i hi];exact hl
      have bi:b<(M.getD i []).length:=by rw [R.sh.row i hi];exact hb
      have lb:l<(M.getD b []).length:=by rw [R.sh.row b (by omega)];exact hl
      refine VJ (k:=0+(l:Int)) rfl rfl ri (Jb li) ?_;refine VJ (k:=0+(b:Int)) rfl rfl ri (Jb bi) ?_;refine VJ (i:=1) (k:=0+(b:Int)) (u:= .ref as[b]) rfl rfl m.top (by rw [Int.zero_add];exact xq (by rw [yP,yY bl];rfl)) ?_;refine ⟨_,rfl,.inl ⟨_,_,_,_,rfl,rfl,SqL.of rb,Jb lb,.inl ⟨_,_,rfl,rfl,_,_,rfl,?_⟩⟩⟩;generalize hv:(if (M.getD i []).getD b 0+(M.getD b []).getD l 0<(M.getD i []).getD l 0 then (M.getD i []).getD b 0+(M.getD b []).getD l 0 else (M.getD i []).getD l 0)=v;have hv':(v=me M i l∨v=me M i b+me M b l)/\v<=me M i l/\v<=me M i b+me M b l:=by unfold me;rw [<- hv];split<;>omega
      obtain ⟨R',dn,ne⟩:=R.step G hi hb hl hv'.1 hv'.2.1 hv'.2.2;refine ⟨_,rfl,_,rfl,a,_,_,l,rfl,rfl,ri,?_,?_⟩
      ·rw [yZ,R.sh.row i hi,Int.zero_add];unfold ixN;rw [if_pos (by omega),if_pos (by omega)]
       congr 1
      ·have es:((M.getD i []).map V.int).set l (.int v)=(((M.getD i []).set l v).map V.int):=by rw [List.map_set]
       rw [es];refine ⟨xV M i l v,_,rfl,m.set ha l v,kp k am,R',λf g hf hf' hg=>uy (dn f g) (C f g hf hf' hg),λc g hc hc' hg=>uy (dn i g) (D c g hc hc' hg),λg hg hg'=>?_⟩;rcases Nat.lt_or_ge g l with z|z
       ·exact uy (dn i g) (L g z hg')
       ·have:g=l:=by omega
        subst this;exact ne
     ·rintro σ H2 ⟨M,s5,rfl,m,k,R,C,D,L⟩;refine ⟨M,_,_,rfl,m,k,R,C,λc g hc hc' hg=>?_⟩;rcases Nat.lt_or_ge c b with z|z
      ·exact D c g z hc' hg
      ·have:c=b:=by omega
       subst this;exact L g hg hg
    ·rintro σ H2 ⟨M,s4,s5,rfl,m,k,R,C,D⟩;refine ⟨M,_,_,_,rfl,m,k,R,λf g hf hf' hg=>?_⟩;rcases Nat.lt_or_ge f i with z|z
     ·exact C f g z hf' hg
     ·have:f=i:=by omega
      subst this;exact Dd G hf' hg (R.t f g hf' hg) λc hc=>D c g hc hc hg
   ·rintro σ H2 ⟨M,s3,s4,s5,rfl,m,k,R,C⟩;rw [yZ,al] at C;exact ⟨M,_,_,_,_,rfl,m,k,R.sh,R.ge,R.z,λf g hf hg=>C f g (by omega) hf hg⟩
  ·rintro σ H2 ⟨M,s2,s3,s4,s5,rfl,m,k,R⟩;rw [wl] at R;have eM:=LU G (ui h) R;subst eM
   -- all of it becomes shared
   let Hs':Hp:=λb=>if b=F∨b∈as then H2 b else Hs b
   have nn:∀ b,b=F∨b∈as->H b=none:=λb hb=>by
    rcases hb with rfl|hb
    ·exact nF
    ·exact c.new b hb
   have s1:Same Hs Hs':=λb o z=>by
    show (if _ then _ else _)=_;rw [if_neg (λy=>by have:=sm _ _ z;rw [nn b y] at this;cases this)];exact z
   have s3:Same Hs' H2:=λb o z=>by
    have z:(if b=F∨b∈as then H2 b else Hs b)=some o:=z;split at z
    ·exact z
    ·exact k _ _ (sm _ _ z)
   refine ⟨_,rfl,q (.ref F) Hs' H2 ⟨s1,k,s3,λb hb z=>?_⟩ (rep_lst.mpr ⟨F,as.map V.ref,rfl,?_,?_⟩)⟩
   ·show (if _ then _ else _)=_;rw [if_neg (λy=>hb (nn b y))];exact z
   ·show (if _ then _ else _)=_;rw [if_pos (.inl rfl)];exact m.top
   ·have lens:=m.len;have rows:=m.row;have inAs:∀ a∈as,Hs' a=H2 a:=λa ha=>by show (if _ then _ else _)=_;rw [if_pos (.inr ha)]
    clear_value Hs'
    clear m R q s1 s3;generalize o8 rss h=M at lens rows;have go:∀(as:List Addr)(M:List (List Int)),as.length=M.length->(∀(i:Nat)(a:Addr)(r:List Int),as[i]?=some a->M[i]?=some r->Hs' a=some (.lst (r.map V.int)))->Reps Hs' (M.map λr=>PV.lst (r.map λn=> .at (.int n))) (as.map V.ref):=by
     intro as
     induction as with
     |nil =>
      intro M hl _;cases M with
      |nil=>exact .nil
      |cons _ _=>cases hl
     |cons a as ih =>
      intro M hl hr;cases M with
      |nil=>cases hl
      |cons r M=>refine .cons (rep_lst.mpr ⟨a,r.map V.int,rfl,hr 0 a r rfl rfl,?_⟩) (ih M (by simpa using hl) λi b q hb hq=>hr (i+1) b q hb hq);have:=Reps.ofAts (H:=Hs') (r.map V.int);rw [yx] at this;exact this
    exact go as M lens λi a r ha hr=>by rw [inAs a (yA ha)];exact rows i a r ha hr
abbrev Wu:Stmt:=top 4
abbrev Ut:MS:=(w9 (qS (x9 o3 (q0 (q9 0) (q0 (dC (.ty "int")) x6))) (Qs (x9 o3 (q0 (q9 0) (q0 (dC (.ty "bool")) x6))))))
def jH:List PV->Option PV:=k6 1 1 Ut
theorem TC:w6 ["thing"] ["thing"] (j7 Wu):=y8
theorem NU (F:Fun K "is_whole" "is_whole" Wu f fd)(Eu:mg "bool"=none)(E5:mg "int"=none)(Ab:mg "isinstance"=none):FnOk P w K mg base v7 1 f fd ["thing"] (j5 jH) :=
 c5 (k:=0) (b:=Ut) F TC rfl λcdv A outer s H E hr=>⟨_,(z7 (w5 (zh (u7 (xC (K:=K) rfl) rfl Ab xz (aC (pv 0) (aW (xE (v:= .ty "int") rfl E5 Gm rfl)))) (zD (Bu (u7 (xC (K:=K) rfl) rfl Ab xz (aC (pv 0) (aW (xE (v:= .ty "bool") rfl Eu Gk rfl))))))))),
  inferInstance⟩
abbrev WG:Stmt:=top 7
abbrev UC:MS:=(w9 (x8 j3 (q9 0) (dC (.int 0))))
def xU:List PV->Option PV:=k6 1 1 UC
theorem TL:w6 ["cloth"] ["cloth"] (j7 WG):=y8
theorem Hj (F:Fun K "name_of" "name_of" WG f fd):FnOk P w K mg base v7 1 f fd ["cloth"] (j5 xU) :=
 c5 (k:=0) (b:=UC) F TL rfl λcdv A outer s H E hr=>⟨_,(z7 (w5 (iW (K:=K) rfl (pv 0) z0))),
  inferInstance⟩
abbrev Wj:Stmt:=top 8
abbrev Uh:MS:=(w9 (x8 j3 (q9 0) (dC (.int 1))))
def zU:List PV->Option PV:=k6 1 1 Uh
theorem Tr:w6 ["cloth"] ["cloth"] (j7 Wj):=y8
theorem NK (F:Fun K "hue_of" "hue_of" Wj f fd):FnOk P w K mg base v7 1 f fd ["cloth"] (j5 zU) :=
 c5 (k:=0) (b:=Uh) F Tr rfl λcdv A outer s H E hr=>⟨_,(z7 (w5 (iW (K:=K) rfl (pv 0) z0))),
  inferInstance⟩
abbrev WD:Stmt:=top 9
abbrev UA:MS:=(w9 (x8 j3 (q9 0) (dC (.int 2))))
def JX:List PV->Option PV:=k6 1 1 UA
theorem TH:w6 ["cloth"] ["cloth"] (j7 WD):=y8
theorem Hg (F:Fun K "length_of" "length_of" WD f fd):FnOk P w K mg base v7 1 f fd ["cloth"] (j5 JX) :=
 c5 (k:=0) (b:=UA) F TH rfl λcdv A outer s H E hr=>⟨_,(z7 (w5 (iW (K:=K) rfl (pv 0) z0))),
  inferInstance⟩
abbrev Wh:Stmt:=top 10
abbrev Uf:MS:=(w9 (x8 j3 (q9 0) (dC (.int 3))))
def QK:List PV->Option PV:=k6 1 1 Uf
theorem Tp:w6 ["cloth"] ["cloth"] (j7 Wh):=y8
theorem NI (F:Fun K "due_of" "due_of" Wh f fd):FnOk P w K mg base v7 1 f fd ["cloth"] (j5 QK) :=
 c5 (k:=0) (b:=Uf) F Tp rfl λcdv A outer s H E hr=>⟨_,(z7 (w5 (iW (K:=K) rfl (pv 0) z0))),
  inferInstance⟩
abbrev Ye:Stmt:=top 11
abbrev UX:MS:=(w9 (x8 j3 (q9 0) (dC (.int 4))))
def JY:List PV->Option PV:=k6 1 1 UX
theorem TY:w6 ["cloth"] ["cloth"] (j7 Ye):=y8
theorem HK (F:Fun K "weight_of" "weight_of" Ye f fd):FnOk P w K mg base v7 1 f fd ["cloth"] (j5 JY) :=
 c5 (k:=0) (b:=UX) F TY rfl λcdv A outer s H E hr=>⟨_,(z7 (w5 (iW (K:=K) rfl (pv 0) z0))),
  inferInstance⟩
abbrev Wn:Stmt:=top 12
abbrev Uk:MS:=(w9 (qS (x9 jH (q0 (q8 0) x6)) (x8 pGe (q9 0) (q9 1))))
def zV:List PV->Option PV:=k6 2 2 Uk
theorem Tw:w6 ["thing","least"] ["thing","least"] (j7 Wn):=y8
theorem NN (F:Fun K "is_from" "is_from" Wn f fd)(Al:Fn P w K mg base 1 "is_whole" ["thing"] (j5 jH)):FnOk P w K mg base v7 2 f fd ["thing","least"] (j5 zV) :=
 c5 (k:=1) (b:=Uk) F Tw rfl λcdv A outer s H E hr=>⟨_,(z7 (w5 (zh (fW Al hr (aW (pv 0))) (zD (xm (ZB) (pv 0) (pv 1) (k5 _)))))),
  inferInstance⟩
abbrev Wp:Stmt:=top 3
abbrev Um:MS:=(v9 (p7 (qi (h8 (t0 (x9 o3 (q0 (q9 0) (q0 (dC (.ty "str")) x6))))) (h8 (dT (zq pLe pLe (dC (.int 1)) (x9 qp (q0 (q9 0) x6)) (dC (.int 8)))))) (w9 (dC (.bl false))) c9)
  (w9 (x9 zg (q0 (g8 [none] [0] (dItS (q8 0)) (j9 0) g9 (zq pLeS pLeS (dC (.str "a")) (q9 0) (dC (.str "z")))) x6))))
def Zp:List PV->Option PV:=k6 1 1 Um
theorem Tx:w6 ["thing"] ["thing"] (j7 Wp):=y8
theorem NP (F:Fun K "is_name" "is_name" Wp f fd)(Au:mg "all"=none)(Ab:mg "isinstance"=none)(Ac:mg "len"=none)(E4:mg "str"=none)(A9:mg "LONGEST_NAME"=some (.int 8 B8)):FnOk P w K mg base v7 1 f fd ["thing"] (j5 Zp) :=
 c5 (k:=0) (b:=Um) F Tx rfl λcdv A outer s H E hr=>⟨_,(z8 (c6 (PW.pt (xb (qd (qf (K:=K) rfl (u7 (xC (K:=K) rfl) rfl Ab xz (aC (pv 0) (aW (xE (v:= .ty "str") rfl E4 Go rfl)))) (λ_=>rfl))) (xY (qd (ZL (wO) (wO) z0 (u7 (qc (K:=K) rfl) rfl Ac PySem.boot_len (aW (pv 0))) (ZF (v:= .int 8) rfl A9 ⟨_,rfl⟩)))))) (z7 (w5 qN)) m4)
  (z7 (w5 (u7 (vf (K:=K) rfl rfl) rfl Au ve (aW (i6 (N':=["sign"]) (cap:=[none]) (b9 rfl rfl rfl) rfl (Rr (pv 0)) (λ_ _ _ _ _ _=>(k9 (i:=0) (by show (["sign"]:List Str).Nodup;decide +kernel) rfl (Or.inl rfl))) (λ_ _ _ _ _ _=>m9) (λ_ _ _ _ _ _=>(Rc (Bo) (Bo) xx (pv 0) xx)))))))),
  inferInstance⟩
abbrev Wm:Stmt:=top 13
abbrev Uj:MS:=(v9 (p7 (qi (h8 (t0 (x9 o3 (q0 (q9 0) (q0 (dC (.ty "tuple")) x6))))) (dT (x8 pNe (x9 qp (q0 (q9 0) x6)) (dC (.int 5))))) (w9 (dC (.bl false))) c9)
  (v9 (p7 (qi (h8 (t0 (x9 Zp (q0 (x9 xU (q0 (q8 0) x6)) x6)))) (qi (h8 (t0 (x9 zV (q0 (x9 zU (q0 (q8 0) x6)) (q0 (dC (.int 0)) x6))))) (dT (x8 pGe (x9 zU (q0 (q8 0) x6)) (q9 1))))) (w9 (dC (.bl false))) c9)
  (w9 (qS (x9 zV (q0 (x9 JX (q0 (q8 0) x6)) (q0 (dC (.int 1)) x6))) (qS (x9 jH (q0 (x9 QK (q0 (q8 0) x6)) x6)) (x9 zV (q0 (x9 JY (q0 (q8 0) x6)) (q0 (dC (.int 1)) x6))))))))
def Zo:List PV->Option PV:=k6 2 2 Uj
theorem Tv:w6 ["thing","hues"] ["thing","hues"] (j7 Wm):=y8
theorem NM (F:Fun K "is_cloth" "is_cloth" Wm f fd)(D7:Fn P w K mg base 1 "due_of" ["cloth"] (j5 QK))(Ak:Fn P w K mg base 1 "hue_of" ["cloth"] (j5 zU))(As:Fn P w K mg base 2 "is_from" ["thing","least"] (j5 zV))(Er:Fn P w K mg base 1 "is_name" ["thing"] (j5 Zp))(Al:Fn P w K mg base 1 "is_whole" ["thing"] (j5 jH))(Eg:Fn P w K mg base 1 "length_of" ["cloth"] (j5 JX))(Af:Fn P w K mg base 1 "name_of" ["cloth"] (j5 xU))(Ea:Fn P w K mg base 1 "weight_of" ["cloth"] (j5 JY))(Ab:mg "isinstance"=none)(Ac:mg "len"=none)(Eh:mg "tuple"=none)(J1:mg "PARTS"=some (.int 5 J5)):FnOk P w K mg base v7 3 f fd ["thing","hues"] (j5 Zo) :=
 c5 (k:=2) (b:=Uj) F Tv rfl λcdv A outer s H E hr=>⟨_,(z8 (c6 (PW.pt (xb (qd (qf (K:=K) rfl (u7 (xC (K:=K) rfl) rfl Ab xz (aC (pv 0) (aW (xE (v:= .ty "tuple") rfl Eh Gp rfl)))) (λ_=>rfl))) (xY (n9 (zy (K:=K) (ql hr) rfl) (u7 (qc (K:=K) rfl) rfl Ac PySem.boot_len (aW (pv 0))) (ZF (v:= .int 5) rfl J1 ⟨_,rfl⟩) (k5 _))))) (z7 (w5 qN)) m4)
  (z8 (c6 (PW.pt (xb (qd (qf (K:=K) rfl (fW Er hr (aW (fW Af hr (aW (pv 0))))) (λ_=>rfl))) (xb (qd (qf (K:=K) rfl (fW As hr (aC (fW Ak hr (aW (pv 0))) (aW z0))) (λ_=>rfl))) (xY (n9 (ZB) (fW Ak hr (aW (pv 0))) (pv 1) (k5 _)))))) (z7 (w5 qN)) m4)
  (z7 (w5 (zh (fW As hr (aC (fW Eg hr (aW (pv 0))) (aW z0))) (zh (fW Al hr (aW (fW D7 hr (aW (pv 0))))) (zD (fW As hr (aC (fW Ea hr (aW (pv 0))) (aW z0)))))))))),
  inferInstance⟩
abbrev Ws:Stmt:=top 47
abbrev Ur:MS:=(v9 (p7 (qi (h8 (t0 (x9 o3 (q0 (q9 0) (q0 (dC (.ty "list")) x6))))) (dT (x8 pNe (x9 qp (q0 (q9 0) x6)) (q9 1)))) (w9 (dC (.bl false))) c9)
  (w9 (x9 zg (q0 (g8 [none] [0] (y7 (q8 0)) (j9 0) g9 (qS (x9 jH (q0 (q8 0) x6)) (x8 pGe (q9 0) (dC (.int 0))))) x6))))
def QP:List PV->Option PV:=k6 2 2 Ur
theorem TB:w6 ["row","hues"] ["row","hues"] (j7 Ws):=y8
theorem NS (F:Fun K "is_rinse_row" "is_rinse_row" Ws f fd)(Al:Fn P w K mg base 1 "is_whole" ["thing"] (j5 jH))(Au:mg "all"=none)(Ab:mg "isinstance"=none)(Ac:mg "len"=none)(Ag:mg "list"=none):FnOk P w K mg base v7 2 f fd ["row","hues"] (j5 QP) :=
 c5 (k:=1) (b:=Ur) F TB rfl λcdv A outer s H E hr=>⟨_,(z8 (c6 (PW.pt (xb (qd (qf (K:=K) rfl (u7 (xC (K:=K) rfl) rfl Ab xz (aC (pv 0) (aW (xE (v:= .ty "list") rfl Ag zp rfl)))) (λ_=>rfl))) (xY (n9 (zy (K:=K) (ql hr) rfl) (u7 (qc (K:=K) rfl) rfl Ac PySem.boot_len (aW (pv 0))) (pv 1) (k5 _))))) (z7 (w5 qN)) m4)
  (z7 (w5 (u7 (vf (K:=K) rfl rfl) rfl Au ve (aW (i6 (N':=["number"]) (cap:=[none]) (b9 rfl rfl rfl) rfl (@p0 _ K _ _ _ rfl (pv 0)) (λ_ _ _ _ _ _=>(k9 (i:=0) (by show (["number"]:List Str).Nodup;decide +kernel) rfl (Or.inl rfl))) (λ_ _ _ _ _ _=>m9) (λ_ _ _ _ _ _=>(zh (fW Al hr (aW (pv 0))) (zD (xm (ZB) (pv 0) z0 (k5 _))))))))))),
  inferInstance⟩
abbrev Wb:Stmt:=top 48
abbrev Ua:MS:=(v9 (p7 (h8 (t0 (x9 o3 (q0 (q9 0) (q0 (dC (.ty "list")) x6))))) xk c9)
  (v9 (b8 1 (x8 zZ (x9 qp (q0 (q9 0) x6)) (dC (.int 1))))
  (v9 (p7 (h8 (dT (zq pLe pLe (dC (.int 1)) (q9 1) (dC (.int 4))))) xk c9)
  (p7 (h8 (t0 (x9 zg (q0 (g8 [none,some 1] [0] (y7 (q8 0)) (j9 0) g9 (x9 QP (q0 (q8 0) (q0 (q8 1) x6)))) x6)))) xk c9))))
def Zm:List PV->Option PV:=k6 2 1 Ua
theorem sc_check_rinses:w6 ["rinses","hues"] ["rinses"] (j7 Wb):=y8
theorem NC (F:Fun K "check_rinses" "check_rinses" Wb f fd)(B6:Fn P w K mg base 2 "is_rinse_row" ["row","hues"] (j5 QP))(Au:mg "all"=none)(Ab:mg "isinstance"=none)(Ac:mg "len"=none)(Ag:mg "list"=none)(Ee:mg "MOST_HUES"=some (.int 4 Ef)):FnOk P w K mg base v7 3 f fd ["rinses"] (j5 Zm) :=
 c5 (k:=2) (b:=Ua) F sc_check_rinses rfl λcdv A outer s H E hr=>⟨_,(z8 (c6 (qd (qf (K:=K) rfl (u7 (xC (K:=K) rfl) rfl Ab xz (aC (pv 0) (aW (xE (v:= .ty "list") rfl Ag zp rfl)))) (λ_=>rfl))) (z7 zj) m4)
  (z8 (sW 1 sc_check_rinses.nd (u5 (wT) (u7 (qc (K:=K) rfl) rfl Ac PySem.boot_len (aW (pv 0))) z0))
  (z8 (c6 (qd (ZL (wO) (wO) z0 (pv 1) (ZF (v:= .int 4) rfl Ee ⟨_,rfl⟩))) (z7 zj) m4)
  (z7 (c6 (qd (qf (K:=K) rfl (u7 (vf (K:=K) rfl rfl) rfl Au ve (aW (i6 (N':=["row","hues"]) (cap:=[none,some 1]) (b9 rfl rfl rfl) rfl (@p0 _ K _ _ _ rfl (pv 0)) (λ_ _ _ _ _ _=>(k9 (i:=0) (by show (["row","hues"]:List Str).Nodup;decide +kernel) rfl (Or.inl rfl))) (λ_ _ _ _ _ _=>m9) (λ_ _ _ _ _ _=>(fW B6 hr (aC (pv 0) (aW (pv 1)))))))) (λ_=>rfl))) (z7 zj) m4))))),
  inferInstance⟩
abbrev WP:Stmt:=top 49
abbrev UL:MS:=(w9 (g8 [none,none] [0,1] (jB (q0 (q8 0) x6)) (xu 2 (i8 (j9 0) (i8 (j9 1) xt))) g9 (f6 (q0 (q8 1) (q0 (xr (q0 (q8 0) x6)) x6)))))
def QT:List PV->Option PV:=qD 1 1 UL
theorem TQ:w6 ["row"] ["row"] (j7 WP):=y8
theorem Hu (F:Fun K "straight_ways" "straight_ways" WP f fd)(Aj:mg "enumerate"=none):FnOk P w K mg base v7 1 f fd ["row"] (m5 QT) :=
 okO (k:=0) (b:=UL) F TQ rfl λcdv A outer s H E hr=>⟨_,(z7 (w5 (i6 (N':=["hue","number"]) (cap:=[none,none]) (b9 rfl rfl rfl) rfl (Vx (K:=K) rfl rfl Aj (aW (pv 0))) (λ_ _ _ _ _ _=>(vI (K:=K) (n:=2) rfl rfl (xH (k9 (i:=0) (by show (["hue","number"]:List Str).Nodup;decide +kernel) rfl (Or.inl rfl)) (xH (k9 (i:=1) (by show (["hue","number"]:List Str).Nodup;decide +kernel) rfl (Or.inl rfl)) vJ)))) (λ_ _ _ _ _ _=>m9) (λ_ _ _ _ _ _=>(@xn _ _ _ _ _ (aC (pv 1) (aW (@xG _ _ _ _ (aW (pv 0)))))))))),
  inferInstance⟩
abbrev Wv:Stmt:=top 50
abbrev Uu:MS:=(w9 (f6 (q0 (x8 qo (x8 j3 (q9 0) (dC (.int 0))) (x8 j3 (q9 1) (dC (.int 0)))) (q0 (x8 qo (x8 j3 (q9 0) (dC (.int 1))) (x8 j3 (q9 1) (dC (.int 1)))) x6))))
def QQ:List PV->Option PV:=k6 2 2 Uu
theorem TD:w6 ["way","onward"] ["way","onward"] (j7 Wv):=y8
theorem NV (F:Fun K "joined" "joined" Wv f fd):FnOk P w K mg base v7 1 f fd ["way","onward"] (j5 QQ) :=
 c5 (k:=0) (b:=Uu) F TD rfl λcdv A outer s H E hr=>⟨_,(z7 (w5 (@xn _ _ _ _ _ (aC (u5 (xa (K:=K) rfl) (iW (K:=K) rfl (pv 0) z0) (iW (K:=K) rfl (pv 1) z0)) (aW (u5 (xa (K:=K) rfl) (iW (K:=K) rfl (pv 0) z0) (iW (K:=K) rfl (pv 1) z0))))))),
  inferInstance⟩
abbrev WE:Stmt:=top 51
abbrev UB:MS:=(w9 (dIf (dT (x8 pLt (x8 j3 (q9 1) (dC (.int 0))) (x8 j3 (q9 0) (dC (.int 0))))) (q8 1) (q8 0)))
def QS:List PV->Option PV:=k6 2 2 UB
theorem TJ:w6 ["way","other"] ["way","other"] (j7 WE):=y8
theorem Hh (F:Fun K "lesser" "lesser" WE f fd):FnOk P w K mg base v7 1 f fd ["way","other"] (j5 QS) :=
 c5 (k:=0) (b:=UB) F TJ rfl λcdv A outer s H E hr=>⟨_,(z7 (w5 (Bt (n9 (wQ) (iW (K:=K) rfl (pv 1) z0) (iW (K:=K) rfl (pv 0) z0) (k5 _)) (pv 1) (pv 0)))),
  inferInstance⟩
abbrev Yd:Stmt:=top 52
abbrev UW:MS:=(w9 (g8 [none,none,some 0,some 1] [0,1] (ji (q0 (q8 0) (q0 (q8 2) x6))) (xu 2 (i8 (j9 0) (i8 (j9 1) xt))) g9 (x9 QS (q0 (q8 0) (q0 (x9 QQ (q0 (x8 j3 (q9 2) (q9 3)) (q0 (q8 1) x6))) x6)))))
def wK:List PV->Option PV:=qD 3 3 UW
theorem TX:w6 ["ways","hue","onward"] ["ways","hue","onward"] (j7 Yd):=y8
theorem HJ (F:Fun K "ways_through" "ways_through" Yd f fd)(Ex:Fn P w K mg base 1 "joined" ["way","onward"] (j5 QQ))(Ey:Fn P w K mg base 1 "lesser" ["way","other"] (j5 QS))(Em:mg "zip"=none):FnOk P w K mg base v7 2 f fd ["ways","hue","onward"] (m5 wK) :=
 okO (k:=1) (b:=UW) F TX rfl λcdv A outer s H E hr=>⟨_,(z7 (w5 (i6 (N':=["way","more","ways","hue"]) (cap:=[none,none,some 0,some 1]) (b9 rfl rfl rfl) rfl (Vy (K:=K) rfl rfl Em (aC (pv 0) (aW (pv 2)))) (λ_ _ _ _ _ _=>(vI (K:=K) (n:=2) rfl rfl (xH (k9 (i:=0) (by show (["way","more","ways","hue"]:List Str).Nodup;decide +kernel) rfl (Or.inl rfl)) (xH (k9 (i:=1) (by show (["way","more","ways","hue"]:List Str).Nodup;decide +kernel) rfl (Or.inl rfl)) vJ)))) (λ_ _ _ _ _ _=>m9) (λ_ _ _ _ _ _=>(fW Ey hr (aC (pv 0) (aW (fW Ex hr (aC (iW (K:=K) rfl (pv 2) (pv 3)) (aW (pv 1))))))))))),
  inferInstance⟩
abbrev WB:Stmt:=top 53
abbrev Uy:MS:=(v9 (b8 1 (g8 [none] [0] (y7 (q8 0)) (j9 0) g9 (x9 QT (q0 (q8 0) x6))))
  (v9 (qJ (zt (q0 (x8 zZ (x9 qp (q0 (q9 0) x6)) (dC (.int 1))) x6)) (j9 2) (v9 (b8 3 (x8 j3 (q9 1) (q9 2)))
  (b8 1 (g8 [none,some 2,some 3] [0] (y7 (q8 1)) (j9 0) g9 (x9 wK (q0 (q8 0) (q0 (q8 1) (q0 (q8 2) x6))))))))
  (w9 (q8 1))))
def Zr:List PV->Option PV:=k6 4 1 Uy
theorem sc_least_ways:w6 ["rinses","table","hue","onward"] ["rinses"] (j7 WB):=y8
theorem He (F:Fun K "least_ways" "least_ways" WB f fd)(A6:Fn P w K mg base 1 "straight_ways" ["row"] (m5 QT))(A8:Fn P w K mg base 2 "ways_through" ["ways","hue","onward"] (m5 wK))(Ac:mg "len"=none)(Ad:mg "range"=none):FnOk P w K mg base v7 3 f fd ["rinses"] (j5 Zr) :=
 c5 (k:=2) (b:=Uy) F sc_least_ways rfl λcdv A outer s H E hr=>⟨_,(z8 (zk (i:=1) (N':=["row"]) (cap:=[none]) (b9 rfl rfl rfl) rfl sc_least_ways.nd rfl rfl (@p0 _ K _ _ _ rfl (pv 0)) (λ_ _ _ _ _ _=>(k9 (i:=0) (by show (["row"]:List Str).Nodup;decide +kernel) rfl (Or.inl rfl))) (λ_ _ _ _ _ _=>m9) (λ_ _ _ _ _ _=>(fW A6 hr (aW (pv 0)))))
  (z8 (qO PassesOwn.never rfl (zF rfl Ad (aW (u5 (wT) (u7 (qc (K:=K) rfl) rfl Ac PySem.boot_len (aW (pv 0))) z0))) (gW 2 sc_least_ways.nd)
   (z8 (sW 3 sc_least_ways.nd (iW (K:=K) rfl (pv 1) (pv 2)))
  (z7 (zk (i:=1) (N':=["ways","hue","onward"]) (cap:=[none,some 2,some 3]) (b9 rfl rfl rfl) rfl sc_least_ways.nd rfl rfl (@p0 _ K _ _ _ rfl (pv 1)) (λ_ _ _ _ _ _=>(k9 (i:=0) (by show (["ways","hue","onward"]:List Str).Nodup;decide +kernel) rfl (Or.inl rfl))) (λ_ _ _ _ _ _=>m9) (λ_ _ _ _ _ _=>(fW A8 hr (aC (pv 0) (aC (pv 1) (aW (pv 2))))))))))
  (z7 (w5 (pv 1))))),
  inferInstance⟩
abbrev WQ:Stmt:=top 54
abbrev UM:MS:=(w9 (g8 [none] [0] (y7 (q8 0)) (j9 0) g9 (x8 j3 (q9 0) (dC (.int 0)))))
def Zv:List PV->Option PV:=qD 1 1 UM
theorem TR:w6 ["ways"] ["ways"] (j7 WQ):=y8
theorem Hy (F:Fun K "sums_of" "sums_of" WQ f fd):FnOk P w K mg base v7 1 f fd ["ways"] (m5 Zv) :=
 okO (k:=0) (b:=UM) F TR rfl λcdv A outer s H E hr=>⟨_,(z7 (w5 (i6 (N':=["way"]) (cap:=[none]) (b9 rfl rfl rfl) rfl (@p0 _ K _ _ _ rfl (pv 0)) (λ_ _ _ _ _ _=>(k9 (i:=0) (by show (["way"]:List Str).Nodup;decide +kernel) rfl (Or.inl rfl))) (λ_ _ _ _ _ _=>m9) (λ_ _ _ _ _ _=>(iW (K:=K) rfl (pv 0) z0))))),
  inferInstance⟩
abbrev Wz:Stmt:=top 55
abbrev Ux:MS:=(v9 (zP (x9 Zm (q0 (q8 0) x6)))
  (w9 (g8 [none] [0] (y7 (x9 Zr (q0 (q8 0) x6))) (j9 0) g9 (x9 Zv (q0 (q8 0) x6)))))
def Zq:List PV->Option PV:=qD 1 1 Ux
theorem TF:w6 ["rinses"] ["rinses"] (j7 Wz):=y8
theorem NZ (F:Fun K "least_rinses" "least_rinses" Wz f fd)(B4:Fn P w K mg base 3 "check_rinses" ["rinses"] (j5 Zm))(D8:Fn P w K mg base 3 "least_ways" ["rinses"] (j5 Zr))(Es:Fn P w K mg base 1 "sums_of" ["ways"] (m5 Zv)):FnOk P w K mg base v7 4 f fd ["rinses"] (m5 Zq) :=
 okO (k:=3) (b:=Ux) F TF rfl λcdv A outer s H E hr=>⟨_,(z8 (xI (fW B4 hr (aW (pv 0))))
  (z7 (w5 (i6 (N':=["ways"]) (cap:=[none]) (b9 rfl rfl rfl) rfl (@p0 _ K _ _ _ rfl (fW D8 hr (aW (pv 0)))) (λ_ _ _ _ _ _=>(k9 (i:=0) (by show (["ways"]:List Str).Nodup;decide +kernel) rfl (Or.inl rfl))) (λ_ _ _ _ _ _=>m9) (λ_ _ _ _ _ _=>(fW Es hr (aW (pv 0)))))))),
  inferInstance⟩
abbrev Wc:Stmt:=top 58
abbrev Ub:MS:=(v9 (p7 (jg (dT (x8 vH (q9 0) (dC .non))) (h8 (jg (t0 (x9 zV (q0 (q8 0) (q0 (dUn pNeg (dC (.int 1))) x6)))) (dT (x8 pLt (q9 0) (q9 2)))))) xk c9)
  (p7 (h8 (t0 (x9 zV (q0 (q8 1) (q0 (dC (.int 0)) x6))))) xk c9))
def Zn:List PV->Option PV:=k6 3 3 Ub
theorem Tm:w6 ["last","time","hues"] ["last","time","hues"] (j7 Wc):=y8
theorem ND (F:Fun K "check_start" "check_start" Wc f fd)(As:Fn P w K mg base 2 "is_from" ["thing","least"] (j5 zV)):FnOk P w K mg base v7 3 f fd ["last","time","hues"] (j5 Zn) :=
 c5 (k:=2) (b:=Ub) F Tm rfl λcdv A outer s H E hr=>⟨_,(z8 (c6 (PW.pt (VG (n9 (Bp) (pv 0) zC (k5 _)) (VH (qd (PW.pt (VG (qf (K:=K) rfl (fW As hr (aC (pv 0) (aW (Vs Yr z0)))) (λ_=>rfl)) (VH (n9 (wQ) (pv 0) (pv 2) (k5 _))))))))) (z7 zj) m4)
  (z7 (c6 (qd (qf (K:=K) rfl (fW As hr (aC (pv 1) (aW z0))) (λ_=>rfl))) (z7 zj) m4))),
  inferInstance⟩
abbrev Wa:Stmt:=top 59
abbrev YZ:MS:=(v9 (p7 (dT (x8 pGt (x9 qp (q0 (q9 0) x6)) (dC (.int 10)))) xk c9)
  (v9 (jC 2 GF)
  (qJ (y7 (q8 0)) (j9 3) (v9 (p7 (h8 (t0 (x9 Zo (q0 (q8 3) (q0 (q8 1) x6))))) xk c9)
  (v9 (p7 (dT (dDIn (x9 xU (q0 (q8 3) x6)) (q9 2))) xk c9)
  (dPut 2 (x9 xU (q0 (q8 3) x6)) (dC (.bl true))))))))
def Zl:List PV->Option PV:=k6 4 2 YZ
theorem sc_check_cloths:w6 ["cloths","hues","seen","cloth"] ["cloths","hues"] (j7 Wa):=y8
theorem NB (F:Fun K "check_cloths" "check_cloths" Wa f fd)(Ei:Fn P w K mg base 3 "is_cloth" ["thing","hues"] (j5 Zo))(Af:Fn P w K mg base 1 "name_of" ["cloth"] (j5 xU))(Ac:mg "len"=none)(D3:mg "MOST_CLOTHS"=some (.int 10 D4)):FnOk P w K mg base v7 4 f fd ["cloths","hues"] (j5 Zl) :=
 c5 (k:=3) (b:=YZ) F sc_check_cloths rfl λcdv A outer s H E hr=>⟨_,(z8 (c6 (n9 (vC) (u7 (qc (K:=K) rfl) rfl Ac PySem.boot_len (aW (pv 0))) (ZF (v:= .int 10) rfl D3 ⟨_,rfl⟩) (k5 _)) (z7 zj) m4)
  (z8 (sW 2 sc_check_cloths.nd Re)
  (z7 (qO PassesOwn.never rfl (@p0 _ K _ _ _ rfl (pv 0)) (gW 3 sc_check_cloths.nd)
   (z8 (c6 (qd (qf (K:=K) rfl (fW Ei hr (aC (pv 3) (aW (pv 1)))) (λ_=>rfl))) (z7 zj) m4)
  (z8 (c6 (VF (Ra (xQ hr) (fW Af hr (aW (pv 3))) (pv 2))) (z7 zj) m4)
  (z7 (Ry (xQ hr) (pv 2) (fW Af hr (aW (pv 3))) qN rfl)))))))),
  inferInstance⟩
abbrev VW:Stmt:=wB (top 60) 1
abbrev YU (Aa:Addr):MS:=(w9 (x8 zZ (x9 qp (q0 (zr Aa "least" (q8 0)) x6)) (dC (.int 1))))
def jo (Aa:Addr):List PV->Option PV:=k6 1 1 (YU Aa)
theorem Th:w6 ["self"] ["self"] (j7 VW):=y8
theorem Nv (F:Fun K "hues" "Works.hues" VW f fd)(Ac:mg "len"=none)[zL K Aa][NoA K Aa "least"]:FnOk P w K mg base v7 1 f fd ["self"] (j5 (jo Aa)) :=
 c5 (k:=0) (b:=(YU Aa)) F Th rfl λcdv A outer s H E hr=>⟨_,(z7 (w5 (u5 (wT) (u7 (qc (K:=K) rfl) rfl Ac PySem.boot_len (aW (Xc (K:=K) rfl (pv 0) rfl))) z0))),
  inferInstance⟩
abbrev VX:Stmt:=wB (top 60) 6
abbrev YV (Aa:Addr):MS:=(w9 (x9 Vr (q0 (zr Aa "held" (q8 0)) x6)))
def vA (Aa:Addr):List PV->Option PV:=qD 1 1 (YV Aa)
theorem Tj:w6 ["self"] ["self"] (j7 VX):=y8
theorem Nx (F:Fun K "names" "Works.names" VX f fd)(D6:mg "sorted"=none)[zL K Aa][NoA K Aa "held"]:FnOk P w K mg base v7 1 f fd ["self"] (m5 (vA Aa)) :=
 okO (k:=0) (b:=(YV Aa)) F Tj rfl λcdv A outer s H E hr=>⟨_,(z7 (w5 (u7 (DE (K:=K) rfl rfl) rfl D6 Gn (aW (Xc (K:=K) rfl (pv 0) rfl))))),
  inferInstance⟩
abbrev WI:Stmt:=top 14
abbrev UE:MS:=(w9 (g8 [none] [0] (y7 (q8 0)) (j9 0) g9 (x9 xU (q0 (q8 0) x6))))
def Zu:List PV->Option PV:=qD 1 1 UE
theorem TM:w6 ["cloths"] ["cloths"] (j7 WI):=y8
theorem Hl (F:Fun K "names_of" "names_of" WI f fd)(Af:Fn P w K mg base 1 "name_of" ["cloth"] (j5 xU)):FnOk P w K mg base v7 2 f fd ["cloths"] (m5 Zu) :=
 okO (k:=1) (b:=UE) F TM rfl λcdv A outer s H E hr=>⟨_,(z7 (w5 (i6 (N':=["cloth"]) (cap:=[none]) (b9 rfl rfl rfl) rfl (@p0 _ K _ _ _ rfl (pv 0)) (λ_ _ _ _ _ _=>(k9 (i:=0) (by show (["cloth"]:List Str).Nodup;decide +kernel) rfl (Or.inl rfl))) (λ_ _ _ _ _ _=>m9) (λ_ _ _ _ _ _=>(fW Af hr (aW (pv 0))))))),
  inferInstance⟩
abbrev ZP:Stmt:=top 15
abbrev YY:MS:=(w9 (GH [] (q0 (q8 0) x6) (f6 (q0 (x9 QK (q0 (q8 0) x6)) (q0 (x9 xU (q0 (q8 0) x6)) x6)))))
def Zk:List PV->Option PV:=qD 1 1 YY
theorem Tl:w6 ["cloths"] ["cloths"] (j7 ZP):=y8
theorem NA (F:Fun K "by_dues" "by_dues" ZP f fd)(D7:Fn P w K mg base 1 "due_of" ["cloth"] (j5 QK))(Af:Fn P w K mg base 1 "name_of" ["cloth"] (j5 xU))(D6:mg "sorted"=none){c_l P_l:Addr}{p_l:Array Value}(l_f:fd.code = .ref c_l)(l_C:∀ h:Heap,K.In h->PySem.W.CodeHd h c_l P_l)(l_P:(P_l,p_l,[((⟨35,30,35,75⟩:Pos),("by_dues.<locals>.<lambda>":Str))])∈TABS):FnOk P w K mg base v7 6 f fd ["cloths"] (m5 Zk) :=
 okOC (k:=5) (b:=YY) F Tl rfl λA outer s H E hr=>⟨_,(z7 (w5 (Rk (K:=K) (k:=2) (x:="cloth") (fr:=[]) (fi:=[]) (clos:=[]) rfl (hr.mono (by decide)) rfl D6 (aW (pv 0)) l_P
  (by exact yK.mpr rfl) (λp hp _=>by rw [yK.mp hp];rfl) l_f l_C ⟨rfl,rfl,rfl,by decide +kernel,by decide +kernel,(λx h=>by
   exfalso
   revert h
   show ¬ (List.lookup x _=_);simp only [List.lookup]
   repeat' split
   all_goals simp),by decide +kernel⟩ ⟨rfl,(λj y i e=>by simp at e),(λy c e=>by cases e),(λy c hy=>by simp at hy)⟩
  (λf c' s H hr2=>(@xn _ _ _ _ _ (aC (fW D7 hr2 (aW (pv 0))) (aW (fW Af hr2 (aW (pv 0)))))))
  (λ_ _ _ _ _=>rfl)))),
  inferInstance⟩
abbrev VU:Stmt:=wB (top 60) 8
abbrev YS (Aa:Addr):MS:=(w9 (g8 [none,some 1] [0] (dItV (zr Aa "held" (q8 0))) (j9 0) (dT (x8 qx (x9 zU (q0 (q8 0) x6)) (q9 1))) (q8 0)))
def QH (Aa:Addr):List PV->Option PV:=qD 2 2 (YS Aa)
theorem Tf:w6 ["self","hue"] ["self","hue"] (j7 VU):=y8
theorem Nt (F:Fun K "cloths_in" "Works.cloths_in" VU f fd)(Ak:Fn P w K mg base 1 "hue_of" ["cloth"] (j5 zU))[zL K Aa][NoA K Aa "held"]:FnOk P w K mg base v7 2 f fd ["self","hue"] (m5 (QH Aa)) :=
 okO (k:=1) (b:=(YS Aa)) F Tf rfl λcdv A outer s H E hr=>⟨_,(z7 (w5 (i6 (N':=["cloth","hue"]) (cap:=[none,some 1]) (b9 rfl rfl rfl) rfl (Rs (Xc (K:=K) rfl (pv 0) rfl)) (λ_ _ _ _ _ _=>(k9 (i:=0) (by show (["cloth","hue"]:List Str).Nodup;decide +kernel) rfl (Or.inl rfl))) (λ_ _ _ _ _ _=>(wX (n9 (xW (K:=K) (ql hr) rfl) (fW Ak hr (aW (pv 0))) (pv 1) (k5 _)))) (λ_ _ _ _ _ _=>(pv 0))))),
  inferInstance⟩
abbrev VV:Stmt:=wB (top 60) 9
abbrev YT (Aa:Addr):MS:=(w9 (x9 Zu (q0 (x9 Zk (q0 (xM Aa "cloths_in" (QH Aa) (q8 0) (q0 (q8 1) x6)) x6)) x6)))
def wG (Aa:Addr):List PV->Option PV:=qD 2 2 (YT Aa)
theorem Tg:w6 ["self","hue"] ["self","hue"] (j7 VV):=y8
theorem Nu (F:Fun K "due_row" "Works.due_row" VV f fd)(Et:Fn P w K mg base 6 "by_dues" ["cloths"] (m5 Zk))(Ej:Fn P w K mg base 2 "names_of" ["cloths"] (m5 Zu))(Az:Mt P w K mg base 2 Aa "cloths_in" ["self","hue"] (m5 (QH Aa))):FnOk P w K mg base v7 7 f fd ["self","hue"] (m5 (wG Aa)) :=
 okO (k:=6) (b:=(YT Aa)) F Tg rfl λcdv A outer s H E hr=>⟨_,(z7 (w5 (fW Ej hr (aW (fW Et hr (aW (ZH Az hr (by decide) (pv 0) (aW (pv 1))))))))),
  inferInstance⟩
abbrev VT:Stmt:=wB (top 60) 7
abbrev YR (Aa:Addr):MS:=(v9 (p7 (qi (h8 (t0 (x9 o3 (q0 (q9 1) (q0 (dC (.ty "str")) x6))))) (dT (Qq (q9 1) (zr Aa "held" (q8 0))))) xk c9)
  (w9 (xD (zr Aa "held" (q8 0)) (q9 1))))
def vz (Aa:Addr):List PV->Option PV:=k6 2 2 (YR Aa)
theorem Te:w6 ["self","name"] ["self","name"] (j7 VT):=y8
theorem Nr (F:Fun K "cloth" "Works.cloth" VT f fd)(Ab:mg "isinstance"=none)(E4:mg "str"=none)[zL K Aa][NoA K Aa "held"]:FnOk P w K mg base v7 1 f fd ["self","name"] (j5 (vz Aa)) :=
 c5 (k:=0) (b:=(YR Aa)) F Te rfl λcdv A outer s H E hr=>⟨_,(z8 (c6 (PW.pt (xb (qd (qf (K:=K) rfl (u7 (xC (K:=K) rfl) rfl Ab xz (aC (pv 1) (aW (xE (v:= .ty "str") rfl E4 Go rfl)))) (λ_=>rfl))) (xY (VF (Bs (xQ hr) (pv 1) (Xc (K:=K) rfl (pv 0) rfl)))))) (z7 zj) m4)
  (z7 (w5 (jO (xQ hr) (Xc (K:=K) rfl (pv 0) rfl) (pv 1) (λ_ _=>rfl))))),
  inferInstance⟩
abbrev VZ:Stmt:=top 27
abbrev YX (Aa:Addr):MS:=(v9 (p7 (h8 (t0 (x9 o3 (q0 (q9 1) (q0 (dC (.ty "list")) x6))))) (w9 (dC (.bl false))) c9)
  (v9 (b8 2 (xM Aa "names" (vA Aa) (q8 0) x6))
  (w9 (qS (x9 zg (q0 (g8 [none,some 2] [0] (y7 (q8 1)) (j9 0) g9 (x8 (pIn false) (q9 0) (q9 1))) x6)) (x8 qx (GD (q9 1)) (x9 qp (q0 (q9 1) x6)))))))
def QI (Aa:Addr):List PV->Option PV:=k6 3 2 (YX Aa)
theorem sc_are_names:w6 ["works","names","known"] ["works","names"] (j7 VZ):=y8
theorem Nz (F:Fun K "are_names" "are_names" VZ f fd)(Au:mg "all"=none)(Ab:mg "isinstance"=none)(Ac:mg "len"=none)(Ag:mg "list"=none)(Q1:mg "set"=none)(An:Mt P w K mg base 1 Aa "names" ["self"] (m5 (vA Aa))):FnOk P w K mg base v7 2 f fd ["works","names"] (j5 (QI Aa)) :=
 c5 (k:=1) (b:=(YX Aa)) F sc_are_names rfl λcdv A outer s H E hr=>⟨_,(z8 (c6 (qd (qf (K:=K) rfl (u7 (xC (K:=K) rfl) rfl Ab xz (aC (pv 1) (aW (xE (v:= .ty "list") rfl Ag zp rfl)))) (λ_=>rfl))) (z7 (w5 qN)) m4)
  (z8 (sW 2 sc_are_names.nd (Xd An hr (by decide) (pv 0)))
  (z7 (w5 (zh (u7 (vf (K:=K) rfl rfl) rfl Au ve (aW (i6 (N':=["thing","known"]) (cap:=[none,some 2]) (b9 rfl rfl rfl) rfl (@p0 _ K _ _ _ rfl (pv 1)) (λ_ _ _ _ _ _=>(k9 (i:=0) (by show (["thing","known"]:List Str).Nodup;decide +kernel) rfl (Or.inl rfl))) (λ_ _ _ _ _ _=>m9) (λ_ _ _ _ _ _=>(xm (Vn (K:=K) rfl) (pv 0) (pv 1) (by with_unfolding_all rfl)))))) (zD (xm (xW (K:=K) (ql hr) rfl) (u7 Dw rfl Ac PySem.boot_len (aW (zB (DB (K:=K) rfl rfl) rfl Q1 Dl (aW (pv 1))))) (u7 (qc (K:=K) rfl) rfl Ac PySem.boot_len (aW (pv 1))) (k5 _)))))))),
  inferInstance⟩
abbrev Wr:Stmt:=top 28
abbrev Uq (Aa:Addr):MS:=(w9 (qS (x9 (QI Aa) (q0 (q8 0) (q0 (q8 1) x6))) (x8 qx (x9 qp (q0 (q9 1) x6)) (x9 qp (q0 (xM Aa "names" (vA Aa) (q8 0) x6) x6)))))
def QO (Aa:Addr):List PV->Option PV:=k6 2 2 (Uq Aa)
theorem Tz:w6 ["works","names"] ["works","names"] (j7 Wr):=y8
theorem NR (F:Fun K "is_plan" "is_plan" Wr f fd)(Ed:Fn P w K mg base 2 "are_names" ["works","names"] (j5 (QI Aa)))(Ac:mg "len"=none)(An:Mt P w K mg base 1 Aa "names" ["self"] (m5 (vA Aa))):FnOk P w K mg base v7 3 f fd ["works","names"] (j5 (QO Aa)) :=
 c5 (k:=2) (b:=(Uq Aa)) F Tz rfl λcdv A outer s H E hr=>⟨_,(z7 (w5 (zh (fW Ed hr (aC (pv 0) (aW (pv 1)))) (zD (xm (xW (K:=K) (ql hr) rfl) (u7 (qc (K:=K) rfl) rfl Ac PySem.boot_len (aW (pv 1))) (u7 (qc (K:=K) rfl) rfl Ac PySem.boot_len (aW (Xd An hr (by decide) (pv 0)))) (k5 _)))))),
  inferInstance⟩
abbrev Wf:Stmt:=top 32
abbrev Ue (Aa:Addr):MS:=(w9 (g8 [none,some 0] [0] (y7 (q8 1)) (j9 0) g9 (xM Aa "cloth" (vz Aa) (q8 1) (q0 (q8 0) x6))))
def QJ (Aa:Addr):List PV->Option PV:=k6 2 2 (Ue Aa)
theorem To:w6 ["works","tray"] ["works","tray"] (j7 Wf):=y8
theorem NG (F:Fun K "cloths_of" "cloths_of" Wf f fd)(Ao:Mt P w K mg base 1 Aa "cloth" ["self","name"] (j5 (vz Aa))):FnOk P w K mg base v7 2 f fd ["works","tray"] (j5 (QJ Aa)) :=
 c5 (k:=1) (b:=(Ue Aa)) F To rfl λcdv A outer s H E hr=>⟨_,(z7 (w5 (i6 (N':=["name","works"]) (cap:=[none,some 0]) (b9 rfl rfl rfl) rfl (@p0 _ K _ _ _ rfl (pv 1)) (λ_ _ _ _ _ _=>(k9 (i:=0) (by show (["name","works"]:List Str).Nodup;decide +kernel) rfl (Or.inl rfl))) (λ_ _ _ _ _ _=>m9) (λ_ _ _ _ _ _=>(ZH Ao hr (by decide) (pv 1) (aW (pv 0))))))),
  inferInstance⟩
abbrev WU:Stmt:=top 33
abbrev UO (Aa:Addr):MS:=(w9 (x9 zU (q0 (xM Aa "cloth" (vz Aa) (q8 0) (q0 (x8 j3 (q9 1) (dC (.int 0))) x6)) x6)))
def jK (Aa:Addr):List PV->Option PV:=k6 2 2 (UO Aa)
theorem TV:w6 ["works","tray"] ["works","tray"] (j7 WU):=y8
theorem HA (F:Fun K "tray_hue" "tray_hue" WU f fd)(Ak:Fn P w K mg base 1 "hue_of" ["cloth"] (j5 zU))(Ao:Mt P w K mg base 1 Aa "cloth" ["self","name"] (j5 (vz Aa))):FnOk P w K mg base v7 2 f fd ["works","tray"] (j5 (jK Aa)) :=
 c5 (k:=1) (b:=(UO Aa)) F TV rfl λcdv A outer s H E hr=>⟨_,(z7 (w5 (fW Ak hr (aW (ZH Ao hr (by decide) (pv 0) (aW (iW (K:=K) rfl (pv 1) z0))))))),
  inferInstance⟩
abbrev Wq:Stmt:=top 34
abbrev Uo (Aa:Addr):MS:=(w9 (x9 zg (q0 (g8 [none,some 0,some 1] [0] (y7 (x9 (QJ Aa) (q0 (q8 0) (q0 (q8 1) x6)))) (j9 0) g9 (x8 qx (x9 zU (q0 (q8 0) x6)) (x9 (jK Aa) (q0 (q8 1) (q0 (q8 2) x6))))) x6)))
def QN (Aa:Addr):List PV->Option PV:=k6 2 2 (Uo Aa)
theorem Ty:w6 ["works","tray"] ["works","tray"] (j7 Wq):=y8
theorem NQ (F:Fun K "is_of_one_hue" "is_of_one_hue" Wq f fd)(Eb:Fn P w K mg base 2 "cloths_of" ["works","tray"] (j5 (QJ Aa)))(Ak:Fn P w K mg base 1 "hue_of" ["cloth"] (j5 zU))(Av:Fn P w K mg base 2 "tray_hue" ["works","tray"] (j5 (jK Aa)))(Au:mg "all"=none):FnOk P w K mg base v7 3 f fd ["works","tray"] (j5 (QN Aa)) :=
 c5 (k:=2) (b:=(Uo Aa)) F Ty rfl λcdv A outer s H E hr=>⟨_,(z7 (w5 (u7 (vf (K:=K) rfl rfl) rfl Au ve (aW (i6 (N':=["cloth","works","tray"]) (cap:=[none,some 0,some 1]) (b9 rfl rfl rfl) rfl (@p0 _ K _ _ _ rfl (fW Eb hr (aC (pv 0) (aW (pv 1))))) (λ_ _ _ _ _ _=>(k9 (i:=0) (by show (["cloth","works","tray"]:List Str).Nodup;decide +kernel) rfl (Or.inl rfl))) (λ_ _ _ _ _ _=>m9) (λ_ _ _ _ _ _=>(xm (xW (K:=K) (ql hr) rfl) (fW Ak hr (aW (pv 0))) (fW Av hr (aC (pv 1) (aW (pv 2)))) (k5 _)))))))),
  inferInstance⟩
abbrev VY:Stmt:=top 35
abbrev YW:MS:=(w9 (qS (x9 o3 (q0 (q9 0) (q0 (dC (.ty "list")) x6))) (x9 zg (q0 (g8 [none] [0] (y7 (q8 0)) (j9 0) g9 (qS (x9 o3 (q0 (q9 0) (q0 (dC (.ty "list")) x6))) (x8 pGt (x9 qp (q0 (q9 0) x6)) (dC (.int 0))))) x6))))
def Zj:List PV->Option PV:=k6 1 1 YW
theorem Tk:w6 ["trays"] ["trays"] (j7 VY):=y8
theorem Ny (F:Fun K "are_full_lists" "are_full_lists" VY f fd)(Au:mg "all"=none)(Ab:mg "isinstance"=none)(Ac:mg "len"=none)(Ag:mg "list"=none):FnOk P w K mg base v7 1 f fd ["trays"] (j5 Zj) :=
 c5 (k:=0) (b:=YW) F Tk rfl λcdv A outer s H E hr=>⟨_,(z7 (w5 (zh (u7 (xC (K:=K) rfl) rfl Ab xz (aC (pv 0) (aW (xE (v:= .ty "list") rfl Ag zp rfl)))) (zD (u7 (vf (K:=K) rfl rfl) rfl Au ve (aW (i6 (N':=["tray"]) (cap:=[none]) (b9 rfl rfl rfl) rfl (@p0 _ K _ _ _ rfl (pv 0)) (λ_ _ _ _ _ _=>(k9 (i:=0) (by show (["tray"]:List Str).Nodup;decide +kernel) rfl (Or.inl rfl))) (λ_ _ _ _ _ _=>m9) (λ_ _ _ _ _ _=>(zh (u7 (xC (K:=K) rfl) rfl Ab xz (aC (pv 0) (aW (xE (v:= .ty "list") rfl Ag zp rfl)))) (zD (xm (vC) (u7 (qc (K:=K) rfl) rfl Ac PySem.boot_len (aW (pv 0))) z0 (k5 _)))))))))))),
  inferInstance⟩
abbrev Wd:Stmt:=top 36
abbrev Uc (Aa:Addr):MS:=(v9 (p7 (qi (h8 (t0 (x9 Zj (q0 (q8 1) x6)))) (h8 (t0 (x9 (QO Aa) (q0 (q8 0) (q0 (XO (q9 1)) x6)))))) xk c9)
  (p7 (h8 (t0 (x9 zg (q0 (g8 [none,some 0] [0] (y7 (q8 1)) (j9 0) g9 (x9 (QN Aa) (q0 (q8 1) (q0 (q8 0) x6)))) x6)))) xk c9))
def jp (Aa:Addr):List PV->Option PV:=k6 2 2 (Uc Aa)
theorem Tn:w6 ["works","trays"] ["works","trays"] (j7 Wd):=y8
theorem NE (F:Fun K "check_trays" "check_trays" Wd f fd)(A3:Fn P w K mg base 1 "are_full_lists" ["trays"] (j5 Zj))(A7:Fn P w K mg base 3 "is_of_one_hue" ["works","tray"] (j5 (QN Aa)))(Eo:Fn P w K mg base 3 "is_plan" ["works","names"] (j5 (QO Aa)))(Au:mg "all"=none)(Ec:mg "sum"=none):FnOk P w K mg base v7 4 f fd ["works","trays"] (j5 (jp Aa)) :=
 c5 (k:=3) (b:=(Uc Aa)) F Tn rfl λcdv A outer s H E hr=>⟨_,(z8 (c6 (PW.pt (xb (qd (qf (K:=K) rfl (fW A3 hr (aW (pv 1))) (λ_=>rfl))) (xY (qd (qf (K:=K) rfl (fW Eo hr (aC (pv 0) (aW (Rl (K:=K) rfl rfl rfl Ec (aW (pv 1)))))) (λ_=>rfl)))))) (z7 zj) m4)
  (z7 (c6 (qd (qf (K:=K) rfl (u7 (vf (K:=K) rfl rfl) rfl Au ve (aW (i6 (N':=["tray","works"]) (cap:=[none,some 0]) (b9 rfl rfl rfl) rfl (@p0 _ K _ _ _ rfl (pv 1)) (λ_ _ _ _ _ _=>(k9 (i:=0) (by show (["tray","works"]:List Str).Nodup;decide +kernel) rfl (Or.inl rfl))) (λ_ _ _ _ _ _=>m9) (λ_ _ _ _ _ _=>(fW A7 hr (aC (pv 1) (aW (pv 0)))))))) (λ_=>rfl))) (z7 zj) m4))),
  inferInstance⟩
abbrev Wi:Stmt:=top 30
abbrev Ug (Aa:Addr):MS:=(w9 (g8 [none,some 0] [0] (zt (q0 (xM Aa "hues" (jo Aa) (q8 0) x6) x6)) (j9 0) g9 (xM Aa "due_row" (wG Aa) (q8 1) (q0 (q8 0) x6))))
def wI (Aa:Addr):List PV->Option PV:=qD 1 1 (Ug Aa)
theorem Tq:w6 ["works"] ["works"] (j7 Wi):=y8
theorem NJ (F:Fun K "due_rows" "due_rows" Wi f fd)(Ad:mg "range"=none)(A5:Mt P w K mg base 7 Aa "due_row" ["self","hue"] (m5 (wG Aa)))(Am:Mt P w K mg base 1 Aa "hues" ["self"] (j5 (jo Aa))):FnOk P w K mg base v7 8 f fd ["works"] (m5 (wI Aa)) :=
 okO (k:=7) (b:=(Ug Aa)) F Tq rfl λcdv A outer s H E hr=>⟨_,(z7 (w5 (i6 (N':=["hue","works"]) (cap:=[none,some 0]) (b9 rfl rfl rfl) rfl (zF rfl Ad (aW (Xd Am hr (by decide) (pv 0)))) (λ_ _ _ _ _ _=>(k9 (i:=0) (by show (["hue","works"]:List Str).Nodup;decide +kernel) rfl (Or.inl rfl))) (λ_ _ _ _ _ _=>m9) (λ_ _ _ _ _ _=>(ZH A5 hr (by decide) (pv 1) (aW (pv 0))))))),
  inferInstance⟩
abbrev WN:Stmt:=top 37
abbrev UJ:MS:=(v9 (qJ (jB (q0 (q8 0) x6)) (xu 2 (i8 (j9 2) (i8 (j9 3) xt))) (p7 (dT (x8 (pIn false) (q9 1) (q9 3))) (w9 (q8 2)) c9))
  (w9 (dC .non)))
def xw:List PV->Option PV:=k6 4 2 UJ
theorem sc_place_of:w6 ["trays","name","place","tray"] ["trays","name"] (j7 WN):=y8
theorem Hr (F:Fun K "place_of" "place_of" WN f fd)(Aj:mg "enumerate"=none):FnOk P w K mg base v7 1 f fd ["trays","name"] (j5 xw) :=
 c5 (k:=0) (b:=UJ) F sc_place_of rfl λcdv A outer s H E hr=>⟨_,(z8 (qO PassesOwn.never rfl (Vx (K:=K) rfl rfl Aj (aW (pv 0))) (vI (K:=K) (n:=2) rfl rfl (xH (gW 2 sc_place_of.nd) (xH (gW 3 sc_place_of.nd) vJ)))
   (z7 (c6 (n9 (Vn (K:=K) rfl) (pv 1) (pv 3) (by with_unfolding_all rfl)) (z7 (w5 (pv 2))) m4)))
  (z7 (w5 zC))),
  inferInstance⟩
abbrev WZ:Stmt:=top 38
abbrev UT:MS:=(w9 (g8 [none,some 1] [0] (y7 (q8 0)) (j9 0) (dT (x8 pNe (q9 0) (q9 1))) (q8 0)))
def QV:List PV->Option PV:=qD 2 2 UT
theorem TW:w6 ["tray","name"] ["tray","name"] (j7 WZ):=y8
theorem HF (F:Fun K "tray_without" "tray_without" WZ f fd):FnOk P w K mg base v7 1 f fd ["tray","name"] (m5 QV) :=
 okO (k:=0) (b:=UT) F TW rfl λcdv A outer s H E hr=>⟨_,(z7 (w5 (i6 (N':=["other","name"]) (cap:=[none,some 1]) (b9 rfl rfl rfl) rfl (@p0 _ K _ _ _ rfl (pv 0)) (λ_ _ _ _ _ _=>(k9 (i:=0) (by show (["other","name"]:List Str).Nodup;decide +kernel) rfl (Or.inl rfl))) (λ_ _ _ _ _ _=>(wX (n9 (zy (K:=K) (ql hr) rfl) (pv 0) (pv 1) (k5 _)))) (λ_ _ _ _ _ _=>(pv 0))))),
  inferInstance⟩
abbrev WW:Stmt:=top 39
abbrev UQ:MS:=(v9 (wm 2 [none,some 1] [0] (y7 (q8 0)) (j9 0) g9 (x9 QV (q0 (q8 0) (q0 (x8 j3 (q9 1) (dC (.int 0))) x6))) (x8 j3 (q9 1) (dC (.int 1))) (x8 j3 (q9 1) (dC (.int 0))))
  (w9 (vj [none] [0] (y7 (q9 2)) (j9 0) (t0 (q9 0)) (q8 0))))
def jM:List PV->Option PV:=k6 3 2 UQ
theorem sc_tray_moved:w6 ["trays","move","found"] ["trays","move"] (j7 WW):=y8
theorem HC (F:Fun K "tray_moved" "tray_moved" WW f fd)(B5:Fn P w K mg base 1 "tray_without" ["tray","name"] (m5 QV)):FnOk P w K mg base v7 2 f fd ["trays","move"] (j5 jM) :=
 c5 (k:=1) (b:=UQ) F sc_tray_moved rfl λcdv A outer s H E hr=>⟨_,(z8 (zk (i:=2) (N':=["tray","move"]) (cap:=[none,some 1]) (b9 rfl rfl rfl) rfl sc_tray_moved.nd rfl rfl (@p0 _ K _ _ _ rfl (pv 0)) (λ_ _ _ _ _ _=>(k9 (i:=0) (by show (["tray","move"]:List Str).Nodup;decide +kernel) rfl (Or.inl rfl))) (λ_ _ _ _ _ _=>m9) (λ_ _ _ _ _ _=>(fW B5 hr (aC (pv 0) (aW (iW (K:=K) rfl (pv 1) z0))))))
  (z8 (xI (zA (K:=K) rfl PySem.F.plainAttrs_list PySem.F.slot_list_append PySem.F.type_list_append vB (iW (K:=K) rfl (pv 2) (iW (K:=K) rfl (pv 1) z0)) (v8 (iW (K:=K) rfl (pv 1) z0) u4)))
  (z7 (w5 (i6 (N':=["tray"]) (cap:=[none]) (b9 rfl rfl rfl) rfl (@p0 _ K _ _ _ rfl (pv 2)) (λ_ _ _ _ _ _=>(k9 (i:=0) (by show (["tray"]:List Str).Nodup;decide +kernel) rfl (Or.inl rfl))) (λ_ _ _ _ _ _=>(wX (qf (K:=K) rfl (pv 0) (λ_=>rfl)))) (λ_ _ _ _ _ _=>(pv 0))))))),
  inferInstance⟩
abbrev Wt:Stmt:=top 40
abbrev Us (Aa:Addr):MS:=(v9 (b8 3 (x9 xw (q0 (q8 1) (q0 (x8 j3 (q9 2) (dC (.int 0))) x6))))
  (v9 (b8 4 (x8 j3 (q9 2) (dC (.int 1))))
  (v9 (p7 (qi (dT (x8 vE (q9 3) (dC .non))) (qi (dT (x8 qx (q9 3) (q9 4))) (h8 (dT (zq pLe pLt (dC (.int 0)) (q9 4) (x9 qp (q0 (q9 1) x6))))))) (w9 (dC (.bl false))) c9)
  (w9 (x8 qx (x9 (jK Aa) (q0 (q8 0) (q0 (x8 j3 (q9 1) (q9 3)) x6))) (x9 (jK Aa) (q0 (q8 0) (q0 (x8 j3 (q9 1) (q9 4)) x6))))))))
def jG (Aa:Addr):List PV->Option PV:=k6 5 3 (Us Aa)
theorem sc_is_tray_move:w6 ["works","trays","move","at","to"] ["works","trays","move"] (j7 Wt):=y8
theorem NT (F:Fun K "is_tray_move" "is_tray_move" Wt f fd)(Ap:Fn P w K mg base 1 "place_of" ["trays","name"] (j5 xw))(Av:Fn P w K mg base 2 "tray_hue" ["works","tray"] (j5 (jK Aa)))(Ac:mg "len"=none):FnOk P w K mg base v7 3 f fd ["works","trays","move"] (j5 (jG Aa)) :=
 c5 (k:=2) (b:=(Us Aa)) F sc_is_tray_move rfl λcdv A outer s H E hr=>⟨_,(z8 (sW 3 sc_is_tray_move.nd (fW Ap hr (aC (pv 1) (aW (iW (K:=K) rfl (pv 2) z0)))))
  (z8 (sW 4 sc_is_tray_move.nd (iW (K:=K) rfl (pv 2) z0))
  (z8 (c6 (PW.pt (xb (n9 (ZC) (pv 3) zC (k5 _)) (xb (n9 (xW (K:=K) (ql hr) rfl) (pv 3) (pv 4) (k5 _)) (xY (qd (ZL (wO) (wQ) z0 (pv 4) (u7 (qc (K:=K) rfl) rfl Ac PySem.boot_len (aW (pv 1))))))))) (z7 (w5 qN)) m4)
  (z7 (w5 (xm (xW (K:=K) (ql hr) rfl) (fW Av hr (aC (pv 0) (aW (iW (K:=K) rfl (pv 1) (pv 3))))) (fW Av hr (aC (pv 0) (aW (iW (K:=K) rfl (pv 1) (pv 4))))) (k5 _))))))),
  inferInstance⟩
abbrev WY:Stmt:=top 41
abbrev US (Aa:Addr):MS:=(v9 (zP (x9 (jp Aa) (q0 (q8 0) (q0 (q8 1) x6))))
  (v9 (b8 3 (g8 [none] [0] (y7 (q8 1)) (j9 0) g9 (x9 vF (q0 (q9 0) x6))))
  (v9 (qJ (jB (q0 (q8 2) x6)) (xu 2 (i8 (j9 4) (i8 (j9 5) xt))) (v9 (p7 (h8 (t0 (x9 (jG Aa) (q0 (q8 0) (q0 (q8 3) (q0 (q8 5) x6)))))) xk c9)
  (b8 3 (x9 jM (q0 (q8 3) (q0 (q8 5) x6))))))
  (w9 (q8 3)))))
def QU (Aa:Addr):List PV->Option PV:=k6 6 3 (US Aa)
theorem sc_tray_walked:w6 ["works","trays","moves","found","number","move"] ["works","trays","moves"] (j7 WY):=y8
theorem HE (F:Fun K "tray_walked" "tray_walked" WY f fd)(Ah:Fn P w K mg base 4 "check_trays" ["works","trays"] (j5 (jp Aa)))(B0:Fn P w K mg base 3 "is_tray_move" ["works","trays","move"] (j5 (jG Aa)))(At:Fn P w K mg base 2 "tray_moved" ["trays","move"] (j5 jM))(Aj:mg "enumerate"=none)(Ag:mg "list"=none):FnOk P w K mg base v7 5 f fd ["works","trays","moves"] (j5 (QU Aa)) :=
 c5 (k:=4) (b:=(US Aa)) F sc_tray_walked rfl λcdv A outer s H E hr=>⟨_,(z8 (xI (fW Ah hr (aC (pv 0) (aW (pv 1)))))
  (z8 (zk (i:=3) (N':=["tray"]) (cap:=[none]) (b9 rfl rfl rfl) rfl sc_tray_walked.nd rfl rfl (@p0 _ K _ _ _ rfl (pv 1)) (λ_ _ _ _ _ _=>(k9 (i:=0) (by show (["tray"]:List Str).Nodup;decide +kernel) rfl (Or.inl rfl))) (λ_ _ _ _ _ _=>m9) (λ_ _ _ _ _ _=>(zB (Qp (K:=K) rfl) rfl Ag zp (aW (pv 0)))))
  (z8 (qO PassesOwn.never rfl (Vx (K:=K) rfl rfl Aj (aW (pv 2))) (vI (K:=K) (n:=2) rfl rfl (xH (gW 4 sc_tray_walked.nd) (xH (gW 5 sc_tray_walked.nd) vJ)))
   (z8 (c6 (qd (qf (K:=K) rfl (fW B0 hr (aC (pv 0) (aC (pv 3) (aW (pv 5))))) (λ_=>rfl))) (z7 zj) m4)
  (z7 (sW 3 sc_tray_walked.nd (fW At hr (aC (pv 3) (aW (pv 5))))))))
  (z7 (w5 (pv 3)))))),
  inferInstance⟩
abbrev WJ:Stmt:=top 42
abbrev UF (Aa:Addr):MS:=(v9 (qJ (y7 (x9 (wI Aa) (q0 (q8 0) x6))) (j9 2) (qJ (ji (q0 (q8 2) (q0 (wo (q9 2) (pSo (dC (.int 1))) pNo) x6))) (xu 2 (i8 (j9 3) (i8 (j9 4) xt))) (p7 (dT (x8 pLt (x9 xw (q0 (q8 1) (q0 (q8 4) x6))) (x9 xw (q0 (q8 1) (q0 (q8 3) x6))))) (w9 (f6 (q0 (q8 4) (q0 (x9 xw (q0 (q8 1) (q0 (q8 3) x6))) x6)))) c9)))
  (w9 (dC .non)))
def jq (Aa:Addr):List PV->Option PV:=k6 5 2 (UF Aa)
theorem sc_next_move:w6 ["works","trays","row","ahead","behind"] ["works","trays"] (j7 WJ):=y8
theorem Hm (F:Fun K "next_move" "next_move" WJ f fd)(Ek:Fn P w K mg base 8 "due_rows" ["works"] (m5 (wI Aa)))(Ap:Fn P w K mg base 1 "place_of" ["trays","name"] (j5 xw))(Em:mg "zip"=none):FnOk P w K mg base v7 9 f fd ["works","trays"] (j5 (jq Aa)) :=
 c5 (k:=8) (b:=(UF Aa)) F sc_next_move rfl λcdv A outer s H E hr=>⟨_,(z8 (qO PassesOwn.never rfl (@p0 _ K _ _ _ rfl (fW Ek hr (aW (pv 0)))) (gW 2 sc_next_move.nd)
   (z7 (qO PassesOwn.never rfl (Vy (K:=K) rfl rfl Em (aC (pv 2) (aW (Bv (Sj (K:=K) rfl) (pv 2) (BC z0) BB)))) (vI (K:=K) (n:=2) rfl rfl (xH (gW 3 sc_next_move.nd) (xH (gW 4 sc_next_move.nd) vJ)))
   (z7 (c6 (n9 (wQ) (fW Ap hr (aC (pv 1) (aW (pv 4)))) (fW Ap hr (aC (pv 1) (aW (pv 3)))) (k5 _)) (z7 (w5 (@xn _ _ _ _ _ (aC (pv 4) (aW (fW Ap hr (aC (pv 1) (aW (pv 3))))))))) m4)))))
  (z7 (w5 zC))),
  inferInstance⟩
abbrev Wl:Stmt:=top 43
abbrev Ui (Aa:Addr):MS:=(v9 (zP (x9 (jp Aa) (q0 (q8 0) (q0 (q8 1) x6))))
  (w9 (x8 vE (x9 (jq Aa) (q0 (q8 0) (q0 (q8 1) x6))) (dC .non))))
def QL (Aa:Addr):List PV->Option PV:=k6 2 2 (Ui Aa)
theorem Tu:w6 ["works","trays"] ["works","trays"] (j7 Wl):=y8
theorem NL (F:Fun K "in_tray_order" "in_tray_order" Wl f fd)(Ah:Fn P w K mg base 4 "check_trays" ["works","trays"] (j5 (jp Aa)))(Aq:Fn P w K mg base 9 "next_move" ["works","trays"] (j5 (jq Aa))):FnOk P w K mg base v7 10 f fd ["works","trays"] (j5 (QL Aa)) :=
 c5 (k:=9) (b:=(Ui Aa)) F Tu rfl λcdv A outer s H E hr=>⟨_,(z8 (xI (fW Ah hr (aC (pv 0) (aW (pv 1)))))
  (z7 (w5 (xm (ZC) (fW Aq hr (aC (pv 0) (aW (pv 1)))) zC (k5 _))))),
  inferInstance⟩
abbrev Yc:Stmt:=top 44
abbrev UV (Aa:Addr):MS:=(v9 (zP (x9 (jp Aa) (q0 (q8 0) (q0 (q8 1) x6))))
  (v9 (b8 2 (q8 1))
  (v9 (jC 3 (xr x6))
  (v9 (b8 4 (x9 (jq Aa) (q0 (q8 0) (q0 (q8 2) x6))))
  (v9 (zu (dT (x8 vH (q9 4) (dC .non))) (v9 (vi 3 (q8 4))
  (v9 (b8 2 (x9 jM (q0 (q8 2) (q0 (q8 4) x6))))
  (b8 4 (x9 (jq Aa) (q0 (q8 0) (q0 (q8 2) x6)))))) 101)
  (w9 (oVar 3)))))))
def jN (Aa:Addr):List PV->Option PV:=qD 5 2 (UV Aa)
theorem sc_trays_to_dues:w6 ["works","trays","found","moves","move"] ["works","trays"] (j7 Yc):=y8
theorem HI (F:Fun K "trays_to_dues" "trays_to_dues" Yc f fd)(Ah:Fn P w K mg base 4 "check_trays" ["works","trays"] (j5 (jp Aa)))(Aq:Fn P w K mg base 9 "next_move" ["works","trays"] (j5 (jq Aa)))(At:Fn P w K mg base 2 "tray_moved" ["trays","move"] (j5 jM)):FnOk P w K mg base v7 10 f fd ["works","trays"] (m5 (jN Aa)) :=
 okO (k:=9) (b:=(UV Aa)) F sc_trays_to_dues rfl λcdv A outer s H E hr=>⟨_,(z8 (xI (fW Ah hr (aC (pv 0) (aW (pv 1)))))
  (z8 (sW 2 sc_trays_to_dues.nd (pv 1))
  (z8 (sW 3 sc_trays_to_dues.nd (@xG _ _ _ _ u4))
  (z8 (sW 4 sc_trays_to_dues.nd (fW Aq hr (aC (pv 0) (aW (pv 2)))))
  (z8 (RA PassesOwn.never (n9 (Bp) (pv 4) zC (k5 _))
   (z8 (xI (zA (K:=K) rfl PySem.F.plainAttrs_list PySem.F.slot_list_append PySem.F.type_list_append vB (pv 3) (v8 (pv 4) u4)))
  (z8 (sW 2 sc_trays_to_dues.nd (fW At hr (aC (pv 2) (aW (pv 4)))))
  (z7 (sW 4 sc_trays_to_dues.nd (fW Aq hr (aC (pv 0) (aW (pv 2)))))))))
  (z7 (w5 (pv 3)))))))),
  inferInstance⟩
abbrev vP:Stmt:=wB (top 60) 0
abbrev XD (Aa:Addr):MS:=(v9 (zQ Aa "least" (x9 Zq (q0 (q8 1) x6)))
  (v9 (zP (x9 Zn (q0 (q8 3) (q0 (q8 4) (q0 (wn Aa "hues" (jo Aa) 0 x6) x6)))))
  (v9 (zP (x9 Zl (q0 (q8 2) (q0 (wn Aa "hues" (jo Aa) 0 x6) x6))))
  (v9 (zQ Aa "given" (g8 [none] [0] (y7 (q8 1)) (j9 0) g9 (x9 vF (q0 (q9 0) x6))))
  (v9 (zQ Aa "held" (x9 zY (q0 (g8 [none] [0] (y7 (q8 2)) (j9 0) g9 (f6 (q0 (x9 xU (q0 (q8 0) x6)) (q0 (q8 0) x6)))) x6)))
  (v9 (zQ Aa "last" (dIf (dT (x8 vE (q9 3) (dC .non))) (dUn pNeg (dC (.int 1))) (q8 3)))
  (zQ Aa "time" (q8 4))))))))
def wH (Aa:Addr):List PV->Option PV:=Qr 5 5 Aa (XD Aa)
theorem Ti:w6 ["self","rinses","cloths","last","time"] ["self","rinses","cloths","last","time"] (j7 vP):=y8
theorem Nw (F:FunD K "__init__" "Works.__init__" vP f fd)(B3:Fn P w K mg base 4 "check_cloths" ["cloths","hues"] (j5 Zl))(D2:Fn P w K mg base 3 "check_start" ["last","time","hues"] (j5 Zn))(B7:Fn P w K mg base 4 "least_rinses" ["rinses"] (m5 Zq))(Af:Fn P w K mg base 1 "name_of" ["cloth"] (j5 xU))(Aw:mg "dict"=none)(Ag:mg "list"=none)[zL K Aa][NoA K Aa "given"][NoA K Aa "held"][NoA K Aa "last"][NoA K Aa "least"][NoA K Aa "time"](Am:Mt P w K mg base 1 Aa "hues" ["self"] (j5 (jo Aa))):FnOk P w K mg base v7 5 f fd ["self","rinses","cloths","last","time"] (spI Aa (wH Aa)) :=
 okID (k:=4) (b:=XD Aa) F Ti rfl (λcdv A outer s H E hr=>⟨_,(z8 (Xj (K:=K) rfl (pv 0) (fW B7 hr (aW (pv 1))))
  (z8 (xI (fW D2 hr (aC (pv 3) (aC (pv 4) (aW (Xd Am hr (by decide) (pv 0)))))))
  (z8 (xI (fW B3 hr (aC (pv 2) (aW (Xd Am hr (by decide) (pv 0))))))
  (z8 (Xj (K:=K) rfl (pv 0) (i6 (N':=["row"]) (cap:=[none]) (b9 rfl rfl rfl) rfl (@p0 _ K _ _ _ rfl (pv 1)) (λ_ _ _ _ _ _=>(k9 (i:=0) (by show (["row"]:List Str).Nodup;decide +kernel) rfl (Or.inl rfl))) (λ_ _ _ _ _ _=>m9) (λ_ _ _ _ _ _=>(zB (Qp (K:=K) rfl) rfl Ag zp (aW (pv 0))))))
  (z8 (Xj (K:=K) rfl (pv 0) (zB (Qo (K:=K) rfl rfl) rfl Aw Qn (aW (i6 (N':=["cloth"]) (cap:=[none]) (b9 rfl rfl rfl) rfl (@p0 _ K _ _ _ rfl (pv 2)) (λ_ _ _ _ _ _=>(k9 (i:=0) (by show (["cloth"]:List Str).Nodup;decide +kernel) rfl (Or.inl rfl))) (λ_ _ _ _ _ _=>m9) (λ_ _ _ _ _ _=>(@xn _ _ _ _ _ (aC (fW Af hr (aW (pv 0))) (aW (pv 0)))))))))
  (z8 (Xj (K:=K) rfl (pv 0) (Bt (n9 (ZC) (pv 3) zC (k5 _)) (Vs Yr z0) (pv 3)))
  (z7 (Xj (K:=K) rfl (pv 0) (pv 4))))))))),
  (by repeat' first|infer_instance|(refine @Mi.Se _ _ _ _ ?_ ?_))⟩)
abbrev WX:Stmt:=top 72
noncomputable abbrev UR:MS:=(v9 (b8 2 (x9 jI (q0 (x8 j3 (q9 0) (dC (.int 0))) x6)))
  (v9 (b8 3 (x9 zY (q0 (g8 [none] [0] (y7 (x8 j3 (q9 0) (dC (.int 1)))) (j9 0) g9 (f6 (q0 (x8 j3 (q9 0) (dC (.int 0))) (q0 (q8 0) x6)))) x6)))
  (v9 (dAsg (xu 2 (i8 (j9 4) (i8 (j9 5) xt))) (dSlT (q9 0) (pSo (dC (.int 2))) pNo))
  (v9 (jC 6 (xr x6))
  (v9 (qJ (y7 (q8 1)) (j9 7) (v9 (b8 8 (x8 j3 (xD (q9 3) (x8 j3 (q9 7) (dC (.int 0)))) (dC (.int 1))))
  (v9 (b8 9 (x8 qo (q9 5) (x8 j3 (x8 j3 (q9 2) (q9 4)) (q9 8))))
  (v9 (b8 5 (x8 qo (q9 9) (x9 wV (q0 (g8 [none,some 3] [0] (y7 (q8 7)) (j9 0) g9 (x8 j3 (xD (q9 1) (q9 0)) (dC (.int 2)))) x6))))
  (v9 (vi 6 (f6 (q0 (q8 9) (q0 (q8 5) x6))))
  (b8 4 (q8 8)))))))
  (w9 (oVar 6)))))))
noncomputable def wJ:List PV->Option PV:=qD 10 2 UR
theorem sc_tray_rows:w6 ["parts","trays","least","cloths","last","time","found","tray","hue","begin"] ["parts","trays"] (j7 WX):=y8
theorem HD (F:Fun K "_law_tray_rows" "_law_tray_rows" WX f fd)(Id:Fn P w K mg base 1 "_law_least" ["rinses"] (j5 jI))(Aw:mg "dict"=none)(Ec:mg "sum"=none):FnOk P w K mg base v7 2 f fd ["parts","trays"] (m5 wJ) :=
 okO (k:=1) (b:=UR) F sc_tray_rows rfl λcdv A outer s H E hr=>⟨_,(z8 (sW 2 sc_tray_rows.nd (fW Id hr (aW (iW (K:=K) rfl (pv 0) z0))))
  (z8 (sW 3 sc_tray_rows.nd (zB (Qo (K:=K) rfl rfl) rfl Aw Qn (aW (i6 (N':=["cloth"]) (cap:=[none]) (b9 rfl rfl rfl) rfl (@p0 _ K _ _ _ rfl (iW (K:=K) rfl (pv 0) z0)) (λ_ _ _ _ _ _=>(k9 (i:=0) (by show (["cloth"]:List Str).Nodup;decide +kernel) rfl (Or.inl rfl))) (λ_ _ _ _ _ _=>m9) (λ_ _ _ _ _ _=>(@xn _ _ _ _ _ (aC (iW (K:=K) rfl (pv 0) z0) (aW (pv 0)))))))))
  (z8 (VE (Bv (Sk (K:=K) rfl) (pv 0) (BC z0) BB) (vI (K:=K) (n:=2) rfl rfl (xH (gW 4 sc_tray_rows.nd) (xH (gW 5 sc_tray_rows.nd) vJ))))
  (z8 (sW 6 sc_tray_rows.nd (@xG _ _ _ _ u4))
  (z8 (qO PassesOwn.never rfl (@p0 _ K _ _ _ rfl (pv 1)) (gW 7 sc_tray_rows.nd)
   (z8 (sW 8 sc_tray_rows.nd (iW (K:=K) rfl (jO (xQ hr) (pv 3) (iW (K:=K) rfl (pv 7) z0) (λ_ _=>rfl)) z0))
  (z8 (sW 9 sc_tray_rows.nd (u5 (xa (K:=K) rfl) (pv 5) (iW (K:=K) rfl (iW (K:=K) rfl (pv 2) (pv 4)) (pv 8))))
  (z8 (sW 5 sc_tray_rows.nd (u5 (xa (K:=K) rfl) (pv 9) (u7 (DH (K:=K) rfl rfl) rfl Ec Jg (aW (i6 (N':=["name","cloths"]) (cap:=[none,some 3]) (b9 rfl rfl rfl) rfl (@p0 _ K _ _ _ rfl (pv 7)) (λ_ _ _ _ _ _=>(k9 (i:=0) (by show (["name","cloths"]:List Str).Nodup;decide +kernel) rfl (Or.inl rfl))) (λ_ _ _ _ _ _=>m9) (λ_ _ _ _ _ _=>(iW (K:=K) rfl (jO (xQ hr) (pv 1) (pv 0) (λ_ _=>rfl)) z0)))))))
  (z8 (xI (zA (K:=K) rfl PySem.F.plainAttrs_list PySem.F.slot_list_append PySem.F.type_list_append vB (pv 6) (v8 (@xn _ _ _ _ _ (aC (pv 9) (aW (pv 5)))) u4)))
  (z7 (sW 4 sc_tray_rows.nd (pv 8))))))))
  (z7 (w5 (pv 6)))))))),
  inferInstance⟩
abbrev WV:Stmt:=top 73
noncomputable abbrev UP:MS:=(v9 (b8 2 (x9 zY (q0 (g8 [none] [0] (y7 (x8 j3 (q9 0) (dC (.int 1)))) (j9 0) g9 (f6 (q0 (x8 j3 (q9 0) (dC (.int 0))) (q0 (x8 j3 (q9 0) (dC (.int 3))) x6)))) x6)))
  (v9 (b8 3 (xr x6))
  (v9 (qJ (ji (q0 (q8 1) (q0 (x9 wJ (q0 (q8 0) (q0 (q8 1) x6))) x6))) (xu 2 (i8 (j9 4) (i8 (j9 5) xt))) (b8 3 (x8 qo (q9 3) (g8 [none,some 5,some 2] [0] (y7 (q8 4)) (j9 0) g9 (x8 zZ (x8 j3 (q9 1) (dC (.int 1))) (xD (q9 2) (q9 0)))))))
  (w9 (XN (q9 3))))))
noncomputable def jL:List PV->Option PV:=k6 6 2 UP
theorem sc_tray_late:w6 ["parts","trays","dues","late","tray","span"] ["parts","trays"] (j7 WV):=y8
theorem HB (F:Fun K "_law_tray_late" "_law_tray_late" WV f fd)(Ax:Fn P w K mg base 2 "_law_tray_rows" ["parts","trays"] (m5 wJ))(Aw:mg "dict"=none)(N6:mg "max"=none)(Em:mg "zip"=none):FnOk P w K mg base v7 3 f fd ["parts","trays"] (j5 jL) :=
 c5 (k:=2) (b:=UP) F sc_tray_late rfl λcdv A outer s H E hr=>⟨_,(z8 (sW 2 sc_tray_late.nd (zB (Qo (K:=K) rfl rfl) rfl Aw Qn (aW (i6 (N':=["cloth"]) (cap:=[none]) (b9 rfl rfl rfl) rfl (@p0 _ K _ _ _ rfl (iW (K:=K) rfl (pv 0) z0)) (λ_ _ _ _ _ _=>(k9 (i:=0) (by show (["cloth"]:List Str).Nodup;decide +kernel) rfl (Or.inl rfl))) (λ_ _ _ _ _ _=>m9) (λ_ _ _ _ _ _=>(@xn _ _ _ _ _ (aC (iW (K:=K) rfl (pv 0) z0) (aW (iW (K:=K) rfl (pv 0) z0)))))))))
  (z8 (sW 3 sc_tray_late.nd (@xG _ _ _ _ u4))
  (z8 (qO PassesOwn.never rfl (Vy (K:=K) rfl rfl Em (aC (pv 1) (aW (fW Ax hr (aC (pv 0) (aW (pv 1))))))) (vI (K:=K) (n:=2) rfl rfl (xH (gW 4 sc_tray_late.nd) (xH (gW 5 sc_tray_late.nd) vJ)))
   (z7 (sW 3 sc_tray_late.nd (u5 (xa (K:=K) rfl) (pv 3) (i6 (N':=["name","span","dues"]) (cap:=[none,some 5,some 2]) (b9 rfl rfl rfl) rfl (@p0 _ K _ _ _ rfl (pv 4)) (λ_ _ _ _ _ _=>(k9 (i:=0) (by show (["name","span","dues"]:List Str).Nodup;decide +kernel) rfl (Or.inl rfl))) (λ_ _ _ _ _ _=>m9) (λ_ _ _ _ _ _=>(u5 (wT) (iW (K:=K) rfl (pv 1) z0) (jO (xQ hr) (pv 2) (pv 0) (λ_ _=>rfl)))))))))
  (z7 (w5 (Rh (K:=K) rfl rfl rfl N6 (aW (pv 3)))))))),
  inferInstance⟩
abbrev WR:Stmt:=top 74
noncomputable abbrev UN:MS:=(w9 (x8 j3 (x8 j3 (x8 qo (xr (q0 (f6 (q0 (dC (.int 0)) (q0 (x8 j3 (q9 0) (dC (.int 3))) x6))) x6)) (x9 wJ (q0 (q8 0) (q0 (q8 1) x6)))) (dUn pNeg (dC (.int 1)))) (dC (.int 1))))
noncomputable def jJ:List PV->Option PV:=k6 2 2 UN
theorem TU:w6 ["parts","trays"] ["parts","trays"] (j7 WR):=y8
theorem Hz (F:Fun K "_law_tray_end" "_law_tray_end" WR f fd)(Ax:Fn P w K mg base 2 "_law_tray_rows" ["parts","trays"] (m5 wJ)):FnOk P w K mg base v7 3 f fd ["parts","trays"] (j5 jJ) :=
 c5 (k:=2) (b:=UN) F TU rfl λcdv A outer s H E hr=>⟨_,(z7 (w5 (iW (K:=K) rfl (iW (K:=K) rfl (u5 (xa (K:=K) rfl) (@xG _ _ _ _ (aW (@xn _ _ _ _ _ (aC z0 (aW (iW (K:=K) rfl (pv 0) z0)))))) (fW Ax hr (aC (pv 0) (aW (pv 1))))) (Vs Yr z0)) z0))),
  inferInstance⟩
abbrev Ww:Stmt:=top 75
abbrev Uv:MS:=(v9 (wm 3 [none,some 1] [0] (y7 (q8 0)) (j9 0) g9 (g8 [none,some 1] [0] (y7 (q8 0)) (j9 0) (dT (x8 pNe (q9 0) (q9 1))) (q8 0)) (q8 2) (q8 1))
  (w9 (vj [none] [0] (y7 (q9 3)) (j9 0) (dT (x8 pGt (x9 qp (q0 (q9 0) x6)) (dC (.int 0)))) (q8 0))))
def QR:List PV->Option PV:=k6 4 3 Uv
theorem sc_l_tray_moved:w6 ["trays","name","to","here"] ["trays","name","to"] (j7 Ww):=y8
theorem NW (F:Fun K "_law_tray_moved" "_law_tray_moved" Ww f fd)(Ac:mg "len"=none):FnOk P w K mg base v7 1 f fd ["trays","name","to"] (j5 QR) :=
 c5 (k:=0) (b:=Uv) F sc_l_tray_moved rfl λcdv A outer s H E hr=>⟨_,(z8 (zk (i:=3) (N':=["tray","name"]) (cap:=[none,some 1]) (b9 rfl rfl rfl) rfl sc_l_tray_moved.nd rfl rfl (@p0 _ K _ _ _ rfl (pv 0)) (λ_ _ _ _ _ _=>(k9 (i:=0) (by show (["tray","name"]:List Str).Nodup;decide +kernel) rfl (Or.inl rfl))) (λ_ _ _ _ _ _=>m9) (λ_ _ _ _ _ _=>(i6 (N':=["other","name"]) (cap:=[none,some 1]) (b9 rfl rfl rfl) rfl (@p0 _ K _ _ _ rfl (pv 0)) (λ_ _ _ _ _ _=>(k9 (i:=0) (by show (["other","name"]:List Str).Nodup;decide +kernel) rfl (Or.inl rfl))) (λ_ _ _ _ _ _=>(wX (n9 (zy (K:=K) (ql hr) rfl) (pv 0) (pv 1) (k5 _)))) (λ_ _ _ _ _ _=>(pv 0)))))
  (z8 (xI (zA (K:=K) rfl PySem.F.plainAttrs_list PySem.F.slot_list_append PySem.F.type_list_append vB (iW (K:=K) rfl (pv 3) (pv 2)) (v8 (pv 1) u4)))
  (z7 (w5 (i6 (N':=["tray"]) (cap:=[none]) (b9 rfl rfl rfl) rfl (@p0 _ K _ _ _ rfl (pv 3)) (λ_ _ _ _ _ _=>(k9 (i:=0) (by show (["tray"]:List Str).Nodup;decide +kernel) rfl (Or.inl rfl))) (λ_ _ _ _ _ _=>(wX (n9 (vC) (u7 (qc (K:=K) rfl) rfl Ac PySem.boot_len (aW (pv 0))) z0 (k5 _)))) (λ_ _ _ _ _ _=>(pv 0))))))),
  inferInstance⟩
abbrev WM:Stmt:=top 76
abbrev UI:MS:=(w9 (Jm (g8 [none,some 1] [0] (y7 (q8 0)) (j9 0) g9 (x8 (pIn false) (q9 1) (q9 0))) (dC (.bl true))))
def zW:List PV->Option PV:=k6 2 2 UI
theorem TN:w6 ["trays","name"] ["trays","name"] (j7 WM):=y8
theorem Hq (F:Fun K "_law_place" "_law_place" WM f fd):FnOk P w K mg base v7 1 f fd ["trays","name"] (j5 zW) :=
 c5 (k:=0) (b:=UI) F TN rfl λcdv A outer s H E hr=>⟨_,(z7 (w5 (zA (K:=K) rfl PySem.F.plainAttrs_list PySem.F.slot_list_index PySem.F.type_list_index (Ni (K:=K) rfl) (i6 (N':=["tray","name"]) (cap:=[none,some 1]) (b9 rfl rfl rfl) rfl (@p0 _ K _ _ _ rfl (pv 0)) (λ_ _ _ _ _ _=>(k9 (i:=0) (by show (["tray","name"]:List Str).Nodup;decide +kernel) rfl (Or.inl rfl))) (λ_ _ _ _ _ _=>m9) (λ_ _ _ _ _ _=>(xm (Vn (K:=K) rfl) (pv 1) (pv 0) (by with_unfolding_all rfl)))) (v8 qN u4)))),
  inferInstance⟩
abbrev Yb:Stmt:=top 77
abbrev UU:MS:=(v9 (qJ (y7 (x8 j3 (q9 0) (dC (.int 1)))) (j9 2) (qJ (y7 (x8 j3 (q9 0) (dC (.int 1)))) (j9 3) (v9 (b8 4 (qS (x8 qx (x8 j3 (q9 2) (dC (.int 1))) (x8 j3 (q9 3) (dC (.int 1)))) (x8 wU (f6 (q0 (x8 j3 (q9 2) (dC (.int 3))) (q0 (x8 j3 (q9 2) (dC (.int 0))) x6))) (f6 (q0 (x8 j3 (q9 3) (dC (.int 3))) (q0 (x8 j3 (q9 3) (dC (.int 0))) x6))))))
  (p7 (jg (t0 (q9 4)) (dT (x8 pGt (x9 zW (q0 (q8 1) (q0 (x8 j3 (q9 2) (dC (.int 0))) x6))) (x9 zW (q0 (q8 1) (q0 (x8 j3 (q9 3) (dC (.int 0))) x6)))))) (w9 (dC (.bl false))) c9))))
  (w9 (dC (.bl true))))
def QW:List PV->Option PV:=k6 5 2 UU
theorem sc_trays_in_order:w6 ["parts","trays","one","other","ahead"] ["parts","trays"] (j7 Yb):=y8
theorem HH (F:Fun K "_law_trays_in_order" "_law_trays_in_order" Yb f fd)(Ev:Fn P w K mg base 1 "_law_place" ["trays","name"] (j5 zW)):FnOk P w K mg base v7 2 f fd ["parts","trays"] (j5 QW) :=
 c5 (k:=1) (b:=UU) F sc_trays_in_order rfl λcdv A outer s H E hr=>⟨_,(z8 (qO PassesOwn.never rfl (@p0 _ K _ _ _ rfl (iW (K:=K) rfl (pv 0) z0)) (gW 2 sc_trays_in_order.nd)
   (z7 (qO PassesOwn.never rfl (@p0 _ K _ _ _ rfl (iW (K:=K) rfl (pv 0) z0)) (gW 3 sc_trays_in_order.nd)
   (z8 (sW 4 sc_trays_in_order.nd (zh (xm (xW (K:=K) (ql hr) rfl) (iW (K:=K) rfl (pv 2) z0) (iW (K:=K) rfl (pv 3) z0) (k5 _)) (zD (xm (HR (xQ hr) (K:=K) rfl) (@xn _ _ _ _ _ (aC (iW (K:=K) rfl (pv 2) z0) (aW (iW (K:=K) rfl (pv 2) z0)))) (@xn _ _ _ _ _ (aC (iW (K:=K) rfl (pv 3) z0) (aW (iW (K:=K) rfl (pv 3) z0)))) (k5 _)))))
  (z7 (c6 (PW.pt (VG (qf (K:=K) rfl (pv 4) (λ_=>rfl)) (VH (n9 (vC) (fW Ev hr (aC (pv 1) (aW (iW (K:=K) rfl (pv 2) z0)))) (fW Ev hr (aC (pv 1) (aW (iW (K:=K) rfl (pv 3) z0)))) (k5 _))))) (z7 (w5 qN)) m4))))))
  (z7 (w5 qN))),
  inferInstance⟩
abbrev Yf:Stmt:=top 78
abbrev UY:MS:=(w9 (qS (x9 o3 (q0 (q9 0) (q0 (dC (.ty "int")) x6))) (Qs (x9 o3 (q0 (q9 0) (q0 (dC (.ty "bool")) x6))))))
def Zw:List PV->Option PV:=k6 1 1 UY
theorem TZ:w6 ["thing"] ["thing"] (j7 Yf):=y8
theorem HL (F:Fun K "_law_whole" "_law_whole" Yf f fd)(Eu:mg "bool"=none)(E5:mg "int"=none)(Ab:mg "isinstance"=none):FnOk P w K mg base v7 1 f fd ["thing"] (j5 Zw) :=
 c5 (k:=0) (b:=UY) F TZ rfl λcdv A outer s H E hr=>⟨_,(z7 (w5 (zh (u7 (xC (K:=K) rfl) rfl Ab xz (aC (pv 0) (aW (xE (v:= .ty "int") rfl E5 Gm rfl)))) (zD (Bu (u7 (xC (K:=K) rfl) rfl Ab xz (aC (pv 0) (aW (xE (v:= .ty "bool") rfl Eu Gk rfl))))))))),
  inferInstance⟩
abbrev Wo:Stmt:=top 79
abbrev Ul:MS:=(v9 (p7 (qi (h8 (t0 (x9 o3 (q0 (q9 0) (q0 (dC (.ty "tuple")) x6))))) (qi (dT (x8 pNe (x9 qp (q0 (q9 0) x6)) (dC (.int 2)))) (h8 (t0 (x9 Zw (q0 (x8 j3 (q9 0) (dC (.int 1))) x6)))))) (w9 (dC (.bl false))) c9)
  (v9 (b8 3 (x9 zY (q0 (g8 [none] [0] (y7 (x8 j3 (q9 1) (dC (.int 1)))) (j9 0) g9 (f6 (q0 (x8 j3 (q9 0) (dC (.int 0))) (q0 (x8 j3 (q9 0) (dC (.int 1))) x6)))) x6)))
  (v9 (p7 (qi (dT (Qq (x8 j3 (q9 0) (dC (.int 0))) (q9 3))) (h8 (dT (zq pLe pLt (dC (.int 0)) (x8 j3 (q9 0) (dC (.int 1))) (x9 qp (q0 (q9 2) x6)))))) (w9 (dC (.bl false))) c9)
  (w9 (qS (x8 (pIn true) (x8 j3 (q9 0) (dC (.int 0))) (x8 j3 (q9 2) (x8 j3 (q9 0) (dC (.int 1))))) (x8 qx (xD (q9 3) (x8 j3 (x8 j3 (q9 2) (x8 j3 (q9 0) (dC (.int 1)))) (dC (.int 0)))) (xD (q9 3) (x8 j3 (q9 0) (dC (.int 0))))))))))
def QM:List PV->Option PV:=k6 4 3 Ul
theorem sc_is_move:w6 ["move","parts","trays","hues"] ["move","parts","trays"] (j7 Wo):=y8
theorem NO (F:Fun K "_law_is_move" "_law_is_move" Wo f fd)(E6:Fn P w K mg base 1 "_law_whole" ["thing"] (j5 Zw))(Aw:mg "dict"=none)(Ab:mg "isinstance"=none)(Ac:mg "len"=none)(Eh:mg "tuple"=none):FnOk P w K mg base v7 2 f fd ["move","parts","trays"] (j5 QM) :=
 c5 (k:=1) (b:=Ul) F sc_is_move rfl λcdv A outer s H E hr=>⟨_,(z8 (c6 (PW.pt (xb (qd (qf (K:=K) rfl (u7 (xC (K:=K) rfl) rfl Ab xz (aC (pv 0) (aW (xE (v:= .ty "tuple") rfl Eh Gp rfl)))) (λ_=>rfl))) (xb (n9 (zy (K:=K) (ql hr) rfl) (u7 (qc (K:=K) rfl) rfl Ac PySem.boot_len (aW (pv 0))) z0 (k5 _)) (xY (qd (qf (K:=K) rfl (fW E6 hr (aW (iW (K:=K) rfl (pv 0) z0))) (λ_=>rfl))))))) (z7 (w5 qN)) m4)
  (z8 (sW 3 sc_is_move.nd (zB (Qo (K:=K) rfl rfl) rfl Aw Qn (aW (i6 (N':=["cloth"]) (cap:=[none]) (b9 rfl rfl rfl) rfl (@p0 _ K _ _ _ rfl (iW (K:=K) rfl (pv 1) z0)) (λ_ _ _ _ _ _=>(k9 (i:=0) (by show (["cloth"]:List Str).Nodup;decide +kernel) rfl (Or.inl rfl))) (λ_ _ _ _ _ _=>m9) (λ_ _ _ _ _ _=>(@xn _ _ _ _ _ (aC (iW (K:=K) rfl (pv 0) z0) (aW (iW (K:=K) rfl (pv 0) z0)))))))))
  (z8 (c6 (PW.pt (xb (VF (Bs (xQ hr) (iW (K:=K) rfl (pv 0) z0) (pv 3))) (xY (qd (ZL (wO) (wQ) z0 (iW (K:=K) rfl (pv 0) z0) (u7 (qc (K:=K) rfl) rfl Ac PySem.boot_len (aW (pv 2)))))))) (z7 (w5 qN)) m4)
  (z7 (w5 (zh (xm (HV (K:=K) rfl) (iW (K:=K) rfl (pv 0) z0) (iW (K:=K) rfl (pv 2) (iW (K:=K) rfl (pv 0) z0)) (by with_unfolding_all rfl)) (zD (xm (xW (K:=K) (ql hr) rfl) (jO (xQ hr) (pv 3) (iW (K:=K) rfl (iW (K:=K) rfl (pv 2) (iW (K:=K) rfl (pv 0) z0)) z0) (λ_ _=>rfl)) (jO (xQ hr) (pv 3) (iW (K:=K) rfl (pv 0) z0) (λ_ _=>rfl)) (k5 _))))))))),
  inferInstance⟩
abbrev WC:Stmt:=top 80
noncomputable abbrev Uz:MS:=(v9 (b8 3 (q8 1))
  (v9 (qJ (y7 (q8 2)) (j9 4) (v9 (p7 (h8 (t0 (x9 QM (q0 (q8 4) (q0 (q8 0) (q0 (q8 3) x6)))))) (w9 (dC .non)) c9)
  (v9 (b8 5 (x9 QR (q0 (q8 3) (q0 (x8 j3 (q9 4) (dC (.int 0))) (q0 (x8 j3 (q9 4) (dC (.int 1))) x6)))))
  (v9 (p7 (dT (x8 pGt (x9 jL (q0 (q8 0) (q0 (q8 5) x6))) (x9 jL (q0 (q8 0) (q0 (q8 3) x6))))) (w9 (dC .non)) c9)
  (v9 (p7 (dT (x8 pGt (x9 jJ (q0 (q8 0) (q0 (q8 5) x6))) (x9 jJ (q0 (q8 0) (q0 (q8 3) x6))))) (w9 (dC .non)) c9)
  (b8 3 (q8 5)))))))
  (w9 (q8 3))))
noncomputable def Zs:List PV->Option PV:=k6 6 3 Uz
theorem sc_led:w6 ["parts","trays","moves","here","move","other"] ["parts","trays","moves"] (j7 WC):=y8
theorem Hf (F:Fun K "_law_led" "_law_led" WC f fd)(Ep:Fn P w K mg base 2 "_law_is_move" ["move","parts","trays"] (j5 QM))(B9:Fn P w K mg base 1 "_law_tray_moved" ["trays","name","to"] (j5 QR))(D9:Fn P w K mg base 3 "_law_tray_end" ["parts","trays"] (j5 jJ))(D1:Fn P w K mg base 3 "_law_tray_late" ["parts","trays"] (j5 jL)):FnOk P w K mg base v7 4 f fd ["parts","trays","moves"] (j5 Zs) :=
 c5 (k:=3) (b:=Uz) F sc_led rfl λcdv A outer s H E hr=>⟨_,(z8 (sW 3 sc_led.nd (pv 1))
  (z8 (qO PassesOwn.never rfl (@p0 _ K _ _ _ rfl (pv 2)) (gW 4 sc_led.nd)
   (z8 (c6 (qd (qf (K:=K) rfl (fW Ep hr (aC (pv 4) (aC (pv 0) (aW (pv 3))))) (λ_=>rfl))) (z7 (w5 zC)) m4)
  (z8 (sW 5 sc_led.nd (fW B9 hr (aC (pv 3) (aC (iW (K:=K) rfl (pv 4) z0) (aW (iW (K:=K) rfl (pv 4) z0))))))
  (z8 (c6 (n9 (vC) (fW D1 hr (aC (pv 0) (aW (pv 5)))) (fW D1 hr (aC (pv 0) (aW (pv 3)))) (k5 _)) (z7 (w5 zC)) m4)
  (z8 (c6 (n9 (vC) (fW D9 hr (aC (pv 0) (aW (pv 5)))) (fW D9 hr (aC (pv 0) (aW (pv 3)))) (k5 _)) (z7 (w5 zC)) m4)
  (z7 (sW 3 sc_led.nd (pv 5))))))))
  (z7 (w5 (pv 3))))),
  inferInstance⟩
theorem Yx (n:Int):jH [.at (.int n)]=some (.at (.bl true)):=m7 rfl (p8 (ze (z6 rfl Kv) (Kc (v:=false) (z6 rfl Kw))))
theorem Ip (n k:Int):zV [.at (.int n),.at (.int k)]=some (.at (.bl (decide (k<=n)))):=m7 rfl (p8 (ze (z6 rfl (Yx n)) rfl))
theorem Xv {k:Int}(h:k<=n):zV [.at (.int n),.at (.int k)]=some (.at (.bl true)):=(Ip n k).trans (by rw [yy h])
theorem Ix (h:vW s):Zp [.at (.str s)]=some (.at (.bl true)):=by
 have hl:lim=1000000:=rfl;have l1:=h.one;have l8:=h.eight;have ln:qp [.at (.str s)]=some (.at (.int s.length)):=if_pos (by omega);refine m7 rfl (y0 (o5 (qZ (qh (qt (z6 rfl Kx))) (qh (p5 (XV (r:=true) rfl (z6 rfl ln) ?_ rfl ?_)))) qu) (p8 (z6 (j8 (f9 (λc:Nat=>PV.at (.str ⟨#[c]⟩)) (λ_=>PV.at (.bl true)) s.cps.toList rfl rfl ?_ ?_) rfl) (vc _))))
 ·show some (PV.at (.bl (decide ((1:Int)<=(s.length:Int)))))=_;rw [yy (by omega)]
 ·show some (PV.at (.bl (decide ((s.length:Int)<=8))))=_;rw [yy (by omega)]
 ·have:s.cps.toList.length=s.length:=by simp [Str.length]
  omega
 ·intro c hc;obtain ⟨c1,c2⟩:=h.low c hc;refine ⟨_,rfl,XV rfl rfl ?_ rfl ?_⟩
  ·show some (PV.at (.bl (!decide ([c]<("a":Str).cps.toList))))=_;have e:¬ ([c]<[97]):=by rw [List.cons_lt_cons_iff];simp;omega
   rw [show ("a":Str).cps.toList=[97] by decide +kernel,yB e];rfl
  ·show some (PV.at (.bl (!decide (("z":Str).cps.toList<[c]))))=_;have e:¬ ([122]<[c]):=by rw [List.cons_lt_cons_iff];simp;omega
   rw [show ("z":Str).cps.toList=[122] by decide +kernel,yB e];rfl
theorem Iv (ok:c.Ok h):Zo [c.pv,.at (.int h)]=some (.at (.bl true)):=by refine m7 rfl (y0 (o5 (qZ (qh (qt (z6 rfl Ky))) (p5 (v:=false) rfl)) qu) (y0 (o5 (qZ (qh (qt (z6 (j8 (z6 rfl rfl) rfl) (Ix ok.nm)))) (qZ (qh (qt (z6 (j8 (z6 rfl rfl) rfl) (Xv (n:=(c.hue:Int)) (k:=0) (by omega))))) (p5 (v:=false) (j6 (z6 rfl rfl) rfl ?_)))) qu) (p8 (ze (z6 (j8 (z6 rfl rfl) rfl) (Xv ok.l1)) (ze (z6 (j8 (z6 rfl rfl) rfl) (Yx _)) (z6 (j8 (z6 rfl rfl) rfl) (Xv ok.w1)))))));show some (PV.at (.bl (decide ((h:Int)<=(c.hue:Int)))))=_;have:=ok.hu;rw [yB (by omega)]
theorem Ii {l t:Int}(h1:-1<=l)(h2:l<(h:Int))(h3:0<=t):Zn [.at (.int l),.at (.int t),.at (.int h)]=some (.at .non):=by refine XW rfl (y0 (o5 (XM (v:=false) (p5 (v:=true) rfl) (qh (XM (v:=true) (qt (z6 rfl (Xv h1))) (p5 (v:=true) ?_)))) qu) (o5 (qh (qt (z6 rfl (Xv h3)))) qu));show some (PV.at (.bl (decide (l<(h:Int)))))=_;rw [yy h2]
def keysOf (cs:List Cl):List z9:=cs.map λc=>Sum.inr c.name
theorem KR {x:Str}{α:Type}(f:Cl->PV):∀{cs:List Cl},x∉cs.map Cl.name->qM (.inr x) (keysOf cs) (cs.map f)=none
 |[],_=>rfl
 |c::cs,h=>by
  rw [yI] at h;show (if (Sum.inr c.name:z9) = .inr x then _ else qM (.inr x) (keysOf cs) (cs.map f))=_;rw [if_neg (λe=>h (by injection e with e;rw [e];exact yT)),KR (α:=α) f λz=>h (yS _ z)]
theorem vy (f:Cl->PV):∀{cs:List Cl},(cs.map Cl.name).Nodup->∀ c∈cs,qM (.inr c.name) (keysOf cs) (cs.map f)=some (f c)
 |[],_,_,h=>nomatch h
 |d::cs,nd,c,h=>by
  rw [yI] at nd;have nd':=yu.mp nd;show (if (Sum.inr d.name:z9) = .inr c.name then some (f d) else qM (.inr c.name) (keysOf cs) (cs.map f))=_;rcases yM.mp h with rfl|h
  ·rw [if_pos rfl]
  ·rw [if_neg (λe=>nd'.1 (by injection e with e;rw [e];exact yF.mpr ⟨c,h,rfl⟩)),vy f nd'.2 c h]
theorem Ig {cls:List Cl}(hok:∀ c∈cls,c.Ok h)(nd:(cls.map Cl.name).Nodup)(ten:cls.length<=10):Zl [.lst (cls.map Cl.pv),.at (.int h)]=some (.at .non):=by
 have hl:lim=1000000:=rfl;refine XW rfl (y0 (o5 (p5 (v:=false) (j6 (z6 rfl rfl) rfl ?_)) qu) (y0 (Qy rfl) (xl rfl (QG Cl.pv (λl ε=>∃(done:List Cl)(s3:MSlot),done++l=cls/\ε=[.sh (.lst (cls.map Cl.pv)),.sh (.at (.int h)),.ow (.dk (keysOf done) (done.map λ_=>PV.at (.bl true))),s3]) ?_ cls _ ⟨[],.no,rfl,rfl⟩).choose_spec.1)))
 ·show some (PV.at (.bl (decide ((10:Int)<((cls.map Cl.pv).length:Int)))))=_;rw [yZ,yB (by omega)]
 ·rintro c l ε ⟨done,s3,e,rfl⟩;have hc:c∈cls:=by rw [<- e];exact yr _ yT
  have hn:c.name∉done.map Cl.name:=λz=>by
   rw [<- e,yw,yI] at nd;exact (uG.mp nd).2.2 _ z _ yT rfl
  have ln:=KR (α:=Unit) (λ_=>PV.at (.bl true)) hn;have hd:done.length<=10:=by rw [<- e] at ten;rw [yQ] at ten;omega
  refine ⟨_,_,rfl,y0 (o5 (qh (qt (z6 rfl (Iv (hok c hc))))) qu) (y0 (o5 (p5 (v:=false) ?_) qu) ?_),done++[c],.sh c.pv,by rw [<- e,uZ];rfl,rfl⟩
  ·show some (PV.at (.bl (qM (.inr c.name) (keysOf done) (done.map λ_=>PV.at (.bl true))).isSome))=_;rw [ln];rfl
  ·show (if (keysOf done).length<=lim then some (Out.nx [_,_,.ow (ZM (.inr c.name) (.at (.bl true)) (keysOf done) (done.map λ_=>PV.at (.bl true))),_]) else none)=_;unfold ZM;rw [if_pos (by unfold keysOf;rw [yZ];omega),ln];simp only [Option.isSome_none,uQ,if_false];unfold keysOf;rw [yw,yw];rfl
def jm (n:Int):PV:= .at (.int n)
def qB (r:List Int):PV:= .lst (r.map jm)
def wyP (w:Wy):PV:= .tup [.at (.int w.1),.lst (w.2.map jm)]
def qQ (ws:List Wy):PV:= .lst (ws.map wyP)
theorem IJ (hl:r.length=h)(h4:h<=4)(hv:∀ v∈r,0<=v):QP [qB r,.at (.int h)]=some (.at (.bl true)):=by
 have hlim:lim=1000000:=rfl;refine m7 rfl (y0 (o5 (qZ (qh (qt (z6 rfl JH))) (p5 (v:=false) (j6 (z6 rfl rfl) rfl ?_))) qu) (p8 (z6 (j8 (f9 jm (λ_=>PV.at (.bl true)) r rfl rfl (by omega) λv hvm=>?_) rfl) (vc _))))
 ·show (peq 6 (.at (.int ((r.map jm).length:Int))) (.at (.int (h:Int)))).bind _=_;rw [yZ,hl];exact vG (x:= .at (.int (h:Int))) rfl
 ·refine ⟨_,rfl,ze (z6 rfl (Yx v)) ?_⟩;show some (PV.at (.bl (decide ((0:Int)<=v))))=_;rw [yy (hv v hvm)]
theorem Ih (G:n8 h rss)(h1:1<=h)(h4:h<=4):Zm [c7 rss]=some (.at .non):=by
 have hlim:lim=1000000:=rfl;have hlen:=G.len;have eh:((rss.map qB).length:Int)-1=(h:Int):=by rw [yZ,hlen];omega
 have step:∀(k:Int),k=(h:Int)->v9 (p7 (h8 (dT (zq pLe pLe (dC (.int 1)) (q9 1) (dC (.int 4))))) xk c9)
  (p7 (h8 (t0 (x9 zg (q0 (g8 [none,some 1] [0] (y7 (q8 0)) (j9 0) g9 (x9 QP (q0 (q8 0) (q0 (q8 1) x6)))) x6)))) xk c9) [.sh (c7 rss),.sh (.at (.int k))]=some (.nx [.sh (c7 rss),.sh (.at (.int k))]):=by
  rintro k rfl;refine y0 (o5 (qh (p5 (XV (r:=true) rfl rfl ?_ rfl ?_))) qu) (o5 (qh (qt (z6 (j8 (f9 qB (λ_=>PV.at (.bl true)) rss rfl rfl (by omega) λr hr=>⟨_,rfl,z6 rfl (IJ (G.row r hr).1 h4 λv hv=>((G.row r hr).2 v hv).1)⟩) rfl) (vc _)))) qu)
  ·show some (PV.at (.bl (decide ((1:Int)<=(h:Int)))))=_;rw [yy (by omega)]
  ·show some (PV.at (.bl (decide ((h:Int)<=4))))=_;rw [yy (by omega)]
 exact XW rfl (y0 (o5 (qh (qt (z6 rfl JH))) qu) (y0 (t9 rfl) (step _ eh)))
theorem GS {α:Type}(f:α->PV):∀(l:List α)(n:Nat),qK n (l.map f)=(l.zipIdx n).map λp=>PV.tup [.at (.int ((p.2:Nat):Int)),f p.1]
 |[],_=>rfl
 |x::l,n=>by
  rw [yI,List.zipIdx_cons,yI];show PV.tup [.at (.int n),f x]::qK (n+1) (l.map f)=_;rw [GS f l (n+1)]
theorem IL (h:r.length<=4):QT [qB r]=some (qQ (zH r)):=by
 have hlim:lim=1000000:=rfl;refine xO rfl (p8 ?_);have e:=f9 (cap:=[none,none]) (ts:=[0,1]) (it:=jB (q0 (q8 0) x6)) (g:=xu 2 (i8 (j9 0) (i8 (j9 1) xt))) (f:=f6 (q0 (q8 1) (q0 (xr (q0 (q8 0) x6)) x6))) (ε:=[.sh (qB r)])
  (λp:Int×Nat=>PV.tup [.at (.int ((p.2:Nat):Int)),jm p.1]) (λp:Int×Nat=>wyP (p.1,[(p.2:Int)])) (r.zipIdx 0) (by show some (qK 0 (r.map jm))=_;rw [GS]) rfl (by rw [List.length_zipIdx];omega) λp _=>⟨_,rfl,rfl⟩
 refine e.trans ?_;unfold qQ zH;rw [List.mapIdx_eq_zipIdx_map,yx];rfl
theorem Iy {a b:Wy}(h:a.2.length+b.2.length<=1000):QQ [wyP a,wyP b]=some (wyP (zw a b)):=by have hlim:lim=1000000:=rfl;refine m7 rfl (p8 (xP (j8 (j6 rfl rfl rfl) (j8 (j6 rfl rfl (Vo (by rw [yZ,yZ];omega))) rfl)) (by first|decide|(show 1<=lim;decide)|(show 2<=lim;decide)|(show 3<=lim;decide))) |>.trans ?_);unfold wyP zw;rw [yw]
theorem ID (a b:Wy):QS [wyP a,wyP b]=some (wyP (zT a b)):=by
 unfold zT;by_cases h:b.1<a.1
 ·rw [if_pos h];exact m7 rfl (p8 (Ml (p5 (v:=true) (j6 rfl rfl (show some (PV.at (.bl (decide (b.1<a.1))))=_ by rw [yy h]))) rfl))
 ·rw [if_neg h];exact m7 rfl (p8 (GZ (p5 (v:=false) (j6 rfl rfl (show some (PV.at (.bl (decide (b.1<a.1))))=_ by rw [yB h]))) rfl))
theorem CG {α β:Type}(f:α->PV)(g:β->PV):∀(l:List α)(m:List β),o7 (l.map f) (m.map g)=(l.zip m).map λp=>PV.tup [f p.1,g p.2]
 |[],_=>by cases ‹List β›<;>rfl
 |_::_,[]=>rfl
 |x::l,y::m=>by
  show PV.tup [f x,g y]::o7 (l.map f) (m.map g)=_;rw [CG f g l m];rfl
theorem CH {α β γ:Type}(f:α->β->γ):∀(l:List α)(m:List β),List.zipWith f l m=(l.zip m).map λp=>f p.1 p.2
 |[],_=>by simp
 |_::_,[]=>rfl
 |x::l,y::m=>by
  show f x y::List.zipWith f l m=_;rw [CH f l m];rfl
theorem IN {k:Nat}(hk:k<ws.length)(h4:ws.length<=4)(l1:∀ w∈ws,w.2.length<=100)(l2:∀ w∈onw,w.2.length<=100):wK [qQ ws,.at (.int (k:Int)),qQ onw]=some (qQ (thr ws k onw)):=by
 have hlim:lim=1000000:=rfl;have hg:ws.getD k (0,[])=ws[k]:=k7 hk;have hw:=yt hk;refine xO rfl (p8 ?_);have e:=f9 (cap:=[none,none,some 0,some 1]) (ts:=[0,1]) (it:=ji (q0 (q8 0) (q0 (q8 2) x6))) (g:=xu 2 (i8 (j9 0) (i8 (j9 1) xt))) (f:=x9 QS (q0 (q8 0) (q0 (x9 QQ (q0 (x8 j3 (q9 2) (q9 3)) (q0 (q8 1) x6))) x6))) (ε:=[.sh (qQ ws),.sh (.at (.int (k:Int))),.sh (qQ onw)])
  (λp:Wy×Wy=>PV.tup [wyP p.1,wyP p.2]) (λp:Wy×Wy=>wyP (zT p.1 (zw ws[k] p.2))) (ws.zip onw) (by show some (o7 (ws.map wyP) (onw.map wyP))=_;rw [CG]) rfl (by rw [List.length_zip];omega) λp hp=>⟨_,rfl,z6 (j8 rfl (j8 (z6 (j8 (j6 rfl rfl (xq (v:=wyP ws[k]) (by rw [yP,yY hk];rfl))) (j8 rfl rfl)) (Iy (by
   have q1:=l1 _ hw;have q2:=l2 p.2 (uq hp).2;omega))) rfl)) (ID _ _)⟩
 refine e.trans ?_;unfold qQ thr;rw [hg,CH,yx];rfl
theorem IU {k:Nat}(G:n8 h rss)(hk:k<=h)(h4:h<=4):∀ r∈p6 rss k,∀ w∈r,w.2.length<=100:=by
 intro r hr w hw;have S:=Shp.all G k hk;have F:=FW.all G k hk;obtain ⟨f,hf,rfl⟩:=uK hr;obtain ⟨g,hg,rfl⟩:=uK hw;have hf':f<=h:=by have:=S.len;omega
 have hg':g<h:=by rw [<- S.row _ hr];exact hg
 have e:y4 (p6 rss k) f g=(p6 rss k)[f][g]:=by unfold y4;rw [k7 hf,k7 hg]
 have q:=F.len f g hf' hg';rw [e] at q;have:2 ^ k<=2 ^ 4:=Nat.pow_le_pow_right (by decide) (by omega);omega
def Xt (T:List (List Wy)):PV:= .lst (T.map qQ)
theorem IC (G:n8 h rss)(h1:1<=h)(h4:h<=4):Zr [c7 rss]=some (Xt (p6 rss h)):=by
 have hlim:lim=1000000:=rfl;have hlimI:(lim:Int)=1000000:=rfl;have hlen:=G.len;have st:g8 [none] [0] (y7 (q8 0)) (j9 0) g9 (x9 QT (q0 (q8 0) x6)) [.sh (c7 rss),.no,.no,.no]=some (Xt (p6 rss 0)):=by refine (f9 qB (λr=>qQ (zH r)) rss rfl rfl (by omega) λr hr=>⟨_,rfl,z6 rfl (IL (by rw [(G.row r hr).1];exact h4))⟩).trans ?_;show _=some (PV.lst ((rss.map zH).map qQ));rw [yx];rfl
 have rg:zt (q0 (x8 zZ (x9 qp (q0 (q9 0) x6)) (dC (.int 1))) x6) [.sh (c7 rss),.sh (Xt (p6 rss 0)),.no,.no]=some ((List.range h).map λ(i:Nat)=>PV.at (.int ((0:Int)+i))):=by refine wY (k:=h) (j8 (j6 (z6 rfl rfl) rfl ?_) rfl) (by omega);show some (PV.at (.int (((rss.map qB).length:Int)-1)))=_;rw [yZ,hlen,show ((h+1:Nat):Int)-1=(h:Int) by omega]
 have lp:=QG (g:=j9 2) (f:=v9 (b8 3 (x8 j3 (q9 1) (q9 2))) (b8 1 (g8 [none,some 2,some 3] [0] (y7 (q8 1)) (j9 0) g9 (x9 wK (q0 (q8 0) (q0 (q8 1) (q0 (q8 2) x6)))))))
  (λ(i:Nat)=>PV.at (.int ((0:Int)+i))) (λl ε=>∃(k:Nat)(s2 s3:MSlot),l=(List.range h).drop k/\k<=h/\ε=[.sh (c7 rss),.sh (Xt (p6 rss k)),s2,s3]) (by
   rintro i l ε ⟨k,s2,s3,el,hk,rfl⟩;have hkl:k<h:=by
    have e5:(i::l).length=((List.range h).drop k).length:=by rw [<- el]
    rw [uu,uL,yG] at e5;omega
   have ei:i=k:=by
    have:((List.range h).drop k)[0]?=some i:=by rw [<- el];rfl
    rw [List.getElem?_drop,List.getElem?_range (by omega)] at this;simpa using this.symm
   have er:l=(List.range h).drop (k+1):=by
    have:((List.range h).drop k).tail=l:=by rw [<- el];rfl
    rw [<- this,List.tail_drop]
   subst ei;have S:=Shp.all G i hk;have hT:i<(p6 rss i).length:=by rw [S.len];omega
   have gD:(p6 rss i).getD i []=(p6 rss i)[i]:=k7 hT;have wl:=IU G hk h4;refine ⟨_,_,rfl,y0 (t9 (x:=qQ (p6 rss i)[i]) (j6 rfl rfl ?_)) (t9 (x:=Xt (p6 rss (i+1))) ?_),i+1,_,_,er,hkl,rfl⟩
   ·show atI ((p6 rss i).map qQ) (0+(i:Int))=_;rw [Int.zero_add];exact xq (by rw [yP,yY hT];rfl)
   ·refine (f9 qQ (λrow=>qQ (thr row i (p6 rss i)[i])) (p6 rss i) rfl rfl (by rw [S.len];omega) λrow hr=>⟨_,rfl,z6 rfl ?_⟩).trans ?_
    ·show wK [qQ row,.at (.int (0+(i:Int))),qQ (p6 rss i)[i]]=_;rw [Int.zero_add];exact IN (by rw [S.row row hr];exact hkl) (by rw [S.row row hr];exact h4) (wl row hr) (wl _ (yt hT))
    ·show _=some (PV.lst ((qV (p6 rss i) i).map qQ));unfold qV;rw [yx,gD];rfl) (List.range h) _ ⟨0,.no,.no,rfl,yh _,rfl⟩
 obtain ⟨ε',e',k,s2,s3,el,hk,rfl⟩:=lp;have ek:k=h:=by have:=congrArg List.length el;rw [uu,uL] at this;simp at this;omega
 subst ek;exact m7 rfl (y0 (t9 st) (y0 (xl rg e') (p8 rfl)))
theorem IM (h4:ws.length<=4):Zv [qQ ws]=some (qB (ws.map (·.1))):=by have hlim:lim=1000000:=rfl;refine xO rfl (p8 ((f9 wyP (λw=>jm w.1) ws rfl rfl (by omega) λw _=>⟨_,rfl,rfl⟩).trans ?_));unfold qB;rw [yx];rfl
theorem IB (G:n8 h rss)(h1:1<=h)(h4:h<=4):Zq [c7 rss]=some (c7 (o8 rss h)):=by have hlim:lim=1000000:=rfl;have S:=Shp.all G h (yU _);refine xO rfl (y0 (ww (z6 rfl (Ih G h1 h4))) (p8 ((f9 qQ (λws=>qB (ws.map (·.1))) (p6 rss h) (zv (z6 rfl (IC G h1 h4))) rfl (by rw [S.len];omega) λws hw=>⟨_,rfl,z6 rfl (IM (by rw [S.row ws hw];exact h4))⟩).trans ?_)));show _=some (PV.lst ((o8 rss h).map qB));unfold o8;rw [yx];rfl
def Dr.low (d:Dr):List (List Int):=o8 d.rss d.h
def Mp:List Str:=["least","given","held","last","time"]
def Dr.ob (C:Addr)(d:Dr):PV:= .ob C Mp [c7 d.low,c7 d.rss,.fk (keysOf d.cls) (d.cls.map Cl.pv),.at (.int d.last),.at (.int d.time)]
def Dr.names (d:Dr):List Str:=d.cls.map Cl.name
section
variable {C:Addr}{d:Dr}
theorem Ir (ok:d.Ok):jo C [d.ob C]=some (.at (.int d.h)):=by have G:=jF ok.rin;refine m7 rfl (p8 (j6 (z6 (j8 (wx rfl rfl) rfl) rfl) rfl ?_));show some (PV.at (.int (((d.low.map qB).length:Int)-1)))=_;rw [yZ,show d.low.length=d.h+1 from G.len,show ((d.h+1:Nat):Int)-1=(d.h:Int) by omega]
theorem GT {i:Nat}{x:PV}(h1:a ε=some x)(h2:ε[i]?=some (.ow (.lst xs)))(h3:xs.length<=lim):vi i a ε=some (.nx (ε.set i (.ow (.lst (xs++[x]))))):=by unfold vi;rw [h1];show (match ε[i]? with|some (.ow (.lst xs))=>if xs.length<=lim then some (Out.nx (ε.set i (.ow (.lst (xs++[x]))))) else none|_=>none)=_;rw [h2];exact if_pos h3
theorem wv {b:M}{ks:List z9}{z:PV}{k:z9}(h1:a ε=some (.fk ks xs))(h2:b ε=some y)(h3:zx y=some k)(h4:qM k ks xs=some z):xD a b ε=some z:=by unfold xD;rw [h1,h2];show (zx y).bind _=_;rw [h3];exact h4
theorem GY {b:M}{ks:List z9}{k:z9}{o:Option PV}(h1:a ε=some (.fk ks xs))(h2:b ε=some y)(h3:zx y=some k)(h4:qM k ks xs=o):Qq b a ε=some (.at (.bl (!o.isSome))):=by unfold Qq;rw [h1,h2];show (zx y).bind _=_;rw [h3,<- h4];rfl
theorem Cg (ok:d.Ok)(hc:c∈d.cls):vz C [d.ob C,.at (.str c.name)]=some c.pv:=by
 have lk:=vy Cl.pv ok.nd c hc;refine m7 rfl (y0 (o5 (qZ (qh (qt (z6 rfl Kx))) (p5 (v:=false) ?_)) qu) (p8 ?_))
 ·exact GY (wx rfl rfl) rfl rfl lk
 ·exact wv (wx rfl rfl) rfl rfl lk
theorem Tc (G:n8 h rss){f:Int}{g:Nat}(f0:-1<=f)(f1:f<(h:Int))(hg:g<h):∃ r:List Int,atI (rss.map qB) f=some (qB r)/\atI (r.map jm) (g:Int)=some (.at (.int (rin rss f (g:Int)))):=by
 have main:∀ n:Nat,n<=h->∃ r:List Int,(rss.map qB)[n]?=some (qB r)/\rss[n]?=some r/\atI (r.map jm) (g:Int)=some (.at (.int (rin rss (n:Int) (g:Int)))):=by
  intro n hn;have hl:n<rss.length:=by have:=G.len;omega
  have hgl:g<rss[n].length:=by rw [(G.row _ (yt hl)).1];exact hg
  refine ⟨rss[n],by rw [yP,yY hl];rfl,yY hl,?_⟩;rw [js G hn hg,k7 hl,k7 hgl];exact xq (by rw [yP,yY hgl];rfl)
 by_cases hf:f=-1
 ·subst hf;obtain ⟨r,e1,e2,e3⟩:=main h (yU _);refine ⟨r,?_,?_⟩
  ·have hlen:(rss.map qB).length=h+1:=by rw [yZ];exact G.len
   have e:atI (rss.map qB) (h:Int)=some (qB r):=xq e1;rw [<- e];unfold atI;rw [hlen];have i1:ixN (h+1) (-1)=some h:=by
    unfold ixN;rw [if_neg (by decide),if_pos (by omega)]
    congr 1
    omega
   have i2:ixN (h+1) (h:Int)=some h:=by
    unfold ixN;rw [if_pos (by omega),if_pos (by omega)]
    congr 1
   rw [i1,i2]
  ·rw [VO G.len];exact e3
 ·obtain ⟨n,rfl⟩:=yj (show 0<=f by omega);obtain ⟨r,e1,e2,e3⟩:=main n (by omega);exact ⟨r,xq e1,e3⟩
theorem vm (a b:Int):qx (.at (.int a)) (.at (.int b))=some (.at (.bl (decide (a=b)))):=by show some (PV.at (.bl (i5 (.int a) (.int b))))=_;have:i5 (.int a) (.int b)=decide (a=b):=rfl;rw [this]
structure Lst (d:Dr)(ns:List Cl):Prop where
 sub:∀ c∈ns,c∈d.cls
 nd:(ns.map Cl.name).Nodup
def w4 (cs:List Cl):PV:= .lst (y3 (cs.map Cl.name))
theorem Lst.len (ok:d.Ok)(L:Lst d ns):ns.length<=10:=by
 have:=Vj L.nd (left:=d.cls.map Cl.name) λx hx=>by
  obtain ⟨c,hc,rfl⟩:=yF.mp hx;exact yF.mpr ⟨c,L.sub c hc,rfl⟩
 rw [yZ,yZ] at this;have:=ok.ten;omega
end
structure Tray (t:List Cl):Prop where
 ne:t≠[]
 one:∀ c∈t,∀ e∈t,c.hue=e.hue
structure Trays (d:Dr)(T:List (List Cl)):Prop where
 perm:T.flatten.Perm d.cls
 each:∀ t∈T,Tray t
def ZK:List PV->Prop:=λxs=>∃ d:Dr,xs=[d.pv]/\d.Ok
def XA:List PV->PV->Prop:=λxs y=>∃(d:Dr)(T:List (List Cl)),xs=[d.pv]/\y = .lst (T.map w4)/\Trays d T
theorem MK (h:spD ZK XA vs H Q E):vs.length=(["row","parts"]:List Str).length:=by obtain ⟨Hs,a,n,xs,ws,rfl,_,_,_,r,⟨d,rfl,_⟩,_⟩:=h;rw [yG,r.length];rfl
def o9 (cs:List Cl):List V:=cs.map λc=>V.str c.name
theorem QY (cs:List Cl):(o9 cs).length=cs.length:=yZ _
theorem Bh (cs:List Cl):y3 (cs.map Cl.name)=(o9 cs).map PV.at:=by unfold y3 o9;rw [yx,yx];rfl
structure TI (H3:Hp)(a fr F:Addr)(H:Hp)(n:Int)(free:List Cl)(as:List Addr)(T:List (List Cl)):Prop where
 row:H a=some (.lst [.int n])
 fre:H fr=some (.lst (o9 free))
 top:H F=some (.lst (as.map V.ref))
 len:as.length=T.length
 tr:∀(i:Nat)(b:Addr)(t:List Cl),as[i]?=some b->T[i]?=some t->H b=some (.lst (o9 t))
 nd:(a::fr::F::as).Nodup
 new:∀ b∈as,H3 b=none
 kp:∀ b o,b≠a->b≠fr->b≠F->H3 b=some o->H b=some o
section
variable {H3 H:Hp}{a fr F p:Addr}{n m:Int}{free fre2:List Cl}{as:List Addr}{T:List (List Cl)}{o:HO}
theorem TI.ne (x:TI H3 a fr F H n free as T):a≠fr/\a≠F/\a∉as/\fr≠F/\fr∉as/\F∉as/\as.Nodup:=by obtain ⟨h1,h2⟩:=yu.mp x.nd;obtain ⟨h3,h4⟩:=yu.mp h2;obtain ⟨h5,h6⟩:=yu.mp h4;simp only [yM,not_or] at h1 h3;exact ⟨h1.1,h1.2.1,h1.2.2,h3.1,h3.2,h5,h6⟩
theorem TI.nb (x:TI H3 a fr F H n free as T)(hb:b∈as):b≠a/\b≠fr/\b≠F:=by obtain ⟨_,_,n3,_,n5,n6,_⟩:=x.ne;exact ⟨λz=>n3 (z▸hb),λz=>n5 (z▸hb),λz=>n6 (z▸hb)⟩
theorem TI.mem (x:TI H3 a fr F H n free as T)(hb:b∈as):∃(i:Nat)(t:List Cl),as[i]?=some b/\T[i]?=some t:=by obtain ⟨i,hi,e⟩:=List.mem_iff_getElem.mp hb;exact ⟨i,T[i]'(by rw [<- x.len];exact hi),by rw [yY hi,e],yY _⟩
theorem TI.setRow (x:TI H3 a fr F H n free as T):TI H3 a fr F (j4 H a (.lst [.int m])) m free as T:=by obtain ⟨n1,n2,n3,n4,n5,n6,_⟩:=x.ne;refine ⟨y9,by rw [z5 n1.symm];exact x.fre,by rw [z5 n2.symm];exact x.top,x.len,λi b t hb ht=>?_,x.nd,x.new,λb u h1 h2 h3 e=>by rw [z5 h1];exact x.kp b u h1 h2 h3 e⟩;rw [z5 (x.nb (yA hb)).1];exact x.tr i b t hb ht
theorem TI.setFre (x:TI H3 a fr F H n free as T):TI H3 a fr F (j4 H fr (.lst (o9 fre2))) n fre2 as T:=by obtain ⟨n1,n2,n3,n4,n5,n6,_⟩:=x.ne;refine ⟨by rw [z5 n1];exact x.row,y9,by rw [z5 n4.symm];exact x.top,x.len,λi b t hb ht=>?_,x.nd,x.new,λb u h1 h2 h3 e=>by rw [z5 h2];exact x.kp b u h1 h2 h3 e⟩;rw [z5 (x.nb (yA hb)).2.1];exact x.tr i b t hb ht
theorem TI.lay (x:TI H3 a fr F H n free as T)(hp:H p=none):TI H3 a fr F (j4 H p o) n free as T:=by
 have k:∀{b:Addr}{u:HO},H b=some u->j4 H p o b=some u:=λ{b u} e=>by rw [z5 (u6 e hp)];exact e
 exact ⟨k x.row,k x.fre,k x.top,x.len,λi b t hb ht=>k (x.tr i b t hb ht),x.nd,x.new,λb u h1 h2 h3 e=>k (x.kp b u h1 h2 h3 e)⟩
theorem TI.app (x:TI H3 a fr F H n free as T){i:Nat}(hb:as[i]?=some b)(ht:T[i]?=some t):TI H3 a fr F (j4 H b (.lst (o9 (t++[c])))) n free as (T.set i (t++[c])):=by
 obtain ⟨n1,n2,n3,n4,n5,n6,nd⟩:=x.ne;have bm:=yA hb;have hi:i<T.length:=(yL.mp ht).1;refine ⟨by rw [z5 (x.nb bm).1.symm];exact x.row,by rw [z5 (x.nb bm).2.1.symm];exact x.fre,by rw [z5 (x.nb bm).2.2.symm];exact x.top,by rw [ym];exact x.len,λj e u he hu=>?_,x.nd,x.new,λe u h1 h2 h3 z=>?_⟩
 ·by_cases hj:i=j
  ·subst hj;rw [hb] at he;cases he;rw [uU hi] at hu;cases hu;exact y9
  ·rw [yq hj] at hu;rw [z5 (λz=>?_)]
   ·exact x.tr j e u he hu
   ·subst z;obtain ⟨q1,e1⟩:=yL.mp hb;obtain ⟨q2,e2⟩:=yL.mp he;exact hj ((List.getElem_inj (h₀:=q1) (h₁:=q2) nd).mp (e1.trans e2.symm))
 ·rw [z5 (λy=>by rw [y,x.new b bm] at z;cases z)];exact x.kp e u h1 h2 h3 z
theorem vp {l:List α}{i:Nat}{y b:α}(hj:j<=l.length)(h:(l.take j++y::l.drop j)[i]?=some b):(i<j/\l[i]?=some b)∨(i=j/\b=y)∨(j<i/\l[i-1]?=some b):=by
 rw [List.getElem?_append] at h;have tl:(l.take j).length=j:=by rw [uO];omega
 split at h
 ·rename_i hi;rw [tl] at hi;rw [List.getElem?_take_of_lt hi] at h;exact .inl ⟨hi,h⟩
 ·rename_i hi;rw [tl] at hi h;cases hk:i-j with
  |zero=>rw [hk] at h;cases h;exact .inr (.inl ⟨by omega,rfl⟩)
  |succ k=>rw [hk,List.getElem?_cons_succ,List.getElem?_drop] at h;refine .inr (.inr ⟨by omega,?_⟩);rw [show i-1=j+k by omega];exact h
theorem TI.ins (x:TI H3 a fr F H n free as T)(hp:H p=none)(h3:H3 p=none){c:Cl}{j:Nat}(hj:j<=as.length):TI H3 a fr F (j4 (j4 H p (.lst (o9 [c]))) F (.lst ((as.take j++p::as.drop j).map V.ref))) n free (as.take j++p::as.drop j) (T.take j++[c]::T.drop j):=by
 obtain ⟨n1,n2,n3,n4,n5,n6,nd⟩:=x.ne;have k:∀{b:Addr}{u:HO},H b=some u->j4 H p (.lst (o9 [c])) b=some u:=λ{b u} e=>by rw [z5 (u6 e hp)];exact e
 have pa:p≠a:=λz=>by rw [z,x.row] at hp;cases hp
 have pf:p≠fr:=λz=>by rw [z,x.fre] at hp;cases hp
 have pF:p≠F:=λz=>by rw [z,x.top] at hp;cases hp
 have ps:p∉as:=λz=>by
  obtain ⟨i,t,h1,h2⟩:=x.mem z;rw [x.tr i p t h1 h2] at hp;cases hp
 have pm:(as.take j++p::as.drop j).Perm (p::as):=by have:=uc (a:=p) (l₁:=as.take j) (l₂:=as.drop j);rwa [um] at this
 have hT:j<=T.length:=by rw [<- x.len];exact hj
 refine ⟨by rw [z5 n2];exact k x.row,by rw [z5 n4];exact k x.fre,y9,by simp [x.len],λi b t hb ht=>?_,?_,λb hb=>?_,λb u h1 h2 h4 e=>by rw [z5 h4];exact k (x.kp b u h1 h2 h4 e)⟩
 ·have fb:b≠F:=λz=>by
   have:=pm.mem_iff.mp (yA hb);rw [z] at this;rcases yM.mp this with h|h
   ·exact pF h.symm
   ·exact n6 h
  rw [z5 fb];rcases vp hj hb with ⟨q1,q2⟩|⟨q1,rfl⟩|⟨q1,q2⟩<;>rcases vp hT ht with ⟨w1,w2⟩|⟨w1,rfl⟩|⟨w1,w2⟩<;>first|omega|exact k (x.tr _ b t q2 w2)|exact y9
 ·have:(a::fr::F::(as.take j++p::as.drop j)).Perm (p::a::fr::F::as):=by refine (((pm.cons F).cons fr).cons a).trans ?_;exact (((List.Perm.swap p F as).cons fr).cons a).trans ((List.Perm.swap p fr (F::as)).cons a |>.trans (List.Perm.swap p a (fr::F::as)))
  refine this.nodup_iff.mpr (yu.mpr ⟨?_,x.nd⟩);simp only [yM,not_or];exact ⟨pa,pf,pF,ps⟩
 ·rcases yM.mp (pm.mem_iff.mp hb) with rfl|h
  ·exact h3
  ·exact x.new b h
end
section
variable {K:Fg}{σ:St}{H:Hp}{Q:VK}{i:Nat}{p a:Addr}{xs:List V}{n m:Int}
theorem VL (hi:σ[i]?=some (some (.ref p)))(hp:H p=some (.lst xs))(q:Q (.int xs.length) H):tCB (jr K) (i0 (qb i) i7) σ H Q:=⟨_,hi,.inl ⟨_,_,rfl,.inl ⟨xs,SqL.of hp,rfl⟩,q⟩⟩
theorem BX (hi:σ[i]?=some (some (.ref p)))(hp:H p=some (.lst xs))(q:Q (.int (xs.length+1)) H):tOp (VI K) (tCB (jr K) (i0 (qb i) i7)) (tC (.int 1)) σ H Q:=VL hi hp (.inl ⟨_,_,rfl,rfl,q⟩)
theorem VM {te:TE}(hi:σ[0]?=some (some (.ref a)))(ha:H a=some (.lst [.int n]))(h:∀{R:VK},R (.int m) H->te σ H R)(hc:Qg n m)(q:Q (.int (n % m)) (j4 H a (.lst [.int (n / m)]))):jb jv [] E0 (i0 (qb 0) (i0 te i7)) σ H Q :=
 ⟨_,hi,h ⟨a,n,m,rfl,ha,hc,q⟩⟩
end
theorem Yq {K:Fg}{xs:List V}(h:H p=some (.lst xs)):tyV K "list" (.ref p) H:= .inl ⟨rfl,xs,SqL.of h⟩
theorem KG:∀{kvs:List (z9×V)}{cs:List Cl},kvs.map (·.1)=keysOf cs->(kvs.map (·.2)=cs.map λc=>V.int c.hue)->kvs=cs.map λc=>((Sum.inr c.name:z9),V.int c.hue)
 |[],[],_,_=>rfl
 |[],_::_,h,_=>by cases h
 |_::_,[],h,_=>by cases h
 |(k,v)::kvs,c::cs,h1,h2=>by
  injection h1 with a1 b1;injection h2 with a2 b2;rw [KG b1 b2,yI]
  congr 1
  exact Prod.ext a1 a2
theorem VD (f:Cl->PV):∀ cs:List Cl,zG (cs.map λc=>PV.tup [.at (.str c.name),f c])=some (cs.map λc=>((.inr c.name:z9),f c))
 |[]=>rfl
 |c::cs=>by
  show Option.bind (some (Sum.inr c.name:z9)) (λkk=>(zG (cs.map λc=>PV.tup [.at (.str c.name),f c])).map ((kk,f c)::·))=_;rw [VD f cs];rfl
theorem Jx {α:Type}:∀{T:List (List α)},(∀ t∈T,t≠[])->T.length<=T.flatten.length
 |[],_=>yU _
 |t::T,h=>by
  rw [yp,yQ,yG];have:=Jx (T:=T) λx hx=>h x (yS _ hx);have:=List.length_pos_iff.mpr (h t yT);omega
theorem Jw {α:Type}:∀{T:List (List α)}{t:List α},t∈T->t.length<=T.flatten.length
 |x::T,t,h=>by
  rw [yp,yQ];rcases yM.mp h with rfl|h
  ·omega
  ·have:=Jw h;omega
theorem Jz {α:Type}:∀{T:List (List α)}{i:Nat}{t:List α}{c:α},T[i]?=some t->(T.set i (t++[c])).flatten.Perm (c::T.flatten)
 |[],i,_,_,h=>by simp at h
 |x::T,0,t,c,h=>by
  cases h;rw [List.set_cons_zero,yp,yp,uZ];exact uc
 |x::T,i+1,t,c,h=>by
  rw [List.set_cons_succ,yp,yp];exact ((Jz (T:=T) (c:=c) (by simpa using h)).append_left x).trans uc
theorem Mq (T:List (List α))(j:Nat)(c:α):(T.take j++[c]::T.drop j).flatten.Perm (c::T.flatten):=by
 rw [List.flatten_append,yp];have:T.flatten=(T.take j).flatten++(T.drop j).flatten:=by rw [<- List.flatten_append,um]
 rw [this];exact uc
theorem keyN (h:(cs.map Cl.name).Nodup):(keysOf cs).Nodup:=by
 have e:keysOf cs=(cs.map Cl.name).map λs=>(Sum.inr s:z9):=by unfold keysOf;rw [yx];rfl
 rw [e];exact List.Pairwise.map _ (λa b hab z=>hab (Sum.inr.inj z)) h
theorem nine {l:List α}(h:l.length=9):∃ a b c d e f g i j,l=[a,b,c,d,e,f,g,i,j]:=by
 match l,h with
 |[a,b,c,d,e,f,g,i,j],_=>exact ⟨a,b,c,d,e,f,g,i,j,rfl⟩
theorem Km (nd:(cs.map Cl.name).Nodup)(hc:c∈cs):qG (cs.map λc=>((Sum.inr c.name:z9),V.int c.hue)) (Sum.inr c.name)=some (.int c.hue):=by
 unfold L2.qG
 induction cs with
 |nil=>cases hc
 |cons x cs ih =>
  rw [yI,yu] at nd;rw [yI,uF];rcases yM.mp hc with rfl|hc
  ·simp
  ·have:x.name≠c.name:=λe=>nd.1 (e▸yF.mpr ⟨c,hc,rfl⟩);rw [show decide ((Sum.inr x.name:z9)=Sum.inr c.name)=false by simp [this]];exact ih nd.2 hc
theorem seqS {t u:TS}{f:MS}[sf:o4 false t f]{ε':ME}{Hs0 Hs:Hp}{D:xK}(e:f ε=some (.nx ε'))(rs:RS Hs0 H0 Hs H σ ε)(k:∀ Hs H σ,RS Hs0 H0 Hs H σ ε'->u D σ H):tSeq t u D σ H:=sf.h e rs k
abbrev Ya:Stmt:=top 70
theorem sc_trays:w6 ["row","parts","hues","free","found","k","name","same","pick"] ["row","parts"] (j7 Ya):=y8
theorem HG (F:Fun K "_law_trays" "_law_trays" Ya f fd)(Ae:Fn P w K mg base 1 "_law_digit" ["row","many"] jv)(Aw:mg "dict"=none)(Ac:mg "len"=none)(Ad:mg "range"=none):FnOk P w K mg base v7 2 f fd ["row","parts"] (spD ZK XA):=by
 refine F.ok (k:=1) sc_trays (λvs H Q E h=>MK h) (λcdv A outer s H vs Q E hr h=>⟨_,(z8 (sW 2 sc_trays.nd (zB (Qo (K:=K) rfl rfl) rfl Aw Qn (aW (i6 (N':=["cloth"]) (cap:=[none]) (b9 rfl rfl rfl) rfl (@p0 _ K _ _ _ rfl (iW (K:=K) rfl (pv 1) z0)) (λ_ _ _ _ _ _=>(k9 (i:=0) (by show (["cloth"]:List Str).Nodup;decide +kernel) rfl (Or.inl rfl))) (λ_ _ _ _ _ _=>m9) (λ_ _ _ _ _ _=>(@xn _ _ _ _ _ (aC (iW (K:=K) rfl (pv 0) z0) (aW (iW (K:=K) rfl (pv 0) z0)))))))))
  (z8 (zk (i:=3) (N':=["cloth"]) (cap:=[none]) (b9 rfl rfl rfl) rfl sc_trays.nd rfl rfl (@p0 _ K _ _ _ rfl (iW (K:=K) rfl (pv 1) z0)) (λ_ _ _ _ _ _=>(k9 (i:=0) (by show (["cloth"]:List Str).Nodup;decide +kernel) rfl (Or.inl rfl))) (λ_ _ _ _ _ _=>m9) (λ_ _ _ _ _ _=>(iW (K:=K) rfl (pv 0) z0)))
  (z8 (sW 4 sc_trays.nd (@xG _ _ _ _ u4))
  (z8 (qO PassesOwn.never rfl (zF rfl Ad (aW (u7 (qc (K:=K) rfl) rfl Ac PySem.boot_len (aW (pv 3))))) (gW 5 sc_trays.nd)
   (z8 (sW 6 sc_trays.nd (zA (K:=K) rfl PySem.F.plainAttrs_list PySem.F.slot_list_pop PySem.F.type_list_pop Bc (pv 3) (v8 (fW Ae hr (aC (pv 0) (aW (u7 (qc (K:=K) rfl) rfl Ac PySem.boot_len (aW (pv 3)))))) u4)))
  (z8 (zk (i:=7) (N':=["tray","hues","name"]) (cap:=[none,some 2,some 6]) (b9 rfl rfl rfl) rfl sc_trays.nd rfl rfl (@p0 _ K _ _ _ rfl (pv 4)) (λ_ _ _ _ _ _=>(k9 (i:=0) (by show (["tray","hues","name"]:List Str).Nodup;decide +kernel) rfl (Or.inl rfl))) (λ_ _ _ _ _ _=>(wX (n9 (xW (K:=K) (ql hr) rfl) (jO (xQ hr) (pv 1) (iW (K:=K) rfl (pv 0) z0) (λ_ _=>rfl)) (jO (xQ hr) (pv 1) (pv 2) (λ_ _=>rfl)) (k5 _)))) (λ_ _ _ _ _ _=>(pv 0)))
  (z8 (sW 8 sc_trays.nd (fW Ae hr (aC (pv 0) (aW (u5 (xa (K:=K) rfl) (u7 (qc (K:=K) rfl) rfl Ac PySem.boot_len (aW (pv 7))) z0)))))
  (z7 (c6 (n9 (wQ) (pv 8) (u7 (qc (K:=K) rfl) rfl Ac PySem.boot_len (aW (pv 7))) (k5 _)) (z7 (xI (zA (K:=K) rfl PySem.F.plainAttrs_list PySem.F.slot_list_append PySem.F.type_list_append vB (iW (K:=K) rfl (pv 7) (pv 8)) (v8 (pv 6) u4)))) (z7 (xI (zA (K:=K) rfl PySem.F.plainAttrs_list PySem.F.slot_list_insert PySem.F.type_list_insert Nj (pv 4) (v8 (fW Ae hr (aC (pv 0) (aW (u5 (xa (K:=K) rfl) (u7 (qc (K:=K) rfl) rfl Ac PySem.boot_len (aW (pv 4))) z0)))) (v8 (@xG _ _ _ _ (aW (pv 6))) u4)))))))))))
  (z7 (w5 (pv 4))))))),?_⟩)
 obtain ⟨Hs,a,n,xs,ws,rfl,sm,na,ha,r,⟨d,rfl,ok⟩,q⟩:=h;obtain ⟨v1,rr,rfl,p1,p2⟩:=reps_cons.mp r;cases reps_nil.mp p2;have hlim:lim=1000000:=rfl;have ten:=ok.ten;have rs0:RS Hs H Hs H _ _:=jR (N:=["row","parts","hues","free","found","k","name","same","pick"]) (xs:=[.op λ_ v=>v = .ref a,d.pv]) (vs:=[.ref a,v1]) sm (.cons (rep_op.mpr ⟨Hs,.refl _,rfl⟩) (.one p1));have e1:b8 2 (x9 zY (q0 (g8 [none] [0] (y7 (x8 j3 (q9 1) (dC (.int 1)))) (j9 0) g9 (f6 (q0 (x8 j3 (q9 0) (dC (.int 0))) (q0 (x8 j3 (q9 0) (dC (.int 1))) x6)))) x6)) [.sh (.op λ_ v=>v = .ref a),.sh d.pv,.no,.no,.no,.no,.no,.no,.no]=some (.nx [.sh (.op λ_ v=>v = .ref a),.sh d.pv,.sh (.fk (keysOf d.cls) (d.cls.map λc=> .at (.int c.hue))),.no,.no,.no,.no,.no,.no]):=by
  refine t9 (z6 (j8 (f9 Cl.pv (λc=>PV.tup [.at (.str c.name),.at (.int c.hue)]) d.cls (zv (j6 rfl rfl rfl)) rfl (by omega) λc _=>⟨_,rfl,xP (j8 (j6 rfl rfl rfl) (j8 (j6 rfl rfl rfl) rfl)) l2⟩) rfl) ?_);show (zG (d.cls.map λc=>PV.tup [.at (.str c.name),.at (.int c.hue)])).bind _=_;have q1:(d.cls.map λc=>((.inr c.name:z9),PV.at (.int c.hue))).map (·.1)=keysOf d.cls:=by rw [yx];rfl
  have q2:(d.cls.map λc=>((.inr c.name:z9),PV.at (.int c.hue))).map (·.2)=d.cls.map λc=>PV.at (.int c.hue):=by rw [yx];rfl
  rw [VD,yE,q1,q2];exact if_pos ⟨keyN ok.nd,by rw [yZ];omega⟩
 have e2:jC 3 (g8 [none] [0] (y7 (x8 j3 (q9 1) (dC (.int 1)))) (j9 0) g9 (x8 j3 (q9 0) (dC (.int 0)))) [.sh (.op λ_ v=>v = .ref a),.sh d.pv,.sh (.fk (keysOf d.cls) (d.cls.map λc=> .at (.int c.hue))),.no,.no,.no,.no,.no,.no]=some (.nx [.sh (.op λ_ v=>v = .ref a),.sh d.pv,.sh (.fk (keysOf d.cls) (d.cls.map λc=> .at (.int c.hue))),.ow (.lst (d.cls.map λc=> .at (.str c.name))),.no,.no,.no,.no,.no]) :=
  Qy (f9 Cl.pv (λc=>PV.at (.str c.name)) d.cls (zv (j6 rfl rfl rfl)) rfl (by omega) λc _=>⟨_,rfl,j6 rfl rfl rfl⟩)
 have e3:jC 4 (xr x6) [.sh (.op λ_ v=>v = .ref a),.sh d.pv,.sh (.fk (keysOf d.cls) (d.cls.map λc=> .at (.int c.hue))),.ow (.lst (d.cls.map λc=> .at (.str c.name))),.no,.no,.no,.no,.no]=some (.nx [.sh (.op λ_ v=>v = .ref a),.sh d.pv,.sh (.fk (keysOf d.cls) (d.cls.map λc=> .at (.int c.hue))),.ow (.lst (d.cls.map λc=> .at (.str c.name))),.ow (.lst []),.no,.no,.no,.no]):=Qy (Qv rfl l0);refine seqS e1 rs0 λHs1 H1 σ1 r1=>seqS e2 r1 λHs2 H2 σ2 r2=>seqS e3 r2 λHs3 H3 σ3 r3=>?_;clear r1 r2 e1 e2 e3 rs0;obtain ⟨w0,g0,c0⟩:=r3.sh 0 _ rfl;obtain ⟨_,_,rfl⟩:=rep_op.mp c0;obtain ⟨w1,g1,c1⟩:=r3.sh 1 _ rfl;obtain ⟨w2,g2,c2⟩:=r3.sh 2 _ rfl;obtain ⟨hu,oo,kvs,rfl,hk,k1,k2⟩:=rep_fk.mp c2;obtain ⟨fr,g3,n3,s3,fv,hf,rf⟩:=r3.ow 3 _ rfl;obtain ⟨F0,g4,n4,s4,ov,hF,rF⟩:=r3.ow 4 _ rfl;cases reps_nil.mp rF;have ffr:fr≠F0:=λz=>by
  subst z;exact absurd (r3.nd 3 4 _ _ fr rfl rfl g3 g4) (by decide)
 have efv:fv=o9 d.cls:=by
  have:Reps Hs3 ((o9 d.cls).map PV.at) fv:=by rw [<- Bh];unfold y3;rw [yx];exact rf
  exact this.ats
 subst efv;have a3:H3 a=some (.lst [.int n]):=r3.ext.s2 _ _ ha;have sa:Hs3 a=none:=r3.ext.s4 a (by rw [ha];exact λz=>nomatch z) na;have anf:a≠fr:=λz=>by rw [<- z,ha] at n3;cases n3
 have anF:a≠F0:=λz=>by rw [<- z,ha] at n4;cases n4
 have ekv:kvs=d.cls.map λc=>((Sum.inr c.name:z9),V.int c.hue):=by
  have k3:kvs.map (·.2)=d.cls.map λc=>V.int c.hue:=by
   have:Reps Hs3 ((d.cls.map λc=>V.int c.hue).map PV.at) (kvs.map (·.2)):=by rw [yx];exact k2
   exact this.ats
  exact KG k1 k3
 have T0:TI H3 a fr F0 H3 n d.cls [] []:=⟨a3,hf,hF,rfl,(λi b t z=>by simp at z),by simp [anf,anF,ffr],(λ_ z=>nomatch z),λ_ _ _ _ _ e=>e⟩;obtain ⟨x0,x1,x2,x3,x4,s5,s6,s7,s8,rfl⟩:=nine r3.len;obtain rfl:x0=some (.ref a):=Option.some.inj g0;obtain rfl:x1=some w1:=Option.some.inj g1;obtain rfl:x2=some (.ref hu):=Option.some.inj g2;obtain rfl:x3=some (.ref fr):=Option.some.inj g3;obtain rfl:x4=some (.ref F0):=Option.some.inj g4;show tFor (vo (i0 (tCB (jr K) (i0 (qb 3) i7)) i7)) (qE 5) _ _ [some (.ref a),some w1,some (.ref hu),some (.ref fr),some (.ref F0),s5,s6,s7,s8] _;refine Zg (K:=K) (i:=3) (p:=fr) (xs:=o9 d.cls) (σ:=[some (.ref a),some w1,some (.ref hu),some (.ref fr),some (.ref F0),s5,s6,s7,s8]) rfl (SqL.of hf) (by rw [QY];omega) ?_;rw [QY];have hua:hu≠a:=λz=>by rw [z,sa] at hk;cases hk
 have huf:hu≠fr:=λz=>by rw [z,s3] at hk;cases hk
 have huF:hu≠F0:=λz=>by rw [z,s4] at hk;cases hk
 have BT:=Qf;refine Qz (λi σ H2=>∃(n:Int)(free:List Cl)(as:List Addr)(T:List (List Cl))(s5 s6 s7 s8:Option V),σ=[some (.ref a),some w1,some (.ref hu),some (.ref fr),some (.ref F0),s5,s6,s7,s8]/\TI H3 a fr F0 H2 n free as T/\free.length+i=d.cls.length/\(T.flatten++free).Perm d.cls/\∀ t∈T,Tray t) ⟨n,d.cls,[],[],_,_,_,_,rfl,T0,rfl,.refl _,(λ_ z=>nomatch z)⟩ ?_ ?_
 ·rintro i σ H2 hi ⟨n2,free,as,T,s5,s6,s7,s8,rfl,X,fl,pm,tr⟩;have hfl:0<free.length:=by omega
  have tl:T.length<=10:=by have:=Jx λt ht=>(tr t ht).ne;have:=pm.length_eq;rw [yQ] at this;omega
  have c0:0<=n2 % (free.length:Int):=yd _ (by omega);have c1:n2 % (free.length:Int)<(free.length:Int):=yk _ (by omega);obtain ⟨j,hj⟩:=yj c0;have jl:j<free.length:=by omega
  refine ⟨_,rfl,Yq X.fre,VM (m:=(free.length:Int)) rfl X.row (λ{R} z=>VL (K:=K) (i:=3) rfl X.fre (by rw [QY];exact z)) (vg (by omega) (by omega)) ?_⟩;have X1:=X.setRow (m:=n2 / (free.length:Int));refine ⟨fr,o9 free,_,j,.str free[j].name,rfl,rfl,X1.fre,by omega,by omega,?_,?_,?_⟩
  ·rw [hj,PySem.StrLaws.seqIndex_nonneg (by omega) (by rw [QY];omega),uH]
  ·unfold o9;rw [yP,yY jl];rfl
  have X2:=X1.setFre (fre2:=free.eraseIdx j);rw [show (o9 free).eraseIdx j=o9 (free.eraseIdx j) from Jt _ _ _];generalize j4 (j4 H2 a (.lst [.int (n2 / (free.length:Int))])) fr (.lst (o9 (free.eraseIdx j)))=Ha at X2 ⊢;clear X X1;have pe:=Vw jl;generalize hc:free[j]=c at pe ⊢;have cm:c∈d.cls:=pm.mem_iff.mp (yr _ (hc▸yt jl));have lf:(free.eraseIdx j).length+(i+1)=d.cls.length:=by rw [List.length_eraseIdx_of_lt jl];omega
  have pm2:(T.flatten++c::free.eraseIdx j).Perm d.cls:=(pe.append_left _).trans pm;have hd:Rd Ha hu (.dK kvs):= .inr ⟨oo,X2.kp hu _ hua huf huF (r3.ext.s3 _ _ hk)⟩;have tm:∀ t∈T,∀ e∈t,e∈d.cls:=λt ht e he=>pm.mem_iff.mp (uX _ (ub.mpr ⟨t,ht,he⟩));have al:(as.map V.ref).length<=10:=by rw [yZ,X2.len];exact tl
  refine ⟨_,rfl,F0,rfl,⟨_,SqL.of X2.top⟩,Jk (xs:=as.map V.ref) (λi ys H=>H=Ha/\ys.length<=i/\∀ y∈ys,∃(k:Nat)(b:Addr)(t:List Cl),as[k]?=some b/\T[k]?=some t/\y = .ref b/\∀ e∈t,e.hue=c.hue) ⟨rfl,yU _,(λ_ z=>nomatch z)⟩ (λi ys H hi h=>qW (by have:=h.2.1;omega)) (λi ys H _ h=>h.1▸SqL.of X2.top) ?_ ?_⟩
  ·rintro k x ys _ R hx ⟨rfl,hl,hy⟩ hR;rw [yP] at hx;obtain ⟨b,hb,rfl⟩:=yJ.mp hx;obtain ⟨kl,_⟩:=yL.mp hb;have kT:k<T.length:=by rw [<- X2.len];exact kl
   have ht:=yY kT;generalize T[k]=t at ht;have mt:=yA ht;have Tt:=tr t mt;have hH:=X2.tr k b t hb ht;obtain ⟨e0,t',rfl⟩:=uB Tt.ne;have em:e0∈d.cls:=tm _ mt e0 yT;refine ⟨Wk.one rfl,⟨_,rfl,⟨_,rfl,.inl ⟨b,o9 (e0::t'),0,.str e0.name,rfl,rfl,SqL.of hH,xq (j:=0) (show (o9 (e0::t'))[0]?=_ from rfl),⟨hu,.int e0.hue,rfl,.inl ⟨kvs,.inr e0.name,hd,rfl,by rw [ekv];exact (Km ok.nd em).symm⟩,⟨_,rfl,⟨_,rfl,⟨hu,.int c.hue,rfl,.inl ⟨kvs,.inr c.name,hd,rfl,by rw [ekv];exact (Km ok.nd cm).symm⟩,⟨i5 (.int e0.hue) (.int c.hue),.inl ⟨rfl,rfl,rfl⟩,⟨_,rfl,?_⟩⟩⟩⟩⟩⟩⟩⟩⟩⟩;have ev:i5 (.int e0.hue) (.int c.hue)=decide ((e0.hue:Int)=c.hue):=rfl;show (if i5 (.int e0.hue) (.int c.hue)=true then _ else _);rw [ev];by_cases he:(e0.hue:Int)=c.hue
   ·rw [if_pos (yy he)];refine ⟨_,rfl,hR _ _ ⟨rfl,by rw [yQ];simp;omega,λy hm=>?_⟩⟩;rcases yo.mp hm with hm|hm
    ·exact hy y hm
    ·exact ⟨k,b,_,hb,ht,yK.mp hm,λe h=>by have:=Tt.one e h e0 yT;omega⟩
   ·rw [if_neg (by rw [yB he];exact yR)];exact hR _ _ ⟨rfl,by omega,hy⟩
  rintro ys Ha ⟨rfl,hl,hy⟩ S hS;have X3:=X2.lay (o:= .lst ys) hS;have hSl:j4 Ha S (.lst ys) S=some (.lst ys):=y9;have Sa:S≠a:=λz=>by rw [z,X2.row] at hS;cases hS
  generalize j4 Ha S (.lst ys)=Hb at X3 hSl ⊢;clear X2 hd hS;refine VM (m:=(ys.length:Int)+1) rfl X3.row (λ{R} z=>BX (K:=K) (i:=7) rfl hSl z) (vg (by omega) (by omega)) ?_;generalize n2 / (free.length:Int)=n3 at X3 ⊢;have X4:=X3.setRow (m:=n3 / ((ys.length:Int)+1));have d0:0<=n3 % ((ys.length:Int)+1):=yd _ (by omega);have d1:n3 % ((ys.length:Int)+1)<(ys.length:Int)+1:=yk _ (by omega);obtain ⟨k,hk2⟩:=yj d0;rw [hk2];have hS2:j4 Hb a (.lst [.int (n3 / ((ys.length:Int)+1))]) S=some (.lst ys):=by rw [z5 Sa];exact hSl
  generalize n3 / ((ys.length:Int)+1)=n4 at X4 hS2 ⊢;generalize j4 Hb a (.lst [.int n4])=Hc at X4 hS2 ⊢;clear X3 hSl;refine ⟨_,rfl,VL (K:=K) (i:=7) rfl hS2 ⟨_,_,rfl,rfl,⟨_,rfl,?_⟩⟩⟩;by_cases hp:(k:Int)<(ys.length:Int)
  ·refine Eq.mpr (if_pos (yy hp)) ?_;have kl:k<ys.length:=by omega
   obtain ⟨i2,b,t,hb,ht,ey,hh⟩:=hy ys[k] (yt kl);have mt:=yA ht;have tl2:(o9 t).length<sizeLine:=QE (by
    have:=Jw mt;have:=pm.length_eq;rw [yQ] at this;rw [QY];omega)
   have hH:=X4.tr i2 b t hb ht;refine ⟨_,rfl,_,rfl,.inl ⟨S,ys,(k:Int),.ref b,rfl,rfl,SqL.of hS2,xq (by rw [yY kl,ey]),Yq hH,_,rfl,b,o9 t,_,rfl,rfl,hH,tl2,?_⟩⟩;have X5:=X4.app (c:=c) hb ht;rw [show o9 t++[V.str c.name]=o9 (t++[c]) by unfold o9;rw [yw];rfl];refine ⟨n4,free.eraseIdx j,as,T.set i2 (t++[c]),_,_,_,_,rfl,X5,lf,?_,λu hu2=>?_⟩
   ·refine ((Jz ht).append_right _).trans (List.Perm.trans ?_ pm2);exact uc.symm
   ·rcases List.mem_or_eq_of_mem_set hu2 with h|rfl
    ·exact tr u h
    ·refine ⟨by simp,λx hx e he=>?_⟩;have hx':x.hue=c.hue:=by
      rcases yo.mp hx with h|h
      ·exact hh x h
      ·rw [yK.mp h]
     have he':e.hue=c.hue:=by
      rcases yo.mp he with h|h
      ·exact hh e h
      ·rw [yK.mp h]
     rw [hx',he']
  ·refine Eq.mpr (if_neg (by rw [yB hp];exact yR)) ?_;have al2:(as.map V.ref).length=as.length:=yZ _;refine ⟨_,rfl,Yq X4.top,VM (m:=((as.map V.ref).length:Int)+1) rfl X4.row (λ{R} z=>BX (K:=K) (i:=4) rfl X4.top z) (vg (by omega) (by omega)) ?_⟩;have X5:=X4.setRow (m:=n4 / (((as.map V.ref).length:Int)+1));have f0:0<=n4 % (((as.map V.ref).length:Int)+1):=yd _ (by omega);have f1:n4 % (((as.map V.ref).length:Int)+1)<((as.map V.ref).length:Int)+1:=yk _ (by omega);obtain ⟨z,hz⟩:=yj f0;rw [hz];generalize n4 / (((as.map V.ref).length:Int)+1)=n5 at X5 ⊢;generalize j4 Hc a (.lst [.int n5])=Hd at X5 ⊢;clear X4 hS2;refine ⟨_,rfl,(by show 1<=sizeLine;exact qW l1),λp hp2=>⟨F0,as.map V.ref,(z:Int),.ref p,rfl,rfl,?_,by omega,by omega,by omega,?_⟩⟩
   ·exact (X5.lay hp2).top
   have h3p:H3 p=none:=by
    cases hq:H3 p with
    |none=>rfl
    |some o =>
     by_cases h1:p=a
     ·rw [h1,X5.row] at hp2;cases hp2
     ·by_cases h2:p=fr
      ·rw [h2,X5.fre] at hp2;cases hp2
      ·by_cases h3:p=F0
       ·rw [h3,X5.top] at hp2;cases hp2
       ·rw [X5.kp p o h1 h2 h3 hq] at hp2;cases hp2
   have X6:=X5.ins hp2 h3p (c:=c) (j:=z) (by omega);rw [uH];rw [show (as.map V.ref).take z++V.ref p::(as.map V.ref).drop z=(as.take z++p::as.drop z).map V.ref by rw [yw,yI,List.map_take,List.map_drop]];refine ⟨n5,free.eraseIdx j,_,_,_,_,_,_,rfl,X6,lf,?_,λu hu2=>?_⟩
   ·exact ((Mq T z c).append_right _).trans (uc.symm.trans pm2)
   ·rcases yo.mp hu2 with h|h
    ·exact tr u (List.mem_of_mem_take h)
    ·rcases yM.mp h with rfl|h
     ·exact ⟨by simp,λx hx e he=>by rw [yK.mp hx,yK.mp he]⟩
     ·exact tr u (List.mem_of_mem_drop h)
 ·rintro σ H2 ⟨n2,free,as,T,s5,s6,s7,s8,rfl,X,fl,pm,tr⟩;have f0:free=[]:=List.eq_nil_of_length_eq_zero (by omega);subst f0;rw [yn] at pm;have nn:∀ b,b=F0∨b∈as->H b=none:=λb hb=>by
   rcases hb with rfl|hb
   ·exact n4
   ·have:=X.new b hb;cases z:H b with
    |none=>rfl
    |some o=>rw [r3.ext.s2 _ _ z] at this;cases this
  have sn:∀ b,b=F0∨b∈as->Hs3 b=none:=λb hb=>by
   rcases hb with rfl|hb
   ·exact s4
   ·have:=X.new b hb;cases z:Hs3 b with
    |none=>rfl
    |some o=>rw [r3.ext.s3 _ _ z] at this;cases this
  have sm3:Same Hs3 H2:=λb o z=>X.kp b o (λy=>by rw [y,sa] at z;cases z) (λy=>by rw [y,s3] at z;cases z) (λy=>by rw [y,s4] at z;cases z) (r3.ext.s3 _ _ z)
  open Classical in
  let Hs':Hp:=λb=>if b=F0∨b∈as then H2 b else Hs3 b
  have hin:∀ b,(b=F0∨b∈as)->Hs' b=H2 b:=λb hb=>if_pos hb;have hout:∀ b,¬ (b=F0∨b∈as)->Hs' b=Hs3 b:=λb hb=>if_neg hb
  clear_value Hs'
  have ao:¬ (a=F0∨a∈as):=λy=>by rw [nn a y] at ha;cases ha
  refine ⟨_,rfl,q (.lst (T.map w4)) (.ref F0) n2 Hs' H2 ⟨d,T,rfl,rfl,pm,tr⟩ ⟨λb o z=>?_,λb o z nb=>?_,λb o z=>?_,λb hb z=>?_⟩ (by rw [hout a ao];exact sa) X.row (rep_lst.mpr ⟨F0,as.map V.ref,rfl,by rw [hin F0 (.inl rfl)];exact X.top,?_⟩)⟩
  ·have z1:=r3.ext.s1 _ _ z;rw [hout b (λy=>by rw [sn b y] at z1;cases z1)];exact z1
  ·have z1:=r3.ext.s2 _ _ z;exact X.kp b o nb (λy=>by rw [y,n3] at z;cases z) (λy=>by rw [y,n4] at z;cases z) z1
  ·by_cases hb:b=F0∨b∈as
   ·rw [hin b hb] at z;exact z
   ·rw [hout b hb] at z;exact sm3 _ _ z
  ·rw [hout b (λy=>hb (nn b y))];exact r3.ext.s4 b hb z
  ·have go:∀(as2:List Addr)(T2:List (List Cl)),as2.length=T2.length->(∀(i:Nat)(b:Addr)(t:List Cl),as2[i]?=some b->T2[i]?=some t->Hs' b=some (.lst (o9 t)))->Reps Hs' (T2.map w4) (as2.map V.ref):=by
    intro as2
    induction as2 with
    |nil =>
     intro T2 hl _;cases T2 with
     |nil=>exact .nil
     |cons _ _=>cases hl
    |cons b as2 ih =>
     intro T2 hl hr;cases T2 with
     |nil=>cases hl
     |cons t T2=>refine .cons (rep_lst.mpr ⟨b,o9 t,rfl,hr 0 b t rfl rfl,?_⟩) (ih T2 (by simpa using hl) λi e u he hu=>hr (i+1) e u he hu);rw [Bh];exact Reps.ofAts _
   exact go as T X.len λi b t hb ht=>by rw [hin b (.inr (yA hb))];exact X.tr i b t hb ht
section
variable {C:Addr}{d:Dr}
theorem Qx {f:Str}{ns:List Str}(h1:a ε=some y)(h0:ε[0]?=some (.ow (.ob C ns xs)))(hf:f∉ns)(hl:ns.length<1000):zQ C f a ε=some (.nx (ε.set 0 (.ow (.ob C (ns++[f]) (xs++[y]))))):=by unfold zQ;rw [h1,yE,h0];exact if_pos ⟨rfl,hf,hl⟩
theorem Kb {nm:Str}{m:List PV->Option PV}{i:Nat}{as:MA}{ns:List Str}{fs:List PV}(h0:ε[i]?=some (.ow (.ob C ns fs)))(hn:nm∉ns)(k:as ε=some xs)(e:m (.ob C ns fs::xs)=some (.at u)):wn C nm m i as ε=some (.at u):=by unfold wn;rw [h0];show (if C=C/\nm∉ns then _ else _)=_;rw [if_pos ⟨rfl,hn⟩,k,yE,e];rfl
theorem Ch (ok:d.Ok):jo C [.ob C ["least"] [c7 d.low]]=some (.at (.int d.h)):=by have G:=jF ok.rin;refine m7 rfl (p8 (j6 (z6 (j8 (wx rfl rfl) rfl) rfl) rfl ?_));show some (PV.at (.int (((d.low.map qB).length:Int)-1)))=_;rw [yZ,show d.low.length=d.h+1 from G.len,show ((d.h+1:Nat):Int)-1=(d.h:Int) by omega]
theorem BE:∀ cs:List Cl,zG (cs.map λc=>PV.tup [.at (.str c.name),c.pv])=some (cs.map λc=>((.inr c.name:z9),c.pv))
 |[]=>rfl
 |c::cs=>by
  show Option.bind (some (Sum.inr c.name)) (λkk=>(zG (cs.map λc=>PV.tup [.at (.str c.name),c.pv])).map ((kk,c.pv)::·))=_;rw [yE,BE cs];rfl
theorem LC (h:(cs.map Cl.name).Nodup):(keysOf cs).Nodup:=by
 induction cs with
 |nil=>exact ug
 |cons c cs ih=>rw [yI] at h;have h':=yu.mp h;refine yu.mpr ⟨λz=>?_,ih h'.2⟩;obtain ⟨y,hy,e⟩:=yF.mp z;injection e with e;exact h'.1 (yF.mpr ⟨y,hy,e⟩)
theorem Iu (ok:d.Ok):wH C [c7 d.rss,.lst (d.cls.map Cl.pv),.at (.int d.last),.at (.int d.time)]=some (d.ob C):=by
 have hlim:lim=1000000:=rfl;have ten:=ok.ten;have glen:=ok.rin.len;have h4:=ok.h4;have cp:∀(s0 s2 s3 s4:MSlot),g8 [none] [0] (y7 (q8 1)) (j9 0) g9 (x9 vF (q0 (q9 0) x6)) [s0,.sh (c7 d.rss),s2,s3,s4]=some (c7 d.rss):=λs0 s2 s3 s4 =>
  f9 qB qB d.rss rfl rfl (by omega) λr _=>⟨_,rfl,rfl⟩
 have dk:∀(s0 s1 s3 s4:MSlot),x9 zY (q0 (g8 [none] [0] (y7 (q8 2)) (j9 0) g9 (f6 (q0 (x9 xU (q0 (q8 0) x6)) (q0 (q8 0) x6)))) x6) [s0,s1,.sh (.lst (d.cls.map Cl.pv)),s3,s4]=some (.fk (keysOf d.cls) (d.cls.map Cl.pv)):=λs0 s1 s3 s4=>by
  refine z6 (j8 (f9 Cl.pv (λc=>PV.tup [.at (.str c.name),c.pv]) d.cls rfl rfl (by omega) λc _=>⟨_,rfl,xP (j8 (z6 rfl rfl) (j8 rfl rfl)) l2⟩) rfl) ?_;show (zG (d.cls.map λc=>PV.tup [.at (.str c.name),c.pv])).bind _=_;have k1:(d.cls.map λc=>((.inr c.name:z9),c.pv)).map (·.1)=keysOf d.cls:=by rw [yx];rfl
  have k2:(d.cls.map λc=>((.inr c.name:z9),c.pv)).map (·.2)=d.cls.map Cl.pv:=by rw [yx];rfl
  rw [BE,yE,k1,k2];exact if_pos ⟨LC ok.nd,by rw [yZ];omega⟩
 have run:XD C [.ow (.ob C [] []),.sh (c7 d.rss),.sh (.lst (d.cls.map Cl.pv)),.sh (.at (.int d.last)),.sh (.at (.int d.time))]=some (.nx [.ow (d.ob C),.sh (c7 d.rss),.sh (.lst (d.cls.map Cl.pv)),.sh (.at (.int d.last)),.sh (.at (.int d.time))]) :=
  y0 (Qx (z6 rfl (IB ok.rin ok.h1 ok.h4)) rfl (by decide) (by decide)) (y0 (ww (z6 (j8 rfl (j8 rfl (j8 (Kb rfl (by decide) rfl (Ch ok)) rfl))) (Ii ok.l1 ok.l2 ok.t1)))
   (y0 (ww (z6 (j8 rfl (j8 (Kb rfl (by decide) rfl (Ch ok)) rfl)) (Ig ok.cl ok.nd ok.ten)))
   (y0 (Qx (cp _ _ _ _) rfl (by decide) (by decide)) (y0 (Qx (dk _ _ _ _) rfl (by decide) (by decide)) (y0 (Qx (y:= .at (.int d.last)) (f:="last") (ns:=["least","given","held"]) (GZ (p5 (v:=false) (j6 rfl rfl rfl)) rfl) rfl (by decide) (by decide)) (Qx (y:= .at (.int d.time)) (f:="time") (ns:=["least","given","held","last"]) (xs:=[c7 d.low,c7 d.rss,.fk (keysOf d.cls) (d.cls.map Cl.pv),.at (.int d.last)]) rfl rfl (by decide) (by decide)))))))
 unfold wH Qr;refine (if_pos rfl).trans ?_;show (XD C [.ow (.ob C [] []),.sh (c7 d.rss),.sh (.lst (d.cls.map Cl.pv)),.sh (.at (.int d.last)),.sh (.at (.int d.time))]).bind _=_;rw [run];rfl
end
section
variable {C:Addr}{d:Dr}
theorem LB (cs:List Cl):jE (keysOf cs)=some (cs.map Cl.name):=by
 induction cs with
 |nil=>rfl
 |cons c cs ih=>show (jE (keysOf cs)).map (c.name::·)=_;rw [ih];rfl
theorem Sw (ss:List Str):jT (y3 ss)=some ss:=by
 induction ss with
 |nil=>rfl
 |cons s ss ih=>show (jT (y3 ss)).map (s::·)=_;rw [ih];rfl
theorem Co (ok:d.Ok):vA C [d.ob C]=some (.lst (y3 (ju d.names))):=by refine xO rfl (p8 (z6 (j8 (wx rfl rfl) rfl) ?_));show (jE (keysOf d.cls)).bind _=_;rw [LB,yE,if_pos (by rw [yZ];have:=ok.ten;omega)];rfl
theorem Po {ss:List Str}(h:ss.Nodup):∀ i,i<=ss.length->r6 (λi=>(Sum.inr (ss.getD i ⟨#[]⟩):z9)) i=(ss.take i).map Sum.inr
 |0,_=>rfl
 |i+1,hi=>by
  have ih:=Po h i (by omega);have hl:i<ss.length:=by omega
  have eg:ss.getD i ⟨#[]⟩=ss[i]:=k7 hl;have hn:ss[i]∉ss.take i:=λz=>by
   have e:ss=ss.take i++ss[i]::ss.drop (i+1):=by rw [<- yc hl,um]
   rw [e] at h;exact (uG.mp h).2.2 _ z _ yT rfl
  unfold r6;rw [ih,eg,if_neg (λz=>hn (by
   obtain ⟨y,hy,e⟩:=yF.mp z;injection e with e;rw [<- e];exact hy)),List.take_add_one,yY hl,yw]
  rfl
theorem Na {ss:List Str}(h:ss.Nodup):JZ ss=ss.length:=by unfold JZ;rw [Po h _ (yU _),yZ,List.take_length]
theorem v_are (ok:d.Ok)(L:Lst d ns):QI C [d.ob C,w4 ns]=some (.at (.bl true)):=by
 have hlim:lim=1000000:=rfl;have l10:=L.len ok;have en:y3 (ns.map Cl.name)=(ns.map Cl.name).map λs=>PV.at (.str s):=rfl;refine m7 rfl (y0 (o5 (qh (qt (z6 rfl JH))) qu) (y0 (t9 (vn rfl (by decide) rfl (Co ok))) (p8 (ze (z6 (j8 (f9 (λs:Str=>PV.at (.str s)) (λ_=>PV.at (.bl true)) (ns.map Cl.name) rfl rfl (by rw [yZ];omega) λs hs=>⟨_,rfl,j6 rfl rfl ((Zd false s _).trans ?_)⟩) rfl) (vc _)) (j6 (y:= .at (.int (ns.length:Int))) (x:= .at (.int (ns.length:Int))) ?_ ?_ (HY rfl))))))
 ·obtain ⟨c,hc,rfl⟩:=yF.mp hs;have:c.name∈ju d.names:=(Yk d.names).mem_iff.mpr (yF.mpr ⟨c,L.sub c hc,rfl⟩);simp [this]
 ·show (jT (y3 (ns.map Cl.name))).bind _=_;rw [Sw,yE,if_pos (by rw [yZ];omega),Na L.nd,yZ]
 ·refine z6 rfl ?_;show some (PV.at (.int ((y3 (ns.map Cl.name)).length:Int)))=_;rw [xJ,yZ]
end
section
variable {α:Type}
def jP (d0:α)(ks:List (Int×Str))(xs:List α):List α:=(jS ks).map λi=>xs.getD i d0
theorem Yi {i:Nat}(h:i∈jS ks):i<ks.length:=yi.mp ((Xp ks).mem_iff.mp h)
theorem Rv (d0:α){xs:List α}(h:ks.length=xs.length):(jP d0 ks xs).Perm xs:=by have:=(Xp ks).map λi=>xs.getD i d0;rw [h,Vb] at this;exact this
theorem JC (f:α->β)(d0:α)(e0:β){xs:List α}{i:Nat}(h:i<xs.length):(xs.map f).getD i e0=f (xs.getD i d0):=by rw [yN,yN,yP,yY h];rfl
theorem Ru (f:α->β)(d0:α)(e0:β){xs:List α}(h:ks.length=xs.length):(jS ks).map (λi=>(xs.map f).getD i e0)=(jP d0 ks xs).map f:=by unfold jP;rw [yx];exact List.map_congr_left λi hi=>JC f d0 e0 (h▸Yi hi)
theorem Vz (d0:α)(key:α->Int×Str)(xs:List α):(jP d0 (xs.map key) xs).Pairwise λa b=>k8 (key b) (key a)=false:=by unfold jP;rw [List.pairwise_map];refine (Px (xs.map key)).imp_of_mem λ{a b} ha hb h=>?_;have la:=Yi ha;have lb:=Yi hb;rw [yZ] at la lb;unfold qL at h;rw [JC key d0 _ la,JC key d0 _ lb] at h;exact h
theorem KE {kb:PV->Option PV}(f:α->PV)(key:α->Int×Str):∀{xs:List α},(∀ x∈xs,kb (f x)=some (.tup [.at (.int (key x).1),.at (.str (key x).2)]))->vw kb (xs.map f)=some (xs.map key)
 |[],_=>rfl
 |x::xs,h=>by
  rw [yI];unfold vw;rw [h x yT,KE f key λy hy=>h y (yS _ hy)];rfl
theorem IK (d0:α){kb:PV->Option PV}(f:α->PV)(key:α->Int×Str){xs:List α}(h:∀ x∈xs,kb (f x)=some (.tup [.at (.int (key x).1),.at (.str (key x).2)]))(l:xs.length<64)(nd:(xs.map key).Nodup):Vq kb [.lst (xs.map f)]=some (.lst ((jP d0 (xs.map key) xs).map f)):=by show (vw kb (xs.map f)).bind _=_;rw [KE f key h,yE,if_pos ⟨by rw [yZ];exact l,nd⟩,Ru f d0 _ (yZ _)]
end
theorem Nm (f:α->β){l:List α}(h:(l.map f).Nodup):l.Nodup:=List.Pairwise.of_map f (λ_ _ h e=>h (congrArg f e)) h
theorem Nl {xs:List Cl}{g:Cl->Int}(nd:(xs.map Cl.name).Nodup):(xs.map λc=>(g c,c.name)).Nodup:=by refine Nm Prod.snd ?_;rw [yx];exact nd
def c0:Cl:=⟨"",0,0,0,0⟩
def qv (c:Cl):Int×Str:=(c.due,c.name)
theorem Ie {xs:List Cl}(nd:(xs.map Cl.name).Nodup)(l:xs.length<=10):Zk [.lst (xs.map Cl.pv)]=some (.lst ((jP c0 (xs.map qv) xs).map Cl.pv)) :=
 xO rfl (p8 (IK c0 Cl.pv qv (λc _=>xP (j8 (z6 rfl rfl) (j8 (z6 rfl rfl) rfl)) l2) (by omega) (Nl nd)))
theorem IH {xs:List Cl}(l:xs.length<=10):Zu [.lst (xs.map Cl.pv)]=some (.lst (y3 (xs.map Cl.name))):=by have hlim:lim=1000000:=rfl;refine xO rfl (p8 ((f9 Cl.pv (λc=>PV.at (.str c.name)) xs rfl rfl (by omega) λc _=>⟨_,rfl,z6 rfl rfl⟩).trans ?_));unfold y3;rw [yx];rfl
section
variable {C:Addr}{d:Dr}
def Dr.inH (d:Dr)(h:Nat):List Cl:=d.cls.filter λc=>decide (c.hue=h)
theorem Kr (ok:d.Ok):(d.inH h).length<=10:=yg (List.length_filter_le _ _) ok.ten
theorem MZ (hc:c∈d.inH h):c∈d.cls:=(uJ.mp hc).1
theorem MY (ok:d.Ok):((d.inH h).map Cl.name).Nodup:=ok.nd.sublist (List.filter_sublist.map _)
theorem Ik (ok:d.Ok)(h:Nat):QH C [d.ob C,.at (.int h)]=some (.lst ((d.inH h).map Cl.pv)):=by
 have hlim:lim=1000000:=rfl;have:=ok.ten;refine xO rfl (p8 (GU Cl.pv Cl.pv (λc=>decide (c.hue=h)) d.cls ?_ rfl (by omega) λc _=>⟨_,rfl,p5 (j6 (z6 rfl rfl) rfl ((vm _ _).trans ?_)),λ_=>rfl⟩))
 ·show (zr C "held" (q8 0) _).bind _=_;rw [wx rfl rfl];rfl
 ·rw [show decide ((c.hue:Int)=(h:Int))=decide (c.hue=h) by rw [decide_eq_decide];omega]
def Dr.dueR (d:Dr)(h:Nat):List Cl:=jP c0 ((d.inH h).map qv) (d.inH h)
theorem Qu (h:Nat):(d.dueR h).Perm (d.inH h):=Rv c0 (yZ _)
theorem Il (ok:d.Ok)(h:Nat):wG C [d.ob C,.at (.int h)]=some (.lst (y3 ((d.dueR h).map Cl.name))) :=
 xO rfl (p8 (z6 (j8 (z6 (j8 (vn rfl (by decide) rfl (Ik ok h)) rfl) (Ie (MY ok) (Kr ok))) rfl) (IH (by have:=(Qu (d:=d) h).length_eq;have:=Kr ok (h:=h);show (d.dueR h).length<=10;omega))))
end
theorem QZ (l:List Cl):y3 (l.map Cl.name)=l.map λc=>PV.at (.str c.name):=by unfold y3;rw [yx];rfl
theorem Vi :(y3 (ns.map Cl.name)).length=ns.length:=by rw [xJ,yZ]
theorem CT {xs:List α}{x:α}(h:xs.getLast?=some x):atI xs (-1)=some x:=by
 have hl:xs≠[]:=λz=>by rw [z] at h;cases h
 have hp:0<xs.length:=List.length_pos_iff.mpr hl;rw [List.getLast?_eq_getElem?] at h;unfold atI ixN;rw [if_neg (by decide),if_pos (by omega)];show xs[((-1:Int)+(xs.length:Int)).toNat]?=_;rw [show ((-1:Int)+(xs.length:Int)).toNat=xs.length-1 by omega];exact h
def v6:List Cl->Nat
 |[]=>0
 |c::_=>c.hue
def y6 (T:List (List Cl)):PV:= .lst (T.map w4)
section
variable {C:Addr}{d:Dr}{T:List (List Cl)}{t:List Cl}
theorem Trays.sub (x:Trays d T)(ht:t∈T):∀ c∈t,c∈d.cls:=λc hc=>x.perm.mem_iff.mp (ub.mpr ⟨t,ht,hc⟩)
theorem Trays.fl (x:Trays d T)(ok:d.Ok):T.flatten.length<=10:=by rw [x.perm.length_eq];exact ok.ten
theorem Trays.len (x:Trays d T)(ok:d.Ok):T.length<=10:=yg (Jx λt ht=>(x.each t ht).ne) (x.fl ok)
theorem Trays.tl (x:Trays d T)(ok:d.Ok)(ht:t∈T):t.length<=10:=yg (Jw ht) (x.fl ok)
theorem Trays.lst (x:Trays d T)(ok:d.Ok):Lst d T.flatten:=⟨λc h=>x.perm.mem_iff.mp h,(x.perm.map Cl.name).nodup_iff.mpr ok.nd⟩
theorem Ij (ok:d.Ok)(h:∀ c∈t,c∈d.cls)(hl:t.length<=10):QJ C [d.ob C,w4 t]=some (.lst (t.map Cl.pv)):=by have hlim:lim=1000000:=rfl;exact m7 rfl (p8 (f9 (λc:Cl=>PV.at (.str c.name)) Cl.pv t (by show some (y3 (t.map Cl.name))=_;rw [QZ]) rfl (by omega) λc hc=>⟨_,rfl,vn rfl (by decide) rfl (Cg ok (h c hc))⟩))
theorem ix0 (c:Cl)(t:List Cl):j3 (w4 (c::t)) (.at (.int 0))=some (.at (.str c.name)):=xq (xs:=y3 ((c::t).map Cl.name)) (j:=0) rfl
theorem Yw (ok:d.Ok)(h:∀ c∈t,c∈d.cls)(ne:t≠[]):jK C [d.ob C,w4 t]=some (.at (.int (v6 t))):=by
 cases t with
 |nil=>exact absurd rfl ne
 |cons c t=>exact m7 rfl (p8 (z6 (j8 (vn rfl (by decide) (j8 (j6 rfl rfl (ix0 c t)) rfl) (Cg ok (h c yT))) rfl) rfl))
theorem Tray.hue (x:Tray t):∀ c∈t,c.hue=v6 t:=λc hc=>by
 cases t with
 |nil=>cases hc
 |cons e t=>exact x.one c hc e yT
theorem v_one (ok:d.Ok)(h:∀ c∈t,c∈d.cls)(hl:t.length<=10)(x:Tray t):QN C [d.ob C,w4 t]=some (.at (.bl true)):=by have hlim:lim=1000000:=rfl;refine m7 rfl (p8 (z6 (j8 (f9 Cl.pv (λ_=>PV.at (.bl true)) t (zv (z6 rfl (Ij ok h hl))) rfl (by omega) λc hc=>⟨_,rfl,j6 (x:= .at (.int c.hue)) (z6 rfl rfl) (z6 rfl (Yw ok h x.ne)) ?_⟩) rfl) (vc _)));rw [x.hue c hc];exact (vm _ _).trans (by rw [yy rfl])
theorem JI (xs:List PV):o3 [.lst xs,.at (.ty "list")]=some (.at (.bl true)):=by unfold o3 tyP;rfl
theorem Iq (ok:d.Ok)(x:Trays d T):Zj [y6 T]=some (.at (.bl true)):=by have hlim:lim=1000000:=rfl;have tl:=x.len ok;refine m7 rfl (p8 (ze (z6 rfl (JI _)) (z6 (j8 (f9 w4 (λ_=>PV.at (.bl true)) T rfl rfl (by omega) λt ht=>⟨_,rfl,ze (z6 rfl (JI _)) (j6 (x:= .at (.int (t.length:Int))) (z6 rfl (by show some (PV.at (.int ((y3 (t.map Cl.name)).length:Int)))=_;rw [Vi])) rfl ?_)⟩) rfl) (vc _))));have:=List.length_pos_iff.mpr (x.each t ht).ne;show some (PV.at (.bl (decide ((0:Int)<(t.length:Int)))))=_;rw [yy (by omega)]
theorem II (ok:d.Ok)(L:Lst d ns)(p:ns.Perm d.cls):QO C [d.ob C,w4 ns]=some (.at (.bl true)):=by refine m7 rfl (p8 (ze (z6 rfl (v_are ok L)) (j6 (x:= .at (.int (ns.length:Int))) (y:= .at (.int (ns.length:Int))) (z6 rfl (by show some (PV.at (.int ((y3 (ns.map Cl.name)).length:Int)))=_;rw [Vi])) (z6 (j8 (vn rfl (by decide) rfl (Co ok)) rfl) ?_) ((vm _ _).trans (by rw [yy rfl])))));show some (PV.at (.int ((y3 (ju d.names)).length:Int)))=_;rw [xJ,(Yk _).length_eq,p.length_eq];unfold Dr.names;rw [yZ]
theorem KY:∀ T:List (List Cl),xT (T.map w4)=some (T.map λt=>y3 (t.map Cl.name))
 |[]=>rfl
 |t::T=>by
  show (xT (T.map w4)).map (y3 (t.map Cl.name)::·)=_;rw [KY T];rfl
theorem Kg (T:List (List Cl)):(T.map λt=>y3 (t.map Cl.name)).flatten=y3 (T.flatten.map Cl.name):=by unfold y3;rw [List.map_flatten,List.map_flatten,yx];rfl
theorem Yu (ok:d.Ok)(x:Trays d T):jp C [d.ob C,y6 T]=some (.at .non):=by have hlim:lim=1000000:=rfl;have tl:=x.len ok;have fl:=x.fl ok;refine XW rfl (y0 (o5 (qZ (qh (qt (z6 rfl (Iq ok x)))) (qh (qt (z6 (j8 rfl (j8 ((Mo rfl (KY T) ?_).trans (by rw [Kg];rfl)) rfl)) (II ok (x.lst ok) x.perm))))) qu) (o5 (qh (qt (z6 (j8 (f9 w4 (λ_=>PV.at (.bl true)) T rfl rfl (by omega) λt ht=>⟨_,rfl,z6 rfl (v_one ok (x.sub ht) (x.tl ok ht) (x.each t ht))⟩) rfl) (vc _)))) qu));rw [Kg,Vi];omega
def zf (s:Str)(t:List Cl):Bool:=decide (s∈t.map Cl.name)
def qz:List (List Cl)->Str->Option Nat
 |[],_=>none
 |t::T,s=>if zf s t=true then some 0 else (qz T s).map (·+1)
theorem BA {t:List Cl}{T:List (List Cl)}:qz (t::T) s=if zf s t=true then some 0 else (qz T s).map (·+1):=rfl
def plP:Option Nat->PV
 |some k=> .at (.int k)
 |none=> .at .non
theorem Xf {s:Str}:∀{T:List (List Cl)}{k:Nat},qz T s=some k->∃ t,T[k]?=some t/\s∈t.map Cl.name
 |[],k,h=>by cases h
 |t::T,k,h=>by
  unfold qz at h;split at h
  ·rename_i h1;cases h;exact ⟨t,rfl,uV h1⟩
  ·obtain ⟨j,hj,rfl⟩:=yJ.mp h;obtain ⟨u,h1,h2⟩:=Xf hj;exact ⟨u,by simpa using h1,h2⟩
theorem VC {s:Str}:∀{T:List (List Cl)}{t:List Cl},t∈T->s∈t.map Cl.name->∃ k,qz T s=some k
 |u::T,t,ht,hs=>by
  unfold qz;split
  ·exact ⟨0,rfl⟩
  ·rename_i h1;rcases yM.mp ht with rfl|ht
   ·exact absurd (yy hs) h1
   ·obtain ⟨k,hk⟩:=VC ht hs;exact ⟨k+1,by rw [hk];rfl⟩
abbrev plG:MG:=xu 2 (i8 (j9 2) (i8 (j9 3) xt))
abbrev plB:MS:=p7 (dT (x8 (pIn false) (q9 1) (q9 3))) (w9 (q8 2)) c9
theorem By {x0:PV}{s:Str}:∀{T:List (List Cl)}{k:Nat}{u v:MSlot},(∃ j,qz T s=some j/\r9 plG plB (qK k (T.map w4)) [.sh x0,.sh (.at (.str s)),u,v]=some (.rt (.at (.int ((k+j:Nat):Int)))))∨(qz T s=none/\∃ u' v',r9 plG plB (qK k (T.map w4)) [.sh x0,.sh (.at (.str s)),u,v]=some (.nx [.sh x0,.sh (.at (.str s)),u',v']))
 |[],k,u,v=> .inr ⟨rfl,u,v,rfl⟩
 |t::T,k,u,v=>by
  have c1:dT (x8 (pIn false) (q9 1) (q9 3)) [.sh x0,.sh (.at (.str s)),.sh (.at (.int k)),.sh (w4 t)]=some (zf s t):=p5 (j6 rfl rfl (Zd false s (t.map Cl.name)));cases h:zf s t with
  |true=>refine .inl ⟨0,by unfold qz;rw [h];rfl,?_⟩;have b1:plB [.sh x0,.sh (.at (.str s)),.sh (.at (.int k)),.sh (w4 t)]=some (.rt (.at (.int k))):=wy (c1.trans (by rw [h])) rfl;show Option.bind (plB [.sh x0,.sh (.at (.str s)),.sh (.at (.int k)),.sh (w4 t)]) _=_;rw [b1];rfl
  |false =>
   have b1:plB [.sh x0,.sh (.at (.str s)),.sh (.at (.int k)),.sh (w4 t)]=some (.nx [.sh x0,.sh (.at (.str s)),.sh (.at (.int k)),.sh (w4 t)]):=o5 (c1.trans (by rw [h])) rfl;have st:r9 plG plB (qK k ((t::T).map w4)) [.sh x0,.sh (.at (.str s)),u,v]=r9 plG plB (qK (k+1) (T.map w4)) [.sh x0,.sh (.at (.str s)),.sh (.at (.int k)),.sh (w4 t)]:=by show Option.bind (plB [.sh x0,.sh (.at (.str s)),.sh (.at (.int k)),.sh (w4 t)]) _=_;rw [b1];rfl
   have ep:qz (t::T) s=(qz T s).map (·+1):=by rw [BA,h];rfl
   rcases By (x0:=x0) (s:=s) (T:=T) (k:=k+1) (u:= .sh (.at (.int k))) (v:= .sh (w4 t)) with ⟨j,e1,e2⟩|⟨e1,u',v',e2⟩
   ·refine .inl ⟨j+1,by rw [ep,e1];rfl,?_⟩;rw [st,e2,show k+1+j=k+(j+1) by omega]
   ·exact .inr ⟨by rw [ep,e1];rfl,u',v',by rw [st,e2]⟩
theorem Cp :xw [y6 T,.at (.str s)]=some (plP (qz T s)):=by
 rcases By (x0:=y6 T) (s:=s) (T:=T) (k:=0) (u:= .no) (v:= .no) with ⟨j,e1,e2⟩|⟨e1,u',v',e2⟩
 ·rw [e1];refine m7 rfl ?_;show v9 (qJ (jB (q0 (q8 0) x6)) plG plB) _ _=_;have:qJ (jB (q0 (q8 0) x6)) plG plB [.sh (y6 T),.sh (.at (.str s)),.no,.no]=some (.rt (.at (.int ((0+j:Nat):Int)))):=xl (xs:=qK 0 (T.map w4)) rfl e2;unfold v9;show Option.bind (qJ (jB (q0 (q8 0) x6)) plG plB [.sh (y6 T),.sh (.at (.str s)),.no,.no]) _=_;rw [this,Nat.zero_add];rfl
 ·rw [e1];exact m7 rfl (y0 (xl (xs:=qK 0 (T.map w4)) rfl e2) rfl)
def m8 (m:Str×Int):PV:= .tup [.at (.str m.1),.at (.int m.2)]
def mvB (T:List (List Cl))(m:Str×Int):Bool:=match qz T m.1 with
 |none=>false
 |some k=>!decide ((k:Int)=m.2)&&(decide (0<=m.2/\m.2<T.length)&&decide (v6 (T.getD k [])=v6 (T.getD m.2.toNat [])))
theorem ZT {k:Nat}{t:List Cl}(h:T[k]?=some t):j3 (y6 T) (.at (.int (k:Int)))=some (w4 t):=xq (xs:=T.map w4) (by rw [yP,h];rfl)
theorem Iw (ok:d.Ok)(x:Trays d T):jG C [d.ob C,y6 T,m8 m]=some (.at (.bl (mvB T m))):=by
 obtain ⟨s,to⟩:=m;have e0:x9 xw (q0 (q8 1) (q0 (x8 j3 (q9 2) (dC (.int 0))) x6)) [.sh (d.ob C),.sh (y6 T),.sh (m8 (s,to)),.no,.no]=some (plP (qz T s)):=z6 (j8 rfl (j8 (j6 rfl rfl rfl) rfl)) Cp;unfold mvB;cases hp:qz T s with
 |none=>rw [hp] at e0;refine m7 rfl (y0 (t9 e0) (y0 (t9 (x:= .at (.int to)) (j6 rfl rfl rfl)) (Qw (wy (GG rfl) rfl))))
 |some k =>
  rw [hp] at e0;obtain ⟨t,ht,hs⟩:=Xf hp;have tl:=(yL.mp ht).1;have gk:T.getD k []=t:=by rw [yN,ht];rfl
  have en:dT (x8 vE (q9 3) (dC .non)) [.sh (d.ob C),.sh (y6 T),.sh (m8 (s,to)),.sh (.at (.int k)),.sh (.at (.int to))]=some false:=rfl;have ee:dT (x8 qx (q9 3) (q9 4)) [.sh (d.ob C),.sh (y6 T),.sh (m8 (s,to)),.sh (.at (.int k)),.sh (.at (.int to))]=some (decide ((k:Int)=to)):=p5 (j6 rfl rfl (vm _ _));have ec:dT (zq pLe pLt (dC (.int 0)) (q9 4) (x9 qp (q0 (q9 1) x6))) [.sh (d.ob C),.sh (y6 T),.sh (m8 (s,to)),.sh (.at (.int k)),.sh (.at (.int to))]=some (decide (0<=to/\to<T.length)):=by
   refine p5 ?_;show Option.bind (some (decide ((0:Int)<=to))) (λc=>if c=true then some (PV.at (.bl (decide (to<((T.map w4).length:Int))))) else some (.at (.bl false)))=_;rw [yZ];by_cases h:(0:Int)<=to
   ·rw [yy h,yE,if_pos rfl];have:decide (to<(T.length:Int))=decide (0<=to/\to<(T.length:Int)):=by simp [h]
    rw [this]
   ·rw [yB h,yE,if_neg yR];have:decide (0<=to/\to<(T.length:Int))=false:=by simp [h]
    rw [this]
  refine m7 rfl (y0 (t9 e0) (y0 (t9 (x:= .at (.int to)) (j6 rfl rfl rfl)) ?_));show v9 _ _ _=some (Out.rt (.at (.bl (!decide ((k:Int)=to)&&(decide (0<=to/\to<(T.length:Int))&&decide (v6 (T.getD k [])=v6 (T.getD to.toNat [])))))));by_cases h1:(k:Int)=to
  ·rw [yy h1] at ee ⊢;exact Qw (wy (Jn en (GG ee)) rfl)
  ·rw [yB h1] at ee ⊢;by_cases h2:0<=to/\to<T.length
   ·rw [yy h2] at ec ⊢;obtain ⟨j,rfl⟩:=yj h2.1;have jl:j<T.length:=by omega
    have hj:=yY jl;have gj:T.getD j []=T[j]:=by rw [yN,hj];rfl
    have mt:=yA ht;have mj:=yt jl;refine y0 (o5 (qZ en (qZ ee (qh ec))) rfl) (p8 (j6 (z6 (j8 rfl (j8 (j6 rfl rfl (ZT ht)) rfl)) (Yw ok (x.sub mt) (x.each t mt).ne)) (z6 (j8 rfl (j8 (j6 rfl rfl (ZT hj)) rfl)) (Yw ok (x.sub mj) (x.each _ mj).ne)) ?_));rw [vm];show _=some (PV.at (.bl (!false&&(true&&decide (v6 (T.getD k [])=v6 (T.getD ((j:Int)).toNat []))))));rw [uH,gk,gj];simp;omega
   ·rw [yB h2] at ec ⊢;exact Qw (wy (Jn en (Jn ee (DT ec))) rfl)
end
section
variable {C:Addr}{d:Dr}{T:List (List Cl)}{t:List Cl}{s:Str}{c:Cl}
def rm (s:Str)(t:List Cl):List Cl:=t.filter λe=>!decide (e.name=s)
def o6 (T:List (List Cl))(c:Cl)(to:Nat):List (List Cl):=((T.map (rm c.name)).set to ((T.map (rm c.name)).getD to []++[c])).filter λt=>!t.isEmpty
theorem Nn (a b:Str):pNe (.at (.str a)) (.at (.str b))=some (.at (.bl (!decide (a=b)))):=by show some (PV.at (.bl (!i5 (.str a) (.str b))))=_;have:i5 (.str a) (.str b)=decide (a=b):=rfl;rw [this]
theorem Pi (hl:t.length<=10):g8 [none,some 1] [0] (y7 (q8 0)) (j9 0) (dT (x8 pNe (q9 0) (q9 1))) (q8 0) [.sh (w4 t),.sh (.at (.str s))]=some (w4 (rm s t)):=by have hlim:lim=1000000:=rfl;refine (GU (λc:Cl=>PV.at (.str c.name)) (λc:Cl=>PV.at (.str c.name)) (λe=>!decide (e.name=s)) t (by show some (y3 (t.map Cl.name))=_;rw [QZ]) rfl (by omega) λc _=>⟨_,rfl,p5 (j6 rfl rfl (Nn _ _)),λ_=>rfl⟩).trans ?_;unfold w4 rm;rw [QZ]
theorem IQ (hl:t.length<=10):QV [w4 t,.at (.str s)]=some (w4 (rm s t)):=xO rfl (p8 (Pi hl))
abbrev nmL (T:List (List Cl)):List (List PV):=T.map λt=>y3 (t.map Cl.name)
theorem Vg (T:List (List Cl)):(nmL T).map PV.lst=T.map w4:=by rw [yx];rfl
theorem Vh (T:List (List Cl))(j:Nat):(nmL T).getD j []=y3 ((T.getD j []).map Cl.name):=by rw [yN,yN,yP];cases T[j]?<;>rfl
theorem Bg (T:List (List Cl))(j:Nat)(c:Cl):((nmL T).set j ((nmL T).getD j []++[.at (.str c.name)])).map PV.lst=(T.set j (T.getD j []++[c])).map w4:=by
 rw [List.map_set,List.map_set,Vg,Vh]
 congr 1
 unfold w4 y3;rw [yw,yw];rfl
theorem Xm (e:Cl)(h:e∈rm s t):e∈t/\e.name≠s:=by obtain ⟨h1,h2⟩:=uJ.mp h;exact ⟨h1,by simpa using h2⟩
theorem Pj:(rm s t).length<=t.length:=List.length_filter_le _ _
theorem Cn (ok:d.Ok)(x:Trays d T)(hto:to<T.length):jM [y6 T,m8 (c.name,(to:Int))]=some (y6 (o6 T c to)):=by
 have hlim:lim=1000000:=rfl;have tl:=x.len ok;have e1:=GX (n:=2) (cap:=[none,some 1]) (ts:=[0]) (it:=y7 (q8 0)) (g:=j9 0) (c:=g9) (f:=x9 QV (q0 (q8 0) (q0 (x8 j3 (q9 1) (dC (.int 0))) x6))) (k:=x8 j3 (q9 1) (dC (.int 1))) (x:=x8 j3 (q9 1) (dC (.int 0))) (ε:=[.sh (y6 T),.sh (m8 (c.name,(to:Int))),.no]) (xs:=T.map w4) (ls:=nmL (T.map (rm c.name))) (j:=to) (y:= .at (.str c.name)) rfl rfl (by rw [yZ];omega) (by show 2<3;decide)
  (by rw [Vg,yx];exact XJ w4 (λt=>w4 (rm c.name t)) T λt ht=>⟨_,rfl,z6 (j8 rfl (j8 (j6 rfl rfl rfl) rfl)) (IQ (x.tl ok ht))⟩) rfl rfl (by rw [yZ,yZ];exact hto) (by
   rw [Vh,xJ,yZ,yN,yP,yY hto];have:=Pj (s:=c.name) (t:=T[to]);have:=x.tl ok (yt hto);show (rm c.name T[to]).length<=lim;omega)
 rw [Bg] at e1;refine m7 rfl (y0 e1 (p8 ?_));have hl2:((T.map (rm c.name)).set to ((T.map (rm c.name)).getD to []++[c])).length=T.length:=by rw [ym,yZ]
 show vj [none] [0] (y7 (q9 2)) (j9 0) (t0 (q9 0)) (q8 0) _=some (y6 (o6 T c to));unfold y6 o6;generalize (T.map (rm c.name)).set to ((T.map (rm c.name)).getD to []++[c])=T2 at hl2 ⊢;refine GW (xs:=T2.map w4) rfl rfl (by rw [yZ];omega) ?_;refine XH w4 w4 (λt=>!t.isEmpty) T2 λt _=>⟨_,rfl,?_,λ_=>rfl⟩;show (some (w4 t)).bind pTru=_;show some (!(y3 (t.map Cl.name)).isEmpty)=_;cases t<;>rfl
theorem IE (ok:d.Ok)(x:Trays d T)(hto:to<T.length):QR [y6 T,.at (.str c.name),.at (.int (to:Int))]=some (y6 (o6 T c to)):=by
 have hlim:lim=1000000:=rfl;have tl:=x.len ok;have e1:=GX (n:=3) (cap:=[none,some 1]) (ts:=[0]) (it:=y7 (q8 0)) (g:=j9 0) (c:=g9) (f:=g8 [none,some 1] [0] (y7 (q8 0)) (j9 0) (dT (x8 pNe (q9 0) (q9 1))) (q8 0)) (k:=q8 2) (x:=q8 1) (ε:=[.sh (y6 T),.sh (.at (.str c.name)),.sh (.at (.int (to:Int))),.no]) (xs:=T.map w4) (ls:=nmL (T.map (rm c.name))) (j:=to) (y:= .at (.str c.name)) rfl rfl (by rw [yZ];omega) (by show 3<4;decide)
  (by rw [Vg,yx];exact XJ w4 (λt=>w4 (rm c.name t)) T λt ht=>⟨_,rfl,Pi (x.tl ok ht)⟩) rfl rfl (by rw [yZ,yZ];exact hto) (by
   rw [Vh,xJ,yZ,yN,yP,yY hto];have:=Pj (s:=c.name) (t:=T[to]);have:=x.tl ok (yt hto);show (rm c.name T[to]).length<=lim;omega)
 rw [Bg] at e1;refine m7 rfl (y0 e1 (p8 ?_));have hl2:((T.map (rm c.name)).set to ((T.map (rm c.name)).getD to []++[c])).length=T.length:=by rw [ym,yZ]
 show vj [none] [0] (y7 (q9 3)) (j9 0) (dT (x8 pGt (x9 qp (q0 (q9 0) x6)) (dC (.int 0)))) (q8 0) _=some (y6 (o6 T c to));unfold y6 o6;generalize (T.map (rm c.name)).set to ((T.map (rm c.name)).getD to []++[c])=T2 at hl2 ⊢;refine GW (xs:=T2.map w4) rfl rfl (by rw [yZ];omega) ?_;refine XH w4 w4 (λt=>!t.isEmpty) T2 λt _=>⟨_,rfl,p5 (j6 (z6 rfl rfl) rfl ?_),λ_=>rfl⟩;show some (PV.at (.bl (decide ((0:Int)<((y3 (t.map Cl.name)).length:Int)))))=_;cases t with
 |nil=>rfl
 |cons a t=>rw [yy (by rw [xJ,yZ,yG];omega)];rfl
theorem Jy {α:Type}:∀ T:List (List α),(T.filter λt=>!t.isEmpty).flatten=T.flatten
 |[]=>rfl
 |[]::T=>by rw [ue];exact Jy T
 |(a::t)::T=>by
  show ((a::t)::T.filter λt=>!t.isEmpty).flatten=_;rw [yp,yp,Jy T]
theorem Kh (s:Str):∀ T:List (List Cl),(T.map (rm s)).flatten=rm s T.flatten
 |[]=>rfl
 |t::T=>by
  rw [yI,yp,yp,Kh s T];unfold rm;rw [List.filter_append]
theorem ZO:∀{l:List Cl},(l.map Cl.name).Nodup->c∈l->(c::rm c.name l).Perm l
 |e::l,nd,hc=>by
  obtain ⟨h1,h2⟩:=yu.mp nd;by_cases he:e.name=c.name
  ·have ec:e=c:=by
    rcases yM.mp hc with z|z
    ·exact z.symm
    ·exact absurd (he▸yF.mpr ⟨c,z,rfl⟩) h1
   subst ec;have:rm e.name (e::l)=l:=by unfold rm;rw [ue,if_neg (by simp)];refine List.filter_eq_self.mpr λa ha=>?_;have:a.name≠e.name:=λz=>h1 (z▸yF.mpr ⟨a,ha,rfl⟩);simp [this]
   rw [this]
  ·have hc':c∈l:=by
    rcases yM.mp hc with z|z
    ·exact absurd (by rw [z]) he
    ·exact z
   have:rm c.name (e::l)=e::rm c.name l:=by unfold rm;rw [ue,if_pos (by simp [he])]
   rw [this];exact (List.Perm.swap e c _).trans ((ZO h2 hc').cons e)
theorem Trays.mov (ok:d.Ok)(x:Trays d T)(hc:c∈d.cls)(hto:to<T.length)(hh:c.hue=v6 (T.getD to [])):Trays d (o6 T c to):=by
 have hL:to<(T.map (rm c.name)).length:=by rw [yZ];exact hto
 have gt:T.getD to []=T[to]:=by rw [yN,yY hto];rfl
 have g1:(T.map (rm c.name))[to]?=some (rm c.name T[to]):=by rw [yP,yY hto];rfl
 have g2:(T.map (rm c.name)).getD to []=rm c.name T[to]:=by rw [yN,g1];rfl
 rw [gt] at hh;have mt:=yt hto;refine ⟨?_,λu hu=>?_⟩
 ·unfold o6;rw [Jy,g2];refine (Jz g1).trans ?_;rw [Kh];exact (ZO (x.lst ok).nd (x.perm.mem_iff.mpr hc)).trans x.perm
 ·unfold o6 at hu;rw [g2] at hu;obtain ⟨h1,h2⟩:=uJ.mp hu;refine ⟨(λz=>by rw [z] at h2;cases h2),?_⟩;rcases List.mem_or_eq_of_mem_set h1 with h|rfl
  ·obtain ⟨w,hw,rfl⟩:=yF.mp h;exact λa ha b hb=>(x.each w hw).one a (Xm a ha).1 b (Xm b hb).1
  ·have hu2:∀ a∈rm c.name T[to]++[c],a.hue=c.hue:=λa ha=>by
    rcases yo.mp ha with h|h
    ·rw [hh];exact (x.each _ mt).hue a (Xm a h).1
    ·rw [yK.mp h]
   exact λa ha b hb=>by rw [hu2 a ha,hu2 b hb]
end
def u9 (t:List Cl):Int:=(t.map Cl.len).sum
section
variable {C:Addr}{d:Dr}{T:List (List Cl)}{t:List Cl}
def Dr.trs (d:Dr):Int->Int->List (List Cl)->List (Int×Int)
 |_,_,[]=>[]
 |l,s,t::T=>(s+rin d.low l (v6 t),s+rin d.low l (v6 t)+u9 t)::d.trs (v6 t) (s+rin d.low l (v6 t)+u9 t) T
theorem Ce:∀{T:List (List Cl)}{l s:Int},(d.trs l s T).length=T.length
 |[],_,_=>rfl
 |_::T,_,_=>congrArg (·+1) (Ce (T:=T))
def rwT (r:Int×Int):PV:= .tup [.at (.int r.1),.at (.int r.2)]
theorem Kn (ok:d.Ok)(x:Trays d T)(ht:t∈T):v6 t<d.h:=by have X:=x.each t ht;obtain ⟨c,t',rfl⟩:=uB X.ne;exact (ok.cl c (x.sub ht c yT)).hu
theorem Jo (ok:d.Ok)(f:Cl->PV):zY [.lst (d.cls.map λc=>PV.tup [.at (.str c.name),f c])]=some (.fk (keysOf d.cls) (d.cls.map f)):=by
 have ten:=ok.ten;show (zG (d.cls.map λc=>PV.tup [.at (.str c.name),f c])).bind _=_;have q1:(d.cls.map λc=>((.inr c.name:z9),f c)).map (·.1)=keysOf d.cls:=by rw [yx];rfl
 have q2:(d.cls.map λc=>((.inr c.name:z9),f c)).map (·.2)=d.cls.map f:=by rw [yx];rfl
 rw [VD,yE,q1,q2];exact if_pos ⟨keyN ok.nd,by rw [yZ];omega⟩
abbrev eL (d:Dr)(T:List (List Cl))(a b:Int)(z:List PV)(s7 s8 s9:MSlot):ME:=[.sh d.pv,.sh (y6 T),.sh (c7 d.low),.sh (.fk (keysOf d.cls) (d.cls.map Cl.pv)),.sh (.at (.int a)),.sh (.at (.int b)),.ow (.lst z),s7,s8,s9]
theorem Cq (ok:d.Ok)(x:Trays d T):wJ [d.pv,y6 T]=some (.lst ((d.trs d.last d.time T).map rwT)):=by
 have hlim:lim=1000000:=rfl;have tl:=x.len ok;have ten:=ok.ten;obtain ⟨ε',e',rest⟩:=QG (g:=j9 7) (f:=v9 (b8 8 (x8 j3 (xD (q9 3) (x8 j3 (q9 7) (dC (.int 0)))) (dC (.int 1))))
  (v9 (b8 9 (x8 qo (q9 5) (x8 j3 (x8 j3 (q9 2) (q9 4)) (q9 8))))
  (v9 (b8 5 (x8 qo (q9 9) (x9 wV (q0 (g8 [none,some 3] [0] (y7 (q8 7)) (j9 0) g9 (x8 j3 (xD (q9 1) (q9 0)) (dC (.int 2)))) x6))))
  (v9 (vi 6 (f6 (q0 (q8 9) (q0 (q8 5) x6))))
  (b8 4 (q8 8)))))) w4
  (λl ε=>∃(la ti:Int)(done:List (Int×Int))(s7 s8 s9:MSlot),done++d.trs la ti l=d.trs d.last d.time T/\(∀ t∈l,t∈T)/\done.length+l.length=T.length/\-1<=la/\la<(d.h:Int)/\ε=eL d T la ti (done.map rwT) s7 s8 s9) (by
   rintro t l ε ⟨la,ti,done,s7,s8,s9,q1,q2,q3,q4,q5,rfl⟩;have ht:=q2 t yT;have hh:=Kn ok x ht;have sb:=x.sub ht;have l10:=x.tl ok ht;simp only [yG] at q3;have v1:x8 j3 (xD (q9 3) (x8 j3 (q9 7) (dC (.int 0)))) (dC (.int 1)) (eL d T la ti (done.map rwT) (.sh (w4 t)) s8 s9)=some (.at (.int (v6 t))):=by obtain ⟨c,t',rfl⟩:=uB (x.each t ht).ne;exact j6 (wv (k:= .inr c.name) rfl (j6 rfl rfl (ix0 c t')) rfl (vy Cl.pv ok.nd c (sb c yT))) rfl rfl
   obtain ⟨r,r1,r2⟩:=Tc (jF ok.rin) q4 q5 hh;have v3:∀(b:Int)(s8 s9:MSlot),g8 [none,some 3] [0] (y7 (q8 7)) (j9 0) g9 (x8 j3 (xD (q9 1) (q9 0)) (dC (.int 2))) (eL d T la b (done.map rwT) (.sh (w4 t)) s8 s9)=some (.lst (t.map λc=>PV.at (.int c.len))):=λb s8 s9 =>
    f9 (λc:Cl=>PV.at (.str c.name)) (λc=>PV.at (.int c.len)) t (by show some (y3 (t.map Cl.name))=_;rw [QZ]) rfl (by omega) λc hc=>⟨_,rfl,j6 (wv (k:= .inr c.name) rfl rfl rfl (vy Cl.pv ok.nd c (sb c hc))) rfl rfl⟩
   have v4:wV [.lst (t.map λc=>PV.at (.int c.len))]=some (.at (.int (u9 t))):=by
    have e:(t.map λc=>PV.at (.int c.len))=(t.map Cl.len).map λb=>PV.at (.int b):=by rw [yx];rfl
    rw [e,SA];rfl
   refine ⟨_,eL d T (v6 t) (ti+rin d.low la (v6 t)+u9 t) ((done++[(ti+rin d.low la (v6 t),ti+rin d.low la (v6 t)+u9 t)]).map rwT) (.sh (w4 t)) (.sh (.at (.int (v6 t)))) (.sh (.at (.int (ti+rin d.low la (v6 t))))),rfl,y0 (t9 v1) (y0 (t9 (x:= .at (.int (ti+rin d.low la (v6 t)))) (j6 rfl (j6 (j6 rfl rfl r1) rfl r2) rfl)) (y0 (t9 (x:= .at (.int (ti+rin d.low la (v6 t)+u9 t))) (j6 rfl (z6 (j8 (v3 _ _ _) rfl) v4) rfl)) (y0 (ε1:=eL d T la (ti+rin d.low la (v6 t)+u9 t) ((done++[(ti+rin d.low la (v6 t),ti+rin d.low la (v6 t)+u9 t)]).map rwT) (.sh (w4 t)) (.sh (.at (.int (v6 t)))) (.sh (.at (.int (ti+rin d.low la (v6 t)))))) ?_ (t9 rfl)))),(v6 t:Int),_,_,_,_,_,by rw [uZ];exact q1,λu hu=>q2 u (yS _ hu),by rw [yQ];simp;omega,by omega,by omega,rfl⟩;rw [yw];exact GT (xP rfl l2) rfl (by rw [yZ];omega)) T (eL d T d.last d.time [] .no .no .no) ⟨d.last,d.time,[],.no,.no,.no,rfl,λt h=>h,by simp,ok.l1,ok.l2,rfl⟩
 obtain ⟨la,ti,done,s7,s8,s9,q1,_,_,_,_,rfl⟩:=rest;have q2:done=d.trs d.last d.time T:=by have:done++[]=d.trs d.last d.time T:=q1;rwa [yn] at this
 subst q2;refine xO rfl (y0 (t9 (x:=c7 d.low) (z6 (j8 (j6 rfl rfl rfl) rfl) (IA ok.rin ok.h1 ok.h4))) (y0 (t9 (z6 (j8 (f9 Cl.pv (λc=>PV.tup [.at (.str c.name),c.pv]) d.cls (zv (j6 rfl rfl rfl)) rfl (by omega) λc _=>⟨_,rfl,xP (j8 (j6 rfl rfl rfl) (j8 rfl rfl)) l2⟩) rfl) (Jo ok Cl.pv))) (y0 (Mj (x:= .tup [.at (.int d.last),.at (.int d.time)]) (Mn (i:=2) (xs:=[c7 d.rss,.lst (d.cls.map Cl.pv),.at (.int d.last),.at (.int d.time)]) rfl rfl rfl ⟨by decide,by show 2<=4;decide⟩) rfl) (y0 (Qy (Qv rfl l0)) (y0 (xl rfl e') rfl)))))
def JO {α:Type}(a:α)(l:List α):α:=(a::l).getLast (by simp)
def GN (d:Dr)(T:List (List Cl)):Int:=(JO (0,d.time) (d.trs d.last d.time T)).2
theorem LI {f:α->PV}{a:α}{l:List α}:((a::l).map f).getLast?=some (f (JO a l)):=by rw [List.getLast?_map,List.getLast?_eq_some_getLast (by simp)];rfl
theorem Io (ok:d.Ok)(x:Trays d T):jJ [d.pv,y6 T]=some (.at (.int (GN d T))):=by have hlim:lim=1000000:=rfl;have tl:=x.len ok;have tr:=Ce (d:=d) (T:=T) (l:=d.last) (s:=d.time);refine m7 rfl (p8 (j6 (j6 (x:= .lst (((0,d.time)::d.trs d.last d.time T).map rwT)) (j6 (Qv (j8 (xP (j8 rfl (j8 (j6 rfl rfl rfl) rfl)) l2) rfl) l1) (z6 rfl (Cq ok x)) ((Vo (by rw [yZ];simp;omega)).trans rfl)) rfl (CT LI)) rfl rfl))
def wD (d:Dr)(T:List (List Cl)):List Int:=(T.zip (d.trs d.last d.time T)).flatMap λz=>z.1.map λc=>z.2.2-c.due
def Zf (l:List Int):PV:=if l=[] then .at .non else .at (.int (zX l))
theorem Mm {l:List Int}(h:a ε=some (.lst (l.map λb=>PV.at (.int b)))):XN a ε=some (Zf l):=by unfold XN Zf;rw [h];show (zR (l.map λb=>PV.at (.int b))).bind _=_;rw [JG];show (if l=[] then _ else _)=_;split<;>rfl
theorem zip_a:∀(T:List (List Cl))(rs:List (Int×Int)),o7 (rs.map rwT) (T.map w4)=(T.zip rs).map λz=>PV.tup [rwT z.2,w4 z.1]
 |[],[]=>rfl
 |[],_::_=>rfl
 |_::_,[]=>rfl
 |t::T,r::rs=>by
  show PV.tup [rwT r,w4 t]::o7 (rs.map rwT) (T.map w4)=_;rw [zip_a T rs];rfl
theorem CI:∀(T:List (List Cl))(rs:List (Int×Int)),o7 (T.map w4) (rs.map rwT)=(T.zip rs).map λz=>PV.tup [w4 z.1,rwT z.2]
 |[],[]=>rfl
 |[],_::_=>rfl
 |_::_,[]=>rfl
 |t::T,r::rs=>by
  show PV.tup [w4 t,rwT r]::o7 (T.map w4) (rs.map rwT)=_;rw [CI T rs];rfl
theorem Gu:∀(T:List (List Cl))(rs:List (Int×Int)),((T.zip rs).flatMap λz=>z.1.map λc=>z.2.2-c.due).length<=T.flatten.length
 |[],[]=>yU _
 |[],_::_=>yU _
 |_::_,[]=>yh _
 |t::T,r::rs=>by
  have:=Gu T rs;rw [List.zip_cons_cons,tW,yp,yQ,yQ,yZ];show t.length+_<=t.length+_;omega
abbrev eT (d:Dr)(T:List (List Cl))(z:List Int)(s4 s5:MSlot):ME:=[.sh d.pv,.sh (y6 T),.sh (.fk (keysOf d.cls) (d.cls.map λc=> .at (.int c.due))),.sh (.lst (z.map λb=>PV.at (.int b))),s4,s5]
theorem Iz (ok:d.Ok)(x:Trays d T):jL [d.pv,y6 T]=some (Zf (wD d T)):=by
 have hlim:lim=1000000:=rfl;have fl:=x.fl ok;have ten:=ok.ten;have cl:=Gu T (d.trs d.last d.time T);obtain ⟨ε',e',rest⟩:=QG (g:=xu 2 (i8 (j9 4) (i8 (j9 5) xt))) (f:=b8 3 (x8 qo (q9 3) (g8 [none,some 5,some 2] [0] (y7 (q8 4)) (j9 0) g9 (x8 zZ (x8 j3 (q9 1) (dC (.int 1))) (xD (q9 2) (q9 0)))))) (λz:List Cl×Int×Int=>PV.tup [w4 z.1,rwT z.2])
  (λl ε=>∃(done:List Int)(s4 s5:MSlot),done++l.flatMap (λz=>z.1.map λc=>z.2.2-c.due)=wD d T/\(∀ z∈l,z.1∈T)/\ε=eT d T done s4 s5) (by
   rintro z l ε ⟨done,s4,s5,q1,q2,rfl⟩;have ht:=q2 z yT;have sb:=x.sub ht;have l10:=x.tl ok ht;rw [tW,<- uZ] at q1;have ll:=congrArg List.length q1;unfold wD at ll;rw [yQ,yQ,yZ] at ll;refine ⟨_,eT d T (done++z.1.map λc=>z.2.2-c.due) (.sh (w4 z.1)) (.sh (rwT z.2)),rfl,t9 (j6 rfl (f9 (λc:Cl=>PV.at (.str c.name)) (λc=>PV.at (.int (z.2.2-c.due))) z.1 (by show some (y3 (z.1.map Cl.name))=_;rw [QZ]) rfl (by omega) λc hc=>⟨_,rfl,j6 (j6 rfl rfl rfl) (wv (k:= .inr c.name) rfl rfl rfl (vy (λc=>PV.at (.int c.due)) ok.nd c (sb c hc))) rfl⟩) ((Vo (by rw [yZ,yZ];omega)).trans ?_)),_,_,_,q1,λu hu=>q2 u (yS _ hu),rfl⟩;rw [yw,yx];rfl) (T.zip (d.trs d.last d.time T)) (eT d T [] .no .no) ⟨[],.no,.no,rfl,λz hz=>(uq hz).1,rfl⟩
 obtain ⟨done,s4,s5,q1,_,rfl⟩:=rest;have q2:done=wD d T:=by have:done++[]=wD d T:=q1;rwa [yn] at this
 subst q2;refine m7 rfl (y0 (t9 (z6 (j8 (f9 Cl.pv (λc=>PV.tup [.at (.str c.name),.at (.int c.due)]) d.cls (zv (j6 rfl rfl rfl)) rfl (by omega) λc _=>⟨_,rfl,xP (j8 (j6 rfl rfl rfl) (j8 (j6 rfl rfl rfl) rfl)) l2⟩) rfl) (Jo ok λc=> .at (.int c.due)))) (y0 (t9 (x:= .lst []) (Qv rfl l0)) (y0 (xl (xs:=(T.zip (d.trs d.last d.time T)).map λz=>PV.tup [w4 z.1,rwT z.2]) ?_ e') (p8 (Mm rfl)))));unfold ji;rw [j8 rfl (j8 (z6 rfl (Cq ok x)) rfl)];show some (o7 (T.map w4) ((d.trs d.last d.time T).map rwT))=_;rw [CI]
end
section
variable {d:Dr}{c:Cl}
def qw (d:Dr):Int->Int->List (List Cl)->List Int
 |_,_,[]=>[]
 |l,s,t::T=>(t.map λc=>s+rin d.low l (v6 t)+u9 t-c.due)++qw d (v6 t) (s+rin d.low l (v6 t)+u9 t) T
def qT (d:Dr):Int->Int->List (List Cl)->Int
 |_,s,[]=>s
 |l,s,t::T=>qT d (v6 t) (s+rin d.low l (v6 t)+u9 t) T
theorem KH:∀{T:List (List Cl)}{l s:Int},((T.zip (d.trs l s T)).flatMap λz=>z.1.map λc=>z.2.2-c.due)=qw d l s T
 |[],_,_=>rfl
 |t::T,l,s=>by
  show (List.flatMap _ ((t,(s+rin d.low l (v6 t),s+rin d.low l (v6 t)+u9 t))::T.zip (d.trs (v6 t) (s+rin d.low l (v6 t)+u9 t) T)))=_;rw [tW,KH];rfl
def Dom (X Y:List Int):Prop:=∀ a∈X,∃ b∈Y,a<=b
theorem Dom.app {X':List Int}(h:Dom X Y)(k:Dom X' Y'):Dom (X++X') (Y++Y'):=λa ha=>by
 rcases yo.mp ha with z|z
 ·obtain ⟨b,hb,e⟩:=h a z;exact ⟨b,uX _ hb,e⟩
 ·obtain ⟨b,hb,e⟩:=k a z;exact ⟨b,yr _ hb,e⟩
theorem Dom.right (h:Dom X Y'):Dom X (Y++Y'):=λa ha=>by
 obtain ⟨b,hb,e⟩:=h a ha;exact ⟨b,yr _ hb,e⟩
theorem Dom.refl (X:List Int):Dom X X:=λa ha=>⟨a,ha,uC _⟩
theorem GL {u:List Cl}{e e':Int}(he:e'<=e)(h:∀ x∈u,x∈t):Dom (u.map λc=>e'-c.due) (t.map λc=>e-c.due):=λa ha=>by
 obtain ⟨x,hx,rfl⟩:=yF.mp ha;exact ⟨e-x.due,yF.mpr ⟨x,h x hx,rfl⟩,by omega⟩
theorem Kd:∀{T:List (List Cl)}{l s s':Int},s'<=s->Dom (qw d l s' T) (qw d l s T)/\qT d l s' T<=qT d l s T
 |[],_,_,_,h=>⟨Dom.refl _,h⟩
 |t::T,l,s,s',h=>by
  obtain ⟨h1,h2⟩:=Kd (T:=T) (l:=v6 t) (s:=s+rin d.low l (v6 t)+u9 t) (s':=s'+rin d.low l (v6 t)+u9 t) (by omega);exact ⟨(GL (by omega) λx hx=>hx).app h1,h2⟩
theorem KK (t:List Cl)(c:Cl):u9 (t++[c])=u9 t+c.len:=by unfold u9;rw [yw,List.sum_append];simp
theorem Kl (h:t≠[])(c:Cl):v6 (t++[c])=v6 t:=by
 cases t with
 |nil=>exact absurd rfl h
 |cons a t=>rfl
theorem Ju {a:Cl}{t2:List Cl}{D:List (List Cl)}(ne:t2≠[])(ha:a∈t2)(hd:a.due<=c.due)(hc:0<=c.len):∀{B:List (List Cl)}{l l' s s':Int},(∀ t∈B++t2::D,s'+rin d.low l' (v6 t)<=s+rin d.low l (v6 t)-c.len) -> Dom (qw d l' s' (B++(t2++[c])::D)) (qw d l s (B++t2::D))/\qT d l' s' (B++(t2++[c])::D)<=qT d l s (B++t2::D)
 |[],l,l',s,s',h=>by
  have h0:=h t2 (by simp);have e1:s'+rin d.low l' (v6 t2)+(u9 t2+c.len)<=s+rin d.low l (v6 t2)+u9 t2:=by omega
  obtain ⟨h1,h2⟩:=Kd (d:=d) (T:=D) (l:=v6 t2) e1;have ee:qw d l' s' ([]++(t2++[c])::D)=((t2++[c]).map λx=>s'+rin d.low l' (v6 t2)+(u9 t2+c.len)-x.due)++qw d (v6 t2) (s'+rin d.low l' (v6 t2)+(u9 t2+c.len)) D:=by show ((t2++[c]).map λx=>s'+rin d.low l' (v6 (t2++[c]))+u9 (t2++[c])-x.due)++qw d (v6 (t2++[c])) (s'+rin d.low l' (v6 (t2++[c]))+u9 (t2++[c])) D=_;rw [Kl ne,KK]
  have e2:qT d l' s' ([]++(t2++[c])::D)=qT d (v6 t2) (s'+rin d.low l' (v6 t2)+(u9 t2+c.len)) D:=by show qT d (v6 (t2++[c])) (s'+rin d.low l' (v6 (t2++[c]))+u9 (t2++[c])) D=_;rw [Kl ne,KK]
  refine ⟨?_,by rw [e2];exact h2⟩;rw [ee];refine Dom.app (λx hx=>?_) h1;obtain ⟨y,hy,rfl⟩:=yF.mp hx;rcases yo.mp hy with hy|hy
  ·exact ⟨s+rin d.low l (v6 t2)+u9 t2-y.due,yF.mpr ⟨y,hy,rfl⟩,by omega⟩
  ·rw [yK.mp hy];exact ⟨s+rin d.low l (v6 t2)+u9 t2-a.due,yF.mpr ⟨a,ha,rfl⟩,by omega⟩
 |b::B,l,l',s,s',h=>by
  have h0:=h b (by simp);obtain ⟨h1,h2⟩:=Ju ne ha hd hc (B:=B) (l:=v6 b) (l':=v6 b) (s:=s+rin d.low l (v6 b)+u9 b) (s':=s'+rin d.low l' (v6 b)+u9 b) (λt ht=>by omega);exact ⟨Dom.app (λx hx=>by
   obtain ⟨y,hy,rfl⟩:=yF.mp hx;exact ⟨s+rin d.low l (v6 b)+u9 b-y.due,yF.mpr ⟨y,hy,rfl⟩,by omega⟩) h1,h2⟩
def nw (t:List Cl)(X:List (List Cl)):List (List Cl):=if t=[] then X else t::X
theorem RX (G:n8 h rss){f:Int}{k g:Nat}(f0:-1<=f)(f1:f<(h:Int))(hk:k<h)(hg:g<h):rin (o8 rss h) f (g:Int)<=rin (o8 rss h) f (k:Int)+rin (o8 rss h) (k:Int) (g:Int):=by
 have main:∀ n:Nat,n<=h->rin (o8 rss h) (n:Int) (g:Int)<=rin (o8 rss h) (n:Int) (k:Int)+rin (o8 rss h) (k:Int) (g:Int):=λn hn=>by
  rw [JV G hn hg,JV G hn hk,JV G (by omega) hg];exact (FW.all G h (yU _)).tri k n g hk hn hg
 by_cases hf:f=-1
 ·rw [hf,VO (jF G).len,VO (jF G).len];exact main h (yU _)
 ·obtain ⟨n,rfl⟩:=yj (show 0<=f by omega);exact main n (by omega)
theorem Ke (ok:d.Ok){a:Cl}{t1 u t2:List Cl}{B D:List (List Cl)}(ne:t2≠[])(ha:a∈t2)(hd:a.due<=c.due)(hc:0<=c.len)(h1:v6 t1<d.h)(hB:∀ t∈B++t2::D,v6 t<d.h)(us:∀ x∈u,x∈t1)(ul:u9 t1=u9 u+c.len)(uh:u≠[]->v6 u=v6 t1):∀{A:List (List Cl)}{l s:Int},(∀ t∈A,v6 t<d.h)->-1<=l->l<(d.h:Int)->Dom (qw d l s (A++nw u (B++(t2++[c])::D))) (qw d l s (A++t1::(B++t2::D)))/\qT d l s (A++nw u (B++(t2++[c])::D))<=qT d l s (A++t1::(B++t2::D))
 |[],l,s,_,l1,l2=>by
  unfold nw;split
  ·rename_i hu;have l0:u9 u=0:=by rw [hu];rfl
   obtain ⟨q1,q2⟩:=Ju (d:=d) ne ha hd hc (B:=B) (D:=D) (l:=v6 t1) (l':=l) (s:=s+rin d.low l (v6 t1)+u9 t1) (s':=s) (λt ht=>by
    have:=RX ok.rin l1 l2 h1 (hB t ht);unfold Dr.low;omega)
   exact ⟨Dom.right q1,q2⟩
  ·rename_i hu;have uh':=uh hu;obtain ⟨q1,q2⟩:=Ju (d:=d) ne ha hd hc (B:=B) (D:=D) (l:=v6 t1) (l':=v6 t1) (s:=s+rin d.low l (v6 t1)+u9 t1) (s':=s+rin d.low l (v6 t1)+u9 u) (λt ht=>by omega);have e1:qw d l s ([]++u::(B++(t2++[c])::D))=(u.map λx=>s+rin d.low l (v6 t1)+u9 u-x.due)++qw d (v6 t1) (s+rin d.low l (v6 t1)+u9 u) (B++(t2++[c])::D):=by show (u.map λx=>s+rin d.low l (v6 u)+u9 u-x.due)++qw d (v6 u) (s+rin d.low l (v6 u)+u9 u) (B++(t2++[c])::D)=_;rw [uh']
   have e2:qT d l s ([]++u::(B++(t2++[c])::D))=qT d (v6 t1) (s+rin d.low l (v6 t1)+u9 u) (B++(t2++[c])::D):=by show qT d (v6 u) (s+rin d.low l (v6 u)+u9 u) (B++(t2++[c])::D)=_;rw [uh']
   rw [e1,e2];exact ⟨Dom.app (GL (by omega) us) q1,q2⟩
 |b::A,l,s,hA,l1,l2=>by
  have hb:=hA b yT;obtain ⟨q1,q2⟩:=Ke ok ne ha hd hc h1 hB us ul uh (A:=A) (l:=v6 b) (s:=s+rin d.low l (v6 b)+u9 b) (λt ht=>hA t (yS _ ht)) (by omega) (by omega);exact ⟨Dom.app (Dom.refl _) q1,q2⟩
end
section
variable {C:Addr}{d:Dr}{T:List (List Cl)}{t:List Cl}{s:Str}{c:Cl}
theorem Kq (s:Str):∀ T:List (List Cl),wA (.bl true) (T.map λt=>V.bl (zf s t))=qz T s
 |[]=>rfl
 |t::T=>by
  show (if i5 (.bl (zf s t)) (.bl true)=true then some 0 else (wA (.bl true) (T.map λt=>V.bl (zf s t))).map (·+1))=_;rw [Kq s T,BA];cases zf s t<;>rfl
theorem vd {α:Type}(f:α->V):∀ l:List α,ats (l.map λa=>PV.at (f a))=some (l.map f)
 |[]=>rfl
 |a::l=>by
  show (ats (l.map λa=>PV.at (f a))).map (f a::·)=_;rw [vd f l];rfl
theorem IG {k:Nat}(hl:T.length<=10)(h:qz T s=some k):zW [y6 T,.at (.str s)]=some (.at (.int k)):=by have hlim:lim=1000000:=rfl;have cp:g8 [none,some 1] [0] (y7 (q8 0)) (j9 0) g9 (x8 (pIn false) (q9 1) (q9 0)) [.sh (y6 T),.sh (.at (.str s))]=some (.lst (T.map λt=>PV.at (.bl (zf s t)))):=f9 w4 (λt=>PV.at (.bl (zf s t))) T rfl rfl (by omega) λt _=>⟨_,rfl,j6 rfl rfl (Zd false s (t.map Cl.name))⟩;refine m7 rfl (p8 ?_);unfold Jm;show Option.bind (g8 [none,some 1] [0] (y7 (q8 0)) (j9 0) g9 (x8 (pIn false) (q9 1) (q9 0)) [.sh (y6 T),.sh (.at (.str s))]) _=_;rw [cp,yE];show (ats (T.map λt=>PV.at (.bl (zf s t)))).bind _=_;rw [vd (λt=>V.bl (zf s t)) T,yE,if_pos ⟨rfl,by simp [u8],by rw [yZ];omega⟩,Kq,h];rfl
theorem Jv:∀{l:List Cl}{c:Cl},(l.map Cl.name).Nodup->c∈l->l.filter (λe=>decide (e.name=c.name))=[c]
 |e::l,c,nd,hc=>by
  obtain ⟨h1,h2⟩:=yu.mp nd;rw [ue];by_cases he:e.name=c.name
  ·have ec:e=c:=by
    rcases yM.mp hc with z|z
    ·exact z.symm
    ·exact absurd (he▸yF.mpr ⟨c,z,rfl⟩) h1
   subst ec;rw [if_pos (yy rfl),List.filter_eq_nil_iff.mpr λa ha=>?_];have:a.name≠e.name:=λz=>h1 (z▸yF.mpr ⟨a,ha,rfl⟩);simp [this]
  ·have hc':c∈l:=by
    rcases yM.mp hc with z|z
    ·exact absurd (by rw [z]) he
    ·exact z
   rw [if_neg (by simp [he]),Jv h2 hc']
theorem DL (x:Trays d T)(ok:d.Ok)(hc:c∈d.cls){k:Nat}(h:qz T c.name=some k):k<T.length/\v6 (T.getD k [])=c.hue:=by
 obtain ⟨t,h1,h2⟩:=Xf h;have mt:=yA h1;obtain ⟨e,he,en⟩:=yF.mp h2;have:e=c:=by have p:=Jv ok.nd hc;have q:e∈d.cls.filter (λe=>decide (e.name=c.name)):=uJ.mpr ⟨x.sub mt e he,yy en⟩;rw [p] at q;exact yK.mp q
 subst this;refine ⟨(yL.mp h1).1,?_⟩;rw [yN,h1];exact ((x.each t mt).hue e he).symm
theorem DK (x:Trays d T)(hc:c∈d.cls):∃ k,qz T c.name=some k:=by obtain ⟨t,ht,hct⟩:=ub.mp (x.perm.mem_iff.mpr hc);exact VC ht (yF.mpr ⟨c,hct,rfl⟩)
end
section
variable {C:Addr}{d:Dr}{T T':List (List Cl)}{s:Str}{c:Cl}
structure Qj (d:Dr)(T:List (List Cl))(c:Cl)(to:Nat):Prop where
 mem:c∈d.cls
 lt:to<T.length
 hue:c.hue=v6 (T.getD to [])
 yes:mvB T (c.name,(to:Int))=true
inductive Walk (d:Dr):List (List Cl)->List (Str×Int)->List (List Cl)->Prop
 |nil {T:List (List Cl)}:Walk d T [] T
 |cons {T T':List (List Cl)} {c:Cl} {to:Nat} {ms:List (Str×Int)}:Qj d T c to->Walk d (o6 T c to) ms T'->Walk d T ((c.name,(to:Int))::ms) T'
theorem Walk.trays (ok:d.Ok)(w:Walk d T ms T')(x:Trays d T):Trays d T':=by
 induction w with
 |nil=>exact x
 |cons m _ ih=>exact ih (x.mov ok m.mem m.lt m.hue)
abbrev twG:MG:=xu 2 (i8 (j9 4) (i8 (j9 5) xt))
abbrev twC (C:Addr):MB:=h8 (t0 (x9 (jG C) (q0 (q8 0) (q0 (q8 3) (q0 (q8 5) x6)))))
abbrev twB (C:Addr):MS:=v9 (p7 (twC C) xk c9) (b8 3 (x9 jM (q0 (q8 3) (q0 (q8 5) x6))))
abbrev twE (C:Addr)(d:Dr)(x1 x2:PV)(T:List (List Cl))(u v:MSlot):ME:=[.sh (d.ob C),.sh x1,.sh x2,.sh (y6 T),u,v]
theorem SO (ok:d.Ok)(x:Trays d T){u:MSlot}:twC C (twE C d x1 x2 T u (.sh (m8 m)))=some (!mvB T m):=by have e1:x9 (jG C) (q0 (q8 0) (q0 (q8 3) (q0 (q8 5) x6))) (twE C d x1 x2 T u (.sh (m8 m)))=some (.at (.bl (mvB T m))):=z6 (j8 rfl (j8 rfl (j8 rfl rfl))) (Iw ok x);show Option.bind (Option.bind (x9 (jG C) (q0 (q8 0) (q0 (q8 3) (q0 (q8 5) x6))) (twE C d x1 x2 T u (.sh (m8 m)))) pTru) _=_;rw [e1];rfl
theorem SN (ok:d.Ok)(x:Trays d T){u:MSlot}(h:Qj d T c to):twB C (twE C d x1 x2 T u (.sh (m8 (c.name,(to:Int)))))=some (.nx (twE C d x1 x2 (o6 T c to) u (.sh (m8 (c.name,(to:Int)))))):=by refine y0 (ε1:=twE C d x1 x2 T u (.sh (m8 (c.name,(to:Int))))) (o5 (by rw [SO ok x,h.yes];rfl) rfl) ?_;exact t9 (z6 (j8 rfl (j8 rfl rfl)) (Cn ok x h.lt))
theorem SQ (ok:d.Ok)(w:Walk d T ms T'):∀{k:Nat}{u v:MSlot},Trays d T->∃ u' v',r9 twG (twB C) (qK k (ms.map m8)) (twE C d x1 x2 T u v)=some (.nx (twE C d x1 x2 T' u' v')):=by
 induction w with
 |nil=>exact λ_=>⟨_,_,rfl⟩
 |@cons T0 T1 c to ms m _ ih=>intro k u v x;obtain ⟨u',v',e⟩:=ih (k:=k+1) (u:= .sh (.at (.int k))) (v:= .sh (m8 (c.name,(to:Int)))) (x.mov ok m.mem m.lt m.hue);refine ⟨u',v',?_⟩;show Option.bind (twB C (twE C d x1 x2 T0 (.sh (.at (.int k))) (.sh (m8 (c.name,(to:Int)))))) _=_;rw [SN ok x m];exact e
theorem mv_ok (ok:d.Ok)(x:Trays d T)(hc:c∈d.cls){k:Nat}(hk:T[k]?=some t)(h1:(v6 t:Int)=(c.hue:Int))(h2:c.name∉t.map Cl.name):Qj d T c k:=by
 have kl:=(yL.mp hk).1;have gk:T.getD k []=t:=by rw [yN,hk];rfl
 obtain ⟨j,hj⟩:=DK x hc;obtain ⟨jl,hh⟩:=DL x ok hc hj;have jk:j≠k:=λz=>by
  subst z;obtain ⟨u,e1,e2⟩:=Xf hj;rw [hk] at e1;cases e1;exact h2 e2
 refine ⟨hc,kl,by rw [gk];omega,?_⟩;unfold mvB;rw [hj];show (!decide ((j:Int)=k)&&(decide (0<=(k:Int)/\(k:Int)<T.length)&&decide (v6 (T.getD j [])=v6 (T.getD ((k:Int)).toNat []))))=true;rw [uH,hh,gk,yB (by omega),yy (show 0<=(k:Int)/\(k:Int)<T.length from ⟨by omega,by omega⟩),yy (show c.hue=v6 t by omega)];rfl
end
section
variable {C:Addr}{d:Dr}{T:List (List Cl)}{t:List Cl}
def pl (T:List (List Cl))(c:Cl):Nat:=(qz T c.name).getD 0
theorem hasP (x:Trays d T)(hc:c∈d.cls):∃ k,qz T c.name=some k:=by obtain ⟨t,ht,hct⟩:=ub.mp (x.perm.mem_iff.mpr hc);exact VC ht (yF.mpr ⟨c,hct,rfl⟩)
theorem v_pl (x:Trays d T)(hc:c∈d.cls):xw [y6 T,.at (.str c.name)]=some (.at (.int (pl T c))):=by obtain ⟨k,hk⟩:=hasP x hc;rw [Cp,hk];unfold pl;rw [hk];rfl
def nxR (T:List (List Cl)):List Cl->Option (Cl×Cl)
 |a::b::r=>if pl T b<pl T a then some (a,b) else nxR T (b::r)
 |_=>none
def i9 (T:List (List Cl)):List (List Cl)->Option (Cl×Cl)
 |[]=>none
 |r::R=>match nxR T r with
  |some p=>some p
  |none=>i9 T R
def mvO (T:List (List Cl)):Option (Cl×Cl)->PV
 |none=> .at .non
 |some p=>m8 (p.2.name,(pl T p.1:Int))
abbrev nxG:MG:=xu 2 (i8 (j9 3) (i8 (j9 4) xt))
abbrev nxB:MS:=p7 (dT (x8 pLt (x9 xw (q0 (q8 1) (q0 (q8 4) x6))) (x9 xw (q0 (q8 1) (q0 (q8 3) x6))))) (w9 (f6 (q0 (q8 4) (q0 (x9 xw (q0 (q8 1) (q0 (q8 3) x6))) x6)))) c9
abbrev nxE (C:Addr)(d:Dr)(T:List (List Cl))(r u v:MSlot):ME:=[.sh (d.ob C),.sh (y6 T),r,u,v]
theorem Bl (x:Trays d T){s2:MSlot}:∀{r:List Cl}{u v:MSlot},(∀ c∈r,c∈d.cls) -> (∃ p,nxR T r=some p/\r9 nxG nxB (o7 (y3 (r.map Cl.name)) ((y3 (r.map Cl.name)).drop 1)) (nxE C d T s2 u v)=some (.rt (mvO T (some p))))∨(nxR T r=none/\∃ u' v',r9 nxG nxB (o7 (y3 (r.map Cl.name)) ((y3 (r.map Cl.name)).drop 1)) (nxE C d T s2 u v)=some (.nx (nxE C d T s2 u' v')))
 |[],u,v,_=> .inr ⟨rfl,u,v,rfl⟩
 |[a],u,v,_=> .inr ⟨rfl,u,v,rfl⟩
 |a::b::r,u,v,h=>by
  have ha:=v_pl x (h a yT);have hb:=v_pl x (h b (yS _ yT));have c1:dT (x8 pLt (x9 xw (q0 (q8 1) (q0 (q8 4) x6))) (x9 xw (q0 (q8 1) (q0 (q8 3) x6)))) (nxE C d T s2 (.sh (.at (.str a.name))) (.sh (.at (.str b.name))))=some (decide ((pl T b:Int)<pl T a)):=p5 (j6 (z6 rfl hb) (z6 rfl ha) rfl);have st:∀ o,nxB (nxE C d T s2 (.sh (.at (.str a.name))) (.sh (.at (.str b.name))))=some o->r9 nxG nxB (o7 (y3 ((a::b::r).map Cl.name)) ((y3 ((a::b::r).map Cl.name)).drop 1)) (nxE C d T s2 u v)=(match o with
   | .nx ε'=>r9 nxG nxB (o7 (y3 ((b::r).map Cl.name)) ((y3 ((b::r).map Cl.name)).drop 1)) ε'
   | .ct ε'=>r9 nxG nxB (o7 (y3 ((b::r).map Cl.name)) ((y3 ((b::r).map Cl.name)).drop 1)) ε'
   | .bk ε'=>some (.nx ε')
   | .rt y=>some (.rt y)):=λo e=>by
   show Option.bind (nxB (nxE C d T s2 (.sh (.at (.str a.name))) (.sh (.at (.str b.name))))) _=_;rw [e];cases o<;>rfl
  by_cases hl:pl T b<pl T a
  ·refine .inl ⟨(a,b),by unfold nxR;rw [if_pos hl],?_⟩;rw [yy (by omega)] at c1;rw [st _ (wy c1 (p8 (xP (j8 rfl (j8 (z6 rfl ha) rfl)) l2)))];rfl
  ·rw [yB (by omega)] at c1;have en:nxR T (a::b::r)=nxR T (b::r):=by show (if pl T b<pl T a then some (a,b) else nxR T (b::r))=_;rw [if_neg hl]
   rw [en,st _ (o5 c1 rfl)];exact Bl x (r:=b::r) (λc hc=>h c (yS _ hc))
theorem DP (xs:List PV)(a:Nat):vh xs (some (a:Int)) none=xs.drop a:=by
 unfold vh;rw [HT.sIx_nat,HT.sIx_none];by_cases h:a<=xs.length
 ·rw [Nat.min_eq_left h,List.take_of_length_le (by rw [uu];omega)]
 ·rw [Nat.min_eq_right (by omega),ut,List.take_nil,List.drop_of_length_le (by omega)]
theorem Ta {a:MA}{k:Nat}(h:a ε=some [.at (.int (k:Int))])(hk:k<=1000):zt a ε=some ((List.range k).map λ(i:Nat)=>PV.at (.int ((0:Int)+i))):=wY h (by have:lim=1000000:=rfl;omega)
def Dr.rows (d:Dr):List (List Cl):=(List.range d.h).map d.dueR
theorem Im (ok:d.Ok):wI C [d.ob C]=some (.lst (d.rows.map w4)):=by
 have hlim:lim=1000000:=rfl;have h4:=ok.h4;refine xO rfl (p8 ((f9 (λ(i:Nat)=>PV.at (.int ((0:Int)+i))) (λi=>w4 (d.dueR i)) (List.range d.h) (Ta (j8 (vn rfl (by decide) rfl (Ir ok)) rfl) (by omega)) rfl (by rw [uL];omega) λi _=>⟨_,rfl,vn rfl (by decide) rfl ?_⟩).trans ?_))
 ·show wG C [d.ob C,.at (.int ((0:Int)+i))]=_;rw [Int.zero_add];exact Il ok i
 ·unfold Dr.rows;rw [yx];rfl
abbrev nxF:MS:=qJ (ji (q0 (q8 2) (q0 (wo (q9 2) (pSo (dC (.int 1))) pNo) x6))) nxG nxB
theorem Bm (x:Trays d T):∀{R:List (List Cl)}{s2 u v:MSlot},(∀ r∈R,∀ c∈r,c∈d.cls) -> (∃ p,i9 T R=some p/\r9 (j9 2) nxF (R.map w4) (nxE C d T s2 u v)=some (.rt (mvO T (some p))))∨(i9 T R=none/\∃ s2' u' v',r9 (j9 2) nxF (R.map w4) (nxE C d T s2 u v)=some (.nx (nxE C d T s2' u' v')))
 |[],s2,u,v,_=> .inr ⟨rfl,s2,u,v,rfl⟩
 |r::R,s2,u,v,h=>by
  have ez:ji (q0 (q8 2) (q0 (wo (q9 2) (pSo (dC (.int 1))) pNo) x6)) (nxE C d T (.sh (w4 r)) u v)=some (o7 (y3 (r.map Cl.name)) ((y3 (r.map Cl.name)).drop 1)):=by unfold ji;rw [j8 rfl (j8 (ev_sl (xs:=y3 (r.map Cl.name)) rfl rfl rfl) rfl),yE];show some (o7 (y3 (r.map Cl.name)) (vh (y3 (r.map Cl.name)) (some ((1:Nat):Int)) none))=_;rw [DP]
  rcases Bl (C:=C) x (s2:= .sh (w4 r)) (r:=r) (u:=u) (v:=v) (h r yT) with ⟨p,e1,e2⟩|⟨e1,u',v',e2⟩
  ·refine .inl ⟨p,by unfold i9;rw [e1],?_⟩;have e3:nxF (nxE C d T (.sh (w4 r)) u v)=some (.rt (mvO T (some p))):=xl ez e2;show Option.bind (nxF (nxE C d T (.sh (w4 r)) u v)) _=_;rw [e3];rfl
  ·have e3:nxF (nxE C d T (.sh (w4 r)) u v)=some (.nx (nxE C d T (.sh (w4 r)) u' v')):=xl ez e2;have en:i9 T (r::R)=i9 T R:=by show (match nxR T r with|some p=>some p|none=>i9 T R)=_;rw [e1]
   have st:r9 (j9 2) nxF ((r::R).map w4) (nxE C d T s2 u v)=r9 (j9 2) nxF (R.map w4) (nxE C d T (.sh (w4 r)) u' v'):=by show Option.bind (nxF (nxE C d T (.sh (w4 r)) u v)) _=_;rw [e3];rfl
   rw [en,st];exact Bm x λq hq=>h q (yS _ hq)
theorem VQ:∀ r∈d.rows,∀ c∈r,c∈d.cls:=λr hr c hc=>by
 obtain ⟨h,_,rfl⟩:=yF.mp hr;exact MZ ((Qu h).mem_iff.mp hc)
theorem Yv (ok:d.Ok)(x:Trays d T):jq C [d.ob C,y6 T]=some (mvO T (i9 T d.rows)):=by
 have er:y7 (x9 (wI C) (q0 (q8 0) x6)) (nxE C d T .no .no .no)=some (d.rows.map w4):=zv (z6 rfl (Im ok));rcases Bm (C:=C) x (R:=d.rows) (s2:= .no) (u:= .no) (v:= .no) VQ with ⟨p,e1,e2⟩|⟨e1,s2,u,v,e2⟩
 ·rw [e1];exact m7 rfl (Qw (xl er e2))
 ·rw [e1];exact m7 rfl (y0 (xl er e2) rfl)
theorem Vl:∀{r:List Cl}{p:Cl×Cl},nxR T r=some p->p.1∈r/\p.2∈r/\pl T p.2<pl T p.1/\∃ l m,r=l++p.1::p.2::m
 |a::b::r,p,h=>by
  have h':(if pl T b<pl T a then some (a,b) else nxR T (b::r))=some p:=h;split at h'
  ·rename_i hl;cases h';exact ⟨by simp,by simp,hl,[],r,rfl⟩
  ·obtain ⟨h1,h2,h3,l,m,e⟩:=Vl h';exact ⟨yS _ h1,yS _ h2,h3,a::l,m,by rw [e];rfl⟩
 |[],_,h=>by cases h
 |[_],_,h=>by cases h
theorem Vk:∀{R:List (List Cl)}{p:Cl×Cl},i9 T R=some p->∃ r∈R,nxR T r=some p
 |r::R,p,h=>by
  unfold i9 at h;split at h
  ·rename_i q e;cases h;exact ⟨r,yT,e⟩
  ·obtain ⟨q,hq,e⟩:=Vk h;exact ⟨q,yS _ hq,e⟩
 |[],_,h=>by cases h
end
section
variable {C:Addr}{d:Dr}{T:List (List Cl)}{t:List Cl}{a b c:Cl}
theorem Bf (ok:d.Ok){c:Cl}(hc:c∈d.cls)(he:e∈d.cls)(h:e.name=c.name):e=c:=by have p:=Jv ok.nd hc;have q:e∈d.cls.filter (λe=>decide (e.name=c.name)):=uJ.mpr ⟨he,yy h⟩;rw [p] at q;exact yK.mp q
theorem LN {t u:List Cl}(h:t.Perm u):u9 t=u9 u:=by
 induction h with
 |nil=>rfl
 |cons x _ ih=>show x.len+u9 _=x.len+u9 _;rw [ih]
 |swap x y l=>show y.len+(x.len+u9 l)=x.len+(y.len+u9 l);omega
 |trans _ _ h1 h2=>rw [h1,h2]
theorem rm_no (h:s∉t.map Cl.name):rm s t=t:=List.filter_eq_self.mpr λe he=>by
 have:e.name≠s:=λz=>h (z▸yF.mpr ⟨e,he,rfl⟩);simp [this]
theorem Va {s:Str}:∀{A:List (List Cl)},(∀ t∈A,s∉t.map Cl.name)->A.map (rm s)=A
 |[],_=>rfl
 |t::A,h=>by rw [yI,rm_no (h t yT),Va λu hu=>h u (yS _ hu)]
theorem Ps {α:Type}(v:α):∀(X:List α)(y:α)(D:List α),(X++y::D).set X.length v=X++v::D
 |[],_,_=>rfl
 |x::X,y,D=>by
  show x::(X++y::D).set X.length v=_;rw [Ps v X y D];rfl
theorem Kk {α:Type}:∀(X:List α)(y:α)(D:List α),(X++y::D)[X.length]?=some y
 |[],_,_=>rfl
 |x::X,y,D=>Kk X y D
theorem Kf:∀{A:List (List Cl)},(∀ t∈A,t≠[])->(A.filter λt=>!t.isEmpty)=A:=λ{A} h=>List.filter_eq_self.mpr λt ht=>by
 cases t with
 |nil=>exact absurd rfl (h _ ht)
 |cons _ _=>rfl
structure Spl (d:Dr)(T:List (List Cl))(a b:Cl)(A:List (List Cl))(t1:List Cl)(B:List (List Cl))(t2:List Cl)(D:List (List Cl)):Prop where
 eT:T=A++t1::(B++t2::D)
 b1:b∈t1
 a2:a∈t2
 eN:o6 T b (pl T a)=A++nw (rm b.name t1) (B++(t2++[b])::D)
 nb:b.name∉t2.map Cl.name
 ta:T[pl T a]?=some t2
theorem Bx (x:Trays d T)(ok:d.Ok)(hc:c∈d.cls):∃ t,T[pl T c]?=some t/\c∈t:=by
 obtain ⟨k,hk⟩:=hasP x hc;obtain ⟨t,h1,h2⟩:=Xf hk;have e:pl T c=k:=by unfold pl;rw [hk];rfl
 obtain ⟨f,hf,en⟩:=yF.mp h2;have:=Bf ok hc (x.sub (yA h1) f hf) en;subst this;exact ⟨t,by rw [e];exact h1,hf⟩
theorem PB (ok:d.Ok)(x:Trays d T)(ha:a∈d.cls)(hb:b∈d.cls)(hl:pl T b<pl T a):∃ A t1 B t2 D,Spl d T a b A t1 B t2 D:=by
 obtain ⟨t2,e2,a2⟩:=Bx x ok ha;obtain ⟨t1,e1,b1⟩:=Bx x ok hb;generalize hj:pl T a=j at hl e2;generalize hi:pl T b=i at hl e1;obtain ⟨jl,e2'⟩:=yL.mp e2;obtain ⟨il,e1'⟩:=yL.mp e1;have s1:T=T.take i++t1::T.drop (i+1):=by rw [<- e1',<- yc il,um]
 have e3:(T.drop (i+1))[j-(i+1)]?=some t2:=by rw [List.getElem?_drop,show i+1+(j-(i+1))=j by omega];exact e2
 obtain ⟨kl,e3'⟩:=yL.mp e3;have s2:T.drop (i+1)=(T.drop (i+1)).take (j-(i+1))++t2::(T.drop (i+1)).drop (j-(i+1)+1):=by rw [<- e3',<- yc kl,um]
 have lA:(T.take i).length=i:=by rw [uO];omega
 have lB:((T.drop (i+1)).take (j-(i+1))).length=j-(i+1):=by rw [uO];omega
 have s3:T=T.take i++t1::((T.drop (i+1)).take (j-(i+1))++t2::(T.drop (i+1)).drop (j-(i+1)+1)):=by rw [<- s2];exact s1
 generalize T.take i=A at lA s3;generalize (T.drop (i+1)).take (j-(i+1))=B at lB s3;generalize (T.drop (i+1)).drop (j-(i+1)+1)=D at s3;have ta:=e2;rw [<- hj] at ta
 suffices q:o6 T b (pl T a)=A++nw (rm b.name t1) (B++(t2++[b])::D)/\b.name∉t2.map Cl.name from ⟨A,t1,B,t2,D,s3,b1,a2,q.1,q.2,ta⟩
 clear ta;rw [hj];clear s1 s2 e3 e3' e1 e2 e1' e2' hj hi;have nd:=(x.lst ok).nd;have ne:=λt ht=>(x.each t ht).ne;subst s3;rw [List.flatten_append,yp,yw,yw] at nd;have bn:b.name∈t1.map Cl.name:=yF.mpr ⟨b,b1,rfl⟩;obtain ⟨_,nd2,nd3⟩:=uG.mp nd;obtain ⟨_,_,nd4⟩:=uG.mp nd2;have nA:∀ t∈A,b.name∉t.map Cl.name:=λt ht z=>by
  obtain ⟨f,hf,en⟩:=yF.mp z;exact nd3 b.name (yF.mpr ⟨f,ub.mpr ⟨t,ht,hf⟩,en⟩) b.name (uX _ bn) rfl
 have nR:∀ t∈B++t2::D,b.name∉t.map Cl.name:=λt ht z=>by
  obtain ⟨f,hf,en⟩:=yF.mp z;exact nd4 b.name bn b.name (yF.mpr ⟨f,ub.mpr ⟨t,ht,hf⟩,en⟩) rfl
 have em:(A++t1::(B++t2::D)).map (rm b.name)=(A++rm b.name t1::B)++t2::D:=by rw [yw,yI,Va nA,Va nR,uZ];rfl
 have lj:(A++rm b.name t1::B).length=j:=by rw [yQ,yG,lA,lB];omega
 refine ⟨?_,nR t2 (by simp)⟩;unfold o6;rw [em,<- lj,yN,Kk,Ps,uZ];show List.filter _ (A++rm b.name t1::(B++(t2++[b])::D))=_;rw [List.filter_append,Kf λt ht=>ne t (uX _ ht),ue];have fR:((B++(t2++[b])::D).filter λt=>!t.isEmpty)=B++(t2++[b])::D:=Kf λt ht=>by
  rcases yo.mp ht with z|z
  ·exact ne t (by simp [z])
  ·rcases yM.mp z with rfl|z
   ·simp
   ·exact ne t (by simp [z])
 rw [fR];unfold nw;cases rm b.name t1<;>rfl
end
section
variable {C:Addr}{d:Dr}{T:List (List Cl)}{a b c:Cl}{A B D:List (List Cl)}{t1 t2:List Cl}
theorem GM (hc:c∈d.dueR h):c.hue=h:=uV (uJ.mp ((Qu h).mem_iff.mp hc)).2
structure Pair (d:Dr)(T:List (List Cl))(a b:Cl):Prop where
 a1:a∈d.cls
 b1:b∈d.cls
 hue:a.hue=b.hue
 due:a.due<=b.due
 lt:pl T b<pl T a
theorem Vm {p:Cl×Cl}(h:i9 T d.rows=some p):Pair d T p.1 p.2:=by
 obtain ⟨r,hr,e⟩:=Vk h;obtain ⟨h1,h2,h3,l,m,el⟩:=Vl e;have s1:=VQ r hr _ h1;have s2:=VQ r hr _ h2;obtain ⟨g,_,rfl⟩:=yF.mp hr;refine ⟨s1,s2,by rw [GM h1,GM h2],?_,h3⟩;have pw:(d.dueR g).Pairwise λa b=>k8 (qv b) (qv a)=false:=Vz c0 qv (d.inH g);rw [el] at pw;have q:=(uz.mp (List.pairwise_append.mp pw).2.1).1 p.2 yT;have:¬ (p.2.due<p.1.due):=λz=>by
  have:k8 (qv p.2) (qv p.1)=true:=ltK_iff.mpr (.inl z);rw [this] at q;cases q
 omega
theorem Spl.ok (S:Spl d T a b A t1 B t2 D)(ok:d.Ok)(x:Trays d T)(P:Pair d T a b):Qj d T b (pl T a):=by have m2:=yA S.ta;exact mv_ok ok x P.b1 S.ta (by rw [<- P.hue,(x.each t2 m2).hue a S.a2]) S.nb
theorem Spl.better (S:Spl d T a b A t1 B t2 D)(ok:d.Ok)(x:Trays d T)(P:Pair d T a b):Dom (qw d d.last d.time (o6 T b (pl T a))) (qw d d.last d.time T)/\qT d d.last d.time (o6 T b (pl T a))<=qT d d.last d.time T:=by
 rw [S.eN];have hh:∀ t∈T,v6 t<d.h:=λt ht=>Kn ok x ht;have hx:=x;have m2:=yA S.ta;have eT:=S.eT;have m1:t1∈T:=by rw [eT];simp
 have l1:=(ok.cl b P.b1).l1;have T1:=x.each t1 m1;have p1:=ZO (List.Nodup.sublist ((List.sublist_flatten_of_mem m1).map Cl.name) (x.lst ok).nd) S.b1;have e:=Ke (d:=d) (c:=b) ok (a:=a) (t1:=t1) (u:=rm b.name t1) (t2:=t2) (B:=B) (D:=D) (x.each t2 m2).ne S.a2 P.due (by omega) (hh t1 m1) (λt ht=>hh t (by rw [eT];exact yr _ (yS _ ht))) (λy hy=>(Xm y hy).1) (by rw [<- LN p1];show b.len+u9 _=_;omega) (λne=>by
  obtain ⟨y,l,ey⟩:=uB ne;have hy:y∈rm b.name t1:=by rw [ey];exact yT
  rw [ey];exact T1.hue y (Xm y hy).1) (A:=A) (l:=d.last) (s:=d.time) (λt ht=>hh t (by rw [eT];exact uX _ ht)) ok.l1 ok.l2
 rw [<- eT] at e;exact e
def mu:List (List Cl)->Nat
 |[]=>0
 |t::T=>t.length*T.length+mu T
theorem QX:∀(A X:List (List Cl)),mu (A++X)=mu A+A.flatten.length*X.length+mu X
 |[],X=>by show mu X=0+0*X.length+mu X;omega
 |t::A,X=>by
  show t.length*(A++X).length+mu (A++X)=t.length*A.length+mu A+(t++A.flatten).length*X.length+mu X;rw [QX A X,yQ,yQ,Nat.mul_add,Nat.add_mul];omega
theorem Spl.less (S:Spl d T a b A t1 B t2 D)(ok:d.Ok)(x:Trays d T):mu (o6 T b (pl T a))<mu T:=by
 have eT:=S.eT;have m1:t1∈T:=by rw [eT];simp
 have p1:=ZO (List.Nodup.sublist ((List.sublist_flatten_of_mem m1).map Cl.name) (x.lst ok).nd) S.b1;have l1:=p1.length_eq;rw [yG] at l1;rw [S.eN,eT,QX,QX];generalize rm b.name t1=u at l1;have e1:mu (B++(t2++[b])::D)=mu (B++t2::D)+D.length:=by have m1:mu ((t2++[b])::D)=(t2++[b]).length*D.length+mu D:=rfl;have m2:mu (t2::D)=t2.length*D.length+mu D:=rfl;have m3:([b]:List Cl).length*D.length=D.length:=Nat.one_mul _;rw [QX,QX,m1,m2,yQ,Nat.add_mul,m3,yG,yG];omega
 have e2:mu (t1::(B++t2::D))=t1.length*(B++t2::D).length+mu (B++t2::D):=rfl;have e3:(B++(t2++[b])::D).length=(B++t2::D).length:=by rw [yQ,yQ,yG,yG]
 have e4:D.length<(B++t2::D).length:=by rw [yQ,yG];omega
 have e5:t1.length*(B++t2::D).length=u.length*(B++t2::D).length+(B++t2::D).length:=by rw [<- l1,Nat.add_mul,Nat.one_mul]
 unfold nw;split
 ·rename_i hu;have e6:A.flatten.length*(B++(t2++[b])::D).length<=A.flatten.length*(t1::(B++t2::D)).length:=Nat.mul_le_mul_left _ (by rw [e3,yG];omega);rw [e1,e2,e5];omega
 ·have e6:A.flatten.length*(u::(B++(t2++[b])::D)).length=A.flatten.length*(t1::(B++t2::D)).length:=by rw [yG,yG,e3]
  have e7:mu (u::(B++(t2++[b])::D))=u.length*(B++(t2++[b])::D).length+mu (B++(t2++[b])::D):=rfl;rw [e6,e7,e3,e1,e2,e5];omega
theorem Be:∀ T:List (List Cl),mu T<=T.flatten.length*(T.length-1)
 |[]=>yU _
 |t::T=>by
  have:=Be T;have e:(t::T).flatten.length=t.length+T.flatten.length:=by rw [yp,yQ]
  show t.length*T.length+mu T<=(t::T).flatten.length*(T.length+1-1);rw [e,Nat.add_sub_cancel,Nat.add_mul];have:T.flatten.length*(T.length-1)<=T.flatten.length*T.length:=Nat.mul_le_mul_left _ (by omega);omega
inductive Led (d:Dr):List (List Cl)->List (Str×Int)->List (List Cl)->Prop
 |nil {T:List (List Cl)}:i9 T d.rows=none->Led d T [] T
 |cons {T T':List (List Cl)} {p:Cl×Cl} {ms:List (Str×Int)}:i9 T d.rows=some p->Led d (o6 T p.2 (pl T p.1)) ms T'->Led d T ((p.2.name,(pl T p.1:Int))::ms) T'
theorem Qa (ok:d.Ok)(x:Trays d T){p:Cl×Cl}(h:i9 T d.rows=some p):Qj d T p.2 (pl T p.1)/\Trays d (o6 T p.2 (pl T p.1))/\mu (o6 T p.2 (pl T p.1))<mu T/\Dom (qw d d.last d.time (o6 T p.2 (pl T p.1))) (qw d d.last d.time T)/\qT d d.last d.time (o6 T p.2 (pl T p.1))<=qT d d.last d.time T:=by have P:=Vm h;obtain ⟨A,t1,B,t2,D,S⟩:=PB ok x P.a1 P.b1 P.lt;have m:=S.ok ok x P;exact ⟨m,x.mov ok m.mem m.lt m.hue,S.less ok x,(S.better ok x P).1,(S.better ok x P).2⟩
theorem KJ (ok:d.Ok):∀(n:Nat)(T:List (List Cl)),Trays d T->mu T<=n->∃ ms T',Led d T ms T'/\ms.length<=n
 |n,T,x,h=>by
  cases e:i9 T d.rows with
  |none=>exact ⟨[],T,.nil e,yh _⟩
  |some p =>
   obtain ⟨_,x',l,_⟩:=Qa ok x e;cases n with
   |zero=>omega
   |succ n=>obtain ⟨ms,T',w,hl⟩:=KJ ok n _ x' (by omega);exact ⟨_,T',.cons e w,by rw [yG];omega⟩
theorem Led.walk (ok:d.Ok)(w:Led d T ms T'):Trays d T->Walk d T ms T':=by
 induction w with
 |nil _=>exact λ_=> .nil
 |cons e _ ih=>exact λx=> .cons (Qa ok x e).1 (ih (Qa ok x e).2.1)
theorem Led.last (w:Led d T ms T'):i9 T' d.rows=none:=by
 induction w with
 |nil e=>exact e
 |cons _ _ ih=>exact ih
theorem Nk (ok:d.Ok)(x:Trays d T):mu T<=90:=by have h1:=Be T;have h2:=x.fl ok;have h3:=x.len ok;have:T.flatten.length*(T.length-1)<=10*9:=Nat.mul_le_mul h2 (by omega);omega
abbrev tdB (C:Addr):MS:=v9 (vi 3 (q8 4)) (v9 (b8 2 (x9 jM (q0 (q8 2) (q0 (q8 4) x6)))) (b8 4 (x9 (jq C) (q0 (q8 0) (q0 (q8 2) x6)))))
abbrev tdE (C:Addr)(d:Dr)(T0 T:List (List Cl))(ms:List (Str×Int)):ME:=[.sh (d.ob C),.sh (y6 T0),.sh (y6 T),.ow (.lst (ms.map m8)),.sh (mvO T (i9 T d.rows))]
theorem SB (ok:d.Ok){T0:List (List Cl)}(w:Led d T ms T'):∀{n:Nat}{done:List (Str×Int)},Trays d T->done.length+ms.length<=1000->ms.length<n->zu (dT (x8 vH (q9 4) (dC .non))) (tdB C) n (tdE C d T0 T done)=some (.nx (tdE C d T0 T' (done++ms))):=by
 have hlim:lim=1000000:=rfl
 induction w with
 |@nil T e =>
  intro n done x _ hn;cases n with
  |zero=>omega
  |succ n =>
   have c1:dT (x8 vH (q9 4) (dC .non)) (tdE C d T0 T done)=some false:=by refine p5 (j6 rfl rfl ?_);rw [e];rfl
   unfold zu;rw [c1,yn];rfl
 |@cons T T' p ms e _ ih =>
  intro n done x hl hn;rw [yG] at hl hn;obtain ⟨m,x',_⟩:=Qa ok x e;cases n with
  |zero=>omega
  |succ n =>
   have c1:dT (x8 vH (q9 4) (dC .non)) (tdE C d T0 T done)=some true:=by refine p5 (j6 rfl rfl ?_);rw [e];rfl
   have b1:tdB C (tdE C d T0 T done)=some (.nx (tdE C d T0 (o6 T p.2 (pl T p.1)) (done++[(p.2.name,(pl T p.1:Int))]))):=by
    have em:mvO T (i9 T d.rows)=m8 (p.2.name,(pl T p.1:Int)):=by rw [e];rfl
    unfold tdE;rw [em,yw];exact y0 (GT rfl rfl (by rw [yZ];omega)) (y0 (t9 (z6 (j8 rfl (j8 rfl rfl)) (Cn ok x m.lt))) (t9 (z6 (j8 rfl (j8 rfl rfl)) (Yv ok x'))))
   have:=ih (n:=n) (done:=done++[(p.2.name,(pl T p.1:Int))]) x' (by rw [yQ];simp;omega) (by omega);unfold zu;rw [c1,yE,if_pos rfl,b1,yE];show zu _ _ n _=_;rw [this,uZ];rfl
theorem Cr (ok:d.Ok)(x:Trays d T)(w:Led d T ms T')(hl:ms.length<=90):jN C [d.ob C,y6 T]=some (.lst (ms.map m8)):=by have e:=SB (C:=C) ok (T0:=T) w (n:=101) (done:=[]) x (by simp;omega) (by omega);exact xO rfl (y0 (ww (z6 rfl (Yu ok x))) (y0 (t9 rfl) (y0 (Qy rfl) (y0 (t9 (z6 rfl (Yv ok x))) (y0 e rfl)))))
end
section
variable {C:Addr}{d:Dr}{T:List (List Cl)}{a b c:Cl}{t2:List Cl}
theorem GO:∀{T:List (List Cl)}{l s:Int}{r:Int×Int},r.2=s->(JO r (d.trs l s T)).2=qT d l s T
 |[],l,s,r,h=>h
 |t::T,l,s,r,h=>GO (T:=T) (r:=(s+rin d.low l (v6 t),s+rin d.low l (v6 t)+u9 t)) rfl
theorem Cj (ok:d.Ok)(x:Trays d T):jJ [d.pv,y6 T]=some (.at (.int (qT d d.last d.time T))):=by rw [Io ok x];unfold GN;rw [GO rfl]
theorem JW:∀{T:List (List Cl)}{l s:Int},T.flatten≠[]->qw d l s T≠[]
 |[],_,_,h=>absurd rfl h
 |[]::T,l,s,h=>by
  show ([]++qw d _ _ T)≠[];rw [List.nil_append];exact JW (by simpa using h)
 |(x::t)::T,l,s,_=>by
  show (x::t).map _++_≠[];simp
theorem Ck (ok:d.Ok)(x:Trays d T)(hc:c∈d.cls):jL [d.pv,y6 T]=some (.at (.int (zX (qw d d.last d.time T)))):=by rw [Iz ok x];unfold Zf wD;rw [KH,if_neg (JW λz=>by have:=x.perm.mem_iff.mpr hc;rw [z] at this;cases this)]
theorem Mb (h:Dom X Y)(hX:X≠[]):zX X<=zX Y:=by obtain ⟨b,hb,e⟩:=h _ (Bb hX);exact uy e (Ba hb)
theorem IV {z:Int}:Zw [.at (.int z)]=some (.at (.bl true)):=m7 rfl (p8 (ze (z6 rfl Kv) (Kc (v:=false) (z6 rfl Kw))))
theorem v_lis (ok:d.Ok)(x:Trays d T)(hc:c∈d.cls)(ht:T[to]?=some t2)(nb:c.name∉t2.map Cl.name)(hh:v6 t2=c.hue):QM [m8 (c.name,(to:Int)),d.pv,y6 T]=some (.at (.bl true)):=by
 have hlim:lim=1000000:=rfl;have ten:=ok.ten;have tl:=(yL.mp ht).1;have m2:=yA ht;obtain ⟨c0,t',e0⟩:=uB (x.each t2 m2).ne;have c0m:c0∈d.cls:=x.sub m2 c0 (by rw [e0];exact yT);have h0:c0.hue=c.hue:=by rw [<- hh,e0];rfl
 have ed:x9 zY (q0 (g8 [none] [0] (y7 (x8 j3 (q9 1) (dC (.int 1)))) (j9 0) g9 (f6 (q0 (x8 j3 (q9 0) (dC (.int 0))) (q0 (x8 j3 (q9 0) (dC (.int 1))) x6)))) x6) [.sh (m8 (c.name,(to:Int))),.sh d.pv,.sh (y6 T),.no]=some (.fk (keysOf d.cls) (d.cls.map λc=> .at (.int c.hue))) :=
  z6 (j8 (f9 Cl.pv (λc=>PV.tup [.at (.str c.name),.at (.int c.hue)]) d.cls (zv (j6 rfl rfl rfl)) rfl (by omega) λc _=>⟨_,rfl,xP (j8 (j6 rfl rfl rfl) (j8 (j6 rfl rfl rfl) rfl)) l2⟩) rfl) (Jo ok λc=> .at (.int c.hue))
 have lk:=vy (λc:Cl=>PV.at (.int c.hue)) ok.nd c hc;have lk0:=vy (λc:Cl=>PV.at (.int c.hue)) ok.nd c0 c0m;have ech:dT (zq pLe pLt (dC (.int 0)) (x8 j3 (q9 0) (dC (.int 1))) (x9 qp (q0 (q9 2) x6))) [.sh (m8 (c.name,(to:Int))),.sh d.pv,.sh (y6 T),.sh (.fk (keysOf d.cls) (d.cls.map λc=> .at (.int c.hue)))]=some true:=by
  refine p5 (XV (y:= .at (.int (to:Int))) rfl (j6 rfl rfl rfl) ?_ (z6 rfl rfl) ?_)
  ·show some (PV.at (.bl (decide ((0:Int)<=(to:Int)))))=_;rw [yy (by omega)]
  ·show some (PV.at (.bl (decide ((to:Int)<((T.map w4).length:Int)))))=_;rw [yZ,yy (by omega)]
 refine m7 rfl (y0 (o5 (qZ (qh (qt (z6 rfl Ky))) (qZ (p5 (v:=false) (j6 (z6 rfl rfl) rfl rfl)) (qh (qt (z6 (j8 (j6 rfl rfl rfl) rfl) IV))))) qu) (y0 (t9 ed) (y0 (o5 (qZ (p5 (v:=false) (GY rfl (j6 rfl rfl rfl) rfl lk)) (qh ech)) qu) (p8 (ze ?_ (j6 (wv rfl (j6 (j6 rfl (j6 rfl rfl rfl) (ZT ht)) rfl (by rw [e0];exact ix0 c0 t')) rfl lk0) (wv rfl (j6 rfl rfl rfl) rfl lk) ?_))))))
 ·refine (j6 (j6 rfl rfl rfl) (j6 rfl (j6 rfl rfl rfl) (ZT ht)) (Zd true c.name (t2.map Cl.name))).trans ?_;rw [yB nb];rfl
 ·rw [h0];exact (vm _ _).trans (by rw [yy rfl])
end
section
variable {C:Addr}{d:Dr}{T:List (List Cl)}{a b c:Cl}{t2:List Cl}
theorem Su (ok:d.Ok)(x:Trays d T){p:Cl×Cl}(h:i9 T d.rows=some p):∃ t2,T[pl T p.1]?=some t2/\p.2.name∉t2.map Cl.name/\v6 t2=p.2.hue/\p.2∈d.cls:=by have P:=Vm h;obtain ⟨A,t1,B,t2,D,S⟩:=PB ok x P.a1 P.b1 P.lt;exact ⟨t2,S.ta,S.nb,by rw [<- P.hue,(x.each t2 (yA S.ta)).hue _ S.a2],P.b1⟩
theorem Za (a b:Int):pGt (.at (.int a)) (.at (.int b))=some (.at (.bl (decide (b<a)))):=rfl
noncomputable abbrev ldB:MS:=v9 (p7 (h8 (t0 (x9 QM (q0 (q8 4) (q0 (q8 0) (q0 (q8 3) x6)))))) (w9 (dC .non)) c9)
  (v9 (b8 5 (x9 QR (q0 (q8 3) (q0 (x8 j3 (q9 4) (dC (.int 0))) (q0 (x8 j3 (q9 4) (dC (.int 1))) x6)))))
  (v9 (p7 (dT (x8 pGt (x9 jL (q0 (q8 0) (q0 (q8 5) x6))) (x9 jL (q0 (q8 0) (q0 (q8 3) x6))))) (w9 (dC .non)) c9)
  (v9 (p7 (dT (x8 pGt (x9 jJ (q0 (q8 0) (q0 (q8 5) x6))) (x9 jJ (q0 (q8 0) (q0 (q8 3) x6))))) (w9 (dC .non)) c9)
  (b8 3 (q8 5)))))
abbrev ldE (d:Dr)(x1 x2:PV)(T:List (List Cl))(u v:MSlot):ME:=[.sh d.pv,.sh x1,.sh x2,.sh (y6 T),u,v]
theorem LL (ok:d.Ok)(x:Trays d T){p:Cl×Cl}(h:i9 T d.rows=some p){v:MSlot}:ldB (ldE d x1 x2 T (.sh (m8 (p.2.name,(pl T p.1:Int)))) v)=some (.nx (ldE d x1 x2 (o6 T p.2 (pl T p.1)) (.sh (m8 (p.2.name,(pl T p.1:Int)))) (.sh (y6 (o6 T p.2 (pl T p.1)))))):=by
 obtain ⟨t2,h1,h2,h3,h4⟩:=Su ok x h;obtain ⟨m,x',_,dm,en⟩:=Qa ok x h;have n1:qw d d.last d.time (o6 T p.2 (pl T p.1))≠[]:=JW λz=>by have:=x'.perm.mem_iff.mpr h4;rw [z] at this;cases this
 have mx:=Mb dm n1;refine y0 (o5 (qh (qt (z6 (j8 rfl (j8 rfl (j8 rfl rfl))) (v_lis ok x h4 h1 h2 h3)))) qu) (y0 (t9 (z6 (j8 rfl (j8 (j6 rfl rfl rfl) (j8 (j6 rfl rfl rfl) rfl))) (IE ok x m.lt))) (y0 (o5 (p5 (v:=false) (j6 (z6 (j8 rfl (j8 rfl rfl)) (Ck ok x' h4)) (z6 (j8 rfl (j8 rfl rfl)) (Ck ok x h4)) ?_)) qu) (y0 (o5 (p5 (v:=false) (j6 (z6 (j8 rfl (j8 rfl rfl)) (Cj ok x')) (z6 (j8 rfl (j8 rfl rfl)) (Cj ok x)) ?_)) qu) (t9 rfl))))
 ·rw [Za,yB (by omega)]
 ·rw [Za,yB (by omega)]
theorem LK (ok:d.Ok)(w:Led d T ms T'):∀{u v:MSlot},Trays d T->∃ u' v',r9 (j9 4) ldB (ms.map m8) (ldE d x1 x2 T u v)=some (.nx (ldE d x1 x2 T' u' v')):=by
 induction w with
 |nil _=>exact λ{u v} _=>⟨u,v,rfl⟩
 |@cons T T' p ms e _ ih=>intro u v x;obtain ⟨_,x',_⟩:=Qa ok x e;obtain ⟨u',v',e'⟩:=ih (u:= .sh (m8 (p.2.name,(pl T p.1:Int)))) (v:= .sh (y6 (o6 T p.2 (pl T p.1)))) x';refine ⟨u',v',?_⟩;show Option.bind (ldB (ldE d x1 x2 T (.sh (m8 (p.2.name,(pl T p.1:Int)))) v)) _=_;rw [LL ok x e];exact e'
theorem v_led (ok:d.Ok)(x:Trays d T)(w:Led d T ms T'):Zs [d.pv,y6 T,.lst (ms.map m8)]=some (y6 T'):=by obtain ⟨u,v,e⟩:=LK ok w (x1:=y6 T) (x2:= .lst (ms.map m8)) (u:= .no) (v:= .no) x;exact m7 rfl (y0 (t9 rfl) (y0 (xl (xs:=ms.map m8) rfl e) rfl))
def vS (T:List (List Cl))(o e:Cl):Bool:=(decide ((o.hue:Int)=e.hue)&&k8 (qv o) (qv e))&&decide ((pl T e:Int)<pl T o)
def zJ (T:List (List Cl))(o e:Cl):Option PV:=if vS T o e=true then some (.at (.bl false)) else none
theorem Cm (ok:d.Ok)(x:Trays d T)(hc:c∈d.cls):zW [y6 T,.at (.str c.name)]=some (.at (.int (pl T c))):=by obtain ⟨k,hk⟩:=hasP x hc;rw [IG (x.len ok) hk];unfold pl;rw [hk];rfl
abbrev ioB:MS:=v9 (b8 4 (qS (x8 qx (x8 j3 (q9 2) (dC (.int 1))) (x8 j3 (q9 3) (dC (.int 1)))) (x8 wU (f6 (q0 (x8 j3 (q9 2) (dC (.int 3))) (q0 (x8 j3 (q9 2) (dC (.int 0))) x6))) (f6 (q0 (x8 j3 (q9 3) (dC (.int 3))) (q0 (x8 j3 (q9 3) (dC (.int 0))) x6))))))
  (p7 (jg (t0 (q9 4)) (dT (x8 pGt (x9 zW (q0 (q8 1) (q0 (x8 j3 (q9 2) (dC (.int 0))) x6))) (x9 zW (q0 (q8 1) (q0 (x8 j3 (q9 3) (dC (.int 0))) x6)))))) (w9 (dC (.bl false))) c9)
theorem Le (ok:d.Ok)(x:Trays d T){o:Cl}(ho:o∈d.cls)(he:e∈d.cls){s4:MSlot}:stpR ioB [.sh d.pv,.sh (y6 T),.sh o.pv,.sh e.pv,s4] (λε=>∃ s3 s4,ε=[.sh d.pv,.sh (y6 T),.sh o.pv,s3,s4]) (zJ T o e):=by
 have v1:qS (x8 qx (x8 j3 (q9 2) (dC (.int 1))) (x8 j3 (q9 3) (dC (.int 1)))) (x8 wU (f6 (q0 (x8 j3 (q9 2) (dC (.int 3))) (q0 (x8 j3 (q9 2) (dC (.int 0))) x6))) (f6 (q0 (x8 j3 (q9 3) (dC (.int 3))) (q0 (x8 j3 (q9 3) (dC (.int 0))) x6)))) [.sh d.pv,.sh (y6 T),.sh o.pv,.sh e.pv,s4]=some (.at (.bl (decide ((o.hue:Int)=e.hue)&&k8 (qv o) (qv e)))):=by
  have q1:x8 qx (x8 j3 (q9 2) (dC (.int 1))) (x8 j3 (q9 3) (dC (.int 1))) [.sh d.pv,.sh (y6 T),.sh o.pv,.sh e.pv,s4]=some (.at (.bl (decide ((o.hue:Int)=e.hue)))):=j6 (j6 rfl rfl rfl) (j6 rfl rfl rfl) (vm _ _);have q2:x8 wU (f6 (q0 (x8 j3 (q9 2) (dC (.int 3))) (q0 (x8 j3 (q9 2) (dC (.int 0))) x6))) (f6 (q0 (x8 j3 (q9 3) (dC (.int 3))) (q0 (x8 j3 (q9 3) (dC (.int 0))) x6))) [.sh d.pv,.sh (y6 T),.sh o.pv,.sh e.pv,s4]=some (.at (.bl (k8 (qv o) (qv e)))) :=
   j6 (xP (j8 (j6 rfl rfl rfl) (j8 (j6 rfl rfl rfl) rfl)) (by exact (by decide:2<=lim))) (xP (j8 (j6 rfl rfl rfl) (j8 (j6 rfl rfl rfl) rfl)) (by exact (by decide:2<=lim))) rfl
  cases h:decide ((o.hue:Int)=e.hue) with
  |true=>rw [h] at q1;exact ze q1 q2
  |false=>rw [h] at q1;exact Mh q1
 have c2:∀ s:MSlot,dT (x8 pGt (x9 zW (q0 (q8 1) (q0 (x8 j3 (q9 2) (dC (.int 0))) x6))) (x9 zW (q0 (q8 1) (q0 (x8 j3 (q9 3) (dC (.int 0))) x6)))) [.sh d.pv,.sh (y6 T),.sh o.pv,.sh e.pv,s]=some (decide ((pl T e:Int)<pl T o)):=λs=>p5 (j6 (z6 (j8 rfl (j8 (j6 rfl rfl rfl) rfl)) (Cm ok x ho)) (z6 (j8 rfl (j8 (j6 rfl rfl rfl) rfl)) (Cm ok x he)) (Za _ _));unfold zJ vS;cases h1:(decide ((o.hue:Int)=e.hue)&&k8 (qv o) (qv e)) with
 |false=>rw [h1] at v1;rw [Bool.false_and,if_neg yR];exact ⟨_,y0 (t9 v1) (o5 (DR (qt rfl)) qu),_,_,rfl⟩
 |true =>
  rw [h1] at v1;rw [Bool.true_and];cases h2:decide ((pl T e:Int)<pl T o) with
  |false=>rw [if_neg yR];exact ⟨_,y0 (t9 v1) (o5 (XM (qt rfl) ((c2 _).trans (by rw [h2]))) qu),_,_,rfl⟩
  |true=>rw [if_pos rfl];exact y0 (t9 v1) (wy (XM (qt rfl) ((c2 _).trans (by rw [h2]))) (p8 rfl))
end
section
variable {C:Addr}{d:Dr}{T:List (List Cl)}{a b c:Cl}
theorem vio_none:(d.cls.findSome? λo=>d.cls.findSome? (zJ T o))=none↔∀ o∈d.cls,∀ e∈d.cls,vS T o e=false:=by
 rw [List.findSome?_eq_none_iff];constructor
 ·intro h o ho e he;have:=List.findSome?_eq_none_iff.mp (h o ho) e he;unfold zJ at this;split at this
  ·cases this
  ·rename_i q;simpa using q
 ·intro h o ho;refine List.findSome?_eq_none_iff.mpr λe he=>?_;unfold zJ;rw [h o ho e he];rfl
theorem IS (h:(d.cls.findSome? λo=>d.cls.findSome? (zJ T o))=some y):y = .at (.bl false):=by
 obtain ⟨o,_,h1⟩:=List.exists_of_findSome?_eq_some h;obtain ⟨e,_,h2⟩:=List.exists_of_findSome?_eq_some h1;unfold zJ at h2;split at h2
 ·cases h2;rfl
 ·cases h2
theorem Bk:∀{r:List Cl},nxR T r=none->r.Pairwise λa b=>pl T a<=pl T b
 |[],_=> .nil
 |[_],_=>List.pairwise_singleton _ _
 |a::b::r,h=>by
  have h':(if pl T b<pl T a then some (a,b) else nxR T (b::r))=none:=h;split at h'
  ·cases h'
  ·rename_i hl;have ih:=Bk h';refine uz.mpr ⟨λc hc=>?_,ih⟩;rcases yM.mp hc with rfl|hc
   ·omega
   ·have:=(uz.mp ih).1 c hc;omega
theorem Bj:∀{R:List (List Cl)},i9 T R=none->∀ r∈R,nxR T r=none
 |r::R,h,q,hq=>by
  unfold i9 at h;split at h
  ·cases h
  ·rename_i e;rcases yM.mp hq with rfl|hq
   ·exact e
   ·exact Bj h q hq
 |[],_,_,hq=>nomatch hq
theorem Br {α:Type}{R:α->α->Prop}:∀{l:List α}{x y:α},l.Pairwise R->x∈l->y∈l->x≠y->R x y∨R y x
 |z::l,x,y,h,hx,hy,ne=>by
  obtain ⟨h1,h2⟩:=uz.mp h;rcases yM.mp hx with ex|hx'
  ·rcases yM.mp hy with ey|hy'
   ·exact absurd (ex.trans ey.symm) ne
   ·rw [ex];exact .inl (h1 y hy')
  ·rcases yM.mp hy with ey|hy'
   ·rw [ey];exact .inr (h1 x hx')
   ·exact Br h2 hx' hy' ne
theorem LW {p q:Int×Str}(h:k8 p q=false)(ne:p.2≠q.2):k8 q p=true:=by
 rw [ltK_iff];have h':¬ (p.1<q.1∨(p.1=q.1/\p.2.cps.toList<q.2.cps.toList)):=λz=>by rw [ltK_iff.mpr z] at h;cases h
 by_cases h1:p.1=q.1
 ·refine .inr ⟨h1.symm,?_⟩;have a1:¬ p.2.cps.toList<q.2.cps.toList:=λz=>h' (.inr ⟨h1,z⟩);by_cases a2:q.2.cps.toList<p.2.cps.toList
  ·exact a2
  ·exfalso;have e:=List.le_antisymm (ur.mp a2) (ur.mp a1);apply ne;have e2:p.2.cps=q.2.cps:=tR.mp e;obtain ⟨i,⟨x⟩⟩:=p;obtain ⟨j,⟨y⟩⟩:=q;exact congrArg Str.mk e2
 ·exact .inl (by omega)
theorem Kt (ok:d.Ok):i9 T d.rows=none↔∀ o∈d.cls,∀ e∈d.cls,vS T o e=false:=by
 constructor
 ·intro h o ho e he;cases hv:vS T o e with
  |false=>rfl
  |true =>
   exfalso;unfold vS at hv;simp only [yf,decide_eq_true_eq] at hv;obtain ⟨⟨h1,h2⟩,h3⟩:=hv;have hg:o.hue<d.h:=(ok.cl o ho).hu;have hr:d.dueR o.hue∈d.rows:=yF.mpr ⟨o.hue,yi.mpr hg,rfl⟩;have up:=Bk (Bj h _ hr);have pw:(d.dueR o.hue).Pairwise λa b=>k8 (qv b) (qv a)=false:=Vz c0 qv (d.inH o.hue);have mo:o∈d.dueR o.hue:=(Qu _).mem_iff.mpr (uJ.mpr ⟨ho,yy rfl⟩);have me:e∈d.dueR o.hue:=(Qu _).mem_iff.mpr (uJ.mpr ⟨he,yy (by omega)⟩);have ne:o≠e:=λz=>by rw [z] at h3;omega
   rcases Br (up.and pw) mo me ne with ⟨q1,_⟩|⟨_,q2⟩
   ·omega
   ·rw [h2] at q2;cases q2
 ·intro h;cases e:i9 T d.rows with
  |none=>rfl
  |some p =>
   exfalso;have P:=Vm e;have ne:p.1.name≠p.2.name:=λz=>by
    have:=Bf ok P.a1 P.b1 z.symm;have lt:=P.lt;rw [this] at lt;omega
   obtain ⟨r,hr,er⟩:=Vk e;obtain ⟨_,_,_,l,m,el⟩:=Vl er;obtain ⟨g,_,rfl⟩:=yF.mp hr;have pw:(d.dueR g).Pairwise λa b=>k8 (qv b) (qv a)=false:=Vz c0 qv (d.inH g);rw [el] at pw;have q:=(uz.mp (List.pairwise_append.mp pw).2.1).1 p.2 yT;have q2:=LW q (λz=>ne z.symm);have:=h p.1 P.a1 p.2 P.b1;unfold vS at this;rw [q2,yy (show (p.1.hue:Int)=p.2.hue by have:=P.hue;omega),yy (show (pl T p.2:Int)<pl T p.1 by have:=P.lt;omega)] at this;cases this
theorem Ci (ok:d.Ok)(x:Trays d T):QW [d.pv,y6 T]=some (.at (.bl (i9 T d.rows).isNone)):=by
 have hlim:lim=1000000:=rfl;have o:=JS (g:=j9 2) (f:=qJ (y7 (x8 j3 (q9 0) (dC (.int 1)))) (j9 3) ioB) Cl.pv (λε=>∃ s2 s3 s4:MSlot,ε=[.sh d.pv,.sh (y6 T),s2,s3,s4]) (λo=>d.cls.findSome? (zJ T o)) d.cls (by
  rintro o ho ε ⟨s2,s3,s4,rfl⟩;have inn:=JS (g:=j9 3) (f:=ioB) Cl.pv (λε=>∃ s3 s4:MSlot,ε=[.sh d.pv,.sh (y6 T),.sh o.pv,s3,s4]) (zJ T o) d.cls (by
   rintro e he ε ⟨s3,s4,rfl⟩;exact ⟨_,rfl,Le ok x ho he⟩) [.sh d.pv,.sh (y6 T),.sh o.pv,s3,s4] ⟨s3,s4,rfl⟩
  refine ⟨_,rfl,?_⟩;have ff:=Mu (it:=y7 (x8 j3 (q9 0) (dC (.int 1)))) (zv (j6 rfl rfl rfl)) inn;cases e:d.cls.findSome? (zJ T o) with
  |some y=>rw [e] at ff;exact ff
  |none =>
   rw [e] at ff;obtain ⟨ε',e1,s3',s4',rfl⟩:=ff;exact ⟨_,e1,_,_,_,rfl⟩) [.sh d.pv,.sh (y6 T),.no,.no,.no] ⟨.no,.no,.no,rfl⟩
 cases e:(d.cls.findSome? λo=>d.cls.findSome? (zJ T o)) with
 |none=>rw [e] at o;obtain ⟨ε',e1,s2,s3,s4,rfl⟩:=o;rw [(Kt ok).mpr (vio_none.mp e)];exact m7 rfl (y0 (xl (zv (j6 rfl rfl rfl)) e1) rfl)
 |some y =>
  rw [e] at o;cases IS e;have:(i9 T d.rows).isNone=false:=by
   cases q:i9 T d.rows with
   |none=>rw [vio_none.mpr ((Kt ok).mp q)] at e;cases e
   |some p=>rfl
  rw [this];exact m7 rfl (Qw (xl (zv (j6 rfl rfl rfl)) o))
end
theorem Bz (T:List (List Cl)):vK 6 (y6 T):=λx hx=>by
 obtain ⟨t,_,rfl⟩:=yF.mp hx;intro y hy;obtain ⟨s,_,rfl⟩:=yF.mp hy;exact rfl
theorem VB (ms:List (Str×Int)):vK 6 (.lst (ms.map m8)):=λx hx=>by
 obtain ⟨m,_,rfl⟩:=yF.mp hx;intro y hy;simp only [yM,ye,or_false] at hy;rcases hy with rfl|rfl<;>rfl
section
variable {C:Addr}{d:Dr}{T T':List (List Cl)}
theorem IP (ok:d.Ok)(x:Trays d T)(w:Walk d T ms T'):QU C [d.ob C,y6 T,.lst (ms.map m8)]=some (y6 T'):=by have hlim:lim=1000000:=rfl;have tl:=x.len ok;obtain ⟨u,v,e⟩:=SQ (C:=C) ok w (x1:=y6 T) (x2:= .lst (ms.map m8)) (k:=0) (u:= .no) (v:= .no) x;exact m7 rfl (y0 (ww (z6 rfl (Yu ok x))) (y0 (t9 (f9 w4 w4 T rfl rfl (by omega) λt _=>⟨_,rfl,z6 rfl rfl⟩)) (y0 (xl (xs:=qK 0 (ms.map m8)) rfl e) rfl)))
theorem v_inT (ok:d.Ok)(x:Trays d T)(h:i9 T d.rows=none):QL C [d.ob C,y6 T]=some (.at (.bl true)):=by refine m7 rfl (y0 (ww (z6 rfl (Yu ok x))) (p8 (j6 (z6 rfl (Yv ok x)) rfl ?_)));rw [h];rfl
theorem LM (w:Led d T ms T'):qx (.lst (ms.map m8)) (.lst [])=some (.at (.bl (i9 T d.rows).isNone)):=by
 cases w with
 |nil e=>rw [e];rfl
 |cons e _=>rw [e];rfl
end
abbrev vQ:Stmt:=top 81
noncomputable abbrev Uw (K:Fg)(Aa:Addr):WS:=(wSeq (qq 1 (Cy (Xh K) vY (k4 (wP (q8 0)) (k4 (wP (dC (.int 9))) qC))))
  (wSeq (qq 2 (wP (x9 (wH Aa) (q0 (x8 j3 (q9 1) (dC (.int 0))) (q0 (x8 j3 (q9 1) (dC (.int 1))) (q0 (x8 j3 (q9 1) (dC (.int 2))) (q0 (x8 j3 (q9 1) (dC (.int 3))) x6)))))))
  (wSeq (ZU 3 (vL K) jY (k4 (wP (q8 0)) (k4 (wP (dC (.int 2))) qC)))
  (wSeq (wFor (wIp (zt (q0 (dC (.int 3)) x6))) (j9 4) (wSeq (qq 5 (zb 3 ZK XA (k4 (wP (q8 1)) qC)))
  (wSeq (qq 6 (wP (g8 [none] [0] (y7 (q8 5)) (j9 0) g9 (x9 vF (q0 (q9 0) x6)))))
  (wSeq (qq 7 (wP (x9 (jN Aa) (q0 (q8 2) (q0 (q8 6) x6)))))
  (wSeq (xy (wPT (qi (h8 (t0 (x9 o3 (q0 (q9 7) (q0 (dC (.ty "list")) x6))))) (qi (dT (x8 pGt (x9 qp (q0 (q9 7) x6)) (dC (.int 100)))) (dT (x8 pNe (q9 6) (q9 5)))))) (xc (wP (dC (.bl false)))) zc)
  (wSeq (qq 8 (wP (x9 Zs (q0 (q8 1) (q0 (q8 5) (q0 (q8 7) x6))))))
  (wSeq (xy (wPT (qi (dT (x8 vE (q9 8) (dC .non))) (dT (x8 pNe (x9 (QU Aa) (q0 (q8 2) (q0 (q8 5) (q0 (q8 7) x6)))) (q9 8))))) (xc (wP (dC (.bl false)))) zc)
  (wSeq (xy (wPT (qi (h8 (t0 (x9 QW (q0 (q8 1) (q0 (q8 8) x6))))) (dT (x8 Vp (x9 (QL Aa) (q0 (q8 2) (q0 (q8 8) x6))) (dC (.bl true)))))) (xc (wP (dC (.bl false)))) zc)
  (wSeq (xy (wPT (dT (x8 pNe (x9 (jN Aa) (q0 (q8 2) (q0 (q8 8) x6))) (xr x6)))) (xc (wP (dC (.bl false)))) zc)
  (wSeq (xy (wPT (dT (x8 pNe (x8 qx (q9 7) (xr x6)) (x9 QW (q0 (q8 1) (q0 (q8 5) x6)))))) (xc (wP (dC (.bl false)))) zc)
  (wSeq (qq 9 (wP (x9 vF (q0 (q9 7) x6))))
  (wSeq (Xx 10 (x9 (jN Aa) (q0 (q8 2) (q0 (q8 6) x6))))
  (wSeq (Qd 10 (wP (f6 (q0 (dC (.str "q")) (q0 (dC (.int 0)) x6)))))
  (xy (wPT (qi (dT (x8 pNe (x9 (jN Aa) (q0 (q8 2) (q0 (q8 6) x6))) (q9 9))) (dT (x8 pNe (q9 7) (q9 9))))) (xc (wP (dC (.bl false)))) zc))))))))))))))
  (xc (wP (dC (.bl true))))))))
theorem sc_law:w6 ["script","parts","works","row","turn","trays","handed","moves","found","copy","told"] ["script"] (j7 vQ):=y8
theorem MT {K:Fg}:∀ ns:List Int,ns.length<=63->Uw K Aa (.sh (scr K ns)::List.replicate ((["script","parts","works","row","turn","trays","handed","moves","found","copy","told"]:List Str).length-1) .no) (λ_=>False) λy _=>y = .at (.bl true):=by
 intro ns h63;have hlim:lim=1000000:=rfl;refine ⟨_,rfl,_,rfl,⟨ns,9,rfl,h63,by decide⟩,?_⟩;rintro _ ⟨d,z,m,_,rfl,ok,_⟩;refine ⟨d.ob Aa,z6 (j8 (j6 rfl rfl rfl) (j8 (j6 rfl rfl rfl) (j8 (j6 rfl rfl rfl) (j8 (j6 rfl rfl rfl) rfl)))) (Iu ok),?_⟩;refine ⟨_,rfl,_,rfl,⟨ns,2,rfl,h63,by decide,by decide⟩,?_⟩;rintro _ ⟨n,rfl⟩;refine ⟨_,wY (k:=3) rfl (by decide),?_⟩;refine JT (λrest ε=>∃(n:Int)(s4 s5 s6 s7 s8 s9 s10:MSlot),ε=[.sh (scr K ns),.sh d.pv,.sh (d.ob Aa),c8 n,s4,s5,s6,s7,s8,s9,s10]) ?_ ?_ _ _ ⟨n,_,_,_,_,_,_,_,rfl⟩
 ·rintro ε ⟨n,s4,s5,s6,s7,s8,s9,s10,rfl⟩;exact ⟨.at (.bl true),rfl,rfl⟩
 ·rintro x rest ε ⟨n,s4,s5,s6,s7,s8,s9,s10,rfl⟩;refine ⟨_,rfl,⟨n,rfl⟩,_,rfl,⟨n,rfl⟩,⟨d,rfl,ok⟩,?_⟩;rintro _ n1 ⟨e,T,he,rfl,X0⟩;have X:Trays d T:=by injection he with he _;exact ⟨by rw [Mc he];exact X0.perm,X0.each⟩
  have tl:=X.len ok;obtain ⟨ms,T',w,hl⟩:=KJ ok 90 T X (Nk ok X);have W:=w.walk ok X;have X':=W.trays ok X;have ln:=w.last;have td:=Cr (C:=Aa) ok X w hl;have td2:=Cr (C:=Aa) ok X' (Led.nil ln) (by decide);refine ⟨y6 T,f9 w4 w4 T rfl rfl (by omega) λt _=>⟨_,rfl,z6 rfl rfl⟩,?_⟩;refine ⟨_,z6 rfl td,?_⟩;refine jc (qZ (qh (qt (z6 rfl (JI _)))) (qZ (p5 (v:=false) (j6 (z6 rfl rfl) rfl ((Za _ _).trans (by rw [yZ,yB (by omega)])))) (p5 (v:=false) (j6 rfl rfl (vG (Bz T)))))) ?_;refine ⟨_,z6 rfl (v_led ok X w),?_⟩;refine jc (qZ (p5 (v:=false) (j6 rfl rfl rfl)) (p5 (v:=false) (j6 (z6 rfl (IP ok X W)) rfl (vG (Bz T'))))) ?_;refine jc (qZ (qh (qt ((z6 rfl (Ci ok X')).trans (by rw [ln];rfl)))) (p5 (v:=false) (j6 (z6 rfl (v_inT ok X' ln)) rfl rfl))) ?_;refine jc (p5 (v:=false) (j6 (z6 rfl td2) rfl (vG (x:= .lst []) (VB [])))) ?_;refine jc (p5 (v:=false) (j6 (j6 rfl rfl (LM w)) (z6 rfl (Ci ok X)) (vG rfl))) ?_;refine ⟨_,rfl,_,z6 rfl td,?_⟩;refine ⟨⟨_,rfl⟩,_,xP rfl (by exact (by decide:2<=lim)),_,rfl,(by rw [yZ];omega),?_⟩;exact jc (qZ (p5 (v:=false) (j6 (z6 rfl td) rfl (vG (VB ms)))) (p5 (v:=false) (j6 rfl rfl (vG (VB ms))))) ⟨n1,_,_,_,_,_,_,_,rfl⟩
theorem NX (F:Fun K "law" "law" vQ f fd)(A4:Fn P w K mg base 10 "in_tray_order" ["works","trays"] (j5 (QL Aa)))(N1:Fn P w K mg base 4 "_law_led" ["parts","trays","moves"] (j5 Zs))(J8:Fn P w K mg base 4 "_law_parts" ["script","most"] (spV (Xh K) vY))(D0:Fn P w K mg base 2 "_law_stream" ["script","k"] (spN (vL K) jY))(D5:Fn P w K mg base 5 "tray_walked" ["works","trays","moves"] (j5 (QU Aa)))(J0:Fn P w K mg base 2 "_law_trays" ["row","parts"] (spD ZK XA))(Ar:Fn P w K mg base 2 "_law_trays_in_order" ["parts","trays"] (j5 QW))(Ai:Fn P w K mg base 10 "trays_to_dues" ["works","trays"] (m5 (jN Aa)))(Ab:mg "isinstance"=none)(Ac:mg "len"=none)(Ag:mg "list"=none)(Ad:mg "range"=none)(J2:mg "Works"=some (.ref Aa))(E8:Mkr P w K mg base 5 Aa ["self","rinses","cloths","last","time"] (spI Aa (wH Aa))):FnOk P w K mg base v7 11 f fd ["script"] (Xq K) :=
 okL (k:=10) (b:=Uw K Aa) F sc_law (λcdv A outer s H E hr=>⟨_,(z8 (sW 1 sc_law.nd (fW J8 hr (aC (pv 0) (aW z0))))
  (z8 (sW 2 sc_law.nd (pe_mk E8 hr (by decide) rfl J2 (aC (iW (K:=K) rfl (pv 1) z0) (aC (iW (K:=K) rfl (pv 1) z0) (aC (iW (K:=K) rfl (pv 1) z0) (aW (iW (K:=K) rfl (pv 1) z0)))))))
  (z8 (sW 3 sc_law.nd (fW D0 hr (aC (pv 0) (aW z0))))
  (z8 (qO PassesOwn.never rfl (zF rfl Ad (aW z0)) (gW 4 sc_law.nd)
   (z8 (sW 5 sc_law.nd (fW J0 hr (aC (pv 3) (aW (pv 1)))))
  (z8 (zk (i:=6) (N':=["tray"]) (cap:=[none]) (b9 rfl rfl rfl) rfl sc_law.nd rfl rfl (@p0 _ K _ _ _ rfl (pv 5)) (λ_ _ _ _ _ _=>(k9 (i:=0) (by show (["tray"]:List Str).Nodup;decide +kernel) rfl (Or.inl rfl))) (λ_ _ _ _ _ _=>m9) (λ_ _ _ _ _ _=>(zB (Qp (K:=K) rfl) rfl Ag zp (aW (pv 0)))))
  (z8 (sW 7 sc_law.nd (fW Ai hr (aC (pv 2) (aW (pv 6)))))
  (z8 (c6 (PW.pt (xb (qd (qf (K:=K) rfl (u7 (xC (K:=K) rfl) rfl Ab xz (aC (pv 7) (aW (xE (v:= .ty "list") rfl Ag zp rfl)))) (λ_=>rfl))) (xb (n9 (vC) (u7 (qc (K:=K) rfl) rfl Ac PySem.boot_len (aW (pv 7))) z0 (k5 _)) (xY (n9 (zy (K:=K) (ql hr) rfl) (pv 6) (pv 5) (k5 _)))))) (z7 (w5 qN)) m4)
  (z8 (sW 8 sc_law.nd (fW N1 hr (aC (pv 1) (aC (pv 5) (aW (pv 7))))))
  (z8 (c6 (PW.pt (xb (n9 (ZC) (pv 8) zC (k5 _)) (xY (n9 (zy (K:=K) (ql hr) rfl) (fW D5 hr (aC (pv 2) (aC (pv 5) (aW (pv 7))))) (pv 8) (k5 _))))) (z7 (w5 qN)) m4)
  (z8 (c6 (PW.pt (xb (qd (qf (K:=K) rfl (fW Ar hr (aC (pv 1) (aW (pv 8)))) (λ_=>rfl))) (xY (n9 (HS) (fW A4 hr (aC (pv 2) (aW (pv 8)))) qN (k5 _))))) (z7 (w5 qN)) m4)
  (z8 (c6 (n9 (zy (K:=K) (ql hr) rfl) (fW Ai hr (aC (pv 2) (aW (pv 8)))) (@xG _ _ _ _ u4) (k5 _)) (z7 (w5 qN)) m4)
  (z8 (c6 (n9 (zy (K:=K) (ql hr) rfl) (xm (xW (K:=K) (ql hr) rfl) (pv 7) (@xG _ _ _ _ u4) (k5 _)) (fW Ar hr (aC (pv 1) (aW (pv 5)))) (k5 _)) (z7 (w5 qN)) m4)
  (z8 (sW 9 sc_law.nd (zB (Qp (K:=K) rfl) rfl Ag zp (aW (pv 7))))
  (z8 (sW 10 sc_law.nd (fW Ai hr (aC (pv 2) (aW (pv 6)))))
  (z8 (xI (zA (K:=K) rfl PySem.F.plainAttrs_list PySem.F.slot_list_append PySem.F.type_list_append vB (pv 10) (v8 (@xn _ _ _ _ _ (aC xx (aW z0))) u4)))
  (z7 (c6 (PW.pt (xb (n9 (zy (K:=K) (ql hr) rfl) (fW Ai hr (aC (pv 2) (aW (pv 6)))) (pv 9) (k5 _)) (xY (n9 (zy (K:=K) (ql hr) rfl) (pv 7) (pv 9) (k5 _))))) (z7 (w5 qN)) m4)))))))))))))))
  (z7 (w5 qN)))))),
  (by repeat' first|infer_instance|(refine @Mi.instSemWSTSeqWSeq _ _ _ _ ?_ ?_)|(apply @Mi.instSemWSTForWForOfSemWIOfSemWG))⟩) MT
theorem Df {K:Fg}{fd:FuncData}{T:Addr}{ob:Obj}{items:Array Value}{n:Nat}(hd:fd.defaults = .ref T)(q:K.lookup T=some ob)(hs:ob.data = .seq items n)(h:∀ us:List Value,us.length=ps.length->∃ k:Option (Array Value)->Sem (List (Str×Value)),bindArgs fd ⟨us,[]⟩=seqItems? fd.defaults >>= k/\k (some items)=pure (ps.zip us)):Binds K fd ps []:=λs us X hl=>by
 rw [yn] at hl ⊢;obtain ⟨k,e1,e2⟩:=h us hl;exact BindsTo.of_defaults hd (X _ _ q) hs e1 e2
abbrev so (f:Addr):Option (Option Value):=some (some (.ref f))
abbrev fO (oc:Value)(od:Option Addr)(x q:Str)(st:Stmt)(dV kV dc pm:Value)(an:Option Addr)(cd ct:Value)(sl:Array (Option Value)):Option Obj:=some ⟨oc,od,.func (PySem.W.fnOf x q (xN st) (qj st) (j7 st) dV kV dc pm an cd ct),sl⟩
theorem fnM (P:Program)(w:World)(base:Heap){K:Fg}{mg:Str->Option Value}{k:Nat}{f:Addr}{fd:FuncData}{sp:Sp}(h:FnOk P w K mg base v7 k f fd ps sp)(a:mg x=some (.ref f))(kp:PySem.W.keepIn K (.ref f)=true)(b:Binds K fd ps []):Fn P w K mg base k x ps sp:=⟨f,fd,h,a,kp,b⟩
theorem bi1 {K:Fg}{f:Addr}{fd:FuncData}{p:Str}(F:Fun K x qual st f fd)(h:∀(kV doc pm:Value)(an:Option Addr)(cdv ct u:Value),bindArgs (PySem.W.fnOf x qual (xN st) (qj st) (j7 st) .none kV doc pm an cdv ct) ⟨[u],[]⟩=pure [(p,u)]):Binds K fd [p] []:=F.binds λa b c d e g us hl=>match us,hl with|[_],_=>h a b c d e g _
theorem bi2 {K:Fg}{f:Addr}{fd:FuncData}{p:Str}(F:Fun K x qual st f fd)(h:∀(kV doc pm:Value)(an:Option Addr)(cdv ct u v:Value),bindArgs (PySem.W.fnOf x qual (xN st) (qj st) (j7 st) .none kV doc pm an cdv ct) ⟨[u,v],[]⟩=pure [(p,u),(q,v)]):Binds K fd [p,q] []:=F.binds λa b c d e g us hl=>match us,hl with|[_,_],_=>h a b c d e g _ _
structure Zt (P:Program)(w:World)(K:Fg)(mg:Str->Option Value)(base h:Heap):Prop where
 X:K.In h
 G:h.Ns mainGlobals mg
def FG (K:Fg)(x:Str)(st:Stmt):Prop:=∃ f oc od kV dc pm an cd ct sl,PySem.W.nsIn K mainGlobals x=so f/\K.lookup f=fO oc od x x st .none kV dc pm an cd ct sl/\PySem.W.codeIn K cd x=true/\PySem.W.keepIn K (.ref f)=true
theorem FG.i {K:Fg}{f:Addr}{kV:Value}(a:PySem.W.nsIn K mainGlobals x=so f)(l:K.lookup f=fO oc od x x st .none kV dc pm an cd ct sl)(c:PySem.W.codeIn K cd x=true)(k:PySem.W.keepIn K (.ref f)=true):FG K x st:=⟨_,_,_,_,_,_,_,_,_,_,a,l,c,k⟩
def FM (K:Fg)(C:Addr)(x q:Str)(st:Stmt):Prop:=∃ f oc od kV dc pm an cd ct sl,PySem.W.findIn K (.ref C) x=so f/\PySem.W.isFn K (.ref f)=true/\K.lookup f=fO oc od x q st .none kV dc pm an cd ct sl/\PySem.W.codeIn K cd q=true/\PySem.W.keepIn K (.ref f)=true
theorem FM.i {K:Fg}{C:Addr}{f:Addr}{kV:Value}(a:PySem.W.findIn K (.ref C) x=so f)(i:PySem.W.isFn K (.ref f)=true)(l:K.lookup f=fO oc od x q st .none kV dc pm an cd ct sl)(c:PySem.W.codeIn K cd q=true)(k:PySem.W.keepIn K (.ref f)=true):FM K C x q st:=⟨_,_,_,_,_,_,_,_,_,_,a,i,l,c,k⟩
abbrev BdA (x q:Str)(st:Stmt)(ps:List Str):Prop:=∀(kV doc pm:Value)(an:Option Addr)(cdv ct:Value)(us:List Value),us.length=ps.length->bindArgs (PySem.W.fnOf x q (xN st) (qj st) (j7 st) .none kV doc pm an cdv ct) ⟨us,[]⟩=pure (ps.zip us)
section
variable {P:Program}{w:World}{K:Fg}{mg:Str->Option Value}{base h:Heap}{k:Nat}{ps:List Str}{sp:Sp}{x q:Str}{st:Stmt}{C:Addr}
theorem fG (Z:Zt P w K mg base h)(a:FG K x st)(H:∀{f fd},Fun K x x st f fd->FnOk P w K mg base v7 k f fd ps sp)(b:BdA x x st ps:=by intro _ _ _ _ _ _ us hl;first|exact (match us,hl with|[_],_=>rfl)|exact (match us,hl with|[_,_],_=>rfl)|exact (match us,hl with|[_,_,_],_=>rfl)|exact (match us,hl with|[_,_,_,_],_=>rfl)|exact (match us,hl with|[_,_,_,_,_],_=>rfl)):Fn P w K mg base k x ps sp:=by obtain ⟨f,oc,od,kV,dc,pm,an,cd,ct,sl,a,l,c,kp⟩:=a;exact ⟨f,_,H (wz l c kp),PySem.W.mg_of Z.X Z.G a,kp,(wz l c kp).binds b⟩
theorem fM (Z:Zt P w K mg base h)(kc:zL K C)(a:FM K C x q st)(H:∀{f fd},Fun K x q st f fd->FnOk P w K mg base v7 k f fd ps sp)(b:BdA x q st ps:=by intro _ _ _ _ _ _ us hl;first|exact (match us,hl with|[_],_=>rfl)|exact (match us,hl with|[_,_],_=>rfl)|exact (match us,hl with|[_,_,_],_=>rfl)|exact (match us,hl with|[_,_,_,_],_=>rfl)|exact (match us,hl with|[_,_,_,_,_],_=>rfl)):Mt P w K mg base k C x ps sp:=by obtain ⟨f,oc,od,kV,dc,pm,an,cd,ct,sl,a,i,l,c,kp⟩:=a;exact ⟨f,_,H (wz l c kp),⟨a,i,kp⟩,kc.c,(wz l c kp).binds b⟩
end
theorem all_mk {l:PySem.W.OpenLaw}{w:World}{K:Fg}{h:Heap}{mg:Str->Option Value}{fa f32 f52 f63:Addr}{od32 od52 od63 an32 an52 an63:Option Addr}{sl32 sl52 sl63:Array (Option Value)}{oc32 oc52 oc63 kV32 kV52 kV63 dc32 dc52 dc63 pm32 pm52 pm63 ct32 ct52 ct63 cd52 cd63:Value}{cc32:Addr}{T52:Addr}{qc52 qv52_0 qv52_1:Value}{qd52:Option Addr}{qn52:Nat}{qs52:Array (Option Value)}(X:K.In h)(TT:∀ P∈[89],h.get? P=some (PySem.W.tabObj #[]))(hTB:TABS=[(89,#[],[((⟨35,30,35,75⟩:Pos),("by_dues.<locals>.<lambda>":Str))])])(G:h.Ns mainGlobals mg)(hfa:mg "law"=some (.ref fa))(R1:W.nsIn K mainGlobals "Works"=some (some (.ref Aa)))(N9:PySem.W.plainGet K Aa Str.empty=true)(N3:PySem.W.hasDictIn K Aa=true)(N8:PySem.W.plainOver K Aa=true)(N4:W.findIn K (.ref Aa) "__setattr__"=some (some (.builtin "object.__setattr__")))(N5:PySem.W.makesIn K Aa=true)(N7:W.keepIn K (.ref Aa)=true)(E1:W.findIn K (.ref Aa) "given"=some none)(J6:W.findIn K (.ref Aa) "held"=some none)(E7:W.findIn K (.ref Aa) "last"=some none)(E3:W.findIn K (.ref Aa) "least"=some none)(J4:W.findIn K (.ref Aa) "time"=some none)(a0:FG K "_law_mixed" WF)(a1:FG K "_law_digit" Wg)(a2:FG K "_law_stream" ZQ)(a3:FG K "_law_number" WK)(a4:FG K "_law_rinses" WO)(a5:FG K "_law_names" WH)(a6:FG K "_law_cloth" We)(a7:FG K "_law_parts" WL)(a8:FG K "_law_least" Wx)(a9:FG K "is_whole" Wu)(a10:FG K "name_of" WG)(a11:FG K "hue_of" Wj)(a12:FG K "length_of" WD)(a13:FG K "due_of" Wh)(a14:FG K "weight_of" Ye)(a15:FG K "is_from" Wn)(a16:FG K "is_name" Wp)(a17:FG K "is_cloth" Wm)(a18:FG K "is_rinse_row" Ws)(a19:FG K "check_rinses" Wb)(a20:FG K "straight_ways" WP)(a21:FG K "joined" Wv)(a22:FG K "lesser" WE)(a23:FG K "ways_through" Yd)(a24:FG K "least_ways" WB)(a25:FG K "sums_of" WQ)(a26:FG K "least_rinses" Wz)(a27:FG K "check_start" Wc)(a28:FG K "check_cloths" Wa)(a29:FM K Aa "hues" "Works.hues" VW)(a30:FM K Aa "names" "Works.names" VX)(a31:FG K "names_of" WI)(a32:W.nsIn K mainGlobals "by_dues"=so f32)(l32:K.lookup f32=fO oc32 od32 "by_dues" "by_dues" ZP .none kV32 dc32 pm32 an32 (.ref cc32) ct32 sl32)(c32:W.codeIn K (.ref cc32) "by_dues"=true)(k32:W.keepIn K (.ref f32)=true)(a33:FM K Aa "cloths_in" "Works.cloths_in" VU)(a34:FM K Aa "due_row" "Works.due_row" VV)(a35:FM K Aa "cloth" "Works.cloth" VT)(a36:FG K "are_names" VZ)(a37:FG K "is_plan" Wr)(a38:FG K "cloths_of" Wf)(a39:FG K "tray_hue" WU)(a40:FG K "is_of_one_hue" Wq)(a41:FG K "are_full_lists" VY)(a42:FG K "check_trays" Wd)(a43:FG K "due_rows" Wi)(a44:FG K "place_of" WN)(a45:FG K "tray_without" WZ)(a46:FG K "tray_moved" WW)(a47:FG K "is_tray_move" Wt)(a48:FG K "tray_walked" WY)(a49:FG K "next_move" WJ)(a50:FG K "in_tray_order" Wl)(a51:FG K "trays_to_dues" Yc)(a52:W.findIn K (.ref Aa) "__init__"=so f52)(i52:W.isFn K (.ref f52)=true)(l52:K.lookup f52=fO oc52 od52 "__init__" "Works.__init__" vP (.ref T52) kV52 dc52 pm52 an52 cd52 ct52 sl52)(c52:W.codeIn K cd52 "Works.__init__"=true)(k52:W.keepIn K (.ref f52)=true)(q52:K.lookup T52=some ⟨qc52,qd52,.seq #[qv52_0,qv52_1] qn52,qs52⟩)(a53:FG K "_law_tray_rows" WX)(a54:FG K "_law_tray_late" WV)(a55:FG K "_law_tray_end" WR)(a56:FG K "_law_tray_moved" Ww)(a57:FG K "_law_place" WM)(a58:FG K "_law_trays_in_order" Yb)(a59:FG K "_law_whole" Yf)(a60:FG K "_law_is_move" Wo)(a61:FG K "_law_led" WC)(a62:FG K "_law_trays" Ya)(a63:W.nsIn K mainGlobals "law"=so f63)(l63:K.lookup f63=fO oc63 od63 "law" "law" vQ .none kV63 dc63 pm63 an63 cd63 ct63 sl63)(c63:W.codeIn K cd63 "law"=true)(k63:W.keepIn K (.ref f63)=true)(S0:W.nsIn K mainGlobals "all"=some none)(R4:W.nsIn K mainGlobals "bool"=some none)(R3:W.nsIn K mainGlobals "dict"=some none)(N0:W.nsIn K mainGlobals "enumerate"=some none)(R8:W.nsIn K mainGlobals "int"=some none)(J3:W.nsIn K mainGlobals "isinstance"=some none)(R9:W.nsIn K mainGlobals "len"=some none)(R5:W.nsIn K mainGlobals "list"=some none)(S4:W.nsIn K mainGlobals "max"=some none)(R6:W.nsIn K mainGlobals "min"=some none)(Q8:W.nsIn K mainGlobals "range"=some none)(R7:W.nsIn K mainGlobals "set"=some none)(Q3:W.nsIn K mainGlobals "sorted"=some none)(S3:W.nsIn K mainGlobals "str"=some none)(S2:W.nsIn K mainGlobals "sum"=some none)(Q7:W.nsIn K mainGlobals "tuple"=some none)(S1:W.nsIn K mainGlobals "zip"=some none)(Ez:W.nsIn K mainGlobals "LONGEST_NAME"=some (some (.int 8 B8)))(E2:W.nsIn K mainGlobals "MOST_CLOTHS"=some (some (.int 10 D4)))(J9:W.nsIn K mainGlobals "MOST_HUES"=some (some (.int 4 Ef)))(Q9:W.nsIn K mainGlobals "PARTS"=some (some (.int 5 J5)))(hC32:PySem.W.codeHdIn K cc32 89=true)(o32:K.lookup 89=none):∃ fd:FuncData,(∀ (s:Shared) (v:Value),BindsTo s fd ⟨[v],[]⟩ [("script",v)])/\wf K h/\∀ base:Heap,K.In base->base.Ns mainGlobals mg->FnOk l.prog w K mg base v7 11 fa fd ["script"] (Xq K):=by
 have e:=hfa.symm.trans (W.mg_of X G a63);cases e;have Au:=W.mg_none_of X G S0;have Eu:=W.mg_none_of X G R4;have Aw:=W.mg_none_of X G R3;have Aj:=W.mg_none_of X G N0;have E5:=W.mg_none_of X G R8;have Ab:=W.mg_none_of X G J3;have Ac:=W.mg_none_of X G R9;have Ag:=W.mg_none_of X G R5;have N6:=W.mg_none_of X G S4;have Q2:=W.mg_none_of X G R6;have Ad:=W.mg_none_of X G Q8;have Q1:=W.mg_none_of X G R7;have D6:=W.mg_none_of X G Q3;have E4:=W.mg_none_of X G S3;have Ec:=W.mg_none_of X G S2;have Eh:=W.mg_none_of X G Q7;have Em:=W.mg_none_of X G S1;have A9:=W.mg_of X G Ez;have D3:=W.mg_of X G E2;have Ee:=W.mg_of X G J9;have J1:=W.mg_of X G Q9;have J2:=W.mg_of X G R1;have El:zL K Aa:=⟨⟨N9,N3,N8,N4⟩⟩;have Q0:NoA K Aa "given":=⟨E1⟩;have Q6:NoA K Aa "held":=⟨J6⟩;have Q4:NoA K Aa "last":=⟨E7⟩;have N2:NoA K Aa "least":=⟨E3⟩;have Q5:NoA K Aa "time":=⟨J4⟩;have F32:=wz (st:=ZP) l32 c32 k32;have F52:=Mx (st:=vP) l52 c52 k52;have F63:=wz (st:=vQ) l63 c63 k63;have b32:=bi1 (p:="cloths") F32 λ_ _ _ _ _ _ _=>rfl;have b52:Binds K (W.fnOf "__init__" "Works.__init__" (xN vP) (qj vP) (j7 vP) (.ref T52) kV52 dc52 pm52 an52 cd52 ct52) ["self","rinses","cloths","last","time"] []:=Df (T:=T52) rfl q52 rfl λus hl=>match us,hl with|[_,_,_,_,_],_=>⟨_,rfl,rfl⟩
 have tB32:(89,#[],[((⟨35,30,35,75⟩:Pos),("by_dues.<locals>.<lambda>":Str))])∈TABS:=by rw [hTB];simp
 have TK:wf K h:=by
  have hd32:=PySem.W.codeHd_of_K X hC32;refine ⟨λp hp=>?_,λp hp=>?_,λp hp q hq=>?_,λp hp=>?_,λp hp q hq e=>?_,λp hp=>?_⟩<;>rw [hTB] at hp<;>(try rw [hTB] at hq)<;>simp only [yM,ye,or_false] at hp
  ·rcases hp with rfl
   ·exact TT 89 (by simp)
  ·rcases hp with rfl
   ·exact trivial
  ·rcases hp with rfl
   ·rfl
  ·rcases hp with rfl
   ·exact (hd32.tab (TT 89 (by simp))).isCodeTable
  ·simp only [yM,ye,or_false] at hq;rcases hp with rfl<;>rcases hq with rfl<;>first|rfl|exact absurd e (by decide)
  ·rcases hp with rfl
   ·exact o32
 refine ⟨W.fnOf "law" "law" (xN vQ) (qj vQ) (j7 vQ) .none kV63 dc63 pm63 an63 cd63 ct63,λs v=> .of_eq rfl,TK,λbase _ _=>?_⟩;have Z:Zt l.prog w K mg base h:=⟨X,G⟩;have En:=fG Z a0 λF=>Hi F;have Ae:=fG Z a1 λF=>NH F;have D0:=fG Z a2 λF=>Hv F En Ac Ad Ec;have Ay:=fG Z a3 λF=>Hn F Ae;have Ew:=fG Z a4 λF=>Ht F Ae Ay Ad;have J7:=fG Z a5 λF=>Hk F Ae Ac Ad;have E9:=fG Z a6 λF=>NF F Ae Ay;have J8:=fG Z a7 λF=>Ho F E9 Ae J7 Ay Ew D0;have Id:=fG Z a8 λF=>NY F Ac Ag Q2 Ad;have Al:=fG Z a9 λF=>NU F Eu E5 Ab;have Af:=fG Z a10 λF=>Hj F;have Ak:=fG Z a11 λF=>NK F;have Eg:=fG Z a12 λF=>Hg F;have D7:=fG Z a13 λF=>NI F;have Ea:=fG Z a14 λF=>HK F;have As:=fG Z a15 λF=>NN F Al;have Er:=fG Z a16 λF=>NP F Au Ab Ac E4 A9;have Ei:=fG Z a17 λF=>NM F D7 Ak As Er Al Eg Af Ea Ab Ac Eh J1;have B6:=fG Z a18 λF=>NS F Al Au Ab Ac Ag;have B4:=fG Z a19 λF=>NC F B6 Au Ab Ac Ag Ee;have A6:=fG Z a20 λF=>Hu F Aj;have Ex:=fG Z a21 λF=>NV F;have Ey:=fG Z a22 λF=>Hh F;have A8:=fG Z a23 λF=>HJ F Ex Ey Em;have D8:=fG Z a24 λF=>He F A6 A8 Ac Ad;have Es:=fG Z a25 λF=>Hy F;have B7:=fG Z a26 λF=>NZ F B4 D8 Es;have D2:=fG Z a27 λF=>ND F As;have B3:=fG Z a28 λF=>NB F Ei Af Ac D3;have Am:=fM (sp:=(j5 (jo Aa))) Z El a29 λF=>Nv F Ac;have An:=fM (sp:=(m5 (vA Aa))) Z El a30 λF=>Nx F D6;have Ej:=fG Z a31 λF=>Hl F Af;have Et:=fnM l.prog w base (NA F32 D7 Af D6 rfl (λ_ X2=>PySem.W.codeHd_of_K X2 hC32) tB32) (W.mg_of X G a32) k32 b32;have Az:=fM (sp:=(m5 (QH Aa))) Z El a33 λF=>Nt F Ak;have A5:=fM (sp:=(m5 (wG Aa))) Z El a34 λF=>Nu F Et Ej Az;have Ao:=fM (sp:=(j5 (vz Aa))) Z El a35 λF=>Nr F Ab E4;have Ed:=fG (sp:=(j5 (QI Aa))) Z a36 λF=>Nz F Au Ab Ac Ag Q1 An;have Eo:=fG (sp:=(j5 (QO Aa))) Z a37 λF=>NR F Ed Ac An;have Eb:=fG (sp:=(j5 (QJ Aa))) Z a38 λF=>NG F Ao;have Av:=fG (sp:=(j5 (jK Aa))) Z a39 λF=>HA F Ak Ao;have A7:=fG (sp:=(j5 (QN Aa))) Z a40 λF=>NQ F Eb Ak Av Au;have A3:=fG Z a41 λF=>Ny F Au Ab Ac Ag;have Ah:=fG (sp:=(j5 (jp Aa))) Z a42 λF=>NE F A3 A7 Eo Au Ec;have Ek:=fG (sp:=(m5 (wI Aa))) Z a43 λF=>NJ F Ad A5 Am;have Ap:=fG Z a44 λF=>Hr F Aj;have B5:=fG Z a45 λF=>HF F;have At:=fG Z a46 λF=>HC F B5;have B0:=fG (sp:=(j5 (jG Aa))) Z a47 λF=>NT F Ap Av Ac;have D5:=fG (sp:=(j5 (QU Aa))) Z a48 λF=>HE F Ah B0 At Aj Ag;have Aq:=fG (sp:=(j5 (jq Aa))) Z a49 λF=>Hm F Ek Ap Em;have A4:=fG (sp:=(j5 (QL Aa))) Z a50 λF=>NL F Ah Aq;have Ai:=fG (sp:=(m5 (jN Aa))) Z a51 λF=>HI F Ah Aq At;have E8:Mkr l.prog w K mg base _ Aa _ (spI Aa (wH Aa)):=⟨_,_,Nw F52 B3 D2 B7 Af Aw Ag Am,⟨N5,a52,i52,N7⟩,b52⟩;have Ax:=fG Z a53 λF=>HD F Id Aw Ec;have D1:=fG Z a54 λF=>HB F Ax Aw N6 Em;have D9:=fG Z a55 λF=>Hz F Ax;have B9:=fG Z a56 λF=>NW F Ac;have Ev:=fG Z a57 λF=>Hq F;have Ar:=fG Z a58 λF=>HH F Ev;have E6:=fG Z a59 λF=>HL F Eu E5 Ab;have Ep:=fG Z a60 λF=>NO F E6 Aw Ab Ac Eh;have N1:=fG Z a61 λF=>Hf F Ep B9 D9 D1;have J0:=fG Z a62 λF=>HG F Ae Aw Ac Ad;exact NX F63 A4 N1 J8 D0 D5 J0 Ar Ai Ab Ac Ag Ad J2 E8
theorem walk {l:PySem.W.OpenLaw}{q:Program}{loose:List Str}{XP:(Str->Option Value)->Heap->Prop}{YP:World->Heap->Prop}{d:DefRec}{K:Params->Fg}(hn:l.most=some 63)(hdf:d.params.defaults=[])(hY:∀ (w:World) (h:Heap),YP w h->(K w.params).In h)(F:∀ (w:World) (mg:Str->Option Value) (fa:Addr) (h:Heap),YP w h->(K w.params).In h->h.Ns mainGlobals mg->mg d.name=some (.ref fa) -> ∃ fd:FuncData,(∀ (s:Shared) (u:Value),BindsTo s fd ⟨[u],[]⟩ [("script",u)])/\wf (K w.params) h/\∀ base:Heap,(K w.params).In base->base.Ns mainGlobals mg->FnOk l.prog w (K w.params) mg base v7 11 fa fd ["script"] (Xq (K w.params))):PySem.W.WalkO q loose XP YP l.row.toRowW d [] (λf vs=>PySem.call f vs) :=
 L2.IT (n:=63) (k:=11) (x:="script") (CX:=λ_=>v7) (sp:=λw=>Xq (K w.params)) hn (by decide) hdf ⟨rfl,by decide,by decide⟩ hY F (λ_ _ a ns hl _ hS=>⟨a,ns,rfl,hS,hl,λ_=>rfl⟩) λ_ _ _ _ _ z=>z
end Lw
open PySem PySem.W PyProof.Rows
set_option maxRecDepth 100000 in
set_option maxHeartbeats 0 in
theorem PySem.Challenge.cw_rinsework_k68_whole_trays_to_due_order_holds : PySem.Challenge.rw_rinsework_k68_whole_trays_to_due_order.Holds := by
  w_on; o_law; k_head; (case hw => w_witness2)
  k_fill
  refine Lw.walk (l := PySem.Challenge.rw_rinsework_k68_whole_trays_to_due_order) rfl rfl (λw h Y => PySem.W.km_in_of Y) ?F
  case F =>
    intro w mg fa h Y KX G hmg
    apply Lw.all_mk KX (PySem.W.km_tabs_of Y) rfl G hmg
    iterate 12 k_is
    iterate 29 (apply Lw.FG.i;iterate 4 k_is)
    iterate 2 (apply Lw.FM.i;iterate 5 k_is)
    iterate 1 (apply Lw.FG.i;iterate 4 k_is)
    iterate 4 k_is
    iterate 3 (apply Lw.FM.i;iterate 5 k_is)
    iterate 16 (apply Lw.FG.i;iterate 4 k_is)
    iterate 6 k_is
    iterate 10 (apply Lw.FG.i;iterate 4 k_is)
    iterate 25 k_is
    iterate 2 kernel_rfl
