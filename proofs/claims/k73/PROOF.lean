import PyProof.Rows.All
import Wide.All
import OpenK.AllK
import Wide.FinOn
import Lean
import PyProof.EqAt
import PyProof.EqKinds
import PyProof.NeKinds
import PyProof.TupleCall
import PySem.Challenge.RW_rinsework_k73_vats_told
set_option Elab.async false
set_option linter.all false
set_option maxRecDepth 100000
namespace PySem.W.Fast
theorem tw7085948546047526784:True:=trivial
theorem tw3037412075641975874:True:=trivial
theorem tw82569295535698435:True:=trivial
theorem tw14703136151465505254:True:=trivial
theorem tw7389093974046731527:True:=trivial
theorem tw8905284014574959209:True:=trivial
theorem tw2070632754857307338:True:=trivial
theorem tw12328969651448454571:True:=trivial
theorem tw2072467770860713579:True:=trivial
theorem tw2192563242461476464:True:=trivial
theorem tw2760876706852531409:True:=trivial
theorem tw7938148634470604531:True:=trivial
theorem tw2477034024936502745:True:=trivial
theorem tw2026669280462907386:True:=trivial
theorem tw2677891747719320988:True:=trivial
theorem tw12656940157622441278:True:=trivial
theorem tw13931458530692718430:True:=trivial
theorem tw7571138689847435007:True:=trivial
end PySem.W.Fast
abbrev yZ:=@List.length_map
abbrev yY:=@PySem.wpAny_bind
abbrev yX:=@PySem.Heap.get?_push_of_some
abbrev yW:=@List.size_toArray
abbrev yV:=@List.getElem?_eq_getElem
abbrev yU:=@Nat.le_refl
abbrev yT:=@PySem.Heap.lt_size
abbrev yS:=@Bool.false_ne_true
abbrev yR:=@List.getElem?_map
abbrev yQ:=@Nat.ne_of_lt
abbrev yP:=@PySem.wpAny_pure
abbrev yO:=@List.mem_singleton
abbrev yN:=@List.map_cons
abbrev yM:=@List.length_append
abbrev yL:=@List.mem_cons
abbrev yK:=@List.mem_cons_of_mem
abbrev yJ:=@PySem.Heap.get?_push_size
abbrev yI:=@List.getElem?_set
abbrev yH:=@List.mem_cons_self
abbrev yG:=@Option.map_eq_some_iff
abbrev yF:=@Int.emod_lt_of_pos
abbrev yE:=@Option.bind_some
abbrev yD:=@List.getD_eq_getElem?_getD
abbrev yC:=@Nat.lt_of_lt_of_le
abbrev yB:=@decide_eq_false
abbrev yA:=@List.getElem?_eq_some_iff
abbrev yz:=@Int.emod_nonneg
abbrev yy:=@List.map_append
abbrev yx:=@List.nodup_cons
abbrev yw:=@PySem.Heap.get?_update_other
abbrev yv:=@List.getElem?_set_ne
abbrev yu:=@List.length_cons
abbrev yt:=@List.mem_map
abbrev yr:=@List.append_nil
abbrev yq:=@List.map_map
abbrev yp:=@List.mem_append_right
abbrev yo:=@List.length_set
abbrev yn:=@List.getElem_mem
abbrev ym:=@List.mem_of_getElem?
abbrev yk:=@Nat.zero_le
abbrev yj:=@decide_eq_true
abbrev yi:=@List.not_mem_nil
abbrev yh:=@List.getElem_toArray
abbrev yg:=@List.mem_append
abbrev yf:=@Int.eq_ofNat_of_zero_le
abbrev ye:=@Nat.lt_irrefl
abbrev yd:=@Nat.le_trans
abbrev yc:=@Nat.le_of_lt
abbrev yb:=@List.getElem?_set_self
abbrev ya:=@List.drop_eq_getElem_cons
abbrev uZ:=@PySem.Heap.get?_update_self
abbrev uY:=@Bool.false_eq_true
abbrev uX:=@List.lookup_cons
abbrev uW:=@PySem.Heap.size_push
abbrev uV:=@Array.getElem?_eq_getElem
abbrev uU:=@Bool.and_eq_true
abbrev uT:=@List.all_eq_true
abbrev uS:=@List.nodup_nil
abbrev uR:=@of_decide_eq_true
abbrev uQ:=@List.append_assoc
abbrev uP:=@List.getElem_of_mem
abbrev uO:=@List.mem_range
abbrev uN:=@List.getElem?_append_left
abbrev uM:=@List.find?_cons
abbrev uL:=@Option.map_some
abbrev uK:=@List.flatten_cons
abbrev uJ:=@Nat.lt_succ_self
abbrev uI:=@List.length_replicate
abbrev uH:=@List.getElem?_append_right
abbrev uG:=@List.nodup_append
abbrev uF:=@Int.le_refl
abbrev uE:=@List.getElem_map
abbrev uD:=@List.map_congr_left
abbrev uC:=@List.getElem?_replicate
abbrev uB:=@List.length_eq_zero_iff
abbrev uA:=@List.mem_filter
abbrev uz:=@Nat.le_succ
abbrev uy:=@Nat.lt_succ_of_lt
abbrev ux:=@List.length_range
abbrev uw:=@Nat.ne_of_gt
abbrev uu:=@List.getElem?_eq_none
abbrev ut:=@List.length_take
abbrev ur:=@List.length_drop
abbrev uq:=@List.drop_length
namespace L2
abbrev Fg:=PySem.W.Frag
end L2
namespace L2
open PySem PySem.Spec PyProof.Rows
variable{us:List Value}{C a b dx it:Addr}{u:Value}{P:Program}{w:World}{base h:Heap}{g':Array GenState}{j n t':Nat}{d':Drawn}{ch fp:List Addr}{m qual x:Str}{c e tg:Expr}{N ps:List Str}{A:Around}{E Q:Value->Shared->Prop}{s s':Shared}{α:Type}{pins:List (Addr×Obj)}{pos:Pos}{op op':CmpOp}{K:Fg}{f:Value->Value->Sem Value}{es:List Expr}{lo:Int}{pl:Sem Bool}{mA mg:Str->Option Value}{kw:List (Str×Value)}{fd:FuncData}{outer:List Env}{scope:Scope}
abbrev z7:=Sum Int Str
def ji:z7->Value->Bool
 | .inl k,v=>Value.isInt k v
 | .inr x,v=>Value.isStrOf x v
def keyH (w:World):z7->Int
 | .inl k=>hashInt k
 | .inr x=>hashStr w x
theorem za:∀{k:z7}{v:Value},ji k v=true->(∃ i t,k=Sum.inl i/\v=Value.int i t)∨(∃ x t,k=Sum.inr x/\v=Value.str x t)
 | .inl i,v,h=>by
  obtain ⟨t,e⟩:=Value.isInt_shape (k:=i) (v:=v) h;exact .inl ⟨i,t,rfl,e⟩
 | .inr x,v,h=>by
  obtain ⟨t,e⟩:=Value.isStrOf_shape (x:=x) (v:=v) h;exact .inr ⟨x,t,rfl,e⟩
theorem Bp (i:Int)(t:Tok):ji (.inl i) (.int i t)=true:=by simp [ji,Value.isInt]
theorem WE (x:Str)(t:Tok):ji (.inr x) (.str x t)=true:=by simp [ji,Value.isStrOf]
theorem Bq (a b:Int):decide ((Sum.inl a:z7)=Sum.inl b)=(a==b):=by
 by_cases e:a=b
 ·subst e;simp
 ·have h:¬ (Sum.inl a:z7)=Sum.inl b:=λq=>e (Sum.inl.inj q);rw [yB h];exact (beq_eq_false_iff_ne.mpr e).symm
theorem Bt (a b:Str):decide ((Sum.inr a:z7)=Sum.inr b)=decide (a=b):=by
 by_cases e:a=b
 ·subst e;simp
 ·have h:¬ (Sum.inr a:z7)=Sum.inr b:=λq=>e (Sum.inr.inj q);rw [yB h,yB e]
theorem Br (a:Int)(b:Str):decide ((Sum.inl a:z7)=Sum.inr b)=false:=yB (λq=>nomatch q)
theorem Bs (a:Str)(b:Int):decide ((Sum.inr a:z7)=Sum.inl b)=false:=yB (λq=>nomatch q)
def i4 (prog:Program)(w:World):PySem.KeyKind prog w z7 where
 is:=ji
 hash:=keyH w
 inj:=λv a b ha hb=>by
  rcases za ha with ⟨i,t,rfl,rfl⟩|⟨x,t,rfl,rfl⟩
  ·rcases za hb with ⟨j,u,rfl,e⟩|⟨y,u,rfl,e⟩
   ·injection e with e1 _;rw [e1]
   ·exact nomatch e
  ·rcases za hb with ⟨j,u,rfl,e⟩|⟨y,u,rfl,e⟩
   ·exact nomatch e
   ·injection e with e1 _;rw [e1]
 byValue:=λk v h=>by
  rcases za h with ⟨i,t,rfl,rfl⟩|⟨x,t,rfl,rfl⟩<;>rfl
 pyHash:=λhv h=>by
  rcases za hv with ⟨i,t,rfl,rfl⟩|⟨x,t,rfl,rfl⟩
  ·exact wpAny_pyHash_int h
  ·exact wpAny_pyHash_str h
 eqBool:=λhu hv h=>by
  rcases za hu with ⟨i,t,rfl,rfl⟩|⟨x,t,rfl,rfl⟩
  ·rcases za hv with ⟨j,u,rfl,rfl⟩|⟨y,u,rfl,rfl⟩
   ·rw [Bq] at h;exact wpAny_eqBool_int h
   ·rw [Br] at h;exact SeqAt.EqAt.int_str i t y u _ _ _ _ h
  ·rcases za hv with ⟨j,u,rfl,rfl⟩|⟨y,u,rfl,rfl⟩
   ·rw [Bs] at h;exact SeqAt.EqAt.str_int x t j u _ _ _ _ h
   ·rw [Bt] at h;exact wpAny_eqBool_str h
 «strs»:=λk x t v h=>by
  rcases za h with ⟨i,u,rfl,e⟩|⟨y,u,rfl,e⟩
  ·exact nomatch e
  ·injection e with e1 _;subst e1;cases v<;>rfl
theorem BR (prog:Program)(w:World)(i:Int)(t:Tok):(i4 prog w).is (.inl i) (.int i t)=true:=Bp i t
theorem XT (prog:Program)(w:World)(x:Str)(t:Tok):(i4 prog w).is (.inr x) (.str x t)=true:=WE x t
inductive V where
 |non|bl (b:Bool)|int (i:Int)|str (x:Str)|byt (b:Array UInt8)|flt (b:UInt64)|ref (a:Addr)|ty (n:String)
 deriving DecidableEq
variable{vs xs:List V}{v y:V}
def RelV:V->Value->Prop
 | .non,u=>u=Value.none
 | .bl b,u=>u=Value.bool b
 | .int i,u=>∃ t,u=Value.int i t
 | .str x,u=>∃ t,u=Value.str x t
 | .byt b,u=>∃ t,u=Value.bytes b t
 | .flt b,u=>∃ t,u=Value.float b t
 | .ref a,u=>u=Value.ref a
 | .ty n,u=>u=Value.type n
abbrev Vals:List V->List Value->Prop:=Paired RelV
theorem Vals.length (r:Vals xs us):xs.length=us.length:=Paired.length r
theorem Vals.get:∀{xs:List V}{us:List Value}{i:Nat}{x:V},Vals xs us->xs[i]?=some x->∃ u,us[i]?=some u/\RelV x u
 |_,_,_,_,.nil,e=>by simp at e
 |_,_,0,_,.cons r _,e=>by simp at e;subst e;exact ⟨_,rfl,r⟩
 |_,_,i+1,x,.cons _ t,e=>by
  obtain ⟨u,h1,h2⟩:=Vals.get (i:=i) (x:=x) t (by simpa using e);exact ⟨u,by simpa using h1,h2⟩
theorem Vals.set {x:V}{u:Value}(r:RelV x u):∀{xs:List V}{us:List Value}(i:Nat),Vals xs us->Vals (xs.set i x) (us.set i u)
 |_,_,_,.nil=> .nil
 |_,_,0,.cons _ t=> .cons r t
 |_,_,i+1,.cons q t=> .cons q (Vals.set r i t)
theorem Vals.append:∀{xs ys:List V}{us ws:List Value},Vals xs us->Vals ys ws->Vals (xs++ys) (us++ws)
 |_,_,_,_,.nil,s=>s
 |_,_,_,_,.cons r t,s=> .cons r (Vals.append t s)
theorem Vals.take:∀{xs:List V}{us:List Value}(n:Nat),Vals xs us->Vals (xs.take n) (us.take n)
 |_,_,0,_=> .nil
 |_,_,_+1,.nil=> .nil
 |_,_,n+1,.cons r t=> .cons r (Vals.take n t)
theorem Vals.drop:∀{xs:List V}{us:List Value}(n:Nat),Vals xs us->Vals (xs.drop n) (us.drop n)
 |_,_,0,r=>r
 |_,_,_+1,.nil=> .nil
 |_,_,n+1,.cons _ t=>Vals.drop n t
def RelO:Option V->Option Value->Prop
 |some v,some u=>RelV v u
 |none,none=>True
 |_,_=>False
def KV {κ:Type}:List (κ×V)->List (κ×Value)->Prop:=Paired λ(p:κ×V) (q:κ×Value)=>p.1=q.1/\RelV p.2 q.2
def kV:z7->V
 | .inl i=> .int i
 | .inr x=> .str x
def TABS:List (Addr×Array Value×List (Pos×Str)):=[]
inductive HO where
 /-- a list -/
 |lst (xs:List V)
 /-- a tuple (never changes) -/
 |tup (xs:List V)
 /-- a dict whose keys are ints and texts;one whose keys are tuples of ints and texts (the empty one is both) -/
 |dK (kvs:List (z7×V))|dT (kvs:List (List z7×V))
 /-- a set of ints: its members,its size -/
 |set (S:Int->Bool) (n:Nat)
 /-- an instance of the class at C,its dict at dx,its attributes -/
 |ins (C dx:Addr) (fs:List (Str×V))
 /-- the dict of the instance at x -/
 |own (x:Addr)
 /-- the dict of an exception -/
 |xd (fs:List (Str×V))
 /-- a bound method,f of x -/
 |met (f x:Addr)
 /-- a range object lo,lo+1,.. below hi -/
 |rng (lo hi:Int)
 /-- a thing that is known to the object (the script;a dict while a loop walks it): read,never written while it is so -/
 |frz (o:Obj) (u:HO)
 /-- a code object's table -/
 |tbl (ps:Array Value) (q:List (Pos×Str))
 /-- any other thing,by what is true of its one object (a def of one's own: zW a S n:=HO.ext λh=> ..) -/
 |ext (φ:Heap->Prop)
variable{o:HO}
abbrev Hp:=Addr->Option HO
variable{H:Hp}{R:V->V->Hp->Prop}
def j0 (H:Hp)(a:Addr)(o:HO):Hp:=λb=>if b=a then some o else H b
theorem y0 :j0 H a o a=some o:=by unfold j0;rw [if_pos rfl]
theorem j3 (h:b≠a):j0 H a o b=H b:=by unfold j0;rw [if_neg h]
theorem ne_of {u:HO}(h:H a=some o)(h':H b=some u)(d:o≠u):a≠b:=by intro e;subst e;rw [h] at h';exact d (Option.some.inj h')
theorem u7 (h:H a=some o)(h':H b=none):a≠b:=by intro e;subst e;rw [h] at h';cases h'
section
variable (P:Program)(w:World)
def ObjOk (H:Hp)(h:Heap)(a:Addr):HO->Prop
 | .lst xs=>xs.length<=sizeLine/\∃ (its:List Value) (n:Nat),Vals xs its/\h.get? a=some { cls:= .type "list",data:= .seq its.toArray n }
 | .tup xs=>xs.length<=sizeLine/\∃ its:List Value,Vals xs its/\IsTup h a its.toArray
 | .dK kvs=>kvs.length<=sizeLine/\(a==sysModules)=false/\∃ vs,KV kvs vs/\h.DictOf (i4 P w) a vs
 | .dT kvs=>kvs.length<=sizeLine/\(a==sysModules)=false/\∃ xs:List (List z7×Addr×Value),
   Paired (λ(p:List z7×V) (q:List z7×Addr×Value)=>p.1=q.1/\H q.2.1=some (.tup (p.1.map kV))/\RelV p.2 q.2.2) kvs xs /\
   ∃ o es ep,h.get? a=some o/\o.ExactDict/\o.data = .dict es ep/\es.toList=xs.map (entryOfKey (tupleKind (i4 P w)))/\(xs.map (·.1)).Nodup
 | .set S n=>h.SetOf (intKind P w) a S n
 | .ins C dx fs=>H dx=some (.own a)/\fs.length<=1000/\dx≠a/\h.get? a=some (PySem.W.instObj C dx) /\
   ∃ mA,h.Ns1 dx mA/\(∀ f,RelO (fs.lookup f) (mA f))/\PySem.Within mA (fs.map (·.1))
 | .own _=>∃ o,h.get? a=some o
 | .xd fs=>∃ mA,h.Ns1 a mA/\∀ f,RelO (fs.lookup f) (mA f)
 | .rng lo hi=>∃ t u v,h.get? a=some { cls:= .type "range",data:= .fields #[.int lo t,.int hi u,.int 1 v] }
 | .frz o u=>h.get? a=some o/\ObjOk H h a u
 | .tbl ps q=>∃ more:Array Value,h.get? a=some { cls:= .none,data:= .fields (ps++more) }/\TriplesOk (ps++more).toList /\
   ∀ p∈q,codeAmong p.1 (ps++more).toList=none∨∃ c o vs t,codeAmong p.1 (ps++more).toList=some (.ref c)/\H c=some (.frz o (.own a))/\o.data = .fields vs/\vs[1]?=some (.str p.2 t)
 | .met f x=>h.get? a=some (PySem.W.methodObj (.ref f) (.ref x))
 | .ext φ=>φ h/\(∃ o,h.get? a=some o)/\∀ h1 h2:Heap,φ h1->(∀ o,h1.get? a=some o->h2.get? a=some o)->φ h2
def HOk (H:Hp)(h:Heap):Prop:=∀ a o,H a=some o->ObjOk P w H h a o
end
section
variable {P:Program}{w:World}{H H':Hp}{h h':Heap}{a:Addr}{o:HO}
theorem ObjOk.lt (x:ObjOk P w H h a o):a<h.objs.size:=by
 cases o with
 |lst xs=>obtain ⟨_,_,_,_,e⟩:=x;exact yT e
 |tup xs=>obtain ⟨_,_,_,p⟩:=x;exact p.lt
 |dK kvs=>obtain ⟨_,_,_,_,o,_,_,e,_⟩:=x;exact yT e
 |dT kvs=>obtain ⟨_,_,_,_,o,_,_,e,_⟩:=x;exact yT e
 |set S n=>obtain ⟨o,_,_,_,e,_⟩:=x;exact yT e
 |ins C dx fs=>obtain ⟨_,_,_,e,_⟩:=x;exact yT e
 |own y=>obtain ⟨_,e⟩:=x;exact yT e
 |xd fs=>obtain ⟨_,⟨_,_,_,e,_⟩,_⟩:=x;exact yT e
 |rng lo hi=>obtain ⟨_,_,_,e⟩:=x;exact yT e
 |frz ob u=>obtain ⟨e,_⟩:=x;exact yT e
 |tbl ps q=>obtain ⟨_,e,_⟩:=x;exact yT e
 |met f y=>exact yT (show h.get? a=some _ from x)
 |ext φ=>obtain ⟨_,⟨_,e⟩,_⟩:=x;exact yT e
theorem Paired.mapP {α β:Type}{F G:α->β->Prop}:∀{l₁:List α}{l₂:List β},Paired F l₁ l₂->(∀ a b,F a b->G a b)->Paired G l₁ l₂
 |_,_,.nil,_=> .nil
 |_,_,.cons r t,f=> .cons (f _ _ r) (Paired.mapP t f)
theorem ObjOk.stay (x:ObjOk P w H h a o)(k:∀ b u,(b=a∨H b=some (.own a))->h.get? b=some u->h'.get? b=some u)(ho:∀ b,H b=some (.own a)->H' b=some (.own a))(ht:∀ b xs,H b=some (.tup xs)->H' b=some (.tup xs))(hz:∀ b o u,H b=some (.frz o u)->H' b=some (.frz o u)):ObjOk P w H' h' a o:=by
 induction o with
 |lst xs=>obtain ⟨z,its,n,r,e⟩:=x;exact ⟨z,its,n,r,k _ _ (.inl rfl) e⟩
 |tup xs=>obtain ⟨z,its,r,ob,e,c⟩:=x;exact ⟨z,its,r,ob,k _ _ (.inl rfl) e,c⟩
 |dK kvs=>obtain ⟨z,y,vs,r,ob,es,ep,e,c⟩:=x;exact ⟨z,y,vs,r,ob,es,ep,k _ _ (.inl rfl) e,c⟩
 |dT kvs=>obtain ⟨z,y,xs,r,ob,es,ep,e,c⟩:=x;exact ⟨z,y,xs,Paired.mapP r λp q z=>⟨z.1,ht _ _ z.2.1,z.2.2⟩,ob,es,ep,k _ _ (.inl rfl) e,c⟩
 |set S n=>obtain ⟨ob,es,ep,t,e,c⟩:=x;exact ⟨ob,es,ep,t,k _ _ (.inl rfl) e,c⟩
 |ins C dx fs=>obtain ⟨d,z,ne,e,mA,⟨od,es,ep,e2,c⟩,r⟩:=x;exact ⟨ho _ d,z,ne,k _ _ (.inl rfl) e,mA,⟨od,es,ep,k _ _ (.inr d) e2,c⟩,r⟩
 |own y=>obtain ⟨ob,e⟩:=x;exact ⟨ob,k _ _ (.inl rfl) e⟩
 |xd fs=>obtain ⟨mA,⟨od,es,ep,e,c⟩,r⟩:=x;exact ⟨mA,⟨od,es,ep,k _ _ (.inl rfl) e,c⟩,r⟩
 |rng lo hi=>obtain ⟨t,u,v,e⟩:=x;exact ⟨t,u,v,k _ _ (.inl rfl) e⟩
 |frz ob u ih=>obtain ⟨e,q⟩:=x;exact ⟨k _ _ (.inl rfl) e,ih q⟩
 |tbl ps q =>
  obtain ⟨more,e,t,r⟩:=x;refine ⟨more,k a _ (.inl rfl) e,t,λp hp=>?_⟩;rcases r p hp with z|⟨c,o,vs,t,z,oc,e2⟩
  ·exact .inl z
  ·exact .inr ⟨c,o,vs,t,z,hz c o _ oc,e2⟩
 |met f y=>have e:h.get? a=some (PySem.W.methodObj (.ref f) (.ref y)):=x;show h'.get? a=some (PySem.W.methodObj (.ref f) (.ref y));exact k a _ (.inl rfl) e
 |ext φ=>obtain ⟨p,⟨o,e⟩,st⟩:=x;exact ⟨st _ _ p λo q=>k _ _ (.inl rfl) q,⟨o,k _ _ (.inl rfl) e⟩,st⟩
theorem HOk.lt (x:HOk P w H h)(e:H a=some o):a<h.objs.size:=(x a o e).lt
theorem HOk.fresh (x:HOk P w H h)(e:h.objs.size<=a):H a=none:=by
 cases q:H a with
 |none=>rfl
 |some u=>exact absurd (yC (x.lt q) e) (ye _)
theorem HOk.kept (x:HOk P w H h)(k:∀ b u,h.get? b=some u->h'.get? b=some u):HOk P w H h':=λa o e =>
 (x a o e).stay (λb u _ q=>k b u q) (λ_ q=>q) (λ_ _ q=>q) λ_ _ _ q=>q
theorem HOk.laid (x:HOk P w H h)(k:∀ b u,h.get? b=some u->h'.get? b=some u)(hp:h.objs.size<=a)(new:ObjOk P w (j0 H a o) h' a o):HOk P w (j0 H a o) h':=λb u e=>by
 have hn:=x.fresh hp;by_cases hb:b=a
 ·subst hb;rw [y0] at e;cases e;exact new
 ·rw [j3 hb] at e;exact (x b u e).stay (λc v _ q=>k c v q) (λc q=>by rw [j3 (u7 q hn)];exact q) (λc xs q=>by rw [j3 (u7 q hn)];exact q) λc _ _ q=>by rw [j3 (u7 q hn)];exact q
end
def Rd (H:Hp)(a:Addr)(u:HO):Prop:=H a=some u∨∃ o,H a=some (.frz o u)
theorem Rd.ok {u:HO}(r:Rd H a u)(x:HOk P w H h):ObjOk P w H h a u:=by
 rcases r with r|⟨o,r⟩
 ·exact x a u r
 ·obtain ⟨_,q⟩:=x a _ r;exact q
def Mut:Option HO->Prop
 |some (.lst _)=>True
 |some (.dK _)=>True
 |some (.dT _)=>True
 |some (.set _ _)=>True
 |some (.ins _ _ _)=>True
 |some (.ext _)=>True
 |_=>False
section
variable {P:Program}{w:World}{H:Hp}{h h':Heap}{x e:Addr}{o':HO}
theorem HOk.write (ok:HOk P w H h)(mu:Mut (H x))(he:e=x∨H e=some (.own x))(k:∀ b u,b≠e->h.get? b=some u->h'.get? b=some u)(heo:∃ u,h'.get? e=some u)(new:ObjOk P w (j0 H x o') h' x o'):HOk P w (j0 H x o') h':=λb u q=>by
 have nown:∀ c y,H c=some (.own y)->c≠x:=λc y r z=>by subst z;rw [r] at mu;exact mu
 have ntup:∀ c xs,H c=some (.tup xs)->c≠x:=λc xs r z=>by subst z;rw [r] at mu;exact mu
 have nfrz:∀ c ob xs,H c=some (.frz ob xs)->c≠x:=λc ob xs r z=>by subst z;rw [r] at mu;exact mu
 by_cases hb:b=x
 ·subst hb;rw [y0] at q;cases q;exact new
 ·rw [j3 hb] at q;by_cases hbe:b=e
  ·have q':H b=some (.own x):=by
    rcases he with z|z
    ·exact absurd (hbe.trans z) hb
    ·rw [hbe];exact z
   rw [q] at q';cases q';obtain ⟨v,hv⟩:=heo;exact ⟨v,by rw [hbe];exact hv⟩
  ·refine (ok b u q).stay (λc v hc r=>k c v ?_ r) (λc r=>by rw [j3 (nown c b r)];exact r) (λc xs r=>by rw [j3 (ntup c xs r)];exact r) λc ob xs r=>by rw [j3 (nfrz c ob xs r)];exact r
   rcases hc with rfl|hc
   ·exact hbe
   ·rintro rfl;rcases he with z|z
    ·exact nown c b hc z
    ·rw [hc] at z;cases z;exact hb rfl
end
structure Un (fs ex:List Addr)(H H':Hp)(h h':Heap):Prop where
 keep:∀ b o,h.get? b=some o->H b=none->b∉fs->b∉ex->h'.get? b=some o
 slot:∀ b o,h.get? b=some o->H b=none->b∈fs->b∉ex->∃ sl,h'.get? b=some { o with slots:=sl }
 free:∀ b o,h.get? b=some o->H b=none->b∉ex->H' b=none
 there:∀ b o,h.get? b=some o->b∉ex->∃ o',h'.get? b=some o'
 tups:∀ b xs,H b=some (.tup xs)->H' b=some (.tup xs)
 frzs:∀ b o u,H b=some (.frz o u)->H' b=some (.frz o u)
 tbls:∀ b ps q,H b=some (.tbl ps q)->H' b=some (.tbl ps q)
section
variable {fs fs' ex ex':List Addr}{H H1 H2:Hp}{h h1 h2 h':Heap}{a x e:Addr}{o:HO}
theorem Un.any (u:Un fs ex H H1 h h1){ob:Obj}(q:h.get? b=some ob)(n:H b=none)(hx:b∉ex):∃ sl,h1.get? b=some { ob with slots:=sl }:=by
 by_cases hb:b∈fs
 ·exact u.slot b ob q n hb hx
 ·exact ⟨ob.slots,u.keep b ob q n hb hx⟩
theorem Un.kept (k:∀ b u,h.get? b=some u->h'.get? b=some u):Un fs ex H H h h' :=
 ⟨λb ob q _ _ _=>k b ob q,λb ob q _ _ _=>⟨ob.slots,k b ob q⟩,λ_ _ _ n _=>n,λb ob q _=>⟨ob,k b ob q⟩,λ_ _ q=>q,λ_ _ _ q=>q,λ_ _ _ q=>q⟩
theorem Un.refl:Un fs ex H H h h:=Un.kept λ_ _ q=>q
theorem Un.laid (k:∀ b u,h.get? b=some u->h'.get? b=some u)(hp:h.objs.size<=a)(hn:H a=none):Un fs ex H (j0 H a o) h h' where
 keep:=λb u q _ _ _=>k b u q
 slot:=λb u q _ _ _=>⟨u.slots,k b u q⟩
 free:=λb u q n _=>by rw [j3 (yQ (yC (yT q) hp))];exact n
 there:=λb u q _=>⟨u,k b u q⟩
 tups:=λb xs q=>by rw [j3 (u7 q hn)];exact q
 frzs:=λb u xs q=>by rw [j3 (u7 q hn)];exact q
 tbls:=λb ps z q=>by rw [j3 (u7 q hn)];exact q
theorem Un.write (mu:Mut (H x))(he:e=x∨H e=some (.own x))(k:∀ b u,b≠e->h.get? b=some u->h'.get? b=some u)(heo:∃ u,h'.get? e=some u):Un fs ex H (j0 H x o) h h':=by
 have hx:∀ b,H b=none->b≠x:=λb n z=>by subst z;rw [n] at mu;exact mu
 have hb:∀ b,H b=none->b≠e:=λb n z=>by
  subst z;rcases he with r|r
  ·exact hx b n r
  ·rw [n] at r;cases r
 have hm:∀ b u,H b=some u->¬ Mut (some u)->b≠x:=λb u q nm z=>by subst z;rw [q] at mu;exact nm mu
 refine ⟨λb u q n _ _=>k b u (hb b n) q,λb u q n _ _=>⟨u.slots,k b u (hb b n) q⟩,λb u q n _=>by rw [j3 (hx b n)];exact n,λb u q _=>?_,
  λb xs q=>by rw [j3 (hm b _ q λz=>z)];exact q,λb u xs q=>by rw [j3 (hm b _ q λz=>z)];exact q,λb ps r q=>by rw [j3 (hm b _ q λz=>z)];exact q⟩
 by_cases hbe:b=e
 ·subst hbe;exact heo
 ·exact ⟨u,k b u hbe q⟩
end
def trk (h:Heap)(H:Hp):List Addr:=(List.range h.objs.size).filter λa=>(H a).isSome
def xZ (h:Heap)(H:Hp):Heap:=PySem.W.hideAll h (trk h H)
theorem KJ (h:Heap)(H:Hp):(xZ h H).objs.size=h.objs.size:=PySem.W.hideAll_size _ _
theorem KI {o:Obj}(e:h.get? b=some o)(n:H b=none):(xZ h H).get? b=some o :=
 PySem.W.hideAll_get _ e λhm=>by
  have q:(H b).isSome=true:=(uA.mp hm).2;rw [n] at q;simp at q
theorem BY {o:Obj}(e:(xZ h H).get? b=some o):h.get? b=some o/\H b=none:=by
 have e':h.get? b=some o:=PySem.W.of_hideAll (trk h H) e;refine ⟨e',?_⟩;cases q:H b with
 |none=>rfl
 |some x=>have hm:b∈trk h H:=uA.mpr ⟨uO.mpr (yT e'),by simp [q]⟩;have z:(xZ h H).get? b=none:=PySem.W.hideAll_none (trk h H) hm;rw [z] at e;cases e
structure Mod (K:Fg)(mg:Str->Option Value)(base:Heap):Prop where
 kin:K.In base
 glob:base.Ns mainGlobals mg
 blt:∃ mb,base.Ns builtinsNs mb/\∀ x:Str,x ≠ "__name__"->mb x=bootBuiltins x
 nolimit:base.NoLimit
 bmn:∃ bm ob,mg "__builtins__"=some (.ref bm)/\bm≠builtinsNs/\base.get? bm=some ob/\ob.cls = .type "module"/\ob.dict=some builtinsNs/\ob.data = .plain
structure Cx where
 prog:Program
 w:World
 K:Fg
 mg:Str->Option Value
 base:Heap
 A:Around
 N:List Str
 s₀:Shared
 H₀:Hp
 env:Env
 outer:List Env
 stack:List Env
 ex:List Addr
 fn:Str->Bool
 calm:Bool
 pn:List (Addr×Obj)
 xe:Value->Shared->Prop
variable{X:Cx}
def frs (l:List Env):List Addr:=l.filterMap (·.frame)
abbrev Cx.fs (X:Cx):List Addr:=frs X.outer
def Vis (sc:Scope)(x:Str):Prop:=sc.names.lookup x=some .local∨sc.names.lookup x=some .cell∨sc.names.lookup x=some .free
def Loc (sc:Scope)(x:Str):Prop:=sc.names.lookup x=some .local∨sc.names.lookup x=some .cell
def Look (env:Env)(h:Heap)(m:Str->Option Value)(x:Str)(u:Value):Prop :=
 (env.kindOf x=some .local/\m x=some u)∨((env.kindOf x=some .cell∨env.kindOf x=some .free)/\∃ c,env.cells.lookup x=some c/\h.IsCell c (some u))
structure Cx.Ok (X:Cx):Prop where
 mod:Mod X.K X.mg X.base
 kind:X.env.scope.kind = .function
 glob:X.env.globals=mainGlobals
 blt:X.env.builtins=builtinsNs
 above:X.s₀.heap.objs.size<=X.env.locals
 inj:∀ x y c,X.env.cells.lookup x=some c->X.env.cells.lookup y=some c->x=y
 has:∀ x,(X.env.kindOf x=some .cell∨X.env.kindOf x=some .free)->∃ c,X.env.cells.lookup x=some c
 cab:∀ x c,X.fn x=true->X.env.cells.lookup x=some c->X.s₀.heap.objs.size<=c
 hd:X.calm=true->X.A.handled=none
 frames:X.A.frames=some X.stack
 stk:X.stack=X.outer∨(X.stack=X.env::X.outer/\X.env.frame=some X.env.locals)
 exf:∀ b∈X.ex,b≠X.env.locals/\∀ x c,X.env.cells.lookup x=some c->c≠b
 bs:∀ b o,X.base.get? b=some o->X.s₀.heap.get? b=some o/\X.H₀ b=none
 bsz:X.base.objs.size<=X.s₀.heap.objs.size
 noex:∀ b o,X.base.get? b=some o->b∉X.ex
 exfs:∀ b∈X.ex,b∉X.fs
 funs:X.s₀.heap.FunFrames X.base X.outer
 frf:∀ b∈X.fs,X.H₀ b=none
 tbs:∀ p∈TABS,X.H₀ p.1=some (.tbl p.2.1 p.2.2)
structure Inv (X:Cx)(pins:List (Addr×Obj))(σ:List (Option V))(H:Hp)(s:Shared):Prop where
 ok:X.Ok
 os:s.os=X.s₀.os
 bare:AllBare s.gens
 base:Un X.fs X.ex X.H₀ H X.s₀.heap s.heap
 loc:∃ m,s.heap.Ns X.env.locals m/\∀(i:Nat)(x:Str)(v:V),X.N[i]?=some x->σ[i]?=some (some v)->Vis X.env.scope x->∃ u,RelV v u/\Look X.env s.heap m x u
 cell:∀ x c,X.env.cells.lookup x=some c->∃ v,s.heap.IsCell c v
 free:H X.env.locals=none
 freeC:∀ x c,X.env.cells.lookup x=some c->H c=none
 pin:∀ p∈X.pn++pins,s.heap.get? p.1=some p.2/\H p.1=none/\p.1≠X.env.locals/\p.1∉X.fs/\∀ v,p.2.data ≠ .cell v
 hok:HOk X.prog X.w H s.heap
 len:σ.length=X.N.length
section
variable {X:Cx}{pins:List (Addr×Obj)}{σ:List (Option V)}{H H':Hp}{s:Shared}{h':Heap}
theorem Cx.Ok.nofr (ok:X.Ok){o:Obj}(e:X.base.get? b=some o):b∉X.fs:=λhb=>by
 have:=(ok.funs.mem hb).1;rw [e] at this;cases this
theorem Inv.bs (I:Inv X pins σ H s):∀ b o,X.base.get? b=some o->s.heap.get? b=some o/\H b=none:=λb o e =>
 ⟨I.base.keep b o (I.ok.bs b o e).1 (I.ok.bs b o e).2 (I.ok.nofr e) (I.ok.noex b o e),I.base.free b o (I.ok.bs b o e).1 (I.ok.bs b o e).2 (I.ok.noex b o e)⟩
theorem Inv.bk (I:Inv X pins σ H s):∀ b o,X.base.get? b=some o->s.heap.get? b=some o:=λb o e=>(I.bs b o e).1
theorem Inv.mod (I:Inv X pins σ H s):Mod X.K X.mg X.base:=I.ok.mod
theorem Inv.kIn (I:Inv X pins σ H s):X.K.In s.heap:=I.ok.mod.kin.keeps I.bk
theorem Inv.fr (I:Inv X pins σ H s):∃ m,Fr X.base X.env.locals s.heap m :=
 let ⟨m,hn,_⟩:=I.loc
 ⟨m,hn,I.bk,yd I.ok.bsz I.ok.above⟩
theorem Inv.lt (I:Inv X pins σ H s):X.env.locals<s.heap.objs.size:=let ⟨_,hn,_⟩:=I.loc;hn.lt
theorem Inv.sz (I:Inv X pins σ H s):X.s₀.heap.objs.size<=s.heap.objs.size:=yd I.ok.above (yc I.lt)
theorem Inv.nofs (I:Inv X pins σ H s)(h:s.heap.objs.size<=a):a∉X.fs:=λhb=>by
 obtain ⟨_,o,ho,_⟩:=I.ok.funs.mem hb;exact absurd (yC (yT ho) (yd I.sz h)) (ye _)
theorem Inv.cne (I:Inv X pins σ H s):∀ x c,X.env.cells.lookup x=some c->c≠X.env.locals:=λx c e z=>by
 obtain ⟨v,o,ho,hd⟩:=I.cell x c e;obtain ⟨m,⟨o',es,ep,ho',hd',_⟩,_⟩:=I.loc;rw [z,ho'] at ho;cases ho;rw [hd'] at hd;cases hd
theorem Inv.funs (I:Inv X pins σ H s):s.heap.FunFrames X.base X.outer:=by
 have all:∀(l:List Env),(∀ b∈frs l,b∈X.fs)->X.s₀.heap.FunFrames X.base l->s.heap.FunFrames X.base l:=by
  intro l
  induction l with
  |nil=>intro _ _;trivial
  |cons env r ih=>intro hs hl;obtain ⟨hk,⟨L,o,hf,hn,ho,hd⟩,hr⟩:=hl;have hL:L∈X.fs:=hs L (by unfold frs;rw [List.filterMap_cons,hf];exact yH);obtain ⟨sl,e⟩:=I.base.slot L o ho (I.ok.frf L hL) hL λz=>I.ok.exfs L z hL;exact ⟨hk,⟨L,_,hf,hn,e,hd⟩,ih (λb hb=>hs b (by unfold frs;rw [List.filterMap_cons,hf];exact yK _ hb)) hr⟩
 exact all X.outer (λ_ hb=>hb) I.ok.funs
theorem Inv.stack (I:Inv X pins σ H s):s.heap.FunFrames X.base X.stack:=by
 rcases I.ok.stk with e|⟨e,hf⟩
 ·rw [e];exact I.funs
 ·rw [e];obtain ⟨m,hn,_⟩:=I.loc;refine .cons (by rw [I.ok.kind];decide) hf hn ?_ I.funs;exact Heap.get?_none_of_le (yd I.ok.bsz I.ok.above)
theorem Inv.stkSub (I:Inv X pins σ H s):∀ b∈frs X.stack,b∈X.env.locals::X.fs:=λb hb=>by
 rcases I.ok.stk with e|⟨e,hf⟩
 ·rw [e] at hb;exact yK _ hb
 ·rw [e] at hb;unfold frs at hb;rw [List.filterMap_cons,hf] at hb;exact hb
theorem Inv.stkFree (I:Inv X pins σ H s):∀ b∈frs X.stack,H b=none:=λb hb=>by
 rcases yL.mp (I.stkSub b hb) with e|hb
 ·rw [e];exact I.free
 ·obtain ⟨_,o,ho,_⟩:=I.ok.funs.mem hb;exact I.base.free b o ho (I.ok.frf b hb) λz=>I.ok.exfs b z hb
theorem Inv.step (I:Inv X pins σ H s)(hch:∀ b∈ch,(b∈X.ex∨X.s₀.heap.objs.size<=b)/\b≠X.env.locals/\(∀ x c,X.env.cells.lookup x=some c->c≠b)/\∀ p∈X.pn++pins,p.1≠b)(keep:∀ b o,b≠X.env.locals->b∉X.fs->b∉ch->s.heap.get? b=some o->H b=none->h'.get? b=some o)(slot:∀ b o,b≠X.env.locals->b∈X.fs->b∉ch->s.heap.get? b=some o->H b=none->∃ sl,h'.get? b=some { o with slots:=sl })(free:∀ b o,b∉ch->s.heap.get? b=some o->H b=none->H' b=none)(there:∀ b o,b∉ch->s.heap.get? b=some o->∃ o',h'.get? b=some o')(tups:∀ b xs,H b=some (.tup xs)->H' b=some (.tup xs))(frzs:∀ b o u,H b=some (.frz o u)->H' b=some (.frz o u))(tbls:∀ b ps q,H b=some (.tbl ps q)->H' b=some (.tbl ps q))(ns:∀ m,s.heap.Ns X.env.locals m->h'.Ns X.env.locals m)(hok:HOk X.prog X.w H' h')(hg:AllBare g'):Inv X pins σ H' { s with heap:=h',gens:=g',drawn:=d',toks:=t' }:=by
 have neL:∀ b o,X.s₀.heap.get? b=some o->b≠X.env.locals:=λb o e=>yQ (yC (yT e) I.ok.above);have neC:∀ b o,X.s₀.heap.get? b=some o->b∉X.ex->b∉ch:=λb o e hx hb=>by
  rcases (hch b hb).1 with z|z
  ·exact hx z
  ·exact absurd (yC (yT e) z) (ye _)
 have cellK:∀ x c,X.env.cells.lookup x=some c->∀ v,s.heap.IsCell c v->h'.IsCell c v:=λx c e v ⟨o,ho,hd⟩=>by
  have nch:c∉ch:=λz=>(hch c z).2.2.1 x c e rfl;by_cases hc:c∈X.fs
  ·obtain ⟨sl,q⟩:=slot c o (I.cne x c e) hc nch ho (I.freeC x c e);exact ⟨_,q,hd⟩
  ·exact ⟨o,keep c o (I.cne x c e) hc nch ho (I.freeC x c e),hd⟩
 refine ⟨I.ok,I.os,hg,⟨λb o e n hb hx=>?_,λb o e n hb hx=>?_,λb o e n hx=>?_,λb o e hx=>?_,λb xs e=>tups b xs (I.base.tups b xs e),λb o xs e=>frzs b o xs (I.base.frzs b o xs e),λb ps q e=>tbls b ps q (I.base.tbls b ps q e)⟩,?_,λx c e=>?_,?_,λx c e=>?_,λp hp=>?_,hok,I.len⟩
 ·exact keep b o (neL b o e) hb (neC b o e hx) (I.base.keep b o e n hb hx) (I.base.free b o e n hx)
 ·obtain ⟨sl,e1⟩:=I.base.slot b o e n hb hx;obtain ⟨sl',e2⟩:=slot b _ (neL b o e) hb (neC b o e hx) e1 (I.base.free b o e n hx);exact ⟨sl',e2⟩
 ·obtain ⟨o',e1⟩:=I.base.there b o e hx;exact free b o' (neC b o e hx) e1 (I.base.free b o e n hx)
 ·obtain ⟨o',e1⟩:=I.base.there b o e hx;exact there b o' (neC b o e hx) e1
 ·obtain ⟨m,hn,hl⟩:=I.loc;refine ⟨m,ns m hn,λi x v e1 e2 e3=>?_⟩;obtain ⟨u,r,l⟩:=hl i x v e1 e2 e3;refine ⟨u,r,?_⟩;rcases l with l|⟨k,c,e,z⟩
  ·exact .inl l
  ·exact .inr ⟨k,c,e,cellK x c e _ z⟩
 ·obtain ⟨v,z⟩:=I.cell x c e;exact ⟨v,cellK x c e v z⟩
 ·obtain ⟨m,⟨o,_,_,ho,_⟩,_⟩:=I.loc;exact free _ o (λz=>(hch _ z).2.1 rfl) ho I.free
 ·obtain ⟨v,o,ho,hd⟩:=I.cell x c e;exact free c o (λz=>(hch c z).2.2.1 x c e rfl) ho (I.freeC x c e)
 ·obtain ⟨e,n,ne,nf,d⟩:=I.pin p hp;have nch:p.1∉ch:=λz=>(hch p.1 z).2.2.2 p hp rfl;exact ⟨keep p.1 p.2 ne nf nch e n,free p.1 p.2 nch e n,ne,nf,d⟩
theorem Inv.un (I:Inv X pins σ H s)(u:Un X.fs [] H H' s.heap h')(hok:HOk X.prog X.w H' h'):Inv X pins σ H' { s with heap:=h',toks:=t' }:=by
 obtain ⟨m,⟨o,es,ep,ho,r⟩,_⟩:=id I.loc;obtain ⟨sl,hL⟩:=u.any ho I.free (by simp);exact I.step (g':=s.gens) (d':=s.drawn) (ch:=[]) (λ_ z=>nomatch z) (λb o _ hb _ e n=>u.keep b o e n hb (by simp)) (λb o _ hb _ e n=>u.slot b o e n hb (by simp)) (λb o _ e n=>u.free b o e n (by simp)) (λb o _ e=>u.there b o e (by simp)) u.tups u.frzs u.tbls (λm' hm=>by
  obtain ⟨o',es',ep',ho',r'⟩:=hm;rw [ho] at ho';cases ho';exact ⟨_,es',ep',hL,r'⟩) hok I.bare
theorem Inv.call (I:Inv X pins σ H s)(u:Un (frs X.stack) ch H H' s.heap h')(hok:HOk X.prog X.w H' h')(hg:AllBare g')(hch:∀ b∈ch,(b∈X.ex∨X.s₀.heap.objs.size<=b)/\b≠X.env.locals/\(∀ x c,X.env.cells.lookup x=some c->c≠b)/\∀ p∈X.pn++pins,p.1≠b):Inv X pins σ H' { s with heap:=h',gens:=g',drawn:=d',toks:=t' }:=by
 obtain ⟨m,⟨o,es,ep,ho,r⟩,_⟩:=id I.loc;obtain ⟨sl,hL⟩:=u.any ho I.free λz=>(hch _ z).2.1 rfl;exact I.step (ch:=ch) hch (λb o hL hb hc e n=>u.keep b o e n (λz=>(yL.mp (I.stkSub b z)).elim hL hb) hc) (λb o _ _ hc e n=>u.any e n hc) (λb o hc e n=>u.free b o e n hc) (λb o hc e=>u.there b o e hc) u.tups u.frzs u.tbls (λm' hm=>by
  obtain ⟨o',es',ep',ho',r'⟩:=hm;rw [ho] at ho';cases ho';exact ⟨_,es',ep',hL,r'⟩) hok hg
theorem Inv.turned (I:Inv X pins σ H s)(k:∀ b o,b≠it->s.heap.get? b=some o->h'.get? b=some o)(hn:H it=none)(hL:it≠X.env.locals)(h1:it∈X.ex∨X.s₀.heap.objs.size<=it)(h2:∀ x c,X.env.cells.lookup x=some c->c≠it)(h3:∀ p∈X.pn++pins,p.1≠it):Inv X pins σ H { s with heap:=h',toks:=t' }:=by
 have nit:∀ b u,H b=some u->b≠it:=λb u e z=>by rw [z,hn] at e;cases e
 refine I.step (g':=s.gens) (d':=s.drawn) (ch:=[it]) (λb hb=>?_) (λb o _ _ hc e _=>k b o (λz=>hc (by simp [z])) e) (λb o _ _ hc e _=>⟨o.slots,k b o (λz=>hc (by simp [z])) e⟩) (λ_ _ _ _ n=>n)
  (λb o hc e=>⟨o,k b o (λz=>hc (by simp [z])) e⟩) (λ_ _ e=>e) (λ_ _ _ e=>e) (λ_ _ _ e=>e) (λm hm=>?_) (λb u e=>?_) I.bare
 ·have e:b=it:=by simpa using hb
  subst e;exact ⟨h1,hL,h2,h3⟩
 ·obtain ⟨o,es,ep,ho,r⟩:=hm;exact ⟨o,es,ep,k _ o (Ne.symm hL) ho,r⟩
 ·refine (I.hok b u e).stay (λc v hc q=>k c v ?_ q) (λ_ q=>q) (λ_ _ q=>q) λ_ _ _ q=>q;rcases hc with z|z
  ·rw [z];exact nit b u e
  ·exact nit c _ z
theorem Inv.tok (I:Inv X pins σ H s)(t:Nat):Inv X pins σ H { s with toks:=t }:=I.un (h':=s.heap) (t':=t) Un.refl I.hok
theorem Inv.kept (I:Inv X pins σ H s)(k:∀ b u,s.heap.get? b=some u->h'.get? b=some u):Inv X pins σ H { s with heap:=h',toks:=t' }:=I.un (Un.kept k) (I.hok.kept k)
theorem Inv.laid (I:Inv X pins σ H s)(k:∀ b u,s.heap.get? b=some u->h'.get? b=some u)(hp:s.heap.objs.size<=a)(new:ObjOk X.prog X.w (j0 H a o) h' a o):Inv X pins σ (j0 H a o) { s with heap:=h',toks:=t' }:=I.un (Un.laid k hp (I.hok.fresh hp)) (I.hok.laid k hp new)
theorem Inv.write {x e:Addr}(I:Inv X pins σ H s)(mu:Mut (H x))(he:e=x∨H e=some (.own x))(k:∀ b u,b≠e->s.heap.get? b=some u->h'.get? b=some u)(heo:∃ u,h'.get? e=some u)(new:ObjOk X.prog X.w (j0 H x o) h' x o):Inv X pins σ (j0 H x o) { s with heap:=h',toks:=t' }:=I.un (Un.write mu he k heo) (I.hok.write mu he k heo new)
theorem Inv.weak {σ':List (Option V)}(I:Inv X pins σ H s)(hl:σ'.length=σ.length)(w:∀(i:Nat) v,σ'[i]?=some (some v)->σ[i]?=some (some v)):Inv X pins σ' H s :=
 ⟨I.ok,I.os,I.bare,I.base,let ⟨m,hn,hl'⟩:=I.loc;⟨m,hn,λi x v e1 e2 e3=>hl' i x v e1 (w i v e2) e3⟩,I.cell,I.free,I.freeC,I.pin,I.hok,hl.trans I.len⟩
theorem Inv.pins_of {pins':List (Addr×Obj)}(I:Inv X pins σ H s)(h:∀ p∈pins',s.heap.get? p.1=some p.2/\H p.1=none/\p.1≠X.env.locals/\p.1∉X.fs/\∀ v,p.2.data ≠ .cell v):Inv X pins' σ H s :=
 ⟨I.ok,I.os,I.bare,I.base,I.loc,I.cell,I.free,I.freeC,λp hp=>(yg.mp hp).elim (λz=>I.pin p (List.mem_append_left _ z)) (h p),I.hok,I.len⟩
theorem WY (hN:N.Nodup){i:Nat}(a:N[i]?=some x)(b:N[j]?=some x):i=j:=by obtain ⟨h1,e1⟩:=yA.mp a;obtain ⟨h2,e2⟩:=yA.mp b;exact (List.getElem_inj hN).mp (e1.trans e2.symm)
theorem Ug {M:Model}{i:Nat}{Q:Unit->Shared->Prop}(I:Inv X pins σ H s)(hN:X.N.Nodup)(hi:X.N[i]?=some x)(hx:Loc X.env.scope x)(r:RelV v u)(h:∀ s',Inv X pins (σ.set i (some v)) H s'->(∃ a,Heap.SameBut a s.heap s'.heap/\(a=X.env.locals∨X.env.cells.lookup x=some a))->Q () s')(hf:X.fn x=true∨X.env.scope.names.lookup x=some .local:=by first|exact .inl rfl|exact .inr rfl|assumption):wpAny M A (storeName X.env x u) Q E s:=by
 obtain ⟨m,hn,hl⟩:=id I.loc;have hcls:(X.env.scope.kind == .class || (X.env.scope.kind == .module&&X.env.locals != X.env.globals))=false:=by rw [I.ok.kind];rfl
 have hiσ:i<σ.length:=by rw [I.len];exact (yA.mp hi).1
 have cne:=I.cne;have tracked:∀{a:Addr}{h':Heap},(∃ o,s.heap.get? a=some o/\H a=none)->Heap.SameBut a s.heap h'->HOk X.prog X.w H h':=λ{a h'} ha hs b ob e=>by
  obtain ⟨_,_,hfree⟩:=ha;refine (I.hok b ob e).stay (λc w' hc q=>(hs.2 c ?_).trans q) (λ_ q=>q) (λ_ _ q=>q) λ_ _ _ q=>q;rintro rfl;rcases hc with rfl|hc
  ·rw [hfree] at e;cases e
  ·rw [hfree] at hc;cases hc
 rcases hx with hk|hk
 ·refine wpAny_storeName_local hk hn (λh' hn' hs=>?_) hcls;obtain ⟨oL,_,_,hoL,_⟩:=id hn;refine h _ ⟨I.ok,I.os,I.bare,⟨λb o e n hb hx=>?_,λb o e n hb hx=>?_,I.base.free,λb o e hx=>?_,I.base.tups,I.base.frzs,I.base.tbls⟩,⟨_,hn',λj y v' e1 e2 e3=>?_⟩,λy c e=>?_,I.free,I.freeC,λp hp=>?_,tracked ⟨oL,hoL,I.free⟩ hs,by simpa using I.len⟩ ⟨_,hs,.inl rfl⟩
  ·exact (hs.2 b (yQ (yC (yT e) I.ok.above))).trans (I.base.keep b o e n hb hx)
  ·obtain ⟨sl,e1⟩:=I.base.slot b o e n hb hx;exact ⟨sl,(hs.2 b (yQ (yC (yT e) I.ok.above))).trans e1⟩
  ·obtain ⟨o',e1⟩:=I.base.there b o e hx;exact ⟨o',(hs.2 b (yQ (yC (yT e) I.ok.above))).trans e1⟩
  ·by_cases hj:j=i
   ·subst hj;rw [hi] at e1;cases e1;rw [yb hiσ] at e2;cases e2;exact ⟨u,r,.inl ⟨hk,by simp⟩⟩
   ·rw [yv (Ne.symm hj)] at e2;obtain ⟨u',r',q⟩:=hl j y v' e1 e2 e3;refine ⟨u',r',?_⟩;rcases q with ⟨k,e⟩|⟨k,c,e,z⟩
    ·refine .inl ⟨k,?_⟩;have:y≠x:=λe=>hj (WY hN e1 (e▸hi));simp [this,e]
    ·exact .inr ⟨k,c,e,z.sameBut hs (cne y c e)⟩
  ·obtain ⟨w',z⟩:=I.cell y c e;exact ⟨w',z.sameBut hs (cne y c e)⟩
  ·obtain ⟨e,n,ne,nf,d⟩:=I.pin p hp;exact ⟨(hs.2 p.1 ne).trans e,n,ne,nf,d⟩
 ·have hfn:X.fn x=true:=by
   rcases hf with z|z
   ·exact z
   ·rw [z] at hk;cases hk
  obtain ⟨c,hc⟩:=I.ok.has x (.inl hk);obtain ⟨w',z⟩:=I.cell x c hc;refine wpAny_storeName_cell I.ok.kind hk hc z (λh' hc' hs=>?_);obtain ⟨oc,hoc,hocd⟩:=id z;refine h { s with heap:=h' } ⟨I.ok,I.os,I.bare,⟨λb o e n hb hx=>?_,λb o e n hb hx=>?_,I.base.free,λb o e hx=>?_,I.base.tups,I.base.frzs,I.base.tbls⟩,⟨m,hn.sameBut hs (Ne.symm (cne x c hc)),λj y v' e1 e2 e3=>?_⟩,λy c' e=>?_,I.free,I.freeC,λp hp=>?_,tracked ⟨oc,hoc,I.freeC x c hc⟩ hs,by simpa using I.len⟩ ⟨c,hs,.inr hc⟩
  ·exact (hs.2 b (yQ (yC (yT e) (I.ok.cab x c hfn hc)))).trans (I.base.keep b o e n hb hx)
  ·obtain ⟨sl,e1⟩:=I.base.slot b o e n hb hx;exact ⟨sl,(hs.2 b (yQ (yC (yT e) (I.ok.cab x c hfn hc)))).trans e1⟩
  ·obtain ⟨o',e1⟩:=I.base.there b o e hx;exact ⟨o',(hs.2 b (yQ (yC (yT e) (I.ok.cab x c hfn hc)))).trans e1⟩
  ·by_cases hj:j=i
   ·subst hj;rw [hi] at e1;cases e1;rw [yb hiσ] at e2;cases e2;exact ⟨u,r,.inr ⟨.inl hk,c,hc,hc'⟩⟩
   ·rw [yv (Ne.symm hj)] at e2;obtain ⟨u',r',q⟩:=hl j y v' e1 e2 e3;refine ⟨u',r',?_⟩;rcases q with q|⟨k,c',e,z'⟩
    ·exact .inl q
    ·refine .inr ⟨k,c',e,z'.sameBut hs ?_⟩;rintro rfl;exact hj (WY hN e1 (I.ok.inj _ _ _ e hc▸hi))
  ·by_cases hcc:c'=c
   ·subst hcc;exact ⟨_,hc'⟩
   ·obtain ⟨w2,z2⟩:=I.cell y c' e;exact ⟨w2,z2.sameBut hs hcc⟩
  ·obtain ⟨e,n,ne,nf,d⟩:=I.pin p hp;refine ⟨(hs.2 p.1 ?_).trans e,n,ne,nf,d⟩;intro q;rw [q,hoc] at e;have q':oc=p.2:=Option.some.inj e;exact d w' (by rw [<- q'];exact hocd)
theorem Uf {M:Model}{i:Nat}{Q:Unit->Shared->Prop}(I:Inv X pins σ H s)(hN:X.N.Nodup)(hi:X.N[i]?=some x)(hx:Loc X.env.scope x)(r:RelV v u)(h:∀ s',Inv X pins (σ.set i (some v)) H s'->Q () s')(hf:X.fn x=true∨X.env.scope.names.lookup x=some .local:=by first|exact .inl rfl|exact .inr rfl|assumption):wpAny M A (storeName X.env x u) Q E s :=
 Ug I hN hi hx r (λs' I' _=>h s' I') hf
theorem Inv.call' (I:Inv X pins σ H s)(ho:s'.os=s.os)(u:Un (frs X.stack) ch H H' s.heap s'.heap)(hok:HOk X.prog X.w H' s'.heap)(hg:AllBare s'.gens)(hch:∀ b∈ch,(b∈X.ex∨X.s₀.heap.objs.size<=b)/\b≠X.env.locals/\(∀ x c,X.env.cells.lookup x=some c->c≠b)/\∀ p∈X.pn++pins,p.1≠b):Inv X pins σ H' s':=by obtain ⟨h',g',d',t',o'⟩:=s';have e:o'=s.os:=ho;subst e;exact I.call (g':=g') (t':=t') (d':=d') u hok hg hch
end
abbrev XK:=Value->Option Addr->Hp->Prop
abbrev St:=List (Option V)
variable{σ:St}
abbrev VK:=V->Hp->Prop
abbrev TE:=St->Hp->VK->Prop
variable{t te:TE}
abbrev TT:=St->Hp->(Bool->Hp->Prop)->Prop
abbrev TA:=St->Hp->(List V->Hp->Prop)->Prop
structure xh where
 nx:St->Hp->Prop
 rt:VK
 bk:St->Hp->Prop:=λ_ _=>False
 ct:St->Hp->Prop:=λ_ _=>False
variable{D:xh}
abbrev TS:=xh->St->Hp->Prop
variable{tb:TS}
def EP (X:Cx)(pins:List (Addr×Obj))(σ:St)(Q:VK)(u:Value)(s':Shared):Prop:=∃ v H',Inv X pins σ H' s'/\RelV v u/\Q v H'
def TP (X:Cx)(pins:List (Addr×Obj))(σ:St)(Q:Bool->Hp->Prop)(b:Bool)(s':Shared):Prop:=∃ H',Inv X pins σ H' s'/\Q b H'
def AP (X:Cx)(pins:List (Addr×Obj))(σ:St)(Q:List V->Hp->Prop)(us:List Value)(s':Shared):Prop:=∃ vs H',Inv X pins σ H' s'/\Vals vs us/\Q vs H'
def SP (X:Cx)(pins:List (Addr×Obj))(D:xh)(f:Flow)(s':Shared):Prop :=
 match f with
 | .next=>∃ σ' H',Inv X pins σ' H' s'/\D.nx σ' H'
 | .brk=>∃ σ' H',Inv X pins σ' H' s'/\D.bk σ' H'
 | .cont=>∃ σ' H',Inv X pins σ' H' s'/\D.ct σ' H'
 | .ret u=>∃ v σ' H',Inv X pins σ' H' s'/\RelV v u/\D.rt v H'
def PE (X:Cx)(e:Expr)(t:TE):Prop :=
 ∀(pins:List (Addr×Obj))(s:Shared)(σ:St)(H:Hp)(Q:VK),Inv X pins σ H s->t σ H Q->wpAny (model X.prog X.w) X.A (eval e X.env) (EP X pins σ Q) X.xe s
def PT (X:Cx)(e:Expr)(t:TT):Prop :=
 ∀(pins:List (Addr×Obj))(s:Shared)(σ:St)(H:Hp)(Q:Bool->Hp->Prop),Inv X pins σ H s->t σ H Q->wpAny (model X.prog X.w) X.A (isTrue e X.env (eval e X.env)) (TP X pins σ Q) X.xe s
def PW (X:Cx)(e:Expr)(t:TT):Prop :=
 ∀(whole:Sem Value)(pins:List (Addr×Obj))(s:Shared)(σ:St)(H:Hp)(Q:Bool->Hp->Prop),Inv X pins σ H s->t σ H Q->wpAny (model X.prog X.w) X.A (isTrue e X.env whole) (TP X pins σ Q) X.xe s
theorem PW.pt {t:TT}(h:PW X e t):PT X e t:=h _
def PA (X:Cx)(es:List Expr)(t:TA):Prop :=
 ∀(pos:Pos)(pins:List (Addr×Obj))(s:Shared)(σ:St)(H:Hp)(Q:List V->Hp->Prop),Inv X pins σ H s->t σ H Q->wpAny (model X.prog X.w) X.A (spliced (backTo pos (starEach es X.env))) (AP X pins σ Q) X.xe s
def PS (X:Cx)(st:Stmt)(t:TS):Prop :=
 ∀(pins:List (Addr×Obj))(s:Shared)(σ:St)(H:Hp)(D:xh),Inv X pins σ H s->t D σ H->wpAny (model X.prog X.w) X.A (exec st X.env) (SP X pins D) X.xe s
def PSs (X:Cx)(st:List Stmt)(t:TS):Prop :=
 ∀(pins:List (Addr×Obj))(s:Shared)(σ:St)(H:Hp)(D:xh),Inv X pins σ H s->t D σ H->wpAny (model X.prog X.w) X.A (execs st X.env) (SP X pins D) X.xe s
theorem z8 {t:Sem α}{Q Q':α->Shared->Prop}{M:Model}(h:wpAny M A t Q E s)(hQ:∀ a s,Q a s->Q' a s):wpAny M A t Q' E s:=wpAny_mono h hQ λ_ _ x=>x
section
variable {X:Cx}
theorem bin {a b:Expr}{ta tb:TE}(ha:PE X a ta)(hb:PE X b tb)(I:Inv X pins σ H s)(h:ta σ H λx H1=>tb σ H1 λy H2=>R x y H2){Q:α->Shared->Prop}{f:Value->Value->Sem α}(hf:∀ v u s2 x y H2,Inv X pins σ H2 s2->RelV x v->RelV y u->R x y H2->wpAny (model X.prog X.w) X.A (f v u) Q X.xe s2):wpAny (model X.prog X.w) X.A (eval a X.env) (λv s₁=>wpAny (model X.prog X.w) X.A (eval b X.env) (λu s₂=>wpAny (model X.prog X.w) X.A (f v u) Q X.xe s₂) X.xe s₁) X.xe s:=by refine z8 (ha pins s σ H _ I h) λv s1 ⟨x,H1,I1,r1,q1⟩=>?_;refine z8 (hb pins s1 σ H1 _ I1 q1) λu s2 ⟨y,H2,I2,r2,q2⟩=>?_;exact hf v u s2 x y H2 I2 r1 r2 q2
def c6 (i:Nat):TE:=λσ H Q=>∃ v,σ[i]?=some (some v)/\Q v H
def tC (v:V):TE:=λ_ H Q=>Q v H
theorem CM {i:Nat}(hN:X.N[i]?=some x)(hv:Vis X.env.scope x)(hd:(x==("__debug__":Str))=false:=by decide)(hcd:(x==("__classdict__":Str))=false:=by decide):PE X (.Name x pos) (c6 i):=by
 intro pins s σ H Q I h;obtain ⟨v,e,h⟩:=h;obtain ⟨m,hn,hl⟩:=I.loc;obtain ⟨u,r,l⟩:=hl i x v hN e hv;have fin:EP X pins σ Q u s:=⟨v,H,I,r,h⟩;rcases l with ⟨hk,hm⟩|⟨hk,c,hc,hcell⟩
 ·exact wpAny_Name (wpAny_loadName_local I.ok.kind hk hn hm fin) hd
 ·rcases hk with hk|hk
  ·exact wpAny_Name (wpAny_loadName_cell I.ok.kind hk hc hcell fin) hd
  ·exact wpAny_Name (wpAny_loadName_free I.ok.kind hk hc hcell fin hcd) hd
theorem x8 {i j pos}:PE X (.Constant (.int i) j pos) (tC (.int i)):=λ_ _ _ H _ I h=>wpAny_Constant_int ⟨.int i,H,I.tok _,⟨_,rfl⟩,h⟩
theorem zI {b j pos}:PE X (.Constant (.bool b) j pos) (tC (.bl b)):=λ_ _ _ H _ I h=>Constant_bool ⟨.bl b,H,I,rfl,h⟩
theorem Za {j pos}:PE X (.Constant .none j pos) (tC .non):=λ_ _ _ H _ I h=>Constant_none ⟨.non,H,I,rfl,h⟩
theorem zJ {x j pos}:PE X (.Constant (.str x) j pos) (tC (.str x)):=λ_ _ _ H _ I h=>Calls.Constant_str ⟨.str x,H,I.tok _,⟨_,rfl⟩,h⟩
def Gl (X:Cx)(x:Str):Prop:=X.env.kindOf x=some .globalImplicit
theorem XH (I:Inv X pins σ H s)(hg:Gl X x)(hm:X.mg x=some u)(h:Q u s)(hd:(x==("__debug__":Str))=false:=by decide):wpAny (model X.prog X.w) X.A (eval (.Name x pos) X.env) Q E s :=
 Calls.Name_function_global I.ok.kind hg (Calls.loadGlobal_global (by rw [I.ok.glob];exact I.mod.glob.keeps I.bk) hm h) hd
theorem xB (I:Inv X pins σ H s)(hg:Gl X x)(hm:X.mg x=none)(hv:bootBuiltins x=some u)(h:Q u s)(hn:x ≠ "__name__":=by decide)(hd:(x==("__debug__":Str))=false:=by decide):wpAny (model X.prog X.w) X.A (eval (.Name x pos) X.env) Q E s:=by obtain ⟨mb,h1,h2⟩:=I.mod.blt;exact Calls.Name_function_global I.ok.kind hg (Calls.loadGlobal_builtin (by rw [I.ok.glob];exact I.mod.glob.keeps I.bk) hm (by rw [I.ok.blt];exact h1.keeps I.bk) ((h2 x hn).trans hv) h) hd
theorem vk (hg:Gl X x)(hm:X.mg x=some u)(r:RelV v u)(hd:(x==("__debug__":Str))=false:=by decide):PE X (.Name x pos) (tC v) :=
 λ_ _ _ H _ I h=>XH I hg hm ⟨v,H,I,r,h⟩ hd
theorem qZ (hg:Gl X x)(hm:X.mg x=none)(hv:bootBuiltins x=some u)(r:RelV v u)(hn:x ≠ "__name__":=by decide)(hd:(x==("__debug__":Str))=false:=by decide):PE X (.Name x pos) (tC v) :=
 λ_ _ _ H _ I h=>xB I hg hm hv ⟨v,H,I,r,h⟩ hn hd
variable {a b:Expr}{ta tb:TE}{pos:Pos}
def PC (X:Cx)(op:CmpOp)(a b:Expr)(t:TE):Prop :=
 ∀(pins:List (Addr×Obj))(s:Shared)(σ:St)(H:Hp)(Q:VK),Inv X pins σ H s->t σ H Q ->
  wpAny (model X.prog X.w) X.A (eval a X.env) (λv s₁=>wpAny (model X.prog X.w) X.A (eval b X.env) (λu s₂=>wpAny (model X.prog X.w) X.A (compareOp op v u) (EP X pins σ Q) X.xe s₂) X.xe s₁) X.xe s
def tB (t:TE):TT:=λσ H Q=>t σ H λx H1=>∃ c,x = .bl c/\Q c H1
theorem CB (h:PC X op a b t)(h1:behindInMarks op b=false:=by first|exact nobehind _ (by decide) (by decide)|rfl):PE X (.Compare a [op] [b] pos) t:=λpins s σ H Q I hw=>wpAny_Compare1 (h pins s σ H Q I hw) h1
theorem Yo (h:PC X op a b t)(h1:behindInMarks op b=false:=by first|exact nobehind _ (by decide) (by decide)|rfl):PT X (.Compare a [op] [b] pos) (tB t):=by intro pins s σ H Q I hw;refine wpAny_isTrue_Compare1 (z8 (h pins s σ H _ I hw) λv s1 h1=>z8 h1 λu s2 h2=>z8 h2 λc s3 ⟨x,H1,I1,r1,q1⟩=>?_) h1;obtain ⟨d,rfl,q⟩:=q1;cases r1;exact wpAny_truthy_bool ⟨H1,I1,q⟩
variable {tA tB':TT}{rest:List Expr}
def tAnd (t u:TT):TT:=λσ H Q=>t σ H λc H1=>if c=true then u σ H1 Q else Q false H1
def tOr (t u:TT):TT:=λσ H Q=>t σ H λc H1=>if c=true then Q true H1 else u σ H1 Q
def tNot (t:TT):TT:=λσ H Q=>t σ H λc H1=>Q (!c) H1
theorem QR (ha:PT X a tA):PW X (.BoolOp .And [a] pos) tA:=by
 intro wh pins s σ H Q I h;refine isTrue_and (z8 (ha pins s σ H Q I h) λc s1 e=>?_);cases c with
 |true=>exact isTrue_and_nil e
 |false=>exact e
theorem zi (ha:PT X a tA):PW X (.BoolOp .Or [a] pos) tA:=by
 intro wh pins s σ H Q I h;refine isTrue_or (z8 (ha pins s σ H Q I h) λc s1 e=>?_);cases c with
 |false=>exact isTrue_or_nil e
 |true=>exact e
theorem QQ (ha:PT X a tA)(hb:PW X (.BoolOp .And (b::rest) pos) tB'):PW X (.BoolOp .And (a::b::rest) pos) (tAnd tA tB'):=by
 intro wh pins s σ H Q I h;refine isTrue_and (z8 (ha pins s σ H _ I h) λc s1 ⟨H1,I1,q1⟩=>?_);cases c with
 |true=>exact hb wh pins s1 σ H1 Q I1 q1
 |false=>exact ⟨H1,I1,q1⟩
theorem xu (ha:PT X a tA)(hb:PW X (.BoolOp .Or (b::rest) pos) tB'):PW X (.BoolOp .Or (a::b::rest) pos) (tOr tA tB'):=by
 intro wh pins s σ H Q I h;refine isTrue_or (z8 (ha pins s σ H _ I h) λc s1 ⟨H1,I1,q1⟩=>?_);cases c with
 |true=>exact ⟨H1,I1,q1⟩
 |false=>exact hb wh pins s1 σ H1 Q I1 q1
theorem o7 (ha:PT X a tA):PT X (.UnaryOp .Not a pos) (tNot tA):=by intro pins s σ H Q I h;exact isTrue_not (ha pins s σ H (λc H1=>Q (!c) H1) I h)
def Uk (ta tb:TE):TE:=λσ H Q=>ta σ H λx H1=>∃ c,x = .bl c/\if c=true then tb σ H1 Q else Q (.bl false) H1
def Uu (ta:TE):TE:=λσ H Q=>ta σ H λx H1=>∃ c,x = .bl c/\Q (.bl (!c)) H1
theorem jr {op}(h:PE X a t):PE X (.BoolOp op [a] pos) t:=λpins s σ H Q I hw=>BoolOp_one (h pins s σ H Q I hw)
theorem zH (ha:PE X a ta)(hb:PE X (.BoolOp .And (b::rest) pos) tb):PE X (.BoolOp .And (a::b::rest) pos) (Uk ta tb):=by
 intro pins s σ H Q I h;refine BoolOp_and (z8 (ha pins s σ H _ I h) λv s1 ⟨x,H1,I1,r1,q1⟩=>?_);obtain ⟨c,rfl,q1⟩:=q1;cases r1;refine wpAny_truthy_bool ?_;cases c with
 |true=>exact hb pins s1 σ H1 Q I1 q1
 |false=>exact ⟨.bl false,H1,I1,rfl,q1⟩
theorem CJ (ha:PE X a ta):PE X (.UnaryOp .Not a pos) (Uu ta):=by intro pins s σ H Q I h;refine UnaryOp_ (z8 (ha pins s σ H _ I h) λv s1 ⟨x,H1,I1,r1,q1⟩=>?_);obtain ⟨c,rfl,q1⟩:=q1;cases r1;exact not_of (wpAny_truthy_bool ⟨.bl (!c),H1,I1,rfl,q1⟩)
def tIf (t:TT)(ta tb:TE):TE:=λσ H Q=>t σ H λc H1=>if c=true then ta σ H1 Q else tb σ H1 Q
theorem XY (hc:PT X c tA)(ha:PE X a ta)(hb:PE X b tb):PE X (.IfExp c a b pos) (tIf tA ta tb):=by
 intro pins s σ H Q I h;refine wpAny_IfExp (z8 (hc pins s σ H _ I h) λd s1 ⟨H1,I1,q1⟩=>?_);cases d with
 |true=>exact ha pins s1 σ H1 Q I1 q1
 |false=>exact hb pins s1 σ H1 Q I1 q1
end
def SqL (K:Fg)(H:Hp)(a:Addr)(xs:List V):Prop :=
 Rd H a (.lst xs) ∨
  ∃ (o:Obj) (its:Array Value) (n:Nat),K.lookup a=some o/\o.cls = .type "list"/\o.dict=none/\o.data = .seq its n/\its.size<=sizeLine/\Vals xs its.toList
def SqT (K:Fg)(H:Hp)(a:Addr)(xs:List V):Prop :=
 Rd H a (.tup xs) ∨
  ∃ (o:Obj) (its:Array Value) (n:Nat),K.lookup a=some o/\o.cls = .type "tuple"/\o.data = .seq its n/\its.size<=sizeLine/\Vals xs its.toList
def absV:Value->Option V
 | .none=>some .non
 | .bool b=>some (.bl b)
 | .int i _=>some (.int i)
 | .str x _=>some (.str x)
 | .bytes b _=>some (.byt b)
 | .float b _=>some (.flt b)
 | .ref a=>some (.ref a)
 | .type n=>some (.ty n)
 |_=>none
theorem RelV.abs {x:V}(r:RelV x u):absV u=some x:=by
 cases x with
 |non=>cases r;rfl
 |bl _=>cases r;rfl
 |int _=>obtain ⟨t,rfl⟩:=r;rfl
 |str _=>obtain ⟨t,rfl⟩:=r;rfl
 |byt _=>obtain ⟨t,rfl⟩:=r;rfl
 |flt _=>obtain ⟨t,rfl⟩:=r;rfl
 |ref _=>cases r;rfl
 |ty _=>cases r;rfl
theorem RelV.inj {x:V}(r:RelV x u)(q:RelV y u):x=y:=Option.some.inj (r.abs.symm.trans q.abs)
theorem Vals.inj:∀{xs ys:List V}{us:List Value},Vals xs us->Vals ys us->xs=ys
 |_,_,_,.nil,.nil=>rfl
 |_,_,_,.cons r t,.cons r' t'=>by rw [r.inj r',Vals.inj t t']
section
variable {X:Cx}{pins:List (Addr×Obj)}{σ:St}{H:Hp}{s:Shared}{a:Addr}{xs ys:List V}
theorem SqL.of (h:H a=some (.lst xs)):SqL K H a xs:= .inl (.inl h)
theorem SqT.of (h:H a=some (.tup xs)):SqT K H a xs:= .inl (.inl h)
theorem Inv.list (I:Inv X pins σ H s)(h:SqL X.K H a xs):∃ its:List Value,Vals xs its/\PlainL s.heap a its.toArray/\xs.length<=sizeLine:=by
 rcases h with h|⟨o,its,n,hk,hc,hd,hs,hz,r⟩
 ·obtain ⟨z,its,n,r,e⟩:=h.ok I.hok;exact ⟨its,r,⟨_,n,e,rfl,rfl,rfl⟩,z⟩
 ·refine ⟨its.toList,r,⟨o,n,I.kIn a o hk,hc,hd,by simpa using hs⟩,?_⟩;have e:=r.length;simp only [Array.length_toList] at e;omega
theorem Inv.tuple (I:Inv X pins σ H s)(h:SqT X.K H a xs):∃ its:List Value,Vals xs its/\IsTup s.heap a its.toArray/\xs.length<=sizeLine:=by
 rcases h with h|⟨o,its,n,hk,hc,hs,hz,r⟩
 ·obtain ⟨z,its,r,p⟩:=h.ok I.hok;exact ⟨its,r,p,z⟩
 ·refine ⟨its.toList,r,⟨o,I.kIn a o hk,hc,n,by simpa using hs⟩,?_⟩;have e:=r.length;simp only [Array.length_toList] at e;omega
theorem Inv.list_inj (I:Inv X pins σ H s)(h:SqL X.K H a xs)(h':SqL X.K H a ys):xs=ys:=by
 obtain ⟨its,r,⟨o,n,e,_,_,d⟩,_⟩:=I.list h;obtain ⟨its',r',⟨o',n',e',_,_,d'⟩,_⟩:=I.list h';rw [e] at e';cases e';rw [d] at d';injection d' with d1 _;have:its=its':=by simpa using congrArg Array.toList d1
 subst this;exact r.inj r'
theorem Inv.tuple_inj (I:Inv X pins σ H s)(h:SqT X.K H a xs)(h':SqT X.K H a ys):xs=ys:=by
 obtain ⟨its,r,⟨o,e,_,n,d⟩,_⟩:=I.tuple h;obtain ⟨its',r',⟨o',e',_,n',d'⟩,_⟩:=I.tuple h';rw [e] at e';cases e';rw [d] at d';injection d' with d1 _;have:its=its':=by simpa using congrArg Array.toList d1
 subst this;exact r.inj r'
end
abbrev Cx.wish (X:Cx)(E:Value->Shared->Prop):Cx:={ X with xe:=E }
abbrev Cx.nox (X:Cx):Cx:=X.wish λ_ _=>False
theorem Cx.Ok.wish (ok:X.Ok)(E:Value->Shared->Prop):(X.wish E).Ok :=
 ⟨ok.mod,ok.kind,ok.glob,ok.blt,ok.above,ok.inj,ok.has,ok.cab,ok.hd,ok.frames,ok.stk,ok.exf,ok.bs,ok.bsz,ok.noex,ok.exfs,ok.funs,ok.frf,ok.tbs⟩
theorem Cx.Ok.unwish (ok:(X.wish E).Ok):X.Ok :=
 ⟨ok.mod,ok.kind,ok.glob,ok.blt,ok.above,ok.inj,ok.has,ok.cab,ok.hd,ok.frames,ok.stk,ok.exf,ok.bs,ok.bsz,ok.noex,ok.exfs,ok.funs,ok.frf,ok.tbs⟩
section
variable {X:Cx}{pins:List (Addr×Obj)}{σ:St}{H:Hp}{s:Shared}{E:Value->Shared->Prop}
theorem Inv.wish (I:Inv X pins σ H s)(E:Value->Shared->Prop):Inv (X.wish E) pins σ H s:=⟨I.ok.wish E,I.os,I.bare,I.base,I.loc,I.cell,I.free,I.freeC,I.pin,I.hok,I.len⟩
theorem Inv.unwish (I:Inv (X.wish E) pins σ H s):Inv X pins σ H s:=⟨I.ok.unwish,I.os,I.bare,I.base,I.loc,I.cell,I.free,I.freeC,I.pin,I.hok,I.len⟩
theorem SP.unwish {f:Flow}(h:SP (X.wish E) pins D f s'):SP X pins D f s':=by
 cases f with
 |next=>obtain ⟨σ',H',I,q⟩:=h;exact ⟨σ',H',I.unwish,q⟩
 |brk=>obtain ⟨σ',H',I,q⟩:=h;exact ⟨σ',H',I.unwish,q⟩
 |cont=>obtain ⟨σ',H',I,q⟩:=h;exact ⟨σ',H',I.unwish,q⟩
 |ret u=>obtain ⟨v,σ',H',I,r,q⟩:=h;exact ⟨v,σ',H',I.unwish,r,q⟩
theorem PSs.nox {st:List Stmt}{t:TS}(h:PSs X.nox st t):PSs X st t:=λpins s σ H D I hw =>
 wpAny_mono (h pins s σ H D (I.wish _) hw) (λ_ _ q=>q.unwish) λ_ _ z=>False.elim z
end
section
variable {X:Cx}{st:Stmt}{rest:List Stmt}{t u:TS}{e:Expr}{te:TE}{pos:Pos}
def Jo:TS:=λD σ H=>D.nx σ H
def tSeq (t u:TS):TS:=λD σ H=>t { D with nx:=u D } σ H
theorem c5:PSs X [] Jo:=λ_ _ σ H _ I h=>wpAny_execs_nil ⟨σ,H,I,h⟩
theorem z9 (h1:PS X st t)(h2:PSs X rest u):PSs X (st::rest) (tSeq t u):=by
 intro pins s σ H D I h;refine wpAny_execs_cons (z8 (h1 pins s σ H { D with nx:=u D } I h) λf s1 q=>?_);cases f with
 |next=>obtain ⟨σ',H',I',q⟩:=q;exact h2 pins s1 σ' H' D I' q
 |ret v=>exact q
 |brk=>exact q
 |cont=>exact q
theorem j4 (h1:PS X st t):PSs X [st] t:=by
 intro pins s σ H D I h;refine wpAny_execs_cons (z8 (h1 pins s σ H D I h) λf s1 q=>?_);cases f with
 |next=>exact wpAny_execs_nil q
 |ret v=>exact q
 |brk=>exact q
 |cont=>exact q
theorem Inv.quiet (I:Inv X pins σ H s):interactive X.env=false:=by simp [interactive,I.ok.kind]
def zP (te:TE):TS:=λD σ H=>te σ H λ_ H1=>D.nx σ H1
theorem xr (he:PE X e te)(hs:swapsWith e none pos.line X.env=pure false:=by rfl):PS X (.Expr e pos) (zP te):=by intro pins s σ H D I h;exact wpAny_Expr_any (z8 (he pins s σ H _ I h) λv s1 ⟨x,H1,I1,r1,q1⟩=>⟨σ,H1,I1,q1⟩) I.quiet hs
def wO (te:TE):TS:=λD σ H=>te σ H D.rt
theorem y1 (he:PE X e te):PS X (.Return (some e) pos) (wO te):=by intro pins s σ H D I h;exact wpAny_Return_some (z8 (he pins s σ H _ I h) λv s1 ⟨x,H1,I1,r1,q1⟩=>⟨x,σ,H1,I1,r1,q1⟩)
def tIfS (c:TT)(t u:TS):TS:=λD σ H=>c σ H λb H1=>if b=true then t D σ H1 else u D σ H1
theorem c4 {a b:List Stmt}{tc:TT}(hc:PT X c tc)(ha:PSs X a t)(hb:PSs X b u):PS X (.If c a b pos) (tIfS tc t u):=by
 intro pins s σ H D I h;refine wpAny_If (z8 (hc pins s σ H _ I h) λd s1 ⟨H1,I1,q1⟩=>?_);cases d with
 |true=>exact ha pins s1 σ H1 D I1 q1
 |false=>exact hb pins s1 σ H1 D I1 q1
def Us:TS:=λ_ _ _=>False
theorem xa:PS X st Us:=λ_ _ _ _ _ _ h=>h.elim
end
abbrev TG:=V->St->Hp->(St->Hp->Prop)->Prop
variable{g:TG}
abbrev TGs:=List V->St->Hp->(St->Hp->Prop)->Prop
def PG (X:Cx)(target:Expr)(t:TG):Prop :=
 ∀(pins:List (Addr×Obj))(s:Shared)(σ:St)(H:Hp)(v:V)(u:Value)(Q:St->Hp->Prop),Inv X pins σ H s->RelV v u->t v σ H Q ->
  wpAny (model X.prog X.w) X.A (assign target X.env u) (λ_ s'=>∃ σ' H',Inv X pins σ' H' s'/\Q σ' H') X.xe s
def PGs (X:Cx)(ts:List Expr)(t:TGs):Prop :=
 ∀(pins:List (Addr×Obj))(s:Shared)(σ:St)(H:Hp)(vs:List V)(us:List Value)(Q:St->Hp->Prop),Inv X pins σ H s->Vals vs us->t vs σ H Q ->
  wpAny (model X.prog X.w) X.A (assignInOrder ((assignEach ts X.env).map (·.2)) us) (λ_ s'=>∃ σ' H',Inv X pins σ' H' s'/\Q σ' H') X.xe s
abbrev TSet:=V->V->V->Hp->(Hp->Prop)->Prop
def PSet (X:Cx)(t:TSet):Prop :=
 ∀(pins:List (Addr×Obj))(s:Shared)(σ:St)(H:Hp)(o i v:V)(ov iv u:Value)(Q:Hp->Prop),Inv X pins σ H s->RelV o ov->RelV i iv->RelV v u->t o i v H Q ->
  wpAny (model X.prog X.w) X.A (setItem ov iv u) (λ_ s'=>∃ H',Inv X pins σ H' s'/\Q H') X.xe s
section
variable {X:Cx}{pos:Pos}
def qh (i:Nat):TG:=λv σ H Q=>Q (σ.set i (some v)) H
theorem u5 {i:Nat}(hN:X.N.Nodup)(hi:X.N[i]?=some x)(hx:Loc X.env.scope x)(hf:X.fn x=true∨X.env.scope.names.lookup x=some .local:=by first|exact .inl rfl|exact .inr rfl|assumption):PG X (.Name x pos) (qh i):=by intro pins s σ H v u Q I r h;exact wpAny_assign_Name (Uf I hN hi hx r (λs' I'=>⟨_,H,I',h⟩) hf)
def gNil:TGs:=λvs σ H Q=>vs=[]/\Q σ H
def Xy (t:TG)(u:TGs):TGs:=λvs σ H Q=>∃ v r,vs=v::r/\t v σ H λσ' H'=>u r σ' H' Q
theorem vo:PGs X [] gNil:=by intro pins s σ H vs us Q I r h;obtain ⟨e,h⟩:=h;subst e;cases r;exact assignInOrder_nil ⟨σ,H,I,h⟩
theorem qI {t:TG}{u:TGs}(h1:PG X e t)(h2:PGs X es u)(hs:(assignEach (e::es) X.env).map (·.2)=assign e X.env::(assignEach es X.env).map (·.2):=by rfl):PGs X (e::es) (Xy t u):=by
 intro pins s σ H vs us Q I r h;obtain ⟨v,vr,e1,h⟩:=h;subst e1;cases r with
 |cons r rr=>rw [hs];refine assignInOrder_cons (z8 (h1 pins s σ H _ _ _ I r h) λ_ s1 ⟨σ1,H1,I1,q1⟩=>?_);exact h2 pins s1 σ1 H1 _ _ Q I1 rr q1
def gTup (K:Fg)(n:Nat)(t:TGs):TG:=λv σ H Q=>∃ a xs,v = .ref a/\SqT K H a xs/\xs.length=n/\t xs σ H Q
theorem CN {k:Nat}{t:TGs}(hc:X.calm=true)(h:PGs X es t)(hn:(assignEach es X.env).length=n:=by rfl)(hst:(assignEach es X.env).findIdx? (·.1)=none:=by rfl):PG X (.Tuple es k pos) (gTup X.K n t):=by intro pins s σ H v u Q I r hw;obtain ⟨a,xs,e1,hq,hl,hw⟩:=hw;subst e1;cases r;obtain ⟨its,rv,ht,hz⟩:=I.tuple hq;refine assign_Tuple_tuple (I.ok.hd hc) ht (by simp [hn,<- hl,rv.length]) hst λh' hx=>?_;have I1:Inv X pins σ H { s with heap:=h' }:=I.kept (t':=s.toks) λb o e=>hx b o (yQ (yT e)) e;exact h pins _ σ H xs _ Q I1 (by simpa using rv) hw
def gSub (to ti:TE)(t:TSet):TG:=λv σ H Q=>to σ H λo H1=>ti σ H1 λi H2=>t o i v H2 λH3=>Q σ H3
theorem Yi {o i:Expr}{to ti:TE}{t:TSet}(ho:PE X o to)(hi:PE X i ti)(hs:PSet X t)
  (ha:∀ v,assign (.Subscript o i pos) X.env v=(do
   let ov <- holding [v] (eval o X.env)
   let iv <- holding [v,ov] (eval i X.env)
   standAt pos
   holding [v,ov,iv] (setItem ov iv v)
   release [v,ov,iv] []):=by intro _;rfl):PG X (.Subscript o i pos) (gSub to ti t):=by
 intro pins s σ H v u Q I r h;rw [ha];refine yY (wpAny_holding (z8 (ho pins s σ H _ I h) λov s1 ⟨x,H1,I1,r1,q1⟩=>?_));refine yY (wpAny_holding (z8 (hi pins s1 σ H1 _ I1 q1) λiv s2 ⟨y,H2,I2,r2,q2⟩=>?_));refine yY (wpAny_standAt (yY (wpAny_holding (z8 (hs pins s2 σ H2 x y v ov iv u _ I2 r1 r2 r q2) λ_ s3 ⟨H3,I3,q3⟩=>?_))));exact wpAny_release ⟨σ,H3,I3,q3⟩
def xV (te:TE)(g:TG):TS:=λD σ H=>te σ H λx H1=>g x σ H1 D.nx
theorem Zf (he:PE X e te)(hg:PG X tg g)(hs:swapsWithSole [tg] e pos.line X.env=pure false:=by rfl)(hw:swappedStores [tg] e X.env=pure none:=by rfl)(h1:(assignEach [tg] X.env).map (·.2)=[assign tg X.env]:=by rfl):PS X (.Assign [tg] e pos) (xV te g):=by intro pins s σ H D I h;refine wpAny_Assign_stores (z8 (he pins s σ H _ I h) λv s1 ⟨x,H1,I1,r1,q1⟩=>?_) hs hw;rw [h1];exact z8 (hg pins s1 σ H1 x v _ I1 r1 q1) λ_ s2 q=>q
theorem m8 {i:Nat}{x:Str}{e:Expr}{te:TE}{pos':Pos}(hN:X.N.Nodup)(hi:X.N[i]?=some x)(hx:Loc X.env.scope x)(he:PE X e te)(hs:swapsWith e (some (.Name x pos')) pos.line X.env=pure false:=by rfl)(hf:X.fn x=true∨X.env.scope.names.lookup x=some .local:=by first|exact .inl rfl|exact .inr rfl|assumption):PS X (.Assign [.Name x pos'] e pos) (xV te (qh i)):=by intro pins s σ H D I h;refine wpAny_Assign_Name (z8 (he pins s σ H _ I h) λv s1 ⟨y,H1,I1,r1,q1⟩=>?_) hs;exact Uf I1 hN hi hx r1 (λs2 I2=>⟨_,H1,I2,q1⟩) hf
end
structure It where
 go:Nat->Hp->Prop
 yld:Nat->Hp->V->Hp->Prop
 stop:Nat->Hp->Prop
def qA (X:Cx)(pins:List (Addr×Obj))(H:Hp)(b:Addr):Prop :=
 H b=none/\b≠X.env.locals/\b∉X.fs/\(b∈X.ex∨X.s₀.heap.objs.size<=b)/\(∀ x c,X.env.cells.lookup x=some c->c≠b)/\∀ p∈X.pn++pins,p.1≠b
theorem Inv.fpOk {H':Hp}(I:Inv X pins σ H s)(hb:s.heap.objs.size<=b)(hn:H' b=none):qA X pins H' b:=by
 refine ⟨hn,uw (yC I.lt hb),I.nofs hb,.inr (yd I.sz hb),λx c e z=>?_,λp hp z=>?_⟩
 ·obtain ⟨v,q⟩:=I.cell x c e;exact absurd (yC q.lt (by rw [z];exact hb)) (ye _)
 ·exact absurd (yC (yT (I.pin p hp).1) (by rw [z];exact hb)) (ye _)
structure zq (P:Program)(w:World)(K:Fg)(tg:Expr)(J:It)(fp:List Addr)(it:Addr)(tn:Nat->Heap->Prop):Prop where
 mem:it∈fp
 obj:∀ i h,tn i h->∀ b∈fp,∃ o,h.get? b=some o/\∀ v,o.data ≠ .cell v
 keep:∀ i h h',tn i h->(∀ b∈fp,∀ o,h.get? b=some o->h'.get? b=some o)->tn i h'
 item:∀(X:Cx),X.prog=P->X.w=w->X.K=K->X.calm=true->∀(i:Nat)(pins:List (Addr×Obj))(s:Shared)(σ:St)(H:Hp)(E:Value->Shared->Prop),Inv X pins σ H s->(∀ b∈fp,qA X pins H b)->tn i s.heap->J.go i H ->
  wpAny (model P w) X.A (pyNext (.ref it)) (λr s1=>∃ u,r=some u /\
   wpAny (model P w) X.A (letOwnedTupleGo tg (.ref it) u) (λ_ s2=>∃ x H',Inv X pins σ H' s2/\RelV x u/\J.yld i H x H'/\tn (i+1) s2.heap/\∀ b∈fp,H' b=none) E s1) E s
 done:∀(X:Cx),X.prog=P->X.w=w->X.K=K->X.calm=true->∀(i:Nat)(pins:List (Addr×Obj))(s:Shared)(σ:St)(H:Hp)(E:Value->Shared->Prop),Inv X pins σ H s->(∀ b∈fp,qA X pins H b)->tn i s.heap->J.stop i H ->
  wpAny (model P w) X.A (pyNext (.ref it)) (λr s1=>r=none/\Inv X pins σ H s1) E s
 self:∀(A:Around)(i:Nat)(s:Shared)(Q:Value->Shared->Prop)(E:Value->Shared->Prop),tn i s.heap->Q (.ref it) s->wpAny (model P w) A (pyIter (.ref it)) Q E s
abbrev TI:=St->Hp->(It->Hp->Prop)->Prop
def PIE (X:Cx)(pins:List (Addr×Obj))(σ:St)(tg:Expr)(R:It->Hp->Prop)(itv:Value)(s2:Shared):Prop :=
 ∃(it:Addr)(fp:List Addr)(tn:Nat->Heap->Prop)(J:It)(H':Hp),itv = .ref it/\Inv X pins σ H' s2/\zq X.prog X.w X.K tg J fp it tn/\tn 0 s2.heap/\(∀ b∈fp,qA X pins H' b)/\R J H'
def PI (X:Cx)(tg iter:Expr)(wi:TI):Prop :=
 ∀(pins:List (Addr×Obj))(s:Shared)(σ:St)(H:Hp)(R:It->Hp->Prop),Inv X pins σ H s->wi σ H R ->
  wpAny (model X.prog X.w) X.A (eval iter X.env) (λv s1=>wpAny (model X.prog X.w) X.A (pyIter v) (PIE X pins σ tg R) X.xe s1) X.xe s
theorem XA {M:Model}{o:Obj}{n:String}{vs:Array Value}{Q:Unit->Shared->Prop}(ho:s.heap.get? it=some o)(hc:o.cls = .type n)(hd:o.data = .fields vs)(hn:["enumerate","zip","dict_itemiterator","dict_reverseitemiterator","odict_iterator","itertools.zip_longest","itertools.pairwise"].contains n=false)(hQ:Q () s):wpAny M A (letOwnedTupleGo tg (.ref it) u) Q E s:=by
  unfold letOwnedTupleGo;cases tg<;>first
    |exact yP hQ
    | (cases u <;> first
        |exact yP hQ
        | (refine yY (wpAny_load ho ?_)
           rw [hc,hd];show wpAny M A (if (["enumerate","zip","dict_itemiterator","dict_reverseitemiterator","odict_iterator","itertools.zip_longest","itertools.pairwise"].contains n&&vs[0]?==some (rawInt _))=true then _ else _) Q E s;rw [if_neg (by intro h;rw [hn,Bool.false_and] at h;cases h)];exact yP hQ))
def Itl (K:Fg)(a:Addr):It :=
 ⟨λi H=>∃ xs x,SqL K H a xs/\xs[i]?=some x,λi H x H'=>H'=H/\∀ xs,SqL K H a xs->xs[i]?=some x,λi H=>∃ xs,SqL K H a xs/\xs.length<=i⟩
def Itr (lo:Int)(n:Nat):It:=⟨λi _=>i<n,λi H x H'=>H'=H/\x = .int (lo+i),λi _=>n<=i⟩
theorem MJ (a it:Addr):zq P w K tg (Itl K a) [it] it (λi h=>h.IsListIter it a i) where
 mem:=by simp
 obj:=λi h st b hb=>by
  have e:b=it:=by simpa using hb
  subst e;obtain ⟨o,e,c,d⟩:=st;exact ⟨o,e,λv z=>by rw [d] at z;cases z⟩
 keep:=λi h h' st k=>st.at λo e=>k it (by simp) o e
 item:=by intro X hP hw hK hc i pins s σ H E I hf st hg;subst hP hw hK;obtain ⟨xs,x,hq,hx⟩:=hg;obtain ⟨its,rv,p,hz⟩:=I.list hq;obtain ⟨u,hu,ru⟩:=rv.get hx;obtain ⟨f0,f1,f2,f3,f4,f5⟩:=hf it (by simp);refine wpAny_pyNext_list_item st p.isList (x:=u) (by simpa using hu) λh' st' sb=>?_;have I1:Inv X pins σ H { s with heap:=h' }:=I.turned (t':=s.toks) (λb o hb e=>(sb.2 b hb).trans e) f0 f1 f3 f4 f5;obtain ⟨o,e,c,d⟩:=id st';exact ⟨u,rfl,XA (s:={ s with heap:=h' }) e c d (by decide) ⟨x,H,I1,ru,⟨rfl,λys hy=>by rw [I.list_inj hy hq];exact hx⟩,st',λb hb=>(hf b hb).1⟩⟩
 done:=by intro X hP hw hK hc i pins s σ H E I hf st hg;subst hP hw hK;obtain ⟨xs,hq,hx⟩:=hg;obtain ⟨its,rv,p,hz⟩:=I.list hq;obtain ⟨f0,f1,f2,f3,f4,f5⟩:=hf it (by simp);have hl:=rv.length;exact wpAny_pyNext_list_end (I.ok.hd hc) st p.isList (by simp;omega) λh' eb=>⟨rfl,I.turned (t':=s.toks) (λb o hb e=>eb b o hb e) f0 f1 f3 f4 f5⟩
 self:=λ_ _ _ _ _ st h=>wpAny_pyIter_listiter st h
theorem MK (it:Addr)(lo:Int)(n:Nat):zq P w K tg (Itr lo n) [it] it (λi h=>IsRangeIter h it (lo+(i:Nat)*1) ((n:Int)-(i:Nat)) 1) where
 mem:=by simp
 obj:=λi h st b hb=>by
  have e:b=it:=by simpa using hb
  subst e;exact ⟨_,st,λv z=>by
   have z':Data.fields _=Data.cell v:=z;cases z'⟩
 keep:=λi h h' st k=>k it (by simp) _ st
 item:=by intro X hP hw hK hc i pins s σ H E I hf st hg;subst hP hw hK;obtain ⟨f0,f1,f2,f3,f4,f5⟩:=hf it (by simp);have W:=Walks.range (prog:=X.prog) (w:=X.w) (I.ok.hd hc) it lo 1 n;refine W.item i s _ _ hg st λv h' tk hv st' kk=>?_;obtain ⟨t,rfl⟩:=hv;have I1:Inv X pins σ H { s with heap:=h',toks:=tk }:=I.turned (λb o hb e=>kk b o (by simpa using hb) e) f0 f1 f3 f4 f5;refine ⟨_,rfl,XA (s:={ s with heap:=h',toks:=tk }) (n:="range_iterator") st' rfl rfl (by decide) ⟨.int (lo+i),H,I1,⟨t,?_⟩,⟨rfl,rfl⟩,st',λb hb=>(hf b hb).1⟩⟩;rw [Int.mul_one]
 done:=by intro X hP hw hK hc i pins s σ H E I hf st hg;subst hP hw hK;obtain ⟨f0,f1,f2,f3,f4,f5⟩:=hf it (by simp);exact wpAny_pyNext_range_end (I.ok.hd hc) st (by have:n<=i:=hg;omega) λh' eb=>⟨rfl,I.turned (t':=s.toks) (λb o hb e=>eb b o hb e) f0 f1 f3 f4 f5⟩
 self:=λ_ _ _ _ _ st h=>wpAny_pyIter_rangeiter st h
section
variable {X:Cx}{tg:Expr}
def vU (K:Fg)(tl:TE):TI:=λσ H R=>tl σ H λx H1=>∃ a,x = .ref a/\(∃ xs,SqL K H1 a xs)/\R (Itl K a) H1
theorem CQ {l:Expr}{tl:TE}(hl:PE X l tl):PI X tg l (vU X.K tl):=by
 intro pins s σ H R I h;refine z8 (hl pins s σ H _ I h) λv s1 ⟨x,H1,I1,r1,q1⟩=>?_;obtain ⟨a,e,⟨xs,hq⟩,q⟩:=q1;subst e;cases r1;obtain ⟨its,rv,p,hz⟩:=I1.list hq;refine wpAny_pyIter_list p.isList ?_;refine ⟨s1.heap.objs.size,[s1.heap.objs.size],_,_,H1,rfl,I1.kept (t':=s1.toks) λb o e=>yX _ e,MJ a _,⟨_,yJ _ rfl,rfl,rfl⟩,λb hb=>?_,q⟩;have e:b=s1.heap.objs.size:=by simpa using hb
 subst e;exact I1.fpOk (yU _) (I1.hok.fresh (yU _))
theorem Df {R:It->Hp->Prop}{hi:Int}{t u v:Tok}{tk:Nat}(I:Inv X pins σ H s)(h1:-(2 ^ 62)<=lo)(h2:lo<2 ^ 62)(h3:-(2 ^ 62)<=hi)(h4:hi<2 ^ 62)(q:R (Itr lo (hi-lo).toNat) H):wpAny (model X.prog X.w) X.A (pyIter (.ref s.heap.objs.size)) (PIE X pins σ tg R) E { s with heap:=s.heap.push { cls:= .type "range",data:= .fields #[.int lo t,.int hi u,.int 1 v] },toks:=tk }:=by
 refine wpAny_pyIter_range (IsRange.new ..) (small_one h1 h2 h3 h4) ?_;have I1:Inv X pins σ H { s with heap:=s.heap.push { cls:= .type "range",data:= .fields #[.int lo t,.int hi u,.int 1 v] },toks:=tk }:=I.kept λb o e=>yX _ e;refine ⟨(s.heap.push { cls:= .type "range",data:= .fields #[.int lo t,.int hi u,.int 1 v] }).objs.size,[(s.heap.push { cls:= .type "range",data:= .fields #[.int lo t,.int hi u,.int 1 v] }).objs.size],_,_,H,rfl,
  I1.kept (t':=tk) λb o e=>yX _ e,MK _ lo (hi-lo).toNat,?_,λb hb=>?_,q⟩
 ·have e1:lo+((0:Nat):Int)*1=lo:=by simp
  have e2:(((hi-lo).toNat:Nat):Int)-((0:Nat):Int)=Builtin.Range.rangeSize lo hi 1:=by rw [rangeSize_one];split<;>omega
  show IsRangeIter _ _ (lo+((0:Nat):Int)*1) ((((hi-lo).toNat:Nat):Int)-((0:Nat):Int)) 1;rw [e1,e2];exact yJ _ rfl
 ·have e:b=(s.heap.push { cls:= .type "range",data:= .fields #[.int lo t,.int hi u,.int 1 v] }).objs.size:=by simpa using hb
  subst e;exact I1.fpOk (yU _) (I1.hok.fresh (yU _))
def zA (ta:TA):TI:=λσ H R=>ta σ H λvs H1=>∃ j:Int,vs=[.int j]/\-(2 ^ 62)<=j/\j<2 ^ 62/\R (Itr 0 j.toNat) H1
theorem xF {a:Expr}{ta:TA}{p:Pos}(hg:Gl X "range")(hm:X.mg "range"=none)(ha:PA X [a] ta)(hs:starEach [a] X.env=[(false,eval a X.env)]:=by rfl):PI X tg (.Call (.Name "range" p) [a] [] pos) (zA ta):=by
 intro pins s σ H R I h;refine Call_ (xB I hg hm boot_range (PyProof.Rows.callWith_type1 (z8 (ha pos pins s σ H _ I h) λus s1 ⟨vs,H1,I1,r1,q1⟩=>?_) hs rfl));obtain ⟨j,e,q1,q2,q⟩:=q1;subst e;cases r1 with
 |cons r rr=>cases rr;obtain ⟨t,rfl⟩:=r;exact call_range_1 (Df I1 (by omega) (by omega) q1 q2 (by simpa using q))
def tFor (wi:TI)(g:TG)(tb:TS):TS:=λD σ H=>wi σ H λJ H1=>∃ W:Nat->Nat->St->Hp->Prop,(∃ m,W 0 m σ H1)/\∀ i m σ H,W i m σ H ->
 (J.stop i H/\D.nx σ H)∨(J.go i H/\∃ N:St->Hp->Prop,(∀ σ' H',N σ' H'->∃ m',m'<m/\W (i+1) m' σ' H')/\∀ x H',J.yld i H x H'->g x σ H' λσ2 H2=>tb { D with nx:=N,ct:=N,bk:=D.nx } σ2 H2)
def wA (fp:List Addr)(h:Heap):List (Addr×Obj):=fp.filterMap λb=>(h.get? b).map λo=>(b,o)
theorem QC {o:Obj}(hb:b∈fp)(e:h.get? b=some o):(b,o)∈wA fp h:=List.mem_filterMap.mpr ⟨b,hb,by rw [e];rfl⟩
theorem BZ {p:Addr×Obj}(hp:p∈wA fp h):p.1∈fp/\h.get? p.1=some p.2:=by
 obtain ⟨b,hb,e⟩:=List.mem_filterMap.mp hp;cases q:h.get? b with
 |none=>rw [q] at e;cases e
 |some o=>rw [q] at e;have e':(b,o)=p:=Option.some.inj e;subst e';exact ⟨hb,q⟩
theorem Inv.pinned (I:Inv X pins σ H s)(hf:∀ b∈fp,qA X pins H b)(ho:∀ b∈fp,∃ o,s.heap.get? b=some o/\∀ v,o.data ≠ .cell v):Inv X (pins++wA fp s.heap) σ H s :=
 I.pins_of λp hp=>(yg.mp hp).elim (λz=>I.pin p (yp _ z)) λz=>by
  obtain ⟨hb,e⟩:=BZ z;obtain ⟨f0,f1,f2,_⟩:=hf p.1 hb;obtain ⟨o,e',d⟩:=ho p.1 hb;rw [e] at e';cases e';exact ⟨e,f0,f1,f2,d⟩
theorem Inv.unpinned {pl:List (Addr×Obj)}(I:Inv X (pins++pl) σ H s):Inv X pins σ H s:=I.pins_of λp hp=>I.pin p (yp _ (List.mem_append_left _ hp))
theorem qy {iter:Expr}{body:List Stmt}{wi:TI}{g:TG}{tb:TS}{pos:Pos}(hp:PassesOwn (model X.prog X.w) X.A X.env X.xe)(hc:X.calm=true)(hi:PI X tg iter wi)(hg:PG X tg g)(hb:PSs X body tb)(hs:∀ x,foldedSetIterable iter X.env x=pure x:=by intro _;rfl):PS X (.For tg iter body [] pos) (tFor wi g tb):=by
 intro pins s σ H D I h;refine wpAny_For (z8 (hi pins s σ H _ I h) λv s1 h1=>z8 h1 λitv s2 h2=>?_) hs;obtain ⟨it,fp,tn,J,H2,e,I2,T,st2,f2,W,⟨m0,w0⟩,turn⟩:=h2;subst e
 -- what stays true of the iterator's objects through the loop
 have stat:∀{H':Hp},(∀ b∈fp,H' b=none)->∀ b∈fp,qA X pins H' b:=λhn b hb=>⟨hn b hb,(f2 b hb).2⟩;refine codeAny_forLoop_any (λn s'=>∃ i σ' H',Inv X pins σ' H' s'/\tn i s'.heap/\(∀ b∈fp,H' b=none)/\W i n σ' H') ?_ m0 ⟨0,σ,H2,I2,st2,λb hb=>(f2 b hb).1,w0⟩;rintro n s3 ⟨i,σ3,H3,I3,st3,fr3,w3⟩;rcases turn i n σ3 H3 w3 with ⟨stop,qn⟩|⟨go,N,hN,step⟩
 ·refine wpAny_passesOwn hp (z8 (T.done X rfl rfl rfl hc i pins s3 σ3 H3 X.xe I3 (stat fr3) st3 stop) λr s4 ⟨hr,I4⟩=>?_);subst hr;exact wpAny_execs_nil ⟨σ3,H3,I4,qn⟩
 ·refine wpAny_passesOwn hp (z8 (T.item X rfl rfl rfl hc i pins s3 σ3 H3 X.xe I3 (stat fr3) st3 go) λr s4 ⟨u,hr,h4⟩=>?_);subst hr;refine wpAny_passesOwn hp (z8 h4 λ_ s5 ⟨x,H5,I5,r5,y5,st5,fr5⟩=>?_);have I5':=I5.pinned (stat fr5) (T.obj _ _ st5);refine wpAny_passesOwn hp (z8 (hg _ s5 σ3 H5 x u _ I5' r5 (step x H5 y5)) λ_ s6 ⟨σ6,H6,I6,q6⟩=>?_);refine wpAny_passesOwn hp (z8 (hb _ s6 σ6 H6 _ I6 q6) λf s7 q7=>?_);have again:∀{σ7:St}{H7:Hp},Inv X (pins++wA fp s5.heap) σ7 H7 s7->N σ7 H7->∃ m,m<n/\∃ i σ' H',Inv X pins σ' H' s7/\tn i s7.heap/\(∀ b∈fp,H' b=none)/\W i m σ' H':=λ{σ7 H7} I7 n7=>by
   obtain ⟨m',hm,w7⟩:=hN σ7 H7 n7;refine ⟨m',hm,i+1,σ7,H7,I7.unpinned,T.keep _ _ _ st5 λb hb o e=>(I7.pin (b,o) (yp _ (yp _ (QC hb e)))).1,λb hb=>?_,w7⟩;obtain ⟨o,e,d⟩:=T.obj _ _ st5 b hb;exact (I7.pin (b,o) (yp _ (yp _ (QC hb e)))).2.1
  cases f with
  |next=>obtain ⟨σ7,H7,I7,n7⟩:=q7;exact again I7 n7
  |cont=>obtain ⟨σ7,H7,I7,n7⟩:=q7;exact again I7 n7
  |brk=>obtain ⟨σ7,H7,I7,q7⟩:=q7;exact ⟨σ7,H7,I7.unpinned,q7⟩
  |ret v=>obtain ⟨x7,σ7,H7,I7,r7,q7⟩:=q7;exact ⟨x7,σ7,H7,I7.unpinned,r7,q7⟩
end
theorem Kz (Pv:Nat->St->Hp->Prop)(h0:Pv 0 σ H)(hl:∀ i σ H,i<=xs.length->Pv i σ H->SqL K H a xs)(hs:∀ i x σ H,xs[i]?=some x->Pv i σ H->g x σ H λσ2 H2=>tb { D with nx:=Pv (i+1),ct:=Pv (i+1),bk:=D.nx } σ2 H2)(hd:∀ σ H,Pv xs.length σ H->D.nx σ H):∃ W:Nat->Nat->St->Hp->Prop,(∃ m,W 0 m σ H)/\∀ i m σ H,W i m σ H -> ((Itl K a).stop i H/\D.nx σ H)∨((Itl K a).go i H/\∃ N:St->Hp->Prop,(∀ σ' H',N σ' H'->∃ m',m'<m/\W (i+1) m' σ' H')/\∀ x H',(Itl K a).yld i H x H'->g x σ H' λσ2 H2=>tb { D with nx:=N,ct:=N,bk:=D.nx } σ2 H2):=by
 refine ⟨λi m σ H=>m=xs.length-i/\i<=xs.length/\Pv i σ H,⟨xs.length,by simp,yk _,h0⟩,?_⟩;rintro i m σ H ⟨rfl,hi,p⟩;have q:=hl i σ H hi p;by_cases hlt:i<xs.length
 ·refine .inr ⟨⟨xs,xs[i],q,by simp [hlt]⟩,Pv (i+1),λσ' H' p'=>⟨xs.length-(i+1),by omega,rfl,hlt,p'⟩,λx H' y=>?_⟩;obtain ⟨e,y⟩:=y;subst e;exact hs i x σ _ (y xs q) p
 ·have e:i=xs.length:=by omega
  subst e;exact .inl ⟨⟨xs,q,yU _⟩,hd σ H p⟩
theorem Qi (Pv:Nat->St->Hp->Prop)(h0:Pv 0 σ H)(hs:∀ i σ H,i<n->Pv i σ H->g (.int (lo+i)) σ H λσ2 H2=>tb { D with nx:=Pv (i+1),ct:=Pv (i+1),bk:=D.nx } σ2 H2)(hd:∀ σ H,Pv n σ H->D.nx σ H):∃ W:Nat->Nat->St->Hp->Prop,(∃ m,W 0 m σ H)/\∀ i m σ H,W i m σ H -> ((Itr lo n).stop i H/\D.nx σ H)∨((Itr lo n).go i H/\∃ N:St->Hp->Prop,(∀ σ' H',N σ' H'->∃ m',m'<m/\W (i+1) m' σ' H')/\∀ x H',(Itr lo n).yld i H x H'->g x σ H' λσ2 H2=>tb { D with nx:=N,ct:=N,bk:=D.nx } σ2 H2):=by
 refine ⟨λi m σ H=>m=n-i/\i<=n/\Pv i σ H,⟨n,by simp,yk _,h0⟩,?_⟩;rintro i m σ H ⟨rfl,hi,p⟩;by_cases hlt:i<n
 ·refine .inr ⟨hlt,Pv (i+1),λσ' H' p'=>⟨n-(i+1),by omega,rfl,hlt,p'⟩,λx H' y=>?_⟩;obtain ⟨e,y⟩:=y;subst e y;exact hs i σ _ hlt p
 ·have e:i=n:=by omega
  subst e;exact .inl ⟨yU _,hd σ H p⟩
abbrev R2:=V->V->Hp->VK->Prop
variable{r r':R2}
def OpR (X:Cx)(f:Value->Value->Sem Value)(r:R2):Prop :=
 ∀(pins:List (Addr×Obj))(s:Shared)(σ:St)(H:Hp)(x y:V)(v u:Value)(Q:VK),Inv X pins σ H s->RelV x v->RelV y u->r x y H Q ->
  wpAny (model X.prog X.w) X.A (f v u) (EP X pins σ Q) X.xe s
def UnR (X:Cx)(f:Value->Sem Value)(r:V->Hp->VK->Prop):Prop :=
 ∀(pins:List (Addr×Obj))(s:Shared)(σ:St)(H:Hp)(x:V)(v:Value)(Q:VK),Inv X pins σ H s->RelV x v->r x H Q ->
  wpAny (model X.prog X.w) X.A (f v) (EP X pins σ Q) X.xe s
def CallR (X:Cx)(f:Value)(r:List V->Hp->VK->Prop):Prop :=
 ∀(pins:List (Addr×Obj))(s:Shared)(σ:St)(H:Hp)(xs:List V)(us:List Value)(Q:VK),Inv X pins σ H s->Vals xs us->r xs H Q ->
  wpAny (model X.prog X.w) X.A (call f us) (EP X pins σ Q) X.xe s
def TruR (X:Cx)(r:V->Hp->(Bool->Hp->Prop)->Prop):Prop :=
 ∀(pins:List (Addr×Obj))(s:Shared)(σ:St)(H:Hp)(x:V)(v:Value)(Q:Bool->Hp->Prop),Inv X pins σ H s->RelV x v->r x H Q ->
  wpAny (model X.prog X.w) X.A (truthy v) (TP X pins σ Q) X.xe s
def tOp (r:R2)(ta tb:TE):TE:=λσ H Q=>ta σ H λx H1=>tb σ H1 λy H2=>r x y H2 Q
def tUn (r:V->Hp->VK->Prop)(ta:TE):TE:=λσ H Q=>ta σ H λx H1=>r x H1 Q
def rI (C:Int->Int->Prop)(g:Int->Int->V):R2:=λx y H Q=>∃ i j,x = .int i/\y = .int j/\C i j/\Q (g i j) H
def rI0 (g:Int->Int->V):R2:=λx y H Q=>∃ i j,x = .int i/\y = .int j/\Q (g i j) H
def rU (g:Int->V):V->Hp->VK->Prop:=λx H Q=>∃ i,x = .int i/\Q (g i) H
section
variable {X:Cx}{a b c:Expr}{ta tb tc:TE}{pos:Pos}
theorem binT (ha:PE X a ta)(hb:PE X b tb)(I:Inv X pins σ H s)(h:ta σ H λx H1=>tb σ H1 λy H2=>R x y H2)(hf:∀ v u s2 x y H2,Inv X pins σ H2 s2->RelV x v->RelV y u->R x y H2->wpAny (model X.prog X.w) X.A (f v u) Q X.xe s2):wpAny (model X.prog X.w) X.A (eval a X.env) (λv s₁=>wpAny (model X.prog X.w) X.A (eval b X.env) (λu s₂=>wpAny (model X.prog X.w) X.A (f v u) Q X.xe s₂) X.xe s₁) X.xe s:=by refine z8 (ha pins s σ H _ I h) λv s1 ⟨x,H1,I1,r1,q1⟩=>?_;refine z8 (hb pins s1 σ H1 _ I1 q1) λu s2 ⟨y,H2,I2,r2,q2⟩=>?_;exact hf v u s2 x y H2 I2 r1 r2 q2
theorem v5 {op:Operator}(ho:OpR X (binaryOp op) r)(ha:PE X a ta)(hb:PE X b tb):PE X (.BinOp a op b pos) (tOp r ta tb):=by intro pins s σ H Q I h;exact wpAny_BinOp (binT ha hb I h λv u s2 x y H2 I2 rx ry q=>ho pins s2 σ H2 x y v u Q I2 rx ry q)
theorem Zb {op:UnaryOp}{r:V->Hp->VK->Prop}(ho:UnR X (unaryOp op) r)(ha:PE X a ta):PE X (.UnaryOp op a pos) (tUn r ta):=by intro pins s σ H Q I h;exact UnaryOp_ (z8 (ha pins s σ H _ I h) λv s1 ⟨x,H1,I1,r1,q1⟩=>ho pins s1 σ H1 x v Q I1 r1 q1)
theorem opI {C:Int->Int->Prop}{g:Int->Int->Int}(rule:∀(i j:Int)(t u:Tok)(s:Shared)(Q:Value->Shared->Prop)(E:Value->Shared->Prop),C i j->Q (.int (g i j) s.toks) { s with toks:=s.toks+1 }->wpAny (model X.prog X.w) X.A (f (.int i t) (.int j u)) Q E s):OpR X f (rI C λi j=> .int (g i j)):=by intro pins s σ H x y v u Q I rx ry h;obtain ⟨i,j,rfl,rfl,hc,q⟩:=h;obtain ⟨t,rfl⟩:=rx;obtain ⟨t',rfl⟩:=ry;exact rule i j t t' s _ _ hc ⟨.int (g i j),H,I.tok _,⟨_,rfl⟩,q⟩
theorem opI0 {g:Int->Int->Int}(rule:∀(i j:Int)(t u:Tok)(s:Shared)(Q:Value->Shared->Prop)(E:Value->Shared->Prop),Q (.int (g i j) s.toks) { s with toks:=s.toks+1 }->wpAny (model X.prog X.w) X.A (f (.int i t) (.int j u)) Q E s):OpR X f (rI0 λi j=> .int (g i j)):=by intro pins s σ H x y v u Q I rx ry h;obtain ⟨i,j,rfl,rfl,q⟩:=h;obtain ⟨t,rfl⟩:=rx;obtain ⟨t',rfl⟩:=ry;exact rule i j t t' s _ _ ⟨.int (g i j),H,I.tok _,⟨_,rfl⟩,q⟩
theorem opB0 {g:Int->Int->Bool}(rule:∀(i j:Int)(t u:Tok)(s:Shared)(Q:Value->Shared->Prop)(E:Value->Shared->Prop),Q (.bool (g i j)) s->wpAny (model X.prog X.w) X.A (f (.int i t) (.int j u)) Q E s):OpR X f (rI0 λi j=> .bl (g i j)):=by intro pins s σ H x y v u Q I rx ry h;obtain ⟨i,j,rfl,rfl,q⟩:=h;obtain ⟨t,rfl⟩:=rx;obtain ⟨t',rfl⟩:=ry;exact rule i j t t' s _ _ ⟨.bl (g i j),H,I,rfl,q⟩
def zn (i j:Int):Prop:=0<=j/\j<=1000000/\i.natAbs<2 ^ 64
def CMul (i j:Int):Prop:=(-(2 ^ 64)<i/\i<2 ^ 64)∨(-(2 ^ 64)<j/\j<2 ^ 64)
theorem CMul.ok {i j:Int}(h:CMul i j):IntMulOk i j:=by
 rcases h with ⟨h1,h2⟩|⟨h1,h2⟩
 ·exact .of_left (intBits_le_64 h1 h2)
 ·exact .of_right (intBits_le_64 h1 h2)
theorem op_add:OpR X (binaryOp .Add) (rI0 λi j=> .int (i+j)):=opI0 λ_ _ _ _ _ _ _ q=>add_int q
theorem qW:OpR X (binaryOp .Sub) (rI0 λi j=> .int (i-j)):=opI0 λ_ _ _ _ _ _ _ q=>sub_int q
theorem vg:OpR X (binaryOp .Mult) (rI CMul λi j=> .int (i*j)):=opI λ_ _ _ _ _ _ _ hc q=>mul_int q hc.ok
theorem jo:OpR X (binaryOp .Mod) (rI (λ_ j=>0<j) λi j=> .int (i % j)):=opI λi j _ _ _ _ _ hc q=>by
 have h1:(0:Int)<j:=hc;exact mod_int' (by omega) (by rw [Int.fmod_eq_emod_of_nonneg i (by omega)];exact q)
theorem xq:OpR X (binaryOp .Pow) (rI zn λi j=> .int (i ^ j.toNat)):=opI λ_ _ _ _ _ _ _ hc q=>pow_int_small hc.1 hc.2.1 hc.2.2 q
theorem unI {f:Value->Sem Value}{g:Int->Int}(rule:∀(i:Int)(t:Tok)(s:Shared)(Q:Value->Shared->Prop)(E:Value->Shared->Prop),Q (.int (g i) s.toks) { s with toks:=s.toks+1 }->wpAny (model X.prog X.w) X.A (f (.int i t)) Q E s):UnR X f (rU λi=> .int (g i)):=by intro pins s σ H x v Q I rx h;obtain ⟨i,rfl,q⟩:=h;obtain ⟨t,rfl⟩:=rx;exact rule i t s _ _ ⟨.int (g i),H,I.tok _,⟨_,rfl⟩,q⟩
theorem Jq:UnR X (unaryOp .USub) (rU λi=> .int (-i)):=unI λ_ _ _ _ _ q=>neg_int q
end
section
variable {X:Cx}{a b c:Expr}{ta tb tc:TE}{pos:Pos}
theorem Xx {Q:VK}{k k':Bool}(I:Inv X pins σ H s)(q:Q (.bl k) H)(e:k=k'):EP X pins σ Q (.bool k') s:=by subst e;exact ⟨.bl k,H,I,rfl,q⟩
theorem XX:OpR X (compareOp .Lt) (rI0 λi j=> .bl (decide (i<j))):=opB0 λ_ _ _ _ _ _ _ q=>lt_int q
theorem vf:OpR X (compareOp .LtE) (rI0 λi j=> .bl (decide (i<=j))):=opB0 λ_ _ _ _ _ _ _ q=>le_int q
theorem WZ:OpR X (compareOp .Gt) (rI0 λi j=> .bl (decide (j<i))):=opB0 λ_ _ _ _ _ _ _ q=>gt_int q
theorem QF:OpR X (compareOp .GtE) (rI0 λi j=> .bl (decide (j<=i))):=opB0 λ_ _ _ _ _ _ _ q=>ge_int q
theorem Cp:OpR X (compareOp .Is) (λx y H Q=>y = .non/\Q (.bl (decide (x = .non))) H):=by
 intro pins s σ H x y v u Q I rx ry h;obtain ⟨rfl,q⟩:=h;cases ry;refine is_none_gen (Xx I q ?_);cases x<;>first
  |(cases rx;rfl)
  |(obtain ⟨t,rfl⟩:=rx;rfl)
theorem Cu:OpR X (compareOp .IsNot) (λx y H Q=>y = .non/\Q (.bl (!decide (x = .non))) H):=by
 intro pins s σ H x y v u Q I rx ry h;obtain ⟨rfl,q⟩:=h;cases ry;refine isnot_none_gen (Xx I q ?_);cases x<;>first
  |(cases rx;rfl)
  |(obtain ⟨t,rfl⟩:=rx;rfl)
theorem OpR.or (h:OpR X f r)(h':OpR X f r'):OpR X f (λx y H Q=>r x y H Q∨r' x y H Q):=by
 intro pins s σ H x y v u Q I rx ry q;rcases q with q|q
 ·exact h pins s σ H x y v u Q I rx ry q
 ·exact h' pins s σ H x y v u Q I rx ry q
theorem m7 (b:Expr)(h:op ≠ .In:=by decide)(h2:op ≠ .NotIn:=by decide):behindInMarks op b=false:=by
 have e1:(op==CmpOp.In)=false:=by cases op<;>first|rfl|exact absurd rfl h
 have e2:(op==CmpOp.NotIn)=false:=by cases op<;>first|rfl|exact absurd rfl h2
 cases b<;>simp [behindInMarks,e1,e2]
theorem vj (ho:OpR X (compareOp op) r)(ha:PE X a ta)(hb:PE X b tb)(hm:behindInMarks op b=false):PE X (.Compare a [op] [b] pos) (tOp r ta tb):=by intro pins s σ H Q I h;exact wpAny_Compare1 (binT ha hb I h λv u s2 x y H2 I2 rx ry q=>ho pins s2 σ H2 x y v u Q I2 rx ry q) hm
def QV (t:TE):TT:=λσ H Q=>t σ H λx H'=>∃ k,x = .bl k/\Q k H'
theorem t6 (ho:OpR X (compareOp op) r)(ha:PE X a ta)(hb:PE X b tb)(hm:behindInMarks op b=false):PT X (.Compare a [op] [b] pos) (QV (tOp r ta tb)):=by
 intro pins s σ H Q I h;refine wpAny_isTrue_Compare1 (z8 (ha pins s σ H _ I h) λv s1 ⟨x,H1,I1,r1,q1⟩=>z8 (hb pins s1 σ H1 _ I1 q1) λu s2 ⟨y,H2,I2,r2,q2⟩ =>
  z8 (ho pins s2 σ H2 x y v u _ I2 r1 r2 q2) λc s3 ⟨z,H3,I3,r3,k,e,q3⟩=>?_) hm
 subst e;cases r3;exact wpAny_truthy_bool ⟨H3,I3,q3⟩
def Jn (r r':R2)(ta tb tc:TE):TE:=λσ H Q=>ta σ H λx H1=>tb σ H1 λy H2=>r x y H2 λz H3=>∃ k,z = .bl k /\
 (if k=true then tc σ H3 λw' H4=>r' y w' H4 Q else Q (.bl false) H3)
theorem CA (ho:OpR X (compareOp op) r)(ho':OpR X (compareOp op') r')(ha:PE X a ta)(hb:PE X b tb)(hc:PE X c tc)(hm:lastMarks [op,op'] [b,c]=false:=by with_unfolding_all rfl):PE X (.Compare a [op,op'] [b,c] pos) (Jn r r' ta tb tc):=by
 intro pins s σ H Q I h;refine Compare_chain (z8 (ha pins s σ H _ I h) λv s1 ⟨x,H1,I1,r1,q1⟩=>chain_link (z8 (hb pins s1 σ H1 _ I1 q1) λu s2 ⟨y,H2,I2,r2,q2⟩ =>
  z8 (ho pins s2 σ H2 x y v u _ I2 r1 r2 q2) λd s3 ⟨z,H3,I3,r3,k,e,q3⟩=>?_)) hm
 subst e;cases r3;refine wpAny_truthy_bool ?_;cases k with
 |false=>exact ite_ff ⟨.bl false,H3,I3,rfl,q3⟩
 |true=>exact ite_tt (chain_last (z8 (hc pins s3 σ H3 _ I3 q3) λw' s4 ⟨z',H4,I4,r4,q4⟩=>ho' pins s4 σ H4 y z' u w' Q I4 r2 r4 q4))
theorem Zg (ho:OpR X (compareOp op) r)(ho':OpR X (compareOp op') r')(ha:PE X a ta)(hb:PE X b tb)(hc:PE X c tc)(hm:lastMarks [op,op'] [b,c]=false:=by with_unfolding_all rfl):PT X (.Compare a [op,op'] [b,c] pos) (QV (Jn r r' ta tb tc)):=by
 intro pins s σ H Q I h;refine isTrue_chain (z8 (ha pins s σ H _ I h) λv s1 ⟨x,H1,I1,r1,q1⟩=>test_link (z8 (hb pins s1 σ H1 _ I1 q1) λu s2 ⟨y,H2,I2,r2,q2⟩ =>
  z8 (ho pins s2 σ H2 x y v u _ I2 r1 r2 q2) λd s3 ⟨z,H3,I3,r3,k,e,q3⟩=>?_)) hm
 subst e;cases r3;refine wpAny_truthy_bool ?_;cases k with
 |false=>obtain ⟨k',e',q'⟩:=q3;cases e';exact ite_ff ⟨H3,I3,q'⟩
 |true=>refine ite_tt (test_last (z8 (hc pins s3 σ H3 _ I3 q3) λw' s4 ⟨z',H4,I4,r4,q4⟩=>z8 (ho' pins s4 σ H4 y z' u w' _ I4 r2 r4 q4) λd' s5 ⟨z2,H5,I5,r5,k2,e2,q5⟩=>?_));subst e2;cases r5;exact wpAny_truthy_bool ⟨H5,I5,q5⟩
def TruV (K:Fg)(x:V)(H:Hp)(k:Bool):Prop :=
 match x with
 | .non=>k=false
 | .bl b=>k=b
 | .int i=>k=(i != 0)
 | .str y=>y.length<=sizeLine/\k=((y.length:Int) != 0)
 | .byt y=>y.size<=sizeLine/\k=((y.size:Int) != 0)
 | .ref p=>(∃ xs,SqL K H p xs/\k=!xs.isEmpty)∨(∃ xs,SqT K H p xs/\k=!xs.isEmpty)∨∃ kvs,H p=some (.dK kvs)/\k=!kvs.isEmpty
 |_=>False
theorem Bc {κ:Type}{kvs:List (κ×V)}{vs:List (κ×Value)}(r:KV kvs vs):(!vs.isEmpty)=!kvs.isEmpty:=by cases r<;>rfl
theorem Ww {its:List Value}(r:Vals xs its):(!its.toArray.isEmpty)=!xs.isEmpty:=by cases r<;>simp
theorem jk:(sizeLine:Nat)<2 ^ 63:=by rw [sizeLine_eq];decide
theorem MH:TruR X (λx H Q=>∃ k,TruV X.K x H k/\Q k H):=by
 intro pins s σ H x v Q I rx h;obtain ⟨k,e,q⟩:=h;have hl:=jk;have hs:sizeLine=16777216:=sizeLine_eq;cases x with
 |non=>cases rx;have e':k=false:=e;subst e';exact truthy_none ⟨H,I,q⟩
 |bl b=>cases rx;have e':k=b:=e;subst e';exact wpAny_truthy_bool ⟨H,I,q⟩
 |int i=>obtain ⟨t,rfl⟩:=rx;have e':k=(i != 0):=e;subst e';exact PySem.P.truthy_int ⟨H,I,q⟩
 |str y=>obtain ⟨t,rfl⟩:=rx;obtain ⟨hy,e'⟩:y.length<=sizeLine/\k=((y.length:Int) != 0):=e;subst e';exact PySem.P.truthy_str (by omega) ⟨H,I.tok _,q⟩
 |byt y=>obtain ⟨t,rfl⟩:=rx;obtain ⟨hy,e'⟩:y.size<=sizeLine/\k=((y.size:Int) != 0):=e;subst e';exact PySem.W.truthy_bytes (by omega) ⟨H,I.tok _,q⟩
 |ref p =>
  cases rx;have e':(∃ xs,SqL X.K H p xs/\k=!xs.isEmpty)∨(∃ xs,SqT X.K H p xs/\k=!xs.isEmpty)∨∃ kvs,H p=some (.dK kvs)/\k=!kvs.isEmpty:=e;rcases e' with ⟨xs,hx,e'⟩|⟨xs,hx,e'⟩|⟨kvs,hx,e'⟩
  ·subst e';obtain ⟨its,r,pl,hz⟩:=I.list hx;have hlen:=r.length;exact wpAny_truthy_list pl.isList (by simp only [yW];omega) ⟨H,I.tok _,by rw [Ww r];exact q⟩
  ·subst e';obtain ⟨its,r,pl,hz⟩:=I.tuple hx;have hlen:=r.length;exact truthy_tuple pl (by simp only [yW];omega) ⟨H,I.tok _,by rw [Ww r];exact q⟩
  ·subst e';obtain ⟨hz,hS,vs,r,m⟩:kvs.length<=sizeLine/\(p==sysModules)=false/\∃ vs,KV kvs vs/\s.heap.DictOf (i4 X.prog X.w) p vs:=I.hok p _ hx;have hlen:kvs.length=vs.length:=Paired.length r;exact wpAny_truthy_dict hS m (by omega) ⟨H,I.tok _,by rw [Bc r];exact q⟩
 |_=>exact (show False from e).elim
theorem Dd (ha:PE X a ta)(he:∀ whole,isTrue a X.env whole=(do let v <- whole;standAt a.pos;holding [v] (truthy v))):
  PT X a (λσ H Q=>ta σ H λx H'=>∃ k,TruV X.K x H' k/\Q k H'):=by
 intro pins s σ H Q I h;exact isTrue_plain (z8 (ha pins s σ H _ I h) λv s1 ⟨x,H1,I1,r1,q1⟩=>MH pins s1 σ H1 x v Q I1 r1 q1) (he _)
theorem op_add_str:OpR X (binaryOp .Add) (λx y H Q=>∃ i j,x = .str i/\y = .str j/\i.length+j.length<=sizeLine/\Q (.str (i++j)) H):=by intro pins s σ H x y v u Q I rx ry h;obtain ⟨i,j,rfl,rfl,hz,q⟩:=h;obtain ⟨t,rfl⟩:=rx;obtain ⟨t',rfl⟩:=ry;exact add_str (λt' tk=>⟨.str (i++j),H,I.tok _,⟨_,rfl⟩,q⟩) hz
theorem xc {x:V}(r:Vals [x] us):∃ u,us=[u]/\RelV x u:=by
 cases r with
 |cons r1 r2=>cases r2;exact ⟨_,rfl,r1⟩
theorem UD {x:V}(r:Vals [x,y] us):∃ u w',us=[u,w']/\RelV x u/\RelV y w':=by
 cases r with
 |cons r1 r2 =>
  cases r2 with
  |cons r3 r4=>cases r4;exact ⟨_,_,rfl,r1,r3⟩
theorem GH (hc:X.calm=true):CallR X (.builtin "min") (λxs H Q=>∃ i j,xs=[.int i,.int j]/\Q (.int (if j<i then j else i)) H):=by
 intro pins s σ H xs us Q I r h;obtain ⟨i,j,rfl,q⟩:=h;obtain ⟨u,w',rfl,⟨t,rfl⟩,⟨t',rfl⟩⟩:=UD r;refine min_two_ints (I.ok.hd hc) λh' tk k=>⟨_,H,I.kept k,?_,q⟩;by_cases hj:j<i
 ·rw [if_pos hj,if_pos hj];exact ⟨_,rfl⟩
 ·rw [if_neg hj,if_neg hj];exact ⟨_,rfl⟩
def LenV (K:Fg)(x:V)(H:Hp)(n:Nat):Prop :=
 match x with
 | .str y=>y.length<=sizeLine/\n=y.length
 | .byt y=>y.size<=sizeLine/\n=y.size
 | .ref p=>(∃ xs,SqL K H p xs/\n=xs.length)∨∃ xs,SqT K H p xs/\n=xs.length
 |_=>False
theorem GB:CallR X (.builtin "len") (λxs H Q=>∃ x n,xs=[x]/\LenV X.K x H n/\Q (.int n) H):=by
 intro pins s σ H xs us Q I r h;obtain ⟨x,n,rfl,e,q⟩:=h;obtain ⟨u,rfl,rx⟩:=xc r;have hl:=jk;have hs:sizeLine=16777216:=sizeLine_eq;cases x with
 |str y=>obtain ⟨t,rfl⟩:=rx;obtain ⟨hy,e'⟩:y.length<=sizeLine/\n=y.length:=e;subst e';exact len_str (by omega) ⟨.int _,H,I.tok _,⟨_,rfl⟩,q⟩
 |byt y=>obtain ⟨t,rfl⟩:=rx;obtain ⟨hy,e'⟩:y.size<=sizeLine/\n=y.size:=e;subst e';exact PySem.W.len_bytes (by omega) ⟨.int _,H,I.tok _,⟨_,rfl⟩,q⟩
 |ref p =>
  cases rx;have e':(∃ xs,SqL X.K H p xs/\n=xs.length)∨∃ xs,SqT X.K H p xs/\n=xs.length:=e;rcases e' with ⟨xs,hx,e'⟩|⟨xs,hx,e'⟩
  ·subst e';obtain ⟨its,r',pl,hz⟩:=I.list hx;have hlen:=r'.length;exact Calls.call_len_list pl.isList (by simp only [yW];omega) ⟨.int xs.length,H,I.tok _,⟨_,by simp only [yW];rw [hlen]⟩,q⟩
  ·subst e';obtain ⟨its,r',pl,hz⟩:=I.tuple hx;have hlen:=r'.length;exact len_tuple pl (by simp only [yW];omega) ⟨.int xs.length,H,I.tok _,⟨_,by simp only [yW];rw [hlen]⟩,q⟩
 |_=>exact (show False from e).elim
end
structure ObjM (h:Heap)(x dx C:Addr)(mA:Str->Option Value):Prop where
 obj:h.get? x=some (PySem.W.instObj C dx)
 ns:h.Ns1 dx mA
 ne:dx≠x
theorem BD (n:h.Ns1 dx mA):∃ od,h.get? dx=some od/\∀ name,PySem.W.lookIn name od=some (mA name):=by
 obtain ⟨o,es,ep,ho,hd,hk,_,hm⟩:=n;refine ⟨o,ho,λname=>?_⟩;have e:=hm name;unfold nsFind findBy at e;rw [<- Array.find?_toList] at e;unfold PySem.W.lookIn;rw [hd]
 dsimp only
 split
 ·rename_i y q;rw [q] at e;exact congrArg some e
 ·rename_i q;rw [q] at e;have a:es.toList.any (·.refKey)=false:=by rw [List.any_eq_false];intro y hy;obtain ⟨z,t,hkey⟩:=hk y (Array.mem_toList_iff.mp hy);simp [DictEntry.refKey,hkey]
  have a':¬ es.toList.any (·.refKey)=true:=by rw [a];exact yS
  rw [if_neg a'];exact congrArg some e
theorem ObjM.look {x:Addr}(I:ObjM h x dx C mA):∃ od,PySem.W.InstAt h x (PySem.W.instObj C dx) C (some od)/\∀ name,PySem.W.lookIn name od=some (mA name) :=
 let ⟨od,ho,hl⟩:=BD I.ns
 ⟨od,⟨I.obj,rfl,rfl,ho⟩,hl⟩
section
variable {prog:Program}{w:World}{A:Around}{E:Value->Shared->Prop}{s:Shared}{K:Fg}{x dx C f:Addr}{mA:Str->Option Value}{name:Str}{v:Value}
theorem KC {expr:Bool}(X:K.In s.heap)(I:ObjM s.heap x dx C mA)(hg:PySem.W.plainGet K C name=true)(hh:PySem.W.hasDictIn K C=true)(ha:PySem.W.findIn K (.ref C) name=some none)(hv:mA name=some v)(hv':PySem.W.handedIn v=true)(h:Q v { s with toks:=s.toks+1 }):wpAny (model prog w) A (getAttr (.ref x) name expr) Q E s:=by obtain ⟨od,J,hl⟩:=I.look;exact PySem.W.get_value X J (PySem.W.plainGet_of hg).1 (PySem.W.findObj_own hh ha rfl (by rw [hl,hv])) hv' h
theorem KD {Q:Value×List Value->Shared->Prop}(X:K.In s.heap)(I:ObjM s.heap x dx C mA)(hg:PySem.W.plainGet K C name=true)(hf:PySem.W.findIn K (.ref C) name=some (some (.ref f)))(ht:PySem.W.isFn K (.ref f)=true)(hv:mA name=none)(h:Q (.ref f,[.ref x]) s):wpAny (model prog w) A (getMethod (.ref x) name pl) Q E s:=by obtain ⟨od,J,hl⟩:=I.look;exact PySem.W.method_fn X J (PySem.W.plainGet_of hg).1 (PySem.W.plainGet_of hg).2 hf (beq_iff_eq.mp ht) (by show (PySem.W.lookIn name od).map (·.isSome)=some false;rw [hl,hv];rfl) h
theorem Mq {ns:List Str}{Q:Unit->Shared->Prop}(X:K.In s.heap)(I:ObjM s.heap x dx C mA)(hs:PySem.W.findIn K (.ref C) "__setattr__"=some (some (.builtin "object.__setattr__")))(hp:PySem.W.plainOver K C=true)(ht:PySem.W.takerIn K C name=some none)(hh:PySem.W.hasDictIn K C=true)(hw:PySem.Within mA ns)(hsz:ns.length<=sizeLine)(h:∀ h',ObjM h' x dx C (λy=>if y=name then some v else mA y)->Heap.SameBut dx s.heap h'->Q () { s with heap:=h',toks:=s.toks+2 }):wpAny (model prog w) A (setAttr (.ref x) name v) Q E s:=by obtain ⟨od,J,hl⟩:=I.look;refine PySem.W.set_plain X J hs (PySem.W.osa_open (s:={ s with toks:=s.toks+1 }) (r:=none) X J hp ht λb=>?_);obtain ⟨cd,hc,hd'⟩:=PySem.W.any_some hh;have hx:s.heap.get? x=some ⟨.ref C,some dx,.plain,#[]⟩:=I.obj;refine yY (yP (yY (yY (wpAny_loadPart hx (yY (PySem.W.Looks.here (s:={ s with toks:=s.toks+1 }) (PySem.W.looks_clsIn X hc) ?_))))));rw [hd'];refine yP (a:=some dx) (yY (yP (yY ?_)));refine wpAny_nsSet1 (s:={ s with toks:=s.toks+1 }) I.ns λh' hn2 hs2=>?_;obtain ⟨oD,esD,epD,hoD,hdD,hcD⟩:=hn2.count (PySem.Within.cons name v hw);refine yY (wpAny_lookBehind hoD (by rw [hdD];exact pastItsLine_dict (yd hcD (by rw [yu];omega))) ?_);exact yP (h _ ⟨(hs2.2 _ (Ne.symm I.ne)).trans I.obj,hn2,I.ne⟩ hs2)
theorem BI {R:Result->Shared->Prop}{vs:List Value}(X:K.In s.heap)(hm:PySem.W.makesIn K C=true)(hi:PySem.W.findIn K (.ref C) "__init__"=some (some (.ref f)))(hf:PySem.W.typeIn K (.ref f)=some (.type "function"))(h:codeAny (model prog w) (A.under (.builtin "type.__call__" ⟨.ref C::vs,kw⟩)) (.call (.ref f) ⟨.ref (s.heap.objs.size+1)::vs,kw⟩) (PySem.W.InitBack (s.heap.objs.size+1) R) { s with heap:=(s.heap.push PySem.W.emptyDict).push (PySem.W.instObj C s.heap.objs.size) }):codeAny (model prog w) A (.call (.ref C) ⟨vs,kw⟩) R s:=by obtain ⟨hh,g,d,t,os⟩:=s;exact PySem.W.make_core (PySem.W.makes_of X hm) (PySem.W.looks_findIn X hi) (λself=>PySem.W.bind_fn X self hf) (.inl rfl) h
end
def qu (f:Str)(v:V):List (Str×V)->List (Str×V)
 |[]=>[(f,v)]
 |(g,x)::r=>if g=f then (g,v)::r else (g,x)::qu f v r
theorem WP (f g:Str)(v:V):∀ fs:List (Str×V),(qu f v fs).lookup g=if g=f then some v else fs.lookup g
 |[]=>by
  show List.lookup g [(f,v)]=_;by_cases h:g=f
  ·have hb:(g==f)=true:=beq_iff_eq.mpr h;simp only [List.lookup,hb,if_pos h]
  ·have hb:(g==f)=false:=beq_eq_false_iff_ne.mpr h;simp only [List.lookup,hb,if_neg h]
 |(k,x)::r=>by
  have ih:=WP f g v r;rw [show qu f v ((k,x)::r)=(if k=f then (k,v)::r else (k,x)::qu f v r) from rfl];by_cases hk:k=f
  ·rw [if_pos hk];by_cases h:g=k
   ·have hb:(g==k)=true:=beq_iff_eq.mpr h;simp only [List.lookup,hb,if_pos (h.trans hk)]
   ·have hb:(g==k)=false:=beq_eq_false_iff_ne.mpr h;simp only [List.lookup,hb,if_neg (λe:g=f=>h (e.trans hk.symm))]
  ·rw [if_neg hk];by_cases h:g=k
   ·have hb:(g==k)=true:=beq_iff_eq.mpr h;simp only [List.lookup,hb,if_neg (λe:g=f=>hk (h.symm.trans e))]
   ·have hb:(g==k)=false:=beq_eq_false_iff_ne.mpr h;simp only [List.lookup,hb];exact ih
theorem XF (f:Str)(v:V):∀ fs:List (Str×V),f∈(qu f v fs).map (·.1)/\∀ g,g∈fs.map (·.1)->g∈(qu f v fs).map (·.1)
 |[]=>⟨by simp [qu],λg h=>by simp at h⟩
 |(k,x)::r=>by
  obtain ⟨i1,i2⟩:=XF f v r;rw [show qu f v ((k,x)::r)=(if k=f then (k,v)::r else (k,x)::qu f v r) from rfl];by_cases hk:k=f
  ·rw [if_pos hk];subst hk;exact ⟨by simp,λg h=>by simpa using h⟩
  ·rw [if_neg hk];refine ⟨?_,λg h=>?_⟩
   ·rw [yN];exact yK _ i1
   ·rw [yN] at h ⊢;rcases yL.mp h with e|e
    ·exact yL.mpr (.inl e)
    ·exact yK _ (i2 g e)
theorem WK (f:Str)(v:V):∀ fs:List (Str×V),(qu f v fs).length<=fs.length+1
 |[]=>by simp [qu]
 |(k,x)::r=>by
  have ih:=WK f v r;rw [show qu f v ((k,x)::r)=(if k=f then (k,v)::r else (k,x)::qu f v r) from rfl];by_cases hk:k=f
  ·rw [if_pos hk,yu,yu];omega
  ·rw [if_neg hk,yu,yu];omega
theorem RelO.some_of {o:Option Value}(r:RelO (some v) o):∃ u,o=some u/\RelV v u:=by
 cases o with
 |none=>exact (show False from r).elim
 |some u=>exact ⟨u,rfl,r⟩
theorem RelO.none_of {o:Option Value}(r:RelO none o):o=none:=by
 cases o with
 |none=>rfl
 |some u=>exact (show False from r).elim
theorem KH (r:RelV v u):PySem.W.handedIn u=true:=by
 cases v with
 |non=>cases (show u=Value.none from r);rfl
 |bl b=>cases (show u=Value.bool b from r);rfl
 |int i=>obtain ⟨t,e⟩:=(show ∃ t,u=Value.int i t from r);cases e;rfl
 |str x=>obtain ⟨t,e⟩:=(show ∃ t,u=Value.str x t from r);cases e;rfl
 |byt b=>obtain ⟨t,e⟩:=(show ∃ t,u=Value.bytes b t from r);cases e;rfl
 |flt b=>obtain ⟨t,e⟩:=(show ∃ t,u=Value.float b t from r);cases e;rfl
 |ref a=>cases (show u=Value.ref a from r);rfl
 |ty n=>cases (show u=Value.type n from r);rfl
section
variable {P:Program}{w:World}{H H':Hp}{h h':Heap}{a C dx:Addr}{fs fs':List (Str×V)}
theorem Ql (hok:HOk P w H h)(e:H a=some (.ins C dx fs)):∃ mA,ObjM h a dx C mA/\(∀ f,RelO (fs.lookup f) (mA f))/\PySem.Within mA (fs.map (·.1))/\fs.length<=1000/\H dx=some (.own a):=by obtain ⟨d,z,ne,ob,mA,n,r,q⟩:=(show ObjOk P w H h a (.ins C dx fs) from hok a _ e);exact ⟨mA,⟨ob,n,ne⟩,r,q,z,d⟩
end
structure Cls (K:Fg)(C:Addr):Prop where
 pg:PySem.W.plainGet K C Str.empty=true
 hd:PySem.W.hasDictIn K C=true
 po:PySem.W.plainOver K C=true
 sa:PySem.W.findIn K (.ref C) "__setattr__"=some (some (.builtin "object.__setattr__"))
theorem Cls.get (c:Cls K C)(f:Str):PySem.W.plainGet K C f=true:=c.pg
def NoAttr (K:Fg)(C:Addr)(f:Str):Prop:=PySem.W.findIn K (.ref C) f=some none
theorem NoAttr.taker {f:Str}(n:NoAttr K C f):PySem.W.takerIn K C f=some none:=by unfold PySem.W.takerIn;rw [show PySem.W.findIn K (.ref C) f=some none from n];rfl
structure vA (K:Fg)(C:Addr)(m:Str)(f:Addr):Prop where
 at_:PySem.W.findIn K (.ref C) m=some (some (.ref f))
 fn:PySem.W.isFn K (.ref f)=true
 kp:PySem.W.keepIn K (.ref f)=true
section
variable {X:Cx}{pins:List (Addr×Obj)}{σ:St}{H:Hp}{s:Shared}{a C dx:Addr}{fs:List (Str×V)}{f:Str}{v:V}{A:Around}{E:Value->Shared->Prop}
theorem KE {b:Bool}(I:Inv X pins σ H s)(e:H a=some (.ins C dx fs))(c:Cls X.K C)(n:NoAttr X.K C f)(l:fs.lookup f=some v)(h:∀ u s',Inv X pins σ H s'->RelV v u->Q u s'):wpAny (model X.prog X.w) A (getAttr (.ref a) f b) Q E s:=by obtain ⟨mA,O,r,_,_,_⟩:=Ql I.hok e;obtain ⟨u,hu,ru⟩:=RelO.some_of (v:=v) (o:=mA f) (by rw [<- l];exact r f);exact KC I.kIn O (c.get f) c.hd n hu (KH ru) (h u _ (I.tok _) ru)
theorem Xz {g:Addr}{Q:Value×List Value->Shared->Prop}(I:Inv X pins σ H s)(e:H a=some (.ins C dx fs))(c:Cls X.K C)(k:vA X.K C m g)(l:fs.lookup m=none)(h:Q (.ref g,[.ref a]) s):wpAny (model X.prog X.w) A (getMethod (.ref a) m pl) Q E s:=by obtain ⟨mA,O,r,_,_,_⟩:=Ql I.hok e;have hn:mA m=none:=RelO.none_of (by rw [<- l];exact r m);exact KD I.kIn O (c.get m) k.at_ k.fn hn h
theorem Ms {Q:Unit->Shared->Prop}(I:Inv X pins σ H s)(e:H a=some (.ins C dx fs))(c:Cls X.K C)(n:NoAttr X.K C f)(hl:fs.length<1000)(ry:RelV y u)(h:∀ s',Inv X pins σ (j0 H a (.ins C dx (qu f y fs))) s'->Q () s'):wpAny (model X.prog X.w) A (setAttr (.ref a) f u) Q E s:=by
 obtain ⟨mA,O,r,wi,_,ho⟩:=Ql I.hok e;have hz:(fs.map (·.1)).length<=sizeLine:=by rw [yZ,sizeLine_eq];omega
 refine Mq I.kIn O c.sa c.po n.taker c.hd wi hz λh' O' sb=>h _ ?_;have hd:∃ o,h'.get? dx=some o:=let ⟨o,_,_,e',_⟩:=O'.ns;⟨o,e'⟩
 refine I.write (x:=a) (e:=dx) (by rw [e];exact True.intro) (.inr ho) (λb q hb z=>(sb.2 b hb).trans z) hd ?_;refine ⟨by rw [j3 O.ne];exact ho,?_,O.ne,O'.obj,_,O'.ns,λg=>?_,λg hg=>?_⟩
 ·have:=WK f y fs;omega
 ·show RelO ((qu f y fs).lookup g) (if g=f then some u else mA g);rw [WP];by_cases q:g=f
  ·rw [if_pos q,if_pos q];exact ry
  ·rw [if_neg q,if_neg q];exact r g
 ·by_cases q:g=f
  ·rw [q];exact (XF f y fs).1
  ·refine (XF f y fs).2 g (wi g λz=>hg ?_);show (if g=f then some u else mA g)=none;rw [if_neg q];exact z
theorem Inv.made (I:Inv X pins σ H s):Inv X pins σ (j0 (j0 H s.heap.objs.size (.own (s.heap.objs.size+1))) (s.heap.objs.size+1) (.ins C s.heap.objs.size [])) { s with heap:=(s.heap.push PySem.W.emptyDict).push (PySem.W.instObj C s.heap.objs.size) }:=by
 have e1:(s.heap.push PySem.W.emptyDict).get? s.heap.objs.size=some PySem.W.emptyDict:=yJ s.heap rfl;have e2:((s.heap.push PySem.W.emptyDict).push (PySem.W.instObj C s.heap.objs.size)).get? (s.heap.objs.size+1)=some (PySem.W.instObj C s.heap.objs.size):=by have:=yJ (s.heap.push PySem.W.emptyDict) (o:=PySem.W.instObj C s.heap.objs.size) rfl;rwa [uW] at this
 have e3:(s.heap.push PySem.W.emptyDict).Ns s.heap.objs.size (λ_=>none):=⟨PySem.W.emptyDict,#[],_,e1,rfl,(λe he=>absurd he (by simp)),λ_=>rfl⟩;have I1:=I.laid (a:=s.heap.objs.size) (o:= .own (s.heap.objs.size+1)) (h':=s.heap.push PySem.W.emptyDict) (t':=s.toks) (λb u q=>yX _ q) (yU _) ⟨_,e1⟩;refine I1.laid (a:=s.heap.objs.size+1) (o:= .ins C s.heap.objs.size []) (t':=s.toks) (λb u q=>yX _ q) (Nat.le_of_eq (uW _ _)) ?_;have ne:s.heap.objs.size≠s.heap.objs.size+1:=yQ (uJ _);refine ⟨by rw [j3 ne,y0],yk _,ne,e2,λ_=>none,(Heap.Ns1.of_empty e3).at λo q=>yX _ q,λ_=>True.intro,λy hy=>absurd rfl hy⟩
theorem Gd {prog:Program}{env:Env}{f:Str}{s:Shared}(hb:attributeBase e f env (eval e env)=eval e env)(h:wpAny (model prog w) A (eval e env) (λo s₁=>wpAny (model prog w) A (getAttr o f true) Q E s₁) E s):wpAny (model prog w) A (eval (.Attribute e f pos) env) Q E s :=
 Attribute_any_ h (by rw [arm_eval_Attribute,hb])
end
def tFld (K:Fg)(ta:TE)(f:Str):TE:=λσ H Q=>ta σ H λx H1=>∃ a C dx fs v,x = .ref a/\H1 a=some (.ins C dx fs)/\Cls K C/\NoAttr K C f/\fs.lookup f=some v/\Q v H1
def wI (K:Fg)(ta tv:TE)(f:Str):TS:=λD σ H=>tv σ H λy H1=>ta σ H1 λx H2=>∃ a C dx fs,x = .ref a/\H2 a=some (.ins C dx fs)/\Cls K C/\NoAttr K C f/\fs.length<1000 /\
 D.nx σ (j0 H2 a (.ins C dx (qu f y fs)))
section
variable {X:Cx}{o e value:Expr}{f:Str}{pos pos' tpos:Pos}{ta tv:TE}
theorem CC (he:PE X e ta)(hb:attributeBase e f X.env (eval e X.env)=eval e X.env):PE X (.Attribute e f pos) (tFld X.K ta f):=by intro pins s σ H Q I h;refine Gd hb (z8 (he pins s σ H _ I h) λu s1 ⟨x,H1,I1,rx,a,C,dx,fs,v,ex,ea,c,n,l,q⟩=>?_);subst ex;obtain rfl:u=Value.ref a:=rx;exact KE I1 ea c n l λu' s2 I2 ru=>⟨v,H1,I2,ru,q⟩
theorem Db (ha:PE X o ta)(hv:PE X value tv)(hs:swapsWith value (some (.Attribute o f pos')) pos.line X.env=pure false):PS X (.Assign [.Attribute o f pos'] value pos) (wI X.K ta tv f):=by intro pins s σ H D I h;refine plainObj_wpAny_Assign_Attribute (z8 (hv pins s σ H _ I h) λu s1 ⟨y,H1,I1,ry,q⟩=>z8 (ha pins s1 σ H1 _ I1 q) λov s2 ⟨x,H2,I2,rx,a,C,dx,fs,ex,ea,c,n,l,q2⟩=>?_) hs;subst ex;obtain rfl:ov=Value.ref a:=rx;exact Ms I2 ea c n l ry λs3 I3=>⟨σ,_,I3,q2⟩
theorem LG {apos:Pos}{args:List Expr}(he:PE X e te)(I:Inv X pins σ H s)
  (h:te σ H λx H1=>∃ a C dx fs g,x = .ref a/\H1 a=some (.ins C dx fs)/\Cls X.K C/\vA X.K C m g/\fs.lookup m=none /\
   ∀ s1,Inv X pins σ H1 s1->wpAny (model X.prog X.w) X.A (callWith pos (.ref g) [.ref a] (backTo pos (starEach args X.env)) (backToKw pos (keywordEach [] X.env))) Q X.xe s1)
  (ht:eval (.Call (.Attribute e m apos) args [] pos) X.env=(do
   let ov <- eval e X.env
   standAt apos.atName
   let (f,first) <- holding [ov] (getMethod ov m pl)
   callWith pos f first (backTo pos (starEach args X.env)) (backToKw pos (keywordEach [] X.env)))) :
  wpAny (model X.prog X.w) X.A (eval (.Call (.Attribute e m apos) args [] pos) X.env) Q X.xe s:=by
 refine PySem.W.methodCall_KW (pl:=pl) (z8 (he pins s σ H _ I h) λu s1 ⟨x,H1,I1,rx,a,C,dx,fs,g,ex,ea,c,k,l,q⟩=>?_) ht;subst ex;obtain rfl:u=Value.ref a:=rx;exact Xz I1 ea c k l (q s1 I1)
end
section
variable {X:Cx}{pins:List (Addr×Obj)}{σ:St}{H:Hp}{s:Shared}{A:Around}{E:Value->Shared->Prop}{Q:Value->Shared->Prop}{c:Value}{b:Bool}
inductive qF (K:Fg)(H:Hp):V->Value->Prop where
 |non:qF K H .non (.type "NoneType")
 |bl (x:Bool):qF K H (.bl x) (.type "bool")
 |int (i:Int):qF K H (.int i) (.type "int")
 |str (x:Str):qF K H (.str x) (.type "str")
 |flt (x:UInt64):qF K H (.flt x) (.type "float")
 |lst {a:Addr} {xs:List V} (e:H a=some (.lst xs)):qF K H (.ref a) (.type "list")
 |frz {a:Addr} {o:Obj} {xs:List V} (e:H a=some (.frz o (.lst xs))):qF K H (.ref a) (.type "list")
 |tup {a:Addr} {xs:List V} (e:H a=some (.tup xs)):qF K H (.ref a) (.type "tuple")
 |dK {a:Addr} {kvs:List (z7×V)} (e:H a=some (.dK kvs)):qF K H (.ref a) (.type "dict")
 |dT {a:Addr} {kvs:List (List z7×V)} (e:H a=some (.dT kvs)):qF K H (.ref a) (.type "dict")
 |ins {a C dx:Addr} {fs:List (Str×V)} (e:H a=some (.ins C dx fs)) (cl:Cls K C) (ha:PySem.W.findIn K (.ref C) "__class__"=some (some (.builtin "object.__class__")))
   (hn:PySem.W.specialIn K (.builtin "object.__class__") "__get__"=some (some (.builtin "getset_descriptor.__get__"))) (htk:PySem.W.takesIn K (.builtin "object.__class__")=some true)
   (hm:PySem.W.mroIn K C (.type "object")=some true):qF K H (.ref a) (.ref C)
theorem Bh {x:V}{t:Value}(I:Inv X pins σ H s)(rx:RelV x u)(ty:qF X.K H x t)(e:PySem.W.kitOne X.K t c=some b)(h:∀ tk,Q (.bool b) { s with toks:=tk }):wpAny (model X.prog X.w) A (call (.builtin "isinstance") [u,c]) Q E s:=by
 cases ty with
 |non=>cases (show u=Value.none from rx);exact PySem.W.kia_one PySem.W.kitx_none I.kIn True.intro e (λz=>nomatch z) h
 |bl y=>cases (show u=Value.bool y from rx);exact PySem.W.kia_one PySem.W.kitx_bool I.kIn True.intro e (λz=>nomatch z) h
 |int i=>obtain ⟨t,q⟩:=(show ∃ t,u=Value.int i t from rx);cases q;exact PySem.W.kia_one PySem.W.kitx_int I.kIn True.intro e (λz=>nomatch z) h
 |str y=>obtain ⟨t,q⟩:=(show ∃ t,u=Value.str y t from rx);cases q;exact PySem.W.kia_one PySem.W.kitx_str I.kIn True.intro e (λz=>nomatch z) h
 |flt y=>obtain ⟨t,q⟩:=(show ∃ t,u=Value.float y t from rx);cases q;exact PySem.W.kia_one PySem.W.kitx_float I.kIn True.intro e (λz=>nomatch z) h
 |@lst a xs ea=>cases (show u=Value.ref a from rx);obtain ⟨_,_,n,_,h1⟩:=(show ObjOk X.prog X.w H s.heap a (.lst xs) from I.hok a _ ea);exact PySem.W.kia_one PySem.W.kitx_list I.kIn ⟨_,h1,rfl⟩ e (λz=>nomatch z) h
 |@frz a ob xs ea=>cases (show u=Value.ref a from rx);obtain ⟨_,_,_,n,_,h1⟩:=(show ObjOk X.prog X.w H s.heap a (.frz ob (.lst xs)) from I.hok a _ ea);exact PySem.W.kia_one PySem.W.kitx_list I.kIn ⟨_,h1,rfl⟩ e (λz=>nomatch z) h
 |@tup a xs ea=>cases (show u=Value.ref a from rx);obtain ⟨_,_,_,p⟩:=(show ObjOk X.prog X.w H s.heap a (.tup xs) from I.hok a _ ea);obtain ⟨o,h1,h2,_⟩:=p;exact PySem.W.kia_one PySem.W.kitx_tuple I.kIn ⟨o,h1,h2⟩ e (λz=>nomatch z) h
 |@dK a kvs ea=>cases (show u=Value.ref a from rx);obtain ⟨_,_,vs,_,p⟩:=(show ObjOk X.prog X.w H s.heap a (.dK kvs) from I.hok a _ ea);obtain ⟨o,es,ep,h1,h2,_⟩:=p;exact PySem.W.kia_one PySem.W.kitx_dict I.kIn ⟨o,h1,h2.1⟩ e (λz=>nomatch z) h
 |@dT a kvs ea=>cases (show u=Value.ref a from rx);obtain ⟨_,_,xs,_,o,es,ep,h1,h2,_⟩:=(show ObjOk X.prog X.w H s.heap a (.dT kvs) from I.hok a _ ea);exact PySem.W.kia_one PySem.W.kitx_dict I.kIn ⟨o,h1,h2.1⟩ e (λz=>nomatch z) h
 |@ins a C dx fs ea cl ha hn htk hm=>cases (show u=Value.ref a from rx);obtain ⟨mA,O,_⟩:=Ql I.hok ea;obtain ⟨od,J,_⟩:=O.look;exact PySem.W.kia_one (PySem.W.kitx_own (cl.get _) cl.hd ha hn htk hm) I.kIn J e (λz=>nomatch z) h
end
structure Room (k:Nat)(A:Around):Prop where
 hd:A.handled=none
 dp:A.depth+3*k+5<recursionLimit
 un:A.units+16*k+200<cLine
theorem Room.mono {k:Nat}(r:Room k A)(h:j<=k):Room j A:=⟨r.hd,by have:=r.dp;omega,by have:=r.un;omega⟩
theorem Room.deeper {k:Nat}(r:Room (k+1) A)(env:Env):Room k (A.deeper env) :=
 ⟨r.hd,by have:=r.dp;show A.depth+1+3*k+5<_;omega,by have:=r.un;show A.units+3+16*k+200<_;omega⟩
theorem BH :(A.under (.builtin "type.__call__" ⟨.ref C::us,kw⟩)).depth=A.depth+1:=by first|rfl|simp [Around.under,Code.weight,Code.isCreation,Code.isGuard,Code.isCaller,Code.frames,Code.isFrame,guardIds]
theorem BJ :(A.under (.builtin "type.__call__" ⟨.ref C::us,kw⟩)).units=A.units+1:=by first|rfl|simp [Around.under,Code.cUnits,Code.frames,Code.isFrame]
theorem Room.make {k:Nat}(r:Room (k+1) A)(C:Addr)(us:List Value)(kw:List (Str×Value)):Room k (A.under (.builtin "type.__call__" ⟨.ref C::us,kw⟩)) :=
 ⟨r.hd,by have:=r.dp;rw [BH];omega,by have:=r.un;rw [BJ];omega⟩
theorem Room.depth {k:Nat}(r:Room k A):A.depth<recursionLimit:=by have:=r.dp;omega
theorem Room.units {k:Nat}(r:Room k A):A.units+64<cLine:=by have:=r.un;omega
def p7:TA:=λ_ H Q=>Q [] H
def k5 (ta:TE)(tr:TA):TA:=λσ H Q=>ta σ H λx H1=>tr σ H1 λxs H2=>Q (x::xs) H2
section
variable {X:Cx}{e:Expr}{es:List Expr}{te:TE}{t:TA}{pos:Pos}
theorem v6:PA X [] p7:=λ_ _ _ _ H Q I h=>Calls.spliced_nil ⟨[],H,I,.nil,h⟩
theorem z6 (ha:PE X e te)(hr:PA X es t)(hs:starEach (e::es) X.env=(false,eval e X.env)::starEach es X.env:=by rfl):PA X (e::es) (k5 te t):=by intro pos pins s σ H Q I h;rw [hs];show wpAny _ _ (spliced ((false,eval e X.env)::backTo pos (starEach es X.env))) _ _ s;refine Calls.spliced_cons (z8 (ha pins s σ H _ I h) λu s1 ⟨x,H1,I1,r1,q1⟩=>?_);exact z8 (hr pos pins s1 σ H1 _ I1 q1) λus s2 ⟨xs,H2,I2,r2,q2⟩=>⟨x::xs,H2,I2,.cons r1 r2,q2⟩
def tTup (t:TA):TE:=λσ H Q=>t σ H λxs H1=>xs.length<=sizeLine/\∀ p,H1 p=none->Q (.ref p) (j0 H1 p (.tup xs))
def tLst (t:TA):TE:=λσ H Q=>t σ H λxs H1=>xs.length<=sizeLine/\∀ p,H1 p=none->Q (.ref p) (j0 H1 p (.lst xs))
theorem zg {x1}(h:PA X es t):PE X (.Tuple es x1 pos) (tTup t):=by intro pins s σ H Q I hq;refine wpAny_Tuple_spliced (z8 (h pos pins s σ H _ I hq) λus s1 ⟨xs,H1,I1,r,z,q⟩=>⟨by rw [<- r.length];exact z,?_⟩);have hf:H1 s1.heap.objs.size=none:=I1.hok.fresh (yU _);refine ⟨.ref s1.heap.objs.size,j0 H1 s1.heap.objs.size (.tup xs),I1.laid (t':=s1.toks) (λb u e=>yX _ e) (yU _) ?_,rfl,q _ hf⟩;exact ⟨z,us,r,⟨_,yJ _ rfl,rfl,_,rfl⟩⟩
theorem qm (h:PA X es t):PE X (.List es pos) (tLst t):=by intro pins s σ H Q I hq;refine wpAny_List_spliced (z8 (h pos pins s σ H _ I hq) λus s1 ⟨xs,H1,I1,r,z,q⟩=>⟨by rw [<- r.length];exact z,?_⟩);have hf:H1 s1.heap.objs.size=none:=I1.hok.fresh (yU _);refine ⟨.ref s1.heap.objs.size,j0 H1 s1.heap.objs.size (.lst xs),I1.laid (t':=s1.toks) (λb u e=>yX _ e) (yU _) ?_,rfl,q _ hf⟩;exact ⟨z,us,0,r,yJ _ rfl⟩
end
abbrev Sp:=List V->Hp->VK->XK->Prop
variable{sp:Sp}
abbrev CXT:=List Env->Hp->Shared->XK->Value->Shared->Prop
variable{CX:CXT}
structure Env0 (P:Program)(w:World)(K:Fg)(mg:Str->Option Value)(base:Heap)(A:Around)(outer:List Env)(s:Shared)(H:Hp):Prop where
 frames:A.frames=some outer
 mod:Mod K mg base
 bs:∀ b o,base.get? b=some o->s.heap.get? b=some o/\H b=none
 bsz:base.objs.size<=s.heap.objs.size
 funs:s.heap.FunFrames base outer
 frf:∀ b∈frs outer,H b=none
 hok:HOk P w H s.heap
 bare:AllBare s.gens
 tbs:∀ p∈TABS,H p.1=some (.tbl p.2.1 p.2.2)
def CE (outer:List Env)(P:Program)(w:World)(H:Hp)(s:Shared)(Q:VK)(u:Value)(s':Shared):Prop :=
 ∃ v H',s'.os=s.os/\AllBare s'.gens/\Un (frs outer) [] H H' s.heap s'.heap/\HOk P w H' s'.heap/\RelV v u/\Q v H'
def CR (CX:CXT)(outer:List Env)(P:Program)(w:World)(H:Hp)(s:Shared)(Q:VK)(E:XK)(r:Result)(s':Shared):Prop :=
 match r with
 | .ok (.ret u)=>CE outer P w H s Q u s'
 | .ok _=>False
 | .error e=>CX outer H s E e s'
structure FnOk (P:Program)(w:World)(K:Fg)(mg:Str->Option Value)(base:Heap)(CX:CXT)(k:Nat)(f:Addr)(fd:FuncData)(ps:List Str)(sp:Sp):Prop where
 len:∀ vs H Q E,sp vs H Q E->vs.length=ps.length
 run:∀(A:Around)(outer:List Env)(s:Shared)(H:Hp)(args:Args)(us:List Value)(vs:List V)(Q:VK)(E:XK),Room k A->Env0 P w K mg base A outer s H->BindsTo s fd args (ps.zip us)->Vals vs us->sp vs H Q E ->
  codeAny (model P w) A (.call (.ref f) args) (CR CX outer P w H s Q E) s
theorem FnOk.imp {k:Nat}{f:Addr}{sp':Sp}(F:FnOk P w K mg base CX k f fd ps sp)(h:∀ vs H Q E,sp' vs H Q E->sp vs H Q E):FnOk P w K mg base CX k f fd ps sp' :=
 ⟨λvs H Q E q=>F.len vs H Q E (h _ _ _ _ q),λA outer s H args us vs Q E hr he hb hv hs=>F.run A outer s H args us vs Q E hr he hb hv (h _ _ _ _ hs)⟩
theorem Env0.make (e:Env0 P w K mg base A outer s H)(C:Addr)(us:List Value)(kw:List (Str×Value)):Env0 P w K mg base (A.under (.builtin "type.__call__" ⟨.ref C::us,kw⟩)) outer s H:=⟨by first|exact e.frames|(simpa [Around.under,Code.envs,Code.isFrame,pushEnvs] using e.frames),e.mod,e.bs,e.bsz,e.funs,e.frf,e.hok,e.bare,e.tbs⟩
section
variable {X:Cx}{pins:List (Addr×Obj)}{σ:St}{H:Hp}{s s':Shared}
theorem Inv.env0 (I:Inv X pins σ H s):Env0 X.prog X.w X.K X.mg X.base X.A X.stack s H :=
 ⟨I.ok.frames,I.ok.mod,I.bs,yd I.ok.bsz I.sz,I.stack,I.stkFree,I.hok,I.bare,λp hp=>I.base.tbls _ _ _ (I.ok.tbs p hp)⟩
theorem Inv.after {Q:VK}(I:Inv X pins σ H s)(h:CE X.stack X.prog X.w H s Q u s'):EP X pins σ Q u s':=by obtain ⟨v,H',os,bare,un,hok,r,q⟩:=h;obtain ⟨hh,g,d,t,os'⟩:=s';obtain rfl:os'=s.os:=os;exact ⟨v,H',I.call (h':=hh) (g':=g) (d':=d) (t':=t) (ch:=[]) un hok bare (λb z=>absurd z (by simp)),r,q⟩
end
def xb (sp:Sp)(dvs:List V)(E:XK)(t:TA):TE:=λσ H Q=>t σ H λvs H1=>sp (vs++dvs) H1 Q E
def jy (C:Addr)(m:Str)(sp:Sp)(dvs:List V)(E:XK)(ta:TE)(t:TA):TE:=λσ H Q=>ta σ H λx H1=>∃ a dx fs,x = .ref a/\H1 a=some (.ins C dx fs)/\fs.lookup m=none /\
 t σ H1 λvs H2=>sp (x::(vs++dvs)) H2 Q E
def wN (C:Addr)(sp:Sp)(dvs:List V)(E:XK)(t:TA):TE:=λσ H Q=>t σ H λvs H1=>∀ x dx,H1 x=none->H1 dx=none->dx≠x ->
 sp (.ref x::(vs++dvs)) (j0 (j0 H1 dx (.own x)) x (.ins C dx [])) (λv H2=>v = .non/\Q (.ref x) H2) E
def Binds (K:Fg)(fd:FuncData)(ps:List Str)(ds:List Value):Prop :=
 ∀(s:Shared)(us:List Value),K.In s.heap->(us++ds).length=ps.length->BindsTo s fd ⟨us,[]⟩ (ps.zip (us++ds))
theorem Binds.all (h:∀ us:List Value,us.length=ps.length->bindArgs fd ⟨us,[]⟩=pure (ps.zip us)):Binds K fd ps []:=λs us _ hl=>by
 rw [yr] at hl ⊢;exact .of_eq (h us hl)
def zT (CX:CXT)(X:Cx)(E:XK):Prop:=∀(pins:List (Addr×Obj))(σ:St)(H:Hp)(s:Shared)(e:Value)(s':Shared),Inv X pins σ H s->CX X.stack H s E e s'->X.xe e s'
section
variable {X:Cx}{CX:CXT}{k:Nat}{f C:Addr}{fd:FuncData}{ps:List Str}{sp:Sp}{dvs:List V}{ds:List Value}{E:XK}{x m:Str}{p pos apos:Pos}{e o:Expr}{es:List Expr}{ta:TE}{t:TA}
theorem Zl {Q:VK}(F:FnOk X.prog X.w X.K X.mg X.base CX k f fd ps sp)(hr:Room k X.A)(hb:Binds X.K fd ps ds)(hd:Vals dvs ds)(hx:zT CX X E)(I:Inv X pins σ H s)(r:Vals vs us)(h:sp (vs++dvs) H Q E):wpAny (model X.prog X.w) X.A (call (.ref f) us) (EP X pins σ Q) X.xe s:=by
 have r2:Vals (vs++dvs) (us++ds):=r.append hd;have hl:(us++ds).length=ps.length:=by rw [<- r2.length];exact F.len _ _ _ _ h
 refine wpAny_call (codeAny_mono (F.run X.A X.stack s H ⟨us,[]⟩ (us++ds) (vs++dvs) Q E hr I.env0 (hb s us I.kIn hl) r2 h) λr s' hq=>?_);cases r with
 |error e=>exact hx pins σ H s e s' I hq
 |ok fl =>
  cases fl with
  |ret u=>exact I.after hq
  |next=>exact False.elim hq
  |brk=>exact False.elim hq
  |cont=>exact False.elim hq
theorem Cz (F:FnOk X.prog X.w X.K X.mg X.base CX k f fd ps sp)(hr:Room k X.A)(hg:Gl X x)(hm:X.mg x=some (.ref f))(hk:PySem.W.keepIn X.K (.ref f)=true)(hb:Binds X.K fd ps ds)(hd:Vals dvs ds)(hx:zT CX X E)(ha:PA X (e::es) t)(hdb:(x==("__debug__":Str))=false:=by decide)(he:starEach (e::es) X.env=(false,eval e X.env)::starEach es X.env:=by rfl)(hpl:(backTo pos (starEach es X.env)).any (·.1)=false:=by rfl):PE X (.Call (.Name x p) (e::es) [] pos) (xb sp dvs E t):=by intro pins s σ H Q I h;refine wpAny_Call_Name_kw (XH I hg hm ?_ hdb);refine PySem.W.callWith_K (h₀:=X.base) I.ok.mod.kin hk (z8 (ha pos pins s σ H _ I h) λus s1 ⟨vs,H1,I1,r,q⟩=>⟨I1.kIn,?_⟩) he hpl;exact Zl F hr hb hd hx I1 r q
theorem CH (he:PE X o ta)(c:Cls X.K C)(hm:vA X.K C m f)(F:FnOk X.prog X.w X.K X.mg X.base CX k f fd ps sp)(hr:Room k X.A)(hb:Binds X.K fd ps ds)(hd:Vals dvs ds)(hx:zT CX X E)(ha:PA X (e::es) t)
  (hst:starEach (e::es) X.env=(false,eval e X.env)::starEach es X.env:=by rfl) (hpl:(backTo pos (starEach es X.env)).any (·.1)=false:=by rfl)
  (ht:eval (.Call (.Attribute o m apos) (e::es) [] pos) X.env=(do
   let ov <- eval o X.env
   standAt apos.atName
   let (f,first) <- holding [ov] (getMethod ov m pl)
   callWith pos f first (backTo pos (starEach (e::es) X.env)) (backToKw pos (keywordEach [] X.env))):=by rfl) :
  PE X (.Call (.Attribute o m apos) (e::es) [] pos) (jy C m sp dvs E ta t):=by
 intro pins s σ H Q I h;refine PySem.W.methodCall_KW (pl:=pl) (z8 (he pins s σ H _ I h) λu s1 ⟨x,H1,I1,rx,a,dx,fs,ex,ea,l,q⟩=>?_) ht;subst ex;obtain rfl:u=Value.ref a:=rx;refine Xz I1 ea c hm l ?_;refine PySem.W.callWith_K (first:=[.ref a]) (h₀:=X.base) I.ok.mod.kin hm.kp (z8 (ha pos pins s1 σ H1 _ I1 q) λus s2 ⟨vs,H2,I2,r,q2⟩=>⟨I2.kIn,?_⟩) hst hpl;exact Zl (us:= .ref a::us) (vs:= .ref a::vs) F hr hb hd hx I2 (.cons rfl r) q2
theorem CI (he:PE X o ta)(c:Cls X.K C)(hm:vA X.K C m f)(F:FnOk X.prog X.w X.K X.mg X.base CX k f fd ps sp)(hr:Room k X.A)(hb:Binds X.K fd ps ds)(hd:Vals dvs ds)(hx:zT CX X E)
  (ht:eval (.Call (.Attribute o m apos) [] [] pos) X.env=(do
   let ov <- eval o X.env
   standAt apos.atName
   let (f,first) <- holding [ov] (getMethod ov m pl)
   callWith pos f first (backTo pos (starEach [] X.env)) (backToKw pos (keywordEach [] X.env))):=by rfl) :
  PE X (.Call (.Attribute o m apos) [] [] pos) (jy C m sp dvs E ta p7):=by
 intro pins s σ H Q I h;refine PySem.W.methodCall_KW (pl:=pl) (z8 (he pins s σ H _ I h) λu s1 ⟨x,H1,I1,rx,a,dx,fs,ex,ea,l,q⟩=>?_) ht;subst ex;obtain rfl:u=Value.ref a:=rx;refine Xz I1 ea c hm l ?_;exact PySem.W.callWith_K0 (first:=[.ref a]) I1.kIn hm.kp (Zl (us:=[.ref a]) (vs:=[.ref a]) F hr hb hd hx I1 (.cons rfl .nil) q)
structure Mk (K:Fg)(C f:Addr):Prop where
 makes:PySem.W.makesIn K C=true
 init:PySem.W.findIn K (.ref C) "__init__"=some (some (.ref f))
 fn:PySem.W.isFn K (.ref f)=true
 kp:PySem.W.keepIn K (.ref C)=true
theorem Dy {Q:VK}(M:Mk X.K C f)(F:FnOk X.prog X.w X.K X.mg X.base CX k f fd ps sp)(hr:Room (k+1) X.A)(hb:Binds X.K fd ps ds)(hd:Vals dvs ds)(hx:zT CX X E)(I:Inv X pins σ H s)(r:Vals vs us)(h:∀ x dx,H x=none->H dx=none->dx≠x->sp (.ref x::(vs++dvs)) (j0 (j0 H dx (.own x)) x (.ins C dx [])) (λv H2=>v = .non/\Q (.ref x) H2) E):wpAny (model X.prog X.w) X.A (call (.ref C) us) (EP X pins σ Q) X.xe s:=by
 have hq:=h (s.heap.objs.size+1) s.heap.objs.size (I.hok.fresh (uz _)) (I.hok.fresh (yU _)) (yQ (uJ _));have I2:=Inv.made (C:=C) I;have r2:Vals (V.ref (s.heap.objs.size+1)::(vs++dvs)) (Value.ref (s.heap.objs.size+1)::(us++ds)):= .cons rfl (r.append hd);have hl:(Value.ref (s.heap.objs.size+1)::us++ds).length=ps.length:=by have e:=r2.length;rw [F.len _ _ _ _ hq] at e;exact e.symm
 refine wpAny_call (BI (f:=f) I.kIn M.makes M.init (beq_iff_eq.mp M.fn) (codeAny_mono (F.run _ X.stack _ _ ⟨Value.ref (s.heap.objs.size+1)::us,[]⟩ (Value.ref (s.heap.objs.size+1)::(us++ds)) _ _ E (hr.make C us [])
  (I2.env0.make C us []) (hb _ (Value.ref (s.heap.objs.size+1)::us) I2.kIn hl) r2 hq) λr s' hq'=>?_))
 cases r with
 |error e=>exact hx pins σ _ _ e s' I2 hq'
 |ok fl =>
  cases fl with
  |ret u=>obtain ⟨v,H',I3,rv,ev,q3⟩:=I2.after hq';subst ev;exact ⟨rv,⟨V.ref (s.heap.objs.size+1),H',I3,rfl,q3⟩⟩
  |next=>exact False.elim hq'
  |brk=>exact False.elim hq'
  |cont=>exact False.elim hq'
theorem CG (M:Mk X.K C f)(F:FnOk X.prog X.w X.K X.mg X.base CX k f fd ps sp)(hr:Room (k+1) X.A)(hg:Gl X x)(hm:X.mg x=some (.ref C))(hb:Binds X.K fd ps ds)(hd:Vals dvs ds)(hx:zT CX X E)(ha:PA X (e::es) t)(hdb:(x==("__debug__":Str))=false:=by decide)(he:starEach (e::es) X.env=(false,eval e X.env)::starEach es X.env:=by rfl)(hpl:(backTo pos (starEach es X.env)).any (·.1)=false:=by rfl):PE X (.Call (.Name x p) (e::es) [] pos) (wN C sp dvs E t):=by intro pins s σ H Q I h;refine wpAny_Call_Name_kw (XH I hg hm ?_ hdb);refine PySem.W.callWith_K (h₀:=X.base) I.ok.mod.kin M.kp (z8 (ha pos pins s σ H _ I h) λus s1 ⟨vs,H1,I1,r,q⟩=>⟨I1.kIn,?_⟩) he hpl;exact Dy M F hr hb hd hx I1 r q
end
structure v9 (N P:List Str)(sc:Scope):Prop where
 kind:sc.kind = .function
 co:sc.isCoroutine=false
 gen:sc.isGenerator=false
 nd:N.Nodup
 pre:N.take P.length=P
 par:∀ x∈P,sc.names.lookup x=some .local∨sc.names.lookup x=some .cell
 nofree:∀ y∈sc.names,y.2 ≠ .free
theorem VF {kindOf:Str->Option NameKind}{x:Str}:∀{binds:List (Str×Value)}{m:Str->Option Value},(∀ v,(x,v)∉binds)->bindL kindOf binds m x=m x
 |[],_,_=>rfl
 |(n,v)::r,m,h=>by
  unfold bindL;rw [VF λw hw=>h w (yK _ hw)];split
  ·have:x≠n:=by rintro rfl;exact h v yH
   simp [this]
  ·rfl
theorem VD {kindOf:Str->Option NameKind}{x:Str}:∀{binds:List (Str×Value)}{m:Str->Option Value},(∀ v,(x,v)∉binds)->bindC kindOf binds m x=m x
 |[],_,_=>rfl
 |(n,v)::r,m,h=>by
  unfold bindC;rw [VD λw hw=>h w (yK _ hw)];split
  ·rfl
  ·have:x≠n:=by rintro rfl;exact h v yH
   simp [this]
theorem VE {kindOf:Str->Option NameKind}{x:Str}{v:Value}:∀{P:List Str}{vs:List Value}{i:Nat}{m:Str->Option Value},P.Nodup->P[i]?=some x->vs[i]?=some v->kindOf x=some .local -> bindL kindOf (P.zip vs) m x=some v
 |[],_,_,_,_,h,_,_=>by simp at h
 |_::_,[],_,_,_,_,h,_=>by simp at h
 |p::P,w::vs,0,m,nd,h1,h2,hk=>by
  simp at h1 h2;subst h1;subst h2;show bindL kindOf ((p,w)::P.zip vs) m p=_;unfold bindL;rw [VF λv hv=>(yx.mp nd).1 (List.of_mem_zip hv).1,if_pos hk];simp
 |p::P,w::vs,i+1,m,nd,h1,h2,hk=>by
  show bindL kindOf ((p,w)::P.zip vs) m x=_;unfold bindL;exact VE (i:=i) (yx.mp nd).2 (by simpa using h1) (by simpa using h2) hk
theorem VC {kindOf:Str->Option NameKind}{x:Str}{v:Value}:∀{P:List Str}{vs:List Value}{i:Nat}{m:Str->Option Value},P.Nodup->P[i]?=some x->vs[i]?=some v->kindOf x≠some .local -> bindC kindOf (P.zip vs) m x=some v
 |[],_,_,_,_,h,_,_=>by simp at h
 |_::_,[],_,_,_,_,h,_=>by simp at h
 |p::P,w::vs,0,m,nd,h1,h2,hk=>by
  simp at h1 h2;subst h1;subst h2;show bindC kindOf ((p,w)::P.zip vs) m p=_;unfold bindC;rw [VD λv hv=>(yx.mp nd).1 (List.of_mem_zip hv).1,if_neg hk];simp
 |p::P,w::vs,i+1,m,nd,h1,h2,hk=>by
  show bindC kindOf ((p,w)::P.zip vs) m x=_;unfold bindC;exact VC (i:=i) (yx.mp nd).2 (by simpa using h1) (by simpa using h2) hk
def start (N:List Str)(vs:List V):St:=vs.map some++List.replicate (N.length-vs.length) none
def qN (CX:CXT)(P:Program)(w:World)(K:Fg)(mg:Str->Option Value)(base:Heap)(N:List Str)(qual:Str)(scope:Scope)(f:Addr)(cd:Value)(A:Around)(outer:List Env)(s:Shared)(H:Hp)(E:XK):Cx where
 prog:=P
 w:=w
 K:=K
 mg:=mg
 base:=base
 A:=A.deeper (envOfC qual scope s.heap.objs.size f cd)
 N:=N
 s₀:=s
 H₀:=H
 env:=envOfC qual scope s.heap.objs.size f cd
 outer:=outer
 stack:=envOfC qual scope s.heap.objs.size f cd::outer
 ex:=[]
 calm:=true
 fn:=λ_=>true
 pn:=[]
 xe:=λe s'=>wpAny (model P w) (A.deeper (envOfC qual scope s.heap.objs.size f cd)) (leaving (envOfC qual scope s.heap.objs.size f cd) e) (λ_ s''=>CX outer H s E e s'') (λe' s''=>CX outer H s E e' s'') s'
theorem VQ {sc:Scope}(h:sc.names.lookup x=some .cell):∃ c,(cellsFrom n sc.names []).lookup x=some c:=by have q:=PySem.W.cellsFrom_some sc.names n [] (.inl h);exact Option.isSome_iff_exists.mp q
theorem Bb {f:Addr}{cd:Value}{s1:Shared}{E:XK}(S:v9 N ps scope)(hd:A.handled=none)(e0:Env0 P w K mg base A outer s H)(hl:vs.length=ps.length)(r:Vals vs us)(x:InCallC s s.heap.objs.size (bindL (envOfC qual scope s.heap.objs.size f cd).kindOf (ps.zip us) λ_=>none) (cellsFrom (s.heap.objs.size+1) scope.names []) (bindC (envOfC qual scope s.heap.objs.size f cd).kindOf (ps.zip us) λ_=>none) s1):Inv (qN CX P w K mg base N qual scope f cd A outer s H E) [] (start N vs) H s1:=by
 have hpl:ps.length<=N.length:=by have:=congrArg List.length S.pre;rw [ut] at this;omega
 obtain ⟨h1,tk,rfl,hk⟩:=x.done;have noA:∀ b:Addr,b∉(qN CX P w K mg base N qual scope f cd A outer s H E).ex:=λb z=>absurd (show b∈([]:List Addr) from z) (by simp);refine ⟨⟨e0.mod,S.kind,rfl,rfl,yU _,λy z c h1 h2=>?_,λy hy=>?_,λy c _ h=>?_,λ_=>hd,Around.frames_deeper e0.frames,.inr ⟨rfl,rfl⟩,λb z=>absurd z (noA b),e0.bs,e0.bsz,λb _ _=>noA b,λb z=>absurd z (noA b),e0.funs,e0.frf,e0.tbs⟩,
  rfl,e0.bare,Un.kept hk,⟨_,x.toInCall.ns,λi y v h1 h2 h3=>?_⟩,λy c h=>⟨_,x.cell y c h⟩,e0.hok.fresh (yU _),λy c h=>?_,λp hp=>absurd (show p∈([]:List (Addr×Obj)) from hp) (by simp),e0.hok.kept hk,?_⟩
 ·exact name_of_addr x.apart (PySem.mem_of_lookup h1) (PySem.mem_of_lookup h2)
 ·have hy:scope.names.lookup y=some .cell∨scope.names.lookup y=some .free:=hy;rcases hy with hy|hy
  ·exact VQ hy
  ·exact absurd rfl (S.nofree _ (PySem.mem_of_lookup hy))
 ·exact yc (x.above y c (PySem.mem_of_lookup h))
 ·have hi:i<vs.length:=by
   unfold start at h2;by_cases hi:i<vs.length
   ·exact hi
   ·rw [uH (by simpa using hi)] at h2;rw [uC] at h2;split at h2<;>cases h2
  have ha:vs[i]?=some v:=by
   unfold start at h2;rw [uN (by simpa using hi),yR] at h2;cases e:vs[i]? with
   |none=>rw [e] at h2;cases h2
   |some a=>rw [e] at h2;cases h2;rfl
  obtain ⟨u,hu,rv⟩:=r.get ha;have hp:ps[i]?=some y:=by rw [<- S.pre,List.getElem?_take_of_lt (by omega)];exact h1
  have ndP:ps.Nodup:=by rw [<- S.pre];exact S.nd.sublist (List.take_sublist _ _)
  refine ⟨u,rv,?_⟩;rcases S.par y (ym hp) with k|k
  ·exact .inl ⟨k,VE ndP hp hu k⟩
  ·obtain ⟨c,e⟩:=VQ (n:=s.heap.objs.size+1) k;refine .inr ⟨.inl k,c,e,?_⟩;have q:=x.cell y c e;rw [VC ndP hp hu (by show scope.names.lookup y≠_;rw [k];decide)] at q;exact q
 ·exact e0.hok.fresh (yc (x.above y c (PySem.mem_of_lookup h)))
 ·unfold start;show _=N.length;rw [yM,yZ,uI];omega
theorem Wr {k:Nat}{f:Addr}{name:Str}{params:Arguments}{body:List Stmt}{dV kV doc pm cdv ct oc:Value}{an od:Option Addr}{osl:Array (Option Value)}(lk:K.lookup f=some ⟨oc,od,.func (PySem.W.fnOf name qual params body scope dV kV doc pm an cdv ct),osl⟩)(hcd:PySem.W.codeIn K cdv qual=true)(S:v9 N ps scope)(len:∀ vs H Q E,sp vs H Q E->vs.length=ps.length)(hbody:∀(A:Around)(outer:List Env)(s:Shared)(H:Hp)(vs:List V)(Q:VK)(E:XK),Room k (A.deeper (envOfC qual scope s.heap.objs.size f cdv))->sp vs H Q E -> ∃ t,PSs (qN CX P w K mg base N qual scope f cdv A outer s H E) body t/\t { nx:=λ_ H'=>Q .non H',rt:=Q } (start N vs) H):FnOk P w K mg base CX (k+1) f (PySem.W.fnOf name qual params body scope dV kV doc pm an cdv ct) ps sp:=by
 refine ⟨len,λA outer s H args us vs Q E hr e0 hb r hsp=>?_⟩;have hl:=len _ _ _ _ hsp;have KX:K.In s.heap:=e0.mod.kin.keeps λb o e=>(e0.bs b o e).1;have lim:s.heap.NoLimit:=e0.mod.nolimit.keeps λb o e=>(e0.bs b o e).1;have hkind:∀ y∈ps.zip us,scope.names.lookup y.1=some .local∨(scope.names.lookup y.1=some .cell/\((cellsFrom (s.heap.objs.size+1) scope.names []).lookup y.1).isSome=true):=λ⟨n,v⟩ hy=>by
  rcases S.par n (List.of_mem_zip hy).1 with q|q
  ·exact .inl q
  ·exact .inr ⟨q,PySem.W.cellsFrom_some _ _ _ (.inl q)⟩
 refine codeAny_call_function hr.depth (KX _ _ lk) rfl S.co S.gen rfl (PySem.W.codeRec_of KX hcd) (hb _ _ _ _ ?_);refine wpAny_newFunctionEnv_cells S.kind hkind λenv he s1 x=>?_;subst he;refine ⟨lim.keeps x.toInCall.keep,codeAny_func ?_⟩;obtain ⟨t,ht,hq⟩:=hbody A outer s H vs Q E (hr.deeper _) hsp;have I:Inv (qN CX P w K mg base N qual scope f cdv A outer s H E) [] (start N vs) H s1:=Bb S hr.hd e0 hl r x;refine wpAny_mono (ht [] s1 (start N vs) H _ I hq) (λfl s' hs=>?_) λe s' hs=>hs;have fin:∀{σ':St}{H':Hp}{v:V}{u:Value},Inv (qN CX P w K mg base N qual scope f cdv A outer s H E) [] σ' H' s'->RelV v u->Q v H'->CE outer P w H s Q u s' :=
  λ{σ' H' v u} J rv q=>⟨v,H',J.os,J.bare,J.base,J.hok,rv,q⟩
 cases fl with
 |ret u=>obtain ⟨v,σ',H',J,rv,q⟩:=hs;exact fin J rv q
 |next=>obtain ⟨σ',H',J,q⟩:=hs;exact fin (v:=V.non) (u:=Value.none) J rfl q
 |brk=>obtain ⟨_,_,_,q⟩:=hs;exact False.elim q
 |cont=>obtain ⟨_,_,_,q⟩:=hs;exact False.elim q
section
variable {X:Cx}{x:Str}{p pos:Pos}{e:Expr}{es:List Expr}{t:TA}{id T:String}{r:List V->Hp->VK->Prop}
def tCB (r:List V->Hp->VK->Prop)(t:TA):TE:=λσ H Q=>t σ H λvs H1=>r vs H1 Q
theorem y4 (hc:CallR X (.builtin id) r)(hg:Gl X x)(hm:X.mg x=none)(hv:bootBuiltins x=some (.builtin id))(ha:PA X (e::es) t)(hn:x ≠ "__name__":=by decide)(hdb:(x==("__debug__":Str))=false:=by decide)(he:starEach (e::es) X.env=(false,eval e X.env)::starEach es X.env:=by rfl)(hpl:(backTo pos (starEach es X.env)).any (·.1)=false:=by rfl):PE X (.Call (.Name x p) (e::es) [] pos) (tCB r t):=by intro pins s σ H Q I h;refine wpAny_Call_Name_kw (xB I hg hm hv ?_ hn hdb);exact PyProof.Rows.callWith_builtin1 (z8 (ha pos pins s σ H _ I h) λus s1 ⟨vs,H1,I1,r1,q1⟩=>hc pins s1 σ H1 vs us Q I1 r1 q1) he hpl
theorem wy (hc:CallR X (.type T) r)(hg:Gl X x)(hm:X.mg x=none)(hv:bootBuiltins x=some (.type T))(ha:PA X (e::es) t)(hn:x ≠ "__name__":=by decide)(hdb:(x==("__debug__":Str))=false:=by decide)(he:starEach (e::es) X.env=(false,eval e X.env)::starEach es X.env:=by rfl)(hpl:(backTo pos (starEach es X.env)).any (·.1)=false:=by rfl):PE X (.Call (.Name x p) (e::es) [] pos) (tCB r t):=by intro pins s σ H Q I h;refine wpAny_Call_Name_kw (xB I hg hm hv ?_ hn hdb);exact PyProof.Rows.callWith_type1 (z8 (ha pos pins s σ H _ I h) λus s1 ⟨vs,H1,I1,r1,q1⟩=>hc pins s1 σ H1 vs us Q I1 r1 q1) he hpl
end
end L2
namespace HT
open PySem PyProof.Rows
section
variable {prog:Program}{w:World}{A:Around}{E:Value->Shared->Prop}{s:Shared}
theorem cat_tup {t b:Addr}{vs ws:List Value}{Q:Value->Shared->Prop}(ht:IsTup s.heap t vs.toArray)(hb:IsTup s.heap b ws.toArray)(hv:vs≠[])(h1:ws=[]->Q (.ref t) s)(h2:ws≠[]->Q (.ref s.heap.objs.size) { s with heap:=s.heap.push { cls:= .type "tuple",data:= .seq (vs++ws).toArray } })(hsz:vs.length+ws.length<=sizeLine):wpAny (model prog w) A (binaryOp .Add (.ref t) (.ref b)) Q E s:=by
 obtain ⟨⟨cls,dd,data,sl⟩,ho,hc,n,hd⟩:=id ht;obtain ⟨⟨cls2,dd2,data2,sl2⟩,ho2,hc2,n2,hd2⟩:=id hb;simp only at hc hd hc2 hd2;subst hc hd hc2 hd2;have e:vs.toArray++ws.toArray=(vs++ws).toArray:=by simp
 by_cases hw:ws=[]
 ·exact concat_meets ⟨_,ho,rfl⟩ ⟨_,ho2,rfl⟩ noFill_tuple_add seq_tuple_add PySem.F.slot_tuple_add PySem.F.entry_tuple_add (PySem.F.args_tuple_add_2 _ _)
   (tuple_addW1 t b vs.toArray ws.toArray n n2 dd dd2 sl sl2 (by simpa using hv) (by simp [hw])) ⟨ho,ho2,h1 hw⟩
 ·refine concat_meets ⟨_,ho,rfl⟩ ⟨_,ho2,rfl⟩ noFill_tuple_add seq_tuple_add PySem.F.slot_tuple_add PySem.F.entry_tuple_add (PySem.F.args_tuple_add_2 _ _)
   (tuple_addW2 t b vs.toArray ws.toArray n n2 dd dd2 sl sl2 (by simpa using hv) (by simpa using hw) (by rw [yW,yW];exact hsz)) ⟨ho,ho2,?_⟩
  rw [e];exact h2 hw
end
end HT
namespace L2
open PySem PySem.Spec PyProof.Rows
variable{xs:List (List z7×Addr×Value)}{j n t':Nat}{α:Type}{pins:List (Addr×Obj)}{σ:St}{H H':Hp}{s:Shared}{its its':List Value}{A:Around}{x y:V}{u v:Value}{T:String}{o:Option V}{P:Program}{w:World}{kvs:List (List z7×V)}{a:Addr}{Q:Value->Shared->Prop}{h':Heap}
abbrev TO:=St->Hp->(Option Int->Hp->Prop)->Prop
def PO (X:Cx)(e:Option Expr)(t:TO):Prop :=
 ∀(pins:List (Addr×Obj))(s:Shared)(σ:St)(H:Hp)(Q:Option Int->Hp->Prop),Inv X pins σ H s->t σ H Q ->
  wpAny (model X.prog X.w) X.A (evalPart e X.env) (λu s'=>∃ o H',Inv X pins σ H' s'/\IsPart u o/\Q o H') X.xe s
def Ut:TO:=λ_ H Q=>Q none H
def Uv (t:TE):TO:=λσ H Q=>t σ H λx H1=>∃ i,x = .int i/\Q (some i) H1
section
variable {X:Cx}{e:Expr}{te:TE}{lo hi:Option Expr}{tl th:TO}{pos p2:Pos}
theorem CY:PO X none Ut:=by intro pins s σ H Q I h;rw [evalPart_none];exact yP ⟨none,H,I,.none,h⟩
theorem CZ (h:PE X e te):PO X (some e) (Uv te):=by intro pins s σ H Q I hw;rw [evalPart_some];refine z8 (h pins s σ H _ I hw) λu s1 ⟨x,H1,I1,r1,q1⟩=>?_;obtain ⟨i,rfl,q⟩:=q1;obtain ⟨t,rfl⟩:=r1;exact ⟨some i,H1,I1,.int i t,q⟩
def Yu (K:Fg):R2:=λx y H Q=>∃ a b xs ys,x = .ref a/\y = .ref b/\SqT K H a xs/\SqT K H b ys/\xs≠[]/\xs.length+ys.length<=sizeLine /\
 (ys=[]->Q (.ref a) H)/\(ys≠[]->∀ p,H p=none->Q (.ref p) (j0 H p (.tup (xs++ys))))
theorem Vals.nil_iff {xs:List V}{us:List Value}(r:Vals xs us):us=[]↔xs=[]:=by
 cases r with
 |nil=>simp
 |cons _ _=>simp
theorem Cm:OpR X (binaryOp .Add) (Yu X.K):=by intro pins s σ H x y v u Q I rx ry h;obtain ⟨a,b,xs,ys,rfl,rfl,ha,hb,hx,hz,q1,q2⟩:=h;cases rx;cases ry;obtain ⟨its,r1,p1,_⟩:=I.tuple ha;obtain ⟨its2,r2,p2,_⟩:=I.tuple hb;refine HT.cat_tup p1 p2 (λz=>hx (r1.nil_iff.mp z)) (λz=>⟨.ref a,H,I,rfl,q1 (r2.nil_iff.mp z)⟩) (λz=>?_) (by rw [<- r1.length,<- r2.length];exact hz);refine ⟨.ref s.heap.objs.size,_,I.laid (t':=s.toks) (o:= .tup (xs++ys)) (λb ob q=>yX _ q) (yU _) ?_,rfl,q2 (λw=>z (r2.nil_iff.mpr w)) _ (I.hok.fresh (yU _))⟩;exact ⟨by rw [yM];exact hz,_,r1.append r2,IsTup.new _ _⟩
end
def ixN (n:Nat)(i:Int):Option Nat:=if 0<=i then (if i<n then some i.toNat else none) else if -(n:Int)<=i then some (i+n).toNat else none
def atI {α:Type}(xs:List α)(i:Int):Option α:=(ixN xs.length i).bind λj=>xs[j]?
theorem WC {i:Int}(h:ixN n i=some j):seqIndex? i n=some j/\j<n/\-(n:Int)<=i/\i<n:=by
 unfold ixN at h;by_cases h0:0<=i
 ·rw [if_pos h0] at h;by_cases h1:i<n
  ·rw [if_pos h1] at h;have e:i.toNat=j:=Option.some.inj h;exact ⟨by rw [seqIndex_of h0 h1,e],by omega,by omega,h1⟩
  ·rw [if_neg h1] at h;cases h
 ·rw [if_neg h0] at h;by_cases h1:-(n:Int)<=i
  ·rw [if_pos h1] at h;have e:(i+n).toNat=j:=Option.some.inj h;exact ⟨by rw [seqIndex_neg (by omega) h1,e],by omega,h1,by omega⟩
  ·rw [if_neg h1] at h;cases h
theorem Xf {xs:List α}{i:Int}{v:α}(h:atI xs i=some v):∃ j,seqIndex? i xs.length=some j/\xs[j]?=some v/\j<xs.length/\-(xs.length:Int)<=i/\i<xs.length:=by
 unfold atI at h;cases e:ixN xs.length i with
 |none=>rw [e] at h;cases h
 |some j=>rw [e] at h;obtain ⟨h1,h2,h3,h4⟩:=WC e;exact ⟨j,h1,h,h2,h3,h4⟩
theorem qQ {xs:List α}{v:α}(h:xs[j]?=some v):atI xs (j:Int)=some v:=by
 have hj:j<xs.length:=(yA.mp h).1;have e:ixN xs.length (j:Int)=some j:=by unfold ixN;rw [if_pos (by omega),if_pos (by omega)];simp
 unfold atI;rw [e];exact h
def JF (b:Expr):Prop:=∀ o i,subscripted b false o i=operate [o,i] (getItem o i)
def IxR (X:Cx)(r:R2):Prop :=
 ∀(value slice:Expr)(pins:List (Addr×Obj))(s:Shared)(σ:St)(H:Hp)(x y:V)(v u:Value)(Q:VK),Inv X pins σ H s->RelV x v->RelV y u->r x y H Q ->
  subscripted slice false v u=operate [v,u] (getItem v u)->wpAny (model X.prog X.w) X.A (subscriptTail value slice v u) (EP X pins σ Q) X.xe s
def MtR (X:Cx)(id:String)(r:V->List V->Hp->VK->Prop):Prop :=
 ∀(pins:List (Addr×Obj))(s:Shared)(σ:St)(H:Hp)(x:V)(xs:List V)(v:Value)(us:List Value)(Q:VK),Inv X pins σ H s->RelV x v->Vals xs us->r x xs H Q ->
  wpAny (model X.prog X.w) X.A (call (.builtin id) (v::us)) (EP X pins σ Q) X.xe s
section
variable {X:Cx}{a b:Expr}{ta tb:TE}{pos:Pos}
theorem IxR.or {r r':R2}(h:IxR X r)(h':IxR X r'):IxR X (λx y H Q=>r x y H Q∨r' x y H Q):=by
 intro value slice pins s σ H x y v u Q I rx ry q hs;rcases q with q|q
 ·exact h value slice pins s σ H x y v u Q I rx ry q hs
 ·exact h' value slice pins s σ H x y v u Q I rx ry q hs
theorem wz {r:R2}(hr:IxR X r)(ha:PE X a ta)(hb:PE X b tb)(hs:JF b):PE X (.Subscript a b pos) (tOp r ta tb):=by intro pins s σ H Q I h;exact Subscript_ (binT ha hb I h λv u s2 x y H2 I2 rx ry q=>hr a b pins s2 σ H2 x y v u Q I2 rx ry q (hs _ _))
def rIxL (K:Fg):R2:=λx y H Q=>∃ p xs i v,x = .ref p/\y = .int i/\SqL K H p xs/\atI xs i=some v/\Q v H
def rIxT (K:Fg):R2:=λx y H Q=>∃ p xs i v,x = .ref p/\y = .int i/\SqT K H p xs/\atI xs i=some v/\Q v H
def rIxS:R2:=λx y H Q=>∃ z i c,x = .str z/\y = .int i/\z.length<=sizeLine/\atI z.cps.toList i=some c/\Q (.str ⟨#[c]⟩) H
theorem ix_list:IxR X (rIxL X.K):=by
 intro value slice pins s σ H x y v u Q I rx ry h hs;obtain ⟨p,xs,i,z,rfl,rfl,hq,he,q⟩:=h;cases rx;obtain ⟨t,rfl⟩:=ry;obtain ⟨its,r,pl,hz⟩:=I.list hq;obtain ⟨j,h1,h2,h3,h4,h5⟩:=Xf he;obtain ⟨w,ew,rw'⟩:=r.get h2;have hl:=r.length;have hn:=jk;have fin:EP X pins σ Q w s:=⟨z,H,I,rw',q⟩;by_cases h0:0<=i
 ·have hj:i.toNat=j:=by rw [seqIndex_of h0 h5] at h1;exact Option.some.inj h1
  exact item_listR pl.isList h0 (by omega) (by rw [hj];simpa using ew) fin hs
 ·have hj:(i+(its.toArray.size:Int)).toNat=j:=by rw [seqIndex_neg (by omega) h4] at h1;rw [yW,<- hl];exact Option.some.inj h1
  exact subscriptTail_builtinR (x:=w) pl.isList.typeIs slot_list_getitem.lookup
   (wpAny_getItem_list_neg (Q:=λr s'=>r=w/\EP X pins σ Q r s') pl.isList (by omega) (by rw [yW]<;>omega) (by omega) (by rw [hj];simpa using ew) ⟨rfl,fin⟩) hs
theorem ix_tup:IxR X (rIxT X.K):=by
 intro value slice pins s σ H x y v u Q I rx ry h hs;obtain ⟨p,xs,i,z,rfl,rfl,hq,he,q⟩:=h;cases rx;obtain ⟨t,rfl⟩:=ry;obtain ⟨its,r,pl,hz⟩:=I.tuple hq;obtain ⟨j,h1,h2,h3,h4,h5⟩:=Xf he;obtain ⟨w,ew,rw'⟩:=r.get h2;have hl:=r.length;have hn:=jk;have fin:EP X pins σ Q w s:=⟨z,H,I,rw',q⟩;exact subscriptTail_builtinR (x:=w) pl.typeIs slot_tuple_getitem.lookup
  (getItem_tuple (j:=j) (Q:=λr s'=>r=w/\EP X pins σ Q r s') pl (by omega) (by omega) (by rw [yW,<- hl];exact h1) (by simpa using ew) ⟨rfl,fin⟩) hs
theorem Bo:IxR X rIxS:=by
 intro value slice pins s σ H x y v u Q I rx ry h hs;obtain ⟨z,i,c,rfl,rfl,hz,he,q⟩:=h;obtain ⟨t,rfl⟩:=rx;obtain ⟨t',rfl⟩:=ry;obtain ⟨j,h1,h2,h3,h4,h5⟩:=Xf he;have hl:z.cps.toList.length=z.length:=by simp [Str.length]
 rw [hl] at h1 h4 h5;have hn:=jk;exact tail_any (typeIs_str s z t) slot_str_getitem.lookup (getItem_str (c:=c) (by
  have e1:decide (i < -(2 ^ 63:Int))=false:=yB (by omega);have e2:decide (i >= 2 ^ 63)=false:=yB (by omega);rw [e1,e2,Bool.or_false]) (by rw [h1];simpa using h2) ⟨.str ⟨#[c]⟩,H,I.tok _,⟨_,rfl⟩,q⟩) hs
def rIx (K:Fg):R2:=λx y H Q=>rIxL K x y H Q∨rIxT K x y H Q∨rIxS x y H Q
theorem Bn:IxR X (rIx X.K):=ix_list.or (ix_tup.or Bo)
theorem BL (its:List Value)(n j:Nat)(u:Value):Obj.mapSeq (·.setIfInBounds j u) { cls:= .type "list",data:= .seq its.toArray n }={ cls:= .type "list",data:= .seq (its.set j u).toArray n }:=by simp [Obj.mapSeq]
theorem Inv.lst {pins:List (Addr×Obj)}{σ:St}{H:Hp}{s:Shared}{p:Addr}{xs:List V}(I:Inv X pins σ H s)(h:H p=some (.lst xs)):∃ (its:List Value) (n:Nat),Vals xs its/\s.heap.get? p=some { cls:= .type "list",data:= .seq its.toArray n }/\xs.length<=sizeLine:=by obtain ⟨z,its,n,r,e⟩:=I.hok p _ h;exact ⟨its,n,r,e,z⟩
theorem Inv.lstUpd {p:Addr}{xs ys:List V}{n':Nat}{f:Obj->Obj}(I:Inv X pins σ H s)(h:H p=some (.lst xs))(ho:s.heap.get? p=some { cls:= .type "list",data:= .seq its.toArray n })(hf:f { cls:= .type "list",data:= .seq its.toArray n }={ cls:= .type "list",data:= .seq its'.toArray n' })(r:Vals ys its')(hz:ys.length<=sizeLine)(t:Nat):Inv X pins σ (j0 H p (.lst ys)) { s with heap:=s.heap.update p f,toks:=t }:=by
 have e:(s.heap.update p f).get? p=some { cls:= .type "list",data:= .seq its'.toArray n' }:=by rw [uZ f ho (by rw [hf]<;>rfl),hf]
 refine I.write (x:=p) (e:=p) (by rw [h];trivial) (.inl rfl) (λb u hb q=>(yw _ _ (Ne.symm hb)).trans q) ⟨_,e⟩ ?_;exact ⟨hz,its',n',r,e⟩
def rSetL:V->V->V->Hp->(Hp->Prop)->Prop:=λo i v H Q=>∃ p xs k j,o = .ref p/\i = .int k/\H p=some (.lst xs)/\ixN xs.length k=some j/\Q (j0 H p (.lst (xs.set j v)))
theorem Ua:PSet X rSetL:=by
 intro pins s σ H o i v ov iv u Q I ro ri rv h;obtain ⟨p,xs,k,j,rfl,rfl,hp,hj,q⟩:=h;cases ro;obtain ⟨t,rfl⟩:=ri;obtain ⟨its,n,r,ho,hz⟩:=I.lst hp;obtain ⟨h1,h2,h3,h4⟩:=WC hj;have hl:=r.length;have hn:=jk;have I':Inv X pins σ (j0 H p (.lst (xs.set j v))) { s with heap:=s.heap.update p (Obj.mapSeq (·.setIfInBounds j u)) } :=
  I.lstUpd hp ho (BL its n j u) (r.set rv j) (by rw [yo];exact hz) s.toks
 by_cases h0:0<=k
 ·have hk:k.toNat=j:=by rw [seqIndex_of h0 h4] at h1;exact Option.some.inj h1
  exact PySem.W.ki_setAt ho h0 (by omega) (by rw [yW,<- hl];exact h4) (by rw [hk];exact ⟨_,I',q⟩)
 ·have hk:(k+(its.toArray.size:Int)).toNat=j:=by rw [seqIndex_neg (by omega) h3] at h1;rw [yW,<- hl];exact Option.some.inj h1
  exact PySem.W.ki_setBack ho (by omega) (by rw [yW,<- hl];exact h3) (by omega) (by rw [hk];exact ⟨_,I',q⟩)
def y6:V->Bool
 | .non=>true
 | .bl _=>true
 | .int _=>true
 | .str _=>true
 |_=>false
def n6:V->V->Bool
 | .non,.non=>true
 | .bl a,.bl b=>a==b
 | .bl a,.int b=>(if a then 1 else 0)==b
 | .int a,.bl b=>a==(if b then 1 else 0)
 | .int a,.int b=>a==b
 | .str a,.str b=>a==b
 |_,_=>false
theorem Xu (ry:RelV y u)(rx:RelV x v)(fy:y6 y=true)(fx:y6 x=true):SeqAt.EqAt A s u v (n6 y x):=by
 cases y with
 |non =>
  cases ry;cases x with
  |non=>cases rx;exact SeqAt.EqAt.same _
  |bl b=>cases rx;exact SeqAt.EqAt.none_bool b
  |int b=>obtain ⟨t,rfl⟩:=rx;exact SeqAt.EqAt.none_int b t
  |str b=>obtain ⟨t,rfl⟩:=rx;exact SeqAt.EqAt.none_str b t
  |_=>exact absurd (show false=true from fx) yS
 |bl a =>
  cases ry;cases x with
  |non=>cases rx;exact SeqAt.EqAt.bool_none a
  |bl b=>cases rx;exact SeqAt.EqAt.bool_bool a b
  |int b=>obtain ⟨t,rfl⟩:=rx;exact SeqAt.EqAt.bool_int a b t
  |str b=>obtain ⟨t,rfl⟩:=rx;exact SeqAt.EqAt.bool_str a b t
  |_=>exact absurd (show false=true from fx) yS
 |int a =>
  obtain ⟨t',rfl⟩:=ry;cases x with
  |non=>cases rx;exact SeqAt.EqAt.int_none a t'
  |bl b=>cases rx;exact SeqAt.EqAt.int_bool a t' b
  |int b=>obtain ⟨t,rfl⟩:=rx;exact SeqAt.EqAt.int_int a t' b t
  |str b=>obtain ⟨t,rfl⟩:=rx;exact SeqAt.EqAt.int_str a t' b t
  |_=>exact absurd (show false=true from fx) yS
 |str a =>
  obtain ⟨t',rfl⟩:=ry;cases x with
  |non=>cases rx;exact SeqAt.EqAt.str_none a t'
  |bl b=>cases rx;exact SeqAt.EqAt.str_bool a t' b
  |int b=>obtain ⟨t,rfl⟩:=rx;exact SeqAt.EqAt.str_int a t' b t
  |str b=>obtain ⟨t,rfl⟩:=rx;exact SeqAt.EqAt.str_str a t' b t
  |_=>exact absurd (show false=true from fx) yS
 |_=>exact absurd (show false=true from fy) yS
def eqU (x:V)(u:Value):Bool:=match u with
 | .none=>n6 .non x
 | .bool b=>n6 (.bl b) x
 | .int i _=>n6 (.int i) x
 | .str z _=>n6 (.str z) x
 |_=>false
theorem Wj (r:RelV y u)(f:y6 y=true):eqU x u=n6 y x:=by
 cases y with
 |non=>cases r;rfl
 |bl b=>cases r;rfl
 |int i=>obtain ⟨t,rfl⟩:=r;rfl
 |str z=>obtain ⟨t,rfl⟩:=r;rfl
 |_=>exact absurd (show false=true from f) yS
theorem vF {x:V}:∀{xs:List V}{us:List Value},Vals xs us->xs.all y6=true->us.any (eqU x)=xs.any λy=>n6 y x
 |_,_,.nil,_=>rfl
 |y::xs,u::us,.cons r t,f=>by
  rw [List.all_cons,uU] at f;rw [List.any_cons,List.any_cons,Wj r f.1,vF t f.2]
theorem wv {A:Around}{s:Shared}{x:V}{v:Value}(rx:RelV x v)(fx:y6 x=true):∀{xs:List V}{us:List Value},Vals xs us->xs.all y6=true->∀ u∈us,SeqAt.EqAt A s u v (eqU x u)
 |_,_,.nil,_=>λu hu=>by cases hu
 |y::xs,u::us,.cons r t,f=>λu' hu=>by
  rw [List.all_cons,uU] at f;rcases yL.mp hu with rfl|hu
  ·rw [Wj r f.1];exact Xu r rx f.1 fx
  ·exact wv rx fx t f.2 u' hu
def inV (x:V)(xs:List V):Bool:=xs.any λy=>n6 y x
def rIn (K:Fg)(neg:Bool):R2:=λx y H Q=>∃ p xs,y = .ref p/\(SqL K H p xs∨SqT K H p xs)/\y6 x=true/\xs.all y6=true/\Q (.bl (if neg then !inV x xs else inV x xs)) H
theorem Co:OpR X (compareOp .In) (rIn X.K false):=by
 intro pins s σ H x y v u Q I rx ry h;obtain ⟨p,xs,rfl,hq,fx,fs,q⟩:=h;cases ry;rcases hq with hq|hq
 ·obtain ⟨its,r,pl,hz⟩:=I.list hq;refine SeqAt.in_listAt (eqU x) pl.isList (λw hw=>wv rx fx r fs w (by simpa using hw)) ⟨.bl _,H,I,rfl,?_⟩;rw [show its.toArray.any (eqU x)=its.any (eqU x) by simp,vF r fs];exact q
 ·obtain ⟨its,r,pl,hz⟩:=I.tuple hq;refine SeqAt.in_tupleAt (eqU x) pl (λw hw=>wv rx fx r fs w (by simpa using hw)) ⟨.bl _,H,I,rfl,?_⟩;rw [show its.toArray.any (eqU x)=its.any (eqU x) by simp,vF r fs];exact q
theorem Cs:OpR X (compareOp .NotIn) (rIn X.K true):=by
 intro pins s σ H x y v u Q I rx ry h;obtain ⟨p,xs,rfl,hq,fx,fs,q⟩:=h;cases ry;rcases hq with hq|hq
 ·obtain ⟨its,r,pl,hz⟩:=I.list hq;refine SeqAt.notIn_listAt (eqU x) pl.isList (λw hw=>wv rx fx r fs w (by simpa using hw)) ⟨.bl _,H,I,rfl,?_⟩;rw [show its.toArray.any (eqU x)=its.any (eqU x) by simp,vF r fs];exact q
 ·obtain ⟨its,r,pl,hz⟩:=I.tuple hq;refine SeqAt.notIn_tupleAt (eqU x) pl (λw hw=>wv rx fx r fs w (by simpa using hw)) ⟨.bl _,H,I,rfl,?_⟩;rw [show its.toArray.any (eqU x)=its.any (eqU x) by simp,vF r fs];exact q
theorem GF:CallR X (.builtin "len") (λxs H Q=>∃ p ys,xs=[.ref p]/\(SqL X.K H p ys∨SqT X.K H p ys)/\Q (.int ys.length) H):=by
 intro pins s σ H xs us Q I r h;obtain ⟨p,ys,rfl,hq,q⟩:=h;obtain ⟨u,rfl,rx⟩:=xc r;cases rx;have hn:=jk;rcases hq with hq|hq
 ·obtain ⟨its,r',pl,hz⟩:=I.list hq;have hlen:=r'.length;exact Calls.call_len_list pl.isList (by simp only [yW]<;>omega) ⟨.int ys.length,H,I.tok _,⟨s.toks+1,by rw [yW,hlen]⟩,q⟩
 ·obtain ⟨its,r',pl,hz⟩:=I.tuple hq;have hlen:=r'.length;exact len_tuple pl (by simp only [yW]<;>omega) ⟨.int ys.length,H,I.tok _,⟨s.toks+1,by rw [yW,hlen]⟩,q⟩
theorem CallR.or {f:Value}{r r':List V->Hp->VK->Prop}(h:CallR X f r)(h':CallR X f r'):CallR X f (λxs H Q=>r xs H Q∨r' xs H Q):=by
 intro pins s σ H xs us Q I rs q;rcases q with q|q
 ·exact h pins s σ H xs us Q I rs q
 ·exact h' pins s σ H xs us Q I rs q
theorem GG:CallR X (.type "list") (λxs H Q=>∃ p ys,xs=[.ref p]/\(SqL X.K H p ys∨SqT X.K H p ys)/\∀ l,H l=none->Q (.ref l) (j0 H l (.lst ys))):=by
 intro pins s σ H xs us Q I r h;obtain ⟨p,ys,rfl,hq,q⟩:=h;obtain ⟨u,rfl,rx⟩:=xc r;cases rx;have fin:∀(its:List Value),Vals ys its->ys.length<=sizeLine->∀(h':Heap)(c':Nat),(∀ b o',s.heap.get? b=some o'->h'.get? b=some o') ->
   h'.get? s.heap.objs.size=some { cls:= .type "list",dict:=none,data:= .seq its.toArray c',slots:=#[] }->EP X pins σ Q (.ref s.heap.objs.size) { s with heap:=h' }:=λits r' hz h' c' kp e =>
  ⟨.ref s.heap.objs.size,_,I.laid (t':=s.toks) kp (yU _) (show ObjOk X.prog X.w _ h' _ (.lst ys) from ⟨hz,its,c',r',e⟩),rfl,q _ (I.hok.fresh (yU _))⟩
 rcases hq with hq|hq
 ·obtain ⟨its,r',pl,hz⟩:=I.list hq;have hlen:=r'.length;obtain ⟨o,ho,hc,n,hd⟩:=pl.isList;exact call_list_seq p (.inl rfl) ho hc hd (λh' c' kp e=>fin its r' hz h' c' kp e) (by simp only [yW]<;>omega)
 ·obtain ⟨its,r',pl,hz⟩:=I.tuple hq;have hlen:=r'.length;obtain ⟨o,ho,hc,n,hd⟩:=pl;exact call_list_seq p (.inr rfl) ho hc hd (λh' c' kp e=>fin its r' hz h' c' kp e) (by simp only [yW]<;>omega)
def tyV (K:Fg)(T:String)(x:V)(H:Hp):Prop:=match x with
 | .str _=>T = "str"
 | .int _=>T = "int"
 | .ref p=>(T = "list"/\∃ xs,SqL K H p xs)∨(T = "tuple"/\∃ o,K.lookup p=some o/\o.cls = .type "tuple"/\o.dict=none) ∨
   (T = "dict"/\((∃ kvs,H p=some (.dK kvs))∨∃ kvs,H p=some (.dT kvs)))∨(T = "set"/\∃ S n,H p=some (.set S n))
 |_=>False
theorem MP (I:Inv X pins σ H s)(r:RelV x v)(ty:tyV X.K T x H):s.TypeIs v T/\∀ a,v = .ref a->∃ ob,s.heap.get? a=some ob/\ob.dict=none:=by
 cases x with
 |str z=>obtain ⟨t,rfl⟩:=r;cases (show T = "str" from ty);exact ⟨typeIs_str s z t,λ_ e=>nomatch e⟩
 |int i=>obtain ⟨t,rfl⟩:=r;cases (show T = "int" from ty);exact ⟨typeIs_int s i t,λ_ e=>nomatch e⟩
 |ref p =>
  cases r;rcases ty with ⟨rfl,xs,hq⟩|⟨rfl,o,hk,hc,hd⟩|⟨rfl,hk⟩|⟨rfl,S,n,hk⟩
  ·obtain ⟨its,_,pl,_⟩:=I.list hq;refine ⟨pl.isList.typeIs,λa e=>?_⟩;cases e;obtain ⟨o,n,e,c,hd,_⟩:=pl;exact ⟨o,e,hd⟩
  ·refine ⟨⟨o,I.kIn p o hk,hc⟩,λa e=>?_⟩;cases e;exact ⟨o,I.kIn _ o hk,hd⟩
  ·have z:∃ o,s.heap.get? p=some o/\o.ExactDict:=by
    rcases hk with ⟨kvs,hk⟩|⟨kvs,hk⟩
    ·obtain ⟨_,_,_,_,o,_,_,e,ex,_⟩:=I.hok p _ hk;exact ⟨o,e,ex⟩
    ·obtain ⟨_,_,_,_,o,_,_,e,ex,_⟩:=I.hok p _ hk;exact ⟨o,e,ex⟩
   obtain ⟨o,e,ex⟩:=z;refine ⟨⟨o,e,ex.1⟩,λa e2=>?_⟩;cases e2;exact ⟨o,e,ex.2.1⟩
  ·obtain ⟨o,_,_,_,e,ex,_⟩:=I.hok p _ hk;refine ⟨⟨o,e,ex.1⟩,λa e2=>?_⟩;cases e2;exact ⟨o,e,ex.2.1⟩
 |_=>exact False.elim ty
def tBM (K:Fg)(T:String)(r:V->List V->Hp->VK->Prop)(to:TE)(t:TA):TE:=λσ H Q=>to σ H λx H1=>tyV K T x H1/\t σ H1 λxs H2=>r x xs H2 Q
variable {o e:Expr}{es:List Expr}{to:TE}{t:TA}{name:Str}{apos cpos:Pos}{T id:String}{r:V->List V->Hp->VK->Prop}
theorem pe_bm (pa:PlainAttrs T)(slot:Slot T name id)(hty:typeOf (.builtin id)=pure (.type "method_descriptor"))(hm:MtR X id r)(ho:PE X o to)(ha:PA X (e::es) t)(hbase:attributeBase o name X.env (eval o X.env)=eval o X.env:=by rfl)(hfew:((backTo cpos (starEach (e::es) X.env)).all (λx=>!x.1)&&(backToKw cpos (keywordEach [] X.env)).all (λx=>x.1.isSome)&&decide ((e::es).length+([]:List Keyword).length+(if ([]:List Keyword).isEmpty then 0 else 1)<30))=true:=by rfl)(hline:(apos.endLine==cpos.line)=true:=by rfl)(hs:starEach (e::es) X.env=(false,eval e X.env)::starEach es X.env:=by rfl)(hplain:(backTo cpos (starEach es X.env)).any (·.1)=false:=by rfl):PE X (.Call (.Attribute o name apos) (e::es) [] cpos) (tBM X.K T r to t):=by intro pins s σ H Q I h;refine wpAny_Call_method_late hbase hfew hline rfl (z8 (ho pins s σ H _ I h) λv s1 ⟨x,H1,I1,r1,ty,q1⟩=>?_);obtain ⟨h1,h2⟩:=MP I1 r1 ty;refine ⟨T,id,pa,slot,hty,h1,h2,?_⟩;have hA:=ha cpos pins s1 σ H1 _ I1 q1;rw [hs] at hA ⊢;refine Calls.callWith_builtin (by show (false || (backTo cpos (starEach es X.env)).any (·.1))=false;rw [hplain]<;>rfl) (Calls.evalArgs_plain ?_);exact z8 hA λus s2 ⟨vs,H2,I2,r2,q2⟩=>hm pins s2 σ H2 x vs v us Q I2 r1 r2 q2
end
def MtM (X:Cx)(id:String)(r:V->List V->Hp->VK->Prop):Prop :=
 ∀(pins:List (Addr×Obj))(s:Shared)(σ:St)(H:Hp)(x:V)(xs:List V)(v:Value)(us:List Value)(Q:VK),Inv X pins σ H s->RelV x v->Vals xs us->r x xs H Q ->
  wpAny (model X.prog X.w) X.A (call (.builtin id) (v::us)) (EP X pins σ Q) X.xe s
theorem Vals.one:∀{x:V}{us:List Value},Vals [x] us->∃ u,us=[u]/\RelV x u
 |_,_,.cons r .nil=>⟨_,rfl,r⟩
theorem Vals.two:∀{x y:V}{us:List Value},Vals [x,y] us->∃ u v,us=[u,v]/\RelV x u/\RelV y v
 |_,_,_,.cons r (.cons q .nil)=>⟨_,_,rfl,r,q⟩
section
variable {X:Cx}{pins:List (Addr×Obj)}{σ:St}{H:Hp}{s:Shared}{l b:Addr}{xs ys zs:List V}
theorem Inv.lset {f:Array Value->Array Value}(I:Inv X pins σ H s)(hH:H l=some (.lst xs))(e:s.heap.get? l=some { cls:= .type "list",data:= .seq its.toArray n })(hf:f its.toArray=its'.toArray)(hv:Vals ys its')(hz:ys.length<=sizeLine):Inv X pins σ (j0 H l (.lst ys)) { s with heap:=s.heap.update l (Obj.mapSeq f),toks:=t' }:=by have q:=PySem.IsL.update e f;rw [hf] at q;refine I.write (x:=l) (e:=l) (by rw [hH];exact trivial) (.inl rfl) (λb' u hb hu=>(yw s.heap (Obj.mapSeq f) (Ne.symm hb)).trans hu) ⟨_,q⟩ ?_;exact ⟨hz,its',_,hv,q⟩
theorem Inv.lnew (I:Inv X pins σ H s)(hv:Vals ys its)(hz:ys.length<=sizeLine):Inv X pins σ (j0 H s.heap.objs.size (.lst ys)) { s with heap:=s.heap.push { cls:= .type "list",data:= .seq its.toArray },toks:=t' } :=
 I.laid (λ_ _ q=>yX _ q) (yU _) ⟨hz,its,0,hv,yJ _ rfl⟩
theorem Inv.fresh (I:Inv X pins σ H s):H s.heap.objs.size=none:=I.hok.fresh (yU _)
theorem Inv.lstM (I:Inv X pins σ H s)(hH:H l=some (.lst xs)):xs.length<=sizeLine/\∃ (its:List Value) (n:Nat),Vals xs its/\xs.length=its.length/\s.heap.get? l=some { cls:= .type "list",data:= .seq its.toArray n }:=by obtain ⟨z,its,n,r,e⟩:=I.hok l _ hH;exact ⟨z,its,n,r,r.length,e⟩
theorem BX (h:n<=sizeLine):Builtin.List.listTooLong n=false:=by unfold Builtin.List.listTooLong;exact yB (by omega)
end
section
variable {X:Cx}
def Zi:V->List V->Hp->VK->Prop:=λx vs H Q=>∃ l xs y,x = .ref l/\vs=[y]/\H l=some (.lst xs)/\xs.length<sizeLine/\Q .non (j0 H l (.lst (xs++[y])))
theorem QD:MtM X "list.append" Zi:=by intro pins s σ H x vs v us Q I rx rv h;obtain ⟨l,xs,y,rfl,rfl,hH,hz,q⟩:=h;cases rx;obtain ⟨u,rfl,ru⟩:=rv.one;obtain ⟨z,its,n,r,hl,e⟩:=I.lstM hH;refine call_meets F.slot_list_append ⟨_,e,rfl⟩ F.entry_list_append (F.args_list_append_2 _ _) (PySem.list_append l its.toArray n u (by rw [yW];omega)) ⟨e,?_⟩;refine ⟨.non,_,I.lset (its':=its++[u]) hH e (by simp) (r.append (.cons ru .nil)) ?_,rfl,q⟩;rw [yM,List.length_singleton];omega
def Yw:V->List V->Hp->VK->Prop:=λx vs H Q=>∃ l b xs zs,x = .ref l/\vs=[.ref b]/\H l=some (.lst xs)/\H b=some (.lst zs)/\xs.length+zs.length<=sizeLine/\Q .non (j0 H l (.lst (xs++zs)))
theorem BS:MtM X "list.extend" Yw:=by
 intro pins s σ H x vs v us Q I rx rv h;obtain ⟨l,b,xs,zs,rfl,rfl,hH,hB,hz,q⟩:=h;cases rx;obtain ⟨u,rfl,ru⟩:=rv.one;cases ru;obtain ⟨z,its,n,r,hl,e⟩:=I.lstM hH;obtain ⟨z2,its2,n2,r2,hl2,e2⟩:=I.lstM hB;have hsz:its.toArray.size+its2.toArray.size<=sizeLine:=by rw [yW,yW];omega
 have hlong:¬ (!its.toArray.isEmpty&&Builtin.List.listTooLong (its.toArray.size+its2.toArray.size))=true:=by rw [BX hsz,Bool.and_false];exact yS
 refine call_meets F.slot_list_extend ⟨_,e,rfl⟩ F.entry_list_extend (F.args_list_extend_2 _ _)
  (AutoSeq1.list_extend_list_list_0 l its.toArray n b its2.toArray n2 hlong (by rw [yW];omega) (by omega)) ⟨e,e2,?_⟩
 refine ⟨.non,_,I.lset (its':=its++its2) hH e (by simp) (r.append r2) ?_,rfl,q⟩;rw [yM];omega
end
section
variable {κ:Type}[DecidableEq κ]
def qo (kvs:List (κ×V))(k:κ):Option V:=(kvs.find? λkv=>decide (kv.1=k)).map (·.2)
def xt (kvs:List (κ×V))(k:κ)(v:V):List (κ×V) :=
 if (kvs.any λkv=>decide (kv.1=k))=true then kvs.map (λkv=>if kv.1=k then (kv.1,v) else kv) else kvs++[(k,v)]
theorem Jw {p:κ×V}{r:List (κ×V)}{k:κ}(e:p.1=k):qo (p::r) k=some p.2:=by simp [qo,uM,e]
theorem Jv {p:κ×V}{r:List (κ×V)}{k:κ}(e:¬ p.1=k):qo (p::r) k=qo r k:=by simp [qo,uM,e]
theorem Ju (k:κ):∀ kvs:List (κ×V),(kvs.any λkv=>decide (kv.1=k))=(qo kvs k).isSome
 |[]=>rfl
 |p::r=>by
  rw [List.any_cons];by_cases e:p.1=k
  ·simp only [Jw e,yj e,Bool.true_or,Option.isSome_some]
  ·rw [Jv e,yB e,Bool.false_or];exact Ju k r
theorem WL (kvs:List (κ×V))(k:κ)(v:V):(xt kvs k v).length<=kvs.length+1:=by
 unfold xt;split
 ·rw [yZ];omega
 ·rw [yM,yu,List.length_nil];omega
theorem RelO.isSome_eq {u:Option Value}(r:RelO o u):o.isSome=u.isSome:=by
 cases o with
 |none=>cases u with
  |none=>rfl
  |some _=>exact (show False from r).elim
 |some _=>cases u with
  |none=>exact (show False from r).elim
  |some _=>rfl
theorem KV.val {kvs:List (κ×V)}{vs:List (κ×Value)}(r:KV kvs vs)(k:κ):RelO (qo kvs k) (valueAt vs k):=by
 unfold KV at r
 induction r with
 |nil=>exact True.intro
 |@cons p q ps qs h t ih =>
  obtain ⟨h1,h2⟩:=h;by_cases e:p.1=k
  ·have e':q.1=k:=h1.symm.trans e;have b:valueAt (q::qs) k=some q.2:=by simp [valueAt,uM,e']
   rw [Jw e,b];exact h2
  ·have e':¬ q.1=k:=λz=>e (h1.trans z);have b:valueAt (q::qs) k=valueAt qs k:=by simp [valueAt,uM,e']
   rw [Jv e,b];exact ih
theorem KV.any {kvs:List (κ×V)}{vs:List (κ×Value)}(r:KV kvs vs)(k:κ):(kvs.any λkv=>decide (kv.1=k))=vs.any λkv=>decide (kv.1=k):=by
 unfold KV at r
 induction r with
 |nil=>rfl
 |cons h t ih=>rw [List.any_cons,List.any_cons,ih,h.1]
theorem KV.repl {kvs:List (κ×V)}{vs:List (κ×Value)}(r:KV kvs vs)(k:κ)(ry:RelV y u):KV (kvs.map λkv=>if kv.1=k then (kv.1,y) else kv) (vs.map λkv=>if kv.1=k then (kv.1,u) else kv):=by
 unfold KV at r ⊢
 induction r with
 |nil=>exact .nil
 |@cons p q ps qs h t ih =>
  rw [yN,yN];refine .cons ?_ ih;obtain ⟨h1,h2⟩:=h;by_cases e:p.1=k
  ·rw [if_pos e,if_pos (h1.symm.trans e)];exact ⟨h1,ry⟩
  ·rw [if_neg e,if_neg (λz=>e (h1.trans z))];exact ⟨h1,h2⟩
theorem KV.put {kvs:List (κ×V)}{vs:List (κ×Value)}(r:KV kvs vs)(k:κ)(ry:RelV y u):KV (xt kvs k y) (stored vs k u):=by
 unfold xt stored;rw [r.any k];by_cases e:(vs.any λkv=>decide (kv.1=k))=true
 ·rw [if_pos e,if_pos e];exact r.repl k ry
 ·rw [if_neg e,if_neg e];exact Paired.snoc r ⟨rfl,ry⟩
theorem KV.length {kvs:List (κ×V)}{vs:List (κ×Value)}(r:KV kvs vs):kvs.length=vs.length:=Paired.length r
end
theorem jR {k:z7}(r:RelV (kV k) u):(i4 P w).is k u=true:=by
 cases k with
 |inl i=>obtain ⟨t,e⟩:=(show ∃ t,u=Value.int i t from r);subst e;exact BR P w i t
 |inr x=>obtain ⟨t,e⟩:=(show ∃ t,u=Value.str x t from r);subst e;exact XT P w x t
theorem Wx {P:Program}{w:World}:∀{ks:List z7}{us:List Value},Vals (ks.map kV) us->ItemsAre (i4 P w) ks us
 |[],_,r=>by rw [List.map_nil] at r;cases r;exact .nil
 |k::ks,_,r=>by
  rw [yN] at r;cases r with
  |cons h t=>exact .cons (jR h) (Wx t)
abbrev KT (H:Hp):List (List z7×V)->List (List z7×Addr×Value)->Prop:=Paired λp q=>p.1=q.1/\H q.2.1=some (.tup (p.1.map kV))/\RelV p.2 q.2.2
theorem KT.val (r:KT H kvs xs)(k:List z7):RelO (qo kvs k) ((atKey xs k).map (·.2)):=by
 induction r with
 |nil=>exact True.intro
 |@cons p q ps qs h t ih =>
  obtain ⟨h1,_,h2⟩:=h;by_cases e:p.1=k
  ·have e':q.1=k:=h1.symm.trans e;have b:atKey (q::qs) k=some q.2:=by simp [atKey,uM,e']
   rw [Jw e,b];exact h2
  ·have e':¬ q.1=k:=λz=>e (h1.trans z);have b:atKey (q::qs) k=atKey qs k:=by simp [atKey,uM,e']
   rw [Jv e,b];exact ih
theorem KT.repl (r:KT H kvs xs)(k:List z7)(ry:RelV y u):KT H (kvs.map λkv=>if kv.1=k then (kv.1,y) else kv) (xs.map (putAt k u)):=by
 induction r with
 |nil=>exact .nil
 |@cons p q ps qs h t ih =>
  rw [yN,yN];refine .cons ?_ ih;obtain ⟨h1,h2,h3⟩:=h;unfold putAt;by_cases e:p.1=k
  ·rw [if_pos e,if_pos (h1.symm.trans e)];exact ⟨h1,h2,ry⟩
  ·rw [if_neg e,if_neg (λz=>e (h1.trans z))];exact ⟨h1,h2,h3⟩
theorem KT.put (r:KT H kvs xs)(k:List z7){b:Addr}(hb:H b=some (.tup (k.map kV)))(ry:RelV y u):KT H (xt kvs k y) (storedH xs k b u):=by
 have e:(kvs.any λkv=>decide (kv.1=k))=(atKey xs k).isSome:=by rw [Ju,(r.val k).isSome_eq,Option.isSome_map]
 unfold xt storedH;rw [e];by_cases q:(atKey xs k).isSome=true
 ·rw [if_pos q,if_pos q];exact r.repl k ry
 ·rw [if_neg q,if_neg q];exact Paired.snoc r ⟨rfl,hb,ry⟩
theorem KT.keeps (r:KT H kvs xs)(ht:∀ b ys,H b=some (.tup ys)->H' b=some (.tup ys)):KT H' kvs xs :=
 Paired.mapP r λ_ _ z=>⟨z.1,ht _ _ z.2.1,z.2.2⟩
section
variable {P:Program}{w:World}{H:Hp}{h:Heap}{a:Addr}
theorem YH {u:HO}(ok:HOk P w H h)(e:Rd H a u):ObjOk P w H h a u:=e.ok ok
theorem xY {kvs:List (z7×V)}(ok:HOk P w H h)(e:Rd H a (.dK kvs)):kvs.length<=sizeLine/\(a==sysModules)=false/\∃ vs,KV kvs vs/\h.DictOf (i4 P w) a vs :=
 show ObjOk P w H h a (.dK kvs) from YH ok e
theorem dk_of {kvs:List (z7×V)}(ok:HOk P w H h)(e:H a=some (.dK kvs)):kvs.length<=sizeLine/\(a==sysModules)=false/\∃ vs,KV kvs vs/\h.DictOf (i4 P w) a vs:=xY ok (.inl e)
theorem vW {ks:List z7}(ok:HOk P w H h)(e:H a=some (.tup (ks.map kV))):(tupleKind (i4 P w)).is h ks a:=by obtain ⟨_,its,r,o,h1,h2,n,h3⟩:=(show ObjOk P w H h a (.tup (ks.map kV)) from ok a _ e);exact ⟨o,its.toArray,n,h1,h2,h3,by simpa using Wx r⟩
theorem vM (ok:HOk P w H h)(e:Rd H a (.dT kvs)):kvs.length<=sizeLine/\(a==sysModules)=false /\ ∃ xs,KT H kvs xs/\h.DictOfH (tupleKind (i4 P w)) a xs:=by
 obtain ⟨z,y,xs,r,o,es,ep,h1,h2,h3,h4,h5⟩:=(show ObjOk P w H h a (.dT kvs) from YH ok e);refine ⟨z,y,xs,r,o,es,ep,h1,h2,h3,h4,λx hx=>?_,h5⟩;have all:∀{l:List (List z7×V)}{m:List (List z7×Addr×Value)},KT H l m->∀ x∈m,(tupleKind (i4 P w)).is h x.1 x.2.1:=by
  intro l m q
  induction q with
  |nil=>intro x hx;exact nomatch hx
  |@cons p q ps qs hq t ih =>
   intro x hx;rcases yL.mp hx with e|hx
   ·subst e;exact vW ok (by rw [<- hq.1];exact hq.2.1)
   ·exact ih x hx
 exact all r x hx
theorem dt_of (ok:HOk P w H h)(e:H a=some (.dT kvs)):kvs.length<=sizeLine/\(a==sysModules)=false /\ ∃ xs,KT H kvs xs/\h.DictOfH (tupleKind (i4 P w)) a xs:=vM ok (.inl e)
end
def DGet (H:Hp)(a:Addr)(y:V)(r:Option V):Prop :=
 (∃ kvs k,Rd H a (.dK kvs)/\y=kV k/\r=qo kvs k)∨∃ kvs k b,Rd H a (.dT kvs)/\y = .ref b/\H b=some (.tup (k.map kV))/\r=qo kvs k
def DPut (H:Hp)(a:Addr)(y v:V)(H':Hp):Prop :=
 (∃ kvs k,H a=some (.dK kvs)/\y=kV k/\kvs.length<sizeLine/\H'=j0 H a (.dK (xt kvs k v))) ∨
 ∃ kvs k b,H a=some (.dT kvs)/\y = .ref b/\H b=some (.tup (k.map kV))/\kvs.length<sizeLine/\H'=j0 H a (.dT (xt kvs k v))
theorem DGet.k {kvs:List (z7×V)}{k:z7}(e:H a=some (.dK kvs)):DGet H a (kV k) (qo kvs k):= .inl ⟨kvs,k,.inl e,rfl,rfl⟩
theorem DPut.k {kvs:List (z7×V)}{k:z7}{v:V}(e:H a=some (.dK kvs))(hl:kvs.length<sizeLine):DPut H a (kV k) v (j0 H a (.dK (xt kvs k v))):= .inl ⟨kvs,k,e,rfl,hl,rfl⟩
section
variable {X:Cx}{pins:List (Addr×Obj)}{σ:St}{H:Hp}{s:Shared}{a:Addr}{y v:V}{u r:Value}{o:Option V}{A:Around}{E:Value->Shared->Prop}
theorem Inv.big (I:Inv X pins σ H s):sysModules<s.heap.objs.size:=by have h:mainGlobals<s.heap.objs.size:=(I.mod.glob.keeps I.bk).lt;exact Nat.lt_trans (by decide) h
theorem GZ (hu:A.units+1<cLine)(I:Inv X pins σ H s)(g:DGet H a y (some v))(ry:RelV y u)(h:∀ w' s',Inv X pins σ H s'->RelV v w'->Q w' s'):wpAny (model X.prog X.w) A (getItem (.ref a) u) Q E s:=by
 rcases g with ⟨kvs,k,e,ey,l⟩|⟨kvs,k,b,e,ey,eb,l⟩
 ·subst ey;obtain ⟨z,hd,vs,rel,dd⟩:=xY I.hok e;obtain ⟨w',hw,rw'⟩:=RelO.some_of (v:=v) (o:=valueAt vs k) (by rw [l];exact rel.val k);exact wpAny_getItem_of (jR ry) dd.mapOf hw (h w' _ (I.tok _) rw')
 ·subst ey;cases (show u=Value.ref b from ry);obtain ⟨z,hd,xs,rel,dd⟩:=vM I.hok e;obtain ⟨w',hw,rw'⟩:=RelO.some_of (v:=v) (o:=(atKey xs k).map (·.2)) (by rw [l];exact rel.val k);obtain ⟨p,hp,hp2⟩:=yG.mp hw;refine wpAny_getItem_heap (tupleKind_room_in1 hu) (vW I.hok eb) dd hp ?_;rw [hp2];exact h w' _ (I.tok _) rw'
theorem d_in (hu:A.units+1<cLine)(I:Inv X pins σ H s)(g:DGet H a y o)(ry:RelV y u)(h:∀ s',Inv X pins σ H s'->Q (.bool o.isSome) s'):wpAny (model X.prog X.w) A (compareOp .In u (.ref a)) Q E s:=by
 rcases g with ⟨kvs,k,e,ey,l⟩|⟨kvs,k,b,e,ey,eb,l⟩
 ·subst ey;obtain ⟨z,hd,vs,rel,dd⟩:=xY I.hok e;refine wpAny_in_of (jR ry) hd dd.mapOf ?_;rw [<- (rel.val k).isSome_eq,<- l];exact h _ (I.tok _)
 ·subst ey;cases (show u=Value.ref b from ry);obtain ⟨z,hd,xs,rel,dd⟩:=vM I.hok e;refine wpAny_in_heap (tupleKind_room_in1 hu) (vW I.hok eb) hd dd ?_;have q:=(rel.val k).isSome_eq;rw [Option.isSome_map] at q;rw [<- q,<- l];exact h _ (I.tok _)
theorem Ka (hu:A.units+1<cLine)(I:Inv X pins σ H s)(g:DGet H a y o)(ry:RelV y u)(h:∀ s',Inv X pins σ H s'->Q (.bool (!o.isSome)) s'):wpAny (model X.prog X.w) A (compareOp .NotIn u (.ref a)) Q E s:=by
 rcases g with ⟨kvs,k,e,ey,l⟩|⟨kvs,k,b,e,ey,eb,l⟩
 ·subst ey;obtain ⟨z,hd,vs,rel,dd⟩:=xY I.hok e;refine wpAny_notIn_of (jR ry) hd dd.mapOf ?_;rw [<- (rel.val k).isSome_eq,<- l];exact h _ (I.tok _)
 ·subst ey;cases (show u=Value.ref b from ry);obtain ⟨z,hd,xs,rel,dd⟩:=vM I.hok e;refine wpAny_notIn_heap (tupleKind_room_in1 hu) (vW I.hok eb) hd dd ?_;have q:=(rel.val k).isSome_eq;rw [Option.isSome_map] at q;rw [<- q,<- l];exact h _ (I.tok _)
theorem Wd {ob:HO}(I:Inv X pins σ H s)(mu:Mut (H a))(hs:Heap.SameBut a s.heap h')(he:∃ q,h'.get? a=some q)(new:ObjOk X.prog X.w (j0 H a ob) h' a ob):Inv X pins σ (j0 H a ob) { s with heap:=h',toks:=t' } :=
 I.write (x:=a) (e:=a) mu (.inl rfl) (λb q hb z=>(hs.2 b hb).trans z) he new
theorem We {kvs:List (z7×V)}{vs:List (z7×Value)}(z:kvs.length<=sizeLine)(hd:(a==sysModules)=false)(rel:KV kvs vs)(dd:h'.DictOf (i4 P w) a vs):ObjOk P w H' h' a (.dK kvs):=⟨z,hd,vs,rel,dd⟩
theorem Kb {Q:Unit->Shared->Prop}(hu:A.units+1<cLine)(I:Inv X pins σ H s)(g:DPut H a y v H')(ry:RelV y u)(rv:RelV v r)(h:∀ s',Inv X pins σ H' s'->Q () s'):wpAny (model X.prog X.w) A (setItem (.ref a) u r) Q E s:=by
 rcases g with ⟨kvs,k,e,ey,l,eH⟩|⟨kvs,k,b,e,ey,eb,l,eH⟩
 ·subst ey eH;obtain ⟨z,hd,vs,rel,dd⟩:=dk_of I.hok e;have hz:vs.length<=sizeLine:=by rw [<- rel.length];exact z
  have hl:(xt kvs k v).length<=sizeLine:=by have:=WL kvs k v;omega
  refine wpAny_setItem_pairs (hsz:=hz) (jR ry) dd λh' dd' hs=>h _ ?_;have he:∃ q,h'.get? a=some q:=let ⟨q,_,_,hq,_⟩:=dd';⟨q,hq⟩
  exact Wd I (by rw [e];exact True.intro) hs he (We hl hd (rel.put k rv) dd')
 ·subst ey eH;cases (show u=Value.ref b from ry);obtain ⟨z,hd,xs,rel,dd⟩:=dt_of I.hok e;have hz:xs.length<=sizeLine:=by rw [<- Paired.length rel];exact z
  have hl:(xt kvs k v).length<=sizeLine:=by have:=WL kvs k v;omega
  refine wpAny_setItem_heap (hsz:=hz) (tupleKind_room_in1 hu) (vW I.hok eb) dd λh' dd' hs=>h _ ?_;obtain ⟨q,es,ep,hq,h2,h3,h4,_,h5⟩:=dd';refine Wd I (by rw [e];exact True.intro) hs ⟨q,hq⟩ ⟨hl,hd,_,(rel.put k eb rv).keeps λc ys ec=>?_,q,es,ep,hq,h2,h3,h4,h5⟩;rw [j3 (ne_of ec e (λz=>nomatch z))];exact ec
end
section
variable {X:Cx}{pins:List (Addr×Obj)}{σ:St}{H:Hp}{s:Shared}{a:Addr}{kvs:List (z7×V)}{k:z7}{u:Value}{A:Around}{E:Value->Shared->Prop}
theorem d_len (I:Inv X pins σ H s)(e:Rd H a (.dK kvs))(h:∀ t s',Inv X pins σ H s'->Q (.int kvs.length t) s'):wpAny (model X.prog X.w) A (call (.builtin "len") [.ref a]) Q E s:=by obtain ⟨z,hd,vs,rel,dd⟩:=xY I.hok e;refine call_len_dict hd dd (by rw [<- rel.length];rw [sizeLine_eq] at z;omega) ?_;rw [<- rel.length];exact h _ _ (I.tok _)
end
def NoSl (i:Expr):Prop:=∀ ov iv,subscripted i false ov iv=operate [ov,iv] (getItem ov iv)
theorem Mz {prog:Program}{E:Value->Shared->Prop}{env:Env}{value slice:Expr}{pos:Pos}{id:String}(hl:typeLookup (.type T) "__getitem__"=pure (some (.builtin id)))(hs:NoSl slice)(h:wpAny (model prog w) A (eval value env) (λo s₁=>wpAny (model prog w) A (eval slice env) (λi s₂=>s₂.TypeIs o T/\wpAny (model prog w) A (getItem o i) Q E s₂) E s₁) E s):wpAny (model prog w) A (eval (.Subscript value slice pos) env) Q E s:=by
 refine Subscript_ (wpAny_mono h (λo s₁ h₁=>wpAny_mono h₁ (λi s₂ h₂=>?_) λ_ _ x=>x) λ_ _ x=>x);obtain ⟨hT,h₂⟩:=h₂;unfold subscriptTail;refine yY ?_;rw [getitemInPython_of_ne hT.not_modules];refine yY (wpAny_specialOf hT hl ?_);have fin:wpAny (model prog w) A (subscripted slice false o i) (λr s₃=>wpAny (model prog w) A (letTemporaryGo value o r >>= λ_=>pure r) Q E s₃) E s₂:=by rw [hs o i];exact wpAny_operating (wpAny_mono h₂ (λr s₃ h₃=>yY (wpAny_letTemporaryGo (yP h₃))) λ_ _ x=>x)
 first
  |exact yP (yY fin)
  |exact yY (yP (yY fin))
  |exact yY fin
theorem Kc {X:Cx}(I:Inv X pins σ H s)(g:DGet H a y o):s.TypeIs (.ref a) "dict":=by
 rcases g with ⟨kvs,k,e,_,_⟩|⟨kvs,k,b,e,_,_,_⟩
 ·obtain ⟨_,_,vs,_,dd⟩:=xY I.hok e;exact dd.typeIs
 ·obtain ⟨_,_,xs,_,dd⟩:=vM I.hok e;exact dd.typeIs
def Ul (td ty:TE):TE:=λσ H Q=>td σ H λx H1=>ty σ H1 λy H2=>∃ a v,x = .ref a/\DGet H2 a y (some v)/\Q v H2
def tDIn (ty td:TE):TE:=λσ H Q=>ty σ H λy H1=>td σ H1 λx H2=>∃ a o,x = .ref a/\DGet H2 a y o/\Q (.bl o.isSome) H2
def Uo (ty td:TE):TE:=λσ H Q=>ty σ H λy H1=>td σ H1 λx H2=>∃ a o,x = .ref a/\DGet H2 a y o/\Q (.bl (!o.isSome)) H2
def YW (td ty tv:TE):TS:=λD σ H=>tv σ H λv H1=>td σ H1 λx H2=>ty σ H2 λy H3=>∃ a H4,x = .ref a/\DPut H3 a y v H4/\D.nx σ H4
section
variable {X:Cx}{o i e value:Expr}{pos pos' tpos:Pos}{td ty tv:TE}
theorem Yg (hu:X.A.units+1<cLine)(ho:PE X o td)(hi:PE X i ty)(hs:NoSl i):PE X (.Subscript o i pos) (Ul td ty):=by intro pins s σ H Q I h;refine Mz PySem.F.slot_dict_getitem.lookup hs (z8 (ho pins s σ H _ I h) λu s1 ⟨x,H1,I1,rx,q1⟩=>z8 (hi pins s1 σ H1 _ I1 q1) λiv s2 ⟨y,H2,I2,ry,a,v,ex,g,q2⟩=>?_);subst ex;obtain rfl:u=Value.ref a:=rx;exact ⟨Kc I2 g,GZ hu I2 g ry λw' s3 I3 rw'=>⟨v,H2,I3,rw',q2⟩⟩
theorem Yf (hu:X.A.units+1<cLine)(hi:PE X i ty)(ho:PE X o td):PC X .In i o (tDIn ty td):=by intro pins s σ H Q I h;refine z8 (hi pins s σ H _ I h) λiv s1 ⟨y,H1,I1,ry,q1⟩=>z8 (ho pins s1 σ H1 _ I1 q1) λu s2 ⟨x,H2,I2,rx,a,ov,ex,g,q2⟩=>?_;subst ex;obtain rfl:u=Value.ref a:=rx;exact d_in hu I2 g ry λs3 I3=>⟨.bl ov.isSome,H2,I3,rfl,q2⟩
theorem Cy (hu:X.A.units+1<cLine)(hi:PE X i ty)(ho:PE X o td):PC X .NotIn i o (Uo ty td):=by intro pins s σ H Q I h;refine z8 (hi pins s σ H _ I h) λiv s1 ⟨y,H1,I1,ry,q1⟩=>z8 (ho pins s1 σ H1 _ I1 q1) λu s2 ⟨x,H2,I2,rx,a,ov,ex,g,q2⟩=>?_;subst ex;obtain rfl:u=Value.ref a:=rx;exact Ka hu I2 g ry λs3 I3=>⟨.bl (!ov.isSome),H2,I3,rfl,q2⟩
theorem Yn (hu:X.A.units+1<cLine)(ho:PE X o td)(hi:PE X i ty)(hv:PE X value tv)(hs:swapsWith value (some (.Subscript o i pos')) pos.line X.env=pure false):PS X (.Assign [.Subscript o i pos'] value pos) (YW td ty tv):=by intro pins s σ H D I h;refine wpAny_Assign_Subscript (z8 (hv pins s σ H _ I h) λr s1 ⟨v,H1,I1,rv,q1⟩=>z8 (ho pins s1 σ H1 _ I1 q1) λu s2 ⟨x,H2,I2,rx,q2⟩=>z8 (hi pins s2 σ H2 _ I2 q2) λiv s3 ⟨y,H3,I3,ry,a,H4,ex,g,q3⟩=>?_) hs;subst ex;obtain rfl:u=Value.ref a:=rx;exact Kb hu I3 g ry rv λs4 I4=>⟨σ,H4,I4,q3⟩
end
theorem Ke (h:Heap)(hb:sysModules<h.objs.size):ObjOk P w H (h.push { cls:= .type "dict",data:= .dict #[] }) h.objs.size (.dK []) :=
 ⟨yk _,beq_eq_false_iff_ne.mpr (Ne.symm (yQ hb)),[],.nil,Heap.DictOf.new h⟩
def Um:TE:=λ_ H Q=>∀ p,H p=none->Q (.ref p) (j0 H p (.dK []))
section
variable {X:Cx}{pos:Pos}
theorem Yh:PE X (.Dict [] [] pos) Um:=λpins s σ H Q I h =>
 wpAny_Dict_empty ⟨.ref s.heap.objs.size,_,I.laid (a:=s.heap.objs.size) (o:= .dK []) (t':=s.toks) (λ_ _ q=>yX _ q) (yU _) (Ke s.heap I.big),rfl,h _ (I.hok.fresh (yU _))⟩
end
end L2
namespace Att
open PySem PySem.W PySem.Calls PyProof.Rows
variable{P:Params}{h:Heap}{l:OpenLaw}{n:Nat}
theorem KZ :∀(ns:List Int)(vs:List Value),WellAll P h vs (ns.map WData.int)->IntsAre vs ns:=by
 intro ns
 induction ns with
 |nil=>intro vs w;rw [List.map_nil] at w;cases w;exact .nil
 |cons n ns ih =>
  intro vs w;rw [yN] at w;cases w with
  |cons a b=>cases a;exact .cons _ _ (ih _ b)
theorem Mn (hn:l.most=some n){args:List WData}{vals:List Value}(hpre:l.row.toRowW.claim.pre args=true)(hwl:WellAll P h vals args):∃ a vs ns,vals=[Value.ref a]/\args=[WData.list (ns.map WData.int)]/\h.get? a=some { cls:= .type "list",data:= .seq vs.toArray }/\IntsAre vs ns/\ns.length<=n:=by
 have hsh:WShape.hasAll [] args [.list .int]=true:=(pre_splitW hpre).1;have hc:l.pre.holds [] { args:=args }=true:=(pre_splitW hpre).2;obtain ⟨d,r,rfl,h1,h2⟩:=hasAllW_cons hsh;obtain rfl:=hasAllW_nil h2;obtain ⟨xs,rfl,h3⟩:=hasW_list h1;obtain ⟨ns,rfl⟩:=items_int h3;have hlen:ns.length<=n:=by
  unfold OpenLaw.pre at hc;have h4:(WTm.not (.lt (.lit (.int (n:Int))) (.len (.arg 0)))).holds [] { args:=[.list (ns.map .int)] }=true:=by have h4:=(holds_andW hc).1;rw [hn] at h4;exact h4
  have h5:=condW_of h4 (w_not (w_lt w_lit (w_len_list (w_arg rfl))));rw [yZ] at h5;refine Nat.le_of_not_lt λq=>?_;have q':(n:Int)<((ns.length:Nat):Int):=by omega
  first
   |(rw [yj q'] at h5;exact absurd h5 (by decide))
   |(simp at h5;omega)
 cases hwl with
 |cons w1 w2 =>
  cases w2;cases w1 with
  |list ho hall=>exact ⟨_,_,ns,rfl,rfl,ho,KZ ns _ hall,hlen⟩
theorem Da (l:OpenLaw)(args:List WData):l.row.toRowW.claim.post args (.bool true) args=true :=
 postW_of (r:=l.row.toRowW) (X:=(true==true))
  (show WShape.has [] (.bool true) .bool=true by first|rfl|decide|simp [WShape.has,WShape.arms,WShape.armsAll])
  (show (WTm.eq .res (.lit (.bool true))).value [] { args:=args,res:=some (.bool true),after:=args }=some (.bool (true==true)) from w_eq_bool (w_res rfl) w_lit) rfl
theorem attach_call {q:Program}{loose:List Str}{XP:(Str->Option Value)->Heap->Prop}{YP:World->Heap->Prop}{d:DefRec}(hn:l.most=some n)(hdf:d.params.defaults=[])(call:∀ (w:World) (s₀ s₁:Shared) (mg mb:Str->Option Value) (fa:Addr) (o:Obj) (pm cd doc:Value) (a:Addr) (vs:List Value) (ns:List Int), Ground q loose [] XP w s₀ mg mb s₁.heap->YP w s₁.heap -> s₁.heap.get? fa=some o->o.data = .func (docDef d.name d.params d.body d.scope pm cd doc)->s₁.heap.CodeRec cd d.name->mg d.name=some (.ref fa) -> s₁.heap.get? a=some { cls:= .type "list",data:= .seq vs.toArray }->IntsAre vs ns->ns.length<=n->s₁.gens=#[] -> codeAny (model l.prog w) callerA (.call (.ref fa) ⟨[.ref a],[]⟩) (λr s'=>r = .ok (.ret (.bool true))/\OldK s₁.heap s'.heap/\s'.os=s₁.os/\AllBare s'.gens) s₁):WalkO q loose XP YP l.row.toRowW d [] (λf vs=>PySem.call f vs):=by intro w s₀ s₁ mg mb G Y fa o pm cd doc dV kV ho hd hcd hD hmg hg args vals as hpre hlay hrd hwl hlo;obtain rfl:dV = .none:=Dflts.none hD hdf;obtain rfl:kV = .none:=Dflts.noKw hD;obtain ⟨a,vs,ns,rfl,rfl,hobj,hints,hlen⟩:=Mn hn hpre hwl;refine enter_call (codeAny_mono (call w s₀ s₁ mg mb fa o pm cd doc a vs ns G Y ho (fd_plain hd) hcd hmg hobj hints hlen hg) λr s' hq=>?_);obtain ⟨rfl,h2,h3,h4⟩:=hq;exact ⟨.inl ⟨.bool true,.bool true,[],rfl,λ_=>rfl,.bool true,Da l _,λ_=>⟨List.Pairwise.nil,λ_ hm=>(nomatch hm)⟩⟩,h2,h3,h4⟩
end Att
namespace L2
open PySem PySem.Spec PyProof.Rows
variable{K:Fg}{a f:Addr}{fd:FuncData}{qual x:Str}{sp:Sp}{n:Nat}{st:Stmt}{ps:List Str}{A B:Prop}{H H':Hp}
theorem UF:∀{vs:List Value}{ns:List Int},IntsAre vs ns->Vals (ns.map V.int) vs
 |_,_,.nil=> .nil
 |_,_,.cons n t h=> .cons ⟨t,rfl⟩ (UF h)
def Only (H:Hp):Prop:=∀ b,H b=none∨(∃ o xs,H b=some (.frz o (.lst xs)))∨∃ p∈TABS,p.1=b/\H b=some (.tbl p.2.1 p.2.2)
structure jI (K:Fg)(h:Heap):Prop where
 at_:∀ p∈TABS,h.get? p.1=some { cls:= .none,data:= .fields p.2.1 }
 tri:∀ p∈TABS,TriplesOk p.2.1.toList
 non:∀ p∈TABS,∀ q∈p.2.2,codeAmong q.1 p.2.1.toList=none
 tab:∀ p∈TABS,isCodeTable h p.1
 one:∀ p∈TABS,∀ q∈TABS,p.1=q.1->p=q
 out:∀ p∈TABS,K.lookup p.1=none
def xw:Hp:=λb=>(TABS.find? λp=>p.1==b).map λp=> .tbl p.2.1 p.2.2
theorem QW {b:Addr}{u:HO}(h:xw b=some u):∃ p∈TABS,p.1=b/\u = .tbl p.2.1 p.2.2:=by unfold xw at h;obtain ⟨p,e,r⟩:=yG.mp h;exact ⟨p,List.mem_of_find?_eq_some e,by have:=List.find?_some e;simpa using this,r.symm⟩
theorem Ux {h:Heap}(T:jI K h){p:Addr×Array Value×List (Pos×Str)}(hp:p∈TABS):xw p.1=some (.tbl p.2.1 p.2.2):=by
 unfold xw;cases e:TABS.find? λq=>q.1==p.1 with
 |none=>exact absurd (List.find?_eq_none.mp e p hp) (by simp)
 |some q =>
  have e1:q.1=p.1:=by have:=List.find?_some e;simpa using this
  rw [T.one q (List.mem_of_find?_eq_some e) p hp e1];rfl
theorem Bx {P:Program}{w:World}{mg mb:Str->Option Value}{CX:CXT}{k:Nat}{fa:Addr}{s₁:Shared}{vs:List Value}{ns:List Int}(KX:K.In s₁.heap)(T:jI K s₁.heap)(hns:s₁.heap.Ns mainGlobals mg)(hb:s₁.heap.Ns builtinsNs mb)(hbb:∀ x:Str,x ≠ "__name__"->mb x=bootBuiltins x)(hlim:s₁.heap.NoLimit)(hbm:∃ bm ob,mg "__builtins__"=some (.ref bm)/\bm≠builtinsNs/\s₁.heap.get? bm=some ob/\ob.cls = .type "module"/\ob.dict=some builtinsNs/\ob.data = .plain)(hg:s₁.gens=#[])(ha:s₁.heap.get? a=some { cls:= .type "list",data:= .seq vs.toArray })(hi:IntsAre vs ns)(hl:ns.length<=sizeLine)(hr:Room k callerA)(F:∀ base:Heap,K.In base->base.Ns mainGlobals mg->FnOk P w K mg base CX k fa fd [x] sp)(hbind:∀ (s:Shared) (u:Value),BindsTo s fd ⟨[u],[]⟩ [(x,u)])(hsp:∀ H:Hp,Only H->SqL K H a (ns.map V.int)->sp [.ref a] H (λv _=>v = .bl true) λ_ _ _=>False)(hCX:∀ H e s',CX [] H s₁ (λ_ _ _=>False) e s'->False):codeAny (model P w) callerA (.call (.ref fa) ⟨[.ref a],[]⟩) (λr s'=>r = .ok (.ret (.bool true))/\OldK s₁.heap s'.heap/\s'.os=s₁.os/\AllBare s'.gens) s₁:=by
 have rv:=UF hi;have lenV:=hi.length;have naT:∀ p∈TABS,p.1≠a:=λp hp z=>by
  have e:=T.at_ p hp;rw [z,ha] at e;cases e
 have core:∀ H:Hp,Only H->SqL K H a (ns.map V.int)->HOk P w H s₁.heap->(∀ b,H b≠none->b=a∨∃ p∈TABS,p.1=b)->(∀ b,H b≠none->K.lookup b=none)->(∀ p∈TABS,H p.1=some (.tbl p.2.1 p.2.2)) ->
   codeAny (model P w) callerA (.call (.ref fa) ⟨[.ref a],[]⟩) (λr s'=>r = .ok (.ret (.bool true))/\OldK s₁.heap s'.heap/\s'.os=s₁.os/\AllBare s'.gens) s₁:=by
  intro H hO hS hok hA hK hT;have base_of:∀{b:Addr}{o:Obj},s₁.heap.get? b=some o->H b=none->(xZ s₁.heap H).get? b=some o:=λe n=>KI e n;have noA:∀{b:Addr}{o:Obj}{es:Array DictEntry}{ep:Nat},s₁.heap.get? b=some o->o.data = .dict es ep->H b=none:=λ{b o es ep} e d=>by
   cases q:H b with
   |none=>rfl
   |some u =>
    rcases hA b (by rw [q];simp) with e'|⟨p,hp,e'⟩
    ·subst e';rw [ha] at e;cases e;have d':Data.seq vs.toArray _=Data.dict es ep:=d;cases d'
    ·subst e';rw [T.at_ p hp] at e;cases e;have d':Data.fields p.2.1=Data.dict es ep:=d;cases d'
  have nsK:∀{b:Addr}{m:Str->Option Value},s₁.heap.Ns b m->(xZ s₁.heap H).Ns b m:=λ{b m} ⟨o,es,ep,e,d,r⟩=>⟨o,es,ep,base_of e (noA e d),d,r⟩;have hKb:K.In (xZ s₁.heap H):=λb o e=>base_of (KX b o e) (by
   cases q:H b with
   |none=>rfl
   |some u=>rw [hK b (by rw [q];simp)] at e;cases e)
  have noP:∀{b:Addr}{o:Obj},s₁.heap.get? b=some o->o.data = .plain->H b=none:=λ{b o} e d=>by
   cases q:H b with
   |none=>rfl
   |some u =>
    rcases hA b (by rw [q];simp) with e'|⟨p,hp,e'⟩
    ·subst e';rw [ha] at e;cases e;have d':Data.seq vs.toArray _=Data.plain:=d;cases d'
    ·subst e';rw [T.at_ p hp] at e;cases e;have d':Data.fields p.2.1=Data.plain:=d;cases d'
  have hM:Mod K mg (xZ s₁.heap H):=⟨hKb,nsK hns,⟨mb,nsK hb,hbb⟩,let ⟨mc,h1,h2⟩:=hlim;⟨mc,nsK h1,h2⟩,let ⟨bm,ob,b1,b2,b3,b4,b5,b6⟩:=hbm;⟨bm,ob,b1,b2,base_of b3 (noP b3 b6),b4,b5,b6⟩⟩;have e0:Env0 P w K mg (xZ s₁.heap H) callerA [] s₁ H:=⟨rfl,hM,λb o e=>BY e,Nat.le_of_eq (KJ _ _),trivial,λb hb=>absurd (show b∈([]:List Addr) from hb) (by simp),hok,.of_eq hg,hT⟩;refine codeAny_mono ((F _ hKb (nsK hns)).run callerA [] s₁ H ⟨[.ref a],[]⟩ [.ref a] [.ref a] _ _ hr e0 (hbind s₁ (.ref a)) (.cons rfl .nil) (hsp H hO hS)) λr s' h=>?_;cases r with
  |error e=>exact (hCX H e s' h).elim
  |ok fl =>
   cases fl with
   |next=>exact False.elim h
   |brk=>exact False.elim h
   |cont=>exact False.elim h
   |ret u =>
    obtain ⟨v,H',os,bare,un,hok',r',q⟩:=h;have q':v = .bl true:=q;subst q';obtain rfl:u=Value.bool true:=r';refine ⟨rfl,⟨λb o e=>?_,λb o e=>un.there b o e (by simp)⟩,os,bare⟩;rcases hO b with z|⟨ob,xs,z⟩|⟨p,hp,rfl,z⟩
    ·exact .inl (un.keep b o e z (by intro z;exact absurd (show b∈([]:List Addr) from z) (by simp)) (by simp))
    ·have z2:=un.frzs b ob _ z;obtain ⟨e1,_⟩:=hok b _ z;obtain ⟨e2,_⟩:=hok' b _ z2;rw [e] at e1;cases e1;exact .inl e2
    ·have z2:=un.tbls p.1 _ _ z;obtain ⟨more,e2,_⟩:=hok' p.1 _ z2;rw [T.at_ p hp] at e;cases e;exact .inr (.inl ⟨T.tab p hp,rfl,p.2.1,more,rfl,e2⟩)
 have tok:∀{H:Hp}{p:Addr×Array Value×List (Pos×Str)},p∈TABS->ObjOk P w H s₁.heap p.1 (.tbl p.2.1 p.2.2):=λ{H p} hp =>
  ⟨#[],by rw [Array.append_empty];exact T.at_ p hp,by rw [Array.append_empty];exact T.tri p hp,λq hq=> .inl (by rw [Array.append_empty];exact T.non p hp q hq)⟩
 have only:∀ b,xw b=none∨(∃ o xs,xw b=some (.frz o (.lst xs)))∨∃ p∈TABS,p.1=b/\xw b=some (.tbl p.2.1 p.2.2):=λb=>by
  cases q:xw b with
  |none=>exact .inl rfl
  |some u=>obtain ⟨p,hp,e1,rfl⟩:=QW q;exact .inr (.inr ⟨p,hp,e1,rfl⟩)
 have mine:∀ b,xw b≠none->∃ p∈TABS,p.1=b:=λb z=>by
  cases q:xw b with
  |none=>exact absurd q z
  |some u=>obtain ⟨p,hp,e1,_⟩:=QW q;exact ⟨p,hp,e1⟩
 cases hk:K.lookup a with
 |some o =>
  have e:=KX a o hk;rw [ha] at e;cases e;refine core xw only (.inr ⟨_,vs.toArray,_,hk,rfl,rfl,rfl,by rw [yW,lenV];exact hl,by simpa using rv⟩) (λb u z=>?_) (λb z=> .inr (mine b z)) (λb z=>?_) λp hp=>Ux T hp
  ·obtain ⟨p,hp,rfl,rfl⟩:=QW z;exact tok hp
  ·obtain ⟨p,hp,rfl⟩:=mine b z;exact T.out p hp
 |none =>
  refine core (λb=>if b=a then some (.frz { cls:= .type "list",data:= .seq vs.toArray } (.lst (ns.map V.int))) else xw b) (λb=>?_) (.inl (.inr ⟨{ cls:= .type "list",data:= .seq vs.toArray },if_pos rfl⟩)) (λb u z=>?_) (λb z=>?_) (λb z=>?_) λp hp=>?_
  ·by_cases hb:b=a
   ·exact .inr (.inl ⟨_,_,if_pos hb⟩)
   ·rcases only b with z|⟨o,xs,z⟩|⟨p,hp,e1,z⟩
    ·exact .inl ((if_neg hb).trans z)
    ·exact .inr (.inl ⟨o,xs,(if_neg hb).trans z⟩)
    ·exact .inr (.inr ⟨p,hp,e1,(if_neg hb).trans z⟩)
  ·by_cases hb:b=a
   ·have z':=(if_pos hb).symm.trans z;cases z';subst hb;exact ⟨ha,by rw [yZ];exact hl,vs,_,rv,ha⟩
   ·have z':=(if_neg hb).symm.trans z;obtain ⟨p,hp,rfl,rfl⟩:=QW z';exact tok hp
  ·by_cases hb:b=a
   ·exact .inl hb
   ·exact .inr (mine b λq=>z ((if_neg hb).trans q))
  ·by_cases hb:b=a
   ·rw [hb];exact hk
   ·obtain ⟨p,hp,rfl⟩:=mine b λq=>z ((if_neg hb).trans q);exact T.out p hp
  ·exact (if_neg (naT p hp)).trans (Ux T hp)
theorem LE {l:PySem.W.OpenLaw}{k:Nat}{q:Program}{loose:List Str}{XP:(Str->Option Value)->Heap->Prop}{YP:World->Heap->Prop}{d:DefRec}{K:Params->Fg}{CX:World->CXT}{sp:World->Sp}(hn:l.most=some n)(hn2:n<=sizeLine)(hdf:d.params.defaults=[])(hr:Room k callerA)(hY:∀(w:World)(h:Heap),YP w h->(K w.params).In h)(F:∀(w:World)(mg:Str->Option Value)(fa:Addr)(h:Heap),YP w h->(K w.params).In h->h.Ns mainGlobals mg->mg d.name=some (.ref fa) -> ∃ fd:FuncData,(∀(s:Shared)(u:Value),BindsTo s fd ⟨[u],[]⟩ [(x,u)])/\jI (K w.params) h /\ ∀ base:Heap,(K w.params).In base->base.Ns mainGlobals mg->FnOk l.prog w (K w.params) mg base (CX w) k fa fd [x] (sp w))(hsp:∀(w:World)(H:Hp)(a:Addr)(ns:List Int),ns.length<=n->Only H->SqL (K w.params) H a (ns.map V.int)->sp w [.ref a] H (λv _=>v = .bl true) λ_ _ _=>False)(hCX:∀(w:World)(H:Hp)(s:Shared)(e:Value)(s':Shared),CX w [] H s (λ_ _ _=>False) e s'->False):PySem.W.WalkO q loose XP YP l.row.toRowW d [] (λf vs=>PySem.call f vs):=by refine Att.attach_call hn hdf λw s₀ s₁ mg mb fa o pm cd doc a vs ns G Y ho hd hcd hmg hobj hints hlen hg=>?_;have KX:=hY w _ Y;obtain ⟨fd,hb,hT,hF⟩:=F w mg fa _ Y KX G.T.g hmg;exact Bx KX hT G.T.g G.T.b G.T.builtins G.T.nolimit G.T.bmain hg hobj hints (yd hlen hn2) hr hF hb (λH hO hS=>hsp w H a ns hlen hO hS) λH e s'=>hCX w H s₁ e s'
def jf (s:Stmt)(j:Nat):Stmt:=match s with
 | .ClassDef _ _ _ body _ _ _ _ _ _ _=>body.getD j (.Pass ⟨0,0,0,0⟩)
 |_=> .Pass ⟨0,0,0,0⟩
def qT (s:Stmt):Arguments:=match s with
 | .FunctionDef _ a _ _ _ _ _ _ _ _=>a
 |_=>{ posonlyargs:=[],args:=[],vararg:=none,kwonlyargs:=[],kw_defaults:=[],kwarg:=none,defaults:=[] }
def f6 (s:Stmt):List Stmt:=match s with
 | .FunctionDef _ _ b _ _ _ _ _ _ _=>b
 |_=>[]
def j6 (s:Stmt):Scope:=match s with
 | .FunctionDef _ _ _ _ _ _ sc _ _ _=>sc
 |_=>{ kind:= .function,names:=[],isGenerator:=false,isCoroutine:=false }
abbrev j8:CXT:=λ_ _ _ _ _ _=>False
abbrev E0:XK:=λ_ _ _=>False
theorem QL {X:Cx}:zT j8 X E0:=λ_ _ _ _ _ _ _ h=>h.elim
structure Fun (K:Fg)(x qual:Str)(st:Stmt)(f:Addr)(fd:FuncData):Prop where
 ex:∃(oc:Value)(od:Option Addr)(kV doc pm:Value)(an:Option Addr)(cdv ct:Value)(osl:Array (Option Value)),
  fd=PySem.W.fnOf x qual (qT st) (f6 st) (j6 st) .none kV doc pm an cdv ct/\K.lookup f=some ⟨oc,od,.func fd,osl⟩/\PySem.W.codeIn K cdv qual=true
 kp:PySem.W.keepIn K (.ref f)=true
section
variable {P:Program}{w:World}{K:Fg}{mg:Str->Option Value}{base:Heap}
theorem Fun.ok {N:List Str}{k:Nat}(F:Fun K x qual st f fd)(S:v9 N ps (j6 st))(len:∀ vs H Q E,sp vs H Q E->vs.length=ps.length)(hbody:∀(cdv:Value)(A:Around)(outer:List Env)(s:Shared)(H:Hp)(vs:List V)(Q:VK)(E:XK),Room k (A.deeper (envOfC qual (j6 st) s.heap.objs.size f cdv))->sp vs H Q E -> ∃ t,PSs (qN j8 P w K mg base N qual (j6 st) f cdv A outer s H E).nox (f6 st) t/\t { nx:=λ_ H'=>Q .non H',rt:=Q } (start N vs) H):FnOk P w K mg base j8 (k+1) f fd ps sp:=by obtain ⟨oc,od,kV,doc,pm,an,cdv,ct,osl,rfl,lk,hcd⟩:=F.ex;refine Wr lk hcd S len λA outer s H vs Q E hr hsp=>?_;obtain ⟨t,h,q⟩:=hbody cdv A outer s H vs Q E hr hsp;exact ⟨t,h.nox,q⟩
theorem Fun.binds (F:Fun K x qual st f fd)(h:∀(kV doc pm:Value)(an:Option Addr)(cdv ct:Value)(us:List Value),us.length=ps.length->bindArgs (PySem.W.fnOf x qual (qT st) (f6 st) (j6 st) .none kV doc pm an cdv ct) ⟨us,[]⟩=pure (ps.zip us)):Binds K fd ps []:=by obtain ⟨oc,od,kV,doc,pm,an,cdv,ct,osl,rfl,lk,hcd⟩:=F.ex;exact .all (h kV doc pm an cdv ct)
theorem vT {oc:Value}{od an:Option Addr}{osl:Array (Option Value)}{kV doc pm cdv ct:Value}(l:K.lookup f=some ⟨oc,od,.func (PySem.W.fnOf x qual (qT st) (f6 st) (j6 st) .none kV doc pm an cdv ct),osl⟩)(c:PySem.W.codeIn K cdv qual=true)(k:PySem.W.keepIn K (.ref f)=true):Fun K x qual st f (PySem.W.fnOf x qual (qT st) (f6 st) (j6 st) .none kV doc pm an cdv ct):=⟨⟨oc,od,kV,doc,pm,an,cdv,ct,osl,rfl,l,c⟩,k⟩
end
theorem je {A:Around}{k:Nat}(hr:Room k A):A.units+1<cLine:=Nat.lt_of_le_of_lt (Nat.add_le_add_left (by decide:1<=64) _) hr.units
theorem zN (h:n<=1000):n<sizeLine:=Nat.lt_of_le_of_lt h (by decide)
section
variable {X:Cx}
theorem pv (i:Nat){pos:Pos}(hN:X.N[i]?=some x:=by rfl)(hv:Vis X.env.scope x:=by first|exact Or.inl rfl|exact Or.inr (Or.inl rfl)|exact Or.inr (Or.inr rfl))(hd:(x==("__debug__":Str))=false:=by decide)(hcd:(x==("__classdict__":Str))=false:=by decide):PE X (.Name x pos) (c6 i):=CM hN hv hd hcd
theorem GC:CallR X (.builtin "len") (λxs H Q=>∃ a kvs,xs=[V.ref a]/\H a=some (.dK kvs)/\Q (.int kvs.length) H):=by intro pins s σ H xs us Q I r h;obtain ⟨a,kvs,rfl,ha,q⟩:=h;obtain ⟨u,rfl,ru⟩:=xc r;cases ru;exact d_len I (.inl ha) λt s' I'=>⟨.int kvs.length,H,I',⟨t,rfl⟩,q⟩
end
theorem xn (h:B):if false=true then A else B:=by rw [if_neg yS];exact h
theorem xo (h:A):if true=true then A else B:=by rw [if_pos rfl];exact h
theorem ite2 {c:Prop}[Decidable c](h1:c->A)(h2:¬ c->B):if c then A else B:=by
 by_cases h:c
 ·rw [if_pos h];exact h1 h
 ·rw [if_neg h];exact h2 h
def Same (H H':Hp):Prop:=∀ b o,H b=some o->H' b=some o
theorem Same.refl (H:Hp):Same H H:=λ_ _ h=>h
theorem Same.trans {H1 H2:Hp}(a:Same H H1)(b:Same H1 H2):Same H H2:=λc o h=>b c o (a c o h)
theorem Same.free (e:Same H H'){l:Addr}(h:H' l=Option.none):H l=Option.none:=by
 cases q:H l with
 |none=>rfl
 |some o=>rw [e l o q] at h;cases h
theorem Same.seq {xs:List V}(e:Same H H')(h:SqL K H a xs):SqL K H' a xs:=by
 rcases h with (h|⟨o,h⟩)|h
 ·exact .inl (.inl (e _ _ h))
 ·exact .inl (.inr ⟨o,e _ _ h⟩)
 ·exact .inr h
end L2
set_option maxHeartbeats 4000000
set_option synthInstance.maxHeartbeats 4000000
set_option synthInstance.maxSize 4096
namespace L2
open PySem PySem.Spec PyProof.Rows
variable{c elt iter tg:Expr}{ifs:List Expr}{scope:Scope}{pos:Pos}{env:Env}{X:Cx}{o:Option V}{σ:St}{g:TG}{tt:TT}{te:TE}{wi:TI}{K:Fg}{lo:Int}{n:Nat}
section
variable {prog:Program}{w:World}{A:Around}{R:Result->Shared->Prop}{s:Shared}
theorem GR {target:Expr}{it acc:Value}(I:Nat->Shared->Prop)
  (turn:∀ n s,I n s->wpAny (model prog w) A (pyNext it) (λr s₁=>match r with
   |none=>R (.ok .next) s₁
   |some v=>wpAny (model prog w) A (letOwnedTupleGo target it v) (λ_ s₀=>wpAny (model prog w) A (assign target env v) (λ_ s₂ =>
     wpAny (model prog w) A (forIn ifs true λc r=>if r=true then do let ok <- isTrue c env (eval c env);pure (ForInStep.yield ok) else pure (ForInStep.yield r)) (λok s₃ =>
      if ok=true then wpAny (model prog w) A (eval elt env) (λx s₄ =>
       wpAny (model prog w) A (call (.builtin "list.append") [acc,x]) (λ_ s₅=>∃ m,m<n/\I m s₅) (λ_ _=>False) s₄) (λ_ _=>False) s₃
      else ∃ m,m<n/\I m s₃) (λ_ _=>False) s₂) (λ_ _=>False) s₀) (λ_ _=>False) s₁) (λ_ _=>False) s)
  (n:Nat) (h:I n s) :
  codeAny (model prog w) A (.compLoop (.ListComp elt [⟨target,iter,ifs,0⟩] scope pos) 0 it acc env) R s:=by
 refine codeAny_loop rfl I (λn s hI=>?_) n h;show wpAny _ A ((compTurn (.ListComp elt [⟨target,iter,ifs,0⟩] scope pos) 0 it acc env).onRaise (λx=>do noteFrame x env;theTreesLotGoes x)) _ _ s;refine wpAny_noted (wpAny_noRaise ?_);rw [compTurn_list];refine yY (wpAny_standAt (yY (z8 (turn n s hI) λr s₁ h₁=>?_)));cases r with
 |none=>exact yP h₁
 |some v =>
  refine yY (z8 h₁ λ_ s₀ h₀=>?_);refine yY (z8 h₀ λ_ s₂ h₂=>yY (z8 h₂ λok s₃ h₃=>?_));cases ok with
  |false=>exact yP ⟨rfl,h₃⟩
  |true=>exact yY (yY (z8 h₃ λx s₄ h₄=>yY (z8 h₄ λ_ s₅ h₅=>yP (yP ⟨rfl,h₅⟩))))
end
theorem Ws {α β:Type}{f:α->β->Sem (ForInStep β)}(g:α->β->β):∀(l:List α)(b:β),(∀ a∈l,∀ b,f a b=pure (.yield (g a b)))->forIn l b f=(pure (l.foldl (λb a=>g a b) b):Sem β)
 |[],_,_=>rfl
 |x::l,b,h=>by
  rw [List.forIn_cons,h x yH,pure_bind];exact Ws g l (g x b) λy hy=>h y (yK _ hy)
def xW (env:Env)(y:Str×NameKind)(cs:List (Str×Addr)):List (Str×Addr):=if y.2 == .free then (y.1,(env.cells.lookup y.1).getD 0)::cs else cs
theorem VS (env:Env):∀(l:List (Str×NameKind))(cs:List (Str×Addr)),(∀ y∈l,y.2 = .free->∃ c,env.cells.lookup y.1=some c)->(∀ x c,cs.lookup x=some c->env.cells.lookup x=some c) -> (∀ x c,(l.foldl (λb a=>xW env a b) cs).lookup x=some c->env.cells.lookup x=some c)
 |[],_,_,h=>h
 |(n,k)::l,cs,hl,h=>by
  refine VS env l _ (λy hy=>hl y (yK _ hy)) λx c e=>?_;unfold xW at e
  dsimp only at e
  cases hk:(k==NameKind.free) with
  |false=>rw [hk,if_neg yS] at e;exact h x c e
  |true =>
   rw [hk,if_pos rfl] at e;obtain ⟨c0,e0⟩:=hl (n,k) yH (by simpa using hk);cases hx:x==n with
   |true =>
    rw [uX,hx] at e;have hx':x=n:=by simpa using hx
    subst hx';have e':(List.lookup x env.cells).getD 0=c:=Option.some.inj e;have e0':List.lookup x env.cells=some c0:=e0;rw [e0'] at e';rw [e0',<- e'];rfl
   |false=>rw [uX,hx] at e;exact h x c e
theorem VT (env:Env)(x:Str):∀(l:List (Str×NameKind))(cs:List (Str×Addr)),(∃ c,cs.lookup x=some c)->∃ c,(l.foldl (λb a=>xW env a b) cs).lookup x=some c
 |[],_,h=>h
 |(n,k)::l,cs,h=>by
  refine VT env x l _ ?_;unfold xW
  dsimp only
  split
  ·rw [uX];cases hx:x==n with
   |true=>exact ⟨_,rfl⟩
   |false=>exact h
  ·exact h
theorem VR (env:Env):∀(l:List (Str×NameKind))(cs:List (Str×Addr)),∀ y∈l,y.2 = .free->∃ c,(l.foldl (λb a=>xW env a b) cs).lookup y.1=some c
 |[],_,_,h,_=>nomatch h
 |z::l,cs,y,h,hf=>by
  rcases yL.mp h with e|h
  ·subst e;refine VT env y.1 l _ ?_;unfold xW
   dsimp only
   rw [hf,if_pos (by rfl),uX,beq_self_eq_true];exact ⟨_,rfl⟩
  ·exact VR env l _ y h hf
theorem VU (h:∀ y∈scope.names,y.2 = .free->∃ c,env.cells.lookup y.1=some c):∃ cl,closureFor scope env=pure cl/\(∀ x c,cl.lookup x=some c->env.cells.lookup x=some c)/\∀ y∈scope.names,y.2 = .free->∃ c,cl.lookup y.1=some c:=by
 refine ⟨scope.names.foldl (λb a=>xW env a b) [],?_,VS env _ _ h (λx c e=>by cases e),VR env _ _⟩;simp only [closureFor];rw [Ws (xW env) scope.names [] (λy hy b=>?_)]
 ·rfl
 ·obtain ⟨n,k⟩:=y;unfold xW;cases hk:(k==NameKind.free) with
  |false=>simp only [hk,uY,if_false]<;>rfl
  |true=>obtain ⟨c,e⟩:=h (n,k) hy (by simpa using hk);have e':List.lookup n env.cells=some c:=e;simp only [hk,if_true,cellOf,e'];rfl
theorem YL (env:Env)(n:Str)(k:NameKind)(r:List (Str×NameKind))(x:Str):((List.map (λ(n,k)=>if (k==NameKind.free&&env.scope.kind == .function&&env.kindOf n==some .cell) then (n,NameKind.cell) else (n,k)) ((n,k)::r)).lookup x) = (if x==n then some (if (k==NameKind.free&&env.scope.kind == .function&&env.kindOf n==some .cell) then NameKind.cell else k) else (List.map (λ(n,k)=>if (k==NameKind.free&&env.scope.kind == .function&&env.kindOf n==some .cell) then (n,NameKind.cell) else (n,k)) r).lookup x):=by
 rw [yN];show List.lookup x ((if (k==NameKind.free&&env.scope.kind == .function&&env.kindOf n==some .cell)=true then (n,NameKind.cell) else (n,k))::_)=_;by_cases hc:(k==NameKind.free&&env.scope.kind == .function&&env.kindOf n==some .cell)=true
 ·rw [if_pos hc,if_pos hc,uX];cases x==n<;>rfl
 ·rw [if_neg hc,if_neg hc,uX];cases x==n<;>rfl
theorem YN {env:Env}{x:Str}{k:NameKind}:∀{names:List (Str×NameKind)}, (names.map λ(n,k)=>if (k==NameKind.free&&env.scope.kind == .function&&env.kindOf n==some .cell) then (n,NameKind.cell) else (n,k)).lookup x=some k -> ∃ k',names.lookup x=some k'/\(k'=k∨(k' = .free/\k = .cell))
 |[],h=>by simp at h
 |(n,q)::r,h=>by
  rw [YL] at h;rw [uX];cases hx:x==n with
  |true =>
   rw [hx,if_pos rfl] at h;have h':=Option.some.inj h;refine ⟨q,rfl,?_⟩;by_cases hc:(q==NameKind.free&&env.scope.kind == .function&&env.kindOf n==some .cell)=true
   ·rw [if_pos hc] at h';have hq:(q==NameKind.free)=true:=by
     cases z:(q==NameKind.free) with
     |true=>rfl
     |false=>rw [z] at hc;simp at hc
    exact .inr ⟨by simpa using hq,h'.symm⟩
   ·rw [if_neg hc] at h';exact .inl h'
  |false=>rw [hx,if_neg yS] at h;exact YN h
theorem YM {env:Env}{x:Str}:∀{names:List (Str×NameKind)},names.lookup x=some .free -> (names.map λ(n,k)=>if (k==NameKind.free&&env.scope.kind == .function&&env.kindOf n==some .cell) then (n,NameKind.cell) else (n,k)).lookup x=some .cell∨(names.map λ(n,k)=>if (k==NameKind.free&&env.scope.kind == .function&&env.kindOf n==some .cell) then (n,NameKind.cell) else (n,k)).lookup x=some .free
 |[],h=>by simp at h
 |(n,q)::r,h=>by
  rw [YL];rw [uX] at h;cases hx:x==n with
  |true =>
   rw [hx] at h;have h':q = .free:=Option.some.inj h;rw [if_pos rfl];by_cases hc:(q==NameKind.free&&env.scope.kind == .function&&env.kindOf n==some .cell)=true
   ·rw [if_pos hc];exact .inl rfl
   ·rw [if_neg hc,h'];exact .inr rfl
  |false=>rw [hx] at h;rw [if_neg yS];exact YM h
def g9 (cap:List (Option Nat))(σ:St):St:=cap.map λo=>o.bind λi=>(σ[i]?).join
structure jA (X:Cx)(N':List Str)(cap:List (Option Nat))(sc:Scope):Prop where
 kind:sc.kind = .function
 nocell:∀ y∈sc.names,y.2 ≠ .cell
 names:∀ y∈sc.names,y.2 = .local->sc.names.lookup y.1=some .local
 free:∀ y∈sc.names,y.2 = .free->X.env.kindOf y.1=some .cell∨X.env.kindOf y.1=some .free
 len:cap.length=N'.length
 cap:∀(j i:Nat),cap[j]?=some (some i)->∃ x,N'[j]?=some x/\X.N[i]?=some x/\sc.names.lookup x=some .free
def WH:Option NameKind->Bool
 |some .cell=>true
 |some .free=>true
 |_=>false
theorem Bv {k:Option NameKind}(h:WH k=true):k=some .cell∨k=some .free:=by
 cases k with
 |none=>cases h
 |some k=>cases k<;>first|exact .inl rfl|exact .inr rfl|cases h
def QE (names:List (Str×NameKind))(kd:Str->Option NameKind)(y:Str×NameKind):Bool :=
 match y.2 with
 | .cell=>false
 | .local=>names.lookup y.1==some .local
 | .free=>WH (kd y.1)
 |_=>true
def xN (N:List Str)(sc:Scope):List Str->List (Option Nat)->Bool
 |[],[]=>true
 |_::r,none::c=>xN N sc r c
 |x::r,some i::c=>N[i]?==some x&&(sc.names.lookup x==some .free&&xN N sc r c)
 |_,_=>false
theorem Xm {N:List Str}{sc:Scope}:∀{xs:List Str}{c:List (Option Nat)},xN N sc xs c=true->c.length=xs.length
 |[],[],_=>rfl
 |_::r,none::c,h=>by
  have h':xN N sc r c=true:=h;simp [Xm h']
 |x::r,some i::c,h=>by
  have h':(N[i]?==some x&&(sc.names.lookup x==some .free&&xN N sc r c))=true:=h;simp only [uU] at h';simp [Xm h'.2.2]
 |[],_::_,h=>by cases h
 |_::_,[],h=>by cases h
theorem Xl {N:List Str}{sc:Scope}:∀{xs:List Str}{c:List (Option Nat)},xN N sc xs c=true->∀(j i:Nat),c[j]?=some (some i)->∃ x,xs[j]?=some x/\N[i]?=some x/\sc.names.lookup x=some .free
 |[],[],_,j,i,e=>by simp at e
 |_::r,none::c,h,0,i,e=>by simp at e
 |_::r,none::c,h,j+1,i,e=>by
  have h':xN N sc r c=true:=h;obtain ⟨x,h1,h2⟩:=Xl h' j i (by simpa using e);exact ⟨x,by simpa using h1,h2⟩
 |x::r,some k::c,h,0,i,e=>by
  have h':(N[k]?==some x&&(sc.names.lookup x==some .free&&xN N sc r c))=true:=h;simp only [uU] at h';have e':k=i:=by simpa using e
  subst e';exact ⟨x,rfl,by simpa using h'.1,by simpa using h'.2.1⟩
 |x::r,some k::c,h,j+1,i,e=>by
  have h':(N[k]?==some x&&(sc.names.lookup x==some .free&&xN N sc r c))=true:=h;simp only [uU] at h';obtain ⟨x',h1,h2⟩:=Xl h'.2.2 j i (by simpa using e);exact ⟨x',by simpa using h1,h2⟩
 |[],_::_,h,_,_,_=>by cases h
 |_::_,[],h,_,_,_=>by cases h
theorem p9 {N':List Str}{cap:List (Option Nat)}{sc:Scope}(h1:sc.kind = .function)(h2:(sc.names.all λy=>QE sc.names X.env.kindOf y)=true)(h3:xN X.N sc N' cap=true):jA X N' cap sc:=by
 have h2':=uT.mp h2;refine ⟨h1,λy hy e=>?_,λy hy e=>?_,λy hy e=>?_,Xm h3,Xl h3⟩
 ·have q:=h2' y hy;unfold QE at q;rw [e] at q;cases q
 ·have q:=h2' y hy;unfold QE at q;rw [e] at q;simpa using q
 ·have q:=h2' y hy;unfold QE at q;rw [e] at q;exact Bv q
def qf (X:Cx)(N':List Str)(sc:Scope)(cl:List (Str×Addr))(C:Addr)(s:Shared)(H:Hp)(fp:List Addr)(pn:List (Addr×Obj)):Cx where
 prog:=X.prog
 w:=X.w
 K:=X.K
 mg:=X.mg
 base:=X.base
 A:=X.A
 N:=N'
 s₀:=s
 H₀:=H
 env:=compEnvC sc cl C X.env
 outer:=X.stack
 stack:=X.stack
 ex:=fp
 fn:=λ_=>false
 calm:=X.calm
 pn:=pn
 xe:=λ_ _=>False
section
variable {X:Cx}{pins:List (Addr×Obj)}{σ:St}{H:Hp}{s:Shared}{h1:Heap}{N':List Str}{cap:List (Option Nat)}{sc:Scope}{cl:List (Str×Addr)}{fp:List Addr}{C D:Addr}
theorem GW (I:Inv X pins σ H s)(S:jA X N' cap sc)(hc1:∀ x c,cl.lookup x=some c->X.env.cells.lookup x=some c)(hc2:∀ y∈sc.names,y.2 = .free->∃ c,cl.lookup y.1=some c)(hf:∀ b∈fp,qA X pins H b)(ho:∀ b∈fp,b<s.heap.objs.size)(hC:s.heap.objs.size<=C):(qf X N' sc cl C s H fp (X.pn++pins)).Ok where
 mod:=I.ok.mod
 kind:=S.kind
 glob:=I.ok.glob
 blt:=I.ok.blt
 above:=hC
 inj:=λx y c e1 e2=>I.ok.inj x y c (hc1 x c e1) (hc1 y c e2)
 has:=λx hx=>by
  have key:∀ k,(relabel sc X.env).names.lookup x=some k->(k = .cell∨k = .free)->∃ c,cl.lookup x=some c:=λk e hk=>by
   obtain ⟨k',e',q⟩:=YN e;have hm:=PySem.mem_of_lookup e';have hfree:k' = .free:=by
    rcases q with q|q
    ·rcases hk with z|z
     ·exact absurd (q.trans z) (S.nocell _ hm)
     ·exact q.trans z
    ·exact q.1
   exact hc2 (x,k') hm hfree
  rcases hx with e|e
  ·exact key _ e (.inl rfl)
  ·exact key _ e (.inr rfl)
 cab:=λx c hx _=>by cases hx
 hd:=I.ok.hd
 frames:=I.ok.frames
 stk:= .inl rfl
 exf:=λb hb=>⟨yQ (yC (ho b hb) hC),λx c e=>(hf b hb).2.2.2.2.1 x c (hc1 x c e)⟩
 bs:=I.bs
 bsz:=yd I.ok.bsz I.sz
 noex:=λb o e hb=>by
  rcases (hf b hb).2.2.2.1 with z|z
  ·exact I.ok.noex b o e z
  ·exact absurd (yC (yT e) (yd I.ok.bsz z)) (ye _)
 exfs:=λb hb hz=>by
  rcases yL.mp (I.stkSub b hz) with e|e
  ·exact (hf b hb).2.1 e
  ·exact (hf b hb).2.2.1 e
 funs:=I.stack
 frf:=I.stkFree
 tbs:=λp hp=>I.base.tbls _ _ _ (I.ok.tbs p hp)
theorem Ba {m0:Str->Option Value}{o:Obj}(I:Inv X pins σ H s)(S:jA X N' cap sc)(hc1:∀ x c,cl.lookup x=some c->X.env.cells.lookup x=some c)(hc2:∀ y∈sc.names,y.2 = .free->∃ c,cl.lookup y.1=some c)(hf:∀ b∈fp,qA X pins H b)(ho:∀ b∈fp,b<s.heap.objs.size)(hD:s.heap.objs.size<=D)(hC:D<C)(hDo:h1.get? D=some o)(hoc:∀ v,o.data ≠ .cell v)(hns:h1.Ns C m0)(hk:∀ b o,s.heap.get? b=some o->h1.get? b=some o)(t:Nat):Inv (qf X N' sc cl C s H fp (X.pn++pins)) [(D,o)] (g9 cap σ) H { s with heap:=h1,toks:=t }:=by
 have hCs:s.heap.objs.size<=C:=yd hD (yc hC);have lt_s:∀ b o,s.heap.get? b=some o->b≠C:=λb o e=>yQ (yC (yT e) hCs);refine ⟨GW I S hc1 hc2 hf ho hCs,rfl,I.bare,Un.kept hk,⟨m0,hns,λj x v e1 e2 e3=>?_⟩,λx c e=>?_,I.hok.fresh hCs,λx c e=>I.freeC x c (hc1 x c e),λp hp=>?_,I.hok.kept hk,?_⟩
 ·obtain ⟨i,hi,hσ⟩:∃ i,cap[j]?=some (some i)/\σ[i]?=some (some v):=by
   unfold g9 at e2;rw [yR] at e2;cases hc:cap[j]? with
   |none=>rw [hc] at e2;cases e2
   |some o' =>
    rw [hc] at e2;have e2':(o'.bind λi=>(σ[i]?).join)=some v:=Option.some.inj e2;cases o' with
    |none=>cases e2'
    |some i =>
     refine ⟨i,rfl,?_⟩;have e3':(σ[i]?).join=some v:=e2';cases hs:σ[i]? with
     |none=>rw [hs] at e3';cases e3'
     |some q=>rw [hs] at e3';exact congrArg some e3'
  obtain ⟨x',n1,n2,n3⟩:=S.cap j i hi;have e1':N'[j]?=some x:=e1;rw [n1] at e1';obtain rfl:x'=x:=Option.some.inj e1';have hkd:=S.free (x',.free) (PySem.mem_of_lookup n3) rfl;obtain ⟨m,_,hl⟩:=I.loc;obtain ⟨u,r,l⟩:=hl i x' v n2 hσ (by
   rcases hkd with z|z
   ·exact .inr (.inl z)
   ·exact .inr (.inr z))
  refine ⟨u,r,?_⟩;rcases l with ⟨l1,_⟩|⟨_,c,ec,hcell⟩
  ·rcases hkd with z|z
   ·exact absurd (l1.symm.trans z) (by simp)
   ·exact absurd (l1.symm.trans z) (by simp)
  ·obtain ⟨c',ec'⟩:=hc2 (x',.free) (PySem.mem_of_lookup n3) rfl;have q:=hc1 x' c' ec';rw [ec] at q;obtain rfl:c=c':=Option.some.inj q;refine .inr ⟨YM n3,c,ec',?_⟩;obtain ⟨oc,hoc',hd⟩:=hcell;exact ⟨oc,hk _ _ hoc',hd⟩
 ·obtain ⟨v,oc,hoc',hd⟩:=I.cell x c (hc1 x c e);exact ⟨v,oc,hk _ _ hoc',hd⟩
 ·rcases yg.mp hp with hp|hp
  ·obtain ⟨e,n,ne,nf,d⟩:=I.pin p hp;refine ⟨hk _ _ e,n,lt_s _ _ e,λhz=>?_,d⟩;rcases yL.mp (I.stkSub _ hz) with e'|e'
   ·exact ne e'
   ·exact nf e'
  ·have e:p=(D,o):=by simpa using hp
   subst e;refine ⟨hDo,I.hok.fresh hD,yQ hC,λhz=>?_,hoc⟩;rcases yL.mp (I.stkSub _ hz) with e'|e'
   ·exact absurd (yC I.lt hD) (by rw [show X.env.locals=D from e'.symm];exact ye _)
   ·exact I.nofs hD e'
 ·unfold g9;rw [yZ];exact S.len
end
structure Wk (σ σ':St):Prop where
 len:σ.length=σ'.length
 at':∀(i:Nat) v,σ[i]?=some (some v)->σ'[i]?=some (some v)
theorem Wk.refl (σ:St):Wk σ σ:=⟨rfl,λ_ _ h=>h⟩
theorem Wk.set {σ':St}{i:Nat}(w:Wk σ σ')(h:σ[i]?=some none):Wk σ (σ'.set i o):=by
 refine ⟨by rw [yo];exact w.len,λj v e=>?_⟩;have ne:i≠j:=λz=>by rw [<- z,h] at e;cases e
 rw [yv ne];exact w.at' j v e
theorem Wk.one {i:Nat}(h:σ[i]?=some none):Wk σ (σ.set i o):=(Wk.refl σ).set h
def PTs (X:Cx)(ifs:List Expr)(t:TT):Prop :=
 ∀(pins:List (Addr×Obj))(s:Shared)(σ:St)(H:Hp)(Q:Bool->Hp->Prop),Inv X pins σ H s->t σ H Q ->
  wpAny (model X.prog X.w) X.A (forIn ifs true λc r=>if r=true then do let ok <- isTrue c X.env (eval c X.env);pure (ForInStep.yield ok) else pure (ForInStep.yield r)) (TP X pins σ Q) X.xe s
def tYes:TT:=λ_ H Q=>Q true H
theorem m9 :PTs X [] tYes:=λ_ _ _ H _ I h=>wpAny_tests_nil ⟨H,I,h⟩
theorem Yp {t:TT}(h:PT X c t):PTs X [c] t:=λpins s σ H Q I q=>wpAny_tests_one (h pins s σ H Q I q)
def Xc (J:It)(g:TG)(tt:TT)(te:TE)(Q:VK)(σ0:St)(H1:Hp):Prop:=∃ W:Nat->Nat->List V->Hp->Prop,(∃ m,W 0 m [] H1)/\∀ i m ys H,W i m ys H->ys.length<=sizeLine /\
  ((J.stop i H/\∀ D,H D=none->Q (.ref D) (j0 H D (.lst ys))) ∨
   (J.go i H/\∀ x H',J.yld i H x H'->g x σ0 H' λσ2 H2=>Wk σ0 σ2/\tt σ2 H2 λb H3 =>
      if b=true then te σ2 H3 λv H4=>∃ m',m'<m/\W (i+1) m' (ys++[v]) H4 else ∃ m',m'<m/\W (i+1) m' ys H3))
def wM (wi:TI)(g:TG)(tt:TT)(te:TE)(cap:List (Option Nat)):TE:=λσ H Q=>wi σ H λJ H1=>Xc J g tt te Q (g9 cap σ) H1
section
variable {X:Cx}{pins:List (Addr×Obj)}{σ:St}{s₂:Shared}{N':List Str}{cap:List (Option Nat)}{sc:Scope}{cl:List (Str×Addr)}{fp:List Addr}
theorem VV {Q:VK}{H2:Hp}{it:Addr}{tn:Nat->Heap->Prop}{J:It}{E:Value->Shared->Prop}{RR:Value->Addr->Result->Shared->Prop}(S:jA X N' cap sc)(hc:X.calm=true)(hc1:∀ x c,cl.lookup x=some c->X.env.cells.lookup x=some c)(hc2:∀ y∈sc.names,y.2 = .free->∃ c,cl.lookup y.1=some c)(hg:∀ C pn,PG (qf X N' sc cl C s₂ H2 fp pn) tg g)(ht:∀ C pn,PTs (qf X N' sc cl C s₂ H2 fp pn) ifs tt)(he:∀ C pn,PE (qf X N' sc cl C s₂ H2 fp pn) elt te)(I2:Inv X pins σ H2 s₂)(T:zq X.prog X.w X.K tg J fp it tn)(st2:tn 0 s₂.heap)(f2:∀ b∈fp,qA X pins H2 b)(W:Nat->Nat->List V->Hp->Prop)(w0:∃ m,W 0 m [] H2)(turn:∀ i m ys H,W i m ys H->ys.length<=sizeLine /\ ((J.stop i H/\∀ D,H D=none->Q (.ref D) (j0 H D (.lst ys)))∨(J.go i H/\∀ x H',J.yld i H x H'->g x (g9 cap σ) H' λσ2 H2=>Wk (g9 cap σ) σ2/\tt σ2 H2 λb H3 => if b=true then te σ2 H3 λv H4=>∃ m',m'<m/\W (i+1) m' (ys++[v]) H4 else ∃ m',m'<m/\W (i+1) m' ys H3)))(hRR:∀ D C H' s' m,Inv X pins σ H' s'->s'.heap.Ns C m->qA X pins H' C->Q (.ref D) H'->RR (.ref D) C (.ok .next) s'):wpAny (model X.prog X.w) X.A (newList []) (λacc s₃=>wpAny (model X.prog X.w) X.A (newFunctionEnv sc X.env.globals cl [] X.env.qual none .none (some X.env)) (λcenv s₄ => codeAny (model X.prog X.w) X.A (.compStart (.ListComp elt [⟨tg,iter,ifs,0⟩] sc pos) 0 (.ref it) acc { cenv with scope:=relabel sc X.env }) (RR acc cenv.locals) s₄) E s₃) E s₂:=by
  refine wpAny_newObj_type (wpAny_newFunctionEnv S.nocell (by intro y hy;simp at hy) (λh₁ hns₁ hsb₁=>?_) S.kind)
  dsimp only at hns₁ hsb₁ ⊢
  generalize hG:s₂.heap.push { cls:= .type "list",dict:=none,data:= .seq ([]:List Value).toArray }=G at hns₁ hsb₁ ⊢;have hC:G.objs.size=s₂.heap.objs.size+1:=by rw [<- hG,uW]
  have hDC:s₂.heap.objs.size<G.objs.size:=by rw [hC];exact uJ _
  have old:∀ b o,s₂.heap.get? b=some o->h₁.get? b=some o:=λb o e =>
    hsb₁.extBut b o (yQ (Nat.lt_trans (yT e) hDC)) (yX _ (hG▸yX _ e))
  have hacc:h₁.get? s₂.heap.objs.size=some (LCg.lst []):=hsb₁.extBut _ _ (yQ hDC) (yX _ (hG▸yJ _ rfl));have fl:∀ b∈fp,b<s₂.heap.objs.size:=λb hb=>by obtain ⟨o,e,_⟩:=T.obj _ _ st2 b hb;exact yT e
  have seqd:∀(us:List Value) v,(LCg.lst us).data ≠ .cell v:=λus v z=>by cases z
  have cellt:∀ x c,cl.lookup x=some c->c<s₂.heap.objs.size:=λx c e=>by obtain ⟨v,oc,ho,_⟩:=I2.cell x c (hc1 x c e);exact yT ho
  have pint:∀ p∈X.pn++pins,p.1<s₂.heap.objs.size:=λp hp=>yT (I2.pin p hp).1;have I0:Inv (qf X N' sc cl G.objs.size s₂ H2 fp (X.pn++pins)) [(s₂.heap.objs.size,LCg.lst [])] (g9 cap σ) H2 { s₂ with heap:=h₁,toks:=s₂.toks+([]:List (Str×Value)).length } :=
    Ba I2 S hc1 hc2 f2 fl (yU _) hDC hacc (seqd []) hns₁ old _
  have stat:∀{H':Hp}{us:List Value},(∀ b∈fp,H' b=none)->∀ b∈fp,qA (qf X N' sc cl G.objs.size s₂ H2 fp (X.pn++pins)) [(s₂.heap.objs.size,LCg.lst us)] H' b:=λ{H' us} hn b hb=>by
    obtain ⟨f0,f1,f2',f3,f4,f5⟩:=f2 b hb;refine ⟨hn b hb,yQ (Nat.lt_trans (fl b hb) hDC),λhz=>?_,.inl hb,λx c e=>f4 x c (hc1 x c e),λp hp=>?_⟩
    · rcases yL.mp (I2.stkSub b hz) with e|e
      · exact f1 e
      · exact f2' e
    · rcases yg.mp hp with hp|hp
      · exact f5 p hp
      · have e:p=(s₂.heap.objs.size,LCg.lst us):=by simpa using hp
        rw [e];exact Ne.symm (yQ (fl b hb))
  have loop:∀ s₃:Shared,s₃={ s₂ with heap:=h₁,toks:=s₂.toks+([]:List (Str×Value)).length } ->
      codeAny (model X.prog X.w) X.A (.compLoop (.ListComp elt [⟨tg,iter,ifs,0⟩] sc pos) 0 (.ref it) (.ref s₂.heap.objs.size) (compEnvC sc cl G.objs.size X.env)) (RR (.ref s₂.heap.objs.size) G.objs.size) s₃:=by
    rintro s₃ rfl;obtain ⟨m0,w0⟩:=w0;refine GR
      (λn s'=>∃ i ys us H',Inv (qf X N' sc cl G.objs.size s₂ H2 fp (X.pn++pins)) [(s₂.heap.objs.size,LCg.lst us)] (g9 cap σ) H' s'/\Vals ys us/\tn i s'.heap/\(∀ b∈fp,H' b=none)/\W i n ys H') ?_ m0
      ⟨0,[],[],H2,I0,.nil,T.keep _ _ _ st2 λb _ o e=>old b o e,λb hb=>(f2 b hb).1,w0⟩
    rintro n s3 ⟨i,ys,us,H3,I3,rv,st3,fr3,w3⟩;obtain ⟨hz,alt⟩:=turn i n ys H3 w3;rcases alt with ⟨stop,fin⟩|⟨go,step⟩
    · refine z8 (T.done (qf X N' sc cl G.objs.size s₂ H2 fp (X.pn++pins)) rfl rfl rfl hc i _ s3 _ H3 _ I3 (stat fr3) st3 stop) λr s4 ⟨hr,I4⟩=>?_
      subst hr;obtain ⟨gD,nD,_,_,_⟩:=I4.pin (s₂.heap.objs.size,LCg.lst us) (yp _ (yO.mpr rfl));have nD':H3 s₂.heap.objs.size=none:=nD;have gD':s4.heap.get? s₂.heap.objs.size=some (LCg.lst us):=gD;have b4:Un (frs X.stack) fp H2 H3 s₂.heap s4.heap:=I4.base;have n2:H2 s₂.heap.objs.size=none:=I2.hok.fresh (yU _);have un:Un (frs X.stack) fp H2 (j0 H3 s₂.heap.objs.size (.lst ys)) s₂.heap s4.heap :=
        ⟨b4.keep,b4.slot,λb o e n hx=>by rw [j3 (yQ (yT e))];exact b4.free b o e n hx,b4.there,
          λb xs e=>by rw [j3 (u7 e n2)];exact b4.tups b xs e,λb o u e=>by rw [j3 (u7 e n2)];exact b4.frzs b o u e,
          λb ps q e=>by rw [j3 (u7 e n2)];exact b4.tbls b ps q e⟩
      have hok:HOk X.prog X.w (j0 H3 s₂.heap.objs.size (.lst ys)) s4.heap:=λb u e=>by
        by_cases hb:b=s₂.heap.objs.size
        · subst hb
          rw [y0] at e;cases e;exact ⟨hz,us,us.length,rv,gD'⟩
        · rw [j3 hb] at e
          exact (I4.hok b u e).stay (λc v _ q=>q) (λc q=>by rw [j3 (u7 q nD')];exact q) (λc xs q=>by rw [j3 (u7 q nD')];exact q) λc _ _ q=>by rw [j3 (u7 q nD')];exact q
      have IF:Inv X pins σ (j0 H3 s₂.heap.objs.size (.lst ys)) s4:=I2.call' (ch:=fp) I4.os un hok I4.bare λb hb=>by
        obtain ⟨f0,f1,f2',f3,f4,f5⟩:=f2 b hb;exact ⟨f3,f1,f4,f5⟩
      obtain ⟨mF,hnF,_⟩:=I4.loc;refine hRR _ _ _ _ mF IF hnF (I2.fpOk (yc hDC) ?_) (fin _ nD');rw [j3 (Ne.symm (yQ hDC))];exact I4.free
    · refine z8 (T.item (qf X N' sc cl G.objs.size s₂ H2 fp (X.pn++pins)) rfl rfl rfl hc i _ s3 _ H3 _ I3 (stat fr3) st3 go) λr s4 ⟨u,hr,h4⟩=>?_
      subst hr;refine z8 h4 λ_ s5 ⟨x,H5,I5,r5,y5,st5,fr5⟩=>?_;have I5':=I5.pinned (stat fr5) (T.obj _ _ st5);refine z8 (hg G.objs.size (X.pn++pins) _ s5 _ H5 x u _ I5' r5 (step x H5 y5)) λ_ s6 ⟨σ6,H6,I6,wk,q6⟩=>?_;refine z8 (ht G.objs.size (X.pn++pins) _ s6 σ6 H6 _ I6 q6) λok s7 ⟨H7,I7,q7⟩=>?_;have back:∀{σ8:St}{H8:Hp}{s8:Shared}{us8:List Value},Inv (qf X N' sc cl G.objs.size s₂ H2 fp (X.pn++pins)) ([(s₂.heap.objs.size,LCg.lst us8)]++wA fp s5.heap) σ8 H8 s8 ->
          tn (i+1) s8.heap/\∀ b∈fp,H8 b=none:=λ{σ8 H8 s8 us8} I8=>by
        refine ⟨T.keep _ _ _ st5 λb hb o e=>(I8.pin (b,o) (yp _ (yp _ (QC hb e)))).1,λb hb=>?_⟩;obtain ⟨o,e,d⟩:=T.obj _ _ st5 b hb;exact (I8.pin (b,o) (yp _ (yp _ (QC hb e)))).2.1
      cases ok with
      |false=>obtain ⟨m',hm,w7⟩:=q7;obtain ⟨t7,f7⟩:=back I7;exact ⟨m',hm,i+1,ys,us,H7,I7.unpinned.weak wk.len wk.at',rv,t7,f7,w7⟩
      |true =>
        refine z8 (he G.objs.size (X.pn++pins) _ s7 σ6 H7 _ I7 q7) λuv s8 ⟨v,H8,I8,r8,m',hm,w8⟩=>?_;obtain ⟨t8,f8⟩:=back I8;obtain ⟨gD,nD,lD,fD,_⟩:=I8.pin (s₂.heap.objs.size,LCg.lst us) (yp _ (List.mem_append_left _ (yO.mpr rfl)));have gD':s8.heap.get? s₂.heap.objs.size=some { cls:= .type "list",data:= .seq us.toArray us.length }:=gD;refine append_at (hsz:=by rw [yW,<- rv.length];exact hz) gD' λh9 hs9 hD9=>?_;have I8a:Inv (qf X N' sc cl G.objs.size s₂ H2 fp (X.pn++pins)) [] σ6 H8 s8:=I8.pins_of λp hp=>nomatch hp;have I9:Inv (qf X N' sc cl G.objs.size s₂ H2 fp (X.pn++pins)) [] σ6 H8 { s8 with heap:=h9,toks:=s8.toks } :=
          I8a.turned (it:=s₂.heap.objs.size) (λb o hb e=>hs9.extBut b o hb e) nD lD (.inr (yU _)) (λx c e=>yQ (cellt x c e)) λp hp=>by
            rw [yr] at hp;exact yQ (pint p hp)
        have I10:Inv (qf X N' sc cl G.objs.size s₂ H2 fp (X.pn++pins)) [(s₂.heap.objs.size,LCg.lst (us++[uv]))] σ6 H8 { s8 with heap:=h9,toks:=s8.toks }:=I9.pins_of λp hp=>by
          have e:p=(s₂.heap.objs.size,LCg.lst (us++[uv])):=by simpa using hp
          subst e;exact ⟨hD9.trans (congrArg some (LCg.lst_snoc us uv)),nD,lD,fD,seqd _⟩
        refine ⟨m',hm,i+1,ys++[v],us++[uv],H8,I10.weak wk.len wk.at',rv.append (.cons r8 .nil),T.keep _ _ _ t8 λb hb o e=>hs9.extBut b o (yQ (fl b hb)) e,f8,w8⟩
  have st1:tn 0 h₁:=T.keep _ _ _ st2 λb _ o e=>old b o e;exact codeAny_compStart_list (loop _ rfl) (T.self _ 0 _ _ _ st1 (loop _ rfl))
theorem qi (S:jA X N' cap sc)(hc:X.calm=true)(hi:PI X tg iter wi)(hg:∀ cl C s H fp pn,PG (qf X N' sc cl C s H fp pn) tg g)(ht:∀ cl C s H fp pn,PTs (qf X N' sc cl C s H fp pn) ifs tt)(he:∀ cl C s H fp pn,PE (qf X N' sc cl C s H fp pn) elt te)(hs:∀ x,foldedSetIterable iter X.env x=pure x:=by intro _;rfl):PE X (.ListComp elt [⟨tg,iter,ifs,0⟩] sc pos) (wM wi g tt te cap):=by intro pins s σ H Q I h;rw [eval_ListComp];obtain ⟨cl,hcl,hc1,hc2⟩:=VU (scope:=sc) (env:=X.env) λy hy e=>I.ok.has y.1 (S.free y hy e);refine wpAny_comprehension_free (use:=none) rfl hs hcl S.kind S.names (z8 (hi pins s σ H _ I h) λv s1 h1=>z8 h1 λitv s2 h2=>?_);obtain ⟨it,fp,tn,J,H2,e,I2,T,st2,f2,W,w0,turn⟩:=h2;subst e;refine VV (RR:=λacc C=>compPost (model X.prog X.w) X.A X.xe none (EP X pins σ Q) acc C) S hc hc1 hc2 (λC pn=>hg cl C s2 H2 fp pn) (λC pn=>ht cl C s2 H2 fp pn) (λC pn=>he cl C s2 H2 fp pn) I2 T st2 f2 W w0 turn ?_;intro D C H' s' m I' hn F q;obtain ⟨f0,f1,f2',f3,f4,f5⟩:=F;exact ⟨m,hn,λh' hs'=>⟨.ref D,H',I'.turned (t':=s'.toks) (λb o hb e=>hs'.extBut b o hb e) f0 f1 f3 f4 f5,rfl,q⟩⟩
theorem zh {i:Nat}{x:Str}{spos pos':Pos}(S:jA X N' cap sc)(hc:X.calm=true)(hN:X.N.Nodup)(hx:X.N[i]?=some x)(hk:X.env.scope.names.lookup x=some .local)(hi:PI X tg iter wi)
  (hg:∀ cl C s H fp pn,PG (qf X N' sc cl C s H fp pn) tg g) (ht:∀ cl C s H fp pn,PTs (qf X N' sc cl C s H fp pn) ifs tt) (he:∀ cl C s H fp pn,PE (qf X N' sc cl C s H fp pn) elt te)
  (hsw:swapsWith (.ListComp elt [⟨tg,iter,ifs,0⟩] sc pos) (some (.Name x pos')) spos.line X.env=pure true:=by rfl)
  (hs:∀ x,foldedSetIterable iter X.env x=pure x:=by intro _;rfl):PS X (.Assign [.Name x pos'] (.ListComp elt [⟨tg,iter,ifs,0⟩] sc pos) spos) (xV (wM wi g tt te cap) (qh i)):=by
 intro pins s σ H D I h;rw [exec_Assign_Name_used _ _ _ _ hsw];refine yY (wpAny_standAt (yY ?_));show wpAny _ X.A (do let _ <- comprehension (.ListComp elt [⟨tg,iter,ifs,0⟩] sc pos) sc X.env _ (newList []) false (eval iter X.env) (some (assign (.Name x pos') X.env))) _ _ s;obtain ⟨cl,hcl,hc1,hc2⟩:=VU (scope:=sc) (env:=X.env) λy hy e=>I.ok.has y.1 (S.free y hy e);refine yY (z8 (wpAny_comprehension_free (use:=some (assign (.Name x pos') X.env)) (Q:=λ_ s'=>SP X pins D .next s') rfl hs hcl S.kind S.names
  (z8 (hi pins s σ H _ I h) λv s1 h1=>z8 h1 λitv s2 h2=>?_)) λ_ s' hq=>yP (yP hq))
 obtain ⟨it,fp,tn,J,H2,e,I2,T,st2,f2,W,w0,turn⟩:=h2;subst e;refine VV (Q:=λv H1=>qh i v σ H1 D.nx) (RR:=λacc C=>compPost (model X.prog X.w) X.A X.xe (some (assign (.Name x pos') X.env)) (λ_ s'=>SP X pins D .next s') acc C) S hc hc1 hc2 (λC pn=>hg cl C s2 H2 fp pn) (λC pn=>ht cl C s2 H2 fp pn) (λC pn=>he cl C s2 H2 fp pn) I2 T st2 f2 W w0 turn ?_;intro E C H' s' m I' hn F q;obtain ⟨f0,f1,f2',f3,f4,f5⟩:=F;show wpAny _ X.A (assign (.Name x pos') X.env (.ref E)) _ _ _;refine wpAny_assign_Name (Ug I' hN hx (.inl hk) (v:= .ref E) rfl (λs'' I'' ch=>?_) (.inr hk));obtain ⟨a,sb,ha⟩:=ch;have nC:C≠a:=by
  rcases ha with z|z
  ·rw [z];exact f1
  ·exact Ne.symm (f4 x a z)
 exact ⟨m,hn.sameBut sb nC,λh' hs'=>⟨_,H',I''.turned (t':=s''.toks) (λb o hb e=>hs'.extBut b o hb e) f0 f1 f3 f4 f5,q⟩⟩
end
section
variable {g:TG}{tt:TT}{te:TE}{Q:VK}{H:Hp}{σ0:St}
theorem VW {a:Addr}{xs:List V}(Pv:Nat->List V->Hp->Prop)(h0:Pv 0 [] H)(hz:∀ i ys H,i<=xs.length->Pv i ys H->ys.length<=sizeLine)(hl:∀ i ys H,i<=xs.length->Pv i ys H->SqL K H a xs)(hs:∀ i x ys H (R:List V->Hp->Prop),xs[i]?=some x->Pv i ys H->(∀ ys' H',Pv (i+1) ys' H'->R ys' H')->g x σ0 H λσ2 H2=>Wk σ0 σ2/\tt σ2 H2 λb H3=>if b=true then te σ2 H3 λv H4=>R (ys++[v]) H4 else R ys H3)(hd:∀ ys H,Pv xs.length ys H->∀ D,H D=none->Q (.ref D) (j0 H D (.lst ys))):Xc (Itl K a) g tt te Q σ0 H:=by
 refine ⟨λi m ys H=>m=xs.length-i/\i<=xs.length/\Pv i ys H,⟨xs.length,by simp,yk _,h0⟩,?_⟩;rintro i m ys H ⟨rfl,hi,p⟩;have q:=hl i ys H hi p;refine ⟨hz i ys H hi p,?_⟩;by_cases hlt:i<xs.length
 ·refine .inr ⟨⟨xs,xs[i],q,by simp [hlt]⟩,λx H' y=>?_⟩;obtain ⟨e,y⟩:=y;subst e;exact hs i x ys _ (λys' H'=>∃ m',m'<xs.length-i/\m'=xs.length-(i+1)/\i+1<=xs.length/\Pv (i+1) ys' H') (y xs q) p λys' H' p'=>⟨xs.length-(i+1),by omega,rfl,hlt,p'⟩
 ·have e:i=xs.length:=by omega
  subst e;exact .inl ⟨⟨xs,q,yU _⟩,hd ys H p⟩
theorem GU (Pv:Nat->List V->Hp->Prop)(h0:Pv 0 [] H)(hz:∀ i ys H,i<=n->Pv i ys H->ys.length<=sizeLine)(hs:∀ i ys H (R:List V->Hp->Prop),i<n->Pv i ys H->(∀ ys' H',Pv (i+1) ys' H'->R ys' H')->g (.int (lo+i)) σ0 H λσ2 H2=>Wk σ0 σ2/\tt σ2 H2 λb H3=>if b=true then te σ2 H3 λv H4=>R (ys++[v]) H4 else R ys H3)(hd:∀ ys H,Pv n ys H->∀ D,H D=none->Q (.ref D) (j0 H D (.lst ys))):Xc (Itr lo n) g tt te Q σ0 H:=by
 refine ⟨λi m ys H=>m=n-i/\i<=n/\Pv i ys H,⟨n,by simp,yk _,h0⟩,?_⟩;rintro i m ys H ⟨rfl,hi,p⟩;refine ⟨hz i ys H hi p,?_⟩;by_cases hlt:i<n
 ·refine .inr ⟨hlt,λx H' y=>?_⟩;obtain ⟨e,y⟩:=y;subst e y;exact hs i ys _ (λys' H'=>∃ m',m'<n-i/\m'=n-(i+1)/\i+1<=n/\Pv (i+1) ys' H') hlt p λys' H' p'=>⟨n-(i+1),by omega,rfl,hlt,p'⟩
 ·have e:i=n:=by omega
  subst e;exact .inl ⟨yU _,hd ys H p⟩
end
def tyB (T c:String):Option Bool:=if (Value.type T==Value.type c)=true then some true else if PySem.W.kitMeta c=true then (fastBuiltinMro T).map (·.contains (Value.type c)) else none
theorem Bw {T c:String}{b:Bool}(h:tyB T c=some b):PySem.W.kitOne K (.type T) (.type c)=some b:=h
theorem MR:tyB "int" "int"=some true:=by decide +kernel
theorem MQ:tyB "int" "bool"=some false:=by decide +kernel
theorem MT:tyB "list" "list"=some true:=by decide +kernel
theorem MV:tyB "str" "str"=some true:=by decide +kernel
theorem qR:bootBuiltins "isinstance"=some (.builtin "isinstance"):=by decide +kernel
theorem xL:bootBuiltins "list"=some (.type "list"):=by decide +kernel
theorem Gp:bootBuiltins "int"=some (.type "int"):=by decide +kernel
theorem VI:bootBuiltins "bool"=some (.type "bool"):=by decide +kernel
theorem Xj:bootBuiltins "str"=some (.type "str"):=by decide +kernel
theorem zY:bootBuiltins "all"=some (.builtin "all"):=by decide +kernel
theorem VL:bootBuiltins "sum"=some (.builtin "sum"):=by decide +kernel
theorem VJ:bootBuiltins "min"=some (.builtin "min"):=by decide +kernel
theorem Go:bootBuiltins "enumerate"=some (.type "enumerate"):=by decide +kernel
theorem Gu:bootBuiltins "zip"=some (.type "zip"):=by decide +kernel
section
variable {X:Cx}
theorem GA:CallR X (.builtin "isinstance") (λxs H Q=>∃ x n T b,xs=[x,.ty n]/\qF X.K H x (.type T)/\tyB T n=some b/\Q (.bl b) H):=by intro pins s σ H xs us Q I r h;obtain ⟨x,n,T,b,rfl,ty,e,q⟩:=h;obtain ⟨u,w',rfl,rx,rw'⟩:=UD r;obtain rfl:w'=Value.type n:=rw';exact Bh I rx ty (Bw e) λtk=>⟨.bl b,H,I.tok _,rfl,q⟩
theorem UE:∀{bs:List Bool}{us:List Value}{i:Nat}{u:Value},Vals (bs.map V.bl) us->us[i]?=some u->u = .bool (bs.getD i false)
 |[],_,_,_,.nil,e=>by simp at e
 |b::_,_,0,_,.cons r _,e=>by
  have e':=Option.some.inj e;subst e';exact r
 |_::bs,_,i+1,u,.cons _ t,e=>by
  have q:=UE (i:=i) (u:=u) t (by simpa using e);simpa using q
theorem UT:∀(bs:List Bool),(List.range bs.length).all (λi=>bs.getD i false)=bs.all id:=by
 intro bs;rw [Bool.eq_iff_iff,uT,uT];constructor
 ·intro h b hb;obtain ⟨i,hi,e⟩:=uP hb;have q:=h i (uO.mpr hi);rw [yD,yV hi] at q;rw [<- e];exact q
 ·intro h i hi;have hi':=uO.mp hi;rw [yD,yV hi'];exact h _ (yn hi')
theorem Gx (hc:X.calm=true):CallR X (.builtin "all") (λxs H Q=>∃ (a:Addr) (bs:List Bool),xs=[.ref a]/\SqL X.K H a (bs.map V.bl)/\Q (.bl (bs.all id)) H):=by
 intro pins s σ H xs us Q I r h;obtain ⟨a,bs,rfl,hq,q⟩:=h;obtain ⟨u,rfl,ru⟩:=xc r;obtain rfl:u=Value.ref a:=ru;obtain ⟨its,rv,p,hz⟩:=I.list hq;have hlt:a<s.heap.objs.size:=by obtain ⟨_,_,e,_⟩:=p;exact yT e
 have hl:s.heap.IsList a its.toArray:=p.isList;refine call_all_walk (wpAny_pyIter_list hl ?_);refine ⟨s.heap.objs.size,_,_,_,_,_,λi=>bs.getD i false,rfl,Walks.list (A:=X.A.in1) (I.ok.hd hc) s.heap.objs.size a (yQ hlt) its.toArray,⟨⟨_,yJ _ rfl,rfl,rfl⟩,hl.push _⟩,?_,λh' tk k=>?_⟩
 ·intro i v s' Q' E' hP hQ;have e:=UE rv (by simpa using hP);subst e;exact wpAny_truthy_bool hQ
 ·have hn:its.toArray.size=bs.length:=by have e:=rv.length;rw [yZ] at e;rw [yW];exact e.symm
  rw [hn,UT];refine ⟨.bl (bs.all id),H,I.kept (t':=tk) (λb o e=>k b o (λhm=>?_) (yX _ e)),rfl,q⟩;have e':b=s.heap.objs.size:=by simpa using hm
  exact absurd (yT e) (by rw [e'];exact ye _)
theorem Jx:∀{ns:List Int}{us:List Value},Vals (ns.map V.int) us->IntsAre us ns
 |[],_,.nil=> .nil
 |n::_,_,.cons ⟨t,e⟩ r=>by
  subst e;exact .cons n t (Jx r)
theorem GM (hc:X.calm=true):CallR X (.builtin "sum") (λxs H Q=>∃ (a:Addr) (ns:List Int),xs=[.ref a]/\SqL X.K H a (ns.map V.int)/\Q (.int ns.sum) H):=by
 intro pins s σ H xs us Q I r h;obtain ⟨a,ns,rfl,hq,q⟩:=h;obtain ⟨u,rfl,ru⟩:=xc r;obtain rfl:u=Value.ref a:=ru;obtain ⟨its,rv,p,hz⟩:=I.list hq;have hi:=Jx rv;have hl:s.heap.IsList a its.toArray:=p.isList;obtain ⟨xs,ex⟩:=hi.allInts.items;have e2:(numsOf its.toArray.toList).sum=ns.sum:=by rw [show its.toArray.toList=its from rfl,hi.numsOf]
 rw [ex] at hl e2;rw [nums_intItems] at e2;refine sum_intListG (I.ok.hd hc) hl λh' tk t' k=>⟨.int ns.sum,H,I.kept (t':=tk) k,?_,q⟩;rw [preSum_eq,List.take_of_length_le (by simp),e2];exact ⟨_,rfl⟩
def vy (_i j:Int):Prop:=0<j/\j.natAbs.log2<9000
theorem Cn:OpR X (binaryOp .FloorDiv) (rI vy λi j=> .int (i / j)):=opI λi j _ _ _ _ _ hc q=>by
 have e:i.fdiv j=i / j:=Int.fdiv_eq_ediv_of_nonneg i (Int.le_of_lt hc.1);exact floordiv_int (Ne.symm (Int.ne_of_lt hc.1)) (by rw [e];exact q) (.inl (PyProof.noPylong_of_log2 hc.2))
def vz (i j:Int):Prop:=Builtin.Int.intBits i<=2 ^ 20/\Builtin.Int.intBits j<=2 ^ 20
theorem QG:OpR X (binaryOp .Mult) (rI vz λi j=> .int (i*j)):=opI λ_ _ _ _ _ _ _ hc q=>mul_int q (IntMulOk.of_bits hc.1 hc.2)
def Its (lo c:Int)(n:Nat):It:=⟨λi _=>i<n,λi H x H'=>H'=H/\x = .int (lo+i*c),λi _=>n<=i⟩
theorem ML {P:Program}{w:World}(it:Addr)(lo c:Int)(n:Nat):zq P w K tg (Its lo c n) [it] it (λi h=>IsRangeIter h it (lo+(i:Nat)*c) ((n:Int)-(i:Nat)) c) where
 mem:=by simp
 obj:=λi h st b hb=>by
  have e:b=it:=by simpa using hb
  subst e;exact ⟨_,st,λv z=>by
   have z':Data.fields _=Data.cell v:=z;cases z'⟩
 keep:=λi h h' st k=>k it (by simp) _ st
 item:=by intro X hP hw hK hc i pins s σ H E I hf st hg;subst hP hw hK;obtain ⟨f0,f1,f2,f3,f4,f5⟩:=hf it (by simp);have W:=Walks.range (prog:=X.prog) (w:=X.w) (I.ok.hd hc) it lo c n;refine W.item i s _ _ hg st λv h' tk hv st' kk=>?_;obtain ⟨t,rfl⟩:=hv;have I1:Inv X pins σ H { s with heap:=h',toks:=tk }:=I.turned (λb o hb e=>kk b o (by simpa using hb) e) f0 f1 f3 f4 f5;exact ⟨_,rfl,XA (s:={ s with heap:=h',toks:=tk }) (n:="range_iterator") st' rfl rfl (by decide) ⟨.int (lo+i*c),H,I1,⟨t,rfl⟩,⟨rfl,rfl⟩,st',λb hb=>(hf b hb).1⟩⟩
 done:=by intro X hP hw hK hc i pins s σ H E I hf st hg;subst hP hw hK;obtain ⟨f0,f1,f2,f3,f4,f5⟩:=hf it (by simp);exact wpAny_pyNext_range_end (I.ok.hd hc) st (by have:n<=i:=hg;omega) λh' eb=>⟨rfl,I.turned (t':=s.toks) (λb o hb e=>eb b o hb e) f0 f1 f3 f4 f5⟩
 self:=λ_ _ _ _ _ st h=>wpAny_pyIter_rangeiter st h
def zk (i j c:Int):Nat:=(Builtin.Range.rangeSize i j c).toNat
def iRng3 (ta:TA):TI:=λσ H R=>ta σ H λvs H1=>∃ i j c:Int,vs=[.int i,.int j,.int c]/\(0<c/\c<1073741824)/\0<=Builtin.Range.rangeSize i j c/\Builtin.Range.small i j c=true/\R (Its i c (zk i j c)) H1
variable {tg:Expr}
theorem CS {a b:Expr}{ta:TA}{p:Pos}(hg:Gl X "range")(hm:X.mg "range"=none)(ha:PA X [a,b,c] ta)(hs:starEach [a,b,c] X.env=[(false,eval a X.env),(false,eval b X.env),(false,eval c X.env)]:=by rfl)(hs2:starEach [b,c] X.env=[(false,eval b X.env),(false,eval c X.env)]:=by rfl):PI X tg (.Call (.Name "range" p) [a,b,c] [] pos) (iRng3 ta):=by
 intro pins s σ H R I h;refine Call_ (xB I hg hm boot_range (PyProof.Rows.callWith_type1 (z8 (ha pos pins s σ H _ I h) λus s1 ⟨vs,H1,I1,r1,q1⟩=>?_) (by rw [hs,hs2]) (by rw [hs2];rfl)));obtain ⟨i,j,c,e,⟨q1,q2⟩,q3,q4,q⟩:=q1;subst e;cases r1 with
 |cons r rr =>
  cases rr with
  |cons r' rr =>
   cases rr with
   |cons r'' rr =>
    cases rr;obtain ⟨t,rfl⟩:=r;obtain ⟨t',rfl⟩:=r';obtain ⟨t'',rfl⟩:=r'';refine call_range_3 (Ne.symm (Int.ne_of_lt q1)) ?_ (.inl (PyProof.noPylong_small (by omega)));refine wpAny_pyIter_range (IsRange.new ..) q4 ?_;have I2:Inv X pins σ H1 { s1 with heap:=s1.heap.push { cls:= .type "range",data:= .fields #[.int i t,.int j t',.int c t''] },toks:=s1.toks }:=I1.kept λb o e=>yX _ e;refine ⟨(s1.heap.push { cls:= .type "range",data:= .fields #[.int i t,.int j t',.int c t''] }).objs.size,[(s1.heap.push { cls:= .type "range",data:= .fields #[.int i t,.int j t',.int c t''] }).objs.size],_,_,H1,rfl,
     I2.kept (t':=s1.toks) λb o e=>yX _ e,ML _ i c (zk i j c),?_,λb hb=>?_,q⟩
    ·have e1:i+((0:Nat):Int)*c=i:=by simp
     have e2:((zk i j c:Nat):Int)-((0:Nat):Int)=Builtin.Range.rangeSize i j c:=by unfold zk;omega
     show IsRangeIter _ _ (i+((0:Nat):Int)*c) (((zk i j c:Nat):Int)-((0:Nat):Int)) c;rw [e1,e2];exact yJ _ rfl
    ·have e:b=(s1.heap.push { cls:= .type "range",data:= .fields #[.int i t,.int j t',.int c t''] }).objs.size:=by simpa using hb
     subst e;exact I2.fpOk (yU _) (I2.hok.fresh (yU _))
end
theorem Ky {c:Int}{tb:TS}{D:xh}{H:Hp}(Pv:Nat->St->Hp->Prop)(h0:Pv 0 σ H)(hs:∀ i σ H,i<n->Pv i σ H->g (.int (lo+i*c)) σ H λσ2 H2=>tb { D with nx:=Pv (i+1),ct:=Pv (i+1),bk:=D.nx } σ2 H2)(hd:∀ σ H,Pv n σ H->D.nx σ H):∃ W:Nat->Nat->St->Hp->Prop,(∃ m,W 0 m σ H)/\∀ i m σ H,W i m σ H -> ((Its lo c n).stop i H/\D.nx σ H)∨((Its lo c n).go i H/\∃ N:St->Hp->Prop,(∀ σ' H',N σ' H'->∃ m',m'<m/\W (i+1) m' σ' H')/\∀ x H',(Its lo c n).yld i H x H'->g x σ H' λσ2 H2=>tb { D with nx:=N,ct:=N,bk:=D.nx } σ2 H2):=by
 refine ⟨λi m σ H=>m=n-i/\i<=n/\Pv i σ H,⟨n,by simp,yk _,h0⟩,?_⟩;rintro i m σ H ⟨rfl,hi,p⟩;by_cases hlt:i<n
 ·refine .inr ⟨hlt,Pv (i+1),λσ' H' p'=>⟨n-(i+1),by omega,rfl,hlt,p'⟩,λx H' y=>?_⟩;obtain ⟨e,y⟩:=y;subst e y;exact hs i σ _ hlt p
 ·have e:i=n:=by omega
  subst e;exact .inl ⟨yU _,hd σ H p⟩
section
open PySem.SeqAt
theorem qY {α β:Type}{F:α->β->Prop}:∀{l₁:List α}{l₂:List β},Paired F l₁ l₂->∀(j:Nat)(h1:j<l₁.length)(h2:j<l₂.length),F l₁[j] l₂[j]
 |_,_,.cons r _,0,_,_=>r
 |_,_,.cons _ t,j+1,h1,h2=>qY t j (by simpa using h1) (by simpa using h2)
variable {X:Cx}
end
structure Fn (P:Program)(w:World)(K:Fg)(mg:Str->Option Value)(base:Heap)(k:Nat)(x:Str)(ps:List Str)(sp:Sp):Prop where
 ex:∃ f fd,FnOk P w K mg base j8 k f fd ps sp/\mg x=some (.ref f)/\PySem.W.keepIn K (.ref f)=true/\Binds K fd ps []
section
variable {X:Cx}{k j:Nat}{x:Str}{ps:List Str}{sp:Sp}{e:Expr}{es:List Expr}{t:TA}{p pos:Pos}
theorem p6 (c:Fn X.prog X.w X.K X.mg X.base k x ps sp)(hr:Room j X.A)(hj:k<=j)(hg:Gl X x)(ha:PA X (e::es) t)(hdb:(x==("__debug__":Str))=false:=by decide)(he:starEach (e::es) X.env=(false,eval e X.env)::starEach es X.env:=by rfl)(hpl:(backTo pos (starEach es X.env)).any (·.1)=false:=by rfl):PE X (.Call (.Name x p) (e::es) [] pos) (xb sp [] E0 t):=by obtain ⟨f,fd,F,hm,hk,hb⟩:=c.ex;exact Cz F (hr.mono hj) hg hm hk hb .nil QL ha hdb he hpl
end
end L2
namespace L2
open PySem PySem.Spec PyProof.Rows
variable{p pos px tp:Pos}{a b:Expr}{P:Program}{w:World}{K:Fg}{elts:List Expr}{x1:Nat}{ta:TA}{x:Str}
section
variable {X:Cx}{pins:List (Addr×Obj)}{σ:St}{H:Hp}{s:Shared}{h':Heap}
theorem Inv.turnedL {t':Nat}{ch:List Addr}(I:Inv X pins σ H s)(k:∀ b o,b∉ch->s.heap.get? b=some o->h'.get? b=some o)(hf:∀ b∈ch,qA X pins H b):Inv X pins σ H { s with heap:=h',toks:=t' }:=by
 have nit:∀ b u,H b=some u->b∉ch:=λb u e z=>by rw [(hf b z).1] at e;cases e
 have nL:X.env.locals∉ch:=λz=>(hf _ z).2.1 rfl;refine I.step (g':=s.gens) (d':=s.drawn) (ch:=ch) (λb hb=>?_) (λb o _ _ hc e _=>k b o hc e) (λb o _ _ hc e _=>⟨o.slots,k b o hc e⟩) (λ_ _ _ _ n=>n)
  (λb o hc e=>⟨o,k b o hc e⟩) (λ_ _ e=>e) (λ_ _ _ e=>e) (λ_ _ _ e=>e) (λm hm=>?_) (λb u e=>?_) I.bare
 ·obtain ⟨f0,f1,f2,f3,f4,f5⟩:=hf b hb;exact ⟨f3,f1,f4,f5⟩
 ·obtain ⟨o,es,ep,ho,r⟩:=hm;exact ⟨o,es,ep,k _ o nL ho,r⟩
 ·refine (I.hok b u e).stay (λc v hc q=>k c v ?_ q) (λ_ q=>q) (λ_ _ q=>q) λ_ _ _ q=>q;rcases hc with z|z
  ·rw [z];exact nit b u e
  ·exact nit c _ z
theorem Inv.track {p:Addr}{o:HO}(I:Inv X pins σ H s)(hp:X.s₀.heap.objs.size<=p)(hn:H p=none)(nL:p≠X.env.locals)(nC:∀ x c,X.env.cells.lookup x=some c->c≠p)(nP:∀ q∈X.pn++pins,q.1≠p)(new:ObjOk X.prog X.w (j0 H p o) s.heap p o):Inv X pins σ (j0 H p o) s:=by
 refine ⟨I.ok,I.os,I.bare,⟨I.base.keep,I.base.slot,λb ob e n hx=>?_,I.base.there,λb xs e=>?_,λb ob u e=>?_,λb ps q e=>?_⟩,I.loc,I.cell,?_,λx c e=>?_,λq hq=>?_,λb u e=>?_,I.len⟩
 ·rw [j3 (yQ (yC (yT e) hp))];exact I.base.free b ob e n hx
 ·have z:=I.base.tups b xs e;rw [j3 (u7 z hn)];exact z
 ·have z:=I.base.frzs b ob u e;rw [j3 (u7 z hn)];exact z
 ·have z:=I.base.tbls b ps q e;rw [j3 (u7 z hn)];exact z
 ·rw [j3 (Ne.symm nL)];exact I.free
 ·rw [j3 (nC x c e)];exact I.freeC x c e
 ·obtain ⟨a1,a2,a3⟩:=I.pin q hq;exact ⟨a1,by rw [j3 (nP q hq)];exact a2,a3⟩
 ·by_cases hb:b=p
  ·subst hb;rw [y0] at e;cases e;exact new
  ·rw [j3 hb] at e;exact (I.hok b u e).stay (λc v _ q=>q) (λc q=>by rw [j3 (u7 q hn)];exact q) (λc xs q=>by rw [j3 (u7 q hn)];exact q) λc _ _ q=>by rw [j3 (u7 q hn)];exact q
theorem Inv.seq_ne {a b:Addr}{xs:List V}(I:Inv X pins σ H s)(hq:SqL X.K H a xs)(hf:qA X pins H b):a≠b:=by
 rintro rfl;rcases hq with (h|⟨o,h⟩)|⟨o,its,n,hk,_⟩
 ·rw [hf.1] at h;cases h
 ·rw [hf.1] at h;cases h
 ·have e:=I.ok.mod.kin a o hk;rcases hf.2.2.2.1 with z|z
  ·exact I.ok.noex a o e z
  ·exact absurd (yC (yT e) (yd I.ok.bsz z)) (ye _)
end
def Ite (K:Fg)(a:Addr):It :=
 ⟨λi H=>∃ xs x,SqL K H a xs/\xs[i]?=some x,λi H x H'=>∃ p y,H p=none/\x = .ref p/\H'=j0 H p (.tup [.int i,y])/\∀ xs,SqL K H a xs->xs[i]?=some y,λi H=>∃ xs,SqL K H a xs/\xs.length<=i⟩
theorem MI (a e it:Addr)(hne:e≠it):zq P w K (.Tuple elts x1 tp) (Ite K a) [e,it] e (λi h=>(∃ old,IsEnum h e it ((i:Nat):Int) old)/\h.IsListIter it a i) where
 mem:=by simp
 obj:=λi h st b hb=>by
  obtain ⟨⟨old,he⟩,hit⟩:=st;rcases yL.mp hb with rfl|hb
  ·exact ⟨_,he,λv z=>by
    have z':Data.fields _=Data.cell v:=z;cases z'⟩
  ·have eb:b=it:=by simpa using hb
   subst eb;obtain ⟨o,e1,c,d⟩:=hit;exact ⟨o,e1,λv z=>by rw [d] at z;cases z⟩
 keep:=λi h h' st k=>by
  obtain ⟨⟨old,he⟩,hit⟩:=st;exact ⟨⟨old,k e (by simp) _ he⟩,hit.at λo q=>k it (by simp) o q⟩
 item:=by
  intro X hP hw hK hc i pins s σ H E I hf st hg;subst hP hw hK;obtain ⟨⟨old,he⟩,hit⟩:=st;obtain ⟨xs,x,hq,hx⟩:=hg;obtain ⟨its,rv,p,hz⟩:=I.list hq;obtain ⟨u,hu,ru⟩:=rv.get hx;have fz:qA X pins H s.heap.objs.size:=I.fpOk (yU _) (I.hok.fresh (yU _));have lte:e<s.heap.objs.size:=yT he;have lti:it<s.heap.objs.size:=by obtain ⟨o,q,_⟩:=hit;exact yT q
  refine wpAny_pyNext_enum_item he hit p.isList (x:=u) (by simpa using hu) hne λh1 heo hit1 ht1 hz1 hk1=>⟨_,rfl,?_⟩;refine wpAny_letOwnedTupleGo_enum heo λh2 he2 hs2=>?_;have hs2':Heap.SameBut e h1 h2:=hs2;have I2:Inv X pins σ H { s with heap:=h2,toks:=s.toks+1 }:=I.turnedL (ch:=[e,it]) (λb o hb q=>by
   have n1:b≠e:=λz=>hb (by rw [z];simp);have n2:b≠it:=λz=>hb (by rw [z];simp);exact hs2'.extBut b o n1 (hk1 b o n1 n2 q)) hf
  obtain ⟨f0,f1,f2,f3,f4,f5⟩:=fz;have tup:h2.get? s.heap.objs.size=some { cls:= .type "tuple",data:= .seq #[.int i s.toks,u] }:=hs2'.extBut _ _ (Ne.symm (yQ lte)) ht1;refine ⟨.ref s.heap.objs.size,j0 H s.heap.objs.size (.tup [.int i,x]),I2.track I.sz f0 f1 f4 f5 ?_,rfl,⟨s.heap.objs.size,x,f0,rfl,rfl,λys hy=>by rw [I.list_inj hy hq];exact hx⟩,⟨⟨u,?_⟩,?_⟩,λb hb=>?_⟩
  ·exact ⟨by show 2<=sizeLine;decide,[.int i s.toks,u],.cons ⟨_,rfl⟩ (.cons ru .nil),⟨_,tup,rfl,_,rfl⟩⟩
  ·have ei:(((i+1:Nat):Int))=(i:Int)+1:=by omega
   rw [ei];exact he2
  ·exact hit1.at λo q=>hs2'.extBut it o (Ne.symm hne) q
  ·have nb:b≠s.heap.objs.size:=by
    rcases yL.mp hb with rfl|hb
    ·exact yQ lte
    ·have eb:b=it:=by simpa using hb
     rw [eb];exact yQ lti
   rw [j3 nb];exact (hf b hb).1
 done:=by intro X hP hw hK hc i pins s σ H E I hf st hg;subst hP hw hK;obtain ⟨⟨old,he⟩,hit⟩:=st;obtain ⟨xs,hq,hx⟩:=hg;obtain ⟨its,rv,p,hz⟩:=I.list hq;have hl:=rv.length;exact wpAny_pyNext_enum_end (I.ok.hd hc) he hit p.isList (by simp;omega) λh1 eb=>⟨rfl,I.turnedL (t':=s.toks) (ch:=[e,it]) (λb o hb q=>eb b o (λz=>hb (by rw [z];simp)) q) hf⟩
 self:=λ_ _ _ _ _ st h=>by
  obtain ⟨⟨old,he⟩,hit⟩:=st;exact wpAny_pyIter_enum he h
section
variable {X:Cx}{elts:List Expr}{x1:Nat}{tp:Pos}
def XB (K:Fg)(ta:TA):TI:=λσ H R=>ta σ H λvs H1=>∃ a,vs=[.ref a]/\(∃ xs,SqL K H1 a xs)/\R (Ite K a) H1
theorem CO (hg:Gl X "enumerate")(hm:X.mg "enumerate"=none)(ha:PA X [a] ta)(hs:starEach [a] X.env=[(false,eval a X.env)]:=by rfl):PI X (.Tuple elts x1 tp) (.Call (.Name "enumerate" p) [a] [] pos) (XB X.K ta):=by
 intro pins s σ H R I h;refine Call_ (xB I hg hm Go (PyProof.Rows.callWith_type1 (z8 (ha pos pins s σ H _ I h) λus s1 ⟨vs,H1,I1,r1,q1⟩=>?_) hs rfl));obtain ⟨a,e,⟨xs,hq⟩,q⟩:=q1;subst e;cases r1 with
 |cons r rr =>
  cases rr;cases r;obtain ⟨its,rv,p,hz⟩:=I1.list hq;refine call_enumerate_list p.isList λh' he hit hsz hk=>?_;refine wpAny_pyIter_enum he ?_;refine ⟨s1.heap.objs.size+1,[s1.heap.objs.size+1,s1.heap.objs.size],_,_,H1,rfl,I1.kept (t':=s1.toks) hk,MI a (s1.heap.objs.size+1) s1.heap.objs.size (uw (uJ _)),⟨⟨_,he⟩,hit⟩,λb hb=>?_,q⟩;rcases yL.mp hb with rfl|hb
  ·exact I1.fpOk (uz _) (I1.hok.fresh (uz _))
  ·have eb:b=s1.heap.objs.size:=by simpa using hb
   subst eb;exact I1.fpOk (yU _) (I1.hok.fresh (yU _))
end
def Itz (K:Fg)(a b:Addr):It :=
  ⟨λi H=>∃ xs ys x y,SqL K H a xs/\SqL K H b ys/\xs[i]?=some x/\ys[i]?=some y,
   λi H z H'=>∃ p x y,H p=none/\z = .ref p/\H'=j0 H p (.tup [x,y])/\(∀ xs,SqL K H a xs->xs[i]?=some x)/\∀ ys,SqL K H b ys->ys[i]?=some y,
   λi H=>∃ xs ys,SqL K H a xs/\SqL K H b ys/\(xs.length<=i∨ys.length<=i)⟩
theorem MN (a b z TI TO i1 i2:Addr)(d:[z,TI,TO,i1,i2].Nodup):zq P w K (.Tuple elts x1 tp) (Itz K a b) [z,TI,TO,i1,i2] z (λi h=>IsZip h z TI TO .none/\IsPair h TI (.ref i1) (.ref i2)/\(∃ u v,IsPair h TO u v)/\h.IsListIter i1 a i/\h.IsListIter i2 b i) where
 mem:=by simp
 obj:=λi h st c hc=>by
  obtain ⟨hz,hTI,⟨u,v,hTO⟩,h1,h2⟩:=st;have hc':c=z∨c=TI∨c=TO∨c=i1∨c=i2:=by simpa using hc
  rcases hc' with rfl|rfl|rfl|rfl|rfl
  ·exact ⟨_,hz,λv q=>by
    have q':Data.fields _=Data.cell v:=q;cases q'⟩
  ·exact ⟨_,hTI,λv q=>by
    have q':Data.seq _ _=Data.cell v:=q;cases q'⟩
  ·exact ⟨_,hTO,λv q=>by
    have q':Data.seq _ _=Data.cell v:=q;cases q'⟩
  ·obtain ⟨o,e1,cc,dd⟩:=h1;exact ⟨o,e1,λv q=>by rw [dd] at q;cases q⟩
  ·obtain ⟨o,e1,cc,dd⟩:=h2;exact ⟨o,e1,λv q=>by rw [dd] at q;cases q⟩
 keep:=λi h h' st k=>by
  obtain ⟨hz,hTI,⟨u,v,hTO⟩,h1,h2⟩:=st;exact ⟨k z (by simp) _ hz,k TI (by simp) _ hTI,⟨u,v,k TO (by simp) _ hTO⟩,h1.at λo e=>k i1 (by simp) o e,h2.at λo e=>k i2 (by simp) o e⟩
 item:=by
  intro X hP hw hK hc i pins s σ H E I hf st hg;subst hP hw hK;obtain ⟨hz,hTI,⟨u0,v0,hTO⟩,h1,h2⟩:=st;obtain ⟨xs,ys,x,y,hqa,hqb,hx,hy⟩:=hg;obtain ⟨its,rv,p,_⟩:=I.list hqa;obtain ⟨jts,rw',p',_⟩:=I.list hqb;obtain ⟨u,hu,ru⟩:=rv.get hx;obtain ⟨v,hv,rv'⟩:=rw'.get hy;simp only [yx,yL,not_or,yi,not_false_eq_true,uS,and_true] at d;obtain ⟨⟨d1,d2,d3,d4⟩,⟨d5,d6,d7⟩,⟨d8,d9⟩,d10⟩:=d;have ap:ZipApart z TI TO i1 i2 a b:=⟨Ne.symm d1,Ne.symm d2,Ne.symm d3,Ne.symm d4,d5,d6,d7,d8,d9,d10,
   I.seq_ne hqa (hf z (by simp)),I.seq_ne hqa (hf TO (by simp)),I.seq_ne hqa (hf i1 (by simp)),I.seq_ne hqa (hf i2 (by simp)),
   I.seq_ne hqb (hf z (by simp)),I.seq_ne hqb (hf TO (by simp)),I.seq_ne hqb (hf i1 (by simp)),I.seq_ne hqb (hf i2 (by simp))⟩
  have fz:qA X pins H s.heap.objs.size:=I.fpOk (yU _) (I.hok.fresh (yU _));have lt:∀ c∈[z,TI,TO,i1,i2],c<s.heap.objs.size:=λc hc=>by
   have hc':c=z∨c=TI∨c=TO∨c=i1∨c=i2:=by simpa using hc
   rcases hc' with rfl|rfl|rfl|rfl|rfl
   ·exact yT hz
   ·exact yT hTI
   ·exact yT hTO
   ·obtain ⟨o,q,_⟩:=h1;exact yT q
   ·obtain ⟨o,q,_⟩:=h2;exact yT q
  refine wpAny_pyNext_zip_item ap hz hTI hTO h1 h2 p.isList p'.isList (x:=u) (y:=v) (by simpa using hu) (by simpa using hv) λh3 hz3 hTO3 h13 h23 hp3 hs3 hk3=>⟨_,rfl,?_⟩;refine wpAny_letOwnedTupleGo_zip hz3 λh4 hz4 hs4=>?_;have hs4':Heap.SameBut z h3 h4:=hs4;have I4:Inv X pins σ H { s with heap:=h4,toks:=s.toks }:=I.turnedL (ch:=[z,TI,TO,i1,i2]) (λc o hc q=>by
   have n1:c≠z:=λe=>hc (by rw [e];simp);have n2:c≠TO:=λe=>hc (by rw [e];simp);have n3:c≠i1:=λe=>hc (by rw [e];simp);have n4:c≠i2:=λe=>hc (by rw [e];simp);exact hs4'.extBut c o n1 (hk3 c o n1 n2 n3 n4 q)) hf
  obtain ⟨f0,f1,f2,f3,f4,f5⟩:=fz;have tup:h4.get? s.heap.objs.size=some { cls:= .type "tuple",data:= .seq #[u,v] }:=hs4'.extBut _ _ (Ne.symm (yQ (lt z (by simp)))) hp3;refine ⟨.ref s.heap.objs.size,j0 H s.heap.objs.size (.tup [x,y]),I4.track I.sz f0 f1 f4 f5 ?_,rfl,⟨s.heap.objs.size,x,y,f0,rfl,rfl,(λzs hy'=>by rw [I.list_inj hy' hqa];exact hx),λzs hy'=>by rw [I.list_inj hy' hqb];exact hy⟩,⟨hz4,?_,⟨u,v,?_⟩,?_,?_⟩,λc hc=>?_⟩
  ·exact ⟨by show 2<=sizeLine;decide,[u,v],.cons ru (.cons rv' .nil),⟨_,tup,rfl,_,rfl⟩⟩
  ·exact hs4'.extBut _ _ (Ne.symm d1) (hk3 _ _ (Ne.symm d1) d5 d6 d7 hTI)
  ·exact hs4'.extBut _ _ (Ne.symm d2) hTO3
  ·exact h13.at λo q=>hs4'.extBut i1 o (Ne.symm d3) q
  ·exact h23.at λo q=>hs4'.extBut i2 o (Ne.symm d4) q
  ·rw [j3 (yQ (lt c hc))];exact (hf c hc).1
 done:=by
  intro X hP hw hK hc i pins s σ H E I hf st hg;subst hP hw hK;obtain ⟨hz,hTI,⟨u0,v0,hTO⟩,h1,h2⟩:=st;obtain ⟨xs,ys,hqa,hqb,hend⟩:=hg;obtain ⟨its,rv,p,_⟩:=I.list hqa;obtain ⟨jts,rw',p',_⟩:=I.list hqb;have l1:=rv.length;have l2:=rw'.length;simp only [yx,yL,not_or,yi,not_false_eq_true,uS,and_true] at d;obtain ⟨⟨d1,d2,d3,d4⟩,⟨d5,d6,d7⟩,⟨d8,d9⟩,d10⟩:=d;have ap:ZipApart z TI TO i1 i2 a b:=⟨Ne.symm d1,Ne.symm d2,Ne.symm d3,Ne.symm d4,d5,d6,d7,d8,d9,d10,
   I.seq_ne hqa (hf z (by simp)),I.seq_ne hqa (hf TO (by simp)),I.seq_ne hqa (hf i1 (by simp)),I.seq_ne hqa (hf i2 (by simp)),
   I.seq_ne hqb (hf z (by simp)),I.seq_ne hqb (hf TO (by simp)),I.seq_ne hqb (hf i1 (by simp)),I.seq_ne hqb (hf i2 (by simp))⟩
  refine wpAny_pyNext_zip_end (I.ok.hd hc) ap hz hTI hTO h1 h2 p.isList p'.isList (hend.elim (λq=> .inl (by simp;omega)) (λq=> .inr (by simp;omega))) λh3 hk3=>⟨rfl,I.turnedL (t':=s.toks) (ch:=[z,TI,TO,i1,i2]) (λc o hc q=>?_) hf⟩;exact hk3 c o (λe=>hc (by rw [e];simp)) (λe=>hc (by rw [e];simp)) (λe=>hc (by rw [e];simp)) (λe=>hc (by rw [e];simp)) q
 self:=λ_ _ _ _ _ st h=>wpAny_pyIter_zip st.1 h
section
variable {X:Cx}{elts:List Expr}{x1:Nat}{tp:Pos}
def iZip (K:Fg)(ta:TA):TI:=λσ H R=>ta σ H λvs H1=>∃ a b,vs=[.ref a,.ref b]/\(∃ xs,SqL K H1 a xs)/\(∃ ys,SqL K H1 b ys)/\R (Itz K a b) H1
theorem CT (hg:Gl X "zip")(hm:X.mg "zip"=none)(ha:PA X [a,b] ta)(hs:starEach [a,b] X.env=[(false,eval a X.env),(false,eval b X.env)]:=by rfl)(hs2:starEach [b] X.env=[(false,eval b X.env)]:=by rfl):PI X (.Tuple elts x1 tp) (.Call (.Name "zip" p) [a,b] [] pos) (iZip X.K ta):=by
 intro pins s σ H R I h;refine Call_ (xB I hg hm Gu (PyProof.Rows.callWith_type1 (z8 (ha pos pins s σ H _ I h) λus s1 ⟨vs,H1,I1,r1,q1⟩=>?_) (by rw [hs,hs2]) (by rw [hs2];rfl)));obtain ⟨a,b,e,⟨xs,hq⟩,⟨ys,hq'⟩,q⟩:=q1;subst e;cases r1 with
 |cons r rr =>
  cases rr with
  |cons r' rr =>
   cases rr;cases r;cases r';obtain ⟨its,rv,p,hz⟩:=I1.list hq;obtain ⟨jts,rw',p',_⟩:=I1.list hq';refine call_zip_2 p.isList p'.isList λh' g1 g2 g3 g4 g5 hsz hk=>?_;refine wpAny_pyIter_zip g1 ?_;refine ⟨s1.heap.objs.size+4,[s1.heap.objs.size+4,s1.heap.objs.size+2,s1.heap.objs.size+3,s1.heap.objs.size,s1.heap.objs.size+1],_,_,H1,rfl,I1.kept (t':=s1.toks) hk,MN a b _ _ _ _ _ ?_,⟨g1,g2,⟨_,_,g3⟩,g4,g5⟩,λc hc=>?_,q⟩
   ·simp only [yx,yL,not_or,yi,not_false_eq_true,uS,and_true];refine ⟨⟨?_,?_,?_,?_⟩,⟨?_,?_,?_⟩,⟨?_,?_⟩,?_⟩<;>(show ¬ (_:Nat)=_;omega)
   ·have hc':s1.heap.objs.size<=c:=by
     have hc2:c=s1.heap.objs.size+4∨c=s1.heap.objs.size+2∨c=s1.heap.objs.size+3∨c=s1.heap.objs.size∨c=s1.heap.objs.size+1:=by simpa using hc
     rcases hc2 with e|e|e|e|e<;>(rw [e];first|exact yU _|exact Nat.le_add_right _ _)
    exact I1.fpOk hc' (I1.hok.fresh hc')
end
section
variable {X:Cx}{K:Fg}
theorem XE (h:X.K=K):IxR X (rIxL K):=by subst h;exact ix_list
theorem VM (h:X.K=K):CallR X (.builtin "len") (λxs H Q=>∃ p ys,xs=[.ref p]/\(SqL K H p ys∨SqT K H p ys)/\Q (.int ys.length) H):=by subst h;exact GF
theorem GN (hc:X.calm=true)(h:X.K=K):CallR X (.builtin "sum") (λxs H Q=>∃ (a:Addr) (ns:List Int),xs=[.ref a]/\SqL K H a (ns.map V.int)/\Q (.int ns.sum) H):=by subst h;exact GM hc
theorem vn {es:List Expr}{k:Nat}{t:TGs}{n:Nat}(hc:X.calm=true)(hK:X.K=K)(h:PGs X es t)(hn:(assignEach es X.env).length=n:=by rfl)(hst:(assignEach es X.env).findIdx? (·.1)=none:=by rfl):PG X (.Tuple es k pos) (gTup K n t):=by subst hK;exact CN hc h hn hst
theorem c3 {tg l:Expr}{tl:TE}(hK:X.K=K)(hl:PE X l tl):PI X tg l (vU K tl):=by subst hK;exact CQ hl
theorem CP (hK:X.K=K)(hg:Gl X "enumerate")(hm:X.mg "enumerate"=none)(ha:PA X [a] ta)(hs:starEach [a] X.env=[(false,eval a X.env)]:=by rfl):PI X (.Tuple elts x1 tp) (.Call (.Name "enumerate" p) [a] [] pos) (XB K ta):=by subst hK;exact CO hg hm ha hs
theorem Yk (hK:X.K=K)(hg:Gl X "zip")(hm:X.mg "zip"=none)(ha:PA X [a,b] ta)(hs:starEach [a,b] X.env=[(false,eval a X.env),(false,eval b X.env)]:=by rfl)(hs2:starEach [b] X.env=[(false,eval b X.env)]:=by rfl):PI X (.Tuple elts x1 tp) (.Call (.Name "zip" p) [a,b] [] pos) (iZip K ta):=by subst hK;exact CT hg hm ha hs hs2
end
section
variable {X:Cx}
theorem Cr:OpR X (compareOp .LtE) (λx y H Q=>∃ i j,x = .str i/\y = .str j/\Q (.bl (!decide (j.cps.toList<i.cps.toList))) H):=by intro pins s σ H x y v u Q I rx ry h;obtain ⟨i,j,rfl,rfl,q⟩:=h;obtain ⟨t,rfl⟩:=rx;obtain ⟨t',rfl⟩:=ry;exact PySem.P.le_str (Xx I q rfl)
def ItS (z:Str):It:=⟨λi _=>i<z.cps.size,λi H x H'=>H'=H/\∃ c,z.cps[i]?=some c/\x = .str ⟨#[c]⟩,λi _=>i=z.cps.size⟩
theorem Uz (it:Addr)(ty:String)(z:Str)(t:Tok)(W:∀ A':Around,A'.handled=none->Walks P w A' it [it] [it] z.cps.size (SignAt z) (λi h=>h.IsStrIter it ty z t i))(sf:∀(A:Around)(i:Nat)(s:Shared)(Q:Value->Shared->Prop)(E:Value->Shared->Prop),s.heap.IsStrIter it ty z t i->Q (.ref it) s->wpAny (model P w) A (pyIter (.ref it)) Q E s):zq P w K (.Name x px) (ItS z) [it] it (λi h=>h.IsStrIter it ty z t i) where
 mem:=by simp
 obj:=λi h st b hb=>by
  have e:b=it:=by simpa using hb
  subst e;obtain ⟨o,e,c,d⟩:=st;exact ⟨o,e,λv q=>by rw [d] at q;cases q⟩
 keep:=λi h h' st k=>by
  obtain ⟨o,e,r⟩:=st;exact ⟨o,k it (by simp) o e,r⟩
 item:=by intro X hP hw hK hc i pins s σ H E I hf st hg;subst hP hw hK;obtain ⟨f0,f1,f2,f3,f4,f5⟩:=hf it (by simp);refine (W X.A (I.ok.hd hc)).item i s _ _ hg st λv h' tk hv st' kk=>?_;obtain ⟨c,u,e1,rfl⟩:=hv;have I1:Inv X pins σ H { s with heap:=h',toks:=tk }:=I.turned (λb o hb e=>kk b o (by simpa using hb) e) f0 f1 f3 f4 f5;refine ⟨_,rfl,?_⟩;show wpAny _ _ (pure ()) _ _ _;exact yP ⟨.str ⟨#[c]⟩,H,I1,⟨u,rfl⟩,⟨rfl,c,e1,rfl⟩,st',λb hb=>(hf b hb).1⟩
 done:=by intro X hP hw hK hc i pins s σ H E I hf st hg;subst hP hw hK;obtain ⟨f0,f1,f2,f3,f4,f5⟩:=hf it (by simp);have hg':i=z.cps.size:=hg;subst hg';exact (W X.A (I.ok.hd hc)).done s _ _ st λh' tk kk=>⟨rfl,I.turned (λb o hb e=>kk b o (by simpa using hb) e) f0 f1 f3 f4 f5⟩
 self:=sf
def iStr (tl:TE):TI:=λσ H R=>tl σ H λx H1=>∃ z,x = .str z/\R (ItS z) H1
theorem Yj {l:Expr}{tl:TE}(hl:PE X l tl):PI X (.Name x px) l (iStr tl):=by
 intro pins s σ H R I h;refine z8 (hl pins s σ H _ I h) λv s1 ⟨x,H1,I1,r1,q1⟩=>?_;obtain ⟨z,e,q⟩:=q1;subst e;obtain ⟨t,rfl⟩:=r1;have fp:∀ b∈[s1.heap.objs.size],qA X pins H1 b:=λb hb=>by
  have e:b=s1.heap.objs.size:=by simpa using hb
  subst e;exact I1.fpOk (yU _) (I1.hok.fresh (yU _))
 cases ha:z.cps.all (·<128)
 ·refine wpAny_pyIter_wide ha ?_;exact ⟨s1.heap.objs.size,[s1.heap.objs.size],_,_,H1,rfl,I1.kept (t':=s1.toks) λb o e=>yX _ e,Uz _ "str_iterator" z t (λA' hA=>Walks.strWide hA _ z t) (λ_ _ _ _ _ st h=>wpAny_pyIter_striter_wide st h),⟨_,yJ _ rfl,rfl,rfl⟩,fp,q⟩
 ·refine wpAny_pyIter_ascii ha ?_;exact ⟨s1.heap.objs.size,[s1.heap.objs.size],_,_,H1,rfl,I1.kept (t':=s1.toks) λb o e=>yX _ e,Uz _ "str_ascii_iterator" z t (λA' hA=>Walks.strAscii hA _ z t) (λ_ _ _ _ _ st h=>wpAny_pyIter_striter_ascii st h),⟨_,yJ _ rfl,rfl,rfl⟩,fp,q⟩
def tSlS (te:TE)(tl th:TO):TE:=λσ H Q=>te σ H λx H1=>tl σ H1 λl H2=>th σ H2 λu H3=>∃ z,x = .str z/\z.length<=sizeLine/\((l=none/\∃ j,u=some j)∨(u=none/\∃ i,l=some i))/\Q (.str (Txt.slice z l u)) H3
end
section
variable {X:Cx}{K:Fg}
def Yt (K:Fg):R2:=λx y H Q=>∃ l b xs zs,x = .ref l/\y = .ref b/\SqL K H l xs/\SqL K H b zs/\xs.length+zs.length<=sizeLine/\∀ p,H p=none->Q (.ref p) (j0 H p (.lst (xs++zs)))
theorem op_catL:OpR X (binaryOp .Add) (Yt X.K):=by
 intro pins s σ H x y v u Q I rx ry h;obtain ⟨l,b,xs,zs,rfl,rfl,hH,hB,hz,q⟩:=h;cases rx;cases ry;obtain ⟨its,r,⟨⟨cls,dd,data,sl⟩,n,e,h1,h2,h3⟩,_⟩:=I.list hH;obtain ⟨its2,r2,⟨⟨cls2,dd2,data2,sl2⟩,n2,e2,k1,k2,k3⟩,_⟩:=I.list hB
 dsimp only at h1 h2 h3 k1 k2 k3
 subst h1 h2 h3 k1 k2 k3;have hl:=r.length;have hl2:=r2.length;have hsz:its.toArray.size+its2.toArray.size<=sizeLine:=by rw [yW,yW];omega
 refine concat_meets ⟨_,e,rfl⟩ ⟨_,e2,rfl⟩ noFill_list_add seq_list_add PySem.F.slot_list_add PySem.F.entry_list_add (PySem.F.args_list_add_2 _ _) (list_addW l b its.toArray its2.toArray n n2 none none sl sl2 hsz) ⟨e,e2,?_⟩;have ea:its.toArray++its2.toArray=(its++its2).toArray:=by simp
 rw [ea];exact ⟨.ref _,_,I.lnew (t':=s.toks) (r.append r2) (by rw [yM];omega),rfl,q _ I.fresh⟩
end
section
variable {X:Cx}
def De:V->List V->Hp->VK->Prop:=λx vs H Q=>∃(l:Addr)(xs:List V)(i:Int)(y:V),x = .ref l/\vs=[.int i,y]/\H l=some (.lst xs)/\0<=i/\i<=(xs.length:Int)/\xs.length<1000/\Q .non (j0 H l (.lst (xs.take i.toNat++y::xs.drop i.toNat)))
theorem BU:MtM X "list.insert" De:=by
 intro pins s σ H x vs v us Q I rx rv h;obtain ⟨l,xs,i,y,rfl,rfl,hH,h0,hi,hz,q⟩:=h;cases rx;obtain ⟨u,w',rfl,⟨t,rfl⟩,rw'⟩:=rv.two;obtain ⟨z,its,n,r,hl,e⟩:=I.lstM hH;have hfit:¬ (!Builtin.List.listFitsIndex i)=true:=by rw [fitsIndex_both (k:=i) (by omega) (by omega)];decide
 have hsz:its.toArray.size<=sizeLine:=by rw [yW,<- hl];exact z
 refine call_meets F.slot_list_insert ⟨_,e,rfl⟩ F.entry_list_insert (F.args_list_insert_3 _ _ _) (AutoSeq1.list_insert_list_int_val_1 l its.toArray n i t w' hfit hsz) ⟨e,?_⟩;refine ⟨.non,_,I.lset (its':=its.take i.toNat++w'::its.drop i.toNat) hH e ?_ ((r.take i.toNat).append (.cons rw' (r.drop i.toNat))) ?_,rfl,q⟩
 ·have e1:¬ (i<0):=by omega
  have e2:min i.toNat its.toArray.size=i.toNat:=by rw [yW];omega
  show (its.toArray.extract 0 (if i<0 then (i+(its.toArray.size:Int)).toNat else min i.toNat its.toArray.size)).push w'++its.toArray.extract (if i<0 then (i+(its.toArray.size:Int)).toNat else min i.toNat its.toArray.size)=_;rw [if_neg e1,e2];apply Array.toList_inj.mp;simp [List.extract_eq_take_drop]
  try exact List.take_of_length_le (by rw [ur];exact yU _)
 ·rw [yM,yu,ut,ur];have:=zN (n:=1000) (yU _);omega
end
end L2
namespace L2
open PySem PySem.Spec PyProof.Rows PySem.SeqAt
variable{x y:V}{A:Around}{s:Shared}{u v:Value}{l:Addr}{items:Array Value}{n:Nat}{b:Bool}{K:Fg}
def EqP (K:Fg)(H:Hp):Nat->V->V->Bool->Prop
 |0,x,y,b=>y6 x=true/\y6 y=true/\b=n6 x y
 |n+1,x,y,b=>(y6 x=true/\y6 y=true/\b=n6 x y) ∨
  (∃(a c:Addr)(xs ys:List V),x = .ref a/\y = .ref c/\SqL K H a xs/\SqL K H c ys/\((xs.length≠ys.length/\b=false)∨(xs.length=ys.length/\∃ e:Nat->Bool,(∀ j (h1:j<xs.length) (h2:j<ys.length),EqP K H n xs[j] ys[j] (e j))/\b=(List.range xs.length).all e))) ∨
  (∃(a c:Addr)(xs ys:List V),x = .ref a/\y = .ref c/\SqT K H a xs/\SqT K H c ys/\∃ e:Nat->Bool,(∀ j (h1:j<xs.length) (h2:j<ys.length),EqP K H n xs[j] ys[j] (e j))/\b=((List.range (min xs.length ys.length)).all e&&xs.length==ys.length)) ∨
  (∃(a c:Addr)(xs ys:List V),x = .ref a/\y = .ref c/\SqL K H a xs/\SqT K H c ys/\b=false) ∨
  (∃(a c:Addr)(xs ys:List V),x = .ref a/\y = .ref c/\SqT K H a xs/\SqL K H c ys/\b=false) ∨
  (∃(c:Addr)(ys:List V),y6 x=true/\y = .ref c/\(SqL K H c ys∨SqT K H c ys)/\b=false) ∨
  (∃(a:Addr)(xs:List V),y6 y=true/\x = .ref a/\(SqL K H a xs∨SqT K H a xs)/\b=false)
theorem Qg (h:y6 x=true):n6 x x=true:=by cases x<;>first|rfl|exact beq_self_eq_true _|cases h
theorem YE (ry:RelV y u)(rx:RelV x v)(fy:y6 y=true)(fx:y6 x=true):RcAt A s u v (n6 y x):=by
 cases y with
 |non =>
  cases ry;cases x with
  |non=>cases rx;exact RcAt.none_none
  |bl b=>cases rx;exact RcAt.none_bool b
  |int b=>obtain ⟨t2,rfl⟩:=rx;exact RcAt.none_int b t2
  |str b=>obtain ⟨t2,rfl⟩:=rx;exact RcAt.none_str b t2
  |_=>exact absurd (show false=true from fx) yS
 |bl a =>
  cases ry;cases x with
  |non=>cases rx;exact RcAt.bool_none a
  |bl b=>cases rx;exact RcAt.bool_bool a b
  |int b=>obtain ⟨t2,rfl⟩:=rx;exact RcAt.bool_int a b t2
  |str b=>obtain ⟨t2,rfl⟩:=rx;exact RcAt.bool_str a b t2
  |_=>exact absurd (show false=true from fx) yS
 |int a =>
  obtain ⟨t1,rfl⟩:=ry;cases x with
  |non=>cases rx;exact RcAt.int_none a t1
  |bl b=>cases rx;exact RcAt.int_bool a t1 b
  |int b=>obtain ⟨t2,rfl⟩:=rx;exact RcAt.int_int a t1 b t2
  |str b=>obtain ⟨t2,rfl⟩:=rx;exact RcAt.int_str a t1 b t2
  |_=>exact absurd (show false=true from fx) yS
 |str a =>
  obtain ⟨t1,rfl⟩:=ry;cases x with
  |non=>cases rx;exact RcAt.str_none a t1
  |bl b=>cases rx;exact RcAt.str_bool a t1 b
  |int b=>obtain ⟨t2,rfl⟩:=rx;exact RcAt.str_int a t1 b t2
  |str b=>obtain ⟨t2,rfl⟩:=rx;exact RcAt.str_str a t1 b t2
  |_=>exact absurd (show false=true from fx) yS
 |_=>exact absurd (show false=true from fy) yS
theorem YF (ry:RelV y u)(rx:RelV x v)(fy:y6 y=true)(fx:y6 x=true):RcNeAt A s u v (!n6 y x):=by
 cases y with
 |non =>
  cases ry;cases x with
  |non=>cases rx;exact RcNeAt.none_none
  |bl b=>cases rx;exact RcNeAt.none_bool b
  |int b=>obtain ⟨t2,rfl⟩:=rx;exact RcNeAt.none_int b t2
  |str b=>obtain ⟨t2,rfl⟩:=rx;exact RcNeAt.none_str b t2
  |_=>exact absurd (show false=true from fx) yS
 |bl a =>
  cases ry;cases x with
  |non=>cases rx;exact RcNeAt.bool_none a
  |bl b=>cases rx;exact RcNeAt.bool_bool a b
  |int b=>obtain ⟨t2,rfl⟩:=rx;exact RcNeAt.bool_int a b t2
  |str b=>obtain ⟨t2,rfl⟩:=rx;exact RcNeAt.bool_str a b t2
  |_=>exact absurd (show false=true from fx) yS
 |int a =>
  obtain ⟨t1,rfl⟩:=ry;cases x with
  |non=>cases rx;exact RcNeAt.int_none a t1
  |bl b=>cases rx;exact RcNeAt.int_bool a t1 b
  |int b=>obtain ⟨t2,rfl⟩:=rx;exact RcNeAt.int_int a t1 b t2
  |str b=>obtain ⟨t2,rfl⟩:=rx;exact RcNeAt.int_str a t1 b t2
  |_=>exact absurd (show false=true from fx) yS
 |str a =>
  obtain ⟨t1,rfl⟩:=ry;cases x with
  |non=>cases rx;exact RcNeAt.str_none a t1
  |bl b=>cases rx;exact RcNeAt.str_bool a t1 b
  |int b=>obtain ⟨t2,rfl⟩:=rx;exact RcNeAt.str_int a t1 b t2
  |str b=>obtain ⟨t2,rfl⟩:=rx;exact RcNeAt.str_str a t1 b t2
  |_=>exact absurd (show false=true from fx) yS
 |_=>exact absurd (show false=true from fy) yS
theorem Kg (hl:s.heap.IsList l items)(hu:A.units<cLine)(ry:RelV y u)(fy:y6 y=true):EqAt A s u (.ref l) false:=by
 cases y with
 |non=>cases ry;exact EqAt.none_list hl hu
 |bl a=>cases ry;exact EqAt.bool_list a hl hu
 |int a=>obtain ⟨t1,rfl⟩:=ry;exact EqAt.int_list a t1 hl hu
 |str a=>obtain ⟨t1,rfl⟩:=ry;exact EqAt.str_list a t1 hl hu
 |_=>exact absurd (show false=true from fy) yS
theorem Ki (hl:s.heap.IsList l items)(hu:A.units<cLine)(ry:RelV y u)(fy:y6 y=true):EqAt A s (.ref l) u false:=by
 cases y with
 |non=>cases ry;exact EqAt.list_none hl hu
 |bl a=>cases ry;exact EqAt.list_bool a hl hu
 |int a=>obtain ⟨t1,rfl⟩:=ry;exact EqAt.list_int a t1 hl hu
 |str a=>obtain ⟨t1,rfl⟩:=ry;exact EqAt.list_str a t1 hl hu
 |_=>exact absurd (show false=true from fy) yS
theorem Kh (hl:s.heap.IsTuple l items)(hu:A.units<cLine)(ry:RelV y u)(fy:y6 y=true):EqAt A s u (.ref l) false:=by
 cases y with
 |non=>cases ry;exact EqAt.none_tuple hl hu
 |bl a=>cases ry;exact EqAt.bool_tuple a hl hu
 |int a=>obtain ⟨t1,rfl⟩:=ry;exact EqAt.int_tuple a t1 hl hu
 |str a=>obtain ⟨t1,rfl⟩:=ry;exact EqAt.str_tuple a t1 hl hu
 |_=>exact absurd (show false=true from fy) yS
theorem Kj (hl:s.heap.IsTuple l items)(hu:A.units<cLine)(ry:RelV y u)(fy:y6 y=true):EqAt A s (.ref l) u false:=by
 cases y with
 |non=>cases ry;exact EqAt.tuple_none hl hu
 |bl a=>cases ry;exact EqAt.tuple_bool a hl hu
 |int a=>obtain ⟨t1,rfl⟩:=ry;exact EqAt.tuple_int a t1 hl hu
 |str a=>obtain ⟨t1,rfl⟩:=ry;exact EqAt.tuple_str a t1 hl hu
 |_=>exact absurd (show false=true from fy) yS
theorem Dg (hl:s.heap.IsList l items)(hu:A.units<cLine)(ry:RelV y u)(fy:y6 y=true):RcAt A s u (.ref l) false:=by
 cases y with
 |non=>cases ry;exact RcAt.none_list hl hu
 |bl a=>cases ry;exact RcAt.bool_list a hl hu
 |int a=>obtain ⟨t1,rfl⟩:=ry;exact RcAt.int_list a t1 hl hu
 |str a=>obtain ⟨t1,rfl⟩:=ry;exact RcAt.str_list a t1 hl hu
 |_=>exact absurd (show false=true from fy) yS
theorem Di (hl:s.heap.IsList l items)(hu:A.units<cLine)(ry:RelV y u)(fy:y6 y=true):RcAt A s (.ref l) u false:=by
 cases y with
 |non=>cases ry;exact RcAt.list_none hl hu
 |bl a=>cases ry;exact RcAt.list_bool a hl hu
 |int a=>obtain ⟨t1,rfl⟩:=ry;exact RcAt.list_int a t1 hl hu
 |str a=>obtain ⟨t1,rfl⟩:=ry;exact RcAt.list_str a t1 hl hu
 |_=>exact absurd (show false=true from fy) yS
theorem Dh (hl:s.heap.IsTuple l items)(hu:A.units<cLine)(ry:RelV y u)(fy:y6 y=true):RcAt A s u (.ref l) false:=by
 cases y with
 |non=>cases ry;exact RcAt.none_tuple hl hu
 |bl a=>cases ry;exact RcAt.bool_tuple a hl hu
 |int a=>obtain ⟨t1,rfl⟩:=ry;exact RcAt.int_tuple a t1 hl hu
 |str a=>obtain ⟨t1,rfl⟩:=ry;exact RcAt.str_tuple a t1 hl hu
 |_=>exact absurd (show false=true from fy) yS
theorem Dj (hl:s.heap.IsTuple l items)(hu:A.units<cLine)(ry:RelV y u)(fy:y6 y=true):RcAt A s (.ref l) u false:=by
 cases y with
 |non=>cases ry;exact RcAt.tuple_none hl hu
 |bl a=>cases ry;exact RcAt.tuple_bool a hl hu
 |int a=>obtain ⟨t1,rfl⟩:=ry;exact RcAt.tuple_int a t1 hl hu
 |str a=>obtain ⟨t1,rfl⟩:=ry;exact RcAt.tuple_str a t1 hl hu
 |_=>exact absurd (show false=true from fy) yS
theorem Dk (hl:s.heap.IsList l items)(hu:A.units<cLine)(ry:RelV y u)(fy:y6 y=true):RcNeAt A s u (.ref l) true:=by
 cases y with
 |non=>cases ry;exact RcNeAt.none_list hl hu
 |bl a=>cases ry;exact RcNeAt.bool_list a hl hu
 |int a=>obtain ⟨t1,rfl⟩:=ry;exact RcNeAt.int_list a t1 hl hu
 |str a=>obtain ⟨t1,rfl⟩:=ry;exact RcNeAt.str_list a t1 hl hu
 |_=>exact absurd (show false=true from fy) yS
theorem Dm (hl:s.heap.IsList l items)(hu:A.units<cLine)(ry:RelV y u)(fy:y6 y=true):RcNeAt A s (.ref l) u true:=by
 cases y with
 |non=>cases ry;exact RcNeAt.list_none hl hu
 |bl a=>cases ry;exact RcNeAt.list_bool a hl hu
 |int a=>obtain ⟨t1,rfl⟩:=ry;exact RcNeAt.list_int a t1 hl hu
 |str a=>obtain ⟨t1,rfl⟩:=ry;exact RcNeAt.list_str a t1 hl hu
 |_=>exact absurd (show false=true from fy) yS
theorem Dl (hl:s.heap.IsTuple l items)(hu:A.units<cLine)(ry:RelV y u)(fy:y6 y=true):RcNeAt A s u (.ref l) true:=by
 cases y with
 |non=>cases ry;exact RcNeAt.none_tuple hl hu
 |bl a=>cases ry;exact RcNeAt.bool_tuple a hl hu
 |int a=>obtain ⟨t1,rfl⟩:=ry;exact RcNeAt.int_tuple a t1 hl hu
 |str a=>obtain ⟨t1,rfl⟩:=ry;exact RcNeAt.str_tuple a t1 hl hu
 |_=>exact absurd (show false=true from fy) yS
theorem Dn (hl:s.heap.IsTuple l items)(hu:A.units<cLine)(ry:RelV y u)(fy:y6 y=true):RcNeAt A s (.ref l) u true:=by
 cases y with
 |non=>cases ry;exact RcNeAt.tuple_none hl hu
 |bl a=>cases ry;exact RcNeAt.tuple_bool a hl hu
 |int a=>obtain ⟨t1,rfl⟩:=ry;exact RcNeAt.tuple_int a t1 hl hu
 |str a=>obtain ⟨t1,rfl⟩:=ry;exact RcNeAt.tuple_str a t1 hl hu
 |_=>exact absurd (show false=true from fy) yS
section
variable {X:Cx}{pins:List (Addr×Obj)}{σ:St}{H:Hp}{s:Shared}
theorem Qf (I:Inv X pins σ H s):∀(n:Nat){x:V}{b:Bool},EqP X.K H n x x b->b=true
 |0,x,b,h=>by obtain ⟨h1,_,rfl⟩:=h;exact Qg h1
 |n+1,x,b,h=>by
  rcases h with ⟨h1,_,rfl⟩|⟨a,c,xs,ys,rfl,e2,p1,p2,h⟩|⟨a,c,xs,ys,rfl,e2,p1,p2,e,he,rfl⟩|⟨a,c,xs,ys,rfl,e2,p1,p2,_⟩|⟨a,c,xs,ys,rfl,e2,p1,p2,_⟩|⟨c,ys,f,rfl,_⟩|⟨c,ys,f,rfl,_⟩
  ·exact Qg h1
  ·cases e2;cases I.list_inj p1 p2;rcases h with ⟨h,_⟩|⟨_,e,he,rfl⟩
   ·exact absurd rfl h
   ·rw [uT];exact λj hj=>Qf I n (he j (uO.mp hj) (uO.mp hj))
  ·cases e2;cases I.tuple_inj p1 p2;rw [Nat.min_self,beq_self_eq_true,Bool.and_true,uT];exact λj hj=>Qf I n (he j (uO.mp hj) (uO.mp hj))
  ·cases e2;obtain ⟨_,_,⟨o1,_,q1,c1,_⟩,_⟩:=I.list p1;obtain ⟨_,_,⟨o2,q2,c2,_⟩,_⟩:=I.tuple p2;rw [q1] at q2;cases q2;rw [c1] at c2;exact absurd c2 (by decide)
  ·cases e2;obtain ⟨_,_,⟨o2,q2,c2,_⟩,_⟩:=I.tuple p1;obtain ⟨_,_,⟨o1,_,q1,c1,_⟩,_⟩:=I.list p2;rw [q1] at q2;cases q2;rw [c1] at c2;exact absurd c2 (by decide)
  ·cases f
  ·cases f
theorem jM (I:Inv X pins σ H s):∀(n:Nat)(A:Around){x y:V}{u v:Value}{b:Bool},A.units+n<cLine->EqP X.K H n x y b->RelV x u->RelV y v->EqAt A s u v b
 |0,A,x,y,u,v,b,hu,h,r1,r2=>by obtain ⟨h1,h2,rfl⟩:=h;exact Xu r1 r2 h1 h2
 |n+1,A,x,y,u,v,b,hu,h,r1,r2=>by
  have h':=h;rcases h with ⟨h1,h2,rfl⟩|⟨a,c,xs,ys,rfl,rfl,p1,p2,h⟩|⟨a,c,xs,ys,rfl,rfl,p1,p2,e,he,rfl⟩|⟨a,c,xs,ys,rfl,rfl,p1,p2,rfl⟩|⟨a,c,xs,ys,rfl,rfl,p1,p2,rfl⟩|⟨c,ys,f,rfl,p,rfl⟩|⟨c,ys,f,rfl,p,rfl⟩
  ·exact Xu r1 r2 h1 h2
  ·cases r1;cases r2;by_cases hac:a=c
   ·subst hac;have hb:=Qf I (n+1) h';rw [hb];exact EqAt.same _
   obtain ⟨us,v1,q1,_⟩:=I.list p1;obtain ⟨ws,v2,q2,_⟩:=I.list p2;have l1:=v1.length;have l2:=v2.length;refine EqAt.of_refs hac ?_;rcases h with ⟨h,rfl⟩|⟨hl,e,he,rfl⟩
   ·exact RcAt.lists_lengths q1.isList q2.isList (by rw [yW,yW];simp;omega) (by omega)
   ·have q:=RcAt.lists (A:=A) (s:=s) q1.isList q2.isList (by rw [yW,yW];omega) (by omega) (e:=e) (λj j1 j2=>?_)
    ·rw [yW,<- l1] at q;exact q
    ·have j1':j<us.length:=by simpa using j1
     have j2':j<ws.length:=by simpa using j2
     rw [yh,yh];exact jM I n A.in1 (by show A.units+1+n<cLine;omega) (he j (by omega) (by omega)) (qY v1 j (by omega) j1') (qY v2 j (by omega) j2')
  ·cases r1;cases r2;by_cases hac:a=c
   ·subst hac;have hb:=Qf I (n+1) h';rw [hb];exact EqAt.same _
   obtain ⟨us,v1,q1,_⟩:=I.tuple p1;obtain ⟨ws,v2,q2,_⟩:=I.tuple p2;have l1:=v1.length;have l2:=v2.length;refine EqAt.of_refs hac ?_;have q:=RcAt.tuples (A:=A) (s:=s) q1 q2 (by omega) (e:=e) (λj j1 j2=>?_)
   ·rw [yW,yW,<- l1,<- l2] at q;exact q
   ·have j1':j<us.length:=by simpa using j1
    have j2':j<ws.length:=by simpa using j2
    rw [yh,yh];exact jM I n A.in1 (by show A.units+1+n<cLine;omega) (he j (by omega) (by omega)) (qY v1 j (by omega) j1') (qY v2 j (by omega) j2')
  ·cases r1;cases r2;obtain ⟨us,v1,q1,_⟩:=I.list p1;obtain ⟨ws,v2,q2,_⟩:=I.tuple p2;exact EqAt.list_tuple q1.isList q2 (by omega)
  ·cases r1;cases r2;obtain ⟨us,v1,q1,_⟩:=I.tuple p1;obtain ⟨ws,v2,q2,_⟩:=I.list p2;exact EqAt.tuple_list q1 q2.isList (by omega)
  ·cases r2;rcases p with p|p
   ·obtain ⟨us,v1,q1,_⟩:=I.list p;exact Kg q1.isList (by omega) r1 f
   ·obtain ⟨us,v1,q1,_⟩:=I.tuple p;exact Kh q1 (by omega) r1 f
  ·cases r1;rcases p with p|p
   ·obtain ⟨us,v1,q1,_⟩:=I.list p;exact Ki q1.isList (by omega) r2 f
   ·obtain ⟨us,v1,q1,_⟩:=I.tuple p;exact Kj q1 (by omega) r2 f
theorem rc_at (I:Inv X pins σ H s)(hu:A.units+n<cLine)(h:EqP X.K H n x y b)(r1:RelV x u)(r2:RelV y v):RcAt A s u v b:=by
 cases n with
 |zero=>obtain ⟨h1,h2,rfl⟩:=h;exact YE r1 r2 h1 h2
 |succ n =>
  rcases h with ⟨h1,h2,rfl⟩|⟨a,c,xs,ys,rfl,rfl,p1,p2,h⟩|⟨a,c,xs,ys,rfl,rfl,p1,p2,e,he,rfl⟩|⟨a,c,xs,ys,rfl,rfl,p1,p2,rfl⟩|⟨a,c,xs,ys,rfl,rfl,p1,p2,rfl⟩|⟨c,ys,f,rfl,p,rfl⟩|⟨c,ys,f,rfl,p,rfl⟩
  ·exact YE r1 r2 h1 h2
  ·cases r1;cases r2;obtain ⟨us,v1,q1,_⟩:=I.list p1;obtain ⟨ws,v2,q2,_⟩:=I.list p2;have l1:=v1.length;have l2:=v2.length;rcases h with ⟨h,rfl⟩|⟨hl,e,he,rfl⟩
   ·exact RcAt.lists_lengths q1.isList q2.isList (by rw [yW,yW];simp;omega) (by omega)
   ·have q:=RcAt.lists (A:=A) (s:=s) q1.isList q2.isList (by rw [yW,yW];omega) (by omega) (e:=e) (λj j1 j2=>?_)
    ·rw [yW,<- l1] at q;exact q
    ·have j1':j<us.length:=by simpa using j1
     have j2':j<ws.length:=by simpa using j2
     rw [yh,yh];exact jM I n A.in1 (by show A.units+1+n<cLine;omega) (he j (by omega) (by omega)) (qY v1 j (by omega) j1') (qY v2 j (by omega) j2')
  ·cases r1;cases r2;obtain ⟨us,v1,q1,_⟩:=I.tuple p1;obtain ⟨ws,v2,q2,_⟩:=I.tuple p2;have l1:=v1.length;have l2:=v2.length;have q:=RcAt.tuples (A:=A) (s:=s) q1 q2 (by omega) (e:=e) (λj j1 j2=>?_)
   ·rw [yW,yW,<- l1,<- l2] at q;exact q
   ·have j1':j<us.length:=by simpa using j1
    have j2':j<ws.length:=by simpa using j2
    rw [yh,yh];exact jM I n A.in1 (by show A.units+1+n<cLine;omega) (he j (by omega) (by omega)) (qY v1 j (by omega) j1') (qY v2 j (by omega) j2')
  ·cases r1;cases r2;obtain ⟨us,v1,q1,_⟩:=I.list p1;obtain ⟨ws,v2,q2,_⟩:=I.tuple p2;exact RcAt.list_tuple q1.isList q2 (by omega)
  ·cases r1;cases r2;obtain ⟨us,v1,q1,_⟩:=I.tuple p1;obtain ⟨ws,v2,q2,_⟩:=I.list p2;exact RcAt.tuple_list q1 q2.isList (by omega)
  ·cases r2;rcases p with p|p
   ·obtain ⟨us,v1,q1,_⟩:=I.list p;exact Dg q1.isList (by omega) r1 f
   ·obtain ⟨us,v1,q1,_⟩:=I.tuple p;exact Dh q1 (by omega) r1 f
  ·cases r1;rcases p with p|p
   ·obtain ⟨us,v1,q1,_⟩:=I.list p;exact Di q1.isList (by omega) r2 f
   ·obtain ⟨us,v1,q1,_⟩:=I.tuple p;exact Dj q1 (by omega) r2 f
theorem Do (I:Inv X pins σ H s)(hu:A.units+n<cLine)(h:EqP X.K H n x y b)(r1:RelV x u)(r2:RelV y v):RcNeAt A s u v (!b):=by
 cases n with
 |zero=>obtain ⟨h1,h2,rfl⟩:=h;exact YF r1 r2 h1 h2
 |succ n =>
  rcases h with ⟨h1,h2,rfl⟩|⟨a,c,xs,ys,rfl,rfl,p1,p2,h⟩|⟨a,c,xs,ys,rfl,rfl,p1,p2,e,he,rfl⟩|⟨a,c,xs,ys,rfl,rfl,p1,p2,rfl⟩|⟨a,c,xs,ys,rfl,rfl,p1,p2,rfl⟩|⟨c,ys,f,rfl,p,rfl⟩|⟨c,ys,f,rfl,p,rfl⟩
  ·exact YF r1 r2 h1 h2
  ·cases r1;cases r2;obtain ⟨us,v1,q1,_⟩:=I.list p1;obtain ⟨ws,v2,q2,_⟩:=I.list p2;have l1:=v1.length;have l2:=v2.length;rcases h with ⟨h,rfl⟩|⟨hl,e,he,rfl⟩
   ·exact RcNeAt.lists_lengths q1.isList q2.isList (by rw [yW,yW];simp;omega) (by omega)
   ·have q:=RcNeAt.lists (A:=A) (s:=s) q1.isList q2.isList (by rw [yW,yW];omega) (by omega) (e:=e) (λj j1 j2=>?_)
    ·rw [yW,<- l1] at q;exact q
    ·have j1':j<us.length:=by simpa using j1
     have j2':j<ws.length:=by simpa using j2
     rw [yh,yh];exact jM I n A.in1 (by show A.units+1+n<cLine;omega) (he j (by omega) (by omega)) (qY v1 j (by omega) j1') (qY v2 j (by omega) j2')
  ·cases r1;cases r2;obtain ⟨us,v1,q1,_⟩:=I.tuple p1;obtain ⟨ws,v2,q2,_⟩:=I.tuple p2;have l1:=v1.length;have l2:=v2.length;have q:=RcNeAt.tuples (A:=A) (s:=s) q1 q2 (by omega) (e:=e) (λj j1 j2=>?_)
   ·rw [yW,yW,<- l1,<- l2] at q;exact q
   ·have j1':j<us.length:=by simpa using j1
    have j2':j<ws.length:=by simpa using j2
    rw [yh,yh];exact jM I n A.in1 (by show A.units+1+n<cLine;omega) (he j (by omega) (by omega)) (qY v1 j (by omega) j1') (qY v2 j (by omega) j2')
  ·cases r1;cases r2;obtain ⟨us,v1,q1,_⟩:=I.list p1;obtain ⟨ws,v2,q2,_⟩:=I.tuple p2;exact RcNeAt.list_tuple q1.isList q2 (by omega)
  ·cases r1;cases r2;obtain ⟨us,v1,q1,_⟩:=I.tuple p1;obtain ⟨ws,v2,q2,_⟩:=I.list p2;exact RcNeAt.tuple_list q1 q2.isList (by omega)
  ·cases r2;rcases p with p|p
   ·obtain ⟨us,v1,q1,_⟩:=I.list p;exact Dk q1.isList (by omega) r1 f
   ·obtain ⟨us,v1,q1,_⟩:=I.tuple p;exact Dl q1 (by omega) r1 f
  ·cases r1;rcases p with p|p
   ·obtain ⟨us,v1,q1,_⟩:=I.list p;exact Dm q1.isList (by omega) r2 f
   ·obtain ⟨us,v1,q1,_⟩:=I.tuple p;exact Dn q1 (by omega) r2 f
def rEqD (K:Fg)(n:Nat)(neg:Bool):R2:=λx y H Q=>∃ b,EqP K H n x y b/\Q (.bl (if neg then !b else b)) H
theorem zF (hu:X.A.units+n<cLine)(hK:X.K=K):OpR X (compareOp .Eq) (rEqD K n false):=by subst hK;intro pins s σ H x y v u Q I rx ry h;obtain ⟨b,h,q⟩:=h;exact rc_at I hu h rx ry X.prog X.w X.xe _ ⟨.bl b,H,I,rfl,q⟩
theorem jp (hu:X.A.units+n<cLine)(hK:X.K=K):OpR X (compareOp .NotEq) (rEqD K n true):=by subst hK;intro pins s σ H x y v u Q I rx ry h;obtain ⟨b,h,q⟩:=h;exact Do I hu h rx ry X.prog X.w X.xe _ ⟨.bl (!b),H,I,rfl,q⟩
theorem hu6 {k:Nat}(hr:Room k A):A.units+6<cLine:=by have:=hr.units;omega
end
end L2
namespace L2
open PySem PySem.Spec PyProof.Rows
section
variable {X:Cx}{K:Fg}
def rAddS:R2:=λx y H Q=>∃ i j,x = .str i/\y = .str j/\i.length+j.length<=sizeLine/\Q (.str (i++j)) H
def Zh (K:Fg):R2:=λx y H Q=>(rI0 λi j=> .int (i+j)) x y H Q∨rAddS x y H Q∨Yt K x y H Q∨Yu K x y H Q
theorem o6 (h:X.K=K):OpR X (binaryOp .Add) (Zh K):=by subst h;exact op_add.or (op_add_str.or (op_catL.or Cm))
theorem WD (h:X.K=K):IxR X (rIx K):=by subst h;exact Bn
def zL (K:Fg):List V->Hp->VK->Prop:=λxs H Q=>(∃ x n,xs=[x]/\LenV K x H n/\Q (.int n) H)∨∃ a kvs,xs=[V.ref a]/\H a=some (.dK kvs)/\Q (.int kvs.length) H
theorem qp (h:X.K=K):CallR X (.builtin "len") (zL K):=by subst h;exact CallR.or (f:= .builtin "len") GB GC
theorem Dc {a:Expr}{ta:TE}(h:X.K=K)(ha:PE X a ta)(he:∀ whole,isTrue a X.env whole=(do let v <- whole;standAt a.pos;holding [v] (truthy v))):PT X a (λσ H Q=>ta σ H λx H'=>∃ k,TruV K x H' k/\Q k H'):=by subst h;exact Dd ha he
theorem Ya (h:X.K=K):OpR X (compareOp .In) (rIn K false):=by subst h;exact Co
theorem Ct (h:X.K=K):OpR X (compareOp .NotIn) (rIn K true):=by subst h;exact Cs
def Yy (K:Fg):List V->Hp->VK->Prop:=λxs H Q=>∃ p ys,xs=[.ref p]/\(SqL K H p ys∨SqT K H p ys)/\∀ l,H l=none->Q (.ref l) (j0 H l (.lst ys))
theorem Xk (h:X.K=K):CallR X (.type "list") (Yy K):=by subst h;exact GG
def rIsi (K:Fg):List V->Hp->VK->Prop:=λxs H Q=>∃ x n T b,xs=[x,.ty n]/\qF K H x (.type T)/\tyB T n=some b/\Q (.bl b) H
theorem qS (h:X.K=K):CallR X (.builtin "isinstance") (rIsi K):=by subst h;exact GA
def Ys (K:Fg):List V->Hp->VK->Prop:=λxs H Q=>∃(a:Addr)(bs:List Bool),xs=[.ref a]/\SqL K H a (bs.map V.bl)/\Q (.bl (bs.all id)) H
theorem zZ (hc:X.calm=true)(h:X.K=K):CallR X (.builtin "all") (Ys K):=by subst h;exact Gx hc
def Yz:List V->Hp->VK->Prop:=λxs H Q=>∃ i j,xs=[.int i,.int j]/\Q (.int (if j<i then j else i)) H
theorem VN (hc:X.calm=true):CallR X (.builtin "min") Yz:=GH hc
def rIsN:R2:=λx y H Q=>y = .non/\Q (.bl (decide (x = .non))) H
def YA:R2:=λx y H Q=>y = .non/\Q (.bl (!decide (x = .non))) H
theorem Cq:OpR X (compareOp .Is) rIsN:=Cp
theorem Yc:OpR X (compareOp .IsNot) YA:=Cu
theorem Gs:bootBuiltins "tuple"=some (.type "tuple"):=by decide +kernel
theorem Gq:bootBuiltins "max"=some (.builtin "max"):=by decide +kernel
theorem Xi:bootBuiltins "sorted"=some (.builtin "sorted"):=by decide +kernel
theorem Gn:bootBuiltins "dict"=some (.type "dict"):=by decide +kernel
theorem MW:tyB "tuple" "tuple"=some true:=by decide +kernel
end
section
variable {X:Cx}{K:Fg}{o e:Expr}{es:List Expr}{to:TE}{t:TA}{name:Str}{apos cpos:Pos}{T id:String}{r:V->List V->Hp->VK->Prop}
theorem vi (hK:X.K=K)(pa:PlainAttrs T)(slot:Slot T name id)(hty:typeOf (.builtin id)=pure (.type "method_descriptor"))(hm:MtR X id r)(ho:PE X o to)(ha:PA X (e::es) t)(hbase:attributeBase o name X.env (eval o X.env)=eval o X.env:=by rfl)(hfew:((backTo cpos (starEach (e::es) X.env)).all (λx=>!x.1)&&(backToKw cpos (keywordEach [] X.env)).all (λx=>x.1.isSome)&&decide ((e::es).length+([]:List Keyword).length+(if ([]:List Keyword).isEmpty then 0 else 1)<30))=true:=by rfl)(hline:(apos.endLine==cpos.line)=true:=by rfl)(hs:starEach (e::es) X.env=(false,eval e X.env)::starEach es X.env:=by rfl)(hplain:(backTo cpos (starEach es X.env)).any (·.1)=false:=by rfl):PE X (.Call (.Attribute o name apos) (e::es) [] cpos) (tBM K T r to t):=by subst hK;exact pe_bm pa slot hty hm ho ha hbase hfew hline hs hplain
end
end L2
namespace L2
open PySem PySem.Spec PySem.Calls
variable{h:Heap}{a:Addr}{n:Nat}{A:Around}
section
variable {P:Program}{w:World}{κ:Type}[DecidableEq κ]{knd:PySem.KeyKind P w κ}
def k8 (val:Nat->κ):Nat->List κ
 |0=>[]
 |i+1=>if val i∈k8 val i then k8 val i else k8 val i++[val i]
theorem YX (val:Nat->κ):∀ i,(k8 val i).length<=i
 |0=>yU _
 |i+1=>by
  have ih:=YX val i;unfold k8;split
  ·omega
  ·rw [yM,List.length_singleton];omega
theorem YZ {S S':κ->Bool}{n':Nat}(x:h.SetOf knd a S n)(e:∀ k,S k=S' k)(en:n=n'):h.SetOf knd a S' n':=by cases (funext e:S=S');cases en;exact x
theorem Ji {h':Heap}{S:κ->Bool}(x:h.SetOf knd a S n)(e:∀ o,h.get? a=some o->h'.get? a=some o):h'.SetOf knd a S n:=by obtain ⟨o,es,ep,t,ho,r⟩:=x;exact ⟨o,es,ep,t,e _ ho,r⟩
theorem Mr {R:Result->Shared->Prop}{I:Addr}{fp wr:List Addr}{G:Array GenState->Array GenState->Prop}{Pp:Nat->Value->Prop}{St:Nat->Shared->Prop}(W:WalksS P w A.in1 I fp wr G n Pp St)(a:Addr)(ha:a∉fp)(val:Nat->κ)(hv:∀ i v,Pp i v->knd.is (val i) v=true/\v.scannable=true)(hb:n+1<scanBound):∀ (m i:Nat) (s:Shared),n-i=m->i<=n->St i s->s.heap.SetOf knd a (λx=>decide (x∈k8 val i)) (k8 val i).length -> (∀ s',Moved (a::wr) G s s'->s'.heap.SetOf knd a (λx=>decide (x∈k8 val n)) (k8 val n).length->R (.ok (.ret .none)) s') -> codeAny (model P w) A (.builtin "set.update.loop" ⟨[.ref a,.ref I],[]⟩) R s:=by
 have haw:a∉wr:=λz=>ha (W.sub _ z);have up:∀ b∈wr,b∈a::wr:=λb z=>yK _ z;intro m
 induction m with
 |zero =>
  intro i s hm hi st hS hR;obtain rfl:i=n:=by omega
  refine codeAny_builtin PyProof.Rows.F.entry_set_update_loop ?_;rw [Around.under_plainId PyProof.Rows.F.plain_set_update_loop _];show wpAny _ A.in1 (pyNext (.ref I) >>= _) _ _ s;refine yY (W.done s _ _ st λs' mv=>?_);show wpAny _ A.in1 (ret Value.none) _ _ s';exact yP (hR s' (mv.mono up) (Ji hS λo e=>mv.heap a o haw e))
 |succ m ih =>
  intro i s hm hi st hS hR;have hlt:i<n:=by omega
  refine codeAny_builtin PyProof.Rows.F.entry_set_update_loop ?_;rw [Around.under_plainId PyProof.Rows.F.plain_set_update_loop _];show wpAny _ A.in1 (pyNext (.ref I) >>= _) _ _ s;refine yY (W.item i s _ _ hlt st λv s' hP st' mv=>?_);obtain ⟨hk,hsc⟩:=hv i v hP;have hS':s'.heap.SetOf knd a (λx=>decide (x∈k8 val i)) (k8 val i).length:=Ji hS λo e=>mv.heap a o haw e;show wpAny _ A.in1 (holding [v] (setAdd a v) >>= _) _ _ s';refine yY (wpAny_holding ?_);unfold setAdd;refine wpAny_holding (yY (knd.pyHash (k:=val i) hk ?_));have room:(k8 val i).length+1<scanBound:=by have:=YX val i;omega
  refine wpAny_setAddHashed_of (knd:=knd) (s:={ s' with toks:=s'.toks+1 }) hk hsc hS' room λh' sb hS2=>?_;have hSi:h'.SetOf knd a (λx=>decide (x∈k8 val (i+1))) (k8 val (i+1)).length:=by
   refine YZ hS2 (λx=>?_) ?_
   ·by_cases hc:val i∈k8 val i
    ·rw [show k8 val (i+1)=k8 val i from if_pos hc];by_cases hx:x=val i
     ·subst hx;simp [hc]
     ·simp [hx]
    ·rw [show k8 val (i+1)=k8 val i++[val i] from if_neg hc];simp
   ·by_cases hc:val i∈k8 val i
    ·rw [show k8 val (i+1)=k8 val i from if_pos hc];simp [hc]
    ·rw [show k8 val (i+1)=k8 val i++[val i] from if_neg hc];simp [hc]
  refine yP ⟨plainId_quiet PyProof.Rows.F.plain_set_update_loop _,ih (i+1) _ (by omega) hlt (W.frame _ s' _ _ st' (uz _) λb z o e=>?_) hSi λs2 mv2 hS3=>?_⟩
  ·rw [sb.2 b (λq:b=a=>ha (by rw [<- q];exact z))];exact e
  ·refine hR s2 (Moved.trans W.gtrans ((mv.mono up).then_heap (uz _) λb o z e=>?_) mv2) hS3;rw [sb.2 b (λq:b=a=>z (by rw [q];exact yH))];exact e
theorem GK {E:Value->Shared->Prop}{s:Shared}{l:Addr}{its:Array Value}{val:Nat->κ}{Q:Value->Shared->Prop}(hh:A.handled=none)(hl:s.heap.IsList l its)(hv:∀ (i:Nat) (v:Value),its[i]?=some v->knd.is (val i) v=true/\v.scannable=true)(hb:its.size+1<scanBound)(h:∀ (h':Heap) (tk:Nat),h'.SetOf knd s.heap.objs.size (λx=>decide (x∈k8 val its.size)) (k8 val its.size).length -> (∀ b o,s.heap.get? b=some o->h'.get? b=some o)->Q (.ref s.heap.objs.size) { s with heap:=h',toks:=tk }):wpAny (model P w) A (call (.type "set") [.ref l]) Q E s:=by
 obtain ⟨c,tl,hmro⟩:=PySem.F.called_set.mro;have hmade:=PySem.F.called_set.made;have hsub:=PySem.F.called_set.sub;refine wpAny_call (codeAny_of_tree ?_);show wpAny _ _ (callAny (.type "set") _) _ _ _;refine yP ⟨Code.quiet_builtin _ (by decide +kernel),codeAny_builtin PySem.F.entry_type_call ?_⟩;rw [Around.under_plain (weight_type_call_type "set" [.ref l] []) rfl];have q1:=PySem.F.called_set.notType;have q2:=PySem.F.called_set.canCreate;have q3:=PySem.F.typeCall_set_1 (.ref l)
 (repeat (any_goals (first|assumption|wp_step)))
 refine codeAny_mono (code_set_new_1 (.ref l) (E:=E) (Q₁:=λob s1=>∃ led:Bool,ob = .ref s.heap.objs.size/\s1={ s with heap:=s.heap.push { cls:= .type "set",dict:=none,data:= .set #[] 0 (.fresh 0 0 led) } }) λled=>⟨led,rfl,rfl⟩) λr s1 hr=>?_;cases r with
 |error e=>exact hr
 |ok fl =>
  cases fl with
  |ret ob =>
   obtain ⟨led,rfl,rfl⟩:=hr;have hS:(s.heap.push { cls:= .type "set",dict:=none,data:= .set #[] 0 (.fresh 0 0 led) }).get? s.heap.objs.size=some { cls:= .type "set",dict:=none,data:= .set #[] 0 (.fresh 0 0 led) }:=yJ _ rfl;have hT:Shared.TypeIs { s with heap:=s.heap.push { cls:= .type "set",dict:=none,data:= .set #[] 0 (.fresh 0 0 led) } } (.ref s.heap.objs.size) "set":=⟨_,hS,rfl⟩;have hli:=PySem.F.called_set.init.lookup;have hbi:=PySem.F.called_set.init.bind (.ref s.heap.objs.size)
   (repeat (any_goals (first|assumption|wp_step)))
   refine codeAny_mono (codeAny_call_builtin (R:=wants (λr s2=>r = .none/\∃ h' tk,s2={ s with heap:=h',toks:=tk }/\h'.SetOf knd s.heap.objs.size (λx=>decide (x∈k8 val its.size)) (k8 val its.size).length /\
     (∀ b o,s.heap.get? b=some o->h'.get? b=some o)) E) PySem.F.called_set.init.plain PySem.F.entry_set_init (check_set_init_1 hT ?_)) λr2 s2 hr2=>?_
   ·obtain ⟨ol,hol,hcl,nl,hdl⟩:=hl;obtain ⟨ocls,odict,odata,oslots⟩:=ol;simp only at hcl hdl;subst hcl;subst hdl;have hol':(s.heap.push { cls:= .type "set",dict:=none,data:= .set #[] 0 (.fresh 0 0 led) }).get? l=some { cls:= .type "list",dict:=odict,data:= .seq its nl,slots:=oslots }:=yX _ hol;have z1:=PySem.F.sub_list_set;have z2:=PySem.F.sub_list_frozenset;have z3:(Value.type "list" == Value.type "dict")=false:=by decide
    have hl1:(s.heap.push { cls:= .type "set",dict:=none,data:= .set #[] 0 (.fresh 0 0 led) }).IsList l its:=⟨_,hol',rfl,nl,rfl⟩;unfold Builtin.«set.__init__» noKeywords Builtin.Frozenset.updateFrom;generalize hPI:pyIter=PI
    wp_walk
    subst hPI;refine wpAny_pyIter_list hl1 ?_;refine yY (wpAny_runValue ?_);have hlS:l<s.heap.objs.size:=yT hol;have h3:A.in1.in1.in1.handled=none:=by simp [hh]
    have ne1:l≠(s.heap.push { cls:= .type "set",dict:=none,data:= .set #[] 0 (.fresh 0 0 led) }).objs.size:=by rw [uW];exact yQ (uy hlS)
    have ne2:s.heap.objs.size∉[(s.heap.push { cls:= .type "set",dict:=none,data:= .set #[] 0 (.fresh 0 0 led) }).objs.size,l]:=by rw [uW];simp only [yL,yi,or_false,not_or];exact ⟨yQ (uJ _),uw hlS⟩
    refine Mr (knd:=knd) ((Walks.list h3 _ l ne1 its).toS) s.heap.objs.size ne2 val hv hb (its.size-0) 0 _ (by omega) (yk _) ⟨⟨_,yJ _ rfl,rfl,rfl⟩,(hl1.push _)⟩ ?_ ?_
    ·have hg:((s.heap.push { cls:= .type "set",dict:=none,data:= .set #[] 0 (.fresh 0 0 led) }).push { cls:= .type "list_iterator",data:= .fields #[.ref l,.int 0 0] }).get? s.heap.objs.size=some { cls:= .type "set",dict:=none,data:= .set #[] 0 (.fresh 0 0 led) }:=yX _ hS;exact YZ ((PyProof.Rows.setObjOf_fresh (knd:=knd) led).setOf hg (by unfold scanBound;omega)) (λx=>by simp [k8]) rfl
    ·rintro ⟨h',g',d',tk',os'⟩ mv hS';have eg:g'=s.gens:=mv.gens;have ed:d'=s.drawn:=mv.drawn;have eo:os'=s.os:=mv.os;subst eg ed eo;show wpAny _ _ _ _ _ _;refine yP ?_;show wpAny _ _ (ret Value.none) _ _ _;refine yP ⟨rfl,h',tk',rfl,hS',λb o e=>?_⟩;have hb0:=yT e;refine mv.heap b o ?_ (yX _ (yX _ e));rw [uW];simp only [yL,yi,or_false,not_or];exact ⟨yQ hb0,yQ (uy hb0)⟩
   ·cases r2 with
    |error e=>exact hr2
    |ok fl2 =>
     cases fl2 with
     |ret r =>
      obtain ⟨rfl,h',tk,rfl,hS',hk'⟩:=hr2
      (repeat (any_goals (first|assumption|wp_step)))
      exact h _ _ hS' hk'
     |_=>exact False.elim hr2
  |_=>exact False.elim hr
end
def zW (n:Nat)(a:Addr):HO:= .ext λh=>∃(P:Program)(w:World)(S:z7->Bool),h.SetOf (i4 P w) a S n
section
variable {X:Cx}
theorem LD {ss:List Str}{us:List Value}(r:Vals (ss.map V.str) us):∀(i:Nat)(v:Value),us[i]?=some v->∃ x t,ss[i]?=some x/\v = .str x t:=by
 have key:∀(ss:List Str)(us:List Value),Vals (ss.map V.str) us->∀(i:Nat)(v:Value),us[i]?=some v->∃ x t,ss[i]?=some x/\v = .str x t:=by
  intro ss
  induction ss with
  |nil=>intro us r i v e;cases r;simp at e
  |cons s ss ih =>
   intro us r i v e;cases r with
   |cons p q =>
    cases i with
    |zero=>obtain ⟨t,rfl⟩:=p;simp at e;exact ⟨s,t,rfl,e.symm⟩
    |succ i=>exact ih _ q i v (by simpa using e)
 intro i v e;exact key ss us r i v e
theorem GJ (hc:X.calm=true):CallR X (.type "set") (λxs H Q=>∃ (a:Addr) (ss:List Str),xs=[.ref a]/\SqL X.K H a (ss.map V.str)/\ss.length<=1000 /\ ∀ l,H l=none->Q (.ref l) (j0 H l (zW (k8 (λi=>(Sum.inr (ss.getD i ⟨#[]⟩):z7)) ss.length).length l))):=by
 intro pins s σ H xs us Q I r h;obtain ⟨a,ss,rfl,hq,hl,q⟩:=h;obtain ⟨u,rfl,ru⟩:=xc r;obtain rfl:u=Value.ref a:=ru;obtain ⟨its,rv,p,hz⟩:=I.list hq;have hn:its.length=ss.length:=by have e:=rv.length;rw [yZ] at e;exact e.symm
 refine GK (knd:=i4 X.prog X.w) (its:=its.toArray) (val:=λi=>(Sum.inr (ss.getD i ⟨#[]⟩):z7)) (I.ok.hd hc) p.isList (λi v e=>?_) (by rw [yW,hn];unfold scanBound;omega) λh' tk hS k=>?_
 ·obtain ⟨x,t,hx,rfl⟩:=LD rv i v (by simpa using e);rw [yD,hx];exact ⟨XT _ _ _ _,rfl⟩
 ·have e8:its.toArray.size=ss.length:=by rw [yW];exact hn
  rw [e8] at hS;refine ⟨.ref s.heap.objs.size,_,I.laid (t':=tk) k (yU _) (show ObjOk X.prog X.w _ h' _ (zW _ _) from ⟨⟨_,_,_,hS⟩,?_,?_⟩),rfl,q _ (I.hok.fresh (yU _))⟩
  ·obtain ⟨o,_,_,_,ho,_⟩:=hS;exact ⟨o,ho⟩
  ·rintro h1 h2 ⟨P,w,S,x⟩ e;exact ⟨P,w,S,Ji x e⟩
theorem GD:CallR X (.builtin "len") (λxs H Q=>∃ (a:Addr) (n:Nat),xs=[.ref a]/\H a=some (zW n a)/\Q (.int n) H):=by
 intro pins s σ H xs us Q I r h;obtain ⟨a,n,rfl,hq,q⟩:=h;obtain ⟨u,rfl,ru⟩:=xc r;obtain rfl:u=Value.ref a:=ru;obtain ⟨⟨P,w,S,o,es,ep,t,ho,hex,hd,_,_,hb,hf,hn⟩,_⟩:=(show ObjOk X.prog X.w H s.heap a (zW n a) from I.hok a _ hq);subst hn;have h63:((es.size:Nat):Int)<2 ^ 63:=by unfold scanBound at hb;omega
 exact call_len_set ho hex hd hf h63 ⟨.int es.size,H,I.tok _,⟨_,rfl⟩,q⟩
end
end L2
namespace L2
open PySem PySem.Spec PySem.Calls PyProof.Rows
variable{ns:List Int}{f:Nat->Int}{ss:List Str}{P:Program}{w:World}{vs:List Value}{A:Around}{E Q:Value->Shared->Prop}{s:Shared}
section
variable {X:Cx}
theorem KY {its:List Value}(rv:Vals (ns.map V.int) its):∃ xs:Array (Int×Tok),its.toArray=intItems xs/\xs.size=ns.length/\∀ i,i<ns.length->numAt xs i=ns.getD i 0:=by
 have hi:=Jx rv;obtain ⟨xs,ex⟩:=hi.allInts.items;have hl:xs.size=ns.length:=by
  have e:its.toArray.size=xs.size:=by rw [ex];unfold intItems;rw [Array.size_map]
  have e2:=rv.length;rw [yZ] at e2;rw [yW] at e;omega
 refine ⟨xs,ex,hl,λi h=>?_⟩;have hx:i<xs.size:=by omega
 have e1:its.toArray[i]?=some (.int xs[i].1 xs[i].2):=by rw [ex];unfold intItems;rw [Array.getElem?_map,uV hx];rfl
 have e2:its[i]?=some (.int xs[i].1 xs[i].2):=by simpa using e1
 obtain ⟨t,e3⟩:=IntsAre.int_at hi i _ e2;injection e3 with e3 _;unfold numAt;rw [uV hx];exact e3
theorem Gf {k:Nat}(hf:∀ i,i<ns.length->f i=ns.getD i 0)(hk:k<ns.length):f k∈ns:=by rw [hf k hk,yD,yV hk];exact yn hk
theorem Ge {R:Int->Prop}(hf:∀ i,i<ns.length->f i=ns.getD i 0)(h:∀ j,j<ns.length->R (f j)):∀ x∈ns,R x:=by intro x hx;obtain ⟨j,hj,rfl⟩:=uP hx;have:=h j hj;rw [hf j hj,yD,yV hj] at this;exact this
def vE (ss:List Str):Prop:=ss.Pairwise λx y=>¬ (y.cps.toList<x.cps.toList)
theorem Jj (h:sortedS ss=true):vE ss:=by
 cases ss with
 |nil=>exact List.Pairwise.nil
 |cons x r =>
  have key:∀(l:List Str)(p:Str),risingS p l=true->(p::l).Pairwise λx y=>¬ (y.cps.toList<x.cps.toList):=by
   intro l
   induction l with
   |nil=>intro p _;exact List.pairwise_singleton _ _
   |cons y l ih =>
    intro p hp;have hp':(!ltCps y.cps.toList p.cps.toList&&risingS y l)=true:=hp;rw [uU] at hp';have i2:=ih y hp'.2;have hyp:¬ (y.cps.toList<p.cps.toList):=by have e:=hp'.1;rw [ltCps_eq] at e;simpa using e
    refine List.pairwise_cons.mpr ⟨λz hz=>?_,i2⟩;rcases yL.mp hz with rfl|hz
    ·exact hyp
    ·have hzy:=(List.pairwise_cons.mp i2).1 z hz;intro hlt;exact hyp (Std.lt_of_le_of_lt (Std.not_lt.mp hzy) hlt)
  exact key r x h
def YC (K:Fg):List V->Hp->VK->Prop:=λxs H Q=>∃(a:Addr)(ss:List Str),xs=[.ref a]/\(SqL K H a (ss.map V.str)∨∃ kvs,Rd H a (.dK kvs)/\kvs.map (·.1)=ss.map Sum.inr)/\ss.length<64 /\
 ∀ l ss',H l=none->ss'.Perm ss->vE ss'->Q (.ref l) (j0 H l (.lst (ss'.map V.str)))
theorem Ui:∀{ss:List Str}{us:List Value},Vals (ss.map V.str) us->StrsAre us ss
 |[],_,.nil=> .nil
 |x::_,_,.cons ⟨t,e⟩ r=>by subst e;exact .cons x t (Ui r)
theorem QY:∀{us:List Value}{ss:List Str},StrsAre us ss->Vals (ss.map V.str) us
 |_,_,.nil=> .nil
 |_,_,.cons x t r=> .cons ⟨t,rfl⟩ (QY r)
theorem WF:∀{kvs:List (z7×V)}{vs:List (z7×Value)}{ss:List Str},KV kvs vs->kvs.map (·.1)=ss.map Sum.inr->vs.map (·.1)=ss.map Sum.inr:=by
 intro kvs vs ss r e;rw [<- e];clear e
 induction r with
 |nil=>rfl
 |cons p _ ih=>rw [yN,yN,ih,p.1]
theorem Wz {vs:List (z7×Value)}{acc:Array Value}(e:vs.map (·.1)=ss.map Sum.inr)(h:ItemsOf (λi v=>∃ k x,vs[i]?=some (k,x)/\(i4 P w).is k v=true) acc vs.length):StrsAre acc.toList ss:=by
 have hl:vs.length=ss.length:=by have:=congrArg List.length e;rwa [yZ,yZ] at this
 have h0:∀ v∈acc.toList,∃ x t,v = .str x t:=by
  intro v hv;obtain ⟨i,hi,rfl⟩:=uP hv;obtain ⟨k,x,hk,his⟩:=h.2 i acc.toList[i] (by simp at hi ⊢);have hk2:(vs.map (·.1))[i]?=some k:=by rw [yR,hk];rfl
  rw [e,yR] at hk2;obtain ⟨z,_,rfl⟩:=yG.mp hk2;cases hv2:acc.toList[i] with
  |str y t=>exact ⟨y,t,rfl⟩
  |_=>rw [hv2] at his;cases his
 have h1:=strsAre_map acc.toList h0;have e2:acc.toList.map strOf=ss:=by
  apply List.ext_getElem?;intro i;rw [yR];by_cases hi:i<acc.size
  ·obtain ⟨k,x,hk,his⟩:=h.2 i acc[i] (uV hi);have hk2:(vs.map (·.1))[i]?=some k:=by rw [yR,hk];rfl
   rw [e,yR] at hk2;obtain ⟨z,hz,rfl⟩:=yG.mp hk2;obtain ⟨y,t,hy⟩:=h0 acc[i] (by simp);rw [hy] at his;have:y=z:=by have q:ji (Sum.inr z) (.str y t)=true:=his;have q2:=WE y t;have q3:=(i4 P w).inj (.str y t) (Sum.inr z) (Sum.inr y) his (XT P w y t);injection q3 with q3;exact q3.symm
   rw [hz,Array.getElem?_toList,uV hi,hy,<- this];rfl
  ·have h1:=h.1;rw [uu (by simp;omega),uu (by omega)];rfl
 rw [e2] at h1;exact h1
theorem LH (hS:StrsAre vs ss)(h64:vs.length<64)(h:∀ (h':Heap) (out:List Value) (ss':List Str) (e:Nat),(∀ b o,s.heap.get? b=some o->h'.get? b=some o)->h'.get? s.heap.objs.size=some (seqObj "list" out.toArray e)->StrsAre out ss'->ss'.Perm ss->sortedS ss'=true->Q (.ref s.heap.objs.size) { s with heap:=h' }):wpAny (model P w) A (newList vs >>= λl=>holding [l] (call (.builtin "list.sort") [l]) >>= λ_=>pure l) Q E s:=by
 refine yY (wpAny_newList ?_);have ho:(s.heap.push (seqObj "list" vs.toArray 0)).get? s.heap.objs.size=some (seqObj "list" vs.toArray 0):=yJ _ rfl;refine yY (wpAny_holding (wpAny_call_entry slot_list_sort (s:={ s with heap:=s.heap.push (seqObj "list" vs.toArray 0) }) ⟨_,ho,rfl⟩ entry_list_sort
  (list_sort_treeK strKind_oneLt (s:={ s with heap:=s.heap.push (seqObj "list" vs.toArray 0) }) ho hS.keysOf (λv1 v2 rest e=>keyKind_strs (by rw [<- e];exact hS)) h64 λst p1 p2=>⟨_,rfl,?_⟩) (args_list_sort _)))
 obtain ⟨ss',a1,a2,a3⟩:=sorted_out_str hS p1 p2;obtain ⟨e,he⟩:=sortedHeap_at (out:=(arrOf st).map (·.2)) ho;refine yP (h _ _ ss' e (λb o hb=>?_) (by rw [Array.toArray_toList];exact he) a1 a2 a3);have hlt:=yT hb;rw [sortedHeap_old (yQ hlt) (by rw [uW];exact uy hlt)];exact yX _ hb
theorem Ud (hS:StrsAre vs ss)(h64:vs.length<64)(h:∀ (h':Heap) (out:List Value) (ss':List Str) (e:Nat),(∀ b o,s.heap.get? b=some o->h'.get? b=some o)->h'.get? s.heap.objs.size=some (seqObj "list" out.toArray e)->StrsAre out ss'->ss'.Perm ss->sortedS ss'=true->Q (.ref s.heap.objs.size) { s with heap:=h' }):wpAny (model P w) A (newList vs >>= λl=>holding [l] (call (.builtin "list.sort") [l] []) >>= λ_=>ret l) (λfin s'=>∃ v,fin=PySem.Fin.done (.ret v)/\Q v s') E s:=by
 refine yY (wpAny_newList ?_);have ho:(s.heap.push (seqObj "list" vs.toArray 0)).get? s.heap.objs.size=some (seqObj "list" vs.toArray 0):=yJ _ rfl;refine yY (wpAny_holding (wpAny_call_entry slot_list_sort (s:={ s with heap:=s.heap.push (seqObj "list" vs.toArray 0) }) ⟨_,ho,rfl⟩ entry_list_sort
  (list_sort_treeK strKind_oneLt (s:={ s with heap:=s.heap.push (seqObj "list" vs.toArray 0) }) ho hS.keysOf (λv1 v2 rest e=>keyKind_strs (by rw [<- e];exact hS)) h64 λst p1 p2=>⟨_,rfl,?_⟩) (args_list_sort _)))
 obtain ⟨ss',a1,a2,a3⟩:=sorted_out_str hS p1 p2;obtain ⟨e,he⟩:=sortedHeap_at (out:=(arrOf st).map (·.2)) ho;refine yP ⟨_,rfl,h _ _ ss' e (λb o hb=>?_) (by rw [Array.toArray_toList];exact he) a1 a2 a3⟩;have hlt:=yT hb;rw [sortedHeap_old (yQ hlt) (by rw [uW];exact uy hlt)];exact yX _ hb
theorem VO {K:Fg}(hc:X.calm=true)(hK:X.K=K):CallR X (.builtin "sorted") (YC K):=by
 subst hK;intro pins s σ H xs us Q I r h;obtain ⟨a,ss,rfl,hq,h64,q⟩:=h;obtain ⟨u,rfl,ru⟩:=xc r;obtain rfl:u=Value.ref a:=ru;rcases hq with hq|⟨kvs,hq,hk⟩
 ·obtain ⟨its,rv,p,hz⟩:=I.list hq;have hS:=Ui rv;have hl:its.length=ss.length:=by have e:=rv.length;rw [yZ] at e;exact e.symm
  refine sorted_strs p.isList hS (by omega) λout ss' a1 a2 a3=>?_;obtain ⟨e,he⟩:=sortedAll_at s.heap its out;refine ⟨.ref _,_,I.laid (t':=s.toks) (o:= .lst (ss'.map V.str)) (λb o hb=>sortedAll_old hb) (uz _) ?_,rfl,q _ ss' (I.hok.fresh (uz _)) a2 (Jj a3)⟩;exact ⟨by rw [yZ,a2.length_eq];exact yc (zN (by omega)),out.toList,e,QY a1,by simpa [seqObj] using he⟩
 ·obtain ⟨z,hd,vs,rel,dd⟩:=xY I.hok hq;obtain ⟨ep,hat⟩:=dd.dictAt;have ek:=WF rel hk;have hvl:vs.length=ss.length:=by have:=congrArg List.length ek;rwa [yZ,yZ] at this
  refine Calls.call_function_entry (id:="sorted") kind_sorted plain_sorted entry_sorted (args_sorted1 _) ?_;unfold Builtin.«sorted»;refine yY (m:=checkCount "sorted" 1 1 _) (yP ?_);refine yY (PySem.W.kdu_collect (PySem.W.kdl_dict (knd:=i4 X.prog X.w) (kvs:=vs) (ep:=ep) hd) (by simpa using I.ok.hd hc) hat (yc (zN (by omega))) λh1 tk acc k1 hacc=>?_);have hS:=Wz ek hacc;have hal:acc.toList.length=ss.length:=by have:=hacc.1;simp;omega
  refine Ud (s:={ s with heap:=h1,toks:=tk }) hS (by omega) λh' out ss' e k2 he a1 a2 a3=>?_;have I1:Inv X pins σ H { s with heap:=h1,toks:=tk }:=I.kept (t':=tk) k1;refine ⟨.ref _,_,I1.laid (t':=tk) (o:= .lst (ss'.map V.str)) k2 (yU _) ?_,rfl,q _ ss' (I1.hok.fresh (yU _)) a2 (Jj a3)⟩;exact ⟨by rw [yZ,a2.length_eq];exact yc (zN (by omega)),out,e,QY a1,he⟩
end
end L2
namespace L2
open PySem PySem.Spec PySem.Calls
variable{a:Addr}{its:Array Value}{n:Nat}
section
variable {P:Program}{w:World}{A:Around}{E:Value->Shared->Prop}
theorem BB:typeLookup (.type "list") "keys"=pure none:=am_miss_of_fast (by kernel_rfl)
theorem BA:typeLookup (.type "list") "__getattr__"=pure none:=am_miss_of_fast (by kernel_rfl)
theorem KB {hp:Heap}{g:Array GenState}{d:Drawn}{tk:Nat}{os:_}{u:Tok}{Q:PySem.Fin->Shared->Prop}(ho:hp.get? a=some { cls:= .type "list",data:= .seq its n })(hh:A.handled=none)(h:∀ h' tk' e,Heap.NewAttrErr hp h' e (.ref a) "keys"->E (.ref e) ⟨h',g,d,tk',os⟩):wpAny (model P w) A (Builtin.«object.__getattribute__» ⟨[.ref a,.str "keys" u],[]⟩) Q E ⟨hp,g,d,tk,os⟩:=by
 have hT:(⟨hp,g,d,tk,os⟩:Shared).TypeIs (.ref a) "list":=⟨_,ho,rfl⟩;have f0:=BB;unfold Builtin.«object.__getattribute__»
 (repeat (any_goals (first|assumption|wp_step)))
 exact wpAny_raiseAttrError (s:=⟨hp,g,d,tk,os⟩) hh h (attrMsg_fits (by decide +kernel) (by decide +kernel))
theorem Gc {s:Shared}{Q:Option Value->Shared->Prop}(ho:s.heap.get? a=some { cls:= .type "list",data:= .seq its n })(hh:A.handled=none)(h:∀ h' tk,(∀ b o,s.heap.get? b=some o->h'.get? b=some o)->Q none { s with heap:=h',toks:=tk }):wpAny (model P w) A (getAttr? (.ref a) "keys") Q E s:=by
 obtain ⟨hp,g,d,tk,os⟩:=s;have hT:∀ t',(⟨hp,g,d,t',os⟩:Shared).TypeIs (.ref a) "list":=λ_=>⟨_,ho,rfl⟩;have f1:=sub_AttributeError;have f2:=PySem.F.slot_list_getattribute.lookup;have f3:=PySem.F.slot_list_getattribute.bind (.ref a);have f5:=BA;unfold getAttr? getAttrBy? getAttrBy
 (repeat (any_goals (first|assumption|exact hT _|wp_step)))
 refine codeAny_call_builtin PySem.F.slot_list_getattribute.plain PySem.F.entry_list_ga (PySem.F.slot_list_getattribute.check _ _ _ _ _ _ _ _ (hT _) (PySem.F.args_list_getattribute_2 _ _) (KB ho (by simpa using hh) λh' tk' e hx=>?_));obtain ⟨t',u',he⟩:=hx.there;have hk:=hx.keeps;show wpAny _ _ (getattributeRaised _ _ _ _ _ _ _) _ _ _;unfold getattributeRaised
 (repeat (any_goals (first|assumption|wp_step)))
 exact h _ _ hk
end
end L2
namespace L2
open PySem PySem.Spec PySem.Calls PyProof.Rows
variable{s:Shared}{Q:Value->Shared->Prop}{e:Expr}{pos:Pos}{K:Fg}{A:Around}
theorem Gr:bootBuiltins "set"=some (.type "set"):=by decide +kernel
section
variable {P:Program}{w:World}{A:Around}{R:Result->Shared->Prop}{I:Addr}{fp wr:List Addr}{n:Nat}{Pp:Nat->Value->Prop}{St:Nat->Heap->Prop}
abbrev dfl:List (Str×Value):=[(Str.ofString "default",Value.none)]
theorem BO (W:Walks P w A.in1 I fp wr n Pp St)(bt:Nat->Nat->Bool)(hcmp:CmpOf P w A.in1 .Gt Pp bt)(a:Addr)(ha:a∉fp):∀ (m j:Nat) (s:Shared) (vb:Value) (c:Nat),n-(j+1)=m->j+1<=n->St (j+1) s.heap->Pp (argBest bt j) vb -> s.heap.get? a=some { cls:= .type "list",dict:=none,data:= .seq #[vb,vb] c,slots:=#[] } -> (∀ v h' tk,Pp (argBest bt (n-1)) v->(∀ b o,b∉wr->b≠a->s.heap.get? b=some o->h'.get? b=some o)->R (.ok (.ret v)) { s with heap:=h',toks:=tk }) -> codeAny (model P w) A (.builtin "max.loop" ⟨[.ref I,.none,.ref a],dfl⟩) R s:=by
 have haw:a∉wr:=λz=>ha (W.sub _ z);have nm:(toString "max"++toString ".loop":String) = "max.loop":=by decide
 intro m
 induction m with
 |zero =>
  intro j s vb c hm hj st hP hS hR;have hin:j+1=n:=by omega
  refine codeAny_builtin PySem.F.entry_max_loop ?_;rw [Around.under_plainId PySem.F.plain_max_loop _];show wpAny _ A.in1 (seqItems? (.ref a) >>= _) _ _ s;refine yY (wpAny_seqItems hS rfl ?_);show wpAny _ A.in1 (tryCatch (pyNext (.ref I)) _ >>= _) _ _ s;refine yY (wpAny_tryCatch (W.done s _ _ (hin▸st) λh' tk kk=>?_));have hS':=kk a _ haw hS;show wpAny _ A.in1 (updateSeq a (λ_=>#[]) >>= _) _ _ _;refine yY (wpAny_updateSeq hS' rfl (yY (wpAny_letGo (yP ?_))));exact hR vb _ tk (by rw [<- hin];exact hP) λb o z1 z2 e=>(yw _ _ (Ne.symm z2)).trans (kk b o z1 e)
 |succ m ih =>
  intro j s vb c hm hj st hP hS hR;have hlt:j+1<n:=by omega
  refine codeAny_builtin PySem.F.entry_max_loop ?_;rw [Around.under_plainId PySem.F.plain_max_loop _];show wpAny _ A.in1 (seqItems? (.ref a) >>= _) _ _ s;refine yY (wpAny_seqItems hS rfl ?_);show wpAny _ A.in1 (tryCatch (pyNext (.ref I)) _ >>= _) _ _ s;refine yY (wpAny_tryCatch (W.item (j+1) s _ _ hlt st λv h' tk hPv st' kk=>?_));have hS':=kk a _ haw hS;show wpAny _ A.in1 (tryCatch (holding [v,v] (richCompare .Gt v vb >>= _)) _ >>= _) _ _ _;refine yY (wpAny_tryCatch (wpAny_holding (yY (hcmp (j+1) (argBest bt j) v vb _ _ _ hPv hP (yY (wpAny_holding (wpAny_truthy_bool (yY (wpAny_letGo (yP ?_))))))))));cases hb:bt (j+1) (argBest bt j) with
  |true =>
   simp only [if_true];refine yY (wpAny_updateSeq hS' rfl (yY (wpAny_letGo ?_)));rw [nm];refine yP ⟨plainId_quiet PySem.F.plain_max_loop _,ih (j+1) _ v _ (by omega) hlt (W.frame _ _ _ st' λb z o e=>?_) (by simp only [argBest,hb,if_true];exact hPv) (uZ _ hS' rfl) λv' h2 tk2 hP2 k2=>?_⟩
   ·exact (yw _ _ (λq:a=b=>ha (by rw [q];exact z))).trans e
   ·exact hR v' h2 tk2 hP2 λb o z1 z2 e=>k2 b o z1 z2 ((yw _ _ (Ne.symm z2)).trans (kk b o z1 e))
  |false=>simp only [uY,if_false];refine yY (wpAny_letGo ?_);rw [nm];refine yP ⟨plainId_quiet PySem.F.plain_max_loop _,ih (j+1) _ vb c (by omega) hlt st' (by simp only [argBest,hb,uY,if_false];exact hP) hS' λv' h2 tk2 hP2 k2=>?_⟩;exact hR v' h2 tk2 hP2 λb o z1 z2 e=>k2 b o z1 z2 (kk b o z1 e)
theorem BN (W:Walks P w A.in1 I fp wr n Pp St)(bt:Nat->Nat->Bool)(hcmp:CmpOf P w A.in1 .Gt Pp bt)(a:Addr)(ha:a∉fp){c:Nat}(st:St 0 s.heap)(hS:s.heap.get? a=some { cls:= .type "list",dict:=none,data:= .seq #[] c,slots:=#[] })(hR:∀ v h' tk,(if n=0 then v = .none else Pp (argBest bt (n-1)) v)->(∀ b o,b∉wr->b≠a->s.heap.get? b=some o->h'.get? b=some o)->R (.ok (.ret v)) { s with heap:=h',toks:=tk }):codeAny (model P w) A (.builtin "max.loop" ⟨[.ref I,.none,.ref a],dfl⟩) R s:=by
 have haw:a∉wr:=λz=>ha (W.sub _ z);have nm:(toString "max"++toString ".loop":String) = "max.loop":=by decide
 refine codeAny_builtin PySem.F.entry_max_loop ?_;rw [Around.under_plainId PySem.F.plain_max_loop _];show wpAny _ A.in1 (seqItems? (.ref a) >>= _) _ _ s;refine yY (wpAny_seqItems hS rfl ?_);show wpAny _ A.in1 (tryCatch (pyNext (.ref I)) _ >>= _) _ _ s;by_cases hn:n=0
 ·subst hn;refine yY (wpAny_tryCatch (W.done s _ _ st λh' tk kk=>?_));show wpAny _ A.in1 (rule _ >>= _) _ _ _;refine yY (wpAny_rule ?_);exact yP (hR .none h' tk (by rw [if_pos rfl]) λb o z1 _ e=>kk b o z1 e)
 ·refine yY (wpAny_tryCatch (W.item 0 s _ _ (by omega) st λv h' tk hPv st' kk=>?_));have hS':=kk a _ haw hS;show wpAny _ A.in1 (updateSeq a (λ_=>#[v,v]) >>= _) _ _ _;refine yY (wpAny_updateSeq hS' rfl ?_);rw [nm];refine yP ⟨plainId_quiet PySem.F.plain_max_loop _,BO W bt hcmp a ha _ 0 _ v _ rfl (by omega) (W.frame _ _ _ st' λb z o e=>?_) hPv (uZ _ hS' rfl) λv' h2 tk2 hP2 k2=>?_⟩
  ·exact (yw _ _ (λq:a=b=>ha (by rw [q];exact z))).trans e
  ·exact hR v' h2 tk2 (by rw [if_neg hn];exact hP2) λb o z1 z2 e=>k2 b o z1 z2 ((yw _ _ (Ne.symm z2)).trans (kk b o z1 e))
end
section
variable {P:Program}{w:World}{A:Around}{E:Value->Shared->Prop}{s:Shared}{l:Addr}{xs:Array (Int×Tok)}
theorem UY (v:Value):argsOk "max" ⟨[v],[(Str.ofString "default",Value.none)]⟩:=by unfold argsOk;kernel_rfl
theorem Gv:Builtin.Builtins.bindParams "max" ["key","default"] 0 ⟨[],[(Str.ofString "default",Value.none)]⟩=pure [none,some Value.none]:=by kernel_rfl
theorem BM (hh:A.handled=none)(hl:s.heap.IsList l (intItems xs))(h:∀ v h' tk,(if xs.size=0 then v = .none else (intItems xs)[argBest (λi j=>decide (numAt xs i > numAt xs j)) (xs.size-1)]?=some v)->(∀ b o,s.heap.get? b=some o->h'.get? b=some o)->Q v { s with heap:=h',toks:=tk }):wpAny (model P w) A (call (.builtin "max") [.ref l] [(Str.ofString "default",Value.none)]) Q E s:=by
 have nm:(toString "max"++toString ".loop":String) = "max.loop":=by decide
 refine kmb_tree PySem.F.kind_max PySem.F.plain_max PySem.F.entry_max (UY _) ?_;show wpAny _ A.in1 (Builtin.Builtins.bindParams "max" ["key","default"] 0 ⟨[],[(Str.ofString "default",Value.none)]⟩ >>= _) _ _ s;refine yY (wpAny_of_eq Gv ?_);refine yY (yP ?_);refine yY (iter_intList hl λs2 e st hfp hlI=>?_);subst e;refine yY (wpAny_newObj_type ?_);have hSf:=λhm=>ye _ (hfp _ hm);rw [nm];refine yP ⟨plainId_quiet PySem.F.plain_max_loop _,BN (Walks.list (A:=A.in1) hh _ l hlI (intItems xs)) _ (CmpOf.ints_gt (numAt xs) (λ_ _=>intItems_at)) _ hSf (((Walks.list (prog:=P) (w:=w) (A:=A.in1) hh _ l hlI (intItems xs))).frame _ _ _ st λb _ o e=>yX _ e) (yJ _ rfl) λv h' tk hP kk=>?_⟩;refine h v h' tk (by simpa [intItems] using hP) λb o e=>?_;have hlt:=yT e;refine kk b o (by simp only [yO];exact yQ hlt) ?_ (yX _ (yX _ e));rw [uW];exact yQ (uy hlt)
end
theorem WU (e:Expr)(z:Str)(t:Tok):∀ r,letTemporaryGo e (.str z t) r=pure ():=λr=>by cases e<;>rfl
section
variable {X:Cx}
theorem CK {te:TE}{lo hi:Option Expr}{tl th:TO}{p2:Pos}(he:PE X e te)(hl:PO X lo tl)(hu:PO X hi th):PE X (.Subscript e (.Slice lo hi none p2) pos) (tSlS te tl th):=by
 intro pins s σ H Q I h;refine Subscript_ (z8 (he pins s σ H _ I h) λv s1 ⟨x,H1,I1,r1,q1⟩=>?_);refine wpAny_Slice (z8 (hl pins s1 σ H1 _ I1 q1) λvl s2 ⟨l,H2,I2,pl,q2⟩=>z8 (hu pins s2 σ H2 _ I2 q2) λvu s3 ⟨u,H3,I3,pu,q3⟩=>?_);rw [evalPart_none];refine yP ?_;obtain ⟨z,e1,hz,alt,q⟩:=q3;subst e1;obtain ⟨t,rfl⟩:=r1;have kp:KeptH (λh=>∀ k,Inv X pins σ H3 { s3 with heap:=h,toks:=k }):=λh ob a k=>(a k).kept (t':=k) λb o e=>yX _ e;have I0:∀ k,Inv X pins σ H3 { s3 with heap:=s3.heap,toks:=k }:=λk=>I3.tok k;rcases alt with ⟨rfl,j,rfl⟩|⟨rfl,i,rfl⟩
 ·cases pl;cases pu with
  |int j' uj=>exact tail_of_ItemOn (SBH.sliceItem_ns kp I0 (λh' t' k a=>⟨.str _,H3,a k,⟨_,rfl⟩,q⟩) hz) (by with_unfolding_all rfl) (WU _ _ _)
 ·cases pu;cases pl with
  |int i' ui=>exact tail_of_ItemOn (SBH.sliceItem_sn kp I0 (λh' t' k a=>⟨.str _,H3,a k,⟨_,rfl⟩,q⟩) hz) (by with_unfolding_all rfl) (WU _ _ _)
end
section
variable {X:Cx}
def Ur (K:Fg)(t:TA):TE:=λσ H Q=>t σ H λvs H1=>∃(a:Addr)(ns:List Int),vs=[.ref a]/\SqL K H1 a (ns.map V.int)/\(ns=[]->Q .non H1)/\(ns≠[]->∀ m,m∈ns->(∀ y∈ns,y<=m)->Q (.int m) H1)
theorem XZ {t:TA}{p kp cp:Pos}{ct:Nat}(hK:X.K=K)(hc:X.calm=true)(hg:Gl X "max")(hm:X.mg "max"=none)(ha:PA X [e] t)(hs:backTo pos (starEach [e] X.env)=(false,eval e X.env)::backTo pos (starEach [] X.env):=by rfl)(hpl:(backTo pos (starEach [e] X.env)).any (·.1)=false:=by rfl):PE X (.Call (.Name "max" p) [e] [⟨some "default",.Constant .none ct cp,kp⟩] pos) (Ur K t):=by
 subst hK;intro pins s σ H Q I h;refine wpAny_Call_Name_kw (xB I hg hm Gq ?_ (by decide) (by decide));refine PyProof.Rows.callWith_kw (z8 (ha pos pins s σ H _ I h) λus s1 ⟨vs,H1,I1,r1,q1⟩=>?_) hs hpl;refine PyProof.Rows.kws_cons (Constant_none (PyProof.Rows.kws_nil ?_));obtain ⟨a,ns,rfl,hq,qe,qn⟩:=q1;obtain ⟨u,rfl,ru⟩:=xc r1;obtain rfl:u=Value.ref a:=ru;obtain ⟨its,rv,pl,hz⟩:=I1.list hq;obtain ⟨ys,ey,el,en⟩:=KY rv;have hl:s1.heap.IsList a its.toArray:=pl.isList;rw [ey] at hl;show wpAny _ _ (call (.builtin "max") [.ref a] [(Str.ofString "default",Value.none)]) _ _ _;refine BM (I1.ok.hd hc) hl λv h' tk hv k=>?_;by_cases hne:ns=[]
 ·have hz0:ys.size=0:=by rw [el,hne];rfl
  rw [if_pos hz0] at hv;subst hv;exact ⟨.non,H1,I1.kept (t':=tk) k,rfl,qe hne⟩
 ·have hp:0<ns.length:=List.length_pos_iff.mpr hne;rw [if_neg (by omega)] at hv;obtain ⟨t,rfl⟩:=intItems_at hv;obtain ⟨h1,h2⟩:=argBest_gt (numAt ys) (ys.size-1);exact ⟨.int _,H1,I1.kept (t':=tk) k,⟨t,rfl⟩,qn hne _ (Gf en (by omega)) (Ge en λj hj=>h2 j (by omega))⟩
end
section
variable {P:Program}{w:World}{κ:Type}[DecidableEq κ]{knd:PySem.KeyKind P w κ}
theorem Wf:entryFor table "dict.update.loop"=some Builtin.«dict.update.loop»:=entryFor_of_tree (by kernel_rfl)
theorem QO:plainId "dict.update.loop"=true:=by decide +kernel
theorem Kd {R:Result->Shared->Prop}{I:Addr}{fp wr:List Addr}{Pp:Nat->Value->Prop}{St:Nat->Heap->Prop}{more:List (κ×Value)}{lo:Addr}(W:Walks P w A.in1 I fp wr more.length Pp St)(d:Addr)(hdf:d∉fp)(hlo:lo<=d)(hwr:∀ b∈wr,lo<=b)(hsz:more.length<=sizeLine):∀ (m i:Nat) (z:Int) (tk:Tok) (s:Shared),more.length-i=m->i<=more.length->St i s.heap->s.heap.DictOf knd d (merged [] (more.take i)) -> (∀ j v kv,Pp j v->more[j]?=some kv->∃ t k,t<lo/\v = .ref t/\knd.is kv.1 k=true/\IsTup s.heap t #[k,kv.2]) -> (∀ h' tk',(∀ b o,b<lo->s.heap.get? b=some o->h'.get? b=some o)->h'.DictOf knd d (merged [] more)->R (.ok (.ret .none)) { s with heap:=h',toks:=tk' }) -> codeAny (model P w) A (.builtin "dict.update.loop" ⟨[.ref d,.ref I,.int z tk,.none],[]⟩) R s:=by
 have hdw:d∉wr:=λq=>hdf (W.sub _ q);intro m
 induction m with
 |zero =>
  intro i z tk s hm hi st hd hp hR;have hin:i=more.length:=by omega
  subst hin;refine codeAny_builtin Wf ?_;rw [Around.under_plainId QO _];show wpAny _ A.in1 (pyNext (.ref I) >>= _) _ _ s;refine yY (W.done s _ _ st λh' tk' k=>?_);show wpAny _ A.in1 (Builtin.Dict.addKeywords d [] >>= _) _ _ _;refine yY (yP ?_);refine yP (hR h' tk' (λb o hb e=>k b o (λq=>absurd (hwr b q) (Nat.not_le.mpr hb)) e) ?_);rw [List.take_length] at hd;obtain ⟨o,es,ep,ho,r⟩:=hd;exact ⟨o,es,ep,k d o hdw ho,r⟩
 |succ m ih =>
  intro i z tk s hm hi st hd hp hR;have hlt:i<more.length:=by omega
  refine codeAny_builtin Wf ?_;rw [Around.under_plainId QO _];show wpAny _ A.in1 (pyNext (.ref I) >>= _) _ _ s;refine yY (W.item i s _ _ hlt st λv h' tk' hPv st' k=>?_);obtain ⟨t,kk,ht,rfl,hk,o,ho,hc,n,hdt⟩:=hp i v more[i] hPv (yV hlt);have ho':h'.get? t=some o:=k t o (λq=>absurd (hwr t q) (Nat.not_le.mpr ht)) ho;have hd':h'.DictOf knd d (merged [] (more.take i)):=by obtain ⟨o,es,ep,ho,r⟩:=hd;exact ⟨o,es,ep,k d o hdw ho,r⟩
  have hT:Shared.TypeIs { s with heap:=h',toks:=tk' } (.ref t) "tuple":=⟨o,ho',hc⟩;show wpAny _ A.in1 (holding [.ref t] _ >>= _) _ _ _;refine yY (wpAny_holding (yY (wpAny_tryCatch ?_)));unfold Builtin.Dict.pairItems;refine yY (wpAny_typeOf hT ?_);rw [if_pos (by decide)];refine yY (wpAny_seqItems ho' hdt (yP ?_));show wpAny _ A.in1 (holding [kk,more[i].2] (dictSet d kk more[i].2)) _ _ _;refine wpAny_holding (wpAny_dictSet_pairs (knd:=knd) hk hd' (λh2 hd2 sb=>?_) ?_)
  ·rw [<- merged_take_succ [] more i more[i] (yV hlt)] at hd2;have keep2:∀ b o,b<lo->s.heap.get? b=some o->h2.get? b=some o:=λb o hb e=>by
    rw [sb.2 b (yQ (yC hb hlo))];exact k b o (λq=>absurd (hwr b q) (Nat.not_le.mpr hb)) e
   refine yP ⟨plainId_quiet QO _,ih (i+1) _ _ _ (by omega) hlt (W.frame _ _ _ st' λb hb o e=>?_) hd2 (λj v kv hv hj=>?_) λh3 tk3 k3 hd3=>?_⟩
   ·rw [sb.2 b (λq=>hdf (by rw [<- q];exact hb))];exact e
   ·obtain ⟨t,kk,ht,rfl,hk,o,ho,r⟩:=hp j v kv hv hj;exact ⟨t,kk,ht,rfl,hk,o,keep2 t o ht ho,r⟩
   ·exact hR h3 tk3 (λb o hb e=>k3 b o hb (keep2 b o hb e)) hd3
  ·have:=merged_length_le [] (more.take i);rw [ut,List.length_nil] at this;omega
theorem Gz {E:Value->Shared->Prop}{l:Addr}{its:Array Value}{n:Nat}{more:List (κ×Value)}(hh:A.handled=none)(ho:s.heap.get? l=some { cls:= .type "list",data:= .seq its n })(hlen:its.size=more.length)(hsz:more.length<=sizeLine)(hp:∀ (j:Nat) (v:Value) (kv:κ×Value),its[j]?=some v->more[j]?=some kv->∃ t k,v = .ref t/\knd.is kv.1 k=true/\IsTup s.heap t #[k,kv.2])(h:∀ h' tk',(∀ b o,s.heap.get? b=some o->h'.get? b=some o)->h'.DictOf knd s.heap.objs.size (merged [] more)->Q (.ref s.heap.objs.size) { s with heap:=h',toks:=tk' }):wpAny (model P w) A (call (.type "dict") [.ref l]) Q E s:=by
 refine callType_codes (Q₁:=λob s1=>ob = .ref s.heap.objs.size/\s1={ s with heap:=s.heap.push { cls:= .type "dict",data:= .dict #[] } }) PySem.F.kt_called_dict (PySem.F.kt_typeCall_dict_1 _) PySem.F.entry_dict_init (kt_code_dict_new _ ⟨rfl,rfl⟩) ?_;rintro ob s1 ⟨rfl,rfl⟩;have hnew:(s.heap.push { cls:= .type "dict",data:= .dict #[] }).DictOf knd s.heap.objs.size []:=Heap.DictOf.new s.heap;have ho':(s.heap.push { cls:= .type "dict",data:= .dict #[] }).get? l=some { cls:= .type "list",data:= .seq its n }:=yX _ ho;have hTl:Shared.TypeIs { s with heap:=s.heap.push { cls:= .type "dict",data:= .dict #[] } } (.ref l) "list":=⟨_,ho',rfl⟩;have hlt:l<s.heap.objs.size:=yT ho;refine ⟨hnew.typeIs,PySem.F.args_dict_init_2 _ _,?_⟩;unfold Builtin.«dict.__init__»;refine yY ?_;unfold Builtin.Dict.selfAndRest;refine yY (wpAny_notOrdered_dict hnew.typeIs ?_);show wpAny _ _ (pure (s.heap.objs.size,[Value.ref l])) _ _ _;refine yP ?_;show wpAny _ _ (Builtin.Dict.updateFrom "dict.__init__" s.heap.objs.size (.ref l) [] .none) _ _ _;unfold Builtin.Dict.updateFrom;refine yY (wpAny_typeOf hTl ?_);rw [if_pos (by decide)];refine yY (Gc ho' (by simpa using hh) λh1 tk1 k1=>?_);rw [if_pos (show (none:Option Value).isNone=true from rfl)];refine yY (wpAny_rule ?_);have ho1:=k1 _ _ ho';have hl1:h1.IsList l its:=⟨_,ho1,rfl,n,rfl⟩;refine yY (wpAny_pyIter_list (s:={ s with heap:=h1,toks:=tk1 }) hl1 ?_);have hd1:h1.DictOf knd s.heap.objs.size []:=by obtain ⟨o,es,ep,hq,r⟩:=hnew;exact ⟨o,es,ep,k1 _ _ hq,r⟩
 have hdlt:s.heap.objs.size<h1.objs.size:=by obtain ⟨o,es,ep,hq,r⟩:=hd1;exact yT hq
 have hll:l<h1.objs.size:=yT ho1;refine yP ⟨plainId_quiet QO _,?_⟩;have W:=Walks.list (prog:=P) (w:=w) (A:=A.in1.in1) (by simpa using hh) h1.objs.size l (yQ hll) its;rw [hlen] at W;refine Kd (knd:=knd) (lo:=s.heap.objs.size) W s.heap.objs.size ?_ (yU _) (λb hb=>?_) hsz more.length 0 _ _ { s with heap:=h1.push { cls:= .type "list_iterator",data:= .fields #[.ref l,.int 0 0] },toks:=tk1 } (by omega) (yk _) ⟨⟨_,yJ _ rfl,rfl,rfl⟩,hl1.push _⟩ ?_ (λj v kv hv hj=>?_) λh' tk' kp hd=>?_
 ·simp only [yL,yi,or_false,not_or];exact ⟨yQ hdlt,uw hlt⟩
 ·rw [yO.mp hb];exact yc hdlt
 ·obtain ⟨o,es,ep,hq,r⟩:=hd1;exact ⟨o,es,ep,yX _ hq,r⟩
 ·obtain ⟨t,k,rfl,hk,o,hto,r⟩:=hp j v kv hv hj;exact ⟨t,k,yT hto,rfl,hk,o,yX _ (k1 _ _ (yX _ hto)),r⟩
 ·exact ⟨rfl,h h' tk' (λb o e=>kp b o (yT e) (yX _ (k1 _ _ (yX _ e)))) hd⟩
end
section
variable {X:Cx}
theorem Cw {pins:List (Addr×Obj)}{σ:St}{H:Hp}(I:Inv X pins σ H s){ts:List Addr}{kvs:List (z7×V)}(r:Paired (λt (kv:z7×V)=>H t=some (.tup [kV kv.1,kv.2])) ts kvs):∃ more:List (z7×Value),KV kvs more/\∀(j:Nat)(t:Addr)(m:z7×Value),ts[j]?=some t->more[j]?=some m->∃ k,(i4 X.prog X.w).is m.1 k=true/\IsTup s.heap t #[k,m.2]:=by
 induction r with
 |nil=>exact ⟨[],.nil,λj t m h=>by simp at h⟩
 |@cons t kv ts kvs p _ ih =>
  obtain ⟨more,k1,k2⟩:=ih;obtain ⟨_,its,rv,ht⟩:=(show ObjOk X.prog X.w H s.heap t (.tup [kV kv.1,kv.2]) from I.hok t _ p);cases rv with
  |cons p1 r1 =>
   cases r1 with
   |cons p2 r2 =>
    cases r2;rename_i u1 u2;refine ⟨(kv.1,u2)::more,.cons ⟨rfl,p2⟩ k1,λj t' m h1 h2=>?_⟩;cases j with
    |zero=>simp at h1 h2;subst h1 h2;exact ⟨u1,jR p1,ht⟩
    |succ j=>exact k2 j t' m (by simpa using h1) (by simpa using h2)
theorem UG:∀{ts:List Addr}{us:List Value},Vals (ts.map V.ref) us->us=ts.map Value.ref
 |[],_,.nil=>rfl
 |t::ts,_,.cons p r=>by
  obtain rfl:=(show _=Value.ref t from p);rw [UG r];rfl
theorem JE:∀{kvs:List (z7×V)}{vs:List (z7×Value)},KV kvs vs->vs.map (·.1)=kvs.map (·.1)
 |[],_,.nil=>rfl
 |_::_,_,.cons p r=>by rw [yN,yN,JE r,p.1]
end
section
variable {X:Cx}{tg:Expr}
def Yv:List V->Hp->VK->Prop:=λxs H Q=>∃(a:Addr)(ts:List Addr)(kvs:List (z7×V)),xs=[.ref a]/\H a=some (.lst (ts.map V.ref))/\Paired (λt (kv:z7×V)=>H t=some (.tup [kV kv.1,kv.2])) ts kvs/\(kvs.map (·.1)).Nodup/\kvs.length<=1000 /\
  ∀ l o,H l=none->Q (.ref l) (j0 H l (.frz o (.dK kvs)))
theorem Gy (hc:X.calm=true)(_:X.K=K):CallR X (.type "dict") Yv:=by
 intro pins s σ H xs us Q I r h;obtain ⟨a,ts,kvs,rfl,hq,hp,hn,h1000,q⟩:=h;obtain ⟨u,rfl,ru⟩:=xc r;obtain rfl:u=Value.ref a:=ru;obtain ⟨hz,its,n,rv,ho⟩:=(show ObjOk X.prog X.w H s.heap a (.lst (ts.map V.ref)) from I.hok a _ hq);have ei:=UG rv;obtain ⟨more,k1,k2⟩:=Cw I hp;have lk:more.length=kvs.length:=k1.length.symm;have lt:=hp.length;have hsl:more.length<=sizeLine:=yc (zN (by omega));refine Gz (knd:=i4 X.prog X.w) (more:=more) (I.ok.hd hc) ho (by rw [yW,ei,yZ];omega) hsl (λj v m hv hm=>?_) λh' tk k hd=>?_
 ·have hv':its[j]?=some v:=by simpa using hv
  rw [ei,yR] at hv';obtain ⟨t,ht,rfl⟩:=yG.mp hv';obtain ⟨kk,x1,x2⟩:=k2 j t m ht hm;exact ⟨t,kk,rfl,x1,x2⟩
 ·rw [merged_nil_of_nodup more (by rw [JE k1];exact hn)] at hd;obtain ⟨o,es,ep,ho',_⟩:=id hd;refine ⟨.ref s.heap.objs.size,_,I.laid (t':=tk) (o:= .frz o (.dK kvs)) k (yU _) ⟨ho',We (by omega) (beq_eq_false_iff_ne.mpr (Ne.symm (yQ I.big))) k1 hd⟩,rfl,q _ _ (I.hok.fresh (yU _))⟩
end
end L2
namespace Mi
open PySem L2
variable{H H' H0 Hb Hs Hs' Hs0:Hp}{u v:V}{ks:List z7}{C p:Addr}{ns:List Str}{vs:List V}{o:HO}{σ σ':St}{tb te:TE}{r:R2}{ta:TA}{n:Nat}{K:Fg}{t:TT}{E:XK}{nm:Str}{ts:List Nat}{tg:TG}{lo:Int}{wi:TI}
inductive PV where
 |at (v:V)|tup (xs:List PV)|lst (xs:List PV)|dk (ks:List z7) (xs:List PV)|fk (ks:List z7) (xs:List PV)|ob (C:Addr) (ns:List Str) (xs:List PV)|op (φ:Hp->V->Prop)
variable{xs:List PV}{x y:PV}{m:List PV->Option PV}
mutual
def Rep (H:Hp):PV->V->Prop
 | .at u,v=>v=u
 | .tup xs,v=>∃ a vs,v = .ref a/\H a=some (.tup vs)/\Reps H xs vs
 | .lst xs,v=>∃ a vs,v = .ref a/\H a=some (.lst vs)/\Reps H xs vs
 | .dk ks xs,v=>∃ a kvs,v = .ref a/\H a=some (.dK kvs)/\kvs.map (·.1)=ks/\Reps H xs (kvs.map (·.2))
 | .fk ks xs,v=>∃ a o kvs,v = .ref a/\H a=some (.frz o (.dK kvs))/\kvs.map (·.1)=ks/\Reps H xs (kvs.map (·.2))
 | .ob C ns xs,v=>∃ a dx fs,v = .ref a/\H a=some (.ins C dx fs)/\fs.map (·.1)=ns/\Reps H xs (fs.map (·.2))
 | .op φ,v=>∃ H',Same H' H/\φ H' v
def Reps (H:Hp):List PV->List V->Prop
 |[],vs=>vs=[]
 |x::xs,vs=>∃ v r,vs=v::r/\Rep H x v/\Reps H xs r
end
mutual
theorem Rep.mono {H H':Hp}(g:Same H H'):∀{x:PV}{v:V},Rep H x v->Rep H' x v
 | .at u,v,h=>by unfold Rep at h ⊢;exact h
 | .tup xs,v,h=>by unfold Rep at h ⊢;obtain ⟨a,vs,e,p,r⟩:=h;exact ⟨a,vs,e,g _ _ p,Reps.mono g r⟩
 | .lst xs,v,h=>by unfold Rep at h ⊢;obtain ⟨a,vs,e,p,r⟩:=h;exact ⟨a,vs,e,g _ _ p,Reps.mono g r⟩
 | .dk ks xs,v,h=>by unfold Rep at h ⊢;obtain ⟨a,vs,e,p,q,r⟩:=h;exact ⟨a,vs,e,g _ _ p,q,Reps.mono g r⟩
 | .fk ks xs,v,h=>by unfold Rep at h ⊢;obtain ⟨a,o,vs,e,p,q,r⟩:=h;exact ⟨a,o,vs,e,g _ _ p,q,Reps.mono g r⟩
 | .ob C ns xs,v,h=>by unfold Rep at h ⊢;obtain ⟨a,dx,vs,e,p,q,r⟩:=h;exact ⟨a,dx,vs,e,g _ _ p,q,Reps.mono g r⟩
 | .op φ,v,h=>by unfold Rep at h ⊢;obtain ⟨H1,s,p⟩:=h;exact ⟨H1,s.trans g,p⟩
theorem Reps.mono {H H':Hp}(g:Same H H'):∀{xs:List PV}{vs:List V},Reps H xs vs->Reps H' xs vs
 |[],vs,h=>by unfold Reps at h ⊢;exact h
 |x::xs,vs,h=>by unfold Reps at h ⊢;obtain ⟨v,r,e,p,q⟩:=h;exact ⟨v,r,e,Rep.mono g p,Reps.mono g q⟩
end
theorem rep_at :Rep H (.at u) v↔v=u:=by unfold Rep;exact Iff.rfl
theorem rep_tup :Rep H (.tup xs) v↔∃ a vs,v = .ref a/\H a=some (.tup vs)/\Reps H xs vs:=by unfold Rep;exact Iff.rfl
theorem rep_lst :Rep H (.lst xs) v↔∃ a vs,v = .ref a/\H a=some (.lst vs)/\Reps H xs vs:=by unfold Rep;exact Iff.rfl
theorem rep_dk :Rep H (.dk ks xs) v↔∃ a kvs,v = .ref a/\H a=some (.dK kvs)/\kvs.map (·.1)=ks/\Reps H xs (kvs.map (·.2)):=by unfold Rep;exact Iff.rfl
theorem rep_fk :Rep H (.fk ks xs) v↔∃ a o kvs,v = .ref a/\H a=some (.frz o (.dK kvs))/\kvs.map (·.1)=ks/\Reps H xs (kvs.map (·.2)):=by unfold Rep;exact Iff.rfl
theorem rep_ob :Rep H (.ob C ns xs) v↔∃ a dx fs,v = .ref a/\H a=some (.ins C dx fs)/\fs.map (·.1)=ns/\Reps H xs (fs.map (·.2)):=by unfold Rep;exact Iff.rfl
theorem rep_op {φ:Hp->V->Prop}:Rep H (.op φ) v↔∃ H',Same H' H/\φ H' v:=by unfold Rep;exact Iff.rfl
theorem reps_nil :Reps H [] vs↔vs=[]:=by unfold Reps;exact Iff.rfl
theorem reps_cons :Reps H (x::xs) vs↔∃ v r,vs=v::r/\Rep H x v/\Reps H xs r:=by
 constructor
 ·intro h;unfold Reps at h;exact h
 ·intro h;unfold Reps;exact h
theorem Reps.nil :Reps H [] []:=reps_nil.mpr rfl
theorem Reps.cons {H:Hp}{x:PV}{v:V}{xs:List PV}{vs:List V}(p:Rep H x v)(q:Reps H xs vs):Reps H (x::xs) (v::vs):=reps_cons.mpr ⟨v,vs,rfl,p,q⟩
theorem Reps.length {H:Hp}:∀{xs:List PV}{vs:List V},Reps H xs vs->vs.length=xs.length
 |[],vs,h=>by rw [reps_nil.mp h];rfl
 |x::xs,vs,h=>by obtain ⟨v,r,rfl,_,q⟩:=reps_cons.mp h;rw [yu,yu,Reps.length q]
theorem Reps.append {H:Hp}:∀{xs ys:List PV}{vs ws:List V},Reps H xs vs->Reps H ys ws->Reps H (xs++ys) (vs++ws)
 |[],ys,vs,ws,h,k=>by rw [reps_nil.mp h];exact k
 |x::xs,ys,vs,ws,h,k=>by obtain ⟨v,r,rfl,p,q⟩:=reps_cons.mp h;exact .cons p (Reps.append q k)
theorem Reps.one (p:Rep H x v):Reps H [x] [v]:= .cons p .nil
theorem Reps.get {H:Hp}:∀{xs:List PV}{vs:List V}{i:Nat}{x:PV},Reps H xs vs->xs[i]?=some x->∃ v,vs[i]?=some v/\Rep H x v
 |[],_,i,x,_,e=>by simp at e
 |y::xs,vs,0,x,h,e=>by
  obtain ⟨v,r,rfl,p,q⟩:=reps_cons.mp h;simp at e;subst e;exact ⟨v,rfl,p⟩
 |y::xs,vs,i+1,x,h,e=>by
  obtain ⟨v,r,rfl,p,q⟩:=reps_cons.mp h;obtain ⟨w,e1,e2⟩:=Reps.get (i:=i) (x:=x) q (by simpa using e);exact ⟨w,by simpa using e1,e2⟩
theorem Reps.reverse {H:Hp}:∀{xs:List PV}{vs:List V},Reps H xs vs->Reps H xs.reverse vs.reverse
 |[],vs,h=>by rw [reps_nil.mp h];exact .nil
 |x::xs,vs,h=>by
  obtain ⟨v,r,rfl,p,q⟩:=reps_cons.mp h;rw [List.reverse_cons,List.reverse_cons];exact (Reps.reverse q).append (.one p)
theorem Reps.ats {H:Hp}:∀{us vs:List V},Reps H (us.map .at) vs->vs=us
 |[],vs,h=>reps_nil.mp h
 |u::us,vs,h=>by
  obtain ⟨v,r,rfl,p,q⟩:=reps_cons.mp h;rw [rep_at.mp p,Reps.ats q]
theorem Reps.ofAts {H:Hp}:∀(us:List V),Reps H (us.map .at) us
 |[]=> .nil
 |u::us=> .cons (rep_at.mpr rfl) (Reps.ofAts us)
structure Ext (Hs H Hs' H':Hp):Prop where
 s1:Same Hs Hs'
 s2:Same H H'
 s3:Same Hs' H'
 s4:∀ b,H b≠none->Hs b=none->Hs' b=none
theorem Ub (g:Same H H'){b:Addr}(h:H b≠none):H' b≠none:=λz=>h (g.free z)
theorem Ext.refl (s:Same Hs H):Ext Hs H Hs H:=⟨.refl _,.refl _,s,λ_ _ z=>z⟩
theorem Ext.trans {A B A1 B1 A2 B2:Hp}(x:Ext A B A1 B1)(y:Ext A1 B1 A2 B2):Ext A B A2 B2:=⟨x.s1.trans y.s1,x.s2.trans y.s2,y.s3,λb h z=>y.s4 b (Ub x.s2 h) (x.s4 b h z)⟩
theorem Ext.new (s:Same Hs H)(h:H p=none):Ext Hs H (j0 Hs p o) (j0 H p o):=by
 have hs:Hs p=none:=s.free h;refine ⟨λb u e=>?_,λb u e=>?_,λb u e=>?_,λb e z=>?_⟩
 ·rw [j3 (u7 e hs)];exact e
 ·rw [j3 (u7 e h)];exact e
 ·by_cases hb:b=p
  ·subst hb;rw [y0] at e ⊢;exact e
  ·rw [j3 hb] at e ⊢;exact s _ _ e
 ·have hb:b≠p:=λq=>e (by rw [q];exact h);rw [j3 hb];exact z
theorem Ext.newO (s:Same Hs H)(h:H p=none):Ext Hs H Hs (j0 H p o) :=
 ⟨.refl _,λb u e=>by rw [j3 (u7 e h)];exact e,λb u e=>by rw [j3 (u7 (s _ _ e) h)];exact s _ _ e,λ_ _ z=>z⟩
def Top (Hs H:Hp)(a:Addr):PV->Prop
 | .lst xs=>∃ vs,H a=some (.lst vs)/\Reps Hs xs vs
 | .dk ks xs=>∃ kvs,H a=some (.dK kvs)/\kvs.map (·.1)=ks/\Reps Hs xs (kvs.map (·.2))
 | .ob C ns xs=>∃ dx fs,H a=some (.ins C dx fs)/\fs.map (·.1)=ns/\Reps Hs xs (fs.map (·.2))
 |_=>False
theorem Top.there {a:Addr}:∀{x:PV},Top Hs H a x->H a≠none
 | .lst _,h,z=>by obtain ⟨vs,e,_⟩:=h;rw [e] at z;cases z
 | .dk _ _,h,z=>by obtain ⟨vs,e,_⟩:=h;rw [e] at z;cases z
 | .ob _ _ _,h,z=>by obtain ⟨dx,vs,e,_⟩:=h;rw [e] at z;cases z
theorem Top.mono {a:Addr}(g:Same Hs Hs')(e:∀ o,H a=some o->H' a=some o):∀{x:PV},Top Hs H a x->Top Hs' H' a x
 | .lst _,h=>by obtain ⟨vs,q,r⟩:=h;exact ⟨vs,e _ q,r.mono g⟩
 | .dk _ _,h=>by obtain ⟨vs,q,k,r⟩:=h;exact ⟨vs,e _ q,k,r.mono g⟩
 | .ob _ _ _,h=>by obtain ⟨dx,vs,q,k,r⟩:=h;exact ⟨dx,vs,e _ q,k,r.mono g⟩
theorem Top.rep {a:Addr}:∀{x:PV},Top Hs H a x->Hs a=none->∃ o,H a=some o/\Rep (j0 Hs a o) x (.ref a)
 | .lst _,h,n=>by
  obtain ⟨vs,q,r⟩:=h;exact ⟨_,q,rep_lst.mpr ⟨a,vs,rfl,y0,r.mono λb u e=>by rw [j3 (u7 e n)];exact e⟩⟩
 | .dk _ _,h,n=>by
  obtain ⟨vs,q,k,r⟩:=h;exact ⟨_,q,rep_dk.mpr ⟨a,vs,rfl,y0,k,r.mono λb u e=>by rw [j3 (u7 e n)];exact e⟩⟩
 | .ob _ _ _,h,n=>by
  obtain ⟨dx,vs,q,k,r⟩:=h;exact ⟨_,q,rep_ob.mpr ⟨a,dx,vs,rfl,y0,k,r.mono λb u e=>by rw [j3 (u7 e n)];exact e⟩⟩
theorem Ext.share {a:Addr}(x:Ext Hs H Hs' H')(h:H a=none)(n:Hs' a=none)(e:H' a=some o):Ext Hs H (j0 Hs' a o) H':=by
 refine ⟨λb u q=>?_,x.s2,λb u q=>?_,λb q z=>?_⟩
 ·rw [j3 (u7 (x.s1 _ _ q) n)];exact x.s1 _ _ q
 ·by_cases hb:b=a
  ·subst hb;rw [y0] at q;cases q;exact e
  ·rw [j3 hb] at q;exact x.s3 _ _ q
 ·have hb:b≠a:=λr=>q (by rw [r];exact h);rw [j3 hb];exact x.s4 b q z
def RepB (Hs H:Hp)(x:PV)(v:V):Prop:=Rep Hs x v∨∃ a,v = .ref a/\Hs a=none/\Top Hs H a x
theorem RepB.ext (e:Ext Hs H Hs' H')(h:RepB Hs H x v):RepB Hs' H' x v:=by
 rcases h with h|⟨a,rfl,n,t⟩
 ·exact .inl (h.mono e.s1)
 ·exact .inr ⟨a,rfl,e.s4 a t.there n,t.mono e.s1 λo q=>e.s2 _ _ q⟩
inductive MSlot where
 |no|sh (x:PV)|ow (x:PV)|bo (x:PV)
abbrev ME:=List MSlot
variable{ε:ME}
def Own (H0 Hs H:Hp)(a:Addr)(x:PV):Prop:=H0 a=none/\Hs a=none/\Top Hs H a x
structure RS (Hs0 H0 Hs H:Hp)(σ:St)(ε:ME):Prop where
 ext:Ext Hs0 H0 Hs H
 sh:∀(i:Nat)(x:PV),ε[i]?=some (.sh x)->∃ v,σ[i]?=some (some v)/\Rep Hs x v
 ow:∀(i:Nat)(x:PV),ε[i]?=some (.ow x)->∃ a,σ[i]?=some (some (.ref a))/\Own H0 Hs H a x
 nd:∀(i j:Nat)(x y:PV)(a:Addr),ε[i]?=some (.ow x)->ε[j]?=some (.ow y)->σ[i]?=some (some (.ref a))->σ[j]?=some (some (.ref a))->i=j
 len:σ.length=ε.length
 bo:∀(i:Nat)(x:PV),ε[i]?=some (.bo x)->∃ v,σ[i]?=some (some v)/\(Rep Hs x v∨∃ a,v = .ref a/\H0 a≠none/\Hs a=none/\Top Hs H a x)
section
variable {Hs0 H0 Hs H Hs' H':Hp}{σ:St}{ε:ME}
theorem RS.go (r:RS Hs0 H0 Hs H σ ε)(e:Ext Hs H Hs' H'):RS Hs0 H0 Hs' H' σ ε where
 ext:=r.ext.trans e
 sh:=λi x q=>by obtain ⟨v,a,b⟩:=r.sh i x q;exact ⟨v,a,b.mono e.s1⟩
 ow:=λi x q=>by
  obtain ⟨a,b,n0,n,t⟩:=r.ow i x q;exact ⟨a,b,n0,e.s4 a t.there n,t.mono e.s1 λo z=>e.s2 _ _ z⟩
 nd:=r.nd
 len:=r.len
 bo:=λi x q=>by
  obtain ⟨v,b,h|⟨a,rfl,n0,n,t⟩⟩:=r.bo i x q
  ·exact ⟨v,b,.inl (h.mono e.s1)⟩
  ·exact ⟨_,b,.inr ⟨a,rfl,n0,e.s4 a t.there n,t.mono e.s1 λo z=>e.s2 _ _ z⟩⟩
theorem RS.sub (r:RS Hs0 H0 Hs H σ ε):Same Hs H:=r.ext.s3
theorem RS.rebase (r:RS Hs0 H0 Hs H σ ε):RS Hs H0 Hs H σ ε:=⟨⟨.refl _,r.ext.s2,r.ext.s3,λ_ _ z=>z⟩,r.sh,r.ow,r.nd,r.len,r.bo⟩
theorem Ext.unbase (r:Ext Hs0 H0 Hb H)(e:Ext Hb H0 Hs' H'):Ext Hs0 H0 Hs' H':=⟨r.s1.trans e.s1,e.s2,e.s3,λb h z=>e.s4 b h (r.s4 b h z)⟩
theorem RS.unbase {ε':ME}(r:Ext Hs0 H0 Hb H)(e:RS Hb H0 Hs' H' σ' ε'):RS Hs0 H0 Hs' H' σ' ε':=⟨r.unbase e.ext,e.sh,e.ow,e.nd,e.len,e.bo⟩
theorem RS.put (r:RS Hs0 H0 Hs H σ ε){i:Nat}(h:Rep Hs x v):RS Hs0 H0 Hs H (σ.set i (some v)) (ε.set i (.sh x)) where
 ext:=r.ext
 sh:=λj y q=>by
  rw [yI] at q ⊢;split at q
  ·rename_i hij;split at q
   ·rename_i hl;injection q with q;injection q with q;subst q;rw [if_pos hij,if_pos (by rw [r.len,hij];rw [hij] at hl;exact hl)];exact ⟨v,rfl,h⟩
   ·cases q
  ·rename_i hij;rw [if_neg hij];exact r.sh j y q
 ow:=λj y q=>by
  rw [yI] at q ⊢;split at q
  ·split at q<;>cases q
  ·rename_i hij;rw [if_neg hij];exact r.ow j y q
 nd:=λj k x y a h1 h2 h3 h4=>by
  rw [yI] at h1 h2 h3 h4;split at h1
  ·split at h1<;>cases h1
  ·rename_i hj;rw [if_neg hj] at h3;split at h2
   ·split at h2<;>cases h2
   ·rename_i hk;rw [if_neg hk] at h4;exact r.nd j k x y a h1 h2 h3 h4
 len:=by rw [yo,yo,r.len]
 bo:=λj y q=>by
  rw [yI] at q ⊢;split at q
  ·split at q<;>cases q
  ·rename_i hij;rw [if_neg hij];exact r.bo j y q
theorem RS.putO (r:RS Hs0 H0 Hs H σ ε){i:Nat}{a:Addr}(h:Own H0 Hs H a x)(ne:∀(j:Nat)(y:PV),ε[j]?=some (.ow y)->σ[j]?≠some (some (.ref a))):RS Hs0 H0 Hs H (σ.set i (some (.ref a))) (ε.set i (.ow x)) where
 ext:=r.ext
 sh:=λj y q=>by
  rw [yI] at q ⊢;split at q
  ·split at q<;>cases q
  ·rename_i hij;rw [if_neg hij];exact r.sh j y q
 ow:=λj y q=>by
  rw [yI] at q ⊢;split at q
  ·rename_i hij;split at q
   ·rename_i hl;injection q with q;injection q with q;subst q;rw [if_pos hij,if_pos (by rw [r.len,hij];rw [hij] at hl;exact hl)];exact ⟨a,rfl,h⟩
   ·cases q
  ·rename_i hij;rw [if_neg hij];exact r.ow j y q
 nd:=λj k x' y b h1 h2 h3 h4=>by
  rw [yI] at h1 h2 h3 h4;split at h1
  ·rename_i hj;rw [if_pos hj] at h3;split at h1
   ·rename_i hl;rw [if_pos (by rw [r.len];exact hl)] at h3;injection h3 with h3;injection h3 with h3;injection h3 with h3;subst h3;split at h2
    ·rename_i hk;exact hj.symm.trans hk
    ·rename_i hk;rw [if_neg hk] at h4;exact absurd h4 (ne k y h2)
   ·cases h1
  ·rename_i hj;rw [if_neg hj] at h3;split at h2
   ·rename_i hk;rw [if_pos hk] at h4;split at h2
    ·rename_i hl;rw [if_pos (by rw [r.len];exact hl)] at h4;injection h4 with h4;injection h4 with h4;injection h4 with h4;subst h4;exact absurd h3 (ne j x' h1)
    ·cases h2
   ·rename_i hk;rw [if_neg hk] at h4;exact r.nd j k x' y b h1 h2 h3 h4
 len:=by rw [yo,yo,r.len]
 bo:=λj y q=>by
  rw [yI] at q ⊢;split at q
  ·split at q<;>cases q
  ·rename_i hij;rw [if_neg hij];exact r.bo j y q
theorem RS.change (r:RS Hs0 H0 Hs H σ ε){i:Nat}{a:Addr}(hi:ε[i]?=some (.ow x))(ha:σ[i]?=some (some (.ref a)))(t:Top Hs (j0 H a o) a y):RS Hs0 H0 Hs (j0 H a o) σ (ε.set i (.ow y)):=by
 obtain ⟨b,hb,n0,n,tx⟩:=r.ow i x hi;rw [ha] at hb;injection hb with hb;injection hb with hb;injection hb with hb;subst hb;refine ⟨⟨r.ext.s1,λb u e=>?_,λb u e=>?_,r.ext.s4⟩,λj z q=>?_,λj z q=>?_,λj k z z' c h1 h2 h3 h4=>?_,by rw [yo,r.len],λj z q=>?_⟩
 ·rw [j3 (u7 e n0)];exact r.ext.s2 _ _ e
 ·rw [j3 (u7 e n)];exact r.ext.s3 _ _ e
 ·rw [yI] at q;split at q
  ·split at q<;>cases q
  ·exact r.sh j z q
 ·rw [yI] at q;split at q
  ·rename_i hij;split at q
   ·injection q with q;injection q with q;subst q;exact ⟨a,hij▸ha,n0,n,t⟩
   ·cases q
  ·rename_i hij;obtain ⟨c,hc,m0,m,tc⟩:=r.ow j z q;have hne:c≠a:=λe=>hij (r.nd i j x z a hi q ha (e▸hc));exact ⟨c,hc,m0,m,tc.mono (.refl _) λo' e=>by rw [j3 hne];exact e⟩
 ·have down:∀{m:Nat}{w:PV},(ε.set i (.ow y))[m]?=some (.ow w)->∃ w',ε[m]?=some (.ow w'):=by
   intro m w q;rw [yI] at q;split at q
   ·rename_i him;exact ⟨x,him▸hi⟩
   ·exact ⟨w,q⟩
  obtain ⟨w1,q1⟩:=down h1;obtain ⟨w2,q2⟩:=down h2;exact r.nd j k w1 w2 c q1 q2 h3 h4
 ·rw [yI] at q;split at q
  ·split at q<;>cases q
  ·obtain ⟨v,hv,h|⟨c,rfl,m0,m,tc⟩⟩:=r.bo j z q
   ·exact ⟨v,hv,.inl h⟩
   ·have hne:c≠a:=λe=>m0 (e▸n0);exact ⟨_,hv,.inr ⟨c,rfl,m0,m,tc.mono (.refl _) λo' e=>by rw [j3 hne];exact e⟩⟩
def fz (i:Nat)(ε:ME):ME:=match ε[i]? with
 |some (.ow x)=>ε.set i (.sh x)
 |_=>ε
theorem RS.freeze (r:RS Hs0 H0 Hs H σ ε)(i:Nat):∃ Hs',Same Hs Hs'/\RS Hs0 H0 Hs' H σ (fz i ε):=by
 unfold fz;split
 ·rename_i x hi;obtain ⟨a,ha,n0,n,t⟩:=r.ow i x hi;obtain ⟨o,ho,hr⟩:=t.rep n;have g:Same Hs (j0 Hs a o):=λb u e=>by rw [j3 (u7 e n)];exact e
  refine ⟨j0 Hs a o,g,⟨r.ext.s1.trans g,r.ext.s2,λb u e=>?_,λb h z=>?_⟩,λj y q=>?_,λj y q=>?_,λj k z z' c h1 h2 h3 h4=>?_,by rw [yo,r.len],λj y q=>?_⟩
  ·by_cases hb:b=a
   ·subst hb;rw [y0] at e;cases e;exact ho
   ·rw [j3 hb] at e;exact r.ext.s3 _ _ e
  ·have hb:b≠a:=λe=>h (e▸n0);rw [j3 hb];exact r.ext.s4 b h z
  ·rw [yI] at q;split at q
   ·rename_i hij;split at q
    ·injection q with q;injection q with q;subst q;exact ⟨.ref a,hij▸ha,hr⟩
    ·cases q
   ·obtain ⟨v,e,w⟩:=r.sh j y q;exact ⟨v,e,w.mono g⟩
  ·rw [yI] at q;split at q
   ·split at q<;>cases q
   ·rename_i hij;obtain ⟨c,hc,m0,m,tc⟩:=r.ow j y q;have hne:c≠a:=λe=>hij (r.nd i j x y a hi q ha (e▸hc));exact ⟨c,hc,m0,by rw [j3 hne];exact m,tc.mono g λ_ e=>e⟩
  ·have down:∀{m:Nat}{w:PV},(ε.set i (.sh x))[m]?=some (.ow w)->ε[m]?=some (.ow w):=by
    intro m w q;rw [yI] at q;split at q
    ·split at q<;>cases q
    ·exact q
   exact r.nd j k z z' c (down h1) (down h2) h3 h4
  ·rw [yI] at q;split at q
   ·split at q<;>cases q
   ·obtain ⟨v,hv,h|⟨c,rfl,m0,m,tc⟩⟩:=r.bo j y q
    ·exact ⟨v,hv,.inl (h.mono g)⟩
    ·have hne:c≠a:=λe=>m0 (e▸n0);exact ⟨_,hv,.inr ⟨c,rfl,m0,by rw [j3 hne];exact m,tc.mono g λ_ e=>e⟩⟩
 ·exact ⟨Hs,.refl _,r⟩
end
theorem ve {j:Nat}{s:MSlot}(h:∀(i:Nat)(x:PV),ε[i]?≠some (.bo x))(hs:∀ x,s ≠ .bo x):∀(i:Nat)(x:PV),(ε.set j s)[i]?≠some (.bo x):=λi x q=>by
 rw [yI] at q;split at q
 ·split at q
  ·injection q with q;exact hs x q
  ·cases q
 ·exact h i x q
abbrev M:=ME->Option PV
variable{a b:M}
abbrev MB:=ME->Option Bool
variable{c:MB}
abbrev MA:=ME->Option (List PV)
variable{as f:MA}
class SemE (te:TE)(f:M):Prop where
 h:∀{ε y},f ε=some y->∀{Hs0 H0 Hs H σ},RS Hs0 H0 Hs H σ ε->∀{Q:VK},(∀ v Hs' H',Ext Hs H Hs' H'->Rep Hs' y v->Q v H')->te σ H Q
class p8 (te:TE)(f:M):Prop where
 h:∀{ε y},f ε=some y->∀{Hs0 H0 Hs H σ},RS Hs0 H0 Hs H σ ε->∀{Q:VK},(∀ v Hs' H',Ext Hs H Hs' H'->RepB Hs' H' y v->Q v H')->te σ H Q
class qL (te:TE)(f:M):Prop where
 h:∀{ε y},f ε=some y->∀{Hs0 H0 Hs H σ},RS Hs0 H0 Hs H σ ε->∀{Q:VK},(∀ a Hs' H',Ext Hs H Hs' H'->H a=none->Hs' a=none->Top Hs' H' a y->Q (.ref a) H')->te σ H Q
class qx (tt:TT)(f:MB):Prop where
 h:∀{ε y},f ε=some y->∀{Hs0 H0 Hs H σ},RS Hs0 H0 Hs H σ ε->∀{Q:Bool->Hp->Prop},(∀ Hs' H',Ext Hs H Hs' H'->Q y H')->tt σ H Q
class qw (ta:TA)(f:MA):Prop where
 h:∀{ε ys},f ε=some ys->∀{Hs0 H0 Hs H σ},RS Hs0 H0 Hs H σ ε->∀{Q:List V->Hp->Prop},(∀ vs Hs' H',Ext Hs H Hs' H'->Reps Hs' ys vs->Q vs H')->ta σ H Q
def jF (Hs H:Hp):List PV->List V->Prop
 |[],vs=>vs=[]
 |x::xs,vs=>∃ v r,vs=v::r/\RepB Hs H x v/\jF Hs H xs r
class vD (ta:TA)(f:MA):Prop where
 h:∀{ε ys},f ε=some ys->∀{Hs0 H0 Hs H σ},RS Hs0 H0 Hs H σ ε->∀{Q:List V->Hp->Prop},(∀ vs Hs' H',Ext Hs H Hs' H'->jF Hs' H' ys vs->Q vs H')->ta σ H Q
class qM (r:R2)(g:PV->PV->Option PV):Prop where
 h:∀{x y z},g x y=some z->∀{Hs H:Hp}{v w:V},Same Hs H->RepB Hs H x v->RepB Hs H y w->∀{Q:VK},(∀ u Hs' H',Ext Hs H Hs' H'->Rep Hs' z u->Q u H')->r v w H Q
instance (priority:=50) semE_O {f:M}[s:qL te f]:SemE te f where
 h:=λe _ _ _ _ _ r _ q=>s.h e r λa Hs' H' x h n t=>by
  obtain ⟨o,ho,hr⟩:=t.rep n;exact q _ _ _ (x.share h n ho) hr
instance (priority:=50) semB_E {f:M}[s:SemE te f]:p8 te f where
 h:=λe _ _ _ _ _ r _ q=>s.h e r λv Hs' H' x h=>q v Hs' H' x (.inl h)
def q9 (i:Nat):M:=λε=>match ε[i]? with
 |some (.sh x)=>some x
 |_=>none
def x6 (i:Nat):M:=λε=>match ε[i]? with
 |some (.sh x)=>some x
 |some (.ow x)=>some x
 |some (.bo x)=>some x
 |_=>none
def dC (v:V):M:=λ_=>some (.at v)
instance {i:Nat}:SemE (c6 i) (q9 i) where
 h:=λ{ε y} e {_ _ _ _ _} r {_} q=>by
  unfold q9 at e;split at e
  ·rename_i x hx;cases e;obtain ⟨v,h1,h2⟩:=r.sh i _ hx;exact ⟨v,h1,q v _ _ (.refl r.sub) h2⟩
  ·cases e
instance {i:Nat}:p8 (c6 i) (x6 i) where
 h:=λ{ε y} e {_ _ _ _ _} r {_} q=>by
  unfold x6 at e;split at e
  ·rename_i x hx;cases e;obtain ⟨v,h1,h2⟩:=r.sh i _ hx;exact ⟨v,h1,q v _ _ (.refl r.sub) (.inl h2)⟩
  ·rename_i x hx;cases e;obtain ⟨a,h1,_,n,t⟩:=r.ow i _ hx;exact ⟨_,h1,q _ _ _ (.refl r.sub) (.inr ⟨a,rfl,n,t⟩)⟩
  ·rename_i x hx;cases e;obtain ⟨v,h1,h2|⟨a,rfl,_,n,t⟩⟩:=r.bo i _ hx
   ·exact ⟨v,h1,q v _ _ (.refl r.sub) (.inl h2)⟩
   ·exact ⟨_,h1,q _ _ _ (.refl r.sub) (.inr ⟨a,rfl,n,t⟩)⟩
  ·cases e
instance :SemE (tC v) (dC v) where
 h:=λe _ _ _ _ _ r _ q=>by cases e;exact q v _ _ (.refl r.sub) (rep_at.mpr rfl)
def z5 (g:PV->PV->Option PV)(a b:M):M:=λε=>(a ε).bind λx=>(b ε).bind λy=>g x y
theorem bind_some {α β:Type}{o:Option α}{f:α->Option β}{y:β}(h:o.bind f=some y):∃ x,o=some x/\f x=some y:=by
 cases o with
 |none=>cases h
 |some x=>exact ⟨x,rfl,h⟩
instance {g:PV->PV->Option PV}{ta:TE}[sr:qM r g][sa:p8 ta a][sb:p8 tb b]:SemE (tOp r ta tb) (z5 g a b) where
 h:=λe _ _ _ _ _ rs _ q=>by
  obtain ⟨x,ex,e⟩:=bind_some e;obtain ⟨y,ey,e⟩:=bind_some e;exact sa.h ex rs λv Hs1 H1 x1 r1=>sb.h ey (rs.go x1) λw Hs2 H2 x2 r2=>sr.h e x2.s3 (r1.ext x2) r2 λu Hs3 H3 x3 r3=>q u _ _ (x1.trans (x2.trans x3)) r3
def x0:MA:=λ_=>some []
def q8 (a:M)(r:MA):MA:=λε=>(a ε).bind λx=>(r ε).bind λxs=>some (x::xs)
instance:qw p7 x0 where
 h:=λe _ _ _ _ _ r _ q=>by cases e;exact q [] _ _ (.refl r.sub) .nil
instance [sa:SemE te a][sr:qw ta f]:qw (k5 te ta) (q8 a f) where
 h:=λe _ _ _ _ _ rs _ q=>by
  obtain ⟨x,ex,e⟩:=bind_some e;obtain ⟨xs,ey,e⟩:=bind_some e;cases e;exact sa.h ex rs λv Hs1 H1 x1 r1=>sr.h ey (rs.go x1) λvs Hs2 H2 x2 r2=>q _ _ _ (x1.trans x2) (.cons (r1.mono x2.s1) r2)
instance:vD p7 x0 where
 h:=λe _ _ _ _ _ r _ q=>by cases e;exact q [] _ _ (.refl r.sub) rfl
instance [sa:p8 te a][sr:vD ta f]:vD (k5 te ta) (q8 a f) where
 h:=λe _ _ _ _ _ rs _ q=>by
  obtain ⟨x,ex,e⟩:=bind_some e;obtain ⟨xs,ey,e⟩:=bind_some e;cases e;exact sa.h ex rs λv Hs1 H1 x1 r1=>sr.h ey (rs.go x1) λvs Hs2 H2 x2 r2=>q _ _ _ (x1.trans x2) ⟨_,_,rfl,r1.ext x2,r2⟩
def lim:Nat:=1000000
theorem qr (h:n<=lim):n<=sizeLine:=yd h (by rw [sizeLine_eq];decide)
theorem XJ (h:n<=lim):n<sizeLine:=Nat.lt_of_le_of_lt h (by rw [sizeLine_eq];decide)
def qO (a:MA):M:=λε=>(a ε).bind λxs=>if xs.length<=lim then some (.tup xs) else none
def n8 (a:MA):M:=λε=>(a ε).bind λxs=>if xs.length<=lim then some (.lst xs) else none
instance [sa:qw ta f]:SemE (tTup ta) (qO f) where
 h:=λe _ _ _ _ _ rs _ q=>by
  obtain ⟨xs,ex,e⟩:=bind_some e;split at e
  ·rename_i hl;cases e;exact sa.h ex rs λvs Hs1 H1 x1 r1=>⟨qr (r1.length▸hl),λp hp=>q _ _ _ (x1.trans (.new x1.s3 hp)) (rep_tup.mpr ⟨p,vs,rfl,y0,r1.mono (Ext.new x1.s3 hp).s1⟩)⟩
  ·cases e
instance [sa:qw ta f]:qL (tLst ta) (n8 f) where
 h:=λe _ _ _ _ _ rs _ q=>by
  obtain ⟨xs,ex,e⟩:=bind_some e;split at e
  ·rename_i hl;cases e;exact sa.h ex rs λvs Hs1 H1 x1 r1=>⟨qr (r1.length▸hl),λp hp=>q _ _ _ (x1.trans (.newO x1.s3 hp)) (x1.s2.free hp) (x1.s3.free hp) ⟨vs,y0,r1⟩⟩
  ·cases e
theorem y9 (h:RepB Hs H (.at u) v):v=u:=by
 rcases h with h|⟨a,_,_,t⟩
 ·exact rep_at.mp h
 ·exact t.elim
theorem i5 (s:Same Hs H)(h:RepB Hs H (.lst xs) v):∃ a vs,v = .ref a/\H a=some (.lst vs)/\Reps Hs xs vs:=by
 rcases h with h|⟨a,rfl,_,vs,e,r⟩
 ·obtain ⟨a,vs,rfl,e,r⟩:=rep_lst.mp h;exact ⟨a,vs,rfl,s _ _ e,r⟩
 ·exact ⟨a,vs,rfl,e,r⟩
theorem qJ (s:Same Hs H)(h:RepB Hs H (.tup xs) v):∃ a vs,v = .ref a/\H a=some (.tup vs)/\Reps Hs xs vs:=by
 rcases h with h|⟨a,rfl,_,t⟩
 ·obtain ⟨a,vs,rfl,e,r⟩:=rep_tup.mp h;exact ⟨a,vs,rfl,s _ _ e,r⟩
 ·exact t.elim
theorem wF (s:Same Hs H)(h:RepB Hs H (.fk ks xs) v):∃ a o kvs,v = .ref a/\H a=some (.frz o (.dK kvs))/\kvs.map (·.1)=ks/\Reps Hs xs (kvs.map (·.2)):=by
 rcases h with h|⟨a,rfl,n,t⟩
 ·obtain ⟨a,o,kvs,rfl,e,k,r⟩:=rep_fk.mp h;exact ⟨a,o,kvs,rfl,s _ _ e,k,r⟩
 ·exact t.elim
theorem zj (s:Same Hs H)(h:RepB Hs H (.dk ks xs) v):∃ a kvs,v = .ref a/\H a=some (.dK kvs)/\kvs.map (·.1)=ks/\Reps Hs xs (kvs.map (·.2)):=by
 rcases h with h|⟨a,rfl,_,kvs,e,k,r⟩
 ·obtain ⟨a,kvs,rfl,e,k,r⟩:=rep_dk.mp h;exact ⟨a,kvs,rfl,s _ _ e,k,r⟩
 ·exact ⟨a,kvs,rfl,e,k,r⟩
theorem YO (s:Same Hs H)(h:RepB Hs H (.ob C ns xs) v):∃ a dx fs,v = .ref a/\H a=some (.ins C dx fs)/\fs.map (·.1)=ns/\Reps Hs xs (fs.map (·.2)):=by
 rcases h with h|⟨a,rfl,_,dx,fs,e,k,r⟩
 ·obtain ⟨a,dx,fs,rfl,e,k,r⟩:=rep_ob.mp h;exact ⟨a,dx,fs,rfl,s _ _ e,k,r⟩
 ·exact ⟨a,dx,fs,rfl,e,k,r⟩
def pI (g:Int->Int->Option V):PV->PV->Option PV
 | .at (.int i),.at (.int j)=>(g i j).map .at
 |_,_=>none
theorem Ye {g:Int->Int->Option V}{z:PV}(h:pI g x y=some z):∃ i j u,x = .at (.int i)/\y = .at (.int j)/\g i j=some u/\z = .at u:=by
 unfold pI at h;split at h
 ·rename_i i j;obtain ⟨u,e,rfl⟩:=yG.mp h;exact ⟨i,j,u,rfl,rfl,e,rfl⟩
 ·cases h
instance {g:Int->Int->V}:qM (rI0 g) (pI λi j=>some (g i j)) where
 h:=λe _ _ _ _ s a b _ q=>by
  obtain ⟨i,j,u,rfl,rfl,e,rfl⟩:=Ye e;cases e;exact ⟨i,j,y9 a,y9 b,q _ _ _ (.refl s) (rep_at.mpr rfl)⟩
instance {C:Int->Int->Prop}[d:∀ i j,Decidable (C i j)]{g:Int->Int->V}:qM (rI C g) (pI λi j=>if C i j then some (g i j) else none) where
 h:=λe _ _ _ _ s a b _ q=>by
  obtain ⟨i,j,u,rfl,rfl,e',rfl⟩:=Ye e;split at e'
  ·rename_i hc;cases e';exact ⟨i,j,y9 a,y9 b,hc,q _ _ _ (.refl s) (rep_at.mpr rfl)⟩
  ·cases e'
def w4:PV->PV->Option PV
 | .lst xs,.at (.int i)=>atI xs i
 | .tup xs,.at (.int i)=>atI xs i
 | .at (.str z),.at (.int i)=>if z.length<=lim then (L2.atI z.cps.toList i).map λc=> .at (.str ⟨#[c]⟩) else none
 |_,_=>none
theorem Reps.atI {i:Int}(r:Reps H xs vs)(h:atI xs i=some x):∃ v,L2.atI vs i=some v/\Rep H x v:=by unfold L2.atI at h ⊢;rw [r.length];obtain ⟨j,ej,e⟩:=bind_some h;rw [ej];exact r.get e
instance :qM (rIx K) w4 where
 h:=λ{x y z} e {Hs H v w} s a b {Q} q=>by
  unfold w4 at e;split at e
  ·obtain ⟨p,vs,rfl,e1,r1⟩:=i5 s a;obtain ⟨u,hu,r⟩:=r1.atI e;exact .inl ⟨p,vs,_,u,rfl,y9 b,SqL.of e1,hu,q _ _ _ (.refl s) r⟩
  ·obtain ⟨p,vs,rfl,e1,r1⟩:=qJ s a;obtain ⟨u,hu,r⟩:=r1.atI e;exact .inr (.inl ⟨p,vs,_,u,rfl,y9 b,SqT.of e1,hu,q _ _ _ (.refl s) r⟩)
  ·split at e
   ·rename_i hz;obtain ⟨c,hc,rfl⟩:=yG.mp e;exact .inr (.inr ⟨_,_,c,y9 a,y9 b,qr hz,hc,q _ _ _ (.refl s) (rep_at.mpr rfl)⟩)
   ·cases e
  ·cases e
def ats:List PV->Option (List V)
 |[]=>some []
 | .at u::xs=>(ats xs).map (u::·)
 |_::_=>none
theorem Xg:∀{xs:List PV}{us:List V},ats xs=some us->xs=us.map .at
 |[],_,h=>by cases h;rfl
 | .at u::xs,us,h=>by
  unfold ats at h;obtain ⟨r,e,rfl⟩:=yG.mp h;rw [yN,Xg e]
 | .tup _::_,_,h=>by cases h
 | .lst _::_,_,h=>by cases h
 | .dk _ _::_,_,h=>by cases h
 | .fk _ _::_,_,h=>by cases h
 | .ob _ _ _::_,_,h=>by cases h
 | .op _::_,_,h=>by cases h
def pIn (neg:Bool):PV->PV->Option PV
 | .at u,.lst xs=>(ats xs).bind λus=>if y6 u=true/\us.all y6=true then some (.at (.bl (if neg then !inV u us else inV u us))) else none
 | .at u,.tup xs=>(ats xs).bind λus=>if y6 u=true/\us.all y6=true then some (.at (.bl (if neg then !inV u us else inV u us))) else none
 |_,_=>none
instance {neg:Bool}:qM (rIn K neg) (pIn neg) where
 h:=λ{x y z} e {Hs H v w} s a b {Q} q=>by
  unfold pIn at e;split at e
  ·obtain ⟨us,e1,e⟩:=bind_some e;split at e
   ·rename_i hf;cases e;obtain ⟨p,vs,rfl,e2,r2⟩:=i5 s b;rw [Xg e1] at r2;cases r2.ats;cases y9 a;exact ⟨p,_,rfl,.inl (SqL.of e2),hf.1,hf.2,q _ _ _ (.refl s) (rep_at.mpr rfl)⟩
   ·cases e
  ·obtain ⟨us,e1,e⟩:=bind_some e;split at e
   ·rename_i hf;cases e;obtain ⟨p,vs,rfl,e2,r2⟩:=qJ s b;rw [Xg e1] at r2;cases r2.ats;cases y9 a;exact ⟨p,_,rfl,.inr (SqT.of e2),hf.1,hf.2,q _ _ _ (.refl s) (rep_at.mpr rfl)⟩
   ·cases e
  ·cases e
class SemU (r:V->Hp->VK->Prop)(g:PV->Option PV):Prop where
 h:∀{x z},g x=some z->∀{Hs H:Hp}{v:V},Same Hs H->RepB Hs H x v->∀{Q:VK},(∀ u Hs' H',Ext Hs H Hs' H'->Rep Hs' z u->Q u H')->r v H Q
def dUn (g:PV->Option PV)(a:M):M:=λε=>(a ε).bind g
instance {r:V->Hp->VK->Prop}{g:PV->Option PV}{ta:TE}[sr:SemU r g][sa:p8 ta a]:SemE (tUn r ta) (dUn g a) where
 h:=λe _ _ _ _ _ rs _ q=>by
  obtain ⟨x,ex,e⟩:=bind_some e;exact sa.h ex rs λv Hs1 H1 x1 r1=>sr.h e x1.s3 r1 λu Hs3 H3 x3 r3=>q u _ _ (x1.trans x3) r3
def pU (g:Int->V):PV->Option PV
 | .at (.int i)=>some (.at (g i))
 |_=>none
instance {g:Int->V}:SemU (rU g) (pU g) where
 h:=λ{x z} e {_ _ _} s a {_} q=>by
  unfold pU at e;split at e
  ·cases e;exact ⟨_,y9 a,q _ _ _ (.refl s) (rep_at.mpr rfl)⟩
  ·cases e
def pB:PV->Option Bool
 | .at (.bl b)=>some b
 |_=>none
theorem vh {b:Bool}(h:pB x=some b):x = .at (.bl b):=by
 unfold pB at h;split at h
 ·cases h;rfl
 ·cases h
def dT (a:M):MB:=λε=>(a ε).bind pB
instance [sa:p8 te a]:qx (QV te) (dT a) where
 h:=λe _ _ _ _ _ rs _ q=>by
  obtain ⟨x,ex,e⟩:=bind_some e;cases vh e;exact sa.h ex rs λv Hs1 H1 x1 r1=>⟨_,y9 r1,q _ _ x1⟩
instance [sa:p8 te a]:qx (tB te) (dT a) where
 h:=λe _ _ _ _ _ rs _ q=>by
  obtain ⟨x,ex,e⟩:=bind_some e;cases vh e;exact sa.h ex rs λv Hs1 H1 x1 r1=>⟨_,y9 r1,q _ _ x1⟩
def tTru (K:Fg)(ta:TE):TT:=λσ H Q=>ta σ H λx H'=>∃ k,TruV K x H' k/\Q k H'
def pTru:PV->Option Bool
 | .at .non=>some false
 | .at (.bl b)=>some b
 | .at (.int i)=>some (i != 0)
 | .at (.str y)=>if y.length<=lim then some ((y.length:Int) != 0) else none
 | .lst xs=>some (!xs.isEmpty)
 | .tup xs=>some (!xs.isEmpty)
 | .dk ks _=>some (!ks.isEmpty)
 |_=>none
def n5 (a:M):MB:=λε=>(a ε).bind pTru
theorem Reps.isEmpty (r:Reps H xs vs):vs.isEmpty=xs.isEmpty:=by have:=r.length;cases xs<;>cases vs<;>first|rfl|(simp at this)
instance [sa:p8 te a]:qx (tTru K te) (n5 a) where
 h:=λe _ _ _ _ _ rs _ q=>by
  obtain ⟨x,ex,e⟩:=bind_some e;refine sa.h ex rs λv Hs1 H1 x1 r1=>?_;unfold pTru at e;split at e
  ·cases e;cases y9 r1;exact ⟨_,rfl,q _ _ x1⟩
  ·cases e;cases y9 r1;exact ⟨_,rfl,q _ _ x1⟩
  ·cases e;cases y9 r1;exact ⟨_,rfl,q _ _ x1⟩
  ·split at e
   ·rename_i hl;cases e;cases y9 r1;exact ⟨_,⟨qr hl,rfl⟩,q _ _ x1⟩
   ·cases e
  ·cases e;obtain ⟨p,vs,rfl,e1,r2⟩:=i5 x1.s3 r1;exact ⟨_,.inl ⟨vs,SqL.of e1,by rw [r2.isEmpty]⟩,q _ _ x1⟩
  ·cases e;obtain ⟨p,vs,rfl,e1,r2⟩:=qJ x1.s3 r1;exact ⟨_,.inr (.inl ⟨vs,SqT.of e1,by rw [r2.isEmpty]⟩),q _ _ x1⟩
  ·cases e;obtain ⟨p,kvs,rfl,e1,k,r2⟩:=zj x1.s3 r1;refine ⟨_,.inr (.inr ⟨kvs,e1,?_⟩),q _ _ x1⟩;rw [<- k];cases kvs<;>rfl
  ·cases e
def vH (a b:MB):MB:=λε=>(a ε).bind λc=>if c=true then b ε else some false
def dOr (a b:MB):MB:=λε=>(a ε).bind λc=>if c=true then some true else b ε
def c7 (a:MB):MB:=λε=>(a ε).bind λc=>some (!c)
instance {u:TT}{a b:MB}[sa:qx t a][sb:qx u b]:qx (tAnd t u) (vH a b) where
 h:=λe _ _ _ _ _ rs _ q=>by
  obtain ⟨c,ex,e⟩:=bind_some e;refine sa.h ex rs λHs1 H1 x1=>?_;cases c with
  |true=>exact xo (sb.h e (rs.go x1) λHs2 H2 x2=>q _ _ (x1.trans x2))
  |false=>cases e;exact xn (q _ _ x1)
instance {u:TT}{a b:MB}[sa:qx t a][sb:qx u b]:qx (tOr t u) (dOr a b) where
 h:=λe _ _ _ _ _ rs _ q=>by
  obtain ⟨c,ex,e⟩:=bind_some e;refine sa.h ex rs λHs1 H1 x1=>?_;cases c with
  |true=>cases e;exact xo (q _ _ x1)
  |false=>exact xn (sb.h e (rs.go x1) λHs2 H2 x2=>q _ _ (x1.trans x2))
instance {a:MB}[sa:qx t a]:qx (tNot t) (c7 a) where
 h:=λe _ _ _ _ _ rs _ q=>by
  obtain ⟨c,ex,e⟩:=bind_some e;cases e;exact sa.h ex rs λHs1 H1 x1=>q _ _ x1
def xi (a b:M):M:=λε=>(a ε).bind λx=>(pB x).bind λc=>if c=true then b ε else some (.at (.bl false))
def Qd (a:M):M:=λε=>(a ε).bind λx=>(pB x).bind λc=>some (.at (.bl (!c)))
instance {t u:TE}[sa:SemE t a][sb:SemE u b]:SemE (Uk t u) (xi a b) where
 h:=λe _ _ _ _ _ rs _ q=>by
  obtain ⟨x,ex,e⟩:=bind_some e;obtain ⟨c,ec,e⟩:=bind_some e;cases vh ec;refine sa.h ex rs λv Hs1 H1 x1 r1=>⟨c,rep_at.mp r1,?_⟩;cases c with
  |true=>exact xo (sb.h e (rs.go x1) λw Hs2 H2 x2 r2=>q _ _ _ (x1.trans x2) r2)
  |false=>cases e;exact xn (q _ _ _ x1 (rep_at.mpr rfl))
instance {t:TE}[sa:p8 t a]:SemE (Uu t) (Qd a) where
 h:=λe _ _ _ _ _ rs _ q=>by
  obtain ⟨x,ex,e⟩:=bind_some e;obtain ⟨c,ec,e⟩:=bind_some e;cases vh ec;cases e;exact sa.h ex rs λv Hs1 H1 x1 r1=>⟨c,y9 r1,q _ _ _ x1 (rep_at.mpr rfl)⟩
def dIf (c:MB)(a b:M):M:=λε=>(c ε).bind λk=>if k=true then a ε else b ε
instance {ta:TE}[sc:qx t c][sa:SemE ta a][sb:SemE tb b]:SemE (tIf t ta tb) (dIf c a b) where
 h:=λe _ _ _ _ _ rs _ q=>by
  obtain ⟨k,ex,e⟩:=bind_some e;refine sc.h ex rs λHs1 H1 x1=>?_;cases k with
  |true=>exact xo (sa.h e (rs.go x1) λw Hs2 H2 x2 r2=>q _ _ _ (x1.trans x2) r2)
  |false=>exact xn (sb.h e (rs.go x1) λw Hs2 H2 x2 r2=>q _ _ _ (x1.trans x2) r2)
def zt (g g':PV->PV->Option PV)(a b c:M):M:=λε=>(a ε).bind λx=>(b ε).bind λy=>(g x y).bind λz=>(pB z).bind λk=>if k=true then (c ε).bind λw=>g' y w else some (.at (.bl false))
instance {r':R2}{g g':PV->PV->Option PV}{ta tc:TE}{c:M}[sr:qM r g][sr':qM r' g'][sa:p8 ta a][sb:p8 tb b][sc:p8 tc c]:SemE (Jn r r' ta tb tc) (zt g g' a b c) where
 h:=λe _ _ _ _ _ rs _ q=>by
  obtain ⟨x,ex,e1⟩:=bind_some e;obtain ⟨y,ey,e2⟩:=bind_some e1;obtain ⟨z,ez,e3⟩:=bind_some e2;obtain ⟨k,ek,e4⟩:=bind_some e3;have ez':=vh ek;subst ez';refine sa.h ex rs λv Hs1 H1 x1 r1=>sb.h ey (rs.go x1) λw Hs2 H2 x2 r2=>sr.h ez x2.s3 (r1.ext x2) r2 λu Hs3 H3 x3 r3=>⟨k,rep_at.mp r3,?_⟩;cases k with
  |true=>obtain ⟨w',ew,e5⟩:=bind_some e4;exact xo (sc.h ew (((rs.go x1).go x2).go x3) λu' Hs4 H4 x4 r4=>sr'.h e5 x4.s3 ((r2.ext x3).ext x4) r4 λu'' Hs5 H5 x5 r5=>q _ _ _ (x1.trans (x2.trans (x3.trans (x4.trans x5)))) r5)
  |false=>cases e4;exact xn (q _ _ _ (x1.trans (x2.trans x3)) (rep_at.mpr rfl))
def j5 (m:List PV->Option PV):Sp:=λvs H Q _=>∃ Hs xs y,Same Hs H/\Reps Hs xs vs/\m xs=some y/\∀ v Hs' H',Ext Hs H Hs' H'->Rep Hs' y v->Q v H'
def o8 (m:List PV->Option PV):Sp:=λvs H Q _=>∃ Hs xs y,Same Hs H/\Reps Hs xs vs/\m xs=some y/\∀ a Hs' H',Ext Hs H Hs' H'->H a=none->Hs' a=none->Top Hs' H' a y->Q (.ref a) H'
def x9 (m:List PV->Option PV)(as:MA):M:=λε=>(as ε).bind m
instance [sa:qw ta as]:SemE (xb (j5 m) [] E ta) (x9 m as) where
 h:=λe _ _ _ _ _ rs _ q=>by
  obtain ⟨xs,ex,e1⟩:=bind_some e;refine sa.h ex rs λvs Hs1 H1 x1 r1=>⟨Hs1,xs,_,x1.s3,by rw [yr];exact r1,e1,λv Hs' H' x r=>q v _ _ (x1.trans x) r⟩
instance [sa:qw ta as]:qL (xb (o8 m) [] E ta) (x9 m as) where
 h:=λe _ _ _ _ _ rs _ q=>by
  obtain ⟨xs,ex,e1⟩:=bind_some e;refine sa.h ex rs λvs Hs1 H1 x1 r1=>⟨Hs1,xs,_,x1.s3,by rw [yr];exact r1,e1,λa Hs' H' x n n' r=>q a _ _ (x1.trans x) (x1.s2.free n) n' r⟩
def Xp (m:List PV->Option PV)(ds:List V)(as:MA):M:=λε=>(as ε).bind λxs=>m (xs++ds.map .at)
def qC (C:Addr)(nm:Str)(m:List PV->Option PV)(a:M)(as:MA):M:=λε=>(a ε).bind λx=>match x with
 | .ob C' ns fs=>if C'=C/\nm∉ns then (as ε).bind λxs=>m (x::xs) else none
 |_=>none
theorem XM {fs:List (Str×V)}{f:Str}(h:f∉fs.map (·.1)):fs.lookup f=none:=by
 induction fs with
 |nil=>rfl
 |cons p r ih =>
  rw [yN] at h;rw [uX];have h1:(f==p.1)=false:=by rw [beq_eq_false_iff_ne];exact λe=>h (e▸yH)
  rw [h1];exact ih λz=>h (yK _ z)
theorem Wb (h:qC C nm m a as ε=some y):∃ ns fs xs,a ε=some (.ob C ns fs)/\nm∉ns/\as ε=some xs/\m (.ob C ns fs::xs)=some y:=by
 unfold qC at h;obtain ⟨x,ex,h1⟩:=bind_some h;split at h1
 ·rename_i C' ns fs;split at h1
  ·rename_i hc;obtain ⟨xs,e2,h2⟩:=bind_some h1;obtain ⟨rfl,hn⟩:=hc;exact ⟨ns,fs,xs,ex,hn,e2,h2⟩
  ·cases h1
 ·cases h1
instance [so:SemE te a][sa:qw ta as]:SemE (jy C nm (j5 m) [] E te ta) (qC C nm m a as) where
 h:=λe _ _ _ _ _ rs _ q=>by
  obtain ⟨ns,fs,xs,ea,hn,e1,e2⟩:=Wb e;refine so.h ea rs λv Hs1 H1 x1 r1=>?_;obtain ⟨p,dx,gs,rfl,hp,hk,hr⟩:=rep_ob.mp r1;refine ⟨p,dx,gs,rfl,x1.s3 _ _ hp,XM (by rw [hk];exact hn),sa.h e1 (rs.go x1) λvs Hs2 H2 x2 r2=>?_⟩;exact ⟨Hs2,_,_,x2.s3,by rw [yr];exact .cons (r1.mono x2.s1) r2,e2,λv Hs' H' x r=>q v _ _ (x1.trans (x2.trans x)) r⟩
instance [so:SemE te a][sa:qw ta as]:qL (jy C nm (o8 m) [] E te ta) (qC C nm m a as) where
 h:=λe _ _ _ _ _ rs _ q=>by
  obtain ⟨ns,fs,xs,ea,hn,e1,e2⟩:=Wb e;refine so.h ea rs λv Hs1 H1 x1 r1=>?_;obtain ⟨p,dx,gs,rfl,hp,hk,hr⟩:=rep_ob.mp r1;refine ⟨p,dx,gs,rfl,x1.s3 _ _ hp,XM (by rw [hk];exact hn),sa.h e1 (rs.go x1) λvs Hs2 H2 x2 r2=>?_⟩;exact ⟨Hs2,_,_,x2.s3,by rw [yr];exact .cons (r1.mono x2.s1) r2,e2,λv Hs' H' x n n' r=>q v _ _ (x1.trans (x2.trans x)) (x1.s2.free (x2.s2.free n)) n' r⟩
class jG (r:List V->Hp->VK->Prop)(g:List PV->Option PV):Prop where
 h:∀{xs z},g xs=some z->∀{Hs H:Hp}{vs:List V},Same Hs H->jF Hs H xs vs->∀{Q:VK},(∀ u Hs' H',Ext Hs H Hs' H'->Rep Hs' z u->Q u H')->r vs H Q
class Xe (r:List V->Hp->VK->Prop)(g:List PV->Option PV):Prop where
 h:∀{xs z},g xs=some z->∀{Hs H:Hp}{vs:List V},Same Hs H->jF Hs H xs vs->∀{Q:VK},(∀ a Hs' H',Ext Hs H Hs' H'->H a=none->Hs' a=none->Top Hs' H' a z->Q (.ref a) H')->r vs H Q
instance {r:List V->Hp->VK->Prop}{g:List PV->Option PV}[sr:jG r g][sa:vD ta as]:SemE (tCB r ta) (x9 g as) where
 h:=λe _ _ _ _ _ rs _ q=>by
  obtain ⟨xs,ex,e1⟩:=bind_some e;exact sa.h ex rs λvs Hs1 H1 x1 r1=>sr.h e1 x1.s3 r1 λv Hs' H' x r=>q v _ _ (x1.trans x) r
instance {r:List V->Hp->VK->Prop}{g:List PV->Option PV}[sr:Xe r g][sa:vD ta as]:qL (tCB r ta) (x9 g as) where
 h:=λe _ _ _ _ _ rs _ q=>by
  obtain ⟨xs,ex,e1⟩:=bind_some e;exact sa.h ex rs λvs Hs1 H1 x1 r1=>sr.h e1 x1.s3 r1 λv Hs' H' x n n' r=>q v _ _ (x1.trans x) (x1.s2.free n) n' r
theorem xv (h:jF Hs H [x] vs):∃ v,vs=[v]/\RepB Hs H x v:=by obtain ⟨v,r,rfl,a,b⟩:=h;cases (show r=[] from b);exact ⟨v,rfl,a⟩
theorem YQ (h:jF Hs H [x,y] vs):∃ v w,vs=[v,w]/\RepB Hs H x v/\RepB Hs H y w:=by obtain ⟨v,r,rfl,a,b⟩:=h;obtain ⟨w,rfl,c⟩:=xv b;exact ⟨v,w,rfl,a,c⟩
inductive Out where
 |nx (ε:ME)|rt (y:PV)|bk (ε:ME)|ct (ε:ME)
abbrev MS:=ME->Option Out
def OutK (fr:Bool)(Hs0 H0:Hp)(D:xh):Out->Prop
 | .nx ε=>∀ Hs H σ,RS Hs0 H0 Hs H σ ε->D.nx σ H
 | .bk ε=>∀ Hs H σ,RS Hs0 H0 Hs H σ ε->D.bk σ H
 | .ct ε=>∀ Hs H σ,RS Hs0 H0 Hs H σ ε->D.ct σ H
 | .rt y=>match fr with
  |true=>∀ a Hs H,Ext Hs0 H0 Hs H->H0 a=none->Hs a=none->Top Hs H a y->D.rt (.ref a) H
  |false=>∀ v Hs H,Ext Hs0 H0 Hs H->Rep Hs y v->D.rt v H
class n9 (fr:Bool)(ts:TS)(f:MS):Prop where
 h:∀{ε o},f ε=some o->∀{Hs0 H0 Hs H σ},RS Hs0 H0 Hs H σ ε->∀{D:xh},OutK fr Hs0 H0 D o->ts D σ H
variable {fr:Bool}
def m4:MS:=λε=>some (.nx ε)
instance:n9 fr Jo m4 where
 h:=λe _ _ _ _ _ rs _ q=>by cases e;exact q _ _ _ rs
def v3 (a b:MS):MS:=λε=>(a ε).bind λo=>match o with
 | .nx ε'=>b ε'
 |o=>some o
instance {t u:TS}{a b:MS}[sa:n9 fr t a][sb:n9 fr u b]:n9 fr (tSeq t u) (v3 a b) where
 h:=λe _ _ _ _ _ rs D q=>by
  obtain ⟨o,eo,e1⟩:=bind_some e;refine sa.h eo rs ?_;cases o with
  |nx ε'=>exact λHs H σ r=>sb.h e1 r q
  |rt y=>cases e1;exact q
  |bk ε'=>cases e1;exact q
  |ct ε'=>cases e1;exact q
def dFz (i:Nat)(a:MS):MS:=λε=>a (fz i ε)
instance {i:Nat}{t:TS}{a:MS}[sa:n9 fr t a]:n9 fr t (dFz i a) where
 h:=λe _ _ _ _ _ rs _ q=>by
  obtain ⟨Hs',g,r⟩:=rs.freeze i;exact sa.h e r q
def xO (a:M):MS:=λε=>(a ε).bind λ_=>some (.nx ε)
instance (priority:=100)[sa:p8 te a]:n9 fr (zP te) (xO a) where
 h:=λe _ _ _ _ _ rs _ q=>by
  obtain ⟨x,ex,e1⟩:=bind_some e;cases e1;exact sa.h ex rs λv Hs1 H1 x1 r1=>q _ _ _ (rs.go x1)
def y3 (a:M):MS:=λε=>(a ε).bind λx=>some (.rt x)
instance [sa:SemE te a]:n9 false (wO te) (y3 a) where
 h:=λe _ _ _ _ _ rs _ q=>by
  obtain ⟨x,ex,e1⟩:=bind_some e;cases e1;exact sa.h ex rs λv Hs1 H1 x1 r1=>q _ _ _ (rs.ext.trans x1) r1
instance [sa:qL te a]:n9 true (wO te) (y3 a) where
 h:=λe _ _ _ _ _ rs _ q=>by
  obtain ⟨x,ex,e1⟩:=bind_some e;cases e1;exact sa.h ex rs λv Hs1 H1 x1 n n' r1=>q _ _ _ (rs.ext.trans x1) (rs.ext.s2.free n) n' r1
def oVar (i:Nat):M:=λε=>match ε[i]? with
 |some (.ow x)=>some x
 |_=>none
instance {i:Nat}:n9 true (wO (c6 i)) (y3 (oVar i)) where
 h:=λe _ _ _ _ _ rs _ q=>by
  obtain ⟨x,ex,e1⟩:=bind_some e;cases e1;unfold oVar at ex;split at ex
  ·rename_i y hy;cases ex;obtain ⟨a,ha,n0,n,t⟩:=rs.ow i _ hy;exact ⟨_,ha,q _ _ _ rs.ext n0 n t⟩
  ·cases ex
def b9 (c:MB)(a b:MS):MS:=λε=>(c ε).bind λk=>if k=true then a ε else b ε
instance {ta tb:TS}{a b:MS}[sc:qx t c][sa:n9 fr ta a][sb:n9 fr tb b]:n9 fr (tIfS t ta tb) (b9 c a b) where
 h:=λe _ _ _ _ _ rs _ q=>by
  obtain ⟨k,ex,e1⟩:=bind_some e;refine sc.h ex rs λHs1 H1 x1=>?_;cases k with
  |true=>exact xo (sa.h e1 (rs.go x1) q)
  |false=>exact xn (sb.h e1 (rs.go x1) q)
def qD:MS:=λ_=>none
instance:n9 fr Us qD where
 h:=λe=>by cases e
abbrev MG:=PV->ME->Option ME
variable{g:MG}
def But (ts:List Nat)(σ σ':St):Prop:=σ'.length=σ.length/\∀ j,j∉ts->σ'[j]?=σ[j]?
theorem But.refl (σ:St):But [] σ σ:=⟨rfl,λ_ _=>rfl⟩
theorem But.trans {a b:List Nat}{σ1 σ2:St}(x:But a σ σ1)(y:But b σ1 σ2):But (a++b) σ σ2 :=
 ⟨y.1.trans x.1,λj hj=>(y.2 j λz=>hj (yg.mpr (.inr z))).trans (x.2 j λz=>hj (yg.mpr (.inl z)))⟩
theorem But.wk (b:But ts σ σ')(h:∀ i∈ts,σ[i]?=some none):Wk σ σ':=by refine ⟨b.1.symm,λi v e=>?_⟩;rw [b.2 i λz=>by rw [h i z] at e;cases e];exact e
class zU (tg:TG)(ts:outParam (List Nat))(g:MG):Prop where
 h:∀{x ε ε'},g x ε=some ε'->∀{Hs0 H0 Hs H σ v},RS Hs0 H0 Hs H σ ε->Rep Hs x v->∀{Q:St->Hp->Prop},(∀ σ',RS Hs0 H0 Hs H σ' ε'->But ts σ σ'->Q σ' H)->tg v σ H Q
class jH (tg:TGs)(ts:outParam (List Nat))(g:List PV->ME->Option ME):Prop where
 h:∀{xs ε ε'},g xs ε=some ε'->∀{Hs0 H0 Hs H σ vs},RS Hs0 H0 Hs H σ ε->Reps Hs xs vs->∀{Q:St->Hp->Prop},(∀ σ',RS Hs0 H0 Hs H σ' ε'->But ts σ σ'->Q σ' H)->tg vs σ H Q
def j9 (i:Nat):MG:=λx ε=>some (ε.set i (.sh x))
instance {i:Nat}:zU (qh i) [i] (j9 i) where
 h:=λe _ _ _ _ _ _ rs r _ q=>by
  cases e;exact q _ (rs.put r) ⟨yo,λj hj=>yv λz=>hj (by rw [<- z];exact yO.mpr rfl)⟩
def xC:List PV->ME->Option ME:=λxs ε=>match xs with
 |[]=>some ε
 |_=>none
def r9 (g:MG)(r:List PV->ME->Option ME):List PV->ME->Option ME:=λxs ε=>match xs with
 |x::xs=>(g x ε).bind (r xs)
 |_=>none
instance:jH gNil [] xC where
 h:=λ{xs ε ε'} e {_ _ _ _ _ _} rs r {_} q=>by
  unfold xC at e;split at e
  ·cases e;exact ⟨reps_nil.mp r,q _ rs (.refl _)⟩
  ·cases e
instance Mo {t:TG}{u:TGs}{a b:List Nat}{r:List PV->ME->Option ME}[sg:zU t a g][sr:jH u b r]:jH (Xy t u) (a++b) (r9 g r) where
 h:=λ{xs ε ε'} e {_ _ _ _ _ _} rs rr {_} q=>by
  unfold r9 at e;split at e
  ·obtain ⟨ε1,e1,e2⟩:=bind_some e;obtain ⟨v,w,rfl,r1,r2⟩:=reps_cons.mp rr;exact ⟨v,w,rfl,sg.h e1 rs r1 λσ1 rs1 b1=>sr.h e2 rs1 r2 λσ2 rs2 b2=>q _ rs2 (b1.trans b2)⟩
  ·cases e
instance (priority:=2000){i:Nat}{u:TGs}{b:List Nat}{r:List PV->ME->Option ME}[sr:jH u b r]:jH (Xy (qh i) u) (i::b) (r9 (j9 i) r) where
 h:=λe _ _ _ _ _ _ rs rr _ q=>(Mo (t:=qh i) (a:=[i]) (g:=j9 i)).h e rs rr q
def xD (n:Nat)(g:List PV->ME->Option ME):MG:=λx ε=>match x with
 | .tup xs=>if xs.length=n then g xs ε else none
 |_=>none
instance {t:TGs}{g:List PV->ME->Option ME}[sg:jH t ts g]:zU (gTup K n t) ts (xD n g) where
 h:=λ{x ε ε'} e {_ _ _ _ _ _} rs rr {_} q=>by
  unfold xD at e;split at e
  ·split at e
   ·rename_i hl;obtain ⟨a,vs,rfl,h,r⟩:=rep_tup.mp rr;exact ⟨a,vs,rfl,SqT.of (rs.sub _ _ h),by rw [r.length];exact hl,sg.h e rs r λσ' rs' b=>q _ rs' b⟩
   ·cases e
  ·cases e
def b7 (i:Nat)(a:M):MS:=λε=>(a ε).bind λx=>some (.nx (ε.set i (.sh x)))
def zv (i:Nat)(a:M):MS:=λε=>(a ε).bind λx=>some (.nx (ε.set i (.ow x)))
instance {i:Nat}[sa:SemE te a]:n9 fr (xV te (qh i)) (b7 i a) where
 h:=λe _ _ _ _ _ rs _ q=>by
  obtain ⟨x,ex,e1⟩:=bind_some e;cases e1;exact sa.h ex rs λv Hs1 H1 x1 r1=>q _ _ _ ((rs.go x1).put r1)
instance {i:Nat}[sa:qL te a]:n9 fr (xV te (qh i)) (zv i a) where
 h:=λe _ _ _ _ _ rs _ q=>by
  obtain ⟨x,ex,e1⟩:=bind_some e;cases e1;refine sa.h ex rs λp Hs1 H1 x1 n n' t=>q _ _ _ ((rs.go x1).putO ⟨rs.ext.s2.free n,n',t⟩ λj y hj z=>?_);obtain ⟨b,hb,_,_,tb⟩:=rs.ow j y hj;rw [z] at hb;injection hb with hb;injection hb with hb;injection hb with hb;subst hb;exact tb.there n
def dAsg (g:MG)(a:M):MS:=λε=>(a ε).bind λx=>(g x ε).bind λε'=>some (.nx ε')
instance (priority:=500)[sa:SemE te a][sg:zU tg ts g]:n9 fr (xV te tg) (dAsg g a) where
 h:=λe _ _ _ _ _ rs _ q=>by
  obtain ⟨x,ex,e1⟩:=bind_some e;obtain ⟨ε',e2,e3⟩:=bind_some e1;cases e3;exact sa.h ex rs λv Hs1 H1 x1 r1=>sg.h e2 (rs.go x1) r1 λσ' rs' _=>q _ _ _ rs'
def pIp (g:Int->Int->Int):PV->PV->Option PV
 | .at (.int i),.at (.int j)=>some (.at (.int (g i j)))
 |_,_=>none
def ja (i:Nat)(a:M):MS:=λε=>(a ε).bind λx=>match ε[i]? with
 |some (.ow (.lst xs))=>if xs.length<=lim then some (.nx (ε.set i (.ow (.lst (xs++[x]))))) else none
 |_=>none
instance {i:Nat}[sa:SemE te a]:n9 fr (zP (tBM K "list" Zi (c6 i) (k5 te p7))) (ja i a) where
 h:=λe _ _ _ _ _ rs _ q=>by
  obtain ⟨x,ex,e1⟩:=bind_some e;split at e1
  ·rename_i xs hi;split at e1
   ·rename_i hl;cases e1;obtain ⟨p,hp,n0,n,vs,hv,rv⟩:=rs.ow i _ hi;refine ⟨_,hp,.inl ⟨rfl,vs,SqL.of hv⟩,sa.h ex rs λv Hs1 H1 x1 r1=>?_⟩;have hv1:=x1.s2 _ _ hv;refine ⟨p,vs,v,rfl,rfl,hv1,XJ (by rw [rv.length];exact hl),q _ _ _ ((rs.go x1).change hi hp ⟨_,y0,(rv.mono x1.s1).append (.one r1)⟩)⟩
   ·cases e1
  ·cases e1
def vI (i:Nat)(a:M):MS:=λε=>(a ε).bind λx=>match x with
 | .lst ys=>(match ε[i]? with
  |some (.ow (.lst xs))=>if xs.length+ys.length<=lim then some (.nx (ε.set i (.ow (.lst (xs++ys))))) else none
  |_=>none)
 |_=>none
instance {i:Nat}[sa:SemE te a]:n9 fr (zP (tBM K "list" Yw (c6 i) (k5 te p7))) (vI i a) where
 h:=λe _ _ _ _ _ rs _ q=>by
  obtain ⟨x,ex,e1⟩:=bind_some e;split at e1
  ·split at e1
   ·rename_i ys _ xs hi;split at e1
    ·rename_i hl;cases e1;obtain ⟨p,hp,n0,n,vs,hv,rv⟩:=rs.ow i _ hi;refine ⟨_,hp,.inl ⟨rfl,vs,SqL.of hv⟩,sa.h ex rs λv Hs1 H1 x1 r1=>?_⟩;have hv1:=x1.s2 _ _ hv;obtain ⟨b,ws,rfl,hb,rb⟩:=rep_lst.mp r1;refine ⟨p,b,vs,ws,rfl,rfl,hv1,x1.s3 _ _ hb,qr (by rw [rv.length,rb.length];exact hl),q _ _ _ ((rs.go x1).change hi hp ⟨_,y0,(rv.mono x1.s1).append rb⟩)⟩
    ·cases e1
   ·cases e1
  ·cases e1
structure zS (J:It)(xs:List PV)(Hs:Hp):Prop where
 go:∀(i:Nat)(x:PV)(Hs1 H1:Hp),xs[i]?=some x->Same Hs Hs1->Same Hs1 H1->J.go i H1/\∀ v H2,J.yld i H1 v H2->∃ Hs2,Ext Hs1 H1 Hs2 H2/\Rep Hs2 x v
 stop:∀(Hs1 H1:Hp),Same Hs Hs1->Same Hs1 H1->J.stop xs.length H1
class zo (ti:TI)(f:MA):Prop where
 h:∀{ε xs},f ε=some xs->∀{Hs0 H0 Hs H σ},RS Hs0 H0 Hs H σ ε->∀{R:It->Hp->Prop},(∀ J Hs' H',Ext Hs H Hs' H'->zS J xs Hs'->R J H')->ti σ H R
def g0 (a:M):MA:=λε=>(a ε).bind λx=>match x with
 | .lst xs=>some xs
 |_=>none
theorem Bk {a:Addr}(h:Hs a=some (.lst vs))(r:Reps Hs xs vs):zS (Itl K a) xs Hs where
 go:=λi x Hs1 H1 e g1 g2=>by
  obtain ⟨v,ev,rv⟩:=r.get e;refine ⟨⟨vs,v,SqL.of (g2 _ _ (g1 _ _ h)),ev⟩,λw H2 y=>?_⟩;obtain ⟨rfl,y⟩:=y;have z:=y vs (SqL.of (g2 _ _ (g1 _ _ h)));rw [ev] at z;cases z;exact ⟨Hs1,.refl g2,rv.mono g1⟩
 stop:=λHs1 H1 g1 g2=>⟨vs,SqL.of (g2 _ _ (g1 _ _ h)),by rw [r.length];exact yU _⟩
instance [sa:SemE te a]:zo (vU K te) (g0 a) where
 h:=λe _ _ _ _ _ rs _ q=>by
  obtain ⟨x,ex,e1⟩:=bind_some e;split at e1
  ·cases e1;refine sa.h ex rs λv Hs1 H1 x1 r1=>?_;obtain ⟨p,vs,rfl,hp,r⟩:=rep_lst.mp r1;exact ⟨p,rfl,⟨vs,SqL.of (x1.s3 _ _ hp)⟩,q _ _ _ x1 (Bk hp r)⟩
  ·cases e1
def qv (lo:Int)(n:Nat):List PV:=(List.range n).map λ(i:Nat)=> .at (.int (lo+i))
theorem ju :(qv lo n).length=n:=by unfold qv;rw [yZ,ux]
theorem YS {i:Nat}(h:(qv lo n)[i]?=some x):i<n/\x = .at (.int (lo+i)):=by
 have hl:i<n:=by have:=(yA.mp h).1;rw [ju] at this;exact this
 refine ⟨hl,?_⟩;unfold qv at h;rw [yR,List.getElem?_range hl] at h;cases h;rfl
theorem WB :zS (Itr lo n) (qv lo n) Hs where
 go:=λi x Hs1 H1 e g1 g2=>by
  obtain ⟨hl,rfl⟩:=YS e;refine ⟨hl,λv H2 y=>?_⟩;obtain ⟨rfl,rfl⟩:=y;exact ⟨Hs1,.refl g2,rep_at.mpr rfl⟩
 stop:=λHs1 H1 g1 g2=>by show n<=_;rw [ju];exact yU _
def xA (a:MA):MA:=λε=>(a ε).bind λxs=>match xs with
 |[.at (.int j)]=>if -(lim:Int)<=j/\j<=lim then some (qv 0 j.toNat) else none
 |_=>none
instance {a:MA}[sa:qw ta a]:zo (zA ta) (xA a) where
 h:=λe _ _ _ _ _ rs _ q=>by
  obtain ⟨xs,ex,e1⟩:=bind_some e;split at e1
  ·rename_i j;split at e1
   ·rename_i hl;cases e1;refine sa.h ex rs λvs Hs1 H1 x1 r1=>?_;obtain ⟨v,r,rfl,p1,p2⟩:=reps_cons.mp r1;cases reps_nil.mp p2;cases rep_at.mp p1;have hlim:(lim:Int)=1000000:=rfl;exact ⟨j,rfl,by omega,by omega,q _ _ _ x1 WB⟩
   ·cases e1
  ·cases e1
def xz (g:MG)(f:MS):List PV->ME->Option Out
 |[],ε=>some (.nx ε)
 |x::xs,ε=>(g x ε).bind λε1=>(f ε1).bind λo=>match o with
  | .nx ε2=>xz g f xs ε2
  | .ct ε2=>xz g f xs ε2
  | .bk ε2=>some (.nx ε2)
  | .rt y=>some (.rt y)
def xX (i:MA)(g:MG)(f:MS):MS:=λε=>(i ε).bind λxs=>xz g f xs ε
theorem OutK.unbase {D:xh}(x:Ext Hs0 H0 Hb H):∀{o:Out},OutK fr Hs0 H0 D o->OutK fr Hb H0 D o
 | .nx _,h=>λHs H σ r=>h _ _ _ (RS.unbase x r)
 | .bk _,h=>λHs H σ r=>h _ _ _ (RS.unbase x r)
 | .ct _,h=>λHs H σ r=>h _ _ _ (RS.unbase x r)
 | .rt _,h=>by
  cases fr with
  |true=>exact λa Hs H e n n' t=>h a Hs H (x.unbase e) n n' t
  |false=>exact λa Hs H e r=>h a Hs H (x.unbase e) r
instance {tb:TS}{i:MA}{f:MS}[si:zo wi i][sg:zU tg ts g][sf:n9 fr tb f]:n9 fr (tFor wi tg tb) (xX i g f) where
 h:=λe Hs0 H0 _ _ _ rs D q=>by
  obtain ⟨xs,ex,e1⟩:=bind_some e;refine si.h ex rs λJ Hs1 H1 x1 ok=>?_;have rs1:=rs.go x1;have q1:=OutK.unbase rs1.ext q;refine ⟨λk m σ H=>m=xs.length-k/\k<=xs.length/\∃ Hs ε,RS Hs1 H0 Hs H σ ε/\xz g f (xs.drop k) ε=some _,⟨xs.length,by simp,yk _,Hs1,_,rs1.rebase,e1⟩,?_⟩;rintro k m σ H ⟨rfl,hk,Hs,ε,r,el⟩;by_cases hlt:k<xs.length
  ·have hd:xs.drop k=xs[k]::xs.drop (k+1):=ya hlt;rw [hd] at el;unfold xz at el;obtain ⟨ε1,eg,el1⟩:=bind_some el;obtain ⟨o,eo,el2⟩:=bind_some el1;obtain ⟨go,yl⟩:=ok.go k xs[k] Hs H (by simp [hlt]) r.ext.s1 r.ext.s3;refine .inr ⟨go,λσ' H'=>k+1<=xs.length/\∃ Hs ε,RS Hs1 H0 Hs H' σ' ε/\xz g f (xs.drop (k+1)) ε=some _,λσ' H' p=>⟨xs.length-(k+1),by omega,rfl,p.1,p.2⟩,λv H2 y=>?_⟩;obtain ⟨Hs2,x2,r2⟩:=yl v H2 y;refine sg.h eg (r.go x2) r2 λσ2 rs2 _=>sf.h eo rs2 ?_;cases o with
   |nx ε2=>exact λHs3 H3 σ3 r3=>⟨hlt,Hs3,ε2,r3,el2⟩
   |ct ε2=>exact λHs3 H3 σ3 r3=>⟨hlt,Hs3,ε2,r3,el2⟩
   |bk ε2=>cases el2;exact q1
   |rt y=>cases el2;exact q1
  ·have ek:k=xs.length:=by omega
   subst ek;rw [uq] at el;unfold xz at el;cases el;exact .inl ⟨ok.stop Hs H r.ext.s1 r.ext.s3,q1 _ _ _ r⟩
def m3 (cap:List (Option Nat))(ε:ME):ME:=cap.map λo=>match o with
 |none=> .no
 |some i=>(ε[i]?).getD .no
def i8 (g:MG)(c:MB)(f:M)(ε0:ME):List PV->Option (List PV)
 |[]=>some []
 |x::xs=>(g x ε0).bind λε1=>(c ε1).bind λb=>if b=true then (f ε1).bind λy=>(i8 g c f ε0 xs).bind λys=>some (y::ys) else i8 g c f ε0 xs
def u6:MB:=λ_=>some true
instance:qx tYes u6 where
 h:=λe _ _ _ _ _ rs _ q=>by cases e;exact q _ _ (.refl rs.sub)
def xM (cap:List (Option Nat))(ts:List Nat):Bool:=decide (cap.filterMap id).Nodup&&ts.all λi=>decide (cap[i]?=some none)
def u8 (cap:List (Option Nat))(ts:List Nat)(i:MA)(g:MG)(c:MB)(f:M):M:=λε=>(i ε).bind λxs=>if xM cap ts=true/\xs.length<=lim then (i8 g c f (m3 cap ε) xs).bind λys=>some (.lst ys) else none
theorem RS.cap {cap:List (Option Nat)}(hc:(cap.filterMap id).Nodup)(r:RS Hs0 H0 Hs H σ ε):RS Hs0 H0 Hs H (g9 cap σ) (m3 cap ε):=by
 have inj:∀(i j k:Nat),cap[i]?=some (some k)->cap[j]?=some (some k)->i=j:=by
  clear r
  induction cap with
  |nil=>intro i j k h;simp at h
  |cons o cap ih =>
   intro i j k hi hj;have no:∀(l:Nat),o=some k->cap[l]?=some (some k)->False:=λl ho hl=>by
    subst ho;rw [List.filterMap_cons_some (by rfl)] at hc;exact (yx.mp hc).1 (List.mem_filterMap.mpr ⟨some k,ym hl,rfl⟩)
   have hc':(cap.filterMap id).Nodup:=by
    cases o with
    |none=>rwa [List.filterMap_cons_none (by rfl)] at hc
    |some m=>rw [List.filterMap_cons_some (by rfl)] at hc;exact (yx.mp hc).2
   cases i with
   |zero =>
    cases j with
    |zero=>rfl
    |succ j=>exact (no j (by simpa using hi) (by simpa using hj)).elim
   |succ i =>
    cases j with
    |zero=>exact (no i (by simpa using hj) (by simpa using hi)).elim
    |succ j=>rw [ih hc' i j k (by simpa using hi) (by simpa using hj)]
 have at1:∀(i:Nat)(sl:MSlot),(m3 cap ε)[i]?=some sl->sl = .no∨∃ k,cap[i]?=some (some k)/\ε[k]?=some sl:=by
  intro i sl h;unfold m3 at h;rw [yR] at h;cases ho:cap[i]? with
  |none=>rw [ho] at h;cases h
  |some o =>
   rw [ho] at h;cases o with
   |none=>cases h;exact .inl rfl
   |some k =>
    cases hk:ε[k]? with
    |none=>simp only [uL,hk,Option.getD_none] at h;cases h;exact .inl rfl
    |some s=>simp only [uL,hk,Option.getD_some] at h;cases h;exact .inr ⟨k,rfl,hk⟩
 have at2:∀(i k:Nat),cap[i]?=some (some k)->∀ v,σ[k]?=some (some v)->(g9 cap σ)[i]?=some (some v):=by intro i k h v e;unfold g9;rw [yR,h];simp [e]
 have at3:∀(i k:Nat)(v:V),cap[i]?=some (some k)->(g9 cap σ)[i]?=some (some v)->σ[k]?=some (some v):=by
  intro i k v h e;unfold g9 at e;rw [yR,h] at e;simp only [uL,yE,Option.some.injEq] at e;cases hs:σ[k]? with
  |none=>rw [hs] at e;cases e
  |some o=>rw [hs] at e;simp at e;rw [e]
 refine ⟨r.ext,λi x h=>?_,λi x h=>?_,λi j x y a h1 h2 h3 h4=>?_,by unfold g9 m3;rw [yZ,yZ],λi x h=>?_⟩
 ·rcases at1 i _ h with z|⟨k,hk,e⟩
  ·cases z
  ·obtain ⟨v,hv,rv⟩:=r.sh k x e;exact ⟨v,at2 i k hk v hv,rv⟩
 ·rcases at1 i _ h with z|⟨k,hk,e⟩
  ·cases z
  ·obtain ⟨v,hv,rv⟩:=r.ow k x e;exact ⟨v,at2 i k hk _ hv,rv⟩
 ·rcases at1 i _ h1 with z|⟨k,hk,e⟩
  ·cases z
  ·rcases at1 j _ h2 with z|⟨l,hl,e'⟩
   ·cases z
   ·have kl:=r.nd k l x y a e e' (at3 i k _ hk h3) (at3 j l _ hl h4);subst kl;exact inj i j k hk hl
 ·rcases at1 i _ h with z|⟨k,hk,e⟩
  ·cases z
  ·obtain ⟨v,hv,rv⟩:=r.bo k x e;exact ⟨v,at2 i k hk _ hv,rv⟩
theorem Reps.snoc (r:Reps H xs vs)(p:Rep H x v):Reps H (xs++[x]) (vs++[v]):=r.append (.one p)
instance {tt:TT}{cap:List (Option Nat)}{i:MA}{f:M}[si:zo wi i][sg:zU tg ts g][sc:qx tt c][sf:SemE te f]:qL (wM wi tg tt te cap) (u8 cap ts i g c f) where
 h:=λe Hs0 H0 Hs H σ rs Q q=>by
  obtain ⟨xs,ex,e1⟩:=bind_some e;split at e1
  ·rename_i hcl;obtain ⟨hcap,hl⟩:=hcl;unfold xM at hcap;rw [uU] at hcap;obtain ⟨ys,ey,e2⟩:=bind_some e1;cases e2;refine si.h ex rs λJ Hs1 H1 x1 ok=>?_;have rc:=((rs.go x1).cap (uR hcap.1)).rebase;have wk:∀ i∈ts,(g9 cap σ)[i]?=some none:=λi hi=>by
    unfold g9;rw [yR,uR (uT.mp hcap.2 i hi)];rfl
   refine ⟨λk m zs H=>m=xs.length-k/\k<=xs.length/\∃ Hs2 ws,Ext Hs1 H1 Hs2 H/\RS Hs1 H0 Hs2 H (g9 cap σ) (m3 cap _)/\Reps Hs2 ws zs/\ws.length<=k/\∃ rest,i8 g c f (m3 cap _) (xs.drop k)=some rest/\ys=ws++rest,
    ⟨xs.length,by simp,yk _,Hs1,[],.refl x1.s3,rc,.nil,yU _,ys,ey,rfl⟩,?_⟩
   rintro k m zs H2 ⟨rfl,hk,Hs2,ws,x2,r2,rz,hw,rest,er,eys⟩;refine ⟨qr (by rw [rz.length];omega),?_⟩;by_cases hlt:k<xs.length
   ·have hd:xs.drop k=xs[k]::xs.drop (k+1):=ya hlt;rw [hd] at er;unfold i8 at er;obtain ⟨ε1,eg,er1⟩:=bind_some er;obtain ⟨b,eb,er2⟩:=bind_some er1;obtain ⟨go,yl⟩:=ok.go k xs[k] Hs2 H2 (by simp [hlt]) x2.s1 x2.s3;refine .inr ⟨go,λv H3 y=>?_⟩;obtain ⟨Hs3,x3,r3⟩:=yl v H3 y;refine sg.h eg (r2.go x3) r3 λσ2 rs2 bt=>⟨bt.wk wk,sc.h eb rs2 λHs4 H4 x4=>?_⟩;cases b with
    |true =>
     rw [if_pos rfl] at er2;obtain ⟨z,ez,er3⟩:=bind_some er2;obtain ⟨rest',er4,er5⟩:=bind_some er3;cases er5;refine xo (sf.h ez (rs2.go x4) λu Hs5 H5 x5 r5=>⟨xs.length-(k+1),by omega,rfl,hlt,Hs5,ws++[z],x2.trans (x3.trans (x4.trans x5)),((r2.go x3).go x4).go x5,?_,?_,rest',er4,?_⟩)
     ·exact (rz.mono (x3.s1.trans (x4.s1.trans x5.s1))).snoc r5
     ·rw [yM];simp;omega
     ·rw [uQ];exact eys
    |false=>rw [if_neg yS] at er2;exact xn ⟨xs.length-(k+1),by omega,rfl,hlt,Hs4,ws,x2.trans (x3.trans x4),(r2.go x3).go x4,rz.mono (x3.s1.trans x4.s1),by omega,rest,er2,eys⟩
   ·have ek:k=xs.length:=by omega
    subst ek;rw [uq] at er;unfold i8 at er;cases er;refine .inl ⟨ok.stop Hs2 H2 x2.s1 x2.s3,λD hD=>?_⟩;rw [yr] at eys;subst eys;have x12:=x1.trans x2;exact q D Hs2 _ (x12.trans (.newO x2.s3 hD)) (x12.s2.free hD) (x2.s3.free hD) ⟨zs,y0,rz⟩
  ·cases e1
def u9 (n k:Nat)(f:MS):List PV->Option PV:=λxs=>if xs.length=k then (f (xs.map .sh++List.replicate (n-k) .no)).bind λo=>match o with
 | .rt y=>some y
 | .nx _=>some (.at .non)
 |_=>none else none
def xk (n k:Nat)(f:MS):List PV->Option PV:=λxs=>if xs.length=k then (f (xs.map .sh++List.replicate (n-k) .no)).bind λo=>match o with
 | .rt y=>some y
 |_=>none else none
end Mi
namespace Mi
open PySem PySem.Spec PyProof.Rows L2
variable{N ps:List Str}{qual x:Str}{st:Stmt}{f:Addr}{fd:FuncData}{b:MS}{m:List PV->Option PV}
theorem wH {Hs H:Hp}{xs:List PV}{vs:List V}(s:Same Hs H)(r:Reps Hs xs vs):RS Hs H Hs H (L2.start N vs) (xs.map .sh++List.replicate (N.length-xs.length) .no):=by
 have el:=r.length;have at1:∀(i:Nat)(sl:MSlot),(xs.map MSlot.sh++List.replicate (N.length-xs.length) .no)[i]?=some sl->sl = .no∨∃ x,xs[i]?=some x/\sl = .sh x:=by
  intro i sl h;by_cases hi:i<xs.length
  ·rw [uN (by rw [yZ];exact hi),yR] at h;obtain ⟨x,hx,rfl⟩:=yG.mp h;exact .inr ⟨x,hx,rfl⟩
  ·rw [uH (by rw [yZ];omega),uC] at h;split at h
   ·cases h;exact .inl rfl
   ·cases h
 refine ⟨.refl s,λi x h=>?_,λi x h=>?_,λi j x y a h1 _ _ _=>?_,?_,λi x h=>?_⟩
 ·rcases at1 i _ h with z|⟨y,hy,z⟩
  ·cases z
  ·cases z;obtain ⟨v,hv,rv⟩:=r.get hy;refine ⟨v,?_,rv⟩;unfold L2.start;rw [uN (by rw [yZ];exact (yA.mp hv).1),yR,hv];rfl
 ·rcases at1 i _ h with z|⟨y,hy,z⟩<;>cases z
 ·rcases at1 i _ h1 with z|⟨y,hy,z⟩<;>cases z
 ·unfold L2.start;rw [yM,yM,yZ,yZ,uI,uI,el]
 ·rcases at1 i _ h with z|⟨y,hy,z⟩<;>cases z
section
variable {P:Program}{w:World}{K:Fg}{mg:Str->Option Value}{base:Heap}
theorem b8 {k:Nat}(F:Fun K x qual st f fd)(S:v9 N ps (j6 st))(hm:m=u9 N.length ps.length b)(hb:∀(cdv:Value)(A:Around)(outer:List Env)(s:Shared)(H:Hp)(E:XK),Room k (A.deeper (envOfC qual (j6 st) s.heap.objs.size f cdv)) -> ∃ t,PSs (qN j8 P w K mg base N qual (j6 st) f cdv A outer s H E).nox (f6 st) t/\n9 false t b):FnOk P w K mg base j8 (k+1) f fd ps (j5 m):=by
 subst hm;refine F.ok S (λvs H Q E h=>?_) (λcdv A outer s H vs Q E hr h=>?_)
 ·obtain ⟨Hs,xs,y,_,r,e,_⟩:=h;unfold u9 at e;split at e
  ·rename_i hl;rw [r.length];exact hl
  ·cases e
 ·obtain ⟨Hs,xs,y,sm,r,e,q⟩:=h;obtain ⟨t,ht,sem⟩:=hb cdv A outer s H E hr;refine ⟨t,ht,?_⟩;unfold u9 at e;split at e
  ·rename_i hl;obtain ⟨o,eo,e1⟩:=bind_some e;refine sem.h eo (by rw [<- hl];exact wH sm r) ?_;cases o with
   |rt z=>cases e1;exact λv Hs' H' x rv=>q v Hs' H' x rv
   |nx ε=>cases e1;exact λHs' H' σ rs=>q _ Hs' H' rs.ext (rep_at.mpr rfl)
   |bk ε=>cases e1
   |ct ε=>cases e1
  ·cases e
theorem okO {k:Nat}(F:Fun K x qual st f fd)(S:v9 N ps (j6 st))(hm:m=xk N.length ps.length b)(hb:∀(cdv:Value)(A:Around)(outer:List Env)(s:Shared)(H:Hp)(E:XK),Room k (A.deeper (envOfC qual (j6 st) s.heap.objs.size f cdv)) -> ∃ t,PSs (qN j8 P w K mg base N qual (j6 st) f cdv A outer s H E).nox (f6 st) t/\n9 true t b):FnOk P w K mg base j8 (k+1) f fd ps (o8 m):=by
 subst hm;refine F.ok S (λvs H Q E h=>?_) (λcdv A outer s H vs Q E hr h=>?_)
 ·obtain ⟨Hs,xs,y,_,r,e,_⟩:=h;unfold xk at e;split at e
  ·rename_i hl;rw [r.length];exact hl
  ·cases e
 ·obtain ⟨Hs,xs,y,sm,r,e,q⟩:=h;obtain ⟨t,ht,sem⟩:=hb cdv A outer s H E hr;refine ⟨t,ht,?_⟩;unfold xk at e;split at e
  ·rename_i hl;obtain ⟨o,eo,e1⟩:=bind_some e;refine sem.h eo (by rw [<- hl];exact wH sm r) ?_;cases o with
   |rt z=>cases e1;exact λa Hs' H' x n n' t=>q a Hs' H' x n n' t
   |nx ε=>cases e1
   |bk ε=>cases e1
   |ct ε=>cases e1
  ·cases e
end
end Mi
namespace Mi
open PySem L2
variable{X:Cx}{K:Fg}{ta:TA}{j n:Int}{H H0 Hs Hs0:Hp}{xs ys:List PV}{x y:PV}{v:V}{td te tv ty:TE}{vs ws:List V}{o:HO}{f nm qual:Str}{tt:TT}{r:Option PV}{G g:MG}{t tb u:TS}{S:List Addr}{σ σ':St}{ε ε':ME}{E:XK}{pre pre0:List PV->Prop}{R R0:List PV->PV->Prop}{a0 as:MA}{c:MB}{wi:TI}{tg:TG}{ts:List Nat}{N ns ps:List Str}{st:Stmt}{fd:FuncData}{m:List PV->Option PV}{C:Addr}{e:Expr}{pos:Pos}{pl:Sem Bool}{l:List Int}{α:Type}{sp:Sp}
theorem qb {a:Expr}{ta:TE}(h:X.K=K)(ha:PE X a ta)(he:∀ whole,isTrue a X.env whole=(do let v <- whole;standAt a.pos;holding [v] (truthy v))):PT X a (tTru K ta):=Dc h ha he
abbrev qH:PV->PV->Option PV:=pI λi j=>some (.int (i-j))
abbrev pLt:PV->PV->Option PV:=pI λi j=>some (.bl (decide (i<j)))
abbrev pLe:PV->PV->Option PV:=pI λi j=>some (.bl (decide (i<=j)))
abbrev pGt:PV->PV->Option PV:=pI λi j=>some (.bl (decide (j<i)))
abbrev pGe:PV->PV->Option PV:=pI λi j=>some (.bl (decide (j<=i)))
instance {i:Int}:Decidable (vz i j):=by unfold vz;infer_instance
instance {i:Int}:Decidable (zn i j):=by unfold zn;infer_instance
abbrev pMul:PV->PV->Option PV:=pI λi j=>if vz i j then some (.int (i*j)) else none
abbrev zG:PV->PV->Option PV:=pI λi j=>if zn i j then some (.int (i ^ j.toNat)) else none
abbrev pNeg:PV->Option PV:=pU λi=> .int (-i)
theorem Reps.nil_of (r:Reps H xs []):xs=[]:=uB.mp r.length.symm
def k7:PV->PV->Option PV
 | .at (.int i),.at (.int j)=>some (.at (.int (i+j)))
 | .at (.str x),.at (.str y)=>if x.length+y.length<=lim then some (.at (.str (x++y))) else none
 | .lst xs,.lst ys=>if xs.length+ys.length<=lim then some (.lst (xs++ys)) else none
 | .tup xs,.tup ys=>if xs≠[]/\xs.length+ys.length<=lim then some (.tup (xs++ys)) else none
 |_,_=>none
instance :qM (Zh K) k7 where
 h:=λ{x y z} e {Hs H v w} s a b {Q} q=>by
  unfold k7 at e;split at e
  ·cases e;exact .inl ⟨_,_,y9 a,y9 b,q _ _ _ (.refl s) (rep_at.mpr rfl)⟩
  ·split at e
   ·rename_i hl;cases e;exact .inr (.inl ⟨_,_,y9 a,y9 b,qr hl,q _ _ _ (.refl s) (rep_at.mpr rfl)⟩)
   ·cases e
  ·split at e
   ·rename_i hl;cases e;obtain ⟨p,vs,rfl,e1,r1⟩:=i5 s a;obtain ⟨p',ws,rfl,e2,r2⟩:=i5 s b;refine .inr (.inr (.inl ⟨p,p',vs,ws,rfl,rfl,SqL.of e1,SqL.of e2,qr (by rw [r1.length,r2.length];exact hl),λl hl=>?_⟩));exact q _ _ _ (.new s hl) (rep_lst.mpr ⟨l,_,rfl,y0,(r1.append r2).mono (Ext.new s hl).s1⟩)
   ·cases e
  ·split at e
   ·rename_i hl;cases e;obtain ⟨p,vs,rfl,e1,r1⟩:=qJ s a;obtain ⟨p',ws,rfl,e2,r2⟩:=qJ s b;have hn:vs≠[]:=λz=>by
     have h1:=r1.length;rw [z] at h1;exact hl.1 (uB.mp h1.symm)
    refine .inr (.inr (.inr ⟨p,p',vs,ws,rfl,rfl,SqT.of e1,SqT.of e2,hn,qr (by rw [r1.length,r2.length];exact hl.2),λz=>?_,λz l hl=>?_⟩))
    ·subst z;cases r2.nil_of;rw [yr] at q;rcases a with a|⟨_,_,_,t⟩
     ·exact q _ _ _ (.refl s) a
     ·exact t.elim
    ·exact q _ _ _ (.new s hl) (rep_tup.mpr ⟨l,_,rfl,y0,(r1.append r2).mono (Ext.new s hl).s1⟩)
   ·cases e
  ·cases e
def qa:List PV->Option PV
 |[.at (.str x)]=>if x.length<=lim then some (.at (.int x.length)) else none
 |[.lst xs]=>some (.at (.int xs.length))
 |[.tup xs]=>some (.at (.int xs.length))
 |[.dk ks _]=>some (.at (.int ks.length))
 |_=>none
instance :jG (zL K) qa where
 h:=λ{xs z} e {Hs H vs} s r {Q} q=>by
  unfold qa at e;split at e
  ·split at e
   ·rename_i hl;cases e;obtain ⟨v,rfl,a⟩:=xv r;cases y9 a;exact .inl ⟨_,_,rfl,⟨qr hl,rfl⟩,q _ _ _ (.refl s) (rep_at.mpr rfl)⟩
   ·cases e
  ·cases e;obtain ⟨v,rfl,a⟩:=xv r;obtain ⟨p,ws,rfl,e1,r1⟩:=i5 s a;exact .inl ⟨_,_,rfl,.inl ⟨ws,SqL.of e1,rfl⟩,q _ _ _ (.refl s) (rep_at.mpr (by rw [r1.length]))⟩
  ·cases e;obtain ⟨v,rfl,a⟩:=xv r;obtain ⟨p,ws,rfl,e1,r1⟩:=qJ s a;exact .inl ⟨_,_,rfl,.inr ⟨ws,SqT.of e1,rfl⟩,q _ _ _ (.refl s) (rep_at.mpr (by rw [r1.length]))⟩
  ·cases e;obtain ⟨v,rfl,a⟩:=xv r;obtain ⟨p,kvs,rfl,e1,k,r1⟩:=zj s a;exact .inr ⟨p,kvs,rfl,e1,q _ _ _ (.refl s) (rep_at.mpr (by rw [<- k,yZ]))⟩
  ·cases e
def ww:List PV->Option PV
 |[.lst xs]=>some (.lst xs)
 |[.tup xs]=>some (.lst xs)
 |_=>none
instance :Xe (Yy K) ww where
 h:=λ{xs z} e {Hs H vs} s r {Q} q=>by
  unfold ww at e;split at e
  ·cases e;obtain ⟨v,rfl,a⟩:=xv r;obtain ⟨p,ws,rfl,e1,r1⟩:=i5 s a;exact ⟨p,ws,rfl,.inl (SqL.of e1),λl hl=>q l _ _ (.newO s hl) hl (s.free hl) ⟨ws,y0,r1⟩⟩
  ·cases e;obtain ⟨v,rfl,a⟩:=xv r;obtain ⟨p,ws,rfl,e1,r1⟩:=qJ s a;exact ⟨p,ws,rfl,.inr (SqT.of e1),λl hl=>q l _ _ (.newO s hl) hl (s.free hl) ⟨ws,y0,r1⟩⟩
  ·cases e
def tyP:PV->Option String
 | .at .non=>some "NoneType"
 | .at (.bl _)=>some "bool"
 | .at (.int _)=>some "int"
 | .at (.str _)=>some "str"
 | .lst _=>some "list"
 | .tup _=>some "tuple"
 | .dk _ _=>some "dict"
 |_=>none
theorem MO {T:String}(s:Same Hs H)(r:RepB Hs H x v)(e:tyP x=some T):qF K H v (.type T):=by
 unfold tyP at e;split at e
 ·cases e;cases y9 r;exact .non
 ·cases e;cases y9 r;exact .bl _
 ·cases e;cases y9 r;exact .int _
 ·cases e;cases y9 r;exact .str _
 ·cases e;obtain ⟨p,ws,rfl,e1,r1⟩:=i5 s r;exact .lst e1
 ·cases e;obtain ⟨p,ws,rfl,e1,r1⟩:=qJ s r;exact .tup e1
 ·cases e;obtain ⟨p,ws,rfl,e1,_⟩:=zj s r;exact .dK e1
 ·cases e
def c8:List PV->Option PV
 |[x,.at (.ty n)]=>(tyP x).bind λT=>(tyB T n).bind λb=>some (.at (.bl b))
 |_=>none
instance :jG (rIsi K) c8 where
 h:=λ{xs z} e {Hs H vs} s r {Q} q=>by
  unfold c8 at e;split at e
  ·obtain ⟨T,eT,e1⟩:=bind_some e;obtain ⟨b,eb,e2⟩:=bind_some e1;cases e2;obtain ⟨v,w,rfl,a,c⟩:=YQ r;cases y9 c;exact ⟨v,_,T,b,rfl,MO s a eT,eb,q _ _ _ (.refl s) (rep_at.mpr rfl)⟩
  ·cases e
def bls:List PV->Option (List Bool)
 |[]=>some []
 | .at (.bl b)::xs=>(bls xs).map (b::·)
 |_::_=>none
theorem VG:∀{xs:List PV}{bs:List Bool},bls xs=some bs->xs=bs.map λb=> .at (.bl b)
 |[],_,h=>by cases h;rfl
 |x::xs,bs,h=>by
  unfold bls at h;split at h
  ·rename_i heq;cases heq
  ·rename_i b ys heq;injection heq with h1 h2;obtain ⟨r,e,rfl⟩:=yG.mp h;subst h2;rw [h1,yN,VG e]
  ·cases h
def zB:List PV->Option (List Int)
 |[]=>some []
 | .at (.int b)::xs=>(zB xs).map (b::·)
 |_::_=>none
theorem Wu:∀{xs:List PV}{bs:List Int},zB xs=some bs->xs=bs.map λb=> .at (.int b)
 |[],_,h=>by cases h;rfl
 |x::xs,bs,h=>by
  unfold zB at h;split at h
  ·rename_i heq;cases heq
  ·rename_i b ys heq;injection heq with h1 h2;obtain ⟨r,e,rfl⟩:=yG.mp h;subst h2;rw [h1,yN,Wu e]
  ·cases h
def qX:List PV->Option PV
 |[.lst xs]=>(bls xs).bind λbs=>some (.at (.bl (bs.all id)))
 |_=>none
instance :jG (Ys K) qX where
 h:=λ{xs z} e {Hs H vs} s r {Q} q=>by
  unfold qX at e;split at e
  ·obtain ⟨bs,eb,e1⟩:=bind_some e;cases e1;obtain ⟨v,rfl,a⟩:=xv r;obtain ⟨p,ws,rfl,e1,r1⟩:=i5 s a;rw [VG eb,show (bs.map λb=>PV.at (.bl b))=(bs.map V.bl).map .at by rw [yq];rfl] at r1;cases r1.ats;exact ⟨p,bs,rfl,SqL.of e1,q _ _ _ (.refl s) (rep_at.mpr rfl)⟩
  ·cases e
def wx:List PV->Option PV
 |[.at (.int i),.at (.int j)]=>some (.at (.int (if j<i then j else i)))
 |_=>none
instance:jG Yz wx where
 h:=λ{xs z} e {Hs H vs} s r {Q} q=>by
  unfold wx at e;split at e
  ·cases e;obtain ⟨v,w,rfl,a,b⟩:=YQ r;cases y9 a;cases y9 b;exact ⟨_,_,rfl,q _ _ _ (.refl s) (rep_at.mpr rfl)⟩
  ·cases e
def jg:PV->Bool
 | .at .non=>true
 |_=>false
def vV:PV->Bool
 | .op _=>true
 |_=>false
def pIsN:PV->PV->Option PV:=λx y=>if jg y=true/\vV x=false then some (.at (.bl (jg x))) else none
def QJ:PV->PV->Option PV:=λx y=>if jg y=true/\vV x=false then some (.at (.bl (!jg x))) else none
theorem Qm (s:Same Hs H)(r:RepB Hs H x v)(ho:vV x=false):decide (v = .non)=jg x:=by
 cases x with
 |«at» u=>cases y9 r;cases v<;>first|rfl|(exact yB (λz=>nomatch z))
 |tup xs=>obtain ⟨p,ws,rfl,_⟩:=qJ s r;exact yB (λz=>nomatch z)
 |lst xs=>obtain ⟨p,ws,rfl,_⟩:=i5 s r;exact yB (λz=>nomatch z)
 |dk ks xs=>obtain ⟨p,ws,rfl,_⟩:=zj s r;exact yB (λz=>nomatch z)
 |fk ks xs=>obtain ⟨p,o,ws,rfl,_⟩:=wF s r;exact yB (λz=>nomatch z)
 |ob C ns xs=>obtain ⟨p,dx,ws,rfl,_⟩:=YO s r;exact yB (λz=>nomatch z)
 |op φ=>cases ho
instance:qM rIsN pIsN where
 h:=λ{x y z} e {Hs H v w} s a b {Q} q=>by
  unfold pIsN at e;split at e
  ·rename_i hy;cases e;have hb:vV y=false:=by cases y<;>first|rfl|(exact absurd hy.1 (by simp [jg]))
   refine ⟨uR ((Qm s b hb).trans hy.1),?_⟩;rw [Qm s a hy.2];exact q _ _ _ (.refl s) (rep_at.mpr rfl)
  ·cases e
instance:qM YA QJ where
 h:=λ{x y z} e {Hs H v w} s a b {Q} q=>by
  unfold QJ at e;split at e
  ·rename_i hy;cases e;have hb:vV y=false:=by cases y<;>first|rfl|(exact absurd hy.1 (by simp [jg]))
   refine ⟨uR ((Qm s b hb).trans hy.1),?_⟩;rw [Qm s a hy.2];exact q _ _ _ (.refl s) (rep_at.mpr rfl)
  ·cases e
def xE (f:PV->PV->Option Bool):List PV->List PV->Option Bool
 |x::xs,y::ys=>(f x y).bind λa=>(xE f xs ys).bind λb=>some (a&&b)
 |_,_=>some true
def peq0:PV->PV->Option Bool
 | .at u,.at v=>if y6 u=true/\y6 v=true then some (n6 u v) else none
 |_,_=>none
def peq1 (f:PV->PV->Option Bool):PV->PV->Option Bool
 | .at u,.at v=>if y6 u=true/\y6 v=true then some (n6 u v) else none
 | .lst xs,.lst ys=>if xs.length=ys.length then xE f xs ys else some false
 | .tup xs,.tup ys=>(xE f xs ys).bind λb=>some (b&&xs.length==ys.length)
 | .lst _,.tup _=>some false
 | .tup _,.lst _=>some false
 | .at u,.lst _=>if y6 u=true then some false else none
 | .at u,.tup _=>if y6 u=true then some false else none
 | .lst _,.at u=>if y6 u=true then some false else none
 | .tup _,.at u=>if y6 u=true then some false else none
 |_,_=>none
def peq:Nat->PV->PV->Option Bool
 |0=>peq0
 |n+1=>peq1 (peq n)
theorem Zd {K:Fg}{Hs H:Hp}{n:Nat}(s:Same Hs H)(ih:∀{x y:PV}{v w:V}{b:Bool},peq n x y=some b->Rep Hs x v->Rep Hs y w->EqP K H n v w b):∀{xs ys:List PV}{vs ws:List V}{b:Bool},xE (peq n) xs ys=some b->Reps Hs xs vs->Reps Hs ys ws->∃ e:Nat->Bool,(∀ j (h1:j<vs.length) (h2:j<ws.length),EqP K H n vs[j] ws[j] (e j))/\b=(List.range (min vs.length ws.length)).all e
 |[],ys,vs,ws,b,h,r1,r2=>by
  cases reps_nil.mp r1;unfold xE at h;cases h;exact ⟨λ_=>true,λj h1=>absurd h1 (Nat.not_lt_zero _),by simp⟩
 |x::xs,[],vs,ws,b,h,r1,r2=>by
  cases reps_nil.mp r2;unfold xE at h;cases h;exact ⟨λ_=>true,λj h1 h2=>absurd h2 (Nat.not_lt_zero _),by simp⟩
 |x::xs,y::ys,vs,ws,b,h,r1,r2=>by
  obtain ⟨v,vr,rfl,p1,q1⟩:=reps_cons.mp r1;obtain ⟨w,wr,rfl,p2,q2⟩:=reps_cons.mp r2;unfold xE at h;obtain ⟨a,ea,h1⟩:=bind_some h;obtain ⟨c,ec,h2⟩:=bind_some h1;cases h2;obtain ⟨e,he,hb⟩:=Zd s ih ec q1 q2;refine ⟨λj=>match j with|0=>a|j+1=>e j,λj h1 h2=>?_,?_⟩
  ·cases j with
   |zero=>exact ih ea p1 p2
   |succ j=>exact he j (by simpa using h1) (by simpa using h2)
  ·rw [yu,yu,Nat.succ_min_succ,List.range_succ_eq_map,List.all_cons,List.all_map,hb];rfl
theorem Zc {K:Fg}{Hs H:Hp}(s:Same Hs H):∀(n:Nat){x y:PV}{v w:V}{b:Bool},peq n x y=some b->RepB Hs H x v->RepB Hs H y w->EqP K H n v w b
 |0,x,y,v,w,b,h,r1,r2=>by
  unfold peq peq0 at h;split at h
  ·split at h
   ·rename_i hf;cases h;cases y9 r1;cases y9 r2;exact ⟨hf.1,hf.2,rfl⟩
   ·cases h
  ·cases h
 |n+1,x,y,v,w,b,h,r1,r2=>by
  have ih:∀{x y:PV}{v w:V}{b:Bool},peq n x y=some b->Rep Hs x v->Rep Hs y w->EqP K H n v w b:=λh r1 r2=>Zc s n h (.inl r1) (.inl r2);unfold peq peq1 at h;split at h
  ·split at h
   ·rename_i hf;cases h;cases y9 r1;cases y9 r2;exact .inl ⟨hf.1,hf.2,rfl⟩
   ·cases h
  ·obtain ⟨a,vs,rfl,e1,q1⟩:=i5 s r1;obtain ⟨c,ws,rfl,e2,q2⟩:=i5 s r2;refine .inr (.inl ⟨a,c,vs,ws,rfl,rfl,SqL.of e1,SqL.of e2,?_⟩);split at h
   ·rename_i hl;obtain ⟨e,he,hb⟩:=Zd s ih h q1 q2;have hl':vs.length=ws.length:=by rw [q1.length,q2.length,hl]
    exact .inr ⟨hl',e,he,by rw [hb,<- hl',Nat.min_self]⟩
   ·rename_i hl;cases h;exact .inl ⟨by rw [q1.length,q2.length];exact hl,rfl⟩
  ·obtain ⟨a,vs,rfl,e1,q1⟩:=qJ s r1;obtain ⟨c,ws,rfl,e2,q2⟩:=qJ s r2;obtain ⟨d,ed,h1⟩:=bind_some h;cases h1;obtain ⟨e,he,hb⟩:=Zd s ih ed q1 q2;exact .inr (.inr (.inl ⟨a,c,vs,ws,rfl,rfl,SqT.of e1,SqT.of e2,e,he,by rw [hb,q1.length,q2.length]⟩))
  ·cases h;obtain ⟨a,vs,rfl,e1,q1⟩:=i5 s r1;obtain ⟨c,ws,rfl,e2,q2⟩:=qJ s r2;exact .inr (.inr (.inr (.inl ⟨a,c,vs,ws,rfl,rfl,SqL.of e1,SqT.of e2,rfl⟩)))
  ·cases h;obtain ⟨a,vs,rfl,e1,q1⟩:=qJ s r1;obtain ⟨c,ws,rfl,e2,q2⟩:=i5 s r2;exact .inr (.inr (.inr (.inr (.inl ⟨a,c,vs,ws,rfl,rfl,SqT.of e1,SqL.of e2,rfl⟩))))
  ·split at h
   ·rename_i hf;cases h;cases y9 r1;obtain ⟨c,ws,rfl,e2,q2⟩:=i5 s r2;exact .inr (.inr (.inr (.inr (.inr (.inl ⟨c,ws,hf,rfl,.inl (SqL.of e2),rfl⟩)))))
   ·cases h
  ·split at h
   ·rename_i hf;cases h;cases y9 r1;obtain ⟨c,ws,rfl,e2,q2⟩:=qJ s r2;exact .inr (.inr (.inr (.inr (.inr (.inl ⟨c,ws,hf,rfl,.inr (SqT.of e2),rfl⟩)))))
   ·cases h
  ·split at h
   ·rename_i hf;cases h;cases y9 r2;obtain ⟨c,ws,rfl,e2,q2⟩:=i5 s r1;exact .inr (.inr (.inr (.inr (.inr (.inr ⟨c,ws,hf,rfl,.inl (SqL.of e2),rfl⟩)))))
   ·cases h
  ·split at h
   ·rename_i hf;cases h;cases y9 r2;obtain ⟨c,ws,rfl,e2,q2⟩:=qJ s r1;exact .inr (.inr (.inr (.inr (.inr (.inr ⟨c,ws,hf,rfl,.inr (SqT.of e2),rfl⟩)))))
   ·cases h
  ·cases h
def pEq:PV->PV->Option PV:=λx y=>(peq 6 x y).bind λb=>some (.at (.bl b))
def pNe:PV->PV->Option PV:=λx y=>(peq 6 x y).bind λb=>some (.at (.bl (!b)))
instance :qM (rEqD K 6 false) pEq where
 h:=λ{x y z} e {Hs H v w} s a b {Q} q=>by
  obtain ⟨c,ec,e1⟩:=bind_some e;cases e1;exact ⟨c,Zc s 6 ec a b,q _ _ _ (.refl s) (rep_at.mpr rfl)⟩
instance :qM (rEqD K 6 true) pNe where
 h:=λ{x y z} e {Hs H v w} s a b {Q} q=>by
  obtain ⟨c,ec,e1⟩:=bind_some e;cases e1;exact ⟨c,Zc s 6 ec a b,q _ _ _ (.refl s) (rep_at.mpr rfl)⟩
class SemP (to:TO)(f:ME->Option (Option Int)):Prop where
 h:∀{ε y},f ε=some y->∀{Hs0 H0 Hs H σ},RS Hs0 H0 Hs H σ ε->∀{Q:Option Int->Hp->Prop},(∀ Hs' H',Ext Hs H Hs' H'->Q y H')->to σ H Q
def pNo:ME->Option (Option Int):=λ_=>some none
def pInt:PV->Option Int
 | .at (.int i)=>some i
 |_=>none
def pSo (a:M):ME->Option (Option Int):=λε=>(a ε).bind λx=>(pInt x).bind λi=>some (some i)
instance:SemP Ut pNo where
 h:=λe _ _ _ _ _ rs _ q=>by cases e;exact q _ _ (.refl rs.sub)
instance {a:M}[sa:p8 te a]:SemP (Uv te) (pSo a) where
 h:=λe _ _ _ _ _ rs _ q=>by
  obtain ⟨x,ex,e1⟩:=bind_some e;obtain ⟨i,ei,e2⟩:=bind_some e1;cases e2;unfold pInt at ei;split at ei
  ·cases ei;exact sa.h ex rs λv Hs1 H1 x1 r1=>⟨_,y9 r1,q _ _ x1⟩
  ·cases ei
def xm (n:Nat):List PV->List PV
 |[]=>[]
 |x::xs=> .tup [.at (.int n),x]::xm (n+1) xs
theorem Wg:∀{xs:List PV}{n i:Nat}{z:PV},(xm n xs)[i]?=some z->∃ x,xs[i]?=some x/\z = .tup [.at (.int ((n+i:Nat):Int)),x]
 |[],n,i,z,h=>by simp [xm] at h
 |x::xs,n,0,z,h=>by simp [xm] at h;exact ⟨x,rfl,h.symm⟩
 |x::xs,n,i+1,z,h=>by
  obtain ⟨y,h1,h2⟩:=Wg (xs:=xs) (n:=n+1) (i:=i) (z:=z) (by simpa [xm] using h);exact ⟨y,by simpa using h1,by rw [h2,show n+1+i=n+(i+1) by omega]⟩
theorem Wh:∀{xs:List PV}{n:Nat},(xm n xs).length=xs.length
 |[],_=>rfl
 |x::xs,n=>by simp [xm,Wh]
theorem Bi {a:Addr}(h:Hs a=some (.lst vs))(r:Reps Hs xs vs):zS (Ite K a) (xm 0 xs) Hs where
 go:=λi x Hs1 H1 e g1 g2=>by
  obtain ⟨y,ey,rfl⟩:=Wg e;obtain ⟨v,ev,rv⟩:=r.get ey;refine ⟨⟨vs,v,SqL.of (g2 _ _ (g1 _ _ h)),ev⟩,λw H2 z=>?_⟩;obtain ⟨p,u,hp,rfl,rfl,hu⟩:=z;have e1:=hu vs (SqL.of (g2 _ _ (g1 _ _ h)));rw [ev] at e1;cases e1;refine ⟨_,.new g2 hp,rep_tup.mpr ⟨p,_,rfl,y0,.cons (rep_at.mpr (by rw [Nat.zero_add])) (.one (rv.mono (g1.trans (Ext.new g2 hp).s1)))⟩⟩
 stop:=λHs1 H1 g1 g2=>⟨vs,SqL.of (g2 _ _ (g1 _ _ h)),by rw [r.length,Wh];exact yU _⟩
def Xr (a:MA):MA:=λε=>(a ε).bind λxs=>match xs with
 |[.lst ys]=>some (xm 0 ys)
 |_=>none
instance {a:MA}[sa:qw ta a]:zo (XB K ta) (Xr a) where
 h:=λe _ _ _ _ _ rs _ q=>by
  obtain ⟨xs,ex,e1⟩:=bind_some e;split at e1
  ·cases e1;refine sa.h ex rs λvs Hs1 H1 x1 r1=>?_;obtain ⟨v,r,rfl,p1,p2⟩:=reps_cons.mp r1;cases reps_nil.mp p2;obtain ⟨p,ws,rfl,hp,rw⟩:=rep_lst.mp p1;exact ⟨p,rfl,⟨ws,SqL.of (x1.s3 _ _ hp)⟩,q _ _ _ x1 (Bi hp rw)⟩
  ·cases e1
def qz:List PV->List PV->List PV
 |x::xs,y::ys=> .tup [x,y]::qz xs ys
 |_,_=>[]
theorem UN:∀{xs ys:List PV}{i:Nat}{z:PV},(qz xs ys)[i]?=some z->∃ x y,xs[i]?=some x/\ys[i]?=some y/\z = .tup [x,y]
 |[],_,i,z,h=>by simp [qz] at h
 |_::_,[],i,z,h=>by simp [qz] at h
 |x::xs,y::ys,0,z,h=>by simp [qz] at h;exact ⟨x,y,rfl,rfl,h.symm⟩
 |x::xs,y::ys,i+1,z,h=>by
  obtain ⟨u,v,h1,h2,h3⟩:=UN (xs:=xs) (ys:=ys) (i:=i) (z:=z) (by simpa [qz] using h);exact ⟨u,v,by simpa using h1,by simpa using h2,h3⟩
theorem UO:∀{xs ys:List PV},(qz xs ys).length=min xs.length ys.length
 |[],_=>by simp [qz]
 |_::_,[]=>by simp [qz]
 |x::xs,y::ys=>by simp [qz,UO,Nat.succ_min_succ]
theorem Bm {a b:Addr}(h:Hs a=some (.lst vs))(r:Reps Hs xs vs)(h':Hs b=some (.lst ws))(r':Reps Hs ys ws):zS (Itz K a b) (qz xs ys) Hs where
 go:=λi x Hs1 H1 e g1 g2=>by
  obtain ⟨y,z,ey,ez,rfl⟩:=UN e;obtain ⟨v,ev,rv⟩:=r.get ey;obtain ⟨w,ew,rw⟩:=r'.get ez;have q1:SqL K H1 a vs:=SqL.of (g2 _ _ (g1 _ _ h));have q2:SqL K H1 b ws:=SqL.of (g2 _ _ (g1 _ _ h'));refine ⟨⟨vs,ws,v,w,q1,q2,ev,ew⟩,λu H2 z=>?_⟩;obtain ⟨p,v',w',hp,rfl,rfl,hv,hw⟩:=z;have e1:=hv vs q1;have e2:=hw ws q2;rw [ev] at e1;rw [ew] at e2;cases e1;cases e2;have g3:=g1.trans (Ext.new (o:= .tup [v,w]) g2 hp).s1;exact ⟨_,.new g2 hp,rep_tup.mpr ⟨p,_,rfl,y0,.cons (rv.mono g3) (.one (rw.mono g3))⟩⟩
 stop:=λHs1 H1 g1 g2=>⟨vs,ws,SqL.of (g2 _ _ (g1 _ _ h)),SqL.of (g2 _ _ (g1 _ _ h')),by rw [r.length,r'.length,UO];omega⟩
def vL (a:MA):MA:=λε=>(a ε).bind λxs=>match xs with
 |[.lst ys,.lst zs]=>some (qz ys zs)
 |_=>none
instance {a:MA}[sa:qw ta a]:zo (iZip K ta) (vL a) where
 h:=λe _ _ _ _ _ rs _ q=>by
  obtain ⟨xs,ex,e1⟩:=bind_some e;split at e1
  ·cases e1;refine sa.h ex rs λvs Hs1 H1 x1 r1=>?_;obtain ⟨v,r,rfl,p1,p2⟩:=reps_cons.mp r1;obtain ⟨v',r',rfl,p3,p4⟩:=reps_cons.mp p2;cases reps_nil.mp p4;obtain ⟨p,ws,rfl,hp,rw1⟩:=rep_lst.mp p1;obtain ⟨p',ws',rfl,hp',rw2⟩:=rep_lst.mp p3;exact ⟨p,p',rfl,⟨ws,SqL.of (x1.s3 _ _ hp)⟩,⟨ws',SqL.of (x1.s3 _ _ hp')⟩,q _ _ _ x1 (Bm hp rw1 hp' rw2)⟩
  ·cases e1
structure RD (S:List Addr)(Hs0 H0 Hs H:Hp)(σ:St)(ε:ME):Prop where
 s1:Same Hs0 Hs
 s2:∀ b o,H0 b=some o->b∉S->H b=some o
 s3:Same Hs H
 s4:∀ b,H0 b≠none->Hs0 b=none->Hs b=none
 sh:∀(i:Nat)(x:PV),ε[i]?=some (.sh x)->∃ v,σ[i]?=some (some v)/\Rep Hs x v
 ow:∀(i:Nat)(x:PV),ε[i]?=some (.ow x)->∃ a,σ[i]?=some (some (.ref a))/\(H0 a=none∨a∈S)/\Hs a=none/\Top Hs H a x
 nd:∀(i j:Nat)(x y:PV)(a:Addr),ε[i]?=some (.ow x)->ε[j]?=some (.ow y)->σ[i]?=some (some (.ref a))->σ[j]?=some (some (.ref a))->i=j
 len:σ.length=ε.length
 pin:∀ a∈S,σ[0]?=some (some (.ref a))
 live:∀ a∈S,H a≠none
 str:∀ a∈S,∃ y,ε[0]?=some (.ow y)
 nb:∀(i:Nat)(x:PV),ε[i]?≠some (.bo x)
section
variable {S:List Addr}{Hs0 H0 Hs H Hs' H':Hp}{σ:St}{ε:ME}
theorem RD.rs (r:RD S Hs0 H0 Hs H σ ε):RS Hs Hs Hs H σ ε where
 ext:=⟨.refl _,r.s3,r.s3,λ_ h z=>absurd z h⟩
 sh:=r.sh
 ow:=λi x h=>by obtain ⟨a,h1,_,h3,h4⟩:=r.ow i x h;exact ⟨a,h1,h3,h3,h4⟩
 nd:=r.nd
 len:=r.len
 bo:=λi x h=>absurd h (r.nb i x)
theorem RD.there (r:RD S Hs0 H0 Hs H σ ε){b:Addr}(h:H0 b≠none):H b≠none:=by
 by_cases hS:b∈S
 ·exact r.live b hS
 ·cases q:H0 b with
  |none=>exact absurd q h
  |some o=>rw [r.s2 b o q hS];exact λz=>nomatch z
theorem RD.go (r:RD S Hs0 H0 Hs H σ ε)(e:Ext Hs H Hs' H'):RD S Hs0 H0 Hs' H' σ ε where
 s1:=r.s1.trans e.s1
 s2:=λb o h n=>e.s2 _ _ (r.s2 b o h n)
 s3:=e.s3
 s4:=λb h z=>e.s4 b (r.there h) (r.s4 b h z)
 sh:=λi x q=>by obtain ⟨v,a,b⟩:=r.sh i x q;exact ⟨v,a,b.mono e.s1⟩
 ow:=λi x q=>by
  obtain ⟨a,b,n0,n,t⟩:=r.ow i x q;exact ⟨a,b,n0,e.s4 a t.there n,t.mono e.s1 λo z=>e.s2 _ _ z⟩
 nd:=r.nd
 len:=r.len
 pin:=r.pin
 live:=λa h=>Ub e.s2 (r.live a h)
 str:=r.str
 nb:=r.nb
theorem RD.change (r:RD S Hs0 H0 Hs H σ ε){i:Nat}{a:Addr}(hi:ε[i]?=some (.ow x))(ha:σ[i]?=some (some (.ref a)))(t:Top Hs (j0 H a o) a y):RD S Hs0 H0 Hs (j0 H a o) σ (ε.set i (.ow y)):=by
 obtain ⟨b,hb,n0,n,tx⟩:=r.ow i x hi;rw [ha] at hb;injection hb with hb;injection hb with hb;injection hb with hb;subst hb;have q:=(r.rs).change hi ha t;refine ⟨r.s1,λb u e hS=>?_,λb u e=>?_,r.s4,q.sh,λj z hz=>?_,q.nd,q.len,r.pin,λb hS=>?_,λb hS=>?_,ve r.nb λ_ z=>nomatch z⟩
 ·have hne:b≠a:=λz=>by
   rcases n0 with n0|n0
   ·rw [z,n0] at e;cases e
   ·exact hS (z▸n0)
  rw [j3 hne];exact r.s2 b u e hS
 ·rw [j3 (u7 e n)];exact r.s3 _ _ e
 ·obtain ⟨c,hc,m1,m2,tc⟩:=q.ow j z hz;refine ⟨c,hc,?_,m2,tc⟩;rw [yI] at hz;split at hz
  ·rename_i hij;rw [<- hij,ha] at hc;injection hc with hc;injection hc with hc;injection hc with hc;rw [<- hc];exact n0
  ·obtain ⟨d,hd,m0,_⟩:=r.ow j z hz;rw [hd] at hc;injection hc with hc;injection hc with hc;injection hc with hc;rw [<- hc];exact m0
 ·by_cases hba:b=a
  ·rw [hba,y0];exact λz=>nomatch z
  ·rw [j3 hba];exact r.live b hS
 ·obtain ⟨y',hy⟩:=r.str b hS;rw [yI];split
  ·rename_i h0;rw [if_pos (by rw [h0];exact (yA.mp hy).1)];exact ⟨y,rfl⟩
  ·exact ⟨y',hy⟩
theorem RD.put (r:RD S Hs0 H0 Hs H σ ε){i:Nat}(h:Rep Hs x v):RD S Hs0 H0 Hs H (σ.set (i+1) (some v)) (ε.set (i+1) (.sh x)):=by
 have q:=(r.rs).put (i:=i+1) h;refine ⟨r.s1,r.s2,r.s3,r.s4,q.sh,λj z hz=>?_,q.nd,q.len,λa hS=>by rw [yv (by omega)];exact r.pin a hS,r.live,λa hS=>by rw [yv (by omega)];exact r.str a hS,ve r.nb λ_ z=>nomatch z⟩;obtain ⟨c,hc,m1,m2,tc⟩:=q.ow j z hz;refine ⟨c,hc,?_,m2,tc⟩;rw [yI] at hz hc;split at hz
 ·split at hz<;>cases hz
 ·rename_i hij;rw [if_neg hij] at hc;obtain ⟨d,hd,m0,_⟩:=r.ow j z hz;rw [hd] at hc;injection hc with hc;injection hc with hc;injection hc with hc;rw [<- hc];exact m0
theorem RD.putO (r:RD S Hs0 H0 Hs H σ ε){i:Nat}{a:Addr}(h0:H0 a=none∨a∈S)(h1:Hs a=none)(h2:Top Hs H a x)(ne:∀(j:Nat)(y:PV),ε[j]?=some (.ow y)->σ[j]?≠some (some (.ref a))):RD S Hs0 H0 Hs H (σ.set (i+1) (some (.ref a))) (ε.set (i+1) (.ow x)):=by
 have q:=(r.rs).putO (i:=i+1) ⟨h1,h1,h2⟩ ne;refine ⟨r.s1,r.s2,r.s3,r.s4,q.sh,λj z hz=>?_,q.nd,q.len,λa hS=>by rw [yv (by omega)];exact r.pin a hS,r.live,λa hS=>by rw [yv (by omega)];exact r.str a hS,ve r.nb λ_ z=>nomatch z⟩;obtain ⟨c,hc,m1,m2,tc⟩:=q.ow j z hz;refine ⟨c,hc,?_,m2,tc⟩;rw [yI] at hz hc;split at hz
 ·rename_i hij;rw [if_pos hij] at hc;split at hc
  ·injection hc with hc;injection hc with hc;injection hc with hc;rw [<- hc];exact h0
  ·cases hc
 ·rename_i hij;rw [if_neg hij] at hc;obtain ⟨d,hd,m0,_⟩:=r.ow j z hz;rw [hd] at hc;injection hc with hc;injection hc with hc;injection hc with hc;rw [<- hc];exact m0
theorem RD.free0 (r:RD S Hs0 H0 Hs H σ ε){a:Addr}(h:H a=none):H0 a=none:=by
 cases q:H0 a with
 |none=>rfl
 |some o=>exact absurd h (r.there (by rw [q];exact λz=>nomatch z))
theorem RD.freeze (r:RD S Hs0 H0 Hs H σ ε)(i:Nat):∃ Hs',Same Hs Hs'/\RD S Hs0 H0 Hs' H σ (fz (i+1) ε):=by
 by_cases h:∃ x,ε[i+1]?=some (.ow x)
 ·obtain ⟨x,hi⟩:=h;obtain ⟨a,ha,n0,n,t⟩:=r.ow (i+1) x hi;have hS:a∉S:=λhS=>by
   obtain ⟨y,hy⟩:=r.str a hS;exact absurd (r.nd 0 (i+1) y x a hy hi (r.pin a hS) ha) (by omega)
  obtain ⟨o,ho,hr⟩:=t.rep n;have g:Same Hs (j0 Hs a o):=λb u e=>by rw [j3 (u7 e n)];exact e
  have ef:fz (i+1) ε=ε.set (i+1) (.sh x):=by unfold fz;rw [hi]
  have n0':H0 a=none:=n0.resolve_right hS;rw [ef];have dn:∀(j:Nat)(y:PV),(ε.set (i+1) (.sh x))[j]?=some (.ow y)->i+1≠j/\ε[j]?=some (.ow y):=λj y q=>by
   rw [yI] at q;split at q
   ·split at q<;>cases q
   ·rename_i hij;exact ⟨hij,q⟩
  refine ⟨j0 Hs a o,g,r.s1.trans g,r.s2,λb u e=>?_,λb h z=>?_,λj y q=>?_,λj y q=>?_,λj k z z' c h1 h2 h3 h4=>r.nd j k z z' c (dn j z h1).2 (dn k z' h2).2 h3 h4,by rw [yo,r.len],r.pin,r.live,(λb hb=>by rw [yv (by omega)];exact r.str b hb),ve r.nb λ_ z=>nomatch z⟩
  ·by_cases hb:b=a
   ·subst hb;rw [y0] at e;cases e;exact ho
   ·rw [j3 hb] at e;exact r.s3 _ _ e
  ·have hb:b≠a:=λe=>h (e▸n0');rw [j3 hb];exact r.s4 b h z
  ·rw [yI] at q;split at q
   ·rename_i hij;split at q
    ·injection q with q;injection q with q;subst q;exact ⟨.ref a,hij▸ha,hr⟩
    ·cases q
   ·obtain ⟨v,e,w⟩:=r.sh j y q;exact ⟨v,e,w.mono g⟩
  ·obtain ⟨hij,hq⟩:=dn j y q;obtain ⟨c,hc,m0,m,tc⟩:=r.ow j y hq;have hne:c≠a:=λe=>hij (r.nd (i+1) j x y a hi hq ha (e▸hc));exact ⟨c,hc,m0,by rw [j3 hne];exact m,tc.mono g λ_ e=>e⟩
 ·refine ⟨Hs,.refl _,?_⟩;unfold fz;split
  ·rename_i x hx;exact absurd ⟨x,hx⟩ h
  ·exact r
end
abbrev W:=ME->(PV->ME->Prop)->Prop
variable{a:W}
abbrev WA:=ME->(List PV->ME->Prop)->Prop
variable{it:WA}
abbrev WT:=ME->(Bool->ME->Prop)->Prop
abbrev WS:=ME->(ME->Prop)->(PV->ME->Prop)->Prop
variable{b:WS}
class SemW (te:TE)(w:W):Prop where
 h:∀{ε Q'},w ε Q'->∀{S Hs0 H0 Hs H σ},RD S Hs0 H0 Hs H σ ε->∀{Q:VK},(∀ y ε' v Hs' H',Q' y ε'->RD S Hs0 H0 Hs' H' σ ε'->Same Hs Hs'->Rep Hs' y v->Q v H')->te σ H Q
class zV (ta:TA)(w:WA):Prop where
 h:∀{ε Q'},w ε Q'->∀{S Hs0 H0 Hs H σ},RD S Hs0 H0 Hs H σ ε->∀{Q:List V->Hp->Prop},(∀ ys ε' vs Hs' H',Q' ys ε'->RD S Hs0 H0 Hs' H' σ ε'->Same Hs Hs'->Reps Hs' ys vs->Q vs H')->ta σ H Q
class zp (tt:TT)(w:WT):Prop where
 h:∀{ε Q'},w ε Q'->∀{S Hs0 H0 Hs H σ},RD S Hs0 H0 Hs H σ ε->∀{Q:Bool->Hp->Prop},(∀ b ε' Hs' H',Q' b ε'->RD S Hs0 H0 Hs' H' σ ε'->Same Hs Hs'->Q b H')->tt σ H Q
class SemWS (ts:TS)(w:WS):Prop where
 h:∀{ε N R},w ε N R->∀{S Hs0 H0 Hs H σ},RD S Hs0 H0 Hs H σ ε->∀{D:xh},(∀ ε' σ' Hs' H',N ε'->RD S Hs0 H0 Hs' H' σ' ε'->Same Hs Hs'->D.nx σ' H') ->
  (∀ y ε' σ' v Hs' H',R y ε'->RD S Hs0 H0 Hs' H' σ' ε'->Same Hs Hs'->Rep Hs' y v->D.rt v H')->ts D σ H
def wP (f:M):W:=λε Q=>∃ y,f ε=some y/\Q y ε
def wPT (f:MB):WT:=λε Q=>∃ y,f ε=some y/\Q y ε
instance (priority:=50){f:M}[s:SemE te f]:SemW te (wP f) where
 h:=λ⟨y,e,q⟩ _ _ _ _ _ _ r _ k=>s.h e r.rs λv Hs' H' x rv=>k y _ v Hs' H' q (r.go x) x.s1 rv
instance (priority:=50){f:MB}[s:qx tt f]:zp tt (wPT f) where
 h:=λ⟨y,e,q⟩ _ _ _ _ _ _ r _ k=>s.h e r.rs λHs' H' x=>k y _ Hs' H' q (r.go x) x.s1
def k6 (g:PV->PV->Option PV)(a b:W):W:=λε Q=>a ε λx ε1=>b ε1 λy ε2=>∃ z,g x y=some z/\Q z ε2
instance {r:R2}{g:PV->PV->Option PV}{ta tb:TE}{b:W}[sr:qM r g][sa:SemW ta a][sb:SemW tb b]:SemW (tOp r ta tb) (k6 g a b) where
 h:=λh _ _ _ _ _ _ rd _ k=>sa.h h rd λx ε1 v Hs1 H1 h1 rd1 g1 r1=>sb.h h1 rd1 λy ε2 w Hs2 H2 h2 rd2 g2 r2=>by
  obtain ⟨z,ez,h2⟩:=h2;exact sr.h ez rd2.s3 (.inl (r1.mono g2)) (.inl r2) λu Hs3 H3 x3 r3=>k z ε2 u Hs3 H3 h2 (rd2.go x3) (g1.trans (g2.trans x3.s1)) r3
def wT (a:W):WT:=λε Q=>a ε λx ε1=>∃ b,pB x=some b/\Q b ε1
instance [sa:SemW te a]:zp (QV te) (wT a) where
 h:=λh _ _ _ _ _ _ rd _ k=>sa.h h rd λx ε1 v Hs1 H1 h1 rd1 g1 r1=>by
  obtain ⟨b,eb,h2⟩:=h1;cases vh eb;exact ⟨b,rep_at.mp r1,k b ε1 Hs1 H1 h2 rd1 g1⟩
def wU (a b:WT):WT:=λε Q=>a ε λc ε1=>if c=true then b ε1 Q else Q false ε1
instance {t u:TT}{a b:WT}[sa:zp t a][sb:zp u b]:zp (tAnd t u) (wU a b) where
 h:=λh _ _ _ _ _ _ rd _ k=>sa.h h rd λc ε1 Hs1 H1 h1 rd1 g1=>by
  cases c with
  |true=>exact xo (sb.h (by simpa using h1) rd1 λc2 ε2 Hs2 H2 h2 rd2 g2=>k c2 ε2 Hs2 H2 h2 rd2 (g1.trans g2))
  |false=>exact xn (k false ε1 Hs1 H1 (by simpa using h1) rd1 g1)
def zR:WA:=λε Q=>Q [] ε
def i7 (a:W)(r:WA):WA:=λε Q=>a ε λx ε1=>r ε1 λxs ε2=>Q (x::xs) ε2
instance:zV p7 zR where
 h:=λh _ _ _ _ _ _ rd _ k=>k [] _ [] _ _ h rd (.refl _) .nil
instance {r:WA}[sa:SemW te a][sr:zV ta r]:zV (k5 te ta) (i7 a r) where
 h:=λh _ _ _ _ _ _ rd _ k=>sa.h h rd λx ε1 v Hs1 H1 h1 rd1 g1 r1=>sr.h h1 rd1 λxs ε2 vs Hs2 H2 h2 rd2 g2 r2=>k _ ε2 _ Hs2 H2 h2 rd2 (g1.trans g2) (.cons (r1.mono g2) r2)
def wTup (a:WA):W:=λε Q=>a ε λxs ε1=>xs.length<=lim/\Q (.tup xs) ε1
instance {a:WA}[sa:zV ta a]:SemW (tTup ta) (wTup a) where
 h:=λh _ _ _ _ _ _ rd _ k=>sa.h h rd λxs ε1 vs Hs1 H1 h1 rd1 g1 r1=>⟨qr (r1.length▸h1.1),λp hp=>k _ ε1 _ _ _ h1.2 (rd1.go (.new rd1.s3 hp)) (g1.trans (Ext.new rd1.s3 hp).s1) (rep_tup.mpr ⟨p,vs,rfl,y0,r1.mono (Ext.new rd1.s3 hp).s1⟩)⟩
def zl:Sp:=λvs H Q _=>∃(a:Addr)(n m:Int),vs=[.ref a,.int m]/\H a=some (.lst [.int n])/\vy n m/\Q (.int (n % m)) (j0 H a (.lst [.int (n / m)]))
def g7 (n:Int):MSlot:= .ow (.lst [.at (.int n)])
def wTake (i:Nat)(a:W):W:=λε Q=>a ε λx ε1=>∃ n k,x = .at (.int k)/\ε1[i]?=some (g7 n)/\vy n k/\Q (.at (.int (n % k))) (ε1.set i (g7 (n / k)))
theorem RD.strm_at {i:Nat}(r:RD S Hs0 H0 Hs H σ ε)(h:ε[i]?=some (g7 n)):∃ a,σ[i]?=some (some (.ref a))/\H a=some (.lst [.int n])/\Hs a=none/\(H0 a=none∨a∈S):=by obtain ⟨a,ha,n0,n1,vs,hv,rv⟩:=r.ow i _ h;obtain ⟨v,w,rfl,p1,p2⟩:=reps_cons.mp rv;cases reps_nil.mp p2;cases rep_at.mp p1;exact ⟨a,ha,hv,n1,n0⟩
def xH (i:Nat):ME->Prop:=λε=>∃ n,ε[i]?=some (g7 n)
def g8 (i:Nat)(a:W):W:=λε Q=>xH i ε/\wTake i a ε Q
instance {i:Nat}[sa:SemW te a]:SemW (xb zl [] E (k5 (c6 i) (k5 te p7))) (g8 i a) where
 h:=λh _ _ _ _ _ _ rd _ k=>by
  obtain ⟨⟨n0,hn0⟩,h⟩:=h;obtain ⟨p,hp,_⟩:=rd.strm_at hn0;refine ⟨_,hp,sa.h h rd λx ε1 v Hs1 H1 h1 rd1 g1 r1=>?_⟩;obtain ⟨n,m,rfl,hn,hc,h2⟩:=h1;obtain ⟨p',hp',hH,hs,_⟩:=rd1.strm_at hn;rw [hp] at hp';injection hp' with hp';injection hp' with hp';injection hp' with hp';subst hp';cases rep_at.mp r1;exact ⟨p,n,m,rfl,hH,hc,k _ _ _ _ _ h2 (rd1.change hn hp ⟨_,y0,.one (rep_at.mpr rfl)⟩) g1 (rep_at.mpr rfl)⟩
structure ExtD (p:Addr)(Hs H Hs' H':Hp):Prop where
 s1:Same Hs Hs'
 s2:∀ b o,H b=some o->b≠p->H' b=some o
 s3:Same Hs' H'
 s4:∀ b,H b≠none->Hs b=none->Hs' b=none
def spD (pre:List PV->Prop)(R:List PV->PV->Prop):Sp:=λvs H Q _=>∃ Hs a n xs ws,vs = .ref a::ws/\Same Hs H/\Hs a=none/\H a=some (.lst [.int n])/\Reps Hs xs ws/\pre xs /\
 ∀ y v n' Hs' H',R xs y->ExtD a Hs H Hs' H'->Hs' a=none->H' a=some (.lst [.int n'])->Rep Hs' y v->Q v H'
section
variable {S:List Addr}{Hs0 H0 Hs H Hs' H':Hp}{σ:St}{ε:ME}
theorem RD.drawn (r:RD S Hs0 H0 Hs H σ ε){i:Nat}{n':Int}{p:Addr}(hi:ε[i]?=some (g7 n))(hp:σ[i]?=some (some (.ref p)))(x:ExtD p Hs H Hs' H')(np:Hs' p=none)(ep:H' p=some (.lst [.int n'])):RD S Hs0 H0 Hs' H' σ (ε.set i (g7 n')):=by
 obtain ⟨p',hp',hH,hs,h0⟩:=r.strm_at hi;rw [hp] at hp';injection hp' with hp';injection hp' with hp';injection hp' with hp';subst hp';have up:∀(j:Nat)(z:PV),(ε.set i (g7 n'))[j]?=some (.ow z)->(j=i/\z = .lst [.at (.int n')])∨(j≠i/\ε[j]?=some (.ow z)):=λj z q=>by
  rw [yI] at q;split at q
  ·rename_i hij;split at q
   ·injection q with q;unfold g7 at q;injection q with q;exact .inl ⟨hij.symm,q.symm⟩
   ·cases q
  ·rename_i hij;exact .inr ⟨Ne.symm hij,q⟩
 have wasOw:∀(j:Nat)(z:PV),(ε.set i (g7 n'))[j]?=some (.ow z)->∃ z',ε[j]?=some (.ow z'):=λj z q=>by
  rcases up j z q with ⟨rfl,_⟩|⟨_,q⟩
  ·exact ⟨_,hi⟩
  ·exact ⟨z,q⟩
 refine ⟨r.s1.trans x.s1,λb o e hS=>x.s2 b o (r.s2 b o e hS) λz=>?_,x.s3,λb h z=>x.s4 b (r.there h) (r.s4 b h z),λj z q=>?_,λj z q=>?_,λj k z z' c h1 h2 h3 h4=>?_,by rw [yo,r.len],r.pin,λb hS=>?_,λb hS=>?_,ve r.nb λ_ z=>by unfold g7 at z;cases z⟩
 ·rcases h0 with h0|h0
  ·rw [z,h0] at e;cases e
  ·exact hS (z▸h0)
 ·rw [yI] at q;split at q
  ·split at q
   ·unfold g7 at q;cases q
   ·cases q
  ·obtain ⟨v,h1,h2⟩:=r.sh j z q;exact ⟨v,h1,h2.mono x.s1⟩
 ·rcases up j z q with ⟨rfl,rfl⟩|⟨hij,q⟩
  ·exact ⟨p,hp,h0,np,_,ep,.one (rep_at.mpr rfl)⟩
  ·obtain ⟨c,hc,m0,m1,tc⟩:=r.ow j z q;have hne:c≠p:=λe=>hij (r.nd j i z _ p q hi (e▸hc) hp);exact ⟨c,hc,m0,x.s4 c tc.there m1,tc.mono x.s1 λo e=>x.s2 c o e hne⟩
 ·obtain ⟨w1,q1⟩:=wasOw j z h1;obtain ⟨w2,q2⟩:=wasOw k z' h2;exact r.nd j k w1 w2 c q1 q2 h3 h4
 ·by_cases hb:b=p
  ·rw [hb,ep];exact λz=>nomatch z
  ·have:=r.live b hS;cases q:H b with
   |none=>exact absurd q this
   |some o=>rw [x.s2 b o q hb];exact λz=>nomatch z
 ·obtain ⟨y',hy⟩:=r.str b hS;rw [yI];split
  ·rename_i h0;rw [if_pos (by rw [h0];exact (yA.mp hy).1)];exact ⟨_,rfl⟩
  ·exact ⟨y',hy⟩
end
def UI (i:Nat)(pre:List PV->Prop)(R:List PV->PV->Prop)(as:WA):W:=λε Q=>xH i ε/\as ε λxs ε1=>xH i ε1/\pre xs/\∀ y n',R xs y->Q y (ε1.set i (g7 n'))
instance {i:Nat}{as:WA}[sa:zV ta as]:SemW (xb (spD pre R) [] E (k5 (c6 i) ta)) (UI i pre R as) where
 h:=λh _ _ _ _ _ _ rd _ k=>by
  obtain ⟨⟨n0,hn0⟩,h⟩:=h;obtain ⟨p,hp,_⟩:=rd.strm_at hn0;refine ⟨_,hp,sa.h h rd λxs ε1 vs Hs1 H1 h1 rd1 g1 r1=>?_⟩;obtain ⟨⟨n,hn⟩,hpre,h2⟩:=h1;obtain ⟨p',hp',hH,hs,_⟩:=rd1.strm_at hn;rw [hp] at hp';injection hp' with hp';injection hp' with hp';injection hp' with hp';subst hp';refine ⟨Hs1,p,n,xs,vs,by rw [yr],rd1.s3,hs,hH,r1,hpre,λy v n' Hs' H' hR x np ep rv=>?_⟩;exact k y _ v Hs' H' (h2 y n' hR) (rd1.drawn hn hp x np ep) (g1.trans x.s1) rv
def xI:WS:=λε N _=>N ε
def wSeq (a b:WS):WS:=λε N R=>a ε (λε1=>b ε1 N R) R
def k4 (i:Nat)(a:W):WS:=λε N _=>a ε λx ε1=>N (ε1.set i (.sh x))
def QZ (i:Nat)(f:M):WS:=λε N _=>∃ x,f ε=some x/\N (ε.set i (.ow x))
def xg (a:W):WS:=λε _ R=>a ε R
def UJ (a:W):WS:=λε N _=>a ε λ_ ε1=>N ε1
def xf (c:WT)(a b:WS):WS:=λε N R=>c ε λk ε1=>if k=true then a ε1 N R else b ε1 N R
def wFz (i:Nat)(a:WS):WS:=λε N R=>a (fz i ε) N R
def wV (i:Nat)(a:W):WS:=λε N _=>(∃ xs,ε[i]?=some (.ow (.lst xs)))/\a ε λx ε1=>∃ xs,ε1[i]?=some (.ow (.lst xs))/\xs.length<=lim/\N (ε1.set i (.ow (.lst (xs++[x]))))
instance:SemWS Jo xI where
 h:=λh _ _ _ _ _ _ rd _ k _=>k _ _ _ _ h rd (.refl _)
instance {a:WS}[sa:SemWS t a][sb:SemWS u b]:SemWS (tSeq t u) (wSeq a b) where
 h:=λh _ _ _ _ _ _ rd _ k r=>sa.h h rd (λε1 σ1 Hs1 H1 h1 rd1 g1=>sb.h h1 rd1 (λε2 σ2 Hs2 H2 h2 rd2 g2=>k ε2 σ2 Hs2 H2 h2 rd2 (g1.trans g2)) λy ε2 σ2 v Hs2 H2 h2 rd2 g2 rv=>r y ε2 σ2 v Hs2 H2 h2 rd2 (g1.trans g2) rv) r
instance {i:Nat}[sa:SemW te a]:SemWS (xV te (qh (i+1))) (k4 (i+1) a) where
 h:=λh _ _ _ _ _ _ rd _ k _=>sa.h h rd λx ε1 v Hs1 H1 h1 rd1 g1 r1=>k _ _ _ _ h1 (rd1.put r1) g1
instance {i:Nat}{f:M}[sa:qL te f]:SemWS (xV te (qh (i+1))) (QZ (i+1) f) where
 h:=λ⟨x,e,h⟩ _ _ _ _ _ _ rd _ k _=>sa.h e rd.rs λa Hs1 H1 x1 n n' t=>k _ _ _ _ h ((rd.go x1).putO (.inl (rd.free0 n)) n' t λj y hj z=>by
  obtain ⟨b,hb,_,_,tb⟩:=rd.ow j y hj;rw [z] at hb;injection hb with hb;injection hb with hb;injection hb with hb;subst hb;exact tb.there n) x1.s1
instance [sa:SemW te a]:SemWS (wO te) (xg a) where
 h:=λh _ _ _ _ _ _ rd _ _ r=>sa.h h rd λx ε1 v Hs1 H1 h1 rd1 g1 r1=>r x ε1 _ v Hs1 H1 h1 rd1 g1 r1
instance [sa:SemW te a]:SemWS (zP te) (UJ a) where
 h:=λh _ _ _ _ _ _ rd _ k _=>sa.h h rd λx ε1 v Hs1 H1 h1 rd1 g1 r1=>k ε1 _ Hs1 H1 h1 rd1 g1
instance {t:TT}{ta:TS}{c:WT}{a:WS}[sc:zp t c][sa:SemWS ta a][sb:SemWS tb b]:SemWS (tIfS t ta tb) (xf c a b) where
 h:=λh _ _ _ _ _ _ rd _ k r=>sc.h h rd λc ε1 Hs1 H1 h1 rd1 g1=>by
  cases c with
  |true=>exact xo (sa.h (by simpa using h1) rd1 (λε2 σ2 Hs2 H2 h2 rd2 g2=>k ε2 σ2 Hs2 H2 h2 rd2 (g1.trans g2)) λy ε2 σ2 v Hs2 H2 h2 rd2 g2 rv=>r y ε2 σ2 v Hs2 H2 h2 rd2 (g1.trans g2) rv)
  |false=>exact xn (sb.h (by simpa using h1) rd1 (λε2 σ2 Hs2 H2 h2 rd2 g2=>k ε2 σ2 Hs2 H2 h2 rd2 (g1.trans g2)) λy ε2 σ2 v Hs2 H2 h2 rd2 g2 rv=>r y ε2 σ2 v Hs2 H2 h2 rd2 (g1.trans g2) rv)
instance {i:Nat}{a:WS}[sa:SemWS t a]:SemWS t (wFz (i+1) a) where
 h:=λh _ _ _ _ _ _ rd _ k r=>by
  obtain ⟨Hs',g,rd'⟩:=rd.freeze i;exact sa.h h rd' (λε2 σ2 Hs2 H2 h2 rd2 g2=>k ε2 σ2 Hs2 H2 h2 rd2 (g.trans g2)) λy ε2 σ2 v Hs2 H2 h2 rd2 g2 rv=>r y ε2 σ2 v Hs2 H2 h2 rd2 (g.trans g2) rv
instance {i:Nat}[sa:SemW te a]:SemWS (zP (tBM K "list" Zi (c6 i) (k5 te p7))) (wV i a) where
 h:=λh _ _ _ _ _ _ rd _ k _=>by
  obtain ⟨⟨xs0,hx0⟩,h⟩:=h;obtain ⟨p,hp,n0,n,vs,hv,rv⟩:=rd.ow i _ hx0;refine ⟨_,hp,.inl ⟨rfl,vs,SqL.of hv⟩,sa.h h rd λx ε1 v Hs1 H1 h1 rd1 g1 r1=>?_⟩;obtain ⟨xs,hx,hl,h2⟩:=h1;obtain ⟨p',hp',_,n1,ws,hw,rw⟩:=rd1.ow i _ hx;rw [hp] at hp';injection hp' with hp';injection hp' with hp';injection hp' with hp';subst hp';exact ⟨p,ws,v,rfl,rfl,hw,XJ (by rw [rw.length];exact hl),k _ _ _ _ h2 (rd1.change hx hp ⟨_,y0,rw.append (.one r1)⟩) g1⟩
class SemWI (ti:TI)(w:WA):Prop where
 h:∀{ε Q'},w ε Q'->∀{S Hs0 H0 Hs H σ},RD S Hs0 H0 Hs H σ ε->∀{R:It->Hp->Prop},(∀ xs ε' J Hs' H',Q' xs ε'->RD S Hs0 H0 Hs' H' σ ε'->Same Hs Hs'->zS J xs Hs'->R J H')->ti σ H R
def wIp (f:MA):WA:=λε Q=>∃ xs,f ε=some xs/\Q xs ε
instance (priority:=50){ti:TI}{f:MA}[s:zo ti f]:SemWI ti (wIp f) where
 h:=λ⟨xs,e,q⟩ _ _ _ _ _ _ r _ k=>s.h e r.rs λJ Hs' H' x ok=>k xs _ J Hs' H' q (r.go x) x.s1 ok
def JB (a:W):WA:=λε Q=>a ε λx ε1=>∃ j:Int,x = .at (.int j)/\-(lim:Int)<=j/\j<=lim/\Q (qv 0 j.toNat) ε1
instance [sa:SemW te a]:SemWI (zA (k5 te p7)) (JB a) where
 h:=λh _ _ _ _ _ _ rd _ k=>sa.h h rd λx ε1 v Hs1 H1 h1 rd1 g1 r1=>by
  obtain ⟨j,rfl,h2,h3,h4⟩:=h1;cases rep_at.mp r1;have hlim:(lim:Int)=1000000:=rfl;exact ⟨j,rfl,by omega,by omega,k _ ε1 _ Hs1 H1 h4 rd1 g1 WB⟩
class SemWG (tg:TG)(g:MG):Prop where
 h:∀{x ε ε'},g x ε=some ε'->∀{S Hs0 H0 Hs H σ v},RD S Hs0 H0 Hs H σ ε->Rep Hs x v->∀{Q:St->Hp->Prop},(∀ σ',RD S Hs0 H0 Hs H σ' ε'->Q σ' H)->tg v σ H Q
instance {i:Nat}:SemWG (qh (i+1)) (j9 (i+1)) where
 h:=λe _ _ _ _ _ _ _ rd r _ q=>by cases e;exact q _ (rd.put r)
def jz (g:MG)(f:WS):List PV->WS
 |[]=>λε N _=>N ε
 |x::xs=>λε N R=>∃ ε1,g x ε=some ε1/\f ε1 (λε2=>jz g f xs ε2 N R) R
def wFor (it:WA)(g:MG)(f:WS):WS:=λε N R=>it ε λxs ε1=>jz g f xs ε1 N R
theorem RD.rebase (r:RD S Hs0 H0 Hs H σ ε):RD S Hs H0 Hs H σ ε :=
 ⟨.refl _,r.s2,r.s3,λ_ _ z=>z,r.sh,r.ow,r.nd,r.len,r.pin,r.live,r.str,r.nb⟩
theorem RD.unbase {Hb Hx:Hp}(b:RD S Hs0 H0 Hb Hx σ ε)(r:RD S Hb H0 Hs H σ' ε'):RD S Hs0 H0 Hs H σ' ε' :=
 ⟨b.s1.trans r.s1,r.s2,r.s3,λc h z=>r.s4 c h (b.s4 c h z),r.sh,r.ow,r.nd,r.len,r.pin,r.live,r.str,r.nb⟩
instance {f:WS}[si:SemWI wi it][sg:SemWG tg g][sf:SemWS tb f]:SemWS (tFor wi tg tb) (wFor it g f) where
 h:=λ{ε N R} h S Hs0 H0 _ _ _ rd D k rt=>si.h h rd λxs ε1 J Hs1 H1 h1 rd1 g1 ok=>by
  refine ⟨λn m σ H=>m=xs.length-n/\n<=xs.length/\∃ Hs ε,RD S Hs1 H0 Hs H σ ε/\jz g f (xs.drop n) ε N R,⟨xs.length,by simp,yk _,Hs1,ε1,rd1.rebase,h1⟩,?_⟩;rintro n m σ H ⟨rfl,hn,Hs,ε2,r2,h2⟩;by_cases hlt:n<xs.length
  ·have hd:xs.drop n=xs[n]::xs.drop (n+1):=ya hlt;rw [hd] at h2;obtain ⟨ε3,e3,h3⟩:=h2;obtain ⟨go,yl⟩:=ok.go n xs[n] Hs H (by simp [hlt]) r2.s1 r2.s3;refine .inr ⟨go,λσ' H'=>n+1<=xs.length/\∃ Hs ε,RD S Hs1 H0 Hs H' σ' ε/\jz g f (xs.drop (n+1)) ε N R,λσ' H' p=>⟨xs.length-(n+1),by omega,rfl,p.1,p.2⟩,λv H3 y=>?_⟩;obtain ⟨Hs3,x3,r3⟩:=yl v H3 y;refine sg.h e3 (r2.go x3) r3 λσ4 rd4=>sf.h h3 rd4 (λε5 σ5 Hs5 H5 h5 rd5 g5=>⟨hlt,Hs5,ε5,rd5,h5⟩) λy ε5 σ5 v Hs5 H5 h5 rd5 g5 rv=>rt y ε5 σ5 v Hs5 H5 h5 (rd1.unbase rd5) (g1.trans rd5.s1) rv
  ·have en:n=xs.length:=by omega
   subst en;rw [uq] at h2;exact .inl ⟨ok.stop Hs H r2.s1 r2.s3,k _ _ _ _ h2 (rd1.unbase r2) (g1.trans r2.s1)⟩
def qd:List (Option Nat)->ME->ME->ME
 |some i::cap,s::ε2,ε1=>(qd cap ε2 ε1).set i s
 |none::cap,_::ε2,ε1=>qd cap ε2 ε1
 |_,_,ε1=>ε1
theorem wR:∀(cap:List (Option Nat))(ε2 ε1:ME),(qd cap ε2 ε1).length=ε1.length
 |some i::cap,s::ε2,ε1=>by unfold qd;rw [yo,wR]
 |none::cap,_::ε2,ε1=>by unfold qd;exact wR cap ε2 ε1
 |[],_,_=>rfl
 |some _::_,[],_=>rfl
 |none::_,[],_=>rfl
theorem Js:∀(cap:List (Option Nat))(ε2 ε1:ME)(i:Nat),some i∉cap->(qd cap ε2 ε1)[i]?=ε1[i]?
 |some k::cap,s::ε2,ε1,i,h=>by
  unfold qd;rw [yv (λz=>h (by rw [z];exact yH))];exact Js cap ε2 ε1 i λz=>h (yK _ z)
 |none::cap,_::ε2,ε1,i,h=>by unfold qd;exact Js cap ε2 ε1 i λz=>h (yK _ z)
 |[],_,_,_,_=>rfl
 |some _::_,[],_,_,_=>rfl
 |none::_,[],_,_,_=>rfl
theorem Jr:∀(cap:List (Option Nat))(ε2 ε1:ME)(i:Nat),cap.length=ε2.length->some i∈cap->i<ε1.length->(cap.filterMap id).Nodup->∃ j:Nat,cap[j]?=some (some i)/\(qd cap ε2 ε1)[i]?=ε2[j]?
 |some k::cap,s::ε2,ε1,i,hl,h,hi,nd=>by
  rw [List.filterMap_cons_some (by rfl)] at nd;by_cases e:k=i
  ·subst e;refine ⟨0,rfl,?_⟩;unfold qd;rw [yb (by rw [wR];exact hi)];rfl
  ·obtain ⟨j,h1,h2⟩:=Jr cap ε2 ε1 i (by simpa using hl) (by rcases yL.mp h with z|z;exact absurd (Option.some.inj z).symm e;exact z) hi (yx.mp nd).2;refine ⟨j+1,by simpa using h1,?_⟩;unfold qd;rw [yv e];simpa using h2
 |none::cap,s::ε2,ε1,i,hl,h,hi,nd=>by
  rw [List.filterMap_cons_none (by rfl)] at nd;obtain ⟨j,h1,h2⟩:=Jr cap ε2 ε1 i (by simpa using hl) (by rcases yL.mp h with z|z;exact nomatch z;exact z) hi nd;exact ⟨j+1,by simpa using h1,by unfold qd;simpa using h2⟩
 |[],_,_,_,_,h,_,_=>nomatch h
 |some _::_,[],_,_,hl,_,_,_=>by simp at hl
 |none::_,[],_,_,hl,_,_,_=>by simp at hl
def rst:List Nat->ME->ME
 |[],ε=>ε
 |t::ts,ε=>(rst ts ε).set t .no
theorem YV:∀(ts:List Nat)(ε:ME),(rst ts ε).length=ε.length
 |[],_=>rfl
 |t::ts,ε=>by unfold rst;rw [yo,YV]
theorem YU:∀(ts:List Nat)(ε:ME)(i:Nat)(s:MSlot),(rst ts ε)[i]?=some s->s = .no∨(i∉ts/\ε[i]?=some s)
 |[],_,_,_,h=> .inr ⟨yi,h⟩
 |t::ts,ε,i,s,h=>by
  unfold rst at h;rw [yI] at h;split at h
  ·split at h
   ·cases h;exact .inl rfl
   ·cases h
  ·rename_i hne;rcases YU ts ε i s h with z|⟨z1,z2⟩
   ·exact .inl z
   ·exact .inr ⟨λm=>by rcases yL.mp m with m|m;exact hne m.symm;exact z1 m,z2⟩
theorem RD.reset (r:RD [] Hs0 H0 Hs H σ' ε)(b:But ts σ σ'):RD [] Hs0 H0 Hs H σ (rst ts ε):=by
 have at1:∀(i:Nat)(s:MSlot),(rst ts ε)[i]?=some s->s = .no∨(σ'[i]?=σ[i]?/\ε[i]?=some s):=λi s h=>by
  rcases YU ts ε i s h with z|⟨z1,z2⟩
  ·exact .inl z
  ·exact .inr ⟨b.2 i z1,z2⟩
 refine ⟨r.s1,r.s2,r.s3,r.s4,λi x h=>?_,λi x h=>?_,λi j x y a h1 h2 h3 h4=>?_,by rw [YV,<- r.len,b.1],(λ_ z=>nomatch z),(λ_ z=>nomatch z),(λ_ z=>nomatch z),λi x h=>by
  rcases at1 i _ h with z|⟨_,z2⟩
  ·cases z
  ·exact r.nb i x z2⟩
 ·rcases at1 i _ h with z|⟨z1,z2⟩
  ·cases z
  ·rw [<- z1];exact r.sh i x z2
 ·rcases at1 i _ h with z|⟨z1,z2⟩
  ·cases z
  ·rw [<- z1];exact r.ow i x z2
 ·rcases at1 i _ h1 with z|⟨z1,z2⟩
  ·cases z
  ·rcases at1 j _ h2 with w|⟨w1,w2⟩
   ·cases w
   ·exact r.nd i j x y a z2 w2 (z1.trans h3) (w1.trans h4)
class JH (tg:TG)(ts:outParam (List Nat))(g:MG):Prop where
 h:∀{x ε ε'},g x ε=some ε'->∀{Hs0 H0 Hs H σ v},RD [] Hs0 H0 Hs H σ ε->Rep Hs x v->∀{Q:St->Hp->Prop},(∀ σ',RD [] Hs0 H0 Hs H σ' ε'->But ts σ σ'->Q σ' H)->tg v σ H Q
theorem RD.put0 (r:RD [] Hs0 H0 Hs H σ ε){i:Nat}(h:Rep Hs x v):RD [] Hs0 H0 Hs H (σ.set i (some v)) (ε.set i (.sh x)):=by
 have q:=(r.rs).put (i:=i) h;refine ⟨r.s1,r.s2,r.s3,r.s4,q.sh,λj z hz=>?_,q.nd,q.len,(λ_ z=>nomatch z),(λ_ z=>nomatch z),(λ_ z=>nomatch z),ve r.nb λ_ z=>nomatch z⟩;obtain ⟨c,hc,m1,m2,tc⟩:=q.ow j z hz;refine ⟨c,hc,?_,m2,tc⟩;rw [yI] at hz hc;split at hz
 ·split at hz<;>cases hz
 ·rename_i hij;rw [if_neg hij] at hc;obtain ⟨d,hd,m0,_⟩:=r.ow j z hz;rw [hd] at hc;injection hc with hc;injection hc with hc;injection hc with hc;rw [<- hc];exact m0
instance {i:Nat}:JH (qh i) [i] (j9 i) where
 h:=λe _ _ _ _ _ _ rd r _ q=>by
  cases e;exact q _ (rd.put0 r) ⟨yo,λj hj=>yv λz=>hj (by rw [<- z];exact yO.mpr rfl)⟩
def zQ (g:MG)(c:WT)(f:W)(ts:List Nat):List PV->List PV->ME->(List PV->ME->Prop)->Prop
 |[],ys,ε,Q=>Q ys ε
 |x::xs,ys,ε,Q=>∃ ε1,g x ε=some ε1/\c ε1 λb ε2=>if b=true then f ε2 λy ε3=>zQ g c f ts xs (ys++[y]) (rst ts ε3) Q else zQ g c f ts xs ys (rst ts ε2) Q
def wYes:WT:=λε Q=>Q true ε
instance:zp tYes wYes where
 h:=λh _ _ _ _ _ _ rd _ k=>k true _ _ _ h rd (.refl _)
def Jy (cap:List (Option Nat))(ts:List Nat)(it:WA)(g:MG)(c:WT)(f:W):W:=λε Q=>it ε λxs ε1=>xM cap ts=true/\xs.length<=lim /\
 zQ g c f ts xs [] (m3 cap ε1) λys ε2=>((∃ y:PV,ε1[0]?=some (MSlot.ow y))->∃ y:PV,(qd cap ε2 ε1)[0]?=some (MSlot.ow y))/\Q (.lst ys) (qd cap ε2 ε1)
noncomputable def qU (σ:St)(ε:ME)(H:Hp):Hp:=λb=>open Classical in if ∃(i:Nat)(x:PV),ε[i]?=some (MSlot.ow x)/\σ[i]?=some (some (V.ref b)) then none else H b
theorem XI {b:Addr}(h:qU σ ε H b=some o):H b=some o/\∀(i:Nat)(x:PV),ε[i]?=some (MSlot.ow x)->σ[i]?≠some (some (V.ref b)):=by
 unfold qU at h;split at h
 ·cases h
 ·rename_i hn;exact ⟨h,λi x h1 h2=>hn ⟨i,x,h1,h2⟩⟩
theorem WM {b:Addr}(h:qU σ ε H b=none):H b=none∨∃(i:Nat)(x:PV),ε[i]?=some (MSlot.ow x)/\σ[i]?=some (some (V.ref b)):=by
 unfold qU at h;split at h
 ·rename_i hn;exact .inr hn
 ·exact .inl h
theorem GO {cap:List (Option Nat)}(nb:∀(i:Nat)(x:PV),ε[i]?≠some (.bo x)):∀(i:Nat)(x:PV),(m3 cap ε)[i]?≠some (.bo x):=λi x h=>by
 unfold m3 at h;rw [yR] at h;cases ho:cap[i]? with
 |none=>rw [ho] at h;cases h
 |some o =>
  rw [ho] at h;cases o with
  |none=>cases h
  |some k =>
   cases hk:ε[k]? with
   |none=>simp only [uL,hk,Option.getD_none] at h;cases h
   |some s=>simp only [uL,hk,Option.getD_some] at h;cases h;exact nb k x hk
theorem RD.block {cap:List (Option Nat)}(hc:(cap.filterMap id).Nodup)(r:RD S Hs0 H0 Hs H σ ε):RD [] Hs (qU (g9 cap σ) (m3 cap ε) H) Hs H (g9 cap σ) (m3 cap ε):=by have q:=(r.rs).cap hc;refine ⟨.refl _,λb o e _=>(XI e).1,r.s3,λ_ _ z=>z,q.sh,λi x h=>?_,q.nd,q.len,(λ_ z=>nomatch z),(λ_ z=>nomatch z),(λ_ z=>nomatch z),GO r.nb⟩;obtain ⟨a,h1,h2,h3,h4⟩:=q.ow i x h;refine ⟨a,h1,.inl ?_,h3,h4⟩;unfold qU;rw [if_pos ⟨i,x,h,h1⟩]
theorem zr {cap:List (Option Nat)}{i k:Nat}(h:cap[i]?=some (some k))(e:(g9 cap σ)[i]?=some (some v)):σ[k]?=some (some v):=by
 unfold g9 at e;rw [yR,h] at e;simp only [uL,yE,Option.some.injEq] at e;cases hs:σ[k]? with
 |none=>rw [hs] at e;cases e
 |some o=>rw [hs] at e;simp at e;rw [e]
theorem VP {cap:List (Option Nat)}{i:Nat}(h:(m3 cap ε)[i]?=some (.ow x)):∃ k:Nat,cap[i]?=some (some k)/\ε[k]?=some (.ow x):=by
 unfold m3 at h;rw [yR] at h;cases ho:cap[i]? with
 |none=>rw [ho] at h;cases h
 |some o =>
  rw [ho] at h;cases o with
  |none=>cases h
  |some k =>
   cases hk:ε[k]? with
   |none=>simp only [uL,hk,Option.getD_none] at h;cases h
   |some s=>simp only [uL,hk,Option.getD_some] at h;cases h;exact ⟨k,rfl,hk⟩
theorem RD.unblock {Hs1 H1 Hs2 H2:Hp}{ε1 ε2:ME}{cap:List (Option Nat)}(hc:(cap.filterMap id).Nodup)(r:RD S Hs0 H0 Hs1 H1 σ ε1)(q:RD [] Hs1 (qU (g9 cap σ) (m3 cap ε1) H1) Hs2 H2 (g9 cap σ) ε2)(st:(∃ y,ε1[0]?=some (.ow y))->∃ y,(qd cap ε2 ε1)[0]?=some (.ow y)):RD S Hs0 H0 Hs2 H2 σ (qd cap ε2 ε1):=by
 have hl:cap.length=ε2.length:=by rw [<- q.len];unfold g9;rw [yZ]
 have at1:∀(i:Nat)(s:MSlot),(qd cap ε2 ε1)[i]?=some s->(some i∉cap/\ε1[i]?=some s)∨∃ j:Nat,cap[j]?=some (some i)/\ε2[j]?=some s:=λi s h=>by
  by_cases hi:some i∈cap
  ·have hlt:i<ε1.length:=by have:=(yA.mp h).1;rwa [wR] at this
   obtain ⟨j,h1,h2⟩:=Jr cap ε2 ε1 i hl hi hlt hc;exact .inr ⟨j,h1,h2▸h⟩
  ·exact .inl ⟨hi,Js cap ε2 ε1 i hi▸h⟩
 have own0:∀ a,qU (g9 cap σ) (m3 cap ε1) H1 a=none->H0 a=none∨a∈S:=λa h=>by
  rcases WM h with h|⟨i,x,h1,h2⟩
  ·exact .inl (r.free0 h)
  ·obtain ⟨k,hk,hx⟩:=VP h1;obtain ⟨c,hc',m0,_⟩:=r.ow k x hx;rw [zr hk h2] at hc';injection hc' with hc';injection hc' with hc';injection hc' with hc';rw [hc'];exact m0
 have keep:∀(k:Nat)(x:PV)(a:Addr),some k∉cap->ε1[k]?=some (.ow x)->σ[k]?=some (some (.ref a))->∀ o,H1 a=some o->qU (g9 cap σ) (m3 cap ε1) H1 a=some o:=λk x a hk hx ha o ho=>by
  cases z:qU (g9 cap σ) (m3 cap ε1) H1 a with
  |some u=>rw [<- ho,(XI z).1]
  |none =>
   rcases WM z with z|⟨i,y,h1,h2⟩
   ·rw [z] at ho;cases ho
   ·obtain ⟨m,hm,hy⟩:=VP h1;have:=r.nd k m x y a hx hy ha (zr hm h2);subst this;exact absurd (ym hm) hk
 have ow':∀(i:Nat)(x:PV),(qd cap ε2 ε1)[i]?=some (.ow x)->∃ a,σ[i]?=some (some (.ref a))/\(H0 a=none∨a∈S)/\Hs2 a=none/\Top Hs2 H2 a x:=λi x h=>by
  rcases at1 i _ h with ⟨hi,e⟩|⟨j,hj,e⟩
  ·obtain ⟨a,ha,m0,m1,t⟩:=r.ow i x e;refine ⟨a,ha,m0,?_,t.mono q.s1 λo ho=>q.s2 a o (keep i x a hi e ha o ho) yi⟩;cases z:H1 a with
   |none=>exact absurd z t.there
   |some o=>exact q.s4 a (by rw [keep i x a hi e ha o z];exact λw=>nomatch w) m1
  ·obtain ⟨a,ha,m0,m1,t⟩:=q.ow j x e;exact ⟨a,zr hj ha,own0 a (m0.resolve_right yi),m1,t⟩
 have str':∀ a∈S,∃ y,(qd cap ε2 ε1)[0]?=some (.ow y):=λa hS=>st (r.str a hS);refine ⟨r.s1.trans q.s1,λb o e hS=>?_,q.s3,λb h z=>?_,λi x h=>?_,ow',λi j x y a h1 h2 h3 h4=>?_,by rw [wR];exact r.len,r.pin,λb hS=>?_,str',λi x h=>by
  rcases at1 i _ h with ⟨_,e⟩|⟨j,_,e⟩
  ·exact r.nb i x e
  ·exact q.nb j x e⟩
 ·have e1:=r.s2 b o e hS;refine q.s2 b o ?_ yi;cases z:qU (g9 cap σ) (m3 cap ε1) H1 b with
  |some u=>rw [<- e1,(XI z).1]
  |none =>
   rcases own0 b z with w|w
   ·rw [w] at e;cases e
   ·exact absurd w hS
 ·have z1:=r.s4 b h z;by_cases hL:qU (g9 cap σ) (m3 cap ε1) H1 b=none
  ·rcases own0 b hL with w|w
   ·exact absurd w h
   ·obtain ⟨y,hy⟩:=str' b w;obtain ⟨a,ha,_,m1,_⟩:=ow' 0 y hy;rw [r.pin b w] at ha;injection ha with ha;injection ha with ha;injection ha with ha;rw [ha];exact m1
  ·exact q.s4 b hL z1
 ·rcases at1 i _ h with ⟨hi,e⟩|⟨j,hj,e⟩
  ·obtain ⟨v,hv,rv⟩:=r.sh i x e;exact ⟨v,hv,rv.mono q.s1⟩
  ·obtain ⟨v,hv,rv⟩:=q.sh j x e;exact ⟨v,zr hj hv,rv⟩
 ·rcases at1 i _ h1 with ⟨hi,e⟩|⟨k,hk,e⟩
  ·rcases at1 j _ h2 with ⟨hj,e'⟩|⟨l,hl',e'⟩
   ·exact r.nd i j x y a e e' h3 h4
   ·-- one of the block's own,one that it does not see
    obtain ⟨a',ha',m0,_,_⟩:=q.ow l y e';have ea:=zr hl' ha';rw [h4] at ea;injection ea with ea;injection ea with ea;injection ea with ea;subst ea;obtain ⟨c,hc1,_,_,t⟩:=r.ow i x e;rw [h3] at hc1;injection hc1 with hc1;injection hc1 with hc1;injection hc1 with hc1;subst hc1;cases z:H1 a with
    |none=>exact absurd z t.there
    |some o=>have w:=keep i x a hi e h3 o z;rw [m0.resolve_right yi] at w;cases w
  ·rcases at1 j _ h2 with ⟨hj,e'⟩|⟨l,hl',e'⟩
   ·obtain ⟨a',ha',m0,_,_⟩:=q.ow k x e;have ea:=zr hk ha';rw [h3] at ea;injection ea with ea;injection ea with ea;injection ea with ea;subst ea;obtain ⟨c,hc1,_,_,t⟩:=r.ow j y e';rw [h4] at hc1;injection hc1 with hc1;injection hc1 with hc1;injection hc1 with hc1;subst hc1;cases z:H1 a with
    |none=>exact absurd z t.there
    |some o=>have w:=keep j y a hj e' h4 o z;rw [m0.resolve_right yi] at w;cases w
   ·obtain ⟨a1,ha1,_⟩:=q.ow k x e;obtain ⟨a2,ha2,_⟩:=q.ow l y e';have e1:=zr hk ha1;have e2:=zr hl' ha2;rw [h3] at e1;rw [h4] at e2;injection e1 with e1;injection e1 with e1;injection e1 with e1;injection e2 with e2;injection e2 with e2;injection e2 with e2;subst e1;subst e2;have kl:=q.nd k l x y a e e' ha1 ha2;subst kl;rw [hk] at hl';injection hl' with hl';injection hl' with hl'
 ·obtain ⟨y,hy⟩:=str' b hS;obtain ⟨a,ha,_,_,t⟩:=ow' 0 y hy;rw [r.pin b hS] at ha;injection ha with ha;injection ha with ha;injection ha with ha;rw [ha];exact t.there
instance {cap:List (Option Nat)}{c:WT}{f:W}[si:SemWI wi it][sg:JH tg ts g][sc:zp tt c][sf:SemW te f]:SemW (wM wi tg tt te cap) (Jy cap ts it g c f) where
 h:=λ{ε Q'} h S Hs0 H0 Hs H σ rd Q k=>si.h h rd λxs ε1 J Hs1 H1 h1 rd1 g1 ok=>by
  obtain ⟨hcap,hl,h1⟩:=h1;unfold xM at hcap;rw [uU] at hcap;have hnd:=uR hcap.1;have wk:∀ i∈ts,(g9 cap σ)[i]?=some none:=λi hi=>by
   unfold g9;rw [yR,uR (uT.mp hcap.2 i hi)];rfl
  refine ⟨λn m zs H=>m=xs.length-n/\n<=xs.length/\∃ Hs2 ws ε2,RD [] Hs1 (qU (g9 cap σ) (m3 cap ε1) H1) Hs2 H (g9 cap σ) ε2/\Reps Hs2 ws zs/\ws.length<=n /\
    zQ g c f ts (xs.drop n) ws ε2 (λys ε3=>((∃ y:PV,ε1[0]?=some (MSlot.ow y))->∃ y:PV,(qd cap ε3 ε1)[0]?=some (MSlot.ow y))/\Q' (PV.lst ys) (qd cap ε3 ε1)),
   ⟨xs.length,by simp,yk _,Hs1,[],_,rd1.block hnd,.nil,yU _,h1⟩,?_⟩
  rintro n m zs H2 ⟨rfl,hn,Hs2,ws,ε2,r2,rz,hw,h2⟩;refine ⟨qr (by rw [rz.length];omega),?_⟩;by_cases hlt:n<xs.length
  ·have hd:xs.drop n=xs[n]::xs.drop (n+1):=ya hlt;rw [hd] at h2;obtain ⟨ε3,e3,h3⟩:=h2;obtain ⟨go,yl⟩:=ok.go n xs[n] Hs2 H2 (by simp [hlt]) r2.s1 r2.s3;refine .inr ⟨go,λv H3 y=>?_⟩;obtain ⟨Hs3,x3,r3⟩:=yl v H3 y;refine sg.h e3 (r2.go x3) r3 λσ4 rd4 bt=>⟨bt.wk wk,sc.h h3 rd4 λb ε5 Hs5 H5 h5 rd5 g5=>?_⟩;cases b with
   |true=>refine xo (sf.h (by simpa using h5) rd5 λy ε6 u Hs6 H6 h6 rd6 g6 ru=>⟨xs.length-(n+1),by omega,rfl,hlt,Hs6,ws++[y],_,rd6.reset bt,?_,by rw [yM];simp;omega,h6⟩);exact (rz.mono (x3.s1.trans (g5.trans g6))).snoc ru
   |false=>exact xn ⟨xs.length-(n+1),by omega,rfl,hlt,Hs5,ws,_,rd5.reset bt,rz.mono (x3.s1.trans g5),by omega,by simpa using h5⟩
  ·have en:n=xs.length:=by omega
   subst en;rw [uq] at h2;refine .inl ⟨ok.stop Hs2 H2 r2.s1 r2.s3,λD hD=>?_⟩;have rd2:=rd1.unblock hnd r2 h2.1;exact k _ _ _ _ _ h2.2 (rd2.go (.new rd2.s3 hD)) (g1.trans (r2.s1.trans (Ext.new rd2.s3 hD).s1)) (rep_lst.mpr ⟨D,zs,rfl,y0,rz.mono (Ext.new rd2.s3 hD).s1⟩)
section
variable {P:Program}{w:World}{K:Fg}{mg:Str->Option Value}{base:Heap}
theorem jv {n i:Nat}:(xs.map MSlot.sh++List.replicate n .no)[i]?≠some (.ow x):=λh=>by
 by_cases hi:i<xs.length
 ·rw [uN (by rw [yZ];exact hi),yR] at h;obtain ⟨y,_,z⟩:=yG.mp h;cases z
 ·rw [uH (by rw [yZ];omega),uC] at h;split at h<;>cases h
theorem Zk {n i:Nat}:(xs.map MSlot.sh++List.replicate n .no)[i]?≠some (.bo x):=λh=>by
 by_cases hi:i<xs.length
 ·rw [uN (by rw [yZ];exact hi),yR] at h;obtain ⟨y,_,z⟩:=yG.mp h;cases z
 ·rw [uH (by rw [yZ];omega),uC] at h;split at h<;>cases h
theorem Dq {a:Addr}(s:Same Hs H)(ha:Hs a=none)(hH:H a=some (.lst [.int n]))(r:Reps Hs xs ws):RD [a] Hs H Hs H (L2.start N (.ref a::ws)) (g7 n::xs.map .sh++List.replicate (N.length-(xs.length+1)) .no):=by
 have q:=wH (N:=N) (xs:= .at (.ref a)::xs) s (.cons (rep_at.mpr rfl) r);have tl:∀(i:Nat)(sl:MSlot),(g7 n::xs.map .sh++List.replicate (N.length-(xs.length+1)) .no)[i+1]?=some sl->((PV.at (.ref a)::xs).map MSlot.sh++List.replicate (N.length-(PV.at (.ref a)::xs).length) .no)[i+1]?=some sl:=λi sl h=>h;refine ⟨.refl _,λb o e _=>e,s,λ_ _ z=>z,λi x h=>?_,λi x h=>?_,λi j x y b h1 h2 _ _=>?_,?_,λb hb=>?_,λb hb=>?_,(λb hb=>⟨_,rfl⟩),λi x h=>by
  cases i with
  |zero=>unfold g7 at h;simp at h
  |succ i=>exact Zk (xs:=PV.at (.ref a)::xs) (tl i _ h)⟩
 ·cases i with
  |zero=>unfold g7 at h;simp at h
  |succ i=>exact q.sh (i+1) x (tl i _ h)
 ·cases i with
  |zero=>unfold g7 at h;simp at h;subst h;refine ⟨a,?_,.inr (yO.mpr rfl),ha,_,hH,.one (rep_at.mpr rfl)⟩;unfold L2.start;rfl
  |succ i =>
   obtain ⟨c,h1,_⟩:=q.ow (i+1) x (tl i _ h);exact absurd (tl i _ h) λz=>by
    have:=jv (i:=i+1) (x:=x) (xs:=PV.at (.ref a)::xs) (n:=N.length-(PV.at (.ref a)::xs).length);exact this z
 ·cases i with
  |zero =>
   cases j with
   |zero=>rfl
   |succ j=>exact absurd (tl j _ h2) (jv (xs:=PV.at (.ref a)::xs))
  |succ i=>exact absurd (tl i _ h1) (jv (xs:=PV.at (.ref a)::xs))
 ·exact q.len
 ·rw [yO.mp hb];unfold L2.start;rfl
 ·rw [yO.mp hb,hH];exact λz=>nomatch z
theorem okD {x:Str}{f:Addr}{k:Nat}(F:Fun K x qual st f fd)(S:v9 N ps (j6 st))(hpre:∀ xs,pre xs->xs.length+1=ps.length)(hb:∀(cdv:Value)(A:Around)(outer:List Env)(s:Shared)(H:Hp)(E:XK),Room k (A.deeper (PyProof.Rows.envOfC qual (j6 st) s.heap.objs.size f cdv)) -> ∃ t,PSs (qN j8 P w K mg base N qual (j6 st) f cdv A outer s H E).nox (f6 st) t/\SemWS t b)(hw:∀ xs n,pre xs->b (g7 n::xs.map .sh++List.replicate (N.length-(xs.length+1)) .no) (λ_=>False) λy ε=>R xs y/\xH 0 ε):FnOk P w K mg base j8 (k+1) f fd ps (spD pre R):=by
 refine F.ok S (λvs H Q E h=>?_) (λcdv A outer s H vs Q E hr h=>?_)
 ·obtain ⟨Hs,a,n,xs,ws,rfl,_,_,_,r,hp,_⟩:=h;rw [yu,r.length];exact hpre xs hp
 ·obtain ⟨Hs,a,n,xs,ws,rfl,sm,ha,hH,r,hp,q⟩:=h;obtain ⟨t,ht,sem⟩:=hb cdv A outer s H E hr;refine ⟨t,ht,sem.h (hw xs n hp) (Dq sm ha hH r) (λε σ Hs' H' z _ _=>z.elim) λy ε σ v Hs' H' hR rd g rv=>?_⟩;obtain ⟨hR,n',hn'⟩:=hR;obtain ⟨a',ha',hH',hs',_⟩:=rd.strm_at hn';rw [rd.pin a (yO.mpr rfl)] at ha';injection ha' with ha';injection ha' with ha';injection ha' with ha';subst ha';refine q y v n' Hs' H' hR ⟨g,λb o e hb=>rd.s2 b o e λz=>hb (yO.mp z),rd.s3,λb h z=>rd.s4 b h z⟩ hs' hH' rv
end
def spN (pre:List PV->Prop)(R:List PV->PV->Prop):Sp:=λvs H Q _=>∃ Hs xs,Same Hs H/\Reps Hs xs vs/\pre xs/\∀ y a Hs' H',R xs y->Ext Hs H Hs' H'->H a=none->Hs' a=none->Top Hs' H' a y->Q (.ref a) H'
def spV (pre:List PV->Prop)(R:List PV->PV->Prop):Sp:=λvs H Q _=>∃ Hs xs,Same Hs H/\Reps Hs xs vs/\pre xs/\∀ y v Hs' H',R xs y->Ext Hs H Hs' H'->Rep Hs' y v->Q v H'
def JC (i:Nat)(pre:List PV->Prop)(R:List PV->PV->Prop)(as:WA):WS:=λε N _=>as ε λxs ε1=>pre xs/\∀ y,R xs y->N (ε1.set i (.ow y))
instance {i:Nat}{as:WA}[sa:zV ta as]:SemWS (xV (xb (spN pre R) [] E ta) (qh (i+1))) (JC (i+1) pre R as) where
 h:=λh _ _ _ _ _ _ rd _ k _=>sa.h h rd λxs ε1 vs Hs1 H1 h1 rd1 g1 r1=>by
  refine ⟨Hs1,xs,rd1.s3,by rw [yr];exact r1,h1.1,λy a Hs' H' hR x n n' t=>?_⟩;refine k _ _ _ _ (h1.2 y hR) ((rd1.go x).putO (.inl (rd1.free0 n)) n' t λj z hj e=>?_) (g1.trans x.s1);obtain ⟨b,hb,_,_,tb⟩:=rd1.ow j z hj;rw [e] at hb;injection hb with hb;injection hb with hb;injection hb with hb;subst hb;exact tb.there n
def UH (pre:List PV->Prop)(R:List PV->PV->Prop)(as:WA):W:=λε Q=>as ε λxs ε1=>pre xs/\∀ y,R xs y->Q y ε1
instance {as:WA}[sa:zV ta as]:SemW (xb (spV pre R) [] E ta) (UH pre R as) where
 h:=λh _ _ _ _ _ _ rd _ k=>sa.h h rd λxs ε1 vs Hs1 H1 h1 rd1 g1 r1 =>
  ⟨Hs1,xs,rd1.s3,by rw [yr];exact r1,h1.1,λy v Hs' H' hR x rv=>k y ε1 v Hs' H' (h1.2 y hR) (rd1.go x) (g1.trans x.s1) rv⟩
def vx (pre0:List PV->Prop)(R0:List PV->PV->Prop)(a0:MA)(pre:List PV->Prop)(R:List PV->PV->Prop)(as:MA):W:=λε Q=>∃ xs0 xs,a0 ε=some xs0/\as ε=some xs/\pre0 xs0/\(∀ y,R0 xs0 y->∃ n,y = .lst [.at (.int n)])/\pre xs/\∀ y,R xs y->Q y ε
instance {t0:TA}{E':XK}[s0:qw t0 a0][sa:qw ta as]:SemW (xb (spD pre R) [] E (k5 (xb (spN pre0 R0) [] E' t0) ta)) (vx pre0 R0 a0 pre R as) where
 h:=λ{ε Q'} hh S Hs0 H0 Hs H σ rd Q k=>by
  obtain ⟨xs0,xs,e0,e1,hp0,hR0,hp,h⟩:=hh;refine s0.h e0 rd.rs λvs0 Hs1 H1 x1 r1=>?_;refine ⟨Hs1,xs0,x1.s3,by rw [yr];exact r1,hp0,λy a Hs2 H2 hR x2 n n' t=>?_⟩;obtain ⟨m,rfl⟩:=hR0 y hR;have rd2:=(rd.go x1).go x2;refine sa.h e1 rd2.rs λvs Hs3 H3 x3 r3=>?_;obtain ⟨ws,hw,rw⟩:=t;obtain ⟨v,r,rfl,p1,p2⟩:=reps_cons.mp rw;cases reps_nil.mp p2;cases rep_at.mp p1;have hw3:=x3.s2 _ _ hw;have n3:Hs3 a=none:=x3.s4 a (by rw [hw];exact λz=>nomatch z) n';refine ⟨Hs3,a,m,xs,vs,by rw [yr],x3.s3,n3,hw3,r3,hp,λz u m' Hs' H' hRz xd na ea ru=>?_⟩;have rd3:=rd2.go x3;have an:∀(j:Nat)(y:PV),ε[j]?=some (MSlot.ow y)->σ[j]?≠some (some (V.ref a)):=λj y hj e=>by
   obtain ⟨b,hb,_,_,tb⟩:=(rd.go x1).ow j y hj;rw [e] at hb;injection hb with hb;injection hb with hb;injection hb with hb;subst hb;exact tb.there n
  have h0a:=(rd.go x1).free0 n;refine k z _ u Hs' H' (h z hRz) ⟨rd3.s1.trans xd.s1,λb o e hS=>xd.s2 b o (rd3.s2 b o e hS) (λw=>by rw [w,h0a] at e;cases e),xd.s3,λb hb w=>xd.s4 b (rd3.there hb) (rd3.s4 b hb w),λi x hx=>?_,λi x hx=>?_,rd3.nd,rd3.len,rd3.pin,λb hS=>?_,rd3.str,rd3.nb⟩ (x1.s1.trans (x2.s1.trans (x3.s1.trans xd.s1))) ru
  ·obtain ⟨v,hv,rv⟩:=rd3.sh i x hx;exact ⟨v,hv,rv.mono xd.s1⟩
  ·obtain ⟨b,hb,m0,m1,tb⟩:=rd3.ow i x hx;have hne:b≠a:=λw=>an i x hx (w▸hb);exact ⟨b,hb,m0,xd.s4 b tb.there m1,tb.mono xd.s1 λo ho=>xd.s2 b o ho hne⟩
  ·have hl:=rd3.live b hS;have hne:b≠a:=λw=>by
    have:=(rd.go x1).live b hS;rw [w] at this;exact this n
   cases q:H3 b with
   |none=>exact absurd q hl
   |some o=>rw [xd.s2 b o q hne];exact λz=>nomatch z
section
variable {P:Program}{w:World}{K:Fg}{mg:Str->Option Value}{base:Heap}
theorem YI (s:Same Hs H)(r:Reps Hs xs vs):RD [] Hs H Hs H (L2.start N vs) (xs.map .sh++List.replicate (N.length-xs.length) .no):=by have q:=wH (N:=N) s r;exact ⟨.refl _,λb o e _=>e,s,λ_ _ z=>z,q.sh,λi x h=>absurd h jv,q.nd,q.len,(λ_ z=>nomatch z),(λ_ z=>nomatch z),(λ_ z=>nomatch z),λ_ _=>Zk⟩
theorem okV {x:Str}{f:Addr}{k:Nat}(F:Fun K x qual st f fd)(S:v9 N ps (j6 st))(hpre:∀ xs,pre xs->xs.length=ps.length)(hb:∀(cdv:Value)(A:Around)(outer:List Env)(s:Shared)(H:Hp)(E:XK),Room k (A.deeper (PyProof.Rows.envOfC qual (j6 st) s.heap.objs.size f cdv)) -> ∃ t,PSs (qN j8 P w K mg base N qual (j6 st) f cdv A outer s H E).nox (f6 st) t/\SemWS t b)(hw:∀ xs,pre xs->b (xs.map .sh++List.replicate (N.length-xs.length) .no) (λ_=>False) λy _=>R xs y):FnOk P w K mg base j8 (k+1) f fd ps (spV pre R):=by
 refine F.ok S (λvs H Q E h=>?_) (λcdv A outer s H vs Q E hr h=>?_)
 ·obtain ⟨Hs,xs,_,r,hp,_⟩:=h;rw [r.length];exact hpre xs hp
 ·obtain ⟨Hs,xs,sm,r,hp,q⟩:=h;obtain ⟨t,ht,sem⟩:=hb cdv A outer s H E hr;refine ⟨t,ht,sem.h (hw xs hp) (YI sm r) (λε σ Hs' H' z _ _=>z.elim) λy ε σ v Hs' H' hR rd g rv=>?_⟩;exact q y v Hs' H' hR ⟨g,λb o e=>rd.s2 b o e yi,rd.s3,rd.s4⟩ rv
def scr (K:Fg)(ns:List Int):PV:= .op λH v=>∃ a,v = .ref a/\SqL K H a (ns.map V.int)
theorem Mm {K:Fg}{ns:List Int}(s:Same Hs H)(r:Rep Hs (scr K ns) v):∃ a,v = .ref a/\SqL K H a (ns.map V.int):=by obtain ⟨H1,s1,a,rfl,q⟩:=rep_op.mp r;exact ⟨a,rfl,(s1.trans s).seq q⟩
def wL (K:Fg):Sp:=λvs H Q _=>∃(a:Addr)(ns:List Int),vs=[.ref a]/\SqL K H a (ns.map V.int)/\ns.length<=63/\∀ H',Q (.bl true) H'
theorem okL {x:Str}{f:Addr}{k:Nat}(F:Fun K x qual st f fd)(S:v9 N ["script"] (j6 st))(hb:∀ (cdv:Value) (A:Around) (outer:List Env) (s:Shared) (H:Hp) (E:XK),Room k (A.deeper (PyProof.Rows.envOfC qual (j6 st) s.heap.objs.size f cdv)) -> ∃ t,PSs (qN j8 P w K mg base N qual (j6 st) f cdv A outer s H E).nox (f6 st) t/\SemWS t b)(hw:∀ ns:List Int,ns.length<=63->b (.sh (scr K ns)::List.replicate (N.length-1) .no) (λ_=>False) λy _=>y = .at (.bl true)):FnOk P w K mg base j8 (k+1) f fd ["script"] (wL K):=by
 refine F.ok S (λvs H Q E h=>?_) (λcdv A outer s H vs Q E hr h=>?_)
 ·obtain ⟨a,ns,rfl,_⟩:=h;rfl
 ·obtain ⟨a,ns,rfl,hS,h63,q⟩:=h;obtain ⟨t,ht,sem⟩:=hb cdv A outer s H E hr;have r:Reps H [scr K ns] [.ref a]:= .one (rep_op.mpr ⟨H,.refl _,a,rfl,hS⟩);refine ⟨t,ht,sem.h (hw ns h63) (YI (N:=N) (.refl H) r) (λε σ Hs' H' z _ _=>z.elim) λy ε σ v Hs' H' hR rd g rv=>?_⟩;subst hR;cases rep_at.mp rv;exact q H'
end
class qB (w:W):Prop where
 h:∀{ε:ME}{P P':PV->ME->Prop},(∀ y e,P y e->P' y e)->w ε P->w ε P'
class Xd (w:WA):Prop where
 h:∀{ε:ME}{P P':List PV->ME->Prop},(∀ y e,P y e->P' y e)->w ε P->w ε P'
class jB (w:WT):Prop where
 h:∀{ε:ME}{P P':Bool->ME->Prop},(∀ y e,P y e->P' y e)->w ε P->w ε P'
class qK (w:WS):Prop where
 h:∀{ε:ME}{N N':ME->Prop}{R R':PV->ME->Prop},(∀ e,N e->N' e)->(∀ y e,R y e->R' y e)->w ε N R->w ε N' R'
instance {f:M}:qB (wP f) where h:=λk ⟨y,e,q⟩=>⟨y,e,k _ _ q⟩
instance {f:MB}:jB (wPT f) where h:=λk ⟨y,e,q⟩=>⟨y,e,k _ _ q⟩
instance {g:PV->PV->Option PV}{b:W}[A:qB a][B:qB b]:qB (k6 g a b) where h:=λk h=>A.h (λ_ _ h1=>B.h (λ_ _ ⟨z,e,q⟩=>⟨z,e,k _ _ q⟩) h1) h
instance:jB wYes where h:=λk h=>k _ _ h
theorem XD {c:Bool}{A B A' B':Prop}(h1:A->A')(h2:B->B')(h:if c=true then A else B):if c=true then A' else B':=by
 cases c with
 |true=>exact xo (h1 (by simpa using h))
 |false=>exact xn (h2 (by simpa using h))
instance {i:Nat}[A:qB a]:qB (g8 i a) where h:=λk h=>⟨h.1,A.h (λ_ _ ⟨n,m,e1,e2,e3,q⟩=>⟨n,m,e1,e2,e3,k _ _ q⟩) h.2⟩
instance :qB (vx pre0 R0 a0 pre R as) where
 h:=λk ⟨xs0,xs,e0,e1,h1,h2,h3,h4⟩=>⟨xs0,xs,e0,e1,h1,h2,h3,λy r=>k _ _ (h4 y r)⟩
instance {f:MA}:Xd (wIp f) where h:=λk ⟨y,e,q⟩=>⟨y,e,k _ _ q⟩
theorem Jz {g:MG}{c:WT}{f:W}{ts:List Nat}[C:jB c][F:qB f]{Q Q':List PV->ME->Prop}(k:∀ y e,Q y e->Q' y e):∀(xs ys:List PV)(ε:ME),zQ g c f ts xs ys ε Q->zQ g c f ts xs ys ε Q'
 |[],ys,ε,h=>k _ _ h
 |x::xs,ys,ε,h=>by
  obtain ⟨ε1,e1,h1⟩:=h;exact ⟨ε1,e1,C.h (λb ε2 h2=>XD (λh3=>F.h (λy ε3 h4=>Jz k xs _ _ h4) h3) (λh3=>Jz k xs _ _ h3) h2) h1⟩
instance {cap:List (Option Nat)}{c:WT}{f:W}[I:Xd it][C:jB c][F:qB f]:qB (Jy cap ts it g c f) where
 h:=λk h=>I.h (λ_ _ ⟨h1,h2,h3⟩=>⟨h1,h2,Jz (λ_ _ ⟨q1,q2⟩=>⟨q1,k _ _ q2⟩) _ _ _ h3⟩) h
instance:qK xI where h:=λk _ h=>k _ h
instance {a:WS}[A:qK a][B:qK b]:qK (wSeq a b) where h:=λk r h=>A.h (λ_ h1=>B.h k r h1) r h
instance {i:Nat}[A:qB a]:qK (k4 i a) where h:=λk _ h=>A.h (λ_ _ h1=>k _ h1) h
instance [A:qB a]:qK (xg a) where h:=λ_ r h=>A.h r h
instance {c:WT}{a:WS}[C:jB c][A:qK a][B:qK b]:qK (xf c a b) where h:=λk r h=>C.h (λ_ _ h1=>XD (λh2=>A.h k r h2) (λh2=>B.h k r h2) h1) h
instance {i:Nat}[A:qB a]:qK (wV i a) where h:=λk _ h=>⟨h.1,A.h (λ_ _ ⟨xs,e1,e2,q⟩=>⟨xs,e1,e2,k _ q⟩) h.2⟩
theorem UK {g:MG}{f:WS}[F:qK f]{N N':ME->Prop}{R R':PV->ME->Prop}(k:∀ e,N e->N' e)(r:∀ y e,R y e->R' y e):∀(xs:List PV)(ε:ME),jz g f xs ε N R->jz g f xs ε N' R'
 |[],ε,h=>k _ h
 |x::xs,ε,h=>by
  obtain ⟨ε1,e1,h1⟩:=h;exact ⟨ε1,e1,F.h (λε2 h2=>UK k r xs ε2 h2) r h1⟩
instance {f:WS}[I:Xd it][F:qK f]:qK (wFor it g f) where h:=λk r h=>I.h (λ_ _ h1=>UK k r _ _ h1) h
theorem Xo {g:MG}{c:WT}{f:W}{ts:List Nat}{Q:List PV->ME->Prop}[C:jB c][F:qB f](I:List PV->List PV->ME->Prop)(hd:∀ ys ε,I [] ys ε->Q ys ε)(hs:∀ x xs ys ε,I (x::xs) ys ε->∃ ε1,g x ε=some ε1/\c ε1 λb ε2=>if b=true then f ε2 λy ε3=>I xs (ys++[y]) (rst ts ε3) else I xs ys (rst ts ε2)):∀(xs ys:List PV)(ε:ME),I xs ys ε->zQ g c f ts xs ys ε Q
 |[],ys,ε,h=>hd ys ε h
 |x::xs,ys,ε,h=>by
  obtain ⟨ε1,e1,h1⟩:=hs x xs ys ε h;exact ⟨ε1,e1,C.h (λb ε2 h2=>XD (λh3=>F.h (λy ε3 h4=>Xo I hd hs xs _ _ h4) h3) (λh3=>Xo I hd hs xs _ _ h3) h2) h1⟩
theorem GS {f:W}{Q:List PV->ME->Prop}[F:qB f](I:List PV->List PV->ME->Prop)(hd:∀ ys ε,I [] ys ε->Q ys ε)(hs:∀ x xs ys ε,I (x::xs) ys ε->∃ ε1,g x ε=some ε1/\f ε1 λy ε3=>I xs (ys++[y]) (rst ts ε3))(xs ys:List PV)(ε:ME)(h:I xs ys ε):zQ g wYes f ts xs ys ε Q :=
 Xo I hd (λx xs ys ε h=>by
  obtain ⟨ε1,e,q⟩:=hs x xs ys ε h;refine ⟨ε1,e,?_⟩;show if true=true then (f ε1 λy ε3=>I xs (ys++[y]) (rst ts ε3)) else I xs ys (rst ts ε1)
  rw [if_pos rfl];exact q) xs ys ε h
theorem jU {g:MG}{f:WS}{N:ME->Prop}{R:PV->ME->Prop}[F:qK f](I:List PV->ME->Prop)(hd:∀ ε,I [] ε->N ε)(hs:∀ x xs ε,I (x::xs) ε->∃ ε1,g x ε=some ε1/\f ε1 (λε2=>I xs ε2) R):∀(xs:List PV)(ε:ME),I xs ε->jz g f xs ε N R
 |[],ε,h=>hd ε h
 |x::xs,ε,h=>by
  obtain ⟨ε1,e1,h1⟩:=hs x xs ε h;exact ⟨ε1,e1,F.h (λε2 h2=>jU I hd hs xs ε2 h2) (λ_ _ z=>z) h1⟩
section
variable {ε ε1:ME}{a b:MS}{f g:M}{x y z:PV}{i:Nat}{o:Option Out}
theorem w9 (h:a ε=some (.nx ε1))(k:b ε1=o):v3 a b ε=o:=by unfold v3;rw [h];exact k
theorem Ks (h:a ε=some (.rt y)):v3 a b ε=some (.rt y):=by unfold v3;rw [h];rfl
theorem qk (h:f ε=some x):b7 i f ε=some (.nx (ε.set i (.sh x))):=by unfold b7;rw [h];rfl
theorem vR (h:f ε=some x):zv i f ε=some (.nx (ε.set i (.ow x))):=by unfold zv;rw [h];rfl
theorem m5 (h:f ε=some x):y3 f ε=some (.rt x):=by unfold y3;rw [h];rfl
theorem w6 {G:PV->PV->Option PV}(h1:f ε=some x)(h2:g ε=some y)(h:G x y=r):z5 G f g ε=r:=by unfold z5;rw [h1];show Option.bind (g ε) _=_;rw [h2];exact h
theorem j7 (h1:as ε=some xs)(h:m xs=r):x9 m as ε=r:=by unfold x9;rw [h1];exact h
theorem v8 {r:MA}(h1:f ε=some x)(h2:r ε=some xs):q8 f r ε=some (x::xs):=by unfold q8;rw [h1];show Option.bind (r ε) _=_;rw [h2];rfl
theorem Kq (h:c ε=some true)(k:a ε=o):b9 c a b ε=o:=by unfold b9;rw [h];exact k
theorem o3 (h:c ε=some false)(k:b ε=o):b9 c a b ε=o:=by unfold b9;rw [h];exact k
theorem jP {it:MA}(h:it ε=some xs)(k:xz G a xs ε=o):xX it G a ε=o:=by unfold xX;rw [h];exact k
theorem zx (h:as ε=some xs)(hl:xs.length<=lim):n8 as ε=some (.lst xs):=by unfold n8;rw [h];show (if _ then _ else _)=_;rw [if_pos hl]
theorem vS (h:as ε=some xs)(hl:xs.length<=lim):qO as ε=some (.tup xs):=by unfold qO;rw [h];show (if _ then _ else _)=_;rw [if_pos hl]
theorem Xv {cap:List (Option Nat)}{it:MA}(h:it ε=some xs)(hc:xM cap ts=true)(hl:xs.length<=lim)(k:i8 G c f (m3 cap ε) xs=some ys):u8 cap ts it G c f ε=some (.lst ys):=by unfold u8;rw [h];show (if _ then _ else _)=_;rw [if_pos ⟨hc,hl⟩,k];rfl
end
theorem Yd (h:xs.length+ys.length<=lim):k7 (.lst xs) (.lst ys)=some (.lst (xs++ys)):=by show (if _ then _ else _)=_;rw [if_pos h]
theorem jd {n k:Nat}{b:MS}(hl:xs.length=k)(h:b (xs.map .sh++List.replicate (n-k) .no)=some (.rt y)):xk n k b xs=some y:=by unfold xk;rw [if_pos hl,h];rfl
theorem t9 {n k:Nat}{b:MS}(hl:xs.length=k)(h:b (xs.map .sh++List.replicate (n-k) .no)=some (.rt y)):u9 n k b xs=some y:=by unfold u9;rw [if_pos hl,h];rfl
theorem Ze {f:PV->PV->Option Bool}:∀{xs:List PV},(∀ x∈xs,f x x=some true)->xE f xs xs=some true
 |[],_=>rfl
 |x::xs,h=>by unfold xE;rw [h x yH];show Option.bind (xE f xs xs) _=_;rw [Ze λy hy=>h y (yK _ hy)];rfl
def zK:Nat->PV->Prop
 |_,.at u=>y6 u=true
 |n+1,.lst xs=>∀ x∈xs,zK n x
 |n+1,.tup xs=>∀ x∈xs,zK n x
 |_,_=>False
theorem QN:∀(n:Nat){x:PV},zK n x->peq n x x=some true
 |0,x,h=>by
  cases x with
  |«at» u=>show (if _ then _ else _)=_;rw [if_pos ⟨h,h⟩,Qg h]
  |_=>exact h.elim
 |n+1,x,h=>by
  cases x with
  |«at» u=>show (if _ then _ else _)=_;rw [if_pos ⟨(show y6 u=true from h),h⟩,Qg h]
  |lst xs=>show (if _ then _ else _)=_;rw [if_pos rfl];exact Ze λy hy=>QN n (h y hy)
  |tup xs=>show Option.bind (xE (peq n) xs xs) _=_;rw [Ze λy hy=>QN n (h y hy)];show some (true&&(xs.length==xs.length))=_;rw [beq_self_eq_true];rfl
  |_=>exact h.elim
theorem Cv (h:zK 6 x):pEq x x=some (.at (.bl true)):=by unfold pEq;rw [QN 6 h];rfl
theorem QI (h:zK 6 x):pNe x x=some (.at (.bl false)):=by unfold pNe;rw [QN 6 h];rfl
class xx (K:Fg)(C:Addr):Prop where
 c:Cls K C
class NoA (K:Fg)(C:Addr)(f:Str):Prop where
 n:NoAttr K C f
def jS (f:Str):List Str->List PV->Option PV
 |n::ns,x::xs=>if f=n then some x else jS f ns xs
 |_,_=>none
theorem WO {H:Hp}{f:Str}{y:PV}:∀{fs:List (Str×V)}{xs:List PV},Reps H xs (fs.map (·.2))->jS f (fs.map (·.1)) xs=some y->∃ v,fs.lookup f=some v/\Rep H y v
 |[],xs,r,h=>by cases xs<;>cases h
 |p::fs,xs,r,h=>by
  cases xs with
  |nil=>cases h
  |cons x xs =>
   obtain ⟨v,w,e,p1,p2⟩:=reps_cons.mp r;rw [yN] at e;injection e with e1 e2;subst e1 e2;rw [yN] at h;unfold jS at h;rw [uX];split at h
   ·rename_i hf;cases h;rw [hf,beq_self_eq_true];exact ⟨p.2,rfl,p1⟩
   ·rename_i hf;rw [beq_eq_false_iff_ne.mpr hf];exact WO p2 h
def xj (C:Addr)(f:Str)(a:M):M:=λε=>(a ε).bind λx=>match x with
 | .ob C' ns xs=>if C'=C then jS f ns xs else none
 |_=>none
theorem GX {a:M}(h:xj C f a ε=some y):∃ ns xs,a ε=some (.ob C ns xs)/\jS f ns xs=some y:=by
 unfold xj at h;obtain ⟨x,ex,h1⟩:=bind_some h;split at h1
 ·split at h1
  ·rename_i hc;subst hc;exact ⟨_,_,ex,h1⟩
  ·cases h1
 ·cases h1
instance {a:M}[c:xx K C][n:NoA K C f][s:p8 te a]:SemE (tFld K te f) (xj C f a) where
 h:=λe _ _ _ _ _ rs _ q=>by
  obtain ⟨ns,xs,ea,el⟩:=GX e;refine s.h ea rs λv Hs1 H1 x1 r1=>?_;obtain ⟨p,dx,fs,rfl,hp,hk,hr⟩:=YO x1.s3 r1;rw [<- hk] at el;obtain ⟨u,hu,ru⟩:=WO hr el;exact ⟨p,C,dx,fs,u,rfl,hp,c.c,n.n,hu,q u _ _ x1 ru⟩
theorem jq {ta:TE}(hK:X.K=K)(he:PE X e ta)(hb:attributeBase e f X.env (eval e X.env)=eval e X.env:=by rfl):PE X (.Attribute e f pos) (tFld K ta f):=by subst hK;exact CC he hb
structure Mt (P:Program)(w:World)(K:Fg)(mg:Str->Option Value)(base:Heap)(k:Nat)(C:Addr)(m:Str)(ps:List Str)(sp:Sp):Prop where
 ex:∃ f fd,FnOk P w K mg base j8 k f fd ps sp/\vA K C m f/\Cls K C/\Binds K fd ps []
section
variable {X:Cx}{k j:Nat}{C:Addr}{m:Str}{ps:List Str}{sp:Sp}{o e:Expr}{es:List Expr}{ta:TE}{t:TA}{apos pos:Pos}
theorem QM (c:Mt X.prog X.w X.K X.mg X.base k C m ps sp)(hr:Room j X.A)(hj:k<=j)(ho:PE X o ta)(ha:PA X (e::es) t)
  (hst:starEach (e::es) X.env=(false,eval e X.env)::starEach es X.env:=by rfl) (hpl:(backTo pos (starEach es X.env)).any (·.1)=false:=by rfl)
  (ht:eval (.Call (.Attribute o m apos) (e::es) [] pos) X.env=(do
   let ov <- eval o X.env
   standAt apos.atName
   let (f,first) <- holding [ov] (getMethod ov m pl)
   callWith pos f first (backTo pos (starEach (e::es) X.env)) (backToKw pos (keywordEach [] X.env))):=by rfl) :
  PE X (.Call (.Attribute o m apos) (e::es) [] pos) (jy C m sp [] E0 ta t):=by
 obtain ⟨f,fd,F,hm,hc,hb⟩:=c.ex;exact CH ho hc hm F (hr.mono hj) hb .nil QL ha hst hpl ht
theorem vm (c:Mt X.prog X.w X.K X.mg X.base k C m ps sp)(hr:Room j X.A)(hj:k<=j)(ho:PE X o ta)
  (ht:eval (.Call (.Attribute o m apos) [] [] pos) X.env=(do
   let ov <- eval o X.env
   standAt apos.atName
   let (f,first) <- holding [ov] (getMethod ov m pl)
   callWith pos f first (backTo pos (starEach [] X.env)) (backToKw pos (keywordEach [] X.env))):=by rfl) :
  PE X (.Call (.Attribute o m apos) [] [] pos) (jy C m sp [] E0 ta p7):=by
 obtain ⟨f,fd,F,hm,hc,hb⟩:=c.ex;exact CI ho hc hm F (hr.mono hj) hb .nil QL ht
end
variable {fr:Bool}
def qG:PV->Option z7
 | .at (.int i)=>some (.inl i)
 | .at (.str x)=>some (.inr x)
 |_=>none
theorem zC {k:z7}(r:RepB Hs H x v)(h:qG x=some k):v=kV k:=by
 unfold qG at h;split at h
 ·cases h;cases y9 r;rfl
 ·cases h;cases y9 r;rfl
 ·cases h
def i0 (k:z7):List z7->List PV->Option PV
 |n::ns,x::xs=>if n=k then some x else i0 k ns xs
 |_,_=>none
theorem Qo {H:Hp}{k:z7}:∀{kvs:List (z7×V)}{xs:List PV},Reps H xs (kvs.map (·.2))->match i0 k (kvs.map (·.1)) xs with
  |some y=>∃ v,qo kvs k=some v/\Rep H y v
  |none=>qo kvs k=none
 |[],xs,r=>by
  have hx:xs=[]:=uB.mp r.length.symm;subst hx;rfl
 |p::kvs,xs,r=>by
  cases xs with
  |nil=>have:=r.length;simp at this
  |cons x xs =>
   obtain ⟨v,w,e,p1,p2⟩:=reps_cons.mp r;rw [yN] at e;injection e with e1 e2;subst e1 e2;rw [yN];unfold i0;by_cases hk:p.1=k
   ·rw [if_pos hk];refine ⟨p.2,?_,p1⟩;unfold qo;rw [uM,yj hk];rfl
   ·rw [if_neg hk];have ih:=Qo (k:=k) p2;have ev:qo (p::kvs) k=qo kvs k:=by unfold qo;rw [uM,yB hk]
    rw [ev];exact ih
def zu (a b:M):M:=λε=>(a ε).bind λx=>(b ε).bind λy=>(qG y).bind λk=>match x with
 | .dk ks xs=>i0 k ks xs
 | .fk ks xs=>i0 k ks xs
 |_=>none
instance {a b:M}[sa:p8 td a][sb:p8 ty b]:SemE (Ul td ty) (zu a b) where
 h:=λe _ _ _ _ _ rs _ q=>by
  obtain ⟨x,ex,e1⟩:=bind_some e;obtain ⟨y,ey,e2⟩:=bind_some e1;obtain ⟨k,ek,e3⟩:=bind_some e2;split at e3
  ·refine sa.h ex rs λv Hs1 H1 x1 r1=>sb.h ey (rs.go x1) λw Hs2 H2 x2 r2=>?_;obtain ⟨p,kvs,rfl,hp,hk,hr⟩:=zj x2.s3 (r1.ext x2);have l:=Qo (k:=k) hr;rw [hk,e3] at l;obtain ⟨u,hu,ru⟩:=l;have ew:=zC r2 ek;subst ew;exact ⟨p,u,rfl,by rw [<- hu];exact DGet.k hp,q u _ _ (x1.trans x2) ru⟩
  ·refine sa.h ex rs λv Hs1 H1 x1 r1=>sb.h ey (rs.go x1) λw Hs2 H2 x2 r2=>?_;obtain ⟨p,o,kvs,rfl,hp,hk,hr⟩:=wF x2.s3 (r1.ext x2);have l:=Qo (k:=k) hr;rw [hk,e3] at l;obtain ⟨u,hu,ru⟩:=l;have ew:=zC r2 ek;subst ew;exact ⟨p,u,rfl,by rw [<- hu];exact .inl ⟨kvs,k,.inr ⟨o,hp⟩,rfl,rfl⟩,q u _ _ (x1.trans x2) ru⟩
  ·cases e3
def jJ (b a:M):M:=λε=>(b ε).bind λy=>(a ε).bind λx=>(qG y).bind λk=>match x with
 | .dk ks xs=>some (.at (.bl (i0 k ks xs).isSome))
 | .fk ks xs=>some (.at (.bl (i0 k ks xs).isSome))
 |_=>none
def Qc (b a:M):M:=λε=>(b ε).bind λy=>(a ε).bind λx=>(qG y).bind λk=>match x with
 | .dk ks xs=>some (.at (.bl (!(i0 k ks xs).isSome)))
 | .fk ks xs=>some (.at (.bl (!(i0 k ks xs).isSome)))
 |_=>none
theorem vX {k:z7}{kvs:List (z7×V)}(r:Reps H xs (kvs.map (·.2))):(i0 k (kvs.map (·.1)) xs).isSome=(qo kvs k).isSome:=by
 have l:=Qo (k:=k) r;cases e:i0 k (kvs.map (·.1)) xs with
 |none=>rw [e] at l;rw [show qo kvs k=none from l];rfl
 |some y=>rw [e] at l;obtain ⟨v,hv,_⟩:=l;rw [hv];rfl
instance {a b:M}[sa:p8 td a][sb:p8 ty b]:SemE (tDIn ty td) (jJ b a) where
 h:=λe _ _ _ _ _ rs _ q=>by
  obtain ⟨y,ey,e1⟩:=bind_some e;obtain ⟨x,ex,e2⟩:=bind_some e1;obtain ⟨k,ek,e3⟩:=bind_some e2;split at e3
  ·cases e3;refine sb.h ey rs λw Hs1 H1 x1 r1=>sa.h ex (rs.go x1) λv Hs2 H2 x2 r2=>?_;obtain ⟨p,kvs,rfl,hp,hk,hr⟩:=zj x2.s3 r2;have ew:=zC r1 ek;subst ew;exact ⟨p,_,rfl,DGet.k hp,q _ _ _ (x1.trans x2) (rep_at.mpr (by rw [<- hk,vX hr]))⟩
  ·cases e3;refine sb.h ey rs λw Hs1 H1 x1 r1=>sa.h ex (rs.go x1) λv Hs2 H2 x2 r2=>?_;obtain ⟨p,o,kvs,rfl,hp,hk,hr⟩:=wF x2.s3 r2;have ew:=zC r1 ek;subst ew;exact ⟨p,_,rfl,.inl ⟨kvs,_,.inr ⟨o,hp⟩,rfl,rfl⟩,q _ _ _ (x1.trans x2) (rep_at.mpr (by rw [<- hk,vX hr]))⟩
  ·cases e3
instance {a b:M}[sa:p8 td a][sb:p8 ty b]:SemE (Uo ty td) (Qc b a) where
 h:=λe _ _ _ _ _ rs _ q=>by
  obtain ⟨y,ey,e1⟩:=bind_some e;obtain ⟨x,ex,e2⟩:=bind_some e1;obtain ⟨k,ek,e3⟩:=bind_some e2;split at e3
  ·cases e3;refine sb.h ey rs λw Hs1 H1 x1 r1=>sa.h ex (rs.go x1) λv Hs2 H2 x2 r2=>?_;obtain ⟨p,kvs,rfl,hp,hk,hr⟩:=zj x2.s3 r2;have ew:=zC r1 ek;subst ew;exact ⟨p,_,rfl,DGet.k hp,q _ _ _ (x1.trans x2) (rep_at.mpr (by rw [<- hk,vX hr]))⟩
  ·cases e3;refine sb.h ey rs λw Hs1 H1 x1 r1=>sa.h ex (rs.go x1) λv Hs2 H2 x2 r2=>?_;obtain ⟨p,o,kvs,rfl,hp,hk,hr⟩:=wF x2.s3 r2;have ew:=zC r1 ek;subst ew;exact ⟨p,_,rfl,.inl ⟨kvs,_,.inr ⟨o,hp⟩,rfl,rfl⟩,q _ _ _ (x1.trans x2) (rep_at.mpr (by rw [<- hk,vX hr]))⟩
  ·cases e3
def Xt:M:=λ_=>some (.dk [] [])
instance:qL Um Xt where
 h:=λe _ _ _ _ _ rs _ q=>by
  cases e;exact λp hp=>q p _ _ (.newO rs.sub hp) hp (rs.sub.free hp) ⟨[],y0,rfl,.nil⟩
def wE (k:z7)(y:PV):List z7->List PV->List PV
 |n::ns,x::xs=>if n=k then y::wE k y ns xs else x::wE k y ns xs
 |_,xs=>xs
def vw (k:z7)(y:PV)(ks:List z7)(xs:List PV):PV:=if (i0 k ks xs).isSome=true then .dk ks (wE k y ks xs) else .dk (ks++[k]) (xs++[y])
theorem Yr {H:Hp}{k:z7}{y:PV}{v:V}(ry:Rep H y v):∀{kvs:List (z7×V)}{xs:List PV},Reps H xs (kvs.map (·.2))->Reps H (wE k y (kvs.map (·.1)) xs) ((kvs.map (λkv=>if kv.1=k then (kv.1,v) else kv)).map (·.2))/\(kvs.map (λkv=>if kv.1=k then (kv.1,v) else kv)).map (·.1)=kvs.map (·.1)
 |[],xs,r=>by
  have hx:xs=[]:=uB.mp r.length.symm;subst hx;exact ⟨.nil,rfl⟩
 |p::kvs,xs,r=>by
  cases xs with
  |nil=>have:=r.length;simp at this
  |cons x xs =>
   obtain ⟨u,w,e,p1,p2⟩:=reps_cons.mp r;rw [yN] at e;injection e with e1 e2;subst e1 e2;obtain ⟨h1,h2⟩:=Yr (k:=k) ry p2;rw [yN,yN,yN,yN];unfold wE;by_cases hk:p.1=k
   ·rw [if_pos hk,if_pos hk];exact ⟨.cons ry h1,by rw [h2]⟩
   ·rw [if_neg hk,if_neg hk];exact ⟨.cons p1 h1,by rw [h2]⟩
def dPut (i:Nat)(kk vv:M):MS:=λε=>(vv ε).bind λy=>(kk ε).bind λx=>(qG x).bind λk=>match ε[i]? with
 |some (.ow (.dk ks xs))=>if ks.length<=lim then some (.nx (ε.set i (.ow (vw k y ks xs)))) else none
 |_=>none
instance {i:Nat}{kk vv:M}[sk:SemE ty kk][sv:SemE tv vv]:n9 fr (YW (c6 i) ty tv) (dPut i kk vv) where
 h:=λe _ _ _ _ _ rs _ q=>by
  obtain ⟨y,ey,e1⟩:=bind_some e;obtain ⟨x,ex,e2⟩:=bind_some e1;obtain ⟨k,ek,e3⟩:=bind_some e2;split at e3
  ·rename_i ks xs hi;split at e3
   ·rename_i hl;cases e3;refine sv.h ey rs λv Hs1 H1 x1 r1=>?_;obtain ⟨p,hp,n0,n,t⟩:=(rs.go x1).ow i _ hi;refine ⟨_,hp,sk.h ex (rs.go x1) λw Hs2 H2 x2 r2=>?_⟩;obtain ⟨p',hp',_,n2,kvs,hv,hk,hr⟩:=((rs.go x1).go x2).ow i _ hi;rw [hp] at hp';injection hp' with hp';injection hp' with hp';injection hp' with hp';subst hp';have ew:=zC (.inl r2:RepB Hs2 H2 x w) ek;subst ew;have hlen:kvs.length<=lim:=by rw [<- hk,yZ] at hl;exact hl
    refine ⟨p,_,rfl,DPut.k hv (XJ hlen),q _ _ _ (((rs.go x1).go x2).change hi hp ?_)⟩;have hs:=vX (k:=k) hr;unfold vw xt;rw [Ju,<- hs,hk];by_cases hc:(i0 k ks xs).isSome=true
    ·rw [if_pos hc,if_pos hc];obtain ⟨q1,q2⟩:=Yr (k:=k) (r1.mono x2.s1) hr;exact ⟨_,y0,by rw [q2,hk],by rw [<- hk];exact q1⟩
    ·rw [if_neg hc,if_neg hc];exact ⟨_,y0,by rw [yy,hk];rfl,by rw [yy];exact hr.append (.one (r1.mono x2.s1))⟩
   ·cases e3
  ·cases e3
def rLeS:R2:=λx y H Q=>∃ i j,x = .str i/\y = .str j/\Q (.bl (!decide (j.cps.toList<i.cps.toList))) H
theorem Yb :OpR X (compareOp .LtE) rLeS:=Cr
def pLeS:PV->PV->Option PV
 | .at (.str i),.at (.str j)=>some (.at (.bl (!decide (j.cps.toList<i.cps.toList))))
 |_,_=>none
instance:qM rLeS pLeS where
 h:=λ{x y z} e {Hs H v w} s a b {Q} q=>by
  unfold pLeS at e;split at e
  ·cases e;cases y9 a;cases y9 b;exact ⟨_,_,rfl,rfl,q _ _ _ (.refl s) (rep_at.mpr rfl)⟩
  ·cases e
def zM (z:Str):List PV:=z.cps.toList.map λc=> .at (.str ⟨#[c]⟩)
def vK (a:M):MA:=λε=>(a ε).bind λx=>match x with
 | .at (.str z)=>some (zM z)
 |_=>none
theorem Bl {z:Str}:zS (ItS z) (zM z) Hs where
 go:=λi x Hs1 H1 e g1 g2=>by
  unfold zM at e;rw [yR] at e;obtain ⟨c,hc,rfl⟩:=yG.mp e;rw [Array.getElem?_toList] at hc;have hl:i<z.cps.size:=(Array.getElem?_eq_some_iff.mp hc).1;refine ⟨hl,λv H2 y=>?_⟩;obtain ⟨rfl,c',hc',rfl⟩:=y;rw [hc] at hc';cases hc';exact ⟨Hs1,.refl g2,rep_at.mpr rfl⟩
 stop:=λHs1 H1 g1 g2=>by
  show (zM z).length=z.cps.size;unfold zM;rw [yZ,Array.length_toList]
instance {a:M}[sa:SemE te a]:zo (iStr te) (vK a) where
 h:=λe _ _ _ _ _ rs _ q=>by
  obtain ⟨x,ex,e1⟩:=bind_some e;split at e1
  ·cases e1;exact sa.h ex rs λv Hs1 H1 x1 r1=>⟨_,rep_at.mp r1,q _ _ _ x1 Bl⟩
  ·cases e1
theorem Yq {f:Str}{v:V}:∀{fs:List (Str×V)},f∉fs.map (·.1)->qu f v fs=fs++[(f,v)]
 |[],_=>rfl
 |(g,x)::r,h=>by
  rw [yN] at h;unfold qu;rw [if_neg (show ¬ g=f from λz=>h (by rw [<- z];exact yH)),Yq λz=>h (yK _ z)];rfl
def UL (C:Addr)(f:Str)(a:W):WS:=λε N _=>a ε λy ε1=>∃ ns xs,ε1[0]?=some (.ow (.ob C ns xs))/\f∉ns/\ns.length<1000/\N (ε1.set 0 (.ow (.ob C (ns++[f]) (xs++[y]))))
instance [c:xx K C][n:NoA K C f][sa:SemW te a]:SemWS (wI K (c6 0) te f) (UL C f a) where
 h:=λh _ _ _ _ _ _ rd _ k _=>sa.h h rd λy ε1 v Hs1 H1 h1 rd1 g1 r1=>by
  obtain ⟨ns,xs,he,hf,hl,h2⟩:=h1;obtain ⟨p,hp,h0,hs,dx,fs,hH,hk,hr⟩:=rd1.ow 0 _ he;have hf':f∉fs.map (·.1):=by rw [hk];exact hf
  have hl':fs.length<1000:=by rw [<- yZ (f:=(·.1)),hk];exact hl
  refine ⟨_,hp,p,C,dx,fs,rfl,hH,c.c,n.n,hl',?_⟩;rw [Yq hf'];exact k _ _ _ _ h2 (rd1.change he hp ⟨dx,_,y0,by rw [yy,hk];rfl,by rw [yy];exact hr.append (.one r1)⟩) g1
def jL (C:Addr)(nm:Str)(m:List PV->Option PV)(i:Nat)(as:MA):M:=λε=>match ε[i]? with
 |some (.ow (.ob C' ns fs))=>if C'=C/\nm∉ns then (as ε).bind λxs=>(m (.ob C ns fs::xs)).bind λy=>match y with
  | .at u=>some (.at u)
  |_=>none else none
 |_=>none
instance {i:Nat}[sa:qw ta as]:SemE (jy C nm (j5 m) [] E (c6 i) ta) (jL C nm m i as) where
 h:=λ{ε y} e {Hs0 H0 Hs H σ} rs {Q} q=>by
  unfold jL at e;split at e
  ·rename_i C' ns fs hi;split at e
   ·rename_i hc;obtain ⟨rfl,hn⟩:=hc;obtain ⟨xs,ex,e1⟩:=bind_some e;obtain ⟨z,ez,e2⟩:=bind_some e1;split at e2
    ·rename_i u;cases e2;obtain ⟨p,hp,n0,n,dx,gs,hH,hk,hr⟩:=rs.ow i _ hi;refine ⟨_,hp,p,dx,gs,rfl,hH,XM (by rw [hk];exact hn),sa.h ex rs λvs Hs1 H1 x1 r1=>?_⟩;have hH1:=x1.s2 _ _ hH;have n1:Hs1 p=none:=x1.s4 p (by rw [hH];exact λz=>nomatch z) n;have g:Same Hs1 (j0 Hs1 p (.ins C' dx gs)):=λb w e=>by rw [j3 (u7 e n1)];exact e
     refine ⟨j0 Hs1 p (.ins C' dx gs),_,_,?_,?_,ez,λv Hs' H' x r=>?_⟩
     ·intro b w e;by_cases hb:b=p
      ·subst hb;rw [y0] at e;cases e;exact hH1
      ·rw [j3 hb] at e;exact x1.s3 _ _ e
     ·rw [yr];exact .cons (rep_ob.mpr ⟨p,dx,gs,rfl,y0,hk,(hr.mono x1.s1).mono g⟩) (r1.mono g)
     ·cases rep_at.mp r;refine q _ (λb=>if b=p then none else Hs' b) H' (x1.trans ⟨λb w e=>?_,x.s2,λb w e=>?_,λb hb w=>?_⟩) (rep_at.mpr rfl)
      ·rw [if_neg (u7 e n1)];exact x.s1 _ _ (g _ _ e)
      ·split at e
       ·cases e
       ·exact x.s3 _ _ e
      ·by_cases hbp:b=p
       ·rw [if_pos hbp]
       ·rw [if_neg hbp];exact x.s4 b hb (by rw [j3 hbp];exact w)
    ·cases e2
   ·cases e
  ·cases e
def spI (C:Addr)(m:List PV->Option PV):Sp:=λvs H Q _=>∃ Hs x dx xs ws y,vs = .ref x::ws/\Same Hs H/\H x=some (.ins C dx [])/\Hs x=none/\Reps Hs xs ws/\m xs=some y /\
 ∀ Hs' H',Same Hs Hs'->(∀ b o,H b=some o->b≠x->H' b=some o)->Same Hs' H'->(∀ b,H b≠none->b≠x->Hs b=none->Hs' b=none)->Rep Hs' y (.ref x)->Q .non H'
instance {ds:List V}[sa:qw ta as]:SemE (wN C (spI C m) ds E ta) (Xp m ds as) where
 h:=λe _ _ _ _ _ rs _ q=>by
  obtain ⟨xs,ex,e1⟩:=bind_some e;refine sa.h ex rs λvs Hs1 H1 x1 r1=>λx dx hx hdx hne=>?_;have s3:Same Hs1 (j0 (j0 H1 dx (.own x)) x (.ins C dx [])):=λb o e=>by
   have e':=x1.s3 _ _ e;rw [j3 (u7 e' hx),j3 (u7 e' hdx)];exact e'
  refine ⟨Hs1,x,dx,_,_,_,rfl,s3,y0,x1.s3.free hx,r1.append (.ofAts ds),e1,λHs' H' g1 g2 g3 g4 r=>⟨rfl,q _ _ _ (x1.trans ⟨g1,λb o e=>?_,g3,λb hb z=>?_⟩) r⟩⟩
  ·refine g2 b o ?_ (u7 e hx);rw [j3 (u7 e hx),j3 (u7 e hdx)];exact e
  ·have hbx:b≠x:=λw=>hb (by rw [w];exact hx);have hbd:b≠dx:=λw=>hb (by rw [w];exact hdx);exact g4 b (by rw [j3 hbx,j3 hbd];exact hb) hbx z
section
variable {P:Program}{w:World}{K:Fg}{mg:Str->Option Value}{base:Heap}
theorem Ds {a:Addr}(s:Same Hs H)(ha:Hs a=none)(t:Top Hs H a y)(r:Reps Hs xs ws):RD [a] Hs H Hs H (L2.start N (.ref a::ws)) (.ow y::xs.map .sh++List.replicate (N.length-(xs.length+1)) .no):=by
 have q:=wH (N:=N) (xs:= .at (.ref a)::xs) s (.cons (rep_at.mpr rfl) r);have tl:∀(i:Nat)(sl:MSlot),(MSlot.ow y::xs.map .sh++List.replicate (N.length-(xs.length+1)) .no)[i+1]?=some sl->((PV.at (.ref a)::xs).map MSlot.sh++List.replicate (N.length-(PV.at (.ref a)::xs).length) .no)[i+1]?=some sl:=λi sl h=>h;refine ⟨.refl _,λb o e _=>e,s,λ_ _ z=>z,λi x h=>?_,λi x h=>?_,λi j x y b h1 h2 _ _=>?_,?_,λb hb=>?_,λb hb=>?_,(λb hb=>⟨_,rfl⟩),λi x h=>by
  cases i with
  |zero=>simp at h
  |succ i=>exact Zk (xs:=PV.at (.ref a)::xs) (tl i _ h)⟩
 ·cases i with
  |zero=>simp at h
  |succ i=>exact q.sh (i+1) x (tl i _ h)
 ·cases i with
  |zero=>simp at h;subst h;exact ⟨a,by unfold L2.start;rfl,.inr (yO.mpr rfl),ha,t⟩
  |succ i=>exact absurd (tl i _ h) (jv (xs:=PV.at (.ref a)::xs))
 ·cases i with
  |zero =>
   cases j with
   |zero=>rfl
   |succ j=>exact absurd (tl j _ h2) (jv (xs:=PV.at (.ref a)::xs))
  |succ i=>exact absurd (tl i _ h1) (jv (xs:=PV.at (.ref a)::xs))
 ·exact q.len
 ·rw [yO.mp hb];unfold L2.start;rfl
 ·rw [yO.mp hb];exact t.there
end
variable {fr:Bool}
structure ItOkB (J:It)(xs:List PV)(Hs H:Hp):Prop where
 go:∀(i:Nat)(x:PV)(Hs1 H1:Hp),xs[i]?=some x->Same Hs Hs1->Same H H1->Same Hs1 H1->J.go i H1/\∀ v H2,J.yld i H1 v H2->∃ Hs2,Ext Hs1 H1 Hs2 H2/\Rep Hs2 x v
 stop:∀(Hs1 H1:Hp),Same Hs Hs1->Same H H1->Same Hs1 H1->J.stop xs.length H1
class JG (ti:TI)(f:MA):Prop where
 h:∀{ε xs},f ε=some xs->∀{Hs0 H0 Hs H σ},RS Hs0 H0 Hs H σ ε->∀{R:It->Hp->Prop},(∀ J Hs' H',Ext Hs H Hs' H'->ItOkB J xs Hs' H'->R J H')->ti σ H R
instance {a:M}[sa:p8 te a]:JG (vU K te) (g0 a) where
 h:=λe _ _ _ _ _ rs _ q=>by
  obtain ⟨x,ex,e1⟩:=bind_some e;split at e1
  ·cases e1;refine sa.h ex rs λv Hs1 H1 x1 r1=>?_;obtain ⟨p,vs,rfl,hp,r⟩:=i5 x1.s3 r1;refine ⟨p,rfl,⟨vs,SqL.of hp⟩,q _ _ _ x1 ⟨λi x Hs2 H2 ei g1 g2 g3=>?_,λHs2 H2 g1 g2 g3=>⟨vs,SqL.of (g2 _ _ hp),by rw [r.length];exact yU _⟩⟩⟩;obtain ⟨v,ev,rv⟩:=r.get ei;refine ⟨⟨vs,v,SqL.of (g2 _ _ hp),ev⟩,λw H3 y=>?_⟩;obtain ⟨rfl,y⟩:=y;have z:=y vs (SqL.of (g2 _ _ hp));rw [ev] at z;cases z;exact ⟨Hs2,.refl g3,rv.mono g1⟩
  ·cases e1
def Xq (cap:List (Option Nat))(ts:List Nat)(i:MA)(g:MG)(c:MB)(f:M):M:=λε=>(i ε).bind λxs=>if xM cap ts=true/\xs.length<=lim then (i8 g c f (m3 cap ε) xs).bind λys=>some (.lst ys) else none
instance {cap:List (Option Nat)}{i:MA}{f:M}[si:JG wi i][sg:zU tg ts g][sc:qx tt c][sf:SemE te f]:qL (wM wi tg tt te cap) (Xq cap ts i g c f) where
 h:=λe Hs0 H0 Hs H σ rs Q q=>by
  obtain ⟨xs,ex,e1⟩:=bind_some e;split at e1
  ·rename_i hcl;obtain ⟨hcap,hl⟩:=hcl;unfold xM at hcap;rw [uU] at hcap;obtain ⟨ys,ey,e2⟩:=bind_some e1;cases e2;refine si.h ex rs λJ Hs1 H1 x1 ok=>?_;have rc:=((rs.go x1).cap (uR hcap.1)).rebase;have wk:∀ i∈ts,(g9 cap σ)[i]?=some none:=λi hi=>by
    unfold g9;rw [yR,uR (uT.mp hcap.2 i hi)];rfl
   refine ⟨λk m zs H=>m=xs.length-k/\k<=xs.length/\∃ Hs2 ws,Ext Hs1 H1 Hs2 H/\RS Hs1 H0 Hs2 H (g9 cap σ) (m3 cap _)/\Reps Hs2 ws zs/\ws.length<=k/\∃ rest,i8 g c f (m3 cap _) (xs.drop k)=some rest/\ys=ws++rest,
    ⟨xs.length,by simp,yk _,Hs1,[],.refl x1.s3,rc,.nil,yU _,ys,ey,rfl⟩,?_⟩
   rintro k m zs H2 ⟨rfl,hk,Hs2,ws,x2,r2,rz,hw,rest,er,eys⟩;refine ⟨qr (by rw [rz.length];omega),?_⟩;by_cases hlt:k<xs.length
   ·have hd:xs.drop k=xs[k]::xs.drop (k+1):=ya hlt;rw [hd] at er;unfold i8 at er;obtain ⟨ε1,eg,er1⟩:=bind_some er;obtain ⟨b,eb,er2⟩:=bind_some er1;obtain ⟨go,yl⟩:=ok.go k xs[k] Hs2 H2 (by simp [hlt]) x2.s1 x2.s2 x2.s3;refine .inr ⟨go,λv H3 y=>?_⟩;obtain ⟨Hs3,x3,r3⟩:=yl v H3 y;refine sg.h eg (r2.go x3) r3 λσ2 rs2 bt=>⟨bt.wk wk,sc.h eb rs2 λHs4 H4 x4=>?_⟩;cases b with
    |true =>
     rw [if_pos rfl] at er2;obtain ⟨z,ez,er3⟩:=bind_some er2;obtain ⟨rest',er4,er5⟩:=bind_some er3;cases er5;refine xo (sf.h ez (rs2.go x4) λu Hs5 H5 x5 r5=>⟨xs.length-(k+1),by omega,rfl,hlt,Hs5,ws++[z],x2.trans (x3.trans (x4.trans x5)),((r2.go x3).go x4).go x5,?_,?_,rest',er4,?_⟩)
     ·exact (rz.mono (x3.s1.trans (x4.s1.trans x5.s1))).snoc r5
     ·rw [yM];simp;omega
     ·rw [uQ];exact eys
    |false=>rw [if_neg yS] at er2;exact xn ⟨xs.length-(k+1),by omega,rfl,hlt,Hs4,ws,x2.trans (x3.trans x4),(r2.go x3).go x4,rz.mono (x3.s1.trans x4.s1),by omega,rest,er2,eys⟩
   ·have ek:k=xs.length:=by omega
    subst ek;rw [uq] at er;unfold i8 at er;cases er;refine .inl ⟨ok.stop Hs2 H2 x2.s1 x2.s2 x2.s3,λD hD=>?_⟩;rw [yr] at eys;subst eys;have x12:=x1.trans x2;exact q D Hs2 _ (x12.trans (.newO x2.s3 hD)) (x12.s2.free hD) (x2.s3.free hD) ⟨zs,y0,rz⟩
  ·cases e1
def dSlS (a:M)(l u:ME->Option (Option Int)):M:=λε=>(a ε).bind λx=>(l ε).bind λlo=>(u ε).bind λhi=>match x,lo,hi with
 | .at (.str z),none,some j=>if z.length<=lim then some (.at (.str (Txt.slice z none (some j)))) else none
 | .at (.str z),some i,none=>if z.length<=lim then some (.at (.str (Txt.slice z (some i) none))) else none
 |_,_,_=>none
instance {tl th:TO}{a:M}{l u:ME->Option (Option Int)}[sa:p8 te a][sl:SemP tl l][su:SemP th u]:SemE (tSlS te tl th) (dSlS a l u) where
 h:=λe _ _ _ _ _ rs _ q=>by
  obtain ⟨x,ex,e1⟩:=bind_some e;obtain ⟨lo,el,e2⟩:=bind_some e1;obtain ⟨hi,eu,e3⟩:=bind_some e2;refine sa.h ex rs λv Hs1 H1 x1 r1=>sl.h el (rs.go x1) λHs2 H2 x2=>su.h eu ((rs.go x1).go x2) λHs3 H3 x3=>?_;split at e3
  ·split at e3
   ·rename_i hz;cases e3;exact ⟨_,y9 r1,qr hz,.inl ⟨rfl,_,rfl⟩,q _ _ _ (x1.trans (x2.trans x3)) (rep_at.mpr rfl)⟩
   ·cases e3
  ·split at e3
   ·rename_i hz;cases e3;exact ⟨_,y9 r1,qr hz,.inr ⟨rfl,_,rfl⟩,q _ _ _ (x1.trans (x2.trans x3)) (rep_at.mpr rfl)⟩
   ·cases e3
  ·cases e3
section
variable {ε:ME}{c d:MB}{f:M}{a b:WS}{N:ME->Prop}{R:PV->ME->Prop}
theorem Xa (h:c ε=some false)(k:b ε N R):xf (wPT c) a b ε N R:=by
 refine ⟨false,h,?_⟩;show if false=true then a ε N R else b ε N R
 rw [if_neg yS];exact k
theorem JD (h:c ε=some true)(k:a ε N R):xf (wPT c) a b ε N R:=by
 refine ⟨true,h,?_⟩;show if true=true then a ε N R else b ε N R
 rw [if_pos rfl];exact k
theorem xl (h1:c ε=some false)(h2:d ε=some false):dOr c d ε=some false:=by unfold dOr;rw [h1];show (if false=true then some true else d ε)=_;rw [if_neg yS];exact h2
theorem VZ {v:Bool}(h1:c ε=some true)(h2:d ε=some v):vH c d ε=some v:=by unfold vH;rw [h1];show (if true=true then d ε else some false)=_;rw [if_pos rfl];exact h2
theorem i9 (h:c ε=some true):c7 c ε=some false:=by unfold c7;rw [h];rfl
theorem qg {v:Bool}(h:f ε=some (.at (.bl v))):n5 f ε=some v:=by unfold n5;rw [h];rfl
theorem p0 {v:Bool}(h:f ε=some (.at (.bl v))):dT f ε=some v:=by unfold dT;rw [h];rfl
theorem jQ :c8 [.lst xs,.at (.ty "list")]=some (.at (.bl true)):=by unfold c8 tyP;simp only [yE,MT]
end
variable {fr:Bool}
theorem VX {g:MG}{f:M}{ε0:ME}{α:Type}(F G:α->PV):∀(l:List α),(∀ a∈l,∃ ε1,g (F a) ε0=some ε1/\f ε1=some (G a))->i8 g u6 f ε0 (l.map F)=some (l.map G)
 |[],_=>rfl
 |a::l,h=>by
  obtain ⟨ε1,e1,e2⟩:=h a yH;have ih:=VX F G l λb hb=>h b (yK _ hb);show Option.bind (g (F a) ε0) (λε1=>Option.bind (u6 ε1) λb=>if b=true then (f ε1).bind λy=>(i8 g u6 f ε0 (l.map F)).bind λys=>some (y::ys) else i8 g u6 f ε0 (l.map F))=_;rw [e1,ih];show (if true=true then (f ε1).bind λy=>some (y::l.map G) else some (l.map G))=_;rw [if_pos rfl,e2];rfl
theorem Xn {g:MG}{c:MB}{f:M}{ε0:ME}{α:Type}(F G:α->PV)(p:α->Bool):∀(l:List α),(∀ a∈l,∃ ε1,g (F a) ε0=some ε1/\c ε1=some (p a)/\(p a=true->f ε1=some (G a)))->i8 g c f ε0 (l.map F)=some ((l.filter p).map G)
 |[],_=>rfl
 |a::l,h=>by
  obtain ⟨ε1,e1,e2,e3⟩:=h a yH;have ih:=Xn F G p l λb hb=>h b (yK _ hb);show Option.bind (g (F a) ε0) (λε1=>Option.bind (c ε1) λb=>if b=true then (f ε1).bind λy=>(i8 g c f ε0 (l.map F)).bind λys=>some (y::ys) else i8 g c f ε0 (l.map F))=_;rw [e1,ih];show Option.bind (c ε1) (λb=>if b=true then (f ε1).bind λy=>some (y::(l.filter p).map G) else some ((l.filter p).map G))=_;rw [e2,yE,List.filter_cons];cases hp:p a with
  |true=>rw [if_pos rfl,if_pos rfl,e3 hp];rfl
  |false=>rw [if_neg yS,if_neg yS]
theorem f9 {cap:List (Option Nat)}{it:MA}{f:M}(F G:α->PV)(l:List α)(h:it ε=some (l.map F))(hc:xM cap ts=true)(hl:l.length<=lim)(k:∀ a∈l,∃ ε1,g (F a) (m3 cap ε)=some ε1/\f ε1=some (G a)):u8 cap ts it g u6 f ε=some (.lst (l.map G)):=Xv h hc (by rw [yZ];exact hl) (VX F G l k)
theorem ev_cf {cap:List (Option Nat)}{it:MA}{f:M}(F G:α->PV)(p:α->Bool)(l:List α)(h:it ε=some (l.map F))(hc:xM cap ts=true)(hl:l.length<=lim)(k:∀ a∈l,∃ ε1,g (F a) (m3 cap ε)=some ε1/\c ε1=some (p a)/\(p a=true->f ε1=some (G a))):u8 cap ts it g c f ε=some (.lst ((l.filter p).map G)):=Xv h hc (by rw [yZ];exact hl) (Xn F G p l k)
theorem jm {g:MG}{f:MS}{α:Type}(F:α->PV)(I:List α->ME->Prop)(h:∀ a l ε,I (a::l) ε->∃ ε1 ε2,g (F a) ε=some ε1/\f ε1=some (.nx ε2)/\I l ε2):∀(l:List α)(ε:ME),I l ε->∃ ε',xz g f (l.map F) ε=some (.nx ε')/\I [] ε'
 |[],ε,i=>⟨ε,rfl,i⟩
 |a::l,ε,i=>by
  obtain ⟨ε1,ε2,e1,e2,i2⟩:=h a l ε i;obtain ⟨ε',e3,i3⟩:=jm F I h l ε2 i2;refine ⟨ε',?_,i3⟩;show Option.bind (g (F a) ε) (λε1=>Option.bind (f ε1) λo=>match o with
   | .nx ε2=>xz g f (l.map F) ε2
   | .ct ε2=>xz g f (l.map F) ε2
   | .bk ε2=>some (.nx ε2)
   | .rt y=>some (.rt y))=_
  rw [e1,yE,e2];exact e3
section
variable {ε:ME}{a b:M}{v w:Bool}
theorem zw (h1:a ε=some (.at (.bl true)))(h2:b ε=some (.at (.bl w))):xi a b ε=some (.at (.bl w)):=by unfold xi;rw [h1];exact h2
theorem Kr (h1:a ε=some (.at (.bl v))):Qd a ε=some (.at (.bl (!v))):=by unfold Qd;rw [h1];rfl
theorem Wm (h:c ε=some true)(k:a ε=some x):dIf c a b ε=some x:=by unfold dIf;rw [h];exact k
theorem Xw (h:c ε=some false)(k:b ε=some x):dIf c a b ε=some x:=by unfold dIf;rw [h];exact k
theorem Qh {g g':PV->PV->Option PV}{c:M}{z:PV}{r:Bool}(h1:a ε=some x)(h2:b ε=some y)(h3:g x y=some (.at (.bl true)))(h4:c ε=some z)(h5:g' y z=some (.at (.bl r))):zt g g' a b c ε=some (.at (.bl r)):=by unfold zt;rw [h1,yE,h2,yE,h3];show Option.bind (c ε) _=_;rw [h4];exact h5
theorem jN (h:a ε=some x):xO a ε=some (.nx ε):=by unfold xO;rw [h];rfl
theorem Kk (h:a ε=some x)(k:G x ε=some ε'):dAsg G a ε=some (.nx ε'):=by unfold dAsg;rw [h,yE,k];rfl
theorem o4:m4 ε=some (.nx ε):=rfl
theorem vP (h:a ε=some (.lst xs)):g0 a ε=some xs:=by unfold g0;rw [h];rfl
theorem jc (h:a ε=some (.ob C ns xs))(k:jS f ns xs=some y):xj C f a ε=some y:=by unfold xj;rw [h,yE];show (if C=C then _ else _)=_;rw [if_pos rfl];exact k
theorem zy {fs:List PV}{y:Option PV}(h:a ε=some (.ob C ns fs))(hn:nm∉ns)(k:as ε=some xs)(e:m (.ob C ns fs::xs)=y):qC C nm m a as ε=y:=by unfold qC;rw [h,yE];show (if C=C/\nm∉ns then _ else _)=_;rw [if_pos ⟨rfl,hn⟩,k];exact e
theorem jO {n k:Nat}{bd:MS}(hl:xs.length=k)(h:bd (xs.map .sh++List.replicate (n-k) .no)=some (.nx ε')):u9 n k bd xs=some (.at .non):=by unfold u9;rw [if_pos hl,h];rfl
theorem Bd :c8 [.at (.int n),.at (.ty "int")]=some (.at (.bl true)):=by unfold c8 tyP;simp only [yE,MR]
theorem Be :c8 [.at (.int n),.at (.ty "bool")]=some (.at (.bl false)):=by unfold c8 tyP;simp only [yE,MQ]
theorem XC {n:Str}:c8 [.at (.str n),.at (.ty "str")]=some (.at (.bl true)):=by unfold c8 tyP;simp only [yE,MV]
theorem Bg {n:List PV}:c8 [.tup n,.at (.ty "tuple")]=some (.at (.bl true)):=by unfold c8 tyP;simp only [yE,MW]
theorem VH:∀ bs:List Bool,bls (bs.map λb=> .at (.bl b))=some bs
 |[]=>rfl
 |b::bs=>by
  have ih:=VH bs;rw [yN];unfold bls;rw [ih];rfl
theorem Wv:∀ bs:List Int,zB (bs.map λb=> .at (.int b))=some bs
 |[]=>rfl
 |b::bs=>by
  have ih:=Wv bs;rw [yN];unfold zB;rw [ih];rfl
theorem UU (bs:List Bool):qX [.lst (bs.map λb=> .at (.bl b))]=some (.at (.bl (bs.all id))):=by show (bls _).bind _=_;rw [VH];rfl
theorem zX (l:List α):qX [.lst (l.map λ_=> .at (.bl true))]=some (.at (.bl true)):=by
 have e:(l.map λ_=>PV.at (.bl true))=((l.map λ_=>true).map λb=>PV.at (.bl b)):=by rw [yq];rfl
 rw [e,UU];have:(l.map λ_=>true).all id=true:=by simp
 rw [this]
end
def vd:List Int->Int
 |[]=>0
 |x::l=>l.foldl (λb y=>if y<b then y else b) x
theorem XS (l:List Int):∀ b:Int,l.foldl (λb y=>if y<b then y else b) b<=b/\(∀ y∈l,l.foldl (λb y=>if y<b then y else b) b<=y)/\(l.foldl (λb y=>if y<b then y else b) b=b∨l.foldl (λb y=>if y<b then y else b) b∈l):=by
 induction l with
 |nil=>intro b;exact ⟨uF _,(λ_ z=>nomatch z),.inl rfl⟩
 |cons x l ih =>
  intro b;rw [List.foldl_cons];obtain ⟨h1,h2,h3⟩:=ih (if x<b then x else b);have hx:(if x<b then x else b)<=b/\(if x<b then x else b)<=x:=by split<;>omega
  refine ⟨by omega,λy hy=>?_,?_⟩
  ·rcases yL.mp hy with rfl|hy
   ·omega
   ·exact h2 y hy
  ·rcases h3 with h3|h3
   ·rw [h3];by_cases hc:x<b
    ·rw [if_pos hc];exact .inr yH
    ·rw [if_neg hc];exact .inl rfl
   ·exact .inr (yK _ h3)
theorem WV (h:l≠[]):vd l∈l:=by
 cases l with
 |nil=>exact absurd rfl h
 |cons x l =>
  rcases (XS l x).2.2 with e|e
  ·show l.foldl _ x∈_;rw [e];exact yH
  ·exact yK _ e
theorem BQ {y:Int}(h:y∈l):vd l<=y:=by
 cases l with
 |nil=>cases h
 |cons x l =>
  rcases yL.mp h with rfl|h
  ·exact (XS l y).1
  ·exact (XS l x).2.1 y h
def qP (l:List Int):Int:=-vd (l.map λx=>-x)
theorem jn (h:l≠[]):qP l∈l:=by have:=WV (l:=l.map λx=>-x) (by cases l with|nil=>exact absurd rfl h|cons x l=>simp);obtain ⟨x,hx,e⟩:=yt.mp this;unfold qP;rw [<- e,Int.neg_neg];exact hx
theorem vc {y:Int}(h:y∈l):y<=qP l:=by have:=BQ (l:=l.map λx=>-x) (y:=-y) (yt.mpr ⟨y,h,rfl⟩);unfold qP;omega
def pMinL:List PV->Option PV
 |[.lst xs]=>(zB xs).bind λns=>if ns=[] then none else some (.at (.int (vd ns)))
 |_=>none
def leS (a b:Str):Bool:=!decide (b.cps.toList<a.cps.toList)
def qE (ss:List Str):List Str:=ss.mergeSort leS
theorem wK (ss:List Str):(qE ss).Perm ss:=List.mergeSort_perm ss leS
theorem Uc (ss:List Str):vE (qE ss):=by
 have:=List.pairwise_mergeSort (le:=leS) (λa b c h1 h2=>by
  unfold leS at h1 h2 ⊢;simp only [Bool.not_eq_true',decide_eq_false_iff_not] at h1 h2 ⊢;exact List.not_lt.mpr (List.le_trans (List.not_lt.mp h1) (List.not_lt.mp h2))) (λa b=>by
  unfold leS;by_cases h:b.cps.toList<a.cps.toList
  ·have h2:¬ (a.cps.toList<b.cps.toList):=λk=>List.lt_irrefl _ (List.lt_trans h k);simp [h2]
  ·simp [h]) ss
 exact this.imp λh=>by unfold leS at h;simpa using h
theorem wJ {ss ss':List Str}(p:ss'.Perm ss)(u:vE ss'):ss'=qE ss :=
 List.Perm.eq_of_pairwise (λa b _ _ h1 h2=>by
  have e:=List.le_antisymm (List.not_lt.mp h1) (List.not_lt.mp h2);cases a;cases b;simp only [Str.mk.injEq];exact Array.toList_inj.mp e) u (Uc ss) (p.trans (wK ss).symm)
def zm:List PV->Option (List Str)
 |[]=>some []
 | .at (.str s)::xs=>(zm xs).map (s::·)
 |_::_=>none
theorem Jl:∀{xs:List PV}{ss:List Str},zm xs=some ss->xs=ss.map λs=> .at (.str s)
 |[],_,h=>by cases h;rfl
 |x::xs,ss,h=>by
  unfold zm at h;split at h
  ·rename_i e;cases e
  ·rename_i s' xs' e;injection e with e1 e2;subst e1 e2;obtain ⟨r,hr,rfl⟩:=yG.mp h;rw [Jl hr];rfl
  ·cases h
def xQ:List z7->Option (List Str)
 |[]=>some []
 | .inr s::xs=>(xQ xs).map (s::·)
 |_::_=>none
theorem Qn:∀{xs:List z7}{ss:List Str},xQ xs=some ss->xs=ss.map Sum.inr
 |[],_,h=>by cases h;rfl
 |x::xs,ss,h=>by
  unfold xQ at h;split at h
  ·rename_i e;cases e
  ·rename_i s' xs' e;injection e with e1 e2;subst e1 e2;obtain ⟨r,hr,rfl⟩:=yG.mp h;rw [Qn hr];rfl
  ·cases h
def QK:List PV->Option PV
 |[.lst xs]=>(zm xs).bind λss=>if ss.length<64 then some (.lst ((qE ss).map λs=> .at (.str s))) else none
 |[.dk ks _]=>(xQ ks).bind λss=>if ss.length<64 then some (.lst ((qE ss).map λs=> .at (.str s))) else none
 |[.fk ks _]=>(xQ ks).bind λss=>if ss.length<64 then some (.lst ((qE ss).map λs=> .at (.str s))) else none
 |_=>none
theorem QS (ss:List Str):Reps H (ss.map λs=> .at (.str s)) (ss.map V.str):=by have:=Reps.ofAts (H:=H) (ss.map V.str);rwa [yq] at this
instance :Xe (YC K) QK where
 h:=λ{xs z} e {Hs H vs} s r {Q} q=>by
  unfold QK at e;split at e
  ·obtain ⟨ss,eb,e1⟩:=bind_some e;split at e1
   ·rename_i hl;cases e1;obtain ⟨v,rfl,a⟩:=xv r;obtain ⟨p,ws,rfl,e1,r1⟩:=i5 s a;rw [Jl eb,show (ss.map λb=>PV.at (.str b))=(ss.map V.str).map .at by rw [yq];rfl] at r1;cases r1.ats;refine ⟨p,ss,rfl,.inl (SqL.of e1),hl,λl ss' hn p1 p2=>?_⟩;rw [wJ p1 p2];exact q l _ _ (.newO s hn) hn (s.free hn) ⟨_,y0,QS _⟩
   ·cases e1
  ·obtain ⟨ss,eb,e1⟩:=bind_some e;split at e1
   ·rename_i hl;cases e1;obtain ⟨v,rfl,a⟩:=xv r;obtain ⟨p,kvs,rfl,hp,hk,hr⟩:=zj s a;refine ⟨p,ss,rfl,.inr ⟨kvs,.inl hp,by rw [hk,Qn eb]⟩,hl,λl ss' hn p1 p2=>?_⟩;rw [wJ p1 p2];exact q l _ _ (.newO s hn) hn (s.free hn) ⟨_,y0,QS _⟩
   ·cases e1
  ·obtain ⟨ss,eb,e1⟩:=bind_some e;split at e1
   ·rename_i hl;cases e1;obtain ⟨v,rfl,a⟩:=xv r;obtain ⟨p,o,kvs,rfl,hp,hk,hr⟩:=wF s a;refine ⟨p,ss,rfl,.inr ⟨kvs,.inr ⟨o,hp⟩,by rw [hk,Qn eb]⟩,hl,λl ss' hn p1 p2=>?_⟩;rw [wJ p1 p2];exact q l _ _ (.newO s hn) hn (s.free hn) ⟨_,y0,QS _⟩
   ·cases e1
  ·cases e
def YB (K:Fg):List V->Hp->VK->Prop:=λxs H Q=>∃(a:Addr)(ss:List Str),xs=[.ref a]/\SqL K H a (ss.map V.str)/\ss.length<=1000 /\
  ∀ l,H l=none->Q (.ref l) (j0 H l (zW (k8 (λi=>(Sum.inr (ss.getD i ⟨#[]⟩):z7)) ss.length).length l))
theorem GI (hc:X.calm=true)(h:X.K=K):CallR X (.type "set") (YB K):=by subst h;exact GJ hc
def XO (ss:List Str):Nat:=(k8 (λi=>(Sum.inr (ss.getD i ⟨#[]⟩):z7)) ss.length).length
def Yx:List V->Hp->VK->Prop:=λxs H Q=>∃(a:Addr)(n:Nat),xs=[.ref a]/\H a=some (zW n a)/\Q (.int n) H
theorem GE :CallR X (.builtin "len") Yx:=GD
def Wa (a:M):M:=λε=>(a ε).bind λx=>match x with
 | .lst xs=>(zm xs).bind λss=>if ss.length<=1000 then some (.at (.int (XO ss))) else none
 |_=>none
instance {a:M}[sa:p8 te a]:SemE (tCB Yx (k5 (tCB (YB K) (k5 te p7)) p7)) (Wa a) where
 h:=λe _ _ _ _ _ rs _ q=>by
  obtain ⟨x,ex,e1⟩:=bind_some e;split at e1
  ·obtain ⟨ss,eb,e2⟩:=bind_some e1;split at e2
   ·rename_i hl;cases e2;refine sa.h ex rs λv Hs1 H1 x1 r1=>?_;obtain ⟨p,ws,rfl,ep,r2⟩:=i5 x1.s3 r1;rw [Jl eb,show (ss.map λb=>PV.at (.str b))=(ss.map V.str).map .at by rw [yq];rfl] at r2;cases r2.ats;refine ⟨p,ss,rfl,SqL.of ep,hl,λl hn=>⟨l,_,rfl,y0,q _ _ _ (x1.trans (.newO x1.s3 hn)) (rep_at.mpr rfl)⟩⟩
   ·cases e2
  ·cases e1
structure Mkr (P:Program)(w:World)(K:Fg)(mg:Str->Option Value)(base:Heap)(k:Nat)(C:Addr)(ps:List Str)(sp:Sp):Prop where
 ex:∃ f fd,FnOk P w K mg base j8 k f fd ps sp/\Mk K C f/\Binds K fd ps []
theorem pe_mk {k j:Nat}{x:Str}{p:Pos}{es:List Expr}{t:TA}(c:Mkr X.prog X.w X.K X.mg X.base k C ps sp)(hr:Room j X.A)(hj:k+1<=j)(hg:Gl X x)(hm:X.mg x=some (.ref C))(ha:PA X (e::es) t)(hdb:(x==("__debug__":Str))=false:=by decide)(he:starEach (e::es) X.env=(false,eval e X.env)::starEach es X.env:=by rfl)(hpl:(backTo pos (starEach es X.env)).any (·.1)=false:=by rfl):PE X (.Call (.Name x p) (e::es) [] pos) (wN C sp [] E0 t):=by obtain ⟨f,fd,F,hm',hb⟩:=c.ex;exact CG hm' F (hr.mono hj) hg hm hb .nil QL ha hdb he hpl
instance (priority:=1100)[sa:qw ta as]:SemE (wN C (spI C m) [] E ta) (x9 m as) where
 h:=λ{ε y} e=>SemE.h (te:=wN C (spI C m) [] E ta) (f:=Xp m [] as) (by
  unfold Xp;unfold x9 at e;simpa using e)
structure FunD (K:Fg)(x qual:Str)(st:Stmt)(f:Addr)(fd:FuncData):Prop where
 ex:∃(oc:Value)(od:Option Addr)(dV kV doc pm:Value)(an:Option Addr)(cdv ct:Value)(osl:Array (Option Value)),
  fd=PySem.W.fnOf x qual (qT st) (f6 st) (j6 st) dV kV doc pm an cdv ct/\K.lookup f=some ⟨oc,od,.func fd,osl⟩/\PySem.W.codeIn K cdv qual=true
 kp:PySem.W.keepIn K (.ref f)=true
section
variable {P:Program}{w:World}{K:Fg}{mg:Str->Option Value}{base:Heap}
theorem FunD.ok {x:Str}{f:Addr}{k:Nat}(F:FunD K x qual st f fd)(S:v9 N ps (j6 st))(len:∀ vs H Q E,sp vs H Q E->vs.length=ps.length)(hbody:∀(cdv:Value)(A:Around)(outer:List Env)(s:Shared)(H:Hp)(vs:List V)(Q:VK)(E:XK),Room k (A.deeper (PyProof.Rows.envOfC qual (j6 st) s.heap.objs.size f cdv))->sp vs H Q E -> ∃ t,PSs (qN j8 P w K mg base N qual (j6 st) f cdv A outer s H E).nox (f6 st) t/\t { nx:=λ_ H'=>Q .non H',rt:=Q } (L2.start N vs) H):FnOk P w K mg base j8 (k+1) f fd ps sp:=by obtain ⟨oc,od,dV,kV,doc,pm,an,cdv,ct,osl,rfl,lk,hcd⟩:=F.ex;refine Wr lk hcd S len λA outer s H vs Q E hr hsp=>?_;obtain ⟨t,h,q⟩:=hbody cdv A outer s H vs Q E hr hsp;exact ⟨t,h.nox,q⟩
theorem KA {x:Str}{f:Addr}{oc:Value}{od an:Option Addr}{osl:Array (Option Value)}{dV kV doc pm cdv ct:Value}(l:K.lookup f=some ⟨oc,od,.func (PySem.W.fnOf x qual (qT st) (f6 st) (j6 st) dV kV doc pm an cdv ct),osl⟩)(c:PySem.W.codeIn K cdv qual=true)(k:PySem.W.keepIn K (.ref f)=true):FunD K x qual st f (PySem.W.fnOf x qual (qT st) (f6 st) (j6 st) dV kV doc pm an cdv ct):=⟨⟨oc,od,dV,kV,doc,pm,an,cdv,ct,osl,rfl,l,c⟩,k⟩
theorem wD {o value:Expr}{ta:TE}{pos':Pos}(hK:X.K=K)(ha:PE X o ta)(hv:PE X value tv)(hs:swapsWith value (some (.Attribute o f pos')) pos.line X.env=pure false:=by rfl):PS X (.Assign [.Attribute o f pos'] value pos) (wI K ta tv f):=by subst hK;exact Db ha hv hs
theorem okI' {x:Str}{f:Addr}{k:Nat}(F:FunD K x qual st f fd)(S:v9 N ps (j6 st))(hm:∀ xs y,m xs=some y->xs.length+1=ps.length)(hb:∀(cdv:Value)(A:Around)(outer:List Env)(s:Shared)(H:Hp)(E:XK),Room k (A.deeper (PyProof.Rows.envOfC qual (j6 st) s.heap.objs.size f cdv)) -> ∃ t,PSs (qN j8 P w K mg base N qual (j6 st) f cdv A outer s H E).nox (f6 st) t/\SemWS t b)(hw:∀ xs y,m xs=some y->b (.ow (.ob C [] [])::xs.map .sh++List.replicate (N.length-(xs.length+1)) .no) (λε=>ε[0]?=some (.ow y)) λ_ _=>False):FnOk P w K mg base j8 (k+1) f fd ps (spI C m):=by
 refine F.ok S (λvs H Q E h=>?_) (λcdv A outer s H vs Q E hr h=>?_)
 ·obtain ⟨Hs,x,dx,xs,ws,y,rfl,_,_,_,r,e,_⟩:=h;rw [yu,r.length];exact hm xs y e
 ·obtain ⟨Hs,x,dx,xs,ws,y,rfl,sm,hx,hs,r,e,q⟩:=h;obtain ⟨t,ht,sem⟩:=hb cdv A outer s H E hr;refine ⟨t,ht,sem.h (hw xs y e) (Ds sm hs ⟨dx,[],hx,rfl,.nil⟩ r) (λε σ Hs' H' z rd g=>?_) λ_ _ _ _ _ _ z _ _ _=>z.elim⟩;obtain ⟨a,ha,_,n,tp⟩:=rd.ow 0 y z;rw [rd.pin x (yO.mpr rfl)] at ha;injection ha with ha;injection ha with ha;injection ha with ha;subst ha;obtain ⟨o,ho,ro⟩:=tp.rep n;have g2:Same Hs' (j0 Hs' x o):=λb u e=>by rw [j3 (u7 e n)];exact e
  refine q (j0 Hs' x o) H' (g.trans g2) (λb u e hb=>rd.s2 b u e λw=>hb (yO.mp w)) (λb u e=>?_) (λb hb hbx w=>?_) ro
  ·by_cases hbx:b=x
   ·subst hbx;rw [y0] at e;cases e;exact ho
   ·rw [j3 hbx] at e;exact rd.s3 _ _ e
  ·rw [j3 hbx];exact rd.s4 b hb w
end
def xP (C:Addr)(f:Str)(a:M):MS:=λε=>(a ε).bind λy=>match (ε[0]?:Option MSlot) with
 |some (.ow (.ob C' ns xs))=>if C'=C/\f∉ns/\ns.length<1000 then some (.nx (ε.set 0 (.ow (.ob C (ns++[f]) (xs++[y]))))) else none
 |_=>none
def wPN (f:MS):WS:=λε N _=>∃ ε',f ε=some (.nx ε')/\N ε'
theorem GY {a:M}{o:Out}(h:xP C f a ε=some o):∃ y ns xs,a ε=some y/\ε[0]?=some (.ow (.ob C ns xs))/\f∉ns/\ns.length<1000/\o = .nx (ε.set 0 (.ow (.ob C (ns++[f]) (xs++[y])))):=by
 unfold xP at h;obtain ⟨y,ey,h1⟩:=bind_some h;split at h1
 ·rename_i C' ns xs he;split at h1
  ·rename_i hc;cases h1;obtain ⟨rfl,h2,h3⟩:=hc;exact ⟨y,ns,xs,ey,he,h2,h3,rfl⟩
  ·cases h1
 ·cases h1
instance {a:M}[c:xx K C][n:NoA K C f][sa:SemE te a]:SemWS (wI K (c6 0) te f) (wPN (xP C f a)) where
 h:=λ{ε N R} h=>by
  obtain ⟨ε',e,h1⟩:=h;obtain ⟨y,ns,xs,ey,he,h2,h3,e4⟩:=GY e;injection e4 with e4;subst e4;exact SemWS.h (ts:=wI K (c6 0) te f) (w:=UL C f (wP a)) ⟨y,ey,ns,xs,he,h2,h3,h1⟩
instance {a:M}[sa:SemE te a]:SemWS (zP te) (wPN (xO a)) where
 h:=λ{ε N R} h=>by
  obtain ⟨ε',e,h1⟩:=h;obtain ⟨y,ey,e2⟩:=bind_some e;cases e2;exact SemWS.h (ts:=zP te) (w:=UJ (wP a)) ⟨y,ey,h1⟩
instance Mp {a b:MS}[sa:SemWS t (wPN a)][sb:SemWS u (wPN b)]:SemWS (tSeq t u) (wPN (v3 a b)) where
 h:=λ{ε N R} h S Hs0 H0 Hs H σ rd D k rt=>by
  obtain ⟨ε',e,h1⟩:=h;obtain ⟨o1,e1,e2⟩:=bind_some e;refine SemWS.h (ts:=tSeq t u) (w:=wSeq (wPN a) (wPN b)) (ε:=ε) (N:=N) (R:=R) ?_ rd k rt;cases o1 with
  |nx ε1=>exact ⟨ε1,e1,ε',e2,h1⟩
  |rt y=>cases e2
  |bk ε1=>cases e2
  |ct ε1=>cases e2
def vJ (n k:Nat)(C:Addr)(f:MS):List PV->Option PV:=λxs=>if xs.length+1=k then (f (.ow (.ob C [] [])::xs.map .sh++List.replicate (n-k) .no)).bind λo=>match o with
 | .nx ε=>(match (ε[0]?:Option MSlot) with
  |some (.ow y)=>some y
  |_=>none)
 |_=>none else none
theorem okID {P:Program}{w:World}{mg:Str->Option Value}{base:Heap}{x:Str}{f:Addr}{k:Nat}{b:MS}(F:FunD K x qual st f fd)(S:v9 N ps (j6 st))(hm:m=vJ N.length ps.length C b)(hb:∀(cdv:Value)(A:Around)(outer:List Env)(s:Shared)(H:Hp)(E:XK),Room k (A.deeper (PyProof.Rows.envOfC qual (j6 st) s.heap.objs.size f cdv)) -> ∃ t,PSs (qN j8 P w K mg base N qual (j6 st) f cdv A outer s H E).nox (f6 st) t/\SemWS t (wPN b)):FnOk P w K mg base j8 (k+1) f fd ps (spI C m):=by
 subst hm;refine okI' F S (λxs y e=>?_) hb (λxs y e=>?_)
 ·unfold vJ at e;split at e
  ·rename_i hl;exact hl
  ·cases e
 ·unfold vJ at e;split at e
  ·rename_i hl;obtain ⟨o,eo,e1⟩:=bind_some e;rw [hl];cases o with
   |nx ε =>
    refine ⟨ε,eo,?_⟩;have e2:(match (ε[0]?:Option MSlot) with
     |some (.ow y)=>some y
     |_=>none)=some y:=e1
    show ε[0]?=some (.ow y);split at e2
    ·rename_i z hz;cases e2;exact hz
    ·cases e2
   |rt z=>cases e1
   |bk z=>cases e1
   |ct z=>cases e1
  ·cases e
def jK (a:M):M:=λε=>(a ε).bind λx=>match x with
 | .lst xs=>(zB xs).bind λns=>if ns=[] then some (.at .non) else some (.at (.int (qP ns)))
 |_=>none
instance {a:M}[sa:p8 te a]:SemE (Ur K (k5 te p7)) (jK a) where
 h:=λe _ _ _ _ _ rs _ q=>by
  obtain ⟨x,ex,e1⟩:=bind_some e;split at e1
  ·obtain ⟨ns,eb,e2⟩:=bind_some e1;refine sa.h ex rs λv Hs1 H1 x1 r1=>?_;obtain ⟨p,ws,rfl,ep,r2⟩:=i5 x1.s3 r1;rw [Wu eb,show (ns.map λb=>PV.at (.int b))=(ns.map V.int).map .at by rw [yq];rfl] at r2;cases r2.ats;refine ⟨p,ns,rfl,SqL.of ep,λhn=>?_,λhn m m1 m2=>?_⟩
   ·rw [if_pos hn] at e2;cases e2;exact q _ _ _ x1 (rep_at.mpr rfl)
   ·rw [if_neg hn] at e2;cases e2;have em:m=qP ns:=Int.le_antisymm (vc m1) (m2 _ (jn hn));subst em;exact q _ _ _ x1 (rep_at.mpr rfl)
  ·cases e1
def js:List PV->Option (List (z7×PV))
 |[]=>some []
 | .tup [k,v]::xs=>(qG k).bind λkk=>(js xs).map ((kk,v)::·)
 |_::_=>none
def QH:List PV->Option PV
 |[.lst xs]=>(js xs).bind λps=>if (ps.map (·.1)).Nodup/\ps.length<=1000 then some (.fk (ps.map (·.1)) (ps.map (·.2))) else none
 |_=>none
theorem Yl {Hs H:Hp}(s:Same Hs H):∀{xs:List PV}{ps:List (z7×PV)}{vs:List V},js xs=some ps->Reps Hs xs vs->∃(ts:List Addr)(kvs:List (z7×V)),vs=ts.map V.ref/\Paired (λt (kv:z7×V)=>H t=some (.tup [kV kv.1,kv.2])) ts kvs/\kvs.map (·.1)=ps.map (·.1)/\Reps Hs (ps.map (·.2)) (kvs.map (·.2))
 |[],ps,vs,h,r=>by
  cases h;cases reps_nil.mp r;exact ⟨[],[],rfl,.nil,rfl,.nil⟩
 |x::xs,ps,vs,h,r=>by
  unfold js at h;split at h
  ·rename_i e;cases e
  ·rename_i k v xs' e;injection e with e1 e2;subst e1 e2;obtain ⟨kk,ek,h1⟩:=bind_some h;obtain ⟨ps',hp,rfl⟩:=yG.mp h1;obtain ⟨w,ws,rfl,r1,r2⟩:=reps_cons.mp r;obtain ⟨t,us,rfl,ht,ru⟩:=rep_tup.mp r1;obtain ⟨u1,us1,rfl,p1,p2⟩:=reps_cons.mp ru;obtain ⟨u2,us2,rfl,p3,p4⟩:=reps_cons.mp p2;cases reps_nil.mp p4;have ew:=zC (H:=H) (.inl p1) ek;subst ew;obtain ⟨ts,kvs,rfl,q1,q2,q3⟩:=Yl s hp r2;exact ⟨t::ts,(kk,u2)::kvs,rfl,.cons (s _ _ ht) q1,by rw [yN,yN,q2],.cons p3 q3⟩
  ·cases h
instance:jG Yv QH where
 h:=λ{xs z} e {Hs H vs} s r {Q} q=>by
  unfold QH at e;split at e
  ·obtain ⟨ps,eb,e1⟩:=bind_some e;split at e1
   ·rename_i hl;cases e1;obtain ⟨v,rfl,a⟩:=xv r;obtain ⟨p,ws,rfl,ep,r1⟩:=i5 s a;obtain ⟨ts,kvs,rfl,q1,q2,q3⟩:=Yl s eb r1;have hk:kvs.length=ps.length:=by have:=congrArg List.length q2;rwa [yZ,yZ] at this
    refine ⟨p,ts,kvs,rfl,ep,q1,by rw [q2];exact hl.1,by omega,λl o hn=>?_⟩;exact q _ _ _ (.new s hn) (rep_fk.mpr ⟨l,o,kvs,rfl,y0,q2,q3.mono (Ext.new s hn).s1⟩)
   ·cases e1
  ·cases e
end Mi
namespace L2
open PySem PySem.Spec PyProof.Rows
section
variable {P:Program}{w:World}{K:Fg}{mg:Str->Option Value}{base:Heap}{A:Around}{outer:List Env}{s:Shared}{H:Hp}{f c':Addr}{pm ctv:Value}{params:Arguments}{body:Expr}{scope:Scope}{qual:Str}{clos:List (Str×Addr)}{ps fr:List Str}
 {us:List Value} {vs cv:List V} {t:TE} {Q:VK} {E:XK}
end
end L2
namespace L2
open PySem PySem.Spec PySem.Calls PyProof.Rows
variable{x:Str}{e:Expr}{te:TE}{p pos:Pos}{es:List Expr}{t:TA}{h0:Heap}
section
variable {X:Cx}{K:Fg}
theorem y2 {N P:List Str}{sc:Scope}(h1:sc.kind = .function:=by rfl)(h2:sc.isCoroutine=false:=by rfl)(h3:sc.isGenerator=false:=by rfl)(h4:N.Nodup:=by decide +kernel)(h5:N.take P.length=P:=by rfl)(h6:∀ x∈P,sc.names.lookup x=some .local∨sc.names.lookup x=some .cell:=by decide +kernel)(h7:∀ y∈sc.names,y.2 ≠ .free:=by decide +kernel):v9 N P sc:=⟨h1,h2,h3,h4,h5,h6,h7⟩
theorem sW (i:Nat){pos':Pos}(hN:X.N.Nodup)(he:PE X e te)(hi:X.N[i]?=some x:=by rfl)(hx:Loc X.env.scope x:=by first|exact Or.inl rfl|exact Or.inr rfl)(hs:swapsWith e (some (.Name x pos')) pos.line X.env=pure false:=by rfl)(hf:X.fn x=true∨X.env.scope.names.lookup x=some .local:=by first|exact .inl rfl|exact .inr rfl):PS X (.Assign [.Name x pos'] e pos) (xV te (qh i)):=m8 hN hi hx he hs hf
theorem aW (ha:PE X e te)(hs:starEach [e] X.env=(false,eval e X.env)::starEach [] X.env:=by rfl):PA X [e] (k5 te p7):=z6 ha v6 hs
theorem aC (ha:PE X e te)(hr:PA X es t)(hs:starEach (e::es) X.env=(false,eval e X.env)::starEach es X.env:=by rfl):PA X (e::es) (k5 te t):=z6 ha hr hs
theorem iW {a b:Expr}{ta tb:TE}(hK:X.K=K)(ha:PE X a ta)(hb:PE X b tb)(hs:JF b:=by exact λ_ _=>rfl):PE X (.Subscript a b pos) (tOp (rIx K) ta tb):=wz (WD hK) ha hb hs
end
section
variable {X:Cx}{K:Fg}
theorem fW {ps:List Str}{sp:Sp}{k j:Nat}(c:Fn X.prog X.w X.K X.mg X.base k x ps sp)(hr:Room j X.A)(ha:PA X (e::es) t)(hj:k<=j:=by decide)(hg:Gl X x:=by rfl)(hdb:(x==("__debug__":Str))=false:=by decide)(he:starEach (e::es) X.env=(false,eval e X.env)::starEach es X.env:=by rfl)(hpl:(backTo pos (starEach es X.env)).any (·.1)=false:=by rfl):PE X (.Call (.Name x p) (e::es) [] pos) (xb sp [] E0 t):=p6 c hr hj hg ha hdb he hpl
theorem gW (i:Nat)(hN:X.N.Nodup)(hi:X.N[i]?=some x:=by rfl)(hx:Loc X.env.scope x:=by first|exact Or.inl rfl|exact Or.inr rfl)(hf:X.fn x=true∨X.env.scope.names.lookup x=some .local:=by first|exact .inl rfl|exact .inr rfl):PG X (.Name x pos) (qh i):=u5 hN hi hx hf
end
section
variable {P:Program}{w:World}{A:Around}{R:Result->Shared->Prop}{I S:Addr}{fp wr:List Addr}{n:Nat}{Pp:Nat->Value->Prop}{St:Nat->Heap->Prop}
theorem GP (W:Walks P w A.in1 I fp wr n Pp St)(its:Nat->List Value)(hSf:S∉fp)(lo:h0.objs.size<=S)(hw:∀ b∈wr,h0.get? b=none)(lv:∀ i h,St i h->∀ b∈wr,b<h.objs.size)(hv:∀ i v,Pp i v->∃ b c,v = .ref b/\IsL h0 b (its i).toArray c):∀ (m i:Nat) (s:Shared) (t c ct:Nat) (acc:List Value),n-i=m->i<=n->St i s.heap->(∀ b o,h0.get? b=some o->s.heap.get? b=some o) -> s.heap.get? S=some { cls:= .type "list",dict:=none,data:= .seq #[.ref t] c,slots:=#[] }->IsL s.heap t acc.toArray ct->t∉wr->t≠S->h0.objs.size<=t -> acc.length+((List.range' i (n-i)).flatMap its).length<=sizeLine -> (∀ h' tk t' c',(∀ b o,h0.get? b=some o->h'.get? b=some o)->IsL h' t' (acc++(List.range' i (n-i)).flatMap its).toArray c'->h0.objs.size<=t'->R (.ok (.ret (.ref t'))) { s with heap:=h',toks:=tk }) -> codeAny (model P w) A (.builtin "sum.loop" ⟨[.ref I,.ref S,rawInt 2,rawInt 0],[]⟩) R s:=by
 have hSw:S∉wr:=λz=>hSf (W.sub _ z);have new:∀ b o,h0.get? b=some o->b≠S:=λb o e z=>ye _ (yC (z▸yT e) lo);intro m
 induction m with
 |zero =>
  intro i s t c ct acc hm hi st k0 hS ht tw tS lt sz hR;have hin:i=n:=by omega
  subst hin;refine codeAny_builtin PySem.F.entry_sum_loop ?_;rw [Around.under_plainId PySem.F.plain_sum_loop _];show wpAny _ A.in1 (seqItems? (.ref S) >>= _) _ _ s;refine yY (wpAny_seqItems hS rfl ?_);show wpAny _ A.in1 (tryCatch (pyNext (.ref I)) _ >>= _) _ _ s;refine yY (wpAny_tryCatch (W.done s _ _ st λh' tk kk=>?_));refine yP (hR h' tk t ct (λb o e=>kk b o (λz=>by rw [hw b z] at e;cases e) (k0 b o e)) ?_ lt);rw [Nat.sub_self];simp only [List.range'_zero,List.flatMap_nil,yr];exact kk t _ tw ht
 |succ m ih =>
  intro i s t c ct acc hm hi st k0 hS ht tw tS lt sz hR;have hlt:i<n:=by omega
  have er:List.range' i (n-i)=i::List.range' (i+1) (n-(i+1)):=by rw [show n-i=(n-(i+1))+1 by omega];rfl
  rw [er,List.flatMap_cons] at sz hR;rw [yM] at sz;refine codeAny_builtin PySem.F.entry_sum_loop ?_;rw [Around.under_plainId PySem.F.plain_sum_loop _];show wpAny _ A.in1 (seqItems? (.ref S) >>= _) _ _ s;refine yY (wpAny_seqItems hS rfl ?_);show wpAny _ A.in1 (tryCatch (pyNext (.ref I)) _ >>= _) _ _ s;refine yY (wpAny_tryCatch (W.item i s _ _ hlt st λv h' tk hP st' kk=>?_));obtain ⟨b,cb,rfl,hb⟩:=hv i v hP;have hS':=kk S _ hSw hS;have ht':=kk t _ tw ht;have k1:∀ b o,h0.get? b=some o->h'.get? b=some o:=λb o e=>kk b o (λz=>by rw [hw b z] at e;cases e) (k0 b o e);show wpAny _ A.in1 ((holding [Value.ref b] (binaryOp .Add (.ref t) (.ref b))).attempt >>= _) _ _ _;refine yY (wpAny_attempt (wpAny_holding (PySem.P.add_list ht' (k1 _ _ hb) ?_ (by rw [yW,yW];omega))));have hS1:=yX { cls:= .type "list",data:= .seq (acc.toArray++(its i).toArray) } hS';show wpAny _ A.in1 (updateSeq S (λ_=>#[Value.ref h'.objs.size]) >>= _) _ _ _;refine yY (wpAny_updateSeq hS1 rfl ?_);have hS2:=uZ (Obj.mapSeq λ_=>#[Value.ref h'.objs.size]) hS1 rfl;refine yY (wpAny_letGo ?_);have ne:h'.objs.size≠S:=uw (yT hS');have hlo:h0.objs.size<=h'.objs.size:=yc (Nat.lt_of_le_of_lt lo (yT hS'));have oth:∀ b o,b≠S->h'.get? b=some o->(((h'.push { cls:= .type "list",data:= .seq (acc.toArray++(its i).toArray) }).update S (Obj.mapSeq λ_=>#[Value.ref h'.objs.size])).update S (Obj.mapSeq λ_=>#[Value.ref h'.objs.size])).get? b=some o:=λb o nb e=>by
   rw [yw _ _ (Ne.symm nb),yw _ _ (Ne.symm nb)];exact yX _ e
  refine yY (wpAny_updateSeq hS2 rfl (yP ⟨plainId_quiet PySem.F.plain_sum_loop _,ih (i+1) _ h'.objs.size _ 0 (acc++its i) (by omega) hlt (W.frame _ _ _ st' λb z o e=>oth b o (λq=>hSf (q▸z)) e) (λb o e=>oth b o (new b o e) (k1 b o e)) (uZ _ hS2 rfl) ?_ (λz=>ye _ (lv _ _ st' _ z)) ne hlo (by rw [yM];omega) λh2 tk2 t2 c2 k2 l2 lo2=>?_⟩))
  ·show (((h'.push { cls:= .type "list",data:= .seq (acc.toArray++(its i).toArray) }).update S _).update S _).get? h'.objs.size=_;rw [yw _ _ (Ne.symm ne),yw _ _ (Ne.symm ne),yJ _ rfl,List.append_toArray]
  ·rw [uQ] at l2;exact hR h2 tk2 t2 c2 k2 l2 lo2
end
section
variable {P:Program}{w:World}{A:Around}{E:Value->Shared->Prop}{s:Shared}{l z:Addr}{bs:List Addr}
theorem UZ (v u:Value):argsOk "sum" ⟨[v],[(Str.ofString "start",u)]⟩:=by unfold argsOk;kernel_rfl
theorem Gw (u:Value):Builtin.Builtins.bindParams "sum" ["start"] 0 ⟨[],[(Str.ofString "start",u)]⟩=pure [some u]:=by kernel_rfl
theorem Kw:∀(its:List (List Value)),(List.range' 0 its.length).flatMap (λi=>its.getD i [])=its.flatten:=λits=>by
 have go:∀(m i:Nat),its.length-i=m->i<=its.length->(List.range' i m).flatMap (λi=>its.getD i [])=(its.drop i).flatten:=by
  intro m
  induction m with
  |zero=>intro i h hi;rw [List.drop_of_length_le (by omega)];rfl
  |succ m ih =>
   intro i h hi;have hl:i<its.length:=by omega
   rw [List.range'_succ,List.flatMap_cons,ih (i+1) (by omega) hl,ya hl,uK,yD,yV hl];rfl
 exact go its.length 0 rfl (yk _)
theorem MC:isSubtype (.type "list") (.type "bytearray")=pure false:=by rw [isSubtype_type];kernel_rfl
theorem MD {Q:Value->Shared->Prop}{its:List (List Value)}{cz:Nat}(hh:A.handled=none)(k0:∀ b o,h0.get? b=some o->s.heap.get? b=some o)(hl:s.heap.IsList l (bs.map Value.ref).toArray)(hz:IsL s.heap z #[] cz)(lz:h0.objs.size<=z)(hb:∀ (i:Nat) (b:Addr),bs[i]?=some b->∃ c,IsL h0 b (its.getD i []).toArray c)(el:its.length=bs.length)(sz:its.flatten.length<=sizeLine)(h:∀ h' tk t' c',(∀ b o,h0.get? b=some o->h'.get? b=some o)->IsL h' t' its.flatten.toArray c'->h0.objs.size<=t'->Q (.ref t') { s with heap:=h',toks:=tk }):wpAny (model P w) A (call (.builtin "sum") [.ref l] [(Str.ofString "start",Value.ref z)]) Q E s:=by
 have hTz:s.TypeIs (.ref z) "list":=⟨_,hz,rfl⟩;refine kmb_tree PySem.F.kind_sum PySem.F.plain_sum PySem.F.entry_sum (UZ _ _) ?_;show wpAny _ A.in1 (Builtin.Builtins.bindParams "sum" ["start"] 0 ⟨[],[(Str.ofString "start",Value.ref z)]⟩ >>= _) _ _ s;refine yY (wpAny_of_eq (Gw _) ?_);have hlt:l<s.heap.objs.size:=by obtain ⟨_,e,_⟩:=hl;exact yT e
 refine yY (wpAny_pyIter_list hl ?_);refine yY (yP ?_);have hz1:=yX { cls:= .type "list_iterator",data:= .fields #[.ref l,.int 0 0] } hz;have hT1:Shared.TypeIs { s with heap:=s.heap.push { cls:= .type "list_iterator",data:= .fields #[.ref l,.int 0 0] } } (.ref z) "list":=⟨_,hz1,rfl⟩;simp only [List.forIn_cons,List.forIn_nil];refine yY (yY (yY (wpAny_isInstance (b:=false) hT1 PySem.F.sub_list_str ?_)));simp only [uY,if_false];refine yP (yY (yY (wpAny_isInstance (b:=false) hT1 PySem.F.sub_list_bytes ?_)));simp only [uY,if_false];refine yP (yY (yY (wpAny_isInstance (b:=false) hT1 MC ?_)));simp only [uY,if_false];refine yP (yP (yY (wpAny_newObj_type ?_)));have hI:l≠s.heap.objs.size:=yQ hlt;have hlo:h0.objs.size<=s.heap.objs.size:=yd lz (yc (yT hz));have zz:z<s.heap.objs.size:=yT hz;have sp:(s.heap.push { cls:= .type "list_iterator",data:= .fields #[.ref l,.int 0 0] }).objs.size=s.heap.objs.size+1:=uW _ _;have en:(bs.map Value.ref).toArray.size=its.length:=by rw [yW,yZ,el]
 have ef:(List.range' 0 ((bs.map Value.ref).toArray.size-0)).flatMap (λi=>its.getD i [])=its.flatten:=by rw [en];exact Kw its
 refine yP ⟨plainId_quiet PySem.F.plain_sum_loop _,GP (h0:=h0) (S:=(s.heap.push { cls:= .type "list_iterator",data:= .fields #[.ref l,.int 0 0] }).objs.size) (Walks.list (A:=A.in1) hh s.heap.objs.size l hI (bs.map Value.ref).toArray) (λi=>its.getD i []) (λq=>?_) (by rw [sp];exact Nat.le_succ_of_le hlo) (λb hb=>?_) (λi h st b hb=>?_) (λi v hv=>?_) _ 0 _ z _ cz [] rfl (yk _) ⟨⟨_,yX _ (yJ _ rfl),rfl,rfl⟩,(hl.push _).push _⟩ (λb o e=>yX _ (yX _ (k0 b o e))) (yJ _ rfl) (yX _ hz1) (λq=>?_) (λq=>?_) lz (by rw [ef];simpa using sz) λh' tk t' c' k l' lo'=>?_⟩
 ·rcases yL.mp q with q|q
  ·rw [sp] at q;exact absurd q (Nat.succ_ne_self _)
  ·have q:=yO.mp q;rw [sp] at q;exact ye _ (Nat.lt_trans (uJ _) (q▸hlt))
 ·rw [yO.mp hb];exact Heap.get?_none_of_le hlo
 ·rw [yO.mp hb];obtain ⟨⟨o,e,_⟩,_⟩:=st;exact yT e
 ·rw [List.getElem?_toArray,yR] at hv;obtain ⟨b,e1,rfl⟩:=yG.mp hv;obtain ⟨c,e2⟩:=hb i b e1;exact ⟨b,c,rfl,e2⟩
 ·exact ye _ (yO.mp q▸zz)
 ·rw [sp] at q;exact ye _ (Nat.lt_trans (uJ _) (q▸zz))
 ·rw [ef,List.nil_append] at l';exact h h' tk t' c' k l' lo'
end
section
variable {X:Cx}
theorem YK:∀{bs:List Addr}{us:List Value},Vals (bs.map V.ref) us->us=bs.map Value.ref
 |[],us,r=>by cases r;rfl
 |b::bs,us,r=>by
  cases r with
  |cons r1 r2=>rw [YK r2,show _=Value.ref b from r1];rfl
theorem WN {pins:List (Addr×Obj)}{σ:St}{H:Hp}{s:Shared}(I:Inv X pins σ H s):∀{bs:List Addr}{xss:List (List V)},xss.length=bs.length->(∀(i:Nat)(b:Addr),bs[i]?=some b->H b=some (.lst (xss.getD i []))) -> ∃ iss:List (List Value),iss.length=bs.length/\Vals xss.flatten iss.flatten/\∀(i:Nat)(b:Addr),bs[i]?=some b->∃ c,IsL s.heap b (iss.getD i []).toArray c
 |[],[],_,_=>⟨[],rfl,.nil,λi b z=>by simp at z⟩
 |b::bs,xs::xss,hl,h=>by
  obtain ⟨iss,e1,e2,e3⟩:=WN I (bs:=bs) (xss:=xss) (by simpa using hl) λi b e=>h (i+1) b e;obtain ⟨z,its,n,r,hz,e⟩:=I.lstM (h 0 b rfl);refine ⟨its::iss,by simp [e1],r.append e2,λi b' q=>?_⟩;cases i with
  |zero=>cases q;exact ⟨n,e⟩
  |succ i=>exact e3 i b' q
def Uw (K:Fg)(t:TA):TE:=λσ H Q=>t σ H λvs H1=>∃(a:Addr)(bs:List Addr)(xss:List (List V)),vs=[.ref a]/\SqL K H1 a (bs.map V.ref)/\(∀(i:Nat)(b:Addr),bs[i]?=some b->H1 b=some (.lst (xss.getD i [])))/\xss.length=bs.length/\xss.flatten.length<=sizeLine/\∀ p,H1 p=none->Q (.ref p) (j0 H1 p (.lst xss.flatten))
theorem CL {K:Fg}{kp lp:Pos}(hK:X.K=K)(hc:X.calm=true)(hg:Gl X "sum")(hm:X.mg "sum"=none)(ha:PA X [e] t)(hs:backTo pos (starEach [e] X.env)=(false,eval e X.env)::backTo pos (starEach [] X.env):=by rfl)(hpl:(backTo pos (starEach [e] X.env)).any (·.1)=false:=by rfl):PE X (.Call (.Name "sum" p) [e] [⟨some "start",.List [] lp,kp⟩] pos) (Uw K t):=by subst hK;intro pins s σ H Q I h;refine wpAny_Call_Name_kw (xB I hg hm VL ?_ (by decide) (by decide));refine PyProof.Rows.callWith_kw (z8 (ha pos pins s σ H _ I h) λus s1 ⟨vs,H1,I1,r1,q1⟩=>?_) hs hpl;refine PyProof.Rows.kws_cons (wpAny_List_spliced ?_);obtain ⟨a,bs,xss,rfl,hq,hb,el,sz,q⟩:=q1;obtain ⟨u,rfl,ru⟩:=xc r1;obtain rfl:u=Value.ref a:=ru;obtain ⟨its,rv,pl,hz⟩:=I1.list hq;have ei:its=bs.map Value.ref:=YK rv;subst ei;obtain ⟨iss,e1,e2,e3⟩:=WN I1 el hb;have hl:s1.heap.IsList a (bs.map Value.ref).toArray:=pl.isList;refine Calls.spliced_nil ⟨yk _,PyProof.Rows.kws_nil ?_⟩;show wpAny _ _ (call (.builtin "sum") [.ref a] [(Str.ofString "start",Value.ref s1.heap.objs.size)]) _ _ _;refine MD (its:=iss) (bs:=bs) (h0:=s1.heap) (cz:=0) (I1.ok.hd hc) (λb o e=>yX _ e) (hl.push _) (yJ _ rfl) (yU _) e3 e1 (by rw [<- e2.length];exact sz) λh' tk t' c' k l' lo'=>?_;exact ⟨.ref t',_,I1.laid (o:= .lst xss.flatten) (t':=tk) k lo' ⟨sz,_,c',e2,l'⟩,rfl,q t' (I1.hok.fresh lo')⟩
end
end L2
namespace Mi
open PySem L2
variable{a:M}
def zD:List PV->Option (List (List PV))
 |[]=>some []
 | .lst ys::xs=>(zD xs).map (ys::·)
 |_::_=>none
theorem WR {Hs:Hp}:∀{xs:List PV}{yss:List (List PV)}{ws:List V},zD xs=some yss->Reps Hs xs ws->∃(bs:List Addr)(xss:List (List V)),ws=bs.map V.ref/\xss.length=bs.length/\(∀(i:Nat)(b:Addr),bs[i]?=some b->Hs b=some (.lst (xss.getD i [])))/\Reps Hs yss.flatten xss.flatten
 |[],yss,ws,h,r=>by
  cases h;cases reps_nil.mp r;exact ⟨[],[],rfl,rfl,λi b z=>by simp at z,.nil⟩
 |x::xs,yss,ws,h,r=>by
  unfold zD at h;split at h
  ·rename_i e;cases e
  ·rename_i ys xs' e;injection e with e1 e2;subst e1 e2;obtain ⟨zss,hz,rfl⟩:=yG.mp h;obtain ⟨w,ws',rfl,p,q⟩:=reps_cons.mp r;obtain ⟨b,us,rfl,hb,ru⟩:=rep_lst.mp p;obtain ⟨bs,xss,rfl,e1,e2,e3⟩:=WR hz q;refine ⟨b::bs,us::xss,rfl,by simp [e1],λi b' z=>?_,ru.append e3⟩;cases i with
   |zero=>cases z;exact hb
   |succ i=>exact e2 i b' z
  ·cases h
def Qe (a:M):M:=λε=>(a ε).bind λx=>match x with
 | .lst xs=>(zD xs).bind λyss=>if yss.flatten.length<=lim then some (.lst yss.flatten) else none
 |_=>none
instance {K:Fg}{te:TE}[sa:p8 te a]:qL (Uw K (k5 te p7)) (Qe a) where
 h:=λe _ _ _ _ _ rs _ q=>by
  obtain ⟨x,ex,e1⟩:=bind_some e;split at e1
  ·obtain ⟨yss,ey,e2⟩:=bind_some e1;split at e2
   ·rename_i hl;cases e2;refine sa.h ex rs λv Hs1 H1 x1 r1=>?_;obtain ⟨p,ws,rfl,ep,r2⟩:=i5 x1.s3 r1;obtain ⟨bs,xss,rfl,a1,a2,a3⟩:=WR ey r2;exact ⟨p,bs,xss,rfl,SqL.of ep,λi b z=>x1.s3 _ _ (a2 i b z),a1,qr (by rw [a3.length];exact hl),λp' hp=>q _ _ _ (x1.trans (.newO x1.s3 hp)) (x1.s2.free hp) (x1.s3.free hp) ⟨_,y0,a3⟩⟩
   ·cases e2
  ·cases e1
theorem Ku {ε:ME}{xs:List PV}{yss:List (List PV)}(h:a ε=some (.lst xs))(k:zD xs=some yss)(l:yss.flatten.length<=lim):Qe a ε=some (.lst yss.flatten):=by unfold Qe;rw [h];show (zD xs).bind _=_;rw [k];exact if_pos l
end Mi
namespace L2
open PySem PySem.Spec PySem.Calls PyProof.Rows
variable{R:Result->Shared->Prop}{items:Array Value}
section
variable {X:Cx}
def vkO (v a:Addr):HO:= .ext λh=>PySem.W.KdlKeysView h v a
def Up (td:TE):TE:=λσ H Q=>td σ H λx H1=>∃ a kvs,x = .ref a/\Rd H1 a (.dK kvs)/\∀ v,H1 v=none->Q (.ref v) (j0 H1 v (vkO v a))
theorem CD {d:Expr}{td:TE}{apos cpos:Pos}(ho:PE X d td)(hbase:attributeBase d "keys" X.env (eval d X.env)=eval d X.env:=by rfl)(hline:(apos.endLine==cpos.line)=true:=by rfl):PE X (.Call (.Attribute d "keys" apos) [] [] cpos) (Up td):=by
 intro pins s σ H Q I h;refine wpAny_Call_method0_late hbase hline (z8 (ho pins s σ H _ I h) λv s1 ⟨x,H1,I1,r1,q1⟩=>?_);obtain ⟨a,kvs,e,hq,q⟩:=q1;subst e;cases r1;obtain ⟨z,hs,vs,rel,dd⟩:=xY I1.hok hq;obtain ⟨o,es,ep,g1,g5,_⟩:=id dd;refine ⟨"dict","dict.keys",PySem.F.plainAttrs_dict,PySem.F.slot_dict_keys,PySem.F.type_dict_keys,dd.typeIs,λb e=>?_,Calls.callWith_builtin rfl (PySem.evalArgs_none ?_)⟩
 ·cases e;exact ⟨o,g1,g5.2.1⟩
 refine call_meetsIn PySem.F.slot_dict_keys dd.typeIs PySem.F.entry_dict_keys (PySem.F.args_dict_keys_1 _) (PySem.W.kdl_meets_keys (i4 X.prog X.w) a hs) ⟨⟨vs,dd⟩,?_⟩;refine ⟨.ref s1.heap.objs.size,_,I1.laid (t':=s1.toks) (o:=vkO s1.heap.objs.size a) (λb o e=>yX _ e) (yU _) ⟨⟨_,yJ _ rfl,rfl,rfl⟩,⟨_,yJ _ rfl⟩,λh1 h2 ⟨o,e,c⟩ k=>⟨o,k o e,c⟩⟩,rfl,q _ (I1.hok.fresh (yU _))⟩
def YD:List V->Hp->VK->Prop:=λxs H Q=>∃(v a:Addr)(ss:List Str)(kvs:List (z7×V)),xs=[.ref v]/\H v=some (vkO v a)/\Rd H a (.dK kvs)/\kvs.map (·.1)=ss.map Sum.inr/\ss.length<64 /\
 ∀ l ss',H l=none->ss'.Perm ss->vE ss'->Q (.ref l) (j0 H l (.lst (ss'.map V.str)))
theorem GL (hc:X.calm=true):CallR X (.builtin "sorted") YD:=by
 intro pins s σ H xs us Q I r h;obtain ⟨v,a,ss,kvs,rfl,hv,hq,hk,h64,q⟩:=h;obtain ⟨u,rfl,ru⟩:=xc r;obtain rfl:u=Value.ref v:=ru;have hvw:PySem.W.KdlKeysView s.heap v a:=(show ObjOk X.prog X.w H s.heap v (vkO v a) from I.hok v _ hv).1;obtain ⟨z,hd,vs,rel,dd⟩:=xY I.hok hq;obtain ⟨ep,hat⟩:=dd.dictAt;have ek:=WF rel hk;have hvl:vs.length=ss.length:=by have:=congrArg List.length ek;rwa [yZ,yZ] at this
 refine Calls.call_function_entry (id:="sorted") kind_sorted plain_sorted entry_sorted (args_sorted1 _) ?_;unfold Builtin.«sorted»;refine yY (m:=checkCount "sorted" 1 1 _) (yP ?_);refine yY (PySem.W.kdu_collect (PySem.W.kdl_keys (knd:=i4 X.prog X.w) (kvs:=vs) (ep:=ep)) (by simpa using I.ok.hd hc) ⟨hvw,hat⟩ (yc (zN (by omega))) λh1 tk acc k1 hacc=>?_);have hS:=Wz ek hacc;have hal:acc.toList.length=ss.length:=by have:=hacc.1;simp;omega
 refine Ud (s:={ s with heap:=h1,toks:=tk }) hS (by omega) λh' out ss' e k2 he a1 a2 a3=>?_;have I1:Inv X pins σ H { s with heap:=h1,toks:=tk }:=I.kept (t':=tk) k1;refine ⟨.ref _,_,I1.laid (t':=tk) (o:= .lst (ss'.map V.str)) k2 (yU _) ?_,rfl,q _ ss' (I1.hok.fresh (yU _)) a2 (Jj a3)⟩;exact ⟨by rw [yZ,a2.length_eq];exact yc (zN (by omega)),out,e,QY a1,he⟩
end
section
variable {prog:Program}{w:World}{A:Around}{E:Value->Shared->Prop}{s:Shared}{r l:Addr}
theorem BG:typeLookup (.type "list_reverseiterator") "__len__"=pure none:=by rw [typeLookup_type,builtinLookup_eq_fast];kernel_rfl
theorem BF:typeLookup (.type "list_reverseiterator") "__length_hint__"=pure (some (.builtin "list_reverseiterator.__length_hint__")):=by rw [typeLookup_type,builtinLookup_eq_fast];kernel_rfl
theorem DB {Q:Bool->Shared->Prop}(hT:s.TypeIs (.ref r) "list_reverseiterator")(h:Q false s):wpAny (model prog w) A (Builtin.List.listLengthHint (.ref r)) Q E s:=by
 unfold Builtin.List.listLengthHint;refine yY (wpAny_specialOf hT BG ?_);refine wpAny_ite_split (λhab=>absurd hab (by decide +kernel)) (λ_=>?_);refine wpAny_ite_split (λhab=>absurd hab (by decide +kernel)) (λ_=>?_);refine yY (wpAny_specialOf hT BF ?_);generalize hid:("list_reverseiterator.__length_hint__":String)=id0
 wp_delta
 rw [show splitId id0=some ("list_reverseiterator","__length_hint__") from by subst hid;decide +kernel];subst hid;refine yY (wpAny_isInstance (T:="list_reverseiterator") (b:=true) hT (by rw [isSubtype_type];kernel_rfl) ?_);refine wpAny_ite_split (λhab=>absurd hab (by decide)) (λ_=>?_);refine wpAny_ite_split (λ_=>?_) (λhab=>absurd (by decide +kernel) hab);refine wpAny_ite_split (λhab=>absurd hab (by decide +kernel)) (λ_=>?_);exact yP h
theorem DA (hh:A.handled=none)(hr:s.heap.IsRevIter r l ((items.size:Int)-1))(hl:s.heap.IsList l items)(hne:l≠r)(S:Addr)(hSr:S≠r)(hSl:S≠l)(res:Value)(c₀:Nat)(hS:s.heap.get? S=some { cls:= .type "list",data:= .seq #[] c₀ })(hR:∀ h' tk acc' c',(∀ b o,b≠S->b≠r->s.heap.get? b=some o->h'.get? b=some o)->h'.get? S=some { cls:= .type "list",dict:=none,data:= .seq acc' c',slots:=#[] }->ItemsOf (λi v=>items[items.size-1-i]?=some v) acc' items.size->R (.ok (.ret res)) { s with heap:=h',toks:=tk })(hn:items.size<=sizeLine):wpAny (model prog w) A.in1 (Builtin.List.listExtendWith (.ref S) (.ref r) res) (λfin s'=>match fin with | .done f=>R (.ok f) s' | .again c'=>c'.quiet=true/\codeAny (model prog w) A c' R s') (λe s'=>R (.error e) s') s:=by
 have W:=Walks.listRev (prog:=prog) (w:=w) (A:=A.in1) hh r l hne items;have hSf:S∉[r,l]:=by simp only [yL,yi,or_false,not_or];exact ⟨hSr,hSl⟩
 have st:(0<=items.size/\s.heap.IsRevIter r l ((items.size:Int)-1-((0:Nat):Int))/\s.heap.IsList l items):=⟨yk _,by rw [show (items.size:Int)-1-((0:Nat):Int)=(items.size:Int)-1 by omega];exact hr,hl⟩;have key:∀(h:Heap)(c₁ tk:Nat),(0<=items.size/\h.IsRevIter r l ((items.size:Int)-1-((0:Nat):Int))/\h.IsList l items)->(∀ b o,b≠S->s.heap.get? b=some o->h.get? b=some o) ->
   h.get? S=some { cls:= .type "list",data:= .seq #[] c₁ }->codeAny (model prog w) A (.builtin "list.extend.loop" ⟨[.ref S,.ref r,res],[]⟩) R { s with heap:=h,toks:=tk }:=by
  intro h c₁ tk hst hk hS₁;refine codeAny_extend_loopS W.toS hn S hSf res items.size 0 _ #[] c₁ rfl (yk _) hst hS₁ (ItemsOf.nil _) λs' acc' c' hm hS' hacc=>?_;rw [Moved.eq_with hm];refine hR s'.heap s'.toks acc' c' (λb o hb hbr e=>hm.heap b o (λhmem=>?_) (hk b o hb e)) hS' hacc;rcases yL.mp hmem with e'|hmem
  ·exact hb e'
  ·exact hbr (yO.mp hmem)
 unfold Builtin.List.listExtendWith;refine yY (wpAny_typeOf (T:="list_reverseiterator") hr.typeIs ?_);have h1:Builtin.List.listSameRef (.ref S) (.ref r)=false:=by simp [Builtin.List.listSameRef,hSr]
 have n1:(Value.type "list_reverseiterator" == Value.type "list")=false:=by decide +kernel
 have n2:(Value.type "list_reverseiterator" == Value.type "tuple")=false:=by decide +kernel
 simp only [h1,n1,n2,Bool.or_false,uY,if_false];refine yY (wpAny_pyIter_revIter hr ?_);refine yY (wpAny_holding (DB hr.typeIs ?_));refine wpAny_ite_split (λ_=>?_) (λ_=>yP ⟨plainId_quiet PySem.F.plain_extend_loop _,key _ c₀ _ st (λb o _ e=>e) hS⟩);refine yY (wpAny_rule ?_);refine yY ?_;show wpAny _ _ (updateSeq S (·.push .none) >>= λ_=>updateSeq S (·.pop)) _ _ _;refine yY (wpAny_updateSeq hS rfl ?_);have hS₂:=uZ (Obj.mapSeq (·.push Value.none)) hS rfl;refine wpAny_updateSeq (hz:=by seq_fits) hS₂ rfl ?_;have hS₃:=uZ (Obj.mapSeq (·.pop)) hS₂ rfl;refine yP ⟨plainId_quiet PySem.F.plain_extend_loop _,key _ _ _ ?_ (λb o hb e=>?_) hS₃⟩
 ·refine W.frame 0 _ _ st λb hb o e=>?_;have hbS:b≠S:=λh=>hSf (h▸hb);exact (yw _ _ (Ne.symm hbS)).trans ((yw _ _ (Ne.symm hbS)).trans e)
 ·exact (yw _ _ (Ne.symm hb)).trans ((yw _ _ (Ne.symm hb)).trans e)
theorem DC (hh:A.handled=none)(hr:s.heap.IsRevIter r l ((items.size:Int)-1))(hl:s.heap.IsList l items)(hne:l≠r)(S:Addr)(hSr:S≠r)(hSl:S≠l)(hS:s.heap.get? S=some { cls:= .type "list",data:= .seq #[] })
  (hR:∀ h' tk acc' c',(∀ b o,b≠S->b≠r->s.heap.get? b=some o->h'.get? b=some o)->h'.get? S=some { cls:= .type "list",dict:=none,data:= .seq acc' c',slots:=#[] }->ItemsOf (λi v=>items[items.size-1-i]?=some v) acc' items.size->R (.ok (.ret .none)) { s with heap:=h',toks:=tk }) (hn:items.size<=sizeLine) :
  wpAny (model prog w) A.in1 (Builtin.«list.__init__» ⟨[.ref S,.ref r],[]⟩)
   (λfin s'=>match fin with | .done f=>R (.ok f) s' | .again c'=>c'.quiet=true/\codeAny (model prog w) A c' R s') (λe s'=>R (.error e) s') s:=by
 show wpAny _ _ (do let old <- Builtin.List.listItems (.ref S);Builtin.List.listUpdate (.ref S) (λ_=>#[]);letGo old.toList.reverse;Builtin.List.listExtendWith (.ref S) (.ref r) .none) _ _ s;refine yY ?_;unfold Builtin.List.listItems;refine yY (wpAny_seqItems hS rfl (yP ?_));show wpAny _ _ (updateSeq S (λ_=>#[]) >>= λ_=>letGo (#[]:Array Value).toList.reverse >>= λ_=>Builtin.List.listExtendWith (.ref S) (.ref r) .none) _ _ s;refine yY (wpAny_updateSeq hS rfl ?_);have hS₂:=uZ (Obj.mapSeq (λ_=>(#[]:Array Value))) hS rfl;have oth:∀ b o,b≠S->s.heap.get? b=some o->(s.heap.update S (Obj.mapSeq (λ_=>(#[]:Array Value)))).get? b=some o :=
  λb o hb e=>(yw _ _ (Ne.symm hb)).trans e
 refine yY (wpAny_letGo ?_);refine DA hh (hr.at λo e=>oth r o hSr.symm e) (hl.at λo e=>oth l o hSl.symm e) hne S hSr hSl .none _ hS₂ (λh' tk acc' c' hk hS' hacc=>?_) hn;exact hR h' tk acc' c' (λb o hb hbr e=>hk b o hb hbr (oth b o hb e)) hS' hacc
theorem Dz {Q:Value->Shared->Prop}(hh:A.handled=none)(hr:s.heap.IsRevIter r l ((items.size:Int)-1))(hl:s.heap.IsList l items)(hne:l≠r)(hn:items.size<=sizeLine)(hQ:∀ h' tk acc' c',(∀ b o,b≠r->s.heap.get? b=some o->h'.get? b=some o)->h'.get? s.heap.objs.size=some { cls:= .type "list",dict:=none,data:= .seq acc' c',slots:=#[] }->ItemsOf (λi v=>items[items.size-1-i]?=some v) acc' items.size->Q (.ref s.heap.objs.size) { s with heap:=h',toks:=tk }):wpAny (model prog w) A (call (.type "list") [.ref r]) Q E s:=by
 refine callType_codes (Q₁:=λobj s₁=>obj = .ref s.heap.objs.size/\s₁={ s with heap:=s.heap.push { cls:= .type "list",data:= .seq #[] } }) PySem.F.called_list (PySem.F.typeCall_list_1 _) PySem.F.entry_list_init
  (code_list_new _ ⟨rfl,rfl⟩) λobj s₁ h₁=>?_
 obtain ⟨rfl,rfl⟩:=h₁;have hS:(s.heap.push { cls:= .type "list",data:= .seq #[] }).get? s.heap.objs.size=some { cls:= .type "list",data:= .seq #[] }:=yJ _ rfl;obtain ⟨o1,e1,_⟩:=id hr;obtain ⟨o2,e2,_⟩:=id hl;refine ⟨⟨_,hS,rfl⟩,PySem.F.args_list_init_2 _ _,DC (A:=A.in1) hh (hr.at λo e=>yX _ e) (hl.at λo e=>yX _ e) hne _ (uw (yT e1)) (uw (yT e2)) hS (λh' tk acc' c' hk hS' hacc=>?_) hn⟩;exact ⟨rfl,hQ h' tk acc' c' (λb o hb e=>hk b o (yQ (yT e)) hb (yX _ e)) hS' hacc⟩
end
theorem YR:∀{xs:List V}{us:List Value},Vals xs us->Vals xs.reverse us.reverse
 |_,_,.nil=> .nil
 |_,_,.cons p r=>by
  rw [List.reverse_cons,List.reverse_cons];exact (YR r).append (.cons p .nil)
theorem Bj {its:List Value}{acc:Array Value}(h:ItemsOf (λi v=>its.toArray[its.toArray.size-1-i]?=some v) acc its.toArray.size):acc.toList=its.reverse:=by
 have hl:acc.size=its.length:=by have:=h.1;simpa using this
 refine List.ext_getElem? λi=>?_;by_cases hi:i<acc.size
 ·have q:=h.2 i acc[i] (uV hi);rw [yW,List.getElem?_toArray] at q;rw [Array.getElem?_toList,uV hi,List.getElem?_reverse (by omega),q]
 ·rw [uu (by simp;omega),uu (by rw [List.length_reverse];omega)]
section
variable {X:Cx}
def Uq (K:Fg)(te:TE):TE:=λσ H Q=>te σ H λx H1=>∃ a ys,x = .ref a/\SqL K H1 a ys/\∀ l,H1 l=none->Q (.ref l) (j0 H1 l (.lst ys.reverse))
theorem CF {K:Fg}{e:Expr}{te:TE}{p1 p2 q1 q2:Pos}(hc:X.calm=true)(hK:X.K=K)(g1:Gl X "list")(m1:X.mg "list"=none)(g2:Gl X "reversed")(m2:X.mg "reversed"=none)(he:PE X e te)(hs:starEach [e] X.env=[(false,eval e X.env)]):PE X (.Call (.Name "list" p1) [.Call (.Name "reversed" p2) [e] [] q2] [] q1) (Uq K te):=by
 subst hK;intro pins s σ H Q I h;refine wpAny_Call_Name_kw (xB I g1 m1 xL ?_ (by decide) (by decide));refine PyProof.Rows.callWith_type1 ?_ rfl rfl;show wpAny _ _ (spliced ((false,eval (.Call (.Name "reversed" p2) [e] [] q2) X.env)::[])) _ _ s;refine Calls.spliced_cons ?_;refine wpAny_Call_Name_kw (xB I g2 m2 PyProof.Rows.boot_reversed ?_ (by decide) (by decide));refine PyProof.Rows.callWith_type1 ?_ (by rw [hs];rfl) rfl;rw [hs];refine Calls.spliced_cons (z8 (he pins s σ H _ I h) λu s1 ⟨x,H1,I1,r1,a,ys,ex,hq,q⟩=>?_);subst ex;obtain rfl:u=Value.ref a:=r1;obtain ⟨its,rv,p,hz⟩:=I1.list hq;have hl:its.length=ys.length:=rv.length.symm;refine yP ?_;refine call_reversed_list p.isList ?_;refine yP ?_;have e0:(s1.heap.push (revObj a ((its.toArray.size:Int)-1))).get? s1.heap.objs.size=some (revObj a ((its.toArray.size:Int)-1)):=yJ _ rfl;have k0:∀ b o,s1.heap.get? b=some o->(s1.heap.push (revObj a ((its.toArray.size:Int)-1))).get? b=some o:=λb o e=>yX _ e;obtain ⟨oa,ea,_⟩:=id p.isList;refine Dz (s:={ s1 with heap:=s1.heap.push (revObj a ((its.toArray.size:Int)-1)) }) (I1.ok.hd hc) ⟨_,e0,rfl,rfl⟩ (p.isList.at λo e=>k0 a o e) (yQ (yT ea)) (by rw [yW];omega) λh' tk acc c hk hS hacc=>?_;have kk:∀ b o,s1.heap.get? b=some o->h'.get? b=some o:=λb o e=>hk b o (yQ (yT e)) (k0 b o e);have hsz:s1.heap.objs.size<=(s1.heap.push (revObj a ((its.toArray.size:Int)-1))).objs.size:=by rw [uW];exact uz _
 refine ⟨.ref _,_,I1.laid (t':=tk) (o:= .lst ys.reverse) kk hsz ⟨by rw [List.length_reverse];exact hz,acc.toList,c,by rw [Bj hacc];exact YR rv,by rw [Array.toArray_toList];exact hS⟩,rfl,q _ (I1.hok.fresh hsz)⟩
end
end L2
namespace Mi
open PySem L2
variable{te:TE}{a f g:M}{pre:List PV->Prop}{R:List PV->PV->Prop}
def Xs (a:M):M:=λε=>(a ε).bind λx=>match x with
 | .lst xs=>some (.lst xs.reverse)
 |_=>none
instance {K:Fg}[sa:p8 te a]:qL (Uq K te) (Xs a) where
 h:=λe _ _ _ _ _ rs _ q=>by
  obtain ⟨x,ex,e1⟩:=bind_some e;split at e1
  ·cases e1;refine sa.h ex rs λv Hs1 H1 x1 r1=>?_;obtain ⟨p,vs,rfl,hp,r⟩:=i5 x1.s3 r1;exact ⟨p,vs,rfl,SqL.of hp,λl hl=>q l _ _ (x1.trans (.newO x1.s3 hl)) (x1.s2.free hl) (x1.s3.free hl) ⟨_,y0,r.reverse⟩⟩
  ·cases e1
def Wc (a:M):M:=λε=>(a ε).bind λx=>match x with
 | .dk ks _=>(xQ ks).bind λss=>if ss.length<64 then some (.lst ((qE ss).map λs=> .at (.str s))) else none
 |_=>none
instance [sa:p8 te a]:qL (tCB YD (k5 (Up te) p7)) (Wc a) where
 h:=λe _ _ _ _ _ rs _ q=>by
  obtain ⟨x,ex,e1⟩:=bind_some e;split at e1
  ·obtain ⟨ss,eb,e2⟩:=bind_some e1;split at e2
   ·rename_i hl;cases e2;refine sa.h ex rs λv Hs1 H1 x1 r1=>?_;obtain ⟨p,kvs,rfl,hp,hk,hr⟩:=zj x1.s3 r1;refine ⟨p,kvs,rfl,.inl hp,λw hw=>?_⟩;have x2:Ext Hs1 H1 Hs1 (j0 H1 w (vkO w p)):= .newO x1.s3 hw;refine ⟨w,p,ss,kvs,rfl,y0,.inl (x2.s2 _ _ hp),by rw [hk,Qn eb],hl,λl ss' hn p1 p2=>?_⟩;rw [wJ p1 p2];exact q l _ _ ((x1.trans x2).trans (.newO x2.s3 hn)) ((x1.trans x2).s2.free hn) (x2.s3.free hn) ⟨_,y0,QS _⟩
   ·cases e2
  ·cases e1
def spE (pre:List PV->Prop)(R:List PV->PV->Prop):Sp:=λvs H Q _=>∃ Hs a n xs v0 v1,vs=[v0,v1,.ref a]/\Same Hs H/\Hs a=none/\H a=some (.lst [.int n])/\Reps Hs xs [v0,v1]/\pre xs /\
 ∀ y v n' Hs' H',R xs y->ExtD a Hs H Hs' H'->Hs' a=none->H' a=some (.lst [.int n'])->Rep Hs' y v->Q v H'
def JA (i:Nat)(pre:List PV->Prop)(R:List PV->PV->Prop)(f g:M):W:=λε Q=>∃ x y,f ε=some x/\g ε=some y/\xH i ε/\pre [x,y]/\∀ z n',R [x,y] z->Q z (ε.set i (g7 n'))
instance {i:Nat}{t u:TE}{E:XK}[sf:SemE t f][sg:SemE u g]:SemW (xb (spE pre R) [] E (k5 t (k5 u (k5 (c6 i) p7)))) (JA i pre R f g) where
 h:=λh _ _ _ _ _ _ rd _ k=>by
  obtain ⟨x,y,ex,ey,⟨n,hn⟩,hpre,h2⟩:=h;refine sf.h ex rd.rs λv0 Hs1 H1 x1 r0=>?_;refine sg.h ey (rd.go x1).rs λv1 Hs2 H2 x2 r1=>?_;have rd2:=(rd.go x1).go x2;obtain ⟨p,hp,hH,hs,_⟩:=rd2.strm_at hn;refine ⟨_,hp,Hs2,p,n,[x,y],v0,v1,rfl,rd2.s3,hs,hH,.cons (r0.mono x2.s1) (.one r1),hpre,λz v n' Hs' H' hR e np ep rv=>?_⟩;exact k z _ v Hs' H' (h2 z n' hR) (rd2.drawn hn hp e np ep) ((x1.trans x2).s1.trans e.s1) rv
instance {i:Nat}:qB (JA i pre R f g) where h:=λk ⟨x,y,e1,e2,hh,p,h2⟩=>⟨x,y,e1,e2,hh,p,λz n' r=>k _ _ (h2 z n' r)⟩
end Mi
namespace Lw
open PySem L2 Mi
variable{rss:List (List Int)}{g h l n:Nat}{a b:M}{H H0:Hp}{Aa F p:Addr}{c j:Int}{r:List Int}{vs:List V}{Q:VK}{E:XK}{ε:ME}{q qual x:Str}{y z:PV}{as:List Addr}{σ:St}{xs:List PV}{u:V}{R:It->Hp->Prop}{A5 B0 B9 D4 D7 Ey:Tok}{ks:List z7}{ps ss:List Str}{st:Stmt}{cd ct dc oc pm:Value}{an od:Option Addr}{sl:Array (Option Value)}
variable {P:Program}{w:World}{K:Fg}{mg:Str->Option Value}{base:Heap}{f:Addr}{fd:FuncData}
theorem l0:0<=lim:=by decide
theorem l1:1<=lim:=by decide
theorem l2:2<=lim:=by decide
theorem l3:3<=lim:=by decide
theorem l4:4<=lim:=by decide
theorem l5:5<=lim:=by decide
theorem l6:6<=lim:=by decide
theorem l7:7<=lim:=by decide
theorem l8:8<=lim:=by decide
theorem l9:9<=lim:=by decide
structure c9 (h:Nat)(rss:List (List Int)):Prop where
 len:rss.length=h+1
 row:∀ r∈rss,r.length=h/\∀ v∈r,0<=v/\v<10 ^ 30
def rin (rss:List (List Int))(f g:Int):Int:=((atI rss f).bind λr=>atI r g).getD 0
def xJ (rss:List (List Int)):Int->List Int->Int
 |_,[]=>0
 |f,h::r=>rin rss f h+xJ rss h r
theorem Du (e:rss.length=h+1)(g:Int):rin rss (-1) g=rin rss (h:Int) g:=by
 unfold rin atI;rw [e];have e1:ixN (h+1) (-1)=some h:=by
  unfold ixN;rw [if_neg (by decide),if_pos (by omega)]
  congr 1
  omega
 have e2:ixN (h+1) (h:Int)=some h:=by
  unfold ixN;rw [if_pos (by omega),if_pos (by omega)]
  congr 1
 rw [e1,e2]
abbrev Wy:=Int×List Int
variable{T:List (List Wy)}{onw ws:List Wy}
def xR (a b:Wy):Wy:=if b.1<a.1 then b else a
def xp (a b:Wy):Wy:=(a.1+b.1,a.2++b.2)
def thr (ws:List Wy)(k:Nat)(onw:List Wy):List Wy:=List.zipWith (λw m=>xR w (xp (ws.getD k (0,[])) m)) ws onw
def ql (T:List (List Wy))(k:Nat):List (List Wy):=T.map λrow=>thr row k (T.getD k [])
def xG (row:List Int):List Wy:=row.mapIdx λi v=>(v,[(i:Int)])
def y7 (rss:List (List Int)):Nat->List (List Wy)
 |0=>rss.map xG
 |k+1=>ql (y7 rss k) k
def v4 (T:List (List Wy))(f g:Nat):Wy:=(T.getD f []).getD g (0,[])
def qt (rss:List (List Int))(h:Nat):List (List Int):=(y7 rss h).map λrow=>row.map (·.1)
structure Shp (h:Nat)(T:List (List Wy)):Prop where
 len:T.length=h+1
 row:∀ r∈T,r.length=h
theorem u4 {α:Type}{l:List α}{i:Nat}{d:α}(h:i<l.length):l.getD i d=l[i]:=by rw [yD,yV h];rfl
theorem Shp.rowAt (S:Shp h T){f:Nat}(hf:f<=h):(T.getD f []).length=h:=by
 have hl:f<T.length:=by have:=S.len;omega
 rw [u4 hl];exact S.row _ (yn hl)
theorem Uy {k:Nat}(h:ws.length=onw.length):(thr ws k onw).length=ws.length:=by unfold thr;rw [List.length_zipWith,h,Nat.min_self]
theorem Shp.step (S:Shp h T){k:Nat}(hk:k<h):Shp h (ql T k):=by refine ⟨by unfold ql;rw [yZ];exact S.len,λr hr=>?_⟩;unfold ql at hr;obtain ⟨row,hm,rfl⟩:=yt.mp hr;have e1:=S.row row hm;rw [Uy (by rw [e1,S.rowAt (by omega)]),e1]
theorem jb (S:Shp h T){k f:Nat}(hk:k<h)(hf:f<=h)(hg:g<h):v4 (ql T k) f g=xR (v4 T f g) (xp (v4 T f k) (v4 T k g)):=by
 have hl:f<T.length:=by have:=S.len;omega
 have hl2:f<(ql T k).length:=by unfold ql;rw [yZ];exact hl
 have e1:(ql T k).getD f []=thr (T.getD f []) k (T.getD k []):=by unfold ql;rw [u4 (by rw [yZ];exact hl),uE,u4 hl]
 have r1:=S.rowAt hf;have r2:=S.rowAt (f:=k) (by omega);unfold v4;rw [e1,u4 (by rw [Uy (by rw [r1,r2])];omega),u4 (l:=T.getD f []) (i:=g) (by omega),u4 (l:=T.getD k []) (i:=g) (by omega)];unfold thr;rw [List.getElem_zipWith]
theorem Shp.start (G:c9 h rss):Shp h (y7 rss 0):=by refine ⟨by show (rss.map xG).length=_;rw [yZ];exact G.len,λr hr=>?_⟩;obtain ⟨row,hm,rfl⟩:=yt.mp hr;unfold xG;rw [List.length_mapIdx];exact (G.row row hm).1
theorem Shp.all {h:Nat}{rss:List (List Int)}(G:c9 h rss):∀ k,k<=h->Shp h (y7 rss k)
 |0,_=>Shp.start G
 |k+1,hk=>(Shp.all G k (by omega)).step (by omega)
theorem jt (G:c9 h rss){f:Nat}(hf:f<=h)(hg:g<h):rin rss (f:Int) (g:Int)=(rss.getD f []).getD g 0:=by
 have hl:f<rss.length:=by have:=G.len;omega
 have e1:atI rss (f:Int)=some rss[f]:=qQ (yV hl);have hg2:g<rss[f].length:=by rw [(G.row _ (yn hl)).1];exact hg
 have e2:atI rss[f] (g:Int)=some rss[f][g]:=qQ (yV hg2);unfold rin;rw [e1];show (atI rss[f] (g:Int)).getD 0=_;rw [e2,u4 hl,u4 hg2];rfl
theorem vN (G:c9 h rss){f:Nat}(hf:f<=h)(hg:g<h):v4 (y7 rss 0) f g=(rin rss (f:Int) (g:Int),[(g:Int)]):=by
 have hl:f<rss.length:=by have:=G.len;omega
 have hl2:f<(rss.map xG).length:=by rw [yZ];exact hl
 have hg2:g<rss[f].length:=by rw [(G.row _ (yn hl)).1];exact hg
 rw [jt G hf hg];unfold v4;show ((rss.map xG).getD f []).getD g (0,[])=_;rw [u4 hl2,uE,u4 (by unfold xG;rw [List.length_mapIdx];exact hg2),u4 hl,u4 hg2];unfold xG;rw [List.getElem_mapIdx]
theorem Dv (G:c9 h rss){f:Nat}(hf:f<=h)(hg:g<h):0<=rin rss (f:Int) (g:Int):=by
 have hl:f<rss.length:=by have:=G.len;omega
 have hg2:g<rss[f].length:=by rw [(G.row _ (yn hl)).1];exact hg
 rw [jt G hf hg,u4 hl,u4 hg2];exact ((G.row _ (yn hl)).2 _ (yn hg2)).1
theorem UM {rss:List (List Int)}:∀{xs ys:List Int}{f g:Int},xs.getLast?=some g->xJ rss f (xs++ys)=xJ rss f xs+xJ rss g ys
 |[],_,_,_,e=>by simp at e
 |[x],ys,f,g,e=>by
  have e':x=g:=by simpa using e
  subst e';show rin rss f x+xJ rss x ys=rin rss f x+0+xJ rss x ys;omega
 |x::y::r,ys,f,g,e=>by
  have q:=UM (rss:=rss) (xs:=y::r) (ys:=ys) (f:=x) (g:=g) (by simpa [List.getLast?_cons_cons] using e);show rin rss f x+xJ rss x (y::r++ys)=rin rss f x+xJ rss x (y::r)+xJ rss g ys;rw [q];omega
structure WayOk (rss:List (List Int))(h:Nat)(f g:Nat)(w:Wy):Prop where
 sum:w.1=xJ rss (f:Int) w.2
 last:w.2.getLast?=some (g:Int)
 ok:∀ x∈w.2,0<=x/\x<(h:Int)
structure FW (rss:List (List Int))(h k:Nat)(T:List (List Wy)):Prop where
 way:∀ f g,f<=h->g<h->WayOk rss h f g (v4 T f g)
 pos:∀ f g,f<=h->g<h->0<=(v4 T f g).1
 le:∀ f g,f<=h->g<h->(v4 T f g).1<=rin rss (f:Int) (g:Int)
 tri:∀ j f g,j<k->f<=h->g<h->(v4 T f g).1<=(v4 T f j).1+(v4 T j g).1
 len:∀ f g,f<=h->g<h->(v4 T f g).2.length<=2 ^ k
theorem jj (a b:Wy):(xR a b=a/\a.1<=b.1)∨(xR a b=b/\b.1<a.1):=by
 unfold xR;by_cases h:b.1<a.1
 ·rw [if_pos h];exact .inr ⟨rfl,h⟩
 ·rw [if_neg h];exact .inl ⟨rfl,by omega⟩
theorem Bz (a b:Wy):(xR a b).1<=a.1/\(xR a b).1<=b.1:=by
 rcases jj a b with ⟨e,q⟩|⟨e,q⟩
 ·rw [e];exact ⟨uF _,q⟩
 ·rw [e];exact ⟨Int.le_of_lt q,uF _⟩
theorem WayOk.join {f k:Nat}{a b:Wy}(x:WayOk rss h f k a)(y:WayOk rss h k g b):WayOk rss h f g (xp a b):=by
 refine ⟨?_,?_,λz hz=>?_⟩
 ·show a.1+b.1=xJ rss f (a.2++b.2);rw [UM x.last,x.sum,y.sum]
 ·show (a.2++b.2).getLast?=_;rw [List.getLast?_append,y.last];rfl
 ·rcases yg.mp hz with q|q
  ·exact x.ok z q
  ·exact y.ok z q
theorem FW.start (G:c9 h rss):FW rss h 0 (y7 rss 0):=by
 refine ⟨λf g hf hg=>?_,λf g hf hg=>?_,λf g hf hg=>?_,λj f g hj=>absurd hj (by omega),λf g hf hg=>?_⟩
 ·rw [vN G hf hg];refine ⟨?_,rfl,λx hx=>?_⟩
  ·show rin rss f g=rin rss f g+0;omega
  ·have e:x=(g:Int):=by simpa using hx
   rw [e];omega
 ·rw [vN G hf hg];exact Dv G hf hg
 ·rw [vN G hf hg];exact uF _
 ·rw [vN G hf hg];exact yU 1
theorem FW.step {k:Nat}(S:Shp h T)(x:FW rss h k T)(hk:k<h):FW rss h (k+1) (ql T k):=by
 have kl:k<=h:=by omega
 have toK:∀ f,f<=h->(v4 (ql T k) f k).1=(v4 T f k).1:=λf hf=>by
  rw [jb S hk hf hk];rcases jj (v4 T f k) (xp (v4 T f k) (v4 T k k)) with ⟨e,q⟩|⟨e,q⟩
  ·rw [e]
  ·have p:=x.pos k k kl hk;have q':(v4 T f k).1+(v4 T k k).1<(v4 T f k).1:=q;omega
 have ofK:∀ g,g<h->(v4 (ql T k) k g).1=(v4 T k g).1:=λg hg=>by
  rw [jb S hk kl hg];rcases jj (v4 T k g) (xp (v4 T k k) (v4 T k g)) with ⟨e,q⟩|⟨e,q⟩
  ·rw [e]
  ·have p:=x.pos k k kl hk;have q':(v4 T k k).1+(v4 T k g).1<(v4 T k g).1:=q;omega
 have bound:∀ f g,f<=h->g<h->(v4 (ql T k) f g).1<=(v4 T f g).1/\(v4 (ql T k) f g).1<=(v4 T f k).1+(v4 T k g).1:=λf g hf hg=>by
  rw [jb S hk hf hg];exact Bz _ _
 have alt:∀ f g,f<=h->g<h->(v4 (ql T k) f g).1=(v4 T f g).1∨(v4 (ql T k) f g).1=(v4 T f k).1+(v4 T k g).1:=λf g hf hg=>by
  rw [jb S hk hf hg];rcases jj (v4 T f g) (xp (v4 T f k) (v4 T k g)) with ⟨e,q⟩|⟨e,q⟩
  ·rw [e];exact .inl rfl
  ·rw [e];exact .inr rfl
 refine ⟨λf g hf hg=>?_,λf g hf hg=>?_,λf g hf hg=>Int.le_trans (bound f g hf hg).1 (x.le f g hf hg),λj f g hj hf hg=>?_,λf g hf hg=>?_⟩
 ·rw [jb S hk hf hg];rcases jj (v4 T f g) (xp (v4 T f k) (v4 T k g)) with ⟨e,_⟩|⟨e,_⟩
  ·rw [e];exact x.way f g hf hg
  ·rw [e];exact (x.way f k hf hk).join (x.way k g kl hg)
 ·rcases alt f g hf hg with e|e
  ·rw [e];exact x.pos f g hf hg
  ·rw [e];have p1:=x.pos f k hf hk;have p2:=x.pos k g kl hg;omega
 ·by_cases hjk:j=k
  ·subst hjk;rw [toK f hf,ofK g hg];exact (bound f g hf hg).2
  ·have hj':j<k:=by omega
   have jl:j<=h:=by omega
   have jh:j<h:=by omega
   have b:=bound f g hf hg;have t1:=x.tri j f g hj' hf hg;have t2:=x.tri j f k hj' hf hk;have t3:=x.tri j k g hj' kl hg;have t4:=x.pos k j kl jh;have t5:=x.pos j k jl hk;rcases alt f j hf jh with e1|e1<;>rcases alt j g jl hg with e2|e2<;>rw [e1,e2]<;>omega
 ·rw [jb S hk hf hg];have e:2 ^ (k+1)=2 ^ k+2 ^ k:=by rw [Nat.pow_succ];omega
  rcases jj (v4 T f g) (xp (v4 T f k) (v4 T k g)) with ⟨q,_⟩|⟨q,_⟩
  ·rw [q];have:=x.len f g hf hg;omega
  ·rw [q];have a1:=x.len f k hf hk;have a2:=x.len k g kl hg;show ((v4 T f k).2++(v4 T k g).2).length<=_;rw [yM];omega
theorem FW.all {h:Nat}{rss:List (List Int)}(G:c9 h rss):∀ k,k<=h->FW rss h k (y7 rss k)
 |0,_=>FW.start G
 |k+1,hk=>FW.step (Shp.all G k (by omega)) (FW.all G k (by omega)) (by omega)
theorem BE (G:c9 h rss){f:Nat}(hf:f<=h)(hg:g<h):((qt rss h).getD f []).getD g 0=(v4 (y7 rss h) f g).1:=by
 have S:=Shp.all G h (yU _);have hl:f<(y7 rss h).length:=by have:=S.len;omega
 have hl2:f<(qt rss h).length:=by unfold qt;rw [yZ];exact hl
 have r:=S.rowAt hf;rw [u4 hl] at r;unfold v4;rw [u4 hl,u4 (l:=(y7 rss h)[f]) (by omega)];unfold qt;rw [u4 (l:=(y7 rss h).map λrow=>row.map (·.1)) (i:=f) (by rw [yZ];exact hl),uE,u4 (by rw [yZ];omega),uE]
theorem Qq (G:c9 h rss):c9 h (qt rss h):=by
 have S:=Shp.all G h (yU _);have F:=FW.all G h (yU _);refine ⟨by unfold qt;rw [yZ];exact S.len,λr hr=>?_⟩;unfold qt at hr;obtain ⟨row,hm,rfl⟩:=yt.mp hr;refine ⟨by rw [yZ];exact S.row row hm,λv hv=>?_⟩;obtain ⟨w,hw,rfl⟩:=yt.mp hv;obtain ⟨f,hf,rfl⟩:=uP hm;obtain ⟨g,hg,rfl⟩:=uP hw;have hf':f<=h:=by have:=S.len;omega
 have hg':g<h:=by rw [<- S.row _ hm];exact hg
 have e:v4 (y7 rss h) f g=(y7 rss h)[f][g]:=by unfold v4;rw [u4 hf,u4 hg]
 have p:=F.pos f g hf' hg';have l:=F.le f g hf' hg';rw [e] at p l;refine ⟨p,Int.lt_of_le_of_lt l ?_⟩;have hl:f<rss.length:=by have:=G.len;omega
 have hg2:g<rss[f].length:=by rw [(G.row _ (yn hl)).1];exact hg'
 rw [jt G hf' hg',u4 hl,u4 hg2];exact ((G.row _ (yn hl)).2 _ (yn hg2)).2
theorem XW {α:Type}[DecidableEq α]:∀{ms left:List α},ms.Nodup->(∀ x∈ms,x∈left)->ms.length<=left.length
 |[],_,_,_=>yk _
 |x::r,left,hn,hs=>by
  have hn':=yx.mp hn;have q:=XW (ms:=r) (left:=left.erase x) hn'.2 (λy hy=>(List.mem_erase_of_ne (λe=>hn'.1 (by rw [e] at hy;exact hy))).mpr (hs y (yK _ hy)));have hx:=hs x yH;rw [List.length_erase_of_mem hx] at q;have pos:0<left.length:=List.length_pos_of_mem hx;show r.length+1<=_;omega
def vG (rss:List (List Int))(h:Nat)(row:List Int):List Int:=(List.range h).map λg=>vd (row.getD g 0::(List.range h).map λa=>row.getD a 0+(rss.getD a []).getD g 0)
def bfN (rss:List (List Int))(h:Nat):Nat->List (List Int)
 |0=>rss
 |k+1=>(bfN rss h k).map (vG rss h)
theorem VB {rss:List (List Int)}{h:Nat}(G:c9 h rss):∀ k,(bfN rss h k).length=h+1/\∀ r∈bfN rss h k,r.length=h
 |0=>⟨G.len,λr hr=>(G.row r hr).1⟩
 |k+1=>by
  have ih:=VB G k;refine ⟨by show ((bfN rss h k).map _).length=_;rw [yZ];exact ih.1,λr hr=>?_⟩;obtain ⟨q,_,rfl⟩:=yt.mp hr;unfold vG;rw [yZ,ux]
def bfE (rss:List (List Int))(h k f g:Nat):Int:=((bfN rss h k).getD f []).getD g 0
theorem Gg (G:c9 h rss){k f:Nat}(hf:f<=h)(hg:g<h):bfE rss h (k+1) f g=vd (bfE rss h k f g::(List.range h).map λa=>bfE rss h k f a+rin rss (a:Int) (g:Int)):=by
 have L:=VB G k;have hl:f<(bfN rss h k).length:=by omega
 unfold bfE;show (((bfN rss h k).map (vG rss h)).getD f []).getD g 0=_;rw [u4 (l:=(bfN rss h k).map (vG rss h)) (i:=f) (by rw [yZ];exact hl),uE,u4 (l:=bfN rss h k) (i:=f) hl];unfold vG;rw [u4 (by rw [yZ,ux];exact hg),uE,List.getElem_range]
 congr 2
 refine uD λa ha=>?_;rw [jt G (by have:=uO.mp ha;omega) hg]
theorem Xh {rss:List (List Int)}{h:Nat}(G:c9 h rss):∀ k f g,f<=h->g<h->(v4 (y7 rss h) f g).1<=bfE rss h k f g
 |0,f,g,hf,hg=>by
  have q:=(FW.all G h (yU _)).le f g hf hg;rw [jt G hf hg] at q;exact q
 |k+1,f,g,hf,hg=>by
  rw [Gg G hf hg];have m:=WV (l:=bfE rss h k f g::(List.range h).map λa=>bfE rss h k f a+rin rss (a:Int) (g:Int)) (by simp);rcases yL.mp m with e|e
  ·rw [e];exact Xh G k f g hf hg
  ·obtain ⟨a,ha,e2⟩:=yt.mp e;rw [<- e2];have ha':=uO.mp ha;have F:=FW.all G h (yU _);have i:=Xh G k f a hf ha';have t:=F.tri a f g ha' hf hg;have l:=F.le a g (by omega) hg;omega
def top (i:Nat):Stmt:=PySem.Challenge.pw_rinsework_k73_vats_told.main.body.getD i (.Pass ⟨0,0,0,0⟩)
abbrev ZW:Stmt:=top 55
abbrev QT:Stmt:=top 56
abbrev Jd:Stmt:=top 57
theorem QU (h:H p=none)(o:HO):Same H (j0 H p o):=λb u q=>by rw [j3 (u7 q h)];exact q
theorem sizes (h:n<=1000):n<=sizeLine:=yc (zN h)
def Jk:Sp:=λvs H Q _=>∃ c k:Int,vs=[.int c,.int k]/\0<=k/\k<=100/\∀ v:Int,0<=v->v<2147483648->Q (.int v) H
def Ue (K:Fg):Sp:=λvs H Q _=>∃(a:Addr)(ns:List Int)(k:Int),vs=[.ref a,.int k]/\SqL K H a (ns.map V.int)/\ns.length<=63/\0<=k/\k<=12 /\
 ∀(r:Addr)(n:Int)(H':Hp),H r=none->Same H H'->H' r=some (.lst [.int n])->Q (.ref r) H'
section
theorem sc_take:v9 ["stream","many","digit"] ["stream","many"] (j6 Jd):=y2
theorem Cg (F:Fun K "_law_take" "_law_take" Jd f fd):FnOk P w K mg base j8 1 f fd ["stream","many"] zl:=by
 refine F.ok sc_take (λvs H Q E h=>?_) (λcdv A outer s H vs Q E hr h=>?_)
 ·obtain ⟨a,n,m,rfl,_⟩:=h;rfl
 obtain ⟨a,n,m,rfl,hH,hm,q⟩:=h;refine ⟨_,(z9 (m8 (i:=2) sc_take.nd rfl (Or.inl rfl) (v5 jo (wz (XE (K:=K) rfl) (pv 0) x8 (λ_ _=>rfl)) (pv 1)))
  (z9 (Zf (v5 Cn (wz (XE (K:=K) rfl) (pv 0) x8 (λ_ _=>rfl)) (pv 1)) (Yi (pv 0) x8 Ua))
  (j4 (y1 (pv 2))))),?_⟩
 refine ⟨_,rfl,a,_,0,_,rfl,rfl,SqL.of hH,rfl,_,rfl,n,m,rfl,rfl,hm.1,?_⟩;refine ⟨_,rfl,a,_,0,_,rfl,rfl,SqL.of hH,rfl,_,rfl,n,m,rfl,rfl,hm,?_⟩;refine ⟨_,rfl,a,_,0,0,rfl,rfl,hH,rfl,?_⟩;exact ⟨_,rfl,q⟩
theorem sc_mixed:v9 ["cell","k","one"] ["cell","k"] (j6 ZW):=y2
theorem PX (F:Fun K "_law_mixed" "_law_mixed" ZW f fd):FnOk P w K mg base j8 1 f fd ["cell","k"] Jk:=by
 refine F.ok sc_mixed (λvs H Q E h=>?_) (λcdv A outer s H vs Q E hr h=>?_)
 ·obtain ⟨c,k,rfl,_⟩:=h;rfl
 obtain ⟨c,k,rfl,k0,k1,q⟩:=h;refine ⟨_,(z9 (m8 (i:=2) sc_mixed.nd rfl (Or.inl rfl) (v5 jo (v5 vg (v5 op_add (v5 op_add (v5 jo (pv 0) x8) (v5 vg x8 (pv 1))) x8) x8) x8))
  (j4 (y1 (v5 jo (v5 vg (v5 jo (v5 vg (pv 2) (pv 2)) x8) x8) x8)))),?_⟩
 refine ⟨_,rfl,_,_,rfl,rfl,(by show (0:Int)<1000000007;decide),_,rfl,_,_,rfl,rfl,.inl ⟨by decide,by decide⟩,_,_,rfl,rfl,_,_,rfl,rfl,_,_,rfl,rfl,.inr ⟨by decide,by decide⟩,_,_,rfl,rfl,(by show (0:Int)<2147483647;decide),?_⟩;generalize hone:(c % 1000000007+7919*k+101)*48271 % 2147483647=one;have o0:0<=one:=by rw [<- hone];exact yz _ (by decide)
 have o1:one<2147483647:=by rw [<- hone];exact yF _ (by decide)
 refine ⟨_,rfl,_,rfl,_,_,rfl,rfl,.inl ⟨by omega,by omega⟩,_,_,rfl,rfl,(by show (0:Int)<2147483629;decide),_,_,rfl,rfl,.inr ⟨by decide,by decide⟩,_,_,rfl,rfl,(by show (0:Int)<2147483647;decide),?_⟩;exact q _ (yz _ (by decide)) (Int.lt_trans (yF _ (by decide)) (by decide))
end
def MM:Int:=10 ^ (60:Int).toNat
theorem Qb:zn 10 60:=⟨by decide,by decide,by decide⟩
theorem VY:zn 10 18:=⟨by decide,by decide,by decide⟩
theorem Qa:Builtin.Int.intBits MM<=2 ^ 20:=by decide +kernel
def M2:Int:=MM*MM
theorem wX:0<M2:=by decide +kernel
theorem Gi:Builtin.Int.intBits M2<=2 ^ 20:=by decide +kernel
theorem Mx {M r:Int}{i:Nat}(hM:0<M)(h0:0<=c)(h:c<M ^ i)(r0:0<=r)(r1:r<M):0<=c*M+r/\c*M+r<M ^ (i+1):=by
 have e:M ^ (i+1)=M ^ i*M:=Int.pow_succ M i;have h1:(c+1)*M<=M ^ i*M:=Int.mul_le_mul_of_nonneg_right (by omega) (Int.le_of_lt hM);have h2:(c+1)*M=c*M+M:=by rw [Int.add_mul,Int.one_mul]
 have h3:0<=c*M:=Int.mul_nonneg h0 (Int.le_of_lt hM);rw [e];omega
theorem US:∀ i:_root_.Fin 8,(M2 ^ (i:Nat)).toNat<2 ^ 2800:=by decide +kernel
theorem Gk {i:Nat}(hi:i<=7)(h0:0<=c)(h:c<M2 ^ i):Builtin.Int.intBits c<=2 ^ 20:=by
 obtain ⟨n,rfl⟩:=yf h0;have q:=US ⟨i,by omega⟩;have q2:n<2 ^ 2800:=by have q':(M2 ^ i).toNat<2 ^ 2800:=q;omega
 exact yd (PyProof.Rows.intBits_le (by rw [Int.natAbs_natCast];exact q2)) (by decide)
theorem Dx:∀ i:_root_.Fin 13,∀ j:_root_.Fin 64,Builtin.Range.small ((i:Nat):Int) ((j:Nat):Int) 12=true:=by decide +kernel
theorem Zj {i:Int}:Builtin.Range.rangeSize i j 12=if i<j then (j-i-1) / 12+1 else 0:=rfl
theorem Dw {i:Int}(h0:0<=i)(h1:i<=12)(h2:0<=j)(h3:j<=63):0<=Builtin.Range.rangeSize i j 12/\Builtin.Range.small i j 12=true/\zk i j 12<=6/\∀ t:Nat,t<zk i j 12->i+t*12<j:=by
 refine ⟨?_,?_,?_,λt ht=>?_⟩
 ·rw [Zj];split<;>omega
 ·have q:=Dx ⟨i.toNat,by omega⟩ ⟨j.toNat,by omega⟩;have e1:((i.toNat:Nat):Int)=i:=by omega
  have e2:((j.toNat:Nat):Int)=j:=by omega
  have q':Builtin.Range.small ((i.toNat:Nat):Int) ((j.toNat:Nat):Int) 12=true:=q;rw [e1,e2] at q';exact q'
 ·unfold zk;rw [Zj];split<;>omega
 ·unfold zk at ht;rw [Zj] at ht;split at ht<;>omega
theorem Gb {ns:List Int}{k:Int}(h0:0<=k)(h:k<(ns.length:Int)):∃ v:Int,atI (ns.map V.int) k=some (.int v):=by
 have hk:k.toNat<ns.length:=by omega
 have ek:k=((k.toNat:Nat):Int):=by omega
 have q:atI (ns.map V.int) ((k.toNat:Nat):Int)=some (.int ns[k.toNat]):=qQ (by rw [yR,yV hk]<;>rfl);rw [<- ek] at q;exact ⟨_,q⟩
section
theorem sc_stream:v9 ["script","k","cell","j","found"] ["script","k"] (j6 QT):=y2
theorem Cd (F:Fun K "_law_stream" "_law_stream" QT f fd)(Ec:Fn P w K mg base 1 "_law_mixed" ["cell","k"] Jk)(Ac:mg "len"=none)(Ad:mg "range"=none)(El:mg "sum"=none):FnOk P w K mg base j8 2 f fd ["script","k"] (Ue K):=by
 refine F.ok sc_stream (λvs H Q E h=>?_) (λcdv A outer s H vs Q E hr h=>?_)
 ·obtain ⟨a,ns,k,rfl,_⟩:=h;rfl
 obtain ⟨a,ns,k,rfl,hS,h63,k0,k1,q⟩:=h;refine ⟨_,(z9 (m8 (i:=2) sc_stream.nd rfl (Or.inl rfl) x8)
  (z9 (qy PassesOwn.never rfl (CS rfl Ad (z6 (pv 1) (z6 (y4 (VM (K:=K) rfl) rfl Ac PySem.boot_len (z6 (pv 0) v6)) (z6 x8 v6)))) (u5 (i:=3) sc_stream.nd rfl (Or.inl rfl))
   (j4 (m8 (i:=2) sc_stream.nd rfl (Or.inl rfl) (v5 op_add (v5 QG (pv 2) (v5 QG (v5 xq x8 x8) (v5 xq x8 x8))) (v5 jo (wz (XE (K:=K) rfl) (pv 0) (pv 3) (λ_ _=>rfl)) (v5 QG (v5 xq x8 x8) (v5 xq x8 x8)))))))
  (z9 (c4 (t6 QF (pv 2) (v5 xq x8 x8) (m7 _)) (j4 (y1 (qm (z6 (pv 2) v6)))) c5)
  (z9 (m8 (i:=2) sc_stream.nd rfl (Or.inl rfl) (v5 op_add (pv 2) (y4 (GN (K:=K) rfl rfl) rfl El VL (z6 (qi (N':=["one"]) (cap:=[none]) (p9 rfl rfl rfl) rfl (c3 (K:=K) rfl (pv 0)) (λ_ _ _ _ _ _=>(u5 (i:=0) (by show (["one"]:List Str).Nodup;decide +kernel) rfl (Or.inl rfl))) (λ_ _ _ _ _ _=>m9) (λ_ _ _ _ _ _=>(v5 jo (pv 0) (v5 xq x8 x8)))) v6))))
  (z9 (m8 (i:=4) sc_stream.nd rfl (Or.inl rfl) x8)
  (z9 (qy PassesOwn.never rfl (xF rfl Ad (z6 x8 v6)) (u5 (i:=3) sc_stream.nd rfl (Or.inl rfl))
   (j4 (m8 (i:=4) sc_stream.nd rfl (Or.inl rfl) (v5 op_add (v5 vg (pv 4) x8) (p6 Ec hr (by decide) rfl (z6 (v5 op_add (v5 op_add (pv 2) (v5 vg x8 (pv 1))) (y4 (VM (K:=K) rfl) rfl Ac PySem.boot_len (z6 (pv 0) v6))) (z6 (pv 3) v6)))))))
  (j4 (y1 (qm (z6 (pv 4) v6)))))))))),?_⟩
 have hl:(((ns.map V.int).length:Nat):Int)=(ns.length:Int):=by rw [yZ]
 obtain ⟨z1,z2,z3,z4⟩:=Dw (i:=k) (j:=(((ns.map V.int).length:Nat):Int)) k0 k1 (by omega) (by omega);refine ⟨_,rfl,_,rfl,a,_,rfl,.inl hS,k,_,12,rfl,⟨by decide,by decide⟩,z1,z2,Ky (λi σ H2=>∃(c:Int)(j:Option V),σ=[some (.ref a),some (.int k),some (.int c),j,none]/\H2=H/\0<=c/\c<M2 ^ i)
  ⟨0,none,rfl,rfl,uF 0,by decide⟩ ?_ ?_⟩
 ·rintro i σ H2 hi ⟨c,j,rfl,rfl,c0,c1⟩;obtain ⟨v,hv⟩:=Gb (ns:=ns) (k:=k+i*12) (by omega) (by have:=z4 i hi;omega);refine ⟨_,rfl,_,_,rfl,rfl,Qb,_,_,rfl,rfl,Qb,_,_,rfl,rfl,⟨Qa,Qa⟩,_,_,rfl,rfl,⟨Gk (by omega) c0 c1,Gi⟩,_,rfl,_,rfl,a,_,_,_,rfl,rfl,hS,hv,
   _,_,rfl,rfl,Qb,_,_,rfl,rfl,Qb,_,_,rfl,rfl,⟨Qa,Qa⟩,_,_,rfl,rfl,wX,_,_,rfl,rfl,?_⟩
  have sb:=Mx (i:=i) wX c0 c1 (yz v (Ne.symm (Int.ne_of_lt wX))) (yF v wX);exact ⟨_,_,rfl,rfl,sb.1,sb.2⟩
 ·rintro σ H2 ⟨c,j,rfl,rfl,c0,c1⟩;refine ⟨_,rfl,_,_,rfl,rfl,VY,_,_,rfl,rfl,_,rfl,ite2 (λ_=>?_) (λ_=>?_)⟩
  ·refine ⟨_,rfl,(by show 1<=sizeLine;decide),λp hp=>?_⟩;exact q p c _ hp (QU hp _) y0
  ·refine ⟨_,rfl,_,rfl,a,rfl,⟨_,hS⟩,VW (K:=K) (a:=a) (xs:=ns.map V.int) (λi ys H3=>H3=H2/\∃ ms:List Int,ys=ms.map V.int/\ms.length=i) ⟨rfl,[],rfl,rfl⟩ ?_ ?_ ?_ ?_⟩
   ·rintro i ys H3 hi ⟨_,ms,rfl,rfl⟩;rw [yZ] at hi ⊢;exact sizes (by omega)
   ·rintro i ys H3 hi ⟨rfl,_⟩;exact hS
   ·rintro i x ys H3 R hx ⟨rfl,ms,rfl,rfl⟩ hR;rw [yR] at hx;obtain ⟨v,hv,rfl⟩:=yG.mp hx;refine ⟨Wk.one rfl,⟨_,rfl,_,_,rfl,rfl,VY,_,_,rfl,rfl,(by show (0:Int)<10 ^ (18:Int).toNat;decide),?_⟩⟩;exact hR _ _ ⟨rfl,ms++[_],by rw [yy];rfl,by rw [yM];rfl⟩
   ·rintro ys H3 ⟨rfl,ms,rfl,_⟩ D hD;refine ⟨D,ms,rfl,SqL.of y0,_,_,rfl,rfl,?_⟩;have g1:Same H3 (j0 H3 D (.lst (ms.map V.int))):=QU hD _;refine ⟨12,rfl,by decide,by decide,Qi (n:=12) (λi σ H4=>∃(f:Int)(j:Option V),σ=[some (.ref a),some (.int k),some (.int (c+ms.sum)),j,some (.int f)]/\H4=j0 H3 D (.lst (ms.map V.int))) ⟨0,_,rfl,rfl⟩ ?_ ?_⟩
    ·rintro i σ H4 hi ⟨f,j,rfl,rfl⟩;refine ⟨_,rfl,_,_,rfl,rfl,.inr ⟨by decide,by decide⟩,_,rfl,_,rfl,_,_,rfl,rfl,.inl ⟨by decide,by decide⟩,_,_,rfl,rfl,_,rfl,a,_,rfl,.inl (g1.seq hS),_,_,rfl,rfl,_,rfl,_,_,rfl,by omega,by omega,λv v0 v1=>?_⟩;exact ⟨_,_,rfl,rfl,_,_,rfl,rfl⟩
    ·rintro σ H4 ⟨f,j,rfl,rfl⟩;refine ⟨_,rfl,(by show 1<=sizeLine;decide),λp hp=>?_⟩;exact q p f _ (g1.free hp) (g1.trans (QU hp _)) y0
end
def xU (K:Fg):List PV->Prop:=λxs=>∃(ns:List Int)(k:Int),xs=[scr K ns,.at (.int k)]/\ns.length<=63/\0<=k/\k<=12
def xK:List PV->PV->Prop:=λ_ y=>∃ n:Int,y = .lst [.at (.int n)]
theorem My {K:Fg}(h:spN (xU K) xK vs H Q E):Ue K vs H Q E:=by obtain ⟨Hs,xs,sm,r,⟨ns,k,rfl,h63,k0,k1⟩,q⟩:=h;obtain ⟨v,w,rfl,p1,p2⟩:=reps_cons.mp r;obtain ⟨u,z,rfl,p3,p4⟩:=reps_cons.mp p2;cases reps_nil.mp p4;cases rep_at.mp p3;obtain ⟨a,rfl,hS⟩:=Mm sm p1;exact ⟨a,ns,k,rfl,hS,h63,k0,k1,λb n H' nb g e=>q _ b Hs H' ⟨n,rfl⟩ ⟨.refl _,g,sm.trans g,λ_ _ z=>z⟩ nb (sm.free nb) ⟨_,e,.one (rep_at.mpr rfl)⟩⟩
section
theorem Cc (F:Fun K "_law_stream" "_law_stream" QT f fd)(Ec:Fn P w K mg base 1 "_law_mixed" ["cell","k"] Jk)(Ac:mg "len"=none)(Ad:mg "range"=none)(El:mg "sum"=none):FnOk P w K mg base j8 2 f fd ["script","k"] (spN (xU K) xK):=(Cd F Ec Ac Ad El).imp λ_ _ _ _ h=>My h
end
def w5:Int:=10 ^ 30
theorem Xb:0<w5:=by decide +kernel
theorem GV:zn 10 30:=⟨by decide,by decide,by decide⟩
theorem vp:zG (.at (.int 10)) (.at (.int 30))=some (.at (.int w5)):=by show (if zn 10 30 then some (V.int (10 ^ (30:Int).toNat)) else none).map PV.at=_;rw [if_pos GV];rfl
theorem BC {k:Int}(h0:0<=k)(h1:k<=2*w5):k.natAbs.log2<9000:=by
 have hb:(2*w5).toNat<2 ^ 9000:=yC (show (2*w5).toNat<2 ^ 110 by decide +kernel) (Nat.pow_le_pow_right (by decide) (by decide));have:k.natAbs<2 ^ 9000:=by omega
 by_cases hz:k.natAbs=0
 ·rw [hz];decide
 ·exact (Nat.log2_lt hz).mpr this
theorem xy {n k:Int}(h0:0<k)(h1:k<=2*w5):vy n k:=⟨h0,BC (by omega) h1⟩
theorem wW:(1000:Int)<=w5:=by decide +kernel
def u3 (rss:List (List Int)):PV:= .lst (rss.map λr=> .lst (r.map λn=> .at (.int n)))
def vt:List PV->Prop:=λxs=>∃ h:Nat,xs=[.at (.int h)]/\1<=h/\h<=4
def vB:List PV->PV->Prop:=λxs y=>∃(h:Nat)(rss:List (List Int)),xs=[.at (.int h)]/\y=u3 rss/\c9 h rss
abbrev ZZ:Stmt:=top 58
abbrev Vu (K:Fg):WS:=(wSeq (k4 2 (k6 w4 (wP (n8 (q8 (n8 (q8 (dC (.int 1)) (q8 (dC (.int 4)) x0))) (q8 (n8 (q8 (dC (.int 4)) (q8 (dC (.int 10)) x0))) (q8 (n8 (q8 (dC (.int 10)) (q8 (dC (.int 30)) x0))) (q8 (n8 (q8 (dC (.int 4)) (q8 (z5 zG (dC (.int 10)) (dC (.int 30))) x0))) x0)))))) (g8 0 (wP (dC (.int 4))))))
  (wSeq (QZ 3 (n8 x0))
  (wSeq (wFor (wIp (xA (q8 (z5 k7 (x6 1) (dC (.int 1))) x0))) (j9 4) (wV 3 (Jy [none,some 0,some 2] [0] (wIp (xA (q8 (q9 1) x0))) (j9 0) wYes (g8 1 (k6 w4 (wP (q9 2)) (g8 1 (wP (dC (.int 2)))))))))
  (wFz 3 (xg (wP (q9 3)))))))
theorem sc_rinses:v9 ["stream","hues","sizes","rinses","j"] ["stream","hues"] (j6 ZZ):=y2
theorem KO:∀ xs,vt xs->xs.length+1=(["stream","hues"]:List Str).length:=by rintro xs ⟨h,rfl,_⟩;rfl
theorem wG {a:MA}{k:Nat}(h:a ε=some [.at (.int (k:Int))])(hk:k<=lim):xA a ε=some (qv 0 k):=by have hlim:(lim:Int)=1000000:=rfl;have hl:lim=1000000:=rfl;unfold xA;rw [h];show (if -(lim:Int)<=(k:Int)/\(k:Int)<=(lim:Int) then some (qv 0 (k:Int).toNat) else none)=_;rw [if_pos ⟨by omega,by omega⟩,Int.toNat_natCast]
theorem KU {K:Fg}:∀ xs n,vt xs->Vu K (g7 n::xs.map .sh++List.replicate ((["stream","hues","sizes","rinses","j"]:List Str).length-(xs.length+1)) .no) (λ_=>False) λy ε=>vB xs y/\xH 0 ε:=by
 rintro xs n ⟨h,rfl,h1,h4⟩;have hl:lim=1000000:=rfl;have hB:=wW;have eB:w5=10 ^ 30:=rfl;have a0:0<=n % 4:=yz _ (by decide);have a1:n % 4<4:=yF _ (by decide);have ixt:∃ a b:Int,w4 (.lst [.lst [.at (.int 1),.at (.int 4)],.lst [.at (.int 4),.at (.int 10)],.lst [.at (.int 10),.at (.int 30)],.lst [.at (.int 4),.at (.int w5)]]) (.at (.int (n % 4)))=some (.lst [.at (.int a),.at (.int b)])/\(0<a/\a<=w5)/\0<b/\b<=w5:=by
  have c:n % 4=0∨n % 4=1∨n % 4=2∨n % 4=3:=by omega
  rcases c with e|e|e|e<;>rw [e]
  ·exact ⟨1,4,rfl,⟨by decide,by omega⟩,by decide,by omega⟩
  ·exact ⟨4,10,rfl,⟨by decide,by omega⟩,by decide,by omega⟩
  ·exact ⟨10,30,rfl,⟨by decide,by omega⟩,by decide,by omega⟩
  ·exact ⟨4,w5,rfl,⟨by decide,by omega⟩,Xb,uF _⟩
 obtain ⟨a,b,eab,ha,hb⟩:=ixt;have two:∀ m:Int,∃ z:Int,w4 (.lst [.at (.int a),.at (.int b)]) (.at (.int (m % 2)))=some (.at (.int z))/\0<z/\z<=w5:=λm=>by
  have c0:0<=m % 2:=yz _ (by decide);have c1:m % 2<2:=yF _ (by decide);have c:m % 2=0∨m % 2=1:=by omega
  rcases c with e|e<;>rw [e]
  ·exact ⟨a,rfl,ha⟩
  ·exact ⟨b,rfl,hb⟩
 refine ⟨_,zx (v8 (zx rfl l2) (v8 (zx rfl l2) (v8 (zx rfl l2) (v8 (zx (v8 rfl (v8 (w6 rfl rfl vp) rfl)) l2) rfl)))) l4,⟨n,rfl⟩,_,rfl,n,4,rfl,rfl,⟨by decide,by decide⟩,_,eab,?_⟩;generalize n / 4=n1;refine ⟨_,rfl,qv 0 (h+1),wG rfl (by omega),?_⟩;refine jU (λrest ε=>∃(m:Int)(rss:List (List Int))(s4:MSlot),ε=[g7 m,.sh (.at (.int (h:Int))),.sh (.lst [.at (.int a),.at (.int b)]),.ow (.lst (rss.map (λr=>PV.lst (r.map λn=> .at (.int n))))),s4]/\rss.length+rest.length=h+1/\(∀ r∈rss,r.length=h)/\(∀ r∈rss,∀ n∈r,0<=n/\n<w5)) ?_ ?_ _ _ ⟨n1,[],_,rfl,by rw [ju];simp,(λ_ z=>nomatch z),(λ_ z=>nomatch z)⟩
 ·rintro ε ⟨m,rss,s4,rfl,e1,e2,e3⟩;exact ⟨_,rfl,⟨h,rss,rfl,rfl,by simpa using e1,λr hr=>⟨e2 r hr,e3 r hr⟩⟩,m,rfl⟩
 ·rintro x rest ε ⟨m,rss,s4,rfl,e1,e2,e3⟩;simp only [yu] at e1;refine ⟨_,rfl,⟨_,rfl⟩,?_⟩;refine ⟨qv 0 h,wG rfl (by omega),rfl,by rw [ju];omega,?_⟩;refine GS (λrest2 zs ε=>∃(m:Int)(r:List Int),ε=[.no,g7 m,.sh (.lst [.at (.int a),.at (.int b)])]/\zs=r.map (λn=>PV.at (.int n))/\r.length+rest2.length=h/\(∀ n∈r,0<=n/\n<w5)) ?_ ?_ _ [] _ ⟨m,[],rfl,rfl,by rw [ju];simp,(λ_ z=>nomatch z)⟩
  ·rintro zs ε ⟨m2,r,rfl,rfl,g1,g2⟩;refine ⟨λ_=>⟨_,rfl⟩,_,rfl,by rw [yZ];omega,m2,rss++[r],.sh x,by rw [yy];rfl,by rw [yM];simp;omega,?_,?_⟩
   ·intro q hq;rcases yg.mp hq with hq|hq
    ·exact e2 q hq
    ·rw [yO.mp hq];simpa using g1
   ·intro q hq;rcases yg.mp hq with hq|hq
    ·exact e3 q hq
    ·rw [yO.mp hq];exact g2
  ·rintro x2 rest2 zs ε ⟨m2,r,rfl,rfl,g1,g2⟩;simp only [yu] at g1;obtain ⟨z,ez,z0,z1⟩:=two m2;refine ⟨_,rfl,⟨_,rfl⟩,_,rfl,⟨_,rfl⟩,_,rfl,m2,2,rfl,rfl,⟨by decide,by decide⟩,_,ez,m2 / 2,z,rfl,rfl,xy z0 (by omega),?_⟩;have d0:0<=m2 / 2 % z:=yz _ (by omega);have d1:m2 / 2 % z<z:=yF _ z0;refine ⟨m2 / 2 / z,r++[m2 / 2 % z],rfl,by rw [yy];rfl,by rw [yM];simp;omega,λq hq=>?_⟩;rcases yg.mp hq with hq|hq
   ·exact g2 q hq
   ·rw [yO.mp hq];exact ⟨d0,by omega⟩
theorem Ca (F:Fun K "_law_rinses" "_law_rinses" ZZ f fd)(Ae:Fn P w K mg base 1 "_law_take" ["stream","many"] zl)(Ad:mg "range"=none):FnOk P w K mg base j8 2 f fd ["stream","hues"] (spD vt vB) :=
 okD (k:=1) (b:=Vu K) F sc_rinses KO (λcdv A outer s H E hr=>⟨_,(@z9 _ _ _ _ _ (@m8 _ _ 2 _ _ _ _ sc_rinses.nd rfl (Or.inr rfl) (@wz _ _ _ _ _ _ _ (WD (K:=K) rfl) (@qm _ _ _ _ (@z6 _ _ _ _ _ (@qm _ _ _ _ (@z6 _ _ _ _ _ x8 (@z6 _ _ _ _ _ x8 v6 (by rfl)) (by rfl))) (@z6 _ _ _ _ _ (@qm _ _ _ _ (@z6 _ _ _ _ _ x8 (@z6 _ _ _ _ _ x8 v6 (by rfl)) (by rfl))) (@z6 _ _ _ _ _ (@qm _ _ _ _ (@z6 _ _ _ _ _ x8 (@z6 _ _ _ _ _ x8 v6 (by rfl)) (by rfl))) (@z6 _ _ _ _ _ (@qm _ _ _ _ (@z6 _ _ _ _ _ x8 (@z6 _ _ _ _ _ (v5 (xq) x8 x8) v6 (by rfl)) (by rfl))) v6 (by rfl)) (by rfl)) (by rfl)) (by rfl))) (p6 Ae hr (by decide) rfl (@z6 _ _ _ _ _ (pv 0) (@z6 _ _ _ _ _ x8 v6 (by rfl)) (by rfl))) (λ_ _=>rfl)) (by rfl) (.inl rfl))
  (@z9 _ _ _ _ _ (@m8 _ _ 3 _ _ _ _ sc_rinses.nd rfl (Or.inl rfl) (@qm _ _ _ _ v6) (by rfl) (.inl rfl))
  (@z9 _ _ _ _ _ (qy PassesOwn.never rfl (xF rfl Ad (@z6 _ _ _ _ _ (v5 (o6 (K:=K) rfl) (pv 1) x8) v6 (by rfl))) (u5 (i:=4) sc_rinses.nd rfl (Or.inl rfl))
   (@j4 _ _ _ (xr (vi (K:=K) rfl PySem.F.plainAttrs_list PySem.F.slot_list_append PySem.F.type_list_append QD (pv 3) (z6 (qi (N':=["k","stream","sizes"]) (cap:=[none,some 0,some 2]) (p9 rfl rfl rfl) rfl (xF rfl Ad (@z6 _ _ _ _ _ (pv 1) v6 (by rfl))) (λ_ _ _ _ _ _=>(u5 (i:=0) (by show (["k","stream","sizes"]:List Str).Nodup;decide +kernel) rfl (Or.inl rfl))) (λ_ _ _ _ _ _=>m9) (λ_ _ _ _ _ _=>(p6 Ae hr (by decide) rfl (@z6 _ _ _ _ _ (pv 1) (@z6 _ _ _ _ _ (iW (K:=K) rfl (pv 2) (p6 Ae hr (by decide) rfl (@z6 _ _ _ _ _ (pv 1) (@z6 _ _ _ _ _ x8 v6 (by rfl)) (by rfl)))) v6 (by rfl)) (by rfl))))) v6)))))
  (@j4 _ _ _ (y1 (pv 3)))))),
  (by repeat' first|infer_instance|(refine @Mi.instSemWSTSeqWSeq _ _ _ _ ?_ ?_)|(apply @Mi.instSemWSTForWForOfSemWIOfSemWG))⟩) KU
def v7 (ss:List Str):List PV:=ss.map λs=> .at (.str s)
theorem zO (ss:List Str):(v7 ss).length=ss.length:=yZ _
def Low (x:Str):Prop:=∀ c∈x.cps.toList,97<=c/\c<=122
structure jC (x:Str):Prop where
 low:Low x
 one:1<=x.length
 eight:x.length<=8
def wB:List PV->Prop:=λxs=>∃ ss:List Str,xs=[.lst (v7 ss)]/\ss.length<=10/\∀ s∈ss,jC s
def jE:List PV->PV->Prop:=λxs y=>∃(ss:List Str)(x:Str),xs=[.lst (v7 ss)]/\y = .at (.str x)/\jC x/\x∉ss
abbrev ZX:Stmt:=top 59
abbrev Vs (K:Fg):WS:=(wSeq (k4 2 (wP (dC (.str ""))))
  (wSeq (xf (wU (wPT (dT (z5 pNe (x6 1) (n8 x0)))) (wT (k6 pEq (g8 0 (wP (dC (.int 3)))) (wP (dC (.int 0)))))) (k4 2 (wP (dSlS (z5 w4 (x6 1) (dUn pNeg (dC (.int 1)))) pNo (pSo (dC (.int 7)))))) xI)
  (wSeq (wFor (JB (k6 k7 (wP (dC (.int 1))) (g8 0 (wP (dC (.int 8)))))) (j9 3) (xf (wPT (dT (z5 pLt (x9 qa (q8 (x6 2) x0)) (dC (.int 8))))) (k4 2 (k6 k7 (wP (q9 2)) (k6 w4 (wP (dC (.str "abcdefghijklmnopqrstuvwxyz"))) (g8 0 (wP (dC (.int 26))))))) xI))
  (wSeq (xf (wPT (dT (z5 (pIn false) (x6 2) (x6 1)))) (k4 2 (wP (z5 w4 (u8 [none,some 1] [0] (vK (dC (.str "abcdefghijk"))) (j9 0) (dT (z5 (pIn true) (x6 0) (x6 1))) (q9 0)) (dC (.int 0))))) xI)
  (xg (wP (q9 2)))))))
theorem sc_name:v9 ["stream","names","word","k"] ["stream","names"] (j6 ZX):=y2
theorem KN:∀ xs,wB xs->xs.length+1=(["stream","names"]:List Str).length:=by rintro xs ⟨ss,rfl,_⟩;rfl
theorem JI:∀ ss:List Str,ats (v7 ss)=some (ss.map V.str)
 |[]=>rfl
 |s::ss=>by
  show (ats (v7 ss)).map (V.str s::·)=_;rw [JI ss];rfl
theorem Wt (x:Str):∀ ss:List Str,inV (.str x) (ss.map V.str)=decide (x∈ss)
 |[]=>by simp [inV]
 |s::ss=>by
  have ih:=Wt x ss;unfold inV at ih ⊢;rw [yN,List.any_cons,ih];have e:n6 (.str s) (.str x)=decide (s=x):=rfl;rw [e];by_cases h:s=x
  ·subst h;simp
  ·simp [h,Ne.symm h]
theorem Kx (ss:List Str):(ss.map V.str).all y6=true:=by rw [uT];intro v hv;obtain ⟨s,_,rfl⟩:=yt.mp hv;rfl
theorem Qk (neg:Bool)(x:Str)(ss:List Str):pIn neg (.at (.str x)) (.lst (v7 ss))=some (.at (.bl (if neg then !decide (x∈ss) else decide (x∈ss)))):=by show (ats (v7 ss)).bind _=_;rw [JI,yE,if_pos ⟨rfl,Kx ss⟩,Wt]
theorem Mv (h:Low x)(l u:Option Int):Low (Txt.slice x l u):=λc hc=>by
 unfold Txt.slice at hc;split at hc
 ·exact h c hc
 ·dsimp only at hc
  obtain ⟨i,_,e⟩:=List.mem_filterMap.mp hc;refine h c ?_;rw [Array.mem_toList_iff];exact Array.mem_of_getElem? e
theorem Mu {z:Str}{k:Nat}(h:z.length<=k)(l u:Option Int):(Txt.slice z l u).length<=k:=yd (Txt.slice_le z l u) h
def eleven:List Str:=[⟨#[97]⟩,⟨#[98]⟩,⟨#[99]⟩,⟨#[100]⟩,⟨#[101]⟩,⟨#[102]⟩,⟨#[103]⟩,⟨#[104]⟩,⟨#[105]⟩,⟨#[106]⟩,⟨#[107]⟩]
theorem UX {y:Str}(hx:Low x)(hy:Low y):Low (x++y):=λc hc=>by
 have e:(x++y).cps.toList=x.cps.toList++y.cps.toList:=by show (x.cps++y.cps).toList=_;simp
 rw [e] at hc;rcases yg.mp hc with h|h
 ·exact hx c h
 ·exact hy c h
theorem UW (x y:Str):(x++y).length=x.length+y.length:=by show (x.cps++y.cps).size=_;simp [Str.length]
theorem UV {k:Int}(h0:0<=k)(h1:k<26):∃ c:Nat,w4 (.at (.str "abcdefghijklmnopqrstuvwxyz")) (.at (.int k))=some (.at (.str ⟨#[c]⟩))/\97<=c/\c<=122:=by
 have q:∀ j:_root_.Fin 26,L2.atI (("abcdefghijklmnopqrstuvwxyz":Str).cps.toList) ((j:Nat):Int)=some (97+(j:Nat)):=by decide +kernel
 have e:=q ⟨k.toNat,by omega⟩;have e2:((k.toNat:Nat):Int)=k:=by omega
 have e':L2.atI (("abcdefghijklmnopqrstuvwxyz":Str).cps.toList) ((k.toNat:Nat):Int)=some (97+k.toNat):=e;rw [e2] at e';refine ⟨97+k.toNat,?_,by omega,by omega⟩;show (if ("abcdefghijklmnopqrstuvwxyz":Str).length<=lim then (L2.atI (("abcdefghijklmnopqrstuvwxyz":Str).cps.toList) k).map _ else none)=_;rw [if_pos (by decide +kernel),e'];rfl
theorem GT (ss ls:List Str):i8 (j9 0) (dT (z5 (pIn true) (x6 0) (x6 1))) (q9 0) [.no,.sh (.lst (v7 ss))] (v7 ls)=some (v7 (ls.filter λx=>!decide (x∈ss))) :=
 Xn (λs:Str=>PV.at (.str s)) (λs:Str=>PV.at (.str s)) (λx=>!decide (x∈ss)) ls λx _=>⟨_,rfl,p0 (w6 rfl rfl (Qk true x ss)),λ_=>rfl⟩
theorem Kt {z:Str}(h:a ε=some (.at (.str z)))(hz:z.length<=lim):dSlS a pNo (pSo (dC (.int j))) ε=some (.at (.str (Txt.slice z none (some j)))):=by unfold dSlS;rw [h];show (if z.length<=lim then some (PV.at (.str (Txt.slice z none (some j)))) else none)=_;rw [if_pos hz]
theorem KS {K:Fg}:∀ xs n,wB xs->Vs K (g7 n::xs.map .sh++List.replicate ((["stream","names","word","k"]:List Str).length-(xs.length+1)) .no) (λ_=>False) λy ε=>jE xs y/\xH 0 ε:=by
 rintro xs n ⟨ss,rfl,h10,hok⟩;have hl:lim=1000000:=rfl;have hlI:(lim:Int)=1000000:=rfl;refine ⟨_,rfl,?_⟩;have fin:∀ (m:Int) (x:Str) (s3:MSlot),Low x->1<=x.length->x.length<=8->(wSeq (xf (wPT (dT (z5 (pIn false) (x6 2) (x6 1)))) (k4 2 (wP (z5 w4 (u8 [none,some 1] [0] (vK (dC (.str "abcdefghijk"))) (j9 0) (dT (z5 (pIn true) (x6 0) (x6 1))) (q9 0)) (dC (.int 0))))) xI) (xg (wP (q9 2)))) [g7 m,.sh (.lst (v7 ss)),.sh (.at (.str x)),s3] (λ_=>False) λy ε=>jE [.lst (v7 ss)] y/\xH 0 ε:=by
  intro m x s3 lx l1 l8;by_cases hin:x∈ss
  ·refine JD (p0 (v:=true) (w6 rfl rfl ((Qk false x ss).trans (by simp [hin])))) ?_;have hs:zM "abcdefghijk"=v7 eleven:=by unfold zM;rw [show ("abcdefghijk":Str).cps.toList=[97,98,99,100,101,102,103,104,105,106,107] by decide +kernel];rfl
   have hne:eleven.filter (λx=>!decide (x∈ss))≠[]:=λz=>by
    have:eleven.length<=ss.length:=XW (by decide +kernel) λy hy=>by
     by_cases hys:y∈ss
     ·exact hys
     ·have:y∈eleven.filter (λx=>!decide (x∈ss)):=uA.mpr ⟨hy,by simp [hys]⟩;rw [z] at this;exact nomatch this
    have e11:eleven.length=11:=rfl;omega
   obtain ⟨y,rest,hy⟩:=List.exists_cons_of_ne_nil hne;have hym:y∈eleven.filter (λx=>!decide (x∈ss)):=by rw [hy];exact yH
   obtain ⟨h1,h2⟩:=uA.mp hym;have hyn:y∉ss:=by simpa using h2
   have hyo:jC y:=by
    have q:∀ z∈eleven,(z.length=1/\∀ c∈z.cps.toList,97<=c/\c<=122):=by decide +kernel
    exact ⟨(q y h1).2,by rw [(q y h1).1];exact yU _,by rw [(q y h1).1];decide⟩
   refine ⟨.at (.str y),?_,_,rfl,⟨ss,y,rfl,rfl,hyo,hyn⟩,_,rfl⟩;refine w6 (Xv (xs:=v7 eleven) (ys:=v7 (y::rest)) ?_ rfl (by decide) ?_) rfl (qQ (j:=0) rfl)
   ·show some (zM "abcdefghijk")=_;rw [hs]
   ·rw [<- hy];exact GT ss eleven
  ·refine Xa (p0 (v:=false) (w6 rfl rfl ((Qk false x ss).trans (by simp [hin])))) ?_;exact ⟨_,rfl,⟨ss,x,rfl,rfl,⟨lx,l1,l8⟩,hin⟩,_,rfl⟩
 have loop:∀ (m:Int) (x:Str),Low x->x.length<=8->(wSeq (wFor (JB (k6 k7 (wP (dC (.int 1))) (g8 0 (wP (dC (.int 8)))))) (j9 3) (xf (wPT (dT (z5 pLt (x9 qa (q8 (x6 2) x0)) (dC (.int 8))))) (k4 2 (k6 k7 (wP (q9 2)) (k6 w4 (wP (dC (.str "abcdefghijklmnopqrstuvwxyz"))) (g8 0 (wP (dC (.int 26))))))) xI))
   (wSeq (xf (wPT (dT (z5 (pIn false) (x6 2) (x6 1)))) (k4 2 (wP (z5 w4 (u8 [none,some 1] [0] (vK (dC (.str "abcdefghijk"))) (j9 0) (dT (z5 (pIn true) (x6 0) (x6 1))) (q9 0)) (dC (.int 0))))) xI) (xg (wP (q9 2))))) [g7 m,.sh (.lst (v7 ss)),.sh (.at (.str x)),.no] (λ_=>False) λy ε=>jE [.lst (v7 ss)] y/\xH 0 ε:=by
  intro m x lx l8;have c0:0<=m % 8:=yz _ (by decide);have c1:m % 8<8:=yF _ (by decide);refine ⟨_,rfl,⟨⟨m,rfl⟩,_,rfl,m,8,rfl,rfl,⟨by decide,by decide⟩,_,rfl,1+m % 8,rfl,by omega,by omega,?_⟩⟩;refine jU (λrest ε=>∃(m:Int)(y:Str)(s3:MSlot),ε=[g7 m,.sh (.lst (v7 ss)),.sh (.at (.str y)),s3]/\Low y/\y.length<=8/\(rest.length<(1+m % 8*0+1)->True)/\(1<=y.length∨1<=rest.length)) ?_ ?_ _ _ ⟨_,x,_,rfl,lx,l8,λ_=>trivial,.inr (by rw [ju];omega)⟩
  ·rintro ε ⟨m2,y,s3,rfl,ly,y8,_,h1⟩;exact fin m2 y s3 ly (h1.resolve_right (by simp)) y8
  ·rintro z rest ε ⟨m2,y,s3,rfl,ly,y8,_,h1⟩;refine ⟨_,rfl,?_⟩;have ln:z5 pLt (x9 qa (q8 (x6 2) x0)) (dC (.int 8)) [g7 m2,.sh (.lst (v7 ss)),.sh (.at (.str y)),.sh z]=some (.at (.bl (decide ((y.length:Int)<8)))):=by refine w6 (j7 rfl (show (if y.length<=lim then some (PV.at (.int y.length)) else none)=_ from if_pos (by omega))) rfl rfl
   by_cases h8:y.length<8
   ·refine JD (p0 (v:=true) (ln.trans (by rw [yj (by omega)]))) ?_;have d0:0<=m2 % 26:=yz _ (by decide);have d1:m2 % 26<26:=yF _ (by decide);obtain ⟨c,hc,c97,c122⟩:=UV d0 d1;have ly2:Low (y++⟨#[c]⟩):=UX ly λd hd=>by
     have:d=c:=by simpa using hd
     rw [this];exact ⟨c97,c122⟩
    have len2:(y++(⟨#[c]⟩:Str)).length=y.length+1:=UW _ _;refine ⟨_,rfl,_,rfl,⟨m2,rfl⟩,_,rfl,m2,26,rfl,rfl,⟨by decide,by decide⟩,_,hc,_,(show (if y.length+(⟨#[c]⟩:Str).length<=lim then _ else none)=_ from if_pos (by show y.length+1<=_;omega)),?_⟩;exact ⟨_,_,_,rfl,ly2,by omega,λ_=>trivial,.inl (by omega)⟩
   ·refine Xa (p0 (v:=false) (ln.trans (by rw [yB (by omega)]))) ?_;exact ⟨_,_,_,rfl,ly,y8,λ_=>trivial,.inl (by omega)⟩
 by_cases hne:ss=[]
 ·subst hne;have e:wU (wPT (dT (z5 pNe (x6 1) (n8 x0)))) (wT (k6 pEq (g8 0 (wP (dC (.int 3)))) (wP (dC (.int 0))))) [g7 n,.sh (.lst (v7 [])),.sh (.at (.str "")),.no]=wU (wPT (dT (z5 pNe (x6 1) (n8 x0)))) (wT (k6 pEq (g8 0 (wP (dC (.int 3)))) (wP (dC (.int 0))))) [g7 n,.sh (.lst []),.sh (.at (.str "")),.no]:=rfl;refine ⟨false,rfl,?_⟩;exact loop n "" (λc hc=>nomatch hc) (by decide)
 ·obtain ⟨s0,r0,rfl⟩:=List.exists_cons_of_ne_nil hne;refine ⟨true,rfl,?_⟩;have z3:0<=n % 3:=yz _ (by decide);refine ⟨⟨n,rfl⟩,_,rfl,n,3,rfl,rfl,⟨by decide,by decide⟩,_,rfl,?_⟩;by_cases h3:n % 3=0
  ·refine ⟨_,(show pEq (.at (.int (n % 3))) (.at (.int 0))=some (.at (.bl true)) from ?_),true,rfl,?_⟩
   ·rw [h3];rfl
   ·have hg:(s0::r0).getLast (List.cons_ne_nil _ _)∈s0::r0:=List.getLast_mem _;have hk:=hok _ hg;have ix:w4 (.lst (v7 (s0::r0))) (.at (.int (-1)))=some (.at (.str ((s0::r0).getLast (List.cons_ne_nil _ _)))):=by show atI (v7 (s0::r0)) (-1)=_;unfold atI ixN;rw [if_neg (by decide),if_pos (by rw [zO,yu];omega),yE,zO,show ((-1:Int)+((s0::r0).length:Nat)).toNat=(s0::r0).length-1 by rw [yu];omega];unfold v7;rw [yR,yV (by simp),List.getLast_eq_getElem];rfl
    have e8:=hk.eight;exact ⟨_,Kt (w6 rfl rfl ix) (by omega),loop _ _ (Mv hk.low _ _) (Mu hk.eight _ _)⟩
  ·refine ⟨_,(show pEq (.at (.int (n % 3))) (.at (.int 0))=some (.at (.bl false)) from ?_),false,rfl,?_⟩
   ·show some (PV.at (.bl (n6 (.int (n % 3)) (.int 0))))=_;rw [show n6 (.int (n % 3)) (.int 0)=decide (n % 3=0) from rfl,yB h3]
   ·exact loop _ "" (λc hc=>nomatch hc) (by decide)
theorem PY (F:Fun K "_law_name" "_law_name" ZX f fd)(Ae:Fn P w K mg base 1 "_law_take" ["stream","many"] zl)(Ac:mg "len"=none)(Ad:mg "range"=none):FnOk P w K mg base j8 2 f fd ["stream","names"] (spD wB jE) :=
 okD (k:=1) (b:=Vs K) F sc_name KN (λcdv A outer s H E hr=>⟨_,(@z9 _ _ _ _ _ (@m8 _ _ 2 _ _ _ _ sc_name.nd rfl (Or.inl rfl) zJ (by rfl) (.inl rfl))
  (@z9 _ _ _ _ _ (c4 (PW.pt (QQ (t6 (jp (K:=K) (hu6 hr) rfl) (pv 1) (@qm _ _ _ _ v6) (m7 _)) (QR (t6 (zF (K:=K) (hu6 hr) rfl) (p6 Ae hr (by decide) rfl (@z6 _ _ _ _ _ (pv 0) (@z6 _ _ _ _ _ x8 v6 (by rfl)) (by rfl))) x8 (m7 _))))) (@j4 _ _ _ (@m8 _ _ 2 _ _ _ _ sc_name.nd rfl (Or.inl rfl) (CK (iW (K:=K) rfl (pv 1) (Zb Jq x8)) CY (CZ x8)) (by rfl) (.inl rfl))) c5)
  (@z9 _ _ _ _ _ (qy PassesOwn.never rfl (xF rfl Ad (@z6 _ _ _ _ _ (v5 (o6 (K:=K) rfl) x8 (p6 Ae hr (by decide) rfl (@z6 _ _ _ _ _ (pv 0) (@z6 _ _ _ _ _ x8 v6 (by rfl)) (by rfl)))) v6 (by rfl))) (u5 (i:=3) sc_name.nd rfl (Or.inl rfl))
   (@j4 _ _ _ (c4 (t6 (XX) (y4 (qp (K:=K) rfl) rfl Ac PySem.boot_len (@z6 _ _ _ _ _ (pv 2) v6 (by rfl))) x8 (m7 _)) (@j4 _ _ _ (@m8 _ _ 2 _ _ _ _ sc_name.nd rfl (Or.inl rfl) (v5 (o6 (K:=K) rfl) (pv 2) (iW (K:=K) rfl zJ (p6 Ae hr (by decide) rfl (@z6 _ _ _ _ _ (pv 0) (@z6 _ _ _ _ _ x8 v6 (by rfl)) (by rfl))))) (by rfl) (.inl rfl))) c5)))
  (@z9 _ _ _ _ _ (c4 (t6 (Ya (K:=K) rfl) (pv 2) (pv 1) (by with_unfolding_all rfl)) (@j4 _ _ _ (@m8 _ _ 2 _ _ _ _ sc_name.nd rfl (Or.inl rfl) (iW (K:=K) rfl (qi (N':=["sign","names"]) (cap:=[none,some 1]) (p9 rfl rfl rfl) rfl (Yj zJ) (λ_ _ _ _ _ _=>(u5 (i:=0) (by show (["sign","names"]:List Str).Nodup;decide +kernel) rfl (Or.inl rfl))) (λ_ _ _ _ _ _=>(Yp (t6 (Ct (K:=K) rfl) (pv 0) (pv 1) (by with_unfolding_all rfl)))) (λ_ _ _ _ _ _=>(pv 0))) x8) (by rfl) (.inl rfl))) c5)
  (@j4 _ _ _ (y1 (pv 2))))))),
  (by repeat' first|infer_instance|(refine @Mi.instSemWSTSeqWSeq _ _ _ _ ?_ ?_)|(apply @Mi.instSemWSTForWForOfSemWIOfSemWG))⟩) KS
structure Cl where
 name:Str
 hue:Nat
 len:Int
 due:Int
 wt:Int
variable{ns:List Cl}
def Cl.pv (c:Cl):PV:= .tup [.at (.str c.name),.at (.int c.hue),.at (.int c.len),.at (.int c.due),.at (.int c.wt)]
structure Cl.Ok (h:Nat)(c:Cl):Prop where
 nm:jC c.name
 hu:c.hue<h
 l1:1<=c.len
 l2:c.len<=w5
 d1:-w5<=c.due
 d2:c.due<=w5
 w1:1<=c.wt
 w2:c.wt<=w5
theorem QB {α β:Type}{f:α->β}(hf:∀ x y,f x=f y->x=y):∀{a b:List α},a.map f=b.map f->a=b
 |[],[],_=>rfl
 |[],_::_,h=>by cases h
 |_::_,[],h=>by cases h
 |x::a,y::b,h=>by
  rw [yN,yN] at h;injection h with h1 h2;rw [hf x y h1,QB hf h2]
theorem Jm {a b:List Str}(h:v7 a=v7 b):a=b:=QB (λx y e=>by injection e with e;injection e) h
def vq:List PV->Prop:=λxs=>∃(ss:List Str)(h:Nat)(g:Bool),xs=[.lst (v7 ss),.at (.int h),.at (.bl g)]/\ss.length<=10/\(∀ s∈ss,jC s)/\1<=h/\h<=4
def jD:List PV->PV->Prop:=λxs y=>∃(ss:List Str)(h:Nat)(g:Bool)(c:Cl),xs=[.lst (v7 ss),.at (.int h),.at (.bl g)]/\y=c.pv/\c.Ok h/\c.name∉ss
abbrev ZA:Stmt:=top 60
abbrev JW (K:Fg):WS:=(wSeq (k4 4 (UI 0 wB jE (i7 (wP (q9 1)) zR)))
  (wSeq (k4 5 (g8 0 (wP (q9 2))))
  (wSeq (xf (wU (wPT (n5 (x6 3))) (wT (k6 pEq (g8 0 (wP (dC (.int 3)))) (wP (dC (.int 0)))))) (wSeq (k4 6 (k6 k7 (k6 qH (g8 0 (wP (z5 qH (z5 pMul (dC (.int 2)) (z5 zG (dC (.int 10)) (dC (.int 30)))) (dC (.int 1))))) (wP (z5 zG (dC (.int 10)) (dC (.int 30))))) (wP (dC (.int 1)))))
  (xg (wTup (i7 (wP (q9 4)) (i7 (wP (q9 5)) (i7 (k6 k7 (wP (dC (.int 1))) (g8 0 (wP (z5 qH (z5 zG (dC (.int 10)) (dC (.int 30))) (dC (.int 1)))))) (i7 (wP (q9 6)) (i7 (k6 k7 (wP (dC (.int 1))) (g8 0 (wP (z5 qH (z5 zG (dC (.int 10)) (dC (.int 30))) (dC (.int 1)))))) zR)))))))) xI)
  (wSeq (k4 7 (k6 w4 (wP (n8 (q8 (dC (.int 3)) (q8 (dC (.int 9)) x0)))) (g8 0 (wP (dC (.int 2))))))
  (xg (wTup (i7 (wP (q9 4)) (i7 (wP (q9 5)) (i7 (k6 k7 (wP (dC (.int 1))) (g8 0 (wP (q9 7)))) (i7 (k6 qH (g8 0 (wP (dC (.int 44)))) (wP (dC (.int 4)))) (i7 (k6 k7 (wP (dC (.int 1))) (g8 0 (wP (q9 7)))) zR)))))))))))
theorem sc_cloth:v9 ["stream","names","hues","great","name","hue","due","near"] ["stream","names","hues","great"] (j6 ZA):=y2
theorem KM:∀ xs,vq xs->xs.length+1=(["stream","names","hues","great"]:List Str).length:=by rintro xs ⟨ss,h,g,rfl,_⟩;rfl
theorem Gm:Builtin.Int.intBits 2<=2 ^ 20:=by decide +kernel
theorem Gj:Builtin.Int.intBits w5<=2 ^ 20:=by decide +kernel
theorem mul2:pMul (.at (.int 2)) (.at (.int w5))=some (.at (.int (2*w5))):=by show (if vz 2 w5 then some (V.int (2*w5)) else none).map PV.at=_;rw [if_pos ⟨Gm,Gj⟩];rfl
theorem KQ {K:Fg}:∀ xs n,vq xs->JW K (g7 n::xs.map .sh++List.replicate ((["stream","names","hues","great","name","hue","due","near"]:List Str).length-(xs.length+1)) .no) (λ_=>False) λy ε=>jD xs y/\xH 0 ε:=by
 rintro xs n ⟨ss,h,g,rfl,h10,hok,h1,h4⟩;have hB:=wW;refine ⟨⟨n,rfl⟩,_,rfl,⟨n,rfl⟩,⟨ss,rfl,h10,hok⟩,?_⟩;rintro y n1 ⟨ss',x,e,rfl,hx,hn⟩;have e':ss'=ss:=by injection e with e _;injection e with e;exact (Jm e).symm
 subst e';refine ⟨⟨n1,rfl⟩,_,rfl,n1,(h:Int),rfl,rfl,xy (by omega) (by omega),?_⟩;have u0:0<=n1 % (h:Int):=yz _ (by omega);have u1:n1 % (h:Int)<h:=yF _ (by omega);obtain ⟨u,hu⟩:=yf u0;rw [hu] at u1 ⊢;generalize n1 / (h:Int)=n2;have near:∀ n3:Int,((wSeq (k4 7 (k6 w4 (wP (n8 (q8 (dC (.int 3)) (q8 (dC (.int 9)) x0)))) (g8 0 (wP (dC (.int 2))))))
  (xg (wTup (i7 (wP (q9 4)) (i7 (wP (q9 5)) (i7 (k6 k7 (wP (dC (.int 1))) (g8 0 (wP (q9 7)))) (i7 (k6 qH (g8 0 (wP (dC (.int 44)))) (wP (dC (.int 4)))) (i7 (k6 k7 (wP (dC (.int 1))) (g8 0 (wP (q9 7)))) zR)))))))):WS) [g7 n3,.sh (.lst (v7 ss')),.sh (.at (.int (h:Int))),.sh (.at (.bl g)),.sh (.at (.str x)),.sh (.at (.int (u:Int))),.no,.no] (λ_=>False) λy ε=>jD [.lst (v7 ss'),.at (.int h),.at (.bl g)] y/\xH 0 ε:=by
  intro n3;have c0:0<=n3 % 2:=yz _ (by decide);have c1:n3 % 2<2:=yF _ (by decide);have ixt:∃ k:Int,w4 (.lst [.at (.int 3),.at (.int 9)]) (.at (.int (n3 % 2)))=some (.at (.int k))/\0<k/\k<=9:=by
   have c:n3 % 2=0∨n3 % 2=1:=by omega
   rcases c with e|e<;>rw [e]
   ·exact ⟨3,rfl,by decide,by decide⟩
   ·exact ⟨9,rfl,by decide,by decide⟩
  obtain ⟨k,ek,k0,k9⟩:=ixt;refine ⟨_,zx rfl l2,⟨n3,rfl⟩,_,rfl,n3,2,rfl,rfl,⟨by decide,by decide⟩,_,ek,?_⟩;generalize n3 / 2=n4;refine ⟨_,rfl,_,rfl,_,rfl,⟨n4,rfl⟩,_,rfl,n4,k,rfl,rfl,xy k0 (by omega),_,rfl,⟨_,rfl⟩,_,rfl,n4 / k,44,rfl,rfl,⟨by decide,by decide⟩,_,rfl,_,rfl,_,rfl,⟨_,rfl⟩,_,rfl,n4 / k / 44,k,rfl,rfl,xy k0 (by omega),_,rfl,l5,?_,_,rfl⟩;have a0:0<=n4 % k:=yz _ (by omega);have a1:n4 % k<k:=yF _ k0;have b0:0<=n4 / k % 44:=yz _ (by decide);have b1:n4 / k % 44<44:=yF _ (by decide);have d0:0<=n4 / k / 44 % k:=yz _ (by omega);have d1:n4 / k / 44 % k<k:=yF _ k0;generalize n4 % k=p1 at a0 a1 ⊢;generalize n4 / k % 44=p2 at b0 b1 ⊢;generalize n4 / k / 44 % k=p3 at d0 d1 ⊢;exact ⟨ss',h,g,⟨x,u,1+p1,p2-4,1+p3⟩,rfl,rfl,⟨hx,(show u<h by omega),(show (1:Int)<=1+p1 by omega),(show 1+p1<=w5 by omega),(show -w5<=p2-4 by omega),(show p2-4<=w5 by omega),(show (1:Int)<=1+p3 by omega),(show 1+p3<=w5 by omega)⟩,hn⟩
 cases g with
 |false=>refine ⟨false,rfl,?_⟩;refine Eq.mpr (if_neg yS) ?_;refine Eq.mpr (if_neg yS) ?_;exact near n2
 |true =>
  refine ⟨true,rfl,?_⟩;refine Eq.mpr (if_pos rfl) ?_;refine ⟨⟨n2,rfl⟩,_,rfl,n2,3,rfl,rfl,⟨by decide,by decide⟩,_,rfl,_,rfl,n6 (.int (n2 % 3)) (.int 0),rfl,?_⟩;generalize n2 / 3=n3;cases n6 (.int (n2 % 3)) (.int 0) with
  |false=>refine Eq.mpr (if_neg yS) ?_;exact near n3
  |true=>refine Eq.mpr (if_pos rfl) ?_;refine ⟨⟨n3,rfl⟩,_,w6 (w6 rfl (w6 rfl rfl vp) mul2) rfl rfl,n3,2*w5-1,rfl,rfl,xy (by omega) (by omega),_,w6 rfl rfl vp,_,rfl,_,rfl,_,rfl,?_⟩;have b0:0<=n3 % (2*w5-1):=yz _ (by omega);have b1:n3 % (2*w5-1)<2*w5-1:=yF _ (by omega);generalize n3 % (2*w5-1)=p2 at b0 b1 ⊢;generalize n3 / (2*w5-1)=n4;refine ⟨_,rfl,_,rfl,_,rfl,⟨n4,rfl⟩,_,w6 (w6 rfl rfl vp) rfl rfl,n4,w5-1,rfl,rfl,xy (by omega) (by omega),_,rfl,_,rfl,_,rfl,⟨_,rfl⟩,_,w6 (w6 rfl rfl vp) rfl rfl,n4 / (w5-1),w5-1,rfl,rfl,xy (by omega) (by omega),_,rfl,l5,?_,_,rfl⟩;have a0:0<=n4 % (w5-1):=yz _ (by omega);have a1:n4 % (w5-1)<w5-1:=yF _ (by omega);have c0:0<=n4 / (w5-1) % (w5-1):=yz _ (by omega);have c1:n4 / (w5-1) % (w5-1)<w5-1:=yF _ (by omega);generalize n4 % (w5-1)=p1 at a0 a1 ⊢;generalize n4 / (w5-1) % (w5-1)=p3 at c0 c1 ⊢;exact ⟨ss',h,true,⟨x,u,1+p1,p2-w5+1,1+p3⟩,rfl,rfl,⟨hx,(show u<h by omega),(show (1:Int)<=1+p1 by omega),(show 1+p1<=w5 by omega),(show -w5<=p2-w5+1 by omega),(show p2-w5+1<=w5 by omega),(show (1:Int)<=1+p3 by omega),(show 1+p3<=w5 by omega)⟩,hn⟩
theorem Po (F:Fun K "_law_cloth" "_law_cloth" ZA f fd)(Id:Fn P w K mg base 2 "_law_name" ["stream","names"] (spD wB jE))(Ae:Fn P w K mg base 1 "_law_take" ["stream","many"] zl):FnOk P w K mg base j8 3 f fd ["stream","names","hues","great"] (spD vq jD) :=
 okD (k:=2) (b:=JW K) F sc_cloth KM (λcdv A outer s H E hr=>⟨_,(@z9 _ _ _ _ _ (@m8 _ _ 4 _ _ _ _ sc_cloth.nd rfl (Or.inl rfl) (p6 Id hr (by decide) rfl (@z6 _ _ _ _ _ (pv 0) (@z6 _ _ _ _ _ (pv 1) v6 (by rfl)) (by rfl))) (by rfl) (.inl rfl))
  (@z9 _ _ _ _ _ (@m8 _ _ 5 _ _ _ _ sc_cloth.nd rfl (Or.inl rfl) (p6 Ae hr (by decide) rfl (@z6 _ _ _ _ _ (pv 0) (@z6 _ _ _ _ _ (pv 2) v6 (by rfl)) (by rfl))) (by rfl) (.inl rfl))
  (@z9 _ _ _ _ _ (c4 (PW.pt (QQ (qb (K:=K) rfl (pv 3) (λ_=>rfl)) (QR (t6 (zF (K:=K) (hu6 hr) rfl) (p6 Ae hr (by decide) rfl (@z6 _ _ _ _ _ (pv 0) (@z6 _ _ _ _ _ x8 v6 (by rfl)) (by rfl))) x8 (m7 _))))) (@z9 _ _ _ _ _ (@m8 _ _ 6 _ _ _ _ sc_cloth.nd rfl (Or.inl rfl) (v5 (o6 (K:=K) rfl) (v5 (qW) (p6 Ae hr (by decide) rfl (@z6 _ _ _ _ _ (pv 0) (@z6 _ _ _ _ _ (v5 (qW) (v5 (QG) x8 (v5 (xq) x8 x8)) x8) v6 (by rfl)) (by rfl))) (v5 (xq) x8 x8)) x8) (by rfl) (.inl rfl))
  (@j4 _ _ _ (y1 (@zg _ _ _ _ _ (@z6 _ _ _ _ _ (pv 4) (@z6 _ _ _ _ _ (pv 5) (@z6 _ _ _ _ _ (v5 (o6 (K:=K) rfl) x8 (p6 Ae hr (by decide) rfl (@z6 _ _ _ _ _ (pv 0) (@z6 _ _ _ _ _ (v5 (qW) (v5 (xq) x8 x8) x8) v6 (by rfl)) (by rfl)))) (@z6 _ _ _ _ _ (pv 6) (@z6 _ _ _ _ _ (v5 (o6 (K:=K) rfl) x8 (p6 Ae hr (by decide) rfl (@z6 _ _ _ _ _ (pv 0) (@z6 _ _ _ _ _ (v5 (qW) (v5 (xq) x8 x8) x8) v6 (by rfl)) (by rfl)))) v6 (by rfl)) (by rfl)) (by rfl)) (by rfl)) (by rfl)))))) c5)
  (@z9 _ _ _ _ _ (@m8 _ _ 7 _ _ _ _ sc_cloth.nd rfl (Or.inl rfl) (iW (K:=K) rfl (@qm _ _ _ _ (@z6 _ _ _ _ _ x8 (@z6 _ _ _ _ _ x8 v6 (by rfl)) (by rfl))) (p6 Ae hr (by decide) rfl (@z6 _ _ _ _ _ (pv 0) (@z6 _ _ _ _ _ x8 v6 (by rfl)) (by rfl)))) (by rfl) (.inl rfl))
  (@j4 _ _ _ (y1 (@zg _ _ _ _ _ (@z6 _ _ _ _ _ (pv 4) (@z6 _ _ _ _ _ (pv 5) (@z6 _ _ _ _ _ (v5 (o6 (K:=K) rfl) x8 (p6 Ae hr (by decide) rfl (@z6 _ _ _ _ _ (pv 0) (@z6 _ _ _ _ _ (pv 7) v6 (by rfl)) (by rfl)))) (@z6 _ _ _ _ _ (v5 (qW) (p6 Ae hr (by decide) rfl (@z6 _ _ _ _ _ (pv 0) (@z6 _ _ _ _ _ x8 v6 (by rfl)) (by rfl))) x8) (@z6 _ _ _ _ _ (v5 (o6 (K:=K) rfl) x8 (p6 Ae hr (by decide) rfl (@z6 _ _ _ _ _ (pv 0) (@z6 _ _ _ _ _ (pv 7) v6 (by rfl)) (by rfl)))) v6 (by rfl)) (by rfl)) (by rfl)) (by rfl)) (by rfl))))))))),
  (by repeat' first|infer_instance|(refine @Mi.instSemWSTSeqWSeq _ _ _ _ ?_ ?_)|(apply @Mi.instSemWSTForWForOfSemWIOfSemWG))⟩) KQ
structure Dr where
 h:Nat
 rss:List (List Int)
 cls:List Cl
 last:Int
 time:Int
def Dr.pv (d:Dr):PV:= .tup [u3 d.rss,.lst (d.cls.map Cl.pv),.at (.int d.last),.at (.int d.time)]
structure Dr.Ok (d:Dr):Prop where
 h1:1<=d.h
 h4:d.h<=4
 rin:c9 d.h d.rss
 ten:d.cls.length<=10
 cl:∀ c∈d.cls,c.Ok d.h
 nd:(d.cls.map Cl.name).Nodup
 l1:-1<=d.last
 l2:d.last<d.h
 t1:0<=d.time
 t2:d.time<60*w5
def wC (K:Fg):List PV->Prop:=λxs=>∃(ns:List Int)(m:Nat),xs=[scr K ns,.at (.int m)]/\ns.length<=63/\m<=10
def vC:List PV->PV->Prop:=λxs y=>∃(d:Dr)(m:Nat)(z:PV),xs=[z,.at (.int m)]/\y=d.pv/\d.Ok/\d.cls.length<=m
abbrev Jh:Stmt:=top 61
abbrev VA (K:Fg):WS:=(wSeq (JC 2 (xU K) xK (i7 (wP (q9 0)) (i7 (wP (dC (.int 0))) zR)))
  (wSeq (k4 3 (k6 k7 (wP (dC (.int 1))) (g8 2 (wP (dC (.int 4))))))
  (wSeq (k4 4 (g8 2 (wP (dC (.int 8)))))
  (wSeq (xf (wPT (dT (z5 pEq (x6 4) (dC (.int 7))))) (k4 4 (k6 k7 (wP (dC (.int 7))) (g8 2 (wP (dC (.int 4)))))) xI)
  (wSeq (k4 5 (k6 qH (g8 2 (wP (z5 k7 (x6 3) (dC (.int 1))))) (wP (dC (.int 1)))))
  (wSeq (k4 6 (g8 2 (k6 w4 (wP (n8 (q8 (dC (.int 1)) (q8 (dC (.int 20)) (q8 (z5 zG (dC (.int 10)) (dC (.int 30))) x0))))) (g8 2 (wP (dC (.int 3)))))))
  (wSeq (k4 7 (k6 pEq (g8 2 (wP (dC (.int 6)))) (wP (dC (.int 0)))))
  (wSeq (k4 8 (vx (xU K) xK (q8 (q9 0) (q8 (dC (.int 1)) x0)) vt vB (q8 (q9 3) x0)))
  (wSeq (QZ 9 (n8 x0))
  (wSeq (wFor (wIp (xA (q8 (x9 wx (q8 (x6 4) (q8 (x6 1) x0))) x0))) (j9 10) (wSeq (k4 11 (wP (Xq [none] [0] (g0 (x6 9)) (j9 0) u6 (z5 w4 (x6 0) (dC (.int 0))))))
  (wV 9 (vx (xU K) xK (q8 (q9 0) (q8 (z5 k7 (dC (.int 2)) (x6 10)) x0)) vq jD (q8 (q9 11) (q8 (q9 3) (q8 (q9 7) x0)))))))
  (wFz 9 (xg (wP (qO (q8 (q9 8) (q8 (q9 9) (q8 (q9 5) (q8 (q9 6) x0))))))))))))))))))
theorem sc_works:v9 ["script","most","stream","hues","many","last","time","great","rinses","cloths","k","names"] ["script","most"] (j6 Jh):=y2
theorem KP {K:Fg}:∀ xs,wC K xs->xs.length=(["script","most"]:List Str).length:=by rintro xs ⟨ns,m,rfl,_⟩;rfl
theorem BV (cs:List Cl):i8 (j9 0) u6 (z5 w4 (x6 0) (dC (.int 0))) [.no] (cs.map Cl.pv)=some (v7 (cs.map Cl.name)):=by
 induction cs with
 |nil=>rfl
 |cons c cs ih=>show Option.bind (some (PV.at (.str c.name))) (λy=>Option.bind (i8 _ _ _ _ (cs.map Cl.pv)) λys=>some (y::ys))=_;rw [ih];rfl
theorem KW {K:Fg}:∀ xs,wC K xs->VA K (xs.map .sh++List.replicate ((["script","most","stream","hues","many","last","time","great","rinses","cloths","k","names"]:List Str).length-xs.length) .no) (λ_=>False) λy _=>vC xs y:=by
 rintro xs ⟨ns,mo,rfl,h63,hmo⟩;have hB:=wW;have hlim:lim=1000000:=rfl;refine ⟨_,rfl,_,rfl,⟨ns,0,rfl,h63,by decide,by decide⟩,?_⟩;rintro y ⟨n,rfl⟩
 -- hues
 refine ⟨_,rfl,⟨n,rfl⟩,_,rfl,n,4,rfl,rfl,⟨by decide,by decide⟩,_,rfl,?_⟩;have a0:0<=n % 4:=yz _ (by decide);have a1:n % 4<4:=yF _ (by decide);obtain ⟨h,hh⟩:=yf (show 0<=1+n % 4 by omega);generalize n / 4=n1;have hh1:1<=h:=by omega
 have hh4:h<=4:=by omega
 rw [hh];clear a0 a1 hh
 -- many
 refine ⟨⟨n1,rfl⟩,_,rfl,n1,8,rfl,rfl,⟨by decide,by decide⟩,?_⟩;have b0:0<=n1 % 8:=yz _ (by decide);have b1:n1 % 8<8:=yF _ (by decide);obtain ⟨q,hq⟩:=yf b0;rw [hq] at b1 ⊢;generalize n1 / 8=n2;have rest:∀(n2:Int)(q:Nat),q<=10->((wSeq (k4 5 (k6 qH (g8 2 (wP (z5 k7 (x6 3) (dC (.int 1))))) (wP (dC (.int 1)))))
  (wSeq (k4 6 (g8 2 (k6 w4 (wP (n8 (q8 (dC (.int 1)) (q8 (dC (.int 20)) (q8 (z5 zG (dC (.int 10)) (dC (.int 30))) x0))))) (g8 2 (wP (dC (.int 3)))))))
  (wSeq (k4 7 (k6 pEq (g8 2 (wP (dC (.int 6)))) (wP (dC (.int 0)))))
  (wSeq (k4 8 (vx (xU K) xK (q8 (q9 0) (q8 (dC (.int 1)) x0)) vt vB (q8 (q9 3) x0)))
  (wSeq (QZ 9 (n8 x0))
  (wSeq (wFor (wIp (xA (q8 (x9 wx (q8 (x6 4) (q8 (x6 1) x0))) x0))) (j9 10) (wSeq (k4 11 (wP (Xq [none] [0] (g0 (x6 9)) (j9 0) u6 (z5 w4 (x6 0) (dC (.int 0))))))
  (wV 9 (vx (xU K) xK (q8 (q9 0) (q8 (z5 k7 (dC (.int 2)) (x6 10)) x0)) vq jD (q8 (q9 11) (q8 (q9 3) (q8 (q9 7) x0)))))))
  (wFz 9 (xg (wP (qO (q8 (q9 8) (q8 (q9 9) (q8 (q9 5) (q8 (q9 6) x0)))))))))))))):WS) [.sh (scr K ns),.sh (.at (.int (mo:Int))),g7 n2,.sh (.at (.int (h:Int))),.sh (.at (.int (q:Int))),.no,.no,.no,.no,.no,.no,.no] (λ_=>False) λy _=>vC [scr K ns,.at (.int mo)] y:=by
  clear b0 b1 hq q n2;intro n2 q hq10
  -- last
  refine ⟨⟨n2,rfl⟩,_,rfl,n2,(h:Int)+1,rfl,rfl,xy (by omega) (by omega),_,rfl,_,rfl,?_⟩;have c0:0<=n2 % ((h:Int)+1):=yz _ (by omega);have c1:n2 % ((h:Int)+1)<(h:Int)+1:=yF _ (by omega);generalize n2 % ((h:Int)+1)=la at c0 c1;generalize n2 / ((h:Int)+1)=n3
  -- time
  refine ⟨⟨n3,rfl⟩,_,zx (v8 rfl (v8 rfl (v8 (w6 rfl rfl vp) rfl))) (by decide),⟨n3,rfl⟩,_,rfl,n3,3,rfl,rfl,⟨by decide,by decide⟩,?_⟩;have d0:0<=n3 % 3:=yz _ (by decide);have d1:n3 % 3<3:=yF _ (by decide);have ixt:∃ k:Int,w4 (.lst [.at (.int 1),.at (.int 20),.at (.int w5)]) (.at (.int (n3 % 3)))=some (.at (.int k))/\0<k/\k<=w5:=by
   have c:n3 % 3=0∨n3 % 3=1∨n3 % 3=2:=by omega
   rcases c with e|e|e<;>rw [e]
   ·exact ⟨1,rfl,by decide,by omega⟩
   ·exact ⟨20,rfl,by decide,by omega⟩
   ·exact ⟨w5,rfl,Xb,uF _⟩
  obtain ⟨k,ek,k0,k1⟩:=ixt;refine ⟨_,ek,n3 / 3,k,rfl,rfl,xy k0 (by omega),?_⟩;have t0:0<=n3 / 3 % k:=yz _ (by omega);have t1:n3 / 3 % k<k:=yF _ k0;generalize n3 / 3 % k=ti at t0 t1;generalize n3 / 3 / k=n4
  -- great
  refine ⟨⟨n4,rfl⟩,_,rfl,n4,6,rfl,rfl,⟨by decide,by decide⟩,_,rfl,.at (.bl (n6 (.int (n4 % 6)) (.int 0))),rfl,?_⟩;generalize n6 (.int (n4 % 6)) (.int 0)=gr;generalize n4 / 6=n4
  -- rinses
  refine ⟨_,_,rfl,rfl,⟨ns,1,rfl,h63,by decide,by decide⟩,λy hy=>hy,⟨h,rfl,hh1,hh4⟩,?_⟩;rintro y ⟨h',rss,e,rfl,hr⟩;have e':h'=h:=by injection e with e _;injection e with e;injection e with e;omega
  subst e'
  -- cloths
  refine ⟨_,rfl,?_⟩;have mn:xA (q8 (x9 wx (q8 (x6 4) (q8 (x6 1) x0))) x0) [.sh (scr K ns),.sh (.at (.int (mo:Int))),g7 n4,.sh (.at (.int (h':Int))),.sh (.at (.int (q:Int))),.sh (.at (.int (la-1))),.sh (.at (.int ti)),.sh (.at (.bl gr)),.sh (u3 rss),.ow (.lst []),.no,.no]=some (qv 0 (min q mo)):=by refine wG (v8 (j7 rfl ?_) rfl) (by omega);show some (PV.at (.int (if (mo:Int)<(q:Int) then (mo:Int) else (q:Int))))=_;rw [show (if (mo:Int)<(q:Int) then (mo:Int) else (q:Int))=((min q mo:Nat):Int) by split<;>omega]
  refine ⟨_,mn,?_⟩;refine jU (λrest ε=>∃(cs:List Cl)(s9 s10:MSlot),ε=[.sh (scr K ns),.sh (.at (.int (mo:Int))),g7 n4,.sh (.at (.int (h':Int))),.sh (.at (.int (q:Int))),.sh (.at (.int (la-1))),.sh (.at (.int ti)),.sh (.at (.bl gr)),.sh (u3 rss),.ow (.lst (cs.map Cl.pv)),s9,s10]/\(∃ m0:Nat,rest=(qv 0 (min q mo)).drop m0/\cs.length=m0/\m0<=min q mo)/\(∀ c∈cs,c.Ok h')/\(cs.map Cl.name).Nodup) ?_ ?_ _ _ ⟨[],_,_,rfl,⟨0,rfl,rfl,yk _⟩,(λ_ z=>nomatch z),uS⟩
  ·rintro ε ⟨cs,s9,s10,rfl,⟨m0,e1,e2,e3⟩,g1,g2⟩;exact ⟨_,rfl,⟨h',rss,cs,la-1,ti⟩,mo,_,rfl,rfl,⟨hh1,hh4,hr,(by show cs.length<=10;omega),g1,g2,(by show -1<=la-1;omega),(by show la-1<(h':Int);omega),t0,(by have:=Xb;show ti<60*w5;omega)⟩,(by show cs.length<=mo;omega)⟩
  ·rintro x rest ε ⟨cs,s9,s10,rfl,⟨m0,e1,e2,e3⟩,g1,g2⟩;have hm:m0<min q mo:=by
    have e5:(x::rest).length=((qv 0 (min q mo)).drop m0).length:=by rw [<- e1]
    rw [ur,ju,yu] at e5;omega
   have ex:x = .at (.int ((0:Int)+m0)):=by
    have q0:(qv 0 (min q mo))[m0]?=some x:=by
     have:((qv 0 (min q mo)).drop m0)[0]?=some x:=by rw [<- e1];rfl
     rw [List.getElem?_drop] at this;simpa using this
    exact (YS q0).2
   have er:rest=(qv 0 (min q mo)).drop (m0+1):=by
    have:((qv 0 (min q mo)).drop m0).tail=rest:=by rw [<- e1];rfl
    rw [<- this,List.tail_drop]
   subst ex;refine ⟨_,rfl,.lst (v7 (cs.map Cl.name)),?_,⟨_,rfl⟩,?_⟩
   ·show Option.bind (some (cs.map Cl.pv)) (λxs=>if xM [none] [0]=true/\xs.length<=lim then (i8 _ _ _ _ xs).bind λys=>some (PV.lst ys) else none)=_;rw [yE,if_pos ⟨rfl,by rw [yZ];omega⟩];show (i8 (j9 0) u6 (z5 w4 (x6 0) (dC (.int 0))) [.no] (cs.map Cl.pv)).bind _=_;rw [BV];rfl
   refine ⟨[scr K ns,.at (.int (2+(0+(m0:Int))))],[.lst (v7 (cs.map Cl.name)),.at (.int (h':Int)),.at (.bl gr)],rfl,rfl,⟨ns,2+(0+(m0:Int)),rfl,h63,by omega,by omega⟩,λy hy=>hy,⟨cs.map Cl.name,h',gr,rfl,by rw [yZ];omega,?_,hh1,hh4⟩,?_⟩
   ·intro s hs;obtain ⟨c,hc,rfl⟩:=yt.mp hs;exact (g1 c hc).nm
   ·rintro y ⟨ss,h2,g2',c,e6,rfl,ok,hn⟩;injection e6 with e6 e7;injection e6 with e6;injection e7 with e7 _;injection e7 with e7;injection e7 with e7;have e8:=Jm e6;have e9:h'=h2:=by omega
    subst e8 e9;refine ⟨_,rfl,by rw [yZ];omega,cs++[c],.sh (.at (.int (0+(m0:Int)))),.sh (.lst (v7 (cs.map Cl.name))),?_,⟨m0+1,er,by rw [yM];simp;omega,hm⟩,?_,?_⟩
    ·show [MSlot.sh (scr K ns),_,_,_,_,_,_,_,_,.ow (.lst (cs.map Cl.pv++[c.pv])),_,_]=_;rw [yy];rfl
    ·intro d hd;rcases yg.mp hd with hd|hd
     ·exact g1 d hd
     ·rw [yO.mp hd];exact ok
    ·rw [yy];refine uG.mpr ⟨g2,(yx.mpr ⟨by simp,uS⟩),λa ha b hb=>?_⟩;rw [yO.mp hb];exact λe=>hn (e▸ha)
 by_cases h7:q=7
 ·subst h7;refine JD (p0 (v:=true) rfl) ?_;have d0:0<=n2 % 4:=yz _ (by decide);have d1:n2 % 4<4:=yF _ (by decide);refine ⟨_,rfl,⟨n2,rfl⟩,_,rfl,n2,4,rfl,rfl,⟨by decide,by decide⟩,_,rfl,?_⟩;obtain ⟨q,hq⟩:=yf (show 0<=7+n2 % 4 by omega);rw [hq];exact rest _ q (by omega)
 ·refine Xa (p0 (v:=false) ?_) (rest _ q (by omega));show some (PV.at (.bl (decide ((q:Int)=7))))=_;rw [yB (by omega)]
theorem Ck (F:Fun K "_law_works" "_law_works" Jh f fd)(Ew:Fn P w K mg base 3 "_law_cloth" ["stream","names","hues","great"] (spD vq jD))(Eo:Fn P w K mg base 2 "_law_rinses" ["stream","hues"] (spD vt vB))(Aq:Fn P w K mg base 2 "_law_stream" ["script","k"] (spN (xU K) xK))(Ae:Fn P w K mg base 1 "_law_take" ["stream","many"] zl)(Ev:mg "min"=none)(Ad:mg "range"=none):FnOk P w K mg base j8 4 f fd ["script","most"] (spV (wC K) vC) :=
 okV (k:=3) (b:=VA K) F sc_works KP (λcdv A outer s H E hr=>⟨_,(@z9 _ _ _ _ _ (@m8 _ _ 2 _ _ _ _ sc_works.nd rfl (Or.inl rfl) (p6 Aq hr (by decide) rfl (@z6 _ _ _ _ _ (pv 0) (@z6 _ _ _ _ _ x8 v6 (by rfl)) (by rfl))) (by rfl) (.inl rfl))
  (@z9 _ _ _ _ _ (@m8 _ _ 3 _ _ _ _ sc_works.nd rfl (Or.inl rfl) (v5 (o6 (K:=K) rfl) x8 (p6 Ae hr (by decide) rfl (@z6 _ _ _ _ _ (pv 2) (@z6 _ _ _ _ _ x8 v6 (by rfl)) (by rfl)))) (by rfl) (.inl rfl))
  (@z9 _ _ _ _ _ (@m8 _ _ 4 _ _ _ _ sc_works.nd rfl (Or.inl rfl) (p6 Ae hr (by decide) rfl (@z6 _ _ _ _ _ (pv 2) (@z6 _ _ _ _ _ x8 v6 (by rfl)) (by rfl))) (by rfl) (.inl rfl))
  (@z9 _ _ _ _ _ (c4 (t6 (zF (K:=K) (hu6 hr) rfl) (pv 4) x8 (m7 _)) (@j4 _ _ _ (@m8 _ _ 4 _ _ _ _ sc_works.nd rfl (Or.inl rfl) (v5 (o6 (K:=K) rfl) x8 (p6 Ae hr (by decide) rfl (@z6 _ _ _ _ _ (pv 2) (@z6 _ _ _ _ _ x8 v6 (by rfl)) (by rfl)))) (by rfl) (.inl rfl))) c5)
  (@z9 _ _ _ _ _ (@m8 _ _ 5 _ _ _ _ sc_works.nd rfl (Or.inl rfl) (v5 (qW) (p6 Ae hr (by decide) rfl (@z6 _ _ _ _ _ (pv 2) (@z6 _ _ _ _ _ (v5 (o6 (K:=K) rfl) (pv 3) x8) v6 (by rfl)) (by rfl))) x8) (by rfl) (.inl rfl))
  (@z9 _ _ _ _ _ (@m8 _ _ 6 _ _ _ _ sc_works.nd rfl (Or.inl rfl) (p6 Ae hr (by decide) rfl (@z6 _ _ _ _ _ (pv 2) (@z6 _ _ _ _ _ (iW (K:=K) rfl (@qm _ _ _ _ (@z6 _ _ _ _ _ x8 (@z6 _ _ _ _ _ x8 (@z6 _ _ _ _ _ (v5 (xq) x8 x8) v6 (by rfl)) (by rfl)) (by rfl))) (p6 Ae hr (by decide) rfl (@z6 _ _ _ _ _ (pv 2) (@z6 _ _ _ _ _ x8 v6 (by rfl)) (by rfl)))) v6 (by rfl)) (by rfl))) (by rfl) (.inl rfl))
  (@z9 _ _ _ _ _ (@m8 _ _ 7 _ _ _ _ sc_works.nd rfl (Or.inl rfl) (vj (zF (K:=K) (hu6 hr) rfl) (p6 Ae hr (by decide) rfl (@z6 _ _ _ _ _ (pv 2) (@z6 _ _ _ _ _ x8 v6 (by rfl)) (by rfl))) x8 (m7 _)) (by rfl) (.inl rfl))
  (@z9 _ _ _ _ _ (@m8 _ _ 8 _ _ _ _ sc_works.nd rfl (Or.inl rfl) (p6 Eo hr (by decide) rfl (@z6 _ _ _ _ _ (p6 Aq hr (by decide) rfl (@z6 _ _ _ _ _ (pv 0) (@z6 _ _ _ _ _ x8 v6 (by rfl)) (by rfl))) (@z6 _ _ _ _ _ (pv 3) v6 (by rfl)) (by rfl))) (by rfl) (.inl rfl))
  (@z9 _ _ _ _ _ (@m8 _ _ 9 _ _ _ _ sc_works.nd rfl (Or.inl rfl) (@qm _ _ _ _ v6) (by rfl) (.inl rfl))
  (@z9 _ _ _ _ _ (qy PassesOwn.never rfl (xF rfl Ad (@z6 _ _ _ _ _ (y4 (VN rfl) rfl Ev VJ (@z6 _ _ _ _ _ (pv 4) (@z6 _ _ _ _ _ (pv 1) v6 (by rfl)) (by rfl))) v6 (by rfl))) (u5 (i:=10) sc_works.nd rfl (Or.inl rfl))
   (@z9 _ _ _ _ _ (zh (i:=11) (N':=["cloth"]) (cap:=[none]) (p9 rfl rfl rfl) rfl sc_works.nd rfl rfl (@c3 _ K _ _ _ rfl (pv 9)) (λ_ _ _ _ _ _=>(u5 (i:=0) (by show (["cloth"]:List Str).Nodup;decide +kernel) rfl (Or.inl rfl))) (λ_ _ _ _ _ _=>m9) (λ_ _ _ _ _ _=>(iW (K:=K) rfl (pv 0) x8)))
  (@j4 _ _ _ (xr (vi (K:=K) rfl PySem.F.plainAttrs_list PySem.F.slot_list_append PySem.F.type_list_append QD (pv 9) (z6 (p6 Ew hr (by decide) rfl (@z6 _ _ _ _ _ (p6 Aq hr (by decide) rfl (@z6 _ _ _ _ _ (pv 0) (@z6 _ _ _ _ _ (v5 (o6 (K:=K) rfl) x8 (pv 10)) v6 (by rfl)) (by rfl))) (@z6 _ _ _ _ _ (pv 11) (@z6 _ _ _ _ _ (pv 3) (@z6 _ _ _ _ _ (pv 7) v6 (by rfl)) (by rfl)) (by rfl)) (by rfl))) v6))))))
  (@j4 _ _ _ (y1 (@zg _ _ _ _ _ (@z6 _ _ _ _ _ (pv 8) (@z6 _ _ _ _ _ (pv 9) (@z6 _ _ _ _ _ (pv 5) (@z6 _ _ _ _ _ (pv 6) v6 (by rfl)) (by rfl)) (by rfl)) (by rfl))))))))))))))),
  (by repeat' first|infer_instance|(refine @Mi.instSemWSTSeqWSeq _ _ _ _ ?_ ?_)|(apply @Mi.instSemWSTForWForOfSemWIOfSemWG))⟩) KW
structure Mat (H:Hp)(F:Addr)(as:List Addr)(M:List (List Int)):Prop where
 top:H F=some (.lst (as.map V.ref))
 len:as.length=M.length
 row:∀(i:Nat)(a:Addr)(r:List Int),as[i]?=some a->M[i]?=some r->H a=some (.lst (r.map V.int))
 nd:(F::as).Nodup
def me (M:List (List Int))(f g:Nat):Int:=(M.getD f []).getD g 0
def qV (M:List (List Int))(i l:Nat)(v:Int):List (List Int):=M.set i ((M.getD i []).set l v)
theorem BP {M:List (List Int)}{i f:Nat}(hi:i<M.length)(hl:l<(M.getD i []).length)(v:Int):me (qV M i l v) f g=if f=i/\g=l then v else me M f g:=by
 unfold me qV;by_cases hf:f=i
 ·subst hf;have e:(M.set f ((M.getD f []).set l v)).getD f []=(M.getD f []).set l v:=by rw [yD,yb hi];rfl
  rw [e];by_cases hg:g=l
  ·subst hg;rw [if_pos ⟨rfl,rfl⟩,yD,yb hl];rfl
  ·rw [if_neg (λz=>hg z.2),yD,yv (Ne.symm hg),<- yD]
 ·have e:(M.set i ((M.getD i []).set l v)).getD f []=M.getD f []:=by rw [yD,yv (Ne.symm hf),<- yD]
  rw [if_neg (λz=>hf z.1),e]
theorem Mat.set {M:List (List Int)}(m:Mat H F as M){i:Nat}{a:Addr}(ha:as[i]?=some a)(l:Nat)(v:Int):Mat (j0 H a (.lst (((M.getD i []).set l v).map V.int))) F as (qV M i l v):=by
 have nd:=yx.mp m.nd;have am:a∈as:=ym ha;have fa:F≠a:=λz=>nd.1 (z▸am);have hi:i<M.length:=by rw [<- m.len];exact (yA.mp ha).1
 refine ⟨by rw [j3 fa];exact m.top,by unfold qV;rw [yo];exact m.len,λj b r hb hr=>?_,m.nd⟩;unfold qV at hr;by_cases hj:j=i
 ·subst hj;rw [ha] at hb;cases hb;rw [yb hi] at hr;cases hr;exact y0
 ·rw [yv (Ne.symm hj)] at hr;have:b≠a:=λz=>by
   subst z;obtain ⟨h1,e1⟩:=yA.mp ha;obtain ⟨h2,e2⟩:=yA.mp hb;exact hj ((List.getElem_inj (h₀:=h2) (h₁:=h1) nd.2).mp (e2.trans e1.symm))
  rw [j3 this];exact m.row j b r hb hr
structure ShM (h:Nat)(M:List (List Int)):Prop where
 len:M.length=h+1
 row:∀ i,i<=h->(M.getD i []).length=h
theorem ShM.set {M:List (List Int)}(s:ShM h M){i:Nat}(v:Int):ShM h (qV M i l v):=by
 refine ⟨by unfold qV;rw [yo];exact s.len,λj hj=>?_⟩;unfold qV;by_cases e:j=i
 ·subst e;rw [yD,yb (by rw [s.len];omega)];show ((M.getD j []).set l v).length=h;rw [yo];exact s.row j hj
 ·rw [yD,yv (Ne.symm e),<- yD];exact s.row j hj
theorem ShM.ofGood {M:List (List Int)}(G:c9 h M):ShM h M:=⟨G.len,λi hi=>by
 have hl:i<M.length:=by rw [G.len];omega
 rw [u4 hl];exact (G.row _ (yn hl)).1⟩
structure Fx (rss:List (List Int))(h t:Nat)(M:List (List Int)):Prop where
 sh:ShM h M
 ge:∀ f g,f<=h->g<h->(v4 (y7 rss h) f g).1<=me M f g
 le:∀ f g,f<=h->g<h->me M f g<=(v4 (y7 rss t) f g).1
theorem Fx.step {t:Nat}{M:List (List Int)}(G:c9 h rss)(R:Fx rss h t M){i:Nat}(hi:i<=h)(ht:t<h)(hl:l<h){v:Int}(hv:v=me M i l∨v=me M i t+me M t l)(v1:v<=me M i l)(v2:v<=me M i t+me M t l):Fx rss h t (qV M i l v)/\(∀ f g,me (qV M i l v) f g<=me M f g)/\me (qV M i l v) i l<=(v4 (y7 rss (t+1)) i l).1:=by
 have hil:i<M.length:=by rw [R.sh.len];omega
 have hll:l<(M.getD i []).length:=by rw [R.sh.row i hi];exact hl
 have ee:=λf g=>BP (M:=M) (i:=i) (l:=l) (f:=f) (g:=g) hil hll v;have dn:∀ f g,me (qV M i l v) f g<=me M f g:=λf g=>by
  rw [ee];split
  ·rename_i e;rw [e.1,e.2];exact v1
  ·exact uF _
 refine ⟨⟨R.sh.set v,λf g hf hg=>?_,λf g hf hg=>Int.le_trans (dn f g) (R.le f g hf hg)⟩,dn,?_⟩
 ·rw [ee];split
  ·rename_i e;rw [e.1,e.2];rcases hv with hv|hv
   ·rw [hv];exact R.ge i l hi hl
   ·have t1:=(FW.all G h (yU _)).tri t i l ht hi hl;have t2:=R.ge i t hi ht;have t3:=R.ge t l (by omega) hl;omega
  ·exact R.ge f g hf hg
 ·rw [ee,if_pos ⟨rfl,rfl⟩];show v<=(v4 (ql (y7 rss t) t) i l).1;rw [jb (Shp.all G t (by omega)) ht hi hl];have t1:=R.le i l hi hl;have t2:=R.le i t hi ht;have t3:=R.le t l (by omega) hl;rcases jj (v4 (y7 rss t) i l) (xp (v4 (y7 rss t) i t) (v4 (y7 rss t) t l)) with ⟨e,_⟩|⟨e,_⟩
  ·rw [e];omega
  ·rw [e];show v<=(v4 (y7 rss t) i t).1+(v4 (y7 rss t) t l).1;omega
theorem Fx.low {M:List (List Int)}(G:c9 h rss)(R:Fx rss h h M):M=qt rss h:=by
 have G2:=Qq G;have lowE:∀ f g,f<=h->g<h->((qt rss h).getD f []).getD g 0=(v4 (y7 rss h) f g).1:=λf g hf hg=>BE G hf hg;refine List.ext_getElem (by rw [R.sh.len,G2.len]) λi h1 h2=>?_;have hi:i<=h:=by rw [R.sh.len] at h1;omega
 have r1:=R.sh.row i hi;rw [u4 h1] at r1;have r2:=(G2.row _ (yn h2)).1;refine List.ext_getElem (by rw [r1,r2]) λj j1 j2=>?_;have hj:j<h:=by rw [r1] at j1;exact j1
 have e1:M[i][j]=me M i j:=by unfold me;rw [u4 h1,u4 j1]
 have e2:(qt rss h)[i][j]=(v4 (y7 rss h) i j).1:=by rw [<- lowE i j hi hj,u4 h2,u4 j2]
 rw [e1,e2];have a:=R.ge i j hi hj;have b:=R.le i j hi hj;omega
theorem YG {K:Fg}{i j:Nat}{xs:List V}{k:Int}(hi:σ[i]?=some (some (.ref p)))(hj:σ[j]?=some (some (.int k)))(hp:H p=some (.lst xs))(hk:atI xs k=some u)(q:Q u H):tOp (rIx K) (c6 i) (c6 j) σ H Q :=
 ⟨_,hi,_,hj,.inl ⟨p,xs,k,u,rfl,rfl,SqL.of hp,hk,q⟩⟩
theorem Ga {k:Nat}(h:k<r.length):atI (r.map V.int) ((0:Int)+(k:Int))=some (.int (r.getD k 0)):=by rw [Int.zero_add];exact qQ (by rw [yR,yV h,u4 h];rfl)
theorem By {K:Fg}{i:Nat}{xs:List V}(hi:σ[i]?=some (some (.ref p)))(hp:SqL K H p xs)(hl:xs.length<=1000)(q:R (Itr 0 xs.length) H):zA (k5 (tCB (zL K) (k5 (c6 i) p7)) p7) σ H R :=
 ⟨_,hi,.inl ⟨_,_,rfl,.inl ⟨xs,hp,rfl⟩,(xs.length:Int),rfl,by omega,by omega,by rw [Int.toNat_natCast];exact q⟩⟩
theorem WJ {K:Fg}{i:Nat}{xs:List V}(hi:σ[i]?=some (some (.ref p)))(hp:SqL K H p xs)(hn:xs.length=n+1)(hl:n<=1000)(q:R (Itr 0 n) H):zA (k5 (tOp (rI0 λi j=> .int (i-j)) (tCB (zL K) (k5 (c6 i) p7)) (tC (.int 1))) p7) σ H R :=
 ⟨_,hi,.inl ⟨_,_,rfl,.inl ⟨xs,hp,rfl⟩,⟨_,_,rfl,rfl,⟨(xs.length:Int)-1,rfl,by omega,by omega,by rw [show ((xs.length:Int)-1).toNat=n by omega];exact q⟩⟩⟩⟩
theorem rd_m {K:Fg}{i j f:Nat}{M:List (List Int)}(m:Mat H F as M)(sh:ShM h M)(h1:σ[1]?=some (some (.ref F)))(hi:σ[i]?=some (some (.int (0+(f:Int)))))(hj:σ[j]?=some (some (.int (0+(g:Int)))))(hf:f<=h)(hg:g<h)(q:Q (.int (me M f g)) H):tOp (rIx K) (tOp (rIx K) (c6 1) (c6 i)) (c6 j) σ H Q:=by
 have fM:f<M.length:=by rw [sh.len];omega
 have fl:f<as.length:=by rw [m.len];exact fM
 have fr:M[f]?=some (M.getD f []):=by rw [u4 fM,yV fM]
 have rf:H as[f]=some (.lst ((M.getD f []).map V.int)):=m.row f _ _ (yV fl) fr;refine YG (k:=0+(f:Int)) (u:= .ref as[f]) h1 hi m.top (by rw [Int.zero_add];exact qQ (by rw [yR,yV fl];rfl)) ?_;exact ⟨_,hj,.inl ⟨_,_,_,_,rfl,rfl,SqL.of rf,Ga (by rw [sh.row f hf];exact hg),q⟩⟩
noncomputable def zf:List PV->Option PV:=λxs=>open Classical in if h:∃(n:Nat)(rss:List (List Int)),xs=[u3 rss]/\c9 n rss/\1<=n/\n<=4 then some (u3 (qt h.choose_spec.choose h.choose)) else none
theorem Dt {a b:List (List Int)}(h:u3 a=u3 b):a=b:=by unfold u3 at h;injection h with h;exact QB (λx y e=>by injection e with e;exact QB (λ_ _ e=>by injection e with e;injection e) e) h
theorem Lz (G:c9 h rss)(h1:1<=h)(h4:h<=4):zf [u3 rss]=some (u3 (qt rss h)):=by
 have ex:∃(n:Nat)(rs:List (List Int)),[u3 rss]=[u3 rs]/\c9 n rs/\1<=n/\n<=4:=⟨h,rss,rfl,G,h1,h4⟩;unfold zf;rw [dif_pos ex];have q:=ex.choose_spec.choose_spec;generalize ex.choose_spec.choose=rs at q;generalize ex.choose=n at q;obtain ⟨e,G',_⟩:=q;injection e with e _;have e:=Dt e;subst e;have:n=h:=by have:=G.len;have:=G'.len;omega
 subst this;rfl
theorem Uj (h:zf xs=some y):∃(n:Nat)(rss:List (List Int)),xs=[u3 rss]/\c9 n rss/\1<=n/\n<=4/\y=u3 (qt rss n):=by
 unfold zf at h;split at h
 ·rename_i ex;obtain ⟨e,G,h1,h4⟩:=ex.choose_spec.choose_spec;exact ⟨_,_,e,G,h1,h4,(Option.some.inj h).symm⟩
 ·cases h
theorem KL (h:j5 zf vs H Q E):vs.length=(["rinses"]:List Str).length:=by obtain ⟨Hs,xs,y,_,r,e,_⟩:=h;obtain ⟨n,rss,rfl,_⟩:=Uj e;rw [r.length];rfl
structure Copied (H0 H:Hp)(as:List Addr)(M:List (List Int)):Prop where
 len:as.length=M.length
 row:∀(i:Nat)(a:Addr)(r:List Int),as[i]?=some a->M[i]?=some r->H a=some (.lst (r.map V.int))
 new:∀ a∈as,H0 a=none
 nd:as.Nodup
 keep:Same H0 H
theorem Copied.snoc {M:List (List Int)}(c:Copied H0 H as M){a:Addr}(ha:H a=none):Copied H0 (j0 H a (.lst (r.map V.int))) (as++[a]) (M++[r]):=by
 have na:∀ b∈as,b≠a:=λb hb z=>by
  obtain ⟨i,hi,e⟩:=List.mem_iff_getElem.mp hb;have hm:i<M.length:=by rw [<- c.len];exact hi
  have:=c.row i b M[i] (by rw [yV hi,e]) (yV hm);rw [z,ha] at this;cases this
 refine ⟨by rw [yM,yM,c.len];rfl,λi b q hb hq=>?_,λb hb=>?_,?_,λb o h=>?_⟩
 ·rw [List.getElem?_append] at hb hq;split at hb
  ·rename_i hi;rw [if_pos (by rw [<- c.len];exact hi)] at hq;rw [j3 (na b (ym hb))];exact c.row i b q hb hq
  ·rename_i hi;rw [if_neg (by rw [<- c.len];exact hi)] at hq;rw [c.len] at hb;cases hk:i-M.length with
   |zero=>rw [hk] at hb hq;cases hb;cases hq;exact y0
   |succ k=>rw [hk] at hb;simp at hb
 ·rcases yg.mp hb with hb|hb
  ·exact c.new b hb
  ·rw [yO.mp hb];cases h:H0 a with
   |none=>rfl
   |some o=>rw [c.keep _ _ h] at ha;cases ha
 ·refine uG.mpr ⟨c.nd,yx.mpr ⟨by simp,uS⟩,λx hx y hy=>?_⟩;rw [yO.mp hy];exact na x hx
 ·rw [j3 (λz=>by rw [z,] at h;rw [c.keep _ _ h] at ha;cases ha)];exact c.keep b o h
abbrev Jb:Stmt:=top 62
theorem sc_sums:v9 ["rinses","sums","amid","first","last"] ["rinses"] (j6 Jb):=y2
theorem Ce (F:Fun K "_law_sums" "_law_sums" Jb f fd)(Ac:mg "len"=none)(Ag:mg "list"=none)(Ev:mg "min"=none)(Ad:mg "range"=none):FnOk P w K mg base j8 1 f fd ["rinses"] (j5 zf):=by
 refine F.ok (k:=0) sc_sums (λvs H Q E h=>KL h) (λcdv A outer s H vs Q E hr h=>⟨_,(z9 (zh (i:=1) (N':=["row"]) (cap:=[none]) (p9 rfl rfl rfl) rfl sc_sums.nd rfl rfl (@c3 _ K _ _ _ rfl (pv 0)) (λ_ _ _ _ _ _=>(u5 (i:=0) (by show (["row"]:List Str).Nodup;decide +kernel) rfl (Or.inl rfl))) (λ_ _ _ _ _ _=>m9) (λ_ _ _ _ _ _=>(wy (Xk (K:=K) rfl) rfl Ag xL (aW (pv 0)))))
  (z9 (qy PassesOwn.never rfl (xF rfl Ad (aW (v5 (qW) (y4 (qp (K:=K) rfl) rfl Ac PySem.boot_len (aW (pv 0))) x8))) (gW 2 sc_sums.nd)
   (j4 (qy PassesOwn.never rfl (xF rfl Ad (aW (y4 (qp (K:=K) rfl) rfl Ac PySem.boot_len (aW (pv 0))))) (gW 3 sc_sums.nd)
   (j4 (qy PassesOwn.never rfl (xF rfl Ad (aW (v5 (qW) (y4 (qp (K:=K) rfl) rfl Ac PySem.boot_len (aW (pv 0))) x8))) (gW 4 sc_sums.nd)
   (j4 (Zf (y4 (VN rfl) rfl Ev VJ (aC (iW (K:=K) rfl (iW (K:=K) rfl (pv 1) (pv 3)) (pv 4)) (aW (v5 (o6 (K:=K) rfl) (iW (K:=K) rfl (iW (K:=K) rfl (pv 1) (pv 3)) (pv 2)) (iW (K:=K) rfl (iW (K:=K) rfl (pv 1) (pv 2)) (pv 4)))))) (Yi (iW (K:=K) rfl (pv 1) (pv 3)) (pv 4) Ua))))))))
  (j4 (y1 (pv 1))))),?_⟩)
 obtain ⟨Hs,xs,y,sm,r,e,q⟩:=h;obtain ⟨h,rss,rfl,G,h1,h4,rfl⟩:=Uj e;obtain ⟨v0,rr,rfl,p1,p2⟩:=reps_cons.mp r;cases reps_nil.mp p2;obtain ⟨A0,ws,rfl,hA,rA⟩:=rep_lst.mp p1;have hlim:lim=1000000:=rfl;have glen:=G.len;have wl:ws.length=h+1:=by rw [rA.length,yZ];exact glen
 -- copies
 refine ⟨_,rfl,A0,rfl,⟨ws,SqL.of (sm _ _ hA)⟩,VW (xs:=ws) (λi ys H'=>∃ as:List Addr,ys=as.map V.ref/\Copied H H' as (rss.take i)) ⟨[],rfl,rfl,(λ_ _ _ z=>by simp at z),(λ_ z=>nomatch z),uS,.refl _⟩ (λi ys H' hi ⟨as,e,c⟩=>qr (by rw [e,yZ,c.len,ut];omega)) (λi ys H' hi ⟨as,e,c⟩=>SqL.of (c.keep _ _ (sm _ _ hA))) ?_ ?_⟩
 ·rintro i x ys H' R hx ⟨as,rfl,c⟩ hR;have hi:i<rss.length:=by have:=(yA.mp hx).1;omega
  obtain ⟨w,hw,rw'⟩:=rA.get (i:=i) (x:= .lst (rss[i].map λn=> .at (.int n))) (by rw [yR,yV hi];rfl);rw [hx] at hw;cases hw;obtain ⟨b,us,rfl,hb,rb⟩:=rep_lst.mp rw';have eu:us=rss[i].map V.int:=by have:=Reps.ats (us:=rss[i].map V.int) (by rw [yq];exact rb);exact this
  subst eu;refine ⟨Wk.one rfl,_,rfl,b,_,rfl,.inl (SqL.of (c.keep _ _ (sm _ _ hb))),λl hl=>hR _ _ ⟨as++[l],by rw [yy];rfl,?_⟩⟩;rw [List.take_add_one,yV hi];exact c.snoc hl
 ·rintro ys H1 ⟨as,rfl,c⟩ F hF;rw [wl,<- glen,List.take_length] at c;have m0:Mat (j0 H1 F (.lst (as.map V.ref))) F as rss:=by
   have fa:∀ a∈as,a≠F:=λa ha z=>by
    obtain ⟨i,hi,e⟩:=List.mem_iff_getElem.mp ha;have hm:i<rss.length:=by rw [<- c.len];exact hi
    have:=c.row i a rss[i] (by rw [yV hi,e]) (yV hm);rw [z,hF] at this;cases this
   exact ⟨y0,c.len,λi a r ha hr=>by rw [j3 (fa a (ym ha))];exact c.row i a r ha hr,yx.mpr ⟨λz=>fa F z rfl,c.nd⟩⟩
  have k0:Same H (j0 H1 F (.lst (as.map V.ref))):=c.keep.trans (QU hF _);have nF:H F=none:=by
   cases z:H F with
   |none=>rfl
   |some o=>rw [c.keep _ _ z] at hF;cases hF
  have al:as.length=h+1:=c.len.trans glen;have kp:∀{H2:Hp}{a:Addr}{o:HO},Same H H2->a∈as->Same H (j0 H2 a o):=λ{H2 a o} k ha b u z=>by
   rw [j3 (λe=>by rw [e,c.new a ha] at z;cases z)];exact k b u z
  have R0:Fx rss h 0 rss:=⟨ShM.ofGood G,λf g hf hg=>by
   have:=Xh G 0 f g hf hg;exact this,λf g hf hg=>by rw [vN G hf hg,jt G hf hg];exact uF _⟩
  have sA:∀{H2:Hp},Same H H2->SqL K H2 A0 ws:=λk=>SqL.of (k _ _ (sm _ _ hA));show tFor (zA (k5 (tOp (rI0 λi j=> .int (i-j)) (tCB (zL K) (k5 (c6 0) p7)) (tC (.int 1))) p7)) (qh 2) _ _ [some (.ref A0),some (.ref F),none,none,none] _;refine WJ (K:=K) (n:=h) (i:=0) (p:=A0) (xs:=ws) (σ:=[some (.ref A0),some (.ref F),none,none,none]) rfl (sA k0) wl (by omega) ?_;refine Qi (λt σ H2=>∃(M:List (List Int))(s2 s3 s4:Option V),σ=[some (.ref A0),some (.ref F),s2,s3,s4]/\Mat H2 F as M/\Same H H2/\Fx rss h t M) ⟨rss,_,_,_,rfl,m0,k0,R0⟩ ?_ ?_
  ·rintro t σ H2 ht ⟨M,s2,s3,s4,rfl,m,k,R⟩;show tFor (zA (k5 (tCB (zL K) (k5 (c6 0) p7)) p7)) (qh 3) _ _ [some (.ref A0),some (.ref F),some (.int (0+t)),s3,s4] _;refine By (K:=K) (i:=0) (p:=A0) (xs:=ws) (σ:=[some (.ref A0),some (.ref F),some (.int (0+t)),s3,s4]) rfl (sA k) (by omega) ?_;rw [wl];refine Qi (λi σ H2=>∃(M:List (List Int))(s3 s4:Option V),σ=[some (.ref A0),some (.ref F),some (.int (0+t)),s3,s4]/\Mat H2 F as M/\Same H H2/\Fx rss h t M/\∀ f g,f<i->f<=h->g<h->me M f g<=(v4 (y7 rss (t+1)) f g).1) ⟨M,s3,s4,rfl,m,k,R,λf g hf=>absurd hf (Nat.not_lt_zero _)⟩ ?_ ?_
   ·rintro i σ H2 hi' ⟨M,s3,s4,rfl,m,k,R,C⟩;have hi:i<=h:=by omega
    show tFor (zA (k5 (tOp (rI0 λi j=> .int (i-j)) (tCB (zL K) (k5 (c6 0) p7)) (tC (.int 1))) p7)) (qh 4) _ _ [some (.ref A0),some (.ref F),some (.int (0+t)),some (.int (0+i)),s4] _;refine WJ (K:=K) (n:=h) (i:=0) (p:=A0) (xs:=ws) (σ:=[some (.ref A0),some (.ref F),some (.int (0+t)),some (.int (0+i)),s4]) rfl (sA k) wl (by omega) ?_;refine Qi (λl σ H2=>∃(M:List (List Int))(s4:Option V),σ=[some (.ref A0),some (.ref F),some (.int (0+t)),some (.int (0+i)),s4]/\Mat H2 F as M/\Same H H2/\Fx rss h t M/\(∀ f g,f<i->f<=h->g<h->me M f g<=(v4 (y7 rss (t+1)) f g).1)/\∀ g,g<l->g<h->me M i g<=(v4 (y7 rss (t+1)) i g).1) ⟨M,s4,rfl,m,k,R,C,λg hg=>absurd hg (Nat.not_lt_zero _)⟩ ?_ ?_
    ·rintro l σ H2 hl ⟨M,s4,rfl,m,k,R,C,L⟩;have il:i<as.length:=by omega
     have iM:i<M.length:=by rw [R.sh.len];omega
     have ir:M[i]?=some (M.getD i []):=by rw [u4 iM,yV iM]
     have ri:H2 as[i]=some (.lst ((M.getD i []).map V.int)):=m.row i _ _ (yV il) ir;refine rd_m (K:=K) m R.sh rfl rfl rfl hi hl ?_;refine rd_m (K:=K) m R.sh rfl rfl rfl hi ht ?_;refine rd_m (K:=K) m R.sh rfl rfl rfl (by omega) hl (.inl ⟨_,_,rfl,rfl,_,_,rfl,?_⟩);generalize hv:(if me M i t+me M t l<me M i l then me M i t+me M t l else me M i l)=v;have hv':(v=me M i l∨v=me M i t+me M t l)/\v<=me M i l/\v<=me M i t+me M t l:=by rw [<- hv];split<;>omega
     obtain ⟨R',dn,ne⟩:=R.step G hi ht hl hv'.1 hv'.2.1 hv'.2.2;refine YG (k:=0+(i:Int)) (u:= .ref as[i]) rfl rfl m.top (by rw [Int.zero_add];exact qQ (by rw [yR,yV il];rfl)) ?_;refine ⟨_,rfl,as[i],_,_,l,rfl,rfl,ri,?_,?_⟩
     ·rw [yZ,R.sh.row i hi,Int.zero_add];unfold ixN;rw [if_pos (by omega),if_pos (by omega)]
      congr 1
     ·have es:((M.getD i []).map V.int).set l (.int v)=(((M.getD i []).set l v).map V.int):=by rw [List.map_set]
      rw [es];refine ⟨qV M i l v,_,rfl,m.set (yV il) l v,kp k (yn il),R',λf g hf hf' hg=>Int.le_trans (dn f g) (C f g hf hf' hg),λg hg hg'=>?_⟩;rcases Nat.lt_or_ge g l with z|z
      ·exact Int.le_trans (dn i g) (L g z hg')
      ·have:g=l:=by omega
       subst this;exact ne
    ·rintro σ H2 ⟨M,s4,rfl,m,k,R,C,L⟩;refine ⟨M,_,_,rfl,m,k,R,λf g hf hf' hg=>?_⟩;rcases Nat.lt_or_ge f i with z|z
     ·exact C f g z hf' hg
     ·have:f=i:=by omega
      subst this;exact L g hg hg
   ·rintro σ H2 ⟨M,s3,s4,rfl,m,k,R,C⟩;exact ⟨M,_,_,_,rfl,m,k,R.sh,R.ge,λf g hf hg=>C f g (by omega) hf hg⟩
  ·rintro σ H2 ⟨M,s2,s3,s4,rfl,m,k,R⟩;have eM:=R.low G;subst eM
   -- all of it becomes shared
   let Hs':Hp:=λb=>if b=F∨b∈as then H2 b else Hs b
   have nn:∀ b,b=F∨b∈as->H b=none:=λb hb=>by
    rcases hb with rfl|hb
    ·exact nF
    ·exact c.new b hb
   have s1:Same Hs Hs':=λb o z=>by
    show (if _ then _ else _)=_;rw [if_neg (λy=>by have:=sm _ _ z;rw [nn b y] at this;cases this)];exact z
   have s3:Same Hs' H2:=λb o z=>by
    have z:(if b=F∨b∈as then H2 b else Hs b)=some o:=z;split at z
    ·exact z
    ·exact k _ _ (sm _ _ z)
   refine ⟨_,rfl,q (.ref F) Hs' H2 ⟨s1,k,s3,λb hb z=>?_⟩ (rep_lst.mpr ⟨F,as.map V.ref,rfl,?_,?_⟩)⟩
   ·show (if _ then _ else _)=_;rw [if_neg (λy=>hb (nn b y))];exact z
   ·show (if _ then _ else _)=_;rw [if_pos (.inl rfl)];exact m.top
   ·have lens:=m.len;have rows:=m.row;have inAs:∀ a∈as,Hs' a=H2 a:=λa ha=>by show (if _ then _ else _)=_;rw [if_pos (.inr ha)]
    clear_value Hs'
    clear m R q s1 s3;generalize qt rss h=M at lens rows;have go:∀(as:List Addr)(M:List (List Int)),as.length=M.length->(∀(i:Nat)(a:Addr)(r:List Int),as[i]?=some a->M[i]?=some r->Hs' a=some (.lst (r.map V.int)))->Reps Hs' (M.map λr=>PV.lst (r.map λn=> .at (.int n))) (as.map V.ref):=by
     intro as
     induction as with
     |nil =>
      intro M hl _;cases M with
      |nil=>exact .nil
      |cons _ _=>cases hl
     |cons a as ih =>
      intro M hl hr;cases M with
      |nil=>cases hl
      |cons r M=>refine .cons (rep_lst.mpr ⟨a,r.map V.int,rfl,hr 0 a r rfl rfl,?_⟩) (ih M (by simpa using hl) λi b q hb hq=>hr (i+1) b q hb hq);have:=Reps.ofAts (H:=Hs') (r.map V.int);rw [yq] at this;exact this
    exact go as M lens λi a r ha hr=>by rw [inAs a (ym ha)];exact rows i a r ha hr
abbrev ZO:Stmt:=top 14
abbrev Vj:MS:=(y3 (xi (x9 c8 (q8 (x6 0) (q8 (dC (.ty "int")) x0))) (Qd (x9 c8 (q8 (x6 0) (q8 (dC (.ty "bool")) x0))))))
def xT:List PV->Option PV:=u9 1 1 Vj
theorem DY:v9 ["thing"] ["thing"] (j6 ZO):=y2
theorem PJ (F:Fun K "is_whole" "is_whole" ZO f fd)(Eh:mg "bool"=none)(Iv:mg "int"=none)(Ab:mg "isinstance"=none):FnOk P w K mg base j8 1 f fd ["thing"] (j5 xT) :=
 b8 (k:=0) (b:=Vj) F DY rfl λcdv A outer s H E hr=>⟨_,(j4 (y1 (zH (y4 (qS (K:=K) rfl) rfl Ab qR (aC (pv 0) (aW (qZ (v:= .ty "int") rfl Iv Gp rfl)))) (jr (CJ (y4 (qS (K:=K) rfl) rfl Ab qR (aC (pv 0) (aW (qZ (v:= .ty "bool") rfl Eh VI rfl))))))))),
  inferInstance⟩
abbrev ZY:Stmt:=top 17
abbrev Vt:MS:=(y3 (z5 w4 (x6 0) (dC (.int 0))))
def ze:List PV->Option PV:=u9 1 1 Vt
theorem Mf:v9 ["cloth"] ["cloth"] (j6 ZY):=y2
theorem PZ (F:Fun K "name_of" "name_of" ZY f fd):FnOk P w K mg base j8 1 f fd ["cloth"] (j5 ze) :=
 b8 (k:=0) (b:=Vt) F Mf rfl λcdv A outer s H E hr=>⟨_,(j4 (y1 (iW (K:=K) rfl (pv 0) x8))),
  inferInstance⟩
abbrev ZI:Stmt:=top 18
abbrev Vd:MS:=(y3 (z5 w4 (x6 0) (dC (.int 1))))
def zd:List PV->Option PV:=u9 1 1 Vd
theorem DS:v9 ["cloth"] ["cloth"] (j6 ZI):=y2
theorem Py (F:Fun K "hue_of" "hue_of" ZI f fd):FnOk P w K mg base j8 1 f fd ["cloth"] (j5 zd) :=
 b8 (k:=0) (b:=Vd) F DS rfl λcdv A outer s H E hr=>⟨_,(j4 (y1 (iW (K:=K) rfl (pv 0) x8))),
  inferInstance⟩
abbrev ZU:Stmt:=top 19
abbrev Vq:MS:=(y3 (z5 w4 (x6 0) (dC (.int 2))))
def jZ:List PV->Option PV:=u9 1 1 Vq
theorem Md:v9 ["cloth"] ["cloth"] (j6 ZU):=y2
theorem PR (F:Fun K "length_of" "length_of" ZU f fd):FnOk P w K mg base j8 1 f fd ["cloth"] (j5 jZ) :=
 b8 (k:=0) (b:=Vq) F Md rfl λcdv A outer s H E hr=>⟨_,(j4 (y1 (iW (K:=K) rfl (pv 0) x8))),
  inferInstance⟩
abbrev ZE:Stmt:=top 20
abbrev JZ:MS:=(y3 (z5 w4 (x6 0) (dC (.int 3))))
def wd:List PV->Option PV:=u9 1 1 JZ
theorem DP:v9 ["cloth"] ["cloth"] (j6 ZE):=y2
theorem Pt (F:Fun K "due_of" "due_of" ZE f fd):FnOk P w K mg base j8 1 f fd ["cloth"] (j5 wd) :=
 b8 (k:=0) (b:=JZ) F DP rfl λcdv A outer s H E hr=>⟨_,(j4 (y1 (iW (K:=K) rfl (pv 0) x8))),
  inferInstance⟩
abbrev Jg:Stmt:=top 21
abbrev Vz:MS:=(y3 (z5 w4 (x6 0) (dC (.int 4))))
def XN:List PV->Option PV:=u9 1 1 Vz
theorem Ml:v9 ["cloth"] ["cloth"] (j6 Jg):=y2
theorem Cj (F:Fun K "weight_of" "weight_of" Jg f fd):FnOk P w K mg base j8 1 f fd ["cloth"] (j5 XN) :=
 b8 (k:=0) (b:=Vz) F Ml rfl λcdv A outer s H E hr=>⟨_,(j4 (y1 (iW (K:=K) rfl (pv 0) x8))),
  inferInstance⟩
abbrev ZK:Stmt:=top 22
abbrev Vf:MS:=(y3 (xi (x9 xT (q8 (q9 0) x0)) (z5 pGe (x6 0) (x6 1))))
def xS:List PV->Option PV:=u9 2 2 Vf
theorem DU:v9 ["thing","least"] ["thing","least"] (j6 ZK):=y2
theorem PB (F:Fun K "is_from" "is_from" ZK f fd)(Ah:Fn P w K mg base 1 "is_whole" ["thing"] (j5 xT)):FnOk P w K mg base j8 2 f fd ["thing","least"] (j5 xS) :=
 b8 (k:=1) (b:=Vf) F DU rfl λcdv A outer s H E hr=>⟨_,(j4 (y1 (zH (fW Ah hr (aW (pv 0))) (jr (vj (QF) (pv 0) (pv 1) (m7 _)))))),
  inferInstance⟩
abbrev ZL:Stmt:=top 13
abbrev Vg:MS:=(v3 (b9 (dOr (c7 (n5 (x9 c8 (q8 (x6 0) (q8 (dC (.ty "str")) x0))))) (c7 (dT (zt pLe pLe (dC (.int 1)) (x9 qa (q8 (x6 0) x0)) (dC (.int 8)))))) (y3 (dC (.bl false))) m4)
  (y3 (x9 qX (q8 (u8 [none] [0] (vK (q9 0)) (j9 0) u6 (zt pLeS pLeS (dC (.str "a")) (x6 0) (dC (.str "z")))) x0))))
def Qw:List PV->Option PV:=u9 1 1 Vg
theorem DV:v9 ["thing"] ["thing"] (j6 ZL):=y2
theorem PD (F:Fun K "is_name" "is_name" ZL f fd)(Ao:mg "all"=none)(Ab:mg "isinstance"=none)(Ac:mg "len"=none)(Ee:mg "str"=none)(Aw:mg "LONGEST_NAME"=some (.int 8 A5)):FnOk P w K mg base j8 1 f fd ["thing"] (j5 Qw) :=
 b8 (k:=0) (b:=Vg) F DV rfl λcdv A outer s H E hr=>⟨_,(z9 (c4 (PW.pt (xu (o7 (qb (K:=K) rfl (y4 (qS (K:=K) rfl) rfl Ab qR (aC (pv 0) (aW (qZ (v:= .ty "str") rfl Ee Xj rfl)))) (λ_=>rfl))) (zi (o7 (Zg (vf) (vf) x8 (y4 (qp (K:=K) rfl) rfl Ac PySem.boot_len (aW (pv 0))) (vk (v:= .int 8) rfl Aw ⟨_,rfl⟩)))))) (j4 (y1 zI)) c5)
  (j4 (y1 (y4 (zZ (K:=K) rfl rfl) rfl Ao zY (aW (qi (N':=["sign"]) (cap:=[none]) (p9 rfl rfl rfl) rfl (Yj (pv 0)) (λ_ _ _ _ _ _=>(u5 (i:=0) (by show (["sign"]:List Str).Nodup;decide +kernel) rfl (Or.inl rfl))) (λ_ _ _ _ _ _=>m9) (λ_ _ _ _ _ _=>(CA (Yb) (Yb) zJ (pv 0) zJ)))))))),
  inferInstance⟩
abbrev ZJ:Stmt:=top 23
abbrev Ve:MS:=(v3 (b9 (dOr (c7 (n5 (x9 c8 (q8 (x6 0) (q8 (dC (.ty "tuple")) x0))))) (dT (z5 pNe (x9 qa (q8 (x6 0) x0)) (dC (.int 5))))) (y3 (dC (.bl false))) m4)
  (v3 (b9 (dOr (c7 (n5 (x9 Qw (q8 (x9 ze (q8 (q9 0) x0)) x0)))) (dOr (c7 (n5 (x9 xS (q8 (x9 zd (q8 (q9 0) x0)) (q8 (dC (.int 0)) x0))))) (dT (z5 pGe (x9 zd (q8 (q9 0) x0)) (x6 1))))) (y3 (dC (.bl false))) m4)
  (y3 (xi (x9 xS (q8 (x9 jZ (q8 (q9 0) x0)) (q8 (dC (.int 1)) x0))) (xi (x9 xT (q8 (x9 wd (q8 (q9 0) x0)) x0)) (x9 xS (q8 (x9 XN (q8 (q9 0) x0)) (q8 (dC (.int 1)) x0))))))))
def Qv:List PV->Option PV:=u9 2 2 Ve
theorem DT:v9 ["thing","hues"] ["thing","hues"] (j6 ZJ):=y2
theorem Pz (F:Fun K "is_cloth" "is_cloth" ZJ f fd)(B5:Fn P w K mg base 1 "due_of" ["cloth"] (j5 wd))(Ap:Fn P w K mg base 1 "hue_of" ["cloth"] (j5 zd))(Ak:Fn P w K mg base 2 "is_from" ["thing","least"] (j5 xS))(Ef:Fn P w K mg base 1 "is_name" ["thing"] (j5 Qw))(Ah:Fn P w K mg base 1 "is_whole" ["thing"] (j5 xT))(An:Fn P w K mg base 1 "length_of" ["cloth"] (j5 jZ))(Ai:Fn P w K mg base 1 "name_of" ["cloth"] (j5 ze))(D2:Fn P w K mg base 1 "weight_of" ["cloth"] (j5 XN))(Ab:mg "isinstance"=none)(Ac:mg "len"=none)(E5:mg "tuple"=none)(Ex:mg "PARTS"=some (.int 5 Ey)):FnOk P w K mg base j8 3 f fd ["thing","hues"] (j5 Qv) :=
 b8 (k:=2) (b:=Ve) F DT rfl λcdv A outer s H E hr=>⟨_,(z9 (c4 (PW.pt (xu (o7 (qb (K:=K) rfl (y4 (qS (K:=K) rfl) rfl Ab qR (aC (pv 0) (aW (qZ (v:= .ty "tuple") rfl E5 Gs rfl)))) (λ_=>rfl))) (zi (t6 (jp (K:=K) (hu6 hr) rfl) (y4 (qp (K:=K) rfl) rfl Ac PySem.boot_len (aW (pv 0))) (vk (v:= .int 5) rfl Ex ⟨_,rfl⟩) (m7 _))))) (j4 (y1 zI)) c5)
  (z9 (c4 (PW.pt (xu (o7 (qb (K:=K) rfl (fW Ef hr (aW (fW Ai hr (aW (pv 0))))) (λ_=>rfl))) (xu (o7 (qb (K:=K) rfl (fW Ak hr (aC (fW Ap hr (aW (pv 0))) (aW x8))) (λ_=>rfl))) (zi (t6 (QF) (fW Ap hr (aW (pv 0))) (pv 1) (m7 _)))))) (j4 (y1 zI)) c5)
  (j4 (y1 (zH (fW Ak hr (aC (fW An hr (aW (pv 0))) (aW x8))) (zH (fW Ah hr (aW (fW B5 hr (aW (pv 0))))) (jr (fW Ak hr (aC (fW D2 hr (aW (pv 0))) (aW x8)))))))))),
  inferInstance⟩
abbrev ZN:Stmt:=top 40
abbrev Vi:MS:=(v3 (b9 (dOr (c7 (n5 (x9 c8 (q8 (x6 0) (q8 (dC (.ty "list")) x0))))) (dT (z5 pNe (x9 qa (q8 (x6 0) x0)) (x6 1)))) (y3 (dC (.bl false))) m4)
  (y3 (x9 qX (q8 (u8 [none] [0] (g0 (q9 0)) (j9 0) u6 (xi (x9 xT (q8 (q9 0) x0)) (z5 pGe (x6 0) (dC (.int 0))))) x0))))
def wm:List PV->Option PV:=u9 2 2 Vi
theorem DX:v9 ["row","hues"] ["row","hues"] (j6 ZN):=y2
theorem PH (F:Fun K "is_rinse_row" "is_rinse_row" ZN f fd)(Ah:Fn P w K mg base 1 "is_whole" ["thing"] (j5 xT))(Ao:mg "all"=none)(Ab:mg "isinstance"=none)(Ac:mg "len"=none)(Ag:mg "list"=none):FnOk P w K mg base j8 2 f fd ["row","hues"] (j5 wm) :=
 b8 (k:=1) (b:=Vi) F DX rfl λcdv A outer s H E hr=>⟨_,(z9 (c4 (PW.pt (xu (o7 (qb (K:=K) rfl (y4 (qS (K:=K) rfl) rfl Ab qR (aC (pv 0) (aW (qZ (v:= .ty "list") rfl Ag xL rfl)))) (λ_=>rfl))) (zi (t6 (jp (K:=K) (hu6 hr) rfl) (y4 (qp (K:=K) rfl) rfl Ac PySem.boot_len (aW (pv 0))) (pv 1) (m7 _))))) (j4 (y1 zI)) c5)
  (j4 (y1 (y4 (zZ (K:=K) rfl rfl) rfl Ao zY (aW (qi (N':=["number"]) (cap:=[none]) (p9 rfl rfl rfl) rfl (@c3 _ K _ _ _ rfl (pv 0)) (λ_ _ _ _ _ _=>(u5 (i:=0) (by show (["number"]:List Str).Nodup;decide +kernel) rfl (Or.inl rfl))) (λ_ _ _ _ _ _=>m9) (λ_ _ _ _ _ _=>(zH (fW Ah hr (aW (pv 0))) (jr (vj (QF) (pv 0) x8 (m7 _))))))))))),
  inferInstance⟩
abbrev Zx:Stmt:=top 41
abbrev JT:MS:=(v3 (b9 (c7 (n5 (x9 c8 (q8 (x6 0) (q8 (dC (.ty "list")) x0))))) qD m4)
  (v3 (b7 1 (z5 qH (x9 qa (q8 (x6 0) x0)) (dC (.int 1))))
  (v3 (b9 (c7 (dT (zt pLe pLe (dC (.int 1)) (x6 1) (dC (.int 4))))) qD m4)
  (b9 (c7 (n5 (x9 qX (q8 (u8 [none,some 1] [0] (g0 (q9 0)) (j9 0) u6 (x9 wm (q8 (q9 0) (q8 (q9 1) x0)))) x0)))) qD m4))))
def Qs:List PV->Option PV:=u9 2 1 JT
theorem sc_check_rinses:v9 ["rinses","hues"] ["rinses"] (j6 Zx):=y2
theorem Pl (F:Fun K "check_rinses" "check_rinses" Zx f fd)(A3:Fn P w K mg base 2 "is_rinse_row" ["row","hues"] (j5 wm))(Ao:mg "all"=none)(Ab:mg "isinstance"=none)(Ac:mg "len"=none)(Ag:mg "list"=none)(D1:mg "MOST_HUES"=some (.int 4 D4)):FnOk P w K mg base j8 3 f fd ["rinses"] (j5 Qs) :=
 b8 (k:=2) (b:=JT) F sc_check_rinses rfl λcdv A outer s H E hr=>⟨_,(z9 (c4 (o7 (qb (K:=K) rfl (y4 (qS (K:=K) rfl) rfl Ab qR (aC (pv 0) (aW (qZ (v:= .ty "list") rfl Ag xL rfl)))) (λ_=>rfl))) (j4 xa) c5)
  (z9 (sW 1 sc_check_rinses.nd (v5 (qW) (y4 (qp (K:=K) rfl) rfl Ac PySem.boot_len (aW (pv 0))) x8))
  (z9 (c4 (o7 (Zg (vf) (vf) x8 (pv 1) (vk (v:= .int 4) rfl D1 ⟨_,rfl⟩))) (j4 xa) c5)
  (j4 (c4 (o7 (qb (K:=K) rfl (y4 (zZ (K:=K) rfl rfl) rfl Ao zY (aW (qi (N':=["row","hues"]) (cap:=[none,some 1]) (p9 rfl rfl rfl) rfl (@c3 _ K _ _ _ rfl (pv 0)) (λ_ _ _ _ _ _=>(u5 (i:=0) (by show (["row","hues"]:List Str).Nodup;decide +kernel) rfl (Or.inl rfl))) (λ_ _ _ _ _ _=>m9) (λ_ _ _ _ _ _=>(fW A3 hr (aC (pv 0) (aW (pv 1)))))))) (λ_=>rfl))) (j4 xa) c5))))),
  inferInstance⟩
abbrev Ja:Stmt:=top 42
abbrev Vv:MS:=(y3 (u8 [none,none] [0,1] (Xr (q8 (q9 0) x0)) (xD 2 (r9 (j9 0) (r9 (j9 1) xC))) u6 (qO (q8 (q9 1) (q8 (n8 (q8 (q9 0) x0)) x0)))))
def wq:List PV->Option PV:=xk 1 1 Vv
theorem Mg:v9 ["row"] ["row"] (j6 Ja):=y2
theorem Cb (F:Fun K "straight_ways" "straight_ways" Ja f fd)(D3:mg "enumerate"=none):FnOk P w K mg base j8 1 f fd ["row"] (o8 wq) :=
 okO (k:=0) (b:=Vv) F Mg rfl λcdv A outer s H E hr=>⟨_,(j4 (y1 (qi (N':=["hue","number"]) (cap:=[none,none]) (p9 rfl rfl rfl) rfl (CP (K:=K) rfl rfl D3 (aW (pv 0))) (λ_ _ _ _ _ _=>(vn (K:=K) (n:=2) rfl rfl (qI (u5 (i:=0) (by show (["hue","number"]:List Str).Nodup;decide +kernel) rfl (Or.inl rfl)) (qI (u5 (i:=1) (by show (["hue","number"]:List Str).Nodup;decide +kernel) rfl (Or.inl rfl)) vo)))) (λ_ _ _ _ _ _=>m9) (λ_ _ _ _ _ _=>(@zg _ _ _ _ _ (aC (pv 1) (aW (@qm _ _ _ _ (aW (pv 0)))))))))),
  inferInstance⟩
abbrev ZP:Stmt:=top 43
abbrev Vk:MS:=(y3 (qO (q8 (z5 k7 (z5 w4 (x6 0) (dC (.int 0))) (z5 w4 (x6 1) (dC (.int 0)))) (q8 (z5 k7 (z5 w4 (x6 0) (dC (.int 1))) (z5 w4 (x6 1) (dC (.int 1)))) x0))))
def wn:List PV->Option PV:=u9 2 2 Vk
theorem DZ:v9 ["way","onward"] ["way","onward"] (j6 ZP):=y2
theorem PK (F:Fun K "joined" "joined" ZP f fd):FnOk P w K mg base j8 1 f fd ["way","onward"] (j5 wn) :=
 b8 (k:=0) (b:=Vk) F DZ rfl λcdv A outer s H E hr=>⟨_,(j4 (y1 (@zg _ _ _ _ _ (aC (v5 (o6 (K:=K) rfl) (iW (K:=K) rfl (pv 0) x8) (iW (K:=K) rfl (pv 1) x8)) (aW (v5 (o6 (K:=K) rfl) (iW (K:=K) rfl (pv 0) x8) (iW (K:=K) rfl (pv 1) x8))))))),
  inferInstance⟩
abbrev ZV:Stmt:=top 44
abbrev Vr:MS:=(y3 (dIf (dT (z5 pLt (z5 w4 (x6 1) (dC (.int 0))) (z5 w4 (x6 0) (dC (.int 0))))) (q9 1) (q9 0)))
def wp:List PV->Option PV:=u9 2 2 Vr
theorem Me:v9 ["way","other"] ["way","other"] (j6 ZV):=y2
theorem PU (F:Fun K "lesser" "lesser" ZV f fd):FnOk P w K mg base j8 1 f fd ["way","other"] (j5 wp) :=
 b8 (k:=0) (b:=Vr) F Me rfl λcdv A outer s H E hr=>⟨_,(j4 (y1 (XY (t6 (XX) (iW (K:=K) rfl (pv 1) x8) (iW (K:=K) rfl (pv 0) x8) (m7 _)) (pv 1) (pv 0)))),
  inferInstance⟩
abbrev Jf:Stmt:=top 45
abbrev Vy:MS:=(y3 (u8 [none,none,some 0,some 1] [0,1] (vL (q8 (q9 0) (q8 (q9 2) x0))) (xD 2 (r9 (j9 0) (r9 (j9 1) xC))) u6 (x9 wp (q8 (q9 0) (q8 (x9 wn (q8 (z5 w4 (x6 2) (x6 3)) (q8 (q9 1) x0))) x0)))))
def va:List PV->Option PV:=xk 3 3 Vy
theorem Mj:v9 ["ways","hue","onward"] ["ways","hue","onward"] (j6 Jf):=y2
theorem Ci (F:Fun K "ways_through" "ways_through" Jf f fd)(En:Fn P w K mg base 1 "joined" ["way","onward"] (j5 wn))(Em:Fn P w K mg base 1 "lesser" ["way","other"] (j5 wp))(Eu:mg "zip"=none):FnOk P w K mg base j8 2 f fd ["ways","hue","onward"] (o8 va) :=
 okO (k:=1) (b:=Vy) F Mj rfl λcdv A outer s H E hr=>⟨_,(j4 (y1 (qi (N':=["way","more","ways","hue"]) (cap:=[none,none,some 0,some 1]) (p9 rfl rfl rfl) rfl (Yk (K:=K) rfl rfl Eu (aC (pv 0) (aW (pv 2)))) (λ_ _ _ _ _ _=>(vn (K:=K) (n:=2) rfl rfl (qI (u5 (i:=0) (by show (["way","more","ways","hue"]:List Str).Nodup;decide +kernel) rfl (Or.inl rfl)) (qI (u5 (i:=1) (by show (["way","more","ways","hue"]:List Str).Nodup;decide +kernel) rfl (Or.inl rfl)) vo)))) (λ_ _ _ _ _ _=>m9) (λ_ _ _ _ _ _=>(fW Em hr (aC (pv 0) (aW (fW En hr (aC (iW (K:=K) rfl (pv 2) (pv 3)) (aW (pv 1))))))))))),
  inferInstance⟩
abbrev ZT:Stmt:=top 46
abbrev Vp:MS:=(v3 (b7 1 (u8 [none] [0] (g0 (q9 0)) (j9 0) u6 (x9 wq (q8 (q9 0) x0))))
  (v3 (xX (xA (q8 (z5 qH (x9 qa (q8 (x6 0) x0)) (dC (.int 1))) x0)) (j9 2) (v3 (b7 3 (z5 w4 (x6 1) (x6 2)))
  (b7 1 (u8 [none,some 2,some 3] [0] (g0 (q9 1)) (j9 0) u6 (x9 va (q8 (q9 0) (q8 (q9 1) (q8 (q9 2) x0))))))))
  (y3 (q9 1))))
def Qz:List PV->Option PV:=u9 4 1 Vp
theorem sc_least_ways:v9 ["rinses","table","hue","onward"] ["rinses"] (j6 ZT):=y2
theorem PQ (F:Fun K "least_ways" "least_ways" ZT f fd)(As:Fn P w K mg base 1 "straight_ways" ["row"] (o8 wq))(A4:Fn P w K mg base 2 "ways_through" ["ways","hue","onward"] (o8 va))(Ac:mg "len"=none)(Ad:mg "range"=none):FnOk P w K mg base j8 3 f fd ["rinses"] (j5 Qz) :=
 b8 (k:=2) (b:=Vp) F sc_least_ways rfl λcdv A outer s H E hr=>⟨_,(z9 (zh (i:=1) (N':=["row"]) (cap:=[none]) (p9 rfl rfl rfl) rfl sc_least_ways.nd rfl rfl (@c3 _ K _ _ _ rfl (pv 0)) (λ_ _ _ _ _ _=>(u5 (i:=0) (by show (["row"]:List Str).Nodup;decide +kernel) rfl (Or.inl rfl))) (λ_ _ _ _ _ _=>m9) (λ_ _ _ _ _ _=>(fW As hr (aW (pv 0)))))
  (z9 (qy PassesOwn.never rfl (xF rfl Ad (aW (v5 (qW) (y4 (qp (K:=K) rfl) rfl Ac PySem.boot_len (aW (pv 0))) x8))) (gW 2 sc_least_ways.nd)
   (z9 (sW 3 sc_least_ways.nd (iW (K:=K) rfl (pv 1) (pv 2)))
  (j4 (zh (i:=1) (N':=["ways","hue","onward"]) (cap:=[none,some 2,some 3]) (p9 rfl rfl rfl) rfl sc_least_ways.nd rfl rfl (@c3 _ K _ _ _ rfl (pv 1)) (λ_ _ _ _ _ _=>(u5 (i:=0) (by show (["ways","hue","onward"]:List Str).Nodup;decide +kernel) rfl (Or.inl rfl))) (λ_ _ _ _ _ _=>m9) (λ_ _ _ _ _ _=>(fW A4 hr (aC (pv 0) (aC (pv 1) (aW (pv 2))))))))))
  (j4 (y1 (pv 1))))),
  inferInstance⟩
abbrev Jc:Stmt:=top 47
abbrev Vw:MS:=(y3 (u8 [none] [0] (g0 (q9 0)) (j9 0) u6 (z5 w4 (x6 0) (dC (.int 0)))))
def QA:List PV->Option PV:=xk 1 1 Vw
theorem Mh:v9 ["ways"] ["ways"] (j6 Jc):=y2
theorem Cf (F:Fun K "sums_of" "sums_of" Jc f fd):FnOk P w K mg base j8 1 f fd ["ways"] (o8 QA) :=
 okO (k:=0) (b:=Vw) F Mh rfl λcdv A outer s H E hr=>⟨_,(j4 (y1 (qi (N':=["way"]) (cap:=[none]) (p9 rfl rfl rfl) rfl (@c3 _ K _ _ _ rfl (pv 0)) (λ_ _ _ _ _ _=>(u5 (i:=0) (by show (["way"]:List Str).Nodup;decide +kernel) rfl (Or.inl rfl))) (λ_ _ _ _ _ _=>m9) (λ_ _ _ _ _ _=>(iW (K:=K) rfl (pv 0) x8))))),
  inferInstance⟩
abbrev ZS:Stmt:=top 48
abbrev Vo:MS:=(v3 (xO (x9 Qs (q8 (q9 0) x0)))
  (y3 (u8 [none] [0] (g0 (x9 Qz (q8 (q9 0) x0))) (j9 0) u6 (x9 QA (q8 (q9 0) x0)))))
def Qy:List PV->Option PV:=xk 1 1 Vo
theorem Mc:v9 ["rinses"] ["rinses"] (j6 ZS):=y2
theorem PP (F:Fun K "least_rinses" "least_rinses" ZS f fd)(Au:Fn P w K mg base 3 "check_rinses" ["rinses"] (j5 Qs))(B6:Fn P w K mg base 3 "least_ways" ["rinses"] (j5 Qz))(Ei:Fn P w K mg base 1 "sums_of" ["ways"] (o8 QA)):FnOk P w K mg base j8 4 f fd ["rinses"] (o8 Qy) :=
 okO (k:=3) (b:=Vo) F Mc rfl λcdv A outer s H E hr=>⟨_,(z9 (xr (fW Au hr (aW (pv 0))))
  (j4 (y1 (qi (N':=["ways"]) (cap:=[none]) (p9 rfl rfl rfl) rfl (@c3 _ K _ _ _ rfl (fW B6 hr (aW (pv 0)))) (λ_ _ _ _ _ _=>(u5 (i:=0) (by show (["ways"]:List Str).Nodup;decide +kernel) rfl (Or.inl rfl))) (λ_ _ _ _ _ _=>m9) (λ_ _ _ _ _ _=>(fW Ei hr (aW (pv 0)))))))),
  inferInstance⟩
abbrev Zy:Stmt:=top 51
abbrev JU:MS:=(v3 (b9 (vH (dT (z5 QJ (x6 0) (dC .non))) (c7 (vH (n5 (x9 xS (q8 (q9 0) (q8 (dUn pNeg (dC (.int 1))) x0)))) (dT (z5 pLt (x6 0) (x6 2)))))) qD m4)
  (b9 (c7 (n5 (x9 xS (q8 (q9 1) (q8 (dC (.int 0)) x0))))) qD m4))
def Qt:List PV->Option PV:=u9 3 3 JU
theorem DN:v9 ["last","time","hues"] ["last","time","hues"] (j6 Zy):=y2
theorem Pm (F:Fun K "check_start" "check_start" Zy f fd)(Ak:Fn P w K mg base 2 "is_from" ["thing","least"] (j5 xS)):FnOk P w K mg base j8 3 f fd ["last","time","hues"] (j5 Qt) :=
 b8 (k:=2) (b:=JU) F DN rfl λcdv A outer s H E hr=>⟨_,(z9 (c4 (PW.pt (QQ (t6 (Yc) (pv 0) Za (m7 _)) (QR (o7 (PW.pt (QQ (qb (K:=K) rfl (fW Ak hr (aC (pv 0) (aW (Zb Jq x8)))) (λ_=>rfl)) (QR (t6 (XX) (pv 0) (pv 2) (m7 _))))))))) (j4 xa) c5)
  (j4 (c4 (o7 (qb (K:=K) rfl (fW Ak hr (aC (pv 1) (aW x8))) (λ_=>rfl))) (j4 xa) c5))),
  inferInstance⟩
abbrev Zu:Stmt:=top 52
abbrev JQ:MS:=(v3 (b9 (dT (z5 pGt (x9 qa (q8 (x6 0) x0)) (dC (.int 10)))) qD m4)
  (v3 (zv 2 Xt)
  (xX (g0 (q9 0)) (j9 3) (v3 (b9 (c7 (n5 (x9 Qv (q8 (q9 3) (q8 (q9 1) x0))))) qD m4)
  (v3 (b9 (dT (jJ (x9 ze (q8 (q9 3) x0)) (x6 2))) qD m4)
  (dPut 2 (x9 ze (q8 (q9 3) x0)) (dC (.bl true))))))))
def Qr:List PV->Option PV:=u9 4 2 JQ
theorem sc_check_cloths:v9 ["cloths","hues","seen","cloth"] ["cloths","hues"] (j6 Zu):=y2
theorem Pi (F:Fun K "check_cloths" "check_cloths" Zu f fd)(D9:Fn P w K mg base 3 "is_cloth" ["thing","hues"] (j5 Qv))(Ai:Fn P w K mg base 1 "name_of" ["cloth"] (j5 ze))(Ac:mg "len"=none)(A7:mg "MOST_CLOTHS"=some (.int 10 B0)):FnOk P w K mg base j8 4 f fd ["cloths","hues"] (j5 Qr) :=
 b8 (k:=3) (b:=JQ) F sc_check_cloths rfl λcdv A outer s H E hr=>⟨_,(z9 (c4 (t6 (WZ) (y4 (qp (K:=K) rfl) rfl Ac PySem.boot_len (aW (pv 0))) (vk (v:= .int 10) rfl A7 ⟨_,rfl⟩) (m7 _)) (j4 xa) c5)
  (z9 (sW 2 sc_check_cloths.nd Yh)
  (j4 (qy PassesOwn.never rfl (@c3 _ K _ _ _ rfl (pv 0)) (gW 3 sc_check_cloths.nd)
   (z9 (c4 (o7 (qb (K:=K) rfl (fW D9 hr (aC (pv 3) (aW (pv 1)))) (λ_=>rfl))) (j4 xa) c5)
  (z9 (c4 (Yo (Yf (je hr) (fW Ai hr (aW (pv 3))) (pv 2))) (j4 xa) c5)
  (j4 (Yn (je hr) (pv 2) (fW Ai hr (aW (pv 3))) zI rfl)))))))),
  inferInstance⟩
abbrev Zn:Stmt:=jf (top 53) 1
abbrev JK (Aa:Addr):MS:=(y3 (z5 qH (x9 qa (q8 (xj Aa "least" (q9 0)) x0)) (dC (.int 1))))
def jV (Aa:Addr):List PV->Option PV:=u9 1 1 (JK Aa)
theorem DE:v9 ["self"] ["self"] (j6 Zn):=y2
theorem Pb (F:Fun K "hues" "Works.hues" Zn f fd)(Ac:mg "len"=none)[xx K Aa][NoA K Aa "least"]:FnOk P w K mg base j8 1 f fd ["self"] (j5 (jV Aa)) :=
 b8 (k:=0) (b:=(JK Aa)) F DE rfl λcdv A outer s H E hr=>⟨_,(j4 (y1 (v5 (qW) (y4 (qp (K:=K) rfl) rfl Ac PySem.boot_len (aW (jq (K:=K) rfl (pv 0) rfl))) x8))),
  inferInstance⟩
abbrev Zr:Stmt:=jf (top 53) 4
abbrev JO (Aa:Addr):MS:=(y3 (z5 w4 (z5 w4 (xj Aa "least" (q9 0)) (x6 1)) (x6 2)))
def vZ (Aa:Addr):List PV->Option PV:=u9 3 3 (JO Aa)
theorem DK:v9 ["self","first","then"] ["self","first","then"] (j6 Zr):=y2
theorem Pg (F:Fun K "tray_rinse" "Works.tray_rinse" Zr f fd)[xx K Aa][NoA K Aa "least"]:FnOk P w K mg base j8 1 f fd ["self","first","then"] (j5 (vZ Aa)) :=
 b8 (k:=0) (b:=(JO Aa)) F DK rfl λcdv A outer s H E hr=>⟨_,(j4 (y1 (iW (K:=K) rfl (iW (K:=K) rfl (jq (K:=K) rfl (pv 0) rfl) (pv 1)) (pv 2)))),
  inferInstance⟩
abbrev Zp:Stmt:=jf (top 53) 3
abbrev JM (Aa:Addr):MS:=(y3 (dIf (dT (z5 pEq (x6 1) (x6 2))) (dC (.int 0)) (qC Aa "tray_rinse" (vZ Aa) (q9 0) (q8 (q9 1) (q8 (q9 2) x0)))))
def jX (Aa:Addr):List PV->Option PV:=u9 3 3 (JM Aa)
theorem DH:v9 ["self","first","then"] ["self","first","then"] (j6 Zp):=y2
theorem Pe (F:Fun K "rinse" "Works.rinse" Zp f fd)(Al:Mt P w K mg base 1 Aa "tray_rinse" ["self","first","then"] (j5 (vZ Aa))):FnOk P w K mg base j8 2 f fd ["self","first","then"] (j5 (jX Aa)) :=
 b8 (k:=1) (b:=(JM Aa)) F DH rfl λcdv A outer s H E hr=>⟨_,(j4 (y1 (XY (t6 (zF (K:=K) (hu6 hr) rfl) (pv 1) (pv 2) (m7 _)) x8 (QM Al hr (by decide) (pv 0) (aC (pv 1) (aW (pv 2))))))),
  inferInstance⟩
abbrev Zq:Stmt:=jf (top 53) 5
abbrev JN (Aa:Addr):MS:=(y3 (qO (q8 (xj Aa "last" (q9 0)) (q8 (xj Aa "time" (q9 0)) x0))))
def vY (Aa:Addr):List PV->Option PV:=u9 1 1 (JN Aa)
theorem DJ:v9 ["self"] ["self"] (j6 Zq):=y2
theorem Pf (F:Fun K "start" "Works.start" Zq f fd)[xx K Aa][NoA K Aa "last"][NoA K Aa "time"]:FnOk P w K mg base j8 1 f fd ["self"] (j5 (vY Aa)) :=
 b8 (k:=0) (b:=(JN Aa)) F DJ rfl λcdv A outer s H E hr=>⟨_,(j4 (y1 (@zg _ _ _ _ _ (aC (jq (K:=K) rfl (pv 0) rfl) (aW (jq (K:=K) rfl (pv 0) rfl)))))),
  inferInstance⟩
abbrev Zo:Stmt:=jf (top 53) 6
abbrev JL (Aa:Addr):MS:=(y3 (x9 QK (q8 (xj Aa "held" (q9 0)) x0)))
def zb (Aa:Addr):List PV->Option PV:=xk 1 1 (JL Aa)
theorem DG:v9 ["self"] ["self"] (j6 Zo):=y2
theorem Pd (F:Fun K "names" "Works.names" Zo f fd)(A6:mg "sorted"=none)[xx K Aa][NoA K Aa "held"]:FnOk P w K mg base j8 1 f fd ["self"] (o8 (zb Aa)) :=
 okO (k:=0) (b:=(JL Aa)) F DG rfl λcdv A outer s H E hr=>⟨_,(j4 (y1 (y4 (VO (K:=K) rfl rfl) rfl A6 Xi (aW (jq (K:=K) rfl (pv 0) rfl))))),
  inferInstance⟩
abbrev Zm:Stmt:=jf (top 53) 7
abbrev JJ (Aa:Addr):MS:=(v3 (b9 (dOr (c7 (n5 (x9 c8 (q8 (x6 1) (q8 (dC (.ty "str")) x0))))) (dT (Qc (x6 1) (xj Aa "held" (q9 0))))) qD m4)
  (y3 (zu (xj Aa "held" (q9 0)) (x6 1))))
def zE (Aa:Addr):List PV->Option PV:=u9 2 2 (JJ Aa)
theorem DD:v9 ["self","name"] ["self","name"] (j6 Zm):=y2
theorem Pa (F:Fun K "cloth" "Works.cloth" Zm f fd)(Ab:mg "isinstance"=none)(Ee:mg "str"=none)[xx K Aa][NoA K Aa "held"]:FnOk P w K mg base j8 1 f fd ["self","name"] (j5 (zE Aa)) :=
 b8 (k:=0) (b:=(JJ Aa)) F DD rfl λcdv A outer s H E hr=>⟨_,(z9 (c4 (PW.pt (xu (o7 (qb (K:=K) rfl (y4 (qS (K:=K) rfl) rfl Ab qR (aC (pv 1) (aW (qZ (v:= .ty "str") rfl Ee Xj rfl)))) (λ_=>rfl))) (zi (Yo (Cy (je hr) (pv 1) (jq (K:=K) rfl (pv 0) rfl)))))) (j4 xa) c5)
  (j4 (y1 (Yg (je hr) (jq (K:=K) rfl (pv 0) rfl) (pv 1) (λ_ _=>rfl))))),
  inferInstance⟩
abbrev ZQ:Stmt:=top 24
abbrev Vl:MS:=(y3 (z5 qH (x6 1) (x9 wd (q8 (q9 0) x0))))
def Qx:List PV->Option PV:=u9 2 2 Vl
theorem Ma:v9 ["cloth","end"] ["cloth","end"] (j6 ZQ):=y2
theorem PL (F:Fun K "late_by" "late_by" ZQ f fd)(B5:Fn P w K mg base 1 "due_of" ["cloth"] (j5 wd)):FnOk P w K mg base j8 2 f fd ["cloth","end"] (j5 Qx) :=
 b8 (k:=1) (b:=Vl) F Ma rfl λcdv A outer s H E hr=>⟨_,(j4 (y1 (v5 (qW) (pv 1) (fW B5 hr (aW (pv 0)))))),
  inferInstance⟩
abbrev Zs:Stmt:=top 26
abbrev JP (Aa:Addr):MS:=(v3 (b9 (c7 (n5 (x9 c8 (q8 (x6 1) (q8 (dC (.ty "list")) x0))))) (y3 (dC (.bl false))) m4)
  (v3 (b7 2 (qC Aa "names" (zb Aa) (q9 0) x0))
  (y3 (xi (x9 qX (q8 (u8 [none,some 2] [0] (g0 (q9 1)) (j9 0) u6 (z5 (pIn false) (x6 0) (x6 1))) x0)) (z5 pEq (Wa (x6 1)) (x9 qa (q8 (x6 1) x0)))))))
def zc (Aa:Addr):List PV->Option PV:=u9 3 2 (JP Aa)
theorem sc_are_names:v9 ["works","names","known"] ["works","names"] (j6 Zs):=y2
theorem Ph (F:Fun K "are_names" "are_names" Zs f fd)(Ao:mg "all"=none)(Ab:mg "isinstance"=none)(Ac:mg "len"=none)(Ag:mg "list"=none)(Iq:mg "set"=none)(Af:Mt P w K mg base 1 Aa "names" ["self"] (o8 (zb Aa))):FnOk P w K mg base j8 2 f fd ["works","names"] (j5 (zc Aa)) :=
 b8 (k:=1) (b:=(JP Aa)) F sc_are_names rfl λcdv A outer s H E hr=>⟨_,(z9 (c4 (o7 (qb (K:=K) rfl (y4 (qS (K:=K) rfl) rfl Ab qR (aC (pv 1) (aW (qZ (v:= .ty "list") rfl Ag xL rfl)))) (λ_=>rfl))) (j4 (y1 zI)) c5)
  (z9 (sW 2 sc_are_names.nd (vm Af hr (by decide) (pv 0)))
  (j4 (y1 (zH (y4 (zZ (K:=K) rfl rfl) rfl Ao zY (aW (qi (N':=["thing","known"]) (cap:=[none,some 2]) (p9 rfl rfl rfl) rfl (@c3 _ K _ _ _ rfl (pv 1)) (λ_ _ _ _ _ _=>(u5 (i:=0) (by show (["thing","known"]:List Str).Nodup;decide +kernel) rfl (Or.inl rfl))) (λ_ _ _ _ _ _=>m9) (λ_ _ _ _ _ _=>(vj (Ya (K:=K) rfl) (pv 0) (pv 1) (by with_unfolding_all rfl)))))) (jr (vj (zF (K:=K) (hu6 hr) rfl) (y4 GE rfl Ac PySem.boot_len (aW (wy (GI (K:=K) rfl rfl) rfl Iq Gr (aW (pv 1))))) (y4 (qp (K:=K) rfl) rfl Ac PySem.boot_len (aW (pv 1))) (m7 _)))))))),
  inferInstance⟩
abbrev Zw:Stmt:=top 27
abbrev JS (Aa:Addr):MS:=(b9 (c7 (n5 (x9 (zc Aa) (q8 (q9 0) (q8 (q9 1) x0))))) qD m4)
def wb (Aa:Addr):List PV->Option PV:=u9 2 2 (JS Aa)
theorem DM:v9 ["works","names"] ["works","names"] (j6 Zw):=y2
theorem Pk (F:Fun K "check_names" "check_names" Zw f fd)(Am:Fn P w K mg base 2 "are_names" ["works","names"] (j5 (zc Aa))):FnOk P w K mg base j8 3 f fd ["works","names"] (j5 (wb Aa)) :=
 b8 (k:=2) (b:=(JS Aa)) F DM rfl λcdv A outer s H E hr=>⟨_,(j4 (c4 (o7 (qb (K:=K) rfl (fW Am hr (aC (pv 0) (aW (pv 1)))) (λ_=>rfl))) (j4 xa) c5)),
  inferInstance⟩
abbrev ZD:Stmt:=top 29
abbrev JY (Aa:Addr):MS:=(v3 (xO (x9 (wb Aa) (q8 (q9 0) (q8 (q9 1) x0))))
  (v3 (b7 2 (qC Aa "start" (vY Aa) (q9 0) x0))
  (v3 (b7 3 (z5 w4 (x6 2) (dC (.int 0))))
  (v3 (b7 4 (z5 w4 (x6 2) (dC (.int 1))))
  (v3 (zv 5 (n8 x0))
  (v3 (xX (g0 (q9 1)) (j9 6) (v3 (b7 7 (qC Aa "cloth" (zE Aa) (q9 0) (q8 (q9 6) x0)))
  (v3 (b7 8 (z5 k7 (x6 4) (qC Aa "rinse" (jX Aa) (q9 0) (q8 (q9 3) (q8 (x9 zd (q8 (q9 7) x0)) x0)))))
  (v3 (b7 4 (z5 k7 (x6 8) (x9 jZ (q8 (q9 7) x0))))
  (v3 (b7 3 (x9 zd (q8 (q9 7) x0)))
  (ja 5 (qO (q8 (q9 6) (q8 (q9 8) (q8 (q9 4) x0))))))))))
  (y3 (oVar 5))))))))
def jY (Aa:Addr):List PV->Option PV:=xk 9 2 (JY Aa)
theorem sc_done_rows:v9 ["works","names","start","last","time","rows","name","cloth","begin"] ["works","names"] (j6 ZD):=y2
theorem Ps (F:Fun K "done_rows" "done_rows" ZD f fd)(A8:Fn P w K mg base 3 "check_names" ["works","names"] (j5 (wb Aa)))(Ap:Fn P w K mg base 1 "hue_of" ["cloth"] (j5 zd))(An:Fn P w K mg base 1 "length_of" ["cloth"] (j5 jZ))(Aj:Mt P w K mg base 1 Aa "cloth" ["self","name"] (j5 (zE Aa)))(B4:Mt P w K mg base 2 Aa "rinse" ["self","first","then"] (j5 (jX Aa)))(A9:Mt P w K mg base 1 Aa "start" ["self"] (j5 (vY Aa))):FnOk P w K mg base j8 4 f fd ["works","names"] (o8 (jY Aa)) :=
 okO (k:=3) (b:=(JY Aa)) F sc_done_rows rfl λcdv A outer s H E hr=>⟨_,(z9 (xr (fW A8 hr (aC (pv 0) (aW (pv 1)))))
  (z9 (sW 2 sc_done_rows.nd (vm A9 hr (by decide) (pv 0)))
  (z9 (sW 3 sc_done_rows.nd (iW (K:=K) rfl (pv 2) x8))
  (z9 (sW 4 sc_done_rows.nd (iW (K:=K) rfl (pv 2) x8))
  (z9 (sW 5 sc_done_rows.nd (@qm _ _ _ _ v6))
  (z9 (qy PassesOwn.never rfl (@c3 _ K _ _ _ rfl (pv 1)) (gW 6 sc_done_rows.nd)
   (z9 (sW 7 sc_done_rows.nd (QM Aj hr (by decide) (pv 0) (aW (pv 6))))
  (z9 (sW 8 sc_done_rows.nd (v5 (o6 (K:=K) rfl) (pv 4) (QM B4 hr (by decide) (pv 0) (aC (pv 3) (aW (fW Ap hr (aW (pv 7))))))))
  (z9 (sW 4 sc_done_rows.nd (v5 (o6 (K:=K) rfl) (pv 8) (fW An hr (aW (pv 7)))))
  (z9 (sW 3 sc_done_rows.nd (fW Ap hr (aW (pv 7))))
  (j4 (xr (vi (K:=K) rfl PySem.F.plainAttrs_list PySem.F.slot_list_append PySem.F.type_list_append QD (pv 5) (z6 (@zg _ _ _ _ _ (aC (pv 6) (aC (pv 8) (aW (pv 4))))) v6)))))))))
  (j4 (y1 (pv 5))))))))),
  inferInstance⟩
abbrev ZF:Stmt:=top 30
abbrev Va (Aa:Addr):MS:=(y3 (u8 [none,none,none,some 0] [0,1,2] (g0 (x9 (jY Aa) (q8 (q9 0) (q8 (q9 1) x0)))) (xD 3 (r9 (j9 0) (r9 (j9 1) (r9 (j9 2) xC)))) u6 (qO (q8 (qC Aa "cloth" (zE Aa) (q9 3) (q8 (q9 0) x0)) (q8 (q9 2) x0)))))
def we (Aa:Addr):List PV->Option PV:=xk 2 2 (Va Aa)
theorem DQ:v9 ["works","names"] ["works","names"] (j6 ZF):=y2
theorem Pu (F:Fun K "ended_cloths" "ended_cloths" ZF f fd)(D5:Fn P w K mg base 4 "done_rows" ["works","names"] (o8 (jY Aa)))(Aj:Mt P w K mg base 1 Aa "cloth" ["self","name"] (j5 (zE Aa))):FnOk P w K mg base j8 5 f fd ["works","names"] (o8 (we Aa)) :=
 okO (k:=4) (b:=(Va Aa)) F DQ rfl λcdv A outer s H E hr=>⟨_,(j4 (y1 (qi (N':=["name","begin","end","works"]) (cap:=[none,none,none,some 0]) (p9 rfl rfl rfl) rfl (@c3 _ K _ _ _ rfl (fW D5 hr (aC (pv 0) (aW (pv 1))))) (λ_ _ _ _ _ _=>(vn (K:=K) (n:=3) rfl rfl (qI (u5 (i:=0) (by show (["name","begin","end","works"]:List Str).Nodup;decide +kernel) rfl (Or.inl rfl)) (qI (u5 (i:=1) (by show (["name","begin","end","works"]:List Str).Nodup;decide +kernel) rfl (Or.inl rfl)) (qI (u5 (i:=2) (by show (["name","begin","end","works"]:List Str).Nodup;decide +kernel) rfl (Or.inl rfl)) vo))))) (λ_ _ _ _ _ _=>m9) (λ_ _ _ _ _ _=>(@zg _ _ _ _ _ (aC (QM Aj hr (by decide) (pv 3) (aW (pv 0))) (aW (pv 2)))))))),
  inferInstance⟩
abbrev ZR:Stmt:=top 31
abbrev Vm (Aa:Addr):MS:=(y3 (jK (u8 [none,none] [0,1] (g0 (x9 (we Aa) (q8 (q9 0) (q8 (q9 1) x0)))) (xD 2 (r9 (j9 0) (r9 (j9 1) xC))) u6 (x9 Qx (q8 (q9 0) (q8 (q9 1) x0))))))
def wo (Aa:Addr):List PV->Option PV:=u9 2 2 (Vm Aa)
theorem Mb:v9 ["works","names"] ["works","names"] (j6 ZR):=y2
theorem PM (F:Fun K "lateness" "lateness" ZR f fd)(Az:Fn P w K mg base 5 "ended_cloths" ["works","names"] (o8 (we Aa)))(Eg:Fn P w K mg base 2 "late_by" ["cloth","end"] (j5 Qx))(Ed:mg "max"=none):FnOk P w K mg base j8 6 f fd ["works","names"] (j5 (wo Aa)) :=
 b8 (k:=5) (b:=(Vm Aa)) F Mb rfl λcdv A outer s H E hr=>⟨_,(j4 (y1 (XZ (K:=K) rfl rfl rfl Ed (aW (qi (N':=["cloth","end"]) (cap:=[none,none]) (p9 rfl rfl rfl) rfl (@c3 _ K _ _ _ rfl (fW Az hr (aC (pv 0) (aW (pv 1))))) (λ_ _ _ _ _ _=>(vn (K:=K) (n:=2) rfl rfl (qI (u5 (i:=0) (by show (["cloth","end"]:List Str).Nodup;decide +kernel) rfl (Or.inl rfl)) (qI (u5 (i:=1) (by show (["cloth","end"]:List Str).Nodup;decide +kernel) rfl (Or.inl rfl)) vo)))) (λ_ _ _ _ _ _=>m9) (λ_ _ _ _ _ _=>(fW Eg hr (aC (pv 0) (aW (pv 1)))))))))),
  inferInstance⟩
abbrev ZM:Stmt:=top 28
abbrev Vh (Aa:Addr):MS:=(y3 (xi (x9 (zc Aa) (q8 (q9 0) (q8 (q9 1) x0))) (z5 pEq (x9 qa (q8 (x6 1) x0)) (x9 qa (q8 (qC Aa "names" (zb Aa) (q9 0) x0) x0)))))
def wj (Aa:Addr):List PV->Option PV:=u9 2 2 (Vh Aa)
theorem DW:v9 ["works","names"] ["works","names"] (j6 ZM):=y2
theorem PF (F:Fun K "is_plan" "is_plan" ZM f fd)(Am:Fn P w K mg base 2 "are_names" ["works","names"] (j5 (zc Aa)))(Ac:mg "len"=none)(Af:Mt P w K mg base 1 Aa "names" ["self"] (o8 (zb Aa))):FnOk P w K mg base j8 3 f fd ["works","names"] (j5 (wj Aa)) :=
 b8 (k:=2) (b:=(Vh Aa)) F DW rfl λcdv A outer s H E hr=>⟨_,(j4 (y1 (zH (fW Am hr (aC (pv 0) (aW (pv 1)))) (jr (vj (zF (K:=K) (hu6 hr) rfl) (y4 (qp (K:=K) rfl) rfl Ac PySem.boot_len (aW (pv 1))) (y4 (qp (K:=K) rfl) rfl Ac PySem.boot_len (aW (vm Af hr (by decide) (pv 0)))) (m7 _)))))),
  inferInstance⟩
abbrev Zz:Stmt:=top 35
abbrev JV (Aa:Addr):MS:=(v3 (b9 (dOr (c7 (n5 (x9 xT (q8 (q9 1) x0)))) (c7 (dT (zt pLe pLe (dC (.int 1)) (x6 1) (dC (.int 3)))))) qD m4)
  (b9 (dT (z5 pGt (x9 qa (q8 (qC Aa "names" (zb Aa) (q9 0) x0) x0)) (dC (.int 6)))) qD m4))
def wc (Aa:Addr):List PV->Option PV:=u9 2 2 (JV Aa)
theorem DO:v9 ["works","many"] ["works","many"] (j6 Zz):=y2
theorem Pn (F:Fun K "check_vats" "check_vats" Zz f fd)(Ah:Fn P w K mg base 1 "is_whole" ["thing"] (j5 xT))(Ac:mg "len"=none)(B8:mg "MOST_DEALT"=some (.int 6 B9))(D6:mg "MOST_VATS"=some (.int 3 D7))(Af:Mt P w K mg base 1 Aa "names" ["self"] (o8 (zb Aa))):FnOk P w K mg base j8 2 f fd ["works","many"] (j5 (wc Aa)) :=
 b8 (k:=1) (b:=(JV Aa)) F DO rfl λcdv A outer s H E hr=>⟨_,(z9 (c4 (PW.pt (xu (o7 (qb (K:=K) rfl (fW Ah hr (aW (pv 1))) (λ_=>rfl))) (zi (o7 (Zg (vf) (vf) x8 (pv 1) (vk (v:= .int 3) rfl D6 ⟨_,rfl⟩)))))) (j4 xa) c5)
  (j4 (c4 (t6 (WZ) (y4 (qp (K:=K) rfl) rfl Ac PySem.boot_len (aW (vm Af hr (by decide) (pv 0)))) (vk (v:= .int 6) rfl B8 ⟨_,rfl⟩) (m7 _)) (j4 xa) c5))),
  inferInstance⟩
abbrev Zv:Stmt:=top 36
abbrev JR (Aa:Addr):MS:=(v3 (xO (x9 (wc Aa) (q8 (q9 0) (q8 (x9 qa (q8 (x6 1) x0)) x0))))
  (b9 (dOr (c7 (n5 (x9 qX (q8 (u8 [none] [0] (g0 (q9 1)) (j9 0) u6 (x9 c8 (q8 (x6 0) (q8 (dC (.ty "list")) x0)))) x0)))) (c7 (n5 (x9 (wj Aa) (q8 (q9 0) (q8 (Qe (x6 1)) x0)))))) qD m4))
def wa (Aa:Addr):List PV->Option PV:=u9 2 2 (JR Aa)
theorem DL:v9 ["works","dealing"] ["works","dealing"] (j6 Zv):=y2
theorem Pj (F:Fun K "check_dealing" "check_dealing" Zv f fd)(D0:Fn P w K mg base 2 "check_vats" ["works","many"] (j5 (wc Aa)))(Ek:Fn P w K mg base 3 "is_plan" ["works","names"] (j5 (wj Aa)))(Ao:mg "all"=none)(Ab:mg "isinstance"=none)(Ac:mg "len"=none)(Ag:mg "list"=none)(El:mg "sum"=none):FnOk P w K mg base j8 4 f fd ["works","dealing"] (j5 (wa Aa)) :=
 b8 (k:=3) (b:=(JR Aa)) F DL rfl λcdv A outer s H E hr=>⟨_,(z9 (xr (fW D0 hr (aC (pv 0) (aW (y4 (qp (K:=K) rfl) rfl Ac PySem.boot_len (aW (pv 1)))))))
  (j4 (c4 (PW.pt (xu (o7 (qb (K:=K) rfl (y4 (zZ (K:=K) rfl rfl) rfl Ao zY (aW (qi (N':=["names"]) (cap:=[none]) (p9 rfl rfl rfl) rfl (@c3 _ K _ _ _ rfl (pv 1)) (λ_ _ _ _ _ _=>(u5 (i:=0) (by show (["names"]:List Str).Nodup;decide +kernel) rfl (Or.inl rfl))) (λ_ _ _ _ _ _=>m9) (λ_ _ _ _ _ _=>(y4 (qS (K:=K) rfl) rfl Ab qR (aC (pv 0) (aW (qZ (v:= .ty "list") rfl Ag xL rfl)))))))) (λ_=>rfl))) (zi (o7 (qb (K:=K) rfl (fW Ek hr (aC (pv 0) (aW (CL (K:=K) rfl rfl rfl El (aW (pv 1)))))) (λ_=>rfl)))))) (j4 xa) c5))),
  inferInstance⟩
abbrev Je:Stmt:=top 37
abbrev Vx (Aa:Addr):MS:=(v3 (xO (x9 (wa Aa) (q8 (q9 0) (q8 (q9 1) x0))))
  (v3 (b7 2 (u8 [none,some 0] [0] (g0 (q9 1)) (j9 0) u6 (x9 (wo Aa) (q8 (q9 1) (q8 (q9 0) x0)))))
  (y3 (jK (u8 [none] [0] (g0 (q9 2)) (j9 0) (dT (z5 QJ (x6 0) (dC .non))) (q9 0))))))
def wu (Aa:Addr):List PV->Option PV:=u9 3 2 (Vx Aa)
theorem sc_vat_lateness:v9 ["works","dealing","lates"] ["works","dealing"] (j6 Je):=y2
theorem Ch (F:Fun K "vat_lateness" "vat_lateness" Je f fd)(Ar:Fn P w K mg base 4 "check_dealing" ["works","dealing"] (j5 (wa Aa)))(Eb:Fn P w K mg base 6 "lateness" ["works","names"] (j5 (wo Aa)))(Ed:mg "max"=none):FnOk P w K mg base j8 7 f fd ["works","dealing"] (j5 (wu Aa)) :=
 b8 (k:=6) (b:=(Vx Aa)) F sc_vat_lateness rfl λcdv A outer s H E hr=>⟨_,(z9 (xr (fW Ar hr (aC (pv 0) (aW (pv 1)))))
  (z9 (zh (i:=2) (N':=["names","works"]) (cap:=[none,some 0]) (p9 rfl rfl rfl) rfl sc_vat_lateness.nd rfl rfl (@c3 _ K _ _ _ rfl (pv 1)) (λ_ _ _ _ _ _=>(u5 (i:=0) (by show (["names","works"]:List Str).Nodup;decide +kernel) rfl (Or.inl rfl))) (λ_ _ _ _ _ _=>m9) (λ_ _ _ _ _ _=>(fW Eb hr (aC (pv 1) (aW (pv 0))))))
  (j4 (y1 (XZ (K:=K) rfl rfl rfl Ed (aW (qi (N':=["late"]) (cap:=[none]) (p9 rfl rfl rfl) rfl (@c3 _ K _ _ _ rfl (pv 2)) (λ_ _ _ _ _ _=>(u5 (i:=0) (by show (["late"]:List Str).Nodup;decide +kernel) rfl (Or.inl rfl))) (λ_ _ _ _ _ _=>(Yp (t6 (Yc) (pv 0) Za (m7 _)))) (λ_ _ _ _ _ _=>(pv 0))))))))),
  inferInstance⟩
abbrev jw:Stmt:=jf (top 53) 0
abbrev wZ (Aa:Addr):MS:=(v3 (xP Aa "least" (x9 Qy (q8 (q9 1) x0)))
  (v3 (xO (x9 Qt (q8 (q9 3) (q8 (q9 4) (q8 (jL Aa "hues" (jV Aa) 0 x0) x0)))))
  (v3 (xO (x9 Qr (q8 (q9 2) (q8 (jL Aa "hues" (jV Aa) 0 x0) x0))))
  (v3 (xP Aa "given" (u8 [none] [0] (g0 (q9 1)) (j9 0) u6 (x9 ww (q8 (x6 0) x0))))
  (v3 (xP Aa "held" (x9 QH (q8 (u8 [none] [0] (g0 (q9 2)) (j9 0) u6 (qO (q8 (x9 ze (q8 (q9 0) x0)) (q8 (q9 0) x0)))) x0)))
  (v3 (xP Aa "last" (dIf (dT (z5 pIsN (x6 3) (dC .non))) (dUn pNeg (dC (.int 1))) (q9 3)))
  (xP Aa "time" (q9 4))))))))
def jW (Aa:Addr):List PV->Option PV:=vJ 5 5 Aa (wZ Aa)
theorem DF:v9 ["self","rinses","cloths","last","time"] ["self","rinses","cloths","last","time"] (j6 jw):=y2
theorem Pc (F:FunD K "__init__" "Works.__init__" jw f fd)(Av:Fn P w K mg base 4 "check_cloths" ["cloths","hues"] (j5 Qr))(B3:Fn P w K mg base 3 "check_start" ["last","time","hues"] (j5 Qt))(Ay:Fn P w K mg base 4 "least_rinses" ["rinses"] (o8 Qy))(Ai:Fn P w K mg base 1 "name_of" ["cloth"] (j5 ze))(Ic:mg "dict"=none)(Ag:mg "list"=none)[xx K Aa][NoA K Aa "given"][NoA K Aa "held"][NoA K Aa "last"][NoA K Aa "least"][NoA K Aa "time"](At:Mt P w K mg base 1 Aa "hues" ["self"] (j5 (jV Aa))):FnOk P w K mg base j8 5 f fd ["self","rinses","cloths","last","time"] (spI Aa (jW Aa)) :=
 okID (k:=4) (b:=wZ Aa) F DF rfl (λcdv A outer s H E hr=>⟨_,(z9 (wD (K:=K) rfl (pv 0) (fW Ay hr (aW (pv 1))))
  (z9 (xr (fW B3 hr (aC (pv 3) (aC (pv 4) (aW (vm At hr (by decide) (pv 0)))))))
  (z9 (xr (fW Av hr (aC (pv 2) (aW (vm At hr (by decide) (pv 0))))))
  (z9 (wD (K:=K) rfl (pv 0) (qi (N':=["row"]) (cap:=[none]) (p9 rfl rfl rfl) rfl (@c3 _ K _ _ _ rfl (pv 1)) (λ_ _ _ _ _ _=>(u5 (i:=0) (by show (["row"]:List Str).Nodup;decide +kernel) rfl (Or.inl rfl))) (λ_ _ _ _ _ _=>m9) (λ_ _ _ _ _ _=>(wy (Xk (K:=K) rfl) rfl Ag xL (aW (pv 0))))))
  (z9 (wD (K:=K) rfl (pv 0) (wy (Gy (K:=K) rfl rfl) rfl Ic Gn (aW (qi (N':=["cloth"]) (cap:=[none]) (p9 rfl rfl rfl) rfl (@c3 _ K _ _ _ rfl (pv 2)) (λ_ _ _ _ _ _=>(u5 (i:=0) (by show (["cloth"]:List Str).Nodup;decide +kernel) rfl (Or.inl rfl))) (λ_ _ _ _ _ _=>m9) (λ_ _ _ _ _ _=>(@zg _ _ _ _ _ (aC (fW Ai hr (aW (pv 0))) (aW (pv 0)))))))))
  (z9 (wD (K:=K) rfl (pv 0) (XY (t6 (Cq) (pv 3) Za (m7 _)) (Zb Jq x8) (pv 3)))
  (j4 (wD (K:=K) rfl (pv 0) (pv 4))))))))),
  (by repeat' first|infer_instance|(refine @Mi.Mp _ _ _ _ ?_ ?_))⟩)
abbrev ZH:Stmt:=top 63
abbrev Vc:MS:=(v3 (b9 (dT (z5 pEq (x6 1) (x6 2))) (y3 (dC (.int 0))) m4)
  (y3 (z5 w4 (z5 w4 (x6 0) (x6 1)) (x6 2))))
def wg:List PV->Option PV:=u9 3 3 Vc
theorem DR:v9 ["sums","last","hue"] ["sums","last","hue"] (j6 ZH):=y2
theorem Px (F:Fun K "_law_gap" "_law_gap" ZH f fd):FnOk P w K mg base j8 1 f fd ["sums","last","hue"] (j5 wg) :=
 b8 (k:=0) (b:=Vc) F DR rfl λcdv A outer s H E hr=>⟨_,(z9 (c4 (t6 (zF (K:=K) (hu6 hr) rfl) (pv 1) (pv 2) (m7 _)) (j4 (y1 x8)) c5)
  (j4 (y1 (iW (K:=K) rfl (iW (K:=K) rfl (pv 0) (pv 1)) (pv 2))))),
  inferInstance⟩
abbrev ZG:Stmt:=top 64
abbrev Vb:MS:=(v3 (zv 4 (n8 x0))
  (v3 (xX (g0 (q9 1)) (j9 5) (v3 (b7 3 (z5 k7 (z5 k7 (x6 3) (x9 wg (q8 (q9 0) (q8 (q9 2) (q8 (z5 w4 (x6 5) (dC (.int 1))) x0))))) (z5 w4 (x6 5) (dC (.int 2)))))
  (v3 (b7 2 (z5 w4 (x6 5) (dC (.int 1))))
  (ja 4 (q9 3)))))
  (dFz 4 (y3 (q9 4)))))
def wf:List PV->Option PV:=u9 6 4 Vb
theorem sc_ends:v9 ["sums","cloths","last","time","ends","cloth"] ["sums","cloths","last","time"] (j6 ZG):=y2
theorem Pw (F:Fun K "_law_ends" "_law_ends" ZG f fd)(Im:Fn P w K mg base 1 "_law_gap" ["sums","last","hue"] (j5 wg)):FnOk P w K mg base j8 2 f fd ["sums","cloths","last","time"] (j5 wf) :=
 b8 (k:=1) (b:=Vb) F sc_ends rfl λcdv A outer s H E hr=>⟨_,(z9 (sW 4 sc_ends.nd (@qm _ _ _ _ v6))
  (z9 (qy PassesOwn.never rfl (@c3 _ K _ _ _ rfl (pv 1)) (gW 5 sc_ends.nd)
   (z9 (sW 3 sc_ends.nd (v5 (o6 (K:=K) rfl) (v5 (o6 (K:=K) rfl) (pv 3) (fW Im hr (aC (pv 0) (aC (pv 2) (aW (iW (K:=K) rfl (pv 5) x8)))))) (iW (K:=K) rfl (pv 5) x8)))
  (z9 (sW 2 sc_ends.nd (iW (K:=K) rfl (pv 5) x8))
  (j4 (xr (vi (K:=K) rfl PySem.F.plainAttrs_list PySem.F.slot_list_append PySem.F.type_list_append QD (pv 4) (z6 (pv 3) v6)))))))
  (j4 (y1 (pv 4))))),
  inferInstance⟩
abbrev ZC:Stmt:=top 65
noncomputable abbrev JX:MS:=(v3 (dAsg (xD 4 (r9 (j9 3) (r9 (j9 4) (r9 (j9 5) (r9 (j9 6) xC))))) (q9 1))
  (v3 (b9 (dOr (c7 (n5 (x9 c8 (q8 (x6 0) (q8 (dC (.ty "list")) x0))))) (dOr (dT (z5 pNe (x9 qa (q8 (x6 0) x0)) (x6 2))) (c7 (n5 (x9 qX (q8 (u8 [none] [0] (g0 (q9 0)) (j9 0) u6 (x9 c8 (q8 (x6 0) (q8 (dC (.ty "list")) x0)))) x0)))))) (y3 (dC (.str "none"))) m4)
  (v3 (zv 7 Xt)
  (v3 (xX (g0 (q9 4)) (j9 8) (dPut 7 (z5 w4 (x6 8) (dC (.int 0))) (q9 8)))
  (v3 (zv 9 (n8 x0))
  (v3 (b7 10 (n8 x0))
  (v3 (xX (g0 (q9 0)) (j9 11) (v3 (b9 (c7 (n5 (x9 qX (q8 (u8 [none,some 7] [0] (g0 (q9 11)) (j9 0) u6 (xi (x9 c8 (q8 (x6 0) (q8 (dC (.ty "str")) x0))) (jJ (x6 0) (x6 1)))) x0)))) (y3 (dC (.str "none"))) m4)
  (v3 (b7 10 (z5 k7 (x6 10) (x6 11)))
  (v3 (b7 12 (u8 [none,some 7] [0] (g0 (q9 11)) (j9 0) u6 (zu (x6 1) (x6 0))))
  (v3 (b7 13 (x9 wf (q8 (x9 zf (q8 (q9 3) x0)) (q8 (q9 12) (q8 (q9 5) (q8 (q9 6) x0))))))
  (vI 9 (u8 [none,none] [0,1] (vL (q8 (q9 12) (q8 (q9 13) x0))) (xD 2 (r9 (j9 0) (r9 (j9 1) xC))) u6 (z5 qH (x6 1) (z5 w4 (x6 0) (dC (.int 3)))))))))))
  (v3 (b9 (dT (z5 pNe (x9 QK (q8 (x6 10) x0)) (Wc (x6 7)))) (y3 (dC (.str "none"))) m4)
  (y3 (jK (x6 9)))))))))))
noncomputable def Qu:List PV->Option PV:=u9 14 3 JX
theorem sc_dealt_late:v9 ["found","drawn","vats","rinses","cloths","last","time","known","cloth","lates","names","some","mine","ends"] ["found","drawn","vats"] (j6 ZC):=y2
theorem Pr (F:Fun K "_law_dealt_late" "_law_dealt_late" ZC f fd)(Ig:Fn P w K mg base 2 "_law_ends" ["sums","cloths","last","time"] (j5 wf))(Ie:Fn P w K mg base 1 "_law_sums" ["rinses"] (j5 zf))(Ao:mg "all"=none)(Ab:mg "isinstance"=none)(Ac:mg "len"=none)(Ag:mg "list"=none)(Ed:mg "max"=none)(A6:mg "sorted"=none)(Ee:mg "str"=none)(Eu:mg "zip"=none):FnOk P w K mg base j8 3 f fd ["found","drawn","vats"] (j5 Qu) :=
 b8 (k:=2) (b:=JX) F sc_dealt_late rfl λcdv A outer s H E hr=>⟨_,(z9 (Zf (pv 1) (vn (K:=K) (n:=4) rfl rfl (qI (gW 3 sc_dealt_late.nd) (qI (gW 4 sc_dealt_late.nd) (qI (gW 5 sc_dealt_late.nd) (qI (gW 6 sc_dealt_late.nd) vo))))))
  (z9 (c4 (PW.pt (xu (o7 (qb (K:=K) rfl (y4 (qS (K:=K) rfl) rfl Ab qR (aC (pv 0) (aW (qZ (v:= .ty "list") rfl Ag xL rfl)))) (λ_=>rfl))) (xu (t6 (jp (K:=K) (hu6 hr) rfl) (y4 (qp (K:=K) rfl) rfl Ac PySem.boot_len (aW (pv 0))) (pv 2) (m7 _)) (zi (o7 (qb (K:=K) rfl (y4 (zZ (K:=K) rfl rfl) rfl Ao zY (aW (qi (N':=["some"]) (cap:=[none]) (p9 rfl rfl rfl) rfl (@c3 _ K _ _ _ rfl (pv 0)) (λ_ _ _ _ _ _=>(u5 (i:=0) (by show (["some"]:List Str).Nodup;decide +kernel) rfl (Or.inl rfl))) (λ_ _ _ _ _ _=>m9) (λ_ _ _ _ _ _=>(y4 (qS (K:=K) rfl) rfl Ab qR (aC (pv 0) (aW (qZ (v:= .ty "list") rfl Ag xL rfl)))))))) (λ_=>rfl))))))) (j4 (y1 zJ)) c5)
  (z9 (sW 7 sc_dealt_late.nd Yh)
  (z9 (qy PassesOwn.never rfl (@c3 _ K _ _ _ rfl (pv 4)) (gW 8 sc_dealt_late.nd)
   (j4 (Yn (je hr) (pv 7) (iW (K:=K) rfl (pv 8) x8) (pv 8) rfl)))
  (z9 (sW 9 sc_dealt_late.nd (@qm _ _ _ _ v6))
  (z9 (sW 10 sc_dealt_late.nd (@qm _ _ _ _ v6))
  (z9 (qy PassesOwn.never rfl (@c3 _ K _ _ _ rfl (pv 0)) (gW 11 sc_dealt_late.nd)
   (z9 (c4 (o7 (qb (K:=K) rfl (y4 (zZ (K:=K) rfl rfl) rfl Ao zY (aW (qi (N':=["name","known"]) (cap:=[none,some 7]) (p9 rfl rfl rfl) rfl (@c3 _ K _ _ _ rfl (pv 11)) (λ_ _ _ _ _ _=>(u5 (i:=0) (by show (["name","known"]:List Str).Nodup;decide +kernel) rfl (Or.inl rfl))) (λ_ _ _ _ _ _=>m9) (λ_ _ _ _ _ _=>(zH (y4 (qS (K:=K) rfl) rfl Ab qR (aC (pv 0) (aW (qZ (v:= .ty "str") rfl Ee Xj rfl)))) (jr (CB (Yf (je hr) (pv 0) (pv 1))))))))) (λ_=>rfl))) (j4 (y1 zJ)) c5)
  (z9 (sW 10 sc_dealt_late.nd (v5 (o6 (K:=K) rfl) (pv 10) (pv 11)))
  (z9 (zh (i:=12) (N':=["name","known"]) (cap:=[none,some 7]) (p9 rfl rfl rfl) rfl sc_dealt_late.nd rfl rfl (@c3 _ K _ _ _ rfl (pv 11)) (λ_ _ _ _ _ _=>(u5 (i:=0) (by show (["name","known"]:List Str).Nodup;decide +kernel) rfl (Or.inl rfl))) (λ_ _ _ _ _ _=>m9) (λ_ _ _ _ _ _=>(Yg (je hr) (pv 1) (pv 0) (λ_ _=>rfl))))
  (z9 (sW 13 sc_dealt_late.nd (fW Ig hr (aC (fW Ie hr (aW (pv 3))) (aC (pv 12) (aC (pv 5) (aW (pv 6)))))))
  (j4 (xr (vi (K:=K) rfl PySem.F.plainAttrs_list PySem.F.slot_list_extend PySem.F.type_list_extend BS (pv 9) (z6 (qi (N':=["cloth","end"]) (cap:=[none,none]) (p9 rfl rfl rfl) rfl (Yk (K:=K) rfl rfl Eu (aC (pv 12) (aW (pv 13)))) (λ_ _ _ _ _ _=>(vn (K:=K) (n:=2) rfl rfl (qI (u5 (i:=0) (by show (["cloth","end"]:List Str).Nodup;decide +kernel) rfl (Or.inl rfl)) (qI (u5 (i:=1) (by show (["cloth","end"]:List Str).Nodup;decide +kernel) rfl (Or.inl rfl)) vo)))) (λ_ _ _ _ _ _=>m9) (λ_ _ _ _ _ _=>(v5 (qW) (pv 1) (iW (K:=K) rfl (pv 0) x8)))) v6)))))))))
  (z9 (c4 (t6 (jp (K:=K) (hu6 hr) rfl) (y4 (VO (K:=K) rfl rfl) rfl A6 Xi (aW (pv 10))) (y4 (GL rfl) rfl A6 Xi (aW (CD (pv 7)))) (m7 _)) (j4 (y1 zJ)) c5)
  (j4 (y1 (XZ (K:=K) rfl rfl rfl Ed (aW (pv 9))))))))))))),
  inferInstance⟩
theorem QX (n:Int):xT [.at (.int n)]=some (.at (.bl true)):=t9 rfl (m5 (zw (j7 rfl Bd) (Kr (v:=false) (j7 rfl Be))))
theorem Li (n k:Int):xS [.at (.int n),.at (.int k)]=some (.at (.bl (decide (k<=n)))):=t9 rfl (m5 (zw (j7 rfl (QX n)) rfl))
theorem wS {n k:Int}(h:k<=n):xS [.at (.int n),.at (.int k)]=some (.at (.bl true)):=(Li n k).trans (by rw [yj h])
theorem Ll {s:Str}(h:jC s):Qw [.at (.str s)]=some (.at (.bl true)):=by
 have hl:lim=1000000:=rfl;have l1:=h.one;have l8:=h.eight;have ln:qa [.at (.str s)]=some (.at (.int s.length)):=if_pos (by omega);refine t9 rfl (w9 (o3 (xl (i9 (qg (j7 rfl XC))) (i9 (p0 (Qh (r:=true) rfl (j7 rfl ln) ?_ rfl ?_)))) o4) (m5 (j7 (v8 (f9 (λc:Nat=>PV.at (.str ⟨#[c]⟩)) (λ_=>PV.at (.bl true)) s.cps.toList rfl rfl ?_ ?_) rfl) (zX _))))
 ·show some (PV.at (.bl (decide ((1:Int)<=(s.length:Int)))))=_;rw [yj (by omega)]
 ·show some (PV.at (.bl (decide ((s.length:Int)<=8))))=_;rw [yj (by omega)]
 ·have:s.cps.toList.length=s.length:=by simp [Str.length]
  omega
 ·intro c hc;obtain ⟨c1,c2⟩:=h.low c hc;refine ⟨_,rfl,Qh rfl rfl ?_ rfl ?_⟩
  ·show some (PV.at (.bl (!decide ([c]<("a":Str).cps.toList))))=_;have e:¬ ([c]<[97]):=by rw [List.cons_lt_cons_iff];simp;omega
   rw [show ("a":Str).cps.toList=[97] by decide +kernel,yB e];rfl
  ·show some (PV.at (.bl (!decide (("z":Str).cps.toList<[c]))))=_;have e:¬ ([122]<[c]):=by rw [List.cons_lt_cons_iff];simp;omega
   rw [show ("z":Str).cps.toList=[122] by decide +kernel,yB e];rfl
theorem Lk {c:Cl}(ok:c.Ok h):Qv [c.pv,.at (.int h)]=some (.at (.bl true)):=by refine t9 rfl (w9 (o3 (xl (i9 (qg (j7 rfl Bg))) (p0 (v:=false) rfl)) o4) (w9 (o3 (xl (i9 (qg (j7 (v8 (j7 rfl rfl) rfl) (Ll ok.nm)))) (xl (i9 (qg (j7 (v8 (j7 rfl rfl) rfl) (wS (n:=(c.hue:Int)) (k:=0) (by omega))))) (p0 (v:=false) (w6 (j7 rfl rfl) rfl ?_)))) o4) (m5 (zw (j7 (v8 (j7 rfl rfl) rfl) (wS ok.l1)) (zw (j7 (v8 (j7 rfl rfl) rfl) (QX _)) (j7 (v8 (j7 rfl rfl) rfl) (wS ok.w1)))))));show some (PV.at (.bl (decide ((h:Int)<=(c.hue:Int)))))=_;have:=ok.hu;rw [yB (by omega)]
theorem Lb {l t:Int}(h1:-1<=l)(h2:l<(h:Int))(h3:0<=t):Qt [.at (.int l),.at (.int t),.at (.int h)]=some (.at .non):=by refine jO rfl (w9 (o3 (VZ (v:=false) (p0 (v:=true) rfl) (i9 (VZ (v:=true) (qg (j7 rfl (wS h1))) (p0 (v:=true) ?_)))) o4) (o3 (i9 (qg (j7 rfl (wS h3)))) o4));show some (PV.at (.bl (decide (l<(h:Int)))))=_;rw [yj h2]
def keysOf (cs:List Cl):List z7:=cs.map λc=>Sum.inr c.name
theorem XL {x:Str}{α:Type}(f:Cl->PV):∀{cs:List Cl},x∉cs.map Cl.name->i0 (.inr x) (keysOf cs) (cs.map f)=none
 |[],_=>rfl
 |c::cs,h=>by
  rw [yN] at h;show (if (Sum.inr c.name:z7) = .inr x then _ else i0 (.inr x) (keysOf cs) (cs.map f))=_;rw [if_neg (λe=>h (by injection e with e;rw [e];exact yH)),XL (α:=α) f λz=>h (yK _ z)]
theorem Qp (f:Cl->PV):∀{cs:List Cl},(cs.map Cl.name).Nodup->∀ c∈cs,i0 (.inr c.name) (keysOf cs) (cs.map f)=some (f c)
 |[],_,_,h=>nomatch h
 |d::cs,nd,c,h=>by
  rw [yN] at nd;have nd':=yx.mp nd;show (if (Sum.inr d.name:z7) = .inr c.name then some (f d) else i0 (.inr c.name) (keysOf cs) (cs.map f))=_;rcases yL.mp h with rfl|h
  ·rw [if_pos rfl]
  ·rw [if_neg (λe=>nd'.1 (by injection e with e;rw [e];exact yt.mpr ⟨c,h,rfl⟩)),Qp f nd'.2 c h]
theorem MX {cls:List Cl}(hok:∀ c∈cls,c.Ok h)(nd:(cls.map Cl.name).Nodup)(ten:cls.length<=10):Qr [.lst (cls.map Cl.pv),.at (.int h)]=some (.at .non):=by
 have hl:lim=1000000:=rfl;refine jO rfl (w9 (o3 (p0 (v:=false) (w6 (j7 rfl rfl) rfl ?_)) o4) (w9 (vR rfl) (jP rfl (jm Cl.pv (λl ε=>∃(done:List Cl)(s3:MSlot),done++l=cls/\ε=[.sh (.lst (cls.map Cl.pv)),.sh (.at (.int h)),.ow (.dk (keysOf done) (done.map λ_=>PV.at (.bl true))),s3]) ?_ cls _ ⟨[],.no,rfl,rfl⟩).choose_spec.1)))
 ·show some (PV.at (.bl (decide ((10:Int)<((cls.map Cl.pv).length:Int)))))=_;rw [yZ,yB (by omega)]
 ·rintro c l ε ⟨done,s3,e,rfl⟩;have hc:c∈cls:=by rw [<- e];exact yp _ yH
  have hn:c.name∉done.map Cl.name:=λz=>by
   rw [<- e,yy,yN] at nd;exact (uG.mp nd).2.2 _ z _ yH rfl
  have ln:=XL (α:=Unit) (λ_=>PV.at (.bl true)) hn;have hd:done.length<=10:=by rw [<- e] at ten;rw [yM] at ten;omega
  refine ⟨_,_,rfl,w9 (o3 (i9 (qg (j7 rfl (Lk (hok c hc))))) o4) (w9 (o3 (p0 (v:=false) ?_) o4) ?_),done++[c],.sh c.pv,by rw [<- e,uQ];rfl,rfl⟩
  ·show some (PV.at (.bl (i0 (.inr c.name) (keysOf done) (done.map λ_=>PV.at (.bl true))).isSome))=_;rw [ln];rfl
  ·show (if (keysOf done).length<=lim then some (Out.nx [_,_,.ow (vw (.inr c.name) (.at (.bl true)) (keysOf done) (done.map λ_=>PV.at (.bl true))),_]) else none)=_;unfold vw;rw [if_pos (by unfold keysOf;rw [yZ];omega),ln];simp only [Option.isSome_none,uY,if_false];unfold keysOf;rw [yy,yy];rfl
def o9 (n:Int):PV:= .at (.int n)
def qc (r:List Int):PV:= .lst (r.map o9)
def wyP (w:Wy):PV:= .tup [.at (.int w.1),.lst (w.2.map o9)]
def qj (ws:List Wy):PV:= .lst (ws.map wyP)
theorem Lv (hl:r.length=h)(h4:h<=4)(hv:∀ v∈r,0<=v):wm [qc r,.at (.int h)]=some (.at (.bl true)):=by
 have hlim:lim=1000000:=rfl;refine t9 rfl (w9 (o3 (xl (i9 (qg (j7 rfl jQ))) (p0 (v:=false) (w6 (j7 rfl rfl) rfl ?_))) o4) (m5 (j7 (v8 (f9 o9 (λ_=>PV.at (.bl true)) r rfl rfl (by omega) λv hvm=>?_) rfl) (zX _))))
 ·show (peq 6 (.at (.int ((r.map o9).length:Int))) (.at (.int (h:Int)))).bind _=_;rw [yZ,hl];exact QI (x:= .at (.int (h:Int))) rfl
 ·refine ⟨_,rfl,zw (j7 rfl (QX v)) ?_⟩;show some (PV.at (.bl (decide ((0:Int)<=v))))=_;rw [yj (hv v hvm)]
theorem La (G:c9 h rss)(h1:1<=h)(h4:h<=4):Qs [u3 rss]=some (.at .non):=by
 have hlim:lim=1000000:=rfl;have hlen:=G.len;have eh:((rss.map qc).length:Int)-1=(h:Int):=by rw [yZ,hlen];omega
 have step:∀(k:Int),k=(h:Int)->v3 (b9 (c7 (dT (zt pLe pLe (dC (.int 1)) (x6 1) (dC (.int 4))))) qD m4)
  (b9 (c7 (n5 (x9 qX (q8 (u8 [none,some 1] [0] (g0 (q9 0)) (j9 0) u6 (x9 wm (q8 (q9 0) (q8 (q9 1) x0)))) x0)))) qD m4) [.sh (u3 rss),.sh (.at (.int k))]=some (.nx [.sh (u3 rss),.sh (.at (.int k))]):=by
  rintro k rfl;refine w9 (o3 (i9 (p0 (Qh (r:=true) rfl rfl ?_ rfl ?_))) o4) (o3 (i9 (qg (j7 (v8 (f9 qc (λ_=>PV.at (.bl true)) rss rfl rfl (by omega) λr hr=>⟨_,rfl,j7 rfl (Lv (G.row r hr).1 h4 λv hv=>((G.row r hr).2 v hv).1)⟩) rfl) (zX _)))) o4)
  ·show some (PV.at (.bl (decide ((1:Int)<=(h:Int)))))=_;rw [yj (by omega)]
  ·show some (PV.at (.bl (decide ((h:Int)<=4))))=_;rw [yj (by omega)]
 exact jO rfl (w9 (o3 (i9 (qg (j7 rfl jQ))) o4) (w9 (qk rfl) (step _ eh)))
theorem Wi {α:Type}(f:α->PV):∀(l:List α)(n:Nat),xm n (l.map f)=(l.zipIdx n).map λp=>PV.tup [.at (.int ((p.2:Nat):Int)),f p.1]
 |[],_=>rfl
 |x::l,n=>by
  rw [yN,List.zipIdx_cons,yN];show PV.tup [.at (.int n),f x]::xm (n+1) (l.map f)=_;rw [Wi f l (n+1)]
theorem Ly (h:r.length<=4):wq [qc r]=some (qj (xG r)):=by
 have hlim:lim=1000000:=rfl;refine jd rfl (m5 ?_);have e:=f9 (cap:=[none,none]) (ts:=[0,1]) (it:=Xr (q8 (q9 0) x0)) (g:=xD 2 (r9 (j9 0) (r9 (j9 1) xC))) (f:=qO (q8 (q9 1) (q8 (n8 (q8 (q9 0) x0)) x0))) (ε:=[.sh (qc r)])
  (λp:Int×Nat=>PV.tup [.at (.int ((p.2:Nat):Int)),o9 p.1]) (λp:Int×Nat=>wyP (p.1,[(p.2:Int)])) (r.zipIdx 0) (by show some (xm 0 (r.map o9))=_;rw [Wi]) rfl (by rw [List.length_zipIdx];omega) λp _=>⟨_,rfl,rfl⟩
 refine e.trans ?_;unfold qj xG;rw [List.mapIdx_eq_zipIdx_map,yq];rfl
theorem Lm {a b:Wy}(h:a.2.length+b.2.length<=1000):wn [wyP a,wyP b]=some (wyP (xp a b)):=by have hlim:lim=1000000:=rfl;refine t9 rfl (m5 (vS (v8 (w6 rfl rfl rfl) (v8 (w6 rfl rfl (Yd (by rw [yZ,yZ];omega))) rfl)) (by first|decide|(show 1<=lim;decide)|(show 2<=lim;decide)|(show 3<=lim;decide))) |>.trans ?_);unfold wyP xp;rw [yy]
theorem Lr (a b:Wy):wp [wyP a,wyP b]=some (wyP (xR a b)):=by
 unfold xR;by_cases h:b.1<a.1
 ·rw [if_pos h];exact t9 rfl (m5 (Wm (p0 (v:=true) (w6 rfl rfl (show some (PV.at (.bl (decide (b.1<a.1))))=_ by rw [yj h]))) rfl))
 ·rw [if_neg h];exact t9 rfl (m5 (Xw (p0 (v:=false) (w6 rfl rfl (show some (PV.at (.bl (decide (b.1<a.1))))=_ by rw [yB h]))) rfl))
theorem UP {α β:Type}(f:α->PV)(g:β->PV):∀(l:List α)(m:List β),qz (l.map f) (m.map g)=(l.zip m).map λp=>PV.tup [f p.1,g p.2]
 |[],_=>by cases ‹List β›<;>rfl
 |_::_,[]=>rfl
 |x::l,y::m=>by
  show PV.tup [f x,g y]::qz (l.map f) (m.map g)=_;rw [UP f g l m];rfl
theorem UQ {α β γ:Type}(f:α->β->γ):∀(l:List α)(m:List β),List.zipWith f l m=(l.zip m).map λp=>f p.1 p.2
 |[],_=>by simp
 |_::_,[]=>rfl
 |x::l,y::m=>by
  show f x y::List.zipWith f l m=_;rw [UQ f l m];rfl
theorem LB {k:Nat}(hk:k<ws.length)(h4:ws.length<=4)(l1:∀ w∈ws,w.2.length<=100)(l2:∀ w∈onw,w.2.length<=100):va [qj ws,.at (.int (k:Int)),qj onw]=some (qj (thr ws k onw)):=by
 have hlim:lim=1000000:=rfl;have hg:ws.getD k (0,[])=ws[k]:=u4 hk;have hw:=yn hk;refine jd rfl (m5 ?_);have e:=f9 (cap:=[none,none,some 0,some 1]) (ts:=[0,1]) (it:=vL (q8 (q9 0) (q8 (q9 2) x0))) (g:=xD 2 (r9 (j9 0) (r9 (j9 1) xC))) (f:=x9 wp (q8 (q9 0) (q8 (x9 wn (q8 (z5 w4 (x6 2) (x6 3)) (q8 (q9 1) x0))) x0))) (ε:=[.sh (qj ws),.sh (.at (.int (k:Int))),.sh (qj onw)])
  (λp:Wy×Wy=>PV.tup [wyP p.1,wyP p.2]) (λp:Wy×Wy=>wyP (xR p.1 (xp ws[k] p.2))) (ws.zip onw) (by show some (qz (ws.map wyP) (onw.map wyP))=_;rw [UP]) rfl (by rw [List.length_zip];omega) λp hp=>⟨_,rfl,j7 (v8 rfl (v8 (j7 (v8 (w6 rfl rfl (qQ (v:=wyP ws[k]) (by rw [yR,yV hk];rfl))) (v8 rfl rfl)) (Lm (by
   have q1:=l1 _ hw;have q2:=l2 p.2 (List.of_mem_zip hp).2;omega))) rfl)) (Lr _ _)⟩
 refine e.trans ?_;unfold qj thr;rw [hg,UQ,yq];rfl
theorem LF {k:Nat}(G:c9 h rss)(hk:k<=h)(h4:h<=4):∀ r∈y7 rss k,∀ w∈r,w.2.length<=100:=by
 intro r hr w hw;have S:=Shp.all G k hk;have F:=FW.all G k hk;obtain ⟨f,hf,rfl⟩:=uP hr;obtain ⟨g,hg,rfl⟩:=uP hw;have hf':f<=h:=by have:=S.len;omega
 have hg':g<h:=by rw [<- S.row _ hr];exact hg
 have e:v4 (y7 rss k) f g=(y7 rss k)[f][g]:=by unfold v4;rw [u4 hf,u4 hg]
 have q:=F.len f g hf' hg';rw [e] at q;have:2 ^ k<=2 ^ 4:=Nat.pow_le_pow_right (by decide) (by omega);omega
def wQ (T:List (List Wy)):PV:= .lst (T.map qj)
theorem Lq (G:c9 h rss)(h1:1<=h)(h4:h<=4):Qz [u3 rss]=some (wQ (y7 rss h)):=by
 have hlim:lim=1000000:=rfl;have hlimI:(lim:Int)=1000000:=rfl;have hlen:=G.len;have st:u8 [none] [0] (g0 (q9 0)) (j9 0) u6 (x9 wq (q8 (q9 0) x0)) [.sh (u3 rss),.no,.no,.no]=some (wQ (y7 rss 0)):=by refine (f9 qc (λr=>qj (xG r)) rss rfl rfl (by omega) λr hr=>⟨_,rfl,j7 rfl (Ly (by rw [(G.row r hr).1];exact h4))⟩).trans ?_;show _=some (PV.lst ((rss.map xG).map qj));rw [yq];rfl
 have rg:xA (q8 (z5 qH (x9 qa (q8 (x6 0) x0)) (dC (.int 1))) x0) [.sh (u3 rss),.sh (wQ (y7 rss 0)),.no,.no]=some ((List.range h).map λ(i:Nat)=>PV.at (.int ((0:Int)+i))):=by refine wG (k:=h) (v8 (w6 (j7 rfl rfl) rfl ?_) rfl) (by omega);show some (PV.at (.int (((rss.map qc).length:Int)-1)))=_;rw [yZ,hlen,show ((h+1:Nat):Int)-1=(h:Int) by omega]
 have lp:=jm (g:=j9 2) (f:=v3 (b7 3 (z5 w4 (x6 1) (x6 2))) (b7 1 (u8 [none,some 2,some 3] [0] (g0 (q9 1)) (j9 0) u6 (x9 va (q8 (q9 0) (q8 (q9 1) (q8 (q9 2) x0)))))))
  (λ(i:Nat)=>PV.at (.int ((0:Int)+i))) (λl ε=>∃(k:Nat)(s2 s3:MSlot),l=(List.range h).drop k/\k<=h/\ε=[.sh (u3 rss),.sh (wQ (y7 rss k)),s2,s3]) (by
   rintro i l ε ⟨k,s2,s3,el,hk,rfl⟩;have hkl:k<h:=by
    have e5:(i::l).length=((List.range h).drop k).length:=by rw [<- el]
    rw [ur,ux,yu] at e5;omega
   have ei:i=k:=by
    have:((List.range h).drop k)[0]?=some i:=by rw [<- el];rfl
    rw [List.getElem?_drop,List.getElem?_range (by omega)] at this;simpa using this.symm
   have er:l=(List.range h).drop (k+1):=by
    have:((List.range h).drop k).tail=l:=by rw [<- el];rfl
    rw [<- this,List.tail_drop]
   subst ei;have S:=Shp.all G i hk;have hT:i<(y7 rss i).length:=by rw [S.len];omega
   have gD:(y7 rss i).getD i []=(y7 rss i)[i]:=u4 hT;have wl:=LF G hk h4;refine ⟨_,_,rfl,w9 (qk (x:=qj (y7 rss i)[i]) (w6 rfl rfl ?_)) (qk (x:=wQ (y7 rss (i+1))) ?_),i+1,_,_,er,hkl,rfl⟩
   ·show atI ((y7 rss i).map qj) (0+(i:Int))=_;rw [Int.zero_add];exact qQ (by rw [yR,yV hT];rfl)
   ·refine (f9 qj (λrow=>qj (thr row i (y7 rss i)[i])) (y7 rss i) rfl rfl (by rw [S.len];omega) λrow hr=>⟨_,rfl,j7 rfl ?_⟩).trans ?_
    ·show va [qj row,.at (.int (0+(i:Int))),qj (y7 rss i)[i]]=_;rw [Int.zero_add];exact LB (by rw [S.row row hr];exact hkl) (by rw [S.row row hr];exact h4) (wl row hr) (wl _ (yn hT))
    ·show _=some (PV.lst ((ql (y7 rss i) i).map qj));unfold ql;rw [yq,gD];rfl) (List.range h) _ ⟨0,.no,.no,rfl,yk _,rfl⟩
 obtain ⟨ε',e',k,s2,s3,el,hk,rfl⟩:=lp;have ek:k=h:=by have:=congrArg List.length el;rw [ur,ux] at this;simp at this;omega
 subst ek;exact t9 rfl (w9 (qk st) (w9 (jP rg e') (m5 rfl)))
theorem LA (h4:ws.length<=4):QA [qj ws]=some (qc (ws.map (·.1))):=by have hlim:lim=1000000:=rfl;refine jd rfl (m5 ((f9 wyP (λw=>o9 w.1) ws rfl rfl (by omega) λw _=>⟨_,rfl,rfl⟩).trans ?_));unfold qc;rw [yq];rfl
theorem Lp (G:c9 h rss)(h1:1<=h)(h4:h<=4):Qy [u3 rss]=some (u3 (qt rss h)):=by have hlim:lim=1000000:=rfl;have S:=Shp.all G h (yU _);refine jd rfl (w9 (jN (j7 rfl (La G h1 h4))) (m5 ((f9 qj (λws=>qc (ws.map (·.1))) (y7 rss h) (vP (j7 rfl (Lq G h1 h4))) rfl (by rw [S.len];omega) λws hw=>⟨_,rfl,j7 rfl (LA (by rw [S.row ws hw];exact h4))⟩).trans ?_)));show _=some (PV.lst ((qt rss h).map qc));unfold qt;rw [yq];rfl
def Dr.low (d:Dr):List (List Int):=qt d.rss d.h
def Kv:List Str:=["least","given","held","last","time"]
def Dr.ob (C:Addr)(d:Dr):PV:= .ob C Kv [u3 d.low,u3 d.rss,.fk (keysOf d.cls) (d.cls.map Cl.pv),.at (.int d.last),.at (.int d.time)]
def Dr.names (d:Dr):List Str:=d.cls.map Cl.name
section
variable {C:Addr}{d:Dr}
theorem Lx:vY C [d.ob C]=some (.tup [.at (.int d.last),.at (.int d.time)]):=t9 rfl (m5 (vS (v8 (jc rfl rfl) (v8 (jc rfl rfl) rfl)) (by first|decide|(show 1<=lim;decide)|(show 2<=lim;decide)|(show 3<=lim;decide))))
theorem Wl {i:Nat}{x:PV}(h1:a ε=some x)(h2:ε[i]?=some (.ow (.lst xs)))(h3:xs.length<=lim):ja i a ε=some (.nx (ε.set i (.ow (.lst (xs++[x]))))):=by unfold ja;rw [h1];show (match ε[i]? with|some (.ow (.lst xs))=>if xs.length<=lim then some (Out.nx (ε.set i (.ow (.lst (xs++[x]))))) else none|_=>none)=_;rw [h2];exact if_pos h3
theorem Kl {k:z7}(h1:a ε=some (.fk ks xs))(h2:b ε=some y)(h3:qG y=some k)(h4:i0 k ks xs=some z):zu a b ε=some z:=by unfold zu;rw [h1,h2];show (qG y).bind _=_;rw [h3];exact h4
theorem Ko {k:z7}{o:Option PV}(h1:a ε=some (.fk ks xs))(h2:b ε=some y)(h3:qG y=some k)(h4:i0 k ks xs=o):Qc b a ε=some (.at (.bl (!o.isSome))):=by unfold Qc;rw [h1,h2];show (qG y).bind _=_;rw [h3,<- h4];rfl
theorem UB (ok:d.Ok){c:Cl}(hc:c∈d.cls):zE C [d.ob C,.at (.str c.name)]=some c.pv:=by
 have lk:=Qp Cl.pv ok.nd c hc;refine t9 rfl (w9 (o3 (xl (i9 (qg (j7 rfl XC))) (p0 (v:=false) ?_)) o4) (m5 ?_))
 ·exact Ko (jc rfl rfl) rfl rfl lk
 ·exact Kl (jc rfl rfl) rfl rfl lk
theorem YT (G:c9 h rss){f:Int}(f0:-1<=f)(f1:f<(h:Int))(hg:g<h):∃ r:List Int,atI (rss.map qc) f=some (qc r)/\atI (r.map o9) (g:Int)=some (.at (.int (rin rss f (g:Int)))):=by
 have main:∀ n:Nat,n<=h->∃ r:List Int,(rss.map qc)[n]?=some (qc r)/\rss[n]?=some r/\atI (r.map o9) (g:Int)=some (.at (.int (rin rss (n:Int) (g:Int)))):=by
  intro n hn;have hl:n<rss.length:=by have:=G.len;omega
  have hgl:g<rss[n].length:=by rw [(G.row _ (yn hl)).1];exact hg
  refine ⟨rss[n],by rw [yR,yV hl];rfl,yV hl,?_⟩;rw [jt G hn hg,u4 hl,u4 hgl];exact qQ (by rw [yR,yV hgl];rfl)
 by_cases hf:f=-1
 ·subst hf;obtain ⟨r,e1,e2,e3⟩:=main h (yU _);refine ⟨r,?_,?_⟩
  ·have hlen:(rss.map qc).length=h+1:=by rw [yZ];exact G.len
   have e:atI (rss.map qc) (h:Int)=some (qc r):=qQ e1;rw [<- e];unfold atI;rw [hlen];have i1:ixN (h+1) (-1)=some h:=by
    unfold ixN;rw [if_neg (by decide),if_pos (by omega)]
    congr 1
    omega
   have i2:ixN (h+1) (h:Int)=some h:=by
    unfold ixN;rw [if_pos (by omega),if_pos (by omega)]
    congr 1
   rw [i1,i2]
  ·rw [Du G.len];exact e3
 ·obtain ⟨n,rfl⟩:=yf (show 0<=f by omega);obtain ⟨r,e1,e2,e3⟩:=main n (by omega);exact ⟨r,qQ e1,e3⟩
def Dr.rz (d:Dr)(f:Int)(g:Nat):Int:=if f=(g:Int) then 0 else rin d.low f (g:Int)
theorem LC (ok:d.Ok){f:Int}(f0:-1<=f)(f1:f<(d.h:Int))(hg:g<d.h):vZ C [d.ob C,.at (.int f),.at (.int (g:Int))]=some (.at (.int (rin d.low f (g:Int)))):=by obtain ⟨r,e1,e2⟩:=YT (Qq ok.rin) f0 f1 hg;exact t9 rfl (m5 (w6 (w6 (jc rfl rfl) rfl e1) rfl e2))
theorem vO (a b:Int):pEq (.at (.int a)) (.at (.int b))=some (.at (.bl (decide (a=b)))):=by show some (PV.at (.bl (n6 (.int a) (.int b))))=_;have:n6 (.int a) (.int b)=decide (a=b):=rfl;rw [this]
theorem BW (a b:Int):pNe (.at (.int a)) (.at (.int b))=some (.at (.bl (!decide (a=b)))):=by show some (PV.at (.bl (!n6 (.int a) (.int b))))=_;have:n6 (.int a) (.int b)=decide (a=b):=rfl;rw [this]
theorem Lu (ok:d.Ok){f:Int}(f0:-1<=f)(f1:f<(d.h:Int))(hg:g<d.h):jX C [d.ob C,.at (.int f),.at (.int (g:Int))]=some (.at (.int (d.rz f g))):=by
 unfold Dr.rz;by_cases h:f=(g:Int)
 ·rw [if_pos h];exact t9 rfl (m5 (Wm (p0 (v:=true) (w6 rfl rfl ((vO _ _).trans (by rw [yj h])))) rfl))
 ·rw [if_neg h];exact t9 rfl (m5 (Xw (p0 (v:=false) (w6 rfl rfl ((vO _ _).trans (by rw [yB h])))) (zy rfl (by decide) rfl (LC ok f0 f1 hg))))
structure Lst (d:Dr)(ns:List Cl):Prop where
 sub:∀ c∈ns,c∈d.cls
 nd:(ns.map Cl.name).Nodup
def m6 (cs:List Cl):PV:= .lst (v7 (cs.map Cl.name))
theorem Lst.len (ok:d.Ok)(L:Lst d ns):ns.length<=10:=by
 have:=XW L.nd (left:=d.cls.map Cl.name) λx hx=>by
  obtain ⟨c,hc,rfl⟩:=yt.mp hx;exact yt.mpr ⟨c,L.sub c hc,rfl⟩
 rw [yZ,yZ] at this;have:=ok.ten;omega
theorem MZ (ok:d.Ok)(L:Lst d ns)(hN:zc C [d.ob C,m6 ns]=some (.at (.bl true))):wb C [d.ob C,m6 ns]=some (.at .non):=jO rfl (o3 (i9 (qg (j7 rfl hN))) o4)
def Dr.go (d:Dr):Int->Int->List Cl->List (Cl×Int×Int)
 |_,_,[]=>[]
 |l,t,c::cs=>(c,t+d.rz l c.hue,t+d.rz l c.hue+c.len)::d.go c.hue (t+d.rz l c.hue+c.len) cs
def rwP (r:Cl×Int×Int):PV:= .tup [.at (.str r.1.name),.at (.int r.2.1),.at (.int r.2.2)]
theorem Le (ok:d.Ok)(L:Lst d ns)(hN:zc C [d.ob C,m6 ns]=some (.at (.bl true))):jY C [d.ob C,m6 ns]=some (.lst ((d.go d.last d.time ns).map rwP)):=by
 have hlim:lim=1000000:=rfl;have l10:=L.len ok;have en:v7 (ns.map Cl.name)=ns.map λc=>PV.at (.str c.name):=by unfold v7;rw [yq];rfl
 refine jd rfl (w9 (jN (j7 rfl (MZ ok L hN))) (w9 (qk (zy rfl (by decide) rfl Lx)) (w9 (qk (x:= .at (.int d.last)) rfl) (w9 (qk (x:= .at (.int d.time)) rfl) (w9 (vR rfl) ?_)))));obtain ⟨ε',e',rest⟩:=jm (g:=j9 6) (f:=v3 (b7 7 (qC C "cloth" (zE C) (q9 0) (q8 (q9 6) x0)))
  (v3 (b7 8 (z5 k7 (x6 4) (qC C "rinse" (jX C) (q9 0) (q8 (q9 3) (q8 (x9 zd (q8 (q9 7) x0)) x0)))))
  (v3 (b7 4 (z5 k7 (x6 8) (x9 jZ (q8 (q9 7) x0))))
  (v3 (b7 3 (x9 zd (q8 (q9 7) x0)))
  (ja 5 (qO (q8 (q9 6) (q8 (q9 8) (q8 (q9 4) x0)))))))))
  (λc:Cl=>PV.at (.str c.name)) (λl ε=>∃(la ti:Int)(done:List (Cl×Int×Int))(s6 s7 s8:MSlot),done++d.go la ti l=d.go d.last d.time ns/\(∀ c∈l,c∈ns)/\done.length+l.length=ns.length/\-1<=la/\la<(d.h:Int) /\
   ε=[.sh (d.ob C),.sh (m6 ns),.sh (.tup [.at (.int d.last),.at (.int d.time)]),.sh (.at (.int la)),.sh (.at (.int ti)),.ow (.lst (done.map rwP)),s6,s7,s8]) (by
   rintro c l ε ⟨la,ti,done,s6,s7,s8,e1,e2,e3,g1,g2,rfl⟩;have hc:=e2 c yH;have hk:=ok.cl c (L.sub c hc);simp only [yu] at e3;refine ⟨_,[.sh (d.ob C),.sh (m6 ns),.sh (.tup [.at (.int d.last),.at (.int d.time)]),.sh (.at (.int (c.hue:Int))),.sh (.at (.int (ti+d.rz la c.hue+c.len))),.ow (.lst ((done++[(c,ti+d.rz la c.hue,ti+d.rz la c.hue+c.len)]).map rwP)),.sh (.at (.str c.name)),.sh c.pv,.sh (.at (.int (ti+d.rz la c.hue)))],rfl,w9 (qk (zy rfl (by decide) rfl (UB ok (L.sub c hc)))) (w9 (qk (w6 rfl (zy rfl (by decide) (v8 rfl (v8 (j7 rfl rfl) rfl)) (Lu ok g1 g2 hk.hu)) rfl)) (w9 (qk (w6 rfl (j7 rfl rfl) rfl)) (w9 (qk (x:= .at (.int (c.hue:Int))) (j7 rfl rfl)) ?_))),?_⟩
   rotate_left
   ·refine ⟨(c.hue:Int),ti+d.rz la c.hue+c.len,done++[(c,ti+d.rz la c.hue,ti+d.rz la c.hue+c.len)],_,_,_,by rw [uQ];exact e1,λx hx=>e2 x (yK _ hx),by rw [yM];simp;omega,by omega,by have:=hk.hu;omega,rfl⟩
   ·rw [yy];exact Wl (vS rfl l3) rfl (by rw [yZ];omega)) ns _ ⟨d.last,d.time,[],.no,.no,.no,rfl,λc h=>h,by simp,ok.l1,ok.l2,rfl⟩
 obtain ⟨la,ti,done,s6,s7,s8,e1,_,_,_,_,rfl⟩:=rest;have e2:done=d.go d.last d.time ns:=by have:done++[]=d.go d.last d.time ns:=e1;rwa [yr] at this
 subst e2;exact w9 (jP (by show some (v7 (ns.map Cl.name))=_;rw [en]) e') rfl
end
def o5 (cs:List Str):List V:=cs.map V.str
def stP (cs:List Str):PV:= .lst (v7 cs)
theorem XV (cs:List Str):(o5 cs).length=cs.length:=yZ _
theorem WW (cs:List Str):v7 cs=(o5 cs).map PV.at:=by unfold v7 o5;rw [yq];rfl
def QP:List PV->Prop:=λxs=>∃(cs:List Str)(k:Nat),xs=[stP cs,.at (.int k)]/\cs.length<=10/\1<=k/\k<=3
def wY:List PV->PV->Prop:=λxs y=>∃(cs:List Str)(k:Nat)(T:List (List Str)),xs=[stP cs,.at (.int k)]/\y = .lst (T.map stP)/\T.flatten.Perm cs/\T.length=k
theorem KK (h:spE QP wY vs H Q E):vs.length=(["names","vats","stream"]:List Str).length:=by obtain ⟨Hs,a,n,xs,v0,v1,rfl,_⟩:=h;rfl
structure DI (H0:Hp)(a F:Addr)(H:Hp)(n:Int)(as:List Addr)(T:List (List Str)):Prop where
 row:H a=some (.lst [.int n])
 top:H F=some (.lst (as.map V.ref))
 len:as.length=T.length
 tr:∀(i:Nat)(b:Addr)(t:List Str),as[i]?=some b->T[i]?=some t->H b=some (.lst (o5 t))
 nd:(a::F::as).Nodup
 new:∀ b∈F::as,H0 b=none
 kp:∀ b o,b≠a->H0 b=some o->H b=some o
section
variable {H0 H:Hp}{a F:Addr}{n m:Int}{as:List Addr}{T:List (List Str)}
theorem DI.ne (x:DI H0 a F H n as T):a≠F/\a∉as/\F∉as/\as.Nodup:=by obtain ⟨h1,h2⟩:=yx.mp x.nd;obtain ⟨h3,h4⟩:=yx.mp h2;simp only [yL,not_or] at h1;exact ⟨h1.1,h1.2,h3,h4⟩
theorem DI.setRow (x:DI H0 a F H n as T):DI H0 a F (j0 H a (.lst [.int m])) m as T:=by obtain ⟨n1,n2,n3,_⟩:=x.ne;refine ⟨y0,by rw [j3 n1.symm];exact x.top,x.len,λi b t hb ht=>?_,x.nd,x.new,λb u h1 e=>by rw [j3 h1];exact x.kp b u h1 e⟩;have bm:=ym hb;rw [j3 (show b≠a from λz=>n2 (by rw [<- z];exact bm))];exact x.tr i b t hb ht
theorem DI.put (x:DI H0 a F H n as T){i:Nat}{b:Addr}{t t':List Str}(hb:as[i]?=some b)(ht:T[i]?=some t):DI H0 a F (j0 H b (.lst (o5 t'))) n as (T.set i t'):=by
 obtain ⟨n1,n2,n3,nd⟩:=x.ne;have bm:=ym hb;have hi:i<T.length:=(yA.mp ht).1;refine ⟨by rw [j3 (show a≠b from λz=>n2 (by rw [z];exact bm))];exact x.row,by rw [j3 (show F≠b from λz=>n3 (by rw [z];exact bm))];exact x.top,by rw [yo];exact x.len,λj e u he hu=>?_,x.nd,x.new,λe u h1 z=>?_⟩
 ·by_cases hj:i=j
  ·subst hj;rw [hb] at he;cases he;rw [yb hi] at hu;cases hu;exact y0
  ·rw [yv hj] at hu;rw [j3 (λz=>?_)]
   ·exact x.tr j e u he hu
   ·subst z;obtain ⟨q1,e1⟩:=yA.mp hb;obtain ⟨q2,e2⟩:=yA.mp he;exact hj ((List.getElem_inj (h₀:=q1) (h₁:=q2) nd).mp (e1.trans e2.symm))
 ·rw [j3 (λy=>by rw [y,x.new b (yK _ bm)] at z;cases z)];exact x.kp e u h1 z
end
section
variable {K:Fg}{σ:St}{H:Hp}{Q:VK}{i:Nat}{p a:Addr}{xs:List V}{n m:Int}
theorem Dp (hi:σ[i]?=some (some (.ref p)))(hp:H p=some (.lst xs))(q:Q (.int (xs.length+1)) H):tOp (Zh K) (tCB (zL K) (k5 (c6 i) p7)) (tC (.int 1)) σ H Q:=⟨_,hi,.inl ⟨_,_,rfl,.inl ⟨xs,SqL.of hp,rfl⟩,.inl ⟨_,_,rfl,rfl,q⟩⟩⟩
theorem YJ {te:TE}(hi:σ[i]?=some (some (.ref a)))(ha:H a=some (.lst [.int n]))(h:∀{R:VK},R (.int m) H->te σ H R)(hc:vy n m)(q:Q (.int (n % m)) (j0 H a (.lst [.int (n / m)]))):xb zl [] E0 (k5 (c6 i) (k5 te p7)) σ H Q :=
 ⟨_,hi,h ⟨a,n,m,rfl,ha,hc,q⟩⟩
end
theorem MU {K:Fg}{xs:List V}(h:H p=some (.lst xs)):tyV K "list" (.ref p) H:= .inl ⟨rfl,xs,SqL.of h⟩
theorem Wp {α:Type}:∀{T:List (List α)}{t:List α},t∈T->t.length<=T.flatten.length
 |x::T,t,h=>by
  rw [uK,yM];rcases yL.mp h with rfl|h
  ·omega
  ·have:=Wp h;omega
theorem Wq {α:Type}:∀{T:List (List α)}{i:Nat}{t t':List α}{c:α},T[i]?=some t->t'.Perm (c::t)->(T.set i t').flatten.Perm (c::T.flatten)
 |[],i,_,_,_,h,_=>by simp at h
 |x::T,0,t,t',c,h,p=>by
  cases h;rw [List.set_cons_zero,uK,uK];exact p.append_right _
 |x::T,i+1,t,t',c,h,p=>by
  rw [List.set_cons_succ,uK,uK];exact ((Wq (T:=T) (c:=c) (by simpa using h) p).append_left x).trans List.perm_middle
structure Emp (H0 H:Hp)(as:List Addr):Prop where
 at_:∀ b∈as,H b=some (.lst [])
 new:∀ b∈as,H0 b=none
 nd:as.Nodup
 keep:Same H0 H
theorem Emp.snoc (c:Emp H0 H as)(hp:H p=none):Emp H0 (j0 H p (.lst [])) (as++[p]):=by
 have np:∀ b∈as,b≠p:=λb hb z=>by rw [z] at hb;rw [c.at_ p hb] at hp;cases hp
 have h0:H0 p=none:=by
  cases z:H0 p with
  |none=>rfl
  |some o=>rw [c.keep _ _ z] at hp;cases hp
 refine ⟨λb hb=>?_,λb hb=>?_,uG.mpr ⟨c.nd,yx.mpr ⟨by simp,uS⟩,λx hx y hy=>?_⟩,λb o z=>?_⟩
 ·rcases yg.mp hb with hb|hb
  ·rw [j3 (np b hb)];exact c.at_ b hb
  ·rw [yO.mp hb];exact y0
 ·rcases yg.mp hb with hb|hb
  ·exact c.new b hb
  ·rw [yO.mp hb];exact h0
 ·rw [yO.mp hy];exact np x hx
 ·rw [j3 (λy=>by rw [y,h0] at z;cases z)];exact c.keep b o z
abbrev ZB:Stmt:=top 66
theorem sc_dealing:v9 ["names","vats","stream","found","name","some"] ["names","vats","stream"] (j6 ZB):=y2
theorem Pq (F:Fun K "_law_dealing" "_law_dealing" ZB f fd)(Ae:Fn P w K mg base 1 "_law_take" ["stream","many"] zl)(Ac:mg "len"=none)(Ad:mg "range"=none):FnOk P w K mg base j8 2 f fd ["names","vats","stream"] (spE QP wY):=by
 refine F.ok (k:=1) sc_dealing (λvs H Q E h=>KK h) (λcdv A outer s H vs Q E hr h=>⟨_,(z9 (zh (i:=3) (N':=["vat"]) (cap:=[none]) (p9 rfl rfl rfl) rfl sc_dealing.nd rfl rfl (xF rfl Ad (aW (pv 1))) (λ_ _ _ _ _ _=>(u5 (i:=0) (by show (["vat"]:List Str).Nodup;decide +kernel) rfl (Or.inl rfl))) (λ_ _ _ _ _ _=>m9) (λ_ _ _ _ _ _=>(@qm _ _ _ _ v6)))
  (z9 (qy PassesOwn.never rfl (@c3 _ K _ _ _ rfl (pv 0)) (gW 4 sc_dealing.nd)
   (z9 (sW 5 sc_dealing.nd (iW (K:=K) rfl (pv 3) (fW Ae hr (aC (pv 2) (aW (pv 1))))))
  (j4 (xr (vi (K:=K) rfl PySem.F.plainAttrs_list PySem.F.slot_list_insert PySem.F.type_list_insert BU (pv 5) (z6 (fW Ae hr (aC (pv 2) (aW (v5 (o6 (K:=K) rfl) (y4 (qp (K:=K) rfl) rfl Ac PySem.boot_len (aW (pv 5))) x8)))) (z6 (pv 4) v6)))))))
  (j4 (y1 (pv 3))))),?_⟩)
 obtain ⟨Hs,a,n,xs,v0,v1,rfl,sm,na,ha,r,⟨cs,k,rfl,c10,k1,k3⟩,q⟩:=h;obtain ⟨u0,rr,e0,p1,p2⟩:=reps_cons.mp r;injection e0 with e1 e2;subst e1 e2;obtain ⟨u1,rr,e0,p3,p4⟩:=reps_cons.mp p2;injection e0 with e1 e2;subst e1;cases rep_at.mp p3;obtain ⟨N0,ws,rfl,hN,rN⟩:=rep_lst.mp p1;have ew:ws=o5 cs:=Reps.ats (us:=o5 cs) (by rw [<- WW];exact rN);subst ew;have hlim:lim=1000000:=rfl;have BT:=wW;refine ⟨_,rfl,(k:Int),rfl,by omega,by omega,?_⟩;rw [Int.toNat_natCast];refine GU (lo:=0) (n:=k) (λi ys H'=>∃ as:List Addr,ys=as.map V.ref/\as.length=i/\Emp H H' as) ⟨[],rfl,rfl,(λ_ z=>nomatch z),(λ_ z=>nomatch z),uS,.refl _⟩ (λi ys H' hi ⟨as,e,l,_⟩=>qr (by rw [e,yZ];omega)) ?_ ?_
 ·rintro i ys H' R hi ⟨as,rfl,l,c⟩ hR;exact ⟨Wk.one rfl,(by show 0<=sizeLine;exact yk _),λp hp=>hR _ _ ⟨as++[p],by rw [yy];rfl,by rw [yM,l];rfl,c.snoc hp⟩⟩
 rintro ys H1 ⟨as,rfl,al,c⟩ F hF;have nF:H F=none:=by
  cases z:H F with
  |none=>rfl
  |some o=>rw [c.keep _ _ z] at hF;cases hF
 have na1:∀ b∈as,b≠F:=λb hb z=>by rw [z] at hb;rw [c.at_ F hb] at hF;cases hF
 have X0:DI H a F (j0 H1 F (.lst (as.map V.ref))) n as (List.replicate k []):=by
  refine ⟨?_,y0,by rw [uI];exact al,λi b t hb ht=>?_,?_,λb hb=>?_,λb o _ z=>?_⟩
  ·rw [j3 (λz=>by rw [z,nF] at ha;cases ha)];exact c.keep _ _ ha
  ·have bm:=ym hb;have et:t=[]:=List.eq_of_mem_replicate (ym ht);rw [j3 (na1 b bm),et];exact c.at_ b bm
  ·refine yx.mpr ⟨λz=>?_,yx.mpr ⟨λz=>na1 F z rfl,c.nd⟩⟩;rcases yL.mp z with z|z
   ·rw [z,nF] at ha;cases ha
   ·rw [c.new a z] at ha;cases ha
  ·rcases yL.mp hb with rfl|hb
   ·exact nF
   ·exact c.new b hb
  ·rw [j3 (λy=>by rw [y,nF] at z;cases z)];exact c.keep b o z
 generalize j0 H1 F (.lst (as.map V.ref))=H2 at X0;clear hF c;have nN:N0≠a:=λz=>by rw [z,na] at hN;cases hN
 show tFor (vU K (c6 0)) (qh 4) _ _ [some (.ref N0),some (.int k),some (.ref a),some (.ref F),none,none] _;refine ⟨_,rfl,N0,rfl,⟨_,SqL.of (X0.kp _ _ nN (sm _ _ hN))⟩,Kz (xs:=o5 cs) (λi σ H2=>∃(n:Int)(T:List (List Str))(s4 s5:Option V),σ=[some (.ref N0),some (.int k),some (.ref a),some (.ref F),s4,s5]/\DI H a F H2 n as T/\T.length=k/\T.flatten.Perm (cs.take i)) ⟨n,List.replicate k [],_,_,rfl,X0,uI,by rw [List.take_zero,List.flatten_replicate_nil]⟩ (λi σ H2 _ ⟨n,T,_,_,_,X,_⟩=>SqL.of (X.kp _ _ nN (sm _ _ hN))) ?_ ?_⟩
 ·rintro i x σ H2 hx ⟨n,T,s4,s5,rfl,X,tk,pm⟩;unfold o5 at hx;rw [yR] at hx;obtain ⟨c,hc,rfl⟩:=yG.mp hx;have d0:0<=n % (k:Int):=yz _ (by omega);have d1:n % (k:Int)<k:=yF _ (by omega);obtain ⟨j,hj⟩:=yf d0;have jl:j<as.length:=by omega
  have jT:j<T.length:=by omega
  have ej:=yV jl;have eT:=yV jT;generalize as[j]=b at ej;generalize T[j]=t at eT;refine ⟨_,rfl,YJ (i:=2) (m:=(k:Int)) rfl X.row (λ{R} z=>⟨_,rfl,z⟩) (xy (by omega) (by omega)) ?_⟩;rw [hj];have X1:=X.setRow (m:=n / (k:Int));generalize n / (k:Int)=n1 at X1 ⊢;generalize j0 H2 a (.lst [.int n1])=H3 at X1 ⊢;refine .inl ⟨F,as.map V.ref,(j:Int),.ref b,rfl,rfl,SqL.of X1.top,qQ (by rw [yR,ej];rfl),?_⟩;have hb:=X1.tr j b t ej eT;have tl:t.length<=10:=by have h1:=Wp (ym eT);have h2:=pm.length_eq;rw [ut] at h2;omega
  refine ⟨_,rfl,MU hb,YJ (i:=2) (m:=((o5 t).length:Int)+1) rfl X1.row (λ{R} z=>Dp (K:=K) (i:=5) rfl hb z) (xy (by omega) (by rw [XV];omega)) ?_⟩;have f0:0<=n1 % (((o5 t).length:Int)+1):=yz _ (by omega);have f1:n1 % (((o5 t).length:Int)+1)<((o5 t).length:Int)+1:=yF _ (by omega);obtain ⟨z,hz⟩:=yf f0;rw [hz];have X2:=X1.setRow (m:=n1 / (((o5 t).length:Int)+1));generalize n1 / (((o5 t).length:Int)+1)=n2 at X2 ⊢;generalize j0 H3 a (.lst [.int n2])=H4 at X2 ⊢;have tn:=XV t;refine ⟨_,rfl,b,o5 t,(z:Int),.str c,rfl,rfl,X2.tr j b t ej eT,by omega,by omega,by omega,?_⟩;rw [Int.toNat_natCast,show (o5 t).take z++V.str c::(o5 t).drop z=o5 (t.take z++c::t.drop z) by unfold o5;rw [yy,yN,List.map_take,List.map_drop]];refine ⟨n2,_,_,_,rfl,X2.put ej eT,by rw [yo];exact tk,?_⟩;have p5:(t.take z++c::t.drop z).Perm (c::t):=by have:=List.perm_middle (a:=c) (l₁:=t.take z) (l₂:=t.drop z);rwa [List.take_append_drop] at this
  refine (Wq eT p5).trans ?_;rw [List.take_add_one,hc];exact (pm.cons c).trans (List.perm_append_comm (l₁:=[c]))
 ·rintro σ H2 ⟨n2,T,s4,s5,rfl,X,tk,pm⟩;rw [XV,List.take_length] at pm;have nn:∀ b,b=F∨b∈as->H b=none:=λb hb=>X.new b (yL.mpr hb);have sn:∀ b,b=F∨b∈as->Hs b=none:=λb hb=>by
   have:=nn b hb;cases z:Hs b with
   |none=>rfl
   |some o=>rw [sm _ _ z] at this;cases this
  have sm3:Same Hs H2:=λb o z=>X.kp b o (λy=>by rw [y,na] at z;cases z) (sm _ _ z)
  open Classical in
  let Hs':Hp:=λb=>if b=F∨b∈as then H2 b else Hs b
  have hin:∀ b,(b=F∨b∈as)->Hs' b=H2 b:=λb hb=>if_pos hb;have hout:∀ b,¬ (b=F∨b∈as)->Hs' b=Hs b:=λb hb=>if_neg hb
  clear_value Hs'
  have ao:¬ (a=F∨a∈as):=λy=>by rw [nn a y] at ha;cases ha
  refine ⟨_,rfl,q (.lst (T.map stP)) (.ref F) n2 Hs' H2 ⟨cs,k,T,rfl,rfl,pm,tk⟩ ⟨λb o z=>?_,λb o z nb=>?_,λb o z=>?_,λb hb z=>?_⟩ (by rw [hout a ao];exact na) X.row (rep_lst.mpr ⟨F,as.map V.ref,rfl,by rw [hin F (.inl rfl)];exact X.top,?_⟩)⟩
  ·rw [hout b (λy=>by rw [sn b y] at z;cases z)];exact z
  ·exact X.kp b o nb z
  ·by_cases hb:b=F∨b∈as
   ·rw [hin b hb] at z;exact z
   ·rw [hout b hb] at z;exact sm3 _ _ z
  ·rw [hout b (λy=>hb (nn b y))];exact z
  ·have go:∀(as2:List Addr)(T2:List (List Str)),as2.length=T2.length->(∀(i:Nat)(b:Addr)(t:List Str),as2[i]?=some b->T2[i]?=some t->Hs' b=some (.lst (o5 t)))->Reps Hs' (T2.map stP) (as2.map V.ref):=by
    intro as2
    induction as2 with
    |nil =>
     intro T2 hl _;cases T2 with
     |nil=>exact .nil
     |cons _ _=>cases hl
    |cons b as2 ih =>
     intro T2 hl hr;cases T2 with
     |nil=>cases hl
     |cons t T2=>refine .cons (rep_lst.mpr ⟨b,o5 t,rfl,hr 0 b t rfl rfl,?_⟩) (ih T2 (by simpa using hl) λi e u he hu=>hr (i+1) e u he hu);rw [WW];exact Reps.ofAts _
   exact go as T X.len λi b t hb ht=>by rw [hin b (.inr (ym hb))];exact X.tr i b t hb ht
section
variable {C:Addr}{d:Dr}
theorem WG (cs:List Cl):xQ (keysOf cs)=some (cs.map Cl.name):=by
 induction cs with
 |nil=>rfl
 |cons c cs ih=>show (xQ (keysOf cs)).map (c.name::·)=_;rw [ih];rfl
theorem Uh (ss:List Str):zm (v7 ss)=some ss:=by
 induction ss with
 |nil=>rfl
 |cons s ss ih=>show (zm (v7 ss)).map (s::·)=_;rw [ih];rfl
theorem Jt (ok:d.Ok):zb C [d.ob C]=some (.lst (v7 (qE d.names))):=by refine jd rfl (m5 (j7 (v8 (jc rfl rfl) rfl) ?_));show (xQ (keysOf d.cls)).bind _=_;rw [WG,yE,if_pos (by rw [yZ];have:=ok.ten;omega)];rfl
theorem YY {ss:List Str}(h:ss.Nodup):∀ i,i<=ss.length->k8 (λi=>(Sum.inr (ss.getD i ⟨#[]⟩):z7)) i=(ss.take i).map Sum.inr
 |0,_=>rfl
 |i+1,hi=>by
  have ih:=YY h i (by omega);have hl:i<ss.length:=by omega
  have eg:ss.getD i ⟨#[]⟩=ss[i]:=u4 hl;have hn:ss[i]∉ss.take i:=λz=>by
   have e:ss=ss.take i++ss[i]::ss.drop (i+1):=by rw [<- ya hl,List.take_append_drop]
   rw [e] at h;exact (uG.mp h).2.2 _ z _ yH rfl
  unfold k8;rw [ih,eg,if_neg (λz=>hn (by
   obtain ⟨y,hy,e⟩:=yt.mp z;injection e with e;rw [<- e];exact hy)),List.take_add_one,yV hl,yy]
  rfl
theorem BK (h:ss.Nodup):XO ss=ss.length:=by unfold XO;rw [YY h _ (yU _),yZ,List.take_length]
theorem UA (ok:d.Ok)(L:Lst d ns):zc C [d.ob C,m6 ns]=some (.at (.bl true)):=by
 have hlim:lim=1000000:=rfl;have l10:=L.len ok;have en:v7 (ns.map Cl.name)=(ns.map Cl.name).map λs=>PV.at (.str s):=rfl;refine t9 rfl (w9 (o3 (i9 (qg (j7 rfl jQ))) o4) (w9 (qk (zy rfl (by decide) rfl (Jt ok))) (m5 (zw (j7 (v8 (f9 (λs:Str=>PV.at (.str s)) (λ_=>PV.at (.bl true)) (ns.map Cl.name) rfl rfl (by rw [yZ];omega) λs hs=>⟨_,rfl,w6 rfl rfl ((Qk false s _).trans ?_)⟩) rfl) (zX _)) (w6 (y:= .at (.int (ns.length:Int))) (x:= .at (.int (ns.length:Int))) ?_ ?_ (Cv rfl))))))
 ·obtain ⟨c,hc,rfl⟩:=yt.mp hs;have:c.name∈qE d.names:=(wK d.names).mem_iff.mpr (yt.mpr ⟨c,L.sub c hc,rfl⟩);simp [this]
 ·show (zm (v7 (ns.map Cl.name))).bind _=_;rw [Uh,yE,if_pos (by rw [yZ];omega),BK L.nd,yZ]
 ·refine j7 rfl ?_;show some (PV.at (.int ((v7 (ns.map Cl.name)).length:Int)))=_;rw [zO,yZ]
theorem KG :∀{l t:Int},∀ r∈d.go l t ns,r.1∈ns:=by
 induction ns with
 |nil=>intro l t r h;cases h
 |cons c cs ih =>
  intro l t r h;rcases yL.mp h with rfl|h
  ·exact yH
  ·exact yK _ (ih r h)
theorem Qj :∀{l t:Int},(d.go l t ns).length=ns.length:=by
 induction ns with
 |nil=>intro l t;rfl
 |cons c cs ih=>intro l t;show (d.go _ _ cs).length+1=_;rw [ih];rfl
theorem Lf (ok:d.Ok)(L:Lst d ns):jY C [d.ob C,m6 ns]=some (.lst ((d.go d.last d.time ns).map rwP)):=Le ok L (UA ok L)
def edP (r:Cl×Int×Int):PV:= .tup [r.1.pv,.at (.int r.2.2)]
theorem Lg (ok:d.Ok)(L:Lst d ns):we C [d.ob C,m6 ns]=some (.lst ((d.go d.last d.time ns).map edP)):=by have hlim:lim=1000000:=rfl;have l10:=L.len ok;exact jd rfl (m5 (f9 rwP edP (d.go d.last d.time ns) (vP (j7 rfl (Lf ok L))) rfl (by rw [Qj];omega) λr hr=>⟨_,rfl,vS (v8 (zy rfl (by decide) rfl (UB ok (L.sub _ (KG r hr)))) (v8 rfl rfl)) (by first|decide|(show 1<=lim;decide)|(show 2<=lim;decide)|(show 3<=lim;decide))⟩))
theorem Ln (c:Cl)(e:Int):Qx [c.pv,.at (.int e)]=some (.at (.int (e-c.due))):=rfl
def XG (r:Cl×Int×Int):Int:=r.2.2-r.1.due
end
section
variable {C:Addr}{d:Dr}
def qq (rs:List (Cl×Int×Int)):List Int:=rs.map XG
def i6 (l:List Int):PV:=if l=[] then .at .non else .at (.int (qP l))
theorem XQ {l:List Int}(h:a ε=some (.lst (l.map o9))):jK a ε=some (i6 l):=by unfold jK i6;rw [h,yE];show (zB (l.map λb=>PV.at (.int b))).bind _=_;rw [Wv,yE];split<;>rfl
theorem KF (ok:d.Ok)(L:Lst d ns):(d.go d.last d.time ns).length<=lim:=by have hlim:lim=1000000:=rfl;have l10:=L.len ok;rw [Qj];omega
theorem Lo (ok:d.Ok)(L:Lst d ns):wo C [d.ob C,m6 ns]=some (i6 (qq (d.go d.last d.time ns))):=by refine t9 rfl (m5 (XQ ((f9 edP (λr=>o9 (XG r)) (d.go d.last d.time ns) (vP (j7 rfl (Lg ok L))) rfl (KF ok L) λr hr=>⟨_,rfl,j7 rfl (Ln _ _)⟩).trans ?_)));unfold qq;rw [yq];rfl
theorem CW {l:List Int}:zK 6 (i6 l):=by unfold i6;split<;>rfl
end
section
variable {C:Addr}{d:Dr}
theorem vQ {f:Str}{ns:List Str}(h1:a ε=some y)(h0:ε[0]?=some (.ow (.ob C ns xs)))(hf:f∉ns)(hl:ns.length<1000):xP C f a ε=some (.nx (ε.set 0 (.ow (.ob C (ns++[f]) (xs++[y]))))):=by unfold xP;rw [h1,yE,h0];exact if_pos ⟨rfl,hf,hl⟩
theorem Wn {nm:Str}{m:List PV->Option PV}{i:Nat}{as:MA}{ns:List Str}{fs:List PV}(h0:ε[i]?=some (.ow (.ob C ns fs)))(hn:nm∉ns)(k:as ε=some xs)(e:m (.ob C ns fs::xs)=some (.at u)):jL C nm m i as ε=some (.at u):=by unfold jL;rw [h0];show (if C=C/\nm∉ns then _ else _)=_;rw [if_pos ⟨rfl,hn⟩,k,yE,e];rfl
theorem UC (ok:d.Ok):jV C [.ob C ["least"] [u3 d.low]]=some (.at (.int d.h)):=by have G:=Qq ok.rin;refine t9 rfl (m5 (w6 (j7 (v8 (jc rfl rfl) rfl) rfl) rfl ?_));show some (PV.at (.int (((d.low.map qc).length:Int)-1)))=_;rw [yZ,show d.low.length=d.h+1 from G.len,show ((d.h+1:Nat):Int)-1=(d.h:Int) by omega]
theorem Ym:∀ cs:List Cl,js (cs.map λc=>PV.tup [.at (.str c.name),c.pv])=some (cs.map λc=>((.inr c.name:z7),c.pv))
 |[]=>rfl
 |c::cs=>by
  show Option.bind (some (Sum.inr c.name)) (λkk=>(js (cs.map λc=>PV.tup [.at (.str c.name),c.pv])).map ((kk,c.pv)::·))=_;rw [yE,Ym cs];rfl
theorem Bu {cs:List Cl}(h:(cs.map Cl.name).Nodup):(keysOf cs).Nodup:=by
 induction cs with
 |nil=>exact uS
 |cons c cs ih=>rw [yN] at h;have h':=yx.mp h;refine yx.mpr ⟨λz=>?_,ih h'.2⟩;obtain ⟨y,hy,e⟩:=yt.mp z;injection e with e;exact h'.1 (yt.mpr ⟨y,hy,e⟩)
theorem Lj (ok:d.Ok):jW C [u3 d.rss,.lst (d.cls.map Cl.pv),.at (.int d.last),.at (.int d.time)]=some (d.ob C):=by
 have hlim:lim=1000000:=rfl;have ten:=ok.ten;have glen:=ok.rin.len;have h4:=ok.h4;have cp:∀(s0 s2 s3 s4:MSlot),u8 [none] [0] (g0 (q9 1)) (j9 0) u6 (x9 ww (q8 (x6 0) x0)) [s0,.sh (u3 d.rss),s2,s3,s4]=some (u3 d.rss):=λs0 s2 s3 s4 =>
  f9 qc qc d.rss rfl rfl (by omega) λr _=>⟨_,rfl,rfl⟩
 have dk:∀(s0 s1 s3 s4:MSlot),x9 QH (q8 (u8 [none] [0] (g0 (q9 2)) (j9 0) u6 (qO (q8 (x9 ze (q8 (q9 0) x0)) (q8 (q9 0) x0)))) x0) [s0,s1,.sh (.lst (d.cls.map Cl.pv)),s3,s4]=some (.fk (keysOf d.cls) (d.cls.map Cl.pv)):=λs0 s1 s3 s4=>by
  refine j7 (v8 (f9 Cl.pv (λc=>PV.tup [.at (.str c.name),c.pv]) d.cls rfl rfl (by omega) λc _=>⟨_,rfl,vS (v8 (j7 rfl rfl) (v8 rfl rfl)) l2⟩) rfl) ?_;show (js (d.cls.map λc=>PV.tup [.at (.str c.name),c.pv])).bind _=_;have k1:(d.cls.map λc=>((.inr c.name:z7),c.pv)).map (·.1)=keysOf d.cls:=by rw [yq];rfl
  have k2:(d.cls.map λc=>((.inr c.name:z7),c.pv)).map (·.2)=d.cls.map Cl.pv:=by rw [yq];rfl
  rw [Ym,yE,k1,k2];exact if_pos ⟨Bu ok.nd,by rw [yZ];omega⟩
 have run:wZ C [.ow (.ob C [] []),.sh (u3 d.rss),.sh (.lst (d.cls.map Cl.pv)),.sh (.at (.int d.last)),.sh (.at (.int d.time))]=some (.nx [.ow (d.ob C),.sh (u3 d.rss),.sh (.lst (d.cls.map Cl.pv)),.sh (.at (.int d.last)),.sh (.at (.int d.time))]) :=
  w9 (vQ (j7 rfl (Lp ok.rin ok.h1 ok.h4)) rfl (by decide) (by decide)) (w9 (jN (j7 (v8 rfl (v8 rfl (v8 (Wn rfl (by decide) rfl (UC ok)) rfl))) (Lb ok.l1 ok.l2 ok.t1)))
   (w9 (jN (j7 (v8 rfl (v8 (Wn rfl (by decide) rfl (UC ok)) rfl)) (MX ok.cl ok.nd ok.ten)))
   (w9 (vQ (cp _ _ _ _) rfl (by decide) (by decide)) (w9 (vQ (dk _ _ _ _) rfl (by decide) (by decide)) (w9 (vQ (y:= .at (.int d.last)) (f:="last") (ns:=["least","given","held"]) (Xw (p0 (v:=false) (w6 rfl rfl rfl)) rfl) rfl (by decide) (by decide)) (vQ (y:= .at (.int d.time)) (f:="time") (ns:=["least","given","held","last"]) (xs:=[u3 d.low,u3 d.rss,.fk (keysOf d.cls) (d.cls.map Cl.pv),.at (.int d.last)]) rfl rfl (by decide) (by decide)))))))
 unfold jW vJ;refine (if_pos rfl).trans ?_;show (wZ C [.ow (.ob C [] []),.sh (u3 d.rss),.sh (.lst (d.cls.map Cl.pv)),.sh (.at (.int d.last)),.sh (.at (.int d.time))]).bind _=_;rw [run];rfl
end
theorem nm_F (l:List Cl):v7 (l.map Cl.name)=l.map λc=>PV.at (.str c.name):=by unfold v7;rw [yq];rfl
theorem WX :(v7 (ns.map Cl.name)).length=ns.length:=by rw [zO,yZ]
def dlP (T:List (List Cl)):PV:= .lst (T.map m6)
structure Dealt (d:Dr)(T:List (List Cl))(k:Nat):Prop where
 perm:T.flatten.Perm d.cls
 len:T.length=k
 k1:1<=k
 k3:k<=3
section
variable {C:Addr}{d:Dr}{T:List (List Cl)}{t:List Cl}{k:Nat}
theorem Dealt.lst (x:Dealt d T k)(ok:d.Ok)(ht:t∈T):Lst d t:=⟨λc hc=>x.perm.mem_iff.mp (List.mem_flatten.mpr ⟨t,ht,hc⟩),List.Nodup.sublist ((List.sublist_flatten_of_mem ht).map Cl.name) ((x.perm.map Cl.name).nodup_iff.mpr ok.nd)⟩
theorem Dealt.all (x:Dealt d T k)(ok:d.Ok):Lst d T.flatten:=⟨λc h=>x.perm.mem_iff.mp h,(x.perm.map Cl.name).nodup_iff.mpr ok.nd⟩
theorem Ls (ok:d.Ok)(L:Lst d ns)(p:ns.Perm d.cls):wj C [d.ob C,m6 ns]=some (.at (.bl true)):=by refine t9 rfl (m5 (zw (j7 rfl (UA ok L)) (w6 (x:= .at (.int (ns.length:Int))) (y:= .at (.int (ns.length:Int))) (j7 rfl (by show some (PV.at (.int ((v7 (ns.map Cl.name)).length:Int)))=_;rw [WX])) (j7 (v8 (zy rfl (by decide) rfl (Jt ok)) rfl) ?_) ((vO _ _).trans (by rw [yj rfl])))));show some (PV.at (.int ((v7 (qE d.names)).length:Int)))=_;rw [zO,(wK _).length_eq,p.length_eq];unfold Dr.names;rw [yZ]
theorem WQ:∀ T:List (List Cl),zD (T.map m6)=some (T.map λt=>v7 (t.map Cl.name))
 |[]=>rfl
 |t::T=>by
  show (zD (T.map m6)).map (v7 (t.map Cl.name)::·)=_;rw [WQ T];rfl
theorem Wo (T:List (List Cl)):(T.map λt=>v7 (t.map Cl.name)).flatten=v7 (T.flatten.map Cl.name):=by unfold v7;rw [List.map_flatten,List.map_flatten,yq];rfl
theorem Lc (ok:d.Ok)(h6:d.cls.length<=6)(k1:1<=k)(k3:k<=3):wc C [d.ob C,.at (.int k)]=some (.at .non):=by
 refine jO rfl (w9 (o3 (xl (i9 (qg (j7 rfl (QX _)))) (i9 (p0 (Qh (r:=true) rfl rfl ?_ rfl ?_)))) o4) (o3 (p0 (v:=false) (w6 (j7 (v8 (zy rfl (by decide) rfl (Jt ok)) rfl) rfl) rfl ?_)) o4))
 ·show some (PV.at (.bl (decide ((1:Int)<=(k:Int)))))=_;rw [yj (by omega)]
 ·show some (PV.at (.bl (decide ((k:Int)<=3))))=_;rw [yj (by omega)]
 ·show some (PV.at (.bl (decide ((6:Int)<((v7 (qE d.names)).length:Int)))))=_;have e:(qE d.names).length=d.cls.length:=by rw [(wK d.names).length_eq];unfold Dr.names;rw [yZ]
  rw [zO,e,yB (by omega)]
theorem MY (ok:d.Ok)(h6:d.cls.length<=6)(x:Dealt d T k):wa C [d.ob C,dlP T]=some (.at .non):=by
 have hlim:lim=1000000:=rfl;have tl:=x.len;have k3:=x.k3;have fl:=x.perm.length_eq;refine jO rfl (w9 (jN (j7 (v8 rfl (v8 (x:= .at (.int k)) (j7 rfl ?_) rfl)) (Lc ok h6 x.k1 x.k3))) (o3 (xl (i9 (qg (j7 (v8 (f9 m6 (λ_=>PV.at (.bl true)) T rfl rfl (by omega) λt _=>⟨_,rfl,j7 rfl jQ⟩) rfl) (zX _)))) (i9 (qg (j7 (v8 rfl (v8 ((Ku rfl (WQ T) ?_).trans (by rw [Wo];rfl)) rfl)) (Ls ok (x.all ok) x.perm))))) o4))
 ·show some (PV.at (.int ((T.map m6).length:Int)))=_;rw [yZ,tl]
 ·rw [Wo,WX];omega
def vl (d:Dr)(T:List (List Cl)):List Int:=(T.filter λt=>!t.isEmpty).map λt=>qP (qq (d.go d.last d.time t))
def r6 (d:Dr)(T:List (List Cl)):List Int:=T.flatMap λt=>qq (d.go d.last d.time t)
theorem MF (a:Int)(l:List Int):i6 (a::l)=o9 (qP (a::l)):=if_neg (by simp)
theorem v_vat (ok:d.Ok)(h6:d.cls.length<=6)(x:Dealt d T k):wu C [d.ob C,dlP T]=some (i6 (vl d T)):=by
 have hlim:lim=1000000:=rfl;have tl:=x.len;have k3:=x.k3;refine t9 rfl (w9 (jN (j7 rfl (MY ok h6 x))) (w9 (qk (f9 m6 (λt=>i6 (qq (d.go d.last d.time t))) T rfl rfl (by omega) λt ht=>⟨_,rfl,j7 rfl (Lo ok (x.lst ok ht))⟩)) (m5 (XQ ((ev_cf (λt=>i6 (qq (d.go d.last d.time t))) (λt=>o9 (qP (qq (d.go d.last d.time t)))) (λt=>!t.isEmpty) T rfl rfl (by omega) λt _=>?_).trans ?_)))))
 ·cases t with
  |nil=>exact ⟨_,rfl,rfl,λz=>nomatch z⟩
  |cons c t=>have e:i6 (qq (d.go d.last d.time (c::t)))=o9 (qP (qq (d.go d.last d.time (c::t)))):=MF _ _;rw [e];exact ⟨_,rfl,rfl,λ_=>rfl⟩
 ·unfold vl;rw [yq];rfl
theorem WI (ht:t≠[]):qq (d.go d.last d.time t)≠[]:=λz=>by
 cases t with
 |nil=>exact ht rfl
 |cons _ _=>cases z
theorem Jp:i6 (vl d T)=i6 (r6 d T):=by
 by_cases h:∀ t∈T,t=[]
 ·have e1:vl d T=[]:=by unfold vl;rw [List.filter_eq_nil_iff.mpr λt ht=>by rw [h t ht];decide];rfl
  have e2:r6 d T=[]:=List.flatMap_eq_nil_iff.mpr λt ht=>by rw [h t ht];rfl
  rw [e1,e2]
 ·have ⟨t,ht,tn⟩:∃ t∈T,t≠[]:=by refine Classical.byContradiction λz=>h λt ht=>Classical.byContradiction λy=>z ⟨t,ht,y⟩
  have mv:∀ t∈T,t≠[]->qP (qq (d.go d.last d.time t))∈vl d T:=λt ht tn=>yt.mpr ⟨t,uA.mpr ⟨ht,by cases t with|nil=>exact absurd rfl tn|cons _ _=>rfl⟩,rfl⟩;have md:∀ t∈T,∀ z∈qq (d.go d.last d.time t),z∈r6 d T:=λt ht z hz=>List.mem_flatMap.mpr ⟨t,ht,hz⟩;have n1:vl d T≠[]:=λz=>by have:=mv t ht tn;rw [z] at this;cases this
  have n2:r6 d T≠[]:=λz=>by have:=md t ht _ (jn (WI tn));rw [z] at this;cases this
  unfold i6;rw [if_neg n1,if_neg n2]
  congr 2
  refine Int.le_antisymm ?_ ?_
  ·obtain ⟨u,hu,e⟩:=yt.mp (jn n1);obtain ⟨h1,h2⟩:=uA.mp hu;rw [show qP (vl d T)=qP (qq (d.go d.last d.time u)) from e.symm];exact vc (md u h1 _ (jn (WI λz=>by rw [z] at h2;cases h2)))
  ·obtain ⟨u,hu,e⟩:=List.mem_flatMap.mp (jn n2);have un:u≠[]:=λz=>by rw [z] at e;cases e
   exact Int.le_trans (vc e) (vc (mv u hu un))
theorem v_gap (ok:d.Ok){f:Int}(f0:-1<=f)(f1:f<(d.h:Int))(hg:g<d.h):wg [u3 d.low,.at (.int f),.at (.int (g:Int))]=some (.at (.int (d.rz f g))):=by
 unfold Dr.rz;by_cases h:f=(g:Int)
 ·rw [if_pos h];exact t9 rfl (Ks (Kq (p0 (v:=true) (w6 rfl rfl ((vO _ _).trans (by rw [yj h])))) rfl))
 ·rw [if_neg h];obtain ⟨r,e1,e2⟩:=YT (Qq ok.rin) f0 f1 hg;exact t9 rfl (w9 (o3 (p0 (v:=false) (w6 rfl rfl ((vO _ _).trans (by rw [yB h])))) o4) (m5 (w6 (w6 rfl rfl e1) rfl e2)))
def enP (r:Cl×Int×Int):PV:= .at (.int r.2.2)
theorem Lh (ok:d.Ok)(L:Lst d t):wf [u3 d.low,.lst (t.map Cl.pv),.at (.int d.last),.at (.int d.time)]=some (.lst ((d.go d.last d.time t).map enP)):=by
 have hlim:lim=1000000:=rfl;have l10:=L.len ok;obtain ⟨ε',e',rest⟩:=jm (g:=j9 5) (f:=v3 (b7 3 (z5 k7 (z5 k7 (x6 3) (x9 wg (q8 (q9 0) (q8 (q9 2) (q8 (z5 w4 (x6 5) (dC (.int 1))) x0))))) (z5 w4 (x6 5) (dC (.int 2)))))
  (v3 (b7 2 (z5 w4 (x6 5) (dC (.int 1))))
  (ja 4 (q9 3)))) Cl.pv
  (λl ε=>∃(la ti:Int)(done:List (Cl×Int×Int))(s5:MSlot),done++d.go la ti l=d.go d.last d.time t/\(∀ c∈l,c∈t)/\done.length+l.length=t.length/\-1<=la/\la<(d.h:Int)/\ε=[.sh (u3 d.low),.sh (.lst (t.map Cl.pv)),.sh (.at (.int la)),.sh (.at (.int ti)),.ow (.lst (done.map enP)),s5]) (by
   rintro c l ε ⟨la,ti,done,s5,e1,e2,e3,g1,g2,rfl⟩;have hk:=ok.cl c (L.sub c (e2 c yH));have hu:=hk.hu;simp only [yu] at e3;refine ⟨_,[.sh (u3 d.low),.sh (.lst (t.map Cl.pv)),.sh (.at (.int (c.hue:Int))),.sh (.at (.int (ti+d.rz la c.hue+c.len))),.ow (.lst ((done++[(c,ti+d.rz la c.hue,ti+d.rz la c.hue+c.len)]).map enP)),.sh c.pv],rfl,w9 (qk (w6 (w6 rfl (j7 (v8 rfl (v8 rfl (v8 (w6 rfl rfl rfl) rfl))) (v_gap ok g1 g2 hu)) rfl) (w6 rfl rfl rfl) rfl)) (w9 (qk (x:= .at (.int (c.hue:Int))) (w6 rfl rfl rfl)) ?_),(c.hue:Int),ti+d.rz la c.hue+c.len,done++[(c,ti+d.rz la c.hue,ti+d.rz la c.hue+c.len)],_,by rw [uQ];exact e1,λx hx=>e2 x (yK _ hx),by rw [yM];simp;omega,by omega,by omega,rfl⟩;rw [yy];exact Wl rfl rfl (by rw [yZ];omega)) t [.sh (u3 d.low),.sh (.lst (t.map Cl.pv)),.sh (.at (.int d.last)),.sh (.at (.int d.time)),.ow (.lst []),.no] ⟨d.last,d.time,[],.no,rfl,λc h=>h,by simp,ok.l1,ok.l2,rfl⟩
 obtain ⟨la,ti,done,s5,e1,_,_,_,_,rfl⟩:=rest;have e2:done=d.go d.last d.time t:=by have:done++[]=d.go d.last d.time t:=e1;rwa [yr] at this
 subst e2;exact t9 rfl (w9 (vR rfl) (w9 (jP rfl e') rfl))
theorem UR:∀{t:List Cl}{l s:Int},qz (t.map Cl.pv) ((d.go l s t).map enP)=(d.go l s t).map λr=>PV.tup [r.1.pv,enP r]
 |[],_,_=>rfl
 |c::t,l,s=>congrArg (_::·) (UR (t:=t))
theorem Km {k:z7}(h1:a ε=some (.dk ks xs))(h2:b ε=some y)(h3:qG y=some k)(h4:i0 k ks xs=some z):zu a b ε=some z:=by unfold zu;rw [h1,h2];show (qG y).bind _=_;rw [h3];exact h4
theorem Kn {k:z7}(h1:a ε=some (.dk ks xs))(h2:b ε=some y)(h3:qG y=some k)(h4:i0 k ks xs=some z):jJ b a ε=some (.at (.bl true)):=by unfold jJ;rw [h1,h2];show (qG y).bind _=_;rw [h3];show some (PV.at (.bl (i0 k ks xs).isSome))=_;rw [h4];rfl
theorem Kp {i:Nat}{ys:List PV}(h1:a ε=some (.lst ys))(h2:ε[i]?=some (.ow (.lst xs)))(h3:xs.length+ys.length<=lim):vI i a ε=some (.nx (ε.set i (.ow (.lst (xs++ys))))):=by unfold vI;rw [h1];show (match ε[i]? with|some (.ow (.lst xs))=>if xs.length+ys.length<=lim then some (Out.nx (ε.set i (.ow (.lst (xs++ys))))) else none|_=>none)=_;rw [h2];exact if_pos h3
theorem Mw {a b:List Str}(p:a.Perm b):qE a=qE b:=wJ ((wK a).trans p) (Uc a)
theorem CV :zK 6 (.lst (v7 ss)):=λx hx=>by
 obtain ⟨s,_,rfl⟩:=yt.mp hx;rfl
abbrev dE (d:Dr)(T:List (List Cl))(k:Nat)(s8:MSlot)(z:List Int)(nn:List Str)(s11 s12 s13:MSlot):ME:=[.sh (dlP T),.sh d.pv,.sh (.at (.int k)),.sh (u3 d.rss),.sh (.lst (d.cls.map Cl.pv)),.sh (.at (.int d.last)),.sh (.at (.int d.time)),.ow (.dk (keysOf d.cls) (d.cls.map Cl.pv)),s8,.ow (.lst (z.map o9)),.sh (.lst (v7 nn)),s11,s12,s13]
theorem Kf (ok:d.Ok)(T:List (List Cl)):(r6 d T).length=T.flatten.length:=by
 unfold r6;rw [List.length_flatMap,List.length_flatten]
 congr 1
 refine uD λt _=>?_;unfold qq;rw [yZ,Qj]
theorem Ld (ok:d.Ok)(x:Dealt d T k):Qu [dlP T,d.pv,.at (.int k)]=some (i6 (r6 d T)):=by
 have hlim:lim=1000000:=rfl;have ten:=ok.ten;have tl:=x.len;have k3:=x.k3;have fl:=x.perm.length_eq;obtain ⟨ε1,w1,done1,s8,e1,rfl⟩:=jm (g:=j9 8) (f:=dPut 7 (z5 w4 (x6 8) (dC (.int 0))) (q9 8)) Cl.pv (λl ε=>∃(done:List Cl)(s8:MSlot),done++l=d.cls/\ε=[.sh (dlP T),.sh d.pv,.sh (.at (.int k)),.sh (u3 d.rss),.sh (.lst (d.cls.map Cl.pv)),.sh (.at (.int d.last)),.sh (.at (.int d.time)),.ow (.dk (keysOf done) (done.map Cl.pv)),s8,.no,.no,.no,.no,.no]) (by
  rintro c l ε ⟨done,s8,e,rfl⟩;have hn:c.name∉done.map Cl.name:=λz=>by
   have nd:=ok.nd;rw [<- e,yy,yN] at nd;exact (uG.mp nd).2.2 _ z _ yH rfl
  have ln:=XL (α:=Unit) Cl.pv hn;have hd:done.length<=10:=by have:=congrArg List.length e;rw [yM] at this;omega
  refine ⟨_,_,rfl,?_,done++[c],.sh c.pv,by rw [<- e,uQ];rfl,rfl⟩;show (if (keysOf done).length<=lim then some (Out.nx [_,_,_,_,_,_,_,.ow (vw (.inr c.name) c.pv (keysOf done) (done.map Cl.pv)),_,_,_,_,_,_]) else none)=_;unfold vw;rw [if_pos (by unfold keysOf;rw [yZ];omega),ln];simp only [Option.isSome_none,uY,if_false];unfold keysOf;rw [yy,yy];rfl) d.cls _ ⟨[],.no,rfl,rfl⟩
 have e1':done1=d.cls:=by rwa [yr] at e1
 subst e1';have nmf:∀{t:List Cl},some (v7 (t.map Cl.name))=some (t.map λc=>PV.at (.str c.name)):=λ{t}=>by rw [nm_F]
 obtain ⟨ε2,w2,done2,s11,s12,s13,e2,rfl⟩:=jm (g:=j9 11) (f:=v3 (b9 (c7 (n5 (x9 qX (q8 (u8 [none,some 7] [0] (g0 (q9 11)) (j9 0) u6 (xi (x9 c8 (q8 (x6 0) (q8 (dC (.ty "str")) x0))) (jJ (x6 0) (x6 1)))) x0)))) (y3 (dC (.str "none"))) m4)
  (v3 (b7 10 (z5 k7 (x6 10) (x6 11)))
  (v3 (b7 12 (u8 [none,some 7] [0] (g0 (q9 11)) (j9 0) u6 (zu (x6 1) (x6 0))))
  (v3 (b7 13 (x9 wf (q8 (x9 zf (q8 (q9 3) x0)) (q8 (q9 12) (q8 (q9 5) (q8 (q9 6) x0))))))
  (vI 9 (u8 [none,none] [0,1] (vL (q8 (q9 12) (q8 (q9 13) x0))) (xD 2 (r9 (j9 0) (r9 (j9 1) xC))) u6 (z5 qH (x6 1) (z5 w4 (x6 0) (dC (.int 3)))))))))) m6
  (λl ε=>∃(done:List (List Cl))(s11 s12 s13:MSlot),done++l=T/\ε=dE d T k s8 (r6 d done) (done.flatten.map Cl.name) s11 s12 s13) (by
  rintro t l ε ⟨done,s11,s12,s13,e,rfl⟩;have ht:t∈T:=by rw [<- e];exact yp _ yH
  have L:=x.lst ok ht;have l10:=L.len ok;have dl:done.flatten.length+t.length<=10:=by
   have:T.flatten.length=done.flatten.length+(t.length+l.flatten.length):=by rw [<- e,List.flatten_append,yM,uK,yM]
   omega
  have gl:(d.go d.last d.time t).length=t.length:=Qj;refine ⟨dE d T k s8 (r6 d done) (done.flatten.map Cl.name) (.sh (m6 t)) s12 s13,dE d T k s8 (r6 d (done++[t])) ((done++[t]).flatten.map Cl.name) (.sh (m6 t)) (.sh (.lst (t.map Cl.pv))) (.sh (.lst ((d.go d.last d.time t).map enP))),rfl,?_,done++[t],_,_,_,by rw [uQ];exact e,rfl⟩;refine w9 (o3 (i9 (qg (j7 (v8 (f9 (λc:Cl=>PV.at (.str c.name)) (λ_=>PV.at (.bl true)) t nmf rfl (by omega) λc hc=>⟨_,rfl,zw (j7 rfl XC) (Kn rfl rfl rfl (Qp Cl.pv ok.nd c (L.sub c hc)))⟩) rfl) (zX _)))) o4) ?_;refine w9 (ε1:=dE d T k s8 (r6 d done) ((done++[t]).flatten.map Cl.name) (.sh (m6 t)) s12 s13) (qk (w6 rfl rfl ((Yd (by rw [zO,zO,yZ,yZ];omega)).trans ?_)) |>.trans rfl) ?_
  ·rw [List.flatten_append,yy,show ([t]:List (List Cl)).flatten=t by simp];unfold v7;rw [yy]
  refine w9 (qk (f9 (λc:Cl=>PV.at (.str c.name)) Cl.pv t nmf rfl (by omega) λc hc=>⟨_,rfl,Km rfl rfl rfl (Qp Cl.pv ok.nd c (L.sub c hc))⟩)) ?_;refine w9 (qk (j7 (v8 (j7 rfl (Lz ok.rin ok.h1 ok.h4)) (v8 rfl (v8 rfl (v8 rfl rfl)))) (Lh ok L))) ?_;refine (Kp (xs:=(r6 d done).map o9) (ys:=(qq (d.go d.last d.time t)).map o9) ((f9 (λr:Cl×Int×Int=>PV.tup [r.1.pv,enP r]) (λr=>o9 (XG r)) (d.go d.last d.time t) ?_ rfl (by omega) λr _=>⟨_,rfl,w6 rfl (w6 rfl rfl rfl) rfl⟩).trans ?_) rfl ?_).trans ?_
  ·show some (qz (t.map Cl.pv) ((d.go d.last d.time t).map enP))=_;rw [UR]
  ·unfold qq;rw [yq];rfl
  ·rw [yZ,yZ,Kf ok];unfold qq;rw [yZ];omega
  ·have eq:(r6 d (done++[t])).map o9=(r6 d done).map o9++(qq (d.go d.last d.time t)).map o9:=by unfold r6;rw [List.flatMap_append,yy];simp
   unfold dE;rw [eq];rfl) T (dE d T k s8 [] [] .no .no .no) ⟨[],.no,.no,.no,rfl,rfl⟩
 have e2':done2=T:=by rwa [yr] at e2
 subst e2';have c1:x9 qa (q8 (x6 0) x0) [.sh (dlP done2),.sh d.pv,.sh (.at (.int k)),.sh (u3 d.rss),.sh (.lst (d.cls.map Cl.pv)),.sh (.at (.int d.last)),.sh (.at (.int d.time)),.no,.no,.no,.no,.no,.no,.no]=some (.at (.int k)):=j7 rfl (by show some (PV.at (.int ((done2.map m6).length:Int)))=_;rw [yZ,tl]);refine t9 rfl (w9 (Kk (x:=d.pv) rfl rfl) (w9 (o3 (xl (i9 (qg (j7 rfl jQ))) (xl (p0 (v:=false) (w6 c1 rfl ((BW _ _).trans (by rw [yj rfl];rfl)))) (i9 (qg (j7 (v8 (f9 m6 (λ_=>PV.at (.bl true)) done2 rfl rfl (by omega) λt _=>⟨_,rfl,j7 rfl jQ⟩) rfl) (zX _)))))) o4) (w9 (vR rfl) (w9 (jP rfl w1) (w9 (vR rfl) (w9 (qk (x:= .lst []) rfl) (w9 (jP rfl w2) (w9 (o3 (p0 (v:=false) (w6 (x:= .lst (v7 (qE d.names))) (y:= .lst (v7 (qE d.names))) (j7 rfl ?_) ?_ (QI CV))) o4) (m5 (XQ rfl))))))))))
 ·show (zm (v7 (done2.flatten.map Cl.name))).bind _=_;rw [Uh,yE,if_pos (by rw [yZ];omega),Mw (x.perm.map Cl.name)];rfl
 ·show (xQ (keysOf d.cls)).bind _=_;rw [WG,yE,if_pos (by rw [yZ];omega)];rfl
end
theorem CU (T:List (List Cl)):zK 6 (dlP T):=λx hx=>by
 obtain ⟨t,_,rfl⟩:=yt.mp hx;intro y hy;obtain ⟨s,_,rfl⟩:=yt.mp hy;exact rfl
theorem GQ {d:Dr}(ok:d.Ok){S:List (List Str)}(p:S.flatten.Perm (d.cls.map Cl.name)):∃ T:List (List Cl),T.flatten.Perm d.cls/\S.map stP=T.map m6/\T.length=S.length:=by
 have ex:∀ s∈S.flatten,∃ c∈d.cls,c.name=s:=λs hs=>yt.mp (p.mem_iff.mp hs)
 open Classical in
 let f:Str->Cl:=λs=>if h:∃ c∈d.cls,c.name=s then h.choose else ⟨s,0,0,0,0⟩
 have f1:∀ s∈S.flatten,f s∈d.cls/\(f s).name=s:=λs hs=>by
  have h:=ex s hs;show (if h:∃ c∈d.cls,c.name=s then h.choose else ⟨s,0,0,0,0⟩:Cl)∈d.cls/\(if h:∃ c∈d.cls,c.name=s then h.choose else ⟨s,0,0,0,0⟩:Cl).name=s;rw [dif_pos h];exact h.choose_spec
 have inj:∀{cs:List Cl},(cs.map Cl.name).Nodup->∀ c∈cs,∀ e∈cs,c.name=e.name->c=e:=by
  intro cs
  induction cs with
  |nil=>intro _ c hc;cases hc
  |cons x cs ih =>
   intro nd c hc e he h;obtain ⟨n1,n2⟩:=yx.mp nd;rcases yL.mp hc with h1|h1
   ·rcases yL.mp he with h2|h2
    ·rw [h1,h2]
    ·exact absurd (yt.mpr ⟨e,h2,by rw [<- h,h1]⟩) n1
   ·rcases yL.mp he with h2|h2
    ·exact absurd (yt.mpr ⟨c,h1,by rw [h,h2]⟩) n1
    ·exact ih n2 c h1 e h2 h
 clear_value f
 refine ⟨S.map (·.map f),?_,?_,by rw [yZ]⟩
 ·have e1:(S.map (·.map f)).flatten=S.flatten.map f:=by rw [List.map_flatten]
  rw [e1];refine (p.map f).trans ?_;rw [yq];have:d.cls.map (f ∘ Cl.name)=d.cls:=by refine (uD λc hc=>?_).trans (List.map_id _);have:=f1 c.name (p.mem_iff.mpr (yt.mpr ⟨c,hc,rfl⟩));exact inj ok.nd _ this.1 c hc this.2
  rw [this]
 ·rw [yq];refine uD λs hs=>?_;show PV.lst (v7 s)=PV.lst (v7 ((s.map f).map Cl.name));rw [yq];have:s.map (Cl.name ∘ f)=s:=(uD λz hz=>(f1 z (List.mem_flatten.mpr ⟨s,hs,hz⟩)).2).trans (List.map_id _);rw [this]
theorem Bf {l:List Int}:c8 [i6 l,.at (.ty "bool")]=some (.at (.bl false)):=by unfold i6;split<;>(unfold c8 tyP;rfl)
abbrev jx:Stmt:=top 67
noncomputable abbrev Vn (K:Fg)(Aa:Addr):WS:=(wSeq (k4 1 (UH (wC K) vC (i7 (wP (q9 0)) (i7 (wP (dC (.int 6))) zR))))
  (wSeq (k4 2 (wP (x9 (jW Aa) (q8 (z5 w4 (x6 1) (dC (.int 0))) (q8 (z5 w4 (x6 1) (dC (.int 1))) (q8 (z5 w4 (x6 1) (dC (.int 2))) (q8 (z5 w4 (x6 1) (dC (.int 3))) x0)))))))
  (wSeq (k4 3 (wP (u8 [none] [0] (g0 (z5 w4 (x6 1) (dC (.int 1)))) (j9 0) u6 (z5 w4 (x6 0) (dC (.int 0))))))
  (wSeq (JC 4 (xU K) xK (i7 (wP (q9 0)) (i7 (wP (dC (.int 10))) zR)))
  (wSeq (wFor (wIp (xA (q8 (dC (.int 12)) x0))) (j9 5) (wSeq (k4 6 (k6 k7 (wP (dC (.int 1))) (g8 4 (wP (dC (.int 3))))))
  (wSeq (k4 7 (JA 4 QP wY (q9 3) (q9 6)))
  (wSeq (k4 8 (wP (x9 Qu (q8 (q9 7) (q8 (q9 1) (q8 (q9 6) x0))))))
  (wFor (wIp (g0 (n8 (q8 (q9 7) (q8 (Xs (x6 7)) (q8 (q9 7) x0)))))) (j9 9) (wSeq (k4 10 (wP (u8 [none] [0] (g0 (q9 9)) (j9 0) u6 (x9 ww (q8 (x6 0) x0)))))
  (wSeq (k4 11 (wP (x9 (wu Aa) (q8 (q9 2) (q8 (q9 9) x0)))))
  (xf (wPT (dOr (dT (z5 pNe (x6 11) (x6 8))) (dOr (n5 (x9 c8 (q8 (x6 11) (q8 (dC (.ty "bool")) x0)))) (dT (z5 pNe (x6 9) (x6 10)))))) (xg (wP (dC (.bl false)))) xI))))))))
  (xg (wP (dC (.bl true)))))))))
theorem sc_law:v9 ["script","drawn","works","names","stream","turn","vats","lists","due","handed","kept_as","told"] ["script"] (j6 jx):=y2
theorem KR {K:Fg}:∀ ns:List Int,ns.length<=63->Vn K Aa (.sh (scr K ns)::List.replicate ((["script","drawn","works","names","stream","turn","vats","lists","due","handed","kept_as","told"]:List Str).length-1) .no) (λ_=>False) λy _=>y = .at (.bl true):=by
 intro ns h63;have hlim:lim=1000000:=rfl;refine ⟨_,rfl,_,rfl,⟨ns,6,rfl,h63,by decide⟩,?_⟩;rintro _ ⟨d,m,z,ex,rfl,ok,hm⟩;have h6:d.cls.length<=6:=by injection ex with _ ex;injection ex with ex _;injection ex with ex;injection ex with ex;omega
 refine ⟨d.ob Aa,j7 (v8 (w6 rfl rfl rfl) (v8 (w6 rfl rfl rfl) (v8 (w6 rfl rfl rfl) (v8 (w6 rfl rfl rfl) rfl)))) (Lj ok),?_⟩;refine ⟨stP (d.cls.map Cl.name),(f9 Cl.pv (λc=>PV.at (.str c.name)) d.cls (vP (w6 rfl rfl rfl)) rfl (by omega) λc _=>⟨_,rfl,w6 rfl rfl rfl⟩).trans (by rw [<- nm_F];rfl),?_⟩;refine ⟨_,rfl,_,rfl,⟨ns,10,rfl,h63,by decide,by decide⟩,?_⟩;rintro _ ⟨n,rfl⟩;refine ⟨_,wG (k:=12) rfl (by decide),?_⟩;refine jU (λrest ε=>∃(n:Int)(s5 s6 s7 s8 s9 s10 s11:MSlot),ε=[.sh (scr K ns),.sh d.pv,.sh (d.ob Aa),.sh (stP (d.cls.map Cl.name)),g7 n,s5,s6,s7,s8,s9,s10,s11]) ?_ ?_ _ _ ⟨n,_,_,_,_,_,_,_,rfl⟩
 ·rintro ε ⟨n,s5,s6,s7,s8,s9,s10,s11,rfl⟩;exact ⟨.at (.bl true),rfl,rfl⟩
 ·rintro x rest ε ⟨n,s5,s6,s7,s8,s9,s10,s11,rfl⟩;have a0:0<=n % 3:=yz _ (by decide);have a1:n % 3<3:=yF _ (by decide);refine ⟨_,rfl,_,rfl,⟨n,rfl⟩,_,rfl,n,3,rfl,rfl,⟨by decide,by decide⟩,_,rfl,?_⟩;obtain ⟨k,hk⟩:=yf (show 0<=1+n % 3 by omega);rw [hk];refine ⟨_,_,rfl,rfl,⟨_,rfl⟩,⟨d.cls.map Cl.name,k,rfl,by rw [yZ];omega,by omega,by omega⟩,?_⟩;rintro _ n1 ⟨cs,k',S,e,rfl,pm,sl⟩;injection e with e1 e2;injection e1 with e1;injection e2 with e2 _;injection e2 with e2;injection e2 with e2;have ecs:d.cls.map Cl.name=cs:=Jm e1;subst ecs;obtain ⟨T,tp,eT,tlen⟩:=GQ ok pm;have X:Dealt d T k:=⟨tp,by omega,by omega,by omega⟩;rw [eT];have tl:=X.len;have k3:=X.k3;refine ⟨_,j7 rfl (Ld ok X),?_⟩;have XR:Dealt d T.reverse k:=⟨(List.reverse_perm T).flatten.trans tp,by rw [List.length_reverse];exact tl,X.k1,X.k3⟩;have eR:Xs (x6 7) [.sh (scr K ns),.sh d.pv,.sh (d.ob Aa),.sh (stP (d.cls.map Cl.name)),g7 n1,.sh x,.sh (.at (.int k)),.sh (dlP T),.sh (i6 (r6 d T)),s9,s10,s11]=some (dlP T.reverse):=by show some (PV.lst (T.map m6).reverse)=_;unfold dlP;rw [List.map_reverse]
  have sameR:i6 (vl d T.reverse)=i6 (r6 d T):=by
   rw [Jp];have pd:(r6 d T.reverse).Perm (r6 d T):=by unfold r6;exact (List.reverse_perm T).flatMap_right _
   unfold i6;by_cases h:r6 d T=[]
   ·rw [if_pos h,if_pos (by rw [h] at pd;exact pd.eq_nil)]
   ·have h':r6 d T.reverse≠[]:=λz=>h (by rw [z] at pd;exact pd.symm.eq_nil);rw [if_neg h,if_neg h']
    congr 2
    exact Int.le_antisymm (vc (pd.mem_iff.mp (jn h'))) (vc (pd.mem_iff.mpr (jn h)))
  refine ⟨[dlP T,dlP T.reverse,dlP T],vP (zx (v8 rfl (v8 eR (v8 rfl rfl))) l3),?_⟩;refine jU (λrest ε=>(∀ y∈rest,∃ U:List (List Cl),y=dlP U/\Dealt d U k/\i6 (vl d U)=i6 (r6 d T))/\∃(s9 s10 s11:MSlot),ε=[.sh (scr K ns),.sh d.pv,.sh (d.ob Aa),.sh (stP (d.cls.map Cl.name)),g7 n1,.sh x,.sh (.at (.int k)),.sh (dlP T),.sh (i6 (r6 d T)),s9,s10,s11]) ?_ ?_ _ _ ⟨λy hy=>(by
   simp only [yL,yi,or_false] at hy;rcases hy with rfl|rfl|rfl
   ·exact ⟨T,rfl,X,Jp⟩
   ·exact ⟨T.reverse,rfl,XR,sameR⟩
   ·exact ⟨T,rfl,X,Jp⟩),_,_,_,rfl⟩
  ·rintro ε ⟨_,s9,s10,s11,rfl⟩;exact ⟨n1,_,_,_,_,_,_,_,rfl⟩
  ·rintro y rest ε ⟨hy,s9,s10,s11,rfl⟩;obtain ⟨U,rfl,XU,eU⟩:=hy y yH;have ul:=XU.len;refine ⟨_,rfl,dlP U,f9 m6 m6 U rfl rfl (by omega) λt _=>⟨_,rfl,j7 rfl rfl⟩,?_⟩;refine ⟨_,j7 rfl ((v_vat ok h6 XU).trans (by rw [eU])),?_⟩;exact Xa (xl (p0 (v:=false) (w6 rfl rfl (QI CW))) (xl (qg (j7 rfl Bf)) (p0 (v:=false) (w6 rfl rfl (QI (CU U)))))) ⟨λy hy'=>hy y (yK _ hy'),_,_,_,rfl⟩
theorem PN (F:Fun K "law" "law" jx f fd)(Ej:Fn P w K mg base 2 "_law_dealing" ["names","vats","stream"] (spE QP wY))(B7:Fn P w K mg base 3 "_law_dealt_late" ["found","drawn","vats"] (j5 Qu))(Aq:Fn P w K mg base 2 "_law_stream" ["script","k"] (spN (xU K) xK))(Ae:Fn P w K mg base 1 "_law_take" ["stream","many"] zl)(Ax:Fn P w K mg base 7 "vat_lateness" ["works","dealing"] (j5 (wu Aa)))(E4:Fn P w K mg base 4 "_law_works" ["script","most"] (spV (wC K) vC))(Eh:mg "bool"=none)(Ab:mg "isinstance"=none)(Ag:mg "list"=none)(Ad:mg "range"=none)(Ea:mg "reversed"=none)(E2:mg "Works"=some (.ref Aa))(E8:Mkr P w K mg base 5 Aa ["self","rinses","cloths","last","time"] (spI Aa (jW Aa))):FnOk P w K mg base j8 8 f fd ["script"] (wL K) :=
 okL (k:=7) (b:=Vn K Aa) F sc_law (λcdv A outer s H E hr=>⟨_,(z9 (sW 1 sc_law.nd (fW E4 hr (aC (pv 0) (aW x8))))
  (z9 (sW 2 sc_law.nd (pe_mk E8 hr (by decide) rfl E2 (aC (iW (K:=K) rfl (pv 1) x8) (aC (iW (K:=K) rfl (pv 1) x8) (aC (iW (K:=K) rfl (pv 1) x8) (aW (iW (K:=K) rfl (pv 1) x8)))))))
  (z9 (zh (i:=3) (N':=["cloth"]) (cap:=[none]) (p9 rfl rfl rfl) rfl sc_law.nd rfl rfl (@c3 _ K _ _ _ rfl (iW (K:=K) rfl (pv 1) x8)) (λ_ _ _ _ _ _=>(u5 (i:=0) (by show (["cloth"]:List Str).Nodup;decide +kernel) rfl (Or.inl rfl))) (λ_ _ _ _ _ _=>m9) (λ_ _ _ _ _ _=>(iW (K:=K) rfl (pv 0) x8)))
  (z9 (sW 4 sc_law.nd (fW Aq hr (aC (pv 0) (aW x8))))
  (z9 (qy PassesOwn.never rfl (xF rfl Ad (aW x8)) (gW 5 sc_law.nd)
   (z9 (sW 6 sc_law.nd (v5 (o6 (K:=K) rfl) x8 (fW Ae hr (aC (pv 4) (aW x8)))))
  (z9 (sW 7 sc_law.nd (fW Ej hr (aC (pv 3) (aC (pv 6) (aW (pv 4))))))
  (z9 (sW 8 sc_law.nd (fW B7 hr (aC (pv 7) (aC (pv 1) (aW (pv 6))))))
  (j4 (@qy _ _ _ _ _ _ _ _ PassesOwn.never rfl (@c3 _ K _ _ _ rfl (@qm _ _ _ _ (aC (pv 7) (aC (CF (K:=K) rfl rfl rfl Ag rfl Ea (pv 7) rfl) (aW (pv 7)))))) (gW 9 sc_law.nd)
   (z9 (zh (i:=10) (N':=["some"]) (cap:=[none]) (p9 rfl rfl rfl) rfl sc_law.nd rfl rfl (@c3 _ K _ _ _ rfl (pv 9)) (λ_ _ _ _ _ _=>(u5 (i:=0) (by show (["some"]:List Str).Nodup;decide +kernel) rfl (Or.inl rfl))) (λ_ _ _ _ _ _=>m9) (λ_ _ _ _ _ _=>(wy (Xk (K:=K) rfl) rfl Ag xL (aW (pv 0)))))
  (z9 (sW 11 sc_law.nd (fW Ax hr (aC (pv 2) (aW (pv 9)))))
  (j4 (c4 (PW.pt (xu (t6 (jp (K:=K) (hu6 hr) rfl) (pv 11) (pv 8) (m7 _)) (xu (qb (K:=K) rfl (y4 (qS (K:=K) rfl) rfl Ab qR (aC (pv 11) (aW (qZ (v:= .ty "bool") rfl Eh VI rfl)))) (λ_=>rfl)) (zi (t6 (jp (K:=K) (hu6 hr) rfl) (pv 9) (pv 10) (m7 _)))))) (j4 (y1 zI)) c5)))) (by intro _;rfl)))))))
  (j4 (y1 zI))))))),
  (by repeat' first|infer_instance|(refine @Mi.instSemWSTSeqWSeq _ _ _ _ ?_ ?_)|(apply @Mi.instSemWSTForWForOfSemWIOfSemWG))⟩) KR
theorem Gh {K:Fg}{fd:FuncData}{T:Addr}{ob:Obj}{items:Array Value}(hd:fd.defaults = .ref T)(q:K.lookup T=some ob)(hs:ob.data = .seq items n)(h:∀ us:List Value,us.length=ps.length->∃ k:Option (Array Value)->Sem (List (Str×Value)),bindArgs fd ⟨us,[]⟩=seqItems? fd.defaults >>= k/\k (some items)=pure (ps.zip us)):Binds K fd ps []:=λs us X hl=>by
 rw [yr] at hl ⊢;obtain ⟨k,e1,e2⟩:=h us hl;exact BindsTo.of_defaults hd (X _ _ q) hs e1 e2
abbrev so (f:Addr):Option (Option Value):=some (some (.ref f))
abbrev fO (oc:Value)(od:Option Addr)(x q:Str)(st:Stmt)(dV kV dc pm:Value)(an:Option Addr)(cd ct:Value)(sl:Array (Option Value)):Option Obj:=some ⟨oc,od,.func (PySem.W.fnOf x q (qT st) (f6 st) (j6 st) dV kV dc pm an cd ct),sl⟩
theorem fnM (P:Program)(w:World)(base:Heap){K:Fg}{mg:Str->Option Value}{k:Nat}{f:Addr}{fd:FuncData}{sp:Sp}(h:FnOk P w K mg base j8 k f fd ps sp)(a:mg x=some (.ref f))(kp:PySem.W.keepIn K (.ref f)=true)(b:Binds K fd ps []):Fn P w K mg base k x ps sp:=⟨f,fd,h,a,kp,b⟩
theorem bi1 {K:Fg}{f:Addr}{fd:FuncData}{p:Str}(F:Fun K x qual st f fd)(h:∀(kV doc pm:Value)(an:Option Addr)(cdv ct u:Value),bindArgs (PySem.W.fnOf x qual (qT st) (f6 st) (j6 st) .none kV doc pm an cdv ct) ⟨[u],[]⟩=pure [(p,u)]):Binds K fd [p] []:=F.binds λa b c d e g us hl=>match us,hl with|[_],_=>h a b c d e g _
theorem bi2 {K:Fg}{f:Addr}{fd:FuncData}{p:Str}(F:Fun K x qual st f fd)(h:∀(kV doc pm:Value)(an:Option Addr)(cdv ct u v:Value),bindArgs (PySem.W.fnOf x qual (qT st) (f6 st) (j6 st) .none kV doc pm an cdv ct) ⟨[u,v],[]⟩=pure [(p,u),(q,v)]):Binds K fd [p,q] []:=F.binds λa b c d e g us hl=>match us,hl with|[_,_],_=>h a b c d e g _ _
structure Zt (P:Program)(w:World)(K:Fg)(mg:Str->Option Value)(base h:Heap):Prop where
 X:K.In h
 G:h.Ns mainGlobals mg
def FG (K:Fg)(x:Str)(st:Stmt):Prop:=∃ f oc od kV dc pm an cd ct sl,PySem.W.nsIn K mainGlobals x=so f/\K.lookup f=fO oc od x x st .none kV dc pm an cd ct sl/\PySem.W.codeIn K cd x=true/\PySem.W.keepIn K (.ref f)=true
theorem FG.i {K:Fg}{f:Addr}{kV:Value}(a:PySem.W.nsIn K mainGlobals x=so f)(l:K.lookup f=fO oc od x x st .none kV dc pm an cd ct sl)(c:PySem.W.codeIn K cd x=true)(k:PySem.W.keepIn K (.ref f)=true):FG K x st:=⟨_,_,_,_,_,_,_,_,_,_,a,l,c,k⟩
def FM (K:Fg)(C:Addr)(x q:Str)(st:Stmt):Prop:=∃ f oc od kV dc pm an cd ct sl,PySem.W.findIn K (.ref C) x=so f/\PySem.W.isFn K (.ref f)=true/\K.lookup f=fO oc od x q st .none kV dc pm an cd ct sl/\PySem.W.codeIn K cd q=true/\PySem.W.keepIn K (.ref f)=true
theorem FM.i {K:Fg}{C:Addr}{f:Addr}{kV:Value}(a:PySem.W.findIn K (.ref C) x=so f)(i:PySem.W.isFn K (.ref f)=true)(l:K.lookup f=fO oc od x q st .none kV dc pm an cd ct sl)(c:PySem.W.codeIn K cd q=true)(k:PySem.W.keepIn K (.ref f)=true):FM K C x q st:=⟨_,_,_,_,_,_,_,_,_,_,a,i,l,c,k⟩
abbrev BdA (x q:Str)(st:Stmt)(ps:List Str):Prop:=∀(kV doc pm:Value)(an:Option Addr)(cdv ct:Value)(us:List Value),us.length=ps.length->bindArgs (PySem.W.fnOf x q (qT st) (f6 st) (j6 st) .none kV doc pm an cdv ct) ⟨us,[]⟩=pure (ps.zip us)
section
variable {P:Program}{w:World}{K:Fg}{mg:Str->Option Value}{base h:Heap}{k:Nat}{ps:List Str}{sp:Sp}{x q:Str}{st:Stmt}{C:Addr}
theorem fG (Z:Zt P w K mg base h)(a:FG K x st)(H:∀{f fd},Fun K x x st f fd->FnOk P w K mg base j8 k f fd ps sp)(b:BdA x x st ps:=by intro _ _ _ _ _ _ us hl;first|exact (match us,hl with|[_],_=>rfl)|exact (match us,hl with|[_,_],_=>rfl)|exact (match us,hl with|[_,_,_],_=>rfl)|exact (match us,hl with|[_,_,_,_],_=>rfl)|exact (match us,hl with|[_,_,_,_,_],_=>rfl)):Fn P w K mg base k x ps sp:=by obtain ⟨f,oc,od,kV,dc,pm,an,cd,ct,sl,a,l,c,kp⟩:=a;exact ⟨f,_,H (vT l c kp),PySem.W.mg_of Z.X Z.G a,kp,(vT l c kp).binds b⟩
theorem fM (Z:Zt P w K mg base h)(kc:xx K C)(a:FM K C x q st)(H:∀{f fd},Fun K x q st f fd->FnOk P w K mg base j8 k f fd ps sp)(b:BdA x q st ps:=by intro _ _ _ _ _ _ us hl;first|exact (match us,hl with|[_],_=>rfl)|exact (match us,hl with|[_,_],_=>rfl)|exact (match us,hl with|[_,_,_],_=>rfl)|exact (match us,hl with|[_,_,_,_],_=>rfl)|exact (match us,hl with|[_,_,_,_,_],_=>rfl)):Mt P w K mg base k C x ps sp:=by obtain ⟨f,oc,od,kV,dc,pm,an,cd,ct,sl,a,i,l,c,kp⟩:=a;exact ⟨f,_,H (vT l c kp),⟨a,i,kp⟩,kc.c,(vT l c kp).binds b⟩
end
theorem all_mk {l:PySem.W.OpenLaw}{w:World}{K:Fg}{h:Heap}{mg:Str->Option Value}{fa f44 f49:Addr}{od44 od49 an44 an49:Option Addr}{sl44 sl49:Array (Option Value)}{oc44 oc49 kV44 kV49 dc44 dc49 pm44 pm49 ct44 ct49 cd44 cd49:Value}{T44:Addr}{qc44 qv44_0 qv44_1:Value}{qd44:Option Addr}{qn44:Nat}{qs44:Array (Option Value)}(X:K.In h)(TT:∀ P∈[],h.get? P=some (PySem.W.tabObj #[]))(hTB:TABS=[])(G:h.Ns mainGlobals mg)(hfa:mg "law"=some (.ref fa))(J3:W.nsIn K mainGlobals "Works"=some (some (.ref Aa)))(Ir:PySem.W.plainGet K Aa Str.empty=true)(Iu:PySem.W.hasDictIn K Aa=true)(Ik:PySem.W.plainOver K Aa=true)(Ij:W.findIn K (.ref Aa) "__setattr__"=some (some (.builtin "object.__setattr__")))(Il:PySem.W.makesIn K Aa=true)(Iw:W.keepIn K (.ref Aa)=true)(Et:W.findIn K (.ref Aa) "given"=some none)(E6:W.findIn K (.ref Aa) "held"=some none)(E7:W.findIn K (.ref Aa) "last"=some none)(Es:W.findIn K (.ref Aa) "least"=some none)(Ez:W.findIn K (.ref Aa) "time"=some none)(a0:FG K "_law_mixed" ZW)(a1:FG K "_law_take" Jd)(a2:FG K "_law_stream" QT)(a3:FG K "_law_rinses" ZZ)(a4:FG K "_law_name" ZX)(a5:FG K "_law_cloth" ZA)(a6:FG K "_law_works" Jh)(a7:FG K "_law_sums" Jb)(a8:FG K "is_whole" ZO)(a9:FG K "name_of" ZY)(a10:FG K "hue_of" ZI)(a11:FG K "length_of" ZU)(a12:FG K "due_of" ZE)(a13:FG K "weight_of" Jg)(a14:FG K "is_from" ZK)(a15:FG K "is_name" ZL)(a16:FG K "is_cloth" ZJ)(a17:FG K "is_rinse_row" ZN)(a18:FG K "check_rinses" Zx)(a19:FG K "straight_ways" Ja)(a20:FG K "joined" ZP)(a21:FG K "lesser" ZV)(a22:FG K "ways_through" Jf)(a23:FG K "least_ways" ZT)(a24:FG K "sums_of" Jc)(a25:FG K "least_rinses" ZS)(a26:FG K "check_start" Zy)(a27:FG K "check_cloths" Zu)(a28:FM K Aa "hues" "Works.hues" Zn)(a29:FM K Aa "tray_rinse" "Works.tray_rinse" Zr)(a30:FM K Aa "rinse" "Works.rinse" Zp)(a31:FM K Aa "start" "Works.start" Zq)(a32:FM K Aa "names" "Works.names" Zo)(a33:FM K Aa "cloth" "Works.cloth" Zm)(a34:FG K "late_by" ZQ)(a35:FG K "are_names" Zs)(a36:FG K "check_names" Zw)(a37:FG K "done_rows" ZD)(a38:FG K "ended_cloths" ZF)(a39:FG K "lateness" ZR)(a40:FG K "is_plan" ZM)(a41:FG K "check_vats" Zz)(a42:FG K "check_dealing" Zv)(a43:FG K "vat_lateness" Je)(a44:W.findIn K (.ref Aa) "__init__"=so f44)(i44:W.isFn K (.ref f44)=true)(l44:K.lookup f44=fO oc44 od44 "__init__" "Works.__init__" jw (.ref T44) kV44 dc44 pm44 an44 cd44 ct44 sl44)(c44:W.codeIn K cd44 "Works.__init__"=true)(k44:W.keepIn K (.ref f44)=true)(q44:K.lookup T44=some ⟨qc44,qd44,.seq #[qv44_0,qv44_1] qn44,qs44⟩)(a45:FG K "_law_gap" ZH)(a46:FG K "_law_ends" ZG)(a47:FG K "_law_dealt_late" ZC)(a48:FG K "_law_dealing" ZB)(a49:W.nsIn K mainGlobals "law"=so f49)(l49:K.lookup f49=fO oc49 od49 "law" "law" jx .none kV49 dc49 pm49 an49 cd49 ct49 sl49)(c49:W.codeIn K cd49 "law"=true)(k49:W.keepIn K (.ref f49)=true)(Nb:W.nsIn K mainGlobals "all"=some none)(J4:W.nsIn K mainGlobals "bool"=some none)(J5:W.nsIn K mainGlobals "dict"=some none)(Ia:W.nsIn K mainGlobals "enumerate"=some none)(J8:W.nsIn K mainGlobals "int"=some none)(E1:W.nsIn K mainGlobals "isinstance"=some none)(Nd:W.nsIn K mainGlobals "len"=some none)(J6:W.nsIn K mainGlobals "list"=some none)(J7:W.nsIn K mainGlobals "max"=some none)(Ng:W.nsIn K mainGlobals "min"=some none)(J2:W.nsIn K mainGlobals "range"=some none)(Ih:W.nsIn K mainGlobals "reversed"=some none)(Nf:W.nsIn K mainGlobals "set"=some none)(Ii:W.nsIn K mainGlobals "sorted"=some none)(Na:W.nsIn K mainGlobals "str"=some none)(Nc:W.nsIn K mainGlobals "sum"=some none)(J0:W.nsIn K mainGlobals "tuple"=some none)(J9:W.nsIn K mainGlobals "zip"=some none)(Ep:W.nsIn K mainGlobals "LONGEST_NAME"=some (some (.int 8 A5)))(Er:W.nsIn K mainGlobals "MOST_CLOTHS"=some (some (.int 10 B0)))(E3:W.nsIn K mainGlobals "MOST_DEALT"=some (some (.int 6 B9)))(E9:W.nsIn K mainGlobals "MOST_HUES"=some (some (.int 4 D4)))(Ib:W.nsIn K mainGlobals "MOST_VATS"=some (some (.int 3 D7)))(J1:W.nsIn K mainGlobals "PARTS"=some (some (.int 5 Ey))):∃ fd:FuncData,(∀ (s:Shared) (v:Value),BindsTo s fd ⟨[v],[]⟩ [("script",v)])/\jI K h/\∀ base:Heap,K.In base->base.Ns mainGlobals mg->FnOk l.prog w K mg base j8 8 fa fd ["script"] (wL K):=by
 have e:=hfa.symm.trans (W.mg_of X G a49);cases e;have Ao:=W.mg_none_of X G Nb;have Eh:=W.mg_none_of X G J4;have Ic:=W.mg_none_of X G J5;have D3:=W.mg_none_of X G Ia;have Iv:=W.mg_none_of X G J8;have Ab:=W.mg_none_of X G E1;have Ac:=W.mg_none_of X G Nd;have Ag:=W.mg_none_of X G J6;have Ed:=W.mg_none_of X G J7;have Ev:=W.mg_none_of X G Ng;have Ad:=W.mg_none_of X G J2;have Ea:=W.mg_none_of X G Ih;have Iq:=W.mg_none_of X G Nf;have A6:=W.mg_none_of X G Ii;have Ee:=W.mg_none_of X G Na;have El:=W.mg_none_of X G Nc;have E5:=W.mg_none_of X G J0;have Eu:=W.mg_none_of X G J9;have Aw:=W.mg_of X G Ep;have A7:=W.mg_of X G Er;have B8:=W.mg_of X G E3;have D1:=W.mg_of X G E9;have D6:=W.mg_of X G Ib;have Ex:=W.mg_of X G J1;have E2:=W.mg_of X G J3;have D8:xx K Aa:=⟨⟨Ir,Iu,Ik,Ij⟩⟩;have Io:NoA K Aa "given":=⟨Et⟩;have Ix:NoA K Aa "held":=⟨E6⟩;have Iy:NoA K Aa "last":=⟨E7⟩;have Ip:NoA K Aa "least":=⟨Es⟩;have Iz:NoA K Aa "time":=⟨Ez⟩;have F44:=KA (st:=jw) l44 c44 k44;have F49:=vT (st:=jx) l49 c49 k49;have b44:Binds K (W.fnOf "__init__" "Works.__init__" (qT jw) (f6 jw) (j6 jw) (.ref T44) kV44 dc44 pm44 an44 cd44 ct44) ["self","rinses","cloths","last","time"] []:=Gh (T:=T44) rfl q44 rfl λus hl=>match us,hl with|[_,_,_,_,_],_=>⟨_,rfl,rfl⟩
 have TK:jI K h:=by refine ⟨λp hp=>?_,λp hp=>?_,λp hp q hq=>?_,λp hp=>?_,λp hp q hq e=>?_,λp hp=>?_⟩<;>rw [hTB] at hp<;>cases hp
 refine ⟨W.fnOf "law" "law" (qT jx) (f6 jx) (j6 jx) .none kV49 dc49 pm49 an49 cd49 ct49,λs v=> .of_eq rfl,TK,λbase _ _=>?_⟩;have Z:Zt l.prog w K mg base h:=⟨X,G⟩;have Ec:=fG Z a0 λF=>PX F;have Ae:=fG Z a1 λF=>Cg F;have Aq:=fG Z a2 λF=>Cc F Ec Ac Ad El;have Eo:=fG Z a3 λF=>Ca F Ae Ad;have Id:=fG Z a4 λF=>PY F Ae Ac Ad;have Ew:=fG Z a5 λF=>Po F Id Ae;have E4:=fG Z a6 λF=>Ck F Ew Eo Aq Ae Ev Ad;have Ie:=fG Z a7 λF=>Ce F Ac Ag Ev Ad;have Ah:=fG Z a8 λF=>PJ F Eh Iv Ab;have Ai:=fG Z a9 λF=>PZ F;have Ap:=fG Z a10 λF=>Py F;have An:=fG Z a11 λF=>PR F;have B5:=fG Z a12 λF=>Pt F;have D2:=fG Z a13 λF=>Cj F;have Ak:=fG Z a14 λF=>PB F Ah;have Ef:=fG Z a15 λF=>PD F Ao Ab Ac Ee Aw;have D9:=fG Z a16 λF=>Pz F B5 Ap Ak Ef Ah An Ai D2 Ab Ac E5 Ex;have A3:=fG Z a17 λF=>PH F Ah Ao Ab Ac Ag;have Au:=fG Z a18 λF=>Pl F A3 Ao Ab Ac Ag D1;have As:=fG Z a19 λF=>Cb F D3;have En:=fG Z a20 λF=>PK F;have Em:=fG Z a21 λF=>PU F;have A4:=fG Z a22 λF=>Ci F En Em Eu;have B6:=fG Z a23 λF=>PQ F As A4 Ac Ad;have Ei:=fG Z a24 λF=>Cf F;have Ay:=fG Z a25 λF=>PP F Au B6 Ei;have B3:=fG Z a26 λF=>Pm F Ak;have Av:=fG Z a27 λF=>Pi F D9 Ai Ac A7;have At:=fM (sp:=(j5 (jV Aa))) Z D8 a28 λF=>Pb F Ac;have Al:=fM (sp:=(j5 (vZ Aa))) Z D8 a29 λF=>Pg F;have B4:=fM (sp:=(j5 (jX Aa))) Z D8 a30 λF=>Pe F Al;have A9:=fM (sp:=(j5 (vY Aa))) Z D8 a31 λF=>Pf F;have Af:=fM (sp:=(o8 (zb Aa))) Z D8 a32 λF=>Pd F A6;have Aj:=fM (sp:=(j5 (zE Aa))) Z D8 a33 λF=>Pa F Ab Ee;have Eg:=fG Z a34 λF=>PL F B5;have Am:=fG (sp:=(j5 (zc Aa))) Z a35 λF=>Ph F Ao Ab Ac Ag Iq Af;have A8:=fG (sp:=(j5 (wb Aa))) Z a36 λF=>Pk F Am;have D5:=fG (sp:=(o8 (jY Aa))) Z a37 λF=>Ps F A8 Ap An Aj B4 A9;have Az:=fG (sp:=(o8 (we Aa))) Z a38 λF=>Pu F D5 Aj;have Eb:=fG (sp:=(j5 (wo Aa))) Z a39 λF=>PM F Az Eg Ed;have Ek:=fG (sp:=(j5 (wj Aa))) Z a40 λF=>PF F Am Ac Af;have D0:=fG (sp:=(j5 (wc Aa))) Z a41 λF=>Pn F Ah Ac B8 D6 Af;have Ar:=fG (sp:=(j5 (wa Aa))) Z a42 λF=>Pj F D0 Ek Ao Ab Ac Ag El;have Ax:=fG (sp:=(j5 (wu Aa))) Z a43 λF=>Ch F Ar Eb Ed;have E8:Mkr l.prog w K mg base _ Aa _ (spI Aa (jW Aa)):=⟨_,_,Pc F44 Av B3 Ay Ai Ic Ag At,⟨Il,a44,i44,Iw⟩,b44⟩;have Im:=fG Z a45 λF=>Px F;have Ig:=fG Z a46 λF=>Pw F Im;have B7:=fG Z a47 λF=>Pr F Ig Ie Ao Ab Ac Ag Ed A6 Ee Eu;have Ej:=fG Z a48 λF=>Pq F Ae Ac Ad;exact PN F49 Ej B7 Aq Ae Ax E4 Eh Ab Ag Ad Ea E2 E8
theorem walk {l:PySem.W.OpenLaw}{q:Program}{loose:List Str}{XP:(Str->Option Value)->Heap->Prop}{YP:World->Heap->Prop}{d:DefRec}{K:Params->Fg}(hn:l.most=some 63)(hdf:d.params.defaults=[])(hY:∀ (w:World) (h:Heap),YP w h->(K w.params).In h)(F:∀ (w:World) (mg:Str->Option Value) (fa:Addr) (h:Heap),YP w h->(K w.params).In h->h.Ns mainGlobals mg->mg d.name=some (.ref fa) -> ∃ fd:FuncData,(∀ (s:Shared) (u:Value),BindsTo s fd ⟨[u],[]⟩ [("script",u)])/\jI (K w.params) h/\∀ base:Heap,(K w.params).In base->base.Ns mainGlobals mg->FnOk l.prog w (K w.params) mg base j8 8 fa fd ["script"] (wL (K w.params))):PySem.W.WalkO q loose XP YP l.row.toRowW d [] (λf vs=>PySem.call f vs) :=
 L2.LE (n:=63) (k:=8) (x:="script") (CX:=λ_=>j8) (sp:=λw=>wL (K w.params)) hn (by decide) hdf ⟨rfl,by decide,by decide⟩ hY F (λ_ _ a ns hl _ hS=>⟨a,ns,rfl,hS,hl,λ_=>rfl⟩) λ_ _ _ _ _ z=>z
end Lw
open PySem PySem.W PyProof.Rows
set_option maxRecDepth 100000 in
set_option maxHeartbeats 0 in
theorem PySem.Challenge.cw_rinsework_k73_vats_told_holds : PySem.Challenge.rw_rinsework_k73_vats_told.Holds := by
  w_on; o_law; k_head; (case hw => w_witness2)
  k_fill
  refine Lw.walk (l := PySem.Challenge.rw_rinsework_k73_vats_told) rfl rfl (λw h Y => PySem.W.kIn_of Y) ?F
  case F =>
    intro w mg fa h Y KX G hmg
    apply Lw.all_mk KX (λ_ z => nomatch z) rfl G hmg
    iterate 12 k_is
    iterate 28 (apply Lw.FG.i;iterate 4 k_is)
    iterate 6 (apply Lw.FM.i;iterate 5 k_is)
    iterate 10 (apply Lw.FG.i;iterate 4 k_is)
    iterate 6 k_is
    iterate 4 (apply Lw.FG.i;iterate 4 k_is)
    iterate 28 k_is
