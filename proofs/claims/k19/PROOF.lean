import PyProof.Rows.All
import Wide.All
import OpenK.AllK
import Wide.FinOn
import Lean
import PyProof.EqAt
import PyProof.EqKinds
import PyProof.NeKinds
import PyProof.TupleCall
import PySem.Challenge.RW_rinsework_k19_moves_refused
set_option Elab.async false
set_option linter.all false
set_option maxRecDepth 100000
namespace PySem.W.Fast
theorem tw13271975600831751872:True:=trivial
theorem tw7708012249843668803:True:=trivial
theorem tw13644605546904780740:True:=trivial
theorem tw17859807975658825200:True:=trivial
theorem tw16717830673529266102:True:=trivial
theorem tw4779566377395082391:True:=trivial
theorem tw7511557157617726137:True:=trivial
theorem tw889221248801750042:True:=trivial
theorem tw16699365147478085467:True:=trivial
end PySem.W.Fast
abbrev yZ:=@List.size_toArray
abbrev yY:=@Bool.false_ne_true
abbrev yW:=@PySem.wpAny_bind
abbrev yV:=@PySem.Heap.get?_push_of_some
abbrev yU:=@PySem.Heap.lt_size
abbrev yT:=@Nat.le_refl
abbrev yS:=@List.getElem?_set
abbrev yR:=@List.length_map
abbrev yQ:=@Nat.lt_of_lt_of_le
abbrev yP:=@Nat.ne_of_lt
abbrev yO:=@List.getElem?_map
abbrev yN:=@List.mem_append_right
abbrev yM:=@PySem.wpAny_pure
abbrev yL:=@List.mem_cons_of_mem
abbrev yK:=@List.mem_cons
abbrev yJ:=@List.length_append
abbrev yI:=@List.getElem?_set_ne
abbrev yH:=@List.getElem?_eq_some_iff
abbrev yG:=@List.getElem_toArray
abbrev yF:=@List.mem_singleton
abbrev yE:=@List.mem_append
abbrev yD:=@List.length_set
abbrev yC:=@List.length_cons
abbrev yB:=@List.mem_append_left
abbrev yA:=@Option.map_eq_some_iff
abbrev yz:=@PySem.Heap.get?_push_size
abbrev yy:=@List.mem_cons_self
abbrev yx:=@PySem.Heap.get?_none_of_le
abbrev yw:=@List.append_nil
abbrev yv:=@Int.emod_lt_of_pos
abbrev yu:=@List.lookup_cons
abbrev yt:=@Nat.le_trans
abbrev yr:=@List.getElem?_eq_getElem
abbrev yq:=@Int.emod_nonneg
abbrev yp:=@List.length_take
abbrev yo:=@PySem.Heap.get?_update_other
abbrev yn:=@List.mem_filterMap
abbrev ym:=@Bool.and_eq_true
abbrev yk:=@decide_eq_false
abbrev yj:=@Nat.lt_irrefl
abbrev yi:=@Option.bind_some
abbrev yh:=@List.not_mem_nil
abbrev yg:=@List.getElem?_append_left
abbrev yf:=@List.drop_eq_getElem_cons
abbrev ye:=@Option.map_some
abbrev yd:=@Int.eq_ofNat_of_zero_le
abbrev yc:=@List.length_drop
abbrev yb:=@List.all_eq_true
abbrev ya:=@List.nodup_cons
abbrev uZ:=@List.getElem?_append_right
abbrev uY:=@Array.getElem?_eq_some_iff
abbrev uX:=@List.mem_range
abbrev uW:=@List.drop_length
abbrev uV:=@List.getElem?_replicate
abbrev uU:=@List.getElem?_set_self
abbrev uT:=@Nat.zero_le
abbrev uS:=@PySem.Heap.get?_update_self
abbrev uR:=@Option.getD_none
namespace L2
abbrev Fg:=PySem.W.Frag
end L2
namespace L2
open PySem PySem.Spec PyProof.Rows
variable{us:List Value}{C a b dx it:Addr}{P:Program}{w:World}{base h:Heap}{u:Value}{g':Array GenState}{j k n t':Nat}{d':Drawn}{ch fp:List Addr}{qual x:Str}{e l tg:Expr}{N ps:List Str}{A:Around}{E Q:Value->Shared->Prop}{s':Shared}{α:Type}{pins:List (Addr×Obj)}{pos:Pos}{K:Fg}{f:Value->Value->Sem Value}{es:List Expr}{lo:Int}{body:List Stmt}{op:CmpOp}{mA mg:Str->Option Value}{kw:List (Str×Value)}{fd:FuncData}{outer:List Env}{scope:Scope}
abbrev u6:=Sum Int Str
def wp:u6->Value->Bool
 | .inl k,v=>Value.isInt k v
 | .inr x,v=>Value.isStrOf x v
def keyH (w:World):u6->Int
 | .inl k=>hashInt k
 | .inr x=>hashStr w x
theorem ql:∀{k:u6}{v:Value},wp k v=true->(∃ i t,k=Sum.inl i/\v=Value.int i t)∨(∃ x t,k=Sum.inr x/\v=Value.str x t)
 | .inl i,v,h=>by
  obtain ⟨t,e⟩:=Value.isInt_shape (k:=i) (v:=v) h;exact .inl ⟨i,t,rfl,e⟩
 | .inr x,v,h=>by
  obtain ⟨t,e⟩:=Value.isStrOf_shape (x:=x) (v:=v) h;exact .inr ⟨x,t,rfl,e⟩
theorem Zf (a b:Int):decide ((Sum.inl a:u6)=Sum.inl b)=(a==b):=by
 by_cases e:a=b
 ·subst e;simp
 ·have h:¬ (Sum.inl a:u6)=Sum.inl b:=λq=>e (Sum.inl.inj q);rw [yk h];exact (beq_eq_false_iff_ne.mpr e).symm
theorem Zi (a b:Str):decide ((Sum.inr a:u6)=Sum.inr b)=decide (a=b):=by
 by_cases e:a=b
 ·subst e;simp
 ·have h:¬ (Sum.inr a:u6)=Sum.inr b:=λq=>e (Sum.inr.inj q);rw [yk h,yk e]
theorem Zg (a:Int)(b:Str):decide ((Sum.inl a:u6)=Sum.inr b)=false:=yk (λq=>nomatch q)
theorem Zh (a:Str)(b:Int):decide ((Sum.inr a:u6)=Sum.inl b)=false:=yk (λq=>nomatch q)
def zJ (prog:Program)(w:World):PySem.KeyKind prog w u6 where
 is:=wp
 hash:=keyH w
 inj:=λv a b ha hb=>by
  rcases ql ha with ⟨i,t,rfl,rfl⟩|⟨x,t,rfl,rfl⟩
  ·rcases ql hb with ⟨j,u,rfl,e⟩|⟨y,u,rfl,e⟩
   ·injection e with e1 _;rw [e1]
   ·exact nomatch e
  ·rcases ql hb with ⟨j,u,rfl,e⟩|⟨y,u,rfl,e⟩
   ·exact nomatch e
   ·injection e with e1 _;rw [e1]
 byValue:=λk v h=>by
  rcases ql h with ⟨i,t,rfl,rfl⟩|⟨x,t,rfl,rfl⟩<;>rfl
 pyHash:=λhv h=>by
  rcases ql hv with ⟨i,t,rfl,rfl⟩|⟨x,t,rfl,rfl⟩
  ·exact wpAny_pyHash_int h
  ·exact wpAny_pyHash_str h
 eqBool:=λhu hv h=>by
  rcases ql hu with ⟨i,t,rfl,rfl⟩|⟨x,t,rfl,rfl⟩
  ·rcases ql hv with ⟨j,u,rfl,rfl⟩|⟨y,u,rfl,rfl⟩
   ·rw [Zf] at h;exact wpAny_eqBool_int h
   ·rw [Zg] at h;exact SeqAt.EqAt.int_str i t y u _ _ _ _ h
  ·rcases ql hv with ⟨j,u,rfl,rfl⟩|⟨y,u,rfl,rfl⟩
   ·rw [Zh] at h;exact SeqAt.EqAt.str_int x t j u _ _ _ _ h
   ·rw [Zi] at h;exact wpAny_eqBool_str h
 «strs»:=λk x t v h=>by
  rcases ql h with ⟨i,u,rfl,e⟩|⟨y,u,rfl,e⟩
  ·exact nomatch e
  ·injection e with e1 _;subst e1;cases v<;>rfl
inductive V where
 |non|bl (b:Bool)|int (i:Int)|str (x:Str)|byt (b:Array UInt8)|flt (b:UInt64)|ref (a:Addr)|ty (n:String)
 deriving DecidableEq
variable{vs xs:List V}{v y:V}
def RelV:V->Value->Prop
 | .non,u=>u=Value.none
 | .bl b,u=>u=Value.bool b
 | .int i,u=>∃ t,u=Value.int i t
 | .str x,u=>∃ t,u=Value.str x t
 | .byt b,u=>∃ t,u=Value.bytes b t
 | .flt b,u=>∃ t,u=Value.float b t
 | .ref a,u=>u=Value.ref a
 | .ty n,u=>u=Value.type n
abbrev Vals:List V->List Value->Prop:=Paired RelV
theorem Vals.length (r:Vals xs us):xs.length=us.length:=Paired.length r
theorem Vals.get:∀{xs:List V}{us:List Value}{i:Nat}{x:V},Vals xs us->xs[i]?=some x->∃ u,us[i]?=some u/\RelV x u
 |_,_,_,_,.nil,e=>by simp at e
 |_,_,0,_,.cons r _,e=>by simp at e;subst e;exact ⟨_,rfl,r⟩
 |_,_,i+1,x,.cons _ t,e=>by
  obtain ⟨u,h1,h2⟩:=Vals.get (i:=i) (x:=x) t (by simpa using e);exact ⟨u,by simpa using h1,h2⟩
theorem Vals.set {x:V}{u:Value}(r:RelV x u):∀{xs:List V}{us:List Value}(i:Nat),Vals xs us->Vals (xs.set i x) (us.set i u)
 |_,_,_,.nil=> .nil
 |_,_,0,.cons _ t=> .cons r t
 |_,_,i+1,.cons q t=> .cons q (Vals.set r i t)
theorem Vals.append:∀{xs ys:List V}{us ws:List Value},Vals xs us->Vals ys ws->Vals (xs++ys) (us++ws)
 |_,_,_,_,.nil,s=>s
 |_,_,_,_,.cons r t,s=> .cons r (Vals.append t s)
theorem Vals.take:∀{xs:List V}{us:List Value}(n:Nat),Vals xs us->Vals (xs.take n) (us.take n)
 |_,_,0,_=> .nil
 |_,_,_+1,.nil=> .nil
 |_,_,n+1,.cons r t=> .cons r (Vals.take n t)
theorem Vals.drop:∀{xs:List V}{us:List Value}(n:Nat),Vals xs us->Vals (xs.drop n) (us.drop n)
 |_,_,0,r=>r
 |_,_,_+1,.nil=> .nil
 |_,_,n+1,.cons _ t=>Vals.drop n t
def RelO:Option V->Option Value->Prop
 |some v,some u=>RelV v u
 |none,none=>True
 |_,_=>False
def KV {κ:Type}:List (κ×V)->List (κ×Value)->Prop:=Paired λ(p:κ×V) (q:κ×Value)=>p.1=q.1/\RelV p.2 q.2
def kV:u6->V
 | .inl i=> .int i
 | .inr x=> .str x
def TABS:List (Addr×Array Value×List (Pos×Str)):=[]
inductive HO where
 /-- a list -/
 |lst (xs:List V)
 /-- a tuple (never changes) -/
 |tup (xs:List V)
 /-- a dict whose keys are ints and texts;one whose keys are tuples of ints and texts (the empty one is both) -/
 |dK (kvs:List (u6×V))|dT (kvs:List (List u6×V))
 /-- a set of ints: its members,its size -/
 |set (S:Int->Bool) (n:Nat)
 /-- an instance of the class at C,its dict at dx,its attributes -/
 |ins (C dx:Addr) (fs:List (Str×V))
 /-- the dict of the instance at x -/
 |own (x:Addr)
 /-- the dict of an exception -/
 |xd (fs:List (Str×V))
 /-- a bound method,f of x -/
 |met (f x:Addr)
 /-- a range object lo,lo+1,.. below hi -/
 |rng (lo hi:Int)
 /-- a thing that is known to the object (the script;a dict while a loop walks it): read,never written while it is so -/
 |frz (o:Obj) (u:HO)
 /-- a code object's table -/
 |tbl (ps:Array Value) (q:List (Pos×Str))
 /-- any other thing,by what is true of its one object (a def of one's own: SetO a S n:=HO.ext λh=> ..) -/
 |ext (φ:Heap->Prop)
variable{o:HO}
abbrev Hp:=Addr->Option HO
variable{H:Hp}{R:V->V->Hp->Prop}
def z6 (H:Hp)(a:Addr)(o:HO):Hp:=λb=>if b=a then some o else H b
theorem j7 :z6 H a o a=some o:=by unfold z6;rw [if_pos rfl]
theorem z5 (h:b≠a):z6 H a o b=H b:=by unfold z6;rw [if_neg h]
theorem y6 (h:H a=some o)(h':H b=none):a≠b:=by intro e;subst e;rw [h] at h';cases h'
section
variable (P:Program)(w:World)
def ObjOk (H:Hp)(h:Heap)(a:Addr):HO->Prop
 | .lst xs=>xs.length<=sizeLine/\∃ (its:List Value) (n:Nat),Vals xs its/\h.get? a=some { cls:= .type "list",data:= .seq its.toArray n }
 | .tup xs=>xs.length<=sizeLine/\∃ its:List Value,Vals xs its/\IsTup h a its.toArray
 | .dK kvs=>kvs.length<=sizeLine/\(a==sysModules)=false/\∃ vs,KV kvs vs/\h.DictOf (zJ P w) a vs
 | .dT kvs=>kvs.length<=sizeLine/\(a==sysModules)=false/\∃ xs:List (List u6×Addr×Value),
   Paired (λ(p:List u6×V) (q:List u6×Addr×Value)=>p.1=q.1/\H q.2.1=some (.tup (p.1.map kV))/\RelV p.2 q.2.2) kvs xs /\
   ∃ o es ep,h.get? a=some o/\o.ExactDict/\o.data = .dict es ep/\es.toList=xs.map (entryOfKey (tupleKind (zJ P w)))/\(xs.map (·.1)).Nodup
 | .set S n=>h.SetOf (intKind P w) a S n
 | .ins C dx fs=>H dx=some (.own a)/\fs.length<=1000/\dx≠a/\h.get? a=some (PySem.W.instObj C dx) /\
   ∃ mA,h.Ns1 dx mA/\(∀ f,RelO (fs.lookup f) (mA f))/\PySem.Within mA (fs.map (·.1))
 | .own _=>∃ o,h.get? a=some o
 | .xd fs=>∃ mA,h.Ns1 a mA/\∀ f,RelO (fs.lookup f) (mA f)
 | .rng lo hi=>∃ t u v,h.get? a=some { cls:= .type "range",data:= .fields #[.int lo t,.int hi u,.int 1 v] }
 | .frz o u=>h.get? a=some o/\ObjOk H h a u
 | .tbl ps q=>∃ more:Array Value,h.get? a=some { cls:= .none,data:= .fields (ps++more) }/\TriplesOk (ps++more).toList /\
   ∀ p∈q,codeAmong p.1 (ps++more).toList=none∨∃ c o vs t,codeAmong p.1 (ps++more).toList=some (.ref c)/\H c=some (.frz o (.own a))/\o.data = .fields vs/\vs[1]?=some (.str p.2 t)
 | .met f x=>h.get? a=some (PySem.W.methodObj (.ref f) (.ref x))
 | .ext φ=>φ h/\(∃ o,h.get? a=some o)/\∀ h1 h2:Heap,φ h1->(∀ o,h1.get? a=some o->h2.get? a=some o)->φ h2
def HOk (H:Hp)(h:Heap):Prop:=∀ a o,H a=some o->ObjOk P w H h a o
end
section
variable {P:Program}{w:World}{H H':Hp}{h h':Heap}{a:Addr}{o:HO}
theorem ObjOk.lt (x:ObjOk P w H h a o):a<h.objs.size:=by
 cases o with
 |lst xs=>obtain ⟨_,_,_,_,e⟩:=x;exact yU e
 |tup xs=>obtain ⟨_,_,_,p⟩:=x;exact p.lt
 |dK kvs=>obtain ⟨_,_,_,_,o,_,_,e,_⟩:=x;exact yU e
 |dT kvs=>obtain ⟨_,_,_,_,o,_,_,e,_⟩:=x;exact yU e
 |set S n=>obtain ⟨o,_,_,_,e,_⟩:=x;exact yU e
 |ins C dx fs=>obtain ⟨_,_,_,e,_⟩:=x;exact yU e
 |own y=>obtain ⟨_,e⟩:=x;exact yU e
 |xd fs=>obtain ⟨_,⟨_,_,_,e,_⟩,_⟩:=x;exact yU e
 |rng lo hi=>obtain ⟨_,_,_,e⟩:=x;exact yU e
 |frz ob u=>obtain ⟨e,_⟩:=x;exact yU e
 |tbl ps q=>obtain ⟨_,e,_⟩:=x;exact yU e
 |met f y=>exact yU (show h.get? a=some _ from x)
 |ext φ=>obtain ⟨_,⟨_,e⟩,_⟩:=x;exact yU e
theorem Paired.mapP {α β:Type}{F G:α->β->Prop}:∀{l₁:List α}{l₂:List β},Paired F l₁ l₂->(∀ a b,F a b->G a b)->Paired G l₁ l₂
 |_,_,.nil,_=> .nil
 |_,_,.cons r t,f=> .cons (f _ _ r) (Paired.mapP t f)
theorem ObjOk.stay (x:ObjOk P w H h a o)(k:∀ b u,(b=a∨H b=some (.own a))->h.get? b=some u->h'.get? b=some u)(ho:∀ b,H b=some (.own a)->H' b=some (.own a))(ht:∀ b xs,H b=some (.tup xs)->H' b=some (.tup xs))(hz:∀ b o u,H b=some (.frz o u)->H' b=some (.frz o u)):ObjOk P w H' h' a o:=by
 induction o with
 |lst xs=>obtain ⟨z,its,n,r,e⟩:=x;exact ⟨z,its,n,r,k _ _ (.inl rfl) e⟩
 |tup xs=>obtain ⟨z,its,r,ob,e,c⟩:=x;exact ⟨z,its,r,ob,k _ _ (.inl rfl) e,c⟩
 |dK kvs=>obtain ⟨z,y,vs,r,ob,es,ep,e,c⟩:=x;exact ⟨z,y,vs,r,ob,es,ep,k _ _ (.inl rfl) e,c⟩
 |dT kvs=>obtain ⟨z,y,xs,r,ob,es,ep,e,c⟩:=x;exact ⟨z,y,xs,Paired.mapP r λp q z=>⟨z.1,ht _ _ z.2.1,z.2.2⟩,ob,es,ep,k _ _ (.inl rfl) e,c⟩
 |set S n=>obtain ⟨ob,es,ep,t,e,c⟩:=x;exact ⟨ob,es,ep,t,k _ _ (.inl rfl) e,c⟩
 |ins C dx fs=>obtain ⟨d,z,ne,e,mA,⟨od,es,ep,e2,c⟩,r⟩:=x;exact ⟨ho _ d,z,ne,k _ _ (.inl rfl) e,mA,⟨od,es,ep,k _ _ (.inr d) e2,c⟩,r⟩
 |own y=>obtain ⟨ob,e⟩:=x;exact ⟨ob,k _ _ (.inl rfl) e⟩
 |xd fs=>obtain ⟨mA,⟨od,es,ep,e,c⟩,r⟩:=x;exact ⟨mA,⟨od,es,ep,k _ _ (.inl rfl) e,c⟩,r⟩
 |rng lo hi=>obtain ⟨t,u,v,e⟩:=x;exact ⟨t,u,v,k _ _ (.inl rfl) e⟩
 |frz ob u ih=>obtain ⟨e,q⟩:=x;exact ⟨k _ _ (.inl rfl) e,ih q⟩
 |tbl ps q =>
  obtain ⟨more,e,t,r⟩:=x;refine ⟨more,k a _ (.inl rfl) e,t,λp hp=>?_⟩;rcases r p hp with z|⟨c,o,vs,t,z,oc,e2⟩
  ·exact .inl z
  ·exact .inr ⟨c,o,vs,t,z,hz c o _ oc,e2⟩
 |met f y=>have e:h.get? a=some (PySem.W.methodObj (.ref f) (.ref y)):=x;show h'.get? a=some (PySem.W.methodObj (.ref f) (.ref y));exact k a _ (.inl rfl) e
 |ext φ=>obtain ⟨p,⟨o,e⟩,st⟩:=x;exact ⟨st _ _ p λo q=>k _ _ (.inl rfl) q,⟨o,k _ _ (.inl rfl) e⟩,st⟩
theorem HOk.lt (x:HOk P w H h)(e:H a=some o):a<h.objs.size:=(x a o e).lt
theorem HOk.fresh (x:HOk P w H h)(e:h.objs.size<=a):H a=none:=by
 cases q:H a with
 |none=>rfl
 |some u=>exact absurd (yQ (x.lt q) e) (yj _)
theorem HOk.kept (x:HOk P w H h)(k:∀ b u,h.get? b=some u->h'.get? b=some u):HOk P w H h':=λa o e =>
 (x a o e).stay (λb u _ q=>k b u q) (λ_ q=>q) (λ_ _ q=>q) λ_ _ _ q=>q
theorem HOk.laid (x:HOk P w H h)(k:∀ b u,h.get? b=some u->h'.get? b=some u)(hp:h.objs.size<=a)(new:ObjOk P w (z6 H a o) h' a o):HOk P w (z6 H a o) h':=λb u e=>by
 have hn:=x.fresh hp;by_cases hb:b=a
 ·subst hb;rw [j7] at e;cases e;exact new
 ·rw [z5 hb] at e;exact (x b u e).stay (λc v _ q=>k c v q) (λc q=>by rw [z5 (y6 q hn)];exact q) (λc xs q=>by rw [z5 (y6 q hn)];exact q) λc _ _ q=>by rw [z5 (y6 q hn)];exact q
end
def Rd (H:Hp)(a:Addr)(u:HO):Prop:=H a=some u∨∃ o,H a=some (.frz o u)
theorem Rd.ok {u:HO}(r:Rd H a u)(x:HOk P w H h):ObjOk P w H h a u:=by
 rcases r with r|⟨o,r⟩
 ·exact x a u r
 ·obtain ⟨_,q⟩:=x a _ r;exact q
def Mut:Option HO->Prop
 |some (.lst _)=>True
 |some (.dK _)=>True
 |some (.dT _)=>True
 |some (.set _ _)=>True
 |some (.ins _ _ _)=>True
 |some (.ext _)=>True
 |_=>False
section
variable {P:Program}{w:World}{H:Hp}{h h':Heap}{x e:Addr}{o':HO}
theorem HOk.write (ok:HOk P w H h)(mu:Mut (H x))(he:e=x∨H e=some (.own x))(k:∀ b u,b≠e->h.get? b=some u->h'.get? b=some u)(heo:∃ u,h'.get? e=some u)(new:ObjOk P w (z6 H x o') h' x o'):HOk P w (z6 H x o') h':=λb u q=>by
 have nown:∀ c y,H c=some (.own y)->c≠x:=λc y r z=>by subst z;rw [r] at mu;exact mu
 have ntup:∀ c xs,H c=some (.tup xs)->c≠x:=λc xs r z=>by subst z;rw [r] at mu;exact mu
 have nfrz:∀ c ob xs,H c=some (.frz ob xs)->c≠x:=λc ob xs r z=>by subst z;rw [r] at mu;exact mu
 by_cases hb:b=x
 ·subst hb;rw [j7] at q;cases q;exact new
 ·rw [z5 hb] at q;by_cases hbe:b=e
  ·have q':H b=some (.own x):=by
    rcases he with z|z
    ·exact absurd (hbe.trans z) hb
    ·rw [hbe];exact z
   rw [q] at q';cases q';obtain ⟨v,hv⟩:=heo;exact ⟨v,by rw [hbe];exact hv⟩
  ·refine (ok b u q).stay (λc v hc r=>k c v ?_ r) (λc r=>by rw [z5 (nown c b r)];exact r) (λc xs r=>by rw [z5 (ntup c xs r)];exact r) λc ob xs r=>by rw [z5 (nfrz c ob xs r)];exact r
   rcases hc with rfl|hc
   ·exact hbe
   ·rintro rfl;rcases he with z|z
    ·exact nown c b hc z
    ·rw [hc] at z;cases z;exact hb rfl
end
structure Un (fs ex:List Addr)(H H':Hp)(h h':Heap):Prop where
 keep:∀ b o,h.get? b=some o->H b=none->b∉fs->b∉ex->h'.get? b=some o
 slot:∀ b o,h.get? b=some o->H b=none->b∈fs->b∉ex->∃ sl,h'.get? b=some { o with slots:=sl }
 free:∀ b o,h.get? b=some o->H b=none->b∉ex->H' b=none
 there:∀ b o,h.get? b=some o->b∉ex->∃ o',h'.get? b=some o'
 tups:∀ b xs,H b=some (.tup xs)->H' b=some (.tup xs)
 frzs:∀ b o u,H b=some (.frz o u)->H' b=some (.frz o u)
 tbls:∀ b ps q,H b=some (.tbl ps q)->H' b=some (.tbl ps q)
section
variable {fs fs' ex ex':List Addr}{H H1 H2:Hp}{h h1 h2 h':Heap}{a x e:Addr}{o:HO}
theorem Un.any (u:Un fs ex H H1 h h1){ob:Obj}(q:h.get? b=some ob)(n:H b=none)(hx:b∉ex):∃ sl,h1.get? b=some { ob with slots:=sl }:=by
 by_cases hb:b∈fs
 ·exact u.slot b ob q n hb hx
 ·exact ⟨ob.slots,u.keep b ob q n hb hx⟩
theorem Un.kept (k:∀ b u,h.get? b=some u->h'.get? b=some u):Un fs ex H H h h' :=
 ⟨λb ob q _ _ _=>k b ob q,λb ob q _ _ _=>⟨ob.slots,k b ob q⟩,λ_ _ _ n _=>n,λb ob q _=>⟨ob,k b ob q⟩,λ_ _ q=>q,λ_ _ _ q=>q,λ_ _ _ q=>q⟩
theorem Un.refl:Un fs ex H H h h:=Un.kept λ_ _ q=>q
theorem Un.laid (k:∀ b u,h.get? b=some u->h'.get? b=some u)(hp:h.objs.size<=a)(hn:H a=none):Un fs ex H (z6 H a o) h h' where
 keep:=λb u q _ _ _=>k b u q
 slot:=λb u q _ _ _=>⟨u.slots,k b u q⟩
 free:=λb u q n _=>by rw [z5 (yP (yQ (yU q) hp))];exact n
 there:=λb u q _=>⟨u,k b u q⟩
 tups:=λb xs q=>by rw [z5 (y6 q hn)];exact q
 frzs:=λb u xs q=>by rw [z5 (y6 q hn)];exact q
 tbls:=λb ps z q=>by rw [z5 (y6 q hn)];exact q
theorem Un.write (mu:Mut (H x))(he:e=x∨H e=some (.own x))(k:∀ b u,b≠e->h.get? b=some u->h'.get? b=some u)(heo:∃ u,h'.get? e=some u):Un fs ex H (z6 H x o) h h':=by
 have hx:∀ b,H b=none->b≠x:=λb n z=>by subst z;rw [n] at mu;exact mu
 have hb:∀ b,H b=none->b≠e:=λb n z=>by
  subst z;rcases he with r|r
  ·exact hx b n r
  ·rw [n] at r;cases r
 have hm:∀ b u,H b=some u->¬ Mut (some u)->b≠x:=λb u q nm z=>by subst z;rw [q] at mu;exact nm mu
 refine ⟨λb u q n _ _=>k b u (hb b n) q,λb u q n _ _=>⟨u.slots,k b u (hb b n) q⟩,λb u q n _=>by rw [z5 (hx b n)];exact n,λb u q _=>?_,
  λb xs q=>by rw [z5 (hm b _ q λz=>z)];exact q,λb u xs q=>by rw [z5 (hm b _ q λz=>z)];exact q,λb ps r q=>by rw [z5 (hm b _ q λz=>z)];exact q⟩
 by_cases hbe:b=e
 ·subst hbe;exact heo
 ·exact ⟨u,k b u hbe q⟩
end
def trk (h:Heap)(H:Hp):List Addr:=(List.range h.objs.size).filter λa=>(H a).isSome
def qk (h:Heap)(H:Hp):Heap:=PySem.W.hideAll h (trk h H)
theorem XJ (h:Heap)(H:Hp):(qk h H).objs.size=h.objs.size:=PySem.W.hideAll_size _ _
theorem XI {o:Obj}(e:h.get? b=some o)(n:H b=none):(qk h H).get? b=some o :=
 PySem.W.hideAll_get _ e λhm=>by
  have q:(H b).isSome=true:=(List.mem_filter.mp hm).2;rw [n] at q;simp at q
theorem ZC {o:Obj}(e:(qk h H).get? b=some o):h.get? b=some o/\H b=none:=by
 have e':h.get? b=some o:=PySem.W.of_hideAll (trk h H) e;refine ⟨e',?_⟩;cases q:H b with
 |none=>rfl
 |some x=>have hm:b∈trk h H:=List.mem_filter.mpr ⟨uX.mpr (yU e'),by simp [q]⟩;have z:(qk h H).get? b=none:=PySem.W.hideAll_none (trk h H) hm;rw [z] at e;cases e
structure Mod (K:Fg)(mg:Str->Option Value)(base:Heap):Prop where
 kin:K.In base
 glob:base.Ns mainGlobals mg
 blt:∃ mb,base.Ns builtinsNs mb/\∀ x:Str,x ≠ "__name__"->mb x=bootBuiltins x
 nolimit:base.NoLimit
 bmn:∃ bm ob,mg "__builtins__"=some (.ref bm)/\bm≠builtinsNs/\base.get? bm=some ob/\ob.cls = .type "module"/\ob.dict=some builtinsNs/\ob.data = .plain
structure Cx where
 prog:Program
 w:World
 K:Fg
 mg:Str->Option Value
 base:Heap
 A:Around
 N:List Str
 s₀:Shared
 H₀:Hp
 env:Env
 outer:List Env
 stack:List Env
 ex:List Addr
 fn:Str->Bool
 calm:Bool
 pn:List (Addr×Obj)
 xe:Value->Shared->Prop
variable{X:Cx}
def v9 (l:List Env):List Addr:=l.filterMap (·.frame)
abbrev Cx.fs (X:Cx):List Addr:=v9 X.outer
def Vis (sc:Scope)(x:Str):Prop:=sc.names.lookup x=some .local∨sc.names.lookup x=some .cell∨sc.names.lookup x=some .free
def Loc (sc:Scope)(x:Str):Prop:=sc.names.lookup x=some .local∨sc.names.lookup x=some .cell
def Look (env:Env)(h:Heap)(m:Str->Option Value)(x:Str)(u:Value):Prop :=
 (env.kindOf x=some .local/\m x=some u)∨((env.kindOf x=some .cell∨env.kindOf x=some .free)/\∃ c,env.cells.lookup x=some c/\h.IsCell c (some u))
structure Cx.Ok (X:Cx):Prop where
 mod:Mod X.K X.mg X.base
 kind:X.env.scope.kind = .function
 glob:X.env.globals=mainGlobals
 blt:X.env.builtins=builtinsNs
 above:X.s₀.heap.objs.size<=X.env.locals
 inj:∀ x y c,X.env.cells.lookup x=some c->X.env.cells.lookup y=some c->x=y
 has:∀ x,(X.env.kindOf x=some .cell∨X.env.kindOf x=some .free)->∃ c,X.env.cells.lookup x=some c
 cab:∀ x c,X.fn x=true->X.env.cells.lookup x=some c->X.s₀.heap.objs.size<=c
 hd:X.calm=true->X.A.handled=none
 frames:X.A.frames=some X.stack
 stk:X.stack=X.outer∨(X.stack=X.env::X.outer/\X.env.frame=some X.env.locals)
 exf:∀ b∈X.ex,b≠X.env.locals/\∀ x c,X.env.cells.lookup x=some c->c≠b
 bs:∀ b o,X.base.get? b=some o->X.s₀.heap.get? b=some o/\X.H₀ b=none
 bsz:X.base.objs.size<=X.s₀.heap.objs.size
 noex:∀ b o,X.base.get? b=some o->b∉X.ex
 exfs:∀ b∈X.ex,b∉X.fs
 funs:X.s₀.heap.FunFrames X.base X.outer
 frf:∀ b∈X.fs,X.H₀ b=none
 tbs:∀ p∈TABS,X.H₀ p.1=some (.tbl p.2.1 p.2.2)
structure Inv (X:Cx)(pins:List (Addr×Obj))(U:List (Option V))(H:Hp)(s:Shared):Prop where
 ok:X.Ok
 os:s.os=X.s₀.os
 bare:AllBare s.gens
 base:Un X.fs X.ex X.H₀ H X.s₀.heap s.heap
 loc:∃ m,s.heap.Ns X.env.locals m/\∀(i:Nat)(x:Str)(v:V),X.N[i]?=some x->U[i]?=some (some v)->Vis X.env.scope x->∃ u,RelV v u/\Look X.env s.heap m x u
 cell:∀ x c,X.env.cells.lookup x=some c->∃ v,s.heap.IsCell c v
 free:H X.env.locals=none
 freeC:∀ x c,X.env.cells.lookup x=some c->H c=none
 pin:∀ p∈X.pn++pins,s.heap.get? p.1=some p.2/\H p.1=none/\p.1≠X.env.locals/\p.1∉X.fs/\∀ v,p.2.data ≠ .cell v
 hok:HOk X.prog X.w H s.heap
 len:U.length=X.N.length
section
variable {X:Cx}{pins:List (Addr×Obj)}{U:List (Option V)}{H H':Hp}{s:Shared}{h':Heap}
theorem Cx.Ok.nofr (ok:X.Ok){o:Obj}(e:X.base.get? b=some o):b∉X.fs:=λhb=>by
 have:=(ok.funs.mem hb).1;rw [e] at this;cases this
theorem Inv.bs (I:Inv X pins U H s):∀ b o,X.base.get? b=some o->s.heap.get? b=some o/\H b=none:=λb o e =>
 ⟨I.base.keep b o (I.ok.bs b o e).1 (I.ok.bs b o e).2 (I.ok.nofr e) (I.ok.noex b o e),I.base.free b o (I.ok.bs b o e).1 (I.ok.bs b o e).2 (I.ok.noex b o e)⟩
theorem Inv.bk (I:Inv X pins U H s):∀ b o,X.base.get? b=some o->s.heap.get? b=some o:=λb o e=>(I.bs b o e).1
theorem Inv.mod (I:Inv X pins U H s):Mod X.K X.mg X.base:=I.ok.mod
theorem Inv.kIn (I:Inv X pins U H s):X.K.In s.heap:=I.ok.mod.kin.keeps I.bk
theorem Inv.fr (I:Inv X pins U H s):∃ m,Fr X.base X.env.locals s.heap m :=
 let ⟨m,hn,_⟩:=I.loc
 ⟨m,hn,I.bk,yt I.ok.bsz I.ok.above⟩
theorem Inv.lt (I:Inv X pins U H s):X.env.locals<s.heap.objs.size:=let ⟨_,hn,_⟩:=I.loc;hn.lt
theorem Inv.sz (I:Inv X pins U H s):X.s₀.heap.objs.size<=s.heap.objs.size:=yt I.ok.above (Nat.le_of_lt I.lt)
theorem Inv.nofs (I:Inv X pins U H s)(h:s.heap.objs.size<=a):a∉X.fs:=λhb=>by
 obtain ⟨_,o,ho,_⟩:=I.ok.funs.mem hb;exact absurd (yQ (yU ho) (yt I.sz h)) (yj _)
theorem Inv.cne (I:Inv X pins U H s):∀ x c,X.env.cells.lookup x=some c->c≠X.env.locals:=λx c e z=>by
 obtain ⟨v,o,ho,hd⟩:=I.cell x c e;obtain ⟨m,⟨o',es,ep,ho',hd',_⟩,_⟩:=I.loc;rw [z,ho'] at ho;cases ho;rw [hd'] at hd;cases hd
theorem Inv.funs (I:Inv X pins U H s):s.heap.FunFrames X.base X.outer:=by
 have all:∀(l:List Env),(∀ b∈v9 l,b∈X.fs)->X.s₀.heap.FunFrames X.base l->s.heap.FunFrames X.base l:=by
  intro l
  induction l with
  |nil=>intro _ _;trivial
  |cons env r ih=>intro hs hl;obtain ⟨hk,⟨L,o,hf,hn,ho,hd⟩,hr⟩:=hl;have hL:L∈X.fs:=hs L (by unfold v9;rw [List.filterMap_cons,hf];exact yy);obtain ⟨sl,e⟩:=I.base.slot L o ho (I.ok.frf L hL) hL λz=>I.ok.exfs L z hL;exact ⟨hk,⟨L,_,hf,hn,e,hd⟩,ih (λb hb=>hs b (by unfold v9;rw [List.filterMap_cons,hf];exact yL _ hb)) hr⟩
 exact all X.outer (λ_ hb=>hb) I.ok.funs
theorem Inv.stack (I:Inv X pins U H s):s.heap.FunFrames X.base X.stack:=by
 rcases I.ok.stk with e|⟨e,hf⟩
 ·rw [e];exact I.funs
 ·rw [e];obtain ⟨m,hn,_⟩:=I.loc;refine .cons (by rw [I.ok.kind];decide) hf hn ?_ I.funs;exact yx (yt I.ok.bsz I.ok.above)
theorem Inv.stkSub (I:Inv X pins U H s):∀ b∈v9 X.stack,b∈X.env.locals::X.fs:=λb hb=>by
 rcases I.ok.stk with e|⟨e,hf⟩
 ·rw [e] at hb;exact yL _ hb
 ·rw [e] at hb;unfold v9 at hb;rw [List.filterMap_cons,hf] at hb;exact hb
theorem Inv.stkFree (I:Inv X pins U H s):∀ b∈v9 X.stack,H b=none:=λb hb=>by
 rcases yK.mp (I.stkSub b hb) with e|hb
 ·rw [e];exact I.free
 ·obtain ⟨_,o,ho,_⟩:=I.ok.funs.mem hb;exact I.base.free b o ho (I.ok.frf b hb) λz=>I.ok.exfs b z hb
theorem Inv.step (I:Inv X pins U H s)(hch:∀ b∈ch,(b∈X.ex∨X.s₀.heap.objs.size<=b)/\b≠X.env.locals/\(∀ x c,X.env.cells.lookup x=some c->c≠b)/\∀ p∈X.pn++pins,p.1≠b)(keep:∀ b o,b≠X.env.locals->b∉X.fs->b∉ch->s.heap.get? b=some o->H b=none->h'.get? b=some o)(slot:∀ b o,b≠X.env.locals->b∈X.fs->b∉ch->s.heap.get? b=some o->H b=none->∃ sl,h'.get? b=some { o with slots:=sl })(free:∀ b o,b∉ch->s.heap.get? b=some o->H b=none->H' b=none)(there:∀ b o,b∉ch->s.heap.get? b=some o->∃ o',h'.get? b=some o')(tups:∀ b xs,H b=some (.tup xs)->H' b=some (.tup xs))(frzs:∀ b o u,H b=some (.frz o u)->H' b=some (.frz o u))(tbls:∀ b ps q,H b=some (.tbl ps q)->H' b=some (.tbl ps q))(ns:∀ m,s.heap.Ns X.env.locals m->h'.Ns X.env.locals m)(hok:HOk X.prog X.w H' h')(hg:AllBare g'):Inv X pins U H' { s with heap:=h',gens:=g',drawn:=d',toks:=t' }:=by
 have neL:∀ b o,X.s₀.heap.get? b=some o->b≠X.env.locals:=λb o e=>yP (yQ (yU e) I.ok.above);have neC:∀ b o,X.s₀.heap.get? b=some o->b∉X.ex->b∉ch:=λb o e hx hb=>by
  rcases (hch b hb).1 with z|z
  ·exact hx z
  ·exact absurd (yQ (yU e) z) (yj _)
 have cellK:∀ x c,X.env.cells.lookup x=some c->∀ v,s.heap.IsCell c v->h'.IsCell c v:=λx c e v ⟨o,ho,hd⟩=>by
  have nch:c∉ch:=λz=>(hch c z).2.2.1 x c e rfl;by_cases hc:c∈X.fs
  ·obtain ⟨sl,q⟩:=slot c o (I.cne x c e) hc nch ho (I.freeC x c e);exact ⟨_,q,hd⟩
  ·exact ⟨o,keep c o (I.cne x c e) hc nch ho (I.freeC x c e),hd⟩
 refine ⟨I.ok,I.os,hg,⟨λb o e n hb hx=>?_,λb o e n hb hx=>?_,λb o e n hx=>?_,λb o e hx=>?_,λb xs e=>tups b xs (I.base.tups b xs e),λb o xs e=>frzs b o xs (I.base.frzs b o xs e),λb ps q e=>tbls b ps q (I.base.tbls b ps q e)⟩,?_,λx c e=>?_,?_,λx c e=>?_,λp hp=>?_,hok,I.len⟩
 ·exact keep b o (neL b o e) hb (neC b o e hx) (I.base.keep b o e n hb hx) (I.base.free b o e n hx)
 ·obtain ⟨sl,e1⟩:=I.base.slot b o e n hb hx;obtain ⟨sl',e2⟩:=slot b _ (neL b o e) hb (neC b o e hx) e1 (I.base.free b o e n hx);exact ⟨sl',e2⟩
 ·obtain ⟨o',e1⟩:=I.base.there b o e hx;exact free b o' (neC b o e hx) e1 (I.base.free b o e n hx)
 ·obtain ⟨o',e1⟩:=I.base.there b o e hx;exact there b o' (neC b o e hx) e1
 ·obtain ⟨m,hn,hl⟩:=I.loc;refine ⟨m,ns m hn,λi x v e1 e2 e3=>?_⟩;obtain ⟨u,r,l⟩:=hl i x v e1 e2 e3;refine ⟨u,r,?_⟩;rcases l with l|⟨k,c,e,z⟩
  ·exact .inl l
  ·exact .inr ⟨k,c,e,cellK x c e _ z⟩
 ·obtain ⟨v,z⟩:=I.cell x c e;exact ⟨v,cellK x c e v z⟩
 ·obtain ⟨m,⟨o,_,_,ho,_⟩,_⟩:=I.loc;exact free _ o (λz=>(hch _ z).2.1 rfl) ho I.free
 ·obtain ⟨v,o,ho,hd⟩:=I.cell x c e;exact free c o (λz=>(hch c z).2.2.1 x c e rfl) ho (I.freeC x c e)
 ·obtain ⟨e,n,ne,nf,d⟩:=I.pin p hp;have nch:p.1∉ch:=λz=>(hch p.1 z).2.2.2 p hp rfl;exact ⟨keep p.1 p.2 ne nf nch e n,free p.1 p.2 nch e n,ne,nf,d⟩
theorem Inv.un (I:Inv X pins U H s)(u:Un X.fs [] H H' s.heap h')(hok:HOk X.prog X.w H' h'):Inv X pins U H' { s with heap:=h',toks:=t' }:=by
 obtain ⟨m,⟨o,es,ep,ho,r⟩,_⟩:=id I.loc;obtain ⟨sl,hL⟩:=u.any ho I.free (by simp);exact I.step (g':=s.gens) (d':=s.drawn) (ch:=[]) (λ_ z=>nomatch z) (λb o _ hb _ e n=>u.keep b o e n hb (by simp)) (λb o _ hb _ e n=>u.slot b o e n hb (by simp)) (λb o _ e n=>u.free b o e n (by simp)) (λb o _ e=>u.there b o e (by simp)) u.tups u.frzs u.tbls (λm' hm=>by
  obtain ⟨o',es',ep',ho',r'⟩:=hm;rw [ho] at ho';cases ho';exact ⟨_,es',ep',hL,r'⟩) hok I.bare
theorem Inv.call (I:Inv X pins U H s)(u:Un (v9 X.stack) ch H H' s.heap h')(hok:HOk X.prog X.w H' h')(hg:AllBare g')(hch:∀ b∈ch,(b∈X.ex∨X.s₀.heap.objs.size<=b)/\b≠X.env.locals/\(∀ x c,X.env.cells.lookup x=some c->c≠b)/\∀ p∈X.pn++pins,p.1≠b):Inv X pins U H' { s with heap:=h',gens:=g',drawn:=d',toks:=t' }:=by
 obtain ⟨m,⟨o,es,ep,ho,r⟩,_⟩:=id I.loc;obtain ⟨sl,hL⟩:=u.any ho I.free λz=>(hch _ z).2.1 rfl;exact I.step (ch:=ch) hch (λb o hL hb hc e n=>u.keep b o e n (λz=>(yK.mp (I.stkSub b z)).elim hL hb) hc) (λb o _ _ hc e n=>u.any e n hc) (λb o hc e n=>u.free b o e n hc) (λb o hc e=>u.there b o e hc) u.tups u.frzs u.tbls (λm' hm=>by
  obtain ⟨o',es',ep',ho',r'⟩:=hm;rw [ho] at ho';cases ho';exact ⟨_,es',ep',hL,r'⟩) hok hg
theorem Inv.turned (I:Inv X pins U H s)(k:∀ b o,b≠it->s.heap.get? b=some o->h'.get? b=some o)(hn:H it=none)(hL:it≠X.env.locals)(h1:it∈X.ex∨X.s₀.heap.objs.size<=it)(h2:∀ x c,X.env.cells.lookup x=some c->c≠it)(h3:∀ p∈X.pn++pins,p.1≠it):Inv X pins U H { s with heap:=h',toks:=t' }:=by
 have nit:∀ b u,H b=some u->b≠it:=λb u e z=>by rw [z,hn] at e;cases e
 refine I.step (g':=s.gens) (d':=s.drawn) (ch:=[it]) (λb hb=>?_) (λb o _ _ hc e _=>k b o (λz=>hc (by simp [z])) e) (λb o _ _ hc e _=>⟨o.slots,k b o (λz=>hc (by simp [z])) e⟩) (λ_ _ _ _ n=>n)
  (λb o hc e=>⟨o,k b o (λz=>hc (by simp [z])) e⟩) (λ_ _ e=>e) (λ_ _ _ e=>e) (λ_ _ _ e=>e) (λm hm=>?_) (λb u e=>?_) I.bare
 ·have e:b=it:=by simpa using hb
  subst e;exact ⟨h1,hL,h2,h3⟩
 ·obtain ⟨o,es,ep,ho,r⟩:=hm;exact ⟨o,es,ep,k _ o (Ne.symm hL) ho,r⟩
 ·refine (I.hok b u e).stay (λc v hc q=>k c v ?_ q) (λ_ q=>q) (λ_ _ q=>q) λ_ _ _ q=>q;rcases hc with z|z
  ·rw [z];exact nit b u e
  ·exact nit c _ z
theorem Inv.tok (I:Inv X pins U H s)(t:Nat):Inv X pins U H { s with toks:=t }:=I.un (h':=s.heap) (t':=t) Un.refl I.hok
theorem Inv.kept (I:Inv X pins U H s)(k:∀ b u,s.heap.get? b=some u->h'.get? b=some u):Inv X pins U H { s with heap:=h',toks:=t' }:=I.un (Un.kept k) (I.hok.kept k)
theorem Inv.laid (I:Inv X pins U H s)(k:∀ b u,s.heap.get? b=some u->h'.get? b=some u)(hp:s.heap.objs.size<=a)(new:ObjOk X.prog X.w (z6 H a o) h' a o):Inv X pins U (z6 H a o) { s with heap:=h',toks:=t' }:=I.un (Un.laid k hp (I.hok.fresh hp)) (I.hok.laid k hp new)
theorem Inv.write {x e:Addr}(I:Inv X pins U H s)(mu:Mut (H x))(he:e=x∨H e=some (.own x))(k:∀ b u,b≠e->s.heap.get? b=some u->h'.get? b=some u)(heo:∃ u,h'.get? e=some u)(new:ObjOk X.prog X.w (z6 H x o) h' x o):Inv X pins U (z6 H x o) { s with heap:=h',toks:=t' }:=I.un (Un.write mu he k heo) (I.hok.write mu he k heo new)
theorem Inv.weak {σ':List (Option V)}(I:Inv X pins U H s)(hl:σ'.length=U.length)(w:∀(i:Nat) v,σ'[i]?=some (some v)->U[i]?=some (some v)):Inv X pins σ' H s :=
 ⟨I.ok,I.os,I.bare,I.base,let ⟨m,hn,hl'⟩:=I.loc;⟨m,hn,λi x v e1 e2 e3=>hl' i x v e1 (w i v e2) e3⟩,I.cell,I.free,I.freeC,I.pin,I.hok,hl.trans I.len⟩
theorem Inv.pins_of {pins':List (Addr×Obj)}(I:Inv X pins U H s)(h:∀ p∈pins',s.heap.get? p.1=some p.2/\H p.1=none/\p.1≠X.env.locals/\p.1∉X.fs/\∀ v,p.2.data ≠ .cell v):Inv X pins' U H s :=
 ⟨I.ok,I.os,I.bare,I.base,I.loc,I.cell,I.free,I.freeC,λp hp=>(yE.mp hp).elim (λz=>I.pin p (yB _ z)) (h p),I.hok,I.len⟩
theorem jq (hN:N.Nodup){i:Nat}(a:N[i]?=some x)(b:N[j]?=some x):i=j:=by obtain ⟨h1,e1⟩:=yH.mp a;obtain ⟨h2,e2⟩:=yH.mp b;exact (List.getElem_inj hN).mp (e1.trans e2.symm)
theorem Qm {M:Model}{i:Nat}{Q:Unit->Shared->Prop}(I:Inv X pins U H s)(hN:X.N.Nodup)(hi:X.N[i]?=some x)(hx:Loc X.env.scope x)(r:RelV v u)(h:∀ s',Inv X pins (U.set i (some v)) H s'->(∃ a,Heap.SameBut a s.heap s'.heap/\(a=X.env.locals∨X.env.cells.lookup x=some a))->Q () s')(hf:X.fn x=true∨X.env.scope.names.lookup x=some .local:=by first|exact .inl rfl|exact .inr rfl|assumption):wpAny M A (storeName X.env x u) Q E s:=by
 obtain ⟨m,hn,hl⟩:=id I.loc;have hcls:(X.env.scope.kind == .class || (X.env.scope.kind == .module&&X.env.locals != X.env.globals))=false:=by rw [I.ok.kind];rfl
 have hiσ:i<U.length:=by rw [I.len];exact (yH.mp hi).1
 have cne:=I.cne;have tracked:∀{a:Addr}{h':Heap},(∃ o,s.heap.get? a=some o/\H a=none)->Heap.SameBut a s.heap h'->HOk X.prog X.w H h':=λ{a h'} ha hs b ob e=>by
  obtain ⟨_,_,hfree⟩:=ha;refine (I.hok b ob e).stay (λc w' hc q=>(hs.2 c ?_).trans q) (λ_ q=>q) (λ_ _ q=>q) λ_ _ _ q=>q;rintro rfl;rcases hc with rfl|hc
  ·rw [hfree] at e;cases e
  ·rw [hfree] at hc;cases hc
 rcases hx with hk|hk
 ·refine wpAny_storeName_local hk hn (λh' hn' hs=>?_) hcls;obtain ⟨oL,_,_,hoL,_⟩:=id hn;refine h _ ⟨I.ok,I.os,I.bare,⟨λb o e n hb hx=>?_,λb o e n hb hx=>?_,I.base.free,λb o e hx=>?_,I.base.tups,I.base.frzs,I.base.tbls⟩,⟨_,hn',λj y v' e1 e2 e3=>?_⟩,λy c e=>?_,I.free,I.freeC,λp hp=>?_,tracked ⟨oL,hoL,I.free⟩ hs,by simpa using I.len⟩ ⟨_,hs,.inl rfl⟩
  ·exact (hs.2 b (yP (yQ (yU e) I.ok.above))).trans (I.base.keep b o e n hb hx)
  ·obtain ⟨sl,e1⟩:=I.base.slot b o e n hb hx;exact ⟨sl,(hs.2 b (yP (yQ (yU e) I.ok.above))).trans e1⟩
  ·obtain ⟨o',e1⟩:=I.base.there b o e hx;exact ⟨o',(hs.2 b (yP (yQ (yU e) I.ok.above))).trans e1⟩
  ·by_cases hj:j=i
   ·subst hj;rw [hi] at e1;cases e1;rw [uU hiσ] at e2;cases e2;exact ⟨u,r,.inl ⟨hk,by simp⟩⟩
   ·rw [yI (Ne.symm hj)] at e2;obtain ⟨u',r',q⟩:=hl j y v' e1 e2 e3;refine ⟨u',r',?_⟩;rcases q with ⟨k,e⟩|⟨k,c,e,z⟩
    ·refine .inl ⟨k,?_⟩;have:y≠x:=λe=>hj (jq hN e1 (e▸hi));simp [this,e]
    ·exact .inr ⟨k,c,e,z.sameBut hs (cne y c e)⟩
  ·obtain ⟨w',z⟩:=I.cell y c e;exact ⟨w',z.sameBut hs (cne y c e)⟩
  ·obtain ⟨e,n,ne,nf,d⟩:=I.pin p hp;exact ⟨(hs.2 p.1 ne).trans e,n,ne,nf,d⟩
 ·have hfn:X.fn x=true:=by
   rcases hf with z|z
   ·exact z
   ·rw [z] at hk;cases hk
  obtain ⟨c,hc⟩:=I.ok.has x (.inl hk);obtain ⟨w',z⟩:=I.cell x c hc;refine wpAny_storeName_cell I.ok.kind hk hc z (λh' hc' hs=>?_);obtain ⟨oc,hoc,hocd⟩:=id z;refine h { s with heap:=h' } ⟨I.ok,I.os,I.bare,⟨λb o e n hb hx=>?_,λb o e n hb hx=>?_,I.base.free,λb o e hx=>?_,I.base.tups,I.base.frzs,I.base.tbls⟩,⟨m,hn.sameBut hs (Ne.symm (cne x c hc)),λj y v' e1 e2 e3=>?_⟩,λy c' e=>?_,I.free,I.freeC,λp hp=>?_,tracked ⟨oc,hoc,I.freeC x c hc⟩ hs,by simpa using I.len⟩ ⟨c,hs,.inr hc⟩
  ·exact (hs.2 b (yP (yQ (yU e) (I.ok.cab x c hfn hc)))).trans (I.base.keep b o e n hb hx)
  ·obtain ⟨sl,e1⟩:=I.base.slot b o e n hb hx;exact ⟨sl,(hs.2 b (yP (yQ (yU e) (I.ok.cab x c hfn hc)))).trans e1⟩
  ·obtain ⟨o',e1⟩:=I.base.there b o e hx;exact ⟨o',(hs.2 b (yP (yQ (yU e) (I.ok.cab x c hfn hc)))).trans e1⟩
  ·by_cases hj:j=i
   ·subst hj;rw [hi] at e1;cases e1;rw [uU hiσ] at e2;cases e2;exact ⟨u,r,.inr ⟨.inl hk,c,hc,hc'⟩⟩
   ·rw [yI (Ne.symm hj)] at e2;obtain ⟨u',r',q⟩:=hl j y v' e1 e2 e3;refine ⟨u',r',?_⟩;rcases q with q|⟨k,c',e,z'⟩
    ·exact .inl q
    ·refine .inr ⟨k,c',e,z'.sameBut hs ?_⟩;rintro rfl;exact hj (jq hN e1 (I.ok.inj _ _ _ e hc▸hi))
  ·by_cases hcc:c'=c
   ·subst hcc;exact ⟨_,hc'⟩
   ·obtain ⟨w2,z2⟩:=I.cell y c' e;exact ⟨w2,z2.sameBut hs hcc⟩
  ·obtain ⟨e,n,ne,nf,d⟩:=I.pin p hp;refine ⟨(hs.2 p.1 ?_).trans e,n,ne,nf,d⟩;intro q;rw [q,hoc] at e;have q':oc=p.2:=Option.some.inj e;exact d w' (by rw [<- q'];exact hocd)
theorem jR {M:Model}{i:Nat}{Q:Unit->Shared->Prop}(I:Inv X pins U H s)(hN:X.N.Nodup)(hi:X.N[i]?=some x)(hx:Loc X.env.scope x)(r:RelV v u)(h:∀ s',Inv X pins (U.set i (some v)) H s'->Q () s')(hf:X.fn x=true∨X.env.scope.names.lookup x=some .local:=by first|exact .inl rfl|exact .inr rfl|assumption):wpAny M A (storeName X.env x u) Q E s :=
 Qm I hN hi hx r (λs' I' _=>h s' I') hf
theorem Inv.call' (I:Inv X pins U H s)(ho:s'.os=s.os)(u:Un (v9 X.stack) ch H H' s.heap s'.heap)(hok:HOk X.prog X.w H' s'.heap)(hg:AllBare s'.gens)(hch:∀ b∈ch,(b∈X.ex∨X.s₀.heap.objs.size<=b)/\b≠X.env.locals/\(∀ x c,X.env.cells.lookup x=some c->c≠b)/\∀ p∈X.pn++pins,p.1≠b):Inv X pins U H' s':=by obtain ⟨h',g',d',t',o'⟩:=s';have e:o'=s.os:=ho;subst e;exact I.call (g':=g') (t':=t') (d':=d') u hok hg hch
end
abbrev XK:=Value->Option Addr->Hp->Prop
abbrev St:=List (Option V)
variable{U:St}
abbrev VK:=V->Hp->Prop
abbrev TE:=St->Hp->VK->Prop
variable{tl:TE}
abbrev TT:=St->Hp->(Bool->Hp->Prop)->Prop
abbrev TA:=St->Hp->(List V->Hp->Prop)->Prop
structure p7 where
 nx:St->Hp->Prop
 rt:VK
 bk:St->Hp->Prop:=λ_ _=>False
 ct:St->Hp->Prop:=λ_ _=>False
variable{D:p7}
abbrev TS:=p7->St->Hp->Prop
variable{tb:TS}
def EP (X:Cx)(pins:List (Addr×Obj))(U:St)(Q:VK)(u:Value)(s':Shared):Prop:=∃ v H',Inv X pins U H' s'/\RelV v u/\Q v H'
def TP (X:Cx)(pins:List (Addr×Obj))(U:St)(Q:Bool->Hp->Prop)(b:Bool)(s':Shared):Prop:=∃ H',Inv X pins U H' s'/\Q b H'
def AP (X:Cx)(pins:List (Addr×Obj))(U:St)(Q:List V->Hp->Prop)(us:List Value)(s':Shared):Prop:=∃ vs H',Inv X pins U H' s'/\Vals vs us/\Q vs H'
def SP (X:Cx)(pins:List (Addr×Obj))(D:p7)(f:Flow)(s':Shared):Prop :=
 match f with
 | .next=>∃ σ' H',Inv X pins σ' H' s'/\D.nx σ' H'
 | .brk=>∃ σ' H',Inv X pins σ' H' s'/\D.bk σ' H'
 | .cont=>∃ σ' H',Inv X pins σ' H' s'/\D.ct σ' H'
 | .ret u=>∃ v σ' H',Inv X pins σ' H' s'/\RelV v u/\D.rt v H'
def PE (X:Cx)(e:Expr)(t:TE):Prop :=
 ∀(pins:List (Addr×Obj))(s:Shared)(U:St)(H:Hp)(Q:VK),Inv X pins U H s->t U H Q->wpAny (model X.prog X.w) X.A (eval e X.env) (EP X pins U Q) X.xe s
def PT (X:Cx)(e:Expr)(t:TT):Prop :=
 ∀(pins:List (Addr×Obj))(s:Shared)(U:St)(H:Hp)(Q:Bool->Hp->Prop),Inv X pins U H s->t U H Q->wpAny (model X.prog X.w) X.A (isTrue e X.env (eval e X.env)) (TP X pins U Q) X.xe s
def PW (X:Cx)(e:Expr)(t:TT):Prop :=
 ∀(whole:Sem Value)(pins:List (Addr×Obj))(s:Shared)(U:St)(H:Hp)(Q:Bool->Hp->Prop),Inv X pins U H s->t U H Q->wpAny (model X.prog X.w) X.A (isTrue e X.env whole) (TP X pins U Q) X.xe s
theorem PW.pt {t:TT}(h:PW X e t):PT X e t:=h _
def PA (X:Cx)(es:List Expr)(t:TA):Prop :=
 ∀(pos:Pos)(pins:List (Addr×Obj))(s:Shared)(U:St)(H:Hp)(Q:List V->Hp->Prop),Inv X pins U H s->t U H Q->wpAny (model X.prog X.w) X.A (spliced (backTo pos (starEach es X.env))) (AP X pins U Q) X.xe s
def PS (X:Cx)(st:Stmt)(t:TS):Prop :=
 ∀(pins:List (Addr×Obj))(s:Shared)(U:St)(H:Hp)(D:p7),Inv X pins U H s->t D U H->wpAny (model X.prog X.w) X.A (exec st X.env) (SP X pins D) X.xe s
def PSs (X:Cx)(st:List Stmt)(t:TS):Prop :=
 ∀(pins:List (Addr×Obj))(s:Shared)(U:St)(H:Hp)(D:p7),Inv X pins U H s->t D U H->wpAny (model X.prog X.w) X.A (execs st X.env) (SP X pins D) X.xe s
theorem z0 {t:Sem α}{Q Q':α->Shared->Prop}{M:Model}{s:Shared}(h:wpAny M A t Q E s)(hQ:∀ a s,Q a s->Q' a s):wpAny M A t Q' E s:=wpAny_mono h hQ λ_ _ x=>x
section
variable {X:Cx}
theorem bin {a b:Expr}{ta tb:TE}(ha:PE X a ta)(hb:PE X b tb){s:Shared}(I:Inv X pins U H s)(h:ta U H λx H1=>tb U H1 λy H2=>R x y H2){Q:α->Shared->Prop}{f:Value->Value->Sem α}(hf:∀ v u s2 x y H2,Inv X pins U H2 s2->RelV x v->RelV y u->R x y H2->wpAny (model X.prog X.w) X.A (f v u) Q X.xe s2):wpAny (model X.prog X.w) X.A (eval a X.env) (λv s₁=>wpAny (model X.prog X.w) X.A (eval b X.env) (λu s₂=>wpAny (model X.prog X.w) X.A (f v u) Q X.xe s₂) X.xe s₁) X.xe s:=by refine z0 (ha pins s U H _ I h) λv s1 ⟨x,H1,I1,r1,q1⟩=>?_;refine z0 (hb pins s1 U H1 _ I1 q1) λu s2 ⟨y,H2,I2,r2,q2⟩=>?_;exact hf v u s2 x y H2 I2 r1 r2 q2
def d6 (i:Nat):TE:=λU H Q=>∃ v,U[i]?=some (some v)/\Q v H
def tC (v:V):TE:=λ_ H Q=>Q v H
theorem Ja {i:Nat}(hN:X.N[i]?=some x)(hv:Vis X.env.scope x)(hd:(x==("__debug__":Str))=false:=by decide)(hcd:(x==("__classdict__":Str))=false:=by decide):PE X (.Name x pos) (d6 i):=by
 intro pins s U H Q I h;obtain ⟨v,e,h⟩:=h;obtain ⟨m,hn,hl⟩:=I.loc;obtain ⟨u,r,l⟩:=hl i x v hN e hv;have fin:EP X pins U Q u s:=⟨v,H,I,r,h⟩;rcases l with ⟨hk,hm⟩|⟨hk,c,hc,hcell⟩
 ·exact wpAny_Name (wpAny_loadName_local I.ok.kind hk hn hm fin) hd
 ·rcases hk with hk|hk
  ·exact wpAny_Name (wpAny_loadName_cell I.ok.kind hk hc hcell fin) hd
  ·exact wpAny_Name (wpAny_loadName_free I.ok.kind hk hc hcell fin hcd) hd
theorem z9 {i j pos}:PE X (.Constant (.int i) j pos) (tC (.int i)):=λ_ _ _ H _ I h=>wpAny_Constant_int ⟨.int i,H,I.tok _,⟨_,rfl⟩,h⟩
theorem ju {b j pos}:PE X (.Constant (.bool b) j pos) (tC (.bl b)):=λ_ _ _ H _ I h=>Constant_bool ⟨.bl b,H,I,rfl,h⟩
theorem t4 {x j pos}:PE X (.Constant (.str x) j pos) (tC (.str x)):=λ_ _ _ H _ I h=>Calls.Constant_str ⟨.str x,H,I.tok _,⟨_,rfl⟩,h⟩
def Gl (X:Cx)(x:Str):Prop:=X.env.kindOf x=some .globalImplicit
theorem xo {s:Shared}(I:Inv X pins U H s)(hg:Gl X x)(hm:X.mg x=some u)(h:Q u s)(hd:(x==("__debug__":Str))=false:=by decide):wpAny (model X.prog X.w) X.A (eval (.Name x pos) X.env) Q E s :=
 Calls.Name_function_global I.ok.kind hg (Calls.loadGlobal_global (by rw [I.ok.glob];exact I.mod.glob.keeps I.bk) hm h) hd
theorem xn {s:Shared}(I:Inv X pins U H s)(hg:Gl X x)(hm:X.mg x=none)(hv:bootBuiltins x=some u)(h:Q u s)(hn:x ≠ "__name__":=by decide)(hd:(x==("__debug__":Str))=false:=by decide):wpAny (model X.prog X.w) X.A (eval (.Name x pos) X.env) Q E s:=by obtain ⟨mb,h1,h2⟩:=I.mod.blt;exact Calls.Name_function_global I.ok.kind hg (Calls.loadGlobal_builtin (by rw [I.ok.glob];exact I.mod.glob.keeps I.bk) hm (by rw [I.ok.blt];exact h1.keeps I.bk) ((h2 x hn).trans hv) h) hd
theorem jx (hg:Gl X x)(hm:X.mg x=some u)(r:RelV v u)(hd:(x==("__debug__":Str))=false:=by decide):PE X (.Name x pos) (tC v) :=
 λ_ _ _ H _ I h=>xo I hg hm ⟨v,H,I,r,h⟩ hd
theorem jv (hg:Gl X x)(hm:X.mg x=none)(hv:bootBuiltins x=some u)(r:RelV v u)(hn:x ≠ "__name__":=by decide)(hd:(x==("__debug__":Str))=false:=by decide):PE X (.Name x pos) (tC v) :=
 λ_ _ _ H _ I h=>xn I hg hm hv ⟨v,H,I,r,h⟩ hn hd
variable {a b:Expr}{ta tb:TE}{pos:Pos}
variable {tA tB':TT}{rest:List Expr}
def tAnd (t u:TT):TT:=λU H Q=>t U H λc H1=>if c=true then u U H1 Q else Q false H1
def tNot (t:TT):TT:=λU H Q=>t U H λc H1=>Q (!c) H1
theorem JB (ha:PT X a tA):PW X (.BoolOp .And [a] pos) tA:=by
 intro wh pins s U H Q I h;refine isTrue_and (z0 (ha pins s U H Q I h) λc s1 e=>?_);cases c with
 |true=>exact isTrue_and_nil e
 |false=>exact e
theorem wQ (ha:PT X a tA)(hb:PW X (.BoolOp .And (b::rest) pos) tB'):PW X (.BoolOp .And (a::b::rest) pos) (tAnd tA tB'):=by
 intro wh pins s U H Q I h;refine isTrue_and (z0 (ha pins s U H _ I h) λc s1 ⟨H1,I1,q1⟩=>?_);cases c with
 |true=>exact hb wh pins s1 U H1 Q I1 q1
 |false=>exact ⟨H1,I1,q1⟩
theorem wO (ha:PT X a tA):PT X (.UnaryOp .Not a pos) (tNot tA):=by intro pins s U H Q I h;exact isTrue_not (ha pins s U H (λc H1=>Q (!c) H1) I h)
def Qn (ta tb:TE):TE:=λU H Q=>ta U H λx H1=>∃ c,x = .bl c/\if c=true then tb U H1 Q else Q (.bl false) H1
def tOrV (ta tb:TE):TE:=λU H Q=>ta U H λx H1=>∃ c,x = .bl c/\if c=true then Q (.bl true) H1 else tb U H1 Q
def Qq (ta:TE):TE:=λU H Q=>ta U H λx H1=>∃ c,x = .bl c/\Q (.bl (!c)) H1
theorem wL {op}{t:TE}(h:PE X a t):PE X (.BoolOp op [a] pos) t:=λpins s U H Q I hw=>BoolOp_one (h pins s U H Q I hw)
theorem ZU (ha:PE X a ta)(hb:PE X (.BoolOp .And (b::rest) pos) tb):PE X (.BoolOp .And (a::b::rest) pos) (Qn ta tb):=by
 intro pins s U H Q I h;refine BoolOp_and (z0 (ha pins s U H _ I h) λv s1 ⟨x,H1,I1,r1,q1⟩=>?_);obtain ⟨c,rfl,q1⟩:=q1;cases r1;refine wpAny_truthy_bool ?_;cases c with
 |true=>exact hb pins s1 U H1 Q I1 q1
 |false=>exact ⟨.bl false,H1,I1,rfl,q1⟩
theorem pe_or (ha:PE X a ta)(hb:PE X (.BoolOp .Or (b::rest) pos) tb):PE X (.BoolOp .Or (a::b::rest) pos) (tOrV ta tb):=by
 intro pins s U H Q I h;refine BoolOp_or (z0 (ha pins s U H _ I h) λv s1 ⟨x,H1,I1,r1,q1⟩=>?_);obtain ⟨c,rfl,q1⟩:=q1;cases r1;refine wpAny_truthy_bool ?_;cases c with
 |false=>exact hb pins s1 U H1 Q I1 q1
 |true=>exact ⟨.bl true,H1,I1,rfl,q1⟩
theorem ZZ (ha:PE X a ta):PE X (.UnaryOp .Not a pos) (Qq ta):=by intro pins s U H Q I h;refine UnaryOp_ (z0 (ha pins s U H _ I h) λv s1 ⟨x,H1,I1,r1,q1⟩=>?_);obtain ⟨c,rfl,q1⟩:=q1;cases r1;exact not_of (wpAny_truthy_bool ⟨.bl (!c),H1,I1,rfl,q1⟩)
end
def SqL (K:Fg)(H:Hp)(a:Addr)(xs:List V):Prop :=
 Rd H a (.lst xs) ∨
  ∃ (o:Obj) (its:Array Value) (n:Nat),K.lookup a=some o/\o.cls = .type "list"/\o.dict=none/\o.data = .seq its n/\its.size<=sizeLine/\Vals xs its.toList
def SqT (K:Fg)(H:Hp)(a:Addr)(xs:List V):Prop :=
 Rd H a (.tup xs) ∨
  ∃ (o:Obj) (its:Array Value) (n:Nat),K.lookup a=some o/\o.cls = .type "tuple"/\o.data = .seq its n/\its.size<=sizeLine/\Vals xs its.toList
def absV:Value->Option V
 | .none=>some .non
 | .bool b=>some (.bl b)
 | .int i _=>some (.int i)
 | .str x _=>some (.str x)
 | .bytes b _=>some (.byt b)
 | .float b _=>some (.flt b)
 | .ref a=>some (.ref a)
 | .type n=>some (.ty n)
 |_=>none
theorem RelV.abs {x:V}(r:RelV x u):absV u=some x:=by
 cases x with
 |non=>cases r;rfl
 |bl _=>cases r;rfl
 |int _=>obtain ⟨t,rfl⟩:=r;rfl
 |str _=>obtain ⟨t,rfl⟩:=r;rfl
 |byt _=>obtain ⟨t,rfl⟩:=r;rfl
 |flt _=>obtain ⟨t,rfl⟩:=r;rfl
 |ref _=>cases r;rfl
 |ty _=>cases r;rfl
theorem RelV.inj {x:V}(r:RelV x u)(q:RelV y u):x=y:=Option.some.inj (r.abs.symm.trans q.abs)
theorem Vals.inj:∀{xs ys:List V}{us:List Value},Vals xs us->Vals ys us->xs=ys
 |_,_,_,.nil,.nil=>rfl
 |_,_,_,.cons r t,.cons r' t'=>by rw [r.inj r',Vals.inj t t']
section
variable {X:Cx}{pins:List (Addr×Obj)}{U:St}{H:Hp}{s:Shared}{a:Addr}{xs ys:List V}
theorem SqL.of (h:H a=some (.lst xs)):SqL K H a xs:= .inl (.inl h)
theorem SqT.of (h:H a=some (.tup xs)):SqT K H a xs:= .inl (.inl h)
theorem Inv.list (I:Inv X pins U H s)(h:SqL X.K H a xs):∃ its:List Value,Vals xs its/\PlainL s.heap a its.toArray/\xs.length<=sizeLine:=by
 rcases h with h|⟨o,its,n,hk,hc,hd,hs,hz,r⟩
 ·obtain ⟨z,its,n,r,e⟩:=h.ok I.hok;exact ⟨its,r,⟨_,n,e,rfl,rfl,rfl⟩,z⟩
 ·refine ⟨its.toList,r,⟨o,n,I.kIn a o hk,hc,hd,by simpa using hs⟩,?_⟩;have e:=r.length;simp only [Array.length_toList] at e;omega
theorem Inv.tuple (I:Inv X pins U H s)(h:SqT X.K H a xs):∃ its:List Value,Vals xs its/\IsTup s.heap a its.toArray/\xs.length<=sizeLine:=by
 rcases h with h|⟨o,its,n,hk,hc,hs,hz,r⟩
 ·obtain ⟨z,its,r,p⟩:=h.ok I.hok;exact ⟨its,r,p,z⟩
 ·refine ⟨its.toList,r,⟨o,I.kIn a o hk,hc,n,by simpa using hs⟩,?_⟩;have e:=r.length;simp only [Array.length_toList] at e;omega
theorem Inv.list_inj (I:Inv X pins U H s)(h:SqL X.K H a xs)(h':SqL X.K H a ys):xs=ys:=by
 obtain ⟨its,r,⟨o,n,e,_,_,d⟩,_⟩:=I.list h;obtain ⟨its',r',⟨o',n',e',_,_,d'⟩,_⟩:=I.list h';rw [e] at e';cases e';rw [d] at d';injection d' with d1 _;have:its=its':=by simpa using congrArg Array.toList d1
 subst this;exact r.inj r'
theorem Inv.tuple_inj (I:Inv X pins U H s)(h:SqT X.K H a xs)(h':SqT X.K H a ys):xs=ys:=by
 obtain ⟨its,r,⟨o,e,_,n,d⟩,_⟩:=I.tuple h;obtain ⟨its',r',⟨o',e',_,n',d'⟩,_⟩:=I.tuple h';rw [e] at e';cases e';rw [d] at d';injection d' with d1 _;have:its=its':=by simpa using congrArg Array.toList d1
 subst this;exact r.inj r'
end
abbrev Cx.wish (X:Cx)(E:Value->Shared->Prop):Cx:={ X with xe:=E }
abbrev Cx.nox (X:Cx):Cx:=X.wish λ_ _=>False
theorem Cx.Ok.wish (ok:X.Ok)(E:Value->Shared->Prop):(X.wish E).Ok :=
 ⟨ok.mod,ok.kind,ok.glob,ok.blt,ok.above,ok.inj,ok.has,ok.cab,ok.hd,ok.frames,ok.stk,ok.exf,ok.bs,ok.bsz,ok.noex,ok.exfs,ok.funs,ok.frf,ok.tbs⟩
theorem Cx.Ok.unwish (ok:(X.wish E).Ok):X.Ok :=
 ⟨ok.mod,ok.kind,ok.glob,ok.blt,ok.above,ok.inj,ok.has,ok.cab,ok.hd,ok.frames,ok.stk,ok.exf,ok.bs,ok.bsz,ok.noex,ok.exfs,ok.funs,ok.frf,ok.tbs⟩
section
variable {X:Cx}{pins:List (Addr×Obj)}{U:St}{H:Hp}{s:Shared}{E:Value->Shared->Prop}
theorem Inv.wish (I:Inv X pins U H s)(E:Value->Shared->Prop):Inv (X.wish E) pins U H s:=⟨I.ok.wish E,I.os,I.bare,I.base,I.loc,I.cell,I.free,I.freeC,I.pin,I.hok,I.len⟩
theorem Inv.unwish (I:Inv (X.wish E) pins U H s):Inv X pins U H s:=⟨I.ok.unwish,I.os,I.bare,I.base,I.loc,I.cell,I.free,I.freeC,I.pin,I.hok,I.len⟩
theorem SP.unwish {f:Flow}(h:SP (X.wish E) pins D f s'):SP X pins D f s':=by
 cases f with
 |next=>obtain ⟨σ',H',I,q⟩:=h;exact ⟨σ',H',I.unwish,q⟩
 |brk=>obtain ⟨σ',H',I,q⟩:=h;exact ⟨σ',H',I.unwish,q⟩
 |cont=>obtain ⟨σ',H',I,q⟩:=h;exact ⟨σ',H',I.unwish,q⟩
 |ret u=>obtain ⟨v,σ',H',I,r,q⟩:=h;exact ⟨v,σ',H',I.unwish,r,q⟩
theorem PSs.nox {st:List Stmt}{t:TS}(h:PSs X.nox st t):PSs X st t:=λpins s U H D I hw =>
 wpAny_mono (h pins s U H D (I.wish _) hw) (λ_ _ q=>q.unwish) λ_ _ z=>False.elim z
end
section
variable {X:Cx}{st:Stmt}{rest:List Stmt}{t u:TS}{e:Expr}{te:TE}{pos:Pos}
def jT:TS:=λD U H=>D.nx U H
def tSeq (t u:TS):TS:=λD U H=>t { D with nx:=u D } U H
theorem qB:PSs X [] jT:=λ_ _ U H _ I h=>wpAny_execs_nil ⟨U,H,I,h⟩
theorem v6 (h1:PS X st t)(h2:PSs X rest u):PSs X (st::rest) (tSeq t u):=by
 intro pins s U H D I h;refine wpAny_execs_cons (z0 (h1 pins s U H { D with nx:=u D } I h) λf s1 q=>?_);cases f with
 |next=>obtain ⟨σ',H',I',q⟩:=q;exact h2 pins s1 σ' H' D I' q
 |ret v=>exact q
 |brk=>exact q
 |cont=>exact q
theorem g0 (h1:PS X st t):PSs X [st] t:=by
 intro pins s U H D I h;refine wpAny_execs_cons (z0 (h1 pins s U H D I h) λf s1 q=>?_);cases f with
 |next=>exact wpAny_execs_nil q
 |ret v=>exact q
 |brk=>exact q
 |cont=>exact q
theorem Inv.quiet {s:Shared}(I:Inv X pins U H s):interactive X.env=false:=by simp [interactive,I.ok.kind]
def jS (te:TE):TS:=λD U H=>te U H λ_ H1=>D.nx U H1
def zf (te:TE):TS:=λD U H=>te U H D.rt
theorem d9 (he:PE X e te):PS X (.Return (some e) pos) (zf te):=by intro pins s U H D I h;exact wpAny_Return_some (z0 (he pins s U H _ I h) λv s1 ⟨x,H1,I1,r1,q1⟩=>⟨x,U,H1,I1,r1,q1⟩)
def tIfS (c:TT)(t u:TS):TS:=λD U H=>c U H λb H1=>if b=true then t D U H1 else u D U H1
theorem qA {c:Expr}{a b:List Stmt}{tc:TT}(hc:PT X c tc)(ha:PSs X a t)(hb:PSs X b u):PS X (.If c a b pos) (tIfS tc t u):=by
 intro pins s U H D I h;refine wpAny_If (z0 (hc pins s U H _ I h) λd s1 ⟨H1,I1,q1⟩=>?_);cases d with
 |true=>exact ha pins s1 U H1 D I1 q1
 |false=>exact hb pins s1 U H1 D I1 q1
end
abbrev TG:=V->St->Hp->(St->Hp->Prop)->Prop
variable{g:TG}
abbrev TGs:=List V->St->Hp->(St->Hp->Prop)->Prop
def PG (X:Cx)(target:Expr)(t:TG):Prop :=
 ∀(pins:List (Addr×Obj))(s:Shared)(U:St)(H:Hp)(v:V)(u:Value)(Q:St->Hp->Prop),Inv X pins U H s->RelV v u->t v U H Q ->
  wpAny (model X.prog X.w) X.A (assign target X.env u) (λ_ s'=>∃ σ' H',Inv X pins σ' H' s'/\Q σ' H') X.xe s
def PGs (X:Cx)(ts:List Expr)(t:TGs):Prop :=
 ∀(pins:List (Addr×Obj))(s:Shared)(U:St)(H:Hp)(vs:List V)(us:List Value)(Q:St->Hp->Prop),Inv X pins U H s->Vals vs us->t vs U H Q ->
  wpAny (model X.prog X.w) X.A (assignInOrder ((assignEach ts X.env).map (·.2)) us) (λ_ s'=>∃ σ' H',Inv X pins σ' H' s'/\Q σ' H') X.xe s
abbrev TSet:=V->V->V->Hp->(Hp->Prop)->Prop
def PSet (X:Cx)(t:TSet):Prop :=
 ∀(pins:List (Addr×Obj))(s:Shared)(U:St)(H:Hp)(o i v:V)(ov iv u:Value)(Q:Hp->Prop),Inv X pins U H s->RelV o ov->RelV i iv->RelV v u->t o i v H Q ->
  wpAny (model X.prog X.w) X.A (setItem ov iv u) (λ_ s'=>∃ H',Inv X pins U H' s'/\Q H') X.xe s
section
variable {X:Cx}{pos:Pos}
def c6 (i:Nat):TG:=λv U H Q=>Q (U.set i (some v)) H
theorem xY {i:Nat}(hN:X.N.Nodup)(hi:X.N[i]?=some x)(hx:Loc X.env.scope x)(hf:X.fn x=true∨X.env.scope.names.lookup x=some .local:=by first|exact .inl rfl|exact .inr rfl|assumption):PG X (.Name x pos) (c6 i):=by intro pins s U H v u Q I r h;exact wpAny_assign_Name (jR I hN hi hx r (λs' I'=>⟨_,H,I',h⟩) hf)
def gNil:TGs:=λvs U H Q=>vs=[]/\Q U H
def jh (t:TG)(u:TGs):TGs:=λvs U H Q=>∃ v r,vs=v::r/\t v U H λσ' H'=>u r σ' H' Q
theorem Jh:PGs X [] gNil:=by intro pins s U H vs us Q I r h;obtain ⟨e,h⟩:=h;subst e;cases r;exact assignInOrder_nil ⟨U,H,I,h⟩
theorem wN {t:TG}{u:TGs}(h1:PG X e t)(h2:PGs X es u)(hs:(assignEach (e::es) X.env).map (·.2)=assign e X.env::(assignEach es X.env).map (·.2):=by rfl):PGs X (e::es) (jh t u):=by
 intro pins s U H vs us Q I r h;obtain ⟨v,vr,e1,h⟩:=h;subst e1;cases r with
 |cons r rr=>rw [hs];refine assignInOrder_cons (z0 (h1 pins s U H _ _ _ I r h) λ_ s1 ⟨σ1,H1,I1,q1⟩=>?_);exact h2 pins s1 σ1 H1 _ _ Q I1 rr q1
def gTup (K:Fg)(n:Nat)(t:TGs):TG:=λv U H Q=>∃ a xs,v = .ref a/\SqT K H a xs/\xs.length=n/\t xs U H Q
theorem Jf {t:TGs}(hc:X.calm=true)(h:PGs X es t)(hn:(assignEach es X.env).length=n:=by rfl)(hst:(assignEach es X.env).findIdx? (·.1)=none:=by rfl):PG X (.Tuple es k pos) (gTup X.K n t):=by intro pins s U H v u Q I r hw;obtain ⟨a,xs,e1,hq,hl,hw⟩:=hw;subst e1;cases r;obtain ⟨its,rv,ht,hz⟩:=I.tuple hq;refine assign_Tuple_tuple (I.ok.hd hc) ht (by simp [hn,<- hl,rv.length]) hst λh' hx=>?_;have I1:Inv X pins U H { s with heap:=h' }:=I.kept (t':=s.toks) λb o e=>hx b o (yP (yU e)) e;exact h pins _ U H xs _ Q I1 (by simpa using rv) hw
def gSub (to ti:TE)(t:TSet):TG:=λv U H Q=>to U H λo H1=>ti U H1 λi H2=>t o i v H2 λH3=>Q U H3
theorem Je {o i:Expr}{to ti:TE}{t:TSet}(ho:PE X o to)(hi:PE X i ti)(hs:PSet X t)
  (ha:∀ v,assign (.Subscript o i pos) X.env v=(do
   let ov <- holding [v] (eval o X.env)
   let iv <- holding [v,ov] (eval i X.env)
   standAt pos
   holding [v,ov,iv] (setItem ov iv v)
   release [v,ov,iv] []):=by intro _;rfl):PG X (.Subscript o i pos) (gSub to ti t):=by
 intro pins s U H v u Q I r h;rw [ha];refine yW (wpAny_holding (z0 (ho pins s U H _ I h) λov s1 ⟨x,H1,I1,r1,q1⟩=>?_));refine yW (wpAny_holding (z0 (hi pins s1 U H1 _ I1 q1) λiv s2 ⟨y,H2,I2,r2,q2⟩=>?_));refine yW (wpAny_standAt (yW (wpAny_holding (z0 (hs pins s2 U H2 x y v ov iv u _ I2 r1 r2 r q2) λ_ s3 ⟨H3,I3,q3⟩=>?_))));exact wpAny_release ⟨U,H3,I3,q3⟩
def qq (te:TE)(g:TG):TS:=λD U H=>te U H λx H1=>g x U H1 D.nx
theorem Jr {te:TE}(he:PE X e te)(hg:PG X tg g)(hs:swapsWithSole [tg] e pos.line X.env=pure false:=by rfl)(hw:swappedStores [tg] e X.env=pure none:=by rfl)(h1:(assignEach [tg] X.env).map (·.2)=[assign tg X.env]:=by rfl):PS X (.Assign [tg] e pos) (qq te g):=by intro pins s U H D I h;refine wpAny_Assign_stores (z0 (he pins s U H _ I h) λv s1 ⟨x,H1,I1,r1,q1⟩=>?_) hs hw;rw [h1];exact z0 (hg pins s1 U H1 x v _ I1 r1 q1) λ_ s2 q=>q
theorem qo {i:Nat}{x:Str}{e:Expr}{te:TE}{pos':Pos}(hN:X.N.Nodup)(hi:X.N[i]?=some x)(hx:Loc X.env.scope x)(he:PE X e te)(hs:swapsWith e (some (.Name x pos')) pos.line X.env=pure false:=by rfl)(hf:X.fn x=true∨X.env.scope.names.lookup x=some .local:=by first|exact .inl rfl|exact .inr rfl|assumption):PS X (.Assign [.Name x pos'] e pos) (qq te (c6 i)):=by intro pins s U H D I h;refine wpAny_Assign_Name (z0 (he pins s U H _ I h) λv s1 ⟨y,H1,I1,r1,q1⟩=>?_) hs;exact jR I1 hN hi hx r1 (λs2 I2=>⟨_,H1,I2,q1⟩) hf
end
structure It where
 go:Nat->Hp->Prop
 yld:Nat->Hp->V->Hp->Prop
 stop:Nat->Hp->Prop
def m5 (X:Cx)(pins:List (Addr×Obj))(H:Hp)(b:Addr):Prop :=
 H b=none/\b≠X.env.locals/\b∉X.fs/\(b∈X.ex∨X.s₀.heap.objs.size<=b)/\(∀ x c,X.env.cells.lookup x=some c->c≠b)/\∀ p∈X.pn++pins,p.1≠b
theorem Inv.fpOk {H':Hp}{s:Shared}(I:Inv X pins U H s)(hb:s.heap.objs.size<=b)(hn:H' b=none):m5 X pins H' b:=by
 refine ⟨hn,Nat.ne_of_gt (yQ I.lt hb),I.nofs hb,.inr (yt I.sz hb),λx c e z=>?_,λp hp z=>?_⟩
 ·obtain ⟨v,q⟩:=I.cell x c e;exact absurd (yQ q.lt (by rw [z];exact hb)) (yj _)
 ·exact absurd (yQ (yU (I.pin p hp).1) (by rw [z];exact hb)) (yj _)
structure qF (P:Program)(w:World)(K:Fg)(tg:Expr)(J:It)(fp:List Addr)(it:Addr)(tn:Nat->Heap->Prop):Prop where
 mem:it∈fp
 obj:∀ i h,tn i h->∀ b∈fp,∃ o,h.get? b=some o/\∀ v,o.data ≠ .cell v
 keep:∀ i h h',tn i h->(∀ b∈fp,∀ o,h.get? b=some o->h'.get? b=some o)->tn i h'
 item:∀(X:Cx),X.prog=P->X.w=w->X.K=K->X.calm=true->∀(i:Nat)(pins:List (Addr×Obj))(s:Shared)(U:St)(H:Hp)(E:Value->Shared->Prop),Inv X pins U H s->(∀ b∈fp,m5 X pins H b)->tn i s.heap->J.go i H ->
  wpAny (model P w) X.A (pyNext (.ref it)) (λr s1=>∃ u,r=some u /\
   wpAny (model P w) X.A (letOwnedTupleGo tg (.ref it) u) (λ_ s2=>∃ x H',Inv X pins U H' s2/\RelV x u/\J.yld i H x H'/\tn (i+1) s2.heap/\∀ b∈fp,H' b=none) E s1) E s
 done:∀(X:Cx),X.prog=P->X.w=w->X.K=K->X.calm=true->∀(i:Nat)(pins:List (Addr×Obj))(s:Shared)(U:St)(H:Hp)(E:Value->Shared->Prop),Inv X pins U H s->(∀ b∈fp,m5 X pins H b)->tn i s.heap->J.stop i H ->
  wpAny (model P w) X.A (pyNext (.ref it)) (λr s1=>r=none/\Inv X pins U H s1) E s
 self:∀(A:Around)(i:Nat)(s:Shared)(Q:Value->Shared->Prop)(E:Value->Shared->Prop),tn i s.heap->Q (.ref it) s->wpAny (model P w) A (pyIter (.ref it)) Q E s
abbrev TI:=St->Hp->(It->Hp->Prop)->Prop
def PIE (X:Cx)(pins:List (Addr×Obj))(U:St)(tg:Expr)(R:It->Hp->Prop)(itv:Value)(s2:Shared):Prop :=
 ∃(it:Addr)(fp:List Addr)(tn:Nat->Heap->Prop)(J:It)(H':Hp),itv = .ref it/\Inv X pins U H' s2/\qF X.prog X.w X.K tg J fp it tn/\tn 0 s2.heap/\(∀ b∈fp,m5 X pins H' b)/\R J H'
def PI (X:Cx)(tg iter:Expr)(wi:TI):Prop :=
 ∀(pins:List (Addr×Obj))(s:Shared)(U:St)(H:Hp)(R:It->Hp->Prop),Inv X pins U H s->wi U H R ->
  wpAny (model X.prog X.w) X.A (eval iter X.env) (λv s1=>wpAny (model X.prog X.w) X.A (pyIter v) (PIE X pins U tg R) X.xe s1) X.xe s
theorem zF {M:Model}{s:Shared}{o:Obj}{n:String}{vs:Array Value}{Q:Unit->Shared->Prop}(ho:s.heap.get? it=some o)(hc:o.cls = .type n)(hd:o.data = .fields vs)(hn:["enumerate","zip","dict_itemiterator","dict_reverseitemiterator","odict_iterator","itertools.zip_longest","itertools.pairwise"].contains n=false)(hQ:Q () s):wpAny M A (letOwnedTupleGo tg (.ref it) u) Q E s:=by
  unfold letOwnedTupleGo;cases tg<;>first
    |exact yM hQ
    | (cases u <;> first
        |exact yM hQ
        | (refine yW (wpAny_load ho ?_)
           rw [hc,hd];show wpAny M A (if (["enumerate","zip","dict_itemiterator","dict_reverseitemiterator","odict_iterator","itertools.zip_longest","itertools.pairwise"].contains n&&vs[0]?==some (rawInt _))=true then _ else _) Q E s;rw [if_neg (by intro h;rw [hn,Bool.false_and] at h;cases h)];exact yM hQ))
def Itl (K:Fg)(a:Addr):It :=
 ⟨λi H=>∃ xs x,SqL K H a xs/\xs[i]?=some x,λi H x H'=>H'=H/\∀ xs,SqL K H a xs->xs[i]?=some x,λi H=>∃ xs,SqL K H a xs/\xs.length<=i⟩
def Itt (K:Fg)(a:Addr):It :=
 ⟨λi H=>∃ xs x,SqT K H a xs/\xs[i]?=some x,λi H x H'=>H'=H/\∀ xs,SqT K H a xs->xs[i]?=some x,λi H=>∃ xs,SqT K H a xs/\xs.length<=i⟩
def Itr (lo:Int)(n:Nat):It:=⟨λi _=>i<n,λi H x H'=>H'=H/\x = .int (lo+i),λi _=>n<=i⟩
theorem Vl (a it:Addr):qF P w K tg (Itl K a) [it] it (λi h=>h.IsListIter it a i) where
 mem:=by simp
 obj:=λi h st b hb=>by
  have e:b=it:=by simpa using hb
  subst e;obtain ⟨o,e,c,d⟩:=st;exact ⟨o,e,λv z=>by rw [d] at z;cases z⟩
 keep:=λi h h' st k=>st.at λo e=>k it (by simp) o e
 item:=by intro X hP hw hK hc i pins s U H E I hf st hg;subst hP hw hK;obtain ⟨xs,x,hq,hx⟩:=hg;obtain ⟨its,rv,p,hz⟩:=I.list hq;obtain ⟨u,hu,ru⟩:=rv.get hx;obtain ⟨f0,f1,f2,f3,f4,f5⟩:=hf it (by simp);refine wpAny_pyNext_list_item st p.isList (x:=u) (by simpa using hu) λh' st' sb=>?_;have I1:Inv X pins U H { s with heap:=h' }:=I.turned (t':=s.toks) (λb o hb e=>(sb.2 b hb).trans e) f0 f1 f3 f4 f5;obtain ⟨o,e,c,d⟩:=id st';exact ⟨u,rfl,zF (s:={ s with heap:=h' }) e c d (by decide) ⟨x,H,I1,ru,⟨rfl,λys hy=>by rw [I.list_inj hy hq];exact hx⟩,st',λb hb=>(hf b hb).1⟩⟩
 done:=by intro X hP hw hK hc i pins s U H E I hf st hg;subst hP hw hK;obtain ⟨xs,hq,hx⟩:=hg;obtain ⟨its,rv,p,hz⟩:=I.list hq;obtain ⟨f0,f1,f2,f3,f4,f5⟩:=hf it (by simp);have hl:=rv.length;exact wpAny_pyNext_list_end (I.ok.hd hc) st p.isList (by simp;omega) λh' eb=>⟨rfl,I.turned (t':=s.toks) (λb o hb e=>eb b o hb e) f0 f1 f3 f4 f5⟩
 self:=λ_ _ _ _ _ st h=>wpAny_pyIter_listiter st h
theorem Vo (a it:Addr):qF P w K tg (Itt K a) [it] it (λi h=>h.IsTupleIter it a i) where
 mem:=by simp
 obj:=λi h st b hb=>by
  have e:b=it:=by simpa using hb
  subst e;obtain ⟨o,e,c,d⟩:=st;exact ⟨o,e,λv z=>by rw [d] at z;cases z⟩
 keep:=λi h h' st k=>st.at λo e=>k it (by simp) o e
 item:=by intro X hP hw hK hc i pins s U H E I hf st hg;subst hP hw hK;obtain ⟨xs,x,hq,hx⟩:=hg;obtain ⟨its,rv,p,hz⟩:=I.tuple hq;obtain ⟨u,hu,ru⟩:=rv.get hx;obtain ⟨f0,f1,f2,f3,f4,f5⟩:=hf it (by simp);refine wpAny_pyNext_tuple_item st (show s.heap.IsTuple a its.toArray from p) (x:=u) (by simpa using hu) λh' st' sb=>?_;have I1:Inv X pins U H { s with heap:=h' }:=I.turned (t':=s.toks) (λb o hb e=>(sb.2 b hb).trans e) f0 f1 f3 f4 f5;obtain ⟨o,e,c,d⟩:=id st';exact ⟨u,rfl,zF (s:={ s with heap:=h' }) e c d (by decide) ⟨x,H,I1,ru,⟨rfl,λys hy=>by rw [I.tuple_inj hy hq];exact hx⟩,st',λb hb=>(hf b hb).1⟩⟩
 done:=by intro X hP hw hK hc i pins s U H E I hf st hg;subst hP hw hK;obtain ⟨xs,hq,hx⟩:=hg;obtain ⟨its,rv,p,hz⟩:=I.tuple hq;obtain ⟨f0,f1,f2,f3,f4,f5⟩:=hf it (by simp);have hl:=rv.length;exact wpAny_pyNext_tuple_end (I.ok.hd hc) st (show s.heap.IsTuple a its.toArray from p) (by simp;omega) λh' eb=>⟨rfl,I.turned (t':=s.toks) (λb o hb e=>eb b o hb e) f0 f1 f3 f4 f5⟩
 self:=λ_ _ _ _ _ st h=>wpAny_pyIter_tupleiter st h
theorem Vm (it:Addr)(lo:Int)(n:Nat):qF P w K tg (Itr lo n) [it] it (λi h=>IsRangeIter h it (lo+(i:Nat)*1) ((n:Int)-(i:Nat)) 1) where
 mem:=by simp
 obj:=λi h st b hb=>by
  have e:b=it:=by simpa using hb
  subst e;exact ⟨_,st,λv z=>by
   have z':Data.fields _=Data.cell v:=z;cases z'⟩
 keep:=λi h h' st k=>k it (by simp) _ st
 item:=by intro X hP hw hK hc i pins s U H E I hf st hg;subst hP hw hK;obtain ⟨f0,f1,f2,f3,f4,f5⟩:=hf it (by simp);have W:=Walks.range (prog:=X.prog) (w:=X.w) (I.ok.hd hc) it lo 1 n;refine W.item i s _ _ hg st λv h' tk hv st' kk=>?_;obtain ⟨t,rfl⟩:=hv;have I1:Inv X pins U H { s with heap:=h',toks:=tk }:=I.turned (λb o hb e=>kk b o (by simpa using hb) e) f0 f1 f3 f4 f5;refine ⟨_,rfl,zF (s:={ s with heap:=h',toks:=tk }) (n:="range_iterator") st' rfl rfl (by decide) ⟨.int (lo+i),H,I1,⟨t,?_⟩,⟨rfl,rfl⟩,st',λb hb=>(hf b hb).1⟩⟩;rw [Int.mul_one]
 done:=by intro X hP hw hK hc i pins s U H E I hf st hg;subst hP hw hK;obtain ⟨f0,f1,f2,f3,f4,f5⟩:=hf it (by simp);exact wpAny_pyNext_range_end (I.ok.hd hc) st (by have:n<=i:=hg;omega) λh' eb=>⟨rfl,I.turned (t':=s.toks) (λb o hb e=>eb b o hb e) f0 f1 f3 f4 f5⟩
 self:=λ_ _ _ _ _ st h=>wpAny_pyIter_rangeiter st h
section
variable {X:Cx}{tg:Expr}
def jj (K:Fg)(tl:TE):TI:=λU H R=>tl U H λx H1=>∃ a,x = .ref a/\(∃ xs,SqL K H1 a xs)/\R (Itl K a) H1
def iTup (K:Fg)(tl:TE):TI:=λU H R=>tl U H λx H1=>∃ a,x = .ref a/\(∃ xs,SqT K H1 a xs)/\R (Itt K a) H1
theorem Jk (hl:PE X l tl):PI X tg l (jj X.K tl):=by
 intro pins s U H R I h;refine z0 (hl pins s U H _ I h) λv s1 ⟨x,H1,I1,r1,q1⟩=>?_;obtain ⟨a,e,⟨xs,hq⟩,q⟩:=q1;subst e;cases r1;obtain ⟨its,rv,p,hz⟩:=I1.list hq;refine wpAny_pyIter_list p.isList ?_;refine ⟨s1.heap.objs.size,[s1.heap.objs.size],_,_,H1,rfl,I1.kept (t':=s1.toks) λb o e=>yV _ e,Vl a _,⟨_,yz _ rfl,rfl,rfl⟩,λb hb=>?_,q⟩;have e:b=s1.heap.objs.size:=by simpa using hb
 subst e;exact I1.fpOk (yT _) (I1.hok.fresh (yT _))
theorem Jm (hl:PE X l tl):PI X tg l (iTup X.K tl):=by
 intro pins s U H R I h;refine z0 (hl pins s U H _ I h) λv s1 ⟨x,H1,I1,r1,q1⟩=>?_;obtain ⟨a,e,⟨xs,hq⟩,q⟩:=q1;subst e;cases r1;obtain ⟨its,rv,p,hz⟩:=I1.tuple hq;refine wpAny_pyIter_tuple (show s1.heap.IsTuple a its.toArray from p) ?_;refine ⟨s1.heap.objs.size,[s1.heap.objs.size],_,_,H1,rfl,I1.kept (t':=s1.toks) λb o e=>yV _ e,Vo a _,⟨_,yz _ rfl,rfl,rfl⟩,λb hb=>?_,q⟩;have e:b=s1.heap.objs.size:=by simpa using hb
 subst e;exact I1.fpOk (yT _) (I1.hok.fresh (yT _))
theorem JC {s:Shared}{R:It->Hp->Prop}{hi:Int}{t u v:Tok}{tk:Nat}(I:Inv X pins U H s)(h1:-(2 ^ 62)<=lo)(h2:lo<2 ^ 62)(h3:-(2 ^ 62)<=hi)(h4:hi<2 ^ 62)(q:R (Itr lo (hi-lo).toNat) H):wpAny (model X.prog X.w) X.A (pyIter (.ref s.heap.objs.size)) (PIE X pins U tg R) E { s with heap:=s.heap.push { cls:= .type "range",data:= .fields #[.int lo t,.int hi u,.int 1 v] },toks:=tk }:=by
 refine wpAny_pyIter_range (IsRange.new ..) (small_one h1 h2 h3 h4) ?_;have I1:Inv X pins U H { s with heap:=s.heap.push { cls:= .type "range",data:= .fields #[.int lo t,.int hi u,.int 1 v] },toks:=tk }:=I.kept λb o e=>yV _ e;refine ⟨(s.heap.push { cls:= .type "range",data:= .fields #[.int lo t,.int hi u,.int 1 v] }).objs.size,[(s.heap.push { cls:= .type "range",data:= .fields #[.int lo t,.int hi u,.int 1 v] }).objs.size],_,_,H,rfl,
  I1.kept (t':=tk) λb o e=>yV _ e,Vm _ lo (hi-lo).toNat,?_,λb hb=>?_,q⟩
 ·have e1:lo+((0:Nat):Int)*1=lo:=by simp
  have e2:(((hi-lo).toNat:Nat):Int)-((0:Nat):Int)=Builtin.Range.rangeSize lo hi 1:=by rw [rangeSize_one];split<;>omega
  show IsRangeIter _ _ (lo+((0:Nat):Int)*1) ((((hi-lo).toNat:Nat):Int)-((0:Nat):Int)) 1;rw [e1,e2];exact yz _ rfl
 ·have e:b=(s.heap.push { cls:= .type "range",data:= .fields #[.int lo t,.int hi u,.int 1 v] }).objs.size:=by simpa using hb
  subst e;exact I1.fpOk (yT _) (I1.hok.fresh (yT _))
def jk (ta:TA):TI:=λU H R=>ta U H λvs H1=>∃ j:Int,vs=[.int j]/\-(2 ^ 62)<=j/\j<2 ^ 62/\R (Itr 0 j.toNat) H1
theorem jD {a:Expr}{ta:TA}{p:Pos}(hg:Gl X "range")(hm:X.mg "range"=none)(ha:PA X [a] ta)(hs:starEach [a] X.env=[(false,eval a X.env)]:=by rfl):PI X tg (.Call (.Name "range" p) [a] [] pos) (jk ta):=by
 intro pins s U H R I h;refine Call_ (xn I hg hm boot_range (PyProof.Rows.callWith_type1 (z0 (ha pos pins s U H _ I h) λus s1 ⟨vs,H1,I1,r1,q1⟩=>?_) hs rfl));obtain ⟨j,e,q1,q2,q⟩:=q1;subst e;cases r1 with
 |cons r rr=>cases rr;obtain ⟨t,rfl⟩:=r;exact call_range_1 (JC I1 (by omega) (by omega) q1 q2 (by simpa using q))
def tFor (wi:TI)(g:TG)(tb:TS):TS:=λD U H=>wi U H λJ H1=>∃ W:Nat->Nat->St->Hp->Prop,(∃ m,W 0 m U H1)/\∀ i m U H,W i m U H ->
 (J.stop i H/\D.nx U H)∨(J.go i H/\∃ N:St->Hp->Prop,(∀ σ' H',N σ' H'->∃ m',m'<m/\W (i+1) m' σ' H')/\∀ x H',J.yld i H x H'->g x U H' λσ2 H2=>tb { D with nx:=N,ct:=N,bk:=D.nx } σ2 H2)
def xZ (fp:List Addr)(h:Heap):List (Addr×Obj):=fp.filterMap λb=>(h.get? b).map λo=>(b,o)
theorem zI {o:Obj}(hb:b∈fp)(e:h.get? b=some o):(b,o)∈xZ fp h:=yn.mpr ⟨b,hb,by rw [e];rfl⟩
theorem ZD {p:Addr×Obj}(hp:p∈xZ fp h):p.1∈fp/\h.get? p.1=some p.2:=by
 obtain ⟨b,hb,e⟩:=yn.mp hp;cases q:h.get? b with
 |none=>rw [q] at e;cases e
 |some o=>rw [q] at e;have e':(b,o)=p:=Option.some.inj e;subst e';exact ⟨hb,q⟩
theorem Inv.pinned {s:Shared}(I:Inv X pins U H s)(hf:∀ b∈fp,m5 X pins H b)(ho:∀ b∈fp,∃ o,s.heap.get? b=some o/\∀ v,o.data ≠ .cell v):Inv X (pins++xZ fp s.heap) U H s :=
 I.pins_of λp hp=>(yE.mp hp).elim (λz=>I.pin p (yN _ z)) λz=>by
  obtain ⟨hb,e⟩:=ZD z;obtain ⟨f0,f1,f2,_⟩:=hf p.1 hb;obtain ⟨o,e',d⟩:=ho p.1 hb;rw [e] at e';cases e';exact ⟨e,f0,f1,f2,d⟩
theorem Inv.unpinned {pl:List (Addr×Obj)}{s:Shared}(I:Inv X (pins++pl) U H s):Inv X pins U H s:=I.pins_of λp hp=>I.pin p (yN _ (yB _ hp))
theorem zb {iter:Expr}{wi:TI}(hp:PassesOwn (model X.prog X.w) X.A X.env X.xe)(hc:X.calm=true)(hi:PI X tg iter wi)(hg:PG X tg g)(hb:PSs X body tb)(hs:∀ x,foldedSetIterable iter X.env x=pure x:=by intro _;rfl):PS X (.For tg iter body [] pos) (tFor wi g tb):=by
 intro pins s U H D I h;refine wpAny_For (z0 (hi pins s U H _ I h) λv s1 h1=>z0 h1 λitv s2 h2=>?_) hs;obtain ⟨it,fp,tn,J,H2,e,I2,T,st2,f2,W,⟨m0,w0⟩,turn⟩:=h2;subst e
 -- what stays true of the iterator's objects through the loop
 have stat:∀{H':Hp},(∀ b∈fp,H' b=none)->∀ b∈fp,m5 X pins H' b:=λhn b hb=>⟨hn b hb,(f2 b hb).2⟩;refine codeAny_forLoop_any (λn s'=>∃ i σ' H',Inv X pins σ' H' s'/\tn i s'.heap/\(∀ b∈fp,H' b=none)/\W i n σ' H') ?_ m0 ⟨0,U,H2,I2,st2,λb hb=>(f2 b hb).1,w0⟩;rintro n s3 ⟨i,σ3,H3,I3,st3,fr3,w3⟩;rcases turn i n σ3 H3 w3 with ⟨stop,qn⟩|⟨go,N,hN,step⟩
 ·refine wpAny_passesOwn hp (z0 (T.done X rfl rfl rfl hc i pins s3 σ3 H3 X.xe I3 (stat fr3) st3 stop) λr s4 ⟨hr,I4⟩=>?_);subst hr;exact wpAny_execs_nil ⟨σ3,H3,I4,qn⟩
 ·refine wpAny_passesOwn hp (z0 (T.item X rfl rfl rfl hc i pins s3 σ3 H3 X.xe I3 (stat fr3) st3 go) λr s4 ⟨u,hr,h4⟩=>?_);subst hr;refine wpAny_passesOwn hp (z0 h4 λ_ s5 ⟨x,H5,I5,r5,y5,st5,fr5⟩=>?_);have I5':=I5.pinned (stat fr5) (T.obj _ _ st5);refine wpAny_passesOwn hp (z0 (hg _ s5 σ3 H5 x u _ I5' r5 (step x H5 y5)) λ_ s6 ⟨σ6,H6,I6,q6⟩=>?_);refine wpAny_passesOwn hp (z0 (hb _ s6 σ6 H6 _ I6 q6) λf s7 q7=>?_);have again:∀{σ7:St}{H7:Hp},Inv X (pins++xZ fp s5.heap) σ7 H7 s7->N σ7 H7->∃ m,m<n/\∃ i σ' H',Inv X pins σ' H' s7/\tn i s7.heap/\(∀ b∈fp,H' b=none)/\W i m σ' H':=λ{σ7 H7} I7 n7=>by
   obtain ⟨m',hm,w7⟩:=hN σ7 H7 n7;refine ⟨m',hm,i+1,σ7,H7,I7.unpinned,T.keep _ _ _ st5 λb hb o e=>(I7.pin (b,o) (yN _ (yN _ (zI hb e)))).1,λb hb=>?_,w7⟩;obtain ⟨o,e,d⟩:=T.obj _ _ st5 b hb;exact (I7.pin (b,o) (yN _ (yN _ (zI hb e)))).2.1
  cases f with
  |next=>obtain ⟨σ7,H7,I7,n7⟩:=q7;exact again I7 n7
  |cont=>obtain ⟨σ7,H7,I7,n7⟩:=q7;exact again I7 n7
  |brk=>obtain ⟨σ7,H7,I7,q7⟩:=q7;exact ⟨σ7,H7,I7.unpinned,q7⟩
  |ret v=>obtain ⟨x7,σ7,H7,I7,r7,q7⟩:=q7;exact ⟨x7,σ7,H7,I7.unpinned,r7,q7⟩
end
theorem XG (Pv:Nat->St->Hp->Prop)(h0:Pv 0 U H)(hs:∀ i U H,i<n->Pv i U H->g (.int (lo+i)) U H λσ2 H2=>tb { D with nx:=Pv (i+1),ct:=Pv (i+1),bk:=D.nx } σ2 H2)(hd:∀ U H,Pv n U H->D.nx U H):∃ W:Nat->Nat->St->Hp->Prop,(∃ m,W 0 m U H)/\∀ i m U H,W i m U H -> ((Itr lo n).stop i H/\D.nx U H)∨((Itr lo n).go i H/\∃ N:St->Hp->Prop,(∀ σ' H',N σ' H'->∃ m',m'<m/\W (i+1) m' σ' H')/\∀ x H',(Itr lo n).yld i H x H'->g x U H' λσ2 H2=>tb { D with nx:=N,ct:=N,bk:=D.nx } σ2 H2):=by
 refine ⟨λi m U H=>m=n-i/\i<=n/\Pv i U H,⟨n,by simp,uT _,h0⟩,?_⟩;rintro i m U H ⟨rfl,hi,p⟩;by_cases hlt:i<n
 ·refine .inr ⟨hlt,Pv (i+1),λσ' H' p'=>⟨n-(i+1),by omega,rfl,hlt,p'⟩,λx H' y=>?_⟩;obtain ⟨e,y⟩:=y;subst e y;exact hs i U _ hlt p
 ·have e:i=n:=by omega
  subst e;exact .inl ⟨yT _,hd U H p⟩
abbrev R2:=V->V->Hp->VK->Prop
variable{r r':R2}
def OpR (X:Cx)(f:Value->Value->Sem Value)(r:R2):Prop :=
 ∀(pins:List (Addr×Obj))(s:Shared)(U:St)(H:Hp)(x y:V)(v u:Value)(Q:VK),Inv X pins U H s->RelV x v->RelV y u->r x y H Q ->
  wpAny (model X.prog X.w) X.A (f v u) (EP X pins U Q) X.xe s
def UnR (X:Cx)(f:Value->Sem Value)(r:V->Hp->VK->Prop):Prop :=
 ∀(pins:List (Addr×Obj))(s:Shared)(U:St)(H:Hp)(x:V)(v:Value)(Q:VK),Inv X pins U H s->RelV x v->r x H Q ->
  wpAny (model X.prog X.w) X.A (f v) (EP X pins U Q) X.xe s
def CallR (X:Cx)(f:Value)(r:List V->Hp->VK->Prop):Prop :=
 ∀(pins:List (Addr×Obj))(s:Shared)(U:St)(H:Hp)(xs:List V)(us:List Value)(Q:VK),Inv X pins U H s->Vals xs us->r xs H Q ->
  wpAny (model X.prog X.w) X.A (call f us) (EP X pins U Q) X.xe s
def TruR (X:Cx)(r:V->Hp->(Bool->Hp->Prop)->Prop):Prop :=
 ∀(pins:List (Addr×Obj))(s:Shared)(U:St)(H:Hp)(x:V)(v:Value)(Q:Bool->Hp->Prop),Inv X pins U H s->RelV x v->r x H Q ->
  wpAny (model X.prog X.w) X.A (truthy v) (TP X pins U Q) X.xe s
def tOp (r:R2)(ta tb:TE):TE:=λU H Q=>ta U H λx H1=>tb U H1 λy H2=>r x y H2 Q
def tUn (r:V->Hp->VK->Prop)(ta:TE):TE:=λU H Q=>ta U H λx H1=>r x H1 Q
def rI (C:Int->Int->Prop)(g:Int->Int->V):R2:=λx y H Q=>∃ i j,x = .int i/\y = .int j/\C i j/\Q (g i j) H
def rI0 (g:Int->Int->V):R2:=λx y H Q=>∃ i j,x = .int i/\y = .int j/\Q (g i j) H
def rU (g:Int->V):V->Hp->VK->Prop:=λx H Q=>∃ i,x = .int i/\Q (g i) H
section
variable {X:Cx}{a b c:Expr}{ta tb tc:TE}{pos:Pos}
theorem binT (ha:PE X a ta)(hb:PE X b tb){s:Shared}(I:Inv X pins U H s)(h:ta U H λx H1=>tb U H1 λy H2=>R x y H2)(hf:∀ v u s2 x y H2,Inv X pins U H2 s2->RelV x v->RelV y u->R x y H2->wpAny (model X.prog X.w) X.A (f v u) Q X.xe s2):wpAny (model X.prog X.w) X.A (eval a X.env) (λv s₁=>wpAny (model X.prog X.w) X.A (eval b X.env) (λu s₂=>wpAny (model X.prog X.w) X.A (f v u) Q X.xe s₂) X.xe s₁) X.xe s:=by refine z0 (ha pins s U H _ I h) λv s1 ⟨x,H1,I1,r1,q1⟩=>?_;refine z0 (hb pins s1 U H1 _ I1 q1) λu s2 ⟨y,H2,I2,r2,q2⟩=>?_;exact hf v u s2 x y H2 I2 r1 r2 q2
theorem j4 {op:Operator}(ho:OpR X (binaryOp op) r)(ha:PE X a ta)(hb:PE X b tb):PE X (.BinOp a op b pos) (tOp r ta tb):=by intro pins s U H Q I h;exact wpAny_BinOp (binT ha hb I h λv u s2 x y H2 I2 rx ry q=>ho pins s2 U H2 x y v u Q I2 rx ry q)
theorem i5 {op:UnaryOp}{r:V->Hp->VK->Prop}(ho:UnR X (unaryOp op) r)(ha:PE X a ta):PE X (.UnaryOp op a pos) (tUn r ta):=by intro pins s U H Q I h;exact UnaryOp_ (z0 (ha pins s U H _ I h) λv s1 ⟨x,H1,I1,r1,q1⟩=>ho pins s1 U H1 x v Q I1 r1 q1)
theorem opI {C:Int->Int->Prop}{g:Int->Int->Int}(rule:∀(i j:Int)(t u:Tok)(s:Shared)(Q:Value->Shared->Prop)(E:Value->Shared->Prop),C i j->Q (.int (g i j) s.toks) { s with toks:=s.toks+1 }->wpAny (model X.prog X.w) X.A (f (.int i t) (.int j u)) Q E s):OpR X f (rI C λi j=> .int (g i j)):=by intro pins s U H x y v u Q I rx ry h;obtain ⟨i,j,rfl,rfl,hc,q⟩:=h;obtain ⟨t,rfl⟩:=rx;obtain ⟨t',rfl⟩:=ry;exact rule i j t t' s _ _ hc ⟨.int (g i j),H,I.tok _,⟨_,rfl⟩,q⟩
theorem opI0 {g:Int->Int->Int}(rule:∀(i j:Int)(t u:Tok)(s:Shared)(Q:Value->Shared->Prop)(E:Value->Shared->Prop),Q (.int (g i j) s.toks) { s with toks:=s.toks+1 }->wpAny (model X.prog X.w) X.A (f (.int i t) (.int j u)) Q E s):OpR X f (rI0 λi j=> .int (g i j)):=by intro pins s U H x y v u Q I rx ry h;obtain ⟨i,j,rfl,rfl,q⟩:=h;obtain ⟨t,rfl⟩:=rx;obtain ⟨t',rfl⟩:=ry;exact rule i j t t' s _ _ ⟨.int (g i j),H,I.tok _,⟨_,rfl⟩,q⟩
theorem opB0 {g:Int->Int->Bool}(rule:∀(i j:Int)(t u:Tok)(s:Shared)(Q:Value->Shared->Prop)(E:Value->Shared->Prop),Q (.bool (g i j)) s->wpAny (model X.prog X.w) X.A (f (.int i t) (.int j u)) Q E s):OpR X f (rI0 λi j=> .bl (g i j)):=by intro pins s U H x y v u Q I rx ry h;obtain ⟨i,j,rfl,rfl,q⟩:=h;obtain ⟨t,rfl⟩:=rx;obtain ⟨t',rfl⟩:=ry;exact rule i j t t' s _ _ ⟨.bl (g i j),H,I,rfl,q⟩
def qP (i j:Int):Prop:=0<=j/\j<=1000000/\i.natAbs<2 ^ 64
def CMul (i j:Int):Prop:=(-(2 ^ 64)<i/\i<2 ^ 64)∨(-(2 ^ 64)<j/\j<2 ^ 64)
theorem CMul.ok {i j:Int}(h:CMul i j):IntMulOk i j:=by
 rcases h with ⟨h1,h2⟩|⟨h1,h2⟩
 ·exact .of_left (intBits_le_64 h1 h2)
 ·exact .of_right (intBits_le_64 h1 h2)
theorem op_add:OpR X (binaryOp .Add) (rI0 λi j=> .int (i+j)):=opI0 λ_ _ _ _ _ _ _ q=>add_int q
theorem js:OpR X (binaryOp .Sub) (rI0 λi j=> .int (i-j)):=opI0 λ_ _ _ _ _ _ _ q=>sub_int q
theorem xv:OpR X (binaryOp .Mult) (rI CMul λi j=> .int (i*j)):=opI λ_ _ _ _ _ _ _ hc q=>mul_int q hc.ok
theorem qy:OpR X (binaryOp .Mod) (rI (λ_ j=>0<j) λi j=> .int (i % j)):=opI λi j _ _ _ _ _ hc q=>by
 have h1:(0:Int)<j:=hc;exact mod_int' (by omega) (by rw [Int.fmod_eq_emod_of_nonneg i (by omega)];exact q)
theorem xT:OpR X (binaryOp .Pow) (rI qP λi j=> .int (i ^ j.toNat)):=opI λ_ _ _ _ _ _ _ hc q=>pow_int_small hc.1 hc.2.1 hc.2.2 q
theorem unI {f:Value->Sem Value}{g:Int->Int}(rule:∀(i:Int)(t:Tok)(s:Shared)(Q:Value->Shared->Prop)(E:Value->Shared->Prop),Q (.int (g i) s.toks) { s with toks:=s.toks+1 }->wpAny (model X.prog X.w) X.A (f (.int i t)) Q E s):UnR X f (rU λi=> .int (g i)):=by intro pins s U H x v Q I rx h;obtain ⟨i,rfl,q⟩:=h;obtain ⟨t,rfl⟩:=rx;exact rule i t s _ _ ⟨.int (g i),H,I.tok _,⟨_,rfl⟩,q⟩
theorem i8:UnR X (unaryOp .USub) (rU λi=> .int (-i)):=unI λ_ _ _ _ _ q=>neg_int q
end
section
variable {X:Cx}{a b c:Expr}{ta tb tc:TE}{pos:Pos}
theorem op_lt:OpR X (compareOp .Lt) (rI0 λi j=> .bl (decide (i<j))):=opB0 λ_ _ _ _ _ _ _ q=>lt_int q
theorem op_le:OpR X (compareOp .LtE) (rI0 λi j=> .bl (decide (i<=j))):=opB0 λ_ _ _ _ _ _ _ q=>le_int q
theorem op_gt:OpR X (compareOp .Gt) (rI0 λi j=> .bl (decide (j<i))):=opB0 λ_ _ _ _ _ _ _ q=>gt_int q
theorem op_ge:OpR X (compareOp .GtE) (rI0 λi j=> .bl (decide (j<=i))):=opB0 λ_ _ _ _ _ _ _ q=>ge_int q
theorem OpR.or (h:OpR X f r)(h':OpR X f r'):OpR X f (λx y H Q=>r x y H Q∨r' x y H Q):=by
 intro pins s U H x y v u Q I rx ry q;rcases q with q|q
 ·exact h pins s U H x y v u Q I rx ry q
 ·exact h' pins s U H x y v u Q I rx ry q
theorem xu (b:Expr)(h:op ≠ .In:=by decide)(h2:op ≠ .NotIn:=by decide):behindInMarks op b=false:=by
 have e1:(op==CmpOp.In)=false:=by cases op<;>first|rfl|exact absurd rfl h
 have e2:(op==CmpOp.NotIn)=false:=by cases op<;>first|rfl|exact absurd rfl h2
 cases b<;>simp [behindInMarks,e1,e2]
theorem ZY (ho:OpR X (compareOp op) r)(ha:PE X a ta)(hb:PE X b tb)(hm:behindInMarks op b=false):PE X (.Compare a [op] [b] pos) (tOp r ta tb):=by intro pins s U H Q I h;exact wpAny_Compare1 (binT ha hb I h λv u s2 x y H2 I2 rx ry q=>ho pins s2 U H2 x y v u Q I2 rx ry q) hm
def Qs (t:TE):TT:=λU H Q=>t U H λx H'=>∃ k,x = .bl k/\Q k H'
theorem zc (ho:OpR X (compareOp op) r)(ha:PE X a ta)(hb:PE X b tb)(hm:behindInMarks op b=false):PT X (.Compare a [op] [b] pos) (Qs (tOp r ta tb)):=by
 intro pins s U H Q I h;refine wpAny_isTrue_Compare1 (z0 (ha pins s U H _ I h) λv s1 ⟨x,H1,I1,r1,q1⟩=>z0 (hb pins s1 U H1 _ I1 q1) λu s2 ⟨y,H2,I2,r2,q2⟩ =>
  z0 (ho pins s2 U H2 x y v u _ I2 r1 r2 q2) λc s3 ⟨z,H3,I3,r3,k,e,q3⟩=>?_) hm
 subst e;cases r3;exact wpAny_truthy_bool ⟨H3,I3,q3⟩
def Qo (r r':R2)(ta tb tc:TE):TE:=λU H Q=>ta U H λx H1=>tb U H1 λy H2=>r x y H2 λz H3=>∃ k,z = .bl k /\
 (if k=true then tc U H3 λw' H4=>r' y w' H4 Q else Q (.bl false) H3)
theorem ZX {op':CmpOp}(ho:OpR X (compareOp op) r)(ho':OpR X (compareOp op') r')(ha:PE X a ta)(hb:PE X b tb)(hc:PE X c tc)(hm:lastMarks [op,op'] [b,c]=false:=by with_unfolding_all rfl):PE X (.Compare a [op,op'] [b,c] pos) (Qo r r' ta tb tc):=by
 intro pins s U H Q I h;refine Compare_chain (z0 (ha pins s U H _ I h) λv s1 ⟨x,H1,I1,r1,q1⟩=>chain_link (z0 (hb pins s1 U H1 _ I1 q1) λu s2 ⟨y,H2,I2,r2,q2⟩ =>
  z0 (ho pins s2 U H2 x y v u _ I2 r1 r2 q2) λd s3 ⟨z,H3,I3,r3,k,e,q3⟩=>?_)) hm
 subst e;cases r3;refine wpAny_truthy_bool ?_;cases k with
 |false=>exact ite_ff ⟨.bl false,H3,I3,rfl,q3⟩
 |true=>exact ite_tt (chain_last (z0 (hc pins s3 U H3 _ I3 q3) λw' s4 ⟨z',H4,I4,r4,q4⟩=>ho' pins s4 U H4 y z' u w' Q I4 r2 r4 q4))
def TruV (K:Fg)(x:V)(H:Hp)(k:Bool):Prop :=
 match x with
 | .non=>k=false
 | .bl b=>k=b
 | .int i=>k=(i != 0)
 | .str y=>y.length<=sizeLine/\k=((y.length:Int) != 0)
 | .byt y=>y.size<=sizeLine/\k=((y.size:Int) != 0)
 | .ref p=>(∃ xs,SqL K H p xs/\k=!xs.isEmpty)∨(∃ xs,SqT K H p xs/\k=!xs.isEmpty)∨∃ kvs,H p=some (.dK kvs)/\k=!kvs.isEmpty
 |_=>False
theorem XT {κ:Type}{kvs:List (κ×V)}{vs:List (κ×Value)}(r:KV kvs vs):(!vs.isEmpty)=!kvs.isEmpty:=by cases r<;>rfl
theorem wl {its:List Value}(r:Vals xs its):(!its.toArray.isEmpty)=!xs.isEmpty:=by cases r<;>simp
theorem qI:(sizeLine:Nat)<2 ^ 63:=by rw [sizeLine_eq];decide
theorem Vj:TruR X (λx H Q=>∃ k,TruV X.K x H k/\Q k H):=by
 intro pins s U H x v Q I rx h;obtain ⟨k,e,q⟩:=h;have hl:=qI;have hs:sizeLine=16777216:=sizeLine_eq;cases x with
 |non=>cases rx;have e':k=false:=e;subst e';exact truthy_none ⟨H,I,q⟩
 |bl b=>cases rx;have e':k=b:=e;subst e';exact wpAny_truthy_bool ⟨H,I,q⟩
 |int i=>obtain ⟨t,rfl⟩:=rx;have e':k=(i != 0):=e;subst e';exact PySem.P.truthy_int ⟨H,I,q⟩
 |str y=>obtain ⟨t,rfl⟩:=rx;obtain ⟨hy,e'⟩:y.length<=sizeLine/\k=((y.length:Int) != 0):=e;subst e';exact PySem.P.truthy_str (by omega) ⟨H,I.tok _,q⟩
 |byt y=>obtain ⟨t,rfl⟩:=rx;obtain ⟨hy,e'⟩:y.size<=sizeLine/\k=((y.size:Int) != 0):=e;subst e';exact PySem.W.truthy_bytes (by omega) ⟨H,I.tok _,q⟩
 |ref p =>
  cases rx;have e':(∃ xs,SqL X.K H p xs/\k=!xs.isEmpty)∨(∃ xs,SqT X.K H p xs/\k=!xs.isEmpty)∨∃ kvs,H p=some (.dK kvs)/\k=!kvs.isEmpty:=e;rcases e' with ⟨xs,hx,e'⟩|⟨xs,hx,e'⟩|⟨kvs,hx,e'⟩
  ·subst e';obtain ⟨its,r,pl,hz⟩:=I.list hx;have hlen:=r.length;exact wpAny_truthy_list pl.isList (by simp only [yZ];omega) ⟨H,I.tok _,by rw [wl r];exact q⟩
  ·subst e';obtain ⟨its,r,pl,hz⟩:=I.tuple hx;have hlen:=r.length;exact truthy_tuple pl (by simp only [yZ];omega) ⟨H,I.tok _,by rw [wl r];exact q⟩
  ·subst e';obtain ⟨hz,hS,vs,r,m⟩:kvs.length<=sizeLine/\(p==sysModules)=false/\∃ vs,KV kvs vs/\s.heap.DictOf (zJ X.prog X.w) p vs:=I.hok p _ hx;have hlen:kvs.length=vs.length:=Paired.length r;exact wpAny_truthy_dict hS m (by omega) ⟨H,I.tok _,by rw [XT r];exact q⟩
 |_=>exact (show False from e).elim
theorem JA (ha:PE X a ta)(he:∀ whole,isTrue a X.env whole=(do let v <- whole;standAt a.pos;holding [v] (truthy v))):
  PT X a (λU H Q=>ta U H λx H'=>∃ k,TruV X.K x H' k/\Q k H'):=by
 intro pins s U H Q I h;exact isTrue_plain (z0 (ha pins s U H _ I h) λv s1 ⟨x,H1,I1,r1,q1⟩=>Vj pins s1 U H1 x v Q I1 r1 q1) (he _)
theorem op_add_str:OpR X (binaryOp .Add) (λx y H Q=>∃ i j,x = .str i/\y = .str j/\i.length+j.length<=sizeLine/\Q (.str (i++j)) H):=by intro pins s U H x y v u Q I rx ry h;obtain ⟨i,j,rfl,rfl,hz,q⟩:=h;obtain ⟨t,rfl⟩:=rx;obtain ⟨t',rfl⟩:=ry;exact add_str (λt' tk=>⟨.str (i++j),H,I.tok _,⟨_,rfl⟩,q⟩) hz
theorem qN {x:V}(r:Vals [x] us):∃ u,us=[u]/\RelV x u:=by
 cases r with
 |cons r1 r2=>cases r2;exact ⟨_,rfl,r1⟩
theorem jZ {x:V}(r:Vals [x,y] us):∃ u w',us=[u,w']/\RelV x u/\RelV y w':=by
 cases r with
 |cons r1 r2 =>
  cases r2 with
  |cons r3 r4=>cases r4;exact ⟨_,_,rfl,r1,r3⟩
theorem Xb (hc:X.calm=true):CallR X (.builtin "max") (λxs H Q=>∃ i j,xs=[.int i,.int j]/\Q (.int (if j > i then j else i)) H):=by
 intro pins s U H xs us Q I r h;obtain ⟨i,j,rfl,q⟩:=h;obtain ⟨u,w',rfl,⟨t,rfl⟩,⟨t',rfl⟩⟩:=jZ r;refine max_two_ints (I.ok.hd hc) λh' tk k=>⟨_,H,I.kept k,?_,q⟩;by_cases hj:j > i
 ·rw [if_pos hj,if_pos hj];exact ⟨_,rfl⟩
 ·rw [if_neg hj,if_neg hj];exact ⟨_,rfl⟩
def LenV (K:Fg)(x:V)(H:Hp)(n:Nat):Prop :=
 match x with
 | .str y=>y.length<=sizeLine/\n=y.length
 | .byt y=>y.size<=sizeLine/\n=y.size
 | .ref p=>(∃ xs,SqL K H p xs/\n=xs.length)∨∃ xs,SqT K H p xs/\n=xs.length
 |_=>False
theorem QX:CallR X (.builtin "len") (λxs H Q=>∃ x n,xs=[x]/\LenV X.K x H n/\Q (.int n) H):=by
 intro pins s U H xs us Q I r h;obtain ⟨x,n,rfl,e,q⟩:=h;obtain ⟨u,rfl,rx⟩:=qN r;have hl:=qI;have hs:sizeLine=16777216:=sizeLine_eq;cases x with
 |str y=>obtain ⟨t,rfl⟩:=rx;obtain ⟨hy,e'⟩:y.length<=sizeLine/\n=y.length:=e;subst e';exact len_str (by omega) ⟨.int _,H,I.tok _,⟨_,rfl⟩,q⟩
 |byt y=>obtain ⟨t,rfl⟩:=rx;obtain ⟨hy,e'⟩:y.size<=sizeLine/\n=y.size:=e;subst e';exact PySem.W.len_bytes (by omega) ⟨.int _,H,I.tok _,⟨_,rfl⟩,q⟩
 |ref p =>
  cases rx;have e':(∃ xs,SqL X.K H p xs/\n=xs.length)∨∃ xs,SqT X.K H p xs/\n=xs.length:=e;rcases e' with ⟨xs,hx,e'⟩|⟨xs,hx,e'⟩
  ·subst e';obtain ⟨its,r',pl,hz⟩:=I.list hx;have hlen:=r'.length;exact Calls.call_len_list pl.isList (by simp only [yZ];omega) ⟨.int xs.length,H,I.tok _,⟨_,by simp only [yZ];rw [hlen]⟩,q⟩
  ·subst e';obtain ⟨its,r',pl,hz⟩:=I.tuple hx;have hlen:=r'.length;exact len_tuple pl (by simp only [yZ];omega) ⟨.int xs.length,H,I.tok _,⟨_,by simp only [yZ];rw [hlen]⟩,q⟩
 |_=>exact (show False from e).elim
end
structure ObjM (h:Heap)(x dx C:Addr)(mA:Str->Option Value):Prop where
 obj:h.get? x=some (PySem.W.instObj C dx)
 ns:h.Ns1 dx mA
 ne:dx≠x
theorem ww (n:h.Ns1 dx mA):∃ od,h.get? dx=some od/\∀ name,PySem.W.lookIn name od=some (mA name):=by
 obtain ⟨o,es,ep,ho,hd,hk,_,hm⟩:=n;refine ⟨o,ho,λname=>?_⟩;have e:=hm name;unfold nsFind findBy at e;rw [<- Array.find?_toList] at e;unfold PySem.W.lookIn;rw [hd]
 dsimp only
 split
 ·rename_i y q;rw [q] at e;exact congrArg some e
 ·rename_i q;rw [q] at e;have a:es.toList.any (·.refKey)=false:=by rw [List.any_eq_false];intro y hy;obtain ⟨z,t,hkey⟩:=hk y (Array.mem_toList_iff.mp hy);simp [DictEntry.refKey,hkey]
  have a':¬ es.toList.any (·.refKey)=true:=by rw [a];exact yY
  rw [if_neg a'];exact congrArg some e
theorem ObjM.look {x:Addr}(I:ObjM h x dx C mA):∃ od,PySem.W.InstAt h x (PySem.W.instObj C dx) C (some od)/\∀ name,PySem.W.lookIn name od=some (mA name) :=
 let ⟨od,ho,hl⟩:=ww I.ns
 ⟨od,⟨I.obj,rfl,rfl,ho⟩,hl⟩
theorem RelO.some_of {o:Option Value}(r:RelO (some v) o):∃ u,o=some u/\RelV v u:=by
 cases o with
 |none=>exact (show False from r).elim
 |some u=>exact ⟨u,rfl,r⟩
theorem XH (r:RelV v u):PySem.W.handedIn u=true:=by
 cases v with
 |non=>cases (show u=Value.none from r);rfl
 |bl b=>cases (show u=Value.bool b from r);rfl
 |int i=>obtain ⟨t,e⟩:=(show ∃ t,u=Value.int i t from r);cases e;rfl
 |str x=>obtain ⟨t,e⟩:=(show ∃ t,u=Value.str x t from r);cases e;rfl
 |byt b=>obtain ⟨t,e⟩:=(show ∃ t,u=Value.bytes b t from r);cases e;rfl
 |flt b=>obtain ⟨t,e⟩:=(show ∃ t,u=Value.float b t from r);cases e;rfl
 |ref a=>cases (show u=Value.ref a from r);rfl
 |ty n=>cases (show u=Value.type n from r);rfl
section
variable {P:Program}{w:World}{H H':Hp}{h h':Heap}{a C dx:Addr}{fs fs':List (Str×V)}
theorem XQ (hok:HOk P w H h)(e:H a=some (.ins C dx fs)):∃ mA,ObjM h a dx C mA/\(∀ f,RelO (fs.lookup f) (mA f))/\PySem.Within mA (fs.map (·.1))/\fs.length<=1000/\H dx=some (.own a):=by obtain ⟨d,z,ne,ob,mA,n,r,q⟩:=(show ObjOk P w H h a (.ins C dx fs) from hok a _ e);exact ⟨mA,⟨ob,n,ne⟩,r,q,z,d⟩
end
structure Cls (K:Fg)(C:Addr):Prop where
 pg:PySem.W.plainGet K C Str.empty=true
 hd:PySem.W.hasDictIn K C=true
 po:PySem.W.plainOver K C=true
 sa:PySem.W.findIn K (.ref C) "__setattr__"=some (some (.builtin "object.__setattr__"))
theorem Cls.get (c:Cls K C)(f:Str):PySem.W.plainGet K C f=true:=c.pg
section
variable {X:Cx}{pins:List (Addr×Obj)}{U:St}{H:Hp}{s:Shared}{a C dx:Addr}{fs:List (Str×V)}{f:Str}{v:V}{A:Around}{E:Value->Shared->Prop}
theorem QJ {prog:Program}{env:Env}{f:Str}{s:Shared}(hb:attributeBase e f env (eval e env)=eval e env)(h:wpAny (model prog w) A (eval e env) (λo s₁=>wpAny (model prog w) A (getAttr o f true) Q E s₁) E s):wpAny (model prog w) A (eval (.Attribute e f pos) env) Q E s :=
 Attribute_any_ h (by rw [arm_eval_Attribute,hb])
end
section
variable {X:Cx}{pins:List (Addr×Obj)}{U:St}{H:Hp}{s:Shared}{A:Around}{E:Value->Shared->Prop}{Q:Value->Shared->Prop}{c:Value}{b:Bool}
inductive d4 (K:Fg)(H:Hp):V->Value->Prop where
 |non:d4 K H .non (.type "NoneType")
 |bl (x:Bool):d4 K H (.bl x) (.type "bool")
 |int (i:Int):d4 K H (.int i) (.type "int")
 |str (x:Str):d4 K H (.str x) (.type "str")
 |flt (x:UInt64):d4 K H (.flt x) (.type "float")
 |lst {a:Addr} {xs:List V} (e:H a=some (.lst xs)):d4 K H (.ref a) (.type "list")
 |frz {a:Addr} {o:Obj} {xs:List V} (e:H a=some (.frz o (.lst xs))):d4 K H (.ref a) (.type "list")
 |tup {a:Addr} {xs:List V} (e:H a=some (.tup xs)):d4 K H (.ref a) (.type "tuple")
 |dK {a:Addr} {kvs:List (u6×V)} (e:H a=some (.dK kvs)):d4 K H (.ref a) (.type "dict")
 |dT {a:Addr} {kvs:List (List u6×V)} (e:H a=some (.dT kvs)):d4 K H (.ref a) (.type "dict")
 |ins {a C dx:Addr} {fs:List (Str×V)} (e:H a=some (.ins C dx fs)) (cl:Cls K C) (ha:PySem.W.findIn K (.ref C) "__class__"=some (some (.builtin "object.__class__")))
   (hn:PySem.W.specialIn K (.builtin "object.__class__") "__get__"=some (some (.builtin "getset_descriptor.__get__"))) (htk:PySem.W.takesIn K (.builtin "object.__class__")=some true)
   (hm:PySem.W.mroIn K C (.type "object")=some true):d4 K H (.ref a) (.ref C)
theorem XY {x:V}{t:Value}(I:Inv X pins U H s)(rx:RelV x u)(ty:d4 X.K H x t)(e:PySem.W.kitOne X.K t c=some b)(h:∀ tk,Q (.bool b) { s with toks:=tk }):wpAny (model X.prog X.w) A (call (.builtin "isinstance") [u,c]) Q E s:=by
 cases ty with
 |non=>cases (show u=Value.none from rx);exact PySem.W.kia_one PySem.W.kitx_none I.kIn True.intro e (λz=>nomatch z) h
 |bl y=>cases (show u=Value.bool y from rx);exact PySem.W.kia_one PySem.W.kitx_bool I.kIn True.intro e (λz=>nomatch z) h
 |int i=>obtain ⟨t,q⟩:=(show ∃ t,u=Value.int i t from rx);cases q;exact PySem.W.kia_one PySem.W.kitx_int I.kIn True.intro e (λz=>nomatch z) h
 |str y=>obtain ⟨t,q⟩:=(show ∃ t,u=Value.str y t from rx);cases q;exact PySem.W.kia_one PySem.W.kitx_str I.kIn True.intro e (λz=>nomatch z) h
 |flt y=>obtain ⟨t,q⟩:=(show ∃ t,u=Value.float y t from rx);cases q;exact PySem.W.kia_one PySem.W.kitx_float I.kIn True.intro e (λz=>nomatch z) h
 |@lst a xs ea=>cases (show u=Value.ref a from rx);obtain ⟨_,_,n,_,h1⟩:=(show ObjOk X.prog X.w H s.heap a (.lst xs) from I.hok a _ ea);exact PySem.W.kia_one PySem.W.kitx_list I.kIn ⟨_,h1,rfl⟩ e (λz=>nomatch z) h
 |@frz a ob xs ea=>cases (show u=Value.ref a from rx);obtain ⟨_,_,_,n,_,h1⟩:=(show ObjOk X.prog X.w H s.heap a (.frz ob (.lst xs)) from I.hok a _ ea);exact PySem.W.kia_one PySem.W.kitx_list I.kIn ⟨_,h1,rfl⟩ e (λz=>nomatch z) h
 |@tup a xs ea=>cases (show u=Value.ref a from rx);obtain ⟨_,_,_,p⟩:=(show ObjOk X.prog X.w H s.heap a (.tup xs) from I.hok a _ ea);obtain ⟨o,h1,h2,_⟩:=p;exact PySem.W.kia_one PySem.W.kitx_tuple I.kIn ⟨o,h1,h2⟩ e (λz=>nomatch z) h
 |@dK a kvs ea=>cases (show u=Value.ref a from rx);obtain ⟨_,_,vs,_,p⟩:=(show ObjOk X.prog X.w H s.heap a (.dK kvs) from I.hok a _ ea);obtain ⟨o,es,ep,h1,h2,_⟩:=p;exact PySem.W.kia_one PySem.W.kitx_dict I.kIn ⟨o,h1,h2.1⟩ e (λz=>nomatch z) h
 |@dT a kvs ea=>cases (show u=Value.ref a from rx);obtain ⟨_,_,xs,_,o,es,ep,h1,h2,_⟩:=(show ObjOk X.prog X.w H s.heap a (.dT kvs) from I.hok a _ ea);exact PySem.W.kia_one PySem.W.kitx_dict I.kIn ⟨o,h1,h2.1⟩ e (λz=>nomatch z) h
 |@ins a C dx fs ea cl ha hn htk hm=>cases (show u=Value.ref a from rx);obtain ⟨mA,O,_⟩:=XQ I.hok ea;obtain ⟨od,J,_⟩:=O.look;exact PySem.W.kia_one (PySem.W.kitx_own (cl.get _) cl.hd ha hn htk hm) I.kIn J e (λz=>nomatch z) h
end
structure Room (k:Nat)(A:Around):Prop where
 hd:A.handled=none
 dp:A.depth+3*k+5<recursionLimit
 un:A.units+16*k+200<cLine
theorem Room.mono (r:Room k A)(h:j<=k):Room j A:=⟨r.hd,by have:=r.dp;omega,by have:=r.un;omega⟩
theorem Room.deeper (r:Room (k+1) A)(env:Env):Room k (A.deeper env) :=
 ⟨r.hd,by have:=r.dp;show A.depth+1+3*k+5<_;omega,by have:=r.un;show A.units+3+16*k+200<_;omega⟩
theorem Zs :(A.under (.builtin "type.__call__" ⟨.ref C::us,kw⟩)).depth=A.depth+1:=by first|rfl|simp [Around.under,Code.weight,Code.isCreation,Code.isGuard,Code.isCaller,Code.frames,Code.isFrame,guardIds]
theorem Zu :(A.under (.builtin "type.__call__" ⟨.ref C::us,kw⟩)).units=A.units+1:=by first|rfl|simp [Around.under,Code.cUnits,Code.frames,Code.isFrame]
theorem Room.make (r:Room (k+1) A)(C:Addr)(us:List Value)(kw:List (Str×Value)):Room k (A.under (.builtin "type.__call__" ⟨.ref C::us,kw⟩)) :=
 ⟨r.hd,by have:=r.dp;rw [Zs];omega,by have:=r.un;rw [Zu];omega⟩
theorem Room.depth (r:Room k A):A.depth<recursionLimit:=by have:=r.dp;omega
theorem Room.units (r:Room k A):A.units+64<cLine:=by have:=r.un;omega
def qa:TA:=λ_ H Q=>Q [] H
def h8 (ta:TE)(tr:TA):TA:=λU H Q=>ta U H λx H1=>tr U H1 λxs H2=>Q (x::xs) H2
section
variable {X:Cx}{e:Expr}{es:List Expr}{te:TE}{t:TA}{pos:Pos}
theorem c7:PA X [] qa:=λ_ _ _ _ H Q I h=>Calls.spliced_nil ⟨[],H,I,.nil,h⟩
theorem y8 (ha:PE X e te)(hr:PA X es t)(hs:starEach (e::es) X.env=(false,eval e X.env)::starEach es X.env:=by rfl):PA X (e::es) (h8 te t):=by intro pos pins s U H Q I h;rw [hs];show wpAny _ _ (spliced ((false,eval e X.env)::backTo pos (starEach es X.env))) _ _ s;refine Calls.spliced_cons (z0 (ha pins s U H _ I h) λu s1 ⟨x,H1,I1,r1,q1⟩=>?_);exact z0 (hr pos pins s1 U H1 _ I1 q1) λus s2 ⟨xs,H2,I2,r2,q2⟩=>⟨x::xs,H2,I2,.cons r1 r2,q2⟩
def tTup (t:TA):TE:=λU H Q=>t U H λxs H1=>xs.length<=sizeLine/\∀ p,H1 p=none->Q (.ref p) (z6 H1 p (.tup xs))
def tLst (t:TA):TE:=λU H Q=>t U H λxs H1=>xs.length<=sizeLine/\∀ p,H1 p=none->Q (.ref p) (z6 H1 p (.lst xs))
theorem n8 {x1}(h:PA X es t):PE X (.Tuple es x1 pos) (tTup t):=by intro pins s U H Q I hq;refine wpAny_Tuple_spliced (z0 (h pos pins s U H _ I hq) λus s1 ⟨xs,H1,I1,r,z,q⟩=>⟨by rw [<- r.length];exact z,?_⟩);have hf:H1 s1.heap.objs.size=none:=I1.hok.fresh (yT _);refine ⟨.ref s1.heap.objs.size,z6 H1 s1.heap.objs.size (.tup xs),I1.laid (t':=s1.toks) (λb u e=>yV _ e) (yT _) ?_,rfl,q _ hf⟩;exact ⟨z,us,r,⟨_,yz _ rfl,rfl,_,rfl⟩⟩
theorem t3 (h:PA X es t):PE X (.List es pos) (tLst t):=by intro pins s U H Q I hq;refine wpAny_List_spliced (z0 (h pos pins s U H _ I hq) λus s1 ⟨xs,H1,I1,r,z,q⟩=>⟨by rw [<- r.length];exact z,?_⟩);have hf:H1 s1.heap.objs.size=none:=I1.hok.fresh (yT _);refine ⟨.ref s1.heap.objs.size,z6 H1 s1.heap.objs.size (.lst xs),I1.laid (t':=s1.toks) (λb u e=>yV _ e) (yT _) ?_,rfl,q _ hf⟩;exact ⟨z,us,0,r,yz _ rfl⟩
end
abbrev Sp:=List V->Hp->VK->XK->Prop
variable{sp:Sp}
abbrev CXT:=List Env->Hp->Shared->XK->Value->Shared->Prop
variable{CX:CXT}
structure Env0 (P:Program)(w:World)(K:Fg)(mg:Str->Option Value)(base:Heap)(A:Around)(outer:List Env)(s:Shared)(H:Hp):Prop where
 frames:A.frames=some outer
 mod:Mod K mg base
 bs:∀ b o,base.get? b=some o->s.heap.get? b=some o/\H b=none
 bsz:base.objs.size<=s.heap.objs.size
 funs:s.heap.FunFrames base outer
 frf:∀ b∈v9 outer,H b=none
 hok:HOk P w H s.heap
 bare:AllBare s.gens
 tbs:∀ p∈TABS,H p.1=some (.tbl p.2.1 p.2.2)
def CE (outer:List Env)(P:Program)(w:World)(H:Hp)(s:Shared)(Q:VK)(u:Value)(s':Shared):Prop :=
 ∃ v H',s'.os=s.os/\AllBare s'.gens/\Un (v9 outer) [] H H' s.heap s'.heap/\HOk P w H' s'.heap/\RelV v u/\Q v H'
def CR (CX:CXT)(outer:List Env)(P:Program)(w:World)(H:Hp)(s:Shared)(Q:VK)(E:XK)(r:Result)(s':Shared):Prop :=
 match r with
 | .ok (.ret u)=>CE outer P w H s Q u s'
 | .ok _=>False
 | .error e=>CX outer H s E e s'
structure FnOk (P:Program)(w:World)(K:Fg)(mg:Str->Option Value)(base:Heap)(CX:CXT)(k:Nat)(f:Addr)(fd:FuncData)(ps:List Str)(sp:Sp):Prop where
 len:∀ vs H Q E,sp vs H Q E->vs.length=ps.length
 run:∀(A:Around)(outer:List Env)(s:Shared)(H:Hp)(args:Args)(us:List Value)(vs:List V)(Q:VK)(E:XK),Room k A->Env0 P w K mg base A outer s H->BindsTo s fd args (ps.zip us)->Vals vs us->sp vs H Q E ->
  codeAny (model P w) A (.call (.ref f) args) (CR CX outer P w H s Q E) s
theorem FnOk.imp {f:Addr}{sp':Sp}(F:FnOk P w K mg base CX k f fd ps sp)(h:∀ vs H Q E,sp' vs H Q E->sp vs H Q E):FnOk P w K mg base CX k f fd ps sp' :=
 ⟨λvs H Q E q=>F.len vs H Q E (h _ _ _ _ q),λA outer s H args us vs Q E hr he hb hv hs=>F.run A outer s H args us vs Q E hr he hb hv (h _ _ _ _ hs)⟩
theorem Env0.make {s:Shared}(e:Env0 P w K mg base A outer s H)(C:Addr)(us:List Value)(kw:List (Str×Value)):Env0 P w K mg base (A.under (.builtin "type.__call__" ⟨.ref C::us,kw⟩)) outer s H:=⟨by first|exact e.frames|(simpa [Around.under,Code.envs,Code.isFrame,pushEnvs] using e.frames),e.mod,e.bs,e.bsz,e.funs,e.frf,e.hok,e.bare,e.tbs⟩
section
variable {X:Cx}{pins:List (Addr×Obj)}{U:St}{H:Hp}{s s':Shared}
theorem Inv.env0 (I:Inv X pins U H s):Env0 X.prog X.w X.K X.mg X.base X.A X.stack s H :=
 ⟨I.ok.frames,I.ok.mod,I.bs,yt I.ok.bsz I.sz,I.stack,I.stkFree,I.hok,I.bare,λp hp=>I.base.tbls _ _ _ (I.ok.tbs p hp)⟩
theorem Inv.after {Q:VK}(I:Inv X pins U H s)(h:CE X.stack X.prog X.w H s Q u s'):EP X pins U Q u s':=by obtain ⟨v,H',os,bare,un,hok,r,q⟩:=h;obtain ⟨hh,g,d,t,os'⟩:=s';obtain rfl:os'=s.os:=os;exact ⟨v,H',I.call (h':=hh) (g':=g) (d':=d) (t':=t) (ch:=[]) un hok bare (λb z=>absurd z (by simp)),r,q⟩
end
def t5 (sp:Sp)(dvs:List V)(E:XK)(t:TA):TE:=λU H Q=>t U H λvs H1=>sp (vs++dvs) H1 Q E
def Binds (K:Fg)(fd:FuncData)(ps:List Str)(ds:List Value):Prop :=
 ∀(s:Shared)(us:List Value),K.In s.heap->(us++ds).length=ps.length->BindsTo s fd ⟨us,[]⟩ (ps.zip (us++ds))
theorem Binds.all (h:∀ us:List Value,us.length=ps.length->bindArgs fd ⟨us,[]⟩=pure (ps.zip us)):Binds K fd ps []:=λs us _ hl=>by
 rw [yw] at hl ⊢;exact .of_eq (h us hl)
def zY (CX:CXT)(X:Cx)(E:XK):Prop:=∀(pins:List (Addr×Obj))(U:St)(H:Hp)(s:Shared)(e:Value)(s':Shared),Inv X pins U H s->CX X.stack H s E e s'->X.xe e s'
section
variable {X:Cx}{CX:CXT}{k:Nat}{f C:Addr}{fd:FuncData}{ps:List Str}{sp:Sp}{dvs:List V}{ds:List Value}{E:XK}{x m:Str}{p pos apos:Pos}{e o:Expr}{es:List Expr}{ta:TE}{t:TA}
theorem JS {s:Shared}{Q:VK}(F:FnOk X.prog X.w X.K X.mg X.base CX k f fd ps sp)(hr:Room k X.A)(hb:Binds X.K fd ps ds)(hd:Vals dvs ds)(hx:zY CX X E)(I:Inv X pins U H s)(r:Vals vs us)(h:sp (vs++dvs) H Q E):wpAny (model X.prog X.w) X.A (call (.ref f) us) (EP X pins U Q) X.xe s:=by
 have r2:Vals (vs++dvs) (us++ds):=r.append hd;have hl:(us++ds).length=ps.length:=by rw [<- r2.length];exact F.len _ _ _ _ h
 refine wpAny_call (codeAny_mono (F.run X.A X.stack s H ⟨us,[]⟩ (us++ds) (vs++dvs) Q E hr I.env0 (hb s us I.kIn hl) r2 h) λr s' hq=>?_);cases r with
 |error e=>exact hx pins U H s e s' I hq
 |ok fl =>
  cases fl with
  |ret u=>exact I.after hq
  |next=>exact False.elim hq
  |brk=>exact False.elim hq
  |cont=>exact False.elim hq
theorem ZW (F:FnOk X.prog X.w X.K X.mg X.base CX k f fd ps sp)(hr:Room k X.A)(hg:Gl X x)(hm:X.mg x=some (.ref f))(hk:PySem.W.keepIn X.K (.ref f)=true)(hb:Binds X.K fd ps ds)(hd:Vals dvs ds)(hx:zY CX X E)(ha:PA X (e::es) t)(hdb:(x==("__debug__":Str))=false:=by decide)(he:starEach (e::es) X.env=(false,eval e X.env)::starEach es X.env:=by rfl)(hpl:(backTo pos (starEach es X.env)).any (·.1)=false:=by rfl):PE X (.Call (.Name x p) (e::es) [] pos) (t5 sp dvs E t):=by intro pins s U H Q I h;refine wpAny_Call_Name_kw (xo I hg hm ?_ hdb);refine PySem.W.callWith_K (h₀:=X.base) I.ok.mod.kin hk (z0 (ha pos pins s U H _ I h) λus s1 ⟨vs,H1,I1,r,q⟩=>⟨I1.kIn,?_⟩) he hpl;exact JS F hr hb hd hx I1 r q
end
structure u5 (N P:List Str)(sc:Scope):Prop where
 kind:sc.kind = .function
 co:sc.isCoroutine=false
 gen:sc.isGenerator=false
 nd:N.Nodup
 pre:N.take P.length=P
 par:∀ x∈P,sc.names.lookup x=some .local∨sc.names.lookup x=some .cell
 nofree:∀ y∈sc.names,y.2 ≠ .free
theorem vA {kindOf:Str->Option NameKind}{x:Str}:∀{binds:List (Str×Value)}{m:Str->Option Value},(∀ v,(x,v)∉binds)->bindL kindOf binds m x=m x
 |[],_,_=>rfl
 |(n,v)::r,m,h=>by
  unfold bindL;rw [vA λw hw=>h w (yL _ hw)];split
  ·have:x≠n:=by rintro rfl;exact h v yy
   simp [this]
  ·rfl
theorem vy {kindOf:Str->Option NameKind}{x:Str}:∀{binds:List (Str×Value)}{m:Str->Option Value},(∀ v,(x,v)∉binds)->bindC kindOf binds m x=m x
 |[],_,_=>rfl
 |(n,v)::r,m,h=>by
  unfold bindC;rw [vy λw hw=>h w (yL _ hw)];split
  ·rfl
  ·have:x≠n:=by rintro rfl;exact h v yy
   simp [this]
theorem vz {kindOf:Str->Option NameKind}{x:Str}{v:Value}:∀{P:List Str}{vs:List Value}{i:Nat}{m:Str->Option Value},P.Nodup->P[i]?=some x->vs[i]?=some v->kindOf x=some .local -> bindL kindOf (P.zip vs) m x=some v
 |[],_,_,_,_,h,_,_=>by simp at h
 |_::_,[],_,_,_,_,h,_=>by simp at h
 |p::P,w::vs,0,m,nd,h1,h2,hk=>by
  simp at h1 h2;subst h1;subst h2;show bindL kindOf ((p,w)::P.zip vs) m p=_;unfold bindL;rw [vA λv hv=>(ya.mp nd).1 (List.of_mem_zip hv).1,if_pos hk];simp
 |p::P,w::vs,i+1,m,nd,h1,h2,hk=>by
  show bindL kindOf ((p,w)::P.zip vs) m x=_;unfold bindL;exact vz (i:=i) (ya.mp nd).2 (by simpa using h1) (by simpa using h2) hk
theorem vx {kindOf:Str->Option NameKind}{x:Str}{v:Value}:∀{P:List Str}{vs:List Value}{i:Nat}{m:Str->Option Value},P.Nodup->P[i]?=some x->vs[i]?=some v->kindOf x≠some .local -> bindC kindOf (P.zip vs) m x=some v
 |[],_,_,_,_,h,_,_=>by simp at h
 |_::_,[],_,_,_,_,h,_=>by simp at h
 |p::P,w::vs,0,m,nd,h1,h2,hk=>by
  simp at h1 h2;subst h1;subst h2;show bindC kindOf ((p,w)::P.zip vs) m p=_;unfold bindC;rw [vy λv hv=>(ya.mp nd).1 (List.of_mem_zip hv).1,if_neg hk];simp
 |p::P,w::vs,i+1,m,nd,h1,h2,hk=>by
  show bindC kindOf ((p,w)::P.zip vs) m x=_;unfold bindC;exact vx (i:=i) (ya.mp nd).2 (by simpa using h1) (by simpa using h2) hk
def b8 (N:List Str)(vs:List V):St:=vs.map some++List.replicate (N.length-vs.length) none
def p0 (CX:CXT)(P:Program)(w:World)(K:Fg)(mg:Str->Option Value)(base:Heap)(N:List Str)(qual:Str)(scope:Scope)(f:Addr)(cd:Value)(A:Around)(outer:List Env)(s:Shared)(H:Hp)(E:XK):Cx where
 prog:=P
 w:=w
 K:=K
 mg:=mg
 base:=base
 A:=A.deeper (envOfC qual scope s.heap.objs.size f cd)
 N:=N
 s₀:=s
 H₀:=H
 env:=envOfC qual scope s.heap.objs.size f cd
 outer:=outer
 stack:=envOfC qual scope s.heap.objs.size f cd::outer
 ex:=[]
 calm:=true
 fn:=λ_=>true
 pn:=[]
 xe:=λe s'=>wpAny (model P w) (A.deeper (envOfC qual scope s.heap.objs.size f cd)) (leaving (envOfC qual scope s.heap.objs.size f cd) e) (λ_ s''=>CX outer H s E e s'') (λe' s''=>CX outer H s E e' s'') s'
theorem vJ {sc:Scope}(h:sc.names.lookup x=some .cell):∃ c,(cellsFrom n sc.names []).lookup x=some c:=by have q:=PySem.W.cellsFrom_some sc.names n [] (.inl h);exact Option.isSome_iff_exists.mp q
theorem wj {f:Addr}{cd:Value}{s s1:Shared}{E:XK}(S:u5 N ps scope)(hd:A.handled=none)(e0:Env0 P w K mg base A outer s H)(hl:vs.length=ps.length)(r:Vals vs us)(x:InCallC s s.heap.objs.size (bindL (envOfC qual scope s.heap.objs.size f cd).kindOf (ps.zip us) λ_=>none) (cellsFrom (s.heap.objs.size+1) scope.names []) (bindC (envOfC qual scope s.heap.objs.size f cd).kindOf (ps.zip us) λ_=>none) s1):Inv (p0 CX P w K mg base N qual scope f cd A outer s H E) [] (b8 N vs) H s1:=by
 have hpl:ps.length<=N.length:=by have:=congrArg List.length S.pre;rw [yp] at this;omega
 obtain ⟨h1,tk,rfl,hk⟩:=x.done;have noA:∀ b:Addr,b∉(p0 CX P w K mg base N qual scope f cd A outer s H E).ex:=λb z=>absurd (show b∈([]:List Addr) from z) (by simp);refine ⟨⟨e0.mod,S.kind,rfl,rfl,yT _,λy z c h1 h2=>?_,λy hy=>?_,λy c _ h=>?_,λ_=>hd,Around.frames_deeper e0.frames,.inr ⟨rfl,rfl⟩,λb z=>absurd z (noA b),e0.bs,e0.bsz,λb _ _=>noA b,λb z=>absurd z (noA b),e0.funs,e0.frf,e0.tbs⟩,
  rfl,e0.bare,Un.kept hk,⟨_,x.toInCall.ns,λi y v h1 h2 h3=>?_⟩,λy c h=>⟨_,x.cell y c h⟩,e0.hok.fresh (yT _),λy c h=>?_,λp hp=>absurd (show p∈([]:List (Addr×Obj)) from hp) (by simp),e0.hok.kept hk,?_⟩
 ·exact name_of_addr x.apart (PySem.mem_of_lookup h1) (PySem.mem_of_lookup h2)
 ·have hy:scope.names.lookup y=some .cell∨scope.names.lookup y=some .free:=hy;rcases hy with hy|hy
  ·exact vJ hy
  ·exact absurd rfl (S.nofree _ (PySem.mem_of_lookup hy))
 ·exact Nat.le_of_lt (x.above y c (PySem.mem_of_lookup h))
 ·have hi:i<vs.length:=by
   unfold b8 at h2;by_cases hi:i<vs.length
   ·exact hi
   ·rw [uZ (by simpa using hi)] at h2;rw [uV] at h2;split at h2<;>cases h2
  have ha:vs[i]?=some v:=by
   unfold b8 at h2;rw [yg (by simpa using hi),yO] at h2;cases e:vs[i]? with
   |none=>rw [e] at h2;cases h2
   |some a=>rw [e] at h2;cases h2;rfl
  obtain ⟨u,hu,rv⟩:=r.get ha;have hp:ps[i]?=some y:=by rw [<- S.pre,List.getElem?_take_of_lt (by omega)];exact h1
  have ndP:ps.Nodup:=by rw [<- S.pre];exact S.nd.sublist (List.take_sublist _ _)
  refine ⟨u,rv,?_⟩;rcases S.par y (List.mem_of_getElem? hp) with k|k
  ·exact .inl ⟨k,vz ndP hp hu k⟩
  ·obtain ⟨c,e⟩:=vJ (n:=s.heap.objs.size+1) k;refine .inr ⟨.inl k,c,e,?_⟩;have q:=x.cell y c e;rw [vx ndP hp hu (by show scope.names.lookup y≠_;rw [k];decide)] at q;exact q
 ·exact e0.hok.fresh (Nat.le_of_lt (x.above y c (PySem.mem_of_lookup h)))
 ·unfold b8;show _=N.length;rw [yJ,yR,List.length_replicate];omega
theorem wd {f:Addr}{name:Str}{params:Arguments}{dV kV doc pm cdv ct oc:Value}{an od:Option Addr}{osl:Array (Option Value)}(lk:K.lookup f=some ⟨oc,od,.func (PySem.W.fnOf name qual params body scope dV kV doc pm an cdv ct),osl⟩)(hcd:PySem.W.codeIn K cdv qual=true)(S:u5 N ps scope)(len:∀ vs H Q E,sp vs H Q E->vs.length=ps.length)(hbody:∀(A:Around)(outer:List Env)(s:Shared)(H:Hp)(vs:List V)(Q:VK)(E:XK),Room k (A.deeper (envOfC qual scope s.heap.objs.size f cdv))->sp vs H Q E -> ∃ t,PSs (p0 CX P w K mg base N qual scope f cdv A outer s H E) body t/\t { nx:=λ_ H'=>Q .non H',rt:=Q } (b8 N vs) H):FnOk P w K mg base CX (k+1) f (PySem.W.fnOf name qual params body scope dV kV doc pm an cdv ct) ps sp:=by
 refine ⟨len,λA outer s H args us vs Q E hr e0 hb r hsp=>?_⟩;have hl:=len _ _ _ _ hsp;have KX:K.In s.heap:=e0.mod.kin.keeps λb o e=>(e0.bs b o e).1;have lim:s.heap.NoLimit:=e0.mod.nolimit.keeps λb o e=>(e0.bs b o e).1;have hkind:∀ y∈ps.zip us,scope.names.lookup y.1=some .local∨(scope.names.lookup y.1=some .cell/\((cellsFrom (s.heap.objs.size+1) scope.names []).lookup y.1).isSome=true):=λ⟨n,v⟩ hy=>by
  rcases S.par n (List.of_mem_zip hy).1 with q|q
  ·exact .inl q
  ·exact .inr ⟨q,PySem.W.cellsFrom_some _ _ _ (.inl q)⟩
 refine codeAny_call_function hr.depth (KX _ _ lk) rfl S.co S.gen rfl (PySem.W.codeRec_of KX hcd) (hb _ _ _ _ ?_);refine wpAny_newFunctionEnv_cells S.kind hkind λenv he s1 x=>?_;subst he;refine ⟨lim.keeps x.toInCall.keep,codeAny_func ?_⟩;obtain ⟨t,ht,hq⟩:=hbody A outer s H vs Q E (hr.deeper _) hsp;have I:Inv (p0 CX P w K mg base N qual scope f cdv A outer s H E) [] (b8 N vs) H s1:=wj S hr.hd e0 hl r x;refine wpAny_mono (ht [] s1 (b8 N vs) H _ I hq) (λfl s' hs=>?_) λe s' hs=>hs;have fin:∀{σ':St}{H':Hp}{v:V}{u:Value},Inv (p0 CX P w K mg base N qual scope f cdv A outer s H E) [] σ' H' s'->RelV v u->Q v H'->CE outer P w H s Q u s' :=
  λ{σ' H' v u} J rv q=>⟨v,H',J.os,J.bare,J.base,J.hok,rv,q⟩
 cases fl with
 |ret u=>obtain ⟨v,σ',H',J,rv,q⟩:=hs;exact fin J rv q
 |next=>obtain ⟨σ',H',J,q⟩:=hs;exact fin (v:=V.non) (u:=Value.none) J rfl q
 |brk=>obtain ⟨_,_,_,q⟩:=hs;exact False.elim q
 |cont=>obtain ⟨_,_,_,q⟩:=hs;exact False.elim q
section
variable {X:Cx}{x:Str}{p pos:Pos}{e:Expr}{es:List Expr}{t:TA}{id T:String}{r:List V->Hp->VK->Prop}
def tCB (r:List V->Hp->VK->Prop)(t:TA):TE:=λU H Q=>t U H λvs H1=>r vs H1 Q
theorem p5 (hc:CallR X (.builtin id) r)(hg:Gl X x)(hm:X.mg x=none)(hv:bootBuiltins x=some (.builtin id))(ha:PA X (e::es) t)(hn:x ≠ "__name__":=by decide)(hdb:(x==("__debug__":Str))=false:=by decide)(he:starEach (e::es) X.env=(false,eval e X.env)::starEach es X.env:=by rfl)(hpl:(backTo pos (starEach es X.env)).any (·.1)=false:=by rfl):PE X (.Call (.Name x p) (e::es) [] pos) (tCB r t):=by intro pins s U H Q I h;refine wpAny_Call_Name_kw (xn I hg hm hv ?_ hn hdb);exact PyProof.Rows.callWith_builtin1 (z0 (ha pos pins s U H _ I h) λus s1 ⟨vs,H1,I1,r1,q1⟩=>hc pins s1 U H1 vs us Q I1 r1 q1) he hpl
theorem wJ (hc:CallR X (.type T) r)(hg:Gl X x)(hm:X.mg x=none)(hv:bootBuiltins x=some (.type T))(ha:PA X (e::es) t)(hn:x ≠ "__name__":=by decide)(hdb:(x==("__debug__":Str))=false:=by decide)(he:starEach (e::es) X.env=(false,eval e X.env)::starEach es X.env:=by rfl)(hpl:(backTo pos (starEach es X.env)).any (·.1)=false:=by rfl):PE X (.Call (.Name x p) (e::es) [] pos) (tCB r t):=by intro pins s U H Q I h;refine wpAny_Call_Name_kw (xn I hg hm hv ?_ hn hdb);exact PyProof.Rows.callWith_type1 (z0 (ha pos pins s U H _ I h) λus s1 ⟨vs,H1,I1,r1,q1⟩=>hc pins s1 U H1 vs us Q I1 r1 q1) he hpl
end
end L2
namespace HT
open PySem PyProof.Rows
section
variable {prog:Program}{w:World}{A:Around}{E:Value->Shared->Prop}{s:Shared}
theorem cat_tup {t b:Addr}{vs ws:List Value}{Q:Value->Shared->Prop}(ht:IsTup s.heap t vs.toArray)(hb:IsTup s.heap b ws.toArray)(hv:vs≠[])(h1:ws=[]->Q (.ref t) s)(h2:ws≠[]->Q (.ref s.heap.objs.size) { s with heap:=s.heap.push { cls:= .type "tuple",data:= .seq (vs++ws).toArray } })(hsz:vs.length+ws.length<=sizeLine):wpAny (model prog w) A (binaryOp .Add (.ref t) (.ref b)) Q E s:=by
 obtain ⟨⟨cls,dd,data,sl⟩,ho,hc,n,hd⟩:=id ht;obtain ⟨⟨cls2,dd2,data2,sl2⟩,ho2,hc2,n2,hd2⟩:=id hb;simp only at hc hd hc2 hd2;subst hc hd hc2 hd2;have e:vs.toArray++ws.toArray=(vs++ws).toArray:=by simp
 by_cases hw:ws=[]
 ·exact concat_meets ⟨_,ho,rfl⟩ ⟨_,ho2,rfl⟩ noFill_tuple_add seq_tuple_add PySem.F.slot_tuple_add PySem.F.entry_tuple_add (PySem.F.args_tuple_add_2 _ _)
   (tuple_addW1 t b vs.toArray ws.toArray n n2 dd dd2 sl sl2 (by simpa using hv) (by simp [hw])) ⟨ho,ho2,h1 hw⟩
 ·refine concat_meets ⟨_,ho,rfl⟩ ⟨_,ho2,rfl⟩ noFill_tuple_add seq_tuple_add PySem.F.slot_tuple_add PySem.F.entry_tuple_add (PySem.F.args_tuple_add_2 _ _)
   (tuple_addW2 t b vs.toArray ws.toArray n n2 dd dd2 sl sl2 (by simpa using hv) (by simpa using hw) (by rw [yZ,yZ];exact hsz)) ⟨ho,ho2,?_⟩
  rw [e];exact h2 hw
def sIx (n d:Nat):Option Int->Nat
 |none=>d
 |some v=>if v<0 then (v+(n:Int)).toNat else min v.toNat n
theorem sIx_none (n d:Nat):sIx n d none=d:=rfl
theorem sIx_nat (n d k:Nat):sIx n d (some (k:Int))=min k n:=by show (if (k:Int)<0 then ((k:Int)+(n:Int)).toNat else min (k:Int).toNat n)=min k n;rw [if_neg (by omega),Int.toNat_natCast]
end
end HT
namespace L2
open PySem PySem.Spec PyProof.Rows
variable{r:R2}{xs:List V}{j n t':Nat}{α:Type}{pins:List (Addr×Obj)}{U:St}{H:Hp}{its its':List Value}{x:V}{v:Value}
abbrev TO:=St->Hp->(Option Int->Hp->Prop)->Prop
def PO (X:Cx)(e:Option Expr)(t:TO):Prop :=
 ∀(pins:List (Addr×Obj))(s:Shared)(U:St)(H:Hp)(Q:Option Int->Hp->Prop),Inv X pins U H s->t U H Q ->
  wpAny (model X.prog X.w) X.A (evalPart e X.env) (λu s'=>∃ o H',Inv X pins U H' s'/\IsPart u o/\Q o H') X.xe s
def Qp:TO:=λ_ H Q=>Q none H
def Qr (t:TE):TO:=λU H Q=>t U H λx H1=>∃ i,x = .int i/\Q (some i) H1
section
variable {X:Cx}{e:Expr}{te:TE}{lo hi:Option Expr}{tl th:TO}{pos p2:Pos}
theorem xy:PO X none Qp:=by intro pins s U H Q I h;rw [evalPart_none];exact yM ⟨none,H,I,.none,h⟩
theorem xz (h:PE X e te):PO X (some e) (Qr te):=by intro pins s U H Q I hw;rw [evalPart_some];refine z0 (h pins s U H _ I hw) λu s1 ⟨x,H1,I1,r1,q1⟩=>?_;obtain ⟨i,rfl,q⟩:=q1;obtain ⟨t,rfl⟩:=r1;exact ⟨some i,H1,I1,.int i t,q⟩
def SlR (X:Cx)(r:V->Option Int->Option Int->Hp->VK->Prop):Prop :=
 ∀(pins:List (Addr×Obj))(s:Shared)(U:St)(H:Hp)(x:V)(v vl vu:Value)(lo hi:Option Int)(sl:Addr)(Q:VK),Inv X pins U H s->RelV x v->s.heap.IsSliceOf sl vl vu .none->IsPart vl lo->IsPart vu hi->r x lo hi H Q ->
  ∃ T id,typeLookup (.type T) "__getitem__"=pure (some (.builtin id))/\s.TypeIs v T/\wpAny (model X.prog X.w) X.A (getItem v (.ref sl)) (EP X pins U Q) X.xe s
def tSl (r:V->Option Int->Option Int->Hp->VK->Prop)(te:TE)(tl th:TO):TE:=λU H Q=>te U H λx H1=>tl U H1 λl H2=>th U H2 λu H3=>r x l u H3 Q
theorem xw {r:V->Option Int->Option Int->Hp->VK->Prop}(hr:SlR X r)(he:PE X e te)(hl:PO X lo tl)(hu:PO X hi th):PE X (.Subscript e (.Slice lo hi none p2) pos) (tSl r te tl th):=by intro pins s U H Q I h;refine Subscript_ (z0 (he pins s U H _ I h) λv s1 ⟨x,H1,I1,r1,q1⟩=>?_);refine wpAny_Slice (z0 (hl pins s1 U H1 _ I1 q1) λvl s2 ⟨l,H2,I2,pl,q2⟩=>z0 (hu pins s2 U H2 _ I2 q2) λvu s3 ⟨u,H3,I3,pu,q3⟩=>?_);rw [evalPart_none];refine yM ?_;have I4:Inv X pins U H3 { s3 with heap:=s3.heap.push { cls:= .type "slice",data:= .fields #[vl,vu,.none] } }:=I3.kept (t':=s3.toks) λb ob q=>yV _ q;obtain ⟨T,id,hT,ht,hg⟩:=hr pins { s3 with heap:=s3.heap.push { cls:= .type "slice",data:= .fields #[vl,vu,.none] } } U H3 x v vl vu l u s3.heap.objs.size Q I4 r1 (Heap.IsSliceOf.new ..) pl pu q3;show wpAny (model X.prog X.w) X.A (subscriptTail e (.Slice lo hi none p2) v (.ref s3.heap.objs.size)) (EP X pins U Q) X.xe { s3 with heap:=s3.heap.push { cls:= .type "slice",data:= .fields #[vl,vu,.none] } };exact tail_any (ops:=[.ref s3.heap.objs.size,v]) ht hT hg (by with_unfolding_all rfl)
def xh (xs:List V)(lo hi:Option Int):List V:=(xs.drop (HT.sIx xs.length 0 lo)).take (HT.sIx xs.length xs.length hi-HT.sIx xs.length 0 lo)
theorem Xi (xs:List V)(lo hi:Option Int):(xh xs lo hi).length<=xs.length:=by unfold xh;rw [yp,yc];omega
def wS (K:Fg):R2:=λx y H Q=>∃ a b xs ys,x = .ref a/\y = .ref b/\SqT K H a xs/\SqT K H b ys/\xs≠[]/\xs.length+ys.length<=sizeLine /\
 (ys=[]->Q (.ref a) H)/\(ys≠[]->∀ p,H p=none->Q (.ref p) (z6 H p (.tup (xs++ys))))
theorem Vals.nil_iff {us:List Value}(r:Vals xs us):us=[]↔xs=[]:=by
 cases r with
 |nil=>simp
 |cons _ _=>simp
theorem ZQ:OpR X (binaryOp .Add) (wS X.K):=by intro pins s U H x y v u Q I rx ry h;obtain ⟨a,b,xs,ys,rfl,rfl,ha,hb,hx,hz,q1,q2⟩:=h;cases rx;cases ry;obtain ⟨its,r1,p1,_⟩:=I.tuple ha;obtain ⟨its2,r2,p2,_⟩:=I.tuple hb;refine HT.cat_tup p1 p2 (λz=>hx (r1.nil_iff.mp z)) (λz=>⟨.ref a,H,I,rfl,q1 (r2.nil_iff.mp z)⟩) (λz=>?_) (by rw [<- r1.length,<- r2.length];exact hz);refine ⟨.ref s.heap.objs.size,_,I.laid (t':=s.toks) (o:= .tup (xs++ys)) (λb ob q=>yV _ q) (yT _) ?_,rfl,q2 (λw=>z (r2.nil_iff.mpr w)) _ (I.hok.fresh (yT _))⟩;exact ⟨by rw [yJ];exact hz,_,r1.append r2,IsTup.new _ _⟩
end
def ixN (n:Nat)(i:Int):Option Nat:=if 0<=i then (if i<n then some i.toNat else none) else if -(n:Int)<=i then some (i+n).toNat else none
def atI {α:Type}(xs:List α)(i:Int):Option α:=(ixN xs.length i).bind λj=>xs[j]?
theorem wo {i:Int}(h:ixN n i=some j):seqIndex? i n=some j/\j<n/\-(n:Int)<=i/\i<n:=by
 unfold ixN at h;by_cases h0:0<=i
 ·rw [if_pos h0] at h;by_cases h1:i<n
  ·rw [if_pos h1] at h;have e:i.toNat=j:=Option.some.inj h;exact ⟨by rw [seqIndex_of h0 h1,e],by omega,by omega,h1⟩
  ·rw [if_neg h1] at h;cases h
 ·rw [if_neg h0] at h;by_cases h1:-(n:Int)<=i
  ·rw [if_pos h1] at h;have e:(i+n).toNat=j:=Option.some.inj h;exact ⟨by rw [seqIndex_neg (by omega) h1,e],by omega,h1,by omega⟩
  ·rw [if_neg h1] at h;cases h
theorem zZ {xs:List α}{i:Int}{v:α}(h:atI xs i=some v):∃ j,seqIndex? i xs.length=some j/\xs[j]?=some v/\j<xs.length/\-(xs.length:Int)<=i/\i<xs.length:=by
 unfold atI at h;cases e:ixN xs.length i with
 |none=>rw [e] at h;cases h
 |some j=>rw [e] at h;obtain ⟨h1,h2,h3,h4⟩:=wo e;exact ⟨j,h1,h,h2,h3,h4⟩
theorem vk {xs:List α}{v:α}(h:xs[j]?=some v):atI xs (j:Int)=some v:=by
 have hj:j<xs.length:=(yH.mp h).1;have e:ixN xs.length (j:Int)=some j:=by unfold ixN;rw [if_pos (by omega),if_pos (by omega)];simp
 unfold atI;rw [e];exact h
def ve (b:Expr):Prop:=∀ o i,subscripted b false o i=operate [o,i] (getItem o i)
def IxR (X:Cx)(r:R2):Prop :=
 ∀(value slice:Expr)(pins:List (Addr×Obj))(s:Shared)(U:St)(H:Hp)(x y:V)(v u:Value)(Q:VK),Inv X pins U H s->RelV x v->RelV y u->r x y H Q ->
  subscripted slice false v u=operate [v,u] (getItem v u)->wpAny (model X.prog X.w) X.A (subscriptTail value slice v u) (EP X pins U Q) X.xe s
def MtR (X:Cx)(id:String)(r:V->List V->Hp->VK->Prop):Prop :=
 ∀(pins:List (Addr×Obj))(s:Shared)(U:St)(H:Hp)(x:V)(xs:List V)(v:Value)(us:List Value)(Q:VK),Inv X pins U H s->RelV x v->Vals xs us->r x xs H Q ->
  wpAny (model X.prog X.w) X.A (call (.builtin id) (v::us)) (EP X pins U Q) X.xe s
section
variable {X:Cx}{a b:Expr}{ta tb:TE}{pos:Pos}
theorem IxR.or {r':R2}(h:IxR X r)(h':IxR X r'):IxR X (λx y H Q=>r x y H Q∨r' x y H Q):=by
 intro value slice pins s U H x y v u Q I rx ry q hs;rcases q with q|q
 ·exact h value slice pins s U H x y v u Q I rx ry q hs
 ·exact h' value slice pins s U H x y v u Q I rx ry q hs
theorem zL (hr:IxR X r)(ha:PE X a ta)(hb:PE X b tb)(hs:ve b):PE X (.Subscript a b pos) (tOp r ta tb):=by intro pins s U H Q I h;exact Subscript_ (binT ha hb I h λv u s2 x y H2 I2 rx ry q=>hr a b pins s2 U H2 x y v u Q I2 rx ry q (hs _ _))
def rIxL (K:Fg):R2:=λx y H Q=>∃ p xs i v,x = .ref p/\y = .int i/\SqL K H p xs/\atI xs i=some v/\Q v H
def rIxT (K:Fg):R2:=λx y H Q=>∃ p xs i v,x = .ref p/\y = .int i/\SqT K H p xs/\atI xs i=some v/\Q v H
def rIxS:R2:=λx y H Q=>∃ z i c,x = .str z/\y = .int i/\z.length<=sizeLine/\atI z.cps.toList i=some c/\Q (.str ⟨#[c]⟩) H
theorem ix_list:IxR X (rIxL X.K):=by
 intro value slice pins s U H x y v u Q I rx ry h hs;obtain ⟨p,xs,i,z,rfl,rfl,hq,he,q⟩:=h;cases rx;obtain ⟨t,rfl⟩:=ry;obtain ⟨its,r,pl,hz⟩:=I.list hq;obtain ⟨j,h1,h2,h3,h4,h5⟩:=zZ he;obtain ⟨w,ew,rw'⟩:=r.get h2;have hl:=r.length;have hn:=qI;have fin:EP X pins U Q w s:=⟨z,H,I,rw',q⟩;by_cases h0:0<=i
 ·have hj:i.toNat=j:=by rw [seqIndex_of h0 h5] at h1;exact Option.some.inj h1
  exact item_listR pl.isList h0 (by omega) (by rw [hj];simpa using ew) fin hs
 ·have hj:(i+(its.toArray.size:Int)).toNat=j:=by rw [seqIndex_neg (by omega) h4] at h1;rw [yZ,<- hl];exact Option.some.inj h1
  exact subscriptTail_builtinR (x:=w) pl.isList.typeIs slot_list_getitem.lookup
   (wpAny_getItem_list_neg (Q:=λr s'=>r=w/\EP X pins U Q r s') pl.isList (by omega) (by rw [yZ]<;>omega) (by omega) (by rw [hj];simpa using ew) ⟨rfl,fin⟩) hs
theorem ix_tup:IxR X (rIxT X.K):=by
 intro value slice pins s U H x y v u Q I rx ry h hs;obtain ⟨p,xs,i,z,rfl,rfl,hq,he,q⟩:=h;cases rx;obtain ⟨t,rfl⟩:=ry;obtain ⟨its,r,pl,hz⟩:=I.tuple hq;obtain ⟨j,h1,h2,h3,h4,h5⟩:=zZ he;obtain ⟨w,ew,rw'⟩:=r.get h2;have hl:=r.length;have hn:=qI;have fin:EP X pins U Q w s:=⟨z,H,I,rw',q⟩;exact subscriptTail_builtinR (x:=w) pl.typeIs slot_tuple_getitem.lookup
  (getItem_tuple (j:=j) (Q:=λr s'=>r=w/\EP X pins U Q r s') pl (by omega) (by omega) (by rw [yZ,<- hl];exact h1) (by simpa using ew) ⟨rfl,fin⟩) hs
theorem Ze:IxR X rIxS:=by
 intro value slice pins s U H x y v u Q I rx ry h hs;obtain ⟨z,i,c,rfl,rfl,hz,he,q⟩:=h;obtain ⟨t,rfl⟩:=rx;obtain ⟨t',rfl⟩:=ry;obtain ⟨j,h1,h2,h3,h4,h5⟩:=zZ he;have hl:z.cps.toList.length=z.length:=by simp [Str.length]
 rw [hl] at h1 h4 h5;have hn:=qI;exact tail_any (typeIs_str s z t) slot_str_getitem.lookup (getItem_str (c:=c) (by
  have e1:decide (i < -(2 ^ 63:Int))=false:=yk (by omega);have e2:decide (i >= 2 ^ 63)=false:=yk (by omega);rw [e1,e2,Bool.or_false]) (by rw [h1];simpa using h2) ⟨.str ⟨#[c]⟩,H,I.tok _,⟨_,rfl⟩,q⟩) hs
def rIx (K:Fg):R2:=λx y H Q=>rIxL K x y H Q∨rIxT K x y H Q∨rIxS x y H Q
theorem Zc:IxR X (rIx X.K):=ix_list.or (ix_tup.or Ze)
theorem Zv (its:List Value)(n j:Nat)(u:Value):Obj.mapSeq (·.setIfInBounds j u) { cls:= .type "list",data:= .seq its.toArray n }={ cls:= .type "list",data:= .seq (its.set j u).toArray n }:=by simp [Obj.mapSeq]
theorem Inv.lst {pins:List (Addr×Obj)}{U:St}{H:Hp}{s:Shared}{p:Addr}{xs:List V}(I:Inv X pins U H s)(h:H p=some (.lst xs)):∃ (its:List Value) (n:Nat),Vals xs its/\s.heap.get? p=some { cls:= .type "list",data:= .seq its.toArray n }/\xs.length<=sizeLine:=by obtain ⟨z,its,n,r,e⟩:=I.hok p _ h;exact ⟨its,n,r,e,z⟩
theorem Inv.lstUpd {s:Shared}{p:Addr}{ys:List V}{n':Nat}{f:Obj->Obj}(I:Inv X pins U H s)(h:H p=some (.lst xs))(ho:s.heap.get? p=some { cls:= .type "list",data:= .seq its.toArray n })(hf:f { cls:= .type "list",data:= .seq its.toArray n }={ cls:= .type "list",data:= .seq its'.toArray n' })(r:Vals ys its')(hz:ys.length<=sizeLine)(t:Nat):Inv X pins U (z6 H p (.lst ys)) { s with heap:=s.heap.update p f,toks:=t }:=by
 have e:(s.heap.update p f).get? p=some { cls:= .type "list",data:= .seq its'.toArray n' }:=by rw [uS f ho (by rw [hf]<;>rfl),hf]
 refine I.write (x:=p) (e:=p) (by rw [h];trivial) (.inl rfl) (λb u hb q=>(yo _ _ (Ne.symm hb)).trans q) ⟨_,e⟩ ?_;exact ⟨hz,its',n',r,e⟩
def rSetL:V->V->V->Hp->(Hp->Prop)->Prop:=λo i v H Q=>∃ p xs k j,o = .ref p/\i = .int k/\H p=some (.lst xs)/\ixN xs.length k=some j/\Q (z6 H p (.lst (xs.set j v)))
theorem Va:PSet X rSetL:=by
 intro pins s U H o i v ov iv u Q I ro ri rv h;obtain ⟨p,xs,k,j,rfl,rfl,hp,hj,q⟩:=h;cases ro;obtain ⟨t,rfl⟩:=ri;obtain ⟨its,n,r,ho,hz⟩:=I.lst hp;obtain ⟨h1,h2,h3,h4⟩:=wo hj;have hl:=r.length;have hn:=qI;have I':Inv X pins U (z6 H p (.lst (xs.set j v))) { s with heap:=s.heap.update p (Obj.mapSeq (·.setIfInBounds j u)) } :=
  I.lstUpd hp ho (Zv its n j u) (r.set rv j) (by rw [yD];exact hz) s.toks
 by_cases h0:0<=k
 ·have hk:k.toNat=j:=by rw [seqIndex_of h0 h4] at h1;exact Option.some.inj h1
  exact PySem.W.ki_setAt ho h0 (by omega) (by rw [yZ,<- hl];exact h4) (by rw [hk];exact ⟨_,I',q⟩)
 ·have hk:(k+(its.toArray.size:Int)).toNat=j:=by rw [seqIndex_neg (by omega) h3] at h1;rw [yZ,<- hl];exact Option.some.inj h1
  exact PySem.W.ki_setBack ho (by omega) (by rw [yZ,<- hl];exact h3) (by omega) (by rw [hk];exact ⟨_,I',q⟩)
theorem Vd (lo hi:Option Int)(n:Nat):(sliceBounds lo hi none n).1=((HT.sIx n 0 lo:Nat):Int)/\(sliceBounds lo hi none n).2.1=((HT.sIx n n hi:Nat):Int)/\(sliceBounds lo hi none n).2.2=1:=by
 refine ⟨?_,?_,rfl⟩
 ·cases lo with
  |none=>simp [sliceBounds,HT.sIx]
  |some i =>
   simp only [sliceBounds,HT.sIx,uR,show (1:Int) > 0 by decide,if_true];by_cases h:i<0
   ·simp only [h,if_true]<;>omega
   ·simp only [h,if_false]<;>omega
 ·cases hi with
  |none=>simp [sliceBounds,HT.sIx]
  |some i =>
   simp only [sliceBounds,HT.sIx,uR,show (1:Int) > 0 by decide,if_true];by_cases h:i<0
   ·simp only [h,if_true]<;>omega
   ·simp only [h,if_false]<;>omega
theorem Vc (its:List Value)(lo hi:Option Int):slicePick its.toArray lo hi none=((its.drop (HT.sIx its.length 0 lo)).take (HT.sIx its.length its.length hi-HT.sIx its.length 0 lo)).toArray:=by obtain ⟨h1,h2,h3⟩:=Vd lo hi its.toArray.size;unfold slicePick;rw [h1,h2,h3];simp only [sliceRange_one,pick_run,yZ]<;>rfl
def rSlL (K:Fg):V->Option Int->Option Int->Hp->VK->Prop:=λx lo hi H Q=>∃ a xs,x = .ref a/\SqL K H a xs/\∀ p,H p=none->Q (.ref p) (z6 H p (.lst (xh xs lo hi)))
theorem Vb:SlR X (rSlL X.K):=by intro pins s U H x v vl vu lo hi sl Q I rx hs pl pu h;obtain ⟨a,xs,rfl,hx,q⟩:=h;cases rx;obtain ⟨its,r,ht,hz⟩:=I.list hx;have hlen:=r.length;refine ⟨"list",_,slot_list_getitem.lookup,ht.isList.typeIs,?_⟩;refine wpAny_getItem_list_slice ht.isList hs pl pu .none (by simp) ?_ (by rw [yZ]<;>omega);rw [Vc,<- hlen];refine ⟨.ref s.heap.objs.size,_,I.laid (t':=s.toks) (o:= .lst (xh xs lo hi)) (λb ob q=>yV _ q) (yT _) ?_,rfl,q _ (I.hok.fresh (yT _))⟩;exact ⟨yt (Xi xs lo hi) hz,_,0,(r.drop (HT.sIx xs.length 0 lo)).take (HT.sIx xs.length xs.length hi-HT.sIx xs.length 0 lo),yz _ rfl⟩
def v7:V->Bool
 | .non=>true
 | .bl _=>true
 | .int _=>true
 | .str _=>true
 |_=>false
def eqV:V->V->Bool
 | .non,.non=>true
 | .bl a,.bl b=>a==b
 | .bl a,.int b=>(if a then 1 else 0)==b
 | .int a,.bl b=>a==(if b then 1 else 0)
 | .int a,.int b=>a==b
 | .str a,.str b=>a==b
 |_,_=>false
theorem vV {A:Around}{s:Shared}{y:V}{u:Value}(ry:RelV y u)(rx:RelV x v)(fy:v7 y=true)(fx:v7 x=true):SeqAt.EqAt A s u v (eqV y x):=by
 cases y with
 |non =>
  cases ry;cases x with
  |non=>cases rx;exact SeqAt.EqAt.same _
  |bl b=>cases rx;exact SeqAt.EqAt.none_bool b
  |int b=>obtain ⟨t,rfl⟩:=rx;exact SeqAt.EqAt.none_int b t
  |str b=>obtain ⟨t,rfl⟩:=rx;exact SeqAt.EqAt.none_str b t
  |_=>exact absurd (show false=true from fx) yY
 |bl a =>
  cases ry;cases x with
  |non=>cases rx;exact SeqAt.EqAt.bool_none a
  |bl b=>cases rx;exact SeqAt.EqAt.bool_bool a b
  |int b=>obtain ⟨t,rfl⟩:=rx;exact SeqAt.EqAt.bool_int a b t
  |str b=>obtain ⟨t,rfl⟩:=rx;exact SeqAt.EqAt.bool_str a b t
  |_=>exact absurd (show false=true from fx) yY
 |int a =>
  obtain ⟨t',rfl⟩:=ry;cases x with
  |non=>cases rx;exact SeqAt.EqAt.int_none a t'
  |bl b=>cases rx;exact SeqAt.EqAt.int_bool a t' b
  |int b=>obtain ⟨t,rfl⟩:=rx;exact SeqAt.EqAt.int_int a t' b t
  |str b=>obtain ⟨t,rfl⟩:=rx;exact SeqAt.EqAt.int_str a t' b t
  |_=>exact absurd (show false=true from fx) yY
 |str a =>
  obtain ⟨t',rfl⟩:=ry;cases x with
  |non=>cases rx;exact SeqAt.EqAt.str_none a t'
  |bl b=>cases rx;exact SeqAt.EqAt.str_bool a t' b
  |int b=>obtain ⟨t,rfl⟩:=rx;exact SeqAt.EqAt.str_int a t' b t
  |str b=>obtain ⟨t,rfl⟩:=rx;exact SeqAt.EqAt.str_str a t' b t
  |_=>exact absurd (show false=true from fx) yY
 |_=>exact absurd (show false=true from fy) yY
theorem QZ:CallR X (.builtin "len") (λxs H Q=>∃ p ys,xs=[.ref p]/\(SqL X.K H p ys∨SqT X.K H p ys)/\Q (.int ys.length) H):=by
 intro pins s U H xs us Q I r h;obtain ⟨p,ys,rfl,hq,q⟩:=h;obtain ⟨u,rfl,rx⟩:=qN r;cases rx;have hn:=qI;rcases hq with hq|hq
 ·obtain ⟨its,r',pl,hz⟩:=I.list hq;have hlen:=r'.length;exact Calls.call_len_list pl.isList (by simp only [yZ]<;>omega) ⟨.int ys.length,H,I.tok _,⟨s.toks+1,by rw [yZ,hlen]⟩,q⟩
 ·obtain ⟨its,r',pl,hz⟩:=I.tuple hq;have hlen:=r'.length;exact len_tuple pl (by simp only [yZ]<;>omega) ⟨.int ys.length,H,I.tok _,⟨s.toks+1,by rw [yZ,hlen]⟩,q⟩
theorem CallR.or {f:Value}{r r':List V->Hp->VK->Prop}(h:CallR X f r)(h':CallR X f r'):CallR X f (λxs H Q=>r xs H Q∨r' xs H Q):=by
 intro pins s U H xs us Q I rs q;rcases q with q|q
 ·exact h pins s U H xs us Q I rs q
 ·exact h' pins s U H xs us Q I rs q
theorem Xa:CallR X (.type "list") (λxs H Q=>∃ p ys,xs=[.ref p]/\(SqL X.K H p ys∨SqT X.K H p ys)/\∀ l,H l=none->Q (.ref l) (z6 H l (.lst ys))):=by
 intro pins s U H xs us Q I r h;obtain ⟨p,ys,rfl,hq,q⟩:=h;obtain ⟨u,rfl,rx⟩:=qN r;cases rx;have fin:∀(its:List Value),Vals ys its->ys.length<=sizeLine->∀(h':Heap)(c':Nat),(∀ b o',s.heap.get? b=some o'->h'.get? b=some o') ->
   h'.get? s.heap.objs.size=some { cls:= .type "list",dict:=none,data:= .seq its.toArray c',slots:=#[] }->EP X pins U Q (.ref s.heap.objs.size) { s with heap:=h' }:=λits r' hz h' c' kp e =>
  ⟨.ref s.heap.objs.size,_,I.laid (t':=s.toks) kp (yT _) (show ObjOk X.prog X.w _ h' _ (.lst ys) from ⟨hz,its,c',r',e⟩),rfl,q _ (I.hok.fresh (yT _))⟩
 rcases hq with hq|hq
 ·obtain ⟨its,r',pl,hz⟩:=I.list hq;have hlen:=r'.length;obtain ⟨o,ho,hc,n,hd⟩:=pl.isList;exact call_list_seq p (.inl rfl) ho hc hd (λh' c' kp e=>fin its r' hz h' c' kp e) (by simp only [yZ]<;>omega)
 ·obtain ⟨its,r',pl,hz⟩:=I.tuple hq;have hlen:=r'.length;obtain ⟨o,ho,hc,n,hd⟩:=pl;exact call_list_seq p (.inr rfl) ho hc hd (λh' c' kp e=>fin its r' hz h' c' kp e) (by simp only [yZ]<;>omega)
def tyV (K:Fg)(T:String)(x:V)(H:Hp):Prop:=match x with
 | .str _=>T = "str"
 | .int _=>T = "int"
 | .ref p=>(T = "list"/\∃ xs,SqL K H p xs)∨(T = "tuple"/\∃ o,K.lookup p=some o/\o.cls = .type "tuple"/\o.dict=none) ∨
   (T = "dict"/\((∃ kvs,H p=some (.dK kvs))∨∃ kvs,H p=some (.dT kvs)))∨(T = "set"/\∃ S n,H p=some (.set S n))
 |_=>False
theorem Vq {s:Shared}{T:String}(I:Inv X pins U H s)(r:RelV x v)(ty:tyV X.K T x H):s.TypeIs v T/\∀ a,v = .ref a->∃ ob,s.heap.get? a=some ob/\ob.dict=none:=by
 cases x with
 |str z=>obtain ⟨t,rfl⟩:=r;cases (show T = "str" from ty);exact ⟨typeIs_str s z t,λ_ e=>nomatch e⟩
 |int i=>obtain ⟨t,rfl⟩:=r;cases (show T = "int" from ty);exact ⟨typeIs_int s i t,λ_ e=>nomatch e⟩
 |ref p =>
  cases r;rcases ty with ⟨rfl,xs,hq⟩|⟨rfl,o,hk,hc,hd⟩|⟨rfl,hk⟩|⟨rfl,S,n,hk⟩
  ·obtain ⟨its,_,pl,_⟩:=I.list hq;refine ⟨pl.isList.typeIs,λa e=>?_⟩;cases e;obtain ⟨o,n,e,c,hd,_⟩:=pl;exact ⟨o,e,hd⟩
  ·refine ⟨⟨o,I.kIn p o hk,hc⟩,λa e=>?_⟩;cases e;exact ⟨o,I.kIn _ o hk,hd⟩
  ·have z:∃ o,s.heap.get? p=some o/\o.ExactDict:=by
    rcases hk with ⟨kvs,hk⟩|⟨kvs,hk⟩
    ·obtain ⟨_,_,_,_,o,_,_,e,ex,_⟩:=I.hok p _ hk;exact ⟨o,e,ex⟩
    ·obtain ⟨_,_,_,_,o,_,_,e,ex,_⟩:=I.hok p _ hk;exact ⟨o,e,ex⟩
   obtain ⟨o,e,ex⟩:=z;refine ⟨⟨o,e,ex.1⟩,λa e2=>?_⟩;cases e2;exact ⟨o,e,ex.2.1⟩
  ·obtain ⟨o,_,_,_,e,ex,_⟩:=I.hok p _ hk;refine ⟨⟨o,e,ex.1⟩,λa e2=>?_⟩;cases e2;exact ⟨o,e,ex.2.1⟩
 |_=>exact False.elim ty
def tBM (K:Fg)(T:String)(r:V->List V->Hp->VK->Prop)(to:TE)(t:TA):TE:=λU H Q=>to U H λx H1=>tyV K T x H1/\t U H1 λxs H2=>r x xs H2 Q
variable {o e:Expr}{es:List Expr}{to:TE}{t:TA}{name:Str}{apos cpos:Pos}{T id:String}{r:V->List V->Hp->VK->Prop}
theorem pe_bm (pa:PlainAttrs T)(slot:Slot T name id)(hty:typeOf (.builtin id)=pure (.type "method_descriptor"))(hm:MtR X id r)(ho:PE X o to)(ha:PA X (e::es) t)(hbase:attributeBase o name X.env (eval o X.env)=eval o X.env:=by rfl)(hfew:((backTo cpos (starEach (e::es) X.env)).all (λx=>!x.1)&&(backToKw cpos (keywordEach [] X.env)).all (λx=>x.1.isSome)&&decide ((e::es).length+([]:List Keyword).length+(if ([]:List Keyword).isEmpty then 0 else 1)<30))=true:=by rfl)(hline:(apos.endLine==cpos.line)=true:=by rfl)(hs:starEach (e::es) X.env=(false,eval e X.env)::starEach es X.env:=by rfl)(hplain:(backTo cpos (starEach es X.env)).any (·.1)=false:=by rfl):PE X (.Call (.Attribute o name apos) (e::es) [] cpos) (tBM X.K T r to t):=by intro pins s U H Q I h;refine wpAny_Call_method_late hbase hfew hline rfl (z0 (ho pins s U H _ I h) λv s1 ⟨x,H1,I1,r1,ty,q1⟩=>?_);obtain ⟨h1,h2⟩:=Vq I1 r1 ty;refine ⟨T,id,pa,slot,hty,h1,h2,?_⟩;have hA:=ha cpos pins s1 U H1 _ I1 q1;rw [hs] at hA ⊢;refine Calls.callWith_builtin (by show (false || (backTo cpos (starEach es X.env)).any (·.1))=false;rw [hplain]<;>rfl) (Calls.evalArgs_plain ?_);exact z0 hA λus s2 ⟨vs,H2,I2,r2,q2⟩=>hm pins s2 U H2 x vs v us Q I2 r1 r2 q2
end
def MtM (X:Cx)(id:String)(r:V->List V->Hp->VK->Prop):Prop :=
 ∀(pins:List (Addr×Obj))(s:Shared)(U:St)(H:Hp)(x:V)(xs:List V)(v:Value)(us:List Value)(Q:VK),Inv X pins U H s->RelV x v->Vals xs us->r x xs H Q ->
  wpAny (model X.prog X.w) X.A (call (.builtin id) (v::us)) (EP X pins U Q) X.xe s
theorem Vals.one:∀{x:V}{us:List Value},Vals [x] us->∃ u,us=[u]/\RelV x u
 |_,_,.cons r .nil=>⟨_,rfl,r⟩
theorem Vals.eraseIdx:∀{xs:List V}{us:List Value}(i:Nat),Vals xs us->Vals (xs.eraseIdx i) (us.eraseIdx i)
 |_,_,_,.nil=> .nil
 |_,_,0,.cons _ t=>t
 |_,_,i+1,.cons r t=> .cons r (Vals.eraseIdx i t)
theorem wu {α:Type}:∀(l:List α)(i:Nat),(l.eraseIdx i).length<=l.length
 |[],_=>yT _
 |_::_,0=>Nat.le_succ _
 |_::r,i+1=>Nat.succ_le_succ (wu r i)
section
variable {X:Cx}{pins:List (Addr×Obj)}{U:St}{H:Hp}{s:Shared}{l b:Addr}{xs ys zs:List V}
theorem Inv.lset {f:Array Value->Array Value}(I:Inv X pins U H s)(hH:H l=some (.lst xs))(e:s.heap.get? l=some { cls:= .type "list",data:= .seq its.toArray n })(hf:f its.toArray=its'.toArray)(hv:Vals ys its')(hz:ys.length<=sizeLine):Inv X pins U (z6 H l (.lst ys)) { s with heap:=s.heap.update l (Obj.mapSeq f),toks:=t' }:=by have q:=PySem.IsL.update e f;rw [hf] at q;refine I.write (x:=l) (e:=l) (by rw [hH];exact trivial) (.inl rfl) (λb' u hb hu=>(yo s.heap (Obj.mapSeq f) (Ne.symm hb)).trans hu) ⟨_,q⟩ ?_;exact ⟨hz,its',_,hv,q⟩
theorem Inv.lnew (I:Inv X pins U H s)(hv:Vals ys its)(hz:ys.length<=sizeLine):Inv X pins U (z6 H s.heap.objs.size (.lst ys)) { s with heap:=s.heap.push { cls:= .type "list",data:= .seq its.toArray },toks:=t' } :=
 I.laid (λ_ _ q=>yV _ q) (yT _) ⟨hz,its,0,hv,yz _ rfl⟩
theorem Inv.fresh (I:Inv X pins U H s):H s.heap.objs.size=none:=I.hok.fresh (yT _)
theorem Inv.lstM (I:Inv X pins U H s)(hH:H l=some (.lst xs)):xs.length<=sizeLine/\∃ (its:List Value) (n:Nat),Vals xs its/\xs.length=its.length/\s.heap.get? l=some { cls:= .type "list",data:= .seq its.toArray n }:=by obtain ⟨z,its,n,r,e⟩:=I.hok l _ hH;exact ⟨z,its,n,r,r.length,e⟩
end
section
variable {X:Cx}
def wV:V->List V->Hp->VK->Prop:=λx vs H Q=>∃ l xs i k y,x = .ref l/\vs=[.int i]/\H l=some (.lst xs)/\-(2 ^ 63)<=i/\i<2 ^ 63/\seqIndex? i xs.length=some k/\xs[k]?=some y/\Q y (z6 H l (.lst (xs.eraseIdx k)))
theorem Zx:MtM X "list.pop" wV:=by
 intro pins s U H x vs v us Q I rx rv h;obtain ⟨l,xs,i,k,y,rfl,rfl,hH,h1,h2,hk,hy,q⟩:=h;cases rx;obtain ⟨u,rfl,ru⟩:=rv.one;obtain ⟨t,rfl⟩:=ru;obtain ⟨z,its,n,r,hl,e⟩:=I.lstM hH;obtain ⟨w,hw,rw'⟩:=r.get hy;refine call_meets F.slot_list_pop ⟨_,e,rfl⟩ F.entry_list_pop (F.args_list_pop_2 _ _)
  (MeetsSeq.list_pop_at l its.toArray n i t k w (fitsIndex_both h1 h2) (by rw [yZ,<- hl];exact hk) (by rw [<- Array.getElem?_toList];exact hw) (by rw [yZ];omega)) ⟨e,?_⟩
 refine ⟨y,_,I.lset (its':=its.eraseIdx k) hH e ?_ (r.eraseIdx k) ?_,rw',q⟩
 ·show its.toArray.eraseIdxIfInBounds k=(its.eraseIdx k).toArray;rw [List.eraseIdxIfInBounds_toArray]
 ·have:=wu xs k;omega
end
section
variable {κ:Type}[DecidableEq κ]
theorem KV.length {kvs:List (κ×V)}{vs:List (κ×Value)}(r:KV kvs vs):kvs.length=vs.length:=Paired.length r
end
section
variable {P:Program}{w:World}{H:Hp}{h:Heap}{a:Addr}
theorem rd_of {u:HO}(ok:HOk P w H h)(e:Rd H a u):ObjOk P w H h a u:=e.ok ok
theorem dk_rd {kvs:List (u6×V)}(ok:HOk P w H h)(e:Rd H a (.dK kvs)):kvs.length<=sizeLine/\(a==sysModules)=false/\∃ vs,KV kvs vs/\h.DictOf (zJ P w) a vs :=
 show ObjOk P w H h a (.dK kvs) from rd_of ok e
end
section
variable {X:Cx}{pins:List (Addr×Obj)}{U:St}{H:Hp}{s:Shared}{a:Addr}{kvs:List (u6×V)}{k:u6}{u:Value}{A:Around}{E:Value->Shared->Prop}
theorem d_len {Q:Value->Shared->Prop}(I:Inv X pins U H s)(e:Rd H a (.dK kvs))(h:∀ t s',Inv X pins U H s'->Q (.int kvs.length t) s'):wpAny (model X.prog X.w) A (call (.builtin "len") [.ref a]) Q E s:=by obtain ⟨z,hd,vs,rel,dd⟩:=dk_rd I.hok e;refine call_len_dict hd dd (by rw [<- rel.length];rw [sizeLine_eq] at z;omega) ?_;rw [<- rel.length];exact h _ _ (I.tok _)
end
end L2
namespace Att
open PySem PySem.W PySem.Calls PyProof.Rows
variable{P:Params}{h:Heap}{l:OpenLaw}{n:Nat}
theorem XR :∀(ns:List Int)(vs:List Value),WellAll P h vs (ns.map WData.int)->IntsAre vs ns:=by
 intro ns
 induction ns with
 |nil=>intro vs w;rw [List.map_nil] at w;cases w;exact .nil
 |cons n ns ih =>
  intro vs w;rw [List.map_cons] at w;cases w with
  |cons a b=>cases a;exact .cons _ _ (ih _ b)
theorem JY (hn:l.most=some n){args:List WData}{vals:List Value}(hpre:l.row.toRowW.claim.pre args=true)(hwl:WellAll P h vals args):∃ a vs ns,vals=[Value.ref a]/\args=[WData.list (ns.map WData.int)]/\h.get? a=some { cls:= .type "list",data:= .seq vs.toArray }/\IntsAre vs ns/\ns.length<=n:=by
 have hsh:WShape.hasAll [] args [.list .int]=true:=(pre_splitW hpre).1;have hc:l.pre.holds [] { args:=args }=true:=(pre_splitW hpre).2;obtain ⟨d,r,rfl,h1,h2⟩:=hasAllW_cons hsh;obtain rfl:=hasAllW_nil h2;obtain ⟨xs,rfl,h3⟩:=hasW_list h1;obtain ⟨ns,rfl⟩:=items_int h3;have hlen:ns.length<=n:=by
  unfold OpenLaw.pre at hc;have h4:(WTm.not (.lt (.lit (.int (n:Int))) (.len (.arg 0)))).holds [] { args:=[.list (ns.map .int)] }=true:=by have h4:=(holds_andW hc).1;rw [hn] at h4;exact h4
  have h5:=condW_of h4 (w_not (w_lt w_lit (w_len_list (w_arg rfl))));rw [yR] at h5;refine Nat.le_of_not_lt λq=>?_;have q':(n:Int)<((ns.length:Nat):Int):=by omega
  first
   |(rw [decide_eq_true q'] at h5;exact absurd h5 (by decide))
   |(simp at h5;omega)
 cases hwl with
 |cons w1 w2 =>
  cases w2;cases w1 with
  |list ho hall=>exact ⟨_,_,ns,rfl,rfl,ho,XR ns _ hall,hlen⟩
theorem Jq (l:OpenLaw)(args:List WData):l.row.toRowW.claim.post args (.bool true) args=true :=
 postW_of (r:=l.row.toRowW) (X:=(true==true))
  (show WShape.has [] (.bool true) .bool=true by first|rfl|decide|simp [WShape.has,WShape.arms,WShape.armsAll])
  (show (WTm.eq .res (.lit (.bool true))).value [] { args:=args,res:=some (.bool true),after:=args }=some (.bool (true==true)) from w_eq_bool (w_res rfl) w_lit) rfl
theorem attach_call {q:Program}{loose:List Str}{XP:(Str->Option Value)->Heap->Prop}{YP:World->Heap->Prop}{d:DefRec}(hn:l.most=some n)(hdf:d.params.defaults=[])(call:∀ (w:World) (s₀ s₁:Shared) (mg mb:Str->Option Value) (fa:Addr) (o:Obj) (pm cd doc:Value) (a:Addr) (vs:List Value) (ns:List Int), Ground q loose [] XP w s₀ mg mb s₁.heap->YP w s₁.heap -> s₁.heap.get? fa=some o->o.data = .func (docDef d.name d.params d.body d.scope pm cd doc)->s₁.heap.CodeRec cd d.name->mg d.name=some (.ref fa) -> s₁.heap.get? a=some { cls:= .type "list",data:= .seq vs.toArray }->IntsAre vs ns->ns.length<=n->s₁.gens=#[] -> codeAny (model l.prog w) callerA (.call (.ref fa) ⟨[.ref a],[]⟩) (λr s'=>r = .ok (.ret (.bool true))/\OldK s₁.heap s'.heap/\s'.os=s₁.os/\AllBare s'.gens) s₁):WalkO q loose XP YP l.row.toRowW d [] (λf vs=>PySem.call f vs):=by intro w s₀ s₁ mg mb G Y fa o pm cd doc dV kV ho hd hcd hD hmg hg args vals as hpre hlay hrd hwl hlo;obtain rfl:dV = .none:=Dflts.none hD hdf;obtain rfl:kV = .none:=Dflts.noKw hD;obtain ⟨a,vs,ns,rfl,rfl,hobj,hints,hlen⟩:=JY hn hpre hwl;refine enter_call (codeAny_mono (call w s₀ s₁ mg mb fa o pm cd doc a vs ns G Y ho (fd_plain hd) hcd hmg hobj hints hlen hg) λr s' hq=>?_);obtain ⟨rfl,h2,h3,h4⟩:=hq;exact ⟨.inl ⟨.bool true,.bool true,[],rfl,λ_=>rfl,.bool true,Jq l _,λ_=>⟨List.Pairwise.nil,λ_ hm=>(nomatch hm)⟩⟩,h2,h3,h4⟩
end Att
namespace L2
open PySem PySem.Spec PyProof.Rows
variable{K:Fg}{k n:Nat}{a f:Addr}{fd:FuncData}{qual x:Str}{sp:Sp}{st:Stmt}{ps:List Str}{A B:Prop}{H H':Hp}
theorem Qv:∀{vs:List Value}{ns:List Int},IntsAre vs ns->Vals (ns.map V.int) vs
 |_,_,.nil=> .nil
 |_,_,.cons n t h=> .cons ⟨t,rfl⟩ (Qv h)
def Only (H:Hp):Prop:=∀ b,H b=none∨(∃ o xs,H b=some (.frz o (.lst xs)))∨∃ p∈TABS,p.1=b/\H b=some (.tbl p.2.1 p.2.2)
structure qZ (K:Fg)(h:Heap):Prop where
 at_:∀ p∈TABS,h.get? p.1=some { cls:= .none,data:= .fields p.2.1 }
 tri:∀ p∈TABS,TriplesOk p.2.1.toList
 non:∀ p∈TABS,∀ q∈p.2.2,codeAmong q.1 p.2.1.toList=none
 tab:∀ p∈TABS,isCodeTable h p.1
 one:∀ p∈TABS,∀ q∈TABS,p.1=q.1->p=q
 out:∀ p∈TABS,K.lookup p.1=none
def t6:Hp:=λb=>(TABS.find? λp=>p.1==b).map λp=> .tbl p.2.1 p.2.2
theorem zU {b:Addr}{u:HO}(h:t6 b=some u):∃ p∈TABS,p.1=b/\u = .tbl p.2.1 p.2.2:=by unfold t6 at h;obtain ⟨p,e,r⟩:=yA.mp h;exact ⟨p,List.mem_of_find?_eq_some e,by have:=List.find?_some e;simpa using this,r.symm⟩
theorem Qt {h:Heap}(T:qZ K h){p:Addr×Array Value×List (Pos×Str)}(hp:p∈TABS):t6 p.1=some (.tbl p.2.1 p.2.2):=by
 unfold t6;cases e:TABS.find? λq=>q.1==p.1 with
 |none=>exact absurd (List.find?_eq_none.mp e p hp) (by simp)
 |some q =>
  have e1:q.1=p.1:=by have:=List.find?_some e;simpa using this
  rw [T.one q (List.mem_of_find?_eq_some e) p hp e1];rfl
theorem Zm {P:Program}{w:World}{mg mb:Str->Option Value}{CX:CXT}{fa:Addr}{s₁:Shared}{vs:List Value}{ns:List Int}(KX:K.In s₁.heap)(T:qZ K s₁.heap)(hns:s₁.heap.Ns mainGlobals mg)(hb:s₁.heap.Ns builtinsNs mb)(hbb:∀ x:Str,x ≠ "__name__"->mb x=bootBuiltins x)(hlim:s₁.heap.NoLimit)(hbm:∃ bm ob,mg "__builtins__"=some (.ref bm)/\bm≠builtinsNs/\s₁.heap.get? bm=some ob/\ob.cls = .type "module"/\ob.dict=some builtinsNs/\ob.data = .plain)(hg:s₁.gens=#[])(ha:s₁.heap.get? a=some { cls:= .type "list",data:= .seq vs.toArray })(hi:IntsAre vs ns)(hl:ns.length<=sizeLine)(hr:Room k callerA)(F:∀ base:Heap,K.In base->base.Ns mainGlobals mg->FnOk P w K mg base CX k fa fd [x] sp)(hbind:∀ (s:Shared) (u:Value),BindsTo s fd ⟨[u],[]⟩ [(x,u)])(hsp:∀ H:Hp,Only H->SqL K H a (ns.map V.int)->sp [.ref a] H (λv _=>v = .bl true) λ_ _ _=>False)(hCX:∀ H e s',CX [] H s₁ (λ_ _ _=>False) e s'->False):codeAny (model P w) callerA (.call (.ref fa) ⟨[.ref a],[]⟩) (λr s'=>r = .ok (.ret (.bool true))/\OldK s₁.heap s'.heap/\s'.os=s₁.os/\AllBare s'.gens) s₁:=by
 have rv:=Qv hi;have lenV:=hi.length;have naT:∀ p∈TABS,p.1≠a:=λp hp z=>by
  have e:=T.at_ p hp;rw [z,ha] at e;cases e
 have core:∀ H:Hp,Only H->SqL K H a (ns.map V.int)->HOk P w H s₁.heap->(∀ b,H b≠none->b=a∨∃ p∈TABS,p.1=b)->(∀ b,H b≠none->K.lookup b=none)->(∀ p∈TABS,H p.1=some (.tbl p.2.1 p.2.2)) ->
   codeAny (model P w) callerA (.call (.ref fa) ⟨[.ref a],[]⟩) (λr s'=>r = .ok (.ret (.bool true))/\OldK s₁.heap s'.heap/\s'.os=s₁.os/\AllBare s'.gens) s₁:=by
  intro H hO hS hok hA hK hT;have base_of:∀{b:Addr}{o:Obj},s₁.heap.get? b=some o->H b=none->(qk s₁.heap H).get? b=some o:=λe n=>XI e n;have noA:∀{b:Addr}{o:Obj}{es:Array DictEntry}{ep:Nat},s₁.heap.get? b=some o->o.data = .dict es ep->H b=none:=λ{b o es ep} e d=>by
   cases q:H b with
   |none=>rfl
   |some u =>
    rcases hA b (by rw [q];simp) with e'|⟨p,hp,e'⟩
    ·subst e';rw [ha] at e;cases e;have d':Data.seq vs.toArray _=Data.dict es ep:=d;cases d'
    ·subst e';rw [T.at_ p hp] at e;cases e;have d':Data.fields p.2.1=Data.dict es ep:=d;cases d'
  have nsK:∀{b:Addr}{m:Str->Option Value},s₁.heap.Ns b m->(qk s₁.heap H).Ns b m:=λ{b m} ⟨o,es,ep,e,d,r⟩=>⟨o,es,ep,base_of e (noA e d),d,r⟩;have hKb:K.In (qk s₁.heap H):=λb o e=>base_of (KX b o e) (by
   cases q:H b with
   |none=>rfl
   |some u=>rw [hK b (by rw [q];simp)] at e;cases e)
  have noP:∀{b:Addr}{o:Obj},s₁.heap.get? b=some o->o.data = .plain->H b=none:=λ{b o} e d=>by
   cases q:H b with
   |none=>rfl
   |some u =>
    rcases hA b (by rw [q];simp) with e'|⟨p,hp,e'⟩
    ·subst e';rw [ha] at e;cases e;have d':Data.seq vs.toArray _=Data.plain:=d;cases d'
    ·subst e';rw [T.at_ p hp] at e;cases e;have d':Data.fields p.2.1=Data.plain:=d;cases d'
  have hM:Mod K mg (qk s₁.heap H):=⟨hKb,nsK hns,⟨mb,nsK hb,hbb⟩,let ⟨mc,h1,h2⟩:=hlim;⟨mc,nsK h1,h2⟩,let ⟨bm,ob,b1,b2,b3,b4,b5,b6⟩:=hbm;⟨bm,ob,b1,b2,base_of b3 (noP b3 b6),b4,b5,b6⟩⟩;have e0:Env0 P w K mg (qk s₁.heap H) callerA [] s₁ H:=⟨rfl,hM,λb o e=>ZC e,Nat.le_of_eq (XJ _ _),trivial,λb hb=>absurd (show b∈([]:List Addr) from hb) (by simp),hok,.of_eq hg,hT⟩;refine codeAny_mono ((F _ hKb (nsK hns)).run callerA [] s₁ H ⟨[.ref a],[]⟩ [.ref a] [.ref a] _ _ hr e0 (hbind s₁ (.ref a)) (.cons rfl .nil) (hsp H hO hS)) λr s' h=>?_;cases r with
  |error e=>exact (hCX H e s' h).elim
  |ok fl =>
   cases fl with
   |next=>exact False.elim h
   |brk=>exact False.elim h
   |cont=>exact False.elim h
   |ret u =>
    obtain ⟨v,H',os,bare,un,hok',r',q⟩:=h;have q':v = .bl true:=q;subst q';obtain rfl:u=Value.bool true:=r';refine ⟨rfl,⟨λb o e=>?_,λb o e=>un.there b o e (by simp)⟩,os,bare⟩;rcases hO b with z|⟨ob,xs,z⟩|⟨p,hp,rfl,z⟩
    ·exact .inl (un.keep b o e z (by intro z;exact absurd (show b∈([]:List Addr) from z) (by simp)) (by simp))
    ·have z2:=un.frzs b ob _ z;obtain ⟨e1,_⟩:=hok b _ z;obtain ⟨e2,_⟩:=hok' b _ z2;rw [e] at e1;cases e1;exact .inl e2
    ·have z2:=un.tbls p.1 _ _ z;obtain ⟨more,e2,_⟩:=hok' p.1 _ z2;rw [T.at_ p hp] at e;cases e;exact .inr (.inl ⟨T.tab p hp,rfl,p.2.1,more,rfl,e2⟩)
 have tok:∀{H:Hp}{p:Addr×Array Value×List (Pos×Str)},p∈TABS->ObjOk P w H s₁.heap p.1 (.tbl p.2.1 p.2.2):=λ{H p} hp =>
  ⟨#[],by rw [Array.append_empty];exact T.at_ p hp,by rw [Array.append_empty];exact T.tri p hp,λq hq=> .inl (by rw [Array.append_empty];exact T.non p hp q hq)⟩
 have only:∀ b,t6 b=none∨(∃ o xs,t6 b=some (.frz o (.lst xs)))∨∃ p∈TABS,p.1=b/\t6 b=some (.tbl p.2.1 p.2.2):=λb=>by
  cases q:t6 b with
  |none=>exact .inl rfl
  |some u=>obtain ⟨p,hp,e1,rfl⟩:=zU q;exact .inr (.inr ⟨p,hp,e1,rfl⟩)
 have mine:∀ b,t6 b≠none->∃ p∈TABS,p.1=b:=λb z=>by
  cases q:t6 b with
  |none=>exact absurd q z
  |some u=>obtain ⟨p,hp,e1,_⟩:=zU q;exact ⟨p,hp,e1⟩
 cases hk:K.lookup a with
 |some o =>
  have e:=KX a o hk;rw [ha] at e;cases e;refine core t6 only (.inr ⟨_,vs.toArray,_,hk,rfl,rfl,rfl,by rw [yZ,lenV];exact hl,by simpa using rv⟩) (λb u z=>?_) (λb z=> .inr (mine b z)) (λb z=>?_) λp hp=>Qt T hp
  ·obtain ⟨p,hp,rfl,rfl⟩:=zU z;exact tok hp
  ·obtain ⟨p,hp,rfl⟩:=mine b z;exact T.out p hp
 |none =>
  refine core (λb=>if b=a then some (.frz { cls:= .type "list",data:= .seq vs.toArray } (.lst (ns.map V.int))) else t6 b) (λb=>?_) (.inl (.inr ⟨{ cls:= .type "list",data:= .seq vs.toArray },if_pos rfl⟩)) (λb u z=>?_) (λb z=>?_) (λb z=>?_) λp hp=>?_
  ·by_cases hb:b=a
   ·exact .inr (.inl ⟨_,_,if_pos hb⟩)
   ·rcases only b with z|⟨o,xs,z⟩|⟨p,hp,e1,z⟩
    ·exact .inl ((if_neg hb).trans z)
    ·exact .inr (.inl ⟨o,xs,(if_neg hb).trans z⟩)
    ·exact .inr (.inr ⟨p,hp,e1,(if_neg hb).trans z⟩)
  ·by_cases hb:b=a
   ·have z':=(if_pos hb).symm.trans z;cases z';subst hb;exact ⟨ha,by rw [yR];exact hl,vs,_,rv,ha⟩
   ·have z':=(if_neg hb).symm.trans z;obtain ⟨p,hp,rfl,rfl⟩:=zU z';exact tok hp
  ·by_cases hb:b=a
   ·exact .inl hb
   ·exact .inr (mine b λq=>z ((if_neg hb).trans q))
  ·by_cases hb:b=a
   ·rw [hb];exact hk
   ·obtain ⟨p,hp,rfl⟩:=mine b λq=>z ((if_neg hb).trans q);exact T.out p hp
  ·exact (if_neg (naT p hp)).trans (Qt T hp)
theorem Vx {l:PySem.W.OpenLaw}{q:Program}{loose:List Str}{XP:(Str->Option Value)->Heap->Prop}{YP:World->Heap->Prop}{d:DefRec}{K:Params->Fg}{CX:World->CXT}{sp:World->Sp}(hn:l.most=some n)(hn2:n<=sizeLine)(hdf:d.params.defaults=[])(hr:Room k callerA)(hY:∀(w:World)(h:Heap),YP w h->(K w.params).In h)(F:∀(w:World)(mg:Str->Option Value)(fa:Addr)(h:Heap),YP w h->(K w.params).In h->h.Ns mainGlobals mg->mg d.name=some (.ref fa) -> ∃ fd:FuncData,(∀(s:Shared)(u:Value),BindsTo s fd ⟨[u],[]⟩ [(x,u)])/\qZ (K w.params) h /\ ∀ base:Heap,(K w.params).In base->base.Ns mainGlobals mg->FnOk l.prog w (K w.params) mg base (CX w) k fa fd [x] (sp w))(hsp:∀(w:World)(H:Hp)(a:Addr)(ns:List Int),ns.length<=n->Only H->SqL (K w.params) H a (ns.map V.int)->sp w [.ref a] H (λv _=>v = .bl true) λ_ _ _=>False)(hCX:∀(w:World)(H:Hp)(s:Shared)(e:Value)(s':Shared),CX w [] H s (λ_ _ _=>False) e s'->False):PySem.W.WalkO q loose XP YP l.row.toRowW d [] (λf vs=>PySem.call f vs):=by refine Att.attach_call hn hdf λw s₀ s₁ mg mb fa o pm cd doc a vs ns G Y ho hd hcd hmg hobj hints hlen hg=>?_;have KX:=hY w _ Y;obtain ⟨fd,hb,hT,hF⟩:=F w mg fa _ Y KX G.T.g hmg;exact Zm KX hT G.T.g G.T.b G.T.builtins G.T.nolimit G.T.bmain hg hobj hints (yt hlen hn2) hr hF hb (λH hO hS=>hsp w H a ns hlen hO hS) λH e s'=>hCX w H s₁ e s'
def XO (s:Stmt)(j:Nat):Stmt:=match s with
 | .ClassDef _ _ _ body _ _ _ _ _ _ _=>body.getD j (.Pass ⟨0,0,0,0⟩)
 |_=> .Pass ⟨0,0,0,0⟩
def qi (s:Stmt):Arguments:=match s with
 | .FunctionDef _ a _ _ _ _ _ _ _ _=>a
 |_=>{ posonlyargs:=[],args:=[],vararg:=none,kwonlyargs:=[],kw_defaults:=[],kwarg:=none,defaults:=[] }
def b7 (s:Stmt):List Stmt:=match s with
 | .FunctionDef _ _ b _ _ _ _ _ _ _=>b
 |_=>[]
def z8 (s:Stmt):Scope:=match s with
 | .FunctionDef _ _ _ _ _ _ sc _ _ _=>sc
 |_=>{ kind:= .function,names:=[],isGenerator:=false,isCoroutine:=false }
abbrev j5:CXT:=λ_ _ _ _ _ _=>False
abbrev E0:XK:=λ_ _ _=>False
theorem pass0 {X:Cx}:zY j5 X E0:=λ_ _ _ _ _ _ _ h=>h.elim
structure Fun (K:Fg)(x qual:Str)(st:Stmt)(f:Addr)(fd:FuncData):Prop where
 ex:∃(oc:Value)(od:Option Addr)(kV doc pm:Value)(an:Option Addr)(cdv ct:Value)(osl:Array (Option Value)),
  fd=PySem.W.fnOf x qual (qi st) (b7 st) (z8 st) .none kV doc pm an cdv ct/\K.lookup f=some ⟨oc,od,.func fd,osl⟩/\PySem.W.codeIn K cdv qual=true
 kp:PySem.W.keepIn K (.ref f)=true
section
variable {P:Program}{w:World}{K:Fg}{mg:Str->Option Value}{base:Heap}
theorem Fun.ok {N:List Str}(F:Fun K x qual st f fd)(S:u5 N ps (z8 st))(len:∀ vs H Q E,sp vs H Q E->vs.length=ps.length)(hbody:∀(cdv:Value)(A:Around)(outer:List Env)(s:Shared)(H:Hp)(vs:List V)(Q:VK)(E:XK),Room k (A.deeper (envOfC qual (z8 st) s.heap.objs.size f cdv))->sp vs H Q E -> ∃ t,PSs (p0 j5 P w K mg base N qual (z8 st) f cdv A outer s H E).nox (b7 st) t/\t { nx:=λ_ H'=>Q .non H',rt:=Q } (b8 N vs) H):FnOk P w K mg base j5 (k+1) f fd ps sp:=by obtain ⟨oc,od,kV,doc,pm,an,cdv,ct,osl,rfl,lk,hcd⟩:=F.ex;refine wd lk hcd S len λA outer s H vs Q E hr hsp=>?_;obtain ⟨t,h,q⟩:=hbody cdv A outer s H vs Q E hr hsp;exact ⟨t,h.nox,q⟩
theorem Fun.binds (F:Fun K x qual st f fd)(h:∀(kV doc pm:Value)(an:Option Addr)(cdv ct:Value)(us:List Value),us.length=ps.length->bindArgs (PySem.W.fnOf x qual (qi st) (b7 st) (z8 st) .none kV doc pm an cdv ct) ⟨us,[]⟩=pure (ps.zip us)):Binds K fd ps []:=by obtain ⟨oc,od,kV,doc,pm,an,cdv,ct,osl,rfl,lk,hcd⟩:=F.ex;exact .all (h kV doc pm an cdv ct)
theorem qj {oc:Value}{od an:Option Addr}{osl:Array (Option Value)}{kV doc pm cdv ct:Value}(l:K.lookup f=some ⟨oc,od,.func (PySem.W.fnOf x qual (qi st) (b7 st) (z8 st) .none kV doc pm an cdv ct),osl⟩)(c:PySem.W.codeIn K cdv qual=true)(k:PySem.W.keepIn K (.ref f)=true):Fun K x qual st f (PySem.W.fnOf x qual (qi st) (b7 st) (z8 st) .none kV doc pm an cdv ct):=⟨⟨oc,od,kV,doc,pm,an,cdv,ct,osl,rfl,l,c⟩,k⟩
end
theorem Ve (h:n<=1000):n<sizeLine:=Nat.lt_of_le_of_lt h (by decide)
section
variable {X:Cx}
theorem pv (i:Nat){pos:Pos}(hN:X.N[i]?=some x:=by rfl)(hv:Vis X.env.scope x:=by first|exact Or.inl rfl|exact Or.inr (Or.inl rfl)|exact Or.inr (Or.inr rfl))(hd:(x==("__debug__":Str))=false:=by decide)(hcd:(x==("__classdict__":Str))=false:=by decide):PE X (.Name x pos) (d6 i):=Ja hN hv hd hcd
theorem QY:CallR X (.builtin "len") (λxs H Q=>∃ a kvs,xs=[V.ref a]/\H a=some (.dK kvs)/\Q (.int kvs.length) H):=by intro pins s U H xs us Q I r h;obtain ⟨a,kvs,rfl,ha,q⟩:=h;obtain ⟨u,rfl,ru⟩:=qN r;cases ru;exact d_len I (.inl ha) λt s' I'=>⟨.int kvs.length,H,I',⟨t,rfl⟩,q⟩
end
theorem o8 (h:B):if false=true then A else B:=by rw [if_neg yY];exact h
theorem o9 (h:A):if true=true then A else B:=by rw [if_pos rfl];exact h
theorem ite2 {c:Prop}[Decidable c](h1:c->A)(h2:¬ c->B):if c then A else B:=by
 by_cases h:c
 ·rw [if_pos h];exact h1 h
 ·rw [if_neg h];exact h2 h
def Same (H H':Hp):Prop:=∀ b o,H b=some o->H' b=some o
theorem Same.refl (H:Hp):Same H H:=λ_ _ h=>h
theorem Same.trans {H1 H2:Hp}(a:Same H H1)(b:Same H1 H2):Same H H2:=λc o h=>b c o (a c o h)
theorem Same.free (e:Same H H'){l:Addr}(h:H' l=Option.none):H l=Option.none:=by
 cases q:H l with
 |none=>rfl
 |some o=>rw [e l o q] at h;cases h
theorem Same.seq {xs:List V}(e:Same H H')(h:SqL K H a xs):SqL K H' a xs:=by
 rcases h with (h|⟨o,h⟩)|h
 ·exact .inl (.inl (e _ _ h))
 ·exact .inl (.inr ⟨o,e _ _ h⟩)
 ·exact .inr h
end L2
set_option maxHeartbeats 4000000
set_option synthInstance.maxHeartbeats 4000000
set_option synthInstance.maxSize 4096
namespace L2
open PySem PySem.Spec PyProof.Rows
variable{elt iter tg:Expr}{ifs:List Expr}{scope:Scope}{pos:Pos}{env:Env}{X:Cx}{o:Option V}{U:St}{g:TG}{tt:TT}{te:TE}{wi:TI}{K:Fg}
section
variable {prog:Program}{w:World}{A:Around}{R:Result->Shared->Prop}{s:Shared}
theorem Xg {target:Expr}{it acc:Value}(I:Nat->Shared->Prop)
  (turn:∀ n s,I n s->wpAny (model prog w) A (pyNext it) (λr s₁=>match r with
   |none=>R (.ok .next) s₁
   |some v=>wpAny (model prog w) A (letOwnedTupleGo target it v) (λ_ s₀=>wpAny (model prog w) A (assign target env v) (λ_ s₂ =>
     wpAny (model prog w) A (forIn ifs true λc r=>if r=true then do let ok <- isTrue c env (eval c env);pure (ForInStep.yield ok) else pure (ForInStep.yield r)) (λok s₃ =>
      if ok=true then wpAny (model prog w) A (eval elt env) (λx s₄ =>
       wpAny (model prog w) A (call (.builtin "list.append") [acc,x]) (λ_ s₅=>∃ m,m<n/\I m s₅) (λ_ _=>False) s₄) (λ_ _=>False) s₃
      else ∃ m,m<n/\I m s₃) (λ_ _=>False) s₂) (λ_ _=>False) s₀) (λ_ _=>False) s₁) (λ_ _=>False) s)
  (n:Nat) (h:I n s) :
  codeAny (model prog w) A (.compLoop (.ListComp elt [⟨target,iter,ifs,0⟩] scope pos) 0 it acc env) R s:=by
 refine codeAny_loop rfl I (λn s hI=>?_) n h;show wpAny _ A ((compTurn (.ListComp elt [⟨target,iter,ifs,0⟩] scope pos) 0 it acc env).onRaise (λx=>do noteFrame x env;theTreesLotGoes x)) _ _ s;refine wpAny_noted (wpAny_noRaise ?_);rw [compTurn_list];refine yW (wpAny_standAt (yW (z0 (turn n s hI) λr s₁ h₁=>?_)));cases r with
 |none=>exact yM h₁
 |some v =>
  refine yW (z0 h₁ λ_ s₀ h₀=>?_);refine yW (z0 h₀ λ_ s₂ h₂=>yW (z0 h₂ λok s₃ h₃=>?_));cases ok with
  |false=>exact yM ⟨rfl,h₃⟩
  |true=>exact yW (yW (z0 h₃ λx s₄ h₄=>yW (z0 h₄ λ_ s₅ h₅=>yM (yM ⟨rfl,h₅⟩))))
end
theorem we {α β:Type}{f:α->β->Sem (ForInStep β)}(g:α->β->β):∀(l:List α)(b:β),(∀ a∈l,∀ b,f a b=pure (.yield (g a b)))->forIn l b f=(pure (l.foldl (λb a=>g a b) b):Sem β)
 |[],_,_=>rfl
 |x::l,b,h=>by
  rw [List.forIn_cons,h x yy,pure_bind];exact we g l (g x b) λy hy=>h y (yL _ hy)
def qc (env:Env)(y:Str×NameKind)(cs:List (Str×Addr)):List (Str×Addr):=if y.2 == .free then (y.1,(env.cells.lookup y.1).getD 0)::cs else cs
theorem vL (env:Env):∀(l:List (Str×NameKind))(cs:List (Str×Addr)),(∀ y∈l,y.2 = .free->∃ c,env.cells.lookup y.1=some c)->(∀ x c,cs.lookup x=some c->env.cells.lookup x=some c) -> (∀ x c,(l.foldl (λb a=>qc env a b) cs).lookup x=some c->env.cells.lookup x=some c)
 |[],_,_,h=>h
 |(n,k)::l,cs,hl,h=>by
  refine vL env l _ (λy hy=>hl y (yL _ hy)) λx c e=>?_;unfold qc at e
  dsimp only at e
  cases hk:(k==NameKind.free) with
  |false=>rw [hk,if_neg yY] at e;exact h x c e
  |true =>
   rw [hk,if_pos rfl] at e;obtain ⟨c0,e0⟩:=hl (n,k) yy (by simpa using hk);cases hx:x==n with
   |true =>
    rw [yu,hx] at e;have hx':x=n:=by simpa using hx
    subst hx';have e':(List.lookup x env.cells).getD 0=c:=Option.some.inj e;have e0':List.lookup x env.cells=some c0:=e0;rw [e0'] at e';rw [e0',<- e'];rfl
   |false=>rw [yu,hx] at e;exact h x c e
theorem vM (env:Env)(x:Str):∀(l:List (Str×NameKind))(cs:List (Str×Addr)),(∃ c,cs.lookup x=some c)->∃ c,(l.foldl (λb a=>qc env a b) cs).lookup x=some c
 |[],_,h=>h
 |(n,k)::l,cs,h=>by
  refine vM env x l _ ?_;unfold qc
  dsimp only
  split
  ·rw [yu];cases hx:x==n with
   |true=>exact ⟨_,rfl⟩
   |false=>exact h
  ·exact h
theorem vK (env:Env):∀(l:List (Str×NameKind))(cs:List (Str×Addr)),∀ y∈l,y.2 = .free->∃ c,(l.foldl (λb a=>qc env a b) cs).lookup y.1=some c
 |[],_,_,h,_=>nomatch h
 |z::l,cs,y,h,hf=>by
  rcases yK.mp h with e|h
  ·subst e;refine vM env y.1 l _ ?_;unfold qc
   dsimp only
   rw [hf,if_pos (by rfl),yu,beq_self_eq_true];exact ⟨_,rfl⟩
  ·exact vK env l _ y h hf
theorem vN (h:∀ y∈scope.names,y.2 = .free->∃ c,env.cells.lookup y.1=some c):∃ cl,closureFor scope env=pure cl/\(∀ x c,cl.lookup x=some c->env.cells.lookup x=some c)/\∀ y∈scope.names,y.2 = .free->∃ c,cl.lookup y.1=some c:=by
 refine ⟨scope.names.foldl (λb a=>qc env a b) [],?_,vL env _ _ h (λx c e=>by cases e),vK env _ _⟩;simp only [closureFor];rw [we (qc env) scope.names [] (λy hy b=>?_)]
 ·rfl
 ·obtain ⟨n,k⟩:=y;unfold qc;cases hk:(k==NameKind.free) with
  |false=>simp only [hk,Bool.false_eq_true,if_false]<;>rfl
  |true=>obtain ⟨c,e⟩:=h (n,k) hy (by simpa using hk);have e':List.lookup n env.cells=some c:=e;simp only [hk,if_true,cellOf,e'];rfl
theorem Qb (env:Env)(n:Str)(k:NameKind)(r:List (Str×NameKind))(x:Str):((List.map (λ(n,k)=>if (k==NameKind.free&&env.scope.kind == .function&&env.kindOf n==some .cell) then (n,NameKind.cell) else (n,k)) ((n,k)::r)).lookup x) = (if x==n then some (if (k==NameKind.free&&env.scope.kind == .function&&env.kindOf n==some .cell) then NameKind.cell else k) else (List.map (λ(n,k)=>if (k==NameKind.free&&env.scope.kind == .function&&env.kindOf n==some .cell) then (n,NameKind.cell) else (n,k)) r).lookup x):=by
 rw [List.map_cons];show List.lookup x ((if (k==NameKind.free&&env.scope.kind == .function&&env.kindOf n==some .cell)=true then (n,NameKind.cell) else (n,k))::_)=_;by_cases hc:(k==NameKind.free&&env.scope.kind == .function&&env.kindOf n==some .cell)=true
 ·rw [if_pos hc,if_pos hc,yu];cases x==n<;>rfl
 ·rw [if_neg hc,if_neg hc,yu];cases x==n<;>rfl
theorem Qd {env:Env}{x:Str}{k:NameKind}:∀{names:List (Str×NameKind)}, (names.map λ(n,k)=>if (k==NameKind.free&&env.scope.kind == .function&&env.kindOf n==some .cell) then (n,NameKind.cell) else (n,k)).lookup x=some k -> ∃ k',names.lookup x=some k'/\(k'=k∨(k' = .free/\k = .cell))
 |[],h=>by simp at h
 |(n,q)::r,h=>by
  rw [Qb] at h;rw [yu];cases hx:x==n with
  |true =>
   rw [hx,if_pos rfl] at h;have h':=Option.some.inj h;refine ⟨q,rfl,?_⟩;by_cases hc:(q==NameKind.free&&env.scope.kind == .function&&env.kindOf n==some .cell)=true
   ·rw [if_pos hc] at h';have hq:(q==NameKind.free)=true:=by
     cases z:(q==NameKind.free) with
     |true=>rfl
     |false=>rw [z] at hc;simp at hc
    exact .inr ⟨by simpa using hq,h'.symm⟩
   ·rw [if_neg hc] at h';exact .inl h'
  |false=>rw [hx,if_neg yY] at h;exact Qd h
theorem Qc {env:Env}{x:Str}:∀{names:List (Str×NameKind)},names.lookup x=some .free -> (names.map λ(n,k)=>if (k==NameKind.free&&env.scope.kind == .function&&env.kindOf n==some .cell) then (n,NameKind.cell) else (n,k)).lookup x=some .cell∨(names.map λ(n,k)=>if (k==NameKind.free&&env.scope.kind == .function&&env.kindOf n==some .cell) then (n,NameKind.cell) else (n,k)).lookup x=some .free
 |[],h=>by simp at h
 |(n,q)::r,h=>by
  rw [Qb];rw [yu] at h;cases hx:x==n with
  |true =>
   rw [hx] at h;have h':q = .free:=Option.some.inj h;rw [if_pos rfl];by_cases hc:(q==NameKind.free&&env.scope.kind == .function&&env.kindOf n==some .cell)=true
   ·rw [if_pos hc];exact .inl rfl
   ·rw [if_neg hc,h'];exact .inr rfl
  |false=>rw [hx] at h;rw [if_neg yY];exact Qc h
def w4 (cap:List (Option Nat))(U:St):St:=cap.map λo=>o.bind λi=>(U[i]?).join
structure qQ (X:Cx)(N':List Str)(cap:List (Option Nat))(sc:Scope):Prop where
 kind:sc.kind = .function
 nocell:∀ y∈sc.names,y.2 ≠ .cell
 names:∀ y∈sc.names,y.2 = .local->sc.names.lookup y.1=some .local
 free:∀ y∈sc.names,y.2 = .free->X.env.kindOf y.1=some .cell∨X.env.kindOf y.1=some .free
 len:cap.length=N'.length
 cap:∀(j i:Nat),cap[j]?=some (some i)->∃ x,N'[j]?=some x/\X.N[i]?=some x/\sc.names.lookup x=some .free
def wq:Option NameKind->Bool
 |some .cell=>true
 |some .free=>true
 |_=>false
theorem Zj {k:Option NameKind}(h:wq k=true):k=some .cell∨k=some .free:=by
 cases k with
 |none=>cases h
 |some k=>cases k<;>first|exact .inl rfl|exact .inr rfl|cases h
def zK (names:List (Str×NameKind))(kd:Str->Option NameKind)(y:Str×NameKind):Bool :=
 match y.2 with
 | .cell=>false
 | .local=>names.lookup y.1==some .local
 | .free=>wq (kd y.1)
 |_=>true
def o3 (N:List Str)(sc:Scope):List Str->List (Option Nat)->Bool
 |[],[]=>true
 |_::r,none::c=>o3 N sc r c
 |x::r,some i::c=>N[i]?==some x&&(sc.names.lookup x==some .free&&o3 N sc r c)
 |_,_=>false
theorem jb {N:List Str}{sc:Scope}:∀{xs:List Str}{c:List (Option Nat)},o3 N sc xs c=true->c.length=xs.length
 |[],[],_=>rfl
 |_::r,none::c,h=>by
  have h':o3 N sc r c=true:=h;simp [jb h']
 |x::r,some i::c,h=>by
  have h':(N[i]?==some x&&(sc.names.lookup x==some .free&&o3 N sc r c))=true:=h;simp only [ym] at h';simp [jb h'.2.2]
 |[],_::_,h=>by cases h
 |_::_,[],h=>by cases h
theorem ja {N:List Str}{sc:Scope}:∀{xs:List Str}{c:List (Option Nat)},o3 N sc xs c=true->∀(j i:Nat),c[j]?=some (some i)->∃ x,xs[j]?=some x/\N[i]?=some x/\sc.names.lookup x=some .free
 |[],[],_,j,i,e=>by simp at e
 |_::r,none::c,h,0,i,e=>by simp at e
 |_::r,none::c,h,j+1,i,e=>by
  have h':o3 N sc r c=true:=h;obtain ⟨x,h1,h2⟩:=ja h' j i (by simpa using e);exact ⟨x,by simpa using h1,h2⟩
 |x::r,some k::c,h,0,i,e=>by
  have h':(N[k]?==some x&&(sc.names.lookup x==some .free&&o3 N sc r c))=true:=h;simp only [ym] at h';have e':k=i:=by simpa using e
  subst e';exact ⟨x,rfl,by simpa using h'.1,by simpa using h'.2.1⟩
 |x::r,some k::c,h,j+1,i,e=>by
  have h':(N[k]?==some x&&(sc.names.lookup x==some .free&&o3 N sc r c))=true:=h;simp only [ym] at h';obtain ⟨x',h1,h2⟩:=ja h'.2.2 j i (by simpa using e);exact ⟨x',by simpa using h1,h2⟩
 |[],_::_,h,_,_,_=>by cases h
 |_::_,[],h,_,_,_=>by cases h
theorem zu {N':List Str}{cap:List (Option Nat)}{sc:Scope}(h1:sc.kind = .function)(h2:(sc.names.all λy=>zK sc.names X.env.kindOf y)=true)(h3:o3 X.N sc N' cap=true):qQ X N' cap sc:=by
 have h2':=yb.mp h2;refine ⟨h1,λy hy e=>?_,λy hy e=>?_,λy hy e=>?_,jb h3,ja h3⟩
 ·have q:=h2' y hy;unfold zK at q;rw [e] at q;cases q
 ·have q:=h2' y hy;unfold zK at q;rw [e] at q;simpa using q
 ·have q:=h2' y hy;unfold zK at q;rw [e] at q;exact Zj q
def b0 (X:Cx)(N':List Str)(sc:Scope)(cl:List (Str×Addr))(C:Addr)(s:Shared)(H:Hp)(fp:List Addr)(pn:List (Addr×Obj)):Cx where
 prog:=X.prog
 w:=X.w
 K:=X.K
 mg:=X.mg
 base:=X.base
 A:=X.A
 N:=N'
 s₀:=s
 H₀:=H
 env:=compEnvC sc cl C X.env
 outer:=X.stack
 stack:=X.stack
 ex:=fp
 fn:=λ_=>false
 calm:=X.calm
 pn:=pn
 xe:=λ_ _=>False
section
variable {X:Cx}{pins:List (Addr×Obj)}{U:St}{H:Hp}{s:Shared}{h1:Heap}{N':List Str}{cap:List (Option Nat)}{sc:Scope}{cl:List (Str×Addr)}{fp:List Addr}{C D:Addr}
theorem Xj (I:Inv X pins U H s)(S:qQ X N' cap sc)(hc1:∀ x c,cl.lookup x=some c->X.env.cells.lookup x=some c)(hc2:∀ y∈sc.names,y.2 = .free->∃ c,cl.lookup y.1=some c)(hf:∀ b∈fp,m5 X pins H b)(ho:∀ b∈fp,b<s.heap.objs.size)(hC:s.heap.objs.size<=C):(b0 X N' sc cl C s H fp (X.pn++pins)).Ok where
 mod:=I.ok.mod
 kind:=S.kind
 glob:=I.ok.glob
 blt:=I.ok.blt
 above:=hC
 inj:=λx y c e1 e2=>I.ok.inj x y c (hc1 x c e1) (hc1 y c e2)
 has:=λx hx=>by
  have key:∀ k,(relabel sc X.env).names.lookup x=some k->(k = .cell∨k = .free)->∃ c,cl.lookup x=some c:=λk e hk=>by
   obtain ⟨k',e',q⟩:=Qd e;have hm:=PySem.mem_of_lookup e';have hfree:k' = .free:=by
    rcases q with q|q
    ·rcases hk with z|z
     ·exact absurd (q.trans z) (S.nocell _ hm)
     ·exact q.trans z
    ·exact q.1
   exact hc2 (x,k') hm hfree
  rcases hx with e|e
  ·exact key _ e (.inl rfl)
  ·exact key _ e (.inr rfl)
 cab:=λx c hx _=>by cases hx
 hd:=I.ok.hd
 frames:=I.ok.frames
 stk:= .inl rfl
 exf:=λb hb=>⟨yP (yQ (ho b hb) hC),λx c e=>(hf b hb).2.2.2.2.1 x c (hc1 x c e)⟩
 bs:=I.bs
 bsz:=yt I.ok.bsz I.sz
 noex:=λb o e hb=>by
  rcases (hf b hb).2.2.2.1 with z|z
  ·exact I.ok.noex b o e z
  ·exact absurd (yQ (yU e) (yt I.ok.bsz z)) (yj _)
 exfs:=λb hb hz=>by
  rcases yK.mp (I.stkSub b hz) with e|e
  ·exact (hf b hb).2.1 e
  ·exact (hf b hb).2.2.1 e
 funs:=I.stack
 frf:=I.stkFree
 tbs:=λp hp=>I.base.tbls _ _ _ (I.ok.tbs p hp)
theorem XS {m0:Str->Option Value}{o:Obj}(I:Inv X pins U H s)(S:qQ X N' cap sc)(hc1:∀ x c,cl.lookup x=some c->X.env.cells.lookup x=some c)(hc2:∀ y∈sc.names,y.2 = .free->∃ c,cl.lookup y.1=some c)(hf:∀ b∈fp,m5 X pins H b)(ho:∀ b∈fp,b<s.heap.objs.size)(hD:s.heap.objs.size<=D)(hC:D<C)(hDo:h1.get? D=some o)(hoc:∀ v,o.data ≠ .cell v)(hns:h1.Ns C m0)(hk:∀ b o,s.heap.get? b=some o->h1.get? b=some o)(t:Nat):Inv (b0 X N' sc cl C s H fp (X.pn++pins)) [(D,o)] (w4 cap U) H { s with heap:=h1,toks:=t }:=by
 have hCs:s.heap.objs.size<=C:=yt hD (Nat.le_of_lt hC);have lt_s:∀ b o,s.heap.get? b=some o->b≠C:=λb o e=>yP (yQ (yU e) hCs);refine ⟨Xj I S hc1 hc2 hf ho hCs,rfl,I.bare,Un.kept hk,⟨m0,hns,λj x v e1 e2 e3=>?_⟩,λx c e=>?_,I.hok.fresh hCs,λx c e=>I.freeC x c (hc1 x c e),λp hp=>?_,I.hok.kept hk,?_⟩
 ·obtain ⟨i,hi,hσ⟩:∃ i,cap[j]?=some (some i)/\U[i]?=some (some v):=by
   unfold w4 at e2;rw [yO] at e2;cases hc:cap[j]? with
   |none=>rw [hc] at e2;cases e2
   |some o' =>
    rw [hc] at e2;have e2':(o'.bind λi=>(U[i]?).join)=some v:=Option.some.inj e2;cases o' with
    |none=>cases e2'
    |some i =>
     refine ⟨i,rfl,?_⟩;have e3':(U[i]?).join=some v:=e2';cases hs:U[i]? with
     |none=>rw [hs] at e3';cases e3'
     |some q=>rw [hs] at e3';exact congrArg some e3'
  obtain ⟨x',n1,n2,n3⟩:=S.cap j i hi;have e1':N'[j]?=some x:=e1;rw [n1] at e1';obtain rfl:x'=x:=Option.some.inj e1';have hkd:=S.free (x',.free) (PySem.mem_of_lookup n3) rfl;obtain ⟨m,_,hl⟩:=I.loc;obtain ⟨u,r,l⟩:=hl i x' v n2 hσ (by
   rcases hkd with z|z
   ·exact .inr (.inl z)
   ·exact .inr (.inr z))
  refine ⟨u,r,?_⟩;rcases l with ⟨l1,_⟩|⟨_,c,ec,hcell⟩
  ·rcases hkd with z|z
   ·exact absurd (l1.symm.trans z) (by simp)
   ·exact absurd (l1.symm.trans z) (by simp)
  ·obtain ⟨c',ec'⟩:=hc2 (x',.free) (PySem.mem_of_lookup n3) rfl;have q:=hc1 x' c' ec';rw [ec] at q;obtain rfl:c=c':=Option.some.inj q;refine .inr ⟨Qc n3,c,ec',?_⟩;obtain ⟨oc,hoc',hd⟩:=hcell;exact ⟨oc,hk _ _ hoc',hd⟩
 ·obtain ⟨v,oc,hoc',hd⟩:=I.cell x c (hc1 x c e);exact ⟨v,oc,hk _ _ hoc',hd⟩
 ·rcases yE.mp hp with hp|hp
  ·obtain ⟨e,n,ne,nf,d⟩:=I.pin p hp;refine ⟨hk _ _ e,n,lt_s _ _ e,λhz=>?_,d⟩;rcases yK.mp (I.stkSub _ hz) with e'|e'
   ·exact ne e'
   ·exact nf e'
  ·have e:p=(D,o):=by simpa using hp
   subst e;refine ⟨hDo,I.hok.fresh hD,yP hC,λhz=>?_,hoc⟩;rcases yK.mp (I.stkSub _ hz) with e'|e'
   ·exact absurd (yQ I.lt hD) (by rw [show X.env.locals=D from e'.symm];exact yj _)
   ·exact I.nofs hD e'
 ·unfold w4;rw [yR];exact S.len
end
structure Wk (U σ':St):Prop where
 len:U.length=σ'.length
 at':∀(i:Nat) v,U[i]?=some (some v)->σ'[i]?=some (some v)
theorem Wk.refl (U:St):Wk U U:=⟨rfl,λ_ _ h=>h⟩
theorem Wk.set {σ':St}{i:Nat}(w:Wk U σ')(h:U[i]?=some none):Wk U (σ'.set i o):=by
 refine ⟨by rw [yD];exact w.len,λj v e=>?_⟩;have ne:i≠j:=λz=>by rw [<- z,h] at e;cases e
 rw [yI ne];exact w.at' j v e
theorem Wk.one {i:Nat}(h:U[i]?=some none):Wk U (U.set i o):=(Wk.refl U).set h
def PTs (X:Cx)(ifs:List Expr)(t:TT):Prop :=
 ∀(pins:List (Addr×Obj))(s:Shared)(U:St)(H:Hp)(Q:Bool->Hp->Prop),Inv X pins U H s->t U H Q ->
  wpAny (model X.prog X.w) X.A (forIn ifs true λc r=>if r=true then do let ok <- isTrue c X.env (eval c X.env);pure (ForInStep.yield ok) else pure (ForInStep.yield r)) (TP X pins U Q) X.xe s
def tYes:TT:=λ_ H Q=>Q true H
theorem zN :PTs X [] tYes:=λ_ _ _ H _ I h=>wpAny_tests_nil ⟨H,I,h⟩
def vd (J:It)(g:TG)(tt:TT)(te:TE)(Q:VK)(σ0:St)(H1:Hp):Prop:=∃ W:Nat->Nat->List V->Hp->Prop,(∃ m,W 0 m [] H1)/\∀ i m ys H,W i m ys H->ys.length<=sizeLine /\
  ((J.stop i H/\∀ D,H D=none->Q (.ref D) (z6 H D (.lst ys))) ∨
   (J.go i H/\∀ x H',J.yld i H x H'->g x σ0 H' λσ2 H2=>Wk σ0 σ2/\tt σ2 H2 λb H3 =>
      if b=true then te σ2 H3 λv H4=>∃ m',m'<m/\W (i+1) m' (ys++[v]) H4 else ∃ m',m'<m/\W (i+1) m' ys H3))
def zT (wi:TI)(g:TG)(tt:TT)(te:TE)(cap:List (Option Nat)):TE:=λU H Q=>wi U H λJ H1=>vd J g tt te Q (w4 cap U) H1
section
variable {X:Cx}{pins:List (Addr×Obj)}{U:St}{s₂:Shared}{N':List Str}{cap:List (Option Nat)}{sc:Scope}{cl:List (Str×Addr)}{fp:List Addr}
theorem vO {Q:VK}{H2:Hp}{it:Addr}{tn:Nat->Heap->Prop}{J:It}{E:Value->Shared->Prop}{RR:Value->Addr->Result->Shared->Prop}(S:qQ X N' cap sc)(hc:X.calm=true)(hc1:∀ x c,cl.lookup x=some c->X.env.cells.lookup x=some c)(hc2:∀ y∈sc.names,y.2 = .free->∃ c,cl.lookup y.1=some c)(hg:∀ C pn,PG (b0 X N' sc cl C s₂ H2 fp pn) tg g)(ht:∀ C pn,PTs (b0 X N' sc cl C s₂ H2 fp pn) ifs tt)(he:∀ C pn,PE (b0 X N' sc cl C s₂ H2 fp pn) elt te)(I2:Inv X pins U H2 s₂)(T:qF X.prog X.w X.K tg J fp it tn)(st2:tn 0 s₂.heap)(f2:∀ b∈fp,m5 X pins H2 b)(W:Nat->Nat->List V->Hp->Prop)(w0:∃ m,W 0 m [] H2)(turn:∀ i m ys H,W i m ys H->ys.length<=sizeLine /\ ((J.stop i H/\∀ D,H D=none->Q (.ref D) (z6 H D (.lst ys)))∨(J.go i H/\∀ x H',J.yld i H x H'->g x (w4 cap U) H' λσ2 H2=>Wk (w4 cap U) σ2/\tt σ2 H2 λb H3 => if b=true then te σ2 H3 λv H4=>∃ m',m'<m/\W (i+1) m' (ys++[v]) H4 else ∃ m',m'<m/\W (i+1) m' ys H3)))(hRR:∀ D C H' s' m,Inv X pins U H' s'->s'.heap.Ns C m->m5 X pins H' C->Q (.ref D) H'->RR (.ref D) C (.ok .next) s'):wpAny (model X.prog X.w) X.A (newList []) (λacc s₃=>wpAny (model X.prog X.w) X.A (newFunctionEnv sc X.env.globals cl [] X.env.qual none .none (some X.env)) (λcenv s₄ => codeAny (model X.prog X.w) X.A (.compStart (.ListComp elt [⟨tg,iter,ifs,0⟩] sc pos) 0 (.ref it) acc { cenv with scope:=relabel sc X.env }) (RR acc cenv.locals) s₄) E s₃) E s₂:=by
  refine wpAny_newObj_type (wpAny_newFunctionEnv S.nocell (by intro y hy;simp at hy) (λh₁ hns₁ hsb₁=>?_) S.kind)
  dsimp only at hns₁ hsb₁ ⊢
  generalize hG:s₂.heap.push { cls:= .type "list",dict:=none,data:= .seq ([]:List Value).toArray }=G at hns₁ hsb₁ ⊢;have hC:G.objs.size=s₂.heap.objs.size+1:=by rw [<- hG,Heap.size_push]
  have hDC:s₂.heap.objs.size<G.objs.size:=by rw [hC];exact Nat.lt_succ_self _
  have old:∀ b o,s₂.heap.get? b=some o->h₁.get? b=some o:=λb o e =>
    hsb₁.extBut b o (yP (Nat.lt_trans (yU e) hDC)) (yV _ (hG▸yV _ e))
  have hacc:h₁.get? s₂.heap.objs.size=some (LCg.lst []):=hsb₁.extBut _ _ (yP hDC) (yV _ (hG▸yz _ rfl));have fl:∀ b∈fp,b<s₂.heap.objs.size:=λb hb=>by obtain ⟨o,e,_⟩:=T.obj _ _ st2 b hb;exact yU e
  have seqd:∀(us:List Value) v,(LCg.lst us).data ≠ .cell v:=λus v z=>by cases z
  have cellt:∀ x c,cl.lookup x=some c->c<s₂.heap.objs.size:=λx c e=>by obtain ⟨v,oc,ho,_⟩:=I2.cell x c (hc1 x c e);exact yU ho
  have pint:∀ p∈X.pn++pins,p.1<s₂.heap.objs.size:=λp hp=>yU (I2.pin p hp).1;have I0:Inv (b0 X N' sc cl G.objs.size s₂ H2 fp (X.pn++pins)) [(s₂.heap.objs.size,LCg.lst [])] (w4 cap U) H2 { s₂ with heap:=h₁,toks:=s₂.toks+([]:List (Str×Value)).length } :=
    XS I2 S hc1 hc2 f2 fl (yT _) hDC hacc (seqd []) hns₁ old _
  have stat:∀{H':Hp}{us:List Value},(∀ b∈fp,H' b=none)->∀ b∈fp,m5 (b0 X N' sc cl G.objs.size s₂ H2 fp (X.pn++pins)) [(s₂.heap.objs.size,LCg.lst us)] H' b:=λ{H' us} hn b hb=>by
    obtain ⟨f0,f1,f2',f3,f4,f5⟩:=f2 b hb;refine ⟨hn b hb,yP (Nat.lt_trans (fl b hb) hDC),λhz=>?_,.inl hb,λx c e=>f4 x c (hc1 x c e),λp hp=>?_⟩
    · rcases yK.mp (I2.stkSub b hz) with e|e
      · exact f1 e
      · exact f2' e
    · rcases yE.mp hp with hp|hp
      · exact f5 p hp
      · have e:p=(s₂.heap.objs.size,LCg.lst us):=by simpa using hp
        rw [e];exact Ne.symm (yP (fl b hb))
  have loop:∀ s₃:Shared,s₃={ s₂ with heap:=h₁,toks:=s₂.toks+([]:List (Str×Value)).length } ->
      codeAny (model X.prog X.w) X.A (.compLoop (.ListComp elt [⟨tg,iter,ifs,0⟩] sc pos) 0 (.ref it) (.ref s₂.heap.objs.size) (compEnvC sc cl G.objs.size X.env)) (RR (.ref s₂.heap.objs.size) G.objs.size) s₃:=by
    rintro s₃ rfl;obtain ⟨m0,w0⟩:=w0;refine Xg
      (λn s'=>∃ i ys us H',Inv (b0 X N' sc cl G.objs.size s₂ H2 fp (X.pn++pins)) [(s₂.heap.objs.size,LCg.lst us)] (w4 cap U) H' s'/\Vals ys us/\tn i s'.heap/\(∀ b∈fp,H' b=none)/\W i n ys H') ?_ m0
      ⟨0,[],[],H2,I0,.nil,T.keep _ _ _ st2 λb _ o e=>old b o e,λb hb=>(f2 b hb).1,w0⟩
    rintro n s3 ⟨i,ys,us,H3,I3,rv,st3,fr3,w3⟩;obtain ⟨hz,alt⟩:=turn i n ys H3 w3;rcases alt with ⟨stop,fin⟩|⟨go,step⟩
    · refine z0 (T.done (b0 X N' sc cl G.objs.size s₂ H2 fp (X.pn++pins)) rfl rfl rfl hc i _ s3 _ H3 _ I3 (stat fr3) st3 stop) λr s4 ⟨hr,I4⟩=>?_
      subst hr;obtain ⟨gD,nD,_,_,_⟩:=I4.pin (s₂.heap.objs.size,LCg.lst us) (yN _ (yF.mpr rfl));have nD':H3 s₂.heap.objs.size=none:=nD;have gD':s4.heap.get? s₂.heap.objs.size=some (LCg.lst us):=gD;have b4:Un (v9 X.stack) fp H2 H3 s₂.heap s4.heap:=I4.base;have n2:H2 s₂.heap.objs.size=none:=I2.hok.fresh (yT _);have un:Un (v9 X.stack) fp H2 (z6 H3 s₂.heap.objs.size (.lst ys)) s₂.heap s4.heap :=
        ⟨b4.keep,b4.slot,λb o e n hx=>by rw [z5 (yP (yU e))];exact b4.free b o e n hx,b4.there,
          λb xs e=>by rw [z5 (y6 e n2)];exact b4.tups b xs e,λb o u e=>by rw [z5 (y6 e n2)];exact b4.frzs b o u e,
          λb ps q e=>by rw [z5 (y6 e n2)];exact b4.tbls b ps q e⟩
      have hok:HOk X.prog X.w (z6 H3 s₂.heap.objs.size (.lst ys)) s4.heap:=λb u e=>by
        by_cases hb:b=s₂.heap.objs.size
        · subst hb
          rw [j7] at e;cases e;exact ⟨hz,us,us.length,rv,gD'⟩
        · rw [z5 hb] at e
          exact (I4.hok b u e).stay (λc v _ q=>q) (λc q=>by rw [z5 (y6 q nD')];exact q) (λc xs q=>by rw [z5 (y6 q nD')];exact q) λc _ _ q=>by rw [z5 (y6 q nD')];exact q
      have IF:Inv X pins U (z6 H3 s₂.heap.objs.size (.lst ys)) s4:=I2.call' (ch:=fp) I4.os un hok I4.bare λb hb=>by
        obtain ⟨f0,f1,f2',f3,f4,f5⟩:=f2 b hb;exact ⟨f3,f1,f4,f5⟩
      obtain ⟨mF,hnF,_⟩:=I4.loc;refine hRR _ _ _ _ mF IF hnF (I2.fpOk (Nat.le_of_lt hDC) ?_) (fin _ nD');rw [z5 (Ne.symm (yP hDC))];exact I4.free
    · refine z0 (T.item (b0 X N' sc cl G.objs.size s₂ H2 fp (X.pn++pins)) rfl rfl rfl hc i _ s3 _ H3 _ I3 (stat fr3) st3 go) λr s4 ⟨u,hr,h4⟩=>?_
      subst hr;refine z0 h4 λ_ s5 ⟨x,H5,I5,r5,y5,st5,fr5⟩=>?_;have I5':=I5.pinned (stat fr5) (T.obj _ _ st5);refine z0 (hg G.objs.size (X.pn++pins) _ s5 _ H5 x u _ I5' r5 (step x H5 y5)) λ_ s6 ⟨σ6,H6,I6,wk,q6⟩=>?_;refine z0 (ht G.objs.size (X.pn++pins) _ s6 σ6 H6 _ I6 q6) λok s7 ⟨H7,I7,q7⟩=>?_;have back:∀{σ8:St}{H8:Hp}{s8:Shared}{us8:List Value},Inv (b0 X N' sc cl G.objs.size s₂ H2 fp (X.pn++pins)) ([(s₂.heap.objs.size,LCg.lst us8)]++xZ fp s5.heap) σ8 H8 s8 ->
          tn (i+1) s8.heap/\∀ b∈fp,H8 b=none:=λ{σ8 H8 s8 us8} I8=>by
        refine ⟨T.keep _ _ _ st5 λb hb o e=>(I8.pin (b,o) (yN _ (yN _ (zI hb e)))).1,λb hb=>?_⟩;obtain ⟨o,e,d⟩:=T.obj _ _ st5 b hb;exact (I8.pin (b,o) (yN _ (yN _ (zI hb e)))).2.1
      cases ok with
      |false=>obtain ⟨m',hm,w7⟩:=q7;obtain ⟨t7,f7⟩:=back I7;exact ⟨m',hm,i+1,ys,us,H7,I7.unpinned.weak wk.len wk.at',rv,t7,f7,w7⟩
      |true =>
        refine z0 (he G.objs.size (X.pn++pins) _ s7 σ6 H7 _ I7 q7) λuv s8 ⟨v,H8,I8,r8,m',hm,w8⟩=>?_;obtain ⟨t8,f8⟩:=back I8;obtain ⟨gD,nD,lD,fD,_⟩:=I8.pin (s₂.heap.objs.size,LCg.lst us) (yN _ (yB _ (yF.mpr rfl)));have gD':s8.heap.get? s₂.heap.objs.size=some { cls:= .type "list",data:= .seq us.toArray us.length }:=gD;refine append_at (hsz:=by rw [yZ,<- rv.length];exact hz) gD' λh9 hs9 hD9=>?_;have I8a:Inv (b0 X N' sc cl G.objs.size s₂ H2 fp (X.pn++pins)) [] σ6 H8 s8:=I8.pins_of λp hp=>nomatch hp;have I9:Inv (b0 X N' sc cl G.objs.size s₂ H2 fp (X.pn++pins)) [] σ6 H8 { s8 with heap:=h9,toks:=s8.toks } :=
          I8a.turned (it:=s₂.heap.objs.size) (λb o hb e=>hs9.extBut b o hb e) nD lD (.inr (yT _)) (λx c e=>yP (cellt x c e)) λp hp=>by
            rw [yw] at hp;exact yP (pint p hp)
        have I10:Inv (b0 X N' sc cl G.objs.size s₂ H2 fp (X.pn++pins)) [(s₂.heap.objs.size,LCg.lst (us++[uv]))] σ6 H8 { s8 with heap:=h9,toks:=s8.toks }:=I9.pins_of λp hp=>by
          have e:p=(s₂.heap.objs.size,LCg.lst (us++[uv])):=by simpa using hp
          subst e;exact ⟨hD9.trans (congrArg some (LCg.lst_snoc us uv)),nD,lD,fD,seqd _⟩
        refine ⟨m',hm,i+1,ys++[v],us++[uv],H8,I10.weak wk.len wk.at',rv.append (.cons r8 .nil),T.keep _ _ _ t8 λb hb o e=>hs9.extBut b o (yP (fl b hb)) e,f8,w8⟩
  have st1:tn 0 h₁:=T.keep _ _ _ st2 λb _ o e=>old b o e;exact codeAny_compStart_list (loop _ rfl) (T.self _ 0 _ _ _ st1 (loop _ rfl))
theorem jw (S:qQ X N' cap sc)(hc:X.calm=true)(hi:PI X tg iter wi)(hg:∀ cl C s H fp pn,PG (b0 X N' sc cl C s H fp pn) tg g)(ht:∀ cl C s H fp pn,PTs (b0 X N' sc cl C s H fp pn) ifs tt)(he:∀ cl C s H fp pn,PE (b0 X N' sc cl C s H fp pn) elt te)(hs:∀ x,foldedSetIterable iter X.env x=pure x:=by intro _;rfl):PE X (.ListComp elt [⟨tg,iter,ifs,0⟩] sc pos) (zT wi g tt te cap):=by intro pins s U H Q I h;rw [eval_ListComp];obtain ⟨cl,hcl,hc1,hc2⟩:=vN (scope:=sc) (env:=X.env) λy hy e=>I.ok.has y.1 (S.free y hy e);refine wpAny_comprehension_free (use:=none) rfl hs hcl S.kind S.names (z0 (hi pins s U H _ I h) λv s1 h1=>z0 h1 λitv s2 h2=>?_);obtain ⟨it,fp,tn,J,H2,e,I2,T,st2,f2,W,w0,turn⟩:=h2;subst e;refine vO (RR:=λacc C=>compPost (model X.prog X.w) X.A X.xe none (EP X pins U Q) acc C) S hc hc1 hc2 (λC pn=>hg cl C s2 H2 fp pn) (λC pn=>ht cl C s2 H2 fp pn) (λC pn=>he cl C s2 H2 fp pn) I2 T st2 f2 W w0 turn ?_;intro D C H' s' m I' hn F q;obtain ⟨f0,f1,f2',f3,f4,f5⟩:=F;exact ⟨m,hn,λh' hs'=>⟨.ref D,H',I'.turned (t':=s'.toks) (λb o hb e=>hs'.extBut b o hb e) f0 f1 f3 f4 f5,rfl,q⟩⟩
theorem Ju {i:Nat}{x:Str}{spos pos':Pos}(S:qQ X N' cap sc)(hc:X.calm=true)(hN:X.N.Nodup)(hx:X.N[i]?=some x)(hk:X.env.scope.names.lookup x=some .local)(hi:PI X tg iter wi)
  (hg:∀ cl C s H fp pn,PG (b0 X N' sc cl C s H fp pn) tg g) (ht:∀ cl C s H fp pn,PTs (b0 X N' sc cl C s H fp pn) ifs tt) (he:∀ cl C s H fp pn,PE (b0 X N' sc cl C s H fp pn) elt te)
  (hsw:swapsWith (.ListComp elt [⟨tg,iter,ifs,0⟩] sc pos) (some (.Name x pos')) spos.line X.env=pure true:=by rfl)
  (hs:∀ x,foldedSetIterable iter X.env x=pure x:=by intro _;rfl):PS X (.Assign [.Name x pos'] (.ListComp elt [⟨tg,iter,ifs,0⟩] sc pos) spos) (qq (zT wi g tt te cap) (c6 i)):=by
 intro pins s U H D I h;rw [exec_Assign_Name_used _ _ _ _ hsw];refine yW (wpAny_standAt (yW ?_));show wpAny _ X.A (do let _ <- comprehension (.ListComp elt [⟨tg,iter,ifs,0⟩] sc pos) sc X.env _ (newList []) false (eval iter X.env) (some (assign (.Name x pos') X.env))) _ _ s;obtain ⟨cl,hcl,hc1,hc2⟩:=vN (scope:=sc) (env:=X.env) λy hy e=>I.ok.has y.1 (S.free y hy e);refine yW (z0 (wpAny_comprehension_free (use:=some (assign (.Name x pos') X.env)) (Q:=λ_ s'=>SP X pins D .next s') rfl hs hcl S.kind S.names
  (z0 (hi pins s U H _ I h) λv s1 h1=>z0 h1 λitv s2 h2=>?_)) λ_ s' hq=>yM (yM hq))
 obtain ⟨it,fp,tn,J,H2,e,I2,T,st2,f2,W,w0,turn⟩:=h2;subst e;refine vO (Q:=λv H1=>c6 i v U H1 D.nx) (RR:=λacc C=>compPost (model X.prog X.w) X.A X.xe (some (assign (.Name x pos') X.env)) (λ_ s'=>SP X pins D .next s') acc C) S hc hc1 hc2 (λC pn=>hg cl C s2 H2 fp pn) (λC pn=>ht cl C s2 H2 fp pn) (λC pn=>he cl C s2 H2 fp pn) I2 T st2 f2 W w0 turn ?_;intro E C H' s' m I' hn F q;obtain ⟨f0,f1,f2',f3,f4,f5⟩:=F;show wpAny _ X.A (assign (.Name x pos') X.env (.ref E)) _ _ _;refine wpAny_assign_Name (Qm I' hN hx (.inl hk) (v:= .ref E) rfl (λs'' I'' ch=>?_) (.inr hk));obtain ⟨a,sb,ha⟩:=ch;have nC:C≠a:=by
  rcases ha with z|z
  ·rw [z];exact f1
  ·exact Ne.symm (f4 x a z)
 exact ⟨m,hn.sameBut sb nC,λh' hs'=>⟨_,H',I''.turned (t':=s''.toks) (λb o hb e=>hs'.extBut b o hb e) f0 f1 f3 f4 f5,q⟩⟩
end
section
variable {g:TG}{tt:TT}{te:TE}{Q:VK}{H:Hp}{σ0:St}
theorem Xh {a:Addr}{xs:List V}(Pv:Nat->List V->Hp->Prop)(h0:Pv 0 [] H)(hz:∀ i ys H,i<=xs.length->Pv i ys H->ys.length<=sizeLine)(hl:∀ i ys H,i<=xs.length->Pv i ys H->SqL K H a xs)(hs:∀ i x ys H (R:List V->Hp->Prop),xs[i]?=some x->Pv i ys H->(∀ ys' H',Pv (i+1) ys' H'->R ys' H')->g x σ0 H λσ2 H2=>Wk σ0 σ2/\tt σ2 H2 λb H3=>if b=true then te σ2 H3 λv H4=>R (ys++[v]) H4 else R ys H3)(hd:∀ ys H,Pv xs.length ys H->∀ D,H D=none->Q (.ref D) (z6 H D (.lst ys))):vd (Itl K a) g tt te Q σ0 H:=by
 refine ⟨λi m ys H=>m=xs.length-i/\i<=xs.length/\Pv i ys H,⟨xs.length,by simp,uT _,h0⟩,?_⟩;rintro i m ys H ⟨rfl,hi,p⟩;have q:=hl i ys H hi p;refine ⟨hz i ys H hi p,?_⟩;by_cases hlt:i<xs.length
 ·refine .inr ⟨⟨xs,xs[i],q,by simp [hlt]⟩,λx H' y=>?_⟩;obtain ⟨e,y⟩:=y;subst e;exact hs i x ys _ (λys' H'=>∃ m',m'<xs.length-i/\m'=xs.length-(i+1)/\i+1<=xs.length/\Pv (i+1) ys' H') (y xs q) p λys' H' p'=>⟨xs.length-(i+1),by omega,rfl,hlt,p'⟩
 ·have e:i=xs.length:=by omega
  subst e;exact .inl ⟨⟨xs,q,yT _⟩,hd ys H p⟩
end
def tyB (T c:String):Option Bool:=if (Value.type T==Value.type c)=true then some true else if PySem.W.kitMeta c=true then (fastBuiltinMro T).map (·.contains (Value.type c)) else none
theorem Zk {T c:String}{b:Bool}(h:tyB T c=some b):PySem.W.kitOne K (.type T) (.type c)=some b:=h
theorem Vs:tyB "int" "int"=some true:=by decide +kernel
theorem Vr:tyB "int" "bool"=some false:=by decide +kernel
theorem xc:bootBuiltins "isinstance"=some (.builtin "isinstance"):=by decide +kernel
theorem vC:bootBuiltins "list"=some (.type "list"):=by decide +kernel
theorem QR:bootBuiltins "int"=some (.type "int"):=by decide +kernel
theorem QP:bootBuiltins "bool"=some (.type "bool"):=by decide +kernel
theorem QO:bootBuiltins "all"=some (.builtin "all"):=by decide +kernel
theorem vD:bootBuiltins "sum"=some (.builtin "sum"):=by decide +kernel
theorem QQ:bootBuiltins "enumerate"=some (.type "enumerate"):=by decide +kernel
section
variable {X:Cx}
theorem QW:CallR X (.builtin "isinstance") (λxs H Q=>∃ x n T b,xs=[x,.ty n]/\d4 X.K H x (.type T)/\tyB T n=some b/\Q (.bl b) H):=by intro pins s U H xs us Q I r h;obtain ⟨x,n,T,b,rfl,ty,e,q⟩:=h;obtain ⟨u,w',rfl,rx,rw'⟩:=jZ r;obtain rfl:w'=Value.type n:=rw';exact XY I rx ty (Zk e) λtk=>⟨.bl b,H,I.tok _,rfl,q⟩
theorem Qu:∀{bs:List Bool}{us:List Value}{i:Nat}{u:Value},Vals (bs.map V.bl) us->us[i]?=some u->u = .bool (bs.getD i false)
 |[],_,_,_,.nil,e=>by simp at e
 |b::_,_,0,_,.cons r _,e=>by
  have e':=Option.some.inj e;subst e';exact r
 |_::bs,_,i+1,u,.cons _ t,e=>by
  have q:=Qu (i:=i) (u:=u) t (by simpa using e);simpa using q
theorem QG:∀(bs:List Bool),(List.range bs.length).all (λi=>bs.getD i false)=bs.all id:=by
 intro bs;rw [Bool.eq_iff_iff,yb,yb];constructor
 ·intro h b hb;obtain ⟨i,hi,e⟩:=List.getElem_of_mem hb;have q:=h i (uX.mpr hi);rw [List.getD_eq_getElem?_getD,yr hi] at q;rw [<- e];exact q
 ·intro h i hi;have hi':=uX.mp hi;rw [List.getD_eq_getElem?_getD,yr hi'];exact h _ (List.getElem_mem hi')
theorem QT (hc:X.calm=true):CallR X (.builtin "all") (λxs H Q=>∃ (a:Addr) (bs:List Bool),xs=[.ref a]/\SqL X.K H a (bs.map V.bl)/\Q (.bl (bs.all id)) H):=by
 intro pins s U H xs us Q I r h;obtain ⟨a,bs,rfl,hq,q⟩:=h;obtain ⟨u,rfl,ru⟩:=qN r;obtain rfl:u=Value.ref a:=ru;obtain ⟨its,rv,p,hz⟩:=I.list hq;have hlt:a<s.heap.objs.size:=by obtain ⟨_,_,e,_⟩:=p;exact yU e
 have hl:s.heap.IsList a its.toArray:=p.isList;refine call_all_walk (wpAny_pyIter_list hl ?_);refine ⟨s.heap.objs.size,_,_,_,_,_,λi=>bs.getD i false,rfl,Walks.list (A:=X.A.in1) (I.ok.hd hc) s.heap.objs.size a (yP hlt) its.toArray,⟨⟨_,yz _ rfl,rfl,rfl⟩,hl.push _⟩,?_,λh' tk k=>?_⟩
 ·intro i v s' Q' E' hP hQ;have e:=Qu rv (by simpa using hP);subst e;exact wpAny_truthy_bool hQ
 ·have hn:its.toArray.size=bs.length:=by have e:=rv.length;rw [yR] at e;rw [yZ];exact e.symm
  rw [hn,QG];refine ⟨.bl (bs.all id),H,I.kept (t':=tk) (λb o e=>k b o (λhm=>?_) (yV _ e)),rfl,q⟩;have e':b=s.heap.objs.size:=by simpa using hm
  exact absurd (yU e) (by rw [e'];exact yj _)
theorem Qw:∀{ns:List Int}{us:List Value},Vals (ns.map V.int) us->IntsAre us ns
 |[],_,.nil=> .nil
 |n::_,_,.cons ⟨t,e⟩ r=>by
  subst e;exact .cons n t (Qw r)
theorem vH (hc:X.calm=true):CallR X (.builtin "sum") (λxs H Q=>∃ (a:Addr) (ns:List Int),xs=[.ref a]/\SqL X.K H a (ns.map V.int)/\Q (.int ns.sum) H):=by
 intro pins s U H xs us Q I r h;obtain ⟨a,ns,rfl,hq,q⟩:=h;obtain ⟨u,rfl,ru⟩:=qN r;obtain rfl:u=Value.ref a:=ru;obtain ⟨its,rv,p,hz⟩:=I.list hq;have hi:=Qw rv;have hl:s.heap.IsList a its.toArray:=p.isList;obtain ⟨xs,ex⟩:=hi.allInts.items;have e2:(numsOf its.toArray.toList).sum=ns.sum:=by rw [show its.toArray.toList=its from rfl,hi.numsOf]
 rw [ex] at hl e2;rw [nums_intItems] at e2;refine sum_intListG (I.ok.hd hc) hl λh' tk t' k=>⟨.int ns.sum,H,I.kept (t':=tk) k,?_,q⟩;rw [preSum_eq,List.take_of_length_le (by simp),e2];exact ⟨_,rfl⟩
def zm (_i j:Int):Prop:=0<j/\j.natAbs.log2<9000
theorem wH:OpR X (binaryOp .FloorDiv) (rI zm λi j=> .int (i / j)):=opI λi j _ _ _ _ _ hc q=>by
 have e:i.fdiv j=i / j:=Int.fdiv_eq_ediv_of_nonneg i (Int.le_of_lt hc.1);exact floordiv_int (Ne.symm (Int.ne_of_lt hc.1)) (by rw [e];exact q) (.inl (PyProof.noPylong_of_log2 hc.2))
def CMulB (i j:Int):Prop:=Builtin.Int.intBits i<=2 ^ 20/\Builtin.Int.intBits j<=2 ^ 20
theorem ZS:OpR X (binaryOp .Mult) (rI CMulB λi j=> .int (i*j)):=opI λ_ _ _ _ _ _ _ hc q=>mul_int q (IntMulOk.of_bits hc.1 hc.2)
def Its (lo c:Int)(n:Nat):It:=⟨λi _=>i<n,λi H x H'=>H'=H/\x = .int (lo+i*c),λi _=>n<=i⟩
theorem Vn {P:Program}{w:World}(it:Addr)(lo c:Int)(n:Nat):qF P w K tg (Its lo c n) [it] it (λi h=>IsRangeIter h it (lo+(i:Nat)*c) ((n:Int)-(i:Nat)) c) where
 mem:=by simp
 obj:=λi h st b hb=>by
  have e:b=it:=by simpa using hb
  subst e;exact ⟨_,st,λv z=>by
   have z':Data.fields _=Data.cell v:=z;cases z'⟩
 keep:=λi h h' st k=>k it (by simp) _ st
 item:=by intro X hP hw hK hc i pins s U H E I hf st hg;subst hP hw hK;obtain ⟨f0,f1,f2,f3,f4,f5⟩:=hf it (by simp);have W:=Walks.range (prog:=X.prog) (w:=X.w) (I.ok.hd hc) it lo c n;refine W.item i s _ _ hg st λv h' tk hv st' kk=>?_;obtain ⟨t,rfl⟩:=hv;have I1:Inv X pins U H { s with heap:=h',toks:=tk }:=I.turned (λb o hb e=>kk b o (by simpa using hb) e) f0 f1 f3 f4 f5;exact ⟨_,rfl,zF (s:={ s with heap:=h',toks:=tk }) (n:="range_iterator") st' rfl rfl (by decide) ⟨.int (lo+i*c),H,I1,⟨t,rfl⟩,⟨rfl,rfl⟩,st',λb hb=>(hf b hb).1⟩⟩
 done:=by intro X hP hw hK hc i pins s U H E I hf st hg;subst hP hw hK;obtain ⟨f0,f1,f2,f3,f4,f5⟩:=hf it (by simp);exact wpAny_pyNext_range_end (I.ok.hd hc) st (by have:n<=i:=hg;omega) λh' eb=>⟨rfl,I.turned (t':=s.toks) (λb o hb e=>eb b o hb e) f0 f1 f3 f4 f5⟩
 self:=λ_ _ _ _ _ st h=>wpAny_pyIter_rangeiter st h
def qp (i j c:Int):Nat:=(Builtin.Range.rangeSize i j c).toNat
def iRng3 (ta:TA):TI:=λU H R=>ta U H λvs H1=>∃ i j c:Int,vs=[.int i,.int j,.int c]/\(0<c/\c<1073741824)/\0<=Builtin.Range.rangeSize i j c/\Builtin.Range.small i j c=true/\R (Its i c (qp i j c)) H1
variable {tg:Expr}
theorem Jl {a b c:Expr}{ta:TA}{p:Pos}(hg:Gl X "range")(hm:X.mg "range"=none)(ha:PA X [a,b,c] ta)(hs:starEach [a,b,c] X.env=[(false,eval a X.env),(false,eval b X.env),(false,eval c X.env)]:=by rfl)(hs2:starEach [b,c] X.env=[(false,eval b X.env),(false,eval c X.env)]:=by rfl):PI X tg (.Call (.Name "range" p) [a,b,c] [] pos) (iRng3 ta):=by
 intro pins s U H R I h;refine Call_ (xn I hg hm boot_range (PyProof.Rows.callWith_type1 (z0 (ha pos pins s U H _ I h) λus s1 ⟨vs,H1,I1,r1,q1⟩=>?_) (by rw [hs,hs2]) (by rw [hs2];rfl)));obtain ⟨i,j,c,e,⟨q1,q2⟩,q3,q4,q⟩:=q1;subst e;cases r1 with
 |cons r rr =>
  cases rr with
  |cons r' rr =>
   cases rr with
   |cons r'' rr =>
    cases rr;obtain ⟨t,rfl⟩:=r;obtain ⟨t',rfl⟩:=r';obtain ⟨t'',rfl⟩:=r'';refine call_range_3 (Ne.symm (Int.ne_of_lt q1)) ?_ (.inl (PyProof.noPylong_small (by omega)));refine wpAny_pyIter_range (IsRange.new ..) q4 ?_;have I2:Inv X pins U H1 { s1 with heap:=s1.heap.push { cls:= .type "range",data:= .fields #[.int i t,.int j t',.int c t''] },toks:=s1.toks }:=I1.kept λb o e=>yV _ e;refine ⟨(s1.heap.push { cls:= .type "range",data:= .fields #[.int i t,.int j t',.int c t''] }).objs.size,[(s1.heap.push { cls:= .type "range",data:= .fields #[.int i t,.int j t',.int c t''] }).objs.size],_,_,H1,rfl,
     I2.kept (t':=s1.toks) λb o e=>yV _ e,Vn _ i c (qp i j c),?_,λb hb=>?_,q⟩
    ·have e1:i+((0:Nat):Int)*c=i:=by simp
     have e2:((qp i j c:Nat):Int)-((0:Nat):Int)=Builtin.Range.rangeSize i j c:=by unfold qp;omega
     show IsRangeIter _ _ (i+((0:Nat):Int)*c) (((qp i j c:Nat):Int)-((0:Nat):Int)) c;rw [e1,e2];exact yz _ rfl
    ·have e:b=(s1.heap.push { cls:= .type "range",data:= .fields #[.int i t,.int j t',.int c t''] }).objs.size:=by simpa using hb
     subst e;exact I2.fpOk (yT _) (I2.hok.fresh (yT _))
end
theorem XF {lo c:Int}{n:Nat}{tb:TS}{D:p7}{H:Hp}(Pv:Nat->St->Hp->Prop)(h0:Pv 0 U H)(hs:∀ i U H,i<n->Pv i U H->g (.int (lo+i*c)) U H λσ2 H2=>tb { D with nx:=Pv (i+1),ct:=Pv (i+1),bk:=D.nx } σ2 H2)(hd:∀ U H,Pv n U H->D.nx U H):∃ W:Nat->Nat->St->Hp->Prop,(∃ m,W 0 m U H)/\∀ i m U H,W i m U H -> ((Its lo c n).stop i H/\D.nx U H)∨((Its lo c n).go i H/\∃ N:St->Hp->Prop,(∀ σ' H',N σ' H'->∃ m',m'<m/\W (i+1) m' σ' H')/\∀ x H',(Its lo c n).yld i H x H'->g x U H' λσ2 H2=>tb { D with nx:=N,ct:=N,bk:=D.nx } σ2 H2):=by
 refine ⟨λi m U H=>m=n-i/\i<=n/\Pv i U H,⟨n,by simp,uT _,h0⟩,?_⟩;rintro i m U H ⟨rfl,hi,p⟩;by_cases hlt:i<n
 ·refine .inr ⟨hlt,Pv (i+1),λσ' H' p'=>⟨n-(i+1),by omega,rfl,hlt,p'⟩,λx H' y=>?_⟩;obtain ⟨e,y⟩:=y;subst e y;exact hs i U _ hlt p
 ·have e:i=n:=by omega
  subst e;exact .inl ⟨yT _,hd U H p⟩
section
open PySem.SeqAt
theorem n6 {α β:Type}{F:α->β->Prop}:∀{l₁:List α}{l₂:List β},Paired F l₁ l₂->∀(j:Nat)(h1:j<l₁.length)(h2:j<l₂.length),F l₁[j] l₂[j]
 |_,_,.cons r _,0,_,_=>r
 |_,_,.cons _ t,j+1,h1,h2=>n6 t j (by simpa using h1) (by simpa using h2)
variable {X:Cx}
end
structure Fn (P:Program)(w:World)(K:Fg)(mg:Str->Option Value)(base:Heap)(k:Nat)(x:Str)(ps:List Str)(sp:Sp):Prop where
 ex:∃ f fd,FnOk P w K mg base j5 k f fd ps sp/\mg x=some (.ref f)/\PySem.W.keepIn K (.ref f)=true/\Binds K fd ps []
section
variable {X:Cx}{k j:Nat}{x:Str}{ps:List Str}{sp:Sp}{e:Expr}{es:List Expr}{t:TA}{p pos:Pos}
theorem wK (c:Fn X.prog X.w X.K X.mg X.base k x ps sp)(hr:Room j X.A)(hj:k<=j)(hg:Gl X x)(ha:PA X (e::es) t)(hdb:(x==("__debug__":Str))=false:=by decide)(he:starEach (e::es) X.env=(false,eval e X.env)::starEach es X.env:=by rfl)(hpl:(backTo pos (starEach es X.env)).any (·.1)=false:=by rfl):PE X (.Call (.Name x p) (e::es) [] pos) (t5 sp [] E0 t):=by obtain ⟨f,fd,F,hm,hk,hb⟩:=c.ex;exact ZW F (hr.mono hj) hg hm hk hb .nil pass0 ha hdb he hpl
end
end L2
namespace L2
open PySem PySem.Spec PyProof.Rows
variable{p pos tp:Pos}{elts:List Expr}{x1:Nat}{a:Expr}{ta:TA}{S:List Addr}{l:List Env}{h':Heap}{p2:List (Addr×Obj)}{oe:Obj}
section
variable {X:Cx}{pins:List (Addr×Obj)}{U:St}{H:Hp}{s:Shared}{h':Heap}
theorem Inv.turnedL {t':Nat}{ch:List Addr}(I:Inv X pins U H s)(k:∀ b o,b∉ch->s.heap.get? b=some o->h'.get? b=some o)(hf:∀ b∈ch,m5 X pins H b):Inv X pins U H { s with heap:=h',toks:=t' }:=by
 have nit:∀ b u,H b=some u->b∉ch:=λb u e z=>by rw [(hf b z).1] at e;cases e
 have nL:X.env.locals∉ch:=λz=>(hf _ z).2.1 rfl;refine I.step (g':=s.gens) (d':=s.drawn) (ch:=ch) (λb hb=>?_) (λb o _ _ hc e _=>k b o hc e) (λb o _ _ hc e _=>⟨o.slots,k b o hc e⟩) (λ_ _ _ _ n=>n)
  (λb o hc e=>⟨o,k b o hc e⟩) (λ_ _ e=>e) (λ_ _ _ e=>e) (λ_ _ _ e=>e) (λm hm=>?_) (λb u e=>?_) I.bare
 ·obtain ⟨f0,f1,f2,f3,f4,f5⟩:=hf b hb;exact ⟨f3,f1,f4,f5⟩
 ·obtain ⟨o,es,ep,ho,r⟩:=hm;exact ⟨o,es,ep,k _ o nL ho,r⟩
 ·refine (I.hok b u e).stay (λc v hc q=>k c v ?_ q) (λ_ q=>q) (λ_ _ q=>q) λ_ _ _ q=>q;rcases hc with z|z
  ·rw [z];exact nit b u e
  ·exact nit c _ z
theorem Inv.track {p:Addr}{o:HO}(I:Inv X pins U H s)(hp:X.s₀.heap.objs.size<=p)(hn:H p=none)(nL:p≠X.env.locals)(nC:∀ x c,X.env.cells.lookup x=some c->c≠p)(nP:∀ q∈X.pn++pins,q.1≠p)(new:ObjOk X.prog X.w (z6 H p o) s.heap p o):Inv X pins U (z6 H p o) s:=by
 refine ⟨I.ok,I.os,I.bare,⟨I.base.keep,I.base.slot,λb ob e n hx=>?_,I.base.there,λb xs e=>?_,λb ob u e=>?_,λb ps q e=>?_⟩,I.loc,I.cell,?_,λx c e=>?_,λq hq=>?_,λb u e=>?_,I.len⟩
 ·rw [z5 (yP (yQ (yU e) hp))];exact I.base.free b ob e n hx
 ·have z:=I.base.tups b xs e;rw [z5 (y6 z hn)];exact z
 ·have z:=I.base.frzs b ob u e;rw [z5 (y6 z hn)];exact z
 ·have z:=I.base.tbls b ps q e;rw [z5 (y6 z hn)];exact z
 ·rw [z5 (Ne.symm nL)];exact I.free
 ·rw [z5 (nC x c e)];exact I.freeC x c e
 ·obtain ⟨a1,a2,a3⟩:=I.pin q hq;exact ⟨a1,by rw [z5 (nP q hq)];exact a2,a3⟩
 ·by_cases hb:b=p
  ·subst hb;rw [j7] at e;cases e;exact new
  ·rw [z5 hb] at e;exact (I.hok b u e).stay (λc v _ q=>q) (λc q=>by rw [z5 (y6 q hn)];exact q) (λc xs q=>by rw [z5 (y6 q hn)];exact q) λc _ _ q=>by rw [z5 (y6 q hn)];exact q
end
def Ite (K:Fg)(a:Addr):It :=
 ⟨λi H=>∃ xs x,SqL K H a xs/\xs[i]?=some x,λi H x H'=>∃ p y,H p=none/\x = .ref p/\H'=z6 H p (.tup [.int i,y])/\∀ xs,SqL K H a xs->xs[i]?=some y,λi H=>∃ xs,SqL K H a xs/\xs.length<=i⟩
theorem Vk {P:Program}{w:World}{K:Fg}(a e it:Addr)(hne:e≠it):qF P w K (.Tuple elts x1 tp) (Ite K a) [e,it] e (λi h=>(∃ old,IsEnum h e it ((i:Nat):Int) old)/\h.IsListIter it a i) where
 mem:=by simp
 obj:=λi h st b hb=>by
  obtain ⟨⟨old,he⟩,hit⟩:=st;rcases yK.mp hb with rfl|hb
  ·exact ⟨_,he,λv z=>by
    have z':Data.fields _=Data.cell v:=z;cases z'⟩
  ·have eb:b=it:=by simpa using hb
   subst eb;obtain ⟨o,e1,c,d⟩:=hit;exact ⟨o,e1,λv z=>by rw [d] at z;cases z⟩
 keep:=λi h h' st k=>by
  obtain ⟨⟨old,he⟩,hit⟩:=st;exact ⟨⟨old,k e (by simp) _ he⟩,hit.at λo q=>k it (by simp) o q⟩
 item:=by
  intro X hP hw hK hc i pins s U H E I hf st hg;subst hP hw hK;obtain ⟨⟨old,he⟩,hit⟩:=st;obtain ⟨xs,x,hq,hx⟩:=hg;obtain ⟨its,rv,p,hz⟩:=I.list hq;obtain ⟨u,hu,ru⟩:=rv.get hx;have fz:m5 X pins H s.heap.objs.size:=I.fpOk (yT _) (I.hok.fresh (yT _));have lte:e<s.heap.objs.size:=yU he;have lti:it<s.heap.objs.size:=by obtain ⟨o,q,_⟩:=hit;exact yU q
  refine wpAny_pyNext_enum_item he hit p.isList (x:=u) (by simpa using hu) hne λh1 heo hit1 ht1 hz1 hk1=>⟨_,rfl,?_⟩;refine wpAny_letOwnedTupleGo_enum heo λh2 he2 hs2=>?_;have hs2':Heap.SameBut e h1 h2:=hs2;have I2:Inv X pins U H { s with heap:=h2,toks:=s.toks+1 }:=I.turnedL (ch:=[e,it]) (λb o hb q=>by
   have n1:b≠e:=λz=>hb (by rw [z];simp);have n2:b≠it:=λz=>hb (by rw [z];simp);exact hs2'.extBut b o n1 (hk1 b o n1 n2 q)) hf
  obtain ⟨f0,f1,f2,f3,f4,f5⟩:=fz;have tup:h2.get? s.heap.objs.size=some { cls:= .type "tuple",data:= .seq #[.int i s.toks,u] }:=hs2'.extBut _ _ (Ne.symm (yP lte)) ht1;refine ⟨.ref s.heap.objs.size,z6 H s.heap.objs.size (.tup [.int i,x]),I2.track I.sz f0 f1 f4 f5 ?_,rfl,⟨s.heap.objs.size,x,f0,rfl,rfl,λys hy=>by rw [I.list_inj hy hq];exact hx⟩,⟨⟨u,?_⟩,?_⟩,λb hb=>?_⟩
  ·exact ⟨by show 2<=sizeLine;decide,[.int i s.toks,u],.cons ⟨_,rfl⟩ (.cons ru .nil),⟨_,tup,rfl,_,rfl⟩⟩
  ·have ei:(((i+1:Nat):Int))=(i:Int)+1:=by omega
   rw [ei];exact he2
  ·exact hit1.at λo q=>hs2'.extBut it o (Ne.symm hne) q
  ·have nb:b≠s.heap.objs.size:=by
    rcases yK.mp hb with rfl|hb
    ·exact yP lte
    ·have eb:b=it:=by simpa using hb
     rw [eb];exact yP lti
   rw [z5 nb];exact (hf b hb).1
 done:=by intro X hP hw hK hc i pins s U H E I hf st hg;subst hP hw hK;obtain ⟨⟨old,he⟩,hit⟩:=st;obtain ⟨xs,hq,hx⟩:=hg;obtain ⟨its,rv,p,hz⟩:=I.list hq;have hl:=rv.length;exact wpAny_pyNext_enum_end (I.ok.hd hc) he hit p.isList (by simp;omega) λh1 eb=>⟨rfl,I.turnedL (t':=s.toks) (ch:=[e,it]) (λb o hb q=>eb b o (λz=>hb (by rw [z];simp)) q) hf⟩
 self:=λ_ _ _ _ _ st h=>by
  obtain ⟨⟨old,he⟩,hit⟩:=st;exact wpAny_pyIter_enum he h
section
variable {X:Cx}{elts:List Expr}{x1:Nat}{tp:Pos}
def ji (K:Fg)(ta:TA):TI:=λU H R=>ta U H λvs H1=>∃ a,vs=[.ref a]/\(∃ xs,SqL K H1 a xs)/\R (Ite K a) H1
theorem Ji (hg:Gl X "enumerate")(hm:X.mg "enumerate"=none)(ha:PA X [a] ta)(hs:starEach [a] X.env=[(false,eval a X.env)]:=by rfl):PI X (.Tuple elts x1 tp) (.Call (.Name "enumerate" p) [a] [] pos) (ji X.K ta):=by
 intro pins s U H R I h;refine Call_ (xn I hg hm QQ (PyProof.Rows.callWith_type1 (z0 (ha pos pins s U H _ I h) λus s1 ⟨vs,H1,I1,r1,q1⟩=>?_) hs rfl));obtain ⟨a,e,⟨xs,hq⟩,q⟩:=q1;subst e;cases r1 with
 |cons r rr =>
  cases rr;cases r;obtain ⟨its,rv,p,hz⟩:=I1.list hq;refine call_enumerate_list p.isList λh' he hit hsz hk=>?_;refine wpAny_pyIter_enum he ?_;refine ⟨s1.heap.objs.size+1,[s1.heap.objs.size+1,s1.heap.objs.size],_,_,H1,rfl,I1.kept (t':=s1.toks) hk,Vk a (s1.heap.objs.size+1) s1.heap.objs.size (Nat.ne_of_gt (Nat.lt_succ_self _)),⟨⟨_,he⟩,hit⟩,λb hb=>?_,q⟩;rcases yK.mp hb with rfl|hb
  ·exact I1.fpOk (Nat.le_succ _) (I1.hok.fresh (Nat.le_succ _))
  ·have eb:b=s1.heap.objs.size:=by simpa using hb
   subst eb;exact I1.fpOk (yT _) (I1.hok.fresh (yT _))
end
section
variable {X:Cx}{K:Fg}
theorem jl (h:X.K=K):IxR X (rIxL K):=by subst h;exact ix_list
theorem xB (h:X.K=K):SlR X (rSlL K):=by subst h;exact Vb
theorem vF (h:X.K=K):CallR X (.builtin "len") (λxs H Q=>∃ p ys,xs=[.ref p]/\(SqL K H p ys∨SqT K H p ys)/\Q (.int ys.length) H):=by subst h;exact QZ
theorem Xd (hc:X.calm=true)(h:X.K=K):CallR X (.builtin "sum") (λxs H Q=>∃ (a:Addr) (ns:List Int),xs=[.ref a]/\SqL K H a (ns.map V.int)/\Q (.int ns.sum) H):=by subst h;exact vH hc
theorem Jg {es:List Expr}{k:Nat}{t:TGs}{n:Nat}(hc:X.calm=true)(hK:X.K=K)(h:PGs X es t)(hn:(assignEach es X.env).length=n:=by rfl)(hst:(assignEach es X.env).findIdx? (·.1)=none:=by rfl):PG X (.Tuple es k pos) (gTup K n t):=by subst hK;exact Jf hc h hn hst
theorem jC {tg l:Expr}{tl:TE}(hK:X.K=K)(hl:PE X l tl):PI X tg l (jj K tl):=by subst hK;exact Jk hl
theorem Jj (hK:X.K=K)(hg:Gl X "enumerate")(hm:X.mg "enumerate"=none)(ha:PA X [a] ta)(hs:starEach [a] X.env=[(false,eval a X.env)]:=by rfl):PI X (.Tuple elts x1 tp) (.Call (.Name "enumerate" p) [a] [] pos) (ji K ta):=by subst hK;exact Ji hg hm ha hs
end
section
variable {X:Cx}{K:Fg}
def zO (K:Fg):R2:=λx y H Q=>∃ l b xs zs,x = .ref l/\y = .ref b/\SqL K H l xs/\SqL K H b zs/\xs.length+zs.length<=sizeLine/\∀ p,H p=none->Q (.ref p) (z6 H p (.lst (xs++zs)))
theorem op_catL:OpR X (binaryOp .Add) (zO X.K):=by
 intro pins s U H x y v u Q I rx ry h;obtain ⟨l,b,xs,zs,rfl,rfl,hH,hB,hz,q⟩:=h;cases rx;cases ry;obtain ⟨its,r,⟨⟨cls,dd,data,sl⟩,n,e,h1,h2,h3⟩,_⟩:=I.list hH;obtain ⟨its2,r2,⟨⟨cls2,dd2,data2,sl2⟩,n2,e2,k1,k2,k3⟩,_⟩:=I.list hB
 dsimp only at h1 h2 h3 k1 k2 k3
 subst h1 h2 h3 k1 k2 k3;have hl:=r.length;have hl2:=r2.length;have hsz:its.toArray.size+its2.toArray.size<=sizeLine:=by rw [yZ,yZ];omega
 refine concat_meets ⟨_,e,rfl⟩ ⟨_,e2,rfl⟩ noFill_list_add seq_list_add PySem.F.slot_list_add PySem.F.entry_list_add (PySem.F.args_list_add_2 _ _) (list_addW l b its.toArray its2.toArray n n2 none none sl sl2 hsz) ⟨e,e2,?_⟩;have ea:its.toArray++its2.toArray=(its++its2).toArray:=by simp
 rw [ea];exact ⟨.ref _,_,I.lnew (t':=s.toks) (r.append r2) (by rw [yJ];omega),rfl,q _ I.fresh⟩
end
section
variable {P:Program}{w:World}{H H' H0:Hp}{h h' h0:Heap}{a:Addr}{o:HO}
theorem ObjOk.here (x:ObjOk P w H h a o):∃ u,h.get? a=some u:=by
 cases o with
 |lst xs=>obtain ⟨_,_,_,_,e⟩:=x;exact ⟨_,e⟩
 |tup xs=>obtain ⟨_,_,_,_,e,_⟩:=x;exact ⟨_,e⟩
 |dK kvs=>obtain ⟨_,_,_,_,_,_,_,e,_⟩:=x;exact ⟨_,e⟩
 |dT kvs=>obtain ⟨_,_,_,_,_,_,_,e,_⟩:=x;exact ⟨_,e⟩
 |set S n=>obtain ⟨_,_,_,_,e,_⟩:=x;exact ⟨_,e⟩
 |ins C dx fs=>obtain ⟨_,_,_,e,_⟩:=x;exact ⟨_,e⟩
 |own y=>obtain ⟨_,e⟩:=x;exact ⟨_,e⟩
 |xd fs=>obtain ⟨_,⟨_,_,_,e,_⟩,_⟩:=x;exact ⟨_,e⟩
 |rng lo hi=>obtain ⟨_,_,_,e⟩:=x;exact ⟨_,e⟩
 |frz ob u=>obtain ⟨e,_⟩:=x;exact ⟨_,e⟩
 |tbl ps q=>obtain ⟨_,e,_⟩:=x;exact ⟨_,e⟩
 |met f y=>exact ⟨_,(show h.get? a=some _ from x)⟩
 |ext φ=>obtain ⟨_,⟨_,e⟩,_⟩:=x;exact ⟨_,e⟩
theorem HOk.gone (x:HOk P w H h)(e:h.get? a=none):H a=none:=by
 cases q:H a with
 |none=>rfl
 |some u=>obtain ⟨v,z⟩:=(x a u q).here;rw [e] at z;cases z
theorem HOk.off (x:HOk P w H h)(k:∀ b u,b∉S->h.get? b=some u->h'.get? b=some u)(hS:∀ b∈S,H b=none):HOk P w H h':=λb u e=>by
 have out:∀ c v,H c=some v->c∉S:=λc v q z=>by
  have n:=hS c z;rw [q] at n;cases n
 refine (x b u e).stay (λc v hc q=>k c v ?_ q) (λ_ q=>q) (λ_ _ q=>q) λ_ _ _ q=>q;rcases hc with z|z
 ·rw [z];exact out b u e
 ·exact out c _ z
theorem Un.off {fs ex:List Addr}(u:Un fs ex H0 H h0 h)(k:∀ b o,b∉S->h.get? b=some o->h'.get? b=some o)(hS:∀ b∈S,b∈fs∨h0.get? b=none)(sl:∀ b o,b∈fs->h.get? b=some o->∃ z,h'.get? b=some { o with slots:=z }):Un fs ex H0 H h0 h' where
 keep:=λb o e n hb hx=>k b o (λz=>by
  rcases hS b z with q|q
  ·exact hb q
  ·rw [e] at q;cases q) (u.keep b o e n hb hx)
 slot:=λb o e n hb hx=>by
  obtain ⟨z,q⟩:=u.slot b o e n hb hx;obtain ⟨z2,q2⟩:=sl b _ hb q;exact ⟨z2,q2⟩
 free:=u.free
 there:=λb o e hx=>by
  obtain ⟨o',q⟩:=u.there b o e hx;by_cases hb:b∈fs
  ·obtain ⟨z,q2⟩:=sl b _ hb q;exact ⟨_,q2⟩
  ·exact ⟨o',k b o' (λz=>by
    rcases hS b z with y|y
    ·exact hb y
    ·rw [e] at y;cases y) q⟩
 tups:=u.tups
 frzs:=u.frzs
 tbls:=u.tbls
end
theorem jp {env:Env}{b:Addr}(h:env∈l)(hf:env.frame=some b):b∈v9 l:=yn.mpr ⟨env,h,hf⟩
section
variable {M:Model}{A:Around}{Er:Value->Shared->Prop}{s:Shared}{h0 base:Heap}{H:Hp}{P:Program}{w:World}{env:Env}{outer:List Env}{L e:Addr}{cls:Value}{Q:Unit->Shared->Prop}
structure xJ (S:List Addr)(l:List Env)(h h':Heap):Prop where
 keep:∀ b o,b∉S->h.get? b=some o->h'.get? b=some o
 slot:∀ b o,b∈v9 l->h.get? b=some o->∃ z,h'.get? b=some { o with slots:=z }
theorem Xn {B h1:Heap}{T:Addr}{oT:Obj}{ts:Array Value}(hok:HOk P w H h1)(hp:∀ b o,h0.get? b=some o->∃ o',h1.get? b=some o')(fr:h1.FunFrames base l)(hB:B=PySem.W.hideAll h1 (S++v9 l))(up:∀ b o,b∈v9 l->h1.get? b=some o->∃ z,h'.get? b=some { o with slots:=z })(hn:B.get? T=none)(hT:h'.get? T=some oT)(hd:oT.data = .fields ts)(hS:T∈S->H T=none/\h0.get? T=none):H T=none/\h0.get? T=none:=by
 cases q:h1.get? T with
 |none =>
  refine ⟨hok.gone q,?_⟩;cases z:h0.get? T with
  |none=>rfl
  |some o=>obtain ⟨o',z2⟩:=hp T o z;rw [q] at z2;cases z2
 |some o =>
  by_cases m:T∈S++v9 l
  ·rcases yE.mp m with m|m
   ·exact hS m
   ·obtain ⟨z,z2⟩:=up T o m q;obtain ⟨_,o2,z3,z4⟩:=fr.mem m;rw [q] at z3;cases z3;rw [hT] at z2;have e:=Option.some.inj z2;rw [e] at hd;exact absurd hd (z4 ts)
  ·rw [hB,PySem.W.hideAll_get _ q m] at hn;cases hn
end
def veMro:List Value:=[.type "ValueError",.type "Exception",.type "BaseException",.type "object"]
abbrev Cx.tried (X:Cx)(pn:List (Addr×Obj))(W:Value->Shared->Prop):Cx:={ X with pn:=pn,xe:=W }
abbrev Cx.suite (X:Cx)(pn:List (Addr×Obj))(ea:Addr):Cx:={ X with A:=X.A.mark (some (.ref ea)),calm:=false,pn:=pn,xe:=λ_ _=>False }
section
variable {X:Cx}{pins:List (Addr×Obj)}{U:St}{H:Hp}{s:Shared}{W:Value->Shared->Prop}{b ea:Addr}
theorem Cx.Ok.tried (ok:X.Ok)(pn:List (Addr×Obj))(W:Value->Shared->Prop):(X.tried pn W).Ok :=
 ⟨ok.mod,ok.kind,ok.glob,ok.blt,ok.above,ok.inj,ok.has,ok.cab,ok.hd,ok.frames,ok.stk,ok.exf,ok.bs,ok.bsz,ok.noex,ok.exfs,ok.funs,ok.frf,ok.tbs⟩
theorem Cx.Ok.suite (ok:X.Ok)(pn:List (Addr×Obj))(ea:Addr):(X.suite pn ea).Ok :=
 ⟨ok.mod,ok.kind,ok.glob,ok.blt,ok.above,ok.inj,ok.has,ok.cab,(λz=>nomatch z),ok.frames,ok.stk,ok.exf,ok.bs,ok.bsz,ok.noex,ok.exfs,ok.funs,ok.frf,ok.tbs⟩
theorem Inv.tried (I:Inv X pins U H s)(W:Value->Shared->Prop):Inv (X.tried (X.pn++pins) W) [] U H s :=
 ⟨I.ok.tried _ _,I.os,I.bare,I.base,I.loc,I.cell,I.free,I.freeC,λp hp=>I.pin p (by simpa using hp),I.hok,I.len⟩
theorem Inv.untried (ok:X.Ok)(I:Inv (X.tried (X.pn++pins) W) p2 U H s):Inv X pins U H s :=
 ⟨ok,I.os,I.bare,I.base,I.loc,I.cell,I.free,I.freeC,λp hp=>I.pin p (yB _ hp),I.hok,I.len⟩
theorem Inv.suite (I:Inv X pins U H s)(e1:s.heap.get? ea=some oe)(e2:H ea=none)(e3:ea≠X.env.locals)(e4:ea∉X.fs)(e5:∀ v,oe.data ≠ .cell v):Inv (X.suite (X.pn++pins++[(ea,oe)]) ea) [] U H s :=
 ⟨I.ok.suite _ _,I.os,I.bare,I.base,I.loc,I.cell,I.free,I.freeC,λp hp=>by
  have hp':p∈X.pn++pins++[(ea,oe)]:=by simpa using hp
  rcases yE.mp hp' with z|z
  ·exact I.pin p z
  ·have q:p=(ea,oe):=by simpa using z
   subst q;exact ⟨e1,e2,e3,e4,e5⟩,I.hok,I.len⟩
theorem Inv.unsuite (ok:X.Ok)(I:Inv (X.suite (X.pn++pins++[(ea,oe)]) ea) p2 U H s):Inv X pins U H s :=
 ⟨ok,I.os,I.bare,I.base,I.loc,I.cell,I.free,I.freeC,λp hp=>I.pin p (yB _ (yB _ hp)),I.hok,I.len⟩
structure zX (X:Cx)(pins:List (Addr×Obj))(b:Addr):Prop where
 s0:X.s₀.heap.get? b=none
 loc:b≠X.env.locals
 cel:∀ x c,X.env.cells.lookup x=some c->c≠b
 pin:∀ p∈X.pn++pins,p.1≠b
 fs:b∉X.fs
theorem Inv.apart (I:Inv X pins U H s)(hex:X.ex=[])(n:s.heap.get? b=none):zX X pins b where
 s0:=by
  cases z:X.s₀.heap.get? b with
  |none=>rfl
  |some o=>obtain ⟨o',q⟩:=I.base.there b o z (by rw [hex];exact λz=>nomatch z);rw [n] at q;cases q
 loc:=λz=>by
  obtain ⟨m,⟨o,es,ep,ho,_⟩,_⟩:=I.loc;rw [<- z,n] at ho;cases ho
 cel:=λx c e z=>by
  obtain ⟨v,o,ho,_⟩:=I.cell x c e;rw [z,n] at ho;cases ho
 pin:=λp hp z=>by
  have q:=(I.pin p hp).1;rw [z,n] at q;cases q
 fs:=λz=>by
  obtain ⟨_,o,ho,_⟩:=I.funs.mem z;rw [n] at ho;cases ho
theorem Inv.flown (I:Inv X pins U H s)(hf:X.env.frame=some X.env.locals)(hst:X.stack=X.env::X.outer)(hS:∀ c∈S,H c=none/\zX X pins c)(k:xJ (S++v9 X.stack) X.stack s.heap h'):Inv X pins U H { s with heap:=h' }:=by
 have hL:X.env.locals∈v9 X.stack:=by rw [hst];exact jp yy hf
 have sub:∀ c,c∈X.fs->c∈v9 X.stack:=λc hc=>by
  rw [hst];obtain ⟨x,hx,q⟩:=yn.mp hc;exact yn.mpr ⟨x,yL _ hx,q⟩
 have celK:∀ x c,X.env.cells.lookup x=some c->∀ v,s.heap.IsCell c v->h'.IsCell c v:=λx c e v ⟨o,ho,hd⟩=>by
  by_cases hc:c∈v9 X.stack
  ·obtain ⟨z,q⟩:=k.slot c o hc ho;exact ⟨_,q,hd⟩
  ·exact ⟨o,k.keep c o (λz=>(yE.mp z).elim (λy=>(hS c y).2.cel x c e rfl) hc) ho,hd⟩
 refine ⟨I.ok,I.os,I.bare,I.base.off k.keep (λc hc=>?_) (λc o hc q=>k.slot c o (sub c hc) q),?_,λx c e=>?_,I.free,I.freeC,λp hp=>?_,I.hok.off k.keep (λc hc=>?_),I.len⟩
 ·rcases yE.mp hc with z|z
  ·exact .inr (hS c z).2.s0
  ·rcases yK.mp (I.stkSub c z) with y|y
   ·refine .inr ?_;rw [y];exact yx I.ok.above
   ·exact .inl y
 ·obtain ⟨m,⟨o,es,ep,ho,r⟩,hl⟩:=I.loc;obtain ⟨z,q⟩:=k.slot _ o hL ho;refine ⟨m,⟨_,es,ep,q,r⟩,λi x v e1 e2 e3=>?_⟩;obtain ⟨u,r2,l⟩:=hl i x v e1 e2 e3;refine ⟨u,r2,?_⟩;rcases l with l|⟨k1,c,e,y⟩
  ·exact .inl l
  ·exact .inr ⟨k1,c,e,celK x c e _ y⟩
 ·obtain ⟨v,z⟩:=I.cell x c e;exact ⟨v,celK x c e v z⟩
 ·obtain ⟨e,n,ne,nf,d⟩:=I.pin p hp;refine ⟨k.keep p.1 p.2 (λz=>?_) e,n,ne,nf,d⟩;rcases yE.mp z with y|y
  ·exact (hS p.1 y).2.pin p hp rfl
  ·rcases yK.mp (I.stkSub p.1 y) with q|q
   ·exact ne q
   ·exact nf q
 ·rcases yE.mp hc with z|z
  ·exact (hS c z).1
  ·exact I.stkFree c z
theorem Inv.goes {M:Model}{A:Around}{Er:Value->Shared->Prop}{i:Nat}{n:Str}{Q:Unit->Shared->Prop}(I:Inv X pins U H s)(hN:X.N.Nodup)(hi:X.N[i]?=some n)(hl:X.env.kindOf n=some .local)
  (h:∀ s',Inv X pins (U.set i none) H s'->Q () s'):wpAny M A (do bindName X.env n .none;unbindBehindTheSuite X.env n pos) Q Er s:=by
 obtain ⟨m,hn,hv⟩:=id I.loc;have iσ:i<U.length:=by rw [I.len];exact (yH.mp hi).1
 refine wpAny_nameGoes_keeps hl hn (by rw [I.ok.kind];rfl) λh' v hn' hs=>h _ ?_;obtain ⟨oL,_,_,hoL,_⟩:=id hn;have neL:∀ c o,X.s₀.heap.get? c=some o->c≠X.env.locals:=λc o e z=>by
  rw [z,yx I.ok.above] at e;cases e
 refine ⟨I.ok,I.os,I.bare,I.base.off (S:=[X.env.locals]) (λc o nc q=>(hs.2 c (λz=>nc (by simp [z]))).trans q) (λc hc=>?_) (λc o hc q=>⟨o.slots,(hs.2 c (λz=>?_)).trans q⟩),⟨_,hn',λj y v' e1 e2 e3=>?_⟩,λy c e=>?_,I.free,I.freeC,λp hp=>?_,
  I.hok.off (S:=[X.env.locals]) (λc o nc q=>(hs.2 c (λz=>nc (by simp [z]))).trans q) (λc hc=>?_),by simpa using I.len⟩
 ·have z:c=X.env.locals:=by simpa using hc
  refine .inr ?_;rw [z];exact yx I.ok.above
 ·rw [z] at hc;obtain ⟨_,o2,h2,_⟩:=I.ok.funs.mem hc;rw [yx I.ok.above] at h2;cases h2
 ·by_cases hj:j=i
  ·subst hj;rw [uU iσ] at e2;cases e2
  ·rw [yI (Ne.symm hj)] at e2;obtain ⟨u',r',q⟩:=hv j y v' e1 e2 e3;refine ⟨u',r',?_⟩;rcases q with ⟨k,e⟩|⟨k,c,e,z⟩
   ·refine .inl ⟨k,?_⟩;have ny:y≠n:=λe=>hj (jq hN e1 (e▸hi));simp [ny,e]
   ·exact .inr ⟨k,c,e,z.sameBut hs (I.cne y c e)⟩
 ·obtain ⟨w',z⟩:=I.cell y c e;exact ⟨w',z.sameBut hs (I.cne y c e)⟩
 ·obtain ⟨e,n,ne,nf,d⟩:=I.pin p hp;exact ⟨(hs.2 p.1 ne).trans e,n,ne,nf,d⟩
 ·have z:c=X.env.locals:=by simpa using hc
  rw [z];exact I.free
end
theorem SP.untried {X:Cx}{pins:List (Addr×Obj)}{W:Value->Shared->Prop}{D:p7}{f:Flow}{s:Shared}(ok:X.Ok)(h:SP (X.tried (X.pn++pins) W) p2 D f s):SP X pins D f s:=by
 cases f with
 |next=>obtain ⟨σ',H',I,q⟩:=h;exact ⟨σ',H',I.untried ok,q⟩
 |brk=>obtain ⟨σ',H',I,q⟩:=h;exact ⟨σ',H',I.untried ok,q⟩
 |cont=>obtain ⟨σ',H',I,q⟩:=h;exact ⟨σ',H',I.untried ok,q⟩
 |ret u=>obtain ⟨v,σ',H',I,r,q⟩:=h;exact ⟨v,σ',H',I.untried ok,r,q⟩
theorem Ql {h base:Heap}(fr:h.FunFrames base l)(k:(PySem.W.hideAll h (S++v9 l)).StaysIn h')(up:h.UpToSlots h'):xJ (S++v9 l) l h h' :=
 ⟨λb o nb q=>k b o (PySem.W.hideAll_get _ q nb),λb o hb q=>up b o q (by
  obtain ⟨_,o2,z3,z4⟩:=fr.mem hb;rw [q] at z3;cases z3;exact z4)⟩
end L2
namespace L2
open PySem PySem.Spec PyProof.Rows PySem.W Builtin Builtin.ObjectAttr Builtin.Getset_descriptor
variable{C ea:Addr}{h:Heap}
theorem QN:bootBuiltins "ValueError"=some (.type "ValueError"):=by decide +kernel
structure d2 (K:Fg)(C:Addr):Prop where
 cls:(clsIn K C).isSome=true
 ga:findIn K (.ref C) "__getattribute__"=some (some (.builtin "BaseException.__getattribute__"))
 gt:findIn K (.ref C) "__getattr__"=some none
 cl:findIn K (.ref C) "__class__"=some (some (.builtin "object.__class__"))
 sp:specialIn K (.builtin "object.__class__") "__get__"=some (some (.builtin "getset_descriptor.__get__"))
 tk:takesIn K (.builtin "object.__class__")=some true
 ob:mroIn K C (.type "object")=some true
 be:mroIn K C (.type "BaseException")=some true
def ExcAt (ea C:Addr)(h:Heap):Prop:=∃ o,h.get? ea=some o/\o.cls = .ref C
theorem ExcAt.ty {M:Model}(p:ExcAt ea C h):Looks M h (typeOf (.ref ea)) (.ref C):=by obtain ⟨o,a,b⟩:=p;exact b▸(Looks.ld a).andThen .now
section
variable {prog:Program}{w:World}{A:Around}{K:Fg}{s:Shared}{ea C:Addr}
theorem XC {R:Result->Shared->Prop}{tp:Value}(T:d2 K C)(X:K.In s.heap)(p:ExcAt ea C s.heap)(h:R (.ok (.ret (.ref C))) s):codeAny (model prog w) A (.call (.builtin "getset_descriptor.__get__") ⟨[.builtin "object.__class__",.ref ea,tp],[]⟩) R s:=by
 cases s with
 |mk hp gs dr tk os =>
  have y0:=p.ty (M:=model prog w);have y1:=looks_mroIn (M:=model prog w) X T.ob;refine codeAny_call_builtin KF.slot_gs.plain KF.entry_gs ?_;refine KF.slot_gs.check _ _ _ _ _ _ _ _ KF.type_class (KF.args_gs _ _ _) ?_;unfold Builtin.«getset_descriptor.__get__» descrGet;rw [dga_obj (.builtin "object.__class__") tp ea];apply yW;apply yM;unfold descrGetter descrCheckInstance descrNameAndClass isInstance;simp only [KF.owner_class]
  repeat lk
  constructor
  ·exact Code.quiet_builtin _ (by decide +kernel)
  ·refine codeAny_builtin KF.entry_class ?_;unfold Builtin.«object.__class__» shownTypeOf
   repeat lk
   exact h
theorem XE {M:Model}(T:d2 K C)(X:K.In h):Looks M h (find (.ref ea) (.ref C) "__class__") (.bind (.builtin "getset_descriptor.__get__") (.builtin "object.__class__")):=by have y1:=looks_findIn (M:=M) X T.cl;have y2:Looks M h (getOf (some (.builtin "object.__class__"))) (some (.builtin "getset_descriptor.__get__")):=looks_specialIn X T.sp;have y3:=looks_takesIn (M:=M) X T.tk;have y4:Looks M h (dataDescriptor? (some (.builtin "object.__class__")) (some (.builtin "getset_descriptor.__get__"))) (some (.builtin "getset_descriptor.__get__",.builtin "object.__class__")):=y3.andThen .now;exact y1.andThen (y2.andThen (y4.andThen (Looks.tag .now)))
theorem XA {Q:Option Value->Shared->Prop}{Er:Value->Shared->Prop}(T:d2 K C)(X:K.In s.heap)(p:ExcAt ea C s.heap)(h:Q (some (.ref C)) { s with toks:=s.toks+1 }):wpAny (model prog w) A (getAttr? (.ref ea) "__class__") Q Er s:=by
 cases s with
 |mk hp gs dr tk os =>
  have y0:=p.ty (M:=model prog w);have y1:=looks_findIn (M:=model prog w) X T.ga;have y2:=looks_findIn (M:=model prog w) X T.gt;have y3:=XE (M:=model prog w) (ea:=ea) T X;have y4:=looks_mroIn (M:=model prog w) X T.be;unfold getAttr? getAttrBy? getAttrBy;refine yW (wpAny_mkText (yW (wpAny_attempt (wpAny_holding (yW (y0.at ?_))))));refine yW (y1.at ?_);have n1:(onTheHeap (Value.ref C)&&Value.builtin "BaseException.__getattribute__" == Value.builtin "object.__getattribute__")=false:=by rw [show (Value.builtin "BaseException.__getattribute__" == Value.builtin "object.__getattribute__")=false by decide +kernel,Bool.and_false]
  dsimp only
  rw [n1,if_neg yY];unfold getAttrByItsOwn hookBefore;rw [show onTheHeap (Value.ref C)=true from rfl,if_pos rfl];refine yW (y2.at ?_);refine yW (wpAny_attempt (wpAny_holding ?_));unfold callGetattribute boundAndCalled;rw [Bool.false_and,if_neg yY];refine yW (wpAny_of_eq (PySem.F.excAttr_ValueError.ga.bind (.ref ea)) ?_);refine wpAny_call (codeAny_call_builtin PySem.F.excAttr_ValueError.ga.plain PySem.F.entry_bexc_ga ?_);have hk:builtinKind "BaseException.__getattribute__"=some .slot:=by decide +kernel
  have hq:splitId "BaseException.__getattribute__"=some ("BaseException","__getattribute__"):=by decide +kernel
  have ha:=PySem.F.args_bexc_ga (.ref ea) (.str "__class__" tk);simp only [checkBuiltinCall,hk,hq];have hb:Looks (model prog w) hp (isInstance (.ref ea) (.type "BaseException")) true:=y0.andThen y4;refine yW (hb.at ?_);rw [Bool.not_true];rw [if_neg yY];refine wpAny_of_eq ha ?_;unfold Builtin.«object.__getattribute__»;refine yW (yM ?_);refine yW (yM (yW (y0.at (yW (y3.at ?_)))));unfold bindTo;show wpAny _ _ (holding [Value.builtin "object.__class__"] (call (.builtin "getset_descriptor.__get__") [.builtin "object.__class__",.ref ea,.ref C]) >>= ret) _ _ _;refine yW (wpAny_holding (wpAny_call (XC T X p (yM ?_))));refine handed_on rfl (yM h)
end
theorem Zl {K:Fg}(T:d2 K C):KitX K (.ref ea) (.ref C) (ExcAt ea C) where
 ty:=λ_ _ _ p=>p.ty
 it:=λM h X _=>by
  have z:=T.cls;unfold clsIn at z;split at z
  next c' d' cd' sl' ho =>
   intro A' Q' E' s' k q;unfold isType loadHead;refine yW (wpAny_loadPart (k _ _ (X _ _ ho)) ?_);exact yM q
  next=>cases z
 ne:=λh tp dd its n sl X htp=>by
  cases hb:((.ref C:Value) == .ref tp) with
  |false=>rfl
  |true =>
   have e:C=tp:=Value.ref.inj (beq_iff_eq.mp hb);have z:=T.cls;unfold clsIn at z;split at z
   next c' d' cd' sl' ho =>
    have y:=X _ _ ho;rw [e,htp] at y;cases y
   next=>cases z
 ca:=λX p k=>XA T X p k
section
variable {X:Cx}{K:Fg}{ea C:Addr}{oe:Obj}
theorem zt (hK:X.K=K)(hp:(ea,oe)∈X.pn)(hc:oe.cls = .ref C)(T:d2 K C):CallR X (.builtin "isinstance") (λxs H Q=>∃ (c:V) (d:Value) (b:Bool),xs=[.ref ea,c]/\(∀ u,RelV c u->u=d)/\kitOne K (.ref C) d=some b/\Q (.bl b) H):=by subst hK;intro pins s U H xs us Q I r h;obtain ⟨c,d,b,rfl,hd,e,q⟩:=h;obtain ⟨u,w',rfl,rx,rw'⟩:=jZ r;obtain rfl:u=Value.ref ea:=rx;obtain rfl:=hd w' rw';have z:=(I.pin _ (yB _ hp)).1;exact kia_one (Zl T) I.kIn ⟨oe,z,hc⟩ e (λz=>nomatch z) λtk=>⟨.bl b,H,I.tok _,rfl,q⟩
end
end L2
namespace L2
open PySem PySem.Spec PyProof.Rows PySem.SeqAt
variable{x y:V}{A:Around}{u v:Value}{l:Addr}{items:Array Value}{n:Nat}{b:Bool}{K:Fg}
def EqP (K:Fg)(H:Hp):Nat->V->V->Bool->Prop
 |0,x,y,b=>v7 x=true/\v7 y=true/\b=eqV x y
 |n+1,x,y,b=>(v7 x=true/\v7 y=true/\b=eqV x y) ∨
  (∃(a c:Addr)(xs ys:List V),x = .ref a/\y = .ref c/\SqL K H a xs/\SqL K H c ys/\((xs.length≠ys.length/\b=false)∨(xs.length=ys.length/\∃ e:Nat->Bool,(∀ j (h1:j<xs.length) (h2:j<ys.length),EqP K H n xs[j] ys[j] (e j))/\b=(List.range xs.length).all e))) ∨
  (∃(a c:Addr)(xs ys:List V),x = .ref a/\y = .ref c/\SqT K H a xs/\SqT K H c ys/\∃ e:Nat->Bool,(∀ j (h1:j<xs.length) (h2:j<ys.length),EqP K H n xs[j] ys[j] (e j))/\b=((List.range (min xs.length ys.length)).all e&&xs.length==ys.length)) ∨
  (∃(a c:Addr)(xs ys:List V),x = .ref a/\y = .ref c/\SqL K H a xs/\SqT K H c ys/\b=false) ∨
  (∃(a c:Addr)(xs ys:List V),x = .ref a/\y = .ref c/\SqT K H a xs/\SqL K H c ys/\b=false) ∨
  (∃(c:Addr)(ys:List V),v7 x=true/\y = .ref c/\(SqL K H c ys∨SqT K H c ys)/\b=false) ∨
  (∃(a:Addr)(xs:List V),v7 y=true/\x = .ref a/\(SqL K H a xs∨SqT K H a xs)/\b=false)
theorem zE (h:v7 x=true):eqV x x=true:=by cases x<;>first|rfl|exact beq_self_eq_true _|cases h
theorem wZ {s:Shared}(ry:RelV y u)(rx:RelV x v)(fy:v7 y=true)(fx:v7 x=true):RcAt A s u v (eqV y x):=by
 cases y with
 |non =>
  cases ry;cases x with
  |non=>cases rx;exact RcAt.none_none
  |bl b=>cases rx;exact RcAt.none_bool b
  |int b=>obtain ⟨t2,rfl⟩:=rx;exact RcAt.none_int b t2
  |str b=>obtain ⟨t2,rfl⟩:=rx;exact RcAt.none_str b t2
  |_=>exact absurd (show false=true from fx) yY
 |bl a =>
  cases ry;cases x with
  |non=>cases rx;exact RcAt.bool_none a
  |bl b=>cases rx;exact RcAt.bool_bool a b
  |int b=>obtain ⟨t2,rfl⟩:=rx;exact RcAt.bool_int a b t2
  |str b=>obtain ⟨t2,rfl⟩:=rx;exact RcAt.bool_str a b t2
  |_=>exact absurd (show false=true from fx) yY
 |int a =>
  obtain ⟨t1,rfl⟩:=ry;cases x with
  |non=>cases rx;exact RcAt.int_none a t1
  |bl b=>cases rx;exact RcAt.int_bool a t1 b
  |int b=>obtain ⟨t2,rfl⟩:=rx;exact RcAt.int_int a t1 b t2
  |str b=>obtain ⟨t2,rfl⟩:=rx;exact RcAt.int_str a t1 b t2
  |_=>exact absurd (show false=true from fx) yY
 |str a =>
  obtain ⟨t1,rfl⟩:=ry;cases x with
  |non=>cases rx;exact RcAt.str_none a t1
  |bl b=>cases rx;exact RcAt.str_bool a t1 b
  |int b=>obtain ⟨t2,rfl⟩:=rx;exact RcAt.str_int a t1 b t2
  |str b=>obtain ⟨t2,rfl⟩:=rx;exact RcAt.str_str a t1 b t2
  |_=>exact absurd (show false=true from fx) yY
 |_=>exact absurd (show false=true from fy) yY
theorem Qa {s:Shared}(ry:RelV y u)(rx:RelV x v)(fy:v7 y=true)(fx:v7 x=true):RcNeAt A s u v (!eqV y x):=by
 cases y with
 |non =>
  cases ry;cases x with
  |non=>cases rx;exact RcNeAt.none_none
  |bl b=>cases rx;exact RcNeAt.none_bool b
  |int b=>obtain ⟨t2,rfl⟩:=rx;exact RcNeAt.none_int b t2
  |str b=>obtain ⟨t2,rfl⟩:=rx;exact RcNeAt.none_str b t2
  |_=>exact absurd (show false=true from fx) yY
 |bl a =>
  cases ry;cases x with
  |non=>cases rx;exact RcNeAt.bool_none a
  |bl b=>cases rx;exact RcNeAt.bool_bool a b
  |int b=>obtain ⟨t2,rfl⟩:=rx;exact RcNeAt.bool_int a b t2
  |str b=>obtain ⟨t2,rfl⟩:=rx;exact RcNeAt.bool_str a b t2
  |_=>exact absurd (show false=true from fx) yY
 |int a =>
  obtain ⟨t1,rfl⟩:=ry;cases x with
  |non=>cases rx;exact RcNeAt.int_none a t1
  |bl b=>cases rx;exact RcNeAt.int_bool a t1 b
  |int b=>obtain ⟨t2,rfl⟩:=rx;exact RcNeAt.int_int a t1 b t2
  |str b=>obtain ⟨t2,rfl⟩:=rx;exact RcNeAt.int_str a t1 b t2
  |_=>exact absurd (show false=true from fx) yY
 |str a =>
  obtain ⟨t1,rfl⟩:=ry;cases x with
  |non=>cases rx;exact RcNeAt.str_none a t1
  |bl b=>cases rx;exact RcNeAt.str_bool a t1 b
  |int b=>obtain ⟨t2,rfl⟩:=rx;exact RcNeAt.str_int a t1 b t2
  |str b=>obtain ⟨t2,rfl⟩:=rx;exact RcNeAt.str_str a t1 b t2
  |_=>exact absurd (show false=true from fx) yY
 |_=>exact absurd (show false=true from fy) yY
theorem Xo {s:Shared}(hl:s.heap.IsList l items)(hu:A.units<cLine)(ry:RelV y u)(fy:v7 y=true):EqAt A s u (.ref l) false:=by
 cases y with
 |non=>cases ry;exact EqAt.none_list hl hu
 |bl a=>cases ry;exact EqAt.bool_list a hl hu
 |int a=>obtain ⟨t1,rfl⟩:=ry;exact EqAt.int_list a t1 hl hu
 |str a=>obtain ⟨t1,rfl⟩:=ry;exact EqAt.str_list a t1 hl hu
 |_=>exact absurd (show false=true from fy) yY
theorem Xq {s:Shared}(hl:s.heap.IsList l items)(hu:A.units<cLine)(ry:RelV y u)(fy:v7 y=true):EqAt A s (.ref l) u false:=by
 cases y with
 |non=>cases ry;exact EqAt.list_none hl hu
 |bl a=>cases ry;exact EqAt.list_bool a hl hu
 |int a=>obtain ⟨t1,rfl⟩:=ry;exact EqAt.list_int a t1 hl hu
 |str a=>obtain ⟨t1,rfl⟩:=ry;exact EqAt.list_str a t1 hl hu
 |_=>exact absurd (show false=true from fy) yY
theorem Xp {s:Shared}(hl:s.heap.IsTuple l items)(hu:A.units<cLine)(ry:RelV y u)(fy:v7 y=true):EqAt A s u (.ref l) false:=by
 cases y with
 |non=>cases ry;exact EqAt.none_tuple hl hu
 |bl a=>cases ry;exact EqAt.bool_tuple a hl hu
 |int a=>obtain ⟨t1,rfl⟩:=ry;exact EqAt.int_tuple a t1 hl hu
 |str a=>obtain ⟨t1,rfl⟩:=ry;exact EqAt.str_tuple a t1 hl hu
 |_=>exact absurd (show false=true from fy) yY
theorem Xr {s:Shared}(hl:s.heap.IsTuple l items)(hu:A.units<cLine)(ry:RelV y u)(fy:v7 y=true):EqAt A s (.ref l) u false:=by
 cases y with
 |non=>cases ry;exact EqAt.tuple_none hl hu
 |bl a=>cases ry;exact EqAt.tuple_bool a hl hu
 |int a=>obtain ⟨t1,rfl⟩:=ry;exact EqAt.tuple_int a t1 hl hu
 |str a=>obtain ⟨t1,rfl⟩:=ry;exact EqAt.tuple_str a t1 hl hu
 |_=>exact absurd (show false=true from fy) yY
theorem JD {s:Shared}(hl:s.heap.IsList l items)(hu:A.units<cLine)(ry:RelV y u)(fy:v7 y=true):RcAt A s u (.ref l) false:=by
 cases y with
 |non=>cases ry;exact RcAt.none_list hl hu
 |bl a=>cases ry;exact RcAt.bool_list a hl hu
 |int a=>obtain ⟨t1,rfl⟩:=ry;exact RcAt.int_list a t1 hl hu
 |str a=>obtain ⟨t1,rfl⟩:=ry;exact RcAt.str_list a t1 hl hu
 |_=>exact absurd (show false=true from fy) yY
theorem JF {s:Shared}(hl:s.heap.IsList l items)(hu:A.units<cLine)(ry:RelV y u)(fy:v7 y=true):RcAt A s (.ref l) u false:=by
 cases y with
 |non=>cases ry;exact RcAt.list_none hl hu
 |bl a=>cases ry;exact RcAt.list_bool a hl hu
 |int a=>obtain ⟨t1,rfl⟩:=ry;exact RcAt.list_int a t1 hl hu
 |str a=>obtain ⟨t1,rfl⟩:=ry;exact RcAt.list_str a t1 hl hu
 |_=>exact absurd (show false=true from fy) yY
theorem JE {s:Shared}(hl:s.heap.IsTuple l items)(hu:A.units<cLine)(ry:RelV y u)(fy:v7 y=true):RcAt A s u (.ref l) false:=by
 cases y with
 |non=>cases ry;exact RcAt.none_tuple hl hu
 |bl a=>cases ry;exact RcAt.bool_tuple a hl hu
 |int a=>obtain ⟨t1,rfl⟩:=ry;exact RcAt.int_tuple a t1 hl hu
 |str a=>obtain ⟨t1,rfl⟩:=ry;exact RcAt.str_tuple a t1 hl hu
 |_=>exact absurd (show false=true from fy) yY
theorem JG {s:Shared}(hl:s.heap.IsTuple l items)(hu:A.units<cLine)(ry:RelV y u)(fy:v7 y=true):RcAt A s (.ref l) u false:=by
 cases y with
 |non=>cases ry;exact RcAt.tuple_none hl hu
 |bl a=>cases ry;exact RcAt.tuple_bool a hl hu
 |int a=>obtain ⟨t1,rfl⟩:=ry;exact RcAt.tuple_int a t1 hl hu
 |str a=>obtain ⟨t1,rfl⟩:=ry;exact RcAt.tuple_str a t1 hl hu
 |_=>exact absurd (show false=true from fy) yY
theorem JH {s:Shared}(hl:s.heap.IsList l items)(hu:A.units<cLine)(ry:RelV y u)(fy:v7 y=true):RcNeAt A s u (.ref l) true:=by
 cases y with
 |non=>cases ry;exact RcNeAt.none_list hl hu
 |bl a=>cases ry;exact RcNeAt.bool_list a hl hu
 |int a=>obtain ⟨t1,rfl⟩:=ry;exact RcNeAt.int_list a t1 hl hu
 |str a=>obtain ⟨t1,rfl⟩:=ry;exact RcNeAt.str_list a t1 hl hu
 |_=>exact absurd (show false=true from fy) yY
theorem JJ {s:Shared}(hl:s.heap.IsList l items)(hu:A.units<cLine)(ry:RelV y u)(fy:v7 y=true):RcNeAt A s (.ref l) u true:=by
 cases y with
 |non=>cases ry;exact RcNeAt.list_none hl hu
 |bl a=>cases ry;exact RcNeAt.list_bool a hl hu
 |int a=>obtain ⟨t1,rfl⟩:=ry;exact RcNeAt.list_int a t1 hl hu
 |str a=>obtain ⟨t1,rfl⟩:=ry;exact RcNeAt.list_str a t1 hl hu
 |_=>exact absurd (show false=true from fy) yY
theorem JI {s:Shared}(hl:s.heap.IsTuple l items)(hu:A.units<cLine)(ry:RelV y u)(fy:v7 y=true):RcNeAt A s u (.ref l) true:=by
 cases y with
 |non=>cases ry;exact RcNeAt.none_tuple hl hu
 |bl a=>cases ry;exact RcNeAt.bool_tuple a hl hu
 |int a=>obtain ⟨t1,rfl⟩:=ry;exact RcNeAt.int_tuple a t1 hl hu
 |str a=>obtain ⟨t1,rfl⟩:=ry;exact RcNeAt.str_tuple a t1 hl hu
 |_=>exact absurd (show false=true from fy) yY
theorem JK {s:Shared}(hl:s.heap.IsTuple l items)(hu:A.units<cLine)(ry:RelV y u)(fy:v7 y=true):RcNeAt A s (.ref l) u true:=by
 cases y with
 |non=>cases ry;exact RcNeAt.tuple_none hl hu
 |bl a=>cases ry;exact RcNeAt.tuple_bool a hl hu
 |int a=>obtain ⟨t1,rfl⟩:=ry;exact RcNeAt.tuple_int a t1 hl hu
 |str a=>obtain ⟨t1,rfl⟩:=ry;exact RcNeAt.tuple_str a t1 hl hu
 |_=>exact absurd (show false=true from fy) yY
section
variable {X:Cx}{pins:List (Addr×Obj)}{U:St}{H:Hp}{s:Shared}
theorem zD (I:Inv X pins U H s):∀(n:Nat){x:V}{b:Bool},EqP X.K H n x x b->b=true
 |0,x,b,h=>by obtain ⟨h1,_,rfl⟩:=h;exact zE h1
 |n+1,x,b,h=>by
  rcases h with ⟨h1,_,rfl⟩|⟨a,c,xs,ys,rfl,e2,p1,p2,h⟩|⟨a,c,xs,ys,rfl,e2,p1,p2,e,he,rfl⟩|⟨a,c,xs,ys,rfl,e2,p1,p2,_⟩|⟨a,c,xs,ys,rfl,e2,p1,p2,_⟩|⟨c,ys,f,rfl,_⟩|⟨c,ys,f,rfl,_⟩
  ·exact zE h1
  ·cases e2;cases I.list_inj p1 p2;rcases h with ⟨h,_⟩|⟨_,e,he,rfl⟩
   ·exact absurd rfl h
   ·rw [yb];exact λj hj=>zD I n (he j (uX.mp hj) (uX.mp hj))
  ·cases e2;cases I.tuple_inj p1 p2;rw [Nat.min_self,beq_self_eq_true,Bool.and_true,yb];exact λj hj=>zD I n (he j (uX.mp hj) (uX.mp hj))
  ·cases e2;obtain ⟨_,_,⟨o1,_,q1,c1,_⟩,_⟩:=I.list p1;obtain ⟨_,_,⟨o2,q2,c2,_⟩,_⟩:=I.tuple p2;rw [q1] at q2;cases q2;rw [c1] at c2;exact absurd c2 (by decide)
  ·cases e2;obtain ⟨_,_,⟨o2,q2,c2,_⟩,_⟩:=I.tuple p1;obtain ⟨_,_,⟨o1,_,q1,c1,_⟩,_⟩:=I.list p2;rw [q1] at q2;cases q2;rw [c1] at c2;exact absurd c2 (by decide)
  ·cases f
  ·cases f
theorem xj (I:Inv X pins U H s):∀(n:Nat)(A:Around){x y:V}{u v:Value}{b:Bool},A.units+n<cLine->EqP X.K H n x y b->RelV x u->RelV y v->EqAt A s u v b
 |0,A,x,y,u,v,b,hu,h,r1,r2=>by obtain ⟨h1,h2,rfl⟩:=h;exact vV r1 r2 h1 h2
 |n+1,A,x,y,u,v,b,hu,h,r1,r2=>by
  have h':=h;rcases h with ⟨h1,h2,rfl⟩|⟨a,c,xs,ys,rfl,rfl,p1,p2,h⟩|⟨a,c,xs,ys,rfl,rfl,p1,p2,e,he,rfl⟩|⟨a,c,xs,ys,rfl,rfl,p1,p2,rfl⟩|⟨a,c,xs,ys,rfl,rfl,p1,p2,rfl⟩|⟨c,ys,f,rfl,p,rfl⟩|⟨c,ys,f,rfl,p,rfl⟩
  ·exact vV r1 r2 h1 h2
  ·cases r1;cases r2;by_cases hac:a=c
   ·subst hac;have hb:=zD I (n+1) h';rw [hb];exact EqAt.same _
   obtain ⟨us,v1,q1,_⟩:=I.list p1;obtain ⟨ws,v2,q2,_⟩:=I.list p2;have l1:=v1.length;have l2:=v2.length;refine EqAt.of_refs hac ?_;rcases h with ⟨h,rfl⟩|⟨hl,e,he,rfl⟩
   ·exact RcAt.lists_lengths q1.isList q2.isList (by rw [yZ,yZ];simp;omega) (by omega)
   ·have q:=RcAt.lists (A:=A) (s:=s) q1.isList q2.isList (by rw [yZ,yZ];omega) (by omega) (e:=e) (λj j1 j2=>?_)
    ·rw [yZ,<- l1] at q;exact q
    ·have j1':j<us.length:=by simpa using j1
     have j2':j<ws.length:=by simpa using j2
     rw [yG,yG];exact xj I n A.in1 (by show A.units+1+n<cLine;omega) (he j (by omega) (by omega)) (n6 v1 j (by omega) j1') (n6 v2 j (by omega) j2')
  ·cases r1;cases r2;by_cases hac:a=c
   ·subst hac;have hb:=zD I (n+1) h';rw [hb];exact EqAt.same _
   obtain ⟨us,v1,q1,_⟩:=I.tuple p1;obtain ⟨ws,v2,q2,_⟩:=I.tuple p2;have l1:=v1.length;have l2:=v2.length;refine EqAt.of_refs hac ?_;have q:=RcAt.tuples (A:=A) (s:=s) q1 q2 (by omega) (e:=e) (λj j1 j2=>?_)
   ·rw [yZ,yZ,<- l1,<- l2] at q;exact q
   ·have j1':j<us.length:=by simpa using j1
    have j2':j<ws.length:=by simpa using j2
    rw [yG,yG];exact xj I n A.in1 (by show A.units+1+n<cLine;omega) (he j (by omega) (by omega)) (n6 v1 j (by omega) j1') (n6 v2 j (by omega) j2')
  ·cases r1;cases r2;obtain ⟨us,v1,q1,_⟩:=I.list p1;obtain ⟨ws,v2,q2,_⟩:=I.tuple p2;exact EqAt.list_tuple q1.isList q2 (by omega)
  ·cases r1;cases r2;obtain ⟨us,v1,q1,_⟩:=I.tuple p1;obtain ⟨ws,v2,q2,_⟩:=I.list p2;exact EqAt.tuple_list q1 q2.isList (by omega)
  ·cases r2;rcases p with p|p
   ·obtain ⟨us,v1,q1,_⟩:=I.list p;exact Xo q1.isList (by omega) r1 f
   ·obtain ⟨us,v1,q1,_⟩:=I.tuple p;exact Xp q1 (by omega) r1 f
  ·cases r1;rcases p with p|p
   ·obtain ⟨us,v1,q1,_⟩:=I.list p;exact Xq q1.isList (by omega) r2 f
   ·obtain ⟨us,v1,q1,_⟩:=I.tuple p;exact Xr q1 (by omega) r2 f
theorem rc_at (I:Inv X pins U H s)(hu:A.units+n<cLine)(h:EqP X.K H n x y b)(r1:RelV x u)(r2:RelV y v):RcAt A s u v b:=by
 cases n with
 |zero=>obtain ⟨h1,h2,rfl⟩:=h;exact wZ r1 r2 h1 h2
 |succ n =>
  rcases h with ⟨h1,h2,rfl⟩|⟨a,c,xs,ys,rfl,rfl,p1,p2,h⟩|⟨a,c,xs,ys,rfl,rfl,p1,p2,e,he,rfl⟩|⟨a,c,xs,ys,rfl,rfl,p1,p2,rfl⟩|⟨a,c,xs,ys,rfl,rfl,p1,p2,rfl⟩|⟨c,ys,f,rfl,p,rfl⟩|⟨c,ys,f,rfl,p,rfl⟩
  ·exact wZ r1 r2 h1 h2
  ·cases r1;cases r2;obtain ⟨us,v1,q1,_⟩:=I.list p1;obtain ⟨ws,v2,q2,_⟩:=I.list p2;have l1:=v1.length;have l2:=v2.length;rcases h with ⟨h,rfl⟩|⟨hl,e,he,rfl⟩
   ·exact RcAt.lists_lengths q1.isList q2.isList (by rw [yZ,yZ];simp;omega) (by omega)
   ·have q:=RcAt.lists (A:=A) (s:=s) q1.isList q2.isList (by rw [yZ,yZ];omega) (by omega) (e:=e) (λj j1 j2=>?_)
    ·rw [yZ,<- l1] at q;exact q
    ·have j1':j<us.length:=by simpa using j1
     have j2':j<ws.length:=by simpa using j2
     rw [yG,yG];exact xj I n A.in1 (by show A.units+1+n<cLine;omega) (he j (by omega) (by omega)) (n6 v1 j (by omega) j1') (n6 v2 j (by omega) j2')
  ·cases r1;cases r2;obtain ⟨us,v1,q1,_⟩:=I.tuple p1;obtain ⟨ws,v2,q2,_⟩:=I.tuple p2;have l1:=v1.length;have l2:=v2.length;have q:=RcAt.tuples (A:=A) (s:=s) q1 q2 (by omega) (e:=e) (λj j1 j2=>?_)
   ·rw [yZ,yZ,<- l1,<- l2] at q;exact q
   ·have j1':j<us.length:=by simpa using j1
    have j2':j<ws.length:=by simpa using j2
    rw [yG,yG];exact xj I n A.in1 (by show A.units+1+n<cLine;omega) (he j (by omega) (by omega)) (n6 v1 j (by omega) j1') (n6 v2 j (by omega) j2')
  ·cases r1;cases r2;obtain ⟨us,v1,q1,_⟩:=I.list p1;obtain ⟨ws,v2,q2,_⟩:=I.tuple p2;exact RcAt.list_tuple q1.isList q2 (by omega)
  ·cases r1;cases r2;obtain ⟨us,v1,q1,_⟩:=I.tuple p1;obtain ⟨ws,v2,q2,_⟩:=I.list p2;exact RcAt.tuple_list q1 q2.isList (by omega)
  ·cases r2;rcases p with p|p
   ·obtain ⟨us,v1,q1,_⟩:=I.list p;exact JD q1.isList (by omega) r1 f
   ·obtain ⟨us,v1,q1,_⟩:=I.tuple p;exact JE q1 (by omega) r1 f
  ·cases r1;rcases p with p|p
   ·obtain ⟨us,v1,q1,_⟩:=I.list p;exact JF q1.isList (by omega) r2 f
   ·obtain ⟨us,v1,q1,_⟩:=I.tuple p;exact JG q1 (by omega) r2 f
theorem JL (I:Inv X pins U H s)(hu:A.units+n<cLine)(h:EqP X.K H n x y b)(r1:RelV x u)(r2:RelV y v):RcNeAt A s u v (!b):=by
 cases n with
 |zero=>obtain ⟨h1,h2,rfl⟩:=h;exact Qa r1 r2 h1 h2
 |succ n =>
  rcases h with ⟨h1,h2,rfl⟩|⟨a,c,xs,ys,rfl,rfl,p1,p2,h⟩|⟨a,c,xs,ys,rfl,rfl,p1,p2,e,he,rfl⟩|⟨a,c,xs,ys,rfl,rfl,p1,p2,rfl⟩|⟨a,c,xs,ys,rfl,rfl,p1,p2,rfl⟩|⟨c,ys,f,rfl,p,rfl⟩|⟨c,ys,f,rfl,p,rfl⟩
  ·exact Qa r1 r2 h1 h2
  ·cases r1;cases r2;obtain ⟨us,v1,q1,_⟩:=I.list p1;obtain ⟨ws,v2,q2,_⟩:=I.list p2;have l1:=v1.length;have l2:=v2.length;rcases h with ⟨h,rfl⟩|⟨hl,e,he,rfl⟩
   ·exact RcNeAt.lists_lengths q1.isList q2.isList (by rw [yZ,yZ];simp;omega) (by omega)
   ·have q:=RcNeAt.lists (A:=A) (s:=s) q1.isList q2.isList (by rw [yZ,yZ];omega) (by omega) (e:=e) (λj j1 j2=>?_)
    ·rw [yZ,<- l1] at q;exact q
    ·have j1':j<us.length:=by simpa using j1
     have j2':j<ws.length:=by simpa using j2
     rw [yG,yG];exact xj I n A.in1 (by show A.units+1+n<cLine;omega) (he j (by omega) (by omega)) (n6 v1 j (by omega) j1') (n6 v2 j (by omega) j2')
  ·cases r1;cases r2;obtain ⟨us,v1,q1,_⟩:=I.tuple p1;obtain ⟨ws,v2,q2,_⟩:=I.tuple p2;have l1:=v1.length;have l2:=v2.length;have q:=RcNeAt.tuples (A:=A) (s:=s) q1 q2 (by omega) (e:=e) (λj j1 j2=>?_)
   ·rw [yZ,yZ,<- l1,<- l2] at q;exact q
   ·have j1':j<us.length:=by simpa using j1
    have j2':j<ws.length:=by simpa using j2
    rw [yG,yG];exact xj I n A.in1 (by show A.units+1+n<cLine;omega) (he j (by omega) (by omega)) (n6 v1 j (by omega) j1') (n6 v2 j (by omega) j2')
  ·cases r1;cases r2;obtain ⟨us,v1,q1,_⟩:=I.list p1;obtain ⟨ws,v2,q2,_⟩:=I.tuple p2;exact RcNeAt.list_tuple q1.isList q2 (by omega)
  ·cases r1;cases r2;obtain ⟨us,v1,q1,_⟩:=I.tuple p1;obtain ⟨ws,v2,q2,_⟩:=I.list p2;exact RcNeAt.tuple_list q1 q2.isList (by omega)
  ·cases r2;rcases p with p|p
   ·obtain ⟨us,v1,q1,_⟩:=I.list p;exact JH q1.isList (by omega) r1 f
   ·obtain ⟨us,v1,q1,_⟩:=I.tuple p;exact JI q1 (by omega) r1 f
  ·cases r1;rcases p with p|p
   ·obtain ⟨us,v1,q1,_⟩:=I.list p;exact JJ q1.isList (by omega) r2 f
   ·obtain ⟨us,v1,q1,_⟩:=I.tuple p;exact JK q1 (by omega) r2 f
def rEqD (K:Fg)(n:Nat)(neg:Bool):R2:=λx y H Q=>∃ b,EqP K H n x y b/\Q (.bl (if neg then !b else b)) H
theorem ZR (hu:X.A.units+n<cLine)(hK:X.K=K):OpR X (compareOp .Eq) (rEqD K n false):=by subst hK;intro pins s U H x y v u Q I rx ry h;obtain ⟨b,h,q⟩:=h;exact rc_at I hu h rx ry X.prog X.w X.xe _ ⟨.bl b,H,I,rfl,q⟩
theorem jr (hu:X.A.units+n<cLine)(hK:X.K=K):OpR X (compareOp .NotEq) (rEqD K n true):=by subst hK;intro pins s U H x y v u Q I rx ry h;obtain ⟨b,h,q⟩:=h;exact JL I hu h rx ry X.prog X.w X.xe _ ⟨.bl (!b),H,I,rfl,q⟩
theorem hu6 {k:Nat}(hr:Room k A):A.units+6<cLine:=by have:=hr.units;omega
end
end L2
namespace L2
open PySem PySem.Spec PyProof.Rows
section
variable {X:Cx}{K:Fg}
def rAddS:R2:=λx y H Q=>∃ i j,x = .str i/\y = .str j/\i.length+j.length<=sizeLine/\Q (.str (i++j)) H
def jE (K:Fg):R2:=λx y H Q=>(rI0 λi j=> .int (i+j)) x y H Q∨rAddS x y H Q∨zO K x y H Q∨wS K x y H Q
theorem n5 (h:X.K=K):OpR X (binaryOp .Add) (jE K):=by subst h;exact op_add.or (op_add_str.or (op_catL.or ZQ))
theorem Zd (h:X.K=K):IxR X (rIx K):=by subst h;exact Zc
def rLen (K:Fg):List V->Hp->VK->Prop:=λxs H Q=>(∃ x n,xs=[x]/\LenV K x H n/\Q (.int n) H)∨∃ a kvs,xs=[V.ref a]/\H a=some (.dK kvs)/\Q (.int kvs.length) H
theorem xg (h:X.K=K):CallR X (.builtin "len") (rLen K):=by subst h;exact CallR.or (f:= .builtin "len") QX QY
theorem Jz {a:Expr}{ta:TE}(h:X.K=K)(ha:PE X a ta)(he:∀ whole,isTrue a X.env whole=(do let v <- whole;standAt a.pos;holding [v] (truthy v))):PT X a (λU H Q=>ta U H λx H'=>∃ k,TruV K x H' k/\Q k H'):=by subst h;exact JA ha he
theorem Jn {tg l:Expr}{tl:TE}(hK:X.K=K)(hl:PE X l tl):PI X tg l (iTup K tl):=by subst hK;exact Jm hl
def wT (K:Fg):List V->Hp->VK->Prop:=λxs H Q=>∃ p ys,xs=[.ref p]/\(SqL K H p ys∨SqT K H p ys)/\∀ l,H l=none->Q (.ref l) (z6 H l (.lst ys))
theorem vG (h:X.K=K):CallR X (.type "list") (wT K):=by subst h;exact Xa
def rIsi (K:Fg):List V->Hp->VK->Prop:=λxs H Q=>∃ x n T b,xs=[x,.ty n]/\d4 K H x (.type T)/\tyB T n=some b/\Q (.bl b) H
theorem vE (h:X.K=K):CallR X (.builtin "isinstance") (rIsi K):=by subst h;exact QW
def wR (K:Fg):List V->Hp->VK->Prop:=λxs H Q=>∃(a:Addr)(bs:List Bool),xs=[.ref a]/\SqL K H a (bs.map V.bl)/\Q (.bl (bs.all id)) H
theorem QU (hc:X.calm=true)(h:X.K=K):CallR X (.builtin "all") (wR K):=by subst h;exact QT hc
def wW (K:Fg):List V->Hp->VK->Prop:=λxs H Q=>∃(a:Addr)(ns:List Int),xs=[.ref a]/\SqL K H a (ns.map V.int)/\Q (.int ns.sum) H
theorem Xe (hc:X.calm=true)(h:X.K=K):CallR X (.builtin "sum") (wW K):=by subst h;exact vH hc
def wU:List V->Hp->VK->Prop:=λxs H Q=>∃ i j,xs=[.int i,.int j]/\Q (.int (if j > i then j else i)) H
theorem Xc (hc:X.calm=true):CallR X (.builtin "max") wU:=Xb hc
theorem QS:bootBuiltins "max"=some (.builtin "max"):=by decide +kernel
end
section
variable {X:Cx}{K:Fg}{o e:Expr}{es:List Expr}{to:TE}{t:TA}{name:Str}{apos cpos:Pos}{T id:String}{r:V->List V->Hp->VK->Prop}
theorem ZV (hK:X.K=K)(pa:PlainAttrs T)(slot:Slot T name id)(hty:typeOf (.builtin id)=pure (.type "method_descriptor"))(hm:MtR X id r)(ho:PE X o to)(ha:PA X (e::es) t)(hbase:attributeBase o name X.env (eval o X.env)=eval o X.env:=by rfl)(hfew:((backTo cpos (starEach (e::es) X.env)).all (λx=>!x.1)&&(backToKw cpos (keywordEach [] X.env)).all (λx=>x.1.isSome)&&decide ((e::es).length+([]:List Keyword).length+(if ([]:List Keyword).isEmpty then 0 else 1)<30))=true:=by rfl)(hline:(apos.endLine==cpos.line)=true:=by rfl)(hs:starEach (e::es) X.env=(false,eval e X.env)::starEach es X.env:=by rfl)(hplain:(backTo cpos (starEach es X.env)).any (·.1)=false:=by rfl):PE X (.Call (.Attribute o name apos) (e::es) [] cpos) (tBM K T r to t):=by subst hK;exact pe_bm pa slot hty hm ho ha hbase hfew hline hs hplain
end
end L2
namespace Mi
open PySem L2
variable{H H' H0 Hb Hs Hs' Hs0:Hp}{u v:V}{ks:List u6}{vs:List V}{p:Addr}{o:HO}{U σ':St}{tb te:TE}{r:R2}{ta:TA}{n:Nat}{K:Fg}{t:TT}{E:XK}{ts:List Nat}{lo:Int}{wi:TI}{tg:TG}
inductive PV where
 |at (v:V)|tup (xs:List PV)|lst (xs:List PV)|dk (ks:List u6) (xs:List PV)|fk (ks:List u6) (xs:List PV)|ob (C:Addr) (ns:List Str) (xs:List PV)|op (φ:Hp->V->Prop)
variable{xs:List PV}{x y:PV}{g:PV->PV->Option PV}{m:List PV->Option PV}
mutual
def Rep (H:Hp):PV->V->Prop
 | .at u,v=>v=u
 | .tup xs,v=>∃ a vs,v = .ref a/\H a=some (.tup vs)/\Reps H xs vs
 | .lst xs,v=>∃ a vs,v = .ref a/\H a=some (.lst vs)/\Reps H xs vs
 | .dk ks xs,v=>∃ a kvs,v = .ref a/\H a=some (.dK kvs)/\kvs.map (·.1)=ks/\Reps H xs (kvs.map (·.2))
 | .fk ks xs,v=>∃ a o kvs,v = .ref a/\H a=some (.frz o (.dK kvs))/\kvs.map (·.1)=ks/\Reps H xs (kvs.map (·.2))
 | .ob C ns xs,v=>∃ a dx fs,v = .ref a/\H a=some (.ins C dx fs)/\fs.map (·.1)=ns/\Reps H xs (fs.map (·.2))
 | .op φ,v=>∃ H',Same H' H/\φ H' v
def Reps (H:Hp):List PV->List V->Prop
 |[],vs=>vs=[]
 |x::xs,vs=>∃ v r,vs=v::r/\Rep H x v/\Reps H xs r
end
mutual
theorem Rep.mono {H H':Hp}(g:Same H H'):∀{x:PV}{v:V},Rep H x v->Rep H' x v
 | .at u,v,h=>by unfold Rep at h ⊢;exact h
 | .tup xs,v,h=>by unfold Rep at h ⊢;obtain ⟨a,vs,e,p,r⟩:=h;exact ⟨a,vs,e,g _ _ p,Reps.mono g r⟩
 | .lst xs,v,h=>by unfold Rep at h ⊢;obtain ⟨a,vs,e,p,r⟩:=h;exact ⟨a,vs,e,g _ _ p,Reps.mono g r⟩
 | .dk ks xs,v,h=>by unfold Rep at h ⊢;obtain ⟨a,vs,e,p,q,r⟩:=h;exact ⟨a,vs,e,g _ _ p,q,Reps.mono g r⟩
 | .fk ks xs,v,h=>by unfold Rep at h ⊢;obtain ⟨a,o,vs,e,p,q,r⟩:=h;exact ⟨a,o,vs,e,g _ _ p,q,Reps.mono g r⟩
 | .ob C ns xs,v,h=>by unfold Rep at h ⊢;obtain ⟨a,dx,vs,e,p,q,r⟩:=h;exact ⟨a,dx,vs,e,g _ _ p,q,Reps.mono g r⟩
 | .op φ,v,h=>by unfold Rep at h ⊢;obtain ⟨H1,s,p⟩:=h;exact ⟨H1,s.trans g,p⟩
theorem Reps.mono {H H':Hp}(g:Same H H'):∀{xs:List PV}{vs:List V},Reps H xs vs->Reps H' xs vs
 |[],vs,h=>by unfold Reps at h ⊢;exact h
 |x::xs,vs,h=>by unfold Reps at h ⊢;obtain ⟨v,r,e,p,q⟩:=h;exact ⟨v,r,e,Rep.mono g p,Reps.mono g q⟩
end
theorem rep_at :Rep H (.at u) v↔v=u:=by unfold Rep;exact Iff.rfl
theorem rep_tup :Rep H (.tup xs) v↔∃ a vs,v = .ref a/\H a=some (.tup vs)/\Reps H xs vs:=by unfold Rep;exact Iff.rfl
theorem rep_lst :Rep H (.lst xs) v↔∃ a vs,v = .ref a/\H a=some (.lst vs)/\Reps H xs vs:=by unfold Rep;exact Iff.rfl
theorem rep_dk :Rep H (.dk ks xs) v↔∃ a kvs,v = .ref a/\H a=some (.dK kvs)/\kvs.map (·.1)=ks/\Reps H xs (kvs.map (·.2)):=by unfold Rep;exact Iff.rfl
theorem rep_ob {C:Addr}{ns:List Str}:Rep H (.ob C ns xs) v↔∃ a dx fs,v = .ref a/\H a=some (.ins C dx fs)/\fs.map (·.1)=ns/\Reps H xs (fs.map (·.2)):=by unfold Rep;exact Iff.rfl
theorem rep_op {φ:Hp->V->Prop}:Rep H (.op φ) v↔∃ H',Same H' H/\φ H' v:=by unfold Rep;exact Iff.rfl
theorem reps_nil :Reps H [] vs↔vs=[]:=by unfold Reps;exact Iff.rfl
theorem reps_cons :Reps H (x::xs) vs↔∃ v r,vs=v::r/\Rep H x v/\Reps H xs r:=by
 constructor
 ·intro h;unfold Reps at h;exact h
 ·intro h;unfold Reps;exact h
theorem Reps.nil :Reps H [] []:=reps_nil.mpr rfl
theorem Reps.cons (p:Rep H x v)(q:Reps H xs vs):Reps H (x::xs) (v::vs):=reps_cons.mpr ⟨v,vs,rfl,p,q⟩
theorem Reps.length {H:Hp}:∀{xs:List PV}{vs:List V},Reps H xs vs->vs.length=xs.length
 |[],vs,h=>by rw [reps_nil.mp h];rfl
 |x::xs,vs,h=>by obtain ⟨v,r,rfl,_,q⟩:=reps_cons.mp h;rw [yC,yC,Reps.length q]
theorem Reps.append {H:Hp}:∀{xs ys:List PV}{vs ws:List V},Reps H xs vs->Reps H ys ws->Reps H (xs++ys) (vs++ws)
 |[],ys,vs,ws,h,k=>by rw [reps_nil.mp h];exact k
 |x::xs,ys,vs,ws,h,k=>by obtain ⟨v,r,rfl,p,q⟩:=reps_cons.mp h;exact .cons p (Reps.append q k)
theorem Reps.one (p:Rep H x v):Reps H [x] [v]:= .cons p .nil
theorem Reps.get {H:Hp}:∀{xs:List PV}{vs:List V}{i:Nat}{x:PV},Reps H xs vs->xs[i]?=some x->∃ v,vs[i]?=some v/\Rep H x v
 |[],_,i,x,_,e=>by simp at e
 |y::xs,vs,0,x,h,e=>by
  obtain ⟨v,r,rfl,p,q⟩:=reps_cons.mp h;simp at e;subst e;exact ⟨v,rfl,p⟩
 |y::xs,vs,i+1,x,h,e=>by
  obtain ⟨v,r,rfl,p,q⟩:=reps_cons.mp h;obtain ⟨w,e1,e2⟩:=Reps.get (i:=i) (x:=x) q (by simpa using e);exact ⟨w,by simpa using e1,e2⟩
theorem Reps.take {H:Hp}:∀(n:Nat){xs:List PV}{vs:List V},Reps H xs vs->Reps H (xs.take n) (vs.take n)
 |0,_,_,_=>by rw [List.take_zero,List.take_zero];exact .nil
 |n+1,[],vs,h=>by rw [reps_nil.mp h];exact .nil
 |n+1,x::xs,vs,h=>by
  obtain ⟨v,r,rfl,p,q⟩:=reps_cons.mp h;exact .cons p (Reps.take n q)
theorem Reps.drop {H:Hp}:∀(n:Nat){xs:List PV}{vs:List V},Reps H xs vs->Reps H (xs.drop n) (vs.drop n)
 |0,_,_,h=>h
 |n+1,[],vs,h=>by rw [reps_nil.mp h];exact .nil
 |n+1,x::xs,vs,h=>by
  obtain ⟨v,r,rfl,p,q⟩:=reps_cons.mp h;exact Reps.drop n q
theorem Reps.ats {H:Hp}:∀{us vs:List V},Reps H (us.map .at) vs->vs=us
 |[],vs,h=>reps_nil.mp h
 |u::us,vs,h=>by
  obtain ⟨v,r,rfl,p,q⟩:=reps_cons.mp h;rw [rep_at.mp p,Reps.ats q]
structure Ext (Hs H Hs' H':Hp):Prop where
 s1:Same Hs Hs'
 s2:Same H H'
 s3:Same Hs' H'
 s4:∀ b,H b≠none->Hs b=none->Hs' b=none
theorem Qj (g:Same H H'){b:Addr}(h:H b≠none):H' b≠none:=λz=>h (g.free z)
theorem Ext.refl (s:Same Hs H):Ext Hs H Hs H:=⟨.refl _,.refl _,s,λ_ _ z=>z⟩
theorem Ext.trans {A B A1 B1 A2 B2:Hp}(x:Ext A B A1 B1)(y:Ext A1 B1 A2 B2):Ext A B A2 B2:=⟨x.s1.trans y.s1,x.s2.trans y.s2,y.s3,λb h z=>y.s4 b (Qj x.s2 h) (x.s4 b h z)⟩
theorem Ext.new (s:Same Hs H)(h:H p=none):Ext Hs H (z6 Hs p o) (z6 H p o):=by
 have hs:Hs p=none:=s.free h;refine ⟨λb u e=>?_,λb u e=>?_,λb u e=>?_,λb e z=>?_⟩
 ·rw [z5 (y6 e hs)];exact e
 ·rw [z5 (y6 e h)];exact e
 ·by_cases hb:b=p
  ·subst hb;rw [j7] at e ⊢;exact e
  ·rw [z5 hb] at e ⊢;exact s _ _ e
 ·have hb:b≠p:=λq=>e (by rw [q];exact h);rw [z5 hb];exact z
theorem Ext.newO (s:Same Hs H)(h:H p=none):Ext Hs H Hs (z6 H p o) :=
 ⟨.refl _,λb u e=>by rw [z5 (y6 e h)];exact e,λb u e=>by rw [z5 (y6 (s _ _ e) h)];exact s _ _ e,λ_ _ z=>z⟩
def Top (Hs H:Hp)(a:Addr):PV->Prop
 | .lst xs=>∃ vs,H a=some (.lst vs)/\Reps Hs xs vs
 | .dk ks xs=>∃ kvs,H a=some (.dK kvs)/\kvs.map (·.1)=ks/\Reps Hs xs (kvs.map (·.2))
 | .ob C ns xs=>∃ dx fs,H a=some (.ins C dx fs)/\fs.map (·.1)=ns/\Reps Hs xs (fs.map (·.2))
 |_=>False
theorem Top.there {a:Addr}:∀{x:PV},Top Hs H a x->H a≠none
 | .lst _,h,z=>by obtain ⟨vs,e,_⟩:=h;rw [e] at z;cases z
 | .dk _ _,h,z=>by obtain ⟨vs,e,_⟩:=h;rw [e] at z;cases z
 | .ob _ _ _,h,z=>by obtain ⟨dx,vs,e,_⟩:=h;rw [e] at z;cases z
theorem Top.mono {a:Addr}(g:Same Hs Hs')(e:∀ o,H a=some o->H' a=some o):∀{x:PV},Top Hs H a x->Top Hs' H' a x
 | .lst _,h=>by obtain ⟨vs,q,r⟩:=h;exact ⟨vs,e _ q,r.mono g⟩
 | .dk _ _,h=>by obtain ⟨vs,q,k,r⟩:=h;exact ⟨vs,e _ q,k,r.mono g⟩
 | .ob _ _ _,h=>by obtain ⟨dx,vs,q,k,r⟩:=h;exact ⟨dx,vs,e _ q,k,r.mono g⟩
theorem Top.rep {a:Addr}:∀{x:PV},Top Hs H a x->Hs a=none->∃ o,H a=some o/\Rep (z6 Hs a o) x (.ref a)
 | .lst _,h,n=>by
  obtain ⟨vs,q,r⟩:=h;exact ⟨_,q,rep_lst.mpr ⟨a,vs,rfl,j7,r.mono λb u e=>by rw [z5 (y6 e n)];exact e⟩⟩
 | .dk _ _,h,n=>by
  obtain ⟨vs,q,k,r⟩:=h;exact ⟨_,q,rep_dk.mpr ⟨a,vs,rfl,j7,k,r.mono λb u e=>by rw [z5 (y6 e n)];exact e⟩⟩
 | .ob _ _ _,h,n=>by
  obtain ⟨dx,vs,q,k,r⟩:=h;exact ⟨_,q,rep_ob.mpr ⟨a,dx,vs,rfl,j7,k,r.mono λb u e=>by rw [z5 (y6 e n)];exact e⟩⟩
theorem Ext.share {a:Addr}(x:Ext Hs H Hs' H')(h:H a=none)(n:Hs' a=none)(e:H' a=some o):Ext Hs H (z6 Hs' a o) H':=by
 refine ⟨λb u q=>?_,x.s2,λb u q=>?_,λb q z=>?_⟩
 ·rw [z5 (y6 (x.s1 _ _ q) n)];exact x.s1 _ _ q
 ·by_cases hb:b=a
  ·subst hb;rw [j7] at q;cases q;exact e
  ·rw [z5 hb] at q;exact x.s3 _ _ q
 ·have hb:b≠a:=λr=>q (by rw [r];exact h);rw [z5 hb];exact x.s4 b q z
def RepB (Hs H:Hp)(x:PV)(v:V):Prop:=Rep Hs x v∨∃ a,v = .ref a/\Hs a=none/\Top Hs H a x
theorem RepB.ext (e:Ext Hs H Hs' H')(h:RepB Hs H x v):RepB Hs' H' x v:=by
 rcases h with h|⟨a,rfl,n,t⟩
 ·exact .inl (h.mono e.s1)
 ·exact .inr ⟨a,rfl,e.s4 a t.there n,t.mono e.s1 λo q=>e.s2 _ _ q⟩
inductive MSlot where
 |no|sh (x:PV)|ow (x:PV)|bo (x:PV)
abbrev ME:=List MSlot
variable{ε:ME}
def Own (H0 Hs H:Hp)(a:Addr)(x:PV):Prop:=H0 a=none/\Hs a=none/\Top Hs H a x
structure RS (Hs0 H0 Hs H:Hp)(U:St)(ε:ME):Prop where
 ext:Ext Hs0 H0 Hs H
 sh:∀(i:Nat)(x:PV),ε[i]?=some (.sh x)->∃ v,U[i]?=some (some v)/\Rep Hs x v
 ow:∀(i:Nat)(x:PV),ε[i]?=some (.ow x)->∃ a,U[i]?=some (some (.ref a))/\Own H0 Hs H a x
 nd:∀(i j:Nat)(x y:PV)(a:Addr),ε[i]?=some (.ow x)->ε[j]?=some (.ow y)->U[i]?=some (some (.ref a))->U[j]?=some (some (.ref a))->i=j
 len:U.length=ε.length
 bo:∀(i:Nat)(x:PV),ε[i]?=some (.bo x)->∃ v,U[i]?=some (some v)/\(Rep Hs x v∨∃ a,v = .ref a/\H0 a≠none/\Hs a=none/\Top Hs H a x)
section
variable {Hs0 H0 Hs H Hs' H':Hp}{U:St}{ε:ME}
theorem RS.go (r:RS Hs0 H0 Hs H U ε)(e:Ext Hs H Hs' H'):RS Hs0 H0 Hs' H' U ε where
 ext:=r.ext.trans e
 sh:=λi x q=>by obtain ⟨v,a,b⟩:=r.sh i x q;exact ⟨v,a,b.mono e.s1⟩
 ow:=λi x q=>by
  obtain ⟨a,b,n0,n,t⟩:=r.ow i x q;exact ⟨a,b,n0,e.s4 a t.there n,t.mono e.s1 λo z=>e.s2 _ _ z⟩
 nd:=r.nd
 len:=r.len
 bo:=λi x q=>by
  obtain ⟨v,b,h|⟨a,rfl,n0,n,t⟩⟩:=r.bo i x q
  ·exact ⟨v,b,.inl (h.mono e.s1)⟩
  ·exact ⟨_,b,.inr ⟨a,rfl,n0,e.s4 a t.there n,t.mono e.s1 λo z=>e.s2 _ _ z⟩⟩
theorem RS.sub (r:RS Hs0 H0 Hs H U ε):Same Hs H:=r.ext.s3
theorem RS.rebase (r:RS Hs0 H0 Hs H U ε):RS Hs H0 Hs H U ε:=⟨⟨.refl _,r.ext.s2,r.ext.s3,λ_ _ z=>z⟩,r.sh,r.ow,r.nd,r.len,r.bo⟩
theorem Ext.unbase (r:Ext Hs0 H0 Hb H)(e:Ext Hb H0 Hs' H'):Ext Hs0 H0 Hs' H':=⟨r.s1.trans e.s1,e.s2,e.s3,λb h z=>e.s4 b h (r.s4 b h z)⟩
theorem RS.unbase {ε':ME}(r:Ext Hs0 H0 Hb H)(e:RS Hb H0 Hs' H' σ' ε'):RS Hs0 H0 Hs' H' σ' ε':=⟨r.unbase e.ext,e.sh,e.ow,e.nd,e.len,e.bo⟩
theorem RS.put (r:RS Hs0 H0 Hs H U ε){i:Nat}(h:Rep Hs x v):RS Hs0 H0 Hs H (U.set i (some v)) (ε.set i (.sh x)) where
 ext:=r.ext
 sh:=λj y q=>by
  rw [yS] at q ⊢;split at q
  ·rename_i hij;split at q
   ·rename_i hl;injection q with q;injection q with q;subst q;rw [if_pos hij,if_pos (by rw [r.len,hij];rw [hij] at hl;exact hl)];exact ⟨v,rfl,h⟩
   ·cases q
  ·rename_i hij;rw [if_neg hij];exact r.sh j y q
 ow:=λj y q=>by
  rw [yS] at q ⊢;split at q
  ·split at q<;>cases q
  ·rename_i hij;rw [if_neg hij];exact r.ow j y q
 nd:=λj k x y a h1 h2 h3 h4=>by
  rw [yS] at h1 h2 h3 h4;split at h1
  ·split at h1<;>cases h1
  ·rename_i hj;rw [if_neg hj] at h3;split at h2
   ·split at h2<;>cases h2
   ·rename_i hk;rw [if_neg hk] at h4;exact r.nd j k x y a h1 h2 h3 h4
 len:=by rw [yD,yD,r.len]
 bo:=λj y q=>by
  rw [yS] at q ⊢;split at q
  ·split at q<;>cases q
  ·rename_i hij;rw [if_neg hij];exact r.bo j y q
theorem RS.putO (r:RS Hs0 H0 Hs H U ε){i:Nat}{a:Addr}(h:Own H0 Hs H a x)(ne:∀(j:Nat)(y:PV),ε[j]?=some (.ow y)->U[j]?≠some (some (.ref a))):RS Hs0 H0 Hs H (U.set i (some (.ref a))) (ε.set i (.ow x)) where
 ext:=r.ext
 sh:=λj y q=>by
  rw [yS] at q ⊢;split at q
  ·split at q<;>cases q
  ·rename_i hij;rw [if_neg hij];exact r.sh j y q
 ow:=λj y q=>by
  rw [yS] at q ⊢;split at q
  ·rename_i hij;split at q
   ·rename_i hl;injection q with q;injection q with q;subst q;rw [if_pos hij,if_pos (by rw [r.len,hij];rw [hij] at hl;exact hl)];exact ⟨a,rfl,h⟩
   ·cases q
  ·rename_i hij;rw [if_neg hij];exact r.ow j y q
 nd:=λj k x' y b h1 h2 h3 h4=>by
  rw [yS] at h1 h2 h3 h4;split at h1
  ·rename_i hj;rw [if_pos hj] at h3;split at h1
   ·rename_i hl;rw [if_pos (by rw [r.len];exact hl)] at h3;injection h3 with h3;injection h3 with h3;injection h3 with h3;subst h3;split at h2
    ·rename_i hk;exact hj.symm.trans hk
    ·rename_i hk;rw [if_neg hk] at h4;exact absurd h4 (ne k y h2)
   ·cases h1
  ·rename_i hj;rw [if_neg hj] at h3;split at h2
   ·rename_i hk;rw [if_pos hk] at h4;split at h2
    ·rename_i hl;rw [if_pos (by rw [r.len];exact hl)] at h4;injection h4 with h4;injection h4 with h4;injection h4 with h4;subst h4;exact absurd h3 (ne j x' h1)
    ·cases h2
   ·rename_i hk;rw [if_neg hk] at h4;exact r.nd j k x' y b h1 h2 h3 h4
 len:=by rw [yD,yD,r.len]
 bo:=λj y q=>by
  rw [yS] at q ⊢;split at q
  ·split at q<;>cases q
  ·rename_i hij;rw [if_neg hij];exact r.bo j y q
theorem RS.change (r:RS Hs0 H0 Hs H U ε){i:Nat}{a:Addr}(hi:ε[i]?=some (.ow x))(ha:U[i]?=some (some (.ref a)))(t:Top Hs (z6 H a o) a y):RS Hs0 H0 Hs (z6 H a o) U (ε.set i (.ow y)):=by
 obtain ⟨b,hb,n0,n,tx⟩:=r.ow i x hi;rw [ha] at hb;injection hb with hb;injection hb with hb;injection hb with hb;subst hb;refine ⟨⟨r.ext.s1,λb u e=>?_,λb u e=>?_,r.ext.s4⟩,λj z q=>?_,λj z q=>?_,λj k z z' c h1 h2 h3 h4=>?_,by rw [yD,r.len],λj z q=>?_⟩
 ·rw [z5 (y6 e n0)];exact r.ext.s2 _ _ e
 ·rw [z5 (y6 e n)];exact r.ext.s3 _ _ e
 ·rw [yS] at q;split at q
  ·split at q<;>cases q
  ·exact r.sh j z q
 ·rw [yS] at q;split at q
  ·rename_i hij;split at q
   ·injection q with q;injection q with q;subst q;exact ⟨a,hij▸ha,n0,n,t⟩
   ·cases q
  ·rename_i hij;obtain ⟨c,hc,m0,m,tc⟩:=r.ow j z q;have hne:c≠a:=λe=>hij (r.nd i j x z a hi q ha (e▸hc));exact ⟨c,hc,m0,m,tc.mono (.refl _) λo' e=>by rw [z5 hne];exact e⟩
 ·have down:∀{m:Nat}{w:PV},(ε.set i (.ow y))[m]?=some (.ow w)->∃ w',ε[m]?=some (.ow w'):=by
   intro m w q;rw [yS] at q;split at q
   ·rename_i him;exact ⟨x,him▸hi⟩
   ·exact ⟨w,q⟩
  obtain ⟨w1,q1⟩:=down h1;obtain ⟨w2,q2⟩:=down h2;exact r.nd j k w1 w2 c q1 q2 h3 h4
 ·rw [yS] at q;split at q
  ·split at q<;>cases q
  ·obtain ⟨v,hv,h|⟨c,rfl,m0,m,tc⟩⟩:=r.bo j z q
   ·exact ⟨v,hv,.inl h⟩
   ·have hne:c≠a:=λe=>m0 (e▸n0);exact ⟨_,hv,.inr ⟨c,rfl,m0,m,tc.mono (.refl _) λo' e=>by rw [z5 hne];exact e⟩⟩
def fz (i:Nat)(ε:ME):ME:=match ε[i]? with
 |some (.ow x)=>ε.set i (.sh x)
 |_=>ε
theorem RS.freeze (r:RS Hs0 H0 Hs H U ε)(i:Nat):∃ Hs',Same Hs Hs'/\RS Hs0 H0 Hs' H U (fz i ε):=by
 unfold fz;split
 ·rename_i x hi;obtain ⟨a,ha,n0,n,t⟩:=r.ow i x hi;obtain ⟨o,ho,hr⟩:=t.rep n;have g:Same Hs (z6 Hs a o):=λb u e=>by rw [z5 (y6 e n)];exact e
  refine ⟨z6 Hs a o,g,⟨r.ext.s1.trans g,r.ext.s2,λb u e=>?_,λb h z=>?_⟩,λj y q=>?_,λj y q=>?_,λj k z z' c h1 h2 h3 h4=>?_,by rw [yD,r.len],λj y q=>?_⟩
  ·by_cases hb:b=a
   ·subst hb;rw [j7] at e;cases e;exact ho
   ·rw [z5 hb] at e;exact r.ext.s3 _ _ e
  ·have hb:b≠a:=λe=>h (e▸n0);rw [z5 hb];exact r.ext.s4 b h z
  ·rw [yS] at q;split at q
   ·rename_i hij;split at q
    ·injection q with q;injection q with q;subst q;exact ⟨.ref a,hij▸ha,hr⟩
    ·cases q
   ·obtain ⟨v,e,w⟩:=r.sh j y q;exact ⟨v,e,w.mono g⟩
  ·rw [yS] at q;split at q
   ·split at q<;>cases q
   ·rename_i hij;obtain ⟨c,hc,m0,m,tc⟩:=r.ow j y q;have hne:c≠a:=λe=>hij (r.nd i j x y a hi q ha (e▸hc));exact ⟨c,hc,m0,by rw [z5 hne];exact m,tc.mono g λ_ e=>e⟩
  ·have down:∀{m:Nat}{w:PV},(ε.set i (.sh x))[m]?=some (.ow w)->ε[m]?=some (.ow w):=by
    intro m w q;rw [yS] at q;split at q
    ·split at q<;>cases q
    ·exact q
   exact r.nd j k z z' c (down h1) (down h2) h3 h4
  ·rw [yS] at q;split at q
   ·split at q<;>cases q
   ·obtain ⟨v,hv,h|⟨c,rfl,m0,m,tc⟩⟩:=r.bo j y q
    ·exact ⟨v,hv,.inl (h.mono g)⟩
    ·have hne:c≠a:=λe=>m0 (e▸n0);exact ⟨_,hv,.inr ⟨c,rfl,m0,by rw [z5 hne];exact m,tc.mono g λ_ e=>e⟩⟩
 ·exact ⟨Hs,.refl _,r⟩
end
theorem xS {j:Nat}{s:MSlot}(h:∀(i:Nat)(x:PV),ε[i]?≠some (.bo x))(hs:∀ x,s ≠ .bo x):∀(i:Nat)(x:PV),(ε.set j s)[i]?≠some (.bo x):=λi x q=>by
 rw [yS] at q;split at q
 ·split at q
  ·injection q with q;exact hs x q
  ·cases q
 ·exact h i x q
abbrev M:=ME->Option PV
variable{a b:M}
abbrev MB:=ME->Option Bool
variable{c:MB}
abbrev MA:=ME->Option (List PV)
variable{as f:MA}
class y9 (te:TE)(f:M):Prop where
 h:∀{ε y},f ε=some y->∀{Hs0 H0 Hs H U},RS Hs0 H0 Hs H U ε->∀{Q:VK},(∀ v Hs' H',Ext Hs H Hs' H'->Rep Hs' y v->Q v H')->te U H Q
class p8 (te:TE)(f:M):Prop where
 h:∀{ε y},f ε=some y->∀{Hs0 H0 Hs H U},RS Hs0 H0 Hs H U ε->∀{Q:VK},(∀ v Hs' H',Ext Hs H Hs' H'->RepB Hs' H' y v->Q v H')->te U H Q
class i0 (te:TE)(f:M):Prop where
 h:∀{ε y},f ε=some y->∀{Hs0 H0 Hs H U},RS Hs0 H0 Hs H U ε->∀{Q:VK},(∀ a Hs' H',Ext Hs H Hs' H'->H a=none->Hs' a=none->Top Hs' H' a y->Q (.ref a) H')->te U H Q
class r6 (tt:TT)(f:MB):Prop where
 h:∀{ε y},f ε=some y->∀{Hs0 H0 Hs H U},RS Hs0 H0 Hs H U ε->∀{Q:Bool->Hp->Prop},(∀ Hs' H',Ext Hs H Hs' H'->Q y H')->tt U H Q
class t9 (ta:TA)(f:MA):Prop where
 h:∀{ε ys},f ε=some ys->∀{Hs0 H0 Hs H U},RS Hs0 H0 Hs H U ε->∀{Q:List V->Hp->Prop},(∀ vs Hs' H',Ext Hs H Hs' H'->Reps Hs' ys vs->Q vs H')->ta U H Q
def qT (Hs H:Hp):List PV->List V->Prop
 |[],vs=>vs=[]
 |x::xs,vs=>∃ v r,vs=v::r/\RepB Hs H x v/\qT Hs H xs r
class xL (ta:TA)(f:MA):Prop where
 h:∀{ε ys},f ε=some ys->∀{Hs0 H0 Hs H U},RS Hs0 H0 Hs H U ε->∀{Q:List V->Hp->Prop},(∀ vs Hs' H',Ext Hs H Hs' H'->qT Hs' H' ys vs->Q vs H')->ta U H Q
class i9 (r:R2)(g:PV->PV->Option PV):Prop where
 h:∀{x y z},g x y=some z->∀{Hs H:Hp}{v w:V},Same Hs H->RepB Hs H x v->RepB Hs H y w->∀{Q:VK},(∀ u Hs' H',Ext Hs H Hs' H'->Rep Hs' z u->Q u H')->r v w H Q
class SemRO (r:R2)(g:PV->PV->Option PV):Prop where
 h:∀{x y z},g x y=some z->∀{Hs H:Hp}{v w:V},Same Hs H->RepB Hs H x v->RepB Hs H y w->∀{Q:VK},(∀ a Hs' H',Ext Hs H Hs' H'->H a=none->Hs' a=none->Top Hs' H' a z->Q (.ref a) H')->r v w H Q
instance (priority:=50) semE_O {f:M}[s:i0 te f]:y9 te f where
 h:=λe _ _ _ _ _ r _ q=>s.h e r λa Hs' H' x h n t=>by
  obtain ⟨o,ho,hr⟩:=t.rep n;exact q _ _ _ (x.share h n ho) hr
instance (priority:=50) semB_E {f:M}[s:y9 te f]:p8 te f where
 h:=λe _ _ _ _ _ r _ q=>s.h e r λv Hs' H' x h=>q v Hs' H' x (.inl h)
def x6 (i:Nat):M:=λε=>match ε[i]? with
 |some (.sh x)=>some x
 |_=>none
def x8 (i:Nat):M:=λε=>match ε[i]? with
 |some (.sh x)=>some x
 |some (.ow x)=>some x
 |some (.bo x)=>some x
 |_=>none
def dC (v:V):M:=λ_=>some (.at v)
instance {i:Nat}:y9 (d6 i) (x6 i) where
 h:=λ{ε y} e {_ _ _ _ _} r {_} q=>by
  unfold x6 at e;split at e
  ·rename_i x hx;cases e;obtain ⟨v,h1,h2⟩:=r.sh i _ hx;exact ⟨v,h1,q v _ _ (.refl r.sub) h2⟩
  ·cases e
instance {i:Nat}:p8 (d6 i) (x8 i) where
 h:=λ{ε y} e {_ _ _ _ _} r {_} q=>by
  unfold x8 at e;split at e
  ·rename_i x hx;cases e;obtain ⟨v,h1,h2⟩:=r.sh i _ hx;exact ⟨v,h1,q v _ _ (.refl r.sub) (.inl h2)⟩
  ·rename_i x hx;cases e;obtain ⟨a,h1,_,n,t⟩:=r.ow i _ hx;exact ⟨_,h1,q _ _ _ (.refl r.sub) (.inr ⟨a,rfl,n,t⟩)⟩
  ·rename_i x hx;cases e;obtain ⟨v,h1,h2|⟨a,rfl,_,n,t⟩⟩:=r.bo i _ hx
   ·exact ⟨v,h1,q v _ _ (.refl r.sub) (.inl h2)⟩
   ·exact ⟨_,h1,q _ _ _ (.refl r.sub) (.inr ⟨a,rfl,n,t⟩)⟩
  ·cases e
instance :y9 (tC v) (dC v) where
 h:=λe _ _ _ _ _ r _ q=>by cases e;exact q v _ _ (.refl r.sub) (rep_at.mpr rfl)
def x9 (g:PV->PV->Option PV)(a b:M):M:=λε=>(a ε).bind λx=>(b ε).bind λy=>g x y
theorem bind_some {α β:Type}{o:Option α}{f:α->Option β}{y:β}(h:o.bind f=some y):∃ x,o=some x/\f x=some y:=by
 cases o with
 |none=>cases h
 |some x=>exact ⟨x,rfl,h⟩
instance {ta:TE}[sr:i9 r g][sa:p8 ta a][sb:p8 tb b]:y9 (tOp r ta tb) (x9 g a b) where
 h:=λe _ _ _ _ _ rs _ q=>by
  obtain ⟨x,ex,e⟩:=bind_some e;obtain ⟨y,ey,e⟩:=bind_some e;exact sa.h ex rs λv Hs1 H1 x1 r1=>sb.h ey (rs.go x1) λw Hs2 H2 x2 r2=>sr.h e x2.s3 (r1.ext x2) r2 λu Hs3 H3 x3 r3=>q u _ _ (x1.trans (x2.trans x3)) r3
instance {ta:TE}[sr:SemRO r g][sa:p8 ta a][sb:p8 tb b]:i0 (tOp r ta tb) (x9 g a b) where
 h:=λe _ _ _ _ _ rs _ q=>by
  obtain ⟨x,ex,e⟩:=bind_some e;obtain ⟨y,ey,e⟩:=bind_some e;exact sa.h ex rs λv Hs1 H1 x1 r1=>sb.h ey (rs.go x1) λw Hs2 H2 x2 r2=>sr.h e x2.s3 (r1.ext x2) r2 λu Hs3 H3 x3 n n' r3=>q u _ _ (x1.trans (x2.trans x3)) (x1.s2.free (x2.s2.free n)) n' r3
def x0:MA:=λ_=>some []
def q0 (a:M)(r:MA):MA:=λε=>(a ε).bind λx=>(r ε).bind λxs=>some (x::xs)
instance:t9 qa x0 where
 h:=λe _ _ _ _ _ r _ q=>by cases e;exact q [] _ _ (.refl r.sub) .nil
instance [sa:y9 te a][sr:t9 ta f]:t9 (h8 te ta) (q0 a f) where
 h:=λe _ _ _ _ _ rs _ q=>by
  obtain ⟨x,ex,e⟩:=bind_some e;obtain ⟨xs,ey,e⟩:=bind_some e;cases e;exact sa.h ex rs λv Hs1 H1 x1 r1=>sr.h ey (rs.go x1) λvs Hs2 H2 x2 r2=>q _ _ _ (x1.trans x2) (.cons (r1.mono x2.s1) r2)
instance:xL qa x0 where
 h:=λe _ _ _ _ _ r _ q=>by cases e;exact q [] _ _ (.refl r.sub) rfl
instance [sa:p8 te a][sr:xL ta f]:xL (h8 te ta) (q0 a f) where
 h:=λe _ _ _ _ _ rs _ q=>by
  obtain ⟨x,ex,e⟩:=bind_some e;obtain ⟨xs,ey,e⟩:=bind_some e;cases e;exact sa.h ex rs λv Hs1 H1 x1 r1=>sr.h ey (rs.go x1) λvs Hs2 H2 x2 r2=>q _ _ _ (x1.trans x2) ⟨_,_,rfl,r1.ext x2,r2⟩
def lim:Nat:=1000000
theorem t0 (h:n<=lim):n<=sizeLine:=yt h (by rw [sizeLine_eq];decide)
def j9 (a:MA):M:=λε=>(a ε).bind λxs=>if xs.length<=lim then some (.tup xs) else none
def w5 (a:MA):M:=λε=>(a ε).bind λxs=>if xs.length<=lim then some (.lst xs) else none
instance [sa:t9 ta f]:y9 (tTup ta) (j9 f) where
 h:=λe _ _ _ _ _ rs _ q=>by
  obtain ⟨xs,ex,e⟩:=bind_some e;split at e
  ·rename_i hl;cases e;exact sa.h ex rs λvs Hs1 H1 x1 r1=>⟨t0 (r1.length▸hl),λp hp=>q _ _ _ (x1.trans (.new x1.s3 hp)) (rep_tup.mpr ⟨p,vs,rfl,j7,r1.mono (Ext.new x1.s3 hp).s1⟩)⟩
  ·cases e
instance [sa:t9 ta f]:i0 (tLst ta) (w5 f) where
 h:=λe _ _ _ _ _ rs _ q=>by
  obtain ⟨xs,ex,e⟩:=bind_some e;split at e
  ·rename_i hl;cases e;exact sa.h ex rs λvs Hs1 H1 x1 r1=>⟨t0 (r1.length▸hl),λp hp=>q _ _ _ (x1.trans (.newO x1.s3 hp)) (x1.s2.free hp) (x1.s3.free hp) ⟨vs,j7,r1⟩⟩
  ·cases e
theorem j8 (h:RepB Hs H (.at u) v):v=u:=by
 rcases h with h|⟨a,_,_,t⟩
 ·exact rep_at.mp h
 ·exact t.elim
theorem c5 (s:Same Hs H)(h:RepB Hs H (.lst xs) v):∃ a vs,v = .ref a/\H a=some (.lst vs)/\Reps Hs xs vs:=by
 rcases h with h|⟨a,rfl,_,vs,e,r⟩
 ·obtain ⟨a,vs,rfl,e,r⟩:=rep_lst.mp h;exact ⟨a,vs,rfl,s _ _ e,r⟩
 ·exact ⟨a,vs,rfl,e,r⟩
theorem n9 (s:Same Hs H)(h:RepB Hs H (.tup xs) v):∃ a vs,v = .ref a/\H a=some (.tup vs)/\Reps Hs xs vs:=by
 rcases h with h|⟨a,rfl,_,t⟩
 ·obtain ⟨a,vs,rfl,e,r⟩:=rep_tup.mp h;exact ⟨a,vs,rfl,s _ _ e,r⟩
 ·exact t.elim
theorem jF (s:Same Hs H)(h:RepB Hs H (.dk ks xs) v):∃ a kvs,v = .ref a/\H a=some (.dK kvs)/\kvs.map (·.1)=ks/\Reps Hs xs (kvs.map (·.2)):=by
 rcases h with h|⟨a,rfl,_,kvs,e,k,r⟩
 ·obtain ⟨a,kvs,rfl,e,k,r⟩:=rep_dk.mp h;exact ⟨a,kvs,rfl,s _ _ e,k,r⟩
 ·exact ⟨a,kvs,rfl,e,k,r⟩
def pI (g:Int->Int->Option V):PV->PV->Option PV
 | .at (.int i),.at (.int j)=>(g i j).map .at
 |_,_=>none
theorem wI {g:Int->Int->Option V}{z:PV}(h:pI g x y=some z):∃ i j u,x = .at (.int i)/\y = .at (.int j)/\g i j=some u/\z = .at u:=by
 unfold pI at h;split at h
 ·rename_i i j;obtain ⟨u,e,rfl⟩:=yA.mp h;exact ⟨i,j,u,rfl,rfl,e,rfl⟩
 ·cases h
instance {g:Int->Int->V}:i9 (rI0 g) (pI λi j=>some (g i j)) where
 h:=λe _ _ _ _ s a b _ q=>by
  obtain ⟨i,j,u,rfl,rfl,e,rfl⟩:=wI e;cases e;exact ⟨i,j,j8 a,j8 b,q _ _ _ (.refl s) (rep_at.mpr rfl)⟩
instance {C:Int->Int->Prop}[d:∀ i j,Decidable (C i j)]{g:Int->Int->V}:i9 (rI C g) (pI λi j=>if C i j then some (g i j) else none) where
 h:=λe _ _ _ _ s a b _ q=>by
  obtain ⟨i,j,u,rfl,rfl,e',rfl⟩:=wI e;split at e'
  ·rename_i hc;cases e';exact ⟨i,j,j8 a,j8 b,hc,q _ _ _ (.refl s) (rep_at.mpr rfl)⟩
  ·cases e'
def xW:PV->PV->Option PV
 | .lst xs,.lst ys=>if xs.length+ys.length<=lim then some (.lst (xs++ys)) else none
 |_,_=>none
instance :SemRO (zO K) xW where
 h:=λ{x y z} e {Hs H v w} s a b {Q} q=>by
  unfold xW at e;split at e
  ·split at e
   ·rename_i hl;cases e;obtain ⟨p,vs,rfl,e1,r1⟩:=c5 s a;obtain ⟨p',ws,rfl,e2,r2⟩:=c5 s b;refine ⟨p,p',vs,ws,rfl,rfl,SqL.of e1,SqL.of e2,t0 (by rw [r1.length,r2.length];exact hl),λl hl=>?_⟩;exact q l _ _ (.newO s hl) hl (s.free hl) ⟨_,j7,r1.append r2⟩
   ·cases e
  ·cases e
def pIx:PV->PV->Option PV
 | .lst xs,.at (.int i)=>atI xs i
 | .tup xs,.at (.int i)=>atI xs i
 | .at (.str z),.at (.int i)=>if z.length<=lim then (L2.atI z.cps.toList i).map λc=> .at (.str ⟨#[c]⟩) else none
 |_,_=>none
theorem Reps.atI {i:Int}(r:Reps H xs vs)(h:atI xs i=some x):∃ v,L2.atI vs i=some v/\Rep H x v:=by unfold L2.atI at h ⊢;rw [r.length];obtain ⟨j,ej,e⟩:=bind_some h;rw [ej];exact r.get e
instance :i9 (rIx K) pIx where
 h:=λ{x y z} e {Hs H v w} s a b {Q} q=>by
  unfold pIx at e;split at e
  ·obtain ⟨p,vs,rfl,e1,r1⟩:=c5 s a;obtain ⟨u,hu,r⟩:=r1.atI e;exact .inl ⟨p,vs,_,u,rfl,j8 b,SqL.of e1,hu,q _ _ _ (.refl s) r⟩
  ·obtain ⟨p,vs,rfl,e1,r1⟩:=n9 s a;obtain ⟨u,hu,r⟩:=r1.atI e;exact .inr (.inl ⟨p,vs,_,u,rfl,j8 b,SqT.of e1,hu,q _ _ _ (.refl s) r⟩)
  ·split at e
   ·rename_i hz;obtain ⟨c,hc,rfl⟩:=yA.mp e;exact .inr (.inr ⟨_,_,c,j8 a,j8 b,t0 hz,hc,q _ _ _ (.refl s) (rep_at.mpr rfl)⟩)
   ·cases e
  ·cases e
class SemU (r:V->Hp->VK->Prop)(g:PV->Option PV):Prop where
 h:∀{x z},g x=some z->∀{Hs H:Hp}{v:V},Same Hs H->RepB Hs H x v->∀{Q:VK},(∀ u Hs' H',Ext Hs H Hs' H'->Rep Hs' z u->Q u H')->r v H Q
def w6 (g:PV->Option PV)(a:M):M:=λε=>(a ε).bind g
instance {r:V->Hp->VK->Prop}{g:PV->Option PV}{ta:TE}[sr:SemU r g][sa:p8 ta a]:y9 (tUn r ta) (w6 g a) where
 h:=λe _ _ _ _ _ rs _ q=>by
  obtain ⟨x,ex,e⟩:=bind_some e;exact sa.h ex rs λv Hs1 H1 x1 r1=>sr.h e x1.s3 r1 λu Hs3 H3 x3 r3=>q u _ _ (x1.trans x3) r3
def pU (g:Int->V):PV->Option PV
 | .at (.int i)=>some (.at (g i))
 |_=>none
instance {g:Int->V}:SemU (rU g) (pU g) where
 h:=λ{x z} e {_ _ _} s a {_} q=>by
  unfold pU at e;split at e
  ·cases e;exact ⟨_,j8 a,q _ _ _ (.refl s) (rep_at.mpr rfl)⟩
  ·cases e
def pB:PV->Option Bool
 | .at (.bl b)=>some b
 |_=>none
theorem xV {b:Bool}(h:pB x=some b):x = .at (.bl b):=by
 unfold pB at h;split at h
 ·cases h;rfl
 ·cases h
def dT (a:M):MB:=λε=>(a ε).bind pB
instance [sa:p8 te a]:r6 (Qs te) (dT a) where
 h:=λe _ _ _ _ _ rs _ q=>by
  obtain ⟨x,ex,e⟩:=bind_some e;cases xV e;exact sa.h ex rs λv Hs1 H1 x1 r1=>⟨_,j8 r1,q _ _ x1⟩
def tTru (K:Fg)(ta:TE):TT:=λU H Q=>ta U H λx H'=>∃ k,TruV K x H' k/\Q k H'
def pTru:PV->Option Bool
 | .at .non=>some false
 | .at (.bl b)=>some b
 | .at (.int i)=>some (i != 0)
 | .at (.str y)=>if y.length<=lim then some ((y.length:Int) != 0) else none
 | .lst xs=>some (!xs.isEmpty)
 | .tup xs=>some (!xs.isEmpty)
 | .dk ks _=>some (!ks.isEmpty)
 |_=>none
def m8 (a:M):MB:=λε=>(a ε).bind pTru
theorem Reps.isEmpty (r:Reps H xs vs):vs.isEmpty=xs.isEmpty:=by have:=r.length;cases xs<;>cases vs<;>first|rfl|(simp at this)
instance [sa:p8 te a]:r6 (tTru K te) (m8 a) where
 h:=λe _ _ _ _ _ rs _ q=>by
  obtain ⟨x,ex,e⟩:=bind_some e;refine sa.h ex rs λv Hs1 H1 x1 r1=>?_;unfold pTru at e;split at e
  ·cases e;cases j8 r1;exact ⟨_,rfl,q _ _ x1⟩
  ·cases e;cases j8 r1;exact ⟨_,rfl,q _ _ x1⟩
  ·cases e;cases j8 r1;exact ⟨_,rfl,q _ _ x1⟩
  ·split at e
   ·rename_i hl;cases e;cases j8 r1;exact ⟨_,⟨t0 hl,rfl⟩,q _ _ x1⟩
   ·cases e
  ·cases e;obtain ⟨p,vs,rfl,e1,r2⟩:=c5 x1.s3 r1;exact ⟨_,.inl ⟨vs,SqL.of e1,by rw [r2.isEmpty]⟩,q _ _ x1⟩
  ·cases e;obtain ⟨p,vs,rfl,e1,r2⟩:=n9 x1.s3 r1;exact ⟨_,.inr (.inl ⟨vs,SqT.of e1,by rw [r2.isEmpty]⟩),q _ _ x1⟩
  ·cases e;obtain ⟨p,kvs,rfl,e1,k,r2⟩:=jF x1.s3 r1;refine ⟨_,.inr (.inr ⟨kvs,e1,?_⟩),q _ _ x1⟩;rw [<- k];cases kvs<;>rfl
  ·cases e
def xO (a b:MB):MB:=λε=>(a ε).bind λc=>if c=true then b ε else some false
def o5 (a:MB):MB:=λε=>(a ε).bind λc=>some (!c)
instance {u:TT}{a b:MB}[sa:r6 t a][sb:r6 u b]:r6 (tAnd t u) (xO a b) where
 h:=λe _ _ _ _ _ rs _ q=>by
  obtain ⟨c,ex,e⟩:=bind_some e;refine sa.h ex rs λHs1 H1 x1=>?_;cases c with
  |true=>exact o9 (sb.h e (rs.go x1) λHs2 H2 x2=>q _ _ (x1.trans x2))
  |false=>cases e;exact o8 (q _ _ x1)
instance {a:MB}[sa:r6 t a]:r6 (tNot t) (o5 a) where
 h:=λe _ _ _ _ _ rs _ q=>by
  obtain ⟨c,ex,e⟩:=bind_some e;cases e;exact sa.h ex rs λHs1 H1 x1=>q _ _ x1
def zv (a b:M):M:=λε=>(a ε).bind λx=>(pB x).bind λc=>if c=true then b ε else some (.at (.bl false))
def dOrV (a b:M):M:=λε=>(a ε).bind λx=>(pB x).bind λc=>if c=true then some (.at (.bl true)) else b ε
def zA (a:M):M:=λε=>(a ε).bind λx=>(pB x).bind λc=>some (.at (.bl (!c)))
instance {t u:TE}[sa:y9 t a][sb:y9 u b]:y9 (Qn t u) (zv a b) where
 h:=λe _ _ _ _ _ rs _ q=>by
  obtain ⟨x,ex,e⟩:=bind_some e;obtain ⟨c,ec,e⟩:=bind_some e;cases xV ec;refine sa.h ex rs λv Hs1 H1 x1 r1=>⟨c,rep_at.mp r1,?_⟩;cases c with
  |true=>exact o9 (sb.h e (rs.go x1) λw Hs2 H2 x2 r2=>q _ _ _ (x1.trans x2) r2)
  |false=>cases e;exact o8 (q _ _ _ x1 (rep_at.mpr rfl))
instance {t u:TE}[sa:y9 t a][sb:y9 u b]:y9 (tOrV t u) (dOrV a b) where
 h:=λe _ _ _ _ _ rs _ q=>by
  obtain ⟨x,ex,e⟩:=bind_some e;obtain ⟨c,ec,e⟩:=bind_some e;cases xV ec;refine sa.h ex rs λv Hs1 H1 x1 r1=>⟨c,rep_at.mp r1,?_⟩;cases c with
  |true=>cases e;exact o9 (q _ _ _ x1 (rep_at.mpr rfl))
  |false=>exact o8 (sb.h e (rs.go x1) λw Hs2 H2 x2 r2=>q _ _ _ (x1.trans x2) r2)
instance {t:TE}[sa:p8 t a]:y9 (Qq t) (zA a) where
 h:=λe _ _ _ _ _ rs _ q=>by
  obtain ⟨x,ex,e⟩:=bind_some e;obtain ⟨c,ec,e⟩:=bind_some e;cases xV ec;cases e;exact sa.h ex rs λv Hs1 H1 x1 r1=>⟨c,j8 r1,q _ _ _ x1 (rep_at.mpr rfl)⟩
def xP (g g':PV->PV->Option PV)(a b c:M):M:=λε=>(a ε).bind λx=>(b ε).bind λy=>(g x y).bind λz=>(pB z).bind λk=>if k=true then (c ε).bind λw=>g' y w else some (.at (.bl false))
instance {r':R2}{g':PV->PV->Option PV}{ta tc:TE}{c:M}[sr:i9 r g][sr':i9 r' g'][sa:p8 ta a][sb:p8 tb b][sc:p8 tc c]:y9 (Qo r r' ta tb tc) (xP g g' a b c) where
 h:=λe _ _ _ _ _ rs _ q=>by
  obtain ⟨x,ex,e1⟩:=bind_some e;obtain ⟨y,ey,e2⟩:=bind_some e1;obtain ⟨z,ez,e3⟩:=bind_some e2;obtain ⟨k,ek,e4⟩:=bind_some e3;have ez':=xV ek;subst ez';refine sa.h ex rs λv Hs1 H1 x1 r1=>sb.h ey (rs.go x1) λw Hs2 H2 x2 r2=>sr.h ez x2.s3 (r1.ext x2) r2 λu Hs3 H3 x3 r3=>⟨k,rep_at.mp r3,?_⟩;cases k with
  |true=>obtain ⟨w',ew,e5⟩:=bind_some e4;exact o9 (sc.h ew (((rs.go x1).go x2).go x3) λu' Hs4 H4 x4 r4=>sr'.h e5 x4.s3 ((r2.ext x3).ext x4) r4 λu'' Hs5 H5 x5 r5=>q _ _ _ (x1.trans (x2.trans (x3.trans (x4.trans x5)))) r5)
  |false=>cases e4;exact o8 (q _ _ _ (x1.trans (x2.trans x3)) (rep_at.mpr rfl))
def spP (m:List PV->Option PV):Sp:=λvs H Q _=>∃ Hs xs y,Same Hs H/\Reps Hs xs vs/\m xs=some y/\∀ v Hs' H',Ext Hs H Hs' H'->Rep Hs' y v->Q v H'
def spO (m:List PV->Option PV):Sp:=λvs H Q _=>∃ Hs xs y,Same Hs H/\Reps Hs xs vs/\m xs=some y/\∀ a Hs' H',Ext Hs H Hs' H'->H a=none->Hs' a=none->Top Hs' H' a y->Q (.ref a) H'
def z7 (m:List PV->Option PV)(as:MA):M:=λε=>(as ε).bind m
instance [sa:t9 ta as]:y9 (t5 (spP m) [] E ta) (z7 m as) where
 h:=λe _ _ _ _ _ rs _ q=>by
  obtain ⟨xs,ex,e1⟩:=bind_some e;refine sa.h ex rs λvs Hs1 H1 x1 r1=>⟨Hs1,xs,_,x1.s3,by rw [yw];exact r1,e1,λv Hs' H' x r=>q v _ _ (x1.trans x) r⟩
instance [sa:t9 ta as]:i0 (t5 (spO m) [] E ta) (z7 m as) where
 h:=λe _ _ _ _ _ rs _ q=>by
  obtain ⟨xs,ex,e1⟩:=bind_some e;refine sa.h ex rs λvs Hs1 H1 x1 r1=>⟨Hs1,xs,_,x1.s3,by rw [yw];exact r1,e1,λa Hs' H' x n n' r=>q a _ _ (x1.trans x) (x1.s2.free n) n' r⟩
class qU (r:List V->Hp->VK->Prop)(g:List PV->Option PV):Prop where
 h:∀{xs z},g xs=some z->∀{Hs H:Hp}{vs:List V},Same Hs H->qT Hs H xs vs->∀{Q:VK},(∀ u Hs' H',Ext Hs H Hs' H'->Rep Hs' z u->Q u H')->r vs H Q
class vf (r:List V->Hp->VK->Prop)(g:List PV->Option PV):Prop where
 h:∀{xs z},g xs=some z->∀{Hs H:Hp}{vs:List V},Same Hs H->qT Hs H xs vs->∀{Q:VK},(∀ a Hs' H',Ext Hs H Hs' H'->H a=none->Hs' a=none->Top Hs' H' a z->Q (.ref a) H')->r vs H Q
instance {r:List V->Hp->VK->Prop}{g:List PV->Option PV}[sr:qU r g][sa:xL ta as]:y9 (tCB r ta) (z7 g as) where
 h:=λe _ _ _ _ _ rs _ q=>by
  obtain ⟨xs,ex,e1⟩:=bind_some e;exact sa.h ex rs λvs Hs1 H1 x1 r1=>sr.h e1 x1.s3 r1 λv Hs' H' x r=>q v _ _ (x1.trans x) r
instance {r:List V->Hp->VK->Prop}{g:List PV->Option PV}[sr:vf r g][sa:xL ta as]:i0 (tCB r ta) (z7 g as) where
 h:=λe _ _ _ _ _ rs _ q=>by
  obtain ⟨xs,ex,e1⟩:=bind_some e;exact sa.h ex rs λvs Hs1 H1 x1 r1=>sr.h e1 x1.s3 r1 λv Hs' H' x n n' r=>q v _ _ (x1.trans x) (x1.s2.free n) n' r
theorem qC (h:qT Hs H [x] vs):∃ v,vs=[v]/\RepB Hs H x v:=by obtain ⟨v,r,rfl,a,b⟩:=h;cases (show r=[] from b);exact ⟨v,rfl,a⟩
theorem jG (h:qT Hs H [x,y] vs):∃ v w,vs=[v,w]/\RepB Hs H x v/\RepB Hs H y w:=by obtain ⟨v,r,rfl,a,b⟩:=h;obtain ⟨w,rfl,c⟩:=qC b;exact ⟨v,w,rfl,a,c⟩
inductive Out where
 |nx (ε:ME)|rt (y:PV)|bk (ε:ME)|ct (ε:ME)
abbrev MS:=ME->Option Out
def OutK (fr:Bool)(Hs0 H0:Hp)(D:p7):Out->Prop
 | .nx ε=>∀ Hs H U,RS Hs0 H0 Hs H U ε->D.nx U H
 | .bk ε=>∀ Hs H U,RS Hs0 H0 Hs H U ε->D.bk U H
 | .ct ε=>∀ Hs H U,RS Hs0 H0 Hs H U ε->D.ct U H
 | .rt y=>match fr with
  |true=>∀ a Hs H,Ext Hs0 H0 Hs H->H0 a=none->Hs a=none->Top Hs H a y->D.rt (.ref a) H
  |false=>∀ v Hs H,Ext Hs0 H0 Hs H->Rep Hs y v->D.rt v H
class u0 (fr:Bool)(ts:TS)(f:MS):Prop where
 h:∀{ε o},f ε=some o->∀{Hs0 H0 Hs H U},RS Hs0 H0 Hs H U ε->∀{D:p7},OutK fr Hs0 H0 D o->ts D U H
variable {fr:Bool}
def qh:MS:=λε=>some (.nx ε)
instance:u0 fr jT qh where
 h:=λe _ _ _ _ _ rs _ q=>by cases e;exact q _ _ _ rs
def d8 (a b:MS):MS:=λε=>(a ε).bind λo=>match o with
 | .nx ε'=>b ε'
 |o=>some o
instance {t u:TS}{a b:MS}[sa:u0 fr t a][sb:u0 fr u b]:u0 fr (tSeq t u) (d8 a b) where
 h:=λe _ _ _ _ _ rs D q=>by
  obtain ⟨o,eo,e1⟩:=bind_some e;refine sa.h eo rs ?_;cases o with
  |nx ε'=>exact λHs H U r=>sb.h e1 r q
  |rt y=>cases e1;exact q
  |bk ε'=>cases e1;exact q
  |ct ε'=>cases e1;exact q
def dFz (i:Nat)(a:MS):MS:=λε=>a (fz i ε)
instance {i:Nat}{t:TS}{a:MS}[sa:u0 fr t a]:u0 fr t (dFz i a) where
 h:=λe _ _ _ _ _ rs _ q=>by
  obtain ⟨Hs',g,r⟩:=rs.freeze i;exact sa.h e r q
def zx (a:M):MS:=λε=>(a ε).bind λ_=>some (.nx ε)
instance (priority:=100)[sa:p8 te a]:u0 fr (jS te) (zx a) where
 h:=λe _ _ _ _ _ rs _ q=>by
  obtain ⟨x,ex,e1⟩:=bind_some e;cases e1;exact sa.h ex rs λv Hs1 H1 x1 r1=>q _ _ _ (rs.go x1)
def o6 (a:M):MS:=λε=>(a ε).bind λx=>some (.rt x)
instance [sa:y9 te a]:u0 false (zf te) (o6 a) where
 h:=λe _ _ _ _ _ rs _ q=>by
  obtain ⟨x,ex,e1⟩:=bind_some e;cases e1;exact sa.h ex rs λv Hs1 H1 x1 r1=>q _ _ _ (rs.ext.trans x1) r1
instance [sa:i0 te a]:u0 true (zf te) (o6 a) where
 h:=λe _ _ _ _ _ rs _ q=>by
  obtain ⟨x,ex,e1⟩:=bind_some e;cases e1;exact sa.h ex rs λv Hs1 H1 x1 n n' r1=>q _ _ _ (rs.ext.trans x1) (rs.ext.s2.free n) n' r1
def oVar (i:Nat):M:=λε=>match ε[i]? with
 |some (.ow x)=>some x
 |_=>none
instance {i:Nat}:u0 true (zf (d6 i)) (o6 (oVar i)) where
 h:=λe _ _ _ _ _ rs _ q=>by
  obtain ⟨x,ex,e1⟩:=bind_some e;cases e1;unfold oVar at ex;split at ex
  ·rename_i y hy;cases ex;obtain ⟨a,ha,n0,n,t⟩:=rs.ow i _ hy;exact ⟨_,ha,q _ _ _ rs.ext n0 n t⟩
  ·cases ex
def m7 (c:MB)(a b:MS):MS:=λε=>(c ε).bind λk=>if k=true then a ε else b ε
instance {ta tb:TS}{a b:MS}[sc:r6 t c][sa:u0 fr ta a][sb:u0 fr tb b]:u0 fr (tIfS t ta tb) (m7 c a b) where
 h:=λe _ _ _ _ _ rs _ q=>by
  obtain ⟨k,ex,e1⟩:=bind_some e;refine sc.h ex rs λHs1 H1 x1=>?_;cases k with
  |true=>exact o9 (sa.h e1 (rs.go x1) q)
  |false=>exact o8 (sb.h e1 (rs.go x1) q)
def qH:MS:=λ_=>none
abbrev MG:=PV->ME->Option ME
def But (ts:List Nat)(U σ':St):Prop:=σ'.length=U.length/\∀ j,j∉ts->σ'[j]?=U[j]?
theorem But.refl (U:St):But [] U U:=⟨rfl,λ_ _=>rfl⟩
theorem But.trans {a b:List Nat}{σ1 σ2:St}(x:But a U σ1)(y:But b σ1 σ2):But (a++b) U σ2 :=
 ⟨y.1.trans x.1,λj hj=>(y.2 j λz=>hj (yE.mpr (.inr z))).trans (x.2 j λz=>hj (yE.mpr (.inl z)))⟩
theorem But.wk (b:But ts U σ')(h:∀ i∈ts,U[i]?=some none):Wk U σ':=by refine ⟨b.1.symm,λi v e=>?_⟩;rw [b.2 i λz=>by rw [h i z] at e;cases e];exact e
class qV (tg:TG)(ts:outParam (List Nat))(g:MG):Prop where
 h:∀{x ε ε'},g x ε=some ε'->∀{Hs0 H0 Hs H U v},RS Hs0 H0 Hs H U ε->Rep Hs x v->∀{Q:St->Hp->Prop},(∀ σ',RS Hs0 H0 Hs H σ' ε'->But ts U σ'->Q σ' H)->tg v U H Q
class qW (tg:TGs)(ts:outParam (List Nat))(g:List PV->ME->Option ME):Prop where
 h:∀{xs ε ε'},g xs ε=some ε'->∀{Hs0 H0 Hs H U vs},RS Hs0 H0 Hs H U ε->Reps Hs xs vs->∀{Q:St->Hp->Prop},(∀ σ',RS Hs0 H0 Hs H σ' ε'->But ts U σ'->Q σ' H)->tg vs U H Q
def u7 (i:Nat):MG:=λx ε=>some (ε.set i (.sh x))
instance {i:Nat}:qV (c6 i) [i] (u7 i) where
 h:=λe _ _ _ _ _ _ rs r _ q=>by
  cases e;exact q _ (rs.put r) ⟨yD,λj hj=>yI λz=>hj (by rw [<- z];exact yF.mpr rfl)⟩
def xp:List PV->ME->Option ME:=λxs ε=>match xs with
 |[]=>some ε
 |_=>none
def i3 (g:MG)(r:List PV->ME->Option ME):List PV->ME->Option ME:=λxs ε=>match xs with
 |x::xs=>(g x ε).bind (r xs)
 |_=>none
instance:qW gNil [] xp where
 h:=λ{xs ε ε'} e {_ _ _ _ _ _} rs r {_} q=>by
  unfold xp at e;split at e
  ·cases e;exact ⟨reps_nil.mp r,q _ rs (.refl _)⟩
  ·cases e
instance JZ {t:TG}{u:TGs}{a b:List Nat}{g:MG}{r:List PV->ME->Option ME}[sg:qV t a g][sr:qW u b r]:qW (jh t u) (a++b) (i3 g r) where
 h:=λ{xs ε ε'} e {_ _ _ _ _ _} rs rr {_} q=>by
  unfold i3 at e;split at e
  ·obtain ⟨ε1,e1,e2⟩:=bind_some e;obtain ⟨v,w,rfl,r1,r2⟩:=reps_cons.mp rr;exact ⟨v,w,rfl,sg.h e1 rs r1 λσ1 rs1 b1=>sr.h e2 rs1 r2 λσ2 rs2 b2=>q _ rs2 (b1.trans b2)⟩
  ·cases e
instance (priority:=2000){i:Nat}{u:TGs}{b:List Nat}{r:List PV->ME->Option ME}[sr:qW u b r]:qW (jh (c6 i) u) (i::b) (i3 (u7 i) r) where
 h:=λe _ _ _ _ _ _ rs rr _ q=>(JZ (t:=c6 i) (a:=[i]) (g:=u7 i)).h e rs rr q
def xq (n:Nat)(g:List PV->ME->Option ME):MG:=λx ε=>match x with
 | .tup xs=>if xs.length=n then g xs ε else none
 |_=>none
instance {t:TGs}{g:List PV->ME->Option ME}[sg:qW t ts g]:qV (gTup K n t) ts (xq n g) where
 h:=λ{x ε ε'} e {_ _ _ _ _ _} rs rr {_} q=>by
  unfold xq at e;split at e
  ·split at e
   ·rename_i hl;obtain ⟨a,vs,rfl,h,r⟩:=rep_tup.mp rr;exact ⟨a,vs,rfl,SqT.of (rs.sub _ _ h),by rw [r.length];exact hl,sg.h e rs r λσ' rs' b=>q _ rs' b⟩
   ·cases e
  ·cases e
def o7 (i:Nat)(a:M):MS:=λε=>(a ε).bind λx=>some (.nx (ε.set i (.sh x)))
def qg (i:Nat)(a:M):MS:=λε=>(a ε).bind λx=>some (.nx (ε.set i (.ow x)))
instance {i:Nat}[sa:y9 te a]:u0 fr (qq te (c6 i)) (o7 i a) where
 h:=λe _ _ _ _ _ rs _ q=>by
  obtain ⟨x,ex,e1⟩:=bind_some e;cases e1;exact sa.h ex rs λv Hs1 H1 x1 r1=>q _ _ _ ((rs.go x1).put r1)
instance {i:Nat}[sa:i0 te a]:u0 fr (qq te (c6 i)) (qg i a) where
 h:=λe _ _ _ _ _ rs _ q=>by
  obtain ⟨x,ex,e1⟩:=bind_some e;cases e1;refine sa.h ex rs λp Hs1 H1 x1 n n' t=>q _ _ _ ((rs.go x1).putO ⟨rs.ext.s2.free n,n',t⟩ λj y hj z=>?_);obtain ⟨b,hb,_,_,tb⟩:=rs.ow j y hj;rw [z] at hb;injection hb with hb;injection hb with hb;injection hb with hb;subst hb;exact tb.there n
def pIp (g:Int->Int->Int):PV->PV->Option PV
 | .at (.int i),.at (.int j)=>some (.at (.int (g i j)))
 |_,_=>none
def dAppend (i:Nat)(a:M):MS:=λε=>(a ε).bind λx=>match ε[i]? with
 |some (.ow (.lst xs))=>if xs.length<=lim then some (.nx (ε.set i (.ow (.lst (xs++[x]))))) else none
 |_=>none
def dExtend (i:Nat)(a:M):MS:=λε=>(a ε).bind λx=>match x with
 | .lst ys=>(match ε[i]? with
  |some (.ow (.lst xs))=>if xs.length+ys.length<=lim then some (.nx (ε.set i (.ow (.lst (xs++ys))))) else none
  |_=>none)
 |_=>none
structure qR (J:It)(xs:List PV)(Hs:Hp):Prop where
 go:∀(i:Nat)(x:PV)(Hs1 H1:Hp),xs[i]?=some x->Same Hs Hs1->Same Hs1 H1->J.go i H1/\∀ v H2,J.yld i H1 v H2->∃ Hs2,Ext Hs1 H1 Hs2 H2/\Rep Hs2 x v
 stop:∀(Hs1 H1:Hp),Same Hs Hs1->Same Hs1 H1->J.stop xs.length H1
class qs (ti:TI)(f:MA):Prop where
 h:∀{ε xs},f ε=some xs->∀{Hs0 H0 Hs H U},RS Hs0 H0 Hs H U ε->∀{R:It->Hp->Prop},(∀ J Hs' H',Ext Hs H Hs' H'->qR J xs Hs'->R J H')->ti U H R
def qe (a:M):MA:=λε=>(a ε).bind λx=>match x with
 | .lst xs=>some xs
 |_=>none
def dItT (a:M):MA:=λε=>(a ε).bind λx=>match x with
 | .tup xs=>some xs
 |_=>none
theorem Za {a:Addr}(h:Hs a=some (.lst vs))(r:Reps Hs xs vs):qR (Itl K a) xs Hs where
 go:=λi x Hs1 H1 e g1 g2=>by
  obtain ⟨v,ev,rv⟩:=r.get e;refine ⟨⟨vs,v,SqL.of (g2 _ _ (g1 _ _ h)),ev⟩,λw H2 y=>?_⟩;obtain ⟨rfl,y⟩:=y;have z:=y vs (SqL.of (g2 _ _ (g1 _ _ h)));rw [ev] at z;cases z;exact ⟨Hs1,.refl g2,rv.mono g1⟩
 stop:=λHs1 H1 g1 g2=>⟨vs,SqL.of (g2 _ _ (g1 _ _ h)),by rw [r.length];exact yT _⟩
theorem Zb {a:Addr}(h:Hs a=some (.tup vs))(r:Reps Hs xs vs):qR (Itt K a) xs Hs where
 go:=λi x Hs1 H1 e g1 g2=>by
  obtain ⟨v,ev,rv⟩:=r.get e;refine ⟨⟨vs,v,SqT.of (g2 _ _ (g1 _ _ h)),ev⟩,λw H2 y=>?_⟩;obtain ⟨rfl,y⟩:=y;have z:=y vs (SqT.of (g2 _ _ (g1 _ _ h)));rw [ev] at z;cases z;exact ⟨Hs1,.refl g2,rv.mono g1⟩
 stop:=λHs1 H1 g1 g2=>⟨vs,SqT.of (g2 _ _ (g1 _ _ h)),by rw [r.length];exact yT _⟩
instance [sa:y9 te a]:qs (jj K te) (qe a) where
 h:=λe _ _ _ _ _ rs _ q=>by
  obtain ⟨x,ex,e1⟩:=bind_some e;split at e1
  ·cases e1;refine sa.h ex rs λv Hs1 H1 x1 r1=>?_;obtain ⟨p,vs,rfl,hp,r⟩:=rep_lst.mp r1;exact ⟨p,rfl,⟨vs,SqL.of (x1.s3 _ _ hp)⟩,q _ _ _ x1 (Za hp r)⟩
  ·cases e1
instance [sa:y9 te a]:qs (iTup K te) (dItT a) where
 h:=λe _ _ _ _ _ rs _ q=>by
  obtain ⟨x,ex,e1⟩:=bind_some e;split at e1
  ·cases e1;refine sa.h ex rs λv Hs1 H1 x1 r1=>?_;obtain ⟨p,vs,rfl,hp,r⟩:=rep_tup.mp r1;exact ⟨p,rfl,⟨vs,SqT.of (x1.s3 _ _ hp)⟩,q _ _ _ x1 (Zb hp r)⟩
  ·cases e1
def i7 (lo:Int)(n:Nat):List PV:=(List.range n).map λ(i:Nat)=> .at (.int (lo+i))
theorem xA :(i7 lo n).length=n:=by unfold i7;rw [yR,List.length_range]
theorem JP {i:Nat}(h:(i7 lo n)[i]?=some x):i<n/\x = .at (.int (lo+i)):=by
 have hl:i<n:=by have:=(yH.mp h).1;rw [xA] at this;exact this
 refine ⟨hl,?_⟩;unfold i7 at h;rw [yO,List.getElem?_range hl] at h;cases h;rfl
theorem wn :qR (Itr lo n) (i7 lo n) Hs where
 go:=λi x Hs1 H1 e g1 g2=>by
  obtain ⟨hl,rfl⟩:=JP e;refine ⟨hl,λv H2 y=>?_⟩;obtain ⟨rfl,rfl⟩:=y;exact ⟨Hs1,.refl g2,rep_at.mpr rfl⟩
 stop:=λHs1 H1 g1 g2=>by show n<=_;rw [xA];exact yT _
def zB (a:MA):MA:=λε=>(a ε).bind λxs=>match xs with
 |[.at (.int j)]=>if -(lim:Int)<=j/\j<=lim then some (i7 0 j.toNat) else none
 |_=>none
instance {a:MA}[sa:t9 ta a]:qs (jk ta) (zB a) where
 h:=λe _ _ _ _ _ rs _ q=>by
  obtain ⟨xs,ex,e1⟩:=bind_some e;split at e1
  ·rename_i j;split at e1
   ·rename_i hl;cases e1;refine sa.h ex rs λvs Hs1 H1 x1 r1=>?_;obtain ⟨v,r,rfl,p1,p2⟩:=reps_cons.mp r1;cases reps_nil.mp p2;cases rep_at.mp p1;have hlim:(lim:Int)=1000000:=rfl;exact ⟨j,rfl,by omega,by omega,q _ _ _ x1 wn⟩
   ·cases e1
  ·cases e1
def qf (g:MG)(f:MS):List PV->ME->Option Out
 |[],ε=>some (.nx ε)
 |x::xs,ε=>(g x ε).bind λε1=>(f ε1).bind λo=>match o with
  | .nx ε2=>qf g f xs ε2
  | .ct ε2=>qf g f xs ε2
  | .bk ε2=>some (.nx ε2)
  | .rt y=>some (.rt y)
def xQ (i:MA)(g:MG)(f:MS):MS:=λε=>(i ε).bind λxs=>qf g f xs ε
theorem OutK.unbase {D:p7}(x:Ext Hs0 H0 Hb H):∀{o:Out},OutK fr Hs0 H0 D o->OutK fr Hb H0 D o
 | .nx _,h=>λHs H U r=>h _ _ _ (RS.unbase x r)
 | .bk _,h=>λHs H U r=>h _ _ _ (RS.unbase x r)
 | .ct _,h=>λHs H U r=>h _ _ _ (RS.unbase x r)
 | .rt _,h=>by
  cases fr with
  |true=>exact λa Hs H e n n' t=>h a Hs H (x.unbase e) n n' t
  |false=>exact λa Hs H e r=>h a Hs H (x.unbase e) r
instance {tb:TS}{i:MA}{g:MG}{f:MS}[si:qs wi i][sg:qV tg ts g][sf:u0 fr tb f]:u0 fr (tFor wi tg tb) (xQ i g f) where
 h:=λe Hs0 H0 _ _ _ rs D q=>by
  obtain ⟨xs,ex,e1⟩:=bind_some e;refine si.h ex rs λJ Hs1 H1 x1 ok=>?_;have rs1:=rs.go x1;have q1:=OutK.unbase rs1.ext q;refine ⟨λk m U H=>m=xs.length-k/\k<=xs.length/\∃ Hs ε,RS Hs1 H0 Hs H U ε/\qf g f (xs.drop k) ε=some _,⟨xs.length,by simp,uT _,Hs1,_,rs1.rebase,e1⟩,?_⟩;rintro k m U H ⟨rfl,hk,Hs,ε,r,el⟩;by_cases hlt:k<xs.length
  ·have hd:xs.drop k=xs[k]::xs.drop (k+1):=yf hlt;rw [hd] at el;unfold qf at el;obtain ⟨ε1,eg,el1⟩:=bind_some el;obtain ⟨o,eo,el2⟩:=bind_some el1;obtain ⟨go,yl⟩:=ok.go k xs[k] Hs H (by simp [hlt]) r.ext.s1 r.ext.s3;refine .inr ⟨go,λσ' H'=>k+1<=xs.length/\∃ Hs ε,RS Hs1 H0 Hs H' σ' ε/\qf g f (xs.drop (k+1)) ε=some _,λσ' H' p=>⟨xs.length-(k+1),by omega,rfl,p.1,p.2⟩,λv H2 y=>?_⟩;obtain ⟨Hs2,x2,r2⟩:=yl v H2 y;refine sg.h eg (r.go x2) r2 λσ2 rs2 _=>sf.h eo rs2 ?_;cases o with
   |nx ε2=>exact λHs3 H3 σ3 r3=>⟨hlt,Hs3,ε2,r3,el2⟩
   |ct ε2=>exact λHs3 H3 σ3 r3=>⟨hlt,Hs3,ε2,r3,el2⟩
   |bk ε2=>cases el2;exact q1
   |rt y=>cases el2;exact q1
  ·have ek:k=xs.length:=by omega
   subst ek;rw [uW] at el;unfold qf at el;cases el;exact .inl ⟨ok.stop Hs H r.ext.s1 r.ext.s3,q1 _ _ _ r⟩
def k6 (cap:List (Option Nat))(ε:ME):ME:=cap.map λo=>match o with
 |none=> .no
 |some i=>(ε[i]?).getD .no
def qG (g:MG)(c:MB)(f:M)(ε0:ME):List PV->Option (List PV)
 |[]=>some []
 |x::xs=>(g x ε0).bind λε1=>(c ε1).bind λb=>if b=true then (f ε1).bind λy=>(qG g c f ε0 xs).bind λys=>some (y::ys) else qG g c f ε0 xs
def dYes:MB:=λ_=>some true
instance:r6 tYes dYes where
 h:=λe _ _ _ _ _ rs _ q=>by cases e;exact q _ _ (.refl rs.sub)
def xM (cap:List (Option Nat))(ts:List Nat):Bool:=decide (cap.filterMap id).Nodup&&ts.all λi=>decide (cap[i]?=some none)
def zw (cap:List (Option Nat))(ts:List Nat)(i:MA)(g:MG)(c:MB)(f:M):M:=λε=>(i ε).bind λxs=>if xM cap ts=true/\xs.length<=lim then (qG g c f (k6 cap ε) xs).bind λys=>some (.lst ys) else none
theorem RS.cap {cap:List (Option Nat)}(hc:(cap.filterMap id).Nodup)(r:RS Hs0 H0 Hs H U ε):RS Hs0 H0 Hs H (w4 cap U) (k6 cap ε):=by
 have inj:∀(i j k:Nat),cap[i]?=some (some k)->cap[j]?=some (some k)->i=j:=by
  clear r
  induction cap with
  |nil=>intro i j k h;simp at h
  |cons o cap ih =>
   intro i j k hi hj;have no:∀(l:Nat),o=some k->cap[l]?=some (some k)->False:=λl ho hl=>by
    subst ho;rw [List.filterMap_cons_some (by rfl)] at hc;exact (ya.mp hc).1 (yn.mpr ⟨some k,List.mem_of_getElem? hl,rfl⟩)
   have hc':(cap.filterMap id).Nodup:=by
    cases o with
    |none=>rwa [List.filterMap_cons_none (by rfl)] at hc
    |some m=>rw [List.filterMap_cons_some (by rfl)] at hc;exact (ya.mp hc).2
   cases i with
   |zero =>
    cases j with
    |zero=>rfl
    |succ j=>exact (no j (by simpa using hi) (by simpa using hj)).elim
   |succ i =>
    cases j with
    |zero=>exact (no i (by simpa using hj) (by simpa using hi)).elim
    |succ j=>rw [ih hc' i j k (by simpa using hi) (by simpa using hj)]
 have at1:∀(i:Nat)(sl:MSlot),(k6 cap ε)[i]?=some sl->sl = .no∨∃ k,cap[i]?=some (some k)/\ε[k]?=some sl:=by
  intro i sl h;unfold k6 at h;rw [yO] at h;cases ho:cap[i]? with
  |none=>rw [ho] at h;cases h
  |some o =>
   rw [ho] at h;cases o with
   |none=>cases h;exact .inl rfl
   |some k =>
    cases hk:ε[k]? with
    |none=>simp only [ye,hk,uR] at h;cases h;exact .inl rfl
    |some s=>simp only [ye,hk,Option.getD_some] at h;cases h;exact .inr ⟨k,rfl,hk⟩
 have at2:∀(i k:Nat),cap[i]?=some (some k)->∀ v,U[k]?=some (some v)->(w4 cap U)[i]?=some (some v):=by intro i k h v e;unfold w4;rw [yO,h];simp [e]
 have at3:∀(i k:Nat)(v:V),cap[i]?=some (some k)->(w4 cap U)[i]?=some (some v)->U[k]?=some (some v):=by
  intro i k v h e;unfold w4 at e;rw [yO,h] at e;simp only [ye,yi,Option.some.injEq] at e;cases hs:U[k]? with
  |none=>rw [hs] at e;cases e
  |some o=>rw [hs] at e;simp at e;rw [e]
 refine ⟨r.ext,λi x h=>?_,λi x h=>?_,λi j x y a h1 h2 h3 h4=>?_,by unfold w4 k6;rw [yR,yR],λi x h=>?_⟩
 ·rcases at1 i _ h with z|⟨k,hk,e⟩
  ·cases z
  ·obtain ⟨v,hv,rv⟩:=r.sh k x e;exact ⟨v,at2 i k hk v hv,rv⟩
 ·rcases at1 i _ h with z|⟨k,hk,e⟩
  ·cases z
  ·obtain ⟨v,hv,rv⟩:=r.ow k x e;exact ⟨v,at2 i k hk _ hv,rv⟩
 ·rcases at1 i _ h1 with z|⟨k,hk,e⟩
  ·cases z
  ·rcases at1 j _ h2 with z|⟨l,hl,e'⟩
   ·cases z
   ·have kl:=r.nd k l x y a e e' (at3 i k _ hk h3) (at3 j l _ hl h4);subst kl;exact inj i j k hk hl
 ·rcases at1 i _ h with z|⟨k,hk,e⟩
  ·cases z
  ·obtain ⟨v,hv,rv⟩:=r.bo k x e;exact ⟨v,at2 i k hk _ hv,rv⟩
theorem Reps.snoc (r:Reps H xs vs)(p:Rep H x v):Reps H (xs++[x]) (vs++[v]):=r.append (.one p)
instance {tt:TT}{cap:List (Option Nat)}{i:MA}{g:MG}{f:M}[si:qs wi i][sg:qV tg ts g][sc:r6 tt c][sf:y9 te f]:i0 (zT wi tg tt te cap) (zw cap ts i g c f) where
 h:=λe Hs0 H0 Hs H U rs Q q=>by
  obtain ⟨xs,ex,e1⟩:=bind_some e;split at e1
  ·rename_i hcl;obtain ⟨hcap,hl⟩:=hcl;unfold xM at hcap;rw [ym] at hcap;obtain ⟨ys,ey,e2⟩:=bind_some e1;cases e2;refine si.h ex rs λJ Hs1 H1 x1 ok=>?_;have rc:=((rs.go x1).cap (of_decide_eq_true hcap.1)).rebase;have wk:∀ i∈ts,(w4 cap U)[i]?=some none:=λi hi=>by
    unfold w4;rw [yO,of_decide_eq_true (yb.mp hcap.2 i hi)];rfl
   refine ⟨λk m zs H=>m=xs.length-k/\k<=xs.length/\∃ Hs2 ws,Ext Hs1 H1 Hs2 H/\RS Hs1 H0 Hs2 H (w4 cap U) (k6 cap _)/\Reps Hs2 ws zs/\ws.length<=k/\∃ rest,qG g c f (k6 cap _) (xs.drop k)=some rest/\ys=ws++rest,
    ⟨xs.length,by simp,uT _,Hs1,[],.refl x1.s3,rc,.nil,yT _,ys,ey,rfl⟩,?_⟩
   rintro k m zs H2 ⟨rfl,hk,Hs2,ws,x2,r2,rz,hw,rest,er,eys⟩;refine ⟨t0 (by rw [rz.length];omega),?_⟩;by_cases hlt:k<xs.length
   ·have hd:xs.drop k=xs[k]::xs.drop (k+1):=yf hlt;rw [hd] at er;unfold qG at er;obtain ⟨ε1,eg,er1⟩:=bind_some er;obtain ⟨b,eb,er2⟩:=bind_some er1;obtain ⟨go,yl⟩:=ok.go k xs[k] Hs2 H2 (by simp [hlt]) x2.s1 x2.s3;refine .inr ⟨go,λv H3 y=>?_⟩;obtain ⟨Hs3,x3,r3⟩:=yl v H3 y;refine sg.h eg (r2.go x3) r3 λσ2 rs2 bt=>⟨bt.wk wk,sc.h eb rs2 λHs4 H4 x4=>?_⟩;cases b with
    |true =>
     rw [if_pos rfl] at er2;obtain ⟨z,ez,er3⟩:=bind_some er2;obtain ⟨rest',er4,er5⟩:=bind_some er3;cases er5;refine o9 (sf.h ez (rs2.go x4) λu Hs5 H5 x5 r5=>⟨xs.length-(k+1),by omega,rfl,hlt,Hs5,ws++[z],x2.trans (x3.trans (x4.trans x5)),((r2.go x3).go x4).go x5,?_,?_,rest',er4,?_⟩)
     ·exact (rz.mono (x3.s1.trans (x4.s1.trans x5.s1))).snoc r5
     ·rw [yJ];simp;omega
     ·rw [List.append_assoc];exact eys
    |false=>rw [if_neg yY] at er2;exact o8 ⟨xs.length-(k+1),by omega,rfl,hlt,Hs4,ws,x2.trans (x3.trans x4),(r2.go x3).go x4,rz.mono (x3.s1.trans x4.s1),by omega,rest,er2,eys⟩
   ·have ek:k=xs.length:=by omega
    subst ek;rw [uW] at er;unfold qG at er;cases er;refine .inl ⟨ok.stop Hs2 H2 x2.s1 x2.s3,λD hD=>?_⟩;rw [yw] at eys;subst eys;have x12:=x1.trans x2;exact q D Hs2 _ (x12.trans (.newO x2.s3 hD)) (x12.s2.free hD) (x2.s3.free hD) ⟨zs,j7,rz⟩
  ·cases e1
def dFn (n k:Nat)(f:MS):List PV->Option PV:=λxs=>if xs.length=k then (f (xs.map .sh++List.replicate (n-k) .no)).bind λo=>match o with
 | .rt y=>some y
 | .nx _=>some (.at .non)
 |_=>none else none
def o4 (n k:Nat)(f:MS):List PV->Option PV:=λxs=>if xs.length=k then (f (xs.map .sh++List.replicate (n-k) .no)).bind λo=>match o with
 | .rt y=>some y
 |_=>none else none
end Mi
namespace Mi
open PySem PySem.Spec PyProof.Rows L2
variable{N ps:List Str}{qual x:Str}{st:Stmt}{f:Addr}{fd:FuncData}{k:Nat}{b:MS}{m:List PV->Option PV}
theorem qD {Hs H:Hp}{xs:List PV}{vs:List V}(s:Same Hs H)(r:Reps Hs xs vs):RS Hs H Hs H (L2.b8 N vs) (xs.map .sh++List.replicate (N.length-xs.length) .no):=by
 have el:=r.length;have at1:∀(i:Nat)(sl:MSlot),(xs.map MSlot.sh++List.replicate (N.length-xs.length) .no)[i]?=some sl->sl = .no∨∃ x,xs[i]?=some x/\sl = .sh x:=by
  intro i sl h;by_cases hi:i<xs.length
  ·rw [yg (by rw [yR];exact hi),yO] at h;obtain ⟨x,hx,rfl⟩:=yA.mp h;exact .inr ⟨x,hx,rfl⟩
  ·rw [uZ (by rw [yR];omega),uV] at h;split at h
   ·cases h;exact .inl rfl
   ·cases h
 refine ⟨.refl s,λi x h=>?_,λi x h=>?_,λi j x y a h1 _ _ _=>?_,?_,λi x h=>?_⟩
 ·rcases at1 i _ h with z|⟨y,hy,z⟩
  ·cases z
  ·cases z;obtain ⟨v,hv,rv⟩:=r.get hy;refine ⟨v,?_,rv⟩;unfold L2.b8;rw [yg (by rw [yR];exact (yH.mp hv).1),yO,hv];rfl
 ·rcases at1 i _ h with z|⟨y,hy,z⟩<;>cases z
 ·rcases at1 i _ h1 with z|⟨y,hy,z⟩<;>cases z
 ·unfold L2.b8;rw [yJ,yJ,yR,yR,List.length_replicate,List.length_replicate,el]
 ·rcases at1 i _ h with z|⟨y,hy,z⟩<;>cases z
section
variable {P:Program}{w:World}{K:Fg}{mg:Str->Option Value}{base:Heap}
theorem okP (F:Fun K x qual st f fd)(S:u5 N ps (z8 st))(hm:m=dFn N.length ps.length b)(hb:∀(cdv:Value)(A:Around)(outer:List Env)(s:Shared)(H:Hp)(E:XK),Room k (A.deeper (envOfC qual (z8 st) s.heap.objs.size f cdv)) -> ∃ t,PSs (p0 j5 P w K mg base N qual (z8 st) f cdv A outer s H E).nox (b7 st) t/\u0 false t b):FnOk P w K mg base j5 (k+1) f fd ps (spP m):=by
 subst hm;refine F.ok S (λvs H Q E h=>?_) (λcdv A outer s H vs Q E hr h=>?_)
 ·obtain ⟨Hs,xs,y,_,r,e,_⟩:=h;unfold dFn at e;split at e
  ·rename_i hl;rw [r.length];exact hl
  ·cases e
 ·obtain ⟨Hs,xs,y,sm,r,e,q⟩:=h;obtain ⟨t,ht,sem⟩:=hb cdv A outer s H E hr;refine ⟨t,ht,?_⟩;unfold dFn at e;split at e
  ·rename_i hl;obtain ⟨o,eo,e1⟩:=bind_some e;refine sem.h eo (by rw [<- hl];exact qD sm r) ?_;cases o with
   |rt z=>cases e1;exact λv Hs' H' x rv=>q v Hs' H' x rv
   |nx ε=>cases e1;exact λHs' H' U rs=>q _ Hs' H' rs.ext (rep_at.mpr rfl)
   |bk ε=>cases e1
   |ct ε=>cases e1
  ·cases e
theorem okO (F:Fun K x qual st f fd)(S:u5 N ps (z8 st))(hm:m=o4 N.length ps.length b)(hb:∀(cdv:Value)(A:Around)(outer:List Env)(s:Shared)(H:Hp)(E:XK),Room k (A.deeper (envOfC qual (z8 st) s.heap.objs.size f cdv)) -> ∃ t,PSs (p0 j5 P w K mg base N qual (z8 st) f cdv A outer s H E).nox (b7 st) t/\u0 true t b):FnOk P w K mg base j5 (k+1) f fd ps (spO m):=by
 subst hm;refine F.ok S (λvs H Q E h=>?_) (λcdv A outer s H vs Q E hr h=>?_)
 ·obtain ⟨Hs,xs,y,_,r,e,_⟩:=h;unfold o4 at e;split at e
  ·rename_i hl;rw [r.length];exact hl
  ·cases e
 ·obtain ⟨Hs,xs,y,sm,r,e,q⟩:=h;obtain ⟨t,ht,sem⟩:=hb cdv A outer s H E hr;refine ⟨t,ht,?_⟩;unfold o4 at e;split at e
  ·rename_i hl;obtain ⟨o,eo,e1⟩:=bind_some e;refine sem.h eo (by rw [<- hl];exact qD sm r) ?_;cases o with
   |rt z=>cases e1;exact λa Hs' H' x n n' t=>q a Hs' H' x n n' t
   |nx ε=>cases e1
   |bk ε=>cases e1
   |ct ε=>cases e1
  ·cases e
end
end Mi
namespace Mi
open PySem L2
variable{K:Fg}{ta:TA}{H H0 Hs Hs0:Hp}{xs ys:List PV}{x y:PV}{v:V}{te:TE}{vs:List V}{l u:ME->Option (Option Int)}{o:HO}{f:M}{tt:TT}{G g:MG}{tb:TS}{S:List Addr}{U σ':St}{ε:ME}{n:Int}{E:XK}{pre:List PV->Prop}{R:List PV->PV->Prop}{wi:TI}{tg:TG}{ts:List Nat}{k:Nat}{N:List Str}{qual:Str}{st:Stmt}{fd:FuncData}
theorem zd {X:Cx}{a:Expr}{ta:TE}(h:X.K=K)(ha:PE X a ta)(he:∀ whole,isTrue a X.env whole=(do let v <- whole;standAt a.pos;holding [v] (truthy v))):PT X a (tTru K ta):=Jz h ha he
abbrev qm:PV->PV->Option PV:=pI λi j=>some (.int (i-j))
abbrev pLt:PV->PV->Option PV:=pI λi j=>some (.bl (decide (i<j)))
abbrev pLe:PV->PV->Option PV:=pI λi j=>some (.bl (decide (i<=j)))
abbrev pGt:PV->PV->Option PV:=pI λi j=>some (.bl (decide (j<i)))
instance {i j:Int}:Decidable (qP i j):=by unfold qP;infer_instance
abbrev pMod:PV->PV->Option PV:=pI λi j=>if 0<j then some (.int (i % j)) else none
abbrev pPow:PV->PV->Option PV:=pI λi j=>if qP i j then some (.int (i ^ j.toNat)) else none
abbrev y7:PV->Option PV:=pU λi=> .int (-i)
theorem Reps.nil_of (r:Reps H xs []):xs=[]:=List.length_eq_zero_iff.mp r.length.symm
def j6:PV->PV->Option PV
 | .at (.int i),.at (.int j)=>some (.at (.int (i+j)))
 | .at (.str x),.at (.str y)=>if x.length+y.length<=lim then some (.at (.str (x++y))) else none
 | .lst xs,.lst ys=>if xs.length+ys.length<=lim then some (.lst (xs++ys)) else none
 | .tup xs,.tup ys=>if xs≠[]/\xs.length+ys.length<=lim then some (.tup (xs++ys)) else none
 |_,_=>none
instance :i9 (jE K) j6 where
 h:=λ{x y z} e {Hs H v w} s a b {Q} q=>by
  unfold j6 at e;split at e
  ·cases e;exact .inl ⟨_,_,j8 a,j8 b,q _ _ _ (.refl s) (rep_at.mpr rfl)⟩
  ·split at e
   ·rename_i hl;cases e;exact .inr (.inl ⟨_,_,j8 a,j8 b,t0 hl,q _ _ _ (.refl s) (rep_at.mpr rfl)⟩)
   ·cases e
  ·split at e
   ·rename_i hl;cases e;obtain ⟨p,vs,rfl,e1,r1⟩:=c5 s a;obtain ⟨p',ws,rfl,e2,r2⟩:=c5 s b;refine .inr (.inr (.inl ⟨p,p',vs,ws,rfl,rfl,SqL.of e1,SqL.of e2,t0 (by rw [r1.length,r2.length];exact hl),λl hl=>?_⟩));exact q _ _ _ (.new s hl) (rep_lst.mpr ⟨l,_,rfl,j7,(r1.append r2).mono (Ext.new s hl).s1⟩)
   ·cases e
  ·split at e
   ·rename_i hl;cases e;obtain ⟨p,vs,rfl,e1,r1⟩:=n9 s a;obtain ⟨p',ws,rfl,e2,r2⟩:=n9 s b;have hn:vs≠[]:=λz=>by
     have h1:=r1.length;rw [z] at h1;exact hl.1 (List.length_eq_zero_iff.mp h1.symm)
    refine .inr (.inr (.inr ⟨p,p',vs,ws,rfl,rfl,SqT.of e1,SqT.of e2,hn,t0 (by rw [r1.length,r2.length];exact hl.2),λz=>?_,λz l hl=>?_⟩))
    ·subst z;cases r2.nil_of;rw [yw] at q;rcases a with a|⟨_,_,_,t⟩
     ·exact q _ _ _ (.refl s) a
     ·exact t.elim
    ·exact q _ _ _ (.new s hl) (rep_tup.mpr ⟨l,_,rfl,j7,(r1.append r2).mono (Ext.new s hl).s1⟩)
   ·cases e
  ·cases e
instance :SemRO (jE K) xW where
 h:=λ{x y z} e {Hs H v w} s a b {Q} q=> .inr (.inr (.inl (SemRO.h (r:=zO K) e s a b q)))
def u9:List PV->Option PV
 |[.at (.str x)]=>if x.length<=lim then some (.at (.int x.length)) else none
 |[.lst xs]=>some (.at (.int xs.length))
 |[.tup xs]=>some (.at (.int xs.length))
 |[.dk ks _]=>some (.at (.int ks.length))
 |_=>none
instance :qU (rLen K) u9 where
 h:=λ{xs z} e {Hs H vs} s r {Q} q=>by
  unfold u9 at e;split at e
  ·split at e
   ·rename_i hl;cases e;obtain ⟨v,rfl,a⟩:=qC r;cases j8 a;exact .inl ⟨_,_,rfl,⟨t0 hl,rfl⟩,q _ _ _ (.refl s) (rep_at.mpr rfl)⟩
   ·cases e
  ·cases e;obtain ⟨v,rfl,a⟩:=qC r;obtain ⟨p,ws,rfl,e1,r1⟩:=c5 s a;exact .inl ⟨_,_,rfl,.inl ⟨ws,SqL.of e1,rfl⟩,q _ _ _ (.refl s) (rep_at.mpr (by rw [r1.length]))⟩
  ·cases e;obtain ⟨v,rfl,a⟩:=qC r;obtain ⟨p,ws,rfl,e1,r1⟩:=n9 s a;exact .inl ⟨_,_,rfl,.inr ⟨ws,SqT.of e1,rfl⟩,q _ _ _ (.refl s) (rep_at.mpr (by rw [r1.length]))⟩
  ·cases e;obtain ⟨v,rfl,a⟩:=qC r;obtain ⟨p,kvs,rfl,e1,k,r1⟩:=jF s a;exact .inr ⟨p,kvs,rfl,e1,q _ _ _ (.refl s) (rep_at.mpr (by rw [<- k,yR]))⟩
  ·cases e
def qL:List PV->Option PV
 |[.lst xs]=>some (.lst xs)
 |[.tup xs]=>some (.lst xs)
 |_=>none
instance :vf (wT K) qL where
 h:=λ{xs z} e {Hs H vs} s r {Q} q=>by
  unfold qL at e;split at e
  ·cases e;obtain ⟨v,rfl,a⟩:=qC r;obtain ⟨p,ws,rfl,e1,r1⟩:=c5 s a;exact ⟨p,ws,rfl,.inl (SqL.of e1),λl hl=>q l _ _ (.newO s hl) hl (s.free hl) ⟨ws,j7,r1⟩⟩
  ·cases e;obtain ⟨v,rfl,a⟩:=qC r;obtain ⟨p,ws,rfl,e1,r1⟩:=n9 s a;exact ⟨p,ws,rfl,.inr (SqT.of e1),λl hl=>q l _ _ (.newO s hl) hl (s.free hl) ⟨ws,j7,r1⟩⟩
  ·cases e
def tyP:PV->Option String
 | .at .non=>some "NoneType"
 | .at (.bl _)=>some "bool"
 | .at (.int _)=>some "int"
 | .at (.str _)=>some "str"
 | .lst _=>some "list"
 | .tup _=>some "tuple"
 | .dk _ _=>some "dict"
 |_=>none
theorem Vp {T:String}(s:Same Hs H)(r:RepB Hs H x v)(e:tyP x=some T):d4 K H v (.type T):=by
 unfold tyP at e;split at e
 ·cases e;cases j8 r;exact .non
 ·cases e;cases j8 r;exact .bl _
 ·cases e;cases j8 r;exact .int _
 ·cases e;cases j8 r;exact .str _
 ·cases e;obtain ⟨p,ws,rfl,e1,r1⟩:=c5 s r;exact .lst e1
 ·cases e;obtain ⟨p,ws,rfl,e1,r1⟩:=n9 s r;exact .tup e1
 ·cases e;obtain ⟨p,ws,rfl,e1,_⟩:=jF s r;exact .dK e1
 ·cases e
def qz:List PV->Option PV
 |[x,.at (.ty n)]=>(tyP x).bind λT=>(tyB T n).bind λb=>some (.at (.bl b))
 |_=>none
instance :qU (rIsi K) qz where
 h:=λ{xs z} e {Hs H vs} s r {Q} q=>by
  unfold qz at e;split at e
  ·obtain ⟨T,eT,e1⟩:=bind_some e;obtain ⟨b,eb,e2⟩:=bind_some e1;cases e2;obtain ⟨v,w,rfl,a,c⟩:=jG r;cases j8 c;exact ⟨v,_,T,b,rfl,Vp s a eT,eb,q _ _ _ (.refl s) (rep_at.mpr rfl)⟩
  ·cases e
def bls:List PV->Option (List Bool)
 |[]=>some []
 | .at (.bl b)::xs=>(bls xs).map (b::·)
 |_::_=>none
theorem vB:∀{xs:List PV}{bs:List Bool},bls xs=some bs->xs=bs.map λb=> .at (.bl b)
 |[],_,h=>by cases h;rfl
 |x::xs,bs,h=>by
  unfold bls at h;split at h
  ·rename_i heq;cases heq
  ·rename_i b ys heq;injection heq with h1 h2;obtain ⟨r,e,rfl⟩:=yA.mp h;subst h2;rw [h1,List.map_cons,vB e]
  ·cases h
def pAll:List PV->Option PV
 |[.lst xs]=>(bls xs).bind λbs=>some (.at (.bl (bs.all id)))
 |_=>none
instance :qU (wR K) pAll where
 h:=λ{xs z} e {Hs H vs} s r {Q} q=>by
  unfold pAll at e;split at e
  ·obtain ⟨bs,eb,e1⟩:=bind_some e;cases e1;obtain ⟨v,rfl,a⟩:=qC r;obtain ⟨p,ws,rfl,e1,r1⟩:=c5 s a;rw [vB eb,show (bs.map λb=>PV.at (.bl b))=(bs.map V.bl).map .at by rw [List.map_map];rfl] at r1;cases r1.ats;exact ⟨p,bs,rfl,SqL.of e1,q _ _ _ (.refl s) (rep_at.mpr rfl)⟩
  ·cases e
def pMin2:List PV->Option PV
 |[.at (.int i),.at (.int j)]=>some (.at (.int (if j<i then j else i)))
 |_=>none
def xX:List PV->Option PV
 |[.at (.int i),.at (.int j)]=>some (.at (.int (if j > i then j else i)))
 |_=>none
instance:qU wU xX where
 h:=λ{xs z} e {Hs H vs} s r {Q} q=>by
  unfold xX at e;split at e
  ·cases e;obtain ⟨v,w,rfl,a,b⟩:=jG r;cases j8 a;cases j8 b;exact ⟨_,_,rfl,q _ _ _ (.refl s) (rep_at.mpr rfl)⟩
  ·cases e
def i6 (f:PV->PV->Option Bool):List PV->List PV->Option Bool
 |x::xs,y::ys=>(f x y).bind λa=>(i6 f xs ys).bind λb=>some (a&&b)
 |_,_=>some true
def peq0:PV->PV->Option Bool
 | .at u,.at v=>if v7 u=true/\v7 v=true then some (eqV u v) else none
 |_,_=>none
def peq1 (f:PV->PV->Option Bool):PV->PV->Option Bool
 | .at u,.at v=>if v7 u=true/\v7 v=true then some (eqV u v) else none
 | .lst xs,.lst ys=>if xs.length=ys.length then i6 f xs ys else some false
 | .tup xs,.tup ys=>(i6 f xs ys).bind λb=>some (b&&xs.length==ys.length)
 | .lst _,.tup _=>some false
 | .tup _,.lst _=>some false
 | .at u,.lst _=>if v7 u=true then some false else none
 | .at u,.tup _=>if v7 u=true then some false else none
 | .lst _,.at u=>if v7 u=true then some false else none
 | .tup _,.at u=>if v7 u=true then some false else none
 |_,_=>none
def peq:Nat->PV->PV->Option Bool
 |0=>peq0
 |n+1=>peq1 (peq n)
theorem jA {K:Fg}{Hs H:Hp}{n:Nat}(s:Same Hs H)(ih:∀{x y:PV}{v w:V}{b:Bool},peq n x y=some b->Rep Hs x v->Rep Hs y w->EqP K H n v w b):∀{xs ys:List PV}{vs ws:List V}{b:Bool},i6 (peq n) xs ys=some b->Reps Hs xs vs->Reps Hs ys ws->∃ e:Nat->Bool,(∀ j (h1:j<vs.length) (h2:j<ws.length),EqP K H n vs[j] ws[j] (e j))/\b=(List.range (min vs.length ws.length)).all e
 |[],ys,vs,ws,b,h,r1,r2=>by
  cases reps_nil.mp r1;unfold i6 at h;cases h;exact ⟨λ_=>true,λj h1=>absurd h1 (Nat.not_lt_zero _),by simp⟩
 |x::xs,[],vs,ws,b,h,r1,r2=>by
  cases reps_nil.mp r2;unfold i6 at h;cases h;exact ⟨λ_=>true,λj h1 h2=>absurd h2 (Nat.not_lt_zero _),by simp⟩
 |x::xs,y::ys,vs,ws,b,h,r1,r2=>by
  obtain ⟨v,vr,rfl,p1,q1⟩:=reps_cons.mp r1;obtain ⟨w,wr,rfl,p2,q2⟩:=reps_cons.mp r2;unfold i6 at h;obtain ⟨a,ea,h1⟩:=bind_some h;obtain ⟨c,ec,h2⟩:=bind_some h1;cases h2;obtain ⟨e,he,hb⟩:=jA s ih ec q1 q2;refine ⟨λj=>match j with|0=>a|j+1=>e j,λj h1 h2=>?_,?_⟩
  ·cases j with
   |zero=>exact ih ea p1 p2
   |succ j=>exact he j (by simpa using h1) (by simpa using h2)
  ·rw [yC,yC,Nat.succ_min_succ,List.range_succ_eq_map,List.all_cons,List.all_map,hb];rfl
theorem jy {K:Fg}{Hs H:Hp}(s:Same Hs H):∀(n:Nat){x y:PV}{v w:V}{b:Bool},peq n x y=some b->RepB Hs H x v->RepB Hs H y w->EqP K H n v w b
 |0,x,y,v,w,b,h,r1,r2=>by
  unfold peq peq0 at h;split at h
  ·split at h
   ·rename_i hf;cases h;cases j8 r1;cases j8 r2;exact ⟨hf.1,hf.2,rfl⟩
   ·cases h
  ·cases h
 |n+1,x,y,v,w,b,h,r1,r2=>by
  have ih:∀{x y:PV}{v w:V}{b:Bool},peq n x y=some b->Rep Hs x v->Rep Hs y w->EqP K H n v w b:=λh r1 r2=>jy s n h (.inl r1) (.inl r2);unfold peq peq1 at h;split at h
  ·split at h
   ·rename_i hf;cases h;cases j8 r1;cases j8 r2;exact .inl ⟨hf.1,hf.2,rfl⟩
   ·cases h
  ·obtain ⟨a,vs,rfl,e1,q1⟩:=c5 s r1;obtain ⟨c,ws,rfl,e2,q2⟩:=c5 s r2;refine .inr (.inl ⟨a,c,vs,ws,rfl,rfl,SqL.of e1,SqL.of e2,?_⟩);split at h
   ·rename_i hl;obtain ⟨e,he,hb⟩:=jA s ih h q1 q2;have hl':vs.length=ws.length:=by rw [q1.length,q2.length,hl]
    exact .inr ⟨hl',e,he,by rw [hb,<- hl',Nat.min_self]⟩
   ·rename_i hl;cases h;exact .inl ⟨by rw [q1.length,q2.length];exact hl,rfl⟩
  ·obtain ⟨a,vs,rfl,e1,q1⟩:=n9 s r1;obtain ⟨c,ws,rfl,e2,q2⟩:=n9 s r2;obtain ⟨d,ed,h1⟩:=bind_some h;cases h1;obtain ⟨e,he,hb⟩:=jA s ih ed q1 q2;exact .inr (.inr (.inl ⟨a,c,vs,ws,rfl,rfl,SqT.of e1,SqT.of e2,e,he,by rw [hb,q1.length,q2.length]⟩))
  ·cases h;obtain ⟨a,vs,rfl,e1,q1⟩:=c5 s r1;obtain ⟨c,ws,rfl,e2,q2⟩:=n9 s r2;exact .inr (.inr (.inr (.inl ⟨a,c,vs,ws,rfl,rfl,SqL.of e1,SqT.of e2,rfl⟩)))
  ·cases h;obtain ⟨a,vs,rfl,e1,q1⟩:=n9 s r1;obtain ⟨c,ws,rfl,e2,q2⟩:=c5 s r2;exact .inr (.inr (.inr (.inr (.inl ⟨a,c,vs,ws,rfl,rfl,SqT.of e1,SqL.of e2,rfl⟩))))
  ·split at h
   ·rename_i hf;cases h;cases j8 r1;obtain ⟨c,ws,rfl,e2,q2⟩:=c5 s r2;exact .inr (.inr (.inr (.inr (.inr (.inl ⟨c,ws,hf,rfl,.inl (SqL.of e2),rfl⟩)))))
   ·cases h
  ·split at h
   ·rename_i hf;cases h;cases j8 r1;obtain ⟨c,ws,rfl,e2,q2⟩:=n9 s r2;exact .inr (.inr (.inr (.inr (.inr (.inl ⟨c,ws,hf,rfl,.inr (SqT.of e2),rfl⟩)))))
   ·cases h
  ·split at h
   ·rename_i hf;cases h;cases j8 r2;obtain ⟨c,ws,rfl,e2,q2⟩:=c5 s r1;exact .inr (.inr (.inr (.inr (.inr (.inr ⟨c,ws,hf,rfl,.inl (SqL.of e2),rfl⟩)))))
   ·cases h
  ·split at h
   ·rename_i hf;cases h;cases j8 r2;obtain ⟨c,ws,rfl,e2,q2⟩:=n9 s r1;exact .inr (.inr (.inr (.inr (.inr (.inr ⟨c,ws,hf,rfl,.inr (SqT.of e2),rfl⟩)))))
   ·cases h
  ·cases h
def pEq:PV->PV->Option PV:=λx y=>(peq 6 x y).bind λb=>some (.at (.bl b))
def pNe:PV->PV->Option PV:=λx y=>(peq 6 x y).bind λb=>some (.at (.bl (!b)))
instance :i9 (rEqD K 6 false) pEq where
 h:=λ{x y z} e {Hs H v w} s a b {Q} q=>by
  obtain ⟨c,ec,e1⟩:=bind_some e;cases e1;exact ⟨c,jy s 6 ec a b,q _ _ _ (.refl s) (rep_at.mpr rfl)⟩
instance :i9 (rEqD K 6 true) pNe where
 h:=λ{x y z} e {Hs H v w} s a b {Q} q=>by
  obtain ⟨c,ec,e1⟩:=bind_some e;cases e1;exact ⟨c,jy s 6 ec a b,q _ _ _ (.refl s) (rep_at.mpr rfl)⟩
class SemP (to:TO)(f:ME->Option (Option Int)):Prop where
 h:∀{ε y},f ε=some y->∀{Hs0 H0 Hs H U},RS Hs0 H0 Hs H U ε->∀{Q:Option Int->Hp->Prop},(∀ Hs' H',Ext Hs H Hs' H'->Q y H')->to U H Q
def pNo:ME->Option (Option Int):=λ_=>some none
def pInt:PV->Option Int
 | .at (.int i)=>some i
 |_=>none
def pSo (a:M):ME->Option (Option Int):=λε=>(a ε).bind λx=>(pInt x).bind λi=>some (some i)
instance:SemP Qp pNo where
 h:=λe _ _ _ _ _ rs _ q=>by cases e;exact q _ _ (.refl rs.sub)
instance {a:M}[sa:p8 te a]:SemP (Qr te) (pSo a) where
 h:=λe _ _ _ _ _ rs _ q=>by
  obtain ⟨x,ex,e1⟩:=bind_some e;obtain ⟨i,ei,e2⟩:=bind_some e1;cases e2;unfold pInt at ei;split at ei
  ·cases ei;exact sa.h ex rs λv Hs1 H1 x1 r1=>⟨_,j8 r1,q _ _ x1⟩
  ·cases ei
def qu (xs:List PV)(lo hi:Option Int):List PV:=(xs.drop (HT.sIx xs.length 0 lo)).take (HT.sIx xs.length xs.length hi-HT.sIx xs.length 0 lo)
theorem Reps.cut (r:Reps H xs vs)(lo hi:Option Int):Reps H (qu xs lo hi) (xh vs lo hi):=by unfold qu xh;rw [r.length];exact (r.drop _).take _
def p9 (a:M)(l u:ME->Option (Option Int)):M:=λε=>(a ε).bind λx=>(l ε).bind λlo=>(u ε).bind λhi=>match x with
 | .lst xs=>some (.lst (qu xs lo hi))
 |_=>none
instance {tl th:TO}{a:M}[sa:p8 te a][sl:SemP tl l][su:SemP th u]:i0 (tSl (rSlL K) te tl th) (p9 a l u) where
 h:=λe _ _ _ _ _ rs _ q=>by
  obtain ⟨x,ex,e1⟩:=bind_some e;obtain ⟨lo,el,e2⟩:=bind_some e1;obtain ⟨hi,eu,e3⟩:=bind_some e2;split at e3
  ·cases e3;refine sa.h ex rs λv Hs1 H1 x1 r1=>sl.h el (rs.go x1) λHs2 H2 x2=>su.h eu ((rs.go x1).go x2) λHs3 H3 x3=>?_;obtain ⟨p,vs,rfl,e1,r⟩:=c5 x3.s3 ((r1.ext x2).ext x3);have x13:=x1.trans (x2.trans x3);exact ⟨p,vs,rfl,SqL.of e1,λd hd=>q d _ _ (x13.trans (.newO x3.s3 hd)) (x13.s2.free hd) (x3.s3.free hd) ⟨_,j7,r.cut lo hi⟩⟩
  ·cases e3
def m9 (n:Nat):List PV->List PV
 |[]=>[]
 |x::xs=> .tup [.at (.int n),x]::m9 (n+1) xs
theorem vT:∀{xs:List PV}{n i:Nat}{z:PV},(m9 n xs)[i]?=some z->∃ x,xs[i]?=some x/\z = .tup [.at (.int ((n+i:Nat):Int)),x]
 |[],n,i,z,h=>by simp [m9] at h
 |x::xs,n,0,z,h=>by simp [m9] at h;exact ⟨x,rfl,h.symm⟩
 |x::xs,n,i+1,z,h=>by
  obtain ⟨y,h1,h2⟩:=vT (xs:=xs) (n:=n+1) (i:=i) (z:=z) (by simpa [m9] using h);exact ⟨y,by simpa using h1,by rw [h2,show n+1+i=n+(i+1) by omega]⟩
theorem vU:∀{xs:List PV}{n:Nat},(m9 n xs).length=xs.length
 |[],_=>rfl
 |x::xs,n=>by simp [m9,vU]
theorem XZ {a:Addr}(h:Hs a=some (.lst vs))(r:Reps Hs xs vs):qR (Ite K a) (m9 0 xs) Hs where
 go:=λi x Hs1 H1 e g1 g2=>by
  obtain ⟨y,ey,rfl⟩:=vT e;obtain ⟨v,ev,rv⟩:=r.get ey;refine ⟨⟨vs,v,SqL.of (g2 _ _ (g1 _ _ h)),ev⟩,λw H2 z=>?_⟩;obtain ⟨p,u,hp,rfl,rfl,hu⟩:=z;have e1:=hu vs (SqL.of (g2 _ _ (g1 _ _ h)));rw [ev] at e1;cases e1;refine ⟨_,.new g2 hp,rep_tup.mpr ⟨p,_,rfl,j7,.cons (rep_at.mpr (by rw [Nat.zero_add])) (.one (rv.mono (g1.trans (Ext.new g2 hp).s1)))⟩⟩
 stop:=λHs1 H1 g1 g2=>⟨vs,SqL.of (g2 _ _ (g1 _ _ h)),by rw [r.length,vU];exact yT _⟩
def zy (a:MA):MA:=λε=>(a ε).bind λxs=>match xs with
 |[.lst ys]=>some (m9 0 ys)
 |_=>none
instance {a:MA}[sa:t9 ta a]:qs (ji K ta) (zy a) where
 h:=λe _ _ _ _ _ rs _ q=>by
  obtain ⟨xs,ex,e1⟩:=bind_some e;split at e1
  ·cases e1;refine sa.h ex rs λvs Hs1 H1 x1 r1=>?_;obtain ⟨v,r,rfl,p1,p2⟩:=reps_cons.mp r1;cases reps_nil.mp p2;obtain ⟨p,ws,rfl,hp,rw⟩:=rep_lst.mp p1;exact ⟨p,rfl,⟨ws,SqL.of (x1.s3 _ _ hp)⟩,q _ _ _ x1 (XZ hp rw)⟩
  ·cases e1
structure RD (S:List Addr)(Hs0 H0 Hs H:Hp)(U:St)(ε:ME):Prop where
 s1:Same Hs0 Hs
 s2:∀ b o,H0 b=some o->b∉S->H b=some o
 s3:Same Hs H
 s4:∀ b,H0 b≠none->Hs0 b=none->Hs b=none
 sh:∀(i:Nat)(x:PV),ε[i]?=some (.sh x)->∃ v,U[i]?=some (some v)/\Rep Hs x v
 ow:∀(i:Nat)(x:PV),ε[i]?=some (.ow x)->∃ a,U[i]?=some (some (.ref a))/\(H0 a=none∨a∈S)/\Hs a=none/\Top Hs H a x
 nd:∀(i j:Nat)(x y:PV)(a:Addr),ε[i]?=some (.ow x)->ε[j]?=some (.ow y)->U[i]?=some (some (.ref a))->U[j]?=some (some (.ref a))->i=j
 len:U.length=ε.length
 pin:∀ a∈S,U[0]?=some (some (.ref a))
 live:∀ a∈S,H a≠none
 str:∀ a∈S,∃ y,ε[0]?=some (.ow y)
 nb:∀(i:Nat)(x:PV),ε[i]?≠some (.bo x)
section
variable {S:List Addr}{Hs0 H0 Hs H Hs' H':Hp}{U:St}{ε:ME}
theorem RD.rs (r:RD S Hs0 H0 Hs H U ε):RS Hs Hs Hs H U ε where
 ext:=⟨.refl _,r.s3,r.s3,λ_ h z=>absurd z h⟩
 sh:=r.sh
 ow:=λi x h=>by obtain ⟨a,h1,_,h3,h4⟩:=r.ow i x h;exact ⟨a,h1,h3,h3,h4⟩
 nd:=r.nd
 len:=r.len
 bo:=λi x h=>absurd h (r.nb i x)
theorem RD.there (r:RD S Hs0 H0 Hs H U ε){b:Addr}(h:H0 b≠none):H b≠none:=by
 by_cases hS:b∈S
 ·exact r.live b hS
 ·cases q:H0 b with
  |none=>exact absurd q h
  |some o=>rw [r.s2 b o q hS];exact λz=>nomatch z
theorem RD.go (r:RD S Hs0 H0 Hs H U ε)(e:Ext Hs H Hs' H'):RD S Hs0 H0 Hs' H' U ε where
 s1:=r.s1.trans e.s1
 s2:=λb o h n=>e.s2 _ _ (r.s2 b o h n)
 s3:=e.s3
 s4:=λb h z=>e.s4 b (r.there h) (r.s4 b h z)
 sh:=λi x q=>by obtain ⟨v,a,b⟩:=r.sh i x q;exact ⟨v,a,b.mono e.s1⟩
 ow:=λi x q=>by
  obtain ⟨a,b,n0,n,t⟩:=r.ow i x q;exact ⟨a,b,n0,e.s4 a t.there n,t.mono e.s1 λo z=>e.s2 _ _ z⟩
 nd:=r.nd
 len:=r.len
 pin:=r.pin
 live:=λa h=>Qj e.s2 (r.live a h)
 str:=r.str
 nb:=r.nb
theorem RD.change (r:RD S Hs0 H0 Hs H U ε){i:Nat}{a:Addr}(hi:ε[i]?=some (.ow x))(ha:U[i]?=some (some (.ref a)))(t:Top Hs (z6 H a o) a y):RD S Hs0 H0 Hs (z6 H a o) U (ε.set i (.ow y)):=by
 obtain ⟨b,hb,n0,n,tx⟩:=r.ow i x hi;rw [ha] at hb;injection hb with hb;injection hb with hb;injection hb with hb;subst hb;have q:=(r.rs).change hi ha t;refine ⟨r.s1,λb u e hS=>?_,λb u e=>?_,r.s4,q.sh,λj z hz=>?_,q.nd,q.len,r.pin,λb hS=>?_,λb hS=>?_,xS r.nb λ_ z=>nomatch z⟩
 ·have hne:b≠a:=λz=>by
   rcases n0 with n0|n0
   ·rw [z,n0] at e;cases e
   ·exact hS (z▸n0)
  rw [z5 hne];exact r.s2 b u e hS
 ·rw [z5 (y6 e n)];exact r.s3 _ _ e
 ·obtain ⟨c,hc,m1,m2,tc⟩:=q.ow j z hz;refine ⟨c,hc,?_,m2,tc⟩;rw [yS] at hz;split at hz
  ·rename_i hij;rw [<- hij,ha] at hc;injection hc with hc;injection hc with hc;injection hc with hc;rw [<- hc];exact n0
  ·obtain ⟨d,hd,m0,_⟩:=r.ow j z hz;rw [hd] at hc;injection hc with hc;injection hc with hc;injection hc with hc;rw [<- hc];exact m0
 ·by_cases hba:b=a
  ·rw [hba,j7];exact λz=>nomatch z
  ·rw [z5 hba];exact r.live b hS
 ·obtain ⟨y',hy⟩:=r.str b hS;rw [yS];split
  ·rename_i h0;rw [if_pos (by rw [h0];exact (yH.mp hy).1)];exact ⟨y,rfl⟩
  ·exact ⟨y',hy⟩
theorem RD.put (r:RD S Hs0 H0 Hs H U ε){i:Nat}(h:Rep Hs x v):RD S Hs0 H0 Hs H (U.set (i+1) (some v)) (ε.set (i+1) (.sh x)):=by
 have q:=(r.rs).put (i:=i+1) h;refine ⟨r.s1,r.s2,r.s3,r.s4,q.sh,λj z hz=>?_,q.nd,q.len,λa hS=>by rw [yI (by omega)];exact r.pin a hS,r.live,λa hS=>by rw [yI (by omega)];exact r.str a hS,xS r.nb λ_ z=>nomatch z⟩;obtain ⟨c,hc,m1,m2,tc⟩:=q.ow j z hz;refine ⟨c,hc,?_,m2,tc⟩;rw [yS] at hz hc;split at hz
 ·split at hz<;>cases hz
 ·rename_i hij;rw [if_neg hij] at hc;obtain ⟨d,hd,m0,_⟩:=r.ow j z hz;rw [hd] at hc;injection hc with hc;injection hc with hc;injection hc with hc;rw [<- hc];exact m0
theorem RD.putO (r:RD S Hs0 H0 Hs H U ε){i:Nat}{a:Addr}(h0:H0 a=none∨a∈S)(h1:Hs a=none)(h2:Top Hs H a x)(ne:∀(j:Nat)(y:PV),ε[j]?=some (.ow y)->U[j]?≠some (some (.ref a))):RD S Hs0 H0 Hs H (U.set (i+1) (some (.ref a))) (ε.set (i+1) (.ow x)):=by
 have q:=(r.rs).putO (i:=i+1) ⟨h1,h1,h2⟩ ne;refine ⟨r.s1,r.s2,r.s3,r.s4,q.sh,λj z hz=>?_,q.nd,q.len,λa hS=>by rw [yI (by omega)];exact r.pin a hS,r.live,λa hS=>by rw [yI (by omega)];exact r.str a hS,xS r.nb λ_ z=>nomatch z⟩;obtain ⟨c,hc,m1,m2,tc⟩:=q.ow j z hz;refine ⟨c,hc,?_,m2,tc⟩;rw [yS] at hz hc;split at hz
 ·rename_i hij;rw [if_pos hij] at hc;split at hc
  ·injection hc with hc;injection hc with hc;injection hc with hc;rw [<- hc];exact h0
  ·cases hc
 ·rename_i hij;rw [if_neg hij] at hc;obtain ⟨d,hd,m0,_⟩:=r.ow j z hz;rw [hd] at hc;injection hc with hc;injection hc with hc;injection hc with hc;rw [<- hc];exact m0
theorem RD.free0 (r:RD S Hs0 H0 Hs H U ε){a:Addr}(h:H a=none):H0 a=none:=by
 cases q:H0 a with
 |none=>rfl
 |some o=>exact absurd h (r.there (by rw [q];exact λz=>nomatch z))
end
abbrev W:=ME->(PV->ME->Prop)->Prop
variable{a:W}
abbrev WA:=ME->(List PV->ME->Prop)->Prop
variable{as it r:WA}
abbrev WT:=ME->(Bool->ME->Prop)->Prop
variable{c:WT}
abbrev WS:=ME->(ME->Prop)->(PV->ME->Prop)->Prop
variable{b:WS}
class SemW (te:TE)(w:W):Prop where
 h:∀{ε Q'},w ε Q'->∀{S Hs0 H0 Hs H U},RD S Hs0 H0 Hs H U ε->∀{Q:VK},(∀ y ε' v Hs' H',Q' y ε'->RD S Hs0 H0 Hs' H' U ε'->Same Hs Hs'->Rep Hs' y v->Q v H')->te U H Q
class qY (ta:TA)(w:WA):Prop where
 h:∀{ε Q'},w ε Q'->∀{S Hs0 H0 Hs H U},RD S Hs0 H0 Hs H U ε->∀{Q:List V->Hp->Prop},(∀ ys ε' vs Hs' H',Q' ys ε'->RD S Hs0 H0 Hs' H' U ε'->Same Hs Hs'->Reps Hs' ys vs->Q vs H')->ta U H Q
class zr (tt:TT)(w:WT):Prop where
 h:∀{ε Q'},w ε Q'->∀{S Hs0 H0 Hs H U},RD S Hs0 H0 Hs H U ε->∀{Q:Bool->Hp->Prop},(∀ b ε' Hs' H',Q' b ε'->RD S Hs0 H0 Hs' H' U ε'->Same Hs Hs'->Q b H')->tt U H Q
class SemWS (ts:TS)(w:WS):Prop where
 h:∀{ε N R},w ε N R->∀{S Hs0 H0 Hs H U},RD S Hs0 H0 Hs H U ε->∀{D:p7},(∀ ε' σ' Hs' H',N ε'->RD S Hs0 H0 Hs' H' σ' ε'->Same Hs Hs'->D.nx σ' H') ->
  (∀ y ε' σ' v Hs' H',R y ε'->RD S Hs0 H0 Hs' H' σ' ε'->Same Hs Hs'->Rep Hs' y v->D.rt v H')->ts D U H
def wP (f:M):W:=λε Q=>∃ y,f ε=some y/\Q y ε
def wPT (f:MB):WT:=λε Q=>∃ y,f ε=some y/\Q y ε
instance (priority:=50)[s:y9 te f]:SemW te (wP f) where
 h:=λ⟨y,e,q⟩ _ _ _ _ _ _ r _ k=>s.h e r.rs λv Hs' H' x rv=>k y _ v Hs' H' q (r.go x) x.s1 rv
instance (priority:=50){f:MB}[s:r6 tt f]:zr tt (wPT f) where
 h:=λ⟨y,e,q⟩ _ _ _ _ _ _ r _ k=>s.h e r.rs λHs' H' x=>k y _ Hs' H' q (r.go x) x.s1
def xE (g:PV->PV->Option PV)(a b:W):W:=λε Q=>a ε λx ε1=>b ε1 λy ε2=>∃ z,g x y=some z/\Q z ε2
instance {r:R2}{g:PV->PV->Option PV}{ta tb:TE}{b:W}[sr:i9 r g][sa:SemW ta a][sb:SemW tb b]:SemW (tOp r ta tb) (xE g a b) where
 h:=λh _ _ _ _ _ _ rd _ k=>sa.h h rd λx ε1 v Hs1 H1 h1 rd1 g1 r1=>sb.h h1 rd1 λy ε2 w Hs2 H2 h2 rd2 g2 r2=>by
  obtain ⟨z,ez,h2⟩:=h2;exact sr.h ez rd2.s3 (.inl (r1.mono g2)) (.inl r2) λu Hs3 H3 x3 r3=>k z ε2 u Hs3 H3 h2 (rd2.go x3) (g1.trans (g2.trans x3.s1)) r3
def xG:WA:=λε Q=>Q [] ε
def qr (a:W)(r:WA):WA:=λε Q=>a ε λx ε1=>r ε1 λxs ε2=>Q (x::xs) ε2
instance:qY qa xG where
 h:=λh _ _ _ _ _ _ rd _ k=>k [] _ [] _ _ h rd (.refl _) .nil
instance [sa:SemW te a][sr:qY ta r]:qY (h8 te ta) (qr a r) where
 h:=λh _ _ _ _ _ _ rd _ k=>sa.h h rd λx ε1 v Hs1 H1 h1 rd1 g1 r1=>sr.h h1 rd1 λxs ε2 vs Hs2 H2 h2 rd2 g2 r2=>k _ ε2 _ Hs2 H2 h2 rd2 (g1.trans g2) (.cons (r1.mono g2) r2)
def wTup (a:WA):W:=λε Q=>a ε λxs ε1=>xs.length<=lim/\Q (.tup xs) ε1
instance {a:WA}[sa:qY ta a]:SemW (tTup ta) (wTup a) where
 h:=λh _ _ _ _ _ _ rd _ k=>sa.h h rd λxs ε1 vs Hs1 H1 h1 rd1 g1 r1=>⟨t0 (r1.length▸h1.1),λp hp=>k _ ε1 _ _ _ h1.2 (rd1.go (.new rd1.s3 hp)) (g1.trans (Ext.new rd1.s3 hp).s1) (rep_tup.mpr ⟨p,vs,rfl,j7,r1.mono (Ext.new rd1.s3 hp).s1⟩)⟩
def zS:Sp:=λvs H Q _=>∃(a:Addr)(n m:Int),vs=[.ref a,.int m]/\H a=some (.lst [.int n])/\zm n m/\Q (.int (n % m)) (z6 H a (.lst [.int (n / m)]))
def u4 (n:Int):MSlot:= .ow (.lst [.at (.int n)])
def wTake (i:Nat)(a:W):W:=λε Q=>a ε λx ε1=>∃ n k,x = .at (.int k)/\ε1[i]?=some (u4 n)/\zm n k/\Q (.at (.int (n % k))) (ε1.set i (u4 (n / k)))
theorem RD.strm_at {i:Nat}(r:RD S Hs0 H0 Hs H U ε)(h:ε[i]?=some (u4 n)):∃ a,U[i]?=some (some (.ref a))/\H a=some (.lst [.int n])/\Hs a=none/\(H0 a=none∨a∈S):=by obtain ⟨a,ha,n0,n1,vs,hv,rv⟩:=r.ow i _ h;obtain ⟨v,w,rfl,p1,p2⟩:=reps_cons.mp rv;cases reps_nil.mp p2;cases rep_at.mp p1;exact ⟨a,ha,hv,n1,n0⟩
def zi (i:Nat):ME->Prop:=λε=>∃ n,ε[i]?=some (u4 n)
def wTk (i:Nat)(a:W):W:=λε Q=>zi i ε/\wTake i a ε Q
instance {i:Nat}[sa:SemW te a]:SemW (t5 zS [] E (h8 (d6 i) (h8 te qa))) (wTk i a) where
 h:=λh _ _ _ _ _ _ rd _ k=>by
  obtain ⟨⟨n0,hn0⟩,h⟩:=h;obtain ⟨p,hp,_⟩:=rd.strm_at hn0;refine ⟨_,hp,sa.h h rd λx ε1 v Hs1 H1 h1 rd1 g1 r1=>?_⟩;obtain ⟨n,m,rfl,hn,hc,h2⟩:=h1;obtain ⟨p',hp',hH,hs,_⟩:=rd1.strm_at hn;rw [hp] at hp';injection hp' with hp';injection hp' with hp';injection hp' with hp';subst hp';cases rep_at.mp r1;exact ⟨p,n,m,rfl,hH,hc,k _ _ _ _ _ h2 (rd1.change hn hp ⟨_,j7,.one (rep_at.mpr rfl)⟩) g1 (rep_at.mpr rfl)⟩
structure ExtD (p:Addr)(Hs H Hs' H':Hp):Prop where
 s1:Same Hs Hs'
 s2:∀ b o,H b=some o->b≠p->H' b=some o
 s3:Same Hs' H'
 s4:∀ b,H b≠none->Hs b=none->Hs' b=none
def spD (pre:List PV->Prop)(R:List PV->PV->Prop):Sp:=λvs H Q _=>∃ Hs a n xs ws,vs = .ref a::ws/\Same Hs H/\Hs a=none/\H a=some (.lst [.int n])/\Reps Hs xs ws/\pre xs /\
 ∀ y v n' Hs' H',R xs y->ExtD a Hs H Hs' H'->Hs' a=none->H' a=some (.lst [.int n'])->Rep Hs' y v->Q v H'
section
variable {S:List Addr}{Hs0 H0 Hs H Hs' H':Hp}{U:St}{ε:ME}
theorem RD.drawn (r:RD S Hs0 H0 Hs H U ε){i:Nat}{n':Int}{p:Addr}(hi:ε[i]?=some (u4 n))(hp:U[i]?=some (some (.ref p)))(x:ExtD p Hs H Hs' H')(np:Hs' p=none)(ep:H' p=some (.lst [.int n'])):RD S Hs0 H0 Hs' H' U (ε.set i (u4 n')):=by
 obtain ⟨p',hp',hH,hs,h0⟩:=r.strm_at hi;rw [hp] at hp';injection hp' with hp';injection hp' with hp';injection hp' with hp';subst hp';have up:∀(j:Nat)(z:PV),(ε.set i (u4 n'))[j]?=some (.ow z)->(j=i/\z = .lst [.at (.int n')])∨(j≠i/\ε[j]?=some (.ow z)):=λj z q=>by
  rw [yS] at q;split at q
  ·rename_i hij;split at q
   ·injection q with q;unfold u4 at q;injection q with q;exact .inl ⟨hij.symm,q.symm⟩
   ·cases q
  ·rename_i hij;exact .inr ⟨Ne.symm hij,q⟩
 have wasOw:∀(j:Nat)(z:PV),(ε.set i (u4 n'))[j]?=some (.ow z)->∃ z',ε[j]?=some (.ow z'):=λj z q=>by
  rcases up j z q with ⟨rfl,_⟩|⟨_,q⟩
  ·exact ⟨_,hi⟩
  ·exact ⟨z,q⟩
 refine ⟨r.s1.trans x.s1,λb o e hS=>x.s2 b o (r.s2 b o e hS) λz=>?_,x.s3,λb h z=>x.s4 b (r.there h) (r.s4 b h z),λj z q=>?_,λj z q=>?_,λj k z z' c h1 h2 h3 h4=>?_,by rw [yD,r.len],r.pin,λb hS=>?_,λb hS=>?_,xS r.nb λ_ z=>by unfold u4 at z;cases z⟩
 ·rcases h0 with h0|h0
  ·rw [z,h0] at e;cases e
  ·exact hS (z▸h0)
 ·rw [yS] at q;split at q
  ·split at q
   ·unfold u4 at q;cases q
   ·cases q
  ·obtain ⟨v,h1,h2⟩:=r.sh j z q;exact ⟨v,h1,h2.mono x.s1⟩
 ·rcases up j z q with ⟨rfl,rfl⟩|⟨hij,q⟩
  ·exact ⟨p,hp,h0,np,_,ep,.one (rep_at.mpr rfl)⟩
  ·obtain ⟨c,hc,m0,m1,tc⟩:=r.ow j z q;have hne:c≠p:=λe=>hij (r.nd j i z _ p q hi (e▸hc) hp);exact ⟨c,hc,m0,x.s4 c tc.there m1,tc.mono x.s1 λo e=>x.s2 c o e hne⟩
 ·obtain ⟨w1,q1⟩:=wasOw j z h1;obtain ⟨w2,q2⟩:=wasOw k z' h2;exact r.nd j k w1 w2 c q1 q2 h3 h4
 ·by_cases hb:b=p
  ·rw [hb,ep];exact λz=>nomatch z
  ·have:=r.live b hS;cases q:H b with
   |none=>exact absurd q this
   |some o=>rw [x.s2 b o q hb];exact λz=>nomatch z
 ·obtain ⟨y',hy⟩:=r.str b hS;rw [yS];split
  ·rename_i h0;rw [if_pos (by rw [h0];exact (yH.mp hy).1)];exact ⟨_,rfl⟩
  ·exact ⟨y',hy⟩
end
def Qz (i:Nat)(pre:List PV->Prop)(R:List PV->PV->Prop)(as:WA):W:=λε Q=>zi i ε/\as ε λxs ε1=>zi i ε1/\pre xs/\∀ y n',R xs y->Q y (ε1.set i (u4 n'))
instance {i:Nat}[sa:qY ta as]:SemW (t5 (spD pre R) [] E (h8 (d6 i) ta)) (Qz i pre R as) where
 h:=λh _ _ _ _ _ _ rd _ k=>by
  obtain ⟨⟨n0,hn0⟩,h⟩:=h;obtain ⟨p,hp,_⟩:=rd.strm_at hn0;refine ⟨_,hp,sa.h h rd λxs ε1 vs Hs1 H1 h1 rd1 g1 r1=>?_⟩;obtain ⟨⟨n,hn⟩,hpre,h2⟩:=h1;obtain ⟨p',hp',hH,hs,_⟩:=rd1.strm_at hn;rw [hp] at hp';injection hp' with hp';injection hp' with hp';injection hp' with hp';subst hp';refine ⟨Hs1,p,n,xs,vs,by rw [yw],rd1.s3,hs,hH,r1,hpre,λy v n' Hs' H' hR x np ep rv=>?_⟩;exact k y _ v Hs' H' (h2 y n' hR) (rd1.drawn hn hp x np ep) (g1.trans x.s1) rv
def c8:WS:=λε N _=>N ε
def wSeq (a b:WS):WS:=λε N R=>a ε (λε1=>b ε1 N R) R
def v8 (i:Nat)(a:W):WS:=λε N _=>a ε λx ε1=>N (ε1.set i (.sh x))
def QC (i:Nat)(f:M):WS:=λε N _=>∃ x,f ε=some x/\N (ε.set i (.ow x))
def b9 (a:W):WS:=λε _ R=>a ε R
def p6 (c:WT)(a b:WS):WS:=λε N R=>c ε λk ε1=>if k=true then a ε1 N R else b ε1 N R
instance:SemWS jT c8 where
 h:=λh _ _ _ _ _ _ rd _ k _=>k _ _ _ _ h rd (.refl _)
instance {t u:TS}{a:WS}[sa:SemWS t a][sb:SemWS u b]:SemWS (tSeq t u) (wSeq a b) where
 h:=λh _ _ _ _ _ _ rd _ k r=>sa.h h rd (λε1 σ1 Hs1 H1 h1 rd1 g1=>sb.h h1 rd1 (λε2 σ2 Hs2 H2 h2 rd2 g2=>k ε2 σ2 Hs2 H2 h2 rd2 (g1.trans g2)) λy ε2 σ2 v Hs2 H2 h2 rd2 g2 rv=>r y ε2 σ2 v Hs2 H2 h2 rd2 (g1.trans g2) rv) r
instance {i:Nat}[sa:SemW te a]:SemWS (qq te (c6 (i+1))) (v8 (i+1) a) where
 h:=λh _ _ _ _ _ _ rd _ k _=>sa.h h rd λx ε1 v Hs1 H1 h1 rd1 g1 r1=>k _ _ _ _ h1 (rd1.put r1) g1
instance {i:Nat}[sa:i0 te f]:SemWS (qq te (c6 (i+1))) (QC (i+1) f) where
 h:=λ⟨x,e,h⟩ _ _ _ _ _ _ rd _ k _=>sa.h e rd.rs λa Hs1 H1 x1 n n' t=>k _ _ _ _ h ((rd.go x1).putO (.inl (rd.free0 n)) n' t λj y hj z=>by
  obtain ⟨b,hb,_,_,tb⟩:=rd.ow j y hj;rw [z] at hb;injection hb with hb;injection hb with hb;injection hb with hb;subst hb;exact tb.there n) x1.s1
instance [sa:SemW te a]:SemWS (zf te) (b9 a) where
 h:=λh _ _ _ _ _ _ rd _ _ r=>sa.h h rd λx ε1 v Hs1 H1 h1 rd1 g1 r1=>r x ε1 _ v Hs1 H1 h1 rd1 g1 r1
instance {t:TT}{ta:TS}{a:WS}[sc:zr t c][sa:SemWS ta a][sb:SemWS tb b]:SemWS (tIfS t ta tb) (p6 c a b) where
 h:=λh _ _ _ _ _ _ rd _ k r=>sc.h h rd λc ε1 Hs1 H1 h1 rd1 g1=>by
  cases c with
  |true=>exact o9 (sa.h (by simpa using h1) rd1 (λε2 σ2 Hs2 H2 h2 rd2 g2=>k ε2 σ2 Hs2 H2 h2 rd2 (g1.trans g2)) λy ε2 σ2 v Hs2 H2 h2 rd2 g2 rv=>r y ε2 σ2 v Hs2 H2 h2 rd2 (g1.trans g2) rv)
  |false=>exact o8 (sb.h (by simpa using h1) rd1 (λε2 σ2 Hs2 H2 h2 rd2 g2=>k ε2 σ2 Hs2 H2 h2 rd2 (g1.trans g2)) λy ε2 σ2 v Hs2 H2 h2 rd2 g2 rv=>r y ε2 σ2 v Hs2 H2 h2 rd2 (g1.trans g2) rv)
def wPop (i:Nat)(a:W):W:=λε Q=>(∃ xs,ε[i]?=some (.ow (.lst xs)))/\a ε λx ε1=>∃ xs k y,ε1[i]?=some (.ow (.lst xs))/\x = .at (.int k)/\0<=k/\k<xs.length/\xs.length<=lim/\xs[k.toNat]?=some y/\Q y (ε1.set i (.ow (.lst (xs.eraseIdx k.toNat))))
theorem Reps.eraseIdx {H:Hp}:∀(i:Nat){xs:List PV}{vs:List V},Reps H xs vs->Reps H (xs.eraseIdx i) (vs.eraseIdx i)
 |i,[],vs,h=>by rw [reps_nil.mp h];exact .nil
 |0,x::xs,vs,h=>by obtain ⟨v,r,rfl,p,q⟩:=reps_cons.mp h;exact q
 |i+1,x::xs,vs,h=>by obtain ⟨v,r,rfl,p,q⟩:=reps_cons.mp h;exact .cons p (Reps.eraseIdx i q)
instance {i:Nat}[sa:SemW te a]:SemW (tBM K "list" wV (d6 i) (h8 te qa)) (wPop i a) where
 h:=λh _ _ _ _ _ _ rd _ k=>by
  obtain ⟨⟨xs0,hx0⟩,h⟩:=h;obtain ⟨p,hp,n0,n,vs,hv,rv⟩:=rd.ow i _ hx0;refine ⟨_,hp,.inl ⟨rfl,vs,SqL.of hv⟩,sa.h h rd λx ε1 v Hs1 H1 h1 rd1 g1 r1=>?_⟩;obtain ⟨xs,j,y,hx,rfl,j0,j1,hl,hy,h2⟩:=h1;obtain ⟨p',hp',_,n1,ws,hw,rw⟩:=rd1.ow i _ hx;rw [hp] at hp';injection hp' with hp';injection hp' with hp';injection hp' with hp';subst hp';cases rep_at.mp r1;obtain ⟨u,hu,ru⟩:=rw.get hy;have hlim:lim=1000000:=rfl;refine ⟨p,ws,j,j.toNat,u,rfl,rfl,hw,by omega,by omega,?_,hu,k _ _ _ _ _ h2 (rd1.change hx hp ⟨_,j7,rw.eraseIdx j.toNat⟩) g1 ru⟩;unfold seqIndex?;have e1:(if j<0 then j+(ws.length:Int) else j)=j:=if_neg (by omega);simp only [e1];rw [if_pos];rw [rw.length];simp only [ym,decide_eq_true_eq];exact ⟨j0,j1⟩
class SemWI (ti:TI)(w:WA):Prop where
 h:∀{ε Q'},w ε Q'->∀{S Hs0 H0 Hs H U},RD S Hs0 H0 Hs H U ε->∀{R:It->Hp->Prop},(∀ xs ε' J Hs' H',Q' xs ε'->RD S Hs0 H0 Hs' H' U ε'->Same Hs Hs'->qR J xs Hs'->R J H')->ti U H R
def wIp (f:MA):WA:=λε Q=>∃ xs,f ε=some xs/\Q xs ε
instance (priority:=50){ti:TI}{f:MA}[s:qs ti f]:SemWI ti (wIp f) where
 h:=λ⟨xs,e,q⟩ _ _ _ _ _ _ r _ k=>s.h e r.rs λJ Hs' H' x ok=>k xs _ J Hs' H' q (r.go x) x.s1 ok
def va (a:W):WA:=λε Q=>a ε λx ε1=>∃ j:Int,x = .at (.int j)/\-(lim:Int)<=j/\j<=lim/\Q (i7 0 j.toNat) ε1
instance [sa:SemW te a]:SemWI (jk (h8 te qa)) (va a) where
 h:=λh _ _ _ _ _ _ rd _ k=>sa.h h rd λx ε1 v Hs1 H1 h1 rd1 g1 r1=>by
  obtain ⟨j,rfl,h2,h3,h4⟩:=h1;cases rep_at.mp r1;have hlim:(lim:Int)=1000000:=rfl;exact ⟨j,rfl,by omega,by omega,k _ ε1 _ Hs1 H1 h4 rd1 g1 wn⟩
class SemWG (tg:TG)(g:MG):Prop where
 h:∀{x ε ε'},g x ε=some ε'->∀{S Hs0 H0 Hs H U v},RD S Hs0 H0 Hs H U ε->Rep Hs x v->∀{Q:St->Hp->Prop},(∀ σ',RD S Hs0 H0 Hs H σ' ε'->Q σ' H)->tg v U H Q
instance {i:Nat}:SemWG (c6 (i+1)) (u7 (i+1)) where
 h:=λe _ _ _ _ _ _ _ rd r _ q=>by cases e;exact q _ (rd.put r)
def qO (g:MG)(f:WS):List PV->WS
 |[]=>λε N _=>N ε
 |x::xs=>λε N R=>∃ ε1,g x ε=some ε1/\f ε1 (λε2=>qO g f xs ε2 N R) R
def wFor (it:WA)(g:MG)(f:WS):WS:=λε N R=>it ε λxs ε1=>qO g f xs ε1 N R
theorem RD.rebase (r:RD S Hs0 H0 Hs H U ε):RD S Hs H0 Hs H U ε :=
 ⟨.refl _,r.s2,r.s3,λ_ _ z=>z,r.sh,r.ow,r.nd,r.len,r.pin,r.live,r.str,r.nb⟩
theorem RD.unbase {Hb Hx:Hp}{ε':ME}(b:RD S Hs0 H0 Hb Hx U ε)(r:RD S Hb H0 Hs H σ' ε'):RD S Hs0 H0 Hs H σ' ε' :=
 ⟨b.s1.trans r.s1,r.s2,r.s3,λc h z=>r.s4 c h (b.s4 c h z),r.sh,r.ow,r.nd,r.len,r.pin,r.live,r.str,r.nb⟩
instance {f:WS}[si:SemWI wi it][sg:SemWG tg g][sf:SemWS tb f]:SemWS (tFor wi tg tb) (wFor it g f) where
 h:=λ{ε N R} h S Hs0 H0 _ _ _ rd D k rt=>si.h h rd λxs ε1 J Hs1 H1 h1 rd1 g1 ok=>by
  refine ⟨λn m U H=>m=xs.length-n/\n<=xs.length/\∃ Hs ε,RD S Hs1 H0 Hs H U ε/\qO g f (xs.drop n) ε N R,⟨xs.length,by simp,uT _,Hs1,ε1,rd1.rebase,h1⟩,?_⟩;rintro n m U H ⟨rfl,hn,Hs,ε2,r2,h2⟩;by_cases hlt:n<xs.length
  ·have hd:xs.drop n=xs[n]::xs.drop (n+1):=yf hlt;rw [hd] at h2;obtain ⟨ε3,e3,h3⟩:=h2;obtain ⟨go,yl⟩:=ok.go n xs[n] Hs H (by simp [hlt]) r2.s1 r2.s3;refine .inr ⟨go,λσ' H'=>n+1<=xs.length/\∃ Hs ε,RD S Hs1 H0 Hs H' σ' ε/\qO g f (xs.drop (n+1)) ε N R,λσ' H' p=>⟨xs.length-(n+1),by omega,rfl,p.1,p.2⟩,λv H3 y=>?_⟩;obtain ⟨Hs3,x3,r3⟩:=yl v H3 y;refine sg.h e3 (r2.go x3) r3 λσ4 rd4=>sf.h h3 rd4 (λε5 σ5 Hs5 H5 h5 rd5 g5=>⟨hlt,Hs5,ε5,rd5,h5⟩) λy ε5 σ5 v Hs5 H5 h5 rd5 g5 rv=>rt y ε5 σ5 v Hs5 H5 h5 (rd1.unbase rd5) (g1.trans rd5.s1) rv
  ·have en:n=xs.length:=by omega
   subst en;rw [uW] at h2;exact .inl ⟨ok.stop Hs H r2.s1 r2.s3,k _ _ _ _ h2 (rd1.unbase r2) (g1.trans r2.s1)⟩
def k8:List (Option Nat)->ME->ME->ME
 |some i::cap,s::ε2,ε1=>(k8 cap ε2 ε1).set i s
 |none::cap,_::ε2,ε1=>k8 cap ε2 ε1
 |_,_,ε1=>ε1
theorem zg:∀(cap:List (Option Nat))(ε2 ε1:ME),(k8 cap ε2 ε1).length=ε1.length
 |some i::cap,s::ε2,ε1=>by unfold k8;rw [yD,zg]
 |none::cap,_::ε2,ε1=>by unfold k8;exact zg cap ε2 ε1
 |[],_,_=>rfl
 |some _::_,[],_=>rfl
 |none::_,[],_=>rfl
theorem jY:∀(cap:List (Option Nat))(ε2 ε1:ME)(i:Nat),some i∉cap->(k8 cap ε2 ε1)[i]?=ε1[i]?
 |some k::cap,s::ε2,ε1,i,h=>by
  unfold k8;rw [yI (λz=>h (by rw [z];exact yy))];exact jY cap ε2 ε1 i λz=>h (yL _ z)
 |none::cap,_::ε2,ε1,i,h=>by unfold k8;exact jY cap ε2 ε1 i λz=>h (yL _ z)
 |[],_,_,_,_=>rfl
 |some _::_,[],_,_,_=>rfl
 |none::_,[],_,_,_=>rfl
theorem jX:∀(cap:List (Option Nat))(ε2 ε1:ME)(i:Nat),cap.length=ε2.length->some i∈cap->i<ε1.length->(cap.filterMap id).Nodup->∃ j:Nat,cap[j]?=some (some i)/\(k8 cap ε2 ε1)[i]?=ε2[j]?
 |some k::cap,s::ε2,ε1,i,hl,h,hi,nd=>by
  rw [List.filterMap_cons_some (by rfl)] at nd;by_cases e:k=i
  ·subst e;refine ⟨0,rfl,?_⟩;unfold k8;rw [uU (by rw [zg];exact hi)];rfl
  ·obtain ⟨j,h1,h2⟩:=jX cap ε2 ε1 i (by simpa using hl) (by rcases yK.mp h with z|z;exact absurd (Option.some.inj z).symm e;exact z) hi (ya.mp nd).2;refine ⟨j+1,by simpa using h1,?_⟩;unfold k8;rw [yI e];simpa using h2
 |none::cap,s::ε2,ε1,i,hl,h,hi,nd=>by
  rw [List.filterMap_cons_none (by rfl)] at nd;obtain ⟨j,h1,h2⟩:=jX cap ε2 ε1 i (by simpa using hl) (by rcases yK.mp h with z|z;exact nomatch z;exact z) hi nd;exact ⟨j+1,by simpa using h1,by unfold k8;simpa using h2⟩
 |[],_,_,_,_,h,_,_=>nomatch h
 |some _::_,[],_,_,hl,_,_,_=>by simp at hl
 |none::_,[],_,_,hl,_,_,_=>by simp at hl
def rst:List Nat->ME->ME
 |[],ε=>ε
 |t::ts,ε=>(rst ts ε).set t .no
theorem Qh:∀(ts:List Nat)(ε:ME),(rst ts ε).length=ε.length
 |[],_=>rfl
 |t::ts,ε=>by unfold rst;rw [yD,Qh]
theorem Qg:∀(ts:List Nat)(ε:ME)(i:Nat)(s:MSlot),(rst ts ε)[i]?=some s->s = .no∨(i∉ts/\ε[i]?=some s)
 |[],_,_,_,h=> .inr ⟨yh,h⟩
 |t::ts,ε,i,s,h=>by
  unfold rst at h;rw [yS] at h;split at h
  ·split at h
   ·cases h;exact .inl rfl
   ·cases h
  ·rename_i hne;rcases Qg ts ε i s h with z|⟨z1,z2⟩
   ·exact .inl z
   ·exact .inr ⟨λm=>by rcases yK.mp m with m|m;exact hne m.symm;exact z1 m,z2⟩
theorem RD.reset (r:RD [] Hs0 H0 Hs H σ' ε)(b:But ts U σ'):RD [] Hs0 H0 Hs H U (rst ts ε):=by
 have at1:∀(i:Nat)(s:MSlot),(rst ts ε)[i]?=some s->s = .no∨(σ'[i]?=U[i]?/\ε[i]?=some s):=λi s h=>by
  rcases Qg ts ε i s h with z|⟨z1,z2⟩
  ·exact .inl z
  ·exact .inr ⟨b.2 i z1,z2⟩
 refine ⟨r.s1,r.s2,r.s3,r.s4,λi x h=>?_,λi x h=>?_,λi j x y a h1 h2 h3 h4=>?_,by rw [Qh,<- r.len,b.1],(λ_ z=>nomatch z),(λ_ z=>nomatch z),(λ_ z=>nomatch z),λi x h=>by
  rcases at1 i _ h with z|⟨_,z2⟩
  ·cases z
  ·exact r.nb i x z2⟩
 ·rcases at1 i _ h with z|⟨z1,z2⟩
  ·cases z
  ·rw [<- z1];exact r.sh i x z2
 ·rcases at1 i _ h with z|⟨z1,z2⟩
  ·cases z
  ·rw [<- z1];exact r.ow i x z2
 ·rcases at1 i _ h1 with z|⟨z1,z2⟩
  ·cases z
  ·rcases at1 j _ h2 with w|⟨w1,w2⟩
   ·cases w
   ·exact r.nd i j x y a z2 w2 (z1.trans h3) (w1.trans h4)
class vg (tg:TG)(ts:outParam (List Nat))(g:MG):Prop where
 h:∀{x ε ε'},g x ε=some ε'->∀{Hs0 H0 Hs H U v},RD [] Hs0 H0 Hs H U ε->Rep Hs x v->∀{Q:St->Hp->Prop},(∀ σ',RD [] Hs0 H0 Hs H σ' ε'->But ts U σ'->Q σ' H)->tg v U H Q
theorem RD.put0 (r:RD [] Hs0 H0 Hs H U ε){i:Nat}(h:Rep Hs x v):RD [] Hs0 H0 Hs H (U.set i (some v)) (ε.set i (.sh x)):=by
 have q:=(r.rs).put (i:=i) h;refine ⟨r.s1,r.s2,r.s3,r.s4,q.sh,λj z hz=>?_,q.nd,q.len,(λ_ z=>nomatch z),(λ_ z=>nomatch z),(λ_ z=>nomatch z),xS r.nb λ_ z=>nomatch z⟩;obtain ⟨c,hc,m1,m2,tc⟩:=q.ow j z hz;refine ⟨c,hc,?_,m2,tc⟩;rw [yS] at hz hc;split at hz
 ·split at hz<;>cases hz
 ·rename_i hij;rw [if_neg hij] at hc;obtain ⟨d,hd,m0,_⟩:=r.ow j z hz;rw [hd] at hc;injection hc with hc;injection hc with hc;injection hc with hc;rw [<- hc];exact m0
instance {i:Nat}:vg (c6 i) [i] (u7 i) where
 h:=λe _ _ _ _ _ _ rd r _ q=>by
  cases e;exact q _ (rd.put0 r) ⟨yD,λj hj=>yI λz=>hj (by rw [<- z];exact yF.mpr rfl)⟩
def xF (g:MG)(c:WT)(f:W)(ts:List Nat):List PV->List PV->ME->(List PV->ME->Prop)->Prop
 |[],ys,ε,Q=>Q ys ε
 |x::xs,ys,ε,Q=>∃ ε1,g x ε=some ε1/\c ε1 λb ε2=>if b=true then f ε2 λy ε3=>xF g c f ts xs (ys++[y]) (rst ts ε3) Q else xF g c f ts xs ys (rst ts ε2) Q
def xH:WT:=λε Q=>Q true ε
instance:zr tYes xH where
 h:=λh _ _ _ _ _ _ rd _ k=>k true _ _ _ h rd (.refl _)
def zV (cap:List (Option Nat))(ts:List Nat)(it:WA)(g:MG)(c:WT)(f:W):W:=λε Q=>it ε λxs ε1=>xM cap ts=true/\xs.length<=lim /\
 xF g c f ts xs [] (k6 cap ε1) λys ε2=>((∃ y:PV,ε1[0]?=some (MSlot.ow y))->∃ y:PV,(k8 cap ε2 ε1)[0]?=some (MSlot.ow y))/\Q (.lst ys) (k8 cap ε2 ε1)
noncomputable def n4 (U:St)(ε:ME)(H:Hp):Hp:=λb=>open Classical in if ∃(i:Nat)(x:PV),ε[i]?=some (MSlot.ow x)/\U[i]?=some (some (V.ref b)) then none else H b
theorem jm {b:Addr}(h:n4 U ε H b=some o):H b=some o/\∀(i:Nat)(x:PV),ε[i]?=some (MSlot.ow x)->U[i]?≠some (some (V.ref b)):=by
 unfold n4 at h;split at h
 ·cases h
 ·rename_i hn;exact ⟨h,λi x h1 h2=>hn ⟨i,x,h1,h2⟩⟩
theorem wv {b:Addr}(h:n4 U ε H b=none):H b=none∨∃(i:Nat)(x:PV),ε[i]?=some (MSlot.ow x)/\U[i]?=some (some (V.ref b)):=by
 unfold n4 at h;split at h
 ·rename_i hn;exact .inr hn
 ·exact .inl h
theorem Xf {cap:List (Option Nat)}(nb:∀(i:Nat)(x:PV),ε[i]?≠some (.bo x)):∀(i:Nat)(x:PV),(k6 cap ε)[i]?≠some (.bo x):=λi x h=>by
 unfold k6 at h;rw [yO] at h;cases ho:cap[i]? with
 |none=>rw [ho] at h;cases h
 |some o =>
  rw [ho] at h;cases o with
  |none=>cases h
  |some k =>
   cases hk:ε[k]? with
   |none=>simp only [ye,hk,uR] at h;cases h
   |some s=>simp only [ye,hk,Option.getD_some] at h;cases h;exact nb k x hk
theorem RD.block {cap:List (Option Nat)}(hc:(cap.filterMap id).Nodup)(r:RD S Hs0 H0 Hs H U ε):RD [] Hs (n4 (w4 cap U) (k6 cap ε) H) Hs H (w4 cap U) (k6 cap ε):=by have q:=(r.rs).cap hc;refine ⟨.refl _,λb o e _=>(jm e).1,r.s3,λ_ _ z=>z,q.sh,λi x h=>?_,q.nd,q.len,(λ_ z=>nomatch z),(λ_ z=>nomatch z),(λ_ z=>nomatch z),Xf r.nb⟩;obtain ⟨a,h1,h2,h3,h4⟩:=q.ow i x h;refine ⟨a,h1,.inl ?_,h3,h4⟩;unfold n4;rw [if_pos ⟨i,x,h,h1⟩]
theorem qt {cap:List (Option Nat)}{i:Nat}(h:cap[i]?=some (some k))(e:(w4 cap U)[i]?=some (some v)):U[k]?=some (some v):=by
 unfold w4 at e;rw [yO,h] at e;simp only [ye,yi,Option.some.injEq] at e;cases hs:U[k]? with
 |none=>rw [hs] at e;cases e
 |some o=>rw [hs] at e;simp at e;rw [e]
theorem vI {cap:List (Option Nat)}{i:Nat}(h:(k6 cap ε)[i]?=some (.ow x)):∃ k:Nat,cap[i]?=some (some k)/\ε[k]?=some (.ow x):=by
 unfold k6 at h;rw [yO] at h;cases ho:cap[i]? with
 |none=>rw [ho] at h;cases h
 |some o =>
  rw [ho] at h;cases o with
  |none=>cases h
  |some k =>
   cases hk:ε[k]? with
   |none=>simp only [ye,hk,uR] at h;cases h
   |some s=>simp only [ye,hk,Option.getD_some] at h;cases h;exact ⟨k,rfl,hk⟩
theorem RD.unblock {Hs1 H1 Hs2 H2:Hp}{ε1 ε2:ME}{cap:List (Option Nat)}(hc:(cap.filterMap id).Nodup)(r:RD S Hs0 H0 Hs1 H1 U ε1)(q:RD [] Hs1 (n4 (w4 cap U) (k6 cap ε1) H1) Hs2 H2 (w4 cap U) ε2)(st:(∃ y,ε1[0]?=some (.ow y))->∃ y,(k8 cap ε2 ε1)[0]?=some (.ow y)):RD S Hs0 H0 Hs2 H2 U (k8 cap ε2 ε1):=by
 have hl:cap.length=ε2.length:=by rw [<- q.len];unfold w4;rw [yR]
 have at1:∀(i:Nat)(s:MSlot),(k8 cap ε2 ε1)[i]?=some s->(some i∉cap/\ε1[i]?=some s)∨∃ j:Nat,cap[j]?=some (some i)/\ε2[j]?=some s:=λi s h=>by
  by_cases hi:some i∈cap
  ·have hlt:i<ε1.length:=by have:=(yH.mp h).1;rwa [zg] at this
   obtain ⟨j,h1,h2⟩:=jX cap ε2 ε1 i hl hi hlt hc;exact .inr ⟨j,h1,h2▸h⟩
  ·exact .inl ⟨hi,jY cap ε2 ε1 i hi▸h⟩
 have own0:∀ a,n4 (w4 cap U) (k6 cap ε1) H1 a=none->H0 a=none∨a∈S:=λa h=>by
  rcases wv h with h|⟨i,x,h1,h2⟩
  ·exact .inl (r.free0 h)
  ·obtain ⟨k,hk,hx⟩:=vI h1;obtain ⟨c,hc',m0,_⟩:=r.ow k x hx;rw [qt hk h2] at hc';injection hc' with hc';injection hc' with hc';injection hc' with hc';rw [hc'];exact m0
 have keep:∀(k:Nat)(x:PV)(a:Addr),some k∉cap->ε1[k]?=some (.ow x)->U[k]?=some (some (.ref a))->∀ o,H1 a=some o->n4 (w4 cap U) (k6 cap ε1) H1 a=some o:=λk x a hk hx ha o ho=>by
  cases z:n4 (w4 cap U) (k6 cap ε1) H1 a with
  |some u=>rw [<- ho,(jm z).1]
  |none =>
   rcases wv z with z|⟨i,y,h1,h2⟩
   ·rw [z] at ho;cases ho
   ·obtain ⟨m,hm,hy⟩:=vI h1;have:=r.nd k m x y a hx hy ha (qt hm h2);subst this;exact absurd (List.mem_of_getElem? hm) hk
 have ow':∀(i:Nat)(x:PV),(k8 cap ε2 ε1)[i]?=some (.ow x)->∃ a,U[i]?=some (some (.ref a))/\(H0 a=none∨a∈S)/\Hs2 a=none/\Top Hs2 H2 a x:=λi x h=>by
  rcases at1 i _ h with ⟨hi,e⟩|⟨j,hj,e⟩
  ·obtain ⟨a,ha,m0,m1,t⟩:=r.ow i x e;refine ⟨a,ha,m0,?_,t.mono q.s1 λo ho=>q.s2 a o (keep i x a hi e ha o ho) yh⟩;cases z:H1 a with
   |none=>exact absurd z t.there
   |some o=>exact q.s4 a (by rw [keep i x a hi e ha o z];exact λw=>nomatch w) m1
  ·obtain ⟨a,ha,m0,m1,t⟩:=q.ow j x e;exact ⟨a,qt hj ha,own0 a (m0.resolve_right yh),m1,t⟩
 have str':∀ a∈S,∃ y,(k8 cap ε2 ε1)[0]?=some (.ow y):=λa hS=>st (r.str a hS);refine ⟨r.s1.trans q.s1,λb o e hS=>?_,q.s3,λb h z=>?_,λi x h=>?_,ow',λi j x y a h1 h2 h3 h4=>?_,by rw [zg];exact r.len,r.pin,λb hS=>?_,str',λi x h=>by
  rcases at1 i _ h with ⟨_,e⟩|⟨j,_,e⟩
  ·exact r.nb i x e
  ·exact q.nb j x e⟩
 ·have e1:=r.s2 b o e hS;refine q.s2 b o ?_ yh;cases z:n4 (w4 cap U) (k6 cap ε1) H1 b with
  |some u=>rw [<- e1,(jm z).1]
  |none =>
   rcases own0 b z with w|w
   ·rw [w] at e;cases e
   ·exact absurd w hS
 ·have z1:=r.s4 b h z;by_cases hL:n4 (w4 cap U) (k6 cap ε1) H1 b=none
  ·rcases own0 b hL with w|w
   ·exact absurd w h
   ·obtain ⟨y,hy⟩:=str' b w;obtain ⟨a,ha,_,m1,_⟩:=ow' 0 y hy;rw [r.pin b w] at ha;injection ha with ha;injection ha with ha;injection ha with ha;rw [ha];exact m1
  ·exact q.s4 b hL z1
 ·rcases at1 i _ h with ⟨hi,e⟩|⟨j,hj,e⟩
  ·obtain ⟨v,hv,rv⟩:=r.sh i x e;exact ⟨v,hv,rv.mono q.s1⟩
  ·obtain ⟨v,hv,rv⟩:=q.sh j x e;exact ⟨v,qt hj hv,rv⟩
 ·rcases at1 i _ h1 with ⟨hi,e⟩|⟨k,hk,e⟩
  ·rcases at1 j _ h2 with ⟨hj,e'⟩|⟨l,hl',e'⟩
   ·exact r.nd i j x y a e e' h3 h4
   ·-- one of the block's own,one that it does not see
    obtain ⟨a',ha',m0,_,_⟩:=q.ow l y e';have ea:=qt hl' ha';rw [h4] at ea;injection ea with ea;injection ea with ea;injection ea with ea;subst ea;obtain ⟨c,hc1,_,_,t⟩:=r.ow i x e;rw [h3] at hc1;injection hc1 with hc1;injection hc1 with hc1;injection hc1 with hc1;subst hc1;cases z:H1 a with
    |none=>exact absurd z t.there
    |some o=>have w:=keep i x a hi e h3 o z;rw [m0.resolve_right yh] at w;cases w
  ·rcases at1 j _ h2 with ⟨hj,e'⟩|⟨l,hl',e'⟩
   ·obtain ⟨a',ha',m0,_,_⟩:=q.ow k x e;have ea:=qt hk ha';rw [h3] at ea;injection ea with ea;injection ea with ea;injection ea with ea;subst ea;obtain ⟨c,hc1,_,_,t⟩:=r.ow j y e';rw [h4] at hc1;injection hc1 with hc1;injection hc1 with hc1;injection hc1 with hc1;subst hc1;cases z:H1 a with
    |none=>exact absurd z t.there
    |some o=>have w:=keep j y a hj e' h4 o z;rw [m0.resolve_right yh] at w;cases w
   ·obtain ⟨a1,ha1,_⟩:=q.ow k x e;obtain ⟨a2,ha2,_⟩:=q.ow l y e';have e1:=qt hk ha1;have e2:=qt hl' ha2;rw [h3] at e1;rw [h4] at e2;injection e1 with e1;injection e1 with e1;injection e1 with e1;injection e2 with e2;injection e2 with e2;injection e2 with e2;subst e1;subst e2;have kl:=q.nd k l x y a e e' ha1 ha2;subst kl;rw [hk] at hl';injection hl' with hl';injection hl' with hl'
 ·obtain ⟨y,hy⟩:=str' b hS;obtain ⟨a,ha,_,_,t⟩:=ow' 0 y hy;rw [r.pin b hS] at ha;injection ha with ha;injection ha with ha;injection ha with ha;rw [ha];exact t.there
instance {cap:List (Option Nat)}{f:W}[si:SemWI wi it][sg:vg tg ts g][sc:zr tt c][sf:SemW te f]:SemW (zT wi tg tt te cap) (zV cap ts it g c f) where
 h:=λ{ε Q'} h S Hs0 H0 Hs H U rd Q k=>si.h h rd λxs ε1 J Hs1 H1 h1 rd1 g1 ok=>by
  obtain ⟨hcap,hl,h1⟩:=h1;unfold xM at hcap;rw [ym] at hcap;have hnd:=of_decide_eq_true hcap.1;have wk:∀ i∈ts,(w4 cap U)[i]?=some none:=λi hi=>by
   unfold w4;rw [yO,of_decide_eq_true (yb.mp hcap.2 i hi)];rfl
  refine ⟨λn m zs H=>m=xs.length-n/\n<=xs.length/\∃ Hs2 ws ε2,RD [] Hs1 (n4 (w4 cap U) (k6 cap ε1) H1) Hs2 H (w4 cap U) ε2/\Reps Hs2 ws zs/\ws.length<=n /\
    xF g c f ts (xs.drop n) ws ε2 (λys ε3=>((∃ y:PV,ε1[0]?=some (MSlot.ow y))->∃ y:PV,(k8 cap ε3 ε1)[0]?=some (MSlot.ow y))/\Q' (PV.lst ys) (k8 cap ε3 ε1)),
   ⟨xs.length,by simp,uT _,Hs1,[],_,rd1.block hnd,.nil,yT _,h1⟩,?_⟩
  rintro n m zs H2 ⟨rfl,hn,Hs2,ws,ε2,r2,rz,hw,h2⟩;refine ⟨t0 (by rw [rz.length];omega),?_⟩;by_cases hlt:n<xs.length
  ·have hd:xs.drop n=xs[n]::xs.drop (n+1):=yf hlt;rw [hd] at h2;obtain ⟨ε3,e3,h3⟩:=h2;obtain ⟨go,yl⟩:=ok.go n xs[n] Hs2 H2 (by simp [hlt]) r2.s1 r2.s3;refine .inr ⟨go,λv H3 y=>?_⟩;obtain ⟨Hs3,x3,r3⟩:=yl v H3 y;refine sg.h e3 (r2.go x3) r3 λσ4 rd4 bt=>⟨bt.wk wk,sc.h h3 rd4 λb ε5 Hs5 H5 h5 rd5 g5=>?_⟩;cases b with
   |true=>refine o9 (sf.h (by simpa using h5) rd5 λy ε6 u Hs6 H6 h6 rd6 g6 ru=>⟨xs.length-(n+1),by omega,rfl,hlt,Hs6,ws++[y],_,rd6.reset bt,?_,by rw [yJ];simp;omega,h6⟩);exact (rz.mono (x3.s1.trans (g5.trans g6))).snoc ru
   |false=>exact o8 ⟨xs.length-(n+1),by omega,rfl,hlt,Hs5,ws,_,rd5.reset bt,rz.mono (x3.s1.trans g5),by omega,by simpa using h5⟩
  ·have en:n=xs.length:=by omega
   subst en;rw [uW] at h2;refine .inl ⟨ok.stop Hs2 H2 r2.s1 r2.s3,λD hD=>?_⟩;have rd2:=rd1.unblock hnd r2 h2.1;exact k _ _ _ _ _ h2.2 (rd2.go (.new rd2.s3 hD)) (g1.trans (r2.s1.trans (Ext.new rd2.s3 hD).s1)) (rep_lst.mpr ⟨D,zs,rfl,j7,rz.mono (Ext.new rd2.s3 hD).s1⟩)
section
variable {P:Program}{w:World}{K:Fg}{mg:Str->Option Value}{base:Heap}
theorem zP {n i:Nat}:(xs.map MSlot.sh++List.replicate n .no)[i]?≠some (.ow x):=λh=>by
 by_cases hi:i<xs.length
 ·rw [yg (by rw [yR];exact hi),yO] at h;obtain ⟨y,_,z⟩:=yA.mp h;cases z
 ·rw [uZ (by rw [yR];omega),uV] at h;split at h<;>cases h
theorem Qf {n i:Nat}:(xs.map MSlot.sh++List.replicate n .no)[i]?≠some (.bo x):=λh=>by
 by_cases hi:i<xs.length
 ·rw [yg (by rw [yR];exact hi),yO] at h;obtain ⟨y,_,z⟩:=yA.mp h;cases z
 ·rw [uZ (by rw [yR];omega),uV] at h;split at h<;>cases h
theorem JM {a:Addr}{ws:List V}(s:Same Hs H)(ha:Hs a=none)(hH:H a=some (.lst [.int n]))(r:Reps Hs xs ws):RD [a] Hs H Hs H (L2.b8 N (.ref a::ws)) (u4 n::xs.map .sh++List.replicate (N.length-(xs.length+1)) .no):=by
 have q:=qD (N:=N) (xs:= .at (.ref a)::xs) s (.cons (rep_at.mpr rfl) r);have tl:∀(i:Nat)(sl:MSlot),(u4 n::xs.map .sh++List.replicate (N.length-(xs.length+1)) .no)[i+1]?=some sl->((PV.at (.ref a)::xs).map MSlot.sh++List.replicate (N.length-(PV.at (.ref a)::xs).length) .no)[i+1]?=some sl:=λi sl h=>h;refine ⟨.refl _,λb o e _=>e,s,λ_ _ z=>z,λi x h=>?_,λi x h=>?_,λi j x y b h1 h2 _ _=>?_,?_,λb hb=>?_,λb hb=>?_,(λb hb=>⟨_,rfl⟩),λi x h=>by
  cases i with
  |zero=>unfold u4 at h;simp at h
  |succ i=>exact Qf (xs:=PV.at (.ref a)::xs) (tl i _ h)⟩
 ·cases i with
  |zero=>unfold u4 at h;simp at h
  |succ i=>exact q.sh (i+1) x (tl i _ h)
 ·cases i with
  |zero=>unfold u4 at h;simp at h;subst h;refine ⟨a,?_,.inr (yF.mpr rfl),ha,_,hH,.one (rep_at.mpr rfl)⟩;unfold L2.b8;rfl
  |succ i =>
   obtain ⟨c,h1,_⟩:=q.ow (i+1) x (tl i _ h);exact absurd (tl i _ h) λz=>by
    have:=zP (i:=i+1) (x:=x) (xs:=PV.at (.ref a)::xs) (n:=N.length-(PV.at (.ref a)::xs).length);exact this z
 ·cases i with
  |zero =>
   cases j with
   |zero=>rfl
   |succ j=>exact absurd (tl j _ h2) (zP (xs:=PV.at (.ref a)::xs))
  |succ i=>exact absurd (tl i _ h1) (zP (xs:=PV.at (.ref a)::xs))
 ·exact q.len
 ·rw [yF.mp hb];unfold L2.b8;rfl
 ·rw [yF.mp hb,hH];exact λz=>nomatch z
theorem okD {x:Str}{f:Addr}{ps:List Str}(F:Fun K x qual st f fd)(S:u5 N ps (z8 st))(hpre:∀ xs,pre xs->xs.length+1=ps.length)(hb:∀(cdv:Value)(A:Around)(outer:List Env)(s:Shared)(H:Hp)(E:XK),Room k (A.deeper (PyProof.Rows.envOfC qual (z8 st) s.heap.objs.size f cdv)) -> ∃ t,PSs (p0 j5 P w K mg base N qual (z8 st) f cdv A outer s H E).nox (b7 st) t/\SemWS t b)(hw:∀ xs n,pre xs->b (u4 n::xs.map .sh++List.replicate (N.length-(xs.length+1)) .no) (λ_=>False) λy ε=>R xs y/\zi 0 ε):FnOk P w K mg base j5 (k+1) f fd ps (spD pre R):=by
 refine F.ok S (λvs H Q E h=>?_) (λcdv A outer s H vs Q E hr h=>?_)
 ·obtain ⟨Hs,a,n,xs,ws,rfl,_,_,_,r,hp,_⟩:=h;rw [yC,r.length];exact hpre xs hp
 ·obtain ⟨Hs,a,n,xs,ws,rfl,sm,ha,hH,r,hp,q⟩:=h;obtain ⟨t,ht,sem⟩:=hb cdv A outer s H E hr;refine ⟨t,ht,sem.h (hw xs n hp) (JM sm ha hH r) (λε U Hs' H' z _ _=>z.elim) λy ε U v Hs' H' hR rd g rv=>?_⟩;obtain ⟨hR,n',hn'⟩:=hR;obtain ⟨a',ha',hH',hs',_⟩:=rd.strm_at hn';rw [rd.pin a (yF.mpr rfl)] at ha';injection ha' with ha';injection ha' with ha';injection ha' with ha';subst ha';refine q y v n' Hs' H' hR ⟨g,λb o e hb=>rd.s2 b o e λz=>hb (yF.mp z),rd.s3,λb h z=>rd.s4 b h z⟩ hs' hH' rv
end
def spN (pre:List PV->Prop)(R:List PV->PV->Prop):Sp:=λvs H Q _=>∃ Hs xs,Same Hs H/\Reps Hs xs vs/\pre xs/\∀ y a Hs' H',R xs y->Ext Hs H Hs' H'->H a=none->Hs' a=none->Top Hs' H' a y->Q (.ref a) H'
def QB (i:Nat)(pre:List PV->Prop)(R:List PV->PV->Prop)(as:WA):WS:=λε N _=>as ε λxs ε1=>pre xs/\∀ y,R xs y->N (ε1.set i (.ow y))
instance {i:Nat}[sa:qY ta as]:SemWS (qq (t5 (spN pre R) [] E ta) (c6 (i+1))) (QB (i+1) pre R as) where
 h:=λh _ _ _ _ _ _ rd _ k _=>sa.h h rd λxs ε1 vs Hs1 H1 h1 rd1 g1 r1=>by
  refine ⟨Hs1,xs,rd1.s3,by rw [yw];exact r1,h1.1,λy a Hs' H' hR x n n' t=>?_⟩;refine k _ _ _ _ (h1.2 y hR) ((rd1.go x).putO (.inl (rd1.free0 n)) n' t λj z hj e=>?_) (g1.trans x.s1);obtain ⟨b,hb,_,_,tb⟩:=rd1.ow j z hj;rw [e] at hb;injection hb with hb;injection hb with hb;injection hb with hb;subst hb;exact tb.there n
section
variable {P:Program}{w:World}{K:Fg}{mg:Str->Option Value}{base:Heap}
theorem JN (s:Same Hs H)(r:Reps Hs xs vs):RD [] Hs H Hs H (L2.b8 N vs) (xs.map .sh++List.replicate (N.length-xs.length) .no):=by have q:=qD (N:=N) s r;exact ⟨.refl _,λb o e _=>e,s,λ_ _ z=>z,q.sh,λi x h=>absurd h zP,q.nd,q.len,(λ_ z=>nomatch z),(λ_ z=>nomatch z),(λ_ z=>nomatch z),λ_ _=>Qf⟩
def scr (K:Fg)(ns:List Int):PV:= .op λH v=>∃ a,v = .ref a/\SqL K H a (ns.map V.int)
theorem Qi {K:Fg}{ns:List Int}(s:Same Hs H)(r:Rep Hs (scr K ns) v):∃ a,v = .ref a/\SqL K H a (ns.map V.int):=by obtain ⟨H1,s1,a,rfl,q⟩:=rep_op.mp r;exact ⟨a,rfl,(s1.trans s).seq q⟩
def ze (K:Fg):Sp:=λvs H Q _=>∃(a:Addr)(ns:List Int),vs=[.ref a]/\SqL K H a (ns.map V.int)/\ns.length<=63/\∀ H',Q (.bl true) H'
theorem okL {x:Str}{f:Addr}(F:Fun K x qual st f fd)(S:u5 N ["script"] (z8 st))(hb:∀ (cdv:Value) (A:Around) (outer:List Env) (s:Shared) (H:Hp) (E:XK),Room k (A.deeper (PyProof.Rows.envOfC qual (z8 st) s.heap.objs.size f cdv)) -> ∃ t,PSs (p0 j5 P w K mg base N qual (z8 st) f cdv A outer s H E).nox (b7 st) t/\SemWS t b)(hw:∀ ns:List Int,ns.length<=63->b (.sh (scr K ns)::List.replicate (N.length-1) .no) (λ_=>False) λy _=>y = .at (.bl true)):FnOk P w K mg base j5 (k+1) f fd ["script"] (ze K):=by
 refine F.ok S (λvs H Q E h=>?_) (λcdv A outer s H vs Q E hr h=>?_)
 ·obtain ⟨a,ns,rfl,_⟩:=h;rfl
 ·obtain ⟨a,ns,rfl,hS,h63,q⟩:=h;obtain ⟨t,ht,sem⟩:=hb cdv A outer s H E hr;have r:Reps H [scr K ns] [.ref a]:= .one (rep_op.mpr ⟨H,.refl _,a,rfl,hS⟩);refine ⟨t,ht,sem.h (hw ns h63) (JN (N:=N) (.refl H) r) (λε U Hs' H' z _ _=>z.elim) λy ε U v Hs' H' hR rd g rv=>?_⟩;subst hR;cases rep_at.mp rv;exact q H'
end
class d7 (w:W):Prop where
 h:∀{ε:ME}{P P':PV->ME->Prop},(∀ y e,P y e->P' y e)->w ε P->w ε P'
class qS (w:WA):Prop where
 h:∀{ε:ME}{P P':List PV->ME->Prop},(∀ y e,P y e->P' y e)->w ε P->w ε P'
class zo (w:WT):Prop where
 h:∀{ε:ME}{P P':Bool->ME->Prop},(∀ y e,P y e->P' y e)->w ε P->w ε P'
class m6 (w:WS):Prop where
 h:∀{ε:ME}{N N':ME->Prop}{R R':PV->ME->Prop},(∀ e,N e->N' e)->(∀ y e,R y e->R' y e)->w ε N R->w ε N' R'
instance :d7 (wP f) where h:=λk ⟨y,e,q⟩=>⟨y,e,k _ _ q⟩
instance {f:MB}:zo (wPT f) where h:=λk ⟨y,e,q⟩=>⟨y,e,k _ _ q⟩
instance {g:PV->PV->Option PV}{b:W}[A:d7 a][B:d7 b]:d7 (xE g a b) where h:=λk h=>A.h (λ_ _ h1=>B.h (λ_ _ ⟨z,e,q⟩=>⟨z,e,k _ _ q⟩) h1) h
instance:zo xH where h:=λk h=>k _ _ h
theorem wm {c:Bool}{A B A' B':Prop}(h1:A->A')(h2:B->B')(h:if c=true then A else B):if c=true then A' else B':=by
 cases c with
 |true=>exact o9 (h1 (by simpa using h))
 |false=>exact o8 (h2 (by simpa using h))
instance:qS xG where h:=λk h=>k _ _ h
instance [A:d7 a][B:qS r]:qS (qr a r) where h:=λk h=>A.h (λ_ _ h1=>B.h (λ_ _ h2=>k _ _ h2) h1) h
instance {a:WA}[A:qS a]:d7 (wTup a) where h:=λk h=>A.h (λ_ _ h1=>⟨h1.1,k _ _ h1.2⟩) h
instance {i:Nat}[A:d7 a]:d7 (wTk i a) where h:=λk h=>⟨h.1,A.h (λ_ _ ⟨n,m,e1,e2,e3,q⟩=>⟨n,m,e1,e2,e3,k _ _ q⟩) h.2⟩
instance {i:Nat}[A:d7 a]:d7 (wPop i a) where h:=λk h=>⟨h.1,A.h (λ_ _ ⟨xs,j,y,e1,e2,e3,e4,e5,e6,q⟩=>⟨xs,j,y,e1,e2,e3,e4,e5,e6,k _ _ q⟩) h.2⟩
instance {f:MA}:qS (wIp f) where h:=λk ⟨y,e,q⟩=>⟨y,e,k _ _ q⟩
instance:m6 c8 where h:=λk _ h=>k _ h
instance {a:WS}[A:m6 a][B:m6 b]:m6 (wSeq a b) where h:=λk r h=>A.h (λ_ h1=>B.h k r h1) r h
instance {i:Nat}[A:d7 a]:m6 (v8 i a) where h:=λk _ h=>A.h (λ_ _ h1=>k _ h1) h
instance [A:d7 a]:m6 (b9 a) where h:=λ_ r h=>A.h r h
instance {a:WS}[C:zo c][A:m6 a][B:m6 b]:m6 (p6 c a b) where h:=λk r h=>C.h (λ_ _ h1=>wm (λh2=>A.h k r h2) (λh2=>B.h k r h2) h1) h
theorem QA {g:MG}{f:WS}[F:m6 f]{N N':ME->Prop}{R R':PV->ME->Prop}(k:∀ e,N e->N' e)(r:∀ y e,R y e->R' y e):∀(xs:List PV)(ε:ME),qO g f xs ε N R->qO g f xs ε N' R'
 |[],ε,h=>k _ h
 |x::xs,ε,h=>by
  obtain ⟨ε1,e1,h1⟩:=h;exact ⟨ε1,e1,F.h (λε2 h2=>QA k r xs ε2 h2) r h1⟩
instance {f:WS}[I:qS it][F:m6 f]:m6 (wFor it g f) where h:=λk r h=>I.h (λ_ _ h1=>QA k r _ _ h1) h
theorem jc {g:MG}{c:WT}{f:W}{ts:List Nat}{Q:List PV->ME->Prop}[C:zo c][F:d7 f](I:List PV->List PV->ME->Prop)(hd:∀ ys ε,I [] ys ε->Q ys ε)(hs:∀ x xs ys ε,I (x::xs) ys ε->∃ ε1,g x ε=some ε1/\c ε1 λb ε2=>if b=true then f ε2 λy ε3=>I xs (ys++[y]) (rst ts ε3) else I xs ys (rst ts ε2)):∀(xs ys:List PV)(ε:ME),I xs ys ε->xF g c f ts xs ys ε Q
 |[],ys,ε,h=>hd ys ε h
 |x::xs,ys,ε,h=>by
  obtain ⟨ε1,e1,h1⟩:=hs x xs ys ε h;exact ⟨ε1,e1,C.h (λb ε2 h2=>wm (λh3=>F.h (λy ε3 h4=>jc I hd hs xs _ _ h4) h3) (λh3=>jc I hd hs xs _ _ h3) h2) h1⟩
theorem vP {f:W}{Q:List PV->ME->Prop}[F:d7 f](I:List PV->List PV->ME->Prop)(hd:∀ ys ε,I [] ys ε->Q ys ε)(hs:∀ x xs ys ε,I (x::xs) ys ε->∃ ε1,g x ε=some ε1/\f ε1 λy ε3=>I xs (ys++[y]) (rst ts ε3))(xs ys:List PV)(ε:ME)(h:I xs ys ε):xF g xH f ts xs ys ε Q :=
 jc I hd (λx xs ys ε h=>by
  obtain ⟨ε1,e,q⟩:=hs x xs ys ε h;refine ⟨ε1,e,?_⟩;show if true=true then (f ε1 λy ε3=>I xs (ys++[y]) (rst ts ε3)) else I xs ys (rst ts ε1)
  rw [if_pos rfl];exact q) xs ys ε h
theorem jn {g:MG}{f:WS}{N:ME->Prop}{R:PV->ME->Prop}[F:m6 f](I:List PV->ME->Prop)(hd:∀ ε,I [] ε->N ε)(hs:∀ x xs ε,I (x::xs) ε->∃ ε1,g x ε=some ε1/\f ε1 (λε2=>I xs ε2) R):∀(xs:List PV)(ε:ME),I xs ε->qO g f xs ε N R
 |[],ε,h=>hd ε h
 |x::xs,ε,h=>by
  obtain ⟨ε1,e1,h1⟩:=hs x xs ε h;exact ⟨ε1,e1,F.h (λε2 h2=>jn I hd hs xs ε2 h2) (λ_ _ z=>z) h1⟩
section
variable {ε ε1:ME}{a b:MS}{f g:M}{x y z:PV}{i:Nat}{o:Option Out}
theorem qw (h:a ε=some (.nx ε1))(k:b ε1=o):d8 a b ε=o:=by unfold d8;rw [h];exact k
theorem qx (h:f ε=some x):o7 i f ε=some (.nx (ε.set i (.sh x))):=by unfold o7;rw [h];rfl
theorem jf (h:f ε=some x):qg i f ε=some (.nx (ε.set i (.ow x))):=by unfold qg;rw [h];rfl
theorem je (h:f ε=some x):o6 f ε=some (.rt x):=by unfold o6;rw [h];rfl
theorem d5 {G:PV->PV->Option PV}{r:Option PV}(h1:f ε=some x)(h2:g ε=some y)(h:G x y=r):x9 G f g ε=r:=by unfold x9;rw [h1];show Option.bind (g ε) _=_;rw [h2];exact h
theorem i2 {m:List PV->Option PV}{as:MA}{r:Option PV}(h1:as ε=some xs)(h:m xs=r):z7 m as ε=r:=by unfold z7;rw [h1];exact h
theorem c4 {r:MA}(h1:f ε=some x)(h2:r ε=some xs):q0 f r ε=some (x::xs):=by unfold q0;rw [h1];show Option.bind (r ε) _=_;rw [h2];rfl
theorem vZ {c:MB}(h:c ε=some true)(k:a ε=o):m7 c a b ε=o:=by unfold m7;rw [h];exact k
theorem Xw {c:MB}(h:c ε=some false)(k:b ε=o):m7 c a b ε=o:=by unfold m7;rw [h];exact k
theorem Xv {it:MA}(h:it ε=some xs)(k:qf G a xs ε=o):xQ it G a ε=o:=by unfold xQ;rw [h];exact k
theorem xk {lo hi:Option Int}(h1:f ε=some (.lst xs))(h2:l ε=some lo)(h3:u ε=some hi):p9 f l u ε=some (.lst (qu xs lo hi)):=by unfold p9;rw [h1];show Option.bind (l ε) _=_;rw [h2];show Option.bind (u ε) _=_;rw [h3];rfl
theorem wa {as:MA}(h:as ε=some xs)(hl:xs.length<=lim):w5 as ε=some (.lst xs):=by unfold w5;rw [h];show (if _ then _ else _)=_;rw [if_pos hl]
theorem Xu {cap:List (Option Nat)}{it:MA}{c:MB}(h:it ε=some xs)(hc:xM cap ts=true)(hl:xs.length<=lim)(k:qG G c f (k6 cap ε) xs=some ys):zw cap ts it G c f ε=some (.lst ys):=by unfold zw;rw [h];show (if _ then _ else _)=_;rw [if_pos ⟨hc,hl⟩,k];rfl
end
theorem xU (h:xs.length+ys.length<=lim):j6 (.lst xs) (.lst ys)=some (.lst (xs++ys)):=by show (if _ then _ else _)=_;rw [if_pos h]
theorem ZT (h:xs.length+ys.length<=lim):xW (.lst xs) (.lst ys)=some (.lst (xs++ys)):=by show (if _ then _ else _)=_;rw [if_pos h]
theorem vY {n:Nat}{b:MS}(hl:xs.length=k)(h:b (xs.map .sh++List.replicate (n-k) .no)=some (.rt y)):o4 n k b xs=some y:=by unfold o4;rw [if_pos hl,h];rfl
theorem vX {n:Nat}{b:MS}(hl:xs.length=k)(h:b (xs.map .sh++List.replicate (n-k) .no)=some (.rt y)):dFn n k b xs=some y:=by unfold dFn;rw [if_pos hl,h];rfl
theorem jB {f:PV->PV->Option Bool}:∀{xs:List PV},(∀ x∈xs,f x x=some true)->i6 f xs xs=some true
 |[],_=>rfl
 |x::xs,h=>by unfold i6;rw [h x yy];show Option.bind (i6 f xs xs) _=_;rw [jB λy hy=>h y (yL _ hy)];rfl
def xx:Nat->PV->Prop
 |_,.at u=>v7 u=true
 |n+1,.lst xs=>∀ x∈xs,xx n x
 |n+1,.tup xs=>∀ x∈xs,xx n x
 |_,_=>False
theorem jz:∀(n:Nat){x:PV},xx n x->peq n x x=some true
 |0,x,h=>by
  cases x with
  |«at» u=>show (if _ then _ else _)=_;rw [if_pos ⟨h,h⟩,zE h]
  |_=>exact h.elim
 |n+1,x,h=>by
  cases x with
  |«at» u=>show (if _ then _ else _)=_;rw [if_pos ⟨(show v7 u=true from h),h⟩,zE h]
  |lst xs=>show (if _ then _ else _)=_;rw [if_pos rfl];exact jB λy hy=>jz n (h y hy)
  |tup xs=>show Option.bind (i6 (peq n) xs xs) _=_;rw [jB λy hy=>jz n (h y hy)];show some (true&&(xs.length==xs.length))=_;rw [beq_self_eq_true];rfl
  |_=>exact h.elim
theorem jt (h:xx 6 x):pNe x x=some (.at (.bl false)):=by unfold pNe;rw [jz 6 h];rfl
variable {fr:Bool}
section
variable {ε:ME}{c d:MB}{f:M}{a b:WS}{N:ME->Prop}{R:PV->ME->Prop}
theorem zW (h:c ε=some false)(k:b ε N R):p6 (wPT c) a b ε N R:=by
 refine ⟨false,h,?_⟩;show if false=true then a ε N R else b ε N R
 rw [if_neg yY];exact k
theorem VB (h:c ε=some true)(k:a ε N R):p6 (wPT c) a b ε N R:=by
 refine ⟨true,h,?_⟩;show if true=true then a ε N R else b ε N R
 rw [if_pos rfl];exact k
theorem vS {v:Bool}(h1:c ε=some true)(h2:d ε=some v):xO c d ε=some v:=by unfold xO;rw [h1];show (if true=true then d ε else some false)=_;rw [if_pos rfl];exact h2
theorem Xk (h:c ε=some false):o5 c ε=some true:=by unfold o5;rw [h];rfl
theorem zC {v:Bool}(h:f ε=some (.at (.bl v))):m8 f ε=some v:=by unfold m8;rw [h];rfl
theorem xR {v:Bool}(h:f ε=some (.at (.bl v))):dT f ε=some v:=by unfold dT;rw [h];rfl
end
variable {fr:Bool}
section
variable {ε:ME}{a b:M}{v w:Bool}
theorem Xt (h1:a ε=some (.at (.bl true)))(h2:b ε=some (.at (.bl w))):zv a b ε=some (.at (.bl w)):=by unfold zv;rw [h1];exact h2
theorem Xy (h1:a ε=some (.at (.bl false)))(h2:b ε=some (.at (.bl w))):dOrV a b ε=some (.at (.bl w)):=by unfold dOrV;rw [h1];exact h2
theorem Xx (h1:a ε=some (.at (.bl v))):zA a ε=some (.at (.bl (!v))):=by unfold zA;rw [h1];rfl
theorem XW :qz [.at (.int n),.at (.ty "int")]=some (.at (.bl true)):=by unfold qz tyP;simp only [yi,Vs]
theorem XX :qz [.at (.int n),.at (.ty "bool")]=some (.at (.bl false)):=by unfold qz tyP;simp only [yi,Vr]
end
end Mi
namespace L2
open PySem PySem.Spec PyProof.Rows
def xK (CX:CXT)(X:Cx)(U:St)(E:XK):Prop:=∀(pins:List (Addr×Obj))(H:Hp)(s:Shared)(e:Value)(s':Shared),Inv X pins U H s->CX X.stack H s E e s'->X.xe e s'
def PEa (X:Cx)(U:St)(e:Expr)(t:TE):Prop:=∀(pins:List (Addr×Obj))(s:Shared)(H:Hp)(Q:VK),Inv X pins U H s->t U H Q->wpAny (model X.prog X.w) X.A (eval e X.env) (EP X pins U Q) X.xe s
def PSa (X:Cx)(U:St)(st:Stmt)(t:TS):Prop:=∀(pins:List (Addr×Obj))(s:Shared)(H:Hp)(D:p7),Inv X pins U H s->t D U H->wpAny (model X.prog X.w) X.A (exec st X.env) (SP X pins D) X.xe s
def PSsa (X:Cx)(U:St)(st:List Stmt)(t:TS):Prop:=∀(pins:List (Addr×Obj))(s:Shared)(H:Hp)(D:p7),Inv X pins U H s->t D U H->wpAny (model X.prog X.w) X.A (execs st X.env) (SP X pins D) X.xe s
section
variable {X:Cx}{k j:Nat}{C:Addr}{m x:Str}{ps:List Str}{sp:Sp}{o e c:Expr}{es:List Expr}{te ta:TE}{t:TA}{tc:TT}{apos pos p:Pos}{E:XK}{U:St}{st:Stmt}{a b:List Stmt}{u v:TS}
theorem Jy (h1:PSa X U st u):PSsa X U [st] u:=by
 intro pins s H D I h;refine wpAny_execs_cons (z0 (h1 pins s H D I h) λf s1 q=>?_);cases f with
 |next=>exact wpAny_execs_nil q
 |ret v=>exact q
 |brk=>exact q
 |cont=>exact q
theorem Jx (he:PEa X U e te)(hs:swapsWith e none pos.line X.env=pure false:=by rfl):PSa X U (.Expr e pos) (jS te):=by intro pins s H D I h;exact wpAny_Expr_any (z0 (he pins s H _ I h) λv s1 ⟨x,H1,I1,r1,q1⟩=>⟨U,H1,I1,q1⟩) I.quiet hs
theorem JT {CX:CXT}{f:Addr}{fd:FuncData}{pins:List (Addr×Obj)}{H:Hp}{s:Shared}{Q:VK}{us:List Value}{vs:List V}(F:FnOk X.prog X.w X.K X.mg X.base CX k f fd ps sp)(hr:Room k X.A)(hb:Binds X.K fd ps [])(hx:xK CX X U E)(I:Inv X pins U H s)(r:Vals vs us)(h:sp (vs++[]) H Q E):wpAny (model X.prog X.w) X.A (call (.ref f) us) (EP X pins U Q) X.xe s:=by
 have r2:Vals (vs++[]) (us++[]):=r.append .nil;have hl:(us++[]).length=ps.length:=by rw [<- r2.length];exact F.len _ _ _ _ h
 refine wpAny_call (codeAny_mono (F.run X.A X.stack s H ⟨us,[]⟩ (us++[]) (vs++[]) Q E hr I.env0 (hb s us I.kIn hl) r2 h) λr s' hq=>?_);cases r with
 |error e=>exact hx pins H s e s' I hq
 |ok fl =>
  cases fl with
  |ret u=>exact I.after hq
  |next=>exact False.elim hq
  |brk=>exact False.elim hq
  |cont=>exact False.elim hq
end
end L2
namespace Mi
open PySem L2
variable{t:TS}{K:Fg}{C:Addr}
abbrev RM:=ME->Out->Prop
class qX (fr:Bool)(ts:TS)(r:RM):Prop where
 h:∀{ε o},r ε o->∀{Hs0 H0 Hs H U},RS Hs0 H0 Hs H U ε->∀{D:p7},OutK fr Hs0 H0 D o->ts D U H
variable {fr:Bool}
def rP (b:MS):RM:=λε o=>b ε=some o
instance {b:MS}[s:u0 fr t b]:qX fr t (rP b) where
 h:=λe=>s.h e
def rSeq (a b:RM):RM:=λε o=>(∃ ε',a ε (.nx ε')/\b ε' o)∨(∃ y,o = .rt y/\a ε (.rt y))
instance {u:TS}{a b:RM}[sa:qX fr t a][sb:qX fr u b]:qX fr (tSeq t u) (rSeq a b) where
 h:=λh _ _ _ _ _ rs D q=>by
  rcases h with ⟨ε',h1,h2⟩|⟨y,rfl,h⟩
  ·exact sa.h h1 rs λHs H U r=>sb.h h2 r q
  ·exact sa.h h rs q
theorem RS.drop {Hs0 H0 Hs H:Hp}{U:St}{ε:ME}(r:RS Hs0 H0 Hs H U ε)(i:Nat):RS Hs0 H0 Hs H (U.set i none) (ε.set i .no):=by
 have dn:∀(j:Nat)(s:MSlot),(ε.set i .no)[j]?=some s->s = .no∨(i≠j/\ε[j]?=some s):=λj s q=>by
  rw [yS] at q;split at q
  ·split at q
   ·cases q;exact .inl rfl
   ·cases q
  ·rename_i h;exact .inr ⟨h,q⟩
 have up:∀(j:Nat),i≠j->(U.set i none)[j]?=U[j]?:=λj h=>yI h;refine ⟨r.ext,λj x q=>?_,λj x q=>?_,λj k x y a h1 h2 h3 h4=>?_,by rw [yD,yD,r.len],λj x q=>?_⟩
 ·rcases dn j _ q with z|⟨h,q⟩
  ·cases z
  ·rw [up j h];exact r.sh j x q
 ·rcases dn j _ q with z|⟨h,q⟩
  ·cases z
  ·rw [up j h];exact r.ow j x q
 ·rcases dn j _ h1 with z|⟨g1,q1⟩
  ·cases z
  ·rcases dn k _ h2 with z|⟨g2,q2⟩
   ·cases z
   ·rw [up j g1] at h3;rw [up k g2] at h4;exact r.nd j k x y a q1 q2 h3 h4
 ·rcases dn j _ q with z|⟨h,q⟩
  ·cases z
  ·rw [up j h];exact r.bo j x q
def clr (i:Nat):Out->Out
 | .nx ε=> .nx (ε.set i .no)
 | .bk ε=> .bk (ε.set i .no)
 | .ct ε=> .ct (ε.set i .no)
 | .rt y=> .rt y
def rFn (n k:Nat)(r:RM):List PV->PV->Prop:=λxs y=>xs.length=k/\∃ o,r (xs.map .sh++List.replicate (n-k) .no) o/\match o with
 | .rt z=>y=z
 | .nx _=>y = .at .non
 |_=>False
section
variable {P:Program}{w:World}{K:Fg}{mg:Str->Option Value}{base:Heap}
theorem okT {x qual:Str}{st:Stmt}{f:Addr}{fd:FuncData}{N ps:List Str}{k:Nat}{r:RM}{m:List PV->Option PV}(F:Fun K x qual st f fd)(S:u5 N ps (z8 st))(hm:∀ xs y,m xs=some y->rFn N.length ps.length r xs y)(hb:∀(cdv:Value)(A:Around)(outer:List Env)(s:Shared)(H:Hp)(E:XK),Room k (A.deeper (PyProof.Rows.envOfC qual (z8 st) s.heap.objs.size f cdv)) -> ∃ t,PSs (p0 j5 P w K mg base N qual (z8 st) f cdv A outer s H E).nox (b7 st) t/\qX false t r):FnOk P w K mg base j5 (k+1) f fd ps (spP m):=by
 refine F.ok S (λvs H Q E h=>?_) (λcdv A outer s H vs Q E hr h=>?_)
 ·obtain ⟨Hs,xs,y,_,r,e,_⟩:=h;rw [r.length];exact (hm xs y e).1
 ·obtain ⟨Hs,xs,y,sm,rr,e,q⟩:=h;obtain ⟨t,ht,sem⟩:=hb cdv A outer s H E hr;refine ⟨t,ht,?_⟩;obtain ⟨hl,o,eo,e1⟩:=hm xs y e;refine sem.h eo (by rw [<- hl];exact qD sm rr) ?_;cases o with
  |rt z=>have e2:y=z:=e1;subst e2;exact λv Hs' H' x rv=>q v Hs' H' x rv
  |nx ε=>have e2:y = .at .non:=e1;subst e2;exact λHs' H' U rs=>q _ Hs' H' rs.ext (rep_at.mpr rfl)
  |bk ε=>exact e1.elim
  |ct ε=>exact e1.elim
end
def zh:V->Option Value
 | .ref a=>some (.ref a)
 | .ty n=>some (.type n)
 |_=>none
theorem Vv {v:V}{d:Value}(h:zh v=some d):∀ u,RelV v u->u=d:=by
 intro u r;unfold zh at h;split at h
 ·cases h;exact r
 ·cases h;exact r
 ·cases h
abbrev rIsx (K:Fg)(ea C:Addr):List V->Hp->VK->Prop:=λxs H Q=>∃(c:V)(d:Value)(b:Bool),xs=[.ref ea,c]/\(∀ u,RelV c u->u=d)/\PySem.W.kitOne K (.ref C) d=some b/\Q (.bl b) H
def qK (K:Fg)(ea C:Addr):List PV->Option PV
 |[.at (.ref a),.at v]=>if a=ea then (zh v).bind λd=>(PySem.W.kitOne K (.ref C) d).bind λb=>some (.at (.bl b)) else none
 |_=>none
instance {ea:Addr}:qU (rIsx K ea C) (qK K ea C) where
 h:=λ{xs z} e {Hs H vs} s r {Q} q=>by
  unfold qK at e;split at e
  ·split at e
   ·rename_i ha;subst ha;obtain ⟨d,e1,e⟩:=bind_some e;obtain ⟨b,e2,e⟩:=bind_some e;cases e;obtain ⟨v,w,rfl,a,c⟩:=jG r;cases j8 a;cases j8 c;exact ⟨_,d,b,rfl,Vv e1,e2,q _ _ _ (.refl s) (rep_at.mpr rfl)⟩
   ·cases e
  ·cases e
theorem xm :∀ c∈([]:List Addr),d2 K c:=λ_ z=>nomatch z
theorem xl {cs:List Addr}(h:d2 K C)(r:∀ c∈cs,d2 K c):∀ c∈C::cs,d2 K c:=λc hc=>by
 rcases yK.mp hc with rfl|hc
 ·exact h
 ·exact r c hc
end Mi
namespace L2
open PySem PySem.Spec PyProof.Rows
section
variable {P:Program}{w:World}{K:Fg}{mg:Str->Option Value}{base:Heap}{A:Around}{outer:List Env}{s:Shared}{H:Hp}{f c':Addr}{pm ctv:Value}{params:Arguments}{body:Expr}{scope:Scope}{qual:Str}{clos:List (Str×Addr)}{ps fr:List Str}
 {us:List Value} {vs cv:List V} {t:TE} {Q:VK} {E:XK}
end
end L2
namespace L2
open PySem PySem.Spec PySem.Calls PyProof.Rows
variable{x:Str}{e:Expr}{te:TE}{pos:Pos}{es:List Expr}{t:TA}
section
variable {X:Cx}{K:Fg}
theorem scI {N P:List Str}{sc:Scope}(h1:sc.kind = .function:=by rfl)(h2:sc.isCoroutine=false:=by rfl)(h3:sc.isGenerator=false:=by rfl)(h4:N.Nodup:=by decide +kernel)(h5:N.take P.length=P:=by rfl)(h6:∀ x∈P,sc.names.lookup x=some .local∨sc.names.lookup x=some .cell:=by decide +kernel)(h7:∀ y∈sc.names,y.2 ≠ .free:=by decide +kernel):u5 N P sc:=⟨h1,h2,h3,h4,h5,h6,h7⟩
theorem sW (i:Nat){pos':Pos}(hN:X.N.Nodup)(he:PE X e te)(hi:X.N[i]?=some x:=by rfl)(hx:Loc X.env.scope x:=by first|exact Or.inl rfl|exact Or.inr rfl)(hs:swapsWith e (some (.Name x pos')) pos.line X.env=pure false:=by rfl)(hf:X.fn x=true∨X.env.scope.names.lookup x=some .local:=by first|exact .inl rfl|exact .inr rfl):PS X (.Assign [.Name x pos'] e pos) (qq te (c6 i)):=qo hN hi hx he hs hf
theorem aW (ha:PE X e te)(hs:starEach [e] X.env=(false,eval e X.env)::starEach [] X.env:=by rfl):PA X [e] (h8 te qa):=y8 ha c7 hs
theorem aC (ha:PE X e te)(hr:PA X es t)(hs:starEach (e::es) X.env=(false,eval e X.env)::starEach es X.env:=by rfl):PA X (e::es) (h8 te t):=y8 ha hr hs
theorem iW {a b:Expr}{ta tb:TE}(hK:X.K=K)(ha:PE X a ta)(hb:PE X b tb)(hs:ve b:=by exact λ_ _=>rfl):PE X (.Subscript a b pos) (tOp (rIx K) ta tb):=zL (Zd hK) ha hb hs
end
section
variable {X:Cx}{K:Fg}
theorem fW {ps:List Str}{sp:Sp}{k j:Nat}{p:Pos}(c:Fn X.prog X.w X.K X.mg X.base k x ps sp)(hr:Room j X.A)(ha:PA X (e::es) t)(hj:k<=j:=by decide)(hg:Gl X x:=by rfl)(hdb:(x==("__debug__":Str))=false:=by decide)(he:starEach (e::es) X.env=(false,eval e X.env)::starEach es X.env:=by rfl)(hpl:(backTo pos (starEach es X.env)).any (·.1)=false:=by rfl):PE X (.Call (.Name x p) (e::es) [] pos) (t5 sp [] E0 t):=wK c hr hj hg ha hdb he hpl
theorem gW (i:Nat)(hN:X.N.Nodup)(hi:X.N[i]?=some x:=by rfl)(hx:Loc X.env.scope x:=by first|exact Or.inl rfl|exact Or.inr rfl)(hf:X.fn x=true∨X.env.scope.names.lookup x=some .local:=by first|exact .inl rfl|exact .inr rfl):PG X (.Name x pos) (c6 i):=xY hN hi hx hf
end
end L2
namespace L2
open PySem PySem.Spec PyProof.Rows
variable{oe:Obj}{vs:Array Value}{l:List Env}{h:Heap}
theorem Xm (o:Obj)(f:Array Value->Array Value):(o.mapFields f).dict=o.dict:=by obtain ⟨c,d,dt,sl⟩:=o;cases dt<;>rfl
structure qE (base h:Heap)(l:List Env)(e:Addr)(cls a0 fl:Value)(dx:Option Addr):Prop where
 st:base.StaysIn h
 new:base.get? e=none
 fun_:h.FunFrames base l
 ex:∃ oe vs T oT ts,h.get? e=some oe/\oe.cls=cls/\oe.dict=dx/\vs[0]?=some a0/\oe.data = .fields vs/\vs[1]?=some (.ref T)/\base.get? T=none/\T≠e/\h.get? T=some oT/\oT.data = .fields ts/\ts[3]?=some fl
section
variable {M:Model}{A:Around}{E:Value->Shared->Prop}{s:Shared}{base:Heap}{env:Env}{outer:List Env}{L e:Addr}{dx:Option Addr}{cls a0 fl:Value}{Q:Unit->Shared->Prop}
theorem wF {head:Value}{had:Bool}(fr:A.frames=some (env::outer))(ff:s.heap.FunFrames base (env::outer))(hf:env.frame=some L)
  (he:s.heap.get? e=some oe) (st:base.StaysIn s.heap) (ne:base.get? e=none) (hd:oe.data = .fields vs) (sz:1<vs.size) (h0:vs[0]?=some a0)
  (h:∀ h',qE base h' (env::outer) e oe.cls a0 (rawInt L) oe.dict->s.heap.UpToSlots h'->Q () { s with heap:=h' }) :
  wpAny M A (do let a <- frameOf env;let pl <- entryPlaceOf L had;let b <- EntryCells.newEntry head a .none (rawInt L) .none pl;setField (.ref e) 1 b) Q E s:=by
 have out:e∉(env::outer).filterMap (·.frame):=λz=>by
  obtain ⟨_,o,z1,z2⟩:=ff.mem z;rw [he] at z1;cases z1;exact z2 vs hd
 refine yW (wpAny_frameOf_fun fr ff hf λh1 s1=>yW (wpAny_entryPlaceOf λpl hpl=>?_));unfold EntryCells.newEntry newFields;refine yW (wpAny_newObj_type ?_ (hpl.sizeOk5 _ _ _ _ _));have e1:h1.get? e=some oe:=(s1.2.1 e out).trans he;have k1:base.StaysIn h1:=λb o q=>(s1.2.1 b λz=>by rw [(ff.mem z).1] at q;cases q).trans (st b o q);generalize hob:({ cls:= .type "traceback",dict:=none,data:= .fields ([head,.ref L,.none,rawInt L,.none]++(if pl.isEmpty then List.replicate 6 Value.none else pl)).toArray }:Obj)=ob;have e2:=yV (h:=h1) ob e1;refine wpAny_setField e2 hd sz (h _ ?_ ?_)
 ·have nT:h1.objs.size≠e:=Nat.ne_of_gt (yU e1);have d3:=Obj.data_mapFields hd (·.setIfInBounds 1 (Value.ref h1.objs.size));have e3:=uS (Obj.mapFields (·.setIfInBounds 1 (Value.ref h1.objs.size))) e2 (Obj.isFreed_of_fields d3);have eT:=(yo (h1.push ob) (Obj.mapFields (·.setIfInBounds 1 (Value.ref h1.objs.size))) (Ne.symm nT)).trans (yz h1 (by subst hob;rfl));have keep:∀ b o,b≠e->h1.get? b=some o->((h1.push ob).update e (Obj.mapFields (·.setIfInBounds 1 (Value.ref h1.objs.size)))).get? b=some o:=λb o nb q=>by
   rw [yo _ _ (Ne.symm nb)];exact yV _ q
  refine ⟨λb o q=>keep b o (λz=>by rw [z,ne] at q;cases q) (k1 b o q),ne,ff.of_keeps λb o q nf=>?_,?_⟩
  ·obtain ⟨sl,q1⟩:=s1.2.2 b o q;exact ⟨_,keep b _ (λz=>by rw [z,he] at q;cases q;exact nf vs hd) q1,rfl⟩
  ·refine ⟨_,_,h1.objs.size,_,_,e3,Obj.cls_mapFields _ _,Xm _ _,by rw [Array.getElem?_setIfInBounds_ne (by decide)];exact h0,d3,by simp [sz],k1.fresh,nT,eT,by subst hob;rfl,?_⟩
   first|(simp;done)|(rcases hpl with rfl|⟨_,_,_,_,_,_,_,rfl⟩<;>simp)
 ·intro b o q nf;obtain ⟨sl,q1⟩:=s1.2.2 b o q;refine ⟨sl,?_⟩;show ((h1.push ob).update e _).get? b=_;rw [yo _ _ (λz:e=b=>by rw [<- z,he] at q;cases q;exact nf vs hd)];exact yV _ q1
theorem jo (F:qE base s.heap l e cls a0 fl dx)(h:∀ h',qE base h' l e cls a0 .none dx->s.heap.UpToSlots h'->Q () { s with heap:=h' }):wpAny M A (setFlight (.ref e) none) Q E s:=by
 obtain ⟨st,ne,ff,oe,vs,T,oT,ts,q1,q2,q3,q4,q5,q6,q7,q8,q9,q10,q11⟩:=F;have s3:3<ts.size:=(uY.mp q11).1;have oth:∀ b,b≠T->(s.heap.update T (Obj.mapFields (·.setIfInBounds 3 ((none:Option Addr).elim Value.none λf=>rawInt f)))).get? b=s.heap.get? b:=λb nb=>yo _ _ (Ne.symm nb);have nT:∀ b o,s.heap.get? b=some o->(∀ vs,o.data ≠ .fields vs)->b≠T:=λb o q nf z=>by
  rw [z,q9] at q;cases q;exact nf ts q10
 unfold setFlight;refine yW (wpAny_field q1 q5 q6 ?_);rw [if_pos (show (Value.ref T != Value.none)=true from by simp)];refine wpAny_setField q9 q10 s3 (h _ ⟨λb o q=>(oth b λz=>by rw [z,q7] at q;cases q).trans (st b o q),ne,ff.of_keeps λb o q nf=>⟨o,(oth b (nT b o q nf)).trans q,rfl⟩,?_⟩ λb o q nf=>⟨o.slots,(oth b (nT b o q nf)).trans q⟩);exact ⟨oe,vs,T,_,_,(oth e (Ne.symm q8)).trans q1,q2,q3,q4,q5,q6,q7,q8,uS _ q9 (Obj.isFreed_of_fields (Obj.data_mapFields q10 _)),Obj.data_mapFields q10 _,by simp [s3]⟩
theorem UpTo.trans {h1 h2 h3:Heap}(a:h1.UpToSlots h2)(b:h2.UpToSlots h3):h1.UpToSlots h3:=Heap.UpToSlots.trans a b
theorem ZA (fr:A.frames=some (env::outer))(hf:env.frame=some L)(F:qE base s.heap (env::outer) e cls a0 .none dx)(h:∀ h',qE base h' (env::outer) e cls a0 (rawInt L) dx->s.heap.UpToSlots h'->Q () { s with heap:=h' }):wpAny M A (noteFrame (.ref e) env) Q E s:=by
 obtain ⟨st,ne,ff,oe,vs,T,oT,ts,q1,q2,q3,q4,q5,q6,q7,q8,q9,q10,q11⟩:=F;subst q2 q3;unfold noteFrame;simp only [hf];refine yW (wpAny_field q1 q5 q6 ?_);rw [if_pos (show (Value.ref T != Value.none)=true from by simp)];refine yW (wpAny_field q9 q10 q11 ?_);rw [if_neg (show ¬ ((Value.none==rawInt L)=true) from by simp [rawInt])];refine yW (wpAny_setField q9 q10 (uY.mp q11).1 ?_);have oth:∀ b,b≠T->(s.heap.update T (Obj.mapFields (·.setIfInBounds 3 Value.none))).get? b=s.heap.get? b:=λb nb=>yo _ _ (Ne.symm nb);have nT:∀ b o,s.heap.get? b=some o->(∀ vs,o.data ≠ .fields vs)->b≠T:=λb o q nf z=>by
  rw [z,q9] at q;cases q;exact nf ts q10
 refine wF fr (ff.of_keeps λb o q nf=>⟨o,(oth b (nT b o q nf)).trans q,rfl⟩) hf ((oth e (Ne.symm q8)).trans q1) (λb o q=>(oth b λz=>by rw [z,q7] at q;cases q).trans (st b o q)) ne q5 (uY.mp q6).1 q4 λh' F' up=>h h' F' λb o q nf=>?_;exact up b o ((oth b (nT b o q nf)).trans q) nf
theorem Zr (fr:A.frames=some (env::outer))(ff:s.heap.FunFrames base (env::outer))(hf:env.frame=some L)(he:s.heap.get? e=some oe)(st:base.StaysIn s.heap)(ne:base.get? e=none)(hd:oe.data = .fields vs)(h1:vs[1]?=some .none)(h0:vs[0]?=some a0)(h:∀ h',qE base h' outer e oe.cls a0 .none oe.dict->s.heap.UpToSlots h'->Q () { s with heap:=h' }):wpAny M A (leaving env (.ref e)) Q E s:=by unfold leaving noteFrame;simp only [hf];refine yW (yW (wpAny_field he hd h1 ?_));rw [if_neg (by decide)];refine wF fr ff hf he st ne hd (uY.mp h1).1 h0 λh1 F1 u1=>?_;refine jo F1 λh2 F2 u2=>h h2 ⟨F2.st,F2.new,F2.fun_.2.2,F2.ex⟩ (UpTo.trans u1 u2)
end
structure Fly2 (h0 h:Heap)(H:Hp)(e:Addr)(cls:Value)(dx:Option Addr):Prop where
 ex:∃ oe vs T oT ts a0,h.get? e=some oe/\oe.cls=cls/\oe.dict=dx/\vs[0]?=some a0/\oe.data = .fields vs/\vs[1]?=some (.ref T)/\T≠e/\h.get? T=some oT/\oT.data = .fields ts/\ts[3]?=some .none/\H T=none/\h0.get? T=none
 free:H e=none
 new:h0.get? e=none
def CX2 (P:Program)(w:World):CXT:=λouter H s E e s'=>∃ ea cls dx H',e = .ref ea/\s'.os=s.os/\AllBare s'.gens/\Un (v9 outer) [] H H' s.heap s'.heap/\HOk P w H' s'.heap/\Fly2 s.heap s'.heap H' ea cls dx/\E cls dx H'
section
variable {M:Model}{A:Around}{Er:Value->Shared->Prop}{s:Shared}{h0 base:Heap}{H:Hp}{P:Program}{w:World}{env:Env}{outer:List Env}{L e:Addr}{cls:Value}{dx:Option Addr}{Q:Unit->Shared->Prop}
theorem Fly2.hid (fr:h.FunFrames base l)(F:Fly2 h0 h H e cls dx):∃ T a0,T≠e/\H T=none/\h0.get? T=none/\(∃ o,h.get? T=some o)/\qE (PySem.W.hideAll h ([e,T]++v9 l)) h l e cls a0 .none dx:=by obtain ⟨⟨oe,vs,T,oT,ts,a0,e1,e2,e2',e3,e4,e5,e6,e7,e8,e9,e10,e11⟩,e12,e13⟩:=F;have hin:∀ x∈l,∀ b,x.frame=some b->b∈[e,T]++v9 l:=λx hx b hb=>yN _ (jp hx hb);exact ⟨T,a0,e6,e10,e11,⟨_,e7⟩,⟨λb o q=>PySem.W.of_hideAll _ q,PySem.W.hideAll_none _ (yB _ (by simp)),PySem.W.funFrames_hide fr hin,oe,vs,T,oT,ts,e1,e2,e2',e3,e4,e5,PySem.W.hideAll_none _ (yB _ (by simp)),e6,e7,e8,e9⟩⟩
theorem Vt {h':Heap}(fr:h.FunFrames base l)(up:h.UpToSlots h'):∀ b o,b∈v9 l->h.get? b=some o->∃ z,h'.get? b=some { o with slots:=z }:=λb o hb q=>up b o q (by
 obtain ⟨_,o2,z3,z4⟩:=fr.mem hb;rw [q] at z3;cases z3;exact z4)
theorem Zq {a0:Value}(hfr:A.frames=some (env::outer))(hf:env.frame=some L)(fr:s.heap.FunFrames base (env::outer))(hok:HOk P w H s.heap)(hp:∀ b o,h0.get? b=some o->∃ o',s.heap.get? b=some o')(he:s.heap.get? e=some oe)(hd:oe.data = .fields vs)(v1:vs[1]?=some .none)(v0:vs[0]?=some a0)(e12:H e=none)(e13:h0.get? e=none)(hQ:∀ h',xJ ([e]++v9 (env::outer)) (env::outer) s.heap h'->Fly2 h0 h' H e oe.cls oe.dict->Q () { s with heap:=h' }):wpAny M A (leaving env (.ref e)) Q Er s:=by have hin:∀ x∈env::outer,∀ b,x.frame=some b->b∈[e]++v9 (env::outer):=λx hx b hb=>yN _ (jp hx hb);refine Zr (base:=PySem.W.hideAll s.heap ([e]++v9 (env::outer))) hfr (PySem.W.funFrames_hide fr hin) hf he (λb o q=>PySem.W.of_hideAll _ q) (PySem.W.hideAll_none _ (yB _ (by simp))) hd v1 v0 λh' x up=>?_;obtain ⟨f1,f2,f3,oe',vs',T',oT',ts',g1,g2,g2',g3,g4,g5,g6,g7,g8,g9,g10⟩:=x;have sl:=Vt fr up;obtain ⟨n1,n2⟩:=Xn (S:=[e]) hok hp fr rfl sl g6 g8 g9 (λz=>by rw [yF.mp z];exact ⟨e12,e13⟩);exact hQ h' ⟨λb o nb q=>f1 b o (PySem.W.hideAll_get _ q nb),sl⟩ ⟨⟨oe',vs',T',oT',ts',_,g1,g2,g2',g3,g4,g5,g7,g8,g9,g10,n1,n2⟩,e12,e13⟩
end
def vj (X:Cx)(E:XK):Prop:=∀(pins:List (Addr×Obj))(U:St)(H:Hp)(s:Shared)(ea C:Addr)(oe:Obj)(vs:Array Value)(a0:Value),Inv X pins U H s->s.heap.get? ea=some oe->oe.cls = .ref C->oe.data = .fields vs->vs[1]?=some .none->vs[0]?=some a0->H ea=none->X.s₀.heap.get? ea=none->E (.ref C) oe.dict H->X.xe (.ref ea) s
section
variable {P:Program}{w:World}{K:Fg}{mg:Str->Option Value}{base:Heap}{N:List Str}{qual:Str}{scope:Scope}{f:Addr}{cd:Value}{A:Around}{outer:List Env}{s:Shared}{H:Hp}{E:XK}
theorem Vi:vj (p0 (CX2 P w) P w K mg base N qual scope f cd A outer s H E) E:=by
 intro pins U H1 s1 ea C oe vs a0 I he hc hd v1 v0 n1 n0 q;refine Zq (h0:=s.heap) (H:=H1) (P:=P) (w:=w) (base:=base) (L:=s.heap.objs.size) I.ok.frames rfl I.stack I.hok (λb o e=>I.base.there b o e (λz=>nomatch z)) he hd v1 v0 n1 n0 λh2 k F=>?_;refine ⟨ea,_,_,H1,rfl,I.os,I.bare,Un.off (S:=[ea]++v9 (envOfC qual scope s.heap.objs.size f cd::outer)) I.base k.keep (λb hb=>?_) (λb o hb e=>k.slot b o (yn.mpr ?_) e),I.hok.off k.keep (λb hb=>?_),F,by rw [hc];exact q⟩
 ·rcases yE.mp hb with z|z
  ·rw [yF.mp z];exact .inr n0
  ·rcases yK.mp (I.stkSub b z) with z|z
   ·refine .inr ?_;rw [z];exact yx (yT _)
   ·exact .inl z
 ·obtain ⟨x,hx,hf⟩:=yn.mp hb;exact ⟨x,yL _ hx,hf⟩
 ·rcases yE.mp hb with z|z
  ·rw [yF.mp z];exact n1
  ·exact I.stkFree b z
theorem Fun.ok2 {x qual:Str}{st:Stmt}{f:Addr}{fd:FuncData}{N ps:List Str}{k:Nat}{sp:Sp}(F:Fun K x qual st f fd)(S:u5 N ps (z8 st))(len:∀ vs H Q E,sp vs H Q E->vs.length=ps.length)(hbody:∀(cdv:Value)(A:Around)(outer:List Env)(s:Shared)(H:Hp)(vs:List V)(Q:VK)(E:XK),Room k (A.deeper (envOfC qual (z8 st) s.heap.objs.size f cdv))->sp vs H Q E -> ∃ t,PSs (p0 (CX2 P w) P w K mg base N qual (z8 st) f cdv A outer s H E) (b7 st) t/\t { nx:=λ_ H'=>Q .non H',rt:=Q } (b8 N vs) H):FnOk P w K mg base (CX2 P w) (k+1) f fd ps sp:=by obtain ⟨oc,od,kV,doc,pm,an,cdv,ct,osl,rfl,lk,hcd⟩:=F.ex;exact wd lk hcd S len λA outer s H vs Q E hr hsp=>hbody cdv A outer s H vs Q E hr hsp
end
structure Fy (P:Program)(w:World)(K:Fg)(mg:Str->Option Value)(base:Heap)(k:Nat)(x:Str)(ps:List Str)(sp:Sp):Prop where
 ex:∃ f fd,FnOk P w K mg base (CX2 P w) k f fd ps sp/\mg x=some (.ref f)/\PySem.W.keepIn K (.ref f)=true/\Binds K fd ps []
section
variable {X:Cx}{k j:Nat}{x:Str}{ps:List Str}{sp:Sp}{e:Expr}{es:List Expr}{t:TA}{p pos:Pos}{E:XK}{U:St}
theorem Jd (c:Fy X.prog X.w X.K X.mg X.base k x ps sp)(hr:Room j X.A)(hj:k<=j)(hx:xK (CX2 X.prog X.w) X U E)(hg:Gl X x)(ha:PA X (e::es) t)(hdb:(x==("__debug__":Str))=false:=by decide)(he:starEach (e::es) X.env=(false,eval e X.env)::starEach es X.env:=by rfl)(hpl:(backTo pos (starEach es X.env)).any (·.1)=false:=by rfl):PEa X U (.Call (.Name x p) (e::es) [] pos) (t5 sp [] E t):=by obtain ⟨f,fd,F,hm,hk,hb⟩:=c.ex;intro pins s H Q I h;refine wpAny_Call_Name_kw (xo I hg hm ?_ hdb);refine PySem.W.callWith_K (h₀:=X.base) I.ok.mod.kin hk (z0 (ha pos pins s U H _ I h) λus s1 ⟨vs,H1,I1,r,q⟩=>⟨I1.kIn,?_⟩) he hpl;exact JT F (hr.mono hj) hb hx I1 r q
end
end L2
namespace L2
open PySem PySem.Spec PyProof.Rows PySem.W Builtin Builtin.ObjectAttr
variable{mN:Str->Option Value}{rest:List Value}{fI:Addr}{oI:Obj}
section
variable {prog:Program}{w:World}{A:Around}{E:Value->Shared->Prop}{s:Shared}{K:Frag}{e C R:Addr}{oe:Obj}{cd:ClassData}{name:Str}{v:Value}{vs:Array Value}{Q:Unit->Shared->Prop}
theorem xset (X:K.In s.heap)(he:s.heap.get? e=some oe)(hc:oe.cls = .ref C)(hdn:oe.dict=none)(hdf:oe.data = .fields vs)(hcd:clsIn K C=some cd)(hmro:cd.mro = .ref C:: .ref R::veMro)(hhd:cd.hasDict=true)(hs:findIn K (.ref C) "__setattr__"=some (some (.builtin "object.__setattr__")))(hn:findIn K (.ref C) name=some none)(h:∀ h' dx tk,h'.get? e=some { oe with dict:=some dx }->h'.Ns1 dx (λy=>if y=name then some v else none)->s.heap.objs.size<=dx->(∀ b o,b≠e->s.heap.get? b=some o->h'.get? b=some o)->Q () { s with heap:=h',toks:=tk }):wpAny (model prog w) A (setAttr (.ref e) name v) Q E s:=by
 have I:InstAt s.heap e oe C none:=⟨he,hc,by unfold notCls;rw [hdf],by rw [hdn];trivial⟩;refine set_plain X I hs ?_;obtain ⟨hp,gs,dr,tk,os⟩:=s;show codeAny _ _ _ _ (⟨hp,gs,dr,tk+1,os⟩:Shared)
 change K.In hp at X
 change hp.get? e=some oe at he
 change InstAt hp e oe C none at I
 have SF:=PySem.F.store_object;have sub:Looks (model prog w) hp (isInstance (.ref e) (.type "object")) true:=I.type.andThen (looks_mroIn X (by unfold mroIn;rw [hcd,yi,hmro];rfl));refine codeAny_call_builtin SF.slot.plain SF.entry (@check_slot (model prog w) _ _ _ "object.__setattr__" "object" "__setattr__" (.ref e) [.str name tk,v] [] _ SF.kind SF.split sub (SF.args (.ref e) (.str name tk) v) ?_);have hm:Looks (model prog w) hp (mroOf (.ref C)) cd.mro:=(looks_clsIn X hcd).andThen .now;rw [osa_eq,refuse_eq];refine yW (yW (I.type.here (yW (hm.here ?_))));rw [hmro,refuseLoop_ref,refuseLoop_ref,show veMro=[.type "ValueError",.type "Exception",.type "BaseException",.type "object"] from rfl,PySem.F.store_ValueError.passes];refine yM (yW (I.type.here (yW ((looks_findIn X hn).here (yW (yM ?_))))));show wpAny _ _ (storeInOwnDict (.ref e) (.ref C) (.str name tk) name v false) _ _ _;unfold storeInOwnDict ownDictForStores instanceDict;have he':(⟨hp,gs,dr,tk+1,os⟩:Shared).heap.get? e=some oe:=he;refine yW (yM (yW (yW (wpAny_loadPart he' ?_))));obtain ⟨ocl,odi,oda,osl⟩:=oe
 dsimp only at hc hdn hdf
 subst hc hdn hdf;refine yW ((looks_clsIn X hcd).here ?_);rw [hhd];have hx1:(hp.push { cls:= .type "dict",data:= .dict #[] }).get? e=some ⟨.ref C,none,.fields vs,osl⟩:=yV _ he;have hxs:e≠hp.objs.size:=yP (yU he);refine yW (wpAny_alloc' (yW (wpAny_update' hx1 (yM ?_))));have hg:((hp.push { cls:= .type "dict",data:= .dict #[] }).update e λo=>{ cls:=o.cls,dict:=some hp.objs.size,data:=o.data,slots:=o.slots }).get? hp.objs.size=some { cls:= .type "dict",data:= .dict #[] }:=(Heap.get?_update_ne _ _ _ _ hxs.symm).trans (Heap.get?_push_at rfl rfl);show wpAny _ _ (storeInDict hp.objs.size (.str name tk) name v) _ _ _;unfold storeInDict newKeyGuard;have hnd:((hp.push { cls:= .type "dict",data:= .dict #[] }).update e λo=>{ cls:=o.cls,dict:=some hp.objs.size,data:=o.data,slots:=o.slots }).Ns hp.objs.size (λ_=>none):=⟨_,#[],_,hg,rfl,λe he=>absurd he (by simp),λ_=>rfl⟩;refine yW (yM (yW (wpAny_nsSet1 (Heap.Ns1.of_empty hnd) λh' hn' hs'=>?_)));obtain ⟨oD,esD,epD,hoD,hdD,hcD⟩:=hn'.count (Within.cons name v Within.nil);refine yW (wpAny_lookBehind hoD (by rw [hdD];exact pastItsLine_dict (yt hcD (by rw [yC,List.length_nil,sizeLine_eq];omega))) ?_);refine yM (h h' hp.objs.size _ ?_ hn' (yT _) λb o nb q=>?_)
 ·refine (hs'.2 e hxs).trans (uS _ hx1 rfl)
 ·exact (hs'.2 b (yP (yU q))).trans ((Heap.get?_update_ne _ _ _ _ nb).trans (yV _ q))
end
section
variable {prog:Program}{w:World}{A:Around}{E:Value->Shared->Prop}{h:Heap}{g:Array GenState}{d:Drawn}{t:Nat}{os:OsState}
variable {nm q:Str}{C N:Addr}{bs bm bmB:List Value}{hdct:Bool}{sn:List Str}{sub:List Value}{ab:Bool}{col:Option Bool}{dd:Option Addr}{k0 k1 k2 k3 k5:Option Value}{B Bn newId nid initId inN:String}{bmN:List Value}
theorem Vh (Fn:ExcBaseFacts Bn newId inN bmN)(hBn:bmB.contains (.type Bn)=true)(F:ExcBaseFacts B nid initId bmB)(T:OwnTail h bmB bm){Q:PySem.Fin->Shared->Prop}(hC:h.get? C=some (excClassObj nm q C N bs bm hdct sn sub ab col dd k0 k1 k2 k3 k5 newId))(hn:h.Ns N mN)(hi:mN "__init__"=some (.ref fI))(hfI:h.get? fI=some oI)(hfc:oI.cls = .type "function")(hq:∀ h' e,Heap.MadeExcOf h h' e (.ref C) rest->h.objs.size<=e->wpAny (model prog w) A (call (.ref fI) (.ref e::rest)) (λr s'=>r = .none/\Q (.done (.ret (.ref e))) s') E ⟨h',g,d,t,os⟩)(hrest:rest.length<=sizeLine):wpAny (model prog w) A (Builtin.«type.__call__» ⟨.ref C::rest,[]⟩) Q E ⟨h,g,d,t,os⟩:=by
 repeat (first|with_reducible refine wpAny_loadPart_at hC ?_|with_reducible refine wpAny_madeBy_exc hC ?_|wp_step)
 refine codeAny_call_builtin_code (Code.quiet_builtin _ Fn.quiet) (wpAny_check_new_subU Fn hBn T hC (codeAny_exc_new_subU Fn hBn F T hC ?_ hrest));show wpAny _ _ _ _ _ _;have up:∀ b o,h.get? b=some o->((h.push { cls:= .type "tuple",data:= .seq rest.toArray }).push { cls:= .ref C,data:= .fields #[.ref h.objs.size,.none,.none,.none,.bool false,.none] }).get? b=some o:=λb o z=>yV _ (yV _ z);have ge:((h.push { cls:= .type "tuple",data:= .seq rest.toArray }).push { cls:= .ref C,data:= .fields #[.ref h.objs.size,.none,.none,.none,.bool false,.none] }).get? (h.objs.size+1)=some { cls:= .ref C,data:= .fields #[.ref h.objs.size,.none,.none,.none,.bool false,.none] }:=by heap_get
 have n1:((h.push { cls:= .type "tuple",data:= .seq rest.toArray }).push { cls:= .ref C,data:= .fields #[.ref h.objs.size,.none,.none,.none,.bool false,.none] }).Ns N mN:=let ⟨o,es,ep,z,r⟩:=hn;⟨o,es,ep,up _ _ z,r⟩
 have hcC:(Value.ref C::bm).contains (.ref C)=true:=by simp
 have T1:=T.keeps up;unfold isInstance
 repeat (first|with_reducible refine wpAny_loadPart_at ge ?_|(with_reducible refine wpAny_isSubtype_exc (up _ _ hC) ?_;rw [hcC])|wp_step)
 show wpAny _ _ (typeLookup (.ref C) _) _ _ _;refine wpAny_typeLookup_tail (up _ _ hC) n1 T1 F.mroIs F.init.lookup ?_;rw [hi];refine wpAny_holding (yW ?_);unfold bindSpecial;refine yW (wpAny_typeOf (T:="function") ⟨_,up _ _ hfI,hfc⟩ ?_);rw [if_pos (by decide)];refine yM (yW (wpAny_mono (hq _ (h.objs.size+1) ⟨up,yx (Nat.le_succ _),h.objs.size,ge,yx (yT _),yV _ (Heap.get?_push_at rfl rfl)⟩ (Nat.le_succ _)) (λr s' hr=>?_) λ_ _ x=>x));obtain ⟨rfl,hQ⟩:=hr
 wp_walk
 exact hQ
theorem QV (Fn:ExcBaseFacts Bn newId inN bmN)(hBn:bmB.contains (.type Bn)=true)(F:ExcBaseFacts B nid initId bmB)(T:OwnTail h bmB bm){Q:Value->Shared->Prop}(hC:h.get? C=some (excClassObj nm q C N bs bm hdct sn sub ab col dd k0 k1 k2 k3 k5 newId))(hn:h.Ns N mN)(hi:mN "__init__"=some (.ref fI))(hfI:h.get? fI=some oI)(hfc:oI.cls = .type "function")(hq:∀ h' e,Heap.MadeExcOf h h' e (.ref C) rest->h.objs.size<=e->wpAny (model prog w) (A.under (.builtin "type.__call__" ⟨.ref C::rest,[]⟩)) (call (.ref fI) (.ref e::rest)) (λr s'=>r = .none/\Q (.ref e) s') E ⟨h',g,d,t,os⟩)(hrest:rest.length<=sizeLine):wpAny (model prog w) A (call (.ref C) rest) Q E ⟨h,g,d,t,os⟩:=by
 have f1:=tc_lookup;have f2:=tc_bind (.ref C);have hT:(⟨h,g,d,t,os⟩:Shared).TypeIs (.ref C) "type":=⟨_,hC,rfl⟩;refine wpAny_call (codeAny_of_tree ?_);show wpAny _ _ (callAny (.ref C) _) _ _ _
 repeat (any_goals (first|assumption|with_reducible refine wpAny_loadPart_at hC ?_|wp_step))
 refine ⟨rfl,codeAny_call_builtin_at (Code.quiet_builtin _ (by decide +kernel)) entry_typeCall (wpAny_check_type_call_sub hC (Vh Fn hBn F T hC hn hi hfI hfc (λh' e hm hz=>?_) hrest))⟩;exact hq h' e hm hz
end
end L2
namespace L2
open PySem PySem.Spec PyProof.Rows PySem.W
variable{K:Frag}{h:Heap}{C dx e:Addr}{P:Program}{w:World}{H:Hp}{k:Nat}{pins:List (Addr×Obj)}{U:St}
def qb (K:Frag)(C R fI:Addr):Bool:=match K.lookup C with
 |some ⟨.type "type",_,.cls cd,sl⟩=>(match cd.mro,sl.toList with
  | .ref C':: .ref R'::bm,[_,_,_,_,some (.builtin n),_]=>C'==C&&R'==R&&bm==veMro&&n == "ValueError.__new__" && !cd.hasDel&&cd.hasDict&&tailIn K veMro (.ref R::veMro)&&nsOkIn K cd.ns&&nsIn K cd.ns "__init__" == some (some (.ref fI))
  |_,_=>false)
 |_=>false
theorem ZB {N:Addr}{mg:Str->Option Value}{n:Str}{v:Value}(X:K.In h)(G:h.Ns N mg)(e:nsIn K N n=some (some v)):mg n=some v:=by
 obtain ⟨o,es,ep,ho,hd,_,hf⟩:=G;unfold nsIn at e;split at e
 next a b es' c lk =>
  have:=X _ _ lk;rw [ho] at this;cases this;cases hd;split at e
  ·rename_i en he;cases e;rw [<- hf];unfold nsFind findBy;rw [<- Array.find?_toList,he];rfl
  ·split at e<;>cases e
 next=>cases e
structure XCls (h:Heap)(K:Frag)(C R fI:Addr):Prop where
 ob:∃ nm q N bs sn sub ab col dd k0 k1 k2 k3 k5 mN,h.get? C=some (excClassObj nm q C N bs (.ref R::veMro) true sn sub ab col dd k0 k1 k2 k3 k5 "ValueError.__new__")/\h.Ns N mN/\mN "__init__"=some (.ref fI)
 tl:OwnTail h veMro (.ref R::veMro)
 cl:∃ cd,clsIn K C=some cd/\cd.mro = .ref C:: .ref R::veMro/\cd.hasDict=true
theorem vb {R fI:Addr}(X:K.In h)(q:qb K C R fI=true):XCls h K C R fI:=by
 unfold qb at q;split at q
 next dA cA sA lk =>
  split at q
  next D R' bm s0 s1 s2 s3 nw s5 em es =>
   simp only [ym,beq_iff_eq,Bool.not_eq_true'] at q;obtain ⟨⟨⟨⟨⟨⟨⟨⟨q1,q2⟩,q3⟩,q4⟩,q5⟩,q6⟩,q7⟩,q8⟩,q9⟩:=q;subst q1 q2 q3 q4;have cl:clsIn K D=some cA:=by unfold clsIn;rw [lk]
   refine ⟨?_,tail_of_in X q7,cA,cl,em,q6⟩;cases cA with
   |mk f1 f2 f3 f4 f5 f6 f7 f8 f9 f10 f11 =>
    have em':f3 = .ref D:: .ref R'::veMro:=em;have q5':f11=false:=q5;have q6':f6=true:=q6;have es':sA=#[s0,s1,s2,s3,some (.builtin "ValueError.__new__"),s5]:=by
     cases sA with
     |mk l=>exact congrArg Array.mk es
    subst em' q5' q6' es';have G:=Heap.Ns.of_isNs (isNs_of_in X (show nsOkIn K f4=true from q8));exact ⟨f1,f5,f4,f2,f7,f8,f9,f10,dA,s0,s1,s2,s3,s5,_,X _ _ lk,G,ZB X G q9⟩
  next=>cases q
 next=>cases q
def XB (C e:Addr):Heap->Prop:=λh=>∃ t,h.get? e=some { cls:= .ref C,data:= .fields #[.ref t,.none,.none,.none,.bool false,.none] }
def XD (C e dx:Addr):Heap->Prop:=λh=>∃ t,h.get? e=some { cls:= .ref C,dict:=some dx,data:= .fields #[.ref t,.none,.none,.none,.bool false,.none] }
theorem xb_ok (x:XB C e h):ObjOk P w H h e (.ext (XB C e)):=⟨x,let ⟨_,q⟩:=x;⟨_,q⟩,λ_ _ ⟨t,q⟩ k=>⟨t,k _ q⟩⟩
theorem xd_ok (x:XD C e dx h):ObjOk P w H h e (.ext (XD C e dx)):=⟨x,let ⟨_,q⟩:=x;⟨_,q⟩,λ_ _ ⟨t,q⟩ k=>⟨t,k _ q⟩⟩
theorem Vu {a b c:HO}(n:dx≠e):z6 (z6 (z6 H e a) dx b) e c=z6 (z6 H dx b) e c:=by
 funext y
 by_cases h1:y=e
 ·subst h1;rw [j7,j7]
 ·rw [z5 h1,z5 h1];by_cases h2:y=dx
  ·subst h2;rw [j7,j7]
  ·rw [z5 h2,z5 h2,z5 h1]
def xD (C:Addr)(f:Str):Sp:=λvs H Q _=>∃ e v,vs=[.ref e,v]/\H e=some (.ext (XB C e))/\∀ dx,H dx=none->dx≠e->Q .non (z6 (z6 H dx (.xd [(f,v)])) e (.ext (XD C e dx)))
def sFldX (C:Addr)(f:Str)(ta tv:TE):TS:=λD U H=>tv U H λy H1=>ta U H1 λx H2=>∃ e,x = .ref e/\H2 e=some (.ext (XB C e))/\∀ dx,H2 dx=none->dx≠e->D.nx U (z6 (z6 H2 dx (.xd [(f,y)])) e (.ext (XD C e dx)))
section
variable {X:Cx}{o value:Expr}{f:Str}{pos pos':Pos}{ta tv:TE}{C R fI:Addr}
theorem Js (q:qb X.K C R fI=true)(hs:findIn X.K (.ref C) "__setattr__"=some (some (.builtin "object.__setattr__")))(hn:findIn X.K (.ref C) f=some none)(ha:PE X o ta)(hv:PE X value tv)(hw:swapsWith value (some (.Attribute o f pos')) pos.line X.env=pure false):PS X (.Assign [.Attribute o f pos'] value pos) (sFldX C f ta tv):=by
 intro pins s U H D I h;refine plainObj_wpAny_Assign_Attribute (z0 (hv pins s U H _ I h) λu s1 ⟨y,H1,I1,ry,q1⟩=>z0 (ha pins s1 U H1 _ I1 q1) λov s2 ⟨x,H2,I2,rx,e,ex,ee,q2⟩=>?_) hw;subst ex;obtain rfl:ov=Value.ref e:=rx;obtain ⟨⟨t,he⟩,_,_⟩:=(show ObjOk X.prog X.w H2 s2.heap e (.ext (XB C e)) from I2.hok e _ ee);obtain ⟨cd,c1,c2,c3⟩:=(vb I2.kIn q).cl;refine xset I2.kIn he rfl rfl rfl c1 c2 c3 hs hn λh' dx tk g1 g2 g3 g4=>?_;have nd:dx≠e:=λz=>by rw [z] at g3;exact yj _ (yQ (yU he) g3)
 have fd:H2 dx=none:=I2.hok.fresh g3;refine ⟨U,_,?_,q2 dx fd nd⟩;have oth:∀{b:Addr}{u:HO},b≠e->b≠dx->(z6 (z6 H2 dx (.xd [(f,y)])) e (.ext (XD C e dx)) b=some u↔H2 b=some u):=λ{b u} h1 h2=>by rw [z5 h1,z5 h2]
 have old:∀{b:Addr}{u:HO},H2 b=some u->b≠dx:=λ{b u} z1 z2=>by rw [z2,fd] at z1;cases z1
 refine I2.un ⟨λb u z n _ _=>g4 b u (λy=>by rw [y,ee] at n;cases n) z,λb u z n _ _=>⟨u.slots,g4 b u (λy=>by rw [y,ee] at n;cases n) z⟩,λb u z n _=>?_,λb u z _=>?_,λb xs z=>(oth (λy=>by rw [y,ee] at z;cases z) (old z)).mpr z,λb o u z=>(oth (λy=>by rw [y,ee] at z;cases z) (old z)).mpr z,λb ps q z=>(oth (λy=>by rw [y,ee] at z;cases z) (old z)).mpr z⟩ λb u z=>?_
 ·rw [z5 (λy=>by rw [y,ee] at n;cases n),z5 (λy=>by rw [y] at z;exact yj _ (yQ (yU z) g3))];exact n
 ·by_cases hb:b=e
  ·rw [hb];exact ⟨_,g1⟩
  ·exact ⟨_,g4 b u hb z⟩
 ·by_cases hb:b=e
  ·subst hb;rw [j7] at z;cases z;exact xd_ok ⟨t,g1⟩
  ·by_cases hd:b=dx
   ·subst hd;rw [z5 hb,j7] at z;cases z;refine ⟨_,g2,λg=>?_⟩;by_cases hg:g=f
    ·subst hg;rw [if_pos rfl];show RelO (List.lookup g [(g,y)]) _;rw [yu,beq_self_eq_true];exact ry
    ·rw [if_neg hg];show RelO (List.lookup g [(f,y)]) _;rw [yu,show (g==f)=false from beq_eq_false_iff_ne.mpr hg];exact True.intro
   ·rw [oth hb hd] at z;refine (I2.hok b u z).stay (λc v hc e1=>g4 c v (λy=>?_) e1) (λc e1=>(oth (λy=>by rw [y,ee] at e1;cases e1) (old e1)).mpr e1) (λc xs e1=>(oth (λy=>by rw [y,ee] at e1;cases e1) (old e1)).mpr e1) λc o u e1=>(oth (λy=>by rw [y,ee] at e1;cases e1) (old e1)).mpr e1;rcases hc with hc|hc
    ·exact hb (hc.symm.trans y)
    ·rw [y,ee] at hc;cases hc
structure XMk (P:Program)(w:World)(K:Frag)(mg:Str->Option Value)(base:Heap)(k:Nat)(x:Str)(C:Addr)(f:Str):Prop where
 ex:∃ R fI fd ps,qb K C R fI=true/\isFn K (.ref fI)=true/\keepIn K (.ref C)=true/\mg x=some (.ref C)/\FnOk P w K mg base j5 k fI fd ps (xD C f)/\Binds K fd ps []
theorem JU {W:Value->Shared->Prop}{fd:FuncData}{ps:List Str}{s:Shared}{u:Value}{v:V}(q:qb X.K C R fI=true)(hf:isFn X.K (.ref fI)=true)(F:FnOk X.prog X.w X.K X.mg X.base j5 k fI fd ps (xD C f))(hr:Room (k+1) X.A)(hb:Binds X.K fd ps [])(I:Inv X pins U H s)(r:RelV v u)(h:∀ e dx s',s.heap.objs.size<=e->H e=none->H dx=none->dx≠e->Inv X pins U (z6 (z6 H dx (.xd [(f,v)])) e (.ext (XD C e dx))) s'->W (.ref e) s'):wpAny (model X.prog X.w) X.A (call (.ref C) [u]) W X.xe s:=by
 obtain ⟨⟨nm,qn,N,bs,sn,sub,ab,col,dd,k0,k1,k2,k3,k5,mN,hC,hN,hi⟩,tl,_⟩:=vb I.kIn q;have hfn:∃ oI,s.heap.get? fI=some oI/\oI.cls = .type "function":=by have z:typeIn X.K (.ref fI)=some (.type "function"):=beq_iff_eq.mp hf;unfold typeIn at z;obtain ⟨oI,z1,z2⟩:=yA.mp z;exact ⟨oI,I.kIn _ _ z1,z2⟩
 obtain ⟨oI,hI,hIc⟩:=hfn;obtain ⟨hp,gs,dr,tk,os⟩:=s;refine QV PySem.F.excBase_ValueError (by decide) PySem.F.excBase_ValueError tl hC hN hi hI hIc (λh' e mk ge=>?_) (by show 1<=sizeLine;rw [sizeLine_eq];decide);obtain ⟨t,m1,m2,m3⟩:=mk.there;have ne:H e=none:=I.hok.fresh ge;have I2:Inv X pins U (z6 H e (.ext (XB C e))) ⟨h',gs,dr,tk,os⟩:=I.laid (s:=⟨hp,gs,dr,tk,os⟩) (t':=tk) mk.keeps ge (xb_ok ⟨t,m1⟩);have r2:Vals [V.ref e,v] [Value.ref e,u]:= .cons rfl (.cons r .nil);have hq:xD C f [V.ref e,v] (z6 H e (.ext (XB C e))) (λx H2=>x = .non/\∃ dx,H dx=none/\dx≠e/\H2=z6 (z6 H dx (.xd [(f,v)])) e (.ext (XD C e dx))) E0:=⟨e,v,rfl,j7,λdx n1 n2=>⟨rfl,dx,by rwa [z5 n2] at n1,n2,Vu n2⟩⟩;have hl:([Value.ref e,u]++[]).length=ps.length:=by rw [<- F.len _ _ _ _ hq];rfl
 refine wpAny_call (codeAny_mono (F.run _ X.stack _ _ ⟨[Value.ref e,u],[]⟩ ([Value.ref e,u]++[]) [V.ref e,v] _ E0 (hr.make C [u] []) (I2.env0.make C [u] []) (hb _ [Value.ref e,u] I2.kIn hl) (by rw [yw];exact r2) hq) λr s' hq'=>?_);cases r with
 |error e=>exact hq'.elim
 |ok fl =>
  cases fl with
  |ret u=>obtain ⟨v,H',I3,rv,ev,dx,n1,n2,rfl⟩:=I2.after hq';subst ev;exact ⟨rv,h e dx _ ge ne n1 n2 I3⟩
  |next=>exact False.elim hq'
  |brk=>exact False.elim hq'
  |cont=>exact False.elim hq'
theorem Inv.forget {s:Shared}{φ:Heap->Prop}(I:Inv X pins U H s)(h:H e=some (.ext φ))(n0:X.s₀.heap.get? e=none):Inv X pins U (λb=>if b=e then none else H b) s:=by
 have g:∀{b:Addr}{u:HO},b≠e->((if b=e then none else H b)=some u↔H b=some u):=λ{b u} nb=>by rw [if_neg nb]
 have f:∀{b:Addr},H b=none->(if b=e then none else H b)=none:=λ{b} z=>by split;rfl;exact z
 have tup:∀{b:Addr}{xs:List V},H b=some (.tup xs)->(if b=e then none else H b)=some (.tup xs):=λ{b xs} z=>(g (λy=>by rw [y,h] at z;cases z)).mpr z;have frz:∀{b:Addr}{o:Obj}{u:HO},H b=some (.frz o u)->(if b=e then none else H b)=some (.frz o u):=λ{b o u} z=>(g (λy=>by rw [y,h] at z;cases z)).mpr z;refine ⟨I.ok,I.os,I.bare,⟨I.base.keep,I.base.slot,λb o z n hx=>f (I.base.free b o z n hx),I.base.there,λb xs z=>tup (I.base.tups b xs z),λb o u z=>frz (I.base.frzs b o u z),λb ps q z=>(g (λy=>by have:=I.base.tbls b ps q z;rw [y,h] at this;cases this)).mpr (I.base.tbls b ps q z)⟩,I.loc,I.cell,f I.free,λx c z=>f (I.freeC x c z),λp hp=>let ⟨a,b,c⟩:=I.pin p hp;⟨a,f b,c⟩,λb u z=>?_,I.len⟩;by_cases hb:b=e
 ·rw [if_pos hb] at z;cases z
 ·exact (I.hok b u ((g hb).mp z)).stay (λ_ _ _ z=>z) (λc z=>(g (λy=>by rw [y,h] at z;cases z)).mpr z) (λc xs z=>tup z) λc o u z=>frz z
def jU (C:Addr)(f:Str)(E:XK)(t:TA):TS:=λ_ U H=>t U H λvs H1=>∃ v,vs=[v]/\∀ dx,H1 dx=none->E (.ref C) (some dx) (z6 H1 dx (.xd [(f,v)]))
theorem Jt {E:XK}{j:Nat}{x:Str}{np cpos pos:Pos}{e:Expr}{t:TA}(hc:X.calm=true)(hex:X.ex=[])(c:XMk X.prog X.w X.K X.mg X.base k x C f)(hr:Room j X.A)(hj:k+1<=j)(hg:Gl X x)(ha:PA X [e] t)(ht:vj X E)(hdb:(x==("__debug__":Str))=false:=by decide)(he:starEach [e] X.env=(false,eval e X.env)::starEach [] X.env:=by rfl)(hpl:(backTo cpos (starEach [] X.env)).any (·.1)=false:=by rfl):PS X (.Raise (some (.Call (.Name x np) [e] [] cpos)) none pos) (jU C f E t):=by
 obtain ⟨R,fI,fd,ps,q,hf,hk,hm,F,hb⟩:=c.ex;intro pins s U H D I h;rw [arm_exec_Raise];refine yW (wpAny_standAt ?_);unfold raiseStmt;refine yW (yW (wpAny_Call_Name_kw (xo I hg hm ?_ hdb)));refine callWith_K (h₀:=X.base) I.ok.mod.kin hk (z0 (ha cpos pins s U H _ I h) λus s1 ⟨vs,H1,I1,r,v,ev,q1⟩=>⟨I1.kIn,?_⟩) he hpl;subst ev;obtain ⟨u,rfl,ru⟩:=qN r;refine JU q hf F (hr.mono hj) hb I1 ru λea dx s' ge n1 n2 n3 I2=>?_;refine yW (wpAny_standAt (yM ?_));have n0:X.s₀.heap.get? ea=none:=by
  cases z:X.s₀.heap.get? ea with
  |none=>rfl
  |some o=>obtain ⟨o',z2⟩:=I1.base.there ea o z (by rw [hex];exact λz=>nomatch z);rw [yx ge] at z2;cases z2
 have I3:=Inv.forget I2 j7 n0;obtain ⟨⟨tt,hE⟩,_,_⟩:=(show ObjOk X.prog X.w _ s'.heap ea (.ext (XD C ea dx)) from I2.hok ea _ j7);have eH:(λb=>if b=ea then none else z6 (z6 H1 dx (.xd [(f,v)])) ea (.ext (XD C ea dx)) b)=z6 H1 dx (.xd [(f,v)]):=by
  funext b
  by_cases hb:b=ea
  ·rw [if_pos hb,hb,z5 (Ne.symm n3)];exact n1.symm
  ·rw [if_neg hb,z5 hb]
 rw [eH] at I3;have fin:X.xe (.ref ea) s':=ht pins U _ s' ea C _ _ _ I3 hE rfl rfl rfl rfl (by rw [z5 (Ne.symm n3)];exact n1) n0 (q1 dx n2);obtain ⟨⟨nm,qn,N,bs,sn,sub,ab,col,dd,k0,k1,k2,k3,k5,mN,hC,hN,hi⟩,tl,_⟩:=vb I2.kIn q;have hcB:(Value.ref C:: .ref R::veMro).contains (.type "BaseException")=true:=by rw [List.contains_cons,List.contains_cons,show veMro.contains (.type "BaseException")=true by decide,Bool.or_true,Bool.or_true]
 obtain ⟨hp,gs,dr,tk,os⟩:=s'
 repeat (first|with_reducible refine wpAny_loadPart_at hE ?_|with_reducible refine wpAny_loadPart_at hC ?_|(with_reducible refine wpAny_isSubtype_exc hC ?_;rw [hcB])|wp_step)
 exact wpAny_raiseNew_none (I.ok.hd hc) fin
end
end L2
namespace L2
open PySem PySem.Spec PyProof.Rows PySem.W Builtin Builtin.ObjectAttr
section
variable {prog:Program}{w:World}{A:Around}{E:Value->Shared->Prop}{s:Shared}{K:Frag}{ea C dx:Addr}{oe:Obj}{vs:Array Value}{mA:Str->Option Value}{name:Str}{v:Value}{expr:Bool}{Q:Value->Shared->Prop}
theorem xget (T:d2 K C)(hh:hasDictIn K C=true)(X:K.In s.heap)(he:s.heap.get? ea=some oe)(hc:oe.cls = .ref C)(hf:oe.data = .fields vs)(hd:oe.dict=some dx)(ns:s.heap.Ns1 dx mA)(ha:findIn K (.ref C) name=some none)(hv:mA name=some v)(hv':handedIn v=true)(h:Q v { s with toks:=s.toks+1 }):wpAny (model prog w) A (getAttr (.ref ea) name expr) Q E s:=by
 obtain ⟨hp,gs,dr,tk,os⟩:=s;obtain ⟨od,ho,hl⟩:=ww ns;have J:InstAt hp ea oe C (some od):=⟨he,hc,by unfold notCls;rw [hf],by rw [hd];exact ho⟩;have y0:=J.type (M:=model prog w);have y1:=looks_findIn (M:=model prog w) X T.ga;have y2:=looks_findIn (M:=model prog w) X T.gt;have y3:=looks_find (M:=model prog w) X J (findObj_own hh ha rfl (by rw [hl,hv]));have y4:=looks_mroIn (M:=model prog w) X T.be;unfold getAttr getAttrBy;refine yW (wpAny_mkText (wpAny_holding (yW (y0.at ?_))));refine yW (y1.at ?_);have n1:(onTheHeap (Value.ref C)&&Value.builtin "BaseException.__getattribute__" == Value.builtin "object.__getattribute__")=false:=by rw [show (Value.builtin "BaseException.__getattribute__" == Value.builtin "object.__getattribute__")=false by decide +kernel,Bool.and_false]
 dsimp only
 rw [n1,if_neg yY];unfold getAttrByItsOwn hookBefore;rw [show onTheHeap (Value.ref C)=true from rfl,if_pos rfl];refine yW (y2.at ?_);refine yW (wpAny_attempt (wpAny_holding ?_));unfold callGetattribute boundAndCalled;have step:∀ E':Value->Shared->Prop,wpAny (model prog w) A (call (.builtin "BaseException.__getattribute__") [.ref ea,.str name tk]) (λa s'=>wpAny (model prog w) A (handedOut a) Q E s') E' ⟨hp,gs,dr,tk+1,os⟩:=by
  intro E';refine wpAny_call (codeAny_call_builtin PySem.F.excAttr_ValueError.ga.plain PySem.F.entry_bexc_ga ?_);have hk:builtinKind "BaseException.__getattribute__"=some .slot:=by decide +kernel
  have hq:splitId "BaseException.__getattribute__"=some ("BaseException","__getattribute__"):=by decide +kernel
  have ha:=PySem.F.args_bexc_ga (.ref ea) (.str name tk);simp only [checkBuiltinCall,hk,hq];have hb:Looks (model prog w) hp (isInstance (.ref ea) (.type "BaseException")) true:=y0.andThen y4;refine yW (hb.at ?_);rw [Bool.not_true,if_neg yY];refine wpAny_of_eq ha ?_;unfold Builtin.«object.__getattribute__»;refine yW (yM (yW (yM (yW (y0.at (yW (y3.at ?_)))))));refine yM ?_;show wpAny (model prog w) A (handedOut v) Q E _;rw [handedOut_of hv'];exact yM h
 rw [show onTheHeap (Value.builtin "BaseException.__getattribute__")=false from rfl,Bool.and_false,if_neg yY];exact yW (wpAny_of_eq (PySem.F.excAttr_ValueError.ga.bind (.ref ea)) (step _))
end
section
variable {X:Cx}{K:Frag}{ea C dx:Addr}{oe:Obj}{vs:Array Value}
def tXAt (ea dx:Addr)(f:Str)(i:Nat):TE:=λU H Q=>U[i]?=some (some (.ref ea))/\∃ fs v,H dx=some (.xd fs)/\fs.lookup f=some v/\Q v H
theorem Jb {e:Expr}{f:Str}{pos:Pos}{i:Nat}(hK:X.K=K)(T:d2 K C)(hh:hasDictIn K C=true)(hn:findIn K (.ref C) f=some none)(hp:(ea,oe)∈X.pn)(hc:oe.cls = .ref C)(hf:oe.data = .fields vs)(hd:oe.dict=some dx)(he:PE X e (d6 i))(hb:attributeBase e f X.env (eval e X.env)=eval e X.env):PE X (.Attribute e f pos) (tXAt ea dx f i):=by subst hK;intro pins s U H Q I h;obtain ⟨h1,fs,v,h2,h3,q⟩:=h;refine QJ hb (z0 (he pins s U H (λx H1=>x = .ref ea/\H1=H) I ⟨_,h1,rfl,rfl⟩) λu s1 ⟨x,H1,I1,rx,ex,eH⟩=>?_);subst ex eH;obtain rfl:u=Value.ref ea:=rx;have z:=(I1.pin _ (yB _ hp)).1;obtain ⟨mA,ns,rel⟩:=(show ObjOk X.prog X.w H1 s1.heap dx (.xd fs) from I1.hok dx _ h2);obtain ⟨u,hu,ru⟩:=RelO.some_of (v:=v) (o:=mA f) (by rw [<- h3];exact rel f);exact xget T hh I1.kIn z hc hf hd ns hn hu (XH ru) ⟨v,H1,I1.tok _,ru,q⟩
end
def jV (K:Frag)(D0:Addr)(cs:List Addr)(i:Nat)(tb:XK->TS)(ts:Addr->Addr->Option Addr->TS):TS:=λD U H=>∃ E:XK,(∀ cls dx H',E cls dx H'->∃ c,c∈cs/\cls = .ref c/\exmOne K cls (.ref D0)=some true)/\tb E D U H /\
 ∀(ea c:Addr)(dx:Option Addr)(H':Hp),E (.ref c) dx H'->ts ea c dx { nx:=λσ2 H2=>D.nx (σ2.set i none) H2,rt:=D.rt,bk:=λσ2 H2=>D.bk (σ2.set i none) H2,ct:=λσ2 H2=>D.ct (σ2.set i none) H2 } (U.set i (some (.ref ea))) H'
section
variable {X:Cx}{K:Frag}{x n:Str}{i:Nat}{D0:Addr}{cs:List Addr}{body suite:List Stmt}{b₀:Stmt}{tb:XK->TS}{ts:Addr->Addr->Option Addr->TS}{np hpos pos:Pos}
theorem Jv (hK:X.K=K)(hex:X.ex=[])(hst:X.stack=X.env::X.outer)(hf:X.env.frame=some X.env.locals)(hgx:Gl X x)(hmx:X.mg x=some (.ref D0))(hN:X.N.Nodup)(hi:X.N[i]?=some n)(hl:X.env.kindOf n=some .local)(hfn:X.fn n=true)(hb:∀ (E:XK) (U:St) (pn:List (Addr×Obj)) (W:Value->Shared->Prop),xK (CX2 X.prog X.w) (X.tried pn W) U E->PSsa (X.tried pn W) U body (tb E))(hs:∀ (pn:List (Addr×Obj)) (ea:Addr) (oe:Obj) (vs:Array Value) (c:Addr),oe.cls = .ref c->oe.data = .fields vs->c∈cs->(ea,oe)∈pn->PSs (X.suite pn ea) (b₀::suite) (ts ea c oe.dict))(hd:(x==("__debug__":Str))=false:=by decide):PS X (.Try body [.ExceptHandler (some (.Name x np)) (some n) (b₀::suite) hpos] [] [] pos) (jV K D0 cs i tb ts):=by
 subst hK;intro pins s U H D I h;obtain ⟨E,hm,h1,h2⟩:=h
 let W:Value->Shared->Prop:=λe s'=>∃(H' H1:Hp)(s1:Shared)(ea:Addr)(cls:Value)(dx:Option Addr),e = .ref ea/\Inv X pins U H' s'/\Fly2 s1.heap s'.heap H' ea cls dx/\Inv X pins U H1 s1/\E cls dx H'
 have ps:xK (CX2 X.prog X.w) (X.tried (X.pn++pins) W) U E:=by intro p2 H1 s1 e s' I1 q;obtain ⟨ea,cls,dx,H',rfl,os,bare,un,hok,F,q⟩:=q;have I0:Inv X pins U H1 s1:=I1.untried I.ok;exact ⟨H',H1,s1,ea,cls,dx,rfl,I0.call' (ch:=[]) os un hok bare (λb z=>nomatch z),F,I0,q⟩
 refine wpAny_Try_except (wpAny_mono (hb E U _ W ps [] s H D (I.tried W) h1) (λf s1 q=>?_) λe s1 q=>?_)
 ·have q':=SP.untried I.ok q;cases f with
  |next=>exact wpAny_execs_nil q'
  |brk=>exact q'
  |cont=>exact q'
  |ret u=>exact q'
 obtain ⟨H',H1,s0,ea,cls,dx,rfl,I',F,I0,q⟩:=q;obtain ⟨c,hcs,rfl,hexm⟩:=hm cls dx H' q;have fr:=I'.stack;obtain ⟨T,a0,eT,e10,e11,_,fl⟩:=F.hid fr;have e12:=F.free;have apE:=I0.apart hex F.new;have apT:=I0.apart hex e11;have hS:∀ c∈[ea,T],H' c=none/\zX X pins c:=λc hc=>by
  have z:c=ea∨c=T:=by simpa using hc
  rcases z with rfl|rfl
  ·exact ⟨e12,apE⟩
  ·exact ⟨e10,apT⟩
 have fr':X.A.frames=some (X.env::X.outer):=by rw [<- hst];exact I'.ok.frames
 rw [hst] at fl;refine ZA (outer:=X.outer) fr' hf fl λh4 F4 up4=>jo F4 λh5 F5 up5=>?_;rw [<- hst] at F5;have up45:=Heap.UpToSlots.trans up4 up5;have K5:xJ ([ea,T]++v9 X.stack) X.stack s1.heap h5:=Ql fr (by rw [hst] at F5 ⊢;exact F5.st) up45;have I5:=I'.flown hf hst hS K5;obtain ⟨oe5,vs5,T5,oT5,ts5,g1,g2,g2',g3,g4,gR⟩:=F5.ex;have J5:=I5.suite g1 e12 apE.loc apE.fs (λv z=>by rw [g4] at z;cases z);refine wpAny_handleBy_cons (codeAny_handlers_test (xo J5 hgx hmx ?_ hd)) (by intro z;cases z);have LT:Looks (model X.prog X.w) h5 (typeOf (.ref ea)) (.ref c):=g2▸(Looks.ld g1).andThen .now;refine (exm_one I5.kIn LT hexm).here ?_;refine codeAny_handlers_suite_as (jo F5 λh6 F6 up6=>?_);have K6:xJ ([ea,T]++v9 X.stack) X.stack s1.heap h6:=Ql fr (by rw [hst] at F6 ⊢;exact F6.st) (Heap.UpToSlots.trans up45 up6);have I6:=I'.flown hf hst hS K6;obtain ⟨oe6,vs6,T6,oT6,ts6,k1,k2,k2',k3,k4,kR⟩:=F6.ex;have J6:=I6.suite k1 e12 apE.loc apE.fs (λv z=>by rw [k4] at z;cases z);refine jR (X:=X.suite (X.pn++pins++[(ea,oe6)]) ea) J6 hN hi (.inl hl) (v:= .ref ea) rfl (λs7 I7=>?_) (.inl hfn);have hrun:=hs _ ea oe6 vs6 c k2 k4 hcs (yN _ (by simp)) [] s7 _ H' _ I7 (by rw [k2'];exact h2 ea c dx H' q);refine wpAny_mono hrun (λf s8 q8=>?_) (λ_ _ z=>z.elim);cases f with
 |next=>obtain ⟨σ8,H8,I8,q⟩:=q8;exact Inv.goes (I8.unsuite I.ok) hN hi hl λs9 I9=>⟨_,_,I9,q⟩
 |brk=>obtain ⟨σ8,H8,I8,q⟩:=q8;exact Inv.goes (I8.unsuite I.ok) hN hi hl λs9 I9=>⟨_,_,I9,q⟩
 |cont=>obtain ⟨σ8,H8,I8,q⟩:=q8;exact Inv.goes (I8.unsuite I.ok) hN hi hl λs9 I9=>⟨_,_,I9,q⟩
 |ret u=>obtain ⟨v,σ8,H8,I8,r,q⟩:=q8;exact Inv.goes (I8.unsuite I.ok) hN hi hl λs9 I9=>⟨v,_,_,I9,r,q⟩
end
end L2
namespace Mi
open PySem L2
variable{E:XK}{Hs:Hp}{C ea:Addr}{f:Str}{te:TE}{tb:TS}{b:MS}{dx:Option Addr}
abbrev XV:=Option (Str×V)
variable{y:XV}
def EOK (E:XK)(c:Addr)(y:XV)(Hs H:Hp):Prop:=match y with
 |none=>∀ Hs' H',Ext Hs H Hs' H'->E (.ref c) none H'
 |some p=>∀ Hs' H' dx,Ext Hs H Hs' H'->H dx=none->H' dx=some (.xd [p])->E (.ref c) (some dx) H'
theorem EOK.ext {c:Addr}{H Hs1 H1:Hp}(q:EOK E c y Hs H)(x:Ext Hs H Hs1 H1):EOK E c y Hs1 H1:=by
 cases y with
 |none=>exact λHs' H' e=>q Hs' H' (x.trans e)
 |some p=>exact λHs' H' dx e n h=>q Hs' H' dx (x.trans e) (x.s2.free n) h
abbrev YM:=ME->Addr->XV->Prop
variable{xa xb:YM}
class vi (E:XK)(te:TE)(f:YM):Prop where
 h:∀{ε c y},f ε c y->∀{Hs0 H0 Hs H U},RS Hs0 H0 Hs H U ε->EOK E c y Hs H->∀{Q:VK},te U H Q
class vh (E:XK)(ts:TS)(f:YM):Prop where
 h:∀{ε c y},f ε c y->∀{Hs0 H0 Hs H U},RS Hs0 H0 Hs H U ε->EOK E c y Hs H->∀{D:p7},ts D U H
class i1 (E:XK)(ts:TS)(f:YM):Prop where
 h:∀{ε c y},f ε c y->∀{Hs0 H0 Hs H U},RS Hs0 H0 Hs H U ε->EOK E c y Hs0 H0->∀{D:p7},ts D U H
def yNo:YM:=λ_ _ _=>False
instance (priority:=2000){ts:TS}:i1 E ts yNo where
 h:=λh=>h.elim
def vc (C:Addr)(f:Str)(a:M):YM:=λε c y=>c=C/\∃ v,a ε=some (.at v)/\y=some (f,v)
instance {a:M}[sa:y9 te a]:i1 E (jU C f E (h8 te qa)) (vc C f a) where
 h:=λh _ _ _ _ _ rs q _=>by
  obtain ⟨rfl,v,ea,rfl⟩:=h;refine sa.h ea rs λu Hs1 H1 x1 r1=>⟨u,rfl,λdx hd=>?_⟩;rw [rep_at.mp r1];exact q _ _ dx (rs.ext.trans (x1.trans (.newO x1.s3 hd))) (rs.ext.s2.free (x1.s2.free hd)) j7
instance {fr:Bool}{t:TA}:u0 fr (jU C f E t) qH where
 h:=λe=>by cases e
def zl (fr:Bool)(a:MS)(xa xr:YM):YM:=λε c y=>xa ε c y∨∃ ε',a ε=some (.nx ε')/\xr ε' c y
instance {fr:Bool}{t u:TS}{a:MS}{xr:YM}[sa:u0 fr t a][s1:i1 E t xa][s2:i1 E u xr]:i1 E (tSeq t u) (zl fr a xa xr) where
 h:=λh _ _ _ _ _ rs q D=>by
  rcases h with h|⟨ε',e,h⟩
  ·exact s1.h h rs q
  ·exact sa.h e rs λHs H U r=>s2.h h r q
def yIf (c:MB)(xa xb:YM):YM:=λε k y=>∃ b,c ε=some b/\if b=true then xa ε k y else xb ε k y
instance {t:TT}{ta:TS}{c:MB}[sc:r6 t c][sa:i1 E ta xa][sb:i1 E tb xb]:i1 E (tIfS t ta tb) (yIf c xa xb) where
 h:=λh _ _ _ _ _ rs q _=>by
  obtain ⟨b,e,h⟩:=h;refine sc.h e rs λHs1 H1 x1=>?_;cases b with
  |true=>exact o9 (sa.h (by simpa using h) (rs.go x1) q)
  |false=>exact o8 (sb.h (by simpa using h) (rs.go x1) q)
def yX (f:YM):YM:=f
instance {f:YM}[s:vi E te f]:vh E (jS te) (yX f) where
 h:=λh _ _ _ _ _ rs q _=>s.h h rs q
def zk (g:MG)(f:MS)(xf:YM):List PV->YM
 |[]=>λ_ _ _=>False
 |x::xs=>λε c y=>∃ ε1,g x ε=some ε1/\(xf ε1 c y∨∃ ε2,(f ε1=some (.nx ε2)∨f ε1=some (.ct ε2))/\zk g f xf xs ε2 c y)
def yFor (fr:Bool)(i:MA)(g:MG)(f:MS)(xf:YM):YM:=λε c y=>∃ xs,i ε=some xs/\zk g f xf xs ε c y
instance {fr:Bool}{wi:TI}{tg:TG}{ts:List Nat}{i:MA}{g:MG}{f:MS}{xf:YM}[si:qs wi i][sg:qV tg ts g][sf:u0 fr tb f][sx:i1 E tb xf]:i1 E (tFor wi tg tb) (yFor fr i g f xf) where
 h:=λ{ε0 c y} e Hs0 H0 _ _ _ rs q D=>by
  obtain ⟨xs,ex,e1⟩:=e;refine si.h ex rs λJ Hs1 H1 x1 ok=>?_;have rs1:=rs.go x1;have q1:EOK E c y Hs1 H0:=by
   cases y with
   |none=>exact λHs' H' z=>q Hs' H' (rs1.ext.unbase z)
   |some p=>exact λHs' H' dx z n h=>q Hs' H' dx (rs1.ext.unbase z) n h
  refine ⟨λk m U H=>m=xs.length-k/\k<=xs.length/\∃ Hs ε,RS Hs1 H0 Hs H U ε/\zk g f xf (xs.drop k) ε c y,⟨xs.length,by simp,uT _,Hs1,_,rs1.rebase,e1⟩,?_⟩;rintro k m U H ⟨rfl,hk,Hs,ε,r,el⟩;by_cases hlt:k<xs.length
  ·have hd:xs.drop k=xs[k]::xs.drop (k+1):=yf hlt;rw [hd] at el;obtain ⟨ε1,eg,el2⟩:=el;obtain ⟨go,yl⟩:=ok.go k xs[k] Hs H (by simp [hlt]) r.ext.s1 r.ext.s3;refine .inr ⟨go,λσ' H'=>k+1<=xs.length/\∃ Hs ε,RS Hs1 H0 Hs H' σ' ε/\zk g f xf (xs.drop (k+1)) ε c y,λσ' H' p=>⟨xs.length-(k+1),by omega,rfl,p.1,p.2⟩,λv H2 y'=>?_⟩;obtain ⟨Hs2,x2,r2⟩:=yl v H2 y';refine sg.h eg (r.go x2) r2 λσ2 rs2 _=>?_;rcases el2 with el2|⟨ε2,eo|eo,el2⟩
   ·exact sx.h el2 rs2 q1
   ·exact sf.h eo rs2 λHs3 H3 σ3 r3=>⟨hlt,Hs3,ε2,r3,el2⟩
   ·exact sf.h eo rs2 λHs3 H3 σ3 r3=>⟨hlt,Hs3,ε2,r3,el2⟩
  ·have ek:k=xs.length:=by omega
   subst ek;rw [uW] at el;exact el.elim
def xC (m:List PV->Option PV)(x:List PV->Addr->XV->Prop):Sp:=λvs H Q E=>∃ Hs xs,Same Hs H/\Reps Hs xs vs/\((∃ y,m xs=some y/\∀ a Hs' H',Ext Hs H Hs' H'->H a=none->Hs' a=none->Top Hs' H' a y->Q (.ref a) H')∨∃ c y,x xs c y/\EOK E c y Hs H)
def QE (x:List PV->Addr->XV->Prop)(as:MA):YM:=λε c y=>∃ xs,as ε=some xs/\x xs c y
section
variable {m:List PV->Option PV}{x:List PV->Addr->XV->Prop}{ta:TA}{as:MA}{E:XK}
instance [sa:t9 ta as]:i0 (t5 (xC m x) [] E ta) (z7 m as) where
 h:=λe _ _ _ _ _ rs _ q=>by
  obtain ⟨xs,ex,e1⟩:=bind_some e;exact sa.h ex rs λvs Hs1 H1 x1 r1=>⟨Hs1,xs,x1.s3,by rw [yw];exact r1,.inl ⟨_,e1,λa Hs' H' x n n' r=>q a _ _ (x1.trans x) (x1.s2.free n) n' r⟩⟩
instance [sa:t9 ta as]:vi E (t5 (xC m x) [] E ta) (QE x as) where
 h:=λh _ _ _ _ _ rs q _=>by
  obtain ⟨xs,ex,h⟩:=h;exact sa.h ex rs λvs Hs1 H1 x1 r1=>⟨Hs1,xs,x1.s3,by rw [yw];exact r1,.inr ⟨_,_,h,q.ext x1⟩⟩
end
def yFn (n k:Nat)(f:YM):List PV->Addr->XV->Prop:=λxs c y=>xs.length=k/\f (xs.map .sh++List.replicate (n-k) .no) c y
section
variable {P:Program}{w:World}{K:Fg}{mg:Str->Option Value}{base:Heap}
theorem okOY {y qual:Str}{st:Stmt}{f:Addr}{fd:FuncData}{N ps:List Str}{k:Nat}{m:List PV->Option PV}{x:List PV->Addr->XV->Prop}(F:Fun K y qual st f fd)(S:u5 N ps (z8 st))(hm:m=o4 N.length ps.length b)(hx:x=yFn N.length ps.length xb)(hb:∀(cdv:Value)(A:Around)(outer:List Env)(s:Shared)(H:Hp)(E:XK),Room k (A.deeper (PyProof.Rows.envOfC qual (z8 st) s.heap.objs.size f cdv)) -> ∃ t,PSs (p0 (CX2 P w) P w K mg base N qual (z8 st) f cdv A outer s H E) (b7 st) t/\u0 true t b/\i1 E t xb):FnOk P w K mg base (CX2 P w) (k+1) f fd ps (xC m x):=by
 subst hm;subst hx;refine F.ok2 S (λvs H Q E h=>?_) (λcdv A outer s H vs Q E hr h=>?_)
 ·obtain ⟨Hs,xs,_,r,⟨y,e,_⟩|⟨c,y,h,_⟩⟩:=h
  ·rw [r.length];unfold o4 at e;split at e
   ·rename_i hl;exact hl
   ·cases e
  ·rw [r.length];exact h.1
 ·obtain ⟨Hs,xs,sm,r,h⟩:=h;obtain ⟨t,ht,sem,semx⟩:=hb cdv A outer s H E hr;refine ⟨t,ht,?_⟩;rcases h with ⟨y,e,q⟩|⟨c,y,h,q⟩
  ·unfold o4 at e;split at e
   ·rename_i hl;obtain ⟨o,eo,e1⟩:=bind_some e;refine sem.h eo (by rw [<- hl];exact qD sm r) ?_;cases o with
    |rt z=>cases e1;exact λa Hs' H' x n n' t=>q a Hs' H' x n n' t
    |nx ε=>cases e1
    |bk ε=>cases e1
    |ct ε=>cases e1
   ·cases e
  ·exact semx.h h.2 (by rw [<- h.1];exact qD sm r) q
end
def exV (ea:Addr)(y:XV)(dx:Option Addr):Hp->V->Prop:=λH u=>u = .ref ea/\match y,dx with
 |some p,some d=>H d=some (.xd [p])
 |none,none=>True
 |_,_=>False
open Classical in
noncomputable def qd (ea:Addr)(y:XV)(dx:Option Addr)(i:Nat):M:=λε=>if ε[i]?=some (.sh (.op (exV ea y dx))) then some (.at (.ref ea)) else none
theorem Qe {v:V}(h:Rep Hs (.op (exV ea y dx)) v):v = .ref ea/\match y,dx with
 |some p,some d=>Hs d=some (.xd [p])
 |none,none=>True
 |_,_=>False:=by
 obtain ⟨H',s,e,h⟩:=rep_op.mp h;refine ⟨e,?_⟩;split at h
 ·exact s _ _ h
 ·trivial
 ·exact h.elim
instance {i:Nat}:y9 (d6 i) (qd ea y dx i) where
 h:=λe _ _ _ _ _ r _ q=>by
  unfold qd at e;split at e
  ·rename_i hi;cases e;obtain ⟨v,h1,h2⟩:=r.sh i _ hi;obtain ⟨rfl,_⟩:=Qe h2;exact ⟨_,h1,q _ _ _ (.refl r.sub) (rep_at.mpr rfl)⟩
  ·cases e
def jW (ea:Addr)(dx:Option Addr)(f:Str)(i:Nat):TE:=match dx with
 |some d=>tXAt ea d f i
 |none=>λ_ _ _=>False
open Classical in
noncomputable def xi (ea:Addr)(y:XV)(dx:Option Addr)(f:Str)(i:Nat):M:=λε=>if ε[i]?=some (.sh (.op (exV ea y dx))) then (match y with|some (g,v)=>if g=f then some (.at v) else none|none=>none) else none
instance {i:Nat}:y9 (jW ea dx f i) (xi ea y dx f i) where
 h:=λe _ _ _ _ _ r _ q=>by
  unfold xi at e;split at e
  ·rename_i hi;split at e
   ·rename_i g v;split at e
    ·rename_i hg;subst hg;cases e;obtain ⟨u,h1,h2⟩:=r.sh i _ hi;obtain ⟨rfl,h3⟩:=Qe h2;cases dx with
     |none=>exact h3.elim
     |some d=>exact ⟨h1,_,v,r.sub _ _ h3,by rw [yu,beq_self_eq_true],q _ _ _ (.refl r.sub) (rep_at.mpr rfl)⟩
    ·cases e
   ·cases e
  ·cases e
variable {fr:Bool}
def wX (K:Fg)(D0:Addr)(cs:List Addr)(i:Nat)(b:MS)(xb:YM)(s:Addr->Addr->XV->Option Addr->MS):RM:=λε o=>b ε=some o∨∃ c y,c∈cs/\PySem.W.exmOne K (.ref c) (.ref D0)=some true/\xb ε c y/\∀(ea:Addr)(dx:Option Addr),dx.isSome=y.isSome->∃ o',s ea c y dx (ε.set i (.sh (.op (exV ea y dx))))=some o'/\clr i o'=o
instance {K:Fg}{D0:Addr}{cs:List Addr}{i:Nat}{tb:XK->TS}{ts:Addr->Addr->Option Addr->TS}{s:Addr->Addr->XV->Option Addr->MS}[sb:∀ E,u0 fr (tb E) b][sx:∀ E,vh E (tb E) xb][ss:∀ ea c y dx,u0 fr (ts ea c dx) (s ea c y dx)]:qX fr (jV K D0 cs i tb ts) (wX K D0 cs i b xb s) where
 h:=λ{ε o} h Hs0 H0 Hs H U rs D q=>by
  rcases h with h|⟨c,y,hc,hm,hx,hs⟩
  ·exact ⟨E0,λ_ _ _ z=>z.elim,(sb E0).h h rs q,λ_ _ _ _ z=>z.elim⟩
  ·refine ⟨λcls dx H'=>cls = .ref c/\dx.isSome=y.isSome/\∃ Hs',Ext Hs H Hs' H'/\match y,dx with|some p,some d=>H d=none/\H' d=some (.xd [p])|none,none=>True|_,_=>False,λcls dx H' z=>⟨c,hc,z.1,by rw [z.1];exact hm⟩,(sx _).h hx rs ?_,λea c' dx H' z=>?_⟩
   ·cases y with
    |none=>exact λHs' H' x=>⟨rfl,rfl,Hs',x,trivial⟩
    |some p=>exact λHs' H' d x n h=>⟨rfl,rfl,Hs',x,n,h⟩
   ·obtain ⟨z1,z2,Hs',x,z3⟩:=z;cases z1;obtain ⟨o',e',rfl⟩:=hs ea dx z2;have ⟨Hs2,x2,h2⟩:∃ Hs2,Ext Hs H Hs2 H'/\exV ea y dx Hs2 (.ref ea):=by
     cases y with
     |none =>
      cases dx with
      |none=>exact ⟨Hs',x,rfl,trivial⟩
      |some d=>exact z3.elim
     |some p =>
      cases dx with
      |none=>exact z3.elim
      |some d =>
       cases hd:Hs' d with
       |none=>exact ⟨_,x.share z3.1 hd z3.2,rfl,j7⟩
       |some o=>have:=x.s3 _ _ hd;rw [z3.2] at this;cases this;exact ⟨Hs',x,rfl,hd⟩
    refine (ss ea c y dx).h e' ((rs.go x2).put (i:=i) (x:= .op (exV ea y dx)) (v:= .ref ea) (rep_op.mpr ⟨Hs2,.refl _,h2⟩)) ?_;cases o' with
    |nx ε2=>exact λHs2 H2 σ2 r2=>q _ _ _ (r2.drop i)
    |bk ε2=>exact λHs2 H2 σ2 r2=>q _ _ _ (r2.drop i)
    |ct ε2=>exact λHs2 H2 σ2 r2=>q _ _ _ (r2.drop i)
    |rt y=>exact q
end Mi
namespace Mi
open PySem L2
theorem Jc {X:Cx}{K:Fg}{ea C:Addr}{oe:Obj}{vs:Array Value}{e:Expr}{f:Str}{pos:Pos}{i:Nat}(hK:X.K=K)(T:d2 K C)(hh:PySem.W.hasDictIn K C=true)(hn:PySem.W.findIn K (.ref C) f=some none)(hp:(ea,oe)∈X.pn)(hc:oe.cls = .ref C)(hf:oe.data = .fields vs)(he:PE X e (d6 i))(hb:attributeBase e f X.env (eval e X.env)=eval e X.env):PE X (.Attribute e f pos) (jW ea oe.dict f i):=by
 cases hd:oe.dict with
 |none=>exact λ_ _ _ _ _ _ h=>h.elim
 |some d=>exact Jb hK T hh hn hp hc hf hd he hb
end Mi
namespace L2
open PySem PySem.Spec PyProof.Rows PySem.W
section
variable {X:Cx}{K:Frag}{x n:Str}{i:Nat}{D0:Addr}{cs:List Addr}{body suite:List Stmt}{b₀:Stmt}{tb:XK->TS}{ts:Addr->Addr->Option Addr->TS}{np hpos pos:Pos}
theorem Jw (hK:X.K=K)(hex:X.ex=[])(hst:X.stack=X.env::X.outer)(hf:X.env.frame=some X.env.locals)(hgx:Gl X x)(hmx:X.mg x=some (.ref D0))(hN:X.N.Nodup)(hi:X.N[i]?=some n)(hl:X.env.kindOf n=some .local)(hfn:X.fn n=true)(hb:∀ (E:XK) (U:St) (pn:List (Addr×Obj)) (W:Value->Shared->Prop),xK (CX2 X.prog X.w) (X.tried pn W) U E->PSsa (X.tried pn W) U body (tb E))(hs:∀ (pn:List (Addr×Obj)) (ea:Addr) (oe:Obj) (vs:Array Value) (c:Addr) (dx:Option Addr),oe.cls = .ref c->oe.data = .fields vs->oe.dict=dx->c∈cs->(ea,oe)∈pn->PSs (X.suite pn ea) (b₀::suite) (ts ea c dx))(hd:(x==("__debug__":Str))=false:=by decide):PS X (.Try body [.ExceptHandler (some (.Name x np)) (some n) (b₀::suite) hpos] [] [] pos) (jV K D0 cs i tb ts) :=
 Jv hK hex hst hf hgx hmx hN hi hl hfn hb (λpn ea oe vs c h1 h2 h3 h4=>hs pn ea oe vs c _ h1 h2 rfl h3 h4) hd
end
theorem okXI {P:Program}{w:World}{K:Frag}{mg:Str->Option Value}{base:Heap}{x qual:Str}{st:Stmt}{f fI C R:Addr}{fd:FuncData}{a b g:Str}{value:Expr}{o:Expr}{pos pos':Pos}(F:Fun K x qual st f fd)(S:u5 [a,b] [a,b] (z8 st))(hb:b7 st=[.Assign [.Attribute o g pos'] value pos])(q:qb K C R fI=true)(hs:findIn K (.ref C) "__setattr__"=some (some (.builtin "object.__setattr__")))(hn:findIn K (.ref C) g=some none)(h:∀ (cdv:Value) (A:Around) (outer:List Env) (s:Shared) (H:Hp) (E:XK),PE (p0 j5 P w K mg base [a,b] qual (z8 st) f cdv A outer s H E).nox o (d6 0)/\PE (p0 j5 P w K mg base [a,b] qual (z8 st) f cdv A outer s H E).nox value (d6 1) /\ swapsWith value (some (.Attribute o g pos')) pos.line (p0 j5 P w K mg base [a,b] qual (z8 st) f cdv A outer s H E).nox.env=pure false):FnOk P w K mg base j5 1 f fd [a,b] (xD C g):=by
 refine F.ok (k:=0) S (λvs H Q E h=>?_) (λcdv A outer s H vs Q E hr h'=>?_)
 ·obtain ⟨e,v,rfl,_⟩:=h;rfl
 ·obtain ⟨h1,h2,h3⟩:=h cdv A outer s H E;obtain ⟨e,v,rfl,he,q'⟩:=h';refine ⟨_,by rw [hb];exact g0 (Js q hs hn h1 h2 h3),?_⟩;exact ⟨_,rfl,_,rfl,e,rfl,he,q'⟩
end L2
namespace Mi
open PySem L2
theorem wM {X:Cx}{K:Fg}{ea c:Addr}{oe:Obj}{vs:Array Value}{dx:Option Addr}{e:Expr}{f:Str}{pos:Pos}{i:Nat}(hK:X.K=K)(T:d2 K c)(hh:PySem.W.hasDictIn K c=true)(hn:PySem.W.findIn K (.ref c) f=some none)(hp:(ea,oe)∈X.pn)(hc:oe.cls = .ref c)(hf:oe.data = .fields vs)(hd:oe.dict=dx)(he:PE X e (d6 i))(hb:attributeBase e f X.env (eval e X.env)=eval e X.env):PE X (.Attribute e f pos) (jW ea dx f i):=by subst hd;exact Jc hK T hh hn hp hc hf he hb
end Mi
namespace L2
open PySem PySem.Spec PyProof.Rows PySem.W
variable{j k:Nat}{A:Around}{K:Frag}{f x:Str}{ps:List Str}{sp:Sp}{d:Addr}{cs:List Addr}
structure RoomS (k:Nat)(A:Around):Prop where
 dp:A.depth+3*k+5<recursionLimit
 un:A.units+16*k+200<cLine
theorem Room.s (r:Room k A){b:Option Value}:RoomS k (A.mark b):=⟨r.dp,r.un⟩
theorem RoomS.mono (r:RoomS k A)(h:j<=k):RoomS j A:=⟨by have:=r.dp;omega,by have:=r.un;omega⟩
structure xI (P:Program)(w:World)(K:Frag)(mg:Str->Option Value)(base:Heap)(k:Nat)(f:Addr)(fd:FuncData)(ps:List Str)(sp:Sp):Prop where
 len:∀ vs H Q E,sp vs H Q E->vs.length=ps.length
 run:∀(A:Around)(outer:List Env)(s:Shared)(H:Hp)(args:Args)(us:List Value)(vs:List V)(Q:VK)(E:XK),RoomS k A->Env0 P w K mg base A outer s H->BindsTo s fd args (ps.zip us)->Vals vs us->sp vs H Q E ->
  codeAny (model P w) A (.call (.ref f) args) (CR j5 outer P w H s Q E) s
abbrev cxW (P:Program)(w:World)(K:Frag)(mg:Str->Option Value)(base:Heap)(N:List Str)(qual:Str)(scope:Scope)(f:Addr)(cd:Value)(A:Around)(outer:List Env)(s:Shared)(H:Hp):Cx :=
 { p0 j5 P w K mg base N qual scope f cd A outer s H E0 with calm:=false,xe:=λ_ _=>False }
theorem Fun.okS {P:Program}{w:World}{mg:Str->Option Value}{base:Heap}{qual:Str}{st:Stmt}{f:Addr}{fd:FuncData}{N:List Str}(F:Fun K x qual st f fd)(S:u5 N ps (z8 st))(len:∀ vs H Q E,sp vs H Q E->vs.length=ps.length)(hbody:∀(cdv:Value)(A:Around)(outer:List Env)(s:Shared)(H:Hp)(vs:List V)(Q:VK)(E:XK),sp vs H Q E -> ∃ t,PSs (cxW P w K mg base N qual (z8 st) f cdv A outer s H) (b7 st) t/\t { nx:=λ_ H'=>Q .non H',rt:=Q } (b8 N vs) H):xI P w K mg base (k+1) f fd ps sp:=by
 obtain ⟨oc,od,kV,doc,pm,an,cdv,ct,osl,rfl,lk,hcd⟩:=F.ex;refine ⟨len,λA outer s H args us vs Q E hr e0 hb r hsp=>?_⟩;have hl:=len _ _ _ _ hsp;have KX:K.In s.heap:=e0.mod.kin.keeps λb o e=>(e0.bs b o e).1;have lim:s.heap.NoLimit:=e0.mod.nolimit.keeps λb o e=>(e0.bs b o e).1;have hkind:∀ y∈ps.zip us,(z8 st).names.lookup y.1=some .local∨((z8 st).names.lookup y.1=some .cell/\((cellsFrom (s.heap.objs.size+1) (z8 st).names []).lookup y.1).isSome=true):=λ⟨n,v⟩ hy=>by
  rcases S.par n (List.of_mem_zip hy).1 with q|q
  ·exact .inl q
  ·exact .inr ⟨q,PySem.W.cellsFrom_some _ _ _ (.inl q)⟩
 have dpt:A.depth<recursionLimit:=by have:=hr.dp;omega
 refine codeAny_call_function dpt (KX _ _ lk) rfl S.co S.gen rfl (PySem.W.codeRec_of KX hcd) (hb _ _ _ _ ?_);refine wpAny_newFunctionEnv_cells S.kind hkind λenv he s1 x=>?_;subst he;refine ⟨lim.keeps x.toInCall.keep,codeAny_func ?_⟩;obtain ⟨t,ht,hq⟩:=hbody cdv A outer s H vs Q E hsp;have e1:Env0 P w K mg base { A with handled:=none } outer s H:=⟨e0.frames,e0.mod,e0.bs,e0.bsz,e0.funs,e0.frf,e0.hok,e0.bare,e0.tbs⟩;have I0:Inv (p0 j5 P w K mg base N qual (z8 st) f cdv { A with handled:=none } outer s H E0) [] (b8 N vs) H s1:=wj S rfl e1 hl r x;have ok:=I0.ok;have I:Inv (cxW P w K mg base N qual (z8 st) f cdv A outer s H) [] (b8 N vs) H s1 :=
  ⟨⟨ok.mod,ok.kind,ok.glob,ok.blt,ok.above,ok.inj,ok.has,ok.cab,(λz=>nomatch z),ok.frames,ok.stk,ok.exf,ok.bs,ok.bsz,ok.noex,ok.exfs,ok.funs,ok.frf,ok.tbs⟩,I0.os,I0.bare,I0.base,I0.loc,I0.cell,I0.free,I0.freeC,I0.pin,I0.hok,I0.len⟩
 refine wpAny_mono (ht [] s1 (b8 N vs) H _ I hq) (λfl s' hs=>?_) λe s' hs=>hs.elim;have fin:∀{σ':St}{H':Hp}{v:V}{u:Value},Inv (cxW P w K mg base N qual (z8 st) f cdv A outer s H) [] σ' H' s'->RelV v u->Q v H'->CE outer P w H s Q u s' :=
  λ{σ' H' v u} J rv q=>⟨v,H',J.os,J.bare,J.base,J.hok,rv,q⟩
 cases fl with
 |ret u=>obtain ⟨v,σ',H',J,rv,q⟩:=hs;exact fin J rv q
 |next=>obtain ⟨σ',H',J,q⟩:=hs;exact fin (v:=V.non) (u:=Value.none) J rfl q
 |brk=>obtain ⟨_,_,_,q⟩:=hs;exact False.elim q
 |cont=>obtain ⟨_,_,_,q⟩:=hs;exact False.elim q
structure Fs (P:Program)(w:World)(K:Frag)(mg:Str->Option Value)(base:Heap)(k:Nat)(x:Str)(ps:List Str)(sp:Sp):Prop where
 ex:∃ f fd,xI P w K mg base k f fd ps sp/\mg x=some (.ref f)/\keepIn K (.ref f)=true/\Binds K fd ps []
theorem pe_fs {X:Cx}{e:Expr}{es:List Expr}{t:TA}{p pos:Pos}(c:Fs X.prog X.w X.K X.mg X.base k x ps sp)(hr:RoomS j X.A)(hj:k<=j)(hg:Gl X x)(ha:PA X (e::es) t)(hdb:(x==("__debug__":Str))=false:=by decide)(he:starEach (e::es) X.env=(false,eval e X.env)::starEach es X.env:=by rfl)(hpl:(backTo pos (starEach es X.env)).any (·.1)=false:=by rfl):PE X (.Call (.Name x p) (e::es) [] pos) (t5 sp [] E0 t):=by
 obtain ⟨f,fd,F,hm,hk,hb⟩:=c.ex;intro pins s U H Q I h;refine wpAny_Call_Name_kw (xo I hg hm ?_ hdb);refine PySem.W.callWith_K (h₀:=X.base) I.ok.mod.kin hk (z0 (ha pos pins s U H _ I h) λus s1 ⟨vs,H1,I1,r,q⟩=>⟨I1.kIn,?_⟩) he hpl;have r2:Vals (vs++[]) (us++[]):=r.append .nil;have hl:(us++[]).length=ps.length:=by rw [<- r2.length];exact F.len _ _ _ _ q
 refine wpAny_call (codeAny_mono (F.run X.A X.stack s1 H1 ⟨us,[]⟩ (us++[]) (vs++[]) Q E0 (hr.mono hj) I1.env0 (hb s1 us I1.kIn hl) r2 q) λr s' hq=>?_);cases r with
 |error e=>exact hq.elim
 |ok fl =>
  cases fl with
  |ret u=>exact I1.after hq
  |next=>exact False.elim hq
  |brk=>exact False.elim hq
  |cont=>exact False.elim hq
theorem wg :∀ c,c∈([]:List Addr)->hasDictIn K c=true:=λ_ h=>nomatch h
theorem wf (h:hasDictIn K d=true)(r:∀ c,c∈cs->hasDictIn K c=true):∀ c,c∈d::cs->hasDictIn K c=true:=λc hc=>by
 rcases yK.mp hc with rfl|z
 ·exact h
 ·exact r c z
theorem wE :∀ c,c∈([]:List Addr)->findIn K (.ref c) f=some none:=λ_ h=>nomatch h
theorem wD (h:findIn K (.ref d) f=some none)(r:∀ c,c∈cs->findIn K (.ref c) f=some none):∀ c,c∈d::cs->findIn K (.ref c) f=some none:=λc hc=>by
 rcases yK.mp hc with rfl|z
 ·exact h
 ·exact r c z
end L2
namespace Mi
open PySem L2
variable{K:Fg}
theorem okPS {P:Program}{w:World}{mg:Str->Option Value}{base:Heap}{x qual:Str}{st:Stmt}{f:Addr}{fd:FuncData}{N ps:List Str}{k:Nat}{b:MS}{m:List PV->Option PV}(F:Fun K x qual st f fd)(S:u5 N ps (z8 st))(hm:m=dFn N.length ps.length b)(hb:∀(cdv:Value)(A:Around)(outer:List Env)(s:Shared)(H:Hp),∃ t,PSs (cxW P w K mg base N qual (z8 st) f cdv A outer s H) (b7 st) t/\u0 false t b):xI P w K mg base (k+1) f fd ps (spP m):=by
 subst hm;refine F.okS S (λvs H Q E h=>?_) (λcdv A outer s H vs Q E h=>?_)
 ·obtain ⟨Hs,xs,y,_,r,e,_⟩:=h;unfold dFn at e;split at e
  ·rename_i hl;rw [r.length];exact hl
  ·cases e
 ·obtain ⟨Hs,xs,y,sm,r,e,q⟩:=h;obtain ⟨t,ht,sem⟩:=hb cdv A outer s H;refine ⟨t,ht,?_⟩;unfold dFn at e;split at e
  ·rename_i hl;obtain ⟨o,eo,e1⟩:=bind_some e;refine sem.h eo (by rw [<- hl];exact qD sm r) ?_;cases o with
   |rt z=>cases e1;exact λv Hs' H' x rv=>q v Hs' H' x rv
   |nx ε=>cases e1;exact λHs' H' U rs=>q _ Hs' H' rs.ext (rep_at.mpr rfl)
   |bk ε=>cases e1
   |ct ε=>cases e1
  ·cases e
open Classical in
noncomputable def qv (K:Fg)(i:Nat):M:=λε=>if h:∃ ns,ε[i]?=some (.sh (scr K ns)) then some (.at (.int h.choose.sum)) else none
theorem Xz {i:Nat}{ε:ME}{ns:List Int}(h:ε[i]?=some (.sh (scr K ns))):∃ n:Int,qv K i ε=some (.at (.int n)):=by unfold qv;rw [dif_pos ⟨ns,h⟩];exact ⟨_,rfl⟩
instance {i:Nat}:y9 (tCB (wW K) (h8 (d6 i) qa)) (qv K i) where
 h:=λe _ _ _ _ _ r _ q=>by
  unfold qv at e;split at e
  ·rename_i h;cases e;obtain ⟨v,h1,h2⟩:=r.sh i _ h.choose_spec;obtain ⟨a,rfl,h3⟩:=Qi r.sub h2;exact ⟨_,h1,a,h.choose,rfl,h3,q _ _ _ (.refl r.sub) (rep_at.mpr rfl)⟩
  ·cases e
end Mi
namespace Lw
open PySem L2 Mi
variable{H:Hp}{p q qual x:Str}{a k n t:Nat}{c j z:Int}{ns:List Int}{Aa Ab Ad Ae C R fI:Addr}{ε:ME}{ps xs:List PV}{m:Int×Int}{ms:List (Int×Int)}{ss:List Str}{s3 s5 s6:MSlot}{sp:Sp}{st:Stmt}{cd ct dc oc pm:Value}{an od:Option Addr}{sl:Array (Option Value)}{h:Heap}{l:PySem.W.OpenLaw}
variable {P:Program}{w:World}{K:Fg}{mg:Str->Option Value}{base:Heap}{f:Addr}{fd:FuncData}
theorem l0:0<=lim:=by decide
theorem l1:1<=lim:=by decide
theorem l2:2<=lim:=by decide
theorem l3:3<=lim:=by decide
theorem l4:4<=lim:=by decide
theorem l5:5<=lim:=by decide
theorem l6:6<=lim:=by decide
theorem l7:7<=lim:=by decide
theorem l8:8<=lim:=by decide
theorem l9:9<=lim:=by decide
def top (i:Nat):Stmt:=PySem.Challenge.pw_rinsework_k19_moves_refused.main.body.getD i (.Pass ⟨0,0,0,0⟩)
abbrev jK:Stmt:=top 10
abbrev zR:Stmt:=top 11
abbrev jI:Stmt:=top 12
theorem jP {p:Addr}(h:H p=none)(o:HO):Same H (z6 H p o):=λb u q=>by rw [z5 (y6 q h)];exact q
theorem sizes (h:n<=1000):n<=sizeLine:=Nat.le_of_lt (Ve h)
def jQ:Sp:=λvs H Q _=>∃ c k:Int,vs=[.int c,.int k]/\0<=k/\k<=100/\∀ v:Int,0<=v->v<2147483648->Q (.int v) H
def Qk (K:Fg):Sp:=λvs H Q _=>∃(a:Addr)(ns:List Int)(k:Int),vs=[.ref a,.int k]/\SqL K H a (ns.map V.int)/\ns.length<=63/\0<=k/\k<=12 /\
 ∀(r:Addr)(n:Int)(H':Hp),H r=none->Same H H'->H' r=some (.lst [.int n])->Q (.ref r) H'
section
theorem sc_digit:u5 ["row","many","digit"] ["row","many"] (z8 jI):=scI
theorem ZG (F:Fun K "_law_digit" "_law_digit" jI f fd):FnOk P w K mg base j5 1 f fd ["row","many"] zS:=by
 refine F.ok sc_digit (λvs H Q E h=>?_) (λcdv A outer s H vs Q E hr h=>?_)
 ·obtain ⟨a,n,m,rfl,_⟩:=h;rfl
 obtain ⟨a,n,m,rfl,hH,hm,q⟩:=h;refine ⟨_,(v6 (qo (i:=2) sc_digit.nd rfl (Or.inl rfl) (j4 qy (zL (jl (K:=K) rfl) (pv 0) z9 (λ_ _=>rfl)) (pv 1)))
  (v6 (Jr (j4 wH (zL (jl (K:=K) rfl) (pv 0) z9 (λ_ _=>rfl)) (pv 1)) (Je (pv 0) z9 Va))
  (g0 (d9 (pv 2))))),?_⟩
 refine ⟨_,rfl,a,_,0,_,rfl,rfl,SqL.of hH,rfl,_,rfl,n,m,rfl,rfl,hm.1,?_⟩;refine ⟨_,rfl,a,_,0,_,rfl,rfl,SqL.of hH,rfl,_,rfl,n,m,rfl,rfl,hm,?_⟩;refine ⟨_,rfl,a,_,0,0,rfl,rfl,hH,rfl,?_⟩;exact ⟨_,rfl,q⟩
theorem sc_mixed:u5 ["cell","k","stir"] ["cell","k"] (z8 jK):=scI
theorem ZJ (F:Fun K "_law_mixed" "_law_mixed" jK f fd):FnOk P w K mg base j5 1 f fd ["cell","k"] jQ:=by
 refine F.ok sc_mixed (λvs H Q E h=>?_) (λcdv A outer s H vs Q E hr h=>?_)
 ·obtain ⟨c,k,rfl,_⟩:=h;rfl
 obtain ⟨c,k,rfl,k0,k1,q⟩:=h;refine ⟨_,(v6 (qo (i:=2) sc_mixed.nd rfl (Or.inl rfl) (j4 qy (j4 xv (j4 op_add (j4 op_add (j4 qy (pv 0) z9) (j4 xv z9 (pv 1))) z9) z9) z9))
  (g0 (d9 (j4 qy (j4 xv (j4 qy (j4 xv (pv 2) (pv 2)) z9) z9) z9)))),?_⟩
 refine ⟨_,rfl,_,_,rfl,rfl,(by show (0:Int)<1000000007;decide),_,rfl,_,_,rfl,rfl,.inl ⟨by decide,by decide⟩,_,_,rfl,rfl,_,_,rfl,rfl,_,_,rfl,rfl,.inr ⟨by decide,by decide⟩,_,_,rfl,rfl,(by show (0:Int)<2147483647;decide),?_⟩;generalize hone:(c % 1000000007+7919*k+1)*48271 % 2147483647=one;have o0:0<=one:=by rw [<- hone];exact yq _ (by decide)
 have o1:one<2147483647:=by rw [<- hone];exact yv _ (by decide)
 refine ⟨_,rfl,_,rfl,_,_,rfl,rfl,.inl ⟨by omega,by omega⟩,_,_,rfl,rfl,(by show (0:Int)<2147483629;decide),_,_,rfl,rfl,.inr ⟨by decide,by decide⟩,_,_,rfl,rfl,(by show (0:Int)<2147483647;decide),?_⟩;exact q _ (yq _ (by decide)) (Int.lt_trans (yv _ (by decide)) (by decide))
end
def MM:Int:=10 ^ (60:Int).toNat
theorem zn:0<MM:=by decide +kernel
theorem vR:qP 10 60:=⟨by decide,by decide,by decide⟩
theorem vQ:qP 10 18:=⟨by decide,by decide,by decide⟩
theorem QL:Builtin.Int.intBits MM<=2 ^ 20:=by decide +kernel
theorem Vf {M r:Int}{i:Nat}(hM:0<M)(h0:0<=c)(h:c<M ^ i)(r0:0<=r)(r1:r<M):0<=c*M+r/\c*M+r<M ^ (i+1):=by
 have e:M ^ (i+1)=M ^ i*M:=Int.pow_succ M i;have h1:(c+1)*M<=M ^ i*M:=Int.mul_le_mul_of_nonneg_right (by omega) (Int.le_of_lt hM);have h2:(c+1)*M=c*M+M:=by rw [Int.add_mul,Int.one_mul]
 have h3:0<=c*M:=Int.mul_nonneg h0 (Int.le_of_lt hM);rw [e];omega
theorem QF:∀ i:_root_.Fin 14,(MM ^ (i:Nat)).toNat<2 ^ 2700:=by decide +kernel
theorem QM {i:Nat}(hi:i<=13)(h0:0<=c)(h:c<MM ^ i):Builtin.Int.intBits c<=2 ^ 20:=by
 obtain ⟨n,rfl⟩:=yd h0;have q:=QF ⟨i,by omega⟩;have q2:n<2 ^ 2700:=by have q':(MM ^ i).toNat<2 ^ 2700:=q;omega
 exact yt (PyProof.Rows.intBits_le (by rw [Int.natAbs_natCast];exact q2)) (by decide)
theorem JR:∀ i:_root_.Fin 13,∀ j:_root_.Fin 64,Builtin.Range.small ((i:Nat):Int) ((j:Nat):Int) 5=true:=by decide +kernel
theorem jH {i:Int}:Builtin.Range.rangeSize i j 5=if i<j then (j-i-1) / 5+1 else 0:=rfl
theorem JQ {i:Int}(h0:0<=i)(h1:i<=12)(h2:0<=j)(h3:j<=63):0<=Builtin.Range.rangeSize i j 5/\Builtin.Range.small i j 5=true/\qp i j 5<=13/\∀ t:Nat,t<qp i j 5->i+t*5<j:=by
 refine ⟨?_,?_,?_,λt ht=>?_⟩
 ·rw [jH];split<;>omega
 ·have q:=JR ⟨i.toNat,by omega⟩ ⟨j.toNat,by omega⟩;have e1:((i.toNat:Nat):Int)=i:=by omega
  have e2:((j.toNat:Nat):Int)=j:=by omega
  have q':Builtin.Range.small ((i.toNat:Nat):Int) ((j.toNat:Nat):Int) 5=true:=q;rw [e1,e2] at q';exact q'
 ·unfold qp;rw [jH];split<;>omega
 ·unfold qp at ht;rw [jH] at ht;split at ht<;>omega
theorem QI {k:Int}(h0:0<=k)(h:k<(ns.length:Int)):∃ v:Int,atI (ns.map V.int) k=some (.int v):=by
 have hk:k.toNat<ns.length:=by omega
 have ek:k=((k.toNat:Nat):Int):=by omega
 have q:atI (ns.map V.int) ((k.toNat:Nat):Int)=some (.int ns[k.toNat]):=vk (by rw [yO,yr hk]<;>rfl);rw [<- ek] at q;exact ⟨_,q⟩
section
theorem sc_stream:u5 ["script","k","cell","j","found"] ["script","k"] (z8 zR):=scI
theorem ZN (F:Fun K "_law_stream" "_law_stream" zR f fd)(As:Fn P w K mg base 1 "_law_mixed" ["cell","k"] jQ)(Al:mg "len"=none)(Ag:mg "range"=none)(Ax:mg "sum"=none):FnOk P w K mg base j5 2 f fd ["script","k"] (Qk K):=by
 refine F.ok sc_stream (λvs H Q E h=>?_) (λcdv A outer s H vs Q E hr h=>?_)
 ·obtain ⟨a,ns,k,rfl,_⟩:=h;rfl
 obtain ⟨a,ns,k,rfl,hS,h63,k0,k1,q⟩:=h;refine ⟨_,(v6 (qo (i:=2) sc_stream.nd rfl (Or.inl rfl) z9)
  (v6 (zb PassesOwn.never rfl (Jl rfl Ag (y8 (pv 1) (y8 (p5 (vF (K:=K) rfl) rfl Al PySem.boot_len (y8 (pv 0) c7)) (y8 z9 c7)))) (gW 3 sc_stream.nd)
   (g0 (qo (i:=2) sc_stream.nd rfl (Or.inl rfl) (j4 op_add (j4 ZS (pv 2) (j4 xT z9 z9)) (j4 qy (zL (jl (K:=K) rfl) (pv 0) (pv 3) (λ_ _=>rfl)) (j4 xT z9 z9))))))
  (v6 (qA (zc op_ge (pv 2) (j4 xT z9 z9) (xu _)) (g0 (d9 (t3 (y8 (pv 2) c7)))) qB)
  (v6 (qo (i:=2) sc_stream.nd rfl (Or.inl rfl) (j4 op_add (pv 2) (p5 (Xd (K:=K) rfl rfl) rfl Ax vD (y8 (jw (N':=["one"]) (cap:=[none]) (zu rfl rfl rfl) rfl (jC (K:=K) rfl (pv 0)) (λ_ _ _ _ _ _=>(xY (i:=0) (by show (["one"]:List Str).Nodup;decide +kernel) rfl (Or.inl rfl))) (λ_ _ _ _ _ _=>zN) (λ_ _ _ _ _ _=>(j4 qy (pv 0) (j4 xT z9 z9)))) c7))))
  (v6 (qo (i:=4) sc_stream.nd rfl (Or.inl rfl) z9)
  (v6 (zb PassesOwn.never rfl (jD rfl Ag (y8 z9 c7)) (gW 3 sc_stream.nd)
   (g0 (qo (i:=4) sc_stream.nd rfl (Or.inl rfl) (j4 op_add (j4 xv (pv 4) z9) (fW As hr (y8 (j4 op_add (j4 op_add (pv 2) (j4 xv z9 (pv 1))) (p5 (vF (K:=K) rfl) rfl Al PySem.boot_len (y8 (pv 0) c7))) (y8 (pv 3) c7)))))))
  (g0 (d9 (t3 (y8 (j4 wH (pv 4) z9) c7)))))))))),?_⟩
 have hl:(((ns.map V.int).length:Nat):Int)=(ns.length:Int):=by rw [yR]
 obtain ⟨z1,z2,z3,z4⟩:=JQ (i:=k) (j:=(((ns.map V.int).length:Nat):Int)) k0 k1 (by omega) (by omega);refine ⟨_,rfl,_,rfl,a,_,rfl,.inl hS,k,_,5,rfl,⟨by decide,by decide⟩,z1,z2,XF (λi U H2=>∃(c:Int)(j:Option V),U=[some (.ref a),some (.int k),some (.int c),j,none]/\H2=H/\0<=c/\c<MM ^ i)
  ⟨0,none,rfl,rfl,Int.le_refl 0,by decide⟩ ?_ ?_⟩
 ·rintro i U H2 hi ⟨c,j,rfl,rfl,c0,c1⟩;obtain ⟨v,hv⟩:=QI (ns:=ns) (k:=k+i*5) (by omega) (by have:=z4 i hi;omega);refine ⟨_,rfl,_,_,rfl,rfl,vR,_,_,rfl,rfl,⟨QM (by omega) c0 c1,QL⟩,_,rfl,_,rfl,a,_,_,_,rfl,rfl,hS,hv,
   _,_,rfl,rfl,vR,_,_,rfl,rfl,zn,_,_,rfl,rfl,?_⟩
  have sb:=Vf (i:=i) zn c0 c1 (yq v (Ne.symm (Int.ne_of_lt zn))) (yv v zn);exact ⟨_,_,rfl,rfl,sb.1,sb.2⟩
 ·rintro U H2 ⟨c,j,rfl,rfl,c0,c1⟩;refine ⟨_,rfl,_,_,rfl,rfl,vQ,_,_,rfl,rfl,_,rfl,ite2 (λ_=>?_) (λ_=>?_)⟩
  ·refine ⟨_,rfl,(by show 1<=sizeLine;decide),λp hp=>?_⟩;exact q p c _ hp (jP hp _) j7
  ·refine ⟨_,rfl,_,rfl,a,rfl,⟨_,hS⟩,Xh (K:=K) (a:=a) (xs:=ns.map V.int) (λi ys H3=>H3=H2/\∃ ms:List Int,ys=ms.map V.int/\ms.length=i) ⟨rfl,[],rfl,rfl⟩ ?_ ?_ ?_ ?_⟩
   ·rintro i ys H3 hi ⟨_,ms,rfl,rfl⟩;rw [yR] at hi ⊢;exact sizes (by omega)
   ·rintro i ys H3 hi ⟨rfl,_⟩;exact hS
   ·rintro i x ys H3 R hx ⟨rfl,ms,rfl,rfl⟩ hR;rw [yO] at hx;obtain ⟨v,hv,rfl⟩:=yA.mp hx;refine ⟨Wk.one rfl,⟨_,rfl,_,_,rfl,rfl,vQ,_,_,rfl,rfl,(by show (0:Int)<10 ^ (18:Int).toNat;decide),?_⟩⟩;exact hR _ _ ⟨rfl,ms++[_],by rw [List.map_append];rfl,by rw [yJ];rfl⟩
   ·rintro ys H3 ⟨rfl,ms,rfl,_⟩ D hD;refine ⟨D,ms,rfl,SqL.of j7,_,_,rfl,rfl,?_⟩;have g1:Same H3 (z6 H3 D (.lst (ms.map V.int))):=jP hD _;refine ⟨12,rfl,by decide,by decide,XG (n:=12) (λi U H4=>∃(f:Int)(j:Option V),U=[some (.ref a),some (.int k),some (.int (c+ms.sum)),j,some (.int f)]/\H4=z6 H3 D (.lst (ms.map V.int))) ⟨0,_,rfl,rfl⟩ ?_ ?_⟩
    ·rintro i U H4 hi ⟨f,j,rfl,rfl⟩;refine ⟨_,rfl,_,_,rfl,rfl,.inr ⟨by decide,by decide⟩,_,rfl,_,rfl,_,_,rfl,rfl,.inl ⟨by decide,by decide⟩,_,_,rfl,rfl,_,rfl,a,_,rfl,.inl (g1.seq hS),_,_,rfl,rfl,_,rfl,_,_,rfl,by omega,by omega,λv v0 v1=>?_⟩;exact ⟨_,_,rfl,rfl,_,_,rfl,rfl⟩
    ·rintro U H4 ⟨f,j,rfl,rfl⟩;refine ⟨_,rfl,_,_,rfl,rfl,⟨by decide,by decide +kernel⟩,(by show 1<=sizeLine;decide),λp hp=>?_⟩;exact q p (f / 64) _ (g1.free hp) (g1.trans (jP hp _)) j7
end
def zM (K:Fg):List PV->Prop:=λxs=>∃(ns:List Int)(k:Int),xs=[scr K ns,.at (.int k)]/\ns.length<=63/\0<=k/\k<=12
def zq:List PV->PV->Prop:=λ_ y=>∃ n:Int,y = .lst [.at (.int n)]
theorem Vg {K:Fg}{vs:List V}{Q:VK}{E:XK}(h:spN (zM K) zq vs H Q E):Qk K vs H Q E:=by obtain ⟨Hs,xs,sm,r,⟨ns,k,rfl,h63,k0,k1⟩,q⟩:=h;obtain ⟨v,w,rfl,p1,p2⟩:=reps_cons.mp r;obtain ⟨u,z,rfl,p3,p4⟩:=reps_cons.mp p2;cases reps_nil.mp p4;cases rep_at.mp p3;obtain ⟨a,rfl,hS⟩:=Qi sm p1;exact ⟨a,ns,k,rfl,hS,h63,k0,k1,λb n H' nb g e=>q _ b Hs H' ⟨n,rfl⟩ ⟨.refl _,g,sm.trans g,λ_ _ z=>z⟩ nb (sm.free nb) ⟨_,e,.one (rep_at.mpr rfl)⟩⟩
section
theorem ZM (F:Fun K "_law_stream" "_law_stream" zR f fd)(As:Fn P w K mg base 1 "_law_mixed" ["cell","k"] jQ)(Al:mg "len"=none)(Ag:mg "range"=none)(Ax:mg "sum"=none):FnOk P w K mg base j5 2 f fd ["script","k"] (spN (zM K) zq):=(ZN F As Al Ag Ax).imp λ_ _ _ _ h=>Vg h
end
abbrev zQ:Stmt:=XO (top 4) 0
theorem JV:u5 ["self","at"] ["self","at"] (z8 zQ):=scI
theorem ZF {P:Program}{w:World}{K:Fg}{mg:Str->Option Value}{base:Heap}{f:Addr}{fd:FuncData}(F:Fun K "__init__" "NoMove.__init__" zQ f fd)(q:qb K C R fI=true)(hs:PySem.W.findIn K (.ref C) "__setattr__"=some (some (.builtin "object.__setattr__")))(hn:PySem.W.findIn K (.ref C) "at"=some none):FnOk P w K mg base j5 1 f fd ["self","at"] (xD C "at") :=
 okXI F JV rfl q hs hn λcdv A outer s H E=>⟨pv 0,pv 1,rfl⟩
abbrev jL:Stmt:=top 6
abbrev vq:MS:=(d8 (o7 2 (x9 pIx (x8 1) (dC (.int 0))))
  (d8 (o7 3 (x9 pIx (x8 1) (dC (.int 1))))
  (d8 (o7 4 (x9 j6 (p9 (x8 0) pNo (pSo (x6 2))) (p9 (x8 0) (pSo (x9 j6 (x8 2) (dC (.int 1)))) pNo)))
  (o6 (x9 xW (x9 j6 (p9 (x8 4) pNo (pSo (x6 3))) (w5 (q0 (x9 pIx (x8 0) (x8 2)) x0))) (p9 (x8 4) (pSo (x6 3)) pNo))))))
def qJ:List PV->Option PV:=o4 5 2 vq
theorem sc_moved:u5 ["names","move","at","to","others"] ["names","move"] (z8 jL):=scI
theorem ZK (F:Fun K "moved" "moved" jL f fd):FnOk P w K mg base j5 1 f fd ["names","move"] (spO qJ) :=
 okO (k:=0) (b:=vq) F sc_moved rfl λcdv A outer s H E hr=>⟨_,(v6 (sW 2 sc_moved.nd (iW (K:=K) rfl (pv 1) z9))
  (v6 (sW 3 sc_moved.nd (iW (K:=K) rfl (pv 1) z9))
  (v6 (sW 4 sc_moved.nd (j4 (n5 (K:=K) rfl) (xw (xB (K:=K) rfl) (pv 0) xy (xz (pv 2))) (xw (xB (K:=K) rfl) (pv 0) (xz (j4 (n5 (K:=K) rfl) (pv 2) z9)) xy)))
  (g0 (d9 (j4 (n5 (K:=K) rfl) (j4 (n5 (K:=K) rfl) (xw (xB (K:=K) rfl) (pv 4) xy (xz (pv 3))) (@t3 _ _ _ _ (aW (iW (K:=K) rfl (pv 0) (pv 2))))) (xw (xB (K:=K) rfl) (pv 4) (xz (pv 3)) xy))))))),
  inferInstance⟩
abbrev jJ:Stmt:=top 7
abbrev vo:MS:=(o6 (z7 pAll (q0 (zw [none,some 1] [0] (dItT (x6 0)) (u7 0) dYes (xP pLe pLt (dC (.int 0)) (x8 0) (x8 1))) x0)))
def i4:List PV->Option PV:=dFn 2 2 vo
theorem JW:u5 ["move","many"] ["move","many"] (z8 jJ):=scI
theorem ZH (F:Fun K "is_move" "is_move" jJ f fd)(Bl:mg "all"=none):FnOk P w K mg base j5 1 f fd ["move","many"] (spP i4) :=
 okP (k:=0) (b:=vo) F JW rfl λcdv A outer s H E hr=>⟨_,(g0 (d9 (p5 (QU (K:=K) rfl rfl) rfl Bl QO (aW (jw (N':=["place","many"]) (cap:=[none,some 1]) (zu rfl rfl rfl) rfl (Jn (K:=K) rfl (pv 0)) (λ_ _ _ _ _ _=>(xY (i:=0) (by show (["place","many"]:List Str).Nodup;decide +kernel) rfl (Or.inl rfl))) (λ_ _ _ _ _ _=>zN) (λ_ _ _ _ _ _=>(ZX (op_le) (op_lt) z9 (pv 0) (pv 1)))))))),
  inferInstance⟩
abbrev jN:Stmt:=top 8
abbrev vv:MS:=(d8 (qg 2 (z7 qL (q0 (x8 0) x0)))
  (d8 (xQ (zy (q0 (x6 1) x0)) (xq 2 (i3 (u7 3) (i3 (u7 4) xp))) (d8 (m7 (o5 (m8 (z7 i4 (q0 (x6 4) (q0 (z7 u9 (q0 (x8 2) x0)) x0))))) qH qh)
  (dFz 2 (qg 2 (z7 qJ (q0 (x6 2) (q0 (x6 4) x0)))))))
  (o6 (oVar 2))))
abbrev QD (Aa:Addr):YM:=(zl true (qg 2 (z7 qL (q0 (x8 0) x0))) yNo
  (zl true (xQ (zy (q0 (x6 1) x0)) (xq 2 (i3 (u7 3) (i3 (u7 4) xp))) (d8 (m7 (o5 (m8 (z7 i4 (q0 (x6 4) (q0 (z7 u9 (q0 (x8 2) x0)) x0))))) qH qh)
  (dFz 2 (qg 2 (z7 qJ (q0 (x6 2) (q0 (x6 4) x0))))))) (yFor true (zy (q0 (x6 1) x0)) (xq 2 (i3 (u7 3) (i3 (u7 4) xp))) (d8 (m7 (o5 (m8 (z7 i4 (q0 (x6 4) (q0 (z7 u9 (q0 (x8 2) x0)) x0))))) qH qh)
  (dFz 2 (qg 2 (z7 qJ (q0 (x6 2) (q0 (x6 4) x0)))))) (zl true (m7 (o5 (m8 (z7 i4 (q0 (x6 4) (q0 (z7 u9 (q0 (x8 2) x0)) x0))))) qH qh) (yIf (o5 (m8 (z7 i4 (q0 (x6 4) (q0 (z7 u9 (q0 (x8 2) x0)) x0))))) (vc Aa "at" (x6 3)) yNo)
  yNo))
  yNo))
def xt:List PV->Option PV:=o4 5 2 vv
def zj (Aa:Addr):List PV->Addr->XV->Prop:=yFn 5 2 (QD Aa)
theorem sc_walked:u5 ["names","moves","found","number","move"] ["names","moves"] (z8 jN):=scI
theorem ZO (F:Fun K "walked" "walked" jN f fd)(Av:Fn P w K mg base 1 "is_move" ["move","many"] (spP i4))(Ba:Fn P w K mg base 1 "moved" ["names","move"] (spO qJ))(Ar:mg "enumerate"=none)(Al:mg "len"=none)(Aw:mg "list"=none)(A3:XMk P w K mg base 1 "NoMove" Aa "at"):FnOk P w K mg base (CX2 P w) 3 f fd ["names","moves"] (xC xt (zj Aa)) :=
 okOY (k:=2) (b:=vv) (xb:=(QD Aa)) F sc_walked rfl rfl λcdv A outer s H E hr=>⟨_,(v6 (sW 2 sc_walked.nd (wJ (vG (K:=K) rfl) rfl Aw vC (aW (pv 0))))
  (v6 (zb PassesOwn.leaving rfl (Jj (K:=K) rfl rfl Ar (aW (pv 1))) (Jg (K:=K) (n:=2) rfl rfl (wN (gW 3 sc_walked.nd) (wN (gW 4 sc_walked.nd) Jh)))
   (v6 (qA (wO (zd (K:=K) rfl (fW Av hr (aC (pv 4) (aW (p5 (xg (K:=K) rfl) rfl Al PySem.boot_len (aW (pv 2)))))) (λ_=>rfl))) (g0 (Jt rfl rfl A3 hr (by decide) rfl (y8 (pv 3) c7) Vi)) qB)
  (g0 (sW 2 sc_walked.nd (fW Ba hr (aC (pv 2) (aW (pv 4))))))))
  (g0 (d9 (pv 2))))),
  inferInstance,inferInstance⟩
abbrev jO:Stmt:=top 14
abbrev vw:MS:=(o6 (zv (z7 qz (q0 (x8 0) (q0 (dC (.ty "int")) x0))) (zA (z7 qz (q0 (x8 0) (q0 (dC (.ty "bool")) x0))))))
def zH:List PV->Option PV:=dFn 1 1 vw
theorem JX:u5 ["thing"] ["thing"] (z8 jO):=scI
theorem ZP (F:Fun K "_law_whole" "_law_whole" jO f fd)(Bd:mg "bool"=none)(Bo:mg "int"=none)(Ac:mg "isinstance"=none):xI P w K mg base 1 f fd ["thing"] (spP zH) :=
 okPS (k:=0) (b:=vw) F JX rfl λcdv A outer s H=>⟨_,(g0 (d9 (ZU (p5 (vE (K:=K) rfl) rfl Ac xc (aC (pv 0) (aW (jv (v:= .ty "int") rfl Bo QR rfl)))) (wL (ZZ (p5 (vE (K:=K) rfl) rfl Ac xc (aC (pv 0) (aW (jv (v:= .ty "bool") rfl Bd QP rfl))))))))),
  inferInstance⟩
abbrev s_at:Stmt:=top 15
abbrev r_at (K:Fg)(Aa:Addr)(Ad:Addr)(Ae:Addr)(Ab:Addr):RM:=(rSeq (rP (o7 2 (w6 y7 (dC (.int 1)))))
  (rSeq (wX K Ab [Aa] 3 (zx (z7 xt (q0 (x6 0) (q0 (x6 1) x0)))) (yX (QE (zj Aa) (q0 (x6 0) (q0 (x6 1) x0))))
   (λea c y dx=>(d8 (o7 2 (w6 y7 (dC (.int 2))))
  (d8 (o7 4 (dOrV (z7 (qK K ea c) (q0 (qd ea y dx 3) (q0 (dC (.ref Ad)) x0))) (z7 (qK K ea c) (q0 (qd ea y dx 3) (q0 (dC (.ref Ae)) x0)))))
  (m7 (xO (m8 (z7 (qK K ea c) (q0 (qd ea y dx 3) (q0 (dC (.ref Aa)) x0)))) (xO (m8 (z7 (qK K ea c) (q0 (qd ea y dx 3) (q0 (dC (.ty "ValueError")) x0)))) (o5 (m8 (x8 4))))) (m7 (m8 (z7 zH (q0 (xi ea y dx "at" 3) x0))) (o7 2 (xi ea y dx "at" 3)) qh) qh)))))
  (rP (o6 (x6 2)))))
theorem sc_at:u5 ["names","moves","told","e","odd"] ["names","moves"] (z8 s_at):=scI
theorem vW {α β:Type}(f:α->β):∀(l:List α)(i:Nat),(l.map f).eraseIdx i=(l.eraseIdx i).map f
 |[],_=>rfl
 |_::_,0=>rfl
 |x::l,i+1=>by simp [vW f l i]
def j3 (ss:List Str):List PV:=ss.map λs=> .at (.str s)
theorem m4 (ss:List Str):(j3 ss).length=ss.length:=yR _
def za:List PV->Prop:=λxs=>∃ k:Nat,xs=[.at (.int k)]/\k<=12
def zp:List PV->PV->Prop:=λxs y=>∃ ss:List Str,y = .lst (j3 ss)/\xs=[.at (.int ss.length)]
abbrev jM:Stmt:=top 13
abbrev vt (K:Fg):WS:=(wSeq (QC 2 (w5 (q0 (dC (.str "b")) (q0 (dC (.str "ab")) (q0 (dC (.str "a")) (q0 (dC (.str "abc")) (q0 (dC (.str "ba")) (q0 (dC (.str "aa")) (q0 (dC (.str "z")) (q0 (dC (.str "abcdefgh")) (q0 (dC (.str "abcdefgi")) (q0 (dC (.str "zz")) (q0 (dC (.str "abcd")) (q0 (dC (.str "bb")) x0))))))))))))))
  (b9 (zV [none,some 2,some 0] [0] (wIp (zB (q0 (x6 1) x0))) (u7 0) xH (wPop 1 (wTk 2 (wP (z7 u9 (q0 (x8 1) x0))))))))
theorem sc_names:u5 ["row","many","free"] ["row","many"] (z8 jM):=scI
theorem XL:∀ xs,za xs->xs.length+1=(["row","many"]:List Str).length:=by rintro xs ⟨k,rfl,_⟩;rfl
theorem JO {a:MA}(h:a ε=some [.at (.int (k:Int))])(hk:k<=lim):zB a ε=some (i7 0 k):=by have hlim:(lim:Int)=1000000:=rfl;have hl:lim=1000000:=rfl;unfold zB;rw [h];show (if -(lim:Int)<=(k:Int)/\(k:Int)<=(lim:Int) then some (i7 0 (k:Int).toNat) else none)=_;rw [if_pos ⟨by omega,by omega⟩,Int.toNat_natCast]
theorem zG {k:Int}(h0:0<=k)(h1:k<2 ^ 64):k.natAbs.log2<9000:=by
 have:k.natAbs<2 ^ 9000:=yQ (by omega:k.natAbs<2 ^ 64) (Nat.pow_le_pow_right (by decide) (by decide));by_cases hz:k.natAbs=0
 ·rw [hz];decide
 ·exact (Nat.log2_lt hz).mpr this
theorem XN {K:Fg}:∀ xs n,za xs->vt K (u4 n::xs.map .sh++List.replicate ((["row","many","free"]:List Str).length-(xs.length+1)) .no) (λ_=>False) λy ε=>zp xs y/\zi 0 ε:=by
 rintro xs n ⟨k,rfl,hk⟩;have hl:lim=1000000:=rfl;refine ⟨_,rfl,?_⟩;refine ⟨i7 0 k,JO rfl (by omega),rfl,by rw [xA];omega,?_⟩;refine vP (λrest ys ε=>∃ (m:Int) (free got:List Str),ε=[.no,.ow (.lst (j3 free)),u4 m]/\ys=j3 got/\got.length+rest.length=k/\free.length+got.length=12) ?_ ?_ (i7 0 k) [] _ ⟨n,["b","ab","a","abc","ba","aa","z","abcdefgh","abcdefgi","zz","abcd","bb"],[],rfl,rfl,by rw [xA];simp,rfl⟩
 ·rintro ys ε ⟨m,free,got,rfl,rfl,h1,h2⟩;refine ⟨λ_=>⟨_,rfl⟩,⟨got,rfl,?_⟩,m,rfl⟩;simp at h1;rw [h1]
 ·rintro x rest ys ε ⟨m,free,got,rfl,rfl,h1,h2⟩;simp only [yC] at h1;refine ⟨_,rfl,?_⟩;have hf:0<free.length:=by omega
  have c0:0<=m % (((j3 free).length:Nat):Int):=yq _ (by rw [m4];omega);have c1:m % (((j3 free).length:Nat):Int)<(((j3 free).length:Nat):Int):=yv _ (by rw [m4];omega);refine ⟨⟨_,rfl⟩,⟨m,rfl⟩,_,rfl,m,(((j3 free).length:Nat):Int),rfl,rfl,⟨by rw [m4];omega,zG (by omega) (by rw [m4];omega)⟩,?_⟩;generalize hj:m % (((j3 free).length:Nat):Int)=j at c0 c1;rw [m4] at c1;have hjl:j.toNat<free.length:=by omega
  refine ⟨j3 free,j,.at (.str free[j.toNat]),rfl,rfl,c0,by rw [m4];exact c1,by rw [m4];omega,?_,?_⟩
  ·unfold j3;rw [yO,yr hjl];rfl
  ·refine ⟨m / (((j3 free).length:Nat):Int),free.eraseIdx j.toNat,got++[free[j.toNat]],?_,?_,?_,?_⟩
   ·show [MSlot.no,MSlot.ow (.lst ((j3 free).eraseIdx j.toNat)),u4 _]=_;unfold j3;rw [vW]
   ·unfold j3;rw [List.map_append];rfl
   ·rw [yJ];simp only [yC,List.length_nil];omega
   ·rw [yJ,List.length_eraseIdx_of_lt hjl];simp only [yC,List.length_nil];omega
theorem ZL (F:Fun K "_law_names" "_law_names" jM f fd)(Aj:Fn P w K mg base 1 "_law_digit" ["row","many"] zS)(Al:mg "len"=none)(Ag:mg "range"=none):FnOk P w K mg base j5 2 f fd ["row","many"] (spD za zp) :=
 okD (k:=1) (b:=vt K) F sc_names XL (λcdv A outer s H E hr=>⟨_,(@v6 _ _ _ _ _ (@qo _ _ 2 _ _ _ _ sc_names.nd rfl (Or.inr rfl) (@t3 _ _ _ _ (@y8 _ _ _ _ _ t4 (@y8 _ _ _ _ _ t4 (@y8 _ _ _ _ _ t4 (@y8 _ _ _ _ _ t4 (@y8 _ _ _ _ _ t4 (@y8 _ _ _ _ _ t4 (@y8 _ _ _ _ _ t4 (@y8 _ _ _ _ _ t4 (@y8 _ _ _ _ _ t4 (@y8 _ _ _ _ _ t4 (@y8 _ _ _ _ _ t4 (@y8 _ _ _ _ _ t4 c7 (by rfl)) (by rfl)) (by rfl)) (by rfl)) (by rfl)) (by rfl)) (by rfl)) (by rfl)) (by rfl)) (by rfl)) (by rfl)) (by rfl))) (by rfl) (.inl rfl))
  (@g0 _ _ _ (d9 (jw (N':=["k","free","row"]) (cap:=[none,some 2,some 0]) (zu rfl rfl rfl) rfl (jD rfl Ag (@y8 _ _ _ _ _ (pv 1) c7 (by rfl))) (λ_ _ _ _ _ _=>(xY (i:=0) (by show (["k","free","row"]:List Str).Nodup;decide +kernel) rfl (Or.inl rfl))) (λ_ _ _ _ _ _=>zN) (λ_ _ _ _ _ _=>(ZV (K:=K) rfl PySem.F.plainAttrs_list PySem.F.slot_list_pop PySem.F.type_list_pop Zx (pv 1) (y8 (wK Aj hr (by decide) rfl (@y8 _ _ _ _ _ (pv 2) (@y8 _ _ _ _ _ (p5 (xg (K:=K) rfl) rfl Al PySem.boot_len (@y8 _ _ _ _ _ (pv 1) c7 (by rfl))) c7 (by rfl)) (by rfl))) c7))))))),
  (by repeat' first|infer_instance|(refine @Mi.instSemWSTSeqWSeq _ _ _ _ ?_ ?_)|(apply @Mi.instSemWSTForWForOfSemWIOfSemWG))⟩) XN
theorem xN (xs:List PV)(a:Nat):qu xs none (some (a:Int))=xs.take a:=by
 unfold qu;rw [HT.sIx_nat,HT.sIx_none,List.drop_zero,Nat.sub_zero];by_cases h:a<=xs.length
 ·rw [Nat.min_eq_left h]
 ·rw [Nat.min_eq_right (by omega),List.take_length,List.take_of_length_le (by omega)]
theorem jd (xs:List PV)(a:Nat):qu xs (some (a:Int)) none=xs.drop a:=by
 unfold qu;rw [HT.sIx_nat,HT.sIx_none];by_cases h:a<=xs.length
 ·rw [Nat.min_eq_left h,List.take_of_length_le (by rw [yc];omega)]
 ·rw [Nat.min_eq_right (by omega),uW,List.take_nil,List.drop_of_length_le (by omega)]
theorem vm {x:PV}(h:xs[a]?=some x):atI xs (a:Int)=some x:=vk h
def mvL (xs:List PV)(a t:Nat):List PV:=match xs[a]? with
 |some x=>(xs.eraseIdx a).take t++x::(xs.eraseIdx a).drop t
 |none=>xs
theorem wA {x:PV}(h:xs[a]?=some x):mvL xs a t=(xs.eraseIdx a).take t++x::(xs.eraseIdx a).drop t:=by unfold mvL;rw [h]
theorem Zy (h:a<xs.length):(mvL xs a t).length=xs.length:=by rw [wA (yr h),yJ,yC,yp,yc,List.length_eraseIdx_of_lt h];omega
theorem Xs :xs.eraseIdx a=xs.take a++xs.drop (a+1):=List.eraseIdx_eq_take_drop_succ xs a
def mvP (m:Nat×Nat):PV:= .tup [.at (.int m.1),.at (.int m.2)]
theorem Zw {m:Nat×Nat}(h1:m.1<xs.length)(hl:xs.length<=12):qJ [.lst xs,mvP m]=some (.lst (mvL xs m.1 m.2)):=by
 have hlim:lim=1000000:=rfl;have hx:=yr h1;obtain ⟨a,t⟩:=m;simp only at h1 hx ⊢;rw [wA hx,Xs];have ol:(xs.take a++xs.drop (a+1)).length<=12:=by rw [yJ,yp,yc];omega
 generalize ho:xs.take a++xs.drop (a+1)=o at ol;refine vY rfl (qw (qx (x:= .at (.int a)) rfl) (qw (qx (x:= .at (.int t)) rfl) (qw (qx (x:= .lst o) (d5 (xk rfl rfl rfl) (xk (hi:=none) rfl (lo:=some (a+1)) rfl rfl) ?_)) (je (d5 (d5 (xk (xs:=o) rfl rfl rfl) (wa (c4 (d5 rfl rfl (vm hx)) rfl) (by simp;omega)) (xU ?_)) (xk (xs:=o) rfl rfl rfl) ?_)))))
 ·rw [xN,show ((a:Int)+1)=((a+1:Nat):Int) by omega,jd,xU (by rw [yp,yc];omega),ho]
 ·rw [xN,yp];simp;omega
 ·rw [xN,jd,ZT (by rw [yJ,yp,yc];simp;omega)];simp
def w9 (m:Int×Int):PV:= .tup [.at (.int m.1),.at (.int m.2)]
def u8 (n:Nat)(m:Int×Int):Bool:=decide (0<=m.1/\m.1<n)&&decide (0<=m.2/\m.2<n)
theorem ZE (h:u8 n m=true):∃ q:Nat×Nat,w9 m=mvP q/\q.1<n/\q.2<n:=by obtain ⟨a,b⟩:=m;unfold u8 at h;simp only [ym,decide_eq_true_eq] at h;obtain ⟨⟨h1,h2⟩,h3,h4⟩:=h;obtain ⟨c,rfl⟩:=yd h1;obtain ⟨d,rfl⟩:=yd h3;exact ⟨(c,d),rfl,by show c<n;omega,by show d<n;omega⟩
theorem XU :i4 [w9 m,.at (.int n)]=some (.at (.bl (u8 n m))):=by
 have e:∀ k:Int,xP pLe pLt (dC (.int 0)) (x8 0) (x8 1) [.sh (.at (.int k)),.sh (.at (.int n))]=some (.at (.bl (decide (0<=k/\k<n)))):=λk=>by
  show Option.bind (some (decide ((0:Int)<=k))) (λc=>if c=true then some (PV.at (.bl (decide (k<(n:Int))))) else some (.at (.bl false)))=_;by_cases h:(0:Int)<=k
  ·rw [decide_eq_true h,yi,if_pos rfl];have:decide (k<(n:Int))=decide (0<=k/\k<(n:Int)):=by simp [h]
   rw [this]
  ·rw [yk h,yi,if_neg yY];have:decide (0<=k/\k<(n:Int))=false:=by simp [h]
   rw [this]
 refine vX rfl (je (i2 (c4 (Xu (xs:=[.at (.int m.1),.at (.int m.2)]) (ys:=[.at (.bl (decide (0<=m.1/\m.1<(n:Int)))),.at (.bl (decide (0<=m.2/\m.2<(n:Int))))]) rfl rfl l2 ?_) rfl) ?_))
 ·show Option.bind (xP pLe pLt (dC (.int 0)) (x8 0) (x8 1) [.sh (.at (.int m.1)),.sh (.at (.int n))]) (λy=>Option.bind (Option.bind (xP pLe pLt (dC (.int 0)) (x8 0) (x8 1) [.sh (.at (.int m.2)),.sh (.at (.int n))]) λy=>Option.bind (some []) λys=>some (y::ys)) λys=>some (y::ys))=_;rw [e,e];rfl
 ·unfold u8;cases decide (0<=m.1/\m.1<(n:Int))<;>cases decide (0<=m.2/\m.2<(n:Int))<;>rfl
abbrev wG:MG:=xq 2 (i3 (u7 3) (i3 (u7 4) xp))
abbrev wC:MB:=o5 (m8 (z7 i4 (q0 (x6 4) (q0 (z7 u9 (q0 (x8 2) x0)) x0))))
abbrev wB:MS:=d8 (m7 wC qH qh) (dFz 2 (qg 2 (z7 qJ (q0 (x6 2) (q0 (x6 4) x0)))))
abbrev wY (C:Addr):YM:=zl true (m7 wC qH qh) (yIf wC (vc C "at" (x6 3)) yNo) yNo
section
variable {xs0 mv u v:PV}{s3 s4:MSlot}{xs:List PV}{k:Nat}{m:Int×Int}
theorem Qy:wC [.sh xs0,.sh mv,.ow (.lst xs),.sh (.at (.int k)),.sh (w9 m)]=some (!u8 xs.length m):=by have e1:z7 i4 (q0 (x6 4) (q0 (z7 u9 (q0 (x8 2) x0)) x0)) [.sh xs0,.sh mv,.ow (.lst xs),.sh (.at (.int k)),.sh (w9 m)]=some (.at (.bl (u8 xs.length m))):=i2 (c4 rfl (c4 rfl rfl)) XU;show Option.bind (Option.bind (z7 i4 (q0 (x6 4) (q0 (z7 u9 (q0 (x8 2) x0)) x0)) [.sh xs0,.sh mv,.ow (.lst xs),.sh (.at (.int k)),.sh (w9 m)]) pTru) _=_;rw [e1];rfl
theorem Qx (h:u8 xs.length m=true)(hl:xs.length<=12):∃ ys,ys.length=xs.length/\wB [.sh xs0,.sh mv,.ow (.lst xs),.sh (.at (.int k)),.sh (w9 m)]=some (.nx [.sh xs0,.sh mv,.ow (.lst ys),.sh (.at (.int k)),.sh (w9 m)]):=by obtain ⟨q,e,h1,h2⟩:=ZE h;refine ⟨mvL xs q.1 q.2,Zy h1,?_⟩;refine qw (ε1:=[.sh xs0,.sh mv,.ow (.lst xs),.sh (.at (.int k)),.sh (w9 m)]) (Xw (by rw [Qy,h];rfl) rfl) ?_;rw [e];exact jf (ε:=[.sh xs0,.sh mv,.sh (.lst xs),.sh (.at (.int k)),.sh (mvP q)]) (i2 (c4 rfl (c4 rfl rfl)) (Zw h1 hl))
theorem Vw (h:u8 xs.length m=false):wY C [.sh xs0,.sh mv,.ow (.lst xs),.sh (.at (.int k)),.sh (w9 m)] C (some ("at",.int k)) :=
 .inl ⟨true,by rw [Qy,h];rfl,rfl,_,rfl,rfl⟩
end
def mvD:PV->Option (Int×Int)
 | .tup [.at (.int a),.at (.int b)]=>some (a,b)
 |_=>none
theorem wz {p:PV}(h:mvD p=some m):p=w9 m:=by
 unfold mvD at h;split at h
 ·cases h;rfl
 ·cases h
def r9 (n:Nat):Nat->List PV->Option Int
 |_,[]=>some (-1)
 |k,p::ps=>match mvD p with
  |some m=>if u8 n m=true then r9 n (k+1) ps else some k
  |none=>none
theorem wc :r9 n k (w9 m::ps)=if u8 n m=true then r9 n (k+1) ps else some (k:Int):=rfl
theorem wy {xs0 mv:PV}:∀{ps xs:List PV}{k:Nat}{u v:MSlot},r9 xs.length k ps=some (-1)->xs.length<=12 -> ∃ ys u' v',qf wG wB (m9 k ps) [.sh xs0,.sh mv,.ow (.lst xs),u,v]=some (.nx [.sh xs0,.sh mv,.ow (.lst ys),u',v'])
 |[],xs,k,u,v,_,_=>⟨xs,u,v,rfl⟩
 |p::ps,xs,k,u,v,h,hl=>by
  unfold r9 at h;split at h
  ·rename_i m e;cases wz e;split at h
   ·rename_i ok;obtain ⟨zs,lz,b1⟩:=Qx (xs0:=xs0) (mv:=mv) (k:=k) ok hl;obtain ⟨ys,u',v',e2⟩:=wy (xs0:=xs0) (mv:=mv) (ps:=ps) (xs:=zs) (k:=k+1) (u:= .sh (.at (.int k))) (v:= .sh (w9 m)) (by rw [lz];exact h) (by rw [lz];exact hl);refine ⟨ys,u',v',?_⟩;show Option.bind (wB [.sh xs0,.sh mv,.ow (.lst xs),.sh (.at (.int k)),.sh (w9 m)]) _=_;rw [b1];exact e2
   ·injection h with h;omega
  ·cases h
theorem wx {xs0 mv:PV}{C:Addr}{z:Int}(hz:z ≠ -1):∀ {ps xs:List PV} {k:Nat} {u v:MSlot},r9 xs.length k ps=some z->xs.length<=12 -> zk wG wB (wY C) (m9 k ps) [.sh xs0,.sh mv,.ow (.lst xs),u,v] C (some ("at",.int z))
 |[],xs,k,u,v,h,_=>by injection h with h;exact absurd h.symm hz
 |p::ps,xs,k,u,v,h,hl=>by
  unfold r9 at h;split at h
  ·rename_i m e;cases wz e;refine ⟨[.sh xs0,.sh mv,.ow (.lst xs),.sh (.at (.int k)),.sh (w9 m)],rfl,?_⟩;split at h
   ·rename_i ok;obtain ⟨zs,lz,b1⟩:=Qx (xs0:=xs0) (mv:=mv) (k:=k) ok hl;exact .inr ⟨_,.inl b1,wx (xs0:=xs0) (mv:=mv) hz (ps:=ps) (xs:=zs) (k:=k+1) (by rw [lz];exact h) (by rw [lz];exact hl)⟩
   ·rename_i ok;injection h with h;subst h;exact .inl (Vw (by simpa using ok))
  ·cases h
theorem Vz (h:r9 xs.length 0 ps=some (-1))(hl:xs.length<=12):∃ r,xt [.lst xs,.lst ps]=some r:=by obtain ⟨ys,u,v,e⟩:=wy (xs0:= .lst xs) (mv:= .lst ps) (k:=0) (u:= .no) (v:= .no) h hl;exact ⟨_,vY rfl (qw (jf (x:= .lst xs) rfl) (qw (Xv (xs:=m9 0 ps) rfl e) rfl))⟩
theorem Vy (hz:z ≠ -1)(h:r9 xs.length 0 ps=some z)(hl:xs.length<=12):zj C [.lst xs,.lst ps] C (some ("at",.int z)) :=
 ⟨rfl,.inr ⟨_,jf (x:= .lst xs) rfl,.inl ⟨m9 0 ps,rfl,wx (xs0:= .lst xs) (mv:= .lst ps) hz h hl⟩⟩⟩
def k7:List PV->Option PV
 |[.lst ns,.lst ps]=>if ns.length<=12 then (r9 ns.length 0 ps).map λz=> .at (.int z) else none
 |_=>none
theorem VA :zH [.at (.int z)]=some (.at (.bl true)):=vX rfl (je (Xt (i2 rfl XW) (Xx (v:=false) (i2 rfl XX))))
theorem hm_at {K:Fg}(v1:PySem.W.exmOne K (.ref Aa) (.ref Ab)=some true)(v2:PySem.W.kitOne K (.ref Aa) (.ref Aa)=some true)(v3:PySem.W.kitOne K (.ref Aa) (.type "ValueError")=some true)(v4:PySem.W.kitOne K (.ref Aa) (.ref Ad)=some false)(v5:PySem.W.kitOne K (.ref Aa) (.ref Ae)=some false):∀ xs y,k7 xs=some y->rFn 5 2 (r_at K Aa Ad Ae Ab) xs y:=by
 intro xs y h;unfold k7 at h;split at h
 ·rename_i ns ps;split at h
  ·rename_i hl;obtain ⟨z,ez,rfl⟩:=yA.mp h;refine ⟨rfl,.rt (.at (.int z)),?_,rfl⟩;by_cases hz:z=-1
   ·subst hz;obtain ⟨r,er⟩:=Vz ez hl;refine .inl ⟨_,qx (x:= .at (.int (-1))) rfl,.inl ⟨[.sh (.lst ns),.sh (.lst ps),.sh (.at (.int (-1))),.no,.no],.inl ?_,rfl⟩⟩;show zx (z7 xt (q0 (x6 0) (q0 (x6 1) x0))) [.sh (.lst ns),.sh (.lst ps),.sh (.at (.int (-1))),.no,.no]=_;unfold zx;rw [i2 (c4 rfl (c4 rfl rfl)) er];rfl
   ·have wb:=Vy (C:=Aa) hz ez hl;refine .inl ⟨_,qx (x:= .at (.int (-1))) rfl,.inl ⟨[.sh (.lst ns),.sh (.lst ps),.sh (.at (.int z)),.no,.sh (.at (.bl false))],.inr ⟨Aa,some ("at",.int z),by simp,v1,⟨_,rfl,wb⟩,λea dx hd=>⟨.nx [.sh (.lst ns),.sh (.lst ps),.sh (.at (.int z)),.sh (.op (exV ea (some ("at",.int z)) dx)),.sh (.at (.bl false))],?_,rfl⟩⟩,rfl⟩⟩;have dE:∀ a b:MSlot,qd ea (some ("at",.int z)) dx 3 [.sh (.lst ns),.sh (.lst ps),a,.sh (.op (exV ea (some ("at",.int z)) dx)),b]=some (.at (.ref ea)):=λa b=>by
     unfold qd;exact if_pos rfl
    have dX:∀ a b:MSlot,xi ea (some ("at",.int z)) dx "at" 3 [.sh (.lst ns),.sh (.lst ps),a,.sh (.op (exV ea (some ("at",.int z)) dx)),b]=some (.at (.int z)):=λa b=>by
     unfold xi;exact (if_pos rfl).trans (if_pos rfl)
    have is1:∀ {d:V} {dv:Value} {t:Bool},zh d=some dv->PySem.W.kitOne K (.ref Aa) dv=some t->∀ a b:MSlot,z7 (qK K ea Aa) (q0 (qd ea (some ("at",.int z)) dx 3) (q0 (dC d) x0)) [.sh (.lst ns),.sh (.lst ps),a,.sh (.op (exV ea (some ("at",.int z)) dx)),b]=some (.at (.bl t)):=λ{d dv t} h1 h2 a b=>by
     refine i2 (c4 (dE a b) (c4 rfl rfl)) ?_;show (if ea=ea then (zh d).bind λd=>(PySem.W.kitOne K (.ref Aa) d).bind λb=>some (PV.at (.bl b)) else none)=_;rw [if_pos rfl,h1,yi,h2];rfl
    refine qw (qx (x:= .at (.int (-2))) rfl) (qw (qx (x:= .at (.bl false)) ?_) (vZ ?_ (vZ ?_ (qx (x:= .at (.int z)) (dX _ _)))))
    ·exact Xy (is1 rfl v4 _ _) (is1 rfl v5 _ _)
    ·exact vS (zC (is1 rfl v2 _ _)) (vS (zC (is1 rfl v3 _ _)) (Xk (zC rfl)))
    ·exact zC (i2 (c4 (dX _ _) rfl) VA)
  ·cases h
 ·cases h
theorem ok_at (F:Fun K "_law_at" "_law_at" s_at f fd)(Ay:Fy P w K mg base 3 "walked" ["names","moves"] (xC xt (zj Aa)))(Bb:Fs P w K mg base 1 "_law_whole" ["thing"] (spP zH))(Ap:mg "ValueError"=none)(Ac:mg "isinstance"=none)(At:mg "NoMove"=some (.ref Aa))(A4:mg "NoName"=some (.ref Ad))(A0:mg "NoPlan"=some (.ref Ae))(Aq:mg "RinseError"=some (.ref Ab))(An:PySem.W.findIn K (.ref Aa) "at"=some none)(Au:PySem.W.hasDictIn K Aa=true)(Am:d2 K Aa)(Af:PySem.W.exmOne K (.ref Aa) (.ref Ab)=some true)(Ah:PySem.W.kitOne K (.ref Aa) (.ref Aa)=some true)(Ao:PySem.W.kitOne K (.ref Aa) (.type "ValueError")=some true)(Ai:PySem.W.kitOne K (.ref Aa) (.ref Ad)=some false)(Ak:PySem.W.kitOne K (.ref Aa) (.ref Ae)=some false):FnOk P w K mg base j5 4 f fd ["names","moves"] (spP k7) :=
 okT (k:=3) (r:=r_at K Aa Ad Ae Ab) F sc_at (hm_at Af Ah Ao Ai Ak) λcdv A outer s H E hr=>⟨_,(v6 (sW 2 sc_at.nd (i5 i8 z9))
  (v6 (Jw (K:=K) (cs:=[Aa]) (i:=3) rfl rfl rfl rfl rfl Aq sc_at.nd rfl rfl rfl (λE _ _ _ hp=>(Jy (Jx (Jd Ay hr (by decide) hp rfl (aC (pv 0) (aW (pv 1)))))))
   (λpn ea oe vs c dx hc hf hd hE hm=>(v6 (sW 2 sc_at.nd (i5 i8 z9))
  (v6 (sW 4 sc_at.nd (pe_or (p5 (zt (K:=K) rfl hm hc ((xl Am xm) c hE)) rfl Ac xc (aC (pv 3) (aW (jx (v:= .ref Ad) rfl A4 rfl)))) (wL (p5 (zt (K:=K) rfl hm hc ((xl Am xm) c hE)) rfl Ac xc (aC (pv 3) (aW (jx (v:= .ref Ae) rfl A0 rfl)))))))
  (g0 (qA (PW.pt (wQ (zd (K:=K) rfl (p5 (zt (K:=K) rfl hm hc ((xl Am xm) c hE)) rfl Ac xc (aC (pv 3) (aW (jx (v:= .ref Aa) rfl At rfl)))) (λ_=>rfl)) (wQ (zd (K:=K) rfl (p5 (zt (K:=K) rfl hm hc ((xl Am xm) c hE)) rfl Ac xc (aC (pv 3) (aW (jv (v:= .ty "ValueError") rfl Ap QN rfl)))) (λ_=>rfl)) (JB (wO (zd (K:=K) rfl (pv 4) (λ_=>rfl))))))) (g0 (qA (zd (K:=K) rfl (pe_fs Bb (L2.Room.s hr) (by decide) rfl (aW (wM (K:=K) rfl ((xl Am xm) c hE) ((wf Au wg) c hE) ((wD An wE) c hE) hm hc hf hd (pv 3) rfl))) (λ_=>rfl)) (g0 (sW 2 sc_at.nd (wM (K:=K) rfl ((xl Am xm) c hE) ((wf Au wg) c hE) ((wD An wE) c hE) hm hc hf hd (pv 3) rfl))) qB)) qB))))))
  (g0 (d9 (pv 2))))),
  inferInstance⟩
theorem jg {n:Nat}:∀{ms:List (Int×Int)}{k:Nat}{ps:List PV},(∀ m∈ms,u8 n m=true)->r9 n k (ms.map w9++ps)=r9 n (k+ms.length) ps
 |[],k,ps,_=>rfl
 |m::ms,k,ps,h=>by
  rw [List.map_cons,List.cons_append,wc,if_pos (h m yy),jg λq hq=>h q (yL _ hq),yC]
  congr 1
  omega
theorem QH {ns:List PV}(hl:ns.length<=12)(h:∀ m∈ms,u8 ns.length m=true):k7 [.lst ns,.lst (ms.map w9)]=some (.at (.int (-1))):=by have:=jg (k:=0) (ps:=[]) h;rw [yw] at this;show (if ns.length<=12 then _ else _)=_;rw [if_pos hl,this];rfl
theorem vn {ns:List PV}(hl:ns.length<=12)(h:∀ m∈ms,u8 ns.length m=true)(hb:u8 ns.length m=false):k7 [.lst ns,.lst (ms.map w9++w9 m::ps)]=some (.at (.int ms.length)):=by show (if ns.length<=12 then _ else _)=_;rw [if_pos hl,jg h,wc,if_neg (by rw [hb];exact yY),Nat.zero_add];rfl
abbrev qM:Stmt:=top 16
abbrev vp (K:Fg):WS:=(wSeq (QB 1 (zM K) zq (qr (wP (x6 0)) (qr (wP (dC (.int 0))) xG)))
  (wSeq (v8 2 (Qz 1 za zp (qr (wTk 1 (wP (dC (.int 13)))) xG)))
  (wSeq (v8 3 (wP (z7 u9 (q0 (x8 2) x0))))
  (wSeq (v8 4 (wP (w5 x0)))
  (wSeq (p6 (wPT (dT (x9 pGt (x8 3) (dC (.int 0))))) (v8 4 (zV [none,some 1,some 3] [0] (va (wTk 1 (wP (dC (.int 10))))) (u7 0) xH (wTup (qr (wTk 1 (wP (x6 2))) (qr (wTk 1 (wP (x6 2))) xG))))) c8)
  (wSeq (v8 5 (wP (x9 j6 (dC (.int 1)) (x9 pMod (qv K 0) (x9 pPow (dC (.int 10)) (dC (.int 29)))))))
  (wSeq (v8 6 (wP (z7 xX (q0 (dC (.int 0)) (q0 (x9 qm (x8 3) (dC (.int 1))) x0)))))
  (wSeq (v8 7 (wP (w5 (q0 (j9 (q0 (w6 y7 (dC (.int 1))) (q0 (dC (.int 0)) x0))) (q0 (j9 (q0 (x6 3) (q0 (dC (.int 0)) x0))) (q0 (j9 (q0 (dC (.int 0)) (q0 (w6 y7 (dC (.int 1))) x0))) (q0 (j9 (q0 (dC (.int 0)) (q0 (x6 3) x0))) (q0 (j9 (q0 (w6 y7 (dC (.int 1))) (q0 (w6 y7 (dC (.int 1))) x0))) (q0 (j9 (q0 (x6 3) (q0 (x6 3) x0))) x0)))))))))
  (wSeq (v8 7 (wP (x9 j6 (x8 7) (w5 (q0 (j9 (q0 (w6 y7 (x8 5)) (q0 (x6 6) x0))) (q0 (j9 (q0 (x9 j6 (x8 3) (x8 5)) (q0 (dC (.int 0)) x0))) (q0 (j9 (q0 (dC (.int 0)) (q0 (x9 j6 (x8 3) (x8 5)) x0))) (q0 (j9 (q0 (x6 6) (q0 (w6 y7 (x8 5)) x0))) x0))))))))
  (wSeq (v8 7 (wP (x9 j6 (x8 7) (w5 (q0 (j9 (q0 (x9 qm (w6 y7 (dC (.int 1))) (x8 3)) (q0 (x6 6) x0))) (q0 (j9 (q0 (x6 6) (q0 (x9 qm (w6 y7 (dC (.int 1))) (x8 3)) x0))) x0))))))
  (wSeq (v8 8 (wP (z7 qL (q0 (x8 2) x0))))
  (wSeq (wFor (wIp (qe (x6 7))) (u7 9) (wSeq (v8 10 (wTk 1 (wP (x9 j6 (z7 u9 (q0 (x8 4) x0)) (dC (.int 1))))))
  (wSeq (v8 11 (xE pIx (wP (x6 7)) (wTk 1 (wP (z7 u9 (q0 (x8 7) x0))))))
  (wSeq (wFor (wIp (qe (w5 (q0 (w5 (q0 (x6 9) x0)) (q0 (w5 (q0 (x6 9) (q0 (x6 11) x0))) x0))))) (u7 12) (p6 (wPT (dT (x9 pNe (z7 k7 (q0 (x6 8) (q0 (x9 j6 (x9 j6 (p9 (x8 4) pNo (pSo (x6 10))) (x8 12)) (p9 (x8 4) (pSo (x6 10)) pNo)) x0))) (x8 10)))) (b9 (wP (dC (.bl false)))) c8))
  (wSeq (p6 (wPT (dT (x9 pNe (x8 8) (x8 2)))) (b9 (wP (dC (.bl false)))) c8)
  (p6 (wPT (dT (x9 pNe (z7 k7 (q0 (x6 8) (q0 (x9 j6 (x8 4) (w5 (q0 (x6 9) x0))) x0))) (z7 u9 (q0 (x8 4) x0))))) (b9 (wP (dC (.bl false)))) c8))))))
  (b9 (wP (x9 pEq (z7 k7 (q0 (x6 8) (q0 (x6 4) x0))) (w6 y7 (dC (.int 1))))))))))))))))))
theorem sc_law:u5 ["script","row","names","many","moves","far","good","bad","handed","one","spot","other","some"] ["script"] (z8 qM):=scI
theorem Jp :∀ x∈j3 ss,xx 5 x:=λx hx=>by
 obtain ⟨s,_,rfl⟩:=List.mem_map.mp hx;rfl
theorem Jo :xx 6 (.lst (j3 ss)):=Jp
def bads (n:Nat)(far good:Int):List (Int×Int):=[(-1,0),(n,0),(0,-1),(0,n),(-1,-1),(n,n),(-far,good),(n+far,0),(0,n+far),(good,-far),(-1-n,good),(good,-1-n)]
theorem QK {far good:Int}(hf:1<=far):∀ m∈bads n far good,u8 n m=false:=by intro m hm;unfold bads at hm;simp only [yK,yh,or_false] at hm;unfold u8;simp only [Bool.and_eq_false_iff,decide_eq_false_iff_not];rcases hm with rfl|rfl|rfl|rfl|rfl|rfl|rfl|rfl|rfl|rfl|rfl|rfl<;>dsimp only<;>omega
abbrev u3 (ms:List (Int×Int)):List PV:=ms.map w9
theorem Zz {s:Nat}(hl:ms.length<=20)(hs:s<=ms.length)(hx:xs.length<=20){f:M}{i j:Nat}(h1:x8 i ε=some (.lst (u3 ms)))(h2:x6 j ε=some (.at (.int s)))(h3:f ε=some (.lst xs)):x9 j6 (x9 j6 (p9 (x8 i) pNo (pSo (x6 j))) f) (p9 (x8 i) (pSo (x6 j)) pNo) ε=some (.lst (u3 (ms.take s)++xs++u3 (ms.drop s))):=by
 have hlim:lim=1000000:=rfl;have p2:pSo (x6 j) ε=some (some (s:Int)):=by unfold pSo;rw [h2];rfl
 refine d5 (d5 (xk h1 rfl p2) h3 (xU ?_)) (xk h1 p2 rfl) ?_
 ·rw [xN,yp,yR];omega
 ·rw [xN,jd,xU (by rw [yJ,yp,yc,yR];omega),<- List.map_take,<- List.map_drop]
abbrev stL (K:Fg)(ns:List Int)(n:Int)(ss:List Str)(ms bs:List (Int×Int))(s3 s5 s6 a b c d:MSlot):ME:=[.sh (scr K ns),u4 n,.sh (.lst (j3 ss)),s3,.sh (.lst (u3 ms)),s5,s6,.sh (.lst (u3 bs)),.sh (.lst (j3 ss)),a,b,c,d]
theorem Zn {K:Fg}{n:Int}{bs:List (Int×Int)}{a b c d:MSlot}(hs:ss.length<=12)(hm:∀ m∈ms,u8 ss.length m=true):((b9 (wP (x9 pEq (z7 k7 (q0 (x6 8) (q0 (x6 4) x0))) (w6 y7 (dC (.int 1)))))):WS) (stL K ns n ss ms bs s3 s5 s6 a b c d) (λ_=>False) λy _=>y = .at (.bl true):=by have w:=QH (ns:=j3 ss) (ms:=ms) (by rw [m4];exact hs) (by rw [m4];exact hm);exact ⟨_,d5 (i2 (c4 rfl (c4 rfl rfl)) w) rfl rfl,rfl⟩
theorem Zo {K:Fg}{n0:Int}{bs:List (Int×Int)}(hs:ss.length<=12)(hm:∀ m∈ms,u8 ss.length m=true)(hl:ms.length<=10)(hb:∀ m∈bs,u8 ss.length m=false)(hbl:bs.length=12):((wSeq (wFor (wIp (qe (x6 7))) (u7 9) (wSeq (v8 10 (wTk 1 (wP (x9 j6 (z7 u9 (q0 (x8 4) x0)) (dC (.int 1)))))) (wSeq (v8 11 (xE pIx (wP (x6 7)) (wTk 1 (wP (z7 u9 (q0 (x8 7) x0)))))) (wSeq (wFor (wIp (qe (w5 (q0 (w5 (q0 (x6 9) x0)) (q0 (w5 (q0 (x6 9) (q0 (x6 11) x0))) x0))))) (u7 12) (p6 (wPT (dT (x9 pNe (z7 k7 (q0 (x6 8) (q0 (x9 j6 (x9 j6 (p9 (x8 4) pNo (pSo (x6 10))) (x8 12)) (p9 (x8 4) (pSo (x6 10)) pNo)) x0))) (x8 10)))) (b9 (wP (dC (.bl false)))) c8)) (wSeq (p6 (wPT (dT (x9 pNe (x8 8) (x8 2)))) (b9 (wP (dC (.bl false)))) c8) (p6 (wPT (dT (x9 pNe (z7 k7 (q0 (x6 8) (q0 (x9 j6 (x8 4) (w5 (q0 (x6 9) x0))) x0))) (z7 u9 (q0 (x8 4) x0))))) (b9 (wP (dC (.bl false)))) c8)))))) (b9 (wP (x9 pEq (z7 k7 (q0 (x6 8) (q0 (x6 4) x0))) (w6 y7 (dC (.int 1))))))):WS) (stL K ns n0 ss ms bs s3 s5 s6 .no .no .no .no) (λ_=>False) λy _=>y = .at (.bl true):=by
 have hlim:lim=1000000:=rfl;have hns:(j3 ss).length<=12:=by rw [m4];exact hs
 have hm':∀ m∈ms,u8 (j3 ss).length m=true:=by rw [m4];exact hm
 have hb':∀ m∈bs,u8 (j3 ss).length m=false:=by rw [m4];exact hb
 refine ⟨u3 bs,rfl,?_⟩;refine jn (λrest ε=>(∀ x∈rest,∃ m∈bs,x=w9 m)/\∃(n:Int)(a b c d:MSlot),ε=stL K ns n ss ms bs s3 s5 s6 a b c d) ?_ ?_ _ _ ⟨λx hx=>(by obtain ⟨m,hm,rfl⟩:=List.mem_map.mp hx;exact ⟨m,hm,rfl⟩),n0,_,_,_,_,rfl⟩
 ·rintro ε ⟨_,n,a,b,c,d,rfl⟩;exact Zn hs hm
 ·rintro x rest ε ⟨hx,n,a,b,c,d,rfl⟩;obtain ⟨one,ho,rfl⟩:=hx x yy;refine ⟨_,rfl,?_⟩;have k1:(0:Int)<((u3 ms).length:Int)+1:=by omega
  have e1:((u3 ms).length:Int)=ms.length:=by rw [yR]
  have d0:0<=n % (((u3 ms).length:Int)+1):=yq _ (by omega);have d1:n % (((u3 ms).length:Int)+1)<((u3 ms).length:Int)+1:=yv _ k1;refine ⟨⟨n,rfl⟩,_,rfl,n,_,rfl,rfl,⟨k1,zG (by omega) (by omega)⟩,?_⟩;obtain ⟨s,hs0⟩:=yd d0;rw [hs0] at d1 ⊢;generalize n / (((u3 ms).length:Int)+1)=n1;have k2:(0:Int)<((u3 bs).length:Int):=by rw [yR,hbl];decide
  have c0:0<=n1 % ((u3 bs).length:Int):=yq _ (by omega);have c1:n1 % ((u3 bs).length:Int)<((u3 bs).length:Int):=yv _ k2;have e2:((u3 bs).length:Int)=12:=by rw [yR,hbl];rfl
  obtain ⟨j,hj0⟩:=yd c0;have hj:j<bs.length:=by omega
  refine ⟨_,rfl,⟨n1,rfl⟩,_,rfl,n1,_,rfl,rfl,⟨k2,zG (by omega) (by omega)⟩,w9 bs[j],?_,?_⟩
  ·show atI (u3 bs) (n1 % ((u3 bs).length:Int))=_;rw [hj0];refine vm ?_;rw [yO,yr hj];rfl
  generalize n1 / ((u3 bs).length:Int)=n2;have hsl:s<=ms.length:=by omega
  have tk:(ms.take s).length=s:=by rw [yp];omega
  have gm:∀ m∈ms.take s,u8 (j3 ss).length m=true:=λm h=>hm' m (List.mem_of_mem_take h);refine ⟨[.lst [w9 one],.lst [w9 one,w9 bs[j]]],?_,?_⟩
  ·rfl
  refine jn (λrest ε=>(∀ x∈rest,∃ ps:List PV,ps.length<=2/\x = .lst (w9 one::ps))/\∃(d:MSlot),ε=stL K ns n2 ss ms bs s3 s5 s6 (.sh (w9 one)) (.sh (.at (.int s))) (.sh (w9 bs[j])) d) ?_ ?_ _ _ ⟨λx hx=>(by
   simp only [yK,yh,or_false] at hx;rcases hx with rfl|rfl
   ·exact ⟨[],by decide,rfl⟩
   ·exact ⟨[w9 bs[j]],by show 1<=2;decide,rfl⟩),_,rfl⟩
  ·rintro ε ⟨_,d,rfl⟩;refine zW (xR (d5 rfl rfl (jt Jo))) ?_;have w2:k7 [.lst (j3 ss),.lst (u3 ms++[w9 one])]=some (.at (.int ms.length)):=vn hns hm' (hb' one ho);refine zW (xR (d5 (i2 (c4 rfl (c4 (d5 rfl (wa rfl l1) (xU (by rw [yR];simp;omega))) rfl)) w2) rfl ?_)) ?_
   ·rw [yR];exact jt rfl
   ·exact ⟨λx hx'=>hx x (yL _ hx'),_,_,_,_,_,rfl⟩
  ·rintro x rest2 ε ⟨hx2,d,rfl⟩;obtain ⟨ps,hp,rfl⟩:=hx2 x yy;refine ⟨_,rfl,?_⟩;have w1:k7 [.lst (j3 ss),.lst (u3 (ms.take s)++(w9 one::ps)++u3 (ms.drop s))]=some (.at (.int (ms.take s).length)):=by rw [List.append_assoc];exact vn hns gm (hb' one ho)
   rw [tk] at w1;refine zW (xR (d5 (i2 (c4 rfl (c4 (Zz (xs:=w9 one::ps) (by omega) hsl (by rw [yC];omega) rfl rfl rfl) rfl)) w1) rfl ?_)) ?_
   ·exact jt rfl
   ·exact ⟨λx hx'=>hx2 x (yL _ hx'),_,rfl⟩
theorem wt {K:Fg}{n:Int}(hs:ss.length<=12)(hm:∀ m∈ms,u8 ss.length m=true)(hl:ms.length<=10):((wSeq (v8 5 (wP (x9 j6 (dC (.int 1)) (x9 pMod (qv K 0) (x9 pPow (dC (.int 10)) (dC (.int 29))))))) (wSeq (v8 6 (wP (z7 xX (q0 (dC (.int 0)) (q0 (x9 qm (x8 3) (dC (.int 1))) x0))))) (wSeq (v8 7 (wP (w5 (q0 (j9 (q0 (w6 y7 (dC (.int 1))) (q0 (dC (.int 0)) x0))) (q0 (j9 (q0 (x6 3) (q0 (dC (.int 0)) x0))) (q0 (j9 (q0 (dC (.int 0)) (q0 (w6 y7 (dC (.int 1))) x0))) (q0 (j9 (q0 (dC (.int 0)) (q0 (x6 3) x0))) (q0 (j9 (q0 (w6 y7 (dC (.int 1))) (q0 (w6 y7 (dC (.int 1))) x0))) (q0 (j9 (q0 (x6 3) (q0 (x6 3) x0))) x0))))))))) (wSeq (v8 7 (wP (x9 j6 (x8 7) (w5 (q0 (j9 (q0 (w6 y7 (x8 5)) (q0 (x6 6) x0))) (q0 (j9 (q0 (x9 j6 (x8 3) (x8 5)) (q0 (dC (.int 0)) x0))) (q0 (j9 (q0 (dC (.int 0)) (q0 (x9 j6 (x8 3) (x8 5)) x0))) (q0 (j9 (q0 (x6 6) (q0 (w6 y7 (x8 5)) x0))) x0)))))))) (wSeq (v8 7 (wP (x9 j6 (x8 7) (w5 (q0 (j9 (q0 (x9 qm (w6 y7 (dC (.int 1))) (x8 3)) (q0 (x6 6) x0))) (q0 (j9 (q0 (x6 6) (q0 (x9 qm (w6 y7 (dC (.int 1))) (x8 3)) x0))) x0)))))) (wSeq (v8 8 (wP (z7 qL (q0 (x8 2) x0)))) (wSeq (wFor (wIp (qe (x6 7))) (u7 9) (wSeq (v8 10 (wTk 1 (wP (x9 j6 (z7 u9 (q0 (x8 4) x0)) (dC (.int 1)))))) (wSeq (v8 11 (xE pIx (wP (x6 7)) (wTk 1 (wP (z7 u9 (q0 (x8 7) x0)))))) (wSeq (wFor (wIp (qe (w5 (q0 (w5 (q0 (x6 9) x0)) (q0 (w5 (q0 (x6 9) (q0 (x6 11) x0))) x0))))) (u7 12) (p6 (wPT (dT (x9 pNe (z7 k7 (q0 (x6 8) (q0 (x9 j6 (x9 j6 (p9 (x8 4) pNo (pSo (x6 10))) (x8 12)) (p9 (x8 4) (pSo (x6 10)) pNo)) x0))) (x8 10)))) (b9 (wP (dC (.bl false)))) c8)) (wSeq (p6 (wPT (dT (x9 pNe (x8 8) (x8 2)))) (b9 (wP (dC (.bl false)))) c8) (p6 (wPT (dT (x9 pNe (z7 k7 (q0 (x6 8) (q0 (x9 j6 (x8 4) (w5 (q0 (x6 9) x0))) x0))) (z7 u9 (q0 (x8 4) x0))))) (b9 (wP (dC (.bl false)))) c8)))))) (b9 (wP (x9 pEq (z7 k7 (q0 (x6 8) (q0 (x6 4) x0))) (w6 y7 (dC (.int 1))))))))))))):WS) [.sh (scr K ns),u4 n,.sh (.lst (j3 ss)),.sh (.at (.int (j3 ss).length)),.sh (.lst (u3 ms)),.no,.no,.no,.no,.no,.no,.no,.no] (λ_=>False) λy _=>y = .at (.bl true):=by
 have hlim:lim=1000000:=rfl;obtain ⟨t,et⟩:=Xz (K:=K) (i:=0) (ε:=[.sh (scr K ns),u4 n,.sh (.lst (j3 ss)),.sh (.at (.int (j3 ss).length)),.sh (.lst (u3 ms)),.no,.no,.no,.no,.no,.no,.no,.no]) (ns:=ns) rfl;have f0:0<=t % 100000000000000000000000000000:=yq _ (by decide);have em:x9 pMod (qv K 0) (x9 pPow (dC (.int 10)) (dC (.int 29))) [.sh (scr K ns),u4 n,.sh (.lst (j3 ss)),.sh (.at (.int (j3 ss).length)),.sh (.lst (u3 ms)),.no,.no,.no,.no,.no,.no,.no,.no]=some (.at (.int (t % 100000000000000000000000000000))):=by
  refine d5 (y:= .at (.int 100000000000000000000000000000)) et ?_ ?_
  ·rfl
  ·rfl
 refine ⟨.at (.int (1+t % 100000000000000000000000000000)),d5 rfl em rfl,?_⟩;have hf:1<=1+t % 100000000000000000000000000000:=by omega
 generalize 1+t % 100000000000000000000000000000=far at hf;refine ⟨_,rfl,_,rfl,_,rfl,_,rfl,_,rfl,?_⟩;exact Zo (bs:=bads (j3 ss).length far (if ((j3 ss).length:Int)-1 > 0 then ((j3 ss).length:Int)-1 else 0)) hs hm hl (by rw [<- m4 ss];exact QK hf) rfl
theorem Zp {K:Fg}{n:Int}(hs:ss.length<=12):((wSeq (v8 3 (wP (z7 u9 (q0 (x8 2) x0)))) (wSeq (v8 4 (wP (w5 x0))) (wSeq (p6 (wPT (dT (x9 pGt (x8 3) (dC (.int 0))))) (v8 4 (zV [none,some 1,some 3] [0] (va (wTk 1 (wP (dC (.int 10))))) (u7 0) xH (wTup (qr (wTk 1 (wP (x6 2))) (qr (wTk 1 (wP (x6 2))) xG))))) c8) (wSeq (v8 5 (wP (x9 j6 (dC (.int 1)) (x9 pMod (qv K 0) (x9 pPow (dC (.int 10)) (dC (.int 29))))))) (wSeq (v8 6 (wP (z7 xX (q0 (dC (.int 0)) (q0 (x9 qm (x8 3) (dC (.int 1))) x0))))) (wSeq (v8 7 (wP (w5 (q0 (j9 (q0 (w6 y7 (dC (.int 1))) (q0 (dC (.int 0)) x0))) (q0 (j9 (q0 (x6 3) (q0 (dC (.int 0)) x0))) (q0 (j9 (q0 (dC (.int 0)) (q0 (w6 y7 (dC (.int 1))) x0))) (q0 (j9 (q0 (dC (.int 0)) (q0 (x6 3) x0))) (q0 (j9 (q0 (w6 y7 (dC (.int 1))) (q0 (w6 y7 (dC (.int 1))) x0))) (q0 (j9 (q0 (x6 3) (q0 (x6 3) x0))) x0))))))))) (wSeq (v8 7 (wP (x9 j6 (x8 7) (w5 (q0 (j9 (q0 (w6 y7 (x8 5)) (q0 (x6 6) x0))) (q0 (j9 (q0 (x9 j6 (x8 3) (x8 5)) (q0 (dC (.int 0)) x0))) (q0 (j9 (q0 (dC (.int 0)) (q0 (x9 j6 (x8 3) (x8 5)) x0))) (q0 (j9 (q0 (x6 6) (q0 (w6 y7 (x8 5)) x0))) x0)))))))) (wSeq (v8 7 (wP (x9 j6 (x8 7) (w5 (q0 (j9 (q0 (x9 qm (w6 y7 (dC (.int 1))) (x8 3)) (q0 (x6 6) x0))) (q0 (j9 (q0 (x6 6) (q0 (x9 qm (w6 y7 (dC (.int 1))) (x8 3)) x0))) x0)))))) (wSeq (v8 8 (wP (z7 qL (q0 (x8 2) x0)))) (wSeq (wFor (wIp (qe (x6 7))) (u7 9) (wSeq (v8 10 (wTk 1 (wP (x9 j6 (z7 u9 (q0 (x8 4) x0)) (dC (.int 1)))))) (wSeq (v8 11 (xE pIx (wP (x6 7)) (wTk 1 (wP (z7 u9 (q0 (x8 7) x0)))))) (wSeq (wFor (wIp (qe (w5 (q0 (w5 (q0 (x6 9) x0)) (q0 (w5 (q0 (x6 9) (q0 (x6 11) x0))) x0))))) (u7 12) (p6 (wPT (dT (x9 pNe (z7 k7 (q0 (x6 8) (q0 (x9 j6 (x9 j6 (p9 (x8 4) pNo (pSo (x6 10))) (x8 12)) (p9 (x8 4) (pSo (x6 10)) pNo)) x0))) (x8 10)))) (b9 (wP (dC (.bl false)))) c8)) (wSeq (p6 (wPT (dT (x9 pNe (x8 8) (x8 2)))) (b9 (wP (dC (.bl false)))) c8) (p6 (wPT (dT (x9 pNe (z7 k7 (q0 (x6 8) (q0 (x9 j6 (x8 4) (w5 (q0 (x6 9) x0))) x0))) (z7 u9 (q0 (x8 4) x0))))) (b9 (wP (dC (.bl false)))) c8)))))) (b9 (wP (x9 pEq (z7 k7 (q0 (x6 8) (q0 (x6 4) x0))) (w6 y7 (dC (.int 1)))))))))))))))):WS) [.sh (scr K ns),u4 n,.sh (.lst (j3 ss)),.no,.no,.no,.no,.no,.no,.no,.no,.no,.no] (λ_=>False) λy _=>y = .at (.bl true):=by
 have hlim:lim=1000000:=rfl;have hlimI:(lim:Int)=1000000:=rfl;have hsl:((j3 ss).length:Int)=ss.length:=by rw [m4]
 refine ⟨_,rfl,_,rfl,?_⟩;by_cases h0:ss.length=0
 ·refine zW (xR (d5 rfl rfl (show _=some (PV.at (.bl (decide ((0:Int)<((j3 ss).length:Int))))) from rfl) |>.trans ?_)) ?_
  ·rw [yk (by omega)]
  ·exact wt (ms:=[]) hs (λ_ z=>nomatch z) (by decide)
 ·refine VB (xR (d5 rfl rfl (show _=some (PV.at (.bl (decide ((0:Int)<((j3 ss).length:Int))))) from rfl) |>.trans ?_)) ?_
  ·rw [decide_eq_true (by omega)]
  ·have kp:(0:Int)<((j3 ss).length:Int):=by omega
   have n15:0<=n % 10:=yq _ (by decide);have n15':n % 10<10:=yv _ (by decide);refine ⟨⟨n,rfl⟩,_,rfl,n,10,rfl,rfl,⟨by decide,by decide +kernel⟩,n % 10,rfl,by omega,by omega,rfl,by rw [xA];omega,?_⟩;refine vP (λrest ys ε=>∃(m:Int)(ms:List (Int×Int)),ε=[.no,u4 m,.sh (.at (.int ((j3 ss).length:Int)))]/\ys=u3 ms/\(∀ q∈ms,u8 ss.length q=true)/\ms.length+rest.length=(n % 10).toNat) ?_ ?_ _ [] _ ⟨n / 10,[],rfl,rfl,(λ_ z=>nomatch z),by rw [xA];simp⟩
   ·rintro ys ε ⟨m,ms,rfl,rfl,hq,hl⟩;refine ⟨(λ⟨_,z⟩=>by cases z),?_⟩;simp only [List.length_nil,Nat.add_zero] at hl;exact wt hs hq (by omega)
   ·rintro x rest ys ε ⟨m,ms,rfl,rfl,hq,hl⟩;have cd:∀ j:Int,zm j ((j3 ss).length:Int):=λj=>⟨kp,zG (by omega) (by omega)⟩;have p1:=yv m kp;have p2:=yv (m / ((j3 ss).length:Int)) kp;have q1:0<=m % ((j3 ss).length:Int):=yq _ (by omega);have q2:0<=m / ((j3 ss).length:Int) % ((j3 ss).length:Int):=yq _ (by omega);refine ⟨_,rfl,⟨m,rfl⟩,_,rfl,m,_,rfl,rfl,cd _,⟨_,rfl⟩,_,rfl,_,_,rfl,rfl,cd _,by show 2<=lim;decide,?_⟩;refine ⟨_,ms++[(m % ((j3 ss).length:Int),m / ((j3 ss).length:Int) % ((j3 ss).length:Int))],rfl,?_,?_,?_⟩
    ·show _=List.map w9 _;rw [List.map_append];rfl
    ·intro q hq';rcases yE.mp hq' with z|z
     ·exact hq q z
     ·rw [yF.mp z];unfold u8;simp only [ym,decide_eq_true_eq];omega
    ·simp only [yC] at hl;rw [yJ];simp only [yC,List.length_nil];omega
theorem XM {K:Fg}:∀ ns:List Int,ns.length<=63->vp K (.sh (scr K ns)::List.replicate ((["script","row","names","many","moves","far","good","bad","handed","one","spot","other","some"]:List Str).length-1) .no) (λ_=>False) λy _=>y = .at (.bl true):=by intro ns h63;refine ⟨_,rfl,_,rfl,⟨ns,0,rfl,h63,by decide,by decide⟩,?_⟩;rintro _ ⟨n,rfl⟩;have a0:0<=n % 13:=yq _ (by decide);have a1:n % 13<13:=yv _ (by decide);refine ⟨⟨n,rfl⟩,⟨n,rfl⟩,_,rfl,n,13,rfl,rfl,⟨by decide,by decide +kernel⟩,⟨n / 13,rfl⟩,⟨(n % 13).toNat,by rw [Int.toNat_of_nonneg a0],by omega⟩,?_⟩;rintro _ n2 ⟨ss,rfl,hss⟩;injection hss with hss _;injection hss with hss;injection hss with hss;exact Zp (by omega)
theorem ZI (F:Fun K "law" "law" qM f fd)(Bp:Fn P w K mg base 4 "_law_at" ["names","moves"] (spP k7))(Aj:Fn P w K mg base 1 "_law_digit" ["row","many"] zS)(A8:Fn P w K mg base 2 "_law_names" ["row","many"] (spD za zp))(Az:Fn P w K mg base 2 "_law_stream" ["script","k"] (spN (zM K) zq))(Al:mg "len"=none)(Aw:mg "list"=none)(Bk:mg "max"=none)(Ag:mg "range"=none)(Ax:mg "sum"=none):FnOk P w K mg base j5 5 f fd ["script"] (ze K) :=
 okL (k:=4) (b:=vp K) F sc_law (λcdv A outer s H E hr=>⟨_,(v6 (sW 1 sc_law.nd (fW Az hr (aC (pv 0) (aW z9))))
  (v6 (sW 2 sc_law.nd (fW A8 hr (aC (pv 1) (aW (fW Aj hr (aC (pv 1) (aW z9)))))))
  (v6 (sW 3 sc_law.nd (p5 (xg (K:=K) rfl) rfl Al PySem.boot_len (aW (pv 2))))
  (v6 (sW 4 sc_law.nd (@t3 _ _ _ _ c7))
  (v6 (qA (zc (op_gt) (pv 3) z9 (xu _)) (g0 (Ju (i:=4) (N':=["k","row","many"]) (cap:=[none,some 1,some 3]) (zu rfl rfl rfl) rfl sc_law.nd rfl rfl (jD rfl Ag (aW (fW Aj hr (aC (pv 1) (aW z9))))) (λ_ _ _ _ _ _=>(xY (i:=0) (by show (["k","row","many"]:List Str).Nodup;decide +kernel) rfl (Or.inl rfl))) (λ_ _ _ _ _ _=>zN) (λ_ _ _ _ _ _=>(@n8 _ _ _ _ _ (aC (fW Aj hr (aC (pv 1) (aW (pv 2)))) (aW (fW Aj hr (aC (pv 1) (aW (pv 2)))))))))) qB)
  (v6 (sW 5 sc_law.nd (j4 (n5 (K:=K) rfl) z9 (j4 (qy) (p5 (Xe (K:=K) rfl rfl) rfl Ax vD (aW (pv 0))) (j4 (xT) z9 z9))))
  (v6 (sW 6 sc_law.nd (p5 (Xc rfl) rfl Bk QS (aC z9 (aW (j4 (js) (pv 3) z9)))))
  (v6 (sW 7 sc_law.nd (@t3 _ _ _ _ (aC (@n8 _ _ _ _ _ (aC (i5 i8 z9) (aW z9))) (aC (@n8 _ _ _ _ _ (aC (pv 3) (aW z9))) (aC (@n8 _ _ _ _ _ (aC z9 (aW (i5 i8 z9)))) (aC (@n8 _ _ _ _ _ (aC z9 (aW (pv 3)))) (aC (@n8 _ _ _ _ _ (aC (i5 i8 z9) (aW (i5 i8 z9)))) (aW (@n8 _ _ _ _ _ (aC (pv 3) (aW (pv 3))))))))))))
  (v6 (sW 7 sc_law.nd (j4 (n5 (K:=K) rfl) (pv 7) (@t3 _ _ _ _ (aC (@n8 _ _ _ _ _ (aC (i5 i8 (pv 5)) (aW (pv 6)))) (aC (@n8 _ _ _ _ _ (aC (j4 (n5 (K:=K) rfl) (pv 3) (pv 5)) (aW z9))) (aC (@n8 _ _ _ _ _ (aC z9 (aW (j4 (n5 (K:=K) rfl) (pv 3) (pv 5))))) (aW (@n8 _ _ _ _ _ (aC (pv 6) (aW (i5 i8 (pv 5))))))))))))
  (v6 (sW 7 sc_law.nd (j4 (n5 (K:=K) rfl) (pv 7) (@t3 _ _ _ _ (aC (@n8 _ _ _ _ _ (aC (j4 (js) (i5 i8 z9) (pv 3)) (aW (pv 6)))) (aW (@n8 _ _ _ _ _ (aC (pv 6) (aW (j4 (js) (i5 i8 z9) (pv 3))))))))))
  (v6 (sW 8 sc_law.nd (wJ (vG (K:=K) rfl) rfl Aw vC (aW (pv 2))))
  (v6 (zb PassesOwn.never rfl (@jC _ K _ _ _ rfl (pv 7)) (gW 9 sc_law.nd)
   (v6 (sW 10 sc_law.nd (fW Aj hr (aC (pv 1) (aW (j4 (n5 (K:=K) rfl) (p5 (xg (K:=K) rfl) rfl Al PySem.boot_len (aW (pv 4))) z9)))))
  (v6 (sW 11 sc_law.nd (iW (K:=K) rfl (pv 7) (fW Aj hr (aC (pv 1) (aW (p5 (xg (K:=K) rfl) rfl Al PySem.boot_len (aW (pv 7))))))))
  (v6 (zb PassesOwn.never rfl (@jC _ K _ _ _ rfl (@t3 _ _ _ _ (aC (@t3 _ _ _ _ (aW (pv 9))) (aW (@t3 _ _ _ _ (aC (pv 9) (aW (pv 11)))))))) (gW 12 sc_law.nd)
   (g0 (qA (zc (jr (K:=K) (hu6 hr) rfl) (fW Bp hr (aC (pv 8) (aW (j4 (n5 (K:=K) rfl) (j4 (n5 (K:=K) rfl) (xw (xB (K:=K) rfl) (pv 4) xy (xz (pv 10))) (pv 12)) (xw (xB (K:=K) rfl) (pv 4) (xz (pv 10)) xy))))) (pv 10) (xu _)) (g0 (d9 ju)) qB)))
  (v6 (qA (zc (jr (K:=K) (hu6 hr) rfl) (pv 8) (pv 2) (xu _)) (g0 (d9 ju)) qB)
  (g0 (qA (zc (jr (K:=K) (hu6 hr) rfl) (fW Bp hr (aC (pv 8) (aW (j4 (n5 (K:=K) rfl) (pv 4) (@t3 _ _ _ _ (aW (pv 9))))))) (p5 (xg (K:=K) rfl) rfl Al PySem.boot_len (aW (pv 4))) (xu _)) (g0 (d9 ju)) qB)))))))
  (g0 (d9 (ZY (ZR (K:=K) (hu6 hr) rfl) (fW Bp hr (aC (pv 8) (aW (pv 4)))) (i5 i8 z9) (xu _)))))))))))))))),
  (by repeat' first|infer_instance|(refine @Mi.instSemWSTSeqWSeq _ _ _ _ ?_ ?_)|(apply @Mi.instSemWSTForWForOfSemWIOfSemWG))⟩) XM
theorem Xl {K:Fg}(h:PySem.W.hasDictIn K C=true):(PySem.W.clsIn K C).isSome=true:=by
 unfold PySem.W.hasDictIn at h;cases e:PySem.W.clsIn K C with
 |none=>rw [e] at h;cases h
 |some cd=>rfl
abbrev so (f:Addr):Option (Option Value):=some (some (.ref f))
abbrev fO (oc:Value)(od:Option Addr)(x q:Str)(st:Stmt)(dV kV dc pm:Value)(an:Option Addr)(cd ct:Value)(sl:Array (Option Value)):Option Obj:=some ⟨oc,od,.func (PySem.W.fnOf x q (qi st) (b7 st) (z8 st) dV kV dc pm an cd ct),sl⟩
theorem fnM (P:Program)(w:World)(base:Heap){K:Fg}{mg:Str->Option Value}{f:Addr}{fd:FuncData}{ps:List Str}(h:FnOk P w K mg base j5 k f fd ps sp)(a:mg x=some (.ref f))(kp:PySem.W.keepIn K (.ref f)=true)(b:Binds K fd ps []):Fn P w K mg base k x ps sp:=⟨f,fd,h,a,kp,b⟩
theorem bi1 {K:Fg}{f:Addr}{fd:FuncData}(F:Fun K x qual st f fd)(h:∀(kV doc pm:Value)(an:Option Addr)(cdv ct u:Value),bindArgs (PySem.W.fnOf x qual (qi st) (b7 st) (z8 st) .none kV doc pm an cdv ct) ⟨[u],[]⟩=pure [(p,u)]):Binds K fd [p] []:=F.binds λa b c d e g us hl=>match us,hl with|[_],_=>h a b c d e g _
theorem bi2 {K:Fg}{f:Addr}{fd:FuncData}(F:Fun K x qual st f fd)(h:∀(kV doc pm:Value)(an:Option Addr)(cdv ct u v:Value),bindArgs (PySem.W.fnOf x qual (qi st) (b7 st) (z8 st) .none kV doc pm an cdv ct) ⟨[u,v],[]⟩=pure [(p,u),(q,v)]):Binds K fd [p,q] []:=F.binds λa b c d e g us hl=>match us,hl with|[_,_],_=>h a b c d e g _ _
structure Zt (P:Program)(w:World)(K:Fg)(mg:Str->Option Value)(base h:Heap):Prop where
 X:K.In h
 G:h.Ns mainGlobals mg
def FG (K:Fg)(x:Str)(st:Stmt):Prop:=∃ f oc od kV dc pm an cd ct sl,PySem.W.nsIn K mainGlobals x=so f/\K.lookup f=fO oc od x x st .none kV dc pm an cd ct sl/\PySem.W.codeIn K cd x=true/\PySem.W.keepIn K (.ref f)=true
theorem FG.i {K:Fg}{f:Addr}{kV:Value}(a:PySem.W.nsIn K mainGlobals x=so f)(l:K.lookup f=fO oc od x x st .none kV dc pm an cd ct sl)(c:PySem.W.codeIn K cd x=true)(k:PySem.W.keepIn K (.ref f)=true):FG K x st:=⟨_,_,_,_,_,_,_,_,_,_,a,l,c,k⟩
def FM (K:Fg)(C:Addr)(x q:Str)(st:Stmt):Prop:=∃ f oc od kV dc pm an cd ct sl,PySem.W.findIn K (.ref C) x=so f/\PySem.W.isFn K (.ref f)=true/\K.lookup f=fO oc od x q st .none kV dc pm an cd ct sl/\PySem.W.codeIn K cd q=true/\PySem.W.keepIn K (.ref f)=true
theorem FM.i {K:Fg}{f:Addr}{kV:Value}(a:PySem.W.findIn K (.ref C) x=so f)(i:PySem.W.isFn K (.ref f)=true)(l:K.lookup f=fO oc od x q st .none kV dc pm an cd ct sl)(c:PySem.W.codeIn K cd q=true)(k:PySem.W.keepIn K (.ref f)=true):FM K C x q st:=⟨_,_,_,_,_,_,_,_,_,_,a,i,l,c,k⟩
abbrev BdA (x q:Str)(st:Stmt)(ps:List Str):Prop:=∀(kV doc pm:Value)(an:Option Addr)(cdv ct:Value)(us:List Value),us.length=ps.length->bindArgs (PySem.W.fnOf x q (qi st) (b7 st) (z8 st) .none kV doc pm an cdv ct) ⟨us,[]⟩=pure (ps.zip us)
section
variable {P:Program}{w:World}{K:Fg}{mg:Str->Option Value}{base h:Heap}{k:Nat}{ps:List Str}{sp:Sp}{x q:Str}{st:Stmt}{C:Addr}
theorem fG (Z:Zt P w K mg base h)(a:FG K x st)(H:∀{f fd},Fun K x x st f fd->FnOk P w K mg base j5 k f fd ps sp)(b:BdA x x st ps:=by intro _ _ _ _ _ _ us hl;first|exact (match us,hl with|[_],_=>rfl)|exact (match us,hl with|[_,_],_=>rfl)|exact (match us,hl with|[_,_,_],_=>rfl)|exact (match us,hl with|[_,_,_,_],_=>rfl)|exact (match us,hl with|[_,_,_,_,_],_=>rfl)):Fn P w K mg base k x ps sp:=by obtain ⟨f,oc,od,kV,dc,pm,an,cd,ct,sl,a,l,c,kp⟩:=a;exact ⟨f,_,H (qj l c kp),PySem.W.mg_of Z.X Z.G a,kp,(qj l c kp).binds b⟩
end
theorem fGY {P:Program}{w:World}{K:Fg}{mg:Str->Option Value}{base:Heap}{ps:List Str}(Z:Zt P w K mg base h)(a:FG K x st)(H:∀{f fd},Fun K x x st f fd->FnOk P w K mg base (CX2 P w) k f fd ps sp)(b:BdA x x st ps:=by intro _ _ _ _ _ _ us hl;first|exact (match us,hl with|[_],_=>rfl)|exact (match us,hl with|[_,_],_=>rfl)|exact (match us,hl with|[_,_,_],_=>rfl)|exact (match us,hl with|[_,_,_,_],_=>rfl)|exact (match us,hl with|[_,_,_,_,_],_=>rfl)):Fy P w K mg base k x ps sp:=by obtain ⟨f,oc,od,kV,dc,pm,an,cd,ct,sl,a,l,c,kp⟩:=a;exact ⟨f,_,H (qj l c kp),PySem.W.mg_of Z.X Z.G a,kp,(qj l c kp).binds b⟩
theorem fGS {P:Program}{w:World}{K:Fg}{mg:Str->Option Value}{base:Heap}{ps:List Str}(Z:Zt P w K mg base h)(a:FG K x st)(H:∀{f fd},Fun K x x st f fd->xI P w K mg base k f fd ps sp)(b:BdA x x st ps:=by intro _ _ _ _ _ _ us hl;first|exact (match us,hl with|[_],_=>rfl)|exact (match us,hl with|[_,_],_=>rfl)|exact (match us,hl with|[_,_,_],_=>rfl)|exact (match us,hl with|[_,_,_,_],_=>rfl)|exact (match us,hl with|[_,_,_,_,_],_=>rfl)):Fs P w K mg base k x ps sp:=by obtain ⟨f,oc,od,kV,dc,pm,an,cd,ct,sl,a,l,c,kp⟩:=a;exact ⟨f,_,H (qj l c kp),PySem.W.mg_of Z.X Z.G a,kp,(qj l c kp).binds b⟩
def FXI (K:Fg)(C R:Addr)(f q:Str)(st:Stmt):Prop:=∃ fI oc od kV dc pm an cd ct sl,PySem.W.findIn K (.ref C) "__init__"=so fI/\K.lookup fI=fO oc od "__init__" q st .none kV dc pm an cd ct sl/\PySem.W.codeIn K cd q=true/\PySem.W.keepIn K (.ref fI)=true/\PySem.W.isFn K (.ref fI)=true/\PySem.W.keepIn K (.ref C)=true/\PySem.W.findIn K (.ref C) "__setattr__"=some (some (.builtin "object.__setattr__"))/\PySem.W.findIn K (.ref C) f=some none/\qb K C R fI=true
theorem FXI.i {K:Fg}{f:Str}{kV:Value}(a:PySem.W.findIn K (.ref C) "__init__"=so fI)(l:K.lookup fI=fO oc od "__init__" q st .none kV dc pm an cd ct sl)(c:PySem.W.codeIn K cd q=true)(k:PySem.W.keepIn K (.ref fI)=true)(i:PySem.W.isFn K (.ref fI)=true)(k2:PySem.W.keepIn K (.ref C)=true)(s:PySem.W.findIn K (.ref C) "__setattr__"=some (some (.builtin "object.__setattr__")))(n:PySem.W.findIn K (.ref C) f=some none)(x:qb K C R fI=true):FXI K C R f q st:=⟨_,_,_,_,_,_,_,_,_,_,a,l,c,k,i,k2,s,n,x⟩
theorem fXI {P:Program}{w:World}{K:Fg}{mg:Str->Option Value}{base:Heap}{ps:List Str}{f:Str}(Z:Zt P w K mg base h)(g:mg x=some (.ref C))(a:FXI K C R f q st)(H:∀ {fI fd},Fun K "__init__" q st fI fd->qb K C R fI=true->PySem.W.findIn K (.ref C) "__setattr__"=some (some (.builtin "object.__setattr__"))->PySem.W.findIn K (.ref C) f=some none->FnOk P w K mg base j5 1 fI fd ps (xD C f))(b:BdA "__init__" q st ps:=by intro _ _ _ _ _ _ us hl;first|exact (match us,hl with|[_],_=>rfl)|exact (match us,hl with|[_,_],_=>rfl)|exact (match us,hl with|[_,_,_],_=>rfl)|exact (match us,hl with|[_,_,_,_],_=>rfl)|exact (match us,hl with|[_,_,_,_,_],_=>rfl)):XMk P w K mg base 1 x C f:=by obtain ⟨fI,oc,od,kV,dc,pm,an,cd,ct,sl,a,l,c,kp,i,k2,s,n,q⟩:=a;exact ⟨R,fI,_,_,q,i,k2,g,H (qj l c kp) q s n,(qj l c kp).binds b⟩
theorem all_mk {w:World}{K:Fg}{mg:Str->Option Value}{fa f9:Addr}{od9 an9:Option Addr}{sl9:Array (Option Value)}{oc9 kV9 dc9 pm9 ct9 cd9:Value}(X:K.In h)(TT:∀ P∈[],h.get? P=some (PySem.W.tabObj #[]))(hTB:TABS=[])(G:h.Ns mainGlobals mg)(hfa:mg "law"=some (.ref fa))(Bm:W.nsIn K mainGlobals "NoMove"=some (some (.ref Aa)))(Br:W.nsIn K mainGlobals "NoName"=some (some (.ref Ad)))(Bq:W.nsIn K mainGlobals "NoPlan"=some (some (.ref Ae)))(A7:W.nsIn K mainGlobals "RinseError"=some (some (.ref Ab)))(Bj:FXI K Aa Ab "at" "NoMove.__init__" zQ)(a0:FG K "_law_mixed" jK)(a1:FG K "_law_digit" jI)(a2:FG K "_law_stream" zR)(a3:FG K "moved" jL)(a4:FG K "is_move" jJ)(a5:FG K "walked" jN)(a6:FG K "_law_whole" jO)(a7:FG K "_law_names" jM)(a8:FG K "_law_at" s_at)(a9:W.nsIn K mainGlobals "law"=so f9)(l9:K.lookup f9=fO oc9 od9 "law" "law" qM .none kV9 dc9 pm9 an9 cd9 ct9 sl9)(c9:W.codeIn K cd9 "law"=true)(k9:W.keepIn K (.ref f9)=true)(A6:W.nsIn K mainGlobals "ValueError"=some none)(Bx:W.nsIn K mainGlobals "all"=some none)(Bt:W.nsIn K mainGlobals "bool"=some none)(Bc:W.nsIn K mainGlobals "enumerate"=some none)(Bw:W.nsIn K mainGlobals "int"=some none)(A9:W.nsIn K mainGlobals "isinstance"=some none)(Bz:W.nsIn K mainGlobals "len"=some none)(Bu:W.nsIn K mainGlobals "list"=some none)(By:W.nsIn K mainGlobals "max"=some none)(Bs:W.nsIn K mainGlobals "range"=some none)(Bv:W.nsIn K mainGlobals "sum"=some none)(A5:PySem.W.hasDictIn K Aa=true)(Bh:W.findIn K (.ref Aa) "__getattribute__"=some (some (.builtin "BaseException.__getattribute__")))(Bf:W.findIn K (.ref Aa) "__getattr__"=some none)(Be:W.findIn K (.ref Aa) "__class__"=some (some (.builtin "object.__class__")))(Bg:PySem.W.mroIn K Aa (.type "object")=some true)(Bi:PySem.W.mroIn K Aa (.type "BaseException")=some true)(usp:PySem.W.specialIn K (.builtin "object.__class__") "__get__"=some (some (.builtin "getset_descriptor.__get__")))(utk:PySem.W.takesIn K (.builtin "object.__class__")=some true)(An:W.findIn K (.ref Aa) "at"=some none)(Af:PySem.W.exmOne K (.ref Aa) (.ref Ab)=some true)(Ah:PySem.W.kitOne K (.ref Aa) (.ref Aa)=some true)(Ao:PySem.W.kitOne K (.ref Aa) (.type "ValueError")=some true)(Ai:PySem.W.kitOne K (.ref Aa) (.ref Ad)=some false)(Ak:PySem.W.kitOne K (.ref Aa) (.ref Ae)=some false):∃ fd:FuncData,(∀ (s:Shared) (v:Value),BindsTo s fd ⟨[v],[]⟩ [("script",v)])/\qZ K h/\∀ base:Heap,K.In base->base.Ns mainGlobals mg->FnOk l.prog w K mg base j5 5 fa fd ["script"] (ze K):=by
 have e:=hfa.symm.trans (W.mg_of X G a9);cases e;have Ap:=W.mg_none_of X G A6;have Bl:=W.mg_none_of X G Bx;have Bd:=W.mg_none_of X G Bt;have Ar:=W.mg_none_of X G Bc;have Bo:=W.mg_none_of X G Bw;have Ac:=W.mg_none_of X G A9;have Al:=W.mg_none_of X G Bz;have Aw:=W.mg_none_of X G Bu;have Bk:=W.mg_none_of X G By;have Ag:=W.mg_none_of X G Bs;have Ax:=W.mg_none_of X G Bv;have At:=W.mg_of X G Bm;have A4:=W.mg_of X G Br;have A0:=W.mg_of X G Bq;have Aq:=W.mg_of X G A7;have Am:d2 K Aa:=⟨Xl A5,Bh,Bf,Be,usp,utk,Bg,Bi⟩;have Au:=A5;have F9:=qj (st:=qM) l9 c9 k9;have TK:qZ K h:=by refine ⟨λp hp=>?_,λp hp=>?_,λp hp q hq=>?_,λp hp=>?_,λp hp q hq e=>?_,λp hp=>?_⟩<;>rw [hTB] at hp<;>cases hp
 refine ⟨W.fnOf "law" "law" (qi qM) (b7 qM) (z8 qM) .none kV9 dc9 pm9 an9 cd9 ct9,λs v=> .of_eq rfl,TK,λbase _ _=>?_⟩;have Z:Zt l.prog w K mg base h:=⟨X,G⟩;have A3:XMk l.prog w K mg base 1 "NoMove" Aa "at":=fXI (st:=zQ) Z At Bj λF q s n=>ZF F q s n;have As:=fG Z a0 λF=>ZJ F;have Aj:=fG Z a1 λF=>ZG F;have Az:=fG Z a2 λF=>ZM F As Al Ag Ax;have Ba:=fG Z a3 λF=>ZK F;have Av:=fG Z a4 λF=>ZH F Bl;have Ay:=fGY (sp:=(xC xt (zj Aa))) Z a5 λF=>ZO F Av Ba Ar Al Aw A3;have Bb:=fGS Z a6 λF=>ZP F Bd Bo Ac;have A8:=fG Z a7 λF=>ZL F Aj Al Ag;have Bp:=fG Z a8 λF=>ok_at F Ay Bb Ap Ac At A4 A0 Aq An Au Am Af Ah Ao Ai Ak;exact ZI F9 Bp Aj A8 Az Al Aw Bk Ag Ax
theorem walk {q:Program}{loose:List Str}{XP:(Str->Option Value)->Heap->Prop}{YP:World->Heap->Prop}{d:DefRec}{K:Params->Fg}(hn:l.most=some 63)(hdf:d.params.defaults=[])(hY:∀ (w:World) (h:Heap),YP w h->(K w.params).In h)(F:∀ (w:World) (mg:Str->Option Value) (fa:Addr) (h:Heap),YP w h->(K w.params).In h->h.Ns mainGlobals mg->mg d.name=some (.ref fa) -> ∃ fd:FuncData,(∀ (s:Shared) (u:Value),BindsTo s fd ⟨[u],[]⟩ [("script",u)])/\qZ (K w.params) h/\∀ base:Heap,(K w.params).In base->base.Ns mainGlobals mg->FnOk l.prog w (K w.params) mg base j5 5 fa fd ["script"] (ze (K w.params))):PySem.W.WalkO q loose XP YP l.row.toRowW d [] (λf vs=>PySem.call f vs) :=
 L2.Vx (n:=63) (k:=5) (x:="script") (CX:=λ_=>j5) (sp:=λw=>ze (K w.params)) hn (by decide) hdf ⟨rfl,by decide,by decide⟩ hY F (λ_ _ a ns hl _ hS=>⟨a,ns,rfl,hS,hl,λ_=>rfl⟩) λ_ _ _ _ _ z=>z
end Lw
open PySem PySem.W PyProof.Rows
set_option maxRecDepth 100000 in
set_option maxHeartbeats 0 in
theorem PySem.Challenge.cw_rinsework_k19_moves_refused_holds : PySem.Challenge.rw_rinsework_k19_moves_refused.Holds := by
  w_on; o_law; k_head; (case hw => w_witness2)
  k_fill
  refine Lw.walk (l := PySem.Challenge.rw_rinsework_k19_moves_refused) rfl rfl (λw h Y => PySem.W.kIn_of Y) ?F
  case F =>
    intro w mg fa h Y KX G hmg
    apply Lw.all_mk KX (λ_ z => nomatch z) rfl G hmg
    iterate 4 k_is
    iterate 1 (apply Lw.FXI.i;(iterate 8 k_is);kernel_rfl)
    iterate 9 (apply Lw.FG.i;iterate 4 k_is)
    iterate 24 k_is
    iterate 1 kts_exm
    iterate 4 kit_is
