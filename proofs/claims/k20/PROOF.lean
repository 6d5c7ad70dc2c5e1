import PyProof.Rows.All
import Wide.All
import OpenK.AllK
import Wide.FinOn
import Lean
import PyProof.EqAt
import PyProof.EqKinds
import PyProof.NeKinds
import PyProof.TupleCall
import PySem.Challenge.RW_rinsework_k20_orders_looked_at
set_option Elab.async false
set_option linter.all false
set_option maxRecDepth 100000
namespace PySem.W.Fast
theorem tw9955328302486785376:True:=trivial
theorem tw4121910509929537089:True:=trivial
theorem tw9527972232165416131:True:=trivial
theorem tw14937312450500033987:True:=trivial
theorem tw3548820223178206473:True:=trivial
theorem tw2739350003218831305:True:=trivial
theorem tw9153713968949952045:True:=trivial
theorem tw6693999135928847183:True:=trivial
theorem tw16260995675957417714:True:=trivial
theorem tw13761513236255239251:True:=trivial
theorem tw11955843266510207251:True:=trivial
theorem tw3691009961404527893:True:=trivial
theorem tw10305961229016700888:True:=trivial
theorem tw13781268036353424633:True:=trivial
theorem tw17715153849632819865:True:=trivial
theorem tw643756640690115449:True:=trivial
theorem tw15444737309250281787:True:=trivial
theorem tw13652819616493161212:True:=trivial
end PySem.W.Fast
namespace L2
abbrev Fg:=PySem.W.Frag
end L2
namespace L2
open PySem PySem.Spec PyProof.Rows
abbrev z7:=Sum Int Str
def jV:z7->Value->Bool
 | .inl k,v=>Value.isInt k v
 | .inr x,v=>Value.isStrOf x v
def keyH (w:World):z7->Int
 | .inl k=>hashInt k
 | .inr x=>hashStr w x
theorem ja:∀ {k:z7} {v:Value},jV k v=true->(∃ i t,k=Sum.inl i/\v=Value.int i t) ∨ (∃ x t,k=Sum.inr x/\v=Value.str x t)
 | .inl i,v,h=>by
  obtain ⟨t,e⟩:=Value.isInt_shape (k:=i) (v:=v) h
  exact .inl ⟨i,t,rfl,e⟩
 | .inr x,v,h=>by
  obtain ⟨t,e⟩:=Value.isStrOf_shape (x:=x) (v:=v) h
  exact .inr ⟨x,t,rfl,e⟩
theorem Cj (i:Int)(t:Tok):jV (.inl i) (.int i t)=true:=by simp [jV,Value.isInt]
theorem Uj (x:Str)(t:Tok):jV (.inr x) (.str x t)=true:=by simp [jV,Value.isStrOf]
theorem Ck (a b:Int):decide ((Sum.inl a:z7)=Sum.inl b)=(a == b):=by
 by_cases e:a=b
 ·subst e;simp
 ·have h:¬ (Sum.inl a:z7)=Sum.inl b:=fun q=>e (Sum.inl.inj q)
  rw [decide_eq_false h]
  exact (beq_eq_false_iff_ne.mpr e).symm
theorem Co (a b:Str):decide ((Sum.inr a:z7)=Sum.inr b)=decide (a=b):=by
 by_cases e:a=b
 ·subst e;simp
 ·have h:¬ (Sum.inr a:z7)=Sum.inr b:=fun q=>e (Sum.inr.inj q)
  rw [decide_eq_false h,decide_eq_false e]
theorem Cm (a:Int)(b:Str):decide ((Sum.inl a:z7)=Sum.inr b)=false:=decide_eq_false (fun q=>nomatch q)
theorem Cn (a:Str)(b:Int):decide ((Sum.inr a:z7)=Sum.inl b)=false:=decide_eq_false (fun q=>nomatch q)

def qj (prog:Program)(w:World):PySem.KeyKind prog w z7 where
 is:=jV
 hash:=keyH w
 inj:=fun v a b ha hb=>by
  rcases ja ha with ⟨i,t,rfl,rfl⟩ | ⟨x,t,rfl,rfl⟩
  ·rcases ja hb with ⟨j,u,rfl,e⟩ | ⟨y,u,rfl,e⟩
   ·injection e with e1 _;rw [e1]
   ·exact nomatch e
  ·rcases ja hb with ⟨j,u,rfl,e⟩ | ⟨y,u,rfl,e⟩
   ·exact nomatch e
   ·injection e with e1 _;rw [e1]
 byValue:=fun k v h=>by
  rcases ja h with ⟨i,t,rfl,rfl⟩ | ⟨x,t,rfl,rfl⟩ <;> rfl
 pyHash:=fun hv h=>by
  rcases ja hv with ⟨i,t,rfl,rfl⟩ | ⟨x,t,rfl,rfl⟩
  ·exact wpAny_pyHash_int h
  ·exact wpAny_pyHash_str h
 eqBool:=fun hu hv h=>by
  rcases ja hu with ⟨i,t,rfl,rfl⟩ | ⟨x,t,rfl,rfl⟩
  ·rcases ja hv with ⟨j,u,rfl,rfl⟩ | ⟨y,u,rfl,rfl⟩
   ·rw [Ck] at h;exact wpAny_eqBool_int h
   ·rw [Cm] at h;exact SeqAt.EqAt.int_str i t y u _ _ _ _ h
  ·rcases ja hv with ⟨j,u,rfl,rfl⟩ | ⟨y,u,rfl,rfl⟩
   ·rw [Cn] at h;exact SeqAt.EqAt.str_int x t j u _ _ _ _ h
   ·rw [Co] at h;exact wpAny_eqBool_str h
 «strs»:=fun k x t v h=>by
  rcases ja h with ⟨i,u,rfl,e⟩ | ⟨y,u,rfl,e⟩
  ·exact nomatch e
  ·injection e with e1 _
   subst e1
   cases v <;> rfl

theorem CJ (prog:Program)(w:World)(i:Int)(t:Tok):(qj prog w).is (.inl i) (.int i t)=true:=Cj i t
theorem JZ (prog:Program)(w:World)(x:Str)(t:Tok):(qj prog w).is (.inr x) (.str x t)=true:=Uj x t
end L2
namespace L2
open PySem PySem.Spec PyProof.Rows
inductive V where
 | non | bl (b:Bool) | int (i:Int) | str (x:Str) | byt (b:Array UInt8) | flt (b:UInt64) | ref (a:Addr) | ty (n:String)
 deriving DecidableEq

def RelV:V->Value->Prop
 | .non,u=>u=Value.none
 | .bl b,u=>u=Value.bool b
 | .int i,u=>∃ t,u=Value.int i t
 | .str x,u=>∃ t,u=Value.str x t
 | .byt b,u=>∃ t,u=Value.bytes b t
 | .flt b,u=>∃ t,u=Value.float b t
 | .ref a,u=>u=Value.ref a
 | .ty n,u=>u=Value.type n

abbrev Vals:List V->List Value->Prop:=Paired RelV
theorem Vals.length {xs:List V}{us:List Value}(r:Vals xs us):xs.length=us.length:=Paired.length r
theorem Vals.get:∀ {xs:List V} {us:List Value} {i:Nat} {x:V},Vals xs us->xs[i]?=some x->∃ u,us[i]?=some u/\RelV x u
 | _,_,_,_,.nil,e=>by simp at e
 | _,_,0,_,.cons r _,e=>by simp at e;subst e;exact ⟨_,rfl,r⟩
 | _,_,i + 1,x,.cons _ t,e=>by
  obtain ⟨u,h1,h2⟩:=Vals.get (i:=i) (x:=x) t (by simpa using e)
  exact ⟨u,by simpa using h1,h2⟩
theorem Vals.set {x:V}{u:Value}(r:RelV x u):∀ {xs:List V} {us:List Value} (i:Nat),Vals xs us->Vals (xs.set i x) (us.set i u)
 | _,_,_,.nil=> .nil
 | _,_,0,.cons _ t=> .cons r t
 | _,_,i + 1,.cons q t=> .cons q (Vals.set r i t)
theorem Vals.append:∀ {xs ys:List V} {us ws:List Value},Vals xs us->Vals ys ws->Vals (xs++ys) (us++ws)
 | _,_,_,_,.nil,s=>s
 | _,_,_,_,.cons r t,s=> .cons r (Vals.append t s)
theorem Vals.take:∀ {xs:List V} {us:List Value} (n:Nat),Vals xs us->Vals (xs.take n) (us.take n)
 | _,_,0,_=> .nil
 | _,_,_ + 1,.nil=> .nil
 | _,_,n + 1,.cons r t=> .cons r (Vals.take n t)
theorem Vals.drop:∀ {xs:List V} {us:List Value} (n:Nat),Vals xs us->Vals (xs.drop n) (us.drop n)
 | _,_,0,r=>r
 | _,_,_ + 1,.nil=> .nil
 | _,_,n + 1,.cons _ t=>Vals.drop n t
def RelO:Option V->Option Value->Prop
 | some v,some u=>RelV v u
 | none,none=>True
 | _,_=>False
def KV {κ:Type}:List (κ × V)->List (κ × Value)->Prop:=Paired fun (p:κ × V) (q:κ × Value)=>p.1=q.1/\RelV p.2 q.2

def kV:z7->V
 | .inl i=> .int i
 | .inr x=> .str x

def TABS:List (Addr × Array Value × List (Pos × Str)):=[(193,#[],[((⟨54,30,54,75⟩:Pos),("by_dues.<locals>.<lambda>":Str))]),(200,#[],[((⟨59,30,59,109⟩:Pos),("by_steepness.<locals>.<lambda>":Str))])]
inductive HO where
 /-- a list -/
 | lst (xs:List V)
 /-- a tuple (never changes) -/
 | tup (xs:List V)
 /-- a dict whose keys are ints and texts;one whose keys are tuples of ints and texts (the empty one is both) -/
 | dK (kvs:List (z7 × V)) | dT (kvs:List (List z7 × V))
 /-- a set of ints: its members,its size -/
 | set (S:Int->Bool) (n:Nat)
 /-- an instance of the class at C,its dict at dx,its attributes -/
 | ins (C dx:Addr) (fs:List (Str × V))
 /-- the dict of the instance at x -/
 | own (x:Addr)
 /-- the dict of an exception -/
 | xd (fs:List (Str × V))
 /-- a bound method,f of x -/
 | met (f x:Addr)
 /-- a range object lo,lo + 1,.. below hi -/
 | rng (lo hi:Int)
 /-- a thing that is known to the object (the script;a dict while a loop walks it): read,never written while it is so -/
 | frz (o:Obj) (u:HO)
 /-- a code object's table -/
 | tbl (ps:Array Value) (q:List (Pos × Str))
 /-- any other thing,by what is true of its one object (a def of one's own: jK a S n:=HO.ext fun h=> ..) -/
 | ext (φ:Heap->Prop)

abbrev Hp:=Addr->Option HO
def j7 (H:Hp)(a:Addr)(o:HO):Hp:=fun b=>if b=a then some o else H b
theorem y4 {H:Hp}{a:Addr}{o:HO}:j7 H a o a=some o:=by unfold j7;rw [if_pos rfl]
theorem j3 {H:Hp}{a b:Addr}{o:HO}(h:b ≠ a):j7 H a o b=H b:=by unfold j7;rw [if_neg h]
theorem ne_of {H:Hp}{a b:Addr}{o u:HO}(h:H a=some o)(h':H b=some u)(d:o ≠ u):a ≠ b:=by
 intro e;subst e;rw [h] at h';exact d (Option.some.inj h')
theorem y7 {H:Hp}{a b:Addr}{o:HO}(h:H a=some o)(h':H b=none):a ≠ b:=by
 intro e;subst e;rw [h] at h';cases h'

section
variable (P:Program)(w:World)
def ObjOk (H:Hp)(h:Heap)(a:Addr):HO->Prop
 | .lst xs=>xs.length<=sizeLine/\∃ (its:List Value) (n:Nat),Vals xs its/\h.get? a=some { cls:= .type "list",data:= .seq its.toArray n }
 | .tup xs=>xs.length<=sizeLine/\∃ its:List Value,Vals xs its/\IsTup h a its.toArray
 | .dK kvs=>kvs.length<=sizeLine/\(a == sysModules)=false/\∃ vs,KV kvs vs/\h.DictOf (qj P w) a vs
 | .dT kvs=>kvs.length<=sizeLine/\(a == sysModules)=false/\∃ xs:List (List z7 × Addr × Value),
   Paired (fun (p:List z7 × V) (q:List z7 × Addr × Value)=>p.1=q.1/\H q.2.1=some (.tup (p.1.map kV))/\RelV p.2 q.2.2) kvs xs /\
   ∃ o es ep,h.get? a=some o/\o.ExactDict/\o.data = .dict es ep/\es.toList=xs.map (entryOfKey (tupleKind (qj P w)))/\(xs.map (·.1)).Nodup
 | .set S n=>h.SetOf (intKind P w) a S n
 | .ins C dx fs=>H dx=some (.own a)/\fs.length<=1000/\dx ≠ a/\h.get? a=some (PySem.W.instObj C dx) /\
   ∃ mA,h.Ns1 dx mA/\(∀ f,RelO (fs.lookup f) (mA f))/\PySem.Within mA (fs.map (·.1))
 | .own _=>∃ o,h.get? a=some o
 | .xd fs=>∃ mA,h.Ns1 a mA/\∀ f,RelO (fs.lookup f) (mA f)
 | .rng lo hi=>∃ t u v,h.get? a=some { cls:= .type "range",data:= .fields #[.int lo t,.int hi u,.int 1 v] }
 | .frz o u=>h.get? a=some o/\ObjOk H h a u
 | .tbl ps q=>∃ more:Array Value,h.get? a=some { cls:= .none,data:= .fields (ps++more) }/\TriplesOk (ps++more).toList /\
   ∀ p ∈ q,codeAmong p.1 (ps++more).toList=none ∨ ∃ c o vs t,codeAmong p.1 (ps++more).toList=some (.ref c)/\H c=some (.frz o (.own a))/\o.data = .fields vs/\vs[1]?=some (.str p.2 t)
 | .met f x=>h.get? a=some (PySem.W.methodObj (.ref f) (.ref x))
 | .ext φ=>φ h/\(∃ o,h.get? a=some o)/\∀ h1 h2:Heap,φ h1->(∀ o,h1.get? a=some o->h2.get? a=some o)->φ h2
def HOk (H:Hp)(h:Heap):Prop:=∀ a o,H a=some o->ObjOk P w H h a o
end
section
variable {P:Program}{w:World}{H H':Hp}{h h':Heap}{a:Addr}{o:HO}
theorem ObjOk.lt (x:ObjOk P w H h a o):a < h.objs.size:=by
 cases o with
 | lst xs=>obtain ⟨_,_,_,_,e⟩:=x;exact Heap.lt_size e
 | tup xs=>obtain ⟨_,_,_,p⟩:=x;exact p.lt
 | dK kvs=>obtain ⟨_,_,_,_,o,_,_,e,_⟩:=x;exact Heap.lt_size e
 | dT kvs=>obtain ⟨_,_,_,_,o,_,_,e,_⟩:=x;exact Heap.lt_size e
 | set S n=>obtain ⟨o,_,_,_,e,_⟩:=x;exact Heap.lt_size e
 | ins C dx fs=>obtain ⟨_,_,_,e,_⟩:=x;exact Heap.lt_size e
 | own y=>obtain ⟨_,e⟩:=x;exact Heap.lt_size e
 | xd fs=>obtain ⟨_,⟨_,_,_,e,_⟩,_⟩:=x;exact Heap.lt_size e
 | rng lo hi=>obtain ⟨_,_,_,e⟩:=x;exact Heap.lt_size e
 | frz ob u=>obtain ⟨e,_⟩:=x;exact Heap.lt_size e
 | tbl ps q=>obtain ⟨_,e,_⟩:=x;exact Heap.lt_size e
 | met f y=>exact Heap.lt_size (show h.get? a=some _ from x)
 | ext φ=>obtain ⟨_,⟨_,e⟩,_⟩:=x;exact Heap.lt_size e
theorem Paired.mapP {α β:Type}{F G:α->β->Prop}:∀ {l₁:List α} {l₂:List β},Paired F l₁ l₂->(∀ a b,F a b->G a b)->Paired G l₁ l₂
 | _,_,.nil,_=> .nil
 | _,_,.cons r t,f=> .cons (f _ _ r) (Paired.mapP t f)
theorem ObjOk.stay (x:ObjOk P w H h a o)(k:∀ b u,(b=a ∨ H b=some (.own a))->h.get? b=some u->h'.get? b=some u)
  (ho:∀ b,H b=some (.own a)->H' b=some (.own a)) (ht:∀ b xs,H b=some (.tup xs)->H' b=some (.tup xs)) (hz:∀ b o u,H b=some (.frz o u)->H' b=some (.frz o u)):ObjOk P w H' h' a o:=by
 induction o with
 | lst xs=>obtain ⟨z,its,n,r,e⟩:=x;exact ⟨z,its,n,r,k _ _ (.inl rfl) e⟩
 | tup xs=>obtain ⟨z,its,r,ob,e,c⟩:=x;exact ⟨z,its,r,ob,k _ _ (.inl rfl) e,c⟩
 | dK kvs=>obtain ⟨z,y,vs,r,ob,es,ep,e,c⟩:=x;exact ⟨z,y,vs,r,ob,es,ep,k _ _ (.inl rfl) e,c⟩
 | dT kvs =>
  obtain ⟨z,y,xs,r,ob,es,ep,e,c⟩:=x
  exact ⟨z,y,xs,Paired.mapP r fun p q z=>⟨z.1,ht _ _ z.2.1,z.2.2⟩,ob,es,ep,k _ _ (.inl rfl) e,c⟩
 | set S n=>obtain ⟨ob,es,ep,t,e,c⟩:=x;exact ⟨ob,es,ep,t,k _ _ (.inl rfl) e,c⟩
 | ins C dx fs =>
  obtain ⟨d,z,ne,e,mA,⟨od,es,ep,e2,c⟩,r⟩:=x
  exact ⟨ho _ d,z,ne,k _ _ (.inl rfl) e,mA,⟨od,es,ep,k _ _ (.inr d) e2,c⟩,r⟩
 | own y=>obtain ⟨ob,e⟩:=x;exact ⟨ob,k _ _ (.inl rfl) e⟩
 | xd fs=>obtain ⟨mA,⟨od,es,ep,e,c⟩,r⟩:=x;exact ⟨mA,⟨od,es,ep,k _ _ (.inl rfl) e,c⟩,r⟩
 | rng lo hi=>obtain ⟨t,u,v,e⟩:=x;exact ⟨t,u,v,k _ _ (.inl rfl) e⟩
 | frz ob u ih=>obtain ⟨e,q⟩:=x;exact ⟨k _ _ (.inl rfl) e,ih q⟩
 | tbl ps q =>
  obtain ⟨more,e,t,r⟩:=x
  refine ⟨more,k a _ (.inl rfl) e,t,fun p hp=>?_⟩
  rcases r p hp with z | ⟨c,o,vs,t,z,oc,e2⟩
  ·exact .inl z
  ·exact .inr ⟨c,o,vs,t,z,hz c o _ oc,e2⟩
 | met f y =>
  have e:h.get? a=some (PySem.W.methodObj (.ref f) (.ref y)):=x
  show h'.get? a=some (PySem.W.methodObj (.ref f) (.ref y))
  exact k a _ (.inl rfl) e
 | ext φ=>obtain ⟨p,⟨o,e⟩,st⟩:=x;exact ⟨st _ _ p fun o q=>k _ _ (.inl rfl) q,⟨o,k _ _ (.inl rfl) e⟩,st⟩
theorem HOk.lt (x:HOk P w H h)(e:H a=some o):a < h.objs.size:=(x a o e).lt
theorem HOk.fresh (x:HOk P w H h)(e:h.objs.size<=a):H a=none:=by
 cases q:H a with
 | none=>rfl
 | some u=>exact absurd (Nat.lt_of_lt_of_le (x.lt q) e) (Nat.lt_irrefl _)
theorem HOk.kept (x:HOk P w H h)(k:∀ b u,h.get? b=some u->h'.get? b=some u):HOk P w H h':=fun a o e =>
 (x a o e).stay (fun b u _ q=>k b u q) (fun _ q=>q) (fun _ _ q=>q) fun _ _ _ q=>q
theorem HOk.laid (x:HOk P w H h)(k:∀ b u,h.get? b=some u->h'.get? b=some u)(hp:h.objs.size<=a)(new:ObjOk P w (j7 H a o) h' a o):HOk P w (j7 H a o) h':=fun b u e=>by
 have hn:=x.fresh hp
 by_cases hb:b=a
 ·subst hb;rw [y4] at e;cases e;exact new
 ·rw [j3 hb] at e
  exact (x b u e).stay (fun c v _ q=>k c v q) (fun c q=>by rw [j3 (y7 q hn)];exact q) (fun c xs q=>by rw [j3 (y7 q hn)];exact q) fun c _ _ q=>by rw [j3 (y7 q hn)];exact q
end
def Rd (H:Hp)(a:Addr)(u:HO):Prop:=H a=some u ∨ ∃ o,H a=some (.frz o u)
theorem Rd.ok {P:Program}{w:World}{H:Hp}{h:Heap}{a:Addr}{u:HO}(r:Rd H a u)(x:HOk P w H h):ObjOk P w H h a u:=by
 rcases r with r | ⟨o,r⟩
 ·exact x a u r
 ·obtain ⟨_,q⟩:=x a _ r
  exact q
def Mut:Option HO->Prop
 | some (.lst _)=>True
 | some (.dK _)=>True
 | some (.dT _)=>True
 | some (.set _ _)=>True
 | some (.ins _ _ _)=>True
 | some (.ext _)=>True
 | _=>False
section
variable {P:Program}{w:World}{H:Hp}{h h':Heap}{x e:Addr}{o':HO}
theorem HOk.write (ok:HOk P w H h)(mu:Mut (H x))(he:e=x ∨ H e=some (.own x))(k:∀ b u,b ≠ e->h.get? b=some u->h'.get? b=some u)(heo:∃ u,h'.get? e=some u)
  (new:ObjOk P w (j7 H x o') h' x o'):HOk P w (j7 H x o') h':=fun b u q=>by
 have nown:∀ c y,H c=some (.own y)->c ≠ x:=fun c y r z=>by subst z;rw [r] at mu;exact mu
 have ntup:∀ c xs,H c=some (.tup xs)->c ≠ x:=fun c xs r z=>by subst z;rw [r] at mu;exact mu
 have nfrz:∀ c ob xs,H c=some (.frz ob xs)->c ≠ x:=fun c ob xs r z=>by subst z;rw [r] at mu;exact mu
 by_cases hb:b=x
 ·subst hb;rw [y4] at q;cases q;exact new
 ·rw [j3 hb] at q
  by_cases hbe:b=e
  ·have q':H b=some (.own x):=by
    rcases he with z | z
    ·exact absurd (hbe.trans z) hb
    ·rw [hbe];exact z
   rw [q] at q';cases q'
   obtain ⟨v,hv⟩:=heo
   exact ⟨v,by rw [hbe];exact hv⟩
  ·refine (ok b u q).stay (fun c v hc r=>k c v ?_ r) (fun c r=>by rw [j3 (nown c b r)];exact r) (fun c xs r=>by rw [j3 (ntup c xs r)];exact r) fun c ob xs r=>by rw [j3 (nfrz c ob xs r)];exact r
   rcases hc with rfl | hc
   ·exact hbe
   ·rintro rfl
    rcases he with z | z
    ·exact nown c b hc z
    ·rw [hc] at z;cases z;exact hb rfl
end
structure Un (fs ex:List Addr)(H H':Hp)(h h':Heap):Prop where
 keep:∀ b o,h.get? b=some o->H b=none->b ∉ fs->b ∉ ex->h'.get? b=some o
 slot:∀ b o,h.get? b=some o->H b=none->b ∈ fs->b ∉ ex->∃ sl,h'.get? b=some { o with slots:=sl }
 free:∀ b o,h.get? b=some o->H b=none->b ∉ ex->H' b=none
 there:∀ b o,h.get? b=some o->b ∉ ex->∃ o',h'.get? b=some o'
 tups:∀ b xs,H b=some (.tup xs)->H' b=some (.tup xs)
 frzs:∀ b o u,H b=some (.frz o u)->H' b=some (.frz o u)
 tbls:∀ b ps q,H b=some (.tbl ps q)->H' b=some (.tbl ps q)
section
variable {fs fs' ex ex':List Addr}{H H1 H2:Hp}{h h1 h2 h':Heap}{a x e:Addr}{o:HO}
theorem Un.any (u:Un fs ex H H1 h h1){b:Addr}{ob:Obj}(q:h.get? b=some ob)(n:H b=none)(hx:b ∉ ex):∃ sl,h1.get? b=some { ob with slots:=sl }:=by
 by_cases hb:b ∈ fs
 ·exact u.slot b ob q n hb hx
 ·exact ⟨ob.slots,u.keep b ob q n hb hx⟩
theorem Un.kept (k:∀ b u,h.get? b=some u->h'.get? b=some u):Un fs ex H H h h' :=
 ⟨fun b ob q _ _ _=>k b ob q,fun b ob q _ _ _=>⟨ob.slots,k b ob q⟩,fun _ _ _ n _=>n,fun b ob q _=>⟨ob,k b ob q⟩,fun _ _ q=>q,fun _ _ _ q=>q,fun _ _ _ q=>q⟩
theorem Un.refl:Un fs ex H H h h:=Un.kept fun _ _ q=>q
theorem Un.laid (k:∀ b u,h.get? b=some u->h'.get? b=some u)(hp:h.objs.size<=a)(hn:H a=none):Un fs ex H (j7 H a o) h h' where
 keep:=fun b u q _ _ _=>k b u q
 slot:=fun b u q _ _ _=>⟨u.slots,k b u q⟩
 free:=fun b u q n _=>by rw [j3 (Nat.ne_of_lt (Nat.lt_of_lt_of_le (Heap.lt_size q) hp))];exact n
 there:=fun b u q _=>⟨u,k b u q⟩
 tups:=fun b xs q=>by rw [j3 (y7 q hn)];exact q
 frzs:=fun b u xs q=>by rw [j3 (y7 q hn)];exact q
 tbls:=fun b ps z q=>by rw [j3 (y7 q hn)];exact q
theorem Un.write (mu:Mut (H x))(he:e=x ∨ H e=some (.own x))(k:∀ b u,b ≠ e->h.get? b=some u->h'.get? b=some u)(heo:∃ u,h'.get? e=some u):Un fs ex H (j7 H x o) h h':=by
 have hx:∀ b,H b=none->b ≠ x:=fun b n z=>by subst z;rw [n] at mu;exact mu
 have hb:∀ b,H b=none->b ≠ e:=fun b n z=>by
  subst z
  rcases he with r | r
  ·exact hx b n r
  ·rw [n] at r;cases r
 have hm:∀ b u,H b=some u->¬ Mut (some u)->b ≠ x:=fun b u q nm z=>by subst z;rw [q] at mu;exact nm mu
 refine ⟨fun b u q n _ _=>k b u (hb b n) q,fun b u q n _ _=>⟨u.slots,k b u (hb b n) q⟩,fun b u q n _=>by rw [j3 (hx b n)];exact n,fun b u q _=>?_,
  fun b xs q=>by rw [j3 (hm b _ q fun z=>z)];exact q,fun b u xs q=>by rw [j3 (hm b _ q fun z=>z)];exact q,fun b ps r q=>by rw [j3 (hm b _ q fun z=>z)];exact q⟩
 by_cases hbe:b=e
 ·subst hbe;exact heo
 ·exact ⟨u,k b u hbe q⟩
end
def trk (h:Heap)(H:Hp):List Addr:=(List.range h.objs.size).filter fun a=>(H a).isSome
def zZ (h:Heap)(H:Hp):Heap:=PySem.W.hideAll h (trk h H)
theorem Po (h:Heap)(H:Hp):(zZ h H).objs.size=h.objs.size:=PySem.W.hideAll_size _ _
theorem Pn {h:Heap}{H:Hp}{b:Addr}{o:Obj}(e:h.get? b=some o)(n:H b=none):(zZ h H).get? b=some o :=
 PySem.W.hideAll_get _ e fun hm=>by
  have q:(H b).isSome=true:=(List.mem_filter.mp hm).2
  rw [n] at q;simp at q
theorem CM {h:Heap}{H:Hp}{b:Addr}{o:Obj}(e:(zZ h H).get? b=some o):h.get? b=some o/\H b=none:=by
 have e':h.get? b=some o:=PySem.W.of_hideAll (trk h H) e
 refine ⟨e',?_⟩
 cases q:H b with
 | none=>rfl
 | some x =>
  have hm:b ∈ trk h H:=List.mem_filter.mpr ⟨List.mem_range.mpr (Heap.lt_size e'),by simp [q]⟩
  have z:(zZ h H).get? b=none:=PySem.W.hideAll_none (trk h H) hm
  rw [z] at e;cases e

end L2
namespace L2
open PySem PySem.Spec PyProof.Rows
structure Mod (K:Fg)(mg:Str->Option Value)(base:Heap):Prop where
 kin:K.In base
 glob:base.Ns mainGlobals mg
 blt:∃ mb,base.Ns builtinsNs mb/\∀ x:Str,x ≠ "__name__"->mb x=bootBuiltins x
 nolimit:base.NoLimit
 bmn:∃ bm ob,mg "__builtins__"=some (.ref bm)/\bm ≠ builtinsNs/\base.get? bm=some ob/\ob.cls = .type "module"/\ob.dict=some builtinsNs/\ob.data = .plain

structure Cx where
 prog:Program
 w:World
 K:Fg
 mg:Str->Option Value
 base:Heap
 A:Around
 N:List Str
 s₀:Shared
 H₀:Hp
 env:Env
 outer:List Env
 stack:List Env
 ex:List Addr
 fn:Str->Bool
 calm:Bool
 pn:List (Addr × Obj)
 xe:Value->Shared->Prop
def frs (l:List Env):List Addr:=l.filterMap (·.frame)
abbrev Cx.fs (X:Cx):List Addr:=frs X.outer

def Vis (sc:Scope)(x:Str):Prop:=sc.names.lookup x=some .local ∨ sc.names.lookup x=some .cell ∨ sc.names.lookup x=some .free
def Loc (sc:Scope)(x:Str):Prop:=sc.names.lookup x=some .local ∨ sc.names.lookup x=some .cell
def Look (env:Env)(h:Heap)(m:Str->Option Value)(x:Str)(u:Value):Prop :=
 (env.kindOf x=some .local/\m x=some u) ∨ ((env.kindOf x=some .cell ∨ env.kindOf x=some .free)/\∃ c,env.cells.lookup x=some c/\h.IsCell c (some u))

structure Cx.Ok (X:Cx):Prop where
 mod:Mod X.K X.mg X.base
 kind:X.env.scope.kind = .function
 glob:X.env.globals=mainGlobals
 blt:X.env.builtins=builtinsNs
 above:X.s₀.heap.objs.size<=X.env.locals
 inj:∀ x y c,X.env.cells.lookup x=some c->X.env.cells.lookup y=some c->x=y
 has:∀ x,(X.env.kindOf x=some .cell ∨ X.env.kindOf x=some .free)->∃ c,X.env.cells.lookup x=some c
 cab:∀ x c,X.fn x=true->X.env.cells.lookup x=some c->X.s₀.heap.objs.size<=c
 hd:X.calm=true->X.A.handled=none
 frames:X.A.frames=some X.stack
 stk:X.stack=X.outer ∨ (X.stack=X.env::X.outer/\X.env.frame=some X.env.locals)
 exf:∀ b ∈ X.ex,b ≠ X.env.locals/\∀ x c,X.env.cells.lookup x=some c->c ≠ b
 bs:∀ b o,X.base.get? b=some o->X.s₀.heap.get? b=some o/\X.H₀ b=none
 bsz:X.base.objs.size<=X.s₀.heap.objs.size
 noex:∀ b o,X.base.get? b=some o->b ∉ X.ex
 exfs:∀ b ∈ X.ex,b ∉ X.fs
 funs:X.s₀.heap.FunFrames X.base X.outer
 frf:∀ b ∈ X.fs,X.H₀ b=none
 tbs:∀ p ∈ TABS,X.H₀ p.1=some (.tbl p.2.1 p.2.2)

structure Inv (X:Cx)(pins:List (Addr × Obj))(σ:List (Option V))(H:Hp)(s:Shared):Prop where
 ok:X.Ok
 os:s.os=X.s₀.os
 bare:AllBare s.gens
 base:Un X.fs X.ex X.H₀ H X.s₀.heap s.heap
 loc:∃ m,s.heap.Ns X.env.locals m/\∀ (i:Nat) (x:Str) (v:V),X.N[i]?=some x->σ[i]?=some (some v)->Vis X.env.scope x->∃ u,RelV v u/\Look X.env s.heap m x u
 cell:∀ x c,X.env.cells.lookup x=some c->∃ v,s.heap.IsCell c v
 free:H X.env.locals=none
 freeC:∀ x c,X.env.cells.lookup x=some c->H c=none
 pin:∀ p ∈ X.pn++pins,s.heap.get? p.1=some p.2/\H p.1=none/\p.1 ≠ X.env.locals/\p.1 ∉ X.fs/\∀ v,p.2.data ≠ .cell v
 hok:HOk X.prog X.w H s.heap
 len:σ.length=X.N.length

section
variable {X:Cx}{pins:List (Addr × Obj)}{σ:List (Option V)}{H H':Hp}{s:Shared}{h':Heap}
theorem Cx.Ok.nofr (ok:X.Ok){b:Addr}{o:Obj}(e:X.base.get? b=some o):b ∉ X.fs:=fun hb=>by
 have:=(ok.funs.mem hb).1
 rw [e] at this;cases this
theorem Inv.bs (I:Inv X pins σ H s):∀ b o,X.base.get? b=some o->s.heap.get? b=some o/\H b=none:=fun b o e =>
 ⟨I.base.keep b o (I.ok.bs b o e).1 (I.ok.bs b o e).2 (I.ok.nofr e) (I.ok.noex b o e),I.base.free b o (I.ok.bs b o e).1 (I.ok.bs b o e).2 (I.ok.noex b o e)⟩
theorem Inv.bk (I:Inv X pins σ H s):∀ b o,X.base.get? b=some o->s.heap.get? b=some o:=fun b o e=>(I.bs b o e).1
theorem Inv.mod (I:Inv X pins σ H s):Mod X.K X.mg X.base:=I.ok.mod
theorem Inv.kIn (I:Inv X pins σ H s):X.K.In s.heap:=I.ok.mod.kin.keeps I.bk
theorem Inv.fr (I:Inv X pins σ H s):∃ m,Fr X.base X.env.locals s.heap m :=
 let ⟨m,hn,_⟩:=I.loc
 ⟨m,hn,I.bk,Nat.le_trans I.ok.bsz I.ok.above⟩
theorem Inv.lt (I:Inv X pins σ H s):X.env.locals < s.heap.objs.size:=let ⟨_,hn,_⟩:=I.loc;hn.lt
theorem Inv.sz (I:Inv X pins σ H s):X.s₀.heap.objs.size<=s.heap.objs.size:=Nat.le_trans I.ok.above (Nat.le_of_lt I.lt)
theorem Inv.nofs (I:Inv X pins σ H s){a:Addr}(h:s.heap.objs.size<=a):a ∉ X.fs:=fun hb=>by
 obtain ⟨_,o,ho,_⟩:=I.ok.funs.mem hb
 exact absurd (Nat.lt_of_lt_of_le (Heap.lt_size ho) (Nat.le_trans I.sz h)) (Nat.lt_irrefl _)
theorem Inv.cne (I:Inv X pins σ H s):∀ x c,X.env.cells.lookup x=some c->c ≠ X.env.locals:=fun x c e z=>by
 obtain ⟨v,o,ho,hd⟩:=I.cell x c e
 obtain ⟨m,⟨o',es,ep,ho',hd',_⟩,_⟩:=I.loc
 rw [z,ho'] at ho;cases ho;rw [hd'] at hd;cases hd
theorem Inv.funs (I:Inv X pins σ H s):s.heap.FunFrames X.base X.outer:=by
 have all:∀ (l:List Env),(∀ b ∈ frs l,b ∈ X.fs)->X.s₀.heap.FunFrames X.base l->s.heap.FunFrames X.base l:=by
  intro l
  induction l with
  | nil=>intro _ _;trivial
  | cons env r ih =>
   intro hs hl
   obtain ⟨hk,⟨L,o,hf,hn,ho,hd⟩,hr⟩:=hl
   have hL:L ∈ X.fs:=hs L (by unfold frs;rw [List.filterMap_cons,hf];exact List.mem_cons_self)
   obtain ⟨sl,e⟩:=I.base.slot L o ho (I.ok.frf L hL) hL fun z=>I.ok.exfs L z hL
   exact ⟨hk,⟨L,_,hf,hn,e,hd⟩,ih (fun b hb=>hs b (by unfold frs;rw [List.filterMap_cons,hf];exact List.mem_cons_of_mem _ hb)) hr⟩
 exact all X.outer (fun _ hb=>hb) I.ok.funs

theorem Inv.stack (I:Inv X pins σ H s):s.heap.FunFrames X.base X.stack:=by
 rcases I.ok.stk with e | ⟨e,hf⟩
 ·rw [e];exact I.funs
 ·rw [e]
  obtain ⟨m,hn,_⟩:=I.loc
  refine .cons (by rw [I.ok.kind];decide) hf hn ?_ I.funs
  exact Heap.get?_none_of_le (Nat.le_trans I.ok.bsz I.ok.above)
theorem Inv.stkSub (I:Inv X pins σ H s):∀ b ∈ frs X.stack,b ∈ X.env.locals::X.fs:=fun b hb=>by
 rcases I.ok.stk with e | ⟨e,hf⟩
 ·rw [e] at hb;exact List.mem_cons_of_mem _ hb
 ·rw [e] at hb
  unfold frs at hb
  rw [List.filterMap_cons,hf] at hb
  exact hb
theorem Inv.stkFree (I:Inv X pins σ H s):∀ b ∈ frs X.stack,H b=none:=fun b hb=>by
 rcases List.mem_cons.mp (I.stkSub b hb) with e | hb
 ·rw [e];exact I.free
 ·obtain ⟨_,o,ho,_⟩:=I.ok.funs.mem hb
  exact I.base.free b o ho (I.ok.frf b hb) fun z=>I.ok.exfs b z hb

theorem Inv.step {g':Array GenState}{t':Nat}{d':Drawn}{ch:List Addr}(I:Inv X pins σ H s)
  (hch:∀ b ∈ ch,(b ∈ X.ex ∨ X.s₀.heap.objs.size<=b)/\b ≠ X.env.locals/\(∀ x c,X.env.cells.lookup x=some c->c ≠ b)/\∀ p ∈ X.pn++pins,p.1 ≠ b)
  (keep:∀ b o,b ≠ X.env.locals->b ∉ X.fs->b ∉ ch->s.heap.get? b=some o->H b=none->h'.get? b=some o)
  (slot:∀ b o,b ≠ X.env.locals->b ∈ X.fs->b ∉ ch->s.heap.get? b=some o->H b=none->∃ sl,h'.get? b=some { o with slots:=sl }) (free:∀ b o,b ∉ ch->s.heap.get? b=some o->H b=none->H' b=none)
  (there:∀ b o,b ∉ ch->s.heap.get? b=some o->∃ o',h'.get? b=some o')
  (tups:∀ b xs,H b=some (.tup xs)->H' b=some (.tup xs)) (frzs:∀ b o u,H b=some (.frz o u)->H' b=some (.frz o u)) (tbls:∀ b ps q,H b=some (.tbl ps q)->H' b=some (.tbl ps q))
  (ns:∀ m,s.heap.Ns X.env.locals m->h'.Ns X.env.locals m) (hok:HOk X.prog X.w H' h') (hg:AllBare g') :
  Inv X pins σ H' { s with heap:=h',gens:=g',drawn:=d',toks:=t' }:=by
 have neL:∀ b o,X.s₀.heap.get? b=some o->b ≠ X.env.locals:=fun b o e=>Nat.ne_of_lt (Nat.lt_of_lt_of_le (Heap.lt_size e) I.ok.above)
 have neC:∀ b o,X.s₀.heap.get? b=some o->b ∉ X.ex->b ∉ ch:=fun b o e hx hb=>by
  rcases (hch b hb).1 with z | z
  ·exact hx z
  ·exact absurd (Nat.lt_of_lt_of_le (Heap.lt_size e) z) (Nat.lt_irrefl _)
 have cellK:∀ x c,X.env.cells.lookup x=some c->∀ v,s.heap.IsCell c v->h'.IsCell c v:=fun x c e v ⟨o,ho,hd⟩=>by
  have nch:c ∉ ch:=fun z=>(hch c z).2.2.1 x c e rfl
  by_cases hc:c ∈ X.fs
  ·obtain ⟨sl,q⟩:=slot c o (I.cne x c e) hc nch ho (I.freeC x c e)
   exact ⟨_,q,hd⟩
  ·exact ⟨o,keep c o (I.cne x c e) hc nch ho (I.freeC x c e),hd⟩
 refine ⟨I.ok,I.os,hg,⟨fun b o e n hb hx=>?_,fun b o e n hb hx=>?_,fun b o e n hx=>?_,fun b o e hx=>?_,fun b xs e=>tups b xs (I.base.tups b xs e),fun b o xs e=>frzs b o xs (I.base.frzs b o xs e),fun b ps q e=>tbls b ps q (I.base.tbls b ps q e)⟩,?_,fun x c e=>?_,?_,fun x c e=>?_,fun p hp=>?_,hok,I.len⟩
 ·exact keep b o (neL b o e) hb (neC b o e hx) (I.base.keep b o e n hb hx) (I.base.free b o e n hx)
 ·obtain ⟨sl,e1⟩:=I.base.slot b o e n hb hx
  obtain ⟨sl',e2⟩:=slot b _ (neL b o e) hb (neC b o e hx) e1 (I.base.free b o e n hx)
  exact ⟨sl',e2⟩
 ·obtain ⟨o',e1⟩:=I.base.there b o e hx
  exact free b o' (neC b o e hx) e1 (I.base.free b o e n hx)
 ·obtain ⟨o',e1⟩:=I.base.there b o e hx
  exact there b o' (neC b o e hx) e1
 ·obtain ⟨m,hn,hl⟩:=I.loc
  refine ⟨m,ns m hn,fun i x v e1 e2 e3=>?_⟩
  obtain ⟨u,r,l⟩:=hl i x v e1 e2 e3
  refine ⟨u,r,?_⟩
  rcases l with l | ⟨k,c,e,z⟩
  ·exact .inl l
  ·exact .inr ⟨k,c,e,cellK x c e _ z⟩
 ·obtain ⟨v,z⟩:=I.cell x c e
  exact ⟨v,cellK x c e v z⟩
 ·obtain ⟨m,⟨o,_,_,ho,_⟩,_⟩:=I.loc
  exact free _ o (fun z=>(hch _ z).2.1 rfl) ho I.free
 ·obtain ⟨v,o,ho,hd⟩:=I.cell x c e
  exact free c o (fun z=>(hch c z).2.2.1 x c e rfl) ho (I.freeC x c e)
 ·obtain ⟨e,n,ne,nf,d⟩:=I.pin p hp
  have nch:p.1 ∉ ch:=fun z=>(hch p.1 z).2.2.2 p hp rfl
  exact ⟨keep p.1 p.2 ne nf nch e n,free p.1 p.2 nch e n,ne,nf,d⟩
theorem Inv.un {t':Nat}(I:Inv X pins σ H s)(u:Un X.fs [] H H' s.heap h')(hok:HOk X.prog X.w H' h'):Inv X pins σ H' { s with heap:=h',toks:=t' }:=by
 obtain ⟨m,⟨o,es,ep,ho,r⟩,_⟩:=id I.loc
 obtain ⟨sl,hL⟩:=u.any ho I.free (by simp)
 exact I.step (g':=s.gens) (d':=s.drawn) (ch:=[]) (fun _ z=>nomatch z) (fun b o _ hb _ e n=>u.keep b o e n hb (by simp)) (fun b o _ hb _ e n=>u.slot b o e n hb (by simp)) (fun b o _ e n=>u.free b o e n (by simp)) (fun b o _ e=>u.there b o e (by simp)) u.tups u.frzs u.tbls (fun m' hm=>by
  obtain ⟨o',es',ep',ho',r'⟩:=hm
  rw [ho] at ho';cases ho'
  exact ⟨_,es',ep',hL,r'⟩) hok I.bare
theorem Inv.call {g':Array GenState}{t':Nat}{d':Drawn}{ch:List Addr}(I:Inv X pins σ H s)(u:Un (frs X.stack) ch H H' s.heap h')(hok:HOk X.prog X.w H' h')(hg:AllBare g')
  (hch:∀ b ∈ ch,(b ∈ X.ex ∨ X.s₀.heap.objs.size<=b)/\b ≠ X.env.locals/\(∀ x c,X.env.cells.lookup x=some c->c ≠ b)/\∀ p ∈ X.pn++pins,p.1 ≠ b) :
  Inv X pins σ H' { s with heap:=h',gens:=g',drawn:=d',toks:=t' }:=by
 obtain ⟨m,⟨o,es,ep,ho,r⟩,_⟩:=id I.loc
 obtain ⟨sl,hL⟩:=u.any ho I.free fun z=>(hch _ z).2.1 rfl
 exact I.step (ch:=ch) hch (fun b o hL hb hc e n=>u.keep b o e n (fun z=>(List.mem_cons.mp (I.stkSub b z)).elim hL hb) hc) (fun b o _ _ hc e n=>u.any e n hc) (fun b o hc e n=>u.free b o e n hc) (fun b o hc e=>u.there b o e hc) u.tups u.frzs u.tbls (fun m' hm=>by
  obtain ⟨o',es',ep',ho',r'⟩:=hm
  rw [ho] at ho';cases ho'
  exact ⟨_,es',ep',hL,r'⟩) hok hg
theorem Inv.turned {t':Nat}{it:Addr}(I:Inv X pins σ H s)(k:∀ b o,b ≠ it->s.heap.get? b=some o->h'.get? b=some o)(hn:H it=none)(hL:it ≠ X.env.locals)
  (h1:it ∈ X.ex ∨ X.s₀.heap.objs.size<=it) (h2:∀ x c,X.env.cells.lookup x=some c->c ≠ it) (h3:∀ p ∈ X.pn++pins,p.1 ≠ it):Inv X pins σ H { s with heap:=h',toks:=t' }:=by
 have nit:∀ b u,H b=some u->b ≠ it:=fun b u e z=>by rw [z,hn] at e;cases e
 refine I.step (g':=s.gens) (d':=s.drawn) (ch:=[it]) (fun b hb=>?_) (fun b o _ _ hc e _=>k b o (fun z=>hc (by simp [z])) e) (fun b o _ _ hc e _=>⟨o.slots,k b o (fun z=>hc (by simp [z])) e⟩) (fun _ _ _ _ n=>n)
  (fun b o hc e=>⟨o,k b o (fun z=>hc (by simp [z])) e⟩) (fun _ _ e=>e) (fun _ _ _ e=>e) (fun _ _ _ e=>e) (fun m hm=>?_) (fun b u e=>?_) I.bare
 ·have e:b=it:=by simpa using hb
  subst e
  exact ⟨h1,hL,h2,h3⟩
 ·obtain ⟨o,es,ep,ho,r⟩:=hm
  exact ⟨o,es,ep,k _ o (Ne.symm hL) ho,r⟩
 ·refine (I.hok b u e).stay (fun c v hc q=>k c v ?_ q) (fun _ q=>q) (fun _ _ q=>q) fun _ _ _ q=>q
  rcases hc with z | z
  ·rw [z];exact nit b u e
  ·exact nit c _ z
theorem Inv.tok (I:Inv X pins σ H s)(t:Nat):Inv X pins σ H { s with toks:=t }:=I.un (h':=s.heap) (t':=t) Un.refl I.hok
theorem Inv.kept {t':Nat}(I:Inv X pins σ H s)(k:∀ b u,s.heap.get? b=some u->h'.get? b=some u):Inv X pins σ H { s with heap:=h',toks:=t' }:=I.un (Un.kept k) (I.hok.kept k)
theorem Inv.laid {a:Addr}{o:HO}{t':Nat}(I:Inv X pins σ H s)(k:∀ b u,s.heap.get? b=some u->h'.get? b=some u)(hp:s.heap.objs.size<=a)(new:ObjOk X.prog X.w (j7 H a o) h' a o) :
  Inv X pins σ (j7 H a o) { s with heap:=h',toks:=t' }:=I.un (Un.laid k hp (I.hok.fresh hp)) (I.hok.laid k hp new)
theorem Inv.write {x e:Addr}{o:HO}{t':Nat}(I:Inv X pins σ H s)(mu:Mut (H x))(he:e=x ∨ H e=some (.own x))(k:∀ b u,b ≠ e->s.heap.get? b=some u->h'.get? b=some u)(heo:∃ u,h'.get? e=some u)
  (new:ObjOk X.prog X.w (j7 H x o) h' x o):Inv X pins σ (j7 H x o) { s with heap:=h',toks:=t' }:=I.un (Un.write mu he k heo) (I.hok.write mu he k heo new)
theorem Inv.weak {σ':List (Option V)}(I:Inv X pins σ H s)(hl:σ'.length=σ.length)(w:∀ (i:Nat) v,σ'[i]?=some (some v)->σ[i]?=some (some v)):Inv X pins σ' H s :=
 ⟨I.ok,I.os,I.bare,I.base,let ⟨m,hn,hl'⟩:=I.loc;⟨m,hn,fun i x v e1 e2 e3=>hl' i x v e1 (w i v e2) e3⟩,I.cell,I.free,I.freeC,I.pin,I.hok,hl.trans I.len⟩
theorem Inv.pins_of {pins':List (Addr × Obj)}(I:Inv X pins σ H s)(h:∀ p ∈ pins',s.heap.get? p.1=some p.2/\H p.1=none/\p.1 ≠ X.env.locals/\p.1 ∉ X.fs/\∀ v,p.2.data ≠ .cell v):Inv X pins' σ H s :=
 ⟨I.ok,I.os,I.bare,I.base,I.loc,I.cell,I.free,I.freeC,fun p hp=>(List.mem_append.mp hp).elim (fun z=>I.pin p (List.mem_append_left _ z)) (h p),I.hok,I.len⟩

theorem UG {N:List Str}(hN:N.Nodup){i j:Nat}{x:Str}(a:N[i]?=some x)(b:N[j]?=some x):i=j:=by
 obtain ⟨h1,e1⟩:=List.getElem?_eq_some_iff.mp a
 obtain ⟨h2,e2⟩:=List.getElem?_eq_some_iff.mp b
 exact (List.getElem_inj hN).mp (e1.trans e2.symm)

theorem GW {M:Model}{A:Around}{E:Value->Shared->Prop}{i:Nat}{x:Str}{v:V}{u:Value}{Q:Unit->Shared->Prop}(I:Inv X pins σ H s)(hN:X.N.Nodup)(hi:X.N[i]?=some x)(hx:Loc X.env.scope x)(r:RelV v u)
  (h:∀ s',Inv X pins (σ.set i (some v)) H s'->(∃ a,Heap.SameBut a s.heap s'.heap/\(a=X.env.locals ∨ X.env.cells.lookup x=some a))->Q () s') (hf:X.fn x=true ∨ X.env.scope.names.lookup x=some .local:=by first | exact .inl rfl | exact .inr rfl | assumption):wpAny M A (storeName X.env x u) Q E s:=by
 obtain ⟨m,hn,hl⟩:=id I.loc
 have hcls:(X.env.scope.kind == .class || (X.env.scope.kind == .module && X.env.locals != X.env.globals))=false:=by rw [I.ok.kind];rfl
 have hiσ:i < σ.length:=by rw [I.len];exact (List.getElem?_eq_some_iff.mp hi).1
 have cne:=I.cne
 have tracked:∀ {a:Addr} {h':Heap},(∃ o,s.heap.get? a=some o/\H a=none)->Heap.SameBut a s.heap h'->HOk X.prog X.w H h':=fun {a h'} ha hs b ob e=>by
  obtain ⟨_,_,hfree⟩:=ha
  refine (I.hok b ob e).stay (fun c w' hc q=>(hs.2 c ?_).trans q) (fun _ q=>q) (fun _ _ q=>q) fun _ _ _ q=>q
  rintro rfl
  rcases hc with rfl | hc
  ·rw [hfree] at e;cases e
  ·rw [hfree] at hc;cases hc
 rcases hx with hk | hk
 ·refine wpAny_storeName_local hk hn (fun h' hn' hs=>?_) hcls
  obtain ⟨oL,_,_,hoL,_⟩:=id hn
  refine h _ ⟨I.ok,I.os,I.bare,⟨fun b o e n hb hx=>?_,fun b o e n hb hx=>?_,I.base.free,fun b o e hx=>?_,I.base.tups,I.base.frzs,I.base.tbls⟩,⟨_,hn',fun j y v' e1 e2 e3=>?_⟩,fun y c e=>?_,I.free,I.freeC,fun p hp=>?_,tracked ⟨oL,hoL,I.free⟩ hs,by simpa using I.len⟩ ⟨_,hs,.inl rfl⟩
  ·exact (hs.2 b (Nat.ne_of_lt (Nat.lt_of_lt_of_le (Heap.lt_size e) I.ok.above))).trans (I.base.keep b o e n hb hx)
  ·obtain ⟨sl,e1⟩:=I.base.slot b o e n hb hx
   exact ⟨sl,(hs.2 b (Nat.ne_of_lt (Nat.lt_of_lt_of_le (Heap.lt_size e) I.ok.above))).trans e1⟩
  ·obtain ⟨o',e1⟩:=I.base.there b o e hx
   exact ⟨o',(hs.2 b (Nat.ne_of_lt (Nat.lt_of_lt_of_le (Heap.lt_size e) I.ok.above))).trans e1⟩
  ·by_cases hj:j=i
   ·subst hj
    rw [hi] at e1;cases e1
    rw [List.getElem?_set_self hiσ] at e2
    cases e2
    exact ⟨u,r,.inl ⟨hk,by simp⟩⟩
   ·rw [List.getElem?_set_ne (Ne.symm hj)] at e2
    obtain ⟨u',r',q⟩:=hl j y v' e1 e2 e3
    refine ⟨u',r',?_⟩
    rcases q with ⟨k,e⟩ | ⟨k,c,e,z⟩
    ·refine .inl ⟨k,?_⟩
     have:y ≠ x:=fun e=>hj (UG hN e1 (e ▸ hi))
     simp [this,e]
    ·exact .inr ⟨k,c,e,z.sameBut hs (cne y c e)⟩
  ·obtain ⟨w',z⟩:=I.cell y c e
   exact ⟨w',z.sameBut hs (cne y c e)⟩
  ·obtain ⟨e,n,ne,nf,d⟩:=I.pin p hp
   exact ⟨(hs.2 p.1 ne).trans e,n,ne,nf,d⟩
 ·have hfn:X.fn x=true:=by
   rcases hf with z | z
   ·exact z
   ·rw [z] at hk;cases hk
  obtain ⟨c,hc⟩:=I.ok.has x (.inl hk)
  obtain ⟨w',z⟩:=I.cell x c hc
  refine wpAny_storeName_cell I.ok.kind hk hc z (fun h' hc' hs=>?_)
  obtain ⟨oc,hoc,hocd⟩:=id z
  refine h { s with heap:=h' } ⟨I.ok,I.os,I.bare,⟨fun b o e n hb hx=>?_,fun b o e n hb hx=>?_,I.base.free,fun b o e hx=>?_,I.base.tups,I.base.frzs,I.base.tbls⟩,⟨m,hn.sameBut hs (Ne.symm (cne x c hc)),fun j y v' e1 e2 e3=>?_⟩,fun y c' e=>?_,I.free,I.freeC,fun p hp=>?_,tracked ⟨oc,hoc,I.freeC x c hc⟩ hs,by simpa using I.len⟩ ⟨c,hs,.inr hc⟩
  ·exact (hs.2 b (Nat.ne_of_lt (Nat.lt_of_lt_of_le (Heap.lt_size e) (I.ok.cab x c hfn hc)))).trans (I.base.keep b o e n hb hx)
  ·obtain ⟨sl,e1⟩:=I.base.slot b o e n hb hx
   exact ⟨sl,(hs.2 b (Nat.ne_of_lt (Nat.lt_of_lt_of_le (Heap.lt_size e) (I.ok.cab x c hfn hc)))).trans e1⟩
  ·obtain ⟨o',e1⟩:=I.base.there b o e hx
   exact ⟨o',(hs.2 b (Nat.ne_of_lt (Nat.lt_of_lt_of_le (Heap.lt_size e) (I.ok.cab x c hfn hc)))).trans e1⟩
  ·by_cases hj:j=i
   ·subst hj
    rw [hi] at e1;cases e1
    rw [List.getElem?_set_self hiσ] at e2
    cases e2
    exact ⟨u,r,.inr ⟨.inl hk,c,hc,hc'⟩⟩
   ·rw [List.getElem?_set_ne (Ne.symm hj)] at e2
    obtain ⟨u',r',q⟩:=hl j y v' e1 e2 e3
    refine ⟨u',r',?_⟩
    rcases q with q | ⟨k,c',e,z'⟩
    ·exact .inl q
    ·refine .inr ⟨k,c',e,z'.sameBut hs ?_⟩
     rintro rfl
     exact hj (UG hN e1 (I.ok.inj _ _ _ e hc ▸ hi))
  ·by_cases hcc:c'=c
   ·subst hcc;exact ⟨_,hc'⟩
   ·obtain ⟨w2,z2⟩:=I.cell y c' e
    exact ⟨w2,z2.sameBut hs hcc⟩
  ·obtain ⟨e,n,ne,nf,d⟩:=I.pin p hp
   refine ⟨(hs.2 p.1 ?_).trans e,n,ne,nf,d⟩
   intro q
   rw [q,hoc] at e
   have q':oc=p.2:=Option.some.inj e
   exact d w' (by rw [<- q'];exact hocd)
theorem VA {M:Model}{A:Around}{E:Value->Shared->Prop}{i:Nat}{x:Str}{v:V}{u:Value}{Q:Unit->Shared->Prop}(I:Inv X pins σ H s)(hN:X.N.Nodup)(hi:X.N[i]?=some x)(hx:Loc X.env.scope x)(r:RelV v u)
  (h:∀ s',Inv X pins (σ.set i (some v)) H s'->Q () s') (hf:X.fn x=true ∨ X.env.scope.names.lookup x=some .local:=by first | exact .inl rfl | exact .inr rfl | assumption):wpAny M A (storeName X.env x u) Q E s :=
 GW I hN hi hx r (fun s' I' _=>h s' I') hf
theorem Inv.call' {s':Shared}{ch:List Addr}(I:Inv X pins σ H s)(ho:s'.os=s.os)(u:Un (frs X.stack) ch H H' s.heap s'.heap)(hok:HOk X.prog X.w H' s'.heap)(hg:AllBare s'.gens)
  (hch:∀ b ∈ ch,(b ∈ X.ex ∨ X.s₀.heap.objs.size<=b)/\b ≠ X.env.locals/\(∀ x c,X.env.cells.lookup x=some c->c ≠ b)/\∀ p ∈ X.pn++pins,p.1 ≠ b):Inv X pins σ H' s':=by
 obtain ⟨h',g',d',t',o'⟩:=s'
 have e:o'=s.os:=ho
 subst e
 exact I.call (g':=g') (t':=t') (d':=d') u hok hg hch
end
abbrev XK:=Value->Option Addr->Hp->Prop
abbrev St:=List (Option V)
abbrev VK:=V->Hp->Prop
abbrev TE:=St->Hp->VK->Prop
abbrev TT:=St->Hp->(Bool->Hp->Prop)->Prop
abbrev TA:=St->Hp->(List V->Hp->Prop)->Prop
structure xV where
 nx:St->Hp->Prop
 rt:VK
 bk:St->Hp->Prop:=fun _ _=>False
 ct:St->Hp->Prop:=fun _ _=>False
abbrev TS:=xV->St->Hp->Prop

def EP (X:Cx)(pins:List (Addr × Obj))(σ:St)(Q:VK)(u:Value)(s':Shared):Prop:=∃ v H',Inv X pins σ H' s'/\RelV v u/\Q v H'
def TP (X:Cx)(pins:List (Addr × Obj))(σ:St)(Q:Bool->Hp->Prop)(b:Bool)(s':Shared):Prop:=∃ H',Inv X pins σ H' s'/\Q b H'
def AP (X:Cx)(pins:List (Addr × Obj))(σ:St)(Q:List V->Hp->Prop)(us:List Value)(s':Shared):Prop:=∃ vs H',Inv X pins σ H' s'/\Vals vs us/\Q vs H'
def SP (X:Cx)(pins:List (Addr × Obj))(D:xV)(f:Flow)(s':Shared):Prop :=
 match f with
 | .next=>∃ σ' H',Inv X pins σ' H' s'/\D.nx σ' H'
 | .brk=>∃ σ' H',Inv X pins σ' H' s'/\D.bk σ' H'
 | .cont=>∃ σ' H',Inv X pins σ' H' s'/\D.ct σ' H'
 | .ret u=>∃ v σ' H',Inv X pins σ' H' s'/\RelV v u/\D.rt v H'

def PE (X:Cx)(e:Expr)(t:TE):Prop :=
 ∀ (pins:List (Addr × Obj)) (s:Shared) (σ:St) (H:Hp) (Q:VK),Inv X pins σ H s->t σ H Q->wpAny (model X.prog X.w) X.A (eval e X.env) (EP X pins σ Q) X.xe s
def PT (X:Cx)(e:Expr)(t:TT):Prop :=
 ∀ (pins:List (Addr × Obj)) (s:Shared) (σ:St) (H:Hp) (Q:Bool->Hp->Prop),Inv X pins σ H s->t σ H Q->wpAny (model X.prog X.w) X.A (isTrue e X.env (eval e X.env)) (TP X pins σ Q) X.xe s
def PW (X:Cx)(e:Expr)(t:TT):Prop :=
 ∀ (whole:Sem Value) (pins:List (Addr × Obj)) (s:Shared) (σ:St) (H:Hp) (Q:Bool->Hp->Prop),Inv X pins σ H s->t σ H Q->wpAny (model X.prog X.w) X.A (isTrue e X.env whole) (TP X pins σ Q) X.xe s
theorem PW.pt {X:Cx}{e:Expr}{t:TT}(h:PW X e t):PT X e t:=h _
def PA (X:Cx)(es:List Expr)(t:TA):Prop :=
 ∀ (pos:Pos) (pins:List (Addr × Obj)) (s:Shared) (σ:St) (H:Hp) (Q:List V->Hp->Prop),Inv X pins σ H s->t σ H Q->wpAny (model X.prog X.w) X.A (spliced (backTo pos (starEach es X.env))) (AP X pins σ Q) X.xe s
def PS (X:Cx)(st:Stmt)(t:TS):Prop :=
 ∀ (pins:List (Addr × Obj)) (s:Shared) (σ:St) (H:Hp) (D:xV),Inv X pins σ H s->t D σ H->wpAny (model X.prog X.w) X.A (exec st X.env) (SP X pins D) X.xe s
def PSs (X:Cx)(st:List Stmt)(t:TS):Prop :=
 ∀ (pins:List (Addr × Obj)) (s:Shared) (σ:St) (H:Hp) (D:xV),Inv X pins σ H s->t D σ H->wpAny (model X.prog X.w) X.A (execs st X.env) (SP X pins D) X.xe s
theorem z8 {α:Type}{t:Sem α}{Q Q':α->Shared->Prop}{M:Model}{A:Around}{E:Value->Shared->Prop}{s:Shared}(h:wpAny M A t Q E s)(hQ:∀ a s,Q a s->Q' a s):wpAny M A t Q' E s:=wpAny_mono h hQ fun _ _ x=>x
end L2
namespace L2
open PySem PySem.Spec PyProof.Rows
section
variable {X:Cx}
theorem bin {a b:Expr}{ta tb:TE}(ha:PE X a ta)(hb:PE X b tb){pins:List (Addr × Obj)}{s:Shared}{σ:St}{H:Hp}{R:V->V->Hp->Prop}(I:Inv X pins σ H s)(h:ta σ H fun x H1=>tb σ H1 fun y H2=>R x y H2)
  {α:Type} {Q:α->Shared->Prop} {f:Value->Value->Sem α}
  (hf:∀ v u s2 x y H2,Inv X pins σ H2 s2->RelV x v->RelV y u->R x y H2->wpAny (model X.prog X.w) X.A (f v u) Q X.xe s2) :
  wpAny (model X.prog X.w) X.A (eval a X.env) (fun v s₁=>wpAny (model X.prog X.w) X.A (eval b X.env) (fun u s₂=>wpAny (model X.prog X.w) X.A (f v u) Q X.xe s₂) X.xe s₁) X.xe s:=by
 refine z8 (ha pins s σ H _ I h) fun v s1 ⟨x,H1,I1,r1,q1⟩=>?_
 refine z8 (hb pins s1 σ H1 _ I1 q1) fun u s2 ⟨y,H2,I2,r2,q2⟩=>?_
 exact hf v u s2 x y H2 I2 r1 r2 q2

def qW (i:Nat):TE:=fun σ H Q=>∃ v,σ[i]?=some (some v)/\Q v H
def tC (v:V):TE:=fun _ H Q=>Q v H
theorem Ml {i:Nat}{x:Str}{pos:Pos}(hN:X.N[i]?=some x)(hv:Vis X.env.scope x)(hd:(x == ("__debug__":Str))=false:=by decide) (hcd:(x == ("__classdict__":Str))=false:=by decide):PE X (.Name x pos) (qW i):=by
 intro pins s σ H Q I h
 obtain ⟨v,e,h⟩:=h
 obtain ⟨m,hn,hl⟩:=I.loc
 obtain ⟨u,r,l⟩:=hl i x v hN e hv
 have fin:EP X pins σ Q u s:=⟨v,H,I,r,h⟩
 rcases l with ⟨hk,hm⟩ | ⟨hk,c,hc,hcell⟩
 ·exact wpAny_Name (wpAny_loadName_local I.ok.kind hk hn hm fin) hd
 ·rcases hk with hk | hk
  ·exact wpAny_Name (wpAny_loadName_cell I.ok.kind hk hc hcell fin) hd
  ·exact wpAny_Name (wpAny_loadName_free I.ok.kind hk hc hcell fin hcd) hd
theorem z6 {i j pos}:PE X (.Constant (.int i) j pos) (tC (.int i)):=fun _ _ _ H _ I h=>wpAny_Constant_int ⟨.int i,H,I.tok _,⟨_,rfl⟩,h⟩
theorem za {b j pos}:PE X (.Constant (.bool b) j pos) (tC (.bl b)):=fun _ _ _ H _ I h=>Constant_bool ⟨.bl b,H,I,rfl,h⟩
theorem vn {j pos}:PE X (.Constant .none j pos) (tC .non):=fun _ _ _ H _ I h=>Constant_none ⟨.non,H,I,rfl,h⟩
theorem xK {x j pos}:PE X (.Constant (.str x) j pos) (tC (.str x)):=fun _ _ _ H _ I h=>Calls.Constant_str ⟨.str x,H,I.tok _,⟨_,rfl⟩,h⟩

def Gl (X:Cx)(x:Str):Prop:=X.env.kindOf x=some .globalImplicit
theorem JQ {E:Value->Shared->Prop}{pins:List (Addr × Obj)}{s:Shared}{σ:St}{H:Hp}{x:Str}{u:Value}{pos:Pos}{Q:Value->Shared->Prop}(I:Inv X pins σ H s)(hg:Gl X x)(hm:X.mg x=some u)(h:Q u s)
  (hd:(x == ("__debug__":Str))=false:=by decide):wpAny (model X.prog X.w) X.A (eval (.Name x pos) X.env) Q E s :=
 Calls.Name_function_global I.ok.kind hg (Calls.loadGlobal_global (by rw [I.ok.glob];exact I.mod.glob.keeps I.bk) hm h) hd
theorem jz {E:Value->Shared->Prop}{pins:List (Addr × Obj)}{s:Shared}{σ:St}{H:Hp}{x:Str}{u:Value}{pos:Pos}{Q:Value->Shared->Prop}(I:Inv X pins σ H s)(hg:Gl X x)(hm:X.mg x=none)(hv:bootBuiltins x=some u)(h:Q u s)
  (hn:x ≠ "__name__":=by decide) (hd:(x == ("__debug__":Str))=false:=by decide):wpAny (model X.prog X.w) X.A (eval (.Name x pos) X.env) Q E s:=by
 obtain ⟨mb,h1,h2⟩:=I.mod.blt
 exact Calls.Name_function_global I.ok.kind hg (Calls.loadGlobal_builtin (by rw [I.ok.glob];exact I.mod.glob.keeps I.bk) hm (by rw [I.ok.blt];exact h1.keeps I.bk) ((h2 x hn).trans hv) h) hd
theorem XX {x:Str}{v:V}{u:Value}{pos:Pos}(hg:Gl X x)(hm:X.mg x=some u)(r:RelV v u)(hd:(x == ("__debug__":Str))=false:=by decide):PE X (.Name x pos) (tC v) :=
 fun _ _ _ H _ I h=>JQ I hg hm ⟨v,H,I,r,h⟩ hd
theorem jC {x:Str}{v:V}{u:Value}{pos:Pos}(hg:Gl X x)(hm:X.mg x=none)(hv:bootBuiltins x=some u)(r:RelV v u)(hn:x ≠ "__name__":=by decide) (hd:(x == ("__debug__":Str))=false:=by decide):PE X (.Name x pos) (tC v) :=
 fun _ _ _ H _ I h=>jz I hg hm hv ⟨v,H,I,r,h⟩ hn hd

variable {a b:Expr}{ta tb:TE}{pos:Pos}
def PC (X:Cx)(op:CmpOp)(a b:Expr)(t:TE):Prop :=
 ∀ (pins:List (Addr × Obj)) (s:Shared) (σ:St) (H:Hp) (Q:VK),Inv X pins σ H s->t σ H Q ->
  wpAny (model X.prog X.w) X.A (eval a X.env) (fun v s₁=>wpAny (model X.prog X.w) X.A (eval b X.env) (fun u s₂=>wpAny (model X.prog X.w) X.A (compareOp op v u) (EP X pins σ Q) X.xe s₂) X.xe s₁) X.xe s
def tB (t:TE):TT:=fun σ H Q=>t σ H fun x H1=>∃ c,x = .bl c/\Q c H1
theorem MI {op:CmpOp}{t:TE}(h:PC X op a b t)(h1:behindInMarks op b=false:=by first | exact nobehind _ (by decide) (by decide) | rfl):PT X (.Compare a [op] [b] pos) (tB t):=by
 intro pins s σ H Q I hw
 refine wpAny_isTrue_Compare1 (z8 (h pins s σ H _ I hw) fun v s1 h1=>z8 h1 fun u s2 h2=>z8 h2 fun c s3 ⟨x,H1,I1,r1,q1⟩=>?_) h1
 obtain ⟨d,rfl,q⟩:=q1
 cases r1
 exact wpAny_truthy_bool ⟨H1,I1,q⟩
variable {tA tB':TT}{rest:List Expr}
def tAnd (t u:TT):TT:=fun σ H Q=>t σ H fun c H1=>if c=true then u σ H1 Q else Q false H1
def tOr (t u:TT):TT:=fun σ H Q=>t σ H fun c H1=>if c=true then Q true H1 else u σ H1 Q
def tNot (t:TT):TT:=fun σ H Q=>t σ H fun c H1=>Q (!c) H1
theorem QK (ha:PT X a tA):PW X (.BoolOp .And [a] pos) tA:=by
 intro wh pins s σ H Q I h
 refine isTrue_and (z8 (ha pins s σ H Q I h) fun c s1 e=>?_)
 cases c with
 | true=>exact isTrue_and_nil e
 | false=>exact e
theorem QL (ha:PT X a tA):PW X (.BoolOp .Or [a] pos) tA:=by
 intro wh pins s σ H Q I h
 refine isTrue_or (z8 (ha pins s σ H Q I h) fun c s1 e=>?_)
 cases c with
 | false=>exact isTrue_or_nil e
 | true=>exact e
theorem QJ (ha:PT X a tA)(hb:PW X (.BoolOp .And (b::rest) pos) tB'):PW X (.BoolOp .And (a::b::rest) pos) (tAnd tA tB'):=by
 intro wh pins s σ H Q I h
 refine isTrue_and (z8 (ha pins s σ H _ I h) fun c s1 ⟨H1,I1,q1⟩=>?_)
 cases c with
 | true=>exact hb wh pins s1 σ H1 Q I1 q1
 | false=>exact ⟨H1,I1,q1⟩
theorem wG (ha:PT X a tA)(hb:PW X (.BoolOp .Or (b::rest) pos) tB'):PW X (.BoolOp .Or (a::b::rest) pos) (tOr tA tB'):=by
 intro wh pins s σ H Q I h
 refine isTrue_or (z8 (ha pins s σ H _ I h) fun c s1 ⟨H1,I1,q1⟩=>?_)
 cases c with
 | true=>exact ⟨H1,I1,q1⟩
 | false=>exact hb wh pins s1 σ H1 Q I1 q1
theorem xA (ha:PT X a tA):PT X (.UnaryOp .Not a pos) (tNot tA):=by
 intro pins s σ H Q I h
 exact isTrue_not (ha pins s σ H (fun c H1=>Q (!c) H1) I h)
def GY (ta tb:TE):TE:=fun σ H Q=>ta σ H fun x H1=>∃ c,x = .bl c/\if c=true then tb σ H1 Q else Q (.bl false) H1
def Ke (ta:TE):TE:=fun σ H Q=>ta σ H fun x H1=>∃ c,x = .bl c/\Q (.bl (!c)) H1
theorem wC {op}{t:TE}(h:PE X a t):PE X (.BoolOp op [a] pos) t:=fun pins s σ H Q I hw=>BoolOp_one (h pins s σ H Q I hw)
theorem vk (ha:PE X a ta)(hb:PE X (.BoolOp .And (b::rest) pos) tb):PE X (.BoolOp .And (a::b::rest) pos) (GY ta tb):=by
 intro pins s σ H Q I h
 refine BoolOp_and (z8 (ha pins s σ H _ I h) fun v s1 ⟨x,H1,I1,r1,q1⟩=>?_)
 obtain ⟨c,rfl,q1⟩:=q1
 cases r1
 refine wpAny_truthy_bool ?_
 cases c with
 | true=>exact hb pins s1 σ H1 Q I1 q1
 | false=>exact ⟨.bl false,H1,I1,rfl,q1⟩
theorem Mh (ha:PE X a ta):PE X (.UnaryOp .Not a pos) (Ke ta):=by
 intro pins s σ H Q I h
 refine UnaryOp_ (z8 (ha pins s σ H _ I h) fun v s1 ⟨x,H1,I1,r1,q1⟩=>?_)
 obtain ⟨c,rfl,q1⟩:=q1
 cases r1
 exact not_of (wpAny_truthy_bool ⟨.bl (!c),H1,I1,rfl,q1⟩)
def tIf (t:TT)(ta tb:TE):TE:=fun σ H Q=>t σ H fun c H1=>if c=true then ta σ H1 Q else tb σ H1 Q
theorem UP {c:Expr}(hc:PT X c tA)(ha:PE X a ta)(hb:PE X b tb):PE X (.IfExp c a b pos) (tIf tA ta tb):=by
 intro pins s σ H Q I h
 refine wpAny_IfExp (z8 (hc pins s σ H _ I h) fun d s1 ⟨H1,I1,q1⟩=>?_)
 cases d with
 | true=>exact ha pins s1 σ H1 Q I1 q1
 | false=>exact hb pins s1 σ H1 Q I1 q1
end
end L2
namespace L2
open PySem PySem.Spec PyProof.Rows
def SqL (K:Fg)(H:Hp)(a:Addr)(xs:List V):Prop :=
 Rd H a (.lst xs) ∨
  ∃ (o:Obj) (its:Array Value) (n:Nat),K.lookup a=some o/\o.cls = .type "list"/\o.dict=none/\o.data = .seq its n/\its.size<=sizeLine/\Vals xs its.toList
def SqT (K:Fg)(H:Hp)(a:Addr)(xs:List V):Prop :=
 Rd H a (.tup xs) ∨
  ∃ (o:Obj) (its:Array Value) (n:Nat),K.lookup a=some o/\o.cls = .type "tuple"/\o.data = .seq its n/\its.size<=sizeLine/\Vals xs its.toList
def absV:Value->Option V
 | .none=>some .non
 | .bool b=>some (.bl b)
 | .int i _=>some (.int i)
 | .str x _=>some (.str x)
 | .bytes b _=>some (.byt b)
 | .float b _=>some (.flt b)
 | .ref a=>some (.ref a)
 | .type n=>some (.ty n)
 | _=>none
theorem RelV.abs {x:V}{u:Value}(r:RelV x u):absV u=some x:=by
 cases x with
 | non=>cases r;rfl
 | bl _=>cases r;rfl
 | int _=>obtain ⟨t,rfl⟩:=r;rfl
 | str _=>obtain ⟨t,rfl⟩:=r;rfl
 | byt _=>obtain ⟨t,rfl⟩:=r;rfl
 | flt _=>obtain ⟨t,rfl⟩:=r;rfl
 | ref _=>cases r;rfl
 | ty _=>cases r;rfl
theorem RelV.inj {x y:V}{u:Value}(r:RelV x u)(q:RelV y u):x=y:=Option.some.inj (r.abs.symm.trans q.abs)
theorem Vals.inj:∀ {xs ys:List V} {us:List Value},Vals xs us->Vals ys us->xs=ys
 | _,_,_,.nil,.nil=>rfl
 | _,_,_,.cons r t,.cons r' t'=>by rw [r.inj r',Vals.inj t t']
section
variable {X:Cx}{pins:List (Addr × Obj)}{σ:St}{H:Hp}{s:Shared}{a:Addr}{xs ys:List V}
theorem SqL.of {K:Fg}(h:H a=some (.lst xs)):SqL K H a xs:= .inl (.inl h)
theorem SqT.of {K:Fg}(h:H a=some (.tup xs)):SqT K H a xs:= .inl (.inl h)
theorem Inv.list (I:Inv X pins σ H s)(h:SqL X.K H a xs):∃ its:List Value,Vals xs its/\PlainL s.heap a its.toArray/\xs.length<=sizeLine:=by
 rcases h with h | ⟨o,its,n,hk,hc,hd,hs,hz,r⟩
 ·obtain ⟨z,its,n,r,e⟩:=h.ok I.hok
  exact ⟨its,r,⟨_,n,e,rfl,rfl,rfl⟩,z⟩
 ·refine ⟨its.toList,r,⟨o,n,I.kIn a o hk,hc,hd,by simpa using hs⟩,?_⟩
  have e:=r.length
  simp only [Array.length_toList] at e
  omega
theorem Inv.tuple (I:Inv X pins σ H s)(h:SqT X.K H a xs):∃ its:List Value,Vals xs its/\IsTup s.heap a its.toArray/\xs.length<=sizeLine:=by
 rcases h with h | ⟨o,its,n,hk,hc,hs,hz,r⟩
 ·obtain ⟨z,its,r,p⟩:=h.ok I.hok
  exact ⟨its,r,p,z⟩
 ·refine ⟨its.toList,r,⟨o,I.kIn a o hk,hc,n,by simpa using hs⟩,?_⟩
  have e:=r.length
  simp only [Array.length_toList] at e
  omega
theorem Inv.list_inj (I:Inv X pins σ H s)(h:SqL X.K H a xs)(h':SqL X.K H a ys):xs=ys:=by
 obtain ⟨its,r,⟨o,n,e,_,_,d⟩,_⟩:=I.list h
 obtain ⟨its',r',⟨o',n',e',_,_,d'⟩,_⟩:=I.list h'
 rw [e] at e';cases e'
 rw [d] at d'
 injection d' with d1 _
 have:its=its':=by simpa using congrArg Array.toList d1
 subst this
 exact r.inj r'
theorem Inv.tuple_inj (I:Inv X pins σ H s)(h:SqT X.K H a xs)(h':SqT X.K H a ys):xs=ys:=by
 obtain ⟨its,r,⟨o,e,_,n,d⟩,_⟩:=I.tuple h
 obtain ⟨its',r',⟨o',e',_,n',d'⟩,_⟩:=I.tuple h'
 rw [e] at e';cases e'
 rw [d] at d'
 injection d' with d1 _
 have:its=its':=by simpa using congrArg Array.toList d1
 subst this
 exact r.inj r'
end
abbrev Cx.wish (X:Cx)(E:Value->Shared->Prop):Cx:={ X with xe:=E }
abbrev Cx.nox (X:Cx):Cx:=X.wish fun _ _=>False
theorem Cx.Ok.wish {X:Cx}(ok:X.Ok)(E:Value->Shared->Prop):(X.wish E).Ok :=
 ⟨ok.mod,ok.kind,ok.glob,ok.blt,ok.above,ok.inj,ok.has,ok.cab,ok.hd,ok.frames,ok.stk,ok.exf,ok.bs,ok.bsz,ok.noex,ok.exfs,ok.funs,ok.frf,ok.tbs⟩
theorem Cx.Ok.unwish {X:Cx}{E:Value->Shared->Prop}(ok:(X.wish E).Ok):X.Ok :=
 ⟨ok.mod,ok.kind,ok.glob,ok.blt,ok.above,ok.inj,ok.has,ok.cab,ok.hd,ok.frames,ok.stk,ok.exf,ok.bs,ok.bsz,ok.noex,ok.exfs,ok.funs,ok.frf,ok.tbs⟩
section
variable {X:Cx}{pins:List (Addr × Obj)}{σ:St}{H:Hp}{s:Shared}{E:Value->Shared->Prop}
theorem Inv.wish (I:Inv X pins σ H s)(E:Value->Shared->Prop):Inv (X.wish E) pins σ H s:=⟨I.ok.wish E,I.os,I.bare,I.base,I.loc,I.cell,I.free,I.freeC,I.pin,I.hok,I.len⟩
theorem Inv.unwish (I:Inv (X.wish E) pins σ H s):Inv X pins σ H s:=⟨I.ok.unwish,I.os,I.bare,I.base,I.loc,I.cell,I.free,I.freeC,I.pin,I.hok,I.len⟩
theorem SP.unwish {D:xV}{f:Flow}{s':Shared}(h:SP (X.wish E) pins D f s'):SP X pins D f s':=by
 cases f with
 | next=>obtain ⟨σ',H',I,q⟩:=h;exact ⟨σ',H',I.unwish,q⟩
 | brk=>obtain ⟨σ',H',I,q⟩:=h;exact ⟨σ',H',I.unwish,q⟩
 | cont=>obtain ⟨σ',H',I,q⟩:=h;exact ⟨σ',H',I.unwish,q⟩
 | ret u=>obtain ⟨v,σ',H',I,r,q⟩:=h;exact ⟨v,σ',H',I.unwish,r,q⟩
theorem PSs.nox {st:List Stmt}{t:TS}(h:PSs X.nox st t):PSs X st t:=fun pins s σ H D I hw =>
 wpAny_mono (h pins s σ H D (I.wish _) hw) (fun _ _ q=>q.unwish) fun _ _ z=>False.elim z
end
section
variable {X:Cx}{st:Stmt}{rest:List Stmt}{t u:TS}{e:Expr}{te:TE}{pos:Pos}
def VD:TS:=fun D σ H=>D.nx σ H
def tSeq (t u:TS):TS:=fun D σ H=>t { D with nx:=u D } σ H
theorem i9:PSs X [] VD:=fun _ _ σ H _ I h=>wpAny_execs_nil ⟨σ,H,I,h⟩
theorem j9 (h1:PS X st t)(h2:PSs X rest u):PSs X (st::rest) (tSeq t u):=by
 intro pins s σ H D I h
 refine wpAny_execs_cons (z8 (h1 pins s σ H { D with nx:=u D } I h) fun f s1 q=>?_)
 cases f with
 | next =>
  obtain ⟨σ',H',I',q⟩:=q
  exact h2 pins s1 σ' H' D I' q
 | ret v=>exact q
 | brk=>exact q
 | cont=>exact q
theorem j5 (h1:PS X st t):PSs X [st] t:=by
 intro pins s σ H D I h
 refine wpAny_execs_cons (z8 (h1 pins s σ H D I h) fun f s1 q=>?_)
 cases f with
 | next=>exact wpAny_execs_nil q
 | ret v=>exact q
 | brk=>exact q
 | cont=>exact q
theorem Inv.quiet {pins:List (Addr × Obj)}{σ:St}{H:Hp}{s:Shared}(I:Inv X pins σ H s):interactive X.env=false:=by simp [interactive,I.ok.kind]
def wH (te:TE):TS:=fun D σ H=>te σ H fun _ H1=>D.nx σ H1
theorem vp (he:PE X e te)(hs:swapsWith e none pos.line X.env=pure false:=by rfl):PS X (.Expr e pos) (wH te):=by
 intro pins s σ H D I h
 exact wpAny_Expr_any (z8 (he pins s σ H _ I h) fun v s1 ⟨x,H1,I1,r1,q1⟩=>⟨σ,H1,I1,q1⟩) I.quiet hs
def wI (te:TE):TS:=fun D σ H=>te σ H D.rt
theorem w6 (he:PE X e te):PS X (.Return (some e) pos) (wI te):=by
 intro pins s σ H D I h
 exact wpAny_Return_some (z8 (he pins s σ H _ I h) fun v s1 ⟨x,H1,I1,r1,q1⟩=>⟨x,σ,H1,I1,r1,q1⟩)
def tIfS (c:TT)(t u:TS):TS:=fun D σ H=>c σ H fun b H1=>if b=true then t D σ H1 else u D σ H1
theorem i8 {c:Expr}{a b:List Stmt}{tc:TT}(hc:PT X c tc)(ha:PSs X a t)(hb:PSs X b u):PS X (.If c a b pos) (tIfS tc t u):=by
 intro pins s σ H D I h
 refine wpAny_If (z8 (hc pins s σ H _ I h) fun d s1 ⟨H1,I1,q1⟩=>?_)
 cases d with
 | true=>exact ha pins s1 σ H1 D I1 q1
 | false=>exact hb pins s1 σ H1 D I1 q1
def Kc:TS:=fun _ _ _=>False
theorem jd:PS X st Kc:=fun _ _ _ _ _ _ h=>h.elim
end
abbrev TG:=V->St->Hp->(St->Hp->Prop)->Prop
abbrev TGs:=List V->St->Hp->(St->Hp->Prop)->Prop
def PG (X:Cx)(target:Expr)(t:TG):Prop :=
 ∀ (pins:List (Addr × Obj)) (s:Shared) (σ:St) (H:Hp) (v:V) (u:Value) (Q:St->Hp->Prop),Inv X pins σ H s->RelV v u->t v σ H Q ->
  wpAny (model X.prog X.w) X.A (assign target X.env u) (fun _ s'=>∃ σ' H',Inv X pins σ' H' s'/\Q σ' H') X.xe s
def PGs (X:Cx)(ts:List Expr)(t:TGs):Prop :=
 ∀ (pins:List (Addr × Obj)) (s:Shared) (σ:St) (H:Hp) (vs:List V) (us:List Value) (Q:St->Hp->Prop),Inv X pins σ H s->Vals vs us->t vs σ H Q ->
  wpAny (model X.prog X.w) X.A (assignInOrder ((assignEach ts X.env).map (·.2)) us) (fun _ s'=>∃ σ' H',Inv X pins σ' H' s'/\Q σ' H') X.xe s
abbrev TSet:=V->V->V->Hp->(Hp->Prop)->Prop
def PSet (X:Cx)(t:TSet):Prop :=
 ∀ (pins:List (Addr × Obj)) (s:Shared) (σ:St) (H:Hp) (o i v:V) (ov iv u:Value) (Q:Hp->Prop),Inv X pins σ H s->RelV o ov->RelV i iv->RelV v u->t o i v H Q ->
  wpAny (model X.prog X.w) X.A (setItem ov iv u) (fun _ s'=>∃ H',Inv X pins σ H' s'/\Q H') X.xe s
abbrev TIp:=V->V->Hp->VK->Prop
def PIp (X:Cx)(op:Operator)(t:TIp):Prop :=
 ∀ (pins:List (Addr × Obj)) (s:Shared) (σ:St) (H:Hp) (x y:V) (v u:Value) (Q:VK),Inv X pins σ H s->RelV x v->RelV y u->t x y H Q ->
  wpAny (model X.prog X.w) X.A (inplaceOp op v u) (EP X pins σ Q) X.xe s
section
variable {X:Cx}{pos:Pos}
def xx (i:Nat):TG:=fun v σ H Q=>Q (σ.set i (some v)) H
theorem p9 {i:Nat}{x:Str}(hN:X.N.Nodup)(hi:X.N[i]?=some x)(hx:Loc X.env.scope x)(hf:X.fn x=true ∨ X.env.scope.names.lookup x=some .local:=by first | exact .inl rfl | exact .inr rfl | assumption):PG X (.Name x pos) (xx i):=by
 intro pins s σ H v u Q I r h
 exact wpAny_assign_Name (VA I hN hi hx r (fun s' I'=>⟨_,H,I',h⟩) hf)
def gNil:TGs:=fun vs σ H Q=>vs=[]/\Q σ H
def Qg (t:TG)(u:TGs):TGs:=fun vs σ H Q=>∃ v r,vs=v::r/\t v σ H fun σ' H'=>u r σ' H' Q
theorem QB:PGs X [] gNil:=by
 intro pins s σ H vs us Q I r h
 obtain ⟨e,h⟩:=h
 subst e
 cases r
 exact assignInOrder_nil ⟨σ,H,I,h⟩
theorem zM {e:Expr}{es:List Expr}{t:TG}{u:TGs}(h1:PG X e t)(h2:PGs X es u)
  (hs:(assignEach (e::es) X.env).map (·.2)=assign e X.env::(assignEach es X.env).map (·.2):=by rfl):PGs X (e::es) (Qg t u):=by
 intro pins s σ H vs us Q I r h
 obtain ⟨v,vr,e1,h⟩:=h
 subst e1
 cases r with
 | cons r rr =>
  rw [hs]
  refine assignInOrder_cons (z8 (h1 pins s σ H _ _ _ I r h) fun _ s1 ⟨σ1,H1,I1,q1⟩=>?_)
  exact h2 pins s1 σ1 H1 _ _ Q I1 rr q1
def gTup (K:Fg)(n:Nat)(t:TGs):TG:=fun v σ H Q=>∃ a xs,v = .ref a/\SqT K H a xs/\xs.length=n/\t xs σ H Q
theorem Mm {es:List Expr}{k:Nat}{t:TGs}{n:Nat}(hc:X.calm=true)(h:PGs X es t)
  (hn:(assignEach es X.env).length=n:=by rfl) (hst:(assignEach es X.env).findIdx? (·.1)=none:=by rfl):PG X (.Tuple es k pos) (gTup X.K n t):=by
 intro pins s σ H v u Q I r hw
 obtain ⟨a,xs,e1,hq,hl,hw⟩:=hw
 subst e1
 cases r
 obtain ⟨its,rv,ht,hz⟩:=I.tuple hq
 refine assign_Tuple_tuple (I.ok.hd hc) ht (by simp [hn,<- hl,rv.length]) hst fun h' hx=>?_
 have I1:Inv X pins σ H { s with heap:=h' }:=I.kept (t':=s.toks) fun b o e=>hx b o (Nat.ne_of_lt (Heap.lt_size e)) e
 exact h pins _ σ H xs _ Q I1 (by simpa using rv) hw
def gSub (to ti:TE)(t:TSet):TG:=fun v σ H Q=>to σ H fun o H1=>ti σ H1 fun i H2=>t o i v H2 fun H3=>Q σ H3
theorem Qz {o i:Expr}{to ti:TE}{t:TSet}(ho:PE X o to)(hi:PE X i ti)(hs:PSet X t)
  (ha:∀ v,assign (.Subscript o i pos) X.env v=(do
   let ov <- holding [v] (eval o X.env)
   let iv <- holding [v,ov] (eval i X.env)
   standAt pos
   holding [v,ov,iv] (setItem ov iv v)
   release [v,ov,iv] []):=by intro _;rfl):PG X (.Subscript o i pos) (gSub to ti t):=by
 intro pins s σ H v u Q I r h
 rw [ha]
 refine wpAny_bind (wpAny_holding (z8 (ho pins s σ H _ I h) fun ov s1 ⟨x,H1,I1,r1,q1⟩=>?_))
 refine wpAny_bind (wpAny_holding (z8 (hi pins s1 σ H1 _ I1 q1) fun iv s2 ⟨y,H2,I2,r2,q2⟩=>?_))
 refine wpAny_bind (wpAny_standAt (wpAny_bind (wpAny_holding (z8 (hs pins s2 σ H2 x y v ov iv u _ I2 r1 r2 r q2) fun _ s3 ⟨H3,I3,q3⟩=>?_))))
 exact wpAny_release ⟨σ,H3,I3,q3⟩
def zw (te:TE)(g:TG):TS:=fun D σ H=>te σ H fun x H1=>g x σ H1 D.nx
theorem Zd {tg e:Expr}{te:TE}{g:TG}(he:PE X e te)(hg:PG X tg g)(hs:swapsWithSole [tg] e pos.line X.env=pure false:=by rfl)(hw:swappedStores [tg] e X.env=pure none:=by rfl)
  (h1:(assignEach [tg] X.env).map (·.2)=[assign tg X.env]:=by rfl):PS X (.Assign [tg] e pos) (zw te g):=by
 intro pins s σ H D I h
 refine wpAny_Assign_stores (z8 (he pins s σ H _ I h) fun v s1 ⟨x,H1,I1,r1,q1⟩=>?_) hs hw
 rw [h1]
 exact z8 (hg pins s1 σ H1 x v _ I1 r1 q1) fun _ s2 q=>q
theorem u9 {i:Nat}{x:Str}{e:Expr}{te:TE}{pos':Pos}(hN:X.N.Nodup)(hi:X.N[i]?=some x)(hx:Loc X.env.scope x)(he:PE X e te)(hs:swapsWith e (some (.Name x pos')) pos.line X.env=pure false:=by rfl)(hf:X.fn x=true ∨ X.env.scope.names.lookup x=some .local:=by first | exact .inl rfl | exact .inr rfl | assumption) :
  PS X (.Assign [.Name x pos'] e pos) (zw te (xx i)):=by
 intro pins s σ H D I h
 refine wpAny_Assign_Name (z8 (he pins s σ H _ I h) fun v s1 ⟨y,H1,I1,r1,q1⟩=>?_) hs
 exact VA I1 hN hi hx r1 (fun s2 I2=>⟨_,H1,I2,q1⟩) hf
def tAug (i:Nat)(te:TE)(ti:TIp):TS:=fun D σ H=>∃ x,σ[i]?=some (some x)/\te σ H fun y H1=>ti x y H1 fun z H2=>D.nx (σ.set i (some z)) H2
theorem MD {i:Nat}{x:Str}{e:Expr}{te:TE}{op:Operator}{ti:TIp}{pos':Pos}(hN:X.N.Nodup)(hi:X.N[i]?=some x)(hx:Loc X.env.scope x)(he:PE X e te)(ho:PIp X op ti)(hf:X.fn x=true ∨ X.env.scope.names.lookup x=some .local:=by first | exact .inl rfl | exact .inr rfl | assumption) :
  PS X (.AugAssign (.Name x pos') op e pos) (tAug i te ti):=by
 intro pins s σ H D I h
 obtain ⟨v,e1,h⟩:=h
 obtain ⟨m,hn,hl⟩:=I.loc
 have vis:Vis X.env.scope x:=by rcases hx with k | k;exact .inl k;exact .inr (.inl k)
 obtain ⟨u,r,l⟩:=hl i x v hi e1 vis
 refine wpAny_AugAssign_Name ?_
 have go:wpAny (model X.prog X.w) X.A (eval e X.env) (fun w s₂=>wpAny (model X.prog X.w) X.A (inplaceOp op u w) (fun r s₃=>wpAny (model X.prog X.w) X.A (storeName X.env x r) (fun _=>SP X pins D .next) X.xe s₃) X.xe s₂) X.xe s:=by
  refine z8 (he pins s σ H _ I h) fun w s1 ⟨y,H1,I1,r1,q1⟩=>?_
  refine z8 (ho pins s1 σ H1 v y u w _ I1 r r1 q1) fun z s2 ⟨zv,H2,I2,r2,q2⟩=>?_
  exact VA I2 hN hi hx r2 (fun s3 I3=>⟨_,H2,I3,q2⟩) hf
 rcases l with ⟨hk,hm⟩ | ⟨hk,c,hc,hcell⟩
 ·exact wpAny_loadName_local I.ok.kind hk hn hm go
 ·rcases hk with hk | hk
  ·exact wpAny_loadName_cell I.ok.kind hk hc hcell go
  ·rcases hx with k | k
   ·have:X.env.scope.names.lookup x=some .free:=hk
    rw [k] at this;cases this
   ·have:X.env.scope.names.lookup x=some .free:=hk
    rw [k] at this;cases this
end
structure It where
 go:Nat->Hp->Prop
 yld:Nat->Hp->V->Hp->Prop
 stop:Nat->Hp->Prop
def xh (X:Cx)(pins:List (Addr × Obj))(H:Hp)(b:Addr):Prop :=
 H b=none/\b ≠ X.env.locals/\b ∉ X.fs/\(b ∈ X.ex ∨ X.s₀.heap.objs.size<=b)/\(∀ x c,X.env.cells.lookup x=some c->c ≠ b)/\∀ p ∈ X.pn++pins,p.1 ≠ b
theorem Inv.fpOk {X:Cx}{pins:List (Addr × Obj)}{σ:St}{H H':Hp}{s:Shared}{b:Addr}(I:Inv X pins σ H s)(hb:s.heap.objs.size<=b)(hn:H' b=none):xh X pins H' b:=by
 refine ⟨hn,Nat.ne_of_gt (Nat.lt_of_lt_of_le I.lt hb),I.nofs hb,.inr (Nat.le_trans I.sz hb),fun x c e z=>?_,fun p hp z=>?_⟩
 ·obtain ⟨v,q⟩:=I.cell x c e
  exact absurd (Nat.lt_of_lt_of_le q.lt (by rw [z];exact hb)) (Nat.lt_irrefl _)
 ·exact absurd (Nat.lt_of_lt_of_le (Heap.lt_size (I.pin p hp).1) (by rw [z];exact hb)) (Nat.lt_irrefl _)
structure zT (P:Program)(w:World)(K:Fg)(tg:Expr)(J:It)(fp:List Addr)(it:Addr)(tn:Nat->Heap->Prop):Prop where
 mem:it ∈ fp
 obj:∀ i h,tn i h->∀ b ∈ fp,∃ o,h.get? b=some o/\∀ v,o.data ≠ .cell v
 keep:∀ i h h',tn i h->(∀ b ∈ fp,∀ o,h.get? b=some o->h'.get? b=some o)->tn i h'
 item:∀ (X:Cx),X.prog=P->X.w=w->X.K=K->X.calm=true->∀ (i:Nat) (pins:List (Addr × Obj)) (s:Shared) (σ:St) (H:Hp) (E:Value->Shared->Prop),Inv X pins σ H s->(∀ b ∈ fp,xh X pins H b)->tn i s.heap->J.go i H ->
  wpAny (model P w) X.A (pyNext (.ref it)) (fun r s1=>∃ u,r=some u /\
   wpAny (model P w) X.A (letOwnedTupleGo tg (.ref it) u) (fun _ s2=>∃ x H',Inv X pins σ H' s2/\RelV x u/\J.yld i H x H'/\tn (i + 1) s2.heap/\∀ b ∈ fp,H' b=none) E s1) E s
 done:∀ (X:Cx),X.prog=P->X.w=w->X.K=K->X.calm=true->∀ (i:Nat) (pins:List (Addr × Obj)) (s:Shared) (σ:St) (H:Hp) (E:Value->Shared->Prop),Inv X pins σ H s->(∀ b ∈ fp,xh X pins H b)->tn i s.heap->J.stop i H ->
  wpAny (model P w) X.A (pyNext (.ref it)) (fun r s1=>r=none/\Inv X pins σ H s1) E s
 self:∀ (A:Around) (i:Nat) (s:Shared) (Q:Value->Shared->Prop) (E:Value->Shared->Prop),tn i s.heap->Q (.ref it) s->wpAny (model P w) A (pyIter (.ref it)) Q E s
abbrev TI:=St->Hp->(It->Hp->Prop)->Prop
def PIE (X:Cx)(pins:List (Addr × Obj))(σ:St)(tg:Expr)(R:It->Hp->Prop)(itv:Value)(s2:Shared):Prop :=
 ∃ (it:Addr) (fp:List Addr) (tn:Nat->Heap->Prop) (J:It) (H':Hp),itv = .ref it/\Inv X pins σ H' s2/\zT X.prog X.w X.K tg J fp it tn/\tn 0 s2.heap/\(∀ b ∈ fp,xh X pins H' b)/\R J H'
def PI (X:Cx)(tg iter:Expr)(wi:TI):Prop :=
 ∀ (pins:List (Addr × Obj)) (s:Shared) (σ:St) (H:Hp) (R:It->Hp->Prop),Inv X pins σ H s->wi σ H R ->
  wpAny (model X.prog X.w) X.A (eval iter X.env) (fun v s1=>wpAny (model X.prog X.w) X.A (pyIter v) (PIE X pins σ tg R) X.xe s1) X.xe s

theorem Xw {M:Model}{A:Around}{E:Value->Shared->Prop}{s:Shared}{tg:Expr}{it:Addr}{u:Value}{o:Obj}{n:String}{vs:Array Value}{Q:Unit->Shared->Prop}(ho:s.heap.get? it=some o)(hc:o.cls = .type n)(hd:o.data = .fields vs)
    (hn:["enumerate", "zip", "dict_itemiterator", "dict_reverseitemiterator", "odict_iterator", "itertools.zip_longest", "itertools.pairwise"].contains n=false) (hQ:Q () s):wpAny M A (letOwnedTupleGo tg (.ref it) u) Q E s:=by
  unfold letOwnedTupleGo
  cases tg <;> first
    | exact wpAny_pure hQ
    | (cases u <;> first
        | exact wpAny_pure hQ
        | (refine wpAny_bind (wpAny_load ho ?_)
           rw [hc,hd]
           show wpAny M A (if (["enumerate", "zip", "dict_itemiterator", "dict_reverseitemiterator", "odict_iterator", "itertools.zip_longest", "itertools.pairwise"].contains n && vs[0]? == some (rawInt _))=true then _ else _) Q E s
           rw [if_neg (by intro h;rw [hn,Bool.false_and] at h;cases h)]
           exact wpAny_pure hQ))

def Itl (K:Fg)(a:Addr):It :=
 ⟨fun i H=>∃ xs x,SqL K H a xs/\xs[i]?=some x,fun i H x H'=>H'=H/\∀ xs,SqL K H a xs->xs[i]?=some x,fun i H=>∃ xs,SqL K H a xs/\xs.length<=i⟩
def Itr (lo:Int)(n:Nat):It:=⟨fun i _=>i < n,fun i H x H'=>H'=H/\x = .int (lo + i),fun i _=>n<=i⟩
theorem Nt {P:Program}{w:World}{K:Fg}{tg:Expr}(a it:Addr):zT P w K tg (Itl K a) [it] it (fun i h=>h.IsListIter it a i) where
 mem:=by simp
 obj:=fun i h st b hb=>by
  have e:b=it:=by simpa using hb
  subst e
  obtain ⟨o,e,c,d⟩:=st
  exact ⟨o,e,fun v z=>by rw [d] at z;cases z⟩
 keep:=fun i h h' st k=>st.at fun o e=>k it (by simp) o e
 item:=by
  intro X hP hw hK hc i pins s σ H E I hf st hg
  subst hP hw hK
  obtain ⟨xs,x,hq,hx⟩:=hg
  obtain ⟨its,rv,p,hz⟩:=I.list hq
  obtain ⟨u,hu,ru⟩:=rv.get hx
  obtain ⟨f0,f1,f2,f3,f4,f5⟩:=hf it (by simp)
  refine wpAny_pyNext_list_item st p.isList (x:=u) (by simpa using hu) fun h' st' sb=>?_
  have I1:Inv X pins σ H { s with heap:=h' }:=I.turned (t':=s.toks) (fun b o hb e=>(sb.2 b hb).trans e) f0 f1 f3 f4 f5
  obtain ⟨o,e,c,d⟩:=id st'
  exact ⟨u,rfl,Xw (s:={ s with heap:=h' }) e c d (by decide) ⟨x,H,I1,ru,⟨rfl,fun ys hy=>by rw [I.list_inj hy hq];exact hx⟩,st',fun b hb=>(hf b hb).1⟩⟩
 done:=by
  intro X hP hw hK hc i pins s σ H E I hf st hg
  subst hP hw hK
  obtain ⟨xs,hq,hx⟩:=hg
  obtain ⟨its,rv,p,hz⟩:=I.list hq
  obtain ⟨f0,f1,f2,f3,f4,f5⟩:=hf it (by simp)
  have hl:=rv.length
  exact wpAny_pyNext_list_end (I.ok.hd hc) st p.isList (by simp;omega) fun h' eb=>⟨rfl,I.turned (t':=s.toks) (fun b o hb e=>eb b o hb e) f0 f1 f3 f4 f5⟩
 self:=fun _ _ _ _ _ st h=>wpAny_pyIter_listiter st h
theorem Nu {P:Program}{w:World}{K:Fg}{tg:Expr}(it:Addr)(lo:Int)(n:Nat):zT P w K tg (Itr lo n) [it] it (fun i h=>IsRangeIter h it (lo + (i:Nat) * 1) ((n:Int) - (i:Nat)) 1) where
 mem:=by simp
 obj:=fun i h st b hb=>by
  have e:b=it:=by simpa using hb
  subst e
  exact ⟨_,st,fun v z=>by
   have z':Data.fields _=Data.cell v:=z
   cases z'⟩
 keep:=fun i h h' st k=>k it (by simp) _ st
 item:=by
  intro X hP hw hK hc i pins s σ H E I hf st hg
  subst hP hw hK
  obtain ⟨f0,f1,f2,f3,f4,f5⟩:=hf it (by simp)
  have W:=Walks.range (prog:=X.prog) (w:=X.w) (I.ok.hd hc) it lo 1 n
  refine W.item i s _ _ hg st fun v h' tk hv st' kk=>?_
  obtain ⟨t,rfl⟩:=hv
  have I1:Inv X pins σ H { s with heap:=h',toks:=tk }:=I.turned (fun b o hb e=>kk b o (by simpa using hb) e) f0 f1 f3 f4 f5
  refine ⟨_,rfl,Xw (s:={ s with heap:=h',toks:=tk }) (n := "range_iterator") st' rfl rfl (by decide) ⟨.int (lo + i),H,I1,⟨t,?_⟩,⟨rfl,rfl⟩,st',fun b hb=>(hf b hb).1⟩⟩
  rw [Int.mul_one]
 done:=by
  intro X hP hw hK hc i pins s σ H E I hf st hg
  subst hP hw hK
  obtain ⟨f0,f1,f2,f3,f4,f5⟩:=hf it (by simp)
  exact wpAny_pyNext_range_end (I.ok.hd hc) st (by have:n<=i:=hg;omega) fun h' eb=>⟨rfl,I.turned (t':=s.toks) (fun b o hb e=>eb b o hb e) f0 f1 f3 f4 f5⟩
 self:=fun _ _ _ _ _ st h=>wpAny_pyIter_rangeiter st h
end L2
namespace L2
open PySem PySem.Spec PyProof.Rows
section
variable {X:Cx}{tg:Expr}
def JK (K:Fg)(tl:TE):TI:=fun σ H R=>tl σ H fun x H1=>∃ a,x = .ref a/\(∃ xs,SqL K H1 a xs)/\R (Itl K a) H1
theorem Mo {l:Expr}{tl:TE}(hl:PE X l tl):PI X tg l (JK X.K tl):=by
 intro pins s σ H R I h
 refine z8 (hl pins s σ H _ I h) fun v s1 ⟨x,H1,I1,r1,q1⟩=>?_
 obtain ⟨a,e,⟨xs,hq⟩,q⟩:=q1
 subst e
 cases r1
 obtain ⟨its,rv,p,hz⟩:=I1.list hq
 refine wpAny_pyIter_list p.isList ?_
 refine ⟨s1.heap.objs.size,[s1.heap.objs.size],_,_,H1,rfl,I1.kept (t':=s1.toks) fun b o e=>Heap.get?_push_of_some _ e,Nt a _,⟨_,Heap.get?_push_size _ rfl,rfl,rfl⟩,fun b hb=>?_,q⟩
 have e:b=s1.heap.objs.size:=by simpa using hb
 subst e
 exact I1.fpOk (Nat.le_refl _) (I1.hok.fresh (Nat.le_refl _))
theorem MN {pins:List (Addr × Obj)}{σ:St}{H:Hp}{s:Shared}{R:It->Hp->Prop}{E:Value->Shared->Prop}{lo hi:Int}{t u v:Tok}{tk:Nat}(I:Inv X pins σ H s)(h1:-(2 ^ 62)<=lo)(h2:lo < 2 ^ 62)(h3:-(2 ^ 62)<=hi)(h4:hi < 2 ^ 62)
  (q:R (Itr lo (hi - lo).toNat) H):wpAny (model X.prog X.w) X.A (pyIter (.ref s.heap.objs.size)) (PIE X pins σ tg R) E { s with heap:=s.heap.push { cls:= .type "range",data:= .fields #[.int lo t,.int hi u,.int 1 v] },toks:=tk }:=by
 refine wpAny_pyIter_range (IsRange.new ..) (small_one h1 h2 h3 h4) ?_
 have I1:Inv X pins σ H { s with heap:=s.heap.push { cls:= .type "range",data:= .fields #[.int lo t,.int hi u,.int 1 v] },toks:=tk }:=I.kept fun b o e=>Heap.get?_push_of_some _ e
 refine ⟨(s.heap.push { cls:= .type "range",data:= .fields #[.int lo t,.int hi u,.int 1 v] }).objs.size,[(s.heap.push { cls:= .type "range",data:= .fields #[.int lo t,.int hi u,.int 1 v] }).objs.size],_,_,H,rfl,
  I1.kept (t':=tk) fun b o e=>Heap.get?_push_of_some _ e,Nu _ lo (hi - lo).toNat,?_,fun b hb=>?_,q⟩
 ·have e1:lo + ((0:Nat):Int) * 1=lo:=by simp
  have e2:(((hi - lo).toNat:Nat):Int) - ((0:Nat):Int)=Builtin.Range.rangeSize lo hi 1:=by rw [rangeSize_one];split <;> omega
  show IsRangeIter _ _ (lo + ((0:Nat):Int) * 1) ((((hi - lo).toNat:Nat):Int) - ((0:Nat):Int)) 1
  rw [e1,e2]
  exact Heap.get?_push_size _ rfl
 ·have e:b=(s.heap.push { cls:= .type "range",data:= .fields #[.int lo t,.int hi u,.int 1 v] }).objs.size:=by simpa using hb
  subst e
  exact I1.fpOk (Nat.le_refl _) (I1.hok.fresh (Nat.le_refl _))
def YY (ta:TA):TI:=fun σ H R=>ta σ H fun vs H1=>∃ j:Int,vs=[.int j]/\-(2 ^ 62)<=j/\j < 2 ^ 62/\R (Itr 0 j.toNat) H1
theorem xS {a:Expr}{ta:TA}{p pos:Pos}(hg:Gl X "range") (hm:X.mg "range"=none) (ha:PA X [a] ta) (hs:starEach [a] X.env=[(false,eval a X.env)]:=by rfl):PI X tg (.Call (.Name "range" p) [a] [] pos) (YY ta):=by
 intro pins s σ H R I h
 refine Call_ (jz I hg hm boot_range (PyProof.Rows.callWith_type1 (z8 (ha pos pins s σ H _ I h) fun us s1 ⟨vs,H1,I1,r1,q1⟩=>?_) hs rfl))
 obtain ⟨j,e,q1,q2,q⟩:=q1
 subst e
 cases r1 with
 | cons r rr =>
  cases rr
  obtain ⟨t,rfl⟩:=r
  exact call_range_1 (MN I1 (by omega) (by omega) q1 q2 (by simpa using q))
def tFor (wi:TI)(g:TG)(tb:TS):TS:=fun D σ H=>wi σ H fun J H1=>∃ W:Nat->Nat->St->Hp->Prop,(∃ m,W 0 m σ H1)/\∀ i m σ H,W i m σ H ->
 (J.stop i H/\D.nx σ H) ∨ (J.go i H/\∃ N:St->Hp->Prop,(∀ σ' H',N σ' H'->∃ m',m' < m/\W (i + 1) m' σ' H')/\∀ x H',J.yld i H x H'->g x σ H' fun σ2 H2=>tb { D with nx:=N,ct:=N,bk:=D.nx } σ2 H2)
def QC (fp:List Addr)(h:Heap):List (Addr × Obj):=fp.filterMap fun b=>(h.get? b).map fun o=>(b,o)
theorem XQ {fp:List Addr}{h:Heap}{b:Addr}{o:Obj}(hb:b ∈ fp)(e:h.get? b=some o):(b,o) ∈ QC fp h:=List.mem_filterMap.mpr ⟨b,hb,by rw [e];rfl⟩
theorem CN {fp:List Addr}{h:Heap}{p:Addr × Obj}(hp:p ∈ QC fp h):p.1 ∈ fp/\h.get? p.1=some p.2:=by
 obtain ⟨b,hb,e⟩:=List.mem_filterMap.mp hp
 cases q:h.get? b with
 | none=>rw [q] at e;cases e
 | some o =>
  rw [q] at e
  have e':(b,o)=p:=Option.some.inj e
  subst e'
  exact ⟨hb,q⟩
theorem Inv.pinned {pins:List (Addr × Obj)}{σ:St}{H:Hp}{s:Shared}{fp:List Addr}(I:Inv X pins σ H s)(hf:∀ b ∈ fp,xh X pins H b)(ho:∀ b ∈ fp,∃ o,s.heap.get? b=some o/\∀ v,o.data ≠ .cell v):Inv X (pins++QC fp s.heap) σ H s :=
 I.pins_of fun p hp=>(List.mem_append.mp hp).elim (fun z=>I.pin p (List.mem_append_right _ z)) fun z=>by
  obtain ⟨hb,e⟩:=CN z
  obtain ⟨f0,f1,f2,_⟩:=hf p.1 hb
  obtain ⟨o,e',d⟩:=ho p.1 hb
  rw [e] at e';cases e'
  exact ⟨e,f0,f1,f2,d⟩
theorem Inv.unpinned {pins pl:List (Addr × Obj)}{σ:St}{H:Hp}{s:Shared}(I:Inv X (pins++pl) σ H s):Inv X pins σ H s:=I.pins_of fun p hp=>I.pin p (List.mem_append_right _ (List.mem_append_left _ hp))
theorem xT {iter:Expr}{body:List Stmt}{wi:TI}{g:TG}{tb:TS}{pos:Pos}(hp:PassesOwn (model X.prog X.w) X.A X.env X.xe)(hc:X.calm=true)(hi:PI X tg iter wi)(hg:PG X tg g)(hb:PSs X body tb)
  (hs:∀ x,foldedSetIterable iter X.env x=pure x:=by intro _;rfl):PS X (.For tg iter body [] pos) (tFor wi g tb):=by
 intro pins s σ H D I h
 refine wpAny_For (z8 (hi pins s σ H _ I h) fun v s1 h1=>z8 h1 fun itv s2 h2=>?_) hs
 obtain ⟨it,fp,tn,J,H2,e,I2,T,st2,f2,W,⟨m0,w0⟩,turn⟩:=h2
 subst e
 -- what stays true of the iterator's objects through the loop
 have stat:∀ {H':Hp},(∀ b ∈ fp,H' b=none)->∀ b ∈ fp,xh X pins H' b:=fun hn b hb=>⟨hn b hb,(f2 b hb).2⟩
 refine codeAny_forLoop_any (fun n s'=>∃ i σ' H',Inv X pins σ' H' s'/\tn i s'.heap/\(∀ b ∈ fp,H' b=none)/\W i n σ' H') ?_ m0 ⟨0,σ,H2,I2,st2,fun b hb=>(f2 b hb).1,w0⟩
 rintro n s3 ⟨i,σ3,H3,I3,st3,fr3,w3⟩
 rcases turn i n σ3 H3 w3 with ⟨stop,qn⟩ | ⟨go,N,hN,step⟩
 ·refine wpAny_passesOwn hp (z8 (T.done X rfl rfl rfl hc i pins s3 σ3 H3 X.xe I3 (stat fr3) st3 stop) fun r s4 ⟨hr,I4⟩=>?_)
  subst hr
  exact wpAny_execs_nil ⟨σ3,H3,I4,qn⟩
 ·refine wpAny_passesOwn hp (z8 (T.item X rfl rfl rfl hc i pins s3 σ3 H3 X.xe I3 (stat fr3) st3 go) fun r s4 ⟨u,hr,h4⟩=>?_)
  subst hr
  refine wpAny_passesOwn hp (z8 h4 fun _ s5 ⟨x,H5,I5,r5,y5,st5,fr5⟩=>?_)
  have I5':=I5.pinned (stat fr5) (T.obj _ _ st5)
  refine wpAny_passesOwn hp (z8 (hg _ s5 σ3 H5 x u _ I5' r5 (step x H5 y5)) fun _ s6 ⟨σ6,H6,I6,q6⟩=>?_)
  refine wpAny_passesOwn hp (z8 (hb _ s6 σ6 H6 _ I6 q6) fun f s7 q7=>?_)
  have again:∀ {σ7:St} {H7:Hp},Inv X (pins++QC fp s5.heap) σ7 H7 s7->N σ7 H7->∃ m,m < n/\∃ i σ' H',Inv X pins σ' H' s7/\tn i s7.heap/\(∀ b ∈ fp,H' b=none)/\W i m σ' H':=fun {σ7 H7} I7 n7=>by
   obtain ⟨m',hm,w7⟩:=hN σ7 H7 n7
   refine ⟨m',hm,i + 1,σ7,H7,I7.unpinned,T.keep _ _ _ st5 fun b hb o e=>(I7.pin (b,o) (List.mem_append_right _ (List.mem_append_right _ (XQ hb e)))).1,fun b hb=>?_,w7⟩
   obtain ⟨o,e,d⟩:=T.obj _ _ st5 b hb
   exact (I7.pin (b,o) (List.mem_append_right _ (List.mem_append_right _ (XQ hb e)))).2.1
  cases f with
  | next=>obtain ⟨σ7,H7,I7,n7⟩:=q7;exact again I7 n7
  | cont=>obtain ⟨σ7,H7,I7,n7⟩:=q7;exact again I7 n7
  | brk=>obtain ⟨σ7,H7,I7,q7⟩:=q7;exact ⟨σ7,H7,I7.unpinned,q7⟩
  | ret v=>obtain ⟨x7,σ7,H7,I7,r7,q7⟩:=q7;exact ⟨x7,σ7,H7,I7.unpinned,r7,q7⟩
end
theorem Pg {lo:Int}{n:Nat}{g:TG}{tb:TS}{D:xV}{σ:St}{H:Hp}(Pv:Nat->St->Hp->Prop)(h0:Pv 0 σ H)
  (hs:∀ i σ H,i < n->Pv i σ H->g (.int (lo + i)) σ H fun σ2 H2=>tb { D with nx:=Pv (i + 1),ct:=Pv (i + 1),bk:=D.nx } σ2 H2) (hd:∀ σ H,Pv n σ H->D.nx σ H) :
  ∃ W:Nat->Nat->St->Hp->Prop,(∃ m,W 0 m σ H)/\∀ i m σ H,W i m σ H ->
   ((Itr lo n).stop i H/\D.nx σ H) ∨ ((Itr lo n).go i H/\∃ N:St->Hp->Prop,(∀ σ' H',N σ' H'->∃ m',m' < m/\W (i + 1) m' σ' H')/\∀ x H',(Itr lo n).yld i H x H'->g x σ H' fun σ2 H2=>tb { D with nx:=N,ct:=N,bk:=D.nx } σ2 H2):=by
 refine ⟨fun i m σ H=>m=n - i/\i<=n/\Pv i σ H,⟨n,by simp,Nat.zero_le _,h0⟩,?_⟩
 rintro i m σ H ⟨rfl,hi,p⟩
 by_cases hlt:i < n
 ·refine .inr ⟨hlt,Pv (i + 1),fun σ' H' p'=>⟨n - (i + 1),by omega,rfl,hlt,p'⟩,fun x H' y=>?_⟩
  obtain ⟨e,y⟩:=y
  subst e y
  exact hs i σ _ hlt p
 ·have e:i=n:=by omega
  subst e
  exact .inl ⟨Nat.le_refl _,hd σ H p⟩
end L2
namespace L2
open PySem PySem.Spec PyProof.Rows
abbrev R2:=V->V->Hp->VK->Prop
def OpR (X:Cx)(f:Value->Value->Sem Value)(r:R2):Prop :=
 ∀ (pins:List (Addr × Obj)) (s:Shared) (σ:St) (H:Hp) (x y:V) (v u:Value) (Q:VK),Inv X pins σ H s->RelV x v->RelV y u->r x y H Q ->
  wpAny (model X.prog X.w) X.A (f v u) (EP X pins σ Q) X.xe s
def UnR (X:Cx)(f:Value->Sem Value)(r:V->Hp->VK->Prop):Prop :=
 ∀ (pins:List (Addr × Obj)) (s:Shared) (σ:St) (H:Hp) (x:V) (v:Value) (Q:VK),Inv X pins σ H s->RelV x v->r x H Q ->
  wpAny (model X.prog X.w) X.A (f v) (EP X pins σ Q) X.xe s
def CallR (X:Cx)(f:Value)(r:List V->Hp->VK->Prop):Prop :=
 ∀ (pins:List (Addr × Obj)) (s:Shared) (σ:St) (H:Hp) (xs:List V) (us:List Value) (Q:VK),Inv X pins σ H s->Vals xs us->r xs H Q ->
  wpAny (model X.prog X.w) X.A (call f us) (EP X pins σ Q) X.xe s
def TruR (X:Cx)(r:V->Hp->(Bool->Hp->Prop)->Prop):Prop :=
 ∀ (pins:List (Addr × Obj)) (s:Shared) (σ:St) (H:Hp) (x:V) (v:Value) (Q:Bool->Hp->Prop),Inv X pins σ H s->RelV x v->r x H Q ->
  wpAny (model X.prog X.w) X.A (truthy v) (TP X pins σ Q) X.xe s

def tOp (r:R2)(ta tb:TE):TE:=fun σ H Q=>ta σ H fun x H1=>tb σ H1 fun y H2=>r x y H2 Q
def tUn (r:V->Hp->VK->Prop)(ta:TE):TE:=fun σ H Q=>ta σ H fun x H1=>r x H1 Q
def rI (C:Int->Int->Prop)(g:Int->Int->V):R2:=fun x y H Q=>∃ i j,x = .int i/\y = .int j/\C i j/\Q (g i j) H
def rI0 (g:Int->Int->V):R2:=fun x y H Q=>∃ i j,x = .int i/\y = .int j/\Q (g i j) H
def rU (g:Int->V):V->Hp->VK->Prop:=fun x H Q=>∃ i,x = .int i/\Q (g i) H

section
variable {X:Cx}{a b c:Expr}{ta tb tc:TE}{pos:Pos}
theorem binT (ha:PE X a ta)(hb:PE X b tb){pins:List (Addr × Obj)}{s:Shared}{σ:St}{H:Hp}{R:V->V->Hp->Prop}(I:Inv X pins σ H s)
  (h:ta σ H fun x H1=>tb σ H1 fun y H2=>R x y H2) {Q:Value->Shared->Prop} {f:Value->Value->Sem Value}
  (hf:∀ v u s2 x y H2,Inv X pins σ H2 s2->RelV x v->RelV y u->R x y H2->wpAny (model X.prog X.w) X.A (f v u) Q X.xe s2) :
  wpAny (model X.prog X.w) X.A (eval a X.env) (fun v s₁=>wpAny (model X.prog X.w) X.A (eval b X.env) (fun u s₂=>wpAny (model X.prog X.w) X.A (f v u) Q X.xe s₂) X.xe s₁) X.xe s:=by
 refine z8 (ha pins s σ H _ I h) fun v s1 ⟨x,H1,I1,r1,q1⟩=>?_
 refine z8 (hb pins s1 σ H1 _ I1 q1) fun u s2 ⟨y,H2,I2,r2,q2⟩=>?_
 exact hf v u s2 x y H2 I2 r1 r2 q2

theorem y6 {op:Operator}{r:R2}(ho:OpR X (binaryOp op) r)(ha:PE X a ta)(hb:PE X b tb):PE X (.BinOp a op b pos) (tOp r ta tb):=by
 intro pins s σ H Q I h
 exact wpAny_BinOp (binT ha hb I h fun v u s2 x y H2 I2 rx ry q=>ho pins s2 σ H2 x y v u Q I2 rx ry q)
theorem UR {op:UnaryOp}{r:V->Hp->VK->Prop}(ho:UnR X (unaryOp op) r)(ha:PE X a ta):PE X (.UnaryOp op a pos) (tUn r ta):=by
 intro pins s σ H Q I h
 exact UnaryOp_ (z8 (ha pins s σ H _ I h) fun v s1 ⟨x,H1,I1,r1,q1⟩=>ho pins s1 σ H1 x v Q I1 r1 q1)
theorem opI {f:Value->Value->Sem Value}{C:Int->Int->Prop}{g:Int->Int->Int}
  (rule:∀ (i j:Int) (t u:Tok) (s:Shared) (Q:Value->Shared->Prop) (E:Value->Shared->Prop),C i j->Q (.int (g i j) s.toks) { s with toks:=s.toks + 1 }->wpAny (model X.prog X.w) X.A (f (.int i t) (.int j u)) Q E s) :
  OpR X f (rI C fun i j=> .int (g i j)):=by
 intro pins s σ H x y v u Q I rx ry h
 obtain ⟨i,j,rfl,rfl,hc,q⟩:=h
 obtain ⟨t,rfl⟩:=rx
 obtain ⟨t',rfl⟩:=ry
 exact rule i j t t' s _ _ hc ⟨.int (g i j),H,I.tok _,⟨_,rfl⟩,q⟩
theorem opI0 {f:Value->Value->Sem Value}{g:Int->Int->Int}
  (rule:∀ (i j:Int) (t u:Tok) (s:Shared) (Q:Value->Shared->Prop) (E:Value->Shared->Prop),Q (.int (g i j) s.toks) { s with toks:=s.toks + 1 }->wpAny (model X.prog X.w) X.A (f (.int i t) (.int j u)) Q E s) :
  OpR X f (rI0 fun i j=> .int (g i j)):=by
 intro pins s σ H x y v u Q I rx ry h
 obtain ⟨i,j,rfl,rfl,q⟩:=h
 obtain ⟨t,rfl⟩:=rx
 obtain ⟨t',rfl⟩:=ry
 exact rule i j t t' s _ _ ⟨.int (g i j),H,I.tok _,⟨_,rfl⟩,q⟩
theorem opB0 {f:Value->Value->Sem Value}{g:Int->Int->Bool}
  (rule:∀ (i j:Int) (t u:Tok) (s:Shared) (Q:Value->Shared->Prop) (E:Value->Shared->Prop),Q (.bool (g i j)) s->wpAny (model X.prog X.w) X.A (f (.int i t) (.int j u)) Q E s) :
  OpR X f (rI0 fun i j=> .bl (g i j)):=by
 intro pins s σ H x y v u Q I rx ry h
 obtain ⟨i,j,rfl,rfl,q⟩:=h
 obtain ⟨t,rfl⟩:=rx
 obtain ⟨t',rfl⟩:=ry
 exact rule i j t t' s _ _ ⟨.bl (g i j),H,I,rfl,q⟩

def jo (i j:Int):Prop:=0<=j/\j<=1000000/\i.natAbs < 2 ^ 64
def CMul (i j:Int):Prop:=(-(2 ^ 64) < i/\i < 2 ^ 64) ∨ (-(2 ^ 64) < j/\j < 2 ^ 64)
theorem CMul.ok {i j:Int}(h:CMul i j):IntMulOk i j:=by
 rcases h with ⟨h1,h2⟩ | ⟨h1,h2⟩
 ·exact .of_left (intBits_le_64 h1 h2)
 ·exact .of_right (intBits_le_64 h1 h2)
theorem op_add:OpR X (binaryOp .Add) (rI0 fun i j=> .int (i + j)):=opI0 fun _ _ _ _ _ _ _ q=>add_int q
theorem Qx:OpR X (binaryOp .Sub) (rI0 fun i j=> .int (i - j)):=opI0 fun _ _ _ _ _ _ _ q=>sub_int q
theorem ww:OpR X (binaryOp .Mult) (rI CMul fun i j=> .int (i * j)):=opI fun _ _ _ _ _ _ _ hc q=>mul_int q hc.ok
theorem vg:OpR X (binaryOp .Mod) (rI (fun _ j=>0 < j) fun i j=> .int (i % j)):=opI fun i j _ _ _ _ _ hc q=>by
 have h1:(0:Int) < j:=hc
 exact mod_int' (by omega) (by rw [Int.fmod_eq_emod_of_nonneg i (by omega)];exact q)
theorem wx:OpR X (binaryOp .Pow) (rI jo fun i j=> .int (i ^ j.toNat)):=opI fun _ _ _ _ _ _ _ hc q=>pow_int_small hc.1 hc.2.1 hc.2.2 q
theorem unI {f:Value->Sem Value}{g:Int->Int}
  (rule:∀ (i:Int) (t:Tok) (s:Shared) (Q:Value->Shared->Prop) (E:Value->Shared->Prop),Q (.int (g i) s.toks) { s with toks:=s.toks + 1 }->wpAny (model X.prog X.w) X.A (f (.int i t)) Q E s) :
  UnR X f (rU fun i=> .int (g i)):=by
 intro pins s σ H x v Q I rx h
 obtain ⟨i,rfl,q⟩:=h
 obtain ⟨t,rfl⟩:=rx
 exact rule i t s _ _ ⟨.int (g i),H,I.tok _,⟨_,rfl⟩,q⟩
theorem Km:UnR X (unaryOp .USub) (rU fun i=> .int (-i)):=unI fun _ _ _ _ _ q=>neg_int q
end
section
variable {X:Cx}{a b c:Expr}{ta tb tc:TE}{pos:Pos}
theorem Xu {pins:List (Addr × Obj)}{σ:St}{H:Hp}{s:Shared}{Q:VK}{k k':Bool}(I:Inv X pins σ H s)(q:Q (.bl k) H)(e:k=k'):EP X pins σ Q (.bool k') s:=by
 subst e
 exact ⟨.bl k,H,I,rfl,q⟩
theorem Vd:OpR X (compareOp .Lt) (rI0 fun i j=> .bl (decide (i < j))):=opB0 fun _ _ _ _ _ _ _ q=>lt_int q
theorem XT:OpR X (compareOp .LtE) (rI0 fun i j=> .bl (decide (i<=j))):=opB0 fun _ _ _ _ _ _ _ q=>le_int q
theorem Vb:OpR X (compareOp .Gt) (rI0 fun i j=> .bl (decide (j < i))):=opB0 fun _ _ _ _ _ _ _ q=>gt_int q
theorem XS:OpR X (compareOp .GtE) (rI0 fun i j=> .bl (decide (j<=i))):=opB0 fun _ _ _ _ _ _ _ q=>ge_int q
theorem DS:OpR X (compareOp .Is) (fun x y H Q=>y = .non/\Q (.bl (decide (x = .non))) H):=by
 intro pins s σ H x y v u Q I rx ry h
 obtain ⟨rfl,q⟩:=h
 cases ry
 refine is_none_gen (Xu I q ?_)
 cases x <;> first
  | (cases rx;rfl)
  | (obtain ⟨t,rfl⟩:=rx;rfl)
theorem DU:OpR X (compareOp .IsNot) (fun x y H Q=>y = .non/\Q (.bl (!decide (x = .non))) H):=by
 intro pins s σ H x y v u Q I rx ry h
 obtain ⟨rfl,q⟩:=h
 cases ry
 refine isnot_none_gen (Xu I q ?_)
 cases x <;> first
  | (cases rx;rfl)
  | (obtain ⟨t,rfl⟩:=rx;rfl)

theorem OpR.or {f:Value->Value->Sem Value}{r r':R2}(h:OpR X f r)(h':OpR X f r'):OpR X f (fun x y H Q=>r x y H Q ∨ r' x y H Q):=by
 intro pins s σ H x y v u Q I rx ry q
 rcases q with q | q
 ·exact h pins s σ H x y v u Q I rx ry q
 ·exact h' pins s σ H x y v u Q I rx ry q

theorem t0 (b:Expr){op:CmpOp}(h:op ≠ .In:=by decide)(h2:op ≠ .NotIn:=by decide):behindInMarks op b=false:=by
 have e1:(op == CmpOp.In)=false:=by cases op <;> first | rfl | exact absurd rfl h
 have e2:(op == CmpOp.NotIn)=false:=by cases op <;> first | rfl | exact absurd rfl h2
 cases b <;> simp [behindInMarks,e1,e2]
theorem zq {op:CmpOp}{r:R2}(ho:OpR X (compareOp op) r)(ha:PE X a ta)(hb:PE X b tb)(hm:behindInMarks op b=false):PE X (.Compare a [op] [b] pos) (tOp r ta tb):=by
 intro pins s σ H Q I h
 exact wpAny_Compare1 (binT ha hb I h fun v u s2 x y H2 I2 rx ry q=>ho pins s2 σ H2 x y v u Q I2 rx ry q) hm
def Jd (t:TE):TT:=fun σ H Q=>t σ H fun x H'=>∃ k,x = .bl k/\Q k H'
theorem ql {op:CmpOp}{r:R2}(ho:OpR X (compareOp op) r)(ha:PE X a ta)(hb:PE X b tb)(hm:behindInMarks op b=false):PT X (.Compare a [op] [b] pos) (Jd (tOp r ta tb)):=by
 intro pins s σ H Q I h
 refine wpAny_isTrue_Compare1 (z8 (ha pins s σ H _ I h) fun v s1 ⟨x,H1,I1,r1,q1⟩=>z8 (hb pins s1 σ H1 _ I1 q1) fun u s2 ⟨y,H2,I2,r2,q2⟩ =>
  z8 (ho pins s2 σ H2 x y v u _ I2 r1 r2 q2) fun c s3 ⟨z,H3,I3,r3,k,e,q3⟩=>?_) hm
 subst e
 cases r3
 exact wpAny_truthy_bool ⟨H3,I3,q3⟩
def VC (r r':R2)(ta tb tc:TE):TE:=fun σ H Q=>ta σ H fun x H1=>tb σ H1 fun y H2=>r x y H2 fun z H3=>∃ k,z = .bl k /\
 (if k=true then tc σ H3 fun w' H4=>r' y w' H4 Q else Q (.bl false) H3)
theorem Mb {op op':CmpOp}{r r':R2}(ho:OpR X (compareOp op) r)(ho':OpR X (compareOp op') r')(ha:PE X a ta)(hb:PE X b tb)(hc:PE X c tc)
  (hm:lastMarks [op,op'] [b,c]=false:=by with_unfolding_all rfl):PE X (.Compare a [op,op'] [b,c] pos) (VC r r' ta tb tc):=by
 intro pins s σ H Q I h
 refine Compare_chain (z8 (ha pins s σ H _ I h) fun v s1 ⟨x,H1,I1,r1,q1⟩=>chain_link (z8 (hb pins s1 σ H1 _ I1 q1) fun u s2 ⟨y,H2,I2,r2,q2⟩ =>
  z8 (ho pins s2 σ H2 x y v u _ I2 r1 r2 q2) fun d s3 ⟨z,H3,I3,r3,k,e,q3⟩=>?_)) hm
 subst e
 cases r3
 refine wpAny_truthy_bool ?_
 cases k with
 | false=>exact ite_ff ⟨.bl false,H3,I3,rfl,q3⟩
 | true=>exact ite_tt (chain_last (z8 (hc pins s3 σ H3 _ I3 q3) fun w' s4 ⟨z',H4,I4,r4,q4⟩=>ho' pins s4 σ H4 y z' u w' Q I4 r2 r4 q4))
theorem Ga {op op':CmpOp}{r r':R2}(ho:OpR X (compareOp op) r)(ho':OpR X (compareOp op') r')(ha:PE X a ta)(hb:PE X b tb)(hc:PE X c tc)
  (hm:lastMarks [op,op'] [b,c]=false:=by with_unfolding_all rfl):PT X (.Compare a [op,op'] [b,c] pos) (Jd (VC r r' ta tb tc)):=by
 intro pins s σ H Q I h
 refine isTrue_chain (z8 (ha pins s σ H _ I h) fun v s1 ⟨x,H1,I1,r1,q1⟩=>test_link (z8 (hb pins s1 σ H1 _ I1 q1) fun u s2 ⟨y,H2,I2,r2,q2⟩ =>
  z8 (ho pins s2 σ H2 x y v u _ I2 r1 r2 q2) fun d s3 ⟨z,H3,I3,r3,k,e,q3⟩=>?_)) hm
 subst e
 cases r3
 refine wpAny_truthy_bool ?_
 cases k with
 | false =>
  obtain ⟨k',e',q'⟩:=q3
  cases e'
  exact ite_ff ⟨H3,I3,q'⟩
 | true =>
  refine ite_tt (test_last (z8 (hc pins s3 σ H3 _ I3 q3) fun w' s4 ⟨z',H4,I4,r4,q4⟩=>z8 (ho' pins s4 σ H4 y z' u w' _ I4 r2 r4 q4) fun d' s5 ⟨z2,H5,I5,r5,k2,e2,q5⟩=>?_))
  subst e2
  cases r5
  exact wpAny_truthy_bool ⟨H5,I5,q5⟩

def TruV (K:Fg)(x:V)(H:Hp)(k:Bool):Prop :=
 match x with
 | .non=>k=false
 | .bl b=>k=b
 | .int i=>k=(i != 0)
 | .str y=>y.length<=sizeLine/\k=((y.length:Int) != 0)
 | .byt y=>y.size<=sizeLine/\k=((y.size:Int) != 0)
 | .ref p=>(∃ xs,SqL K H p xs/\k=!xs.isEmpty) ∨ (∃ xs,SqT K H p xs/\k=!xs.isEmpty) ∨ ∃ kvs,H p=some (.dK kvs)/\k=!kvs.isEmpty
 | _=>False
theorem PP {κ:Type}{kvs:List (κ × V)}{vs:List (κ × Value)}(r:KV kvs vs):(!vs.isEmpty)=!kvs.isEmpty:=by
 cases r <;> rfl
theorem Uf {xs:List V}{its:List Value}(r:Vals xs its):(!its.toArray.isEmpty)=!xs.isEmpty:=by
 cases r <;> simp
theorem jX:(sizeLine:Nat) < 2 ^ 63:=by rw [sizeLine_eq];decide
theorem No:TruR X (fun x H Q=>∃ k,TruV X.K x H k/\Q k H):=by
 intro pins s σ H x v Q I rx h
 obtain ⟨k,e,q⟩:=h
 have hl:=jX
 have hs:sizeLine=16777216:=sizeLine_eq
 cases x with
 | non =>
  cases rx
  have e':k=false:=e
  subst e'
  exact truthy_none ⟨H,I,q⟩
 | bl b =>
  cases rx
  have e':k=b:=e
  subst e'
  exact wpAny_truthy_bool ⟨H,I,q⟩
 | int i =>
  obtain ⟨t,rfl⟩:=rx
  have e':k=(i != 0):=e
  subst e'
  exact PySem.P.truthy_int ⟨H,I,q⟩
 | str y =>
  obtain ⟨t,rfl⟩:=rx
  obtain ⟨hy,e'⟩:y.length<=sizeLine/\k=((y.length:Int) != 0):=e
  subst e'
  exact PySem.P.truthy_str (by omega) ⟨H,I.tok _,q⟩
 | byt y =>
  obtain ⟨t,rfl⟩:=rx
  obtain ⟨hy,e'⟩:y.size<=sizeLine/\k=((y.size:Int) != 0):=e
  subst e'
  exact PySem.W.truthy_bytes (by omega) ⟨H,I.tok _,q⟩
 | ref p =>
  cases rx
  have e':(∃ xs,SqL X.K H p xs/\k=!xs.isEmpty) ∨ (∃ xs,SqT X.K H p xs/\k=!xs.isEmpty) ∨ ∃ kvs,H p=some (.dK kvs)/\k=!kvs.isEmpty:=e
  rcases e' with ⟨xs,hx,e'⟩ | ⟨xs,hx,e'⟩ | ⟨kvs,hx,e'⟩
  ·subst e'
   obtain ⟨its,r,pl,hz⟩:=I.list hx
   have hlen:=r.length
   exact wpAny_truthy_list pl.isList (by simp only [List.size_toArray];omega) ⟨H,I.tok _,by rw [Uf r];exact q⟩
  ·subst e'
   obtain ⟨its,r,pl,hz⟩:=I.tuple hx
   have hlen:=r.length
   exact truthy_tuple pl (by simp only [List.size_toArray];omega) ⟨H,I.tok _,by rw [Uf r];exact q⟩
  ·subst e'
   obtain ⟨hz,hS,vs,r,m⟩:kvs.length<=sizeLine/\(p == sysModules)=false/\∃ vs,KV kvs vs/\s.heap.DictOf (qj X.prog X.w) p vs:=I.hok p _ hx
   have hlen:kvs.length=vs.length:=Paired.length r
   exact wpAny_truthy_dict hS m (by omega) ⟨H,I.tok _,by rw [PP r];exact q⟩
 | _=>exact (show False from e).elim
theorem MK (ha:PE X a ta)(he:∀ whole,isTrue a X.env whole=(do let v <- whole;standAt a.pos;holding [v] (truthy v))) :
  PT X a (fun σ H Q=>ta σ H fun x H'=>∃ k,TruV X.K x H' k/\Q k H'):=by
 intro pins s σ H Q I h
 exact isTrue_plain (z8 (ha pins s σ H _ I h) fun v s1 ⟨x,H1,I1,r1,q1⟩=>No pins s1 σ H1 x v Q I1 r1 q1) (he _)

theorem op_add_str:OpR X (binaryOp .Add) (fun x y H Q=>∃ i j,x = .str i/\y = .str j/\i.length + j.length<=sizeLine/\Q (.str (i++j)) H):=by
 intro pins s σ H x y v u Q I rx ry h
 obtain ⟨i,j,rfl,rfl,hz,q⟩:=h
 obtain ⟨t,rfl⟩:=rx
 obtain ⟨t',rfl⟩:=ry
 exact add_str (fun t' tk=>⟨.str (i++j),H,I.tok _,⟨_,rfl⟩,q⟩) hz
theorem zx {x:V}{us:List Value}(r:Vals [x] us):∃ u,us=[u]/\RelV x u:=by
 cases r with
 | cons r1 r2=>cases r2;exact ⟨_,rfl,r1⟩
theorem Kx {x y:V}{us:List Value}(r:Vals [x,y] us):∃ u w',us=[u,w']/\RelV x u/\RelV y w':=by
 cases r with
 | cons r1 r2 =>
  cases r2 with
  | cons r3 r4=>cases r4;exact ⟨_,_,rfl,r1,r3⟩
def LenV (K:Fg)(x:V)(H:Hp)(n:Nat):Prop :=
 match x with
 | .str y=>y.length<=sizeLine/\n=y.length
 | .byt y=>y.size<=sizeLine/\n=y.size
 | .ref p=>(∃ xs,SqL K H p xs/\n=xs.length) ∨ ∃ xs,SqT K H p xs/\n=xs.length
 | _=>False
theorem Bt:CallR X (.builtin "len") (fun xs H Q=>∃ x n,xs=[x]/\LenV X.K x H n/\Q (.int n) H):=by
 intro pins s σ H xs us Q I r h
 obtain ⟨x,n,rfl,e,q⟩:=h
 obtain ⟨u,rfl,rx⟩:=zx r
 have hl:=jX
 have hs:sizeLine=16777216:=sizeLine_eq
 cases x with
 | str y =>
  obtain ⟨t,rfl⟩:=rx
  obtain ⟨hy,e'⟩:y.length<=sizeLine/\n=y.length:=e
  subst e'
  exact len_str (by omega) ⟨.int _,H,I.tok _,⟨_,rfl⟩,q⟩
 | byt y =>
  obtain ⟨t,rfl⟩:=rx
  obtain ⟨hy,e'⟩:y.size<=sizeLine/\n=y.size:=e
  subst e'
  exact PySem.W.len_bytes (by omega) ⟨.int _,H,I.tok _,⟨_,rfl⟩,q⟩
 | ref p =>
  cases rx
  have e':(∃ xs,SqL X.K H p xs/\n=xs.length) ∨ ∃ xs,SqT X.K H p xs/\n=xs.length:=e
  rcases e' with ⟨xs,hx,e'⟩ | ⟨xs,hx,e'⟩
  ·subst e'
   obtain ⟨its,r',pl,hz⟩:=I.list hx
   have hlen:=r'.length
   exact Calls.call_len_list pl.isList (by simp only [List.size_toArray];omega) ⟨.int xs.length,H,I.tok _,⟨_,by simp only [List.size_toArray];rw [hlen]⟩,q⟩
  ·subst e'
   obtain ⟨its,r',pl,hz⟩:=I.tuple hx
   have hlen:=r'.length
   exact len_tuple pl (by simp only [List.size_toArray];omega) ⟨.int xs.length,H,I.tok _,⟨_,by simp only [List.size_toArray];rw [hlen]⟩,q⟩
 | _=>exact (show False from e).elim
end
end L2
namespace L2
open PySem PySem.Spec PyProof.Rows
structure ObjM (h:Heap)(x dx C:Addr)(mA:Str->Option Value):Prop where
 obj:h.get? x=some (PySem.W.instObj C dx)
 ns:h.Ns1 dx mA
 ne:dx ≠ x

theorem CC {h:Heap}{dx:Addr}{mA:Str->Option Value}(n:h.Ns1 dx mA):∃ od,h.get? dx=some od/\∀ name,PySem.W.lookIn name od=some (mA name):=by
 obtain ⟨o,es,ep,ho,hd,hk,_,hm⟩:=n
 refine ⟨o,ho,fun name=>?_⟩
 have e:=hm name
 unfold nsFind findBy at e
 rw [<- Array.find?_toList] at e
 unfold PySem.W.lookIn
 rw [hd]
 dsimp only
 split
 ·rename_i y q
  rw [q] at e
  exact congrArg some e
 ·rename_i q
  rw [q] at e
  have a:es.toList.any (·.refKey)=false:=by
   rw [List.any_eq_false]
   intro y hy
   obtain ⟨z,t,hkey⟩:=hk y (Array.mem_toList_iff.mp hy)
   simp [DictEntry.refKey,hkey]
  have a':¬ es.toList.any (·.refKey)=true:=by rw [a];exact Bool.false_ne_true
  rw [if_neg a']
  exact congrArg some e

theorem ObjM.look {h:Heap}{x dx C:Addr}{mA:Str->Option Value}(I:ObjM h x dx C mA):∃ od,PySem.W.InstAt h x (PySem.W.instObj C dx) C (some od)/\∀ name,PySem.W.lookIn name od=some (mA name) :=
 let ⟨od,ho,hl⟩:=CC I.ns
 ⟨od,⟨I.obj,rfl,rfl,ho⟩,hl⟩

section
variable {prog:Program}{w:World}{A:Around}{E:Value->Shared->Prop}{s:Shared}{K:Fg}{x dx C f:Addr}{mA:Str->Option Value}{name:Str}{v:Value}
theorem Pj {expr:Bool}{Q:Value->Shared->Prop}(X:K.In s.heap)(I:ObjM s.heap x dx C mA)(hg:PySem.W.plainGet K C name=true)(hh:PySem.W.hasDictIn K C=true)
  (ha:PySem.W.findIn K (.ref C) name=some none) (hv:mA name=some v) (hv':PySem.W.handedIn v=true) (h:Q v { s with toks:=s.toks + 1 }) :
  wpAny (model prog w) A (getAttr (.ref x) name expr) Q E s:=by
 obtain ⟨od,J,hl⟩:=I.look
 exact PySem.W.get_value X J (PySem.W.plainGet_of hg).1 (PySem.W.findObj_own hh ha rfl (by rw [hl,hv])) hv' h

theorem Pk {pl:Sem Bool}{Q:Value × List Value->Shared->Prop}(X:K.In s.heap)(I:ObjM s.heap x dx C mA)(hg:PySem.W.plainGet K C name=true)
  (hf:PySem.W.findIn K (.ref C) name=some (some (.ref f))) (ht:PySem.W.isFn K (.ref f)=true) (hv:mA name=none) (h:Q (.ref f,[.ref x]) s) :
  wpAny (model prog w) A (getMethod (.ref x) name pl) Q E s:=by
 obtain ⟨od,J,hl⟩:=I.look
 exact PySem.W.method_fn X J (PySem.W.plainGet_of hg).1 (PySem.W.plainGet_of hg).2 hf (beq_iff_eq.mp ht) (by show (PySem.W.lookIn name od).map (·.isSome)=some false;rw [hl,hv];rfl) h

theorem LU {ns:List Str}{Q:Unit->Shared->Prop}(X:K.In s.heap)(I:ObjM s.heap x dx C mA)
  (hs:PySem.W.findIn K (.ref C) "__setattr__"=some (some (.builtin "object.__setattr__"))) (hp:PySem.W.plainOver K C=true) (ht:PySem.W.takerIn K C name=some none) (hh:PySem.W.hasDictIn K C=true)
  (hw:PySem.Within mA ns) (hsz:ns.length<=sizeLine)
  (h:∀ h',ObjM h' x dx C (fun y=>if y=name then some v else mA y)->Heap.SameBut dx s.heap h'->Q () { s with heap:=h',toks:=s.toks + 2 }) :
  wpAny (model prog w) A (setAttr (.ref x) name v) Q E s:=by
 obtain ⟨od,J,hl⟩:=I.look
 refine PySem.W.set_plain X J hs (PySem.W.osa_open (s:={ s with toks:=s.toks + 1 }) (r:=none) X J hp ht fun b=>?_)
 obtain ⟨cd,hc,hd'⟩:=PySem.W.any_some hh
 have hx:s.heap.get? x=some ⟨.ref C,some dx,.plain,#[]⟩:=I.obj
 refine wpAny_bind (wpAny_pure (wpAny_bind (wpAny_bind (wpAny_loadPart hx (wpAny_bind (PySem.W.Looks.here (s:={ s with toks:=s.toks + 1 }) (PySem.W.looks_clsIn X hc) ?_))))))
 rw [hd']
 refine wpAny_pure (a:=some dx) (wpAny_bind (wpAny_pure (wpAny_bind ?_)))
 refine wpAny_nsSet1 (s:={ s with toks:=s.toks + 1 }) I.ns fun h' hn2 hs2=>?_
 obtain ⟨oD,esD,epD,hoD,hdD,hcD⟩:=hn2.count (PySem.Within.cons name v hw)
 refine wpAny_bind (wpAny_lookBehind hoD (by rw [hdD];exact pastItsLine_dict (Nat.le_trans hcD (by rw [List.length_cons];omega))) ?_)
 exact wpAny_pure (h _ ⟨(hs2.2 _ (Ne.symm I.ne)).trans I.obj,hn2,I.ne⟩ hs2)

theorem CF {R:Result->Shared->Prop}{vs:List Value}{kw:List (Str × Value)}(X:K.In s.heap)(hm:PySem.W.makesIn K C=true)
  (hi:PySem.W.findIn K (.ref C) "__init__"=some (some (.ref f))) (hf:PySem.W.typeIn K (.ref f)=some (.type "function"))
  (h:codeAny (model prog w) (A.under (.builtin "type.__call__" ⟨.ref C::vs,kw⟩)) (.call (.ref f) ⟨.ref (s.heap.objs.size + 1)::vs,kw⟩) (PySem.W.InitBack (s.heap.objs.size + 1) R)
   { s with heap:=(s.heap.push PySem.W.emptyDict).push (PySem.W.instObj C s.heap.objs.size) }) :
  codeAny (model prog w) A (.call (.ref C) ⟨vs,kw⟩) R s:=by
 obtain ⟨hh,g,d,t,os⟩:=s
 exact PySem.W.make_core (PySem.W.makes_of X hm) (PySem.W.looks_findIn X hi) (fun self=>PySem.W.bind_fn X self hf) (.inl rfl) h
end
def qU (f:Str)(v:V):List (Str × V)->List (Str × V)
 | []=>[(f,v)]
 | (g,x)::r=>if g=f then (g,v)::r else (g,x)::qU f v r
theorem Uy (f g:Str)(v:V):∀ fs:List (Str × V),(qU f v fs).lookup g=if g=f then some v else fs.lookup g
 | []=>by
  show List.lookup g [(f,v)]=_
  by_cases h:g=f
  ·have hb:(g == f)=true:=beq_iff_eq.mpr h
   simp only [List.lookup,hb,if_pos h]
  ·have hb:(g == f)=false:=beq_eq_false_iff_ne.mpr h
   simp only [List.lookup,hb,if_neg h]
 | (k,x)::r=>by
  have ih:=Uy f g v r
  rw [show qU f v ((k,x)::r)=(if k=f then (k,v)::r else (k,x)::qU f v r) from rfl]
  by_cases hk:k=f
  ·rw [if_pos hk]
   by_cases h:g=k
   ·have hb:(g == k)=true:=beq_iff_eq.mpr h
    simp only [List.lookup,hb,if_pos (h.trans hk)]
   ·have hb:(g == k)=false:=beq_eq_false_iff_ne.mpr h
    simp only [List.lookup,hb,if_neg (fun e:g=f=>h (e.trans hk.symm))]
  ·rw [if_neg hk]
   by_cases h:g=k
   ·have hb:(g == k)=true:=beq_iff_eq.mpr h
    simp only [List.lookup,hb,if_neg (fun e:g=f=>hk (h.symm.trans e))]
   ·have hb:(g == k)=false:=beq_eq_false_iff_ne.mpr h
    simp only [List.lookup,hb]
    exact ih
theorem JP (f:Str)(v:V):∀ fs:List (Str × V),f ∈ (qU f v fs).map (·.1)/\∀ g,g ∈ fs.map (·.1)->g ∈ (qU f v fs).map (·.1)
 | []=>⟨by simp [qU],fun g h=>by simp at h⟩
 | (k,x)::r=>by
  obtain ⟨i1,i2⟩:=JP f v r
  rw [show qU f v ((k,x)::r)=(if k=f then (k,v)::r else (k,x)::qU f v r) from rfl]
  by_cases hk:k=f
  ·rw [if_pos hk]
   subst hk
   exact ⟨by simp,fun g h=>by simpa using h⟩
  ·rw [if_neg hk]
   refine ⟨?_,fun g h=>?_⟩
   ·rw [List.map_cons]
    exact List.mem_cons_of_mem _ i1
   ·rw [List.map_cons] at h ⊢
    rcases List.mem_cons.mp h with e | e
    ·exact List.mem_cons.mpr (.inl e)
    ·exact List.mem_cons_of_mem _ (i2 g e)
theorem Us (f:Str)(v:V):∀ fs:List (Str × V),(qU f v fs).length<=fs.length + 1
 | []=>by simp [qU]
 | (k,x)::r=>by
  have ih:=Us f v r
  rw [show qU f v ((k,x)::r)=(if k=f then (k,v)::r else (k,x)::qU f v r) from rfl]
  by_cases hk:k=f
  ·rw [if_pos hk,List.length_cons,List.length_cons];omega
  ·rw [if_neg hk,List.length_cons,List.length_cons];omega

theorem RelO.some_of {v:V}{o:Option Value}(r:RelO (some v) o):∃ u,o=some u/\RelV v u:=by
 cases o with
 | none=>exact (show False from r).elim
 | some u=>exact ⟨u,rfl,r⟩
theorem RelO.none_of {o:Option Value}(r:RelO none o):o=none:=by
 cases o with
 | none=>rfl
 | some u=>exact (show False from r).elim
theorem Pm {v:V}{u:Value}(r:RelV v u):PySem.W.handedIn u=true:=by
 cases v with
 | non=>cases (show u=Value.none from r);rfl
 | bl b=>cases (show u=Value.bool b from r);rfl
 | int i=>obtain ⟨t,e⟩:=(show ∃ t,u=Value.int i t from r);cases e;rfl
 | str x=>obtain ⟨t,e⟩:=(show ∃ t,u=Value.str x t from r);cases e;rfl
 | byt b=>obtain ⟨t,e⟩:=(show ∃ t,u=Value.bytes b t from r);cases e;rfl
 | flt b=>obtain ⟨t,e⟩:=(show ∃ t,u=Value.float b t from r);cases e;rfl
 | ref a=>cases (show u=Value.ref a from r);rfl
 | ty n=>cases (show u=Value.type n from r);rfl

section
variable {P:Program}{w:World}{H H':Hp}{h h':Heap}{a C dx:Addr}{fs fs':List (Str × V)}
theorem Xy (hok:HOk P w H h)(e:H a=some (.ins C dx fs)):∃ mA,ObjM h a dx C mA/\(∀ f,RelO (fs.lookup f) (mA f))/\PySem.Within mA (fs.map (·.1))/\fs.length<=1000/\H dx=some (.own a):=by
 obtain ⟨d,z,ne,ob,mA,n,r,q⟩:=(show ObjOk P w H h a (.ins C dx fs) from hok a _ e)
 exact ⟨mA,⟨ob,n,ne⟩,r,q,z,d⟩
end
structure Cls (K:Fg)(C:Addr):Prop where
 pg:PySem.W.plainGet K C Str.empty=true
 hd:PySem.W.hasDictIn K C=true
 po:PySem.W.plainOver K C=true
 sa:PySem.W.findIn K (.ref C) "__setattr__"=some (some (.builtin "object.__setattr__"))
theorem Cls.get {K:Fg}{C:Addr}(c:Cls K C)(f:Str):PySem.W.plainGet K C f=true:=c.pg
def NoAttr (K:Fg)(C:Addr)(f:Str):Prop:=PySem.W.findIn K (.ref C) f=some none
theorem NoAttr.taker {K:Fg}{C:Addr}{f:Str}(n:NoAttr K C f):PySem.W.takerIn K C f=some none:=by
 unfold PySem.W.takerIn
 rw [show PySem.W.findIn K (.ref C) f=some none from n]
 rfl
structure wM (K:Fg)(C:Addr)(m:Str)(f:Addr):Prop where
 at_:PySem.W.findIn K (.ref C) m=some (some (.ref f))
 fn:PySem.W.isFn K (.ref f)=true
 kp:PySem.W.keepIn K (.ref f)=true

section
variable {X:Cx}{pins:List (Addr × Obj)}{σ:St}{H:Hp}{s:Shared}{a C dx:Addr}{fs:List (Str × V)}{f:Str}{v:V}{A:Around}{E:Value->Shared->Prop}
theorem Pl {b:Bool}{Q:Value->Shared->Prop}(I:Inv X pins σ H s)(e:H a=some (.ins C dx fs))(c:Cls X.K C)(n:NoAttr X.K C f)(l:fs.lookup f=some v)
  (h:∀ u s',Inv X pins σ H s'->RelV v u->Q u s'):wpAny (model X.prog X.w) A (getAttr (.ref a) f b) Q E s:=by
 obtain ⟨mA,O,r,_,_,_⟩:=Xy I.hok e
 obtain ⟨u,hu,ru⟩:=RelO.some_of (v:=v) (o:=mA f) (by rw [<- l];exact r f)
 exact Pj I.kIn O (c.get f) c.hd n hu (Pm ru) (h u _ (I.tok _) ru)

theorem JI {m:Str}{g:Addr}{pl:Sem Bool}{Q:Value × List Value->Shared->Prop}(I:Inv X pins σ H s)(e:H a=some (.ins C dx fs))(c:Cls X.K C)(k:wM X.K C m g)(l:fs.lookup m=none)
  (h:Q (.ref g,[.ref a]) s):wpAny (model X.prog X.w) A (getMethod (.ref a) m pl) Q E s:=by
 obtain ⟨mA,O,r,_,_,_⟩:=Xy I.hok e
 have hn:mA m=none:=RelO.none_of (by rw [<- l];exact r m)
 exact Pk I.kIn O (c.get m) k.at_ k.fn hn h

theorem LW {y:V}{u:Value}{Q:Unit->Shared->Prop}(I:Inv X pins σ H s)(e:H a=some (.ins C dx fs))(c:Cls X.K C)(n:NoAttr X.K C f)(hl:fs.length < 1000)(ry:RelV y u)
  (h:∀ s',Inv X pins σ (j7 H a (.ins C dx (qU f y fs))) s'->Q () s'):wpAny (model X.prog X.w) A (setAttr (.ref a) f u) Q E s:=by
 obtain ⟨mA,O,r,wi,_,ho⟩:=Xy I.hok e
 have hz:(fs.map (·.1)).length<=sizeLine:=by rw [List.length_map,sizeLine_eq];omega
 refine LU I.kIn O c.sa c.po n.taker c.hd wi hz fun h' O' sb=>h _ ?_
 have hd:∃ o,h'.get? dx=some o:=let ⟨o,_,_,e',_⟩:=O'.ns;⟨o,e'⟩
 refine I.write (x:=a) (e:=dx) (by rw [e];exact True.intro) (.inr ho) (fun b q hb z=>(sb.2 b hb).trans z) hd ?_
 refine ⟨by rw [j3 O.ne];exact ho,?_,O.ne,O'.obj,_,O'.ns,fun g=>?_,fun g hg=>?_⟩
 ·have:=Us f y fs;omega
 ·show RelO ((qU f y fs).lookup g) (if g=f then some u else mA g)
  rw [Uy]
  by_cases q:g=f
  ·rw [if_pos q,if_pos q];exact ry
  ·rw [if_neg q,if_neg q];exact r g
 ·by_cases q:g=f
  ·rw [q];exact (JP f y fs).1
  ·refine (JP f y fs).2 g (wi g fun z=>hg ?_)
   show (if g=f then some u else mA g)=none
   rw [if_neg q];exact z

theorem Inv.made (I:Inv X pins σ H s):Inv X pins σ (j7 (j7 H s.heap.objs.size (.own (s.heap.objs.size + 1))) (s.heap.objs.size + 1) (.ins C s.heap.objs.size []))
  { s with heap:=(s.heap.push PySem.W.emptyDict).push (PySem.W.instObj C s.heap.objs.size) }:=by
 have e1:(s.heap.push PySem.W.emptyDict).get? s.heap.objs.size=some PySem.W.emptyDict:=Heap.get?_push_size s.heap rfl
 have e2:((s.heap.push PySem.W.emptyDict).push (PySem.W.instObj C s.heap.objs.size)).get? (s.heap.objs.size + 1)=some (PySem.W.instObj C s.heap.objs.size):=by
  have:=Heap.get?_push_size (s.heap.push PySem.W.emptyDict) (o:=PySem.W.instObj C s.heap.objs.size) rfl
  rwa [Heap.size_push] at this
 have e3:(s.heap.push PySem.W.emptyDict).Ns s.heap.objs.size (fun _=>none):=⟨PySem.W.emptyDict,#[],_,e1,rfl,(fun e he=>absurd he (by simp)),fun _=>rfl⟩
 have I1:=I.laid (a:=s.heap.objs.size) (o:= .own (s.heap.objs.size + 1)) (h':=s.heap.push PySem.W.emptyDict) (t':=s.toks) (fun b u q=>Heap.get?_push_of_some _ q) (Nat.le_refl _) ⟨_,e1⟩
 refine I1.laid (a:=s.heap.objs.size + 1) (o:= .ins C s.heap.objs.size []) (t':=s.toks) (fun b u q=>Heap.get?_push_of_some _ q) (Nat.le_of_eq (Heap.size_push _ _)) ?_
 have ne:s.heap.objs.size ≠ s.heap.objs.size + 1:=Nat.ne_of_lt (Nat.lt_succ_self _)
 refine ⟨by rw [j3 ne,y4],Nat.zero_le _,ne,e2,fun _=>none,(Heap.Ns1.of_empty e3).at fun o q=>Heap.get?_push_of_some _ q,fun _=>True.intro,fun y hy=>absurd rfl hy⟩

theorem Bc {prog:Program}{w:World}{env:Env}{e:Expr}{f:Str}{pos:Pos}{s:Shared}{Q:Value->Shared->Prop}(hb:attributeBase e f env (eval e env)=eval e env)
  (h:wpAny (model prog w) A (eval e env) (fun o s₁=>wpAny (model prog w) A (getAttr o f true) Q E s₁) E s):wpAny (model prog w) A (eval (.Attribute e f pos) env) Q E s :=
 Attribute_any_ h (by rw [arm_eval_Attribute,hb])
end
def tFld (K:Fg)(ta:TE)(f:Str):TE:=fun σ H Q=>ta σ H fun x H1=>∃ a C dx fs v,x = .ref a/\H1 a=some (.ins C dx fs)/\Cls K C/\NoAttr K C f/\fs.lookup f=some v/\Q v H1
def QM (K:Fg)(ta tv:TE)(f:Str):TS:=fun D σ H=>tv σ H fun y H1=>ta σ H1 fun x H2=>∃ a C dx fs,x = .ref a/\H2 a=some (.ins C dx fs)/\Cls K C/\NoAttr K C f/\fs.length < 1000 /\
 D.nx σ (j7 H2 a (.ins C dx (qU f y fs)))
section
variable {X:Cx}{o e value:Expr}{f:Str}{pos pos' tpos:Pos}{ta tv:TE}
theorem Md (he:PE X e ta)(hb:attributeBase e f X.env (eval e X.env)=eval e X.env):PE X (.Attribute e f pos) (tFld X.K ta f):=by
 intro pins s σ H Q I h
 refine Bc hb (z8 (he pins s σ H _ I h) fun u s1 ⟨x,H1,I1,rx,a,C,dx,fs,v,ex,ea,c,n,l,q⟩=>?_)
 subst ex
 obtain rfl:u=Value.ref a:=rx
 exact Pl I1 ea c n l fun u' s2 I2 ru=>⟨v,H1,I2,ru,q⟩
theorem MH (ha:PE X o ta)(hv:PE X value tv)(hs:swapsWith value (some (.Attribute o f pos')) pos.line X.env=pure false):PS X (.Assign [.Attribute o f pos'] value pos) (QM X.K ta tv f):=by
 intro pins s σ H D I h
 refine plainObj_wpAny_Assign_Attribute (z8 (hv pins s σ H _ I h) fun u s1 ⟨y,H1,I1,ry,q⟩=>z8 (ha pins s1 σ H1 _ I1 q) fun ov s2 ⟨x,H2,I2,rx,a,C,dx,fs,ex,ea,c,n,l,q2⟩=>?_) hs
 subst ex
 obtain rfl:ov=Value.ref a:=rx
 exact LW I2 ea c n l ry fun s3 I3=>⟨σ,_,I3,q2⟩
theorem Hn {pl:Sem Bool}{m:Str}{apos:Pos}{args:List Expr}{pins:List (Addr × Obj)}{s:Shared}{σ:St}{H:Hp}{Q:Value->Shared->Prop}{te:TE}(he:PE X e te)(I:Inv X pins σ H s)
  (h:te σ H fun x H1=>∃ a C dx fs g,x = .ref a/\H1 a=some (.ins C dx fs)/\Cls X.K C/\wM X.K C m g/\fs.lookup m=none /\
   ∀ s1,Inv X pins σ H1 s1->wpAny (model X.prog X.w) X.A (callWith pos (.ref g) [.ref a] (backTo pos (starEach args X.env)) (backToKw pos (keywordEach [] X.env))) Q X.xe s1)
  (ht:eval (.Call (.Attribute e m apos) args [] pos) X.env=(do
   let ov <- eval e X.env
   standAt apos.atName
   let (f,first) <- holding [ov] (getMethod ov m pl)
   callWith pos f first (backTo pos (starEach args X.env)) (backToKw pos (keywordEach [] X.env)))) :
  wpAny (model X.prog X.w) X.A (eval (.Call (.Attribute e m apos) args [] pos) X.env) Q X.xe s:=by
 refine PySem.W.methodCall_KW (pl:=pl) (z8 (he pins s σ H _ I h) fun u s1 ⟨x,H1,I1,rx,a,C,dx,fs,g,ex,ea,c,k,l,q⟩=>?_) ht
 subst ex
 obtain rfl:u=Value.ref a:=rx
 exact JI I1 ea c k l (q s1 I1)
end
section
variable {X:Cx}{pins:List (Addr × Obj)}{σ:St}{H:Hp}{s:Shared}{A:Around}{E:Value->Shared->Prop}{Q:Value->Shared->Prop}{c:Value}{b:Bool}
inductive xr (K:Fg)(H:Hp):V->Value->Prop where
 | non:xr K H .non (.type "NoneType")
 | bl (x:Bool):xr K H (.bl x) (.type "bool")
 | int (i:Int):xr K H (.int i) (.type "int")
 | str (x:Str):xr K H (.str x) (.type "str")
 | flt (x:UInt64):xr K H (.flt x) (.type "float")
 | lst {a:Addr} {xs:List V} (e:H a=some (.lst xs)):xr K H (.ref a) (.type "list")
 | frz {a:Addr} {o:Obj} {xs:List V} (e:H a=some (.frz o (.lst xs))):xr K H (.ref a) (.type "list")
 | tup {a:Addr} {xs:List V} (e:H a=some (.tup xs)):xr K H (.ref a) (.type "tuple")
 | dK {a:Addr} {kvs:List (z7 × V)} (e:H a=some (.dK kvs)):xr K H (.ref a) (.type "dict")
 | dT {a:Addr} {kvs:List (List z7 × V)} (e:H a=some (.dT kvs)):xr K H (.ref a) (.type "dict")
 | ins {a C dx:Addr} {fs:List (Str × V)} (e:H a=some (.ins C dx fs)) (cl:Cls K C) (ha:PySem.W.findIn K (.ref C) "__class__"=some (some (.builtin "object.__class__")))
   (hn:PySem.W.specialIn K (.builtin "object.__class__") "__get__"=some (some (.builtin "getset_descriptor.__get__"))) (htk:PySem.W.takesIn K (.builtin "object.__class__")=some true)
   (hm:PySem.W.mroIn K C (.type "object")=some true):xr K H (.ref a) (.ref C)
theorem PY {x:V}{u t:Value}(I:Inv X pins σ H s)(rx:RelV x u)(ty:xr X.K H x t)(e:PySem.W.kitOne X.K t c=some b)(h:∀ tk,Q (.bool b) { s with toks:=tk }) :
  wpAny (model X.prog X.w) A (call (.builtin "isinstance") [u,c]) Q E s:=by
 cases ty with
 | non=>cases (show u=Value.none from rx);exact PySem.W.kia_one PySem.W.kitx_none I.kIn True.intro e (fun z=>nomatch z) h
 | bl y=>cases (show u=Value.bool y from rx);exact PySem.W.kia_one PySem.W.kitx_bool I.kIn True.intro e (fun z=>nomatch z) h
 | int i=>obtain ⟨t,q⟩:=(show ∃ t,u=Value.int i t from rx);cases q;exact PySem.W.kia_one PySem.W.kitx_int I.kIn True.intro e (fun z=>nomatch z) h
 | str y=>obtain ⟨t,q⟩:=(show ∃ t,u=Value.str y t from rx);cases q;exact PySem.W.kia_one PySem.W.kitx_str I.kIn True.intro e (fun z=>nomatch z) h
 | flt y=>obtain ⟨t,q⟩:=(show ∃ t,u=Value.float y t from rx);cases q;exact PySem.W.kia_one PySem.W.kitx_float I.kIn True.intro e (fun z=>nomatch z) h
 | @lst a xs ea =>
  cases (show u=Value.ref a from rx)
  obtain ⟨_,_,n,_,h1⟩:=(show ObjOk X.prog X.w H s.heap a (.lst xs) from I.hok a _ ea)
  exact PySem.W.kia_one PySem.W.kitx_list I.kIn ⟨_,h1,rfl⟩ e (fun z=>nomatch z) h
 | @frz a ob xs ea =>
  cases (show u=Value.ref a from rx)
  obtain ⟨_,_,_,n,_,h1⟩:=(show ObjOk X.prog X.w H s.heap a (.frz ob (.lst xs)) from I.hok a _ ea)
  exact PySem.W.kia_one PySem.W.kitx_list I.kIn ⟨_,h1,rfl⟩ e (fun z=>nomatch z) h
 | @tup a xs ea =>
  cases (show u=Value.ref a from rx)
  obtain ⟨_,_,_,p⟩:=(show ObjOk X.prog X.w H s.heap a (.tup xs) from I.hok a _ ea)
  obtain ⟨o,h1,h2,_⟩:=p
  exact PySem.W.kia_one PySem.W.kitx_tuple I.kIn ⟨o,h1,h2⟩ e (fun z=>nomatch z) h
 | @dK a kvs ea =>
  cases (show u=Value.ref a from rx)
  obtain ⟨_,_,vs,_,p⟩:=(show ObjOk X.prog X.w H s.heap a (.dK kvs) from I.hok a _ ea)
  obtain ⟨o,es,ep,h1,h2,_⟩:=p
  exact PySem.W.kia_one PySem.W.kitx_dict I.kIn ⟨o,h1,h2.1⟩ e (fun z=>nomatch z) h
 | @dT a kvs ea =>
  cases (show u=Value.ref a from rx)
  obtain ⟨_,_,xs,_,o,es,ep,h1,h2,_⟩:=(show ObjOk X.prog X.w H s.heap a (.dT kvs) from I.hok a _ ea)
  exact PySem.W.kia_one PySem.W.kitx_dict I.kIn ⟨o,h1,h2.1⟩ e (fun z=>nomatch z) h
 | @ins a C dx fs ea cl ha hn htk hm =>
  cases (show u=Value.ref a from rx)
  obtain ⟨mA,O,_⟩:=Xy I.hok ea
  obtain ⟨od,J,_⟩:=O.look
  exact PySem.W.kia_one (PySem.W.kitx_own (cl.get _) cl.hd ha hn htk hm) I.kIn J e (fun z=>nomatch z) h
end
end L2
namespace L2
open PySem PySem.Spec PyProof.Rows
structure Room (k:Nat)(A:Around):Prop where
 hd:A.handled=none
 dp:A.depth + 3 * k + 5 < recursionLimit
 un:A.units + 16 * k + 200 < cLine
theorem Room.mono {j k:Nat}{A:Around}(r:Room k A)(h:j<=k):Room j A:=⟨r.hd,by have:=r.dp;omega,by have:=r.un;omega⟩
theorem Room.deeper {k:Nat}{A:Around}(r:Room (k + 1) A)(env:Env):Room k (A.deeper env) :=
 ⟨r.hd,by have:=r.dp;show A.depth + 1 + 3 * k + 5 < _;omega,by have:=r.un;show A.units + 3 + 16 * k + 200 < _;omega⟩
theorem Room.in1 {k:Nat}{A:Around}(r:Room (k + 1) A):Room k A.in1 :=
 ⟨r.hd,by have:=r.dp;show A.depth + 3 * k + 5 < _;omega,by have:=r.un;show A.units + 1 + 16 * k + 200 < _;omega⟩
theorem CD {A:Around}{C:Addr}{us:List Value}{kw:List (Str × Value)}:(A.under (.builtin "type.__call__" ⟨.ref C::us,kw⟩)).depth=A.depth + 1:=by
 first | rfl | simp [Around.under,Code.weight,Code.isCreation,Code.isGuard,Code.isCaller,Code.frames,Code.isFrame,guardIds]
theorem CG {A:Around}{C:Addr}{us:List Value}{kw:List (Str × Value)}:(A.under (.builtin "type.__call__" ⟨.ref C::us,kw⟩)).units=A.units + 1:=by
 first | rfl | simp [Around.under,Code.cUnits,Code.frames,Code.isFrame]
theorem Room.make {k:Nat}{A:Around}(r:Room (k + 1) A)(C:Addr)(us:List Value)(kw:List (Str × Value)):Room k (A.under (.builtin "type.__call__" ⟨.ref C::us,kw⟩)) :=
 ⟨r.hd,by have:=r.dp;rw [CD];omega,by have:=r.un;rw [CG];omega⟩
theorem Room.depth {k:Nat}{A:Around}(r:Room k A):A.depth < recursionLimit:=by have:=r.dp;omega
theorem Room.units {k:Nat}{A:Around}(r:Room k A):A.units + 64 < cLine:=by have:=r.un;omega
def xU:TA:=fun _ H Q=>Q [] H
def xC (ta:TE)(tr:TA):TA:=fun σ H Q=>ta σ H fun x H1=>tr σ H1 fun xs H2=>Q (x::xs) H2
section
variable {X:Cx}{e:Expr}{es:List Expr}{te:TE}{t:TA}{pos:Pos}
theorem x9:PA X [] xU:=fun _ _ _ _ H Q I h=>Calls.spliced_nil ⟨[],H,I,.nil,h⟩
theorem q0 (ha:PE X e te)(hr:PA X es t)(hs:starEach (e::es) X.env=(false,eval e X.env)::starEach es X.env:=by rfl):PA X (e::es) (xC te t):=by
 intro pos pins s σ H Q I h
 rw [hs]
 show wpAny _ _ (spliced ((false,eval e X.env)::backTo pos (starEach es X.env))) _ _ s
 refine Calls.spliced_cons (z8 (ha pins s σ H _ I h) fun u s1 ⟨x,H1,I1,r1,q1⟩=>?_)
 exact z8 (hr pos pins s1 σ H1 _ I1 q1) fun us s2 ⟨xs,H2,I2,r2,q2⟩=>⟨x::xs,H2,I2,.cons r1 r2,q2⟩

def tTup (t:TA):TE:=fun σ H Q=>t σ H fun xs H1=>xs.length<=sizeLine/\∀ p,H1 p=none->Q (.ref p) (j7 H1 p (.tup xs))
def tLst (t:TA):TE:=fun σ H Q=>t σ H fun xs H1=>xs.length<=sizeLine/\∀ p,H1 p=none->Q (.ref p) (j7 H1 p (.lst xs))
theorem xz {x1}(h:PA X es t):PE X (.Tuple es x1 pos) (tTup t):=by
 intro pins s σ H Q I hq
 refine wpAny_Tuple_spliced (z8 (h pos pins s σ H _ I hq) fun us s1 ⟨xs,H1,I1,r,z,q⟩=>⟨by rw [<- r.length];exact z,?_⟩)
 have hf:H1 s1.heap.objs.size=none:=I1.hok.fresh (Nat.le_refl _)
 refine ⟨.ref s1.heap.objs.size,j7 H1 s1.heap.objs.size (.tup xs),I1.laid (t':=s1.toks) (fun b u e=>Heap.get?_push_of_some _ e) (Nat.le_refl _) ?_,rfl,q _ hf⟩
 exact ⟨z,us,r,⟨_,Heap.get?_push_size _ rfl,rfl,_,rfl⟩⟩
theorem zL (h:PA X es t):PE X (.List es pos) (tLst t):=by
 intro pins s σ H Q I hq
 refine wpAny_List_spliced (z8 (h pos pins s σ H _ I hq) fun us s1 ⟨xs,H1,I1,r,z,q⟩=>⟨by rw [<- r.length];exact z,?_⟩)
 have hf:H1 s1.heap.objs.size=none:=I1.hok.fresh (Nat.le_refl _)
 refine ⟨.ref s1.heap.objs.size,j7 H1 s1.heap.objs.size (.lst xs),I1.laid (t':=s1.toks) (fun b u e=>Heap.get?_push_of_some _ e) (Nat.le_refl _) ?_,rfl,q _ hf⟩
 exact ⟨z,us,0,r,Heap.get?_push_size _ rfl⟩
end
abbrev Sp:=List V->Hp->VK->XK->Prop
abbrev CXT:=List Env->Hp->Shared->XK->Value->Shared->Prop

structure Env0 (P:Program)(w:World)(K:Fg)(mg:Str->Option Value)(base:Heap)(A:Around)(outer:List Env)(s:Shared)(H:Hp):Prop where
 frames:A.frames=some outer
 mod:Mod K mg base
 bs:∀ b o,base.get? b=some o->s.heap.get? b=some o/\H b=none
 bsz:base.objs.size<=s.heap.objs.size
 funs:s.heap.FunFrames base outer
 frf:∀ b ∈ frs outer,H b=none
 hok:HOk P w H s.heap
 bare:AllBare s.gens
 tbs:∀ p ∈ TABS,H p.1=some (.tbl p.2.1 p.2.2)
def CE (outer:List Env)(P:Program)(w:World)(H:Hp)(s:Shared)(Q:VK)(u:Value)(s':Shared):Prop :=
 ∃ v H',s'.os=s.os/\AllBare s'.gens/\Un (frs outer) [] H H' s.heap s'.heap/\HOk P w H' s'.heap/\RelV v u/\Q v H'
def CR (CX:CXT)(outer:List Env)(P:Program)(w:World)(H:Hp)(s:Shared)(Q:VK)(E:XK)(r:Result)(s':Shared):Prop :=
 match r with
 | .ok (.ret u)=>CE outer P w H s Q u s'
 | .ok _=>False
 | .error e=>CX outer H s E e s'
structure FnOk (P:Program)(w:World)(K:Fg)(mg:Str->Option Value)(base:Heap)(CX:CXT)(k:Nat)(f:Addr)(fd:FuncData)(ps:List Str)(sp:Sp):Prop where
 len:∀ vs H Q E,sp vs H Q E->vs.length=ps.length
 run:∀ (A:Around) (outer:List Env) (s:Shared) (H:Hp) (args:Args) (us:List Value) (vs:List V) (Q:VK) (E:XK),Room k A->Env0 P w K mg base A outer s H->BindsTo s fd args (ps.zip us)->Vals vs us->sp vs H Q E ->
  codeAny (model P w) A (.call (.ref f) args) (CR CX outer P w H s Q E) s
theorem FnOk.imp {P:Program}{w:World}{K:Fg}{mg:Str->Option Value}{base:Heap}{CX:CXT}{k:Nat}{f:Addr}{fd:FuncData}{ps:List Str}{sp sp':Sp}(F:FnOk P w K mg base CX k f fd ps sp)
  (h:∀ vs H Q E,sp' vs H Q E->sp vs H Q E):FnOk P w K mg base CX k f fd ps sp' :=
 ⟨fun vs H Q E q=>F.len vs H Q E (h _ _ _ _ q),fun A outer s H args us vs Q E hr he hb hv hs=>F.run A outer s H args us vs Q E hr he hb hv (h _ _ _ _ hs)⟩

theorem Env0.make {P:Program}{w:World}{K:Fg}{mg:Str->Option Value}{base:Heap}{A:Around}{outer:List Env}{s:Shared}{H:Hp}(e:Env0 P w K mg base A outer s H)(C:Addr)(us:List Value)(kw:List (Str × Value)) :
  Env0 P w K mg base (A.under (.builtin "type.__call__" ⟨.ref C::us,kw⟩)) outer s H:=⟨by first | exact e.frames | (simpa [Around.under,Code.envs,Code.isFrame,pushEnvs] using e.frames),e.mod,e.bs,e.bsz,e.funs,e.frf,e.hok,e.bare,e.tbs⟩
theorem Env0.in1 {P:Program}{w:World}{K:Fg}{mg:Str->Option Value}{base:Heap}{A:Around}{outer:List Env}{s:Shared}{H:Hp}(e:Env0 P w K mg base A outer s H) :
  Env0 P w K mg base A.in1 outer s H:=⟨e.frames,e.mod,e.bs,e.bsz,e.funs,e.frf,e.hok,e.bare,e.tbs⟩

section
variable {X:Cx}{pins:List (Addr × Obj)}{σ:St}{H:Hp}{s s':Shared}
theorem Inv.env0 (I:Inv X pins σ H s):Env0 X.prog X.w X.K X.mg X.base X.A X.stack s H :=
 ⟨I.ok.frames,I.ok.mod,I.bs,Nat.le_trans I.ok.bsz I.sz,I.stack,I.stkFree,I.hok,I.bare,fun p hp=>I.base.tbls _ _ _ (I.ok.tbs p hp)⟩
theorem Inv.after {Q:VK}{u:Value}(I:Inv X pins σ H s)(h:CE X.stack X.prog X.w H s Q u s'):EP X pins σ Q u s':=by
 obtain ⟨v,H',os,bare,un,hok,r,q⟩:=h
 obtain ⟨hh,g,d,t,os'⟩:=s'
 obtain rfl:os'=s.os:=os
 exact ⟨v,H',I.call (h':=hh) (g':=g) (d':=d) (t':=t) (ch:=[]) un hok bare (fun b z=>absurd z (by simp)),r,q⟩
end
def ji (sp:Sp)(dvs:List V)(E:XK)(t:TA):TE:=fun σ H Q=>t σ H fun vs H1=>sp (vs++dvs) H1 Q E
def vB (C:Addr)(m:Str)(sp:Sp)(dvs:List V)(E:XK)(ta:TE)(t:TA):TE:=fun σ H Q=>ta σ H fun x H1=>∃ a dx fs,x = .ref a/\H1 a=some (.ins C dx fs)/\fs.lookup m=none /\
 t σ H1 fun vs H2=>sp (x::(vs++dvs)) H2 Q E
def QU (C:Addr)(sp:Sp)(dvs:List V)(E:XK)(t:TA):TE:=fun σ H Q=>t σ H fun vs H1=>∀ x dx,H1 x=none->H1 dx=none->dx ≠ x ->
 sp (.ref x::(vs++dvs)) (j7 (j7 H1 dx (.own x)) x (.ins C dx [])) (fun v H2=>v = .non/\Q (.ref x) H2) E

def Binds (K:Fg)(fd:FuncData)(ps:List Str)(ds:List Value):Prop :=
 ∀ (s:Shared) (us:List Value),K.In s.heap->(us++ds).length=ps.length->BindsTo s fd ⟨us,[]⟩ (ps.zip (us++ds))
theorem Binds.all {K:Fg}{fd:FuncData}{ps:List Str}(h:∀ us:List Value,us.length=ps.length->bindArgs fd ⟨us,[]⟩=pure (ps.zip us)):Binds K fd ps []:=fun s us _ hl=>by
 rw [List.append_nil] at hl ⊢
 exact .of_eq (h us hl)

def jI (CX:CXT)(X:Cx)(E:XK):Prop:=∀ (pins:List (Addr × Obj)) (σ:St) (H:Hp) (s:Shared) (e:Value) (s':Shared),Inv X pins σ H s->CX X.stack H s E e s'->X.xe e s'

section
variable {X:Cx}{CX:CXT}{k:Nat}{f C:Addr}{fd:FuncData}{ps:List Str}{sp:Sp}{dvs:List V}{ds:List Value}{E:XK}{x m:Str}{p pos apos:Pos}{e o:Expr}{es:List Expr}{ta:TE}{t:TA}
theorem Vs {pins:List (Addr × Obj)}{σ:St}{H:Hp}{s:Shared}{Q:VK}{us:List Value}{vs:List V}(F:FnOk X.prog X.w X.K X.mg X.base CX k f fd ps sp)(hr:Room k X.A)(hb:Binds X.K fd ps ds)(hd:Vals dvs ds)(hx:jI CX X E)
  (I:Inv X pins σ H s) (r:Vals vs us) (h:sp (vs++dvs) H Q E):wpAny (model X.prog X.w) X.A (call (.ref f) us) (EP X pins σ Q) X.xe s:=by
 have r2:Vals (vs++dvs) (us++ds):=r.append hd
 have hl:(us++ds).length=ps.length:=by rw [<- r2.length];exact F.len _ _ _ _ h
 refine wpAny_call (codeAny_mono (F.run X.A X.stack s H ⟨us,[]⟩ (us++ds) (vs++dvs) Q E hr I.env0 (hb s us I.kIn hl) r2 h) fun r s' hq=>?_)
 cases r with
 | error e=>exact hx pins σ H s e s' I hq
 | ok fl =>
  cases fl with
  | ret u=>exact I.after hq
  | next=>exact False.elim hq
  | brk=>exact False.elim hq
  | cont=>exact False.elim hq

theorem Ma (F:FnOk X.prog X.w X.K X.mg X.base CX k f fd ps sp)(hr:Room k X.A)(hg:Gl X x)(hm:X.mg x=some (.ref f))(hk:PySem.W.keepIn X.K (.ref f)=true)(hb:Binds X.K fd ps ds)(hd:Vals dvs ds)(hx:jI CX X E)
  (ha:PA X (e::es) t) (hdb:(x == ("__debug__":Str))=false:=by decide) (he:starEach (e::es) X.env=(false,eval e X.env)::starEach es X.env:=by rfl) (hpl:(backTo pos (starEach es X.env)).any (·.1)=false:=by rfl) :
  PE X (.Call (.Name x p) (e::es) [] pos) (ji sp dvs E t):=by
 intro pins s σ H Q I h
 refine wpAny_Call_Name_kw (JQ I hg hm ?_ hdb)
 refine PySem.W.callWith_K (h₀:=X.base) I.ok.mod.kin hk (z8 (ha pos pins s σ H _ I h) fun us s1 ⟨vs,H1,I1,r,q⟩=>⟨I1.kIn,?_⟩) he hpl
 exact Vs F hr hb hd hx I1 r q
theorem Mf {pl:Sem Bool}(he:PE X o ta)(c:Cls X.K C)(hm:wM X.K C m f)(F:FnOk X.prog X.w X.K X.mg X.base CX k f fd ps sp)(hr:Room k X.A)(hb:Binds X.K fd ps ds)(hd:Vals dvs ds)(hx:jI CX X E)(ha:PA X (e::es) t)
  (hst:starEach (e::es) X.env=(false,eval e X.env)::starEach es X.env:=by rfl) (hpl:(backTo pos (starEach es X.env)).any (·.1)=false:=by rfl)
  (ht:eval (.Call (.Attribute o m apos) (e::es) [] pos) X.env=(do
   let ov <- eval o X.env
   standAt apos.atName
   let (f,first) <- holding [ov] (getMethod ov m pl)
   callWith pos f first (backTo pos (starEach (e::es) X.env)) (backToKw pos (keywordEach [] X.env))):=by rfl) :
  PE X (.Call (.Attribute o m apos) (e::es) [] pos) (vB C m sp dvs E ta t):=by
 intro pins s σ H Q I h
 refine PySem.W.methodCall_KW (pl:=pl) (z8 (he pins s σ H _ I h) fun u s1 ⟨x,H1,I1,rx,a,dx,fs,ex,ea,l,q⟩=>?_) ht
 subst ex
 obtain rfl:u=Value.ref a:=rx
 refine JI I1 ea c hm l ?_
 refine PySem.W.callWith_K (first:=[.ref a]) (h₀:=X.base) I.ok.mod.kin hm.kp (z8 (ha pos pins s1 σ H1 _ I1 q) fun us s2 ⟨vs,H2,I2,r,q2⟩=>⟨I2.kIn,?_⟩) hst hpl
 exact Vs (us:= .ref a::us) (vs:= .ref a::vs) F hr hb hd hx I2 (.cons rfl r) q2
theorem Mg {pl:Sem Bool}(he:PE X o ta)(c:Cls X.K C)(hm:wM X.K C m f)(F:FnOk X.prog X.w X.K X.mg X.base CX k f fd ps sp)(hr:Room k X.A)(hb:Binds X.K fd ps ds)(hd:Vals dvs ds)(hx:jI CX X E)
  (ht:eval (.Call (.Attribute o m apos) [] [] pos) X.env=(do
   let ov <- eval o X.env
   standAt apos.atName
   let (f,first) <- holding [ov] (getMethod ov m pl)
   callWith pos f first (backTo pos (starEach [] X.env)) (backToKw pos (keywordEach [] X.env))):=by rfl) :
  PE X (.Call (.Attribute o m apos) [] [] pos) (vB C m sp dvs E ta xU):=by
 intro pins s σ H Q I h
 refine PySem.W.methodCall_KW (pl:=pl) (z8 (he pins s σ H _ I h) fun u s1 ⟨x,H1,I1,rx,a,dx,fs,ex,ea,l,q⟩=>?_) ht
 subst ex
 obtain rfl:u=Value.ref a:=rx
 refine JI I1 ea c hm l ?_
 exact PySem.W.callWith_K0 (first:=[.ref a]) I1.kIn hm.kp (Vs (us:=[.ref a]) (vs:=[.ref a]) F hr hb hd hx I1 (.cons rfl .nil) q)

structure Mk (K:Fg)(C f:Addr):Prop where
 makes:PySem.W.makesIn K C=true
 init:PySem.W.findIn K (.ref C) "__init__"=some (some (.ref f))
 fn:PySem.W.isFn K (.ref f)=true
 kp:PySem.W.keepIn K (.ref C)=true

theorem Lf {pins:List (Addr × Obj)}{σ:St}{H:Hp}{s:Shared}{Q:VK}{us:List Value}{vs:List V}(M:Mk X.K C f)(F:FnOk X.prog X.w X.K X.mg X.base CX k f fd ps sp)(hr:Room (k + 1) X.A)(hb:Binds X.K fd ps ds)(hd:Vals dvs ds)
  (hx:jI CX X E) (I:Inv X pins σ H s) (r:Vals vs us)
  (h:∀ x dx,H x=none->H dx=none->dx ≠ x->sp (.ref x::(vs++dvs)) (j7 (j7 H dx (.own x)) x (.ins C dx [])) (fun v H2=>v = .non/\Q (.ref x) H2) E) :
  wpAny (model X.prog X.w) X.A (call (.ref C) us) (EP X pins σ Q) X.xe s:=by
 have hq:=h (s.heap.objs.size + 1) s.heap.objs.size (I.hok.fresh (Nat.le_succ _)) (I.hok.fresh (Nat.le_refl _)) (Nat.ne_of_lt (Nat.lt_succ_self _))
 have I2:=Inv.made (C:=C) I
 have r2:Vals (V.ref (s.heap.objs.size + 1)::(vs++dvs)) (Value.ref (s.heap.objs.size + 1)::(us++ds)):= .cons rfl (r.append hd)
 have hl:(Value.ref (s.heap.objs.size + 1)::us++ds).length=ps.length:=by
  have e:=r2.length
  rw [F.len _ _ _ _ hq] at e
  exact e.symm
 refine wpAny_call (CF (f:=f) I.kIn M.makes M.init (beq_iff_eq.mp M.fn) (codeAny_mono (F.run _ X.stack _ _ ⟨Value.ref (s.heap.objs.size + 1)::us,[]⟩ (Value.ref (s.heap.objs.size + 1)::(us++ds)) _ _ E (hr.make C us [])
  (I2.env0.make C us []) (hb _ (Value.ref (s.heap.objs.size + 1)::us) I2.kIn hl) r2 hq) fun r s' hq'=>?_))
 cases r with
 | error e=>exact hx pins σ _ _ e s' I2 hq'
 | ok fl =>
  cases fl with
  | ret u =>
   obtain ⟨v,H',I3,rv,ev,q3⟩:=I2.after hq'
   subst ev
   exact ⟨rv,⟨V.ref (s.heap.objs.size + 1),H',I3,rfl,q3⟩⟩
  | next=>exact False.elim hq'
  | brk=>exact False.elim hq'
  | cont=>exact False.elim hq'
theorem Me (M:Mk X.K C f)(F:FnOk X.prog X.w X.K X.mg X.base CX k f fd ps sp)(hr:Room (k + 1) X.A)(hg:Gl X x)(hm:X.mg x=some (.ref C))(hb:Binds X.K fd ps ds)(hd:Vals dvs ds)(hx:jI CX X E)
  (ha:PA X (e::es) t) (hdb:(x == ("__debug__":Str))=false:=by decide) (he:starEach (e::es) X.env=(false,eval e X.env)::starEach es X.env:=by rfl) (hpl:(backTo pos (starEach es X.env)).any (·.1)=false:=by rfl) :
  PE X (.Call (.Name x p) (e::es) [] pos) (QU C sp dvs E t):=by
 intro pins s σ H Q I h
 refine wpAny_Call_Name_kw (JQ I hg hm ?_ hdb)
 refine PySem.W.callWith_K (h₀:=X.base) I.ok.mod.kin M.kp (z8 (ha pos pins s σ H _ I h) fun us s1 ⟨vs,H1,I1,r,q⟩=>⟨I1.kIn,?_⟩) he hpl
 exact Lf M F hr hb hd hx I1 r q
end
structure w4 (N P:List Str)(sc:Scope):Prop where
 kind:sc.kind = .function
 co:sc.isCoroutine=false
 gen:sc.isGenerator=false
 nd:N.Nodup
 pre:N.take P.length=P
 par:∀ x ∈ P,sc.names.lookup x=some .local ∨ sc.names.lookup x=some .cell
 nofree:∀ y ∈ sc.names,y.2 ≠ .free

theorem Ye {kindOf:Str->Option NameKind}{x:Str}:∀ {binds:List (Str × Value)} {m:Str->Option Value},(∀ v,(x,v) ∉ binds)->bindL kindOf binds m x=m x
 | [],_,_=>rfl
 | (n,v)::r,m,h=>by
  unfold bindL
  rw [Ye fun w hw=>h w (List.mem_cons_of_mem _ hw)]
  split
  ·have:x ≠ n:=by rintro rfl;exact h v List.mem_cons_self
   simp [this]
  ·rfl
theorem Yc {kindOf:Str->Option NameKind}{x:Str}:∀ {binds:List (Str × Value)} {m:Str->Option Value},(∀ v,(x,v) ∉ binds)->bindC kindOf binds m x=m x
 | [],_,_=>rfl
 | (n,v)::r,m,h=>by
  unfold bindC
  rw [Yc fun w hw=>h w (List.mem_cons_of_mem _ hw)]
  split
  ·rfl
  ·have:x ≠ n:=by rintro rfl;exact h v List.mem_cons_self
   simp [this]
theorem Yd {kindOf:Str->Option NameKind}{x:Str}{v:Value}:∀ {P:List Str} {vs:List Value} {i:Nat} {m:Str->Option Value},P.Nodup->P[i]?=some x->vs[i]?=some v->kindOf x=some .local ->
  bindL kindOf (P.zip vs) m x=some v
 | [],_,_,_,_,h,_,_=>by simp at h
 | _::_,[],_,_,_,_,h,_=>by simp at h
 | p::P,w::vs,0,m,nd,h1,h2,hk=>by
  simp at h1 h2;subst h1;subst h2
  show bindL kindOf ((p,w)::P.zip vs) m p=_
  unfold bindL
  rw [Ye fun v hv=>(List.nodup_cons.mp nd).1 (List.of_mem_zip hv).1,if_pos hk]
  simp
 | p::P,w::vs,i + 1,m,nd,h1,h2,hk=>by
  show bindL kindOf ((p,w)::P.zip vs) m x=_
  unfold bindL
  exact Yd (i:=i) (List.nodup_cons.mp nd).2 (by simpa using h1) (by simpa using h2) hk
theorem Yb {kindOf:Str->Option NameKind}{x:Str}{v:Value}:∀ {P:List Str} {vs:List Value} {i:Nat} {m:Str->Option Value},P.Nodup->P[i]?=some x->vs[i]?=some v->kindOf x ≠ some .local ->
  bindC kindOf (P.zip vs) m x=some v
 | [],_,_,_,_,h,_,_=>by simp at h
 | _::_,[],_,_,_,_,h,_=>by simp at h
 | p::P,w::vs,0,m,nd,h1,h2,hk=>by
  simp at h1 h2;subst h1;subst h2
  show bindC kindOf ((p,w)::P.zip vs) m p=_
  unfold bindC
  rw [Yc fun v hv=>(List.nodup_cons.mp nd).1 (List.of_mem_zip hv).1,if_neg hk]
  simp
 | p::P,w::vs,i + 1,m,nd,h1,h2,hk=>by
  show bindC kindOf ((p,w)::P.zip vs) m x=_
  unfold bindC
  exact Yb (i:=i) (List.nodup_cons.mp nd).2 (by simpa using h1) (by simpa using h2) hk

def start (N:List Str)(vs:List V):St:=vs.map some++List.replicate (N.length - vs.length) none

def xb (CX:CXT)(P:Program)(w:World)(K:Fg)(mg:Str->Option Value)(base:Heap)(N:List Str)(qual:Str)(scope:Scope)(f:Addr)(cd:Value)(A:Around)(outer:List Env)(s:Shared)(H:Hp)(E:XK):Cx where
 prog:=P
 w:=w
 K:=K
 mg:=mg
 base:=base
 A:=A.deeper (envOfC qual scope s.heap.objs.size f cd)
 N:=N
 s₀:=s
 H₀:=H
 env:=envOfC qual scope s.heap.objs.size f cd
 outer:=outer
 stack:=envOfC qual scope s.heap.objs.size f cd::outer
 ex:=[]
 calm:=true
 fn:=fun _=>true
 pn:=[]
 xe:=fun e s'=>wpAny (model P w) (A.deeper (envOfC qual scope s.heap.objs.size f cd)) (leaving (envOfC qual scope s.heap.objs.size f cd) e) (fun _ s''=>CX outer H s E e s'') (fun e' s''=>CX outer H s E e' s'') s'

theorem Ym {sc:Scope}{n:Nat}{x:Str}(h:sc.names.lookup x=some .cell):∃ c,(cellsFrom n sc.names []).lookup x=some c:=by
 have q:=PySem.W.cellsFrom_some sc.names n [] (.inl h)
 exact Option.isSome_iff_exists.mp q

theorem PM {CX:CXT}{P:Program}{w:World}{K:Fg}{mg:Str->Option Value}{base:Heap}{N ps:List Str}{qual:Str}{scope:Scope}{f:Addr}{cd:Value}{A:Around}{outer:List Env}{s s1:Shared}{H:Hp}{E:XK}{us:List Value}{vs:List V}
  (S:w4 N ps scope) (hd:A.handled=none) (e0:Env0 P w K mg base A outer s H) (hl:vs.length=ps.length) (r:Vals vs us)
  (x:InCallC s s.heap.objs.size (bindL (envOfC qual scope s.heap.objs.size f cd).kindOf (ps.zip us) fun _=>none) (cellsFrom (s.heap.objs.size + 1) scope.names []) (bindC (envOfC qual scope s.heap.objs.size f cd).kindOf (ps.zip us) fun _=>none) s1) :
  Inv (xb CX P w K mg base N qual scope f cd A outer s H E) [] (start N vs) H s1:=by
 have hpl:ps.length<=N.length:=by have:=congrArg List.length S.pre;rw [List.length_take] at this;omega
 obtain ⟨h1,tk,rfl,hk⟩:=x.done
 have noA:∀ b:Addr,b ∉ (xb CX P w K mg base N qual scope f cd A outer s H E).ex:=fun b z=>absurd (show b ∈ ([]:List Addr) from z) (by simp)
 refine ⟨⟨e0.mod,S.kind,rfl,rfl,Nat.le_refl _,fun y z c h1 h2=>?_,fun y hy=>?_,fun y c _ h=>?_,fun _=>hd,Around.frames_deeper e0.frames,.inr ⟨rfl,rfl⟩,fun b z=>absurd z (noA b),e0.bs,e0.bsz,fun b _ _=>noA b,fun b z=>absurd z (noA b),e0.funs,e0.frf,e0.tbs⟩,
  rfl,e0.bare,Un.kept hk,⟨_,x.toInCall.ns,fun i y v h1 h2 h3=>?_⟩,fun y c h=>⟨_,x.cell y c h⟩,e0.hok.fresh (Nat.le_refl _),fun y c h=>?_,fun p hp=>absurd (show p ∈ ([]:List (Addr × Obj)) from hp) (by simp),e0.hok.kept hk,?_⟩
 ·exact name_of_addr x.apart (PySem.mem_of_lookup h1) (PySem.mem_of_lookup h2)
 ·have hy:scope.names.lookup y=some .cell ∨ scope.names.lookup y=some .free:=hy
  rcases hy with hy | hy
  ·exact Ym hy
  ·exact absurd rfl (S.nofree _ (PySem.mem_of_lookup hy))
 ·exact Nat.le_of_lt (x.above y c (PySem.mem_of_lookup h))
 ·have hi:i < vs.length:=by
   unfold start at h2
   by_cases hi:i < vs.length
   ·exact hi
   ·rw [List.getElem?_append_right (by simpa using hi)] at h2
    rw [List.getElem?_replicate] at h2
    split at h2 <;> cases h2
  have ha:vs[i]?=some v:=by
   unfold start at h2
   rw [List.getElem?_append_left (by simpa using hi),List.getElem?_map] at h2
   cases e:vs[i]? with
   | none=>rw [e] at h2;cases h2
   | some a=>rw [e] at h2;cases h2;rfl
  obtain ⟨u,hu,rv⟩:=r.get ha
  have hp:ps[i]?=some y:=by
   rw [<- S.pre,List.getElem?_take_of_lt (by omega)];exact h1
  have ndP:ps.Nodup:=by rw [<- S.pre];exact S.nd.sublist (List.take_sublist _ _)
  refine ⟨u,rv,?_⟩
  rcases S.par y (List.mem_of_getElem? hp) with k | k
  ·exact .inl ⟨k,Yd ndP hp hu k⟩
  ·obtain ⟨c,e⟩:=Ym (n:=s.heap.objs.size + 1) k
   refine .inr ⟨.inl k,c,e,?_⟩
   have q:=x.cell y c e
   rw [Yb ndP hp hu (by show scope.names.lookup y ≠ _;rw [k];decide)] at q
   exact q
 ·exact e0.hok.fresh (Nat.le_of_lt (x.above y c (PySem.mem_of_lookup h)))
 ·unfold start
  show _=N.length
  rw [List.length_append,List.length_map,List.length_replicate]
  omega

theorem JG {CX:CXT}{P:Program}{w:World}{K:Fg}{mg:Str->Option Value}{base:Heap}{k:Nat}{f:Addr}{name qual:Str}{params:Arguments}{body:List Stmt}{scope:Scope}{dV kV doc pm cdv ct oc:Value}{an od:Option Addr}
  {osl:Array (Option Value)} {N ps:List Str} {sp:Sp} (lk:K.lookup f=some ⟨oc,od,.func (PySem.W.fnOf name qual params body scope dV kV doc pm an cdv ct),osl⟩) (hcd:PySem.W.codeIn K cdv qual=true) (S:w4 N ps scope)
  (len:∀ vs H Q E,sp vs H Q E->vs.length=ps.length)
  (hbody:∀ (A:Around) (outer:List Env) (s:Shared) (H:Hp) (vs:List V) (Q:VK) (E:XK),Room k (A.deeper (envOfC qual scope s.heap.objs.size f cdv))->sp vs H Q E ->
   ∃ t,PSs (xb CX P w K mg base N qual scope f cdv A outer s H E) body t/\t { nx:=fun _ H'=>Q .non H',rt:=Q } (start N vs) H) :
  FnOk P w K mg base CX (k + 1) f (PySem.W.fnOf name qual params body scope dV kV doc pm an cdv ct) ps sp:=by
 refine ⟨len,fun A outer s H args us vs Q E hr e0 hb r hsp=>?_⟩
 have hl:=len _ _ _ _ hsp
 have KX:K.In s.heap:=e0.mod.kin.keeps fun b o e=>(e0.bs b o e).1
 have lim:s.heap.NoLimit:=e0.mod.nolimit.keeps fun b o e=>(e0.bs b o e).1
 have hkind:∀ y ∈ ps.zip us,scope.names.lookup y.1=some .local ∨ (scope.names.lookup y.1=some .cell/\((cellsFrom (s.heap.objs.size + 1) scope.names []).lookup y.1).isSome=true):=fun ⟨n,v⟩ hy=>by
  rcases S.par n (List.of_mem_zip hy).1 with q | q
  ·exact .inl q
  ·exact .inr ⟨q,PySem.W.cellsFrom_some _ _ _ (.inl q)⟩
 refine codeAny_call_function hr.depth (KX _ _ lk) rfl S.co S.gen rfl (PySem.W.codeRec_of KX hcd) (hb _ _ _ _ ?_)
 refine wpAny_newFunctionEnv_cells S.kind hkind fun env he s1 x=>?_
 subst he
 refine ⟨lim.keeps x.toInCall.keep,codeAny_func ?_⟩
 obtain ⟨t,ht,hq⟩:=hbody A outer s H vs Q E (hr.deeper _) hsp
 have I:Inv (xb CX P w K mg base N qual scope f cdv A outer s H E) [] (start N vs) H s1:=PM S hr.hd e0 hl r x
 refine wpAny_mono (ht [] s1 (start N vs) H _ I hq) (fun fl s' hs=>?_) fun e s' hs=>hs
 have fin:∀ {σ':St} {H':Hp} {v:V} {u:Value},Inv (xb CX P w K mg base N qual scope f cdv A outer s H E) [] σ' H' s'->RelV v u->Q v H'->CE outer P w H s Q u s' :=
  fun {σ' H' v u} J rv q=>⟨v,H',J.os,J.bare,J.base,J.hok,rv,q⟩
 cases fl with
 | ret u =>
  obtain ⟨v,σ',H',J,rv,q⟩:=hs
  exact fin J rv q
 | next =>
  obtain ⟨σ',H',J,q⟩:=hs
  exact fin (v:=V.non) (u:=Value.none) J rfl q
 | brk =>
  obtain ⟨_,_,_,q⟩:=hs
  exact False.elim q
 | cont =>
  obtain ⟨_,_,_,q⟩:=hs
  exact False.elim q
end L2
namespace L2
open PySem PySem.Spec PyProof.Rows
section
variable {X:Cx}{x:Str}{p pos:Pos}{e:Expr}{es:List Expr}{t:TA}{id T:String}{r:List V->Hp->VK->Prop}
def tCB (r:List V->Hp->VK->Prop)(t:TA):TE:=fun σ H Q=>t σ H fun vs H1=>r vs H1 Q
theorem n8 (hc:CallR X (.builtin id) r)(hg:Gl X x)(hm:X.mg x=none)(hv:bootBuiltins x=some (.builtin id))(ha:PA X (e::es) t)(hn:x ≠ "__name__":=by decide) (hdb:(x == ("__debug__":Str))=false:=by decide)
  (he:starEach (e::es) X.env=(false,eval e X.env)::starEach es X.env:=by rfl) (hpl:(backTo pos (starEach es X.env)).any (·.1)=false:=by rfl):PE X (.Call (.Name x p) (e::es) [] pos) (tCB r t):=by
 intro pins s σ H Q I h
 refine wpAny_Call_Name_kw (jz I hg hm hv ?_ hn hdb)
 exact PyProof.Rows.callWith_builtin1 (z8 (ha pos pins s σ H _ I h) fun us s1 ⟨vs,H1,I1,r1,q1⟩=>hc pins s1 σ H1 vs us Q I1 r1 q1) he hpl
theorem vm (hc:CallR X (.type T) r)(hg:Gl X x)(hm:X.mg x=none)(hv:bootBuiltins x=some (.type T))(ha:PA X (e::es) t)(hn:x ≠ "__name__":=by decide) (hdb:(x == ("__debug__":Str))=false:=by decide)
  (he:starEach (e::es) X.env=(false,eval e X.env)::starEach es X.env:=by rfl) (hpl:(backTo pos (starEach es X.env)).any (·.1)=false:=by rfl):PE X (.Call (.Name x p) (e::es) [] pos) (tCB r t):=by
 intro pins s σ H Q I h
 refine wpAny_Call_Name_kw (jz I hg hm hv ?_ hn hdb)
 exact PyProof.Rows.callWith_type1 (z8 (ha pos pins s σ H _ I h) fun us s1 ⟨vs,H1,I1,r1,q1⟩=>hc pins s1 σ H1 vs us Q I1 r1 q1) he hpl
end
end L2
namespace HT
open PySem PyProof.Rows
section
variable {prog:Program}{w:World}{A:Around}{E:Value->Shared->Prop}{s:Shared}
theorem cat_tup {t b:Addr}{vs ws:List Value}{Q:Value->Shared->Prop}(ht:IsTup s.heap t vs.toArray)(hb:IsTup s.heap b ws.toArray)(hv:vs ≠ [])
  (h1:ws=[]->Q (.ref t) s) (h2:ws ≠ []->Q (.ref s.heap.objs.size) { s with heap:=s.heap.push { cls:= .type "tuple",data:= .seq (vs++ws).toArray } })
  (hsz:vs.length + ws.length<=sizeLine):wpAny (model prog w) A (binaryOp .Add (.ref t) (.ref b)) Q E s:=by
 obtain ⟨⟨cls,dd,data,sl⟩,ho,hc,n,hd⟩:=id ht
 obtain ⟨⟨cls2,dd2,data2,sl2⟩,ho2,hc2,n2,hd2⟩:=id hb
 simp only at hc hd hc2 hd2
 subst hc hd hc2 hd2
 have e:vs.toArray++ws.toArray=(vs++ws).toArray:=by simp
 by_cases hw:ws=[]
 ·exact concat_meets ⟨_,ho,rfl⟩ ⟨_,ho2,rfl⟩ noFill_tuple_add seq_tuple_add PySem.F.slot_tuple_add PySem.F.entry_tuple_add (PySem.F.args_tuple_add_2 _ _)
   (tuple_addW1 t b vs.toArray ws.toArray n n2 dd dd2 sl sl2 (by simpa using hv) (by simp [hw])) ⟨ho,ho2,h1 hw⟩
 ·refine concat_meets ⟨_,ho,rfl⟩ ⟨_,ho2,rfl⟩ noFill_tuple_add seq_tuple_add PySem.F.slot_tuple_add PySem.F.entry_tuple_add (PySem.F.args_tuple_add_2 _ _)
   (tuple_addW2 t b vs.toArray ws.toArray n n2 dd dd2 sl sl2 (by simpa using hv) (by simpa using hw) (by rw [List.size_toArray,List.size_toArray];exact hsz)) ⟨ho,ho2,?_⟩
  rw [e]
  exact h2 hw

def sIx (n d:Nat):Option Int->Nat
 | none=>d
 | some v=>if v < 0 then (v + (n:Int)).toNat else min v.toNat n
end
end HT
namespace L2
open PySem PySem.Spec PyProof.Rows
abbrev TO:=St->Hp->(Option Int->Hp->Prop)->Prop
def PO (X:Cx)(e:Option Expr)(t:TO):Prop :=
 ∀ (pins:List (Addr × Obj)) (s:Shared) (σ:St) (H:Hp) (Q:Option Int->Hp->Prop),Inv X pins σ H s->t σ H Q ->
  wpAny (model X.prog X.w) X.A (evalPart e X.env) (fun u s'=>∃ o H',Inv X pins σ H' s'/\IsPart u o/\Q o H') X.xe s
def Kd:TO:=fun _ H Q=>Q none H
def Kf (t:TE):TO:=fun σ H Q=>t σ H fun x H1=>∃ i,x = .int i/\Q (some i) H1

section
variable {X:Cx}{e:Expr}{te:TE}{lo hi:Option Expr}{tl th:TO}{pos p2:Pos}
theorem My:PO X none Kd:=by
 intro pins s σ H Q I h
 rw [evalPart_none]
 exact wpAny_pure ⟨none,H,I,.none,h⟩
theorem Mz (h:PE X e te):PO X (some e) (Kf te):=by
 intro pins s σ H Q I hw
 rw [evalPart_some]
 refine z8 (h pins s σ H _ I hw) fun u s1 ⟨x,H1,I1,r1,q1⟩=>?_
 obtain ⟨i,rfl,q⟩:=q1
 obtain ⟨t,rfl⟩:=r1
 exact ⟨some i,H1,I1,.int i t,q⟩

def SlR (X:Cx)(r:V->Option Int->Option Int->Hp->VK->Prop):Prop :=
 ∀ (pins:List (Addr × Obj)) (s:Shared) (σ:St) (H:Hp) (x:V) (v vl vu:Value) (lo hi:Option Int) (sl:Addr) (Q:VK),Inv X pins σ H s->RelV x v->s.heap.IsSliceOf sl vl vu .none->IsPart vl lo->IsPart vu hi->r x lo hi H Q ->
  ∃ T id,typeLookup (.type T) "__getitem__"=pure (some (.builtin id))/\s.TypeIs v T/\wpAny (model X.prog X.w) X.A (getItem v (.ref sl)) (EP X pins σ Q) X.xe s
def tSl (r:V->Option Int->Option Int->Hp->VK->Prop)(te:TE)(tl th:TO):TE:=fun σ H Q=>te σ H fun x H1=>tl σ H1 fun l H2=>th σ H2 fun u H3=>r x l u H3 Q
theorem Mj {r:V->Option Int->Option Int->Hp->VK->Prop}(hr:SlR X r)(he:PE X e te)(hl:PO X lo tl)(hu:PO X hi th):PE X (.Subscript e (.Slice lo hi none p2) pos) (tSl r te tl th):=by
 intro pins s σ H Q I h
 refine Subscript_ (z8 (he pins s σ H _ I h) fun v s1 ⟨x,H1,I1,r1,q1⟩=>?_)
 refine wpAny_Slice (z8 (hl pins s1 σ H1 _ I1 q1) fun vl s2 ⟨l,H2,I2,pl,q2⟩=>z8 (hu pins s2 σ H2 _ I2 q2) fun vu s3 ⟨u,H3,I3,pu,q3⟩=>?_)
 rw [evalPart_none]
 refine wpAny_pure ?_
 have I4:Inv X pins σ H3 { s3 with heap:=s3.heap.push { cls:= .type "slice",data:= .fields #[vl,vu,.none] } }:=I3.kept (t':=s3.toks) fun b ob q=>Heap.get?_push_of_some _ q
 obtain ⟨T,id,hT,ht,hg⟩:=hr pins { s3 with heap:=s3.heap.push { cls:= .type "slice",data:= .fields #[vl,vu,.none] } } σ H3 x v vl vu l u s3.heap.objs.size Q I4 r1 (Heap.IsSliceOf.new ..) pl pu q3
 show wpAny (model X.prog X.w) X.A (subscriptTail e (.Slice lo hi none p2) v (.ref s3.heap.objs.size)) (EP X pins σ Q) X.xe { s3 with heap:=s3.heap.push { cls:= .type "slice",data:= .fields #[vl,vu,.none] } }
 exact tail_any (ops:=[.ref s3.heap.objs.size,v]) ht hT hg (by with_unfolding_all rfl)

def vP (xs:List V)(lo hi:Option Int):List V:=(xs.drop (HT.sIx xs.length 0 lo)).take (HT.sIx xs.length xs.length hi - HT.sIx xs.length 0 lo)
theorem BK (xs:List V)(lo hi:Option Int):(vP xs lo hi).length<=xs.length:=by
 unfold vP
 rw [List.length_take,List.length_drop]
 omega
def Gi (K:Fg):R2:=fun x y H Q=>∃ a b xs ys,x = .ref a/\y = .ref b/\SqT K H a xs/\SqT K H b ys/\xs ≠ []/\xs.length + ys.length<=sizeLine /\
 (ys=[]->Q (.ref a) H)/\(ys ≠ []->∀ p,H p=none->Q (.ref p) (j7 H p (.tup (xs++ys))))
theorem Vals.nil_iff {xs:List V}{us:List Value}(r:Vals xs us):us=[] ↔ xs=[]:=by
 cases r with
 | nil=>simp
 | cons _ _=>simp
theorem DQ:OpR X (binaryOp .Add) (Gi X.K):=by
 intro pins s σ H x y v u Q I rx ry h
 obtain ⟨a,b,xs,ys,rfl,rfl,ha,hb,hx,hz,q1,q2⟩:=h
 cases rx
 cases ry
 obtain ⟨its,r1,p1,_⟩:=I.tuple ha
 obtain ⟨its2,r2,p2,_⟩:=I.tuple hb
 refine HT.cat_tup p1 p2 (fun z=>hx (r1.nil_iff.mp z)) (fun z=>⟨.ref a,H,I,rfl,q1 (r2.nil_iff.mp z)⟩) (fun z=>?_) (by rw [<- r1.length,<- r2.length];exact hz)
 refine ⟨.ref s.heap.objs.size,_,I.laid (t':=s.toks) (o:= .tup (xs++ys)) (fun b ob q=>Heap.get?_push_of_some _ q) (Nat.le_refl _) ?_,rfl,q2 (fun w=>z (r2.nil_iff.mpr w)) _ (I.hok.fresh (Nat.le_refl _))⟩
 exact ⟨by rw [List.length_append];exact hz,_,r1.append r2,IsTup.new _ _⟩
end
end L2
namespace L2
open PySem PySem.Spec PyProof.Rows
def ixN (n:Nat)(i:Int):Option Nat:=if 0<=i then (if i < n then some i.toNat else none) else if -(n:Int)<=i then some (i + n).toNat else none
def atI {α:Type}(xs:List α)(i:Int):Option α:=(ixN xs.length i).bind fun j=>xs[j]?
theorem Ui {n:Nat}{i:Int}{j:Nat}(h:ixN n i=some j):seqIndex? i n=some j/\j < n/\-(n:Int)<=i/\i < n:=by
 unfold ixN at h
 by_cases h0:0<=i
 ·rw [if_pos h0] at h
  by_cases h1:i < n
  ·rw [if_pos h1] at h
   have e:i.toNat=j:=Option.some.inj h
   exact ⟨by rw [seqIndex_of h0 h1,e],by omega,by omega,h1⟩
  ·rw [if_neg h1] at h;cases h
 ·rw [if_neg h0] at h
  by_cases h1:-(n:Int)<=i
  ·rw [if_pos h1] at h
   have e:(i + n).toNat=j:=Option.some.inj h
   exact ⟨by rw [seqIndex_neg (by omega) h1,e],by omega,h1,by omega⟩
  ·rw [if_neg h1] at h;cases h
theorem Jm {α:Type}{xs:List α}{i:Int}{v:α}(h:atI xs i=some v):∃ j,seqIndex? i xs.length=some j/\xs[j]?=some v/\j < xs.length/\-(xs.length:Int)<=i/\i < xs.length:=by
 unfold atI at h
 cases e:ixN xs.length i with
 | none=>rw [e] at h;cases h
 | some j =>
  rw [e] at h
  obtain ⟨h1,h2,h3,h4⟩:=Ui e
  exact ⟨j,h1,h,h2,h3,h4⟩
theorem jM {α:Type}{xs:List α}{j:Nat}{v:α}(h:xs[j]?=some v):atI xs (j:Int)=some v:=by
 have hj:j < xs.length:=(List.getElem?_eq_some_iff.mp h).1
 have e:ixN xs.length (j:Int)=some j:=by
  unfold ixN
  rw [if_pos (by omega),if_pos (by omega)];simp
 unfold atI;rw [e];exact h
def KR (b:Expr):Prop:=∀ o i,subscripted b false o i=operate [o,i] (getItem o i)
def IxR (X:Cx)(r:R2):Prop :=
 ∀ (value slice:Expr) (pins:List (Addr × Obj)) (s:Shared) (σ:St) (H:Hp) (x y:V) (v u:Value) (Q:VK),Inv X pins σ H s->RelV x v->RelV y u->r x y H Q ->
  subscripted slice false v u=operate [v,u] (getItem v u)->wpAny (model X.prog X.w) X.A (subscriptTail value slice v u) (EP X pins σ Q) X.xe s
def MtR (X:Cx)(id:String)(r:V->List V->Hp->VK->Prop):Prop :=
 ∀ (pins:List (Addr × Obj)) (s:Shared) (σ:St) (H:Hp) (x:V) (xs:List V) (v:Value) (us:List Value) (Q:VK),Inv X pins σ H s->RelV x v->Vals xs us->r x xs H Q ->
  wpAny (model X.prog X.w) X.A (call (.builtin id) (v::us)) (EP X pins σ Q) X.xe s
section
variable {X:Cx}{a b:Expr}{ta tb:TE}{pos:Pos}
theorem IxR.or {r r':R2}(h:IxR X r)(h':IxR X r'):IxR X (fun x y H Q=>r x y H Q ∨ r' x y H Q):=by
 intro value slice pins s σ H x y v u Q I rx ry q hs
 rcases q with q | q
 ·exact h value slice pins s σ H x y v u Q I rx ry q hs
 ·exact h' value slice pins s σ H x y v u Q I rx ry q hs
theorem y9 {r:R2}(hr:IxR X r)(ha:PE X a ta)(hb:PE X b tb)(hs:KR b):PE X (.Subscript a b pos) (tOp r ta tb):=by
 intro pins s σ H Q I h
 exact Subscript_ (binT ha hb I h fun v u s2 x y H2 I2 rx ry q=>hr a b pins s2 σ H2 x y v u Q I2 rx ry q (hs _ _))

def rIxL (K:Fg):R2:=fun x y H Q=>∃ p xs i v,x = .ref p/\y = .int i/\SqL K H p xs/\atI xs i=some v/\Q v H
def rIxT (K:Fg):R2:=fun x y H Q=>∃ p xs i v,x = .ref p/\y = .int i/\SqT K H p xs/\atI xs i=some v/\Q v H
def rIxS:R2:=fun x y H Q=>∃ z i c,x = .str z/\y = .int i/\z.length<=sizeLine/\atI z.cps.toList i=some c/\Q (.str ⟨#[c]⟩) H
theorem ix_list:IxR X (rIxL X.K):=by
 intro value slice pins s σ H x y v u Q I rx ry h hs
 obtain ⟨p,xs,i,z,rfl,rfl,hq,he,q⟩:=h
 cases rx
 obtain ⟨t,rfl⟩:=ry
 obtain ⟨its,r,pl,hz⟩:=I.list hq
 obtain ⟨j,h1,h2,h3,h4,h5⟩:=Jm he
 obtain ⟨w,ew,rw'⟩:=r.get h2
 have hl:=r.length
 have hn:=jX
 have fin:EP X pins σ Q w s:=⟨z,H,I,rw',q⟩
 by_cases h0:0<=i
 ·have hj:i.toNat=j:=by
   rw [seqIndex_of h0 h5] at h1
   exact Option.some.inj h1
  exact item_listR pl.isList h0 (by omega) (by rw [hj];simpa using ew) fin hs
 ·have hj:(i + (its.toArray.size:Int)).toNat=j:=by
   rw [seqIndex_neg (by omega) h4] at h1
   rw [List.size_toArray,<- hl]
   exact Option.some.inj h1
  exact subscriptTail_builtinR (x:=w) pl.isList.typeIs slot_list_getitem.lookup
   (wpAny_getItem_list_neg (Q:=fun r s'=>r=w/\EP X pins σ Q r s') pl.isList (by omega) (by rw [List.size_toArray] <;> omega) (by omega) (by rw [hj];simpa using ew) ⟨rfl,fin⟩) hs
theorem ix_tup:IxR X (rIxT X.K):=by
 intro value slice pins s σ H x y v u Q I rx ry h hs
 obtain ⟨p,xs,i,z,rfl,rfl,hq,he,q⟩:=h
 cases rx
 obtain ⟨t,rfl⟩:=ry
 obtain ⟨its,r,pl,hz⟩:=I.tuple hq
 obtain ⟨j,h1,h2,h3,h4,h5⟩:=Jm he
 obtain ⟨w,ew,rw'⟩:=r.get h2
 have hl:=r.length
 have hn:=jX
 have fin:EP X pins σ Q w s:=⟨z,H,I,rw',q⟩
 exact subscriptTail_builtinR (x:=w) pl.typeIs slot_tuple_getitem.lookup
  (getItem_tuple (j:=j) (Q:=fun r s'=>r=w/\EP X pins σ Q r s') pl (by omega) (by omega) (by rw [List.size_toArray,<- hl];exact h1) (by simpa using ew) ⟨rfl,fin⟩) hs
theorem Ch:IxR X rIxS:=by
 intro value slice pins s σ H x y v u Q I rx ry h hs
 obtain ⟨z,i,c,rfl,rfl,hz,he,q⟩:=h
 obtain ⟨t,rfl⟩:=rx
 obtain ⟨t',rfl⟩:=ry
 obtain ⟨j,h1,h2,h3,h4,h5⟩:=Jm he
 have hl:z.cps.toList.length=z.length:=by simp [Str.length]
 rw [hl] at h1 h4 h5
 have hn:=jX
 exact tail_any (typeIs_str s z t) slot_str_getitem.lookup (getItem_str (c:=c) (by
  have e1:decide (i < -(2 ^ 63:Int))=false:=decide_eq_false (by omega)
  have e2:decide (i >= 2 ^ 63)=false:=decide_eq_false (by omega)
  rw [e1,e2,Bool.or_false]) (by rw [h1];simpa using h2) ⟨.str ⟨#[c]⟩,H,I.tok _,⟨_,rfl⟩,q⟩) hs
def rIx (K:Fg):R2:=fun x y H Q=>rIxL K x y H Q ∨ rIxT K x y H Q ∨ rIxS x y H Q
theorem Cg:IxR X (rIx X.K):=ix_list.or (ix_tup.or Ch)

theorem CI (its:List Value)(n j:Nat)(u:Value):Obj.mapSeq (·.setIfInBounds j u) { cls:= .type "list",data:= .seq its.toArray n }={ cls:= .type "list",data:= .seq (its.set j u).toArray n }:=by
 simp [Obj.mapSeq]
theorem Inv.lst {pins:List (Addr × Obj)}{σ:St}{H:Hp}{s:Shared}{p:Addr}{xs:List V}(I:Inv X pins σ H s)(h:H p=some (.lst xs)) :
  ∃ (its:List Value) (n:Nat),Vals xs its/\s.heap.get? p=some { cls:= .type "list",data:= .seq its.toArray n }/\xs.length<=sizeLine:=by
 obtain ⟨z,its,n,r,e⟩:=I.hok p _ h
 exact ⟨its,n,r,e,z⟩
theorem Inv.lstUpd {pins:List (Addr × Obj)}{σ:St}{H:Hp}{s:Shared}{p:Addr}{xs ys:List V}{its its':List Value}{n n':Nat}{f:Obj->Obj}(I:Inv X pins σ H s)(h:H p=some (.lst xs))
  (ho:s.heap.get? p=some { cls:= .type "list",data:= .seq its.toArray n }) (hf:f { cls:= .type "list",data:= .seq its.toArray n }={ cls:= .type "list",data:= .seq its'.toArray n' }) (r:Vals ys its') (hz:ys.length<=sizeLine) (t:Nat) :
  Inv X pins σ (j7 H p (.lst ys)) { s with heap:=s.heap.update p f,toks:=t }:=by
 have e:(s.heap.update p f).get? p=some { cls:= .type "list",data:= .seq its'.toArray n' }:=by
  rw [Heap.get?_update_self f ho (by rw [hf] <;> rfl),hf]
 refine I.write (x:=p) (e:=p) (by rw [h];trivial) (.inl rfl) (fun b u hb q=>(Heap.get?_update_other _ _ (Ne.symm hb)).trans q) ⟨_,e⟩ ?_
 exact ⟨hz,its',n',r,e⟩
def Zf:V->V->V->Hp->(Hp->Prop)->Prop:=fun o i v H Q=>∃ p xs k j,o = .ref p/\i = .int k/\H p=some (.lst xs)/\ixN xs.length k=some j/\Q (j7 H p (.lst (xs.set j v)))
theorem QO:PSet X Zf:=by
 intro pins s σ H o i v ov iv u Q I ro ri rv h
 obtain ⟨p,xs,k,j,rfl,rfl,hp,hj,q⟩:=h
 cases ro
 obtain ⟨t,rfl⟩:=ri
 obtain ⟨its,n,r,ho,hz⟩:=I.lst hp
 obtain ⟨h1,h2,h3,h4⟩:=Ui hj
 have hl:=r.length
 have hn:=jX
 have I':Inv X pins σ (j7 H p (.lst (xs.set j v))) { s with heap:=s.heap.update p (Obj.mapSeq (·.setIfInBounds j u)) } :=
  I.lstUpd hp ho (CI its n j u) (r.set rv j) (by rw [List.length_set];exact hz) s.toks
 by_cases h0:0<=k
 ·have hk:k.toNat=j:=by
   rw [seqIndex_of h0 h4] at h1
   exact Option.some.inj h1
  exact PySem.W.ki_setAt ho h0 (by omega) (by rw [List.size_toArray,<- hl];exact h4) (by rw [hk];exact ⟨_,I',q⟩)
 ·have hk:(k + (its.toArray.size:Int)).toNat=j:=by
   rw [seqIndex_neg (by omega) h3] at h1
   rw [List.size_toArray,<- hl]
   exact Option.some.inj h1
  exact PySem.W.ki_setBack ho (by omega) (by rw [List.size_toArray,<- hl];exact h3) (by omega) (by rw [hk];exact ⟨_,I',q⟩)

theorem Na (lo hi:Option Int)(n:Nat):(sliceBounds lo hi none n).1=((HT.sIx n 0 lo:Nat):Int)/\(sliceBounds lo hi none n).2.1=((HT.sIx n n hi:Nat):Int)/\(sliceBounds lo hi none n).2.2=1:=by
 refine ⟨?_,?_,rfl⟩
 ·cases lo with
  | none=>simp [sliceBounds,HT.sIx]
  | some i =>
   simp only [sliceBounds,HT.sIx,Option.getD_none,show (1:Int) > 0 by decide,if_true]
   by_cases h:i < 0
   ·simp only [h,if_true] <;> omega
   ·simp only [h,if_false] <;> omega
 ·cases hi with
  | none=>simp [sliceBounds,HT.sIx]
  | some i =>
   simp only [sliceBounds,HT.sIx,Option.getD_none,show (1:Int) > 0 by decide,if_true]
   by_cases h:i < 0
   ·simp only [h,if_true] <;> omega
   ·simp only [h,if_false] <;> omega
theorem LZ (its:List Value)(lo hi:Option Int):slicePick its.toArray lo hi none=((its.drop (HT.sIx its.length 0 lo)).take (HT.sIx its.length its.length hi - HT.sIx its.length 0 lo)).toArray:=by
 obtain ⟨h1,h2,h3⟩:=Na lo hi its.toArray.size
 unfold slicePick
 rw [h1,h2,h3]
 simp only [sliceRange_one,pick_run,List.size_toArray] <;> rfl
def rSlL (K:Fg):V->Option Int->Option Int->Hp->VK->Prop:=fun x lo hi H Q=>∃ a xs,x = .ref a/\SqL K H a xs/\∀ p,H p=none->Q (.ref p) (j7 H p (.lst (vP xs lo hi)))
theorem LX:SlR X (rSlL X.K):=by
 intro pins s σ H x v vl vu lo hi sl Q I rx hs pl pu h
 obtain ⟨a,xs,rfl,hx,q⟩:=h
 cases rx
 obtain ⟨its,r,ht,hz⟩:=I.list hx
 have hlen:=r.length
 refine ⟨"list",_,slot_list_getitem.lookup,ht.isList.typeIs,?_⟩
 refine wpAny_getItem_list_slice ht.isList hs pl pu .none (by simp) ?_ (by rw [List.size_toArray] <;> omega)
 rw [LZ,<- hlen]
 refine ⟨.ref s.heap.objs.size,_,I.laid (t':=s.toks) (o:= .lst (vP xs lo hi)) (fun b ob q=>Heap.get?_push_of_some _ q) (Nat.le_refl _) ?_,rfl,q _ (I.hok.fresh (Nat.le_refl _))⟩
 exact ⟨Nat.le_trans (BK xs lo hi) hz,_,0,(r.drop (HT.sIx xs.length 0 lo)).take (HT.sIx xs.length xs.length hi - HT.sIx xs.length 0 lo),Heap.get?_push_size _ rfl⟩

def y8:V->Bool
 | .non=>true
 | .bl _=>true
 | .int _=>true
 | .str _=>true
 | _=>false
def qf:V->V->Bool
 | .non,.non=>true
 | .bl a,.bl b=>a == b
 | .bl a,.int b=>(if a then 1 else 0) == b
 | .int a,.bl b=>a == (if b then 1 else 0)
 | .int a,.int b=>a == b
 | .str a,.str b=>a == b
 | _,_=>false
theorem JA {A:Around}{s:Shared}{y x:V}{u v:Value}(ry:RelV y u)(rx:RelV x v)(fy:y8 y=true)(fx:y8 x=true):SeqAt.EqAt A s u v (qf y x):=by
 cases y with
 | non =>
  cases ry
  cases x with
  | non=>cases rx;exact SeqAt.EqAt.same _
  | bl b=>cases rx;exact SeqAt.EqAt.none_bool b
  | int b=>obtain ⟨t,rfl⟩:=rx;exact SeqAt.EqAt.none_int b t
  | str b=>obtain ⟨t,rfl⟩:=rx;exact SeqAt.EqAt.none_str b t
  | _=>exact absurd (show false=true from fx) Bool.false_ne_true
 | bl a =>
  cases ry
  cases x with
  | non=>cases rx;exact SeqAt.EqAt.bool_none a
  | bl b=>cases rx;exact SeqAt.EqAt.bool_bool a b
  | int b=>obtain ⟨t,rfl⟩:=rx;exact SeqAt.EqAt.bool_int a b t
  | str b=>obtain ⟨t,rfl⟩:=rx;exact SeqAt.EqAt.bool_str a b t
  | _=>exact absurd (show false=true from fx) Bool.false_ne_true
 | int a =>
  obtain ⟨t',rfl⟩:=ry
  cases x with
  | non=>cases rx;exact SeqAt.EqAt.int_none a t'
  | bl b=>cases rx;exact SeqAt.EqAt.int_bool a t' b
  | int b=>obtain ⟨t,rfl⟩:=rx;exact SeqAt.EqAt.int_int a t' b t
  | str b=>obtain ⟨t,rfl⟩:=rx;exact SeqAt.EqAt.int_str a t' b t
  | _=>exact absurd (show false=true from fx) Bool.false_ne_true
 | str a =>
  obtain ⟨t',rfl⟩:=ry
  cases x with
  | non=>cases rx;exact SeqAt.EqAt.str_none a t'
  | bl b=>cases rx;exact SeqAt.EqAt.str_bool a t' b
  | int b=>obtain ⟨t,rfl⟩:=rx;exact SeqAt.EqAt.str_int a t' b t
  | str b=>obtain ⟨t,rfl⟩:=rx;exact SeqAt.EqAt.str_str a t' b t
  | _=>exact absurd (show false=true from fx) Bool.false_ne_true
 | _=>exact absurd (show false=true from fy) Bool.false_ne_true
def eqU (x:V)(u:Value):Bool:=match u with
 | .none=>qf .non x
 | .bool b=>qf (.bl b) x
 | .int i _=>qf (.int i) x
 | .str z _=>qf (.str z) x
 | _=>false
theorem JB {x y:V}{u:Value}(r:RelV y u)(f:y8 y=true):eqU x u=qf y x:=by
 cases y with
 | non=>cases r;rfl
 | bl b=>cases r;rfl
 | int i=>obtain ⟨t,rfl⟩:=r;rfl
 | str z=>obtain ⟨t,rfl⟩:=r;rfl
 | _=>exact absurd (show false=true from f) Bool.false_ne_true
theorem Jk {x:V}:∀ {xs:List V} {us:List Value},Vals xs us->xs.all y8=true->us.any (eqU x)=xs.any fun y=>qf y x
 | _,_,.nil,_=>rfl
 | y::xs,u::us,.cons r t,f=>by
  rw [List.all_cons,Bool.and_eq_true] at f
  rw [List.any_cons,List.any_cons,JB r f.1,Jk t f.2]
theorem XO {A:Around}{s:Shared}{x:V}{v:Value}(rx:RelV x v)(fx:y8 x=true):∀ {xs:List V} {us:List Value},Vals xs us->xs.all y8=true->∀ u ∈ us,SeqAt.EqAt A s u v (eqU x u)
 | _,_,.nil,_=>fun u hu=>by cases hu
 | y::xs,u::us,.cons r t,f=>fun u' hu=>by
  rw [List.all_cons,Bool.and_eq_true] at f
  rcases List.mem_cons.mp hu with rfl | hu
  ·rw [JB r f.1];exact JA r rx f.1 fx
  ·exact XO rx fx t f.2 u' hu
def inV (x:V)(xs:List V):Bool:=xs.any fun y=>qf y x
def rIn (K:Fg)(neg:Bool):R2:=fun x y H Q=>∃ p xs,y = .ref p/\(SqL K H p xs ∨ SqT K H p xs)/\y8 x=true/\xs.all y8=true/\Q (.bl (if neg then !inV x xs else inV x xs)) H
theorem DR:OpR X (compareOp .In) (rIn X.K false):=by
 intro pins s σ H x y v u Q I rx ry h
 obtain ⟨p,xs,rfl,hq,fx,fs,q⟩:=h
 cases ry
 rcases hq with hq | hq
 ·obtain ⟨its,r,pl,hz⟩:=I.list hq
  refine SeqAt.in_listAt (eqU x) pl.isList (fun w hw=>XO rx fx r fs w (by simpa using hw)) ⟨.bl _,H,I,rfl,?_⟩
  rw [show its.toArray.any (eqU x)=its.any (eqU x) by simp,Jk r fs]
  exact q
 ·obtain ⟨its,r,pl,hz⟩:=I.tuple hq
  refine SeqAt.in_tupleAt (eqU x) pl (fun w hw=>XO rx fx r fs w (by simpa using hw)) ⟨.bl _,H,I,rfl,?_⟩
  rw [show its.toArray.any (eqU x)=its.any (eqU x) by simp,Jk r fs]
  exact q
theorem Bx:CallR X (.builtin "len") (fun xs H Q=>∃ p ys,xs=[.ref p]/\(SqL X.K H p ys ∨ SqT X.K H p ys)/\Q (.int ys.length) H):=by
 intro pins s σ H xs us Q I r h
 obtain ⟨p,ys,rfl,hq,q⟩:=h
 obtain ⟨u,rfl,rx⟩:=zx r
 cases rx
 have hn:=jX
 rcases hq with hq | hq
 ·obtain ⟨its,r',pl,hz⟩:=I.list hq
  have hlen:=r'.length
  exact Calls.call_len_list pl.isList (by simp only [List.size_toArray] <;> omega) ⟨.int ys.length,H,I.tok _,⟨s.toks + 1,by rw [List.size_toArray,hlen]⟩,q⟩
 ·obtain ⟨its,r',pl,hz⟩:=I.tuple hq
  have hlen:=r'.length
  exact len_tuple pl (by simp only [List.size_toArray] <;> omega) ⟨.int ys.length,H,I.tok _,⟨s.toks + 1,by rw [List.size_toArray,hlen]⟩,q⟩
theorem CallR.or {f:Value}{r r':List V->Hp->VK->Prop}(h:CallR X f r)(h':CallR X f r'):CallR X f (fun xs H Q=>r xs H Q ∨ r' xs H Q):=by
 intro pins s σ H xs us Q I rs q
 rcases q with q | q
 ·exact h pins s σ H xs us Q I rs q
 ·exact h' pins s σ H xs us Q I rs q
theorem By:CallR X (.type "list") (fun xs H Q=>∃ p ys,xs=[.ref p]/\(SqL X.K H p ys ∨ SqT X.K H p ys)/\∀ l,H l=none->Q (.ref l) (j7 H l (.lst ys))):=by
 intro pins s σ H xs us Q I r h
 obtain ⟨p,ys,rfl,hq,q⟩:=h
 obtain ⟨u,rfl,rx⟩:=zx r
 cases rx
 have fin:∀ (its:List Value),Vals ys its->ys.length<=sizeLine->∀ (h':Heap) (c':Nat),(∀ b o',s.heap.get? b=some o'->h'.get? b=some o') ->
   h'.get? s.heap.objs.size=some { cls:= .type "list",dict:=none,data:= .seq its.toArray c',slots:=#[] }->EP X pins σ Q (.ref s.heap.objs.size) { s with heap:=h' }:=fun its r' hz h' c' kp e =>
  ⟨.ref s.heap.objs.size,_,I.laid (t':=s.toks) kp (Nat.le_refl _) (show ObjOk X.prog X.w _ h' _ (.lst ys) from ⟨hz,its,c',r',e⟩),rfl,q _ (I.hok.fresh (Nat.le_refl _))⟩
 rcases hq with hq | hq
 ·obtain ⟨its,r',pl,hz⟩:=I.list hq
  have hlen:=r'.length
  obtain ⟨o,ho,hc,n,hd⟩:=pl.isList
  exact call_list_seq p (.inl rfl) ho hc hd (fun h' c' kp e=>fin its r' hz h' c' kp e) (by simp only [List.size_toArray] <;> omega)
 ·obtain ⟨its,r',pl,hz⟩:=I.tuple hq
  have hlen:=r'.length
  obtain ⟨o,ho,hc,n,hd⟩:=pl
  exact call_list_seq p (.inr rfl) ho hc hd (fun h' c' kp e=>fin its r' hz h' c' kp e) (by simp only [List.size_toArray] <;> omega)
def tyV (K:Fg)(T:String)(x:V)(H:Hp):Prop:=match x with
 | .str _=>T = "str"
 | .int _=>T = "int"
 | .ref p=>(T = "list"/\∃ xs,SqL K H p xs) ∨ (T = "tuple"/\∃ o,K.lookup p=some o/\o.cls = .type "tuple"/\o.dict=none) ∨
   (T = "dict"/\((∃ kvs,H p=some (.dK kvs)) ∨ ∃ kvs,H p=some (.dT kvs))) ∨ (T = "set"/\∃ S n,H p=some (.set S n))
 | _=>False
theorem NB {pins:List (Addr × Obj)}{σ:St}{H:Hp}{s:Shared}{T:String}{x:V}{v:Value}(I:Inv X pins σ H s)(r:RelV x v)(ty:tyV X.K T x H) :
  s.TypeIs v T/\∀ a,v = .ref a->∃ ob,s.heap.get? a=some ob/\ob.dict=none:=by
 cases x with
 | str z =>
  obtain ⟨t,rfl⟩:=r
  cases (show T = "str" from ty)
  exact ⟨typeIs_str s z t,fun _ e=>nomatch e⟩
 | int i =>
  obtain ⟨t,rfl⟩:=r
  cases (show T = "int" from ty)
  exact ⟨typeIs_int s i t,fun _ e=>nomatch e⟩
 | ref p =>
  cases r
  rcases ty with ⟨rfl,xs,hq⟩ | ⟨rfl,o,hk,hc,hd⟩ | ⟨rfl,hk⟩ | ⟨rfl,S,n,hk⟩
  ·obtain ⟨its,_,pl,_⟩:=I.list hq
   refine ⟨pl.isList.typeIs,fun a e=>?_⟩
   cases e
   obtain ⟨o,n,e,c,hd,_⟩:=pl
   exact ⟨o,e,hd⟩
  ·refine ⟨⟨o,I.kIn p o hk,hc⟩,fun a e=>?_⟩
   cases e
   exact ⟨o,I.kIn _ o hk,hd⟩
  ·have z:∃ o,s.heap.get? p=some o/\o.ExactDict:=by
    rcases hk with ⟨kvs,hk⟩ | ⟨kvs,hk⟩
    ·obtain ⟨_,_,_,_,o,_,_,e,ex,_⟩:=I.hok p _ hk
     exact ⟨o,e,ex⟩
    ·obtain ⟨_,_,_,_,o,_,_,e,ex,_⟩:=I.hok p _ hk
     exact ⟨o,e,ex⟩
   obtain ⟨o,e,ex⟩:=z
   refine ⟨⟨o,e,ex.1⟩,fun a e2=>?_⟩
   cases e2
   exact ⟨o,e,ex.2.1⟩
  ·obtain ⟨o,_,_,_,e,ex,_⟩:=I.hok p _ hk
   refine ⟨⟨o,e,ex.1⟩,fun a e2=>?_⟩
   cases e2
   exact ⟨o,e,ex.2.1⟩
 | _=>exact False.elim ty
def tBM (K:Fg)(T:String)(r:V->List V->Hp->VK->Prop)(to:TE)(t:TA):TE:=fun σ H Q=>to σ H fun x H1=>tyV K T x H1/\t σ H1 fun xs H2=>r x xs H2 Q
variable {o e:Expr}{es:List Expr}{to:TE}{t:TA}{name:Str}{apos cpos:Pos}{T id:String}{r:V->List V->Hp->VK->Prop}
theorem pe_bm (pa:PlainAttrs T)(slot:Slot T name id)(hty:typeOf (.builtin id)=pure (.type "method_descriptor")) (hm:MtR X id r) (ho:PE X o to) (ha:PA X (e::es) t)
  (hbase:attributeBase o name X.env (eval o X.env)=eval o X.env:=by rfl)
  (hfew:((backTo cpos (starEach (e::es) X.env)).all (fun x=>!x.1) && (backToKw cpos (keywordEach [] X.env)).all (fun x=>x.1.isSome)
   && decide ((e::es).length + ([]:List Keyword).length + (if ([]:List Keyword).isEmpty then 0 else 1) < 30))=true:=by rfl)
  (hline:(apos.endLine == cpos.line)=true:=by rfl) (hs:starEach (e::es) X.env=(false,eval e X.env)::starEach es X.env:=by rfl) (hplain:(backTo cpos (starEach es X.env)).any (·.1)=false:=by rfl) :
  PE X (.Call (.Attribute o name apos) (e::es) [] cpos) (tBM X.K T r to t):=by
 intro pins s σ H Q I h
 refine wpAny_Call_method_late hbase hfew hline rfl (z8 (ho pins s σ H _ I h) fun v s1 ⟨x,H1,I1,r1,ty,q1⟩=>?_)
 obtain ⟨h1,h2⟩:=NB I1 r1 ty
 refine ⟨T,id,pa,slot,hty,h1,h2,?_⟩
 have hA:=ha cpos pins s1 σ H1 _ I1 q1
 rw [hs] at hA ⊢
 refine Calls.callWith_builtin (by show (false || (backTo cpos (starEach es X.env)).any (·.1))=false;rw [hplain] <;> rfl) (Calls.evalArgs_plain ?_)
 exact z8 hA fun us s2 ⟨vs,H2,I2,r2,q2⟩=>hm pins s2 σ H2 x vs v us Q I2 r1 r2 q2
end
end L2
namespace L2
open PySem PySem.Spec PyProof.Rows
def MtM (X:Cx)(id:String)(r:V->List V->Hp->VK->Prop):Prop :=
 ∀ (pins:List (Addr × Obj)) (s:Shared) (σ:St) (H:Hp) (x:V) (xs:List V) (v:Value) (us:List Value) (Q:VK),Inv X pins σ H s->RelV x v->Vals xs us->r x xs H Q ->
  wpAny (model X.prog X.w) X.A (call (.builtin id) (v::us)) (EP X pins σ Q) X.xe s

theorem Vals.one:∀ {x:V} {us:List Value},Vals [x] us->∃ u,us=[u]/\RelV x u
 | _,_,.cons r .nil=>⟨_,rfl,r⟩
theorem Vals.eraseIdx:∀ {xs:List V} {us:List Value} (i:Nat),Vals xs us->Vals (xs.eraseIdx i) (us.eraseIdx i)
 | _,_,_,.nil=> .nil
 | _,_,0,.cons _ t=>t
 | _,_,i + 1,.cons r t=> .cons r (Vals.eraseIdx i t)
theorem Vals.rep {xs:List V}{us:List Value}(h:Vals xs us):∀ k:Nat,Vals (List.replicate k xs).flatten (List.replicate k us).flatten
 | 0=> .nil
 | k + 1=>by
  rw [List.replicate_succ,List.replicate_succ,List.flatten_cons,List.flatten_cons]
  exact Vals.append h (Vals.rep h k)
theorem Ur {α:Type}:∀ (l:List α) (i:Nat),(l.eraseIdx i).length<=l.length
 | [],_=>Nat.le_refl _
 | _::_,0=>Nat.le_succ _
 | _::r,i + 1=>Nat.succ_le_succ (Ur r i)
theorem YU (its:List Value):∀ (k:Nat) (acc:List Value),
  List.foldl (fun x1 x2=>x1++x2) acc.toArray (List.replicate k its.toArray)=(acc++(List.replicate k its).flatten).toArray
 | 0,acc=>by simp
 | k + 1,acc=>by
  have e:acc.toArray++its.toArray=(acc++its).toArray:=by simp
  have e2:(acc++its)++(List.replicate k its).flatten=acc++(List.replicate (k + 1) its).flatten:=by
   rw [List.replicate_succ,List.flatten_cons,List.append_assoc]
  rw [<- e2,<- YU its k (acc++its),<- e,List.replicate_succ,List.foldl_cons]

section
variable {X:Cx}{pins:List (Addr × Obj)}{σ:St}{H:Hp}{s:Shared}{l b:Addr}{xs ys zs:List V}
theorem Inv.lset {its its':List Value}{n:Nat}{f:Array Value->Array Value}{t':Nat}(I:Inv X pins σ H s)(hH:H l=some (.lst xs))
  (e:s.heap.get? l=some { cls:= .type "list",data:= .seq its.toArray n }) (hf:f its.toArray=its'.toArray) (hv:Vals ys its') (hz:ys.length<=sizeLine) :
  Inv X pins σ (j7 H l (.lst ys)) { s with heap:=s.heap.update l (Obj.mapSeq f),toks:=t' }:=by
 have q:=PySem.IsL.update e f
 rw [hf] at q
 refine I.write (x:=l) (e:=l) (by rw [hH];exact trivial) (.inl rfl) (fun b' u hb hu=>(Heap.get?_update_other s.heap (Obj.mapSeq f) (Ne.symm hb)).trans hu) ⟨_,q⟩ ?_
 exact ⟨hz,its',_,hv,q⟩
theorem Inv.lnew {its:List Value}{t':Nat}(I:Inv X pins σ H s)(hv:Vals ys its)(hz:ys.length<=sizeLine) :
  Inv X pins σ (j7 H s.heap.objs.size (.lst ys)) { s with heap:=s.heap.push { cls:= .type "list",data:= .seq its.toArray },toks:=t' } :=
 I.laid (fun _ _ q=>Heap.get?_push_of_some _ q) (Nat.le_refl _) ⟨hz,its,0,hv,Heap.get?_push_size _ rfl⟩
theorem Inv.fresh (I:Inv X pins σ H s):H s.heap.objs.size=none:=I.hok.fresh (Nat.le_refl _)
theorem Inv.lstM (I:Inv X pins σ H s)(hH:H l=some (.lst xs)):xs.length<=sizeLine/\∃ (its:List Value) (n:Nat),Vals xs its/\xs.length=its.length/\s.heap.get? l=some { cls:= .type "list",data:= .seq its.toArray n }:=by
 obtain ⟨z,its,n,r,e⟩:=I.hok l _ hH
 exact ⟨z,its,n,r,r.length,e⟩

theorem CL {n:Nat}(h:n<=sizeLine):Builtin.List.listTooLong n=false:=by
 unfold Builtin.List.listTooLong
 exact decide_eq_false (by omega)
end
section
variable {X:Cx}
def Gg:V->List V->Hp->VK->Prop:=fun x vs H Q=>∃ l xs y,x = .ref l/\vs=[y]/\H l=some (.lst xs)/\xs.length < sizeLine/\Q .non (j7 H l (.lst (xs++[y])))
theorem UC:MtM X "list.append" Gg:=by
 intro pins s σ H x vs v us Q I rx rv h
 obtain ⟨l,xs,y,rfl,rfl,hH,hz,q⟩:=h
 cases rx
 obtain ⟨u,rfl,ru⟩:=rv.one
 obtain ⟨z,its,n,r,hl,e⟩:=I.lstM hH
 refine call_meets F.slot_list_append ⟨_,e,rfl⟩ F.entry_list_append (F.args_list_append_2 _ _) (PySem.list_append l its.toArray n u (by rw [List.size_toArray];omega)) ⟨e,?_⟩
 refine ⟨.non,_,I.lset (its':=its++[u]) hH e (by simp) (r.append (.cons ru .nil)) ?_,rfl,q⟩
 rw [List.length_append,List.length_singleton]
 omega

def Gp:V->List V->Hp->VK->Prop:=fun x vs H Q=>∃ l xs i k y,x = .ref l/\vs=[.int i]/\H l=some (.lst xs)/\-(2 ^ 63)<=i/\i < 2 ^ 63/\seqIndex? i xs.length=some k/\xs[k]?=some y/\Q y (j7 H l (.lst (xs.eraseIdx k)))
theorem UE:MtM X "list.pop" Gp:=by
 intro pins s σ H x vs v us Q I rx rv h
 obtain ⟨l,xs,i,k,y,rfl,rfl,hH,h1,h2,hk,hy,q⟩:=h
 cases rx
 obtain ⟨u,rfl,ru⟩:=rv.one
 obtain ⟨t,rfl⟩:=ru
 obtain ⟨z,its,n,r,hl,e⟩:=I.lstM hH
 obtain ⟨w,hw,rw'⟩:=r.get hy
 refine call_meets F.slot_list_pop ⟨_,e,rfl⟩ F.entry_list_pop (F.args_list_pop_2 _ _)
  (MeetsSeq.list_pop_at l its.toArray n i t k w (fitsIndex_both h1 h2) (by rw [List.size_toArray,<- hl];exact hk) (by rw [<- Array.getElem?_toList];exact hw) (by rw [List.size_toArray];omega)) ⟨e,?_⟩
 refine ⟨y,_,I.lset (its':=its.eraseIdx k) hH e ?_ (r.eraseIdx k) ?_,rw',q⟩
 ·show its.toArray.eraseIdxIfInBounds k=(its.eraseIdx k).toArray
  rw [List.eraseIdxIfInBounds_toArray]
 ·have:=Ur xs k
  omega

def rRep:R2:=fun x y H Q=>∃ l k xs,x = .ref l/\y = .int k/\H l=some (.lst xs)/\-(2 ^ 63)<=k/\k < 2 ^ 63/\xs.length * k.toNat<=sizeLine /\
 ∀ p,H p=none->Q (.ref p) (j7 H p (.lst (List.replicate k.toNat xs).flatten))
theorem Cw {α:Type}(xs:List α)(k:Nat):(List.replicate k xs).flatten.length=k * xs.length:=by
 induction k with
 | zero=>simp
 | succ k ih=>rw [List.replicate_succ,List.flatten_cons,List.length_append,ih,Nat.succ_mul,Nat.add_comm]
theorem DV:OpR X (binaryOp .Mult) rRep:=by
 intro pins s σ H x y v u Q I rx ry h
 obtain ⟨l,k,xs,rfl,rfl,hH,h1,h2,hz,q⟩:=h
 cases rx
 obtain ⟨t,rfl⟩:=ry
 obtain ⟨z,its,n,r,hl,e⟩:=I.lstM hH
 have hlen:its.toArray.size * k.toNat<=sizeLine:=by rw [List.size_toArray,<- hl];exact hz
 have hcap:¬ its.toArray.size * k.toNat > (2 ^ 63 - 1) / 8:=by
  have:(sizeLine:Nat)<=(2 ^ 63 - 1) / 8:=by decide
  omega
 have hfit:¬ (!Builtin.List.listFitsIndex k)=true:=by
  rw [fitsIndex_both h1 h2]
  exact Bool.false_ne_true
 have hlong:¬ Builtin.List.listTooLong (its.toArray.size * k.toNat)=true:=by
  rw [CL hlen]
  exact Bool.false_ne_true
 have hnew:List.foldl (fun x1 x2=>x1++x2) #[] (List.replicate (if its.toArray.isEmpty=true then 0 else k.toNat) its.toArray)=(List.replicate k.toNat its).flatten.toArray:=by
  have f0:∀ m:Nat,List.foldl (fun x1 x2=>x1++x2) #[] (List.replicate m its.toArray)=(List.replicate m its).flatten.toArray:=fun m=>by
   have:=YU its m []
   rw [List.nil_append] at this
   exact this
  rw [f0]
  cases its with
  | nil=>simp
  | cons a r'=>rw [if_neg (by simp)]
 refine wpAny_binaryOp_repeat_ref (T := "list") (U := "int") (by decide) ⟨_,e,rfl⟩ (fun s'=>typeIs_int s' k t) noFill_list_mul F.fills_int_mul F.slot_int_rmul repeat_list F.slot_int_index.lookup
  (call_meets F.slot_int_rmul (typeIs_int s k t) F.entry_int_rmul (F.args_int_rmul_2 _ _) (int___rmul___int_list k t l its.toArray n)
   ⟨e,rfl,⟨_,e,rfl⟩,call_meets F.slot_list_mul ⟨_,e,rfl⟩ F.entry_list_mul (F.args_list_mul_2 _ _) (AutoListH.list___mul___list_int_3 l its.toArray n k t hfit hcap hlong) ⟨e,?_⟩⟩)
 rw [hnew]
 exact ⟨.ref _,_,I.lnew (t':=s.toks) (r.rep k.toNat) (by rw [Cw,Nat.mul_comm];exact hz),rfl,q _ I.fresh⟩

end
end L2
namespace L2
open PySem PySem.Spec PyProof.Rows
section
variable {κ:Type}[DecidableEq κ]
def qP (kvs:List (κ × V))(k:κ):Option V:=(kvs.find? fun kv=>decide (kv.1=k)).map (·.2)
def zc (kvs:List (κ × V))(k:κ)(v:V):List (κ × V) :=
 if (kvs.any fun kv=>decide (kv.1=k))=true then kvs.map (fun kv=>if kv.1=k then (kv.1,v) else kv) else kvs++[(k,v)]
theorem VJ {p:κ × V}{r:List (κ × V)}{k:κ}(e:p.1=k):qP (p::r) k=some p.2:=by simp [qP,List.find?_cons,e]
theorem VI {p:κ × V}{r:List (κ × V)}{k:κ}(e:¬ p.1=k):qP (p::r) k=qP r k:=by simp [qP,List.find?_cons,e]
theorem VH (k:κ):∀ kvs:List (κ × V),(kvs.any fun kv=>decide (kv.1=k))=(qP kvs k).isSome
 | []=>rfl
 | p::r=>by
  rw [List.any_cons]
  by_cases e:p.1=k
  ·simp only [VJ e,decide_eq_true e,Bool.true_or,Option.isSome_some]
  ·rw [VI e,decide_eq_false e,Bool.false_or];exact VH k r
theorem Ut (kvs:List (κ × V))(k:κ)(v:V):(zc kvs k v).length<=kvs.length + 1:=by
 unfold zc
 split
 ·rw [List.length_map];omega
 ·rw [List.length_append,List.length_cons,List.length_nil];omega
theorem RelO.isSome_eq {o:Option V}{u:Option Value}(r:RelO o u):o.isSome=u.isSome:=by
 cases o with
 | none=>cases u with
  | none=>rfl
  | some _=>exact (show False from r).elim
 | some _=>cases u with
  | none=>exact (show False from r).elim
  | some _=>rfl
theorem KV.val {kvs:List (κ × V)}{vs:List (κ × Value)}(r:KV kvs vs)(k:κ):RelO (qP kvs k) (valueAt vs k):=by
 unfold KV at r
 induction r with
 | nil=>exact True.intro
 | @cons p q ps qs h t ih =>
  obtain ⟨h1,h2⟩:=h
  by_cases e:p.1=k
  ·have e':q.1=k:=h1.symm.trans e
   have b:valueAt (q::qs) k=some q.2:=by simp [valueAt,List.find?_cons,e']
   rw [VJ e,b];exact h2
  ·have e':¬ q.1=k:=fun z=>e (h1.trans z)
   have b:valueAt (q::qs) k=valueAt qs k:=by simp [valueAt,List.find?_cons,e']
   rw [VI e,b];exact ih
theorem KV.any {kvs:List (κ × V)}{vs:List (κ × Value)}(r:KV kvs vs)(k:κ):(kvs.any fun kv=>decide (kv.1=k))=vs.any fun kv=>decide (kv.1=k):=by
 unfold KV at r
 induction r with
 | nil=>rfl
 | cons h t ih=>rw [List.any_cons,List.any_cons,ih,h.1]
theorem KV.repl {kvs:List (κ × V)}{vs:List (κ × Value)}(r:KV kvs vs)(k:κ){y:V}{u:Value}(ry:RelV y u) :
  KV (kvs.map fun kv=>if kv.1=k then (kv.1,y) else kv) (vs.map fun kv=>if kv.1=k then (kv.1,u) else kv):=by
 unfold KV at r ⊢
 induction r with
 | nil=>exact .nil
 | @cons p q ps qs h t ih =>
  rw [List.map_cons,List.map_cons]
  refine .cons ?_ ih
  obtain ⟨h1,h2⟩:=h
  by_cases e:p.1=k
  ·rw [if_pos e,if_pos (h1.symm.trans e)];exact ⟨h1,ry⟩
  ·rw [if_neg e,if_neg (fun z=>e (h1.trans z))];exact ⟨h1,h2⟩
theorem KV.put {kvs:List (κ × V)}{vs:List (κ × Value)}(r:KV kvs vs)(k:κ){y:V}{u:Value}(ry:RelV y u):KV (zc kvs k y) (stored vs k u):=by
 unfold zc stored
 rw [r.any k]
 by_cases e:(vs.any fun kv=>decide (kv.1=k))=true
 ·rw [if_pos e,if_pos e];exact r.repl k ry
 ·rw [if_neg e,if_neg e];exact Paired.snoc r ⟨rfl,ry⟩
theorem KV.length {kvs:List (κ × V)}{vs:List (κ × Value)}(r:KV kvs vs):kvs.length=vs.length:=Paired.length r
end
theorem Ql {P:Program}{w:World}{k:z7}{u:Value}(r:RelV (kV k) u):(qj P w).is k u=true:=by
 cases k with
 | inl i=>obtain ⟨t,e⟩:=(show ∃ t,u=Value.int i t from r);subst e;exact CJ P w i t
 | inr x=>obtain ⟨t,e⟩:=(show ∃ t,u=Value.str x t from r);subst e;exact JZ P w x t
theorem Uh {P:Program}{w:World}:∀ {ks:List z7} {us:List Value},Vals (ks.map kV) us->ItemsAre (qj P w) ks us
 | [],_,r=>by rw [List.map_nil] at r;cases r;exact .nil
 | k::ks,_,r=>by
  rw [List.map_cons] at r
  cases r with
  | cons h t=>exact .cons (Ql h) (Uh t)

abbrev KT (H:Hp):List (List z7 × V)->List (List z7 × Addr × Value)->Prop:=Paired fun p q=>p.1=q.1/\H q.2.1=some (.tup (p.1.map kV))/\RelV p.2 q.2.2
theorem KT.val {H:Hp}{kvs:List (List z7 × V)}{xs:List (List z7 × Addr × Value)}(r:KT H kvs xs)(k:List z7):RelO (qP kvs k) ((atKey xs k).map (·.2)):=by
 induction r with
 | nil=>exact True.intro
 | @cons p q ps qs h t ih =>
  obtain ⟨h1,_,h2⟩:=h
  by_cases e:p.1=k
  ·have e':q.1=k:=h1.symm.trans e
   have b:atKey (q::qs) k=some q.2:=by simp [atKey,List.find?_cons,e']
   rw [VJ e,b];exact h2
  ·have e':¬ q.1=k:=fun z=>e (h1.trans z)
   have b:atKey (q::qs) k=atKey qs k:=by simp [atKey,List.find?_cons,e']
   rw [VI e,b];exact ih
theorem KT.repl {H:Hp}{kvs:List (List z7 × V)}{xs:List (List z7 × Addr × Value)}(r:KT H kvs xs)(k:List z7){y:V}{u:Value}(ry:RelV y u) :
  KT H (kvs.map fun kv=>if kv.1=k then (kv.1,y) else kv) (xs.map (putAt k u)):=by
 induction r with
 | nil=>exact .nil
 | @cons p q ps qs h t ih =>
  rw [List.map_cons,List.map_cons]
  refine .cons ?_ ih
  obtain ⟨h1,h2,h3⟩:=h
  unfold putAt
  by_cases e:p.1=k
  ·rw [if_pos e,if_pos (h1.symm.trans e)];exact ⟨h1,h2,ry⟩
  ·rw [if_neg e,if_neg (fun z=>e (h1.trans z))];exact ⟨h1,h2,h3⟩
theorem KT.put {H:Hp}{kvs:List (List z7 × V)}{xs:List (List z7 × Addr × Value)}(r:KT H kvs xs)(k:List z7){b:Addr}{y:V}{u:Value}(hb:H b=some (.tup (k.map kV)))(ry:RelV y u) :
  KT H (zc kvs k y) (storedH xs k b u):=by
 have e:(kvs.any fun kv=>decide (kv.1=k))=(atKey xs k).isSome:=by
  rw [VH,(r.val k).isSome_eq,Option.isSome_map]
 unfold zc storedH
 rw [e]
 by_cases q:(atKey xs k).isSome=true
 ·rw [if_pos q,if_pos q];exact r.repl k ry
 ·rw [if_neg q,if_neg q];exact Paired.snoc r ⟨rfl,hb,ry⟩
theorem KT.keeps {H H':Hp}{kvs:List (List z7 × V)}{xs:List (List z7 × Addr × Value)}(r:KT H kvs xs)(ht:∀ b ys,H b=some (.tup ys)->H' b=some (.tup ys)):KT H' kvs xs :=
 Paired.mapP r fun _ _ z=>⟨z.1,ht _ _ z.2.1,z.2.2⟩

section
variable {P:Program}{w:World}{H:Hp}{h:Heap}{a:Addr}
theorem Gw {u:HO}(ok:HOk P w H h)(e:Rd H a u):ObjOk P w H h a u:=e.ok ok
theorem vT {kvs:List (z7 × V)}(ok:HOk P w H h)(e:Rd H a (.dK kvs)):kvs.length<=sizeLine/\(a == sysModules)=false/\∃ vs,KV kvs vs/\h.DictOf (qj P w) a vs :=
 show ObjOk P w H h a (.dK kvs) from Gw ok e
theorem dk_of {kvs:List (z7 × V)}(ok:HOk P w H h)(e:H a=some (.dK kvs)):kvs.length<=sizeLine/\(a == sysModules)=false/\∃ vs,KV kvs vs/\h.DictOf (qj P w) a vs:=vT ok (.inl e)
theorem XA {ks:List z7}(ok:HOk P w H h)(e:H a=some (.tup (ks.map kV))):(tupleKind (qj P w)).is h ks a:=by
 obtain ⟨_,its,r,o,h1,h2,n,h3⟩:=(show ObjOk P w H h a (.tup (ks.map kV)) from ok a _ e)
 exact ⟨o,its.toArray,n,h1,h2,h3,by simpa using Uh r⟩
theorem Xm {kvs:List (List z7 × V)}(ok:HOk P w H h)(e:Rd H a (.dT kvs)):kvs.length<=sizeLine/\(a == sysModules)=false /\
  ∃ xs,KT H kvs xs/\h.DictOfH (tupleKind (qj P w)) a xs:=by
 obtain ⟨z,y,xs,r,o,es,ep,h1,h2,h3,h4,h5⟩:=(show ObjOk P w H h a (.dT kvs) from Gw ok e)
 refine ⟨z,y,xs,r,o,es,ep,h1,h2,h3,h4,fun x hx=>?_,h5⟩
 have all:∀ {l:List (List z7 × V)} {m:List (List z7 × Addr × Value)},KT H l m->∀ x ∈ m,(tupleKind (qj P w)).is h x.1 x.2.1:=by
  intro l m q
  induction q with
  | nil=>intro x hx;exact nomatch hx
  | @cons p q ps qs hq t ih =>
   intro x hx
   rcases List.mem_cons.mp hx with e | hx
   ·subst e
    exact XA ok (by rw [<- hq.1];exact hq.2.1)
   ·exact ih x hx
 exact all r x hx
theorem dt_of {kvs:List (List z7 × V)}(ok:HOk P w H h)(e:H a=some (.dT kvs)):kvs.length<=sizeLine/\(a == sysModules)=false /\
  ∃ xs,KT H kvs xs/\h.DictOfH (tupleKind (qj P w)) a xs:=Xm ok (.inl e)
end
def DGet (H:Hp)(a:Addr)(y:V)(r:Option V):Prop :=
 (∃ kvs k,Rd H a (.dK kvs)/\y=kV k/\r=qP kvs k) ∨ ∃ kvs k b,Rd H a (.dT kvs)/\y = .ref b/\H b=some (.tup (k.map kV))/\r=qP kvs k
def DPut (H:Hp)(a:Addr)(y v:V)(H':Hp):Prop :=
 (∃ kvs k,H a=some (.dK kvs)/\y=kV k/\kvs.length < sizeLine/\H'=j7 H a (.dK (zc kvs k v))) ∨
 ∃ kvs k b,H a=some (.dT kvs)/\y = .ref b/\H b=some (.tup (k.map kV))/\kvs.length < sizeLine/\H'=j7 H a (.dT (zc kvs k v))
theorem DGet.k {H:Hp}{a:Addr}{kvs:List (z7 × V)}{k:z7}(e:H a=some (.dK kvs)):DGet H a (kV k) (qP kvs k):= .inl ⟨kvs,k,.inl e,rfl,rfl⟩
theorem DPut.k {H:Hp}{a:Addr}{kvs:List (z7 × V)}{k:z7}{v:V}(e:H a=some (.dK kvs))(hl:kvs.length < sizeLine):DPut H a (kV k) v (j7 H a (.dK (zc kvs k v))):= .inl ⟨kvs,k,e,rfl,hl,rfl⟩
section
variable {X:Cx}{pins:List (Addr × Obj)}{σ:St}{H:Hp}{s:Shared}{a:Addr}{y v:V}{u r:Value}{o:Option V}{A:Around}{E:Value->Shared->Prop}
theorem Inv.big (I:Inv X pins σ H s):sysModules < s.heap.objs.size:=by
 have h:mainGlobals < s.heap.objs.size:=(I.mod.glob.keeps I.bk).lt
 exact Nat.lt_trans (by decide) h

theorem BP {Q:Value->Shared->Prop}(hu:A.units + 1 < cLine)(I:Inv X pins σ H s)(g:DGet H a y (some v))(ry:RelV y u)(h:∀ w' s',Inv X pins σ H s'->RelV v w'->Q w' s') :
  wpAny (model X.prog X.w) A (getItem (.ref a) u) Q E s:=by
 rcases g with ⟨kvs,k,e,ey,l⟩ | ⟨kvs,k,b,e,ey,eb,l⟩
 ·subst ey
  obtain ⟨z,hd,vs,rel,dd⟩:=vT I.hok e
  obtain ⟨w',hw,rw'⟩:=RelO.some_of (v:=v) (o:=valueAt vs k) (by rw [l];exact rel.val k)
  exact wpAny_getItem_of (Ql ry) dd.mapOf hw (h w' _ (I.tok _) rw')
 ·subst ey
  cases (show u=Value.ref b from ry)
  obtain ⟨z,hd,xs,rel,dd⟩:=Xm I.hok e
  obtain ⟨w',hw,rw'⟩:=RelO.some_of (v:=v) (o:=(atKey xs k).map (·.2)) (by rw [l];exact rel.val k)
  obtain ⟨p,hp,hp2⟩:=Option.map_eq_some_iff.mp hw
  refine wpAny_getItem_heap (tupleKind_room_in1 hu) (XA I.hok eb) dd hp ?_
  rw [hp2]
  exact h w' _ (I.tok _) rw'
theorem d_in {Q:Value->Shared->Prop}(hu:A.units + 1 < cLine)(I:Inv X pins σ H s)(g:DGet H a y o)(ry:RelV y u)(h:∀ s',Inv X pins σ H s'->Q (.bool o.isSome) s') :
  wpAny (model X.prog X.w) A (compareOp .In u (.ref a)) Q E s:=by
 rcases g with ⟨kvs,k,e,ey,l⟩ | ⟨kvs,k,b,e,ey,eb,l⟩
 ·subst ey
  obtain ⟨z,hd,vs,rel,dd⟩:=vT I.hok e
  refine wpAny_in_of (Ql ry) hd dd.mapOf ?_
  rw [<- (rel.val k).isSome_eq,<- l]
  exact h _ (I.tok _)
 ·subst ey
  cases (show u=Value.ref b from ry)
  obtain ⟨z,hd,xs,rel,dd⟩:=Xm I.hok e
  refine wpAny_in_heap (tupleKind_room_in1 hu) (XA I.hok eb) hd dd ?_
  have q:=(rel.val k).isSome_eq
  rw [Option.isSome_map] at q
  rw [<- q,<- l]
  exact h _ (I.tok _)
theorem YA {h':Heap}{t':Nat}{ob:HO}(I:Inv X pins σ H s)(mu:Mut (H a))(hs:Heap.SameBut a s.heap h')(he:∃ q,h'.get? a=some q)(new:ObjOk X.prog X.w (j7 H a ob) h' a ob) :
  Inv X pins σ (j7 H a ob) { s with heap:=h',toks:=t' } :=
 I.write (x:=a) (e:=a) mu (.inl rfl) (fun b q hb z=>(hs.2 b hb).trans z) he new
theorem YD {P:Program}{w:World}{H':Hp}{h':Heap}{kvs:List (z7 × V)}{vs:List (z7 × Value)}(z:kvs.length<=sizeLine)(hd:(a == sysModules)=false)(rel:KV kvs vs)(dd:h'.DictOf (qj P w) a vs) :
  ObjOk P w H' h' a (.dK kvs):=⟨z,hd,vs,rel,dd⟩
theorem BQ {H':Hp}{Q:Unit->Shared->Prop}(hu:A.units + 1 < cLine)(I:Inv X pins σ H s)(g:DPut H a y v H')(ry:RelV y u)(rv:RelV v r)(h:∀ s',Inv X pins σ H' s'->Q () s') :
  wpAny (model X.prog X.w) A (setItem (.ref a) u r) Q E s:=by
 rcases g with ⟨kvs,k,e,ey,l,eH⟩ | ⟨kvs,k,b,e,ey,eb,l,eH⟩
 ·subst ey eH
  obtain ⟨z,hd,vs,rel,dd⟩:=dk_of I.hok e
  have hz:vs.length<=sizeLine:=by rw [<- rel.length];exact z
  have hl:(zc kvs k v).length<=sizeLine:=by have:=Ut kvs k v;omega
  refine wpAny_setItem_pairs (hsz:=hz) (Ql ry) dd fun h' dd' hs=>h _ ?_
  have he:∃ q,h'.get? a=some q:=let ⟨q,_,_,hq,_⟩:=dd';⟨q,hq⟩
  exact YA I (by rw [e];exact True.intro) hs he (YD hl hd (rel.put k rv) dd')
 ·subst ey eH
  cases (show u=Value.ref b from ry)
  obtain ⟨z,hd,xs,rel,dd⟩:=dt_of I.hok e
  have hz:xs.length<=sizeLine:=by rw [<- Paired.length rel];exact z
  have hl:(zc kvs k v).length<=sizeLine:=by have:=Ut kvs k v;omega
  refine wpAny_setItem_heap (hsz:=hz) (tupleKind_room_in1 hu) (XA I.hok eb) dd fun h' dd' hs=>h _ ?_
  obtain ⟨q,es,ep,hq,h2,h3,h4,_,h5⟩:=dd'
  refine YA I (by rw [e];exact True.intro) hs ⟨q,hq⟩ ⟨hl,hd,_,(rel.put k eb rv).keeps fun c ys ec=>?_,q,es,ep,hq,h2,h3,h4,h5⟩
  rw [j3 (ne_of ec e (fun z=>nomatch z))]
  exact ec
end
section
variable {X:Cx}{pins:List (Addr × Obj)}{σ:St}{H:Hp}{s:Shared}{a:Addr}{kvs:List (z7 × V)}{k:z7}{u:Value}{A:Around}{E:Value->Shared->Prop}
theorem d_len {Q:Value->Shared->Prop}(I:Inv X pins σ H s)(e:Rd H a (.dK kvs))(h:∀ t s',Inv X pins σ H s'->Q (.int kvs.length t) s'):wpAny (model X.prog X.w) A (call (.builtin "len") [.ref a]) Q E s:=by
 obtain ⟨z,hd,vs,rel,dd⟩:=vT I.hok e
 refine call_len_dict hd dd (by rw [<- rel.length];rw [sizeLine_eq] at z;omega) ?_
 rw [<- rel.length]
 exact h _ _ (I.tok _)
end
def NoSl (i:Expr):Prop:=∀ ov iv,subscripted i false ov iv=operate [ov,iv] (getItem ov iv)
theorem Nl {prog:Program}{w:World}{A:Around}{E:Value->Shared->Prop}{s:Shared}{env:Env}{value slice:Expr}{pos:Pos}{T id:String}{Q:Value->Shared->Prop}
  (hl:typeLookup (.type T) "__getitem__"=pure (some (.builtin id))) (hs:NoSl slice)
  (h:wpAny (model prog w) A (eval value env) (fun o s₁=>wpAny (model prog w) A (eval slice env) (fun i s₂=>s₂.TypeIs o T/\wpAny (model prog w) A (getItem o i) Q E s₂) E s₁) E s) :
  wpAny (model prog w) A (eval (.Subscript value slice pos) env) Q E s:=by
 refine Subscript_ (wpAny_mono h (fun o s₁ h₁=>wpAny_mono h₁ (fun i s₂ h₂=>?_) fun _ _ x=>x) fun _ _ x=>x)
 obtain ⟨hT,h₂⟩:=h₂
 unfold subscriptTail
 refine wpAny_bind ?_
 rw [getitemInPython_of_ne hT.not_modules]
 refine wpAny_bind (wpAny_specialOf hT hl ?_)
 have fin:wpAny (model prog w) A (subscripted slice false o i) (fun r s₃=>wpAny (model prog w) A (letTemporaryGo value o r >>= fun _=>pure r) Q E s₃) E s₂:=by
  rw [hs o i]
  exact wpAny_operating (wpAny_mono h₂ (fun r s₃ h₃=>wpAny_bind (wpAny_letTemporaryGo (wpAny_pure h₃))) fun _ _ x=>x)
 first
  | exact wpAny_pure (wpAny_bind fin)
  | exact wpAny_bind (wpAny_pure (wpAny_bind fin))
  | exact wpAny_bind fin

theorem BR {X:Cx}{pins:List (Addr × Obj)}{σ:St}{H:Hp}{s:Shared}{a:Addr}{y:V}{o:Option V}(I:Inv X pins σ H s)(g:DGet H a y o):s.TypeIs (.ref a) "dict":=by
 rcases g with ⟨kvs,k,e,_,_⟩ | ⟨kvs,k,b,e,_,_,_⟩
 ·obtain ⟨_,_,vs,_,dd⟩:=vT I.hok e
  exact dd.typeIs
 ·obtain ⟨_,_,xs,_,dd⟩:=Xm I.hok e
  exact dd.typeIs
def GZ (td ty:TE):TE:=fun σ H Q=>td σ H fun x H1=>ty σ H1 fun y H2=>∃ a v,x = .ref a/\DGet H2 a y (some v)/\Q v H2
def tDIn (ty td:TE):TE:=fun σ H Q=>ty σ H fun y H1=>td σ H1 fun x H2=>∃ a o,x = .ref a/\DGet H2 a y o/\Q (.bl o.isSome) H2
def GJ (td ty tv:TE):TS:=fun D σ H=>tv σ H fun v H1=>td σ H1 fun x H2=>ty σ H2 fun y H3=>∃ a H4,x = .ref a/\DPut H3 a y v H4/\D.nx σ H4
section
variable {X:Cx}{o i e value:Expr}{pos pos' tpos:Pos}{td ty tv:TE}
theorem XW (hu:X.A.units + 1 < cLine)(ho:PE X o td)(hi:PE X i ty)(hs:NoSl i):PE X (.Subscript o i pos) (GZ td ty):=by
 intro pins s σ H Q I h
 refine Nl PySem.F.slot_dict_getitem.lookup hs (z8 (ho pins s σ H _ I h) fun u s1 ⟨x,H1,I1,rx,q1⟩=>z8 (hi pins s1 σ H1 _ I1 q1) fun iv s2 ⟨y,H2,I2,ry,a,v,ex,g,q2⟩=>?_)
 subst ex
 obtain rfl:u=Value.ref a:=rx
 exact ⟨BR I2 g,BP hu I2 g ry fun w' s3 I3 rw'=>⟨v,H2,I3,rw',q2⟩⟩
theorem DZ (hu:X.A.units + 1 < cLine)(hi:PE X i ty)(ho:PE X o td):PC X .In i o (tDIn ty td):=by
 intro pins s σ H Q I h
 refine z8 (hi pins s σ H _ I h) fun iv s1 ⟨y,H1,I1,ry,q1⟩=>z8 (ho pins s1 σ H1 _ I1 q1) fun u s2 ⟨x,H2,I2,rx,a,ov,ex,g,q2⟩=>?_
 subst ex
 obtain rfl:u=Value.ref a:=rx
 exact d_in hu I2 g ry fun s3 I3=>⟨.bl ov.isSome,H2,I3,rfl,q2⟩
theorem MF (hu:X.A.units + 1 < cLine)(ho:PE X o td)(hi:PE X i ty)(hv:PE X value tv)(hs:swapsWith value (some (.Subscript o i pos')) pos.line X.env=pure false) :
  PS X (.Assign [.Subscript o i pos'] value pos) (GJ td ty tv):=by
 intro pins s σ H D I h
 refine wpAny_Assign_Subscript (z8 (hv pins s σ H _ I h) fun r s1 ⟨v,H1,I1,rv,q1⟩=>z8 (ho pins s1 σ H1 _ I1 q1) fun u s2 ⟨x,H2,I2,rx,q2⟩=>z8 (hi pins s2 σ H2 _ I2 q2) fun iv s3 ⟨y,H3,I3,ry,a,H4,ex,g,q3⟩=>?_) hs
 subst ex
 obtain rfl:u=Value.ref a:=rx
 exact BQ hu I3 g ry rv fun s4 I4=>⟨σ,H4,I4,q3⟩
end
theorem BT {P:Program}{w:World}{H:Hp}(h:Heap)(hb:sysModules < h.objs.size):ObjOk P w H (h.push { cls:= .type "dict",data:= .dict #[] }) h.objs.size (.dK []) :=
 ⟨Nat.zero_le _,beq_eq_false_iff_ne.mpr (Ne.symm (Nat.ne_of_lt hb)),[],.nil,Heap.DictOf.new h⟩
def Kb:TE:=fun _ H Q=>∀ p,H p=none->Q (.ref p) (j7 H p (.dK []))
section
variable {X:Cx}{pos:Pos}
theorem Mc:PE X (.Dict [] [] pos) Kb:=fun pins s σ H Q I h =>
 wpAny_Dict_empty ⟨.ref s.heap.objs.size,_,I.laid (a:=s.heap.objs.size) (o:= .dK []) (t':=s.toks) (fun _ _ q=>Heap.get?_push_of_some _ q) (Nat.le_refl _) (BT s.heap I.big),rfl,h _ (I.hok.fresh (Nat.le_refl _))⟩
end
end L2
namespace Att
open PySem PySem.W PySem.Calls PyProof.Rows
theorem PK {P:Params}{h:Heap}:∀ (ns:List Int) (vs:List Value),WellAll P h vs (ns.map WData.int)->IntsAre vs ns:=by
 intro ns
 induction ns with
 | nil =>
  intro vs w
  rw [List.map_nil] at w
  cases w
  exact .nil
 | cons n ns ih =>
  intro vs w
  rw [List.map_cons] at w
  cases w with
  | cons a b =>
   cases a
   exact .cons _ _ (ih _ b)

theorem LR {l:OpenLaw}{n:Nat}(hn:l.most=some n){P:Params}{h:Heap}{args:List WData}{vals:List Value}
  (hpre:l.row.toRowW.claim.pre args=true) (hwl:WellAll P h vals args) :
  ∃ a vs ns,vals=[Value.ref a]/\args=[WData.list (ns.map WData.int)]/\h.get? a=some { cls:= .type "list",data:= .seq vs.toArray }/\IntsAre vs ns/\ns.length<=n:=by
 have hsh:WShape.hasAll [] args [.list .int]=true:=(pre_splitW hpre).1
 have hc:l.pre.holds [] { args:=args }=true:=(pre_splitW hpre).2
 obtain ⟨d,r,rfl,h1,h2⟩:=hasAllW_cons hsh
 obtain rfl:=hasAllW_nil h2
 obtain ⟨xs,rfl,h3⟩:=hasW_list h1
 obtain ⟨ns,rfl⟩:=items_int h3
 have hlen:ns.length<=n:=by
  unfold OpenLaw.pre at hc
  have h4:(WTm.not (.lt (.lit (.int (n:Int))) (.len (.arg 0)))).holds [] { args:=[.list (ns.map .int)] }=true:=by
   have h4:=(holds_andW hc).1
   rw [hn] at h4
   exact h4
  have h5:=condW_of h4 (w_not (w_lt w_lit (w_len_list (w_arg rfl))))
  rw [List.length_map] at h5
  refine Nat.le_of_not_lt fun q=>?_
  have q':(n:Int) < ((ns.length:Nat):Int):=by omega
  first
   | (rw [decide_eq_true q'] at h5;exact absurd h5 (by decide))
   | (simp at h5;omega)
 cases hwl with
 | cons w1 w2 =>
  cases w2
  cases w1 with
  | list ho hall=>exact ⟨_,_,ns,rfl,rfl,ho,PK ns _ hall,hlen⟩

theorem MC (l:OpenLaw)(args:List WData):l.row.toRowW.claim.post args (.bool true) args=true :=
 postW_of (r:=l.row.toRowW) (X:=(true == true))
  (show WShape.has [] (.bool true) .bool=true by first | rfl | decide | simp [WShape.has,WShape.arms,WShape.armsAll])
  (show (WTm.eq .res (.lit (.bool true))).value [] { args:=args,res:=some (.bool true),after:=args }=some (.bool (true == true)) from w_eq_bool (w_res rfl) w_lit) rfl

theorem attach_call {l:OpenLaw}{n:Nat}{q:Program}{loose:List Str}{XP:(Str->Option Value)->Heap->Prop}{YP:World->Heap->Prop}{d:DefRec}
  (hn:l.most=some n) (hdf:d.params.defaults=[])
  (call:∀ (w:World) (s₀ s₁:Shared) (mg mb:Str->Option Value) (fa:Addr) (o:Obj) (pm cd doc:Value) (a:Addr) (vs:List Value) (ns:List Int),
   Ground q loose [] XP w s₀ mg mb s₁.heap->YP w s₁.heap ->
   s₁.heap.get? fa=some o->o.data = .func (docDef d.name d.params d.body d.scope pm cd doc)->s₁.heap.CodeRec cd d.name->mg d.name=some (.ref fa) ->
   s₁.heap.get? a=some { cls:= .type "list",data:= .seq vs.toArray }->IntsAre vs ns->ns.length<=n->s₁.gens=#[] ->
   codeAny (model l.prog w) callerA (.call (.ref fa) ⟨[.ref a],[]⟩) (fun r s'=>r = .ok (.ret (.bool true))/\OldK s₁.heap s'.heap/\s'.os=s₁.os/\AllBare s'.gens) s₁) :
  WalkO q loose XP YP l.row.toRowW d [] (fun f vs=>PySem.call f vs):=by
 intro w s₀ s₁ mg mb G Y fa o pm cd doc dV kV ho hd hcd hD hmg hg args vals as hpre hlay hrd hwl hlo
 obtain rfl:dV = .none:=Dflts.none hD hdf
 obtain rfl:kV = .none:=Dflts.noKw hD
 obtain ⟨a,vs,ns,rfl,rfl,hobj,hints,hlen⟩:=LR hn hpre hwl
 refine enter_call (codeAny_mono (call w s₀ s₁ mg mb fa o pm cd doc a vs ns G Y ho (fd_plain hd) hcd hmg hobj hints hlen hg) fun r s' hq=>?_)
 obtain ⟨rfl,h2,h3,h4⟩:=hq
 exact ⟨.inl ⟨.bool true,.bool true,[],rfl,fun _=>rfl,.bool true,MC l _,fun _=>⟨List.Pairwise.nil,fun _ hm=>(nomatch hm)⟩⟩,h2,h3,h4⟩

end Att
namespace L2
open PySem PySem.Spec PyProof.Rows
theorem Kz:∀ {vs:List Value} {ns:List Int},IntsAre vs ns->Vals (ns.map V.int) vs
 | _,_,.nil=> .nil
 | _,_,.cons n t h=> .cons ⟨t,rfl⟩ (Kz h)

def Only (H:Hp):Prop:=∀ b,H b=none ∨ (∃ o xs,H b=some (.frz o (.lst xs))) ∨ ∃ p ∈ TABS,p.1=b/\H b=some (.tbl p.2.1 p.2.2)

structure vM (K:Fg)(h:Heap):Prop where
 at_:∀ p ∈ TABS,h.get? p.1=some { cls:= .none,data:= .fields p.2.1 }
 tri:∀ p ∈ TABS,TriplesOk p.2.1.toList
 non:∀ p ∈ TABS,∀ q ∈ p.2.2,codeAmong q.1 p.2.1.toList=none
 tab:∀ p ∈ TABS,isCodeTable h p.1
 one:∀ p ∈ TABS,∀ q ∈ TABS,p.1=q.1->p=q
 out:∀ p ∈ TABS,K.lookup p.1=none
def ze:Hp:=fun b=>(TABS.find? fun p=>p.1 == b).map fun p=> .tbl p.2.1 p.2.2
theorem Je {b:Addr}{u:HO}(h:ze b=some u):∃ p ∈ TABS,p.1=b/\u = .tbl p.2.1 p.2.2:=by
 unfold ze at h
 obtain ⟨p,e,r⟩:=Option.map_eq_some_iff.mp h
 exact ⟨p,List.mem_of_find?_eq_some e,by have:=List.find?_some e;simpa using this,r.symm⟩
theorem Kh {K:Fg}{h:Heap}(T:vM K h){p:Addr × Array Value × List (Pos × Str)}(hp:p ∈ TABS):ze p.1=some (.tbl p.2.1 p.2.2):=by
 unfold ze
 cases e:TABS.find? fun q=>q.1 == p.1 with
 | none=>exact absurd (List.find?_eq_none.mp e p hp) (by simp)
 | some q =>
  have e1:q.1=p.1:=by have:=List.find?_some e;simpa using this
  rw [T.one q (List.mem_of_find?_eq_some e) p hp e1]
  rfl
theorem Cv {P:Program}{w:World}{K:Fg}{mg mb:Str->Option Value}{CX:CXT}{k:Nat}{fa a:Addr}{fd:FuncData}{x:Str}{sp:Sp}{s₁:Shared}{vs:List Value}{ns:List Int}
  (KX:K.In s₁.heap) (T:vM K s₁.heap) (hns:s₁.heap.Ns mainGlobals mg) (hb:s₁.heap.Ns builtinsNs mb) (hbb:∀ x:Str,x ≠ "__name__"->mb x=bootBuiltins x) (hlim:s₁.heap.NoLimit) (hbm:∃ bm ob,mg "__builtins__"=some (.ref bm)/\bm ≠ builtinsNs/\s₁.heap.get? bm=some ob/\ob.cls = .type "module"/\ob.dict=some builtinsNs/\ob.data = .plain) (hg:s₁.gens=#[])
  (ha:s₁.heap.get? a=some { cls:= .type "list",data:= .seq vs.toArray }) (hi:IntsAre vs ns) (hl:ns.length<=sizeLine) (hr:Room k callerA)
  (F:∀ base:Heap,K.In base->base.Ns mainGlobals mg->FnOk P w K mg base CX k fa fd [x] sp) (hbind:∀ (s:Shared) (u:Value),BindsTo s fd ⟨[u],[]⟩ [(x,u)])
  (hsp:∀ H:Hp,Only H->SqL K H a (ns.map V.int)->sp [.ref a] H (fun v _=>v = .bl true) fun _ _ _=>False)
  (hCX:∀ H e s',CX [] H s₁ (fun _ _ _=>False) e s'->False) :
  codeAny (model P w) callerA (.call (.ref fa) ⟨[.ref a],[]⟩) (fun r s'=>r = .ok (.ret (.bool true))/\OldK s₁.heap s'.heap/\s'.os=s₁.os/\AllBare s'.gens) s₁:=by
 have rv:=Kz hi
 have lenV:=hi.length
 have naT:∀ p ∈ TABS,p.1 ≠ a:=fun p hp z=>by
  have e:=T.at_ p hp
  rw [z,ha] at e
  cases e
 have core:∀ H:Hp,Only H->SqL K H a (ns.map V.int)->HOk P w H s₁.heap->(∀ b,H b ≠ none->b=a ∨ ∃ p ∈ TABS,p.1=b)->(∀ b,H b ≠ none->K.lookup b=none)->(∀ p ∈ TABS,H p.1=some (.tbl p.2.1 p.2.2)) ->
   codeAny (model P w) callerA (.call (.ref fa) ⟨[.ref a],[]⟩) (fun r s'=>r = .ok (.ret (.bool true))/\OldK s₁.heap s'.heap/\s'.os=s₁.os/\AllBare s'.gens) s₁:=by
  intro H hO hS hok hA hK hT
  have base_of:∀ {b:Addr} {o:Obj},s₁.heap.get? b=some o->H b=none->(zZ s₁.heap H).get? b=some o:=fun e n=>Pn e n
  have noA:∀ {b:Addr} {o:Obj} {es:Array DictEntry} {ep:Nat},s₁.heap.get? b=some o->o.data = .dict es ep->H b=none:=fun {b o es ep} e d=>by
   cases q:H b with
   | none=>rfl
   | some u =>
    rcases hA b (by rw [q];simp) with e' | ⟨p,hp,e'⟩
    ·subst e'
     rw [ha] at e;cases e
     have d':Data.seq vs.toArray _=Data.dict es ep:=d
     cases d'
    ·subst e'
     rw [T.at_ p hp] at e;cases e
     have d':Data.fields p.2.1=Data.dict es ep:=d
     cases d'
  have nsK:∀ {b:Addr} {m:Str->Option Value},s₁.heap.Ns b m->(zZ s₁.heap H).Ns b m:=fun {b m} ⟨o,es,ep,e,d,r⟩=>⟨o,es,ep,base_of e (noA e d),d,r⟩
  have hKb:K.In (zZ s₁.heap H):=fun b o e=>base_of (KX b o e) (by
   cases q:H b with
   | none=>rfl
   | some u=>rw [hK b (by rw [q];simp)] at e;cases e)
  have noP:∀ {b:Addr} {o:Obj},s₁.heap.get? b=some o->o.data = .plain->H b=none:=fun {b o} e d=>by
   cases q:H b with
   | none=>rfl
   | some u =>
    rcases hA b (by rw [q];simp) with e' | ⟨p,hp,e'⟩
    ·subst e'
     rw [ha] at e;cases e
     have d':Data.seq vs.toArray _=Data.plain:=d
     cases d'
    ·subst e'
     rw [T.at_ p hp] at e;cases e
     have d':Data.fields p.2.1=Data.plain:=d
     cases d'
  have hM:Mod K mg (zZ s₁.heap H):=⟨hKb,nsK hns,⟨mb,nsK hb,hbb⟩,let ⟨mc,h1,h2⟩:=hlim;⟨mc,nsK h1,h2⟩,let ⟨bm,ob,b1,b2,b3,b4,b5,b6⟩:=hbm;⟨bm,ob,b1,b2,base_of b3 (noP b3 b6),b4,b5,b6⟩⟩
  have e0:Env0 P w K mg (zZ s₁.heap H) callerA [] s₁ H:=⟨rfl,hM,fun b o e=>CM e,Nat.le_of_eq (Po _ _),trivial,fun b hb=>absurd (show b ∈ ([]:List Addr) from hb) (by simp),hok,.of_eq hg,hT⟩
  refine codeAny_mono ((F _ hKb (nsK hns)).run callerA [] s₁ H ⟨[.ref a],[]⟩ [.ref a] [.ref a] _ _ hr e0 (hbind s₁ (.ref a)) (.cons rfl .nil) (hsp H hO hS)) fun r s' h=>?_
  cases r with
  | error e=>exact (hCX H e s' h).elim
  | ok fl =>
   cases fl with
   | next=>exact False.elim h
   | brk=>exact False.elim h
   | cont=>exact False.elim h
   | ret u =>
    obtain ⟨v,H',os,bare,un,hok',r',q⟩:=h
    have q':v = .bl true:=q
    subst q'
    obtain rfl:u=Value.bool true:=r'
    refine ⟨rfl,⟨fun b o e=>?_,fun b o e=>un.there b o e (by simp)⟩,os,bare⟩
    rcases hO b with z | ⟨ob,xs,z⟩ | ⟨p,hp,rfl,z⟩
    ·exact .inl (un.keep b o e z (by intro z;exact absurd (show b ∈ ([]:List Addr) from z) (by simp)) (by simp))
    ·have z2:=un.frzs b ob _ z
     obtain ⟨e1,_⟩:=hok b _ z
     obtain ⟨e2,_⟩:=hok' b _ z2
     rw [e] at e1;cases e1
     exact .inl e2
    ·have z2:=un.tbls p.1 _ _ z
     obtain ⟨more,e2,_⟩:=hok' p.1 _ z2
     rw [T.at_ p hp] at e
     cases e
     exact .inr (.inl ⟨T.tab p hp,rfl,p.2.1,more,rfl,e2⟩)
 have tok:∀ {H:Hp} {p:Addr × Array Value × List (Pos × Str)},p ∈ TABS->ObjOk P w H s₁.heap p.1 (.tbl p.2.1 p.2.2):=fun {H p} hp =>
  ⟨#[],by rw [Array.append_empty];exact T.at_ p hp,by rw [Array.append_empty];exact T.tri p hp,fun q hq=> .inl (by rw [Array.append_empty];exact T.non p hp q hq)⟩
 have only:∀ b,ze b=none ∨ (∃ o xs,ze b=some (.frz o (.lst xs))) ∨ ∃ p ∈ TABS,p.1=b/\ze b=some (.tbl p.2.1 p.2.2):=fun b=>by
  cases q:ze b with
  | none=>exact .inl rfl
  | some u =>
   obtain ⟨p,hp,e1,rfl⟩:=Je q
   exact .inr (.inr ⟨p,hp,e1,rfl⟩)
 have mine:∀ b,ze b ≠ none->∃ p ∈ TABS,p.1=b:=fun b z=>by
  cases q:ze b with
  | none=>exact absurd q z
  | some u =>
   obtain ⟨p,hp,e1,_⟩:=Je q
   exact ⟨p,hp,e1⟩
 cases hk:K.lookup a with
 | some o =>
  have e:=KX a o hk
  rw [ha] at e
  cases e
  refine core ze only (.inr ⟨_,vs.toArray,_,hk,rfl,rfl,rfl,by rw [List.size_toArray,lenV];exact hl,by simpa using rv⟩) (fun b u z=>?_) (fun b z=> .inr (mine b z)) (fun b z=>?_) fun p hp=>Kh T hp
  ·obtain ⟨p,hp,rfl,rfl⟩:=Je z
   exact tok hp
  ·obtain ⟨p,hp,rfl⟩:=mine b z
   exact T.out p hp
 | none =>
  refine core (fun b=>if b=a then some (.frz { cls:= .type "list",data:= .seq vs.toArray } (.lst (ns.map V.int))) else ze b) (fun b=>?_) (.inl (.inr ⟨{ cls:= .type "list",data:= .seq vs.toArray },if_pos rfl⟩)) (fun b u z=>?_) (fun b z=>?_) (fun b z=>?_) fun p hp=>?_
  ·by_cases hb:b=a
   ·exact .inr (.inl ⟨_,_,if_pos hb⟩)
   ·rcases only b with z | ⟨o,xs,z⟩ | ⟨p,hp,e1,z⟩
    ·exact .inl ((if_neg hb).trans z)
    ·exact .inr (.inl ⟨o,xs,(if_neg hb).trans z⟩)
    ·exact .inr (.inr ⟨p,hp,e1,(if_neg hb).trans z⟩)
  ·by_cases hb:b=a
   ·have z':=(if_pos hb).symm.trans z
    cases z'
    subst hb
    exact ⟨ha,by rw [List.length_map];exact hl,vs,_,rv,ha⟩
   ·have z':=(if_neg hb).symm.trans z
    obtain ⟨p,hp,rfl,rfl⟩:=Je z'
    exact tok hp
  ·by_cases hb:b=a
   ·exact .inl hb
   ·exact .inr (mine b fun q=>z ((if_neg hb).trans q))
  ·by_cases hb:b=a
   ·rw [hb];exact hk
   ·obtain ⟨p,hp,rfl⟩:=mine b fun q=>z ((if_neg hb).trans q)
    exact T.out p hp
  ·exact (if_neg (naT p hp)).trans (Kh T hp)
end L2
namespace L2
open PySem PySem.Spec PyProof.Rows
theorem Hl {l:PySem.W.OpenLaw}{n k:Nat}{q:Program}{loose:List Str}{XP:(Str->Option Value)->Heap->Prop}{YP:World->Heap->Prop}{d:DefRec}{K:Params->Fg}{CX:World->CXT}{sp:World->Sp}{x:Str}
  (hn:l.most=some n) (hn2:n<=sizeLine) (hdf:d.params.defaults=[]) (hr:Room k callerA)
  (hY:∀ (w:World) (h:Heap),YP w h->(K w.params).In h)
  (F:∀ (w:World) (mg:Str->Option Value) (fa:Addr) (h:Heap),YP w h->(K w.params).In h->h.Ns mainGlobals mg->mg d.name=some (.ref fa) ->
   ∃ fd:FuncData,(∀ (s:Shared) (u:Value),BindsTo s fd ⟨[u],[]⟩ [(x,u)])/\vM (K w.params) h /\
    ∀ base:Heap,(K w.params).In base->base.Ns mainGlobals mg->FnOk l.prog w (K w.params) mg base (CX w) k fa fd [x] (sp w))
  (hsp:∀ (w:World) (H:Hp) (a:Addr) (ns:List Int),ns.length<=n->Only H->SqL (K w.params) H a (ns.map V.int)->sp w [.ref a] H (fun v _=>v = .bl true) fun _ _ _=>False)
  (hCX:∀ (w:World) (H:Hp) (s:Shared) (e:Value) (s':Shared),CX w [] H s (fun _ _ _=>False) e s'->False) :
  PySem.W.WalkO q loose XP YP l.row.toRowW d [] (fun f vs=>PySem.call f vs):=by
 refine Att.attach_call hn hdf fun w s₀ s₁ mg mb fa o pm cd doc a vs ns G Y ho hd hcd hmg hobj hints hlen hg=>?_
 have KX:=hY w _ Y
 obtain ⟨fd,hb,hT,hF⟩:=F w mg fa _ Y KX G.T.g hmg
 exact Cv KX hT G.T.g G.T.b G.T.builtins G.T.nolimit G.T.bmain hg hobj hints (Nat.le_trans hlen hn2) hr hF hb (fun H hO hS=>hsp w H a ns hlen hO hS) fun H e s'=>hCX w H s₁ e s'
end L2
namespace L2
open PySem PySem.Spec PyProof.Rows
def vY (s:Stmt)(j:Nat):Stmt:=match s with
 | .ClassDef _ _ _ body _ _ _ _ _ _ _=>body.getD j (.Pass ⟨0,0,0,0⟩)
 | _=> .Pass ⟨0,0,0,0⟩
def xX (s:Stmt):Arguments:=match s with
 | .FunctionDef _ a _ _ _ _ _ _ _ _=>a
 | _=>{ posonlyargs:=[],args:=[],vararg:=none,kwonlyargs:=[],kw_defaults:=[],kwarg:=none,defaults:=[] }
def qi (s:Stmt):List Stmt:=match s with
 | .FunctionDef _ _ b _ _ _ _ _ _ _=>b
 | _=>[]
def z9 (s:Stmt):Scope:=match s with
 | .FunctionDef _ _ _ _ _ _ sc _ _ _=>sc
 | _=>{ kind:= .function,names:=[],isGenerator:=false,isCoroutine:=false }

abbrev v5:CXT:=fun _ _ _ _ _ _=>False
abbrev E0:XK:=fun _ _ _=>False
theorem XV {X:Cx}:jI v5 X E0:=fun _ _ _ _ _ _ _ h=>h.elim

structure Fun (K:Fg)(x qual:Str)(st:Stmt)(f:Addr)(fd:FuncData):Prop where
 ex:∃ (oc:Value) (od:Option Addr) (kV doc pm:Value) (an:Option Addr) (cdv ct:Value) (osl:Array (Option Value)),
  fd=PySem.W.fnOf x qual (xX st) (qi st) (z9 st) .none kV doc pm an cdv ct/\K.lookup f=some ⟨oc,od,.func fd,osl⟩/\PySem.W.codeIn K cdv qual=true
 kp:PySem.W.keepIn K (.ref f)=true
section
variable {P:Program}{w:World}{K:Fg}{mg:Str->Option Value}{base:Heap}
theorem Fun.ok {x qual:Str}{st:Stmt}{f:Addr}{fd:FuncData}{N ps:List Str}{k:Nat}{sp:Sp}(F:Fun K x qual st f fd)(S:w4 N ps (z9 st))(len:∀ vs H Q E,sp vs H Q E->vs.length=ps.length)
  (hbody:∀ (cdv:Value) (A:Around) (outer:List Env) (s:Shared) (H:Hp) (vs:List V) (Q:VK) (E:XK),Room k (A.deeper (envOfC qual (z9 st) s.heap.objs.size f cdv))->sp vs H Q E ->
   ∃ t,PSs (xb v5 P w K mg base N qual (z9 st) f cdv A outer s H E).nox (qi st) t/\t { nx:=fun _ H'=>Q .non H',rt:=Q } (start N vs) H):FnOk P w K mg base v5 (k + 1) f fd ps sp:=by
 obtain ⟨oc,od,kV,doc,pm,an,cdv,ct,osl,rfl,lk,hcd⟩:=F.ex
 refine JG lk hcd S len fun A outer s H vs Q E hr hsp=>?_
 obtain ⟨t,h,q⟩:=hbody cdv A outer s H vs Q E hr hsp
 exact ⟨t,h.nox,q⟩
theorem Fun.binds {x qual:Str}{st:Stmt}{f:Addr}{fd:FuncData}{ps:List Str}(F:Fun K x qual st f fd)
  (h:∀ (kV doc pm:Value) (an:Option Addr) (cdv ct:Value) (us:List Value),us.length=ps.length->bindArgs (PySem.W.fnOf x qual (xX st) (qi st) (z9 st) .none kV doc pm an cdv ct) ⟨us,[]⟩=pure (ps.zip us)):Binds K fd ps []:=by
 obtain ⟨oc,od,kV,doc,pm,an,cdv,ct,osl,rfl,lk,hcd⟩:=F.ex
 exact .all (h kV doc pm an cdv ct)
theorem u8 {x qual:Str}{st:Stmt}{f:Addr}{oc:Value}{od an:Option Addr}{osl:Array (Option Value)}{kV doc pm cdv ct:Value}(l:K.lookup f=some ⟨oc,od,.func (PySem.W.fnOf x qual (xX st) (qi st) (z9 st) .none kV doc pm an cdv ct),osl⟩)
  (c:PySem.W.codeIn K cdv qual=true) (k:PySem.W.keepIn K (.ref f)=true):Fun K x qual st f (PySem.W.fnOf x qual (xX st) (qi st) (z9 st) .none kV doc pm an cdv ct):=⟨⟨oc,od,kV,doc,pm,an,cdv,ct,osl,rfl,l,c⟩,k⟩
end
theorem jw {A:Around}{k:Nat}(hr:Room k A):A.units + 1 < cLine:=Nat.lt_of_le_of_lt (Nat.add_le_add_left (by decide:1<=64) _) hr.units
theorem QQ {n:Nat}(h:n<=1000):n < sizeLine:=Nat.lt_of_le_of_lt h (by decide)

section
variable {X:Cx}
theorem pv (i:Nat){x:Str}{pos:Pos}(hN:X.N[i]?=some x:=by rfl)(hv:Vis X.env.scope x:=by first | exact Or.inl rfl | exact Or.inr (Or.inl rfl) | exact Or.inr (Or.inr rfl))(hd:(x == ("__debug__":Str))=false:=by decide)
  (hcd:(x == ("__classdict__":Str))=false:=by decide):PE X (.Name x pos) (qW i):=Ml hN hv hd hcd
theorem Bu:CallR X (.builtin "len") (fun xs H Q=>∃ a kvs,xs=[V.ref a]/\H a=some (.dK kvs)/\Q (.int kvs.length) H):=by
 intro pins s σ H xs us Q I r h
 obtain ⟨a,kvs,rfl,ha,q⟩:=h
 obtain ⟨u,rfl,ru⟩:=zx r
 cases ru
 exact d_len I (.inl ha) fun t s' I'=>⟨.int kvs.length,H,I',⟨t,rfl⟩,q⟩
end
theorem xY {A B:Prop}(h:B):if false=true then A else B:=by
 rw [if_neg Bool.false_ne_true]
 exact h
theorem xZ {A B:Prop}(h:A):if true=true then A else B:=by
 rw [if_pos rfl]
 exact h
theorem ite2 {c A B:Prop}[Decidable c](h1:c->A)(h2:¬ c->B):if c then A else B:=by
 by_cases h:c
 ·rw [if_pos h]
  exact h1 h
 ·rw [if_neg h]
  exact h2 h
def Same (H H':Hp):Prop:=∀ b o,H b=some o->H' b=some o
theorem Same.refl (H:Hp):Same H H:=fun _ _ h=>h
theorem Same.trans {H H1 H2:Hp}(a:Same H H1)(b:Same H1 H2):Same H H2:=fun c o h=>b c o (a c o h)
theorem Same.free {H H':Hp}(e:Same H H'){l:Addr}(h:H' l=Option.none):H l=Option.none:=by
 cases q:H l with
 | none=>rfl
 | some o =>
  rw [e l o q] at h
  cases h
theorem Same.seq {K:Fg}{H H':Hp}{a:Addr}{xs:List V}(e:Same H H')(h:SqL K H a xs):SqL K H' a xs:=by
 rcases h with (h | ⟨o,h⟩) | h
 ·exact .inl (.inl (e _ _ h))
 ·exact .inl (.inr ⟨o,e _ _ h⟩)
 ·exact .inr h

end L2

set_option maxHeartbeats 4000000
set_option synthInstance.maxHeartbeats 4000000
set_option synthInstance.maxSize 4096
namespace L2
open PySem PySem.Spec PyProof.Rows
section
variable {prog:Program}{w:World}{A:Around}{R:Result->Shared->Prop}{s:Shared}
theorem BH {elt target iter:Expr}{ifs:List Expr}{scope:Scope}{pos:Pos}{it acc:Value}{env:Env}(I:Nat->Shared->Prop)
  (turn:∀ n s,I n s->wpAny (model prog w) A (pyNext it) (fun r s₁=>match r with
   | none=>R (.ok .next) s₁
   | some v=>wpAny (model prog w) A (letOwnedTupleGo target it v) (fun _ s₀=>wpAny (model prog w) A (assign target env v) (fun _ s₂ =>
     wpAny (model prog w) A (forIn ifs true fun c r=>if r=true then do let ok <- isTrue c env (eval c env);pure (ForInStep.yield ok) else pure (ForInStep.yield r)) (fun ok s₃ =>
      if ok=true then wpAny (model prog w) A (eval elt env) (fun x s₄ =>
       wpAny (model prog w) A (call (.builtin "list.append") [acc,x]) (fun _ s₅=>∃ m,m < n/\I m s₅) (fun _ _=>False) s₄) (fun _ _=>False) s₃
      else ∃ m,m < n/\I m s₃) (fun _ _=>False) s₂) (fun _ _=>False) s₀) (fun _ _=>False) s₁) (fun _ _=>False) s)
  (n:Nat) (h:I n s) :
  codeAny (model prog w) A (.compLoop (.ListComp elt [⟨target,iter,ifs,0⟩] scope pos) 0 it acc env) R s:=by
 refine codeAny_loop rfl I (fun n s hI=>?_) n h
 show wpAny _ A ((compTurn (.ListComp elt [⟨target,iter,ifs,0⟩] scope pos) 0 it acc env).onRaise (fun x=>do noteFrame x env;theTreesLotGoes x)) _ _ s
 refine wpAny_noted (wpAny_noRaise ?_)
 rw [compTurn_list]
 refine wpAny_bind (wpAny_standAt (wpAny_bind (z8 (turn n s hI) fun r s₁ h₁=>?_)))
 cases r with
 | none=>exact wpAny_pure h₁
 | some v =>
  refine wpAny_bind (z8 h₁ fun _ s₀ h₀=>?_)
  refine wpAny_bind (z8 h₀ fun _ s₂ h₂=>wpAny_bind (z8 h₂ fun ok s₃ h₃=>?_))
  cases ok with
  | false=>exact wpAny_pure ⟨rfl,h₃⟩
  | true=>exact wpAny_bind (wpAny_bind (z8 h₃ fun x s₄ h₄=>wpAny_bind (z8 h₄ fun _ s₅ h₅=>wpAny_pure (wpAny_pure ⟨rfl,h₅⟩))))
end
theorem YV {α β:Type}{f:α->β->Sem (ForInStep β)}(g:α->β->β):∀ (l:List α) (b:β),(∀ a ∈ l,∀ b,f a b=pure (.yield (g a b)))->forIn l b f=(pure (l.foldl (fun b a=>g a b) b):Sem β)
 | [],_,_=>rfl
 | x::l,b,h=>by
  rw [List.forIn_cons,h x List.mem_cons_self,pure_bind]
  exact YV g l (g x b) fun y hy=>h y (List.mem_cons_of_mem _ hy)

def zV (env:Env)(y:Str × NameKind)(cs:List (Str × Addr)):List (Str × Addr):=if y.2 == .free then (y.1,(env.cells.lookup y.1).getD 0)::cs else cs
theorem Yo (env:Env):∀ (l:List (Str × NameKind)) (cs:List (Str × Addr)),(∀ y ∈ l,y.2 = .free->∃ c,env.cells.lookup y.1=some c)->(∀ x c,cs.lookup x=some c->env.cells.lookup x=some c) ->
  (∀ x c,(l.foldl (fun b a=>zV env a b) cs).lookup x=some c->env.cells.lookup x=some c)
 | [],_,_,h=>h
 | (n,k)::l,cs,hl,h=>by
  refine Yo env l _ (fun y hy=>hl y (List.mem_cons_of_mem _ hy)) fun x c e=>?_
  unfold zV at e
  dsimp only at e
  cases hk:(k == NameKind.free) with
  | false =>
   rw [hk,if_neg Bool.false_ne_true] at e
   exact h x c e
  | true =>
   rw [hk,if_pos rfl] at e
   obtain ⟨c0,e0⟩:=hl (n,k) List.mem_cons_self (by simpa using hk)
   cases hx:x == n with
   | true =>
    rw [List.lookup_cons,hx] at e
    have hx':x=n:=by simpa using hx
    subst hx'
    have e':(List.lookup x env.cells).getD 0=c:=Option.some.inj e
    have e0':List.lookup x env.cells=some c0:=e0
    rw [e0'] at e'
    rw [e0',<- e']
    rfl
   | false =>
    rw [List.lookup_cons,hx] at e
    exact h x c e
theorem Yp (env:Env)(x:Str):∀ (l:List (Str × NameKind)) (cs:List (Str × Addr)),(∃ c,cs.lookup x=some c)->∃ c,(l.foldl (fun b a=>zV env a b) cs).lookup x=some c
 | [],_,h=>h
 | (n,k)::l,cs,h=>by
  refine Yp env x l _ ?_
  unfold zV
  dsimp only
  split
  ·rw [List.lookup_cons]
   cases hx:x == n with
   | true=>exact ⟨_,rfl⟩
   | false=>exact h
  ·exact h
theorem Yn (env:Env):∀ (l:List (Str × NameKind)) (cs:List (Str × Addr)),∀ y ∈ l,y.2 = .free->∃ c,(l.foldl (fun b a=>zV env a b) cs).lookup y.1=some c
 | [],_,_,h,_=>nomatch h
 | z::l,cs,y,h,hf=>by
  rcases List.mem_cons.mp h with e | h
  ·subst e
   refine Yp env y.1 l _ ?_
   unfold zV
   dsimp only
   rw [hf,if_pos (by rfl),List.lookup_cons,beq_self_eq_true]
   exact ⟨_,rfl⟩
  ·exact Yn env l _ y h hf
theorem Yq {scope:Scope}{env:Env}(h:∀ y ∈ scope.names,y.2 = .free->∃ c,env.cells.lookup y.1=some c) :
  ∃ cl,closureFor scope env=pure cl/\(∀ x c,cl.lookup x=some c->env.cells.lookup x=some c)/\∀ y ∈ scope.names,y.2 = .free->∃ c,cl.lookup y.1=some c:=by
 refine ⟨scope.names.foldl (fun b a=>zV env a b) [],?_,Yo env _ _ h (fun x c e=>by cases e),Yn env _ _⟩
 simp only [closureFor]
 rw [YV (zV env) scope.names [] (fun y hy b=>?_)]
 ·rfl
 ·obtain ⟨n,k⟩:=y
  unfold zV
  cases hk:(k == NameKind.free) with
  | false=>simp only [hk,Bool.false_eq_true,if_false] <;> rfl
  | true =>
   obtain ⟨c,e⟩:=h (n,k) hy (by simpa using hk)
   have e':List.lookup n env.cells=some c:=e
   simp only [hk,if_true,cellOf,e']
   rfl

theorem Gz (env:Env)(n:Str)(k:NameKind)(r:List (Str × NameKind))(x:Str) :
  ((List.map (fun (n,k)=>if (k == NameKind.free && env.scope.kind == .function && env.kindOf n == some .cell) then (n,NameKind.cell) else (n,k)) ((n,k)::r)).lookup x) =
   (if x == n then some (if (k == NameKind.free && env.scope.kind == .function && env.kindOf n == some .cell) then NameKind.cell else k) else
    (List.map (fun (n,k)=>if (k == NameKind.free && env.scope.kind == .function && env.kindOf n == some .cell) then (n,NameKind.cell) else (n,k)) r).lookup x):=by
 rw [List.map_cons]
 show List.lookup x ((if (k == NameKind.free && env.scope.kind == .function && env.kindOf n == some .cell)=true then (n,NameKind.cell) else (n,k))::_)=_
 by_cases hc:(k == NameKind.free && env.scope.kind == .function && env.kindOf n == some .cell)=true
 ·rw [if_pos hc,if_pos hc,List.lookup_cons]
  cases x == n <;> rfl
 ·rw [if_neg hc,if_neg hc,List.lookup_cons]
  cases x == n <;> rfl
theorem GB {env:Env}{x:Str}{k:NameKind}:∀ {names:List (Str × NameKind)},
  (names.map fun (n,k)=>if (k == NameKind.free && env.scope.kind == .function && env.kindOf n == some .cell) then (n,NameKind.cell) else (n,k)).lookup x=some k ->
  ∃ k',names.lookup x=some k'/\(k'=k ∨ (k' = .free/\k = .cell))
 | [],h=>by simp at h
 | (n,q)::r,h=>by
  rw [Gz] at h
  rw [List.lookup_cons]
  cases hx:x == n with
  | true =>
   rw [hx,if_pos rfl] at h
   have h':=Option.some.inj h
   refine ⟨q,rfl,?_⟩
   by_cases hc:(q == NameKind.free && env.scope.kind == .function && env.kindOf n == some .cell)=true
   ·rw [if_pos hc] at h'
    have hq:(q == NameKind.free)=true:=by
     cases z:(q == NameKind.free) with
     | true=>rfl
     | false=>rw [z] at hc;simp at hc
    exact .inr ⟨by simpa using hq,h'.symm⟩
   ·rw [if_neg hc] at h'
    exact .inl h'
  | false =>
   rw [hx,if_neg Bool.false_ne_true] at h
   exact GB h
theorem GA {env:Env}{x:Str}:∀ {names:List (Str × NameKind)},names.lookup x=some .free ->
  (names.map fun (n,k)=>if (k == NameKind.free && env.scope.kind == .function && env.kindOf n == some .cell) then (n,NameKind.cell) else (n,k)).lookup x=some .cell ∨
  (names.map fun (n,k)=>if (k == NameKind.free && env.scope.kind == .function && env.kindOf n == some .cell) then (n,NameKind.cell) else (n,k)).lookup x=some .free
 | [],h=>by simp at h
 | (n,q)::r,h=>by
  rw [Gz]
  rw [List.lookup_cons] at h
  cases hx:x == n with
  | true =>
   rw [hx] at h
   have h':q = .free:=Option.some.inj h
   rw [if_pos rfl]
   by_cases hc:(q == NameKind.free && env.scope.kind == .function && env.kindOf n == some .cell)=true
   ·rw [if_pos hc];exact .inl rfl
   ·rw [if_neg hc,h'];exact .inr rfl
  | false =>
   rw [hx] at h
   rw [if_neg Bool.false_ne_true]
   exact GA h

def m6 (cap:List (Option Nat))(σ:St):St:=cap.map fun o=>o.bind fun i=>(σ[i]?).join
structure vE (X:Cx)(N':List Str)(cap:List (Option Nat))(sc:Scope):Prop where
 kind:sc.kind = .function
 nocell:∀ y ∈ sc.names,y.2 ≠ .cell
 names:∀ y ∈ sc.names,y.2 = .local->sc.names.lookup y.1=some .local
 free:∀ y ∈ sc.names,y.2 = .free->X.env.kindOf y.1=some .cell ∨ X.env.kindOf y.1=some .free
 len:cap.length=N'.length
 cap:∀ (j i:Nat),cap[j]?=some (some i)->∃ x,N'[j]?=some x/\X.N[i]?=some x/\sc.names.lookup x=some .free
def Uq:Option NameKind->Bool
 | some .cell=>true
 | some .free=>true
 | _=>false
theorem Cr {k:Option NameKind}(h:Uq k=true):k=some .cell ∨ k=some .free:=by
 cases k with
 | none=>cases h
 | some k=>cases k <;> first | exact .inl rfl | exact .inr rfl | cases h
def XR (names:List (Str × NameKind))(kd:Str->Option NameKind)(y:Str × NameKind):Bool :=
 match y.2 with
 | .cell=>false
 | .local=>names.lookup y.1 == some .local
 | .free=>Uq (kd y.1)
 | _=>true
def zD (N:List Str)(sc:Scope):List Str->List (Option Nat)->Bool
 | [],[]=>true
 | _::r,none::c=>zD N sc r c
 | x::r,some i::c=>N[i]? == some x && (sc.names.lookup x == some .free && zD N sc r c)
 | _,_=>false
theorem Ju {N:List Str}{sc:Scope}:∀ {xs:List Str} {c:List (Option Nat)},zD N sc xs c=true->c.length=xs.length
 | [],[],_=>rfl
 | _::r,none::c,h=>by
  have h':zD N sc r c=true:=h
  simp [Ju h']
 | x::r,some i::c,h=>by
  have h':(N[i]? == some x && (sc.names.lookup x == some .free && zD N sc r c))=true:=h
  simp only [Bool.and_eq_true] at h'
  simp [Ju h'.2.2]
 | [],_::_,h=>by cases h
 | _::_,[],h=>by cases h
theorem Jt {N:List Str}{sc:Scope}:∀ {xs:List Str} {c:List (Option Nat)},zD N sc xs c=true->∀ (j i:Nat),c[j]?=some (some i)->∃ x,xs[j]?=some x/\N[i]?=some x/\sc.names.lookup x=some .free
 | [],[],_,j,i,e=>by simp at e
 | _::r,none::c,h,0,i,e=>by simp at e
 | _::r,none::c,h,j + 1,i,e=>by
  have h':zD N sc r c=true:=h
  obtain ⟨x,h1,h2⟩:=Jt h' j i (by simpa using e)
  exact ⟨x,by simpa using h1,h2⟩
 | x::r,some k::c,h,0,i,e=>by
  have h':(N[k]? == some x && (sc.names.lookup x == some .free && zD N sc r c))=true:=h
  simp only [Bool.and_eq_true] at h'
  have e':k=i:=by simpa using e
  subst e'
  exact ⟨x,rfl,by simpa using h'.1,by simpa using h'.2.1⟩
 | x::r,some k::c,h,j + 1,i,e=>by
  have h':(N[k]? == some x && (sc.names.lookup x == some .free && zD N sc r c))=true:=h
  simp only [Bool.and_eq_true] at h'
  obtain ⟨x',h1,h2⟩:=Jt h'.2.2 j i (by simpa using e)
  exact ⟨x',by simpa using h1,h2⟩
 | [],_::_,h,_,_,_=>by cases h
 | _::_,[],h,_,_,_=>by cases h
theorem o5 {X:Cx}{N':List Str}{cap:List (Option Nat)}{sc:Scope}(h1:sc.kind = .function)(h2:(sc.names.all fun y=>XR sc.names X.env.kindOf y)=true)(h3:zD X.N sc N' cap=true):vE X N' cap sc:=by
 have h2':=List.all_eq_true.mp h2
 refine ⟨h1,fun y hy e=>?_,fun y hy e=>?_,fun y hy e=>?_,Ju h3,Jt h3⟩
 ·have q:=h2' y hy
  unfold XR at q
  rw [e] at q;cases q
 ·have q:=h2' y hy
  unfold XR at q
  rw [e] at q
  simpa using q
 ·have q:=h2' y hy
  unfold XR at q
  rw [e] at q
  exact Cr q

def qF (X:Cx)(N':List Str)(sc:Scope)(cl:List (Str × Addr))(C:Addr)(s:Shared)(H:Hp)(fp:List Addr)(pn:List (Addr × Obj)):Cx where
 prog:=X.prog
 w:=X.w
 K:=X.K
 mg:=X.mg
 base:=X.base
 A:=X.A
 N:=N'
 s₀:=s
 H₀:=H
 env:=compEnvC sc cl C X.env
 outer:=X.stack
 stack:=X.stack
 ex:=fp
 fn:=fun _=>false
 calm:=X.calm
 pn:=pn
 xe:=fun _ _=>False

section
variable {X:Cx}{pins:List (Addr × Obj)}{σ:St}{H:Hp}{s:Shared}{h1:Heap}{N':List Str}{cap:List (Option Nat)}{sc:Scope}{cl:List (Str × Addr)}{fp:List Addr}{C D:Addr}
theorem BL (I:Inv X pins σ H s)(S:vE X N' cap sc)(hc1:∀ x c,cl.lookup x=some c->X.env.cells.lookup x=some c)(hc2:∀ y ∈ sc.names,y.2 = .free->∃ c,cl.lookup y.1=some c)
  (hf:∀ b ∈ fp,xh X pins H b) (ho:∀ b ∈ fp,b < s.heap.objs.size) (hC:s.heap.objs.size<=C):(qF X N' sc cl C s H fp (X.pn++pins)).Ok where
 mod:=I.ok.mod
 kind:=S.kind
 glob:=I.ok.glob
 blt:=I.ok.blt
 above:=hC
 inj:=fun x y c e1 e2=>I.ok.inj x y c (hc1 x c e1) (hc1 y c e2)
 has:=fun x hx=>by
  have key:∀ k,(relabel sc X.env).names.lookup x=some k->(k = .cell ∨ k = .free)->∃ c,cl.lookup x=some c:=fun k e hk=>by
   obtain ⟨k',e',q⟩:=GB e
   have hm:=PySem.mem_of_lookup e'
   have hfree:k' = .free:=by
    rcases q with q | q
    ·rcases hk with z | z
     ·exact absurd (q.trans z) (S.nocell _ hm)
     ·exact q.trans z
    ·exact q.1
   exact hc2 (x,k') hm hfree
  rcases hx with e | e
  ·exact key _ e (.inl rfl)
  ·exact key _ e (.inr rfl)
 cab:=fun x c hx _=>by cases hx
 hd:=I.ok.hd
 frames:=I.ok.frames
 stk:= .inl rfl
 exf:=fun b hb=>⟨Nat.ne_of_lt (Nat.lt_of_lt_of_le (ho b hb) hC),fun x c e=>(hf b hb).2.2.2.2.1 x c (hc1 x c e)⟩
 bs:=I.bs
 bsz:=Nat.le_trans I.ok.bsz I.sz
 noex:=fun b o e hb=>by
  rcases (hf b hb).2.2.2.1 with z | z
  ·exact I.ok.noex b o e z
  ·exact absurd (Nat.lt_of_lt_of_le (Heap.lt_size e) (Nat.le_trans I.ok.bsz z)) (Nat.lt_irrefl _)
 exfs:=fun b hb hz=>by
  rcases List.mem_cons.mp (I.stkSub b hz) with e | e
  ·exact (hf b hb).2.1 e
  ·exact (hf b hb).2.2.1 e
 funs:=I.stack
 frf:=I.stkFree
 tbs:=fun p hp=>I.base.tbls _ _ _ (I.ok.tbs p hp)

theorem PL {m0:Str->Option Value}{o:Obj}(I:Inv X pins σ H s)(S:vE X N' cap sc)(hc1:∀ x c,cl.lookup x=some c->X.env.cells.lookup x=some c)(hc2:∀ y ∈ sc.names,y.2 = .free->∃ c,cl.lookup y.1=some c)
  (hf:∀ b ∈ fp,xh X pins H b) (ho:∀ b ∈ fp,b < s.heap.objs.size) (hD:s.heap.objs.size<=D) (hC:D < C) (hDo:h1.get? D=some o) (hoc:∀ v,o.data ≠ .cell v)
  (hns:h1.Ns C m0) (hk:∀ b o,s.heap.get? b=some o->h1.get? b=some o) (t:Nat) :
  Inv (qF X N' sc cl C s H fp (X.pn++pins)) [(D,o)] (m6 cap σ) H { s with heap:=h1,toks:=t }:=by
 have hCs:s.heap.objs.size<=C:=Nat.le_trans hD (Nat.le_of_lt hC)
 have lt_s:∀ b o,s.heap.get? b=some o->b ≠ C:=fun b o e=>Nat.ne_of_lt (Nat.lt_of_lt_of_le (Heap.lt_size e) hCs)
 refine ⟨BL I S hc1 hc2 hf ho hCs,rfl,I.bare,Un.kept hk,⟨m0,hns,fun j x v e1 e2 e3=>?_⟩,fun x c e=>?_,I.hok.fresh hCs,fun x c e=>I.freeC x c (hc1 x c e),fun p hp=>?_,I.hok.kept hk,?_⟩
 ·obtain ⟨i,hi,hσ⟩:∃ i,cap[j]?=some (some i)/\σ[i]?=some (some v):=by
   unfold m6 at e2
   rw [List.getElem?_map] at e2
   cases hc:cap[j]? with
   | none=>rw [hc] at e2;cases e2
   | some o' =>
    rw [hc] at e2
    have e2':(o'.bind fun i=>(σ[i]?).join)=some v:=Option.some.inj e2
    cases o' with
    | none=>cases e2'
    | some i =>
     refine ⟨i,rfl,?_⟩
     have e3':(σ[i]?).join=some v:=e2'
     cases hs:σ[i]? with
     | none=>rw [hs] at e3';cases e3'
     | some q=>rw [hs] at e3';exact congrArg some e3'
  obtain ⟨x',n1,n2,n3⟩:=S.cap j i hi
  have e1':N'[j]?=some x:=e1
  rw [n1] at e1'
  obtain rfl:x'=x:=Option.some.inj e1'
  have hkd:=S.free (x',.free) (PySem.mem_of_lookup n3) rfl
  obtain ⟨m,_,hl⟩:=I.loc
  obtain ⟨u,r,l⟩:=hl i x' v n2 hσ (by
   rcases hkd with z | z
   ·exact .inr (.inl z)
   ·exact .inr (.inr z))
  refine ⟨u,r,?_⟩
  rcases l with ⟨l1,_⟩ | ⟨_,c,ec,hcell⟩
  ·rcases hkd with z | z
   ·exact absurd (l1.symm.trans z) (by simp)
   ·exact absurd (l1.symm.trans z) (by simp)
  ·obtain ⟨c',ec'⟩:=hc2 (x',.free) (PySem.mem_of_lookup n3) rfl
   have q:=hc1 x' c' ec'
   rw [ec] at q
   obtain rfl:c=c':=Option.some.inj q
   refine .inr ⟨GA n3,c,ec',?_⟩
   obtain ⟨oc,hoc',hd⟩:=hcell
   exact ⟨oc,hk _ _ hoc',hd⟩
 ·obtain ⟨v,oc,hoc',hd⟩:=I.cell x c (hc1 x c e)
  exact ⟨v,oc,hk _ _ hoc',hd⟩
 ·rcases List.mem_append.mp hp with hp | hp
  ·obtain ⟨e,n,ne,nf,d⟩:=I.pin p hp
   refine ⟨hk _ _ e,n,lt_s _ _ e,fun hz=>?_,d⟩
   rcases List.mem_cons.mp (I.stkSub _ hz) with e' | e'
   ·exact ne e'
   ·exact nf e'
  ·have e:p=(D,o):=by simpa using hp
   subst e
   refine ⟨hDo,I.hok.fresh hD,Nat.ne_of_lt hC,fun hz=>?_,hoc⟩
   rcases List.mem_cons.mp (I.stkSub _ hz) with e' | e'
   ·exact absurd (Nat.lt_of_lt_of_le I.lt hD) (by rw [show X.env.locals=D from e'.symm];exact Nat.lt_irrefl _)
   ·exact I.nofs hD e'
 ·unfold m6
  rw [List.length_map]
  exact S.len
end
end L2
namespace L2
open PySem PySem.Spec PyProof.Rows
structure Wk (σ σ':St):Prop where
 len:σ.length=σ'.length
 at':∀ (i:Nat) v,σ[i]?=some (some v)->σ'[i]?=some (some v)
theorem Wk.refl (σ:St):Wk σ σ:=⟨rfl,fun _ _ h=>h⟩
theorem Wk.set {σ σ':St}{i:Nat}{o:Option V}(w:Wk σ σ')(h:σ[i]?=some none):Wk σ (σ'.set i o):=by
 refine ⟨by rw [List.length_set];exact w.len,fun j v e=>?_⟩
 have ne:i ≠ j:=fun z=>by rw [<- z,h] at e;cases e
 rw [List.getElem?_set_ne ne]
 exact w.at' j v e
theorem Wk.one {σ:St}{i:Nat}{o:Option V}(h:σ[i]?=some none):Wk σ (σ.set i o):=(Wk.refl σ).set h

def PTs (X:Cx)(ifs:List Expr)(t:TT):Prop :=
 ∀ (pins:List (Addr × Obj)) (s:Shared) (σ:St) (H:Hp) (Q:Bool->Hp->Prop),Inv X pins σ H s->t σ H Q ->
  wpAny (model X.prog X.w) X.A (forIn ifs true fun c r=>if r=true then do let ok <- isTrue c X.env (eval c X.env);pure (ForInStep.yield ok) else pure (ForInStep.yield r)) (TP X pins σ Q) X.xe s
def tYes:TT:=fun _ H Q=>Q true H
theorem qh {X:Cx}:PTs X [] tYes:=fun _ _ _ H _ I h=>wpAny_tests_nil ⟨H,I,h⟩
theorem Gb {X:Cx}{c:Expr}{t:TT}(h:PT X c t):PTs X [c] t:=fun pins s σ H Q I q=>wpAny_tests_one (h pins s σ H Q I q)

def VP (J:It)(g:TG)(tt:TT)(te:TE)(Q:VK)(σ0:St)(H1:Hp):Prop:=∃ W:Nat->Nat->List V->Hp->Prop,(∃ m,W 0 m [] H1)/\∀ i m ys H,W i m ys H->ys.length<=sizeLine /\
  ((J.stop i H/\∀ D,H D=none->Q (.ref D) (j7 H D (.lst ys))) ∨
   (J.go i H/\∀ x H',J.yld i H x H'->g x σ0 H' fun σ2 H2=>Wk σ0 σ2/\tt σ2 H2 fun b H3 =>
      if b=true then te σ2 H3 fun v H4=>∃ m',m' < m/\W (i + 1) m' (ys++[v]) H4 else ∃ m',m' < m/\W (i + 1) m' ys H3))
def QT (wi:TI)(g:TG)(tt:TT)(te:TE)(cap:List (Option Nat)):TE:=fun σ H Q=>wi σ H fun J H1=>VP J g tt te Q (m6 cap σ) H1

section
variable {X:Cx}{pins:List (Addr × Obj)}{σ:St}{s₂:Shared}{N':List Str}{cap:List (Option Nat)}{sc:Scope}{cl:List (Str × Addr)}{fp:List Addr}
theorem Ys {tg iter elt:Expr}{ifs:List Expr}{pos:Pos}{g:TG}{tt:TT}{te:TE}{Q:VK}{H2:Hp}{it:Addr}{tn:Nat->Heap->Prop}{J:It}{E:Value->Shared->Prop}{RR:Value->Addr->Result->Shared->Prop}
    (S:vE X N' cap sc) (hc:X.calm=true) (hc1:∀ x c,cl.lookup x=some c->X.env.cells.lookup x=some c) (hc2:∀ y ∈ sc.names,y.2 = .free->∃ c,cl.lookup y.1=some c)
    (hg:∀ C pn,PG (qF X N' sc cl C s₂ H2 fp pn) tg g) (ht:∀ C pn,PTs (qF X N' sc cl C s₂ H2 fp pn) ifs tt) (he:∀ C pn,PE (qF X N' sc cl C s₂ H2 fp pn) elt te)
    (I2:Inv X pins σ H2 s₂) (T:zT X.prog X.w X.K tg J fp it tn) (st2:tn 0 s₂.heap) (f2:∀ b ∈ fp,xh X pins H2 b)
    (W:Nat->Nat->List V->Hp->Prop) (w0:∃ m,W 0 m [] H2) (turn:∀ i m ys H,W i m ys H->ys.length<=sizeLine /\
      ((J.stop i H/\∀ D,H D=none->Q (.ref D) (j7 H D (.lst ys))) ∨
       (J.go i H/\∀ x H',J.yld i H x H'->g x (m6 cap σ) H' fun σ2 H2=>Wk (m6 cap σ) σ2/\tt σ2 H2 fun b H3 =>
          if b=true then te σ2 H3 fun v H4=>∃ m',m' < m/\W (i + 1) m' (ys++[v]) H4 else ∃ m',m' < m/\W (i + 1) m' ys H3)))
    (hRR:∀ D C H' s' m,Inv X pins σ H' s'->s'.heap.Ns C m->xh X pins H' C->Q (.ref D) H'->RR (.ref D) C (.ok .next) s') :
    wpAny (model X.prog X.w) X.A (newList []) (fun acc s₃=>wpAny (model X.prog X.w) X.A (newFunctionEnv sc X.env.globals cl [] X.env.qual none .none (some X.env)) (fun cenv s₄ =>
      codeAny (model X.prog X.w) X.A (.compStart (.ListComp elt [⟨tg,iter,ifs,0⟩] sc pos) 0 (.ref it) acc { cenv with scope:=relabel sc X.env }) (RR acc cenv.locals) s₄) E s₃) E s₂:=by
  refine wpAny_newObj_type (wpAny_newFunctionEnv S.nocell (by intro y hy;simp at hy) (fun h₁ hns₁ hsb₁=>?_) S.kind)
  dsimp only at hns₁ hsb₁ ⊢
  generalize hG:s₂.heap.push { cls:= .type "list",dict:=none,data:= .seq ([]:List Value).toArray }=G at hns₁ hsb₁ ⊢
  have hC:G.objs.size=s₂.heap.objs.size + 1:=by rw [<- hG,Heap.size_push]
  have hDC:s₂.heap.objs.size < G.objs.size:=by rw [hC];exact Nat.lt_succ_self _
  have old:∀ b o,s₂.heap.get? b=some o->h₁.get? b=some o:=fun b o e =>
    hsb₁.extBut b o (Nat.ne_of_lt (Nat.lt_trans (Heap.lt_size e) hDC)) (Heap.get?_push_of_some _ (hG ▸ Heap.get?_push_of_some _ e))
  have hacc:h₁.get? s₂.heap.objs.size=some (LCg.lst []):=hsb₁.extBut _ _ (Nat.ne_of_lt hDC) (Heap.get?_push_of_some _ (hG ▸ Heap.get?_push_size _ rfl))
  have fl:∀ b ∈ fp,b < s₂.heap.objs.size:=fun b hb=>by obtain ⟨o,e,_⟩:=T.obj _ _ st2 b hb;exact Heap.lt_size e
  have seqd:∀ (us:List Value) v,(LCg.lst us).data ≠ .cell v:=fun us v z=>by cases z
  have cellt:∀ x c,cl.lookup x=some c->c < s₂.heap.objs.size:=fun x c e=>by obtain ⟨v,oc,ho,_⟩:=I2.cell x c (hc1 x c e);exact Heap.lt_size ho
  have pint:∀ p ∈ X.pn++pins,p.1 < s₂.heap.objs.size:=fun p hp=>Heap.lt_size (I2.pin p hp).1
  have I0:Inv (qF X N' sc cl G.objs.size s₂ H2 fp (X.pn++pins)) [(s₂.heap.objs.size,LCg.lst [])] (m6 cap σ) H2 { s₂ with heap:=h₁,toks:=s₂.toks + ([]:List (Str × Value)).length } :=
    PL I2 S hc1 hc2 f2 fl (Nat.le_refl _) hDC hacc (seqd []) hns₁ old _
  have stat:∀ {H':Hp} {us:List Value},(∀ b ∈ fp,H' b=none)->∀ b ∈ fp,xh (qF X N' sc cl G.objs.size s₂ H2 fp (X.pn++pins)) [(s₂.heap.objs.size,LCg.lst us)] H' b:=fun {H' us} hn b hb=>by
    obtain ⟨f0,f1,f2',f3,f4,f5⟩:=f2 b hb
    refine ⟨hn b hb,Nat.ne_of_lt (Nat.lt_trans (fl b hb) hDC),fun hz=>?_,.inl hb,fun x c e=>f4 x c (hc1 x c e),fun p hp=>?_⟩
    · rcases List.mem_cons.mp (I2.stkSub b hz) with e | e
      · exact f1 e
      · exact f2' e
    · rcases List.mem_append.mp hp with hp | hp
      · exact f5 p hp
      · have e:p=(s₂.heap.objs.size,LCg.lst us):=by simpa using hp
        rw [e]
        exact Ne.symm (Nat.ne_of_lt (fl b hb))
  have loop:∀ s₃:Shared,s₃={ s₂ with heap:=h₁,toks:=s₂.toks + ([]:List (Str × Value)).length } ->
      codeAny (model X.prog X.w) X.A (.compLoop (.ListComp elt [⟨tg,iter,ifs,0⟩] sc pos) 0 (.ref it) (.ref s₂.heap.objs.size) (compEnvC sc cl G.objs.size X.env)) (RR (.ref s₂.heap.objs.size) G.objs.size) s₃:=by
    rintro s₃ rfl
    obtain ⟨m0,w0⟩:=w0
    refine BH
      (fun n s'=>∃ i ys us H',Inv (qF X N' sc cl G.objs.size s₂ H2 fp (X.pn++pins)) [(s₂.heap.objs.size,LCg.lst us)] (m6 cap σ) H' s'/\Vals ys us/\tn i s'.heap/\(∀ b ∈ fp,H' b=none)/\W i n ys H') ?_ m0
      ⟨0,[],[],H2,I0,.nil,T.keep _ _ _ st2 fun b _ o e=>old b o e,fun b hb=>(f2 b hb).1,w0⟩
    rintro n s3 ⟨i,ys,us,H3,I3,rv,st3,fr3,w3⟩
    obtain ⟨hz,alt⟩:=turn i n ys H3 w3
    rcases alt with ⟨stop,fin⟩ | ⟨go,step⟩
    · refine z8 (T.done (qF X N' sc cl G.objs.size s₂ H2 fp (X.pn++pins)) rfl rfl rfl hc i _ s3 _ H3 _ I3 (stat fr3) st3 stop) fun r s4 ⟨hr,I4⟩=>?_
      subst hr
      obtain ⟨gD,nD,_,_,_⟩:=I4.pin (s₂.heap.objs.size,LCg.lst us) (List.mem_append_right _ (List.mem_singleton.mpr rfl))
      have nD':H3 s₂.heap.objs.size=none:=nD
      have gD':s4.heap.get? s₂.heap.objs.size=some (LCg.lst us):=gD
      have b4:Un (frs X.stack) fp H2 H3 s₂.heap s4.heap:=I4.base
      have n2:H2 s₂.heap.objs.size=none:=I2.hok.fresh (Nat.le_refl _)
      have un:Un (frs X.stack) fp H2 (j7 H3 s₂.heap.objs.size (.lst ys)) s₂.heap s4.heap :=
        ⟨b4.keep,b4.slot,fun b o e n hx=>by rw [j3 (Nat.ne_of_lt (Heap.lt_size e))];exact b4.free b o e n hx,b4.there,
          fun b xs e=>by rw [j3 (y7 e n2)];exact b4.tups b xs e,fun b o u e=>by rw [j3 (y7 e n2)];exact b4.frzs b o u e,
          fun b ps q e=>by rw [j3 (y7 e n2)];exact b4.tbls b ps q e⟩
      have hok:HOk X.prog X.w (j7 H3 s₂.heap.objs.size (.lst ys)) s4.heap:=fun b u e=>by
        by_cases hb:b=s₂.heap.objs.size
        · subst hb
          rw [y4] at e
          cases e
          exact ⟨hz,us,us.length,rv,gD'⟩
        · rw [j3 hb] at e
          exact (I4.hok b u e).stay (fun c v _ q=>q) (fun c q=>by rw [j3 (y7 q nD')];exact q) (fun c xs q=>by rw [j3 (y7 q nD')];exact q) fun c _ _ q=>by rw [j3 (y7 q nD')];exact q
      have IF:Inv X pins σ (j7 H3 s₂.heap.objs.size (.lst ys)) s4:=I2.call' (ch:=fp) I4.os un hok I4.bare fun b hb=>by
        obtain ⟨f0,f1,f2',f3,f4,f5⟩:=f2 b hb
        exact ⟨f3,f1,f4,f5⟩
      obtain ⟨mF,hnF,_⟩:=I4.loc
      refine hRR _ _ _ _ mF IF hnF (I2.fpOk (Nat.le_of_lt hDC) ?_) (fin _ nD')
      rw [j3 (Ne.symm (Nat.ne_of_lt hDC))]
      exact I4.free
    · refine z8 (T.item (qF X N' sc cl G.objs.size s₂ H2 fp (X.pn++pins)) rfl rfl rfl hc i _ s3 _ H3 _ I3 (stat fr3) st3 go) fun r s4 ⟨u,hr,h4⟩=>?_
      subst hr
      refine z8 h4 fun _ s5 ⟨x,H5,I5,r5,y5,st5,fr5⟩=>?_
      have I5':=I5.pinned (stat fr5) (T.obj _ _ st5)
      refine z8 (hg G.objs.size (X.pn++pins) _ s5 _ H5 x u _ I5' r5 (step x H5 y5)) fun _ s6 ⟨σ6,H6,I6,wk,q6⟩=>?_
      refine z8 (ht G.objs.size (X.pn++pins) _ s6 σ6 H6 _ I6 q6) fun ok s7 ⟨H7,I7,q7⟩=>?_
      have back:∀ {σ8:St} {H8:Hp} {s8:Shared} {us8:List Value},Inv (qF X N' sc cl G.objs.size s₂ H2 fp (X.pn++pins)) ([(s₂.heap.objs.size,LCg.lst us8)]++QC fp s5.heap) σ8 H8 s8 ->
          tn (i + 1) s8.heap/\∀ b ∈ fp,H8 b=none:=fun {σ8 H8 s8 us8} I8=>by
        refine ⟨T.keep _ _ _ st5 fun b hb o e=>(I8.pin (b,o) (List.mem_append_right _ (List.mem_append_right _ (XQ hb e)))).1,fun b hb=>?_⟩
        obtain ⟨o,e,d⟩:=T.obj _ _ st5 b hb
        exact (I8.pin (b,o) (List.mem_append_right _ (List.mem_append_right _ (XQ hb e)))).2.1
      cases ok with
      | false =>
        obtain ⟨m',hm,w7⟩:=q7
        obtain ⟨t7,f7⟩:=back I7
        exact ⟨m',hm,i + 1,ys,us,H7,I7.unpinned.weak wk.len wk.at',rv,t7,f7,w7⟩
      | true =>
        refine z8 (he G.objs.size (X.pn++pins) _ s7 σ6 H7 _ I7 q7) fun uv s8 ⟨v,H8,I8,r8,m',hm,w8⟩=>?_
        obtain ⟨t8,f8⟩:=back I8
        obtain ⟨gD,nD,lD,fD,_⟩:=I8.pin (s₂.heap.objs.size,LCg.lst us) (List.mem_append_right _ (List.mem_append_left _ (List.mem_singleton.mpr rfl)))
        have gD':s8.heap.get? s₂.heap.objs.size=some { cls:= .type "list",data:= .seq us.toArray us.length }:=gD
        refine append_at (hsz:=by rw [List.size_toArray,<- rv.length];exact hz) gD' fun h9 hs9 hD9=>?_
        have I8a:Inv (qF X N' sc cl G.objs.size s₂ H2 fp (X.pn++pins)) [] σ6 H8 s8:=I8.pins_of fun p hp=>nomatch hp
        have I9:Inv (qF X N' sc cl G.objs.size s₂ H2 fp (X.pn++pins)) [] σ6 H8 { s8 with heap:=h9,toks:=s8.toks } :=
          I8a.turned (it:=s₂.heap.objs.size) (fun b o hb e=>hs9.extBut b o hb e) nD lD (.inr (Nat.le_refl _)) (fun x c e=>Nat.ne_of_lt (cellt x c e)) fun p hp=>by
            rw [List.append_nil] at hp
            exact Nat.ne_of_lt (pint p hp)
        have I10:Inv (qF X N' sc cl G.objs.size s₂ H2 fp (X.pn++pins)) [(s₂.heap.objs.size,LCg.lst (us++[uv]))] σ6 H8 { s8 with heap:=h9,toks:=s8.toks }:=I9.pins_of fun p hp=>by
          have e:p=(s₂.heap.objs.size,LCg.lst (us++[uv])):=by simpa using hp
          subst e
          exact ⟨hD9.trans (congrArg some (LCg.lst_snoc us uv)),nD,lD,fD,seqd _⟩
        refine ⟨m',hm,i + 1,ys++[v],us++[uv],H8,I10.weak wk.len wk.at',rv.append (.cons r8 .nil),T.keep _ _ _ t8 fun b hb o e=>hs9.extBut b o (Nat.ne_of_lt (fl b hb)) e,f8,w8⟩
  have st1:tn 0 h₁:=T.keep _ _ _ st2 fun b _ o e=>old b o e
  exact codeAny_compStart_list (loop _ rfl) (T.self _ 0 _ _ _ st1 (loop _ rfl))

theorem qD {tg iter elt:Expr}{ifs:List Expr}{pos:Pos}{wi:TI}{g:TG}{tt:TT}{te:TE}(S:vE X N' cap sc)(hc:X.calm=true)(hi:PI X tg iter wi)
  (hg:∀ cl C s H fp pn,PG (qF X N' sc cl C s H fp pn) tg g) (ht:∀ cl C s H fp pn,PTs (qF X N' sc cl C s H fp pn) ifs tt) (he:∀ cl C s H fp pn,PE (qF X N' sc cl C s H fp pn) elt te)
  (hs:∀ x,foldedSetIterable iter X.env x=pure x:=by intro _;rfl):PE X (.ListComp elt [⟨tg,iter,ifs,0⟩] sc pos) (QT wi g tt te cap):=by
 intro pins s σ H Q I h
 rw [eval_ListComp]
 obtain ⟨cl,hcl,hc1,hc2⟩:=Yq (scope:=sc) (env:=X.env) fun y hy e=>I.ok.has y.1 (S.free y hy e)
 refine wpAny_comprehension_free (use:=none) rfl hs hcl S.kind S.names (z8 (hi pins s σ H _ I h) fun v s1 h1=>z8 h1 fun itv s2 h2=>?_)
 obtain ⟨it,fp,tn,J,H2,e,I2,T,st2,f2,W,w0,turn⟩:=h2
 subst e
 refine Ys (RR:=fun acc C=>compPost (model X.prog X.w) X.A X.xe none (EP X pins σ Q) acc C) S hc hc1 hc2 (fun C pn=>hg cl C s2 H2 fp pn) (fun C pn=>ht cl C s2 H2 fp pn) (fun C pn=>he cl C s2 H2 fp pn) I2 T st2 f2 W w0 turn ?_
 intro D C H' s' m I' hn F q
 obtain ⟨f0,f1,f2',f3,f4,f5⟩:=F
 exact ⟨m,hn,fun h' hs'=>⟨.ref D,H',I'.turned (t':=s'.toks) (fun b o hb e=>hs'.extBut b o hb e) f0 f1 f3 f4 f5,rfl,q⟩⟩

theorem wF {i:Nat}{x:Str}{tg iter elt:Expr}{ifs:List Expr}{pos spos pos':Pos}{wi:TI}{g:TG}{tt:TT}{te:TE}(S:vE X N' cap sc)(hc:X.calm=true)(hN:X.N.Nodup)(hx:X.N[i]?=some x)(hk:X.env.scope.names.lookup x=some .local)(hi:PI X tg iter wi)
  (hg:∀ cl C s H fp pn,PG (qF X N' sc cl C s H fp pn) tg g) (ht:∀ cl C s H fp pn,PTs (qF X N' sc cl C s H fp pn) ifs tt) (he:∀ cl C s H fp pn,PE (qF X N' sc cl C s H fp pn) elt te)
  (hsw:swapsWith (.ListComp elt [⟨tg,iter,ifs,0⟩] sc pos) (some (.Name x pos')) spos.line X.env=pure true:=by rfl)
  (hs:∀ x,foldedSetIterable iter X.env x=pure x:=by intro _;rfl):PS X (.Assign [.Name x pos'] (.ListComp elt [⟨tg,iter,ifs,0⟩] sc pos) spos) (zw (QT wi g tt te cap) (xx i)):=by
 intro pins s σ H D I h
 rw [exec_Assign_Name_used _ _ _ _ hsw]
 refine wpAny_bind (wpAny_standAt (wpAny_bind ?_))
 show wpAny _ X.A (do let _ <- comprehension (.ListComp elt [⟨tg,iter,ifs,0⟩] sc pos) sc X.env _ (newList []) false (eval iter X.env) (some (assign (.Name x pos') X.env))) _ _ s
 obtain ⟨cl,hcl,hc1,hc2⟩:=Yq (scope:=sc) (env:=X.env) fun y hy e=>I.ok.has y.1 (S.free y hy e)
 refine wpAny_bind (z8 (wpAny_comprehension_free (use:=some (assign (.Name x pos') X.env)) (Q:=fun _ s'=>SP X pins D .next s') rfl hs hcl S.kind S.names
  (z8 (hi pins s σ H _ I h) fun v s1 h1=>z8 h1 fun itv s2 h2=>?_)) fun _ s' hq=>wpAny_pure (wpAny_pure hq))
 obtain ⟨it,fp,tn,J,H2,e,I2,T,st2,f2,W,w0,turn⟩:=h2
 subst e
 refine Ys (Q:=fun v H1=>xx i v σ H1 D.nx) (RR:=fun acc C=>compPost (model X.prog X.w) X.A X.xe (some (assign (.Name x pos') X.env)) (fun _ s'=>SP X pins D .next s') acc C) S hc hc1 hc2 (fun C pn=>hg cl C s2 H2 fp pn) (fun C pn=>ht cl C s2 H2 fp pn) (fun C pn=>he cl C s2 H2 fp pn) I2 T st2 f2 W w0 turn ?_
 intro E C H' s' m I' hn F q
 obtain ⟨f0,f1,f2',f3,f4,f5⟩:=F
 show wpAny _ X.A (assign (.Name x pos') X.env (.ref E)) _ _ _
 refine wpAny_assign_Name (GW I' hN hx (.inl hk) (v:= .ref E) rfl (fun s'' I'' ch=>?_) (.inr hk))
 obtain ⟨a,sb,ha⟩:=ch
 have nC:C ≠ a:=by
  rcases ha with z | z
  ·rw [z];exact f1
  ·exact Ne.symm (f4 x a z)
 exact ⟨m,hn.sameBut sb nC,fun h' hs'=>⟨_,H',I''.turned (t':=s''.toks) (fun b o hb e=>hs'.extBut b o hb e) f0 f1 f3 f4 f5,q⟩⟩
end
section
variable {g:TG}{tt:TT}{te:TE}{Q:VK}{H:Hp}{σ0:St}
theorem BI {K:Fg}{a:Addr}{xs:List V}(Pv:Nat->List V->Hp->Prop)(h0:Pv 0 [] H)(hz:∀ i ys H,i<=xs.length->Pv i ys H->ys.length<=sizeLine)(hl:∀ i ys H,i<=xs.length->Pv i ys H->SqL K H a xs)
  (hs:∀ i x ys H (R:List V->Hp->Prop),xs[i]?=some x->Pv i ys H->(∀ ys' H',Pv (i + 1) ys' H'->R ys' H')->g x σ0 H fun σ2 H2=>Wk σ0 σ2/\tt σ2 H2 fun b H3=>if b=true then te σ2 H3 fun v H4=>R (ys++[v]) H4 else R ys H3)
  (hd:∀ ys H,Pv xs.length ys H->∀ D,H D=none->Q (.ref D) (j7 H D (.lst ys))):VP (Itl K a) g tt te Q σ0 H:=by
 refine ⟨fun i m ys H=>m=xs.length - i/\i<=xs.length/\Pv i ys H,⟨xs.length,by simp,Nat.zero_le _,h0⟩,?_⟩
 rintro i m ys H ⟨rfl,hi,p⟩
 have q:=hl i ys H hi p
 refine ⟨hz i ys H hi p,?_⟩
 by_cases hlt:i < xs.length
 ·refine .inr ⟨⟨xs,xs[i],q,by simp [hlt]⟩,fun x H' y=>?_⟩
  obtain ⟨e,y⟩:=y
  subst e
  exact hs i x ys _ (fun ys' H'=>∃ m',m' < xs.length - i/\m'=xs.length - (i + 1)/\i + 1<=xs.length/\Pv (i + 1) ys' H') (y xs q) p fun ys' H' p'=>⟨xs.length - (i + 1),by omega,rfl,hlt,p'⟩
 ·have e:i=xs.length:=by omega
  subst e
  exact .inl ⟨⟨xs,q,Nat.le_refl _⟩,hd ys H p⟩
end
end L2
namespace L2
open PySem PySem.Spec PyProof.Rows
def tyB (T c:String):Option Bool:=if (Value.type T == Value.type c)=true then some true else if PySem.W.kitMeta c=true then (fastBuiltinMro T).map (·.contains (Value.type c)) else none
theorem Cs {K:Fg}{T c:String}{b:Bool}(h:tyB T c=some b):PySem.W.kitOne K (.type T) (.type c)=some b:=h
theorem ND:tyB "int" "int"=some true:=by decide +kernel
theorem NC:tyB "int" "bool"=some false:=by decide +kernel
theorem NE:tyB "list" "list"=some true:=by decide +kernel
theorem NF:tyB "str" "str"=some true:=by decide +kernel
theorem js:bootBuiltins "isinstance"=some (.builtin "isinstance"):=by decide +kernel
theorem vO:bootBuiltins "list"=some (.type "list"):=by decide +kernel
theorem Bk:bootBuiltins "int"=some (.type "int"):=by decide +kernel
theorem Yi:bootBuiltins "bool"=some (.type "bool"):=by decide +kernel
theorem Bm:bootBuiltins "str"=some (.type "str"):=by decide +kernel
theorem wU:bootBuiltins "all"=some (.builtin "all"):=by decide +kernel
theorem Bn:bootBuiltins "sum"=some (.builtin "sum"):=by decide +kernel
theorem Bj:bootBuiltins "enumerate"=some (.type "enumerate"):=by decide +kernel
theorem Bp:bootBuiltins "zip"=some (.type "zip"):=by decide +kernel
section
variable {X:Cx}
theorem Bs:CallR X (.builtin "isinstance") (fun xs H Q=>∃ x n T b,xs=[x,.ty n]/\xr X.K H x (.type T)/\tyB T n=some b/\Q (.bl b) H):=by
 intro pins s σ H xs us Q I r h
 obtain ⟨x,n,T,b,rfl,ty,e,q⟩:=h
 obtain ⟨u,w',rfl,rx,rw'⟩:=Kx r
 obtain rfl:w'=Value.type n:=rw'
 exact PY I rx ty (Cs e) fun tk=>⟨.bl b,H,I.tok _,rfl,q⟩

theorem Ky:∀ {bs:List Bool} {us:List Value} {i:Nat} {u:Value},Vals (bs.map V.bl) us->us[i]?=some u->u = .bool (bs.getD i false)
 | [],_,_,_,.nil,e=>by simp at e
 | b::_,_,0,_,.cons r _,e=>by
  have e':=Option.some.inj e
  subst e'
  exact r
 | _::bs,_,i + 1,u,.cons _ t,e=>by
  have q:=Ky (i:=i) (u:=u) t (by simpa using e)
  simpa using q
theorem KU:∀ (bs:List Bool),(List.range bs.length).all (fun i=>bs.getD i false)=bs.all id:=by
 intro bs
 rw [Bool.eq_iff_iff,List.all_eq_true,List.all_eq_true]
 constructor
 ·intro h b hb
  obtain ⟨i,hi,e⟩:=List.getElem_of_mem hb
  have q:=h i (List.mem_range.mpr hi)
  rw [List.getD_eq_getElem?_getD,List.getElem?_eq_getElem hi] at q
  rw [<- e]
  exact q
 ·intro h i hi
  have hi':=List.mem_range.mp hi
  rw [List.getD_eq_getElem?_getD,List.getElem?_eq_getElem hi']
  exact h _ (List.getElem_mem hi')
theorem Bq (hc:X.calm=true):CallR X (.builtin "all") (fun xs H Q=>∃ (a:Addr) (bs:List Bool),xs=[.ref a]/\SqL X.K H a (bs.map V.bl)/\Q (.bl (bs.all id)) H):=by
 intro pins s σ H xs us Q I r h
 obtain ⟨a,bs,rfl,hq,q⟩:=h
 obtain ⟨u,rfl,ru⟩:=zx r
 obtain rfl:u=Value.ref a:=ru
 obtain ⟨its,rv,p,hz⟩:=I.list hq
 have hlt:a < s.heap.objs.size:=by obtain ⟨_,_,e,_⟩:=p;exact Heap.lt_size e
 have hl:s.heap.IsList a its.toArray:=p.isList
 refine call_all_walk (wpAny_pyIter_list hl ?_)
 refine ⟨s.heap.objs.size,_,_,_,_,_,fun i=>bs.getD i false,rfl,Walks.list (A:=X.A.in1) (I.ok.hd hc) s.heap.objs.size a (Nat.ne_of_lt hlt) its.toArray,⟨⟨_,Heap.get?_push_size _ rfl,rfl,rfl⟩,hl.push _⟩,?_,fun h' tk k=>?_⟩
 ·intro i v s' Q' E' hP hQ
  have e:=Ky rv (by simpa using hP)
  subst e
  exact wpAny_truthy_bool hQ
 ·have hn:its.toArray.size=bs.length:=by
   have e:=rv.length
   rw [List.length_map] at e
   rw [List.size_toArray]
   exact e.symm
  rw [hn,KU]
  refine ⟨.bl (bs.all id),H,I.kept (t':=tk) (fun b o e=>k b o (fun hm=>?_) (Heap.get?_push_of_some _ e)),rfl,q⟩
  have e':b=s.heap.objs.size:=by simpa using hm
  exact absurd (Heap.lt_size e) (by rw [e'];exact Nat.lt_irrefl _)

theorem KA:∀ {ns:List Int} {us:List Value},Vals (ns.map V.int) us->IntsAre us ns
 | [],_,.nil=> .nil
 | n::_,_,.cons ⟨t,e⟩ r=>by
  subst e
  exact .cons n t (KA r)
theorem BE (hc:X.calm=true):CallR X (.builtin "sum") (fun xs H Q=>∃ (a:Addr) (ns:List Int),xs=[.ref a]/\SqL X.K H a (ns.map V.int)/\Q (.int ns.sum) H):=by
 intro pins s σ H xs us Q I r h
 obtain ⟨a,ns,rfl,hq,q⟩:=h
 obtain ⟨u,rfl,ru⟩:=zx r
 obtain rfl:u=Value.ref a:=ru
 obtain ⟨its,rv,p,hz⟩:=I.list hq
 have hi:=KA rv
 have hl:s.heap.IsList a its.toArray:=p.isList
 obtain ⟨xs,ex⟩:=hi.allInts.items
 have e2:(numsOf its.toArray.toList).sum=ns.sum:=by rw [show its.toArray.toList=its from rfl,hi.numsOf]
 rw [ex] at hl e2
 rw [nums_intItems] at e2
 refine sum_intListG (I.ok.hd hc) hl fun h' tk t' k=>⟨.int ns.sum,H,I.kept (t':=tk) k,?_,q⟩
 rw [preSum_eq,List.take_of_length_le (by simp),e2]
 exact ⟨_,rfl⟩

def jn (_i j:Int):Prop:=0 < j/\j.natAbs.log2 < 9000
theorem Va:OpR X (binaryOp .FloorDiv) (rI jn fun i j=> .int (i / j)):=opI fun i j _ _ _ _ _ hc q=>by
 have e:i.fdiv j=i / j:=Int.fdiv_eq_ediv_of_nonneg i (Int.le_of_lt hc.1)
 exact floordiv_int (Ne.symm (Int.ne_of_lt hc.1)) (by rw [e];exact q) (.inl (PyProof.noPylong_of_log2 hc.2))
def zP (i j:Int):Prop:=Builtin.Int.intBits i<=2 ^ 20/\Builtin.Int.intBits j<=2 ^ 20
theorem vh:OpR X (binaryOp .Mult) (rI zP fun i j=> .int (i * j)):=opI fun _ _ _ _ _ _ _ hc q=>mul_int q (IntMulOk.of_bits hc.1 hc.2)

def Its (lo c:Int)(n:Nat):It:=⟨fun i _=>i < n,fun i H x H'=>H'=H/\x = .int (lo + i * c),fun i _=>n<=i⟩
theorem Nv {P:Program}{w:World}{K:Fg}{tg:Expr}(it:Addr)(lo c:Int)(n:Nat):zT P w K tg (Its lo c n) [it] it (fun i h=>IsRangeIter h it (lo + (i:Nat) * c) ((n:Int) - (i:Nat)) c) where
 mem:=by simp
 obj:=fun i h st b hb=>by
  have e:b=it:=by simpa using hb
  subst e
  exact ⟨_,st,fun v z=>by
   have z':Data.fields _=Data.cell v:=z
   cases z'⟩
 keep:=fun i h h' st k=>k it (by simp) _ st
 item:=by
  intro X hP hw hK hc i pins s σ H E I hf st hg
  subst hP hw hK
  obtain ⟨f0,f1,f2,f3,f4,f5⟩:=hf it (by simp)
  have W:=Walks.range (prog:=X.prog) (w:=X.w) (I.ok.hd hc) it lo c n
  refine W.item i s _ _ hg st fun v h' tk hv st' kk=>?_
  obtain ⟨t,rfl⟩:=hv
  have I1:Inv X pins σ H { s with heap:=h',toks:=tk }:=I.turned (fun b o hb e=>kk b o (by simpa using hb) e) f0 f1 f3 f4 f5
  exact ⟨_,rfl,Xw (s:={ s with heap:=h',toks:=tk }) (n := "range_iterator") st' rfl rfl (by decide) ⟨.int (lo + i * c),H,I1,⟨t,rfl⟩,⟨rfl,rfl⟩,st',fun b hb=>(hf b hb).1⟩⟩
 done:=by
  intro X hP hw hK hc i pins s σ H E I hf st hg
  subst hP hw hK
  obtain ⟨f0,f1,f2,f3,f4,f5⟩:=hf it (by simp)
  exact wpAny_pyNext_range_end (I.ok.hd hc) st (by have:n<=i:=hg;omega) fun h' eb=>⟨rfl,I.turned (t':=s.toks) (fun b o hb e=>eb b o hb e) f0 f1 f3 f4 f5⟩
 self:=fun _ _ _ _ _ st h=>wpAny_pyIter_rangeiter st h
def je (i j c:Int):Nat:=(Builtin.Range.rangeSize i j c).toNat
def iRng3 (ta:TA):TI:=fun σ H R=>ta σ H fun vs H1=>∃ i j c:Int,vs=[.int i,.int j,.int c]/\(0 < c/\c < 1073741824)/\0<=Builtin.Range.rangeSize i j c/\Builtin.Range.small i j c=true/\R (Its i c (je i j c)) H1
variable {tg:Expr}
theorem Mp {a b c:Expr}{ta:TA}{p pos:Pos}(hg:Gl X "range") (hm:X.mg "range"=none) (ha:PA X [a,b,c] ta) (hs:starEach [a,b,c] X.env=[(false,eval a X.env),(false,eval b X.env),(false,eval c X.env)]:=by rfl)
  (hs2:starEach [b,c] X.env=[(false,eval b X.env),(false,eval c X.env)]:=by rfl) :
  PI X tg (.Call (.Name "range" p) [a,b,c] [] pos) (iRng3 ta):=by
 intro pins s σ H R I h
 refine Call_ (jz I hg hm boot_range (PyProof.Rows.callWith_type1 (z8 (ha pos pins s σ H _ I h) fun us s1 ⟨vs,H1,I1,r1,q1⟩=>?_) (by rw [hs,hs2]) (by rw [hs2];rfl)))
 obtain ⟨i,j,c,e,⟨q1,q2⟩,q3,q4,q⟩:=q1
 subst e
 cases r1 with
 | cons r rr =>
  cases rr with
  | cons r' rr =>
   cases rr with
   | cons r'' rr =>
    cases rr
    obtain ⟨t,rfl⟩:=r
    obtain ⟨t',rfl⟩:=r'
    obtain ⟨t'',rfl⟩:=r''
    refine call_range_3 (Ne.symm (Int.ne_of_lt q1)) ?_ (.inl (PyProof.noPylong_small (by omega)))
    refine wpAny_pyIter_range (IsRange.new ..) q4 ?_
    have I2:Inv X pins σ H1 { s1 with heap:=s1.heap.push { cls:= .type "range",data:= .fields #[.int i t,.int j t',.int c t''] },toks:=s1.toks }:=I1.kept fun b o e=>Heap.get?_push_of_some _ e
    refine ⟨(s1.heap.push { cls:= .type "range",data:= .fields #[.int i t,.int j t',.int c t''] }).objs.size,[(s1.heap.push { cls:= .type "range",data:= .fields #[.int i t,.int j t',.int c t''] }).objs.size],_,_,H1,rfl,
     I2.kept (t':=s1.toks) fun b o e=>Heap.get?_push_of_some _ e,Nv _ i c (je i j c),?_,fun b hb=>?_,q⟩
    ·have e1:i + ((0:Nat):Int) * c=i:=by simp
     have e2:((je i j c:Nat):Int) - ((0:Nat):Int)=Builtin.Range.rangeSize i j c:=by unfold je;omega
     show IsRangeIter _ _ (i + ((0:Nat):Int) * c) (((je i j c:Nat):Int) - ((0:Nat):Int)) c
     rw [e1,e2]
     exact Heap.get?_push_size _ rfl
    ·have e:b=(s1.heap.push { cls:= .type "range",data:= .fields #[.int i t,.int j t',.int c t''] }).objs.size:=by simpa using hb
     subst e
     exact I2.fpOk (Nat.le_refl _) (I2.hok.fresh (Nat.le_refl _))
end
theorem Pf {lo c:Int}{n:Nat}{g:TG}{tb:TS}{D:xV}{σ:St}{H:Hp}(Pv:Nat->St->Hp->Prop)(h0:Pv 0 σ H)
  (hs:∀ i σ H,i < n->Pv i σ H->g (.int (lo + i * c)) σ H fun σ2 H2=>tb { D with nx:=Pv (i + 1),ct:=Pv (i + 1),bk:=D.nx } σ2 H2) (hd:∀ σ H,Pv n σ H->D.nx σ H) :
  ∃ W:Nat->Nat->St->Hp->Prop,(∃ m,W 0 m σ H)/\∀ i m σ H,W i m σ H ->
   ((Its lo c n).stop i H/\D.nx σ H) ∨ ((Its lo c n).go i H/\∃ N:St->Hp->Prop,(∀ σ' H',N σ' H'->∃ m',m' < m/\W (i + 1) m' σ' H')/\∀ x H',(Its lo c n).yld i H x H'->g x σ H' fun σ2 H2=>tb { D with nx:=N,ct:=N,bk:=D.nx } σ2 H2):=by
 refine ⟨fun i m σ H=>m=n - i/\i<=n/\Pv i σ H,⟨n,by simp,Nat.zero_le _,h0⟩,?_⟩
 rintro i m σ H ⟨rfl,hi,p⟩
 by_cases hlt:i < n
 ·refine .inr ⟨hlt,Pv (i + 1),fun σ' H' p'=>⟨n - (i + 1),by omega,rfl,hlt,p'⟩,fun x H' y=>?_⟩
  obtain ⟨e,y⟩:=y
  subst e y
  exact hs i σ _ hlt p
 ·have e:i=n:=by omega
  subst e
  exact .inl ⟨Nat.le_refl _,hd σ H p⟩

section
open PySem.SeqAt
theorem xR {α β:Type}{F:α->β->Prop}:∀ {l₁:List α} {l₂:List β},Paired F l₁ l₂->∀ (j:Nat) (h1:j < l₁.length) (h2:j < l₂.length),F l₁[j] l₂[j]
 | _,_,.cons r _,0,_,_=>r
 | _,_,.cons _ t,j + 1,h1,h2=>xR t j (by simpa using h1) (by simpa using h2)
variable {X:Cx}
end
structure Fn (P:Program)(w:World)(K:Fg)(mg:Str->Option Value)(base:Heap)(k:Nat)(x:Str)(ps:List Str)(sp:Sp):Prop where
 ex:∃ f fd,FnOk P w K mg base v5 k f fd ps sp/\mg x=some (.ref f)/\PySem.W.keepIn K (.ref f)=true/\Binds K fd ps []
section
variable {X:Cx}{k j:Nat}{x:Str}{ps:List Str}{sp:Sp}{e:Expr}{es:List Expr}{t:TA}{p pos:Pos}
theorem j8 (c:Fn X.prog X.w X.K X.mg X.base k x ps sp)(hr:Room j X.A)(hj:k<=j)(hg:Gl X x)(ha:PA X (e::es) t)(hdb:(x == ("__debug__":Str))=false:=by decide)
  (he:starEach (e::es) X.env=(false,eval e X.env)::starEach es X.env:=by rfl) (hpl:(backTo pos (starEach es X.env)).any (·.1)=false:=by rfl) :
  PE X (.Call (.Name x p) (e::es) [] pos) (ji sp [] E0 t):=by
 obtain ⟨f,fd,F,hm,hk,hb⟩:=c.ex
 exact Ma F (hr.mono hj) hg hm hk hb .nil XV ha hdb he hpl
end
end L2
namespace L2
open PySem PySem.Spec PyProof.Rows
section
variable {X:Cx}{pins:List (Addr × Obj)}{σ:St}{H:Hp}{s:Shared}{h':Heap}
theorem Inv.turnedL {t':Nat}{ch:List Addr}(I:Inv X pins σ H s)(k:∀ b o,b ∉ ch->s.heap.get? b=some o->h'.get? b=some o)(hf:∀ b ∈ ch,xh X pins H b):Inv X pins σ H { s with heap:=h',toks:=t' }:=by
 have nit:∀ b u,H b=some u->b ∉ ch:=fun b u e z=>by rw [(hf b z).1] at e;cases e
 have nL:X.env.locals ∉ ch:=fun z=>(hf _ z).2.1 rfl
 refine I.step (g':=s.gens) (d':=s.drawn) (ch:=ch) (fun b hb=>?_) (fun b o _ _ hc e _=>k b o hc e) (fun b o _ _ hc e _=>⟨o.slots,k b o hc e⟩) (fun _ _ _ _ n=>n)
  (fun b o hc e=>⟨o,k b o hc e⟩) (fun _ _ e=>e) (fun _ _ _ e=>e) (fun _ _ _ e=>e) (fun m hm=>?_) (fun b u e=>?_) I.bare
 ·obtain ⟨f0,f1,f2,f3,f4,f5⟩:=hf b hb
  exact ⟨f3,f1,f4,f5⟩
 ·obtain ⟨o,es,ep,ho,r⟩:=hm
  exact ⟨o,es,ep,k _ o nL ho,r⟩
 ·refine (I.hok b u e).stay (fun c v hc q=>k c v ?_ q) (fun _ q=>q) (fun _ _ q=>q) fun _ _ _ q=>q
  rcases hc with z | z
  ·rw [z];exact nit b u e
  ·exact nit c _ z
theorem Inv.track {p:Addr}{o:HO}(I:Inv X pins σ H s)(hp:X.s₀.heap.objs.size<=p)(hn:H p=none)(nL:p ≠ X.env.locals)(nC:∀ x c,X.env.cells.lookup x=some c->c ≠ p)(nP:∀ q ∈ X.pn++pins,q.1 ≠ p)
  (new:ObjOk X.prog X.w (j7 H p o) s.heap p o):Inv X pins σ (j7 H p o) s:=by
 refine ⟨I.ok,I.os,I.bare,⟨I.base.keep,I.base.slot,fun b ob e n hx=>?_,I.base.there,fun b xs e=>?_,fun b ob u e=>?_,fun b ps q e=>?_⟩,I.loc,I.cell,?_,fun x c e=>?_,fun q hq=>?_,fun b u e=>?_,I.len⟩
 ·rw [j3 (Nat.ne_of_lt (Nat.lt_of_lt_of_le (Heap.lt_size e) hp))]
  exact I.base.free b ob e n hx
 ·have z:=I.base.tups b xs e
  rw [j3 (y7 z hn)]
  exact z
 ·have z:=I.base.frzs b ob u e
  rw [j3 (y7 z hn)]
  exact z
 ·have z:=I.base.tbls b ps q e
  rw [j3 (y7 z hn)]
  exact z
 ·rw [j3 (Ne.symm nL)];exact I.free
 ·rw [j3 (nC x c e)];exact I.freeC x c e
 ·obtain ⟨a1,a2,a3⟩:=I.pin q hq
  exact ⟨a1,by rw [j3 (nP q hq)];exact a2,a3⟩
 ·by_cases hb:b=p
  ·subst hb
   rw [y4] at e
   cases e
   exact new
  ·rw [j3 hb] at e
   exact (I.hok b u e).stay (fun c v _ q=>q) (fun c q=>by rw [j3 (y7 q hn)];exact q) (fun c xs q=>by rw [j3 (y7 q hn)];exact q) fun c _ _ q=>by rw [j3 (y7 q hn)];exact q
theorem Inv.seq_ne {a b:Addr}{xs:List V}(I:Inv X pins σ H s)(hq:SqL X.K H a xs)(hf:xh X pins H b):a ≠ b:=by
 rintro rfl
 rcases hq with (h | ⟨o,h⟩) | ⟨o,its,n,hk,_⟩
 ·rw [hf.1] at h;cases h
 ·rw [hf.1] at h;cases h
 ·have e:=I.ok.mod.kin a o hk
  rcases hf.2.2.2.1 with z | z
  ·exact I.ok.noex a o e z
  ·exact absurd (Nat.lt_of_lt_of_le (Heap.lt_size e) (Nat.le_trans I.ok.bsz z)) (Nat.lt_irrefl _)
end
def Ite (K:Fg)(a:Addr):It :=
 ⟨fun i H=>∃ xs x,SqL K H a xs/\xs[i]?=some x,fun i H x H'=>∃ p y,H p=none/\x = .ref p/\H'=j7 H p (.tup [.int i,y])/\∀ xs,SqL K H a xs->xs[i]?=some y,fun i H=>∃ xs,SqL K H a xs/\xs.length<=i⟩
theorem Nr {P:Program}{w:World}{K:Fg}{elts:List Expr}{x1:Nat}{tp:Pos}(a e it:Addr)(hne:e ≠ it):zT P w K (.Tuple elts x1 tp) (Ite K a) [e,it] e (fun i h=>(∃ old,IsEnum h e it ((i:Nat):Int) old)/\h.IsListIter it a i) where
 mem:=by simp
 obj:=fun i h st b hb=>by
  obtain ⟨⟨old,he⟩,hit⟩:=st
  rcases List.mem_cons.mp hb with rfl | hb
  ·exact ⟨_,he,fun v z=>by
    have z':Data.fields _=Data.cell v:=z
    cases z'⟩
  ·have eb:b=it:=by simpa using hb
   subst eb
   obtain ⟨o,e1,c,d⟩:=hit
   exact ⟨o,e1,fun v z=>by rw [d] at z;cases z⟩
 keep:=fun i h h' st k=>by
  obtain ⟨⟨old,he⟩,hit⟩:=st
  exact ⟨⟨old,k e (by simp) _ he⟩,hit.at fun o q=>k it (by simp) o q⟩
 item:=by
  intro X hP hw hK hc i pins s σ H E I hf st hg
  subst hP hw hK
  obtain ⟨⟨old,he⟩,hit⟩:=st
  obtain ⟨xs,x,hq,hx⟩:=hg
  obtain ⟨its,rv,p,hz⟩:=I.list hq
  obtain ⟨u,hu,ru⟩:=rv.get hx
  have fz:xh X pins H s.heap.objs.size:=I.fpOk (Nat.le_refl _) (I.hok.fresh (Nat.le_refl _))
  have lte:e < s.heap.objs.size:=Heap.lt_size he
  have lti:it < s.heap.objs.size:=by obtain ⟨o,q,_⟩:=hit;exact Heap.lt_size q
  refine wpAny_pyNext_enum_item he hit p.isList (x:=u) (by simpa using hu) hne fun h1 heo hit1 ht1 hz1 hk1=>⟨_,rfl,?_⟩
  refine wpAny_letOwnedTupleGo_enum heo fun h2 he2 hs2=>?_
  have hs2':Heap.SameBut e h1 h2:=hs2
  have I2:Inv X pins σ H { s with heap:=h2,toks:=s.toks + 1 }:=I.turnedL (ch:=[e,it]) (fun b o hb q=>by
   have n1:b ≠ e:=fun z=>hb (by rw [z];simp)
   have n2:b ≠ it:=fun z=>hb (by rw [z];simp)
   exact hs2'.extBut b o n1 (hk1 b o n1 n2 q)) hf
  obtain ⟨f0,f1,f2,f3,f4,f5⟩:=fz
  have tup:h2.get? s.heap.objs.size=some { cls:= .type "tuple",data:= .seq #[.int i s.toks,u] }:=hs2'.extBut _ _ (Ne.symm (Nat.ne_of_lt lte)) ht1
  refine ⟨.ref s.heap.objs.size,j7 H s.heap.objs.size (.tup [.int i,x]),I2.track I.sz f0 f1 f4 f5 ?_,rfl,⟨s.heap.objs.size,x,f0,rfl,rfl,fun ys hy=>by rw [I.list_inj hy hq];exact hx⟩,⟨⟨u,?_⟩,?_⟩,fun b hb=>?_⟩
  ·exact ⟨by show 2<=sizeLine;decide,[.int i s.toks,u],.cons ⟨_,rfl⟩ (.cons ru .nil),⟨_,tup,rfl,_,rfl⟩⟩
  ·have ei:(((i + 1:Nat):Int))=(i:Int) + 1:=by omega
   rw [ei]
   exact he2
  ·exact hit1.at fun o q=>hs2'.extBut it o (Ne.symm hne) q
  ·have nb:b ≠ s.heap.objs.size:=by
    rcases List.mem_cons.mp hb with rfl | hb
    ·exact Nat.ne_of_lt lte
    ·have eb:b=it:=by simpa using hb
     rw [eb];exact Nat.ne_of_lt lti
   rw [j3 nb]
   exact (hf b hb).1
 done:=by
  intro X hP hw hK hc i pins s σ H E I hf st hg
  subst hP hw hK
  obtain ⟨⟨old,he⟩,hit⟩:=st
  obtain ⟨xs,hq,hx⟩:=hg
  obtain ⟨its,rv,p,hz⟩:=I.list hq
  have hl:=rv.length
  exact wpAny_pyNext_enum_end (I.ok.hd hc) he hit p.isList (by simp;omega) fun h1 eb=>⟨rfl,I.turnedL (t':=s.toks) (ch:=[e,it]) (fun b o hb q=>eb b o (fun z=>hb (by rw [z];simp)) q) hf⟩
 self:=fun _ _ _ _ _ st h=>by
  obtain ⟨⟨old,he⟩,hit⟩:=st
  exact wpAny_pyIter_enum he h
section
variable {X:Cx}{elts:List Expr}{x1:Nat}{tp:Pos}
def JJ (K:Fg)(ta:TA):TI:=fun σ H R=>ta σ H fun vs H1=>∃ a,vs=[.ref a]/\(∃ xs,SqL K H1 a xs)/\R (Ite K a) H1
theorem Mn {a:Expr}{ta:TA}{p pos:Pos}(hg:Gl X "enumerate") (hm:X.mg "enumerate"=none) (ha:PA X [a] ta) (hs:starEach [a] X.env=[(false,eval a X.env)]:=by rfl):PI X (.Tuple elts x1 tp) (.Call (.Name "enumerate" p) [a] [] pos) (JJ X.K ta):=by
 intro pins s σ H R I h
 refine Call_ (jz I hg hm Bj (PyProof.Rows.callWith_type1 (z8 (ha pos pins s σ H _ I h) fun us s1 ⟨vs,H1,I1,r1,q1⟩=>?_) hs rfl))
 obtain ⟨a,e,⟨xs,hq⟩,q⟩:=q1
 subst e
 cases r1 with
 | cons r rr =>
  cases rr
  cases r
  obtain ⟨its,rv,p,hz⟩:=I1.list hq
  refine call_enumerate_list p.isList fun h' he hit hsz hk=>?_
  refine wpAny_pyIter_enum he ?_
  refine ⟨s1.heap.objs.size + 1,[s1.heap.objs.size + 1,s1.heap.objs.size],_,_,H1,rfl,I1.kept (t':=s1.toks) hk,Nr a (s1.heap.objs.size + 1) s1.heap.objs.size (Nat.ne_of_gt (Nat.lt_succ_self _)),⟨⟨_,he⟩,hit⟩,fun b hb=>?_,q⟩
  rcases List.mem_cons.mp hb with rfl | hb
  ·exact I1.fpOk (Nat.le_succ _) (I1.hok.fresh (Nat.le_succ _))
  ·have eb:b=s1.heap.objs.size:=by simpa using hb
   subst eb
   exact I1.fpOk (Nat.le_refl _) (I1.hok.fresh (Nat.le_refl _))
end
def Itz (K:Fg)(a b:Addr):It :=
  ⟨fun i H=>∃ xs ys x y,SqL K H a xs/\SqL K H b ys/\xs[i]?=some x/\ys[i]?=some y,
   fun i H z H'=>∃ p x y,H p=none/\z = .ref p/\H'=j7 H p (.tup [x,y])/\(∀ xs,SqL K H a xs->xs[i]?=some x)/\∀ ys,SqL K H b ys->ys[i]?=some y,
   fun i H=>∃ xs ys,SqL K H a xs/\SqL K H b ys/\(xs.length<=i ∨ ys.length<=i)⟩
theorem Nx {P:Program}{w:World}{K:Fg}{elts:List Expr}{x1:Nat}{tp:Pos}(a b z TI TO i1 i2:Addr)(d:[z,TI,TO,i1,i2].Nodup):zT P w K (.Tuple elts x1 tp) (Itz K a b) [z,TI,TO,i1,i2] z
  (fun i h=>IsZip h z TI TO .none/\IsPair h TI (.ref i1) (.ref i2)/\(∃ u v,IsPair h TO u v)/\h.IsListIter i1 a i/\h.IsListIter i2 b i) where
 mem:=by simp
 obj:=fun i h st c hc=>by
  obtain ⟨hz,hTI,⟨u,v,hTO⟩,h1,h2⟩:=st
  have hc':c=z ∨ c=TI ∨ c=TO ∨ c=i1 ∨ c=i2:=by simpa using hc
  rcases hc' with rfl | rfl | rfl | rfl | rfl
  ·exact ⟨_,hz,fun v q=>by
    have q':Data.fields _=Data.cell v:=q
    cases q'⟩
  ·exact ⟨_,hTI,fun v q=>by
    have q':Data.seq _ _=Data.cell v:=q
    cases q'⟩
  ·exact ⟨_,hTO,fun v q=>by
    have q':Data.seq _ _=Data.cell v:=q
    cases q'⟩
  ·obtain ⟨o,e1,cc,dd⟩:=h1
   exact ⟨o,e1,fun v q=>by rw [dd] at q;cases q⟩
  ·obtain ⟨o,e1,cc,dd⟩:=h2
   exact ⟨o,e1,fun v q=>by rw [dd] at q;cases q⟩
 keep:=fun i h h' st k=>by
  obtain ⟨hz,hTI,⟨u,v,hTO⟩,h1,h2⟩:=st
  exact ⟨k z (by simp) _ hz,k TI (by simp) _ hTI,⟨u,v,k TO (by simp) _ hTO⟩,h1.at fun o e=>k i1 (by simp) o e,h2.at fun o e=>k i2 (by simp) o e⟩
 item:=by
  intro X hP hw hK hc i pins s σ H E I hf st hg
  subst hP hw hK
  obtain ⟨hz,hTI,⟨u0,v0,hTO⟩,h1,h2⟩:=st
  obtain ⟨xs,ys,x,y,hqa,hqb,hx,hy⟩:=hg
  obtain ⟨its,rv,p,_⟩:=I.list hqa
  obtain ⟨jts,rw',p',_⟩:=I.list hqb
  obtain ⟨u,hu,ru⟩:=rv.get hx
  obtain ⟨v,hv,rv'⟩:=rw'.get hy
  simp only [List.nodup_cons,List.mem_cons,not_or,List.not_mem_nil,not_false_eq_true,List.nodup_nil,and_true] at d
  obtain ⟨⟨d1,d2,d3,d4⟩,⟨d5,d6,d7⟩,⟨d8,d9⟩,d10⟩:=d
  have ap:ZipApart z TI TO i1 i2 a b:=⟨Ne.symm d1,Ne.symm d2,Ne.symm d3,Ne.symm d4,d5,d6,d7,d8,d9,d10,
   I.seq_ne hqa (hf z (by simp)),I.seq_ne hqa (hf TO (by simp)),I.seq_ne hqa (hf i1 (by simp)),I.seq_ne hqa (hf i2 (by simp)),
   I.seq_ne hqb (hf z (by simp)),I.seq_ne hqb (hf TO (by simp)),I.seq_ne hqb (hf i1 (by simp)),I.seq_ne hqb (hf i2 (by simp))⟩
  have fz:xh X pins H s.heap.objs.size:=I.fpOk (Nat.le_refl _) (I.hok.fresh (Nat.le_refl _))
  have lt:∀ c ∈ [z,TI,TO,i1,i2],c < s.heap.objs.size:=fun c hc=>by
   have hc':c=z ∨ c=TI ∨ c=TO ∨ c=i1 ∨ c=i2:=by simpa using hc
   rcases hc' with rfl | rfl | rfl | rfl | rfl
   ·exact Heap.lt_size hz
   ·exact Heap.lt_size hTI
   ·exact Heap.lt_size hTO
   ·obtain ⟨o,q,_⟩:=h1;exact Heap.lt_size q
   ·obtain ⟨o,q,_⟩:=h2;exact Heap.lt_size q
  refine wpAny_pyNext_zip_item ap hz hTI hTO h1 h2 p.isList p'.isList (x:=u) (y:=v) (by simpa using hu) (by simpa using hv) fun h3 hz3 hTO3 h13 h23 hp3 hs3 hk3=>⟨_,rfl,?_⟩
  refine wpAny_letOwnedTupleGo_zip hz3 fun h4 hz4 hs4=>?_
  have hs4':Heap.SameBut z h3 h4:=hs4
  have I4:Inv X pins σ H { s with heap:=h4,toks:=s.toks }:=I.turnedL (ch:=[z,TI,TO,i1,i2]) (fun c o hc q=>by
   have n1:c ≠ z:=fun e=>hc (by rw [e];simp)
   have n2:c ≠ TO:=fun e=>hc (by rw [e];simp)
   have n3:c ≠ i1:=fun e=>hc (by rw [e];simp)
   have n4:c ≠ i2:=fun e=>hc (by rw [e];simp)
   exact hs4'.extBut c o n1 (hk3 c o n1 n2 n3 n4 q)) hf
  obtain ⟨f0,f1,f2,f3,f4,f5⟩:=fz
  have tup:h4.get? s.heap.objs.size=some { cls:= .type "tuple",data:= .seq #[u,v] }:=hs4'.extBut _ _ (Ne.symm (Nat.ne_of_lt (lt z (by simp)))) hp3
  refine ⟨.ref s.heap.objs.size,j7 H s.heap.objs.size (.tup [x,y]),I4.track I.sz f0 f1 f4 f5 ?_,rfl,⟨s.heap.objs.size,x,y,f0,rfl,rfl,(fun zs hy'=>by rw [I.list_inj hy' hqa];exact hx),fun zs hy'=>by rw [I.list_inj hy' hqb];exact hy⟩,⟨hz4,?_,⟨u,v,?_⟩,?_,?_⟩,fun c hc=>?_⟩
  ·exact ⟨by show 2<=sizeLine;decide,[u,v],.cons ru (.cons rv' .nil),⟨_,tup,rfl,_,rfl⟩⟩
  ·exact hs4'.extBut _ _ (Ne.symm d1) (hk3 _ _ (Ne.symm d1) d5 d6 d7 hTI)
  ·exact hs4'.extBut _ _ (Ne.symm d2) hTO3
  ·exact h13.at fun o q=>hs4'.extBut i1 o (Ne.symm d3) q
  ·exact h23.at fun o q=>hs4'.extBut i2 o (Ne.symm d4) q
  ·rw [j3 (Nat.ne_of_lt (lt c hc))]
   exact (hf c hc).1
 done:=by
  intro X hP hw hK hc i pins s σ H E I hf st hg
  subst hP hw hK
  obtain ⟨hz,hTI,⟨u0,v0,hTO⟩,h1,h2⟩:=st
  obtain ⟨xs,ys,hqa,hqb,hend⟩:=hg
  obtain ⟨its,rv,p,_⟩:=I.list hqa
  obtain ⟨jts,rw',p',_⟩:=I.list hqb
  have l1:=rv.length
  have l2:=rw'.length
  simp only [List.nodup_cons,List.mem_cons,not_or,List.not_mem_nil,not_false_eq_true,List.nodup_nil,and_true] at d
  obtain ⟨⟨d1,d2,d3,d4⟩,⟨d5,d6,d7⟩,⟨d8,d9⟩,d10⟩:=d
  have ap:ZipApart z TI TO i1 i2 a b:=⟨Ne.symm d1,Ne.symm d2,Ne.symm d3,Ne.symm d4,d5,d6,d7,d8,d9,d10,
   I.seq_ne hqa (hf z (by simp)),I.seq_ne hqa (hf TO (by simp)),I.seq_ne hqa (hf i1 (by simp)),I.seq_ne hqa (hf i2 (by simp)),
   I.seq_ne hqb (hf z (by simp)),I.seq_ne hqb (hf TO (by simp)),I.seq_ne hqb (hf i1 (by simp)),I.seq_ne hqb (hf i2 (by simp))⟩
  refine wpAny_pyNext_zip_end (I.ok.hd hc) ap hz hTI hTO h1 h2 p.isList p'.isList (hend.elim (fun q=> .inl (by simp;omega)) (fun q=> .inr (by simp;omega))) fun h3 hk3=>⟨rfl,I.turnedL (t':=s.toks) (ch:=[z,TI,TO,i1,i2]) (fun c o hc q=>?_) hf⟩
  exact hk3 c o (fun e=>hc (by rw [e];simp)) (fun e=>hc (by rw [e];simp)) (fun e=>hc (by rw [e];simp)) (fun e=>hc (by rw [e];simp)) q
 self:=fun _ _ _ _ _ st h=>wpAny_pyIter_zip st.1 h
section
variable {X:Cx}{elts:List Expr}{x1:Nat}{tp:Pos}
def iZip (K:Fg)(ta:TA):TI:=fun σ H R=>ta σ H fun vs H1=>∃ a b,vs=[.ref a,.ref b]/\(∃ xs,SqL K H1 a xs)/\(∃ ys,SqL K H1 b ys)/\R (Itz K a b) H1
theorem Ms {a b:Expr}{ta:TA}{p pos:Pos}(hg:Gl X "zip") (hm:X.mg "zip"=none) (ha:PA X [a,b] ta) (hs:starEach [a,b] X.env=[(false,eval a X.env),(false,eval b X.env)]:=by rfl) (hs2:starEach [b] X.env=[(false,eval b X.env)]:=by rfl) :
  PI X (.Tuple elts x1 tp) (.Call (.Name "zip" p) [a,b] [] pos) (iZip X.K ta):=by
 intro pins s σ H R I h
 refine Call_ (jz I hg hm Bp (PyProof.Rows.callWith_type1 (z8 (ha pos pins s σ H _ I h) fun us s1 ⟨vs,H1,I1,r1,q1⟩=>?_) (by rw [hs,hs2]) (by rw [hs2];rfl)))
 obtain ⟨a,b,e,⟨xs,hq⟩,⟨ys,hq'⟩,q⟩:=q1
 subst e
 cases r1 with
 | cons r rr =>
  cases rr with
  | cons r' rr =>
   cases rr
   cases r
   cases r'
   obtain ⟨its,rv,p,hz⟩:=I1.list hq
   obtain ⟨jts,rw',p',_⟩:=I1.list hq'
   refine call_zip_2 p.isList p'.isList fun h' g1 g2 g3 g4 g5 hsz hk=>?_
   refine wpAny_pyIter_zip g1 ?_
   refine ⟨s1.heap.objs.size + 4,[s1.heap.objs.size + 4,s1.heap.objs.size + 2,s1.heap.objs.size + 3,s1.heap.objs.size,s1.heap.objs.size + 1],_,_,H1,rfl,I1.kept (t':=s1.toks) hk,Nx a b _ _ _ _ _ ?_,⟨g1,g2,⟨_,_,g3⟩,g4,g5⟩,fun c hc=>?_,q⟩
   ·simp only [List.nodup_cons,List.mem_cons,not_or,List.not_mem_nil,not_false_eq_true,List.nodup_nil,and_true]
    refine ⟨⟨?_,?_,?_,?_⟩,⟨?_,?_,?_⟩,⟨?_,?_⟩,?_⟩ <;> (show ¬ (_:Nat)=_;omega)
   ·have hc':s1.heap.objs.size<=c:=by
     have hc2:c=s1.heap.objs.size + 4 ∨ c=s1.heap.objs.size + 2 ∨ c=s1.heap.objs.size + 3 ∨ c=s1.heap.objs.size ∨ c=s1.heap.objs.size + 1:=by simpa using hc
     rcases hc2 with e | e | e | e | e <;> (rw [e];first | exact Nat.le_refl _ | exact Nat.le_add_right _ _)
    exact I1.fpOk hc' (I1.hok.fresh hc')
end
end L2
namespace L2
open PySem PySem.Spec PyProof.Rows
section
variable {X:Cx}{K:Fg}
theorem JM (h:X.K=K):IxR X (rIxL K):=by subst h;exact ix_list
theorem LY (h:X.K=K):SlR X (rSlL K):=by subst h;exact LX
theorem Yk (h:X.K=K):CallR X (.builtin "len") (fun xs H Q=>∃ p ys,xs=[.ref p]/\(SqL K H p ys ∨ SqT K H p ys)/\Q (.int ys.length) H):=by subst h;exact Bx
theorem BF (hc:X.calm=true)(h:X.K=K):CallR X (.builtin "sum") (fun xs H Q=>∃ (a:Addr) (ns:List Int),xs=[.ref a]/\SqL K H a (ns.map V.int)/\Q (.int ns.sum) H):=by subst h;exact BE hc
theorem QA {es:List Expr}{k:Nat}{t:TGs}{n:Nat}{pos:Pos}(hc:X.calm=true)(hK:X.K=K)(h:PGs X es t)
  (hn:(assignEach es X.env).length=n:=by rfl) (hst:(assignEach es X.env).findIdx? (·.1)=none:=by rfl):PG X (.Tuple es k pos) (gTup K n t):=by subst hK;exact Mm hc h hn hst
theorem qH {tg l:Expr}{tl:TE}(hK:X.K=K)(hl:PE X l tl):PI X tg l (JK K tl):=by subst hK;exact Mo hl
theorem UT {elts:List Expr}{x1:Nat}{tp:Pos}{a:Expr}{ta:TA}{p pos:Pos}(hK:X.K=K)(hg:Gl X "enumerate") (hm:X.mg "enumerate"=none) (ha:PA X [a] ta) (hs:starEach [a] X.env=[(false,eval a X.env)]:=by rfl):PI X (.Tuple elts x1 tp) (.Call (.Name "enumerate" p) [a] [] pos) (JJ K ta):=by subst hK;exact Mn hg hm ha hs
theorem UU {elts:List Expr}{x1:Nat}{tp:Pos}{a b:Expr}{ta:TA}{p pos:Pos}(hK:X.K=K)(hg:Gl X "zip") (hm:X.mg "zip"=none) (ha:PA X [a,b] ta) (hs:starEach [a,b] X.env=[(false,eval a X.env),(false,eval b X.env)]:=by rfl) (hs2:starEach [b] X.env=[(false,eval b X.env)]:=by rfl) :
  PI X (.Tuple elts x1 tp) (.Call (.Name "zip" p) [a,b] [] pos) (iZip K ta):=by subst hK;exact Ms hg hm ha hs hs2
end
end L2
namespace L2
open PySem PySem.Spec PyProof.Rows
section
variable {X:Cx}
theorem DT:OpR X (compareOp .LtE) (fun x y H Q=>∃ i j,x = .str i/\y = .str j/\Q (.bl (!decide (j.cps.toList < i.cps.toList))) H):=by
 intro pins s σ H x y v u Q I rx ry h
 obtain ⟨i,j,rfl,rfl,q⟩:=h
 obtain ⟨t,rfl⟩:=rx
 obtain ⟨t',rfl⟩:=ry
 exact PySem.P.le_str (Xu I q rfl)
def ItS (z:Str):It:=⟨fun i _=>i < z.cps.size,fun i H x H'=>H'=H/\∃ c,z.cps[i]?=some c/\x = .str ⟨#[c]⟩,fun i _=>i=z.cps.size⟩
theorem Kl {P:Program}{w:World}{K:Fg}{x:Str}{px:Pos}(it:Addr)(ty:String)(z:Str)(t:Tok)
  (W:∀ A':Around,A'.handled=none->Walks P w A' it [it] [it] z.cps.size (SignAt z) (fun i h=>h.IsStrIter it ty z t i))
  (sf:∀ (A:Around) (i:Nat) (s:Shared) (Q:Value->Shared->Prop) (E:Value->Shared->Prop),s.heap.IsStrIter it ty z t i->Q (.ref it) s->wpAny (model P w) A (pyIter (.ref it)) Q E s) :
  zT P w K (.Name x px) (ItS z) [it] it (fun i h=>h.IsStrIter it ty z t i) where
 mem:=by simp
 obj:=fun i h st b hb=>by
  have e:b=it:=by simpa using hb
  subst e
  obtain ⟨o,e,c,d⟩:=st
  exact ⟨o,e,fun v q=>by rw [d] at q;cases q⟩
 keep:=fun i h h' st k=>by
  obtain ⟨o,e,r⟩:=st
  exact ⟨o,k it (by simp) o e,r⟩
 item:=by
  intro X hP hw hK hc i pins s σ H E I hf st hg
  subst hP hw hK
  obtain ⟨f0,f1,f2,f3,f4,f5⟩:=hf it (by simp)
  refine (W X.A (I.ok.hd hc)).item i s _ _ hg st fun v h' tk hv st' kk=>?_
  obtain ⟨c,u,e1,rfl⟩:=hv
  have I1:Inv X pins σ H { s with heap:=h',toks:=tk }:=I.turned (fun b o hb e=>kk b o (by simpa using hb) e) f0 f1 f3 f4 f5
  refine ⟨_,rfl,?_⟩
  show wpAny _ _ (pure ()) _ _ _
  exact wpAny_pure ⟨.str ⟨#[c]⟩,H,I1,⟨u,rfl⟩,⟨rfl,c,e1,rfl⟩,st',fun b hb=>(hf b hb).1⟩
 done:=by
  intro X hP hw hK hc i pins s σ H E I hf st hg
  subst hP hw hK
  obtain ⟨f0,f1,f2,f3,f4,f5⟩:=hf it (by simp)
  have hg':i=z.cps.size:=hg
  subst hg'
  exact (W X.A (I.ok.hd hc)).done s _ _ st fun h' tk kk=>⟨rfl,I.turned (fun b o hb e=>kk b o (by simpa using hb) e) f0 f1 f3 f4 f5⟩
 self:=sf
def iStr (tl:TE):TI:=fun σ H R=>tl σ H fun x H1=>∃ z,x = .str z/\R (ItS z) H1
theorem Mq {x:Str}{px:Pos}{l:Expr}{tl:TE}(hl:PE X l tl):PI X (.Name x px) l (iStr tl):=by
 intro pins s σ H R I h
 refine z8 (hl pins s σ H _ I h) fun v s1 ⟨x,H1,I1,r1,q1⟩=>?_
 obtain ⟨z,e,q⟩:=q1
 subst e
 obtain ⟨t,rfl⟩:=r1
 have fp:∀ b ∈ [s1.heap.objs.size],xh X pins H1 b:=fun b hb=>by
  have e:b=s1.heap.objs.size:=by simpa using hb
  subst e
  exact I1.fpOk (Nat.le_refl _) (I1.hok.fresh (Nat.le_refl _))
 cases ha:z.cps.all (· < 128)
 ·refine wpAny_pyIter_wide ha ?_
  exact ⟨s1.heap.objs.size,[s1.heap.objs.size],_,_,H1,rfl,I1.kept (t':=s1.toks) fun b o e=>Heap.get?_push_of_some _ e,Kl _ "str_iterator" z t (fun A' hA=>Walks.strWide hA _ z t) (fun _ _ _ _ _ st h=>wpAny_pyIter_striter_wide st h),⟨_,Heap.get?_push_size _ rfl,rfl,rfl⟩,fp,q⟩
 ·refine wpAny_pyIter_ascii ha ?_
  exact ⟨s1.heap.objs.size,[s1.heap.objs.size],_,_,H1,rfl,I1.kept (t':=s1.toks) fun b o e=>Heap.get?_push_of_some _ e,Kl _ "str_ascii_iterator" z t (fun A' hA=>Walks.strAscii hA _ z t) (fun _ _ _ _ _ st h=>wpAny_pyIter_striter_ascii st h),⟨_,Heap.get?_push_size _ rfl,rfl,rfl⟩,fp,q⟩
end
end L2
namespace L2
open PySem PySem.Spec PyProof.Rows
section
variable {X:Cx}{K:Fg}
def Gh (K:Fg):R2:=fun x y H Q=>∃ l b xs zs,x = .ref l/\y = .ref b/\SqL K H l xs/\SqL K H b zs/\xs.length + zs.length<=sizeLine/\∀ p,H p=none->Q (.ref p) (j7 H p (.lst (xs++zs)))
theorem op_catL:OpR X (binaryOp .Add) (Gh X.K):=by
 intro pins s σ H x y v u Q I rx ry h
 obtain ⟨l,b,xs,zs,rfl,rfl,hH,hB,hz,q⟩:=h
 cases rx
 cases ry
 obtain ⟨its,r,⟨⟨cls,dd,data,sl⟩,n,e,h1,h2,h3⟩,_⟩:=I.list hH
 obtain ⟨its2,r2,⟨⟨cls2,dd2,data2,sl2⟩,n2,e2,k1,k2,k3⟩,_⟩:=I.list hB
 dsimp only at h1 h2 h3 k1 k2 k3
 subst h1 h2 h3 k1 k2 k3
 have hl:=r.length
 have hl2:=r2.length
 have hsz:its.toArray.size + its2.toArray.size<=sizeLine:=by rw [List.size_toArray,List.size_toArray];omega
 refine concat_meets ⟨_,e,rfl⟩ ⟨_,e2,rfl⟩ noFill_list_add seq_list_add PySem.F.slot_list_add PySem.F.entry_list_add (PySem.F.args_list_add_2 _ _) (list_addW l b its.toArray its2.toArray n n2 none none sl sl2 hsz) ⟨e,e2,?_⟩
 have ea:its.toArray++its2.toArray=(its++its2).toArray:=by simp
 rw [ea]
 exact ⟨.ref _,_,I.lnew (t':=s.toks) (r.append r2) (by rw [List.length_append];omega),rfl,q _ I.fresh⟩
end
end L2
namespace L2
open PySem PySem.Spec PyProof.Rows PySem.SeqAt
def EqP (K:Fg)(H:Hp):Nat->V->V->Bool->Prop
 | 0,x,y,b=>y8 x=true/\y8 y=true/\b=qf x y
 | n + 1,x,y,b=>(y8 x=true/\y8 y=true/\b=qf x y) ∨
  (∃ (a c:Addr) (xs ys:List V),x = .ref a/\y = .ref c/\SqL K H a xs/\SqL K H c ys/\((xs.length ≠ ys.length/\b=false) ∨ (xs.length=ys.length/\∃ e:Nat->Bool,(∀ j (h1:j < xs.length) (h2:j < ys.length),EqP K H n xs[j] ys[j] (e j))/\b=(List.range xs.length).all e))) ∨
  (∃ (a c:Addr) (xs ys:List V),x = .ref a/\y = .ref c/\SqT K H a xs/\SqT K H c ys/\∃ e:Nat->Bool,(∀ j (h1:j < xs.length) (h2:j < ys.length),EqP K H n xs[j] ys[j] (e j))/\b=((List.range (min xs.length ys.length)).all e && xs.length == ys.length)) ∨
  (∃ (a c:Addr) (xs ys:List V),x = .ref a/\y = .ref c/\SqL K H a xs/\SqT K H c ys/\b=false) ∨
  (∃ (a c:Addr) (xs ys:List V),x = .ref a/\y = .ref c/\SqT K H a xs/\SqL K H c ys/\b=false) ∨
  (∃ (c:Addr) (ys:List V),y8 x=true/\y = .ref c/\(SqL K H c ys ∨ SqT K H c ys)/\b=false) ∨
  (∃ (a:Addr) (xs:List V),y8 y=true/\x = .ref a/\(SqL K H a xs ∨ SqT K H a xs)/\b=false)
theorem Xp {x:V}(h:y8 x=true):qf x x=true:=by
 cases x <;> first | rfl | exact beq_self_eq_true _ | cases h
theorem Gu {A:Around}{s:Shared}{y x:V}{u v:Value}(ry:RelV y u)(rx:RelV x v)(fy:y8 y=true)(fx:y8 x=true):RcAt A s u v (qf y x):=by
 cases y with
 | non =>
  cases ry
  cases x with
  | non=>cases rx;exact RcAt.none_none
  | bl b=>cases rx;exact RcAt.none_bool b
  | int b=>obtain ⟨t2,rfl⟩:=rx;exact RcAt.none_int b t2
  | str b=>obtain ⟨t2,rfl⟩:=rx;exact RcAt.none_str b t2
  | _=>exact absurd (show false=true from fx) Bool.false_ne_true
 | bl a =>
  cases ry
  cases x with
  | non=>cases rx;exact RcAt.bool_none a
  | bl b=>cases rx;exact RcAt.bool_bool a b
  | int b=>obtain ⟨t2,rfl⟩:=rx;exact RcAt.bool_int a b t2
  | str b=>obtain ⟨t2,rfl⟩:=rx;exact RcAt.bool_str a b t2
  | _=>exact absurd (show false=true from fx) Bool.false_ne_true
 | int a =>
  obtain ⟨t1,rfl⟩:=ry
  cases x with
  | non=>cases rx;exact RcAt.int_none a t1
  | bl b=>cases rx;exact RcAt.int_bool a t1 b
  | int b=>obtain ⟨t2,rfl⟩:=rx;exact RcAt.int_int a t1 b t2
  | str b=>obtain ⟨t2,rfl⟩:=rx;exact RcAt.int_str a t1 b t2
  | _=>exact absurd (show false=true from fx) Bool.false_ne_true
 | str a =>
  obtain ⟨t1,rfl⟩:=ry
  cases x with
  | non=>cases rx;exact RcAt.str_none a t1
  | bl b=>cases rx;exact RcAt.str_bool a t1 b
  | int b=>obtain ⟨t2,rfl⟩:=rx;exact RcAt.str_int a t1 b t2
  | str b=>obtain ⟨t2,rfl⟩:=rx;exact RcAt.str_str a t1 b t2
  | _=>exact absurd (show false=true from fx) Bool.false_ne_true
 | _=>exact absurd (show false=true from fy) Bool.false_ne_true
theorem Gv {A:Around}{s:Shared}{y x:V}{u v:Value}(ry:RelV y u)(rx:RelV x v)(fy:y8 y=true)(fx:y8 x=true):RcNeAt A s u v (!qf y x):=by
 cases y with
 | non =>
  cases ry
  cases x with
  | non=>cases rx;exact RcNeAt.none_none
  | bl b=>cases rx;exact RcNeAt.none_bool b
  | int b=>obtain ⟨t2,rfl⟩:=rx;exact RcNeAt.none_int b t2
  | str b=>obtain ⟨t2,rfl⟩:=rx;exact RcNeAt.none_str b t2
  | _=>exact absurd (show false=true from fx) Bool.false_ne_true
 | bl a =>
  cases ry
  cases x with
  | non=>cases rx;exact RcNeAt.bool_none a
  | bl b=>cases rx;exact RcNeAt.bool_bool a b
  | int b=>obtain ⟨t2,rfl⟩:=rx;exact RcNeAt.bool_int a b t2
  | str b=>obtain ⟨t2,rfl⟩:=rx;exact RcNeAt.bool_str a b t2
  | _=>exact absurd (show false=true from fx) Bool.false_ne_true
 | int a =>
  obtain ⟨t1,rfl⟩:=ry
  cases x with
  | non=>cases rx;exact RcNeAt.int_none a t1
  | bl b=>cases rx;exact RcNeAt.int_bool a t1 b
  | int b=>obtain ⟨t2,rfl⟩:=rx;exact RcNeAt.int_int a t1 b t2
  | str b=>obtain ⟨t2,rfl⟩:=rx;exact RcNeAt.int_str a t1 b t2
  | _=>exact absurd (show false=true from fx) Bool.false_ne_true
 | str a =>
  obtain ⟨t1,rfl⟩:=ry
  cases x with
  | non=>cases rx;exact RcNeAt.str_none a t1
  | bl b=>cases rx;exact RcNeAt.str_bool a t1 b
  | int b=>obtain ⟨t2,rfl⟩:=rx;exact RcNeAt.str_int a t1 b t2
  | str b=>obtain ⟨t2,rfl⟩:=rx;exact RcNeAt.str_str a t1 b t2
  | _=>exact absurd (show false=true from fx) Bool.false_ne_true
 | _=>exact absurd (show false=true from fy) Bool.false_ne_true
theorem BW {A:Around}{s:Shared}{y:V}{u:Value}{l:Addr}{items:Array Value}(hl:s.heap.IsList l items)(hu:A.units < cLine)(ry:RelV y u)(fy:y8 y=true):EqAt A s u (.ref l) false:=by
 cases y with
 | non=>cases ry;exact EqAt.none_list hl hu
 | bl a=>cases ry;exact EqAt.bool_list a hl hu
 | int a=>obtain ⟨t1,rfl⟩:=ry;exact EqAt.int_list a t1 hl hu
 | str a=>obtain ⟨t1,rfl⟩:=ry;exact EqAt.str_list a t1 hl hu
 | _=>exact absurd (show false=true from fy) Bool.false_ne_true
theorem BY {A:Around}{s:Shared}{y:V}{u:Value}{l:Addr}{items:Array Value}(hl:s.heap.IsList l items)(hu:A.units < cLine)(ry:RelV y u)(fy:y8 y=true):EqAt A s (.ref l) u false:=by
 cases y with
 | non=>cases ry;exact EqAt.list_none hl hu
 | bl a=>cases ry;exact EqAt.list_bool a hl hu
 | int a=>obtain ⟨t1,rfl⟩:=ry;exact EqAt.list_int a t1 hl hu
 | str a=>obtain ⟨t1,rfl⟩:=ry;exact EqAt.list_str a t1 hl hu
 | _=>exact absurd (show false=true from fy) Bool.false_ne_true
theorem BX {A:Around}{s:Shared}{y:V}{u:Value}{l:Addr}{items:Array Value}(hl:s.heap.IsTuple l items)(hu:A.units < cLine)(ry:RelV y u)(fy:y8 y=true):EqAt A s u (.ref l) false:=by
 cases y with
 | non=>cases ry;exact EqAt.none_tuple hl hu
 | bl a=>cases ry;exact EqAt.bool_tuple a hl hu
 | int a=>obtain ⟨t1,rfl⟩:=ry;exact EqAt.int_tuple a t1 hl hu
 | str a=>obtain ⟨t1,rfl⟩:=ry;exact EqAt.str_tuple a t1 hl hu
 | _=>exact absurd (show false=true from fy) Bool.false_ne_true
theorem BZ {A:Around}{s:Shared}{y:V}{u:Value}{l:Addr}{items:Array Value}(hl:s.heap.IsTuple l items)(hu:A.units < cLine)(ry:RelV y u)(fy:y8 y=true):EqAt A s (.ref l) u false:=by
 cases y with
 | non=>cases ry;exact EqAt.tuple_none hl hu
 | bl a=>cases ry;exact EqAt.tuple_bool a hl hu
 | int a=>obtain ⟨t1,rfl⟩:=ry;exact EqAt.tuple_int a t1 hl hu
 | str a=>obtain ⟨t1,rfl⟩:=ry;exact EqAt.tuple_str a t1 hl hu
 | _=>exact absurd (show false=true from fy) Bool.false_ne_true
theorem MO {A:Around}{s:Shared}{y:V}{u:Value}{l:Addr}{items:Array Value}(hl:s.heap.IsList l items)(hu:A.units < cLine)(ry:RelV y u)(fy:y8 y=true):RcAt A s u (.ref l) false:=by
 cases y with
 | non=>cases ry;exact RcAt.none_list hl hu
 | bl a=>cases ry;exact RcAt.bool_list a hl hu
 | int a=>obtain ⟨t1,rfl⟩:=ry;exact RcAt.int_list a t1 hl hu
 | str a=>obtain ⟨t1,rfl⟩:=ry;exact RcAt.str_list a t1 hl hu
 | _=>exact absurd (show false=true from fy) Bool.false_ne_true
theorem MQ {A:Around}{s:Shared}{y:V}{u:Value}{l:Addr}{items:Array Value}(hl:s.heap.IsList l items)(hu:A.units < cLine)(ry:RelV y u)(fy:y8 y=true):RcAt A s (.ref l) u false:=by
 cases y with
 | non=>cases ry;exact RcAt.list_none hl hu
 | bl a=>cases ry;exact RcAt.list_bool a hl hu
 | int a=>obtain ⟨t1,rfl⟩:=ry;exact RcAt.list_int a t1 hl hu
 | str a=>obtain ⟨t1,rfl⟩:=ry;exact RcAt.list_str a t1 hl hu
 | _=>exact absurd (show false=true from fy) Bool.false_ne_true
theorem MP {A:Around}{s:Shared}{y:V}{u:Value}{l:Addr}{items:Array Value}(hl:s.heap.IsTuple l items)(hu:A.units < cLine)(ry:RelV y u)(fy:y8 y=true):RcAt A s u (.ref l) false:=by
 cases y with
 | non=>cases ry;exact RcAt.none_tuple hl hu
 | bl a=>cases ry;exact RcAt.bool_tuple a hl hu
 | int a=>obtain ⟨t1,rfl⟩:=ry;exact RcAt.int_tuple a t1 hl hu
 | str a=>obtain ⟨t1,rfl⟩:=ry;exact RcAt.str_tuple a t1 hl hu
 | _=>exact absurd (show false=true from fy) Bool.false_ne_true
theorem MR {A:Around}{s:Shared}{y:V}{u:Value}{l:Addr}{items:Array Value}(hl:s.heap.IsTuple l items)(hu:A.units < cLine)(ry:RelV y u)(fy:y8 y=true):RcAt A s (.ref l) u false:=by
 cases y with
 | non=>cases ry;exact RcAt.tuple_none hl hu
 | bl a=>cases ry;exact RcAt.tuple_bool a hl hu
 | int a=>obtain ⟨t1,rfl⟩:=ry;exact RcAt.tuple_int a t1 hl hu
 | str a=>obtain ⟨t1,rfl⟩:=ry;exact RcAt.tuple_str a t1 hl hu
 | _=>exact absurd (show false=true from fy) Bool.false_ne_true
theorem MT {A:Around}{s:Shared}{y:V}{u:Value}{l:Addr}{items:Array Value}(hl:s.heap.IsList l items)(hu:A.units < cLine)(ry:RelV y u)(fy:y8 y=true):RcNeAt A s u (.ref l) true:=by
 cases y with
 | non=>cases ry;exact RcNeAt.none_list hl hu
 | bl a=>cases ry;exact RcNeAt.bool_list a hl hu
 | int a=>obtain ⟨t1,rfl⟩:=ry;exact RcNeAt.int_list a t1 hl hu
 | str a=>obtain ⟨t1,rfl⟩:=ry;exact RcNeAt.str_list a t1 hl hu
 | _=>exact absurd (show false=true from fy) Bool.false_ne_true
theorem MV {A:Around}{s:Shared}{y:V}{u:Value}{l:Addr}{items:Array Value}(hl:s.heap.IsList l items)(hu:A.units < cLine)(ry:RelV y u)(fy:y8 y=true):RcNeAt A s (.ref l) u true:=by
 cases y with
 | non=>cases ry;exact RcNeAt.list_none hl hu
 | bl a=>cases ry;exact RcNeAt.list_bool a hl hu
 | int a=>obtain ⟨t1,rfl⟩:=ry;exact RcNeAt.list_int a t1 hl hu
 | str a=>obtain ⟨t1,rfl⟩:=ry;exact RcNeAt.list_str a t1 hl hu
 | _=>exact absurd (show false=true from fy) Bool.false_ne_true
theorem MU {A:Around}{s:Shared}{y:V}{u:Value}{l:Addr}{items:Array Value}(hl:s.heap.IsTuple l items)(hu:A.units < cLine)(ry:RelV y u)(fy:y8 y=true):RcNeAt A s u (.ref l) true:=by
 cases y with
 | non=>cases ry;exact RcNeAt.none_tuple hl hu
 | bl a=>cases ry;exact RcNeAt.bool_tuple a hl hu
 | int a=>obtain ⟨t1,rfl⟩:=ry;exact RcNeAt.int_tuple a t1 hl hu
 | str a=>obtain ⟨t1,rfl⟩:=ry;exact RcNeAt.str_tuple a t1 hl hu
 | _=>exact absurd (show false=true from fy) Bool.false_ne_true
theorem MW {A:Around}{s:Shared}{y:V}{u:Value}{l:Addr}{items:Array Value}(hl:s.heap.IsTuple l items)(hu:A.units < cLine)(ry:RelV y u)(fy:y8 y=true):RcNeAt A s (.ref l) u true:=by
 cases y with
 | non=>cases ry;exact RcNeAt.tuple_none hl hu
 | bl a=>cases ry;exact RcNeAt.tuple_bool a hl hu
 | int a=>obtain ⟨t1,rfl⟩:=ry;exact RcNeAt.tuple_int a t1 hl hu
 | str a=>obtain ⟨t1,rfl⟩:=ry;exact RcNeAt.tuple_str a t1 hl hu
 | _=>exact absurd (show false=true from fy) Bool.false_ne_true
section
variable {X:Cx}{pins:List (Addr × Obj)}{σ:St}{H:Hp}{s:Shared}
theorem Xo (I:Inv X pins σ H s):∀ (n:Nat) {x:V} {b:Bool},EqP X.K H n x x b->b=true
 | 0,x,b,h=>by obtain ⟨h1,_,rfl⟩:=h;exact Xp h1
 | n + 1,x,b,h=>by
  rcases h with ⟨h1,_,rfl⟩ | ⟨a,c,xs,ys,rfl,e2,p1,p2,h⟩ | ⟨a,c,xs,ys,rfl,e2,p1,p2,e,he,rfl⟩ | ⟨a,c,xs,ys,rfl,e2,p1,p2,_⟩ | ⟨a,c,xs,ys,rfl,e2,p1,p2,_⟩ | ⟨c,ys,f,rfl,_⟩ | ⟨c,ys,f,rfl,_⟩
  ·exact Xp h1
  ·cases e2
   cases I.list_inj p1 p2
   rcases h with ⟨h,_⟩ | ⟨_,e,he,rfl⟩
   ·exact absurd rfl h
   ·rw [List.all_eq_true]
    exact fun j hj=>Xo I n (he j (List.mem_range.mp hj) (List.mem_range.mp hj))
  ·cases e2
   cases I.tuple_inj p1 p2
   rw [Nat.min_self,beq_self_eq_true,Bool.and_true,List.all_eq_true]
   exact fun j hj=>Xo I n (he j (List.mem_range.mp hj) (List.mem_range.mp hj))
  ·cases e2
   obtain ⟨_,_,⟨o1,_,q1,c1,_⟩,_⟩:=I.list p1
   obtain ⟨_,_,⟨o2,q2,c2,_⟩,_⟩:=I.tuple p2
   rw [q1] at q2;cases q2;rw [c1] at c2;exact absurd c2 (by decide)
  ·cases e2
   obtain ⟨_,_,⟨o2,q2,c2,_⟩,_⟩:=I.tuple p1
   obtain ⟨_,_,⟨o1,_,q1,c1,_⟩,_⟩:=I.list p2
   rw [q1] at q2;cases q2;rw [c1] at c2;exact absurd c2 (by decide)
  ·cases f
  ·cases f
theorem vV (I:Inv X pins σ H s):∀ (n:Nat) (A:Around) {x y:V} {u v:Value} {b:Bool},A.units + n < cLine->EqP X.K H n x y b->RelV x u->RelV y v->EqAt A s u v b
 | 0,A,x,y,u,v,b,hu,h,r1,r2=>by obtain ⟨h1,h2,rfl⟩:=h;exact JA r1 r2 h1 h2
 | n + 1,A,x,y,u,v,b,hu,h,r1,r2=>by
  have h':=h
  rcases h with ⟨h1,h2,rfl⟩ | ⟨a,c,xs,ys,rfl,rfl,p1,p2,h⟩ | ⟨a,c,xs,ys,rfl,rfl,p1,p2,e,he,rfl⟩ | ⟨a,c,xs,ys,rfl,rfl,p1,p2,rfl⟩ | ⟨a,c,xs,ys,rfl,rfl,p1,p2,rfl⟩ | ⟨c,ys,f,rfl,p,rfl⟩ | ⟨c,ys,f,rfl,p,rfl⟩
  ·exact JA r1 r2 h1 h2
  ·cases r1
   cases r2
   by_cases hac:a=c
   ·subst hac
    have hb:=Xo I (n + 1) h'
    rw [hb]
    exact EqAt.same _
   obtain ⟨us,v1,q1,_⟩:=I.list p1
   obtain ⟨ws,v2,q2,_⟩:=I.list p2
   have l1:=v1.length
   have l2:=v2.length
   refine EqAt.of_refs hac ?_
   rcases h with ⟨h,rfl⟩ | ⟨hl,e,he,rfl⟩
   ·exact RcAt.lists_lengths q1.isList q2.isList (by rw [List.size_toArray,List.size_toArray];simp;omega) (by omega)
   ·have q:=RcAt.lists (A:=A) (s:=s) q1.isList q2.isList (by rw [List.size_toArray,List.size_toArray];omega) (by omega) (e:=e) (fun j j1 j2=>?_)
    ·rw [List.size_toArray,<- l1] at q
     exact q
    ·have j1':j < us.length:=by simpa using j1
     have j2':j < ws.length:=by simpa using j2
     rw [List.getElem_toArray,List.getElem_toArray]
     exact vV I n A.in1 (by show A.units + 1 + n < cLine;omega) (he j (by omega) (by omega)) (xR v1 j (by omega) j1') (xR v2 j (by omega) j2')
  ·cases r1
   cases r2
   by_cases hac:a=c
   ·subst hac
    have hb:=Xo I (n + 1) h'
    rw [hb]
    exact EqAt.same _
   obtain ⟨us,v1,q1,_⟩:=I.tuple p1
   obtain ⟨ws,v2,q2,_⟩:=I.tuple p2
   have l1:=v1.length
   have l2:=v2.length
   refine EqAt.of_refs hac ?_
   have q:=RcAt.tuples (A:=A) (s:=s) q1 q2 (by omega) (e:=e) (fun j j1 j2=>?_)
   ·rw [List.size_toArray,List.size_toArray,<- l1,<- l2] at q
    exact q
   ·have j1':j < us.length:=by simpa using j1
    have j2':j < ws.length:=by simpa using j2
    rw [List.getElem_toArray,List.getElem_toArray]
    exact vV I n A.in1 (by show A.units + 1 + n < cLine;omega) (he j (by omega) (by omega)) (xR v1 j (by omega) j1') (xR v2 j (by omega) j2')
  ·cases r1
   cases r2
   obtain ⟨us,v1,q1,_⟩:=I.list p1
   obtain ⟨ws,v2,q2,_⟩:=I.tuple p2
   exact EqAt.list_tuple q1.isList q2 (by omega)
  ·cases r1
   cases r2
   obtain ⟨us,v1,q1,_⟩:=I.tuple p1
   obtain ⟨ws,v2,q2,_⟩:=I.list p2
   exact EqAt.tuple_list q1 q2.isList (by omega)
  ·cases r2
   rcases p with p | p
   ·obtain ⟨us,v1,q1,_⟩:=I.list p
    exact BW q1.isList (by omega) r1 f
   ·obtain ⟨us,v1,q1,_⟩:=I.tuple p
    exact BX q1 (by omega) r1 f
  ·cases r1
   rcases p with p | p
   ·obtain ⟨us,v1,q1,_⟩:=I.list p
    exact BY q1.isList (by omega) r2 f
   ·obtain ⟨us,v1,q1,_⟩:=I.tuple p
    exact BZ q1 (by omega) r2 f
theorem rc_at (I:Inv X pins σ H s){n:Nat}{A:Around}{x y:V}{u v:Value}{b:Bool}(hu:A.units + n < cLine)(h:EqP X.K H n x y b)(r1:RelV x u)(r2:RelV y v):RcAt A s u v b:=by
 cases n with
 | zero=>obtain ⟨h1,h2,rfl⟩:=h;exact Gu r1 r2 h1 h2
 | succ n =>
  rcases h with ⟨h1,h2,rfl⟩ | ⟨a,c,xs,ys,rfl,rfl,p1,p2,h⟩ | ⟨a,c,xs,ys,rfl,rfl,p1,p2,e,he,rfl⟩ | ⟨a,c,xs,ys,rfl,rfl,p1,p2,rfl⟩ | ⟨a,c,xs,ys,rfl,rfl,p1,p2,rfl⟩ | ⟨c,ys,f,rfl,p,rfl⟩ | ⟨c,ys,f,rfl,p,rfl⟩
  ·exact Gu r1 r2 h1 h2
  ·cases r1
   cases r2
   obtain ⟨us,v1,q1,_⟩:=I.list p1
   obtain ⟨ws,v2,q2,_⟩:=I.list p2
   have l1:=v1.length
   have l2:=v2.length
   rcases h with ⟨h,rfl⟩ | ⟨hl,e,he,rfl⟩
   ·exact RcAt.lists_lengths q1.isList q2.isList (by rw [List.size_toArray,List.size_toArray];simp;omega) (by omega)
   ·have q:=RcAt.lists (A:=A) (s:=s) q1.isList q2.isList (by rw [List.size_toArray,List.size_toArray];omega) (by omega) (e:=e) (fun j j1 j2=>?_)
    ·rw [List.size_toArray,<- l1] at q
     exact q
    ·have j1':j < us.length:=by simpa using j1
     have j2':j < ws.length:=by simpa using j2
     rw [List.getElem_toArray,List.getElem_toArray]
     exact vV I n A.in1 (by show A.units + 1 + n < cLine;omega) (he j (by omega) (by omega)) (xR v1 j (by omega) j1') (xR v2 j (by omega) j2')
  ·cases r1
   cases r2
   obtain ⟨us,v1,q1,_⟩:=I.tuple p1
   obtain ⟨ws,v2,q2,_⟩:=I.tuple p2
   have l1:=v1.length
   have l2:=v2.length
   have q:=RcAt.tuples (A:=A) (s:=s) q1 q2 (by omega) (e:=e) (fun j j1 j2=>?_)
   ·rw [List.size_toArray,List.size_toArray,<- l1,<- l2] at q
    exact q
   ·have j1':j < us.length:=by simpa using j1
    have j2':j < ws.length:=by simpa using j2
    rw [List.getElem_toArray,List.getElem_toArray]
    exact vV I n A.in1 (by show A.units + 1 + n < cLine;omega) (he j (by omega) (by omega)) (xR v1 j (by omega) j1') (xR v2 j (by omega) j2')
  ·cases r1
   cases r2
   obtain ⟨us,v1,q1,_⟩:=I.list p1
   obtain ⟨ws,v2,q2,_⟩:=I.tuple p2
   exact RcAt.list_tuple q1.isList q2 (by omega)
  ·cases r1
   cases r2
   obtain ⟨us,v1,q1,_⟩:=I.tuple p1
   obtain ⟨ws,v2,q2,_⟩:=I.list p2
   exact RcAt.tuple_list q1 q2.isList (by omega)
  ·cases r2
   rcases p with p | p
   ·obtain ⟨us,v1,q1,_⟩:=I.list p
    exact MO q1.isList (by omega) r1 f
   ·obtain ⟨us,v1,q1,_⟩:=I.tuple p
    exact MP q1 (by omega) r1 f
  ·cases r1
   rcases p with p | p
   ·obtain ⟨us,v1,q1,_⟩:=I.list p
    exact MQ q1.isList (by omega) r2 f
   ·obtain ⟨us,v1,q1,_⟩:=I.tuple p
    exact MR q1 (by omega) r2 f
theorem MX (I:Inv X pins σ H s){n:Nat}{A:Around}{x y:V}{u v:Value}{b:Bool}(hu:A.units + n < cLine)(h:EqP X.K H n x y b)(r1:RelV x u)(r2:RelV y v):RcNeAt A s u v (!b):=by
 cases n with
 | zero=>obtain ⟨h1,h2,rfl⟩:=h;exact Gv r1 r2 h1 h2
 | succ n =>
  rcases h with ⟨h1,h2,rfl⟩ | ⟨a,c,xs,ys,rfl,rfl,p1,p2,h⟩ | ⟨a,c,xs,ys,rfl,rfl,p1,p2,e,he,rfl⟩ | ⟨a,c,xs,ys,rfl,rfl,p1,p2,rfl⟩ | ⟨a,c,xs,ys,rfl,rfl,p1,p2,rfl⟩ | ⟨c,ys,f,rfl,p,rfl⟩ | ⟨c,ys,f,rfl,p,rfl⟩
  ·exact Gv r1 r2 h1 h2
  ·cases r1
   cases r2
   obtain ⟨us,v1,q1,_⟩:=I.list p1
   obtain ⟨ws,v2,q2,_⟩:=I.list p2
   have l1:=v1.length
   have l2:=v2.length
   rcases h with ⟨h,rfl⟩ | ⟨hl,e,he,rfl⟩
   ·exact RcNeAt.lists_lengths q1.isList q2.isList (by rw [List.size_toArray,List.size_toArray];simp;omega) (by omega)
   ·have q:=RcNeAt.lists (A:=A) (s:=s) q1.isList q2.isList (by rw [List.size_toArray,List.size_toArray];omega) (by omega) (e:=e) (fun j j1 j2=>?_)
    ·rw [List.size_toArray,<- l1] at q
     exact q
    ·have j1':j < us.length:=by simpa using j1
     have j2':j < ws.length:=by simpa using j2
     rw [List.getElem_toArray,List.getElem_toArray]
     exact vV I n A.in1 (by show A.units + 1 + n < cLine;omega) (he j (by omega) (by omega)) (xR v1 j (by omega) j1') (xR v2 j (by omega) j2')
  ·cases r1
   cases r2
   obtain ⟨us,v1,q1,_⟩:=I.tuple p1
   obtain ⟨ws,v2,q2,_⟩:=I.tuple p2
   have l1:=v1.length
   have l2:=v2.length
   have q:=RcNeAt.tuples (A:=A) (s:=s) q1 q2 (by omega) (e:=e) (fun j j1 j2=>?_)
   ·rw [List.size_toArray,List.size_toArray,<- l1,<- l2] at q
    exact q
   ·have j1':j < us.length:=by simpa using j1
    have j2':j < ws.length:=by simpa using j2
    rw [List.getElem_toArray,List.getElem_toArray]
    exact vV I n A.in1 (by show A.units + 1 + n < cLine;omega) (he j (by omega) (by omega)) (xR v1 j (by omega) j1') (xR v2 j (by omega) j2')
  ·cases r1
   cases r2
   obtain ⟨us,v1,q1,_⟩:=I.list p1
   obtain ⟨ws,v2,q2,_⟩:=I.tuple p2
   exact RcNeAt.list_tuple q1.isList q2 (by omega)
  ·cases r1
   cases r2
   obtain ⟨us,v1,q1,_⟩:=I.tuple p1
   obtain ⟨ws,v2,q2,_⟩:=I.list p2
   exact RcNeAt.tuple_list q1 q2.isList (by omega)
  ·cases r2
   rcases p with p | p
   ·obtain ⟨us,v1,q1,_⟩:=I.list p
    exact MT q1.isList (by omega) r1 f
   ·obtain ⟨us,v1,q1,_⟩:=I.tuple p
    exact MU q1 (by omega) r1 f
  ·cases r1
   rcases p with p | p
   ·obtain ⟨us,v1,q1,_⟩:=I.list p
    exact MV q1.isList (by omega) r2 f
   ·obtain ⟨us,v1,q1,_⟩:=I.tuple p
    exact MW q1 (by omega) r2 f
def rEqD (K:Fg)(n:Nat)(neg:Bool):R2:=fun x y H Q=>∃ b,EqP K H n x y b/\Q (.bl (if neg then !b else b)) H
theorem zK {K:Fg}{n:Nat}(hu:X.A.units + n < cLine)(hK:X.K=K):OpR X (compareOp .Eq) (rEqD K n false):=by
 subst hK
 intro pins s σ H x y v u Q I rx ry h
 obtain ⟨b,h,q⟩:=h
 exact rc_at I hu h rx ry X.prog X.w X.xe _ ⟨.bl b,H,I,rfl,q⟩
theorem XU {K:Fg}{n:Nat}(hu:X.A.units + n < cLine)(hK:X.K=K):OpR X (compareOp .NotEq) (rEqD K n true):=by
 subst hK
 intro pins s σ H x y v u Q I rx ry h
 obtain ⟨b,h,q⟩:=h
 exact MX I hu h rx ry X.prog X.w X.xe _ ⟨.bl (!b),H,I,rfl,q⟩
theorem hu6 {A:Around}{k:Nat}(hr:Room k A):A.units + 6 < cLine:=by have:=hr.units;omega
end
end L2
namespace L2
open PySem PySem.Spec PyProof.Rows
section
variable {X:Cx}{K:Fg}
def rAddS:R2:=fun x y H Q=>∃ i j,x = .str i/\y = .str j/\i.length + j.length<=sizeLine/\Q (.str (i++j)) H
def Ge (K:Fg):R2:=fun x y H Q=>(rI0 fun i j=> .int (i + j)) x y H Q ∨ rAddS x y H Q ∨ Gh K x y H Q ∨ Gi K x y H Q
theorem zm (h:X.K=K):OpR X (binaryOp .Add) (Ge K):=by subst h;exact op_add.or (op_add_str.or (op_catL.or DQ))
theorem g8 (h:X.K=K):IxR X (rIx K):=by subst h;exact Cg
def rLen (K:Fg):List V->Hp->VK->Prop:=fun xs H Q=>(∃ x n,xs=[x]/\LenV K x H n/\Q (.int n) H) ∨ ∃ a kvs,xs=[V.ref a]/\H a=some (.dK kvs)/\Q (.int kvs.length) H
theorem xa (h:X.K=K):CallR X (.builtin "len") (rLen K):=by
 subst h
 exact CallR.or (f:= .builtin "len") Bt Bu
theorem MJ {a:Expr}{ta:TE}(h:X.K=K)(ha:PE X a ta)(he:∀ whole,isTrue a X.env whole=(do let v <- whole;standAt a.pos;holding [v] (truthy v))):PT X a (fun σ H Q=>ta σ H fun x H'=>∃ k,TruV K x H' k/\Q k H'):=by
 subst h;exact MK ha he
theorem UJ (h:X.K=K):OpR X (compareOp .In) (rIn K false):=by subst h;exact DR
def Gn (K:Fg):List V->Hp->VK->Prop:=fun xs H Q=>∃ p ys,xs=[.ref p]/\(SqL K H p ys ∨ SqT K H p ys)/\∀ l,H l=none->Q (.ref l) (j7 H l (.lst ys))
theorem Js (h:X.K=K):CallR X (.type "list") (Gn K):=by subst h;exact By
def rIsi (K:Fg):List V->Hp->VK->Prop:=fun xs H Q=>∃ x n T b,xs=[x,.ty n]/\xr K H x (.type T)/\tyB T n=some b/\Q (.bl b) H
theorem jt (h:X.K=K):CallR X (.builtin "isinstance") (rIsi K):=by subst h;exact Bs
def Gf (K:Fg):List V->Hp->VK->Prop:=fun xs H Q=>∃ (a:Addr) (bs:List Bool),xs=[.ref a]/\SqL K H a (bs.map V.bl)/\Q (.bl (bs.all id)) H
theorem wV (hc:X.calm=true)(h:X.K=K):CallR X (.builtin "all") (Gf K):=by subst h;exact Bq hc
def rIsN:R2:=fun x y H Q=>y = .non/\Q (.bl (decide (x = .non))) H
def Go:R2:=fun x y H Q=>y = .non/\Q (.bl (!decide (x = .non))) H
theorem Vc:OpR X (compareOp .Is) rIsN:=DS
theorem UN:OpR X (compareOp .IsNot) Go:=DU
theorem Bo:bootBuiltins "tuple"=some (.type "tuple"):=by decide +kernel
theorem Yj:bootBuiltins "sorted"=some (.builtin "sorted"):=by decide +kernel
theorem Jq:bootBuiltins "dict"=some (.type "dict"):=by decide +kernel
theorem NG:tyB "tuple" "tuple"=some true:=by decide +kernel
end
section
variable {X:Cx}{K:Fg}{o e:Expr}{es:List Expr}{to:TE}{t:TA}{name:Str}{apos cpos:Pos}{T id:String}{r:V->List V->Hp->VK->Prop}
theorem wB (hK:X.K=K)(pa:PlainAttrs T)(slot:Slot T name id)(hty:typeOf (.builtin id)=pure (.type "method_descriptor")) (hm:MtR X id r) (ho:PE X o to) (ha:PA X (e::es) t)
  (hbase:attributeBase o name X.env (eval o X.env)=eval o X.env:=by rfl)
  (hfew:((backTo cpos (starEach (e::es) X.env)).all (fun x=>!x.1) && (backToKw cpos (keywordEach [] X.env)).all (fun x=>x.1.isSome)
   && decide ((e::es).length + ([]:List Keyword).length + (if ([]:List Keyword).isEmpty then 0 else 1) < 30))=true:=by rfl)
  (hline:(apos.endLine == cpos.line)=true:=by rfl) (hs:starEach (e::es) X.env=(false,eval e X.env)::starEach es X.env:=by rfl) (hplain:(backTo cpos (starEach es X.env)).any (·.1)=false:=by rfl) :
  PE X (.Call (.Attribute o name apos) (e::es) [] cpos) (tBM K T r to t):=by
 subst hK;exact pe_bm pa slot hty hm ho ha hbase hfew hline hs hplain
end
end L2
namespace L2
open PySem PySem.Spec PySem.Calls
section
variable {P:Program}{w:World}{κ:Type}[DecidableEq κ]{knd:PySem.KeyKind P w κ}
def h8 (val:Nat->κ):Nat->List κ
 | 0=>[]
 | i + 1=>if val i ∈ h8 val i then h8 val i else h8 val i++[val i]
theorem GK (val:Nat->κ):∀ i,(h8 val i).length<=i
 | 0=>Nat.le_refl _
 | i + 1=>by
  have ih:=GK val i
  unfold h8
  split
  ·omega
  ·rw [List.length_append,List.length_singleton];omega
theorem GN {h:Heap}{a:Addr}{S S':κ->Bool}{n n':Nat}(x:h.SetOf knd a S n)(e:∀ k,S k=S' k)(en:n=n'):h.SetOf knd a S' n':=by
 cases (funext e:S=S');cases en;exact x
theorem Vw {h h':Heap}{a:Addr}{S:κ->Bool}{n:Nat}(x:h.SetOf knd a S n)(e:∀ o,h.get? a=some o->h'.get? a=some o):h'.SetOf knd a S n:=by
 obtain ⟨o,es,ep,t,ho,r⟩:=x
 exact ⟨o,es,ep,t,e _ ho,r⟩
theorem LV {A:Around}{R:Result->Shared->Prop}{I:Addr}{fp wr:List Addr}{G:Array GenState->Array GenState->Prop}{n:Nat}{Pp:Nat->Value->Prop}{St:Nat->Shared->Prop}
  (W:WalksS P w A.in1 I fp wr G n Pp St) (a:Addr) (ha:a ∉ fp) (val:Nat->κ) (hv:∀ i v,Pp i v->knd.is (val i) v=true/\v.scannable=true) (hb:n + 1 < scanBound) :
  ∀ (m i:Nat) (s:Shared),n - i=m->i<=n->St i s->s.heap.SetOf knd a (fun x=>decide (x ∈ h8 val i)) (h8 val i).length ->
   (∀ s',Moved (a::wr) G s s'->s'.heap.SetOf knd a (fun x=>decide (x ∈ h8 val n)) (h8 val n).length->R (.ok (.ret .none)) s') ->
   codeAny (model P w) A (.builtin "set.update.loop" ⟨[.ref a,.ref I],[]⟩) R s:=by
 have haw:a ∉ wr:=fun z=>ha (W.sub _ z)
 have up:∀ b ∈ wr,b ∈ a::wr:=fun b z=>List.mem_cons_of_mem _ z
 intro m
 induction m with
 | zero =>
  intro i s hm hi st hS hR
  obtain rfl:i=n:=by omega
  refine codeAny_builtin PyProof.Rows.F.entry_set_update_loop ?_
  rw [Around.under_plainId PyProof.Rows.F.plain_set_update_loop _];show wpAny _ A.in1 (pyNext (.ref I) >>= _) _ _ s
  refine wpAny_bind (W.done s _ _ st fun s' mv=>?_);show wpAny _ A.in1 (ret Value.none) _ _ s'
  exact wpAny_pure (hR s' (mv.mono up) (Vw hS fun o e=>mv.heap a o haw e))
 | succ m ih =>
  intro i s hm hi st hS hR
  have hlt:i < n:=by omega
  refine codeAny_builtin PyProof.Rows.F.entry_set_update_loop ?_
  rw [Around.under_plainId PyProof.Rows.F.plain_set_update_loop _];show wpAny _ A.in1 (pyNext (.ref I) >>= _) _ _ s
  refine wpAny_bind (W.item i s _ _ hlt st fun v s' hP st' mv=>?_)
  obtain ⟨hk,hsc⟩:=hv i v hP
  have hS':s'.heap.SetOf knd a (fun x=>decide (x ∈ h8 val i)) (h8 val i).length:=Vw hS fun o e=>mv.heap a o haw e
  show wpAny _ A.in1 (holding [v] (setAdd a v) >>= _) _ _ s'
  refine wpAny_bind (wpAny_holding ?_);unfold setAdd
  refine wpAny_holding (wpAny_bind (knd.pyHash (k:=val i) hk ?_))
  have room:(h8 val i).length + 1 < scanBound:=by have:=GK val i;omega
  refine wpAny_setAddHashed_of (knd:=knd) (s:={ s' with toks:=s'.toks + 1 }) hk hsc hS' room fun h' sb hS2=>?_
  have hSi:h'.SetOf knd a (fun x=>decide (x ∈ h8 val (i + 1))) (h8 val (i + 1)).length:=by
   refine GN hS2 (fun x=>?_) ?_
   ·by_cases hc:val i ∈ h8 val i
    ·rw [show h8 val (i + 1)=h8 val i from if_pos hc]
     by_cases hx:x=val i
     ·subst hx;simp [hc]
     ·simp [hx]
    ·rw [show h8 val (i + 1)=h8 val i++[val i] from if_neg hc]
     simp
   ·by_cases hc:val i ∈ h8 val i
    ·rw [show h8 val (i + 1)=h8 val i from if_pos hc];simp [hc]
    ·rw [show h8 val (i + 1)=h8 val i++[val i] from if_neg hc];simp [hc]
  refine wpAny_pure ⟨plainId_quiet PyProof.Rows.F.plain_set_update_loop _,ih (i + 1) _ (by omega) hlt (W.frame _ s' _ _ st' (Nat.le_succ _) fun b z o e=>?_) hSi fun s2 mv2 hS3=>?_⟩
  ·rw [sb.2 b (fun q:b=a=>ha (by rw [<- q];exact z))];exact e
  ·refine hR s2 (Moved.trans W.gtrans ((mv.mono up).then_heap (Nat.le_succ _) fun b o z e=>?_) mv2) hS3
   rw [sb.2 b (fun q:b=a=>z (by rw [q];exact List.mem_cons_self))];exact e
theorem BB {A:Around}{E:Value->Shared->Prop}{s:Shared}{l:Addr}{its:Array Value}{val:Nat->κ}{Q:Value->Shared->Prop}(hh:A.handled=none)(hl:s.heap.IsList l its)
  (hv:∀ (i:Nat) (v:Value),its[i]?=some v->knd.is (val i) v=true/\v.scannable=true) (hb:its.size + 1 < scanBound)
  (h:∀ (h':Heap) (tk:Nat),h'.SetOf knd s.heap.objs.size (fun x=>decide (x ∈ h8 val its.size)) (h8 val its.size).length ->
   (∀ b o,s.heap.get? b=some o->h'.get? b=some o)->Q (.ref s.heap.objs.size) { s with heap:=h',toks:=tk }) :
  wpAny (model P w) A (call (.type "set") [.ref l]) Q E s:=by
 obtain ⟨c,tl,hmro⟩:=PySem.F.called_set.mro
 have hmade:=PySem.F.called_set.made
 have hsub:=PySem.F.called_set.sub
 refine wpAny_call (codeAny_of_tree ?_)
 show wpAny _ _ (callAny (.type "set") _) _ _ _
 refine wpAny_pure ⟨Code.quiet_builtin _ (by decide +kernel),codeAny_builtin PySem.F.entry_type_call ?_⟩
 rw [Around.under_plain (weight_type_call_type "set" [.ref l] []) rfl]
 have q1:=PySem.F.called_set.notType
 have q2:=PySem.F.called_set.canCreate
 have q3:=PySem.F.typeCall_set_1 (.ref l)
 (repeat (any_goals (first | assumption | wp_step)))
 refine codeAny_mono (code_set_new_1 (.ref l) (E:=E) (Q₁:=fun ob s1=>∃ led:Bool,ob = .ref s.heap.objs.size/\s1={ s with heap:=s.heap.push { cls:= .type "set",dict:=none,data:= .set #[] 0 (.fresh 0 0 led) } }) fun led=>⟨led,rfl,rfl⟩) fun r s1 hr=>?_
 cases r with
 | error e=>exact hr
 | ok fl =>
  cases fl with
  | ret ob =>
   obtain ⟨led,rfl,rfl⟩:=hr
   have hS:(s.heap.push { cls:= .type "set",dict:=none,data:= .set #[] 0 (.fresh 0 0 led) }).get? s.heap.objs.size=some { cls:= .type "set",dict:=none,data:= .set #[] 0 (.fresh 0 0 led) }:=Heap.get?_push_size _ rfl
   have hT:Shared.TypeIs { s with heap:=s.heap.push { cls:= .type "set",dict:=none,data:= .set #[] 0 (.fresh 0 0 led) } } (.ref s.heap.objs.size) "set":=⟨_,hS,rfl⟩
   have hli:=PySem.F.called_set.init.lookup
   have hbi:=PySem.F.called_set.init.bind (.ref s.heap.objs.size)
   (repeat (any_goals (first | assumption | wp_step)))
   refine codeAny_mono (codeAny_call_builtin (R:=wants (fun r s2=>r = .none/\∃ h' tk,s2={ s with heap:=h',toks:=tk }/\h'.SetOf knd s.heap.objs.size (fun x=>decide (x ∈ h8 val its.size)) (h8 val its.size).length /\
     (∀ b o,s.heap.get? b=some o->h'.get? b=some o)) E) PySem.F.called_set.init.plain PySem.F.entry_set_init (check_set_init_1 hT ?_)) fun r2 s2 hr2=>?_
   ·obtain ⟨ol,hol,hcl,nl,hdl⟩:=hl
    obtain ⟨ocls,odict,odata,oslots⟩:=ol
    simp only at hcl hdl
    subst hcl;subst hdl
    have hol':(s.heap.push { cls:= .type "set",dict:=none,data:= .set #[] 0 (.fresh 0 0 led) }).get? l=some { cls:= .type "list",dict:=odict,data:= .seq its nl,slots:=oslots }:=Heap.get?_push_of_some _ hol
    have z1:=PySem.F.sub_list_set
    have z2:=PySem.F.sub_list_frozenset
    have z3:(Value.type "list" == Value.type "dict")=false:=by decide
    have hl1:(s.heap.push { cls:= .type "set",dict:=none,data:= .set #[] 0 (.fresh 0 0 led) }).IsList l its:=⟨_,hol',rfl,nl,rfl⟩
    unfold Builtin.«set.__init__» noKeywords Builtin.Frozenset.updateFrom
    generalize hPI:pyIter=PI
    wp_walk
    subst hPI
    refine wpAny_pyIter_list hl1 ?_
    refine wpAny_bind (wpAny_runValue ?_)
    have hlS:l < s.heap.objs.size:=Heap.lt_size hol
    have h3:A.in1.in1.in1.handled=none:=by simp [hh]
    have ne1:l ≠ (s.heap.push { cls:= .type "set",dict:=none,data:= .set #[] 0 (.fresh 0 0 led) }).objs.size:=by rw [Heap.size_push];exact Nat.ne_of_lt (Nat.lt_succ_of_lt hlS)
    have ne2:s.heap.objs.size ∉ [(s.heap.push { cls:= .type "set",dict:=none,data:= .set #[] 0 (.fresh 0 0 led) }).objs.size,l]:=by
     rw [Heap.size_push];simp only [List.mem_cons,List.not_mem_nil,or_false,not_or];exact ⟨Nat.ne_of_lt (Nat.lt_succ_self _),Nat.ne_of_gt hlS⟩
    refine LV (knd:=knd) ((Walks.list h3 _ l ne1 its).toS) s.heap.objs.size ne2 val hv hb (its.size - 0) 0 _ (by omega) (Nat.zero_le _) ⟨⟨_,Heap.get?_push_size _ rfl,rfl,rfl⟩,(hl1.push _)⟩ ?_ ?_
    ·have hg:((s.heap.push { cls:= .type "set",dict:=none,data:= .set #[] 0 (.fresh 0 0 led) }).push { cls:= .type "list_iterator",data:= .fields #[.ref l,.int 0 0] }).get? s.heap.objs.size=some { cls:= .type "set",dict:=none,data:= .set #[] 0 (.fresh 0 0 led) }:=Heap.get?_push_of_some _ hS
     exact GN ((PyProof.Rows.setObjOf_fresh (knd:=knd) led).setOf hg (by unfold scanBound;omega)) (fun x=>by simp [h8]) rfl
    ·rintro ⟨h',g',d',tk',os'⟩ mv hS'
     have eg:g'=s.gens:=mv.gens
     have ed:d'=s.drawn:=mv.drawn
     have eo:os'=s.os:=mv.os
     subst eg ed eo
     show wpAny _ _ _ _ _ _
     refine wpAny_pure ?_
     show wpAny _ _ (ret Value.none) _ _ _
     refine wpAny_pure ⟨rfl,h',tk',rfl,hS',fun b o e=>?_⟩
     have hb0:=Heap.lt_size e
     refine mv.heap b o ?_ (Heap.get?_push_of_some _ (Heap.get?_push_of_some _ e))
     rw [Heap.size_push];simp only [List.mem_cons,List.not_mem_nil,or_false,not_or];exact ⟨Nat.ne_of_lt hb0,Nat.ne_of_lt (Nat.lt_succ_of_lt hb0)⟩
   ·cases r2 with
    | error e=>exact hr2
    | ok fl2 =>
     cases fl2 with
     | ret r =>
      obtain ⟨rfl,h',tk,rfl,hS',hk'⟩:=hr2
      (repeat (any_goals (first | assumption | wp_step)))
      exact h _ _ hS' hk'
     | _=>exact False.elim hr2
  | _=>exact False.elim hr
end
def jK (n:Nat)(a:Addr):HO:= .ext fun h=>∃ (P:Program) (w:World) (S:z7->Bool),h.SetOf (qj P w) a S n
section
variable {X:Cx}
theorem Hk {ss:List Str}{us:List Value}(r:Vals (ss.map V.str) us):∀ (i:Nat) (v:Value),us[i]?=some v->∃ x t,ss[i]?=some x/\v = .str x t:=by
 have key:∀ (ss:List Str) (us:List Value),Vals (ss.map V.str) us->∀ (i:Nat) (v:Value),us[i]?=some v->∃ x t,ss[i]?=some x/\v = .str x t:=by
  intro ss
  induction ss with
  | nil=>intro us r i v e;cases r;simp at e
  | cons s ss ih =>
   intro us r i v e
   cases r with
   | cons p q =>
    cases i with
    | zero =>
     obtain ⟨t,rfl⟩:=p
     simp at e
     exact ⟨s,t,rfl,e.symm⟩
    | succ i=>exact ih _ q i v (by simpa using e)
 intro i v e
 exact key ss us r i v e
theorem BA (hc:X.calm=true):CallR X (.type "set") (fun xs H Q=>∃ (a:Addr) (ss:List Str),xs=[.ref a]/\SqL X.K H a (ss.map V.str)/\ss.length<=1000 /\
  ∀ l,H l=none->Q (.ref l) (j7 H l (jK (h8 (fun i=>(Sum.inr (ss.getD i ⟨#[]⟩):z7)) ss.length).length l))):=by
 intro pins s σ H xs us Q I r h
 obtain ⟨a,ss,rfl,hq,hl,q⟩:=h
 obtain ⟨u,rfl,ru⟩:=zx r
 obtain rfl:u=Value.ref a:=ru
 obtain ⟨its,rv,p,hz⟩:=I.list hq
 have hn:its.length=ss.length:=by have e:=rv.length;rw [List.length_map] at e;exact e.symm
 refine BB (knd:=qj X.prog X.w) (its:=its.toArray) (val:=fun i=>(Sum.inr (ss.getD i ⟨#[]⟩):z7)) (I.ok.hd hc) p.isList (fun i v e=>?_) (by rw [List.size_toArray,hn];unfold scanBound;omega) fun h' tk hS k=>?_
 ·obtain ⟨x,t,hx,rfl⟩:=Hk rv i v (by simpa using e)
  rw [List.getD_eq_getElem?_getD,hx]
  exact ⟨JZ _ _ _ _,rfl⟩
 ·have e8:its.toArray.size=ss.length:=by rw [List.size_toArray];exact hn
  rw [e8] at hS
  refine ⟨.ref s.heap.objs.size,_,I.laid (t':=tk) k (Nat.le_refl _) (show ObjOk X.prog X.w _ h' _ (jK _ _) from ⟨⟨_,_,_,hS⟩,?_,?_⟩),rfl,q _ (I.hok.fresh (Nat.le_refl _))⟩
  ·obtain ⟨o,_,_,_,ho,_⟩:=hS;exact ⟨o,ho⟩
  ·rintro h1 h2 ⟨P,w,S,x⟩ e;exact ⟨P,w,S,Vw x e⟩
theorem Bv:CallR X (.builtin "len") (fun xs H Q=>∃ (a:Addr) (n:Nat),xs=[.ref a]/\H a=some (jK n a)/\Q (.int n) H):=by
 intro pins s σ H xs us Q I r h
 obtain ⟨a,n,rfl,hq,q⟩:=h
 obtain ⟨u,rfl,ru⟩:=zx r
 obtain rfl:u=Value.ref a:=ru
 obtain ⟨⟨P,w,S,o,es,ep,t,ho,hex,hd,_,_,hb,hf,hn⟩,_⟩:=(show ObjOk X.prog X.w H s.heap a (jK n a) from I.hok a _ hq)
 subst hn
 have h63:((es.size:Nat):Int) < 2 ^ 63:=by unfold scanBound at hb;omega
 exact call_len_set ho hex hd hf h63 ⟨.int es.size,H,I.tok _,⟨_,rfl⟩,q⟩
end
end L2
namespace L2
open PySem PySem.Spec PySem.Calls PyProof.Rows
section
variable {X:Cx}
def Xd (ss:List Str):Prop:=ss.Pairwise fun x y=>¬ (y.cps.toList < x.cps.toList)
theorem GS {ss:List Str}(h:sortedS ss=true):Xd ss:=by
 cases ss with
 | nil=>exact List.Pairwise.nil
 | cons x r =>
  have key:∀ (l:List Str) (p:Str),risingS p l=true->(p::l).Pairwise fun x y=>¬ (y.cps.toList < x.cps.toList):=by
   intro l
   induction l with
   | nil=>intro p _;exact List.pairwise_singleton _ _
   | cons y l ih =>
    intro p hp
    have hp':(!ltCps y.cps.toList p.cps.toList && risingS y l)=true:=hp
    rw [Bool.and_eq_true] at hp'
    have i2:=ih y hp'.2
    have hyp:¬ (y.cps.toList < p.cps.toList):=by
     have e:=hp'.1
     rw [ltCps_eq] at e
     simpa using e
    refine List.pairwise_cons.mpr ⟨fun z hz=>?_,i2⟩
    rcases List.mem_cons.mp hz with rfl | hz
    ·exact hyp
    ·have hzy:=(List.pairwise_cons.mp i2).1 z hz
     intro hlt
     exact hyp (Std.lt_of_le_of_lt (Std.not_lt.mp hzy) hlt)
  exact key r x h
def Gr (K:Fg):List V->Hp->VK->Prop:=fun xs H Q=>∃ (a:Addr) (ss:List Str),xs=[.ref a]/\(SqL K H a (ss.map V.str) ∨ ∃ kvs,Rd H a (.dK kvs)/\kvs.map (·.1)=ss.map Sum.inr)/\ss.length < 64 /\
 ∀ l ss',H l=none->ss'.Perm ss->Xd ss'->Q (.ref l) (j7 H l (.lst (ss'.map V.str)))
theorem GX:∀ {ss:List Str} {us:List Value},Vals (ss.map V.str) us->StrsAre us ss
 | [],_,.nil=> .nil
 | x::_,_,.cons ⟨t,e⟩ r=>by subst e;exact .cons x t (GX r)
theorem VM:∀ {us:List Value} {ss:List Str},StrsAre us ss->Vals (ss.map V.str) us
 | _,_,.nil=> .nil
 | _,_,.cons x t r=> .cons ⟨t,rfl⟩ (VM r)
theorem Cp:∀ {kvs:List (z7 × V)} {vs:List (z7 × Value)} {ss:List Str},KV kvs vs->kvs.map (·.1)=ss.map Sum.inr->vs.map (·.1)=ss.map Sum.inr:=by
 intro kvs vs ss r e
 rw [<- e]
 clear e
 induction r with
 | nil=>rfl
 | cons p _ ih=>rw [List.map_cons,List.map_cons,ih,p.1]
theorem Ca {P:Program}{w:World}{vs:List (z7 × Value)}{ss:List Str}{acc:Array Value}(e:vs.map (·.1)=ss.map Sum.inr)(h:ItemsOf (fun i v=>∃ k x,vs[i]?=some (k,x)/\(qj P w).is k v=true) acc vs.length):StrsAre acc.toList ss:=by
 have hl:vs.length=ss.length:=by have:=congrArg List.length e;rwa [List.length_map,List.length_map] at this
 have h0:∀ v ∈ acc.toList,∃ x t,v = .str x t:=by
  intro v hv
  obtain ⟨i,hi,rfl⟩:=List.getElem_of_mem hv
  obtain ⟨k,x,hk,his⟩:=h.2 i acc.toList[i] (by simp at hi ⊢)
  have hk2:(vs.map (·.1))[i]?=some k:=by rw [List.getElem?_map,hk];rfl
  rw [e,List.getElem?_map] at hk2
  obtain ⟨z,_,rfl⟩:=Option.map_eq_some_iff.mp hk2
  cases hv2:acc.toList[i] with
  | str y t=>exact ⟨y,t,rfl⟩
  | _=>rw [hv2] at his;cases his
 have h1:=strsAre_map acc.toList h0
 have e2:acc.toList.map strOf=ss:=by
  apply List.ext_getElem?
  intro i
  rw [List.getElem?_map]
  by_cases hi:i < acc.size
  ·obtain ⟨k,x,hk,his⟩:=h.2 i acc[i] (Array.getElem?_eq_getElem hi)
   have hk2:(vs.map (·.1))[i]?=some k:=by rw [List.getElem?_map,hk];rfl
   rw [e,List.getElem?_map] at hk2
   obtain ⟨z,hz,rfl⟩:=Option.map_eq_some_iff.mp hk2
   obtain ⟨y,t,hy⟩:=h0 acc[i] (by simp)
   rw [hy] at his
   have:y=z:=by
    have q:jV (Sum.inr z) (.str y t)=true:=his
    have q2:=Uj y t
    have q3:=(qj P w).inj (.str y t) (Sum.inr z) (Sum.inr y) his (JZ P w y t)
    injection q3 with q3
    exact q3.symm
   rw [hz,Array.getElem?_toList,Array.getElem?_eq_getElem hi,hy,<- this]
   rfl
  ·have h1:=h.1
   rw [List.getElem?_eq_none (by simp;omega),List.getElem?_eq_none (by omega)]
   rfl
 rw [e2] at h1
 exact h1
theorem Ho {A:Around}{E:Value->Shared->Prop}{s:Shared}{vs:List Value}{ss:List Str}{Q:Value->Shared->Prop}{P:Program}{w:World}(hS:StrsAre vs ss)(h64:vs.length < 64)
  (h:∀ (h':Heap) (out:List Value) (ss':List Str) (e:Nat),(∀ b o,s.heap.get? b=some o->h'.get? b=some o)->h'.get? s.heap.objs.size=some (seqObj "list" out.toArray e)->StrsAre out ss'->ss'.Perm ss->sortedS ss'=true->Q (.ref s.heap.objs.size) { s with heap:=h' }) :
  wpAny (model P w) A (newList vs >>= fun l=>holding [l] (call (.builtin "list.sort") [l]) >>= fun _=>pure l) Q E s:=by
 refine wpAny_bind (wpAny_newList ?_)
 have ho:(s.heap.push (seqObj "list" vs.toArray 0)).get? s.heap.objs.size=some (seqObj "list" vs.toArray 0):=Heap.get?_push_size _ rfl
 refine wpAny_bind (wpAny_holding (wpAny_call_entry slot_list_sort (s:={ s with heap:=s.heap.push (seqObj "list" vs.toArray 0) }) ⟨_,ho,rfl⟩ entry_list_sort
  (list_sort_treeK strKind_oneLt (s:={ s with heap:=s.heap.push (seqObj "list" vs.toArray 0) }) ho hS.keysOf (fun v1 v2 rest e=>keyKind_strs (by rw [<- e];exact hS)) h64 fun st p1 p2=>⟨_,rfl,?_⟩) (args_list_sort _)))
 obtain ⟨ss',a1,a2,a3⟩:=sorted_out_str hS p1 p2
 obtain ⟨e,he⟩:=sortedHeap_at (out:=(arrOf st).map (·.2)) ho
 refine wpAny_pure (h _ _ ss' e (fun b o hb=>?_) (by rw [Array.toArray_toList];exact he) a1 a2 a3)
 have hlt:=Heap.lt_size hb
 rw [sortedHeap_old (Nat.ne_of_lt hlt) (by rw [Heap.size_push];exact Nat.lt_succ_of_lt hlt)]
 exact Heap.get?_push_of_some _ hb
theorem Ng {A:Around}{E:Value->Shared->Prop}{s:Shared}{vs:List Value}{ss:List Str}{Q:Value->Shared->Prop}{P:Program}{w:World}(hS:StrsAre vs ss)(h64:vs.length < 64)
  (h:∀ (h':Heap) (out:List Value) (ss':List Str) (e:Nat),(∀ b o,s.heap.get? b=some o->h'.get? b=some o)->h'.get? s.heap.objs.size=some (seqObj "list" out.toArray e)->StrsAre out ss'->ss'.Perm ss->sortedS ss'=true->Q (.ref s.heap.objs.size) { s with heap:=h' }) :
  wpAny (model P w) A (newList vs >>= fun l=>holding [l] (call (.builtin "list.sort") [l] []) >>= fun _=>ret l) (fun fin s'=>∃ v,fin=PySem.Fin.done (.ret v)/\Q v s') E s:=by
 refine wpAny_bind (wpAny_newList ?_)
 have ho:(s.heap.push (seqObj "list" vs.toArray 0)).get? s.heap.objs.size=some (seqObj "list" vs.toArray 0):=Heap.get?_push_size _ rfl
 refine wpAny_bind (wpAny_holding (wpAny_call_entry slot_list_sort (s:={ s with heap:=s.heap.push (seqObj "list" vs.toArray 0) }) ⟨_,ho,rfl⟩ entry_list_sort
  (list_sort_treeK strKind_oneLt (s:={ s with heap:=s.heap.push (seqObj "list" vs.toArray 0) }) ho hS.keysOf (fun v1 v2 rest e=>keyKind_strs (by rw [<- e];exact hS)) h64 fun st p1 p2=>⟨_,rfl,?_⟩) (args_list_sort _)))
 obtain ⟨ss',a1,a2,a3⟩:=sorted_out_str hS p1 p2
 obtain ⟨e,he⟩:=sortedHeap_at (out:=(arrOf st).map (·.2)) ho
 refine wpAny_pure ⟨_,rfl,h _ _ ss' e (fun b o hb=>?_) (by rw [Array.toArray_toList];exact he) a1 a2 a3⟩
 have hlt:=Heap.lt_size hb
 rw [sortedHeap_old (Nat.ne_of_lt hlt) (by rw [Heap.size_push];exact Nat.lt_succ_of_lt hlt)]
 exact Heap.get?_push_of_some _ hb
theorem BC {K:Fg}(hc:X.calm=true)(hK:X.K=K):CallR X (.builtin "sorted") (Gr K):=by
 subst hK
 intro pins s σ H xs us Q I r h
 obtain ⟨a,ss,rfl,hq,h64,q⟩:=h
 obtain ⟨u,rfl,ru⟩:=zx r
 obtain rfl:u=Value.ref a:=ru
 rcases hq with hq | ⟨kvs,hq,hk⟩
 ·obtain ⟨its,rv,p,hz⟩:=I.list hq
  have hS:=GX rv
  have hl:its.length=ss.length:=by have e:=rv.length;rw [List.length_map] at e;exact e.symm
  refine sorted_strs p.isList hS (by omega) fun out ss' a1 a2 a3=>?_
  obtain ⟨e,he⟩:=sortedAll_at s.heap its out
  refine ⟨.ref _,_,I.laid (t':=s.toks) (o:= .lst (ss'.map V.str)) (fun b o hb=>sortedAll_old hb) (Nat.le_succ _) ?_,rfl,q _ ss' (I.hok.fresh (Nat.le_succ _)) a2 (GS a3)⟩
  exact ⟨by rw [List.length_map,a2.length_eq];exact Nat.le_of_lt (QQ (by omega)),out.toList,e,VM a1,by simpa [seqObj] using he⟩
 ·obtain ⟨z,hd,vs,rel,dd⟩:=vT I.hok hq
  obtain ⟨ep,hat⟩:=dd.dictAt
  have ek:=Cp rel hk
  have hvl:vs.length=ss.length:=by have:=congrArg List.length ek;rwa [List.length_map,List.length_map] at this
  refine Calls.call_function_entry (id := "sorted") kind_sorted plain_sorted entry_sorted (args_sorted1 _) ?_
  unfold Builtin.«sorted»;refine wpAny_bind (m:=checkCount "sorted" 1 1 _) (wpAny_pure ?_)
  refine wpAny_bind (PySem.W.kdu_collect (PySem.W.kdl_dict (knd:=qj X.prog X.w) (kvs:=vs) (ep:=ep) hd) (by simpa using I.ok.hd hc) hat (Nat.le_of_lt (QQ (by omega))) fun h1 tk acc k1 hacc=>?_)
  have hS:=Ca ek hacc
  have hal:acc.toList.length=ss.length:=by have:=hacc.1;simp;omega
  refine Ng (s:={ s with heap:=h1,toks:=tk }) hS (by omega) fun h' out ss' e k2 he a1 a2 a3=>?_
  have I1:Inv X pins σ H { s with heap:=h1,toks:=tk }:=I.kept (t':=tk) k1
  refine ⟨.ref _,_,I1.laid (t':=tk) (o:= .lst (ss'.map V.str)) k2 (Nat.le_refl _) ?_,rfl,q _ ss' (I1.hok.fresh (Nat.le_refl _)) a2 (GS a3)⟩
  exact ⟨by rw [List.length_map,a2.length_eq];exact Nat.le_of_lt (QQ (by omega)),out,e,VM a1,he⟩
end
end L2
namespace L2
open PySem PySem.Spec PySem.Calls
section
variable {P:Program}{w:World}{A:Around}{E:Value->Shared->Prop}
theorem CA:typeLookup (.type "list") "keys"=pure none:=am_miss_of_fast (by kernel_rfl)
theorem Cz:typeLookup (.type "list") "__getattr__"=pure none:=am_miss_of_fast (by kernel_rfl)
theorem Pi {hp:Heap}{g:Array GenState}{d:Drawn}{tk:Nat}{os:_}{a:Addr}{its:Array Value}{n:Nat}{u:Tok}{Q:PySem.Fin->Shared->Prop}(ho:hp.get? a=some { cls:= .type "list",data:= .seq its n }) (hh:A.handled=none)
  (h:∀ h' tk' e,Heap.NewAttrErr hp h' e (.ref a) "keys"->E (.ref e) ⟨h',g,d,tk',os⟩) :
  wpAny (model P w) A (Builtin.«object.__getattribute__» ⟨[.ref a,.str "keys" u],[]⟩) Q E ⟨hp,g,d,tk,os⟩:=by
 have hT:(⟨hp,g,d,tk,os⟩:Shared).TypeIs (.ref a) "list":=⟨_,ho,rfl⟩
 have f0:=CA
 unfold Builtin.«object.__getattribute__»
 (repeat (any_goals (first | assumption | wp_step)))
 exact wpAny_raiseAttrError (s:=⟨hp,g,d,tk,os⟩) hh h (attrMsg_fits (by decide +kernel) (by decide +kernel))
theorem Bb {s:Shared}{a:Addr}{its:Array Value}{n:Nat}{Q:Option Value->Shared->Prop}(ho:s.heap.get? a=some { cls:= .type "list",data:= .seq its n }) (hh:A.handled=none)
  (h:∀ h' tk,(∀ b o,s.heap.get? b=some o->h'.get? b=some o)->Q none { s with heap:=h',toks:=tk }):wpAny (model P w) A (getAttr? (.ref a) "keys") Q E s:=by
 obtain ⟨hp,g,d,tk,os⟩:=s
 have hT:∀ t',(⟨hp,g,d,t',os⟩:Shared).TypeIs (.ref a) "list":=fun _=>⟨_,ho,rfl⟩
 have f1:=sub_AttributeError
 have f2:=PySem.F.slot_list_getattribute.lookup
 have f3:=PySem.F.slot_list_getattribute.bind (.ref a)
 have f5:=Cz
 unfold getAttr? getAttrBy? getAttrBy
 (repeat (any_goals (first | assumption | exact hT _ | wp_step)))
 refine codeAny_call_builtin PySem.F.slot_list_getattribute.plain PySem.F.entry_list_ga (PySem.F.slot_list_getattribute.check _ _ _ _ _ _ _ _ (hT _) (PySem.F.args_list_getattribute_2 _ _) (Pi ho (by simpa using hh) fun h' tk' e hx=>?_))
 obtain ⟨t',u',he⟩:=hx.there
 have hk:=hx.keeps
 show wpAny _ _ (getattributeRaised _ _ _ _ _ _ _) _ _ _
 unfold getattributeRaised
 (repeat (any_goals (first | assumption | wp_step)))
 exact h _ _ hk
end
end L2
namespace L2
open PySem PySem.Spec PySem.Calls PyProof.Rows
section
variable {X:Cx}
def rIsB:R2:=fun x y H Q=>∃ b c,x = .bl b/\y = .bl c/\Q (.bl (decide (b=c))) H
theorem UK:OpR X (compareOp .Is) rIsB:=by
 intro pins s σ H x y v u Q I rx ry h
 obtain ⟨b,c,rfl,rfl,q⟩:=h
 cases rx
 cases ry
 refine wpAny_is_plain rfl (Xu I q ?_)
 cases b <;> cases c <;> rfl
end
end L2
namespace L2
open PySem PySem.Spec PySem.Calls PyProof.Rows
theorem Bl:bootBuiltins "set"=some (.type "set"):=by decide +kernel
end L2
namespace L2
open PySem PySem.Spec PySem.Calls PyProof.Rows
section
variable {P:Program}{w:World}{κ:Type}[DecidableEq κ]{knd:PySem.KeyKind P w κ}
theorem YF:entryFor table "dict.update.loop"=some Builtin.«dict.update.loop»:=entryFor_of_tree (by kernel_rfl)
theorem Zb:plainId "dict.update.loop"=true:=by decide +kernel
theorem BS {A:Around}{R:Result->Shared->Prop}{I:Addr}{fp wr:List Addr}{Pp:Nat->Value->Prop}{St:Nat->Heap->Prop}{more:List (κ × Value)}{lo:Addr}
  (W:Walks P w A.in1 I fp wr more.length Pp St) (d:Addr) (hdf:d ∉ fp) (hlo:lo<=d) (hwr:∀ b ∈ wr,lo<=b) (hsz:more.length<=sizeLine) :
  ∀ (m i:Nat) (z:Int) (tk:Tok) (s:Shared),more.length - i=m->i<=more.length->St i s.heap->s.heap.DictOf knd d (merged [] (more.take i)) ->
   (∀ j v kv,Pp j v->more[j]?=some kv->∃ t k,t < lo/\v = .ref t/\knd.is kv.1 k=true/\IsTup s.heap t #[k,kv.2]) ->
   (∀ h' tk',(∀ b o,b < lo->s.heap.get? b=some o->h'.get? b=some o)->h'.DictOf knd d (merged [] more)->R (.ok (.ret .none)) { s with heap:=h',toks:=tk' }) ->
   codeAny (model P w) A (.builtin "dict.update.loop" ⟨[.ref d,.ref I,.int z tk,.none],[]⟩) R s:=by
 have hdw:d ∉ wr:=fun q=>hdf (W.sub _ q)
 intro m
 induction m with
 | zero =>
  intro i z tk s hm hi st hd hp hR
  have hin:i=more.length:=by omega
  subst hin
  refine codeAny_builtin YF ?_
  rw [Around.under_plainId Zb _]
  show wpAny _ A.in1 (pyNext (.ref I) >>= _) _ _ s
  refine wpAny_bind (W.done s _ _ st fun h' tk' k=>?_)
  show wpAny _ A.in1 (Builtin.Dict.addKeywords d [] >>= _) _ _ _
  refine wpAny_bind (wpAny_pure ?_)
  refine wpAny_pure (hR h' tk' (fun b o hb e=>k b o (fun q=>absurd (hwr b q) (Nat.not_le.mpr hb)) e) ?_)
  rw [List.take_length] at hd
  obtain ⟨o,es,ep,ho,r⟩:=hd
  exact ⟨o,es,ep,k d o hdw ho,r⟩
 | succ m ih =>
  intro i z tk s hm hi st hd hp hR
  have hlt:i < more.length:=by omega
  refine codeAny_builtin YF ?_
  rw [Around.under_plainId Zb _]
  show wpAny _ A.in1 (pyNext (.ref I) >>= _) _ _ s
  refine wpAny_bind (W.item i s _ _ hlt st fun v h' tk' hPv st' k=>?_)
  obtain ⟨t,kk,ht,rfl,hk,o,ho,hc,n,hdt⟩:=hp i v more[i] hPv (List.getElem?_eq_getElem hlt)
  have ho':h'.get? t=some o:=k t o (fun q=>absurd (hwr t q) (Nat.not_le.mpr ht)) ho
  have hd':h'.DictOf knd d (merged [] (more.take i)):=by
   obtain ⟨o,es,ep,ho,r⟩:=hd
   exact ⟨o,es,ep,k d o hdw ho,r⟩
  have hT:Shared.TypeIs { s with heap:=h',toks:=tk' } (.ref t) "tuple":=⟨o,ho',hc⟩
  show wpAny _ A.in1 (holding [.ref t] _ >>= _) _ _ _
  refine wpAny_bind (wpAny_holding (wpAny_bind (wpAny_tryCatch ?_)))
  unfold Builtin.Dict.pairItems
  refine wpAny_bind (wpAny_typeOf hT ?_)
  rw [if_pos (by decide)]
  refine wpAny_bind (wpAny_seqItems ho' hdt (wpAny_pure ?_))
  show wpAny _ A.in1 (holding [kk,more[i].2] (dictSet d kk more[i].2)) _ _ _
  refine wpAny_holding (wpAny_dictSet_pairs (knd:=knd) hk hd' (fun h2 hd2 sb=>?_) ?_)
  ·rw [<- merged_take_succ [] more i more[i] (List.getElem?_eq_getElem hlt)] at hd2
   have keep2:∀ b o,b < lo->s.heap.get? b=some o->h2.get? b=some o:=fun b o hb e=>by
    rw [sb.2 b (Nat.ne_of_lt (Nat.lt_of_lt_of_le hb hlo))]
    exact k b o (fun q=>absurd (hwr b q) (Nat.not_le.mpr hb)) e
   refine wpAny_pure ⟨plainId_quiet Zb _,ih (i + 1) _ _ _ (by omega) hlt (W.frame _ _ _ st' fun b hb o e=>?_) hd2 (fun j v kv hv hj=>?_) fun h3 tk3 k3 hd3=>?_⟩
   ·rw [sb.2 b (fun q=>hdf (by rw [<- q];exact hb))];exact e
   ·obtain ⟨t,kk,ht,rfl,hk,o,ho,r⟩:=hp j v kv hv hj
    exact ⟨t,kk,ht,rfl,hk,o,keep2 t o ht ho,r⟩
   ·exact hR h3 tk3 (fun b o hb e=>k3 b o hb (keep2 b o hb e)) hd3
  ·have:=merged_length_le [] (more.take i)
   rw [List.length_take,List.length_nil] at this
   omega
theorem Br {A:Around}{E:Value->Shared->Prop}{s:Shared}{l:Addr}{its:Array Value}{n:Nat}{more:List (κ × Value)}{Q:Value->Shared->Prop}(hh:A.handled=none)(ho:s.heap.get? l=some { cls:= .type "list",data:= .seq its n }) (hlen:its.size=more.length) (hsz:more.length<=sizeLine)
  (hp:∀ (j:Nat) (v:Value) (kv:κ × Value),its[j]?=some v->more[j]?=some kv->∃ t k,v = .ref t/\knd.is kv.1 k=true/\IsTup s.heap t #[k,kv.2])
  (h:∀ h' tk',(∀ b o,s.heap.get? b=some o->h'.get? b=some o)->h'.DictOf knd s.heap.objs.size (merged [] more)->Q (.ref s.heap.objs.size) { s with heap:=h',toks:=tk' }) :
  wpAny (model P w) A (call (.type "dict") [.ref l]) Q E s:=by
 refine callType_codes (Q₁:=fun ob s1=>ob = .ref s.heap.objs.size/\s1={ s with heap:=s.heap.push { cls:= .type "dict",data:= .dict #[] } }) PySem.F.kt_called_dict (PySem.F.kt_typeCall_dict_1 _) PySem.F.entry_dict_init (kt_code_dict_new _ ⟨rfl,rfl⟩) ?_
 rintro ob s1 ⟨rfl,rfl⟩
 have hnew:(s.heap.push { cls:= .type "dict",data:= .dict #[] }).DictOf knd s.heap.objs.size []:=Heap.DictOf.new s.heap
 have ho':(s.heap.push { cls:= .type "dict",data:= .dict #[] }).get? l=some { cls:= .type "list",data:= .seq its n }:=Heap.get?_push_of_some _ ho
 have hTl:Shared.TypeIs { s with heap:=s.heap.push { cls:= .type "dict",data:= .dict #[] } } (.ref l) "list":=⟨_,ho',rfl⟩
 have hlt:l < s.heap.objs.size:=Heap.lt_size ho
 refine ⟨hnew.typeIs,PySem.F.args_dict_init_2 _ _,?_⟩
 unfold Builtin.«dict.__init__»
 refine wpAny_bind ?_
 unfold Builtin.Dict.selfAndRest
 refine wpAny_bind (wpAny_notOrdered_dict hnew.typeIs ?_)
 show wpAny _ _ (pure (s.heap.objs.size,[Value.ref l])) _ _ _
 refine wpAny_pure ?_
 show wpAny _ _ (Builtin.Dict.updateFrom "dict.__init__" s.heap.objs.size (.ref l) [] .none) _ _ _
 unfold Builtin.Dict.updateFrom
 refine wpAny_bind (wpAny_typeOf hTl ?_)
 rw [if_pos (by decide)]
 refine wpAny_bind (Bb ho' (by simpa using hh) fun h1 tk1 k1=>?_)
 rw [if_pos (show (none:Option Value).isNone=true from rfl)]
 refine wpAny_bind (wpAny_rule ?_)
 have ho1:=k1 _ _ ho'
 have hl1:h1.IsList l its:=⟨_,ho1,rfl,n,rfl⟩
 refine wpAny_bind (wpAny_pyIter_list (s:={ s with heap:=h1,toks:=tk1 }) hl1 ?_)
 have hd1:h1.DictOf knd s.heap.objs.size []:=by
  obtain ⟨o,es,ep,hq,r⟩:=hnew
  exact ⟨o,es,ep,k1 _ _ hq,r⟩
 have hdlt:s.heap.objs.size < h1.objs.size:=by obtain ⟨o,es,ep,hq,r⟩:=hd1;exact Heap.lt_size hq
 have hll:l < h1.objs.size:=Heap.lt_size ho1
 refine wpAny_pure ⟨plainId_quiet Zb _,?_⟩
 have W:=Walks.list (prog:=P) (w:=w) (A:=A.in1.in1) (by simpa using hh) h1.objs.size l (Nat.ne_of_lt hll) its
 rw [hlen] at W
 refine BS (knd:=knd) (lo:=s.heap.objs.size) W s.heap.objs.size ?_ (Nat.le_refl _) (fun b hb=>?_) hsz more.length 0 _ _ { s with heap:=h1.push { cls:= .type "list_iterator",data:= .fields #[.ref l,.int 0 0] },toks:=tk1 } (by omega) (Nat.zero_le _) ⟨⟨_,Heap.get?_push_size _ rfl,rfl,rfl⟩,hl1.push _⟩ ?_ (fun j v kv hv hj=>?_) fun h' tk' kp hd=>?_
 ·simp only [List.mem_cons,List.not_mem_nil,or_false,not_or];exact ⟨Nat.ne_of_lt hdlt,Nat.ne_of_gt hlt⟩
 ·rw [List.mem_singleton.mp hb];exact Nat.le_of_lt hdlt
 ·obtain ⟨o,es,ep,hq,r⟩:=hd1
  exact ⟨o,es,ep,Heap.get?_push_of_some _ hq,r⟩
 ·obtain ⟨t,k,rfl,hk,o,hto,r⟩:=hp j v kv hv hj
  exact ⟨t,k,Heap.lt_size hto,rfl,hk,o,Heap.get?_push_of_some _ (k1 _ _ (Heap.get?_push_of_some _ hto)),r⟩
 ·exact ⟨rfl,h h' tk' (fun b o e=>kp b o (Heap.lt_size e) (Heap.get?_push_of_some _ (k1 _ _ (Heap.get?_push_of_some _ e)))) hd⟩
end
section
variable {X:Cx}
theorem DY {pins:List (Addr × Obj)}{σ:St}{H:Hp}{s:Shared}(I:Inv X pins σ H s){ts:List Addr}{kvs:List (z7 × V)}(r:Paired (fun t (kv:z7 × V)=>H t=some (.tup [kV kv.1,kv.2])) ts kvs) :
  ∃ more:List (z7 × Value),KV kvs more/\∀ (j:Nat) (t:Addr) (m:z7 × Value),ts[j]?=some t->more[j]?=some m->∃ k,(qj X.prog X.w).is m.1 k=true/\IsTup s.heap t #[k,m.2]:=by
 induction r with
 | nil=>exact ⟨[],.nil,fun j t m h=>by simp at h⟩
 | @cons t kv ts kvs p _ ih =>
  obtain ⟨more,k1,k2⟩:=ih
  obtain ⟨_,its,rv,ht⟩:=(show ObjOk X.prog X.w H s.heap t (.tup [kV kv.1,kv.2]) from I.hok t _ p)
  cases rv with
  | cons p1 r1 =>
   cases r1 with
   | cons p2 r2 =>
    cases r2
    rename_i u1 u2
    refine ⟨(kv.1,u2)::more,.cons ⟨rfl,p2⟩ k1,fun j t' m h1 h2=>?_⟩
    cases j with
    | zero =>
     simp at h1 h2
     subst h1 h2
     exact ⟨u1,Ql p1,ht⟩
    | succ j=>exact k2 j t' m (by simpa using h1) (by simpa using h2)
theorem KD:∀ {ts:List Addr} {us:List Value},Vals (ts.map V.ref) us->us=ts.map Value.ref
 | [],_,.nil=>rfl
 | t::ts,_,.cons p r=>by
  obtain rfl:=(show _=Value.ref t from p)
  rw [KD r];rfl
theorem VR:∀ {kvs:List (z7 × V)} {vs:List (z7 × Value)},KV kvs vs->vs.map (·.1)=kvs.map (·.1)
 | [],_,.nil=>rfl
 | _::_,_,.cons p r=>by rw [List.map_cons,List.map_cons,VR r,p.1]
end
end L2
namespace L2
open PySem PySem.Spec PySem.Calls PyProof.Rows
theorem VQ:∀ {kvs:List (z7 × V)} {vs:List (z7 × Value)} {i:Nat} {k:z7} {x:V},KV kvs vs->kvs[i]?=some (k,x)->∃ u,vs[i]?=some (k,u)/\RelV x u
 | [],_,i,_,_,_,e=>by simp at e
 | _::_,_,0,k,x,.cons (b:=q) p _,e=>by
  simp at e
  subst e
  refine ⟨q.2,?_,p.2⟩
  have e1:k=q.1:=p.1
  rw [e1]
  rfl
 | _::_,_,i + 1,k,x,.cons _ r,e=>by
  obtain ⟨u,h1,h2⟩:=VQ (i:=i) (k:=k) (x:=x) r (by simpa using e)
  exact ⟨u,by simpa using h1,h2⟩
def Itv (a:Addr)(o:Obj)(kvs:List (z7 × V)):It :=
 ⟨fun i H=>H a=some (.frz o (.dK kvs))/\i < kvs.length,fun i H x H'=>H'=H/\∃ k,kvs[i]?=some (k,x),fun i H=>H a=some (.frz o (.dK kvs))/\kvs.length<=i⟩
theorem Xv {P:Program}{w:World}{H:Hp}{h:Heap}{a:Addr}{o:Obj}{es:Array DictEntry}{ep:Nat}{kvs:List (z7 × V)}(ok:HOk P w H h)(e:H a=some (.frz o (.dK kvs)))(hd:o.data = .dict es ep) :
  (a == sysModules)=false/\∃ vs,KV kvs vs/\h.DictAt (qj P w) a vs ep:=by
 obtain ⟨h1,h2,h3,vs,r,o',es',ep',h4,h5,h6,h7⟩:=(show ObjOk P w H h a (.frz o (.dK kvs)) from ok a _ e)
 rw [h1] at h4
 cases h4
 rw [hd] at h6
 cases h6
 exact ⟨h3,vs,r,o,es,h1,h5,hd,h7⟩
theorem Nw {P:Program}{w:World}{K:Fg}{tg:Expr}(a it:Addr){o:Obj}{es:Array DictEntry}{ep:Nat}(kvs:List (z7 × V))(hd:o.data = .dict es ep):zT P w K tg (Itv a o kvs) [it] it (fun i h=>h.IsValIter it a i kvs.length ep) where
 mem:=by simp
 obj:=fun i h st b hb=>by
  have e:b=it:=by simpa using hb
  subst e
  obtain ⟨o,e,c,d⟩:=st
  exact ⟨o,e,fun v z=>by rw [d] at z;cases z⟩
 keep:=fun i h h' st k=>by
  obtain ⟨o,e,c,d⟩:=st
  exact ⟨o,k it (by simp) o e,c,d⟩
 item:=by
  intro X hP hw hK hc i pins s σ H E I hf st hg
  subst hP hw hK
  obtain ⟨hq,hl⟩:=hg
  obtain ⟨_,vs,r,hm⟩:=Xv I.hok hq hd
  have lv:vs.length=kvs.length:=(KV.length r).symm
  obtain ⟨u,hu,ru⟩:=VQ (i:=i) (k:=kvs[i].1) (x:=kvs[i].2) r (List.getElem?_eq_getElem hl)
  obtain ⟨f0,f1,f2,f3,f4,f5⟩:=hf it (by simp)
  have st1:s.heap.IsValIter it a i vs.length ep:=by rw [lv];exact st
  refine wpAny_pyNext_values_item st1 hm hu fun h' st' sb=>?_
  have I1:Inv X pins σ H { s with heap:=h' }:=I.turned (t':=s.toks) (fun b o hb e=>(sb.2 b hb).trans e) f0 f1 f3 f4 f5
  rw [lv] at st'
  obtain ⟨o1,e1,c1,d1⟩:=id st'
  exact ⟨u,rfl,Xw (s:={ s with heap:=h' }) e1 c1 d1 (by decide) ⟨kvs[i].2,H,I1,ru,⟨rfl,kvs[i].1,List.getElem?_eq_getElem hl⟩,st',fun b hb=>(hf b hb).1⟩⟩
 done:=by
  intro X hP hw hK hc i pins s σ H E I hf st hg
  subst hP hw hK
  obtain ⟨hq,hl⟩:=hg
  obtain ⟨_,vs,r,hm⟩:=Xv I.hok hq hd
  have lv:vs.length=kvs.length:=(KV.length r).symm
  obtain ⟨f0,f1,f2,f3,f4,f5⟩:=hf it (by simp)
  have st1:s.heap.IsValIter it a i vs.length ep:=by rw [lv];exact st
  exact wpAny_pyNext_values_end (I.ok.hd hc) st1 hm (List.getElem?_eq_none (by omega)) fun h' eb=>⟨rfl,I.turned (t':=s.toks) (fun b o hb e=>eb b o hb e) f0 f1 f3 f4 f5⟩
 self:=fun _ _ _ _ _ st h=>wpAny_pyIter_valiter st h
section
variable {X:Cx}{tg:Expr}
def YZ (td:TE):TI:=fun σ H R=>td σ H fun x H1=>∃ a o kvs,x = .ref a/\H1 a=some (.frz o (.dK kvs))/\R (Itv a o kvs) H1
theorem Mr {d:Expr}{td:TE}{apos cpos:Pos}(ho:PE X d td)(hbase:attributeBase d "values" X.env (eval d X.env)=eval d X.env:=by rfl) (hline:(apos.endLine == cpos.line)=true:=by rfl) :
  PI X tg (.Call (.Attribute d "values" apos) [] [] cpos) (YZ td):=by
 intro pins s σ H R I h
 refine wpAny_Call_method0_late hbase hline (z8 (ho pins s σ H _ I h) fun v s1 ⟨x,H1,I1,r1,q1⟩=>?_)
 obtain ⟨a,o,kvs,e,hq,q⟩:=q1
 subst e
 cases r1
 obtain ⟨g1,g2,g3,ws,rw',o',es,ep,g4,g5,g6,g7⟩:=(show ObjOk X.prog X.w H1 s1.heap a (.frz o (.dK kvs)) from I1.hok a _ hq)
 rw [g1] at g4
 cases g4
 obtain ⟨hs,vs,r,hm⟩:=Xv I1.hok hq g6
 have lv:vs.length=kvs.length:=(KV.length r).symm
 refine ⟨"dict", "dict.values",PySem.F.plainAttrs_dict,PySem.F.slot_dict_values,PySem.F.type_dict_values,hm.dictOf.typeIs,fun b e=>?_,Calls.callWith_builtin rfl (PySem.evalArgs_none ?_)⟩
 ·cases e
  exact ⟨o,g1,g5.2.1⟩
 refine call_meetsIn PySem.F.slot_dict_values hm.dictOf.typeIs PySem.F.entry_dict_values (PySem.F.args_dict_values_1 _) (meets_dict_values (qj X.prog X.w) a hs) ⟨⟨vs,hm.dictOf⟩,?_⟩
 have I2:Inv X pins σ H1 { s1 with heap:=s1.heap.push { cls:= .type "dict_values",data:= .fields #[.ref a] } }:=I1.kept (t':=s1.toks) fun b o e=>Heap.get?_push_of_some _ e
 obtain ⟨_,vs2,r2,hm2⟩:=Xv I2.hok hq g6
 have lv2:vs2.length=kvs.length:=(KV.length r2).symm
 refine wpAny_pyIter_values (knd:=qj X.prog X.w) (kvs:=vs2) ⟨_,Heap.get?_push_size _ rfl,rfl,rfl⟩ hm2 ?_
 refine ⟨_,[_],_,Itv a o kvs,H1,rfl,I2.kept (t':=s1.toks) fun b o e=>Heap.get?_push_of_some _ e,Nw a _ kvs g6,⟨_,Heap.get?_push_size _ rfl,rfl,?_⟩,fun b hb=>?_,q⟩
 ·rw [lv2]
  rfl
 have e:b=(s1.heap.push { cls:= .type "dict_values",data:= .fields #[.ref a] }).objs.size:=by simpa using hb
 subst e
 exact I2.fpOk (Nat.le_refl _) (I2.hok.fresh (Nat.le_refl _))
def Gj:List V->Hp->VK->Prop:=fun xs H Q=>∃ (a:Addr) (ts:List Addr) (kvs:List (z7 × V)),xs=[.ref a]/\H a=some (.lst (ts.map V.ref))/\Paired (fun t (kv:z7 × V)=>H t=some (.tup [kV kv.1,kv.2])) ts kvs/\(kvs.map (·.1)).Nodup/\kvs.length<=1000 /\
  ∀ l o,H l=none->Q (.ref l) (j7 H l (.frz o (.dK kvs)))
theorem Jr {K:Fg}(hc:X.calm=true)(_:X.K=K):CallR X (.type "dict") Gj:=by
 intro pins s σ H xs us Q I r h
 obtain ⟨a,ts,kvs,rfl,hq,hp,hn,h1000,q⟩:=h
 obtain ⟨u,rfl,ru⟩:=zx r
 obtain rfl:u=Value.ref a:=ru
 obtain ⟨hz,its,n,rv,ho⟩:=(show ObjOk X.prog X.w H s.heap a (.lst (ts.map V.ref)) from I.hok a _ hq)
 have ei:=KD rv
 obtain ⟨more,k1,k2⟩:=DY I hp
 have lk:more.length=kvs.length:=k1.length.symm
 have lt:=hp.length
 have hsl:more.length<=sizeLine:=Nat.le_of_lt (QQ (by omega))
 refine Br (knd:=qj X.prog X.w) (more:=more) (I.ok.hd hc) ho (by rw [List.size_toArray,ei,List.length_map];omega) hsl (fun j v m hv hm=>?_) fun h' tk k hd=>?_
 ·have hv':its[j]?=some v:=by simpa using hv
  rw [ei,List.getElem?_map] at hv'
  obtain ⟨t,ht,rfl⟩:=Option.map_eq_some_iff.mp hv'
  obtain ⟨kk,x1,x2⟩:=k2 j t m ht hm
  exact ⟨t,kk,rfl,x1,x2⟩
 ·rw [merged_nil_of_nodup more (by rw [VR k1];exact hn)] at hd
  obtain ⟨o,es,ep,ho',_⟩:=id hd
  refine ⟨.ref s.heap.objs.size,_,I.laid (t':=tk) (o:= .frz o (.dK kvs)) k (Nat.le_refl _) ⟨ho',YD (by omega) (beq_eq_false_iff_ne.mpr (Ne.symm (Nat.ne_of_lt I.big))) k1 hd⟩,rfl,q _ _ (I.hok.fresh (Nat.le_refl _))⟩
end
end L2
namespace Mi
open PySem L2
inductive PV where
 | at (v:V) | tup (xs:List PV) | lst (xs:List PV) | dk (ks:List z7) (xs:List PV) | fk (ks:List z7) (xs:List PV) | ob (C:Addr) (ns:List Str) (xs:List PV) | op (φ:Hp->V->Prop)
mutual
def Rep (H:Hp):PV->V->Prop
 | .at u,v=>v=u
 | .tup xs,v=>∃ a vs,v = .ref a/\H a=some (.tup vs)/\Reps H xs vs
 | .lst xs,v=>∃ a vs,v = .ref a/\H a=some (.lst vs)/\Reps H xs vs
 | .dk ks xs,v=>∃ a kvs,v = .ref a/\H a=some (.dK kvs)/\kvs.map (·.1)=ks/\Reps H xs (kvs.map (·.2))
 | .fk ks xs,v=>∃ a o kvs,v = .ref a/\H a=some (.frz o (.dK kvs))/\kvs.map (·.1)=ks/\Reps H xs (kvs.map (·.2))
 | .ob C ns xs,v=>∃ a dx fs,v = .ref a/\H a=some (.ins C dx fs)/\fs.map (·.1)=ns/\Reps H xs (fs.map (·.2))
 | .op φ,v=>∃ H',Same H' H/\φ H' v
def Reps (H:Hp):List PV->List V->Prop
 | [],vs=>vs=[]
 | x::xs,vs=>∃ v r,vs=v::r/\Rep H x v/\Reps H xs r
end
mutual
theorem Rep.mono {H H':Hp}(g:Same H H'):∀ {x:PV} {v:V},Rep H x v->Rep H' x v
 | .at u,v,h=>by unfold Rep at h ⊢;exact h
 | .tup xs,v,h=>by unfold Rep at h ⊢;obtain ⟨a,vs,e,p,r⟩:=h;exact ⟨a,vs,e,g _ _ p,Reps.mono g r⟩
 | .lst xs,v,h=>by unfold Rep at h ⊢;obtain ⟨a,vs,e,p,r⟩:=h;exact ⟨a,vs,e,g _ _ p,Reps.mono g r⟩
 | .dk ks xs,v,h=>by unfold Rep at h ⊢;obtain ⟨a,vs,e,p,q,r⟩:=h;exact ⟨a,vs,e,g _ _ p,q,Reps.mono g r⟩
 | .fk ks xs,v,h=>by unfold Rep at h ⊢;obtain ⟨a,o,vs,e,p,q,r⟩:=h;exact ⟨a,o,vs,e,g _ _ p,q,Reps.mono g r⟩
 | .ob C ns xs,v,h=>by unfold Rep at h ⊢;obtain ⟨a,dx,vs,e,p,q,r⟩:=h;exact ⟨a,dx,vs,e,g _ _ p,q,Reps.mono g r⟩
 | .op φ,v,h=>by unfold Rep at h ⊢;obtain ⟨H1,s,p⟩:=h;exact ⟨H1,s.trans g,p⟩
theorem Reps.mono {H H':Hp}(g:Same H H'):∀ {xs:List PV} {vs:List V},Reps H xs vs->Reps H' xs vs
 | [],vs,h=>by unfold Reps at h ⊢;exact h
 | x::xs,vs,h=>by unfold Reps at h ⊢;obtain ⟨v,r,e,p,q⟩:=h;exact ⟨v,r,e,Rep.mono g p,Reps.mono g q⟩
end
theorem rep_at {H:Hp}{u v:V}:Rep H (.at u) v ↔ v=u:=by unfold Rep;exact Iff.rfl
theorem rep_tup {H:Hp}{xs:List PV}{v:V}:Rep H (.tup xs) v ↔ ∃ a vs,v = .ref a/\H a=some (.tup vs)/\Reps H xs vs:=by unfold Rep;exact Iff.rfl
theorem rep_lst {H:Hp}{xs:List PV}{v:V}:Rep H (.lst xs) v ↔ ∃ a vs,v = .ref a/\H a=some (.lst vs)/\Reps H xs vs:=by unfold Rep;exact Iff.rfl
theorem rep_dk {H:Hp}{ks:List z7}{xs:List PV}{v:V}:Rep H (.dk ks xs) v ↔ ∃ a kvs,v = .ref a/\H a=some (.dK kvs)/\kvs.map (·.1)=ks/\Reps H xs (kvs.map (·.2)):=by unfold Rep;exact Iff.rfl
theorem rep_fk {H:Hp}{ks:List z7}{xs:List PV}{v:V}:Rep H (.fk ks xs) v ↔ ∃ a o kvs,v = .ref a/\H a=some (.frz o (.dK kvs))/\kvs.map (·.1)=ks/\Reps H xs (kvs.map (·.2)):=by unfold Rep;exact Iff.rfl
theorem rep_ob {H:Hp}{C:Addr}{ns:List Str}{xs:List PV}{v:V}:Rep H (.ob C ns xs) v ↔ ∃ a dx fs,v = .ref a/\H a=some (.ins C dx fs)/\fs.map (·.1)=ns/\Reps H xs (fs.map (·.2)):=by unfold Rep;exact Iff.rfl
theorem rep_op {H:Hp}{φ:Hp->V->Prop}{v:V}:Rep H (.op φ) v ↔ ∃ H',Same H' H/\φ H' v:=by unfold Rep;exact Iff.rfl
theorem reps_nil {H:Hp}{vs:List V}:Reps H [] vs ↔ vs=[]:=by unfold Reps;exact Iff.rfl
theorem reps_cons {H:Hp}{x:PV}{xs:List PV}{vs:List V}:Reps H (x::xs) vs ↔ ∃ v r,vs=v::r/\Rep H x v/\Reps H xs r:=by
 constructor
 ·intro h;unfold Reps at h;exact h
 ·intro h;unfold Reps;exact h
theorem Reps.nil {H:Hp}:Reps H [] []:=reps_nil.mpr rfl
theorem Reps.cons {H:Hp}{x:PV}{v:V}{xs:List PV}{vs:List V}(p:Rep H x v)(q:Reps H xs vs):Reps H (x::xs) (v::vs):=reps_cons.mpr ⟨v,vs,rfl,p,q⟩
theorem Reps.length {H:Hp}:∀ {xs:List PV} {vs:List V},Reps H xs vs->vs.length=xs.length
 | [],vs,h=>by rw [reps_nil.mp h];rfl
 | x::xs,vs,h=>by obtain ⟨v,r,rfl,_,q⟩:=reps_cons.mp h;rw [List.length_cons,List.length_cons,Reps.length q]
theorem Reps.append {H:Hp}:∀ {xs ys:List PV} {vs ws:List V},Reps H xs vs->Reps H ys ws->Reps H (xs++ys) (vs++ws)
 | [],ys,vs,ws,h,k=>by rw [reps_nil.mp h];exact k
 | x::xs,ys,vs,ws,h,k=>by obtain ⟨v,r,rfl,p,q⟩:=reps_cons.mp h;exact .cons p (Reps.append q k)
theorem Reps.one {H:Hp}{x:PV}{v:V}(p:Rep H x v):Reps H [x] [v]:= .cons p .nil
theorem Reps.get {H:Hp}:∀ {xs:List PV} {vs:List V} {i:Nat} {x:PV},Reps H xs vs->xs[i]?=some x->∃ v,vs[i]?=some v/\Rep H x v
 | [],_,i,x,_,e=>by simp at e
 | y::xs,vs,0,x,h,e=>by
  obtain ⟨v,r,rfl,p,q⟩:=reps_cons.mp h
  simp at e;subst e
  exact ⟨v,rfl,p⟩
 | y::xs,vs,i + 1,x,h,e=>by
  obtain ⟨v,r,rfl,p,q⟩:=reps_cons.mp h
  obtain ⟨w,e1,e2⟩:=Reps.get (i:=i) (x:=x) q (by simpa using e)
  exact ⟨w,by simpa using e1,e2⟩
theorem Reps.take {H:Hp}:∀ (n:Nat) {xs:List PV} {vs:List V},Reps H xs vs->Reps H (xs.take n) (vs.take n)
 | 0,_,_,_=>by rw [List.take_zero,List.take_zero];exact .nil
 | n + 1,[],vs,h=>by rw [reps_nil.mp h];exact .nil
 | n + 1,x::xs,vs,h=>by
  obtain ⟨v,r,rfl,p,q⟩:=reps_cons.mp h
  exact .cons p (Reps.take n q)
theorem Reps.drop {H:Hp}:∀ (n:Nat) {xs:List PV} {vs:List V},Reps H xs vs->Reps H (xs.drop n) (vs.drop n)
 | 0,_,_,h=>h
 | n + 1,[],vs,h=>by rw [reps_nil.mp h];exact .nil
 | n + 1,x::xs,vs,h=>by
  obtain ⟨v,r,rfl,p,q⟩:=reps_cons.mp h
  exact Reps.drop n q
theorem Reps.set {H:Hp}{y:PV}{w:V}(r:Rep H y w):∀ (i:Nat) {xs:List PV} {vs:List V},Reps H xs vs->Reps H (xs.set i y) (vs.set i w)
 | _,[],vs,h=>by rw [reps_nil.mp h];exact .nil
 | 0,x::xs,vs,h=>by
  obtain ⟨v,r',rfl,p,q⟩:=reps_cons.mp h
  exact .cons r q
 | i + 1,x::xs,vs,h=>by
  obtain ⟨v,r',rfl,p,q⟩:=reps_cons.mp h
  exact .cons p (Reps.set r i q)
theorem Reps.ats {H:Hp}:∀ {us vs:List V},Reps H (us.map .at) vs->vs=us
 | [],vs,h=>reps_nil.mp h
 | u::us,vs,h=>by
  obtain ⟨v,r,rfl,p,q⟩:=reps_cons.mp h
  rw [rep_at.mp p,Reps.ats q]
theorem Reps.ofAts {H:Hp}:∀ (us:List V),Reps H (us.map .at) us
 | []=> .nil
 | u::us=> .cons (rep_at.mpr rfl) (Reps.ofAts us)

structure Ext (Hs H Hs' H':Hp):Prop where
 s1:Same Hs Hs'
 s2:Same H H'
 s3:Same Hs' H'
 s4:∀ b,H b ≠ none->Hs b=none->Hs' b=none
theorem GP {H H':Hp}(g:Same H H'){b:Addr}(h:H b ≠ none):H' b ≠ none:=fun z=>h (g.free z)
theorem Ext.refl {Hs H:Hp}(s:Same Hs H):Ext Hs H Hs H:=⟨.refl _,.refl _,s,fun _ _ z=>z⟩
theorem Ext.trans {A B A1 B1 A2 B2:Hp}(x:Ext A B A1 B1)(y:Ext A1 B1 A2 B2):Ext A B A2 B2:=⟨x.s1.trans y.s1,x.s2.trans y.s2,y.s3,fun b h z=>y.s4 b (GP x.s2 h) (x.s4 b h z)⟩
theorem Ext.new {Hs H:Hp}(s:Same Hs H){p:Addr}{o:HO}(h:H p=none):Ext Hs H (j7 Hs p o) (j7 H p o):=by
 have hs:Hs p=none:=s.free h
 refine ⟨fun b u e=>?_,fun b u e=>?_,fun b u e=>?_,fun b e z=>?_⟩
 ·rw [j3 (y7 e hs)];exact e
 ·rw [j3 (y7 e h)];exact e
 ·by_cases hb:b=p
  ·subst hb;rw [y4] at e ⊢;exact e
  ·rw [j3 hb] at e ⊢;exact s _ _ e
 ·have hb:b ≠ p:=fun q=>e (by rw [q];exact h)
  rw [j3 hb];exact z
theorem Ext.newO {Hs H:Hp}(s:Same Hs H){p:Addr}{o:HO}(h:H p=none):Ext Hs H Hs (j7 H p o) :=
 ⟨.refl _,fun b u e=>by rw [j3 (y7 e h)];exact e,fun b u e=>by rw [j3 (y7 (s _ _ e) h)];exact s _ _ e,fun _ _ z=>z⟩
def Top (Hs H:Hp)(a:Addr):PV->Prop
 | .lst xs=>∃ vs,H a=some (.lst vs)/\Reps Hs xs vs
 | .dk ks xs=>∃ kvs,H a=some (.dK kvs)/\kvs.map (·.1)=ks/\Reps Hs xs (kvs.map (·.2))
 | .ob C ns xs=>∃ dx fs,H a=some (.ins C dx fs)/\fs.map (·.1)=ns/\Reps Hs xs (fs.map (·.2))
 | _=>False
theorem Top.there {Hs H:Hp}{a:Addr}:∀ {x:PV},Top Hs H a x->H a ≠ none
 | .lst _,h,z=>by obtain ⟨vs,e,_⟩:=h;rw [e] at z;cases z
 | .dk _ _,h,z=>by obtain ⟨vs,e,_⟩:=h;rw [e] at z;cases z
 | .ob _ _ _,h,z=>by obtain ⟨dx,vs,e,_⟩:=h;rw [e] at z;cases z
theorem Top.mono {Hs H Hs' H':Hp}{a:Addr}(g:Same Hs Hs')(e:∀ o,H a=some o->H' a=some o):∀ {x:PV},Top Hs H a x->Top Hs' H' a x
 | .lst _,h=>by obtain ⟨vs,q,r⟩:=h;exact ⟨vs,e _ q,r.mono g⟩
 | .dk _ _,h=>by obtain ⟨vs,q,k,r⟩:=h;exact ⟨vs,e _ q,k,r.mono g⟩
 | .ob _ _ _,h=>by obtain ⟨dx,vs,q,k,r⟩:=h;exact ⟨dx,vs,e _ q,k,r.mono g⟩
theorem Top.rep {Hs H:Hp}{a:Addr}:∀ {x:PV},Top Hs H a x->Hs a=none->∃ o,H a=some o/\Rep (j7 Hs a o) x (.ref a)
 | .lst _,h,n=>by
  obtain ⟨vs,q,r⟩:=h
  exact ⟨_,q,rep_lst.mpr ⟨a,vs,rfl,y4,r.mono fun b u e=>by rw [j3 (y7 e n)];exact e⟩⟩
 | .dk _ _,h,n=>by
  obtain ⟨vs,q,k,r⟩:=h
  exact ⟨_,q,rep_dk.mpr ⟨a,vs,rfl,y4,k,r.mono fun b u e=>by rw [j3 (y7 e n)];exact e⟩⟩
 | .ob _ _ _,h,n=>by
  obtain ⟨dx,vs,q,k,r⟩:=h
  exact ⟨_,q,rep_ob.mpr ⟨a,dx,vs,rfl,y4,k,r.mono fun b u e=>by rw [j3 (y7 e n)];exact e⟩⟩
theorem Ext.share {Hs H Hs' H':Hp}{a:Addr}{o:HO}(x:Ext Hs H Hs' H')(h:H a=none)(n:Hs' a=none)(e:H' a=some o):Ext Hs H (j7 Hs' a o) H':=by
 refine ⟨fun b u q=>?_,x.s2,fun b u q=>?_,fun b q z=>?_⟩
 ·rw [j3 (y7 (x.s1 _ _ q) n)];exact x.s1 _ _ q
 ·by_cases hb:b=a
  ·subst hb;rw [y4] at q;cases q;exact e
  ·rw [j3 hb] at q;exact x.s3 _ _ q
 ·have hb:b ≠ a:=fun r=>q (by rw [r];exact h)
  rw [j3 hb];exact x.s4 b q z
def RepB (Hs H:Hp)(x:PV)(v:V):Prop:=Rep Hs x v ∨ ∃ a,v = .ref a/\Hs a=none/\Top Hs H a x
theorem RepB.ext {Hs H Hs' H':Hp}{x:PV}{v:V}(e:Ext Hs H Hs' H')(h:RepB Hs H x v):RepB Hs' H' x v:=by
 rcases h with h | ⟨a,rfl,n,t⟩
 ·exact .inl (h.mono e.s1)
 ·exact .inr ⟨a,rfl,e.s4 a t.there n,t.mono e.s1 fun o q=>e.s2 _ _ q⟩

inductive MSlot where
 | no | sh (x:PV) | ow (x:PV) | bo (x:PV)
abbrev ME:=List MSlot
def Own (H0 Hs H:Hp)(a:Addr)(x:PV):Prop:=H0 a=none/\Hs a=none/\Top Hs H a x
structure RS (Hs0 H0 Hs H:Hp)(σ:St)(ε:ME):Prop where
 ext:Ext Hs0 H0 Hs H
 sh:∀ (i:Nat) (x:PV),ε[i]?=some (.sh x)->∃ v,σ[i]?=some (some v)/\Rep Hs x v
 ow:∀ (i:Nat) (x:PV),ε[i]?=some (.ow x)->∃ a,σ[i]?=some (some (.ref a))/\Own H0 Hs H a x
 nd:∀ (i j:Nat) (x y:PV) (a:Addr),ε[i]?=some (.ow x)->ε[j]?=some (.ow y)->σ[i]?=some (some (.ref a))->σ[j]?=some (some (.ref a))->i=j
 len:σ.length=ε.length
 bo:∀ (i:Nat) (x:PV),ε[i]?=some (.bo x)->∃ v,σ[i]?=some (some v)/\(Rep Hs x v ∨ ∃ a,v = .ref a/\H0 a ≠ none/\Hs a=none/\Top Hs H a x)
section
variable {Hs0 H0 Hs H Hs' H':Hp}{σ:St}{ε:ME}
theorem RS.go (r:RS Hs0 H0 Hs H σ ε)(e:Ext Hs H Hs' H'):RS Hs0 H0 Hs' H' σ ε where
 ext:=r.ext.trans e
 sh:=fun i x q=>by obtain ⟨v,a,b⟩:=r.sh i x q;exact ⟨v,a,b.mono e.s1⟩
 ow:=fun i x q=>by
  obtain ⟨a,b,n0,n,t⟩:=r.ow i x q
  exact ⟨a,b,n0,e.s4 a t.there n,t.mono e.s1 fun o z=>e.s2 _ _ z⟩
 nd:=r.nd
 len:=r.len
 bo:=fun i x q=>by
  obtain ⟨v,b,h | ⟨a,rfl,n0,n,t⟩⟩:=r.bo i x q
  ·exact ⟨v,b,.inl (h.mono e.s1)⟩
  ·exact ⟨_,b,.inr ⟨a,rfl,n0,e.s4 a t.there n,t.mono e.s1 fun o z=>e.s2 _ _ z⟩⟩
theorem RS.sub (r:RS Hs0 H0 Hs H σ ε):Same Hs H:=r.ext.s3
theorem RS.rebase (r:RS Hs0 H0 Hs H σ ε):RS Hs H0 Hs H σ ε:=⟨⟨.refl _,r.ext.s2,r.ext.s3,fun _ _ z=>z⟩,r.sh,r.ow,r.nd,r.len,r.bo⟩
theorem Ext.unbase {Hb:Hp}(r:Ext Hs0 H0 Hb H)(e:Ext Hb H0 Hs' H'):Ext Hs0 H0 Hs' H':=⟨r.s1.trans e.s1,e.s2,e.s3,fun b h z=>e.s4 b h (r.s4 b h z)⟩
theorem RS.unbase {Hb:Hp}{σ':St}{ε':ME}(r:Ext Hs0 H0 Hb H)(e:RS Hb H0 Hs' H' σ' ε'):RS Hs0 H0 Hs' H' σ' ε':=⟨r.unbase e.ext,e.sh,e.ow,e.nd,e.len,e.bo⟩
theorem RS.put (r:RS Hs0 H0 Hs H σ ε){i:Nat}{x:PV}{v:V}(h:Rep Hs x v):RS Hs0 H0 Hs H (σ.set i (some v)) (ε.set i (.sh x)) where
 ext:=r.ext
 sh:=fun j y q=>by
  rw [List.getElem?_set] at q ⊢
  split at q
  ·rename_i hij
   split at q
   ·rename_i hl
    injection q with q;injection q with q;subst q
    rw [if_pos hij,if_pos (by rw [r.len,hij];rw [hij] at hl;exact hl)]
    exact ⟨v,rfl,h⟩
   ·cases q
  ·rename_i hij
   rw [if_neg hij]
   exact r.sh j y q
 ow:=fun j y q=>by
  rw [List.getElem?_set] at q ⊢
  split at q
  ·split at q <;> cases q
  ·rename_i hij
   rw [if_neg hij]
   exact r.ow j y q
 nd:=fun j k x y a h1 h2 h3 h4=>by
  rw [List.getElem?_set] at h1 h2 h3 h4
  split at h1
  ·split at h1 <;> cases h1
  ·rename_i hj
   rw [if_neg hj] at h3
   split at h2
   ·split at h2 <;> cases h2
   ·rename_i hk
    rw [if_neg hk] at h4
    exact r.nd j k x y a h1 h2 h3 h4
 len:=by rw [List.length_set,List.length_set,r.len]
 bo:=fun j y q=>by
  rw [List.getElem?_set] at q ⊢
  split at q
  ·split at q <;> cases q
  ·rename_i hij
   rw [if_neg hij]
   exact r.bo j y q
theorem RS.putO (r:RS Hs0 H0 Hs H σ ε){i:Nat}{x:PV}{a:Addr}(h:Own H0 Hs H a x)(ne:∀ (j:Nat) (y:PV),ε[j]?=some (.ow y)->σ[j]? ≠ some (some (.ref a))):RS Hs0 H0 Hs H (σ.set i (some (.ref a))) (ε.set i (.ow x)) where
 ext:=r.ext
 sh:=fun j y q=>by
  rw [List.getElem?_set] at q ⊢
  split at q
  ·split at q <;> cases q
  ·rename_i hij
   rw [if_neg hij]
   exact r.sh j y q
 ow:=fun j y q=>by
  rw [List.getElem?_set] at q ⊢
  split at q
  ·rename_i hij
   split at q
   ·rename_i hl
    injection q with q;injection q with q;subst q
    rw [if_pos hij,if_pos (by rw [r.len,hij];rw [hij] at hl;exact hl)]
    exact ⟨a,rfl,h⟩
   ·cases q
  ·rename_i hij
   rw [if_neg hij]
   exact r.ow j y q
 nd:=fun j k x' y b h1 h2 h3 h4=>by
  rw [List.getElem?_set] at h1 h2 h3 h4
  split at h1
  ·rename_i hj
   rw [if_pos hj] at h3
   split at h1
   ·rename_i hl
    rw [if_pos (by rw [r.len];exact hl)] at h3
    injection h3 with h3;injection h3 with h3;injection h3 with h3;subst h3
    split at h2
    ·rename_i hk;exact hj.symm.trans hk
    ·rename_i hk
     rw [if_neg hk] at h4
     exact absurd h4 (ne k y h2)
   ·cases h1
  ·rename_i hj
   rw [if_neg hj] at h3
   split at h2
   ·rename_i hk
    rw [if_pos hk] at h4
    split at h2
    ·rename_i hl
     rw [if_pos (by rw [r.len];exact hl)] at h4
     injection h4 with h4;injection h4 with h4;injection h4 with h4;subst h4
     exact absurd h3 (ne j x' h1)
    ·cases h2
   ·rename_i hk
    rw [if_neg hk] at h4
    exact r.nd j k x' y b h1 h2 h3 h4
 len:=by rw [List.length_set,List.length_set,r.len]
 bo:=fun j y q=>by
  rw [List.getElem?_set] at q ⊢
  split at q
  ·split at q <;> cases q
  ·rename_i hij
   rw [if_neg hij]
   exact r.bo j y q
theorem RS.change (r:RS Hs0 H0 Hs H σ ε){i:Nat}{x y:PV}{a:Addr}{o:HO}(hi:ε[i]?=some (.ow x))(ha:σ[i]?=some (some (.ref a)))(t:Top Hs (j7 H a o) a y):RS Hs0 H0 Hs (j7 H a o) σ (ε.set i (.ow y)):=by
 obtain ⟨b,hb,n0,n,tx⟩:=r.ow i x hi
 rw [ha] at hb
 injection hb with hb;injection hb with hb;injection hb with hb
 subst hb
 refine ⟨⟨r.ext.s1,fun b u e=>?_,fun b u e=>?_,r.ext.s4⟩,fun j z q=>?_,fun j z q=>?_,fun j k z z' c h1 h2 h3 h4=>?_,by rw [List.length_set,r.len],fun j z q=>?_⟩
 ·rw [j3 (y7 e n0)];exact r.ext.s2 _ _ e
 ·rw [j3 (y7 e n)];exact r.ext.s3 _ _ e
 ·rw [List.getElem?_set] at q
  split at q
  ·split at q <;> cases q
  ·exact r.sh j z q
 ·rw [List.getElem?_set] at q
  split at q
  ·rename_i hij
   split at q
   ·injection q with q;injection q with q;subst q
    exact ⟨a,hij ▸ ha,n0,n,t⟩
   ·cases q
  ·rename_i hij
   obtain ⟨c,hc,m0,m,tc⟩:=r.ow j z q
   have hne:c ≠ a:=fun e=>hij (r.nd i j x z a hi q ha (e ▸ hc))
   exact ⟨c,hc,m0,m,tc.mono (.refl _) fun o' e=>by rw [j3 hne];exact e⟩
 ·have down:∀ {m:Nat} {w:PV},(ε.set i (.ow y))[m]?=some (.ow w)->∃ w',ε[m]?=some (.ow w'):=by
   intro m w q
   rw [List.getElem?_set] at q
   split at q
   ·rename_i him;exact ⟨x,him ▸ hi⟩
   ·exact ⟨w,q⟩
  obtain ⟨w1,q1⟩:=down h1
  obtain ⟨w2,q2⟩:=down h2
  exact r.nd j k w1 w2 c q1 q2 h3 h4
 ·rw [List.getElem?_set] at q
  split at q
  ·split at q <;> cases q
  ·obtain ⟨v,hv,h | ⟨c,rfl,m0,m,tc⟩⟩:=r.bo j z q
   ·exact ⟨v,hv,.inl h⟩
   ·have hne:c ≠ a:=fun e=>m0 (e ▸ n0)
    exact ⟨_,hv,.inr ⟨c,rfl,m0,m,tc.mono (.refl _) fun o' e=>by rw [j3 hne];exact e⟩⟩
def fz (i:Nat)(ε:ME):ME:=match ε[i]? with
 | some (.ow x)=>ε.set i (.sh x)
 | _=>ε
end
theorem wv {ε:ME}{j:Nat}{s:MSlot}(h:∀ (i:Nat) (x:PV),ε[i]? ≠ some (.bo x))(hs:∀ x,s ≠ .bo x):∀ (i:Nat) (x:PV),(ε.set j s)[i]? ≠ some (.bo x):=fun i x q=>by
 rw [List.getElem?_set] at q
 split at q
 ·split at q
  ·injection q with q;exact hs x q
  ·cases q
 ·exact h i x q
abbrev M:=ME->Option PV
abbrev MB:=ME->Option Bool
abbrev MA:=ME->Option (List PV)
class SemE (te:TE)(f:M):Prop where
 h:∀ {ε y},f ε=some y->∀ {Hs0 H0 Hs H σ},RS Hs0 H0 Hs H σ ε->∀ {Q:VK},(∀ v Hs' H',Ext Hs H Hs' H'->Rep Hs' y v->Q v H')->te σ H Q
class qc (te:TE)(f:M):Prop where
 h:∀ {ε y},f ε=some y->∀ {Hs0 H0 Hs H σ},RS Hs0 H0 Hs H σ ε->∀ {Q:VK},(∀ v Hs' H',Ext Hs H Hs' H'->RepB Hs' H' y v->Q v H')->te σ H Q
class xM (te:TE)(f:M):Prop where
 h:∀ {ε y},f ε=some y->∀ {Hs0 H0 Hs H σ},RS Hs0 H0 Hs H σ ε->∀ {Q:VK},(∀ a Hs' H',Ext Hs H Hs' H'->H a=none->Hs' a=none->Top Hs' H' a y->Q (.ref a) H')->te σ H Q
class xn (tt:TT)(f:MB):Prop where
 h:∀ {ε y},f ε=some y->∀ {Hs0 H0 Hs H σ},RS Hs0 H0 Hs H σ ε->∀ {Q:Bool->Hp->Prop},(∀ Hs' H',Ext Hs H Hs' H'->Q y H')->tt σ H Q
class xl (ta:TA)(f:MA):Prop where
 h:∀ {ε ys},f ε=some ys->∀ {Hs0 H0 Hs H σ},RS Hs0 H0 Hs H σ ε->∀ {Q:List V->Hp->Prop},(∀ vs Hs' H',Ext Hs H Hs' H'->Reps Hs' ys vs->Q vs H')->ta σ H Q
def vJ (Hs H:Hp):List PV->List V->Prop
 | [],vs=>vs=[]
 | x::xs,vs=>∃ v r,vs=v::r/\RepB Hs H x v/\vJ Hs H xs r
class wO (ta:TA)(f:MA):Prop where
 h:∀ {ε ys},f ε=some ys->∀ {Hs0 H0 Hs H σ},RS Hs0 H0 Hs H σ ε->∀ {Q:List V->Hp->Prop},(∀ vs Hs' H',Ext Hs H Hs' H'->vJ Hs' H' ys vs->Q vs H')->ta σ H Q
class xm (r:R2)(g:PV->PV->Option PV):Prop where
 h:∀ {x y z},g x y=some z->∀ {Hs H:Hp} {v w:V},Same Hs H->RepB Hs H x v->RepB Hs H y w->∀ {Q:VK},(∀ u Hs' H',Ext Hs H Hs' H'->Rep Hs' z u->Q u H')->r v w H Q
class VT (r:R2)(g:PV->PV->Option PV):Prop where
 h:∀ {x y z},g x y=some z->∀ {Hs H:Hp} {v w:V},Same Hs H->RepB Hs H x v->RepB Hs H y w->∀ {Q:VK},(∀ a Hs' H',Ext Hs H Hs' H'->H a=none->Hs' a=none->Top Hs' H' a z->Q (.ref a) H')->r v w H Q

instance (priority:=50) semE_O {te:TE}{f:M}[s:xM te f]:SemE te f where
 h:=fun e _ _ _ _ _ r _ q=>s.h e r fun a Hs' H' x h n t=>by
  obtain ⟨o,ho,hr⟩:=t.rep n
  exact q _ _ _ (x.share h n ho) hr
instance (priority:=50) semB_E {te:TE}{f:M}[s:SemE te f]:qc te f where
 h:=fun e _ _ _ _ _ r _ q=>s.h e r fun v Hs' H' x h=>q v Hs' H' x (.inl h)

def q9 (i:Nat):M:=fun ε=>match ε[i]? with
 | some (.sh x)=>some x
 | _=>none
def x0 (i:Nat):M:=fun ε=>match ε[i]? with
 | some (.sh x)=>some x
 | some (.ow x)=>some x
 | some (.bo x)=>some x
 | _=>none
def dC (v:V):M:=fun _=>some (.at v)
instance {i:Nat}:SemE (qW i) (q9 i) where
 h:=fun {ε y} e {_ _ _ _ _} r {_} q=>by
  unfold q9 at e
  split at e
  ·rename_i x hx
   cases e
   obtain ⟨v,h1,h2⟩:=r.sh i _ hx
   exact ⟨v,h1,q v _ _ (.refl r.sub) h2⟩
  ·cases e
instance {i:Nat}:qc (qW i) (x0 i) where
 h:=fun {ε y} e {_ _ _ _ _} r {_} q=>by
  unfold x0 at e
  split at e
  ·rename_i x hx
   cases e
   obtain ⟨v,h1,h2⟩:=r.sh i _ hx
   exact ⟨v,h1,q v _ _ (.refl r.sub) (.inl h2)⟩
  ·rename_i x hx
   cases e
   obtain ⟨a,h1,_,n,t⟩:=r.ow i _ hx
   exact ⟨_,h1,q _ _ _ (.refl r.sub) (.inr ⟨a,rfl,n,t⟩)⟩
  ·rename_i x hx
   cases e
   obtain ⟨v,h1,h2 | ⟨a,rfl,_,n,t⟩⟩:=r.bo i _ hx
   ·exact ⟨v,h1,q v _ _ (.refl r.sub) (.inl h2)⟩
   ·exact ⟨_,h1,q _ _ _ (.refl r.sub) (.inr ⟨a,rfl,n,t⟩)⟩
  ·cases e
instance {v:V}:SemE (tC v) (dC v) where
 h:=fun e _ _ _ _ _ r _ q=>by cases e;exact q v _ _ (.refl r.sub) (rep_at.mpr rfl)
def z0 (g:PV->PV->Option PV)(a b:M):M:=fun ε=>(a ε).bind fun x=>(b ε).bind fun y=>g x y
theorem bind_some {α β:Type}{o:Option α}{f:α->Option β}{y:β}(h:o.bind f=some y):∃ x,o=some x/\f x=some y:=by
 cases o with
 | none=>cases h
 | some x=>exact ⟨x,rfl,h⟩
instance {r:R2}{g:PV->PV->Option PV}{ta tb:TE}{a b:M}[sr:xm r g][sa:qc ta a][sb:qc tb b]:SemE (tOp r ta tb) (z0 g a b) where
 h:=fun e _ _ _ _ _ rs _ q=>by
  obtain ⟨x,ex,e⟩:=bind_some e
  obtain ⟨y,ey,e⟩:=bind_some e
  exact sa.h ex rs fun v Hs1 H1 x1 r1=>sb.h ey (rs.go x1) fun w Hs2 H2 x2 r2=>sr.h e x2.s3 (r1.ext x2) r2 fun u Hs3 H3 x3 r3=>q u _ _ (x1.trans (x2.trans x3)) r3
instance {r:R2}{g:PV->PV->Option PV}{ta tb:TE}{a b:M}[sr:VT r g][sa:qc ta a][sb:qc tb b]:xM (tOp r ta tb) (z0 g a b) where
 h:=fun e _ _ _ _ _ rs _ q=>by
  obtain ⟨x,ex,e⟩:=bind_some e
  obtain ⟨y,ey,e⟩:=bind_some e
  exact sa.h ex rs fun v Hs1 H1 x1 r1=>sb.h ey (rs.go x1) fun w Hs2 H2 x2 r2=>sr.h e x2.s3 (r1.ext x2) r2 fun u Hs3 H3 x3 n n' r3=>q u _ _ (x1.trans (x2.trans x3)) (x1.s2.free (x2.s2.free n)) n' r3
def x8:MA:=fun _=>some []
def q8 (a:M)(r:MA):MA:=fun ε=>(a ε).bind fun x=>(r ε).bind fun xs=>some (x::xs)
instance:xl xU x8 where
 h:=fun e _ _ _ _ _ r _ q=>by cases e;exact q [] _ _ (.refl r.sub) .nil
instance {te:TE}{ta:TA}{a:M}{f:MA}[sa:SemE te a][sr:xl ta f]:xl (xC te ta) (q8 a f) where
 h:=fun e _ _ _ _ _ rs _ q=>by
  obtain ⟨x,ex,e⟩:=bind_some e
  obtain ⟨xs,ey,e⟩:=bind_some e
  cases e
  exact sa.h ex rs fun v Hs1 H1 x1 r1=>sr.h ey (rs.go x1) fun vs Hs2 H2 x2 r2=>q _ _ _ (x1.trans x2) (.cons (r1.mono x2.s1) r2)
instance:wO xU x8 where
 h:=fun e _ _ _ _ _ r _ q=>by cases e;exact q [] _ _ (.refl r.sub) rfl
instance {te:TE}{ta:TA}{a:M}{f:MA}[sa:qc te a][sr:wO ta f]:wO (xC te ta) (q8 a f) where
 h:=fun e _ _ _ _ _ rs _ q=>by
  obtain ⟨x,ex,e⟩:=bind_some e
  obtain ⟨xs,ey,e⟩:=bind_some e
  cases e
  exact sa.h ex rs fun v Hs1 H1 x1 r1=>sr.h ey (rs.go x1) fun vs Hs2 H2 x2 r2=>q _ _ _ (x1.trans x2) ⟨_,_,rfl,r1.ext x2,r2⟩
def lim:Nat:=1000000
theorem xQ {n:Nat}(h:n<=lim):n<=sizeLine:=Nat.le_trans h (by rw [sizeLine_eq];decide)
theorem Uv {n:Nat}(h:n<=lim):n < sizeLine:=Nat.lt_of_le_of_lt h (by rw [sizeLine_eq];decide)
def qL (a:MA):M:=fun ε=>(a ε).bind fun xs=>if xs.length<=lim then some (.tup xs) else none
def xE (a:MA):M:=fun ε=>(a ε).bind fun xs=>if xs.length<=lim then some (.lst xs) else none
instance {ta:TA}{f:MA}[sa:xl ta f]:SemE (tTup ta) (qL f) where
 h:=fun e _ _ _ _ _ rs _ q=>by
  obtain ⟨xs,ex,e⟩:=bind_some e
  split at e
  ·rename_i hl
   cases e
   exact sa.h ex rs fun vs Hs1 H1 x1 r1=>⟨xQ (r1.length ▸ hl),fun p hp=>q _ _ _ (x1.trans (.new x1.s3 hp)) (rep_tup.mpr ⟨p,vs,rfl,y4,r1.mono (Ext.new x1.s3 hp).s1⟩)⟩
  ·cases e
instance {ta:TA}{f:MA}[sa:xl ta f]:xM (tLst ta) (xE f) where
 h:=fun e _ _ _ _ _ rs _ q=>by
  obtain ⟨xs,ex,e⟩:=bind_some e
  split at e
  ·rename_i hl
   cases e
   exact sa.h ex rs fun vs Hs1 H1 x1 r1=>⟨xQ (r1.length ▸ hl),fun p hp=>q _ _ _ (x1.trans (.newO x1.s3 hp)) (x1.s2.free hp) (x1.s3.free hp) ⟨vs,y4,r1⟩⟩
  ·cases e
end Mi
namespace Mi
open PySem L2
theorem p8 {Hs H:Hp}{u v:V}(h:RepB Hs H (.at u) v):v=u:=by
 rcases h with h | ⟨a,_,_,t⟩
 ·exact rep_at.mp h
 ·exact t.elim
theorem qy {Hs H:Hp}{xs:List PV}{v:V}(s:Same Hs H)(h:RepB Hs H (.lst xs) v):∃ a vs,v = .ref a/\H a=some (.lst vs)/\Reps Hs xs vs:=by
 rcases h with h | ⟨a,rfl,_,vs,e,r⟩
 ·obtain ⟨a,vs,rfl,e,r⟩:=rep_lst.mp h
  exact ⟨a,vs,rfl,s _ _ e,r⟩
 ·exact ⟨a,vs,rfl,e,r⟩
theorem xg {Hs H:Hp}{xs:List PV}{v:V}(s:Same Hs H)(h:RepB Hs H (.tup xs) v):∃ a vs,v = .ref a/\H a=some (.tup vs)/\Reps Hs xs vs:=by
 rcases h with h | ⟨a,rfl,_,t⟩
 ·obtain ⟨a,vs,rfl,e,r⟩:=rep_tup.mp h
  exact ⟨a,vs,rfl,s _ _ e,r⟩
 ·exact t.elim
theorem Zg {Hs H:Hp}{ks:List z7}{xs:List PV}{v:V}(s:Same Hs H)(h:RepB Hs H (.fk ks xs) v):∃ a o kvs,v = .ref a/\H a=some (.frz o (.dK kvs))/\kvs.map (·.1)=ks/\Reps Hs xs (kvs.map (·.2)):=by
 rcases h with h | ⟨a,rfl,n,t⟩
 ·obtain ⟨a,o,kvs,rfl,e,k,r⟩:=rep_fk.mp h
  exact ⟨a,o,kvs,rfl,s _ _ e,k,r⟩
 ·exact t.elim
theorem vt {Hs H:Hp}{ks:List z7}{xs:List PV}{v:V}(s:Same Hs H)(h:RepB Hs H (.dk ks xs) v):∃ a kvs,v = .ref a/\H a=some (.dK kvs)/\kvs.map (·.1)=ks/\Reps Hs xs (kvs.map (·.2)):=by
 rcases h with h | ⟨a,rfl,_,kvs,e,k,r⟩
 ·obtain ⟨a,kvs,rfl,e,k,r⟩:=rep_dk.mp h
  exact ⟨a,kvs,rfl,s _ _ e,k,r⟩
 ·exact ⟨a,kvs,rfl,e,k,r⟩
theorem GC {Hs H:Hp}{C:Addr}{ns:List Str}{xs:List PV}{v:V}(s:Same Hs H)(h:RepB Hs H (.ob C ns xs) v):∃ a dx fs,v = .ref a/\H a=some (.ins C dx fs)/\fs.map (·.1)=ns/\Reps Hs xs (fs.map (·.2)):=by
 rcases h with h | ⟨a,rfl,_,dx,fs,e,k,r⟩
 ·obtain ⟨a,dx,fs,rfl,e,k,r⟩:=rep_ob.mp h
  exact ⟨a,dx,fs,rfl,s _ _ e,k,r⟩
 ·exact ⟨a,dx,fs,rfl,e,k,r⟩
def pI (g:Int->Int->Option V):PV->PV->Option PV
 | .at (.int i),.at (.int j)=>(g i j).map .at
 | _,_=>none
theorem UO {g:Int->Int->Option V}{x y z:PV}(h:pI g x y=some z):∃ i j u,x = .at (.int i)/\y = .at (.int j)/\g i j=some u/\z = .at u:=by
 unfold pI at h
 split at h
 ·rename_i i j
  obtain ⟨u,e,rfl⟩:=Option.map_eq_some_iff.mp h
  exact ⟨i,j,u,rfl,rfl,e,rfl⟩
 ·cases h
instance {g:Int->Int->V}:xm (rI0 g) (pI fun i j=>some (g i j)) where
 h:=fun e _ _ _ _ s a b _ q=>by
  obtain ⟨i,j,u,rfl,rfl,e,rfl⟩:=UO e
  cases e
  exact ⟨i,j,p8 a,p8 b,q _ _ _ (.refl s) (rep_at.mpr rfl)⟩
instance {C:Int->Int->Prop}[d:∀ i j,Decidable (C i j)]{g:Int->Int->V}:xm (rI C g) (pI fun i j=>if C i j then some (g i j) else none) where
 h:=fun e _ _ _ _ s a b _ q=>by
  obtain ⟨i,j,u,rfl,rfl,e',rfl⟩:=UO e
  split at e'
  ·rename_i hc
   cases e'
   exact ⟨i,j,p8 a,p8 b,hc,q _ _ _ (.refl s) (rep_at.mpr rfl)⟩
  ·cases e'
def j4:PV->PV->Option PV
 | .lst xs,.at (.int i)=>atI xs i
 | .tup xs,.at (.int i)=>atI xs i
 | .at (.str z),.at (.int i)=>if z.length<=lim then (L2.atI z.cps.toList i).map fun c=> .at (.str ⟨#[c]⟩) else none
 | _,_=>none
theorem Reps.atI {H:Hp}{xs:List PV}{vs:List V}{i:Int}{x:PV}(r:Reps H xs vs)(h:atI xs i=some x):∃ v,L2.atI vs i=some v/\Rep H x v:=by
 unfold L2.atI at h ⊢
 rw [r.length]
 obtain ⟨j,ej,e⟩:=bind_some h
 rw [ej]
 exact r.get e
instance {K:Fg}:xm (rIx K) j4 where
 h:=fun {x y z} e {Hs H v w} s a b {Q} q=>by
  unfold j4 at e
  split at e
  ·obtain ⟨p,vs,rfl,e1,r1⟩:=qy s a
   obtain ⟨u,hu,r⟩:=r1.atI e
   exact .inl ⟨p,vs,_,u,rfl,p8 b,SqL.of e1,hu,q _ _ _ (.refl s) r⟩
  ·obtain ⟨p,vs,rfl,e1,r1⟩:=xg s a
   obtain ⟨u,hu,r⟩:=r1.atI e
   exact .inr (.inl ⟨p,vs,_,u,rfl,p8 b,SqT.of e1,hu,q _ _ _ (.refl s) r⟩)
  ·split at e
   ·rename_i hz
    obtain ⟨c,hc,rfl⟩:=Option.map_eq_some_iff.mp e
    exact .inr (.inr ⟨_,_,c,p8 a,p8 b,xQ hz,hc,q _ _ _ (.refl s) (rep_at.mpr rfl)⟩)
   ·cases e
  ·cases e
def ats:List PV->Option (List V)
 | []=>some []
 | .at u::xs=>(ats xs).map (u::·)
 | _::_=>none
theorem Xe:∀ {xs:List PV} {us:List V},ats xs=some us->xs=us.map .at
 | [],_,h=>by cases h;rfl
 | .at u::xs,us,h=>by
  unfold ats at h
  obtain ⟨r,e,rfl⟩:=Option.map_eq_some_iff.mp h
  rw [List.map_cons,Xe e]
 | .tup _::_,_,h=>by cases h
 | .lst _::_,_,h=>by cases h
 | .dk _ _::_,_,h=>by cases h
 | .fk _ _::_,_,h=>by cases h
 | .ob _ _ _::_,_,h=>by cases h
 | .op _::_,_,h=>by cases h
def pIn (neg:Bool):PV->PV->Option PV
 | .at u,.lst xs=>(ats xs).bind fun us=>if y8 u=true/\us.all y8=true then some (.at (.bl (if neg then !inV u us else inV u us))) else none
 | .at u,.tup xs=>(ats xs).bind fun us=>if y8 u=true/\us.all y8=true then some (.at (.bl (if neg then !inV u us else inV u us))) else none
 | _,_=>none
instance {K:Fg}{neg:Bool}:xm (rIn K neg) (pIn neg) where
 h:=fun {x y z} e {Hs H v w} s a b {Q} q=>by
  unfold pIn at e
  split at e
  ·obtain ⟨us,e1,e⟩:=bind_some e
   split at e
   ·rename_i hf
    cases e
    obtain ⟨p,vs,rfl,e2,r2⟩:=qy s b
    rw [Xe e1] at r2
    cases r2.ats
    cases p8 a
    exact ⟨p,_,rfl,.inl (SqL.of e2),hf.1,hf.2,q _ _ _ (.refl s) (rep_at.mpr rfl)⟩
   ·cases e
  ·obtain ⟨us,e1,e⟩:=bind_some e
   split at e
   ·rename_i hf
    cases e
    obtain ⟨p,vs,rfl,e2,r2⟩:=xg s b
    rw [Xe e1] at r2
    cases r2.ats
    cases p8 a
    exact ⟨p,_,rfl,.inr (SqT.of e2),hf.1,hf.2,q _ _ _ (.refl s) (rep_at.mpr rfl)⟩
   ·cases e
  ·cases e
class SemU (r:V->Hp->VK->Prop)(g:PV->Option PV):Prop where
 h:∀ {x z},g x=some z->∀ {Hs H:Hp} {v:V},Same Hs H->RepB Hs H x v->∀ {Q:VK},(∀ u Hs' H',Ext Hs H Hs' H'->Rep Hs' z u->Q u H')->r v H Q
def dUn (g:PV->Option PV)(a:M):M:=fun ε=>(a ε).bind g
instance {r:V->Hp->VK->Prop}{g:PV->Option PV}{ta:TE}{a:M}[sr:SemU r g][sa:qc ta a]:SemE (tUn r ta) (dUn g a) where
 h:=fun e _ _ _ _ _ rs _ q=>by
  obtain ⟨x,ex,e⟩:=bind_some e
  exact sa.h ex rs fun v Hs1 H1 x1 r1=>sr.h e x1.s3 r1 fun u Hs3 H3 x3 r3=>q u _ _ (x1.trans x3) r3
def pU (g:Int->V):PV->Option PV
 | .at (.int i)=>some (.at (g i))
 | _=>none
instance {g:Int->V}:SemU (rU g) (pU g) where
 h:=fun {x z} e {_ _ _} s a {_} q=>by
  unfold pU at e
  split at e
  ·cases e;exact ⟨_,p8 a,q _ _ _ (.refl s) (rep_at.mpr rfl)⟩
  ·cases e
def pB:PV->Option Bool
 | .at (.bl b)=>some b
 | _=>none
theorem wz {x:PV}{b:Bool}(h:pB x=some b):x = .at (.bl b):=by
 unfold pB at h
 split at h
 ·cases h;rfl
 ·cases h
def dT (a:M):MB:=fun ε=>(a ε).bind pB
instance {te:TE}{a:M}[sa:qc te a]:xn (Jd te) (dT a) where
 h:=fun e _ _ _ _ _ rs _ q=>by
  obtain ⟨x,ex,e⟩:=bind_some e
  cases wz e
  exact sa.h ex rs fun v Hs1 H1 x1 r1=>⟨_,p8 r1,q _ _ x1⟩
instance {te:TE}{a:M}[sa:qc te a]:xn (tB te) (dT a) where
 h:=fun e _ _ _ _ _ rs _ q=>by
  obtain ⟨x,ex,e⟩:=bind_some e
  cases wz e
  exact sa.h ex rs fun v Hs1 H1 x1 r1=>⟨_,p8 r1,q _ _ x1⟩
def tTru (K:Fg)(ta:TE):TT:=fun σ H Q=>ta σ H fun x H'=>∃ k,TruV K x H' k/\Q k H'
def pTru:PV->Option Bool
 | .at .non=>some false
 | .at (.bl b)=>some b
 | .at (.int i)=>some (i != 0)
 | .at (.str y)=>if y.length<=lim then some ((y.length:Int) != 0) else none
 | .lst xs=>some (!xs.isEmpty)
 | .tup xs=>some (!xs.isEmpty)
 | .dk ks _=>some (!ks.isEmpty)
 | _=>none
def o6 (a:M):MB:=fun ε=>(a ε).bind pTru
theorem Reps.isEmpty {H:Hp}{xs:List PV}{vs:List V}(r:Reps H xs vs):vs.isEmpty=xs.isEmpty:=by
 have:=r.length
 cases xs <;> cases vs <;> first | rfl | (simp at this)
instance {K:Fg}{te:TE}{a:M}[sa:qc te a]:xn (tTru K te) (o6 a) where
 h:=fun e _ _ _ _ _ rs _ q=>by
  obtain ⟨x,ex,e⟩:=bind_some e
  refine sa.h ex rs fun v Hs1 H1 x1 r1=>?_
  unfold pTru at e
  split at e
  ·cases e;cases p8 r1;exact ⟨_,rfl,q _ _ x1⟩
  ·cases e;cases p8 r1;exact ⟨_,rfl,q _ _ x1⟩
  ·cases e;cases p8 r1;exact ⟨_,rfl,q _ _ x1⟩
  ·split at e
   ·rename_i hl
    cases e;cases p8 r1;exact ⟨_,⟨xQ hl,rfl⟩,q _ _ x1⟩
   ·cases e
  ·cases e
   obtain ⟨p,vs,rfl,e1,r2⟩:=qy x1.s3 r1
   exact ⟨_,.inl ⟨vs,SqL.of e1,by rw [r2.isEmpty]⟩,q _ _ x1⟩
  ·cases e
   obtain ⟨p,vs,rfl,e1,r2⟩:=xg x1.s3 r1
   exact ⟨_,.inr (.inl ⟨vs,SqT.of e1,by rw [r2.isEmpty]⟩),q _ _ x1⟩
  ·cases e
   obtain ⟨p,kvs,rfl,e1,k,r2⟩:=vt x1.s3 r1
   refine ⟨_,.inr (.inr ⟨kvs,e1,?_⟩),q _ _ x1⟩
   rw [<- k]
   cases kvs <;> rfl
  ·cases e
def xD (a b:MB):MB:=fun ε=>(a ε).bind fun c=>if c=true then b ε else some false
def dOr (a b:MB):MB:=fun ε=>(a ε).bind fun c=>if c=true then some true else b ε
def qB (a:MB):MB:=fun ε=>(a ε).bind fun c=>some (!c)
instance {t u:TT}{a b:MB}[sa:xn t a][sb:xn u b]:xn (tAnd t u) (xD a b) where
 h:=fun e _ _ _ _ _ rs _ q=>by
  obtain ⟨c,ex,e⟩:=bind_some e
  refine sa.h ex rs fun Hs1 H1 x1=>?_
  cases c with
  | true=>exact xZ (sb.h e (rs.go x1) fun Hs2 H2 x2=>q _ _ (x1.trans x2))
  | false=>cases e;exact xY (q _ _ x1)
instance {t u:TT}{a b:MB}[sa:xn t a][sb:xn u b]:xn (tOr t u) (dOr a b) where
 h:=fun e _ _ _ _ _ rs _ q=>by
  obtain ⟨c,ex,e⟩:=bind_some e
  refine sa.h ex rs fun Hs1 H1 x1=>?_
  cases c with
  | true=>cases e;exact xZ (q _ _ x1)
  | false=>exact xY (sb.h e (rs.go x1) fun Hs2 H2 x2=>q _ _ (x1.trans x2))
instance {t:TT}{a:MB}[sa:xn t a]:xn (tNot t) (qB a) where
 h:=fun e _ _ _ _ _ rs _ q=>by
  obtain ⟨c,ex,e⟩:=bind_some e
  cases e
  exact sa.h ex rs fun Hs1 H1 x1=>q _ _ x1
def zE (a b:M):M:=fun ε=>(a ε).bind fun x=>(pB x).bind fun c=>if c=true then b ε else some (.at (.bl false))
def Xj (a:M):M:=fun ε=>(a ε).bind fun x=>(pB x).bind fun c=>some (.at (.bl (!c)))
instance {t u:TE}{a b:M}[sa:SemE t a][sb:SemE u b]:SemE (GY t u) (zE a b) where
 h:=fun e _ _ _ _ _ rs _ q=>by
  obtain ⟨x,ex,e⟩:=bind_some e
  obtain ⟨c,ec,e⟩:=bind_some e
  cases wz ec
  refine sa.h ex rs fun v Hs1 H1 x1 r1=>⟨c,rep_at.mp r1,?_⟩
  cases c with
  | true=>exact xZ (sb.h e (rs.go x1) fun w Hs2 H2 x2 r2=>q _ _ _ (x1.trans x2) r2)
  | false=>cases e;exact xY (q _ _ _ x1 (rep_at.mpr rfl))
instance {t:TE}{a:M}[sa:qc t a]:SemE (Ke t) (Xj a) where
 h:=fun e _ _ _ _ _ rs _ q=>by
  obtain ⟨x,ex,e⟩:=bind_some e
  obtain ⟨c,ec,e⟩:=bind_some e
  cases wz ec
  cases e
  exact sa.h ex rs fun v Hs1 H1 x1 r1=>⟨c,p8 r1,q _ _ _ x1 (rep_at.mpr rfl)⟩
def dIf (c:MB)(a b:M):M:=fun ε=>(c ε).bind fun k=>if k=true then a ε else b ε
instance {t:TT}{ta tb:TE}{c:MB}{a b:M}[sc:xn t c][sa:SemE ta a][sb:SemE tb b]:SemE (tIf t ta tb) (dIf c a b) where
 h:=fun e _ _ _ _ _ rs _ q=>by
  obtain ⟨k,ex,e⟩:=bind_some e
  refine sc.h ex rs fun Hs1 H1 x1=>?_
  cases k with
  | true=>exact xZ (sa.h e (rs.go x1) fun w Hs2 H2 x2 r2=>q _ _ _ (x1.trans x2) r2)
  | false=>exact xY (sb.h e (rs.go x1) fun w Hs2 H2 x2 r2=>q _ _ _ (x1.trans x2) r2)
def jO (g g':PV->PV->Option PV)(a b c:M):M:=fun ε=>(a ε).bind fun x=>(b ε).bind fun y=>(g x y).bind fun z=>(pB z).bind fun k=>if k=true then (c ε).bind fun w=>g' y w else some (.at (.bl false))
instance {r r':R2}{g g':PV->PV->Option PV}{ta tb tc:TE}{a b c:M}[sr:xm r g][sr':xm r' g'][sa:qc ta a][sb:qc tb b][sc:qc tc c]:SemE (VC r r' ta tb tc) (jO g g' a b c) where
 h:=fun e _ _ _ _ _ rs _ q=>by
  obtain ⟨x,ex,e1⟩:=bind_some e
  obtain ⟨y,ey,e2⟩:=bind_some e1
  obtain ⟨z,ez,e3⟩:=bind_some e2
  obtain ⟨k,ek,e4⟩:=bind_some e3
  have ez':=wz ek
  subst ez'
  refine sa.h ex rs fun v Hs1 H1 x1 r1=>sb.h ey (rs.go x1) fun w Hs2 H2 x2 r2=>sr.h ez x2.s3 (r1.ext x2) r2 fun u Hs3 H3 x3 r3=>⟨k,rep_at.mp r3,?_⟩
  cases k with
  | true =>
   obtain ⟨w',ew,e5⟩:=bind_some e4
   exact xZ (sc.h ew (((rs.go x1).go x2).go x3) fun u' Hs4 H4 x4 r4=>sr'.h e5 x4.s3 ((r2.ext x3).ext x4) r4 fun u'' Hs5 H5 x5 r5=>q _ _ _ (x1.trans (x2.trans (x3.trans (x4.trans x5)))) r5)
  | false=>cases e4;exact xY (q _ _ _ (x1.trans (x2.trans x3)) (rep_at.mpr rfl))
end Mi
namespace Mi
open PySem L2
def v7 (m:List PV->Option PV):Sp:=fun vs H Q _=>∃ Hs xs y,Same Hs H/\Reps Hs xs vs/\m xs=some y/\∀ v Hs' H',Ext Hs H Hs' H'->Rep Hs' y v->Q v H'
def m4 (m:List PV->Option PV):Sp:=fun vs H Q _=>∃ Hs xs y,Same Hs H/\Reps Hs xs vs/\m xs=some y/\∀ a Hs' H',Ext Hs H Hs' H'->H a=none->Hs' a=none->Top Hs' H' a y->Q (.ref a) H'
def z5 (m:List PV->Option PV)(as:MA):M:=fun ε=>(as ε).bind m
instance {m:List PV->Option PV}{ta:TA}{as:MA}{E:XK}[sa:xl ta as]:SemE (ji (v7 m) [] E ta) (z5 m as) where
 h:=fun e _ _ _ _ _ rs _ q=>by
  obtain ⟨xs,ex,e1⟩:=bind_some e
  refine sa.h ex rs fun vs Hs1 H1 x1 r1=>⟨Hs1,xs,_,x1.s3,by rw [List.append_nil];exact r1,e1,fun v Hs' H' x r=>q v _ _ (x1.trans x) r⟩
instance {m:List PV->Option PV}{ta:TA}{as:MA}{E:XK}[sa:xl ta as]:xM (ji (m4 m) [] E ta) (z5 m as) where
 h:=fun e _ _ _ _ _ rs _ q=>by
  obtain ⟨xs,ex,e1⟩:=bind_some e
  refine sa.h ex rs fun vs Hs1 H1 x1 r1=>⟨Hs1,xs,_,x1.s3,by rw [List.append_nil];exact r1,e1,fun a Hs' H' x n n' r=>q a _ _ (x1.trans x) (x1.s2.free n) n' r⟩
def Jx (m:List PV->Option PV)(ds:List V)(as:MA):M:=fun ε=>(as ε).bind fun xs=>m (xs++ds.map .at)
def xO (C:Addr)(nm:Str)(m:List PV->Option PV)(a:M)(as:MA):M:=fun ε=>(a ε).bind fun x=>match x with
 | .ob C' ns fs=>if C'=C/\nm ∉ ns then (as ε).bind fun xs=>m (x::xs) else none
 | _=>none
theorem JT {fs:List (Str × V)}{f:Str}(h:f ∉ fs.map (·.1)):fs.lookup f=none:=by
 induction fs with
 | nil=>rfl
 | cons p r ih =>
  rw [List.map_cons] at h
  rw [List.lookup_cons]
  have h1:(f == p.1)=false:=by
   rw [beq_eq_false_iff_ne]
   exact fun e=>h (e ▸ List.mem_cons_self)
  rw [h1]
  exact ih fun z=>h (List.mem_cons_of_mem _ z)
theorem Yy {C:Addr}{nm:Str}{m:List PV->Option PV}{a:M}{as:MA}{ε:ME}{y:PV}(h:xO C nm m a as ε=some y) :
  ∃ ns fs xs,a ε=some (.ob C ns fs)/\nm ∉ ns/\as ε=some xs/\m (.ob C ns fs::xs)=some y:=by
 unfold xO at h
 obtain ⟨x,ex,h1⟩:=bind_some h
 split at h1
 ·rename_i C' ns fs
  split at h1
  ·rename_i hc
   obtain ⟨xs,e2,h2⟩:=bind_some h1
   obtain ⟨rfl,hn⟩:=hc
   exact ⟨ns,fs,xs,ex,hn,e2,h2⟩
  ·cases h1
 ·cases h1
instance {C:Addr}{nm:Str}{m:List PV->Option PV}{te:TE}{ta:TA}{a:M}{as:MA}{E:XK}[so:SemE te a][sa:xl ta as]:SemE (vB C nm (v7 m) [] E te ta) (xO C nm m a as) where
 h:=fun e _ _ _ _ _ rs _ q=>by
  obtain ⟨ns,fs,xs,ea,hn,e1,e2⟩:=Yy e
  refine so.h ea rs fun v Hs1 H1 x1 r1=>?_
  obtain ⟨p,dx,gs,rfl,hp,hk,hr⟩:=rep_ob.mp r1
  refine ⟨p,dx,gs,rfl,x1.s3 _ _ hp,JT (by rw [hk];exact hn),sa.h e1 (rs.go x1) fun vs Hs2 H2 x2 r2=>?_⟩
  exact ⟨Hs2,_,_,x2.s3,by rw [List.append_nil];exact .cons (r1.mono x2.s1) r2,e2,fun v Hs' H' x r=>q v _ _ (x1.trans (x2.trans x)) r⟩
instance {C:Addr}{nm:Str}{m:List PV->Option PV}{te:TE}{ta:TA}{a:M}{as:MA}{E:XK}[so:SemE te a][sa:xl ta as]:xM (vB C nm (m4 m) [] E te ta) (xO C nm m a as) where
 h:=fun e _ _ _ _ _ rs _ q=>by
  obtain ⟨ns,fs,xs,ea,hn,e1,e2⟩:=Yy e
  refine so.h ea rs fun v Hs1 H1 x1 r1=>?_
  obtain ⟨p,dx,gs,rfl,hp,hk,hr⟩:=rep_ob.mp r1
  refine ⟨p,dx,gs,rfl,x1.s3 _ _ hp,JT (by rw [hk];exact hn),sa.h e1 (rs.go x1) fun vs Hs2 H2 x2 r2=>?_⟩
  exact ⟨Hs2,_,_,x2.s3,by rw [List.append_nil];exact .cons (r1.mono x2.s1) r2,e2,fun v Hs' H' x n n' r=>q v _ _ (x1.trans (x2.trans x)) (x1.s2.free (x2.s2.free n)) n' r⟩
class wQ (r:List V->Hp->VK->Prop)(g:List PV->Option PV):Prop where
 h:∀ {xs z},g xs=some z->∀ {Hs H:Hp} {vs:List V},Same Hs H->vJ Hs H xs vs->∀ {Q:VK},(∀ u Hs' H',Ext Hs H Hs' H'->Rep Hs' z u->Q u H')->r vs H Q
class Ji (r:List V->Hp->VK->Prop)(g:List PV->Option PV):Prop where
 h:∀ {xs z},g xs=some z->∀ {Hs H:Hp} {vs:List V},Same Hs H->vJ Hs H xs vs->∀ {Q:VK},(∀ a Hs' H',Ext Hs H Hs' H'->H a=none->Hs' a=none->Top Hs' H' a z->Q (.ref a) H')->r vs H Q
instance {r:List V->Hp->VK->Prop}{g:List PV->Option PV}{ta:TA}{as:MA}[sr:wQ r g][sa:wO ta as]:SemE (tCB r ta) (z5 g as) where
 h:=fun e _ _ _ _ _ rs _ q=>by
  obtain ⟨xs,ex,e1⟩:=bind_some e
  exact sa.h ex rs fun vs Hs1 H1 x1 r1=>sr.h e1 x1.s3 r1 fun v Hs' H' x r=>q v _ _ (x1.trans x) r
instance {r:List V->Hp->VK->Prop}{g:List PV->Option PV}{ta:TA}{as:MA}[sr:Ji r g][sa:wO ta as]:xM (tCB r ta) (z5 g as) where
 h:=fun e _ _ _ _ _ rs _ q=>by
  obtain ⟨xs,ex,e1⟩:=bind_some e
  exact sa.h ex rs fun vs Hs1 H1 x1 r1=>sr.h e1 x1.s3 r1 fun v Hs' H' x n n' r=>q v _ _ (x1.trans x) (x1.s2.free n) n' r
theorem zd {Hs H:Hp}{x:PV}{vs:List V}(h:vJ Hs H [x] vs):∃ v,vs=[v]/\RepB Hs H x v:=by
 obtain ⟨v,r,rfl,a,b⟩:=h
 cases (show r=[] from b)
 exact ⟨v,rfl,a⟩
theorem MZ {Hs H:Hp}{x y:PV}{vs:List V}(h:vJ Hs H [x,y] vs):∃ v w,vs=[v,w]/\RepB Hs H x v/\RepB Hs H y w:=by
 obtain ⟨v,r,rfl,a,b⟩:=h
 obtain ⟨w,rfl,c⟩:=zd b
 exact ⟨v,w,rfl,a,c⟩
inductive Out where
 | nx (ε:ME) | rt (y:PV) | bk (ε:ME) | ct (ε:ME)
abbrev MS:=ME->Option Out
def OutK (fr:Bool)(Hs0 H0:Hp)(D:xV):Out->Prop
 | .nx ε=>∀ Hs H σ,RS Hs0 H0 Hs H σ ε->D.nx σ H
 | .bk ε=>∀ Hs H σ,RS Hs0 H0 Hs H σ ε->D.bk σ H
 | .ct ε=>∀ Hs H σ,RS Hs0 H0 Hs H σ ε->D.ct σ H
 | .rt y=>match fr with
  | true=>∀ a Hs H,Ext Hs0 H0 Hs H->H0 a=none->Hs a=none->Top Hs H a y->D.rt (.ref a) H
  | false=>∀ v Hs H,Ext Hs0 H0 Hs H->Rep Hs y v->D.rt v H
class qp (fr:Bool)(ts:TS)(f:MS):Prop where
 h:∀ {ε o},f ε=some o->∀ {Hs0 H0 Hs H σ},RS Hs0 H0 Hs H σ ε->∀ {D:xV},OutK fr Hs0 H0 D o->ts D σ H
variable {fr:Bool}
def n5:MS:=fun ε=>some (.nx ε)
instance:qp fr VD n5 where
 h:=fun e _ _ _ _ _ rs _ q=>by cases e;exact q _ _ _ rs
def v9 (a b:MS):MS:=fun ε=>(a ε).bind fun o=>match o with
 | .nx ε'=>b ε'
 | o=>some o
instance {t u:TS}{a b:MS}[sa:qp fr t a][sb:qp fr u b]:qp fr (tSeq t u) (v9 a b) where
 h:=fun e _ _ _ _ _ rs D q=>by
  obtain ⟨o,eo,e1⟩:=bind_some e
  refine sa.h eo rs ?_
  cases o with
  | nx ε'=>exact fun Hs H σ r=>sb.h e1 r q
  | rt y=>cases e1;exact q
  | bk ε'=>cases e1;exact q
  | ct ε'=>cases e1;exact q
def zW (a:M):MS:=fun ε=>(a ε).bind fun _=>some (.nx ε)
instance (priority:=100){te:TE}{a:M}[sa:qc te a]:qp fr (wH te) (zW a) where
 h:=fun e _ _ _ _ _ rs _ q=>by
  obtain ⟨x,ex,e1⟩:=bind_some e
  cases e1
  exact sa.h ex rs fun v Hs1 H1 x1 r1=>q _ _ _ (rs.go x1)
def w5 (a:M):MS:=fun ε=>(a ε).bind fun x=>some (.rt x)
instance {te:TE}{a:M}[sa:SemE te a]:qp false (wI te) (w5 a) where
 h:=fun e _ _ _ _ _ rs _ q=>by
  obtain ⟨x,ex,e1⟩:=bind_some e
  cases e1
  exact sa.h ex rs fun v Hs1 H1 x1 r1=>q _ _ _ (rs.ext.trans x1) r1
instance {te:TE}{a:M}[sa:xM te a]:qp true (wI te) (w5 a) where
 h:=fun e _ _ _ _ _ rs _ q=>by
  obtain ⟨x,ex,e1⟩:=bind_some e
  cases e1
  exact sa.h ex rs fun v Hs1 H1 x1 n n' r1=>q _ _ _ (rs.ext.trans x1) (rs.ext.s2.free n) n' r1
def oVar (i:Nat):M:=fun ε=>match ε[i]? with
 | some (.ow x)=>some x
 | _=>none
instance {i:Nat}:qp true (wI (qW i)) (w5 (oVar i)) where
 h:=fun e _ _ _ _ _ rs _ q=>by
  obtain ⟨x,ex,e1⟩:=bind_some e
  cases e1
  unfold oVar at ex
  split at ex
  ·rename_i y hy
   cases ex
   obtain ⟨a,ha,n0,n,t⟩:=rs.ow i _ hy
   exact ⟨_,ha,q _ _ _ rs.ext n0 n t⟩
  ·cases ex
def m5 (c:MB)(a b:MS):MS:=fun ε=>(c ε).bind fun k=>if k=true then a ε else b ε
instance {t:TT}{ta tb:TS}{c:MB}{a b:MS}[sc:xn t c][sa:qp fr ta a][sb:qp fr tb b]:qp fr (tIfS t ta tb) (m5 c a b) where
 h:=fun e _ _ _ _ _ rs _ q=>by
  obtain ⟨k,ex,e1⟩:=bind_some e
  refine sc.h ex rs fun Hs1 H1 x1=>?_
  cases k with
  | true=>exact xZ (sa.h e1 (rs.go x1) q)
  | false=>exact xY (sb.h e1 (rs.go x1) q)
def xW:MS:=fun _=>none
instance:qp fr Kc xW where
 h:=fun e=>by cases e
abbrev MG:=PV->ME->Option ME
def But (ts:List Nat)(σ σ':St):Prop:=σ'.length=σ.length/\∀ j,j ∉ ts->σ'[j]?=σ[j]?
theorem But.refl (σ:St):But [] σ σ:=⟨rfl,fun _ _=>rfl⟩
theorem But.trans {a b:List Nat}{σ σ1 σ2:St}(x:But a σ σ1)(y:But b σ1 σ2):But (a++b) σ σ2 :=
 ⟨y.1.trans x.1,fun j hj=>(y.2 j fun z=>hj (List.mem_append.mpr (.inr z))).trans (x.2 j fun z=>hj (List.mem_append.mpr (.inl z)))⟩
theorem But.wk {ts:List Nat}{σ σ':St}(b:But ts σ σ')(h:∀ i ∈ ts,σ[i]?=some none):Wk σ σ':=by
 refine ⟨b.1.symm,fun i v e=>?_⟩
 rw [b.2 i fun z=>by rw [h i z] at e;cases e]
 exact e
class wR (tg:TG)(ts:outParam (List Nat))(g:MG):Prop where
 h:∀ {x ε ε'},g x ε=some ε'->∀ {Hs0 H0 Hs H σ v},RS Hs0 H0 Hs H σ ε->Rep Hs x v->∀ {Q:St->Hp->Prop},(∀ σ',RS Hs0 H0 Hs H σ' ε'->But ts σ σ'->Q σ' H)->tg v σ H Q
class vL (tg:TGs)(ts:outParam (List Nat))(g:List PV->ME->Option ME):Prop where
 h:∀ {xs ε ε'},g xs ε=some ε'->∀ {Hs0 H0 Hs H σ vs},RS Hs0 H0 Hs H σ ε->Reps Hs xs vs->∀ {Q:St->Hp->Prop},(∀ σ',RS Hs0 H0 Hs H σ' ε'->But ts σ σ'->Q σ' H)->tg vs σ H Q
def v4 (i:Nat):MG:=fun x ε=>some (ε.set i (.sh x))
instance {i:Nat}:wR (xx i) [i] (v4 i) where
 h:=fun e _ _ _ _ _ _ rs r _ q=>by
  cases e
  exact q _ (rs.put r) ⟨List.length_set,fun j hj=>List.getElem?_set_ne fun z=>hj (by rw [<- z];exact List.mem_singleton.mpr rfl)⟩
def xI:List PV->ME->Option ME:=fun xs ε=>match xs with
 | []=>some ε
 | _=>none
def o8 (g:MG)(r:List PV->ME->Option ME):List PV->ME->Option ME:=fun xs ε=>match xs with
 | x::xs=>(g x ε).bind (r xs)
 | _=>none
instance:vL gNil [] xI where
 h:=fun {xs ε ε'} e {_ _ _ _ _ _} rs r {_} q=>by
  unfold xI at e
  split at e
  ·cases e;exact ⟨reps_nil.mp r,q _ rs (.refl _)⟩
  ·cases e
instance LS {t:TG}{u:TGs}{a b:List Nat}{g:MG}{r:List PV->ME->Option ME}[sg:wR t a g][sr:vL u b r]:vL (Qg t u) (a++b) (o8 g r) where
 h:=fun {xs ε ε'} e {_ _ _ _ _ _} rs rr {_} q=>by
  unfold o8 at e
  split at e
  ·obtain ⟨ε1,e1,e2⟩:=bind_some e
   obtain ⟨v,w,rfl,r1,r2⟩:=reps_cons.mp rr
   exact ⟨v,w,rfl,sg.h e1 rs r1 fun σ1 rs1 b1=>sr.h e2 rs1 r2 fun σ2 rs2 b2=>q _ rs2 (b1.trans b2)⟩
  ·cases e
instance (priority:=2000){i:Nat}{u:TGs}{b:List Nat}{r:List PV->ME->Option ME}[sr:vL u b r]:vL (Qg (xx i) u) (i::b) (o8 (v4 i) r) where
 h:=fun e _ _ _ _ _ _ rs rr _ q=>(LS (t:=xx i) (a:=[i]) (g:=v4 i)).h e rs rr q
def xJ (n:Nat)(g:List PV->ME->Option ME):MG:=fun x ε=>match x with
 | .tup xs=>if xs.length=n then g xs ε else none
 | _=>none
instance {K:Fg}{n:Nat}{t:TGs}{ts:List Nat}{g:List PV->ME->Option ME}[sg:vL t ts g]:wR (gTup K n t) ts (xJ n g) where
 h:=fun {x ε ε'} e {_ _ _ _ _ _} rs rr {_} q=>by
  unfold xJ at e
  split at e
  ·split at e
   ·rename_i hl
    obtain ⟨a,vs,rfl,h,r⟩:=rep_tup.mp rr
    exact ⟨a,vs,rfl,SqT.of (rs.sub _ _ h),by rw [r.length];exact hl,sg.h e rs r fun σ' rs' b=>q _ rs' b⟩
   ·cases e
  ·cases e
def n9 (i:Nat)(a:M):MS:=fun ε=>(a ε).bind fun x=>some (.nx (ε.set i (.sh x)))
def wZ (i:Nat)(a:M):MS:=fun ε=>(a ε).bind fun x=>some (.nx (ε.set i (.ow x)))
instance {i:Nat}{te:TE}{a:M}[sa:SemE te a]:qp fr (zw te (xx i)) (n9 i a) where
 h:=fun e _ _ _ _ _ rs _ q=>by
  obtain ⟨x,ex,e1⟩:=bind_some e
  cases e1
  exact sa.h ex rs fun v Hs1 H1 x1 r1=>q _ _ _ ((rs.go x1).put r1)
instance {i:Nat}{te:TE}{a:M}[sa:xM te a]:qp fr (zw te (xx i)) (wZ i a) where
 h:=fun e _ _ _ _ _ rs _ q=>by
  obtain ⟨x,ex,e1⟩:=bind_some e
  cases e1
  refine sa.h ex rs fun p Hs1 H1 x1 n n' t=>q _ _ _ ((rs.go x1).putO ⟨rs.ext.s2.free n,n',t⟩ fun j y hj z=>?_)
  obtain ⟨b,hb,_,_,tb⟩:=rs.ow j y hj
  rw [z] at hb
  injection hb with hb;injection hb with hb;injection hb with hb
  subst hb
  exact tb.there n
def pIp (g:Int->Int->Int):PV->PV->Option PV
 | .at (.int i),.at (.int j)=>some (.at (.int (g i j)))
 | _,_=>none
def dAug (i:Nat)(g:PV->PV->Option PV)(a:M):MS:=fun ε=>(q9 i ε).bind fun x=>(a ε).bind fun y=>(g x y).bind fun z=>some (.nx (ε.set i (.sh z)))
def dAppend (i:Nat)(a:M):MS:=fun ε=>(a ε).bind fun x=>match ε[i]? with
 | some (.ow (.lst xs))=>if xs.length<=lim then some (.nx (ε.set i (.ow (.lst (xs++[x]))))) else none
 | _=>none
def dExtend (i:Nat)(a:M):MS:=fun ε=>(a ε).bind fun x=>match x with
 | .lst ys=>(match ε[i]? with
  | some (.ow (.lst xs))=>if xs.length + ys.length<=lim then some (.nx (ε.set i (.ow (.lst (xs++ys))))) else none
  | _=>none)
 | _=>none
structure jq (J:It)(xs:List PV)(Hs:Hp):Prop where
 go:∀ (i:Nat) (x:PV) (Hs1 H1:Hp),xs[i]?=some x->Same Hs Hs1->Same Hs1 H1->J.go i H1/\∀ v H2,J.yld i H1 v H2->∃ Hs2,Ext Hs1 H1 Hs2 H2/\Rep Hs2 x v
 stop:∀ (Hs1 H1:Hp),Same Hs Hs1->Same Hs1 H1->J.stop xs.length H1
class zR (ti:TI)(f:MA):Prop where
 h:∀ {ε xs},f ε=some xs->∀ {Hs0 H0 Hs H σ},RS Hs0 H0 Hs H σ ε->∀ {R:It->Hp->Prop},(∀ J Hs' H',Ext Hs H Hs' H'->jq J xs Hs'->R J H')->ti σ H R
def i0 (a:M):MA:=fun ε=>(a ε).bind fun x=>match x with
 | .lst xs=>some xs
 | _=>none
theorem Cb {K:Fg}{a:Addr}{xs:List PV}{vs:List V}{Hs:Hp}(h:Hs a=some (.lst vs))(r:Reps Hs xs vs):jq (Itl K a) xs Hs where
 go:=fun i x Hs1 H1 e g1 g2=>by
  obtain ⟨v,ev,rv⟩:=r.get e
  refine ⟨⟨vs,v,SqL.of (g2 _ _ (g1 _ _ h)),ev⟩,fun w H2 y=>?_⟩
  obtain ⟨rfl,y⟩:=y
  have z:=y vs (SqL.of (g2 _ _ (g1 _ _ h)))
  rw [ev] at z
  cases z
  exact ⟨Hs1,.refl g2,rv.mono g1⟩
 stop:=fun Hs1 H1 g1 g2=>⟨vs,SqL.of (g2 _ _ (g1 _ _ h)),by rw [r.length];exact Nat.le_refl _⟩
instance {K:Fg}{te:TE}{a:M}[sa:SemE te a]:zR (JK K te) (i0 a) where
 h:=fun e _ _ _ _ _ rs _ q=>by
  obtain ⟨x,ex,e1⟩:=bind_some e
  split at e1
  ·cases e1
   refine sa.h ex rs fun v Hs1 H1 x1 r1=>?_
   obtain ⟨p,vs,rfl,hp,r⟩:=rep_lst.mp r1
   exact ⟨p,rfl,⟨vs,SqL.of (x1.s3 _ _ hp)⟩,q _ _ _ x1 (Cb hp r)⟩
  ·cases e1
def xL (lo:Int)(n:Nat):List PV:=(List.range n).map fun (i:Nat)=> .at (.int (lo + i))
theorem jf {lo:Int}{n:Nat}:(xL lo n).length=n:=by unfold xL;rw [List.length_map,List.length_range]
theorem Lc {lo:Int}{n i:Nat}{x:PV}(h:(xL lo n)[i]?=some x):i < n/\x = .at (.int (lo + i)):=by
 have hl:i < n:=by
  have:=(List.getElem?_eq_some_iff.mp h).1
  rw [jf] at this
  exact this
 refine ⟨hl,?_⟩
 unfold xL at h
 rw [List.getElem?_map,List.getElem?_range hl] at h
 cases h
 rfl
theorem Cc {lo:Int}{n:Nat}{Hs:Hp}:jq (Itr lo n) (xL lo n) Hs where
 go:=fun i x Hs1 H1 e g1 g2=>by
  obtain ⟨hl,rfl⟩:=Lc e
  refine ⟨hl,fun v H2 y=>?_⟩
  obtain ⟨rfl,rfl⟩:=y
  exact ⟨Hs1,.refl g2,rep_at.mpr rfl⟩
 stop:=fun Hs1 H1 g1 g2=>by show n<=_;rw [jf];exact Nat.le_refl _
def qu (a:MA):MA:=fun ε=>(a ε).bind fun xs=>match xs with
 | [.at (.int j)]=>if -(lim:Int)<=j/\j<=lim then some (xL 0 j.toNat) else none
 | _=>none
instance {ta:TA}{a:MA}[sa:xl ta a]:zR (YY ta) (qu a) where
 h:=fun e _ _ _ _ _ rs _ q=>by
  obtain ⟨xs,ex,e1⟩:=bind_some e
  split at e1
  ·rename_i j
   split at e1
   ·rename_i hl
    cases e1
    refine sa.h ex rs fun vs Hs1 H1 x1 r1=>?_
    obtain ⟨v,r,rfl,p1,p2⟩:=reps_cons.mp r1
    cases reps_nil.mp p2
    cases rep_at.mp p1
    have hlim:(lim:Int)=1000000:=rfl
    exact ⟨j,rfl,by omega,by omega,q _ _ _ x1 Cc⟩
   ·cases e1
  ·cases e1
def o3 (g:MG)(f:MS):List PV->ME->Option Out
 | [],ε=>some (.nx ε)
 | x::xs,ε=>(g x ε).bind fun ε1=>(f ε1).bind fun o=>match o with
  | .nx ε2=>o3 g f xs ε2
  | .ct ε2=>o3 g f xs ε2
  | .bk ε2=>some (.nx ε2)
  | .rt y=>some (.rt y)
def xt (i:MA)(g:MG)(f:MS):MS:=fun ε=>(i ε).bind fun xs=>o3 g f xs ε
theorem OutK.unbase {Hs0 H0 Hb H:Hp}{D:xV}(x:Ext Hs0 H0 Hb H):∀ {o:Out},OutK fr Hs0 H0 D o->OutK fr Hb H0 D o
 | .nx _,h=>fun Hs H σ r=>h _ _ _ (RS.unbase x r)
 | .bk _,h=>fun Hs H σ r=>h _ _ _ (RS.unbase x r)
 | .ct _,h=>fun Hs H σ r=>h _ _ _ (RS.unbase x r)
 | .rt _,h=>by
  cases fr with
  | true=>exact fun a Hs H e n n' t=>h a Hs H (x.unbase e) n n' t
  | false=>exact fun a Hs H e r=>h a Hs H (x.unbase e) r
instance {wi:TI}{tg:TG}{ts:List Nat}{tb:TS}{i:MA}{g:MG}{f:MS}[si:zR wi i][sg:wR tg ts g][sf:qp fr tb f]:qp fr (tFor wi tg tb) (xt i g f) where
 h:=fun e Hs0 H0 _ _ _ rs D q=>by
  obtain ⟨xs,ex,e1⟩:=bind_some e
  refine si.h ex rs fun J Hs1 H1 x1 ok=>?_
  have rs1:=rs.go x1
  have q1:=OutK.unbase rs1.ext q
  refine ⟨fun k m σ H=>m=xs.length - k/\k<=xs.length/\∃ Hs ε,RS Hs1 H0 Hs H σ ε/\o3 g f (xs.drop k) ε=some _,⟨xs.length,by simp,Nat.zero_le _,Hs1,_,rs1.rebase,e1⟩,?_⟩
  rintro k m σ H ⟨rfl,hk,Hs,ε,r,el⟩
  by_cases hlt:k < xs.length
  ·have hd:xs.drop k=xs[k]::xs.drop (k + 1):=List.drop_eq_getElem_cons hlt
   rw [hd] at el
   unfold o3 at el
   obtain ⟨ε1,eg,el1⟩:=bind_some el
   obtain ⟨o,eo,el2⟩:=bind_some el1
   obtain ⟨go,yl⟩:=ok.go k xs[k] Hs H (by simp [hlt]) r.ext.s1 r.ext.s3
   refine .inr ⟨go,fun σ' H'=>k + 1<=xs.length/\∃ Hs ε,RS Hs1 H0 Hs H' σ' ε/\o3 g f (xs.drop (k + 1)) ε=some _,fun σ' H' p=>⟨xs.length - (k + 1),by omega,rfl,p.1,p.2⟩,fun v H2 y=>?_⟩
   obtain ⟨Hs2,x2,r2⟩:=yl v H2 y
   refine sg.h eg (r.go x2) r2 fun σ2 rs2 _=>sf.h eo rs2 ?_
   cases o with
   | nx ε2=>exact fun Hs3 H3 σ3 r3=>⟨hlt,Hs3,ε2,r3,el2⟩
   | ct ε2=>exact fun Hs3 H3 σ3 r3=>⟨hlt,Hs3,ε2,r3,el2⟩
   | bk ε2 =>
    cases el2
    exact q1
   | rt y=>cases el2;exact q1
  ·have ek:k=xs.length:=by omega
   subst ek
   rw [List.drop_length] at el
   unfold o3 at el
   cases el
   exact .inl ⟨ok.stop Hs H r.ext.s1 r.ext.s3,q1 _ _ _ r⟩
def qd (cap:List (Option Nat))(ε:ME):ME:=cap.map fun o=>match o with
 | none=> .no
 | some i=>(ε[i]?).getD .no
def xN (g:MG)(c:MB)(f:M)(ε0:ME):List PV->Option (List PV)
 | []=>some []
 | x::xs=>(g x ε0).bind fun ε1=>(c ε1).bind fun b=>if b=true then (f ε1).bind fun y=>(xN g c f ε0 xs).bind fun ys=>some (y::ys) else xN g c f ε0 xs
def r9:MB:=fun _=>some true
instance:xn tYes r9 where
 h:=fun e _ _ _ _ _ rs _ q=>by cases e;exact q _ _ (.refl rs.sub)
def ju (cap:List (Option Nat))(ts:List Nat):Bool:=decide (cap.filterMap id).Nodup && ts.all fun i=>decide (cap[i]?=some none)
def m9 (cap:List (Option Nat))(ts:List Nat)(i:MA)(g:MG)(c:MB)(f:M):M:=fun ε=>(i ε).bind fun xs=>if ju cap ts=true/\xs.length<=lim then (xN g c f (qd cap ε) xs).bind fun ys=>some (.lst ys) else none
theorem RS.cap {Hs0 H0 Hs H:Hp}{σ:St}{ε:ME}{cap:List (Option Nat)}(hc:(cap.filterMap id).Nodup)(r:RS Hs0 H0 Hs H σ ε):RS Hs0 H0 Hs H (m6 cap σ) (qd cap ε):=by
 have inj:∀ (i j k:Nat),cap[i]?=some (some k)->cap[j]?=some (some k)->i=j:=by
  clear r
  induction cap with
  | nil=>intro i j k h;simp at h
  | cons o cap ih =>
   intro i j k hi hj
   have no:∀ (l:Nat),o=some k->cap[l]?=some (some k)->False:=fun l ho hl=>by
    subst ho
    rw [List.filterMap_cons_some (by rfl)] at hc
    exact (List.nodup_cons.mp hc).1 (List.mem_filterMap.mpr ⟨some k,List.mem_of_getElem? hl,rfl⟩)
   have hc':(cap.filterMap id).Nodup:=by
    cases o with
    | none=>rwa [List.filterMap_cons_none (by rfl)] at hc
    | some m=>rw [List.filterMap_cons_some (by rfl)] at hc;exact (List.nodup_cons.mp hc).2
   cases i with
   | zero =>
    cases j with
    | zero=>rfl
    | succ j=>exact (no j (by simpa using hi) (by simpa using hj)).elim
   | succ i =>
    cases j with
    | zero=>exact (no i (by simpa using hj) (by simpa using hi)).elim
    | succ j=>rw [ih hc' i j k (by simpa using hi) (by simpa using hj)]
 have at1:∀ (i:Nat) (sl:MSlot),(qd cap ε)[i]?=some sl->sl = .no ∨ ∃ k,cap[i]?=some (some k)/\ε[k]?=some sl:=by
  intro i sl h
  unfold qd at h
  rw [List.getElem?_map] at h
  cases ho:cap[i]? with
  | none=>rw [ho] at h;cases h
  | some o =>
   rw [ho] at h
   cases o with
   | none=>cases h;exact .inl rfl
   | some k =>
    cases hk:ε[k]? with
    | none=>simp only [Option.map_some,hk,Option.getD_none] at h;cases h;exact .inl rfl
    | some s=>simp only [Option.map_some,hk,Option.getD_some] at h;cases h;exact .inr ⟨k,rfl,hk⟩
 have at2:∀ (i k:Nat),cap[i]?=some (some k)->∀ v,σ[k]?=some (some v)->(m6 cap σ)[i]?=some (some v):=by
  intro i k h v e
  unfold m6
  rw [List.getElem?_map,h]
  simp [e]
 have at3:∀ (i k:Nat) (v:V),cap[i]?=some (some k)->(m6 cap σ)[i]?=some (some v)->σ[k]?=some (some v):=by
  intro i k v h e
  unfold m6 at e
  rw [List.getElem?_map,h] at e
  simp only [Option.map_some,Option.bind_some,Option.some.injEq] at e
  cases hs:σ[k]? with
  | none=>rw [hs] at e;cases e
  | some o=>rw [hs] at e;simp at e;rw [e]
 refine ⟨r.ext,fun i x h=>?_,fun i x h=>?_,fun i j x y a h1 h2 h3 h4=>?_,by unfold m6 qd;rw [List.length_map,List.length_map],fun i x h=>?_⟩
 ·rcases at1 i _ h with z | ⟨k,hk,e⟩
  ·cases z
  ·obtain ⟨v,hv,rv⟩:=r.sh k x e
   exact ⟨v,at2 i k hk v hv,rv⟩
 ·rcases at1 i _ h with z | ⟨k,hk,e⟩
  ·cases z
  ·obtain ⟨v,hv,rv⟩:=r.ow k x e
   exact ⟨v,at2 i k hk _ hv,rv⟩
 ·rcases at1 i _ h1 with z | ⟨k,hk,e⟩
  ·cases z
  ·rcases at1 j _ h2 with z | ⟨l,hl,e'⟩
   ·cases z
   ·have kl:=r.nd k l x y a e e' (at3 i k _ hk h3) (at3 j l _ hl h4)
    subst kl
    exact inj i j k hk hl
 ·rcases at1 i _ h with z | ⟨k,hk,e⟩
  ·cases z
  ·obtain ⟨v,hv,rv⟩:=r.bo k x e
   exact ⟨v,at2 i k hk _ hv,rv⟩
theorem Reps.snoc {H:Hp}{xs:List PV}{vs:List V}{x:PV}{v:V}(r:Reps H xs vs)(p:Rep H x v):Reps H (xs++[x]) (vs++[v]):=r.append (.one p)
instance {wi:TI}{tg:TG}{ts:List Nat}{tt:TT}{te:TE}{cap:List (Option Nat)}{i:MA}{g:MG}{c:MB}{f:M}[si:zR wi i][sg:wR tg ts g][sc:xn tt c][sf:SemE te f]:xM (QT wi tg tt te cap) (m9 cap ts i g c f) where
 h:=fun e Hs0 H0 Hs H σ rs Q q=>by
  obtain ⟨xs,ex,e1⟩:=bind_some e
  split at e1
  ·rename_i hcl
   obtain ⟨hcap,hl⟩:=hcl
   unfold ju at hcap
   rw [Bool.and_eq_true] at hcap
   obtain ⟨ys,ey,e2⟩:=bind_some e1
   cases e2
   refine si.h ex rs fun J Hs1 H1 x1 ok=>?_
   have rc:=((rs.go x1).cap (of_decide_eq_true hcap.1)).rebase
   have wk:∀ i ∈ ts,(m6 cap σ)[i]?=some none:=fun i hi=>by
    unfold m6
    rw [List.getElem?_map,of_decide_eq_true (List.all_eq_true.mp hcap.2 i hi)]
    rfl
   refine ⟨fun k m zs H=>m=xs.length - k/\k<=xs.length/\∃ Hs2 ws,Ext Hs1 H1 Hs2 H/\RS Hs1 H0 Hs2 H (m6 cap σ) (qd cap _)/\Reps Hs2 ws zs/\ws.length<=k/\∃ rest,xN g c f (qd cap _) (xs.drop k)=some rest/\ys=ws++rest,
    ⟨xs.length,by simp,Nat.zero_le _,Hs1,[],.refl x1.s3,rc,.nil,Nat.le_refl _,ys,ey,rfl⟩,?_⟩
   rintro k m zs H2 ⟨rfl,hk,Hs2,ws,x2,r2,rz,hw,rest,er,eys⟩
   refine ⟨xQ (by rw [rz.length];omega),?_⟩
   by_cases hlt:k < xs.length
   ·have hd:xs.drop k=xs[k]::xs.drop (k + 1):=List.drop_eq_getElem_cons hlt
    rw [hd] at er
    unfold xN at er
    obtain ⟨ε1,eg,er1⟩:=bind_some er
    obtain ⟨b,eb,er2⟩:=bind_some er1
    obtain ⟨go,yl⟩:=ok.go k xs[k] Hs2 H2 (by simp [hlt]) x2.s1 x2.s3
    refine .inr ⟨go,fun v H3 y=>?_⟩
    obtain ⟨Hs3,x3,r3⟩:=yl v H3 y
    refine sg.h eg (r2.go x3) r3 fun σ2 rs2 bt=>⟨bt.wk wk,sc.h eb rs2 fun Hs4 H4 x4=>?_⟩
    cases b with
    | true =>
     rw [if_pos rfl] at er2
     obtain ⟨z,ez,er3⟩:=bind_some er2
     obtain ⟨rest',er4,er5⟩:=bind_some er3
     cases er5
     refine xZ (sf.h ez (rs2.go x4) fun u Hs5 H5 x5 r5=>⟨xs.length - (k + 1),by omega,rfl,hlt,Hs5,ws++[z],x2.trans (x3.trans (x4.trans x5)),((r2.go x3).go x4).go x5,?_,?_,rest',er4,?_⟩)
     ·exact (rz.mono (x3.s1.trans (x4.s1.trans x5.s1))).snoc r5
     ·rw [List.length_append];simp;omega
     ·rw [List.append_assoc];exact eys
    | false =>
     rw [if_neg Bool.false_ne_true] at er2
     exact xY ⟨xs.length - (k + 1),by omega,rfl,hlt,Hs4,ws,x2.trans (x3.trans x4),(r2.go x3).go x4,rz.mono (x3.s1.trans x4.s1),by omega,rest,er2,eys⟩
   ·have ek:k=xs.length:=by omega
    subst ek
    rw [List.drop_length] at er
    unfold xN at er
    cases er
    refine .inl ⟨ok.stop Hs2 H2 x2.s1 x2.s3,fun D hD=>?_⟩
    rw [List.append_nil] at eys
    subst eys
    have x12:=x1.trans x2
    exact q D Hs2 _ (x12.trans (.newO x2.s3 hD)) (x12.s2.free hD) (x2.s3.free hD) ⟨zs,y4,rz⟩
  ·cases e1
def t9 (n k:Nat)(f:MS):List PV->Option PV:=fun xs=>if xs.length=k then (f (xs.map .sh++List.replicate (n - k) .no)).bind fun o=>match o with
 | .rt y=>some y
 | .nx _=>some (.at .non)
 | _=>none else none
def qt (n k:Nat)(f:MS):List PV->Option PV:=fun xs=>if xs.length=k then (f (xs.map .sh++List.replicate (n - k) .no)).bind fun o=>match o with
 | .rt y=>some y
 | _=>none else none
end Mi
namespace Mi
open PySem PySem.Spec PyProof.Rows L2
theorem vy {N:List Str}{Hs H:Hp}{xs:List PV}{vs:List V}(s:Same Hs H)(r:Reps Hs xs vs):RS Hs H Hs H (L2.start N vs) (xs.map .sh++List.replicate (N.length - xs.length) .no):=by
 have el:=r.length
 have at1:∀ (i:Nat) (sl:MSlot),(xs.map MSlot.sh++List.replicate (N.length - xs.length) .no)[i]?=some sl->sl = .no ∨ ∃ x,xs[i]?=some x/\sl = .sh x:=by
  intro i sl h
  by_cases hi:i < xs.length
  ·rw [List.getElem?_append_left (by rw [List.length_map];exact hi),List.getElem?_map] at h
   obtain ⟨x,hx,rfl⟩:=Option.map_eq_some_iff.mp h
   exact .inr ⟨x,hx,rfl⟩
  ·rw [List.getElem?_append_right (by rw [List.length_map];omega),List.getElem?_replicate] at h
   split at h
   ·cases h;exact .inl rfl
   ·cases h
 refine ⟨.refl s,fun i x h=>?_,fun i x h=>?_,fun i j x y a h1 _ _ _=>?_,?_,fun i x h=>?_⟩
 ·rcases at1 i _ h with z | ⟨y,hy,z⟩
  ·cases z
  ·cases z
   obtain ⟨v,hv,rv⟩:=r.get hy
   refine ⟨v,?_,rv⟩
   unfold L2.start
   rw [List.getElem?_append_left (by rw [List.length_map];exact (List.getElem?_eq_some_iff.mp hv).1),List.getElem?_map,hv]
   rfl
 ·rcases at1 i _ h with z | ⟨y,hy,z⟩ <;> cases z
 ·rcases at1 i _ h1 with z | ⟨y,hy,z⟩ <;> cases z
 ·unfold L2.start
  rw [List.length_append,List.length_append,List.length_map,List.length_map,List.length_replicate,List.length_replicate,el]
 ·rcases at1 i _ h with z | ⟨y,hy,z⟩ <;> cases z
section
variable {P:Program}{w:World}{K:Fg}{mg:Str->Option Value}{base:Heap}
theorem qg {x qual:Str}{st:Stmt}{f:Addr}{fd:FuncData}{N ps:List Str}{k:Nat}{b:MS}{m:List PV->Option PV}(F:Fun K x qual st f fd)(S:w4 N ps (z9 st))(hm:m=t9 N.length ps.length b)
  (hb:∀ (cdv:Value) (A:Around) (outer:List Env) (s:Shared) (H:Hp) (E:XK),Room k (A.deeper (envOfC qual (z9 st) s.heap.objs.size f cdv)) ->
   ∃ t,PSs (xb v5 P w K mg base N qual (z9 st) f cdv A outer s H E).nox (qi st) t/\qp false t b):FnOk P w K mg base v5 (k + 1) f fd ps (v7 m):=by
 subst hm
 refine F.ok S (fun vs H Q E h=>?_) (fun cdv A outer s H vs Q E hr h=>?_)
 ·obtain ⟨Hs,xs,y,_,r,e,_⟩:=h
  unfold t9 at e
  split at e
  ·rename_i hl;rw [r.length];exact hl
  ·cases e
 ·obtain ⟨Hs,xs,y,sm,r,e,q⟩:=h
  obtain ⟨t,ht,sem⟩:=hb cdv A outer s H E hr
  refine ⟨t,ht,?_⟩
  unfold t9 at e
  split at e
  ·rename_i hl
   obtain ⟨o,eo,e1⟩:=bind_some e
   refine sem.h eo (by rw [<- hl];exact vy sm r) ?_
   cases o with
   | rt z=>cases e1;exact fun v Hs' H' x rv=>q v Hs' H' x rv
   | nx ε=>cases e1;exact fun Hs' H' σ rs=>q _ Hs' H' rs.ext (rep_at.mpr rfl)
   | bk ε=>cases e1
   | ct ε=>cases e1
  ·cases e
theorem okO {x qual:Str}{st:Stmt}{f:Addr}{fd:FuncData}{N ps:List Str}{k:Nat}{b:MS}{m:List PV->Option PV}(F:Fun K x qual st f fd)(S:w4 N ps (z9 st))(hm:m=qt N.length ps.length b)
  (hb:∀ (cdv:Value) (A:Around) (outer:List Env) (s:Shared) (H:Hp) (E:XK),Room k (A.deeper (envOfC qual (z9 st) s.heap.objs.size f cdv)) ->
   ∃ t,PSs (xb v5 P w K mg base N qual (z9 st) f cdv A outer s H E).nox (qi st) t/\qp true t b):FnOk P w K mg base v5 (k + 1) f fd ps (m4 m):=by
 subst hm
 refine F.ok S (fun vs H Q E h=>?_) (fun cdv A outer s H vs Q E hr h=>?_)
 ·obtain ⟨Hs,xs,y,_,r,e,_⟩:=h
  unfold qt at e
  split at e
  ·rename_i hl;rw [r.length];exact hl
  ·cases e
 ·obtain ⟨Hs,xs,y,sm,r,e,q⟩:=h
  obtain ⟨t,ht,sem⟩:=hb cdv A outer s H E hr
  refine ⟨t,ht,?_⟩
  unfold qt at e
  split at e
  ·rename_i hl
   obtain ⟨o,eo,e1⟩:=bind_some e
   refine sem.h eo (by rw [<- hl];exact vy sm r) ?_
   cases o with
   | rt z=>cases e1;exact fun a Hs' H' x n n' t=>q a Hs' H' x n n' t
   | nx ε=>cases e1
   | bk ε=>cases e1
   | ct ε=>cases e1
  ·cases e
end
end Mi
namespace Mi
open PySem L2
theorem xf {X:Cx}{K:Fg}{a:Expr}{ta:TE}(h:X.K=K)(ha:PE X a ta)(he:∀ whole,isTrue a X.env whole=(do let v <- whole;standAt a.pos;holding [v] (truthy v))):PT X a (tTru K ta):=MJ h ha he
abbrev jB:PV->PV->Option PV:=pI fun i j=>some (.int (i - j))
abbrev pLt:PV->PV->Option PV:=pI fun i j=>some (.bl (decide (i < j)))
abbrev pLe:PV->PV->Option PV:=pI fun i j=>some (.bl (decide (i<=j)))
abbrev pGt:PV->PV->Option PV:=pI fun i j=>some (.bl (decide (j < i)))
abbrev pGe:PV->PV->Option PV:=pI fun i j=>some (.bl (decide (j<=i)))
instance {i j:Int}:Decidable (zP i j):=by unfold zP;infer_instance
instance {i j:Int}:Decidable (jn i j):=by unfold jn;infer_instance
instance {i j:Int}:Decidable (jo i j):=by unfold jo;infer_instance
abbrev jc:PV->PV->Option PV:=pI fun i j=>if zP i j then some (.int (i * j)) else none
abbrev pDiv:PV->PV->Option PV:=pI fun i j=>if jn i j then some (.int (i / j)) else none
abbrev pPow:PV->PV->Option PV:=pI fun i j=>if jo i j then some (.int (i ^ j.toNat)) else none
abbrev pNeg:PV->Option PV:=pU fun i=> .int (-i)
theorem Reps.nil_of {H:Hp}{xs:List PV}(r:Reps H xs []):xs=[]:=List.length_eq_zero_iff.mp r.length.symm
def qT:PV->PV->Option PV
 | .at (.int i),.at (.int j)=>some (.at (.int (i + j)))
 | .at (.str x),.at (.str y)=>if x.length + y.length<=lim then some (.at (.str (x++y))) else none
 | .lst xs,.lst ys=>if xs.length + ys.length<=lim then some (.lst (xs++ys)) else none
 | .tup xs,.tup ys=>if xs ≠ []/\xs.length + ys.length<=lim then some (.tup (xs++ys)) else none
 | _,_=>none
instance {K:Fg}:xm (Ge K) qT where
 h:=fun {x y z} e {Hs H v w} s a b {Q} q=>by
  unfold qT at e
  split at e
  ·cases e
   exact .inl ⟨_,_,p8 a,p8 b,q _ _ _ (.refl s) (rep_at.mpr rfl)⟩
  ·split at e
   ·rename_i hl
    cases e
    exact .inr (.inl ⟨_,_,p8 a,p8 b,xQ hl,q _ _ _ (.refl s) (rep_at.mpr rfl)⟩)
   ·cases e
  ·split at e
   ·rename_i hl
    cases e
    obtain ⟨p,vs,rfl,e1,r1⟩:=qy s a
    obtain ⟨p',ws,rfl,e2,r2⟩:=qy s b
    refine .inr (.inr (.inl ⟨p,p',vs,ws,rfl,rfl,SqL.of e1,SqL.of e2,xQ (by rw [r1.length,r2.length];exact hl),fun l hl=>?_⟩))
    exact q _ _ _ (.new s hl) (rep_lst.mpr ⟨l,_,rfl,y4,(r1.append r2).mono (Ext.new s hl).s1⟩)
   ·cases e
  ·split at e
   ·rename_i hl
    cases e
    obtain ⟨p,vs,rfl,e1,r1⟩:=xg s a
    obtain ⟨p',ws,rfl,e2,r2⟩:=xg s b
    have hn:vs ≠ []:=fun z=>by
     have h1:=r1.length
     rw [z] at h1
     exact hl.1 (List.length_eq_zero_iff.mp h1.symm)
    refine .inr (.inr (.inr ⟨p,p',vs,ws,rfl,rfl,SqT.of e1,SqT.of e2,hn,xQ (by rw [r1.length,r2.length];exact hl.2),fun z=>?_,fun z l hl=>?_⟩))
    ·subst z
     cases r2.nil_of
     rw [List.append_nil] at q
     rcases a with a | ⟨_,_,_,t⟩
     ·exact q _ _ _ (.refl s) a
     ·exact t.elim
    ·exact q _ _ _ (.new s hl) (rep_tup.mpr ⟨l,_,rfl,y4,(r1.append r2).mono (Ext.new s hl).s1⟩)
   ·cases e
  ·cases e
def o9:List PV->Option PV
 | [.at (.str x)]=>if x.length<=lim then some (.at (.int x.length)) else none
 | [.lst xs]=>some (.at (.int xs.length))
 | [.tup xs]=>some (.at (.int xs.length))
 | [.dk ks _]=>some (.at (.int ks.length))
 | _=>none
instance {K:Fg}:wQ (rLen K) o9 where
 h:=fun {xs z} e {Hs H vs} s r {Q} q=>by
  unfold o9 at e
  split at e
  ·split at e
   ·rename_i hl
    cases e
    obtain ⟨v,rfl,a⟩:=zd r
    cases p8 a
    exact .inl ⟨_,_,rfl,⟨xQ hl,rfl⟩,q _ _ _ (.refl s) (rep_at.mpr rfl)⟩
   ·cases e
  ·cases e
   obtain ⟨v,rfl,a⟩:=zd r
   obtain ⟨p,ws,rfl,e1,r1⟩:=qy s a
   exact .inl ⟨_,_,rfl,.inl ⟨ws,SqL.of e1,rfl⟩,q _ _ _ (.refl s) (rep_at.mpr (by rw [r1.length]))⟩
  ·cases e
   obtain ⟨v,rfl,a⟩:=zd r
   obtain ⟨p,ws,rfl,e1,r1⟩:=xg s a
   exact .inl ⟨_,_,rfl,.inr ⟨ws,SqT.of e1,rfl⟩,q _ _ _ (.refl s) (rep_at.mpr (by rw [r1.length]))⟩
  ·cases e
   obtain ⟨v,rfl,a⟩:=zd r
   obtain ⟨p,kvs,rfl,e1,k,r1⟩:=vt s a
   exact .inr ⟨p,kvs,rfl,e1,q _ _ _ (.refl s) (rep_at.mpr (by rw [<- k,List.length_map]))⟩
  ·cases e
def vj:List PV->Option PV
 | [.lst xs]=>some (.lst xs)
 | [.tup xs]=>some (.lst xs)
 | _=>none
instance {K:Fg}:Ji (Gn K) vj where
 h:=fun {xs z} e {Hs H vs} s r {Q} q=>by
  unfold vj at e
  split at e
  ·cases e
   obtain ⟨v,rfl,a⟩:=zd r
   obtain ⟨p,ws,rfl,e1,r1⟩:=qy s a
   exact ⟨p,ws,rfl,.inl (SqL.of e1),fun l hl=>q l _ _ (.newO s hl) hl (s.free hl) ⟨ws,y4,r1⟩⟩
  ·cases e
   obtain ⟨v,rfl,a⟩:=zd r
   obtain ⟨p,ws,rfl,e1,r1⟩:=xg s a
   exact ⟨p,ws,rfl,.inr (SqT.of e1),fun l hl=>q l _ _ (.newO s hl) hl (s.free hl) ⟨ws,y4,r1⟩⟩
  ·cases e
def tyP:PV->Option String
 | .at .non=>some "NoneType"
 | .at (.bl _)=>some "bool"
 | .at (.int _)=>some "int"
 | .at (.str _)=>some "str"
 | .lst _=>some "list"
 | .tup _=>some "tuple"
 | .dk _ _=>some "dict"
 | _=>none
theorem NA {K:Fg}{Hs H:Hp}{x:PV}{v:V}{T:String}(s:Same Hs H)(r:RepB Hs H x v)(e:tyP x=some T):xr K H v (.type T):=by
 unfold tyP at e
 split at e
 ·cases e;cases p8 r;exact .non
 ·cases e;cases p8 r;exact .bl _
 ·cases e;cases p8 r;exact .int _
 ·cases e;cases p8 r;exact .str _
 ·cases e;obtain ⟨p,ws,rfl,e1,r1⟩:=qy s r;exact .lst e1
 ·cases e;obtain ⟨p,ws,rfl,e1,r1⟩:=xg s r;exact .tup e1
 ·cases e;obtain ⟨p,ws,rfl,e1,_⟩:=vt s r;exact .dK e1
 ·cases e
def qx:List PV->Option PV
 | [x,.at (.ty n)]=>(tyP x).bind fun T=>(tyB T n).bind fun b=>some (.at (.bl b))
 | _=>none
instance {K:Fg}:wQ (rIsi K) qx where
 h:=fun {xs z} e {Hs H vs} s r {Q} q=>by
  unfold qx at e
  split at e
  ·obtain ⟨T,eT,e1⟩:=bind_some e
   obtain ⟨b,eb,e2⟩:=bind_some e1
   cases e2
   obtain ⟨v,w,rfl,a,c⟩:=MZ r
   cases p8 c
   exact ⟨v,_,T,b,rfl,NA s a eT,eb,q _ _ _ (.refl s) (rep_at.mpr rfl)⟩
  ·cases e
def bls:List PV->Option (List Bool)
 | []=>some []
 | .at (.bl b)::xs=>(bls xs).map (b::·)
 | _::_=>none
theorem Yg:∀ {xs:List PV} {bs:List Bool},bls xs=some bs->xs=bs.map fun b=> .at (.bl b)
 | [],_,h=>by cases h;rfl
 | x::xs,bs,h=>by
  unfold bls at h
  split at h
  ·rename_i heq;cases heq
  ·rename_i b ys heq
   injection heq with h1 h2
   obtain ⟨r,e,rfl⟩:=Option.map_eq_some_iff.mp h
   subst h2
   rw [h1,List.map_cons,Yg e]
  ·cases h
def zn:List PV->Option PV
 | [.lst xs]=>(bls xs).bind fun bs=>some (.at (.bl (bs.all id)))
 | _=>none
instance {K:Fg}:wQ (Gf K) zn where
 h:=fun {xs z} e {Hs H vs} s r {Q} q=>by
  unfold zn at e
  split at e
  ·obtain ⟨bs,eb,e1⟩:=bind_some e
   cases e1
   obtain ⟨v,rfl,a⟩:=zd r
   obtain ⟨p,ws,rfl,e1,r1⟩:=qy s a
   rw [Yg eb,show (bs.map fun b=>PV.at (.bl b))=(bs.map V.bl).map .at by rw [List.map_map];rfl] at r1
   cases r1.ats
   exact ⟨p,bs,rfl,SqL.of e1,q _ _ _ (.refl s) (rep_at.mpr rfl)⟩
  ·cases e
def jT:PV->Bool
 | .at .non=>true
 | _=>false
def Qj:PV->Bool
 | .op _=>true
 | _=>false
def wA:PV->PV->Option PV:=fun x y=>if jT y=true/\Qj x=false then some (.at (.bl (jT x))) else none
def zo:PV->PV->Option PV:=fun x y=>if jT y=true/\Qj x=false then some (.at (.bl (!jT x))) else none
theorem Xz {Hs H:Hp}{x:PV}{v:V}(s:Same Hs H)(r:RepB Hs H x v)(ho:Qj x=false):decide (v = .non)=jT x:=by
 cases x with
 | «at» u =>
  cases p8 r
  cases v <;> first | rfl | (exact decide_eq_false (fun z=>nomatch z))
 | tup xs=>obtain ⟨p,ws,rfl,_⟩:=xg s r;exact decide_eq_false (fun z=>nomatch z)
 | lst xs=>obtain ⟨p,ws,rfl,_⟩:=qy s r;exact decide_eq_false (fun z=>nomatch z)
 | dk ks xs=>obtain ⟨p,ws,rfl,_⟩:=vt s r;exact decide_eq_false (fun z=>nomatch z)
 | fk ks xs=>obtain ⟨p,o,ws,rfl,_⟩:=Zg s r;exact decide_eq_false (fun z=>nomatch z)
 | ob C ns xs=>obtain ⟨p,dx,ws,rfl,_⟩:=GC s r;exact decide_eq_false (fun z=>nomatch z)
 | op φ=>cases ho
instance:xm rIsN wA where
 h:=fun {x y z} e {Hs H v w} s a b {Q} q=>by
  unfold wA at e
  split at e
  ·rename_i hy
   cases e
   have hb:Qj y=false:=by
    cases y <;> first | rfl | (exact absurd hy.1 (by simp [jT]))
   refine ⟨of_decide_eq_true ((Xz s b hb).trans hy.1),?_⟩
   rw [Xz s a hy.2]
   exact q _ _ _ (.refl s) (rep_at.mpr rfl)
  ·cases e
instance:xm Go zo where
 h:=fun {x y z} e {Hs H v w} s a b {Q} q=>by
  unfold zo at e
  split at e
  ·rename_i hy
   cases e
   have hb:Qj y=false:=by
    cases y <;> first | rfl | (exact absurd hy.1 (by simp [jT]))
   refine ⟨of_decide_eq_true ((Xz s b hb).trans hy.1),?_⟩
   rw [Xz s a hy.2]
   exact q _ _ _ (.refl s) (rep_at.mpr rfl)
  ·cases e
def zr (f:PV->PV->Option Bool):List PV->List PV->Option Bool
 | x::xs,y::ys=>(f x y).bind fun a=>(zr f xs ys).bind fun b=>some (a && b)
 | _,_=>some true
def peq0:PV->PV->Option Bool
 | .at u,.at v=>if y8 u=true/\y8 v=true then some (qf u v) else none
 | _,_=>none
def peq1 (f:PV->PV->Option Bool):PV->PV->Option Bool
 | .at u,.at v=>if y8 u=true/\y8 v=true then some (qf u v) else none
 | .lst xs,.lst ys=>if xs.length=ys.length then zr f xs ys else some false
 | .tup xs,.tup ys=>(zr f xs ys).bind fun b=>some (b && xs.length == ys.length)
 | .lst _,.tup _=>some false
 | .tup _,.lst _=>some false
 | .at u,.lst _=>if y8 u=true then some false else none
 | .at u,.tup _=>if y8 u=true then some false else none
 | .lst _,.at u=>if y8 u=true then some false else none
 | .tup _,.at u=>if y8 u=true then some false else none
 | _,_=>none
def peq:Nat->PV->PV->Option Bool
 | 0=>peq0
 | n + 1=>peq1 (peq n)
theorem Vj {K:Fg}{Hs H:Hp}{n:Nat}(s:Same Hs H)(ih:∀ {x y:PV} {v w:V} {b:Bool},peq n x y=some b->Rep Hs x v->Rep Hs y w->EqP K H n v w b) :
  ∀ {xs ys:List PV} {vs ws:List V} {b:Bool},zr (peq n) xs ys=some b->Reps Hs xs vs->Reps Hs ys ws->∃ e:Nat->Bool,(∀ j (h1:j < vs.length) (h2:j < ws.length),EqP K H n vs[j] ws[j] (e j))/\b=(List.range (min vs.length ws.length)).all e
 | [],ys,vs,ws,b,h,r1,r2=>by
  cases reps_nil.mp r1
  unfold zr at h
  cases h
  exact ⟨fun _=>true,fun j h1=>absurd h1 (Nat.not_lt_zero _),by simp⟩
 | x::xs,[],vs,ws,b,h,r1,r2=>by
  cases reps_nil.mp r2
  unfold zr at h
  cases h
  exact ⟨fun _=>true,fun j h1 h2=>absurd h2 (Nat.not_lt_zero _),by simp⟩
 | x::xs,y::ys,vs,ws,b,h,r1,r2=>by
  obtain ⟨v,vr,rfl,p1,q1⟩:=reps_cons.mp r1
  obtain ⟨w,wr,rfl,p2,q2⟩:=reps_cons.mp r2
  unfold zr at h
  obtain ⟨a,ea,h1⟩:=bind_some h
  obtain ⟨c,ec,h2⟩:=bind_some h1
  cases h2
  obtain ⟨e,he,hb⟩:=Vj s ih ec q1 q2
  refine ⟨fun j=>match j with | 0=>a | j + 1=>e j,fun j h1 h2=>?_,?_⟩
  ·cases j with
   | zero=>exact ih ea p1 p2
   | succ j=>exact he j (by simpa using h1) (by simpa using h2)
  ·rw [List.length_cons,List.length_cons,Nat.succ_min_succ,List.range_succ_eq_map,List.all_cons,List.all_map,hb]
   rfl
theorem Vi {K:Fg}{Hs H:Hp}(s:Same Hs H):∀ (n:Nat) {x y:PV} {v w:V} {b:Bool},peq n x y=some b->RepB Hs H x v->RepB Hs H y w->EqP K H n v w b
 | 0,x,y,v,w,b,h,r1,r2=>by
  unfold peq peq0 at h
  split at h
  ·split at h
   ·rename_i hf
    cases h
    cases p8 r1
    cases p8 r2
    exact ⟨hf.1,hf.2,rfl⟩
   ·cases h
  ·cases h
 | n + 1,x,y,v,w,b,h,r1,r2=>by
  have ih:∀ {x y:PV} {v w:V} {b:Bool},peq n x y=some b->Rep Hs x v->Rep Hs y w->EqP K H n v w b:=fun h r1 r2=>Vi s n h (.inl r1) (.inl r2)
  unfold peq peq1 at h
  split at h
  ·split at h
   ·rename_i hf
    cases h
    cases p8 r1
    cases p8 r2
    exact .inl ⟨hf.1,hf.2,rfl⟩
   ·cases h
  ·obtain ⟨a,vs,rfl,e1,q1⟩:=qy s r1
   obtain ⟨c,ws,rfl,e2,q2⟩:=qy s r2
   refine .inr (.inl ⟨a,c,vs,ws,rfl,rfl,SqL.of e1,SqL.of e2,?_⟩)
   split at h
   ·rename_i hl
    obtain ⟨e,he,hb⟩:=Vj s ih h q1 q2
    have hl':vs.length=ws.length:=by rw [q1.length,q2.length,hl]
    exact .inr ⟨hl',e,he,by rw [hb,<- hl',Nat.min_self]⟩
   ·rename_i hl
    cases h
    exact .inl ⟨by rw [q1.length,q2.length];exact hl,rfl⟩
  ·obtain ⟨a,vs,rfl,e1,q1⟩:=xg s r1
   obtain ⟨c,ws,rfl,e2,q2⟩:=xg s r2
   obtain ⟨d,ed,h1⟩:=bind_some h
   cases h1
   obtain ⟨e,he,hb⟩:=Vj s ih ed q1 q2
   exact .inr (.inr (.inl ⟨a,c,vs,ws,rfl,rfl,SqT.of e1,SqT.of e2,e,he,by rw [hb,q1.length,q2.length]⟩))
  ·cases h
   obtain ⟨a,vs,rfl,e1,q1⟩:=qy s r1
   obtain ⟨c,ws,rfl,e2,q2⟩:=xg s r2
   exact .inr (.inr (.inr (.inl ⟨a,c,vs,ws,rfl,rfl,SqL.of e1,SqT.of e2,rfl⟩)))
  ·cases h
   obtain ⟨a,vs,rfl,e1,q1⟩:=xg s r1
   obtain ⟨c,ws,rfl,e2,q2⟩:=qy s r2
   exact .inr (.inr (.inr (.inr (.inl ⟨a,c,vs,ws,rfl,rfl,SqT.of e1,SqL.of e2,rfl⟩))))
  ·split at h
   ·rename_i hf
    cases h
    cases p8 r1
    obtain ⟨c,ws,rfl,e2,q2⟩:=qy s r2
    exact .inr (.inr (.inr (.inr (.inr (.inl ⟨c,ws,hf,rfl,.inl (SqL.of e2),rfl⟩)))))
   ·cases h
  ·split at h
   ·rename_i hf
    cases h
    cases p8 r1
    obtain ⟨c,ws,rfl,e2,q2⟩:=xg s r2
    exact .inr (.inr (.inr (.inr (.inr (.inl ⟨c,ws,hf,rfl,.inr (SqT.of e2),rfl⟩)))))
   ·cases h
  ·split at h
   ·rename_i hf
    cases h
    cases p8 r2
    obtain ⟨c,ws,rfl,e2,q2⟩:=qy s r1
    exact .inr (.inr (.inr (.inr (.inr (.inr ⟨c,ws,hf,rfl,.inl (SqL.of e2),rfl⟩)))))
   ·cases h
  ·split at h
   ·rename_i hf
    cases h
    cases p8 r2
    obtain ⟨c,ws,rfl,e2,q2⟩:=xg s r1
    exact .inr (.inr (.inr (.inr (.inr (.inr ⟨c,ws,hf,rfl,.inr (SqT.of e2),rfl⟩)))))
   ·cases h
  ·cases h
def qw:PV->PV->Option PV:=fun x y=>(peq 6 x y).bind fun b=>some (.at (.bl b))
def pNe:PV->PV->Option PV:=fun x y=>(peq 6 x y).bind fun b=>some (.at (.bl (!b)))
instance {K:Fg}:xm (rEqD K 6 false) qw where
 h:=fun {x y z} e {Hs H v w} s a b {Q} q=>by
  obtain ⟨c,ec,e1⟩:=bind_some e
  cases e1
  exact ⟨c,Vi s 6 ec a b,q _ _ _ (.refl s) (rep_at.mpr rfl)⟩
instance {K:Fg}:xm (rEqD K 6 true) pNe where
 h:=fun {x y z} e {Hs H v w} s a b {Q} q=>by
  obtain ⟨c,ec,e1⟩:=bind_some e
  cases e1
  exact ⟨c,Vi s 6 ec a b,q _ _ _ (.refl s) (rep_at.mpr rfl)⟩
class SemP (to:TO)(f:ME->Option (Option Int)):Prop where
 h:∀ {ε y},f ε=some y->∀ {Hs0 H0 Hs H σ},RS Hs0 H0 Hs H σ ε->∀ {Q:Option Int->Hp->Prop},(∀ Hs' H',Ext Hs H Hs' H'->Q y H')->to σ H Q
def pNo:ME->Option (Option Int):=fun _=>some none
def pInt:PV->Option Int
 | .at (.int i)=>some i
 | _=>none
def pSo (a:M):ME->Option (Option Int):=fun ε=>(a ε).bind fun x=>(pInt x).bind fun i=>some (some i)
instance:SemP Kd pNo where
 h:=fun e _ _ _ _ _ rs _ q=>by cases e;exact q _ _ (.refl rs.sub)
instance {te:TE}{a:M}[sa:qc te a]:SemP (Kf te) (pSo a) where
 h:=fun e _ _ _ _ _ rs _ q=>by
  obtain ⟨x,ex,e1⟩:=bind_some e
  obtain ⟨i,ei,e2⟩:=bind_some e1
  cases e2
  unfold pInt at ei
  split at ei
  ·cases ei
   exact sa.h ex rs fun v Hs1 H1 x1 r1=>⟨_,p8 r1,q _ _ x1⟩
  ·cases ei
def jN (xs:List PV)(lo hi:Option Int):List PV:=(xs.drop (HT.sIx xs.length 0 lo)).take (HT.sIx xs.length xs.length hi - HT.sIx xs.length 0 lo)
theorem Reps.cut {H:Hp}{xs:List PV}{vs:List V}(r:Reps H xs vs)(lo hi:Option Int):Reps H (jN xs lo hi) (vP vs lo hi):=by
 unfold jN vP
 rw [r.length]
 exact (r.drop _).take _
def Qa (a:M)(l u:ME->Option (Option Int)):M:=fun ε=>(a ε).bind fun x=>(l ε).bind fun lo=>(u ε).bind fun hi=>match x with
 | .lst xs=>some (.lst (jN xs lo hi))
 | _=>none
instance {K:Fg}{te:TE}{tl th:TO}{a:M}{l u:ME->Option (Option Int)}[sa:qc te a][sl:SemP tl l][su:SemP th u]:xM (tSl (rSlL K) te tl th) (Qa a l u) where
 h:=fun e _ _ _ _ _ rs _ q=>by
  obtain ⟨x,ex,e1⟩:=bind_some e
  obtain ⟨lo,el,e2⟩:=bind_some e1
  obtain ⟨hi,eu,e3⟩:=bind_some e2
  split at e3
  ·cases e3
   refine sa.h ex rs fun v Hs1 H1 x1 r1=>sl.h el (rs.go x1) fun Hs2 H2 x2=>su.h eu ((rs.go x1).go x2) fun Hs3 H3 x3=>?_
   obtain ⟨p,vs,rfl,e1,r⟩:=qy x3.s3 ((r1.ext x2).ext x3)
   have x13:=x1.trans (x2.trans x3)
   exact ⟨p,vs,rfl,SqL.of e1,fun d hd=>q d _ _ (x13.trans (.newO x3.s3 hd)) (x13.s2.free hd) (x3.s3.free hd) ⟨_,y4,r.cut lo hi⟩⟩
  ·cases e3
def xw (n:Nat):List PV->List PV
 | []=>[]
 | x::xs=> .tup [.at (.int n),x]::xw (n + 1) xs
theorem YG:∀ {xs:List PV} {n i:Nat} {z:PV},(xw n xs)[i]?=some z->∃ x,xs[i]?=some x/\z = .tup [.at (.int ((n + i:Nat):Int)),x]
 | [],n,i,z,h=>by simp [xw] at h
 | x::xs,n,0,z,h=>by simp [xw] at h;exact ⟨x,rfl,h.symm⟩
 | x::xs,n,i + 1,z,h=>by
  obtain ⟨y,h1,h2⟩:=YG (xs:=xs) (n:=n + 1) (i:=i) (z:=z) (by simpa [xw] using h)
  exact ⟨y,by simpa using h1,by rw [h2,show n + 1 + i=n + (i + 1) by omega]⟩
theorem YH:∀ {xs:List PV} {n:Nat},(xw n xs).length=xs.length
 | [],_=>rfl
 | x::xs,n=>by simp [xw,YH]
theorem PZ {K:Fg}{a:Addr}{xs:List PV}{vs:List V}{Hs:Hp}(h:Hs a=some (.lst vs))(r:Reps Hs xs vs):jq (Ite K a) (xw 0 xs) Hs where
 go:=fun i x Hs1 H1 e g1 g2=>by
  obtain ⟨y,ey,rfl⟩:=YG e
  obtain ⟨v,ev,rv⟩:=r.get ey
  refine ⟨⟨vs,v,SqL.of (g2 _ _ (g1 _ _ h)),ev⟩,fun w H2 z=>?_⟩
  obtain ⟨p,u,hp,rfl,rfl,hu⟩:=z
  have e1:=hu vs (SqL.of (g2 _ _ (g1 _ _ h)))
  rw [ev] at e1
  cases e1
  refine ⟨_,.new g2 hp,rep_tup.mpr ⟨p,_,rfl,y4,.cons (rep_at.mpr (by rw [Nat.zero_add])) (.one (rv.mono (g1.trans (Ext.new g2 hp).s1)))⟩⟩
 stop:=fun Hs1 H1 g1 g2=>⟨vs,SqL.of (g2 _ _ (g1 _ _ h)),by rw [r.length,YH];exact Nat.le_refl _⟩
def wX (a:MA):MA:=fun ε=>(a ε).bind fun xs=>match xs with
 | [.lst ys]=>some (xw 0 ys)
 | _=>none
instance {K:Fg}{ta:TA}{a:MA}[sa:xl ta a]:zR (JJ K ta) (wX a) where
 h:=fun e _ _ _ _ _ rs _ q=>by
  obtain ⟨xs,ex,e1⟩:=bind_some e
  split at e1
  ·cases e1
   refine sa.h ex rs fun vs Hs1 H1 x1 r1=>?_
   obtain ⟨v,r,rfl,p1,p2⟩:=reps_cons.mp r1
   cases reps_nil.mp p2
   obtain ⟨p,ws,rfl,hp,rw⟩:=rep_lst.mp p1
   exact ⟨p,rfl,⟨ws,SqL.of (x1.s3 _ _ hp)⟩,q _ _ _ x1 (PZ hp rw)⟩
  ·cases e1
def qZ:List PV->List PV->List PV
 | x::xs,y::ys=> .tup [x,y]::qZ xs ys
 | _,_=>[]
theorem KJ:∀ {xs ys:List PV} {i:Nat} {z:PV},(qZ xs ys)[i]?=some z->∃ x y,xs[i]?=some x/\ys[i]?=some y/\z = .tup [x,y]
 | [],_,i,z,h=>by simp [qZ] at h
 | _::_,[],i,z,h=>by simp [qZ] at h
 | x::xs,y::ys,0,z,h=>by simp [qZ] at h;exact ⟨x,y,rfl,rfl,h.symm⟩
 | x::xs,y::ys,i + 1,z,h=>by
  obtain ⟨u,v,h1,h2,h3⟩:=KJ (xs:=xs) (ys:=ys) (i:=i) (z:=z) (by simpa [qZ] using h)
  exact ⟨u,v,by simpa using h1,by simpa using h2,h3⟩
theorem KK:∀ {xs ys:List PV},(qZ xs ys).length=min xs.length ys.length
 | [],_=>by simp [qZ]
 | _::_,[]=>by simp [qZ]
 | x::xs,y::ys=>by simp [qZ,KK,Nat.succ_min_succ]
theorem Cf {K:Fg}{a b:Addr}{xs ys:List PV}{vs ws:List V}{Hs:Hp}(h:Hs a=some (.lst vs))(r:Reps Hs xs vs)(h':Hs b=some (.lst ws))(r':Reps Hs ys ws):jq (Itz K a b) (qZ xs ys) Hs where
 go:=fun i x Hs1 H1 e g1 g2=>by
  obtain ⟨y,z,ey,ez,rfl⟩:=KJ e
  obtain ⟨v,ev,rv⟩:=r.get ey
  obtain ⟨w,ew,rw⟩:=r'.get ez
  have q1:SqL K H1 a vs:=SqL.of (g2 _ _ (g1 _ _ h))
  have q2:SqL K H1 b ws:=SqL.of (g2 _ _ (g1 _ _ h'))
  refine ⟨⟨vs,ws,v,w,q1,q2,ev,ew⟩,fun u H2 z=>?_⟩
  obtain ⟨p,v',w',hp,rfl,rfl,hv,hw⟩:=z
  have e1:=hv vs q1
  have e2:=hw ws q2
  rw [ev] at e1
  rw [ew] at e2
  cases e1
  cases e2
  have g3:=g1.trans (Ext.new (o:= .tup [v,w]) g2 hp).s1
  exact ⟨_,.new g2 hp,rep_tup.mpr ⟨p,_,rfl,y4,.cons (rv.mono g3) (.one (rw.mono g3))⟩⟩
 stop:=fun Hs1 H1 g1 g2=>⟨vs,ws,SqL.of (g2 _ _ (g1 _ _ h)),SqL.of (g2 _ _ (g1 _ _ h')),by rw [r.length,r'.length,KK];omega⟩
def vS (a:MA):MA:=fun ε=>(a ε).bind fun xs=>match xs with
 | [.lst ys,.lst zs]=>some (qZ ys zs)
 | _=>none
instance {K:Fg}{ta:TA}{a:MA}[sa:xl ta a]:zR (iZip K ta) (vS a) where
 h:=fun e _ _ _ _ _ rs _ q=>by
  obtain ⟨xs,ex,e1⟩:=bind_some e
  split at e1
  ·cases e1
   refine sa.h ex rs fun vs Hs1 H1 x1 r1=>?_
   obtain ⟨v,r,rfl,p1,p2⟩:=reps_cons.mp r1
   obtain ⟨v',r',rfl,p3,p4⟩:=reps_cons.mp p2
   cases reps_nil.mp p4
   obtain ⟨p,ws,rfl,hp,rw1⟩:=rep_lst.mp p1
   obtain ⟨p',ws',rfl,hp',rw2⟩:=rep_lst.mp p3
   exact ⟨p,p',rfl,⟨ws,SqL.of (x1.s3 _ _ hp)⟩,⟨ws',SqL.of (x1.s3 _ _ hp')⟩,q _ _ _ x1 (Cf hp rw1 hp' rw2)⟩
  ·cases e1
end Mi
namespace Mi
open PySem L2
structure RD (S:List Addr)(Hs0 H0 Hs H:Hp)(σ:St)(ε:ME):Prop where
 s1:Same Hs0 Hs
 s2:∀ b o,H0 b=some o->b ∉ S->H b=some o
 s3:Same Hs H
 s4:∀ b,H0 b ≠ none->Hs0 b=none->Hs b=none
 sh:∀ (i:Nat) (x:PV),ε[i]?=some (.sh x)->∃ v,σ[i]?=some (some v)/\Rep Hs x v
 ow:∀ (i:Nat) (x:PV),ε[i]?=some (.ow x)->∃ a,σ[i]?=some (some (.ref a))/\(H0 a=none ∨ a ∈ S)/\Hs a=none/\Top Hs H a x
 nd:∀ (i j:Nat) (x y:PV) (a:Addr),ε[i]?=some (.ow x)->ε[j]?=some (.ow y)->σ[i]?=some (some (.ref a))->σ[j]?=some (some (.ref a))->i=j
 len:σ.length=ε.length
 pin:∀ a ∈ S,σ[0]?=some (some (.ref a))
 live:∀ a ∈ S,H a ≠ none
 str:∀ a ∈ S,∃ y,ε[0]?=some (.ow y)
 nb:∀ (i:Nat) (x:PV),ε[i]? ≠ some (.bo x)
section
variable {S:List Addr}{Hs0 H0 Hs H Hs' H':Hp}{σ:St}{ε:ME}
theorem RD.rs (r:RD S Hs0 H0 Hs H σ ε):RS Hs Hs Hs H σ ε where
 ext:=⟨.refl _,r.s3,r.s3,fun _ h z=>absurd z h⟩
 sh:=r.sh
 ow:=fun i x h=>by obtain ⟨a,h1,_,h3,h4⟩:=r.ow i x h;exact ⟨a,h1,h3,h3,h4⟩
 nd:=r.nd
 len:=r.len
 bo:=fun i x h=>absurd h (r.nb i x)
theorem RD.there (r:RD S Hs0 H0 Hs H σ ε){b:Addr}(h:H0 b ≠ none):H b ≠ none:=by
 by_cases hS:b ∈ S
 ·exact r.live b hS
 ·cases q:H0 b with
  | none=>exact absurd q h
  | some o=>rw [r.s2 b o q hS];exact fun z=>nomatch z
theorem RD.go (r:RD S Hs0 H0 Hs H σ ε)(e:Ext Hs H Hs' H'):RD S Hs0 H0 Hs' H' σ ε where
 s1:=r.s1.trans e.s1
 s2:=fun b o h n=>e.s2 _ _ (r.s2 b o h n)
 s3:=e.s3
 s4:=fun b h z=>e.s4 b (r.there h) (r.s4 b h z)
 sh:=fun i x q=>by obtain ⟨v,a,b⟩:=r.sh i x q;exact ⟨v,a,b.mono e.s1⟩
 ow:=fun i x q=>by
  obtain ⟨a,b,n0,n,t⟩:=r.ow i x q
  exact ⟨a,b,n0,e.s4 a t.there n,t.mono e.s1 fun o z=>e.s2 _ _ z⟩
 nd:=r.nd
 len:=r.len
 pin:=r.pin
 live:=fun a h=>GP e.s2 (r.live a h)
 str:=r.str
 nb:=r.nb
theorem RD.change (r:RD S Hs0 H0 Hs H σ ε){i:Nat}{x y:PV}{a:Addr}{o:HO}(hi:ε[i]?=some (.ow x))(ha:σ[i]?=some (some (.ref a)))(t:Top Hs (j7 H a o) a y):RD S Hs0 H0 Hs (j7 H a o) σ (ε.set i (.ow y)):=by
 obtain ⟨b,hb,n0,n,tx⟩:=r.ow i x hi
 rw [ha] at hb
 injection hb with hb;injection hb with hb;injection hb with hb
 subst hb
 have q:=(r.rs).change hi ha t
 refine ⟨r.s1,fun b u e hS=>?_,fun b u e=>?_,r.s4,q.sh,fun j z hz=>?_,q.nd,q.len,r.pin,fun b hS=>?_,fun b hS=>?_,wv r.nb fun _ z=>nomatch z⟩
 ·have hne:b ≠ a:=fun z=>by
   rcases n0 with n0 | n0
   ·rw [z,n0] at e;cases e
   ·exact hS (z ▸ n0)
  rw [j3 hne];exact r.s2 b u e hS
 ·rw [j3 (y7 e n)];exact r.s3 _ _ e
 ·obtain ⟨c,hc,m1,m2,tc⟩:=q.ow j z hz
  refine ⟨c,hc,?_,m2,tc⟩
  rw [List.getElem?_set] at hz
  split at hz
  ·rename_i hij
   rw [<- hij,ha] at hc
   injection hc with hc;injection hc with hc;injection hc with hc
   rw [<- hc];exact n0
  ·obtain ⟨d,hd,m0,_⟩:=r.ow j z hz
   rw [hd] at hc
   injection hc with hc;injection hc with hc;injection hc with hc
   rw [<- hc];exact m0
 ·by_cases hba:b=a
  ·rw [hba,y4];exact fun z=>nomatch z
  ·rw [j3 hba];exact r.live b hS
 ·obtain ⟨y',hy⟩:=r.str b hS
  rw [List.getElem?_set]
  split
  ·rename_i h0
   rw [if_pos (by rw [h0];exact (List.getElem?_eq_some_iff.mp hy).1)]
   exact ⟨y,rfl⟩
  ·exact ⟨y',hy⟩
theorem RD.put (r:RD S Hs0 H0 Hs H σ ε){i:Nat}{x:PV}{v:V}(h:Rep Hs x v):RD S Hs0 H0 Hs H (σ.set (i + 1) (some v)) (ε.set (i + 1) (.sh x)):=by
 have q:=(r.rs).put (i:=i + 1) h
 refine ⟨r.s1,r.s2,r.s3,r.s4,q.sh,fun j z hz=>?_,q.nd,q.len,fun a hS=>by rw [List.getElem?_set_ne (by omega)];exact r.pin a hS,r.live,fun a hS=>by rw [List.getElem?_set_ne (by omega)];exact r.str a hS,wv r.nb fun _ z=>nomatch z⟩
 obtain ⟨c,hc,m1,m2,tc⟩:=q.ow j z hz
 refine ⟨c,hc,?_,m2,tc⟩
 rw [List.getElem?_set] at hz hc
 split at hz
 ·split at hz <;> cases hz
 ·rename_i hij
  rw [if_neg hij] at hc
  obtain ⟨d,hd,m0,_⟩:=r.ow j z hz
  rw [hd] at hc
  injection hc with hc;injection hc with hc;injection hc with hc
  rw [<- hc];exact m0
theorem RD.putO (r:RD S Hs0 H0 Hs H σ ε){i:Nat}{x:PV}{a:Addr}(h0:H0 a=none ∨ a ∈ S)(h1:Hs a=none)(h2:Top Hs H a x)(ne:∀ (j:Nat) (y:PV),ε[j]?=some (.ow y)->σ[j]? ≠ some (some (.ref a))):RD S Hs0 H0 Hs H (σ.set (i + 1) (some (.ref a))) (ε.set (i + 1) (.ow x)):=by
 have q:=(r.rs).putO (i:=i + 1) ⟨h1,h1,h2⟩ ne
 refine ⟨r.s1,r.s2,r.s3,r.s4,q.sh,fun j z hz=>?_,q.nd,q.len,fun a hS=>by rw [List.getElem?_set_ne (by omega)];exact r.pin a hS,r.live,fun a hS=>by rw [List.getElem?_set_ne (by omega)];exact r.str a hS,wv r.nb fun _ z=>nomatch z⟩
 obtain ⟨c,hc,m1,m2,tc⟩:=q.ow j z hz
 refine ⟨c,hc,?_,m2,tc⟩
 rw [List.getElem?_set] at hz hc
 split at hz
 ·rename_i hij
  rw [if_pos hij] at hc
  split at hc
  ·injection hc with hc;injection hc with hc;injection hc with hc
   rw [<- hc];exact h0
  ·cases hc
 ·rename_i hij
  rw [if_neg hij] at hc
  obtain ⟨d,hd,m0,_⟩:=r.ow j z hz
  rw [hd] at hc
  injection hc with hc;injection hc with hc;injection hc with hc
  rw [<- hc];exact m0
theorem RD.free0 (r:RD S Hs0 H0 Hs H σ ε){a:Addr}(h:H a=none):H0 a=none:=by
 cases q:H0 a with
 | none=>rfl
 | some o=>exact absurd h (r.there (by rw [q];exact fun z=>nomatch z))
theorem RD.freeze (r:RD S Hs0 H0 Hs H σ ε)(i:Nat):∃ Hs',Same Hs Hs'/\RD S Hs0 H0 Hs' H σ (fz (i + 1) ε):=by
 by_cases h:∃ x,ε[i + 1]?=some (.ow x)
 ·obtain ⟨x,hi⟩:=h
  obtain ⟨a,ha,n0,n,t⟩:=r.ow (i + 1) x hi
  have hS:a ∉ S:=fun hS=>by
   obtain ⟨y,hy⟩:=r.str a hS
   exact absurd (r.nd 0 (i + 1) y x a hy hi (r.pin a hS) ha) (by omega)
  obtain ⟨o,ho,hr⟩:=t.rep n
  have g:Same Hs (j7 Hs a o):=fun b u e=>by rw [j3 (y7 e n)];exact e
  have ef:fz (i + 1) ε=ε.set (i + 1) (.sh x):=by unfold fz;rw [hi]
  have n0':H0 a=none:=n0.resolve_right hS
  rw [ef]
  have dn:∀ (j:Nat) (y:PV),(ε.set (i + 1) (.sh x))[j]?=some (.ow y)->i + 1 ≠ j/\ε[j]?=some (.ow y):=fun j y q=>by
   rw [List.getElem?_set] at q
   split at q
   ·split at q <;> cases q
   ·rename_i hij;exact ⟨hij,q⟩
  refine ⟨j7 Hs a o,g,r.s1.trans g,r.s2,fun b u e=>?_,fun b h z=>?_,fun j y q=>?_,fun j y q=>?_,fun j k z z' c h1 h2 h3 h4=>r.nd j k z z' c (dn j z h1).2 (dn k z' h2).2 h3 h4,by rw [List.length_set,r.len],r.pin,r.live,(fun b hb=>by rw [List.getElem?_set_ne (by omega)];exact r.str b hb),wv r.nb fun _ z=>nomatch z⟩
  ·by_cases hb:b=a
   ·subst hb;rw [y4] at e;cases e;exact ho
   ·rw [j3 hb] at e;exact r.s3 _ _ e
  ·have hb:b ≠ a:=fun e=>h (e ▸ n0')
   rw [j3 hb];exact r.s4 b h z
  ·rw [List.getElem?_set] at q
   split at q
   ·rename_i hij
    split at q
    ·injection q with q;injection q with q;subst q
     exact ⟨.ref a,hij ▸ ha,hr⟩
    ·cases q
   ·obtain ⟨v,e,w⟩:=r.sh j y q
    exact ⟨v,e,w.mono g⟩
  ·obtain ⟨hij,hq⟩:=dn j y q
   obtain ⟨c,hc,m0,m,tc⟩:=r.ow j y hq
   have hne:c ≠ a:=fun e=>hij (r.nd (i + 1) j x y a hi hq ha (e ▸ hc))
   exact ⟨c,hc,m0,by rw [j3 hne];exact m,tc.mono g fun _ e=>e⟩
 ·refine ⟨Hs,.refl _,?_⟩
  unfold fz
  split
  ·rename_i x hx;exact absurd ⟨x,hx⟩ h
  ·exact r
end
abbrev W:=ME->(PV->ME->Prop)->Prop
abbrev WA:=ME->(List PV->ME->Prop)->Prop
abbrev WT:=ME->(Bool->ME->Prop)->Prop
abbrev WS:=ME->(ME->Prop)->(PV->ME->Prop)->Prop
class SemW (te:TE)(w:W):Prop where
 h:∀ {ε Q'},w ε Q'->∀ {S Hs0 H0 Hs H σ},RD S Hs0 H0 Hs H σ ε->∀ {Q:VK},(∀ y ε' v Hs' H',Q' y ε'->RD S Hs0 H0 Hs' H' σ ε'->Same Hs Hs'->Rep Hs' y v->Q v H')->te σ H Q
class jr (ta:TA)(w:WA):Prop where
 h:∀ {ε Q'},w ε Q'->∀ {S Hs0 H0 Hs H σ},RD S Hs0 H0 Hs H σ ε->∀ {Q:List V->Hp->Prop},(∀ ys ε' vs Hs' H',Q' ys ε'->RD S Hs0 H0 Hs' H' σ ε'->Same Hs Hs'->Reps Hs' ys vs->Q vs H')->ta σ H Q
class zS (tt:TT)(w:WT):Prop where
 h:∀ {ε Q'},w ε Q'->∀ {S Hs0 H0 Hs H σ},RD S Hs0 H0 Hs H σ ε->∀ {Q:Bool->Hp->Prop},(∀ b ε' Hs' H',Q' b ε'->RD S Hs0 H0 Hs' H' σ ε'->Same Hs Hs'->Q b H')->tt σ H Q
class SemWS (ts:TS)(w:WS):Prop where
 h:∀ {ε N R},w ε N R->∀ {S Hs0 H0 Hs H σ},RD S Hs0 H0 Hs H σ ε->∀ {D:xV},(∀ ε' σ' Hs' H',N ε'->RD S Hs0 H0 Hs' H' σ' ε'->Same Hs Hs'->D.nx σ' H') ->
  (∀ y ε' σ' v Hs' H',R y ε'->RD S Hs0 H0 Hs' H' σ' ε'->Same Hs Hs'->Rep Hs' y v->D.rt v H')->ts D σ H
def wP (f:M):W:=fun ε Q=>∃ y,f ε=some y/\Q y ε
def wPT (f:MB):WT:=fun ε Q=>∃ y,f ε=some y/\Q y ε
instance (priority:=50){te:TE}{f:M}[s:SemE te f]:SemW te (wP f) where
 h:=fun ⟨y,e,q⟩ _ _ _ _ _ _ r _ k=>s.h e r.rs fun v Hs' H' x rv=>k y _ v Hs' H' q (r.go x) x.s1 rv
instance (priority:=50){tt:TT}{f:MB}[s:xn tt f]:zS tt (wPT f) where
 h:=fun ⟨y,e,q⟩ _ _ _ _ _ _ r _ k=>s.h e r.rs fun Hs' H' x=>k y _ Hs' H' q (r.go x) x.s1
def qQ (g:PV->PV->Option PV)(a b:W):W:=fun ε Q=>a ε fun x ε1=>b ε1 fun y ε2=>∃ z,g x y=some z/\Q z ε2
instance {r:R2}{g:PV->PV->Option PV}{ta tb:TE}{a b:W}[sr:xm r g][sa:SemW ta a][sb:SemW tb b]:SemW (tOp r ta tb) (qQ g a b) where
 h:=fun h _ _ _ _ _ _ rd _ k=>sa.h h rd fun x ε1 v Hs1 H1 h1 rd1 g1 r1=>sb.h h1 rd1 fun y ε2 w Hs2 H2 h2 rd2 g2 r2=>by
  obtain ⟨z,ez,h2⟩:=h2
  exact sr.h ez rd2.s3 (.inl (r1.mono g2)) (.inl r2) fun u Hs3 H3 x3 r3=>k z ε2 u Hs3 H3 h2 (rd2.go x3) (g1.trans (g2.trans x3.s1)) r3
def wT (a:W):WT:=fun ε Q=>a ε fun x ε1=>∃ b,pB x=some b/\Q b ε1
instance {te:TE}{a:W}[sa:SemW te a]:zS (Jd te) (wT a) where
 h:=fun h _ _ _ _ _ _ rd _ k=>sa.h h rd fun x ε1 v Hs1 H1 h1 rd1 g1 r1=>by
  obtain ⟨b,eb,h2⟩:=h1
  cases wz eb
  exact ⟨b,rep_at.mp r1,k b ε1 Hs1 H1 h2 rd1 g1⟩
def wAnd (a b:WT):WT:=fun ε Q=>a ε fun c ε1=>if c=true then b ε1 Q else Q false ε1
instance {t u:TT}{a b:WT}[sa:zS t a][sb:zS u b]:zS (tAnd t u) (wAnd a b) where
 h:=fun h _ _ _ _ _ _ rd _ k=>sa.h h rd fun c ε1 Hs1 H1 h1 rd1 g1=>by
  cases c with
  | true=>exact xZ (sb.h (by simpa using h1) rd1 fun c2 ε2 Hs2 H2 h2 rd2 g2=>k c2 ε2 Hs2 H2 h2 rd2 (g1.trans g2))
  | false=>exact xY (k false ε1 Hs1 H1 (by simpa using h1) rd1 g1)
def qz:WA:=fun ε Q=>Q [] ε
def g9 (a:W)(r:WA):WA:=fun ε Q=>a ε fun x ε1=>r ε1 fun xs ε2=>Q (x::xs) ε2
instance:jr xU qz where
 h:=fun h _ _ _ _ _ _ rd _ k=>k [] _ [] _ _ h rd (.refl _) .nil
instance {te:TE}{ta:TA}{a:W}{r:WA}[sa:SemW te a][sr:jr ta r]:jr (xC te ta) (g9 a r) where
 h:=fun h _ _ _ _ _ _ rd _ k=>sa.h h rd fun x ε1 v Hs1 H1 h1 rd1 g1 r1=>sr.h h1 rd1 fun xs ε2 vs Hs2 H2 h2 rd2 g2 r2=>k _ ε2 _ Hs2 H2 h2 rd2 (g1.trans g2) (.cons (r1.mono g2) r2)
def wL (a:WA):W:=fun ε Q=>a ε fun xs ε1=>xs.length<=lim/\Q (.tup xs) ε1
instance {ta:TA}{a:WA}[sa:jr ta a]:SemW (tTup ta) (wL a) where
 h:=fun h _ _ _ _ _ _ rd _ k=>sa.h h rd fun xs ε1 vs Hs1 H1 h1 rd1 g1 r1=>⟨xQ (r1.length ▸ h1.1),fun p hp=>k _ ε1 _ _ _ h1.2 (rd1.go (.new rd1.s3 hp)) (g1.trans (Ext.new rd1.s3 hp).s1) (rep_tup.mpr ⟨p,vs,rfl,y4,r1.mono (Ext.new rd1.s3 hp).s1⟩)⟩
def jg:Sp:=fun vs H Q _=>∃ (a:Addr) (n m:Int),vs=[.ref a,.int m]/\H a=some (.lst [.int n])/\jn n m/\Q (.int (n % m)) (j7 H a (.lst [.int (n / m)]))
def g0 (n:Int):MSlot:= .ow (.lst [.at (.int n)])
def wTake (i:Nat)(a:W):W:=fun ε Q=>a ε fun x ε1=>∃ n k,x = .at (.int k)/\ε1[i]?=some (g0 n)/\jn n k/\Q (.at (.int (n % k))) (ε1.set i (g0 (n / k)))
theorem RD.strm_at {S:List Addr}{Hs0 H0 Hs H:Hp}{σ:St}{ε:ME}{i:Nat}{n:Int}(r:RD S Hs0 H0 Hs H σ ε)(h:ε[i]?=some (g0 n)):∃ a,σ[i]?=some (some (.ref a))/\H a=some (.lst [.int n])/\Hs a=none/\(H0 a=none ∨ a ∈ S):=by
 obtain ⟨a,ha,n0,n1,vs,hv,rv⟩:=r.ow i _ h
 obtain ⟨v,w,rfl,p1,p2⟩:=reps_cons.mp rv
 cases reps_nil.mp p2
 cases rep_at.mp p1
 exact ⟨a,ha,hv,n1,n0⟩
def xo (i:Nat):ME->Prop:=fun ε=>∃ n,ε[i]?=some (g0 n)
def i4 (i:Nat)(a:W):W:=fun ε Q=>xo i ε/\wTake i a ε Q
instance {i:Nat}{te:TE}{a:W}{E:XK}[sa:SemW te a]:SemW (ji jg [] E (xC (qW i) (xC te xU))) (i4 i a) where
 h:=fun h _ _ _ _ _ _ rd _ k=>by
  obtain ⟨⟨n0,hn0⟩,h⟩:=h
  obtain ⟨p,hp,_⟩:=rd.strm_at hn0
  refine ⟨_,hp,sa.h h rd fun x ε1 v Hs1 H1 h1 rd1 g1 r1=>?_⟩
  obtain ⟨n,m,rfl,hn,hc,h2⟩:=h1
  obtain ⟨p',hp',hH,hs,_⟩:=rd1.strm_at hn
  rw [hp] at hp'
  injection hp' with hp';injection hp' with hp';injection hp' with hp'
  subst hp'
  cases rep_at.mp r1
  exact ⟨p,n,m,rfl,hH,hc,k _ _ _ _ _ h2 (rd1.change hn hp ⟨_,y4,.one (rep_at.mpr rfl)⟩) g1 (rep_at.mpr rfl)⟩
end Mi
namespace Mi
open PySem L2
structure ExtD (p:Addr)(Hs H Hs' H':Hp):Prop where
 s1:Same Hs Hs'
 s2:∀ b o,H b=some o->b ≠ p->H' b=some o
 s3:Same Hs' H'
 s4:∀ b,H b ≠ none->Hs b=none->Hs' b=none
def spD (pre:List PV->Prop)(R:List PV->PV->Prop):Sp:=fun vs H Q _=>∃ Hs a n xs ws,vs = .ref a::ws/\Same Hs H/\Hs a=none/\H a=some (.lst [.int n])/\Reps Hs xs ws/\pre xs /\
 ∀ y v n' Hs' H',R xs y->ExtD a Hs H Hs' H'->Hs' a=none->H' a=some (.lst [.int n'])->Rep Hs' y v->Q v H'
section
variable {S:List Addr}{Hs0 H0 Hs H Hs' H':Hp}{σ:St}{ε:ME}
theorem RD.drawn (r:RD S Hs0 H0 Hs H σ ε){i:Nat}{n n':Int}{p:Addr}(hi:ε[i]?=some (g0 n))(hp:σ[i]?=some (some (.ref p)))(x:ExtD p Hs H Hs' H')(np:Hs' p=none)(ep:H' p=some (.lst [.int n'])) :
  RD S Hs0 H0 Hs' H' σ (ε.set i (g0 n')):=by
 obtain ⟨p',hp',hH,hs,h0⟩:=r.strm_at hi
 rw [hp] at hp'
 injection hp' with hp';injection hp' with hp';injection hp' with hp'
 subst hp'
 have up:∀ (j:Nat) (z:PV),(ε.set i (g0 n'))[j]?=some (.ow z)->(j=i/\z = .lst [.at (.int n')]) ∨ (j ≠ i/\ε[j]?=some (.ow z)):=fun j z q=>by
  rw [List.getElem?_set] at q
  split at q
  ·rename_i hij
   split at q
   ·injection q with q
    unfold g0 at q
    injection q with q
    exact .inl ⟨hij.symm,q.symm⟩
   ·cases q
  ·rename_i hij;exact .inr ⟨Ne.symm hij,q⟩
 have wasOw:∀ (j:Nat) (z:PV),(ε.set i (g0 n'))[j]?=some (.ow z)->∃ z',ε[j]?=some (.ow z'):=fun j z q=>by
  rcases up j z q with ⟨rfl,_⟩ | ⟨_,q⟩
  ·exact ⟨_,hi⟩
  ·exact ⟨z,q⟩
 refine ⟨r.s1.trans x.s1,fun b o e hS=>x.s2 b o (r.s2 b o e hS) fun z=>?_,x.s3,fun b h z=>x.s4 b (r.there h) (r.s4 b h z),fun j z q=>?_,fun j z q=>?_,fun j k z z' c h1 h2 h3 h4=>?_,by rw [List.length_set,r.len],r.pin,fun b hS=>?_,fun b hS=>?_,wv r.nb fun _ z=>by unfold g0 at z;cases z⟩
 ·rcases h0 with h0 | h0
  ·rw [z,h0] at e;cases e
  ·exact hS (z ▸ h0)
 ·rw [List.getElem?_set] at q
  split at q
  ·split at q
   ·unfold g0 at q;cases q
   ·cases q
  ·obtain ⟨v,h1,h2⟩:=r.sh j z q
   exact ⟨v,h1,h2.mono x.s1⟩
 ·rcases up j z q with ⟨rfl,rfl⟩ | ⟨hij,q⟩
  ·exact ⟨p,hp,h0,np,_,ep,.one (rep_at.mpr rfl)⟩
  ·obtain ⟨c,hc,m0,m1,tc⟩:=r.ow j z q
   have hne:c ≠ p:=fun e=>hij (r.nd j i z _ p q hi (e ▸ hc) hp)
   exact ⟨c,hc,m0,x.s4 c tc.there m1,tc.mono x.s1 fun o e=>x.s2 c o e hne⟩
 ·obtain ⟨w1,q1⟩:=wasOw j z h1
  obtain ⟨w2,q2⟩:=wasOw k z' h2
  exact r.nd j k w1 w2 c q1 q2 h3 h4
 ·by_cases hb:b=p
  ·rw [hb,ep];exact fun z=>nomatch z
  ·have:=r.live b hS
   cases q:H b with
   | none=>exact absurd q this
   | some o=>rw [x.s2 b o q hb];exact fun z=>nomatch z
 ·obtain ⟨y',hy⟩:=r.str b hS
  rw [List.getElem?_set]
  split
  ·rename_i h0
   rw [if_pos (by rw [h0];exact (List.getElem?_eq_some_iff.mp hy).1)]
   exact ⟨_,rfl⟩
  ·exact ⟨y',hy⟩
end
def zf (i:Nat)(pre:List PV->Prop)(R:List PV->PV->Prop)(as:WA):W:=fun ε Q=>xo i ε/\as ε fun xs ε1=>xo i ε1/\pre xs/\∀ y n',R xs y->Q y (ε1.set i (g0 n'))
instance {i:Nat}{pre:List PV->Prop}{R:List PV->PV->Prop}{ta:TA}{as:WA}{E:XK}[sa:jr ta as]:SemW (ji (spD pre R) [] E (xC (qW i) ta)) (zf i pre R as) where
 h:=fun h _ _ _ _ _ _ rd _ k=>by
  obtain ⟨⟨n0,hn0⟩,h⟩:=h
  obtain ⟨p,hp,_⟩:=rd.strm_at hn0
  refine ⟨_,hp,sa.h h rd fun xs ε1 vs Hs1 H1 h1 rd1 g1 r1=>?_⟩
  obtain ⟨⟨n,hn⟩,hpre,h2⟩:=h1
  obtain ⟨p',hp',hH,hs,_⟩:=rd1.strm_at hn
  rw [hp] at hp'
  injection hp' with hp';injection hp' with hp';injection hp' with hp'
  subst hp'
  refine ⟨Hs1,p,n,xs,vs,by rw [List.append_nil],rd1.s3,hs,hH,r1,hpre,fun y v n' Hs' H' hR x np ep rv=>?_⟩
  exact k y _ v Hs' H' (h2 y n' hR) (rd1.drawn hn hp x np ep) (g1.trans x.s1) rv
def xp:WS:=fun ε N _=>N ε
def wSeq (a b:WS):WS:=fun ε N R=>a ε (fun ε1=>b ε1 N R) R
def t6 (i:Nat)(a:W):WS:=fun ε N _=>a ε fun x ε1=>N (ε1.set i (.sh x))
def jk (i:Nat)(f:M):WS:=fun ε N _=>∃ x,f ε=some x/\N (ε.set i (.ow x))
def qY (a:W):WS:=fun ε _ R=>a ε R
def KF (a:W):WS:=fun ε N _=>a ε fun _ ε1=>N ε1
def qX (c:WT)(a b:WS):WS:=fun ε N R=>c ε fun k ε1=>if k=true then a ε1 N R else b ε1 N R
def wFz (i:Nat)(a:WS):WS:=fun ε N R=>a (fz i ε) N R
def vC (i:Nat)(a:W):WS:=fun ε N _=>(∃ xs,ε[i]?=some (.ow (.lst xs)))/\a ε fun x ε1=>∃ xs,ε1[i]?=some (.ow (.lst xs))/\xs.length<=lim/\N (ε1.set i (.ow (.lst (xs++[x]))))
instance:SemWS VD xp where
 h:=fun h _ _ _ _ _ _ rd _ k _=>k _ _ _ _ h rd (.refl _)
instance {t u:TS}{a b:WS}[sa:SemWS t a][sb:SemWS u b]:SemWS (tSeq t u) (wSeq a b) where
 h:=fun h _ _ _ _ _ _ rd _ k r=>sa.h h rd (fun ε1 σ1 Hs1 H1 h1 rd1 g1=>sb.h h1 rd1 (fun ε2 σ2 Hs2 H2 h2 rd2 g2=>k ε2 σ2 Hs2 H2 h2 rd2 (g1.trans g2)) fun y ε2 σ2 v Hs2 H2 h2 rd2 g2 rv=>r y ε2 σ2 v Hs2 H2 h2 rd2 (g1.trans g2) rv) r
instance {i:Nat}{te:TE}{a:W}[sa:SemW te a]:SemWS (zw te (xx (i + 1))) (t6 (i + 1) a) where
 h:=fun h _ _ _ _ _ _ rd _ k _=>sa.h h rd fun x ε1 v Hs1 H1 h1 rd1 g1 r1=>k _ _ _ _ h1 (rd1.put r1) g1
instance {i:Nat}{te:TE}{f:M}[sa:xM te f]:SemWS (zw te (xx (i + 1))) (jk (i + 1) f) where
 h:=fun ⟨x,e,h⟩ _ _ _ _ _ _ rd _ k _=>sa.h e rd.rs fun a Hs1 H1 x1 n n' t=>k _ _ _ _ h ((rd.go x1).putO (.inl (rd.free0 n)) n' t fun j y hj z=>by
  obtain ⟨b,hb,_,_,tb⟩:=rd.ow j y hj
  rw [z] at hb
  injection hb with hb;injection hb with hb;injection hb with hb
  subst hb
  exact tb.there n) x1.s1
instance {te:TE}{a:W}[sa:SemW te a]:SemWS (wI te) (qY a) where
 h:=fun h _ _ _ _ _ _ rd _ _ r=>sa.h h rd fun x ε1 v Hs1 H1 h1 rd1 g1 r1=>r x ε1 _ v Hs1 H1 h1 rd1 g1 r1
instance {te:TE}{a:W}[sa:SemW te a]:SemWS (wH te) (KF a) where
 h:=fun h _ _ _ _ _ _ rd _ k _=>sa.h h rd fun x ε1 v Hs1 H1 h1 rd1 g1 r1=>k ε1 _ Hs1 H1 h1 rd1 g1
instance {t:TT}{ta tb:TS}{c:WT}{a b:WS}[sc:zS t c][sa:SemWS ta a][sb:SemWS tb b]:SemWS (tIfS t ta tb) (qX c a b) where
 h:=fun h _ _ _ _ _ _ rd _ k r=>sc.h h rd fun c ε1 Hs1 H1 h1 rd1 g1=>by
  cases c with
  | true=>exact xZ (sa.h (by simpa using h1) rd1 (fun ε2 σ2 Hs2 H2 h2 rd2 g2=>k ε2 σ2 Hs2 H2 h2 rd2 (g1.trans g2)) fun y ε2 σ2 v Hs2 H2 h2 rd2 g2 rv=>r y ε2 σ2 v Hs2 H2 h2 rd2 (g1.trans g2) rv)
  | false=>exact xY (sb.h (by simpa using h1) rd1 (fun ε2 σ2 Hs2 H2 h2 rd2 g2=>k ε2 σ2 Hs2 H2 h2 rd2 (g1.trans g2)) fun y ε2 σ2 v Hs2 H2 h2 rd2 g2 rv=>r y ε2 σ2 v Hs2 H2 h2 rd2 (g1.trans g2) rv)
instance {i:Nat}{t:TS}{a:WS}[sa:SemWS t a]:SemWS t (wFz (i + 1) a) where
 h:=fun h _ _ _ _ _ _ rd _ k r=>by
  obtain ⟨Hs',g,rd'⟩:=rd.freeze i
  exact sa.h h rd' (fun ε2 σ2 Hs2 H2 h2 rd2 g2=>k ε2 σ2 Hs2 H2 h2 rd2 (g.trans g2)) fun y ε2 σ2 v Hs2 H2 h2 rd2 g2 rv=>r y ε2 σ2 v Hs2 H2 h2 rd2 (g.trans g2) rv
instance {K:Fg}{i:Nat}{te:TE}{a:W}[sa:SemW te a]:SemWS (wH (tBM K "list" Gg (qW i) (xC te xU))) (vC i a) where
 h:=fun h _ _ _ _ _ _ rd _ k _=>by
  obtain ⟨⟨xs0,hx0⟩,h⟩:=h
  obtain ⟨p,hp,n0,n,vs,hv,rv⟩:=rd.ow i _ hx0
  refine ⟨_,hp,.inl ⟨rfl,vs,SqL.of hv⟩,sa.h h rd fun x ε1 v Hs1 H1 h1 rd1 g1 r1=>?_⟩
  obtain ⟨xs,hx,hl,h2⟩:=h1
  obtain ⟨p',hp',_,n1,ws,hw,rw⟩:=rd1.ow i _ hx
  rw [hp] at hp'
  injection hp' with hp';injection hp' with hp';injection hp' with hp'
  subst hp'
  exact ⟨p,ws,v,rfl,rfl,hw,Uv (by rw [rw.length];exact hl),k _ _ _ _ h2 (rd1.change hx hp ⟨_,y4,rw.append (.one r1)⟩) g1⟩
def QZ (i:Nat)(a:W):W:=fun ε Q=>(∃ xs,ε[i]?=some (.ow (.lst xs)))/\a ε fun x ε1=>∃ xs k y,ε1[i]?=some (.ow (.lst xs))/\x = .at (.int k)/\0<=k/\k < xs.length/\xs.length<=lim/\xs[k.toNat]?=some y/\Q y (ε1.set i (.ow (.lst (xs.eraseIdx k.toNat))))
theorem Reps.eraseIdx {H:Hp}:∀ (i:Nat) {xs:List PV} {vs:List V},Reps H xs vs->Reps H (xs.eraseIdx i) (vs.eraseIdx i)
 | i,[],vs,h=>by rw [reps_nil.mp h];exact .nil
 | 0,x::xs,vs,h=>by obtain ⟨v,r,rfl,p,q⟩:=reps_cons.mp h;exact q
 | i + 1,x::xs,vs,h=>by obtain ⟨v,r,rfl,p,q⟩:=reps_cons.mp h;exact .cons p (Reps.eraseIdx i q)
instance {K:Fg}{i:Nat}{te:TE}{a:W}[sa:SemW te a]:SemW (tBM K "list" Gp (qW i) (xC te xU)) (QZ i a) where
 h:=fun h _ _ _ _ _ _ rd _ k=>by
  obtain ⟨⟨xs0,hx0⟩,h⟩:=h
  obtain ⟨p,hp,n0,n,vs,hv,rv⟩:=rd.ow i _ hx0
  refine ⟨_,hp,.inl ⟨rfl,vs,SqL.of hv⟩,sa.h h rd fun x ε1 v Hs1 H1 h1 rd1 g1 r1=>?_⟩
  obtain ⟨xs,j,y,hx,rfl,j0,j1,hl,hy,h2⟩:=h1
  obtain ⟨p',hp',_,n1,ws,hw,rw⟩:=rd1.ow i _ hx
  rw [hp] at hp'
  injection hp' with hp';injection hp' with hp';injection hp' with hp'
  subst hp'
  cases rep_at.mp r1
  obtain ⟨u,hu,ru⟩:=rw.get hy
  have hlim:lim=1000000:=rfl
  refine ⟨p,ws,j,j.toNat,u,rfl,rfl,hw,by omega,by omega,?_,hu,k _ _ _ _ _ h2 (rd1.change hx hp ⟨_,y4,rw.eraseIdx j.toNat⟩) g1 ru⟩
  unfold seqIndex?
  have e1:(if j < 0 then j + (ws.length:Int) else j)=j:=if_neg (by omega)
  simp only [e1]
  rw [if_pos]
  rw [rw.length]
  simp only [Bool.and_eq_true,decide_eq_true_eq]
  exact ⟨j0,j1⟩
class SemWI (ti:TI)(w:WA):Prop where
 h:∀ {ε Q'},w ε Q'->∀ {S Hs0 H0 Hs H σ},RD S Hs0 H0 Hs H σ ε->∀ {R:It->Hp->Prop},(∀ xs ε' J Hs' H',Q' xs ε'->RD S Hs0 H0 Hs' H' σ ε'->Same Hs Hs'->jq J xs Hs'->R J H')->ti σ H R
def wIp (f:MA):WA:=fun ε Q=>∃ xs,f ε=some xs/\Q xs ε
instance (priority:=50){ti:TI}{f:MA}[s:zR ti f]:SemWI ti (wIp f) where
 h:=fun ⟨xs,e,q⟩ _ _ _ _ _ _ r _ k=>s.h e r.rs fun J Hs' H' x ok=>k xs _ J Hs' H' q (r.go x) x.s1 ok
class SemWG (tg:TG)(g:MG):Prop where
 h:∀ {x ε ε'},g x ε=some ε'->∀ {S Hs0 H0 Hs H σ v},RD S Hs0 H0 Hs H σ ε->Rep Hs x v->∀ {Q:St->Hp->Prop},(∀ σ',RD S Hs0 H0 Hs H σ' ε'->Q σ' H)->tg v σ H Q
instance {i:Nat}:SemWG (xx (i + 1)) (v4 (i + 1)) where
 h:=fun e _ _ _ _ _ _ _ rd r _ q=>by cases e;exact q _ (rd.put r)
def QY (g:MG)(f:WS):List PV->WS
 | []=>fun ε N _=>N ε
 | x::xs=>fun ε N R=>∃ ε1,g x ε=some ε1/\f ε1 (fun ε2=>QY g f xs ε2 N R) R
def wFor (it:WA)(g:MG)(f:WS):WS:=fun ε N R=>it ε fun xs ε1=>QY g f xs ε1 N R
theorem RD.rebase {S:List Addr}{Hs0 H0 Hs H:Hp}{σ:St}{ε:ME}(r:RD S Hs0 H0 Hs H σ ε):RD S Hs H0 Hs H σ ε :=
 ⟨.refl _,r.s2,r.s3,fun _ _ z=>z,r.sh,r.ow,r.nd,r.len,r.pin,r.live,r.str,r.nb⟩
theorem RD.unbase {S:List Addr}{Hs0 H0 Hb Hx Hs H:Hp}{σ σ':St}{ε ε':ME}(b:RD S Hs0 H0 Hb Hx σ ε)(r:RD S Hb H0 Hs H σ' ε'):RD S Hs0 H0 Hs H σ' ε' :=
 ⟨b.s1.trans r.s1,r.s2,r.s3,fun c h z=>r.s4 c h (b.s4 c h z),r.sh,r.ow,r.nd,r.len,r.pin,r.live,r.str,r.nb⟩
instance {wi:TI}{tg:TG}{tb:TS}{it:WA}{g:MG}{f:WS}[si:SemWI wi it][sg:SemWG tg g][sf:SemWS tb f]:SemWS (tFor wi tg tb) (wFor it g f) where
 h:=fun {ε N R} h S Hs0 H0 _ _ _ rd D k rt=>si.h h rd fun xs ε1 J Hs1 H1 h1 rd1 g1 ok=>by
  refine ⟨fun n m σ H=>m=xs.length - n/\n<=xs.length/\∃ Hs ε,RD S Hs1 H0 Hs H σ ε/\QY g f (xs.drop n) ε N R,⟨xs.length,by simp,Nat.zero_le _,Hs1,ε1,rd1.rebase,h1⟩,?_⟩
  rintro n m σ H ⟨rfl,hn,Hs,ε2,r2,h2⟩
  by_cases hlt:n < xs.length
  ·have hd:xs.drop n=xs[n]::xs.drop (n + 1):=List.drop_eq_getElem_cons hlt
   rw [hd] at h2
   obtain ⟨ε3,e3,h3⟩:=h2
   obtain ⟨go,yl⟩:=ok.go n xs[n] Hs H (by simp [hlt]) r2.s1 r2.s3
   refine .inr ⟨go,fun σ' H'=>n + 1<=xs.length/\∃ Hs ε,RD S Hs1 H0 Hs H' σ' ε/\QY g f (xs.drop (n + 1)) ε N R,fun σ' H' p=>⟨xs.length - (n + 1),by omega,rfl,p.1,p.2⟩,fun v H3 y=>?_⟩
   obtain ⟨Hs3,x3,r3⟩:=yl v H3 y
   refine sg.h e3 (r2.go x3) r3 fun σ4 rd4=>sf.h h3 rd4 (fun ε5 σ5 Hs5 H5 h5 rd5 g5=>⟨hlt,Hs5,ε5,rd5,h5⟩) fun y ε5 σ5 v Hs5 H5 h5 rd5 g5 rv=>rt y ε5 σ5 v Hs5 H5 h5 (rd1.unbase rd5) (g1.trans rd5.s1) rv
  ·have en:n=xs.length:=by omega
   subst en
   rw [List.drop_length] at h2
   exact .inl ⟨ok.stop Hs H r2.s1 r2.s3,k _ _ _ _ h2 (rd1.unbase r2) (g1.trans r2.s1)⟩
end Mi
namespace Mi
open PySem L2
def qo:List (Option Nat)->ME->ME->ME
 | some i::cap,s::ε2,ε1=>(qo cap ε2 ε1).set i s
 | none::cap,_::ε2,ε1=>qo cap ε2 ε1
 | _,_,ε1=>ε1
theorem QW:∀ (cap:List (Option Nat)) (ε2 ε1:ME),(qo cap ε2 ε1).length=ε1.length
 | some i::cap,s::ε2,ε1=>by unfold qo;rw [List.length_set,QW]
 | none::cap,_::ε2,ε1=>by unfold qo;exact QW cap ε2 ε1
 | [],_,_=>rfl
 | some _::_,[],_=>rfl
 | none::_,[],_=>rfl
theorem VF:∀ (cap:List (Option Nat)) (ε2 ε1:ME) (i:Nat),some i ∉ cap->(qo cap ε2 ε1)[i]?=ε1[i]?
 | some k::cap,s::ε2,ε1,i,h=>by
  unfold qo
  rw [List.getElem?_set_ne (fun z=>h (by rw [z];exact List.mem_cons_self))]
  exact VF cap ε2 ε1 i fun z=>h (List.mem_cons_of_mem _ z)
 | none::cap,_::ε2,ε1,i,h=>by unfold qo;exact VF cap ε2 ε1 i fun z=>h (List.mem_cons_of_mem _ z)
 | [],_,_,_,_=>rfl
 | some _::_,[],_,_,_=>rfl
 | none::_,[],_,_,_=>rfl
theorem VE:∀ (cap:List (Option Nat)) (ε2 ε1:ME) (i:Nat),cap.length=ε2.length->some i ∈ cap->i < ε1.length->(cap.filterMap id).Nodup->∃ j:Nat,cap[j]?=some (some i)/\(qo cap ε2 ε1)[i]?=ε2[j]?
 | some k::cap,s::ε2,ε1,i,hl,h,hi,nd=>by
  rw [List.filterMap_cons_some (by rfl)] at nd
  by_cases e:k=i
  ·subst e
   refine ⟨0,rfl,?_⟩
   unfold qo
   rw [List.getElem?_set_self (by rw [QW];exact hi)]
   rfl
  ·obtain ⟨j,h1,h2⟩:=VE cap ε2 ε1 i (by simpa using hl) (by rcases List.mem_cons.mp h with z | z;exact absurd (Option.some.inj z).symm e;exact z) hi (List.nodup_cons.mp nd).2
   refine ⟨j + 1,by simpa using h1,?_⟩
   unfold qo
   rw [List.getElem?_set_ne e]
   simpa using h2
 | none::cap,s::ε2,ε1,i,hl,h,hi,nd=>by
  rw [List.filterMap_cons_none (by rfl)] at nd
  obtain ⟨j,h1,h2⟩:=VE cap ε2 ε1 i (by simpa using hl) (by rcases List.mem_cons.mp h with z | z;exact nomatch z;exact z) hi nd
  exact ⟨j + 1,by simpa using h1,by unfold qo;simpa using h2⟩
 | [],_,_,_,_,h,_,_=>nomatch h
 | some _::_,[],_,_,hl,_,_,_=>by simp at hl
 | none::_,[],_,_,hl,_,_,_=>by simp at hl
def rst:List Nat->ME->ME
 | [],ε=>ε
 | t::ts,ε=>(rst ts ε).set t .no
theorem GI:∀ (ts:List Nat) (ε:ME),(rst ts ε).length=ε.length
 | [],_=>rfl
 | t::ts,ε=>by unfold rst;rw [List.length_set,GI]
theorem GH:∀ (ts:List Nat) (ε:ME) (i:Nat) (s:MSlot),(rst ts ε)[i]?=some s->s = .no ∨ (i ∉ ts/\ε[i]?=some s)
 | [],_,_,_,h=> .inr ⟨List.not_mem_nil,h⟩
 | t::ts,ε,i,s,h=>by
  unfold rst at h
  rw [List.getElem?_set] at h
  split at h
  ·split at h
   ·cases h;exact .inl rfl
   ·cases h
  ·rename_i hne
   rcases GH ts ε i s h with z | ⟨z1,z2⟩
   ·exact .inl z
   ·exact .inr ⟨fun m=>by rcases List.mem_cons.mp m with m | m;exact hne m.symm;exact z1 m,z2⟩
theorem RD.reset {Hs0 H0 Hs H:Hp}{σ σ':St}{ε:ME}{ts:List Nat}(r:RD [] Hs0 H0 Hs H σ' ε)(b:But ts σ σ'):RD [] Hs0 H0 Hs H σ (rst ts ε):=by
 have at1:∀ (i:Nat) (s:MSlot),(rst ts ε)[i]?=some s->s = .no ∨ (σ'[i]?=σ[i]?/\ε[i]?=some s):=fun i s h=>by
  rcases GH ts ε i s h with z | ⟨z1,z2⟩
  ·exact .inl z
  ·exact .inr ⟨b.2 i z1,z2⟩
 refine ⟨r.s1,r.s2,r.s3,r.s4,fun i x h=>?_,fun i x h=>?_,fun i j x y a h1 h2 h3 h4=>?_,by rw [GI,<- r.len,b.1],(fun _ z=>nomatch z),(fun _ z=>nomatch z),(fun _ z=>nomatch z),fun i x h=>by
  rcases at1 i _ h with z | ⟨_,z2⟩
  ·cases z
  ·exact r.nb i x z2⟩
 ·rcases at1 i _ h with z | ⟨z1,z2⟩
  ·cases z
  ·rw [<- z1];exact r.sh i x z2
 ·rcases at1 i _ h with z | ⟨z1,z2⟩
  ·cases z
  ·rw [<- z1];exact r.ow i x z2
 ·rcases at1 i _ h1 with z | ⟨z1,z2⟩
  ·cases z
  ·rcases at1 j _ h2 with w | ⟨w1,w2⟩
   ·cases w
   ·exact r.nd i j x y a z2 w2 (z1.trans h3) (w1.trans h4)
class Jj (tg:TG)(ts:outParam (List Nat))(g:MG):Prop where
 h:∀ {x ε ε'},g x ε=some ε'->∀ {Hs0 H0 Hs H σ v},RD [] Hs0 H0 Hs H σ ε->Rep Hs x v->∀ {Q:St->Hp->Prop},(∀ σ',RD [] Hs0 H0 Hs H σ' ε'->But ts σ σ'->Q σ' H)->tg v σ H Q
theorem RD.put0 {Hs0 H0 Hs H:Hp}{σ:St}{ε:ME}(r:RD [] Hs0 H0 Hs H σ ε){i:Nat}{x:PV}{v:V}(h:Rep Hs x v):RD [] Hs0 H0 Hs H (σ.set i (some v)) (ε.set i (.sh x)):=by
 have q:=(r.rs).put (i:=i) h
 refine ⟨r.s1,r.s2,r.s3,r.s4,q.sh,fun j z hz=>?_,q.nd,q.len,(fun _ z=>nomatch z),(fun _ z=>nomatch z),(fun _ z=>nomatch z),wv r.nb fun _ z=>nomatch z⟩
 obtain ⟨c,hc,m1,m2,tc⟩:=q.ow j z hz
 refine ⟨c,hc,?_,m2,tc⟩
 rw [List.getElem?_set] at hz hc
 split at hz
 ·split at hz <;> cases hz
 ·rename_i hij
  rw [if_neg hij] at hc
  obtain ⟨d,hd,m0,_⟩:=r.ow j z hz
  rw [hd] at hc
  injection hc with hc;injection hc with hc;injection hc with hc
  rw [<- hc];exact m0
instance {i:Nat}:Jj (xx i) [i] (v4 i) where
 h:=fun e _ _ _ _ _ _ rd r _ q=>by
  cases e
  exact q _ (rd.put0 r) ⟨List.length_set,fun j hj=>List.getElem?_set_ne fun z=>hj (by rw [<- z];exact List.mem_singleton.mpr rfl)⟩
def jj (g:MG)(c:WT)(f:W)(ts:List Nat):List PV->List PV->ME->(List PV->ME->Prop)->Prop
 | [],ys,ε,Q=>Q ys ε
 | x::xs,ys,ε,Q=>∃ ε1,g x ε=some ε1/\c ε1 fun b ε2=>if b=true then f ε2 fun y ε3=>jj g c f ts xs (ys++[y]) (rst ts ε3) Q else jj g c f ts xs ys (rst ts ε2) Q
def zA:WT:=fun ε Q=>Q true ε
instance:zS tYes zA where
 h:=fun h _ _ _ _ _ _ rd _ k=>k true _ _ _ h rd (.refl _)
def zy (cap:List (Option Nat))(ts:List Nat)(it:WA)(g:MG)(c:WT)(f:W):W:=fun ε Q=>it ε fun xs ε1=>ju cap ts=true/\xs.length<=lim /\
 jj g c f ts xs [] (qd cap ε1) fun ys ε2=>((∃ y:PV,ε1[0]?=some (MSlot.ow y))->∃ y:PV,(qo cap ε2 ε1)[0]?=some (MSlot.ow y))/\Q (.lst ys) (qo cap ε2 ε1)
noncomputable def xH (σ:St)(ε:ME)(H:Hp):Hp:=fun b=>open Classical in if ∃ (i:Nat) (x:PV),ε[i]?=some (MSlot.ow x)/\σ[i]?=some (some (V.ref b)) then none else H b
theorem JR {σ:St}{ε:ME}{H:Hp}{b:Addr}{o:HO}(h:xH σ ε H b=some o):H b=some o/\∀ (i:Nat) (x:PV),ε[i]?=some (MSlot.ow x)->σ[i]? ≠ some (some (V.ref b)):=by
 unfold xH at h
 split at h
 ·cases h
 ·rename_i hn
  exact ⟨h,fun i x h1 h2=>hn ⟨i,x,h1,h2⟩⟩
theorem Uu {σ:St}{ε:ME}{H:Hp}{b:Addr}(h:xH σ ε H b=none):H b=none ∨ ∃ (i:Nat) (x:PV),ε[i]?=some (MSlot.ow x)/\σ[i]?=some (some (V.ref b)):=by
 unfold xH at h
 split at h
 ·rename_i hn;exact .inr hn
 ·exact .inl h
theorem BG {cap:List (Option Nat)}{ε:ME}(nb:∀ (i:Nat) (x:PV),ε[i]? ≠ some (.bo x)):∀ (i:Nat) (x:PV),(qd cap ε)[i]? ≠ some (.bo x):=fun i x h=>by
 unfold qd at h
 rw [List.getElem?_map] at h
 cases ho:cap[i]? with
 | none=>rw [ho] at h;cases h
 | some o =>
  rw [ho] at h
  cases o with
  | none=>cases h
  | some k =>
   cases hk:ε[k]? with
   | none=>simp only [Option.map_some,hk,Option.getD_none] at h;cases h
   | some s=>simp only [Option.map_some,hk,Option.getD_some] at h;cases h;exact nb k x hk
theorem RD.block {S:List Addr}{Hs0 H0 Hs H:Hp}{σ:St}{ε:ME}{cap:List (Option Nat)}(hc:(cap.filterMap id).Nodup)(r:RD S Hs0 H0 Hs H σ ε):RD [] Hs (xH (m6 cap σ) (qd cap ε) H) Hs H (m6 cap σ) (qd cap ε):=by
 have q:=(r.rs).cap hc
 refine ⟨.refl _,fun b o e _=>(JR e).1,r.s3,fun _ _ z=>z,q.sh,fun i x h=>?_,q.nd,q.len,(fun _ z=>nomatch z),(fun _ z=>nomatch z),(fun _ z=>nomatch z),BG r.nb⟩
 obtain ⟨a,h1,h2,h3,h4⟩:=q.ow i x h
 refine ⟨a,h1,.inl ?_,h3,h4⟩
 unfold xH
 rw [if_pos ⟨i,x,h,h1⟩]
theorem jv {cap:List (Option Nat)}{σ:St}{i k:Nat}{v:V}(h:cap[i]?=some (some k))(e:(m6 cap σ)[i]?=some (some v)):σ[k]?=some (some v):=by
 unfold m6 at e
 rw [List.getElem?_map,h] at e
 simp only [Option.map_some,Option.bind_some,Option.some.injEq] at e
 cases hs:σ[k]? with
 | none=>rw [hs] at e;cases e
 | some o=>rw [hs] at e;simp at e;rw [e]
theorem Yl {cap:List (Option Nat)}{ε:ME}{i:Nat}{x:PV}(h:(qd cap ε)[i]?=some (.ow x)):∃ k:Nat,cap[i]?=some (some k)/\ε[k]?=some (.ow x):=by
 unfold qd at h
 rw [List.getElem?_map] at h
 cases ho:cap[i]? with
 | none=>rw [ho] at h;cases h
 | some o =>
  rw [ho] at h
  cases o with
  | none=>cases h
  | some k =>
   cases hk:ε[k]? with
   | none=>simp only [Option.map_some,hk,Option.getD_none] at h;cases h
   | some s=>simp only [Option.map_some,hk,Option.getD_some] at h;cases h;exact ⟨k,rfl,hk⟩
theorem RD.unblock {S:List Addr}{Hs0 H0 Hs1 H1 Hs2 H2:Hp}{σ:St}{ε1 ε2:ME}{cap:List (Option Nat)}(hc:(cap.filterMap id).Nodup)(r:RD S Hs0 H0 Hs1 H1 σ ε1)
  (q:RD [] Hs1 (xH (m6 cap σ) (qd cap ε1) H1) Hs2 H2 (m6 cap σ) ε2) (st:(∃ y,ε1[0]?=some (.ow y))->∃ y,(qo cap ε2 ε1)[0]?=some (.ow y)):RD S Hs0 H0 Hs2 H2 σ (qo cap ε2 ε1):=by
 have hl:cap.length=ε2.length:=by rw [<- q.len];unfold m6;rw [List.length_map]
 have at1:∀ (i:Nat) (s:MSlot),(qo cap ε2 ε1)[i]?=some s->(some i ∉ cap/\ε1[i]?=some s) ∨ ∃ j:Nat,cap[j]?=some (some i)/\ε2[j]?=some s:=fun i s h=>by
  by_cases hi:some i ∈ cap
  ·have hlt:i < ε1.length:=by
    have:=(List.getElem?_eq_some_iff.mp h).1
    rwa [QW] at this
   obtain ⟨j,h1,h2⟩:=VE cap ε2 ε1 i hl hi hlt hc
   exact .inr ⟨j,h1,h2 ▸ h⟩
  ·exact .inl ⟨hi,VF cap ε2 ε1 i hi ▸ h⟩
 have own0:∀ a,xH (m6 cap σ) (qd cap ε1) H1 a=none->H0 a=none ∨ a ∈ S:=fun a h=>by
  rcases Uu h with h | ⟨i,x,h1,h2⟩
  ·exact .inl (r.free0 h)
  ·obtain ⟨k,hk,hx⟩:=Yl h1
   obtain ⟨c,hc',m0,_⟩:=r.ow k x hx
   rw [jv hk h2] at hc'
   injection hc' with hc';injection hc' with hc';injection hc' with hc'
   rw [hc'];exact m0
 have keep:∀ (k:Nat) (x:PV) (a:Addr),some k ∉ cap->ε1[k]?=some (.ow x)->σ[k]?=some (some (.ref a))->∀ o,H1 a=some o->xH (m6 cap σ) (qd cap ε1) H1 a=some o:=fun k x a hk hx ha o ho=>by
  cases z:xH (m6 cap σ) (qd cap ε1) H1 a with
  | some u=>rw [<- ho,(JR z).1]
  | none =>
   rcases Uu z with z | ⟨i,y,h1,h2⟩
   ·rw [z] at ho;cases ho
   ·obtain ⟨m,hm,hy⟩:=Yl h1
    have:=r.nd k m x y a hx hy ha (jv hm h2)
    subst this
    exact absurd (List.mem_of_getElem? hm) hk
 have ow':∀ (i:Nat) (x:PV),(qo cap ε2 ε1)[i]?=some (.ow x)->∃ a,σ[i]?=some (some (.ref a))/\(H0 a=none ∨ a ∈ S)/\Hs2 a=none/\Top Hs2 H2 a x:=fun i x h=>by
  rcases at1 i _ h with ⟨hi,e⟩ | ⟨j,hj,e⟩
  ·obtain ⟨a,ha,m0,m1,t⟩:=r.ow i x e
   refine ⟨a,ha,m0,?_,t.mono q.s1 fun o ho=>q.s2 a o (keep i x a hi e ha o ho) List.not_mem_nil⟩
   cases z:H1 a with
   | none=>exact absurd z t.there
   | some o=>exact q.s4 a (by rw [keep i x a hi e ha o z];exact fun w=>nomatch w) m1
  ·obtain ⟨a,ha,m0,m1,t⟩:=q.ow j x e
   exact ⟨a,jv hj ha,own0 a (m0.resolve_right List.not_mem_nil),m1,t⟩
 have str':∀ a ∈ S,∃ y,(qo cap ε2 ε1)[0]?=some (.ow y):=fun a hS=>st (r.str a hS)
 refine ⟨r.s1.trans q.s1,fun b o e hS=>?_,q.s3,fun b h z=>?_,fun i x h=>?_,ow',fun i j x y a h1 h2 h3 h4=>?_,by rw [QW];exact r.len,r.pin,fun b hS=>?_,str',fun i x h=>by
  rcases at1 i _ h with ⟨_,e⟩ | ⟨j,_,e⟩
  ·exact r.nb i x e
  ·exact q.nb j x e⟩
 ·have e1:=r.s2 b o e hS
  refine q.s2 b o ?_ List.not_mem_nil
  cases z:xH (m6 cap σ) (qd cap ε1) H1 b with
  | some u=>rw [<- e1,(JR z).1]
  | none =>
   rcases own0 b z with w | w
   ·rw [w] at e;cases e
   ·exact absurd w hS
 ·have z1:=r.s4 b h z
  by_cases hL:xH (m6 cap σ) (qd cap ε1) H1 b=none
  ·rcases own0 b hL with w | w
   ·exact absurd w h
   ·obtain ⟨y,hy⟩:=str' b w
    obtain ⟨a,ha,_,m1,_⟩:=ow' 0 y hy
    rw [r.pin b w] at ha
    injection ha with ha;injection ha with ha;injection ha with ha
    rw [ha];exact m1
  ·exact q.s4 b hL z1
 ·rcases at1 i _ h with ⟨hi,e⟩ | ⟨j,hj,e⟩
  ·obtain ⟨v,hv,rv⟩:=r.sh i x e
   exact ⟨v,hv,rv.mono q.s1⟩
  ·obtain ⟨v,hv,rv⟩:=q.sh j x e
   exact ⟨v,jv hj hv,rv⟩
 ·rcases at1 i _ h1 with ⟨hi,e⟩ | ⟨k,hk,e⟩
  ·rcases at1 j _ h2 with ⟨hj,e'⟩ | ⟨l,hl',e'⟩
   ·exact r.nd i j x y a e e' h3 h4
   ·-- one of the block's own,one that it does not see
    obtain ⟨a',ha',m0,_,_⟩:=q.ow l y e'
    have ea:=jv hl' ha'
    rw [h4] at ea
    injection ea with ea;injection ea with ea;injection ea with ea
    subst ea
    obtain ⟨c,hc1,_,_,t⟩:=r.ow i x e
    rw [h3] at hc1
    injection hc1 with hc1;injection hc1 with hc1;injection hc1 with hc1
    subst hc1
    cases z:H1 a with
    | none=>exact absurd z t.there
    | some o =>
     have w:=keep i x a hi e h3 o z
     rw [m0.resolve_right List.not_mem_nil] at w
     cases w
  ·rcases at1 j _ h2 with ⟨hj,e'⟩ | ⟨l,hl',e'⟩
   ·obtain ⟨a',ha',m0,_,_⟩:=q.ow k x e
    have ea:=jv hk ha'
    rw [h3] at ea
    injection ea with ea;injection ea with ea;injection ea with ea
    subst ea
    obtain ⟨c,hc1,_,_,t⟩:=r.ow j y e'
    rw [h4] at hc1
    injection hc1 with hc1;injection hc1 with hc1;injection hc1 with hc1
    subst hc1
    cases z:H1 a with
    | none=>exact absurd z t.there
    | some o =>
     have w:=keep j y a hj e' h4 o z
     rw [m0.resolve_right List.not_mem_nil] at w
     cases w
   ·obtain ⟨a1,ha1,_⟩:=q.ow k x e
    obtain ⟨a2,ha2,_⟩:=q.ow l y e'
    have e1:=jv hk ha1
    have e2:=jv hl' ha2
    rw [h3] at e1
    rw [h4] at e2
    injection e1 with e1;injection e1 with e1;injection e1 with e1
    injection e2 with e2;injection e2 with e2;injection e2 with e2
    subst e1
    subst e2
    have kl:=q.nd k l x y a e e' ha1 ha2
    subst kl
    rw [hk] at hl'
    injection hl' with hl';injection hl' with hl'
 ·obtain ⟨y,hy⟩:=str' b hS
  obtain ⟨a,ha,_,_,t⟩:=ow' 0 y hy
  rw [r.pin b hS] at ha
  injection ha with ha;injection ha with ha;injection ha with ha
  rw [ha];exact t.there
instance {wi:TI}{tg:TG}{ts:List Nat}{tt:TT}{te:TE}{cap:List (Option Nat)}{it:WA}{g:MG}{c:WT}{f:W}[si:SemWI wi it][sg:Jj tg ts g][sc:zS tt c][sf:SemW te f]:SemW (QT wi tg tt te cap) (zy cap ts it g c f) where
 h:=fun {ε Q'} h S Hs0 H0 Hs H σ rd Q k=>si.h h rd fun xs ε1 J Hs1 H1 h1 rd1 g1 ok=>by
  obtain ⟨hcap,hl,h1⟩:=h1
  unfold ju at hcap
  rw [Bool.and_eq_true] at hcap
  have hnd:=of_decide_eq_true hcap.1
  have wk:∀ i ∈ ts,(m6 cap σ)[i]?=some none:=fun i hi=>by
   unfold m6
   rw [List.getElem?_map,of_decide_eq_true (List.all_eq_true.mp hcap.2 i hi)]
   rfl
  refine ⟨fun n m zs H=>m=xs.length - n/\n<=xs.length/\∃ Hs2 ws ε2,RD [] Hs1 (xH (m6 cap σ) (qd cap ε1) H1) Hs2 H (m6 cap σ) ε2/\Reps Hs2 ws zs/\ws.length<=n /\
    jj g c f ts (xs.drop n) ws ε2 (fun ys ε3=>((∃ y:PV,ε1[0]?=some (MSlot.ow y))->∃ y:PV,(qo cap ε3 ε1)[0]?=some (MSlot.ow y))/\Q' (PV.lst ys) (qo cap ε3 ε1)),
   ⟨xs.length,by simp,Nat.zero_le _,Hs1,[],_,rd1.block hnd,.nil,Nat.le_refl _,h1⟩,?_⟩
  rintro n m zs H2 ⟨rfl,hn,Hs2,ws,ε2,r2,rz,hw,h2⟩
  refine ⟨xQ (by rw [rz.length];omega),?_⟩
  by_cases hlt:n < xs.length
  ·have hd:xs.drop n=xs[n]::xs.drop (n + 1):=List.drop_eq_getElem_cons hlt
   rw [hd] at h2
   obtain ⟨ε3,e3,h3⟩:=h2
   obtain ⟨go,yl⟩:=ok.go n xs[n] Hs2 H2 (by simp [hlt]) r2.s1 r2.s3
   refine .inr ⟨go,fun v H3 y=>?_⟩
   obtain ⟨Hs3,x3,r3⟩:=yl v H3 y
   refine sg.h e3 (r2.go x3) r3 fun σ4 rd4 bt=>⟨bt.wk wk,sc.h h3 rd4 fun b ε5 Hs5 H5 h5 rd5 g5=>?_⟩
   cases b with
   | true =>
    refine xZ (sf.h (by simpa using h5) rd5 fun y ε6 u Hs6 H6 h6 rd6 g6 ru=>⟨xs.length - (n + 1),by omega,rfl,hlt,Hs6,ws++[y],_,rd6.reset bt,?_,by rw [List.length_append];simp;omega,h6⟩)
    exact (rz.mono (x3.s1.trans (g5.trans g6))).snoc ru
   | false=>exact xY ⟨xs.length - (n + 1),by omega,rfl,hlt,Hs5,ws,_,rd5.reset bt,rz.mono (x3.s1.trans g5),by omega,by simpa using h5⟩
  ·have en:n=xs.length:=by omega
   subst en
   rw [List.drop_length] at h2
   refine .inl ⟨ok.stop Hs2 H2 r2.s1 r2.s3,fun D hD=>?_⟩
   have rd2:=rd1.unblock hnd r2 h2.1
   exact k _ _ _ _ _ h2.2 (rd2.go (.new rd2.s3 hD)) (g1.trans (r2.s1.trans (Ext.new rd2.s3 hD).s1)) (rep_lst.mpr ⟨D,zs,rfl,y4,rz.mono (Ext.new rd2.s3 hD).s1⟩)
section
variable {P:Program}{w:World}{K:Fg}{mg:Str->Option Value}{base:Heap}
theorem vx {xs:List PV}{n i:Nat}{x:PV}:(xs.map MSlot.sh++List.replicate n .no)[i]? ≠ some (.ow x):=fun h=>by
 by_cases hi:i < xs.length
 ·rw [List.getElem?_append_left (by rw [List.length_map];exact hi),List.getElem?_map] at h
  obtain ⟨y,_,z⟩:=Option.map_eq_some_iff.mp h
  cases z
 ·rw [List.getElem?_append_right (by rw [List.length_map];omega),List.getElem?_replicate] at h
  split at h <;> cases h
theorem Vr {xs:List PV}{n i:Nat}{x:PV}:(xs.map MSlot.sh++List.replicate n .no)[i]? ≠ some (.bo x):=fun h=>by
 by_cases hi:i < xs.length
 ·rw [List.getElem?_append_left (by rw [List.length_map];exact hi),List.getElem?_map] at h
  obtain ⟨y,_,z⟩:=Option.map_eq_some_iff.mp h
  cases z
 ·rw [List.getElem?_append_right (by rw [List.length_map];omega),List.getElem?_replicate] at h
  split at h <;> cases h
theorem Gx {N:List Str}{Hs H:Hp}{a:Addr}{n:Int}{xs:List PV}{ws:List V}(s:Same Hs H)(ha:Hs a=none)(hH:H a=some (.lst [.int n]))(r:Reps Hs xs ws) :
  RD [a] Hs H Hs H (L2.start N (.ref a::ws)) (g0 n::xs.map .sh++List.replicate (N.length - (xs.length + 1)) .no):=by
 have q:=vy (N:=N) (xs:= .at (.ref a)::xs) s (.cons (rep_at.mpr rfl) r)
 have tl:∀ (i:Nat) (sl:MSlot),(g0 n::xs.map .sh++List.replicate (N.length - (xs.length + 1)) .no)[i + 1]?=some sl->((PV.at (.ref a)::xs).map MSlot.sh++List.replicate (N.length - (PV.at (.ref a)::xs).length) .no)[i + 1]?=some sl:=fun i sl h=>h
 refine ⟨.refl _,fun b o e _=>e,s,fun _ _ z=>z,fun i x h=>?_,fun i x h=>?_,fun i j x y b h1 h2 _ _=>?_,?_,fun b hb=>?_,fun b hb=>?_,(fun b hb=>⟨_,rfl⟩),fun i x h=>by
  cases i with
  | zero=>unfold g0 at h;simp at h
  | succ i=>exact Vr (xs:=PV.at (.ref a)::xs) (tl i _ h)⟩
 ·cases i with
  | zero=>unfold g0 at h;simp at h
  | succ i=>exact q.sh (i + 1) x (tl i _ h)
 ·cases i with
  | zero =>
   unfold g0 at h
   simp at h
   subst h
   refine ⟨a,?_,.inr (List.mem_singleton.mpr rfl),ha,_,hH,.one (rep_at.mpr rfl)⟩
   unfold L2.start
   rfl
  | succ i =>
   obtain ⟨c,h1,_⟩:=q.ow (i + 1) x (tl i _ h)
   exact absurd (tl i _ h) fun z=>by
    have:=vx (i:=i + 1) (x:=x) (xs:=PV.at (.ref a)::xs) (n:=N.length - (PV.at (.ref a)::xs).length)
    exact this z
 ·cases i with
  | zero =>
   cases j with
   | zero=>rfl
   | succ j=>exact absurd (tl j _ h2) (vx (xs:=PV.at (.ref a)::xs))
  | succ i=>exact absurd (tl i _ h1) (vx (xs:=PV.at (.ref a)::xs))
 ·exact q.len
 ·rw [List.mem_singleton.mp hb];unfold L2.start;rfl
 ·rw [List.mem_singleton.mp hb,hH];exact fun z=>nomatch z
theorem okD {x qual:Str}{st:Stmt}{f:Addr}{fd:FuncData}{N ps:List Str}{k:Nat}{b:WS}{pre:List PV->Prop}{R:List PV->PV->Prop}(F:Fun K x qual st f fd)(S:w4 N ps (z9 st))
  (hpre:∀ xs,pre xs->xs.length + 1=ps.length)
  (hb:∀ (cdv:Value) (A:Around) (outer:List Env) (s:Shared) (H:Hp) (E:XK),Room k (A.deeper (PyProof.Rows.envOfC qual (z9 st) s.heap.objs.size f cdv)) ->
   ∃ t,PSs (xb v5 P w K mg base N qual (z9 st) f cdv A outer s H E).nox (qi st) t/\SemWS t b)
  (hw:∀ xs n,pre xs->b (g0 n::xs.map .sh++List.replicate (N.length - (xs.length + 1)) .no) (fun _=>False) fun y ε=>R xs y/\xo 0 ε):FnOk P w K mg base v5 (k + 1) f fd ps (spD pre R):=by
 refine F.ok S (fun vs H Q E h=>?_) (fun cdv A outer s H vs Q E hr h=>?_)
 ·obtain ⟨Hs,a,n,xs,ws,rfl,_,_,_,r,hp,_⟩:=h
  rw [List.length_cons,r.length]
  exact hpre xs hp
 ·obtain ⟨Hs,a,n,xs,ws,rfl,sm,ha,hH,r,hp,q⟩:=h
  obtain ⟨t,ht,sem⟩:=hb cdv A outer s H E hr
  refine ⟨t,ht,sem.h (hw xs n hp) (Gx sm ha hH r) (fun ε σ Hs' H' z _ _=>z.elim) fun y ε σ v Hs' H' hR rd g rv=>?_⟩
  obtain ⟨hR,n',hn'⟩:=hR
  obtain ⟨a',ha',hH',hs',_⟩:=rd.strm_at hn'
  rw [rd.pin a (List.mem_singleton.mpr rfl)] at ha'
  injection ha' with ha';injection ha' with ha';injection ha' with ha'
  subst ha'
  refine q y v n' Hs' H' hR ⟨g,fun b o e hb=>rd.s2 b o e fun z=>hb (List.mem_singleton.mp z),rd.s3,fun b h z=>rd.s4 b h z⟩ hs' hH' rv
end
end Mi
namespace Mi
open PySem L2
def spN (pre:List PV->Prop)(R:List PV->PV->Prop):Sp:=fun vs H Q _=>∃ Hs xs,Same Hs H/\Reps Hs xs vs/\pre xs/\∀ y a Hs' H',R xs y->Ext Hs H Hs' H'->H a=none->Hs' a=none->Top Hs' H' a y->Q (.ref a) H'
def spV (pre:List PV->Prop)(R:List PV->PV->Prop):Sp:=fun vs H Q _=>∃ Hs xs,Same Hs H/\Reps Hs xs vs/\pre xs/\∀ y v Hs' H',R xs y->Ext Hs H Hs' H'->Rep Hs' y v->Q v H'
def Jf (i:Nat)(pre:List PV->Prop)(R:List PV->PV->Prop)(as:WA):WS:=fun ε N _=>as ε fun xs ε1=>pre xs/\∀ y,R xs y->N (ε1.set i (.ow y))
instance {i:Nat}{pre:List PV->Prop}{R:List PV->PV->Prop}{ta:TA}{as:WA}{E:XK}[sa:jr ta as]:SemWS (zw (ji (spN pre R) [] E ta) (xx (i + 1))) (Jf (i + 1) pre R as) where
 h:=fun h _ _ _ _ _ _ rd _ k _=>sa.h h rd fun xs ε1 vs Hs1 H1 h1 rd1 g1 r1=>by
  refine ⟨Hs1,xs,rd1.s3,by rw [List.append_nil];exact r1,h1.1,fun y a Hs' H' hR x n n' t=>?_⟩
  refine k _ _ _ _ (h1.2 y hR) ((rd1.go x).putO (.inl (rd1.free0 n)) n' t fun j z hj e=>?_) (g1.trans x.s1)
  obtain ⟨b,hb,_,_,tb⟩:=rd1.ow j z hj
  rw [e] at hb
  injection hb with hb;injection hb with hb;injection hb with hb
  subst hb
  exact tb.there n
def KE (pre:List PV->Prop)(R:List PV->PV->Prop)(as:WA):W:=fun ε Q=>as ε fun xs ε1=>pre xs/\∀ y,R xs y->Q y ε1
instance {pre:List PV->Prop}{R:List PV->PV->Prop}{ta:TA}{as:WA}{E:XK}[sa:jr ta as]:SemW (ji (spV pre R) [] E ta) (KE pre R as) where
 h:=fun h _ _ _ _ _ _ rd _ k=>sa.h h rd fun xs ε1 vs Hs1 H1 h1 rd1 g1 r1 =>
  ⟨Hs1,xs,rd1.s3,by rw [List.append_nil];exact r1,h1.1,fun y v Hs' H' hR x rv=>k y ε1 v Hs' H' (h1.2 y hR) (rd1.go x) (g1.trans x.s1) rv⟩
section
variable {P:Program}{w:World}{K:Fg}{mg:Str->Option Value}{base:Heap}
theorem Gy {N:List Str}{Hs H:Hp}{xs:List PV}{vs:List V}(s:Same Hs H)(r:Reps Hs xs vs):RD [] Hs H Hs H (L2.start N vs) (xs.map .sh++List.replicate (N.length - xs.length) .no):=by
 have q:=vy (N:=N) s r
 exact ⟨.refl _,fun b o e _=>e,s,fun _ _ z=>z,q.sh,fun i x h=>absurd h vx,q.nd,q.len,(fun _ z=>nomatch z),(fun _ z=>nomatch z),(fun _ z=>nomatch z),fun _ _=>Vr⟩
theorem okV {x qual:Str}{st:Stmt}{f:Addr}{fd:FuncData}{N ps:List Str}{k:Nat}{b:WS}{pre:List PV->Prop}{R:List PV->PV->Prop}(F:Fun K x qual st f fd)(S:w4 N ps (z9 st))
  (hpre:∀ xs,pre xs->xs.length=ps.length)
  (hb:∀ (cdv:Value) (A:Around) (outer:List Env) (s:Shared) (H:Hp) (E:XK),Room k (A.deeper (PyProof.Rows.envOfC qual (z9 st) s.heap.objs.size f cdv)) ->
   ∃ t,PSs (xb v5 P w K mg base N qual (z9 st) f cdv A outer s H E).nox (qi st) t/\SemWS t b)
  (hw:∀ xs,pre xs->b (xs.map .sh++List.replicate (N.length - xs.length) .no) (fun _=>False) fun y _=>R xs y):FnOk P w K mg base v5 (k + 1) f fd ps (spV pre R):=by
 refine F.ok S (fun vs H Q E h=>?_) (fun cdv A outer s H vs Q E hr h=>?_)
 ·obtain ⟨Hs,xs,_,r,hp,_⟩:=h
  rw [r.length]
  exact hpre xs hp
 ·obtain ⟨Hs,xs,sm,r,hp,q⟩:=h
  obtain ⟨t,ht,sem⟩:=hb cdv A outer s H E hr
  refine ⟨t,ht,sem.h (hw xs hp) (Gy sm r) (fun ε σ Hs' H' z _ _=>z.elim) fun y ε σ v Hs' H' hR rd g rv=>?_⟩
  exact q y v Hs' H' hR ⟨g,fun b o e=>rd.s2 b o e List.not_mem_nil,rd.s3,rd.s4⟩ rv
def scr (K:Fg)(ns:List Int):PV:= .op fun H v=>∃ a,v = .ref a/\SqL K H a (ns.map V.int)
theorem LQ {K:Fg}{Hs H:Hp}{ns:List Int}{v:V}(s:Same Hs H)(r:Rep Hs (scr K ns) v):∃ a,v = .ref a/\SqL K H a (ns.map V.int):=by
 obtain ⟨H1,s1,a,rfl,q⟩:=rep_op.mp r
 exact ⟨a,rfl,(s1.trans s).seq q⟩
def QS (K:Fg):Sp:=fun vs H Q _=>∃ (a:Addr) (ns:List Int),vs=[.ref a]/\SqL K H a (ns.map V.int)/\ns.length<=63/\∀ H',Q (.bl true) H'
theorem okL {x qual:Str}{st:Stmt}{f:Addr}{fd:FuncData}{N:List Str}{k:Nat}{b:WS}(F:Fun K x qual st f fd)(S:w4 N ["script"] (z9 st))
  (hb:∀ (cdv:Value) (A:Around) (outer:List Env) (s:Shared) (H:Hp) (E:XK),Room k (A.deeper (PyProof.Rows.envOfC qual (z9 st) s.heap.objs.size f cdv)) ->
   ∃ t,PSs (xb v5 P w K mg base N qual (z9 st) f cdv A outer s H E).nox (qi st) t/\SemWS t b)
  (hw:∀ ns:List Int,ns.length<=63->b (.sh (scr K ns)::List.replicate (N.length - 1) .no) (fun _=>False) fun y _=>y = .at (.bl true)):FnOk P w K mg base v5 (k + 1) f fd ["script"] (QS K):=by
 refine F.ok S (fun vs H Q E h=>?_) (fun cdv A outer s H vs Q E hr h=>?_)
 ·obtain ⟨a,ns,rfl,_⟩:=h
  rfl
 ·obtain ⟨a,ns,rfl,hS,h63,q⟩:=h
  obtain ⟨t,ht,sem⟩:=hb cdv A outer s H E hr
  have r:Reps H [scr K ns] [.ref a]:= .one (rep_op.mpr ⟨H,.refl _,a,rfl,hS⟩)
  refine ⟨t,ht,sem.h (hw ns h63) (Gy (N:=N) (.refl H) r) (fun ε σ Hs' H' z _ _=>z.elim) fun y ε σ v Hs' H' hR rd g rv=>?_⟩
  subst hR
  cases rep_at.mp rv
  exact q H'
end
end Mi
namespace Mi
open PySem L2
class qJ (w:W):Prop where
 h:∀ {ε:ME} {P P':PV->ME->Prop},(∀ y e,P y e->P' y e)->w ε P->w ε P'
class jH (w:WA):Prop where
 h:∀ {ε:ME} {P P':List PV->ME->Prop},(∀ y e,P y e->P' y e)->w ε P->w ε P'
class zg (w:WT):Prop where
 h:∀ {ε:ME} {P P':Bool->ME->Prop},(∀ y e,P y e->P' y e)->w ε P->w ε P'
class xk (w:WS):Prop where
 h:∀ {ε:ME} {N N':ME->Prop} {R R':PV->ME->Prop},(∀ e,N e->N' e)->(∀ y e,R y e->R' y e)->w ε N R->w ε N' R'
instance {f:M}:qJ (wP f) where h:=fun k ⟨y,e,q⟩=>⟨y,e,k _ _ q⟩
instance {f:MB}:zg (wPT f) where h:=fun k ⟨y,e,q⟩=>⟨y,e,k _ _ q⟩
instance {g:PV->PV->Option PV}{a b:W}[A:qJ a][B:qJ b]:qJ (qQ g a b) where h:=fun k h=>A.h (fun _ _ h1=>B.h (fun _ _ ⟨z,e,q⟩=>⟨z,e,k _ _ q⟩) h1) h
instance {a:W}[A:qJ a]:zg (wT a) where h:=fun k h=>A.h (fun _ _ ⟨z,e,q⟩=>⟨z,e,k _ _ q⟩) h
instance:zg zA where h:=fun k h=>k _ _ h
theorem Qk {c:Bool}{A B A' B':Prop}(h1:A->A')(h2:B->B')(h:if c=true then A else B):if c=true then A' else B':=by
 cases c with
 | true=>exact xZ (h1 (by simpa using h))
 | false=>exact xY (h2 (by simpa using h))
instance {a b:WT}[A:zg a][B:zg b]:zg (wAnd a b) where h:=fun k h=>A.h (fun c _ h1=>Qk (fun h2=>B.h k h2) (fun h2=>k _ _ h2) h1) h
instance:jH qz where h:=fun k h=>k _ _ h
instance {a:W}{r:WA}[A:qJ a][B:jH r]:jH (g9 a r) where h:=fun k h=>A.h (fun _ _ h1=>B.h (fun _ _ h2=>k _ _ h2) h1) h
instance {i:Nat}{a:W}[A:qJ a]:qJ (i4 i a) where h:=fun k h=>⟨h.1,A.h (fun _ _ ⟨n,m,e1,e2,e3,q⟩=>⟨n,m,e1,e2,e3,k _ _ q⟩) h.2⟩
instance {i:Nat}{pre:List PV->Prop}{R:List PV->PV->Prop}{a:WA}[A:jH a]:qJ (zf i pre R a) where h:=fun k h=>⟨h.1,A.h (fun _ _ ⟨h1,h2,h3⟩=>⟨h1,h2,fun y n r=>k _ _ (h3 y n r)⟩) h.2⟩
instance {i:Nat}{a:W}[A:qJ a]:qJ (QZ i a) where h:=fun k h=>⟨h.1,A.h (fun _ _ ⟨xs,j,y,e1,e2,e3,e4,e5,e6,q⟩=>⟨xs,j,y,e1,e2,e3,e4,e5,e6,k _ _ q⟩) h.2⟩
instance {f:MA}:jH (wIp f) where h:=fun k ⟨y,e,q⟩=>⟨y,e,k _ _ q⟩
theorem VN {g:MG}{c:WT}{f:W}{ts:List Nat}[C:zg c][F:qJ f]{Q Q':List PV->ME->Prop}(k:∀ y e,Q y e->Q' y e):∀ (xs ys:List PV) (ε:ME),jj g c f ts xs ys ε Q->jj g c f ts xs ys ε Q'
 | [],ys,ε,h=>k _ _ h
 | x::xs,ys,ε,h=>by
  obtain ⟨ε1,e1,h1⟩:=h
  exact ⟨ε1,e1,C.h (fun b ε2 h2=>Qk (fun h3=>F.h (fun y ε3 h4=>VN k xs _ _ h4) h3) (fun h3=>VN k xs _ _ h3) h2) h1⟩
instance {cap:List (Option Nat)}{ts:List Nat}{it:WA}{g:MG}{c:WT}{f:W}[I:jH it][C:zg c][F:qJ f]:qJ (zy cap ts it g c f) where
 h:=fun k h=>I.h (fun _ _ ⟨h1,h2,h3⟩=>⟨h1,h2,VN (fun _ _ ⟨q1,q2⟩=>⟨q1,k _ _ q2⟩) _ _ _ h3⟩) h
instance:xk xp where h:=fun k _ h=>k _ h
instance {a b:WS}[A:xk a][B:xk b]:xk (wSeq a b) where h:=fun k r h=>A.h (fun _ h1=>B.h k r h1) r h
instance {i:Nat}{a:W}[A:qJ a]:xk (t6 i a) where h:=fun k _ h=>A.h (fun _ _ h1=>k _ h1) h
instance {i:Nat}{f:M}:xk (jk i f) where h:=fun k _ ⟨x,e,q⟩=>⟨x,e,k _ q⟩
instance {a:W}[A:qJ a]:xk (qY a) where h:=fun _ r h=>A.h r h
instance {c:WT}{a b:WS}[C:zg c][A:xk a][B:xk b]:xk (qX c a b) where h:=fun k r h=>C.h (fun _ _ h1=>Qk (fun h2=>A.h k r h2) (fun h2=>B.h k r h2) h1) h
instance {i:Nat}{a:WS}[A:xk a]:xk (wFz i a) where h:=fun k r h=>A.h (ε:=fz i _) k r h
instance {i:Nat}{a:W}[A:qJ a]:xk (vC i a) where h:=fun k _ h=>⟨h.1,A.h (fun _ _ ⟨xs,e1,e2,q⟩=>⟨xs,e1,e2,k _ q⟩) h.2⟩
theorem Jv {g:MG}{c:WT}{f:W}{ts:List Nat}{Q:List PV->ME->Prop}[C:zg c][F:qJ f](I:List PV->List PV->ME->Prop)(hd:∀ ys ε,I [] ys ε->Q ys ε)
  (hs:∀ x xs ys ε,I (x::xs) ys ε->∃ ε1,g x ε=some ε1/\c ε1 fun b ε2=>if b=true then f ε2 fun y ε3=>I xs (ys++[y]) (rst ts ε3) else I xs ys (rst ts ε2)) :
  ∀ (xs ys:List PV) (ε:ME),I xs ys ε->jj g c f ts xs ys ε Q
 | [],ys,ε,h=>hd ys ε h
 | x::xs,ys,ε,h=>by
  obtain ⟨ε1,e1,h1⟩:=hs x xs ys ε h
  exact ⟨ε1,e1,C.h (fun b ε2 h2=>Qk (fun h3=>F.h (fun y ε3 h4=>Jv I hd hs xs _ _ h4) h3) (fun h3=>Jv I hd hs xs _ _ h3) h2) h1⟩
theorem wW {g:MG}{f:W}{ts:List Nat}{Q:List PV->ME->Prop}[F:qJ f](I:List PV->List PV->ME->Prop)(hd:∀ ys ε,I [] ys ε->Q ys ε)
  (hs:∀ x xs ys ε,I (x::xs) ys ε->∃ ε1,g x ε=some ε1/\f ε1 fun y ε3=>I xs (ys++[y]) (rst ts ε3)) (xs ys:List PV) (ε:ME) (h:I xs ys ε):jj g zA f ts xs ys ε Q :=
 Jv I hd (fun x xs ys ε h=>by
  obtain ⟨ε1,e,q⟩:=hs x xs ys ε h
  refine ⟨ε1,e,?_⟩
  show if true=true then (f ε1 fun y ε3=>I xs (ys++[y]) (rst ts ε3)) else I xs ys (rst ts ε1)
  rw [if_pos rfl]
  exact q) xs ys ε h
theorem JV {g:MG}{f:WS}{N:ME->Prop}{R:PV->ME->Prop}[F:xk f](I:List PV->ME->Prop)(hd:∀ ε,I [] ε->N ε)(hs:∀ x xs ε,I (x::xs) ε->∃ ε1,g x ε=some ε1/\f ε1 (fun ε2=>I xs ε2) R) :
  ∀ (xs:List PV) (ε:ME),I xs ε->QY g f xs ε N R
 | [],ε,h=>hd ε h
 | x::xs,ε,h=>by
  obtain ⟨ε1,e1,h1⟩:=hs x xs ε h
  exact ⟨ε1,e1,F.h (fun ε2 h2=>JV I hd hs xs ε2 h2) (fun _ _ z=>z) h1⟩
end Mi
namespace Mi
open PySem L2
section
variable {ε ε1:ME}{a b:MS}{f g:M}{x y z:PV}{i:Nat}{o:Option Out}
theorem u7 (h:a ε=some (.nx ε1))(k:b ε1=o):v9 a b ε=o:=by unfold v9;rw [h];exact k
theorem Xt (h:a ε=some (.rt y)):v9 a b ε=some (.rt y):=by unfold v9;rw [h];rfl
theorem qC (h:f ε=some x):n9 i f ε=some (.nx (ε.set i (.sh x))):=by unfold n9;rw [h];rfl
theorem YR (h:f ε=some x):wZ i f ε=some (.nx (ε.set i (.ow x))):=by unfold wZ;rw [h];rfl
theorem m8 (h:f ε=some x):w5 f ε=some (.rt x):=by unfold w5;rw [h];rfl
theorem w9 {G:PV->PV->Option PV}{r:Option PV}(h1:f ε=some x)(h2:g ε=some y)(h:G x y=r):z0 G f g ε=r:=by unfold z0;rw [h1];show Option.bind (g ε) _=_;rw [h2];exact h
theorem v3 {m:List PV->Option PV}{as:MA}{xs:List PV}{r:Option PV}(h1:as ε=some xs)(h:m xs=r):z5 m as ε=r:=by unfold z5;rw [h1];exact h
theorem v8 {r:MA}{xs:List PV}(h1:f ε=some x)(h2:r ε=some xs):q8 f r ε=some (x::xs):=by unfold q8;rw [h1];show Option.bind (r ε) _=_;rw [h2];rfl
theorem Qd {c:MB}(h:c ε=some true)(k:a ε=o):m5 c a b ε=o:=by unfold m5;rw [h];exact k
theorem qM {c:MB}(h:c ε=some false)(k:b ε=o):m5 c a b ε=o:=by unfold m5;rw [h];exact k
theorem xP {it:MA}{G:MG}{xs:List PV}(h:it ε=some xs)(k:o3 G a xs ε=o):xt it G a ε=o:=by unfold xt;rw [h];exact k
theorem ev_sl {l u:ME->Option (Option Int)}{xs:List PV}{lo hi:Option Int}(h1:f ε=some (.lst xs))(h2:l ε=some lo)(h3:u ε=some hi):Qa f l u ε=some (.lst (jN xs lo hi)):=by
 unfold Qa;rw [h1];show Option.bind (l ε) _=_;rw [h2];show Option.bind (u ε) _=_;rw [h3];rfl
theorem Qe {as:MA}{xs:List PV}(h:as ε=some xs)(hl:xs.length<=lim):xE as ε=some (.lst xs):=by unfold xE;rw [h];show (if _ then _ else _)=_;rw [if_pos hl]
theorem zH {as:MA}{xs:List PV}(h:as ε=some xs)(hl:xs.length<=lim):qL as ε=some (.tup xs):=by unfold qL;rw [h];show (if _ then _ else _)=_;rw [if_pos hl]
theorem YL {cap:List (Option Nat)}{ts:List Nat}{it:MA}{G:MG}{c:MB}{xs ys:List PV}(h:it ε=some xs)(hc:ju cap ts=true)(hl:xs.length<=lim)(k:xN G c f (qd cap ε) xs=some ys):m9 cap ts it G c f ε=some (.lst ys):=by
 unfold m9;rw [h];show (if _ then _ else _)=_;rw [if_pos ⟨hc,hl⟩,k];rfl
end
theorem DW {xs ys:List PV}(h:xs.length + ys.length<=lim):qT (.lst xs) (.lst ys)=some (.lst (xs++ys)):=by show (if _ then _ else _)=_;rw [if_pos h]
theorem xG {n k:Nat}{b:MS}{xs:List PV}{y:PV}(hl:xs.length=k)(h:b (xs.map .sh++List.replicate (n - k) .no)=some (.rt y)):qt n k b xs=some y:=by unfold qt;rw [if_pos hl,h];rfl
theorem qv {n k:Nat}{b:MS}{xs:List PV}{y:PV}(hl:xs.length=k)(h:b (xs.map .sh++List.replicate (n - k) .no)=some (.rt y)):t9 n k b xs=some y:=by unfold t9;rw [if_pos hl,h];rfl
theorem Vk {f:PV->PV->Option Bool}:∀ {xs:List PV},(∀ x ∈ xs,f x x=some true)->zr f xs xs=some true
 | [],_=>rfl
 | x::xs,h=>by unfold zr;rw [h x List.mem_cons_self];show Option.bind (zr f xs xs) _=_;rw [Vk fun y hy=>h y (List.mem_cons_of_mem _ hy)];rfl
def wD:Nat->PV->Prop
 | _,.at u=>y8 u=true
 | n + 1,.lst xs=>∀ x ∈ xs,wD n x
 | n + 1,.tup xs=>∀ x ∈ xs,wD n x
 | _,_=>False
theorem XZ:∀ (n:Nat) {x:PV},wD n x->peq n x x=some true
 | 0,x,h=>by
  cases x with
  | «at» u=>show (if _ then _ else _)=_;rw [if_pos ⟨h,h⟩,Xp h]
  | _=>exact h.elim
 | n + 1,x,h=>by
  cases x with
  | «at» u=>show (if _ then _ else _)=_;rw [if_pos ⟨(show y8 u=true from h),h⟩,Xp h]
  | lst xs=>show (if _ then _ else _)=_;rw [if_pos rfl];exact Vk fun y hy=>XZ n (h y hy)
  | tup xs=>show Option.bind (zr (peq n) xs xs) _=_;rw [Vk fun y hy=>XZ n (h y hy)];show some (true && (xs.length == xs.length))=_;rw [beq_self_eq_true];rfl
  | _=>exact h.elim
theorem DX {x:PV}(h:wD 6 x):qw x x=some (.at (.bl true)):=by unfold qw;rw [XZ 6 h];rfl
theorem Ve {x:PV}(h:wD 6 x):pNe x x=some (.at (.bl false)):=by unfold pNe;rw [XZ 6 h];rfl
end Mi
namespace Mi
open PySem L2
class jp (K:Fg)(C:Addr):Prop where
 c:Cls K C
class NoA (K:Fg)(C:Addr)(f:Str):Prop where
 n:NoAttr K C f
def we (f:Str):List Str->List PV->Option PV
 | n::ns,x::xs=>if f=n then some x else we f ns xs
 | _,_=>none
theorem Uw {H:Hp}{f:Str}{y:PV}:∀ {fs:List (Str × V)} {xs:List PV},Reps H xs (fs.map (·.2))->we f (fs.map (·.1)) xs=some y->∃ v,fs.lookup f=some v/\Rep H y v
 | [],xs,r,h=>by cases xs <;> cases h
 | p::fs,xs,r,h=>by
  cases xs with
  | nil=>cases h
  | cons x xs =>
   obtain ⟨v,w,e,p1,p2⟩:=reps_cons.mp r
   rw [List.map_cons] at e
   injection e with e1 e2
   subst e1 e2
   rw [List.map_cons] at h
   unfold we at h
   rw [List.lookup_cons]
   split at h
   ·rename_i hf
    cases h
    rw [hf,beq_self_eq_true]
    exact ⟨p.2,rfl,p1⟩
   ·rename_i hf
    rw [beq_eq_false_iff_ne.mpr hf]
    exact Uw p2 h
def zX (C:Addr)(f:Str)(a:M):M:=fun ε=>(a ε).bind fun x=>match x with
 | .ob C' ns xs=>if C'=C then we f ns xs else none
 | _=>none
theorem BN {C:Addr}{f:Str}{a:M}{ε:ME}{y:PV}(h:zX C f a ε=some y):∃ ns xs,a ε=some (.ob C ns xs)/\we f ns xs=some y:=by
 unfold zX at h
 obtain ⟨x,ex,h1⟩:=bind_some h
 split at h1
 ·split at h1
  ·rename_i hc
   subst hc
   exact ⟨_,_,ex,h1⟩
  ·cases h1
 ·cases h1
instance {K:Fg}{C:Addr}{f:Str}{te:TE}{a:M}[c:jp K C][n:NoA K C f][s:qc te a]:SemE (tFld K te f) (zX C f a) where
 h:=fun e _ _ _ _ _ rs _ q=>by
  obtain ⟨ns,xs,ea,el⟩:=BN e
  refine s.h ea rs fun v Hs1 H1 x1 r1=>?_
  obtain ⟨p,dx,fs,rfl,hp,hk,hr⟩:=GC x1.s3 r1
  rw [<- hk] at el
  obtain ⟨u,hu,ru⟩:=Uw hr el
  exact ⟨p,C,dx,fs,u,rfl,hp,c.c,n.n,hu,q u _ _ x1 ru⟩
theorem Vh {X:Cx}{K:Fg}{e:Expr}{f:Str}{ta:TE}{pos:Pos}(hK:X.K=K)(he:PE X e ta)(hb:attributeBase e f X.env (eval e X.env)=eval e X.env:=by rfl):PE X (.Attribute e f pos) (tFld K ta f):=by
 subst hK;exact Md he hb
structure Mt (P:Program)(w:World)(K:Fg)(mg:Str->Option Value)(base:Heap)(k:Nat)(C:Addr)(m:Str)(ps:List Str)(sp:Sp):Prop where
 ex:∃ f fd,FnOk P w K mg base v5 k f fd ps sp/\wM K C m f/\Cls K C/\Binds K fd ps []
section
variable {X:Cx}{k j:Nat}{C:Addr}{m:Str}{ps:List Str}{sp:Sp}{o e:Expr}{es:List Expr}{ta:TE}{t:TA}{apos pos:Pos}
theorem XY {pl:Sem Bool}(c:Mt X.prog X.w X.K X.mg X.base k C m ps sp)(hr:Room j X.A)(hj:k<=j)(ho:PE X o ta)(ha:PA X (e::es) t)
  (hst:starEach (e::es) X.env=(false,eval e X.env)::starEach es X.env:=by rfl) (hpl:(backTo pos (starEach es X.env)).any (·.1)=false:=by rfl)
  (ht:eval (.Call (.Attribute o m apos) (e::es) [] pos) X.env=(do
   let ov <- eval o X.env
   standAt apos.atName
   let (f,first) <- holding [ov] (getMethod ov m pl)
   callWith pos f first (backTo pos (starEach (e::es) X.env)) (backToKw pos (keywordEach [] X.env))):=by rfl) :
  PE X (.Call (.Attribute o m apos) (e::es) [] pos) (vB C m sp [] E0 ta t):=by
 obtain ⟨f,fd,F,hm,hc,hb⟩:=c.ex
 exact Mf ho hc hm F (hr.mono hj) hb .nil XV ha hst hpl ht
theorem Qy {pl:Sem Bool}(c:Mt X.prog X.w X.K X.mg X.base k C m ps sp)(hr:Room j X.A)(hj:k<=j)(ho:PE X o ta)
  (ht:eval (.Call (.Attribute o m apos) [] [] pos) X.env=(do
   let ov <- eval o X.env
   standAt apos.atName
   let (f,first) <- holding [ov] (getMethod ov m pl)
   callWith pos f first (backTo pos (starEach [] X.env)) (backToKw pos (keywordEach [] X.env))):=by rfl) :
  PE X (.Call (.Attribute o m apos) [] [] pos) (vB C m sp [] E0 ta xU):=by
 obtain ⟨f,fd,F,hm,hc,hb⟩:=c.ex
 exact Mg ho hc hm F (hr.mono hj) hb .nil XV ht
end
end Mi
namespace Mi
open PySem L2
variable {fr:Bool}
def jx:PV->Option z7
 | .at (.int i)=>some (.inl i)
 | .at (.str x)=>some (.inr x)
 | _=>none
theorem wc {Hs H:Hp}{x:PV}{v:V}{k:z7}(r:RepB Hs H x v)(h:jx x=some k):v=kV k:=by
 unfold jx at h
 split at h
 ·cases h;cases p8 r;rfl
 ·cases h;cases p8 r;rfl
 ·cases h
def xc (k:z7):List z7->List PV->Option PV
 | n::ns,x::xs=>if n=k then some x else xc k ns xs
 | _,_=>none
theorem XB {H:Hp}{k:z7}:∀ {kvs:List (z7 × V)} {xs:List PV},Reps H xs (kvs.map (·.2))->match xc k (kvs.map (·.1)) xs with
  | some y=>∃ v,qP kvs k=some v/\Rep H y v
  | none=>qP kvs k=none
 | [],xs,r=>by
  have hx:xs=[]:=List.length_eq_zero_iff.mp r.length.symm
  subst hx
  rfl
 | p::kvs,xs,r=>by
  cases xs with
  | nil=>have:=r.length;simp at this
  | cons x xs =>
   obtain ⟨v,w,e,p1,p2⟩:=reps_cons.mp r
   rw [List.map_cons] at e
   injection e with e1 e2
   subst e1 e2
   rw [List.map_cons]
   unfold xc
   by_cases hk:p.1=k
   ·rw [if_pos hk]
    refine ⟨p.2,?_,p1⟩
    unfold qP
    rw [List.find?_cons,decide_eq_true hk]
    rfl
   ·rw [if_neg hk]
    have ih:=XB (k:=k) p2
    have ev:qP (p::kvs) k=qP kvs k:=by
     unfold qP
     rw [List.find?_cons,decide_eq_false hk]
    rw [ev]
    exact ih
def qK (a b:M):M:=fun ε=>(a ε).bind fun x=>(b ε).bind fun y=>(jx y).bind fun k=>match x with
 | .dk ks xs=>xc k ks xs
 | .fk ks xs=>xc k ks xs
 | _=>none
instance {td ty:TE}{a b:M}[sa:qc td a][sb:qc ty b]:SemE (GZ td ty) (qK a b) where
 h:=fun e _ _ _ _ _ rs _ q=>by
  obtain ⟨x,ex,e1⟩:=bind_some e
  obtain ⟨y,ey,e2⟩:=bind_some e1
  obtain ⟨k,ek,e3⟩:=bind_some e2
  split at e3
  ·refine sa.h ex rs fun v Hs1 H1 x1 r1=>sb.h ey (rs.go x1) fun w Hs2 H2 x2 r2=>?_
   obtain ⟨p,kvs,rfl,hp,hk,hr⟩:=vt x2.s3 (r1.ext x2)
   have l:=XB (k:=k) hr
   rw [hk,e3] at l
   obtain ⟨u,hu,ru⟩:=l
   have ew:=wc r2 ek
   subst ew
   exact ⟨p,u,rfl,by rw [<- hu];exact DGet.k hp,q u _ _ (x1.trans x2) ru⟩
  ·refine sa.h ex rs fun v Hs1 H1 x1 r1=>sb.h ey (rs.go x1) fun w Hs2 H2 x2 r2=>?_
   obtain ⟨p,o,kvs,rfl,hp,hk,hr⟩:=Zg x2.s3 (r1.ext x2)
   have l:=XB (k:=k) hr
   rw [hk,e3] at l
   obtain ⟨u,hu,ru⟩:=l
   have ew:=wc r2 ek
   subst ew
   exact ⟨p,u,rfl,by rw [<- hu];exact .inl ⟨kvs,k,.inr ⟨o,hp⟩,rfl,rfl⟩,q u _ _ (x1.trans x2) ru⟩
  ·cases e3
def dDIn (b a:M):M:=fun ε=>(b ε).bind fun y=>(a ε).bind fun x=>(jx y).bind fun k=>match x with
 | .dk ks xs=>some (.at (.bl (xc k ks xs).isSome))
 | .fk ks xs=>some (.at (.bl (xc k ks xs).isSome))
 | _=>none
theorem JS {H:Hp}{k:z7}{kvs:List (z7 × V)}{xs:List PV}(r:Reps H xs (kvs.map (·.2))):(xc k (kvs.map (·.1)) xs).isSome=(qP kvs k).isSome:=by
 have l:=XB (k:=k) r
 cases e:xc k (kvs.map (·.1)) xs with
 | none=>rw [e] at l;rw [show qP kvs k=none from l];rfl
 | some y=>rw [e] at l;obtain ⟨v,hv,_⟩:=l;rw [hv];rfl
instance {td ty:TE}{a b:M}[sa:qc td a][sb:qc ty b]:SemE (tDIn ty td) (dDIn b a) where
 h:=fun e _ _ _ _ _ rs _ q=>by
  obtain ⟨y,ey,e1⟩:=bind_some e
  obtain ⟨x,ex,e2⟩:=bind_some e1
  obtain ⟨k,ek,e3⟩:=bind_some e2
  split at e3
  ·cases e3
   refine sb.h ey rs fun w Hs1 H1 x1 r1=>sa.h ex (rs.go x1) fun v Hs2 H2 x2 r2=>?_
   obtain ⟨p,kvs,rfl,hp,hk,hr⟩:=vt x2.s3 r2
   have ew:=wc r1 ek
   subst ew
   exact ⟨p,_,rfl,DGet.k hp,q _ _ _ (x1.trans x2) (rep_at.mpr (by rw [<- hk,JS hr]))⟩
  ·cases e3
   refine sb.h ey rs fun w Hs1 H1 x1 r1=>sa.h ex (rs.go x1) fun v Hs2 H2 x2 r2=>?_
   obtain ⟨p,o,kvs,rfl,hp,hk,hr⟩:=Zg x2.s3 r2
   have ew:=wc r1 ek
   subst ew
   exact ⟨p,_,rfl,.inl ⟨kvs,_,.inr ⟨o,hp⟩,rfl,rfl⟩,q _ _ _ (x1.trans x2) (rep_at.mpr (by rw [<- hk,JS hr]))⟩
  ·cases e3
def Yz:M:=fun _=>some (.dk [] [])
instance:xM Kb Yz where
 h:=fun e _ _ _ _ _ rs _ q=>by
  cases e
  exact fun p hp=>q p _ _ (.newO rs.sub hp) hp (rs.sub.free hp) ⟨[],y4,rfl,.nil⟩
def QI (k:z7)(y:PV):List z7->List PV->List PV
 | n::ns,x::xs=>if n=k then y::QI k y ns xs else x::QI k y ns xs
 | _,xs=>xs
def Ze (k:z7)(y:PV)(ks:List z7)(xs:List PV):PV:=if (xc k ks xs).isSome=true then .dk ks (QI k y ks xs) else .dk (ks++[k]) (xs++[y])
theorem Gd {H:Hp}{k:z7}{y:PV}{v:V}(ry:Rep H y v):∀ {kvs:List (z7 × V)} {xs:List PV},Reps H xs (kvs.map (·.2))->Reps H (QI k y (kvs.map (·.1)) xs) ((kvs.map (fun kv=>if kv.1=k then (kv.1,v) else kv)).map (·.2))/\(kvs.map (fun kv=>if kv.1=k then (kv.1,v) else kv)).map (·.1)=kvs.map (·.1)
 | [],xs,r=>by
  have hx:xs=[]:=List.length_eq_zero_iff.mp r.length.symm
  subst hx
  exact ⟨.nil,rfl⟩
 | p::kvs,xs,r=>by
  cases xs with
  | nil=>have:=r.length;simp at this
  | cons x xs =>
   obtain ⟨u,w,e,p1,p2⟩:=reps_cons.mp r
   rw [List.map_cons] at e
   injection e with e1 e2
   subst e1 e2
   obtain ⟨h1,h2⟩:=Gd (k:=k) ry p2
   rw [List.map_cons,List.map_cons,List.map_cons,List.map_cons]
   unfold QI
   by_cases hk:p.1=k
   ·rw [if_pos hk,if_pos hk]
    exact ⟨.cons ry h1,by rw [h2]⟩
   ·rw [if_neg hk,if_neg hk]
    exact ⟨.cons p1 h1,by rw [h2]⟩
def dPut (i:Nat)(kk vv:M):MS:=fun ε=>(vv ε).bind fun y=>(kk ε).bind fun x=>(jx x).bind fun k=>match ε[i]? with
 | some (.ow (.dk ks xs))=>if ks.length<=lim then some (.nx (ε.set i (.ow (Ze k y ks xs)))) else none
 | _=>none
instance {i:Nat}{ty tv:TE}{kk vv:M}[sk:SemE ty kk][sv:SemE tv vv]:qp fr (GJ (qW i) ty tv) (dPut i kk vv) where
 h:=fun e _ _ _ _ _ rs _ q=>by
  obtain ⟨y,ey,e1⟩:=bind_some e
  obtain ⟨x,ex,e2⟩:=bind_some e1
  obtain ⟨k,ek,e3⟩:=bind_some e2
  split at e3
  ·rename_i ks xs hi
   split at e3
   ·rename_i hl
    cases e3
    refine sv.h ey rs fun v Hs1 H1 x1 r1=>?_
    obtain ⟨p,hp,n0,n,t⟩:=(rs.go x1).ow i _ hi
    refine ⟨_,hp,sk.h ex (rs.go x1) fun w Hs2 H2 x2 r2=>?_⟩
    obtain ⟨p',hp',_,n2,kvs,hv,hk,hr⟩:=((rs.go x1).go x2).ow i _ hi
    rw [hp] at hp'
    injection hp' with hp';injection hp' with hp';injection hp' with hp'
    subst hp'
    have ew:=wc (.inl r2:RepB Hs2 H2 x w) ek
    subst ew
    have hlen:kvs.length<=lim:=by rw [<- hk,List.length_map] at hl;exact hl
    refine ⟨p,_,rfl,DPut.k hv (Uv hlen),q _ _ _ (((rs.go x1).go x2).change hi hp ?_)⟩
    have hs:=JS (k:=k) hr
    unfold Ze zc
    rw [VH,<- hs,hk]
    by_cases hc:(xc k ks xs).isSome=true
    ·rw [if_pos hc,if_pos hc]
     obtain ⟨q1,q2⟩:=Gd (k:=k) (r1.mono x2.s1) hr
     exact ⟨_,y4,by rw [q2,hk],by rw [<- hk];exact q1⟩
    ·rw [if_neg hc,if_neg hc]
     exact ⟨_,y4,by rw [List.map_append,hk];rfl,by rw [List.map_append];exact hr.append (.one (r1.mono x2.s1))⟩
   ·cases e3
  ·cases e3
end Mi
namespace Mi
open PySem L2
def rLeS:R2:=fun x y H Q=>∃ i j,x = .str i/\y = .str j/\Q (.bl (!decide (j.cps.toList < i.cps.toList))) H
theorem UL {X:Cx}:OpR X (compareOp .LtE) rLeS:=DT
def pLeS:PV->PV->Option PV
 | .at (.str i),.at (.str j)=>some (.at (.bl (!decide (j.cps.toList < i.cps.toList))))
 | _,_=>none
instance:xm rLeS pLeS where
 h:=fun {x y z} e {Hs H v w} s a b {Q} q=>by
  unfold pLeS at e
  split at e
  ·cases e
   cases p8 a
   cases p8 b
   exact ⟨_,_,rfl,rfl,q _ _ _ (.refl s) (rep_at.mpr rfl)⟩
  ·cases e
def QP (z:Str):List PV:=z.cps.toList.map fun c=> .at (.str ⟨#[c]⟩)
def dItS (a:M):MA:=fun ε=>(a ε).bind fun x=>match x with
 | .at (.str z)=>some (QP z)
 | _=>none
theorem Cd {z:Str}{Hs:Hp}:jq (ItS z) (QP z) Hs where
 go:=fun i x Hs1 H1 e g1 g2=>by
  unfold QP at e
  rw [List.getElem?_map] at e
  obtain ⟨c,hc,rfl⟩:=Option.map_eq_some_iff.mp e
  rw [Array.getElem?_toList] at hc
  have hl:i < z.cps.size:=(Array.getElem?_eq_some_iff.mp hc).1
  refine ⟨hl,fun v H2 y=>?_⟩
  obtain ⟨rfl,c',hc',rfl⟩:=y
  rw [hc] at hc'
  cases hc'
  exact ⟨Hs1,.refl g2,rep_at.mpr rfl⟩
 stop:=fun Hs1 H1 g1 g2=>by
  show (QP z).length=z.cps.size
  unfold QP
  rw [List.length_map,Array.length_toList]
instance {te:TE}{a:M}[sa:SemE te a]:zR (iStr te) (dItS a) where
 h:=fun e _ _ _ _ _ rs _ q=>by
  obtain ⟨x,ex,e1⟩:=bind_some e
  split at e1
  ·cases e1
   exact sa.h ex rs fun v Hs1 H1 x1 r1=>⟨_,rep_at.mp r1,q _ _ _ x1 Cd⟩
  ·cases e1
end Mi
namespace Mi
open PySem L2
theorem Gc {f:Str}{v:V}:∀ {fs:List (Str × V)},f ∉ fs.map (·.1)->qU f v fs=fs++[(f,v)]
 | [],_=>rfl
 | (g,x)::r,h=>by
  rw [List.map_cons] at h
  unfold qU
  rw [if_neg (show ¬ g=f from fun z=>h (by rw [<- z];exact List.mem_cons_self)),Gc fun z=>h (List.mem_cons_of_mem _ z)]
  rfl
def KG (C:Addr)(f:Str)(a:W):WS:=fun ε N _=>a ε fun y ε1=>∃ ns xs,ε1[0]?=some (.ow (.ob C ns xs))/\f ∉ ns/\ns.length < 1000/\N (ε1.set 0 (.ow (.ob C (ns++[f]) (xs++[y]))))
instance {K:Fg}{C:Addr}{f:Str}{te:TE}{a:W}[c:jp K C][n:NoA K C f][sa:SemW te a]:SemWS (QM K (qW 0) te f) (KG C f a) where
 h:=fun h _ _ _ _ _ _ rd _ k _=>sa.h h rd fun y ε1 v Hs1 H1 h1 rd1 g1 r1=>by
  obtain ⟨ns,xs,he,hf,hl,h2⟩:=h1
  obtain ⟨p,hp,h0,hs,dx,fs,hH,hk,hr⟩:=rd1.ow 0 _ he
  have hf':f ∉ fs.map (·.1):=by rw [hk];exact hf
  have hl':fs.length < 1000:=by rw [<- List.length_map (f:=(·.1)),hk];exact hl
  refine ⟨_,hp,p,C,dx,fs,rfl,hH,c.c,n.n,hl',?_⟩
  rw [Gc hf']
  exact k _ _ _ _ h2 (rd1.change he hp ⟨dx,_,y4,by rw [List.map_append,hk];rfl,by rw [List.map_append];exact hr.append (.one r1)⟩) g1
def vQ (C:Addr)(nm:Str)(m:List PV->Option PV)(i:Nat)(as:MA):M:=fun ε=>match ε[i]? with
 | some (.ow (.ob C' ns fs))=>if C'=C/\nm ∉ ns then (as ε).bind fun xs=>(m (.ob C ns fs::xs)).bind fun y=>match y with
  | .at u=>some (.at u)
  | _=>none else none
 | _=>none
instance {C:Addr}{nm:Str}{m:List PV->Option PV}{i:Nat}{ta:TA}{as:MA}{E:XK}[sa:xl ta as]:SemE (vB C nm (v7 m) [] E (qW i) ta) (vQ C nm m i as) where
 h:=fun {ε y} e {Hs0 H0 Hs H σ} rs {Q} q=>by
  unfold vQ at e
  split at e
  ·rename_i C' ns fs hi
   split at e
   ·rename_i hc
    obtain ⟨rfl,hn⟩:=hc
    obtain ⟨xs,ex,e1⟩:=bind_some e
    obtain ⟨z,ez,e2⟩:=bind_some e1
    split at e2
    ·rename_i u
     cases e2
     obtain ⟨p,hp,n0,n,dx,gs,hH,hk,hr⟩:=rs.ow i _ hi
     refine ⟨_,hp,p,dx,gs,rfl,hH,JT (by rw [hk];exact hn),sa.h ex rs fun vs Hs1 H1 x1 r1=>?_⟩
     have hH1:=x1.s2 _ _ hH
     have n1:Hs1 p=none:=x1.s4 p (by rw [hH];exact fun z=>nomatch z) n
     have g:Same Hs1 (j7 Hs1 p (.ins C' dx gs)):=fun b w e=>by rw [j3 (y7 e n1)];exact e
     refine ⟨j7 Hs1 p (.ins C' dx gs),_,_,?_,?_,ez,fun v Hs' H' x r=>?_⟩
     ·intro b w e
      by_cases hb:b=p
      ·subst hb;rw [y4] at e;cases e;exact hH1
      ·rw [j3 hb] at e;exact x1.s3 _ _ e
     ·rw [List.append_nil]
      exact .cons (rep_ob.mpr ⟨p,dx,gs,rfl,y4,hk,(hr.mono x1.s1).mono g⟩) (r1.mono g)
     ·cases rep_at.mp r
      refine q _ (fun b=>if b=p then none else Hs' b) H' (x1.trans ⟨fun b w e=>?_,x.s2,fun b w e=>?_,fun b hb w=>?_⟩) (rep_at.mpr rfl)
      ·rw [if_neg (y7 e n1)];exact x.s1 _ _ (g _ _ e)
      ·split at e
       ·cases e
       ·exact x.s3 _ _ e
      ·by_cases hbp:b=p
       ·rw [if_pos hbp]
       ·rw [if_neg hbp];exact x.s4 b hb (by rw [j3 hbp];exact w)
    ·cases e2
   ·cases e
  ·cases e
def spI (C:Addr)(m:List PV->Option PV):Sp:=fun vs H Q _=>∃ Hs x dx xs ws y,vs = .ref x::ws/\Same Hs H/\H x=some (.ins C dx [])/\Hs x=none/\Reps Hs xs ws/\m xs=some y /\
 ∀ Hs' H',Same Hs Hs'->(∀ b o,H b=some o->b ≠ x->H' b=some o)->Same Hs' H'->(∀ b,H b ≠ none->b ≠ x->Hs b=none->Hs' b=none)->Rep Hs' y (.ref x)->Q .non H'
instance {C:Addr}{m:List PV->Option PV}{ta:TA}{as:MA}{E:XK}{ds:List V}[sa:xl ta as]:SemE (QU C (spI C m) ds E ta) (Jx m ds as) where
 h:=fun e _ _ _ _ _ rs _ q=>by
  obtain ⟨xs,ex,e1⟩:=bind_some e
  refine sa.h ex rs fun vs Hs1 H1 x1 r1=>fun x dx hx hdx hne=>?_
  have s3:Same Hs1 (j7 (j7 H1 dx (.own x)) x (.ins C dx [])):=fun b o e=>by
   have e':=x1.s3 _ _ e
   rw [j3 (y7 e' hx),j3 (y7 e' hdx)]
   exact e'
  refine ⟨Hs1,x,dx,_,_,_,rfl,s3,y4,x1.s3.free hx,r1.append (.ofAts ds),e1,fun Hs' H' g1 g2 g3 g4 r=>⟨rfl,q _ _ _ (x1.trans ⟨g1,fun b o e=>?_,g3,fun b hb z=>?_⟩) r⟩⟩
  ·refine g2 b o ?_ (y7 e hx)
   rw [j3 (y7 e hx),j3 (y7 e hdx)]
   exact e
  ·have hbx:b ≠ x:=fun w=>hb (by rw [w];exact hx)
   have hbd:b ≠ dx:=fun w=>hb (by rw [w];exact hdx)
   exact g4 b (by rw [j3 hbx,j3 hbd];exact hb) hbx z
section
variable {P:Program}{w:World}{K:Fg}{mg:Str->Option Value}{base:Heap}
theorem MY {N:List Str}{Hs H:Hp}{a:Addr}{y:PV}{xs:List PV}{ws:List V}(s:Same Hs H)(ha:Hs a=none)(t:Top Hs H a y)(r:Reps Hs xs ws) :
  RD [a] Hs H Hs H (L2.start N (.ref a::ws)) (.ow y::xs.map .sh++List.replicate (N.length - (xs.length + 1)) .no):=by
 have q:=vy (N:=N) (xs:= .at (.ref a)::xs) s (.cons (rep_at.mpr rfl) r)
 have tl:∀ (i:Nat) (sl:MSlot),(MSlot.ow y::xs.map .sh++List.replicate (N.length - (xs.length + 1)) .no)[i + 1]?=some sl->((PV.at (.ref a)::xs).map MSlot.sh++List.replicate (N.length - (PV.at (.ref a)::xs).length) .no)[i + 1]?=some sl:=fun i sl h=>h
 refine ⟨.refl _,fun b o e _=>e,s,fun _ _ z=>z,fun i x h=>?_,fun i x h=>?_,fun i j x y b h1 h2 _ _=>?_,?_,fun b hb=>?_,fun b hb=>?_,(fun b hb=>⟨_,rfl⟩),fun i x h=>by
  cases i with
  | zero=>simp at h
  | succ i=>exact Vr (xs:=PV.at (.ref a)::xs) (tl i _ h)⟩
 ·cases i with
  | zero=>simp at h
  | succ i=>exact q.sh (i + 1) x (tl i _ h)
 ·cases i with
  | zero =>
   simp at h
   subst h
   exact ⟨a,by unfold L2.start;rfl,.inr (List.mem_singleton.mpr rfl),ha,t⟩
  | succ i=>exact absurd (tl i _ h) (vx (xs:=PV.at (.ref a)::xs))
 ·cases i with
  | zero =>
   cases j with
   | zero=>rfl
   | succ j=>exact absurd (tl j _ h2) (vx (xs:=PV.at (.ref a)::xs))
  | succ i=>exact absurd (tl i _ h1) (vx (xs:=PV.at (.ref a)::xs))
 ·exact q.len
 ·rw [List.mem_singleton.mp hb];unfold L2.start;rfl
 ·rw [List.mem_singleton.mp hb];exact t.there
end
end Mi
namespace Mi
open PySem L2
variable {fr:Bool}
section
variable {ε:ME}{c d:MB}{f:M}{a b:WS}{N:ME->Prop}{R:PV->ME->Prop}
theorem vD (h:c ε=some false)(k:b ε N R):qX (wPT c) a b ε N R:=by
 refine ⟨false,h,?_⟩
 show if false=true then a ε N R else b ε N R
 rw [if_neg Bool.false_ne_true]
 exact k
theorem Xa (h:c ε=some true)(k:a ε N R):qX (wPT c) a b ε N R:=by
 refine ⟨true,h,?_⟩
 show if true=true then a ε N R else b ε N R
 rw [if_pos rfl]
 exact k
theorem vR (h1:c ε=some false)(h2:d ε=some false):dOr c d ε=some false:=by
 unfold dOr;rw [h1];show (if false=true then some true else d ε)=_;rw [if_neg Bool.false_ne_true];exact h2
theorem BM (h1:c ε=some false):xD c d ε=some false:=by unfold xD;rw [h1];rfl
theorem Jw {v:Bool}(h1:c ε=some true)(h2:d ε=some v):xD c d ε=some v:=by
 unfold xD;rw [h1];show (if true=true then d ε else some false)=_;rw [if_pos rfl];exact h2
theorem xu (h:c ε=some true):qB c ε=some false:=by unfold qB;rw [h];rfl
theorem xF {v:Bool}(h:f ε=some (.at (.bl v))):o6 f ε=some v:=by unfold o6;rw [h];rfl
theorem i6 {v:Bool}(h:f ε=some (.at (.bl v))):dT f ε=some v:=by unfold dT;rw [h];rfl
theorem JL {xs:List PV}:qx [.lst xs,.at (.ty "list")]=some (.at (.bl true)):=by
 unfold qx tyP
 simp only [Option.bind_some,NE]
end
end Mi
namespace Mi
open PySem L2
variable {fr:Bool}
theorem Yu {g:MG}{f:M}{ε0:ME}{α:Type}(F G:α->PV):∀ (l:List α),(∀ a ∈ l,∃ ε1,g (F a) ε0=some ε1/\f ε1=some (G a))->xN g r9 f ε0 (l.map F)=some (l.map G)
 | [],_=>rfl
 | a::l,h=>by
  obtain ⟨ε1,e1,e2⟩:=h a List.mem_cons_self
  have ih:=Yu F G l fun b hb=>h b (List.mem_cons_of_mem _ hb)
  show Option.bind (g (F a) ε0) (fun ε1=>Option.bind (r9 ε1) fun b=>if b=true then (f ε1).bind fun y=>(xN g r9 f ε0 (l.map F)).bind fun ys=>some (y::ys) else xN g r9 f ε0 (l.map F))=_
  rw [e1,ih]
  show (if true=true then (f ε1).bind fun y=>some (y::l.map G) else some (l.map G))=_
  rw [if_pos rfl,e2]
  rfl
theorem Yt {g:MG}{c:MB}{f:M}{ε0:ME}{α:Type}(F G:α->PV)(p:α->Bool):∀ (l:List α),(∀ a ∈ l,∃ ε1,g (F a) ε0=some ε1/\c ε1=some (p a)/\(p a=true->f ε1=some (G a)))->xN g c f ε0 (l.map F)=some ((l.filter p).map G)
 | [],_=>rfl
 | a::l,h=>by
  obtain ⟨ε1,e1,e2,e3⟩:=h a List.mem_cons_self
  have ih:=Yt F G p l fun b hb=>h b (List.mem_cons_of_mem _ hb)
  show Option.bind (g (F a) ε0) (fun ε1=>Option.bind (c ε1) fun b=>if b=true then (f ε1).bind fun y=>(xN g c f ε0 (l.map F)).bind fun ys=>some (y::ys) else xN g c f ε0 (l.map F))=_
  rw [e1,ih]
  show Option.bind (c ε1) (fun b=>if b=true then (f ε1).bind fun y=>some (y::(l.filter p).map G) else some ((l.filter p).map G))=_
  rw [e2,Option.bind_some,List.filter_cons]
  cases hp:p a with
  | true=>rw [if_pos rfl,if_pos rfl,e3 hp];rfl
  | false=>rw [if_neg Bool.false_ne_true,if_neg Bool.false_ne_true]
theorem qR {cap:List (Option Nat)}{ts:List Nat}{it:MA}{g:MG}{f:M}{ε:ME}{α:Type}(F G:α->PV)(l:List α)(h:it ε=some (l.map F))(hc:ju cap ts=true)(hl:l.length<=lim)(k:∀ a ∈ l,∃ ε1,g (F a) (qd cap ε)=some ε1/\f ε1=some (G a)) :
  m9 cap ts it g r9 f ε=some (.lst (l.map G)):=YL h hc (by rw [List.length_map];exact hl) (Yu F G l k)
theorem YK {cap:List (Option Nat)}{ts:List Nat}{it:MA}{g:MG}{c:MB}{f:M}{ε:ME}{α:Type}(F G:α->PV)(p:α->Bool)(l:List α)(h:it ε=some (l.map F))(hc:ju cap ts=true)(hl:l.length<=lim)(k:∀ a ∈ l,∃ ε1,g (F a) (qd cap ε)=some ε1/\c ε1=some (p a)/\(p a=true->f ε1=some (G a))) :
  m9 cap ts it g c f ε=some (.lst ((l.filter p).map G)):=YL h hc (by rw [List.length_map];exact hl) (Yt F G p l k)
theorem wf {g:MG}{f:MS}{α:Type}(F:α->PV)(I:List α->ME->Prop)(h:∀ a l ε,I (a::l) ε->∃ ε1 ε2,g (F a) ε=some ε1/\f ε1=some (.nx ε2)/\I l ε2):∀ (l:List α) (ε:ME),I l ε->∃ ε',o3 g f (l.map F) ε=some (.nx ε')/\I [] ε'
 | [],ε,i=>⟨ε,rfl,i⟩
 | a::l,ε,i=>by
  obtain ⟨ε1,ε2,e1,e2,i2⟩:=h a l ε i
  obtain ⟨ε',e3,i3⟩:=wf F I h l ε2 i2
  refine ⟨ε',?_,i3⟩
  show Option.bind (g (F a) ε) (fun ε1=>Option.bind (f ε1) fun o=>match o with
   | .nx ε2=>o3 g f (l.map F) ε2
   | .ct ε2=>o3 g f (l.map F) ε2
   | .bk ε2=>some (.nx ε2)
   | .rt y=>some (.rt y))=_
  rw [e1,Option.bind_some,e2]
  exact e3
section
variable {ε:ME}{a b:M}{v w:Bool}
theorem jP (h1:a ε=some (.at (.bl true)))(h2:b ε=some (.at (.bl w))):zE a b ε=some (.at (.bl w)):=by unfold zE;rw [h1];exact h2
theorem Pb (h1:a ε=some (.at (.bl v))):Xj a ε=some (.at (.bl (!v))):=by unfold Xj;rw [h1];rfl
theorem Pa {c:MB}{x:PV}(h:c ε=some true)(k:a ε=some x):dIf c a b ε=some x:=by unfold dIf;rw [h];exact k
theorem YM {c:MB}{x:PV}(h:c ε=some false)(k:b ε=some x):dIf c a b ε=some x:=by unfold dIf;rw [h];exact k
theorem JF {g g':PV->PV->Option PV}{c:M}{x y z:PV}{r:Bool}(h1:a ε=some x)(h2:b ε=some y)(h3:g x y=some (.at (.bl true)))(h4:c ε=some z)(h5:g' y z=some (.at (.bl r))):jO g g' a b c ε=some (.at (.bl r)):=by
 unfold jO;rw [h1,Option.bind_some,h2,Option.bind_some,h3];show Option.bind (c ε) _=_;rw [h4];exact h5
theorem Qc {x:PV}(h:a ε=some x):zW a ε=some (.nx ε):=by unfold zW;rw [h];rfl
theorem qN:n5 ε=some (.nx ε):=rfl
theorem YO {xs:List PV}(h:a ε=some (.lst xs)):i0 a ε=some xs:=by unfold i0;rw [h];rfl
theorem Xr {C:Addr}{f:Str}{ns:List Str}{xs:List PV}{y:PV}(h:a ε=some (.ob C ns xs))(k:we f ns xs=some y):zX C f a ε=some y:=by unfold zX;rw [h,Option.bind_some];show (if C=C then _ else _)=_;rw [if_pos rfl];exact k
theorem jQ {C:Addr}{nm:Str}{m:List PV->Option PV}{as:MA}{ns:List Str}{fs xs:List PV}{y:Option PV}(h:a ε=some (.ob C ns fs))(hn:nm ∉ ns)(k:as ε=some xs)(e:m (.ob C ns fs::xs)=y):xO C nm m a as ε=y:=by
 unfold xO;rw [h,Option.bind_some];show (if C=C/\nm ∉ ns then _ else _)=_;rw [if_pos ⟨rfl,hn⟩,k];exact e
theorem Xs {n k:Nat}{bd:MS}{xs:List PV}{ε':ME}(hl:xs.length=k)(h:bd (xs.map .sh++List.replicate (n - k) .no)=some (.nx ε')):t9 n k bd xs=some (.at .non):=by unfold t9;rw [if_pos hl,h];rfl
theorem PQ {n:Int}:qx [.at (.int n),.at (.ty "int")]=some (.at (.bl true)):=by
 unfold qx tyP;simp only [Option.bind_some,ND]
theorem PR {n:Int}:qx [.at (.int n),.at (.ty "bool")]=some (.at (.bl false)):=by
 unfold qx tyP;simp only [Option.bind_some,NC]
theorem PU {n:Str}:qx [.at (.str n),.at (.ty "str")]=some (.at (.bl true)):=by
 unfold qx tyP;simp only [Option.bind_some,NF]
theorem PX {n:List PV}:qx [.tup n,.at (.ty "tuple")]=some (.at (.bl true)):=by
 unfold qx tyP;simp only [Option.bind_some,NG]
theorem Yh:∀ bs:List Bool,bls (bs.map fun b=> .at (.bl b))=some bs
 | []=>rfl
 | b::bs=>by
  have ih:=Yh bs
  rw [List.map_cons]
  unfold bls
  rw [ih];rfl
theorem KW (bs:List Bool):zn [.lst (bs.map fun b=> .at (.bl b))]=some (.at (.bl (bs.all id))):=by
 show (bls _).bind _=_;rw [Yh];rfl
theorem wS {α:Type}(l:List α):zn [.lst (l.map fun _=> .at (.bl true))]=some (.at (.bl true)):=by
 have e:(l.map fun _=>PV.at (.bl true))=((l.map fun _=>true).map fun b=>PV.at (.bl b)):=by rw [List.map_map];rfl
 rw [e,KW]
 have:(l.map fun _=>true).all id=true:=by simp
 rw [this]
end
end Mi
namespace Mi
open PySem L2
def leS (a b:Str):Bool:=!decide (b.cps.toList < a.cps.toList)
def jF (ss:List Str):List Str:=ss.mergeSort leS
theorem GR (ss:List Str):(jF ss).Perm ss:=List.mergeSort_perm ss leS
theorem Nd (ss:List Str):Xd (jF ss):=by
 have:=List.pairwise_mergeSort (le:=leS) (fun a b c h1 h2=>by
  unfold leS at h1 h2 ⊢
  simp only [Bool.not_eq_true',decide_eq_false_iff_not] at h1 h2 ⊢
  exact List.not_lt.mpr (List.le_trans (List.not_lt.mp h1) (List.not_lt.mp h2))) (fun a b=>by
  unfold leS
  by_cases h:b.cps.toList < a.cps.toList
  ·have h2:¬ (a.cps.toList < b.cps.toList):=fun k=>List.lt_irrefl _ (List.lt_trans h k)
   simp [h2]
  ·simp [h]) ss
 exact this.imp fun h=>by unfold leS at h;simpa using h
theorem Vy {ss ss':List Str}(p:ss'.Perm ss)(u:Xd ss'):ss'=jF ss :=
 List.Perm.eq_of_pairwise (fun a b _ _ h1 h2=>by
  have e:=List.le_antisymm (List.not_lt.mp h1) (List.not_lt.mp h2)
  cases a;cases b
  simp only [Str.mk.injEq]
  exact Array.toList_inj.mp e) u (Nd ss) (p.trans (GR ss).symm)
def jG:List PV->Option (List Str)
 | []=>some []
 | .at (.str s)::xs=>(jG xs).map (s::·)
 | _::_=>none
theorem VB:∀ {xs:List PV} {ss:List Str},jG xs=some ss->xs=ss.map fun s=> .at (.str s)
 | [],_,h=>by cases h;rfl
 | x::xs,ss,h=>by
  unfold jG at h
  split at h
  ·rename_i e;cases e
  ·rename_i s' xs' e
   injection e with e1 e2
   subst e1 e2
   obtain ⟨r,hr,rfl⟩:=Option.map_eq_some_iff.mp h
   rw [VB hr];rfl
  ·cases h
def jy:List z7->Option (List Str)
 | []=>some []
 | .inr s::xs=>(jy xs).map (s::·)
 | _::_=>none
theorem JO:∀ {xs:List z7} {ss:List Str},jy xs=some ss->xs=ss.map Sum.inr
 | [],_,h=>by cases h;rfl
 | x::xs,ss,h=>by
  unfold jy at h
  split at h
  ·rename_i e;cases e
  ·rename_i s' xs' e
   injection e with e1 e2
   subst e1 e2
   obtain ⟨r,hr,rfl⟩:=Option.map_eq_some_iff.mp h
   rw [JO hr];rfl
  ·cases h
def Vg:List PV->Option PV
 | [.lst xs]=>(jG xs).bind fun ss=>if ss.length < 64 then some (.lst ((jF ss).map fun s=> .at (.str s))) else none
 | [.dk ks _]=>(jy ks).bind fun ss=>if ss.length < 64 then some (.lst ((jF ss).map fun s=> .at (.str s))) else none
 | [.fk ks _]=>(jy ks).bind fun ss=>if ss.length < 64 then some (.lst ((jF ss).map fun s=> .at (.str s))) else none
 | _=>none
theorem Vo {H:Hp}(ss:List Str):Reps H (ss.map fun s=> .at (.str s)) (ss.map V.str):=by
 have:=Reps.ofAts (H:=H) (ss.map V.str)
 rwa [List.map_map] at this
instance {K:Fg}:Ji (Gr K) Vg where
 h:=fun {xs z} e {Hs H vs} s r {Q} q=>by
  unfold Vg at e
  split at e
  ·obtain ⟨ss,eb,e1⟩:=bind_some e
   split at e1
   ·rename_i hl
    cases e1
    obtain ⟨v,rfl,a⟩:=zd r
    obtain ⟨p,ws,rfl,e1,r1⟩:=qy s a
    rw [VB eb,show (ss.map fun b=>PV.at (.str b))=(ss.map V.str).map .at by rw [List.map_map];rfl] at r1
    cases r1.ats
    refine ⟨p,ss,rfl,.inl (SqL.of e1),hl,fun l ss' hn p1 p2=>?_⟩
    rw [Vy p1 p2]
    exact q l _ _ (.newO s hn) hn (s.free hn) ⟨_,y4,Vo _⟩
   ·cases e1
  ·obtain ⟨ss,eb,e1⟩:=bind_some e
   split at e1
   ·rename_i hl
    cases e1
    obtain ⟨v,rfl,a⟩:=zd r
    obtain ⟨p,kvs,rfl,hp,hk,hr⟩:=vt s a
    refine ⟨p,ss,rfl,.inr ⟨kvs,.inl hp,by rw [hk,JO eb]⟩,hl,fun l ss' hn p1 p2=>?_⟩
    rw [Vy p1 p2]
    exact q l _ _ (.newO s hn) hn (s.free hn) ⟨_,y4,Vo _⟩
   ·cases e1
  ·obtain ⟨ss,eb,e1⟩:=bind_some e
   split at e1
   ·rename_i hl
    cases e1
    obtain ⟨v,rfl,a⟩:=zd r
    obtain ⟨p,o,kvs,rfl,hp,hk,hr⟩:=Zg s a
    refine ⟨p,ss,rfl,.inr ⟨kvs,.inr ⟨o,hp⟩,by rw [hk,JO eb]⟩,hl,fun l ss' hn p1 p2=>?_⟩
    rw [Vy p1 p2]
    exact q l _ _ (.newO s hn) hn (s.free hn) ⟨_,y4,Vo _⟩
   ·cases e1
  ·cases e
def Gq (K:Fg):List V->Hp->VK->Prop:=fun xs H Q=>∃ (a:Addr) (ss:List Str),xs=[.ref a]/\SqL K H a (ss.map V.str)/\ss.length<=1000 /\
  ∀ l,H l=none->Q (.ref l) (j7 H l (jK (h8 (fun i=>(Sum.inr (ss.getD i ⟨#[]⟩):z7)) ss.length).length l))
theorem Bz {X:Cx}{K:Fg}(hc:X.calm=true)(h:X.K=K):CallR X (.type "set") (Gq K):=by subst h;exact BA hc
def JX (ss:List Str):Nat:=(h8 (fun i=>(Sum.inr (ss.getD i ⟨#[]⟩):z7)) ss.length).length
def Gm:List V->Hp->VK->Prop:=fun xs H Q=>∃ (a:Addr) (n:Nat),xs=[.ref a]/\H a=some (jK n a)/\Q (.int n) H
theorem Bw {X:Cx}:CallR X (.builtin "len") Gm:=Bv
def Yx (a:M):M:=fun ε=>(a ε).bind fun x=>match x with
 | .lst xs=>(jG xs).bind fun ss=>if ss.length<=1000 then some (.at (.int (JX ss))) else none
 | _=>none
instance {K:Fg}{te:TE}{a:M}[sa:qc te a]:SemE (tCB Gm (xC (tCB (Gq K) (xC te xU)) xU)) (Yx a) where
 h:=fun e _ _ _ _ _ rs _ q=>by
  obtain ⟨x,ex,e1⟩:=bind_some e
  split at e1
  ·obtain ⟨ss,eb,e2⟩:=bind_some e1
   split at e2
   ·rename_i hl
    cases e2
    refine sa.h ex rs fun v Hs1 H1 x1 r1=>?_
    obtain ⟨p,ws,rfl,ep,r2⟩:=qy x1.s3 r1
    rw [VB eb,show (ss.map fun b=>PV.at (.str b))=(ss.map V.str).map .at by rw [List.map_map];rfl] at r2
    cases r2.ats
    refine ⟨p,ss,rfl,SqL.of ep,hl,fun l hn=>⟨l,_,rfl,y4,q _ _ _ (x1.trans (.newO x1.s3 hn)) (rep_at.mpr rfl)⟩⟩
   ·cases e2
  ·cases e1
def pIsB:PV->PV->Option PV
 | .at (.bl b),.at (.bl c)=>some (.at (.bl (decide (b=c))))
 | _,_=>none
instance:xm rIsB pIsB where
 h:=fun {x y z} e {Hs H v w} s a b {Q} q=>by
  unfold pIsB at e
  split at e
  ·cases e
   exact ⟨_,_,p8 a,p8 b,q _ _ _ (.refl s) (rep_at.mpr rfl)⟩
  ·cases e
structure Mkr (P:Program)(w:World)(K:Fg)(mg:Str->Option Value)(base:Heap)(k:Nat)(C:Addr)(ps:List Str)(sp:Sp):Prop where
 ex:∃ f fd,FnOk P w K mg base v5 k f fd ps sp/\Mk K C f/\Binds K fd ps []
theorem pe_mk {X:Cx}{k j:Nat}{C:Addr}{ps:List Str}{sp:Sp}{x:Str}{p pos:Pos}{e:Expr}{es:List Expr}{t:TA}(c:Mkr X.prog X.w X.K X.mg X.base k C ps sp)(hr:Room j X.A)(hj:k + 1<=j)(hg:Gl X x)(hm:X.mg x=some (.ref C))
  (ha:PA X (e::es) t) (hdb:(x == ("__debug__":Str))=false:=by decide) (he:starEach (e::es) X.env=(false,eval e X.env)::starEach es X.env:=by rfl) (hpl:(backTo pos (starEach es X.env)).any (·.1)=false:=by rfl) :
  PE X (.Call (.Name x p) (e::es) [] pos) (QU C sp [] E0 t):=by
 obtain ⟨f,fd,F,hm',hb⟩:=c.ex
 exact Me hm' F (hr.mono hj) hg hm hb .nil XV ha hdb he hpl
instance (priority:=1100){C:Addr}{m:List PV->Option PV}{ta:TA}{as:MA}{E:XK}[sa:xl ta as]:SemE (QU C (spI C m) [] E ta) (z5 m as) where
 h:=fun {ε y} e=>SemE.h (te:=QU C (spI C m) [] E ta) (f:=Jx m [] as) (by
  unfold Jx
  unfold z5 at e
  simpa using e)
structure FunD (K:Fg)(x qual:Str)(st:Stmt)(f:Addr)(fd:FuncData):Prop where
 ex:∃ (oc:Value) (od:Option Addr) (dV kV doc pm:Value) (an:Option Addr) (cdv ct:Value) (osl:Array (Option Value)),
  fd=PySem.W.fnOf x qual (xX st) (qi st) (z9 st) dV kV doc pm an cdv ct/\K.lookup f=some ⟨oc,od,.func fd,osl⟩/\PySem.W.codeIn K cdv qual=true
 kp:PySem.W.keepIn K (.ref f)=true
section
variable {P:Program}{w:World}{K:Fg}{mg:Str->Option Value}{base:Heap}
theorem FunD.ok {x qual:Str}{st:Stmt}{f:Addr}{fd:FuncData}{N ps:List Str}{k:Nat}{sp:Sp}(F:FunD K x qual st f fd)(S:w4 N ps (z9 st))(len:∀ vs H Q E,sp vs H Q E->vs.length=ps.length)
  (hbody:∀ (cdv:Value) (A:Around) (outer:List Env) (s:Shared) (H:Hp) (vs:List V) (Q:VK) (E:XK),Room k (A.deeper (PyProof.Rows.envOfC qual (z9 st) s.heap.objs.size f cdv))->sp vs H Q E ->
   ∃ t,PSs (xb v5 P w K mg base N qual (z9 st) f cdv A outer s H E).nox (qi st) t/\t { nx:=fun _ H'=>Q .non H',rt:=Q } (L2.start N vs) H):FnOk P w K mg base v5 (k + 1) f fd ps sp:=by
 obtain ⟨oc,od,dV,kV,doc,pm,an,cdv,ct,osl,rfl,lk,hcd⟩:=F.ex
 refine JG lk hcd S len fun A outer s H vs Q E hr hsp=>?_
 obtain ⟨t,h,q⟩:=hbody cdv A outer s H vs Q E hr hsp
 exact ⟨t,h.nox,q⟩
theorem Ph {x qual:Str}{st:Stmt}{f:Addr}{oc:Value}{od an:Option Addr}{osl:Array (Option Value)}{dV kV doc pm cdv ct:Value}(l:K.lookup f=some ⟨oc,od,.func (PySem.W.fnOf x qual (xX st) (qi st) (z9 st) dV kV doc pm an cdv ct),osl⟩)
  (c:PySem.W.codeIn K cdv qual=true) (k:PySem.W.keepIn K (.ref f)=true):FunD K x qual st f (PySem.W.fnOf x qual (xX st) (qi st) (z9 st) dV kV doc pm an cdv ct):=⟨⟨oc,od,dV,kV,doc,pm,an,cdv,ct,osl,rfl,l,c⟩,k⟩
theorem QH {X:Cx}{o value:Expr}{f:Str}{ta tv:TE}{pos pos':Pos}(hK:X.K=K)(ha:PE X o ta)(hv:PE X value tv)(hs:swapsWith value (some (.Attribute o f pos')) pos.line X.env=pure false:=by rfl):PS X (.Assign [.Attribute o f pos'] value pos) (QM K ta tv f):=by
 subst hK;exact MH ha hv hs
theorem okI' {x qual:Str}{st:Stmt}{f C:Addr}{fd:FuncData}{N ps:List Str}{k:Nat}{b:WS}{m:List PV->Option PV}(F:FunD K x qual st f fd)(S:w4 N ps (z9 st))
  (hm:∀ xs y,m xs=some y->xs.length + 1=ps.length)
  (hb:∀ (cdv:Value) (A:Around) (outer:List Env) (s:Shared) (H:Hp) (E:XK),Room k (A.deeper (PyProof.Rows.envOfC qual (z9 st) s.heap.objs.size f cdv)) ->
   ∃ t,PSs (xb v5 P w K mg base N qual (z9 st) f cdv A outer s H E).nox (qi st) t/\SemWS t b)
  (hw:∀ xs y,m xs=some y->b (.ow (.ob C [] [])::xs.map .sh++List.replicate (N.length - (xs.length + 1)) .no) (fun ε=>ε[0]?=some (.ow y)) fun _ _=>False):FnOk P w K mg base v5 (k + 1) f fd ps (spI C m):=by
 refine F.ok S (fun vs H Q E h=>?_) (fun cdv A outer s H vs Q E hr h=>?_)
 ·obtain ⟨Hs,x,dx,xs,ws,y,rfl,_,_,_,r,e,_⟩:=h
  rw [List.length_cons,r.length]
  exact hm xs y e
 ·obtain ⟨Hs,x,dx,xs,ws,y,rfl,sm,hx,hs,r,e,q⟩:=h
  obtain ⟨t,ht,sem⟩:=hb cdv A outer s H E hr
  refine ⟨t,ht,sem.h (hw xs y e) (MY sm hs ⟨dx,[],hx,rfl,.nil⟩ r) (fun ε σ Hs' H' z rd g=>?_) fun _ _ _ _ _ _ z _ _ _=>z.elim⟩
  obtain ⟨a,ha,_,n,tp⟩:=rd.ow 0 y z
  rw [rd.pin x (List.mem_singleton.mpr rfl)] at ha
  injection ha with ha;injection ha with ha;injection ha with ha
  subst ha
  obtain ⟨o,ho,ro⟩:=tp.rep n
  have g2:Same Hs' (j7 Hs' x o):=fun b u e=>by rw [j3 (y7 e n)];exact e
  refine q (j7 Hs' x o) H' (g.trans g2) (fun b u e hb=>rd.s2 b u e fun w=>hb (List.mem_singleton.mp w)) (fun b u e=>?_) (fun b hb hbx w=>?_) ro
  ·by_cases hbx:b=x
   ·subst hbx;rw [y4] at e;cases e;exact ho
   ·rw [j3 hbx] at e;exact rd.s3 _ _ e
  ·rw [j3 hbx];exact rd.s4 b hb w
end
def zF (C:Addr)(f:Str)(a:M):MS:=fun ε=>(a ε).bind fun y=>match (ε[0]?:Option MSlot) with
 | some (.ow (.ob C' ns xs))=>if C'=C/\f ∉ ns/\ns.length < 1000 then some (.nx (ε.set 0 (.ow (.ob C (ns++[f]) (xs++[y]))))) else none
 | _=>none
def wPN (f:MS):WS:=fun ε N _=>∃ ε',f ε=some (.nx ε')/\N ε'
theorem BO {C:Addr}{f:Str}{a:M}{ε:ME}{o:Out}(h:zF C f a ε=some o):∃ y ns xs,a ε=some y/\ε[0]?=some (.ow (.ob C ns xs))/\f ∉ ns/\ns.length < 1000/\o = .nx (ε.set 0 (.ow (.ob C (ns++[f]) (xs++[y])))):=by
 unfold zF at h
 obtain ⟨y,ey,h1⟩:=bind_some h
 split at h1
 ·rename_i C' ns xs he
  split at h1
  ·rename_i hc
   cases h1
   obtain ⟨rfl,h2,h3⟩:=hc
   exact ⟨y,ns,xs,ey,he,h2,h3,rfl⟩
  ·cases h1
 ·cases h1
instance {K:Fg}{C:Addr}{f:Str}{te:TE}{a:M}[c:jp K C][n:NoA K C f][sa:SemE te a]:SemWS (QM K (qW 0) te f) (wPN (zF C f a)) where
 h:=fun {ε N R} h=>by
  obtain ⟨ε',e,h1⟩:=h
  obtain ⟨y,ns,xs,ey,he,h2,h3,e4⟩:=BO e
  injection e4 with e4
  subst e4
  exact SemWS.h (ts:=QM K (qW 0) te f) (w:=KG C f (wP a)) ⟨y,ey,ns,xs,he,h2,h3,h1⟩
instance {te:TE}{a:M}[sa:SemE te a]:SemWS (wH te) (wPN (zW a)) where
 h:=fun {ε N R} h=>by
  obtain ⟨ε',e,h1⟩:=h
  obtain ⟨y,ey,e2⟩:=bind_some e
  cases e2
  exact SemWS.h (ts:=wH te) (w:=KF (wP a)) ⟨y,ey,h1⟩
instance LT {t u:TS}{a b:MS}[sa:SemWS t (wPN a)][sb:SemWS u (wPN b)]:SemWS (tSeq t u) (wPN (v9 a b)) where
 h:=fun {ε N R} h S Hs0 H0 Hs H σ rd D k rt=>by
  obtain ⟨ε',e,h1⟩:=h
  obtain ⟨o1,e1,e2⟩:=bind_some e
  refine SemWS.h (ts:=tSeq t u) (w:=wSeq (wPN a) (wPN b)) (ε:=ε) (N:=N) (R:=R) ?_ rd k rt
  cases o1 with
  | nx ε1=>exact ⟨ε1,e1,ε',e2,h1⟩
  | rt y=>cases e2
  | bk ε1=>cases e2
  | ct ε1=>cases e2
def wY (n k:Nat)(C:Addr)(f:MS):List PV->Option PV:=fun xs=>if xs.length + 1=k then (f (.ow (.ob C [] [])::xs.map .sh++List.replicate (n - k) .no)).bind fun o=>match o with
 | .nx ε=>(match (ε[0]?:Option MSlot) with
  | some (.ow y)=>some y
  | _=>none)
 | _=>none else none
theorem okID {P:Program}{w:World}{K:Fg}{mg:Str->Option Value}{base:Heap}{x qual:Str}{st:Stmt}{f C:Addr}{fd:FuncData}{N ps:List Str}{k:Nat}{b:MS}{m:List PV->Option PV}(F:FunD K x qual st f fd)(S:w4 N ps (z9 st))(hm:m=wY N.length ps.length C b)
  (hb:∀ (cdv:Value) (A:Around) (outer:List Env) (s:Shared) (H:Hp) (E:XK),Room k (A.deeper (PyProof.Rows.envOfC qual (z9 st) s.heap.objs.size f cdv)) ->
   ∃ t,PSs (xb v5 P w K mg base N qual (z9 st) f cdv A outer s H E).nox (qi st) t/\SemWS t (wPN b)):FnOk P w K mg base v5 (k + 1) f fd ps (spI C m):=by
 subst hm
 refine okI' F S (fun xs y e=>?_) hb (fun xs y e=>?_)
 ·unfold wY at e
  split at e
  ·rename_i hl;exact hl
  ·cases e
 ·unfold wY at e
  split at e
  ·rename_i hl
   obtain ⟨o,eo,e1⟩:=bind_some e
   rw [hl]
   cases o with
   | nx ε =>
    refine ⟨ε,eo,?_⟩
    have e2:(match (ε[0]?:Option MSlot) with
     | some (.ow y)=>some y
     | _=>none)=some y:=e1
    show ε[0]?=some (.ow y)
    split at e2
    ·rename_i z hz;cases e2;exact hz
    ·cases e2
   | rt z=>cases e1
   | bk z=>cases e1
   | ct z=>cases e1
  ·cases e
end Mi
namespace Mi
open PySem L2
def jD:List PV->Option (List (z7 × PV))
 | []=>some []
 | .tup [k,v]::xs=>(jx k).bind fun kk=>(jD xs).map ((kk,v)::·)
 | _::_=>none
def vi:List PV->Option PV
 | [.lst xs]=>(jD xs).bind fun ps=>if (ps.map (·.1)).Nodup/\ps.length<=1000 then some (.fk (ps.map (·.1)) (ps.map (·.2))) else none
 | _=>none
theorem UZ {Hs H:Hp}(s:Same Hs H):∀ {xs:List PV} {ps:List (z7 × PV)} {vs:List V},jD xs=some ps->Reps Hs xs vs->∃ (ts:List Addr) (kvs:List (z7 × V)),vs=ts.map V.ref/\Paired (fun t (kv:z7 × V)=>H t=some (.tup [kV kv.1,kv.2])) ts kvs/\kvs.map (·.1)=ps.map (·.1)/\Reps Hs (ps.map (·.2)) (kvs.map (·.2))
 | [],ps,vs,h,r=>by
  cases h
  cases reps_nil.mp r
  exact ⟨[],[],rfl,.nil,rfl,.nil⟩
 | x::xs,ps,vs,h,r=>by
  unfold jD at h
  split at h
  ·rename_i e;cases e
  ·rename_i k v xs' e
   injection e with e1 e2
   subst e1 e2
   obtain ⟨kk,ek,h1⟩:=bind_some h
   obtain ⟨ps',hp,rfl⟩:=Option.map_eq_some_iff.mp h1
   obtain ⟨w,ws,rfl,r1,r2⟩:=reps_cons.mp r
   obtain ⟨t,us,rfl,ht,ru⟩:=rep_tup.mp r1
   obtain ⟨u1,us1,rfl,p1,p2⟩:=reps_cons.mp ru
   obtain ⟨u2,us2,rfl,p3,p4⟩:=reps_cons.mp p2
   cases reps_nil.mp p4
   have ew:=wc (H:=H) (.inl p1) ek
   subst ew
   obtain ⟨ts,kvs,rfl,q1,q2,q3⟩:=UZ s hp r2
   exact ⟨t::ts,(kk,u2)::kvs,rfl,.cons (s _ _ ht) q1,by rw [List.map_cons,List.map_cons,q2],.cons p3 q3⟩
  ·cases h
instance:wQ Gj vi where
 h:=fun {xs z} e {Hs H vs} s r {Q} q=>by
  unfold vi at e
  split at e
  ·obtain ⟨ps,eb,e1⟩:=bind_some e
   split at e1
   ·rename_i hl
    cases e1
    obtain ⟨v,rfl,a⟩:=zd r
    obtain ⟨p,ws,rfl,ep,r1⟩:=qy s a
    obtain ⟨ts,kvs,rfl,q1,q2,q3⟩:=UZ s eb r1
    have hk:kvs.length=ps.length:=by have:=congrArg List.length q2;rwa [List.length_map,List.length_map] at this
    refine ⟨p,ts,kvs,rfl,ep,q1,by rw [q2];exact hl.1,by omega,fun l o hn=>?_⟩
    exact q _ _ _ (.new s hn) (rep_fk.mpr ⟨l,o,kvs,rfl,y4,q2,q3.mono (Ext.new s hn).s1⟩)
   ·cases e1
  ·cases e
def dItV (a:M):MA:=fun ε=>(a ε).bind fun x=>match x with
 | .fk _ xs=>some xs
 | _=>none
theorem Ce {a:Addr}{o:Obj}{xs:List PV}{kvs:List (z7 × V)}{Hs:Hp}(h:Hs a=some (.frz o (.dK kvs)))(r:Reps Hs xs (kvs.map (·.2))):jq (Itv a o kvs) xs Hs where
 go:=fun i x Hs1 H1 e g1 g2=>by
  obtain ⟨v,ev,rv⟩:=r.get e
  have hl:i < kvs.length:=by
   have:=(List.getElem?_eq_some_iff.mp ev).1
   rwa [List.length_map] at this
  refine ⟨⟨g2 _ _ (g1 _ _ h),hl⟩,fun w H2 y=>?_⟩
  obtain ⟨rfl,k,y⟩:=y
  rw [List.getElem?_map,y] at ev
  cases ev
  exact ⟨Hs1,.refl g2,rv.mono g1⟩
 stop:=fun Hs1 H1 g1 g2=>⟨g2 _ _ (g1 _ _ h),by have:=r.length;rw [List.length_map] at this;omega⟩
instance {te:TE}{a:M}[sa:SemE te a]:zR (YZ te) (dItV a) where
 h:=fun e _ _ _ _ _ rs _ q=>by
  obtain ⟨x,ex,e1⟩:=bind_some e
  split at e1
  ·cases e1
   refine sa.h ex rs fun v Hs1 H1 x1 r1=>?_
   obtain ⟨p,o,kvs,rfl,hp,_,r⟩:=rep_fk.mp r1
   exact ⟨p,o,kvs,rfl,x1.s3 _ _ hp,q _ _ _ x1 (Ce hp r)⟩
  ·cases e1
end Mi
namespace L2
open PySem PySem.Spec PyProof.Rows
theorem Nn:∀ {l:List Value} {i j:Int} {t u:Tok} {c:Value},TriplesOk l->TriplesOk (l++[.int i t,.int j u,c]):=by
 intro l i j t u c h
 fun_induction TriplesOk l with
 | case1=>trivial
 | case2 _ _ _ _ _ rest ih=>exact ih h
 | case3=>exact h.elim
theorem KZ {pos:Pos}{c:Value}{l r:List Value}(h:codeAmong pos l=some c):codeAmong pos (l++r)=some c:=by
 fun_induction codeAmong pos l with
 | case1 line t col u d rest e =>
  show codeAmong pos (.int line t:: .int col u::d::(rest++r))=some c
  unfold codeAmong
  rw [if_pos e]
  exact h
 | case2 line t col u d rest e ih =>
  show codeAmong pos (.int line t:: .int col u::d::(rest++r))=some c
  unfold codeAmong
  rw [if_neg e]
  exact ih h
 | case3=>cases h
theorem KY {pos:Pos}{l:List Value}{i j:Int}{t u:Tok}{d:Value}(ok:TriplesOk l)(h:codeAmong pos l=none) :
  codeAmong pos (l++[.int i t,.int j u,d])=if i == pos.line && j == pos.col then some d else none:=by
 fun_induction TriplesOk l with
 | case1 =>
  show codeAmong pos (.int i t:: .int j u::d::[])=_
  unfold codeAmong
  rfl
 | case2 a b c e f rest ih =>
  unfold codeAmong at h
  split at h
  ·cases h
  ·rename_i ne
   show codeAmong pos (.int a b:: .int c e::f::(rest++_))=_
   unfold codeAmong
   rw [if_neg ne]
   exact ih ok h
 | case3=>exact ok.elim
section
variable {X:Cx}{pins:List (Addr × Obj)}{σ:St}{H:Hp}{s:Shared}{Pt c:Addr}{ps:Array Value}{wt:List (Pos × Str)}{params:Arguments}{body:Expr}{scope:Scope}{pos:Pos}{clos:List (Str × Addr)}{Q:Value->Shared->Prop}{E:Value->Shared->Prop}
theorem Inv.trackN {h':Heap}{tk:Tok}{o:HO}{ob:Obj}(I':Inv X pins σ H { s with heap:=h',toks:=tk })(nb:H h'.objs.size=none)
  (J:Inv X pins σ H { s with heap:=h'.push ob,toks:=tk }) (new:ObjOk X.prog X.w (j7 H h'.objs.size o) (h'.push ob) h'.objs.size o):Inv X pins σ (j7 H h'.objs.size o) { s with heap:=h'.push ob,toks:=tk }:=by
 refine J.track I'.sz nb (Nat.ne_of_gt I'.lt) (fun x c e=>?_) (fun q hq=>?_) new
 ·obtain ⟨v,oc,e1,_⟩:=I'.cell x c e
  exact Nat.ne_of_lt (Heap.lt_size e1)
 ·exact Nat.ne_of_lt (Heap.lt_size (I'.pin q hq).1)
theorem Cu (I:Inv X pins σ H s)(hP:(Pt,ps,wt) ∈ TABS)(hw:(pos,X.env.qual ++ "<lambda>") ∈ wt) (hu:∀ p ∈ wt,(p.1.line == pos.line && p.1.col == pos.col)=true->p.2=X.env.qual ++ "<lambda>")
  (hcode:X.env.code = .ref c) (C:PySem.W.CodeHd X.base c Pt) (hcl:closureFor scope X.env=pure clos) (hdef:defaultsOf params X.env=([],[]))
  (h:∀ (f c':Addr) (oc:Obj) (vs:Array Value) (tq:Tok) (ctv:Value) (H':Hp) (h':Heap) (tk:Tok),Inv X pins σ H' { s with heap:=h',toks:=tk }->(∀ b o,H b=some o->H' b=some o)->(∀ b,H b=none->H' b ≠ none->s.heap.get? b=none) ->
   H' f=some (.frz (PySem.W.kla_obj "<lambda>" (X.env.qual ++ "<lambda>") params body scope clos ((X.mg "__name__").getD .none) c' ctv) (.own Pt))->H' c'=some (.frz oc (.own Pt))->oc.data = .fields vs->vs[1]?=some (.str (X.env.qual ++ "<lambda>") tq)->Q (.ref f) { s with heap:=h',toks:=tk }) :
  wpAny (model X.prog X.w) X.A (eval (.Lambda params body scope pos) X.env) Q E s:=by
 have hT:H Pt=some (.tbl ps wt):=I.base.tbls _ _ _ (I.ok.tbs _ hP)
 obtain ⟨more,eP,tri,wk⟩:=I.hok Pt _ hT
 obtain ⟨bm,ob,b1,b2,b3,b4,b5,b6⟩:=I.mod.bmn
 have hgs:=(I.mod.glob).keeps I.bk
 have hgP:mainGlobals ≠ Pt:=fun z=>by
  obtain ⟨o,_,_,e,_⟩:=I.mod.glob
  have:=(I.bs _ _ e).2
  rw [z,hT] at this;cases this
 have hbP:bm ≠ Pt:=fun z=>by
  have:=(I.bs _ _ b3).2
  rw [z,hT] at this;cases this
 have hbG:bm ≠ mainGlobals:=fun z=>by
  obtain ⟨o,es,ep,e,hd,_⟩:=I.mod.glob
  rw [z,e] at b3;cases b3;rw [hd] at b6;cases b6
 have hB:s.heap.BuiltinsAt X.mg Pt:=⟨bm,ob,b1,b2,hbG,hbP,I.bk _ _ b3,b4,b5,b6⟩
 refine PySem.W.kla_eval hdef ?_
 rcases wk _ hw with hn | ⟨cc,o1,vs1,t1,hf,oc,e2,e3⟩
 ·refine PySem.W.kla_makeFunction (mg:=X.mg) hcl I.ok.glob hgs hcode (C.keeps I.bk) eP tri hn hgP hB fun c' ctv h' tk hx hge hlt hrec htb=>?_
  obtain ⟨c2,oc,vs,tq,z1,z2,z3,z4⟩:=hrec
  cases z1
  have nc:H c'=none:=I.hok.fresh hge
  have un:Un X.fs [] H (j7 H c' (.frz oc (.own Pt))) s.heap h':=by
   refine ⟨fun b o e n _ _=>hx b o (fun z=>by rw [z,hT] at n;cases n) e,fun b o e n _ _=>⟨o.slots,hx b o (fun z=>by rw [z,hT] at n;cases n) e⟩,fun b o e n _=>?_,fun b o e _=>?_,fun b xs e=>?_,fun b o u e=>?_,fun b q r e=>?_⟩
   ·rw [j3 (Nat.ne_of_lt (Nat.lt_of_lt_of_le (Heap.lt_size e) hge))];exact n
   ·by_cases hb:b=Pt
    ·exact ⟨_,hb ▸ htb⟩
    ·exact ⟨o,hx b o hb e⟩
   ·rw [j3 (y7 e nc)];exact e
   ·rw [j3 (y7 e nc)];exact e
   ·rw [j3 (y7 e nc)];exact e
  have hok:HOk X.prog X.w (j7 H c' (.frz oc (.own Pt))) h':=fun b u e=>by
   by_cases hb:b=c'
   ·subst hb
    rw [y4] at e;cases e
    exact ⟨z2,oc,z2⟩
   ·rw [j3 hb] at e
    by_cases hb2:b=Pt
    ·rw [hb2] at e ⊢
     rw [hT] at e;cases e
     have ea:ps++(more++#[rawInt pos.line,rawInt pos.col,.ref c'])=ps++more++#[rawInt pos.line,rawInt pos.col,.ref c']:=(Array.append_assoc).symm
     have el:(ps++more++#[rawInt pos.line,rawInt pos.col,.ref c']).toList=(ps++more).toList++[rawInt pos.line,rawInt pos.col,.ref c']:=Array.toList_append
     refine ⟨more++#[rawInt pos.line,rawInt pos.col,.ref c'],by rw [ea];exact htb,by rw [ea,el];exact Nn tri,fun p hp=>?_⟩
     rw [ea,el]
     rcases wk p hp with z | ⟨d,o2,vs2,t2,z,od,z2⟩
     ·have am:=KY (pos:=p.1) (i:=pos.line) (j:=pos.col) (t:=0) (u:=0) (d:= .ref c') tri z
      by_cases hm:(((pos.line:Int) == p.1.line && (pos.col:Int) == p.1.col)=true)
      ·rw [if_pos hm] at am
       have hq:p.2=X.env.qual ++ "<lambda>":=hu p hp (by
        simp only [Bool.and_eq_true,beq_iff_eq] at hm ⊢
        omega)
       exact .inr ⟨c',oc,vs,tq,am,y4,z3,by rw [hq];exact z4⟩
      ·rw [if_neg hm] at am
       exact .inl am
     ·exact .inr ⟨d,o2,vs2,t2,KZ z,by rw [j3 (y7 od nc)];exact od,z2⟩
    ·refine (I.hok b u e).stay (fun d v hd q=>hx d v ?_ q) (fun d q=>by rw [j3 (y7 q nc)];exact q) (fun d xs q=>by rw [j3 (y7 q nc)];exact q) fun d _ xs q=>by rw [j3 (y7 q nc)];exact q
     rcases hd with z | z
     ·rw [z];exact hb2
     ·intro q;rw [q,hT] at z;cases z
  have I':=I.un (t':=tk) un hok
  have ncf:c' ≠ h'.objs.size:=Nat.ne_of_lt hlt
  have sz:s.heap.objs.size<=h'.objs.size:=Nat.le_trans hge (Nat.le_of_lt hlt)
  have nf:j7 H c' (.frz oc (.own Pt)) h'.objs.size=none:=by rw [j3 (Ne.symm ncf)];exact I.hok.fresh sz
  have kp:∀ b o,h'.get? b=some o->(h'.push (PySem.W.kla_obj "<lambda>" (X.env.qual ++ "<lambda>") params body scope clos ((X.mg "__name__").getD .none) c' ctv)).get? b=some o:=fun b o e=>Heap.get?_push_of_some _ e
  have J:=I'.un (t':=tk) (Un.kept kp) (I'.hok.kept kp)
  have f1:=Heap.get?_push_size (h:=h') (o:=PySem.W.kla_obj "<lambda>" (X.env.qual ++ "<lambda>") params body scope clos ((X.mg "__name__").getD .none) c' ctv) rfl
  refine h _ c' oc vs tq ctv _ _ tk (Inv.trackN (o:= .frz (PySem.W.kla_obj "<lambda>" (X.env.qual ++ "<lambda>") params body scope clos ((X.mg "__name__").getD .none) c' ctv) (.own Pt)) I' nf J ⟨f1,_,f1⟩) (fun b o e=>?_) (fun b n n'=>?_) y4 (by rw [j3 ncf];exact y4) z3 z4
  ·have n1:b ≠ c':=y7 e nc
   have e':j7 H c' (.frz oc (.own Pt)) b=some o:=by rw [j3 n1];exact e
   rw [j3 (y7 e' nf)]
   exact e'
  ·by_cases hb:b=h'.objs.size
   ·rw [hb];exact Heap.get?_none_of_le sz
   ·rw [j3 hb] at n'
    by_cases hb2:b=c'
    ·rw [hb2];exact Heap.get?_none_of_le hge
    ·rw [j3 hb2] at n';exact absurd n n'
 ·refine PySem.W.kla_makeFunctionHit (mg:=X.mg) hcl I.ok.glob hgs hcode (C.keeps I.bk) eP tri hf hB fun ctv h' tk hk hsz=>?_
  have I':=I.un (t':=tk) (Un.kept hk) (I.hok.kept hk)
  have kp:∀ b o,h'.get? b=some o->(h'.push (PySem.W.kla_obj "<lambda>" (X.env.qual ++ "<lambda>") params body scope clos ((X.mg "__name__").getD .none) cc ctv)).get? b=some o:=fun b o e=>Heap.get?_push_of_some _ e
  have nf:H h'.objs.size=none:=I.hok.fresh hsz
  have J:=I'.un (t':=tk) (Un.kept kp) (I'.hok.kept kp)
  have f1:=Heap.get?_push_size (h:=h') (o:=PySem.W.kla_obj "<lambda>" (X.env.qual ++ "<lambda>") params body scope clos ((X.mg "__name__").getD .none) cc ctv) rfl
  refine h _ cc o1 vs1 t1 ctv _ _ tk (Inv.trackN (o:= .frz (PySem.W.kla_obj "<lambda>" (X.env.qual ++ "<lambda>") params body scope clos ((X.mg "__name__").getD .none) cc ctv) (.own Pt)) I' nf J ⟨f1,_,f1⟩) (fun b o e=>by rw [j3 (y7 e nf)];exact e) (fun b n n'=>?_) y4 (by rw [j3 (y7 oc nf)];exact oc) e2 e3
  by_cases hb:b=h'.objs.size
  ·rw [hb];exact Heap.get?_none_of_le hsz
  ·rw [j3 hb] at n';exact absurd n n'
end
end L2
namespace L2
open PySem PySem.Spec PyProof.Rows
def Xi (P:Program)(w:World)(K:Fg)(mg:Str->Option Value)(base:Heap)(N:List Str)(qual:Str)(scope:Scope)(f c':Addr)(clos:List (Str × Addr))(A:Around)(outer:List Env)(s:Shared)(H:Hp):Cx where
 prog:=P
 w:=w
 K:=K
 mg:=mg
 base:=base
 A:=A.deeper (PySem.W.envX qual scope s.heap.objs.size f (.ref c') clos)
 N:=N
 s₀:=s
 H₀:=H
 env:=PySem.W.envX qual scope s.heap.objs.size f (.ref c') clos
 outer:=outer
 stack:=PySem.W.envX qual scope s.heap.objs.size f (.ref c') clos::outer
 ex:=[]
 calm:=true
 fn:=fun _=>false
 pn:=[]
 xe:=fun _ _=>False
structure VS (ps fr:List Str)(scope:Scope):Prop where
 co:scope.isCoroutine=false
 gen:scope.isGenerator=false
 kind:scope.kind = .function
 nocell:∀ x ∈ scope.names,x.2 ≠ .cell
 par:∀ x ∈ ps,scope.names.lookup x=some .local
 fre:∀ x,scope.names.lookup x=some .free->x ∈ fr
 nd:ps.Nodup
theorem KO:∀ {ps:List Str} {us:List Value} {i:Nat} {x:Str} {u:Value},ps.Nodup->ps[i]?=some x->us[i]?=some u->(ps.zip us).reverse.lookup x=some u
 | [],_,i,x,u,_,h,_=>by simp at h
 | _::_,[],i,x,u,_,_,h=>by simp at h
 | p::ps,v::us,0,x,u,nd,h1,h2=>by
  simp at h1 h2;subst h1;subst h2
  rw [List.zip_cons_cons,List.reverse_cons,List.lookup_append]
  have n:(ps.zip us).reverse.lookup p=none:=by
   rw [List.lookup_eq_none_iff]
   intro q hq
   have hq':=List.mem_reverse.mp hq
   obtain ⟨a,b⟩:=q
   have:=(List.of_mem_zip hq').1
   simp only [bne_iff_ne,ne_eq,beq_eq_false_iff_ne]
   intro e
   subst e
   exact (List.nodup_cons.mp nd).1 this
  rw [n]
  simp
 | p::ps,v::us,i + 1,x,u,nd,h1,h2=>by
  rw [List.zip_cons_cons,List.reverse_cons,List.lookup_append,KO (i:=i) (List.nodup_cons.mp nd).2 (by simpa using h1) (by simpa using h2)]
  rfl
section
variable {P:Program}{w:World}{K:Fg}{mg:Str->Option Value}{base:Heap}{A:Around}{outer:List Env}{s:Shared}{H:Hp}{f c':Addr}{pm ctv:Value}{params:Arguments}{body:Expr}{scope:Scope}{qual:Str}{clos:List (Str × Addr)}{ps fr:List Str}
 {us:List Value} {vs cv:List V} {t:TE} {Q:VK} {E:XK}
theorem Ct (S:VS ps fr scope)(hdp:A.depth < recursionLimit)(hhd:A.handled=none)(e0:Env0 P w K mg base A outer s H)
  (hf:s.heap.get? f=some (PySem.W.kla_obj "<lambda>" qual params body scope clos pm c' ctv)) (hcd:s.heap.CodeRec (.ref c') qual)
  (hbind:bindArgs (PySem.W.kla_fn "<lambda>" qual params body scope clos pm (.ref c') ctv) ⟨us,[]⟩=pure (ps.zip us)) (hl:vs.length=ps.length) (r:Vals vs us)
  (inj:∀ x y c,clos.lookup x=some c->clos.lookup y=some c->x=y) (hc:∀ x c,clos.lookup x=some c->(∃ v,s.heap.IsCell c v)/\H c=none)
  (hlc:cv.length=fr.length) (hcv:∀ (i:Nat) (x:Str) (v:V),fr[i]?=some x->cv[i]?=some v->scope.names.lookup x=some .free/\∃ c u,clos.lookup x=some c/\s.heap.IsCell c (some u)/\RelV v u)
  (hb:PE (Xi P w K mg base (ps++fr) qual scope f c' clos A outer s H) body t) (hq:t ((vs++cv).map some) H Q):codeAny (model P w) A (.call (.ref f) ⟨us,[]⟩) (CR v5 outer P w H s Q E) s:=by
 have lim:s.heap.NoLimit:=e0.mod.nolimit.keeps fun b o e=>(e0.bs b o e).1
 refine PySem.W.kla_callFunE hdp hf rfl S.co S.gen rfl hcd ?_
 rw [hbind]
 refine wpAny_pure (wpAny_newFunctionEnv S.nocell (fun y hy=>S.par _ (List.of_mem_zip (show (y.1,y.2) ∈ ps.zip us from hy)).1) (fun h₁ hns hsb=>⟨lim.fresh _ hsb,?_⟩) S.kind)
 show codeAny _ _ (.expr body (PySem.W.envX qual scope s.heap.objs.size f (.ref c') clos)) _ _
 have hk₁:∀ b o,s.heap.get? b=some o->h₁.get? b=some o:=fun b o e=>hsb.extBut b o (Nat.ne_of_lt (Heap.lt_size e)) (Heap.get?_push_of_some _ e)
 have noA:∀ b:Addr,b ∉ (Xi P w K mg base (ps++fr) qual scope f c' clos A outer s H).ex:=fun b z=>absurd (show b ∈ ([]:List Addr) from z) (by simp)
 have cellK:∀ {c:Addr} {v:Option Value},s.heap.IsCell c v->h₁.IsCell c v:=fun {c v} ⟨o,e,d⟩=>⟨o,hk₁ _ _ e,d⟩
 have I:Inv (Xi P w K mg base (ps++fr) qual scope f c' clos A outer s H) [] ((vs++cv).map some) H { s with heap:=h₁,toks:=s.toks + (ps.zip us).length }:=by
  refine ⟨⟨e0.mod,S.kind,rfl,rfl,Nat.le_refl _,inj,fun x hx=>?_,fun x c z=>absurd (show false=true from z) (by decide),fun _=>hhd,Around.frames_deeper e0.frames,.inr ⟨rfl,rfl⟩,fun b z=>absurd z (noA b),e0.bs,e0.bsz,fun b _ _=>noA b,fun b z=>absurd z (noA b),e0.funs,e0.frf,e0.tbs⟩,
   rfl,e0.bare,Un.kept hk₁,⟨_,hns,fun i x v h1 h2 h3=>?_⟩,fun x c e=>?_,e0.hok.fresh (Nat.le_refl _),fun x c e=>(hc x c e).2,fun p hp=>absurd (show p ∈ ([]:List (Addr × Obj)) from hp) (by simp),e0.hok.kept hk₁,?_⟩
  ·have hx:scope.names.lookup x=some .cell ∨ scope.names.lookup x=some .free:=hx
   rcases hx with z | z
   ·exact absurd rfl (S.nocell _ (PySem.mem_of_lookup z))
   ·obtain ⟨i,hi,e⟩:=List.getElem_of_mem (S.fre x z)
    have hic:i < cv.length:=by omega
    obtain ⟨_,c,u,e1,_⟩:=hcv i x cv[i] (by rw [List.getElem?_eq_getElem hi,e]) (List.getElem?_eq_getElem hic)
    exact ⟨c,e1⟩
  ·have h1':(ps++fr)[i]?=some x:=h1
   rw [List.getElem?_map] at h2
   obtain ⟨v',e1,e2⟩:=Option.map_eq_some_iff.mp h2
   cases e2
   by_cases hi:i < ps.length
   ·rw [List.getElem?_append_left hi] at h1'
    rw [List.getElem?_append_left (by omega)] at e1
    obtain ⟨u,hu,rv⟩:=r.get e1
    exact ⟨u,rv,.inl ⟨S.par x (List.mem_of_getElem? h1'),KO S.nd h1' hu⟩⟩
   ·rw [List.getElem?_append_right (by omega)] at h1'
    rw [List.getElem?_append_right (by omega),hl] at e1
    obtain ⟨k,c,u,a1,a2,a3⟩:=hcv _ x _ h1' e1
    exact ⟨u,a3,.inr ⟨.inr k,c,a1,cellK a2⟩⟩
  ·obtain ⟨⟨v,z⟩,_⟩:=hc x c e
   exact ⟨v,cellK z⟩
  ·show ((vs++cv).map some).length=(ps++fr).length
   rw [List.length_map,List.length_append,List.length_append,hl,hlc]
 refine PySem.W.kla_codeExpr (wpAny_mono (hb [] _ _ H Q I hq) (fun u s' z=>?_) fun e s' z=>z.elim)
 obtain ⟨v,H',J,rv,q⟩:=z
 exact ⟨v,H',J.os,J.bare,J.base,J.hok,rv,q⟩
end
end L2
namespace Ka
open PySem.W PyProof.Rows
def ev {α:Type}(ans:Nat->Nat->Bool):KasT α->α
 | .ret a=>a
 | .ask i j k=>ev ans (k (ans i j))
theorem vW {α β:Type}{ans:Nat->Nat->Bool}{f:α->KasT β}:∀ t:KasT α,ev ans (t.bind f)=ev ans (f (ev ans t))
 | .ret _=>rfl
 | .ask i j k=>vW (k (ans i j))
structure Ord (lt:Nat->Nat->Bool):Prop where
 irr:∀ a,lt a a=false
 tr:∀ a b c,lt a b=true->lt b c=true->lt a c=true
 neg:∀ a b c,lt a c=true->lt a b=true ∨ lt b c=true
section
variable {lt:Nat->Nat->Bool}(O:Ord lt)
def le (lt:Nat->Nat->Bool)(a b:Nat):Prop:=lt b a=false
include O in
theorem le_refl (a:Nat):le lt a a:=O.irr a
include O in
theorem le_trans {a b c:Nat}(h:le lt a b)(k:le lt b c):le lt a c:=by
 unfold le at *
 cases e:lt c a with
 | false=>rfl
 | true =>
  rcases O.neg c b a e with z | z
  ·rw [k] at z;cases z
  ·rw [h] at z;cases z
include O in
theorem le_of_lt {a b:Nat}(h:lt a b=true):le lt a b:=by
 unfold le
 cases e:lt b a with
 | false=>rfl
 | true=>have:=O.tr a b a h e;rw [O.irr] at this;cases this
def g (p:Array Nat)(i:Nat):Nat:=p.getD i 0
theorem Qh {p q:Array Nat}{i j:Nat}(h:p[i]?=q[j]?):g p i=g q j:=by
 unfold g
 rw [Array.getD_eq_getD_getElem?,Array.getD_eq_getD_getElem?,h]
def Up (lt:Nat->Nat->Bool)(p:Array Nat)(k:Nat):Prop:=∀ i j,i<=j->j < k->le lt (g p i) (g p j)
def zC (lt:Nat->Nat->Bool)(p:Array Nat)(k:Nat):Prop:=∀ i j,i<=j->j < k->le lt (g p j) (g p i)
def Eqs (lt:Nat->Nat->Bool)(p:Array Nat)(a b:Nat):Prop:=∀ i j,a<=i->i < b->a<=j->j < b->le lt (g p i) (g p j)
include O in
theorem NI (p:Array Nat):Up lt p 1:=fun i j h k=>by
 have:i=j:=by omega
 subst this;exact le_refl O _
include O in
theorem NH {p:Array Nat}{n:Nat}(h1:1<=n)(h:Up lt p n)(k:le lt (g p (n - 1)) (g p n)):Up lt p (n + 1):=fun i j hij hj=>by
 by_cases e:j=n
 ·subst e
  by_cases e2:i=j
  ·subst e2;exact le_refl O _
  ·exact le_trans O (h i (j - 1) (by omega) (by omega)) k
 ·exact h i j hij (by omega)
include O in
theorem Xl {p:Array Nat}{n:Nat}(h1:1<=n)(h:zC lt p n)(k:le lt (g p n) (g p (n - 1))):zC lt p (n + 1):=fun i j hij hj=>by
 by_cases e:j=n
 ·subst e
  by_cases e2:i=j
  ·subst e2;exact le_refl O _
  ·exact le_trans O k (h i (j - 1) (by omega) (by omega))
 ·exact h i j hij (by omega)
theorem Qi {p:Array Nat}{i j:Nat}(hj:j<=p.size)(k:Nat):g (kas_rev p i j) k=if i<=k/\k < j then g p (i + j - 1 - k) else g p k:=by
 have e:=getElem?_mirror_all (xs:=p) (i:=i) hj k
 unfold kas_rev
 split
 ·rename_i h;rw [if_pos h] at e;exact Qh e
 ·rename_i h;rw [if_neg h] at e;exact Qh e
theorem vw {p:Array Nat}{i j:Nat}:(kas_rev p i j).size=p.size:=mirror_size _ _ _ _
theorem rev_perm {p:Array Nat}{i j:Nat}:(kas_rev p i j).Perm p:=mirror_perm _ _ _ _
include O in
theorem Jl {p:Array Nat}:∀ (f n:Nat),1<=n->Up lt p n ->
  n<=ev lt (kas_asc p f n)/\ev lt (kas_asc p f n)<=n + f/\Up lt p (ev lt (kas_asc p f n))/\(ev lt (kas_asc p f n)=n + f ∨ lt (g p (ev lt (kas_asc p f n))) (g p (ev lt (kas_asc p f n) - 1))=true)
 | 0,n,_,h=>⟨Nat.le_refl _,Nat.le_refl _,h,.inl rfl⟩
 | f + 1,n,h1,h=>by
  have e:ev lt (kas_asc p (f + 1) n)=ev lt (if lt (g p n) (g p (n - 1))=true then KasT.ret n else kas_asc p f (n + 1)):=rfl
  cases c:lt (g p n) (g p (n - 1)) with
  | true =>
   rw [c,if_pos rfl] at e
   rw [e]
   exact ⟨Nat.le_refl _,by show n<=_;omega,h,.inr c⟩
  | false =>
   rw [c,if_neg (by simp)] at e
   rw [e]
   obtain ⟨a1,a2,a3,a4⟩:=Jl f (n + 1) (by omega) (NH O h1 h c)
   exact ⟨by omega,by omega,a3,by rcases a4 with z | z;exact .inl (by omega);exact .inr z⟩
include O in
theorem Jz {p:Array Nat}{n a:Nat}(ha:a<=n)(hn:n<=p.size)(h:zC lt p n)(q:Eqs lt p a n):zC lt (kas_rev p a n) n/\∀ i,i < n->le lt (g p (n - 1)) (g (kas_rev p a n) i):=by
 have eqv:∀ i,i < n->le lt (g (kas_rev p a n) i) (g p i)/\le lt (g p i) (g (kas_rev p a n) i):=fun i hi=>by
  rw [Qi hn]
  split
  ·rename_i z
   exact ⟨q _ _ (by omega) (by omega) (by omega) (by omega),q _ _ (by omega) (by omega) (by omega) (by omega)⟩
  ·exact ⟨le_refl O _,le_refl O _⟩
 refine ⟨fun i j hij hj=>?_,fun i hi=>?_⟩
 ·exact le_trans O (le_trans O (eqv j hj).1 (h i j hij hj)) (eqv i (by omega)).2
 ·exact le_trans O (h i (n - 1) (by omega) (by omega)) (eqv i hi).2
include O in
theorem Xk:∀ (f:Nat) (p:Array Nat) (n q:Nat),q + 1<=n->n + f<=p.size->zC lt p n->Eqs lt p (n - (q + 1)) n ->
  ∃ p' n' q',ev lt (kas_desc f p n q)=(p',n',q')/\p'.Perm p/\p'.size=p.size/\n<=n'/\n'<=n + f/\zC lt p' n'/\q' + 1<=n'/\Eqs lt p' (n' - (q' + 1)) n'
 | 0,p,n,q,hq,_,h,e=>⟨p,n,q,rfl,.refl _,rfl,Nat.le_refl _,Nat.le_refl _,h,hq,e⟩
 | f + 1,p,n,q,hq,hs,h,he=>by
  have ee:ev lt (kas_desc (f + 1) p n q)=ev lt (if lt (g p n) (g p (n - 1))=true then (if q > 0 then kas_desc f (kas_rev p (n - (q + 1)) n) (n + 1) 0 else kas_desc f p (n + 1) 0) else KasT.ask (g p (n - 1)) (g p n) fun d=>if d=true then .ret (p,n,q) else kas_desc f p (n + 1) (q + 1)):=rfl
  cases c:lt (g p n) (g p (n - 1)) with
  | true =>
   rw [c,if_pos rfl] at ee
   by_cases hq0:q > 0
   ·rw [if_pos hq0] at ee
    obtain ⟨d1,d2⟩:=Jz O (a:=n - (q + 1)) (by omega) (by omega) h he
    have gn:g (kas_rev p (n - (q + 1)) n) n=g p n:=by rw [Qi (by omega),if_neg (by omega)]
    have dn:zC lt (kas_rev p (n - (q + 1)) n) (n + 1):=Xl O (by omega) d1 (by rw [gn];exact le_trans O (le_of_lt O c) (d2 (n - 1) (by omega)))
    obtain ⟨p',n',q',a1,a2,a3,a4,a5,a6⟩:=Xk f (kas_rev p (n - (q + 1)) n) (n + 1) 0 (by omega) (by rw [vw];omega) dn (fun i j i1 i2 j1 j2=>(show i=j by omega) ▸ le_refl O _)
    exact ⟨p',n',q',ee.trans a1,a2.trans rev_perm,a3.trans vw,by omega,by omega,a6⟩
   ·rw [if_neg hq0] at ee
    obtain ⟨p',n',q',a1,a2,a3,a4,a5,a6⟩:=Xk f p (n + 1) 0 (by omega) (by omega) (Xl O (by omega) h (le_of_lt O c)) (fun i j i1 i2 j1 j2=>(show i=j by omega) ▸ le_refl O _)
    exact ⟨p',n',q',ee.trans a1,a2,a3,by omega,by omega,a6⟩
  | false =>
   rw [c,if_neg (by simp)] at ee
   have e2:ev lt (kas_desc (f + 1) p n q)=ev lt (if lt (g p (n - 1)) (g p n)=true then KasT.ret (p,n,q) else kas_desc f p (n + 1) (q + 1)):=ee
   cases d:lt (g p (n - 1)) (g p n) with
   | true =>
    rw [d,if_pos rfl] at e2
    exact ⟨p,n,q,e2,.refl _,rfl,Nat.le_refl _,by omega,h,hq,he⟩
   | false =>
    rw [d,if_neg (by simp)] at e2
    have dn:=Xl O (by omega) h (show le lt (g p n) (g p (n - 1)) from d)
    obtain ⟨p',n',q',a1,a2,a3,a4,a5,a6⟩:=Xk f p (n + 1) (q + 1) (by omega) (by omega) dn (fun i j i1 i2 j1 j2=>by
     have lo:∀ k,n - (q + 1)<=k->k < n + 1->le lt (g p k) (g p (n - 1))/\le lt (g p (n - 1)) (g p k):=fun k k1 k2=>by
      by_cases hk:k=n
      ·subst hk;exact ⟨d,c⟩
      ·exact ⟨he _ _ (by omega) (by omega) (by omega) (by omega),he _ _ (by omega) (by omega) (by omega) (by omega)⟩
     exact le_trans O (lo i (by omega) i2).1 (lo j (by omega) j2).2)
    exact ⟨p',n',q',e2.trans a1,a2,a3,by omega,by omega,a6⟩
include O in
theorem Ki {p:Array Nat}{n nrem:Nat}(h1:1<=n)(hn:n<=nrem)(hs:nrem<=p.size)(h:zC lt p n) :
  ∃ m p',ev lt (kas_tail3 n nrem p)=(m,p')/\p'.Perm p/\p'.size=p.size/\1<=m/\m<=nrem/\Up lt p' m:=by
 unfold kas_tail3
 rw [vW]
 have up:Up lt (kas_rev p 0 n) n:=fun i j hij hj=>by
  rw [Qi (by omega),Qi (by omega),if_pos (by omega),if_pos (by omega)]
  exact h _ _ (by omega) (by omega)
 obtain ⟨a1,a2,a3,_⟩:=Jl O (nrem - n) n h1 up
 exact ⟨_,_,rfl,rev_perm,vw,by omega,by omega,a3⟩
include O in
theorem YB {p:Array Nat}{n nrem:Nat}(hn:n + 1<=nrem)(hs:nrem<=p.size)(h:zC lt p (n + 1)) :
  ∃ m p',ev lt (kas_descPart n nrem p)=(m,p')/\p'.Perm p/\p'.size=p.size/\1<=m/\m<=nrem/\Up lt p' m:=by
 unfold kas_descPart
 rw [vW]
 obtain ⟨p',n',q',a1,a2,a3,a4,a5,a6,a7,a8⟩:=Xk O (nrem - (n + 1)) p (n + 1) 0 (by omega) (by omega) h (fun i j i1 i2 j1 j2=>(show i=j by omega) ▸ le_refl O _)
 rw [a1]
 dsimp only
 split
 ·obtain ⟨d1,_⟩:=Jz O (a:=n' - (q' + 1)) (by omega) (by omega) a6 a8
  obtain ⟨m,p2,b1,b2,b3,b4⟩:=Ki O (nrem:=nrem) (by omega) (by omega) (by rw [vw];omega) d1
  exact ⟨m,p2,b1,b2.trans (rev_perm.trans a2),by rw [b3,vw,a3],b4⟩
 ·obtain ⟨m,p2,b1,b2,b3,b4⟩:=Ki O (nrem:=nrem) (by omega) (by omega) (by omega) a6
  exact ⟨m,p2,b1,b2.trans a2,by rw [b3,a3],b4⟩
include O in
theorem BJ {p:Array Nat}{nrem:Nat}(h0:1<=nrem)(hs:nrem<=p.size):∃ m p',ev lt (kas_count nrem p)=(m,p')/\p'.Perm p/\p'.size=p.size/\1<=m/\m<=nrem/\Up lt p' m:=by
 unfold kas_count
 rw [vW]
 obtain ⟨a1,a2,a3,a4⟩:=Jl O (p:=p) (nrem - 1) 1 (Nat.le_refl _) (NI O p)
 generalize hm:ev lt (kas_asc p (nrem - 1) 1)=m at a1 a2 a3 a4 ⊢
 by_cases e1:(m == nrem)=true
 ·rw [if_pos e1]
  exact ⟨m,p,rfl,.refl _,rfl,a1,by omega,a3⟩
 ·rw [if_neg e1]
  have ne:m ≠ nrem:=fun z=>e1 (by rw [z];exact beq_self_eq_true _)
  have c:lt (g p m) (g p (m - 1))=true:=by
   rcases a4 with z | z
   ·omega
   ·exact z
  by_cases e2:m > 1
  ·rw [if_pos e2]
   have ee:ev lt (KasT.ask (p.getD 0 0) (p.getD (m - 1) 0) fun c=>if c=true then KasT.ret (m,p) else kas_descPart m nrem (kas_rev p 0 m))=ev lt (if lt (g p 0) (g p (m - 1))=true then KasT.ret (m,p) else kas_descPart m nrem (kas_rev p 0 m)):=rfl
   rw [ee]
   cases d:lt (g p 0) (g p (m - 1)) with
   | true =>
    rw [if_pos rfl]
    exact ⟨m,p,rfl,.refl _,rfl,a1,by omega,a3⟩
   | false =>
    rw [if_neg (by simp)]
    have all:Eqs lt p 0 m:=fun i j _ i2 _ j2=>le_trans O (le_trans O (a3 i (m - 1) (by omega) (by omega)) (show le lt (g p (m - 1)) (g p 0) from d)) (a3 0 j (by omega) j2)
    obtain ⟨d1,d2⟩:=Jz O (a:=0) (by omega) (by omega) (fun i j hij hj=>all _ _ (by omega) (by omega) (by omega) (by omega)) all
    have gm:g (kas_rev p 0 m) m=g p m:=by rw [Qi (by omega),if_neg (by omega)]
    have dn:zC lt (kas_rev p 0 m) (m + 1):=Xl O (by omega) d1 (by rw [gm];exact le_trans O (le_of_lt O c) (d2 (m - 1) (by omega)))
    obtain ⟨m2,p2,b1,b2,b3,b4⟩:=YB O (nrem:=nrem) (by omega) (by rw [vw];omega) dn
    exact ⟨m2,p2,b1,b2.trans rev_perm,by rw [b3,vw],b4⟩
  ·rw [if_neg e2]
   have e3:m=1:=by omega
   subst e3
   exact YB O (by omega) hs (fun i j hij hj=>by
    by_cases z:i=j
    ·subst z;exact le_refl O _
    ·have z1:i=0:=by omega
     have z2:j=1:=by omega
     subst z1 z2
     exact le_of_lt O c)
include O in
theorem Vl {p:Array Nat}{k:Nat}(up:Up lt p k):∀ (f l r:Nat),r - l<=f->l<=r->r<=k->(∀ i,i < l->le lt (g p i) (g p k))->(∀ i,r<=i->i < k->le lt (g p k) (g p i)) ->
  ev lt (kas_place p k f l r)<=k/\(∀ i,i < ev lt (kas_place p k f l r)->le lt (g p i) (g p k))/\∀ i,ev lt (kas_place p k f l r)<=i->i < k->le lt (g p k) (g p i)
 | 0,l,r,hf,hl,hr,h1,h2=>by
  have e:l=r:=by omega
  subst e
  exact ⟨hr,h1,h2⟩
 | f + 1,l,r,hf,hl,hr,h1,h2=>by
  have e:ev lt (kas_place p k (f + 1) l r)=ev lt (if l >= r then KasT.ret l else KasT.ask (p.getD k 0) (p.getD ((l + r) / 2) 0) fun c=>if c=true then kas_place p k f l ((l + r) / 2) else kas_place p k f ((l + r) / 2 + 1) r):=rfl
  by_cases c:l >= r
  ·rw [if_pos c] at e
   have e':l=r:=by omega
   subst e'
   rw [e]
   exact ⟨hr,h1,h2⟩
  ·rw [if_neg c] at e
   have e2:ev lt (kas_place p k (f + 1) l r)=ev lt (if lt (g p k) (g p ((l + r) / 2))=true then kas_place p k f l ((l + r) / 2) else kas_place p k f ((l + r) / 2 + 1) r):=e
   cases d:lt (g p k) (g p ((l + r) / 2)) with
   | true =>
    rw [d,if_pos rfl] at e2
    rw [e2]
    exact Vl up f l ((l + r) / 2) (by omega) (by omega) (by omega) h1 fun i i1 i2=>le_trans O (le_of_lt O d) (up _ _ i1 i2)
   | false =>
    rw [d,if_neg (by simp)] at e2
    rw [e2]
    exact Vl up f ((l + r) / 2 + 1) r (by omega) (by omega) hr (fun i hi=>le_trans O (up i ((l + r) / 2) (by omega) (by omega)) d) h2
include O in
theorem Ya:∀ (f:Nat) (p:Array Nat) (k:Nat),k + f<=p.size->Up lt p k->∃ p',ev lt (kas_bin f p k)=p'/\p'.Perm p/\p'.size=p.size/\Up lt p' (k + f)
 | 0,p,k,_,h=>⟨p,rfl,.refl _,rfl,h⟩
 | f + 1,p,k,hs,h=>by
  have e:ev lt (kas_bin (f + 1) p k)=ev lt ((kas_place p k k 0 k).bind fun l=>kas_bin f (bubble p k (k - l)) (k + 1)):=rfl
  rw [vW] at e
  obtain ⟨a1,a2,a3⟩:=Vl O h k 0 k (by omega) (by omega) (Nat.le_refl _) (fun i hi=>absurd hi (by omega)) fun i i1 i2=>absurd i1 (by omega)
  generalize ev lt (kas_place p k k 0 k)=l at e a1 a2 a3
  have gb:∀ i,g (bubble p k (k - l)) i=if i=l then g p k else if l < i/\i<=k then g p (i - 1) else g p i:=fun i=>by
   have z:=getElem?_bubble (xs:=p) (src:=k) (by omega) (k - l) (by omega) i
   have el:k - (k - l)=l:=by omega
   rw [el] at z
   split
   ·rename_i q;rw [if_pos q] at z;exact Qh z
   ·rename_i q
    rw [if_neg q] at z
    split
    ·rename_i q2;rw [if_pos q2] at z;exact Qh z
    ·rename_i q2;rw [if_neg q2] at z;exact Qh z
  have up:Up lt (bubble p k (k - l)) (k + 1):=fun i j hij hj=>by
   by_cases e0:i=j
   ·subst e0;exact le_refl O _
   rw [gb,gb]
   by_cases i1:i=l
   ·rw [if_pos i1,if_neg (by omega),if_pos (by omega)]
    exact a3 _ (by omega) (by omega)
   ·rw [if_neg i1]
    by_cases j1:j=l
    ·rw [if_neg (by omega),if_pos j1]
     exact a2 _ (by omega)
    ·rw [if_neg j1]
     by_cases i2:l < i/\i<=k
     ·rw [if_pos i2,if_pos (by omega)]
      exact h _ _ (by omega) (by omega)
     ·rw [if_neg i2]
      by_cases j2:l < j/\j<=k
      ·rw [if_pos j2]
       exact h _ _ (by omega) (by omega)
      ·rw [if_neg j2]
       exact h _ _ (by omega) (by omega)
  obtain ⟨p',b1,b2,b3,b4⟩:=Ya f (bubble p k (k - l)) (k + 1) (by rw [bubble_size];omega) up
  exact ⟨p',e.trans b1,b2.trans (bubble_perm _ _ _),by rw [b3,bubble_size],by rw [show k + 1 + f=k + (f + 1) by omega] at b4;exact b4⟩
include O in
theorem Nf {n:Nat}(h:1<=n):∃ p,ev lt (kas_sort n)=p/\p.Perm (List.toArray (List.range n))/\p.size=n/\Up lt p n:=by
 unfold kas_sort
 rw [vW]
 obtain ⟨m,p,a1,a2,a3,a4,a5,a6⟩:=BJ O (p:=List.toArray (List.range n)) (nrem:=n) h (by simp)
 have hp:p.size=n:=by rw [a3];simp
 rw [a1]
 dsimp only
 split
 ·have mx:max m 1=m:=by omega
  rw [mx]
  obtain ⟨p',b1,b2,b3,b4⟩:=Ya O (n - m) p m (by omega) a6
  exact ⟨p',b1,b2.trans a2,by omega,by rw [show m + (n - m)=n by omega] at b4;exact b4⟩
 ·have e:m=n:=by omega
  subst e
  exact ⟨p,rfl,a2,hp,a6⟩
end
end Ka
namespace Ka
open PySem PySem.W PyProof.Rows
def Bd {α:Type}(n:Nat):KasT α->Prop
 | .ret _=>True
 | .ask i j k=>i < n/\j < n/\∀ b,Bd n (k b)
def BdP {α:Type}(n:Nat)(R:α->Prop):KasT α->Prop
 | .ret a=>R a
 | .ask i j k=>i < n/\j < n/\∀ b,BdP n R (k b)
theorem vN {α β:Type}{n:Nat}{R:α->Prop}{S:β->Prop}{f:α->KasT β}:∀ {t:KasT α},BdP n R t->(∀ a,R a->BdP n S (f a))->BdP n S (t.bind f)
 | .ret a,h,k=>k a h
 | .ask _ _ _,⟨a,b,c⟩,k=>⟨a,b,fun x=>vN (c x) k⟩
def Lo (n:Nat)(p:Array Nat):Prop:=1<=n/\∀ x ∈ p.toList,x < n
theorem Lo.g {n:Nat}{p:Array Nat}(h:Lo n p)(i:Nat):p.getD i 0 < n:=by
 rw [Array.getD_eq_getD_getElem?]
 cases e:p[i]? with
 | none=>exact h.1
 | some x=>exact h.2 x (by rw [<- Array.getElem?_toList] at e;exact List.mem_of_getElem? e)
theorem Lo.perm {n:Nat}{p q:Array Nat}(h:Lo n p)(k:q.Perm p):Lo n q:=⟨h.1,fun x hx=>h.2 x ((Array.perm_iff_toList_perm.mp k).mem_iff.mp hx)⟩
section
variable {n:Nat}
theorem Jo {p:Array Nat}(h:Lo n p):∀ f m,BdP n (fun _=>True) (kas_asc p f m)
 | 0,_=>trivial
 | f + 1,m=>⟨h.g _,h.g _,fun b=>by
  cases b with
  | true=>exact trivial
  | false=>exact Jo h f (m + 1)⟩
theorem Xg:∀ (f:Nat) {p:Array Nat} (m q:Nat),Lo n p->BdP n (fun r=>Lo n r.1) (kas_desc f p m q)
 | 0,_,_,_,h=>h
 | f + 1,p,m,q,h=>⟨h.g _,h.g _,fun b=>by
  cases b with
  | true =>
   show BdP n _ (if q > 0 then kas_desc f (kas_rev p (m - (q + 1)) m) (m + 1) 0 else kas_desc f p (m + 1) 0)
   split
   ·exact Xg f _ _ (h.perm rev_perm)
   ·exact Xg f _ _ h
  | false=>exact ⟨h.g _,h.g _,fun d=>by
    cases d with
    | true=>exact h
    | false=>exact Xg f _ _ h⟩⟩
theorem WZ {p:Array Nat}{m r:Nat}(h:Lo n p):BdP n (fun q=>Lo n q.2) (kas_tail3 m r p):=vN (Jo (h.perm rev_perm) _ _) fun _ _=>h.perm rev_perm
theorem WY {p:Array Nat}{m r:Nat}(h:Lo n p):BdP n (fun q=>Lo n q.2) (kas_descPart m r p):=vN (Xg _ _ _ h) fun a ha=>by
 split
 ·exact WZ (ha.perm rev_perm)
 ·exact WZ ha
theorem Be {p:Array Nat}{r:Nat}(h:Lo n p):BdP n (fun q=>Lo n q.2) (kas_count r p):=vN (Jo h _ _) fun m _=>by
 split
 ·exact h
 ·split
  ·exact ⟨h.g _,h.g _,fun b=>by
    cases b with
    | true=>exact h
    | false=>exact WY (h.perm rev_perm)⟩
  ·exact WY h
theorem Jp {p:Array Nat}{k:Nat}(h:Lo n p):∀ f l r,BdP n (fun _=>True) (kas_place p k f l r)
 | 0,_,_=>trivial
 | f + 1,l,r=>by
  show BdP n _ (if l >= r then _ else _)
  split
  ·exact trivial
  ·exact ⟨h.g _,h.g _,fun b=>by
    cases b with
    | true=>exact Jp h f _ _
    | false=>exact Jp h f _ _⟩
theorem WX:∀ (f:Nat) {p:Array Nat} (k:Nat),Lo n p->BdP n (fun _=>True) (kas_bin f p k)
 | 0,_,_,_=>trivial
 | f + 1,p,k,h=>vN (Jp h _ _ _) fun _ _=>WX f _ (h.perm (bubble_perm _ _ _))
theorem Bf (h:1<=n):BdP n (fun _=>True) (kas_sort n):=vN (Be ⟨h,fun x hx=>by simpa using hx⟩) fun r hr=>by
 split
 ·exact WX _ _ hr
 ·exact trivial
theorem KH {α:Type}{cmp:Nat->Nat->(Bool->Shared->Prop)->Shared->Prop}{lt:Nat->Nat->Bool}{s:Shared}{R:α->Prop}{G:α->Shared->Prop}(hc:∀ i j (C:Bool->Shared->Prop),i < n->j < n->C (lt i j) s->cmp i j C s) :
  ∀ {t:KasT α},BdP n R t->G (ev lt t) s->t.kasWp cmp G s
 | .ret _,_,h=>h
 | .ask i j k,⟨a,b,c⟩,h=>hc i j _ a b (KH hc (c (lt i j)) h)
end
theorem sort_wp {n:Nat}{cmp:Nat->Nat->(Bool->Shared->Prop)->Shared->Prop}{lt:Nat->Nat->Bool}{s:Shared}{G:Array Nat->Shared->Prop}(O:Ord lt)(h:1<=n)(hc:∀ i j (C:Bool->Shared->Prop),i < n->j < n->C (lt i j) s->cmp i j C s)
  (hG:∀ p:Array Nat,p.Perm (List.toArray (List.range n))->p.size=n->(∀ i j,i<=j->j < n->lt (p.getD j 0) (p.getD i 0)=false)->G p s):(kas_sort n).kasWp cmp G s:=by
 obtain ⟨p,e,a1,a2,a3⟩:=Nf O h
 refine KH hc (Bf h) ?_
 rw [e]
 exact hG p a1 a2 fun i j hij hj=>a3 i j hij hj
end Ka
namespace L2
open PySem PySem.Spec PyProof.Rows
def y0 (p q:Int × Str):Bool:=decide (p.1 < q.1) || (p.1 == q.1 && decide (p.2.cps.toList < q.2.cps.toList))
theorem ltK_iff {p q:Int × Str}:y0 p q=true ↔ p.1 < q.1 ∨ (p.1=q.1/\p.2.cps.toList < q.2.cps.toList):=by
 unfold y0
 simp only [Bool.or_eq_true,Bool.and_eq_true,decide_eq_true_eq,beq_iff_eq]
theorem wg (kf:Nat->Int × Str):Ka.Ord fun i j=>y0 (kf i) (kf j) where
 irr a:=by
  cases e:y0 (kf a) (kf a) with
  | false=>rfl
  | true =>
   rcases ltK_iff.mp e with z | ⟨_,z⟩
   ·omega
   ·exact absurd z (List.lt_irrefl _)
 tr a b c h k:=by
  refine ltK_iff.mpr ?_
  rcases ltK_iff.mp h with z | ⟨z1,z2⟩ <;> rcases ltK_iff.mp k with y | ⟨y1,y2⟩
  ·exact .inl (by omega)
  ·exact .inl (by omega)
  ·exact .inl (by omega)
  ·exact .inr ⟨by omega,List.lt_trans z2 y2⟩
 neg a b c h:=by
  rcases ltK_iff.mp h with z | ⟨z1,z2⟩
  ·by_cases q:(kf a).1 < (kf b).1
   ·exact .inl (ltK_iff.mpr (.inl q))
   ·exact .inr (ltK_iff.mpr (.inl (by omega)))
  ·by_cases q:(kf a).1 < (kf b).1
   ·exact .inl (ltK_iff.mpr (.inl q))
   ·by_cases q2:(kf b).1 < (kf c).1
    ·exact .inr (ltK_iff.mpr (.inl q2))
    ·by_cases q3:(kf a).2.cps.toList < (kf b).2.cps.toList
     ·exact .inl (ltK_iff.mpr (.inr ⟨by omega,q3⟩))
     ·exact .inr (ltK_iff.mpr (.inr ⟨by omega,List.lt_of_le_of_lt (List.not_lt.mp q3) z2⟩))
section
variable {prog:Program}{w:World}{A:Around}{E:Value->Shared->Prop}{s:Shared}
theorem Np {x y:Addr}{ox oy:Obj}{i j:Int}{a b:Str}{t u t' u':Tok}{n k:Nat}{Q:Bool->Shared->Prop}(hx:s.heap.get? x=some ox)(dx:ox.data = .seq #[.int i t,.str a u] n)(hy:s.heap.get? y=some oy)(dy:oy.data = .seq #[.int j t',.str b u'] k)
  (h:Q (y0 (i,a) (j,b)) s):wpAny (model prog w) A (keyLt' (tuples' true) (.ref x) (.ref y)) Q E s:=by
 refine PySem.W.kat_lt hx dx hy dy ?_
 show PySem.W.KatLex prog w A true _ Q [(.int i t,.int j t'),(.str a u,.str b u')] 0 s
 refine PySem.W.kat_cons (wpAny_eqBool_int ?_)
 by_cases e:i=j
 ·subst e
  rw [beq_self_eq_true]
  refine PySem.W.kat_yes (PySem.W.kat_cons (wpAny_eqBool_str ?_))
  by_cases e2:a=b
  ·subst e2
   rw [decide_eq_true rfl]
   refine PySem.W.kat_yes (PySem.W.kat_nil ?_)
   have z:y0 (i,a) (i,a)=false:=(wg fun _=>(i,a)).irr 0
   rw [z] at h
   exact h
  ·rw [decide_eq_false e2]
   refine PySem.W.kat_no (PySem.W.kat_one _ _ (PyProof.Rows.lt_str ?_))
   have z:y0 (i,a) (i,b)=decide (a.cps.toList < b.cps.toList):=by
    unfold y0
    simp
   rw [z] at h
   exact h
 ·have e':(i == j)=false:=by simpa using e
  rw [e']
  refine PySem.W.kat_no ?_
  show wpAny _ _ (oneLt' true (.int i t) (.int j t')) Q _ s
  refine oneLt_int ?_
  have z:y0 (i,a) (j,b)=decide (i < j):=by
   unfold y0
   simp [e']
  rw [z] at h
  exact h
end
end L2
namespace L2
open PySem PySem.Spec PyProof.Rows
def Grow (H H':Hp):Prop:=∀ b o,H b=some o->H' b=some o
theorem Grow.refl {H:Hp}:Grow H H:=fun _ _ e=>e
theorem Grow.trans {H H1 H2:Hp}(a:Grow H H1)(b:Grow H1 H2):Grow H H2:=fun c o e=>b c o (a c o e)
structure KeysIn (kf:Nat->Int × Str)(H:Hp)(xs:List V)(ks:List Value):Prop where
 len:ks.length=xs.length
 at_:∀ (i:Nat) (x:V),xs[i]?=some x->∃ p,ks[i]?=some (.ref p)/\H p=some (.tup [.int (kf i).1,.str (kf i).2])
theorem KeysIn.nil {kf:Nat->Int × Str}{H:Hp}:KeysIn kf H [] []:=⟨rfl,fun i x e=>by simp at e⟩
theorem KeysIn.snoc {kf:Nat->Int × Str}{H H':Hp}{xs:List V}{ks:List Value}{x:V}{p:Addr}(h:KeysIn kf H xs ks)(g:Grow H H')(e:H' p=some (.tup [.int (kf xs.length).1,.str (kf xs.length).2])):KeysIn kf H' (xs++[x]) (ks++[.ref p]):=by
 refine ⟨by rw [List.length_append,List.length_append,h.len];rfl,fun i y q=>?_⟩
 by_cases hi:i < xs.length
 ·rw [List.getElem?_append_left hi] at q
  obtain ⟨a,e1,e2⟩:=h.at_ i y q
  exact ⟨a,by rw [List.getElem?_append_left (by rw [h.len];exact hi)];exact e1,g _ _ e2⟩
 ·rw [List.getElem?_append_right (by omega)] at q
  have hz:i - xs.length=0:=by
   cases hd:i - xs.length with
   | zero=>rfl
   | succ k=>rw [hd] at q;simp at q
  rw [hz] at q
  simp at q
  have hi':i=xs.length:=by omega
  refine ⟨p,?_,by rw [hi'];exact e⟩
  rw [List.getElem?_append_right (by rw [h.len];omega),h.len,hz]
  rfl
structure zQ (X:Cx)(pins:List (Addr × Obj))(b:Addr):Prop where
 s0:X.s₀.heap.objs.size<=b
 nL:b ≠ X.env.locals
 nC:∀ x c,X.env.cells.lookup x=some c->c ≠ b
 nP:∀ p ∈ X.pn++pins,p.1 ≠ b
 nS:b ∉ frs X.stack
section
variable {X:Cx}{pins:List (Addr × Obj)}{σ:St}{H:Hp}{s:Shared}{h':Heap}{b:Addr}
theorem Inv.mine (I:Inv X pins σ H s)(h:s.heap.objs.size<=b):zQ X pins b where
 s0:=Nat.le_trans I.sz h
 nL:=Nat.ne_of_gt (Nat.lt_of_lt_of_le I.lt h)
 nC:=fun x c e=>by
  obtain ⟨v,o,e1,_⟩:=I.cell x c e
  exact Nat.ne_of_lt (Nat.lt_of_lt_of_le (Heap.lt_size e1) h)
 nP:=fun p hp=>Nat.ne_of_lt (Nat.lt_of_lt_of_le (Heap.lt_size (I.pin p hp).1) h)
 nS:=fun z=>by
  rcases List.mem_cons.mp (I.stkSub b z) with q | q
  ·exact absurd q (Nat.ne_of_gt (Nat.lt_of_lt_of_le I.lt h))
  ·exact I.nofs h q
theorem Inv.turn {t':Nat}(I:Inv X pins σ H s)(m:zQ X pins b)(hn:H b=none)(k:∀ c o,c ≠ b->s.heap.get? c=some o->h'.get? c=some o):Inv X pins σ H { s with heap:=h',toks:=t' } :=
 I.turned k hn m.nL (.inr m.s0) m.nC m.nP
theorem wJ {h:Heap}{a c:Addr}{g:Array Value->Array Value}{o:Obj}(n:c ≠ a)(e:h.get? c=some o):(h.update a (Obj.mapSeq g)).get? c=some o:=(Heap.get?_update_ne _ _ _ _ n).trans e
end
section
variable {X:Cx}{pins:List (Addr × Obj)}{σ:St}{H:Hp}{s:Shared}{A2:Around}{D kS f:Addr}{e1:Nat}{xs:List V}{us:List Value}{kf:Nat->Int × Str}{P:PySem.Fin->Shared->Prop}{E:Value->Shared->Prop}
def VV (X:Cx)(pins:List (Addr × Obj))(σ:St)(H:Hp)(kf:Nat->Int × Str)(D:Addr)(xs:List V)(R:Shared->Prop):Prop:=∀ (l:List Nat) (out:List Value) (H':Hp) (s':Shared) (e':Nat),Inv X pins σ H' s'->Grow H H'->H' D=none ->
 s'.heap.get? D=some (seqObj "list" out.toArray e')->l.Perm (List.range xs.length)->Vals (l.map fun i=>xs.getD i .non) out->l.Pairwise (fun a b=>y0 (kf b) (kf a)=false)->R s'
theorem Kj {st:SortSt}{out:List Value}{ks:List Value}{e:Nat}{H1:Hp}{s1:Shared}(I:Inv X pins σ H1 s1)(mD:zQ X pins D)(mK:zQ X pins kS)(ne:D ≠ kS)(nD:H1 D=none)(nK:H1 kS=none)(hD:s1.heap.get? D=some (seqObj "list" #[] e1)) (hk:s1.heap.get? kS=some (seqObj "list" ks.toArray e))
  (hout:(arrOf st).map (·.2)=out.toArray) (hz:out.length < 64) (hkz:ks.length < 64) (hf:failedOf st=none)
  (h:∀ (h':Heap) (e':Nat),Inv X pins σ H1 { s1 with heap:=h' }->h'.get? D=some (seqObj "list" out.toArray e')->P (.done (.ret .none)) { s1 with heap:=h' }):wpAny (model X.prog X.w) A2 (ksk_tail D false e1 (.ref kS) st) P E s1:=by
 have hD1:(s1.heap.update kS (Obj.mapSeq fun _=>(#[]:Array Value))).get? D=some (seqObj "list" #[] e1):=wJ ne hD
 obtain ⟨c2,hc2⟩:∃ c2,((s1.heap.update kS (Obj.mapSeq fun _=>(#[]:Array Value))).update D (Obj.mapSeq fun _=>out.toArray)).get? D=some (seqObj "list" out.toArray c2):=⟨_,get?_update_seq hD1 fun _=>out.toArray⟩
 have I1:=I.turn (t':=s1.toks) mK nK (h':=s1.heap.update kS (Obj.mapSeq fun _=>(#[]:Array Value))) fun c o n q=>wJ n q
 have I2:=I1.turn (t':=s1.toks) mD nD (h':=(s1.heap.update kS (Obj.mapSeq fun _=>(#[]:Array Value))).update D (Obj.mapSeq fun _=>out.toArray)) fun c o n q=>wJ n q
 unfold ksk_tail
 dsimp only
 rw [hout]
 refine wpAny_bind (listUpdate_at hk rfl ?_ (by rw [List.size_toArray,sizeLine_eq];omega) (Nat.zero_le _))
 refine wpAny_bind (wpAny_letGo ?_)
 refine wpAny_bind (seqEpoch_at hD1 rfl ?_)
 refine wpAny_bind (listUpdate_at hD1 rfl ?_ (Nat.zero_le _) (by show out.toArray.size<=_;rw [List.size_toArray,sizeLine_eq];omega))
 rw [hf]
 simp only [bne_self_eq_false,Bool.false_eq_true,if_false]
 exact wpAny_pure (h _ c2 I2 hc2)
end
end L2
namespace L2
open PySem PySem.Spec PyProof.Rows
section
variable {X:Cx}{pins:List (Addr × Obj)}{σ:St}{H:Hp}{s:Shared}{A2:Around}{D kS f:Addr}{e1:Nat}{xs:List V}{us:List Value}{kf:Nat->Int × Str}{P:PySem.Fin->Shared->Prop}{E:Value->Shared->Prop}
theorem VL:∀ {xs:List V} {us:List Value} {i:Nat},Vals xs us->i < xs.length->RelV (xs.getD i .non) (us.getD i Value.none)
 | _,_,i,.nil,h=>by simp at h
 | _,_,0,.cons r _,_=>r
 | _,_,i + 1,.cons _ q,h=>by
  have:=VL (i:=i) q (by simpa using h)
  simpa using this
theorem KC {xs:List V}{us:List Value}(rv:Vals xs us):∀ {l:List Nat},(∀ i ∈ l,i < xs.length)->Vals (l.map fun i=>xs.getD i .non) (l.map fun i=>us.getD i Value.none)
 | [],_=> .nil
 | i::l,h=> .cons (VL rv (h i List.mem_cons_self)) (KC rv fun j hj=>h j (List.mem_cons_of_mem _ hj))
theorem JY {α:Type}{d:α}:∀ xs:List α,(List.range xs.length).map (fun i=>xs.getD i d)=xs:=fun xs=>by
 apply List.ext_getElem?
 intro i
 rw [List.getElem?_map]
 by_cases h:i < xs.length
 ·rw [List.getElem?_range h,List.getElem?_eq_getElem h]
  simp [h]
 ·rw [List.getElem?_eq_none (by simpa using h),List.getElem?_eq_none (by simpa using h)]
  rfl
theorem end_K {ks:List Value}{e:Nat}{H1:Hp}{s1:Shared}(I:Inv X pins σ H1 s1)(mD:zQ X pins D)(mK:zQ X pins kS)(ne:D ≠ kS)(nD:H1 D=none)(nK:H1 kS=none)(hD:s1.heap.get? D=some (seqObj "list" #[] e1)) (hk:s1.heap.get? kS=some (seqObj "list" ks.toArray e))
  (rv:Vals xs us) (hK:KeysIn kf H1 xs ks) (h64:xs.length < 64)
  (h:∀ (l:List Nat) (out:List Value) (h':Heap) (e':Nat),Inv X pins σ H1 { s1 with heap:=h' }->h'.get? D=some (seqObj "list" out.toArray e')->l.Perm (List.range xs.length)->Vals (l.map fun i=>xs.getD i .non) out->l.Pairwise (fun a b=>y0 (kf b) (kf a)=false)->P (.done (.ret .none)) { s1 with heap:=h' }) :
  wpAny (model X.prog X.w) A2 (ksk_end D false us.toArray e1 (.ref kS) ks.toArray) P E s1:=by
 have hul:us.length=xs.length:=rv.length.symm
 have hkl:ks.length=us.length:=by rw [hK.len,hul]
 unfold ksk_end
 dsimp only
 simp only [Bool.false_eq_true,if_false]
 by_cases h2:us.toArray.size < 2
 ·rw [if_pos h2,if_pos h2]
  refine wpAny_bind (wpAny_pure ?_)
  refine wpAny_bind (wpAny_pure ?_)
  refine Kj (out:=us) (ks:=ks) I mD mK ne nD nK hD hk ?_ (by omega) (by omega) rfl fun h' e' I' hd=>h (List.range xs.length) us h' e' I' hd (.refl _) (by rw [JY];exact rv) ?_
  ·show ((ks.toArray.zip us.toArray)).map (·.2)=us.toArray
   apply Array.toList_inj.mp
   rw [Array.toList_map,ksk_zip]
   exact List.map_snd_zip (by simp;omega)
  ·have hx:xs.length < 2:=by rw [List.size_toArray] at h2;omega
   have hr:xs.length=0 ∨ xs.length=1:=by omega
   rcases hr with z | z
   ·rw [z];exact List.Pairwise.nil
   ·rw [z];exact List.pairwise_singleton _ _
 ·rw [if_neg h2,if_neg h2]
  have h2':2<=us.length:=by rw [List.size_toArray] at h2;omega
  have tup:∀ i,i < xs.length->∃ p ox t u n,ks.getD i Value.none = .ref p/\s1.heap.get? p=some ox/\ox.cls = .type "tuple"/\ox.data = .seq #[.int (kf i).1 t,.str (kf i).2 u] n:=fun i hi=>by
   obtain ⟨p,a1,a2⟩:=hK.at_ i (xs.getD i .non) (by rw [List.getElem?_eq_getElem hi];simp [hi])
   obtain ⟨_,its,r,o,e1,e2,n,e3⟩:=I.hok p _ a2
   obtain ⟨u1,u2,rfl,z1,z2⟩:=Kx r
   obtain ⟨t,rfl⟩:∃ t,u1 = .int (kf i).1 t:=z1
   obtain ⟨u,rfl⟩:∃ u,u2 = .str (kf i).2 u:=z2
   exact ⟨p,o,t,u,n,by simp [a1],e1,e2,e3⟩
  have kt:∀ {l:List Nat},(∀ i ∈ l,i < xs.length)->∃ fs,PySem.W.KatTups s1.heap (l.map fun i=>ks.getD i Value.none) fs/\fs.length=l.length/\∀ v ∈ fs,∃ i t,v=Value.int i t:=fun {l}=>by
   induction l with
   | nil=>exact fun _=>⟨[],.nil,rfl,fun v hv=>by simp at hv⟩
   | cons i l ih =>
    intro hl
    obtain ⟨fs,b1,b2,b3⟩:=ih fun j hj=>hl j (List.mem_cons_of_mem _ hj)
    obtain ⟨p,ox,t,u,n,c1,c2,c3,c4⟩:=tup i (hl i List.mem_cons_self)
    refine ⟨Value.int (kf i).1 t::fs,?_,by rw [List.length_cons,List.length_cons,b2],fun v hv=>?_⟩
    ·rw [List.map_cons,c1]
     exact .cons c2 c3 c4 rfl b1
    ·rcases List.mem_cons.mp hv with z | z
     ·exact ⟨_,_,z⟩
     ·exact b3 v z
  obtain ⟨fs,f1,f2,f3⟩:=kt (l:=List.range ks.length) fun i hi=>by rw [List.mem_range,hK.len] at hi;exact hi
  rw [JY] at f1
  rw [List.length_range] at f2
  refine wpAny_bind (PySem.W.kat_kind (T:= .type "int") f1 (by omega) (fun v hv=>?_) rfl ?_)
  ·obtain ⟨i,t,rfl⟩:=f3 v hv
   exact .now
  have O:=wg fun i=>kf i
  refine wpAny_bind (wpAny_mono (PySem.W.kat_run (vs:=us) (ks:=ks) (Q:=fun st' s'=>s'=s1/\∃ p:Array Nat,p.Perm (List.toArray (List.range us.length))/\p.size=us.length/\(∀ i j,i<=j->j < us.length->y0 (kf (p.getD j 0)) (kf (p.getD i 0))=false)/\arrOf st'=p.map (PySem.W.kas_item (ks.toArray.zip us.toArray))/\failedOf st'=none)
   (G:=fun p s'=>s'=s1/\p.Perm (List.toArray (List.range us.length))/\p.size=us.length/\∀ i j,i<=j->j < us.length->y0 (kf (p.getD j 0)) (kf (p.getD i 0))=false) hkl h2' (by omega)
   (fun p st' s' z1 z2 z3 z4=>⟨z4.1,p,z4.2.1,z4.2.2.1,z4.2.2.2,z2,z3⟩)
   (Ka.sort_wp O (by omega) (fun i j C hi hj hC=>?_) fun p z1 z2 z3=>⟨rfl,z1,z2,z3⟩)) (fun r s' hr=>?_) fun _ _ z=>z)
  ·obtain ⟨p,ox,t,u,n,c1,c2,c3,c4⟩:=tup i (by omega)
   obtain ⟨q,oy,t',u',m,d1,d2,d3,d4⟩:=tup j (by omega)
   show wpAny _ _ (keyLt' _ (ks.getD i Value.none) (ks.getD j Value.none)) C _ _
   rw [c1,d1]
   exact Np c2 c4 d2 d4 hC
  ·obtain ⟨⟨⟩,st⟩:=r
   obtain ⟨rfl,p,q1,q2,q3,q4,q5⟩:=hr
   dsimp only
   have pl:p.toList.Perm (List.range us.length):=Array.perm_iff_toList_perm.mp q1
   have lo:∀ i ∈ p.toList,i < xs.length:=fun i hi=>by
    have:=pl.mem_iff.mp hi
    rw [List.mem_range] at this
    omega
   refine Kj (out:=p.toList.map fun i=>us.getD i Value.none) (ks:=ks) I mD mK ne nD nK hD hk (PySem.W.kat_snds hkl q4) (by rw [List.length_map,Array.length_toList,q2];omega) (by omega) q5 fun h' e' I' hd=>h p.toList _ h' e' I' hd (by rw [<- hul];exact pl) (KC rv lo) ?_
   rw [List.pairwise_iff_getElem]
   intro i j hi hj hij
   rw [Array.length_toList,q2] at hi hj
   have:=q3 i j (by omega) hj
   have gi:∀ k,(hk:k < p.size)->p.getD k 0=p[k]:=fun k hk=>by simp [Array.getD,hk]
   rw [gi i (by omega),gi j (by omega)] at this
   simpa using this
end
end L2
namespace L2
open PySem PySem.Spec PyProof.Rows
section
variable {X:Cx}{pins:List (Addr × Obj)}{σ:St}{H:Hp}{s:Shared}{A2:Around}{D kS f:Addr}{e1:Nat}{xs:List V}{us:List Value}{kf:Nat->Int × Str}{P:PySem.Fin->Shared->Prop}{E:Value->Shared->Prop}
def Jg (X:Cx)(pins:List (Addr × Obj))(σ:St)(H:Hp)(A2:Around)(f:Addr)(kf:Nat->Int × Str)(xs:List V):Prop:=∀ (H':Hp) (s':Shared) (i:Nat) (x:V) (u:Value),xs[i]?=some x->RelV x u->Inv X pins σ H' s'->Grow H H' ->
 wpAny (model X.prog X.w) A2 (call (.ref f) [u]) (fun u' s''=>CE X.stack X.prog X.w H' s' (fun v H''=>Grow H' H''/\∃ p,v = .ref p/\H'' p=some (.tup [.int (kf i).1,.str (kf i).2])) u' s'') (fun _ _=>False) s'
theorem La (I:Inv X pins σ H s)(mD:zQ X pins D)(mK:zQ X pins kS)(ne:D ≠ kS)(nD:H D=none)(nK:H kS=none)(hD:s.heap.get? D=some (seqObj "list" #[] e1)) (hk:s.heap.get? kS=some (seqObj "list" #[] 0))
  (rv:Vals xs us) (h64:xs.length < 64) (hkey:Jg X pins σ H A2 f kf xs) (h:VV X pins σ H kf D xs fun s'=>P (.done (.ret .none)) s') :
  wpAny (model X.prog X.w) A2 (ksk_rest D (.ref f) false us.toArray e1 (.ref kS)) P E s:=by
 have hul:us.length=xs.length:=rv.length.symm
 unfold ksk_rest
 refine wpAny_bind (wpAny_rule ?_)
 first
  | rw [List.forIn_toArray]
  | (rw [<- Array.forIn_toList];simp only [List.toList_toArray])
 refine wpAny_bind (ksk_fold (fun j s'=>∃ (H':Hp) (ks:List Value) (e:Nat),Inv X pins σ H' s'/\Grow H H'/\H' D=none/\H' kS=none/\s'.heap.get? D=some (seqObj "list" #[] e1)/\s'.heap.get? kS=some (seqObj "list" ks.toArray e)/\KeysIn kf H' (xs.take j) ks) us 0 s
  ⟨H,[],0,I,.refl,nD,nK,hD,hk,by rw [List.take_zero];exact .nil⟩ (fun j u s' hu hI=>?_) fun s' hI=>?_)
 ·rw [Nat.zero_add] at hI ⊢
  obtain ⟨H',ks,e,I',g,n1,n2,d1,d2,kk⟩:=hI
  have hj:j < us.length:=by
   rcases Nat.lt_or_ge j us.length with z | z
   ·exact z
   ·rw [List.getElem?_eq_none z] at hu;cases hu
  obtain ⟨x,hx,rx⟩:∃ x,xs[j]?=some x/\RelV x u:=by
   have z:=VL (i:=j) rv (by omega)
   refine ⟨xs.getD j .non,by rw [List.getElem?_eq_getElem (by omega)];simp [show j < xs.length by omega],?_⟩
   have e2:us.getD j Value.none=u:=by simp [hu]
   rw [e2] at z
   exact z
  have lk:ks.length < 64:=by rw [kk.len,List.length_take];omega
  refine wpAny_bind (wpAny_attempt (wpAny_mono (hkey H' s' j x u hx rx I' g) (fun u' s'' ce=>?_) fun _ _ z=>z.elim))
  have ep:=I'.after ce
  obtain ⟨v,H'',os,bare,un,hok,r,g2,p,rfl,hp⟩:=ce
  obtain rfl:u'=Value.ref p:=r
  have I'':Inv X pins σ H'' s'':=by
   obtain ⟨hh,gg,dd,tt,os'⟩:=s''
   obtain rfl:os'=s'.os:=os
   exact I'.call (h':=hh) (g':=gg) (d':=dd) (t':=tt) (ch:=[]) un hok bare (fun b z=>absurd z (by simp))
  have d1':=un.keep D _ d1 n1 mD.nS (by simp)
  have d2':=un.keep kS _ d2 n2 mK.nS (by simp)
  have n1':=un.free D _ d1 n1 (by simp)
  have n2':=un.free kS _ d2 n2 (by simp)
  have ea:ks.toArray.push (.ref p)=(ks++[Value.ref p]).toArray:=by simp
  obtain ⟨c2,hc2⟩:∃ c2,(s''.heap.update kS (Obj.mapSeq (·.push (Value.ref p)))).get? kS=some (seqObj "list" (ks++[Value.ref p]).toArray c2):=⟨_,by rw [<- ea];exact get?_update_seq d2' (·.push (Value.ref p))⟩
  dsimp only
  refine wpAny_bind (listUpdate_at d2' rfl ?_ (by rw [List.size_toArray,sizeLine_eq];omega) (by show (ks.toArray.push (Value.ref p)).size<=_;rw [Array.size_push,List.size_toArray,sizeLine_eq];omega))
  refine wpAny_pure ⟨rfl,H'',ks++[Value.ref p],c2,I''.turn (t':=s''.toks) mK n2' fun c o n q=>wJ n q,g.trans g2,n1',n2',wJ ne d1',hc2,?_⟩
  have et:xs.take (j + 1)=xs.take j++[x]:=by rw [List.take_add_one,hx];rfl
  rw [et]
  exact kk.snoc g2 (by rw [List.length_take,Nat.min_eq_left (by omega)];exact hp)
 ·rw [Nat.zero_add] at hI
  obtain ⟨H',ks,e,I',g,n1,n2,d1,d2,kk⟩:=hI
  rw [hul,List.take_length] at kk
  refine wpAny_bind (listItems_at d2 rfl ?_)
  exact end_K I' mD mK ne n1 n2 d1 d2 rv kk h64 fun l out h' e' J hd p r q=>h l out H' _ e' J g n1 hd p r q
theorem Nm {n:Nat}(I:Inv X pins σ H s)(mD:zQ X pins D)(nD:H D=none)(hD:s.heap.get? D=some (seqObj "list" us.toArray n)) (rv:Vals xs us) (h64:xs.length < 64) (hkey:Jg X pins σ H A2 f kf xs) (h:VV X pins σ H kf D xs fun s'=>P (.done (.ret .none)) s') :
  wpAny (model X.prog X.w) A2 (ksk_tree D (.ref f) false) P E s:=by
 have hul:us.length=xs.length:=rv.length.symm
 obtain ⟨e1,hD1⟩:∃ e1,(s.heap.update D (Obj.mapSeq fun _=>(#[]:Array Value))).get? D=some (seqObj "list" #[] e1):=⟨_,get?_update_seq hD fun _=>#[]⟩
 have I1:=I.turn (t':=s.toks) mD nD (h':=s.heap.update D (Obj.mapSeq fun _=>(#[]:Array Value))) fun c o n q=>wJ n q
 have k2:∀ b o,(s.heap.update D (Obj.mapSeq fun _=>(#[]:Array Value))).get? b=some o->((s.heap.update D (Obj.mapSeq fun _=>(#[]:Array Value))).push (seqObj "tuple" us.toArray 0)).get? b=some o:=fun b o e=>Heap.get?_push_of_some _ e
 have I2:=I1.kept (t':=s.toks) k2
 have k3:∀ b o,((s.heap.update D (Obj.mapSeq fun _=>(#[]:Array Value))).push (seqObj "tuple" us.toArray 0)).get? b=some o->(((s.heap.update D (Obj.mapSeq fun _=>(#[]:Array Value))).push (seqObj "tuple" us.toArray 0)).push (seqObj "list" #[] 0)).get? b=some o:=fun b o e=>Heap.get?_push_of_some _ e
 have I3:=I2.kept (t':=s.toks) k3
 have mK:=I2.mine (b:=((s.heap.update D (Obj.mapSeq fun _=>(#[]:Array Value))).push (seqObj "tuple" us.toArray 0)).objs.size) (Nat.le_refl _)
 have nK:=I2.hok.fresh (a:=((s.heap.update D (Obj.mapSeq fun _=>(#[]:Array Value))).push (seqObj "tuple" us.toArray 0)).objs.size) (Nat.le_refl _)
 unfold ksk_tree
 refine wpAny_bind (listItems_at hD rfl ?_)
 refine wpAny_bind (listUpdate_at hD rfl ?_ (by rw [List.size_toArray,sizeLine_eq];omega) (Nat.zero_le _))
 refine wpAny_bind (seqEpoch_at hD1 rfl ?_)
 refine wpAny_bind (wpAny_newTuple ?_ (by show us.length<=_;rw [sizeLine_eq];omega))
 refine wpAny_bind (wpAny_newList ?_ (Nat.zero_le _))
 refine wpAny_holding ?_
 exact La (s:={ s with heap:=((s.heap.update D (Obj.mapSeq fun _=>(#[]:Array Value))).push (seqObj "tuple" us.toArray 0)).push (seqObj "list" #[] 0) }) I3 mD mK (Nat.ne_of_lt (Heap.lt_size (k2 _ _ hD1))) nD nK (k3 _ _ (k2 _ _ hD1)) (Heap.get?_push_size _ rfl) rv h64 hkey h
end
end L2
namespace L2
open PySem PySem.Spec PyProof.Rows
section
variable {X:Cx}{pins:List (Addr × Obj)}{σ:St}{H:Hp}{s:Shared}{a f:Addr}{xs:List V}{kf:Nat->Int × Str}{Q:VK}{E:Value->Shared->Prop}
theorem BD (I:Inv X pins σ H s)(hl:SqL X.K H a xs)(h64:xs.length < 64)(hkey:Jg X pins σ H X.A.in1.in1 f kf xs)
  (h:∀ (D:Addr) (l:List Nat) (H':Hp),Grow H H'->H' D=none->l.Perm (List.range xs.length)->l.Pairwise (fun a b=>y0 (kf b) (kf a)=false)->Q (.ref D) (j7 H' D (.lst (l.map fun i=>xs.getD i .non)))) :
  wpAny (model X.prog X.w) X.A (call (.builtin "sorted") [.ref a] [(Str.ofString "key",.ref f)]) (EP X pins σ Q) E s:=by
 obtain ⟨us,rv,p,hz⟩:=I.list hl
 have hul:us.length=xs.length:=rv.length.symm
 refine call_function_entry_kw kind_sorted plain_sorted entry_sorted (ksk_s1 _ _) ?_
 unfold Builtin.«sorted»
 refine wpAny_bind (m:=checkCount "sorted" 1 1 _) (wpAny_pure ?_)
 refine wpAny_bind (collect_list p.isList ?_ (by rw [sizeLine_eq];omega))
 refine wpAny_bind (wpAny_newList ?_ (by rw [sizeLine_eq];omega))
 have keep:∀ b o,s.heap.get? b=some o->((s.heap.push (seqObj "list" #[] 0)).update s.heap.objs.size (Obj.mapSeq (·++us.toArray))).get? b=some o:=fun b o q=>by
  rw [Heap.get?_update_ne _ _ _ _ (Nat.ne_of_lt (Heap.lt_size q))]
  exact Heap.get?_push_of_some _ q
 have I1:=I.kept (t':=s.toks) keep
 have k2:∀ b o,((s.heap.push (seqObj "list" #[] 0)).update s.heap.objs.size (Obj.mapSeq (·++us.toArray))).get? b=some o->(((s.heap.push (seqObj "list" #[] 0)).update s.heap.objs.size (Obj.mapSeq (·++us.toArray))).push (seqObj "list" us.toArray 0)).get? b=some o:=fun b o e=>Heap.get?_push_of_some _ e
 have I2:=I1.kept (t':=s.toks) k2
 have mD:=I1.mine (b:=((s.heap.push (seqObj "list" #[] 0)).update s.heap.objs.size (Obj.mapSeq (·++us.toArray))).objs.size) (Nat.le_refl _)
 have nD:=I1.hok.fresh (a:=((s.heap.push (seqObj "list" #[] 0)).update s.heap.objs.size (Obj.mapSeq (·++us.toArray))).objs.size) (Nat.le_refl _)
 have hoL:(((s.heap.push (seqObj "list" #[] 0)).update s.heap.objs.size (Obj.mapSeq (·++us.toArray))).push (seqObj "list" us.toArray 0)).get? ((s.heap.push (seqObj "list" #[] 0)).update s.heap.objs.size (Obj.mapSeq (·++us.toArray))).objs.size=some (seqObj "list" us.toArray 0):=Heap.get?_push_size _ rfl
 refine wpAny_bind (wpAny_holding (wpAny_call_entry_kw slot_list_sort (s:={ s with heap:=((s.heap.push (seqObj "list" #[] 0)).update s.heap.objs.size (Obj.mapSeq (·++us.toArray))).push (seqObj "list" us.toArray 0) }) ⟨_,hoL,rfl⟩ entry_list_sort ?body (ksk_l1 _ _)))
 show wpAny (model X.prog X.w) X.A.in1.in1 (Builtin.«list.sort» ⟨[.ref _],[(Str.ofString "key",.ref f)]⟩) _ _ _
 rw [ksk_t1]
 refine Nm (s:={ s with heap:=((s.heap.push (seqObj "list" #[] 0)).update s.heap.objs.size (Obj.mapSeq (·++us.toArray))).push (seqObj "list" us.toArray 0) }) (kf:=kf) I2 mD nD hoL rv h64 hkey fun l out H' s' e' J g n hd pm r pw=>⟨_,rfl,wpAny_pure ⟨_,rfl,.ref _,_,J.track mD.s0 n mD.nL mD.nC mD.nP (o:= .lst (l.map fun i=>xs.getD i .non)) ?_,rfl,h _ l H' g n pm pw⟩⟩
 exact ⟨by rw [List.length_map,pm.length_eq,List.length_range];exact hz,out,e',r,hd⟩
end
end L2
namespace L2
open PySem PySem.Spec PySem.Calls PyProof.Rows
section
variable {P:Program}{w:World}{K:Fg}{mg:Str->Option Value}{base:Heap}
theorem Fun.okC {x qual:Str}{st:Stmt}{f:Addr}{fd:FuncData}{N ps:List Str}{k:Nat}{sp:Sp}(F:Fun K x qual st f fd)(S:w4 N ps (z9 st))(len:∀ vs H Q E,sp vs H Q E->vs.length=ps.length)
  (hbody:∀ (A:Around) (outer:List Env) (s:Shared) (H:Hp) (vs:List V) (Q:VK) (E:XK),Room k (A.deeper (envOfC qual (z9 st) s.heap.objs.size f fd.code))->sp vs H Q E ->
   ∃ t,PSs (xb v5 P w K mg base N qual (z9 st) f fd.code A outer s H E).nox (qi st) t/\t { nx:=fun _ H'=>Q .non H',rt:=Q } (start N vs) H):FnOk P w K mg base v5 (k + 1) f fd ps sp:=by
 obtain ⟨oc,od,kV,doc,pm,an,cdv,ct,osl,rfl,lk,hcd⟩:=F.ex
 refine JG lk hcd S len fun A outer s H vs Q E hr hsp=>?_
 obtain ⟨t,h,q⟩:=hbody A outer s H vs Q E hr hsp
 exact ⟨t,h.nox,q⟩
end
theorem SqL.grow {K:Fg}{H H':Hp}{a:Addr}{xs:List V}(h:SqL K H a xs)(g:Grow H H'):SqL K H' a xs:=by
 rcases h with (h | ⟨o,h⟩) | h
 ·exact .inl (.inl (g _ _ h))
 ·exact .inl (.inr ⟨o,g _ _ h⟩)
 ·exact .inr h
end L2
namespace L2
open PySem PySem.Spec PySem.Calls PyProof.Rows
section
variable {X:Cx}
def Kg (K:Fg)(fi:List Nat)(t:TA)(tb:TE):TE:=fun σ H Q=>t σ H fun vs H1=>∃ (a:Addr) (xs:List V) (kf:Nat->Int × Str) (cv:List V),vs=[.ref a]/\(fi.map fun i=>σ[i]?)=cv.map (fun v=>some (some v))/\SqL K H1 a xs/\xs.length < 64 /\
 (∀ (i:Nat) (x:V),xs[i]?=some x->∀ (H':Hp) (Q':VK),Grow H1 H'->(∀ p H'',Grow H' H''->H'' p=some (.tup [.int (kf i).1,.str (kf i).2])->Q' (.ref p) H'')->tb (([x]++cv).map some) H' Q') /\
 ∀ (D:Addr) (l:List Nat) (H':Hp),Grow H1 H'->H' D=none->l.Perm (List.range xs.length)->l.Pairwise (fun a b=>y0 (kf b) (kf a)=false)->Q (.ref D) (j7 H' D (.lst (l.map fun i=>xs.getD i .non)))
structure KP (X:Cx)(scope:Scope)(clos:List (Str × Addr))(fr:List Str)(fi:List Nat):Prop where
 len:fi.length=fr.length
 at_:∀ (j:Nat) (y:Str) (i:Nat),fr[j]?=some y->fi[j]?=some i->X.N[i]?=some y/\X.env.kindOf y=some .cell/\scope.names.lookup y=some .free/\Vis X.env.scope y
 sub:∀ y c,clos.lookup y=some c->X.env.cells.lookup y=some c
 has:∀ y c,y ∈ fr->X.env.cells.lookup y=some c->clos.lookup y=some c
theorem UQ {K:Fg}{e body:Expr}{t:TA}{tb:TE}{p pos kp lp:Pos}{params:Arguments}{scope:Scope}{x:Str}{c Pt:Addr}{ps:Array Value}{wt:List (Pos × Str)}{k:Nat}{clos:List (Str × Addr)}{fr:List Str}{fi:List Nat}(hK:X.K=K)(hr:Room (k + 3) X.A)(hg:Gl X "sorted") (hm:X.mg "sorted"=none) (ha:PA X [e] t)
  (hP:(Pt,ps,wt) ∈ TABS) (hw:(lp,X.env.qual ++ "<lambda>") ∈ wt) (hu:∀ p ∈ wt,(p.1.line == lp.line && p.1.col == lp.col)=true->p.2=X.env.qual ++ "<lambda>") (hcode:X.env.code = .ref c) (hC:∀ h:Heap,X.K.In h->PySem.W.CodeHd h c Pt) (S:VS [x] fr scope) (LF:KP X scope clos fr fi)
  (hb:∀ (f c':Addr) (s:Shared) (H:Hp),Room k (X.A.in1.in1.deeper (PySem.W.envX (X.env.qual ++ "<lambda>") scope s.heap.objs.size f (.ref c') clos))->PE (Xi X.prog X.w X.K X.mg X.base ([x]++fr) (X.env.qual ++ "<lambda>") scope f c' clos X.A.in1.in1 X.stack s H) body tb)
  (hbd:∀ (qual:Str) (pm cdv ctv u:Value),bindArgs (PySem.W.kla_fn "<lambda>" qual params body scope clos pm cdv ctv) ⟨[u],[]⟩=pure [(x,u)])
  (hcl:closureFor scope X.env=pure clos:=by rfl) (hdef:defaultsOf params X.env=([],[]):=by rfl)
  (hs:backTo pos (starEach [e] X.env)=(false,eval e X.env)::backTo pos (starEach [] X.env):=by rfl) (hpl:(backTo pos (starEach [e] X.env)).any (·.1)=false:=by rfl):PE X (.Call (.Name "sorted" p) [e] [⟨some "key",.Lambda params body scope lp,kp⟩] pos) (Kg K fi t tb):=by
 subst hK
 intro pins s σ H Q I h
 refine wpAny_Call_Name_kw (jz I hg hm Yj ?_ (by decide) (by decide))
 refine PyProof.Rows.callWith_kw (z8 (ha pos pins s σ H _ I h) fun us s1 ⟨vs,H1,I1,r1,q1⟩=>?_) hs hpl
 obtain ⟨a,xs,kf,cv,rfl,hcv,hq,h64,qk,qe⟩:=q1
 obtain ⟨u,rfl,ru⟩:=zx r1
 obtain rfl:u=Value.ref a:=ru
 refine PyProof.Rows.kws_cons (Cu I1 hP hw hu hcode (hC _ I1.mod.kin) hcl hdef fun f c' oc vs tq ctv H' h' tk I2 g _ hf hc hd hv=>PyProof.Rows.kws_nil ?_)
 show wpAny _ _ (call (.builtin "sorted") [.ref a] [(Str.ofString "key",Value.ref f)]) _ _ _
 refine BD I2 (hq.grow g) h64 (kf:=kf) (fun H3 s3 i3 x3 u3 hx rx I3 g3=>?_) fun D l H3 g3 n pm pw=>qe D l H3 (Grow.trans g g3) n pm pw
 obtain ⟨hf3,_⟩:=I3.hok f _ (g3 _ _ hf)
 obtain ⟨hc3,_⟩:=I3.hok c' _ (g3 _ _ hc)
 have room:=hr.in1.in1
 have lcv:cv.length=fr.length:=by
  have z:=congrArg List.length hcv
  rw [List.length_map,List.length_map] at z
  rw [<- z,LF.len]
 refine wpAny_call (codeAny_mono (Ct (vs:=[x3]) (cv:=cv) (t:=tb) (E:=fun _ _ _=>False) (Q:=fun v H''=>Grow H3 H''/\∃ p,v = .ref p/\H'' p=some (.tup [.int (kf i3).1,.str (kf i3).2])) S room.depth room.hd I3.env0.in1.in1 hf3 ⟨c',oc,vs,tq,rfl,hc3,hd,hv⟩ (hbd _ _ _ _ _) rfl (.cons rx .nil)
  (fun y z d e1 e2=>I3.ok.inj y z d (LF.sub y d e1) (LF.sub z d e2)) (fun y d e1=>⟨I3.cell y d (LF.sub y d e1),I3.freeC y d (LF.sub y d e1)⟩) lcv
  (fun j y v e1 e2=>?_) (hb f c' s3 H3 (room.deeper _)) (qk i3 x3 hx H3 _ (Grow.trans g g3) fun p H'' g4 hp=>⟨g4,p,rfl,hp⟩)) fun r s' z=>?_)
 ·have hj:j < fi.length:=by
   rw [LF.len]
   rcases Nat.lt_or_ge j fr.length with q | q
   ·exact q
   ·rw [List.getElem?_eq_none q] at e1;cases e1
  obtain ⟨n1,n2,n3,n4⟩:=LF.at_ j y fi[j] e1 (List.getElem?_eq_getElem hj)
  have es:σ[fi[j]]?=some (some v):=by
   have z:=congrArg (fun l=>l[j]?) hcv
   simp only [List.getElem?_map,e2,List.getElem?_eq_getElem hj,Option.map_some,Option.some.injEq] at z
   exact z
  obtain ⟨m,_,lk⟩:=I3.loc
  obtain ⟨u,rv,look⟩:=lk fi[j] y v n1 es n4
  refine ⟨n3,?_⟩
  rcases look with ⟨q,_⟩ | ⟨_,d,q1,q2⟩
  ·rw [n2] at q;cases q
  ·exact ⟨d,u,LF.has y d (List.mem_of_getElem? e1) q1,q2,rv⟩
 ·cases r with
  | error e=>exact z.elim
  | ok fl =>
   cases fl with
   | ret u=>exact z
   | next=>exact False.elim z
   | brk=>exact False.elim z
   | cont=>exact False.elim z
end
end L2
namespace Mi
open PySem L2
def JN:PV->Option (Int × Str)
 | .tup [.at (.int i),.at (.str n)]=>some (i,n)
 | _=>none
theorem Ci {y:PV}{k:Int × Str}(h:JN y=some k):y = .tup [.at (.int k.1),.at (.str k.2)]:=by
 unfold JN at h
 split at h
 ·cases h;rfl
 ·cases h
def jW (kb:PV->Option PV):List PV->Option (List (Int × Str))
 | []=>some []
 | x::xs=>((kb x).bind JN).bind fun k=>(jW kb xs).map (k::·)
theorem Ul {kb:PV->Option PV}:∀ {xs:List PV} {ks:List (Int × Str)},jW kb xs=some ks->ks.length=xs.length
 | [],ks,h=>by cases h;rfl
 | x::xs,ks,h=>by
  obtain ⟨k,_,h2⟩:=Option.bind_eq_some_iff.mp h
  obtain ⟨r,h3,rfl⟩:=Option.map_eq_some_iff.mp h2
  rw [List.length_cons,List.length_cons,Ul h3]
theorem Uk {kb:PV->Option PV}:∀ {xs:List PV} {ks:List (Int × Str)} {i:Nat} {x:PV},jW kb xs=some ks->xs[i]?=some x->∃ k,ks[i]?=some k/\kb x=some (.tup [.at (.int k.1),.at (.str k.2)])
 | [],_,_,_,_,e=>by simp at e
 | y::xs,ks,0,x,h,e=>by
  obtain ⟨k,h1,h2⟩:=Option.bind_eq_some_iff.mp h
  obtain ⟨r,h3,rfl⟩:=Option.map_eq_some_iff.mp h2
  obtain ⟨z,h4,h5⟩:=Option.bind_eq_some_iff.mp h1
  simp at e;subst e
  exact ⟨k,rfl,by rw [h4,Ci h5]⟩
 | y::xs,ks,i + 1,x,h,e=>by
  obtain ⟨k,h1,h2⟩:=Option.bind_eq_some_iff.mp h
  obtain ⟨r,h3,rfl⟩:=Option.map_eq_some_iff.mp h2
  obtain ⟨k',a,b⟩:=Uk (i:=i) h3 (by simpa using e)
  exact ⟨k',by simpa using a,b⟩
def qG (ks:List (Int × Str))(i:Nat):Int × Str:=ks.getD i (0, "")
def leI (ks:List (Int × Str))(a b:Nat):Bool:=!y0 (qG ks b) (qG ks a)
def jE (ks:List (Int × Str)):List Nat:=(List.range ks.length).mergeSort (leI ks)
theorem QR (ks:List (Int × Str)):(jE ks).Perm (List.range ks.length):=List.mergeSort_perm _ _
theorem GQ (ks:List (Int × Str)):(jE ks).Pairwise fun a b=>y0 (qG ks b) (qG ks a)=false:=by
 have O:=wg (qG ks)
 have:=List.pairwise_mergeSort (le:=leI ks) (fun a b c h1 h2=>by
  unfold leI at h1 h2 ⊢
  simp only [Bool.not_eq_true'] at h1 h2 ⊢
  exact Ka.le_trans (lt:=fun i j=>y0 (qG ks i) (qG ks j)) O (a:=a) (b:=b) (c:=c) h1 h2) (fun a b=>by
  unfold leI
  cases h:y0 (qG ks b) (qG ks a) with
  | false=>rfl
  | true =>
   have h2:y0 (qG ks a) (qG ks b)=false:=Ka.le_of_lt (lt:=fun i j=>y0 (qG ks i) (qG ks j)) O (a:=b) (b:=a) h
   rw [h2];rfl) (List.range ks.length)
 exact this.imp fun h=>by unfold leI at h;simpa using h
theorem JW {p q:Int × Str}(h1:y0 p q=false)(h2:y0 q p=false):p=q:=by
 have n1:¬ (p.1 < q.1 ∨ (p.1=q.1/\p.2.cps.toList < q.2.cps.toList)):=fun z=>by rw [ltK_iff.mpr z] at h1;cases h1
 have n2:¬ (q.1 < p.1 ∨ (q.1=p.1/\q.2.cps.toList < p.2.cps.toList)):=fun z=>by rw [ltK_iff.mpr z] at h2;cases h2
 have e1:p.1=q.1:=by omega
 have e2:p.2.cps.toList=q.2.cps.toList:=List.le_antisymm (List.not_lt.mp fun z=>n2 (.inr ⟨e1.symm,z⟩)) (List.not_lt.mp fun z=>n1 (.inr ⟨e1,z⟩))
 obtain ⟨i,⟨s⟩⟩:=p
 obtain ⟨j,⟨t⟩⟩:=q
 cases e1
 cases Array.toList_inj.mp e2
 rfl
theorem Nc {ks:List (Int × Str)}(nd:ks.Nodup){l:List Nat}(p:l.Perm (List.range ks.length))(u:l.Pairwise fun a b=>y0 (qG ks b) (qG ks a)=false):l=jE ks :=
 List.Perm.eq_of_pairwise (fun a b ha hb h1 h2=>by
  have la:a < ks.length:=List.mem_range.mp (p.mem_iff.mp ha)
  have lb:b < ks.length:=List.mem_range.mp ((QR ks).mem_iff.mp hb)
  have e:=JW h2 h1
  unfold qG at e
  simp only [List.getD_eq_getElem?_getD,List.getElem?_eq_getElem la,List.getElem?_eq_getElem lb,Option.getD_some] at e
  have nd':=List.pairwise_iff_getElem.mp nd
  rcases Nat.lt_trichotomy a b with z | z | z
  ·exact absurd e (nd' a b la lb z)
  ·exact z
  ·exact absurd e.symm (nd' b a lb la z)) u (GQ ks) (p.trans (QR ks).symm)
def Vf (kb:PV->Option PV):List PV->Option PV
 | [.lst xs]=>(jW kb xs).bind fun ks=>if xs.length < 64/\ks.Nodup then some (.lst ((jE ks).map fun i=>xs.getD i (.at .non))) else none
 | _=>none
theorem GE {H:Hp}{xs:List PV}{vs:List V}(r:Reps H xs vs):∀ {l:List Nat},(∀ i ∈ l,i < xs.length)->Reps H (l.map fun i=>xs.getD i (.at .non)) (l.map fun i=>vs.getD i .non)
 | [],_=> .nil
 | i::l,h=>by
  have hi:=h i List.mem_cons_self
  obtain ⟨v,e1,e2⟩:=r.get (i:=i) (x:=xs.getD i (.at .non)) (by rw [List.getElem?_eq_getElem hi];simp [hi])
  refine .cons ?_ (GE r fun j hj=>h j (List.mem_cons_of_mem _ hj))
  have:vs.getD i .non=v:=by simp [e1]
  show Rep H (xs.getD i (.at .non)) (vs.getD i .non)
  rw [this]
  exact e2
section
variable {K:Fg}{t:TA}{tb:TE}{as:MA}{kb:M}
def shs (ε:ME):List Nat->Option (List PV)
 | []=>some []
 | i::l=>match ε[i]? with
  | some (.sh x)=>(shs ε l).map (x::·)
  | _=>none
theorem GO {Hs0 H0 Hs H:Hp}{σ:St}{ε:ME}(r:RS Hs0 H0 Hs H σ ε):∀ {l:List Nat} {cs:List PV},shs ε l=some cs->∃ cv,(l.map fun i=>σ[i]?)=cv.map (fun v=>some (some v))/\Reps Hs cs cv
 | [],_,h=>by cases h;exact ⟨[],rfl,.nil⟩
 | i::l,cs,h=>by
  unfold shs at h
  split at h
  ·rename_i x hx
   obtain ⟨r',h2,rfl⟩:=Option.map_eq_some_iff.mp h
   obtain ⟨v,e1,e2⟩:=r.sh i x hx
   obtain ⟨cv,e3,e4⟩:=GO r h2
   exact ⟨v::cv,by rw [List.map_cons,List.map_cons,e1,e3],.cons e2 e4⟩
  ·cases h
def Jy (fi:List Nat)(as:MA)(kb:M):M:=fun ε=>(shs ε fi).bind fun cs=>(as ε).bind (Vf fun x=>kb (.sh x::cs.map .sh))
instance {fi:List Nat}[sa:xl t as][sb:SemE tb kb]:xM (Kg K fi t tb) (Jy fi as kb) where
 h:=fun {ε y} h {Hs0 H0 Hs H σ} rs {Q} q=>by
  obtain ⟨cs,h0,h⟩:=Option.bind_eq_some_iff.mp h
  obtain ⟨ys,h1,h2⟩:=Option.bind_eq_some_iff.mp h
  unfold Vf at h2
  split at h2
  ·rename_i xs
   obtain ⟨ks,h3,h4⟩:=Option.bind_eq_some_iff.mp h2
   split at h4
   ·rename_i hc
    cases h4
    obtain ⟨cv,ec,rc⟩:=GO rs h0
    refine sa.h h1 rs fun vs Hs1 H1 x1 r1=>?_
    obtain ⟨v,w,rfl,p1,p2⟩:=reps_cons.mp r1
    cases reps_nil.mp p2
    obtain ⟨a,xv,rfl,e1,e2⟩:=rep_lst.mp p1
    have lx:xv.length=xs.length:=e2.length
    have lk:ks.length=xs.length:=Ul h3
    refine ⟨a,xv,qG ks,cv,rfl,ec,SqL.of (x1.s3 _ _ e1),by omega,fun i x hx H' Q' g hq=>?_,fun D l H' g n pm pw=>?_⟩
    ·have hi:i < xs.length:=by
      rcases Nat.lt_or_ge i xv.length with z | z
      ·omega
      ·rw [List.getElem?_eq_none z] at hx;cases hx
     obtain ⟨x',e3,e4⟩:=e2.get (i:=i) (x:=xs[i]) (List.getElem?_eq_getElem hi)
     rw [hx] at e3
     cases e3
     obtain ⟨k,e5,e6⟩:=Uk h3 (List.getElem?_eq_getElem hi)
     have ek:qG ks i=k:=by unfold qG;simp [e5]
     have st:=vy (N:=List.replicate (([x]++cv).length) "") (xs:=xs[i]::cs) (vs:=x::cv) (show Same Hs1 H' from fun b o e=>g b o (x1.s3 b o e)) (.cons e4 (rc.mono x1.s1))
     have lc:cv.length=cs.length:=rc.length
     refine sb.h e6 (σ:=([x]++cv).map some) (Hs0:=Hs1) (H0:=H') (Hs:=Hs1) ?_ fun v Hs2 H2 x2 r2=>?_
     ·simpa [L2.start,lc] using st
     ·obtain ⟨p,us,rfl,e7,e8⟩:=rep_tup.mp r2
      have e9:=e8
      rw [show [PV.at (.int k.1),PV.at (.str k.2)]=[V.int k.1,V.str k.2].map .at from rfl] at e9
      cases Reps.ats e9
      exact hq p H2 (fun b o e=>x2.s2 b o e) (by rw [ek];exact x2.s3 _ _ e7)
    ·have el:l=jE ks:=Nc hc.2 (by rw [lk,<- lx];exact pm) pw
     subst el
     have nH1:H1 D=none:=by
      cases z:H1 D with
      | none=>rfl
      | some o=>rw [g D o z] at n;cases n
     have nH:H D=none:=x1.s2.free nH1
     have nS:Hs1 D=none:=x1.s3.free nH1
     refine q D Hs1 _ (x1.trans ⟨.refl _,fun b o e=>?_,fun b o e=>?_,fun _ _ z=>z⟩) nH nS ⟨_,y4,GE e2 fun i hi=>?_⟩
     ·rw [j3 (y7 (g b o e) n)];exact g b o e
     ·have e':=g b o (x1.s3 b o e)
      rw [j3 (y7 e' n)];exact e'
     ·have:=List.mem_range.mp ((QR ks).mem_iff.mp hi)
      omega
   ·cases h4
  ·cases h2
end
end Mi
namespace Mi
open PySem L2 PyProof.Rows
section
variable {P:Program}{w:World}{K:Fg}{mg:Str->Option Value}{base:Heap}
theorem okOC {x qual:Str}{st:Stmt}{f:Addr}{fd:FuncData}{N ps:List Str}{k:Nat}{b:MS}{m:List PV->Option PV}(F:Fun K x qual st f fd)(S:w4 N ps (z9 st))(hm:m=qt N.length ps.length b)
  (hb:∀ (A:Around) (outer:List Env) (s:Shared) (H:Hp) (E:XK),Room k (A.deeper (envOfC qual (z9 st) s.heap.objs.size f fd.code)) ->
   ∃ t,PSs (xb v5 P w K mg base N qual (z9 st) f fd.code A outer s H E).nox (qi st) t/\qp true t b):FnOk P w K mg base v5 (k + 1) f fd ps (m4 m):=by
 subst hm
 refine F.okC S (fun vs H Q E h=>?_) (fun A outer s H vs Q E hr h=>?_)
 ·obtain ⟨Hs,xs,y,_,r,e,_⟩:=h
  unfold qt at e
  split at e
  ·rename_i hl;rw [r.length];exact hl
  ·cases e
 ·obtain ⟨Hs,xs,y,sm,r,e,q⟩:=h
  obtain ⟨t,ht,sem⟩:=hb A outer s H E hr
  refine ⟨t,ht,?_⟩
  unfold qt at e
  split at e
  ·rename_i hl
   obtain ⟨o,eo,e1⟩:=bind_some e
   refine sem.h eo (by rw [<- hl];exact vy sm r) ?_
   cases o with
   | rt z=>cases e1;exact fun a Hs' H' x n n' t=>q a Hs' H' x n n' t
   | nx ε=>cases e1
   | bk ε=>cases e1
   | ct ε=>cases e1
  ·cases e
end
end Mi
namespace L2
open PySem PySem.Spec PyProof.Rows
section
variable {X:Cx}
def ipM:TIp:=fun x y H Q=>∃ i j,x = .int i/\y = .int j/\zP i j/\Q (.int (i * j)) H
theorem PN:PIp X .Mult ipM:=by
 intro pins s σ H x y v u Q I r1 r2 h
 obtain ⟨i,j,e1,e2,c,q⟩:=h
 subst e1;subst e2
 obtain ⟨t,rfl⟩:=r1
 obtain ⟨t',rfl⟩:=r2
 exact imul_int ⟨.int _,H,I.tok _,⟨_,rfl⟩,q⟩ (IntMulOk.of_bits c.1 c.2)
end
end L2
namespace Mi
open PySem L2
def pIpM:PV->PV->Option PV
 | .at (.int i),.at (.int j)=>if zP i j then some (.at (.int (i * j))) else none
 | _,_=>none
instance {fr:Bool}{i:Nat}{te:TE}{a:M}[sa:SemE te a]:qp fr (tAug i te ipM) (dAug i pIpM a) where
 h:=fun e _ _ _ _ _ rs _ q=>by
  obtain ⟨x,ex,e1⟩:=bind_some e
  obtain ⟨y,ey,e2⟩:=bind_some e1
  obtain ⟨z,ez,e3⟩:=bind_some e2
  cases e3
  unfold pIpM at ez
  split at ez
  ·split at ez
   ·rename_i hc
    cases ez
    unfold q9 at ex
    split at ex
    ·rename_i w hw
     cases ex
     obtain ⟨v,hv,rv⟩:=rs.sh i _ hw
     cases rep_at.mp rv
     refine ⟨_,hv,sa.h ey rs fun u Hs1 H1 x1 r1=>?_⟩
     cases rep_at.mp r1
     exact ⟨_,_,rfl,rfl,hc,q _ _ _ ((rs.go x1).put (rep_at.mpr rfl))⟩
    ·cases ex
   ·cases ez
  ·cases ez
end Mi
namespace L2
open PySem PySem.Spec PyProof.Rows
section
variable {X:Cx}{K:Fg}
def Gk (K:Fg):V->List V->Hp->VK->Prop:=fun o vs H Q=>∃ p xs x j,o = .ref p/\vs=[x]/\SqL K H p xs/\y8 x=true/\xs.all y8=true/\xs.length<=1000000/\(xs[j]?.map fun y=>qf y x)=some true/\(∀ (m:Nat) (y:V),m < j->xs[m]?=some y->qf y x=false)/\Q (.int j) H
theorem JC {x:V}:∀ {xs:List V} {us:List Value} {i:Nat} {y:V},Vals xs us->xs.all y8=true->xs[i]?=some y->∃ u,us[i]?=some u/\eqU x u=qf y x
 | _,_,_,_,.nil,_,h=>by simp at h
 | z::xs,u::us,0,y,.cons r t,f,h=>by
  rw [List.all_cons,Bool.and_eq_true] at f
  cases h
  exact ⟨u,rfl,JB r f.1⟩
 | z::xs,u::us,i + 1,y,.cons r t,f,h=>by
  rw [List.all_cons,Bool.and_eq_true] at f
  exact JC (i:=i) t f.2 (by simpa using h)
theorem UD (hK:X.K=K):MtM X "list.index" (Gk K):=by
 subst hK
 intro pins s σ H o vs v us Q I ro rv h
 obtain ⟨p,xs,x,j,rfl,rfl,hq,fx,fs,hl,hj,hno,q⟩:=h
 cases ro
 obtain ⟨u,rfl,ru⟩:=rv.one
 obtain ⟨its,r,⟨⟨cls,dd,data,sl⟩,n,ho,hc,hd,hs⟩,hz⟩:=I.list hq
 simp only at hc hd hs
 subst hc hd hs
 obtain ⟨y,hy,hyt⟩:=Option.map_eq_some_iff.mp hj
 obtain ⟨w,hw,ew⟩:=JC (x:=x) r fs hy
 have hlen:=r.length
 have jl:j < its.length:=(List.getElem?_eq_some_iff.mp hw).1
 have ej:its.toArray[j]'(by simpa using jl)=w:=by
  have:=(List.getElem?_eq_some_iff.mp hw).2
  simpa using this
 refine call_meets F.slot_list_index ⟨_,ho,rfl⟩ F.entry_list_index (F.args_list_index_2 _ _)
  (SeqAt.list_indexAt p its.toArray n none sl u (eqU x) j (by simpa using jl) (by omega) (by rw [ej,ew];exact hyt) (fun m hm hmj=>?_)) ⟨ho,fun w hw=>XO ru fx r fs w (by simpa using hw),?_⟩
 ·have ml:m < its.length:=by simpa using hm
  obtain ⟨z,hz⟩:∃ z,xs[m]?=some z:=⟨xs[m]'(by omega),List.getElem?_eq_getElem _⟩
  obtain ⟨w2,hw2,ew2⟩:=JC (x:=x) r fs hz
  have:its.toArray[m]'hm=w2:=by
   have:=(List.getElem?_eq_some_iff.mp hw2).2
   simpa using this
  rw [this,ew2]
  exact hno m z hmj hz
 ·exact ⟨.int j,H,I.kept (t':=s.toks + 1) fun b o e=>e,⟨_,rfl⟩,q⟩
theorem Nq (l b:Addr)(i j:Int)(x y:Str)(t u t' u':Tok)(n n2:Nat)(dd dd2:Option Addr)(sl sl2:Array (Option Value)) :
  Meets (Builtin.«tuple.__lt__» ⟨[.ref l,.ref b],[]⟩)
   (fun _ R s=>s.heap.get? l=some { cls:= .type "tuple",dict:=dd,data:= .seq #[.int i t,.str x u] n,slots:=sl }/\s.heap.get? b=some { cls:= .type "tuple",dict:=dd2,data:= .seq #[.int j t',.str y u'] n2,slots:=sl2 } /\
    R (.ok (.ret (.bool (y0 (i,x) (j,y))))) s) :=
 .of_wp fun prog w A R s h=>by
  obtain ⟨hp,g,d,tk,os⟩:=s
  obtain ⟨hl,hb,h⟩:=h
  have f2:=AutoSeq1.sub_tuple_tuple
  wp_walk using wpAny_loadPart' hl,wpAny_loadPart' hb
  show wpAny _ _ (eqBool (.int i t) (.int j t')) _ _ _
  refine wpAny_eqBool_int ?_
  by_cases e:i=j
  ·subst e
   rw [beq_self_eq_true]
   wp_walk
   show wpAny _ _ (eqBool (.str x u) (.str y u')) _ _ _
   refine wpAny_eqBool_str ?_
   by_cases e2:x=y
   ·subst e2
    rw [decide_eq_true rfl]
    wp_walk
    refine ⟨_,rfl,?_⟩
    have z:y0 (i,x) (i,x)=false:=(wg fun _=>(i,x)).irr 0
    rw [z] at h
    exact h
   ·rw [decide_eq_false e2]
    refine wpAny_bind (wpAny_rule (wpAny_bind (show wpAny _ _ (richCompare .Lt (.str x u) (.str y u')) _ _ _ from PyProof.Rows.lt_str ?_)))
    wp_walk
    refine ⟨_,rfl,?_⟩
    have z:y0 (i,x) (i,y)=decide (x.cps.toList < y.cps.toList):=by
     unfold y0
     simp
    rw [z] at h
    exact h
  ·have e':(i == j)=false:=by simpa using e
   rw [e']
   refine wpAny_bind (wpAny_rule (wpAny_bind (show wpAny _ _ (richCompare .Lt (.int i t) (.int j t')) _ _ _ from PyProof.Rows.lt_int ?_)))
   wp_walk
   refine ⟨_,rfl,?_⟩
   have z:y0 (i,x) (j,y)=decide (i < j):=by
    unfold y0
    simp [e']
   rw [z] at h
   exact h
end
end L2
namespace L2
open PySem PySem.Spec PyProof.Rows
section
variable {X:Cx}{K:Fg}
def rLtP (K:Fg):R2:=fun x y H Q=>∃ p q i a j b,x = .ref p/\y = .ref q/\SqT K H p [.int i,.str a]/\SqT K H q [.int j,.str b]/\Q (.bl (y0 (i,a) (j,b))) H
theorem KB {i:Int}{a:Str}{us:List Value}(r:Vals [.int i,.str a] us):∃ t u,us=[.int i t,.str a u]:=by
 cases r with
 | cons p q =>
  cases q with
  | cons p' q' =>
   cases q'
   obtain ⟨t,rfl⟩:=p
   obtain ⟨u,rfl⟩:=p'
   exact ⟨t,u,rfl⟩
theorem UM (hu:X.A.units + 1 < cLine)(hK:X.K=K):OpR X (compareOp .Lt) (rLtP K):=by
 subst hK
 intro pins s σ H x y v u Q I rx ry h
 obtain ⟨p,q,i,a,j,b,rfl,rfl,h1,h2,k⟩:=h
 cases rx
 cases ry
 obtain ⟨its,r,hl,_⟩:=I.tuple h1
 obtain ⟨its2,r2,hl2,_⟩:=I.tuple h2
 obtain ⟨t,u,rfl⟩:=KB r
 obtain ⟨t',u',rfl⟩:=KB r2
 obtain ⟨⟨cls,dd,data,sl⟩,ho,hc,n,hd⟩:=id hl
 obtain ⟨⟨cls2,dd2,data2,sl2⟩,ho2,hc2,n2,hd2⟩:=id hl2
 simp only at hc hd hc2 hd2
 subst hc hd hc2 hd2
 exact richCompare_meets_room (op:= .Lt) ⟨_,ho,rfl⟩ ⟨_,ho2,rfl⟩ F.slot_tuple_lt F.entry_tuple_lt (F.args_tuple_lt_2 _ _) (Nq p q i j a b t u t' u' n n2 dd dd2 sl sl2)
  ⟨ho,ho2,show Value.bool (y0 (i,a) (j,b)) ≠ Value.notImplemented/\EP X pins σ Q (.bool (y0 (i,a) (j,b))) s from ⟨(fun x=>nomatch x),.bl _,H,I,rfl,k⟩⟩ (by omega)
end
end L2
namespace Mi
open PySem L2
variable {fr:Bool}
def pLtP:PV->PV->Option PV
 | .tup [.at (.int i),.at (.str x)],.tup [.at (.int j),.at (.str y)]=>some (.at (.bl (y0 (i,x) (j,y))))
 | _,_=>none
theorem GD {H:Hp}{i:Int}{x:Str}{vs:List V}(r:Reps H [.at (.int i),.at (.str x)] vs):vs=[.int i,.str x]:=Reps.ats (us:=[.int i,.str x]) r
instance {K:Fg}:xm (rLtP K) pLtP where
 h:=fun {x y z} e {Hs H v w} s a b {Q} q=>by
  unfold pLtP at e
  split at e
  ·cases e
   obtain ⟨p,vs,rfl,e1,r1⟩:=xg s a
   obtain ⟨p',ws,rfl,e2,r2⟩:=xg s b
   rw [GD r1] at e1
   rw [GD r2] at e2
   exact ⟨p,p',_,_,_,_,rfl,rfl,SqT.of e1,SqT.of e2,q _ _ _ (.refl s) (rep_at.mpr rfl)⟩
  ·cases e
def pRep:PV->PV->Option PV
 | .lst xs,.at (.int k)=>if -(lim:Int)<=k/\k<=lim/\xs.length * k.toNat<=lim then some (.lst (List.replicate k.toNat xs).flatten) else none
 | _,_=>none
theorem Reps.rep {H:Hp}{xs:List PV}{vs:List V}(r:Reps H xs vs):∀ k:Nat,Reps H (List.replicate k xs).flatten (List.replicate k vs).flatten
 | 0=> .nil
 | k + 1=>by
  rw [List.replicate_succ,List.replicate_succ,List.flatten_cons,List.flatten_cons]
  exact r.append (Reps.rep r k)
instance:VT rRep pRep where
 h:=fun {x y z} e {Hs H v w} s a b {Q} q=>by
  unfold pRep at e
  split at e
  ·split at e
   ·rename_i xs k hl
    cases e
    obtain ⟨p,vs,rfl,e1,r1⟩:=qy s a
    cases p8 b
    have hlim:(lim:Int)=1000000:=rfl
    exact ⟨p,k,vs,rfl,rfl,e1,by omega,by omega,xQ (by rw [r1.length];exact hl.2.2),fun l hl=>q l _ _ (.newO s hl) hl (s.free hl) ⟨_,y4,r1.rep _⟩⟩
   ·cases e
  ·cases e
def vX (u:V):List V->Option Nat
 | []=>none
 | y::ys=>if qf y u=true then some 0 else (vX u ys).map (· + 1)
theorem Ua {u:V}:∀ {us:List V} {j:Nat},vX u us=some j->(us[j]?.map fun y=>qf y u)=some true/\∀ (m:Nat) (y:V),m < j->us[m]?=some y->qf y u=false
 | [],_,h=>by cases h
 | y::ys,j,h=>by
  unfold vX at h
  split at h
  ·rename_i hy
   cases h
   exact ⟨by simp [hy],fun m y hm=>absurd hm (Nat.not_lt_zero _)⟩
  ·rename_i hy
   obtain ⟨k,hk,rfl⟩:=Option.map_eq_some_iff.mp h
   obtain ⟨h1,h2⟩:=Ua hk
   refine ⟨by simpa using h1,fun m z hm hz=>?_⟩
   cases m with
   | zero =>
    cases hz
    simpa using hy
   | succ m=>exact h2 m z (by omega) (by simpa using hz)
def zY (a b:M):M:=fun ε=>(a ε).bind fun x=>(b ε).bind fun y=>match x,y with
 | .lst xs,.at u=>(ats xs).bind fun us=>if y8 u=true/\us.all y8=true/\us.length<=lim then (vX u us).map fun (j:Nat)=>PV.at (.int (j:Int)) else none
 | _,_=>none
instance {K:Fg}{to te:TE}{a b:M}[sa:qc to a][sb:SemE te b]:SemE (tBM K "list" (Gk K) to (xC te xU)) (zY a b) where
 h:=fun e _ _ _ _ _ rs _ q=>by
  obtain ⟨x,ex,e⟩:=bind_some e
  obtain ⟨y,ey,e⟩:=bind_some e
  split at e
  ·rename_i xs u
   obtain ⟨us,eu,e⟩:=bind_some e
   split at e
   ·rename_i hf
    obtain ⟨j,hj,rfl⟩:=Option.map_eq_some_iff.mp e
    refine sa.h ex rs fun v Hs1 H1 x1 r1=>?_
    obtain ⟨p,vs,rfl,e1,r2⟩:=qy x1.s3 r1
    rw [Xe eu] at r2
    cases r2.ats
    refine ⟨.inl ⟨rfl,_,SqL.of e1⟩,sb.h ey (rs.go x1) fun w Hs2 H2 x2 r3=>?_⟩
    cases rep_at.mp r3
    obtain ⟨j1,j2⟩:=Ua hj
    exact ⟨p,us,_,j,rfl,rfl,SqL.of (x2.s2 _ _ e1),hf.1,hf.2.1,hf.2.2,j1,j2,q _ _ _ (x1.trans x2) (rep_at.mpr rfl)⟩
   ·cases e
  ·cases e
def zO (xs:List PV)(k:Int)(y:PV):Option (List PV):=(ixN xs.length k).map fun j=>xs.set j y
def dSetAt (i:Nat)(kk vv:M):MS:=fun ε=>(vv ε).bind fun y=>(kk ε).bind fun x=>match x,ε[i]? with
 | .at (.int k),some (.ow (.lst xs))=>(zO xs k y).bind fun ys=>some (.nx (ε.set i (.ow (.lst ys))))
 | _,_=>none
theorem Vv {H:Hp}{xs ys:List PV}{k:Int}{y:PV}{vs:List V}{v:V}(h:zO xs k y=some ys)(r:Reps H xs vs)(ry:Rep H y v):∃ j,ixN vs.length k=some j/\Reps H ys (vs.set j v):=by
 obtain ⟨j,hj,rfl⟩:=Option.map_eq_some_iff.mp h
 exact ⟨j,by rw [r.length];exact hj,r.set ry j⟩
theorem vq {σ:St}{i:Nat}{p p':Addr}(hp:σ[i]?=some (some (V.ref p)))(hp':σ[i]?=some (some (V.ref p'))):p=p':=by
 rw [hp] at hp'
 injection hp' with hp';injection hp' with hp';injection hp' with hp'
def wK (i:Nat)(kk vv:M):WS:=fun ε N _=>∃ y k xs ys,vv ε=some y/\kk ε=some (.at (.int k))/\ε[i]?=some (.ow (.lst xs))/\zO xs k y=some ys/\N (ε.set i (.ow (.lst ys)))
instance {i:Nat}{ty tv:TE}{kk vv:M}[sk:SemE ty kk][sv:SemE tv vv]:SemWS (zw tv (gSub (qW i) ty Zf)) (wK i kk vv) where
 h:=fun ⟨y,k,xs,ys,ey,ex,hi,es,h⟩ _ _ _ _ _ _ rd _ q _=>by
  refine sv.h ey rd.rs fun v Hs1 H1 x1 r1=>?_
  obtain ⟨p,hp,n0,n,t⟩:=(rd.go x1).ow i _ hi
  refine ⟨_,hp,sk.h ex (rd.go x1).rs fun w Hs2 H2 x2 r2=>?_⟩
  obtain ⟨p',hp',_,n2,vs,hv,hr⟩:=((rd.go x1).go x2).ow i _ hi
  cases vq hp hp'
  cases rep_at.mp r2
  obtain ⟨j,hj,hr'⟩:=Vv es hr (r1.mono x2.s1)
  exact ⟨p,vs,k,j,rfl,rfl,hv,hj,q _ _ _ _ h (((rd.go x1).go x2).change hi hp ⟨_,y4,hr'⟩) (x1.s1.trans x2.s1)⟩
instance {i:Nat}{kk vv:M}:xk (wK i kk vv) where
 h:=fun k _ ⟨y,x,xs,ys,a,b,c,d,e⟩=>⟨y,x,xs,ys,a,b,c,d,k _ e⟩
def Qb (i:Nat)(a b k1 k2:M):MS:=fun ε=>(a ε).bind fun x=>(b ε).bind fun y=>(k1 ε).bind fun p=>match p,ε[i]? with
 | .at (.int k),some (.ow (.lst xs))=>(zO xs k x).bind fun ys=>(k2 (ε.set i (.ow (.lst ys)))).bind fun r=>match r with
  | .at (.int m)=>(zO ys m y).bind fun zs=>some (.nx ((ε.set i (.ow (.lst ys))).set i (.ow (.lst zs))))
  | _=>none
 | _,_=>none
instance {K:Fg}{i:Nat}{ta tb t1 t2:TE}{a b k1 k2:M}[sa:SemE ta a][sb:SemE tb b][s1:SemE t1 k1][s2:SemE t2 k2]:qp fr (zw (tTup (xC ta (xC tb xU))) (gTup K 2 (Qg (gSub (qW i) t1 Zf) (Qg (gSub (qW i) t2 Zf) gNil)))) (Qb i a b k1 k2) where
 h:=fun e _ _ _ _ _ rs _ q=>by
  obtain ⟨x,ex,e⟩:=bind_some e
  obtain ⟨y,ey,e⟩:=bind_some e
  obtain ⟨p1,e1,e⟩:=bind_some e
  split at e
  ·rename_i k xs hi
   obtain ⟨ys,es,e⟩:=bind_some e
   obtain ⟨p2,e2,e⟩:=bind_some e
   split at e
   ·rename_i m
    obtain ⟨zs,ez,e⟩:=bind_some e
    cases e
    refine sa.h ex rs fun v Hs1 H1 x1 r1=>sb.h ey (rs.go x1) fun w Hs2 H2 x2 r2=>⟨by show 2<=sizeLine;decide,fun t ht=>?_⟩
    have x3:Ext Hs2 H2 (j7 Hs2 t (.tup [v,w])) (j7 H2 t (.tup [v,w])):= .new x2.s3 ht
    have rs3:=((rs.go x1).go x2).go x3
    refine ⟨t,[v,w],rfl,SqT.of y4,rfl,v,[w],rfl,?_⟩
    obtain ⟨p,hp,n0,n,tt⟩:=rs3.ow i _ hi
    refine ⟨_,hp,s1.h e1 rs3 fun u Hs4 H4 x4 r4=>?_⟩
    have rs4:=rs3.go x4
    obtain ⟨p',hp',_,n2,vs,hv,hr⟩:=rs4.ow i _ hi
    cases vq hp hp'
    cases rep_at.mp r4
    obtain ⟨j,hj,hr'⟩:=Vv es hr (r1.mono (x2.s1.trans (x3.s1.trans x4.s1)))
    refine ⟨p,vs,k,j,rfl,rfl,hv,hj,w,[],rfl,?_⟩
    have rs5:=rs4.change hi hp (o:= .lst (vs.set j v)) (y:= .lst ys) ⟨_,y4,hr'⟩
    have hi5:(List.set _ i (MSlot.ow (.lst ys)))[i]?=some (.ow (.lst ys)):=List.getElem?_set_self (List.getElem?_eq_some_iff.mp hi).1
    obtain ⟨p5,hp5,_,_,_⟩:=rs5.ow i _ hi5
    refine ⟨_,hp5,s2.h e2 rs5 fun u Hs6 H6 x6 r6=>?_⟩
    have rs6:=rs5.go x6
    obtain ⟨p6,hp6,_,n6,ws,hw,hr6⟩:=rs6.ow i _ hi5
    cases vq hp5 hp6
    cases rep_at.mp r6
    obtain ⟨j6,hj6,hr7⟩:=Vv ez hr6 (r2.mono (x3.s1.trans (x4.s1.trans x6.s1)))
    exact ⟨p5,ws,m,j6,rfl,rfl,hw,hj6,rfl,q _ _ _ (rs6.change hi5 hp5 ⟨_,y4,hr7⟩)⟩
   ·cases e
  ·cases e
end Mi
namespace Mi
open PySem L2
def Jh (σ:St)(ε:ME)(a:Addr):Prop:=∀ (j:Nat) (z:PV),ε[j]?=some (.ow z)->σ[j]? ≠ some (some (.ref a))
theorem RD.newIn {S:List Addr}{Hs0 H0 Hs H:Hp}{σ:St}{ε:ME}(r:RD S Hs0 H0 Hs H σ ε){a:Addr}(h:H a=none):Jh σ ε a:=fun j z hj e=>by
 obtain ⟨b,hb,_,_,tb⟩:=r.ow j z hj
 cases vq e hb
 exact tb.there h
class VU (te:TE)(w:W):Prop where
 h:∀ {ε Q'},w ε Q'->∀ {S Hs0 H0 Hs H σ},RD S Hs0 H0 Hs H σ ε->∀ {Q:VK},(∀ y ε' a Hs' H',Q' y ε'->RD S Hs0 H0 Hs' H' σ ε'->Same Hs Hs'->H0 a=none->Hs' a=none->Jh σ ε' a->Top Hs' H' a y->Q (.ref a) H')->te σ H Q
instance {wi:TI}{tg:TG}{ts:List Nat}{tt:TT}{te:TE}{cap:List (Option Nat)}{it:WA}{g:MG}{c:WT}{f:W}[si:SemWI wi it][sg:Jj tg ts g][sc:zS tt c][sf:SemW te f]:VU (QT wi tg tt te cap) (zy cap ts it g c f) where
 h:=fun {ε Q'} h S Hs0 H0 Hs H σ rd Q k=>si.h h rd fun xs ε1 J Hs1 H1 h1 rd1 g1 ok=>by
  obtain ⟨hcap,hl,h1⟩:=h1
  unfold ju at hcap
  rw [Bool.and_eq_true] at hcap
  have hnd:=of_decide_eq_true hcap.1
  have wk:∀ i ∈ ts,(m6 cap σ)[i]?=some none:=fun i hi=>by
   unfold m6
   rw [List.getElem?_map,of_decide_eq_true (List.all_eq_true.mp hcap.2 i hi)]
   rfl
  refine ⟨fun n m zs H=>m=xs.length - n/\n<=xs.length/\∃ Hs2 ws ε2,RD [] Hs1 (xH (m6 cap σ) (qd cap ε1) H1) Hs2 H (m6 cap σ) ε2/\Reps Hs2 ws zs/\ws.length<=n /\
    jj g c f ts (xs.drop n) ws ε2 (fun ys ε3=>((∃ y:PV,ε1[0]?=some (MSlot.ow y))->∃ y:PV,(qo cap ε3 ε1)[0]?=some (MSlot.ow y))/\Q' (PV.lst ys) (qo cap ε3 ε1)),
   ⟨xs.length,by simp,Nat.zero_le _,Hs1,[],_,rd1.block hnd,.nil,Nat.le_refl _,h1⟩,?_⟩
  rintro n m zs H2 ⟨rfl,hn,Hs2,ws,ε2,r2,rz,hw,h2⟩
  refine ⟨xQ (by rw [rz.length];omega),?_⟩
  by_cases hlt:n < xs.length
  ·have hd:xs.drop n=xs[n]::xs.drop (n + 1):=List.drop_eq_getElem_cons hlt
   rw [hd] at h2
   obtain ⟨ε3,e3,h3⟩:=h2
   obtain ⟨go,yl⟩:=ok.go n xs[n] Hs2 H2 (by simp [hlt]) r2.s1 r2.s3
   refine .inr ⟨go,fun v H3 y=>?_⟩
   obtain ⟨Hs3,x3,r3⟩:=yl v H3 y
   refine sg.h e3 (r2.go x3) r3 fun σ4 rd4 bt=>⟨bt.wk wk,sc.h h3 rd4 fun b ε5 Hs5 H5 h5 rd5 g5=>?_⟩
   cases b with
   | true =>
    refine xZ (sf.h (by simpa using h5) rd5 fun y ε6 u Hs6 H6 h6 rd6 g6 ru=>⟨xs.length - (n + 1),by omega,rfl,hlt,Hs6,ws++[y],_,rd6.reset bt,?_,by rw [List.length_append];simp;omega,h6⟩)
    exact (rz.mono (x3.s1.trans (g5.trans g6))).snoc ru
   | false=>exact xY ⟨xs.length - (n + 1),by omega,rfl,hlt,Hs5,ws,_,rd5.reset bt,rz.mono (x3.s1.trans g5),by omega,by simpa using h5⟩
  ·have en:n=xs.length:=by omega
   subst en
   rw [List.drop_length] at h2
   refine .inl ⟨ok.stop Hs2 H2 r2.s1 r2.s3,fun D hD=>?_⟩
   have rd2:=rd1.unblock hnd r2 h2.1
   exact k _ _ D _ _ h2.2 (rd2.go (.newO rd2.s3 hD)) (g1.trans r2.s1) (rd2.free0 hD) (rd2.s3.free hD) (rd2.newIn hD) ⟨zs,y4,rz⟩
class NoRet (w:WS):Prop where
 h:∀ {ε:ME} {N:ME->Prop} {R R':PV->ME->Prop},w ε N R->w ε N R'
instance:NoRet xp where h:=fun h=>h
instance {i:Nat}{a:W}:NoRet (t6 i a) where h:=fun h=>h
instance {i:Nat}{f:M}:NoRet (jk i f) where h:=fun h=>h
instance {c:WT}{a b:WS}[C:zg c][A:NoRet a][B:NoRet b]:NoRet (qX c a b) where h:=fun h=>C.h (fun _ _ h1=>Qk (fun h2=>A.h h2) (fun h2=>B.h h2) h1) h
class SemWSO (ts:TS)(w:WS):Prop where
 h:∀ {ε N R},w ε N R->∀ {S Hs0 H0 Hs H σ},RD S Hs0 H0 Hs H σ ε->∀ {D:xV},(∀ ε' σ' Hs' H',N ε'->RD S Hs0 H0 Hs' H' σ' ε'->Same Hs Hs'->D.nx σ' H') ->
  (∀ y ε' σ' a Hs' H',R y ε'->RD S Hs0 H0 Hs' H' σ' ε'->Same Hs Hs'->H0 a=none->Hs' a=none->Jh σ' ε' a->Top Hs' H' a y->D.rt (.ref a) H')->ts D σ H
instance {t u:TS}{a b:WS}[sa:SemWS t a][nr:NoRet a][sb:SemWSO u b]:SemWSO (tSeq t u) (wSeq a b) where
 h:=fun h _ _ _ _ _ _ rd _ k r=>sa.h (nr.h (R':=fun _ _=>False) h) rd (fun ε1 σ1 Hs1 H1 h1 rd1 g1=>sb.h h1 rd1 (fun ε2 σ2 Hs2 H2 h2 rd2 g2=>k ε2 σ2 Hs2 H2 h2 rd2 (g1.trans g2)) fun y ε2 σ2 v Hs2 H2 h2 rd2 g2=>r y ε2 σ2 v Hs2 H2 h2 rd2 (g1.trans g2)) fun _ _ _ _ _ _ z=>z.elim
instance {te:TE}{a:W}[sa:VU te a]:SemWSO (wI te) (qY a) where
 h:=fun h _ _ _ _ _ _ rd _ _ r=>sa.h h rd fun x ε1 a Hs1 H1 h1 rd1 g1=>r x ε1 _ a Hs1 H1 h1 rd1 g1
def spDO (pre:List PV->Prop)(R:List PV->PV->Prop):Sp:=fun vs H Q _=>∃ Hs a n xs ws,vs = .ref a::ws/\Same Hs H/\Hs a=none/\H a=some (.lst [.int n])/\Reps Hs xs ws/\pre xs /\
 ∀ y p n' Hs' H',R xs y->ExtD a Hs H Hs' H'->Hs' a=none->H' a=some (.lst [.int n'])->H p=none->Hs' p=none->Top Hs' H' p y->Q (.ref p) H'
def VO (i j:Nat)(pre:List PV->Prop)(R:List PV->PV->Prop)(as:WA):WS:=fun ε N _=>xo i ε/\as ε fun xs ε1=>xo i ε1/\pre xs/\∀ y n',R xs y->N ((ε1.set i (g0 n')).set j (.ow y))
instance {i j:Nat}{pre:List PV->Prop}{R:List PV->PV->Prop}{ta:TA}{as:WA}{E:XK}[sa:jr ta as]:SemWS (zw (ji (spDO pre R) [] E (xC (qW i) ta)) (xx (j + 1))) (VO i (j + 1) pre R as) where
 h:=fun h _ _ _ _ _ _ rd _ k _=>by
  obtain ⟨⟨n0,hn0⟩,h⟩:=h
  obtain ⟨p,hp,_⟩:=rd.strm_at hn0
  refine ⟨_,hp,sa.h h rd fun xs ε1 vs Hs1 H1 h1 rd1 g1 r1=>?_⟩
  obtain ⟨⟨n,hn⟩,hpre,h2⟩:=h1
  obtain ⟨p',hp',hH,hs,_⟩:=rd1.strm_at hn
  cases vq hp hp'
  refine ⟨Hs1,p,n,xs,vs,by rw [List.append_nil],rd1.s3,hs,hH,r1,hpre,fun y q n' Hs' H' hR x np ep nq nq' tq=>?_⟩
  refine k _ _ _ _ (h2 y n' hR) ((rd1.drawn hn hp x np ep).putO (.inl (rd1.free0 nq)) nq' tq fun j z hj e=>?_) (g1.trans x.s1)
  rw [List.getElem?_set] at hj
  split at hj
  ·rename_i hij
   subst hij
   cases vq hp e
   rw [hH] at nq
   cases nq
  ·exact rd1.newIn nq j z hj e
instance {i j:Nat}{pre:List PV->Prop}{R:List PV->PV->Prop}{a:WA}[A:jH a]:xk (VO i j pre R a) where h:=fun k _ h=>⟨h.1,A.h (fun _ _ ⟨h1,h2,h3⟩=>⟨h1,h2,fun y n r=>k _ (h3 y n r)⟩) h.2⟩
section
variable {P:Program}{w:World}{K:Fg}{mg:Str->Option Value}{base:Heap}
theorem okDO {x qual:Str}{st:Stmt}{f:Addr}{fd:FuncData}{N ps:List Str}{k:Nat}{b:WS}{pre:List PV->Prop}{R:List PV->PV->Prop}(F:Fun K x qual st f fd)(S:w4 N ps (z9 st))
  (hpre:∀ xs,pre xs->xs.length + 1=ps.length)
  (hb:∀ (cdv:Value) (A:Around) (outer:List Env) (s:Shared) (H:Hp) (E:XK),Room k (A.deeper (PyProof.Rows.envOfC qual (z9 st) s.heap.objs.size f cdv)) ->
   ∃ t,PSs (xb v5 P w K mg base N qual (z9 st) f cdv A outer s H E).nox (qi st) t/\SemWSO t b)
  (hw:∀ xs n,pre xs->b (g0 n::xs.map .sh++List.replicate (N.length - (xs.length + 1)) .no) (fun _=>False) fun y ε=>R xs y/\xo 0 ε):FnOk P w K mg base v5 (k + 1) f fd ps (spDO pre R):=by
 refine F.ok S (fun vs H Q E h=>?_) (fun cdv A outer s H vs Q E hr h=>?_)
 ·obtain ⟨Hs,a,n,xs,ws,rfl,_,_,_,r,hp,_⟩:=h
  rw [List.length_cons,r.length]
  exact hpre xs hp
 ·obtain ⟨Hs,a,n,xs,ws,rfl,sm,ha,hH,r,hp,q⟩:=h
  obtain ⟨t,ht,sem⟩:=hb cdv A outer s H E hr
  refine ⟨t,ht,sem.h (hw xs n hp) (Gx sm ha hH r) (fun ε σ Hs' H' z _ _=>z.elim) fun y ε σ p Hs' H' hR rd g n0 ns _ tp=>?_⟩
  obtain ⟨hR,n',hn'⟩:=hR
  obtain ⟨a',ha',hH',hs',_⟩:=rd.strm_at hn'
  cases vq (rd.pin a (List.mem_singleton.mpr rfl)) ha'
  exact q y p n' Hs' H' hR ⟨g,fun b o e hb=>rd.s2 b o e fun z=>hb (List.mem_singleton.mp z),rd.s3,fun b h z=>rd.s4 b h z⟩ hs' hH' n0 ns tp
end
end Mi
namespace Mi
open PySem L2
def fndR (g:MG)(f:MS)(xs:List PV)(ε:ME)(I:ME->Prop):Option PV->Prop
 | some y=>o3 g f xs ε=some (.rt y)
 | none=>∃ ε',o3 g f xs ε=some (.nx ε')/\I ε'
def stpR (f:MS)(ε:ME)(I:ME->Prop):Option PV->Prop
 | some y=>f ε=some (.rt y)
 | none=>∃ ε',f ε=some (.nx ε')/\I ε'
theorem JU {g:MG}{f:MS}{α:Type}(F:α->PV)(I:ME->Prop)(r:α->Option PV):∀ (l:List α) (_:∀ a ∈ l,∀ ε,I ε->∃ ε1,g (F a) ε=some ε1/\stpR f ε1 I (r a)) (ε:ME),I ε->fndR g f (l.map F) ε I (l.findSome? r)
 | [],_,ε,i=>⟨ε,rfl,i⟩
 | a::l,h,ε,i=>by
  obtain ⟨ε1,e1,s⟩:=h a List.mem_cons_self ε i
  have ih:=JU F I r l fun b hb=>h b (List.mem_cons_of_mem _ hb)
  rw [List.findSome?_cons]
  have st:∀ o,f ε1=some o->o3 g f ((a::l).map F) ε=match o with
   | .nx ε2=>o3 g f (l.map F) ε2
   | .ct ε2=>o3 g f (l.map F) ε2
   | .bk ε2=>some (.nx ε2)
   | .rt y=>some (.rt y):=fun o eo=>by
   show Option.bind (g (F a) ε) (fun ε1=>Option.bind (f ε1) fun o=>match o with
    | .nx ε2=>o3 g f (l.map F) ε2
    | .ct ε2=>o3 g f (l.map F) ε2
    | .bk ε2=>some (.nx ε2)
    | .rt y=>some (.rt y))=_
   rw [e1,Option.bind_some,eo]
   rfl
  cases hr:r a with
  | some y =>
   rw [hr] at s
   exact st _ s
  | none =>
   rw [hr] at s
   obtain ⟨ε2,e2,i2⟩:=s
   have:=st _ e2
   have q:=ih ε2 i2
   unfold fndR at q ⊢
   rw [this]
   exact q
theorem Pe {it:MA}{g:MG}{f:MS}{xs:List PV}{ε:ME}{I:ME->Prop}{o:Option PV}(h:it ε=some xs)(k:fndR g f xs ε I o):stpR (xt it g f) ε I o:=by
 cases o with
 | some y=>exact xP h k
 | none =>
  obtain ⟨ε',e,i⟩:=k
  exact ⟨ε',xP h e,i⟩
end Mi
namespace Lw
open PySem L2 Mi
variable {P:Program}{w:World}{K:Fg}{mg:Str->Option Value}{base:Heap}{f:Addr}{fd:FuncData}
theorem l0:0<=lim:=by decide
theorem l1:1<=lim:=by decide
theorem l2:2<=lim:=by decide
theorem l3:3<=lim:=by decide
theorem l4:4<=lim:=by decide
theorem l5:5<=lim:=by decide
theorem l6:6<=lim:=by decide
theorem l7:7<=lim:=by decide
theorem l8:8<=lim:=by decide
theorem l9:9<=lim:=by decide
structure xq (h:Nat)(rss:List (List Int)):Prop where
 len:rss.length=h + 1
 row:∀ r ∈ rss,r.length=h/\∀ v ∈ r,0<=v/\v < 10 ^ 30
def rin (rss:List (List Int))(f g:Int):Int:=((atI rss f).bind fun r=>atI r g).getD 0
def zB (rss:List (List Int)):Int->List Int->Int
 | _,[]=>0
 | f,h::r=>rin rss f h + zB rss h r
abbrev Wy:=Int × List Int
def zI (a b:Wy):Wy:=if b.1 < a.1 then b else a
def zi (a b:Wy):Wy:=(a.1 + b.1,a.2++b.2)
def thr (ws:List Wy)(k:Nat)(onw:List Wy):List Wy:=List.zipWith (fun w m=>zI w (zi (ws.getD k (0,[])) m)) ws onw
def qS (T:List (List Wy))(k:Nat):List (List Wy):=T.map fun row=>thr row k (T.getD k [])
def zu (row:List Int):List Wy:=row.mapIdx fun i v=>(v,[(i:Int)])
def o7 (rss:List (List Int)):Nat->List (List Wy)
 | 0=>rss.map zu
 | k + 1=>qS (o7 rss k) k
def y3 (T:List (List Wy))(f g:Nat):Wy:=(T.getD f []).getD g (0,[])
def jY (rss:List (List Int))(h:Nat):List (List Int):=(o7 rss h).map fun row=>row.map (·.1)
structure Shp (h:Nat)(T:List (List Wy)):Prop where
 len:T.length=h + 1
 row:∀ r ∈ T,r.length=h
theorem i7 {α:Type}{l:List α}{i:Nat}{d:α}(h:i < l.length):l.getD i d=l[i]:=by
 rw [List.getD_eq_getElem?_getD,List.getElem?_eq_getElem h]
 rfl
theorem Shp.rowAt {h:Nat}{T:List (List Wy)}(S:Shp h T){f:Nat}(hf:f<=h):(T.getD f []).length=h:=by
 have hl:f < T.length:=by have:=S.len;omega
 rw [i7 hl]
 exact S.row _ (List.getElem_mem hl)
theorem Kk {ws onw:List Wy}{k:Nat}(h:ws.length=onw.length):(thr ws k onw).length=ws.length:=by
 unfold thr
 rw [List.length_zipWith,h,Nat.min_self]
theorem Shp.step {h:Nat}{T:List (List Wy)}(S:Shp h T){k:Nat}(hk:k < h):Shp h (qS T k):=by
 refine ⟨by unfold qS;rw [List.length_map];exact S.len,fun r hr=>?_⟩
 unfold qS at hr
 obtain ⟨row,hm,rfl⟩:=List.mem_map.mp hr
 have e1:=S.row row hm
 rw [Kk (by rw [e1,S.rowAt (by omega)]),e1]
theorem vU {h:Nat}{T:List (List Wy)}(S:Shp h T){k f g:Nat}(hk:k < h)(hf:f<=h)(hg:g < h):y3 (qS T k) f g=zI (y3 T f g) (zi (y3 T f k) (y3 T k g)):=by
 have hl:f < T.length:=by have:=S.len;omega
 have hl2:f < (qS T k).length:=by unfold qS;rw [List.length_map];exact hl
 have e1:(qS T k).getD f []=thr (T.getD f []) k (T.getD k []):=by
  unfold qS
  rw [i7 (by rw [List.length_map];exact hl),List.getElem_map,i7 hl]
 have r1:=S.rowAt hf
 have r2:=S.rowAt (f:=k) (by omega)
 unfold y3
 rw [e1,i7 (by rw [Kk (by rw [r1,r2])];omega),i7 (l:=T.getD f []) (i:=g) (by omega),i7 (l:=T.getD k []) (i:=g) (by omega)]
 unfold thr
 rw [List.getElem_zipWith]
theorem Shp.start {h:Nat}{rss:List (List Int)}(G:xq h rss):Shp h (o7 rss 0):=by
 refine ⟨by show (rss.map zu).length=_;rw [List.length_map];exact G.len,fun r hr=>?_⟩
 obtain ⟨row,hm,rfl⟩:=List.mem_map.mp hr
 unfold zu
 rw [List.length_mapIdx]
 exact (G.row row hm).1
theorem Shp.all {h:Nat}{rss:List (List Int)}(G:xq h rss):∀ k,k<=h->Shp h (o7 rss k)
 | 0,_=>Shp.start G
 | k + 1,hk=>(Shp.all G k (by omega)).step (by omega)
theorem Vp {h:Nat}{rss:List (List Int)}(G:xq h rss){f g:Nat}(hf:f<=h)(hg:g < h):rin rss (f:Int) (g:Int)=(rss.getD f []).getD g 0:=by
 have hl:f < rss.length:=by have:=G.len;omega
 have e1:atI rss (f:Int)=some rss[f]:=jM (List.getElem?_eq_getElem hl)
 have hg2:g < rss[f].length:=by rw [(G.row _ (List.getElem_mem hl)).1];exact hg
 have e2:atI rss[f] (g:Int)=some rss[f][g]:=jM (List.getElem?_eq_getElem hg2)
 unfold rin
 rw [e1]
 show (atI rss[f] (g:Int)).getD 0=_
 rw [e2,i7 hl,i7 hg2]
 rfl
theorem Xn {h:Nat}{rss:List (List Int)}(G:xq h rss){f g:Nat}(hf:f<=h)(hg:g < h):y3 (o7 rss 0) f g=(rin rss (f:Int) (g:Int),[(g:Int)]):=by
 have hl:f < rss.length:=by have:=G.len;omega
 have hl2:f < (rss.map zu).length:=by rw [List.length_map];exact hl
 have hg2:g < rss[f].length:=by rw [(G.row _ (List.getElem_mem hl)).1];exact hg
 rw [Vp G hf hg]
 unfold y3
 show ((rss.map zu).getD f []).getD g (0,[])=_
 rw [i7 hl2,List.getElem_map,i7 (by unfold zu;rw [List.length_mapIdx];exact hg2),i7 hl,i7 hg2]
 unfold zu
 rw [List.getElem_mapIdx]
theorem Lb {h:Nat}{rss:List (List Int)}(G:xq h rss){f g:Nat}(hf:f<=h)(hg:g < h):0<=rin rss (f:Int) (g:Int):=by
 have hl:f < rss.length:=by have:=G.len;omega
 have hg2:g < rss[f].length:=by rw [(G.row _ (List.getElem_mem hl)).1];exact hg
 rw [Vp G hf hg,i7 hl,i7 hg2]
 exact ((G.row _ (List.getElem_mem hl)).2 _ (List.getElem_mem hg2)).1
theorem KI {rss:List (List Int)}:∀ {xs ys:List Int} {f g:Int},xs.getLast?=some g->zB rss f (xs++ys)=zB rss f xs + zB rss g ys
 | [],_,_,_,e=>by simp at e
 | [x],ys,f,g,e=>by
  have e':x=g:=by simpa using e
  subst e'
  show rin rss f x + zB rss x ys=rin rss f x + 0 + zB rss x ys
  omega
 | x::y::r,ys,f,g,e=>by
  have q:=KI (rss:=rss) (xs:=y::r) (ys:=ys) (f:=x) (g:=g) (by simpa [List.getLast?_cons_cons] using e)
  show rin rss f x + zB rss x (y::r++ys)=rin rss f x + zB rss x (y::r) + zB rss g ys
  rw [q]
  omega
structure WayOk (rss:List (List Int))(h:Nat)(f g:Nat)(w:Wy):Prop where
 sum:w.1=zB rss (f:Int) w.2
 last:w.2.getLast?=some (g:Int)
 ok:∀ x ∈ w.2,0<=x/\x < (h:Int)
structure FW (rss:List (List Int))(h k:Nat)(T:List (List Wy)):Prop where
 way:∀ f g,f<=h->g < h->WayOk rss h f g (y3 T f g)
 pos:∀ f g,f<=h->g < h->0<=(y3 T f g).1
 le:∀ f g,f<=h->g < h->(y3 T f g).1<=rin rss (f:Int) (g:Int)
 tri:∀ j f g,j < k->f<=h->g < h->(y3 T f g).1<=(y3 T f j).1 + (y3 T j g).1
 len:∀ f g,f<=h->g < h->(y3 T f g).2.length<=2 ^ k
theorem wd (a b:Wy):(zI a b=a/\a.1<=b.1) ∨ (zI a b=b/\b.1 < a.1):=by
 unfold zI
 by_cases h:b.1 < a.1
 ·rw [if_pos h];exact .inr ⟨rfl,h⟩
 ·rw [if_neg h];exact .inl ⟨rfl,by omega⟩
theorem Cy (a b:Wy):(zI a b).1<=a.1/\(zI a b).1<=b.1:=by
 rcases wd a b with ⟨e,q⟩ | ⟨e,q⟩
 ·rw [e];exact ⟨Int.le_refl _,q⟩
 ·rw [e];exact ⟨Int.le_of_lt q,Int.le_refl _⟩
theorem WayOk.join {rss:List (List Int)}{h f k g:Nat}{a b:Wy}(x:WayOk rss h f k a)(y:WayOk rss h k g b):WayOk rss h f g (zi a b):=by
 refine ⟨?_,?_,fun z hz=>?_⟩
 ·show a.1 + b.1=zB rss f (a.2++b.2)
  rw [KI x.last,x.sum,y.sum]
 ·show (a.2++b.2).getLast?=_
  rw [List.getLast?_append,y.last]
  rfl
 ·rcases List.mem_append.mp hz with q | q
  ·exact x.ok z q
  ·exact y.ok z q
theorem FW.start {h:Nat}{rss:List (List Int)}(G:xq h rss):FW rss h 0 (o7 rss 0):=by
 refine ⟨fun f g hf hg=>?_,fun f g hf hg=>?_,fun f g hf hg=>?_,fun j f g hj=>absurd hj (by omega),fun f g hf hg=>?_⟩
 ·rw [Xn G hf hg]
  refine ⟨?_,rfl,fun x hx=>?_⟩
  ·show rin rss f g=rin rss f g + 0
   omega
  ·have e:x=(g:Int):=by simpa using hx
   rw [e]
   omega
 ·rw [Xn G hf hg];exact Lb G hf hg
 ·rw [Xn G hf hg];exact Int.le_refl _
 ·rw [Xn G hf hg];exact Nat.le_refl 1
theorem FW.step {h k:Nat}{rss:List (List Int)}{T:List (List Wy)}(S:Shp h T)(x:FW rss h k T)(hk:k < h):FW rss h (k + 1) (qS T k):=by
 have kl:k<=h:=by omega
 have toK:∀ f,f<=h->(y3 (qS T k) f k).1=(y3 T f k).1:=fun f hf=>by
  rw [vU S hk hf hk]
  rcases wd (y3 T f k) (zi (y3 T f k) (y3 T k k)) with ⟨e,q⟩ | ⟨e,q⟩
  ·rw [e]
  ·have p:=x.pos k k kl hk
   have q':(y3 T f k).1 + (y3 T k k).1 < (y3 T f k).1:=q
   omega
 have ofK:∀ g,g < h->(y3 (qS T k) k g).1=(y3 T k g).1:=fun g hg=>by
  rw [vU S hk kl hg]
  rcases wd (y3 T k g) (zi (y3 T k k) (y3 T k g)) with ⟨e,q⟩ | ⟨e,q⟩
  ·rw [e]
  ·have p:=x.pos k k kl hk
   have q':(y3 T k k).1 + (y3 T k g).1 < (y3 T k g).1:=q
   omega
 have bound:∀ f g,f<=h->g < h->(y3 (qS T k) f g).1<=(y3 T f g).1/\(y3 (qS T k) f g).1<=(y3 T f k).1 + (y3 T k g).1:=fun f g hf hg=>by
  rw [vU S hk hf hg]
  exact Cy _ _
 have alt:∀ f g,f<=h->g < h->(y3 (qS T k) f g).1=(y3 T f g).1 ∨ (y3 (qS T k) f g).1=(y3 T f k).1 + (y3 T k g).1:=fun f g hf hg=>by
  rw [vU S hk hf hg]
  rcases wd (y3 T f g) (zi (y3 T f k) (y3 T k g)) with ⟨e,q⟩ | ⟨e,q⟩
  ·rw [e];exact .inl rfl
  ·rw [e];exact .inr rfl
 refine ⟨fun f g hf hg=>?_,fun f g hf hg=>?_,fun f g hf hg=>Int.le_trans (bound f g hf hg).1 (x.le f g hf hg),fun j f g hj hf hg=>?_,fun f g hf hg=>?_⟩
 ·rw [vU S hk hf hg]
  rcases wd (y3 T f g) (zi (y3 T f k) (y3 T k g)) with ⟨e,_⟩ | ⟨e,_⟩
  ·rw [e];exact x.way f g hf hg
  ·rw [e];exact (x.way f k hf hk).join (x.way k g kl hg)
 ·rcases alt f g hf hg with e | e
  ·rw [e];exact x.pos f g hf hg
  ·rw [e]
   have p1:=x.pos f k hf hk
   have p2:=x.pos k g kl hg
   omega
 ·by_cases hjk:j=k
  ·subst hjk
   rw [toK f hf,ofK g hg]
   exact (bound f g hf hg).2
  ·have hj':j < k:=by omega
   have jl:j<=h:=by omega
   have jh:j < h:=by omega
   have b:=bound f g hf hg
   have t1:=x.tri j f g hj' hf hg
   have t2:=x.tri j f k hj' hf hk
   have t3:=x.tri j k g hj' kl hg
   have t4:=x.pos k j kl jh
   have t5:=x.pos j k jl hk
   rcases alt f j hf jh with e1 | e1 <;> rcases alt j g jl hg with e2 | e2 <;> rw [e1,e2] <;> omega
 ·rw [vU S hk hf hg]
  have e:2 ^ (k + 1)=2 ^ k + 2 ^ k:=by rw [Nat.pow_succ];omega
  rcases wd (y3 T f g) (zi (y3 T f k) (y3 T k g)) with ⟨q,_⟩ | ⟨q,_⟩
  ·rw [q]
   have:=x.len f g hf hg
   omega
  ·rw [q]
   have a1:=x.len f k hf hk
   have a2:=x.len k g kl hg
   show ((y3 T f k).2++(y3 T k g).2).length<=_
   rw [List.length_append]
   omega
theorem FW.all {h:Nat}{rss:List (List Int)}(G:xq h rss):∀ k,k<=h->FW rss h k (o7 rss k)
 | 0,_=>FW.start G
 | k + 1,hk=>FW.step (Shp.all G k (by omega)) (FW.all G k (by omega)) (by omega)
theorem UA {h:Nat}{rss:List (List Int)}(G:xq h rss):xq h (jY rss h):=by
 have S:=Shp.all G h (Nat.le_refl _)
 have F:=FW.all G h (Nat.le_refl _)
 refine ⟨by unfold jY;rw [List.length_map];exact S.len,fun r hr=>?_⟩
 unfold jY at hr
 obtain ⟨row,hm,rfl⟩:=List.mem_map.mp hr
 refine ⟨by rw [List.length_map];exact S.row row hm,fun v hv=>?_⟩
 obtain ⟨w,hw,rfl⟩:=List.mem_map.mp hv
 obtain ⟨f,hf,rfl⟩:=List.getElem_of_mem hm
 obtain ⟨g,hg,rfl⟩:=List.getElem_of_mem hw
 have hf':f<=h:=by have:=S.len;omega
 have hg':g < h:=by rw [<- S.row _ hm];exact hg
 have e:y3 (o7 rss h) f g=(o7 rss h)[f][g]:=by unfold y3;rw [i7 hf,i7 hg]
 have p:=F.pos f g hf' hg'
 have l:=F.le f g hf' hg'
 rw [e] at p l
 refine ⟨p,Int.lt_of_le_of_lt l ?_⟩
 have hl:f < rss.length:=by have:=G.len;omega
 have hg2:g < rss[f].length:=by rw [(G.row _ (List.getElem_mem hl)).1];exact hg'
 rw [Vp G hf' hg',i7 hl,i7 hg2]
 exact ((G.row _ (List.getElem_mem hl)).2 _ (List.getElem_mem hg2)).2
theorem UH {α:Type}[DecidableEq α]:∀ {ms left:List α},ms.Nodup->(∀ x ∈ ms,x ∈ left)->ms.length<=left.length
 | [],_,_,_=>Nat.zero_le _
 | x::r,left,hn,hs=>by
  have hn':=List.nodup_cons.mp hn
  have q:=UH (ms:=r) (left:=left.erase x) hn'.2 (fun y hy=>(List.mem_erase_of_ne (fun e=>hn'.1 (by rw [e] at hy;exact hy))).mpr (hs y (List.mem_cons_of_mem _ hy)))
  have hx:=hs x List.mem_cons_self
  rw [List.length_erase_of_mem hx] at q
  have pos:0 < left.length:=List.length_pos_of_mem hx
  show r.length + 1<=_
  omega
def u6 (i:Nat):Stmt:=PySem.Challenge.pw_rinsework_k20_orders_looked_at.main.body.getD i (.Pass ⟨0,0,0,0⟩)
abbrev ZM:Stmt:=u6 53
abbrev QN:Stmt:=u6 54
abbrev Zv:Stmt:=u6 55
theorem Vt {H:Hp}{p:Addr}(h:H p=none)(o:HO):Same H (j7 H p o):=fun b u q=>by rw [j3 (y7 q h)];exact q
theorem sizes {n:Nat}(h:n<=1000):n<=sizeLine:=Nat.le_of_lt (QQ h)
def Vz:Sp:=fun vs H Q _=>∃ c k:Int,vs=[.int c,.int k]/\0<=k/\k<=100/\∀ v:Int,0<=v->v < 2147483648->Q (.int v) H
def GT (K:Fg):Sp:=fun vs H Q _=>∃ (a:Addr) (ns:List Int) (k:Int),vs=[.ref a,.int k]/\SqL K H a (ns.map V.int)/\ns.length<=63/\0<=k/\k<=12 /\
 ∀ (r:Addr) (n:Int) (H':Hp),H r=none->Same H H'->H' r=some (.lst [.int n])->Q (.ref r) H'
section
theorem sc_digit:w4 ["row", "many", "digit"] ["row", "many"] (z9 Zv):=⟨rfl,rfl,rfl,by decide +kernel,rfl,by decide +kernel,by decide +kernel⟩
theorem Df (F:Fun K "_law_digit" "_law_digit" Zv f fd):FnOk P w K mg base v5 1 f fd ["row", "many"] jg:=by
 refine F.ok sc_digit (fun vs H Q E h=>?_) (fun cdv A outer s H vs Q E hr h=>?_)
 ·obtain ⟨a,n,m,rfl,_⟩:=h
  rfl
 obtain ⟨a,n,m,rfl,hH,hm,q⟩:=h
 refine ⟨_,(j9 (u9 (i:=2) sc_digit.nd rfl (Or.inl rfl) (y6 vg (y9 (JM (K:=K) rfl) (pv 0) z6 (fun _ _=>rfl)) (pv 1)))
  (j9 (Zd (y6 Va (y9 (JM (K:=K) rfl) (pv 0) z6 (fun _ _=>rfl)) (pv 1)) (Qz (pv 0) z6 QO))
  (j5 (w6 (pv 2))))),?_⟩
 refine ⟨_,rfl,a,_,0,_,rfl,rfl,SqL.of hH,rfl,_,rfl,n,m,rfl,rfl,hm.1,?_⟩
 refine ⟨_,rfl,a,_,0,_,rfl,rfl,SqL.of hH,rfl,_,rfl,n,m,rfl,rfl,hm,?_⟩
 refine ⟨_,rfl,a,_,0,0,rfl,rfl,hH,rfl,?_⟩
 exact ⟨_,rfl,q⟩
theorem sc_mixed:w4 ["cell", "k", "stir"] ["cell", "k"] (z9 ZM):=⟨rfl,rfl,rfl,by decide +kernel,rfl,by decide +kernel,by decide +kernel⟩
theorem Dy (F:Fun K "_law_mixed" "_law_mixed" ZM f fd):FnOk P w K mg base v5 1 f fd ["cell", "k"] Vz:=by
 refine F.ok sc_mixed (fun vs H Q E h=>?_) (fun cdv A outer s H vs Q E hr h=>?_)
 ·obtain ⟨c,k,rfl,_⟩:=h
  rfl
 obtain ⟨c,k,rfl,k0,k1,q⟩:=h
 refine ⟨_,(j9 (u9 (i:=2) sc_mixed.nd rfl (Or.inl rfl) (y6 vg (y6 ww (y6 op_add (y6 op_add (y6 vg (pv 0) z6) (y6 ww z6 (pv 1))) z6) z6) z6))
  (j5 (w6 (y6 vg (y6 ww (y6 vg (y6 ww (pv 2) (pv 2)) z6) z6) z6)))),?_⟩
 refine ⟨_,rfl,_,_,rfl,rfl,(by show (0:Int) < 1000000007;decide),_,rfl,_,_,rfl,rfl,.inl ⟨by decide,by decide⟩,_,_,rfl,rfl,_,_,rfl,rfl,_,_,rfl,rfl,.inr ⟨by decide,by decide⟩,_,_,rfl,rfl,(by show (0:Int) < 2147483647;decide),?_⟩
 generalize hone:(c % 1000000007 + 7919 * k + 1) * 48271 % 2147483647=one
 have o0:0<=one:=by rw [<- hone];exact Int.emod_nonneg _ (by decide)
 have o1:one < 2147483647:=by rw [<- hone];exact Int.emod_lt_of_pos _ (by decide)
 refine ⟨_,rfl,_,rfl,_,_,rfl,rfl,.inl ⟨by omega,by omega⟩,_,_,rfl,rfl,(by show (0:Int) < 2147483629;decide),_,_,rfl,rfl,.inr ⟨by decide,by decide⟩,_,_,rfl,rfl,(by show (0:Int) < 2147483647;decide),?_⟩
 exact q _ (Int.emod_nonneg _ (by decide)) (Int.lt_trans (Int.emod_lt_of_pos _ (by decide)) (by decide))
end
def MM:Int:=10 ^ (60:Int).toNat
theorem Xb:0 < MM:=by decide +kernel
theorem Yw:jo 10 60:=⟨by decide,by decide,by decide⟩
theorem Yv:jo 10 18:=⟨by decide,by decide,by decide⟩
theorem Bh:Builtin.Int.intBits MM<=2 ^ 20:=by decide +kernel
theorem Ni {M c r:Int}{i:Nat}(hM:0 < M)(h0:0<=c)(h:c < M ^ i)(r0:0<=r)(r1:r < M):0<=c * M + r/\c * M + r < M ^ (i + 1):=by
 have e:M ^ (i + 1)=M ^ i * M:=Int.pow_succ M i
 have h1:(c + 1) * M<=M ^ i * M:=Int.mul_le_mul_of_nonneg_right (by omega) (Int.le_of_lt hM)
 have h2:(c + 1) * M=c * M + M:=by rw [Int.add_mul,Int.one_mul]
 have h3:0<=c * M:=Int.mul_nonneg h0 (Int.le_of_lt hM)
 rw [e]
 omega
theorem KQ:∀ i:_root_.Fin 14,(MM ^ (i:Nat)).toNat < 2 ^ 2700:=by decide +kernel
theorem Bi {c:Int}{i:Nat}(hi:i<=13)(h0:0<=c)(h:c < MM ^ i):Builtin.Int.intBits c<=2 ^ 20:=by
 obtain ⟨n,rfl⟩:=Int.eq_ofNat_of_zero_le h0
 have q:=KQ ⟨i,by omega⟩
 have q2:n < 2 ^ 2700:=by
  have q':(MM ^ i).toNat < 2 ^ 2700:=q
  omega
 exact Nat.le_trans (PyProof.Rows.intBits_le (by rw [Int.natAbs_natCast];exact q2)) (by decide)
theorem Le:∀ i:_root_.Fin 13,∀ j:_root_.Fin 64,Builtin.Range.small ((i:Nat):Int) ((j:Nat):Int) 5=true:=by decide +kernel
theorem Vq {i j:Int}:Builtin.Range.rangeSize i j 5=if i < j then (j - i - 1) / 5 + 1 else 0:=rfl
theorem Ld {i j:Int}(h0:0<=i)(h1:i<=12)(h2:0<=j)(h3:j<=63):0<=Builtin.Range.rangeSize i j 5/\Builtin.Range.small i j 5=true/\je i j 5<=13/\∀ t:Nat,t < je i j 5->i + t * 5 < j:=by
 refine ⟨?_,?_,?_,fun t ht=>?_⟩
 ·rw [Vq];split <;> omega
 ·have q:=Le ⟨i.toNat,by omega⟩ ⟨j.toNat,by omega⟩
  have e1:((i.toNat:Nat):Int)=i:=by omega
  have e2:((j.toNat:Nat):Int)=j:=by omega
  have q':Builtin.Range.small ((i.toNat:Nat):Int) ((j.toNat:Nat):Int) 5=true:=q
  rw [e1,e2] at q'
  exact q'
 ·unfold je;rw [Vq];split <;> omega
 ·unfold je at ht;rw [Vq] at ht;split at ht <;> omega
theorem Ba {ns:List Int}{k:Int}(h0:0<=k)(h:k < (ns.length:Int)):∃ v:Int,atI (ns.map V.int) k=some (.int v):=by
 have hk:k.toNat < ns.length:=by omega
 have ek:k=((k.toNat:Nat):Int):=by omega
 have q:atI (ns.map V.int) ((k.toNat:Nat):Int)=some (.int ns[k.toNat]):=jM (by rw [List.getElem?_map,List.getElem?_eq_getElem hk] <;> rfl)
 rw [<- ek] at q
 exact ⟨_,q⟩
section
theorem sc_stream:w4 ["script", "k", "cell", "j", "found"] ["script", "k"] (z9 QN):=⟨rfl,rfl,rfl,by decide +kernel,rfl,by decide +kernel,by decide +kernel⟩
theorem DK (F:Fun K "_law_stream" "_law_stream" QN f fd) (Eb:Fn P w K mg base 1 "_law_mixed" ["cell", "k"] Vz) (Ae:mg "len"=none) (Ac:mg "range"=none) (E4:mg "sum"=none) :
  FnOk P w K mg base v5 2 f fd ["script", "k"] (GT K):=by
 refine F.ok sc_stream (fun vs H Q E h=>?_) (fun cdv A outer s H vs Q E hr h=>?_)
 ·obtain ⟨a,ns,k,rfl,_⟩:=h
  rfl
 obtain ⟨a,ns,k,rfl,hS,h63,k0,k1,q⟩:=h
 refine ⟨_,(j9 (u9 (i:=2) sc_stream.nd rfl (Or.inl rfl) z6)
  (j9 (xT PassesOwn.never rfl (Mp rfl Ac (q0 (pv 1) (q0 (n8 (Yk (K:=K) rfl) rfl Ae PySem.boot_len (q0 (pv 0) x9)) (q0 z6 x9)))) (p9 (i:=3) sc_stream.nd rfl (Or.inl rfl))
   (j5 (u9 (i:=2) sc_stream.nd rfl (Or.inl rfl) (y6 op_add (y6 vh (pv 2) (y6 wx z6 z6)) (y6 vg (y9 (JM (K:=K) rfl) (pv 0) (pv 3) (fun _ _=>rfl)) (y6 wx z6 z6))))))
  (j9 (i8 (ql XS (pv 2) (y6 wx z6 z6) (t0 _)) (j5 (w6 (zL (q0 (pv 2) x9)))) i9)
  (j9 (u9 (i:=2) sc_stream.nd rfl (Or.inl rfl) (y6 op_add (pv 2) (n8 (BF (K:=K) rfl rfl) rfl E4 Bn (q0 (qD (N':=["one"]) (cap:=[none]) (o5 rfl rfl rfl) rfl (qH (K:=K) rfl (pv 0)) (fun _ _ _ _ _ _=>(p9 (i:=0) (by show (["one"]:List Str).Nodup;decide +kernel) rfl (Or.inl rfl))) (fun _ _ _ _ _ _=>qh) (fun _ _ _ _ _ _=>(y6 vg (pv 0) (y6 wx z6 z6)))) x9))))
  (j9 (u9 (i:=4) sc_stream.nd rfl (Or.inl rfl) z6)
  (j9 (xT PassesOwn.never rfl (xS rfl Ac (q0 z6 x9)) (p9 (i:=3) sc_stream.nd rfl (Or.inl rfl))
   (j5 (u9 (i:=4) sc_stream.nd rfl (Or.inl rfl) (y6 op_add (y6 ww (pv 4) z6) (j8 Eb hr (by decide) rfl (q0 (y6 op_add (y6 op_add (pv 2) (y6 ww z6 (pv 1))) (n8 (Yk (K:=K) rfl) rfl Ae PySem.boot_len (q0 (pv 0) x9))) (q0 (pv 3) x9)))))))
  (j5 (w6 (zL (q0 (y6 Va (pv 4) z6) x9)))))))))),?_⟩
 have hl:(((ns.map V.int).length:Nat):Int)=(ns.length:Int):=by rw [List.length_map]
 obtain ⟨z1,z2,z3,z4⟩:=Ld (i:=k) (j:=(((ns.map V.int).length:Nat):Int)) k0 k1 (by omega) (by omega)
 refine ⟨_,rfl,_,rfl,a,_,rfl,.inl hS,k,_,5,rfl,⟨by decide,by decide⟩,z1,z2,Pf (fun i σ H2=>∃ (c:Int) (j:Option V),σ=[some (.ref a),some (.int k),some (.int c),j,none]/\H2=H/\0<=c/\c < MM ^ i)
  ⟨0,none,rfl,rfl,Int.le_refl 0,by decide⟩ ?_ ?_⟩
 ·rintro i σ H2 hi ⟨c,j,rfl,rfl,c0,c1⟩
  obtain ⟨v,hv⟩:=Ba (ns:=ns) (k:=k + i * 5) (by omega) (by have:=z4 i hi;omega)
  refine ⟨_,rfl,_,_,rfl,rfl,Yw,_,_,rfl,rfl,⟨Bi (by omega) c0 c1,Bh⟩,_,rfl,_,rfl,a,_,_,_,rfl,rfl,hS,hv,
   _,_,rfl,rfl,Yw,_,_,rfl,rfl,Xb,_,_,rfl,rfl,?_⟩
  have sb:=Ni (i:=i) Xb c0 c1 (Int.emod_nonneg v (Ne.symm (Int.ne_of_lt Xb))) (Int.emod_lt_of_pos v Xb)
  exact ⟨_,_,rfl,rfl,sb.1,sb.2⟩
 ·rintro σ H2 ⟨c,j,rfl,rfl,c0,c1⟩
  refine ⟨_,rfl,_,_,rfl,rfl,Yv,_,_,rfl,rfl,_,rfl,ite2 (fun _=>?_) (fun _=>?_)⟩
  ·refine ⟨_,rfl,(by show 1<=sizeLine;decide),fun p hp=>?_⟩
   exact q p c _ hp (Vt hp _) y4
  ·refine ⟨_,rfl,_,rfl,a,rfl,⟨_,hS⟩,BI (K:=K) (a:=a) (xs:=ns.map V.int) (fun i ys H3=>H3=H2/\∃ ms:List Int,ys=ms.map V.int/\ms.length=i) ⟨rfl,[],rfl,rfl⟩ ?_ ?_ ?_ ?_⟩
   ·rintro i ys H3 hi ⟨_,ms,rfl,rfl⟩
    rw [List.length_map] at hi ⊢
    exact sizes (by omega)
   ·rintro i ys H3 hi ⟨rfl,_⟩
    exact hS
   ·rintro i x ys H3 R hx ⟨rfl,ms,rfl,rfl⟩ hR
    rw [List.getElem?_map] at hx
    obtain ⟨v,hv,rfl⟩:=Option.map_eq_some_iff.mp hx
    refine ⟨Wk.one rfl,⟨_,rfl,_,_,rfl,rfl,Yv,_,_,rfl,rfl,(by show (0:Int) < 10 ^ (18:Int).toNat;decide),?_⟩⟩
    exact hR _ _ ⟨rfl,ms++[_],by rw [List.map_append];rfl,by rw [List.length_append];rfl⟩
   ·rintro ys H3 ⟨rfl,ms,rfl,_⟩ D hD
    refine ⟨D,ms,rfl,SqL.of y4,_,_,rfl,rfl,?_⟩
    have g1:Same H3 (j7 H3 D (.lst (ms.map V.int))):=Vt hD _
    refine ⟨12,rfl,by decide,by decide,Pg (n:=12) (fun i σ H4=>∃ (f:Int) (j:Option V),σ=[some (.ref a),some (.int k),some (.int (c + ms.sum)),j,some (.int f)]/\H4=j7 H3 D (.lst (ms.map V.int))) ⟨0,_,rfl,rfl⟩ ?_ ?_⟩
    ·rintro i σ H4 hi ⟨f,j,rfl,rfl⟩
     refine ⟨_,rfl,_,_,rfl,rfl,.inr ⟨by decide,by decide⟩,_,rfl,_,rfl,_,_,rfl,rfl,.inl ⟨by decide,by decide⟩,_,_,rfl,rfl,_,rfl,a,_,rfl,.inl (g1.seq hS),_,_,rfl,rfl,_,rfl,_,_,rfl,by omega,by omega,fun v v0 v1=>?_⟩
     exact ⟨_,_,rfl,rfl,_,_,rfl,rfl⟩
    ·rintro σ H4 ⟨f,j,rfl,rfl⟩
     refine ⟨_,rfl,_,_,rfl,rfl,⟨by decide,by decide +kernel⟩,(by show 1<=sizeLine;decide),fun p hp=>?_⟩
     exact q p (f / 64) _ (g1.free hp) (g1.trans (Vt hp _)) y4
end
def vo (K:Fg):List PV->Prop:=fun xs=>∃ (ns:List Int) (k:Int),xs=[scr K ns,.at (.int k)]/\ns.length<=63/\0<=k/\k<=12
def jJ:List PV->PV->Prop:=fun _ y=>∃ n:Int,y = .lst [.at (.int n)]
theorem Nj {K:Fg}{vs:List V}{H:Hp}{Q:VK}{E:XK}(h:spN (vo K) jJ vs H Q E):GT K vs H Q E:=by
 obtain ⟨Hs,xs,sm,r,⟨ns,k,rfl,h63,k0,k1⟩,q⟩:=h
 obtain ⟨v,w,rfl,p1,p2⟩:=reps_cons.mp r
 obtain ⟨u,z,rfl,p3,p4⟩:=reps_cons.mp p2
 cases reps_nil.mp p4
 cases rep_at.mp p3
 obtain ⟨a,rfl,hS⟩:=LQ sm p1
 exact ⟨a,ns,k,rfl,hS,h63,k0,k1,fun b n H' nb g e=>q _ b Hs H' ⟨n,rfl⟩ ⟨.refl _,g,sm.trans g,fun _ _ z=>z⟩ nb (sm.free nb) ⟨_,e,.one (rep_at.mpr rfl)⟩⟩
section
theorem DJ (F:Fun K "_law_stream" "_law_stream" QN f fd) (Eb:Fn P w K mg base 1 "_law_mixed" ["cell", "k"] Vz) (Ae:mg "len"=none) (Ac:mg "range"=none) (E4:mg "sum"=none) :
  FnOk P w K mg base v5 2 f fd ["script", "k"] (spN (vo K) jJ):=(DK F Eb Ae Ac E4).imp fun _ _ _ _ h=>Nj h
end
def i5:Int:=10 ^ 30
theorem CB {k:Int}(h0:0<=k)(h1:k<=2 * i5):k.natAbs.log2 < 9000:=by
 have hb:(2 * i5).toNat < 2 ^ 9000:=Nat.lt_of_lt_of_le (show (2 * i5).toNat < 2 ^ 110 by decide +kernel) (Nat.pow_le_pow_right (by decide) (by decide))
 have:k.natAbs < 2 ^ 9000:=by omega
 by_cases hz:k.natAbs=0
 ·rw [hz];decide
 ·exact (Nat.log2_lt hz).mpr this
theorem zU {n k:Int}(h0:0 < k)(h1:k<=2 * i5):jn n k:=⟨h0,CB (by omega) h1⟩
theorem jm:(1000:Int)<=i5:=by decide +kernel
def qm (rss:List (List Int)):PV:= .lst (rss.map fun r=> .lst (r.map fun n=> .at (.int n)))
theorem zt {ε:ME}{a:MA}{k:Nat}(h:a ε=some [.at (.int (k:Int))])(hk:k<=lim):qu a ε=some (xL 0 k):=by
 have hlim:(lim:Int)=1000000:=rfl
 have hl:lim=1000000:=rfl
 unfold qu
 rw [h]
 show (if -(lim:Int)<=(k:Int)/\(k:Int)<=(lim:Int) then some (xL 0 (k:Int).toNat) else none)=_
 rw [if_pos ⟨by omega,by omega⟩,Int.toNat_natCast]
def v6 (ss:List Str):List PV:=ss.map fun s=> .at (.str s)
theorem qE (ss:List Str):(v6 ss).length=ss.length:=List.length_map _
def Low (x:Str):Prop:=∀ c ∈ x.cps.toList,97<=c/\c<=122
structure vF (x:Str):Prop where
 low:Low x
 one:1<=x.length
 eight:x.length<=8
theorem Jn:∀ ss:List Str,ats (v6 ss)=some (ss.map V.str)
 | []=>rfl
 | s::ss=>by
  show (ats (v6 ss)).map (V.str s::·)=_
  rw [Jn ss];rfl
theorem Uc (x:Str):∀ ss:List Str,inV (.str x) (ss.map V.str)=decide (x ∈ ss)
 | []=>by simp [inV]
 | s::ss=>by
  have ih:=Uc x ss
  unfold inV at ih ⊢
  rw [List.map_cons,List.any_cons,ih]
  have e:qf (.str s) (.str x)=decide (s=x):=rfl
  rw [e]
  by_cases h:s=x
  ·subst h;simp
  ·simp [h,Ne.symm h]
theorem YT (ss:List Str):(ss.map V.str).all y8=true:=by
 rw [List.all_eq_true]
 intro v hv
 obtain ⟨s,_,rfl⟩:=List.mem_map.mp hv
 rfl
theorem Ue (neg:Bool)(x:Str)(ss:List Str):pIn neg (.at (.str x)) (.lst (v6 ss))=some (.at (.bl (if neg then !decide (x ∈ ss) else decide (x ∈ ss)))):=by
 show (ats (v6 ss)).bind _=_
 rw [Jn,Option.bind_some,if_pos ⟨rfl,YT ss⟩,Uc]
structure Cl where
 name:Str
 hue:Nat
 len:Int
 due:Int
 wt:Int
def Cl.pv (c:Cl):PV:= .tup [.at (.str c.name),.at (.int c.hue),.at (.int c.len),.at (.int c.due),.at (.int c.wt)]
structure Cl.Ok (h:Nat)(c:Cl):Prop where
 nm:vF c.name
 hu:c.hue < h
 l1:1<=c.len
 l2:c.len<=i5
 d1:-i5<=c.due
 d2:c.due<=i5
 w1:1<=c.wt
 w2:c.wt<=i5
theorem UB {α β:Type}{f:α->β}(hf:∀ x y,f x=f y->x=y):∀ {a b:List α},a.map f=b.map f->a=b
 | [],[],_=>rfl
 | [],_::_,h=>by cases h
 | _::_,[],h=>by cases h
 | x::a,y::b,h=>by
  rw [List.map_cons,List.map_cons] at h
  injection h with h1 h2
  rw [hf x y h1,UB hf h2]
theorem JE {α β:Type}(f:α->β):∀ (l:List α) (i:Nat),(l.map f).eraseIdx i=(l.eraseIdx i).map f
 | [],_=>rfl
 | _::_,0=>rfl
 | x::l,i + 1=>by simp [JE f l i]
theorem US {α:Type}:∀ {ss:List α} {j:Nat} (h:j < ss.length),(ss[j]::ss.eraseIdx j).Perm ss
 | x::ss,0,_=>List.Perm.refl _
 | x::ss,j + 1,h=>by
  have hj:j < ss.length:=by simpa using h
  have ih:=US hj
  show (ss[j]::x::ss.eraseIdx j).Perm (x::ss)
  exact (List.Perm.swap _ _ _).trans (ih.cons x)
structure Dr where
 h:Nat
 rss:List (List Int)
 cls:List Cl
 last:Int
 time:Int
def Dr.pv (d:Dr):PV:= .tup [qm d.rss,.lst (d.cls.map Cl.pv),.at (.int d.last),.at (.int d.time)]
structure Dr.Ok (d:Dr):Prop where
 h1:1<=d.h
 h4:d.h<=4
 rin:xq d.h d.rss
 ten:d.cls.length<=10
 cl:∀ c ∈ d.cls,c.Ok d.h
 nd:(d.cls.map Cl.name).Nodup
 l1:-1<=d.last
 l2:d.last < d.h
 t1:0<=d.time
 t2:d.time < 60 * i5
theorem ML {a b:Cl}(h:a.pv=b.pv):a=b:=by
 cases a;cases b
 unfold Cl.pv at h
 injection h with h
 simp only [List.cons.injEq,PV.at.injEq,V.str.injEq,V.int.injEq] at h
 obtain ⟨h1,h2,h3,h4,h5,_⟩:=h
 have h2:=Int.ofNat.inj h2
 subst h1 h2 h3 h4 h5
 rfl
theorem BU {d e:Dr}(h:d.pv=e.pv):d.cls=e.cls:=by
 unfold Dr.pv at h
 injection h with h
 injection h with _ h
 injection h with h _
 injection h with h
 exact UB (fun _ _=>ML) h
def T26:Int:=10 ^ 26
def T27:Int:=10 ^ 27
theorem Ts:T27=10 * T26/\i5=1000 * T27/\1000 < T26:=by decide +kernel
theorem pow26:pPow (.at (.int 10)) (.at (.int 26))=some (.at (.int T26)):=by
 show (if jo 10 26 then some (V.int (10 ^ (26:Int).toNat)) else none).map PV.at=_
 rw [if_pos ⟨by decide,by decide,by decide⟩];rfl
theorem pow27:pPow (.at (.int 10)) (.at (.int 27))=some (.at (.int T27)):=by
 show (if jo 10 27 then some (V.int (10 ^ (27:Int).toNat)) else none).map PV.at=_
 rw [if_pos ⟨by decide,by decide,by decide⟩];rfl
theorem Yf {n:Int}(h0:-i5<=n)(h1:n<=i5):Builtin.Int.intBits n<=2 ^ 20:=by
 have hb:i5 < 2 ^ 120:=by decide +kernel
 exact Nat.le_trans (PyProof.Rows.intBits_le (k:=120) (by omega)) (by decide)
theorem Qw {a b:Int}(a0:-i5<=a)(a1:a<=i5)(b0:-i5<=b)(b1:b<=i5):jc (.at (.int a)) (.at (.int b))=some (.at (.int (a * b))):=by
 show (if zP a b then some (V.int (a * b)) else none).map PV.at=_
 rw [if_pos ⟨Yf a0 a1,Yf b0 b1⟩];rfl
def zb:List PV->Prop:=fun xs=>∃ b:Bool,xs=[.at (.bl b)]
def zh:List PV->PV->Prop:=fun _ y=>∃ n:Int,y = .at (.int n)/\0<=n/\n < 10 * T27
abbrev ZQ:Stmt:=u6 56
abbrev WI (K:Fg):WS:=(wSeq (t6 2 (i4 0 (wP (dC (.int 10)))))
  (wSeq (qX (wPT (o6 (x0 1))) (t6 2 (qQ qT (wP (z0 jc (x0 2) (z0 pPow (dC (.int 10)) (dC (.int 27))))) (i4 0 (wP (dC (.int 3)))))) xp)
  (qY (wP (q9 2)))))
theorem sc_number:w4 ["row", "great", "number"] ["row", "great"] (z9 ZQ):=⟨rfl,rfl,rfl,by decide +kernel,rfl,by decide +kernel,by decide +kernel⟩
theorem Ps:∀ xs,zb xs->xs.length + 1=(["row", "great"]:List Str).length:=by
 rintro xs ⟨b,rfl⟩;rfl
theorem PD {K:Fg}:∀ xs n,zb xs->WI K (g0 n::xs.map .sh++List.replicate ((["row", "great", "number"]:List Str).length - (xs.length + 1)) .no) (fun _=>False) fun y ε=>zh xs y/\xo 0 ε:=by
 rintro xs n ⟨b,rfl⟩
 have hB:=jm
 obtain ⟨t1,t2,t3⟩:=Ts
 refine ⟨⟨n,rfl⟩,_,rfl,n,10,rfl,rfl,⟨by decide,by decide⟩,?_⟩
 have a0:0<=n % 10:=Int.emod_nonneg _ (by decide)
 have a1:n % 10 < 10:=Int.emod_lt_of_pos _ (by decide)
 cases b with
 | false=>exact vD rfl ⟨_,rfl,⟨_,rfl,a0,by omega⟩,_,rfl⟩
 | true =>
  have b0:0<=n / 10 % 3:=Int.emod_nonneg _ (by decide)
  have b1:n / 10 % 3 < 3:=Int.emod_lt_of_pos _ (by decide)
  refine Xa rfl ⟨_,w9 rfl (w9 rfl rfl pow27) (Qw (a:=n % 10) (b:=T27) (by omega) (by omega) (by omega) (by omega)),⟨_,rfl⟩,_,rfl,n / 10,3,rfl,rfl,⟨by decide,by decide⟩,_,rfl,_,rfl,⟨_,rfl,?_,?_⟩,_,rfl⟩
  ·generalize n % 10=p at a0 a1 ⊢
   have:=Int.mul_nonneg a0 (show 0<=T27 by omega)
   omega
  ·generalize n % 10=p at a0 a1 ⊢
   have:p * T27<=9 * T27:=Int.mul_le_mul_of_nonneg_right (by omega) (by omega)
   omega
theorem DC (F:Fun K "_law_number" "_law_number" ZQ f fd) (Ad:Fn P w K mg base 1 "_law_digit" ["row", "many"] jg):FnOk P w K mg base v5 2 f fd ["row", "great"] (spD zb zh) :=
 okD (k:=1) (b:=WI K) F sc_number Ps (fun cdv A outer s H E hr=>⟨_,(@j9 _ _ _ _ _ (@u9 _ _ 2 _ _ _ _ sc_number.nd rfl (Or.inl rfl) (j8 Ad hr (by decide) rfl (@q0 _ _ _ _ _ (pv 0) (@q0 _ _ _ _ _ z6 x9 (by rfl)) (by rfl))) (by rfl) (.inl rfl))
  (@j9 _ _ _ _ _ (i8 (xf (K:=K) rfl (pv 1) (fun _=>rfl)) (@j5 _ _ _ (@u9 _ _ 2 _ _ _ _ sc_number.nd rfl (Or.inl rfl) (y6 (zm (K:=K) rfl) (y6 (vh) (pv 2) (y6 (wx) z6 z6)) (j8 Ad hr (by decide) rfl (@q0 _ _ _ _ _ (pv 0) (@q0 _ _ _ _ _ z6 x9 (by rfl)) (by rfl)))) (by rfl) (.inl rfl))) i9)
  (@j5 _ _ _ (w6 (pv 2))))),
  (by repeat' first | infer_instance | (refine @Mi.instSemWSTSeqWSeq _ _ _ _ ?_ ?_) | (apply @Mi.instSemWSTForWForOfSemWIOfSemWG))⟩) PD
def zN (r:List Int):PV:= .lst (r.map fun n=> .at (.int n))
def QF:List PV->Prop:=fun xs=>∃ (h:Nat) (b:Bool),xs=[.at (.int h),.at (.bl b)]/\1<=h/\h<=4
def vI:List PV->PV->Prop:=fun xs y=>∃ (h:Nat) (b:Bool) (rss:List (List Int)),xs=[.at (.int h),.at (.bl b)]/\y=qm rss/\xq h rss
abbrev ZT:Stmt:=u6 57
abbrev WL (K:Fg):WS:=(wSeq (t6 3 (i4 0 (wP (dC (.int 4)))))
  (wSeq (jk 4 (xE x8))
  (wSeq (wFor (wIp (qu (q8 (z0 qT (x0 1) (dC (.int 1))) x8))) (v4 5) (wSeq (t6 6 (zy [none,some 0,some 2] [0] (wIp (qu (q8 (q9 1) x8))) (v4 0) zA (zf 1 zb zh (g9 (wP (q9 2)) qz))))
  (wSeq (qX (wPT (dT (z0 qw (x0 3) (dC (.int 0))))) (t6 6 (wP (z0 pRep (xE (q8 (dC (.int 0)) x8)) (x0 1)))) xp)
  (wSeq (qX (wPT (dT (z0 qw (x0 3) (dC (.int 1))))) (t6 6 (zy [none,some 0] [0] (wIp (i0 (q9 6))) (v4 0) zA (qQ jc (wP (q9 0)) (i4 1 (wP (dC (.int 2))))))) xp)
  (vC 4 (wP (q9 6)))))))
  (wFz 4 (qY (wP (q9 4)))))))
theorem sc_rinses:w4 ["row", "hues", "great", "way", "found", "first", "numbers"] ["row", "hues", "great"] (z9 ZT):=⟨rfl,rfl,rfl,by decide +kernel,rfl,by decide +kernel,by decide +kernel⟩
theorem Pw:∀ xs,QF xs->xs.length + 1=(["row", "hues", "great"]:List Str).length:=by
 rintro xs ⟨h,b,rfl,_⟩;rfl
structure vK (h:Nat)(r:List Int):Prop where
 len:r.length=h
 lo:∀ v ∈ r,0<=v/\v < 10 ^ 30
theorem PH {K:Fg}:∀ xs n,QF xs->WL K (g0 n::xs.map .sh++List.replicate ((["row", "hues", "great", "way", "found", "first", "numbers"]:List Str).length - (xs.length + 1)) .no) (fun _=>False) fun y ε=>vI xs y/\xo 0 ε:=by
 rintro xs n ⟨h,b,rfl,h1,h4⟩
 have hl:lim=1000000:=rfl
 obtain ⟨t1,t2,t3⟩:=Ts
 have eB:i5=10 ^ 30:=rfl
 refine ⟨⟨n,rfl⟩,_,rfl,n,4,rfl,rfl,⟨by decide,by decide⟩,_,rfl,?_⟩
 generalize n % 4=way
 generalize n / 4=n1
 refine ⟨xL 0 (h + 1),zt rfl (by omega),?_⟩
 refine JV (fun rest ε=>∃ (m:Int) (rss:List (List Int)) (s5 s6:MSlot),rss.length + rest.length=h + 1/\(∀ r ∈ rss,vK h r)/\ε=[g0 m,.sh (.at (.int (h:Int))),.sh (.at (.bl b)),.sh (.at (.int way)),.ow (.lst (rss.map zN)),s5,s6]) ?_ ?_ _ _ ⟨n1,[],_,_,by rw [jf];simp,(fun _ z=>nomatch z),rfl⟩
 ·rintro ε ⟨m,rss,s5,s6,e1,e2,rfl⟩
  exact ⟨_,rfl,⟨h,b,rss,rfl,rfl,by simpa using e1,fun r hr=>⟨(e2 r hr).len,(e2 r hr).lo⟩⟩,m,rfl⟩
 ·rintro x rest ε ⟨m,rss,s5,s6,e1,e2,rfl⟩
  simp only [List.length_cons] at e1
  refine ⟨_,rfl,xL 0 h,zt rfl (by omega),rfl,by rw [jf];omega,?_⟩
  have app:∀ (m:Int) (r:List Int),vK h r->vC 4 (wP (q9 6)) [g0 m,.sh (.at (.int (h:Int))),.sh (.at (.bl b)),.sh (.at (.int way)),.ow (.lst (rss.map zN)),.sh x,.sh (zN r)] (fun ε=>∃ (m:Int) (rss:List (List Int)) (s5 s6:MSlot),rss.length + rest.length=h + 1/\(∀ r ∈ rss,vK h r)/\ε=[g0 m,.sh (.at (.int (h:Int))),.sh (.at (.bl b)),.sh (.at (.int way)),.ow (.lst (rss.map zN)),s5,s6]) (fun y ε=>vI [.at (.int h),.at (.bl b)] y/\xo 0 ε):=by
   intro m r hr
   refine ⟨⟨_,rfl⟩,_,rfl,_,rfl,by rw [List.length_map];omega,m,rss++[r],.sh x,.sh (zN r),by rw [List.length_append];simp;omega,?_,by rw [List.map_append];rfl⟩
   intro q hq
   rcases List.mem_append.mp hq with hq | hq
   ·exact e2 q hq
   ·rw [List.mem_singleton.mp hq];exact hr
  have if1:∀ (m:Int) (r:List Int),vK h r->(wSeq (qX (wPT (dT (z0 qw (x0 3) (dC (.int 1))))) (t6 6 (zy [none,some 0] [0] (wIp (i0 (q9 6))) (v4 0) zA (qQ jc (wP (q9 0)) (i4 1 (wP (dC (.int 2))))))) xp) (vC 4 (wP (q9 6)))) [g0 m,.sh (.at (.int (h:Int))),.sh (.at (.bl b)),.sh (.at (.int way)),.ow (.lst (rss.map zN)),.sh x,.sh (zN r)] (fun ε=>∃ (m:Int) (rss:List (List Int)) (s5 s6:MSlot),rss.length + rest.length=h + 1/\(∀ r ∈ rss,vK h r)/\ε=[g0 m,.sh (.at (.int (h:Int))),.sh (.at (.bl b)),.sh (.at (.int way)),.ow (.lst (rss.map zN)),s5,s6]) (fun y ε=>vI [.at (.int h),.at (.bl b)] y/\xo 0 ε):=by
   intro m r hr
   by_cases hw:way=1
   ·subst hw
    refine Xa (i6 (v:=true) rfl) ⟨_,rfl,rfl,by rw [List.length_map,hr.len];omega,?_⟩
    refine wW (fun todo zs ε=>∃ (m:Int) (done left:List Int),ε=[.no,g0 m]/\todo=left.map (fun n=>PV.at (.int n))/\zs=done.map (fun n=>PV.at (.int n))/\done.length + left.length=h/\(∀ v ∈ left,0<=v/\v < 10 ^ 30)/\∀ v ∈ done,0<=v/\v < 10 ^ 30) ?_ ?_ _ [] _ ⟨m,[],r,rfl,rfl,rfl,by rw [hr.len];simp,hr.lo,(fun _ z=>nomatch z)⟩
    ·rintro zs ε ⟨m2,done,left,rfl,z,rfl,g1,g2,g3⟩
     have e:left=[]:=by cases left with | nil=>rfl | cons _ _=>cases z
     subst e
     exact ⟨fun _=>⟨_,rfl⟩,app _ done ⟨by simpa using g1,g3⟩⟩
    ·rintro x2 rest2 zs ε ⟨m2,done,left,rfl,z,rfl,g1,g2,g3⟩
     cases left with
     | nil=>cases z
     | cons v left =>
      rw [List.map_cons] at z
      injection z with z1 z2
      subst z1
      simp only [List.length_cons] at g1
      have v0:=g2 v List.mem_cons_self
      rw [<- eB] at v0
      have c0:0<=m2 % 2:=Int.emod_nonneg _ (by decide)
      have c1:m2 % 2 < 2:=Int.emod_lt_of_pos _ (by decide)
      refine ⟨_,rfl,_,rfl,⟨_,rfl⟩,_,rfl,m2,2,rfl,rfl,⟨by decide,by decide⟩,_,Qw (a:=v) (b:=m2 % 2) (by omega) (by omega) (by omega) (by omega),m2 / 2,done++[v * (m2 % 2)],left,rfl,z2,by rw [List.map_append];rfl,by rw [List.length_append];simp;omega,fun w hw=>g2 w (List.mem_cons_of_mem _ hw),fun w hw=>?_⟩
      rcases List.mem_append.mp hw with hw | hw
      ·exact g3 w hw
      ·rw [List.mem_singleton.mp hw,<- eB]
       have:m2 % 2=0 ∨ m2 % 2=1:=by omega
       rcases this with e | e <;> rw [e] <;> omega
   ·refine vD (i6 (v:=false) ?_) (app m r hr)
    show some (PV.at (.bl (decide (way=1))))=_
    rw [decide_eq_false hw]
  refine wW (fun rest2 zs ε=>∃ (m:Int) (r:List Int),ε=[.no,g0 m,.sh (.at (.bl b))]/\zs=r.map (fun n=>PV.at (.int n))/\r.length + rest2.length=h/\(∀ v ∈ r,0<=v/\v < 10 ^ 30)) ?_ ?_ _ [] _ ⟨m,[],rfl,rfl,by rw [jf];simp,(fun _ z=>nomatch z)⟩
  ·rintro zs ε ⟨m2,r,rfl,rfl,g1,g2⟩
   have hr:vK h r:=⟨by simpa using g1,g2⟩
   refine ⟨fun _=>⟨_,rfl⟩,?_⟩
   by_cases hw:way=0
   ·subst hw
    refine Xa (i6 (v:=true) rfl) ⟨zN (List.replicate h 0),?_,if1 m2 _ ⟨List.length_replicate,fun v hv=>?_⟩⟩
    ·refine w9 (Qe (xs:=[.at (.int 0)]) rfl l1) rfl ?_
     show (if -(lim:Int)<=(h:Int)/\(h:Int)<=lim/\[PV.at (.int 0)].length * (h:Int).toNat<=lim then some (PV.lst (List.replicate (h:Int).toNat [PV.at (.int 0)]).flatten) else none)=_
     rw [if_pos ⟨by omega,by omega,by simp;omega⟩]
     unfold zN
     simp
    ·rw [List.eq_of_mem_replicate hv];decide
   ·refine vD (i6 (v:=false) ?_) (if1 m2 r hr)
    show some (PV.at (.bl (decide (way=0))))=_
    rw [decide_eq_false hw]
  ·rintro x2 rest2 zs ε ⟨m2,r,rfl,rfl,g1,g2⟩
   simp only [List.length_cons] at g1
   refine ⟨_,rfl,⟨_,rfl⟩,_,rfl,⟨_,rfl⟩,⟨b,rfl⟩,?_⟩
   rintro y n' ⟨v,rfl,v0,v1⟩
   refine ⟨n',r++[v],rfl,by rw [List.map_append];rfl,by rw [List.length_append];simp;omega,fun q hq=>?_⟩
   rcases List.mem_append.mp hq with hq | hq
   ·exact g2 q hq
   ·rw [List.mem_singleton.mp hq,<- eB];exact ⟨v0,by omega⟩
theorem DF (F:Fun K "_law_rinses" "_law_rinses" ZT f fd) (Ad:Fn P w K mg base 1 "_law_digit" ["row", "many"] jg) (Ar:Fn P w K mg base 2 "_law_number" ["row", "great"] (spD zb zh)) (Ac:mg "range"=none):FnOk P w K mg base v5 3 f fd ["row", "hues", "great"] (spD QF vI) :=
 okD (k:=2) (b:=WL K) F sc_rinses Pw (fun cdv A outer s H E hr=>⟨_,(@j9 _ _ _ _ _ (@u9 _ _ 3 _ _ _ _ sc_rinses.nd rfl (Or.inl rfl) (j8 Ad hr (by decide) rfl (@q0 _ _ _ _ _ (pv 0) (@q0 _ _ _ _ _ z6 x9 (by rfl)) (by rfl))) (by rfl) (.inl rfl))
  (@j9 _ _ _ _ _ (@u9 _ _ 4 _ _ _ _ sc_rinses.nd rfl (Or.inl rfl) (@zL _ _ _ _ x9) (by rfl) (.inl rfl))
  (@j9 _ _ _ _ _ (xT PassesOwn.never rfl (xS rfl Ac (@q0 _ _ _ _ _ (y6 (zm (K:=K) rfl) (pv 1) z6) x9 (by rfl))) (p9 (i:=5) sc_rinses.nd rfl (Or.inl rfl))
   (@j9 _ _ _ _ _ (wF (i:=6) (N':=["hue", "row", "great"]) (cap:=[none,some 0,some 2]) (o5 rfl rfl rfl) rfl sc_rinses.nd rfl rfl (xS rfl Ac (@q0 _ _ _ _ _ (pv 1) x9 (by rfl))) (fun _ _ _ _ _ _=>(p9 (i:=0) (by show (["hue", "row", "great"]:List Str).Nodup;decide +kernel) rfl (Or.inl rfl))) (fun _ _ _ _ _ _=>qh) (fun _ _ _ _ _ _=>(j8 Ar hr (by decide) rfl (@q0 _ _ _ _ _ (pv 1) (@q0 _ _ _ _ _ (pv 2) x9 (by rfl)) (by rfl)))))
  (@j9 _ _ _ _ _ (i8 (ql (zK (K:=K) (hu6 hr) rfl) (pv 3) z6 (t0 _)) (@j5 _ _ _ (@u9 _ _ 6 _ _ _ _ sc_rinses.nd rfl (Or.inl rfl) (y6 (DV) (@zL _ _ _ _ (@q0 _ _ _ _ _ z6 x9 (by rfl))) (pv 1)) (by rfl) (.inl rfl))) i9)
  (@j9 _ _ _ _ _ (i8 (ql (zK (K:=K) (hu6 hr) rfl) (pv 3) z6 (t0 _)) (@j5 _ _ _ (wF (i:=6) (N':=["number", "row"]) (cap:=[none,some 0]) (o5 rfl rfl rfl) rfl sc_rinses.nd rfl rfl (@qH _ K _ _ _ rfl (pv 6)) (fun _ _ _ _ _ _=>(p9 (i:=0) (by show (["number", "row"]:List Str).Nodup;decide +kernel) rfl (Or.inl rfl))) (fun _ _ _ _ _ _=>qh) (fun _ _ _ _ _ _=>(y6 (vh) (pv 0) (j8 Ad hr (by decide) rfl (@q0 _ _ _ _ _ (pv 1) (@q0 _ _ _ _ _ z6 x9 (by rfl)) (by rfl))))))) i9)
  (@j5 _ _ _ (vp (wB (K:=K) rfl PySem.F.plainAttrs_list PySem.F.slot_list_append PySem.F.type_list_append UC (pv 4) (q0 (pv 6) x9))))))))
  (@j5 _ _ _ (w6 (pv 4)))))),
  (by repeat' first | infer_instance | (refine @Mi.instSemWSTSeqWSeq _ _ _ _ ?_ ?_) | (apply @Mi.instSemWSTForWForOfSemWIOfSemWG))⟩) PH
def twelve:List Str:=["b", "ab", "a", "abc", "ba", "aa", "z", "abcdefgh", "abcdefgi", "zz", "abcd", "bb"]
theorem Ny:twelve.Nodup:=by decide +kernel
theorem Nz:∀ s ∈ twelve,vF s:=by
 have:∀ s ∈ twelve,(∀ c ∈ s.cps.toList,97<=c/\c<=122)/\1<=s.length/\s.length<=8:=by decide +kernel
 exact fun s hs=>⟨(this s hs).1,(this s hs).2.1,(this s hs).2.2⟩
def QD:List PV->Prop:=fun xs=>∃ k:Nat,xs=[.at (.int k)]/\k<=12
def Xc:List PV->PV->Prop:=fun xs y=>∃ ss:List Str,y = .lst (v6 ss)/\xs=[.at (.int ss.length)]/\ss.Nodup/\∀ s ∈ ss,vF s
abbrev ZO:Stmt:=u6 58
abbrev WG (K:Fg):WS:=(wSeq (jk 2 (xE (q8 (dC (.str "b")) (q8 (dC (.str "ab")) (q8 (dC (.str "a")) (q8 (dC (.str "abc")) (q8 (dC (.str "ba")) (q8 (dC (.str "aa")) (q8 (dC (.str "z")) (q8 (dC (.str "abcdefgh")) (q8 (dC (.str "abcdefgi")) (q8 (dC (.str "zz")) (q8 (dC (.str "abcd")) (q8 (dC (.str "bb")) x8))))))))))))))
  (qY (zy [none,some 2,some 0] [0] (wIp (qu (q8 (q9 1) x8))) (v4 0) zA (QZ 1 (i4 2 (wP (z5 o9 (q8 (x0 1) x8))))))))
theorem sc_names:w4 ["row", "many", "free"] ["row", "many"] (z9 ZO):=⟨rfl,rfl,rfl,by decide +kernel,rfl,by decide +kernel,by decide +kernel⟩
theorem Pr:∀ xs,QD xs->xs.length + 1=(["row", "many"]:List Str).length:=by
 rintro xs ⟨k,rfl,_⟩
 rfl
theorem UW {free got all:List Str}{j:Nat}(h:j < free.length)(p:(got++free).Perm all):((got++[free[j]])++free.eraseIdx j).Perm all:=by
 rw [List.append_assoc]
 exact ((US h).append_left got).trans p
theorem PB {K:Fg}:∀ xs n,QD xs->WG K (g0 n::xs.map .sh++List.replicate ((["row", "many", "free"]:List Str).length - (xs.length + 1)) .no) (fun _=>False) fun y ε=>Xc xs y/\xo 0 ε:=by
 rintro xs n ⟨k,rfl,hk⟩
 have hl:lim=1000000:=rfl
 have hB:=jm
 refine ⟨_,rfl,?_⟩
 refine ⟨xL 0 k,zt rfl (by omega),rfl,by rw [jf];omega,?_⟩
 refine wW (fun rest ys ε=>∃ (m:Int) (free got:List Str),ε=[.no,.ow (.lst (v6 free)),g0 m]/\ys=v6 got/\got.length + rest.length=k/\(got++free).Perm twelve) ?_ ?_ (xL 0 k) [] _ ⟨n,twelve,[],rfl,rfl,by rw [jf];simp,.refl _⟩
 ·rintro ys ε ⟨m,free,got,rfl,rfl,h1,h2⟩
  have nd:(got++free).Nodup:=h2.nodup_iff.mpr Ny
  refine ⟨fun _=>⟨_,rfl⟩,⟨got,rfl,?_,(List.nodup_append.mp nd).1,fun s hs=>Nz s (h2.mem_iff.mp (List.mem_append_left _ hs))⟩,m,rfl⟩
  simp at h1
  rw [h1]
 ·rintro x rest ys ε ⟨m,free,got,rfl,rfl,h1,h2⟩
  simp only [List.length_cons] at h1
  have hlen:=h2.length_eq
  rw [List.length_append,show twelve.length=12 from rfl] at hlen
  refine ⟨_,rfl,?_⟩
  have hf:0 < free.length:=by omega
  have c0:0<=m % (((v6 free).length:Nat):Int):=Int.emod_nonneg _ (by rw [qE];omega)
  have c1:m % (((v6 free).length:Nat):Int) < (((v6 free).length:Nat):Int):=Int.emod_lt_of_pos _ (by rw [qE];omega)
  refine ⟨⟨_,rfl⟩,⟨m,rfl⟩,_,rfl,m,(((v6 free).length:Nat):Int),rfl,rfl,zU (by rw [qE];omega) (by rw [qE];omega),?_⟩
  generalize hj:m % (((v6 free).length:Nat):Int)=j at c0 c1
  rw [qE] at c1
  have hjl:j.toNat < free.length:=by omega
  refine ⟨v6 free,j,.at (.str free[j.toNat]),rfl,rfl,c0,by rw [qE];exact c1,by rw [qE];omega,?_,?_⟩
  ·unfold v6
   rw [List.getElem?_map,List.getElem?_eq_getElem hjl]
   rfl
  ·refine ⟨m / (((v6 free).length:Nat):Int),free.eraseIdx j.toNat,got++[free[j.toNat]],?_,?_,?_,UW hjl h2⟩
   ·show [MSlot.no,MSlot.ow (.lst ((v6 free).eraseIdx j.toNat)),g0 _]=_
    unfold v6
    rw [JE]
   ·unfold v6
    rw [List.map_append]
    rfl
   ·rw [List.length_append]
    simp only [List.length_cons,List.length_nil]
    omega
theorem DA (F:Fun K "_law_names" "_law_names" ZO f fd) (Ad:Fn P w K mg base 1 "_law_digit" ["row", "many"] jg) (Ae:mg "len"=none) (Ac:mg "range"=none):FnOk P w K mg base v5 2 f fd ["row", "many"] (spD QD Xc) :=
 okD (k:=1) (b:=WG K) F sc_names Pr (fun cdv A outer s H E hr=>⟨_,(@j9 _ _ _ _ _ (@u9 _ _ 2 _ _ _ _ sc_names.nd rfl (Or.inr rfl) (@zL _ _ _ _ (@q0 _ _ _ _ _ xK (@q0 _ _ _ _ _ xK (@q0 _ _ _ _ _ xK (@q0 _ _ _ _ _ xK (@q0 _ _ _ _ _ xK (@q0 _ _ _ _ _ xK (@q0 _ _ _ _ _ xK (@q0 _ _ _ _ _ xK (@q0 _ _ _ _ _ xK (@q0 _ _ _ _ _ xK (@q0 _ _ _ _ _ xK (@q0 _ _ _ _ _ xK x9 (by rfl)) (by rfl)) (by rfl)) (by rfl)) (by rfl)) (by rfl)) (by rfl)) (by rfl)) (by rfl)) (by rfl)) (by rfl)) (by rfl))) (by rfl) (.inl rfl))
  (@j5 _ _ _ (w6 (qD (N':=["k", "free", "row"]) (cap:=[none,some 2,some 0]) (o5 rfl rfl rfl) rfl (xS rfl Ac (@q0 _ _ _ _ _ (pv 1) x9 (by rfl))) (fun _ _ _ _ _ _=>(p9 (i:=0) (by show (["k", "free", "row"]:List Str).Nodup;decide +kernel) rfl (Or.inl rfl))) (fun _ _ _ _ _ _=>qh) (fun _ _ _ _ _ _=>(wB (K:=K) rfl PySem.F.plainAttrs_list PySem.F.slot_list_pop PySem.F.type_list_pop UE (pv 1) (q0 (j8 Ad hr (by decide) rfl (@q0 _ _ _ _ _ (pv 2) (@q0 _ _ _ _ _ (n8 (xa (K:=K) rfl) rfl Ae PySem.boot_len (@q0 _ _ _ _ _ (pv 1) x9 (by rfl))) x9 (by rfl)) (by rfl))) x9))))))),
  (by repeat' first | infer_instance | (refine @Mi.instSemWSTSeqWSeq _ _ _ _ ?_ ?_) | (apply @Mi.instSemWSTForWForOfSemWIOfSemWG))⟩) PB
def wE:List PV->Prop:=fun xs=>∃ (s:Str) (h:Nat) (b:Bool),xs=[.at (.str s),.at (.int h),.at (.bl b)]/\vF s/\1<=h/\h<=4
def vG:List PV->PV->Prop:=fun xs y=>∃ (s:Str) (h:Nat) (b:Bool) (c:Cl),xs=[.at (.str s),.at (.int h),.at (.bl b)]/\y=c.pv/\c.name=s/\c.Ok h
abbrev Zu:Stmt:=u6 59
abbrev Wl (K:Fg):WS:=(wSeq (t6 4 (qQ jB (i4 0 (wP (dC (.int 40)))) (wP (dC (.int 6)))))
  (wSeq (qX (wPT (o6 (x0 3))) (t6 4 (qQ qT (wP (z0 jc (x0 4) (z0 pPow (dC (.int 10)) (dC (.int 26))))) (i4 0 (wP (dC (.int 3)))))) xp)
  (qY (wL (g9 (wP (q9 1)) (g9 (i4 0 (wP (q9 2))) (g9 (qQ qT (wP (dC (.int 1))) (zf 0 zb zh (g9 (wP (q9 3)) qz))) (g9 (wP (q9 4)) (g9 (qQ qT (wP (dC (.int 1))) (i4 0 (wP (dC (.int 9))))) qz)))))))))
theorem sc_cloth:w4 ["row", "name", "hues", "great", "due"] ["row", "name", "hues", "great"] (z9 Zu):=⟨rfl,rfl,rfl,by decide +kernel,rfl,by decide +kernel,by decide +kernel⟩
theorem Pq:∀ xs,wE xs->xs.length + 1=(["row", "name", "hues", "great"]:List Str).length:=by
 rintro xs ⟨s,h,b,rfl,_⟩;rfl
theorem Py {K:Fg}:∀ xs n,wE xs->Wl K (g0 n::xs.map .sh++List.replicate ((["row", "name", "hues", "great", "due"]:List Str).length - (xs.length + 1)) .no) (fun _=>False) fun y ε=>vG xs y/\xo 0 ε:=by
 rintro xs n ⟨s,h,b,rfl,hs,h1,h4⟩
 have hB:=jm
 obtain ⟨t1,t2,t3⟩:=Ts
 have rest:∀ (n due:Int),-i5<=due->due<=i5->((qY (wL (g9 (wP (q9 1)) (g9 (i4 0 (wP (q9 2))) (g9 (qQ qT (wP (dC (.int 1))) (zf 0 zb zh (g9 (wP (q9 3)) qz))) (g9 (wP (q9 4)) (g9 (qQ qT (wP (dC (.int 1))) (i4 0 (wP (dC (.int 9))))) qz))))))):WS) [g0 n,.sh (.at (.str s)),.sh (.at (.int (h:Int))),.sh (.at (.bl b)),.sh (.at (.int due))] (fun _=>False) fun y ε=>vG [.at (.str s),.at (.int h),.at (.bl b)] y/\xo 0 ε:=by
  intro n due d1 d2
  refine ⟨_,rfl,⟨_,rfl⟩,_,rfl,n,(h:Int),rfl,rfl,zU (by omega) (by omega),_,rfl,⟨_,rfl⟩,_,rfl,⟨_,rfl⟩,⟨b,rfl⟩,?_⟩
  rintro y n' ⟨v,rfl,v0,v1⟩
  have u0:0<=n % (h:Int):=Int.emod_nonneg _ (by omega)
  have u1:n % (h:Int) < h:=Int.emod_lt_of_pos _ (by omega)
  obtain ⟨u,hu⟩:=Int.eq_ofNat_of_zero_le u0
  rw [hu] at u1 ⊢
  have w0:0<=n' % 9:=Int.emod_nonneg _ (by decide)
  have w1:n' % 9 < 9:=Int.emod_lt_of_pos _ (by decide)
  exact ⟨_,rfl,_,rfl,_,rfl,⟨_,rfl⟩,_,rfl,n',9,rfl,rfl,⟨by decide,by decide⟩,_,rfl,l5,⟨s,h,b,⟨s,u,1 + v,due,1 + n' % 9⟩,rfl,rfl,rfl,⟨hs,(show u < h by omega),(show (1:Int)<=1 + v by omega),(show 1 + v<=i5 by omega),d1,d2,(show (1:Int)<=1 + n' % 9 by omega),(show 1 + n' % 9<=i5 by omega)⟩⟩,_,rfl⟩
 refine ⟨⟨n,rfl⟩,_,rfl,n,40,rfl,rfl,⟨by decide,by decide⟩,_,rfl,_,rfl,?_⟩
 have a0:0<=n % 40:=Int.emod_nonneg _ (by decide)
 have a1:n % 40 < 40:=Int.emod_lt_of_pos _ (by decide)
 generalize n % 40=p at a0 a1 ⊢
 generalize n / 40=n1
 cases b with
 | false=>exact vD rfl (rest _ _ (by omega) (by omega))
 | true =>
  have b0:0<=n1 % 3:=Int.emod_nonneg _ (by decide)
  have b1:n1 % 3 < 3:=Int.emod_lt_of_pos _ (by decide)
  have m1:(p - 6) * T26<=34 * T26:=Int.mul_le_mul_of_nonneg_right (by omega) (by omega)
  have m2:-6 * T26<=(p - 6) * T26:=Int.mul_le_mul_of_nonneg_right (by omega) (by omega)
  exact Xa rfl ⟨_,w9 rfl (w9 rfl rfl pow26) (Qw (a:=p - 6) (b:=T26) (by omega) (by omega) (by omega) (by omega)),⟨_,rfl⟩,_,rfl,n1,3,rfl,rfl,⟨by decide,by decide⟩,_,rfl,rest _ _ (by omega) (by omega)⟩
theorem De (F:Fun K "_law_cloth" "_law_cloth" Zu f fd) (Ad:Fn P w K mg base 1 "_law_digit" ["row", "many"] jg) (Ar:Fn P w K mg base 2 "_law_number" ["row", "great"] (spD zb zh)):FnOk P w K mg base v5 3 f fd ["row", "name", "hues", "great"] (spD wE vG) :=
 okD (k:=2) (b:=Wl K) F sc_cloth Pq (fun cdv A outer s H E hr=>⟨_,(@j9 _ _ _ _ _ (@u9 _ _ 4 _ _ _ _ sc_cloth.nd rfl (Or.inl rfl) (y6 (Qx) (j8 Ad hr (by decide) rfl (@q0 _ _ _ _ _ (pv 0) (@q0 _ _ _ _ _ z6 x9 (by rfl)) (by rfl))) z6) (by rfl) (.inl rfl))
  (@j9 _ _ _ _ _ (i8 (xf (K:=K) rfl (pv 3) (fun _=>rfl)) (@j5 _ _ _ (@u9 _ _ 4 _ _ _ _ sc_cloth.nd rfl (Or.inl rfl) (y6 (zm (K:=K) rfl) (y6 (vh) (pv 4) (y6 (wx) z6 z6)) (j8 Ad hr (by decide) rfl (@q0 _ _ _ _ _ (pv 0) (@q0 _ _ _ _ _ z6 x9 (by rfl)) (by rfl)))) (by rfl) (.inl rfl))) i9)
  (@j5 _ _ _ (w6 (@xz _ _ _ _ _ (@q0 _ _ _ _ _ (pv 1) (@q0 _ _ _ _ _ (j8 Ad hr (by decide) rfl (@q0 _ _ _ _ _ (pv 0) (@q0 _ _ _ _ _ (pv 2) x9 (by rfl)) (by rfl))) (@q0 _ _ _ _ _ (y6 (zm (K:=K) rfl) z6 (j8 Ar hr (by decide) rfl (@q0 _ _ _ _ _ (pv 0) (@q0 _ _ _ _ _ (pv 3) x9 (by rfl)) (by rfl)))) (@q0 _ _ _ _ _ (pv 4) (@q0 _ _ _ _ _ (y6 (zm (K:=K) rfl) z6 (j8 Ad hr (by decide) rfl (@q0 _ _ _ _ _ (pv 0) (@q0 _ _ _ _ _ z6 x9 (by rfl)) (by rfl)))) x9 (by rfl)) (by rfl)) (by rfl)) (by rfl)) (by rfl))))))),
  (by repeat' first | infer_instance | (refine @Mi.instSemWSTSeqWSeq _ _ _ _ ?_ ?_) | (apply @Mi.instSemWSTForWForOfSemWIOfSemWG))⟩) Py
def QE (K:Fg):List PV->Prop:=fun xs=>∃ (ns:List Int) (m:Nat),xs=[scr K ns,.at (.int m)]/\ns.length<=63/\m<=10
def vH:List PV->PV->Prop:=fun xs y=>∃ (d:Dr) (z:PV) (m:Nat),xs=[z,.at (.int m)]/\y=d.pv/\d.Ok/\d.cls.length<=m
abbrev ZR:Stmt:=u6 60
abbrev WJ (K:Fg):WS:=(wSeq (Jf 2 (vo K) jJ (g9 (wP (q9 0)) (g9 (wP (dC (.int 0))) qz)))
  (wSeq (t6 3 (qQ qw (i4 2 (wP (dC (.int 6)))) (wP (dC (.int 5)))))
  (wSeq (t6 4 (qQ qT (wP (dC (.int 1))) (i4 2 (wP (dC (.int 4))))))
  (wSeq (t6 5 (zf 2 QF vI (g9 (wP (q9 4)) (g9 (wP (q9 3)) qz))))
  (wSeq (Jf 6 (vo K) jJ (g9 (wP (q9 0)) (g9 (wP (dC (.int 1))) qz)))
  (wSeq (t6 7 (zf 6 QD Xc (g9 (i4 6 (wP (z0 qT (x0 1) (dC (.int 1))))) qz)))
  (wSeq (t6 8 (zy [none,some 6,some 4,some 3] [0] (wIp (i0 (q9 7))) (v4 0) zA (zf 1 wE vG (g9 (wP (q9 0)) (g9 (wP (q9 2)) (g9 (wP (q9 3)) qz))))))
  (qY (wL (g9 (wP (q9 5)) (g9 (wP (q9 8)) (g9 (qQ jB (i4 2 (wP (z0 qT (x0 4) (dC (.int 1))))) (wP (dC (.int 1)))) (g9 (zf 2 zb zh (g9 (wP (q9 3)) qz)) qz)))))))))))))
theorem sc_parts:w4 ["script", "most", "row", "great", "hues", "rinses", "more", "names", "cloths"] ["script", "most"] (z9 ZR):=⟨rfl,rfl,rfl,by decide +kernel,rfl,by decide +kernel,by decide +kernel⟩
theorem Pu {K:Fg}:∀ xs,QE K xs->xs.length=(["script", "most"]:List Str).length:=by
 rintro xs ⟨ns,m,rfl,_⟩;rfl
theorem PF {K:Fg}:∀ xs,QE K xs->WJ K (xs.map .sh++List.replicate ((["script", "most", "row", "great", "hues", "rinses", "more", "names", "cloths"]:List Str).length - xs.length) .no) (fun _=>False) fun y _=>vH xs y:=by
 rintro xs ⟨ns,mo,rfl,h63,hmo⟩
 have hB:=jm
 obtain ⟨t1,t2,t3⟩:=Ts
 have hlim:lim=1000000:=rfl
 refine ⟨_,rfl,_,rfl,⟨ns,0,rfl,h63,by decide,by decide⟩,?_⟩
 rintro y ⟨n,rfl⟩
 -- great,hues
 refine ⟨⟨n,rfl⟩,_,rfl,n,6,rfl,rfl,⟨by decide,by decide⟩,_,rfl,_,rfl,?_⟩
 generalize qf (.int (n % 6)) (.int 5)=great
 generalize n / 6=n1
 refine ⟨_,rfl,⟨_,rfl⟩,_,rfl,n1,4,rfl,rfl,⟨by decide,by decide⟩,_,rfl,?_⟩
 have a0:0<=n1 % 4:=Int.emod_nonneg _ (by decide)
 have a1:n1 % 4 < 4:=Int.emod_lt_of_pos _ (by decide)
 obtain ⟨h,hh⟩:=Int.eq_ofNat_of_zero_le (show 0<=1 + n1 % 4 by omega)
 generalize n1 / 4=n2
 have hh1:1<=h:=by omega
 have hh4:h<=4:=by omega
 rw [hh]
 clear a0 a1 hh
 -- rinses
 refine ⟨⟨_,rfl⟩,_,rfl,_,rfl,⟨_,rfl⟩,⟨h,great,rfl,hh1,hh4⟩,?_⟩
 rintro y n3 ⟨h',b',rss,e,rfl,hr⟩
 have e':h'=h:=by injection e with e _;injection e with e;injection e with e;omega
 subst e'
 have fin:∀ (n3 m:Int) (z:MSlot) (cs:List Cl),cs.length<=10->cs.length<=mo->(∀ c ∈ cs,c.Ok h')->(cs.map Cl.name).Nodup->((qY (wL (g9 (wP (q9 5)) (g9 (wP (q9 8)) (g9 (qQ jB (i4 2 (wP (z0 qT (x0 4) (dC (.int 1))))) (wP (dC (.int 1)))) (g9 (zf 2 zb zh (g9 (wP (q9 3)) qz)) qz)))))):WS) [.sh (scr K ns),.sh (.at (.int (mo:Int))),g0 n3,.sh (.at (.bl great)),.sh (.at (.int (h':Int))),.sh (qm rss),g0 m,z,.sh (.lst (cs.map Cl.pv))] (fun _=>False) fun y _=>vH [scr K ns,.at (.int (mo:Int))] y:=by
  intro n3 m z cs l10 lmo g1 nd
  have d0:0<=n3 % ((h':Int) + 1):=Int.emod_nonneg _ (by omega)
  have d1:n3 % ((h':Int) + 1) < (h':Int) + 1:=Int.emod_lt_of_pos _ (by omega)
  refine ⟨_,rfl,_,rfl,⟨n3,rfl⟩,_,rfl,n3,(h':Int) + 1,rfl,rfl,zU (by omega) (by omega),_,rfl,_,rfl,⟨_,rfl⟩,_,rfl,⟨_,rfl⟩,⟨great,rfl⟩,?_⟩
  rintro y n4 ⟨ti,rfl,ti0,ti1⟩
  exact ⟨by show 4<=lim;decide,⟨h',rss,cs,n3 % ((h':Int) + 1) - 1,ti⟩,scr K ns,mo,rfl,rfl,⟨hh1,hh4,hr,l10,g1,nd,(by show -1<=n3 % ((h':Int) + 1) - 1;omega),(by show n3 % ((h':Int) + 1) - 1 < (h':Int);omega),ti0,(by show ti < 60 * i5;omega)⟩,lmo⟩
 -- cloths
 have cloths:∀ (n3 q2:Int) (ss:List Str) (k:Nat),ss.length=k->k<=mo->ss.Nodup->(∀ s ∈ ss,vF s)->((wSeq (t6 8 (zy [none,some 6,some 4,some 3] [0] (wIp (i0 (q9 7))) (v4 0) zA (zf 1 wE vG (g9 (wP (q9 0)) (g9 (wP (q9 2)) (g9 (wP (q9 3)) qz))))))
  (qY (wL (g9 (wP (q9 5)) (g9 (wP (q9 8)) (g9 (qQ jB (i4 2 (wP (z0 qT (x0 4) (dC (.int 1))))) (wP (dC (.int 1)))) (g9 (zf 2 zb zh (g9 (wP (q9 3)) qz)) qz))))))):WS) [.sh (scr K ns),.sh (.at (.int (mo:Int))),g0 n3,.sh (.at (.bl great)),.sh (.at (.int (h':Int))),.sh (qm rss),g0 q2,.sh (.lst (v6 ss)),.no] (fun _=>False) fun y _=>vH [scr K ns,.at (.int (mo:Int))] y:=by
  intro n3 q2 ss k el hkm nd nok
  refine ⟨_,rfl,rfl,by rw [qE];omega,?_⟩
  refine wW (fun rest ys ε=>∃ (m:Int) (todo:List Str) (cs:List Cl),rest=v6 todo/\ε=[.no,g0 m,.sh (.at (.int (h':Int))),.sh (.at (.bl great))]/\ys=cs.map Cl.pv/\cs.map Cl.name++todo=ss/\(∀ c ∈ cs,c.Ok h')) ?_ ?_ _ [] _ ⟨q2,ss,[],rfl,rfl,rfl,rfl,(fun _ z=>nomatch z)⟩
  ·rintro ys ε ⟨m,todo,cs,e2,rfl,rfl,e3,g1⟩
   have:todo=[]:=by
    cases todo with
    | nil=>rfl
    | cons _ _=>cases e2
   subst this
   rw [List.append_nil] at e3
   have cl:cs.length=k:=by rw [<- el,<- e3,List.length_map]
   refine ⟨(fun ⟨y,e⟩=>nomatch (show some (MSlot.sh (scr K ns))=some (MSlot.ow y) from e)),?_⟩
   exact fin n3 m _ cs (by omega) (by omega) g1 (by rw [e3];exact nd)
  ·rintro x rest ys ε ⟨m,todo,cs,e2,rfl,rfl,e3,g1⟩
   cases todo with
   | nil=>cases e2
   | cons s todo =>
    have e2':x = .at (.str s)/\rest=v6 todo:=by
     injection e2 with e4 e5
     exact ⟨e4,e5⟩
    obtain ⟨rfl,rfl⟩:=e2'
    have hs:s ∈ ss:=by rw [<- e3];exact List.mem_append_right _ List.mem_cons_self
    refine ⟨_,rfl,⟨_,rfl⟩,_,rfl,_,rfl,_,rfl,⟨_,rfl⟩,⟨s,h',great,rfl,nok s hs,hh1,hh4⟩,?_⟩
    rintro y m2 ⟨s2,h2,b2,c,e4,rfl,en,ok⟩
    injection e4 with e4 e5
    injection e4 with e4
    injection e4 with e4
    injection e5 with e5 _
    injection e5 with e5
    injection e5 with e5
    have e6:h'=h2:=by omega
    subst e4 e6
    refine ⟨m2,todo,cs++[c],rfl,rfl,by rw [List.map_append];rfl,by rw [List.map_append,List.append_assoc,<- e3];show _++(c.name::todo)=_;rw [en],fun x hx=>?_⟩
    rcases List.mem_append.mp hx with hx | hx
    ·exact g1 x hx
    ·rw [List.mem_singleton.mp hx];exact ok
 -- names
 refine ⟨_,rfl,_,rfl,⟨ns,1,rfl,h63,by decide,by decide⟩,?_⟩
 rintro y ⟨q,rfl⟩
 have c0:0<=q % ((mo:Int) + 1):=Int.emod_nonneg _ (by omega)
 have c1:q % ((mo:Int) + 1) < (mo:Int) + 1:=Int.emod_lt_of_pos _ (by omega)
 obtain ⟨k,hk⟩:=Int.eq_ofNat_of_zero_le c0
 refine ⟨⟨_,rfl⟩,⟨_,rfl⟩,_,rfl,q,(mo:Int) + 1,rfl,rfl,zU (by omega) (by omega),⟨_,rfl⟩,⟨k,by rw [hk],by omega⟩,?_⟩
 rintro y q2 ⟨ss,rfl,e1,nd,nok⟩
 have el:ss.length=k:=by
  injection e1 with e1 _;injection e1 with e1;injection e1 with e1
  rw [hk] at e1
  omega
 exact cloths n3 q2 ss k el (by omega) nd nok
theorem DD (F:Fun K "_law_parts" "_law_parts" ZR f fd) (Eo:Fn P w K mg base 3 "_law_cloth" ["row", "name", "hues", "great"] (spD wE vG)) (Ad:Fn P w K mg base 1 "_law_digit" ["row", "many"] jg) (Ew:Fn P w K mg base 2 "_law_names" ["row", "many"] (spD QD Xc)) (Ar:Fn P w K mg base 2 "_law_number" ["row", "great"] (spD zb zh)) (Eh:Fn P w K mg base 3 "_law_rinses" ["row", "hues", "great"] (spD QF vI)) (Ay:Fn P w K mg base 2 "_law_stream" ["script", "k"] (spN (vo K) jJ)):FnOk P w K mg base v5 4 f fd ["script", "most"] (spV (QE K) vH) :=
 okV (k:=3) (b:=WJ K) F sc_parts Pu (fun cdv A outer s H E hr=>⟨_,(@j9 _ _ _ _ _ (@u9 _ _ 2 _ _ _ _ sc_parts.nd rfl (Or.inl rfl) (j8 Ay hr (by decide) rfl (@q0 _ _ _ _ _ (pv 0) (@q0 _ _ _ _ _ z6 x9 (by rfl)) (by rfl))) (by rfl) (.inl rfl))
  (@j9 _ _ _ _ _ (@u9 _ _ 3 _ _ _ _ sc_parts.nd rfl (Or.inr rfl) (zq (zK (K:=K) (hu6 hr) rfl) (j8 Ad hr (by decide) rfl (@q0 _ _ _ _ _ (pv 2) (@q0 _ _ _ _ _ z6 x9 (by rfl)) (by rfl))) z6 (t0 _)) (by rfl) (.inl rfl))
  (@j9 _ _ _ _ _ (@u9 _ _ 4 _ _ _ _ sc_parts.nd rfl (Or.inr rfl) (y6 (zm (K:=K) rfl) z6 (j8 Ad hr (by decide) rfl (@q0 _ _ _ _ _ (pv 2) (@q0 _ _ _ _ _ z6 x9 (by rfl)) (by rfl)))) (by rfl) (.inl rfl))
  (@j9 _ _ _ _ _ (@u9 _ _ 5 _ _ _ _ sc_parts.nd rfl (Or.inl rfl) (j8 Eh hr (by decide) rfl (@q0 _ _ _ _ _ (pv 2) (@q0 _ _ _ _ _ (pv 4) (@q0 _ _ _ _ _ (pv 3) x9 (by rfl)) (by rfl)) (by rfl))) (by rfl) (.inl rfl))
  (@j9 _ _ _ _ _ (@u9 _ _ 6 _ _ _ _ sc_parts.nd rfl (Or.inr rfl) (j8 Ay hr (by decide) rfl (@q0 _ _ _ _ _ (pv 0) (@q0 _ _ _ _ _ z6 x9 (by rfl)) (by rfl))) (by rfl) (.inl rfl))
  (@j9 _ _ _ _ _ (@u9 _ _ 7 _ _ _ _ sc_parts.nd rfl (Or.inl rfl) (j8 Ew hr (by decide) rfl (@q0 _ _ _ _ _ (pv 6) (@q0 _ _ _ _ _ (j8 Ad hr (by decide) rfl (@q0 _ _ _ _ _ (pv 6) (@q0 _ _ _ _ _ (y6 (zm (K:=K) rfl) (pv 1) z6) x9 (by rfl)) (by rfl))) x9 (by rfl)) (by rfl))) (by rfl) (.inl rfl))
  (@j9 _ _ _ _ _ (wF (i:=8) (N':=["name", "more", "hues", "great"]) (cap:=[none,some 6,some 4,some 3]) (o5 rfl rfl rfl) rfl sc_parts.nd rfl rfl (@qH _ K _ _ _ rfl (pv 7)) (fun _ _ _ _ _ _=>(p9 (i:=0) (by show (["name", "more", "hues", "great"]:List Str).Nodup;decide +kernel) rfl (Or.inl rfl))) (fun _ _ _ _ _ _=>qh) (fun _ _ _ _ _ _=>(j8 Eo hr (by decide) rfl (@q0 _ _ _ _ _ (pv 1) (@q0 _ _ _ _ _ (pv 0) (@q0 _ _ _ _ _ (pv 2) (@q0 _ _ _ _ _ (pv 3) x9 (by rfl)) (by rfl)) (by rfl)) (by rfl)))))
  (@j5 _ _ _ (w6 (@xz _ _ _ _ _ (@q0 _ _ _ _ _ (pv 5) (@q0 _ _ _ _ _ (pv 8) (@q0 _ _ _ _ _ (y6 (Qx) (j8 Ad hr (by decide) rfl (@q0 _ _ _ _ _ (pv 2) (@q0 _ _ _ _ _ (y6 (zm (K:=K) rfl) (pv 4) z6) x9 (by rfl)) (by rfl))) z6) (@q0 _ _ _ _ _ (j8 Ar hr (by decide) rfl (@q0 _ _ _ _ _ (pv 2) (@q0 _ _ _ _ _ (pv 3) x9 (by rfl)) (by rfl))) x9 (by rfl)) (by rfl)) (by rfl)) (by rfl)))))))))))),
  (by repeat' first | infer_instance | (refine @Mi.instSemWSTSeqWSeq _ _ _ _ ?_ ?_) | (apply @Mi.instSemWSTForWForOfSemWIOfSemWG))⟩) PF
def QG:List PV->Prop:=fun xs=>∃ d:Dr,xs=[d.pv]/\d.Ok
def wN:List PV->PV->Prop:=fun xs y=>∃ (d:Dr) (os:List Str),xs=[d.pv]/\y = .lst (v6 os)/\os.Nodup/\∀ s ∈ os,s ∈ d.cls.map Cl.name
abbrev ZU:Stmt:=u6 63
abbrev WM (K:Fg):WS:=(wSeq (jk 2 (m9 [none] [0] (i0 (z0 j4 (x0 1) (dC (.int 1)))) (v4 0) r9 (z0 j4 (x0 0) (dC (.int 0)))))
  (wSeq (t6 3 (wP (z5 o9 (q8 (x0 2) x8))))
  (wSeq (qX (wT (qQ qw (i4 0 (wP (dC (.int 3)))) (wP (dC (.int 0))))) (t6 3 (i4 0 (wP (z0 qT (z5 o9 (q8 (x0 2) x8)) (dC (.int 1)))))) xp)
  (qY (zy [none,some 2,some 0] [0] (wIp (qu (q8 (q9 3) x8))) (v4 0) zA (QZ 1 (i4 2 (wP (z5 o9 (q8 (x0 1) x8))))))))))
theorem sc_some:w4 ["row", "parts", "free", "many"] ["row", "parts"] (z9 ZU):=⟨rfl,rfl,rfl,by decide +kernel,rfl,by decide +kernel,by decide +kernel⟩
theorem Px:∀ xs,QG xs->xs.length + 1=(["row", "parts"]:List Str).length:=by
 rintro xs ⟨d,rfl,_⟩;rfl
theorem PJ {K:Fg}:∀ xs n,QG xs->WM K (g0 n::xs.map .sh++List.replicate ((["row", "parts", "free", "many"]:List Str).length - (xs.length + 1)) .no) (fun _=>False) fun y ε=>wN xs y/\xo 0 ε:=by
 rintro xs n ⟨d,rfl,ok⟩
 have hl:lim=1000000:=rfl
 have hB:=jm
 have ten:=ok.ten
 have fr:m9 [none] [0] (i0 (z0 j4 (x0 1) (dC (.int 1)))) (v4 0) r9 (z0 j4 (x0 0) (dC (.int 0))) [g0 n,.sh d.pv,.no,.no]=some (.lst (v6 (d.cls.map Cl.name))):=by
  refine (qR Cl.pv (fun c=>PV.at (.str c.name)) d.cls rfl rfl (by omega) fun c _=>⟨_,rfl,rfl⟩).trans ?_
  unfold v6
  rw [List.map_map];rfl
 refine ⟨_,fr,_,rfl,?_⟩
 generalize hall:d.cls.map Cl.name=all
 have al:all.length<=10:=by rw [<- hall,List.length_map];exact ten
 have rest:∀ (n:Int) (k:Nat),k<=all.length->((qY (zy [none,some 2,some 0] [0] (wIp (qu (q8 (q9 3) x8))) (v4 0) zA (QZ 1 (i4 2 (wP (z5 o9 (q8 (x0 1) x8))))))):WS) [g0 n,.sh d.pv,.ow (.lst (v6 all)),.sh (.at (.int (k:Int)))] (fun _=>False) fun y ε=>wN [d.pv] y/\xo 0 ε:=by
  intro n k hk
  refine ⟨xL 0 k,zt rfl (by omega),rfl,by rw [jf];omega,?_⟩
  refine wW (fun rest ys ε=>∃ (m:Int) (free got:List Str),ε=[.no,.ow (.lst (v6 free)),g0 m]/\ys=v6 got/\got.length + rest.length=k/\(got++free).Perm all) ?_ ?_ (xL 0 k) [] _ ⟨n,all,[],rfl,rfl,by rw [jf];simp,.refl _⟩
  ·rintro ys ε ⟨m,free,got,rfl,rfl,h1,h2⟩
   have nd:(got++free).Nodup:=h2.nodup_iff.mpr (hall ▸ ok.nd)
   exact ⟨fun _=>⟨_,rfl⟩,⟨d,got,rfl,rfl,(List.nodup_append.mp nd).1,fun s hs=>hall ▸ h2.mem_iff.mp (List.mem_append_left _ hs)⟩,m,rfl⟩
  ·rintro x rest ys ε ⟨m,free,got,rfl,rfl,h1,h2⟩
   simp only [List.length_cons] at h1
   have hlen:=h2.length_eq
   rw [List.length_append] at hlen
   refine ⟨_,rfl,?_⟩
   have hf:0 < free.length:=by omega
   have c0:0<=m % (((v6 free).length:Nat):Int):=Int.emod_nonneg _ (by rw [qE];omega)
   have c1:m % (((v6 free).length:Nat):Int) < (((v6 free).length:Nat):Int):=Int.emod_lt_of_pos _ (by rw [qE];omega)
   refine ⟨⟨_,rfl⟩,⟨m,rfl⟩,_,rfl,m,(((v6 free).length:Nat):Int),rfl,rfl,zU (by rw [qE];omega) (by rw [qE];omega),?_⟩
   generalize hj:m % (((v6 free).length:Nat):Int)=j at c0 c1
   rw [qE] at c1
   have hjl:j.toNat < free.length:=by omega
   refine ⟨v6 free,j,.at (.str free[j.toNat]),rfl,rfl,c0,by rw [qE];exact c1,by rw [qE];omega,?_,?_⟩
   ·unfold v6
    rw [List.getElem?_map,List.getElem?_eq_getElem hjl]
    rfl
   ·refine ⟨m / (((v6 free).length:Nat):Int),free.eraseIdx j.toNat,got++[free[j.toNat]],?_,?_,?_,UW hjl h2⟩
    ·show [MSlot.no,MSlot.ow (.lst ((v6 free).eraseIdx j.toNat)),g0 _]=_
     unfold v6
     rw [JE]
    ·unfold v6
     rw [List.map_append]
     rfl
    ·rw [List.length_append]
     simp only [List.length_cons,List.length_nil]
     omega
 refine ⟨⟨_,rfl⟩,_,rfl,n,3,rfl,rfl,⟨by decide,by decide⟩,_,rfl,_,rfl,decide (n % 3=0),rfl,?_⟩
 have sl:(v6 all).length=all.length:=qE _
 by_cases hk:n % 3=0
 ·refine Eq.mpr (if_pos (decide_eq_true hk)) ?_
  have c0:0<=n / 3 % (((v6 all).length:Int) + 1):=Int.emod_nonneg _ (by omega)
  have c1:n / 3 % (((v6 all).length:Int) + 1) < ((v6 all).length:Int) + 1:=Int.emod_lt_of_pos _ (by omega)
  obtain ⟨k,hk⟩:=Int.eq_ofNat_of_zero_le c0
  refine ⟨⟨_,rfl⟩,_,rfl,n / 3,((v6 all).length:Int) + 1,rfl,rfl,zU (by omega) (by omega),?_⟩
  rw [hk]
  exact rest _ k (by omega)
 ·refine Eq.mpr (if_neg (by rw [decide_eq_false hk];exact Bool.false_ne_true)) ?_
  have:=rest (n / 3) all.length (Nat.le_refl _)
  rw [<- sl] at this
  exact this
theorem DG (F:Fun K "_law_some" "_law_some" ZU f fd) (Ad:Fn P w K mg base 1 "_law_digit" ["row", "many"] jg) (Ae:mg "len"=none) (Ac:mg "range"=none):FnOk P w K mg base v5 2 f fd ["row", "parts"] (spDO QG wN) :=
 okDO (k:=1) (b:=WM K) F sc_some Px (fun cdv A outer s H E hr=>⟨_,(@j9 _ _ _ _ _ (@u9 _ _ 2 _ _ _ _ sc_some.nd rfl (Or.inr rfl) (qD (N':=["cloth"]) (cap:=[none]) (o5 rfl rfl rfl) rfl (@qH _ K _ _ _ rfl (y9 (g8 (K:=K) rfl) (pv 1) z6 (fun _ _=>rfl))) (fun _ _ _ _ _ _=>(p9 (i:=0) (by show (["cloth"]:List Str).Nodup;decide +kernel) rfl (Or.inl rfl))) (fun _ _ _ _ _ _=>qh) (fun _ _ _ _ _ _=>(y9 (g8 (K:=K) rfl) (pv 0) z6 (fun _ _=>rfl)))) (by rfl) (.inl rfl))
  (@j9 _ _ _ _ _ (@u9 _ _ 3 _ _ _ _ sc_some.nd rfl (Or.inl rfl) (n8 (xa (K:=K) rfl) rfl Ae PySem.boot_len (@q0 _ _ _ _ _ (pv 2) x9 (by rfl))) (by rfl) (.inl rfl))
  (@j9 _ _ _ _ _ (i8 (ql (zK (K:=K) (hu6 hr) rfl) (j8 Ad hr (by decide) rfl (@q0 _ _ _ _ _ (pv 0) (@q0 _ _ _ _ _ z6 x9 (by rfl)) (by rfl))) z6 (t0 _)) (@j5 _ _ _ (@u9 _ _ 3 _ _ _ _ sc_some.nd rfl (Or.inl rfl) (j8 Ad hr (by decide) rfl (@q0 _ _ _ _ _ (pv 0) (@q0 _ _ _ _ _ (y6 (zm (K:=K) rfl) (n8 (xa (K:=K) rfl) rfl Ae PySem.boot_len (@q0 _ _ _ _ _ (pv 2) x9 (by rfl))) z6) x9 (by rfl)) (by rfl))) (by rfl) (.inl rfl))) i9)
  (@j5 _ _ _ (w6 (qD (N':=["k", "free", "row"]) (cap:=[none,some 2,some 0]) (o5 rfl rfl rfl) rfl (xS rfl Ac (@q0 _ _ _ _ _ (pv 3) x9 (by rfl))) (fun _ _ _ _ _ _=>(p9 (i:=0) (by show (["k", "free", "row"]:List Str).Nodup;decide +kernel) rfl (Or.inl rfl))) (fun _ _ _ _ _ _=>qh) (fun _ _ _ _ _ _=>(wB (K:=K) rfl PySem.F.plainAttrs_list PySem.F.slot_list_pop PySem.F.type_list_pop UE (pv 1) (q0 (j8 Ad hr (by decide) rfl (@q0 _ _ _ _ _ (pv 2) (@q0 _ _ _ _ _ (n8 (xa (K:=K) rfl) rfl Ae PySem.boot_len (@q0 _ _ _ _ _ (pv 1) x9 (by rfl))) x9 (by rfl)) (by rfl))) x9))))))))),
  (by repeat' first | infer_instance | (refine @Mi.instSemWSTSeqWSeq _ _ _ _ ?_ ?_) | (apply @Mi.instSemWSTForWForOfSemWIOfSemWG) | (refine @Mi.instSemWSOTSeqWSeqOfSemWSOfNoRet _ _ _ _ ?_ ?_ ?_))⟩) PJ
abbrev ZG:Stmt:=u6 13
abbrev Ww:MS:=(w5 (zE (z5 qx (q8 (x0 0) (q8 (dC (.ty "int")) x8))) (Xj (z5 qx (q8 (x0 0) (q8 (dC (.ty "bool")) x8))))))
def jA:List PV->Option PV:=t9 1 1 Ww
theorem LD:w4 ["thing"] ["thing"] (z9 ZG):=⟨rfl,rfl,rfl,by decide +kernel,rfl,by decide +kernel,by decide +kernel⟩
theorem Dq (F:Fun K "is_whole" "is_whole" ZG f fd) (Ef:mg "bool"=none) (Ie:mg "int"=none) (Ab:mg "isinstance"=none):FnOk P w K mg base v5 1 f fd ["thing"] (v7 jA) :=
 qg (k:=0) (b:=Ww) F LD rfl fun cdv A outer s H E hr=>⟨_,(@j5 _ _ _ (w6 (vk (n8 (jt (K:=K) rfl) rfl Ab js (@q0 _ _ _ _ _ (pv 0) (@q0 _ _ _ _ _ (jC (v:= .ty "int") rfl Ie Bk rfl) x9 (by rfl)) (by rfl))) (wC (Mh (n8 (jt (K:=K) rfl) rfl Ab js (@q0 _ _ _ _ _ (pv 0) (@q0 _ _ _ _ _ (jC (v:= .ty "bool") rfl Ef Yi rfl) x9 (by rfl)) (by rfl)))))))),
  inferInstance⟩
abbrev ZN:Stmt:=u6 16
abbrev WF:MS:=(w5 (z0 j4 (x0 0) (dC (.int 0))))
def xy:List PV->Option PV:=t9 1 1 WF
theorem LJ:w4 ["cloth"] ["cloth"] (z9 ZN):=⟨rfl,rfl,rfl,by decide +kernel,rfl,by decide +kernel,by decide +kernel⟩
theorem Dz (F:Fun K "name_of" "name_of" ZN f fd) :FnOk P w K mg base v5 1 f fd ["cloth"] (v7 xy) :=
 qg (k:=0) (b:=WF) F LJ rfl fun cdv A outer s H E hr=>⟨_,(@j5 _ _ _ (w6 (y9 (g8 (K:=K) rfl) (pv 0) z6 (fun _ _=>rfl)))),
  inferInstance⟩
abbrev Zy:Stmt:=u6 17
abbrev Wo:MS:=(w5 (z0 j4 (x0 0) (dC (.int 1))))
def wp:List PV->Option PV:=t9 1 1 Wo
theorem Lv:w4 ["cloth"] ["cloth"] (z9 Zy):=⟨rfl,rfl,rfl,by decide +kernel,rfl,by decide +kernel,by decide +kernel⟩
theorem Di (F:Fun K "hue_of" "hue_of" Zy f fd) :FnOk P w K mg base v5 1 f fd ["cloth"] (v7 wp) :=
 qg (k:=0) (b:=Wo) F Lv rfl fun cdv A outer s H E hr=>⟨_,(@j5 _ _ _ (w6 (y9 (g8 (K:=K) rfl) (pv 0) z6 (fun _ _=>rfl)))),
  inferInstance⟩
abbrev ZK:Stmt:=u6 18
abbrev WD:MS:=(w5 (z0 j4 (x0 0) (dC (.int 2))))
def Qs:List PV->Option PV:=t9 1 1 WD
theorem LH:w4 ["cloth"] ["cloth"] (z9 ZK):=⟨rfl,rfl,rfl,by decide +kernel,rfl,by decide +kernel,by decide +kernel⟩
theorem Dw (F:Fun K "length_of" "length_of" ZK f fd) :FnOk P w K mg base v5 1 f fd ["cloth"] (v7 Qs) :=
 qg (k:=0) (b:=WD) F LH rfl fun cdv A outer s H E hr=>⟨_,(@j5 _ _ _ (w6 (y9 (g8 (K:=K) rfl) (pv 0) z6 (fun _ _=>rfl)))),
  inferInstance⟩
abbrev Zw:Stmt:=u6 19
abbrev Wm:MS:=(w5 (z0 j4 (x0 0) (dC (.int 3))))
def Qo:List PV->Option PV:=t9 1 1 Wm
theorem Ls:w4 ["cloth"] ["cloth"] (z9 Zw):=⟨rfl,rfl,rfl,by decide +kernel,rfl,by decide +kernel,by decide +kernel⟩
theorem Dg (F:Fun K "due_of" "due_of" Zw f fd) :FnOk P w K mg base v5 1 f fd ["cloth"] (v7 Qo) :=
 qg (k:=0) (b:=Wm) F Ls rfl fun cdv A outer s H E hr=>⟨_,(@j5 _ _ _ (w6 (y9 (g8 (K:=K) rfl) (pv 0) z6 (fun _ _=>rfl)))),
  inferInstance⟩
abbrev Jb:Stmt:=u6 20
abbrev WV:MS:=(w5 (z0 j4 (x0 0) (dC (.int 4))))
def vf:List PV->Option PV:=t9 1 1 WV
theorem LP:w4 ["cloth"] ["cloth"] (z9 Jb):=⟨rfl,rfl,rfl,by decide +kernel,rfl,by decide +kernel,by decide +kernel⟩
theorem DP (F:Fun K "weight_of" "weight_of" Jb f fd) :FnOk P w K mg base v5 1 f fd ["cloth"] (v7 vf) :=
 qg (k:=0) (b:=WV) F LP rfl fun cdv A outer s H E hr=>⟨_,(@j5 _ _ _ (w6 (y9 (g8 (K:=K) rfl) (pv 0) z6 (fun _ _=>rfl)))),
  inferInstance⟩
abbrev ZD:Stmt:=u6 21
abbrev Wt:MS:=(w5 (zE (z5 jA (q8 (q9 0) x8)) (z0 pGe (x0 0) (x0 1))))
def zJ:List PV->Option PV:=t9 2 2 Wt
theorem LA:w4 ["thing", "least"] ["thing", "least"] (z9 ZD):=⟨rfl,rfl,rfl,by decide +kernel,rfl,by decide +kernel,by decide +kernel⟩
theorem Dn (F:Fun K "is_from" "is_from" ZD f fd) (Ai:Fn P w K mg base 1 "is_whole" ["thing"] (v7 jA)):FnOk P w K mg base v5 2 f fd ["thing", "least"] (v7 zJ) :=
 qg (k:=1) (b:=Wt) F LA rfl fun cdv A outer s H E hr=>⟨_,(@j5 _ _ _ (w6 (vk (j8 Ai hr (by decide) rfl (@q0 _ _ _ _ _ (pv 0) x9 (by rfl))) (wC (zq (XS) (pv 0) (pv 1) (t0 _)))))),
  inferInstance⟩
abbrev ZE:Stmt:=u6 12
abbrev Wu:MS:=(v9 (m5 (dOr (qB (o6 (z5 qx (q8 (x0 0) (q8 (dC (.ty "str")) x8))))) (qB (dT (jO pLe pLe (dC (.int 1)) (z5 o9 (q8 (x0 0) x8)) (dC (.int 8)))))) (w5 (dC (.bl false))) n5)
  (w5 (z5 zn (q8 (m9 [none] [0] (dItS (q9 0)) (v4 0) r9 (jO pLeS pLeS (dC (.str "a")) (x0 0) (dC (.str "z")))) x8))))
def XI:List PV->Option PV:=t9 1 1 Wu
theorem LB:w4 ["thing"] ["thing"] (z9 ZE):=⟨rfl,rfl,rfl,by decide +kernel,rfl,by decide +kernel,by decide +kernel⟩
theorem Do (F:Fun K "is_name" "is_name" ZE f fd) (Ax:mg "all"=none) (Ab:mg "isinstance"=none) (Ae:mg "len"=none) (Ii:mg "str"=none) {Az:Tok} (A7:mg "LONGEST_NAME"=some (.int 8 Az)):FnOk P w K mg base v5 1 f fd ["thing"] (v7 XI) :=
 qg (k:=0) (b:=Wu) F LB rfl fun cdv A outer s H E hr=>⟨_,(@j9 _ _ _ _ _ (i8 (PW.pt (wG (xA (xf (K:=K) rfl (n8 (jt (K:=K) rfl) rfl Ab js (@q0 _ _ _ _ _ (pv 0) (@q0 _ _ _ _ _ (jC (v:= .ty "str") rfl Ii Bm rfl) x9 (by rfl)) (by rfl))) (fun _=>rfl))) (QL (xA (Ga (XT) (XT) z6 (n8 (xa (K:=K) rfl) rfl Ae PySem.boot_len (@q0 _ _ _ _ _ (pv 0) x9 (by rfl))) (XX (v:= .int 8) rfl A7 ⟨_,rfl⟩)))))) (@j5 _ _ _ (w6 za)) i9)
  (@j5 _ _ _ (w6 (n8 (wV (K:=K) rfl rfl) rfl Ax wU (@q0 _ _ _ _ _ (qD (N':=["sign"]) (cap:=[none]) (o5 rfl rfl rfl) rfl (Mq (pv 0)) (fun _ _ _ _ _ _=>(p9 (i:=0) (by show (["sign"]:List Str).Nodup;decide +kernel) rfl (Or.inl rfl))) (fun _ _ _ _ _ _=>qh) (fun _ _ _ _ _ _=>(Mb (UL) (UL) xK (pv 0) xK))) x9 (by rfl)))))),
  inferInstance⟩
abbrev ZC:Stmt:=u6 22
abbrev Ws:MS:=(v9 (m5 (dOr (qB (o6 (z5 qx (q8 (x0 0) (q8 (dC (.ty "tuple")) x8))))) (dT (z0 pNe (z5 o9 (q8 (x0 0) x8)) (dC (.int 5))))) (w5 (dC (.bl false))) n5)
  (v9 (m5 (dOr (qB (o6 (z5 XI (q8 (z5 xy (q8 (q9 0) x8)) x8)))) (dOr (qB (o6 (z5 zJ (q8 (z5 wp (q8 (q9 0) x8)) (q8 (dC (.int 0)) x8))))) (dT (z0 pGe (z5 wp (q8 (q9 0) x8)) (x0 1))))) (w5 (dC (.bl false))) n5)
  (w5 (zE (z5 zJ (q8 (z5 Qs (q8 (q9 0) x8)) (q8 (dC (.int 1)) x8))) (zE (z5 jA (q8 (z5 Qo (q8 (q9 0) x8)) x8)) (z5 zJ (q8 (z5 vf (q8 (q9 0) x8)) (q8 (dC (.int 1)) x8))))))))
def XH:List PV->Option PV:=t9 2 2 Ws
theorem Lz:w4 ["thing", "hues"] ["thing", "hues"] (z9 ZC):=⟨rfl,rfl,rfl,by decide +kernel,rfl,by decide +kernel,by decide +kernel⟩
theorem Dm (F:Fun K "is_cloth" "is_cloth" ZC f fd) (B5:Fn P w K mg base 1 "due_of" ["cloth"] (v7 Qo)) (A5:Fn P w K mg base 1 "hue_of" ["cloth"] (v7 wp)) (An:Fn P w K mg base 2 "is_from" ["thing", "least"] (v7 zJ)) (Ed:Fn P w K mg base 1 "is_name" ["thing"] (v7 XI)) (Ai:Fn P w K mg base 1 "is_whole" ["thing"] (v7 jA)) (Ap:Fn P w K mg base 1 "length_of" ["cloth"] (v7 Qs)) (Af:Fn P w K mg base 1 "name_of" ["cloth"] (v7 xy)) (Am:Fn P w K mg base 1 "weight_of" ["cloth"] (v7 vf)) (Ab:mg "isinstance"=none) (Ae:mg "len"=none) (Es:mg "tuple"=none) {Ep:Tok} (Ex:mg "PARTS"=some (.int 5 Ep)):FnOk P w K mg base v5 3 f fd ["thing", "hues"] (v7 XH) :=
 qg (k:=2) (b:=Ws) F Lz rfl fun cdv A outer s H E hr=>⟨_,(@j9 _ _ _ _ _ (i8 (PW.pt (wG (xA (xf (K:=K) rfl (n8 (jt (K:=K) rfl) rfl Ab js (@q0 _ _ _ _ _ (pv 0) (@q0 _ _ _ _ _ (jC (v:= .ty "tuple") rfl Es Bo rfl) x9 (by rfl)) (by rfl))) (fun _=>rfl))) (QL (ql (XU (K:=K) (hu6 hr) rfl) (n8 (xa (K:=K) rfl) rfl Ae PySem.boot_len (@q0 _ _ _ _ _ (pv 0) x9 (by rfl))) (XX (v:= .int 5) rfl Ex ⟨_,rfl⟩) (t0 _))))) (@j5 _ _ _ (w6 za)) i9)
  (@j9 _ _ _ _ _ (i8 (PW.pt (wG (xA (xf (K:=K) rfl (j8 Ed hr (by decide) rfl (@q0 _ _ _ _ _ (j8 Af hr (by decide) rfl (@q0 _ _ _ _ _ (pv 0) x9 (by rfl))) x9 (by rfl))) (fun _=>rfl))) (wG (xA (xf (K:=K) rfl (j8 An hr (by decide) rfl (@q0 _ _ _ _ _ (j8 A5 hr (by decide) rfl (@q0 _ _ _ _ _ (pv 0) x9 (by rfl))) (@q0 _ _ _ _ _ z6 x9 (by rfl)) (by rfl))) (fun _=>rfl))) (QL (ql (XS) (j8 A5 hr (by decide) rfl (@q0 _ _ _ _ _ (pv 0) x9 (by rfl))) (pv 1) (t0 _)))))) (@j5 _ _ _ (w6 za)) i9)
  (@j5 _ _ _ (w6 (vk (j8 An hr (by decide) rfl (@q0 _ _ _ _ _ (j8 Ap hr (by decide) rfl (@q0 _ _ _ _ _ (pv 0) x9 (by rfl))) (@q0 _ _ _ _ _ z6 x9 (by rfl)) (by rfl))) (vk (j8 Ai hr (by decide) rfl (@q0 _ _ _ _ _ (j8 B5 hr (by decide) rfl (@q0 _ _ _ _ _ (pv 0) x9 (by rfl))) x9 (by rfl))) (wC (j8 An hr (by decide) rfl (@q0 _ _ _ _ _ (j8 Am hr (by decide) rfl (@q0 _ _ _ _ _ (pv 0) x9 (by rfl))) (@q0 _ _ _ _ _ z6 x9 (by rfl)) (by rfl)))))))))),
  inferInstance⟩
abbrev ZF:Stmt:=u6 38
abbrev Wv:MS:=(v9 (m5 (dOr (qB (o6 (z5 qx (q8 (x0 0) (q8 (dC (.ty "list")) x8))))) (dT (z0 pNe (z5 o9 (q8 (x0 0) x8)) (x0 1)))) (w5 (dC (.bl false))) n5)
  (w5 (z5 zn (q8 (m9 [none] [0] (i0 (q9 0)) (v4 0) r9 (zE (z5 jA (q8 (q9 0) x8)) (z0 pGe (x0 0) (dC (.int 0))))) x8))))
def Qq:List PV->Option PV:=t9 2 2 Wv
theorem LC:w4 ["row", "hues"] ["row", "hues"] (z9 ZF):=⟨rfl,rfl,rfl,by decide +kernel,rfl,by decide +kernel,by decide +kernel⟩
theorem Dp (F:Fun K "is_rinse_row" "is_rinse_row" ZF f fd) (Ai:Fn P w K mg base 1 "is_whole" ["thing"] (v7 jA)) (Ax:mg "all"=none) (Ab:mg "isinstance"=none) (Ae:mg "len"=none) (Al:mg "list"=none):FnOk P w K mg base v5 2 f fd ["row", "hues"] (v7 Qq) :=
 qg (k:=1) (b:=Wv) F LC rfl fun cdv A outer s H E hr=>⟨_,(@j9 _ _ _ _ _ (i8 (PW.pt (wG (xA (xf (K:=K) rfl (n8 (jt (K:=K) rfl) rfl Ab js (@q0 _ _ _ _ _ (pv 0) (@q0 _ _ _ _ _ (jC (v:= .ty "list") rfl Al vO rfl) x9 (by rfl)) (by rfl))) (fun _=>rfl))) (QL (ql (XU (K:=K) (hu6 hr) rfl) (n8 (xa (K:=K) rfl) rfl Ae PySem.boot_len (@q0 _ _ _ _ _ (pv 0) x9 (by rfl))) (pv 1) (t0 _))))) (@j5 _ _ _ (w6 za)) i9)
  (@j5 _ _ _ (w6 (n8 (wV (K:=K) rfl rfl) rfl Ax wU (@q0 _ _ _ _ _ (qD (N':=["number"]) (cap:=[none]) (o5 rfl rfl rfl) rfl (@qH _ K _ _ _ rfl (pv 0)) (fun _ _ _ _ _ _=>(p9 (i:=0) (by show (["number"]:List Str).Nodup;decide +kernel) rfl (Or.inl rfl))) (fun _ _ _ _ _ _=>qh) (fun _ _ _ _ _ _=>(vk (j8 Ai hr (by decide) rfl (@q0 _ _ _ _ _ (pv 0) x9 (by rfl))) (wC (zq (XS) (pv 0) z6 (t0 _)))))) x9 (by rfl)))))),
  inferInstance⟩
abbrev Zs:Stmt:=u6 39
abbrev Wi:MS:=(v9 (m5 (qB (o6 (z5 qx (q8 (x0 0) (q8 (dC (.ty "list")) x8))))) xW n5)
  (v9 (n9 1 (z0 jB (z5 o9 (q8 (x0 0) x8)) (dC (.int 1))))
  (v9 (m5 (qB (dT (jO pLe pLe (dC (.int 1)) (x0 1) (dC (.int 4))))) xW n5)
  (m5 (qB (o6 (z5 zn (q8 (m9 [none,some 1] [0] (i0 (q9 0)) (v4 0) r9 (z5 Qq (q8 (q9 0) (q8 (q9 1) x8)))) x8)))) xW n5))))
def XF:List PV->Option PV:=t9 2 1 Wi
theorem sc_check_rinses:w4 ["rinses", "hues"] ["rinses"] (z9 Zs):=⟨rfl,rfl,rfl,by decide +kernel,rfl,by decide +kernel,by decide +kernel⟩
theorem Dc (F:Fun K "check_rinses" "check_rinses" Zs f fd) (A6:Fn P w K mg base 2 "is_rinse_row" ["row", "hues"] (v7 Qq)) (Ax:mg "all"=none) (Ab:mg "isinstance"=none) (Ae:mg "len"=none) (Al:mg "list"=none) {D3:Tok} (D5:mg "MOST_HUES"=some (.int 4 D3)):FnOk P w K mg base v5 3 f fd ["rinses"] (v7 XF) :=
 qg (k:=2) (b:=Wi) F sc_check_rinses rfl fun cdv A outer s H E hr=>⟨_,(@j9 _ _ _ _ _ (i8 (xA (xf (K:=K) rfl (n8 (jt (K:=K) rfl) rfl Ab js (@q0 _ _ _ _ _ (pv 0) (@q0 _ _ _ _ _ (jC (v:= .ty "list") rfl Al vO rfl) x9 (by rfl)) (by rfl))) (fun _=>rfl))) (@j5 _ _ _ jd) i9)
  (@j9 _ _ _ _ _ (@u9 _ _ 1 _ _ _ _ sc_check_rinses.nd rfl (Or.inr rfl) (y6 (Qx) (n8 (xa (K:=K) rfl) rfl Ae PySem.boot_len (@q0 _ _ _ _ _ (pv 0) x9 (by rfl))) z6) (by rfl) (.inl rfl))
  (@j9 _ _ _ _ _ (i8 (xA (Ga (XT) (XT) z6 (pv 1) (XX (v:= .int 4) rfl D5 ⟨_,rfl⟩))) (@j5 _ _ _ jd) i9)
  (@j5 _ _ _ (i8 (xA (xf (K:=K) rfl (n8 (wV (K:=K) rfl rfl) rfl Ax wU (@q0 _ _ _ _ _ (qD (N':=["row", "hues"]) (cap:=[none,some 1]) (o5 rfl rfl rfl) rfl (@qH _ K _ _ _ rfl (pv 0)) (fun _ _ _ _ _ _=>(p9 (i:=0) (by show (["row", "hues"]:List Str).Nodup;decide +kernel) rfl (Or.inl rfl))) (fun _ _ _ _ _ _=>qh) (fun _ _ _ _ _ _=>(j8 A6 hr (by decide) rfl (@q0 _ _ _ _ _ (pv 0) (@q0 _ _ _ _ _ (pv 1) x9 (by rfl)) (by rfl))))) x9 (by rfl))) (fun _=>rfl))) (@j5 _ _ _ jd) i9))))),
  inferInstance⟩
abbrev ZW:Stmt:=u6 40
abbrev WO:MS:=(w5 (m9 [none,none] [0,1] (wX (q8 (q9 0) x8)) (xJ 2 (o8 (v4 0) (o8 (v4 1) xI))) r9 (qL (q8 (q9 1) (q8 (xE (q8 (q9 0) x8)) x8)))))
def Qv:List PV->Option PV:=qt 1 1 WO
theorem LM:w4 ["row"] ["row"] (z9 ZW):=⟨rfl,rfl,rfl,by decide +kernel,rfl,by decide +kernel,by decide +kernel⟩
theorem DI (F:Fun K "straight_ways" "straight_ways" ZW f fd) (Ao:mg "enumerate"=none):FnOk P w K mg base v5 1 f fd ["row"] (m4 Qv) :=
 okO (k:=0) (b:=WO) F LM rfl fun cdv A outer s H E hr=>⟨_,(@j5 _ _ _ (w6 (qD (N':=["hue", "number"]) (cap:=[none,none]) (o5 rfl rfl rfl) rfl (UT (K:=K) rfl rfl Ao (@q0 _ _ _ _ _ (pv 0) x9 (by rfl))) (fun _ _ _ _ _ _=>(QA (K:=K) (n:=2) rfl rfl (zM (p9 (i:=0) (by show (["hue", "number"]:List Str).Nodup;decide +kernel) rfl (Or.inl rfl)) (zM (p9 (i:=1) (by show (["hue", "number"]:List Str).Nodup;decide +kernel) rfl (Or.inl rfl)) QB)))) (fun _ _ _ _ _ _=>qh) (fun _ _ _ _ _ _=>(@xz _ _ _ _ _ (@q0 _ _ _ _ _ (pv 1) (@q0 _ _ _ _ _ (@zL _ _ _ _ (@q0 _ _ _ _ _ (pv 0) x9 (by rfl))) x9 (by rfl)) (by rfl))))))),
  inferInstance⟩
abbrev ZH:Stmt:=u6 41
abbrev Wx:MS:=(w5 (qL (q8 (z0 qT (z0 j4 (x0 0) (dC (.int 0))) (z0 j4 (x0 1) (dC (.int 0)))) (q8 (z0 qT (z0 j4 (x0 0) (dC (.int 1))) (z0 j4 (x0 1) (dC (.int 1)))) x8))))
def Qr:List PV->Option PV:=t9 2 2 Wx
theorem LE:w4 ["way", "onward"] ["way", "onward"] (z9 ZH):=⟨rfl,rfl,rfl,by decide +kernel,rfl,by decide +kernel,by decide +kernel⟩
theorem Ds (F:Fun K "joined" "joined" ZH f fd) :FnOk P w K mg base v5 1 f fd ["way", "onward"] (v7 Qr) :=
 qg (k:=0) (b:=Wx) F LE rfl fun cdv A outer s H E hr=>⟨_,(@j5 _ _ _ (w6 (@xz _ _ _ _ _ (@q0 _ _ _ _ _ (y6 (zm (K:=K) rfl) (y9 (g8 (K:=K) rfl) (pv 0) z6 (fun _ _=>rfl)) (y9 (g8 (K:=K) rfl) (pv 1) z6 (fun _ _=>rfl))) (@q0 _ _ _ _ _ (y6 (zm (K:=K) rfl) (y9 (g8 (K:=K) rfl) (pv 0) z6 (fun _ _=>rfl)) (y9 (g8 (K:=K) rfl) (pv 1) z6 (fun _ _=>rfl))) x9 (by rfl)) (by rfl))))),
  inferInstance⟩
abbrev ZL:Stmt:=u6 42
abbrev WE:MS:=(w5 (dIf (dT (z0 pLt (z0 j4 (x0 1) (dC (.int 0))) (z0 j4 (x0 0) (dC (.int 0))))) (q9 1) (q9 0)))
def Qt:List PV->Option PV:=t9 2 2 WE
theorem LI:w4 ["way", "other"] ["way", "other"] (z9 ZL):=⟨rfl,rfl,rfl,by decide +kernel,rfl,by decide +kernel,by decide +kernel⟩
theorem Dx (F:Fun K "lesser" "lesser" ZL f fd) :FnOk P w K mg base v5 1 f fd ["way", "other"] (v7 Qt) :=
 qg (k:=0) (b:=WE) F LI rfl fun cdv A outer s H E hr=>⟨_,(@j5 _ _ _ (w6 (UP (ql (Vd) (y9 (g8 (K:=K) rfl) (pv 1) z6 (fun _ _=>rfl)) (y9 (g8 (K:=K) rfl) (pv 0) z6 (fun _ _=>rfl)) (t0 _)) (pv 1) (pv 0)))),
  inferInstance⟩
abbrev Ja:Stmt:=u6 43
abbrev WU:MS:=(w5 (m9 [none,none,some 0,some 1] [0,1] (vS (q8 (q9 0) (q8 (q9 2) x8))) (xJ 2 (o8 (v4 0) (o8 (v4 1) xI))) r9 (z5 Qt (q8 (q9 0) (q8 (z5 Qr (q8 (z0 j4 (x0 2) (x0 3)) (q8 (q9 1) x8))) x8)))))
def wu:List PV->Option PV:=qt 3 3 WU
theorem LO:w4 ["ways", "hue", "onward"] ["ways", "hue", "onward"] (z9 Ja):=⟨rfl,rfl,rfl,by decide +kernel,rfl,by decide +kernel,by decide +kernel⟩
theorem DO (F:Fun K "ways_through" "ways_through" Ja f fd) (Eg:Fn P w K mg base 1 "joined" ["way", "onward"] (v7 Qr)) (Ej:Fn P w K mg base 1 "lesser" ["way", "other"] (v7 Qt)) (En:mg "zip"=none):FnOk P w K mg base v5 2 f fd ["ways", "hue", "onward"] (m4 wu) :=
 okO (k:=1) (b:=WU) F LO rfl fun cdv A outer s H E hr=>⟨_,(@j5 _ _ _ (w6 (qD (N':=["way", "more", "ways", "hue"]) (cap:=[none,none,some 0,some 1]) (o5 rfl rfl rfl) rfl (UU (K:=K) rfl rfl En (@q0 _ _ _ _ _ (pv 0) (@q0 _ _ _ _ _ (pv 2) x9 (by rfl)) (by rfl))) (fun _ _ _ _ _ _=>(QA (K:=K) (n:=2) rfl rfl (zM (p9 (i:=0) (by show (["way", "more", "ways", "hue"]:List Str).Nodup;decide +kernel) rfl (Or.inl rfl)) (zM (p9 (i:=1) (by show (["way", "more", "ways", "hue"]:List Str).Nodup;decide +kernel) rfl (Or.inl rfl)) QB)))) (fun _ _ _ _ _ _=>qh) (fun _ _ _ _ _ _=>(j8 Ej hr (by decide) rfl (@q0 _ _ _ _ _ (pv 0) (@q0 _ _ _ _ _ (j8 Eg hr (by decide) rfl (@q0 _ _ _ _ _ (y9 (g8 (K:=K) rfl) (pv 2) (pv 3) (fun _ _=>rfl)) (@q0 _ _ _ _ _ (pv 1) x9 (by rfl)) (by rfl))) x9 (by rfl)) (by rfl))))))),
  inferInstance⟩
abbrev ZJ:Stmt:=u6 44
abbrev WC:MS:=(v9 (n9 1 (m9 [none] [0] (i0 (q9 0)) (v4 0) r9 (z5 Qv (q8 (q9 0) x8))))
  (v9 (xt (qu (q8 (z0 jB (z5 o9 (q8 (x0 0) x8)) (dC (.int 1))) x8)) (v4 2) (v9 (n9 3 (z0 j4 (x0 1) (x0 2)))
  (n9 1 (m9 [none,some 2,some 3] [0] (i0 (q9 1)) (v4 0) r9 (z5 wu (q8 (q9 0) (q8 (q9 1) (q8 (q9 2) x8))))))))
  (w5 (q9 1))))
def XL:List PV->Option PV:=t9 4 1 WC
theorem sc_least_ways:w4 ["rinses", "table", "hue", "onward"] ["rinses"] (z9 ZJ):=⟨rfl,rfl,rfl,by decide +kernel,rfl,by decide +kernel,by decide +kernel⟩
theorem Dv (F:Fun K "least_ways" "least_ways" ZJ f fd) (Au:Fn P w K mg base 1 "straight_ways" ["row"] (m4 Qv)) (A3:Fn P w K mg base 2 "ways_through" ["ways", "hue", "onward"] (m4 wu)) (Ae:mg "len"=none) (Ac:mg "range"=none):FnOk P w K mg base v5 3 f fd ["rinses"] (v7 XL) :=
 qg (k:=2) (b:=WC) F sc_least_ways rfl fun cdv A outer s H E hr=>⟨_,(@j9 _ _ _ _ _ (wF (i:=1) (N':=["row"]) (cap:=[none]) (o5 rfl rfl rfl) rfl sc_least_ways.nd rfl rfl (@qH _ K _ _ _ rfl (pv 0)) (fun _ _ _ _ _ _=>(p9 (i:=0) (by show (["row"]:List Str).Nodup;decide +kernel) rfl (Or.inl rfl))) (fun _ _ _ _ _ _=>qh) (fun _ _ _ _ _ _=>(j8 Au hr (by decide) rfl (@q0 _ _ _ _ _ (pv 0) x9 (by rfl)))))
  (@j9 _ _ _ _ _ (xT PassesOwn.never rfl (xS rfl Ac (@q0 _ _ _ _ _ (y6 (Qx) (n8 (xa (K:=K) rfl) rfl Ae PySem.boot_len (@q0 _ _ _ _ _ (pv 0) x9 (by rfl))) z6) x9 (by rfl))) (p9 (i:=2) sc_least_ways.nd rfl (Or.inr rfl))
   (@j9 _ _ _ _ _ (@u9 _ _ 3 _ _ _ _ sc_least_ways.nd rfl (Or.inr rfl) (y9 (g8 (K:=K) rfl) (pv 1) (pv 2) (fun _ _=>rfl)) (by rfl) (.inl rfl))
  (@j5 _ _ _ (wF (i:=1) (N':=["ways", "hue", "onward"]) (cap:=[none,some 2,some 3]) (o5 rfl rfl rfl) rfl sc_least_ways.nd rfl rfl (@qH _ K _ _ _ rfl (pv 1)) (fun _ _ _ _ _ _=>(p9 (i:=0) (by show (["ways", "hue", "onward"]:List Str).Nodup;decide +kernel) rfl (Or.inl rfl))) (fun _ _ _ _ _ _=>qh) (fun _ _ _ _ _ _=>(j8 A3 hr (by decide) rfl (@q0 _ _ _ _ _ (pv 0) (@q0 _ _ _ _ _ (pv 1) (@q0 _ _ _ _ _ (pv 2) x9 (by rfl)) (by rfl)) (by rfl))))))))
  (@j5 _ _ _ (w6 (pv 1))))),
  inferInstance⟩
abbrev ZX:Stmt:=u6 45
abbrev WP:MS:=(w5 (m9 [none] [0] (i0 (q9 0)) (v4 0) r9 (z0 j4 (x0 0) (dC (.int 0)))))
def XN:List PV->Option PV:=qt 1 1 WP
theorem LN:w4 ["ways"] ["ways"] (z9 ZX):=⟨rfl,rfl,rfl,by decide +kernel,rfl,by decide +kernel,by decide +kernel⟩
theorem DL (F:Fun K "sums_of" "sums_of" ZX f fd) :FnOk P w K mg base v5 1 f fd ["ways"] (m4 XN) :=
 okO (k:=0) (b:=WP) F LN rfl fun cdv A outer s H E hr=>⟨_,(@j5 _ _ _ (w6 (qD (N':=["way"]) (cap:=[none]) (o5 rfl rfl rfl) rfl (@qH _ K _ _ _ rfl (pv 0)) (fun _ _ _ _ _ _=>(p9 (i:=0) (by show (["way"]:List Str).Nodup;decide +kernel) rfl (Or.inl rfl))) (fun _ _ _ _ _ _=>qh) (fun _ _ _ _ _ _=>(y9 (g8 (K:=K) rfl) (pv 0) z6 (fun _ _=>rfl)))))),
  inferInstance⟩
abbrev ZI:Stmt:=u6 46
abbrev WB:MS:=(v9 (zW (z5 XF (q8 (q9 0) x8)))
  (w5 (m9 [none] [0] (i0 (z5 XL (q8 (q9 0) x8))) (v4 0) r9 (z5 XN (q8 (q9 0) x8)))))
def XJ:List PV->Option PV:=qt 1 1 WB
theorem LG:w4 ["rinses"] ["rinses"] (z9 ZI):=⟨rfl,rfl,rfl,by decide +kernel,rfl,by decide +kernel,by decide +kernel⟩
theorem Du (F:Fun K "least_rinses" "least_rinses" ZI f fd) (A4:Fn P w K mg base 3 "check_rinses" ["rinses"] (v7 XF)) (B9:Fn P w K mg base 3 "least_ways" ["rinses"] (v7 XL)) (Ec:Fn P w K mg base 1 "sums_of" ["ways"] (m4 XN)):FnOk P w K mg base v5 4 f fd ["rinses"] (m4 XJ) :=
 okO (k:=3) (b:=WB) F LG rfl fun cdv A outer s H E hr=>⟨_,(@j9 _ _ _ _ _ (vp (j8 A4 hr (by decide) rfl (@q0 _ _ _ _ _ (pv 0) x9 (by rfl))))
  (@j5 _ _ _ (w6 (qD (N':=["ways"]) (cap:=[none]) (o5 rfl rfl rfl) rfl (@qH _ K _ _ _ rfl (j8 B9 hr (by decide) rfl (@q0 _ _ _ _ _ (pv 0) x9 (by rfl)))) (fun _ _ _ _ _ _=>(p9 (i:=0) (by show (["ways"]:List Str).Nodup;decide +kernel) rfl (Or.inl rfl))) (fun _ _ _ _ _ _=>qh) (fun _ _ _ _ _ _=>(j8 Ec hr (by decide) rfl (@q0 _ _ _ _ _ (pv 0) x9 (by rfl)))))))),
  inferInstance⟩
abbrev Zt:Stmt:=u6 49
abbrev Wj:MS:=(v9 (m5 (xD (dT (z0 zo (x0 0) (dC .non))) (qB (xD (o6 (z5 zJ (q8 (q9 0) (q8 (dUn pNeg (dC (.int 1))) x8)))) (dT (z0 pLt (x0 0) (x0 2)))))) xW n5)
  (m5 (qB (o6 (z5 zJ (q8 (q9 1) (q8 (dC (.int 0)) x8))))) xW n5))
def XG:List PV->Option PV:=t9 3 3 Wj
theorem Lr:w4 ["last", "time", "hues"] ["last", "time", "hues"] (z9 Zt):=⟨rfl,rfl,rfl,by decide +kernel,rfl,by decide +kernel,by decide +kernel⟩
theorem Dd (F:Fun K "check_start" "check_start" Zt f fd) (An:Fn P w K mg base 2 "is_from" ["thing", "least"] (v7 zJ)):FnOk P w K mg base v5 3 f fd ["last", "time", "hues"] (v7 XG) :=
 qg (k:=2) (b:=Wj) F Lr rfl fun cdv A outer s H E hr=>⟨_,(@j9 _ _ _ _ _ (i8 (PW.pt (QJ (ql (UN) (pv 0) vn (t0 _)) (QK (xA (PW.pt (QJ (xf (K:=K) rfl (j8 An hr (by decide) rfl (@q0 _ _ _ _ _ (pv 0) (@q0 _ _ _ _ _ (UR Km z6) x9 (by rfl)) (by rfl))) (fun _=>rfl)) (QK (ql (Vd) (pv 0) (pv 2) (t0 _))))))))) (@j5 _ _ _ jd) i9)
  (@j5 _ _ _ (i8 (xA (xf (K:=K) rfl (j8 An hr (by decide) rfl (@q0 _ _ _ _ _ (pv 1) (@q0 _ _ _ _ _ z6 x9 (by rfl)) (by rfl))) (fun _=>rfl))) (@j5 _ _ _ jd) i9))),
  inferInstance⟩
abbrev Zq:Stmt:=u6 50
abbrev Wg:MS:=(v9 (m5 (dT (z0 pGt (z5 o9 (q8 (x0 0) x8)) (dC (.int 10)))) xW n5)
  (v9 (wZ 2 Yz)
  (xt (i0 (q9 0)) (v4 3) (v9 (m5 (qB (o6 (z5 XH (q8 (q9 3) (q8 (q9 1) x8))))) xW n5)
  (v9 (m5 (dT (dDIn (z5 xy (q8 (q9 3) x8)) (x0 2))) xW n5)
  (dPut 2 (z5 xy (q8 (q9 3) x8)) (dC (.bl true))))))))
def XE:List PV->Option PV:=t9 4 2 Wg
theorem sc_check_cloths:w4 ["cloths", "hues", "seen", "cloth"] ["cloths", "hues"] (z9 Zq):=⟨rfl,rfl,rfl,by decide +kernel,rfl,by decide +kernel,by decide +kernel⟩
theorem Da (F:Fun K "check_cloths" "check_cloths" Zq f fd) (D9:Fn P w K mg base 3 "is_cloth" ["thing", "hues"] (v7 XH)) (Af:Fn P w K mg base 1 "name_of" ["cloth"] (v7 xy)) (Ae:mg "len"=none) {A9:Tok} (B4:mg "MOST_CLOTHS"=some (.int 10 A9)):FnOk P w K mg base v5 4 f fd ["cloths", "hues"] (v7 XE) :=
 qg (k:=3) (b:=Wg) F sc_check_cloths rfl fun cdv A outer s H E hr=>⟨_,(@j9 _ _ _ _ _ (i8 (ql (Vb) (n8 (xa (K:=K) rfl) rfl Ae PySem.boot_len (@q0 _ _ _ _ _ (pv 0) x9 (by rfl))) (XX (v:= .int 10) rfl B4 ⟨_,rfl⟩) (t0 _)) (@j5 _ _ _ jd) i9)
  (@j9 _ _ _ _ _ (@u9 _ _ 2 _ _ _ _ sc_check_cloths.nd rfl (Or.inl rfl) Mc (by rfl) (.inl rfl))
  (@j5 _ _ _ (xT PassesOwn.never rfl (@qH _ K _ _ _ rfl (pv 0)) (p9 (i:=3) sc_check_cloths.nd rfl (Or.inl rfl))
   (@j9 _ _ _ _ _ (i8 (xA (xf (K:=K) rfl (j8 D9 hr (by decide) rfl (@q0 _ _ _ _ _ (pv 3) (@q0 _ _ _ _ _ (pv 1) x9 (by rfl)) (by rfl))) (fun _=>rfl))) (@j5 _ _ _ jd) i9)
  (@j9 _ _ _ _ _ (i8 (MI (DZ (jw hr) (j8 Af hr (by decide) rfl (@q0 _ _ _ _ _ (pv 3) x9 (by rfl))) (pv 2))) (@j5 _ _ _ jd) i9)
  (@j5 _ _ _ (MF (jw hr) (pv 2) (j8 Af hr (by decide) rfl (@q0 _ _ _ _ _ (pv 3) x9 (by rfl))) za rfl)))))))),
  inferInstance⟩
abbrev Zj:Stmt:=vY (u6 51) 1
abbrev VZ (Aa:Addr):MS:=(w5 (z0 jB (z5 o9 (q8 (zX Aa "least" (q9 0)) x8)) (dC (.int 1))))
def zj (Aa:Addr):List PV->Option PV:=t9 1 1 (VZ Aa)
theorem Li:w4 ["self"] ["self"] (z9 Zj):=⟨rfl,rfl,rfl,by decide +kernel,rfl,by decide +kernel,by decide +kernel⟩
theorem CQ {Aa:Addr}(F:Fun K "hues" "Works.hues" Zj f fd) (Ae:mg "len"=none) [jp K Aa] [NoA K Aa "least"]:FnOk P w K mg base v5 1 f fd ["self"] (v7 (zj Aa)) :=
 qg (k:=0) (b:=(VZ Aa)) F Li rfl fun cdv A outer s H E hr=>⟨_,(@j5 _ _ _ (w6 (y6 (Qx) (n8 (xa (K:=K) rfl) rfl Ae PySem.boot_len (@q0 _ _ _ _ _ (Vh (K:=K) rfl (pv 0) rfl) x9 (by rfl))) z6))),
  inferInstance⟩
abbrev Zk:Stmt:=vY (u6 51) 6
abbrev Wa (Aa:Addr):MS:=(w5 (z5 Vg (q8 (zX Aa "held" (q9 0)) x8)))
def Qn (Aa:Addr):List PV->Option PV:=qt 1 1 (Wa Aa)
theorem Lk:w4 ["self"] ["self"] (z9 Zk):=⟨rfl,rfl,rfl,by decide +kernel,rfl,by decide +kernel,by decide +kernel⟩
theorem CT {Aa:Addr}(F:Fun K "names" "Works.names" Zk f fd) (As:mg "sorted"=none) [jp K Aa] [NoA K Aa "held"]:FnOk P w K mg base v5 1 f fd ["self"] (m4 (Qn Aa)) :=
 okO (k:=0) (b:=(Wa Aa)) F Lk rfl fun cdv A outer s H E hr=>⟨_,(@j5 _ _ _ (w6 (n8 (BC (K:=K) rfl rfl) rfl As Yj (@q0 _ _ _ _ _ (Vh (K:=K) rfl (pv 0) rfl) x9 (by rfl))))),
  inferInstance⟩
abbrev ZP:Stmt:=u6 23
abbrev WH:MS:=(w5 (m9 [none] [0] (i0 (q9 0)) (v4 0) r9 (z5 xy (q8 (q9 0) x8))))
def wq:List PV->Option PV:=qt 1 1 WH
theorem LK:w4 ["cloths"] ["cloths"] (z9 ZP):=⟨rfl,rfl,rfl,by decide +kernel,rfl,by decide +kernel,by decide +kernel⟩
theorem DB (F:Fun K "names_of" "names_of" ZP f fd) (Af:Fn P w K mg base 1 "name_of" ["cloth"] (v7 xy)):FnOk P w K mg base v5 2 f fd ["cloths"] (m4 wq) :=
 okO (k:=1) (b:=WH) F LK rfl fun cdv A outer s H E hr=>⟨_,(@j5 _ _ _ (w6 (qD (N':=["cloth"]) (cap:=[none]) (o5 rfl rfl rfl) rfl (@qH _ K _ _ _ rfl (pv 0)) (fun _ _ _ _ _ _=>(p9 (i:=0) (by show (["cloth"]:List Str).Nodup;decide +kernel) rfl (Or.inl rfl))) (fun _ _ _ _ _ _=>qh) (fun _ _ _ _ _ _=>(j8 Af hr (by decide) rfl (@q0 _ _ _ _ _ (pv 0) x9 (by rfl))))))),
  inferInstance⟩
abbrev Zo:Stmt:=u6 24
abbrev We:MS:=(w5 (Jy [] (q8 (q9 0) x8) (qL (q8 (z5 Qo (q8 (q9 0) x8)) (q8 (z5 xy (q8 (q9 0) x8)) x8)))))
def XC:List PV->Option PV:=qt 1 1 We
theorem Lp:w4 ["cloths"] ["cloths"] (z9 Zo):=⟨rfl,rfl,rfl,by decide +kernel,rfl,by decide +kernel,by decide +kernel⟩
theorem CY (F:Fun K "by_dues" "by_dues" Zo f fd) (B5:Fn P w K mg base 1 "due_of" ["cloth"] (v7 Qo)) (Af:Fn P w K mg base 1 "name_of" ["cloth"] (v7 xy)) (As:mg "sorted"=none) {c_l P_l:Addr} {p_l:Array Value} (l_f:fd.code = .ref c_l) (l_C:∀ h:Heap,K.In h->PySem.W.CodeHd h c_l P_l) (l_P:(P_l,p_l,[((⟨54,30,54,75⟩:Pos),("by_dues.<locals>.<lambda>":Str))]) ∈ TABS):FnOk P w K mg base v5 6 f fd ["cloths"] (m4 XC) :=
 okOC (k:=5) (b:=We) F Lp rfl fun A outer s H E hr=>⟨_,(@j5 _ _ _ (w6 (UQ (K:=K) (k:=2) (x := "cloth") (fr:=[]) (fi:=[]) (clos:=[]) rfl (hr.mono (by decide)) rfl As (@q0 _ _ _ _ _ (pv 0) x9 (by rfl)) l_P
  (by exact List.mem_singleton.mpr rfl) (fun p hp _=>by rw [List.mem_singleton.mp hp];rfl) l_f l_C ⟨rfl,rfl,rfl,by decide +kernel,by decide +kernel,(fun x h=>by
   exfalso
   revert h
   show ¬ (List.lookup x _=_)
   simp only [List.lookup]
   repeat' split
   all_goals simp),by decide +kernel⟩ ⟨rfl,(fun j y i e=>by simp at e),(fun y c e=>by cases e),(fun y c hy=>by simp at hy)⟩
  (fun f c' s H hr2=>(@xz _ _ _ _ _ (@q0 _ _ _ _ _ (j8 B5 hr2 (by decide) rfl (@q0 _ _ _ _ _ (pv 0) x9 (by rfl))) (@q0 _ _ _ _ _ (j8 Af hr2 (by decide) rfl (@q0 _ _ _ _ _ (pv 0) x9 (by rfl))) x9 (by rfl)) (by rfl))))
  (fun _ _ _ _ _=>rfl)))),
  inferInstance⟩
abbrev Zp:Stmt:=u6 25
abbrev Wf:MS:=(v9 (n9 1 (dC (.int 1)))
  (v9 (xt (i0 (q9 0)) (v4 2) (dAug 1 pIpM (z5 vf (q8 (q9 2) x8))))
  (w5 (Jy [1] (q8 (q9 0) x8) (qL (q8 (z0 jc (z5 Qs (q8 (q9 0) x8)) (z0 pDiv (x0 1) (z5 vf (q8 (q9 0) x8)))) (q8 (z5 xy (q8 (q9 0) x8)) x8)))))))
def XD:List PV->Option PV:=qt 3 1 Wf
theorem sc_by_steepness:w4 ["cloths", "common", "cloth"] ["cloths"] (z9 Zp):=⟨rfl,rfl,rfl,by decide +kernel,rfl,by decide +kernel,by decide +kernel⟩
theorem CZ (F:Fun K "by_steepness" "by_steepness" Zp f fd) (Ap:Fn P w K mg base 1 "length_of" ["cloth"] (v7 Qs)) (Af:Fn P w K mg base 1 "name_of" ["cloth"] (v7 xy)) (Am:Fn P w K mg base 1 "weight_of" ["cloth"] (v7 vf)) (As:mg "sorted"=none) {c_l P_l:Addr} {p_l:Array Value} (l_f:fd.code = .ref c_l) (l_C:∀ h:Heap,K.In h->PySem.W.CodeHd h c_l P_l) (l_P:(P_l,p_l,[((⟨59,30,59,109⟩:Pos),("by_steepness.<locals>.<lambda>":Str))]) ∈ TABS):FnOk P w K mg base v5 6 f fd ["cloths"] (m4 XD) :=
 okOC (k:=5) (b:=Wf) F sc_by_steepness rfl fun A outer s H E hr=>⟨_,(@j9 _ _ _ _ _ (@u9 _ _ 1 _ _ _ _ sc_by_steepness.nd rfl (Or.inr rfl) z6 (by rfl) (.inl rfl))
  (@j9 _ _ _ _ _ (xT PassesOwn.never rfl (@qH _ K _ _ _ rfl (pv 0)) (p9 (i:=2) sc_by_steepness.nd rfl (Or.inl rfl))
   (@j5 _ _ _ (MD (i:=1) sc_by_steepness.nd rfl (Or.inr rfl) (j8 Am hr (by decide) rfl (@q0 _ _ _ _ _ (pv 2) x9 (by rfl))) PN)))
  (@j5 _ _ _ (w6 (UQ (K:=K) (k:=2) (x := "cloth") (fr:=["common"]) (fi:=[1]) (clos:=[("common",s.heap.objs.size + 1)]) rfl (hr.mono (by decide)) rfl As (@q0 _ _ _ _ _ (pv 0) x9 (by rfl)) l_P
  (by exact List.mem_singleton.mpr rfl) (fun p hp _=>by rw [List.mem_singleton.mp hp];rfl) l_f l_C ⟨rfl,rfl,rfl,by decide +kernel,by decide +kernel,(fun x h=>by
   by_cases e:x = "common"
   ·rw [e];exact List.mem_singleton.mpr rfl
   ·exfalso
    revert h
    show ¬ (List.lookup x _=_)
    simp only [List.lookup]
    repeat' split
    all_goals simp_all),by decide +kernel⟩ ⟨rfl,(fun j y i e1 e2=>by
    match j,e1,e2 with
    | 0,e1,e2=>cases e1;cases e2;exact ⟨rfl,rfl,rfl,.inr (.inl rfl)⟩
    | j + 1,e1,_=>simp at e1),(fun y c e=>e),(fun y c _ e=>e)⟩
  (fun f c' s H hr2=>(@xz _ _ _ _ _ (@q0 _ _ _ _ _ (y6 (vh) (j8 Ap hr2 (by decide) rfl (@q0 _ _ _ _ _ (pv 0) x9 (by rfl))) (y6 (Va) (pv 1) (j8 Am hr2 (by decide) rfl (@q0 _ _ _ _ _ (pv 0) x9 (by rfl))))) (@q0 _ _ _ _ _ (j8 Af hr2 (by decide) rfl (@q0 _ _ _ _ _ (pv 0) x9 (by rfl))) x9 (by rfl)) (by rfl))))
  (fun _ _ _ _ _=>rfl)))))),
  inferInstance⟩
abbrev Zh:Stmt:=vY (u6 51) 8
abbrev VX (Aa:Addr):MS:=(w5 (m9 [none,some 1] [0] (dItV (zX Aa "held" (q9 0))) (v4 0) (dT (z0 qw (z5 wp (q8 (q9 0) x8)) (x0 1))) (q9 0)))
def jZ (Aa:Addr):List PV->Option PV:=qt 2 2 (VX Aa)
theorem Lg:w4 ["self", "hue"] ["self", "hue"] (z9 Zh):=⟨rfl,rfl,rfl,by decide +kernel,rfl,by decide +kernel,by decide +kernel⟩
theorem CO {Aa:Addr}(F:Fun K "cloths_in" "Works.cloths_in" Zh f fd) (A5:Fn P w K mg base 1 "hue_of" ["cloth"] (v7 wp)) [jp K Aa] [NoA K Aa "held"]:FnOk P w K mg base v5 2 f fd ["self", "hue"] (m4 (jZ Aa)) :=
 okO (k:=1) (b:=(VX Aa)) F Lg rfl fun cdv A outer s H E hr=>⟨_,(@j5 _ _ _ (w6 (qD (N':=["cloth", "hue"]) (cap:=[none,some 1]) (o5 rfl rfl rfl) rfl (Mr (Vh (K:=K) rfl (pv 0) rfl)) (fun _ _ _ _ _ _=>(p9 (i:=0) (by show (["cloth", "hue"]:List Str).Nodup;decide +kernel) rfl (Or.inl rfl))) (fun _ _ _ _ _ _=>(Gb (ql (zK (K:=K) (hu6 hr) rfl) (j8 A5 hr (by decide) rfl (@q0 _ _ _ _ _ (pv 0) x9 (by rfl))) (pv 1) (t0 _)))) (fun _ _ _ _ _ _=>(pv 0))))),
  inferInstance⟩
abbrev Zi:Stmt:=vY (u6 51) 9
abbrev VY (Aa:Addr):MS:=(w5 (z5 wq (q8 (z5 XC (q8 (xO Aa "cloths_in" (jZ Aa) (q9 0) (q8 (q9 1) x8)) x8)) x8)))
def wj (Aa:Addr):List PV->Option PV:=qt 2 2 (VY Aa)
theorem Lh:w4 ["self", "hue"] ["self", "hue"] (z9 Zi):=⟨rfl,rfl,rfl,by decide +kernel,rfl,by decide +kernel,by decide +kernel⟩
theorem CP {Aa:Addr}(F:Fun K "due_row" "Works.due_row" Zi f fd) (Ee:Fn P w K mg base 6 "by_dues" ["cloths"] (m4 XC)) (At:Fn P w K mg base 2 "names_of" ["cloths"] (m4 wq)) (Ah:Mt P w K mg base 2 Aa "cloths_in" ["self", "hue"] (m4 (jZ Aa))):FnOk P w K mg base v5 7 f fd ["self", "hue"] (m4 (wj Aa)) :=
 okO (k:=6) (b:=(VY Aa)) F Lh rfl fun cdv A outer s H E hr=>⟨_,(@j5 _ _ _ (w6 (j8 At hr (by decide) rfl (@q0 _ _ _ _ _ (j8 Ee hr (by decide) rfl (@q0 _ _ _ _ _ (XY Ah hr (by decide) (pv 0) (@q0 _ _ _ _ _ (pv 1) x9 (by rfl))) x9 (by rfl))) x9 (by rfl))))),
  inferInstance⟩
abbrev Zl:Stmt:=vY (u6 51) 10
abbrev Wb (Aa:Addr):MS:=(w5 (z5 wq (q8 (z5 XD (q8 (xO Aa "cloths_in" (jZ Aa) (q9 0) (q8 (q9 1) x8)) x8)) x8)))
def wn (Aa:Addr):List PV->Option PV:=qt 2 2 (Wb Aa)
theorem Ll:w4 ["self", "hue"] ["self", "hue"] (z9 Zl):=⟨rfl,rfl,rfl,by decide +kernel,rfl,by decide +kernel,by decide +kernel⟩
theorem CU {Aa:Addr}(F:Fun K "steep_row" "Works.steep_row" Zl f fd) (A0:Fn P w K mg base 6 "by_steepness" ["cloths"] (m4 XD)) (At:Fn P w K mg base 2 "names_of" ["cloths"] (m4 wq)) (Ah:Mt P w K mg base 2 Aa "cloths_in" ["self", "hue"] (m4 (jZ Aa))):FnOk P w K mg base v5 7 f fd ["self", "hue"] (m4 (wn Aa)) :=
 okO (k:=6) (b:=(Wb Aa)) F Ll rfl fun cdv A outer s H E hr=>⟨_,(@j5 _ _ _ (w6 (j8 At hr (by decide) rfl (@q0 _ _ _ _ _ (j8 A0 hr (by decide) rfl (@q0 _ _ _ _ _ (XY Ah hr (by decide) (pv 0) (@q0 _ _ _ _ _ (pv 1) x9 (by rfl))) x9 (by rfl))) x9 (by rfl))))),
  inferInstance⟩
abbrev Zn:Stmt:=u6 27
abbrev Wd (Aa:Addr):MS:=(v9 (m5 (qB (o6 (z5 qx (q8 (x0 1) (q8 (dC (.ty "list")) x8))))) (w5 (dC (.bl false))) n5)
  (v9 (n9 2 (xO Aa "names" (Qn Aa) (q9 0) x8))
  (w5 (zE (z5 zn (q8 (m9 [none,some 2] [0] (i0 (q9 1)) (v4 0) r9 (z0 (pIn false) (x0 0) (x0 1))) x8)) (z0 qw (Yx (x0 1)) (z5 o9 (q8 (x0 1) x8)))))))
def wo (Aa:Addr):List PV->Option PV:=t9 3 2 (Wd Aa)
theorem sc_are_names:w4 ["works", "names", "known"] ["works", "names"] (z9 Zn):=⟨rfl,rfl,rfl,by decide +kernel,rfl,by decide +kernel,by decide +kernel⟩
theorem CW {Aa:Addr}(F:Fun K "are_names" "are_names" Zn f fd) (Ax:mg "all"=none) (Ab:mg "isinstance"=none) (Ae:mg "len"=none) (Al:mg "list"=none) (Ib:mg "set"=none) (B3:Mt P w K mg base 1 Aa "names" ["self"] (m4 (Qn Aa))):FnOk P w K mg base v5 2 f fd ["works", "names"] (v7 (wo Aa)) :=
 qg (k:=1) (b:=(Wd Aa)) F sc_are_names rfl fun cdv A outer s H E hr=>⟨_,(@j9 _ _ _ _ _ (i8 (xA (xf (K:=K) rfl (n8 (jt (K:=K) rfl) rfl Ab js (@q0 _ _ _ _ _ (pv 1) (@q0 _ _ _ _ _ (jC (v:= .ty "list") rfl Al vO rfl) x9 (by rfl)) (by rfl))) (fun _=>rfl))) (@j5 _ _ _ (w6 za)) i9)
  (@j9 _ _ _ _ _ (@u9 _ _ 2 _ _ _ _ sc_are_names.nd rfl (Or.inr rfl) (Qy B3 hr (by decide) (pv 0)) (by rfl) (.inl rfl))
  (@j5 _ _ _ (w6 (vk (n8 (wV (K:=K) rfl rfl) rfl Ax wU (@q0 _ _ _ _ _ (qD (N':=["thing", "known"]) (cap:=[none,some 2]) (o5 rfl rfl rfl) rfl (@qH _ K _ _ _ rfl (pv 1)) (fun _ _ _ _ _ _=>(p9 (i:=0) (by show (["thing", "known"]:List Str).Nodup;decide +kernel) rfl (Or.inl rfl))) (fun _ _ _ _ _ _=>qh) (fun _ _ _ _ _ _=>(zq (UJ (K:=K) rfl) (pv 0) (pv 1) (by with_unfolding_all rfl)))) x9 (by rfl))) (wC (zq (zK (K:=K) (hu6 hr) rfl) (n8 Bw rfl Ae PySem.boot_len (@q0 _ _ _ _ _ (vm (Bz (K:=K) rfl rfl) rfl Ib Bl (@q0 _ _ _ _ _ (pv 1) x9 (by rfl))) x9 (by rfl))) (n8 (xa (K:=K) rfl) rfl Ae PySem.boot_len (@q0 _ _ _ _ _ (pv 1) x9 (by rfl))) (t0 _)))))))),
  inferInstance⟩
abbrev Zr:Stmt:=u6 28
abbrev Wh (Aa:Addr):MS:=(m5 (qB (o6 (z5 (wo Aa) (q8 (q9 0) (q8 (q9 1) x8))))) xW n5)
def va (Aa:Addr):List PV->Option PV:=t9 2 2 (Wh Aa)
theorem Lq:w4 ["works", "names"] ["works", "names"] (z9 Zr):=⟨rfl,rfl,rfl,by decide +kernel,rfl,by decide +kernel,by decide +kernel⟩
theorem Db {Aa:Addr}(F:Fun K "check_names" "check_names" Zr f fd) (D2:Fn P w K mg base 2 "are_names" ["works", "names"] (v7 (wo Aa))):FnOk P w K mg base v5 3 f fd ["works", "names"] (v7 (va Aa)) :=
 qg (k:=2) (b:=(Wh Aa)) F Lq rfl fun cdv A outer s H E hr=>⟨_,(@j5 _ _ _ (i8 (xA (xf (K:=K) rfl (j8 D2 hr (by decide) rfl (@q0 _ _ _ _ _ (pv 0) (@q0 _ _ _ _ _ (pv 1) x9 (by rfl)) (by rfl))) (fun _=>rfl))) (@j5 _ _ _ jd) i9)),
  inferInstance⟩
abbrev Zx:Stmt:=u6 30
abbrev Wn (Aa:Addr):MS:=(w5 (m9 [none,some 0] [0] (qu (q8 (xO Aa "hues" (zj Aa) (q9 0) x8) x8)) (v4 0) r9 (xO Aa "due_row" (wj Aa) (q9 1) (q8 (q9 0) x8))))
def Qp (Aa:Addr):List PV->Option PV:=qt 1 1 (Wn Aa)
theorem Lu:w4 ["works"] ["works"] (z9 Zx):=⟨rfl,rfl,rfl,by decide +kernel,rfl,by decide +kernel,by decide +kernel⟩
theorem Dh {Aa:Addr}(F:Fun K "due_rows" "due_rows" Zx f fd) (Ac:mg "range"=none) (Av:Mt P w K mg base 7 Aa "due_row" ["self", "hue"] (m4 (wj Aa))) (Ag:Mt P w K mg base 1 Aa "hues" ["self"] (v7 (zj Aa))):FnOk P w K mg base v5 8 f fd ["works"] (m4 (Qp Aa)) :=
 okO (k:=7) (b:=(Wn Aa)) F Lu rfl fun cdv A outer s H E hr=>⟨_,(@j5 _ _ _ (w6 (qD (N':=["hue", "works"]) (cap:=[none,some 0]) (o5 rfl rfl rfl) rfl (xS rfl Ac (@q0 _ _ _ _ _ (Qy Ag hr (by decide) (pv 0)) x9 (by rfl))) (fun _ _ _ _ _ _=>(p9 (i:=0) (by show (["hue", "works"]:List Str).Nodup;decide +kernel) rfl (Or.inl rfl))) (fun _ _ _ _ _ _=>qh) (fun _ _ _ _ _ _=>(XY Av hr (by decide) (pv 1) (@q0 _ _ _ _ _ (pv 0) x9 (by rfl))))))),
  inferInstance⟩
abbrev ZV:Stmt:=u6 31
abbrev WN (Aa:Addr):MS:=(w5 (m9 [none,some 0] [0] (qu (q8 (xO Aa "hues" (zj Aa) (q9 0) x8) x8)) (v4 0) r9 (xO Aa "steep_row" (wn Aa) (q9 1) (q8 (q9 0) x8))))
def Qu (Aa:Addr):List PV->Option PV:=qt 1 1 (WN Aa)
theorem LL:w4 ["works"] ["works"] (z9 ZV):=⟨rfl,rfl,rfl,by decide +kernel,rfl,by decide +kernel,by decide +kernel⟩
theorem DH {Aa:Addr}(F:Fun K "steep_rows" "steep_rows" ZV f fd) (Ac:mg "range"=none) (Ag:Mt P w K mg base 1 Aa "hues" ["self"] (v7 (zj Aa))) (Aq:Mt P w K mg base 7 Aa "steep_row" ["self", "hue"] (m4 (wn Aa))):FnOk P w K mg base v5 8 f fd ["works"] (m4 (Qu Aa)) :=
 okO (k:=7) (b:=(WN Aa)) F LL rfl fun cdv A outer s H E hr=>⟨_,(@j5 _ _ _ (w6 (qD (N':=["hue", "works"]) (cap:=[none,some 0]) (o5 rfl rfl rfl) rfl (xS rfl Ac (@q0 _ _ _ _ _ (Qy Ag hr (by decide) (pv 0)) x9 (by rfl))) (fun _ _ _ _ _ _=>(p9 (i:=0) (by show (["hue", "works"]:List Str).Nodup;decide +kernel) rfl (Or.inl rfl))) (fun _ _ _ _ _ _=>qh) (fun _ _ _ _ _ _=>(XY Aq hr (by decide) (pv 1) (@q0 _ _ _ _ _ (pv 0) x9 (by rfl))))))),
  inferInstance⟩
abbrev ZY:Stmt:=u6 32
abbrev WQ:MS:=(v9 (n9 2 (m9 [none,none,some 0] [0,1] (wX (q8 (q9 1) x8)) (xJ 2 (o8 (v4 0) (o8 (v4 1) xI))) (dT (z0 (pIn false) (x0 1) (x0 2))) (q9 0)))
  (v9 (xt (vS (q8 (q9 2) (q8 (Qa (x0 2) (pSo (dC (.int 1))) pNo) x8))) (xJ 2 (o8 (v4 3) (o8 (v4 4) xI))) (m5 (dT (z0 pGt (zY (x0 0) (z0 j4 (x0 1) (x0 3))) (zY (x0 0) (z0 j4 (x0 1) (x0 4))))) (w5 (qL (q8 (q9 3) (q8 (q9 4) x8)))) n5))
  (w5 (dC .non))))
def zl:List PV->Option PV:=t9 5 2 WQ
theorem sc_turned_in:w4 ["row", "names", "places", "ahead", "behind"] ["row", "names"] (z9 ZY):=⟨rfl,rfl,rfl,by decide +kernel,rfl,by decide +kernel,by decide +kernel⟩
theorem DM (F:Fun K "turned_in" "turned_in" ZY f fd) (Ao:mg "enumerate"=none) (En:mg "zip"=none):FnOk P w K mg base v5 1 f fd ["row", "names"] (v7 zl) :=
 qg (k:=0) (b:=WQ) F sc_turned_in rfl fun cdv A outer s H E hr=>⟨_,(@j9 _ _ _ _ _ (wF (i:=2) (N':=["place", "name", "row"]) (cap:=[none,none,some 0]) (o5 rfl rfl rfl) rfl sc_turned_in.nd rfl rfl (UT (K:=K) rfl rfl Ao (@q0 _ _ _ _ _ (pv 1) x9 (by rfl))) (fun _ _ _ _ _ _=>(QA (K:=K) (n:=2) rfl rfl (zM (p9 (i:=0) (by show (["place", "name", "row"]:List Str).Nodup;decide +kernel) rfl (Or.inl rfl)) (zM (p9 (i:=1) (by show (["place", "name", "row"]:List Str).Nodup;decide +kernel) rfl (Or.inl rfl)) QB)))) (fun _ _ _ _ _ _=>(Gb (ql (UJ (K:=K) rfl) (pv 1) (pv 2) (by with_unfolding_all rfl)))) (fun _ _ _ _ _ _=>(pv 0)))
  (@j9 _ _ _ _ _ (xT PassesOwn.never rfl (UU (K:=K) rfl rfl En (@q0 _ _ _ _ _ (pv 2) (@q0 _ _ _ _ _ (Mj (LY (K:=K) rfl) (pv 2) (Mz z6) My) x9 (by rfl)) (by rfl))) (QA (K:=K) (n:=2) rfl rfl (zM (p9 (i:=3) sc_turned_in.nd rfl (Or.inl rfl)) (zM (p9 (i:=4) sc_turned_in.nd rfl (Or.inl rfl)) QB)))
   (@j5 _ _ _ (i8 (ql (Vb) (wB (K:=K) rfl PySem.F.plainAttrs_list PySem.F.slot_list_index PySem.F.type_list_index (UD (K:=K) rfl) (pv 0) (q0 (y9 (g8 (K:=K) rfl) (pv 1) (pv 3) (fun _ _=>rfl)) x9)) (wB (K:=K) rfl PySem.F.plainAttrs_list PySem.F.slot_list_index PySem.F.type_list_index (UD (K:=K) rfl) (pv 0) (q0 (y9 (g8 (K:=K) rfl) (pv 1) (pv 4) (fun _ _=>rfl)) x9)) (t0 _)) (@j5 _ _ _ (w6 (@xz _ _ _ _ _ (@q0 _ _ _ _ _ (pv 3) (@q0 _ _ _ _ _ (pv 4) x9 (by rfl)) (by rfl))))) i9)))
  (@j5 _ _ _ (w6 vn)))),
  inferInstance⟩
abbrev ZZ:Stmt:=u6 33
abbrev WR:MS:=(v9 (xt (i0 (q9 0)) (v4 2) (v9 (n9 3 (z5 zl (q8 (q9 2) (q8 (q9 1) x8))))
  (m5 (dT (z0 zo (x0 3) (dC .non))) (w5 (q9 3)) n5)))
  (w5 (dC .non)))
def ve:List PV->Option PV:=t9 4 2 WR
theorem sc_turned_pair:w4 ["rows", "names", "row", "pair"] ["rows", "names"] (z9 ZZ):=⟨rfl,rfl,rfl,by decide +kernel,rfl,by decide +kernel,by decide +kernel⟩
theorem DN (F:Fun K "turned_pair" "turned_pair" ZZ f fd) (D1:Fn P w K mg base 1 "turned_in" ["row", "names"] (v7 zl)):FnOk P w K mg base v5 2 f fd ["rows", "names"] (v7 ve) :=
 qg (k:=1) (b:=WR) F sc_turned_pair rfl fun cdv A outer s H E hr=>⟨_,(@j9 _ _ _ _ _ (xT PassesOwn.never rfl (@qH _ K _ _ _ rfl (pv 0)) (p9 (i:=2) sc_turned_pair.nd rfl (Or.inl rfl))
   (@j9 _ _ _ _ _ (@u9 _ _ 3 _ _ _ _ sc_turned_pair.nd rfl (Or.inl rfl) (j8 D1 hr (by decide) rfl (@q0 _ _ _ _ _ (pv 2) (@q0 _ _ _ _ _ (pv 1) x9 (by rfl)) (by rfl))) (by rfl) (.inl rfl))
  (@j5 _ _ _ (i8 (ql (UN) (pv 3) vn (t0 _)) (@j5 _ _ _ (w6 (pv 3))) i9))))
  (@j5 _ _ _ (w6 vn))),
  inferInstance⟩
abbrev Zz:Stmt:=u6 34
abbrev Wp (Aa:Addr):MS:=(v9 (zW (z5 (va Aa) (q8 (q9 0) (q8 (q9 1) x8))))
  (w5 (z0 wA (z5 ve (q8 (z5 (Qp Aa) (q8 (q9 0) x8)) (q8 (q9 1) x8))) (dC .non))))
def vb (Aa:Addr):List PV->Option PV:=t9 2 2 (Wp Aa)
theorem Lx:w4 ["works", "names"] ["works", "names"] (z9 Zz):=⟨rfl,rfl,rfl,by decide +kernel,rfl,by decide +kernel,by decide +kernel⟩
theorem Dj {Aa:Addr}(F:Fun K "in_dues" "in_dues" Zz f fd) (Ak:Fn P w K mg base 3 "check_names" ["works", "names"] (v7 (va Aa))) (D8:Fn P w K mg base 8 "due_rows" ["works"] (m4 (Qp Aa))) (Aj:Fn P w K mg base 2 "turned_pair" ["rows", "names"] (v7 ve)):FnOk P w K mg base v5 9 f fd ["works", "names"] (v7 (vb Aa)) :=
 qg (k:=8) (b:=(Wp Aa)) F Lx rfl fun cdv A outer s H E hr=>⟨_,(@j9 _ _ _ _ _ (vp (j8 Ak hr (by decide) rfl (@q0 _ _ _ _ _ (pv 0) (@q0 _ _ _ _ _ (pv 1) x9 (by rfl)) (by rfl))))
  (@j5 _ _ _ (w6 (zq (Vc) (j8 Aj hr (by decide) rfl (@q0 _ _ _ _ _ (j8 D8 hr (by decide) rfl (@q0 _ _ _ _ _ (pv 0) x9 (by rfl))) (@q0 _ _ _ _ _ (pv 1) x9 (by rfl)) (by rfl))) vn (t0 _))))),
  inferInstance⟩
abbrev ZB:Stmt:=u6 35
abbrev Wr (Aa:Addr):MS:=(v9 (zW (z5 (va Aa) (q8 (q9 0) (q8 (q9 1) x8))))
  (w5 (z0 wA (z5 ve (q8 (z5 (Qu Aa) (q8 (q9 0) x8)) (q8 (q9 1) x8))) (dC .non))))
def vd (Aa:Addr):List PV->Option PV:=t9 2 2 (Wr Aa)
theorem Ly:w4 ["works", "names"] ["works", "names"] (z9 ZB):=⟨rfl,rfl,rfl,by decide +kernel,rfl,by decide +kernel,by decide +kernel⟩
theorem Dl {Aa:Addr}(F:Fun K "in_steep" "in_steep" ZB f fd) (Ak:Fn P w K mg base 3 "check_names" ["works", "names"] (v7 (va Aa))) (D0:Fn P w K mg base 8 "steep_rows" ["works"] (m4 (Qu Aa))) (Aj:Fn P w K mg base 2 "turned_pair" ["rows", "names"] (v7 ve)):FnOk P w K mg base v5 9 f fd ["works", "names"] (v7 (vd Aa)) :=
 qg (k:=8) (b:=(Wr Aa)) F Ly rfl fun cdv A outer s H E hr=>⟨_,(@j9 _ _ _ _ _ (vp (j8 Ak hr (by decide) rfl (@q0 _ _ _ _ _ (pv 0) (@q0 _ _ _ _ _ (pv 1) x9 (by rfl)) (by rfl))))
  (@j5 _ _ _ (w6 (zq (Vc) (j8 Aj hr (by decide) rfl (@q0 _ _ _ _ _ (j8 D0 hr (by decide) rfl (@q0 _ _ _ _ _ (pv 0) x9 (by rfl))) (@q0 _ _ _ _ _ (pv 1) x9 (by rfl)) (by rfl))) vn (t0 _))))),
  inferInstance⟩
abbrev vz:Stmt:=vY (u6 51) 0
abbrev Xf (Aa:Addr):MS:=(v9 (zF Aa "least" (z5 XJ (q8 (q9 1) x8)))
  (v9 (zW (z5 XG (q8 (q9 3) (q8 (q9 4) (q8 (vQ Aa "hues" (zj Aa) 0 x8) x8)))))
  (v9 (zW (z5 XE (q8 (q9 2) (q8 (vQ Aa "hues" (zj Aa) 0 x8) x8))))
  (v9 (zF Aa "given" (m9 [none] [0] (i0 (q9 1)) (v4 0) r9 (z5 vj (q8 (x0 0) x8))))
  (v9 (zF Aa "held" (z5 vi (q8 (m9 [none] [0] (i0 (q9 2)) (v4 0) r9 (qL (q8 (z5 xy (q8 (q9 0) x8)) (q8 (q9 0) x8)))) x8)))
  (v9 (zF Aa "last" (dIf (dT (z0 wA (x0 3) (dC .non))) (dUn pNeg (dC (.int 1))) (q9 3)))
  (zF Aa "time" (q9 4))))))))
def wm (Aa:Addr):List PV->Option PV:=wY 5 5 Aa (Xf Aa)
theorem Lj:w4 ["self", "rinses", "cloths", "last", "time"] ["self", "rinses", "cloths", "last", "time"] (z9 vz):=⟨rfl,rfl,rfl,by decide +kernel,rfl,by decide +kernel,by decide +kernel⟩
theorem CS {Aa:Addr}(F:FunD K "__init__" "Works.__init__" vz f fd) (Aw:Fn P w K mg base 4 "check_cloths" ["cloths", "hues"] (v7 XE)) (B0:Fn P w K mg base 3 "check_start" ["last", "time", "hues"] (v7 XG)) (A8:Fn P w K mg base 4 "least_rinses" ["rinses"] (m4 XJ)) (Af:Fn P w K mg base 1 "name_of" ["cloth"] (v7 xy)) (B7:mg "dict"=none) (Al:mg "list"=none) [jp K Aa] [NoA K Aa "given"] [NoA K Aa "held"] [NoA K Aa "last"] [NoA K Aa "least"] [NoA K Aa "time"] (Ag:Mt P w K mg base 1 Aa "hues" ["self"] (v7 (zj Aa))):FnOk P w K mg base v5 5 f fd ["self", "rinses", "cloths", "last", "time"] (spI Aa (wm Aa)) :=
 okID (k:=4) (b:=Xf Aa) F Lj rfl (fun cdv A outer s H E hr=>⟨_,(@j9 _ _ _ _ _ (QH (K:=K) rfl (pv 0) (j8 A8 hr (by decide) rfl (@q0 _ _ _ _ _ (pv 1) x9 (by rfl))))
  (@j9 _ _ _ _ _ (vp (j8 B0 hr (by decide) rfl (@q0 _ _ _ _ _ (pv 3) (@q0 _ _ _ _ _ (pv 4) (@q0 _ _ _ _ _ (Qy Ag hr (by decide) (pv 0)) x9 (by rfl)) (by rfl)) (by rfl))))
  (@j9 _ _ _ _ _ (vp (j8 Aw hr (by decide) rfl (@q0 _ _ _ _ _ (pv 2) (@q0 _ _ _ _ _ (Qy Ag hr (by decide) (pv 0)) x9 (by rfl)) (by rfl))))
  (@j9 _ _ _ _ _ (QH (K:=K) rfl (pv 0) (qD (N':=["row"]) (cap:=[none]) (o5 rfl rfl rfl) rfl (@qH _ K _ _ _ rfl (pv 1)) (fun _ _ _ _ _ _=>(p9 (i:=0) (by show (["row"]:List Str).Nodup;decide +kernel) rfl (Or.inl rfl))) (fun _ _ _ _ _ _=>qh) (fun _ _ _ _ _ _=>(vm (Js (K:=K) rfl) rfl Al vO (@q0 _ _ _ _ _ (pv 0) x9 (by rfl))))))
  (@j9 _ _ _ _ _ (QH (K:=K) rfl (pv 0) (vm (Jr (K:=K) rfl rfl) rfl B7 Jq (@q0 _ _ _ _ _ (qD (N':=["cloth"]) (cap:=[none]) (o5 rfl rfl rfl) rfl (@qH _ K _ _ _ rfl (pv 2)) (fun _ _ _ _ _ _=>(p9 (i:=0) (by show (["cloth"]:List Str).Nodup;decide +kernel) rfl (Or.inl rfl))) (fun _ _ _ _ _ _=>qh) (fun _ _ _ _ _ _=>(@xz _ _ _ _ _ (@q0 _ _ _ _ _ (j8 Af hr (by decide) rfl (@q0 _ _ _ _ _ (pv 0) x9 (by rfl))) (@q0 _ _ _ _ _ (pv 0) x9 (by rfl)) (by rfl))))) x9 (by rfl))))
  (@j9 _ _ _ _ _ (QH (K:=K) rfl (pv 0) (UP (ql (Vc) (pv 3) vn (t0 _)) (UR Km z6) (pv 3)))
  (@j5 _ _ _ (QH (K:=K) rfl (pv 0) (pv 4))))))))),
  (by repeat' first | infer_instance | (refine @Mi.LT _ _ _ _ ?_ ?_))⟩)
abbrev Zm:Stmt:=u6 61
abbrev Wc:MS:=(v9 (m5 (dT (z0 qw (x0 2) (dC (.int 0)))) (w5 (z0 pLtP (qL (q8 (z0 j4 (x0 0) (dC (.int 3))) (q8 (z0 j4 (x0 0) (dC (.int 0))) x8))) (qL (q8 (z0 j4 (x0 1) (dC (.int 3))) (q8 (z0 j4 (x0 1) (dC (.int 0))) x8))))) n5)
  (w5 (z0 pLtP (qL (q8 (z0 jc (z0 j4 (x0 0) (dC (.int 2))) (z0 j4 (x0 1) (dC (.int 4)))) (q8 (z0 j4 (x0 0) (dC (.int 0))) x8))) (qL (q8 (z0 jc (z0 j4 (x0 1) (dC (.int 2))) (z0 j4 (x0 0) (dC (.int 4)))) (q8 (z0 j4 (x0 1) (dC (.int 0))) x8))))))
def zk:List PV->Option PV:=t9 3 3 Wc
theorem Ln:w4 ["one", "other", "way"] ["one", "other", "way"] (z9 Zm):=⟨rfl,rfl,rfl,by decide +kernel,rfl,by decide +kernel,by decide +kernel⟩
theorem CV (F:Fun K "_law_ahead" "_law_ahead" Zm f fd) :FnOk P w K mg base v5 1 f fd ["one", "other", "way"] (v7 zk) :=
 qg (k:=0) (b:=Wc) F Ln rfl fun cdv A outer s H E hr=>⟨_,(@j9 _ _ _ _ _ (i8 (ql (zK (K:=K) (hu6 hr) rfl) (pv 2) z6 (t0 _)) (@j5 _ _ _ (w6 (zq (UM (jw hr) (K:=K) rfl) (@xz _ _ _ _ _ (@q0 _ _ _ _ _ (y9 (g8 (K:=K) rfl) (pv 0) z6 (fun _ _=>rfl)) (@q0 _ _ _ _ _ (y9 (g8 (K:=K) rfl) (pv 0) z6 (fun _ _=>rfl)) x9 (by rfl)) (by rfl))) (@xz _ _ _ _ _ (@q0 _ _ _ _ _ (y9 (g8 (K:=K) rfl) (pv 1) z6 (fun _ _=>rfl)) (@q0 _ _ _ _ _ (y9 (g8 (K:=K) rfl) (pv 1) z6 (fun _ _=>rfl)) x9 (by rfl)) (by rfl))) (t0 _)))) i9)
  (@j5 _ _ _ (w6 (zq (UM (jw hr) (K:=K) rfl) (@xz _ _ _ _ _ (@q0 _ _ _ _ _ (y6 (vh) (y9 (g8 (K:=K) rfl) (pv 0) z6 (fun _ _=>rfl)) (y9 (g8 (K:=K) rfl) (pv 1) z6 (fun _ _=>rfl))) (@q0 _ _ _ _ _ (y9 (g8 (K:=K) rfl) (pv 0) z6 (fun _ _=>rfl)) x9 (by rfl)) (by rfl))) (@xz _ _ _ _ _ (@q0 _ _ _ _ _ (y6 (vh) (y9 (g8 (K:=K) rfl) (pv 1) z6 (fun _ _=>rfl)) (y9 (g8 (K:=K) rfl) (pv 0) z6 (fun _ _=>rfl))) (@q0 _ _ _ _ _ (y9 (g8 (K:=K) rfl) (pv 1) z6 (fun _ _=>rfl)) x9 (by rfl)) (by rfl))) (t0 _))))),
  inferInstance⟩
abbrev ZA:Stmt:=u6 62
abbrev Wq:MS:=(v9 (n9 3 (z5 vi (q8 (m9 [none] [0] (i0 (z0 j4 (x0 0) (dC (.int 1)))) (v4 0) r9 (qL (q8 (z0 j4 (x0 0) (dC (.int 0))) (q8 (q9 0) x8)))) x8)))
  (v9 (xt (qu (q8 (z5 o9 (q8 (x0 1) x8)) x8)) (v4 4) (xt (qu (q8 (q9 4) x8)) (v4 5) (v9 (n9 6 (qK (x0 3) (z0 j4 (x0 1) (x0 5))))
  (v9 (n9 7 (qK (x0 3) (z0 j4 (x0 1) (x0 4))))
  (m5 (xD (dT (z0 qw (z0 j4 (x0 6) (dC (.int 1))) (z0 j4 (x0 7) (dC (.int 1))))) (o6 (z5 zk (q8 (q9 7) (q8 (q9 6) (q8 (q9 2) x8)))))) (w5 (dC (.bl false))) n5)))))
  (w5 (dC (.bl true)))))
def vc:List PV->Option PV:=t9 8 3 Wq
theorem sc_in_order:w4 ["parts", "names", "way", "cloths", "k", "j", "one", "other"] ["parts", "names", "way"] (z9 ZA):=⟨rfl,rfl,rfl,by decide +kernel,rfl,by decide +kernel,by decide +kernel⟩
theorem Dk (F:Fun K "_law_in_order" "_law_in_order" ZA f fd) (D7:Fn P w K mg base 1 "_law_ahead" ["one", "other", "way"] (v7 zk)) (B7:mg "dict"=none) (Ae:mg "len"=none) (Ac:mg "range"=none):FnOk P w K mg base v5 2 f fd ["parts", "names", "way"] (v7 vc) :=
 qg (k:=1) (b:=Wq) F sc_in_order rfl fun cdv A outer s H E hr=>⟨_,(@j9 _ _ _ _ _ (@u9 _ _ 3 _ _ _ _ sc_in_order.nd rfl (Or.inl rfl) (vm (Jr (K:=K) rfl rfl) rfl B7 Jq (@q0 _ _ _ _ _ (qD (N':=["cloth"]) (cap:=[none]) (o5 rfl rfl rfl) rfl (@qH _ K _ _ _ rfl (y9 (g8 (K:=K) rfl) (pv 0) z6 (fun _ _=>rfl))) (fun _ _ _ _ _ _=>(p9 (i:=0) (by show (["cloth"]:List Str).Nodup;decide +kernel) rfl (Or.inl rfl))) (fun _ _ _ _ _ _=>qh) (fun _ _ _ _ _ _=>(@xz _ _ _ _ _ (@q0 _ _ _ _ _ (y9 (g8 (K:=K) rfl) (pv 0) z6 (fun _ _=>rfl)) (@q0 _ _ _ _ _ (pv 0) x9 (by rfl)) (by rfl))))) x9 (by rfl))) (by rfl) (.inl rfl))
  (@j9 _ _ _ _ _ (xT PassesOwn.never rfl (xS rfl Ac (@q0 _ _ _ _ _ (n8 (xa (K:=K) rfl) rfl Ae PySem.boot_len (@q0 _ _ _ _ _ (pv 1) x9 (by rfl))) x9 (by rfl))) (p9 (i:=4) sc_in_order.nd rfl (Or.inl rfl))
   (@j5 _ _ _ (xT PassesOwn.never rfl (xS rfl Ac (@q0 _ _ _ _ _ (pv 4) x9 (by rfl))) (p9 (i:=5) sc_in_order.nd rfl (Or.inl rfl))
   (@j9 _ _ _ _ _ (@u9 _ _ 6 _ _ _ _ sc_in_order.nd rfl (Or.inl rfl) (XW (jw hr) (pv 3) (y9 (g8 (K:=K) rfl) (pv 1) (pv 5) (fun _ _=>rfl)) (fun _ _=>rfl)) (by rfl) (.inl rfl))
  (@j9 _ _ _ _ _ (@u9 _ _ 7 _ _ _ _ sc_in_order.nd rfl (Or.inl rfl) (XW (jw hr) (pv 3) (y9 (g8 (K:=K) rfl) (pv 1) (pv 4) (fun _ _=>rfl)) (fun _ _=>rfl)) (by rfl) (.inl rfl))
  (@j5 _ _ _ (i8 (PW.pt (QJ (ql (zK (K:=K) (hu6 hr) rfl) (y9 (g8 (K:=K) rfl) (pv 6) z6 (fun _ _=>rfl)) (y9 (g8 (K:=K) rfl) (pv 7) z6 (fun _ _=>rfl)) (t0 _)) (QK (xf (K:=K) rfl (j8 D7 hr (by decide) rfl (@q0 _ _ _ _ _ (pv 7) (@q0 _ _ _ _ _ (pv 6) (@q0 _ _ _ _ _ (pv 2) x9 (by rfl)) (by rfl)) (by rfl))) (fun _=>rfl))))) (@j5 _ _ _ (w6 za)) i9)))))))
  (@j5 _ _ _ (w6 za)))),
  inferInstance⟩
abbrev ZS:Stmt:=u6 64
abbrev WK:MS:=(v9 (n9 3 (z5 vi (q8 (m9 [none] [0] (i0 (z0 j4 (x0 0) (dC (.int 1)))) (v4 0) r9 (qL (q8 (z0 j4 (x0 0) (dC (.int 0))) (q8 (q9 0) x8)))) x8)))
  (v9 (wZ 4 (z5 vj (q8 (x0 1) x8)))
  (v9 (xt (qu (q8 (z5 o9 (q8 (x0 4) x8)) x8)) (v4 5) (xt (qu (q8 (q9 5) x8)) (v4 6) (v9 (n9 7 (qK (x0 3) (z0 j4 (x0 4) (x0 6))))
  (v9 (n9 8 (qK (x0 3) (z0 j4 (x0 4) (x0 5))))
  (m5 (xD (dT (z0 qw (z0 j4 (x0 7) (dC (.int 1))) (z0 j4 (x0 8) (dC (.int 1))))) (o6 (z5 zk (q8 (q9 8) (q8 (q9 7) (q8 (q9 2) x8)))))) (Qb 4 (z0 j4 (x0 4) (x0 5)) (z0 j4 (x0 4) (x0 6)) (q9 6) (q9 5)) n5)))))
  (w5 (oVar 4)))))
def XM:List PV->Option PV:=qt 9 3 WK
theorem sc_put_right:w4 ["parts", "names", "way", "cloths", "here", "k", "j", "one", "other"] ["parts", "names", "way"] (z9 ZS):=⟨rfl,rfl,rfl,by decide +kernel,rfl,by decide +kernel,by decide +kernel⟩
theorem DE (F:Fun K "_law_put_right" "_law_put_right" ZS f fd) (D7:Fn P w K mg base 1 "_law_ahead" ["one", "other", "way"] (v7 zk)) (B7:mg "dict"=none) (Ae:mg "len"=none) (Al:mg "list"=none) (Ac:mg "range"=none):FnOk P w K mg base v5 2 f fd ["parts", "names", "way"] (m4 XM) :=
 okO (k:=1) (b:=WK) F sc_put_right rfl fun cdv A outer s H E hr=>⟨_,(@j9 _ _ _ _ _ (@u9 _ _ 3 _ _ _ _ sc_put_right.nd rfl (Or.inl rfl) (vm (Jr (K:=K) rfl rfl) rfl B7 Jq (@q0 _ _ _ _ _ (qD (N':=["cloth"]) (cap:=[none]) (o5 rfl rfl rfl) rfl (@qH _ K _ _ _ rfl (y9 (g8 (K:=K) rfl) (pv 0) z6 (fun _ _=>rfl))) (fun _ _ _ _ _ _=>(p9 (i:=0) (by show (["cloth"]:List Str).Nodup;decide +kernel) rfl (Or.inl rfl))) (fun _ _ _ _ _ _=>qh) (fun _ _ _ _ _ _=>(@xz _ _ _ _ _ (@q0 _ _ _ _ _ (y9 (g8 (K:=K) rfl) (pv 0) z6 (fun _ _=>rfl)) (@q0 _ _ _ _ _ (pv 0) x9 (by rfl)) (by rfl))))) x9 (by rfl))) (by rfl) (.inl rfl))
  (@j9 _ _ _ _ _ (@u9 _ _ 4 _ _ _ _ sc_put_right.nd rfl (Or.inl rfl) (vm (Js (K:=K) rfl) rfl Al vO (@q0 _ _ _ _ _ (pv 1) x9 (by rfl))) (by rfl) (.inl rfl))
  (@j9 _ _ _ _ _ (xT PassesOwn.never rfl (xS rfl Ac (@q0 _ _ _ _ _ (n8 (xa (K:=K) rfl) rfl Ae PySem.boot_len (@q0 _ _ _ _ _ (pv 4) x9 (by rfl))) x9 (by rfl))) (p9 (i:=5) sc_put_right.nd rfl (Or.inl rfl))
   (@j5 _ _ _ (xT PassesOwn.never rfl (xS rfl Ac (@q0 _ _ _ _ _ (pv 5) x9 (by rfl))) (p9 (i:=6) sc_put_right.nd rfl (Or.inl rfl))
   (@j9 _ _ _ _ _ (@u9 _ _ 7 _ _ _ _ sc_put_right.nd rfl (Or.inl rfl) (XW (jw hr) (pv 3) (y9 (g8 (K:=K) rfl) (pv 4) (pv 6) (fun _ _=>rfl)) (fun _ _=>rfl)) (by rfl) (.inl rfl))
  (@j9 _ _ _ _ _ (@u9 _ _ 8 _ _ _ _ sc_put_right.nd rfl (Or.inl rfl) (XW (jw hr) (pv 3) (y9 (g8 (K:=K) rfl) (pv 4) (pv 5) (fun _ _=>rfl)) (fun _ _=>rfl)) (by rfl) (.inl rfl))
  (@j5 _ _ _ (i8 (PW.pt (QJ (ql (zK (K:=K) (hu6 hr) rfl) (y9 (g8 (K:=K) rfl) (pv 7) z6 (fun _ _=>rfl)) (y9 (g8 (K:=K) rfl) (pv 8) z6 (fun _ _=>rfl)) (t0 _)) (QK (xf (K:=K) rfl (j8 D7 hr (by decide) rfl (@q0 _ _ _ _ _ (pv 8) (@q0 _ _ _ _ _ (pv 7) (@q0 _ _ _ _ _ (pv 2) x9 (by rfl)) (by rfl)) (by rfl))) (fun _=>rfl))))) (@j5 _ _ _ (Zd (@xz _ _ _ _ _ (@q0 _ _ _ _ _ (y9 (g8 (K:=K) rfl) (pv 4) (pv 5) (fun _ _=>rfl)) (@q0 _ _ _ _ _ (y9 (g8 (K:=K) rfl) (pv 4) (pv 6) (fun _ _=>rfl)) x9 (by rfl)) (by rfl))) (QA (K:=K) (n:=2) rfl rfl (zM (Qz (pv 4) (pv 6) QO) (zM (Qz (pv 4) (pv 5) QO) QB))))) i9)))))))
  (@j5 _ _ _ (w6 (pv 4)))))),
  inferInstance⟩
theorem VG (n:Int):jA [.at (.int n)]=some (.at (.bl true)):=qv rfl (m8 (jP (v3 rfl PQ) (Pb (v:=false) (v3 rfl PR))))
theorem NR (n k:Int):zJ [.at (.int n),.at (.int k)]=some (.at (.bl (decide (k<=n)))):=qv rfl (m8 (jP (v3 rfl (VG n)) rfl))
theorem QX {n k:Int}(h:k<=n):zJ [.at (.int n),.at (.int k)]=some (.at (.bl true)):=(NR n k).trans (by rw [decide_eq_true h])
theorem NU {s:Str}(h:vF s):XI [.at (.str s)]=some (.at (.bl true)):=by
 have hl:lim=1000000:=rfl
 have l1:=h.one
 have l8:=h.eight
 have ln:o9 [.at (.str s)]=some (.at (.int s.length)):=if_pos (by omega)
 refine qv rfl (u7 (qM (vR (xu (xF (v3 rfl PU))) (xu (i6 (JF (r:=true) rfl (v3 rfl ln) ?_ rfl ?_)))) qN) (m8 (v3 (v8 (qR (fun c:Nat=>PV.at (.str ⟨#[c]⟩)) (fun _=>PV.at (.bl true)) s.cps.toList rfl rfl ?_ ?_) rfl) (wS _))))
 ·show some (PV.at (.bl (decide ((1:Int)<=(s.length:Int)))))=_
  rw [decide_eq_true (by omega)]
 ·show some (PV.at (.bl (decide ((s.length:Int)<=8))))=_
  rw [decide_eq_true (by omega)]
 ·have:s.cps.toList.length=s.length:=by simp [Str.length]
  omega
 ·intro c hc
  obtain ⟨c1,c2⟩:=h.low c hc
  refine ⟨_,rfl,JF rfl rfl ?_ rfl ?_⟩
  ·show some (PV.at (.bl (!decide ([c] < ("a":Str).cps.toList))))=_
   have e:¬ ([c] < [97]):=by rw [List.cons_lt_cons_iff];simp;omega
   rw [show ("a":Str).cps.toList=[97] by decide +kernel,decide_eq_false e];rfl
  ·show some (PV.at (.bl (!decide (("z":Str).cps.toList < [c]))))=_
   have e:¬ ([122] < [c]):=by rw [List.cons_lt_cons_iff];simp;omega
   rw [show ("z":Str).cps.toList=[122] by decide +kernel,decide_eq_false e];rfl
theorem NT {h:Nat}{c:Cl}(ok:c.Ok h):XH [c.pv,.at (.int h)]=some (.at (.bl true)):=by
 refine qv rfl (u7 (qM (vR (xu (xF (v3 rfl PX))) (i6 (v:=false) rfl)) qN) (u7 (qM (vR (xu (xF (v3 (v8 (v3 rfl rfl) rfl) (NU ok.nm)))) (vR (xu (xF (v3 (v8 (v3 rfl rfl) rfl) (QX (n:=(c.hue:Int)) (k:=0) (by omega))))) (i6 (v:=false) (w9 (v3 rfl rfl) rfl ?_)))) qN) (m8 (jP (v3 (v8 (v3 rfl rfl) rfl) (QX ok.l1)) (jP (v3 (v8 (v3 rfl rfl) rfl) (VG _)) (v3 (v8 (v3 rfl rfl) rfl) (QX ok.w1)))))))
 show some (PV.at (.bl (decide ((h:Int)<=(c.hue:Int)))))=_
 have:=ok.hu
 rw [decide_eq_false (by omega)]
theorem NO {l t:Int}{h:Nat}(h1:-1<=l)(h2:l < (h:Int))(h3:0<=t):XG [.at (.int l),.at (.int t),.at (.int h)]=some (.at .non):=by
 refine Xs rfl (u7 (qM (Jw (v:=false) (i6 (v:=true) rfl) (xu (Jw (v:=true) (xF (v3 rfl (QX h1))) (i6 (v:=true) ?_)))) qN) (qM (xu (xF (v3 rfl (QX h3)))) qN))
 show some (PV.at (.bl (decide (l < (h:Int)))))=_
 rw [decide_eq_true h2]
def keysOf (cs:List Cl):List z7:=cs.map fun c=>Sum.inr c.name
theorem Ux {x:Str}{α:Type}(f:Cl->PV):∀ {cs:List Cl},x ∉ cs.map Cl.name->xc (.inr x) (keysOf cs) (cs.map f)=none
 | [],_=>rfl
 | c::cs,h=>by
  rw [List.map_cons] at h
  show (if (Sum.inr c.name:z7) = .inr x then _ else xc (.inr x) (keysOf cs) (cs.map f))=_
  rw [if_neg (fun e=>h (by injection e with e;rw [e];exact List.mem_cons_self)),Ux (α:=α) f fun z=>h (List.mem_cons_of_mem _ z)]
theorem Qm (f:Cl->PV):∀ {cs:List Cl},(cs.map Cl.name).Nodup->∀ c ∈ cs,xc (.inr c.name) (keysOf cs) (cs.map f)=some (f c)
 | [],_,_,h=>nomatch h
 | d::cs,nd,c,h=>by
  rw [List.map_cons] at nd
  have nd':=List.nodup_cons.mp nd
  show (if (Sum.inr d.name:z7) = .inr c.name then some (f d) else xc (.inr c.name) (keysOf cs) (cs.map f))=_
  rcases List.mem_cons.mp h with rfl | h
  ·rw [if_pos rfl]
  ·rw [if_neg (fun e=>nd'.1 (by injection e with e;rw [e];exact List.mem_map.mpr ⟨c,h,rfl⟩)),Qm f nd'.2 c h]
theorem NM {cls:List Cl}{h:Nat}(hok:∀ c ∈ cls,c.Ok h)(nd:(cls.map Cl.name).Nodup)(ten:cls.length<=10):XE [.lst (cls.map Cl.pv),.at (.int h)]=some (.at .non):=by
 have hl:lim=1000000:=rfl
 refine Xs rfl (u7 (qM (i6 (v:=false) (w9 (v3 rfl rfl) rfl ?_)) qN) (u7 (YR rfl) (xP rfl (wf Cl.pv (fun l ε=>∃ (done:List Cl) (s3:MSlot),done++l=cls/\ε=[.sh (.lst (cls.map Cl.pv)),.sh (.at (.int h)),.ow (.dk (keysOf done) (done.map fun _=>PV.at (.bl true))),s3]) ?_ cls _ ⟨[],.no,rfl,rfl⟩).choose_spec.1)))
 ·show some (PV.at (.bl (decide ((10:Int) < ((cls.map Cl.pv).length:Int)))))=_
  rw [List.length_map,decide_eq_false (by omega)]
 ·rintro c l ε ⟨done,s3,e,rfl⟩
  have hc:c ∈ cls:=by rw [<- e];exact List.mem_append_right _ List.mem_cons_self
  have hn:c.name ∉ done.map Cl.name:=fun z=>by
   rw [<- e,List.map_append,List.map_cons] at nd
   exact (List.nodup_append.mp nd).2.2 _ z _ List.mem_cons_self rfl
  have ln:=Ux (α:=Unit) (fun _=>PV.at (.bl true)) hn
  have hd:done.length<=10:=by rw [<- e] at ten;rw [List.length_append] at ten;omega
  refine ⟨_,_,rfl,u7 (qM (xu (xF (v3 rfl (NT (hok c hc))))) qN) (u7 (qM (i6 (v:=false) ?_) qN) ?_),done++[c],.sh c.pv,by rw [<- e,List.append_assoc];rfl,rfl⟩
  ·show some (PV.at (.bl (xc (.inr c.name) (keysOf done) (done.map fun _=>PV.at (.bl true))).isSome))=_
   rw [ln];rfl
  ·show (if (keysOf done).length<=lim then some (Out.nx [_,_,.ow (Ze (.inr c.name) (.at (.bl true)) (keysOf done) (done.map fun _=>PV.at (.bl true))),_]) else none)=_
   unfold Ze
   rw [if_pos (by unfold keysOf;rw [List.length_map];omega),ln]
   simp only [Option.isSome_none,Bool.false_eq_true,if_false]
   unfold keysOf
   rw [List.map_append,List.map_append]
   rfl
def jS (n:Int):PV:= .at (.int n)
def xB (r:List Int):PV:= .lst (r.map jS)
def wyP (w:Wy):PV:= .tup [.at (.int w.1),.lst (w.2.map jS)]
def qI (ws:List Wy):PV:= .lst (ws.map wyP)
theorem Hc {r:List Int}{h:Nat}(hl:r.length=h)(h4:h<=4)(hv:∀ v ∈ r,0<=v):Qq [xB r,.at (.int h)]=some (.at (.bl true)):=by
 have hlim:lim=1000000:=rfl
 refine qv rfl (u7 (qM (vR (xu (xF (v3 rfl JL))) (i6 (v:=false) (w9 (v3 rfl rfl) rfl ?_))) qN) (m8 (v3 (v8 (qR jS (fun _=>PV.at (.bl true)) r rfl rfl (by omega) fun v hvm=>?_) rfl) (wS _))))
 ·show (peq 6 (.at (.int ((r.map jS).length:Int))) (.at (.int (h:Int)))).bind _=_
  rw [List.length_map,hl]
  exact Ve (x:= .at (.int (h:Int))) rfl
 ·refine ⟨_,rfl,jP (v3 rfl (VG v)) ?_⟩
  show some (PV.at (.bl (decide ((0:Int)<=v))))=_
  rw [decide_eq_true (hv v hvm)]
theorem NN {rss:List (List Int)}{h:Nat}(G:xq h rss)(h1:1<=h)(h4:h<=4):XF [qm rss]=some (.at .non):=by
 have hlim:lim=1000000:=rfl
 have hlen:=G.len
 have eh:((rss.map xB).length:Int) - 1=(h:Int):=by rw [List.length_map,hlen];omega
 have step:∀ (k:Int),k=(h:Int)->v9 (m5 (qB (dT (jO pLe pLe (dC (.int 1)) (x0 1) (dC (.int 4))))) xW n5)
  (m5 (qB (o6 (z5 zn (q8 (m9 [none,some 1] [0] (i0 (q9 0)) (v4 0) r9 (z5 Qq (q8 (q9 0) (q8 (q9 1) x8)))) x8)))) xW n5) [.sh (qm rss),.sh (.at (.int k))]=some (.nx [.sh (qm rss),.sh (.at (.int k))]):=by
  rintro k rfl
  refine u7 (qM (xu (i6 (JF (r:=true) rfl rfl ?_ rfl ?_))) qN) (qM (xu (xF (v3 (v8 (qR xB (fun _=>PV.at (.bl true)) rss rfl rfl (by omega) fun r hr=>⟨_,rfl,v3 rfl (Hc (G.row r hr).1 h4 fun v hv=>((G.row r hr).2 v hv).1)⟩) rfl) (wS _)))) qN)
  ·show some (PV.at (.bl (decide ((1:Int)<=(h:Int)))))=_
   rw [decide_eq_true (by omega)]
  ·show some (PV.at (.bl (decide ((h:Int)<=4))))=_
   rw [decide_eq_true (by omega)]
 exact Xs rfl (u7 (qM (xu (xF (v3 rfl JL))) qN) (u7 (qC rfl) (step _ eh)))
theorem YI {α:Type}(f:α->PV):∀ (l:List α) (n:Nat),xw n (l.map f)=(l.zipIdx n).map fun p=>PV.tup [.at (.int ((p.2:Nat):Int)),f p.1]
 | [],_=>rfl
 | x::l,n=>by
  rw [List.map_cons,List.zipIdx_cons,List.map_cons]
  show PV.tup [.at (.int n),f x]::xw (n + 1) (l.map f)=_
  rw [YI f l (n + 1)]
theorem Hf {r:List Int}(h:r.length<=4):Qv [xB r]=some (qI (zu r)):=by
 have hlim:lim=1000000:=rfl
 refine xG rfl (m8 ?_)
 have e:=qR (cap:=[none,none]) (ts:=[0,1]) (it:=wX (q8 (q9 0) x8)) (g:=xJ 2 (o8 (v4 0) (o8 (v4 1) xI))) (f:=qL (q8 (q9 1) (q8 (xE (q8 (q9 0) x8)) x8))) (ε:=[.sh (xB r)])
  (fun p:Int × Nat=>PV.tup [.at (.int ((p.2:Nat):Int)),jS p.1]) (fun p:Int × Nat=>wyP (p.1,[(p.2:Int)])) (r.zipIdx 0) (by show some (xw 0 (r.map jS))=_;rw [YI]) rfl (by rw [List.length_zipIdx];omega) fun p _=>⟨_,rfl,rfl⟩
 refine e.trans ?_
 unfold qI zu
 rw [List.mapIdx_eq_zipIdx_map,List.map_map]
 rfl
theorem NV {a b:Wy}(h:a.2.length + b.2.length<=1000):Qr [wyP a,wyP b]=some (wyP (zi a b)):=by
 have hlim:lim=1000000:=rfl
 refine qv rfl (m8 (zH (v8 (w9 rfl rfl rfl) (v8 (w9 rfl rfl (DW (by rw [List.length_map,List.length_map];omega))) rfl)) (by first | decide | (show 1<=lim;decide) | (show 2<=lim;decide) | (show 3<=lim;decide))) |>.trans ?_)
 unfold wyP zi
 rw [List.map_append]
theorem NY (a b:Wy):Qt [wyP a,wyP b]=some (wyP (zI a b)):=by
 unfold zI
 by_cases h:b.1 < a.1
 ·rw [if_pos h]
  exact qv rfl (m8 (Pa (i6 (v:=true) (w9 rfl rfl (show some (PV.at (.bl (decide (b.1 < a.1))))=_ by rw [decide_eq_true h]))) rfl))
 ·rw [if_neg h]
  exact qv rfl (m8 (YM (i6 (v:=false) (w9 rfl rfl (show some (PV.at (.bl (decide (b.1 < a.1))))=_ by rw [decide_eq_false h]))) rfl))
theorem KL {α β:Type}(f:α->PV)(g:β->PV):∀ (l:List α) (m:List β),qZ (l.map f) (m.map g)=(l.zip m).map fun p=>PV.tup [f p.1,g p.2]
 | [],_=>by cases ‹List β› <;> rfl
 | _::_,[]=>rfl
 | x::l,y::m=>by
  show PV.tup [f x,g y]::qZ (l.map f) (m.map g)=_
  rw [KL f g l m];rfl
theorem KM {α β γ:Type}(f:α->β->γ):∀ (l:List α) (m:List β),List.zipWith f l m=(l.zip m).map fun p=>f p.1 p.2
 | [],_=>by simp
 | _::_,[]=>rfl
 | x::l,y::m=>by
  show f x y::List.zipWith f l m=_
  rw [KM f l m];rfl
theorem Hh {ws onw:List Wy}{k:Nat}(hk:k < ws.length)(h4:ws.length<=4)(l1:∀ w ∈ ws,w.2.length<=100)(l2:∀ w ∈ onw,w.2.length<=100):wu [qI ws,.at (.int (k:Int)),qI onw]=some (qI (thr ws k onw)):=by
 have hlim:lim=1000000:=rfl
 have hg:ws.getD k (0,[])=ws[k]:=i7 hk
 have hw:=List.getElem_mem hk
 refine xG rfl (m8 ?_)
 have e:=qR (cap:=[none,none,some 0,some 1]) (ts:=[0,1]) (it:=vS (q8 (q9 0) (q8 (q9 2) x8))) (g:=xJ 2 (o8 (v4 0) (o8 (v4 1) xI))) (f:=z5 Qt (q8 (q9 0) (q8 (z5 Qr (q8 (z0 j4 (x0 2) (x0 3)) (q8 (q9 1) x8))) x8))) (ε:=[.sh (qI ws),.sh (.at (.int (k:Int))),.sh (qI onw)])
  (fun p:Wy × Wy=>PV.tup [wyP p.1,wyP p.2]) (fun p:Wy × Wy=>wyP (zI p.1 (zi ws[k] p.2))) (ws.zip onw) (by show some (qZ (ws.map wyP) (onw.map wyP))=_;rw [KL]) rfl (by rw [List.length_zip];omega) fun p hp=>⟨_,rfl,v3 (v8 rfl (v8 (v3 (v8 (w9 rfl rfl (jM (v:=wyP ws[k]) (by rw [List.getElem?_map,List.getElem?_eq_getElem hk];rfl))) (v8 rfl rfl)) (NV (by
   have q1:=l1 _ hw
   have q2:=l2 p.2 (List.of_mem_zip hp).2
   omega))) rfl)) (NY _ _)⟩
 refine e.trans ?_
 unfold qI thr
 rw [hg,KM,List.map_map]
 rfl
theorem Hm {h k:Nat}{rss:List (List Int)}(G:xq h rss)(hk:k<=h)(h4:h<=4):∀ r ∈ o7 rss k,∀ w ∈ r,w.2.length<=100:=by
 intro r hr w hw
 have S:=Shp.all G k hk
 have F:=FW.all G k hk
 obtain ⟨f,hf,rfl⟩:=List.getElem_of_mem hr
 obtain ⟨g,hg,rfl⟩:=List.getElem_of_mem hw
 have hf':f<=h:=by have:=S.len;omega
 have hg':g < h:=by rw [<- S.row _ hr];exact hg
 have e:y3 (o7 rss k) f g=(o7 rss k)[f][g]:=by unfold y3;rw [i7 hf,i7 hg]
 have q:=F.len f g hf' hg'
 rw [e] at q
 have:2 ^ k<=2 ^ 4:=Nat.pow_le_pow_right (by decide) (by omega)
 omega
def QV (T:List (List Wy)):PV:= .lst (T.map qI)
theorem NX {rss:List (List Int)}{h:Nat}(G:xq h rss)(h1:1<=h)(h4:h<=4):XL [qm rss]=some (QV (o7 rss h)):=by
 have hlim:lim=1000000:=rfl
 have hlimI:(lim:Int)=1000000:=rfl
 have hlen:=G.len
 have st:m9 [none] [0] (i0 (q9 0)) (v4 0) r9 (z5 Qv (q8 (q9 0) x8)) [.sh (qm rss),.no,.no,.no]=some (QV (o7 rss 0)):=by
  refine (qR xB (fun r=>qI (zu r)) rss rfl rfl (by omega) fun r hr=>⟨_,rfl,v3 rfl (Hf (by rw [(G.row r hr).1];exact h4))⟩).trans ?_
  show _=some (PV.lst ((rss.map zu).map qI))
  rw [List.map_map];rfl
 have rg:qu (q8 (z0 jB (z5 o9 (q8 (x0 0) x8)) (dC (.int 1))) x8) [.sh (qm rss),.sh (QV (o7 rss 0)),.no,.no]=some ((List.range h).map fun (i:Nat)=>PV.at (.int ((0:Int) + i))):=by
  refine zt (k:=h) (v8 (w9 (v3 rfl rfl) rfl ?_) rfl) (by omega)
  show some (PV.at (.int (((rss.map xB).length:Int) - 1)))=_
  rw [List.length_map,hlen,show ((h + 1:Nat):Int) - 1=(h:Int) by omega]
 have lp:=wf (g:=v4 2) (f:=v9 (n9 3 (z0 j4 (x0 1) (x0 2))) (n9 1 (m9 [none,some 2,some 3] [0] (i0 (q9 1)) (v4 0) r9 (z5 wu (q8 (q9 0) (q8 (q9 1) (q8 (q9 2) x8)))))))
  (fun (i:Nat)=>PV.at (.int ((0:Int) + i))) (fun l ε=>∃ (k:Nat) (s2 s3:MSlot),l=(List.range h).drop k/\k<=h/\ε=[.sh (qm rss),.sh (QV (o7 rss k)),s2,s3]) (by
   rintro i l ε ⟨k,s2,s3,el,hk,rfl⟩
   have hkl:k < h:=by
    have e5:(i::l).length=((List.range h).drop k).length:=by rw [<- el]
    rw [List.length_drop,List.length_range,List.length_cons] at e5
    omega
   have ei:i=k:=by
    have:((List.range h).drop k)[0]?=some i:=by rw [<- el];rfl
    rw [List.getElem?_drop,List.getElem?_range (by omega)] at this
    simpa using this.symm
   have er:l=(List.range h).drop (k + 1):=by
    have:((List.range h).drop k).tail=l:=by rw [<- el];rfl
    rw [<- this,List.tail_drop]
   subst ei
   have S:=Shp.all G i hk
   have hT:i < (o7 rss i).length:=by rw [S.len];omega
   have gD:(o7 rss i).getD i []=(o7 rss i)[i]:=i7 hT
   have wl:=Hm G hk h4
   refine ⟨_,_,rfl,u7 (qC (x:=qI (o7 rss i)[i]) (w9 rfl rfl ?_)) (qC (x:=QV (o7 rss (i + 1))) ?_),i + 1,_,_,er,hkl,rfl⟩
   ·show atI ((o7 rss i).map qI) (0 + (i:Int))=_
    rw [Int.zero_add]
    exact jM (by rw [List.getElem?_map,List.getElem?_eq_getElem hT];rfl)
   ·refine (qR qI (fun row=>qI (thr row i (o7 rss i)[i])) (o7 rss i) rfl rfl (by rw [S.len];omega) fun row hr=>⟨_,rfl,v3 rfl ?_⟩).trans ?_
    ·show wu [qI row,.at (.int (0 + (i:Int))),qI (o7 rss i)[i]]=_
     rw [Int.zero_add]
     exact Hh (by rw [S.row row hr];exact hkl) (by rw [S.row row hr];exact h4) (wl row hr) (wl _ (List.getElem_mem hT))
    ·show _=some (PV.lst ((qS (o7 rss i) i).map qI))
     unfold qS
     rw [List.map_map,gD]
     rfl) (List.range h) _ ⟨0,.no,.no,rfl,Nat.zero_le _,rfl⟩
 obtain ⟨ε',e',k,s2,s3,el,hk,rfl⟩:=lp
 have ek:k=h:=by
  have:=congrArg List.length el
  rw [List.length_drop,List.length_range] at this
  simp at this
  omega
 subst ek
 exact qv rfl (u7 (qC st) (u7 (xP rg e') (m8 rfl)))
theorem Hg {ws:List Wy}(h4:ws.length<=4):XN [qI ws]=some (xB (ws.map (·.1))):=by
 have hlim:lim=1000000:=rfl
 refine xG rfl (m8 ((qR wyP (fun w=>jS w.1) ws rfl rfl (by omega) fun w _=>⟨_,rfl,rfl⟩).trans ?_))
 unfold xB
 rw [List.map_map];rfl
theorem NW {rss:List (List Int)}{h:Nat}(G:xq h rss)(h1:1<=h)(h4:h<=4):XJ [qm rss]=some (qm (jY rss h)):=by
 have hlim:lim=1000000:=rfl
 have S:=Shp.all G h (Nat.le_refl _)
 refine xG rfl (u7 (Qc (v3 rfl (NN G h1 h4))) (m8 ((qR qI (fun ws=>xB (ws.map (·.1))) (o7 rss h) (YO (v3 rfl (NX G h1 h4))) rfl (by rw [S.len];omega) fun ws hw=>⟨_,rfl,v3 rfl (Hg (by rw [S.row ws hw];exact h4))⟩).trans ?_)))
 show _=some (PV.lst ((jY rss h).map xB))
 unfold jY
 rw [List.map_map];rfl
def Dr.low (d:Dr):List (List Int):=jY d.rss d.h
def Pc:List Str:=["least", "given", "held", "last", "time"]
def Dr.ob (C:Addr)(d:Dr):PV:= .ob C Pc [qm d.low,qm d.rss,.fk (keysOf d.cls) (d.cls.map Cl.pv),.at (.int d.last),.at (.int d.time)]
def Dr.names (d:Dr):List Str:=d.cls.map Cl.name
theorem JD (a b:Int):qw (.at (.int a)) (.at (.int b))=some (.at (.bl (decide (a=b)))):=by
 show some (PV.at (.bl (qf (.int a) (.int b))))=_
 have:qf (.int a) (.int b)=decide (a=b):=rfl
 rw [this]
section
variable {C:Addr}{d:Dr}
theorem Kq (ok:d.Ok):zj C [d.ob C]=some (.at (.int d.h)):=by
 have G:=UA ok.rin
 refine qv rfl (m8 (w9 (v3 (v8 (Xr rfl rfl) rfl) rfl) rfl ?_))
 show some (PV.at (.int (((d.low.map xB).length:Int) - 1)))=_
 rw [List.length_map,show d.low.length=d.h + 1 from G.len,show ((d.h + 1:Nat):Int) - 1=(d.h:Int) by omega]
structure Lst (d:Dr)(ns:List Cl):Prop where
 sub:∀ c ∈ ns,c ∈ d.cls
 nd:(ns.map Cl.name).Nodup
def p7 (cs:List Cl):PV:= .lst (v6 (cs.map Cl.name))
theorem Lst.len {ns:List Cl}(ok:d.Ok)(L:Lst d ns):ns.length<=10:=by
 have:=UH L.nd (left:=d.cls.map Cl.name) fun x hx=>by
  obtain ⟨c,hc,rfl⟩:=List.mem_map.mp hx
  exact List.mem_map.mpr ⟨c,L.sub c hc,rfl⟩
 rw [List.length_map,List.length_map] at this
 have:=ok.ten
 omega
theorem Ko (ok:d.Ok){ns:List Cl}(L:Lst d ns)(hN:wo C [d.ob C,p7 ns]=some (.at (.bl true))):va C [d.ob C,p7 ns]=some (.at .non):=Xs rfl (qM (xu (xF (v3 rfl hN))) qN)
end
section
variable {C:Addr}{d:Dr}
theorem Qf {f:Str}{a:M}{ε:ME}{y:PV}{ns:List Str}{xs:List PV}(h1:a ε=some y)(h0:ε[0]?=some (.ow (.ob C ns xs)))(hf:f ∉ ns)(hl:ns.length < 1000):zF C f a ε=some (.nx (ε.set 0 (.ow (.ob C (ns++[f]) (xs++[y]))))):=by
 unfold zF
 rw [h1,Option.bind_some,h0]
 exact if_pos ⟨rfl,hf,hl⟩
theorem YQ {nm:Str}{m:List PV->Option PV}{i:Nat}{as:MA}{ε:ME}{ns:List Str}{fs xs:List PV}{u:V}(h0:ε[i]?=some (.ow (.ob C ns fs)))(hn:nm ∉ ns)(k:as ε=some xs)(e:m (.ob C ns fs::xs)=some (.at u)):vQ C nm m i as ε=some (.at u):=by
 unfold vQ
 rw [h0]
 show (if C=C/\nm ∉ ns then _ else _)=_
 rw [if_pos ⟨rfl,hn⟩,k,Option.bind_some,e]
 rfl
theorem Kr (ok:d.Ok):zj C [.ob C ["least"] [qm d.low]]=some (.at (.int d.h)):=by
 have G:=UA ok.rin
 refine qv rfl (m8 (w9 (v3 (v8 (Xr rfl rfl) rfl) rfl) rfl ?_))
 show some (PV.at (.int (((d.low.map xB).length:Int) - 1)))=_
 rw [List.length_map,show d.low.length=d.h + 1 from G.len,show ((d.h + 1:Nat):Int) - 1=(d.h:Int) by omega]
theorem Vn:∀ cs:List Cl,jD (cs.map fun c=>PV.tup [.at (.str c.name),c.pv])=some (cs.map fun c=>((.inr c.name:z7),c.pv))
 | []=>rfl
 | c::cs=>by
  show Option.bind (some (Sum.inr c.name)) (fun kk=>(jD (cs.map fun c=>PV.tup [.at (.str c.name),c.pv])).map ((kk,c.pv)::·))=_
  rw [Option.bind_some,Vn cs]
  rfl
theorem Uo {cs:List Cl}(h:(cs.map Cl.name).Nodup):(keysOf cs).Nodup:=by
 induction cs with
 | nil=>exact List.nodup_nil
 | cons c cs ih =>
  rw [List.map_cons] at h
  have h':=List.nodup_cons.mp h
  refine List.nodup_cons.mpr ⟨fun z=>?_,ih h'.2⟩
  obtain ⟨y,hy,e⟩:=List.mem_map.mp z
  injection e with e
  exact h'.1 (List.mem_map.mpr ⟨y,hy,e⟩)
theorem NS (ok:d.Ok):wm C [qm d.rss,.lst (d.cls.map Cl.pv),.at (.int d.last),.at (.int d.time)]=some (d.ob C):=by
 have hlim:lim=1000000:=rfl
 have ten:=ok.ten
 have glen:=ok.rin.len
 have h4:=ok.h4
 have cp:∀ (s0 s2 s3 s4:MSlot),m9 [none] [0] (i0 (q9 1)) (v4 0) r9 (z5 vj (q8 (x0 0) x8)) [s0,.sh (qm d.rss),s2,s3,s4]=some (qm d.rss):=fun s0 s2 s3 s4 =>
  qR xB xB d.rss rfl rfl (by omega) fun r _=>⟨_,rfl,rfl⟩
 have dk:∀ (s0 s1 s3 s4:MSlot),z5 vi (q8 (m9 [none] [0] (i0 (q9 2)) (v4 0) r9 (qL (q8 (z5 xy (q8 (q9 0) x8)) (q8 (q9 0) x8)))) x8) [s0,s1,.sh (.lst (d.cls.map Cl.pv)),s3,s4]=some (.fk (keysOf d.cls) (d.cls.map Cl.pv)):=fun s0 s1 s3 s4=>by
  refine v3 (v8 (qR Cl.pv (fun c=>PV.tup [.at (.str c.name),c.pv]) d.cls rfl rfl (by omega) fun c _=>⟨_,rfl,zH (v8 (v3 rfl rfl) (v8 rfl rfl)) l2⟩) rfl) ?_
  show (jD (d.cls.map fun c=>PV.tup [.at (.str c.name),c.pv])).bind _=_
  have k1:(d.cls.map fun c=>((.inr c.name:z7),c.pv)).map (·.1)=keysOf d.cls:=by rw [List.map_map];rfl
  have k2:(d.cls.map fun c=>((.inr c.name:z7),c.pv)).map (·.2)=d.cls.map Cl.pv:=by rw [List.map_map];rfl
  rw [Vn,Option.bind_some,k1,k2]
  exact if_pos ⟨Uo ok.nd,by rw [List.length_map];omega⟩
 have run:Xf C [.ow (.ob C [] []),.sh (qm d.rss),.sh (.lst (d.cls.map Cl.pv)),.sh (.at (.int d.last)),.sh (.at (.int d.time))]=some (.nx [.ow (d.ob C),.sh (qm d.rss),.sh (.lst (d.cls.map Cl.pv)),.sh (.at (.int d.last)),.sh (.at (.int d.time))]) :=
  u7 (Qf (v3 rfl (NW ok.rin ok.h1 ok.h4)) rfl (by decide) (by decide)) (u7 (Qc (v3 (v8 rfl (v8 rfl (v8 (YQ rfl (by decide) rfl (Kr ok)) rfl))) (NO ok.l1 ok.l2 ok.t1)))
   (u7 (Qc (v3 (v8 rfl (v8 (YQ rfl (by decide) rfl (Kr ok)) rfl)) (NM ok.cl ok.nd ok.ten)))
   (u7 (Qf (cp _ _ _ _) rfl (by decide) (by decide)) (u7 (Qf (dk _ _ _ _) rfl (by decide) (by decide)) (u7 (Qf (y:= .at (.int d.last)) (f := "last") (ns:=["least", "given", "held"]) (YM (i6 (v:=false) (w9 rfl rfl rfl)) rfl) rfl (by decide) (by decide)) (Qf (y:= .at (.int d.time)) (f := "time") (ns:=["least", "given", "held", "last"]) (xs:=[qm d.low,qm d.rss,.fk (keysOf d.cls) (d.cls.map Cl.pv),.at (.int d.last)]) rfl rfl (by decide) (by decide)))))))
 unfold wm wY
 refine (if_pos rfl).trans ?_
 show (Xf C [.ow (.ob C [] []),.sh (qm d.rss),.sh (.lst (d.cls.map Cl.pv)),.sh (.at (.int d.last)),.sh (.at (.int d.time))]).bind _=_
 rw [run]
 rfl
end
section
variable {C:Addr}{d:Dr}
theorem Cq (cs:List Cl):jy (keysOf cs)=some (cs.map Cl.name):=by
 induction cs with
 | nil=>rfl
 | cons c cs ih =>
  show (jy (keysOf cs)).map (c.name::·)=_
  rw [ih];rfl
theorem Nk (ss:List Str):jG (v6 ss)=some ss:=by
 induction ss with
 | nil=>rfl
 | cons s ss ih =>
  show (jG (v6 ss)).map (s::·)=_
  rw [ih];rfl
theorem NZ (ok:d.Ok):Qn C [d.ob C]=some (.lst (v6 (jF d.names))):=by
 refine xG rfl (m8 (v3 (v8 (Xr rfl rfl) rfl) ?_))
 show (jy (keysOf d.cls)).bind _=_
 rw [Cq,Option.bind_some,if_pos (by rw [List.length_map];have:=ok.ten;omega)]
 rfl
theorem GL {ss:List Str}(h:ss.Nodup):∀ i,i<=ss.length->h8 (fun i=>(Sum.inr (ss.getD i ⟨#[]⟩):z7)) i=(ss.take i).map Sum.inr
 | 0,_=>rfl
 | i + 1,hi=>by
  have ih:=GL h i (by omega)
  have hl:i < ss.length:=by omega
  have eg:ss.getD i ⟨#[]⟩=ss[i]:=i7 hl
  have hn:ss[i] ∉ ss.take i:=fun z=>by
   have e:ss=ss.take i++ss[i]::ss.drop (i + 1):=by rw [<- List.drop_eq_getElem_cons hl,List.take_append_drop]
   rw [e] at h
   exact (List.nodup_append.mp h).2.2 _ z _ List.mem_cons_self rfl
  unfold h8
  rw [ih,eg,if_neg (fun z=>hn (by
   obtain ⟨y,hy,e⟩:=List.mem_map.mp z
   injection e with e
   rw [<- e];exact hy)),List.take_add_one,List.getElem?_eq_getElem hl,List.map_append]
  rfl
theorem CH {ss:List Str}(h:ss.Nodup):JX ss=ss.length:=by
 unfold JX
 rw [GL h _ (Nat.le_refl _),List.length_map,List.take_length]
theorem Kn (ok:d.Ok){ns:List Cl}(L:Lst d ns):wo C [d.ob C,p7 ns]=some (.at (.bl true)):=by
 have hlim:lim=1000000:=rfl
 have l10:=L.len ok
 have en:v6 (ns.map Cl.name)=(ns.map Cl.name).map fun s=>PV.at (.str s):=rfl
 refine qv rfl (u7 (qM (xu (xF (v3 rfl JL))) qN) (u7 (qC (jQ rfl (by decide) rfl (NZ ok))) (m8 (jP (v3 (v8 (qR (fun s:Str=>PV.at (.str s)) (fun _=>PV.at (.bl true)) (ns.map Cl.name) rfl rfl (by rw [List.length_map];omega) fun s hs=>⟨_,rfl,w9 rfl rfl ((Ue false s _).trans ?_)⟩) rfl) (wS _)) (w9 (y:= .at (.int (ns.length:Int))) (x:= .at (.int (ns.length:Int))) ?_ ?_ (DX rfl))))))
 ·obtain ⟨c,hc,rfl⟩:=List.mem_map.mp hs
  have:c.name ∈ jF d.names:=(GR d.names).mem_iff.mpr (List.mem_map.mpr ⟨c,L.sub c hc,rfl⟩)
  simp [this]
 ·show (jG (v6 (ns.map Cl.name))).bind _=_
  rw [Nk,Option.bind_some,if_pos (by rw [List.length_map];omega),CH L.nd,List.length_map]
 ·refine v3 rfl ?_
  show some (PV.at (.int ((v6 (ns.map Cl.name)).length:Int)))=_
  rw [qE,List.length_map]
end
section
variable {α:Type}
def qO (d0:α)(ks:List (Int × Str))(xs:List α):List α:=(jE ks).map fun i=>xs.getD i d0
theorem Vx {ks:List (Int × Str)}{i:Nat}(h:i ∈ jE ks):i < ks.length:=List.mem_range.mp ((QR ks).mem_iff.mp h)
theorem Za (d0:α){ks:List (Int × Str)}{xs:List α}(h:ks.length=xs.length):(qO d0 ks xs).Perm xs:=by
 have:=(QR ks).map fun i=>xs.getD i d0
 rw [h,JY] at this
 exact this
theorem JH {β:Type}(f:α->β)(d0:α)(e0:β){xs:List α}{i:Nat}(h:i < xs.length):(xs.map f).getD i e0=f (xs.getD i d0):=by
 rw [List.getD_eq_getElem?_getD,List.getD_eq_getElem?_getD,List.getElem?_map,List.getElem?_eq_getElem h]
 rfl
theorem Mu {β:Type}(f:α->β)(d0:α)(e0:β){ks:List (Int × Str)}{xs:List α}(h:ks.length=xs.length):(jE ks).map (fun i=>(xs.map f).getD i e0)=(qO d0 ks xs).map f:=by
 unfold qO
 rw [List.map_map]
 exact List.map_congr_left fun i hi=>JH f d0 e0 (h ▸ Vx hi)
theorem Mv (d0:α)(key:α->Int × Str)(xs:List α):(qO d0 (xs.map key) xs).Pairwise fun a b=>y0 (key b) (key a)=false:=by
 unfold qO
 rw [List.pairwise_map]
 refine (GQ (xs.map key)).imp_of_mem fun {a b} ha hb h=>?_
 have la:=Vx ha
 have lb:=Vx hb
 rw [List.length_map] at la lb
 unfold qG at h
 rw [JH key d0 _ la,JH key d0 _ lb] at h
 exact h
theorem Um {kb:PV->Option PV}(f:α->PV)(key:α->Int × Str):∀ {xs:List α},(∀ x ∈ xs,kb (f x)=some (.tup [.at (.int (key x).1),.at (.str (key x).2)]))->jW kb (xs.map f)=some (xs.map key)
 | [],_=>rfl
 | x::xs,h=>by
  rw [List.map_cons]
  unfold jW
  rw [h x List.mem_cons_self,Um f key fun y hy=>h y (List.mem_cons_of_mem _ hy)]
  rfl
theorem Kw (d0:α){kb:PV->Option PV}(f:α->PV)(key:α->Int × Str){xs:List α}(h:∀ x ∈ xs,kb (f x)=some (.tup [.at (.int (key x).1),.at (.str (key x).2)]))(l:xs.length < 64)(nd:(xs.map key).Nodup) :
  Vf kb [.lst (xs.map f)]=some (.lst ((qO d0 (xs.map key) xs).map f)):=by
 show (jW kb (xs.map f)).bind _=_
 rw [Um f key h,Option.bind_some,if_pos ⟨by rw [List.length_map];exact l,nd⟩,Mu f d0 _ (List.length_map _)]
end
theorem CK {α β:Type}(f:α->β){l:List α}(h:(l.map f).Nodup):l.Nodup:=List.Pairwise.of_map f (fun _ _ h e=>h (congrArg f e)) h
theorem UF {xs:List Cl}{g:Cl->Int}(nd:(xs.map Cl.name).Nodup):(xs.map fun c=>(g c,c.name)).Nodup:=by
 refine CK Prod.snd ?_
 rw [List.map_map]
 exact nd
def c0:Cl:=⟨"",0,0,0,0⟩
def zG (c:Cl):Int × Str:=(c.due,c.name)
theorem NK {xs:List Cl}(nd:(xs.map Cl.name).Nodup)(l:xs.length<=10):XC [.lst (xs.map Cl.pv)]=some (.lst ((qO c0 (xs.map zG) xs).map Cl.pv)) :=
 xG rfl (m8 (Kw c0 Cl.pv zG (fun c _=>zH (v8 (v3 rfl rfl) (v8 (v3 rfl rfl) rfl)) l2) (by omega) (UF nd)))
def u4:List Cl->Int
 | []=>1
 | c::cs=>c.wt * u4 cs
theorem Vm:∀ {xs:List Cl} {c:Cl},c ∈ xs->c.wt ∣ u4 xs
 | [],_,h=>nomatch h
 | x::xs,c,h=>by
  rcases List.mem_cons.mp h with rfl | h
  ·exact ⟨u4 xs,rfl⟩
  ·obtain ⟨q,e⟩:=Vm h
   exact ⟨x.wt * q,by show x.wt * u4 xs=_;rw [e,<- Int.mul_assoc,<- Int.mul_assoc,Int.mul_comm x.wt c.wt]⟩
theorem Zc {xs:List Cl}:(∀ c ∈ xs,1<=c.wt)->1<=u4 xs:=by
 induction xs with
 | nil=>intro _;exact Int.le_refl _
 | cons x xs ih =>
  intro h
  have h1:=h x List.mem_cons_self
  have h2:=ih fun c hc=>h c (List.mem_cons_of_mem _ hc)
  exact Int.mul_pos (show 0 < x.wt by omega) (show 0 < u4 xs by omega)
theorem UY {xs:List Cl}:(∀ c ∈ xs,1<=c.wt)->(∀ c ∈ xs,c.wt<=i5)->u4 xs<=(2:Int) ^ (100 * xs.length):=by
 have hb:i5<=2 ^ 100:=by decide +kernel
 induction xs with
 | nil=>intro _ _;exact Int.le_refl _
 | cons x xs ih =>
  intro h g
  have h1:=h x List.mem_cons_self
  have g1:=g x List.mem_cons_self
  have h2:=Zc fun c hc=>h c (List.mem_cons_of_mem _ hc)
  have g2:=ih (fun c hc=>h c (List.mem_cons_of_mem _ hc)) fun c hc=>g c (List.mem_cons_of_mem _ hc)
  show x.wt * u4 xs<=_
  rw [List.length_cons,Nat.mul_add,Nat.mul_one,Int.pow_add,Int.mul_comm]
  exact Int.mul_le_mul g2 (by omega) (by omega) (by omega)
theorem Xh {n:Int}(h0:0<=n)(h1:n<=2 ^ 1000):Builtin.Int.intBits n<=2 ^ 20:=by
 obtain ⟨m,rfl⟩:=Int.eq_ofNat_of_zero_le h0
 have h2:m < 2 ^ 1001:=by
  have e:((2 ^ 1000:Nat):Int)=2 ^ 1000:=by rw [Int.natCast_pow];rfl
  rw [<- e] at h1
  have h3:m<=2 ^ 1000:=by exact Int.ofNat_le.mp h1
  exact Nat.lt_of_le_of_lt h3 (Nat.pow_lt_pow_right (by decide) (by decide))
 exact Nat.le_trans (PyProof.Rows.intBits_le (k:=1001) (by rw [Int.natAbs_natCast];exact h2)) (by decide)
theorem UX {n:Nat}(h:n<=10):(2:Int) ^ (100 * n)<=2 ^ 1000:=by
 have:(2:Nat) ^ (100 * n)<=2 ^ 1000:=Nat.pow_le_pow_right (by decide) (by omega)
 have:=Int.ofNat_le.mpr this
 rw [Int.natCast_pow,Int.natCast_pow] at this
 exact this
def qV (w:Int)(c:Cl):Int × Str:=(c.len * (w / c.wt),c.name)
theorem NL {xs:List Cl}(nd:(xs.map Cl.name).Nodup)(l:xs.length<=10)(g1:∀ c ∈ xs,1<=c.len)(g2:∀ c ∈ xs,c.len<=i5)(w1:∀ c ∈ xs,1<=c.wt)(w2:∀ c ∈ xs,c.wt<=i5) :
  XD [.lst (xs.map Cl.pv)]=some (.lst ((qO c0 (xs.map (qV (u4 xs))) xs).map Cl.pv)):=by
 have hB:=jm
 have hb:i5<=2 ^ 1000:=by decide +kernel
 have lp:=wf (g:=v4 2) (f:=dAug 1 pIpM (z5 vf (q8 (q9 2) x8))) Cl.pv (fun todo ε=>∃ (done:List Cl) (s2:MSlot),done.reverse++todo=xs/\ε=[.sh (.lst (xs.map Cl.pv)),.sh (.at (.int (u4 done))),s2]) (by
  rintro c todo ε ⟨done,s2,e,rfl⟩
  have hc:∀ x ∈ done,x ∈ xs:=fun x hx=>by rw [<- e];exact List.mem_append_left _ (List.mem_reverse.mpr hx)
  have hc':c ∈ xs:=by rw [<- e];exact List.mem_append_right _ List.mem_cons_self
  have dl:done.length<=10:=by
   have:=congrArg List.length e
   rw [List.length_append,List.length_reverse] at this
   omega
  have p1:=Zc fun x hx=>w1 x (hc x hx)
  have p2:=Int.le_trans (UY (fun x hx=>w1 x (hc x hx)) fun x hx=>w2 x (hc x hx)) (UX dl)
  have q1:=w1 c hc'
  have q2:=w2 c hc'
  refine ⟨_,[.sh (.lst (xs.map Cl.pv)),.sh (.at (.int (u4 (c::done)))),.sh c.pv],rfl,?_,c::done,.sh c.pv,by rw [List.reverse_cons,List.append_assoc];exact e,rfl⟩
  show (if zP (u4 done) c.wt then some (PV.at (.int (u4 done * c.wt))) else none).bind _=_
  rw [if_pos ⟨Xh (by omega) p2,Xh (by omega) (by omega)⟩,Int.mul_comm]
  rfl) xs _ ⟨[],.no,rfl,rfl⟩
 obtain ⟨ε',e',done,s2,e,rfl⟩:=lp
 have pe:u4 done=u4 xs:=by
  rw [List.append_nil] at e
  rw [<- e]
  have ap:∀ a b:List Cl,u4 (a++b)=u4 a * u4 b:=by
   intro a b
   induction a with
   | nil=>show u4 b=1 * u4 b;rw [Int.one_mul]
   | cons x a ih=>show x.wt * u4 (a++b)=x.wt * u4 a * u4 b;rw [ih,Int.mul_assoc]
  clear e e'
  induction done with
  | nil=>rfl
  | cons x a ih =>
   rw [List.reverse_cons,ap,<- ih]
   show x.wt * u4 a=u4 a * (x.wt * 1)
   rw [Int.mul_one,Int.mul_comm]
 rw [pe] at e'
 have p1:=Zc w1
 have p2:=Int.le_trans (UY w1 w2) (UX l)
 refine xG rfl (u7 (qC rfl) (u7 (xP rfl e') (m8 (Kw c0 Cl.pv (qV (u4 xs)) (fun c hc=>?_) (by omega) (UF nd)))))
 have q1:=w1 c hc
 have q2:=w2 c hc
 have d1:pDiv (.at (.int (u4 xs))) (.at (.int c.wt))=some (.at (.int (u4 xs / c.wt))):=by
  show (if jn (u4 xs) c.wt then some (V.int (u4 xs / c.wt)) else none).map PV.at=_
  rw [if_pos (zU (by omega) (by omega))];rfl
 have d2:jc (.at (.int c.len)) (.at (.int (u4 xs / c.wt)))=some (.at (.int (c.len * (u4 xs / c.wt)))):=by
  have n1:0<=u4 xs / c.wt:=Int.ediv_nonneg (by omega) (by omega)
  have n2:u4 xs / c.wt<=u4 xs:=Int.ediv_le_self _ (by omega)
  have:=g1 c hc
  have:=g2 c hc
  show (if zP c.len (u4 xs / c.wt) then some (V.int (c.len * (u4 xs / c.wt))) else none).map PV.at=_
  rw [if_pos ⟨Xh (by omega) (by omega),Xh n1 (by omega)⟩];rfl
 exact zH (v8 (w9 (v3 rfl rfl) (w9 rfl (v3 rfl rfl) d1) d2) (v8 (v3 rfl rfl) rfl)) l2
theorem Kv {xs:List Cl}(l:xs.length<=10):wq [.lst (xs.map Cl.pv)]=some (.lst (v6 (xs.map Cl.name))):=by
 have hlim:lim=1000000:=rfl
 refine xG rfl (m8 ((qR Cl.pv (fun c=>PV.at (.str c.name)) xs rfl rfl (by omega) fun c _=>⟨_,rfl,v3 rfl rfl⟩).trans ?_))
 unfold v6
 rw [List.map_map];rfl
section
variable {C:Addr}{d:Dr}
def Dr.inH (d:Dr)(h:Nat):List Cl:=d.cls.filter fun c=>decide (c.hue=h)
theorem vZ (ok:d.Ok){h:Nat}:(d.inH h).length<=10:=Nat.le_trans (List.length_filter_le _ _) ok.ten
theorem jR {h:Nat}{c:Cl}(hc:c ∈ d.inH h):c ∈ d.cls:=(List.mem_filter.mp hc).1
theorem Xx (ok:d.Ok){h:Nat}:((d.inH h).map Cl.name).Nodup:=ok.nd.sublist (List.filter_sublist.map _)
theorem Kp (ok:d.Ok)(h:Nat):jZ C [d.ob C,.at (.int h)]=some (.lst ((d.inH h).map Cl.pv)):=by
 have hlim:lim=1000000:=rfl
 have:=ok.ten
 refine xG rfl (m8 (YK Cl.pv Cl.pv (fun c=>decide (c.hue=h)) d.cls ?_ rfl (by omega) fun c _=>⟨_,rfl,i6 (w9 (v3 rfl rfl) rfl ((JD _ _).trans ?_)),fun _=>rfl⟩))
 ·show (zX C "held" (q9 0) _).bind _=_
  rw [Xr rfl rfl];rfl
 ·rw [show decide ((c.hue:Int)=(h:Int))=decide (c.hue=h) by rw [decide_eq_decide];omega]
def Dr.dueR (d:Dr)(h:Nat):List Cl:=qO c0 ((d.inH h).map zG) (d.inH h)
def Dr.steepR (d:Dr)(h:Nat):List Cl:=qO c0 ((d.inH h).map (qV (u4 (d.inH h)))) (d.inH h)
theorem YE (h:Nat):(d.dueR h).Perm (d.inH h):=Za c0 (List.length_map _)
theorem GU (h:Nat):(d.steepR h).Perm (d.inH h):=Za c0 (List.length_map _)
theorem NP (ok:d.Ok)(h:Nat):wj C [d.ob C,.at (.int h)]=some (.lst (v6 ((d.dueR h).map Cl.name))) :=
 xG rfl (m8 (v3 (v8 (v3 (v8 (jQ rfl (by decide) rfl (Kp ok h)) rfl) (NK (Xx ok) (vZ ok))) rfl) (Kv (by have:=(YE (d:=d) h).length_eq;have:=vZ ok (h:=h);show (d.dueR h).length<=10;omega))))
theorem Hd (ok:d.Ok)(h:Nat):wn C [d.ob C,.at (.int h)]=some (.lst (v6 ((d.steepR h).map Cl.name))) :=
 xG rfl (m8 (v3 (v8 (v3 (v8 (jQ rfl (by decide) rfl (Kp ok h)) rfl) (NL (Xx ok) (vZ ok) (fun c hc=>(ok.cl c (jR hc)).l1) (fun c hc=>(ok.cl c (jR hc)).l2) (fun c hc=>(ok.cl c (jR hc)).w1) (fun c hc=>(ok.cl c (jR hc)).w2))) rfl) (Kv (by have:=(GU (d:=d) h).length_eq;have:=vZ ok (h:=h);show (d.steepR h).length<=10;omega))))
end
section
variable {C:Addr}{d:Dr}
def u5 (R:List Str):PV:= .lst (v6 R)
theorem Gs {ε:ME}{a:MA}{k:Nat}(h:a ε=some [.at (.int (k:Int))])(hk:k<=1000):qu a ε=some ((List.range k).map fun (i:Nat)=>PV.at (.int ((0:Int) + i))):=zt h (by have:lim=1000000:=rfl;omega)
def Dr.dueN (d:Dr)(g:Nat):List Str:=(d.dueR g).map Cl.name
def Dr.steepN (d:Dr)(g:Nat):List Str:=(d.steepR g).map Cl.name
theorem NQ (ok:d.Ok):Qp C [d.ob C]=some (.lst (((List.range d.h).map d.dueN).map u5)):=by
 have hlim:lim=1000000:=rfl
 have h4:=ok.h4
 refine xG rfl (m8 ((qR (fun (i:Nat)=>PV.at (.int ((0:Int) + i))) (fun i=>u5 (d.dueN i)) (List.range d.h) (Gs (v8 (jQ rfl (by decide) rfl (Kq ok)) rfl) (by omega)) rfl (by rw [List.length_range];omega) fun i _=>⟨_,rfl,jQ rfl (by decide) rfl ?_⟩).trans ?_))
 ·show wj C [d.ob C,.at (.int ((0:Int) + i))]=_
  rw [Int.zero_add];exact NP ok i
 ·rw [List.map_map];rfl
theorem He (ok:d.Ok):Qu C [d.ob C]=some (.lst (((List.range d.h).map d.steepN).map u5)):=by
 have hlim:lim=1000000:=rfl
 have h4:=ok.h4
 refine xG rfl (m8 ((qR (fun (i:Nat)=>PV.at (.int ((0:Int) + i))) (fun i=>u5 (d.steepN i)) (List.range d.h) (Gs (v8 (jQ rfl (by decide) rfl (Kq ok)) rfl) (by omega)) rfl (by rw [List.length_range];omega) fun i _=>⟨_,rfl,jQ rfl (by decide) rfl ?_⟩).trans ?_))
 ·show wn C [d.ob C,.at (.int ((0:Int) + i))]=_
  rw [Int.zero_add];exact Hd ok i
 ·rw [List.map_map];rfl
end
theorem Ub (s:Str):∀ {R:List Str},s ∈ R->vX (.str s) (R.map V.str)=some (R.idxOf s)
 | [],h=>nomatch h
 | r::R,h=>by
  show (if decide (r=s)=true then some 0 else (vX (.str s) (R.map V.str)).map (· + 1))=_
  rw [List.idxOf_cons]
  by_cases e:r=s
  ·subst e
   simp
  ·rcases List.mem_cons.mp h with z | z
   ·exact absurd z.symm e
   ·rw [if_neg (by simpa using e),Ub s z]
    have:(r == s)=false:=by simpa using e
    rw [this];rfl
theorem YN {a b:M}{ε:ME}{R:List Str}{s:Str}(h1:a ε=some (u5 R))(h2:b ε=some (.at (.str s)))(hs:s ∈ R)(hl:R.length<=1000):zY a b ε=some (.at (.int (R.idxOf s:Nat))):=by
 have hlim:lim=1000000:=rfl
 unfold zY
 rw [h1,Option.bind_some,h2,Option.bind_some]
 show (ats (v6 R)).bind _=_
 rw [Jn,Option.bind_some,if_pos ⟨rfl,YT R,by rw [List.length_map];omega⟩,Ub s hs]
 rfl
def qA (R:List Str):List (Str × Nat)->Option (Nat × Nat)
 | x::y::l=>if R.idxOf y.1 < R.idxOf x.1 then some (x.2,y.2) else qA R (y::l)
 | _=>none
def o4 (R N:List Str):List (Str × Nat):=N.zipIdx.filter fun p=>decide (p.1 ∈ R)
def wy:Option (Nat × Nat)->PV
 | none=> .at .non
 | some p=> .tup [.at (.int p.1),.at (.int p.2)]
def enF (p:Str × Nat):PV:= .tup [.at (.int p.2),.at (.str p.1)]
theorem YJ:∀ (N:List Str) (n:Nat),xw n (v6 N)=(N.zipIdx n).map enF
 | [],_=>rfl
 | s::N,n=>by
  show PV.tup [.at (.int n),.at (.str s)]::xw (n + 1) (v6 N)=_
  rw [YJ N (n + 1),List.zipIdx_cons]
  rfl
def m3 (p:Str × Nat):PV:= .at (.int (p.2:Int))
theorem KN:∀ l:List (Str × Nat),qZ (l.map m3) ((l.map m3).drop 1)=(l.zip (l.drop 1)).map fun q=>PV.tup [m3 q.1,m3 q.2]
 | []=>rfl
 | [x]=>rfl
 | x::y::l=>by
  show PV.tup [m3 x,m3 y]::qZ ((y::l).map m3) (((y::l).map m3).drop 1)=_
  rw [KN (y::l)]
  rfl
theorem Uz {R N:List Str}{f:MS}{s2:MSlot}(hl:∀ (x y:Str × Nat) (s3 s4:MSlot),x ∈ o4 R N->y ∈ o4 R N->f [.sh (u5 R),.sh (u5 N),s2,.sh (m3 x),.sh (m3 y)]=if R.idxOf y.1 < R.idxOf x.1 then some (.rt (.tup [m3 x,m3 y])) else some (.nx [.sh (u5 R),.sh (u5 N),s2,.sh (m3 x),.sh (m3 y)])) :
  ∀ (l:List (Str × Nat)),(∀ x ∈ l,x ∈ o4 R N)->∀ (s3 s4:MSlot),(∃ p,qA R l=some p/\o3 (xJ 2 (o8 (v4 3) (o8 (v4 4) xI))) f ((l.zip (l.drop 1)).map fun q=>PV.tup [m3 q.1,m3 q.2]) [.sh (u5 R),.sh (u5 N),s2,s3,s4]=some (.rt (wy (some p)))) ∨
   (qA R l=none/\∃ s3' s4':MSlot,o3 (xJ 2 (o8 (v4 3) (o8 (v4 4) xI))) f ((l.zip (l.drop 1)).map fun q=>PV.tup [m3 q.1,m3 q.2]) [.sh (u5 R),.sh (u5 N),s2,s3,s4]=some (.nx [.sh (u5 R),.sh (u5 N),s2,s3',s4']))
 | [],_,s3,s4=> .inr ⟨rfl,s3,s4,rfl⟩
 | [x],_,s3,s4=> .inr ⟨rfl,s3,s4,rfl⟩
 | x::y::l,h,s3,s4=>by
  have hf:=hl x y s3 s4 (h x List.mem_cons_self) (h y (List.mem_cons_of_mem _ List.mem_cons_self))
  have st:o3 (xJ 2 (o8 (v4 3) (o8 (v4 4) xI))) f (((x::y::l).zip ((x::y::l).drop 1)).map fun q=>PV.tup [m3 q.1,m3 q.2]) [.sh (u5 R),.sh (u5 N),s2,s3,s4]=(f [.sh (u5 R),.sh (u5 N),s2,.sh (m3 x),.sh (m3 y)]).bind fun o=>match o with
   | .nx ε2=>o3 (xJ 2 (o8 (v4 3) (o8 (v4 4) xI))) f (((y::l).zip ((y::l).drop 1)).map fun q=>PV.tup [m3 q.1,m3 q.2]) ε2
   | .ct ε2=>o3 (xJ 2 (o8 (v4 3) (o8 (v4 4) xI))) f (((y::l).zip ((y::l).drop 1)).map fun q=>PV.tup [m3 q.1,m3 q.2]) ε2
   | .bk ε2=>some (.nx ε2)
   | .rt y=>some (.rt y):=rfl
  by_cases e:R.idxOf y.1 < R.idxOf x.1
  ·rw [if_pos e] at hf
   refine .inl ⟨(x.2,y.2),by unfold qA;rw [if_pos e],?_⟩
   rw [st,hf];rfl
  ·rw [if_neg e] at hf
   have ea:qA R (x::y::l)=qA R (y::l):=by
    show (if R.idxOf y.1 < R.idxOf x.1 then some (x.2,y.2) else qA R (y::l))=_
    rw [if_neg e]
   rcases Uz hl (y::l) (fun z hz=>h z (List.mem_cons_of_mem _ hz)) (.sh (m3 x)) (.sh (m3 y)) with ⟨p,e1,e2⟩ | ⟨e1,s3',s4',e2⟩
   ·refine .inl ⟨p,ea.trans e1,?_⟩
    rw [st,hf];exact e2
   ·refine .inr ⟨ea.trans e1,s3',s4',?_⟩
    rw [st,hf];exact e2
theorem UV {R N:List Str}{x:Str × Nat}(h:x ∈ o4 R N):x.1 ∈ R/\N[x.2]?=some x.1:=by
 obtain ⟨h1,h2⟩:=List.mem_filter.mp h
 exact ⟨of_decide_eq_true h2,List.mem_zipIdx_iff_getElem?.mp h1⟩
theorem Hi {R N:List Str}(hR:R.length<=1000)(hN:N.length<=1000):zl [u5 R,u5 N]=some (wy (qA R (o4 R N))):=by
 have hlim:lim=1000000:=rfl
 have cp:m9 [none,none,some 0] [0,1] (wX (q8 (q9 1) x8)) (xJ 2 (o8 (v4 0) (o8 (v4 1) xI))) (dT (z0 (pIn false) (x0 1) (x0 2))) (q9 0) [.sh (u5 R),.sh (u5 N),.no,.no,.no]=some (.lst ((o4 R N).map m3)):=by
  refine YK enF m3 (fun p=>decide (p.1 ∈ R)) N.zipIdx ?_ rfl (by rw [List.length_zipIdx];omega) fun p _=>⟨_,rfl,i6 (w9 rfl rfl ((Ue false p.1 R).trans rfl)),fun _=>rfl⟩
  show some (xw 0 (v6 N))=_
  rw [YJ]
 have zp:vS (q8 (q9 2) (q8 (Qa (x0 2) (pSo (dC (.int 1))) pNo) x8)) [.sh (u5 R),.sh (u5 N),.sh (.lst ((o4 R N).map m3)),.no,.no]=some (((o4 R N).zip ((o4 R N).drop 1)).map fun q=>PV.tup [m3 q.1,m3 q.2]):=by
  unfold vS
  rw [v8 rfl (v8 (ev_sl rfl rfl rfl) rfl),Option.bind_some]
  show some (qZ ((o4 R N).map m3) (jN ((o4 R N).map m3) (some 1) none))=_
  have ec:jN ((o4 R N).map m3) (some 1) none=((o4 R N).map m3).drop 1:=by
   unfold jN
   cases hp:(o4 R N).map m3 with
   | nil=>rfl
   | cons x l =>
    have e1:HT.sIx (x::l).length 0 (some 1)=1:=by
     unfold HT.sIx
     simp
    have e2:HT.sIx (x::l).length (x::l).length none=(x::l).length:=rfl
    rw [e1,e2,List.take_of_length_le (by simp)]
  rw [ec,KN]
 have bd:=Uz (R:=R) (N:=N) (s2:= .sh (.lst ((o4 R N).map m3))) (f:=m5 (dT (z0 pGt (zY (x0 0) (z0 j4 (x0 1) (x0 3))) (zY (x0 0) (z0 j4 (x0 1) (x0 4))))) (w5 (qL (q8 (q9 3) (q8 (q9 4) x8)))) n5) (by
  intro x y s3 s4 hx hy
  obtain ⟨x1,x2⟩:=UV hx
  obtain ⟨y1,y2⟩:=UV hy
  have ix:∀ {z:Str × Nat},N[z.2]?=some z.1->j4 (u5 N) (.at (.int (z.2:Int)))=some (.at (.str z.1)):=fun {z} hz=>by
   show atI (v6 N) (z.2:Int)=_
   refine jM ?_
   unfold v6
   rw [List.getElem?_map,hz];rfl
  have c:dT (z0 pGt (zY (x0 0) (z0 j4 (x0 1) (x0 3))) (zY (x0 0) (z0 j4 (x0 1) (x0 4)))) [.sh (u5 R),.sh (u5 N),.sh (.lst ((o4 R N).map m3)),.sh (m3 x),.sh (m3 y)]=some (decide (R.idxOf y.1 < R.idxOf x.1)):=by
   refine i6 (w9 (YN rfl (w9 rfl rfl (ix x2)) x1 hR) (YN rfl (w9 rfl rfl (ix y2)) y1 hR) ?_)
   show some (PV.at (.bl (decide ((R.idxOf y.1:Int) < (R.idxOf x.1:Int)))))=_
   rw [show decide ((R.idxOf y.1:Int) < (R.idxOf x.1:Int))=decide (R.idxOf y.1 < R.idxOf x.1) by rw [decide_eq_decide];omega]
  by_cases e:R.idxOf y.1 < R.idxOf x.1
  ·rw [if_pos e]
   rw [decide_eq_true e] at c
   exact Qd c (m8 (zH rfl l2))
  ·rw [if_neg e]
   rw [decide_eq_false e] at c
   exact qM c qN) (o4 R N) (fun _ h=>h) .no .no
 rcases bd with ⟨p,e1,e2⟩ | ⟨e1,s3',s4',e2⟩
 ·rw [e1]
  exact qv rfl (u7 (qC cp) (Xt (xP zp e2)))
 ·rw [e1]
  exact qv rfl (u7 (qC cp) (u7 (xP zp e2) (m8 rfl)))
theorem Hj {N:List Str}(hN:N.length<=1000):∀ (rows:List (List Str)),(∀ R ∈ rows,R.length<=1000)->ve [.lst (rows.map u5),u5 N]=some (wy (rows.findSome? fun R=>qA R (o4 R N))):=by
 intro rows hr
 have lp:∀ (l:List (List Str)) (s2 s3:MSlot),(∀ R ∈ l,R.length<=1000)->(∃ p,(l.findSome? fun R=>qA R (o4 R N))=some p/\o3 (v4 2) (v9 (n9 3 (z5 zl (q8 (q9 2) (q8 (q9 1) x8)))) (m5 (dT (z0 zo (x0 3) (dC .non))) (w5 (q9 3)) n5)) (l.map u5) [.sh (.lst (rows.map u5)),.sh (u5 N),s2,s3]=some (.rt (wy (some p)))) ∨
   ((l.findSome? fun R=>qA R (o4 R N))=none/\∃ s2' s3':MSlot,o3 (v4 2) (v9 (n9 3 (z5 zl (q8 (q9 2) (q8 (q9 1) x8)))) (m5 (dT (z0 zo (x0 3) (dC .non))) (w5 (q9 3)) n5)) (l.map u5) [.sh (.lst (rows.map u5)),.sh (u5 N),s2,s3]=some (.nx [.sh (.lst (rows.map u5)),.sh (u5 N),s2',s3'])):=by
  intro l
  induction l with
  | nil=>exact fun s2 s3 _=> .inr ⟨rfl,s2,s3,rfl⟩
  | cons R l ih =>
   intro s2 s3 h
   have st:∀ o,(v9 (n9 3 (z5 zl (q8 (q9 2) (q8 (q9 1) x8)))) (m5 (dT (z0 zo (x0 3) (dC .non))) (w5 (q9 3)) n5)) [.sh (.lst (rows.map u5)),.sh (u5 N),.sh (u5 R),s3]=some o->o3 (v4 2) (v9 (n9 3 (z5 zl (q8 (q9 2) (q8 (q9 1) x8)))) (m5 (dT (z0 zo (x0 3) (dC .non))) (w5 (q9 3)) n5)) ((R::l).map u5) [.sh (.lst (rows.map u5)),.sh (u5 N),s2,s3]=match o with
    | .nx ε2=>o3 (v4 2) (v9 (n9 3 (z5 zl (q8 (q9 2) (q8 (q9 1) x8)))) (m5 (dT (z0 zo (x0 3) (dC .non))) (w5 (q9 3)) n5)) (l.map u5) ε2
    | .ct ε2=>o3 (v4 2) (v9 (n9 3 (z5 zl (q8 (q9 2) (q8 (q9 1) x8)))) (m5 (dT (z0 zo (x0 3) (dC .non))) (w5 (q9 3)) n5)) (l.map u5) ε2
    | .bk ε2=>some (.nx ε2)
    | .rt y=>some (.rt y):=fun o e=>by
    show Option.bind ((v9 (n9 3 (z5 zl (q8 (q9 2) (q8 (q9 1) x8)))) (m5 (dT (z0 zo (x0 3) (dC .non))) (w5 (q9 3)) n5)) [.sh (.lst (rows.map u5)),.sh (u5 N),.sh (u5 R),s3]) _=_
    rw [e];rfl
   have ht:=Hi (h R List.mem_cons_self) hN
   cases ea:qA R (o4 R N) with
   | some p =>
    rw [ea] at ht
    refine .inl ⟨p,by rw [List.findSome?_cons,ea],?_⟩
    rw [st _ (u7 (qC (v3 rfl ht)) (Qd (i6 (v:=true) rfl) (m8 rfl)))]
   | none =>
    rw [ea] at ht
    have:=st _ (u7 (qC (v3 rfl ht)) (qM (i6 (v:=false) rfl) qN))
    rw [List.findSome?_cons,ea]
    rcases ih (.sh (u5 R)) (.sh (.at .non)) fun Q hQ=>h Q (List.mem_cons_of_mem _ hQ) with ⟨p,e1,e2⟩ | ⟨e1,s2',s3',e2⟩
    ·exact .inl ⟨p,e1,this.trans e2⟩
    ·exact .inr ⟨e1,s2',s3',this.trans e2⟩
 rcases lp rows .no .no hr with ⟨p,e1,e2⟩ | ⟨e1,s2,s3,e2⟩
 ·rw [e1]
  exact qv rfl (Xt (xP rfl e2))
 ·rw [e1]
  exact qv rfl (u7 (xP rfl e2) (m8 rfl))
theorem Ug (o:Option (Nat × Nat)):wA (wy o) (.at .non)=some (.at (.bl o.isNone)):=by
 cases o <;> rfl
theorem VW {R:List Str}:∀ {l:List (Str × Nat)},qA R l=none ↔ (l.map (·.1)).Pairwise fun a b=>R.idxOf a<=R.idxOf b
 | []=>by simp [qA]
 | [x]=>by simp [qA]
 | x::y::l=>by
  have ih:=VW (R:=R) (l:=y::l)
  rw [List.map_cons,List.pairwise_cons]
  unfold qA
  constructor
  ·intro h
   split at h
   ·cases h
   ·rename_i hn
    have hp:=ih.mp h
    refine ⟨fun z hz=>?_,hp⟩
    rw [List.map_cons] at hz hp
    rcases List.mem_cons.mp hz with rfl | hz
    ·omega
    ·have:=(List.pairwise_cons.mp hp).1 z hz
     omega
  ·rintro ⟨h1,h2⟩
   rw [if_neg (by have:=h1 y.1 (by rw [List.map_cons];exact List.mem_cons_self);omega)]
   exact ih.mpr h2
theorem Mx (R N:List Str):(o4 R N).map (·.1)=N.filter fun s=>decide (s ∈ R):=by
 unfold o4
 have:∀ (N:List Str) (n:Nat),((N.zipIdx n).filter fun p=>decide (p.1 ∈ R)).map (·.1)=N.filter fun s=>decide (s ∈ R):=by
  intro N
  induction N with
  | nil=>intro n;rfl
  | cons s N ih =>
   intro n
   rw [List.zipIdx_cons,List.filter_cons,List.filter_cons]
   by_cases h:s ∈ R
   ·rw [if_pos (by simpa using h),if_pos (by simpa using h),List.map_cons,ih]
   ·rw [if_neg (by simpa using h),if_neg (by simpa using h),ih]
 exact this N 0
theorem GF {key:Cl->Int × Str}{xs:List Cl}(hk:∀ c,(key c).2=c.name)(nd:(xs.map Cl.name).Nodup){a b:Cl}(ha:a ∈ xs)(hb:b ∈ xs) :
  ((qO c0 (xs.map key) xs).map Cl.name).idxOf b.name < ((qO c0 (xs.map key) xs).map Cl.name).idxOf a.name ↔ y0 (key b) (key a)=true:=by
 have pm:=Za c0 (ks:=xs.map key) (xs:=xs) (List.length_map _)
 have up:=Mv c0 key xs
 generalize qO c0 (xs.map key) xs=row at pm up
 have ndr:(row.map Cl.name).Nodup:=(pm.map Cl.name).nodup_iff.mpr nd
 have ia:=(List.mem_iff_getElem.mp (pm.mem_iff.mpr ha))
 have ib:=(List.mem_iff_getElem.mp (pm.mem_iff.mpr hb))
 obtain ⟨i,hi,ei⟩:=ia
 obtain ⟨j,hj,ej⟩:=ib
 have xi:(row.map Cl.name).idxOf a.name=i:=by
  have:(row.map Cl.name)[i]'(by rw [List.length_map];exact hi)=a.name:=by rw [List.getElem_map,ei]
  rw [<- this]
  exact ndr.idxOf_getElem i _
 have xj:(row.map Cl.name).idxOf b.name=j:=by
  have:(row.map Cl.name)[j]'(by rw [List.length_map];exact hj)=b.name:=by rw [List.getElem_map,ej]
  rw [<- this]
  exact ndr.idxOf_getElem j _
 rw [xi,xj]
 have pg:=List.pairwise_iff_getElem.mp up
 constructor
 ·intro h
  have q:=pg j i hj hi h
  rw [ei,ej] at q
  cases e:y0 (key b) (key a) with
  | true=>rfl
  | false =>
   have:=congrArg Prod.snd (JW e q)
   rw [hk,hk] at this
   have z:row.map Cl.name=row.map Cl.name:=rfl
   exfalso
   have:j=i:=by rw [<- xi,<- xj,this]
   omega
 ·intro h
  rcases Nat.lt_trichotomy j i with q | q | q
  ·exact q
  ·subst q
   have e:a=b:=by rw [<- ei,<- ej]
   subst e
   have:=(wg fun _=>key a).irr 0
   rw [h] at this
   cases this
  ·have z:=pg i j hi hj q
   rw [ei,ej,h] at z
   cases z
theorem GG {d:Dr}(ok:d.Ok){ns:List Cl}(L:Lst d ns){g:Nat}{key:Cl->Int × Str}(hk:∀ c,(key c).2=c.name) :
  qA ((qO c0 ((d.inH g).map key) (d.inH g)).map Cl.name) (o4 ((qO c0 ((d.inH g).map key) (d.inH g)).map Cl.name) (ns.map Cl.name))=none ↔ ns.Pairwise fun a b=>a.hue=g->b.hue=g->y0 (key b) (key a)=false:=by
 have pm:=Za c0 (ks:=(d.inH g).map key) (xs:=d.inH g) (List.length_map _)
 have mem:∀ c ∈ ns,c.name ∈ (qO c0 ((d.inH g).map key) (d.inH g)).map Cl.name ↔ c.hue=g:=by
  intro c hc
  rw [(pm.map Cl.name).mem_iff]
  constructor
  ·intro h
   obtain ⟨x,hx,e⟩:=List.mem_map.mp h
   obtain ⟨x1,x2⟩:=List.mem_filter.mp hx
   have:x=c:=by
    have nd:=ok.nd
    obtain ⟨i,hi,ei⟩:=List.mem_iff_getElem.mp x1
    obtain ⟨j,hj,ej⟩:=List.mem_iff_getElem.mp (L.sub c hc)
    have:=(List.getElem_inj (xs:=d.cls.map Cl.name) (h₀:=by rw [List.length_map];exact hi) (h₁:=by rw [List.length_map];exact hj) nd).mp (by rw [List.getElem_map,List.getElem_map,ei,ej,e])
    subst this
    rw [<- ei,<- ej]
   subst this
   exact of_decide_eq_true x2
  ·intro h
   exact List.mem_map.mpr ⟨c,List.mem_filter.mpr ⟨L.sub c hc,by rw [h];exact decide_eq_true rfl⟩,rfl⟩
 rw [VW,Mx,List.filter_map,List.pairwise_map,List.pairwise_filter]
 constructor
 ·intro h
  refine h.imp_of_mem fun {a b} ha hb q h1 h2=>?_
  have q:=q (by simpa using (mem a ha).mpr h1) (by simpa using (mem b hb).mpr h2)
  cases e:y0 (key b) (key a) with
  | false=>rfl
  | true =>
   have:=(GF hk (Xx ok (h:=g)) (a:=a) (b:=b) (List.mem_filter.mpr ⟨L.sub a ha,by rw [h1];exact decide_eq_true rfl⟩) (List.mem_filter.mpr ⟨L.sub b hb,by rw [h2];exact decide_eq_true rfl⟩)).mpr e
   omega
 ·intro h
  refine h.imp_of_mem fun {a b} ha hb q h1 h2=>?_
  have h1:a.hue=g:=(mem a ha).mp (by simpa using h1)
  have h2:b.hue=g:=(mem b hb).mp (by simpa using h2)
  have q:=q h1 h2
  rcases Nat.lt_or_ge (((qO c0 ((d.inH g).map key) (d.inH g)).map Cl.name).idxOf b.name) (((qO c0 ((d.inH g).map key) (d.inH g)).map Cl.name).idxOf a.name) with z | z
  ·rw [(GF hk (Xx ok (h:=g)) (a:=a) (b:=b) (List.mem_filter.mpr ⟨L.sub a ha,by rw [h1];exact decide_eq_true rfl⟩) (List.mem_filter.mpr ⟨L.sub b hb,by rw [h2];exact decide_eq_true rfl⟩)).mp z] at q
   cases q
  ·exact z
theorem Pd {α β:Type}{f:α->Option β}{l:List α}:l.findSome? f=none ↔ ∀ x ∈ l,f x=none:=List.findSome?_eq_none_iff
theorem pw_all {α:Type}{h:Nat}{P:Nat->α->α->Prop}:∀ {l:List α},(∀ g,g < h->l.Pairwise (P g)) ↔ l.Pairwise fun a b=>∀ g,g < h->P g a b
 | []=>⟨fun _=> .nil,fun _ _ _=> .nil⟩
 | x::l=>by
  rw [List.pairwise_cons]
  constructor
  ·intro q
   exact ⟨fun y hy g hg=>(List.pairwise_cons.mp (q g hg)).1 y hy,pw_all.mp fun g hg=>(List.pairwise_cons.mp (q g hg)).2⟩
  ·intro q g hg
   exact List.pairwise_cons.mpr ⟨fun y hy=>q.1 y hy g hg,pw_all.mpr q.2 g hg⟩
theorem KS {P:Int}{a b:Cl}(hP:1<=P)(wa:1<=a.wt)(wb:1<=b.wt)(da:a.wt ∣ P)(db:b.wt ∣ P)(h:y0 (qV P a) (qV P b)=true):a.len * b.wt < b.len * a.wt ∨ (a.len * b.wt=b.len * a.wt/\a.name.cps.toList < b.name.cps.toList):=by
 obtain ⟨qa,ea⟩:=da
 obtain ⟨qb,eb⟩:=db
 have da:P / a.wt=qa:=by rw [ea];exact Int.mul_ediv_cancel_left _ (by omega)
 have db:P / b.wt=qb:=by rw [eb];exact Int.mul_ediv_cancel_left _ (by omega)
 have e1:P * (a.len * b.wt)=(a.wt * b.wt) * (a.len * qa):=by rw [ea];ac_rfl
 have e2:P * (b.len * a.wt)=(a.wt * b.wt) * (b.len * qb):=by rw [eb];ac_rfl
 have pw:0 < a.wt * b.wt:=Int.mul_pos (by omega) (by omega)
 rcases ltK_iff.mp h with z | ⟨z1,z2⟩
 ·refine .inl ?_
  have z:a.len * (P / a.wt) < b.len * (P / b.wt):=z
  rw [da,db] at z
  have:=Int.mul_lt_mul_of_pos_left z pw
  rw [<- e1,<- e2] at this
  exact Int.lt_of_mul_lt_mul_left this (by omega)
 ·refine .inr ⟨?_,z2⟩
  have z1:a.len * (P / a.wt)=b.len * (P / b.wt):=z1
  rw [da,db] at z1
  have:P * (a.len * b.wt)=P * (b.len * a.wt):=by rw [e1,e2,z1]
  exact Int.eq_of_mul_eq_mul_left (by omega) this
def jL (way:Int)(a b:Cl):Bool:=if way=0 then y0 (a.due,a.name) (b.due,b.name) else y0 (a.len * b.wt,a.name) (b.len * a.wt,b.name)
theorem NJ {a b:Cl}{h:Nat}{way:Int}(oa:a.Ok h)(ob:b.Ok h):zk [a.pv,b.pv,.at (.int way)]=some (.at (.bl (jL way a b))):=by
 have hB:=jm
 have g1:=oa.l1;have g2:=oa.l2;have w1:=oa.w1;have w2:=oa.w2
 have k1:=ob.l1;have k2:=ob.l2;have v1:=ob.w1;have v2:=ob.w2
 unfold jL
 by_cases hw:way=0
 ·subst hw
  rw [if_pos rfl]
  exact qv rfl (Xt (Qd (i6 (v:=true) rfl) (m8 (w9 (zH rfl l2) (zH rfl l2) rfl))))
 ·rw [if_neg hw]
  refine qv rfl (u7 (qM (i6 (v:=false) (w9 rfl rfl ((JD _ _).trans (by rw [decide_eq_false hw])))) qN) (m8 (w9 (zH (v8 (w9 rfl rfl (Qw (a:=a.len) (b:=b.wt) (by omega) g2 (by omega) v2)) (v8 rfl rfl)) l2) (zH (v8 (w9 rfl rfl (Qw (a:=b.len) (b:=a.wt) (by omega) k2 (by omega) w2)) (v8 rfl rfl)) l2) rfl)))
theorem Xq {a b:M}{ε:ME}{ks:List z7}{xs:List PV}{y z:PV}{k:z7}(h1:a ε=some (.fk ks xs))(h2:b ε=some y)(h3:jx y=some k)(h4:xc k ks xs=some z):qK a b ε=some z:=by
 unfold qK;rw [h1,h2];show (jx y).bind _=_;rw [h3];exact h4
theorem YC {d:Dr}(ok:d.Ok){ε:ME}(h0:ε[0]?=some (.sh d.pv)):z5 vi (q8 (m9 [none] [0] (i0 (z0 j4 (x0 0) (dC (.int 1)))) (v4 0) r9 (qL (q8 (z0 j4 (x0 0) (dC (.int 0))) (q8 (q9 0) x8)))) x8) ε=some (.fk (keysOf d.cls) (d.cls.map Cl.pv)):=by
 have hlim:lim=1000000:=rfl
 have ten:=ok.ten
 have b0:x0 0 ε=some d.pv:=by unfold x0;rw [h0]
 refine v3 (v8 (qR Cl.pv (fun c=>PV.tup [.at (.str c.name),c.pv]) d.cls (YO (w9 b0 rfl rfl)) rfl (by omega) fun c _=>⟨_,rfl,zH (v8 (w9 rfl rfl rfl) (v8 rfl rfl)) l2⟩) rfl) ?_
 show (jD (d.cls.map fun c=>PV.tup [.at (.str c.name),c.pv])).bind _=_
 have k1:(d.cls.map fun c=>((.inr c.name:z7),c.pv)).map (·.1)=keysOf d.cls:=by rw [List.map_map];rfl
 have k2:(d.cls.map fun c=>((.inr c.name:z7),c.pv)).map (·.2)=d.cls.map Cl.pv:=by rw [List.map_map];rfl
 rw [Vn,Option.bind_some,k1,k2]
 exact if_pos ⟨Uo ok.nd,by rw [List.length_map];omega⟩
theorem jU {ns:List Cl}{i:Nat}(h:i < ns.length):j4 (p7 ns) (.at (.int ((0:Int) + (i:Int))))=some (.at (.str ns[i].name)):=by
 show atI (v6 (ns.map Cl.name)) ((0:Int) + (i:Int))=_
 rw [Int.zero_add]
 refine jM ?_
 unfold v6
 rw [List.getElem?_map,List.getElem?_map,List.getElem?_eq_getElem h];rfl
def qq (way:Int)(a b:Cl):Prop:=a.hue=b.hue/\jL way b a=true
instance {way:Int}{a b:Cl}:Decidable (qq way a b):=by unfold qq;infer_instance
theorem WW {d:Dr}(ok:d.Ok){a b:Cl}(ha:a ∈ d.cls)(hb:b ∈ d.cls){way:Int}{ε:ME}{i j k:Nat}(h6:ε[i]?=some (.sh a.pv))(h7:ε[j]?=some (.sh b.pv))(h2:ε[k]?=some (.sh (.at (.int way)))) :
  xD (dT (z0 qw (z0 j4 (x0 i) (dC (.int 1))) (z0 j4 (x0 j) (dC (.int 1))))) (o6 (z5 zk (q8 (q9 j) (q8 (q9 i) (q8 (q9 k) x8))))) ε=some (decide (qq way a b)):=by
 have b6:x0 i ε=some a.pv:=by unfold x0;rw [h6]
 have b7:x0 j ε=some b.pv:=by unfold x0;rw [h7]
 have d6:q9 i ε=some a.pv:=by unfold q9;rw [h6]
 have d7:q9 j ε=some b.pv:=by unfold q9;rw [h7]
 have d2:q9 k ε=some (.at (.int way)):=by unfold q9;rw [h2]
 have eq:dT (z0 qw (z0 j4 (x0 i) (dC (.int 1))) (z0 j4 (x0 j) (dC (.int 1)))) ε=some (decide (a.hue=b.hue)):=by
  refine i6 (w9 (w9 b6 rfl rfl) (w9 b7 rfl rfl) ((JD _ _).trans ?_))
  rw [show decide ((a.hue:Int)=(b.hue:Int))=decide (a.hue=b.hue) by rw [decide_eq_decide];omega]
 unfold qq
 by_cases e:a.hue=b.hue
 ·rw [decide_eq_true e] at eq
  rw [Jw eq (xF (v3 (v8 d7 (v8 d6 (v8 d2 rfl))) (NJ (ok.cl b hb) (ok.cl a ha))))]
  simp [e]
 ·rw [decide_eq_false e] at eq
  rw [BM eq]
  simp [e]
def jb (way:Int)(ns:List Cl)(k j:Nat):Option PV:=if qq way (ns.getD j c0) (ns.getD k c0) then some (.at (.bl false)) else none
theorem YS {α β:Type}{f:α->Option β}{y:β}(h:∀ x z,f x=some z->z=y){l:List α}{z:β}(e:l.findSome? f=some z):z=y:=by
 obtain ⟨x,_,hx⟩:=List.exists_of_findSome?_eq_some e
 exact h x z hx
theorem ord_none {way:Int}{ns:List Cl}:((List.range ns.length).findSome? fun k=>(List.range k).findSome? (jb way ns k))=none ↔ ns.Pairwise fun a b=>¬ qq way a b:=by
 rw [List.findSome?_eq_none_iff,List.pairwise_iff_getElem]
 constructor
 ·intro h i j hi hj hij z
  have:=List.findSome?_eq_none_iff.mp (h j (List.mem_range.mpr hj)) i (List.mem_range.mpr hij)
  unfold jb at this
  rw [i7 hi,i7 hj,if_pos z] at this
  cases this
 ·intro h k hk
  have hk:=List.mem_range.mp hk
  refine List.findSome?_eq_none_iff.mpr fun j hj=>?_
  have hj:=List.mem_range.mp hj
  unfold jb
  rw [i7 hk,i7 (show j < ns.length by omega),if_neg (h j k (by omega) hk hj)]
theorem Kt {d:Dr}(ok:d.Ok){ns:List Cl}(L:Lst d ns)(way:Int):vc [d.pv,p7 ns,.at (.int way)]=some (.at (.bl (decide (ns.Pairwise fun a b=>¬ qq way a b)))):=by
 have hlim:lim=1000000:=rfl
 have l10:=L.len ok
 have dc:=YC ok (ε:=[.sh d.pv,.sh (p7 ns),.sh (.at (.int way)),.no,.no,.no,.no,.no]) rfl
 have it:qu (q8 (z5 o9 (q8 (x0 1) x8)) x8) [.sh d.pv,.sh (p7 ns),.sh (.at (.int way)),.sh (.fk (keysOf d.cls) (d.cls.map Cl.pv)),.no,.no,.no,.no]=some ((List.range ns.length).map fun (i:Nat)=>PV.at (.int ((0:Int) + i))):=zt (v8 (v3 rfl (by show some (PV.at (.int ((v6 (ns.map Cl.name)).length:Int)))=_;rw [qE,List.length_map])) rfl) (by omega)
 have o:=JU (g:=v4 4) (f:=xt (qu (q8 (q9 4) x8)) (v4 5) (v9 (n9 6 (qK (x0 3) (z0 j4 (x0 1) (x0 5)))) (v9 (n9 7 (qK (x0 3) (z0 j4 (x0 1) (x0 4)))) (m5 (xD (dT (z0 qw (z0 j4 (x0 6) (dC (.int 1))) (z0 j4 (x0 7) (dC (.int 1))))) (o6 (z5 zk (q8 (q9 7) (q8 (q9 6) (q8 (q9 2) x8)))))) (w5 (dC (.bl false))) n5))))
  (fun (i:Nat)=>PV.at (.int ((0:Int) + i))) (fun ε=>∃ s4 s5 s6 s7:MSlot,ε=[.sh d.pv,.sh (p7 ns),.sh (.at (.int way)),.sh (.fk (keysOf d.cls) (d.cls.map Cl.pv)),s4,s5,s6,s7]) (fun k=>(List.range k).findSome? (jb way ns k)) (List.range ns.length) (by
   rintro k hk ε ⟨s4,s5,s6,s7,rfl⟩
   have hk:=List.mem_range.mp hk
   have mk:=L.sub _ (List.getElem_mem hk)
   have inn:=JU (g:=v4 5) (f:=v9 (n9 6 (qK (x0 3) (z0 j4 (x0 1) (x0 5)))) (v9 (n9 7 (qK (x0 3) (z0 j4 (x0 1) (x0 4)))) (m5 (xD (dT (z0 qw (z0 j4 (x0 6) (dC (.int 1))) (z0 j4 (x0 7) (dC (.int 1))))) (o6 (z5 zk (q8 (q9 7) (q8 (q9 6) (q8 (q9 2) x8)))))) (w5 (dC (.bl false))) n5)))
    (fun (i:Nat)=>PV.at (.int ((0:Int) + i))) (fun ε=>∃ s5 s6 s7:MSlot,ε=[.sh d.pv,.sh (p7 ns),.sh (.at (.int way)),.sh (.fk (keysOf d.cls) (d.cls.map Cl.pv)),.sh (.at (.int ((0:Int) + k))),s5,s6,s7]) (jb way ns k) (List.range k) (by
     rintro j hj ε ⟨s5,s6,s7,rfl⟩
     have hj:=List.mem_range.mp hj
     have hjn:j < ns.length:=by omega
     have mj:=L.sub _ (List.getElem_mem hjn)
     have t:=WW ok mj mk (way:=way) (ε:=[.sh d.pv,.sh (p7 ns),.sh (.at (.int way)),.sh (.fk (keysOf d.cls) (d.cls.map Cl.pv)),.sh (.at (.int ((0:Int) + k))),.sh (.at (.int ((0:Int) + j))),.sh ns[j].pv,.sh ns[k].pv]) (i:=6) (j:=7) (k:=2) rfl rfl rfl
     have g1:qK (x0 3) (z0 j4 (x0 1) (x0 5)) [.sh d.pv,.sh (p7 ns),.sh (.at (.int way)),.sh (.fk (keysOf d.cls) (d.cls.map Cl.pv)),.sh (.at (.int ((0:Int) + k))),.sh (.at (.int ((0:Int) + j))),s6,s7]=some ns[j].pv:=Xq rfl (w9 rfl rfl (jU hjn)) rfl (Qm Cl.pv ok.nd _ mj)
     have g2:qK (x0 3) (z0 j4 (x0 1) (x0 4)) [.sh d.pv,.sh (p7 ns),.sh (.at (.int way)),.sh (.fk (keysOf d.cls) (d.cls.map Cl.pv)),.sh (.at (.int ((0:Int) + k))),.sh (.at (.int ((0:Int) + j))),.sh ns[j].pv,s7]=some ns[k].pv:=Xq rfl (w9 rfl rfl (jU hk)) rfl (Qm Cl.pv ok.nd _ mk)
     refine ⟨_,rfl,?_⟩
     unfold jb
     rw [i7 hjn,i7 hk]
     by_cases hb:qq way ns[j] ns[k]
     ·rw [decide_eq_true hb] at t
      rw [if_pos hb]
      exact u7 (qC g1) (u7 (qC g2) (Qd t (m8 rfl)))
     ·rw [decide_eq_false hb] at t
      rw [if_neg hb]
      exact ⟨_,u7 (qC g1) (u7 (qC g2) (qM t qN)),_,_,_,rfl⟩) [.sh d.pv,.sh (p7 ns),.sh (.at (.int way)),.sh (.fk (keysOf d.cls) (d.cls.map Cl.pv)),.sh (.at (.int ((0:Int) + k))),s5,s6,s7] ⟨s5,s6,s7,rfl⟩
   refine ⟨_,rfl,?_⟩
   have ff:=Pe (it:=qu (q8 (q9 4) x8)) (zt (k:=k) (by rw [v8 (x:= .at (.int (k:Int))) (by show some (PV.at (.int ((0:Int) + k)))=_;rw [Int.zero_add]) rfl]) (by omega)) inn
   cases e:(List.range k).findSome? (jb way ns k) with
   | some y=>rw [e] at ff;exact ff
   | none =>
    rw [e] at ff
    obtain ⟨ε',e1,s5',s6',s7',rfl⟩:=ff
    exact ⟨_,e1,_,_,_,_,rfl⟩) _ ⟨.no,.no,.no,.no,rfl⟩
 by_cases q:ns.Pairwise fun a b=>¬ qq way a b
 ·rw [ord_none.mpr q] at o
  obtain ⟨ε',e,_⟩:=o
  rw [decide_eq_true q]
  exact qv rfl (u7 (qC dc) (u7 (xP it e) (m8 rfl)))
 ·rw [decide_eq_false q]
  cases e:((List.range ns.length).findSome? fun k=>(List.range k).findSome? (jb way ns k)) with
  | none=>exact absurd (ord_none.mp e) q
  | some y =>
   rw [e] at o
   have:y = .at (.bl false):=YS (fun k z hz=>YS (fun j w hw=>by unfold jb at hw;split at hw;exact (Option.some.inj hw).symm;cases hw) hz) e
   subst this
   exact qv rfl (u7 (qC dc) (Xt (xP it o)))
theorem GM {α:Type}{xs:List α}{j k:Nat}(hj:j < xs.length)(hk:k < xs.length):((xs.set j xs[k]).set k xs[j]).Perm xs:=by
 have main:∀ {j k:Nat} (hj:j < xs.length) (hk:k < xs.length),j < k->((xs.set j xs[k]).set k xs[j]).Perm xs:=by
  intro j k hj hk hjk
  have e1:xs=xs.take j++xs[j]::xs.drop (j + 1):=by rw [<- List.drop_eq_getElem_cons hj,List.take_append_drop]
  have hk':k - (j + 1) < (xs.drop (j + 1)).length:=by rw [List.length_drop];omega
  have e2:xs.drop (j + 1)=(xs.drop (j + 1)).take (k - (j + 1))++xs[k]::xs.drop (k + 1):=by
   have e3:(xs.drop (j + 1))[k - (j + 1)]=xs[k]:=by
    rw [List.getElem_drop]
    congr 1
    omega
   have e4:(xs.drop (j + 1)).drop (k - (j + 1) + 1)=xs.drop (k + 1):=by
    rw [List.drop_drop]
    congr 1
    omega
   rw [<- e3,<- e4,<- List.drop_eq_getElem_cons hk',List.take_append_drop]
  generalize hA:xs.take j=A at e1
  generalize hB:(xs.drop (j + 1)).take (k - (j + 1))=B at e2
  generalize hC:xs.drop (k + 1)=C at e2
  have lA:A.length=j:=by rw [<- hA,List.length_take];omega
  have lB:B.length=k - (j + 1):=by rw [<- hB,List.length_take];omega
  generalize xs[j]=a at e1 ⊢
  generalize xs[k]=b at e2 ⊢
  rw [e2] at e1
  rw [e1]
  have s1:(A++a::(B++b::C)).set j b=A++b::(B++b::C):=by
   rw [List.set_append_right _ _ (by omega),lA,Nat.sub_self];rfl
  have s2:(A++b::(B++b::C)).set k a=A++b::(B++a::C):=by
   rw [List.set_append_right _ _ (by omega),show k - A.length=(k - (j + 1)) + 1 by omega,List.set_cons_succ,List.set_append_right _ _ (by omega),lB,Nat.sub_self];rfl
  rw [s1,s2]
  refine List.Perm.append_left A ?_
  refine (List.perm_middle.cons b).trans (.trans (.swap a b (B++C)) ?_)
  exact (List.perm_middle.symm.cons a)
 rcases Nat.lt_trichotomy j k with h | h | h
 ·exact main hj hk h
 ·subst h
  rw [List.set_getElem_self,List.set_getElem_self]
 ·rw [List.set_comm _ _ (by omega)]
  exact main hk hj h
theorem Vu {ns:List Cl}{i:Nat}(h:i < ns.length)(s:Str):zO (v6 (ns.map Cl.name)) ((0:Int) + (i:Int)) (.at (.str s))=some ((v6 (ns.map Cl.name)).set i (.at (.str s))):=by
 unfold zO
 rw [Int.zero_add,qE,List.length_map]
 have:ixN ns.length (i:Int)=some i:=by
  unfold ixN
  rw [if_pos (by omega),if_pos (by omega)]
  congr 1
 rw [this];rfl
theorem Jc (ns:List Cl)(i:Nat)(c:Cl):(v6 (ns.map Cl.name)).set i (.at (.str c.name))=v6 ((ns.set i c).map Cl.name):=by
 unfold v6
 rw [List.map_set,List.map_set]
theorem Lst.perm {d:Dr}{ns os:List Cl}(L:Lst d ns)(p:os.Perm ns):Lst d os:=⟨fun c h=>L.sub c (p.mem_iff.mp h),(p.map Cl.name).nodup_iff.mpr L.nd⟩
theorem Ha {d:Dr}(ok:d.Ok){ns:List Cl}(L:Lst d ns)(way:Int):∃ os:List Cl,os.Perm ns/\XM [d.pv,p7 ns,.at (.int way)]=some (p7 os):=by
 have hlim:lim=1000000:=rfl
 have l10:=L.len ok
 have dc:=YC ok (ε:=[.sh d.pv,.sh (p7 ns),.sh (.at (.int way)),.no,.no,.no,.no,.no,.no]) rfl
 have lp:=wf (g:=v4 5) (f:=xt (qu (q8 (q9 5) x8)) (v4 6) (v9 (n9 7 (qK (x0 3) (z0 j4 (x0 4) (x0 6)))) (v9 (n9 8 (qK (x0 3) (z0 j4 (x0 4) (x0 5)))) (m5 (xD (dT (z0 qw (z0 j4 (x0 7) (dC (.int 1))) (z0 j4 (x0 8) (dC (.int 1))))) (o6 (z5 zk (q8 (q9 8) (q8 (q9 7) (q8 (q9 2) x8)))))) (Qb 4 (z0 j4 (x0 4) (x0 5)) (z0 j4 (x0 4) (x0 6)) (q9 6) (q9 5)) n5))))
  (fun i:Nat=>PV.at (.int ((0:Int) + i))) (fun l ε=>(∀ i ∈ l,i < ns.length)/\∃ (os:List Cl) (s5 s6 s7 s8:MSlot),os.Perm ns/\ε=[.sh d.pv,.sh (p7 ns),.sh (.at (.int way)),.sh (.fk (keysOf d.cls) (d.cls.map Cl.pv)),.ow (p7 os),s5,s6,s7,s8]) (by
   rintro k l ε ⟨hl,os,s5,s6,s7,s8,pm,rfl⟩
   have hk:=hl k List.mem_cons_self
   have inn:=wf (g:=v4 6) (f:=v9 (n9 7 (qK (x0 3) (z0 j4 (x0 4) (x0 6)))) (v9 (n9 8 (qK (x0 3) (z0 j4 (x0 4) (x0 5)))) (m5 (xD (dT (z0 qw (z0 j4 (x0 7) (dC (.int 1))) (z0 j4 (x0 8) (dC (.int 1))))) (o6 (z5 zk (q8 (q9 8) (q8 (q9 7) (q8 (q9 2) x8)))))) (Qb 4 (z0 j4 (x0 4) (x0 5)) (z0 j4 (x0 4) (x0 6)) (q9 6) (q9 5)) n5)))
    (fun i:Nat=>PV.at (.int ((0:Int) + i))) (fun l ε=>(∀ i ∈ l,i < k)/\∃ (os:List Cl) (s6 s7 s8:MSlot),os.Perm ns/\ε=[.sh d.pv,.sh (p7 ns),.sh (.at (.int way)),.sh (.fk (keysOf d.cls) (d.cls.map Cl.pv)),.ow (p7 os),.sh (.at (.int ((0:Int) + k))),s6,s7,s8]) (by
     rintro j l ε ⟨hl,os,s6,s7,s8,pm,rfl⟩
     have hj:=hl j List.mem_cons_self
     have hlen:=pm.length_eq
     have hjo:j < os.length:=by omega
     have hko:k < os.length:=by omega
     have Lo:=L.perm pm
     have mj:=Lo.sub _ (List.getElem_mem hjo)
     have mk:=Lo.sub _ (List.getElem_mem hko)
     have g1:qK (x0 3) (z0 j4 (x0 4) (x0 6)) [.sh d.pv,.sh (p7 ns),.sh (.at (.int way)),.sh (.fk (keysOf d.cls) (d.cls.map Cl.pv)),.ow (p7 os),.sh (.at (.int ((0:Int) + k))),.sh (.at (.int ((0:Int) + j))),s7,s8]=some os[j].pv:=Xq rfl (w9 rfl rfl (jU hjo)) rfl (Qm Cl.pv ok.nd _ mj)
     have g2:qK (x0 3) (z0 j4 (x0 4) (x0 5)) [.sh d.pv,.sh (p7 ns),.sh (.at (.int way)),.sh (.fk (keysOf d.cls) (d.cls.map Cl.pv)),.ow (p7 os),.sh (.at (.int ((0:Int) + k))),.sh (.at (.int ((0:Int) + j))),.sh os[j].pv,s8]=some os[k].pv:=Xq rfl (w9 rfl rfl (jU hko)) rfl (Qm Cl.pv ok.nd _ mk)
     have t:=WW ok mj mk (way:=way) (ε:=[.sh d.pv,.sh (p7 ns),.sh (.at (.int way)),.sh (.fk (keysOf d.cls) (d.cls.map Cl.pv)),.ow (p7 os),.sh (.at (.int ((0:Int) + k))),.sh (.at (.int ((0:Int) + j))),.sh os[j].pv,.sh os[k].pv]) (i:=7) (j:=8) (k:=2) rfl rfl rfl
     by_cases hb:qq way os[j] os[k]
     ·rw [decide_eq_true hb] at t
      refine ⟨_,[.sh d.pv,.sh (p7 ns),.sh (.at (.int way)),.sh (.fk (keysOf d.cls) (d.cls.map Cl.pv)),.ow (p7 ((os.set j os[k]).set k os[j])),.sh (.at (.int ((0:Int) + k))),.sh (.at (.int ((0:Int) + j))),.sh os[j].pv,.sh os[k].pv],rfl,u7 (qC g1) (u7 (qC g2) (Qd t ?_)),fun i hi=>hl i (List.mem_cons_of_mem _ hi),(os.set j os[k]).set k os[j],_,_,_,(GM hjo hko).trans pm,rfl⟩
      unfold Qb
      rw [w9 (G:=j4) rfl rfl (jU hko),Option.bind_some,w9 (G:=j4) rfl rfl (jU hjo),Option.bind_some]
      show (zO (v6 (os.map Cl.name)) ((0:Int) + (j:Int)) (.at (.str os[k].name))).bind _=_
      rw [Vu hjo,Option.bind_some,Jc]
      show (zO (v6 ((os.set j os[k]).map Cl.name)) ((0:Int) + (k:Int)) (.at (.str os[j].name))).bind _=_
      rw [Vu (by rw [List.length_set];exact hko),Option.bind_some,Jc]
      rfl
     ·rw [decide_eq_false hb] at t
      exact ⟨_,_,rfl,u7 (qC g1) (u7 (qC g2) (qM t qN)),fun i hi=>hl i (List.mem_cons_of_mem _ hi),os,_,_,_,pm,rfl⟩) (List.range k) [.sh d.pv,.sh (p7 ns),.sh (.at (.int way)),.sh (.fk (keysOf d.cls) (d.cls.map Cl.pv)),.ow (p7 os),.sh (.at (.int ((0:Int) + k))),s6,s7,s8] ⟨fun i hi=>List.mem_range.mp hi,os,s6,s7,s8,pm,rfl⟩
   obtain ⟨ε',e',_,os',s6',s7',s8',pm',rfl⟩:=inn
   refine ⟨_,_,rfl,xP (zt (k:=k) ?_ (by omega)) e',fun i hi=>hl i (List.mem_cons_of_mem _ hi),os',_,_,_,_,pm',rfl⟩
   rw [v8 (x:= .at (.int (k:Int))) (by show some (PV.at (.int ((0:Int) + k)))=_;rw [Int.zero_add]) rfl]) (List.range ns.length) [.sh d.pv,.sh (p7 ns),.sh (.at (.int way)),.sh (.fk (keysOf d.cls) (d.cls.map Cl.pv)),.ow (p7 ns),.no,.no,.no,.no] ⟨fun i hi=>List.mem_range.mp hi,ns,.no,.no,.no,.no,.refl _,rfl⟩
 obtain ⟨ε',e',_,os,s5,s6,s7,s8,pm,rfl⟩:=lp
 refine ⟨os,pm,xG rfl (u7 (qC dc) (u7 (YR (x:=p7 ns) (v3 rfl rfl)) (u7 (xP (zt (k:=ns.length) (v8 (v3 rfl (by show some (PV.at (.int ((v6 (ns.map Cl.name)).length:Int)))=_;rw [qE,List.length_map])) rfl) (by omega)) e') (m8 rfl))))⟩
section
variable {C:Addr}{d:Dr}
theorem BV (ok:d.Ok)(g:Nat):(d.dueN g).length<=10:=by
 unfold Dr.dueN
 rw [List.length_map]
 have:=(YE (d:=d) g).length_eq;have:=vZ ok (h:=g);omega
theorem Nh (ok:d.Ok)(g:Nat):(d.steepN g).length<=10:=by
 unfold Dr.steepN
 rw [List.length_map]
 have:=(GU (d:=d) g).length_eq;have:=vZ ok (h:=g);omega
theorem Ud {rows:Nat->List Str}(ok:d.Ok){ns:List Cl}(L:Lst d ns)(hr:∀ g,(rows g).length<=10):ve [.lst (((List.range d.h).map rows).map u5),p7 ns]=some (wy (((List.range d.h).map rows).findSome? fun R=>qA R (o4 R (ns.map Cl.name)))):=by
 have l10:=L.len ok
 refine Hj (by rw [List.length_map];omega) _ fun R hR=>?_
 obtain ⟨g,_,rfl⟩:=List.mem_map.mp hR
 have:=hr g
 omega
theorem UI {rows:Nat->List Str}{key:Nat->Cl->Int × Str}(ok:d.Ok){ns:List Cl}(L:Lst d ns)(hrow:∀ g,rows g=(qO c0 ((d.inH g).map (key g)) (d.inH g)).map Cl.name)(hk:∀ g c,(key g c).2=c.name) :
  (((List.range d.h).map rows).findSome? fun R=>qA R (o4 R (ns.map Cl.name)))=none ↔ ns.Pairwise fun a b=>a.hue=b.hue->y0 (key a.hue b) (key a.hue a)=false:=by
 rw [Pd]
 constructor
 ·intro h
  have q:∀ g,g < d.h->ns.Pairwise fun a b=>a.hue=g->b.hue=g->y0 (key g b) (key g a)=false:=fun g hg=>by
   have:=h (rows g) (List.mem_map.mpr ⟨g,List.mem_range.mpr hg,rfl⟩)
   rw [hrow] at this
   exact (GG ok L (hk g)).mp this
  refine (pw_all.mp q).imp_of_mem fun {a b} ha hb z e=>?_
  exact z a.hue (ok.cl a (L.sub a ha)).hu rfl e.symm
 ·intro h R hR
  obtain ⟨g,hg,rfl⟩:=List.mem_map.mp hR
  rw [hrow]
  refine (GG ok L (hk g)).mpr (h.imp fun {a b} z e1 e2=>?_)
  have:=z (e1.trans e2.symm)
  rw [e1] at this
  exact this
theorem Ks (ok:d.Ok){ns:List Cl}(L:Lst d ns):vb C [d.ob C,p7 ns]=some (.at (.bl (decide (ns.Pairwise fun a b=>¬ qq 0 a b)))):=by
 refine qv rfl (u7 (Qc (v3 rfl (Ko ok L (Kn ok L)))) (m8 (w9 (v3 (v8 (v3 rfl (NQ ok)) (v8 rfl rfl)) (Ud ok L (BV ok))) rfl ((Ug _).trans ?_))))
 have iff:=UI (rows:=d.dueN) (key:=fun _=>zG) ok L (fun _=>rfl) (fun _ _=>rfl)
 have pe:(ns.Pairwise fun a b=>a.hue=b.hue->y0 (zG b) (zG a)=false) ↔ ns.Pairwise fun a b=>¬ qq 0 a b:=by
  have hq:∀ a b:Cl,(a.hue=b.hue->y0 (zG b) (zG a)=false) ↔ ¬ qq 0 a b:=fun a b=>by
   unfold qq
   show _ ↔ ¬ (_/\y0 (zG b) (zG a)=true)
   simp
  exact ⟨fun h=>h.imp fun {a b} z=>(hq a b).mp z,fun h=>h.imp fun {a b} z=>(hq a b).mpr z⟩
 by_cases q:ns.Pairwise fun a b=>¬ qq 0 a b
 ·rw [decide_eq_true q,iff.mpr (pe.mpr q)];rfl
 ·rw [decide_eq_false q]
  cases e:(((List.range d.h).map d.dueN).findSome? fun R=>qA R (o4 R (ns.map Cl.name))) with
  | none=>exact absurd (pe.mp (iff.mp e)) q
  | some p=>rfl
theorem GV (ok:d.Ok){a b:Cl}(ha:a ∈ d.inH a.hue)(hb:b ∈ d.inH a.hue):y0 (qV (u4 (d.inH a.hue)) b) (qV (u4 (d.inH a.hue)) a)=jL 1 b a:=by
 have w:∀ c ∈ d.inH a.hue,1<=c.wt:=fun c hc=>(ok.cl c (jR hc)).w1
 have one:∀ {x y:Cl},x ∈ d.inH a.hue->y ∈ d.inH a.hue->y0 (qV (u4 (d.inH a.hue)) x) (qV (u4 (d.inH a.hue)) y)=true->jL 1 x y=true:=by
  intro x y hx hy h
  have q:=KS (Zc w) (w x hx) (w y hy) (Vm hx) (Vm hy) h
  exact ltK_iff.mpr q
 cases e:y0 (qV (u4 (d.inH a.hue)) b) (qV (u4 (d.inH a.hue)) a) with
 | true=>rw [one hb ha e]
 | false =>
  cases e2:jL 1 b a with
  | false=>rfl
  | true =>
   exfalso
   have h2:y0 (b.len * a.wt,b.name) (a.len * b.wt,a.name)=true:=e2
   cases e3:y0 (qV (u4 (d.inH a.hue)) a) (qV (u4 (d.inH a.hue)) b) with
   | true =>
    have h3:y0 (a.len * b.wt,a.name) (b.len * a.wt,b.name)=true:=one ha hb e3
    rcases ltK_iff.mp h2 with z | ⟨z1,z2⟩ <;> rcases ltK_iff.mp h3 with y | ⟨y1,y2⟩
    ·simp only at z y;omega
    ·simp only at z y1;omega
    ·simp only at z1 y;omega
    ·exact List.lt_asymm z2 y2
   | false =>
    have nm:b.name=a.name:=congrArg Prod.snd (JW e e3)
    have eq:a=b:=by
     have nd:=ok.nd
     obtain ⟨i,hi,ei⟩:=List.mem_iff_getElem.mp (jR ha)
     obtain ⟨j,hj,ej⟩:=List.mem_iff_getElem.mp (jR hb)
     have:=(List.getElem_inj (xs:=d.cls.map Cl.name) (h₀:=by rw [List.length_map];exact hi) (h₁:=by rw [List.length_map];exact hj) nd).mp (by rw [List.getElem_map,List.getElem_map,ei,ej,nm])
     subst this
     rw [<- ei,<- ej]
    subst eq
    have:=(wg fun _=>(a.len * a.wt,a.name)).irr 0
    rw [h2] at this
    cases this
theorem Ku (ok:d.Ok){ns:List Cl}(L:Lst d ns):vd C [d.ob C,p7 ns]=some (.at (.bl (decide (ns.Pairwise fun a b=>¬ qq 1 a b)))):=by
 refine qv rfl (u7 (Qc (v3 rfl (Ko ok L (Kn ok L)))) (m8 (w9 (v3 (v8 (v3 rfl (He ok)) (v8 rfl rfl)) (Ud ok L (Nh ok))) rfl ((Ug _).trans ?_))))
 have iff:=UI (rows:=d.steepN) (key:=fun g=>qV (u4 (d.inH g))) ok L (fun _=>rfl) (fun _ _=>rfl)
 have pe:(ns.Pairwise fun a b=>a.hue=b.hue->y0 (qV (u4 (d.inH a.hue)) b) (qV (u4 (d.inH a.hue)) a)=false) ↔ ns.Pairwise fun a b=>¬ qq 1 a b:=by
  have hq:∀ a b:Cl,a ∈ ns->b ∈ ns->((a.hue=b.hue->y0 (qV (u4 (d.inH a.hue)) b) (qV (u4 (d.inH a.hue)) a)=false) ↔ ¬ qq 1 a b):=fun a b ha hb=>by
   unfold qq
   constructor
   ·rintro h ⟨e,z⟩
    rw [<- GV ok (List.mem_filter.mpr ⟨L.sub a ha,decide_eq_true rfl⟩) (List.mem_filter.mpr ⟨L.sub b hb,decide_eq_true e.symm⟩),h e] at z
    cases z
   ·intro h e
    rw [GV ok (List.mem_filter.mpr ⟨L.sub a ha,decide_eq_true rfl⟩) (List.mem_filter.mpr ⟨L.sub b hb,decide_eq_true e.symm⟩)]
    cases z:jL 1 b a with
    | false=>rfl
    | true=>exact absurd ⟨e,z⟩ h
  exact ⟨fun h=>h.imp_of_mem fun {a b} ha hb z=>(hq a b ha hb).mp z,fun h=>h.imp_of_mem fun {a b} ha hb z=>(hq a b ha hb).mpr z⟩
 by_cases q:ns.Pairwise fun a b=>¬ qq 1 a b
 ·rw [decide_eq_true q,iff.mpr (pe.mpr q)];rfl
 ·rw [decide_eq_false q]
  cases e:(((List.range d.h).map d.steepN).findSome? fun R=>qA R (o4 R (ns.map Cl.name))) with
  | none=>exact absurd (pe.mp (iff.mp e)) q
  | some p=>rfl
end
abbrev vA:Stmt:=u6 65
abbrev Wz (K:Fg)(Aa:Addr):WS:=(wSeq (t6 1 (KE (QE K) vH (g9 (wP (q9 0)) (g9 (wP (dC (.int 8))) qz))))
  (wSeq (t6 2 (wP (z5 (wm Aa) (q8 (z0 j4 (x0 1) (dC (.int 0))) (q8 (z0 j4 (x0 1) (dC (.int 1))) (q8 (z0 j4 (x0 1) (dC (.int 2))) (q8 (z0 j4 (x0 1) (dC (.int 3))) x8)))))))
  (wSeq (Jf 3 (vo K) jJ (g9 (wP (q9 0)) (g9 (wP (dC (.int 2))) qz)))
  (wSeq (wFor (wIp (qu (q8 (dC (.int 8)) x8))) (v4 4) (wSeq (VO 3 5 QG wN (g9 (wP (q9 1)) qz))
  (wSeq (t6 6 (i4 3 (wP (dC (.int 3)))))
  (wSeq (qX (wPT (dT (z0 pLt (x0 6) (dC (.int 2))))) (wFz 5 (jk 5 (z5 XM (q8 (q9 1) (q8 (q9 5) (q8 (q9 6) x8)))))) xp)
  (wSeq (qX (wAnd (wPT (dT (z0 pGt (z5 o9 (q8 (x0 5) x8)) (dC (.int 0))))) (wT (qQ qw (i4 3 (wP (dC (.int 3)))) (wP (dC (.int 0)))))) (wSeq (t6 7 (i4 3 (wP (z5 o9 (q8 (x0 5) x8)))))
  (wSeq (t6 8 (i4 3 (wP (z5 o9 (q8 (x0 5) x8)))))
  (wSeq (t6 9 (wP (z0 j4 (x0 5) (x0 7))))
  (wSeq (wK 5 (q9 7) (z0 j4 (x0 5) (x0 8)))
  (wK 5 (q9 8) (q9 9)))))) xp)
  (wSeq (t6 10 (wP (z5 vj (q8 (x0 5) x8))))
  (wSeq (t6 11 (wP (xE (q8 (z5 (vb Aa) (q8 (q9 2) (q8 (q9 10) x8))) (q8 (z5 (vd Aa) (q8 (q9 2) (q8 (q9 10) x8))) x8)))))
  (wSeq (wFz 5 (jk 12 (xE (q8 (z5 vc (q8 (q9 1) (q8 (q9 5) (q8 (dC (.int 0)) x8)))) x8))))
  (wSeq (wFz 5 (vC 12 (wP (z5 vc (q8 (q9 1) (q8 (q9 5) (q8 (dC (.int 1)) x8)))))))
  (wSeq (qX (wPT (dOr (qB (o6 (z5 zn (q8 (m9 [none] [0] (i0 (q9 11)) (v4 0) r9 (z5 qx (q8 (x0 0) (q8 (dC (.ty "bool")) x8)))) x8)))) (dT (z0 pNe (x0 11) (x0 12))))) (qY (wP (dC (.bl false)))) xp)
  (qX (wPT (dT (z0 pNe (x0 10) (x0 5)))) (qY (wP (dC (.bl false)))) xp)))))))))))
  (qY (wP (zE (z0 pIsB (z5 (vb Aa) (q8 (q9 2) (q8 (xE x8) x8))) (dC (.bl true))) (z0 pIsB (z5 (vd Aa) (q8 (q9 2) (q8 (xE x8) x8))) (dC (.bl true))))))))))
theorem sc_law:w4 ["script", "parts", "works", "row", "turn", "names", "way", "spot", "place", "held", "handed", "found", "due"] ["script"] (z9 vA):=⟨rfl,rfl,rfl,by decide +kernel,rfl,by decide +kernel,by decide +kernel⟩
theorem Yr {cs:List Cl}:∀ {os:List Str},(∀ s ∈ os,s ∈ cs.map Cl.name)->∃ ns:List Cl,ns.map Cl.name=os/\∀ c ∈ ns,c ∈ cs
 | [],_=>⟨[],rfl,fun _ z=>nomatch z⟩
 | s::os,h=>by
  obtain ⟨ns,e,q⟩:=Yr (os:=os) fun x hx=>h x (List.mem_cons_of_mem _ hx)
  obtain ⟨c,hc,ec⟩:=List.mem_map.mp (h s List.mem_cons_self)
  refine ⟨c::ns,by rw [List.map_cons,e,ec],fun x hx=>?_⟩
  rcases List.mem_cons.mp hx with rfl | hx
  ·exact hc
  ·exact q x hx
theorem Nb {d e:Dr}{os:List Str}(h:([d.pv]:List PV)=[e.pv])(nd:os.Nodup)(hs:∀ s ∈ os,s ∈ e.cls.map Cl.name):∃ ns:List Cl,p7 ns = .lst (v6 os)/\Lst d ns:=by
 injection h with h _
 rw [<- BU h] at hs
 obtain ⟨ns,e,q⟩:=Yr hs
 exact ⟨ns,by unfold p7;rw [e],q,by rw [e];exact nd⟩
theorem Mw (ss:List Str):wD 6 (.lst (v6 ss)):=fun x hx=>by
 obtain ⟨s,_,rfl⟩:=List.mem_map.mp hx
 exact rfl
theorem YW {K:Fg}{Aa:Addr}{ns:List Int}{d:Dr}(ok:d.Ok){os:List Cl}(L:Lst d os)(n:Int)(s4 s6 s7 s8 s9 s10 s11 s12:MSlot){N:ME->Prop}(hN:∀ s4 s5 s6 s7 s8 s9 s10 s11 s12:MSlot,N [.sh (scr K ns),.sh d.pv,.sh (d.ob Aa),g0 n,s4,s5,s6,s7,s8,s9,s10,s11,s12]){R:PV->ME->Prop} :
  (wSeq (t6 10 (wP (z5 vj (q8 (x0 5) x8))))
  (wSeq (t6 11 (wP (xE (q8 (z5 (vb Aa) (q8 (q9 2) (q8 (q9 10) x8))) (q8 (z5 (vd Aa) (q8 (q9 2) (q8 (q9 10) x8))) x8)))))
  (wSeq (wFz 5 (jk 12 (xE (q8 (z5 vc (q8 (q9 1) (q8 (q9 5) (q8 (dC (.int 0)) x8)))) x8))))
  (wSeq (wFz 5 (vC 12 (wP (z5 vc (q8 (q9 1) (q8 (q9 5) (q8 (dC (.int 1)) x8)))))))
  (wSeq (qX (wPT (dOr (qB (o6 (z5 zn (q8 (m9 [none] [0] (i0 (q9 11)) (v4 0) r9 (z5 qx (q8 (x0 0) (q8 (dC (.ty "bool")) x8)))) x8)))) (dT (z0 pNe (x0 11) (x0 12))))) (qY (wP (dC (.bl false)))) xp)
  (qX (wPT (dT (z0 pNe (x0 10) (x0 5)))) (qY (wP (dC (.bl false)))) xp)))))) [.sh (scr K ns),.sh d.pv,.sh (d.ob Aa),g0 n,s4,.ow (p7 os),s6,s7,s8,s9,s10,s11,s12] N R:=by
 have hlim:lim=1000000:=rfl
 have a0:=Kt ok L 0
 have a1:=Kt ok L 1
 have p0:=Ks (C:=Aa) ok L
 have p1:=Ku (C:=Aa) ok L
 generalize decide (os.Pairwise fun a b=>¬ qq 0 a b)=b0 at a0 p0
 generalize decide (os.Pairwise fun a b=>¬ qq 1 a b)=b1 at a1 p1
 refine ⟨p7 os,v3 rfl rfl,.lst [.at (.bl b0),.at (.bl b1)],Qe (v8 (v3 rfl p0) (v8 (v3 rfl p1) rfl)) l2,?_⟩
 refine ⟨.lst [.at (.bl b0)],Qe (v8 (v3 rfl a0) rfl) l1,?_⟩
 refine ⟨⟨_,rfl⟩,_,v3 rfl a1,_,rfl,l1,?_⟩
 refine vD (vR (xu (xF (v3 (v8 (qR (fun b:Bool=>PV.at (.bl b)) (fun _=>PV.at (.bl true)) [b0,b1] rfl rfl l2 fun b _=>⟨_,rfl,v3 rfl ?_⟩) rfl) (wS _)))) (i6 (v:=false) (w9 rfl rfl ?_))) ?_
 ·unfold qx tyP
  rfl
 ·exact Ve (fun x hx=>by
   rcases List.mem_cons.mp hx with rfl | hx
   ·exact rfl
   ·rw [List.mem_singleton.mp hx];exact rfl)
 ·exact vD (i6 (v:=false) (w9 rfl rfl (Ve (Mw _)))) (hN _ _ _ _ _ _ _ _ _)
theorem YX {K:Fg}{Aa:Addr}{ns:List Int}{d:Dr}(ok:d.Ok){os:List Cl}(L:Lst d os)(n:Int)(s4 s6 s7 s8 s9 s10 s11 s12:MSlot){N:ME->Prop}{rest:WS}{R:PV->ME->Prop}
  (hN:∀ (n:Int) (os:List Cl) (s7 s8 s9:MSlot),Lst d os->rest [.sh (scr K ns),.sh d.pv,.sh (d.ob Aa),g0 n,s4,.ow (p7 os),s6,s7,s8,s9,s10,s11,s12] N R) :
  (wSeq (qX (wAnd (wPT (dT (z0 pGt (z5 o9 (q8 (x0 5) x8)) (dC (.int 0))))) (wT (qQ qw (i4 3 (wP (dC (.int 3)))) (wP (dC (.int 0)))))) (wSeq (t6 7 (i4 3 (wP (z5 o9 (q8 (x0 5) x8)))))
  (wSeq (t6 8 (i4 3 (wP (z5 o9 (q8 (x0 5) x8)))))
  (wSeq (t6 9 (wP (z0 j4 (x0 5) (x0 7))))
  (wSeq (wK 5 (q9 7) (z0 j4 (x0 5) (x0 8)))
  (wK 5 (q9 8) (q9 9)))))) xp) rest) [.sh (scr K ns),.sh d.pv,.sh (d.ob Aa),g0 n,s4,.ow (p7 os),s6,s7,s8,s9,s10,s11,s12] N R:=by
 have hB:=jm
 have l10:=L.len ok
 have hlen:o9 [p7 os]=some (.at (.int (os.length:Int))):=by
  show some (PV.at (.int ((v6 (os.map Cl.name)).length:Int)))=_
  rw [qE,List.length_map]
 refine ⟨decide (0 < (os.length:Int)),i6 (w9 (v3 rfl hlen) rfl rfl),?_⟩
 by_cases h0:0 < (os.length:Int)
 ·refine Eq.mpr (if_pos (decide_eq_true h0)) ?_
  refine ⟨⟨n,rfl⟩,_,rfl,n,3,rfl,rfl,⟨by decide,by decide⟩,_,rfl,_,rfl,decide (n % 3=0),rfl,?_⟩
  by_cases hk:n % 3=0
  ·refine Eq.mpr (if_pos (decide_eq_true hk)) ?_
   generalize n / 3=n1
   have c0:0<=n1 % (os.length:Int):=Int.emod_nonneg _ (by omega)
   have c1:n1 % (os.length:Int) < os.length:=Int.emod_lt_of_pos _ (by omega)
   obtain ⟨i,hi⟩:=Int.eq_ofNat_of_zero_le c0
   rw [hi] at c1
   refine ⟨⟨_,rfl⟩,_,v3 rfl hlen,n1,(os.length:Int),rfl,rfl,zU (by omega) (by omega),?_⟩
   rw [hi]
   generalize n1 / (os.length:Int)=n2
   have e0:0<=n2 % (os.length:Int):=Int.emod_nonneg _ (by omega)
   have e1:n2 % (os.length:Int) < os.length:=Int.emod_lt_of_pos _ (by omega)
   obtain ⟨j,hj⟩:=Int.eq_ofNat_of_zero_le e0
   rw [hj] at e1
   refine ⟨⟨_,rfl⟩,_,v3 rfl hlen,n2,(os.length:Int),rfl,rfl,zU (by omega) (by omega),?_⟩
   rw [hj]
   generalize n2 / (os.length:Int)=n3
   have il:i < os.length:=by omega
   have jl:j < os.length:=by omega
   have ix:∀ {k:Nat} (hk:k < os.length),j4 (p7 os) (.at (.int (k:Int)))=some (.at (.str os[k].name)):=fun {k} hk=>by
    have:=jU hk
    rwa [Int.zero_add] at this
   have st:∀ {ms:List Cl} {k:Nat} (hk:k < ms.length) (s:Str),zO (v6 (ms.map Cl.name)) (k:Int) (.at (.str s))=some ((v6 (ms.map Cl.name)).set k (.at (.str s))):=fun {ms k} hk s=>by
    have:=Vu hk s
    rwa [Int.zero_add] at this
   refine ⟨_,w9 rfl rfl (ix il),?_⟩
   refine ⟨.at (.str os[j].name),(i:Int),v6 (os.map Cl.name),_,w9 rfl rfl (ix jl),rfl,rfl,st il _,?_⟩
   rw [Jc]
   refine ⟨.at (.str os[i].name),(j:Int),v6 ((os.set i os[j]).map Cl.name),_,rfl,rfl,rfl,st (by rw [List.length_set];exact jl) _,?_⟩
   rw [Jc]
   exact hN n3 ((os.set i os[j]).set j os[i]) _ _ _ (L.perm (GM il jl))
  ·refine Eq.mpr (if_neg (by rw [decide_eq_false hk];exact Bool.false_ne_true)) ?_
   exact hN _ os _ _ _ L
 ·refine Eq.mpr (if_neg (by rw [decide_eq_false h0];exact Bool.false_ne_true)) ?_
  exact hN _ os _ _ _ L
theorem Pz {K:Fg}{Aa:Addr}:∀ ns:List Int,ns.length<=63->Wz K Aa (.sh (scr K ns)::List.replicate ((["script", "parts", "works", "row", "turn", "names", "way", "spot", "place", "held", "handed", "found", "due"]:List Str).length - 1) .no) (fun _=>False) fun y _=>y = .at (.bl true):=by
 intro ns h63
 have hlim:lim=1000000:=rfl
 refine ⟨_,rfl,_,rfl,⟨ns,8,rfl,h63,by decide⟩,?_⟩
 rintro _ ⟨d,z,m,_,rfl,ok,_⟩
 refine ⟨d.ob Aa,v3 (v8 (w9 rfl rfl rfl) (v8 (w9 rfl rfl rfl) (v8 (w9 rfl rfl rfl) (v8 (w9 rfl rfl rfl) rfl)))) (NS ok),?_⟩
 refine ⟨_,rfl,_,rfl,⟨ns,2,rfl,h63,by decide,by decide⟩,?_⟩
 rintro _ ⟨n,rfl⟩
 refine ⟨_,zt (k:=8) rfl (by decide),?_⟩
 refine JV (fun rest ε=>∃ (n:Int) (s4 s5 s6 s7 s8 s9 s10 s11 s12:MSlot),ε=[.sh (scr K ns),.sh d.pv,.sh (d.ob Aa),g0 n,s4,s5,s6,s7,s8,s9,s10,s11,s12]) ?_ ?_ _ _ ⟨n,_,_,_,_,_,_,_,_,_,rfl⟩
 ·rintro ε ⟨n,s4,s5,s6,s7,s8,s9,s10,s11,s12,rfl⟩
  have L0:Lst d []:=⟨(fun _ z=>nomatch z),List.nodup_nil⟩
  have p0:=Ks (C:=Aa) ok L0
  have p1:=Ku (C:=Aa) ok L0
  rw [decide_eq_true List.Pairwise.nil] at p0 p1
  exact ⟨.at (.bl true),jP (w9 (v3 (v8 rfl (v8 (Qe rfl l0) rfl)) p0) rfl rfl) (w9 (v3 (v8 rfl (v8 (Qe rfl l0) rfl)) p1) rfl rfl),rfl⟩
 ·rintro x rest ε ⟨n,s4,s5,s6,s7,s8,s9,s10,s11,s12,rfl⟩
  refine ⟨_,rfl,⟨n,rfl⟩,_,rfl,⟨n,rfl⟩,⟨d,rfl,ok⟩,?_⟩
  rintro _ n1 ⟨e,os,he,rfl,nd,hs⟩
  obtain ⟨cs,ec,L⟩:=Nb he nd hs
  rw [<- ec]
  refine ⟨⟨n1,rfl⟩,_,rfl,n1,3,rfl,rfl,⟨by decide,by decide⟩,?_⟩
  generalize n1 % 3=way
  generalize n1 / 3=n2
  by_cases hw:way < 2
  ·obtain ⟨os,pm,ep⟩:=Ha ok L way
   refine Xa (i6 (v:=true) (show some (PV.at (.bl (decide (way < 2))))=_ by rw [decide_eq_true hw])) ⟨p7 os,v3 rfl ep,?_⟩
   exact YX ok (L.perm pm) n2 _ _ _ _ _ _ _ _ fun n ms _ _ _ Lm=>YW ok Lm n _ _ _ _ _ _ _ _ fun _ _ _ _ _ _ _ _ _=>⟨n,_,_,_,_,_,_,_,_,_,rfl⟩
  ·refine vD (i6 (v:=false) (show some (PV.at (.bl (decide (way < 2))))=_ by rw [decide_eq_false hw])) ?_
   exact YX ok L n2 _ _ _ _ _ _ _ _ fun n ms _ _ _ Lm=>YW ok Lm n _ _ _ _ _ _ _ _ fun _ _ _ _ _ _ _ _ _=>⟨n,_,_,_,_,_,_,_,_,_,rfl⟩
theorem Dt {Aa:Addr}(F:Fun K "law" "law" vA f fd) (Ad:Fn P w K mg base 1 "_law_digit" ["row", "many"] jg) (D6:Fn P w K mg base 9 "in_dues" ["works", "names"] (v7 (vb Aa))) (B6:Fn P w K mg base 2 "_law_in_order" ["parts", "names", "way"] (v7 vc)) (B8:Fn P w K mg base 9 "in_steep" ["works", "names"] (v7 (vd Aa))) (E1:Fn P w K mg base 4 "_law_parts" ["script", "most"] (spV (QE K) vH)) (D4:Fn P w K mg base 2 "_law_put_right" ["parts", "names", "way"] (m4 XM)) (E5:Fn P w K mg base 2 "_law_some" ["row", "parts"] (spDO QG wN)) (Ay:Fn P w K mg base 2 "_law_stream" ["script", "k"] (spN (vo K) jJ)) (Ax:mg "all"=none) (Ef:mg "bool"=none) (Ab:mg "isinstance"=none) (Ae:mg "len"=none) (Al:mg "list"=none) (Ac:mg "range"=none) (Eu:mg "Works"=some (.ref Aa)) (Ey:Mkr P w K mg base 5 Aa ["self", "rinses", "cloths", "last", "time"] (spI Aa (wm Aa))):FnOk P w K mg base v5 10 f fd ["script"] (QS K) :=
 okL (k:=9) (b:=Wz K Aa) F sc_law (fun cdv A outer s H E hr=>⟨_,(@j9 _ _ _ _ _ (@u9 _ _ 1 _ _ _ _ sc_law.nd rfl (Or.inl rfl) (j8 E1 hr (by decide) rfl (@q0 _ _ _ _ _ (pv 0) (@q0 _ _ _ _ _ z6 x9 (by rfl)) (by rfl))) (by rfl) (.inl rfl))
  (@j9 _ _ _ _ _ (@u9 _ _ 2 _ _ _ _ sc_law.nd rfl (Or.inl rfl) (pe_mk Ey hr (by decide) rfl Eu (@q0 _ _ _ _ _ (y9 (g8 (K:=K) rfl) (pv 1) z6 (fun _ _=>rfl)) (@q0 _ _ _ _ _ (y9 (g8 (K:=K) rfl) (pv 1) z6 (fun _ _=>rfl)) (@q0 _ _ _ _ _ (y9 (g8 (K:=K) rfl) (pv 1) z6 (fun _ _=>rfl)) (@q0 _ _ _ _ _ (y9 (g8 (K:=K) rfl) (pv 1) z6 (fun _ _=>rfl)) x9 (by rfl)) (by rfl)) (by rfl)) (by rfl))) (by rfl) (.inl rfl))
  (@j9 _ _ _ _ _ (@u9 _ _ 3 _ _ _ _ sc_law.nd rfl (Or.inl rfl) (j8 Ay hr (by decide) rfl (@q0 _ _ _ _ _ (pv 0) (@q0 _ _ _ _ _ z6 x9 (by rfl)) (by rfl))) (by rfl) (.inl rfl))
  (@j9 _ _ _ _ _ (xT PassesOwn.never rfl (xS rfl Ac (@q0 _ _ _ _ _ z6 x9 (by rfl))) (p9 (i:=4) sc_law.nd rfl (Or.inl rfl))
   (@j9 _ _ _ _ _ (@u9 _ _ 5 _ _ _ _ sc_law.nd rfl (Or.inl rfl) (j8 E5 hr (by decide) rfl (@q0 _ _ _ _ _ (pv 3) (@q0 _ _ _ _ _ (pv 1) x9 (by rfl)) (by rfl))) (by rfl) (.inl rfl))
  (@j9 _ _ _ _ _ (@u9 _ _ 6 _ _ _ _ sc_law.nd rfl (Or.inl rfl) (j8 Ad hr (by decide) rfl (@q0 _ _ _ _ _ (pv 3) (@q0 _ _ _ _ _ z6 x9 (by rfl)) (by rfl))) (by rfl) (.inl rfl))
  (@j9 _ _ _ _ _ (i8 (ql (Vd) (pv 6) z6 (t0 _)) (@j5 _ _ _ (@u9 _ _ 5 _ _ _ _ sc_law.nd rfl (Or.inl rfl) (j8 D4 hr (by decide) rfl (@q0 _ _ _ _ _ (pv 1) (@q0 _ _ _ _ _ (pv 5) (@q0 _ _ _ _ _ (pv 6) x9 (by rfl)) (by rfl)) (by rfl))) (by rfl) (.inl rfl))) i9)
  (@j9 _ _ _ _ _ (i8 (PW.pt (QJ (ql (Vb) (n8 (xa (K:=K) rfl) rfl Ae PySem.boot_len (@q0 _ _ _ _ _ (pv 5) x9 (by rfl))) z6 (t0 _)) (QK (ql (zK (K:=K) (hu6 hr) rfl) (j8 Ad hr (by decide) rfl (@q0 _ _ _ _ _ (pv 3) (@q0 _ _ _ _ _ z6 x9 (by rfl)) (by rfl))) z6 (t0 _))))) (@j9 _ _ _ _ _ (@u9 _ _ 7 _ _ _ _ sc_law.nd rfl (Or.inl rfl) (j8 Ad hr (by decide) rfl (@q0 _ _ _ _ _ (pv 3) (@q0 _ _ _ _ _ (n8 (xa (K:=K) rfl) rfl Ae PySem.boot_len (@q0 _ _ _ _ _ (pv 5) x9 (by rfl))) x9 (by rfl)) (by rfl))) (by rfl) (.inl rfl))
  (@j9 _ _ _ _ _ (@u9 _ _ 8 _ _ _ _ sc_law.nd rfl (Or.inl rfl) (j8 Ad hr (by decide) rfl (@q0 _ _ _ _ _ (pv 3) (@q0 _ _ _ _ _ (n8 (xa (K:=K) rfl) rfl Ae PySem.boot_len (@q0 _ _ _ _ _ (pv 5) x9 (by rfl))) x9 (by rfl)) (by rfl))) (by rfl) (.inl rfl))
  (@j9 _ _ _ _ _ (@u9 _ _ 9 _ _ _ _ sc_law.nd rfl (Or.inl rfl) (y9 (g8 (K:=K) rfl) (pv 5) (pv 7) (fun _ _=>rfl)) (by rfl) (.inl rfl))
  (@j9 _ _ _ _ _ (Zd (y9 (g8 (K:=K) rfl) (pv 5) (pv 8) (fun _ _=>rfl)) (Qz (pv 5) (pv 7) QO))
  (@j5 _ _ _ (Zd (pv 9) (Qz (pv 5) (pv 8) QO))))))) i9)
  (@j9 _ _ _ _ _ (@u9 _ _ 10 _ _ _ _ sc_law.nd rfl (Or.inl rfl) (vm (Js (K:=K) rfl) rfl Al vO (@q0 _ _ _ _ _ (pv 5) x9 (by rfl))) (by rfl) (.inl rfl))
  (@j9 _ _ _ _ _ (@u9 _ _ 11 _ _ _ _ sc_law.nd rfl (Or.inl rfl) (@zL _ _ _ _ (@q0 _ _ _ _ _ (j8 D6 hr (by decide) rfl (@q0 _ _ _ _ _ (pv 2) (@q0 _ _ _ _ _ (pv 10) x9 (by rfl)) (by rfl))) (@q0 _ _ _ _ _ (j8 B8 hr (by decide) rfl (@q0 _ _ _ _ _ (pv 2) (@q0 _ _ _ _ _ (pv 10) x9 (by rfl)) (by rfl))) x9 (by rfl)) (by rfl))) (by rfl) (.inl rfl))
  (@j9 _ _ _ _ _ (@u9 _ _ 12 _ _ _ _ sc_law.nd rfl (Or.inl rfl) (@zL _ _ _ _ (@q0 _ _ _ _ _ (j8 B6 hr (by decide) rfl (@q0 _ _ _ _ _ (pv 1) (@q0 _ _ _ _ _ (pv 5) (@q0 _ _ _ _ _ z6 x9 (by rfl)) (by rfl)) (by rfl))) x9 (by rfl))) (by rfl) (.inl rfl))
  (@j9 _ _ _ _ _ (vp (wB (K:=K) rfl PySem.F.plainAttrs_list PySem.F.slot_list_append PySem.F.type_list_append UC (pv 12) (q0 (j8 B6 hr (by decide) rfl (@q0 _ _ _ _ _ (pv 1) (@q0 _ _ _ _ _ (pv 5) (@q0 _ _ _ _ _ z6 x9 (by rfl)) (by rfl)) (by rfl))) x9)))
  (@j9 _ _ _ _ _ (i8 (PW.pt (wG (xA (xf (K:=K) rfl (n8 (wV (K:=K) rfl rfl) rfl Ax wU (@q0 _ _ _ _ _ (qD (N':=["one"]) (cap:=[none]) (o5 rfl rfl rfl) rfl (@qH _ K _ _ _ rfl (pv 11)) (fun _ _ _ _ _ _=>(p9 (i:=0) (by show (["one"]:List Str).Nodup;decide +kernel) rfl (Or.inl rfl))) (fun _ _ _ _ _ _=>qh) (fun _ _ _ _ _ _=>(n8 (jt (K:=K) rfl) rfl Ab js (@q0 _ _ _ _ _ (pv 0) (@q0 _ _ _ _ _ (jC (v:= .ty "bool") rfl Ef Yi rfl) x9 (by rfl)) (by rfl))))) x9 (by rfl))) (fun _=>rfl))) (QL (ql (XU (K:=K) (hu6 hr) rfl) (pv 11) (pv 12) (t0 _))))) (@j5 _ _ _ (w6 za)) i9)
  (@j5 _ _ _ (i8 (ql (XU (K:=K) (hu6 hr) rfl) (pv 10) (pv 5) (t0 _)) (@j5 _ _ _ (w6 za)) i9))))))))))))
  (@j5 _ _ _ (w6 (vk (zq (UK) (j8 D6 hr (by decide) rfl (@q0 _ _ _ _ _ (pv 2) (@q0 _ _ _ _ _ (@zL _ _ _ _ x9) x9 (by rfl)) (by rfl))) za (t0 _)) (wC (zq (UK) (j8 B8 hr (by decide) rfl (@q0 _ _ _ _ _ (pv 2) (@q0 _ _ _ _ _ (@zL _ _ _ _ x9) x9 (by rfl)) (by rfl))) za (t0 _)))))))))),
  (by repeat' first | infer_instance | (refine @Mi.instSemWSTSeqWSeq _ _ _ _ ?_ ?_) | (apply @Mi.instSemWSTForWForOfSemWIOfSemWG))⟩) Pz
theorem Bg {K:Fg}{fd:FuncData}{ps:List Str}{T:Addr}{ob:Obj}{items:Array Value}{n:Nat}(hd:fd.defaults = .ref T)(q:K.lookup T=some ob)(hs:ob.data = .seq items n)
  (h:∀ us:List Value,us.length=ps.length->∃ k:Option (Array Value)->Sem (List (Str × Value)),bindArgs fd ⟨us,[]⟩=seqItems? fd.defaults >>= k/\k (some items)=pure (ps.zip us)):Binds K fd ps []:=fun s us X hl=>by
 rw [List.append_nil] at hl ⊢
 obtain ⟨k,e1,e2⟩:=h us hl
 exact BindsTo.of_defaults hd (X _ _ q) hs e1 e2
abbrev so (f:Addr):Option (Option Value):=some (some (.ref f))
abbrev fO (oc:Value)(od:Option Addr)(x q:Str)(st:Stmt)(dV kV dc pm:Value)(an:Option Addr)(cd ct:Value)(sl:Array (Option Value)):Option Obj:=some ⟨oc,od,.func (PySem.W.fnOf x q (xX st) (qi st) (z9 st) dV kV dc pm an cd ct),sl⟩
theorem m7 (P:Program)(w:World)(base:Heap){K:Fg}{mg:Str->Option Value}{k:Nat}{f:Addr}{fd:FuncData}{ps:List Str}{sp:Sp}{x:Str}(h:FnOk P w K mg base v5 k f fd ps sp)(a:mg x=some (.ref f))(kp:PySem.W.keepIn K (.ref f)=true)(b:Binds K fd ps []):Fn P w K mg base k x ps sp:=⟨f,fd,h,a,kp,b⟩
theorem bi1 {K:Fg}{x qual:Str}{st:Stmt}{f:Addr}{fd:FuncData}{p:Str}(F:Fun K x qual st f fd)(h:∀ (kV doc pm:Value) (an:Option Addr) (cdv ct u:Value),bindArgs (PySem.W.fnOf x qual (xX st) (qi st) (z9 st) .none kV doc pm an cdv ct) ⟨[u],[]⟩=pure [(p,u)]):Binds K fd [p] []:=F.binds fun a b c d e g us hl=>match us,hl with | [_],_=>h a b c d e g _
theorem qr {K:Fg}{x qual:Str}{st:Stmt}{f:Addr}{fd:FuncData}{p q:Str}(F:Fun K x qual st f fd)(h:∀ (kV doc pm:Value) (an:Option Addr) (cdv ct u v:Value),bindArgs (PySem.W.fnOf x qual (xX st) (qi st) (z9 st) .none kV doc pm an cdv ct) ⟨[u,v],[]⟩=pure [(p,u),(q,v)]):Binds K fd [p,q] []:=F.binds fun a b c d e g us hl=>match us,hl with | [_,_],_=>h a b c d e g _ _
theorem all_mk {l:PySem.W.OpenLaw}{w:World}{K:Fg}{h:Heap}{mg:Str->Option Value}{fa f0 f1 f2 f3 f4 f5 f6 f7 f8 f9 f10 f11 f12 f13 f14 f15 f16 f17 f18 f19 f20 f21 f22 f23 f24 f25 f26 f27 f28 f29 f30 f31 f32 f33 f34 f35 f36 f37 f38 f39 f40 f41 f42 f43 f44 f45 f46 f47 f48 f49:Addr}{od0 od1 od2 od3 od4 od5 od6 od7 od8 od9 od10 od11 od12 od13 od14 od15 od16 od17 od18 od19 od20 od21 od22 od23 od24 od25 od26 od27 od28 od29 od30 od31 od32 od33 od34 od35 od36 od37 od38 od39 od40 od41 od42 od43 od44 od45 od46 od47 od48 od49 an0 an1 an2 an3 an4 an5 an6 an7 an8 an9 an10 an11 an12 an13 an14 an15 an16 an17 an18 an19 an20 an21 an22 an23 an24 an25 an26 an27 an28 an29 an30 an31 an32 an33 an34 an35 an36 an37 an38 an39 an40 an41 an42 an43 an44 an45 an46 an47 an48 an49:Option Addr}{sl0 sl1 sl2 sl3 sl4 sl5 sl6 sl7 sl8 sl9 sl10 sl11 sl12 sl13 sl14 sl15 sl16 sl17 sl18 sl19 sl20 sl21 sl22 sl23 sl24 sl25 sl26 sl27 sl28 sl29 sl30 sl31 sl32 sl33 sl34 sl35 sl36 sl37 sl38 sl39 sl40 sl41 sl42 sl43 sl44 sl45 sl46 sl47 sl48 sl49:Array (Option Value)}{oc0 oc1 oc2 oc3 oc4 oc5 oc6 oc7 oc8 oc9 oc10 oc11 oc12 oc13 oc14 oc15 oc16 oc17 oc18 oc19 oc20 oc21 oc22 oc23 oc24 oc25 oc26 oc27 oc28 oc29 oc30 oc31 oc32 oc33 oc34 oc35 oc36 oc37 oc38 oc39 oc40 oc41 oc42 oc43 oc44 oc45 oc46 oc47 oc48 oc49 kV0 kV1 kV2 kV3 kV4 kV5 kV6 kV7 kV8 kV9 kV10 kV11 kV12 kV13 kV14 kV15 kV16 kV17 kV18 kV19 kV20 kV21 kV22 kV23 kV24 kV25 kV26 kV27 kV28 kV29 kV30 kV31 kV32 kV33 kV34 kV35 kV36 kV37 kV38 kV39 kV40 kV41 kV42 kV43 kV44 kV45 kV46 kV47 kV48 kV49 dc0 dc1 dc2 dc3 dc4 dc5 dc6 dc7 dc8 dc9 dc10 dc11 dc12 dc13 dc14 dc15 dc16 dc17 dc18 dc19 dc20 dc21 dc22 dc23 dc24 dc25 dc26 dc27 dc28 dc29 dc30 dc31 dc32 dc33 dc34 dc35 dc36 dc37 dc38 dc39 dc40 dc41 dc42 dc43 dc44 dc45 dc46 dc47 dc48 dc49 pm0 pm1 pm2 pm3 pm4 pm5 pm6 pm7 pm8 pm9 pm10 pm11 pm12 pm13 pm14 pm15 pm16 pm17 pm18 pm19 pm20 pm21 pm22 pm23 pm24 pm25 pm26 pm27 pm28 pm29 pm30 pm31 pm32 pm33 pm34 pm35 pm36 pm37 pm38 pm39 pm40 pm41 pm42 pm43 pm44 pm45 pm46 pm47 pm48 pm49 ct0 ct1 ct2 ct3 ct4 ct5 ct6 ct7 ct8 ct9 ct10 ct11 ct12 ct13 ct14 ct15 ct16 ct17 ct18 ct19 ct20 ct21 ct22 ct23 ct24 ct25 ct26 ct27 ct28 ct29 ct30 ct31 ct32 ct33 ct34 ct35 ct36 ct37 ct38 ct39 ct40 ct41 ct42 ct43 ct44 ct45 ct46 ct47 ct48 ct49 cd0 cd1 cd2 cd3 cd4 cd5 cd6 cd7 cd8 cd9 cd10 cd11 cd12 cd13 cd14 cd15 cd16 cd17 cd18 cd19 cd20 cd21 cd22 cd23 cd24 cd25 cd26 cd27 cd28 cd29 cd30 cd31 cd34 cd35 cd36 cd37 cd38 cd39 cd40 cd41 cd42 cd43 cd44 cd45 cd46 cd47 cd48 cd49:Value}{cc32 cc33:Addr}{Aa:Addr}{T45:Addr}{qc45 qv45_0 qv45_1:Value}{qd45:Option Addr}{qn45:Nat}{qs45:Array (Option Value)}{Az A9 D3 Ep:Tok}(X:K.In h)(TT:∀ P ∈ [200,193],h.get? P=some (PySem.W.tabObj #[]))(hTB:TABS=[(193,#[],[((⟨54,30,54,75⟩:Pos),("by_dues.<locals>.<lambda>":Str))]),(200,#[],[((⟨59,30,59,109⟩:Pos),("by_steepness.<locals>.<lambda>":Str))])]) (G:h.Ns mainGlobals mg) (hfa:mg "law"=some (.ref fa))
  (Ip:W.nsIn K mainGlobals "Works"=some (some (.ref Aa)))
  (E7:PySem.W.plainGet K Aa Str.empty=true) (Ic:PySem.W.hasDictIn K Aa=true) (Id:PySem.W.plainOver K Aa=true) (Ia:W.findIn K (.ref Aa) "__setattr__"=some (some (.builtin "object.__setattr__"))) (E9:PySem.W.makesIn K Aa=true) (Ig:W.keepIn K (.ref Aa)=true)
  (El:W.findIn K (.ref Aa) "given"=some none)
  (Ev:W.findIn K (.ref Aa) "held"=some none)
  (Et:W.findIn K (.ref Aa) "last"=some none)
  (Ek:W.findIn K (.ref Aa) "least"=some none)
  (Ez:W.findIn K (.ref Aa) "time"=some none)
  (a0:W.nsIn K mainGlobals "_law_mixed"=so f0) (l0:K.lookup f0=fO oc0 od0 "_law_mixed" "_law_mixed" ZM .none kV0 dc0 pm0 an0 cd0 ct0 sl0) (c0:W.codeIn K cd0 "_law_mixed"=true) (k0:W.keepIn K (.ref f0)=true)
  (a1:W.nsIn K mainGlobals "_law_digit"=so f1) (l1:K.lookup f1=fO oc1 od1 "_law_digit" "_law_digit" Zv .none kV1 dc1 pm1 an1 cd1 ct1 sl1) (c1:W.codeIn K cd1 "_law_digit"=true) (k1:W.keepIn K (.ref f1)=true)
  (a2:W.nsIn K mainGlobals "_law_stream"=so f2) (l2:K.lookup f2=fO oc2 od2 "_law_stream" "_law_stream" QN .none kV2 dc2 pm2 an2 cd2 ct2 sl2) (c2:W.codeIn K cd2 "_law_stream"=true) (k2:W.keepIn K (.ref f2)=true)
  (a3:W.nsIn K mainGlobals "_law_number"=so f3) (l3:K.lookup f3=fO oc3 od3 "_law_number" "_law_number" ZQ .none kV3 dc3 pm3 an3 cd3 ct3 sl3) (c3:W.codeIn K cd3 "_law_number"=true) (k3:W.keepIn K (.ref f3)=true)
  (a4:W.nsIn K mainGlobals "_law_rinses"=so f4) (l4:K.lookup f4=fO oc4 od4 "_law_rinses" "_law_rinses" ZT .none kV4 dc4 pm4 an4 cd4 ct4 sl4) (c4:W.codeIn K cd4 "_law_rinses"=true) (k4:W.keepIn K (.ref f4)=true)
  (a5:W.nsIn K mainGlobals "_law_names"=so f5) (l5:K.lookup f5=fO oc5 od5 "_law_names" "_law_names" ZO .none kV5 dc5 pm5 an5 cd5 ct5 sl5) (c5:W.codeIn K cd5 "_law_names"=true) (k5:W.keepIn K (.ref f5)=true)
  (a6:W.nsIn K mainGlobals "_law_cloth"=so f6) (l6:K.lookup f6=fO oc6 od6 "_law_cloth" "_law_cloth" Zu .none kV6 dc6 pm6 an6 cd6 ct6 sl6) (c6:W.codeIn K cd6 "_law_cloth"=true) (k6:W.keepIn K (.ref f6)=true)
  (a7:W.nsIn K mainGlobals "_law_parts"=so f7) (l7:K.lookup f7=fO oc7 od7 "_law_parts" "_law_parts" ZR .none kV7 dc7 pm7 an7 cd7 ct7 sl7) (c7:W.codeIn K cd7 "_law_parts"=true) (k7:W.keepIn K (.ref f7)=true)
  (a8:W.nsIn K mainGlobals "_law_some"=so f8) (l8:K.lookup f8=fO oc8 od8 "_law_some" "_law_some" ZU .none kV8 dc8 pm8 an8 cd8 ct8 sl8) (c8:W.codeIn K cd8 "_law_some"=true) (k8:W.keepIn K (.ref f8)=true)
  (a9:W.nsIn K mainGlobals "is_whole"=so f9) (l9:K.lookup f9=fO oc9 od9 "is_whole" "is_whole" ZG .none kV9 dc9 pm9 an9 cd9 ct9 sl9) (c9:W.codeIn K cd9 "is_whole"=true) (k9:W.keepIn K (.ref f9)=true)
  (a10:W.nsIn K mainGlobals "name_of"=so f10) (l10:K.lookup f10=fO oc10 od10 "name_of" "name_of" ZN .none kV10 dc10 pm10 an10 cd10 ct10 sl10) (c10:W.codeIn K cd10 "name_of"=true) (k10:W.keepIn K (.ref f10)=true)
  (a11:W.nsIn K mainGlobals "hue_of"=so f11) (l11:K.lookup f11=fO oc11 od11 "hue_of" "hue_of" Zy .none kV11 dc11 pm11 an11 cd11 ct11 sl11) (c11:W.codeIn K cd11 "hue_of"=true) (k11:W.keepIn K (.ref f11)=true)
  (a12:W.nsIn K mainGlobals "length_of"=so f12) (l12:K.lookup f12=fO oc12 od12 "length_of" "length_of" ZK .none kV12 dc12 pm12 an12 cd12 ct12 sl12) (c12:W.codeIn K cd12 "length_of"=true) (k12:W.keepIn K (.ref f12)=true)
  (a13:W.nsIn K mainGlobals "due_of"=so f13) (l13:K.lookup f13=fO oc13 od13 "due_of" "due_of" Zw .none kV13 dc13 pm13 an13 cd13 ct13 sl13) (c13:W.codeIn K cd13 "due_of"=true) (k13:W.keepIn K (.ref f13)=true)
  (a14:W.nsIn K mainGlobals "weight_of"=so f14) (l14:K.lookup f14=fO oc14 od14 "weight_of" "weight_of" Jb .none kV14 dc14 pm14 an14 cd14 ct14 sl14) (c14:W.codeIn K cd14 "weight_of"=true) (k14:W.keepIn K (.ref f14)=true)
  (a15:W.nsIn K mainGlobals "is_from"=so f15) (l15:K.lookup f15=fO oc15 od15 "is_from" "is_from" ZD .none kV15 dc15 pm15 an15 cd15 ct15 sl15) (c15:W.codeIn K cd15 "is_from"=true) (k15:W.keepIn K (.ref f15)=true)
  (a16:W.nsIn K mainGlobals "is_name"=so f16) (l16:K.lookup f16=fO oc16 od16 "is_name" "is_name" ZE .none kV16 dc16 pm16 an16 cd16 ct16 sl16) (c16:W.codeIn K cd16 "is_name"=true) (k16:W.keepIn K (.ref f16)=true)
  (a17:W.nsIn K mainGlobals "is_cloth"=so f17) (l17:K.lookup f17=fO oc17 od17 "is_cloth" "is_cloth" ZC .none kV17 dc17 pm17 an17 cd17 ct17 sl17) (c17:W.codeIn K cd17 "is_cloth"=true) (k17:W.keepIn K (.ref f17)=true)
  (a18:W.nsIn K mainGlobals "is_rinse_row"=so f18) (l18:K.lookup f18=fO oc18 od18 "is_rinse_row" "is_rinse_row" ZF .none kV18 dc18 pm18 an18 cd18 ct18 sl18) (c18:W.codeIn K cd18 "is_rinse_row"=true) (k18:W.keepIn K (.ref f18)=true)
  (a19:W.nsIn K mainGlobals "check_rinses"=so f19) (l19:K.lookup f19=fO oc19 od19 "check_rinses" "check_rinses" Zs .none kV19 dc19 pm19 an19 cd19 ct19 sl19) (c19:W.codeIn K cd19 "check_rinses"=true) (k19:W.keepIn K (.ref f19)=true)
  (a20:W.nsIn K mainGlobals "straight_ways"=so f20) (l20:K.lookup f20=fO oc20 od20 "straight_ways" "straight_ways" ZW .none kV20 dc20 pm20 an20 cd20 ct20 sl20) (c20:W.codeIn K cd20 "straight_ways"=true) (k20:W.keepIn K (.ref f20)=true)
  (a21:W.nsIn K mainGlobals "joined"=so f21) (l21:K.lookup f21=fO oc21 od21 "joined" "joined" ZH .none kV21 dc21 pm21 an21 cd21 ct21 sl21) (c21:W.codeIn K cd21 "joined"=true) (k21:W.keepIn K (.ref f21)=true)
  (a22:W.nsIn K mainGlobals "lesser"=so f22) (l22:K.lookup f22=fO oc22 od22 "lesser" "lesser" ZL .none kV22 dc22 pm22 an22 cd22 ct22 sl22) (c22:W.codeIn K cd22 "lesser"=true) (k22:W.keepIn K (.ref f22)=true)
  (a23:W.nsIn K mainGlobals "ways_through"=so f23) (l23:K.lookup f23=fO oc23 od23 "ways_through" "ways_through" Ja .none kV23 dc23 pm23 an23 cd23 ct23 sl23) (c23:W.codeIn K cd23 "ways_through"=true) (k23:W.keepIn K (.ref f23)=true)
  (a24:W.nsIn K mainGlobals "least_ways"=so f24) (l24:K.lookup f24=fO oc24 od24 "least_ways" "least_ways" ZJ .none kV24 dc24 pm24 an24 cd24 ct24 sl24) (c24:W.codeIn K cd24 "least_ways"=true) (k24:W.keepIn K (.ref f24)=true)
  (a25:W.nsIn K mainGlobals "sums_of"=so f25) (l25:K.lookup f25=fO oc25 od25 "sums_of" "sums_of" ZX .none kV25 dc25 pm25 an25 cd25 ct25 sl25) (c25:W.codeIn K cd25 "sums_of"=true) (k25:W.keepIn K (.ref f25)=true)
  (a26:W.nsIn K mainGlobals "least_rinses"=so f26) (l26:K.lookup f26=fO oc26 od26 "least_rinses" "least_rinses" ZI .none kV26 dc26 pm26 an26 cd26 ct26 sl26) (c26:W.codeIn K cd26 "least_rinses"=true) (k26:W.keepIn K (.ref f26)=true)
  (a27:W.nsIn K mainGlobals "check_start"=so f27) (l27:K.lookup f27=fO oc27 od27 "check_start" "check_start" Zt .none kV27 dc27 pm27 an27 cd27 ct27 sl27) (c27:W.codeIn K cd27 "check_start"=true) (k27:W.keepIn K (.ref f27)=true)
  (a28:W.nsIn K mainGlobals "check_cloths"=so f28) (l28:K.lookup f28=fO oc28 od28 "check_cloths" "check_cloths" Zq .none kV28 dc28 pm28 an28 cd28 ct28 sl28) (c28:W.codeIn K cd28 "check_cloths"=true) (k28:W.keepIn K (.ref f28)=true)
  (a29:W.findIn K (.ref Aa) "hues"=so f29) (i29:W.isFn K (.ref f29)=true) (l29:K.lookup f29=fO oc29 od29 "hues" "Works.hues" Zj .none kV29 dc29 pm29 an29 cd29 ct29 sl29) (c29:W.codeIn K cd29 "Works.hues"=true) (k29:W.keepIn K (.ref f29)=true)
  (a30:W.findIn K (.ref Aa) "names"=so f30) (i30:W.isFn K (.ref f30)=true) (l30:K.lookup f30=fO oc30 od30 "names" "Works.names" Zk .none kV30 dc30 pm30 an30 cd30 ct30 sl30) (c30:W.codeIn K cd30 "Works.names"=true) (k30:W.keepIn K (.ref f30)=true)
  (a31:W.nsIn K mainGlobals "names_of"=so f31) (l31:K.lookup f31=fO oc31 od31 "names_of" "names_of" ZP .none kV31 dc31 pm31 an31 cd31 ct31 sl31) (c31:W.codeIn K cd31 "names_of"=true) (k31:W.keepIn K (.ref f31)=true)
  (a32:W.nsIn K mainGlobals "by_dues"=so f32) (l32:K.lookup f32=fO oc32 od32 "by_dues" "by_dues" Zo .none kV32 dc32 pm32 an32 (.ref cc32) ct32 sl32) (c32:W.codeIn K (.ref cc32) "by_dues"=true) (k32:W.keepIn K (.ref f32)=true)
  (a33:W.nsIn K mainGlobals "by_steepness"=so f33) (l33:K.lookup f33=fO oc33 od33 "by_steepness" "by_steepness" Zp .none kV33 dc33 pm33 an33 (.ref cc33) ct33 sl33) (c33:W.codeIn K (.ref cc33) "by_steepness"=true) (k33:W.keepIn K (.ref f33)=true)
  (a34:W.findIn K (.ref Aa) "cloths_in"=so f34) (i34:W.isFn K (.ref f34)=true) (l34:K.lookup f34=fO oc34 od34 "cloths_in" "Works.cloths_in" Zh .none kV34 dc34 pm34 an34 cd34 ct34 sl34) (c34:W.codeIn K cd34 "Works.cloths_in"=true) (k34:W.keepIn K (.ref f34)=true)
  (a35:W.findIn K (.ref Aa) "due_row"=so f35) (i35:W.isFn K (.ref f35)=true) (l35:K.lookup f35=fO oc35 od35 "due_row" "Works.due_row" Zi .none kV35 dc35 pm35 an35 cd35 ct35 sl35) (c35:W.codeIn K cd35 "Works.due_row"=true) (k35:W.keepIn K (.ref f35)=true)
  (a36:W.findIn K (.ref Aa) "steep_row"=so f36) (i36:W.isFn K (.ref f36)=true) (l36:K.lookup f36=fO oc36 od36 "steep_row" "Works.steep_row" Zl .none kV36 dc36 pm36 an36 cd36 ct36 sl36) (c36:W.codeIn K cd36 "Works.steep_row"=true) (k36:W.keepIn K (.ref f36)=true)
  (a37:W.nsIn K mainGlobals "are_names"=so f37) (l37:K.lookup f37=fO oc37 od37 "are_names" "are_names" Zn .none kV37 dc37 pm37 an37 cd37 ct37 sl37) (c37:W.codeIn K cd37 "are_names"=true) (k37:W.keepIn K (.ref f37)=true)
  (a38:W.nsIn K mainGlobals "check_names"=so f38) (l38:K.lookup f38=fO oc38 od38 "check_names" "check_names" Zr .none kV38 dc38 pm38 an38 cd38 ct38 sl38) (c38:W.codeIn K cd38 "check_names"=true) (k38:W.keepIn K (.ref f38)=true)
  (a39:W.nsIn K mainGlobals "due_rows"=so f39) (l39:K.lookup f39=fO oc39 od39 "due_rows" "due_rows" Zx .none kV39 dc39 pm39 an39 cd39 ct39 sl39) (c39:W.codeIn K cd39 "due_rows"=true) (k39:W.keepIn K (.ref f39)=true)
  (a40:W.nsIn K mainGlobals "steep_rows"=so f40) (l40:K.lookup f40=fO oc40 od40 "steep_rows" "steep_rows" ZV .none kV40 dc40 pm40 an40 cd40 ct40 sl40) (c40:W.codeIn K cd40 "steep_rows"=true) (k40:W.keepIn K (.ref f40)=true)
  (a41:W.nsIn K mainGlobals "turned_in"=so f41) (l41:K.lookup f41=fO oc41 od41 "turned_in" "turned_in" ZY .none kV41 dc41 pm41 an41 cd41 ct41 sl41) (c41:W.codeIn K cd41 "turned_in"=true) (k41:W.keepIn K (.ref f41)=true)
  (a42:W.nsIn K mainGlobals "turned_pair"=so f42) (l42:K.lookup f42=fO oc42 od42 "turned_pair" "turned_pair" ZZ .none kV42 dc42 pm42 an42 cd42 ct42 sl42) (c42:W.codeIn K cd42 "turned_pair"=true) (k42:W.keepIn K (.ref f42)=true)
  (a43:W.nsIn K mainGlobals "in_dues"=so f43) (l43:K.lookup f43=fO oc43 od43 "in_dues" "in_dues" Zz .none kV43 dc43 pm43 an43 cd43 ct43 sl43) (c43:W.codeIn K cd43 "in_dues"=true) (k43:W.keepIn K (.ref f43)=true)
  (a44:W.nsIn K mainGlobals "in_steep"=so f44) (l44:K.lookup f44=fO oc44 od44 "in_steep" "in_steep" ZB .none kV44 dc44 pm44 an44 cd44 ct44 sl44) (c44:W.codeIn K cd44 "in_steep"=true) (k44:W.keepIn K (.ref f44)=true)
  (a45:W.findIn K (.ref Aa) "__init__"=so f45) (i45:W.isFn K (.ref f45)=true) (l45:K.lookup f45=fO oc45 od45 "__init__" "Works.__init__" vz (.ref T45) kV45 dc45 pm45 an45 cd45 ct45 sl45) (c45:W.codeIn K cd45 "Works.__init__"=true) (k45:W.keepIn K (.ref f45)=true)
  (q45:K.lookup T45=some ⟨qc45,qd45,.seq #[qv45_0,qv45_1] qn45,qs45⟩)
  (a46:W.nsIn K mainGlobals "_law_ahead"=so f46) (l46:K.lookup f46=fO oc46 od46 "_law_ahead" "_law_ahead" Zm .none kV46 dc46 pm46 an46 cd46 ct46 sl46) (c46:W.codeIn K cd46 "_law_ahead"=true) (k46:W.keepIn K (.ref f46)=true)
  (a47:W.nsIn K mainGlobals "_law_in_order"=so f47) (l47:K.lookup f47=fO oc47 od47 "_law_in_order" "_law_in_order" ZA .none kV47 dc47 pm47 an47 cd47 ct47 sl47) (c47:W.codeIn K cd47 "_law_in_order"=true) (k47:W.keepIn K (.ref f47)=true)
  (a48:W.nsIn K mainGlobals "_law_put_right"=so f48) (l48:K.lookup f48=fO oc48 od48 "_law_put_right" "_law_put_right" ZS .none kV48 dc48 pm48 an48 cd48 ct48 sl48) (c48:W.codeIn K cd48 "_law_put_right"=true) (k48:W.keepIn K (.ref f48)=true)
  (a49:W.nsIn K mainGlobals "law"=so f49) (l49:K.lookup f49=fO oc49 od49 "law" "law" vA .none kV49 dc49 pm49 an49 cd49 ct49 sl49) (c49:W.codeIn K cd49 "law"=true) (k49:W.keepIn K (.ref f49)=true)
  (J0:W.nsIn K mainGlobals "all"=some none)
  (Iv:W.nsIn K mainGlobals "bool"=some none)
  (Iu:W.nsIn K mainGlobals "dict"=some none)
  (E2:W.nsIn K mainGlobals "enumerate"=some none)
  (Iy:W.nsIn K mainGlobals "int"=some none)
  (Er:W.nsIn K mainGlobals "isinstance"=some none)
  (Ix:W.nsIn K mainGlobals "len"=some none)
  (Ir:W.nsIn K mainGlobals "list"=some none)
  (Im:W.nsIn K mainGlobals "range"=some none)
  (Iw:W.nsIn K mainGlobals "set"=some none)
  (E6:W.nsIn K mainGlobals "sorted"=some none)
  (J1:W.nsIn K mainGlobals "str"=some none)
  (Iz:W.nsIn K mainGlobals "sum"=some none)
  (Iq:W.nsIn K mainGlobals "tuple"=some none)
  (J2:W.nsIn K mainGlobals "zip"=some none)
  (Ei:W.nsIn K mainGlobals "LONGEST_NAME"=some (some (.int 8 Az)))
  (Em:W.nsIn K mainGlobals "MOST_CLOTHS"=some (some (.int 10 A9)))
  (E3:W.nsIn K mainGlobals "MOST_HUES"=some (some (.int 4 D3)))
  (Io:W.nsIn K mainGlobals "PARTS"=some (some (.int 5 Ep)))
  (hC32:PySem.W.codeHdIn K cc32 193=true) (o32:K.lookup 193=none)
  (hC33:PySem.W.codeHdIn K cc33 200=true) (o33:K.lookup 200=none)
  : ∃ fd:FuncData,(∀ (s:Shared) (v:Value),BindsTo s fd ⟨[v],[]⟩ [("script",v)])/\vM K h/\∀ base:Heap,K.In base->base.Ns mainGlobals mg->FnOk l.prog w K mg base v5 10 fa fd ["script"] (QS K):=by
 have e:=hfa.symm.trans (W.mg_of X G a49)
 cases e
 have Ax:=W.mg_none_of X G J0
 have Ef:=W.mg_none_of X G Iv
 have B7:=W.mg_none_of X G Iu
 have Ao:=W.mg_none_of X G E2
 have Ie:=W.mg_none_of X G Iy
 have Ab:=W.mg_none_of X G Er
 have Ae:=W.mg_none_of X G Ix
 have Al:=W.mg_none_of X G Ir
 have Ac:=W.mg_none_of X G Im
 have Ib:=W.mg_none_of X G Iw
 have As:=W.mg_none_of X G E6
 have Ii:=W.mg_none_of X G J1
 have E4:=W.mg_none_of X G Iz
 have Es:=W.mg_none_of X G Iq
 have En:=W.mg_none_of X G J2
 have A7:=W.mg_of X G Ei
 have B4:=W.mg_of X G Em
 have D5:=W.mg_of X G E3
 have Ex:=W.mg_of X G Io
 have Eu:=W.mg_of X G Ip
 have Ea:jp K Aa:=⟨⟨E7,Ic,Id,Ia⟩⟩
 have Ih:NoA K Aa "given":=⟨El⟩
 have Il:NoA K Aa "held":=⟨Ev⟩
 have Ik:NoA K Aa "last":=⟨Et⟩
 have E8:NoA K Aa "least":=⟨Ek⟩
 have Ij:NoA K Aa "time":=⟨Ez⟩
 have F0:=u8 (st:=ZM) l0 c0 k0
 have F1:=u8 (st:=Zv) l1 c1 k1
 have F2:=u8 (st:=QN) l2 c2 k2
 have F3:=u8 (st:=ZQ) l3 c3 k3
 have F4:=u8 (st:=ZT) l4 c4 k4
 have F5:=u8 (st:=ZO) l5 c5 k5
 have F6:=u8 (st:=Zu) l6 c6 k6
 have F7:=u8 (st:=ZR) l7 c7 k7
 have F8:=u8 (st:=ZU) l8 c8 k8
 have F9:=u8 (st:=ZG) l9 c9 k9
 have F10:=u8 (st:=ZN) l10 c10 k10
 have F11:=u8 (st:=Zy) l11 c11 k11
 have F12:=u8 (st:=ZK) l12 c12 k12
 have F13:=u8 (st:=Zw) l13 c13 k13
 have F14:=u8 (st:=Jb) l14 c14 k14
 have F15:=u8 (st:=ZD) l15 c15 k15
 have F16:=u8 (st:=ZE) l16 c16 k16
 have F17:=u8 (st:=ZC) l17 c17 k17
 have F18:=u8 (st:=ZF) l18 c18 k18
 have F19:=u8 (st:=Zs) l19 c19 k19
 have F20:=u8 (st:=ZW) l20 c20 k20
 have F21:=u8 (st:=ZH) l21 c21 k21
 have F22:=u8 (st:=ZL) l22 c22 k22
 have F23:=u8 (st:=Ja) l23 c23 k23
 have F24:=u8 (st:=ZJ) l24 c24 k24
 have F25:=u8 (st:=ZX) l25 c25 k25
 have F26:=u8 (st:=ZI) l26 c26 k26
 have F27:=u8 (st:=Zt) l27 c27 k27
 have F28:=u8 (st:=Zq) l28 c28 k28
 have F29:=u8 (st:=Zj) l29 c29 k29
 have F30:=u8 (st:=Zk) l30 c30 k30
 have F31:=u8 (st:=ZP) l31 c31 k31
 have F32:=u8 (st:=Zo) l32 c32 k32
 have F33:=u8 (st:=Zp) l33 c33 k33
 have F34:=u8 (st:=Zh) l34 c34 k34
 have F35:=u8 (st:=Zi) l35 c35 k35
 have F36:=u8 (st:=Zl) l36 c36 k36
 have F37:=u8 (st:=Zn) l37 c37 k37
 have F38:=u8 (st:=Zr) l38 c38 k38
 have F39:=u8 (st:=Zx) l39 c39 k39
 have F40:=u8 (st:=ZV) l40 c40 k40
 have F41:=u8 (st:=ZY) l41 c41 k41
 have F42:=u8 (st:=ZZ) l42 c42 k42
 have F43:=u8 (st:=Zz) l43 c43 k43
 have F44:=u8 (st:=ZB) l44 c44 k44
 have F45:=Ph (st:=vz) l45 c45 k45
 have F46:=u8 (st:=Zm) l46 c46 k46
 have F47:=u8 (st:=ZA) l47 c47 k47
 have F48:=u8 (st:=ZS) l48 c48 k48
 have F49:=u8 (st:=vA) l49 c49 k49
 have b0:=qr (p := "cell") (q := "k") F0 fun _ _ _ _ _ _ _ _=>rfl
 have b1:=qr (p := "row") (q := "many") F1 fun _ _ _ _ _ _ _ _=>rfl
 have b2:=qr (p := "script") (q := "k") F2 fun _ _ _ _ _ _ _ _=>rfl
 have b3:=qr (p := "row") (q := "great") F3 fun _ _ _ _ _ _ _ _=>rfl
 have b4:=F4.binds (ps:=["row", "hues", "great"]) fun _ _ _ _ _ _ us hl=>match us,hl with | [_,_,_],_=>rfl
 have b5:=qr (p := "row") (q := "many") F5 fun _ _ _ _ _ _ _ _=>rfl
 have b6:=F6.binds (ps:=["row", "name", "hues", "great"]) fun _ _ _ _ _ _ us hl=>match us,hl with | [_,_,_,_],_=>rfl
 have b7:=qr (p := "script") (q := "most") F7 fun _ _ _ _ _ _ _ _=>rfl
 have b8:=qr (p := "row") (q := "parts") F8 fun _ _ _ _ _ _ _ _=>rfl
 have b9:=bi1 (p := "thing") F9 fun _ _ _ _ _ _ _=>rfl
 have b10:=bi1 (p := "cloth") F10 fun _ _ _ _ _ _ _=>rfl
 have b11:=bi1 (p := "cloth") F11 fun _ _ _ _ _ _ _=>rfl
 have b12:=bi1 (p := "cloth") F12 fun _ _ _ _ _ _ _=>rfl
 have b13:=bi1 (p := "cloth") F13 fun _ _ _ _ _ _ _=>rfl
 have b14:=bi1 (p := "cloth") F14 fun _ _ _ _ _ _ _=>rfl
 have b15:=qr (p := "thing") (q := "least") F15 fun _ _ _ _ _ _ _ _=>rfl
 have b16:=bi1 (p := "thing") F16 fun _ _ _ _ _ _ _=>rfl
 have b17:=qr (p := "thing") (q := "hues") F17 fun _ _ _ _ _ _ _ _=>rfl
 have b18:=qr (p := "row") (q := "hues") F18 fun _ _ _ _ _ _ _ _=>rfl
 have b19:=bi1 (p := "rinses") F19 fun _ _ _ _ _ _ _=>rfl
 have b20:=bi1 (p := "row") F20 fun _ _ _ _ _ _ _=>rfl
 have b21:=qr (p := "way") (q := "onward") F21 fun _ _ _ _ _ _ _ _=>rfl
 have b22:=qr (p := "way") (q := "other") F22 fun _ _ _ _ _ _ _ _=>rfl
 have b23:=F23.binds (ps:=["ways", "hue", "onward"]) fun _ _ _ _ _ _ us hl=>match us,hl with | [_,_,_],_=>rfl
 have b24:=bi1 (p := "rinses") F24 fun _ _ _ _ _ _ _=>rfl
 have b25:=bi1 (p := "ways") F25 fun _ _ _ _ _ _ _=>rfl
 have b26:=bi1 (p := "rinses") F26 fun _ _ _ _ _ _ _=>rfl
 have b27:=F27.binds (ps:=["last", "time", "hues"]) fun _ _ _ _ _ _ us hl=>match us,hl with | [_,_,_],_=>rfl
 have b28:=qr (p := "cloths") (q := "hues") F28 fun _ _ _ _ _ _ _ _=>rfl
 have b29:=bi1 (p := "self") F29 fun _ _ _ _ _ _ _=>rfl
 have b30:=bi1 (p := "self") F30 fun _ _ _ _ _ _ _=>rfl
 have b31:=bi1 (p := "cloths") F31 fun _ _ _ _ _ _ _=>rfl
 have b32:=bi1 (p := "cloths") F32 fun _ _ _ _ _ _ _=>rfl
 have b33:=bi1 (p := "cloths") F33 fun _ _ _ _ _ _ _=>rfl
 have b34:=qr (p := "self") (q := "hue") F34 fun _ _ _ _ _ _ _ _=>rfl
 have b35:=qr (p := "self") (q := "hue") F35 fun _ _ _ _ _ _ _ _=>rfl
 have b36:=qr (p := "self") (q := "hue") F36 fun _ _ _ _ _ _ _ _=>rfl
 have b37:=qr (p := "works") (q := "names") F37 fun _ _ _ _ _ _ _ _=>rfl
 have b38:=qr (p := "works") (q := "names") F38 fun _ _ _ _ _ _ _ _=>rfl
 have b39:=bi1 (p := "works") F39 fun _ _ _ _ _ _ _=>rfl
 have b40:=bi1 (p := "works") F40 fun _ _ _ _ _ _ _=>rfl
 have b41:=qr (p := "row") (q := "names") F41 fun _ _ _ _ _ _ _ _=>rfl
 have b42:=qr (p := "rows") (q := "names") F42 fun _ _ _ _ _ _ _ _=>rfl
 have b43:=qr (p := "works") (q := "names") F43 fun _ _ _ _ _ _ _ _=>rfl
 have b44:=qr (p := "works") (q := "names") F44 fun _ _ _ _ _ _ _ _=>rfl
 have b45:Binds K (W.fnOf "__init__" "Works.__init__" (xX vz) (qi vz) (z9 vz) (.ref T45) kV45 dc45 pm45 an45 cd45 ct45) ["self", "rinses", "cloths", "last", "time"] []:=Bg (T:=T45) rfl q45 rfl fun us hl=>match us,hl with | [_,_,_,_,_],_=>⟨_,rfl,rfl⟩
 have b46:=F46.binds (ps:=["one", "other", "way"]) fun _ _ _ _ _ _ us hl=>match us,hl with | [_,_,_],_=>rfl
 have b47:=F47.binds (ps:=["parts", "names", "way"]) fun _ _ _ _ _ _ us hl=>match us,hl with | [_,_,_],_=>rfl
 have b48:=F48.binds (ps:=["parts", "names", "way"]) fun _ _ _ _ _ _ us hl=>match us,hl with | [_,_,_],_=>rfl
 have tB32:(193,#[],[((⟨54,30,54,75⟩:Pos),("by_dues.<locals>.<lambda>":Str))]) ∈ TABS:=by rw [hTB];simp
 have tB33:(200,#[],[((⟨59,30,59,109⟩:Pos),("by_steepness.<locals>.<lambda>":Str))]) ∈ TABS:=by rw [hTB];simp
 have TK:vM K h:=by
  have hd32:=PySem.W.codeHd_of_K X hC32
  have hd33:=PySem.W.codeHd_of_K X hC33
  refine ⟨fun p hp=>?_,fun p hp=>?_,fun p hp q hq=>?_,fun p hp=>?_,fun p hp q hq e=>?_,fun p hp=>?_⟩ <;> rw [hTB] at hp <;> (try rw [hTB] at hq) <;> simp only [List.mem_cons,List.not_mem_nil,or_false] at hp
  ·rcases hp with rfl | rfl
   ·exact TT 193 (by simp)
   ·exact TT 200 (by simp)
  ·rcases hp with rfl | rfl
   ·exact trivial
   ·exact trivial
  ·rcases hp with rfl | rfl
   ·rfl
   ·rfl
  ·rcases hp with rfl | rfl
   ·exact (hd32.tab (TT 193 (by simp))).isCodeTable
   ·exact (hd33.tab (TT 200 (by simp))).isCodeTable
  ·simp only [List.mem_cons,List.not_mem_nil,or_false] at hq
   rcases hp with rfl | rfl <;> rcases hq with rfl | rfl <;> first | rfl | exact absurd e (by decide)
  ·rcases hp with rfl | rfl
   ·exact o32
   ·exact o33
 refine ⟨W.fnOf "law" "law" (xX vA) (qi vA) (z9 vA) .none kV49 dc49 pm49 an49 cd49 ct49,fun s v=> .of_eq rfl,TK,fun base _ _=>?_⟩
 have Eb:=m7 l.prog w base (Dy F0 ) (W.mg_of X G a0) k0 b0
 have Ad:=m7 l.prog w base (Df F1 ) (W.mg_of X G a1) k1 b1
 have Ay:=m7 l.prog w base (DJ F2 Eb Ae Ac E4) (W.mg_of X G a2) k2 b2
 have Ar:=m7 l.prog w base (DC F3 Ad) (W.mg_of X G a3) k3 b3
 have Eh:=m7 l.prog w base (DF F4 Ad Ar Ac) (W.mg_of X G a4) k4 b4
 have Ew:=m7 l.prog w base (DA F5 Ad Ae Ac) (W.mg_of X G a5) k5 b5
 have Eo:=m7 l.prog w base (De F6 Ad Ar) (W.mg_of X G a6) k6 b6
 have E1:=m7 l.prog w base (DD F7 Eo Ad Ew Ar Eh Ay) (W.mg_of X G a7) k7 b7
 have E5:=m7 l.prog w base (DG F8 Ad Ae Ac) (W.mg_of X G a8) k8 b8
 have Ai:=m7 l.prog w base (Dq F9 Ef Ie Ab) (W.mg_of X G a9) k9 b9
 have Af:=m7 l.prog w base (Dz F10 ) (W.mg_of X G a10) k10 b10
 have A5:=m7 l.prog w base (Di F11 ) (W.mg_of X G a11) k11 b11
 have Ap:=m7 l.prog w base (Dw F12 ) (W.mg_of X G a12) k12 b12
 have B5:=m7 l.prog w base (Dg F13 ) (W.mg_of X G a13) k13 b13
 have Am:=m7 l.prog w base (DP F14 ) (W.mg_of X G a14) k14 b14
 have An:=m7 l.prog w base (Dn F15 Ai) (W.mg_of X G a15) k15 b15
 have Ed:=m7 l.prog w base (Do F16 Ax Ab Ae Ii A7) (W.mg_of X G a16) k16 b16
 have D9:=m7 l.prog w base (Dm F17 B5 A5 An Ed Ai Ap Af Am Ab Ae Es Ex) (W.mg_of X G a17) k17 b17
 have A6:=m7 l.prog w base (Dp F18 Ai Ax Ab Ae Al) (W.mg_of X G a18) k18 b18
 have A4:=m7 l.prog w base (Dc F19 A6 Ax Ab Ae Al D5) (W.mg_of X G a19) k19 b19
 have Au:=m7 l.prog w base (DI F20 Ao) (W.mg_of X G a20) k20 b20
 have Eg:=m7 l.prog w base (Ds F21 ) (W.mg_of X G a21) k21 b21
 have Ej:=m7 l.prog w base (Dx F22 ) (W.mg_of X G a22) k22 b22
 have A3:=m7 l.prog w base (DO F23 Eg Ej En) (W.mg_of X G a23) k23 b23
 have B9:=m7 l.prog w base (Dv F24 Au A3 Ae Ac) (W.mg_of X G a24) k24 b24
 have Ec:=m7 l.prog w base (DL F25 ) (W.mg_of X G a25) k25 b25
 have A8:=m7 l.prog w base (Du F26 A4 B9 Ec) (W.mg_of X G a26) k26 b26
 have B0:=m7 l.prog w base (Dd F27 An) (W.mg_of X G a27) k27 b27
 have Aw:=m7 l.prog w base (Da F28 D9 Af Ae B4) (W.mg_of X G a28) k28 b28
 have Ag:Mt l.prog w K mg base _ Aa _ _ (v7 (zj Aa)):=⟨_,_,CQ F29 Ae,⟨a29,i29,k29⟩,Ea.c,b29⟩
 have B3:Mt l.prog w K mg base _ Aa _ _ (m4 (Qn Aa)):=⟨_,_,CT F30 As,⟨a30,i30,k30⟩,Ea.c,b30⟩
 have At:=m7 l.prog w base (DB F31 Af) (W.mg_of X G a31) k31 b31
 have Ee:=m7 l.prog w base (CY F32 B5 Af As rfl (fun _ X2=>PySem.W.codeHd_of_K X2 hC32) tB32) (W.mg_of X G a32) k32 b32
 have A0:=m7 l.prog w base (CZ F33 Ap Af Am As rfl (fun _ X2=>PySem.W.codeHd_of_K X2 hC33) tB33) (W.mg_of X G a33) k33 b33
 have Ah:Mt l.prog w K mg base _ Aa _ _ (m4 (jZ Aa)):=⟨_,_,CO F34 A5,⟨a34,i34,k34⟩,Ea.c,b34⟩
 have Av:Mt l.prog w K mg base _ Aa _ _ (m4 (wj Aa)):=⟨_,_,CP F35 Ee At Ah,⟨a35,i35,k35⟩,Ea.c,b35⟩
 have Aq:Mt l.prog w K mg base _ Aa _ _ (m4 (wn Aa)):=⟨_,_,CU F36 A0 At Ah,⟨a36,i36,k36⟩,Ea.c,b36⟩
 have D2:Fn l.prog w K mg base _ _ _ (v7 (wo Aa)):=⟨_,_,CW F37 Ax Ab Ae Al Ib B3,W.mg_of X G a37,k37,b37⟩
 have Ak:Fn l.prog w K mg base _ _ _ (v7 (va Aa)):=⟨_,_,Db F38 D2,W.mg_of X G a38,k38,b38⟩
 have D8:Fn l.prog w K mg base _ _ _ (m4 (Qp Aa)):=⟨_,_,Dh F39 Ac Av Ag,W.mg_of X G a39,k39,b39⟩
 have D0:Fn l.prog w K mg base _ _ _ (m4 (Qu Aa)):=⟨_,_,DH F40 Ac Ag Aq,W.mg_of X G a40,k40,b40⟩
 have D1:=m7 l.prog w base (DM F41 Ao En) (W.mg_of X G a41) k41 b41
 have Aj:=m7 l.prog w base (DN F42 D1) (W.mg_of X G a42) k42 b42
 have D6:Fn l.prog w K mg base _ _ _ (v7 (vb Aa)):=⟨_,_,Dj F43 Ak D8 Aj,W.mg_of X G a43,k43,b43⟩
 have B8:Fn l.prog w K mg base _ _ _ (v7 (vd Aa)):=⟨_,_,Dl F44 Ak D0 Aj,W.mg_of X G a44,k44,b44⟩
 have Ey:Mkr l.prog w K mg base _ Aa _ (spI Aa (wm Aa)):=⟨_,_,CS F45 Aw B0 A8 Af B7 Al Ag,⟨E9,a45,i45,Ig⟩,b45⟩
 have D7:=m7 l.prog w base (CV F46 ) (W.mg_of X G a46) k46 b46
 have B6:=m7 l.prog w base (Dk F47 D7 B7 Ae Ac) (W.mg_of X G a47) k47 b47
 have D4:=m7 l.prog w base (DE F48 D7 B7 Ae Al Ac) (W.mg_of X G a48) k48 b48
 exact Dt F49 Ad D6 B6 B8 E1 D4 E5 Ay Ax Ef Ab Ae Al Ac Eu Ey
theorem walk {l:PySem.W.OpenLaw}{q:Program}{loose:List Str}{XP:(Str->Option Value)->Heap->Prop}{YP:World->Heap->Prop}{d:DefRec}{K:Params->Fg}(hn:l.most=some 63)(hdf:d.params.defaults=[])
  (hY:∀ (w:World) (h:Heap),YP w h->(K w.params).In h)
  (F:∀ (w:World) (mg:Str->Option Value) (fa:Addr) (h:Heap),YP w h->(K w.params).In h->h.Ns mainGlobals mg->mg d.name=some (.ref fa) ->
   ∃ fd:FuncData,(∀ (s:Shared) (u:Value),BindsTo s fd ⟨[u],[]⟩ [("script",u)])/\vM (K w.params) h/\∀ base:Heap,(K w.params).In base->base.Ns mainGlobals mg->FnOk l.prog w (K w.params) mg base v5 10 fa fd ["script"] (QS (K w.params))) :
  PySem.W.WalkO q loose XP YP l.row.toRowW d [] (fun f vs=>PySem.call f vs) :=
 L2.Hl (n:=63) (k:=10) (x := "script") (CX:=fun _=>v5) (sp:=fun w=>QS (K w.params)) hn (by decide) hdf ⟨rfl,by decide,by decide⟩ hY F (fun _ _ a ns hl _ hS=>⟨a,ns,rfl,hS,hl,fun _=>rfl⟩) fun _ _ _ _ _ z=>z
end Lw
open PySem PySem.W PyProof.Rows
set_option maxRecDepth 100000 in
set_option maxHeartbeats 0 in
theorem PySem.Challenge.cw_rinsework_k20_orders_looked_at_holds : PySem.Challenge.rw_rinsework_k20_orders_looked_at.Holds := by
  w_on; o_law; k_head; (case hw => w_witness2)
  k_fill
  refine Lw.walk (l := PySem.Challenge.rw_rinsework_k20_orders_looked_at) rfl rfl (fun w h Y => PySem.W.km_in_of Y) ?F
  case F =>
    intro w mg fa h Y KX G hmg
    apply Lw.all_mk KX (PySem.W.km_tabs_of Y) rfl G hmg
    iterate 238 k_is
    iterate 4 kernel_rfl

