import PyProof.Rows.All
import Wide.All
import OpenK.AllK
import Wide.FinOn
import Lean
import PyProof.EqAt
import PyProof.EqKinds
import PyProof.NeKinds
import PyProof.TupleCall
import PySem.Challenge.RW_rinsework_k15_no_plans
set_option Elab.async false
set_option linter.all false
set_option maxRecDepth 100000
namespace PySem.W.Fast
theorem tw12936709457173657090:True:=trivial
theorem tw18137846778443445444:True:=trivial
theorem tw5031622706744649093:True:=trivial
theorem tw17402949358998465413:True:=trivial
theorem tw14129174733895880906:True:=trivial
theorem tw13980601774957865770:True:=trivial
theorem tw18329969086009666316:True:=trivial
theorem tw3581363234591584592:True:=trivial
theorem tw4222989741375142801:True:=trivial
theorem tw9142511989241500338:True:=trivial
theorem tw7600809354148837752:True:=trivial
theorem tw15921765003949741177:True:=trivial
theorem tw8521722053371774233:True:=trivial
theorem tw9746853803063702106:True:=trivial
theorem tw5104727660362265180:True:=trivial
theorem tw4815948999721384861:True:=trivial
theorem tw10680048657724625375:True:=trivial
theorem tw12044265346517514879:True:=trivial
theorem tw4229830645598510247:True:=trivial
theorem tw6318140478602604344:True:=trivial
theorem tw2637237137580299899:True:=trivial
theorem tw14376261498786780288:True:=trivial
theorem tw4209340467547469820:True:=trivial
theorem tw8556245742738803558:True:=trivial
theorem tw758830801625071449:True:=trivial
theorem tw4342389044775176131:True:=trivial
theorem tw14636894339437599404:True:=trivial
theorem tw10632795749747456502:True:=trivial
theorem tw18330254641265372395:True:=trivial
theorem tw10303233775251333390:True:=trivial
theorem tw1230423555961936835:True:=trivial
theorem tw10622220632816787542:True:=trivial
theorem tw14139110931349885852:True:=trivial
theorem tw7204932943202547539:True:=trivial
theorem tw8219649412864650483:True:=trivial
theorem tw7553460750510313397:True:=trivial
theorem tw7230048484872259097:True:=trivial
theorem tw9981549380446971229:True:=trivial
theorem tw3835181341497447177:True:=trivial
theorem tw764150405897551829:True:=trivial
theorem tw6026569290670256768:True:=trivial
theorem tw7703252333778807372:True:=trivial
theorem tw14712722827873038471:True:=trivial
theorem tw7031525534263821421:True:=trivial
theorem tw11542928181346449308:True:=trivial
theorem tw11616994978569334048:True:=trivial
theorem tw7143174325799364881:True:=trivial
theorem tw8051220817751570501:True:=trivial
theorem tw8216126621908070202:True:=trivial
theorem tw4162114056375031223:True:=trivial
theorem tw6867874769730201882:True:=trivial
theorem tw8126644329932056755:True:=trivial
theorem tw16967158165578775595:True:=trivial
theorem tw1848596599885380996:True:=trivial
theorem tw2094500631708480811:True:=trivial
theorem tw10493470245035524910:True:=trivial
theorem tw6495301341868706325:True:=trivial
theorem tw3577726802093390982:True:=trivial
theorem tw17446189826650092673:True:=trivial
theorem tw11005153324961251603:True:=trivial
theorem tw6584788961631437019:True:=trivial
theorem tw16057686382817540086:True:=trivial
theorem tw4599868301328539529:True:=trivial
theorem tw3052508709883050172:True:=trivial
theorem tw18393278174198937025:True:=trivial
theorem tw7282427714824478537:True:=trivial
theorem tw4703072430169979307:True:=trivial
theorem tw2618046448894295927:True:=trivial
theorem tw9751712998130097158:True:=trivial
theorem tw11982772901146989608:True:=trivial
theorem tw4159076357236040507:True:=trivial
theorem tw16613117718203853542:True:=trivial
theorem tw17065858153953220560:True:=trivial
theorem tw17605399228659647859:True:=trivial
theorem tw10542137130247372368:True:=trivial
theorem tw1347842387260039790:True:=trivial
theorem tw9174104601604186478:True:=trivial
theorem tw5463343535367755065:True:=trivial
end PySem.W.Fast
namespace L2
abbrev Fg:=PySem.W.Frag
end L2
namespace L2
open PySem PySem.Spec PyProof.Rows
abbrev z8:=Sum Int Str
def vU:z8->Value->Bool
 | .inl k,v=>Value.isInt k v
 | .inr x,v=>Value.isStrOf x v
def keyH (w:World):z8->Int
 | .inl k=>hashInt k
 | .inr x=>hashStr w x
theorem jH:∀ {k:z8} {v:Value},vU k v=true->(∃ i t,k=Sum.inl i/\v=Value.int i t) ∨ (∃ x t,k=Sum.inr x/\v=Value.str x t)
 | .inl i,v,h=>by
  obtain ⟨t,e⟩:=Value.isInt_shape (k:=i) (v:=v) h
  exact .inl ⟨i,t,rfl,e⟩
 | .inr x,v,h=>by
  obtain ⟨t,e⟩:=Value.isStrOf_shape (x:=x) (v:=v) h
  exact .inr ⟨x,t,rfl,e⟩
theorem MT (i:Int)(t:Tok):vU (.inl i) (.int i t)=true:=by simp [vU,Value.isInt]
theorem GY (x:Str)(t:Tok):vU (.inr x) (.str x t)=true:=by simp [vU,Value.isStrOf]
theorem MU (a b:Int):decide ((Sum.inl a:z8)=Sum.inl b)=(a == b):=by
 by_cases e:a=b
 ·subst e;simp
 ·have h:¬ (Sum.inl a:z8)=Sum.inl b:=fun q=>e (Sum.inl.inj q)
  rw [decide_eq_false h]
  exact (beq_eq_false_iff_ne.mpr e).symm
theorem MX (a b:Str):decide ((Sum.inr a:z8)=Sum.inr b)=decide (a=b):=by
 by_cases e:a=b
 ·subst e;simp
 ·have h:¬ (Sum.inr a:z8)=Sum.inr b:=fun q=>e (Sum.inr.inj q)
  rw [decide_eq_false h,decide_eq_false e]
theorem MV (a:Int)(b:Str):decide ((Sum.inl a:z8)=Sum.inr b)=false:=decide_eq_false (fun q=>nomatch q)
theorem MW (a:Str)(b:Int):decide ((Sum.inr a:z8)=Sum.inl b)=false:=decide_eq_false (fun q=>nomatch q)

def qG (prog:Program)(w:World):PySem.KeyKind prog w z8 where
 is:=vU
 hash:=keyH w
 inj:=fun v a b ha hb=>by
  rcases jH ha with ⟨i,t,rfl,rfl⟩ | ⟨x,t,rfl,rfl⟩
  ·rcases jH hb with ⟨j,u,rfl,e⟩ | ⟨y,u,rfl,e⟩
   ·injection e with e1 _;rw [e1]
   ·exact nomatch e
  ·rcases jH hb with ⟨j,u,rfl,e⟩ | ⟨y,u,rfl,e⟩
   ·exact nomatch e
   ·injection e with e1 _;rw [e1]
 byValue:=fun k v h=>by
  rcases jH h with ⟨i,t,rfl,rfl⟩ | ⟨x,t,rfl,rfl⟩ <;> rfl
 pyHash:=fun hv h=>by
  rcases jH hv with ⟨i,t,rfl,rfl⟩ | ⟨x,t,rfl,rfl⟩
  ·exact wpAny_pyHash_int h
  ·exact wpAny_pyHash_str h
 eqBool:=fun hu hv h=>by
  rcases jH hu with ⟨i,t,rfl,rfl⟩ | ⟨x,t,rfl,rfl⟩
  ·rcases jH hv with ⟨j,u,rfl,rfl⟩ | ⟨y,u,rfl,rfl⟩
   ·rw [MU] at h;exact wpAny_eqBool_int h
   ·rw [MV] at h;exact SeqAt.EqAt.int_str i t y u _ _ _ _ h
  ·rcases jH hv with ⟨j,u,rfl,rfl⟩ | ⟨y,u,rfl,rfl⟩
   ·rw [MW] at h;exact SeqAt.EqAt.str_int x t j u _ _ _ _ h
   ·rw [MX] at h;exact wpAny_eqBool_str h
 «strs»:=fun k x t v h=>by
  rcases jH h with ⟨i,u,rfl,e⟩ | ⟨y,u,rfl,e⟩
  ·exact nomatch e
  ·injection e with e1 _
   subst e1
   cases v <;> rfl

theorem LC (prog:Program)(w:World)(i:Int)(t:Tok):(qG prog w).is (.inl i) (.int i t)=true:=MT i t
theorem WB (prog:Program)(w:World)(x:Str)(t:Tok):(qG prog w).is (.inr x) (.str x t)=true:=GY x t
end L2
namespace L2
open PySem PySem.Spec PyProof.Rows
inductive V where
 | non | bl (b:Bool) | int (i:Int) | str (x:Str) | byt (b:Array UInt8) | flt (b:UInt64) | ref (a:Addr) | ty (n:String)
 deriving DecidableEq

def RelV:V->Value->Prop
 | .non,u=>u=Value.none
 | .bl b,u=>u=Value.bool b
 | .int i,u=>∃ t,u=Value.int i t
 | .str x,u=>∃ t,u=Value.str x t
 | .byt b,u=>∃ t,u=Value.bytes b t
 | .flt b,u=>∃ t,u=Value.float b t
 | .ref a,u=>u=Value.ref a
 | .ty n,u=>u=Value.type n

abbrev Vals:List V->List Value->Prop:=Paired RelV
theorem Vals.length {xs:List V}{us:List Value}(r:Vals xs us):xs.length=us.length:=Paired.length r
theorem Vals.get:∀ {xs:List V} {us:List Value} {i:Nat} {x:V},Vals xs us->xs[i]?=some x->∃ u,us[i]?=some u/\RelV x u
 | _,_,_,_,.nil,e=>by simp at e
 | _,_,0,_,.cons r _,e=>by simp at e;subst e;exact ⟨_,rfl,r⟩
 | _,_,i + 1,x,.cons _ t,e=>by
  obtain ⟨u,h1,h2⟩:=Vals.get (i:=i) (x:=x) t (by simpa using e)
  exact ⟨u,by simpa using h1,h2⟩
theorem Vals.set {x:V}{u:Value}(r:RelV x u):∀ {xs:List V} {us:List Value} (i:Nat),Vals xs us->Vals (xs.set i x) (us.set i u)
 | _,_,_,.nil=> .nil
 | _,_,0,.cons _ t=> .cons r t
 | _,_,i + 1,.cons q t=> .cons q (Vals.set r i t)
theorem Vals.append:∀ {xs ys:List V} {us ws:List Value},Vals xs us->Vals ys ws->Vals (xs++ys) (us++ws)
 | _,_,_,_,.nil,s=>s
 | _,_,_,_,.cons r t,s=> .cons r (Vals.append t s)
theorem Vals.take:∀ {xs:List V} {us:List Value} (n:Nat),Vals xs us->Vals (xs.take n) (us.take n)
 | _,_,0,_=> .nil
 | _,_,_ + 1,.nil=> .nil
 | _,_,n + 1,.cons r t=> .cons r (Vals.take n t)
theorem Vals.drop:∀ {xs:List V} {us:List Value} (n:Nat),Vals xs us->Vals (xs.drop n) (us.drop n)
 | _,_,0,r=>r
 | _,_,_ + 1,.nil=> .nil
 | _,_,n + 1,.cons _ t=>Vals.drop n t
def RelO:Option V->Option Value->Prop
 | some v,some u=>RelV v u
 | none,none=>True
 | _,_=>False
def KV {κ:Type}:List (κ × V)->List (κ × Value)->Prop:=Paired fun (p:κ × V) (q:κ × Value)=>p.1=q.1/\RelV p.2 q.2

def kV:z8->V
 | .inl i=> .int i
 | .inr x=> .str x

inductive HO where
 /-- a list -/
 | lst (xs:List V)
 /-- a tuple (never changes) -/
 | tup (xs:List V)
 /-- a dict whose keys are ints and texts;one whose keys are tuples of ints and texts (the empty one is both) -/
 | dK (kvs:List (z8 × V)) | dT (kvs:List (List z8 × V))
 /-- a set of ints: its members,its size -/
 | set (S:Int->Bool) (n:Nat)
 /-- an instance of the class at C,its dict at dx,its attributes -/
 | ins (C dx:Addr) (fs:List (Str × V))
 /-- the dict of the instance at x -/
 | own (x:Addr)
 /-- the dict of an exception -/
 | xd (fs:List (Str × V))
 /-- a bound method,f of x -/
 | met (f x:Addr)
 /-- a range object lo,lo + 1,.. below hi -/
 | rng (lo hi:Int)
 /-- a thing that is known to the object (the script;a dict while a loop walks it): read,never written while it is so -/
 | frz (o:Obj) (u:HO)
 /-- a code object's table -/
 | tbl (ps:Array Value)
 /-- any other thing,by what is true of its one object (a def of one's own: vJ a S n:=HO.ext fun h=> ..) -/
 | ext (φ:Heap->Prop)

abbrev Hp:=Addr->Option HO
def j9 (H:Hp)(a:Addr)(o:HO):Hp:=fun b=>if b=a then some o else H b
theorem g0 {H:Hp}{a:Addr}{o:HO}:j9 H a o a=some o:=by unfold j9;rw [if_pos rfl]
theorem v6 {H:Hp}{a b:Addr}{o:HO}(h:b ≠ a):j9 H a o b=H b:=by unfold j9;rw [if_neg h]
theorem ne_of {H:Hp}{a b:Addr}{o u:HO}(h:H a=some o)(h':H b=some u)(d:o ≠ u):a ≠ b:=by
 intro e;subst e;rw [h] at h';exact d (Option.some.inj h')
theorem n5 {H:Hp}{a b:Addr}{o:HO}(h:H a=some o)(h':H b=none):a ≠ b:=by
 intro e;subst e;rw [h] at h';cases h'

section
variable (P:Program)(w:World)
def ObjOk (H:Hp)(h:Heap)(a:Addr):HO->Prop
 | .lst xs=>xs.length<=sizeLine/\∃ (its:List Value) (n:Nat),Vals xs its/\h.get? a=some { cls:= .type "list",data:= .seq its.toArray n }
 | .tup xs=>xs.length<=sizeLine/\∃ its:List Value,Vals xs its/\IsTup h a its.toArray
 | .dK kvs=>kvs.length<=sizeLine/\(a == sysModules)=false/\∃ vs,KV kvs vs/\h.DictOf (qG P w) a vs
 | .dT kvs=>kvs.length<=sizeLine/\(a == sysModules)=false/\∃ xs:List (List z8 × Addr × Value),
   Paired (fun (p:List z8 × V) (q:List z8 × Addr × Value)=>p.1=q.1/\H q.2.1=some (.tup (p.1.map kV))/\RelV p.2 q.2.2) kvs xs /\
   ∃ o es ep,h.get? a=some o/\o.ExactDict/\o.data = .dict es ep/\es.toList=xs.map (entryOfKey (tupleKind (qG P w)))/\(xs.map (·.1)).Nodup
 | .set S n=>h.SetOf (intKind P w) a S n
 | .ins C dx fs=>H dx=some (.own a)/\fs.length<=1000/\dx ≠ a/\h.get? a=some (PySem.W.instObj C dx) /\
   ∃ mA,h.Ns1 dx mA/\(∀ f,RelO (fs.lookup f) (mA f))/\PySem.Within mA (fs.map (·.1))
 | .own _=>∃ o,h.get? a=some o
 | .xd fs=>∃ mA,h.Ns1 a mA/\∀ f,RelO (fs.lookup f) (mA f)
 | .rng lo hi=>∃ t u v,h.get? a=some { cls:= .type "range",data:= .fields #[.int lo t,.int hi u,.int 1 v] }
 | .frz o u=>h.get? a=some o/\ObjOk H h a u
 | .tbl ps=>h.get? a=some { cls:= .none,data:= .fields ps }
 | .met f x=>h.get? a=some (PySem.W.methodObj (.ref f) (.ref x))
 | .ext φ=>φ h/\(∃ o,h.get? a=some o)/\∀ h1 h2:Heap,φ h1->(∀ o,h1.get? a=some o->h2.get? a=some o)->φ h2
def HOk (H:Hp)(h:Heap):Prop:=∀ a o,H a=some o->ObjOk P w H h a o
end
section
variable {P:Program}{w:World}{H H':Hp}{h h':Heap}{a:Addr}{o:HO}
theorem ObjOk.lt (x:ObjOk P w H h a o):a < h.objs.size:=by
 cases o with
 | lst xs=>obtain ⟨_,_,_,_,e⟩:=x;exact Heap.lt_size e
 | tup xs=>obtain ⟨_,_,_,p⟩:=x;exact p.lt
 | dK kvs=>obtain ⟨_,_,_,_,o,_,_,e,_⟩:=x;exact Heap.lt_size e
 | dT kvs=>obtain ⟨_,_,_,_,o,_,_,e,_⟩:=x;exact Heap.lt_size e
 | set S n=>obtain ⟨o,_,_,_,e,_⟩:=x;exact Heap.lt_size e
 | ins C dx fs=>obtain ⟨_,_,_,e,_⟩:=x;exact Heap.lt_size e
 | own y=>obtain ⟨_,e⟩:=x;exact Heap.lt_size e
 | xd fs=>obtain ⟨_,⟨_,_,_,e,_⟩,_⟩:=x;exact Heap.lt_size e
 | rng lo hi=>obtain ⟨_,_,_,e⟩:=x;exact Heap.lt_size e
 | frz ob u=>obtain ⟨e,_⟩:=x;exact Heap.lt_size e
 | tbl ps=>exact Heap.lt_size (show h.get? a=some _ from x)
 | met f y=>exact Heap.lt_size (show h.get? a=some _ from x)
 | ext φ=>obtain ⟨_,⟨_,e⟩,_⟩:=x;exact Heap.lt_size e
theorem Paired.mapP {α β:Type}{F G:α->β->Prop}:∀ {l₁:List α} {l₂:List β},Paired F l₁ l₂->(∀ a b,F a b->G a b)->Paired G l₁ l₂
 | _,_,.nil,_=> .nil
 | _,_,.cons r t,f=> .cons (f _ _ r) (Paired.mapP t f)
theorem ObjOk.stay (x:ObjOk P w H h a o)(k:∀ b u,(b=a ∨ H b=some (.own a))->h.get? b=some u->h'.get? b=some u)
  (ho:∀ b,H b=some (.own a)->H' b=some (.own a)) (ht:∀ b xs,H b=some (.tup xs)->H' b=some (.tup xs)):ObjOk P w H' h' a o:=by
 induction o with
 | lst xs=>obtain ⟨z,its,n,r,e⟩:=x;exact ⟨z,its,n,r,k _ _ (.inl rfl) e⟩
 | tup xs=>obtain ⟨z,its,r,ob,e,c⟩:=x;exact ⟨z,its,r,ob,k _ _ (.inl rfl) e,c⟩
 | dK kvs=>obtain ⟨z,y,vs,r,ob,es,ep,e,c⟩:=x;exact ⟨z,y,vs,r,ob,es,ep,k _ _ (.inl rfl) e,c⟩
 | dT kvs =>
  obtain ⟨z,y,xs,r,ob,es,ep,e,c⟩:=x
  exact ⟨z,y,xs,Paired.mapP r fun p q z=>⟨z.1,ht _ _ z.2.1,z.2.2⟩,ob,es,ep,k _ _ (.inl rfl) e,c⟩
 | set S n=>obtain ⟨ob,es,ep,t,e,c⟩:=x;exact ⟨ob,es,ep,t,k _ _ (.inl rfl) e,c⟩
 | ins C dx fs =>
  obtain ⟨d,z,ne,e,mA,⟨od,es,ep,e2,c⟩,r⟩:=x
  exact ⟨ho _ d,z,ne,k _ _ (.inl rfl) e,mA,⟨od,es,ep,k _ _ (.inr d) e2,c⟩,r⟩
 | own y=>obtain ⟨ob,e⟩:=x;exact ⟨ob,k _ _ (.inl rfl) e⟩
 | xd fs=>obtain ⟨mA,⟨od,es,ep,e,c⟩,r⟩:=x;exact ⟨mA,⟨od,es,ep,k _ _ (.inl rfl) e,c⟩,r⟩
 | rng lo hi=>obtain ⟨t,u,v,e⟩:=x;exact ⟨t,u,v,k _ _ (.inl rfl) e⟩
 | frz ob u ih=>obtain ⟨e,q⟩:=x;exact ⟨k _ _ (.inl rfl) e,ih q⟩
 | tbl ps =>
  have e:h.get? a=some { cls:= .none,data:= .fields ps }:=x
  show h'.get? a=some { cls:= .none,data:= .fields ps }
  exact k a _ (.inl rfl) e
 | met f y =>
  have e:h.get? a=some (PySem.W.methodObj (.ref f) (.ref y)):=x
  show h'.get? a=some (PySem.W.methodObj (.ref f) (.ref y))
  exact k a _ (.inl rfl) e
 | ext φ=>obtain ⟨p,⟨o,e⟩,st⟩:=x;exact ⟨st _ _ p fun o q=>k _ _ (.inl rfl) q,⟨o,k _ _ (.inl rfl) e⟩,st⟩
theorem HOk.lt (x:HOk P w H h)(e:H a=some o):a < h.objs.size:=(x a o e).lt
theorem HOk.fresh (x:HOk P w H h)(e:h.objs.size<=a):H a=none:=by
 cases q:H a with
 | none=>rfl
 | some u=>exact absurd (Nat.lt_of_lt_of_le (x.lt q) e) (Nat.lt_irrefl _)
theorem HOk.kept (x:HOk P w H h)(k:∀ b u,h.get? b=some u->h'.get? b=some u):HOk P w H h':=fun a o e =>
 (x a o e).stay (fun b u _ q=>k b u q) (fun _ q=>q) fun _ _ q=>q
theorem HOk.laid (x:HOk P w H h)(k:∀ b u,h.get? b=some u->h'.get? b=some u)(hp:h.objs.size<=a)(new:ObjOk P w (j9 H a o) h' a o):HOk P w (j9 H a o) h':=fun b u e=>by
 have hn:=x.fresh hp
 by_cases hb:b=a
 ·subst hb;rw [g0] at e;cases e;exact new
 ·rw [v6 hb] at e
  exact (x b u e).stay (fun c v _ q=>k c v q) (fun c q=>by rw [v6 (n5 q hn)];exact q) fun c xs q=>by rw [v6 (n5 q hn)];exact q
end
def Rd (H:Hp)(a:Addr)(u:HO):Prop:=H a=some u ∨ ∃ o,H a=some (.frz o u)
theorem Rd.ok {P:Program}{w:World}{H:Hp}{h:Heap}{a:Addr}{u:HO}(r:Rd H a u)(x:HOk P w H h):ObjOk P w H h a u:=by
 rcases r with r | ⟨o,r⟩
 ·exact x a u r
 ·obtain ⟨_,q⟩:=x a _ r
  exact q
def Mut:Option HO->Prop
 | some (.lst _)=>True
 | some (.dK _)=>True
 | some (.dT _)=>True
 | some (.set _ _)=>True
 | some (.ins _ _ _)=>True
 | some (.ext _)=>True
 | _=>False
section
variable {P:Program}{w:World}{H:Hp}{h h':Heap}{x e:Addr}{o':HO}
theorem HOk.write (ok:HOk P w H h)(mu:Mut (H x))(he:e=x ∨ H e=some (.own x))(k:∀ b u,b ≠ e->h.get? b=some u->h'.get? b=some u)(heo:∃ u,h'.get? e=some u)
  (new:ObjOk P w (j9 H x o') h' x o'):HOk P w (j9 H x o') h':=fun b u q=>by
 have nown:∀ c y,H c=some (.own y)->c ≠ x:=fun c y r z=>by subst z;rw [r] at mu;exact mu
 have ntup:∀ c xs,H c=some (.tup xs)->c ≠ x:=fun c xs r z=>by subst z;rw [r] at mu;exact mu
 by_cases hb:b=x
 ·subst hb;rw [g0] at q;cases q;exact new
 ·rw [v6 hb] at q
  by_cases hbe:b=e
  ·have q':H b=some (.own x):=by
    rcases he with z | z
    ·exact absurd (hbe.trans z) hb
    ·rw [hbe];exact z
   rw [q] at q';cases q'
   obtain ⟨v,hv⟩:=heo
   exact ⟨v,by rw [hbe];exact hv⟩
  ·refine (ok b u q).stay (fun c v hc r=>k c v ?_ r) (fun c r=>by rw [v6 (nown c b r)];exact r) fun c xs r=>by rw [v6 (ntup c xs r)];exact r
   rcases hc with rfl | hc
   ·exact hbe
   ·rintro rfl
    rcases he with z | z
    ·exact nown c b hc z
    ·rw [hc] at z;cases z;exact hb rfl
end
structure Un (fs ex:List Addr)(H H':Hp)(h h':Heap):Prop where
 keep:∀ b o,h.get? b=some o->H b=none->b ∉ fs->b ∉ ex->h'.get? b=some o
 slot:∀ b o,h.get? b=some o->H b=none->b ∈ fs->b ∉ ex->∃ sl,h'.get? b=some { o with slots:=sl }
 free:∀ b o,h.get? b=some o->H b=none->b ∉ ex->H' b=none
 there:∀ b o,h.get? b=some o->b ∉ ex->∃ o',h'.get? b=some o'
 tups:∀ b xs,H b=some (.tup xs)->H' b=some (.tup xs)
 frzs:∀ b o u,H b=some (.frz o u)->H' b=some (.frz o u)
 tbls:∀ b ps,H b=some (.tbl ps)->∃ more,H' b=some (.tbl (ps++more))
section
variable {fs fs' ex ex':List Addr}{H H1 H2:Hp}{h h1 h2 h':Heap}{a x e:Addr}{o:HO}
theorem Un.any (u:Un fs ex H H1 h h1){b:Addr}{ob:Obj}(q:h.get? b=some ob)(n:H b=none)(hx:b ∉ ex):∃ sl,h1.get? b=some { ob with slots:=sl }:=by
 by_cases hb:b ∈ fs
 ·exact u.slot b ob q n hb hx
 ·exact ⟨ob.slots,u.keep b ob q n hb hx⟩
theorem Un.kept (k:∀ b u,h.get? b=some u->h'.get? b=some u):Un fs ex H H h h' :=
 ⟨fun b ob q _ _ _=>k b ob q,fun b ob q _ _ _=>⟨ob.slots,k b ob q⟩,fun _ _ _ n _=>n,fun b ob q _=>⟨ob,k b ob q⟩,fun _ _ q=>q,fun _ _ _ q=>q,fun _ ps q=>⟨#[],by rw [q];simp⟩⟩
theorem Un.refl:Un fs ex H H h h:=Un.kept fun _ _ q=>q
theorem Un.laid (k:∀ b u,h.get? b=some u->h'.get? b=some u)(hp:h.objs.size<=a)(hn:H a=none):Un fs ex H (j9 H a o) h h' where
 keep:=fun b u q _ _ _=>k b u q
 slot:=fun b u q _ _ _=>⟨u.slots,k b u q⟩
 free:=fun b u q n _=>by rw [v6 (Nat.ne_of_lt (Nat.lt_of_lt_of_le (Heap.lt_size q) hp))];exact n
 there:=fun b u q _=>⟨u,k b u q⟩
 tups:=fun b xs q=>by rw [v6 (n5 q hn)];exact q
 frzs:=fun b u xs q=>by rw [v6 (n5 q hn)];exact q
 tbls:=fun b ps q=>⟨#[],by rw [v6 (n5 q hn),q];simp⟩
theorem Un.write (mu:Mut (H x))(he:e=x ∨ H e=some (.own x))(k:∀ b u,b ≠ e->h.get? b=some u->h'.get? b=some u)(heo:∃ u,h'.get? e=some u):Un fs ex H (j9 H x o) h h':=by
 have hx:∀ b,H b=none->b ≠ x:=fun b n z=>by subst z;rw [n] at mu;exact mu
 have hb:∀ b,H b=none->b ≠ e:=fun b n z=>by
  subst z
  rcases he with r | r
  ·exact hx b n r
  ·rw [n] at r;cases r
 have hm:∀ b u,H b=some u->¬ Mut (some u)->b ≠ x:=fun b u q nm z=>by subst z;rw [q] at mu;exact nm mu
 refine ⟨fun b u q n _ _=>k b u (hb b n) q,fun b u q n _ _=>⟨u.slots,k b u (hb b n) q⟩,fun b u q n _=>by rw [v6 (hx b n)];exact n,fun b u q _=>?_,
  fun b xs q=>by rw [v6 (hm b _ q fun z=>z)];exact q,fun b u xs q=>by rw [v6 (hm b _ q fun z=>z)];exact q,fun b ps q=>⟨#[],by rw [v6 (hm b _ q fun z=>z),q];simp⟩⟩
 by_cases hbe:b=e
 ·subst hbe;exact heo
 ·exact ⟨u,k b u hbe q⟩
end
def trk (h:Heap)(H:Hp):List Addr:=(List.range h.objs.size).filter fun a=>(H a).isSome
def jG (h:Heap)(H:Hp):Heap:=PySem.W.hideAll h (trk h H)
theorem DX (h:Heap)(H:Hp):(jG h H).objs.size=h.objs.size:=PySem.W.hideAll_size _ _
theorem DW {h:Heap}{H:Hp}{b:Addr}{o:Obj}(e:h.get? b=some o)(n:H b=none):(jG h H).get? b=some o :=
 PySem.W.hideAll_get _ e fun hm=>by
  have q:(H b).isSome=true:=(List.mem_filter.mp hm).2
  rw [n] at q;simp at q
theorem LL {h:Heap}{H:Hp}{b:Addr}{o:Obj}(e:(jG h H).get? b=some o):h.get? b=some o/\H b=none:=by
 have e':h.get? b=some o:=PySem.W.of_hideAll (trk h H) e
 refine ⟨e',?_⟩
 cases q:H b with
 | none=>rfl
 | some x =>
  have hm:b ∈ trk h H:=List.mem_filter.mpr ⟨List.mem_range.mpr (Heap.lt_size e'),by simp [q]⟩
  have z:(jG h H).get? b=none:=PySem.W.hideAll_none (trk h H) hm
  rw [z] at e;cases e

end L2
namespace L2
open PySem PySem.Spec PyProof.Rows
structure Mod (K:Fg)(mg:Str->Option Value)(base:Heap):Prop where
 kin:K.In base
 glob:base.Ns mainGlobals mg
 blt:∃ mb,base.Ns builtinsNs mb/\∀ x:Str,x ≠ "__name__"->mb x=bootBuiltins x
 nolimit:base.NoLimit

structure Cx where
 prog:Program
 w:World
 K:Fg
 mg:Str->Option Value
 base:Heap
 A:Around
 N:List Str
 s₀:Shared
 H₀:Hp
 env:Env
 outer:List Env
 stack:List Env
 ex:List Addr
 fn:Str->Bool
 calm:Bool
 pn:List (Addr × Obj)
 xe:Value->Shared->Prop
def n6 (l:List Env):List Addr:=l.filterMap (·.frame)
abbrev Cx.fs (X:Cx):List Addr:=n6 X.outer

def Vis (sc:Scope)(x:Str):Prop:=sc.names.lookup x=some .local ∨ sc.names.lookup x=some .cell ∨ sc.names.lookup x=some .free
def Loc (sc:Scope)(x:Str):Prop:=sc.names.lookup x=some .local ∨ sc.names.lookup x=some .cell
def Look (env:Env)(h:Heap)(m:Str->Option Value)(x:Str)(u:Value):Prop :=
 (env.kindOf x=some .local/\m x=some u) ∨ ((env.kindOf x=some .cell ∨ env.kindOf x=some .free)/\∃ c,env.cells.lookup x=some c/\h.IsCell c (some u))

structure Cx.Ok (X:Cx):Prop where
 mod:Mod X.K X.mg X.base
 kind:X.env.scope.kind = .function
 glob:X.env.globals=mainGlobals
 blt:X.env.builtins=builtinsNs
 above:X.s₀.heap.objs.size<=X.env.locals
 inj:∀ x y c,X.env.cells.lookup x=some c->X.env.cells.lookup y=some c->x=y
 has:∀ x,(X.env.kindOf x=some .cell ∨ X.env.kindOf x=some .free)->∃ c,X.env.cells.lookup x=some c
 cab:∀ x c,X.fn x=true->X.env.cells.lookup x=some c->X.s₀.heap.objs.size<=c
 hd:X.calm=true->X.A.handled=none
 frames:X.A.frames=some X.stack
 stk:X.stack=X.outer ∨ (X.stack=X.env::X.outer/\X.env.frame=some X.env.locals)
 exf:∀ b ∈ X.ex,b ≠ X.env.locals/\∀ x c,X.env.cells.lookup x=some c->c ≠ b
 bs:∀ b o,X.base.get? b=some o->X.s₀.heap.get? b=some o/\X.H₀ b=none
 bsz:X.base.objs.size<=X.s₀.heap.objs.size
 noex:∀ b o,X.base.get? b=some o->b ∉ X.ex
 exfs:∀ b ∈ X.ex,b ∉ X.fs
 funs:X.s₀.heap.FunFrames X.base X.outer
 frf:∀ b ∈ X.fs,X.H₀ b=none

structure Inv (X:Cx)(pins:List (Addr × Obj))(σ:List (Option V))(H:Hp)(s:Shared):Prop where
 ok:X.Ok
 os:s.os=X.s₀.os
 bare:AllBare s.gens
 base:Un X.fs X.ex X.H₀ H X.s₀.heap s.heap
 loc:∃ m,s.heap.Ns X.env.locals m/\∀ (i:Nat) (x:Str) (v:V),X.N[i]?=some x->σ[i]?=some (some v)->Vis X.env.scope x->∃ u,RelV v u/\Look X.env s.heap m x u
 cell:∀ x c,X.env.cells.lookup x=some c->∃ v,s.heap.IsCell c v
 free:H X.env.locals=none
 freeC:∀ x c,X.env.cells.lookup x=some c->H c=none
 pin:∀ p ∈ X.pn++pins,s.heap.get? p.1=some p.2/\H p.1=none/\p.1 ≠ X.env.locals/\p.1 ∉ X.fs/\∀ v,p.2.data ≠ .cell v
 hok:HOk X.prog X.w H s.heap
 len:σ.length=X.N.length

section
variable {X:Cx}{pins:List (Addr × Obj)}{σ:List (Option V)}{H H':Hp}{s:Shared}{h':Heap}
theorem Cx.Ok.nofr (ok:X.Ok){b:Addr}{o:Obj}(e:X.base.get? b=some o):b ∉ X.fs:=fun hb=>by
 have:=(ok.funs.mem hb).1
 rw [e] at this;cases this
theorem Inv.bs (I:Inv X pins σ H s):∀ b o,X.base.get? b=some o->s.heap.get? b=some o/\H b=none:=fun b o e =>
 ⟨I.base.keep b o (I.ok.bs b o e).1 (I.ok.bs b o e).2 (I.ok.nofr e) (I.ok.noex b o e),I.base.free b o (I.ok.bs b o e).1 (I.ok.bs b o e).2 (I.ok.noex b o e)⟩
theorem Inv.bk (I:Inv X pins σ H s):∀ b o,X.base.get? b=some o->s.heap.get? b=some o:=fun b o e=>(I.bs b o e).1
theorem Inv.mod (I:Inv X pins σ H s):Mod X.K X.mg X.base:=I.ok.mod
theorem Inv.kIn (I:Inv X pins σ H s):X.K.In s.heap:=I.ok.mod.kin.keeps I.bk
theorem Inv.fr (I:Inv X pins σ H s):∃ m,Fr X.base X.env.locals s.heap m :=
 let ⟨m,hn,_⟩:=I.loc
 ⟨m,hn,I.bk,Nat.le_trans I.ok.bsz I.ok.above⟩
theorem Inv.lt (I:Inv X pins σ H s):X.env.locals < s.heap.objs.size:=let ⟨_,hn,_⟩:=I.loc;hn.lt
theorem Inv.sz (I:Inv X pins σ H s):X.s₀.heap.objs.size<=s.heap.objs.size:=Nat.le_trans I.ok.above (Nat.le_of_lt I.lt)
theorem Inv.nofs (I:Inv X pins σ H s){a:Addr}(h:s.heap.objs.size<=a):a ∉ X.fs:=fun hb=>by
 obtain ⟨_,o,ho,_⟩:=I.ok.funs.mem hb
 exact absurd (Nat.lt_of_lt_of_le (Heap.lt_size ho) (Nat.le_trans I.sz h)) (Nat.lt_irrefl _)
theorem Inv.cne (I:Inv X pins σ H s):∀ x c,X.env.cells.lookup x=some c->c ≠ X.env.locals:=fun x c e z=>by
 obtain ⟨v,o,ho,hd⟩:=I.cell x c e
 obtain ⟨m,⟨o',es,ep,ho',hd',_⟩,_⟩:=I.loc
 rw [z,ho'] at ho;cases ho;rw [hd'] at hd;cases hd
theorem Inv.funs (I:Inv X pins σ H s):s.heap.FunFrames X.base X.outer:=by
 have all:∀ (l:List Env),(∀ b ∈ n6 l,b ∈ X.fs)->X.s₀.heap.FunFrames X.base l->s.heap.FunFrames X.base l:=by
  intro l
  induction l with
  | nil=>intro _ _;trivial
  | cons env r ih =>
   intro hs hl
   obtain ⟨hk,⟨L,o,hf,hn,ho,hd⟩,hr⟩:=hl
   have hL:L ∈ X.fs:=hs L (by unfold n6;rw [List.filterMap_cons,hf];exact List.mem_cons_self)
   obtain ⟨sl,e⟩:=I.base.slot L o ho (I.ok.frf L hL) hL fun z=>I.ok.exfs L z hL
   exact ⟨hk,⟨L,_,hf,hn,e,hd⟩,ih (fun b hb=>hs b (by unfold n6;rw [List.filterMap_cons,hf];exact List.mem_cons_of_mem _ hb)) hr⟩
 exact all X.outer (fun _ hb=>hb) I.ok.funs

theorem Inv.stack (I:Inv X pins σ H s):s.heap.FunFrames X.base X.stack:=by
 rcases I.ok.stk with e | ⟨e,hf⟩
 ·rw [e];exact I.funs
 ·rw [e]
  obtain ⟨m,hn,_⟩:=I.loc
  refine .cons (by rw [I.ok.kind];decide) hf hn ?_ I.funs
  exact Heap.get?_none_of_le (Nat.le_trans I.ok.bsz I.ok.above)
theorem Inv.stkSub (I:Inv X pins σ H s):∀ b ∈ n6 X.stack,b ∈ X.env.locals::X.fs:=fun b hb=>by
 rcases I.ok.stk with e | ⟨e,hf⟩
 ·rw [e] at hb;exact List.mem_cons_of_mem _ hb
 ·rw [e] at hb
  unfold n6 at hb
  rw [List.filterMap_cons,hf] at hb
  exact hb
theorem Inv.stkFree (I:Inv X pins σ H s):∀ b ∈ n6 X.stack,H b=none:=fun b hb=>by
 rcases List.mem_cons.mp (I.stkSub b hb) with e | hb
 ·rw [e];exact I.free
 ·obtain ⟨_,o,ho,_⟩:=I.ok.funs.mem hb
  exact I.base.free b o ho (I.ok.frf b hb) fun z=>I.ok.exfs b z hb

theorem Inv.step {g':Array GenState}{t':Nat}{d':Drawn}{ch:List Addr}(I:Inv X pins σ H s)
  (hch:∀ b ∈ ch,(b ∈ X.ex ∨ X.s₀.heap.objs.size<=b)/\b ≠ X.env.locals/\(∀ x c,X.env.cells.lookup x=some c->c ≠ b)/\∀ p ∈ X.pn++pins,p.1 ≠ b)
  (keep:∀ b o,b ≠ X.env.locals->b ∉ X.fs->b ∉ ch->s.heap.get? b=some o->H b=none->h'.get? b=some o)
  (slot:∀ b o,b ≠ X.env.locals->b ∈ X.fs->b ∉ ch->s.heap.get? b=some o->H b=none->∃ sl,h'.get? b=some { o with slots:=sl }) (free:∀ b o,b ∉ ch->s.heap.get? b=some o->H b=none->H' b=none)
  (there:∀ b o,b ∉ ch->s.heap.get? b=some o->∃ o',h'.get? b=some o')
  (tups:∀ b xs,H b=some (.tup xs)->H' b=some (.tup xs)) (frzs:∀ b o u,H b=some (.frz o u)->H' b=some (.frz o u)) (tbls:∀ b ps,H b=some (.tbl ps)->∃ more,H' b=some (.tbl (ps++more)))
  (ns:∀ m,s.heap.Ns X.env.locals m->h'.Ns X.env.locals m) (hok:HOk X.prog X.w H' h') (hg:AllBare g') :
  Inv X pins σ H' { s with heap:=h',gens:=g',drawn:=d',toks:=t' }:=by
 have neL:∀ b o,X.s₀.heap.get? b=some o->b ≠ X.env.locals:=fun b o e=>Nat.ne_of_lt (Nat.lt_of_lt_of_le (Heap.lt_size e) I.ok.above)
 have neC:∀ b o,X.s₀.heap.get? b=some o->b ∉ X.ex->b ∉ ch:=fun b o e hx hb=>by
  rcases (hch b hb).1 with z | z
  ·exact hx z
  ·exact absurd (Nat.lt_of_lt_of_le (Heap.lt_size e) z) (Nat.lt_irrefl _)
 have cellK:∀ x c,X.env.cells.lookup x=some c->∀ v,s.heap.IsCell c v->h'.IsCell c v:=fun x c e v ⟨o,ho,hd⟩=>by
  have nch:c ∉ ch:=fun z=>(hch c z).2.2.1 x c e rfl
  by_cases hc:c ∈ X.fs
  ·obtain ⟨sl,q⟩:=slot c o (I.cne x c e) hc nch ho (I.freeC x c e)
   exact ⟨_,q,hd⟩
  ·exact ⟨o,keep c o (I.cne x c e) hc nch ho (I.freeC x c e),hd⟩
 refine ⟨I.ok,I.os,hg,⟨fun b o e n hb hx=>?_,fun b o e n hb hx=>?_,fun b o e n hx=>?_,fun b o e hx=>?_,fun b xs e=>tups b xs (I.base.tups b xs e),fun b o xs e=>frzs b o xs (I.base.frzs b o xs e),fun b ps e=>?_⟩,?_,fun x c e=>?_,?_,fun x c e=>?_,fun p hp=>?_,hok,I.len⟩
 ·exact keep b o (neL b o e) hb (neC b o e hx) (I.base.keep b o e n hb hx) (I.base.free b o e n hx)
 ·obtain ⟨sl,e1⟩:=I.base.slot b o e n hb hx
  obtain ⟨sl',e2⟩:=slot b _ (neL b o e) hb (neC b o e hx) e1 (I.base.free b o e n hx)
  exact ⟨sl',e2⟩
 ·obtain ⟨o',e1⟩:=I.base.there b o e hx
  exact free b o' (neC b o e hx) e1 (I.base.free b o e n hx)
 ·obtain ⟨o',e1⟩:=I.base.there b o e hx
  exact there b o' (neC b o e hx) e1
 ·obtain ⟨m1,e1⟩:=I.base.tbls b ps e
  obtain ⟨m2,e2⟩:=tbls b _ e1
  exact ⟨m1++m2,by rw [e2,Array.append_assoc]⟩
 ·obtain ⟨m,hn,hl⟩:=I.loc
  refine ⟨m,ns m hn,fun i x v e1 e2 e3=>?_⟩
  obtain ⟨u,r,l⟩:=hl i x v e1 e2 e3
  refine ⟨u,r,?_⟩
  rcases l with l | ⟨k,c,e,z⟩
  ·exact .inl l
  ·exact .inr ⟨k,c,e,cellK x c e _ z⟩
 ·obtain ⟨v,z⟩:=I.cell x c e
  exact ⟨v,cellK x c e v z⟩
 ·obtain ⟨m,⟨o,_,_,ho,_⟩,_⟩:=I.loc
  exact free _ o (fun z=>(hch _ z).2.1 rfl) ho I.free
 ·obtain ⟨v,o,ho,hd⟩:=I.cell x c e
  exact free c o (fun z=>(hch c z).2.2.1 x c e rfl) ho (I.freeC x c e)
 ·obtain ⟨e,n,ne,nf,d⟩:=I.pin p hp
  have nch:p.1 ∉ ch:=fun z=>(hch p.1 z).2.2.2 p hp rfl
  exact ⟨keep p.1 p.2 ne nf nch e n,free p.1 p.2 nch e n,ne,nf,d⟩
theorem Inv.un {t':Nat}(I:Inv X pins σ H s)(u:Un X.fs [] H H' s.heap h')(hok:HOk X.prog X.w H' h'):Inv X pins σ H' { s with heap:=h',toks:=t' }:=by
 obtain ⟨m,⟨o,es,ep,ho,r⟩,_⟩:=id I.loc
 obtain ⟨sl,hL⟩:=u.any ho I.free (by simp)
 exact I.step (g':=s.gens) (d':=s.drawn) (ch:=[]) (fun _ z=>nomatch z) (fun b o _ hb _ e n=>u.keep b o e n hb (by simp)) (fun b o _ hb _ e n=>u.slot b o e n hb (by simp)) (fun b o _ e n=>u.free b o e n (by simp)) (fun b o _ e=>u.there b o e (by simp)) u.tups u.frzs u.tbls (fun m' hm=>by
  obtain ⟨o',es',ep',ho',r'⟩:=hm
  rw [ho] at ho';cases ho'
  exact ⟨_,es',ep',hL,r'⟩) hok I.bare
theorem Inv.call {g':Array GenState}{t':Nat}{d':Drawn}{ch:List Addr}(I:Inv X pins σ H s)(u:Un (n6 X.stack) ch H H' s.heap h')(hok:HOk X.prog X.w H' h')(hg:AllBare g')
  (hch:∀ b ∈ ch,(b ∈ X.ex ∨ X.s₀.heap.objs.size<=b)/\b ≠ X.env.locals/\(∀ x c,X.env.cells.lookup x=some c->c ≠ b)/\∀ p ∈ X.pn++pins,p.1 ≠ b) :
  Inv X pins σ H' { s with heap:=h',gens:=g',drawn:=d',toks:=t' }:=by
 obtain ⟨m,⟨o,es,ep,ho,r⟩,_⟩:=id I.loc
 obtain ⟨sl,hL⟩:=u.any ho I.free fun z=>(hch _ z).2.1 rfl
 exact I.step (ch:=ch) hch (fun b o hL hb hc e n=>u.keep b o e n (fun z=>(List.mem_cons.mp (I.stkSub b z)).elim hL hb) hc) (fun b o _ _ hc e n=>u.any e n hc) (fun b o hc e n=>u.free b o e n hc) (fun b o hc e=>u.there b o e hc) u.tups u.frzs u.tbls (fun m' hm=>by
  obtain ⟨o',es',ep',ho',r'⟩:=hm
  rw [ho] at ho';cases ho'
  exact ⟨_,es',ep',hL,r'⟩) hok hg
theorem Inv.turned {t':Nat}{it:Addr}(I:Inv X pins σ H s)(k:∀ b o,b ≠ it->s.heap.get? b=some o->h'.get? b=some o)(hn:H it=none)(hL:it ≠ X.env.locals)
  (h1:it ∈ X.ex ∨ X.s₀.heap.objs.size<=it) (h2:∀ x c,X.env.cells.lookup x=some c->c ≠ it) (h3:∀ p ∈ X.pn++pins,p.1 ≠ it):Inv X pins σ H { s with heap:=h',toks:=t' }:=by
 have nit:∀ b u,H b=some u->b ≠ it:=fun b u e z=>by rw [z,hn] at e;cases e
 refine I.step (g':=s.gens) (d':=s.drawn) (ch:=[it]) (fun b hb=>?_) (fun b o _ _ hc e _=>k b o (fun z=>hc (by simp [z])) e) (fun b o _ _ hc e _=>⟨o.slots,k b o (fun z=>hc (by simp [z])) e⟩) (fun _ _ _ _ n=>n)
  (fun b o hc e=>⟨o,k b o (fun z=>hc (by simp [z])) e⟩) (fun _ _ e=>e) (fun _ _ _ e=>e) (fun b ps e=>⟨#[],by rw [e];simp⟩) (fun m hm=>?_) (fun b u e=>?_) I.bare
 ·have e:b=it:=by simpa using hb
  subst e
  exact ⟨h1,hL,h2,h3⟩
 ·obtain ⟨o,es,ep,ho,r⟩:=hm
  exact ⟨o,es,ep,k _ o (Ne.symm hL) ho,r⟩
 ·refine (I.hok b u e).stay (fun c v hc q=>k c v ?_ q) (fun _ q=>q) fun _ _ q=>q
  rcases hc with z | z
  ·rw [z];exact nit b u e
  ·exact nit c _ z
theorem Inv.tok (I:Inv X pins σ H s)(t:Nat):Inv X pins σ H { s with toks:=t }:=I.un (h':=s.heap) (t':=t) Un.refl I.hok
theorem Inv.kept {t':Nat}(I:Inv X pins σ H s)(k:∀ b u,s.heap.get? b=some u->h'.get? b=some u):Inv X pins σ H { s with heap:=h',toks:=t' }:=I.un (Un.kept k) (I.hok.kept k)
theorem Inv.laid {a:Addr}{o:HO}{t':Nat}(I:Inv X pins σ H s)(k:∀ b u,s.heap.get? b=some u->h'.get? b=some u)(hp:s.heap.objs.size<=a)(new:ObjOk X.prog X.w (j9 H a o) h' a o) :
  Inv X pins σ (j9 H a o) { s with heap:=h',toks:=t' }:=I.un (Un.laid k hp (I.hok.fresh hp)) (I.hok.laid k hp new)
theorem Inv.write {x e:Addr}{o:HO}{t':Nat}(I:Inv X pins σ H s)(mu:Mut (H x))(he:e=x ∨ H e=some (.own x))(k:∀ b u,b ≠ e->s.heap.get? b=some u->h'.get? b=some u)(heo:∃ u,h'.get? e=some u)
  (new:ObjOk X.prog X.w (j9 H x o) h' x o):Inv X pins σ (j9 H x o) { s with heap:=h',toks:=t' }:=I.un (Un.write mu he k heo) (I.hok.write mu he k heo new)
theorem Inv.weak {σ':List (Option V)}(I:Inv X pins σ H s)(hl:σ'.length=σ.length)(w:∀ (i:Nat) v,σ'[i]?=some (some v)->σ[i]?=some (some v)):Inv X pins σ' H s :=
 ⟨I.ok,I.os,I.bare,I.base,let ⟨m,hn,hl'⟩:=I.loc;⟨m,hn,fun i x v e1 e2 e3=>hl' i x v e1 (w i v e2) e3⟩,I.cell,I.free,I.freeC,I.pin,I.hok,hl.trans I.len⟩
theorem Inv.pins_of {pins':List (Addr × Obj)}(I:Inv X pins σ H s)(h:∀ p ∈ pins',s.heap.get? p.1=some p.2/\H p.1=none/\p.1 ≠ X.env.locals/\p.1 ∉ X.fs/\∀ v,p.2.data ≠ .cell v):Inv X pins' σ H s :=
 ⟨I.ok,I.os,I.bare,I.base,I.loc,I.cell,I.free,I.freeC,fun p hp=>(List.mem_append.mp hp).elim (fun z=>I.pin p (List.mem_append_left _ z)) (h p),I.hok,I.len⟩

theorem WC {N:List Str}(hN:N.Nodup){i j:Nat}{x:Str}(a:N[i]?=some x)(b:N[j]?=some x):i=j:=by
 obtain ⟨h1,e1⟩:=List.getElem?_eq_some_iff.mp a
 obtain ⟨h2,e2⟩:=List.getElem?_eq_some_iff.mp b
 exact (List.getElem_inj hN).mp (e1.trans e2.symm)

theorem BE {M:Model}{A:Around}{E:Value->Shared->Prop}{i:Nat}{x:Str}{v:V}{u:Value}{Q:Unit->Shared->Prop}(I:Inv X pins σ H s)(hN:X.N.Nodup)(hi:X.N[i]?=some x)(hx:Loc X.env.scope x)(r:RelV v u)
  (h:∀ s',Inv X pins (σ.set i (some v)) H s'->(∃ a,Heap.SameBut a s.heap s'.heap/\(a=X.env.locals ∨ X.env.cells.lookup x=some a))->Q () s') (hf:X.fn x=true ∨ X.env.scope.names.lookup x=some .local:=by first | exact .inl rfl | exact .inr rfl | assumption):wpAny M A (storeName X.env x u) Q E s:=by
 obtain ⟨m,hn,hl⟩:=id I.loc
 have hcls:(X.env.scope.kind == .class || (X.env.scope.kind == .module && X.env.locals != X.env.globals))=false:=by rw [I.ok.kind];rfl
 have hiσ:i < σ.length:=by rw [I.len];exact (List.getElem?_eq_some_iff.mp hi).1
 have cne:=I.cne
 have tracked:∀ {a:Addr} {h':Heap},(∃ o,s.heap.get? a=some o/\H a=none)->Heap.SameBut a s.heap h'->HOk X.prog X.w H h':=fun {a h'} ha hs b ob e=>by
  obtain ⟨_,_,hfree⟩:=ha
  refine (I.hok b ob e).stay (fun c w' hc q=>(hs.2 c ?_).trans q) (fun _ q=>q) fun _ _ q=>q
  rintro rfl
  rcases hc with rfl | hc
  ·rw [hfree] at e;cases e
  ·rw [hfree] at hc;cases hc
 rcases hx with hk | hk
 ·refine wpAny_storeName_local hk hn (fun h' hn' hs=>?_) hcls
  obtain ⟨oL,_,_,hoL,_⟩:=id hn
  refine h _ ⟨I.ok,I.os,I.bare,⟨fun b o e n hb hx=>?_,fun b o e n hb hx=>?_,I.base.free,fun b o e hx=>?_,I.base.tups,I.base.frzs,I.base.tbls⟩,⟨_,hn',fun j y v' e1 e2 e3=>?_⟩,fun y c e=>?_,I.free,I.freeC,fun p hp=>?_,tracked ⟨oL,hoL,I.free⟩ hs,by simpa using I.len⟩ ⟨_,hs,.inl rfl⟩
  ·exact (hs.2 b (Nat.ne_of_lt (Nat.lt_of_lt_of_le (Heap.lt_size e) I.ok.above))).trans (I.base.keep b o e n hb hx)
  ·obtain ⟨sl,e1⟩:=I.base.slot b o e n hb hx
   exact ⟨sl,(hs.2 b (Nat.ne_of_lt (Nat.lt_of_lt_of_le (Heap.lt_size e) I.ok.above))).trans e1⟩
  ·obtain ⟨o',e1⟩:=I.base.there b o e hx
   exact ⟨o',(hs.2 b (Nat.ne_of_lt (Nat.lt_of_lt_of_le (Heap.lt_size e) I.ok.above))).trans e1⟩
  ·by_cases hj:j=i
   ·subst hj
    rw [hi] at e1;cases e1
    rw [List.getElem?_set_self hiσ] at e2
    cases e2
    exact ⟨u,r,.inl ⟨hk,by simp⟩⟩
   ·rw [List.getElem?_set_ne (Ne.symm hj)] at e2
    obtain ⟨u',r',q⟩:=hl j y v' e1 e2 e3
    refine ⟨u',r',?_⟩
    rcases q with ⟨k,e⟩ | ⟨k,c,e,z⟩
    ·refine .inl ⟨k,?_⟩
     have:y ≠ x:=fun e=>hj (WC hN e1 (e ▸ hi))
     simp [this,e]
    ·exact .inr ⟨k,c,e,z.sameBut hs (cne y c e)⟩
  ·obtain ⟨w',z⟩:=I.cell y c e
   exact ⟨w',z.sameBut hs (cne y c e)⟩
  ·obtain ⟨e,n,ne,nf,d⟩:=I.pin p hp
   exact ⟨(hs.2 p.1 ne).trans e,n,ne,nf,d⟩
 ·have hfn:X.fn x=true:=by
   rcases hf with z | z
   ·exact z
   ·rw [z] at hk;cases hk
  obtain ⟨c,hc⟩:=I.ok.has x (.inl hk)
  obtain ⟨w',z⟩:=I.cell x c hc
  refine wpAny_storeName_cell I.ok.kind hk hc z (fun h' hc' hs=>?_)
  obtain ⟨oc,hoc,hocd⟩:=id z
  refine h { s with heap:=h' } ⟨I.ok,I.os,I.bare,⟨fun b o e n hb hx=>?_,fun b o e n hb hx=>?_,I.base.free,fun b o e hx=>?_,I.base.tups,I.base.frzs,I.base.tbls⟩,⟨m,hn.sameBut hs (Ne.symm (cne x c hc)),fun j y v' e1 e2 e3=>?_⟩,fun y c' e=>?_,I.free,I.freeC,fun p hp=>?_,tracked ⟨oc,hoc,I.freeC x c hc⟩ hs,by simpa using I.len⟩ ⟨c,hs,.inr hc⟩
  ·exact (hs.2 b (Nat.ne_of_lt (Nat.lt_of_lt_of_le (Heap.lt_size e) (I.ok.cab x c hfn hc)))).trans (I.base.keep b o e n hb hx)
  ·obtain ⟨sl,e1⟩:=I.base.slot b o e n hb hx
   exact ⟨sl,(hs.2 b (Nat.ne_of_lt (Nat.lt_of_lt_of_le (Heap.lt_size e) (I.ok.cab x c hfn hc)))).trans e1⟩
  ·obtain ⟨o',e1⟩:=I.base.there b o e hx
   exact ⟨o',(hs.2 b (Nat.ne_of_lt (Nat.lt_of_lt_of_le (Heap.lt_size e) (I.ok.cab x c hfn hc)))).trans e1⟩
  ·by_cases hj:j=i
   ·subst hj
    rw [hi] at e1;cases e1
    rw [List.getElem?_set_self hiσ] at e2
    cases e2
    exact ⟨u,r,.inr ⟨.inl hk,c,hc,hc'⟩⟩
   ·rw [List.getElem?_set_ne (Ne.symm hj)] at e2
    obtain ⟨u',r',q⟩:=hl j y v' e1 e2 e3
    refine ⟨u',r',?_⟩
    rcases q with q | ⟨k,c',e,z'⟩
    ·exact .inl q
    ·refine .inr ⟨k,c',e,z'.sameBut hs ?_⟩
     rintro rfl
     exact hj (WC hN e1 (I.ok.inj _ _ _ e hc ▸ hi))
  ·by_cases hcc:c'=c
   ·subst hcc;exact ⟨_,hc'⟩
   ·obtain ⟨w2,z2⟩:=I.cell y c' e
    exact ⟨w2,z2.sameBut hs hcc⟩
  ·obtain ⟨e,n,ne,nf,d⟩:=I.pin p hp
   refine ⟨(hs.2 p.1 ?_).trans e,n,ne,nf,d⟩
   intro q
   rw [q,hoc] at e
   have q':oc=p.2:=Option.some.inj e
   exact d w' (by rw [<- q'];exact hocd)
theorem Ye {M:Model}{A:Around}{E:Value->Shared->Prop}{i:Nat}{x:Str}{v:V}{u:Value}{Q:Unit->Shared->Prop}(I:Inv X pins σ H s)(hN:X.N.Nodup)(hi:X.N[i]?=some x)(hx:Loc X.env.scope x)(r:RelV v u)
  (h:∀ s',Inv X pins (σ.set i (some v)) H s'->Q () s') (hf:X.fn x=true ∨ X.env.scope.names.lookup x=some .local:=by first | exact .inl rfl | exact .inr rfl | assumption):wpAny M A (storeName X.env x u) Q E s :=
 BE I hN hi hx r (fun s' I' _=>h s' I') hf
theorem Inv.call' {s':Shared}{ch:List Addr}(I:Inv X pins σ H s)(ho:s'.os=s.os)(u:Un (n6 X.stack) ch H H' s.heap s'.heap)(hok:HOk X.prog X.w H' s'.heap)(hg:AllBare s'.gens)
  (hch:∀ b ∈ ch,(b ∈ X.ex ∨ X.s₀.heap.objs.size<=b)/\b ≠ X.env.locals/\(∀ x c,X.env.cells.lookup x=some c->c ≠ b)/\∀ p ∈ X.pn++pins,p.1 ≠ b):Inv X pins σ H' s':=by
 obtain ⟨h',g',d',t',o'⟩:=s'
 have e:o'=s.os:=ho
 subst e
 exact I.call (g':=g') (t':=t') (d':=d') u hok hg hch
end
abbrev XK:=Value->Option Addr->Hp->Prop
abbrev St:=List (Option V)
abbrev VK:=V->Hp->Prop
abbrev TE:=St->Hp->VK->Prop
abbrev TT:=St->Hp->(Bool->Hp->Prop)->Prop
abbrev TA:=St->Hp->(List V->Hp->Prop)->Prop
structure qL where
 nx:St->Hp->Prop
 rt:VK
 bk:St->Hp->Prop:=fun _ _=>False
 ct:St->Hp->Prop:=fun _ _=>False
abbrev TS:=qL->St->Hp->Prop

def EP (X:Cx)(pins:List (Addr × Obj))(σ:St)(Q:VK)(u:Value)(s':Shared):Prop:=∃ v H',Inv X pins σ H' s'/\RelV v u/\Q v H'
def TP (X:Cx)(pins:List (Addr × Obj))(σ:St)(Q:Bool->Hp->Prop)(b:Bool)(s':Shared):Prop:=∃ H',Inv X pins σ H' s'/\Q b H'
def AP (X:Cx)(pins:List (Addr × Obj))(σ:St)(Q:List V->Hp->Prop)(us:List Value)(s':Shared):Prop:=∃ vs H',Inv X pins σ H' s'/\Vals vs us/\Q vs H'
def SP (X:Cx)(pins:List (Addr × Obj))(D:qL)(f:Flow)(s':Shared):Prop :=
 match f with
 | .next=>∃ σ' H',Inv X pins σ' H' s'/\D.nx σ' H'
 | .brk=>∃ σ' H',Inv X pins σ' H' s'/\D.bk σ' H'
 | .cont=>∃ σ' H',Inv X pins σ' H' s'/\D.ct σ' H'
 | .ret u=>∃ v σ' H',Inv X pins σ' H' s'/\RelV v u/\D.rt v H'

def PE (X:Cx)(e:Expr)(t:TE):Prop :=
 ∀ (pins:List (Addr × Obj)) (s:Shared) (σ:St) (H:Hp) (Q:VK),Inv X pins σ H s->t σ H Q->wpAny (model X.prog X.w) X.A (eval e X.env) (EP X pins σ Q) X.xe s
def PT (X:Cx)(e:Expr)(t:TT):Prop :=
 ∀ (pins:List (Addr × Obj)) (s:Shared) (σ:St) (H:Hp) (Q:Bool->Hp->Prop),Inv X pins σ H s->t σ H Q->wpAny (model X.prog X.w) X.A (isTrue e X.env (eval e X.env)) (TP X pins σ Q) X.xe s
def PW (X:Cx)(e:Expr)(t:TT):Prop :=
 ∀ (whole:Sem Value) (pins:List (Addr × Obj)) (s:Shared) (σ:St) (H:Hp) (Q:Bool->Hp->Prop),Inv X pins σ H s->t σ H Q->wpAny (model X.prog X.w) X.A (isTrue e X.env whole) (TP X pins σ Q) X.xe s
theorem PW.pt {X:Cx}{e:Expr}{t:TT}(h:PW X e t):PT X e t:=h _
def PA (X:Cx)(es:List Expr)(t:TA):Prop :=
 ∀ (pos:Pos) (pins:List (Addr × Obj)) (s:Shared) (σ:St) (H:Hp) (Q:List V->Hp->Prop),Inv X pins σ H s->t σ H Q->wpAny (model X.prog X.w) X.A (spliced (backTo pos (starEach es X.env))) (AP X pins σ Q) X.xe s
def PS (X:Cx)(st:Stmt)(t:TS):Prop :=
 ∀ (pins:List (Addr × Obj)) (s:Shared) (σ:St) (H:Hp) (D:qL),Inv X pins σ H s->t D σ H->wpAny (model X.prog X.w) X.A (exec st X.env) (SP X pins D) X.xe s
def PSs (X:Cx)(st:List Stmt)(t:TS):Prop :=
 ∀ (pins:List (Addr × Obj)) (s:Shared) (σ:St) (H:Hp) (D:qL),Inv X pins σ H s->t D σ H->wpAny (model X.prog X.w) X.A (execs st X.env) (SP X pins D) X.xe s
theorem j3 {α:Type}{t:Sem α}{Q Q':α->Shared->Prop}{M:Model}{A:Around}{E:Value->Shared->Prop}{s:Shared}(h:wpAny M A t Q E s)(hQ:∀ a s,Q a s->Q' a s):wpAny M A t Q' E s:=wpAny_mono h hQ fun _ _ x=>x
end L2
namespace L2
open PySem PySem.Spec PyProof.Rows
section
variable {X:Cx}
theorem bin {a b:Expr}{ta tb:TE}(ha:PE X a ta)(hb:PE X b tb){pins:List (Addr × Obj)}{s:Shared}{σ:St}{H:Hp}{R:V->V->Hp->Prop}(I:Inv X pins σ H s)(h:ta σ H fun x H1=>tb σ H1 fun y H2=>R x y H2)
  {α:Type} {Q:α->Shared->Prop} {f:Value->Value->Sem α}
  (hf:∀ v u s2 x y H2,Inv X pins σ H2 s2->RelV x v->RelV y u->R x y H2->wpAny (model X.prog X.w) X.A (f v u) Q X.xe s2) :
  wpAny (model X.prog X.w) X.A (eval a X.env) (fun v s₁=>wpAny (model X.prog X.w) X.A (eval b X.env) (fun u s₂=>wpAny (model X.prog X.w) X.A (f v u) Q X.xe s₂) X.xe s₁) X.xe s:=by
 refine j3 (ha pins s σ H _ I h) fun v s1 ⟨x,H1,I1,r1,q1⟩=>?_
 refine j3 (hb pins s1 σ H1 _ I1 q1) fun u s2 ⟨y,H2,I2,r2,q2⟩=>?_
 exact hf v u s2 x y H2 I2 r1 r2 q2

def xI (i:Nat):TE:=fun σ H Q=>∃ v,σ[i]?=some (some v)/\Q v H
def tC (v:V):TE:=fun _ H Q=>Q v H
theorem HA {i:Nat}{x:Str}{pos:Pos}(hN:X.N[i]?=some x)(hv:Vis X.env.scope x)(hd:(x == ("__debug__":Str))=false:=by decide) (hcd:(x == ("__classdict__":Str))=false:=by decide):PE X (.Name x pos) (xI i):=by
 intro pins s σ H Q I h
 obtain ⟨v,e,h⟩:=h
 obtain ⟨m,hn,hl⟩:=I.loc
 obtain ⟨u,r,l⟩:=hl i x v hN e hv
 have fin:EP X pins σ Q u s:=⟨v,H,I,r,h⟩
 rcases l with ⟨hk,hm⟩ | ⟨hk,c,hc,hcell⟩
 ·exact wpAny_Name (wpAny_loadName_local I.ok.kind hk hn hm fin) hd
 ·rcases hk with hk | hk
  ·exact wpAny_Name (wpAny_loadName_cell I.ok.kind hk hc hcell fin) hd
  ·exact wpAny_Name (wpAny_loadName_free I.ok.kind hk hc hcell fin hcd) hd
theorem z7 {i j pos}:PE X (.Constant (.int i) j pos) (tC (.int i)):=fun _ _ _ H _ I h=>wpAny_Constant_int ⟨.int i,H,I.tok _,⟨_,rfl⟩,h⟩
theorem qQ {b j pos}:PE X (.Constant (.bool b) j pos) (tC (.bl b)):=fun _ _ _ H _ I h=>Constant_bool ⟨.bl b,H,I,rfl,h⟩
theorem Qi {j pos}:PE X (.Constant .none j pos) (tC .non):=fun _ _ _ H _ I h=>Constant_none ⟨.non,H,I,rfl,h⟩
theorem zD {x j pos}:PE X (.Constant (.str x) j pos) (tC (.str x)):=fun _ _ _ H _ I h=>Calls.Constant_str ⟨.str x,H,I.tok _,⟨_,rfl⟩,h⟩

def Gl (X:Cx)(x:Str):Prop:=X.env.kindOf x=some .globalImplicit
theorem wV {E:Value->Shared->Prop}{pins:List (Addr × Obj)}{s:Shared}{σ:St}{H:Hp}{x:Str}{u:Value}{pos:Pos}{Q:Value->Shared->Prop}(I:Inv X pins σ H s)(hg:Gl X x)(hm:X.mg x=some u)(h:Q u s)
  (hd:(x == ("__debug__":Str))=false:=by decide):wpAny (model X.prog X.w) X.A (eval (.Name x pos) X.env) Q E s :=
 Calls.Name_function_global I.ok.kind hg (Calls.loadGlobal_global (by rw [I.ok.glob];exact I.mod.glob.keeps I.bk) hm h) hd
theorem vi {E:Value->Shared->Prop}{pins:List (Addr × Obj)}{s:Shared}{σ:St}{H:Hp}{x:Str}{u:Value}{pos:Pos}{Q:Value->Shared->Prop}(I:Inv X pins σ H s)(hg:Gl X x)(hm:X.mg x=none)(hv:bootBuiltins x=some u)(h:Q u s)
  (hn:x ≠ "__name__":=by decide) (hd:(x == ("__debug__":Str))=false:=by decide):wpAny (model X.prog X.w) X.A (eval (.Name x pos) X.env) Q E s:=by
 obtain ⟨mb,h1,h2⟩:=I.mod.blt
 exact Calls.Name_function_global I.ok.kind hg (Calls.loadGlobal_builtin (by rw [I.ok.glob];exact I.mod.glob.keeps I.bk) hm (by rw [I.ok.blt];exact h1.keeps I.bk) ((h2 x hn).trans hv) h) hd
theorem vp {x:Str}{v:V}{u:Value}{pos:Pos}(hg:Gl X x)(hm:X.mg x=some u)(r:RelV v u)(hd:(x == ("__debug__":Str))=false:=by decide):PE X (.Name x pos) (tC v) :=
 fun _ _ _ H _ I h=>wV I hg hm ⟨v,H,I,r,h⟩ hd
theorem jO {x:Str}{v:V}{u:Value}{pos:Pos}(hg:Gl X x)(hm:X.mg x=none)(hv:bootBuiltins x=some u)(r:RelV v u)(hn:x ≠ "__name__":=by decide) (hd:(x == ("__debug__":Str))=false:=by decide):PE X (.Name x pos) (tC v) :=
 fun _ _ _ H _ I h=>vi I hg hm hv ⟨v,H,I,r,h⟩ hn hd

variable {a b:Expr}{ta tb:TE}{pos:Pos}
def PC (X:Cx)(op:CmpOp)(a b:Expr)(t:TE):Prop :=
 ∀ (pins:List (Addr × Obj)) (s:Shared) (σ:St) (H:Hp) (Q:VK),Inv X pins σ H s->t σ H Q ->
  wpAny (model X.prog X.w) X.A (eval a X.env) (fun v s₁=>wpAny (model X.prog X.w) X.A (eval b X.env) (fun u s₂=>wpAny (model X.prog X.w) X.A (compareOp op v u) (EP X pins σ Q) X.xe s₂) X.xe s₁) X.xe s
def tB (t:TE):TT:=fun σ H Q=>t σ H fun x H1=>∃ c,x = .bl c/\Q c H1
theorem KH {op:CmpOp}{t:TE}(h:PC X op a b t)(h1:behindInMarks op b=false:=by first | exact nobehind _ (by decide) (by decide) | rfl):PT X (.Compare a [op] [b] pos) (tB t):=by
 intro pins s σ H Q I hw
 refine wpAny_isTrue_Compare1 (j3 (h pins s σ H _ I hw) fun v s1 h1=>j3 h1 fun u s2 h2=>j3 h2 fun c s3 ⟨x,H1,I1,r1,q1⟩=>?_) h1
 obtain ⟨d,rfl,q⟩:=q1
 cases r1
 exact wpAny_truthy_bool ⟨H1,I1,q⟩
variable {tA tB':TT}{rest:List Expr}
def tAnd (t u:TT):TT:=fun σ H Q=>t σ H fun c H1=>if c=true then u σ H1 Q else Q false H1
def tOr (t u:TT):TT:=fun σ H Q=>t σ H fun c H1=>if c=true then Q true H1 else u σ H1 Q
def tNot (t:TT):TT:=fun σ H Q=>t σ H fun c H1=>Q (!c) H1
theorem Jh (ha:PT X a tA):PW X (.BoolOp .And [a] pos) tA:=by
 intro wh pins s σ H Q I h
 refine isTrue_and (j3 (ha pins s σ H Q I h) fun c s1 e=>?_)
 cases c with
 | true=>exact isTrue_and_nil e
 | false=>exact e
theorem vy (ha:PT X a tA):PW X (.BoolOp .Or [a] pos) tA:=by
 intro wh pins s σ H Q I h
 refine isTrue_or (j3 (ha pins s σ H Q I h) fun c s1 e=>?_)
 cases c with
 | false=>exact isTrue_or_nil e
 | true=>exact e
theorem Jg (ha:PT X a tA)(hb:PW X (.BoolOp .And (b::rest) pos) tB'):PW X (.BoolOp .And (a::b::rest) pos) (tAnd tA tB'):=by
 intro wh pins s σ H Q I h
 refine isTrue_and (j3 (ha pins s σ H _ I h) fun c s1 ⟨H1,I1,q1⟩=>?_)
 cases c with
 | true=>exact hb wh pins s1 σ H1 Q I1 q1
 | false=>exact ⟨H1,I1,q1⟩
theorem jr (ha:PT X a tA)(hb:PW X (.BoolOp .Or (b::rest) pos) tB'):PW X (.BoolOp .Or (a::b::rest) pos) (tOr tA tB'):=by
 intro wh pins s σ H Q I h
 refine isTrue_or (j3 (ha pins s σ H _ I h) fun c s1 ⟨H1,I1,q1⟩=>?_)
 cases c with
 | true=>exact ⟨H1,I1,q1⟩
 | false=>exact hb wh pins s1 σ H1 Q I1 q1
theorem xm (ha:PT X a tA):PT X (.UnaryOp .Not a pos) (tNot tA):=by
 intro pins s σ H Q I h
 exact isTrue_not (ha pins s σ H (fun c H1=>Q (!c) H1) I h)
def BH (ta tb:TE):TE:=fun σ H Q=>ta σ H fun x H1=>∃ c,x = .bl c/\if c=true then tb σ H1 Q else Q (.bl false) H1
def tOrV (ta tb:TE):TE:=fun σ H Q=>ta σ H fun x H1=>∃ c,x = .bl c/\if c=true then Q (.bl true) H1 else tb σ H1 Q
def BM (ta:TE):TE:=fun σ H Q=>ta σ H fun x H1=>∃ c,x = .bl c/\Q (.bl (!c)) H1
theorem vq {op}{t:TE}(h:PE X a t):PE X (.BoolOp op [a] pos) t:=fun pins s σ H Q I hw=>BoolOp_one (h pins s σ H Q I hw)
theorem vo (ha:PE X a ta)(hb:PE X (.BoolOp .And (b::rest) pos) tb):PE X (.BoolOp .And (a::b::rest) pos) (BH ta tb):=by
 intro pins s σ H Q I h
 refine BoolOp_and (j3 (ha pins s σ H _ I h) fun v s1 ⟨x,H1,I1,r1,q1⟩=>?_)
 obtain ⟨c,rfl,q1⟩:=q1
 cases r1
 refine wpAny_truthy_bool ?_
 cases c with
 | true=>exact hb pins s1 σ H1 Q I1 q1
 | false=>exact ⟨.bl false,H1,I1,rfl,q1⟩
theorem pe_or (ha:PE X a ta)(hb:PE X (.BoolOp .Or (b::rest) pos) tb):PE X (.BoolOp .Or (a::b::rest) pos) (tOrV ta tb):=by
 intro pins s σ H Q I h
 refine BoolOp_or (j3 (ha pins s σ H _ I h) fun v s1 ⟨x,H1,I1,r1,q1⟩=>?_)
 obtain ⟨c,rfl,q1⟩:=q1
 cases r1
 refine wpAny_truthy_bool ?_
 cases c with
 | false=>exact hb pins s1 σ H1 Q I1 q1
 | true=>exact ⟨.bl true,H1,I1,rfl,q1⟩
theorem Hw (ha:PE X a ta):PE X (.UnaryOp .Not a pos) (BM ta):=by
 intro pins s σ H Q I h
 refine UnaryOp_ (j3 (ha pins s σ H _ I h) fun v s1 ⟨x,H1,I1,r1,q1⟩=>?_)
 obtain ⟨c,rfl,q1⟩:=q1
 cases r1
 exact not_of (wpAny_truthy_bool ⟨.bl (!c),H1,I1,rfl,q1⟩)
def tIf (t:TT)(ta tb:TE):TE:=fun σ H Q=>t σ H fun c H1=>if c=true then ta σ H1 Q else tb σ H1 Q
theorem Xx {c:Expr}(hc:PT X c tA)(ha:PE X a ta)(hb:PE X b tb):PE X (.IfExp c a b pos) (tIf tA ta tb):=by
 intro pins s σ H Q I h
 refine wpAny_IfExp (j3 (hc pins s σ H _ I h) fun d s1 ⟨H1,I1,q1⟩=>?_)
 cases d with
 | true=>exact ha pins s1 σ H1 Q I1 q1
 | false=>exact hb pins s1 σ H1 Q I1 q1
end
end L2
namespace L2
open PySem PySem.Spec PyProof.Rows
def SqL (K:Fg)(H:Hp)(a:Addr)(xs:List V):Prop :=
 Rd H a (.lst xs) ∨
  ∃ (o:Obj) (its:Array Value) (n:Nat),K.lookup a=some o/\o.cls = .type "list"/\o.dict=none/\o.data = .seq its n/\its.size<=sizeLine/\Vals xs its.toList
def SqT (K:Fg)(H:Hp)(a:Addr)(xs:List V):Prop :=
 Rd H a (.tup xs) ∨
  ∃ (o:Obj) (its:Array Value) (n:Nat),K.lookup a=some o/\o.cls = .type "tuple"/\o.data = .seq its n/\its.size<=sizeLine/\Vals xs its.toList
def absV:Value->Option V
 | .none=>some .non
 | .bool b=>some (.bl b)
 | .int i _=>some (.int i)
 | .str x _=>some (.str x)
 | .bytes b _=>some (.byt b)
 | .float b _=>some (.flt b)
 | .ref a=>some (.ref a)
 | .type n=>some (.ty n)
 | _=>none
theorem RelV.abs {x:V}{u:Value}(r:RelV x u):absV u=some x:=by
 cases x with
 | non=>cases r;rfl
 | bl _=>cases r;rfl
 | int _=>obtain ⟨t,rfl⟩:=r;rfl
 | str _=>obtain ⟨t,rfl⟩:=r;rfl
 | byt _=>obtain ⟨t,rfl⟩:=r;rfl
 | flt _=>obtain ⟨t,rfl⟩:=r;rfl
 | ref _=>cases r;rfl
 | ty _=>cases r;rfl
theorem RelV.inj {x y:V}{u:Value}(r:RelV x u)(q:RelV y u):x=y:=Option.some.inj (r.abs.symm.trans q.abs)
theorem Vals.inj:∀ {xs ys:List V} {us:List Value},Vals xs us->Vals ys us->xs=ys
 | _,_,_,.nil,.nil=>rfl
 | _,_,_,.cons r t,.cons r' t'=>by rw [r.inj r',Vals.inj t t']
section
variable {X:Cx}{pins:List (Addr × Obj)}{σ:St}{H:Hp}{s:Shared}{a:Addr}{xs ys:List V}
theorem SqL.of {K:Fg}(h:H a=some (.lst xs)):SqL K H a xs:= .inl (.inl h)
theorem SqT.of {K:Fg}(h:H a=some (.tup xs)):SqT K H a xs:= .inl (.inl h)
theorem Inv.list (I:Inv X pins σ H s)(h:SqL X.K H a xs):∃ its:List Value,Vals xs its/\PlainL s.heap a its.toArray/\xs.length<=sizeLine:=by
 rcases h with h | ⟨o,its,n,hk,hc,hd,hs,hz,r⟩
 ·obtain ⟨z,its,n,r,e⟩:=h.ok I.hok
  exact ⟨its,r,⟨_,n,e,rfl,rfl,rfl⟩,z⟩
 ·refine ⟨its.toList,r,⟨o,n,I.kIn a o hk,hc,hd,by simpa using hs⟩,?_⟩
  have e:=r.length
  simp only [Array.length_toList] at e
  omega
theorem Inv.tuple (I:Inv X pins σ H s)(h:SqT X.K H a xs):∃ its:List Value,Vals xs its/\IsTup s.heap a its.toArray/\xs.length<=sizeLine:=by
 rcases h with h | ⟨o,its,n,hk,hc,hs,hz,r⟩
 ·obtain ⟨z,its,r,p⟩:=h.ok I.hok
  exact ⟨its,r,p,z⟩
 ·refine ⟨its.toList,r,⟨o,I.kIn a o hk,hc,n,by simpa using hs⟩,?_⟩
  have e:=r.length
  simp only [Array.length_toList] at e
  omega
theorem Inv.list_inj (I:Inv X pins σ H s)(h:SqL X.K H a xs)(h':SqL X.K H a ys):xs=ys:=by
 obtain ⟨its,r,⟨o,n,e,_,_,d⟩,_⟩:=I.list h
 obtain ⟨its',r',⟨o',n',e',_,_,d'⟩,_⟩:=I.list h'
 rw [e] at e';cases e'
 rw [d] at d'
 injection d' with d1 _
 have:its=its':=by simpa using congrArg Array.toList d1
 subst this
 exact r.inj r'
theorem Inv.tuple_inj (I:Inv X pins σ H s)(h:SqT X.K H a xs)(h':SqT X.K H a ys):xs=ys:=by
 obtain ⟨its,r,⟨o,e,_,n,d⟩,_⟩:=I.tuple h
 obtain ⟨its',r',⟨o',e',_,n',d'⟩,_⟩:=I.tuple h'
 rw [e] at e';cases e'
 rw [d] at d'
 injection d' with d1 _
 have:its=its':=by simpa using congrArg Array.toList d1
 subst this
 exact r.inj r'
end
abbrev Cx.wish (X:Cx)(E:Value->Shared->Prop):Cx:={ X with xe:=E }
abbrev Cx.nox (X:Cx):Cx:=X.wish fun _ _=>False
theorem Cx.Ok.wish {X:Cx}(ok:X.Ok)(E:Value->Shared->Prop):(X.wish E).Ok :=
 ⟨ok.mod,ok.kind,ok.glob,ok.blt,ok.above,ok.inj,ok.has,ok.cab,ok.hd,ok.frames,ok.stk,ok.exf,ok.bs,ok.bsz,ok.noex,ok.exfs,ok.funs,ok.frf⟩
theorem Cx.Ok.unwish {X:Cx}{E:Value->Shared->Prop}(ok:(X.wish E).Ok):X.Ok :=
 ⟨ok.mod,ok.kind,ok.glob,ok.blt,ok.above,ok.inj,ok.has,ok.cab,ok.hd,ok.frames,ok.stk,ok.exf,ok.bs,ok.bsz,ok.noex,ok.exfs,ok.funs,ok.frf⟩
section
variable {X:Cx}{pins:List (Addr × Obj)}{σ:St}{H:Hp}{s:Shared}{E:Value->Shared->Prop}
theorem Inv.wish (I:Inv X pins σ H s)(E:Value->Shared->Prop):Inv (X.wish E) pins σ H s:=⟨I.ok.wish E,I.os,I.bare,I.base,I.loc,I.cell,I.free,I.freeC,I.pin,I.hok,I.len⟩
theorem Inv.unwish (I:Inv (X.wish E) pins σ H s):Inv X pins σ H s:=⟨I.ok.unwish,I.os,I.bare,I.base,I.loc,I.cell,I.free,I.freeC,I.pin,I.hok,I.len⟩
theorem SP.unwish {D:qL}{f:Flow}{s':Shared}(h:SP (X.wish E) pins D f s'):SP X pins D f s':=by
 cases f with
 | next=>obtain ⟨σ',H',I,q⟩:=h;exact ⟨σ',H',I.unwish,q⟩
 | brk=>obtain ⟨σ',H',I,q⟩:=h;exact ⟨σ',H',I.unwish,q⟩
 | cont=>obtain ⟨σ',H',I,q⟩:=h;exact ⟨σ',H',I.unwish,q⟩
 | ret u=>obtain ⟨v,σ',H',I,r,q⟩:=h;exact ⟨v,σ',H',I.unwish,r,q⟩
theorem PSs.nox {st:List Stmt}{t:TS}(h:PSs X.nox st t):PSs X st t:=fun pins s σ H D I hw =>
 wpAny_mono (h pins s σ H D (I.wish _) hw) (fun _ _ q=>q.unwish) fun _ _ z=>False.elim z
end
section
variable {X:Cx}{st:Stmt}{rest:List Stmt}{t u:TS}{e:Expr}{te:TE}{pos:Pos}
def Vs:TS:=fun D σ H=>D.nx σ H
def tSeq (t u:TS):TS:=fun D σ H=>t { D with nx:=u D } σ H
theorem o4:PSs X [] Vs:=fun _ _ σ H _ I h=>wpAny_execs_nil ⟨σ,H,I,h⟩
theorem j7 (h1:PS X st t)(h2:PSs X rest u):PSs X (st::rest) (tSeq t u):=by
 intro pins s σ H D I h
 refine wpAny_execs_cons (j3 (h1 pins s σ H { D with nx:=u D } I h) fun f s1 q=>?_)
 cases f with
 | next =>
  obtain ⟨σ',H',I',q⟩:=q
  exact h2 pins s1 σ' H' D I' q
 | ret v=>exact q
 | brk=>exact q
 | cont=>exact q
theorem z9 (h1:PS X st t):PSs X [st] t:=by
 intro pins s σ H D I h
 refine wpAny_execs_cons (j3 (h1 pins s σ H D I h) fun f s1 q=>?_)
 cases f with
 | next=>exact wpAny_execs_nil q
 | ret v=>exact q
 | brk=>exact q
 | cont=>exact q
theorem Inv.quiet {pins:List (Addr × Obj)}{σ:St}{H:Hp}{s:Shared}(I:Inv X pins σ H s):interactive X.env=false:=by simp [interactive,I.ok.kind]
def xT (te:TE):TS:=fun D σ H=>te σ H fun _ H1=>D.nx σ H1
theorem zE (he:PE X e te)(hs:swapsWith e none pos.line X.env=pure false:=by rfl):PS X (.Expr e pos) (xT te):=by
 intro pins s σ H D I h
 exact wpAny_Expr_any (j3 (he pins s σ H _ I h) fun v s1 ⟨x,H1,I1,r1,q1⟩=>⟨σ,H1,I1,q1⟩) I.quiet hs
def wy (te:TE):TS:=fun D σ H=>te σ H D.rt
theorem w9 (he:PE X e te):PS X (.Return (some e) pos) (wy te):=by
 intro pins s σ H D I h
 exact wpAny_Return_some (j3 (he pins s σ H _ I h) fun v s1 ⟨x,H1,I1,r1,q1⟩=>⟨x,σ,H1,I1,r1,q1⟩)
def Qq (c:TT)(t u:TS):TS:=fun D σ H=>c σ H fun b H1=>if b=true then t D σ H1 else u D σ H1
theorem n8 {c:Expr}{a b:List Stmt}{tc:TT}(hc:PT X c tc)(ha:PSs X a t)(hb:PSs X b u):PS X (.If c a b pos) (Qq tc t u):=by
 intro pins s σ H D I h
 refine wpAny_If (j3 (hc pins s σ H _ I h) fun d s1 ⟨H1,I1,q1⟩=>?_)
 cases d with
 | true=>exact ha pins s1 σ H1 D I1 q1
 | false=>exact hb pins s1 σ H1 D I1 q1
def BL:TS:=fun _ _ _=>False
theorem jQ:PS X st BL:=fun _ _ _ _ _ _ h=>h.elim
end
abbrev TG:=V->St->Hp->(St->Hp->Prop)->Prop
abbrev TGs:=List V->St->Hp->(St->Hp->Prop)->Prop
def PG (X:Cx)(target:Expr)(t:TG):Prop :=
 ∀ (pins:List (Addr × Obj)) (s:Shared) (σ:St) (H:Hp) (v:V) (u:Value) (Q:St->Hp->Prop),Inv X pins σ H s->RelV v u->t v σ H Q ->
  wpAny (model X.prog X.w) X.A (assign target X.env u) (fun _ s'=>∃ σ' H',Inv X pins σ' H' s'/\Q σ' H') X.xe s
def PGs (X:Cx)(ts:List Expr)(t:TGs):Prop :=
 ∀ (pins:List (Addr × Obj)) (s:Shared) (σ:St) (H:Hp) (vs:List V) (us:List Value) (Q:St->Hp->Prop),Inv X pins σ H s->Vals vs us->t vs σ H Q ->
  wpAny (model X.prog X.w) X.A (assignInOrder ((assignEach ts X.env).map (·.2)) us) (fun _ s'=>∃ σ' H',Inv X pins σ' H' s'/\Q σ' H') X.xe s
abbrev TSet:=V->V->V->Hp->(Hp->Prop)->Prop
def PSet (X:Cx)(t:TSet):Prop :=
 ∀ (pins:List (Addr × Obj)) (s:Shared) (σ:St) (H:Hp) (o i v:V) (ov iv u:Value) (Q:Hp->Prop),Inv X pins σ H s->RelV o ov->RelV i iv->RelV v u->t o i v H Q ->
  wpAny (model X.prog X.w) X.A (setItem ov iv u) (fun _ s'=>∃ H',Inv X pins σ H' s'/\Q H') X.xe s
section
variable {X:Cx}{pos:Pos}
def xN (i:Nat):TG:=fun v σ H Q=>Q (σ.set i (some v)) H
theorem u9 {i:Nat}{x:Str}(hN:X.N.Nodup)(hi:X.N[i]?=some x)(hx:Loc X.env.scope x)(hf:X.fn x=true ∨ X.env.scope.names.lookup x=some .local:=by first | exact .inl rfl | exact .inr rfl | assumption):PG X (.Name x pos) (xN i):=by
 intro pins s σ H v u Q I r h
 exact wpAny_assign_Name (Ye I hN hi hx r (fun s' I'=>⟨_,H,I',h⟩) hf)
def gNil:TGs:=fun vs σ H Q=>vs=[]/\Q σ H
def ZA (t:TG)(u:TGs):TGs:=fun vs σ H Q=>∃ v r,vs=v::r/\t v σ H fun σ' H'=>u r σ' H' Q
theorem vw:PGs X [] gNil:=by
 intro pins s σ H vs us Q I r h
 obtain ⟨e,h⟩:=h
 subst e
 cases r
 exact assignInOrder_nil ⟨σ,H,I,h⟩
theorem xl {e:Expr}{es:List Expr}{t:TG}{u:TGs}(h1:PG X e t)(h2:PGs X es u)
  (hs:(assignEach (e::es) X.env).map (·.2)=assign e X.env::(assignEach es X.env).map (·.2):=by rfl):PGs X (e::es) (ZA t u):=by
 intro pins s σ H vs us Q I r h
 obtain ⟨v,vr,e1,h⟩:=h
 subst e1
 cases r with
 | cons r rr =>
  rw [hs]
  refine assignInOrder_cons (j3 (h1 pins s σ H _ _ _ I r h) fun _ s1 ⟨σ1,H1,I1,q1⟩=>?_)
  exact h2 pins s1 σ1 H1 _ _ Q I1 rr q1
def gTup (K:Fg)(n:Nat)(t:TGs):TG:=fun v σ H Q=>∃ a xs,v = .ref a/\SqT K H a xs/\xs.length=n/\t xs σ H Q
theorem HD {es:List Expr}{k:Nat}{t:TGs}{n:Nat}(hc:X.calm=true)(h:PGs X es t)
  (hn:(assignEach es X.env).length=n:=by rfl) (hst:(assignEach es X.env).findIdx? (·.1)=none:=by rfl):PG X (.Tuple es k pos) (gTup X.K n t):=by
 intro pins s σ H v u Q I r hw
 obtain ⟨a,xs,e1,hq,hl,hw⟩:=hw
 subst e1
 cases r
 obtain ⟨its,rv,ht,hz⟩:=I.tuple hq
 refine assign_Tuple_tuple (I.ok.hd hc) ht (by simp [hn,<- hl,rv.length]) hst fun h' hx=>?_
 have I1:Inv X pins σ H { s with heap:=h' }:=I.kept (t':=s.toks) fun b o e=>hx b o (Nat.ne_of_lt (Heap.lt_size e)) e
 exact h pins _ σ H xs _ Q I1 (by simpa using rv) hw
def gSub (to ti:TE)(t:TSet):TG:=fun v σ H Q=>to σ H fun o H1=>ti σ H1 fun i H2=>t o i v H2 fun H3=>Q σ H3
theorem HC {o i:Expr}{to ti:TE}{t:TSet}(ho:PE X o to)(hi:PE X i ti)(hs:PSet X t)
  (ha:∀ v,assign (.Subscript o i pos) X.env v=(do
   let ov <- holding [v] (eval o X.env)
   let iv <- holding [v,ov] (eval i X.env)
   standAt pos
   holding [v,ov,iv] (setItem ov iv v)
   release [v,ov,iv] []):=by intro _;rfl):PG X (.Subscript o i pos) (gSub to ti t):=by
 intro pins s σ H v u Q I r h
 rw [ha]
 refine wpAny_bind (wpAny_holding (j3 (ho pins s σ H _ I h) fun ov s1 ⟨x,H1,I1,r1,q1⟩=>?_))
 refine wpAny_bind (wpAny_holding (j3 (hi pins s1 σ H1 _ I1 q1) fun iv s2 ⟨y,H2,I2,r2,q2⟩=>?_))
 refine wpAny_bind (wpAny_standAt (wpAny_bind (wpAny_holding (j3 (hs pins s2 σ H2 x y v ov iv u _ I2 r1 r2 r q2) fun _ s3 ⟨H3,I3,q3⟩=>?_))))
 exact wpAny_release ⟨σ,H3,I3,q3⟩
def zG (te:TE)(g:TG):TS:=fun D σ H=>te σ H fun x H1=>g x σ H1 D.nx
theorem KE {tg e:Expr}{te:TE}{g:TG}(he:PE X e te)(hg:PG X tg g)(hs:swapsWithSole [tg] e pos.line X.env=pure false:=by rfl)(hw:swappedStores [tg] e X.env=pure none:=by rfl)
  (h1:(assignEach [tg] X.env).map (·.2)=[assign tg X.env]:=by rfl):PS X (.Assign [tg] e pos) (zG te g):=by
 intro pins s σ H D I h
 refine wpAny_Assign_stores (j3 (he pins s σ H _ I h) fun v s1 ⟨x,H1,I1,r1,q1⟩=>?_) hs hw
 rw [h1]
 exact j3 (hg pins s1 σ H1 x v _ I1 r1 q1) fun _ s2 q=>q
theorem y6 {i:Nat}{x:Str}{e:Expr}{te:TE}{pos':Pos}(hN:X.N.Nodup)(hi:X.N[i]?=some x)(hx:Loc X.env.scope x)(he:PE X e te)(hs:swapsWith e (some (.Name x pos')) pos.line X.env=pure false:=by rfl)(hf:X.fn x=true ∨ X.env.scope.names.lookup x=some .local:=by first | exact .inl rfl | exact .inr rfl | assumption) :
  PS X (.Assign [.Name x pos'] e pos) (zG te (xN i)):=by
 intro pins s σ H D I h
 refine wpAny_Assign_Name (j3 (he pins s σ H _ I h) fun v s1 ⟨y,H1,I1,r1,q1⟩=>?_) hs
 exact Ye I1 hN hi hx r1 (fun s2 I2=>⟨_,H1,I2,q1⟩) hf
end
section
variable {X:Cx}{pos:Pos}
def BO (c:TT)(tb:TS):TS:=fun D σ H=>∃ W:Nat->St->Hp->Prop,(∃ m,W m σ H)/\∀ m σ H,W m σ H ->
 c σ H fun b H1=>if b=true then ∃ N:St->Hp->Prop,(∀ σ' H',N σ' H'->∃ m',m' < m/\W m' σ' H')/\tb { D with nx:=N,ct:=N,bk:=D.nx } σ H1 else D.nx σ H1
theorem HU {c:Expr}{body:List Stmt}{tc:TT}{tb:TS}(hp:PassesOwn (model X.prog X.w) X.A X.env X.xe)(hc:PT X c tc)(hb:PSs X body tb):PS X (.While c body [] pos) (BO tc tb):=by
 intro pins s σ H D I h
 obtain ⟨W,⟨m0,w0⟩,turn⟩:=h
 refine wpAny_While (codeAny_whileLoop (fun n s'=>∃ σ' H',Inv X pins σ' H' s'/\W n σ' H') ?_ m0 ⟨σ,H,I,w0⟩)
 rintro n s1 ⟨σ1,H1,I1,w1⟩
 refine wpAny_passesOwn hp (j3 (hc pins s1 σ1 H1 _ I1 (turn n σ1 H1 w1)) fun b s2 ⟨H2,I2,q2⟩=>?_)
 cases b with
 | true =>
  obtain ⟨N,hN,q2⟩:=q2
  rw [if_pos rfl]
  refine wpAny_passesOwn hp (j3 (hb pins s2 σ1 H2 _ I2 q2) fun f s3 q3=>?_)
  cases f with
  | next =>
   obtain ⟨σ3,H3,I3,n3⟩:=q3
   obtain ⟨m',hm,w3⟩:=hN σ3 H3 n3
   exact ⟨m',hm,σ3,H3,I3,w3⟩
  | cont =>
   obtain ⟨σ3,H3,I3,n3⟩:=q3
   obtain ⟨m',hm,w3⟩:=hN σ3 H3 n3
   exact ⟨m',hm,σ3,H3,I3,w3⟩
  | brk=>exact q3
  | ret v=>exact q3
 | false =>
  rw [if_neg Bool.false_ne_true]
  exact wpAny_execs_nil ⟨σ1,H2,I2,q2⟩
end
structure It where
 go:Nat->Hp->Prop
 yld:Nat->Hp->V->Hp->Prop
 stop:Nat->Hp->Prop
def xK (X:Cx)(pins:List (Addr × Obj))(H:Hp)(b:Addr):Prop :=
 H b=none/\b ≠ X.env.locals/\b ∉ X.fs/\(b ∈ X.ex ∨ X.s₀.heap.objs.size<=b)/\(∀ x c,X.env.cells.lookup x=some c->c ≠ b)/\∀ p ∈ X.pn++pins,p.1 ≠ b
theorem Inv.fpOk {X:Cx}{pins:List (Addr × Obj)}{σ:St}{H H':Hp}{s:Shared}{b:Addr}(I:Inv X pins σ H s)(hb:s.heap.objs.size<=b)(hn:H' b=none):xK X pins H' b:=by
 refine ⟨hn,Nat.ne_of_gt (Nat.lt_of_lt_of_le I.lt hb),I.nofs hb,.inr (Nat.le_trans I.sz hb),fun x c e z=>?_,fun p hp z=>?_⟩
 ·obtain ⟨v,q⟩:=I.cell x c e
  exact absurd (Nat.lt_of_lt_of_le q.lt (by rw [z];exact hb)) (Nat.lt_irrefl _)
 ·exact absurd (Nat.lt_of_lt_of_le (Heap.lt_size (I.pin p hp).1) (by rw [z];exact hb)) (Nat.lt_irrefl _)
structure jB (P:Program)(w:World)(K:Fg)(tg:Expr)(J:It)(fp:List Addr)(it:Addr)(tn:Nat->Heap->Prop):Prop where
 mem:it ∈ fp
 obj:∀ i h,tn i h->∀ b ∈ fp,∃ o,h.get? b=some o/\∀ v,o.data ≠ .cell v
 keep:∀ i h h',tn i h->(∀ b ∈ fp,∀ o,h.get? b=some o->h'.get? b=some o)->tn i h'
 item:∀ (X:Cx),X.prog=P->X.w=w->X.K=K->X.calm=true->∀ (i:Nat) (pins:List (Addr × Obj)) (s:Shared) (σ:St) (H:Hp) (E:Value->Shared->Prop),Inv X pins σ H s->(∀ b ∈ fp,xK X pins H b)->tn i s.heap->J.go i H ->
  wpAny (model P w) X.A (pyNext (.ref it)) (fun r s1=>∃ u,r=some u /\
   wpAny (model P w) X.A (letOwnedTupleGo tg (.ref it) u) (fun _ s2=>∃ x H',Inv X pins σ H' s2/\RelV x u/\J.yld i H x H'/\tn (i + 1) s2.heap/\∀ b ∈ fp,H' b=none) E s1) E s
 done:∀ (X:Cx),X.prog=P->X.w=w->X.K=K->X.calm=true->∀ (i:Nat) (pins:List (Addr × Obj)) (s:Shared) (σ:St) (H:Hp) (E:Value->Shared->Prop),Inv X pins σ H s->(∀ b ∈ fp,xK X pins H b)->tn i s.heap->J.stop i H ->
  wpAny (model P w) X.A (pyNext (.ref it)) (fun r s1=>r=none/\Inv X pins σ H s1) E s
 self:∀ (A:Around) (i:Nat) (s:Shared) (Q:Value->Shared->Prop) (E:Value->Shared->Prop),tn i s.heap->Q (.ref it) s->wpAny (model P w) A (pyIter (.ref it)) Q E s
abbrev TI:=St->Hp->(It->Hp->Prop)->Prop
def PIE (X:Cx)(pins:List (Addr × Obj))(σ:St)(tg:Expr)(R:It->Hp->Prop)(itv:Value)(s2:Shared):Prop :=
 ∃ (it:Addr) (fp:List Addr) (tn:Nat->Heap->Prop) (J:It) (H':Hp),itv = .ref it/\Inv X pins σ H' s2/\jB X.prog X.w X.K tg J fp it tn/\tn 0 s2.heap/\(∀ b ∈ fp,xK X pins H' b)/\R J H'
def PI (X:Cx)(tg iter:Expr)(wi:TI):Prop :=
 ∀ (pins:List (Addr × Obj)) (s:Shared) (σ:St) (H:Hp) (R:It->Hp->Prop),Inv X pins σ H s->wi σ H R ->
  wpAny (model X.prog X.w) X.A (eval iter X.env) (fun v s1=>wpAny (model X.prog X.w) X.A (pyIter v) (PIE X pins σ tg R) X.xe s1) X.xe s

theorem ZB {M:Model}{A:Around}{E:Value->Shared->Prop}{s:Shared}{tg:Expr}{it:Addr}{u:Value}{o:Obj}{n:String}{vs:Array Value}{Q:Unit->Shared->Prop}(ho:s.heap.get? it=some o)(hc:o.cls = .type n)(hd:o.data = .fields vs)
    (hn:["enumerate", "zip", "dict_itemiterator", "dict_reverseitemiterator", "odict_iterator", "itertools.zip_longest", "itertools.pairwise"].contains n=false) (hQ:Q () s):wpAny M A (letOwnedTupleGo tg (.ref it) u) Q E s:=by
  unfold letOwnedTupleGo
  cases tg <;> first
    | exact wpAny_pure hQ
    | (cases u <;> first
        | exact wpAny_pure hQ
        | (refine wpAny_bind (wpAny_load ho ?_)
           rw [hc,hd]
           show wpAny M A (if (["enumerate", "zip", "dict_itemiterator", "dict_reverseitemiterator", "odict_iterator", "itertools.zip_longest", "itertools.pairwise"].contains n && vs[0]? == some (rawInt _))=true then _ else _) Q E s
           rw [if_neg (by intro h;rw [hn,Bool.false_and] at h;cases h)]
           exact wpAny_pure hQ))

def Itl (K:Fg)(a:Addr):It :=
 ⟨fun i H=>∃ xs x,SqL K H a xs/\xs[i]?=some x,fun i H x H'=>H'=H/\∀ xs,SqL K H a xs->xs[i]?=some x,fun i H=>∃ xs,SqL K H a xs/\xs.length<=i⟩
def Itr (lo:Int)(n:Nat):It:=⟨fun i _=>i < n,fun i H x H'=>H'=H/\x = .int (lo + i),fun i _=>n<=i⟩
theorem TW {P:Program}{w:World}{K:Fg}{tg:Expr}(a it:Addr):jB P w K tg (Itl K a) [it] it (fun i h=>h.IsListIter it a i) where
 mem:=by simp
 obj:=fun i h st b hb=>by
  have e:b=it:=by simpa using hb
  subst e
  obtain ⟨o,e,c,d⟩:=st
  exact ⟨o,e,fun v z=>by rw [d] at z;cases z⟩
 keep:=fun i h h' st k=>st.at fun o e=>k it (by simp) o e
 item:=by
  intro X hP hw hK hc i pins s σ H E I hf st hg
  subst hP hw hK
  obtain ⟨xs,x,hq,hx⟩:=hg
  obtain ⟨its,rv,p,hz⟩:=I.list hq
  obtain ⟨u,hu,ru⟩:=rv.get hx
  obtain ⟨f0,f1,f2,f3,f4,f5⟩:=hf it (by simp)
  refine wpAny_pyNext_list_item st p.isList (x:=u) (by simpa using hu) fun h' st' sb=>?_
  have I1:Inv X pins σ H { s with heap:=h' }:=I.turned (t':=s.toks) (fun b o hb e=>(sb.2 b hb).trans e) f0 f1 f3 f4 f5
  obtain ⟨o,e,c,d⟩:=id st'
  exact ⟨u,rfl,ZB (s:={ s with heap:=h' }) e c d (by decide) ⟨x,H,I1,ru,⟨rfl,fun ys hy=>by rw [I.list_inj hy hq];exact hx⟩,st',fun b hb=>(hf b hb).1⟩⟩
 done:=by
  intro X hP hw hK hc i pins s σ H E I hf st hg
  subst hP hw hK
  obtain ⟨xs,hq,hx⟩:=hg
  obtain ⟨its,rv,p,hz⟩:=I.list hq
  obtain ⟨f0,f1,f2,f3,f4,f5⟩:=hf it (by simp)
  have hl:=rv.length
  exact wpAny_pyNext_list_end (I.ok.hd hc) st p.isList (by simp;omega) fun h' eb=>⟨rfl,I.turned (t':=s.toks) (fun b o hb e=>eb b o hb e) f0 f1 f3 f4 f5⟩
 self:=fun _ _ _ _ _ st h=>wpAny_pyIter_listiter st h
theorem TX {P:Program}{w:World}{K:Fg}{tg:Expr}(it:Addr)(lo:Int)(n:Nat):jB P w K tg (Itr lo n) [it] it (fun i h=>IsRangeIter h it (lo + (i:Nat) * 1) ((n:Int) - (i:Nat)) 1) where
 mem:=by simp
 obj:=fun i h st b hb=>by
  have e:b=it:=by simpa using hb
  subst e
  exact ⟨_,st,fun v z=>by
   have z':Data.fields _=Data.cell v:=z
   cases z'⟩
 keep:=fun i h h' st k=>k it (by simp) _ st
 item:=by
  intro X hP hw hK hc i pins s σ H E I hf st hg
  subst hP hw hK
  obtain ⟨f0,f1,f2,f3,f4,f5⟩:=hf it (by simp)
  have W:=Walks.range (prog:=X.prog) (w:=X.w) (I.ok.hd hc) it lo 1 n
  refine W.item i s _ _ hg st fun v h' tk hv st' kk=>?_
  obtain ⟨t,rfl⟩:=hv
  have I1:Inv X pins σ H { s with heap:=h',toks:=tk }:=I.turned (fun b o hb e=>kk b o (by simpa using hb) e) f0 f1 f3 f4 f5
  refine ⟨_,rfl,ZB (s:={ s with heap:=h',toks:=tk }) (n := "range_iterator") st' rfl rfl (by decide) ⟨.int (lo + i),H,I1,⟨t,?_⟩,⟨rfl,rfl⟩,st',fun b hb=>(hf b hb).1⟩⟩
  rw [Int.mul_one]
 done:=by
  intro X hP hw hK hc i pins s σ H E I hf st hg
  subst hP hw hK
  obtain ⟨f0,f1,f2,f3,f4,f5⟩:=hf it (by simp)
  exact wpAny_pyNext_range_end (I.ok.hd hc) st (by have:n<=i:=hg;omega) fun h' eb=>⟨rfl,I.turned (t':=s.toks) (fun b o hb e=>eb b o hb e) f0 f1 f3 f4 f5⟩
 self:=fun _ _ _ _ _ st h=>wpAny_pyIter_rangeiter st h
end L2
namespace L2
open PySem PySem.Spec PyProof.Rows
section
variable {X:Cx}{tg:Expr}
def QO (K:Fg)(tl:TE):TI:=fun σ H R=>tl σ H fun x H1=>∃ a,x = .ref a/\(∃ xs,SqL K H1 a xs)/\R (Itl K a) H1
theorem HG {l:Expr}{tl:TE}(hl:PE X l tl):PI X tg l (QO X.K tl):=by
 intro pins s σ H R I h
 refine j3 (hl pins s σ H _ I h) fun v s1 ⟨x,H1,I1,r1,q1⟩=>?_
 obtain ⟨a,e,⟨xs,hq⟩,q⟩:=q1
 subst e
 cases r1
 obtain ⟨its,rv,p,hz⟩:=I1.list hq
 refine wpAny_pyIter_list p.isList ?_
 refine ⟨s1.heap.objs.size,[s1.heap.objs.size],_,_,H1,rfl,I1.kept (t':=s1.toks) fun b o e=>Heap.get?_push_of_some _ e,TW a _,⟨_,Heap.get?_push_size _ rfl,rfl,rfl⟩,fun b hb=>?_,q⟩
 have e:b=s1.heap.objs.size:=by simpa using hb
 subst e
 exact I1.fpOk (Nat.le_refl _) (I1.hok.fresh (Nat.le_refl _))
theorem Rb {pins:List (Addr × Obj)}{σ:St}{H:Hp}{s:Shared}{R:It->Hp->Prop}{E:Value->Shared->Prop}{lo hi:Int}{t u v:Tok}{tk:Nat}(I:Inv X pins σ H s)(h1:-(2 ^ 62)<=lo)(h2:lo < 2 ^ 62)(h3:-(2 ^ 62)<=hi)(h4:hi < 2 ^ 62)
  (q:R (Itr lo (hi - lo).toNat) H):wpAny (model X.prog X.w) X.A (pyIter (.ref s.heap.objs.size)) (PIE X pins σ tg R) E { s with heap:=s.heap.push { cls:= .type "range",data:= .fields #[.int lo t,.int hi u,.int 1 v] },toks:=tk }:=by
 refine wpAny_pyIter_range (IsRange.new ..) (small_one h1 h2 h3 h4) ?_
 have I1:Inv X pins σ H { s with heap:=s.heap.push { cls:= .type "range",data:= .fields #[.int lo t,.int hi u,.int 1 v] },toks:=tk }:=I.kept fun b o e=>Heap.get?_push_of_some _ e
 refine ⟨(s.heap.push { cls:= .type "range",data:= .fields #[.int lo t,.int hi u,.int 1 v] }).objs.size,[(s.heap.push { cls:= .type "range",data:= .fields #[.int lo t,.int hi u,.int 1 v] }).objs.size],_,_,H,rfl,
  I1.kept (t':=tk) fun b o e=>Heap.get?_push_of_some _ e,TX _ lo (hi - lo).toNat,?_,fun b hb=>?_,q⟩
 ·have e1:lo + ((0:Nat):Int) * 1=lo:=by simp
  have e2:(((hi - lo).toNat:Nat):Int) - ((0:Nat):Int)=Builtin.Range.rangeSize lo hi 1:=by rw [rangeSize_one];split <;> omega
  show IsRangeIter _ _ (lo + ((0:Nat):Int) * 1) ((((hi - lo).toNat:Nat):Int) - ((0:Nat):Int)) 1
  rw [e1,e2]
  exact Heap.get?_push_size _ rfl
 ·have e:b=(s.heap.push { cls:= .type "range",data:= .fields #[.int lo t,.int hi u,.int 1 v] }).objs.size:=by simpa using hb
  subst e
  exact I1.fpOk (Nat.le_refl _) (I1.hok.fresh (Nat.le_refl _))
def Wq (ta:TA):TI:=fun σ H R=>ta σ H fun vs H1=>∃ j:Int,vs=[.int j]/\-(2 ^ 62)<=j/\j < 2 ^ 62/\R (Itr 0 j.toNat) H1
theorem vx {a:Expr}{ta:TA}{p pos:Pos}(hg:Gl X "range") (hm:X.mg "range"=none) (ha:PA X [a] ta) (hs:starEach [a] X.env=[(false,eval a X.env)]:=by rfl):PI X tg (.Call (.Name "range" p) [a] [] pos) (Wq ta):=by
 intro pins s σ H R I h
 refine Call_ (vi I hg hm boot_range (PyProof.Rows.callWith_type1 (j3 (ha pos pins s σ H _ I h) fun us s1 ⟨vs,H1,I1,r1,q1⟩=>?_) hs rfl))
 obtain ⟨j,e,q1,q2,q⟩:=q1
 subst e
 cases r1 with
 | cons r rr =>
  cases rr
  obtain ⟨t,rfl⟩:=r
  exact call_range_1 (Rb I1 (by omega) (by omega) q1 q2 (by simpa using q))
def tFor (wi:TI)(g:TG)(tb:TS):TS:=fun D σ H=>wi σ H fun J H1=>∃ W:Nat->Nat->St->Hp->Prop,(∃ m,W 0 m σ H1)/\∀ i m σ H,W i m σ H ->
 (J.stop i H/\D.nx σ H) ∨ (J.go i H/\∃ N:St->Hp->Prop,(∀ σ' H',N σ' H'->∃ m',m' < m/\W (i + 1) m' σ' H')/\∀ x H',J.yld i H x H'->g x σ H' fun σ2 H2=>tb { D with nx:=N,ct:=N,bk:=D.nx } σ2 H2)
def Xy (fp:List Addr)(h:Heap):List (Addr × Obj):=fp.filterMap fun b=>(h.get? b).map fun o=>(b,o)
theorem ZV {fp:List Addr}{h:Heap}{b:Addr}{o:Obj}(hb:b ∈ fp)(e:h.get? b=some o):(b,o) ∈ Xy fp h:=List.mem_filterMap.mpr ⟨b,hb,by rw [e];rfl⟩
theorem LM {fp:List Addr}{h:Heap}{p:Addr × Obj}(hp:p ∈ Xy fp h):p.1 ∈ fp/\h.get? p.1=some p.2:=by
 obtain ⟨b,hb,e⟩:=List.mem_filterMap.mp hp
 cases q:h.get? b with
 | none=>rw [q] at e;cases e
 | some o =>
  rw [q] at e
  have e':(b,o)=p:=Option.some.inj e
  subst e'
  exact ⟨hb,q⟩
theorem Inv.pinned {pins:List (Addr × Obj)}{σ:St}{H:Hp}{s:Shared}{fp:List Addr}(I:Inv X pins σ H s)(hf:∀ b ∈ fp,xK X pins H b)(ho:∀ b ∈ fp,∃ o,s.heap.get? b=some o/\∀ v,o.data ≠ .cell v):Inv X (pins++Xy fp s.heap) σ H s :=
 I.pins_of fun p hp=>(List.mem_append.mp hp).elim (fun z=>I.pin p (List.mem_append_right _ z)) fun z=>by
  obtain ⟨hb,e⟩:=LM z
  obtain ⟨f0,f1,f2,_⟩:=hf p.1 hb
  obtain ⟨o,e',d⟩:=ho p.1 hb
  rw [e] at e';cases e'
  exact ⟨e,f0,f1,f2,d⟩
theorem Inv.unpinned {pins pl:List (Addr × Obj)}{σ:St}{H:Hp}{s:Shared}(I:Inv X (pins++pl) σ H s):Inv X pins σ H s:=I.pins_of fun p hp=>I.pin p (List.mem_append_right _ (List.mem_append_left _ hp))
theorem zV {iter:Expr}{body:List Stmt}{wi:TI}{g:TG}{tb:TS}{pos:Pos}(hp:PassesOwn (model X.prog X.w) X.A X.env X.xe)(hc:X.calm=true)(hi:PI X tg iter wi)(hg:PG X tg g)(hb:PSs X body tb)
  (hs:∀ x,foldedSetIterable iter X.env x=pure x:=by intro _;rfl):PS X (.For tg iter body [] pos) (tFor wi g tb):=by
 intro pins s σ H D I h
 refine wpAny_For (j3 (hi pins s σ H _ I h) fun v s1 h1=>j3 h1 fun itv s2 h2=>?_) hs
 obtain ⟨it,fp,tn,J,H2,e,I2,T,st2,f2,W,⟨m0,w0⟩,turn⟩:=h2
 subst e
 -- what stays true of the iterator's objects through the loop
 have stat:∀ {H':Hp},(∀ b ∈ fp,H' b=none)->∀ b ∈ fp,xK X pins H' b:=fun hn b hb=>⟨hn b hb,(f2 b hb).2⟩
 refine codeAny_forLoop_any (fun n s'=>∃ i σ' H',Inv X pins σ' H' s'/\tn i s'.heap/\(∀ b ∈ fp,H' b=none)/\W i n σ' H') ?_ m0 ⟨0,σ,H2,I2,st2,fun b hb=>(f2 b hb).1,w0⟩
 rintro n s3 ⟨i,σ3,H3,I3,st3,fr3,w3⟩
 rcases turn i n σ3 H3 w3 with ⟨stop,qn⟩ | ⟨go,N,hN,step⟩
 ·refine wpAny_passesOwn hp (j3 (T.done X rfl rfl rfl hc i pins s3 σ3 H3 X.xe I3 (stat fr3) st3 stop) fun r s4 ⟨hr,I4⟩=>?_)
  subst hr
  exact wpAny_execs_nil ⟨σ3,H3,I4,qn⟩
 ·refine wpAny_passesOwn hp (j3 (T.item X rfl rfl rfl hc i pins s3 σ3 H3 X.xe I3 (stat fr3) st3 go) fun r s4 ⟨u,hr,h4⟩=>?_)
  subst hr
  refine wpAny_passesOwn hp (j3 h4 fun _ s5 ⟨x,H5,I5,r5,y5,st5,fr5⟩=>?_)
  have I5':=I5.pinned (stat fr5) (T.obj _ _ st5)
  refine wpAny_passesOwn hp (j3 (hg _ s5 σ3 H5 x u _ I5' r5 (step x H5 y5)) fun _ s6 ⟨σ6,H6,I6,q6⟩=>?_)
  refine wpAny_passesOwn hp (j3 (hb _ s6 σ6 H6 _ I6 q6) fun f s7 q7=>?_)
  have again:∀ {σ7:St} {H7:Hp},Inv X (pins++Xy fp s5.heap) σ7 H7 s7->N σ7 H7->∃ m,m < n/\∃ i σ' H',Inv X pins σ' H' s7/\tn i s7.heap/\(∀ b ∈ fp,H' b=none)/\W i m σ' H':=fun {σ7 H7} I7 n7=>by
   obtain ⟨m',hm,w7⟩:=hN σ7 H7 n7
   refine ⟨m',hm,i + 1,σ7,H7,I7.unpinned,T.keep _ _ _ st5 fun b hb o e=>(I7.pin (b,o) (List.mem_append_right _ (List.mem_append_right _ (ZV hb e)))).1,fun b hb=>?_,w7⟩
   obtain ⟨o,e,d⟩:=T.obj _ _ st5 b hb
   exact (I7.pin (b,o) (List.mem_append_right _ (List.mem_append_right _ (ZV hb e)))).2.1
  cases f with
  | next=>obtain ⟨σ7,H7,I7,n7⟩:=q7;exact again I7 n7
  | cont=>obtain ⟨σ7,H7,I7,n7⟩:=q7;exact again I7 n7
  | brk=>obtain ⟨σ7,H7,I7,q7⟩:=q7;exact ⟨σ7,H7,I7.unpinned,q7⟩
  | ret v=>obtain ⟨x7,σ7,H7,I7,r7,q7⟩:=q7;exact ⟨x7,σ7,H7,I7.unpinned,r7,q7⟩
end
theorem DN {lo:Int}{n:Nat}{g:TG}{tb:TS}{D:qL}{σ:St}{H:Hp}(Pv:Nat->St->Hp->Prop)(h0:Pv 0 σ H)
  (hs:∀ i σ H,i < n->Pv i σ H->g (.int (lo + i)) σ H fun σ2 H2=>tb { D with nx:=Pv (i + 1),ct:=Pv (i + 1),bk:=D.nx } σ2 H2) (hd:∀ σ H,Pv n σ H->D.nx σ H) :
  ∃ W:Nat->Nat->St->Hp->Prop,(∃ m,W 0 m σ H)/\∀ i m σ H,W i m σ H ->
   ((Itr lo n).stop i H/\D.nx σ H) ∨ ((Itr lo n).go i H/\∃ N:St->Hp->Prop,(∀ σ' H',N σ' H'->∃ m',m' < m/\W (i + 1) m' σ' H')/\∀ x H',(Itr lo n).yld i H x H'->g x σ H' fun σ2 H2=>tb { D with nx:=N,ct:=N,bk:=D.nx } σ2 H2):=by
 refine ⟨fun i m σ H=>m=n - i/\i<=n/\Pv i σ H,⟨n,by simp,Nat.zero_le _,h0⟩,?_⟩
 rintro i m σ H ⟨rfl,hi,p⟩
 by_cases hlt:i < n
 ·refine .inr ⟨hlt,Pv (i + 1),fun σ' H' p'=>⟨n - (i + 1),by omega,rfl,hlt,p'⟩,fun x H' y=>?_⟩
  obtain ⟨e,y⟩:=y
  subst e y
  exact hs i σ _ hlt p
 ·have e:i=n:=by omega
  subst e
  exact .inl ⟨Nat.le_refl _,hd σ H p⟩
end L2
namespace L2
open PySem PySem.Spec PyProof.Rows
abbrev R2:=V->V->Hp->VK->Prop
def OpR (X:Cx)(f:Value->Value->Sem Value)(r:R2):Prop :=
 ∀ (pins:List (Addr × Obj)) (s:Shared) (σ:St) (H:Hp) (x y:V) (v u:Value) (Q:VK),Inv X pins σ H s->RelV x v->RelV y u->r x y H Q ->
  wpAny (model X.prog X.w) X.A (f v u) (EP X pins σ Q) X.xe s
def UnR (X:Cx)(f:Value->Sem Value)(r:V->Hp->VK->Prop):Prop :=
 ∀ (pins:List (Addr × Obj)) (s:Shared) (σ:St) (H:Hp) (x:V) (v:Value) (Q:VK),Inv X pins σ H s->RelV x v->r x H Q ->
  wpAny (model X.prog X.w) X.A (f v) (EP X pins σ Q) X.xe s
def CallR (X:Cx)(f:Value)(r:List V->Hp->VK->Prop):Prop :=
 ∀ (pins:List (Addr × Obj)) (s:Shared) (σ:St) (H:Hp) (xs:List V) (us:List Value) (Q:VK),Inv X pins σ H s->Vals xs us->r xs H Q ->
  wpAny (model X.prog X.w) X.A (call f us) (EP X pins σ Q) X.xe s
def TruR (X:Cx)(r:V->Hp->(Bool->Hp->Prop)->Prop):Prop :=
 ∀ (pins:List (Addr × Obj)) (s:Shared) (σ:St) (H:Hp) (x:V) (v:Value) (Q:Bool->Hp->Prop),Inv X pins σ H s->RelV x v->r x H Q ->
  wpAny (model X.prog X.w) X.A (truthy v) (TP X pins σ Q) X.xe s

def tOp (r:R2)(ta tb:TE):TE:=fun σ H Q=>ta σ H fun x H1=>tb σ H1 fun y H2=>r x y H2 Q
def tUn (r:V->Hp->VK->Prop)(ta:TE):TE:=fun σ H Q=>ta σ H fun x H1=>r x H1 Q
def rI (C:Int->Int->Prop)(g:Int->Int->V):R2:=fun x y H Q=>∃ i j,x = .int i/\y = .int j/\C i j/\Q (g i j) H
def rI0 (g:Int->Int->V):R2:=fun x y H Q=>∃ i j,x = .int i/\y = .int j/\Q (g i j) H
def rU (g:Int->V):V->Hp->VK->Prop:=fun x H Q=>∃ i,x = .int i/\Q (g i) H

section
variable {X:Cx}{a b c:Expr}{ta tb tc:TE}{pos:Pos}
theorem binT (ha:PE X a ta)(hb:PE X b tb){pins:List (Addr × Obj)}{s:Shared}{σ:St}{H:Hp}{R:V->V->Hp->Prop}(I:Inv X pins σ H s)
  (h:ta σ H fun x H1=>tb σ H1 fun y H2=>R x y H2) {Q:Value->Shared->Prop} {f:Value->Value->Sem Value}
  (hf:∀ v u s2 x y H2,Inv X pins σ H2 s2->RelV x v->RelV y u->R x y H2->wpAny (model X.prog X.w) X.A (f v u) Q X.xe s2) :
  wpAny (model X.prog X.w) X.A (eval a X.env) (fun v s₁=>wpAny (model X.prog X.w) X.A (eval b X.env) (fun u s₂=>wpAny (model X.prog X.w) X.A (f v u) Q X.xe s₂) X.xe s₁) X.xe s:=by
 refine j3 (ha pins s σ H _ I h) fun v s1 ⟨x,H1,I1,r1,q1⟩=>?_
 refine j3 (hb pins s1 σ H1 _ I1 q1) fun u s2 ⟨y,H2,I2,r2,q2⟩=>?_
 exact hf v u s2 x y H2 I2 r1 r2 q2

theorem w5 {op:Operator}{r:R2}(ho:OpR X (binaryOp op) r)(ha:PE X a ta)(hb:PE X b tb):PE X (.BinOp a op b pos) (tOp r ta tb):=by
 intro pins s σ H Q I h
 exact wpAny_BinOp (binT ha hb I h fun v u s2 x y H2 I2 rx ry q=>ho pins s2 σ H2 x y v u Q I2 rx ry q)
theorem wm {op:UnaryOp}{r:V->Hp->VK->Prop}(ho:UnR X (unaryOp op) r)(ha:PE X a ta):PE X (.UnaryOp op a pos) (tUn r ta):=by
 intro pins s σ H Q I h
 exact UnaryOp_ (j3 (ha pins s σ H _ I h) fun v s1 ⟨x,H1,I1,r1,q1⟩=>ho pins s1 σ H1 x v Q I1 r1 q1)
theorem opI {f:Value->Value->Sem Value}{C:Int->Int->Prop}{g:Int->Int->Int}
  (rule:∀ (i j:Int) (t u:Tok) (s:Shared) (Q:Value->Shared->Prop) (E:Value->Shared->Prop),C i j->Q (.int (g i j) s.toks) { s with toks:=s.toks + 1 }->wpAny (model X.prog X.w) X.A (f (.int i t) (.int j u)) Q E s) :
  OpR X f (rI C fun i j=> .int (g i j)):=by
 intro pins s σ H x y v u Q I rx ry h
 obtain ⟨i,j,rfl,rfl,hc,q⟩:=h
 obtain ⟨t,rfl⟩:=rx
 obtain ⟨t',rfl⟩:=ry
 exact rule i j t t' s _ _ hc ⟨.int (g i j),H,I.tok _,⟨_,rfl⟩,q⟩
theorem opI0 {f:Value->Value->Sem Value}{g:Int->Int->Int}
  (rule:∀ (i j:Int) (t u:Tok) (s:Shared) (Q:Value->Shared->Prop) (E:Value->Shared->Prop),Q (.int (g i j) s.toks) { s with toks:=s.toks + 1 }->wpAny (model X.prog X.w) X.A (f (.int i t) (.int j u)) Q E s) :
  OpR X f (rI0 fun i j=> .int (g i j)):=by
 intro pins s σ H x y v u Q I rx ry h
 obtain ⟨i,j,rfl,rfl,q⟩:=h
 obtain ⟨t,rfl⟩:=rx
 obtain ⟨t',rfl⟩:=ry
 exact rule i j t t' s _ _ ⟨.int (g i j),H,I.tok _,⟨_,rfl⟩,q⟩
theorem opB0 {f:Value->Value->Sem Value}{g:Int->Int->Bool}
  (rule:∀ (i j:Int) (t u:Tok) (s:Shared) (Q:Value->Shared->Prop) (E:Value->Shared->Prop),Q (.bool (g i j)) s->wpAny (model X.prog X.w) X.A (f (.int i t) (.int j u)) Q E s) :
  OpR X f (rI0 fun i j=> .bl (g i j)):=by
 intro pins s σ H x y v u Q I rx ry h
 obtain ⟨i,j,rfl,rfl,q⟩:=h
 obtain ⟨t,rfl⟩:=rx
 obtain ⟨t',rfl⟩:=ry
 exact rule i j t t' s _ _ ⟨.bl (g i j),H,I,rfl,q⟩

def jw (i j:Int):Prop:=0<=j/\j<=1000000/\i.natAbs < 2 ^ 64
def CMul (i j:Int):Prop:=(-(2 ^ 64) < i/\i < 2 ^ 64) ∨ (-(2 ^ 64) < j/\j < 2 ^ 64)
theorem CMul.ok {i j:Int}(h:CMul i j):IntMulOk i j:=by
 rcases h with ⟨h1,h2⟩ | ⟨h1,h2⟩
 ·exact .of_left (intBits_le_64 h1 h2)
 ·exact .of_right (intBits_le_64 h1 h2)
theorem op_add:OpR X (binaryOp .Add) (rI0 fun i j=> .int (i + j)):=opI0 fun _ _ _ _ _ _ _ q=>add_int q
theorem jp:OpR X (binaryOp .Sub) (rI0 fun i j=> .int (i - j)):=opI0 fun _ _ _ _ _ _ _ q=>sub_int q
theorem Qe:OpR X (binaryOp .Mult) (rI CMul fun i j=> .int (i * j)):=opI fun _ _ _ _ _ _ _ hc q=>mul_int q hc.ok
theorem wc:OpR X (binaryOp .Mod) (rI (fun _ j=>0 < j) fun i j=> .int (i % j)):=opI fun i j _ _ _ _ _ hc q=>by
 have h1:(0:Int) < j:=hc
 exact mod_int' (by omega) (by rw [Int.fmod_eq_emod_of_nonneg i (by omega)];exact q)
theorem zp:OpR X (binaryOp .Pow) (rI jw fun i j=> .int (i ^ j.toNat)):=opI fun _ _ _ _ _ _ _ hc q=>pow_int_small hc.1 hc.2.1 hc.2.2 q
theorem unI {f:Value->Sem Value}{g:Int->Int}
  (rule:∀ (i:Int) (t:Tok) (s:Shared) (Q:Value->Shared->Prop) (E:Value->Shared->Prop),Q (.int (g i) s.toks) { s with toks:=s.toks + 1 }->wpAny (model X.prog X.w) X.A (f (.int i t)) Q E s) :
  UnR X f (rU fun i=> .int (g i)):=by
 intro pins s σ H x v Q I rx h
 obtain ⟨i,rfl,q⟩:=h
 obtain ⟨t,rfl⟩:=rx
 exact rule i t s _ _ ⟨.int (g i),H,I.tok _,⟨_,rfl⟩,q⟩
theorem wz:UnR X (unaryOp .USub) (rU fun i=> .int (-i)):=unI fun _ _ _ _ _ q=>neg_int q
end
section
variable {X:Cx}{a b c:Expr}{ta tb tc:TE}{pos:Pos}
theorem QM {pins:List (Addr × Obj)}{σ:St}{H:Hp}{s:Shared}{Q:VK}{k k':Bool}(I:Inv X pins σ H s)(q:Q (.bl k) H)(e:k=k'):EP X pins σ Q (.bool k') s:=by
 subst e
 exact ⟨.bl k,H,I,rfl,q⟩
theorem Xq:OpR X (compareOp .Lt) (rI0 fun i j=> .bl (decide (i < j))):=opB0 fun _ _ _ _ _ _ _ q=>lt_int q
theorem Xp:OpR X (compareOp .LtE) (rI0 fun i j=> .bl (decide (i<=j))):=opB0 fun _ _ _ _ _ _ _ q=>le_int q
theorem WF:OpR X (compareOp .Gt) (rI0 fun i j=> .bl (decide (j < i))):=opB0 fun _ _ _ _ _ _ _ q=>gt_int q
theorem ZX:OpR X (compareOp .GtE) (rI0 fun i j=> .bl (decide (j<=i))):=opB0 fun _ _ _ _ _ _ _ q=>ge_int q
theorem Hf:OpR X (compareOp .Is) (fun x y H Q=>y = .non/\Q (.bl (decide (x = .non))) H):=by
 intro pins s σ H x y v u Q I rx ry h
 obtain ⟨rfl,q⟩:=h
 cases ry
 refine is_none_gen (QM I q ?_)
 cases x <;> first
  | (cases rx;rfl)
  | (obtain ⟨t,rfl⟩:=rx;rfl)
theorem Hi:OpR X (compareOp .IsNot) (fun x y H Q=>y = .non/\Q (.bl (!decide (x = .non))) H):=by
 intro pins s σ H x y v u Q I rx ry h
 obtain ⟨rfl,q⟩:=h
 cases ry
 refine isnot_none_gen (QM I q ?_)
 cases x <;> first
  | (cases rx;rfl)
  | (obtain ⟨t,rfl⟩:=rx;rfl)

theorem OpR.or {f:Value->Value->Sem Value}{r r':R2}(h:OpR X f r)(h':OpR X f r'):OpR X f (fun x y H Q=>r x y H Q ∨ r' x y H Q):=by
 intro pins s σ H x y v u Q I rx ry q
 rcases q with q | q
 ·exact h pins s σ H x y v u Q I rx ry q
 ·exact h' pins s σ H x y v u Q I rx ry q

theorem m3 (b:Expr){op:CmpOp}(h:op ≠ .In:=by decide)(h2:op ≠ .NotIn:=by decide):behindInMarks op b=false:=by
 have e1:(op == CmpOp.In)=false:=by cases op <;> first | rfl | exact absurd rfl h
 have e2:(op == CmpOp.NotIn)=false:=by cases op <;> first | rfl | exact absurd rfl h2
 cases b <;> simp [behindInMarks,e1,e2]
theorem zg {op:CmpOp}{r:R2}(ho:OpR X (compareOp op) r)(ha:PE X a ta)(hb:PE X b tb)(hm:behindInMarks op b=false):PE X (.Compare a [op] [b] pos) (tOp r ta tb):=by
 intro pins s σ H Q I h
 exact wpAny_Compare1 (binT ha hb I h fun v u s2 x y H2 I2 rx ry q=>ho pins s2 σ H2 x y v u Q I2 rx ry q) hm
def Vt (t:TE):TT:=fun σ H Q=>t σ H fun x H'=>∃ k,x = .bl k/\Q k H'
theorem t9 {op:CmpOp}{r:R2}(ho:OpR X (compareOp op) r)(ha:PE X a ta)(hb:PE X b tb)(hm:behindInMarks op b=false):PT X (.Compare a [op] [b] pos) (Vt (tOp r ta tb)):=by
 intro pins s σ H Q I h
 refine wpAny_isTrue_Compare1 (j3 (ha pins s σ H _ I h) fun v s1 ⟨x,H1,I1,r1,q1⟩=>j3 (hb pins s1 σ H1 _ I1 q1) fun u s2 ⟨y,H2,I2,r2,q2⟩ =>
  j3 (ho pins s2 σ H2 x y v u _ I2 r1 r2 q2) fun c s3 ⟨z,H3,I3,r3,k,e,q3⟩=>?_) hm
 subst e
 cases r3
 exact wpAny_truthy_bool ⟨H3,I3,q3⟩
def Yg (r r':R2)(ta tb tc:TE):TE:=fun σ H Q=>ta σ H fun x H1=>tb σ H1 fun y H2=>r x y H2 fun z H3=>∃ k,z = .bl k /\
 (if k=true then tc σ H3 fun w' H4=>r' y w' H4 Q else Q (.bl false) H3)
theorem Ho {op op':CmpOp}{r r':R2}(ho:OpR X (compareOp op) r)(ho':OpR X (compareOp op') r')(ha:PE X a ta)(hb:PE X b tb)(hc:PE X c tc)
  (hm:lastMarks [op,op'] [b,c]=false:=by with_unfolding_all rfl):PE X (.Compare a [op,op'] [b,c] pos) (Yg r r' ta tb tc):=by
 intro pins s σ H Q I h
 refine Compare_chain (j3 (ha pins s σ H _ I h) fun v s1 ⟨x,H1,I1,r1,q1⟩=>chain_link (j3 (hb pins s1 σ H1 _ I1 q1) fun u s2 ⟨y,H2,I2,r2,q2⟩ =>
  j3 (ho pins s2 σ H2 x y v u _ I2 r1 r2 q2) fun d s3 ⟨z,H3,I3,r3,k,e,q3⟩=>?_)) hm
 subst e
 cases r3
 refine wpAny_truthy_bool ?_
 cases k with
 | false=>exact ite_ff ⟨.bl false,H3,I3,rfl,q3⟩
 | true=>exact ite_tt (chain_last (j3 (hc pins s3 σ H3 _ I3 q3) fun w' s4 ⟨z',H4,I4,r4,q4⟩=>ho' pins s4 σ H4 y z' u w' Q I4 r2 r4 q4))
theorem KG {op op':CmpOp}{r r':R2}(ho:OpR X (compareOp op) r)(ho':OpR X (compareOp op') r')(ha:PE X a ta)(hb:PE X b tb)(hc:PE X c tc)
  (hm:lastMarks [op,op'] [b,c]=false:=by with_unfolding_all rfl):PT X (.Compare a [op,op'] [b,c] pos) (Vt (Yg r r' ta tb tc)):=by
 intro pins s σ H Q I h
 refine isTrue_chain (j3 (ha pins s σ H _ I h) fun v s1 ⟨x,H1,I1,r1,q1⟩=>test_link (j3 (hb pins s1 σ H1 _ I1 q1) fun u s2 ⟨y,H2,I2,r2,q2⟩ =>
  j3 (ho pins s2 σ H2 x y v u _ I2 r1 r2 q2) fun d s3 ⟨z,H3,I3,r3,k,e,q3⟩=>?_)) hm
 subst e
 cases r3
 refine wpAny_truthy_bool ?_
 cases k with
 | false =>
  obtain ⟨k',e',q'⟩:=q3
  cases e'
  exact ite_ff ⟨H3,I3,q'⟩
 | true =>
  refine ite_tt (test_last (j3 (hc pins s3 σ H3 _ I3 q3) fun w' s4 ⟨z',H4,I4,r4,q4⟩=>j3 (ho' pins s4 σ H4 y z' u w' _ I4 r2 r4 q4) fun d' s5 ⟨z2,H5,I5,r5,k2,e2,q5⟩=>?_))
  subst e2
  cases r5
  exact wpAny_truthy_bool ⟨H5,I5,q5⟩

def TruV (K:Fg)(x:V)(H:Hp)(k:Bool):Prop :=
 match x with
 | .non=>k=false
 | .bl b=>k=b
 | .int i=>k=(i != 0)
 | .str y=>y.length<=sizeLine/\k=((y.length:Int) != 0)
 | .byt y=>y.size<=sizeLine/\k=((y.size:Int) != 0)
 | .ref p=>(∃ xs,SqL K H p xs/\k=!xs.isEmpty) ∨ (∃ xs,SqT K H p xs/\k=!xs.isEmpty) ∨ ∃ kvs,H p=some (.dK kvs)/\k=!kvs.isEmpty
 | _=>False
theorem Mw {κ:Type}{kvs:List (κ × V)}{vs:List (κ × Value)}(r:KV kvs vs):(!vs.isEmpty)=!kvs.isEmpty:=by
 cases r <;> rfl
theorem GS {xs:List V}{its:List Value}(r:Vals xs its):(!its.toArray.isEmpty)=!xs.isEmpty:=by
 cases r <;> simp
theorem vV:(sizeLine:Nat) < 2 ^ 63:=by rw [sizeLine_eq];decide
theorem TU:TruR X (fun x H Q=>∃ k,TruV X.K x H k/\Q k H):=by
 intro pins s σ H x v Q I rx h
 obtain ⟨k,e,q⟩:=h
 have hl:=vV
 have hs:sizeLine=16777216:=sizeLine_eq
 cases x with
 | non =>
  cases rx
  have e':k=false:=e
  subst e'
  exact truthy_none ⟨H,I,q⟩
 | bl b =>
  cases rx
  have e':k=b:=e
  subst e'
  exact wpAny_truthy_bool ⟨H,I,q⟩
 | int i =>
  obtain ⟨t,rfl⟩:=rx
  have e':k=(i != 0):=e
  subst e'
  exact PySem.P.truthy_int ⟨H,I,q⟩
 | str y =>
  obtain ⟨t,rfl⟩:=rx
  obtain ⟨hy,e'⟩:y.length<=sizeLine/\k=((y.length:Int) != 0):=e
  subst e'
  exact PySem.P.truthy_str (by omega) ⟨H,I.tok _,q⟩
 | byt y =>
  obtain ⟨t,rfl⟩:=rx
  obtain ⟨hy,e'⟩:y.size<=sizeLine/\k=((y.size:Int) != 0):=e
  subst e'
  exact PySem.W.truthy_bytes (by omega) ⟨H,I.tok _,q⟩
 | ref p =>
  cases rx
  have e':(∃ xs,SqL X.K H p xs/\k=!xs.isEmpty) ∨ (∃ xs,SqT X.K H p xs/\k=!xs.isEmpty) ∨ ∃ kvs,H p=some (.dK kvs)/\k=!kvs.isEmpty:=e
  rcases e' with ⟨xs,hx,e'⟩ | ⟨xs,hx,e'⟩ | ⟨kvs,hx,e'⟩
  ·subst e'
   obtain ⟨its,r,pl,hz⟩:=I.list hx
   have hlen:=r.length
   exact wpAny_truthy_list pl.isList (by simp only [List.size_toArray];omega) ⟨H,I.tok _,by rw [GS r];exact q⟩
  ·subst e'
   obtain ⟨its,r,pl,hz⟩:=I.tuple hx
   have hlen:=r.length
   exact truthy_tuple pl (by simp only [List.size_toArray];omega) ⟨H,I.tok _,by rw [GS r];exact q⟩
  ·subst e'
   obtain ⟨hz,hS,vs,r,m⟩:kvs.length<=sizeLine/\(p == sysModules)=false/\∃ vs,KV kvs vs/\s.heap.DictOf (qG X.prog X.w) p vs:=I.hok p _ hx
   have hlen:kvs.length=vs.length:=Paired.length r
   exact wpAny_truthy_dict hS m (by omega) ⟨H,I.tok _,by rw [Mw r];exact q⟩
 | _=>exact (show False from e).elim
theorem HY (ha:PE X a ta)(he:∀ whole,isTrue a X.env whole=(do let v <- whole;standAt a.pos;holding [v] (truthy v))) :
  PT X a (fun σ H Q=>ta σ H fun x H'=>∃ k,TruV X.K x H' k/\Q k H'):=by
 intro pins s σ H Q I h
 exact isTrue_plain (j3 (ha pins s σ H _ I h) fun v s1 ⟨x,H1,I1,r1,q1⟩=>TU pins s1 σ H1 x v Q I1 r1 q1) (he _)

theorem op_add_str:OpR X (binaryOp .Add) (fun x y H Q=>∃ i j,x = .str i/\y = .str j/\i.length + j.length<=sizeLine/\Q (.str (i++j)) H):=by
 intro pins s σ H x y v u Q I rx ry h
 obtain ⟨i,j,rfl,rfl,hz,q⟩:=h
 obtain ⟨t,rfl⟩:=rx
 obtain ⟨t',rfl⟩:=ry
 exact add_str (fun t' tk=>⟨.str (i++j),H,I.tok _,⟨_,rfl⟩,q⟩) hz
theorem zY {x:V}{us:List Value}(r:Vals [x] us):∃ u,us=[u]/\RelV x u:=by
 cases r with
 | cons r1 r2=>cases r2;exact ⟨_,rfl,r1⟩
theorem Vz {x y:V}{us:List Value}(r:Vals [x,y] us):∃ u w',us=[u,w']/\RelV x u/\RelV y w':=by
 cases r with
 | cons r1 r2 =>
  cases r2 with
  | cons r3 r4=>cases r4;exact ⟨_,_,rfl,r1,r3⟩
theorem CH (hc:X.calm=true):CallR X (.builtin "min") (fun xs H Q=>∃ i j,xs=[.int i,.int j]/\Q (.int (if j < i then j else i)) H):=by
 intro pins s σ H xs us Q I r h
 obtain ⟨i,j,rfl,q⟩:=h
 obtain ⟨u,w',rfl,⟨t,rfl⟩,⟨t',rfl⟩⟩:=Vz r
 refine min_two_ints (I.ok.hd hc) fun h' tk k=>⟨_,H,I.kept k,?_,q⟩
 by_cases hj:j < i
 ·rw [if_pos hj,if_pos hj];exact ⟨_,rfl⟩
 ·rw [if_neg hj,if_neg hj];exact ⟨_,rfl⟩
def LenV (K:Fg)(x:V)(H:Hp)(n:Nat):Prop :=
 match x with
 | .str y=>y.length<=sizeLine/\n=y.length
 | .byt y=>y.size<=sizeLine/\n=y.size
 | .ref p=>(∃ xs,SqL K H p xs/\n=xs.length) ∨ ∃ xs,SqT K H p xs/\n=xs.length
 | _=>False
theorem CA:CallR X (.builtin "len") (fun xs H Q=>∃ x n,xs=[x]/\LenV X.K x H n/\Q (.int n) H):=by
 intro pins s σ H xs us Q I r h
 obtain ⟨x,n,rfl,e,q⟩:=h
 obtain ⟨u,rfl,rx⟩:=zY r
 have hl:=vV
 have hs:sizeLine=16777216:=sizeLine_eq
 cases x with
 | str y =>
  obtain ⟨t,rfl⟩:=rx
  obtain ⟨hy,e'⟩:y.length<=sizeLine/\n=y.length:=e
  subst e'
  exact len_str (by omega) ⟨.int _,H,I.tok _,⟨_,rfl⟩,q⟩
 | byt y =>
  obtain ⟨t,rfl⟩:=rx
  obtain ⟨hy,e'⟩:y.size<=sizeLine/\n=y.size:=e
  subst e'
  exact PySem.W.len_bytes (by omega) ⟨.int _,H,I.tok _,⟨_,rfl⟩,q⟩
 | ref p =>
  cases rx
  have e':(∃ xs,SqL X.K H p xs/\n=xs.length) ∨ ∃ xs,SqT X.K H p xs/\n=xs.length:=e
  rcases e' with ⟨xs,hx,e'⟩ | ⟨xs,hx,e'⟩
  ·subst e'
   obtain ⟨its,r',pl,hz⟩:=I.list hx
   have hlen:=r'.length
   exact Calls.call_len_list pl.isList (by simp only [List.size_toArray];omega) ⟨.int xs.length,H,I.tok _,⟨_,by simp only [List.size_toArray];rw [hlen]⟩,q⟩
  ·subst e'
   obtain ⟨its,r',pl,hz⟩:=I.tuple hx
   have hlen:=r'.length
   exact len_tuple pl (by simp only [List.size_toArray];omega) ⟨.int xs.length,H,I.tok _,⟨_,by simp only [List.size_toArray];rw [hlen]⟩,q⟩
 | _=>exact (show False from e).elim
end
end L2
namespace L2
open PySem PySem.Spec PyProof.Rows
structure ObjM (h:Heap)(x dx C:Addr)(mA:Str->Option Value):Prop where
 obj:h.get? x=some (PySem.W.instObj C dx)
 ns:h.Ns1 dx mA
 ne:dx ≠ x

theorem Lk {h:Heap}{dx:Addr}{mA:Str->Option Value}(n:h.Ns1 dx mA):∃ od,h.get? dx=some od/\∀ name,PySem.W.lookIn name od=some (mA name):=by
 obtain ⟨o,es,ep,ho,hd,hk,_,hm⟩:=n
 refine ⟨o,ho,fun name=>?_⟩
 have e:=hm name
 unfold nsFind findBy at e
 rw [<- Array.find?_toList] at e
 unfold PySem.W.lookIn
 rw [hd]
 dsimp only
 split
 ·rename_i y q
  rw [q] at e
  exact congrArg some e
 ·rename_i q
  rw [q] at e
  have a:es.toList.any (·.refKey)=false:=by
   rw [List.any_eq_false]
   intro y hy
   obtain ⟨z,t,hkey⟩:=hk y (Array.mem_toList_iff.mp hy)
   simp [DictEntry.refKey,hkey]
  have a':¬ es.toList.any (·.refKey)=true:=by rw [a];exact Bool.false_ne_true
  rw [if_neg a']
  exact congrArg some e

theorem ObjM.look {h:Heap}{x dx C:Addr}{mA:Str->Option Value}(I:ObjM h x dx C mA):∃ od,PySem.W.InstAt h x (PySem.W.instObj C dx) C (some od)/\∀ name,PySem.W.lookIn name od=some (mA name) :=
 let ⟨od,ho,hl⟩:=Lk I.ns
 ⟨od,⟨I.obj,rfl,rfl,ho⟩,hl⟩

section
variable {prog:Program}{w:World}{A:Around}{E:Value->Shared->Prop}{s:Shared}{K:Fg}{x dx C f:Addr}{mA:Str->Option Value}{name:Str}{v:Value}
theorem DQ {expr:Bool}{Q:Value->Shared->Prop}(X:K.In s.heap)(I:ObjM s.heap x dx C mA)(hg:PySem.W.plainGet K C name=true)(hh:PySem.W.hasDictIn K C=true)
  (ha:PySem.W.findIn K (.ref C) name=some none) (hv:mA name=some v) (hv':PySem.W.handedIn v=true) (h:Q v { s with toks:=s.toks + 1 }) :
  wpAny (model prog w) A (getAttr (.ref x) name expr) Q E s:=by
 obtain ⟨od,J,hl⟩:=I.look
 exact PySem.W.get_value X J (PySem.W.plainGet_of hg).1 (PySem.W.findObj_own hh ha rfl (by rw [hl,hv])) hv' h

theorem DR {pl:Sem Bool}{Q:Value × List Value->Shared->Prop}(X:K.In s.heap)(I:ObjM s.heap x dx C mA)(hg:PySem.W.plainGet K C name=true)
  (hf:PySem.W.findIn K (.ref C) name=some (some (.ref f))) (ht:PySem.W.isFn K (.ref f)=true) (hv:mA name=none) (h:Q (.ref f,[.ref x]) s) :
  wpAny (model prog w) A (getMethod (.ref x) name pl) Q E s:=by
 obtain ⟨od,J,hl⟩:=I.look
 exact PySem.W.method_fn X J (PySem.W.plainGet_of hg).1 (PySem.W.plainGet_of hg).2 hf (beq_iff_eq.mp ht) (by show (PySem.W.lookIn name od).map (·.isSome)=some false;rw [hl,hv];rfl) h

theorem Ts {ns:List Str}{Q:Unit->Shared->Prop}(X:K.In s.heap)(I:ObjM s.heap x dx C mA)
  (hs:PySem.W.findIn K (.ref C) "__setattr__"=some (some (.builtin "object.__setattr__"))) (hp:PySem.W.plainOver K C=true) (ht:PySem.W.takerIn K C name=some none) (hh:PySem.W.hasDictIn K C=true)
  (hw:PySem.Within mA ns) (hsz:ns.length<=sizeLine)
  (h:∀ h',ObjM h' x dx C (fun y=>if y=name then some v else mA y)->Heap.SameBut dx s.heap h'->Q () { s with heap:=h',toks:=s.toks + 2 }) :
  wpAny (model prog w) A (setAttr (.ref x) name v) Q E s:=by
 obtain ⟨od,J,hl⟩:=I.look
 refine PySem.W.set_plain X J hs (PySem.W.osa_open (s:={ s with toks:=s.toks + 1 }) (r:=none) X J hp ht fun b=>?_)
 obtain ⟨cd,hc,hd'⟩:=PySem.W.any_some hh
 have hx:s.heap.get? x=some ⟨.ref C,some dx,.plain,#[]⟩:=I.obj
 refine wpAny_bind (wpAny_pure (wpAny_bind (wpAny_bind (wpAny_loadPart hx (wpAny_bind (PySem.W.Looks.here (s:={ s with toks:=s.toks + 1 }) (PySem.W.looks_clsIn X hc) ?_))))))
 rw [hd']
 refine wpAny_pure (a:=some dx) (wpAny_bind (wpAny_pure (wpAny_bind ?_)))
 refine wpAny_nsSet1 (s:={ s with toks:=s.toks + 1 }) I.ns fun h' hn2 hs2=>?_
 obtain ⟨oD,esD,epD,hoD,hdD,hcD⟩:=hn2.count (PySem.Within.cons name v hw)
 refine wpAny_bind (wpAny_lookBehind hoD (by rw [hdD];exact pastItsLine_dict (Nat.le_trans hcD (by rw [List.length_cons];omega))) ?_)
 exact wpAny_pure (h _ ⟨(hs2.2 _ (Ne.symm I.ne)).trans I.obj,hn2,I.ne⟩ hs2)

theorem Ln {R:Result->Shared->Prop}{vs:List Value}{kw:List (Str × Value)}(X:K.In s.heap)(hm:PySem.W.makesIn K C=true)
  (hi:PySem.W.findIn K (.ref C) "__init__"=some (some (.ref f))) (hf:PySem.W.typeIn K (.ref f)=some (.type "function"))
  (h:codeAny (model prog w) (A.under (.builtin "type.__call__" ⟨.ref C::vs,kw⟩)) (.call (.ref f) ⟨.ref (s.heap.objs.size + 1)::vs,kw⟩) (PySem.W.InitBack (s.heap.objs.size + 1) R)
   { s with heap:=(s.heap.push PySem.W.emptyDict).push (PySem.W.instObj C s.heap.objs.size) }) :
  codeAny (model prog w) A (.call (.ref C) ⟨vs,kw⟩) R s:=by
 obtain ⟨hh,g,d,t,os⟩:=s
 exact PySem.W.make_core (PySem.W.makes_of X hm) (PySem.W.looks_findIn X hi) (fun self=>PySem.W.bind_fn X self hf) (.inl rfl) h
end
def xx (f:Str)(v:V):List (Str × V)->List (Str × V)
 | []=>[(f,v)]
 | (g,x)::r=>if g=f then (g,v)::r else (g,x)::xx f v r
theorem Kk (f g:Str)(v:V):∀ fs:List (Str × V),(xx f v fs).lookup g=if g=f then some v else fs.lookup g
 | []=>by
  show List.lookup g [(f,v)]=_
  by_cases h:g=f
  ·have hb:(g == f)=true:=beq_iff_eq.mpr h
   simp only [List.lookup,hb,if_pos h]
  ·have hb:(g == f)=false:=beq_eq_false_iff_ne.mpr h
   simp only [List.lookup,hb,if_neg h]
 | (k,x)::r=>by
  have ih:=Kk f g v r
  rw [show xx f v ((k,x)::r)=(if k=f then (k,v)::r else (k,x)::xx f v r) from rfl]
  by_cases hk:k=f
  ·rw [if_pos hk]
   by_cases h:g=k
   ·have hb:(g == k)=true:=beq_iff_eq.mpr h
    simp only [List.lookup,hb,if_pos (h.trans hk)]
   ·have hb:(g == k)=false:=beq_eq_false_iff_ne.mpr h
    simp only [List.lookup,hb,if_neg (fun e:g=f=>h (e.trans hk.symm))]
  ·rw [if_neg hk]
   by_cases h:g=k
   ·have hb:(g == k)=true:=beq_iff_eq.mpr h
    simp only [List.lookup,hb,if_neg (fun e:g=f=>hk (h.symm.trans e))]
   ·have hb:(g == k)=false:=beq_eq_false_iff_ne.mpr h
    simp only [List.lookup,hb]
    exact ih
theorem Wv (f:Str)(v:V):∀ fs:List (Str × V),f ∈ (xx f v fs).map (·.1)/\∀ g,g ∈ fs.map (·.1)->g ∈ (xx f v fs).map (·.1)
 | []=>⟨by simp [xx],fun g h=>by simp at h⟩
 | (k,x)::r=>by
  obtain ⟨i1,i2⟩:=Wv f v r
  rw [show xx f v ((k,x)::r)=(if k=f then (k,v)::r else (k,x)::xx f v r) from rfl]
  by_cases hk:k=f
  ·rw [if_pos hk]
   subst hk
   exact ⟨by simp,fun g h=>by simpa using h⟩
  ·rw [if_neg hk]
   refine ⟨?_,fun g h=>?_⟩
   ·rw [List.map_cons]
    exact List.mem_cons_of_mem _ i1
   ·rw [List.map_cons] at h ⊢
    rcases List.mem_cons.mp h with e | e
    ·exact List.mem_cons.mpr (.inl e)
    ·exact List.mem_cons_of_mem _ (i2 g e)
theorem Kf (f:Str)(v:V):∀ fs:List (Str × V),(xx f v fs).length<=fs.length + 1
 | []=>by simp [xx]
 | (k,x)::r=>by
  have ih:=Kf f v r
  rw [show xx f v ((k,x)::r)=(if k=f then (k,v)::r else (k,x)::xx f v r) from rfl]
  by_cases hk:k=f
  ·rw [if_pos hk,List.length_cons,List.length_cons];omega
  ·rw [if_neg hk,List.length_cons,List.length_cons];omega

theorem RelO.some_of {v:V}{o:Option Value}(r:RelO (some v) o):∃ u,o=some u/\RelV v u:=by
 cases o with
 | none=>exact (show False from r).elim
 | some u=>exact ⟨u,rfl,r⟩
theorem RelO.none_of {o:Option Value}(r:RelO none o):o=none:=by
 cases o with
 | none=>rfl
 | some u=>exact (show False from r).elim
theorem DV {v:V}{u:Value}(r:RelV v u):PySem.W.handedIn u=true:=by
 cases v with
 | non=>cases (show u=Value.none from r);rfl
 | bl b=>cases (show u=Value.bool b from r);rfl
 | int i=>obtain ⟨t,e⟩:=(show ∃ t,u=Value.int i t from r);cases e;rfl
 | str x=>obtain ⟨t,e⟩:=(show ∃ t,u=Value.str x t from r);cases e;rfl
 | byt b=>obtain ⟨t,e⟩:=(show ∃ t,u=Value.bytes b t from r);cases e;rfl
 | flt b=>obtain ⟨t,e⟩:=(show ∃ t,u=Value.float b t from r);cases e;rfl
 | ref a=>cases (show u=Value.ref a from r);rfl
 | ty n=>cases (show u=Value.type n from r);rfl

section
variable {P:Program}{w:World}{H H':Hp}{h h':Heap}{a C dx:Addr}{fs fs':List (Str × V)}
theorem ZC (hok:HOk P w H h)(e:H a=some (.ins C dx fs)):∃ mA,ObjM h a dx C mA/\(∀ f,RelO (fs.lookup f) (mA f))/\PySem.Within mA (fs.map (·.1))/\fs.length<=1000/\H dx=some (.own a):=by
 obtain ⟨d,z,ne,ob,mA,n,r,q⟩:=(show ObjOk P w H h a (.ins C dx fs) from hok a _ e)
 exact ⟨mA,⟨ob,n,ne⟩,r,q,z,d⟩
end
structure Cls (K:Fg)(C:Addr):Prop where
 pg:PySem.W.plainGet K C Str.empty=true
 hd:PySem.W.hasDictIn K C=true
 po:PySem.W.plainOver K C=true
 sa:PySem.W.findIn K (.ref C) "__setattr__"=some (some (.builtin "object.__setattr__"))
theorem Cls.get {K:Fg}{C:Addr}(c:Cls K C)(f:Str):PySem.W.plainGet K C f=true:=c.pg
def NoAttr (K:Fg)(C:Addr)(f:Str):Prop:=PySem.W.findIn K (.ref C) f=some none
theorem NoAttr.taker {K:Fg}{C:Addr}{f:Str}(n:NoAttr K C f):PySem.W.takerIn K C f=some none:=by
 unfold PySem.W.takerIn
 rw [show PySem.W.findIn K (.ref C) f=some none from n]
 rfl
structure wE (K:Fg)(C:Addr)(m:Str)(f:Addr):Prop where
 at_:PySem.W.findIn K (.ref C) m=some (some (.ref f))
 fn:PySem.W.isFn K (.ref f)=true
 kp:PySem.W.keepIn K (.ref f)=true

section
variable {X:Cx}{pins:List (Addr × Obj)}{σ:St}{H:Hp}{s:Shared}{a C dx:Addr}{fs:List (Str × V)}{f:Str}{v:V}{A:Around}{E:Value->Shared->Prop}
theorem DS {b:Bool}{Q:Value->Shared->Prop}(I:Inv X pins σ H s)(e:H a=some (.ins C dx fs))(c:Cls X.K C)(n:NoAttr X.K C f)(l:fs.lookup f=some v)
  (h:∀ u s',Inv X pins σ H s'->RelV v u->Q u s'):wpAny (model X.prog X.w) A (getAttr (.ref a) f b) Q E s:=by
 obtain ⟨mA,O,r,_,_,_⟩:=ZC I.hok e
 obtain ⟨u,hu,ru⟩:=RelO.some_of (v:=v) (o:=mA f) (by rw [<- l];exact r f)
 exact DQ I.kIn O (c.get f) c.hd n hu (DV ru) (h u _ (I.tok _) ru)

theorem Wn {m:Str}{g:Addr}{pl:Sem Bool}{Q:Value × List Value->Shared->Prop}(I:Inv X pins σ H s)(e:H a=some (.ins C dx fs))(c:Cls X.K C)(k:wE X.K C m g)(l:fs.lookup m=none)
  (h:Q (.ref g,[.ref a]) s):wpAny (model X.prog X.w) A (getMethod (.ref a) m pl) Q E s:=by
 obtain ⟨mA,O,r,_,_,_⟩:=ZC I.hok e
 have hn:mA m=none:=RelO.none_of (by rw [<- l];exact r m)
 exact DR I.kIn O (c.get m) k.at_ k.fn hn h

theorem Tu {y:V}{u:Value}{Q:Unit->Shared->Prop}(I:Inv X pins σ H s)(e:H a=some (.ins C dx fs))(c:Cls X.K C)(n:NoAttr X.K C f)(hl:fs.length < 1000)(ry:RelV y u)
  (h:∀ s',Inv X pins σ (j9 H a (.ins C dx (xx f y fs))) s'->Q () s'):wpAny (model X.prog X.w) A (setAttr (.ref a) f u) Q E s:=by
 obtain ⟨mA,O,r,wi,_,ho⟩:=ZC I.hok e
 have hz:(fs.map (·.1)).length<=sizeLine:=by rw [List.length_map,sizeLine_eq];omega
 refine Ts I.kIn O c.sa c.po n.taker c.hd wi hz fun h' O' sb=>h _ ?_
 have hd:∃ o,h'.get? dx=some o:=let ⟨o,_,_,e',_⟩:=O'.ns;⟨o,e'⟩
 refine I.write (x:=a) (e:=dx) (by rw [e];exact True.intro) (.inr ho) (fun b q hb z=>(sb.2 b hb).trans z) hd ?_
 refine ⟨by rw [v6 O.ne];exact ho,?_,O.ne,O'.obj,_,O'.ns,fun g=>?_,fun g hg=>?_⟩
 ·have:=Kf f y fs;omega
 ·show RelO ((xx f y fs).lookup g) (if g=f then some u else mA g)
  rw [Kk]
  by_cases q:g=f
  ·rw [if_pos q,if_pos q];exact ry
  ·rw [if_neg q,if_neg q];exact r g
 ·by_cases q:g=f
  ·rw [q];exact (Wv f y fs).1
  ·refine (Wv f y fs).2 g (wi g fun z=>hg ?_)
   show (if g=f then some u else mA g)=none
   rw [if_neg q];exact z

theorem Inv.made (I:Inv X pins σ H s):Inv X pins σ (j9 (j9 H s.heap.objs.size (.own (s.heap.objs.size + 1))) (s.heap.objs.size + 1) (.ins C s.heap.objs.size []))
  { s with heap:=(s.heap.push PySem.W.emptyDict).push (PySem.W.instObj C s.heap.objs.size) }:=by
 have e1:(s.heap.push PySem.W.emptyDict).get? s.heap.objs.size=some PySem.W.emptyDict:=Heap.get?_push_size s.heap rfl
 have e2:((s.heap.push PySem.W.emptyDict).push (PySem.W.instObj C s.heap.objs.size)).get? (s.heap.objs.size + 1)=some (PySem.W.instObj C s.heap.objs.size):=by
  have:=Heap.get?_push_size (s.heap.push PySem.W.emptyDict) (o:=PySem.W.instObj C s.heap.objs.size) rfl
  rwa [Heap.size_push] at this
 have e3:(s.heap.push PySem.W.emptyDict).Ns s.heap.objs.size (fun _=>none):=⟨PySem.W.emptyDict,#[],_,e1,rfl,(fun e he=>absurd he (by simp)),fun _=>rfl⟩
 have I1:=I.laid (a:=s.heap.objs.size) (o:= .own (s.heap.objs.size + 1)) (h':=s.heap.push PySem.W.emptyDict) (t':=s.toks) (fun b u q=>Heap.get?_push_of_some _ q) (Nat.le_refl _) ⟨_,e1⟩
 refine I1.laid (a:=s.heap.objs.size + 1) (o:= .ins C s.heap.objs.size []) (t':=s.toks) (fun b u q=>Heap.get?_push_of_some _ q) (Nat.le_of_eq (Heap.size_push _ _)) ?_
 have ne:s.heap.objs.size ≠ s.heap.objs.size + 1:=Nat.ne_of_lt (Nat.lt_succ_self _)
 refine ⟨by rw [v6 ne,g0],Nat.zero_le _,ne,e2,fun _=>none,(Heap.Ns1.of_empty e3).at fun o q=>Heap.get?_push_of_some _ q,fun _=>True.intro,fun y hy=>absurd rfl hy⟩

theorem PZ {prog:Program}{w:World}{env:Env}{e:Expr}{f:Str}{pos:Pos}{s:Shared}{Q:Value->Shared->Prop}(hb:attributeBase e f env (eval e env)=eval e env)
  (h:wpAny (model prog w) A (eval e env) (fun o s₁=>wpAny (model prog w) A (getAttr o f true) Q E s₁) E s):wpAny (model prog w) A (eval (.Attribute e f pos) env) Q E s :=
 Attribute_any_ h (by rw [arm_eval_Attribute,hb])
end
def tFld (K:Fg)(ta:TE)(f:Str):TE:=fun σ H Q=>ta σ H fun x H1=>∃ a C dx fs v,x = .ref a/\H1 a=some (.ins C dx fs)/\Cls K C/\NoAttr K C f/\fs.lookup f=some v/\Q v H1
def XN (K:Fg)(ta tv:TE)(f:Str):TS:=fun D σ H=>tv σ H fun y H1=>ta σ H1 fun x H2=>∃ a C dx fs,x = .ref a/\H2 a=some (.ins C dx fs)/\Cls K C/\NoAttr K C f/\fs.length < 1000 /\
 D.nx σ (j9 H2 a (.ins C dx (xx f y fs)))
section
variable {X:Cx}{o e value:Expr}{f:Str}{pos pos' tpos:Pos}{ta tv:TE}
theorem Hr (he:PE X e ta)(hb:attributeBase e f X.env (eval e X.env)=eval e X.env):PE X (.Attribute e f pos) (tFld X.K ta f):=by
 intro pins s σ H Q I h
 refine PZ hb (j3 (he pins s σ H _ I h) fun u s1 ⟨x,H1,I1,rx,a,C,dx,fs,v,ex,ea,c,n,l,q⟩=>?_)
 subst ex
 obtain rfl:u=Value.ref a:=rx
 exact DS I1 ea c n l fun u' s2 I2 ru=>⟨v,H1,I2,ru,q⟩
theorem HP (ha:PE X o ta)(hv:PE X value tv)(hs:swapsWith value (some (.Attribute o f pos')) pos.line X.env=pure false):PS X (.Assign [.Attribute o f pos'] value pos) (XN X.K ta tv f):=by
 intro pins s σ H D I h
 refine plainObj_wpAny_Assign_Attribute (j3 (hv pins s σ H _ I h) fun u s1 ⟨y,H1,I1,ry,q⟩=>j3 (ha pins s1 σ H1 _ I1 q) fun ov s2 ⟨x,H2,I2,rx,a,C,dx,fs,ex,ea,c,n,l,q2⟩=>?_) hs
 subst ex
 obtain rfl:ov=Value.ref a:=rx
 exact Tu I2 ea c n l ry fun s3 I3=>⟨σ,_,I3,q2⟩
theorem SO {pl:Sem Bool}{m:Str}{apos:Pos}{args:List Expr}{pins:List (Addr × Obj)}{s:Shared}{σ:St}{H:Hp}{Q:Value->Shared->Prop}{te:TE}(he:PE X e te)(I:Inv X pins σ H s)
  (h:te σ H fun x H1=>∃ a C dx fs g,x = .ref a/\H1 a=some (.ins C dx fs)/\Cls X.K C/\wE X.K C m g/\fs.lookup m=none /\
   ∀ s1,Inv X pins σ H1 s1->wpAny (model X.prog X.w) X.A (callWith pos (.ref g) [.ref a] (backTo pos (starEach args X.env)) (backToKw pos (keywordEach [] X.env))) Q X.xe s1)
  (ht:eval (.Call (.Attribute e m apos) args [] pos) X.env=(do
   let ov <- eval e X.env
   standAt apos.atName
   let (f,first) <- holding [ov] (getMethod ov m pl)
   callWith pos f first (backTo pos (starEach args X.env)) (backToKw pos (keywordEach [] X.env)))) :
  wpAny (model X.prog X.w) X.A (eval (.Call (.Attribute e m apos) args [] pos) X.env) Q X.xe s:=by
 refine PySem.W.methodCall_KW (pl:=pl) (j3 (he pins s σ H _ I h) fun u s1 ⟨x,H1,I1,rx,a,C,dx,fs,g,ex,ea,c,k,l,q⟩=>?_) ht
 subst ex
 obtain rfl:u=Value.ref a:=rx
 exact Wn I1 ea c k l (q s1 I1)
end
section
variable {X:Cx}{pins:List (Addr × Obj)}{σ:St}{H:Hp}{s:Shared}{A:Around}{E:Value->Shared->Prop}{Q:Value->Shared->Prop}{c:Value}{b:Bool}
inductive xP (K:Fg)(H:Hp):V->Value->Prop where
 | non:xP K H .non (.type "NoneType")
 | bl (x:Bool):xP K H (.bl x) (.type "bool")
 | int (i:Int):xP K H (.int i) (.type "int")
 | str (x:Str):xP K H (.str x) (.type "str")
 | flt (x:UInt64):xP K H (.flt x) (.type "float")
 | lst {a:Addr} {xs:List V} (e:H a=some (.lst xs)):xP K H (.ref a) (.type "list")
 | frz {a:Addr} {o:Obj} {xs:List V} (e:H a=some (.frz o (.lst xs))):xP K H (.ref a) (.type "list")
 | tup {a:Addr} {xs:List V} (e:H a=some (.tup xs)):xP K H (.ref a) (.type "tuple")
 | dK {a:Addr} {kvs:List (z8 × V)} (e:H a=some (.dK kvs)):xP K H (.ref a) (.type "dict")
 | dT {a:Addr} {kvs:List (List z8 × V)} (e:H a=some (.dT kvs)):xP K H (.ref a) (.type "dict")
 | ins {a C dx:Addr} {fs:List (Str × V)} (e:H a=some (.ins C dx fs)) (cl:Cls K C) (ha:PySem.W.findIn K (.ref C) "__class__"=some (some (.builtin "object.__class__")))
   (hn:PySem.W.specialIn K (.builtin "object.__class__") "__get__"=some (some (.builtin "getset_descriptor.__get__"))) (htk:PySem.W.takesIn K (.builtin "object.__class__")=some true)
   (hm:PySem.W.mroIn K C (.type "object")=some true):xP K H (.ref a) (.ref C)
theorem MD {x:V}{u t:Value}(I:Inv X pins σ H s)(rx:RelV x u)(ty:xP X.K H x t)(e:PySem.W.kitOne X.K t c=some b)(h:∀ tk,Q (.bool b) { s with toks:=tk }) :
  wpAny (model X.prog X.w) A (call (.builtin "isinstance") [u,c]) Q E s:=by
 cases ty with
 | non=>cases (show u=Value.none from rx);exact PySem.W.kia_one PySem.W.kitx_none I.kIn True.intro e (fun z=>nomatch z) h
 | bl y=>cases (show u=Value.bool y from rx);exact PySem.W.kia_one PySem.W.kitx_bool I.kIn True.intro e (fun z=>nomatch z) h
 | int i=>obtain ⟨t,q⟩:=(show ∃ t,u=Value.int i t from rx);cases q;exact PySem.W.kia_one PySem.W.kitx_int I.kIn True.intro e (fun z=>nomatch z) h
 | str y=>obtain ⟨t,q⟩:=(show ∃ t,u=Value.str y t from rx);cases q;exact PySem.W.kia_one PySem.W.kitx_str I.kIn True.intro e (fun z=>nomatch z) h
 | flt y=>obtain ⟨t,q⟩:=(show ∃ t,u=Value.float y t from rx);cases q;exact PySem.W.kia_one PySem.W.kitx_float I.kIn True.intro e (fun z=>nomatch z) h
 | @lst a xs ea =>
  cases (show u=Value.ref a from rx)
  obtain ⟨_,_,n,_,h1⟩:=(show ObjOk X.prog X.w H s.heap a (.lst xs) from I.hok a _ ea)
  exact PySem.W.kia_one PySem.W.kitx_list I.kIn ⟨_,h1,rfl⟩ e (fun z=>nomatch z) h
 | @frz a ob xs ea =>
  cases (show u=Value.ref a from rx)
  obtain ⟨_,_,_,n,_,h1⟩:=(show ObjOk X.prog X.w H s.heap a (.frz ob (.lst xs)) from I.hok a _ ea)
  exact PySem.W.kia_one PySem.W.kitx_list I.kIn ⟨_,h1,rfl⟩ e (fun z=>nomatch z) h
 | @tup a xs ea =>
  cases (show u=Value.ref a from rx)
  obtain ⟨_,_,_,p⟩:=(show ObjOk X.prog X.w H s.heap a (.tup xs) from I.hok a _ ea)
  obtain ⟨o,h1,h2,_⟩:=p
  exact PySem.W.kia_one PySem.W.kitx_tuple I.kIn ⟨o,h1,h2⟩ e (fun z=>nomatch z) h
 | @dK a kvs ea =>
  cases (show u=Value.ref a from rx)
  obtain ⟨_,_,vs,_,p⟩:=(show ObjOk X.prog X.w H s.heap a (.dK kvs) from I.hok a _ ea)
  obtain ⟨o,es,ep,h1,h2,_⟩:=p
  exact PySem.W.kia_one PySem.W.kitx_dict I.kIn ⟨o,h1,h2.1⟩ e (fun z=>nomatch z) h
 | @dT a kvs ea =>
  cases (show u=Value.ref a from rx)
  obtain ⟨_,_,xs,_,o,es,ep,h1,h2,_⟩:=(show ObjOk X.prog X.w H s.heap a (.dT kvs) from I.hok a _ ea)
  exact PySem.W.kia_one PySem.W.kitx_dict I.kIn ⟨o,h1,h2.1⟩ e (fun z=>nomatch z) h
 | @ins a C dx fs ea cl ha hn htk hm =>
  cases (show u=Value.ref a from rx)
  obtain ⟨mA,O,_⟩:=ZC I.hok ea
  obtain ⟨od,J,_⟩:=O.look
  exact PySem.W.kia_one (PySem.W.kitx_own (cl.get _) cl.hd ha hn htk hm) I.kIn J e (fun z=>nomatch z) h
end
end L2
namespace L2
open PySem PySem.Spec PyProof.Rows
structure Room (k:Nat)(A:Around):Prop where
 hd:A.handled=none
 dp:A.depth + 3 * k + 5 < recursionLimit
 un:A.units + 16 * k + 200 < cLine
theorem Room.mono {j k:Nat}{A:Around}(r:Room k A)(h:j<=k):Room j A:=⟨r.hd,by have:=r.dp;omega,by have:=r.un;omega⟩
theorem Room.deeper {k:Nat}{A:Around}(r:Room (k + 1) A)(env:Env):Room k (A.deeper env) :=
 ⟨r.hd,by have:=r.dp;show A.depth + 1 + 3 * k + 5 < _;omega,by have:=r.un;show A.units + 3 + 16 * k + 200 < _;omega⟩
theorem Lm {A:Around}{C:Addr}{us:List Value}{kw:List (Str × Value)}:(A.under (.builtin "type.__call__" ⟨.ref C::us,kw⟩)).depth=A.depth + 1:=by
 first | rfl | simp [Around.under,Code.weight,Code.isCreation,Code.isGuard,Code.isCaller,Code.frames,Code.isFrame,guardIds]
theorem Lo {A:Around}{C:Addr}{us:List Value}{kw:List (Str × Value)}:(A.under (.builtin "type.__call__" ⟨.ref C::us,kw⟩)).units=A.units + 1:=by
 first | rfl | simp [Around.under,Code.cUnits,Code.frames,Code.isFrame]
theorem Room.make {k:Nat}{A:Around}(r:Room (k + 1) A)(C:Addr)(us:List Value)(kw:List (Str × Value)):Room k (A.under (.builtin "type.__call__" ⟨.ref C::us,kw⟩)) :=
 ⟨r.hd,by have:=r.dp;rw [Lm];omega,by have:=r.un;rw [Lo];omega⟩
theorem Room.depth {k:Nat}{A:Around}(r:Room k A):A.depth < recursionLimit:=by have:=r.dp;omega
theorem Room.units {k:Nat}{A:Around}(r:Room k A):A.units + 64 < cLine:=by have:=r.un;omega
def xt:TA:=fun _ H Q=>Q [] H
def xc (ta:TE)(tr:TA):TA:=fun σ H Q=>ta σ H fun x H1=>tr σ H1 fun xs H2=>Q (x::xs) H2
section
variable {X:Cx}{e:Expr}{es:List Expr}{te:TE}{t:TA}{pos:Pos}
theorem x9:PA X [] xt:=fun _ _ _ _ H Q I h=>Calls.spliced_nil ⟨[],H,I,.nil,h⟩
theorem x0 (ha:PE X e te)(hr:PA X es t)(hs:starEach (e::es) X.env=(false,eval e X.env)::starEach es X.env:=by rfl):PA X (e::es) (xc te t):=by
 intro pos pins s σ H Q I h
 rw [hs]
 show wpAny _ _ (spliced ((false,eval e X.env)::backTo pos (starEach es X.env))) _ _ s
 refine Calls.spliced_cons (j3 (ha pins s σ H _ I h) fun u s1 ⟨x,H1,I1,r1,q1⟩=>?_)
 exact j3 (hr pos pins s1 σ H1 _ I1 q1) fun us s2 ⟨xs,H2,I2,r2,q2⟩=>⟨x::xs,H2,I2,.cons r1 r2,q2⟩

def tTup (t:TA):TE:=fun σ H Q=>t σ H fun xs H1=>xs.length<=sizeLine/\∀ p,H1 p=none->Q (.ref p) (j9 H1 p (.tup xs))
def tLst (t:TA):TE:=fun σ H Q=>t σ H fun xs H1=>xs.length<=sizeLine/\∀ p,H1 p=none->Q (.ref p) (j9 H1 p (.lst xs))
theorem zT {x1}(h:PA X es t):PE X (.Tuple es x1 pos) (tTup t):=by
 intro pins s σ H Q I hq
 refine wpAny_Tuple_spliced (j3 (h pos pins s σ H _ I hq) fun us s1 ⟨xs,H1,I1,r,z,q⟩=>⟨by rw [<- r.length];exact z,?_⟩)
 have hf:H1 s1.heap.objs.size=none:=I1.hok.fresh (Nat.le_refl _)
 refine ⟨.ref s1.heap.objs.size,j9 H1 s1.heap.objs.size (.tup xs),I1.laid (t':=s1.toks) (fun b u e=>Heap.get?_push_of_some _ e) (Nat.le_refl _) ?_,rfl,q _ hf⟩
 exact ⟨z,us,r,⟨_,Heap.get?_push_size _ rfl,rfl,_,rfl⟩⟩
theorem qA (h:PA X es t):PE X (.List es pos) (tLst t):=by
 intro pins s σ H Q I hq
 refine wpAny_List_spliced (j3 (h pos pins s σ H _ I hq) fun us s1 ⟨xs,H1,I1,r,z,q⟩=>⟨by rw [<- r.length];exact z,?_⟩)
 have hf:H1 s1.heap.objs.size=none:=I1.hok.fresh (Nat.le_refl _)
 refine ⟨.ref s1.heap.objs.size,j9 H1 s1.heap.objs.size (.lst xs),I1.laid (t':=s1.toks) (fun b u e=>Heap.get?_push_of_some _ e) (Nat.le_refl _) ?_,rfl,q _ hf⟩
 exact ⟨z,us,0,r,Heap.get?_push_size _ rfl⟩
end
abbrev Sp:=List V->Hp->VK->XK->Prop
abbrev CXT:=List Env->Hp->Shared->XK->Value->Shared->Prop

structure Env0 (P:Program)(w:World)(K:Fg)(mg:Str->Option Value)(base:Heap)(A:Around)(outer:List Env)(s:Shared)(H:Hp):Prop where
 frames:A.frames=some outer
 mod:Mod K mg base
 bs:∀ b o,base.get? b=some o->s.heap.get? b=some o/\H b=none
 bsz:base.objs.size<=s.heap.objs.size
 funs:s.heap.FunFrames base outer
 frf:∀ b ∈ n6 outer,H b=none
 hok:HOk P w H s.heap
 bare:AllBare s.gens
def CE (outer:List Env)(P:Program)(w:World)(H:Hp)(s:Shared)(Q:VK)(u:Value)(s':Shared):Prop :=
 ∃ v H',s'.os=s.os/\AllBare s'.gens/\Un (n6 outer) [] H H' s.heap s'.heap/\HOk P w H' s'.heap/\RelV v u/\Q v H'
def CR (CX:CXT)(outer:List Env)(P:Program)(w:World)(H:Hp)(s:Shared)(Q:VK)(E:XK)(r:Result)(s':Shared):Prop :=
 match r with
 | .ok (.ret u)=>CE outer P w H s Q u s'
 | .ok _=>False
 | .error e=>CX outer H s E e s'
structure FnOk (P:Program)(w:World)(K:Fg)(mg:Str->Option Value)(base:Heap)(CX:CXT)(k:Nat)(f:Addr)(fd:FuncData)(ps:List Str)(sp:Sp):Prop where
 len:∀ vs H Q E,sp vs H Q E->vs.length=ps.length
 run:∀ (A:Around) (outer:List Env) (s:Shared) (H:Hp) (args:Args) (us:List Value) (vs:List V) (Q:VK) (E:XK),Room k A->Env0 P w K mg base A outer s H->BindsTo s fd args (ps.zip us)->Vals vs us->sp vs H Q E ->
  codeAny (model P w) A (.call (.ref f) args) (CR CX outer P w H s Q E) s
theorem FnOk.imp {P:Program}{w:World}{K:Fg}{mg:Str->Option Value}{base:Heap}{CX:CXT}{k:Nat}{f:Addr}{fd:FuncData}{ps:List Str}{sp sp':Sp}(F:FnOk P w K mg base CX k f fd ps sp)
  (h:∀ vs H Q E,sp' vs H Q E->sp vs H Q E):FnOk P w K mg base CX k f fd ps sp' :=
 ⟨fun vs H Q E q=>F.len vs H Q E (h _ _ _ _ q),fun A outer s H args us vs Q E hr he hb hv hs=>F.run A outer s H args us vs Q E hr he hb hv (h _ _ _ _ hs)⟩

theorem Env0.make {P:Program}{w:World}{K:Fg}{mg:Str->Option Value}{base:Heap}{A:Around}{outer:List Env}{s:Shared}{H:Hp}(e:Env0 P w K mg base A outer s H)(C:Addr)(us:List Value)(kw:List (Str × Value)) :
  Env0 P w K mg base (A.under (.builtin "type.__call__" ⟨.ref C::us,kw⟩)) outer s H:=⟨by first | exact e.frames | (simpa [Around.under,Code.envs,Code.isFrame,pushEnvs] using e.frames),e.mod,e.bs,e.bsz,e.funs,e.frf,e.hok,e.bare⟩
section
variable {X:Cx}{pins:List (Addr × Obj)}{σ:St}{H:Hp}{s s':Shared}
theorem Inv.env0 (I:Inv X pins σ H s):Env0 X.prog X.w X.K X.mg X.base X.A X.stack s H :=
 ⟨I.ok.frames,I.ok.mod,I.bs,Nat.le_trans I.ok.bsz I.sz,I.stack,I.stkFree,I.hok,I.bare⟩
theorem Inv.after {Q:VK}{u:Value}(I:Inv X pins σ H s)(h:CE X.stack X.prog X.w H s Q u s'):EP X pins σ Q u s':=by
 obtain ⟨v,H',os,bare,un,hok,r,q⟩:=h
 obtain ⟨hh,g,d,t,os'⟩:=s'
 obtain rfl:os'=s.os:=os
 exact ⟨v,H',I.call (h':=hh) (g':=g) (d':=d) (t':=t) (ch:=[]) un hok bare (fun b z=>absurd z (by simp)),r,q⟩
end
def xy (sp:Sp)(dvs:List V)(E:XK)(t:TA):TE:=fun σ H Q=>t σ H fun vs H1=>sp (vs++dvs) H1 Q E
def js (C:Addr)(m:Str)(sp:Sp)(dvs:List V)(E:XK)(ta:TE)(t:TA):TE:=fun σ H Q=>ta σ H fun x H1=>∃ a dx fs,x = .ref a/\H1 a=some (.ins C dx fs)/\fs.lookup m=none /\
 t σ H1 fun vs H2=>sp (x::(vs++dvs)) H2 Q E
def XS (C:Addr)(sp:Sp)(dvs:List V)(E:XK)(t:TA):TE:=fun σ H Q=>t σ H fun vs H1=>∀ x dx,H1 x=none->H1 dx=none->dx ≠ x ->
 sp (.ref x::(vs++dvs)) (j9 (j9 H1 dx (.own x)) x (.ins C dx [])) (fun v H2=>v = .non/\Q (.ref x) H2) E

def Binds (K:Fg)(fd:FuncData)(ps:List Str)(ds:List Value):Prop :=
 ∀ (s:Shared) (us:List Value),K.In s.heap->(us++ds).length=ps.length->BindsTo s fd ⟨us,[]⟩ (ps.zip (us++ds))
theorem Binds.all {K:Fg}{fd:FuncData}{ps:List Str}(h:∀ us:List Value,us.length=ps.length->bindArgs fd ⟨us,[]⟩=pure (ps.zip us)):Binds K fd ps []:=fun s us _ hl=>by
 rw [List.append_nil] at hl ⊢
 exact .of_eq (h us hl)

def zI (CX:CXT)(X:Cx)(E:XK):Prop:=∀ (pins:List (Addr × Obj)) (σ:St) (H:Hp) (s:Shared) (e:Value) (s':Shared),Inv X pins σ H s->CX X.stack H s E e s'->X.xe e s'

section
variable {X:Cx}{CX:CXT}{k:Nat}{f C:Addr}{fd:FuncData}{ps:List Str}{sp:Sp}{dvs:List V}{ds:List Value}{E:XK}{x m:Str}{p pos apos:Pos}{e o:Expr}{es:List Expr}{ta:TE}{t:TA}
theorem WW {pins:List (Addr × Obj)}{σ:St}{H:Hp}{s:Shared}{Q:VK}{us:List Value}{vs:List V}(F:FnOk X.prog X.w X.K X.mg X.base CX k f fd ps sp)(hr:Room k X.A)(hb:Binds X.K fd ps ds)(hd:Vals dvs ds)(hx:zI CX X E)
  (I:Inv X pins σ H s) (r:Vals vs us) (h:sp (vs++dvs) H Q E):wpAny (model X.prog X.w) X.A (call (.ref f) us) (EP X pins σ Q) X.xe s:=by
 have r2:Vals (vs++dvs) (us++ds):=r.append hd
 have hl:(us++ds).length=ps.length:=by rw [<- r2.length];exact F.len _ _ _ _ h
 refine wpAny_call (codeAny_mono (F.run X.A X.stack s H ⟨us,[]⟩ (us++ds) (vs++dvs) Q E hr I.env0 (hb s us I.kIn hl) r2 h) fun r s' hq=>?_)
 cases r with
 | error e=>exact hx pins σ H s e s' I hq
 | ok fl =>
  cases fl with
  | ret u=>exact I.after hq
  | next=>exact False.elim hq
  | brk=>exact False.elim hq
  | cont=>exact False.elim hq

theorem Ky (F:FnOk X.prog X.w X.K X.mg X.base CX k f fd ps sp)(hr:Room k X.A)(hg:Gl X x)(hm:X.mg x=some (.ref f))(hk:PySem.W.keepIn X.K (.ref f)=true)(hb:Binds X.K fd ps ds)(hd:Vals dvs ds)(hx:zI CX X E)
  (ha:PA X (e::es) t) (hdb:(x == ("__debug__":Str))=false:=by decide) (he:starEach (e::es) X.env=(false,eval e X.env)::starEach es X.env:=by rfl) (hpl:(backTo pos (starEach es X.env)).any (·.1)=false:=by rfl) :
  PE X (.Call (.Name x p) (e::es) [] pos) (xy sp dvs E t):=by
 intro pins s σ H Q I h
 refine wpAny_Call_Name_kw (wV I hg hm ?_ hdb)
 refine PySem.W.callWith_K (h₀:=X.base) I.ok.mod.kin hk (j3 (ha pos pins s σ H _ I h) fun us s1 ⟨vs,H1,I1,r,q⟩=>⟨I1.kIn,?_⟩) he hpl
 exact WW F hr hb hd hx I1 r q
theorem Kz {pl:Sem Bool}(he:PE X o ta)(c:Cls X.K C)(hm:wE X.K C m f)(F:FnOk X.prog X.w X.K X.mg X.base CX k f fd ps sp)(hr:Room k X.A)(hb:Binds X.K fd ps ds)(hd:Vals dvs ds)(hx:zI CX X E)(ha:PA X (e::es) t)
  (hst:starEach (e::es) X.env=(false,eval e X.env)::starEach es X.env:=by rfl) (hpl:(backTo pos (starEach es X.env)).any (·.1)=false:=by rfl)
  (ht:eval (.Call (.Attribute o m apos) (e::es) [] pos) X.env=(do
   let ov <- eval o X.env
   standAt apos.atName
   let (f,first) <- holding [ov] (getMethod ov m pl)
   callWith pos f first (backTo pos (starEach (e::es) X.env)) (backToKw pos (keywordEach [] X.env))):=by rfl) :
  PE X (.Call (.Attribute o m apos) (e::es) [] pos) (js C m sp dvs E ta t):=by
 intro pins s σ H Q I h
 refine PySem.W.methodCall_KW (pl:=pl) (j3 (he pins s σ H _ I h) fun u s1 ⟨x,H1,I1,rx,a,dx,fs,ex,ea,l,q⟩=>?_) ht
 subst ex
 obtain rfl:u=Value.ref a:=rx
 refine Wn I1 ea c hm l ?_
 refine PySem.W.callWith_K (first:=[.ref a]) (h₀:=X.base) I.ok.mod.kin hm.kp (j3 (ha pos pins s1 σ H1 _ I1 q) fun us s2 ⟨vs,H2,I2,r,q2⟩=>⟨I2.kIn,?_⟩) hst hpl
 exact WW (us:= .ref a::us) (vs:= .ref a::vs) F hr hb hd hx I2 (.cons rfl r) q2
theorem Hv {pl:Sem Bool}(he:PE X o ta)(c:Cls X.K C)(hm:wE X.K C m f)(F:FnOk X.prog X.w X.K X.mg X.base CX k f fd ps sp)(hr:Room k X.A)(hb:Binds X.K fd ps ds)(hd:Vals dvs ds)(hx:zI CX X E)
  (ht:eval (.Call (.Attribute o m apos) [] [] pos) X.env=(do
   let ov <- eval o X.env
   standAt apos.atName
   let (f,first) <- holding [ov] (getMethod ov m pl)
   callWith pos f first (backTo pos (starEach [] X.env)) (backToKw pos (keywordEach [] X.env))):=by rfl) :
  PE X (.Call (.Attribute o m apos) [] [] pos) (js C m sp dvs E ta xt):=by
 intro pins s σ H Q I h
 refine PySem.W.methodCall_KW (pl:=pl) (j3 (he pins s σ H _ I h) fun u s1 ⟨x,H1,I1,rx,a,dx,fs,ex,ea,l,q⟩=>?_) ht
 subst ex
 obtain rfl:u=Value.ref a:=rx
 refine Wn I1 ea c hm l ?_
 exact PySem.W.callWith_K0 (first:=[.ref a]) I1.kIn hm.kp (WW (us:=[.ref a]) (vs:=[.ref a]) F hr hb hd hx I1 (.cons rfl .nil) q)

structure Mk (K:Fg)(C f:Addr):Prop where
 makes:PySem.W.makesIn K C=true
 init:PySem.W.findIn K (.ref C) "__init__"=some (some (.ref f))
 fn:PySem.W.isFn K (.ref f)=true
 kp:PySem.W.keepIn K (.ref C)=true

theorem Ru {pins:List (Addr × Obj)}{σ:St}{H:Hp}{s:Shared}{Q:VK}{us:List Value}{vs:List V}(M:Mk X.K C f)(F:FnOk X.prog X.w X.K X.mg X.base CX k f fd ps sp)(hr:Room (k + 1) X.A)(hb:Binds X.K fd ps ds)(hd:Vals dvs ds)
  (hx:zI CX X E) (I:Inv X pins σ H s) (r:Vals vs us)
  (h:∀ x dx,H x=none->H dx=none->dx ≠ x->sp (.ref x::(vs++dvs)) (j9 (j9 H dx (.own x)) x (.ins C dx [])) (fun v H2=>v = .non/\Q (.ref x) H2) E) :
  wpAny (model X.prog X.w) X.A (call (.ref C) us) (EP X pins σ Q) X.xe s:=by
 have hq:=h (s.heap.objs.size + 1) s.heap.objs.size (I.hok.fresh (Nat.le_succ _)) (I.hok.fresh (Nat.le_refl _)) (Nat.ne_of_lt (Nat.lt_succ_self _))
 have I2:=Inv.made (C:=C) I
 have r2:Vals (V.ref (s.heap.objs.size + 1)::(vs++dvs)) (Value.ref (s.heap.objs.size + 1)::(us++ds)):= .cons rfl (r.append hd)
 have hl:(Value.ref (s.heap.objs.size + 1)::us++ds).length=ps.length:=by
  have e:=r2.length
  rw [F.len _ _ _ _ hq] at e
  exact e.symm
 refine wpAny_call (Ln (f:=f) I.kIn M.makes M.init (beq_iff_eq.mp M.fn) (codeAny_mono (F.run _ X.stack _ _ ⟨Value.ref (s.heap.objs.size + 1)::us,[]⟩ (Value.ref (s.heap.objs.size + 1)::(us++ds)) _ _ E (hr.make C us [])
  (I2.env0.make C us []) (hb _ (Value.ref (s.heap.objs.size + 1)::us) I2.kIn hl) r2 hq) fun r s' hq'=>?_))
 cases r with
 | error e=>exact hx pins σ _ _ e s' I2 hq'
 | ok fl =>
  cases fl with
  | ret u =>
   obtain ⟨v,H',I3,rv,ev,q3⟩:=I2.after hq'
   subst ev
   exact ⟨rv,⟨V.ref (s.heap.objs.size + 1),H',I3,rfl,q3⟩⟩
  | next=>exact False.elim hq'
  | brk=>exact False.elim hq'
  | cont=>exact False.elim hq'
theorem Ht (M:Mk X.K C f)(F:FnOk X.prog X.w X.K X.mg X.base CX k f fd ps sp)(hr:Room (k + 1) X.A)(hg:Gl X x)(hm:X.mg x=some (.ref C))(hb:Binds X.K fd ps ds)(hd:Vals dvs ds)(hx:zI CX X E)
  (ha:PA X (e::es) t) (hdb:(x == ("__debug__":Str))=false:=by decide) (he:starEach (e::es) X.env=(false,eval e X.env)::starEach es X.env:=by rfl) (hpl:(backTo pos (starEach es X.env)).any (·.1)=false:=by rfl) :
  PE X (.Call (.Name x p) (e::es) [] pos) (XS C sp dvs E t):=by
 intro pins s σ H Q I h
 refine wpAny_Call_Name_kw (wV I hg hm ?_ hdb)
 refine PySem.W.callWith_K (h₀:=X.base) I.ok.mod.kin M.kp (j3 (ha pos pins s σ H _ I h) fun us s1 ⟨vs,H1,I1,r,q⟩=>⟨I1.kIn,?_⟩) he hpl
 exact Ru M F hr hb hd hx I1 r q
end
section
variable {X:Cx}{CX:CXT}{k:Nat}{f C:Addr}{fd:FuncData}{ps ks:List Str}{sp:Sp}{E:XK}{x m:Str}{p pos apos kpos:Pos}{e o:Expr}{es:List Expr}{kws:List Keyword}{te ta:TE}{t tk:TA}{nm:Option Str}
variable {g:List Value->List Value->List Value}{gV:List V->List V->List V}
end
structure v9 (N P:List Str)(sc:Scope):Prop where
 kind:sc.kind = .function
 co:sc.isCoroutine=false
 gen:sc.isGenerator=false
 nd:N.Nodup
 pre:N.take P.length=P
 par:∀ x ∈ P,sc.names.lookup x=some .local ∨ sc.names.lookup x=some .cell
 nofree:∀ y ∈ sc.names,y.2 ≠ .free

theorem Gb {kindOf:Str->Option NameKind}{x:Str}:∀ {binds:List (Str × Value)} {m:Str->Option Value},(∀ v,(x,v) ∉ binds)->bindL kindOf binds m x=m x
 | [],_,_=>rfl
 | (n,v)::r,m,h=>by
  unfold bindL
  rw [Gb fun w hw=>h w (List.mem_cons_of_mem _ hw)]
  split
  ·have:x ≠ n:=by rintro rfl;exact h v List.mem_cons_self
   simp [this]
  ·rfl
theorem UZ {kindOf:Str->Option NameKind}{x:Str}:∀ {binds:List (Str × Value)} {m:Str->Option Value},(∀ v,(x,v) ∉ binds)->bindC kindOf binds m x=m x
 | [],_,_=>rfl
 | (n,v)::r,m,h=>by
  unfold bindC
  rw [UZ fun w hw=>h w (List.mem_cons_of_mem _ hw)]
  split
  ·rfl
  ·have:x ≠ n:=by rintro rfl;exact h v List.mem_cons_self
   simp [this]
theorem Ga {kindOf:Str->Option NameKind}{x:Str}{v:Value}:∀ {P:List Str} {vs:List Value} {i:Nat} {m:Str->Option Value},P.Nodup->P[i]?=some x->vs[i]?=some v->kindOf x=some .local ->
  bindL kindOf (P.zip vs) m x=some v
 | [],_,_,_,_,h,_,_=>by simp at h
 | _::_,[],_,_,_,_,h,_=>by simp at h
 | p::P,w::vs,0,m,nd,h1,h2,hk=>by
  simp at h1 h2;subst h1;subst h2
  show bindL kindOf ((p,w)::P.zip vs) m p=_
  unfold bindL
  rw [Gb fun v hv=>(List.nodup_cons.mp nd).1 (List.of_mem_zip hv).1,if_pos hk]
  simp
 | p::P,w::vs,i + 1,m,nd,h1,h2,hk=>by
  show bindL kindOf ((p,w)::P.zip vs) m x=_
  unfold bindL
  exact Ga (i:=i) (List.nodup_cons.mp nd).2 (by simpa using h1) (by simpa using h2) hk
theorem UY {kindOf:Str->Option NameKind}{x:Str}{v:Value}:∀ {P:List Str} {vs:List Value} {i:Nat} {m:Str->Option Value},P.Nodup->P[i]?=some x->vs[i]?=some v->kindOf x ≠ some .local ->
  bindC kindOf (P.zip vs) m x=some v
 | [],_,_,_,_,h,_,_=>by simp at h
 | _::_,[],_,_,_,_,h,_=>by simp at h
 | p::P,w::vs,0,m,nd,h1,h2,hk=>by
  simp at h1 h2;subst h1;subst h2
  show bindC kindOf ((p,w)::P.zip vs) m p=_
  unfold bindC
  rw [UZ fun v hv=>(List.nodup_cons.mp nd).1 (List.of_mem_zip hv).1,if_neg hk]
  simp
 | p::P,w::vs,i + 1,m,nd,h1,h2,hk=>by
  show bindC kindOf ((p,w)::P.zip vs) m x=_
  unfold bindC
  exact UY (i:=i) (List.nodup_cons.mp nd).2 (by simpa using h1) (by simpa using h2) hk

def start (N:List Str)(vs:List V):St:=vs.map some++List.replicate (N.length - vs.length) none

def xh (CX:CXT)(P:Program)(w:World)(K:Fg)(mg:Str->Option Value)(base:Heap)(N:List Str)(qual:Str)(scope:Scope)(f:Addr)(cd:Value)(A:Around)(outer:List Env)(s:Shared)(H:Hp)(E:XK):Cx where
 prog:=P
 w:=w
 K:=K
 mg:=mg
 base:=base
 A:=A.deeper (envOfC qual scope s.heap.objs.size f cd)
 N:=N
 s₀:=s
 H₀:=H
 env:=envOfC qual scope s.heap.objs.size f cd
 outer:=outer
 stack:=envOfC qual scope s.heap.objs.size f cd::outer
 ex:=[]
 calm:=true
 fn:=fun _=>true
 pn:=[]
 xe:=fun e s'=>wpAny (model P w) (A.deeper (envOfC qual scope s.heap.objs.size f cd)) (leaving (envOfC qual scope s.heap.objs.size f cd) e) (fun _ s''=>CX outer H s E e s'') (fun e' s''=>CX outer H s E e' s'') s'

theorem Gm {sc:Scope}{n:Nat}{x:Str}(h:sc.names.lookup x=some .cell):∃ c,(cellsFrom n sc.names []).lookup x=some c:=by
 have q:=PySem.W.cellsFrom_some sc.names n [] (.inl h)
 exact Option.isSome_iff_exists.mp q

theorem Mv {CX:CXT}{P:Program}{w:World}{K:Fg}{mg:Str->Option Value}{base:Heap}{N ps:List Str}{qual:Str}{scope:Scope}{f:Addr}{cd:Value}{A:Around}{outer:List Env}{s s1:Shared}{H:Hp}{E:XK}{us:List Value}{vs:List V}
  (S:v9 N ps scope) (hd:A.handled=none) (e0:Env0 P w K mg base A outer s H) (hl:vs.length=ps.length) (r:Vals vs us)
  (x:InCallC s s.heap.objs.size (bindL (envOfC qual scope s.heap.objs.size f cd).kindOf (ps.zip us) fun _=>none) (cellsFrom (s.heap.objs.size + 1) scope.names []) (bindC (envOfC qual scope s.heap.objs.size f cd).kindOf (ps.zip us) fun _=>none) s1) :
  Inv (xh CX P w K mg base N qual scope f cd A outer s H E) [] (start N vs) H s1:=by
 have hpl:ps.length<=N.length:=by have:=congrArg List.length S.pre;rw [List.length_take] at this;omega
 obtain ⟨h1,tk,rfl,hk⟩:=x.done
 have noA:∀ b:Addr,b ∉ (xh CX P w K mg base N qual scope f cd A outer s H E).ex:=fun b z=>absurd (show b ∈ ([]:List Addr) from z) (by simp)
 refine ⟨⟨e0.mod,S.kind,rfl,rfl,Nat.le_refl _,fun y z c h1 h2=>?_,fun y hy=>?_,fun y c _ h=>?_,fun _=>hd,Around.frames_deeper e0.frames,.inr ⟨rfl,rfl⟩,fun b z=>absurd z (noA b),e0.bs,e0.bsz,fun b _ _=>noA b,fun b z=>absurd z (noA b),e0.funs,e0.frf⟩,
  rfl,e0.bare,Un.kept hk,⟨_,x.toInCall.ns,fun i y v h1 h2 h3=>?_⟩,fun y c h=>⟨_,x.cell y c h⟩,e0.hok.fresh (Nat.le_refl _),fun y c h=>?_,fun p hp=>absurd (show p ∈ ([]:List (Addr × Obj)) from hp) (by simp),e0.hok.kept hk,?_⟩
 ·exact name_of_addr x.apart (PySem.mem_of_lookup h1) (PySem.mem_of_lookup h2)
 ·have hy:scope.names.lookup y=some .cell ∨ scope.names.lookup y=some .free:=hy
  rcases hy with hy | hy
  ·exact Gm hy
  ·exact absurd rfl (S.nofree _ (PySem.mem_of_lookup hy))
 ·exact Nat.le_of_lt (x.above y c (PySem.mem_of_lookup h))
 ·have hi:i < vs.length:=by
   unfold start at h2
   by_cases hi:i < vs.length
   ·exact hi
   ·rw [List.getElem?_append_right (by simpa using hi)] at h2
    rw [List.getElem?_replicate] at h2
    split at h2 <;> cases h2
  have ha:vs[i]?=some v:=by
   unfold start at h2
   rw [List.getElem?_append_left (by simpa using hi),List.getElem?_map] at h2
   cases e:vs[i]? with
   | none=>rw [e] at h2;cases h2
   | some a=>rw [e] at h2;cases h2;rfl
  obtain ⟨u,hu,rv⟩:=r.get ha
  have hp:ps[i]?=some y:=by
   rw [<- S.pre,List.getElem?_take_of_lt (by omega)];exact h1
  have ndP:ps.Nodup:=by rw [<- S.pre];exact S.nd.sublist (List.take_sublist _ _)
  refine ⟨u,rv,?_⟩
  rcases S.par y (List.mem_of_getElem? hp) with k | k
  ·exact .inl ⟨k,Ga ndP hp hu k⟩
  ·obtain ⟨c,e⟩:=Gm (n:=s.heap.objs.size + 1) k
   refine .inr ⟨.inl k,c,e,?_⟩
   have q:=x.cell y c e
   rw [UY ndP hp hu (by show scope.names.lookup y ≠ _;rw [k];decide)] at q
   exact q
 ·exact e0.hok.fresh (Nat.le_of_lt (x.above y c (PySem.mem_of_lookup h)))
 ·unfold start
  show _=N.length
  rw [List.length_append,List.length_map,List.length_replicate]
  omega

theorem Wm {CX:CXT}{P:Program}{w:World}{K:Fg}{mg:Str->Option Value}{base:Heap}{k:Nat}{f:Addr}{name qual:Str}{params:Arguments}{body:List Stmt}{scope:Scope}{dV kV doc pm cdv ct oc:Value}{an od:Option Addr}
  {osl:Array (Option Value)} {N ps:List Str} {sp:Sp} (lk:K.lookup f=some ⟨oc,od,.func (PySem.W.fnOf name qual params body scope dV kV doc pm an cdv ct),osl⟩) (hcd:PySem.W.codeIn K cdv qual=true) (S:v9 N ps scope)
  (len:∀ vs H Q E,sp vs H Q E->vs.length=ps.length)
  (hbody:∀ (A:Around) (outer:List Env) (s:Shared) (H:Hp) (vs:List V) (Q:VK) (E:XK),Room k (A.deeper (envOfC qual scope s.heap.objs.size f cdv))->sp vs H Q E ->
   ∃ t,PSs (xh CX P w K mg base N qual scope f cdv A outer s H E) body t/\t { nx:=fun _ H'=>Q .non H',rt:=Q } (start N vs) H) :
  FnOk P w K mg base CX (k + 1) f (PySem.W.fnOf name qual params body scope dV kV doc pm an cdv ct) ps sp:=by
 refine ⟨len,fun A outer s H args us vs Q E hr e0 hb r hsp=>?_⟩
 have hl:=len _ _ _ _ hsp
 have KX:K.In s.heap:=e0.mod.kin.keeps fun b o e=>(e0.bs b o e).1
 have lim:s.heap.NoLimit:=e0.mod.nolimit.keeps fun b o e=>(e0.bs b o e).1
 have hkind:∀ y ∈ ps.zip us,scope.names.lookup y.1=some .local ∨ (scope.names.lookup y.1=some .cell/\((cellsFrom (s.heap.objs.size + 1) scope.names []).lookup y.1).isSome=true):=fun ⟨n,v⟩ hy=>by
  rcases S.par n (List.of_mem_zip hy).1 with q | q
  ·exact .inl q
  ·exact .inr ⟨q,PySem.W.cellsFrom_some _ _ _ (.inl q)⟩
 refine codeAny_call_function hr.depth (KX _ _ lk) rfl S.co S.gen rfl (PySem.W.codeRec_of KX hcd) (hb _ _ _ _ ?_)
 refine wpAny_newFunctionEnv_cells S.kind hkind fun env he s1 x=>?_
 subst he
 refine ⟨lim.keeps x.toInCall.keep,codeAny_func ?_⟩
 obtain ⟨t,ht,hq⟩:=hbody A outer s H vs Q E (hr.deeper _) hsp
 have I:Inv (xh CX P w K mg base N qual scope f cdv A outer s H E) [] (start N vs) H s1:=Mv S hr.hd e0 hl r x
 refine wpAny_mono (ht [] s1 (start N vs) H _ I hq) (fun fl s' hs=>?_) fun e s' hs=>hs
 have fin:∀ {σ':St} {H':Hp} {v:V} {u:Value},Inv (xh CX P w K mg base N qual scope f cdv A outer s H E) [] σ' H' s'->RelV v u->Q v H'->CE outer P w H s Q u s' :=
  fun {σ' H' v u} J rv q=>⟨v,H',J.os,J.bare,J.base,J.hok,rv,q⟩
 cases fl with
 | ret u =>
  obtain ⟨v,σ',H',J,rv,q⟩:=hs
  exact fin J rv q
 | next =>
  obtain ⟨σ',H',J,q⟩:=hs
  exact fin (v:=V.non) (u:=Value.none) J rfl q
 | brk =>
  obtain ⟨_,_,_,q⟩:=hs
  exact False.elim q
 | cont =>
  obtain ⟨_,_,_,q⟩:=hs
  exact False.elim q
end L2
namespace L2
open PySem PySem.Spec PyProof.Rows
section
variable {X:Cx}{x:Str}{p pos:Pos}{e:Expr}{es:List Expr}{t:TA}{id T:String}{r:List V->Hp->VK->Prop}
def tCB (r:List V->Hp->VK->Prop)(t:TA):TE:=fun σ H Q=>t σ H fun vs H1=>r vs H1 Q
theorem m8 (hc:CallR X (.builtin id) r)(hg:Gl X x)(hm:X.mg x=none)(hv:bootBuiltins x=some (.builtin id))(ha:PA X (e::es) t)(hn:x ≠ "__name__":=by decide) (hdb:(x == ("__debug__":Str))=false:=by decide)
  (he:starEach (e::es) X.env=(false,eval e X.env)::starEach es X.env:=by rfl) (hpl:(backTo pos (starEach es X.env)).any (·.1)=false:=by rfl):PE X (.Call (.Name x p) (e::es) [] pos) (tCB r t):=by
 intro pins s σ H Q I h
 refine wpAny_Call_Name_kw (vi I hg hm hv ?_ hn hdb)
 exact PyProof.Rows.callWith_builtin1 (j3 (ha pos pins s σ H _ I h) fun us s1 ⟨vs,H1,I1,r1,q1⟩=>hc pins s1 σ H1 vs us Q I1 r1 q1) he hpl
theorem Xw (hc:CallR X (.type T) r)(hg:Gl X x)(hm:X.mg x=none)(hv:bootBuiltins x=some (.type T))(ha:PA X (e::es) t)(hn:x ≠ "__name__":=by decide) (hdb:(x == ("__debug__":Str))=false:=by decide)
  (he:starEach (e::es) X.env=(false,eval e X.env)::starEach es X.env:=by rfl) (hpl:(backTo pos (starEach es X.env)).any (·.1)=false:=by rfl):PE X (.Call (.Name x p) (e::es) [] pos) (tCB r t):=by
 intro pins s σ H Q I h
 refine wpAny_Call_Name_kw (vi I hg hm hv ?_ hn hdb)
 exact PyProof.Rows.callWith_type1 (j3 (ha pos pins s σ H _ I h) fun us s1 ⟨vs,H1,I1,r1,q1⟩=>hc pins s1 σ H1 vs us Q I1 r1 q1) he hpl
end
end L2
namespace HT
open PySem PyProof.Rows
section
open PySem.SeqAt
open PySem.AutoSeq1 (wpAny_loadPart')
open PySem.MeetsSeq PySem.MeetsSeq2 PySem.MeetsSeq3
end
section
variable {prog:Program}{w:World}{A:Around}{E:Value->Shared->Prop}{s:Shared}
theorem cat_tup {t b:Addr}{vs ws:List Value}{Q:Value->Shared->Prop}(ht:IsTup s.heap t vs.toArray)(hb:IsTup s.heap b ws.toArray)(hv:vs ≠ [])
  (h1:ws=[]->Q (.ref t) s) (h2:ws ≠ []->Q (.ref s.heap.objs.size) { s with heap:=s.heap.push { cls:= .type "tuple",data:= .seq (vs++ws).toArray } })
  (hsz:vs.length + ws.length<=sizeLine):wpAny (model prog w) A (binaryOp .Add (.ref t) (.ref b)) Q E s:=by
 obtain ⟨⟨cls,dd,data,sl⟩,ho,hc,n,hd⟩:=id ht
 obtain ⟨⟨cls2,dd2,data2,sl2⟩,ho2,hc2,n2,hd2⟩:=id hb
 simp only at hc hd hc2 hd2
 subst hc hd hc2 hd2
 have e:vs.toArray++ws.toArray=(vs++ws).toArray:=by simp
 by_cases hw:ws=[]
 ·exact concat_meets ⟨_,ho,rfl⟩ ⟨_,ho2,rfl⟩ noFill_tuple_add seq_tuple_add PySem.F.slot_tuple_add PySem.F.entry_tuple_add (PySem.F.args_tuple_add_2 _ _)
   (tuple_addW1 t b vs.toArray ws.toArray n n2 dd dd2 sl sl2 (by simpa using hv) (by simp [hw])) ⟨ho,ho2,h1 hw⟩
 ·refine concat_meets ⟨_,ho,rfl⟩ ⟨_,ho2,rfl⟩ noFill_tuple_add seq_tuple_add PySem.F.slot_tuple_add PySem.F.entry_tuple_add (PySem.F.args_tuple_add_2 _ _)
   (tuple_addW2 t b vs.toArray ws.toArray n n2 dd dd2 sl sl2 (by simpa using hv) (by simpa using hw) (by rw [List.size_toArray,List.size_toArray];exact hsz)) ⟨ho,ho2,?_⟩
  rw [e]
  exact h2 hw

def sIx (n d:Nat):Option Int->Nat
 | none=>d
 | some v=>if v < 0 then (v + (n:Int)).toNat else min v.toNat n
theorem sIx_none (n d:Nat):sIx n d none=d:=rfl
theorem sIx_nat (n d k:Nat):sIx n d (some (k:Int))=min k n:=by
 show (if (k:Int) < 0 then ((k:Int) + (n:Int)).toNat else min (k:Int).toNat n)=min k n
 rw [if_neg (by omega),Int.toNat_natCast]
end
end HT
namespace L2
open PySem PySem.Spec PyProof.Rows
abbrev TO:=St->Hp->(Option Int->Hp->Prop)->Prop
def PO (X:Cx)(e:Option Expr)(t:TO):Prop :=
 ∀ (pins:List (Addr × Obj)) (s:Shared) (σ:St) (H:Hp) (Q:Option Int->Hp->Prop),Inv X pins σ H s->t σ H Q ->
  wpAny (model X.prog X.w) X.A (evalPart e X.env) (fun u s'=>∃ o H',Inv X pins σ H' s'/\IsPart u o/\Q o H') X.xe s
def Yi:TO:=fun _ H Q=>Q none H
def Yj (t:TE):TO:=fun σ H Q=>t σ H fun x H1=>∃ i,x = .int i/\Q (some i) H1

section
variable {X:Cx}{e:Expr}{te:TE}{lo hi:Option Expr}{tl th:TO}{pos p2:Pos}
theorem Xz:PO X none Yi:=by
 intro pins s σ H Q I h
 rw [evalPart_none]
 exact wpAny_pure ⟨none,H,I,.none,h⟩
theorem Qj (h:PE X e te):PO X (some e) (Yj te):=by
 intro pins s σ H Q I hw
 rw [evalPart_some]
 refine j3 (h pins s σ H _ I hw) fun u s1 ⟨x,H1,I1,r1,q1⟩=>?_
 obtain ⟨i,rfl,q⟩:=q1
 obtain ⟨t,rfl⟩:=r1
 exact ⟨some i,H1,I1,.int i t,q⟩

def SlR (X:Cx)(r:V->Option Int->Option Int->Hp->VK->Prop):Prop :=
 ∀ (pins:List (Addr × Obj)) (s:Shared) (σ:St) (H:Hp) (x:V) (v vl vu:Value) (lo hi:Option Int) (sl:Addr) (Q:VK),Inv X pins σ H s->RelV x v->s.heap.IsSliceOf sl vl vu .none->IsPart vl lo->IsPart vu hi->r x lo hi H Q ->
  ∃ T id,typeLookup (.type T) "__getitem__"=pure (some (.builtin id))/\s.TypeIs v T/\wpAny (model X.prog X.w) X.A (getItem v (.ref sl)) (EP X pins σ Q) X.xe s
def tSl (r:V->Option Int->Option Int->Hp->VK->Prop)(te:TE)(tl th:TO):TE:=fun σ H Q=>te σ H fun x H1=>tl σ H1 fun l H2=>th σ H2 fun u H3=>r x l u H3 Q
theorem Jb {r:V->Option Int->Option Int->Hp->VK->Prop}(hr:SlR X r)(he:PE X e te)(hl:PO X lo tl)(hu:PO X hi th):PE X (.Subscript e (.Slice lo hi none p2) pos) (tSl r te tl th):=by
 intro pins s σ H Q I h
 refine Subscript_ (j3 (he pins s σ H _ I h) fun v s1 ⟨x,H1,I1,r1,q1⟩=>?_)
 refine wpAny_Slice (j3 (hl pins s1 σ H1 _ I1 q1) fun vl s2 ⟨l,H2,I2,pl,q2⟩=>j3 (hu pins s2 σ H2 _ I2 q2) fun vu s3 ⟨u,H3,I3,pu,q3⟩=>?_)
 rw [evalPart_none]
 refine wpAny_pure ?_
 have I4:Inv X pins σ H3 { s3 with heap:=s3.heap.push { cls:= .type "slice",data:= .fields #[vl,vu,.none] } }:=I3.kept (t':=s3.toks) fun b ob q=>Heap.get?_push_of_some _ q
 obtain ⟨T,id,hT,ht,hg⟩:=hr pins { s3 with heap:=s3.heap.push { cls:= .type "slice",data:= .fields #[vl,vu,.none] } } σ H3 x v vl vu l u s3.heap.objs.size Q I4 r1 (Heap.IsSliceOf.new ..) pl pu q3
 show wpAny (model X.prog X.w) X.A (subscriptTail e (.Slice lo hi none p2) v (.ref s3.heap.objs.size)) (EP X pins σ Q) X.xe { s3 with heap:=s3.heap.push { cls:= .type "slice",data:= .fields #[vl,vu,.none] } }
 exact tail_any (ops:=[.ref s3.heap.objs.size,v]) ht hT hg (by with_unfolding_all rfl)

def va (xs:List V)(lo hi:Option Int):List V:=(xs.drop (HT.sIx xs.length 0 lo)).take (HT.sIx xs.length xs.length hi - HT.sIx xs.length 0 lo)
theorem Da (xs:List V)(lo hi:Option Int):(va xs lo hi).length<=xs.length:=by
 unfold va
 rw [List.length_take,List.length_drop]
 omega
def KN (K:Fg):R2:=fun x y H Q=>∃ a b xs ys,x = .ref a/\y = .ref b/\SqT K H a xs/\SqT K H b ys/\xs ≠ []/\xs.length + ys.length<=sizeLine /\
 (ys=[]->Q (.ref a) H)/\(ys ≠ []->∀ p,H p=none->Q (.ref p) (j9 H p (.tup (xs++ys))))
theorem Vals.nil_iff {xs:List V}{us:List Value}(r:Vals xs us):us=[] ↔ xs=[]:=by
 cases r with
 | nil=>simp
 | cons _ _=>simp
theorem Hc:OpR X (binaryOp .Add) (KN X.K):=by
 intro pins s σ H x y v u Q I rx ry h
 obtain ⟨a,b,xs,ys,rfl,rfl,ha,hb,hx,hz,q1,q2⟩:=h
 cases rx
 cases ry
 obtain ⟨its,r1,p1,_⟩:=I.tuple ha
 obtain ⟨its2,r2,p2,_⟩:=I.tuple hb
 refine HT.cat_tup p1 p2 (fun z=>hx (r1.nil_iff.mp z)) (fun z=>⟨.ref a,H,I,rfl,q1 (r2.nil_iff.mp z)⟩) (fun z=>?_) (by rw [<- r1.length,<- r2.length];exact hz)
 refine ⟨.ref s.heap.objs.size,_,I.laid (t':=s.toks) (o:= .tup (xs++ys)) (fun b ob q=>Heap.get?_push_of_some _ q) (Nat.le_refl _) ?_,rfl,q2 (fun w=>z (r2.nil_iff.mpr w)) _ (I.hok.fresh (Nat.le_refl _))⟩
 exact ⟨by rw [List.length_append];exact hz,_,r1.append r2,IsTup.new _ _⟩
end
end L2
namespace L2
open PySem PySem.Spec PyProof.Rows
def qW (n:Nat)(i:Int):Option Nat:=if 0<=i then (if i < n then some i.toNat else none) else if -(n:Int)<=i then some (i + n).toNat else none
def atI {α:Type}(xs:List α)(i:Int):Option α:=(qW xs.length i).bind fun j=>xs[j]?
theorem GX {n:Nat}{i:Int}{j:Nat}(h:qW n i=some j):seqIndex? i n=some j/\j < n/\-(n:Int)<=i/\i < n:=by
 unfold qW at h
 by_cases h0:0<=i
 ·rw [if_pos h0] at h
  by_cases h1:i < n
  ·rw [if_pos h1] at h
   have e:i.toNat=j:=Option.some.inj h
   exact ⟨by rw [seqIndex_of h0 h1,e],by omega,by omega,h1⟩
  ·rw [if_neg h1] at h;cases h
 ·rw [if_neg h0] at h
  by_cases h1:-(n:Int)<=i
  ·rw [if_pos h1] at h
   have e:(i + n).toNat=j:=Option.some.inj h
   exact ⟨by rw [seqIndex_neg (by omega) h1,e],by omega,h1,by omega⟩
  ·rw [if_neg h1] at h;cases h
theorem VM {α:Type}{xs:List α}{i:Int}{v:α}(h:atI xs i=some v):∃ j,seqIndex? i xs.length=some j/\xs[j]?=some v/\j < xs.length/\-(xs.length:Int)<=i/\i < xs.length:=by
 unfold atI at h
 cases e:qW xs.length i with
 | none=>rw [e] at h;cases h
 | some j =>
  rw [e] at h
  obtain ⟨h1,h2,h3,h4⟩:=GX e
  exact ⟨j,h1,h,h2,h3,h4⟩
theorem jD {α:Type}{xs:List α}{j:Nat}{v:α}(h:xs[j]?=some v):atI xs (j:Int)=some v:=by
 have hj:j < xs.length:=(List.getElem?_eq_some_iff.mp h).1
 have e:qW xs.length (j:Int)=some j:=by
  unfold qW
  rw [if_pos (by omega),if_pos (by omega)];simp
 unfold atI;rw [e];exact h
def PM (b:Expr):Prop:=∀ o i,subscripted b false o i=operate [o,i] (getItem o i)
def IxR (X:Cx)(r:R2):Prop :=
 ∀ (value slice:Expr) (pins:List (Addr × Obj)) (s:Shared) (σ:St) (H:Hp) (x y:V) (v u:Value) (Q:VK),Inv X pins σ H s->RelV x v->RelV y u->r x y H Q ->
  subscripted slice false v u=operate [v,u] (getItem v u)->wpAny (model X.prog X.w) X.A (subscriptTail value slice v u) (EP X pins σ Q) X.xe s
def MtR (X:Cx)(id:String)(r:V->List V->Hp->VK->Prop):Prop :=
 ∀ (pins:List (Addr × Obj)) (s:Shared) (σ:St) (H:Hp) (x:V) (xs:List V) (v:Value) (us:List Value) (Q:VK),Inv X pins σ H s->RelV x v->Vals xs us->r x xs H Q ->
  wpAny (model X.prog X.w) X.A (call (.builtin id) (v::us)) (EP X pins σ Q) X.xe s
section
variable {X:Cx}{a b:Expr}{ta tb:TE}{pos:Pos}
theorem IxR.or {r r':R2}(h:IxR X r)(h':IxR X r'):IxR X (fun x y H Q=>r x y H Q ∨ r' x y H Q):=by
 intro value slice pins s σ H x y v u Q I rx ry q hs
 rcases q with q | q
 ·exact h value slice pins s σ H x y v u Q I rx ry q hs
 ·exact h' value slice pins s σ H x y v u Q I rx ry q hs
theorem i5 {r:R2}(hr:IxR X r)(ha:PE X a ta)(hb:PE X b tb)(hs:PM b):PE X (.Subscript a b pos) (tOp r ta tb):=by
 intro pins s σ H Q I h
 exact Subscript_ (binT ha hb I h fun v u s2 x y H2 I2 rx ry q=>hr a b pins s2 σ H2 x y v u Q I2 rx ry q (hs _ _))

def rIxL (K:Fg):R2:=fun x y H Q=>∃ p xs i v,x = .ref p/\y = .int i/\SqL K H p xs/\atI xs i=some v/\Q v H
def rIxT (K:Fg):R2:=fun x y H Q=>∃ p xs i v,x = .ref p/\y = .int i/\SqT K H p xs/\atI xs i=some v/\Q v H
def rIxS:R2:=fun x y H Q=>∃ z i c,x = .str z/\y = .int i/\z.length<=sizeLine/\atI z.cps.toList i=some c/\Q (.str ⟨#[c]⟩) H
theorem ix_list:IxR X (rIxL X.K):=by
 intro value slice pins s σ H x y v u Q I rx ry h hs
 obtain ⟨p,xs,i,z,rfl,rfl,hq,he,q⟩:=h
 cases rx
 obtain ⟨t,rfl⟩:=ry
 obtain ⟨its,r,pl,hz⟩:=I.list hq
 obtain ⟨j,h1,h2,h3,h4,h5⟩:=VM he
 obtain ⟨w,ew,rw'⟩:=r.get h2
 have hl:=r.length
 have hn:=vV
 have fin:EP X pins σ Q w s:=⟨z,H,I,rw',q⟩
 by_cases h0:0<=i
 ·have hj:i.toNat=j:=by
   rw [seqIndex_of h0 h5] at h1
   exact Option.some.inj h1
  exact item_listR pl.isList h0 (by omega) (by rw [hj];simpa using ew) fin hs
 ·have hj:(i + (its.toArray.size:Int)).toNat=j:=by
   rw [seqIndex_neg (by omega) h4] at h1
   rw [List.size_toArray,<- hl]
   exact Option.some.inj h1
  exact subscriptTail_builtinR (x:=w) pl.isList.typeIs slot_list_getitem.lookup
   (wpAny_getItem_list_neg (Q:=fun r s'=>r=w/\EP X pins σ Q r s') pl.isList (by omega) (by rw [List.size_toArray] <;> omega) (by omega) (by rw [hj];simpa using ew) ⟨rfl,fin⟩) hs
theorem ix_tup:IxR X (rIxT X.K):=by
 intro value slice pins s σ H x y v u Q I rx ry h hs
 obtain ⟨p,xs,i,z,rfl,rfl,hq,he,q⟩:=h
 cases rx
 obtain ⟨t,rfl⟩:=ry
 obtain ⟨its,r,pl,hz⟩:=I.tuple hq
 obtain ⟨j,h1,h2,h3,h4,h5⟩:=VM he
 obtain ⟨w,ew,rw'⟩:=r.get h2
 have hl:=r.length
 have hn:=vV
 have fin:EP X pins σ Q w s:=⟨z,H,I,rw',q⟩
 exact subscriptTail_builtinR (x:=w) pl.typeIs slot_tuple_getitem.lookup
  (getItem_tuple (j:=j) (Q:=fun r s'=>r=w/\EP X pins σ Q r s') pl (by omega) (by omega) (by rw [List.size_toArray,<- hl];exact h1) (by simpa using ew) ⟨rfl,fin⟩) hs
theorem MR:IxR X rIxS:=by
 intro value slice pins s σ H x y v u Q I rx ry h hs
 obtain ⟨z,i,c,rfl,rfl,hz,he,q⟩:=h
 obtain ⟨t,rfl⟩:=rx
 obtain ⟨t',rfl⟩:=ry
 obtain ⟨j,h1,h2,h3,h4,h5⟩:=VM he
 have hl:z.cps.toList.length=z.length:=by simp [Str.length]
 rw [hl] at h1 h4 h5
 have hn:=vV
 exact tail_any (typeIs_str s z t) slot_str_getitem.lookup (getItem_str (c:=c) (by
  have e1:decide (i < -(2 ^ 63:Int))=false:=decide_eq_false (by omega)
  have e2:decide (i >= 2 ^ 63)=false:=decide_eq_false (by omega)
  rw [e1,e2,Bool.or_false]) (by rw [h1];simpa using h2) ⟨.str ⟨#[c]⟩,H,I.tok _,⟨_,rfl⟩,q⟩) hs
def rIx (K:Fg):R2:=fun x y H Q=>rIxL K x y H Q ∨ rIxT K x y H Q ∨ rIxS x y H Q
theorem MQ:IxR X (rIx X.K):=ix_list.or (ix_tup.or MR)

theorem Lr (its:List Value)(n j:Nat)(u:Value):Obj.mapSeq (·.setIfInBounds j u) { cls:= .type "list",data:= .seq its.toArray n }={ cls:= .type "list",data:= .seq (its.set j u).toArray n }:=by
 simp [Obj.mapSeq]
theorem Inv.lst {pins:List (Addr × Obj)}{σ:St}{H:Hp}{s:Shared}{p:Addr}{xs:List V}(I:Inv X pins σ H s)(h:H p=some (.lst xs)) :
  ∃ (its:List Value) (n:Nat),Vals xs its/\s.heap.get? p=some { cls:= .type "list",data:= .seq its.toArray n }/\xs.length<=sizeLine:=by
 obtain ⟨z,its,n,r,e⟩:=I.hok p _ h
 exact ⟨its,n,r,e,z⟩
theorem Inv.lstUpd {pins:List (Addr × Obj)}{σ:St}{H:Hp}{s:Shared}{p:Addr}{xs ys:List V}{its its':List Value}{n n':Nat}{f:Obj->Obj}(I:Inv X pins σ H s)(h:H p=some (.lst xs))
  (ho:s.heap.get? p=some { cls:= .type "list",data:= .seq its.toArray n }) (hf:f { cls:= .type "list",data:= .seq its.toArray n }={ cls:= .type "list",data:= .seq its'.toArray n' }) (r:Vals ys its') (hz:ys.length<=sizeLine) (t:Nat) :
  Inv X pins σ (j9 H p (.lst ys)) { s with heap:=s.heap.update p f,toks:=t }:=by
 have e:(s.heap.update p f).get? p=some { cls:= .type "list",data:= .seq its'.toArray n' }:=by
  rw [Heap.get?_update_self f ho (by rw [hf] <;> rfl),hf]
 refine I.write (x:=p) (e:=p) (by rw [h];trivial) (.inl rfl) (fun b u hb q=>(Heap.get?_update_other _ _ (Ne.symm hb)).trans q) ⟨_,e⟩ ?_
 exact ⟨hz,its',n',r,e⟩
def rSetL:V->V->V->Hp->(Hp->Prop)->Prop:=fun o i v H Q=>∃ p xs k j,o = .ref p/\i = .int k/\H p=some (.lst xs)/\qW xs.length k=some j/\Q (j9 H p (.lst (xs.set j v)))
theorem Tr:PSet X rSetL:=by
 intro pins s σ H o i v ov iv u Q I ro ri rv h
 obtain ⟨p,xs,k,j,rfl,rfl,hp,hj,q⟩:=h
 cases ro
 obtain ⟨t,rfl⟩:=ri
 obtain ⟨its,n,r,ho,hz⟩:=I.lst hp
 obtain ⟨h1,h2,h3,h4⟩:=GX hj
 have hl:=r.length
 have hn:=vV
 have I':Inv X pins σ (j9 H p (.lst (xs.set j v))) { s with heap:=s.heap.update p (Obj.mapSeq (·.setIfInBounds j u)) } :=
  I.lstUpd hp ho (Lr its n j u) (r.set rv j) (by rw [List.length_set];exact hz) s.toks
 by_cases h0:0<=k
 ·have hk:k.toNat=j:=by
   rw [seqIndex_of h0 h4] at h1
   exact Option.some.inj h1
  exact PySem.W.ki_setAt ho h0 (by omega) (by rw [List.size_toArray,<- hl];exact h4) (by rw [hk];exact ⟨_,I',q⟩)
 ·have hk:(k + (its.toArray.size:Int)).toNat=j:=by
   rw [seqIndex_neg (by omega) h3] at h1
   rw [List.size_toArray,<- hl]
   exact Option.some.inj h1
  exact PySem.W.ki_setBack ho (by omega) (by rw [List.size_toArray,<- hl];exact h3) (by omega) (by rw [hk];exact ⟨_,I',q⟩)

theorem Tz (lo hi:Option Int)(n:Nat):(sliceBounds lo hi none n).1=((HT.sIx n 0 lo:Nat):Int)/\(sliceBounds lo hi none n).2.1=((HT.sIx n n hi:Nat):Int)/\(sliceBounds lo hi none n).2.2=1:=by
 refine ⟨?_,?_,rfl⟩
 ·cases lo with
  | none=>simp [sliceBounds,HT.sIx]
  | some i =>
   simp only [sliceBounds,HT.sIx,Option.getD_none,show (1:Int) > 0 by decide,if_true]
   by_cases h:i < 0
   ·simp only [h,if_true] <;> omega
   ·simp only [h,if_false] <;> omega
 ·cases hi with
  | none=>simp [sliceBounds,HT.sIx]
  | some i =>
   simp only [sliceBounds,HT.sIx,Option.getD_none,show (1:Int) > 0 by decide,if_true]
   by_cases h:i < 0
   ·simp only [h,if_true] <;> omega
   ·simp only [h,if_false] <;> omega
theorem Ty (its:List Value)(lo hi:Option Int):slicePick its.toArray lo hi none=((its.drop (HT.sIx its.length 0 lo)).take (HT.sIx its.length its.length hi - HT.sIx its.length 0 lo)).toArray:=by
 obtain ⟨h1,h2,h3⟩:=Tz lo hi its.toArray.size
 unfold slicePick
 rw [h1,h2,h3]
 simp only [sliceRange_one,pick_run,List.size_toArray] <;> rfl
def rSlL (K:Fg):V->Option Int->Option Int->Hp->VK->Prop:=fun x lo hi H Q=>∃ a xs,x = .ref a/\SqL K H a xs/\∀ p,H p=none->Q (.ref p) (j9 H p (.lst (va xs lo hi)))
theorem Tw:SlR X (rSlL X.K):=by
 intro pins s σ H x v vl vu lo hi sl Q I rx hs pl pu h
 obtain ⟨a,xs,rfl,hx,q⟩:=h
 cases rx
 obtain ⟨its,r,ht,hz⟩:=I.list hx
 have hlen:=r.length
 refine ⟨"list",_,slot_list_getitem.lookup,ht.isList.typeIs,?_⟩
 refine wpAny_getItem_list_slice ht.isList hs pl pu .none (by simp) ?_ (by rw [List.size_toArray] <;> omega)
 rw [Ty,<- hlen]
 refine ⟨.ref s.heap.objs.size,_,I.laid (t':=s.toks) (o:= .lst (va xs lo hi)) (fun b ob q=>Heap.get?_push_of_some _ q) (Nat.le_refl _) ?_,rfl,q _ (I.hok.fresh (Nat.le_refl _))⟩
 exact ⟨Nat.le_trans (Da xs lo hi) hz,_,0,(r.drop (HT.sIx xs.length 0 lo)).take (HT.sIx xs.length xs.length hi - HT.sIx xs.length 0 lo),Heap.get?_push_size _ rfl⟩

def p0:V->Bool
 | .non=>true
 | .bl _=>true
 | .int _=>true
 | .str _=>true
 | _=>false
def qw:V->V->Bool
 | .non,.non=>true
 | .bl a,.bl b=>a == b
 | .bl a,.int b=>(if a then 1 else 0) == b
 | .int a,.bl b=>a == (if b then 1 else 0)
 | .int a,.int b=>a == b
 | .str a,.str b=>a == b
 | _,_=>false
theorem Wa {A:Around}{s:Shared}{y x:V}{u v:Value}(ry:RelV y u)(rx:RelV x v)(fy:p0 y=true)(fx:p0 x=true):SeqAt.EqAt A s u v (qw y x):=by
 cases y with
 | non =>
  cases ry
  cases x with
  | non=>cases rx;exact SeqAt.EqAt.same _
  | bl b=>cases rx;exact SeqAt.EqAt.none_bool b
  | int b=>obtain ⟨t,rfl⟩:=rx;exact SeqAt.EqAt.none_int b t
  | str b=>obtain ⟨t,rfl⟩:=rx;exact SeqAt.EqAt.none_str b t
  | _=>exact absurd (show false=true from fx) Bool.false_ne_true
 | bl a =>
  cases ry
  cases x with
  | non=>cases rx;exact SeqAt.EqAt.bool_none a
  | bl b=>cases rx;exact SeqAt.EqAt.bool_bool a b
  | int b=>obtain ⟨t,rfl⟩:=rx;exact SeqAt.EqAt.bool_int a b t
  | str b=>obtain ⟨t,rfl⟩:=rx;exact SeqAt.EqAt.bool_str a b t
  | _=>exact absurd (show false=true from fx) Bool.false_ne_true
 | int a =>
  obtain ⟨t',rfl⟩:=ry
  cases x with
  | non=>cases rx;exact SeqAt.EqAt.int_none a t'
  | bl b=>cases rx;exact SeqAt.EqAt.int_bool a t' b
  | int b=>obtain ⟨t,rfl⟩:=rx;exact SeqAt.EqAt.int_int a t' b t
  | str b=>obtain ⟨t,rfl⟩:=rx;exact SeqAt.EqAt.int_str a t' b t
  | _=>exact absurd (show false=true from fx) Bool.false_ne_true
 | str a =>
  obtain ⟨t',rfl⟩:=ry
  cases x with
  | non=>cases rx;exact SeqAt.EqAt.str_none a t'
  | bl b=>cases rx;exact SeqAt.EqAt.str_bool a t' b
  | int b=>obtain ⟨t,rfl⟩:=rx;exact SeqAt.EqAt.str_int a t' b t
  | str b=>obtain ⟨t,rfl⟩:=rx;exact SeqAt.EqAt.str_str a t' b t
  | _=>exact absurd (show false=true from fx) Bool.false_ne_true
 | _=>exact absurd (show false=true from fy) Bool.false_ne_true
def eqU (x:V)(u:Value):Bool:=match u with
 | .none=>qw .non x
 | .bool b=>qw (.bl b) x
 | .int i _=>qw (.int i) x
 | .str z _=>qw (.str z) x
 | _=>false
theorem GH {x y:V}{u:Value}(r:RelV y u)(f:p0 y=true):eqU x u=qw y x:=by
 cases y with
 | non=>cases r;rfl
 | bl b=>cases r;rfl
 | int i=>obtain ⟨t,rfl⟩:=r;rfl
 | str z=>obtain ⟨t,rfl⟩:=r;rfl
 | _=>exact absurd (show false=true from f) Bool.false_ne_true
theorem QA {x:V}:∀ {xs:List V} {us:List Value},Vals xs us->xs.all p0=true->us.any (eqU x)=xs.any fun y=>qw y x
 | _,_,.nil,_=>rfl
 | y::xs,u::us,.cons r t,f=>by
  rw [List.all_cons,Bool.and_eq_true] at f
  rw [List.any_cons,List.any_cons,GH r f.1,QA t f.2]
theorem Xl {A:Around}{s:Shared}{x:V}{v:Value}(rx:RelV x v)(fx:p0 x=true):∀ {xs:List V} {us:List Value},Vals xs us->xs.all p0=true->∀ u ∈ us,SeqAt.EqAt A s u v (eqU x u)
 | _,_,.nil,_=>fun u hu=>by cases hu
 | y::xs,u::us,.cons r t,f=>fun u' hu=>by
  rw [List.all_cons,Bool.and_eq_true] at f
  rcases List.mem_cons.mp hu with rfl | hu
  ·rw [GH r f.1];exact Wa r rx f.1 fx
  ·exact Xl rx fx t f.2 u' hu
def inV (x:V)(xs:List V):Bool:=xs.any fun y=>qw y x
def rIn (K:Fg)(neg:Bool):R2:=fun x y H Q=>∃ p xs,y = .ref p/\(SqL K H p xs ∨ SqT K H p xs)/\p0 x=true/\xs.all p0=true/\Q (.bl (if neg then !inV x xs else inV x xs)) H
theorem Kq:OpR X (compareOp .In) (rIn X.K false):=by
 intro pins s σ H x y v u Q I rx ry h
 obtain ⟨p,xs,rfl,hq,fx,fs,q⟩:=h
 cases ry
 rcases hq with hq | hq
 ·obtain ⟨its,r,pl,hz⟩:=I.list hq
  refine SeqAt.in_listAt (eqU x) pl.isList (fun w hw=>Xl rx fx r fs w (by simpa using hw)) ⟨.bl _,H,I,rfl,?_⟩
  rw [show its.toArray.any (eqU x)=its.any (eqU x) by simp,QA r fs]
  exact q
 ·obtain ⟨its,r,pl,hz⟩:=I.tuple hq
  refine SeqAt.in_tupleAt (eqU x) pl (fun w hw=>Xl rx fx r fs w (by simpa using hw)) ⟨.bl _,H,I,rfl,?_⟩
  rw [show its.toArray.any (eqU x)=its.any (eqU x) by simp,QA r fs]
  exact q
theorem Hh:OpR X (compareOp .NotIn) (rIn X.K true):=by
 intro pins s σ H x y v u Q I rx ry h
 obtain ⟨p,xs,rfl,hq,fx,fs,q⟩:=h
 cases ry
 rcases hq with hq | hq
 ·obtain ⟨its,r,pl,hz⟩:=I.list hq
  refine SeqAt.notIn_listAt (eqU x) pl.isList (fun w hw=>Xl rx fx r fs w (by simpa using hw)) ⟨.bl _,H,I,rfl,?_⟩
  rw [show its.toArray.any (eqU x)=its.any (eqU x) by simp,QA r fs]
  exact q
 ·obtain ⟨its,r,pl,hz⟩:=I.tuple hq
  refine SeqAt.notIn_tupleAt (eqU x) pl (fun w hw=>Xl rx fx r fs w (by simpa using hw)) ⟨.bl _,H,I,rfl,?_⟩
  rw [show its.toArray.any (eqU x)=its.any (eqU x) by simp,QA r fs]
  exact q
theorem CF:CallR X (.builtin "len") (fun xs H Q=>∃ p ys,xs=[.ref p]/\(SqL X.K H p ys ∨ SqT X.K H p ys)/\Q (.int ys.length) H):=by
 intro pins s σ H xs us Q I r h
 obtain ⟨p,ys,rfl,hq,q⟩:=h
 obtain ⟨u,rfl,rx⟩:=zY r
 cases rx
 have hn:=vV
 rcases hq with hq | hq
 ·obtain ⟨its,r',pl,hz⟩:=I.list hq
  have hlen:=r'.length
  exact Calls.call_len_list pl.isList (by simp only [List.size_toArray] <;> omega) ⟨.int ys.length,H,I.tok _,⟨s.toks + 1,by rw [List.size_toArray,hlen]⟩,q⟩
 ·obtain ⟨its,r',pl,hz⟩:=I.tuple hq
  have hlen:=r'.length
  exact len_tuple pl (by simp only [List.size_toArray] <;> omega) ⟨.int ys.length,H,I.tok _,⟨s.toks + 1,by rw [List.size_toArray,hlen]⟩,q⟩
theorem CallR.or {f:Value}{r r':List V->Hp->VK->Prop}(h:CallR X f r)(h':CallR X f r'):CallR X f (fun xs H Q=>r xs H Q ∨ r' xs H Q):=by
 intro pins s σ H xs us Q I rs q
 rcases q with q | q
 ·exact h pins s σ H xs us Q I rs q
 ·exact h' pins s σ H xs us Q I rs q
theorem CG:CallR X (.type "list") (fun xs H Q=>∃ p ys,xs=[.ref p]/\(SqL X.K H p ys ∨ SqT X.K H p ys)/\∀ l,H l=none->Q (.ref l) (j9 H l (.lst ys))):=by
 intro pins s σ H xs us Q I r h
 obtain ⟨p,ys,rfl,hq,q⟩:=h
 obtain ⟨u,rfl,rx⟩:=zY r
 cases rx
 have fin:∀ (its:List Value),Vals ys its->ys.length<=sizeLine->∀ (h':Heap) (c':Nat),(∀ b o',s.heap.get? b=some o'->h'.get? b=some o') ->
   h'.get? s.heap.objs.size=some { cls:= .type "list",dict:=none,data:= .seq its.toArray c',slots:=#[] }->EP X pins σ Q (.ref s.heap.objs.size) { s with heap:=h' }:=fun its r' hz h' c' kp e =>
  ⟨.ref s.heap.objs.size,_,I.laid (t':=s.toks) kp (Nat.le_refl _) (show ObjOk X.prog X.w _ h' _ (.lst ys) from ⟨hz,its,c',r',e⟩),rfl,q _ (I.hok.fresh (Nat.le_refl _))⟩
 rcases hq with hq | hq
 ·obtain ⟨its,r',pl,hz⟩:=I.list hq
  have hlen:=r'.length
  obtain ⟨o,ho,hc,n,hd⟩:=pl.isList
  exact call_list_seq p (.inl rfl) ho hc hd (fun h' c' kp e=>fin its r' hz h' c' kp e) (by simp only [List.size_toArray] <;> omega)
 ·obtain ⟨its,r',pl,hz⟩:=I.tuple hq
  have hlen:=r'.length
  obtain ⟨o,ho,hc,n,hd⟩:=pl
  exact call_list_seq p (.inr rfl) ho hc hd (fun h' c' kp e=>fin its r' hz h' c' kp e) (by simp only [List.size_toArray] <;> omega)
def tyV (K:Fg)(T:String)(x:V)(H:Hp):Prop:=match x with
 | .str _=>T = "str"
 | .int _=>T = "int"
 | .ref p=>(T = "list"/\∃ xs,SqL K H p xs) ∨ (T = "tuple"/\∃ o,K.lookup p=some o/\o.cls = .type "tuple"/\o.dict=none) ∨
   (T = "dict"/\((∃ kvs,H p=some (.dK kvs)) ∨ ∃ kvs,H p=some (.dT kvs))) ∨ (T = "set"/\∃ S n,H p=some (.set S n))
 | _=>False
theorem Sc {pins:List (Addr × Obj)}{σ:St}{H:Hp}{s:Shared}{T:String}{x:V}{v:Value}(I:Inv X pins σ H s)(r:RelV x v)(ty:tyV X.K T x H) :
  s.TypeIs v T/\∀ a,v = .ref a->∃ ob,s.heap.get? a=some ob/\ob.dict=none:=by
 cases x with
 | str z =>
  obtain ⟨t,rfl⟩:=r
  cases (show T = "str" from ty)
  exact ⟨typeIs_str s z t,fun _ e=>nomatch e⟩
 | int i =>
  obtain ⟨t,rfl⟩:=r
  cases (show T = "int" from ty)
  exact ⟨typeIs_int s i t,fun _ e=>nomatch e⟩
 | ref p =>
  cases r
  rcases ty with ⟨rfl,xs,hq⟩ | ⟨rfl,o,hk,hc,hd⟩ | ⟨rfl,hk⟩ | ⟨rfl,S,n,hk⟩
  ·obtain ⟨its,_,pl,_⟩:=I.list hq
   refine ⟨pl.isList.typeIs,fun a e=>?_⟩
   cases e
   obtain ⟨o,n,e,c,hd,_⟩:=pl
   exact ⟨o,e,hd⟩
  ·refine ⟨⟨o,I.kIn p o hk,hc⟩,fun a e=>?_⟩
   cases e
   exact ⟨o,I.kIn _ o hk,hd⟩
  ·have z:∃ o,s.heap.get? p=some o/\o.ExactDict:=by
    rcases hk with ⟨kvs,hk⟩ | ⟨kvs,hk⟩
    ·obtain ⟨_,_,_,_,o,_,_,e,ex,_⟩:=I.hok p _ hk
     exact ⟨o,e,ex⟩
    ·obtain ⟨_,_,_,_,o,_,_,e,ex,_⟩:=I.hok p _ hk
     exact ⟨o,e,ex⟩
   obtain ⟨o,e,ex⟩:=z
   refine ⟨⟨o,e,ex.1⟩,fun a e2=>?_⟩
   cases e2
   exact ⟨o,e,ex.2.1⟩
  ·obtain ⟨o,_,_,_,e,ex,_⟩:=I.hok p _ hk
   refine ⟨⟨o,e,ex.1⟩,fun a e2=>?_⟩
   cases e2
   exact ⟨o,e,ex.2.1⟩
 | _=>exact False.elim ty
def tBM (K:Fg)(T:String)(r:V->List V->Hp->VK->Prop)(to:TE)(t:TA):TE:=fun σ H Q=>to σ H fun x H1=>tyV K T x H1/\t σ H1 fun xs H2=>r x xs H2 Q
variable {o e:Expr}{es:List Expr}{to:TE}{t:TA}{name:Str}{apos cpos:Pos}{T id:String}{r:V->List V->Hp->VK->Prop}
theorem pe_bm (pa:PlainAttrs T)(slot:Slot T name id)(hty:typeOf (.builtin id)=pure (.type "method_descriptor")) (hm:MtR X id r) (ho:PE X o to) (ha:PA X (e::es) t)
  (hbase:attributeBase o name X.env (eval o X.env)=eval o X.env:=by rfl)
  (hfew:((backTo cpos (starEach (e::es) X.env)).all (fun x=>!x.1) && (backToKw cpos (keywordEach [] X.env)).all (fun x=>x.1.isSome)
   && decide ((e::es).length + ([]:List Keyword).length + (if ([]:List Keyword).isEmpty then 0 else 1) < 30))=true:=by rfl)
  (hline:(apos.endLine == cpos.line)=true:=by rfl) (hs:starEach (e::es) X.env=(false,eval e X.env)::starEach es X.env:=by rfl) (hplain:(backTo cpos (starEach es X.env)).any (·.1)=false:=by rfl) :
  PE X (.Call (.Attribute o name apos) (e::es) [] cpos) (tBM X.K T r to t):=by
 intro pins s σ H Q I h
 refine wpAny_Call_method_late hbase hfew hline rfl (j3 (ho pins s σ H _ I h) fun v s1 ⟨x,H1,I1,r1,ty,q1⟩=>?_)
 obtain ⟨h1,h2⟩:=Sc I1 r1 ty
 refine ⟨T,id,pa,slot,hty,h1,h2,?_⟩
 have hA:=ha cpos pins s1 σ H1 _ I1 q1
 rw [hs] at hA ⊢
 refine Calls.callWith_builtin (by show (false || (backTo cpos (starEach es X.env)).any (·.1))=false;rw [hplain] <;> rfl) (Calls.evalArgs_plain ?_)
 exact j3 hA fun us s2 ⟨vs,H2,I2,r2,q2⟩=>hm pins s2 σ H2 x vs v us Q I2 r1 r2 q2
end
end L2
namespace L2
open PySem PySem.Spec PyProof.Rows
def MtM (X:Cx)(id:String)(r:V->List V->Hp->VK->Prop):Prop :=
 ∀ (pins:List (Addr × Obj)) (s:Shared) (σ:St) (H:Hp) (x:V) (xs:List V) (v:Value) (us:List Value) (Q:VK),Inv X pins σ H s->RelV x v->Vals xs us->r x xs H Q ->
  wpAny (model X.prog X.w) X.A (call (.builtin id) (v::us)) (EP X pins σ Q) X.xe s

theorem Vals.one:∀ {x:V} {us:List Value},Vals [x] us->∃ u,us=[u]/\RelV x u
 | _,_,.cons r .nil=>⟨_,rfl,r⟩
theorem Vals.eraseIdx:∀ {xs:List V} {us:List Value} (i:Nat),Vals xs us->Vals (xs.eraseIdx i) (us.eraseIdx i)
 | _,_,_,.nil=> .nil
 | _,_,0,.cons _ t=>t
 | _,_,i + 1,.cons r t=> .cons r (Vals.eraseIdx i t)
theorem Ke {α:Type}:∀ (l:List α) (i:Nat),(l.eraseIdx i).length<=l.length
 | [],_=>Nat.le_refl _
 | _::_,0=>Nat.le_succ _
 | _::r,i + 1=>Nat.succ_le_succ (Ke r i)
section
variable {X:Cx}{pins:List (Addr × Obj)}{σ:St}{H:Hp}{s:Shared}{l b:Addr}{xs ys zs:List V}
theorem Inv.lset {its its':List Value}{n:Nat}{f:Array Value->Array Value}{t':Nat}(I:Inv X pins σ H s)(hH:H l=some (.lst xs))
  (e:s.heap.get? l=some { cls:= .type "list",data:= .seq its.toArray n }) (hf:f its.toArray=its'.toArray) (hv:Vals ys its') (hz:ys.length<=sizeLine) :
  Inv X pins σ (j9 H l (.lst ys)) { s with heap:=s.heap.update l (Obj.mapSeq f),toks:=t' }:=by
 have q:=PySem.IsL.update e f
 rw [hf] at q
 refine I.write (x:=l) (e:=l) (by rw [hH];exact trivial) (.inl rfl) (fun b' u hb hu=>(Heap.get?_update_other s.heap (Obj.mapSeq f) (Ne.symm hb)).trans hu) ⟨_,q⟩ ?_
 exact ⟨hz,its',_,hv,q⟩
theorem Inv.lnew {its:List Value}{t':Nat}(I:Inv X pins σ H s)(hv:Vals ys its)(hz:ys.length<=sizeLine) :
  Inv X pins σ (j9 H s.heap.objs.size (.lst ys)) { s with heap:=s.heap.push { cls:= .type "list",data:= .seq its.toArray },toks:=t' } :=
 I.laid (fun _ _ q=>Heap.get?_push_of_some _ q) (Nat.le_refl _) ⟨hz,its,0,hv,Heap.get?_push_size _ rfl⟩
theorem Inv.fresh (I:Inv X pins σ H s):H s.heap.objs.size=none:=I.hok.fresh (Nat.le_refl _)
theorem Inv.lstM (I:Inv X pins σ H s)(hH:H l=some (.lst xs)):xs.length<=sizeLine/\∃ (its:List Value) (n:Nat),Vals xs its/\xs.length=its.length/\s.heap.get? l=some { cls:= .type "list",data:= .seq its.toArray n }:=by
 obtain ⟨z,its,n,r,e⟩:=I.hok l _ hH
 exact ⟨z,its,n,r,r.length,e⟩

end
section
variable {X:Cx}
def wo:V->List V->Hp->VK->Prop:=fun x vs H Q=>∃ l xs y,x = .ref l/\vs=[y]/\H l=some (.lst xs)/\xs.length < sizeLine/\Q .non (j9 H l (.lst (xs++[y])))
theorem Xn:MtM X "list.append" wo:=by
 intro pins s σ H x vs v us Q I rx rv h
 obtain ⟨l,xs,y,rfl,rfl,hH,hz,q⟩:=h
 cases rx
 obtain ⟨u,rfl,ru⟩:=rv.one
 obtain ⟨z,its,n,r,hl,e⟩:=I.lstM hH
 refine call_meets F.slot_list_append ⟨_,e,rfl⟩ F.entry_list_append (F.args_list_append_2 _ _) (PySem.list_append l its.toArray n u (by rw [List.size_toArray];omega)) ⟨e,?_⟩
 refine ⟨.non,_,I.lset (its':=its++[u]) hH e (by simp) (r.append (.cons ru .nil)) ?_,rfl,q⟩
 rw [List.length_append,List.length_singleton]
 omega

def KW:V->List V->Hp->VK->Prop:=fun x vs H Q=>∃ l xs i k y,x = .ref l/\vs=[.int i]/\H l=some (.lst xs)/\-(2 ^ 63)<=i/\i < 2 ^ 63/\seqIndex? i xs.length=some k/\xs[k]?=some y/\Q y (j9 H l (.lst (xs.eraseIdx k)))
theorem LD:MtM X "list.pop" KW:=by
 intro pins s σ H x vs v us Q I rx rv h
 obtain ⟨l,xs,i,k,y,rfl,rfl,hH,h1,h2,hk,hy,q⟩:=h
 cases rx
 obtain ⟨u,rfl,ru⟩:=rv.one
 obtain ⟨t,rfl⟩:=ru
 obtain ⟨z,its,n,r,hl,e⟩:=I.lstM hH
 obtain ⟨w,hw,rw'⟩:=r.get hy
 refine call_meets F.slot_list_pop ⟨_,e,rfl⟩ F.entry_list_pop (F.args_list_pop_2 _ _)
  (MeetsSeq.list_pop_at l its.toArray n i t k w (fitsIndex_both h1 h2) (by rw [List.size_toArray,<- hl];exact hk) (by rw [<- Array.getElem?_toList];exact hw) (by rw [List.size_toArray];omega)) ⟨e,?_⟩
 refine ⟨y,_,I.lset (its':=its.eraseIdx k) hH e ?_ (r.eraseIdx k) ?_,rw',q⟩
 ·show its.toArray.eraseIdxIfInBounds k=(its.eraseIdx k).toArray
  rw [List.eraseIdxIfInBounds_toArray]
 ·have:=Ke xs k
  omega

end
section
variable {prog:Program}{w:World}{A:Around}{E:Value->Shared->Prop}{s:Shared}
end
section
variable {X:Cx}
end
end L2
namespace L2
open PySem PySem.Spec PyProof.Rows
section
variable {κ:Type}[DecidableEq κ]
def qC (kvs:List (κ × V))(k:κ):Option V:=(kvs.find? fun kv=>decide (kv.1=k)).map (·.2)
def zF (kvs:List (κ × V))(k:κ)(v:V):List (κ × V) :=
 if (kvs.any fun kv=>decide (kv.1=k))=true then kvs.map (fun kv=>if kv.1=k then (kv.1,v) else kv) else kvs++[(k,v)]
theorem Yt {p:κ × V}{r:List (κ × V)}{k:κ}(e:p.1=k):qC (p::r) k=some p.2:=by simp [qC,List.find?_cons,e]
theorem Ys {p:κ × V}{r:List (κ × V)}{k:κ}(e:¬ p.1=k):qC (p::r) k=qC r k:=by simp [qC,List.find?_cons,e]
theorem Yr (k:κ):∀ kvs:List (κ × V),(kvs.any fun kv=>decide (kv.1=k))=(qC kvs k).isSome
 | []=>rfl
 | p::r=>by
  rw [List.any_cons]
  by_cases e:p.1=k
  ·simp only [Yt e,decide_eq_true e,Bool.true_or,Option.isSome_some]
  ·rw [Ys e,decide_eq_false e,Bool.false_or];exact Yr k r
theorem Kg (kvs:List (κ × V))(k:κ)(v:V):(zF kvs k v).length<=kvs.length + 1:=by
 unfold zF
 split
 ·rw [List.length_map];omega
 ·rw [List.length_append,List.length_cons,List.length_nil];omega
theorem RelO.isSome_eq {o:Option V}{u:Option Value}(r:RelO o u):o.isSome=u.isSome:=by
 cases o with
 | none=>cases u with
  | none=>rfl
  | some _=>exact (show False from r).elim
 | some _=>cases u with
  | none=>exact (show False from r).elim
  | some _=>rfl
theorem KV.val {kvs:List (κ × V)}{vs:List (κ × Value)}(r:KV kvs vs)(k:κ):RelO (qC kvs k) (valueAt vs k):=by
 unfold KV at r
 induction r with
 | nil=>exact True.intro
 | @cons p q ps qs h t ih =>
  obtain ⟨h1,h2⟩:=h
  by_cases e:p.1=k
  ·have e':q.1=k:=h1.symm.trans e
   have b:valueAt (q::qs) k=some q.2:=by simp [valueAt,List.find?_cons,e']
   rw [Yt e,b];exact h2
  ·have e':¬ q.1=k:=fun z=>e (h1.trans z)
   have b:valueAt (q::qs) k=valueAt qs k:=by simp [valueAt,List.find?_cons,e']
   rw [Ys e,b];exact ih
theorem KV.any {kvs:List (κ × V)}{vs:List (κ × Value)}(r:KV kvs vs)(k:κ):(kvs.any fun kv=>decide (kv.1=k))=vs.any fun kv=>decide (kv.1=k):=by
 unfold KV at r
 induction r with
 | nil=>rfl
 | cons h t ih=>rw [List.any_cons,List.any_cons,ih,h.1]
theorem KV.repl {kvs:List (κ × V)}{vs:List (κ × Value)}(r:KV kvs vs)(k:κ){y:V}{u:Value}(ry:RelV y u) :
  KV (kvs.map fun kv=>if kv.1=k then (kv.1,y) else kv) (vs.map fun kv=>if kv.1=k then (kv.1,u) else kv):=by
 unfold KV at r ⊢
 induction r with
 | nil=>exact .nil
 | @cons p q ps qs h t ih =>
  rw [List.map_cons,List.map_cons]
  refine .cons ?_ ih
  obtain ⟨h1,h2⟩:=h
  by_cases e:p.1=k
  ·rw [if_pos e,if_pos (h1.symm.trans e)];exact ⟨h1,ry⟩
  ·rw [if_neg e,if_neg (fun z=>e (h1.trans z))];exact ⟨h1,h2⟩
theorem KV.put {kvs:List (κ × V)}{vs:List (κ × Value)}(r:KV kvs vs)(k:κ){y:V}{u:Value}(ry:RelV y u):KV (zF kvs k y) (stored vs k u):=by
 unfold zF stored
 rw [r.any k]
 by_cases e:(vs.any fun kv=>decide (kv.1=k))=true
 ·rw [if_pos e,if_pos e];exact r.repl k ry
 ·rw [if_neg e,if_neg e];exact Paired.snoc r ⟨rfl,ry⟩
theorem KV.length {kvs:List (κ × V)}{vs:List (κ × Value)}(r:KV kvs vs):kvs.length=vs.length:=Paired.length r
end
theorem wS {P:Program}{w:World}{k:z8}{u:Value}(r:RelV (kV k) u):(qG P w).is k u=true:=by
 cases k with
 | inl i=>obtain ⟨t,e⟩:=(show ∃ t,u=Value.int i t from r);subst e;exact LC P w i t
 | inr x=>obtain ⟨t,e⟩:=(show ∃ t,u=Value.str x t from r);subst e;exact WB P w x t
theorem GV {P:Program}{w:World}:∀ {ks:List z8} {us:List Value},Vals (ks.map kV) us->ItemsAre (qG P w) ks us
 | [],_,r=>by rw [List.map_nil] at r;cases r;exact .nil
 | k::ks,_,r=>by
  rw [List.map_cons] at r
  cases r with
  | cons h t=>exact .cons (wS h) (GV t)

abbrev KT (H:Hp):List (List z8 × V)->List (List z8 × Addr × Value)->Prop:=Paired fun p q=>p.1=q.1/\H q.2.1=some (.tup (p.1.map kV))/\RelV p.2 q.2.2
theorem KT.val {H:Hp}{kvs:List (List z8 × V)}{xs:List (List z8 × Addr × Value)}(r:KT H kvs xs)(k:List z8):RelO (qC kvs k) ((atKey xs k).map (·.2)):=by
 induction r with
 | nil=>exact True.intro
 | @cons p q ps qs h t ih =>
  obtain ⟨h1,_,h2⟩:=h
  by_cases e:p.1=k
  ·have e':q.1=k:=h1.symm.trans e
   have b:atKey (q::qs) k=some q.2:=by simp [atKey,List.find?_cons,e']
   rw [Yt e,b];exact h2
  ·have e':¬ q.1=k:=fun z=>e (h1.trans z)
   have b:atKey (q::qs) k=atKey qs k:=by simp [atKey,List.find?_cons,e']
   rw [Ys e,b];exact ih
theorem KT.repl {H:Hp}{kvs:List (List z8 × V)}{xs:List (List z8 × Addr × Value)}(r:KT H kvs xs)(k:List z8){y:V}{u:Value}(ry:RelV y u) :
  KT H (kvs.map fun kv=>if kv.1=k then (kv.1,y) else kv) (xs.map (putAt k u)):=by
 induction r with
 | nil=>exact .nil
 | @cons p q ps qs h t ih =>
  rw [List.map_cons,List.map_cons]
  refine .cons ?_ ih
  obtain ⟨h1,h2,h3⟩:=h
  unfold putAt
  by_cases e:p.1=k
  ·rw [if_pos e,if_pos (h1.symm.trans e)];exact ⟨h1,h2,ry⟩
  ·rw [if_neg e,if_neg (fun z=>e (h1.trans z))];exact ⟨h1,h2,h3⟩
theorem KT.put {H:Hp}{kvs:List (List z8 × V)}{xs:List (List z8 × Addr × Value)}(r:KT H kvs xs)(k:List z8){b:Addr}{y:V}{u:Value}(hb:H b=some (.tup (k.map kV)))(ry:RelV y u) :
  KT H (zF kvs k y) (storedH xs k b u):=by
 have e:(kvs.any fun kv=>decide (kv.1=k))=(atKey xs k).isSome:=by
  rw [Yr,(r.val k).isSome_eq,Option.isSome_map]
 unfold zF storedH
 rw [e]
 by_cases q:(atKey xs k).isSome=true
 ·rw [if_pos q,if_pos q];exact r.repl k ry
 ·rw [if_neg q,if_neg q];exact Paired.snoc r ⟨rfl,hb,ry⟩
theorem KT.keeps {H H':Hp}{kvs:List (List z8 × V)}{xs:List (List z8 × Addr × Value)}(r:KT H kvs xs)(ht:∀ b ys,H b=some (.tup ys)->H' b=some (.tup ys)):KT H' kvs xs :=
 Paired.mapP r fun _ _ z=>⟨z.1,ht _ _ z.2.1,z.2.2⟩

section
variable {P:Program}{w:World}{H:Hp}{h:Heap}{a:Addr}
theorem Be {u:HO}(ok:HOk P w H h)(e:Rd H a u):ObjOk P w H h a u:=e.ok ok
theorem vO {kvs:List (z8 × V)}(ok:HOk P w H h)(e:Rd H a (.dK kvs)):kvs.length<=sizeLine/\(a == sysModules)=false/\∃ vs,KV kvs vs/\h.DictOf (qG P w) a vs :=
 show ObjOk P w H h a (.dK kvs) from Be ok e
theorem dk_of {kvs:List (z8 × V)}(ok:HOk P w H h)(e:H a=some (.dK kvs)):kvs.length<=sizeLine/\(a == sysModules)=false/\∃ vs,KV kvs vs/\h.DictOf (qG P w) a vs:=vO ok (.inl e)
theorem QR {ks:List z8}(ok:HOk P w H h)(e:H a=some (.tup (ks.map kV))):(tupleKind (qG P w)).is h ks a:=by
 obtain ⟨_,its,r,o,h1,h2,n,h3⟩:=(show ObjOk P w H h a (.tup (ks.map kV)) from ok a _ e)
 exact ⟨o,its.toArray,n,h1,h2,h3,by simpa using GV r⟩
theorem QI {kvs:List (List z8 × V)}(ok:HOk P w H h)(e:Rd H a (.dT kvs)):kvs.length<=sizeLine/\(a == sysModules)=false /\
  ∃ xs,KT H kvs xs/\h.DictOfH (tupleKind (qG P w)) a xs:=by
 obtain ⟨z,y,xs,r,o,es,ep,h1,h2,h3,h4,h5⟩:=(show ObjOk P w H h a (.dT kvs) from Be ok e)
 refine ⟨z,y,xs,r,o,es,ep,h1,h2,h3,h4,fun x hx=>?_,h5⟩
 have all:∀ {l:List (List z8 × V)} {m:List (List z8 × Addr × Value)},KT H l m->∀ x ∈ m,(tupleKind (qG P w)).is h x.1 x.2.1:=by
  intro l m q
  induction q with
  | nil=>intro x hx;exact nomatch hx
  | @cons p q ps qs hq t ih =>
   intro x hx
   rcases List.mem_cons.mp hx with e | hx
   ·subst e
    exact QR ok (by rw [<- hq.1];exact hq.2.1)
   ·exact ih x hx
 exact all r x hx
theorem dt_of {kvs:List (List z8 × V)}(ok:HOk P w H h)(e:H a=some (.dT kvs)):kvs.length<=sizeLine/\(a == sysModules)=false /\
  ∃ xs,KT H kvs xs/\h.DictOfH (tupleKind (qG P w)) a xs:=QI ok (.inl e)
end
def DGet (H:Hp)(a:Addr)(y:V)(r:Option V):Prop :=
 (∃ kvs k,Rd H a (.dK kvs)/\y=kV k/\r=qC kvs k) ∨ ∃ kvs k b,Rd H a (.dT kvs)/\y = .ref b/\H b=some (.tup (k.map kV))/\r=qC kvs k
def DPut (H:Hp)(a:Addr)(y v:V)(H':Hp):Prop :=
 (∃ kvs k,H a=some (.dK kvs)/\y=kV k/\kvs.length < sizeLine/\H'=j9 H a (.dK (zF kvs k v))) ∨
 ∃ kvs k b,H a=some (.dT kvs)/\y = .ref b/\H b=some (.tup (k.map kV))/\kvs.length < sizeLine/\H'=j9 H a (.dT (zF kvs k v))
theorem DGet.k {H:Hp}{a:Addr}{kvs:List (z8 × V)}{k:z8}(e:H a=some (.dK kvs)):DGet H a (kV k) (qC kvs k):= .inl ⟨kvs,k,.inl e,rfl,rfl⟩
theorem DPut.k {H:Hp}{a:Addr}{kvs:List (z8 × V)}{k:z8}{v:V}(e:H a=some (.dK kvs))(hl:kvs.length < sizeLine):DPut H a (kV k) v (j9 H a (.dK (zF kvs k v))):= .inl ⟨kvs,k,e,rfl,hl,rfl⟩
section
variable {X:Cx}{pins:List (Addr × Obj)}{σ:St}{H:Hp}{s:Shared}{a:Addr}{y v:V}{u r:Value}{o:Option V}{A:Around}{E:Value->Shared->Prop}
theorem Inv.big (I:Inv X pins σ H s):sysModules < s.heap.objs.size:=by
 have h:mainGlobals < s.heap.objs.size:=(I.mod.glob.keeps I.bk).lt
 exact Nat.lt_trans (by decide) h

theorem Dh {Q:Value->Shared->Prop}(hu:A.units + 1 < cLine)(I:Inv X pins σ H s)(g:DGet H a y (some v))(ry:RelV y u)(h:∀ w' s',Inv X pins σ H s'->RelV v w'->Q w' s') :
  wpAny (model X.prog X.w) A (getItem (.ref a) u) Q E s:=by
 rcases g with ⟨kvs,k,e,ey,l⟩ | ⟨kvs,k,b,e,ey,eb,l⟩
 ·subst ey
  obtain ⟨z,hd,vs,rel,dd⟩:=vO I.hok e
  obtain ⟨w',hw,rw'⟩:=RelO.some_of (v:=v) (o:=valueAt vs k) (by rw [l];exact rel.val k)
  exact wpAny_getItem_of (wS ry) dd.mapOf hw (h w' _ (I.tok _) rw')
 ·subst ey
  cases (show u=Value.ref b from ry)
  obtain ⟨z,hd,xs,rel,dd⟩:=QI I.hok e
  obtain ⟨w',hw,rw'⟩:=RelO.some_of (v:=v) (o:=(atKey xs k).map (·.2)) (by rw [l];exact rel.val k)
  obtain ⟨p,hp,hp2⟩:=Option.map_eq_some_iff.mp hw
  refine wpAny_getItem_heap (tupleKind_room_in1 hu) (QR I.hok eb) dd hp ?_
  rw [hp2]
  exact h w' _ (I.tok _) rw'
theorem d_in {Q:Value->Shared->Prop}(hu:A.units + 1 < cLine)(I:Inv X pins σ H s)(g:DGet H a y o)(ry:RelV y u)(h:∀ s',Inv X pins σ H s'->Q (.bool o.isSome) s') :
  wpAny (model X.prog X.w) A (compareOp .In u (.ref a)) Q E s:=by
 rcases g with ⟨kvs,k,e,ey,l⟩ | ⟨kvs,k,b,e,ey,eb,l⟩
 ·subst ey
  obtain ⟨z,hd,vs,rel,dd⟩:=vO I.hok e
  refine wpAny_in_of (wS ry) hd dd.mapOf ?_
  rw [<- (rel.val k).isSome_eq,<- l]
  exact h _ (I.tok _)
 ·subst ey
  cases (show u=Value.ref b from ry)
  obtain ⟨z,hd,xs,rel,dd⟩:=QI I.hok e
  refine wpAny_in_heap (tupleKind_room_in1 hu) (QR I.hok eb) hd dd ?_
  have q:=(rel.val k).isSome_eq
  rw [Option.isSome_map] at q
  rw [<- q,<- l]
  exact h _ (I.tok _)
theorem Di {Q:Value->Shared->Prop}(hu:A.units + 1 < cLine)(I:Inv X pins σ H s)(g:DGet H a y o)(ry:RelV y u)(h:∀ s',Inv X pins σ H s'->Q (.bool (!o.isSome)) s') :
  wpAny (model X.prog X.w) A (compareOp .NotIn u (.ref a)) Q E s:=by
 rcases g with ⟨kvs,k,e,ey,l⟩ | ⟨kvs,k,b,e,ey,eb,l⟩
 ·subst ey
  obtain ⟨z,hd,vs,rel,dd⟩:=vO I.hok e
  refine wpAny_notIn_of (wS ry) hd dd.mapOf ?_
  rw [<- (rel.val k).isSome_eq,<- l]
  exact h _ (I.tok _)
 ·subst ey
  cases (show u=Value.ref b from ry)
  obtain ⟨z,hd,xs,rel,dd⟩:=QI I.hok e
  refine wpAny_notIn_heap (tupleKind_room_in1 hu) (QR I.hok eb) hd dd ?_
  have q:=(rel.val k).isSome_eq
  rw [Option.isSome_map] at q
  rw [<- q,<- l]
  exact h _ (I.tok _)
theorem Gy {h':Heap}{t':Nat}{ob:HO}(I:Inv X pins σ H s)(mu:Mut (H a))(hs:Heap.SameBut a s.heap h')(he:∃ q,h'.get? a=some q)(new:ObjOk X.prog X.w (j9 H a ob) h' a ob) :
  Inv X pins σ (j9 H a ob) { s with heap:=h',toks:=t' } :=
 I.write (x:=a) (e:=a) mu (.inl rfl) (fun b q hb z=>(hs.2 b hb).trans z) he new
theorem Gz {P:Program}{w:World}{H':Hp}{h':Heap}{kvs:List (z8 × V)}{vs:List (z8 × Value)}(z:kvs.length<=sizeLine)(hd:(a == sysModules)=false)(rel:KV kvs vs)(dd:h'.DictOf (qG P w) a vs) :
  ObjOk P w H' h' a (.dK kvs):=⟨z,hd,vs,rel,dd⟩
theorem Dj {H':Hp}{Q:Unit->Shared->Prop}(hu:A.units + 1 < cLine)(I:Inv X pins σ H s)(g:DPut H a y v H')(ry:RelV y u)(rv:RelV v r)(h:∀ s',Inv X pins σ H' s'->Q () s') :
  wpAny (model X.prog X.w) A (setItem (.ref a) u r) Q E s:=by
 rcases g with ⟨kvs,k,e,ey,l,eH⟩ | ⟨kvs,k,b,e,ey,eb,l,eH⟩
 ·subst ey eH
  obtain ⟨z,hd,vs,rel,dd⟩:=dk_of I.hok e
  have hz:vs.length<=sizeLine:=by rw [<- rel.length];exact z
  have hl:(zF kvs k v).length<=sizeLine:=by have:=Kg kvs k v;omega
  refine wpAny_setItem_pairs (hsz:=hz) (wS ry) dd fun h' dd' hs=>h _ ?_
  have he:∃ q,h'.get? a=some q:=let ⟨q,_,_,hq,_⟩:=dd';⟨q,hq⟩
  exact Gy I (by rw [e];exact True.intro) hs he (Gz hl hd (rel.put k rv) dd')
 ·subst ey eH
  cases (show u=Value.ref b from ry)
  obtain ⟨z,hd,xs,rel,dd⟩:=dt_of I.hok e
  have hz:xs.length<=sizeLine:=by rw [<- Paired.length rel];exact z
  have hl:(zF kvs k v).length<=sizeLine:=by have:=Kg kvs k v;omega
  refine wpAny_setItem_heap (hsz:=hz) (tupleKind_room_in1 hu) (QR I.hok eb) dd fun h' dd' hs=>h _ ?_
  obtain ⟨q,es,ep,hq,h2,h3,h4,_,h5⟩:=dd'
  refine Gy I (by rw [e];exact True.intro) hs ⟨q,hq⟩ ⟨hl,hd,_,(rel.put k eb rv).keeps fun c ys ec=>?_,q,es,ep,hq,h2,h3,h4,h5⟩
  rw [v6 (ne_of ec e (fun z=>nomatch z))]
  exact ec
end
section
variable {X:Cx}{pins:List (Addr × Obj)}{σ:St}{H:Hp}{s:Shared}{a:Addr}{kvs:List (z8 × V)}{k:z8}{u:Value}{A:Around}{E:Value->Shared->Prop}
theorem d_len {Q:Value->Shared->Prop}(I:Inv X pins σ H s)(e:Rd H a (.dK kvs))(h:∀ t s',Inv X pins σ H s'->Q (.int kvs.length t) s'):wpAny (model X.prog X.w) A (call (.builtin "len") [.ref a]) Q E s:=by
 obtain ⟨z,hd,vs,rel,dd⟩:=vO I.hok e
 refine call_len_dict hd dd (by rw [<- rel.length];rw [sizeLine_eq] at z;omega) ?_
 rw [<- rel.length]
 exact h _ _ (I.tok _)
end
def NoSl (i:Expr):Prop:=∀ ov iv,subscripted i false ov iv=operate [ov,iv] (getItem ov iv)
theorem TM {prog:Program}{w:World}{A:Around}{E:Value->Shared->Prop}{s:Shared}{env:Env}{value slice:Expr}{pos:Pos}{T id:String}{Q:Value->Shared->Prop}
  (hl:typeLookup (.type T) "__getitem__"=pure (some (.builtin id))) (hs:NoSl slice)
  (h:wpAny (model prog w) A (eval value env) (fun o s₁=>wpAny (model prog w) A (eval slice env) (fun i s₂=>s₂.TypeIs o T/\wpAny (model prog w) A (getItem o i) Q E s₂) E s₁) E s) :
  wpAny (model prog w) A (eval (.Subscript value slice pos) env) Q E s:=by
 refine Subscript_ (wpAny_mono h (fun o s₁ h₁=>wpAny_mono h₁ (fun i s₂ h₂=>?_) fun _ _ x=>x) fun _ _ x=>x)
 obtain ⟨hT,h₂⟩:=h₂
 unfold subscriptTail
 refine wpAny_bind ?_
 rw [getitemInPython_of_ne hT.not_modules]
 refine wpAny_bind (wpAny_specialOf hT hl ?_)
 have fin:wpAny (model prog w) A (subscripted slice false o i) (fun r s₃=>wpAny (model prog w) A (letTemporaryGo value o r >>= fun _=>pure r) Q E s₃) E s₂:=by
  rw [hs o i]
  exact wpAny_operating (wpAny_mono h₂ (fun r s₃ h₃=>wpAny_bind (wpAny_letTemporaryGo (wpAny_pure h₃))) fun _ _ x=>x)
 first
  | exact wpAny_pure (wpAny_bind fin)
  | exact wpAny_bind (wpAny_pure (wpAny_bind fin))
  | exact wpAny_bind fin

theorem Dl {X:Cx}{pins:List (Addr × Obj)}{σ:St}{H:Hp}{s:Shared}{a:Addr}{y:V}{o:Option V}(I:Inv X pins σ H s)(g:DGet H a y o):s.TypeIs (.ref a) "dict":=by
 rcases g with ⟨kvs,k,e,_,_⟩ | ⟨kvs,k,b,e,_,_,_⟩
 ·obtain ⟨_,_,vs,_,dd⟩:=vO I.hok e
  exact dd.typeIs
 ·obtain ⟨_,_,xs,_,dd⟩:=QI I.hok e
  exact dd.typeIs
def BI (td ty:TE):TE:=fun σ H Q=>td σ H fun x H1=>ty σ H1 fun y H2=>∃ a v,x = .ref a/\DGet H2 a y (some v)/\Q v H2
def tDIn (ty td:TE):TE:=fun σ H Q=>ty σ H fun y H1=>td σ H1 fun x H2=>∃ a o,x = .ref a/\DGet H2 a y o/\Q (.bl o.isSome) H2
def BK (ty td:TE):TE:=fun σ H Q=>ty σ H fun y H1=>td σ H1 fun x H2=>∃ a o,x = .ref a/\DGet H2 a y o/\Q (.bl (!o.isSome)) H2
def Br (td ty tv:TE):TS:=fun D σ H=>tv σ H fun v H1=>td σ H1 fun x H2=>ty σ H2 fun y H3=>∃ a H4,x = .ref a/\DPut H3 a y v H4/\D.nx σ H4
section
variable {X:Cx}{o i e value:Expr}{pos pos' tpos:Pos}{td ty tv:TE}
theorem WJ (hu:X.A.units + 1 < cLine)(ho:PE X o td)(hi:PE X i ty)(hs:NoSl i):PE X (.Subscript o i pos) (BI td ty):=by
 intro pins s σ H Q I h
 refine TM PySem.F.slot_dict_getitem.lookup hs (j3 (ho pins s σ H _ I h) fun u s1 ⟨x,H1,I1,rx,q1⟩=>j3 (hi pins s1 σ H1 _ I1 q1) fun iv s2 ⟨y,H2,I2,ry,a,v,ex,g,q2⟩=>?_)
 subst ex
 obtain rfl:u=Value.ref a:=rx
 exact ⟨Dl I2 g,Dh hu I2 g ry fun w' s3 I3 rw'=>⟨v,H2,I3,rw',q2⟩⟩
theorem Hm (hu:X.A.units + 1 < cLine)(hi:PE X i ty)(ho:PE X o td):PC X .In i o (tDIn ty td):=by
 intro pins s σ H Q I h
 refine j3 (hi pins s σ H _ I h) fun iv s1 ⟨y,H1,I1,ry,q1⟩=>j3 (ho pins s1 σ H1 _ I1 q1) fun u s2 ⟨x,H2,I2,rx,a,ov,ex,g,q2⟩=>?_
 subst ex
 obtain rfl:u=Value.ref a:=rx
 exact d_in hu I2 g ry fun s3 I3=>⟨.bl ov.isSome,H2,I3,rfl,q2⟩
theorem Hn (hu:X.A.units + 1 < cLine)(hi:PE X i ty)(ho:PE X o td):PC X .NotIn i o (BK ty td):=by
 intro pins s σ H Q I h
 refine j3 (hi pins s σ H _ I h) fun iv s1 ⟨y,H1,I1,ry,q1⟩=>j3 (ho pins s1 σ H1 _ I1 q1) fun u s2 ⟨x,H2,I2,rx,a,ov,ex,g,q2⟩=>?_
 subst ex
 obtain rfl:u=Value.ref a:=rx
 exact Di hu I2 g ry fun s3 I3=>⟨.bl (!ov.isSome),H2,I3,rfl,q2⟩
theorem HN (hu:X.A.units + 1 < cLine)(ho:PE X o td)(hi:PE X i ty)(hv:PE X value tv)(hs:swapsWith value (some (.Subscript o i pos')) pos.line X.env=pure false) :
  PS X (.Assign [.Subscript o i pos'] value pos) (Br td ty tv):=by
 intro pins s σ H D I h
 refine wpAny_Assign_Subscript (j3 (hv pins s σ H _ I h) fun r s1 ⟨v,H1,I1,rv,q1⟩=>j3 (ho pins s1 σ H1 _ I1 q1) fun u s2 ⟨x,H2,I2,rx,q2⟩=>j3 (hi pins s2 σ H2 _ I2 q2) fun iv s3 ⟨y,H3,I3,ry,a,H4,ex,g,q3⟩=>?_) hs
 subst ex
 obtain rfl:u=Value.ref a:=rx
 exact Dj hu I3 g ry rv fun s4 I4=>⟨σ,H4,I4,q3⟩
end
theorem Dn {P:Program}{w:World}{H:Hp}(h:Heap)(hb:sysModules < h.objs.size):ObjOk P w H (h.push { cls:= .type "dict",data:= .dict #[] }) h.objs.size (.dK []) :=
 ⟨Nat.zero_le _,beq_eq_false_iff_ne.mpr (Ne.symm (Nat.ne_of_lt hb)),[],.nil,Heap.DictOf.new h⟩
def BJ:TE:=fun _ H Q=>∀ p,H p=none->Q (.ref p) (j9 H p (.dK []))
section
variable {X:Cx}{pos:Pos}
theorem Hq:PE X (.Dict [] [] pos) BJ:=fun pins s σ H Q I h =>
 wpAny_Dict_empty ⟨.ref s.heap.objs.size,_,I.laid (a:=s.heap.objs.size) (o:= .dK []) (t':=s.toks) (fun _ _ q=>Heap.get?_push_of_some _ q) (Nat.le_refl _) (Dn s.heap I.big),rfl,h _ (I.hok.fresh (Nat.le_refl _))⟩
end
section
variable {X:Cx}{pins:List (Addr × Obj)}{σ:St}{H:Hp}{s:Shared}{a:Addr}{y d:V}{u r:Value}{o:Option V}{A:Around}{E:Value->Shared->Prop}
end
section
variable {X:Cx}{o e f:Expr}{apos cpos:Pos}{td ty tx:TE}
end
section
variable {X:Cx}{pins:List (Addr × Obj)}{σ:St}{H:Hp}{s:Shared}{a:Addr}{kvs:List (z8 × V)}{A:Around}{E:Value->Shared->Prop}
end
section
variable {X:Cx}{pins:List (Addr × Obj)}{σ:St}{H:Hp}{s:Shared}{a:Addr}{y:V}{u:Value}{A:Around}{E:Value->Shared->Prop}
end
end L2
namespace Att
open PySem PySem.W PySem.Calls PyProof.Rows
theorem Ms {P:Params}{h:Heap}:∀ (ns:List Int) (vs:List Value),WellAll P h vs (ns.map WData.int)->IntsAre vs ns:=by
 intro ns
 induction ns with
 | nil =>
  intro vs w
  rw [List.map_nil] at w
  cases w
  exact .nil
 | cons n ns ih =>
  intro vs w
  rw [List.map_cons] at w
  cases w with
  | cons a b =>
   cases a
   exact .cons _ _ (ih _ b)

theorem To {l:OpenLaw}{n:Nat}(hn:l.most=some n){P:Params}{h:Heap}{args:List WData}{vals:List Value}
  (hpre:l.row.toRowW.claim.pre args=true) (hwl:WellAll P h vals args) :
  ∃ a vs ns,vals=[Value.ref a]/\args=[WData.list (ns.map WData.int)]/\h.get? a=some { cls:= .type "list",data:= .seq vs.toArray }/\IntsAre vs ns/\ns.length<=n:=by
 have hsh:WShape.hasAll [] args [.list .int]=true:=(pre_splitW hpre).1
 have hc:l.pre.holds [] { args:=args }=true:=(pre_splitW hpre).2
 obtain ⟨d,r,rfl,h1,h2⟩:=hasAllW_cons hsh
 obtain rfl:=hasAllW_nil h2
 obtain ⟨xs,rfl,h3⟩:=hasW_list h1
 obtain ⟨ns,rfl⟩:=items_int h3
 have hlen:ns.length<=n:=by
  unfold OpenLaw.pre at hc
  have h4:(WTm.not (.lt (.lit (.int (n:Int))) (.len (.arg 0)))).holds [] { args:=[.list (ns.map .int)] }=true:=by
   have h4:=(holds_andW hc).1
   rw [hn] at h4
   exact h4
  have h5:=condW_of h4 (w_not (w_lt w_lit (w_len_list (w_arg rfl))))
  rw [List.length_map] at h5
  refine Nat.le_of_not_lt fun q=>?_
  have q':(n:Int) < ((ns.length:Nat):Int):=by omega
  first
   | (rw [decide_eq_true q'] at h5;exact absurd h5 (by decide))
   | (simp at h5;omega)
 cases hwl with
 | cons w1 w2 =>
  cases w2
  cases w1 with
  | list ho hall=>exact ⟨_,_,ns,rfl,rfl,ho,Ms ns _ hall,hlen⟩

theorem HM (l:OpenLaw)(args:List WData):l.row.toRowW.claim.post args (.bool true) args=true :=
 postW_of (r:=l.row.toRowW) (X:=(true == true))
  (show WShape.has [] (.bool true) .bool=true by first | rfl | decide | simp [WShape.has,WShape.arms,WShape.armsAll])
  (show (WTm.eq .res (.lit (.bool true))).value [] { args:=args,res:=some (.bool true),after:=args }=some (.bool (true == true)) from w_eq_bool (w_res rfl) w_lit) rfl

theorem attach_call {l:OpenLaw}{n:Nat}{q:Program}{loose:List Str}{XP:(Str->Option Value)->Heap->Prop}{YP:World->Heap->Prop}{d:DefRec}
  (hn:l.most=some n) (hdf:d.params.defaults=[])
  (call:∀ (w:World) (s₀ s₁:Shared) (mg mb:Str->Option Value) (fa:Addr) (o:Obj) (pm cd doc:Value) (a:Addr) (vs:List Value) (ns:List Int),
   Ground q loose [] XP w s₀ mg mb s₁.heap->YP w s₁.heap ->
   s₁.heap.get? fa=some o->o.data = .func (docDef d.name d.params d.body d.scope pm cd doc)->s₁.heap.CodeRec cd d.name->mg d.name=some (.ref fa) ->
   s₁.heap.get? a=some { cls:= .type "list",data:= .seq vs.toArray }->IntsAre vs ns->ns.length<=n->s₁.gens=#[] ->
   codeAny (model l.prog w) callerA (.call (.ref fa) ⟨[.ref a],[]⟩) (fun r s'=>r = .ok (.ret (.bool true))/\OldK s₁.heap s'.heap/\s'.os=s₁.os/\AllBare s'.gens) s₁) :
  WalkO q loose XP YP l.row.toRowW d [] (fun f vs=>PySem.call f vs):=by
 intro w s₀ s₁ mg mb G Y fa o pm cd doc dV kV ho hd hcd hD hmg hg args vals as hpre hlay hrd hwl hlo
 obtain rfl:dV = .none:=Dflts.none hD hdf
 obtain rfl:kV = .none:=Dflts.noKw hD
 obtain ⟨a,vs,ns,rfl,rfl,hobj,hints,hlen⟩:=To hn hpre hwl
 refine enter_call (codeAny_mono (call w s₀ s₁ mg mb fa o pm cd doc a vs ns G Y ho (fd_plain hd) hcd hmg hobj hints hlen hg) fun r s' hq=>?_)
 obtain ⟨rfl,h2,h3,h4⟩:=hq
 exact ⟨.inl ⟨.bool true,.bool true,[],rfl,fun _=>rfl,.bool true,HM l _,fun _=>⟨List.Pairwise.nil,fun _ hm=>(nomatch hm)⟩⟩,h2,h3,h4⟩

section
variable {prog:Program}{w:World}{A:Around}{E:Value->Shared->Prop}{s:Shared}{K:Frag}
end
end Att
namespace L2
open PySem PySem.Spec PyProof.Rows
theorem Pc:∀ {vs:List Value} {ns:List Int},IntsAre vs ns->Vals (ns.map V.int) vs
 | _,_,.nil=> .nil
 | _,_,.cons n t h=> .cons ⟨t,rfl⟩ (Pc h)

def Only (H:Hp):Prop:=∀ b,H b=none ∨ ∃ o xs,H b=some (.frz o (.lst xs))

theorem Ld {P:Program}{w:World}{K:Fg}{mg mb:Str->Option Value}{CX:CXT}{k:Nat}{fa a:Addr}{fd:FuncData}{x:Str}{sp:Sp}{s₁:Shared}{vs:List Value}{ns:List Int}
  (KX:K.In s₁.heap) (hns:s₁.heap.Ns mainGlobals mg) (hb:s₁.heap.Ns builtinsNs mb) (hbb:∀ x:Str,x ≠ "__name__"->mb x=bootBuiltins x) (hlim:s₁.heap.NoLimit) (hg:s₁.gens=#[])
  (ha:s₁.heap.get? a=some { cls:= .type "list",data:= .seq vs.toArray }) (hi:IntsAre vs ns) (hl:ns.length<=sizeLine) (hr:Room k callerA)
  (F:∀ base:Heap,K.In base->base.Ns mainGlobals mg->FnOk P w K mg base CX k fa fd [x] sp) (hbind:∀ (s:Shared) (u:Value),BindsTo s fd ⟨[u],[]⟩ [(x,u)])
  (hsp:∀ H:Hp,Only H->SqL K H a (ns.map V.int)->sp [.ref a] H (fun v _=>v = .bl true) fun _ _ _=>False)
  (hCX:∀ H e s',CX [] H s₁ (fun _ _ _=>False) e s'->False) :
  codeAny (model P w) callerA (.call (.ref fa) ⟨[.ref a],[]⟩) (fun r s'=>r = .ok (.ret (.bool true))/\OldK s₁.heap s'.heap/\s'.os=s₁.os/\AllBare s'.gens) s₁:=by
 have rv:=Pc hi
 have lenV:=hi.length
 -- from an abstract heap in which nothing but the script may be tracked
 have core:∀ H:Hp,Only H->SqL K H a (ns.map V.int)->HOk P w H s₁.heap->(∀ b,H b ≠ none->b=a)->(H a ≠ none->K.lookup a=none) ->
   codeAny (model P w) callerA (.call (.ref fa) ⟨[.ref a],[]⟩) (fun r s'=>r = .ok (.ret (.bool true))/\OldK s₁.heap s'.heap/\s'.os=s₁.os/\AllBare s'.gens) s₁:=by
  intro H hO hS hok hA hK
  have base_of:∀ {b:Addr} {o:Obj},s₁.heap.get? b=some o->H b=none->(jG s₁.heap H).get? b=some o:=fun e n=>DW e n
  have noA:∀ {b:Addr} {o:Obj} {es:Array DictEntry} {ep:Nat},s₁.heap.get? b=some o->o.data = .dict es ep->H b=none:=fun {b o es ep} e d=>by
   cases q:H b with
   | none=>rfl
   | some u =>
    have e':b=a:=hA b (by rw [q];simp)
    subst e'
    rw [ha] at e;cases e
    have d':Data.seq vs.toArray _=Data.dict es ep:=d
    cases d'
  have nsK:∀ {b:Addr} {m:Str->Option Value},s₁.heap.Ns b m->(jG s₁.heap H).Ns b m:=fun {b m} ⟨o,es,ep,e,d,r⟩=>⟨o,es,ep,base_of e (noA e d),d,r⟩
  have hKb:K.In (jG s₁.heap H):=fun b o e=>base_of (KX b o e) (by
   cases q:H b with
   | none=>rfl
   | some u =>
    have e':b=a:=hA b (by rw [q];simp)
    subst e'
    rw [hK (by rw [q];simp)] at e;cases e)
  have hM:Mod K mg (jG s₁.heap H):=⟨hKb,nsK hns,⟨mb,nsK hb,hbb⟩,let ⟨mc,h1,h2⟩:=hlim;⟨mc,nsK h1,h2⟩⟩
  have e0:Env0 P w K mg (jG s₁.heap H) callerA [] s₁ H:=⟨rfl,hM,fun b o e=>LL e,Nat.le_of_eq (DX _ _),trivial,fun b hb=>absurd (show b ∈ ([]:List Addr) from hb) (by simp),hok,.of_eq hg⟩
  refine codeAny_mono ((F _ hKb (nsK hns)).run callerA [] s₁ H ⟨[.ref a],[]⟩ [.ref a] [.ref a] _ _ hr e0 (hbind s₁ (.ref a)) (.cons rfl .nil) (hsp H hO hS)) fun r s' h=>?_
  cases r with
  | error e=>exact (hCX H e s' h).elim
  | ok fl =>
   cases fl with
   | next=>exact False.elim h
   | brk=>exact False.elim h
   | cont=>exact False.elim h
   | ret u =>
    obtain ⟨v,H',os,bare,un,hok',r',q⟩:=h
    have q':v = .bl true:=q
    subst q'
    obtain rfl:u=Value.bool true:=r'
    refine ⟨rfl,OldK.of_keep fun b o e=>?_,os,bare⟩
    cases q:H b with
    | none=>exact un.keep b o e q (by intro z;exact absurd (show b ∈ ([]:List Addr) from z) (by simp)) (by simp)
    | some u =>
     rcases hO b with z | ⟨ob,xs,z⟩
     ·rw [q] at z;cases z
     ·have z2:=un.frzs b ob _ z
      obtain ⟨e1,_⟩:=hok b _ z
      obtain ⟨e2,_⟩:=hok' b _ z2
      rw [e] at e1;cases e1
      exact e2
 cases hk:K.lookup a with
 | some o =>
  -- the script is one of the module's own objects
  have e:=KX a o hk
  rw [ha] at e
  cases e
  refine core (fun _=>none) (fun _=> .inl rfl) (.inr ⟨_,vs.toArray,_,hk,rfl,rfl,rfl,by rw [List.size_toArray,lenV];exact hl,by simpa using rv⟩) (fun b u z=>by have z':(none:Option HO)=some u:=z;cases z') (fun b z=>absurd rfl z) fun z=>absurd rfl z
 | none =>
  refine core (fun b=>if b=a then some (.frz { cls:= .type "list",data:= .seq vs.toArray } (.lst (ns.map V.int))) else none) (fun b=>?_) (.inl (.inr ⟨{ cls:= .type "list",data:= .seq vs.toArray },if_pos rfl⟩)) (fun b u z=>?_) (fun b z=>?_) fun _=>hk
  ·by_cases hb:b=a
   ·exact .inr ⟨_,_,if_pos hb⟩
   ·exact .inl (if_neg hb)
  ·by_cases hb:b=a
   ·have z':=(if_pos hb).symm.trans z
    cases z'
    subst hb
    exact ⟨ha,by rw [List.length_map];exact hl,vs,_,rv,ha⟩
   ·have z':=(if_neg hb).symm.trans z
    cases z'
  ·by_cases hb:b=a
   ·exact hb
   ·exact absurd (if_neg hb) z
end L2
namespace L2
open PySem PySem.Spec PyProof.Rows
theorem SK {l:PySem.W.OpenLaw}{n k:Nat}{q:Program}{loose:List Str}{XP:(Str->Option Value)->Heap->Prop}{YP:World->Heap->Prop}{d:DefRec}{K:Params->Fg}{CX:World->CXT}{sp:World->Sp}{x:Str}
  (hn:l.most=some n) (hn2:n<=sizeLine) (hdf:d.params.defaults=[]) (hr:Room k callerA)
  (hY:∀ (w:World) (h:Heap),YP w h->(K w.params).In h)
  (F:∀ (w:World) (mg:Str->Option Value) (fa:Addr) (h:Heap),(K w.params).In h->h.Ns mainGlobals mg->mg d.name=some (.ref fa) ->
   ∃ fd:FuncData,(∀ (s:Shared) (u:Value),BindsTo s fd ⟨[u],[]⟩ [(x,u)]) /\
    ∀ base:Heap,(K w.params).In base->base.Ns mainGlobals mg->FnOk l.prog w (K w.params) mg base (CX w) k fa fd [x] (sp w))
  (hsp:∀ (w:World) (H:Hp) (a:Addr) (ns:List Int),ns.length<=n->Only H->SqL (K w.params) H a (ns.map V.int)->sp w [.ref a] H (fun v _=>v = .bl true) fun _ _ _=>False)
  (hCX:∀ (w:World) (H:Hp) (s:Shared) (e:Value) (s':Shared),CX w [] H s (fun _ _ _=>False) e s'->False) :
  PySem.W.WalkO q loose XP YP l.row.toRowW d [] (fun f vs=>PySem.call f vs):=by
 refine Att.attach_call hn hdf fun w s₀ s₁ mg mb fa o pm cd doc a vs ns G Y ho hd hcd hmg hobj hints hlen hg=>?_
 have KX:=hY w _ Y
 obtain ⟨fd,hb,hF⟩:=F w mg fa _ KX G.T.g hmg
 exact Ld KX G.T.g G.T.b G.T.builtins G.T.nolimit hg hobj hints (Nat.le_trans hlen hn2) hr hF hb (fun H hO hS=>hsp w H a ns hlen hO hS) fun H e s'=>hCX w H s₁ e s'
end L2
namespace L2
open PySem PySem.Spec PyProof.Rows
def jj (s:Stmt)(j:Nat):Stmt:=match s with
 | .ClassDef _ _ _ body _ _ _ _ _ _ _=>body.getD j (.Pass ⟨0,0,0,0⟩)
 | _=> .Pass ⟨0,0,0,0⟩
def zx (s:Stmt):Arguments:=match s with
 | .FunctionDef _ a _ _ _ _ _ _ _ _=>a
 | _=>{ posonlyargs:=[],args:=[],vararg:=none,kwonlyargs:=[],kw_defaults:=[],kwarg:=none,defaults:=[] }
def qy (s:Stmt):List Stmt:=match s with
 | .FunctionDef _ _ b _ _ _ _ _ _ _=>b
 | _=>[]
def j5 (s:Stmt):Scope:=match s with
 | .FunctionDef _ _ _ _ _ _ sc _ _ _=>sc
 | _=>{ kind:= .function,names:=[],isGenerator:=false,isCoroutine:=false }

abbrev v7:CXT:=fun _ _ _ _ _ _=>False
abbrev E0:XK:=fun _ _ _=>False
theorem Ja {X:Cx}:zI v7 X E0:=fun _ _ _ _ _ _ _ h=>h.elim

structure Fun (K:Fg)(x qual:Str)(st:Stmt)(f:Addr)(fd:FuncData):Prop where
 ex:∃ (oc:Value) (od:Option Addr) (kV doc pm:Value) (an:Option Addr) (cdv ct:Value) (osl:Array (Option Value)),
  fd=PySem.W.fnOf x qual (zx st) (qy st) (j5 st) .none kV doc pm an cdv ct/\K.lookup f=some ⟨oc,od,.func fd,osl⟩/\PySem.W.codeIn K cdv qual=true
 kp:PySem.W.keepIn K (.ref f)=true
section
variable {P:Program}{w:World}{K:Fg}{mg:Str->Option Value}{base:Heap}
theorem Fun.ok {x qual:Str}{st:Stmt}{f:Addr}{fd:FuncData}{N ps:List Str}{k:Nat}{sp:Sp}(F:Fun K x qual st f fd)(S:v9 N ps (j5 st))(len:∀ vs H Q E,sp vs H Q E->vs.length=ps.length)
  (hbody:∀ (cdv:Value) (A:Around) (outer:List Env) (s:Shared) (H:Hp) (vs:List V) (Q:VK) (E:XK),Room k (A.deeper (envOfC qual (j5 st) s.heap.objs.size f cdv))->sp vs H Q E ->
   ∃ t,PSs (xh v7 P w K mg base N qual (j5 st) f cdv A outer s H E).nox (qy st) t/\t { nx:=fun _ H'=>Q .non H',rt:=Q } (start N vs) H):FnOk P w K mg base v7 (k + 1) f fd ps sp:=by
 obtain ⟨oc,od,kV,doc,pm,an,cdv,ct,osl,rfl,lk,hcd⟩:=F.ex
 refine Wm lk hcd S len fun A outer s H vs Q E hr hsp=>?_
 obtain ⟨t,h,q⟩:=hbody cdv A outer s H vs Q E hr hsp
 exact ⟨t,h.nox,q⟩
theorem Fun.binds {x qual:Str}{st:Stmt}{f:Addr}{fd:FuncData}{ps:List Str}(F:Fun K x qual st f fd)
  (h:∀ (kV doc pm:Value) (an:Option Addr) (cdv ct:Value) (us:List Value),us.length=ps.length->bindArgs (PySem.W.fnOf x qual (zx st) (qy st) (j5 st) .none kV doc pm an cdv ct) ⟨us,[]⟩=pure (ps.zip us)):Binds K fd ps []:=by
 obtain ⟨oc,od,kV,doc,pm,an,cdv,ct,osl,rfl,lk,hcd⟩:=F.ex
 exact .all (h kV doc pm an cdv ct)
theorem u4 {x qual:Str}{st:Stmt}{f:Addr}{oc:Value}{od an:Option Addr}{osl:Array (Option Value)}{kV doc pm cdv ct:Value}(l:K.lookup f=some ⟨oc,od,.func (PySem.W.fnOf x qual (zx st) (qy st) (j5 st) .none kV doc pm an cdv ct),osl⟩)
  (c:PySem.W.codeIn K cdv qual=true) (k:PySem.W.keepIn K (.ref f)=true):Fun K x qual st f (PySem.W.fnOf x qual (zx st) (qy st) (j5 st) .none kV doc pm an cdv ct):=⟨⟨oc,od,kV,doc,pm,an,cdv,ct,osl,rfl,l,c⟩,k⟩
end
theorem wQ {A:Around}{k:Nat}(hr:Room k A):A.units + 1 < cLine:=Nat.lt_of_le_of_lt (Nat.add_le_add_left (by decide:1<=64) _) hr.units
theorem XQ {n:Nat}(h:n<=1000):n < sizeLine:=Nat.lt_of_le_of_lt h (by decide)

section
variable {X:Cx}
theorem pv (i:Nat){x:Str}{pos:Pos}(hN:X.N[i]?=some x:=by rfl)(hv:Vis X.env.scope x:=by first | exact Or.inl rfl | exact Or.inr (Or.inl rfl) | exact Or.inr (Or.inr rfl))(hd:(x == ("__debug__":Str))=false:=by decide)
  (hcd:(x == ("__classdict__":Str))=false:=by decide):PE X (.Name x pos) (xI i):=HA hN hv hd hcd
theorem CB:CallR X (.builtin "len") (fun xs H Q=>∃ a kvs,xs=[V.ref a]/\H a=some (.dK kvs)/\Q (.int kvs.length) H):=by
 intro pins s σ H xs us Q I r h
 obtain ⟨a,kvs,rfl,ha,q⟩:=h
 obtain ⟨u,rfl,ru⟩:=zY r
 cases ru
 exact d_len I (.inl ha) fun t s' I'=>⟨.int kvs.length,H,I',⟨t,rfl⟩,q⟩
end
theorem o8 {A B:Prop}(h:B):if false=true then A else B:=by
 rw [if_neg Bool.false_ne_true]
 exact h
theorem qz {A B:Prop}(h:A):if true=true then A else B:=by
 rw [if_pos rfl]
 exact h
theorem ite2 {c A B:Prop}[Decidable c](h1:c->A)(h2:¬ c->B):if c then A else B:=by
 by_cases h:c
 ·rw [if_pos h]
  exact h1 h
 ·rw [if_neg h]
  exact h2 h
def Same (H H':Hp):Prop:=∀ b o,H b=some o->H' b=some o
theorem Same.refl (H:Hp):Same H H:=fun _ _ h=>h
theorem Same.trans {H H1 H2:Hp}(a:Same H H1)(b:Same H1 H2):Same H H2:=fun c o h=>b c o (a c o h)
theorem Same.free {H H':Hp}(e:Same H H'){l:Addr}(h:H' l=Option.none):H l=Option.none:=by
 cases q:H l with
 | none=>rfl
 | some o =>
  rw [e l o q] at h
  cases h
theorem Same.seq {K:Fg}{H H':Hp}{a:Addr}{xs:List V}(e:Same H H')(h:SqL K H a xs):SqL K H' a xs:=by
 rcases h with (h | ⟨o,h⟩) | h
 ·exact .inl (.inl (e _ _ h))
 ·exact .inl (.inr ⟨o,e _ _ h⟩)
 ·exact .inr h

section
variable {κ:Type}[DecidableEq κ]
end
end L2

set_option maxHeartbeats 4000000
set_option synthInstance.maxHeartbeats 4000000
set_option synthInstance.maxSize 4096
namespace L2
open PySem PySem.Spec PyProof.Rows
section
variable {prog:Program}{w:World}{A:Around}{R:Result->Shared->Prop}{s:Shared}
theorem CT {elt target iter:Expr}{ifs:List Expr}{scope:Scope}{pos:Pos}{it acc:Value}{env:Env}(I:Nat->Shared->Prop)
  (turn:∀ n s,I n s->wpAny (model prog w) A (pyNext it) (fun r s₁=>match r with
   | none=>R (.ok .next) s₁
   | some v=>wpAny (model prog w) A (letOwnedTupleGo target it v) (fun _ s₀=>wpAny (model prog w) A (assign target env v) (fun _ s₂ =>
     wpAny (model prog w) A (forIn ifs true fun c r=>if r=true then do let ok <- isTrue c env (eval c env);pure (ForInStep.yield ok) else pure (ForInStep.yield r)) (fun ok s₃ =>
      if ok=true then wpAny (model prog w) A (eval elt env) (fun x s₄ =>
       wpAny (model prog w) A (call (.builtin "list.append") [acc,x]) (fun _ s₅=>∃ m,m < n/\I m s₅) (fun _ _=>False) s₄) (fun _ _=>False) s₃
      else ∃ m,m < n/\I m s₃) (fun _ _=>False) s₂) (fun _ _=>False) s₀) (fun _ _=>False) s₁) (fun _ _=>False) s)
  (n:Nat) (h:I n s) :
  codeAny (model prog w) A (.compLoop (.ListComp elt [⟨target,iter,ifs,0⟩] scope pos) 0 it acc env) R s:=by
 refine codeAny_loop rfl I (fun n s hI=>?_) n h
 show wpAny _ A ((compTurn (.ListComp elt [⟨target,iter,ifs,0⟩] scope pos) 0 it acc env).onRaise (fun x=>do noteFrame x env;theTreesLotGoes x)) _ _ s
 refine wpAny_noted (wpAny_noRaise ?_)
 rw [compTurn_list]
 refine wpAny_bind (wpAny_standAt (wpAny_bind (j3 (turn n s hI) fun r s₁ h₁=>?_)))
 cases r with
 | none=>exact wpAny_pure h₁
 | some v =>
  refine wpAny_bind (j3 h₁ fun _ s₀ h₀=>?_)
  refine wpAny_bind (j3 h₀ fun _ s₂ h₂=>wpAny_bind (j3 h₂ fun ok s₃ h₃=>?_))
  cases ok with
  | false=>exact wpAny_pure ⟨rfl,h₃⟩
  | true=>exact wpAny_bind (wpAny_bind (j3 h₃ fun x s₄ h₄=>wpAny_bind (j3 h₄ fun _ s₅ h₅=>wpAny_pure (wpAny_pure ⟨rfl,h₅⟩))))
end
theorem GN {α β:Type}{f:α->β->Sem (ForInStep β)}(g:α->β->β):∀ (l:List α) (b:β),(∀ a ∈ l,∀ b,f a b=pure (.yield (g a b)))->forIn l b f=(pure (l.foldl (fun b a=>g a b) b):Sem β)
 | [],_,_=>rfl
 | x::l,b,h=>by
  rw [List.forIn_cons,h x List.mem_cons_self,pure_bind]
  exact GN g l (g x b) fun y hy=>h y (List.mem_cons_of_mem _ hy)

def jE (env:Env)(y:Str × NameKind)(cs:List (Str × Addr)):List (Str × Addr):=if y.2 == .free then (y.1,(env.cells.lookup y.1).getD 0)::cs else cs
theorem Go (env:Env):∀ (l:List (Str × NameKind)) (cs:List (Str × Addr)),(∀ y ∈ l,y.2 = .free->∃ c,env.cells.lookup y.1=some c)->(∀ x c,cs.lookup x=some c->env.cells.lookup x=some c) ->
  (∀ x c,(l.foldl (fun b a=>jE env a b) cs).lookup x=some c->env.cells.lookup x=some c)
 | [],_,_,h=>h
 | (n,k)::l,cs,hl,h=>by
  refine Go env l _ (fun y hy=>hl y (List.mem_cons_of_mem _ hy)) fun x c e=>?_
  unfold jE at e
  dsimp only at e
  cases hk:(k == NameKind.free) with
  | false =>
   rw [hk,if_neg Bool.false_ne_true] at e
   exact h x c e
  | true =>
   rw [hk,if_pos rfl] at e
   obtain ⟨c0,e0⟩:=hl (n,k) List.mem_cons_self (by simpa using hk)
   cases hx:x == n with
   | true =>
    rw [List.lookup_cons,hx] at e
    have hx':x=n:=by simpa using hx
    subst hx'
    have e':(List.lookup x env.cells).getD 0=c:=Option.some.inj e
    have e0':List.lookup x env.cells=some c0:=e0
    rw [e0'] at e'
    rw [e0',<- e']
    rfl
   | false =>
    rw [List.lookup_cons,hx] at e
    exact h x c e
theorem Gp (env:Env)(x:Str):∀ (l:List (Str × NameKind)) (cs:List (Str × Addr)),(∃ c,cs.lookup x=some c)->∃ c,(l.foldl (fun b a=>jE env a b) cs).lookup x=some c
 | [],_,h=>h
 | (n,k)::l,cs,h=>by
  refine Gp env x l _ ?_
  unfold jE
  dsimp only
  split
  ·rw [List.lookup_cons]
   cases hx:x == n with
   | true=>exact ⟨_,rfl⟩
   | false=>exact h
  ·exact h
theorem Gn (env:Env):∀ (l:List (Str × NameKind)) (cs:List (Str × Addr)),∀ y ∈ l,y.2 = .free->∃ c,(l.foldl (fun b a=>jE env a b) cs).lookup y.1=some c
 | [],_,_,h,_=>nomatch h
 | z::l,cs,y,h,hf=>by
  rcases List.mem_cons.mp h with e | h
  ·subst e
   refine Gp env y.1 l _ ?_
   unfold jE
   dsimp only
   rw [hf,if_pos (by rfl),List.lookup_cons,beq_self_eq_true]
   exact ⟨_,rfl⟩
  ·exact Gn env l _ y h hf
theorem Gq {scope:Scope}{env:Env}(h:∀ y ∈ scope.names,y.2 = .free->∃ c,env.cells.lookup y.1=some c) :
  ∃ cl,closureFor scope env=pure cl/\(∀ x c,cl.lookup x=some c->env.cells.lookup x=some c)/\∀ y ∈ scope.names,y.2 = .free->∃ c,cl.lookup y.1=some c:=by
 refine ⟨scope.names.foldl (fun b a=>jE env a b) [],?_,Go env _ _ h (fun x c e=>by cases e),Gn env _ _⟩
 simp only [closureFor]
 rw [GN (jE env) scope.names [] (fun y hy b=>?_)]
 ·rfl
 ·obtain ⟨n,k⟩:=y
  unfold jE
  cases hk:(k == NameKind.free) with
  | false=>simp only [hk,Bool.false_eq_true,if_false] <;> rfl
  | true =>
   obtain ⟨c,e⟩:=h (n,k) hy (by simpa using hk)
   have e':List.lookup n env.cells=some c:=e
   simp only [hk,if_true,cellOf,e']
   rfl

theorem Bh (env:Env)(n:Str)(k:NameKind)(r:List (Str × NameKind))(x:Str) :
  ((List.map (fun (n,k)=>if (k == NameKind.free && env.scope.kind == .function && env.kindOf n == some .cell) then (n,NameKind.cell) else (n,k)) ((n,k)::r)).lookup x) =
   (if x == n then some (if (k == NameKind.free && env.scope.kind == .function && env.kindOf n == some .cell) then NameKind.cell else k) else
    (List.map (fun (n,k)=>if (k == NameKind.free && env.scope.kind == .function && env.kindOf n == some .cell) then (n,NameKind.cell) else (n,k)) r).lookup x):=by
 rw [List.map_cons]
 show List.lookup x ((if (k == NameKind.free && env.scope.kind == .function && env.kindOf n == some .cell)=true then (n,NameKind.cell) else (n,k))::_)=_
 by_cases hc:(k == NameKind.free && env.scope.kind == .function && env.kindOf n == some .cell)=true
 ·rw [if_pos hc,if_pos hc,List.lookup_cons]
  cases x == n <;> rfl
 ·rw [if_neg hc,if_neg hc,List.lookup_cons]
  cases x == n <;> rfl
theorem Bj {env:Env}{x:Str}{k:NameKind}:∀ {names:List (Str × NameKind)},
  (names.map fun (n,k)=>if (k == NameKind.free && env.scope.kind == .function && env.kindOf n == some .cell) then (n,NameKind.cell) else (n,k)).lookup x=some k ->
  ∃ k',names.lookup x=some k'/\(k'=k ∨ (k' = .free/\k = .cell))
 | [],h=>by simp at h
 | (n,q)::r,h=>by
  rw [Bh] at h
  rw [List.lookup_cons]
  cases hx:x == n with
  | true =>
   rw [hx,if_pos rfl] at h
   have h':=Option.some.inj h
   refine ⟨q,rfl,?_⟩
   by_cases hc:(q == NameKind.free && env.scope.kind == .function && env.kindOf n == some .cell)=true
   ·rw [if_pos hc] at h'
    have hq:(q == NameKind.free)=true:=by
     cases z:(q == NameKind.free) with
     | true=>rfl
     | false=>rw [z] at hc;simp at hc
    exact .inr ⟨by simpa using hq,h'.symm⟩
   ·rw [if_neg hc] at h'
    exact .inl h'
  | false =>
   rw [hx,if_neg Bool.false_ne_true] at h
   exact Bj h
theorem Bi {env:Env}{x:Str}:∀ {names:List (Str × NameKind)},names.lookup x=some .free ->
  (names.map fun (n,k)=>if (k == NameKind.free && env.scope.kind == .function && env.kindOf n == some .cell) then (n,NameKind.cell) else (n,k)).lookup x=some .cell ∨
  (names.map fun (n,k)=>if (k == NameKind.free && env.scope.kind == .function && env.kindOf n == some .cell) then (n,NameKind.cell) else (n,k)).lookup x=some .free
 | [],h=>by simp at h
 | (n,q)::r,h=>by
  rw [Bh]
  rw [List.lookup_cons] at h
  cases hx:x == n with
  | true =>
   rw [hx] at h
   have h':q = .free:=Option.some.inj h
   rw [if_pos rfl]
   by_cases hc:(q == NameKind.free && env.scope.kind == .function && env.kindOf n == some .cell)=true
   ·rw [if_pos hc];exact .inl rfl
   ·rw [if_neg hc,h'];exact .inr rfl
  | false =>
   rw [hx] at h
   rw [if_neg Bool.false_ne_true]
   exact Bi h

def r9 (cap:List (Option Nat))(σ:St):St:=cap.map fun o=>o.bind fun i=>(σ[i]?).join
structure wD (X:Cx)(N':List Str)(cap:List (Option Nat))(sc:Scope):Prop where
 kind:sc.kind = .function
 nocell:∀ y ∈ sc.names,y.2 ≠ .cell
 names:∀ y ∈ sc.names,y.2 = .local->sc.names.lookup y.1=some .local
 free:∀ y ∈ sc.names,y.2 = .free->X.env.kindOf y.1=some .cell ∨ X.env.kindOf y.1=some .free
 len:cap.length=N'.length
 cap:∀ (j i:Nat),cap[j]?=some (some i)->∃ x,N'[j]?=some x/\X.N[i]?=some x/\sc.names.lookup x=some .free
def GZ:Option NameKind->Bool
 | some .cell=>true
 | some .free=>true
 | _=>false
theorem Lb {k:Option NameKind}(h:GZ k=true):k=some .cell ∨ k=some .free:=by
 cases k with
 | none=>cases h
 | some k=>cases k <;> first | exact .inl rfl | exact .inr rfl | cases h
def ZW (names:List (Str × NameKind))(kd:Str->Option NameKind)(y:Str × NameKind):Bool :=
 match y.2 with
 | .cell=>false
 | .local=>names.lookup y.1 == some .local
 | .free=>GZ (kd y.1)
 | _=>true
def jd (N:List Str)(sc:Scope):List Str->List (Option Nat)->Bool
 | [],[]=>true
 | _::r,none::c=>jd N sc r c
 | x::r,some i::c=>N[i]? == some x && (sc.names.lookup x == some .free && jd N sc r c)
 | _,_=>false
theorem VP {N:List Str}{sc:Scope}:∀ {xs:List Str} {c:List (Option Nat)},jd N sc xs c=true->c.length=xs.length
 | [],[],_=>rfl
 | _::r,none::c,h=>by
  have h':jd N sc r c=true:=h
  simp [VP h']
 | x::r,some i::c,h=>by
  have h':(N[i]? == some x && (sc.names.lookup x == some .free && jd N sc r c))=true:=h
  simp only [Bool.and_eq_true] at h'
  simp [VP h'.2.2]
 | [],_::_,h=>by cases h
 | _::_,[],h=>by cases h
theorem VO {N:List Str}{sc:Scope}:∀ {xs:List Str} {c:List (Option Nat)},jd N sc xs c=true->∀ (j i:Nat),c[j]?=some (some i)->∃ x,xs[j]?=some x/\N[i]?=some x/\sc.names.lookup x=some .free
 | [],[],_,j,i,e=>by simp at e
 | _::r,none::c,h,0,i,e=>by simp at e
 | _::r,none::c,h,j + 1,i,e=>by
  have h':jd N sc r c=true:=h
  obtain ⟨x,h1,h2⟩:=VO h' j i (by simpa using e)
  exact ⟨x,by simpa using h1,h2⟩
 | x::r,some k::c,h,0,i,e=>by
  have h':(N[k]? == some x && (sc.names.lookup x == some .free && jd N sc r c))=true:=h
  simp only [Bool.and_eq_true] at h'
  have e':k=i:=by simpa using e
  subst e'
  exact ⟨x,rfl,by simpa using h'.1,by simpa using h'.2.1⟩
 | x::r,some k::c,h,j + 1,i,e=>by
  have h':(N[k]? == some x && (sc.names.lookup x == some .free && jd N sc r c))=true:=h
  simp only [Bool.and_eq_true] at h'
  obtain ⟨x',h1,h2⟩:=VO h'.2.2 j i (by simpa using e)
  exact ⟨x',by simpa using h1,h2⟩
 | [],_::_,h,_,_,_=>by cases h
 | _::_,[],h,_,_,_=>by cases h
theorem qu {X:Cx}{N':List Str}{cap:List (Option Nat)}{sc:Scope}(h1:sc.kind = .function)(h2:(sc.names.all fun y=>ZW sc.names X.env.kindOf y)=true)(h3:jd X.N sc N' cap=true):wD X N' cap sc:=by
 have h2':=List.all_eq_true.mp h2
 refine ⟨h1,fun y hy e=>?_,fun y hy e=>?_,fun y hy e=>?_,VP h3,VO h3⟩
 ·have q:=h2' y hy
  unfold ZW at q
  rw [e] at q;cases q
 ·have q:=h2' y hy
  unfold ZW at q
  rw [e] at q
  simpa using q
 ·have q:=h2' y hy
  unfold ZW at q
  rw [e] at q
  exact Lb q

def xg (X:Cx)(N':List Str)(sc:Scope)(cl:List (Str × Addr))(C:Addr)(s:Shared)(H:Hp)(fp:List Addr)(pn:List (Addr × Obj)):Cx where
 prog:=X.prog
 w:=X.w
 K:=X.K
 mg:=X.mg
 base:=X.base
 A:=X.A
 N:=N'
 s₀:=s
 H₀:=H
 env:=compEnvC sc cl C X.env
 outer:=X.stack
 stack:=X.stack
 ex:=fp
 fn:=fun _=>false
 calm:=X.calm
 pn:=pn
 xe:=fun _ _=>False

section
variable {X:Cx}{pins:List (Addr × Obj)}{σ:St}{H:Hp}{s:Shared}{h1:Heap}{N':List Str}{cap:List (Option Nat)}{sc:Scope}{cl:List (Str × Addr)}{fp:List Addr}{C D:Addr}
theorem Dc (I:Inv X pins σ H s)(S:wD X N' cap sc)(hc1:∀ x c,cl.lookup x=some c->X.env.cells.lookup x=some c)(hc2:∀ y ∈ sc.names,y.2 = .free->∃ c,cl.lookup y.1=some c)
  (hf:∀ b ∈ fp,xK X pins H b) (ho:∀ b ∈ fp,b < s.heap.objs.size) (hC:s.heap.objs.size<=C):(xg X N' sc cl C s H fp (X.pn++pins)).Ok where
 mod:=I.ok.mod
 kind:=S.kind
 glob:=I.ok.glob
 blt:=I.ok.blt
 above:=hC
 inj:=fun x y c e1 e2=>I.ok.inj x y c (hc1 x c e1) (hc1 y c e2)
 has:=fun x hx=>by
  have key:∀ k,(relabel sc X.env).names.lookup x=some k->(k = .cell ∨ k = .free)->∃ c,cl.lookup x=some c:=fun k e hk=>by
   obtain ⟨k',e',q⟩:=Bj e
   have hm:=PySem.mem_of_lookup e'
   have hfree:k' = .free:=by
    rcases q with q | q
    ·rcases hk with z | z
     ·exact absurd (q.trans z) (S.nocell _ hm)
     ·exact q.trans z
    ·exact q.1
   exact hc2 (x,k') hm hfree
  rcases hx with e | e
  ·exact key _ e (.inl rfl)
  ·exact key _ e (.inr rfl)
 cab:=fun x c hx _=>by cases hx
 hd:=I.ok.hd
 frames:=I.ok.frames
 stk:= .inl rfl
 exf:=fun b hb=>⟨Nat.ne_of_lt (Nat.lt_of_lt_of_le (ho b hb) hC),fun x c e=>(hf b hb).2.2.2.2.1 x c (hc1 x c e)⟩
 bs:=I.bs
 bsz:=Nat.le_trans I.ok.bsz I.sz
 noex:=fun b o e hb=>by
  rcases (hf b hb).2.2.2.1 with z | z
  ·exact I.ok.noex b o e z
  ·exact absurd (Nat.lt_of_lt_of_le (Heap.lt_size e) (Nat.le_trans I.ok.bsz z)) (Nat.lt_irrefl _)
 exfs:=fun b hb hz=>by
  rcases List.mem_cons.mp (I.stkSub b hz) with e | e
  ·exact (hf b hb).2.1 e
  ·exact (hf b hb).2.2.1 e
 funs:=I.stack
 frf:=I.stkFree

theorem Mu {m0:Str->Option Value}{o:Obj}(I:Inv X pins σ H s)(S:wD X N' cap sc)(hc1:∀ x c,cl.lookup x=some c->X.env.cells.lookup x=some c)(hc2:∀ y ∈ sc.names,y.2 = .free->∃ c,cl.lookup y.1=some c)
  (hf:∀ b ∈ fp,xK X pins H b) (ho:∀ b ∈ fp,b < s.heap.objs.size) (hD:s.heap.objs.size<=D) (hC:D < C) (hDo:h1.get? D=some o) (hoc:∀ v,o.data ≠ .cell v)
  (hns:h1.Ns C m0) (hk:∀ b o,s.heap.get? b=some o->h1.get? b=some o) (t:Nat) :
  Inv (xg X N' sc cl C s H fp (X.pn++pins)) [(D,o)] (r9 cap σ) H { s with heap:=h1,toks:=t }:=by
 have hCs:s.heap.objs.size<=C:=Nat.le_trans hD (Nat.le_of_lt hC)
 have lt_s:∀ b o,s.heap.get? b=some o->b ≠ C:=fun b o e=>Nat.ne_of_lt (Nat.lt_of_lt_of_le (Heap.lt_size e) hCs)
 refine ⟨Dc I S hc1 hc2 hf ho hCs,rfl,I.bare,Un.kept hk,⟨m0,hns,fun j x v e1 e2 e3=>?_⟩,fun x c e=>?_,I.hok.fresh hCs,fun x c e=>I.freeC x c (hc1 x c e),fun p hp=>?_,I.hok.kept hk,?_⟩
 ·obtain ⟨i,hi,hσ⟩:∃ i,cap[j]?=some (some i)/\σ[i]?=some (some v):=by
   unfold r9 at e2
   rw [List.getElem?_map] at e2
   cases hc:cap[j]? with
   | none=>rw [hc] at e2;cases e2
   | some o' =>
    rw [hc] at e2
    have e2':(o'.bind fun i=>(σ[i]?).join)=some v:=Option.some.inj e2
    cases o' with
    | none=>cases e2'
    | some i =>
     refine ⟨i,rfl,?_⟩
     have e3':(σ[i]?).join=some v:=e2'
     cases hs:σ[i]? with
     | none=>rw [hs] at e3';cases e3'
     | some q=>rw [hs] at e3';exact congrArg some e3'
  obtain ⟨x',n1,n2,n3⟩:=S.cap j i hi
  have e1':N'[j]?=some x:=e1
  rw [n1] at e1'
  obtain rfl:x'=x:=Option.some.inj e1'
  have hkd:=S.free (x',.free) (PySem.mem_of_lookup n3) rfl
  obtain ⟨m,_,hl⟩:=I.loc
  obtain ⟨u,r,l⟩:=hl i x' v n2 hσ (by
   rcases hkd with z | z
   ·exact .inr (.inl z)
   ·exact .inr (.inr z))
  refine ⟨u,r,?_⟩
  rcases l with ⟨l1,_⟩ | ⟨_,c,ec,hcell⟩
  ·rcases hkd with z | z
   ·exact absurd (l1.symm.trans z) (by simp)
   ·exact absurd (l1.symm.trans z) (by simp)
  ·obtain ⟨c',ec'⟩:=hc2 (x',.free) (PySem.mem_of_lookup n3) rfl
   have q:=hc1 x' c' ec'
   rw [ec] at q
   obtain rfl:c=c':=Option.some.inj q
   refine .inr ⟨Bi n3,c,ec',?_⟩
   obtain ⟨oc,hoc',hd⟩:=hcell
   exact ⟨oc,hk _ _ hoc',hd⟩
 ·obtain ⟨v,oc,hoc',hd⟩:=I.cell x c (hc1 x c e)
  exact ⟨v,oc,hk _ _ hoc',hd⟩
 ·rcases List.mem_append.mp hp with hp | hp
  ·obtain ⟨e,n,ne,nf,d⟩:=I.pin p hp
   refine ⟨hk _ _ e,n,lt_s _ _ e,fun hz=>?_,d⟩
   rcases List.mem_cons.mp (I.stkSub _ hz) with e' | e'
   ·exact ne e'
   ·exact nf e'
  ·have e:p=(D,o):=by simpa using hp
   subst e
   refine ⟨hDo,I.hok.fresh hD,Nat.ne_of_lt hC,fun hz=>?_,hoc⟩
   rcases List.mem_cons.mp (I.stkSub _ hz) with e' | e'
   ·exact absurd (Nat.lt_of_lt_of_le I.lt hD) (by rw [show X.env.locals=D from e'.symm];exact Nat.lt_irrefl _)
   ·exact I.nofs hD e'
 ·unfold r9
  rw [List.length_map]
  exact S.len
end
end L2
namespace L2
open PySem PySem.Spec PyProof.Rows
structure Wk (σ σ':St):Prop where
 len:σ.length=σ'.length
 at':∀ (i:Nat) v,σ[i]?=some (some v)->σ'[i]?=some (some v)
theorem Wk.refl (σ:St):Wk σ σ:=⟨rfl,fun _ _ h=>h⟩
theorem Wk.set {σ σ':St}{i:Nat}{o:Option V}(w:Wk σ σ')(h:σ[i]?=some none):Wk σ (σ'.set i o):=by
 refine ⟨by rw [List.length_set];exact w.len,fun j v e=>?_⟩
 have ne:i ≠ j:=fun z=>by rw [<- z,h] at e;cases e
 rw [List.getElem?_set_ne ne]
 exact w.at' j v e
theorem Wk.one {σ:St}{i:Nat}{o:Option V}(h:σ[i]?=some none):Wk σ (σ.set i o):=(Wk.refl σ).set h

def PTs (X:Cx)(ifs:List Expr)(t:TT):Prop :=
 ∀ (pins:List (Addr × Obj)) (s:Shared) (σ:St) (H:Hp) (Q:Bool->Hp->Prop),Inv X pins σ H s->t σ H Q ->
  wpAny (model X.prog X.w) X.A (forIn ifs true fun c r=>if r=true then do let ok <- isTrue c X.env (eval c X.env);pure (ForInStep.yield ok) else pure (ForInStep.yield r)) (TP X pins σ Q) X.xe s
def tYes:TT:=fun _ H Q=>Q true H
theorem qR {X:Cx}:PTs X [] tYes:=fun _ _ _ H _ I h=>wpAny_tests_nil ⟨H,I,h⟩
theorem Je {X:Cx}{c:Expr}{t:TT}(h:PT X c t):PTs X [c] t:=fun pins s σ H Q I q=>wpAny_tests_one (h pins s σ H Q I q)

def YC (J:It)(g:TG)(tt:TT)(te:TE)(Q:VK)(σ0:St)(H1:Hp):Prop:=∃ W:Nat->Nat->List V->Hp->Prop,(∃ m,W 0 m [] H1)/\∀ i m ys H,W i m ys H->ys.length<=sizeLine /\
  ((J.stop i H/\∀ D,H D=none->Q (.ref D) (j9 H D (.lst ys))) ∨
   (J.go i H/\∀ x H',J.yld i H x H'->g x σ0 H' fun σ2 H2=>Wk σ0 σ2/\tt σ2 H2 fun b H3 =>
      if b=true then te σ2 H3 fun v H4=>∃ m',m' < m/\W (i + 1) m' (ys++[v]) H4 else ∃ m',m' < m/\W (i + 1) m' ys H3))
def Qp (wi:TI)(g:TG)(tt:TT)(te:TE)(cap:List (Option Nat)):TE:=fun σ H Q=>wi σ H fun J H1=>YC J g tt te Q (r9 cap σ) H1

section
variable {X:Cx}{pins:List (Addr × Obj)}{σ:St}{s₂:Shared}{N':List Str}{cap:List (Option Nat)}{sc:Scope}{cl:List (Str × Addr)}{fp:List Addr}
theorem Gs {tg iter elt:Expr}{ifs:List Expr}{pos:Pos}{g:TG}{tt:TT}{te:TE}{Q:VK}{H2:Hp}{it:Addr}{tn:Nat->Heap->Prop}{J:It}{E:Value->Shared->Prop}{RR:Value->Addr->Result->Shared->Prop}
    (S:wD X N' cap sc) (hc:X.calm=true) (hc1:∀ x c,cl.lookup x=some c->X.env.cells.lookup x=some c) (hc2:∀ y ∈ sc.names,y.2 = .free->∃ c,cl.lookup y.1=some c)
    (hg:∀ C pn,PG (xg X N' sc cl C s₂ H2 fp pn) tg g) (ht:∀ C pn,PTs (xg X N' sc cl C s₂ H2 fp pn) ifs tt) (he:∀ C pn,PE (xg X N' sc cl C s₂ H2 fp pn) elt te)
    (I2:Inv X pins σ H2 s₂) (T:jB X.prog X.w X.K tg J fp it tn) (st2:tn 0 s₂.heap) (f2:∀ b ∈ fp,xK X pins H2 b)
    (W:Nat->Nat->List V->Hp->Prop) (w0:∃ m,W 0 m [] H2) (turn:∀ i m ys H,W i m ys H->ys.length<=sizeLine /\
      ((J.stop i H/\∀ D,H D=none->Q (.ref D) (j9 H D (.lst ys))) ∨
       (J.go i H/\∀ x H',J.yld i H x H'->g x (r9 cap σ) H' fun σ2 H2=>Wk (r9 cap σ) σ2/\tt σ2 H2 fun b H3 =>
          if b=true then te σ2 H3 fun v H4=>∃ m',m' < m/\W (i + 1) m' (ys++[v]) H4 else ∃ m',m' < m/\W (i + 1) m' ys H3)))
    (hRR:∀ D C H' s' m,Inv X pins σ H' s'->s'.heap.Ns C m->xK X pins H' C->Q (.ref D) H'->RR (.ref D) C (.ok .next) s') :
    wpAny (model X.prog X.w) X.A (newList []) (fun acc s₃=>wpAny (model X.prog X.w) X.A (newFunctionEnv sc X.env.globals cl [] X.env.qual none .none (some X.env)) (fun cenv s₄ =>
      codeAny (model X.prog X.w) X.A (.compStart (.ListComp elt [⟨tg,iter,ifs,0⟩] sc pos) 0 (.ref it) acc { cenv with scope:=relabel sc X.env }) (RR acc cenv.locals) s₄) E s₃) E s₂:=by
  refine wpAny_newObj_type (wpAny_newFunctionEnv S.nocell (by intro y hy;simp at hy) (fun h₁ hns₁ hsb₁=>?_) S.kind)
  dsimp only at hns₁ hsb₁ ⊢
  generalize hG:s₂.heap.push { cls:= .type "list",dict:=none,data:= .seq ([]:List Value).toArray }=G at hns₁ hsb₁ ⊢
  have hC:G.objs.size=s₂.heap.objs.size + 1:=by rw [<- hG,Heap.size_push]
  have hDC:s₂.heap.objs.size < G.objs.size:=by rw [hC];exact Nat.lt_succ_self _
  have old:∀ b o,s₂.heap.get? b=some o->h₁.get? b=some o:=fun b o e =>
    hsb₁.extBut b o (Nat.ne_of_lt (Nat.lt_trans (Heap.lt_size e) hDC)) (Heap.get?_push_of_some _ (hG ▸ Heap.get?_push_of_some _ e))
  have hacc:h₁.get? s₂.heap.objs.size=some (LCg.lst []):=hsb₁.extBut _ _ (Nat.ne_of_lt hDC) (Heap.get?_push_of_some _ (hG ▸ Heap.get?_push_size _ rfl))
  have fl:∀ b ∈ fp,b < s₂.heap.objs.size:=fun b hb=>by obtain ⟨o,e,_⟩:=T.obj _ _ st2 b hb;exact Heap.lt_size e
  have seqd:∀ (us:List Value) v,(LCg.lst us).data ≠ .cell v:=fun us v z=>by cases z
  have cellt:∀ x c,cl.lookup x=some c->c < s₂.heap.objs.size:=fun x c e=>by obtain ⟨v,oc,ho,_⟩:=I2.cell x c (hc1 x c e);exact Heap.lt_size ho
  have pint:∀ p ∈ X.pn++pins,p.1 < s₂.heap.objs.size:=fun p hp=>Heap.lt_size (I2.pin p hp).1
  have I0:Inv (xg X N' sc cl G.objs.size s₂ H2 fp (X.pn++pins)) [(s₂.heap.objs.size,LCg.lst [])] (r9 cap σ) H2 { s₂ with heap:=h₁,toks:=s₂.toks + ([]:List (Str × Value)).length } :=
    Mu I2 S hc1 hc2 f2 fl (Nat.le_refl _) hDC hacc (seqd []) hns₁ old _
  have stat:∀ {H':Hp} {us:List Value},(∀ b ∈ fp,H' b=none)->∀ b ∈ fp,xK (xg X N' sc cl G.objs.size s₂ H2 fp (X.pn++pins)) [(s₂.heap.objs.size,LCg.lst us)] H' b:=fun {H' us} hn b hb=>by
    obtain ⟨f0,f1,f2',f3,f4,f5⟩:=f2 b hb
    refine ⟨hn b hb,Nat.ne_of_lt (Nat.lt_trans (fl b hb) hDC),fun hz=>?_,.inl hb,fun x c e=>f4 x c (hc1 x c e),fun p hp=>?_⟩
    · rcases List.mem_cons.mp (I2.stkSub b hz) with e | e
      · exact f1 e
      · exact f2' e
    · rcases List.mem_append.mp hp with hp | hp
      · exact f5 p hp
      · have e:p=(s₂.heap.objs.size,LCg.lst us):=by simpa using hp
        rw [e]
        exact Ne.symm (Nat.ne_of_lt (fl b hb))
  have loop:∀ s₃:Shared,s₃={ s₂ with heap:=h₁,toks:=s₂.toks + ([]:List (Str × Value)).length } ->
      codeAny (model X.prog X.w) X.A (.compLoop (.ListComp elt [⟨tg,iter,ifs,0⟩] sc pos) 0 (.ref it) (.ref s₂.heap.objs.size) (compEnvC sc cl G.objs.size X.env)) (RR (.ref s₂.heap.objs.size) G.objs.size) s₃:=by
    rintro s₃ rfl
    obtain ⟨m0,w0⟩:=w0
    refine CT
      (fun n s'=>∃ i ys us H',Inv (xg X N' sc cl G.objs.size s₂ H2 fp (X.pn++pins)) [(s₂.heap.objs.size,LCg.lst us)] (r9 cap σ) H' s'/\Vals ys us/\tn i s'.heap/\(∀ b ∈ fp,H' b=none)/\W i n ys H') ?_ m0
      ⟨0,[],[],H2,I0,.nil,T.keep _ _ _ st2 fun b _ o e=>old b o e,fun b hb=>(f2 b hb).1,w0⟩
    rintro n s3 ⟨i,ys,us,H3,I3,rv,st3,fr3,w3⟩
    obtain ⟨hz,alt⟩:=turn i n ys H3 w3
    rcases alt with ⟨stop,fin⟩ | ⟨go,step⟩
    · refine j3 (T.done (xg X N' sc cl G.objs.size s₂ H2 fp (X.pn++pins)) rfl rfl rfl hc i _ s3 _ H3 _ I3 (stat fr3) st3 stop) fun r s4 ⟨hr,I4⟩=>?_
      subst hr
      obtain ⟨gD,nD,_,_,_⟩:=I4.pin (s₂.heap.objs.size,LCg.lst us) (List.mem_append_right _ (List.mem_singleton.mpr rfl))
      have nD':H3 s₂.heap.objs.size=none:=nD
      have gD':s4.heap.get? s₂.heap.objs.size=some (LCg.lst us):=gD
      have b4:Un (n6 X.stack) fp H2 H3 s₂.heap s4.heap:=I4.base
      have n2:H2 s₂.heap.objs.size=none:=I2.hok.fresh (Nat.le_refl _)
      have un:Un (n6 X.stack) fp H2 (j9 H3 s₂.heap.objs.size (.lst ys)) s₂.heap s4.heap :=
        ⟨b4.keep,b4.slot,fun b o e n hx=>by rw [v6 (Nat.ne_of_lt (Heap.lt_size e))];exact b4.free b o e n hx,b4.there,
          fun b xs e=>by rw [v6 (n5 e n2)];exact b4.tups b xs e,fun b o u e=>by rw [v6 (n5 e n2)];exact b4.frzs b o u e,
          fun b ps e=>by obtain ⟨mo,q⟩:=b4.tbls b ps e;exact ⟨mo,by rw [v6 (n5 e n2)];exact q⟩⟩
      have hok:HOk X.prog X.w (j9 H3 s₂.heap.objs.size (.lst ys)) s4.heap:=fun b u e=>by
        by_cases hb:b=s₂.heap.objs.size
        · subst hb
          rw [g0] at e
          cases e
          exact ⟨hz,us,us.length,rv,gD'⟩
        · rw [v6 hb] at e
          exact (I4.hok b u e).stay (fun c v _ q=>q) (fun c q=>by rw [v6 (n5 q nD')];exact q) fun c xs q=>by rw [v6 (n5 q nD')];exact q
      have IF:Inv X pins σ (j9 H3 s₂.heap.objs.size (.lst ys)) s4:=I2.call' (ch:=fp) I4.os un hok I4.bare fun b hb=>by
        obtain ⟨f0,f1,f2',f3,f4,f5⟩:=f2 b hb
        exact ⟨f3,f1,f4,f5⟩
      obtain ⟨mF,hnF,_⟩:=I4.loc
      refine hRR _ _ _ _ mF IF hnF (I2.fpOk (Nat.le_of_lt hDC) ?_) (fin _ nD')
      rw [v6 (Ne.symm (Nat.ne_of_lt hDC))]
      exact I4.free
    · refine j3 (T.item (xg X N' sc cl G.objs.size s₂ H2 fp (X.pn++pins)) rfl rfl rfl hc i _ s3 _ H3 _ I3 (stat fr3) st3 go) fun r s4 ⟨u,hr,h4⟩=>?_
      subst hr
      refine j3 h4 fun _ s5 ⟨x,H5,I5,r5,y5,st5,fr5⟩=>?_
      have I5':=I5.pinned (stat fr5) (T.obj _ _ st5)
      refine j3 (hg G.objs.size (X.pn++pins) _ s5 _ H5 x u _ I5' r5 (step x H5 y5)) fun _ s6 ⟨σ6,H6,I6,wk,q6⟩=>?_
      refine j3 (ht G.objs.size (X.pn++pins) _ s6 σ6 H6 _ I6 q6) fun ok s7 ⟨H7,I7,q7⟩=>?_
      have back:∀ {σ8:St} {H8:Hp} {s8:Shared} {us8:List Value},Inv (xg X N' sc cl G.objs.size s₂ H2 fp (X.pn++pins)) ([(s₂.heap.objs.size,LCg.lst us8)]++Xy fp s5.heap) σ8 H8 s8 ->
          tn (i + 1) s8.heap/\∀ b ∈ fp,H8 b=none:=fun {σ8 H8 s8 us8} I8=>by
        refine ⟨T.keep _ _ _ st5 fun b hb o e=>(I8.pin (b,o) (List.mem_append_right _ (List.mem_append_right _ (ZV hb e)))).1,fun b hb=>?_⟩
        obtain ⟨o,e,d⟩:=T.obj _ _ st5 b hb
        exact (I8.pin (b,o) (List.mem_append_right _ (List.mem_append_right _ (ZV hb e)))).2.1
      cases ok with
      | false =>
        obtain ⟨m',hm,w7⟩:=q7
        obtain ⟨t7,f7⟩:=back I7
        exact ⟨m',hm,i + 1,ys,us,H7,I7.unpinned.weak wk.len wk.at',rv,t7,f7,w7⟩
      | true =>
        refine j3 (he G.objs.size (X.pn++pins) _ s7 σ6 H7 _ I7 q7) fun uv s8 ⟨v,H8,I8,r8,m',hm,w8⟩=>?_
        obtain ⟨t8,f8⟩:=back I8
        obtain ⟨gD,nD,lD,fD,_⟩:=I8.pin (s₂.heap.objs.size,LCg.lst us) (List.mem_append_right _ (List.mem_append_left _ (List.mem_singleton.mpr rfl)))
        have gD':s8.heap.get? s₂.heap.objs.size=some { cls:= .type "list",data:= .seq us.toArray us.length }:=gD
        refine append_at (hsz:=by rw [List.size_toArray,<- rv.length];exact hz) gD' fun h9 hs9 hD9=>?_
        have I8a:Inv (xg X N' sc cl G.objs.size s₂ H2 fp (X.pn++pins)) [] σ6 H8 s8:=I8.pins_of fun p hp=>nomatch hp
        have I9:Inv (xg X N' sc cl G.objs.size s₂ H2 fp (X.pn++pins)) [] σ6 H8 { s8 with heap:=h9,toks:=s8.toks } :=
          I8a.turned (it:=s₂.heap.objs.size) (fun b o hb e=>hs9.extBut b o hb e) nD lD (.inr (Nat.le_refl _)) (fun x c e=>Nat.ne_of_lt (cellt x c e)) fun p hp=>by
            rw [List.append_nil] at hp
            exact Nat.ne_of_lt (pint p hp)
        have I10:Inv (xg X N' sc cl G.objs.size s₂ H2 fp (X.pn++pins)) [(s₂.heap.objs.size,LCg.lst (us++[uv]))] σ6 H8 { s8 with heap:=h9,toks:=s8.toks }:=I9.pins_of fun p hp=>by
          have e:p=(s₂.heap.objs.size,LCg.lst (us++[uv])):=by simpa using hp
          subst e
          exact ⟨hD9.trans (congrArg some (LCg.lst_snoc us uv)),nD,lD,fD,seqd _⟩
        refine ⟨m',hm,i + 1,ys++[v],us++[uv],H8,I10.weak wk.len wk.at',rv.append (.cons r8 .nil),T.keep _ _ _ t8 fun b hb o e=>hs9.extBut b o (Nat.ne_of_lt (fl b hb)) e,f8,w8⟩
  have st1:tn 0 h₁:=T.keep _ _ _ st2 fun b _ o e=>old b o e
  exact codeAny_compStart_list (loop _ rfl) (T.self _ 0 _ _ _ st1 (loop _ rfl))

theorem qJ {tg iter elt:Expr}{ifs:List Expr}{pos:Pos}{wi:TI}{g:TG}{tt:TT}{te:TE}(S:wD X N' cap sc)(hc:X.calm=true)(hi:PI X tg iter wi)
  (hg:∀ cl C s H fp pn,PG (xg X N' sc cl C s H fp pn) tg g) (ht:∀ cl C s H fp pn,PTs (xg X N' sc cl C s H fp pn) ifs tt) (he:∀ cl C s H fp pn,PE (xg X N' sc cl C s H fp pn) elt te)
  (hs:∀ x,foldedSetIterable iter X.env x=pure x:=by intro _;rfl):PE X (.ListComp elt [⟨tg,iter,ifs,0⟩] sc pos) (Qp wi g tt te cap):=by
 intro pins s σ H Q I h
 rw [eval_ListComp]
 obtain ⟨cl,hcl,hc1,hc2⟩:=Gq (scope:=sc) (env:=X.env) fun y hy e=>I.ok.has y.1 (S.free y hy e)
 refine wpAny_comprehension_free (use:=none) rfl hs hcl S.kind S.names (j3 (hi pins s σ H _ I h) fun v s1 h1=>j3 h1 fun itv s2 h2=>?_)
 obtain ⟨it,fp,tn,J,H2,e,I2,T,st2,f2,W,w0,turn⟩:=h2
 subst e
 refine Gs (RR:=fun acc C=>compPost (model X.prog X.w) X.A X.xe none (EP X pins σ Q) acc C) S hc hc1 hc2 (fun C pn=>hg cl C s2 H2 fp pn) (fun C pn=>ht cl C s2 H2 fp pn) (fun C pn=>he cl C s2 H2 fp pn) I2 T st2 f2 W w0 turn ?_
 intro D C H' s' m I' hn F q
 obtain ⟨f0,f1,f2',f3,f4,f5⟩:=F
 exact ⟨m,hn,fun h' hs'=>⟨.ref D,H',I'.turned (t':=s'.toks) (fun b o hb e=>hs'.extBut b o hb e) f0 f1 f3 f4 f5,rfl,q⟩⟩

theorem WQ {i:Nat}{x:Str}{tg iter elt:Expr}{ifs:List Expr}{pos spos pos':Pos}{wi:TI}{g:TG}{tt:TT}{te:TE}(S:wD X N' cap sc)(hc:X.calm=true)(hN:X.N.Nodup)(hx:X.N[i]?=some x)(hk:X.env.scope.names.lookup x=some .local)(hi:PI X tg iter wi)
  (hg:∀ cl C s H fp pn,PG (xg X N' sc cl C s H fp pn) tg g) (ht:∀ cl C s H fp pn,PTs (xg X N' sc cl C s H fp pn) ifs tt) (he:∀ cl C s H fp pn,PE (xg X N' sc cl C s H fp pn) elt te)
  (hsw:swapsWith (.ListComp elt [⟨tg,iter,ifs,0⟩] sc pos) (some (.Name x pos')) spos.line X.env=pure true:=by rfl)
  (hs:∀ x,foldedSetIterable iter X.env x=pure x:=by intro _;rfl):PS X (.Assign [.Name x pos'] (.ListComp elt [⟨tg,iter,ifs,0⟩] sc pos) spos) (zG (Qp wi g tt te cap) (xN i)):=by
 intro pins s σ H D I h
 rw [exec_Assign_Name_used _ _ _ _ hsw]
 refine wpAny_bind (wpAny_standAt (wpAny_bind ?_))
 show wpAny _ X.A (do let _ <- comprehension (.ListComp elt [⟨tg,iter,ifs,0⟩] sc pos) sc X.env _ (newList []) false (eval iter X.env) (some (assign (.Name x pos') X.env))) _ _ s
 obtain ⟨cl,hcl,hc1,hc2⟩:=Gq (scope:=sc) (env:=X.env) fun y hy e=>I.ok.has y.1 (S.free y hy e)
 refine wpAny_bind (j3 (wpAny_comprehension_free (use:=some (assign (.Name x pos') X.env)) (Q:=fun _ s'=>SP X pins D .next s') rfl hs hcl S.kind S.names
  (j3 (hi pins s σ H _ I h) fun v s1 h1=>j3 h1 fun itv s2 h2=>?_)) fun _ s' hq=>wpAny_pure (wpAny_pure hq))
 obtain ⟨it,fp,tn,J,H2,e,I2,T,st2,f2,W,w0,turn⟩:=h2
 subst e
 refine Gs (Q:=fun v H1=>xN i v σ H1 D.nx) (RR:=fun acc C=>compPost (model X.prog X.w) X.A X.xe (some (assign (.Name x pos') X.env)) (fun _ s'=>SP X pins D .next s') acc C) S hc hc1 hc2 (fun C pn=>hg cl C s2 H2 fp pn) (fun C pn=>ht cl C s2 H2 fp pn) (fun C pn=>he cl C s2 H2 fp pn) I2 T st2 f2 W w0 turn ?_
 intro E C H' s' m I' hn F q
 obtain ⟨f0,f1,f2',f3,f4,f5⟩:=F
 show wpAny _ X.A (assign (.Name x pos') X.env (.ref E)) _ _ _
 refine wpAny_assign_Name (BE I' hN hx (.inl hk) (v:= .ref E) rfl (fun s'' I'' ch=>?_) (.inr hk))
 obtain ⟨a,sb,ha⟩:=ch
 have nC:C ≠ a:=by
  rcases ha with z | z
  ·rw [z];exact f1
  ·exact Ne.symm (f4 x a z)
 exact ⟨m,hn.sameBut sb nC,fun h' hs'=>⟨_,H',I''.turned (t':=s''.toks) (fun b o hb e=>hs'.extBut b o hb e) f0 f1 f3 f4 f5,q⟩⟩
end
section
variable {g:TG}{tt:TT}{te:TE}{Q:VK}{H:Hp}{σ0:St}
theorem CU {K:Fg}{a:Addr}{xs:List V}(Pv:Nat->List V->Hp->Prop)(h0:Pv 0 [] H)(hz:∀ i ys H,i<=xs.length->Pv i ys H->ys.length<=sizeLine)(hl:∀ i ys H,i<=xs.length->Pv i ys H->SqL K H a xs)
  (hs:∀ i x ys H (R:List V->Hp->Prop),xs[i]?=some x->Pv i ys H->(∀ ys' H',Pv (i + 1) ys' H'->R ys' H')->g x σ0 H fun σ2 H2=>Wk σ0 σ2/\tt σ2 H2 fun b H3=>if b=true then te σ2 H3 fun v H4=>R (ys++[v]) H4 else R ys H3)
  (hd:∀ ys H,Pv xs.length ys H->∀ D,H D=none->Q (.ref D) (j9 H D (.lst ys))):YC (Itl K a) g tt te Q σ0 H:=by
 refine ⟨fun i m ys H=>m=xs.length - i/\i<=xs.length/\Pv i ys H,⟨xs.length,by simp,Nat.zero_le _,h0⟩,?_⟩
 rintro i m ys H ⟨rfl,hi,p⟩
 have q:=hl i ys H hi p
 refine ⟨hz i ys H hi p,?_⟩
 by_cases hlt:i < xs.length
 ·refine .inr ⟨⟨xs,xs[i],q,by simp [hlt]⟩,fun x H' y=>?_⟩
  obtain ⟨e,y⟩:=y
  subst e
  exact hs i x ys _ (fun ys' H'=>∃ m',m' < xs.length - i/\m'=xs.length - (i + 1)/\i + 1<=xs.length/\Pv (i + 1) ys' H') (y xs q) p fun ys' H' p'=>⟨xs.length - (i + 1),by omega,rfl,hlt,p'⟩
 ·have e:i=xs.length:=by omega
  subst e
  exact .inl ⟨⟨xs,q,Nat.le_refl _⟩,hd ys H p⟩
end
end L2
namespace L2
open PySem PySem.Spec PyProof.Rows
def tyB (T c:String):Option Bool:=if (Value.type T == Value.type c)=true then some true else if PySem.W.kitMeta c=true then (fastBuiltinMro T).map (·.contains (Value.type c)) else none
theorem Lc {K:Fg}{T c:String}{b:Bool}(h:tyB T c=some b):PySem.W.kitOne K (.type T) (.type c)=some b:=h
theorem Se:tyB "int" "int"=some true:=by decide +kernel
theorem Sd:tyB "int" "bool"=some false:=by decide +kernel
theorem Sf:tyB "list" "list"=some true:=by decide +kernel
theorem Sg:tyB "str" "str"=some true:=by decide +kernel
theorem zK:bootBuiltins "isinstance"=some (.builtin "isinstance"):=by decide +kernel
theorem wK:bootBuiltins "list"=some (.type "list"):=by decide +kernel
theorem Cm:bootBuiltins "int"=some (.type "int"):=by decide +kernel
theorem Ci:bootBuiltins "bool"=some (.type "bool"):=by decide +kernel
theorem Gf:bootBuiltins "str"=some (.type "str"):=by decide +kernel
theorem QC:bootBuiltins "all"=some (.builtin "all"):=by decide +kernel
theorem Gg:bootBuiltins "sum"=some (.builtin "sum"):=by decide +kernel
theorem Co:bootBuiltins "min"=some (.builtin "min"):=by decide +kernel
theorem Ck:bootBuiltins "enumerate"=some (.type "enumerate"):=by decide +kernel
theorem Cs:bootBuiltins "zip"=some (.type "zip"):=by decide +kernel
section
variable {X:Cx}
theorem Cy:CallR X (.builtin "isinstance") (fun xs H Q=>∃ x n T b,xs=[x,.ty n]/\xP X.K H x (.type T)/\tyB T n=some b/\Q (.bl b) H):=by
 intro pins s σ H xs us Q I r h
 obtain ⟨x,n,T,b,rfl,ty,e,q⟩:=h
 obtain ⟨u,w',rfl,rx,rw'⟩:=Vz r
 obtain rfl:w'=Value.type n:=rw'
 exact MD I rx ty (Lc e) fun tk=>⟨.bl b,H,I.tok _,rfl,q⟩

theorem Pb:∀ {bs:List Bool} {us:List Value} {i:Nat} {u:Value},Vals (bs.map V.bl) us->us[i]?=some u->u = .bool (bs.getD i false)
 | [],_,_,_,.nil,e=>by simp at e
 | b::_,_,0,_,.cons r _,e=>by
  have e':=Option.some.inj e
  subst e'
  exact r
 | _::bs,_,i + 1,u,.cons _ t,e=>by
  have q:=Pb (i:=i) (u:=u) t (by simpa using e)
  simpa using q
theorem PN:∀ (bs:List Bool),(List.range bs.length).all (fun i=>bs.getD i false)=bs.all id:=by
 intro bs
 rw [Bool.eq_iff_iff,List.all_eq_true,List.all_eq_true]
 constructor
 ·intro h b hb
  obtain ⟨i,hi,e⟩:=List.getElem_of_mem hb
  have q:=h i (List.mem_range.mpr hi)
  rw [List.getD_eq_getElem?_getD,List.getElem?_eq_getElem hi] at q
  rw [<- e]
  exact q
 ·intro h i hi
  have hi':=List.mem_range.mp hi
  rw [List.getD_eq_getElem?_getD,List.getElem?_eq_getElem hi']
  exact h _ (List.getElem_mem hi')
theorem Cu (hc:X.calm=true):CallR X (.builtin "all") (fun xs H Q=>∃ (a:Addr) (bs:List Bool),xs=[.ref a]/\SqL X.K H a (bs.map V.bl)/\Q (.bl (bs.all id)) H):=by
 intro pins s σ H xs us Q I r h
 obtain ⟨a,bs,rfl,hq,q⟩:=h
 obtain ⟨u,rfl,ru⟩:=zY r
 obtain rfl:u=Value.ref a:=ru
 obtain ⟨its,rv,p,hz⟩:=I.list hq
 have hlt:a < s.heap.objs.size:=by obtain ⟨_,_,e,_⟩:=p;exact Heap.lt_size e
 have hl:s.heap.IsList a its.toArray:=p.isList
 refine call_all_walk (wpAny_pyIter_list hl ?_)
 refine ⟨s.heap.objs.size,_,_,_,_,_,fun i=>bs.getD i false,rfl,Walks.list (A:=X.A.in1) (I.ok.hd hc) s.heap.objs.size a (Nat.ne_of_lt hlt) its.toArray,⟨⟨_,Heap.get?_push_size _ rfl,rfl,rfl⟩,hl.push _⟩,?_,fun h' tk k=>?_⟩
 ·intro i v s' Q' E' hP hQ
  have e:=Pb rv (by simpa using hP)
  subst e
  exact wpAny_truthy_bool hQ
 ·have hn:its.toArray.size=bs.length:=by
   have e:=rv.length
   rw [List.length_map] at e
   rw [List.size_toArray]
   exact e.symm
  rw [hn,PN]
  refine ⟨.bl (bs.all id),H,I.kept (t':=tk) (fun b o e=>k b o (fun hm=>?_) (Heap.get?_push_of_some _ e)),rfl,q⟩
  have e':b=s.heap.objs.size:=by simpa using hm
  exact absurd (Heap.lt_size e) (by rw [e'];exact Nat.lt_irrefl _)

theorem Yu:∀ {ns:List Int} {us:List Value},Vals (ns.map V.int) us->IntsAre us ns
 | [],_,.nil=> .nil
 | n::_,_,.cons ⟨t,e⟩ r=>by
  subst e
  exact .cons n t (Yu r)
theorem Gj (hc:X.calm=true):CallR X (.builtin "sum") (fun xs H Q=>∃ (a:Addr) (ns:List Int),xs=[.ref a]/\SqL X.K H a (ns.map V.int)/\Q (.int ns.sum) H):=by
 intro pins s σ H xs us Q I r h
 obtain ⟨a,ns,rfl,hq,q⟩:=h
 obtain ⟨u,rfl,ru⟩:=zY r
 obtain rfl:u=Value.ref a:=ru
 obtain ⟨its,rv,p,hz⟩:=I.list hq
 have hi:=Yu rv
 have hl:s.heap.IsList a its.toArray:=p.isList
 obtain ⟨xs,ex⟩:=hi.allInts.items
 have e2:(numsOf its.toArray.toList).sum=ns.sum:=by rw [show its.toArray.toList=its from rfl,hi.numsOf]
 rw [ex] at hl e2
 rw [nums_intItems] at e2
 refine sum_intListG (I.ok.hd hc) hl fun h' tk t' k=>⟨.int ns.sum,H,I.kept (t':=tk) k,?_,q⟩
 rw [preSum_eq,List.take_of_length_le (by simp),e2]
 exact ⟨_,rfl⟩

def Zf (_i j:Int):Prop:=0 < j/\j.natAbs.log2 < 9000
theorem Kp:OpR X (binaryOp .FloorDiv) (rI Zf fun i j=> .int (i / j)):=opI fun i j _ _ _ _ _ hc q=>by
 have e:i.fdiv j=i / j:=Int.fdiv_eq_ediv_of_nonneg i (Int.le_of_lt hc.1)
 exact floordiv_int (Ne.symm (Int.ne_of_lt hc.1)) (by rw [e];exact q) (.inl (PyProof.noPylong_of_log2 hc.2))
def wC (i j:Int):Prop:=Builtin.Int.intBits i<=2 ^ 20/\Builtin.Int.intBits j<=2 ^ 20
theorem Xr:OpR X (binaryOp .Mult) (rI wC fun i j=> .int (i * j)):=opI fun _ _ _ _ _ _ _ hc q=>mul_int q (IntMulOk.of_bits hc.1 hc.2)

def Its (lo c:Int)(n:Nat):It:=⟨fun i _=>i < n,fun i H x H'=>H'=H/\x = .int (lo + i * c),fun i _=>n<=i⟩
theorem TY {P:Program}{w:World}{K:Fg}{tg:Expr}(it:Addr)(lo c:Int)(n:Nat):jB P w K tg (Its lo c n) [it] it (fun i h=>IsRangeIter h it (lo + (i:Nat) * c) ((n:Int) - (i:Nat)) c) where
 mem:=by simp
 obj:=fun i h st b hb=>by
  have e:b=it:=by simpa using hb
  subst e
  exact ⟨_,st,fun v z=>by
   have z':Data.fields _=Data.cell v:=z
   cases z'⟩
 keep:=fun i h h' st k=>k it (by simp) _ st
 item:=by
  intro X hP hw hK hc i pins s σ H E I hf st hg
  subst hP hw hK
  obtain ⟨f0,f1,f2,f3,f4,f5⟩:=hf it (by simp)
  have W:=Walks.range (prog:=X.prog) (w:=X.w) (I.ok.hd hc) it lo c n
  refine W.item i s _ _ hg st fun v h' tk hv st' kk=>?_
  obtain ⟨t,rfl⟩:=hv
  have I1:Inv X pins σ H { s with heap:=h',toks:=tk }:=I.turned (fun b o hb e=>kk b o (by simpa using hb) e) f0 f1 f3 f4 f5
  exact ⟨_,rfl,ZB (s:={ s with heap:=h',toks:=tk }) (n := "range_iterator") st' rfl rfl (by decide) ⟨.int (lo + i * c),H,I1,⟨t,rfl⟩,⟨rfl,rfl⟩,st',fun b hb=>(hf b hb).1⟩⟩
 done:=by
  intro X hP hw hK hc i pins s σ H E I hf st hg
  subst hP hw hK
  obtain ⟨f0,f1,f2,f3,f4,f5⟩:=hf it (by simp)
  exact wpAny_pyNext_range_end (I.ok.hd hc) st (by have:n<=i:=hg;omega) fun h' eb=>⟨rfl,I.turned (t':=s.toks) (fun b o hb e=>eb b o hb e) f0 f1 f3 f4 f5⟩
 self:=fun _ _ _ _ _ st h=>wpAny_pyIter_rangeiter st h
def jS (i j c:Int):Nat:=(Builtin.Range.rangeSize i j c).toNat
def iRng3 (ta:TA):TI:=fun σ H R=>ta σ H fun vs H1=>∃ i j c:Int,vs=[.int i,.int j,.int c]/\(0 < c/\c < 1073741824)/\0<=Builtin.Range.rangeSize i j c/\Builtin.Range.small i j c=true/\R (Its i c (jS i j c)) H1
variable {tg:Expr}
theorem HH {a b c:Expr}{ta:TA}{p pos:Pos}(hg:Gl X "range") (hm:X.mg "range"=none) (ha:PA X [a,b,c] ta) (hs:starEach [a,b,c] X.env=[(false,eval a X.env),(false,eval b X.env),(false,eval c X.env)]:=by rfl)
  (hs2:starEach [b,c] X.env=[(false,eval b X.env),(false,eval c X.env)]:=by rfl) :
  PI X tg (.Call (.Name "range" p) [a,b,c] [] pos) (iRng3 ta):=by
 intro pins s σ H R I h
 refine Call_ (vi I hg hm boot_range (PyProof.Rows.callWith_type1 (j3 (ha pos pins s σ H _ I h) fun us s1 ⟨vs,H1,I1,r1,q1⟩=>?_) (by rw [hs,hs2]) (by rw [hs2];rfl)))
 obtain ⟨i,j,c,e,⟨q1,q2⟩,q3,q4,q⟩:=q1
 subst e
 cases r1 with
 | cons r rr =>
  cases rr with
  | cons r' rr =>
   cases rr with
   | cons r'' rr =>
    cases rr
    obtain ⟨t,rfl⟩:=r
    obtain ⟨t',rfl⟩:=r'
    obtain ⟨t'',rfl⟩:=r''
    refine call_range_3 (Ne.symm (Int.ne_of_lt q1)) ?_ (.inl (PyProof.noPylong_small (by omega)))
    refine wpAny_pyIter_range (IsRange.new ..) q4 ?_
    have I2:Inv X pins σ H1 { s1 with heap:=s1.heap.push { cls:= .type "range",data:= .fields #[.int i t,.int j t',.int c t''] },toks:=s1.toks }:=I1.kept fun b o e=>Heap.get?_push_of_some _ e
    refine ⟨(s1.heap.push { cls:= .type "range",data:= .fields #[.int i t,.int j t',.int c t''] }).objs.size,[(s1.heap.push { cls:= .type "range",data:= .fields #[.int i t,.int j t',.int c t''] }).objs.size],_,_,H1,rfl,
     I2.kept (t':=s1.toks) fun b o e=>Heap.get?_push_of_some _ e,TY _ i c (jS i j c),?_,fun b hb=>?_,q⟩
    ·have e1:i + ((0:Nat):Int) * c=i:=by simp
     have e2:((jS i j c:Nat):Int) - ((0:Nat):Int)=Builtin.Range.rangeSize i j c:=by unfold jS;omega
     show IsRangeIter _ _ (i + ((0:Nat):Int) * c) (((jS i j c:Nat):Int) - ((0:Nat):Int)) c
     rw [e1,e2]
     exact Heap.get?_push_size _ rfl
    ·have e:b=(s1.heap.push { cls:= .type "range",data:= .fields #[.int i t,.int j t',.int c t''] }).objs.size:=by simpa using hb
     subst e
     exact I2.fpOk (Nat.le_refl _) (I2.hok.fresh (Nat.le_refl _))
end
theorem DM {lo c:Int}{n:Nat}{g:TG}{tb:TS}{D:qL}{σ:St}{H:Hp}(Pv:Nat->St->Hp->Prop)(h0:Pv 0 σ H)
  (hs:∀ i σ H,i < n->Pv i σ H->g (.int (lo + i * c)) σ H fun σ2 H2=>tb { D with nx:=Pv (i + 1),ct:=Pv (i + 1),bk:=D.nx } σ2 H2) (hd:∀ σ H,Pv n σ H->D.nx σ H) :
  ∃ W:Nat->Nat->St->Hp->Prop,(∃ m,W 0 m σ H)/\∀ i m σ H,W i m σ H ->
   ((Its lo c n).stop i H/\D.nx σ H) ∨ ((Its lo c n).go i H/\∃ N:St->Hp->Prop,(∀ σ' H',N σ' H'->∃ m',m' < m/\W (i + 1) m' σ' H')/\∀ x H',(Its lo c n).yld i H x H'->g x σ H' fun σ2 H2=>tb { D with nx:=N,ct:=N,bk:=D.nx } σ2 H2):=by
 refine ⟨fun i m σ H=>m=n - i/\i<=n/\Pv i σ H,⟨n,by simp,Nat.zero_le _,h0⟩,?_⟩
 rintro i m σ H ⟨rfl,hi,p⟩
 by_cases hlt:i < n
 ·refine .inr ⟨hlt,Pv (i + 1),fun σ' H' p'=>⟨n - (i + 1),by omega,rfl,hlt,p'⟩,fun x H' y=>?_⟩
  obtain ⟨e,y⟩:=y
  subst e y
  exact hs i σ _ hlt p
 ·have e:i=n:=by omega
  subst e
  exact .inl ⟨Nat.le_refl _,hd σ H p⟩

section
open PySem.SeqAt
theorem zq {α β:Type}{F:α->β->Prop}:∀ {l₁:List α} {l₂:List β},Paired F l₁ l₂->∀ (j:Nat) (h1:j < l₁.length) (h2:j < l₂.length),F l₁[j] l₂[j]
 | _,_,.cons r _,0,_,_=>r
 | _,_,.cons _ t,j + 1,h1,h2=>zq t j (by simpa using h1) (by simpa using h2)
variable {X:Cx}
end
structure Fn (P:Program)(w:World)(K:Fg)(mg:Str->Option Value)(base:Heap)(k:Nat)(x:Str)(ps:List Str)(sp:Sp):Prop where
 ex:∃ f fd,FnOk P w K mg base v7 k f fd ps sp/\mg x=some (.ref f)/\PySem.W.keepIn K (.ref f)=true/\Binds K fd ps []
section
variable {X:Cx}{k j:Nat}{x:Str}{ps:List Str}{sp:Sp}{e:Expr}{es:List Expr}{t:TA}{p pos:Pos}
theorem v3 (c:Fn X.prog X.w X.K X.mg X.base k x ps sp)(hr:Room j X.A)(hj:k<=j)(hg:Gl X x)(ha:PA X (e::es) t)(hdb:(x == ("__debug__":Str))=false:=by decide)
  (he:starEach (e::es) X.env=(false,eval e X.env)::starEach es X.env:=by rfl) (hpl:(backTo pos (starEach es X.env)).any (·.1)=false:=by rfl) :
  PE X (.Call (.Name x p) (e::es) [] pos) (xy sp [] E0 t):=by
 obtain ⟨f,fd,F,hm,hk,hb⟩:=c.ex
 exact Ky F (hr.mono hj) hg hm hk hb .nil Ja ha hdb he hpl
end
end L2
namespace L2
open PySem PySem.Spec PyProof.Rows
section
variable {X:Cx}{pins:List (Addr × Obj)}{σ:St}{H:Hp}{s:Shared}{h':Heap}
theorem Inv.turnedL {t':Nat}{ch:List Addr}(I:Inv X pins σ H s)(k:∀ b o,b ∉ ch->s.heap.get? b=some o->h'.get? b=some o)(hf:∀ b ∈ ch,xK X pins H b):Inv X pins σ H { s with heap:=h',toks:=t' }:=by
 have nit:∀ b u,H b=some u->b ∉ ch:=fun b u e z=>by rw [(hf b z).1] at e;cases e
 have nL:X.env.locals ∉ ch:=fun z=>(hf _ z).2.1 rfl
 refine I.step (g':=s.gens) (d':=s.drawn) (ch:=ch) (fun b hb=>?_) (fun b o _ _ hc e _=>k b o hc e) (fun b o _ _ hc e _=>⟨o.slots,k b o hc e⟩) (fun _ _ _ _ n=>n)
  (fun b o hc e=>⟨o,k b o hc e⟩) (fun _ _ e=>e) (fun _ _ _ e=>e) (fun b ps e=>⟨#[],by rw [e];simp⟩) (fun m hm=>?_) (fun b u e=>?_) I.bare
 ·obtain ⟨f0,f1,f2,f3,f4,f5⟩:=hf b hb
  exact ⟨f3,f1,f4,f5⟩
 ·obtain ⟨o,es,ep,ho,r⟩:=hm
  exact ⟨o,es,ep,k _ o nL ho,r⟩
 ·refine (I.hok b u e).stay (fun c v hc q=>k c v ?_ q) (fun _ q=>q) fun _ _ q=>q
  rcases hc with z | z
  ·rw [z];exact nit b u e
  ·exact nit c _ z
theorem Inv.track {p:Addr}{o:HO}(I:Inv X pins σ H s)(hp:X.s₀.heap.objs.size<=p)(hn:H p=none)(nL:p ≠ X.env.locals)(nC:∀ x c,X.env.cells.lookup x=some c->c ≠ p)(nP:∀ q ∈ X.pn++pins,q.1 ≠ p)
  (new:ObjOk X.prog X.w (j9 H p o) s.heap p o):Inv X pins σ (j9 H p o) s:=by
 refine ⟨I.ok,I.os,I.bare,⟨I.base.keep,I.base.slot,fun b ob e n hx=>?_,I.base.there,fun b xs e=>?_,fun b ob u e=>?_,fun b ps e=>?_⟩,I.loc,I.cell,?_,fun x c e=>?_,fun q hq=>?_,fun b u e=>?_,I.len⟩
 ·rw [v6 (Nat.ne_of_lt (Nat.lt_of_lt_of_le (Heap.lt_size e) hp))]
  exact I.base.free b ob e n hx
 ·have z:=I.base.tups b xs e
  rw [v6 (n5 z hn)]
  exact z
 ·have z:=I.base.frzs b ob u e
  rw [v6 (n5 z hn)]
  exact z
 ·obtain ⟨mo,z⟩:=I.base.tbls b ps e
  exact ⟨mo,by rw [v6 (n5 z hn)];exact z⟩
 ·rw [v6 (Ne.symm nL)];exact I.free
 ·rw [v6 (nC x c e)];exact I.freeC x c e
 ·obtain ⟨a1,a2,a3⟩:=I.pin q hq
  exact ⟨a1,by rw [v6 (nP q hq)];exact a2,a3⟩
 ·by_cases hb:b=p
  ·subst hb
   rw [g0] at e
   cases e
   exact new
  ·rw [v6 hb] at e
   exact (I.hok b u e).stay (fun c v _ q=>q) (fun c q=>by rw [v6 (n5 q hn)];exact q) fun c xs q=>by rw [v6 (n5 q hn)];exact q
theorem Inv.seq_ne {a b:Addr}{xs:List V}(I:Inv X pins σ H s)(hq:SqL X.K H a xs)(hf:xK X pins H b):a ≠ b:=by
 rintro rfl
 rcases hq with (h | ⟨o,h⟩) | ⟨o,its,n,hk,_⟩
 ·rw [hf.1] at h;cases h
 ·rw [hf.1] at h;cases h
 ·have e:=I.ok.mod.kin a o hk
  rcases hf.2.2.2.1 with z | z
  ·exact I.ok.noex a o e z
  ·exact absurd (Nat.lt_of_lt_of_le (Heap.lt_size e) (Nat.le_trans I.ok.bsz z)) (Nat.lt_irrefl _)
end
def Ite (K:Fg)(a:Addr):It :=
 ⟨fun i H=>∃ xs x,SqL K H a xs/\xs[i]?=some x,fun i H x H'=>∃ p y,H p=none/\x = .ref p/\H'=j9 H p (.tup [.int i,y])/\∀ xs,SqL K H a xs->xs[i]?=some y,fun i H=>∃ xs,SqL K H a xs/\xs.length<=i⟩
theorem TV {P:Program}{w:World}{K:Fg}{elts:List Expr}{x1:Nat}{tp:Pos}(a e it:Addr)(hne:e ≠ it):jB P w K (.Tuple elts x1 tp) (Ite K a) [e,it] e (fun i h=>(∃ old,IsEnum h e it ((i:Nat):Int) old)/\h.IsListIter it a i) where
 mem:=by simp
 obj:=fun i h st b hb=>by
  obtain ⟨⟨old,he⟩,hit⟩:=st
  rcases List.mem_cons.mp hb with rfl | hb
  ·exact ⟨_,he,fun v z=>by
    have z':Data.fields _=Data.cell v:=z
    cases z'⟩
  ·have eb:b=it:=by simpa using hb
   subst eb
   obtain ⟨o,e1,c,d⟩:=hit
   exact ⟨o,e1,fun v z=>by rw [d] at z;cases z⟩
 keep:=fun i h h' st k=>by
  obtain ⟨⟨old,he⟩,hit⟩:=st
  exact ⟨⟨old,k e (by simp) _ he⟩,hit.at fun o q=>k it (by simp) o q⟩
 item:=by
  intro X hP hw hK hc i pins s σ H E I hf st hg
  subst hP hw hK
  obtain ⟨⟨old,he⟩,hit⟩:=st
  obtain ⟨xs,x,hq,hx⟩:=hg
  obtain ⟨its,rv,p,hz⟩:=I.list hq
  obtain ⟨u,hu,ru⟩:=rv.get hx
  have fz:xK X pins H s.heap.objs.size:=I.fpOk (Nat.le_refl _) (I.hok.fresh (Nat.le_refl _))
  have lte:e < s.heap.objs.size:=Heap.lt_size he
  have lti:it < s.heap.objs.size:=by obtain ⟨o,q,_⟩:=hit;exact Heap.lt_size q
  refine wpAny_pyNext_enum_item he hit p.isList (x:=u) (by simpa using hu) hne fun h1 heo hit1 ht1 hz1 hk1=>⟨_,rfl,?_⟩
  refine wpAny_letOwnedTupleGo_enum heo fun h2 he2 hs2=>?_
  have hs2':Heap.SameBut e h1 h2:=hs2
  have I2:Inv X pins σ H { s with heap:=h2,toks:=s.toks + 1 }:=I.turnedL (ch:=[e,it]) (fun b o hb q=>by
   have n1:b ≠ e:=fun z=>hb (by rw [z];simp)
   have n2:b ≠ it:=fun z=>hb (by rw [z];simp)
   exact hs2'.extBut b o n1 (hk1 b o n1 n2 q)) hf
  obtain ⟨f0,f1,f2,f3,f4,f5⟩:=fz
  have tup:h2.get? s.heap.objs.size=some { cls:= .type "tuple",data:= .seq #[.int i s.toks,u] }:=hs2'.extBut _ _ (Ne.symm (Nat.ne_of_lt lte)) ht1
  refine ⟨.ref s.heap.objs.size,j9 H s.heap.objs.size (.tup [.int i,x]),I2.track I.sz f0 f1 f4 f5 ?_,rfl,⟨s.heap.objs.size,x,f0,rfl,rfl,fun ys hy=>by rw [I.list_inj hy hq];exact hx⟩,⟨⟨u,?_⟩,?_⟩,fun b hb=>?_⟩
  ·exact ⟨by show 2<=sizeLine;decide,[.int i s.toks,u],.cons ⟨_,rfl⟩ (.cons ru .nil),⟨_,tup,rfl,_,rfl⟩⟩
  ·have ei:(((i + 1:Nat):Int))=(i:Int) + 1:=by omega
   rw [ei]
   exact he2
  ·exact hit1.at fun o q=>hs2'.extBut it o (Ne.symm hne) q
  ·have nb:b ≠ s.heap.objs.size:=by
    rcases List.mem_cons.mp hb with rfl | hb
    ·exact Nat.ne_of_lt lte
    ·have eb:b=it:=by simpa using hb
     rw [eb];exact Nat.ne_of_lt lti
   rw [v6 nb]
   exact (hf b hb).1
 done:=by
  intro X hP hw hK hc i pins s σ H E I hf st hg
  subst hP hw hK
  obtain ⟨⟨old,he⟩,hit⟩:=st
  obtain ⟨xs,hq,hx⟩:=hg
  obtain ⟨its,rv,p,hz⟩:=I.list hq
  have hl:=rv.length
  exact wpAny_pyNext_enum_end (I.ok.hd hc) he hit p.isList (by simp;omega) fun h1 eb=>⟨rfl,I.turnedL (t':=s.toks) (ch:=[e,it]) (fun b o hb q=>eb b o (fun z=>hb (by rw [z];simp)) q) hf⟩
 self:=fun _ _ _ _ _ st h=>by
  obtain ⟨⟨old,he⟩,hit⟩:=st
  exact wpAny_pyIter_enum he h
section
variable {X:Cx}{elts:List Expr}{x1:Nat}{tp:Pos}
def Wp (K:Fg)(ta:TA):TI:=fun σ H R=>ta σ H fun vs H1=>∃ a,vs=[.ref a]/\(∃ xs,SqL K H1 a xs)/\R (Ite K a) H1
theorem HE {a:Expr}{ta:TA}{p pos:Pos}(hg:Gl X "enumerate") (hm:X.mg "enumerate"=none) (ha:PA X [a] ta) (hs:starEach [a] X.env=[(false,eval a X.env)]:=by rfl):PI X (.Tuple elts x1 tp) (.Call (.Name "enumerate" p) [a] [] pos) (Wp X.K ta):=by
 intro pins s σ H R I h
 refine Call_ (vi I hg hm Ck (PyProof.Rows.callWith_type1 (j3 (ha pos pins s σ H _ I h) fun us s1 ⟨vs,H1,I1,r1,q1⟩=>?_) hs rfl))
 obtain ⟨a,e,⟨xs,hq⟩,q⟩:=q1
 subst e
 cases r1 with
 | cons r rr =>
  cases rr
  cases r
  obtain ⟨its,rv,p,hz⟩:=I1.list hq
  refine call_enumerate_list p.isList fun h' he hit hsz hk=>?_
  refine wpAny_pyIter_enum he ?_
  refine ⟨s1.heap.objs.size + 1,[s1.heap.objs.size + 1,s1.heap.objs.size],_,_,H1,rfl,I1.kept (t':=s1.toks) hk,TV a (s1.heap.objs.size + 1) s1.heap.objs.size (Nat.ne_of_gt (Nat.lt_succ_self _)),⟨⟨_,he⟩,hit⟩,fun b hb=>?_,q⟩
  rcases List.mem_cons.mp hb with rfl | hb
  ·exact I1.fpOk (Nat.le_succ _) (I1.hok.fresh (Nat.le_succ _))
  ·have eb:b=s1.heap.objs.size:=by simpa using hb
   subst eb
   exact I1.fpOk (Nat.le_refl _) (I1.hok.fresh (Nat.le_refl _))
end
def Itz (K:Fg)(a b:Addr):It :=
  ⟨fun i H=>∃ xs ys x y,SqL K H a xs/\SqL K H b ys/\xs[i]?=some x/\ys[i]?=some y,
   fun i H z H'=>∃ p x y,H p=none/\z = .ref p/\H'=j9 H p (.tup [x,y])/\(∀ xs,SqL K H a xs->xs[i]?=some x)/\∀ ys,SqL K H b ys->ys[i]?=some y,
   fun i H=>∃ xs ys,SqL K H a xs/\SqL K H b ys/\(xs.length<=i ∨ ys.length<=i)⟩
theorem Sa {P:Program}{w:World}{K:Fg}{elts:List Expr}{x1:Nat}{tp:Pos}(a b z TI TO i1 i2:Addr)(d:[z,TI,TO,i1,i2].Nodup):jB P w K (.Tuple elts x1 tp) (Itz K a b) [z,TI,TO,i1,i2] z
  (fun i h=>IsZip h z TI TO .none/\IsPair h TI (.ref i1) (.ref i2)/\(∃ u v,IsPair h TO u v)/\h.IsListIter i1 a i/\h.IsListIter i2 b i) where
 mem:=by simp
 obj:=fun i h st c hc=>by
  obtain ⟨hz,hTI,⟨u,v,hTO⟩,h1,h2⟩:=st
  have hc':c=z ∨ c=TI ∨ c=TO ∨ c=i1 ∨ c=i2:=by simpa using hc
  rcases hc' with rfl | rfl | rfl | rfl | rfl
  ·exact ⟨_,hz,fun v q=>by
    have q':Data.fields _=Data.cell v:=q
    cases q'⟩
  ·exact ⟨_,hTI,fun v q=>by
    have q':Data.seq _ _=Data.cell v:=q
    cases q'⟩
  ·exact ⟨_,hTO,fun v q=>by
    have q':Data.seq _ _=Data.cell v:=q
    cases q'⟩
  ·obtain ⟨o,e1,cc,dd⟩:=h1
   exact ⟨o,e1,fun v q=>by rw [dd] at q;cases q⟩
  ·obtain ⟨o,e1,cc,dd⟩:=h2
   exact ⟨o,e1,fun v q=>by rw [dd] at q;cases q⟩
 keep:=fun i h h' st k=>by
  obtain ⟨hz,hTI,⟨u,v,hTO⟩,h1,h2⟩:=st
  exact ⟨k z (by simp) _ hz,k TI (by simp) _ hTI,⟨u,v,k TO (by simp) _ hTO⟩,h1.at fun o e=>k i1 (by simp) o e,h2.at fun o e=>k i2 (by simp) o e⟩
 item:=by
  intro X hP hw hK hc i pins s σ H E I hf st hg
  subst hP hw hK
  obtain ⟨hz,hTI,⟨u0,v0,hTO⟩,h1,h2⟩:=st
  obtain ⟨xs,ys,x,y,hqa,hqb,hx,hy⟩:=hg
  obtain ⟨its,rv,p,_⟩:=I.list hqa
  obtain ⟨jts,rw',p',_⟩:=I.list hqb
  obtain ⟨u,hu,ru⟩:=rv.get hx
  obtain ⟨v,hv,rv'⟩:=rw'.get hy
  simp only [List.nodup_cons,List.mem_cons,not_or,List.not_mem_nil,not_false_eq_true,List.nodup_nil,and_true] at d
  obtain ⟨⟨d1,d2,d3,d4⟩,⟨d5,d6,d7⟩,⟨d8,d9⟩,d10⟩:=d
  have ap:ZipApart z TI TO i1 i2 a b:=⟨Ne.symm d1,Ne.symm d2,Ne.symm d3,Ne.symm d4,d5,d6,d7,d8,d9,d10,
   I.seq_ne hqa (hf z (by simp)),I.seq_ne hqa (hf TO (by simp)),I.seq_ne hqa (hf i1 (by simp)),I.seq_ne hqa (hf i2 (by simp)),
   I.seq_ne hqb (hf z (by simp)),I.seq_ne hqb (hf TO (by simp)),I.seq_ne hqb (hf i1 (by simp)),I.seq_ne hqb (hf i2 (by simp))⟩
  have fz:xK X pins H s.heap.objs.size:=I.fpOk (Nat.le_refl _) (I.hok.fresh (Nat.le_refl _))
  have lt:∀ c ∈ [z,TI,TO,i1,i2],c < s.heap.objs.size:=fun c hc=>by
   have hc':c=z ∨ c=TI ∨ c=TO ∨ c=i1 ∨ c=i2:=by simpa using hc
   rcases hc' with rfl | rfl | rfl | rfl | rfl
   ·exact Heap.lt_size hz
   ·exact Heap.lt_size hTI
   ·exact Heap.lt_size hTO
   ·obtain ⟨o,q,_⟩:=h1;exact Heap.lt_size q
   ·obtain ⟨o,q,_⟩:=h2;exact Heap.lt_size q
  refine wpAny_pyNext_zip_item ap hz hTI hTO h1 h2 p.isList p'.isList (x:=u) (y:=v) (by simpa using hu) (by simpa using hv) fun h3 hz3 hTO3 h13 h23 hp3 hs3 hk3=>⟨_,rfl,?_⟩
  refine wpAny_letOwnedTupleGo_zip hz3 fun h4 hz4 hs4=>?_
  have hs4':Heap.SameBut z h3 h4:=hs4
  have I4:Inv X pins σ H { s with heap:=h4,toks:=s.toks }:=I.turnedL (ch:=[z,TI,TO,i1,i2]) (fun c o hc q=>by
   have n1:c ≠ z:=fun e=>hc (by rw [e];simp)
   have n2:c ≠ TO:=fun e=>hc (by rw [e];simp)
   have n3:c ≠ i1:=fun e=>hc (by rw [e];simp)
   have n4:c ≠ i2:=fun e=>hc (by rw [e];simp)
   exact hs4'.extBut c o n1 (hk3 c o n1 n2 n3 n4 q)) hf
  obtain ⟨f0,f1,f2,f3,f4,f5⟩:=fz
  have tup:h4.get? s.heap.objs.size=some { cls:= .type "tuple",data:= .seq #[u,v] }:=hs4'.extBut _ _ (Ne.symm (Nat.ne_of_lt (lt z (by simp)))) hp3
  refine ⟨.ref s.heap.objs.size,j9 H s.heap.objs.size (.tup [x,y]),I4.track I.sz f0 f1 f4 f5 ?_,rfl,⟨s.heap.objs.size,x,y,f0,rfl,rfl,(fun zs hy'=>by rw [I.list_inj hy' hqa];exact hx),fun zs hy'=>by rw [I.list_inj hy' hqb];exact hy⟩,⟨hz4,?_,⟨u,v,?_⟩,?_,?_⟩,fun c hc=>?_⟩
  ·exact ⟨by show 2<=sizeLine;decide,[u,v],.cons ru (.cons rv' .nil),⟨_,tup,rfl,_,rfl⟩⟩
  ·exact hs4'.extBut _ _ (Ne.symm d1) (hk3 _ _ (Ne.symm d1) d5 d6 d7 hTI)
  ·exact hs4'.extBut _ _ (Ne.symm d2) hTO3
  ·exact h13.at fun o q=>hs4'.extBut i1 o (Ne.symm d3) q
  ·exact h23.at fun o q=>hs4'.extBut i2 o (Ne.symm d4) q
  ·rw [v6 (Nat.ne_of_lt (lt c hc))]
   exact (hf c hc).1
 done:=by
  intro X hP hw hK hc i pins s σ H E I hf st hg
  subst hP hw hK
  obtain ⟨hz,hTI,⟨u0,v0,hTO⟩,h1,h2⟩:=st
  obtain ⟨xs,ys,hqa,hqb,hend⟩:=hg
  obtain ⟨its,rv,p,_⟩:=I.list hqa
  obtain ⟨jts,rw',p',_⟩:=I.list hqb
  have l1:=rv.length
  have l2:=rw'.length
  simp only [List.nodup_cons,List.mem_cons,not_or,List.not_mem_nil,not_false_eq_true,List.nodup_nil,and_true] at d
  obtain ⟨⟨d1,d2,d3,d4⟩,⟨d5,d6,d7⟩,⟨d8,d9⟩,d10⟩:=d
  have ap:ZipApart z TI TO i1 i2 a b:=⟨Ne.symm d1,Ne.symm d2,Ne.symm d3,Ne.symm d4,d5,d6,d7,d8,d9,d10,
   I.seq_ne hqa (hf z (by simp)),I.seq_ne hqa (hf TO (by simp)),I.seq_ne hqa (hf i1 (by simp)),I.seq_ne hqa (hf i2 (by simp)),
   I.seq_ne hqb (hf z (by simp)),I.seq_ne hqb (hf TO (by simp)),I.seq_ne hqb (hf i1 (by simp)),I.seq_ne hqb (hf i2 (by simp))⟩
  refine wpAny_pyNext_zip_end (I.ok.hd hc) ap hz hTI hTO h1 h2 p.isList p'.isList (hend.elim (fun q=> .inl (by simp;omega)) (fun q=> .inr (by simp;omega))) fun h3 hk3=>⟨rfl,I.turnedL (t':=s.toks) (ch:=[z,TI,TO,i1,i2]) (fun c o hc q=>?_) hf⟩
  exact hk3 c o (fun e=>hc (by rw [e];simp)) (fun e=>hc (by rw [e];simp)) (fun e=>hc (by rw [e];simp)) (fun e=>hc (by rw [e];simp)) q
 self:=fun _ _ _ _ _ st h=>wpAny_pyIter_zip st.1 h
section
variable {X:Cx}{elts:List Expr}{x1:Nat}{tp:Pos}
def iZip (K:Fg)(ta:TA):TI:=fun σ H R=>ta σ H fun vs H1=>∃ a b,vs=[.ref a,.ref b]/\(∃ xs,SqL K H1 a xs)/\(∃ ys,SqL K H1 b ys)/\R (Itz K a b) H1
theorem HJ {a b:Expr}{ta:TA}{p pos:Pos}(hg:Gl X "zip") (hm:X.mg "zip"=none) (ha:PA X [a,b] ta) (hs:starEach [a,b] X.env=[(false,eval a X.env),(false,eval b X.env)]:=by rfl) (hs2:starEach [b] X.env=[(false,eval b X.env)]:=by rfl) :
  PI X (.Tuple elts x1 tp) (.Call (.Name "zip" p) [a,b] [] pos) (iZip X.K ta):=by
 intro pins s σ H R I h
 refine Call_ (vi I hg hm Cs (PyProof.Rows.callWith_type1 (j3 (ha pos pins s σ H _ I h) fun us s1 ⟨vs,H1,I1,r1,q1⟩=>?_) (by rw [hs,hs2]) (by rw [hs2];rfl)))
 obtain ⟨a,b,e,⟨xs,hq⟩,⟨ys,hq'⟩,q⟩:=q1
 subst e
 cases r1 with
 | cons r rr =>
  cases rr with
  | cons r' rr =>
   cases rr
   cases r
   cases r'
   obtain ⟨its,rv,p,hz⟩:=I1.list hq
   obtain ⟨jts,rw',p',_⟩:=I1.list hq'
   refine call_zip_2 p.isList p'.isList fun h' g1 g2 g3 g4 g5 hsz hk=>?_
   refine wpAny_pyIter_zip g1 ?_
   refine ⟨s1.heap.objs.size + 4,[s1.heap.objs.size + 4,s1.heap.objs.size + 2,s1.heap.objs.size + 3,s1.heap.objs.size,s1.heap.objs.size + 1],_,_,H1,rfl,I1.kept (t':=s1.toks) hk,Sa a b _ _ _ _ _ ?_,⟨g1,g2,⟨_,_,g3⟩,g4,g5⟩,fun c hc=>?_,q⟩
   ·simp only [List.nodup_cons,List.mem_cons,not_or,List.not_mem_nil,not_false_eq_true,List.nodup_nil,and_true]
    refine ⟨⟨?_,?_,?_,?_⟩,⟨?_,?_,?_⟩,⟨?_,?_⟩,?_⟩ <;> (show ¬ (_:Nat)=_;omega)
   ·have hc':s1.heap.objs.size<=c:=by
     have hc2:c=s1.heap.objs.size + 4 ∨ c=s1.heap.objs.size + 2 ∨ c=s1.heap.objs.size + 3 ∨ c=s1.heap.objs.size ∨ c=s1.heap.objs.size + 1:=by simpa using hc
     rcases hc2 with e | e | e | e | e <;> (rw [e];first | exact Nat.le_refl _ | exact Nat.le_add_right _ _)
    exact I1.fpOk hc' (I1.hok.fresh hc')
end
section
variable {g:TG}{tt:TT}{te:TE}{Q:VK}{H:Hp}{σ0:St}{K:Fg}
end
end L2
namespace L2
open PySem PySem.Spec PyProof.Rows
section
variable {X:Cx}{K:Fg}
theorem ZF (h:X.K=K):IxR X (rIxL K):=by subst h;exact ix_list
theorem Vo (h:X.K=K):SlR X (rSlL K):=by subst h;exact Tw
theorem Gi (h:X.K=K):CallR X (.builtin "len") (fun xs H Q=>∃ p ys,xs=[.ref p]/\(SqL K H p ys ∨ SqT K H p ys)/\Q (.int ys.length) H):=by subst h;exact CF
theorem CN (hc:X.calm=true)(h:X.K=K):CallR X (.builtin "sum") (fun xs H Q=>∃ (a:Addr) (ns:List Int),xs=[.ref a]/\SqL K H a (ns.map V.int)/\Q (.int ns.sum) H):=by subst h;exact Gj hc
theorem vt {es:List Expr}{k:Nat}{t:TGs}{n:Nat}{pos:Pos}(hc:X.calm=true)(hK:X.K=K)(h:PGs X es t)
  (hn:(assignEach es X.env).length=n:=by rfl) (hst:(assignEach es X.env).findIdx? (·.1)=none:=by rfl):PG X (.Tuple es k pos) (gTup K n t):=by subst hK;exact HD hc h hn hst
theorem qK {tg l:Expr}{tl:TE}(hK:X.K=K)(hl:PE X l tl):PI X tg l (QO K tl):=by subst hK;exact HG hl
theorem HF {elts:List Expr}{x1:Nat}{tp:Pos}{a:Expr}{ta:TA}{p pos:Pos}(hK:X.K=K)(hg:Gl X "enumerate") (hm:X.mg "enumerate"=none) (ha:PA X [a] ta) (hs:starEach [a] X.env=[(false,eval a X.env)]:=by rfl):PI X (.Tuple elts x1 tp) (.Call (.Name "enumerate" p) [a] [] pos) (Wp K ta):=by subst hK;exact HE hg hm ha hs
theorem HK {elts:List Expr}{x1:Nat}{tp:Pos}{a b:Expr}{ta:TA}{p pos:Pos}(hK:X.K=K)(hg:Gl X "zip") (hm:X.mg "zip"=none) (ha:PA X [a,b] ta) (hs:starEach [a,b] X.env=[(false,eval a X.env),(false,eval b X.env)]:=by rfl) (hs2:starEach [b] X.env=[(false,eval b X.env)]:=by rfl) :
  PI X (.Tuple elts x1 tp) (.Call (.Name "zip" p) [a,b] [] pos) (iZip K ta):=by subst hK;exact HJ hg hm ha hs hs2
end
end L2
namespace L2
open PySem PySem.Spec PyProof.Rows
section
variable {X:Cx}
end
end L2
namespace L2
open PySem PySem.Spec PyProof.Rows
section
variable {X:Cx}
theorem Hg:OpR X (compareOp .LtE) (fun x y H Q=>∃ i j,x = .str i/\y = .str j/\Q (.bl (!decide (j.cps.toList < i.cps.toList))) H):=by
 intro pins s σ H x y v u Q I rx ry h
 obtain ⟨i,j,rfl,rfl,q⟩:=h
 obtain ⟨t,rfl⟩:=rx
 obtain ⟨t',rfl⟩:=ry
 exact PySem.P.le_str (QM I q rfl)
def ItS (z:Str):It:=⟨fun i _=>i < z.cps.size,fun i H x H'=>H'=H/\∃ c,z.cps[i]?=some c/\x = .str ⟨#[c]⟩,fun i _=>i=z.cps.size⟩
theorem BQ {P:Program}{w:World}{K:Fg}{x:Str}{px:Pos}(it:Addr)(ty:String)(z:Str)(t:Tok)
  (W:∀ A':Around,A'.handled=none->Walks P w A' it [it] [it] z.cps.size (SignAt z) (fun i h=>h.IsStrIter it ty z t i))
  (sf:∀ (A:Around) (i:Nat) (s:Shared) (Q:Value->Shared->Prop) (E:Value->Shared->Prop),s.heap.IsStrIter it ty z t i->Q (.ref it) s->wpAny (model P w) A (pyIter (.ref it)) Q E s) :
  jB P w K (.Name x px) (ItS z) [it] it (fun i h=>h.IsStrIter it ty z t i) where
 mem:=by simp
 obj:=fun i h st b hb=>by
  have e:b=it:=by simpa using hb
  subst e
  obtain ⟨o,e,c,d⟩:=st
  exact ⟨o,e,fun v q=>by rw [d] at q;cases q⟩
 keep:=fun i h h' st k=>by
  obtain ⟨o,e,r⟩:=st
  exact ⟨o,k it (by simp) o e,r⟩
 item:=by
  intro X hP hw hK hc i pins s σ H E I hf st hg
  subst hP hw hK
  obtain ⟨f0,f1,f2,f3,f4,f5⟩:=hf it (by simp)
  refine (W X.A (I.ok.hd hc)).item i s _ _ hg st fun v h' tk hv st' kk=>?_
  obtain ⟨c,u,e1,rfl⟩:=hv
  have I1:Inv X pins σ H { s with heap:=h',toks:=tk }:=I.turned (fun b o hb e=>kk b o (by simpa using hb) e) f0 f1 f3 f4 f5
  refine ⟨_,rfl,?_⟩
  show wpAny _ _ (pure ()) _ _ _
  exact wpAny_pure ⟨.str ⟨#[c]⟩,H,I1,⟨u,rfl⟩,⟨rfl,c,e1,rfl⟩,st',fun b hb=>(hf b hb).1⟩
 done:=by
  intro X hP hw hK hc i pins s σ H E I hf st hg
  subst hP hw hK
  obtain ⟨f0,f1,f2,f3,f4,f5⟩:=hf it (by simp)
  have hg':i=z.cps.size:=hg
  subst hg'
  exact (W X.A (I.ok.hd hc)).done s _ _ st fun h' tk kk=>⟨rfl,I.turned (fun b o hb e=>kk b o (by simpa using hb) e) f0 f1 f3 f4 f5⟩
 self:=sf
def iStr (tl:TE):TI:=fun σ H R=>tl σ H fun x H1=>∃ z,x = .str z/\R (ItS z) H1
theorem KB {x:Str}{px:Pos}{l:Expr}{tl:TE}(hl:PE X l tl):PI X (.Name x px) l (iStr tl):=by
 intro pins s σ H R I h
 refine j3 (hl pins s σ H _ I h) fun v s1 ⟨x,H1,I1,r1,q1⟩=>?_
 obtain ⟨z,e,q⟩:=q1
 subst e
 obtain ⟨t,rfl⟩:=r1
 have fp:∀ b ∈ [s1.heap.objs.size],xK X pins H1 b:=fun b hb=>by
  have e:b=s1.heap.objs.size:=by simpa using hb
  subst e
  exact I1.fpOk (Nat.le_refl _) (I1.hok.fresh (Nat.le_refl _))
 cases ha:z.cps.all (· < 128)
 ·refine wpAny_pyIter_wide ha ?_
  exact ⟨s1.heap.objs.size,[s1.heap.objs.size],_,_,H1,rfl,I1.kept (t':=s1.toks) fun b o e=>Heap.get?_push_of_some _ e,BQ _ "str_iterator" z t (fun A' hA=>Walks.strWide hA _ z t) (fun _ _ _ _ _ st h=>wpAny_pyIter_striter_wide st h),⟨_,Heap.get?_push_size _ rfl,rfl,rfl⟩,fp,q⟩
 ·refine wpAny_pyIter_ascii ha ?_
  exact ⟨s1.heap.objs.size,[s1.heap.objs.size],_,_,H1,rfl,I1.kept (t':=s1.toks) fun b o e=>Heap.get?_push_of_some _ e,BQ _ "str_ascii_iterator" z t (fun A' hA=>Walks.strAscii hA _ z t) (fun _ _ _ _ _ st h=>wpAny_pyIter_striter_ascii st h),⟨_,Heap.get?_push_size _ rfl,rfl,rfl⟩,fp,q⟩
def tSlS (te:TE)(tl th:TO):TE:=fun σ H Q=>te σ H fun x H1=>tl σ H1 fun l H2=>th σ H2 fun u H3=>∃ z,x = .str z/\z.length<=sizeLine/\((l=none/\∃ j,u=some j) ∨ (u=none/\∃ i,l=some i))/\Q (.str (Txt.slice z l u)) H3
end
end L2
namespace L2
open PySem PySem.Spec PyProof.Rows
section
variable {X:Cx}{K:Fg}
def KM (K:Fg):R2:=fun x y H Q=>∃ l b xs zs,x = .ref l/\y = .ref b/\SqL K H l xs/\SqL K H b zs/\xs.length + zs.length<=sizeLine/\∀ p,H p=none->Q (.ref p) (j9 H p (.lst (xs++zs)))
theorem op_catL:OpR X (binaryOp .Add) (KM X.K):=by
 intro pins s σ H x y v u Q I rx ry h
 obtain ⟨l,b,xs,zs,rfl,rfl,hH,hB,hz,q⟩:=h
 cases rx
 cases ry
 obtain ⟨its,r,⟨⟨cls,dd,data,sl⟩,n,e,h1,h2,h3⟩,_⟩:=I.list hH
 obtain ⟨its2,r2,⟨⟨cls2,dd2,data2,sl2⟩,n2,e2,k1,k2,k3⟩,_⟩:=I.list hB
 dsimp only at h1 h2 h3 k1 k2 k3
 subst h1 h2 h3 k1 k2 k3
 have hl:=r.length
 have hl2:=r2.length
 have hsz:its.toArray.size + its2.toArray.size<=sizeLine:=by rw [List.size_toArray,List.size_toArray];omega
 refine concat_meets ⟨_,e,rfl⟩ ⟨_,e2,rfl⟩ noFill_list_add seq_list_add PySem.F.slot_list_add PySem.F.entry_list_add (PySem.F.args_list_add_2 _ _) (list_addW l b its.toArray its2.toArray n n2 none none sl sl2 hsz) ⟨e,e2,?_⟩
 have ea:its.toArray++its2.toArray=(its++its2).toArray:=by simp
 rw [ea]
 exact ⟨.ref _,_,I.lnew (t':=s.toks) (r.append r2) (by rw [List.length_append];omega),rfl,q _ I.fresh⟩
end
end L2
namespace L2
open PySem PySem.Spec PyProof.Rows
section
variable {P:Program}{w:World}{H H' H0:Hp}{h h' h0:Heap}{a:Addr}{o:HO}
theorem ObjOk.here (x:ObjOk P w H h a o):∃ u,h.get? a=some u:=by
 cases o with
 | lst xs=>obtain ⟨_,_,_,_,e⟩:=x;exact ⟨_,e⟩
 | tup xs=>obtain ⟨_,_,_,_,e,_⟩:=x;exact ⟨_,e⟩
 | dK kvs=>obtain ⟨_,_,_,_,_,_,_,e,_⟩:=x;exact ⟨_,e⟩
 | dT kvs=>obtain ⟨_,_,_,_,_,_,_,e,_⟩:=x;exact ⟨_,e⟩
 | set S n=>obtain ⟨_,_,_,_,e,_⟩:=x;exact ⟨_,e⟩
 | ins C dx fs=>obtain ⟨_,_,_,e,_⟩:=x;exact ⟨_,e⟩
 | own y=>obtain ⟨_,e⟩:=x;exact ⟨_,e⟩
 | xd fs=>obtain ⟨_,⟨_,_,_,e,_⟩,_⟩:=x;exact ⟨_,e⟩
 | rng lo hi=>obtain ⟨_,_,_,e⟩:=x;exact ⟨_,e⟩
 | frz ob u=>obtain ⟨e,_⟩:=x;exact ⟨_,e⟩
 | tbl ps=>exact ⟨_,(show h.get? a=some _ from x)⟩
 | met f y=>exact ⟨_,(show h.get? a=some _ from x)⟩
 | ext φ=>obtain ⟨_,⟨_,e⟩,_⟩:=x;exact ⟨_,e⟩
theorem HOk.gone (x:HOk P w H h)(e:h.get? a=none):H a=none:=by
 cases q:H a with
 | none=>rfl
 | some u =>
  obtain ⟨v,z⟩:=(x a u q).here
  rw [e] at z
  cases z
theorem HOk.off {S:List Addr}(x:HOk P w H h)(k:∀ b u,b ∉ S->h.get? b=some u->h'.get? b=some u)(hS:∀ b ∈ S,H b=none):HOk P w H h':=fun b u e=>by
 have out:∀ c v,H c=some v->c ∉ S:=fun c v q z=>by
  have n:=hS c z
  rw [q] at n
  cases n
 refine (x b u e).stay (fun c v hc q=>k c v ?_ q) (fun _ q=>q) fun _ _ q=>q
 rcases hc with z | z
 ·rw [z];exact out b u e
 ·exact out c _ z
theorem Un.off {fs ex S:List Addr}(u:Un fs ex H0 H h0 h)(k:∀ b o,b ∉ S->h.get? b=some o->h'.get? b=some o)(hS:∀ b ∈ S,b ∈ fs ∨ h0.get? b=none)
  (sl:∀ b o,b ∈ fs->h.get? b=some o->∃ z,h'.get? b=some { o with slots:=z }):Un fs ex H0 H h0 h' where
 keep:=fun b o e n hb hx=>k b o (fun z=>by
  rcases hS b z with q | q
  ·exact hb q
  ·rw [e] at q;cases q) (u.keep b o e n hb hx)
 slot:=fun b o e n hb hx=>by
  obtain ⟨z,q⟩:=u.slot b o e n hb hx
  obtain ⟨z2,q2⟩:=sl b _ hb q
  exact ⟨z2,q2⟩
 free:=u.free
 there:=fun b o e hx=>by
  obtain ⟨o',q⟩:=u.there b o e hx
  by_cases hb:b ∈ fs
  ·obtain ⟨z,q2⟩:=sl b _ hb q
   exact ⟨_,q2⟩
  ·exact ⟨o',k b o' (fun z=>by
    rcases hS b z with y | y
    ·exact hb y
    ·rw [e] at y;cases y) q⟩
 tups:=u.tups
 frzs:=u.frzs
 tbls:=u.tbls
end
structure Fly (h0 h:Heap)(H:Hp)(e:Addr)(cls:Value):Prop where
 ex:∃ oe vs T oT ts a0,h.get? e=some oe/\oe.cls=cls/\vs[0]?=some a0/\oe.data = .fields vs/\vs[1]?=some (.ref T)/\T ≠ e/\h.get? T=some oT/\oT.data = .fields ts/\ts[3]?=some .none/\H T=none/\h0.get? T=none
 free:H e=none
 new:h0.get? e=none
def o6 (P:Program)(w:World):CXT:=fun outer H s E e s'=>∃ ea cls H',e = .ref ea/\s'.os=s.os/\AllBare s'.gens/\Un (n6 outer) [] H H' s.heap s'.heap/\HOk P w H' s'.heap/\Fly s.heap s'.heap H' ea cls/\E cls none H'
theorem ZU {l:List Env}{env:Env}{b:Addr}(h:env ∈ l)(hf:env.frame=some b):b ∈ n6 l:=List.mem_filterMap.mpr ⟨env,h,hf⟩
section
variable {M:Model}{A:Around}{Er:Value->Shared->Prop}{s:Shared}{h0 base:Heap}{H:Hp}{P:Program}{w:World}{env:Env}{outer:List Env}{L e:Addr}{cls:Value}{Q:Unit->Shared->Prop}
structure Kept (S:List Addr)(l:List Env)(h h':Heap):Prop where
 keep:∀ b o,b ∉ S->h.get? b=some o->h'.get? b=some o
 slot:∀ b o,b ∈ n6 l->h.get? b=some o->∃ z,h'.get? b=some { o with slots:=z }
theorem GD {l:List Env}{B h1 h':Heap}{S:List Addr}{T:Addr}{oT:Obj}{ts:Array Value}(hok:HOk P w H h1)(hp:∀ b o,h0.get? b=some o->∃ o',h1.get? b=some o')(fr:h1.FunFrames base l)(hB:B=PySem.W.hideAll h1 (S++n6 l))
  (up:∀ b o,b ∈ n6 l->h1.get? b=some o->∃ z,h'.get? b=some { o with slots:=z }) (hn:B.get? T=none) (hT:h'.get? T=some oT) (hd:oT.data = .fields ts) (hS:T ∈ S->H T=none/\h0.get? T=none):H T=none/\h0.get? T=none:=by
 cases q:h1.get? T with
 | none =>
  refine ⟨hok.gone q,?_⟩
  cases z:h0.get? T with
  | none=>rfl
  | some o =>
   obtain ⟨o',z2⟩:=hp T o z
   rw [q] at z2
   cases z2
 | some o =>
  by_cases m:T ∈ S++n6 l
  ·rcases List.mem_append.mp m with m | m
   ·exact hS m
   ·obtain ⟨z,z2⟩:=up T o m q
    obtain ⟨_,o2,z3,z4⟩:=fr.mem m
    rw [q] at z3
    cases z3
    rw [hT] at z2
    have e:=Option.some.inj z2
    rw [e] at hd
    exact absurd hd (z4 ts)
  ·rw [hB,PySem.W.hideAll_get _ q m] at hn
   cases hn
theorem Lf (hfr:A.frames=some (env::outer))(hf:env.frame=some L)(fr:s.heap.FunFrames base (env::outer))(hok:HOk P w H s.heap)(hp:∀ b o,h0.get? b=some o->∃ o',s.heap.get? b=some o')(F:Fly h0 s.heap H e cls)
  (hQ:∀ h' S,(∀ b ∈ S,H b=none/\(h0.get? b=none))->Kept (S++n6 (env::outer)) (env::outer) s.heap h'->Fly h0 h' H e cls->Q () { s with heap:=h' }):wpAny M A (leaving env (.ref e)) Q Er s:=by
 obtain ⟨⟨oe,vs,T,oT,ts,a0,e1,e2,e3,e4,e5,e6,e7,e8,e9,e10,e11⟩,e12,e13⟩:=F
 have hin:∀ x ∈ env::outer,∀ b,x.frame=some b->b ∈ [e,T]++n6 (env::outer):=fun x hx b hb=>List.mem_append_right _ (ZU hx hb)
 have fl:Heap.FlyingW (PySem.W.hideAll s.heap ([e,T]++n6 (env::outer))) (env::outer) e cls a0 s.heap :=
  ⟨fun b o q=>PySem.W.of_hideAll _ q,PySem.W.hideAll_none _ (List.mem_append_left _ (by simp)),PySem.W.funFrames_hide fr hin,oe,vs,T,oT,ts,e1,⟨e2,e3⟩,e4,e5,PySem.W.hideAll_none _ (List.mem_append_left _ (by simp)),e6,e7,e8,e9⟩
 refine wpAny_leaves_onW hfr hf fl fun h' x up=>?_
 obtain ⟨f1,f2,f3,oe',vs',T',oT',ts',g1,⟨g2,g3⟩,g4,g5,g6,g7,g8,g9,g10⟩:=x
 have sl:∀ b o,b ∈ n6 (env::outer)->s.heap.get? b=some o->∃ z,h'.get? b=some { o with slots:=z }:=fun b o hb q=>up b o q (by
  obtain ⟨_,o2,z3,z4⟩:=fr.mem hb
  rw [q] at z3
  cases z3
  exact z4)
 have hS:∀ b ∈ [e,T],H b=none/\h0.get? b=none:=fun b hb=>by
  have c:b=e ∨ b=T:=by simpa using hb
  rcases c with rfl | rfl
  ·exact ⟨e12,e13⟩
  ·exact ⟨e10,e11⟩
 obtain ⟨n1,n2⟩:=GD (S:=[e,T]) hok hp fr rfl sl g6 g8 g9 (hS T')
 exact hQ h' [e,T] hS ⟨fun b o nb q=>f1 b o (PySem.W.hideAll_get _ q nb),sl⟩ ⟨⟨oe',vs',T',oT',ts',a0,g1,g2,g3,g4,g5,g7,g8,g9,g10,n1,n2⟩,e12,e13⟩
theorem Le {h1:Heap}{args:List Value}(hfr:A.frames=some (env::outer))(hf:env.frame=some L)(fr:h1.FunFrames base (env::outer))(hok:HOk P w H h1)(hp:∀ b o,h0.get? b=some o->∃ o',h1.get? b=some o')
  (mk:Heap.MadeExcOf h1 s.heap e cls args)
  (hQ:∀ h',Kept (n6 (env::outer)) (env::outer) h1 h'->Fly h0 h' H e cls->Q () { s with heap:=h' }):wpAny M A (leaving env (.ref e)) Q Er s:=by
 have hin:∀ x ∈ env::outer,∀ b,x.frame=some b->b ∈ []++n6 (env::outer):=fun x hx b hb=>List.mem_append_right _ (ZU hx hb)
 refine wpAny_leaves_madeW (base:=PySem.W.hideAll h1 ([]++n6 (env::outer))) hfr hf (fun b o q=>PySem.W.of_hideAll _ q) (PySem.W.funFrames_hide fr hin) mk fun h' t x _ _ up=>?_
 obtain ⟨f1,f2,f3,oe',vs',T',oT',ts',g1,⟨g2,g3⟩,g4,g5,g6,g7,g8,g9,g10⟩:=x
 have sl:∀ b o,b ∈ n6 (env::outer)->h1.get? b=some o->∃ z,h'.get? b=some { o with slots:=z }:=fun b o hb q=>up b o (mk.keeps b o q) (by
  obtain ⟨_,o2,z3,z4⟩:=fr.mem hb
  rw [q] at z3
  cases z3
  exact z4)
 obtain ⟨n1,n2⟩:=GD (S:=[]) hok hp fr rfl sl g6 g8 g9 (fun z=>nomatch z)
 refine hQ h' ⟨fun b o nb q=>f1 b o (PySem.W.hideAll_get _ q (by simpa using nb)),sl⟩ ⟨⟨oe',vs',T',oT',ts',_,g1,g2,g3,g4,g5,g7,g8,g9,g10,n1,n2⟩,hok.gone mk.new,?_⟩
 cases z:h0.get? e with
 | none=>rfl
 | some o =>
  obtain ⟨o',z2⟩:=hp e o z
  rw [mk.new] at z2
  cases z2
end
theorem Fly.weak {h0 h1 h:Heap}{H:Hp}{e:Addr}{cls:Value}(F:Fly h1 h H e cls)(k:∀ b o,h0.get? b=some o->∃ o',h1.get? b=some o'):Fly h0 h H e cls:=by
 have d:∀ b,h1.get? b=none->h0.get? b=none:=fun b n=>by
  cases z:h0.get? b with
  | none=>rfl
  | some o =>
   obtain ⟨o',z2⟩:=k b o z
   rw [n] at z2
   cases z2
 obtain ⟨⟨oe,vs,T,oT,ts,a0,e1,e2,e3,e4,e5,e6,e7,e8,e9,e10,e11⟩,e12,e13⟩:=F
 exact ⟨⟨oe,vs,T,oT,ts,a0,e1,e2,e3,e4,e5,e6,e7,e8,e9,e10,d T e11⟩,e12,d e e13⟩
def YK (X:Cx)(E:XK):Prop:=∀ (pins:List (Addr × Obj)) (σ:St) (H:Hp) (s:Shared) (ea:Addr) (h':Heap) (C:Addr) (args:List Value),Inv X pins σ H s->Heap.MadeExcOf s.heap h' ea (.ref C) args->E (.ref C) none H->X.xe (.ref ea) { s with heap:=h' }
section
variable {P:Program}{w:World}{K:Fg}{mg:Str->Option Value}{base:Heap}{N:List Str}{qual:Str}{scope:Scope}{f:Addr}{cd:Value}{A:Around}{outer:List Env}{s:Shared}{H:Hp}{E:XK}
theorem TR:YK (xh (o6 P w) P w K mg base N qual scope f cd A outer s H E) E:=by
 intro pins σ H1 s1 ea h' C args I mk q
 refine Le (h0:=s.heap) (H:=H1) (P:=P) (w:=w) (base:=base) (L:=s.heap.objs.size) I.ok.frames rfl I.stack I.hok (fun b o e=>I.base.there b o e (fun z=>nomatch z)) mk fun h2 k F=>?_
 refine ⟨ea,.ref C,H1,rfl,I.os,I.bare,Un.off (S:=n6 (envOfC qual scope s.heap.objs.size f cd::outer)) I.base k.keep (fun b hb=>?_) (fun b o hb e=>k.slot b o (List.mem_filterMap.mpr ?_) e),I.hok.off k.keep (fun b hb=>I.stkFree b hb),F,q⟩
 ·rcases List.mem_cons.mp (I.stkSub b hb) with z | z
  ·refine .inr ?_
   rw [z]
   exact Heap.get?_none_of_le (Nat.le_refl _)
  ·exact .inl z
 ·obtain ⟨x,hx,hf⟩:=List.mem_filterMap.mp hb
  exact ⟨x,List.mem_cons_of_mem _ hx,hf⟩
theorem xk:zI (o6 P w) (xh (o6 P w) P w K mg base N qual scope f cd A outer s H E) E:=by
 intro pins σ H1 s1 e s' I h
 obtain ⟨ea,cls,H',rfl,os,bare,un,hok,F,q⟩:=h
 have I':=I.call' (ch:=[]) os un hok bare (fun b z=>nomatch z)
 have there:∀ b o,s.heap.get? b=some o->∃ o',s1.heap.get? b=some o':=fun b o e=>I.base.there b o e (fun z=>nomatch z)
 refine Lf (h0:=s.heap) (H:=H') (P:=P) (w:=w) (base:=base) (L:=s.heap.objs.size) I'.ok.frames rfl I'.stack hok (fun b o e=>I'.base.there b o e (fun z=>nomatch z)) (F.weak there) fun h2 S hS k F2=>?_
 refine ⟨ea,cls,H',rfl,I'.os,I'.bare,Un.off (S:=S++n6 (envOfC qual scope s.heap.objs.size f cd::outer)) I'.base k.keep (fun b hb=>?_) (fun b o hb e=>k.slot b o (List.mem_filterMap.mpr ?_) e),hok.off k.keep (fun b hb=>?_),F2,q⟩
 ·rcases List.mem_append.mp hb with z | z
  ·exact .inr (hS b z).2
  ·rcases List.mem_cons.mp (I'.stkSub b z) with z | z
   ·refine .inr ?_
    rw [z]
    exact Heap.get?_none_of_le (Nat.le_refl _)
   ·exact .inl z
 ·obtain ⟨x,hx,hf⟩:=List.mem_filterMap.mp hb
  exact ⟨x,List.mem_cons_of_mem _ hx,hf⟩
 ·rcases List.mem_append.mp hb with z | z
  ·exact (hS b z).1
  ·exact I'.stkFree b z
theorem Fun.ok1 {x qual:Str}{st:Stmt}{f:Addr}{fd:FuncData}{N ps:List Str}{k:Nat}{sp:Sp}(F:Fun K x qual st f fd)(S:v9 N ps (j5 st))(len:∀ vs H Q E,sp vs H Q E->vs.length=ps.length)
  (hbody:∀ (cdv:Value) (A:Around) (outer:List Env) (s:Shared) (H:Hp) (vs:List V) (Q:VK) (E:XK),Room k (A.deeper (envOfC qual (j5 st) s.heap.objs.size f cdv))->sp vs H Q E ->
   ∃ t,PSs (xh (o6 P w) P w K mg base N qual (j5 st) f cdv A outer s H E) (qy st) t/\t { nx:=fun _ H'=>Q .non H',rt:=Q } (start N vs) H):FnOk P w K mg base (o6 P w) (k + 1) f fd ps sp:=by
 obtain ⟨oc,od,kV,doc,pm,an,cdv,ct,osl,rfl,lk,hcd⟩:=F.ex
 exact Wm lk hcd S len fun A outer s H vs Q E hr hsp=>hbody cdv A outer s H vs Q E hr hsp
end
structure Fx (P:Program)(w:World)(K:Fg)(mg:Str->Option Value)(base:Heap)(k:Nat)(x:Str)(ps:List Str)(sp:Sp):Prop where
 ex:∃ f fd,FnOk P w K mg base (o6 P w) k f fd ps sp/\mg x=some (.ref f)/\PySem.W.keepIn K (.ref f)=true/\Binds K fd ps []
section
variable {X:Cx}{k j:Nat}{x:Str}{ps:List Str}{sp:Sp}{e:Expr}{es:List Expr}{t:TA}{p pos:Pos}{E:XK}
theorem xq (c:Fx X.prog X.w X.K X.mg X.base k x ps sp)(hr:Room j X.A)(hj:k<=j)(hx:zI (o6 X.prog X.w) X E)(hg:Gl X x)(ha:PA X (e::es) t)(hdb:(x == ("__debug__":Str))=false:=by decide)
  (he:starEach (e::es) X.env=(false,eval e X.env)::starEach es X.env:=by rfl) (hpl:(backTo pos (starEach es X.env)).any (·.1)=false:=by rfl) :
  PE X (.Call (.Name x p) (e::es) [] pos) (xy sp [] E t):=by
 obtain ⟨f,fd,F,hm,hk,hb⟩:=c.ex
 exact Ky F (hr.mono hj) hg hm hk hb .nil hx ha hdb he hpl
end
end L2
namespace L2
open PySem PySem.Spec PyProof.Rows
theorem Hk {K:Fg}{h:Heap}{mg:Str->Option Value}{x:Str}{C:Addr}{bmB:List Value}{newId:String}(X:K.In h)(hm:mg x=some (.ref C))(q:PySem.W.excIn K C bmB newId=true):OwnCls x C bmB newId mg h:=by
 constructor
 ·exact hm
 unfold PySem.W.excIn at q
 split at q
 next dA cA sA lk =>
  split at q
  next D mr s0 s1 s2 s3 nw s5 em es =>
   rw [Bool.and_eq_true,Bool.and_eq_true,Bool.and_eq_true,Bool.and_eq_true,Bool.and_eq_true] at q
   obtain ⟨⟨⟨⟨⟨q1,q2⟩,q3⟩,q4⟩,q5⟩,q6⟩:=q
   have r1:D=C:=beq_iff_eq.mp q1
   have r2:nw=newId:=beq_iff_eq.mp q2
   have r6:=beq_iff_eq.mp q6
   subst r1 r2
   cases cA with
   | mk f1 f2 f3 f4 f5 f6 f7 f8 f9 f10 f11 =>
    have em':f3 = .ref D::mr:=em
    have q3':f11=false:=by simpa using q3
    have es':sA=#[s0,s1,s2,s3,some (.builtin nw),s5]:=by
     cases sA with
     | mk l=>exact congrArg Array.mk es
    subst em' q3' es'
    have nsx:=PySem.W.isNs_of_in X (show PySem.W.nsOkIn K f4=true from q5)
    refine ⟨mr,f4,f1,f5,f2,f6,f7,f8,f9,f10,dA,s0,s1,s2,s3,s5,_,X _ _ lk,Heap.Ns.of_isNs nsx,?_,PySem.W.tail_of_in X q4⟩
    exact PySem.W.nsMap_none_of_in X q5 r6
  next=>cases q
 next=>cases q
def Pg:List Value:=[.type "ValueError",.type "Exception",.type "BaseException",.type "object"]
section
variable {X:Cx}{x:Str}{C:Addr}{E:XK}{np cpos pos:Pos}
def Yk (C:Addr)(E:XK):TS:=fun _ _ H=>E (.ref C) none H
theorem HQ (hc:X.calm=true)(hg:Gl X x)(hm:X.mg x=some (.ref C))(q:PySem.W.excIn X.K C Pg "ValueError.__new__"=true) (ht:YK X E) (hd:(x == ("__debug__":Str))=false:=by decide) :
  PS X (.Raise (some (.Call (.Name x np) [] [] cpos)) none pos) (Yk C E):=by
 intro pins s σ H D I h
 obtain ⟨tl,N,nm,qn,bs,hdct,sn,sub,ab,col,dd,k0,k1,k2,k3,k5,mN,hC,hN,hni,TL⟩:=(Hk (mg:=X.mg) I.kIn hm q).obj
 refine wpAny_Raise_call_subU (C:=C) (nm:=nm) (q:=qn) (N:=N) (bs:=bs) (bm:=tl) (hdct:=hdct) (sn:=sn) (sub:=sub) (ab:=ab) (col:=col) (dd:=dd) (k0:=k0) (k1:=k1) (k2:=k2) (k3:=k3) (k5:=k5)
  PySem.F.excBase_ValueError (by decide) PySem.F.excBase_ValueError (mN:=mN) (TL.hasType PySem.F.excBase_ValueError.hasBase) (I.ok.hd hc) rfl hni (wV I hg hm ⟨rfl,?_⟩ hd)
 exact evalArgs_empty ⟨rfl,Nat.zero_le _,hC,hN,TL,fun h' ea mk=>ht pins σ H s ea h' C [] I mk h⟩
end
end L2
namespace L2
open PySem PySem.Spec PyProof.Rows
abbrev Cx.tried (X:Cx)(pn:List (Addr × Obj))(W:Value->Shared->Prop):Cx:={ X with pn:=pn,xe:=W }
abbrev Cx.suite (X:Cx)(pn:List (Addr × Obj))(ea:Addr):Cx:={ X with A:=X.A.mark (some (.ref ea)),calm:=false,pn:=pn,xe:=fun _ _=>False }
section
variable {X:Cx}{pins:List (Addr × Obj)}{σ:St}{H:Hp}{s:Shared}{W:Value->Shared->Prop}{b ea:Addr}
theorem Cx.Ok.tried (ok:X.Ok)(pn:List (Addr × Obj))(W:Value->Shared->Prop):(X.tried pn W).Ok :=
 ⟨ok.mod,ok.kind,ok.glob,ok.blt,ok.above,ok.inj,ok.has,ok.cab,ok.hd,ok.frames,ok.stk,ok.exf,ok.bs,ok.bsz,ok.noex,ok.exfs,ok.funs,ok.frf⟩
theorem Cx.Ok.suite (ok:X.Ok)(pn:List (Addr × Obj))(ea:Addr):(X.suite pn ea).Ok :=
 ⟨ok.mod,ok.kind,ok.glob,ok.blt,ok.above,ok.inj,ok.has,ok.cab,(fun z=>nomatch z),ok.frames,ok.stk,ok.exf,ok.bs,ok.bsz,ok.noex,ok.exfs,ok.funs,ok.frf⟩
theorem Inv.tried (I:Inv X pins σ H s)(W:Value->Shared->Prop):Inv (X.tried (X.pn++pins) W) [] σ H s :=
 ⟨I.ok.tried _ _,I.os,I.bare,I.base,I.loc,I.cell,I.free,I.freeC,fun p hp=>I.pin p (by simpa using hp),I.hok,I.len⟩
theorem Inv.untried {p2:List (Addr × Obj)}(ok:X.Ok)(I:Inv (X.tried (X.pn++pins) W) p2 σ H s):Inv X pins σ H s :=
 ⟨ok,I.os,I.bare,I.base,I.loc,I.cell,I.free,I.freeC,fun p hp=>I.pin p (List.mem_append_left _ hp),I.hok,I.len⟩
theorem Inv.suite {oe:Obj}(I:Inv X pins σ H s)(e1:s.heap.get? ea=some oe)(e2:H ea=none)(e3:ea ≠ X.env.locals)(e4:ea ∉ X.fs)(e5:∀ v,oe.data ≠ .cell v):Inv (X.suite (X.pn++pins++[(ea,oe)]) ea) [] σ H s :=
 ⟨I.ok.suite _ _,I.os,I.bare,I.base,I.loc,I.cell,I.free,I.freeC,fun p hp=>by
  have hp':p ∈ X.pn++pins++[(ea,oe)]:=by simpa using hp
  rcases List.mem_append.mp hp' with z | z
  ·exact I.pin p z
  ·have q:p=(ea,oe):=by simpa using z
   subst q
   exact ⟨e1,e2,e3,e4,e5⟩,I.hok,I.len⟩
theorem Inv.unsuite {oe:Obj}{p2:List (Addr × Obj)}(ok:X.Ok)(I:Inv (X.suite (X.pn++pins++[(ea,oe)]) ea) p2 σ H s):Inv X pins σ H s :=
 ⟨ok,I.os,I.bare,I.base,I.loc,I.cell,I.free,I.freeC,fun p hp=>I.pin p (List.mem_append_left _ (List.mem_append_left _ hp)),I.hok,I.len⟩
structure VI (X:Cx)(pins:List (Addr × Obj))(b:Addr):Prop where
 s0:X.s₀.heap.get? b=none
 loc:b ≠ X.env.locals
 cel:∀ x c,X.env.cells.lookup x=some c->c ≠ b
 pin:∀ p ∈ X.pn++pins,p.1 ≠ b
 fs:b ∉ X.fs
theorem Inv.apart (I:Inv X pins σ H s)(hex:X.ex=[])(n:s.heap.get? b=none):VI X pins b where
 s0:=by
  cases z:X.s₀.heap.get? b with
  | none=>rfl
  | some o =>
   obtain ⟨o',q⟩:=I.base.there b o z (by rw [hex];exact fun z=>nomatch z)
   rw [n] at q
   cases q
 loc:=fun z=>by
  obtain ⟨m,⟨o,es,ep,ho,_⟩,_⟩:=I.loc
  rw [<- z,n] at ho
  cases ho
 cel:=fun x c e z=>by
  obtain ⟨v,o,ho,_⟩:=I.cell x c e
  rw [z,n] at ho
  cases ho
 pin:=fun p hp z=>by
  have q:=(I.pin p hp).1
  rw [z,n] at q
  cases q
 fs:=fun z=>by
  obtain ⟨_,o,ho,_⟩:=I.funs.mem z
  rw [n] at ho
  cases ho
theorem Inv.flown {S:List Addr}{h':Heap}(I:Inv X pins σ H s)(hf:X.env.frame=some X.env.locals)(hst:X.stack=X.env::X.outer)(hS:∀ c ∈ S,H c=none/\VI X pins c)(k:Kept (S++n6 X.stack) X.stack s.heap h'):Inv X pins σ H { s with heap:=h' }:=by
 have hL:X.env.locals ∈ n6 X.stack:=by
  rw [hst]
  exact ZU List.mem_cons_self hf
 have sub:∀ c,c ∈ X.fs->c ∈ n6 X.stack:=fun c hc=>by
  rw [hst]
  obtain ⟨x,hx,q⟩:=List.mem_filterMap.mp hc
  exact List.mem_filterMap.mpr ⟨x,List.mem_cons_of_mem _ hx,q⟩
 have celK:∀ x c,X.env.cells.lookup x=some c->∀ v,s.heap.IsCell c v->h'.IsCell c v:=fun x c e v ⟨o,ho,hd⟩=>by
  by_cases hc:c ∈ n6 X.stack
  ·obtain ⟨z,q⟩:=k.slot c o hc ho
   exact ⟨_,q,hd⟩
  ·exact ⟨o,k.keep c o (fun z=>(List.mem_append.mp z).elim (fun y=>(hS c y).2.cel x c e rfl) hc) ho,hd⟩
 refine ⟨I.ok,I.os,I.bare,I.base.off k.keep (fun c hc=>?_) (fun c o hc q=>k.slot c o (sub c hc) q),?_,fun x c e=>?_,I.free,I.freeC,fun p hp=>?_,I.hok.off k.keep (fun c hc=>?_),I.len⟩
 ·rcases List.mem_append.mp hc with z | z
  ·exact .inr (hS c z).2.s0
  ·rcases List.mem_cons.mp (I.stkSub c z) with y | y
   ·refine .inr ?_
    rw [y]
    exact Heap.get?_none_of_le I.ok.above
   ·exact .inl y
 ·obtain ⟨m,⟨o,es,ep,ho,r⟩,hl⟩:=I.loc
  obtain ⟨z,q⟩:=k.slot _ o hL ho
  refine ⟨m,⟨_,es,ep,q,r⟩,fun i x v e1 e2 e3=>?_⟩
  obtain ⟨u,r2,l⟩:=hl i x v e1 e2 e3
  refine ⟨u,r2,?_⟩
  rcases l with l | ⟨k1,c,e,y⟩
  ·exact .inl l
  ·exact .inr ⟨k1,c,e,celK x c e _ y⟩
 ·obtain ⟨v,z⟩:=I.cell x c e
  exact ⟨v,celK x c e v z⟩
 ·obtain ⟨e,n,ne,nf,d⟩:=I.pin p hp
  refine ⟨k.keep p.1 p.2 (fun z=>?_) e,n,ne,nf,d⟩
  rcases List.mem_append.mp z with y | y
  ·exact (hS p.1 y).2.pin p hp rfl
  ·rcases List.mem_cons.mp (I.stkSub p.1 y) with q | q
   ·exact ne q
   ·exact nf q
 ·rcases List.mem_append.mp hc with z | z
  ·exact (hS c z).1
  ·exact I.stkFree c z
theorem Inv.goes {M:Model}{A:Around}{Er:Value->Shared->Prop}{i:Nat}{n:Str}{pos:Pos}{Q:Unit->Shared->Prop}(I:Inv X pins σ H s)(hN:X.N.Nodup)(hi:X.N[i]?=some n)(hl:X.env.kindOf n=some .local)
  (h:∀ s',Inv X pins (σ.set i none) H s'->Q () s'):wpAny M A (do bindName X.env n .none;unbindBehindTheSuite X.env n pos) Q Er s:=by
 obtain ⟨m,hn,hv⟩:=id I.loc
 have iσ:i < σ.length:=by rw [I.len];exact (List.getElem?_eq_some_iff.mp hi).1
 refine wpAny_nameGoes_keeps hl hn (by rw [I.ok.kind];rfl) fun h' v hn' hs=>h _ ?_
 obtain ⟨oL,_,_,hoL,_⟩:=id hn
 have neL:∀ c o,X.s₀.heap.get? c=some o->c ≠ X.env.locals:=fun c o e z=>by
  rw [z,Heap.get?_none_of_le I.ok.above] at e
  cases e
 refine ⟨I.ok,I.os,I.bare,I.base.off (S:=[X.env.locals]) (fun c o nc q=>(hs.2 c (fun z=>nc (by simp [z]))).trans q) (fun c hc=>?_) (fun c o hc q=>⟨o.slots,(hs.2 c (fun z=>?_)).trans q⟩),⟨_,hn',fun j y v' e1 e2 e3=>?_⟩,fun y c e=>?_,I.free,I.freeC,fun p hp=>?_,
  I.hok.off (S:=[X.env.locals]) (fun c o nc q=>(hs.2 c (fun z=>nc (by simp [z]))).trans q) (fun c hc=>?_),by simpa using I.len⟩
 ·have z:c=X.env.locals:=by simpa using hc
  refine .inr ?_
  rw [z]
  exact Heap.get?_none_of_le I.ok.above
 ·rw [z] at hc
  obtain ⟨_,o2,h2,_⟩:=I.ok.funs.mem hc
  rw [Heap.get?_none_of_le I.ok.above] at h2
  cases h2
 ·by_cases hj:j=i
  ·subst hj
   rw [List.getElem?_set_self iσ] at e2
   cases e2
  ·rw [List.getElem?_set_ne (Ne.symm hj)] at e2
   obtain ⟨u',r',q⟩:=hv j y v' e1 e2 e3
   refine ⟨u',r',?_⟩
   rcases q with ⟨k,e⟩ | ⟨k,c,e,z⟩
   ·refine .inl ⟨k,?_⟩
    have ny:y ≠ n:=fun e=>hj (WC hN e1 (e ▸ hi))
    simp [ny,e]
   ·exact .inr ⟨k,c,e,z.sameBut hs (I.cne y c e)⟩
 ·obtain ⟨w',z⟩:=I.cell y c e
  exact ⟨w',z.sameBut hs (I.cne y c e)⟩
 ·obtain ⟨e,n,ne,nf,d⟩:=I.pin p hp
  exact ⟨(hs.2 p.1 ne).trans e,n,ne,nf,d⟩
 ·have z:c=X.env.locals:=by simpa using hc
  rw [z]
  exact I.free
end
theorem SP.untried {X:Cx}{pins p2:List (Addr × Obj)}{W:Value->Shared->Prop}{D:qL}{f:Flow}{s:Shared}(ok:X.Ok)(h:SP (X.tried (X.pn++pins) W) p2 D f s):SP X pins D f s:=by
 cases f with
 | next=>obtain ⟨σ',H',I,q⟩:=h;exact ⟨σ',H',I.untried ok,q⟩
 | brk=>obtain ⟨σ',H',I,q⟩:=h;exact ⟨σ',H',I.untried ok,q⟩
 | cont=>obtain ⟨σ',H',I,q⟩:=h;exact ⟨σ',H',I.untried ok,q⟩
 | ret u=>obtain ⟨v,σ',H',I,r,q⟩:=h;exact ⟨v,σ',H',I.untried ok,r,q⟩
theorem BD {S:List Addr}{l:List Env}{h h' base:Heap}(fr:h.FunFrames base l)(k:(PySem.W.hideAll h (S++n6 l)).StaysIn h')(up:h.UpToSlots h'):Kept (S++n6 l) l h h' :=
 ⟨fun b o nb q=>k b o (PySem.W.hideAll_get _ q nb),fun b o hb q=>up b o q (by
  obtain ⟨_,o2,z3,z4⟩:=fr.mem hb
  rw [q] at z3
  cases z3
  exact z4)⟩
section
variable {X:Cx}{x n:Str}{i:Nat}{D0:Addr}{E:XK}{body suite:List Stmt}{b₀:Stmt}{tb:TS}{ts:Addr->Value->TS}{np hpos pos:Pos}
end
end L2
namespace L2
open PySem PySem.Spec PyProof.Rows PySem.W Builtin Builtin.ObjectAttr Builtin.Getset_descriptor
theorem Ch:bootBuiltins "ValueError"=some (.type "ValueError"):=by decide +kernel

structure zt (K:Fg)(C:Addr):Prop where
 cls:(clsIn K C).isSome=true
 ga:findIn K (.ref C) "__getattribute__"=some (some (.builtin "BaseException.__getattribute__"))
 gt:findIn K (.ref C) "__getattr__"=some none
 cl:findIn K (.ref C) "__class__"=some (some (.builtin "object.__class__"))
 sp:specialIn K (.builtin "object.__class__") "__get__"=some (some (.builtin "getset_descriptor.__get__"))
 tk:takesIn K (.builtin "object.__class__")=some true
 ob:mroIn K C (.type "object")=some true
 be:mroIn K C (.type "BaseException")=some true
def ExcAt (ea C:Addr)(h:Heap):Prop:=∃ o,h.get? ea=some o/\o.cls = .ref C
theorem ExcAt.ty {ea C:Addr}{h:Heap}{M:Model}(p:ExcAt ea C h):Looks M h (typeOf (.ref ea)) (.ref C):=by
 obtain ⟨o,a,b⟩:=p
 exact b ▸ (Looks.ld a).andThen .now
section
variable {prog:Program}{w:World}{A:Around}{K:Fg}{s:Shared}{ea C:Addr}
theorem DJ {R:Result->Shared->Prop}{tp:Value}(T:zt K C)(X:K.In s.heap)(p:ExcAt ea C s.heap)(h:R (.ok (.ret (.ref C))) s) :
  codeAny (model prog w) A (.call (.builtin "getset_descriptor.__get__") ⟨[.builtin "object.__class__",.ref ea,tp],[]⟩) R s:=by
 cases s with
 | mk hp gs dr tk os =>
  have y0:=p.ty (M:=model prog w)
  have y1:=looks_mroIn (M:=model prog w) X T.ob
  refine codeAny_call_builtin KF.slot_gs.plain KF.entry_gs ?_
  refine KF.slot_gs.check _ _ _ _ _ _ _ _ KF.type_class (KF.args_gs _ _ _) ?_
  unfold Builtin.«getset_descriptor.__get__» descrGet
  rw [dga_obj (.builtin "object.__class__") tp ea]
  apply wpAny_bind
  apply wpAny_pure
  unfold descrGetter descrCheckInstance descrNameAndClass isInstance
  simp only [KF.owner_class]
  repeat lk
  constructor
  ·exact Code.quiet_builtin _ (by decide +kernel)
  ·refine codeAny_builtin KF.entry_class ?_
   unfold Builtin.«object.__class__» shownTypeOf
   repeat lk
   exact h
theorem DK {M:Model}(T:zt K C){h:Heap}(X:K.In h):Looks M h (find (.ref ea) (.ref C) "__class__") (.bind (.builtin "getset_descriptor.__get__") (.builtin "object.__class__")):=by
 have y1:=looks_findIn (M:=M) X T.cl
 have y2:Looks M h (getOf (some (.builtin "object.__class__"))) (some (.builtin "getset_descriptor.__get__")):=looks_specialIn X T.sp
 have y3:=looks_takesIn (M:=M) X T.tk
 have y4:Looks M h (dataDescriptor? (some (.builtin "object.__class__")) (some (.builtin "getset_descriptor.__get__"))) (some (.builtin "getset_descriptor.__get__",.builtin "object.__class__")):=y3.andThen .now
 exact y1.andThen (y2.andThen (y4.andThen (Looks.tag .now)))
theorem DI {Q:Option Value->Shared->Prop}{Er:Value->Shared->Prop}(T:zt K C)(X:K.In s.heap)(p:ExcAt ea C s.heap)(h:Q (some (.ref C)) { s with toks:=s.toks + 1 }):wpAny (model prog w) A (getAttr? (.ref ea) "__class__") Q Er s:=by
 cases s with
 | mk hp gs dr tk os =>
  have y0:=p.ty (M:=model prog w)
  have y1:=looks_findIn (M:=model prog w) X T.ga
  have y2:=looks_findIn (M:=model prog w) X T.gt
  have y3:=DK (M:=model prog w) (ea:=ea) T X
  have y4:=looks_mroIn (M:=model prog w) X T.be
  unfold getAttr? getAttrBy? getAttrBy
  refine wpAny_bind (wpAny_mkText (wpAny_bind (wpAny_attempt (wpAny_holding (wpAny_bind (y0.at ?_))))))
  refine wpAny_bind (y1.at ?_)
  have n1:(onTheHeap (Value.ref C) && Value.builtin "BaseException.__getattribute__" == Value.builtin "object.__getattribute__")=false:=by
   rw [show (Value.builtin "BaseException.__getattribute__" == Value.builtin "object.__getattribute__")=false by decide +kernel,Bool.and_false]
  dsimp only
  rw [n1,if_neg Bool.false_ne_true]
  unfold getAttrByItsOwn hookBefore
  rw [show onTheHeap (Value.ref C)=true from rfl,if_pos rfl]
  refine wpAny_bind (y2.at ?_)
  refine wpAny_bind (wpAny_attempt (wpAny_holding ?_))
  unfold callGetattribute boundAndCalled
  rw [Bool.false_and,if_neg Bool.false_ne_true]
  refine wpAny_bind (wpAny_of_eq (PySem.F.excAttr_ValueError.ga.bind (.ref ea)) ?_)
  refine wpAny_call (codeAny_call_builtin PySem.F.excAttr_ValueError.ga.plain PySem.F.entry_bexc_ga ?_)
  have hk:builtinKind "BaseException.__getattribute__"=some .slot:=by decide +kernel
  have hq:splitId "BaseException.__getattribute__"=some ("BaseException", "__getattribute__"):=by decide +kernel
  have ha:=PySem.F.args_bexc_ga (.ref ea) (.str "__class__" tk)
  simp only [checkBuiltinCall,hk,hq]
  have hb:Looks (model prog w) hp (isInstance (.ref ea) (.type "BaseException")) true:=y0.andThen y4
  refine wpAny_bind (hb.at ?_)
  rw [Bool.not_true]
  rw [if_neg Bool.false_ne_true]
  refine wpAny_of_eq ha ?_
  unfold Builtin.«object.__getattribute__»
  refine wpAny_bind (wpAny_pure ?_)
  refine wpAny_bind (wpAny_pure (wpAny_bind (y0.at (wpAny_bind (y3.at ?_)))))
  unfold bindTo
  show wpAny _ _ (holding [Value.builtin "object.__class__"] (call (.builtin "getset_descriptor.__get__") [.builtin "object.__class__",.ref ea,.ref C]) >>= ret) _ _ _
  refine wpAny_bind (wpAny_holding (wpAny_call (DJ T X p (wpAny_pure ?_))))
  refine handed_on rfl (wpAny_pure h)
end
theorem Ka {K:Fg}{ea C:Addr}(T:zt K C):KitX K (.ref ea) (.ref C) (ExcAt ea C) where
 ty:=fun _ _ _ p=>p.ty
 it:=fun M h X _=>by
  have z:=T.cls
  unfold clsIn at z
  split at z
  next c' d' cd' sl' ho =>
   intro A' Q' E' s' k q
   unfold isType loadHead
   refine wpAny_bind (wpAny_loadPart (k _ _ (X _ _ ho)) ?_)
   exact wpAny_pure q
  next=>cases z
 ne:=fun h tp dd its n sl X htp=>by
  cases hb:((.ref C:Value) == .ref tp) with
  | false=>rfl
  | true =>
   have e:C=tp:=Value.ref.inj (beq_iff_eq.mp hb)
   have z:=T.cls
   unfold clsIn at z
   split at z
   next c' d' cd' sl' ho =>
    have y:=X _ _ ho
    rw [e,htp] at y
    cases y
   next=>cases z
 ca:=fun X p k=>DI T X p k
section
variable {X:Cx}{K:Fg}{ea C:Addr}{oe:Obj}
theorem Gh (hK:X.K=K)(hp:(ea,oe) ∈ X.pn)(hc:oe.cls = .ref C)(T:zt K C):CallR X (.builtin "isinstance") (fun xs H Q=>∃ (c:V) (d:Value) (b:Bool),xs=[.ref ea,c]/\(∀ u,RelV c u->u=d)/\kitOne K (.ref C) d=some b/\Q (.bl b) H):=by
 subst hK
 intro pins s σ H xs us Q I r h
 obtain ⟨c,d,b,rfl,hd,e,q⟩:=h
 obtain ⟨u,w',rfl,rx,rw'⟩:=Vz r
 obtain rfl:u=Value.ref ea:=rx
 obtain rfl:=hd w' rw'
 have z:=(I.pin _ (List.mem_append_left _ hp)).1
 exact kia_one (Ka T) I.kIn ⟨oe,z,hc⟩ e (fun z=>nomatch z) fun tk=>⟨.bl b,H,I.tok _,rfl,q⟩
theorem Cz (hK:X.K=K)(hp:(ea,oe) ∈ X.pn)(hc:oe.cls = .ref C)(T:zt K C):CallR X (.builtin "isinstance") (fun xs H Q=>∃ (t:Addr) (cs:List V) (ds:List Value) (b:Bool),xs=[.ref ea,.ref t]/\H t=some (.tup cs)/\(∀ us,Vals cs us->us=ds)/\kitAny K (.ref C) ds=some b/\Q (.bl b) H):=by
 subst hK
 intro pins s σ H xs us Q I r h
 obtain ⟨t,cs,ds,b,rfl,ht,hd,e,q⟩:=h
 obtain ⟨u,w',rfl,rx,rw'⟩:=Vz r
 obtain rfl:u=Value.ref ea:=rx
 obtain rfl:w'=Value.ref t:=rw'
 have z:=(I.pin _ (List.mem_append_left _ hp)).1
 obtain ⟨_,its,rv,⟨⟨ocl,odd,oda,osl⟩,ho,hoc,n,hod⟩⟩:=(show ObjOk X.prog X.w H s.heap t (.tup cs) from I.hok t _ ht)
 obtain rfl:=hd its rv
 dsimp only at hoc hod
 subst hoc hod
 exact kia_tup (Ka T) I.kIn ⟨oe,z,hc⟩ ho e (fun z=>nomatch z) fun tk=>⟨.bl b,H,I.tok _,rfl,q⟩
end
end L2
namespace L2
open PySem PySem.Spec PyProof.Rows PySem.SeqAt
section
variable {X:Cx}{pins:List (Addr × Obj)}{σ:St}{H:Hp}{s:Shared}
end
end L2
namespace L2
open PySem PySem.Spec PyProof.Rows
section
variable {X:Cx}
end
end L2
namespace L2
open PySem PySem.Spec PyProof.Rows PySem.SeqAt
def EqP (K:Fg)(H:Hp):Nat->V->V->Bool->Prop
 | 0,x,y,b=>p0 x=true/\p0 y=true/\b=qw x y
 | n + 1,x,y,b=>(p0 x=true/\p0 y=true/\b=qw x y) ∨
  (∃ (a c:Addr) (xs ys:List V),x = .ref a/\y = .ref c/\SqL K H a xs/\SqL K H c ys/\((xs.length ≠ ys.length/\b=false) ∨ (xs.length=ys.length/\∃ e:Nat->Bool,(∀ j (h1:j < xs.length) (h2:j < ys.length),EqP K H n xs[j] ys[j] (e j))/\b=(List.range xs.length).all e))) ∨
  (∃ (a c:Addr) (xs ys:List V),x = .ref a/\y = .ref c/\SqT K H a xs/\SqT K H c ys/\∃ e:Nat->Bool,(∀ j (h1:j < xs.length) (h2:j < ys.length),EqP K H n xs[j] ys[j] (e j))/\b=((List.range (min xs.length ys.length)).all e && xs.length == ys.length)) ∨
  (∃ (a c:Addr) (xs ys:List V),x = .ref a/\y = .ref c/\SqL K H a xs/\SqT K H c ys/\b=false) ∨
  (∃ (a c:Addr) (xs ys:List V),x = .ref a/\y = .ref c/\SqT K H a xs/\SqL K H c ys/\b=false) ∨
  (∃ (c:Addr) (ys:List V),p0 x=true/\y = .ref c/\(SqL K H c ys ∨ SqT K H c ys)/\b=false) ∨
  (∃ (a:Addr) (xs:List V),p0 y=true/\x = .ref a/\(SqL K H a xs ∨ SqT K H a xs)/\b=false)
theorem Zv {x:V}(h:p0 x=true):qw x x=true:=by
 cases x <;> first | rfl | exact beq_self_eq_true _ | cases h
theorem Bc {A:Around}{s:Shared}{y x:V}{u v:Value}(ry:RelV y u)(rx:RelV x v)(fy:p0 y=true)(fx:p0 x=true):RcAt A s u v (qw y x):=by
 cases y with
 | non =>
  cases ry
  cases x with
  | non=>cases rx;exact RcAt.none_none
  | bl b=>cases rx;exact RcAt.none_bool b
  | int b=>obtain ⟨t2,rfl⟩:=rx;exact RcAt.none_int b t2
  | str b=>obtain ⟨t2,rfl⟩:=rx;exact RcAt.none_str b t2
  | _=>exact absurd (show false=true from fx) Bool.false_ne_true
 | bl a =>
  cases ry
  cases x with
  | non=>cases rx;exact RcAt.bool_none a
  | bl b=>cases rx;exact RcAt.bool_bool a b
  | int b=>obtain ⟨t2,rfl⟩:=rx;exact RcAt.bool_int a b t2
  | str b=>obtain ⟨t2,rfl⟩:=rx;exact RcAt.bool_str a b t2
  | _=>exact absurd (show false=true from fx) Bool.false_ne_true
 | int a =>
  obtain ⟨t1,rfl⟩:=ry
  cases x with
  | non=>cases rx;exact RcAt.int_none a t1
  | bl b=>cases rx;exact RcAt.int_bool a t1 b
  | int b=>obtain ⟨t2,rfl⟩:=rx;exact RcAt.int_int a t1 b t2
  | str b=>obtain ⟨t2,rfl⟩:=rx;exact RcAt.int_str a t1 b t2
  | _=>exact absurd (show false=true from fx) Bool.false_ne_true
 | str a =>
  obtain ⟨t1,rfl⟩:=ry
  cases x with
  | non=>cases rx;exact RcAt.str_none a t1
  | bl b=>cases rx;exact RcAt.str_bool a t1 b
  | int b=>obtain ⟨t2,rfl⟩:=rx;exact RcAt.str_int a t1 b t2
  | str b=>obtain ⟨t2,rfl⟩:=rx;exact RcAt.str_str a t1 b t2
  | _=>exact absurd (show false=true from fx) Bool.false_ne_true
 | _=>exact absurd (show false=true from fy) Bool.false_ne_true
theorem Bd {A:Around}{s:Shared}{y x:V}{u v:Value}(ry:RelV y u)(rx:RelV x v)(fy:p0 y=true)(fx:p0 x=true):RcNeAt A s u v (!qw y x):=by
 cases y with
 | non =>
  cases ry
  cases x with
  | non=>cases rx;exact RcNeAt.none_none
  | bl b=>cases rx;exact RcNeAt.none_bool b
  | int b=>obtain ⟨t2,rfl⟩:=rx;exact RcNeAt.none_int b t2
  | str b=>obtain ⟨t2,rfl⟩:=rx;exact RcNeAt.none_str b t2
  | _=>exact absurd (show false=true from fx) Bool.false_ne_true
 | bl a =>
  cases ry
  cases x with
  | non=>cases rx;exact RcNeAt.bool_none a
  | bl b=>cases rx;exact RcNeAt.bool_bool a b
  | int b=>obtain ⟨t2,rfl⟩:=rx;exact RcNeAt.bool_int a b t2
  | str b=>obtain ⟨t2,rfl⟩:=rx;exact RcNeAt.bool_str a b t2
  | _=>exact absurd (show false=true from fx) Bool.false_ne_true
 | int a =>
  obtain ⟨t1,rfl⟩:=ry
  cases x with
  | non=>cases rx;exact RcNeAt.int_none a t1
  | bl b=>cases rx;exact RcNeAt.int_bool a t1 b
  | int b=>obtain ⟨t2,rfl⟩:=rx;exact RcNeAt.int_int a t1 b t2
  | str b=>obtain ⟨t2,rfl⟩:=rx;exact RcNeAt.int_str a t1 b t2
  | _=>exact absurd (show false=true from fx) Bool.false_ne_true
 | str a =>
  obtain ⟨t1,rfl⟩:=ry
  cases x with
  | non=>cases rx;exact RcNeAt.str_none a t1
  | bl b=>cases rx;exact RcNeAt.str_bool a t1 b
  | int b=>obtain ⟨t2,rfl⟩:=rx;exact RcNeAt.str_int a t1 b t2
  | str b=>obtain ⟨t2,rfl⟩:=rx;exact RcNeAt.str_str a t1 b t2
  | _=>exact absurd (show false=true from fx) Bool.false_ne_true
 | _=>exact absurd (show false=true from fy) Bool.false_ne_true
theorem Dx {A:Around}{s:Shared}{y:V}{u:Value}{l:Addr}{items:Array Value}(hl:s.heap.IsList l items)(hu:A.units < cLine)(ry:RelV y u)(fy:p0 y=true):EqAt A s u (.ref l) false:=by
 cases y with
 | non=>cases ry;exact EqAt.none_list hl hu
 | bl a=>cases ry;exact EqAt.bool_list a hl hu
 | int a=>obtain ⟨t1,rfl⟩:=ry;exact EqAt.int_list a t1 hl hu
 | str a=>obtain ⟨t1,rfl⟩:=ry;exact EqAt.str_list a t1 hl hu
 | _=>exact absurd (show false=true from fy) Bool.false_ne_true
theorem Dz {A:Around}{s:Shared}{y:V}{u:Value}{l:Addr}{items:Array Value}(hl:s.heap.IsList l items)(hu:A.units < cLine)(ry:RelV y u)(fy:p0 y=true):EqAt A s (.ref l) u false:=by
 cases y with
 | non=>cases ry;exact EqAt.list_none hl hu
 | bl a=>cases ry;exact EqAt.list_bool a hl hu
 | int a=>obtain ⟨t1,rfl⟩:=ry;exact EqAt.list_int a t1 hl hu
 | str a=>obtain ⟨t1,rfl⟩:=ry;exact EqAt.list_str a t1 hl hu
 | _=>exact absurd (show false=true from fy) Bool.false_ne_true
theorem Dy {A:Around}{s:Shared}{y:V}{u:Value}{l:Addr}{items:Array Value}(hl:s.heap.IsTuple l items)(hu:A.units < cLine)(ry:RelV y u)(fy:p0 y=true):EqAt A s u (.ref l) false:=by
 cases y with
 | non=>cases ry;exact EqAt.none_tuple hl hu
 | bl a=>cases ry;exact EqAt.bool_tuple a hl hu
 | int a=>obtain ⟨t1,rfl⟩:=ry;exact EqAt.int_tuple a t1 hl hu
 | str a=>obtain ⟨t1,rfl⟩:=ry;exact EqAt.str_tuple a t1 hl hu
 | _=>exact absurd (show false=true from fy) Bool.false_ne_true
theorem DA {A:Around}{s:Shared}{y:V}{u:Value}{l:Addr}{items:Array Value}(hl:s.heap.IsTuple l items)(hu:A.units < cLine)(ry:RelV y u)(fy:p0 y=true):EqAt A s (.ref l) u false:=by
 cases y with
 | non=>cases ry;exact EqAt.tuple_none hl hu
 | bl a=>cases ry;exact EqAt.tuple_bool a hl hu
 | int a=>obtain ⟨t1,rfl⟩:=ry;exact EqAt.tuple_int a t1 hl hu
 | str a=>obtain ⟨t1,rfl⟩:=ry;exact EqAt.tuple_str a t1 hl hu
 | _=>exact absurd (show false=true from fy) Bool.false_ne_true
theorem Rc {A:Around}{s:Shared}{y:V}{u:Value}{l:Addr}{items:Array Value}(hl:s.heap.IsList l items)(hu:A.units < cLine)(ry:RelV y u)(fy:p0 y=true):RcAt A s u (.ref l) false:=by
 cases y with
 | non=>cases ry;exact RcAt.none_list hl hu
 | bl a=>cases ry;exact RcAt.bool_list a hl hu
 | int a=>obtain ⟨t1,rfl⟩:=ry;exact RcAt.int_list a t1 hl hu
 | str a=>obtain ⟨t1,rfl⟩:=ry;exact RcAt.str_list a t1 hl hu
 | _=>exact absurd (show false=true from fy) Bool.false_ne_true
theorem Rf {A:Around}{s:Shared}{y:V}{u:Value}{l:Addr}{items:Array Value}(hl:s.heap.IsList l items)(hu:A.units < cLine)(ry:RelV y u)(fy:p0 y=true):RcAt A s (.ref l) u false:=by
 cases y with
 | non=>cases ry;exact RcAt.list_none hl hu
 | bl a=>cases ry;exact RcAt.list_bool a hl hu
 | int a=>obtain ⟨t1,rfl⟩:=ry;exact RcAt.list_int a t1 hl hu
 | str a=>obtain ⟨t1,rfl⟩:=ry;exact RcAt.list_str a t1 hl hu
 | _=>exact absurd (show false=true from fy) Bool.false_ne_true
theorem Re {A:Around}{s:Shared}{y:V}{u:Value}{l:Addr}{items:Array Value}(hl:s.heap.IsTuple l items)(hu:A.units < cLine)(ry:RelV y u)(fy:p0 y=true):RcAt A s u (.ref l) false:=by
 cases y with
 | non=>cases ry;exact RcAt.none_tuple hl hu
 | bl a=>cases ry;exact RcAt.bool_tuple a hl hu
 | int a=>obtain ⟨t1,rfl⟩:=ry;exact RcAt.int_tuple a t1 hl hu
 | str a=>obtain ⟨t1,rfl⟩:=ry;exact RcAt.str_tuple a t1 hl hu
 | _=>exact absurd (show false=true from fy) Bool.false_ne_true
theorem Rg {A:Around}{s:Shared}{y:V}{u:Value}{l:Addr}{items:Array Value}(hl:s.heap.IsTuple l items)(hu:A.units < cLine)(ry:RelV y u)(fy:p0 y=true):RcAt A s (.ref l) u false:=by
 cases y with
 | non=>cases ry;exact RcAt.tuple_none hl hu
 | bl a=>cases ry;exact RcAt.tuple_bool a hl hu
 | int a=>obtain ⟨t1,rfl⟩:=ry;exact RcAt.tuple_int a t1 hl hu
 | str a=>obtain ⟨t1,rfl⟩:=ry;exact RcAt.tuple_str a t1 hl hu
 | _=>exact absurd (show false=true from fy) Bool.false_ne_true
theorem Rh {A:Around}{s:Shared}{y:V}{u:Value}{l:Addr}{items:Array Value}(hl:s.heap.IsList l items)(hu:A.units < cLine)(ry:RelV y u)(fy:p0 y=true):RcNeAt A s u (.ref l) true:=by
 cases y with
 | non=>cases ry;exact RcNeAt.none_list hl hu
 | bl a=>cases ry;exact RcNeAt.bool_list a hl hu
 | int a=>obtain ⟨t1,rfl⟩:=ry;exact RcNeAt.int_list a t1 hl hu
 | str a=>obtain ⟨t1,rfl⟩:=ry;exact RcNeAt.str_list a t1 hl hu
 | _=>exact absurd (show false=true from fy) Bool.false_ne_true
theorem Rj {A:Around}{s:Shared}{y:V}{u:Value}{l:Addr}{items:Array Value}(hl:s.heap.IsList l items)(hu:A.units < cLine)(ry:RelV y u)(fy:p0 y=true):RcNeAt A s (.ref l) u true:=by
 cases y with
 | non=>cases ry;exact RcNeAt.list_none hl hu
 | bl a=>cases ry;exact RcNeAt.list_bool a hl hu
 | int a=>obtain ⟨t1,rfl⟩:=ry;exact RcNeAt.list_int a t1 hl hu
 | str a=>obtain ⟨t1,rfl⟩:=ry;exact RcNeAt.list_str a t1 hl hu
 | _=>exact absurd (show false=true from fy) Bool.false_ne_true
theorem Ri {A:Around}{s:Shared}{y:V}{u:Value}{l:Addr}{items:Array Value}(hl:s.heap.IsTuple l items)(hu:A.units < cLine)(ry:RelV y u)(fy:p0 y=true):RcNeAt A s u (.ref l) true:=by
 cases y with
 | non=>cases ry;exact RcNeAt.none_tuple hl hu
 | bl a=>cases ry;exact RcNeAt.bool_tuple a hl hu
 | int a=>obtain ⟨t1,rfl⟩:=ry;exact RcNeAt.int_tuple a t1 hl hu
 | str a=>obtain ⟨t1,rfl⟩:=ry;exact RcNeAt.str_tuple a t1 hl hu
 | _=>exact absurd (show false=true from fy) Bool.false_ne_true
theorem Rk {A:Around}{s:Shared}{y:V}{u:Value}{l:Addr}{items:Array Value}(hl:s.heap.IsTuple l items)(hu:A.units < cLine)(ry:RelV y u)(fy:p0 y=true):RcNeAt A s (.ref l) u true:=by
 cases y with
 | non=>cases ry;exact RcNeAt.tuple_none hl hu
 | bl a=>cases ry;exact RcNeAt.tuple_bool a hl hu
 | int a=>obtain ⟨t1,rfl⟩:=ry;exact RcNeAt.tuple_int a t1 hl hu
 | str a=>obtain ⟨t1,rfl⟩:=ry;exact RcNeAt.tuple_str a t1 hl hu
 | _=>exact absurd (show false=true from fy) Bool.false_ne_true
section
variable {X:Cx}{pins:List (Addr × Obj)}{σ:St}{H:Hp}{s:Shared}
theorem Zu (I:Inv X pins σ H s):∀ (n:Nat) {x:V} {b:Bool},EqP X.K H n x x b->b=true
 | 0,x,b,h=>by obtain ⟨h1,_,rfl⟩:=h;exact Zv h1
 | n + 1,x,b,h=>by
  rcases h with ⟨h1,_,rfl⟩ | ⟨a,c,xs,ys,rfl,e2,p1,p2,h⟩ | ⟨a,c,xs,ys,rfl,e2,p1,p2,e,he,rfl⟩ | ⟨a,c,xs,ys,rfl,e2,p1,p2,_⟩ | ⟨a,c,xs,ys,rfl,e2,p1,p2,_⟩ | ⟨c,ys,f,rfl,_⟩ | ⟨c,ys,f,rfl,_⟩
  ·exact Zv h1
  ·cases e2
   cases I.list_inj p1 p2
   rcases h with ⟨h,_⟩ | ⟨_,e,he,rfl⟩
   ·exact absurd rfl h
   ·rw [List.all_eq_true]
    exact fun j hj=>Zu I n (he j (List.mem_range.mp hj) (List.mem_range.mp hj))
  ·cases e2
   cases I.tuple_inj p1 p2
   rw [Nat.min_self,beq_self_eq_true,Bool.and_true,List.all_eq_true]
   exact fun j hj=>Zu I n (he j (List.mem_range.mp hj) (List.mem_range.mp hj))
  ·cases e2
   obtain ⟨_,_,⟨o1,_,q1,c1,_⟩,_⟩:=I.list p1
   obtain ⟨_,_,⟨o2,q2,c2,_⟩,_⟩:=I.tuple p2
   rw [q1] at q2;cases q2;rw [c1] at c2;exact absurd c2 (by decide)
  ·cases e2
   obtain ⟨_,_,⟨o2,q2,c2,_⟩,_⟩:=I.tuple p1
   obtain ⟨_,_,⟨o1,_,q1,c1,_⟩,_⟩:=I.list p2
   rw [q1] at q2;cases q2;rw [c1] at c2;exact absurd c2 (by decide)
  ·cases f
  ·cases f
theorem vP (I:Inv X pins σ H s):∀ (n:Nat) (A:Around) {x y:V} {u v:Value} {b:Bool},A.units + n < cLine->EqP X.K H n x y b->RelV x u->RelV y v->EqAt A s u v b
 | 0,A,x,y,u,v,b,hu,h,r1,r2=>by obtain ⟨h1,h2,rfl⟩:=h;exact Wa r1 r2 h1 h2
 | n + 1,A,x,y,u,v,b,hu,h,r1,r2=>by
  have h':=h
  rcases h with ⟨h1,h2,rfl⟩ | ⟨a,c,xs,ys,rfl,rfl,p1,p2,h⟩ | ⟨a,c,xs,ys,rfl,rfl,p1,p2,e,he,rfl⟩ | ⟨a,c,xs,ys,rfl,rfl,p1,p2,rfl⟩ | ⟨a,c,xs,ys,rfl,rfl,p1,p2,rfl⟩ | ⟨c,ys,f,rfl,p,rfl⟩ | ⟨c,ys,f,rfl,p,rfl⟩
  ·exact Wa r1 r2 h1 h2
  ·cases r1
   cases r2
   by_cases hac:a=c
   ·subst hac
    have hb:=Zu I (n + 1) h'
    rw [hb]
    exact EqAt.same _
   obtain ⟨us,v1,q1,_⟩:=I.list p1
   obtain ⟨ws,v2,q2,_⟩:=I.list p2
   have l1:=v1.length
   have l2:=v2.length
   refine EqAt.of_refs hac ?_
   rcases h with ⟨h,rfl⟩ | ⟨hl,e,he,rfl⟩
   ·exact RcAt.lists_lengths q1.isList q2.isList (by rw [List.size_toArray,List.size_toArray];simp;omega) (by omega)
   ·have q:=RcAt.lists (A:=A) (s:=s) q1.isList q2.isList (by rw [List.size_toArray,List.size_toArray];omega) (by omega) (e:=e) (fun j j1 j2=>?_)
    ·rw [List.size_toArray,<- l1] at q
     exact q
    ·have j1':j < us.length:=by simpa using j1
     have j2':j < ws.length:=by simpa using j2
     rw [List.getElem_toArray,List.getElem_toArray]
     exact vP I n A.in1 (by show A.units + 1 + n < cLine;omega) (he j (by omega) (by omega)) (zq v1 j (by omega) j1') (zq v2 j (by omega) j2')
  ·cases r1
   cases r2
   by_cases hac:a=c
   ·subst hac
    have hb:=Zu I (n + 1) h'
    rw [hb]
    exact EqAt.same _
   obtain ⟨us,v1,q1,_⟩:=I.tuple p1
   obtain ⟨ws,v2,q2,_⟩:=I.tuple p2
   have l1:=v1.length
   have l2:=v2.length
   refine EqAt.of_refs hac ?_
   have q:=RcAt.tuples (A:=A) (s:=s) q1 q2 (by omega) (e:=e) (fun j j1 j2=>?_)
   ·rw [List.size_toArray,List.size_toArray,<- l1,<- l2] at q
    exact q
   ·have j1':j < us.length:=by simpa using j1
    have j2':j < ws.length:=by simpa using j2
    rw [List.getElem_toArray,List.getElem_toArray]
    exact vP I n A.in1 (by show A.units + 1 + n < cLine;omega) (he j (by omega) (by omega)) (zq v1 j (by omega) j1') (zq v2 j (by omega) j2')
  ·cases r1
   cases r2
   obtain ⟨us,v1,q1,_⟩:=I.list p1
   obtain ⟨ws,v2,q2,_⟩:=I.tuple p2
   exact EqAt.list_tuple q1.isList q2 (by omega)
  ·cases r1
   cases r2
   obtain ⟨us,v1,q1,_⟩:=I.tuple p1
   obtain ⟨ws,v2,q2,_⟩:=I.list p2
   exact EqAt.tuple_list q1 q2.isList (by omega)
  ·cases r2
   rcases p with p | p
   ·obtain ⟨us,v1,q1,_⟩:=I.list p
    exact Dx q1.isList (by omega) r1 f
   ·obtain ⟨us,v1,q1,_⟩:=I.tuple p
    exact Dy q1 (by omega) r1 f
  ·cases r1
   rcases p with p | p
   ·obtain ⟨us,v1,q1,_⟩:=I.list p
    exact Dz q1.isList (by omega) r2 f
   ·obtain ⟨us,v1,q1,_⟩:=I.tuple p
    exact DA q1 (by omega) r2 f
theorem rc_at (I:Inv X pins σ H s){n:Nat}{A:Around}{x y:V}{u v:Value}{b:Bool}(hu:A.units + n < cLine)(h:EqP X.K H n x y b)(r1:RelV x u)(r2:RelV y v):RcAt A s u v b:=by
 cases n with
 | zero=>obtain ⟨h1,h2,rfl⟩:=h;exact Bc r1 r2 h1 h2
 | succ n =>
  rcases h with ⟨h1,h2,rfl⟩ | ⟨a,c,xs,ys,rfl,rfl,p1,p2,h⟩ | ⟨a,c,xs,ys,rfl,rfl,p1,p2,e,he,rfl⟩ | ⟨a,c,xs,ys,rfl,rfl,p1,p2,rfl⟩ | ⟨a,c,xs,ys,rfl,rfl,p1,p2,rfl⟩ | ⟨c,ys,f,rfl,p,rfl⟩ | ⟨c,ys,f,rfl,p,rfl⟩
  ·exact Bc r1 r2 h1 h2
  ·cases r1
   cases r2
   obtain ⟨us,v1,q1,_⟩:=I.list p1
   obtain ⟨ws,v2,q2,_⟩:=I.list p2
   have l1:=v1.length
   have l2:=v2.length
   rcases h with ⟨h,rfl⟩ | ⟨hl,e,he,rfl⟩
   ·exact RcAt.lists_lengths q1.isList q2.isList (by rw [List.size_toArray,List.size_toArray];simp;omega) (by omega)
   ·have q:=RcAt.lists (A:=A) (s:=s) q1.isList q2.isList (by rw [List.size_toArray,List.size_toArray];omega) (by omega) (e:=e) (fun j j1 j2=>?_)
    ·rw [List.size_toArray,<- l1] at q
     exact q
    ·have j1':j < us.length:=by simpa using j1
     have j2':j < ws.length:=by simpa using j2
     rw [List.getElem_toArray,List.getElem_toArray]
     exact vP I n A.in1 (by show A.units + 1 + n < cLine;omega) (he j (by omega) (by omega)) (zq v1 j (by omega) j1') (zq v2 j (by omega) j2')
  ·cases r1
   cases r2
   obtain ⟨us,v1,q1,_⟩:=I.tuple p1
   obtain ⟨ws,v2,q2,_⟩:=I.tuple p2
   have l1:=v1.length
   have l2:=v2.length
   have q:=RcAt.tuples (A:=A) (s:=s) q1 q2 (by omega) (e:=e) (fun j j1 j2=>?_)
   ·rw [List.size_toArray,List.size_toArray,<- l1,<- l2] at q
    exact q
   ·have j1':j < us.length:=by simpa using j1
    have j2':j < ws.length:=by simpa using j2
    rw [List.getElem_toArray,List.getElem_toArray]
    exact vP I n A.in1 (by show A.units + 1 + n < cLine;omega) (he j (by omega) (by omega)) (zq v1 j (by omega) j1') (zq v2 j (by omega) j2')
  ·cases r1
   cases r2
   obtain ⟨us,v1,q1,_⟩:=I.list p1
   obtain ⟨ws,v2,q2,_⟩:=I.tuple p2
   exact RcAt.list_tuple q1.isList q2 (by omega)
  ·cases r1
   cases r2
   obtain ⟨us,v1,q1,_⟩:=I.tuple p1
   obtain ⟨ws,v2,q2,_⟩:=I.list p2
   exact RcAt.tuple_list q1 q2.isList (by omega)
  ·cases r2
   rcases p with p | p
   ·obtain ⟨us,v1,q1,_⟩:=I.list p
    exact Rc q1.isList (by omega) r1 f
   ·obtain ⟨us,v1,q1,_⟩:=I.tuple p
    exact Re q1 (by omega) r1 f
  ·cases r1
   rcases p with p | p
   ·obtain ⟨us,v1,q1,_⟩:=I.list p
    exact Rf q1.isList (by omega) r2 f
   ·obtain ⟨us,v1,q1,_⟩:=I.tuple p
    exact Rg q1 (by omega) r2 f
theorem Rl (I:Inv X pins σ H s){n:Nat}{A:Around}{x y:V}{u v:Value}{b:Bool}(hu:A.units + n < cLine)(h:EqP X.K H n x y b)(r1:RelV x u)(r2:RelV y v):RcNeAt A s u v (!b):=by
 cases n with
 | zero=>obtain ⟨h1,h2,rfl⟩:=h;exact Bd r1 r2 h1 h2
 | succ n =>
  rcases h with ⟨h1,h2,rfl⟩ | ⟨a,c,xs,ys,rfl,rfl,p1,p2,h⟩ | ⟨a,c,xs,ys,rfl,rfl,p1,p2,e,he,rfl⟩ | ⟨a,c,xs,ys,rfl,rfl,p1,p2,rfl⟩ | ⟨a,c,xs,ys,rfl,rfl,p1,p2,rfl⟩ | ⟨c,ys,f,rfl,p,rfl⟩ | ⟨c,ys,f,rfl,p,rfl⟩
  ·exact Bd r1 r2 h1 h2
  ·cases r1
   cases r2
   obtain ⟨us,v1,q1,_⟩:=I.list p1
   obtain ⟨ws,v2,q2,_⟩:=I.list p2
   have l1:=v1.length
   have l2:=v2.length
   rcases h with ⟨h,rfl⟩ | ⟨hl,e,he,rfl⟩
   ·exact RcNeAt.lists_lengths q1.isList q2.isList (by rw [List.size_toArray,List.size_toArray];simp;omega) (by omega)
   ·have q:=RcNeAt.lists (A:=A) (s:=s) q1.isList q2.isList (by rw [List.size_toArray,List.size_toArray];omega) (by omega) (e:=e) (fun j j1 j2=>?_)
    ·rw [List.size_toArray,<- l1] at q
     exact q
    ·have j1':j < us.length:=by simpa using j1
     have j2':j < ws.length:=by simpa using j2
     rw [List.getElem_toArray,List.getElem_toArray]
     exact vP I n A.in1 (by show A.units + 1 + n < cLine;omega) (he j (by omega) (by omega)) (zq v1 j (by omega) j1') (zq v2 j (by omega) j2')
  ·cases r1
   cases r2
   obtain ⟨us,v1,q1,_⟩:=I.tuple p1
   obtain ⟨ws,v2,q2,_⟩:=I.tuple p2
   have l1:=v1.length
   have l2:=v2.length
   have q:=RcNeAt.tuples (A:=A) (s:=s) q1 q2 (by omega) (e:=e) (fun j j1 j2=>?_)
   ·rw [List.size_toArray,List.size_toArray,<- l1,<- l2] at q
    exact q
   ·have j1':j < us.length:=by simpa using j1
    have j2':j < ws.length:=by simpa using j2
    rw [List.getElem_toArray,List.getElem_toArray]
    exact vP I n A.in1 (by show A.units + 1 + n < cLine;omega) (he j (by omega) (by omega)) (zq v1 j (by omega) j1') (zq v2 j (by omega) j2')
  ·cases r1
   cases r2
   obtain ⟨us,v1,q1,_⟩:=I.list p1
   obtain ⟨ws,v2,q2,_⟩:=I.tuple p2
   exact RcNeAt.list_tuple q1.isList q2 (by omega)
  ·cases r1
   cases r2
   obtain ⟨us,v1,q1,_⟩:=I.tuple p1
   obtain ⟨ws,v2,q2,_⟩:=I.list p2
   exact RcNeAt.tuple_list q1 q2.isList (by omega)
  ·cases r2
   rcases p with p | p
   ·obtain ⟨us,v1,q1,_⟩:=I.list p
    exact Rh q1.isList (by omega) r1 f
   ·obtain ⟨us,v1,q1,_⟩:=I.tuple p
    exact Ri q1 (by omega) r1 f
  ·cases r1
   rcases p with p | p
   ·obtain ⟨us,v1,q1,_⟩:=I.list p
    exact Rj q1.isList (by omega) r2 f
   ·obtain ⟨us,v1,q1,_⟩:=I.tuple p
    exact Rk q1 (by omega) r2 f
def rEqD (K:Fg)(n:Nat)(neg:Bool):R2:=fun x y H Q=>∃ b,EqP K H n x y b/\Q (.bl (if neg then !b else b)) H
theorem zf {K:Fg}{n:Nat}(hu:X.A.units + n < cLine)(hK:X.K=K):OpR X (compareOp .Eq) (rEqD K n false):=by
 subst hK
 intro pins s σ H x y v u Q I rx ry h
 obtain ⟨b,h,q⟩:=h
 exact rc_at I hu h rx ry X.prog X.w X.xe _ ⟨.bl b,H,I,rfl,q⟩
theorem jN {K:Fg}{n:Nat}(hu:X.A.units + n < cLine)(hK:X.K=K):OpR X (compareOp .NotEq) (rEqD K n true):=by
 subst hK
 intro pins s σ H x y v u Q I rx ry h
 obtain ⟨b,h,q⟩:=h
 exact Rl I hu h rx ry X.prog X.w X.xe _ ⟨.bl (!b),H,I,rfl,q⟩
theorem qF {A:Around}{k:Nat}(hr:Room k A):A.units + 6 < cLine:=by have:=hr.units;omega
end
end L2
namespace L2
open PySem PySem.Spec PyProof.Rows
section
variable {X:Cx}{K:Fg}
def rAddS:R2:=fun x y H Q=>∃ i j,x = .str i/\y = .str j/\i.length + j.length<=sizeLine/\Q (.str (i++j)) H
def KK (K:Fg):R2:=fun x y H Q=>(rI0 fun i j=> .int (i + j)) x y H Q ∨ rAddS x y H Q ∨ KM K x y H Q ∨ KN K x y H Q
theorem qP (h:X.K=K):OpR X (binaryOp .Add) (KK K):=by subst h;exact op_add.or (op_add_str.or (op_catL.or Hc))
theorem o9 (h:X.K=K):IxR X (rIx K):=by subst h;exact MQ
def rLen (K:Fg):List V->Hp->VK->Prop:=fun xs H Q=>(∃ x n,xs=[x]/\LenV K x H n/\Q (.int n) H) ∨ ∃ a kvs,xs=[V.ref a]/\H a=some (.dK kvs)/\Q (.int kvs.length) H
theorem xL (h:X.K=K):CallR X (.builtin "len") (rLen K):=by
 subst h
 exact CallR.or (f:= .builtin "len") CA CB
theorem HX {a:Expr}{ta:TE}(h:X.K=K)(ha:PE X a ta)(he:∀ whole,isTrue a X.env whole=(do let v <- whole;standAt a.pos;holding [v] (truthy v))):PT X a (fun σ H Q=>ta σ H fun x H'=>∃ k,TruV K x H' k/\Q k H'):=by
 subst h;exact HY ha he
theorem He (h:X.K=K):OpR X (compareOp .In) (rIn K false):=by subst h;exact Kq
theorem Ku (h:X.K=K):OpR X (compareOp .NotIn) (rIn K true):=by subst h;exact Hh
def KQ (K:Fg):List V->Hp->VK->Prop:=fun xs H Q=>∃ p ys,xs=[.ref p]/\(SqL K H p ys ∨ SqT K H p ys)/\∀ l,H l=none->Q (.ref l) (j9 H l (.lst ys))
theorem VN (h:X.K=K):CallR X (.type "list") (KQ K):=by subst h;exact CG
def rIsi (K:Fg):List V->Hp->VK->Prop:=fun xs H Q=>∃ x n T b,xs=[x,.ty n]/\xP K H x (.type T)/\tyB T n=some b/\Q (.bl b) H
theorem jY (h:X.K=K):CallR X (.builtin "isinstance") (rIsi K):=by subst h;exact Cy
def KL (K:Fg):List V->Hp->VK->Prop:=fun xs H Q=>∃ (a:Addr) (bs:List Bool),xs=[.ref a]/\SqL K H a (bs.map V.bl)/\Q (.bl (bs.all id)) H
theorem QD (hc:X.calm=true)(h:X.K=K):CallR X (.builtin "all") (KL K):=by subst h;exact Cu hc
def Ba (K:Fg):List V->Hp->VK->Prop:=fun xs H Q=>∃ (a:Addr) (ns:List Int),xs=[.ref a]/\SqL K H a (ns.map V.int)/\Q (.int ns.sum) H
theorem CO (hc:X.calm=true)(h:X.K=K):CallR X (.builtin "sum") (Ba K):=by subst h;exact Gj hc
def KR:List V->Hp->VK->Prop:=fun xs H Q=>∃ i j,xs=[.int i,.int j]/\Q (.int (if j < i then j else i)) H
theorem CI (hc:X.calm=true):CallR X (.builtin "min") KR:=CH hc
def rIsN:R2:=fun x y H Q=>y = .non/\Q (.bl (decide (x = .non))) H
def KU:R2:=fun x y H Q=>y = .non/\Q (.bl (!decide (x = .non))) H
theorem Kr:OpR X (compareOp .Is) rIsN:=Hf
theorem Hj:OpR X (compareOp .IsNot) KU:=Hi
theorem Cr:bootBuiltins "tuple"=some (.type "tuple"):=by decide +kernel
theorem Cn:bootBuiltins "max"=some (.builtin "max"):=by decide +kernel
theorem Cq:bootBuiltins "sorted"=some (.builtin "sorted"):=by decide +kernel
theorem Cj:bootBuiltins "dict"=some (.type "dict"):=by decide +kernel
theorem Sh:tyB "tuple" "tuple"=some true:=by decide +kernel
end
section
variable {X:Cx}{K:Fg}{o e:Expr}{es:List Expr}{to:TE}{t:TA}{name:Str}{apos cpos:Pos}{T id:String}{r:V->List V->Hp->VK->Prop}
theorem Qg (hK:X.K=K)(pa:PlainAttrs T)(slot:Slot T name id)(hty:typeOf (.builtin id)=pure (.type "method_descriptor")) (hm:MtR X id r) (ho:PE X o to) (ha:PA X (e::es) t)
  (hbase:attributeBase o name X.env (eval o X.env)=eval o X.env:=by rfl)
  (hfew:((backTo cpos (starEach (e::es) X.env)).all (fun x=>!x.1) && (backToKw cpos (keywordEach [] X.env)).all (fun x=>x.1.isSome)
   && decide ((e::es).length + ([]:List Keyword).length + (if ([]:List Keyword).isEmpty then 0 else 1) < 30))=true:=by rfl)
  (hline:(apos.endLine == cpos.line)=true:=by rfl) (hs:starEach (e::es) X.env=(false,eval e X.env)::starEach es X.env:=by rfl) (hplain:(backTo cpos (starEach es X.env)).any (·.1)=false:=by rfl) :
  PE X (.Call (.Attribute o name apos) (e::es) [] cpos) (tBM K T r to t):=by
 subst hK;exact pe_bm pa slot hty hm ho ha hbase hfew hline hs hplain
end
end L2
namespace L2
open PySem PySem.Spec PySem.Calls
section
variable {P:Program}{w:World}{κ:Type}[DecidableEq κ]{knd:PySem.KeyKind P w κ}
def m9 (val:Nat->κ):Nat->List κ
 | 0=>[]
 | i + 1=>if val i ∈ m9 val i then m9 val i else m9 val i++[val i]
theorem WY (val:Nat->κ):∀ i,(m9 val i).length<=i
 | 0=>Nat.le_refl _
 | i + 1=>by
  have ih:=WY val i
  unfold m9
  split
  ·omega
  ·rw [List.length_append,List.length_singleton];omega
theorem Bv {h:Heap}{a:Addr}{S S':κ->Bool}{n n':Nat}(x:h.SetOf knd a S n)(e:∀ k,S k=S' k)(en:n=n'):h.SetOf knd a S' n':=by
 cases (funext e:S=S');cases en;exact x
theorem WZ {h h':Heap}{a:Addr}{S:κ->Bool}{n:Nat}(x:h.SetOf knd a S n)(e:∀ o,h.get? a=some o->h'.get? a=some o):h'.SetOf knd a S n:=by
 obtain ⟨o,es,ep,t,ho,r⟩:=x
 exact ⟨o,es,ep,t,e _ ho,r⟩
theorem Tt {A:Around}{R:Result->Shared->Prop}{I:Addr}{fp wr:List Addr}{G:Array GenState->Array GenState->Prop}{n:Nat}{Pp:Nat->Value->Prop}{St:Nat->Shared->Prop}
  (W:WalksS P w A.in1 I fp wr G n Pp St) (a:Addr) (ha:a ∉ fp) (val:Nat->κ) (hv:∀ i v,Pp i v->knd.is (val i) v=true/\v.scannable=true) (hb:n + 1 < scanBound) :
  ∀ (m i:Nat) (s:Shared),n - i=m->i<=n->St i s->s.heap.SetOf knd a (fun x=>decide (x ∈ m9 val i)) (m9 val i).length ->
   (∀ s',Moved (a::wr) G s s'->s'.heap.SetOf knd a (fun x=>decide (x ∈ m9 val n)) (m9 val n).length->R (.ok (.ret .none)) s') ->
   codeAny (model P w) A (.builtin "set.update.loop" ⟨[.ref a,.ref I],[]⟩) R s:=by
 have haw:a ∉ wr:=fun z=>ha (W.sub _ z)
 have up:∀ b ∈ wr,b ∈ a::wr:=fun b z=>List.mem_cons_of_mem _ z
 intro m
 induction m with
 | zero =>
  intro i s hm hi st hS hR
  obtain rfl:i=n:=by omega
  refine codeAny_builtin PyProof.Rows.F.entry_set_update_loop ?_
  rw [Around.under_plainId PyProof.Rows.F.plain_set_update_loop _];show wpAny _ A.in1 (pyNext (.ref I) >>= _) _ _ s
  refine wpAny_bind (W.done s _ _ st fun s' mv=>?_);show wpAny _ A.in1 (ret Value.none) _ _ s'
  exact wpAny_pure (hR s' (mv.mono up) (WZ hS fun o e=>mv.heap a o haw e))
 | succ m ih =>
  intro i s hm hi st hS hR
  have hlt:i < n:=by omega
  refine codeAny_builtin PyProof.Rows.F.entry_set_update_loop ?_
  rw [Around.under_plainId PyProof.Rows.F.plain_set_update_loop _];show wpAny _ A.in1 (pyNext (.ref I) >>= _) _ _ s
  refine wpAny_bind (W.item i s _ _ hlt st fun v s' hP st' mv=>?_)
  obtain ⟨hk,hsc⟩:=hv i v hP
  have hS':s'.heap.SetOf knd a (fun x=>decide (x ∈ m9 val i)) (m9 val i).length:=WZ hS fun o e=>mv.heap a o haw e
  show wpAny _ A.in1 (holding [v] (setAdd a v) >>= _) _ _ s'
  refine wpAny_bind (wpAny_holding ?_);unfold setAdd
  refine wpAny_holding (wpAny_bind (knd.pyHash (k:=val i) hk ?_))
  have room:(m9 val i).length + 1 < scanBound:=by have:=WY val i;omega
  refine wpAny_setAddHashed_of (knd:=knd) (s:={ s' with toks:=s'.toks + 1 }) hk hsc hS' room fun h' sb hS2=>?_
  have hSi:h'.SetOf knd a (fun x=>decide (x ∈ m9 val (i + 1))) (m9 val (i + 1)).length:=by
   refine Bv hS2 (fun x=>?_) ?_
   ·by_cases hc:val i ∈ m9 val i
    ·rw [show m9 val (i + 1)=m9 val i from if_pos hc]
     by_cases hx:x=val i
     ·subst hx;simp [hc]
     ·simp [hx]
    ·rw [show m9 val (i + 1)=m9 val i++[val i] from if_neg hc]
     simp
   ·by_cases hc:val i ∈ m9 val i
    ·rw [show m9 val (i + 1)=m9 val i from if_pos hc];simp [hc]
    ·rw [show m9 val (i + 1)=m9 val i++[val i] from if_neg hc];simp [hc]
  refine wpAny_pure ⟨plainId_quiet PyProof.Rows.F.plain_set_update_loop _,ih (i + 1) _ (by omega) hlt (W.frame _ s' _ _ st' (Nat.le_succ _) fun b z o e=>?_) hSi fun s2 mv2 hS3=>?_⟩
  ·rw [sb.2 b (fun q:b=a=>ha (by rw [<- q];exact z))];exact e
  ·refine hR s2 (Moved.trans W.gtrans ((mv.mono up).then_heap (Nat.le_succ _) fun b o z e=>?_) mv2) hS3
   rw [sb.2 b (fun q:b=a=>z (by rw [q];exact List.mem_cons_self))];exact e
theorem CL {A:Around}{E:Value->Shared->Prop}{s:Shared}{l:Addr}{its:Array Value}{val:Nat->κ}{Q:Value->Shared->Prop}(hh:A.handled=none)(hl:s.heap.IsList l its)
  (hv:∀ (i:Nat) (v:Value),its[i]?=some v->knd.is (val i) v=true/\v.scannable=true) (hb:its.size + 1 < scanBound)
  (h:∀ (h':Heap) (tk:Nat),h'.SetOf knd s.heap.objs.size (fun x=>decide (x ∈ m9 val its.size)) (m9 val its.size).length ->
   (∀ b o,s.heap.get? b=some o->h'.get? b=some o)->Q (.ref s.heap.objs.size) { s with heap:=h',toks:=tk }) :
  wpAny (model P w) A (call (.type "set") [.ref l]) Q E s:=by
 obtain ⟨c,tl,hmro⟩:=PySem.F.called_set.mro
 have hmade:=PySem.F.called_set.made
 have hsub:=PySem.F.called_set.sub
 refine wpAny_call (codeAny_of_tree ?_)
 show wpAny _ _ (callAny (.type "set") _) _ _ _
 refine wpAny_pure ⟨Code.quiet_builtin _ (by decide +kernel),codeAny_builtin PySem.F.entry_type_call ?_⟩
 rw [Around.under_plain (weight_type_call_type "set" [.ref l] []) rfl]
 have q1:=PySem.F.called_set.notType
 have q2:=PySem.F.called_set.canCreate
 have q3:=PySem.F.typeCall_set_1 (.ref l)
 (repeat (any_goals (first | assumption | wp_step)))
 refine codeAny_mono (code_set_new_1 (.ref l) (E:=E) (Q₁:=fun ob s1=>∃ led:Bool,ob = .ref s.heap.objs.size/\s1={ s with heap:=s.heap.push { cls:= .type "set",dict:=none,data:= .set #[] 0 (.fresh 0 0 led) } }) fun led=>⟨led,rfl,rfl⟩) fun r s1 hr=>?_
 cases r with
 | error e=>exact hr
 | ok fl =>
  cases fl with
  | ret ob =>
   obtain ⟨led,rfl,rfl⟩:=hr
   have hS:(s.heap.push { cls:= .type "set",dict:=none,data:= .set #[] 0 (.fresh 0 0 led) }).get? s.heap.objs.size=some { cls:= .type "set",dict:=none,data:= .set #[] 0 (.fresh 0 0 led) }:=Heap.get?_push_size _ rfl
   have hT:Shared.TypeIs { s with heap:=s.heap.push { cls:= .type "set",dict:=none,data:= .set #[] 0 (.fresh 0 0 led) } } (.ref s.heap.objs.size) "set":=⟨_,hS,rfl⟩
   have hli:=PySem.F.called_set.init.lookup
   have hbi:=PySem.F.called_set.init.bind (.ref s.heap.objs.size)
   (repeat (any_goals (first | assumption | wp_step)))
   refine codeAny_mono (codeAny_call_builtin (R:=wants (fun r s2=>r = .none/\∃ h' tk,s2={ s with heap:=h',toks:=tk }/\h'.SetOf knd s.heap.objs.size (fun x=>decide (x ∈ m9 val its.size)) (m9 val its.size).length /\
     (∀ b o,s.heap.get? b=some o->h'.get? b=some o)) E) PySem.F.called_set.init.plain PySem.F.entry_set_init (check_set_init_1 hT ?_)) fun r2 s2 hr2=>?_
   ·obtain ⟨ol,hol,hcl,nl,hdl⟩:=hl
    obtain ⟨ocls,odict,odata,oslots⟩:=ol
    simp only at hcl hdl
    subst hcl;subst hdl
    have hol':(s.heap.push { cls:= .type "set",dict:=none,data:= .set #[] 0 (.fresh 0 0 led) }).get? l=some { cls:= .type "list",dict:=odict,data:= .seq its nl,slots:=oslots }:=Heap.get?_push_of_some _ hol
    have z1:=PySem.F.sub_list_set
    have z2:=PySem.F.sub_list_frozenset
    have z3:(Value.type "list" == Value.type "dict")=false:=by decide
    have hl1:(s.heap.push { cls:= .type "set",dict:=none,data:= .set #[] 0 (.fresh 0 0 led) }).IsList l its:=⟨_,hol',rfl,nl,rfl⟩
    unfold Builtin.«set.__init__» noKeywords Builtin.Frozenset.updateFrom
    generalize hPI:pyIter=PI
    wp_walk
    subst hPI
    refine wpAny_pyIter_list hl1 ?_
    refine wpAny_bind (wpAny_runValue ?_)
    have hlS:l < s.heap.objs.size:=Heap.lt_size hol
    have h3:A.in1.in1.in1.handled=none:=by simp [hh]
    have ne1:l ≠ (s.heap.push { cls:= .type "set",dict:=none,data:= .set #[] 0 (.fresh 0 0 led) }).objs.size:=by rw [Heap.size_push];exact Nat.ne_of_lt (Nat.lt_succ_of_lt hlS)
    have ne2:s.heap.objs.size ∉ [(s.heap.push { cls:= .type "set",dict:=none,data:= .set #[] 0 (.fresh 0 0 led) }).objs.size,l]:=by
     rw [Heap.size_push];simp only [List.mem_cons,List.not_mem_nil,or_false,not_or];exact ⟨Nat.ne_of_lt (Nat.lt_succ_self _),Nat.ne_of_gt hlS⟩
    refine Tt (knd:=knd) ((Walks.list h3 _ l ne1 its).toS) s.heap.objs.size ne2 val hv hb (its.size - 0) 0 _ (by omega) (Nat.zero_le _) ⟨⟨_,Heap.get?_push_size _ rfl,rfl,rfl⟩,(hl1.push _)⟩ ?_ ?_
    ·have hg:((s.heap.push { cls:= .type "set",dict:=none,data:= .set #[] 0 (.fresh 0 0 led) }).push { cls:= .type "list_iterator",data:= .fields #[.ref l,.int 0 0] }).get? s.heap.objs.size=some { cls:= .type "set",dict:=none,data:= .set #[] 0 (.fresh 0 0 led) }:=Heap.get?_push_of_some _ hS
     exact Bv ((PyProof.Rows.setObjOf_fresh (knd:=knd) led).setOf hg (by unfold scanBound;omega)) (fun x=>by simp [m9]) rfl
    ·rintro ⟨h',g',d',tk',os'⟩ mv hS'
     have eg:g'=s.gens:=mv.gens
     have ed:d'=s.drawn:=mv.drawn
     have eo:os'=s.os:=mv.os
     subst eg ed eo
     show wpAny _ _ _ _ _ _
     refine wpAny_pure ?_
     show wpAny _ _ (ret Value.none) _ _ _
     refine wpAny_pure ⟨rfl,h',tk',rfl,hS',fun b o e=>?_⟩
     have hb0:=Heap.lt_size e
     refine mv.heap b o ?_ (Heap.get?_push_of_some _ (Heap.get?_push_of_some _ e))
     rw [Heap.size_push];simp only [List.mem_cons,List.not_mem_nil,or_false,not_or];exact ⟨Nat.ne_of_lt hb0,Nat.ne_of_lt (Nat.lt_succ_of_lt hb0)⟩
   ·cases r2 with
    | error e=>exact hr2
    | ok fl2 =>
     cases fl2 with
     | ret r =>
      obtain ⟨rfl,h',tk,rfl,hS',hk'⟩:=hr2
      (repeat (any_goals (first | assumption | wp_step)))
      exact h _ _ hS' hk'
     | _=>exact False.elim hr2
  | _=>exact False.elim hr
end
def vJ (n:Nat)(a:Addr):HO:= .ext fun h=>∃ (P:Program) (w:World) (S:z8->Bool),h.SetOf (qG P w) a S n
section
variable {X:Cx}
theorem SJ {ss:List Str}{us:List Value}(r:Vals (ss.map V.str) us):∀ (i:Nat) (v:Value),us[i]?=some v->∃ x t,ss[i]?=some x/\v = .str x t:=by
 have key:∀ (ss:List Str) (us:List Value),Vals (ss.map V.str) us->∀ (i:Nat) (v:Value),us[i]?=some v->∃ x t,ss[i]?=some x/\v = .str x t:=by
  intro ss
  induction ss with
  | nil=>intro us r i v e;cases r;simp at e
  | cons s ss ih =>
   intro us r i v e
   cases r with
   | cons p q =>
    cases i with
    | zero =>
     obtain ⟨t,rfl⟩:=p
     simp at e
     exact ⟨s,t,rfl,e.symm⟩
    | succ i=>exact ih _ q i v (by simpa using e)
 intro i v e
 exact key ss us r i v e
theorem CK (hc:X.calm=true):CallR X (.type "set") (fun xs H Q=>∃ (a:Addr) (ss:List Str),xs=[.ref a]/\SqL X.K H a (ss.map V.str)/\ss.length<=1000 /\
  ∀ l,H l=none->Q (.ref l) (j9 H l (vJ (m9 (fun i=>(Sum.inr (ss.getD i ⟨#[]⟩):z8)) ss.length).length l))):=by
 intro pins s σ H xs us Q I r h
 obtain ⟨a,ss,rfl,hq,hl,q⟩:=h
 obtain ⟨u,rfl,ru⟩:=zY r
 obtain rfl:u=Value.ref a:=ru
 obtain ⟨its,rv,p,hz⟩:=I.list hq
 have hn:its.length=ss.length:=by have e:=rv.length;rw [List.length_map] at e;exact e.symm
 refine CL (knd:=qG X.prog X.w) (its:=its.toArray) (val:=fun i=>(Sum.inr (ss.getD i ⟨#[]⟩):z8)) (I.ok.hd hc) p.isList (fun i v e=>?_) (by rw [List.size_toArray,hn];unfold scanBound;omega) fun h' tk hS k=>?_
 ·obtain ⟨x,t,hx,rfl⟩:=SJ rv i v (by simpa using e)
  rw [List.getD_eq_getElem?_getD,hx]
  exact ⟨WB _ _ _ _,rfl⟩
 ·have e8:its.toArray.size=ss.length:=by rw [List.size_toArray];exact hn
  rw [e8] at hS
  refine ⟨.ref s.heap.objs.size,_,I.laid (t':=tk) k (Nat.le_refl _) (show ObjOk X.prog X.w _ h' _ (vJ _ _) from ⟨⟨_,_,_,hS⟩,?_,?_⟩),rfl,q _ (I.hok.fresh (Nat.le_refl _))⟩
  ·obtain ⟨o,_,_,_,ho,_⟩:=hS;exact ⟨o,ho⟩
  ·rintro h1 h2 ⟨P,w,S,x⟩ e;exact ⟨P,w,S,WZ x e⟩
theorem CC:CallR X (.builtin "len") (fun xs H Q=>∃ (a:Addr) (n:Nat),xs=[.ref a]/\H a=some (vJ n a)/\Q (.int n) H):=by
 intro pins s σ H xs us Q I r h
 obtain ⟨a,n,rfl,hq,q⟩:=h
 obtain ⟨u,rfl,ru⟩:=zY r
 obtain rfl:u=Value.ref a:=ru
 obtain ⟨⟨P,w,S,o,es,ep,t,ho,hex,hd,_,_,hb,hf,hn⟩,_⟩:=(show ObjOk X.prog X.w H s.heap a (vJ n a) from I.hok a _ hq)
 subst hn
 have h63:((es.size:Nat):Int) < 2 ^ 63:=by unfold scanBound at hb;omega
 exact call_len_set ho hex hd hf h63 ⟨.int es.size,H,I.tok _,⟨_,rfl⟩,q⟩
end
end L2
namespace L2
open PySem PySem.Spec PySem.Calls PyProof.Rows
section
variable {X:Cx}
theorem Mr {ns:List Int}{its:List Value}(rv:Vals (ns.map V.int) its):∃ xs:Array (Int × Tok),its.toArray=intItems xs/\xs.size=ns.length/\∀ i,i < ns.length->numAt xs i=ns.getD i 0:=by
 have hi:=Yu rv
 obtain ⟨xs,ex⟩:=hi.allInts.items
 have hl:xs.size=ns.length:=by
  have e:its.toArray.size=xs.size:=by rw [ex];unfold intItems;rw [Array.size_map]
  have e2:=rv.length
  rw [List.length_map] at e2
  rw [List.size_toArray] at e
  omega
 refine ⟨xs,ex,hl,fun i h=>?_⟩
 have hx:i < xs.size:=by omega
 have e1:its.toArray[i]?=some (.int xs[i].1 xs[i].2):=by rw [ex];unfold intItems;rw [Array.getElem?_map,Array.getElem?_eq_getElem hx];rfl
 have e2:its[i]?=some (.int xs[i].1 xs[i].2):=by simpa using e1
 obtain ⟨t,e3⟩:=IntsAre.int_at hi i _ e2
 injection e3 with e3 _
 unfold numAt
 rw [Array.getElem?_eq_getElem hx]
 exact e3
theorem Cb {ns:List Int}{f:Nat->Int}{k:Nat}(hf:∀ i,i < ns.length->f i=ns.getD i 0)(hk:k < ns.length):f k ∈ ns:=by
 rw [hf k hk,List.getD_eq_getElem?_getD,List.getElem?_eq_getElem hk]
 exact List.getElem_mem hk
theorem Ca {ns:List Int}{f:Nat->Int}{R:Int->Prop}(hf:∀ i,i < ns.length->f i=ns.getD i 0)(h:∀ j,j < ns.length->R (f j)):∀ x ∈ ns,R x:=by
 intro x hx
 obtain ⟨j,hj,rfl⟩:=List.getElem_of_mem hx
 have:=h j hj
 rw [hf j hj,List.getD_eq_getElem?_getD,List.getElem?_eq_getElem hj] at this
 exact this
def Zl (ss:List Str):Prop:=ss.Pairwise fun x y=>¬ (y.cps.toList < x.cps.toList)
theorem Bz {ss:List Str}(h:sortedS ss=true):Zl ss:=by
 cases ss with
 | nil=>exact List.Pairwise.nil
 | cons x r =>
  have key:∀ (l:List Str) (p:Str),risingS p l=true->(p::l).Pairwise fun x y=>¬ (y.cps.toList < x.cps.toList):=by
   intro l
   induction l with
   | nil=>intro p _;exact List.pairwise_singleton _ _
   | cons y l ih =>
    intro p hp
    have hp':(!ltCps y.cps.toList p.cps.toList && risingS y l)=true:=hp
    rw [Bool.and_eq_true] at hp'
    have i2:=ih y hp'.2
    have hyp:¬ (y.cps.toList < p.cps.toList):=by
     have e:=hp'.1
     rw [ltCps_eq] at e
     simpa using e
    refine List.pairwise_cons.mpr ⟨fun z hz=>?_,i2⟩
    rcases List.mem_cons.mp hz with rfl | hz
    ·exact hyp
    ·have hzy:=(List.pairwise_cons.mp i2).1 z hz
     intro hlt
     exact hyp (Std.lt_of_le_of_lt (Std.not_lt.mp hzy) hlt)
  exact key r x h
def KZ (K:Fg):List V->Hp->VK->Prop:=fun xs H Q=>∃ (a:Addr) (ss:List Str),xs=[.ref a]/\(SqL K H a (ss.map V.str) ∨ ∃ kvs,Rd H a (.dK kvs)/\kvs.map (·.1)=ss.map Sum.inr)/\ss.length < 64 /\
 ∀ l ss',H l=none->ss'.Perm ss->Zl ss'->Q (.ref l) (j9 H l (.lst (ss'.map V.str)))
theorem BG:∀ {ss:List Str} {us:List Value},Vals (ss.map V.str) us->StrsAre us ss
 | [],_,.nil=> .nil
 | x::_,_,.cons ⟨t,e⟩ r=>by subst e;exact .cons x t (BG r)
theorem Yv:∀ {us:List Value} {ss:List Str},StrsAre us ss->Vals (ss.map V.str) us
 | _,_,.nil=> .nil
 | _,_,.cons x t r=> .cons ⟨t,rfl⟩ (Yv r)
theorem MY:∀ {kvs:List (z8 × V)} {vs:List (z8 × Value)} {ss:List Str},KV kvs vs->kvs.map (·.1)=ss.map Sum.inr->vs.map (·.1)=ss.map Sum.inr:=by
 intro kvs vs ss r e
 rw [<- e]
 clear e
 induction r with
 | nil=>rfl
 | cons p _ ih=>rw [List.map_cons,List.map_cons,ih,p.1]
theorem MJ {P:Program}{w:World}{vs:List (z8 × Value)}{ss:List Str}{acc:Array Value}(e:vs.map (·.1)=ss.map Sum.inr)(h:ItemsOf (fun i v=>∃ k x,vs[i]?=some (k,x)/\(qG P w).is k v=true) acc vs.length):StrsAre acc.toList ss:=by
 have hl:vs.length=ss.length:=by have:=congrArg List.length e;rwa [List.length_map,List.length_map] at this
 have h0:∀ v ∈ acc.toList,∃ x t,v = .str x t:=by
  intro v hv
  obtain ⟨i,hi,rfl⟩:=List.getElem_of_mem hv
  obtain ⟨k,x,hk,his⟩:=h.2 i acc.toList[i] (by simp at hi ⊢)
  have hk2:(vs.map (·.1))[i]?=some k:=by rw [List.getElem?_map,hk];rfl
  rw [e,List.getElem?_map] at hk2
  obtain ⟨z,_,rfl⟩:=Option.map_eq_some_iff.mp hk2
  cases hv2:acc.toList[i] with
  | str y t=>exact ⟨y,t,rfl⟩
  | _=>rw [hv2] at his;cases his
 have h1:=strsAre_map acc.toList h0
 have e2:acc.toList.map strOf=ss:=by
  apply List.ext_getElem?
  intro i
  rw [List.getElem?_map]
  by_cases hi:i < acc.size
  ·obtain ⟨k,x,hk,his⟩:=h.2 i acc[i] (Array.getElem?_eq_getElem hi)
   have hk2:(vs.map (·.1))[i]?=some k:=by rw [List.getElem?_map,hk];rfl
   rw [e,List.getElem?_map] at hk2
   obtain ⟨z,hz,rfl⟩:=Option.map_eq_some_iff.mp hk2
   obtain ⟨y,t,hy⟩:=h0 acc[i] (by simp)
   rw [hy] at his
   have:y=z:=by
    have q:vU (Sum.inr z) (.str y t)=true:=his
    have q2:=GY y t
    have q3:=(qG P w).inj (.str y t) (Sum.inr z) (Sum.inr y) his (WB P w y t)
    injection q3 with q3
    exact q3.symm
   rw [hz,Array.getElem?_toList,Array.getElem?_eq_getElem hi,hy,<- this]
   rfl
  ·have h1:=h.1
   rw [List.getElem?_eq_none (by simp;omega),List.getElem?_eq_none (by omega)]
   rfl
 rw [e2] at h1
 exact h1
theorem SQ {A:Around}{E:Value->Shared->Prop}{s:Shared}{vs:List Value}{ss:List Str}{Q:Value->Shared->Prop}{P:Program}{w:World}(hS:StrsAre vs ss)(h64:vs.length < 64)
  (h:∀ (h':Heap) (out:List Value) (ss':List Str) (e:Nat),(∀ b o,s.heap.get? b=some o->h'.get? b=some o)->h'.get? s.heap.objs.size=some (seqObj "list" out.toArray e)->StrsAre out ss'->ss'.Perm ss->sortedS ss'=true->Q (.ref s.heap.objs.size) { s with heap:=h' }) :
  wpAny (model P w) A (newList vs >>= fun l=>holding [l] (call (.builtin "list.sort") [l]) >>= fun _=>pure l) Q E s:=by
 refine wpAny_bind (wpAny_newList ?_)
 have ho:(s.heap.push (seqObj "list" vs.toArray 0)).get? s.heap.objs.size=some (seqObj "list" vs.toArray 0):=Heap.get?_push_size _ rfl
 refine wpAny_bind (wpAny_holding (wpAny_call_entry slot_list_sort (s:={ s with heap:=s.heap.push (seqObj "list" vs.toArray 0) }) ⟨_,ho,rfl⟩ entry_list_sort
  (list_sort_treeK strKind_oneLt (s:={ s with heap:=s.heap.push (seqObj "list" vs.toArray 0) }) ho hS.keysOf (fun v1 v2 rest e=>keyKind_strs (by rw [<- e];exact hS)) h64 fun st p1 p2=>⟨_,rfl,?_⟩) (args_list_sort _)))
 obtain ⟨ss',a1,a2,a3⟩:=sorted_out_str hS p1 p2
 obtain ⟨e,he⟩:=sortedHeap_at (out:=(arrOf st).map (·.2)) ho
 refine wpAny_pure (h _ _ ss' e (fun b o hb=>?_) (by rw [Array.toArray_toList];exact he) a1 a2 a3)
 have hlt:=Heap.lt_size hb
 rw [sortedHeap_old (Nat.ne_of_lt hlt) (by rw [Heap.size_push];exact Nat.lt_succ_of_lt hlt)]
 exact Heap.get?_push_of_some _ hb
theorem TC {A:Around}{E:Value->Shared->Prop}{s:Shared}{vs:List Value}{ss:List Str}{Q:Value->Shared->Prop}{P:Program}{w:World}(hS:StrsAre vs ss)(h64:vs.length < 64)
  (h:∀ (h':Heap) (out:List Value) (ss':List Str) (e:Nat),(∀ b o,s.heap.get? b=some o->h'.get? b=some o)->h'.get? s.heap.objs.size=some (seqObj "list" out.toArray e)->StrsAre out ss'->ss'.Perm ss->sortedS ss'=true->Q (.ref s.heap.objs.size) { s with heap:=h' }) :
  wpAny (model P w) A (newList vs >>= fun l=>holding [l] (call (.builtin "list.sort") [l] []) >>= fun _=>ret l) (fun fin s'=>∃ v,fin=PySem.Fin.done (.ret v)/\Q v s') E s:=by
 refine wpAny_bind (wpAny_newList ?_)
 have ho:(s.heap.push (seqObj "list" vs.toArray 0)).get? s.heap.objs.size=some (seqObj "list" vs.toArray 0):=Heap.get?_push_size _ rfl
 refine wpAny_bind (wpAny_holding (wpAny_call_entry slot_list_sort (s:={ s with heap:=s.heap.push (seqObj "list" vs.toArray 0) }) ⟨_,ho,rfl⟩ entry_list_sort
  (list_sort_treeK strKind_oneLt (s:={ s with heap:=s.heap.push (seqObj "list" vs.toArray 0) }) ho hS.keysOf (fun v1 v2 rest e=>keyKind_strs (by rw [<- e];exact hS)) h64 fun st p1 p2=>⟨_,rfl,?_⟩) (args_list_sort _)))
 obtain ⟨ss',a1,a2,a3⟩:=sorted_out_str hS p1 p2
 obtain ⟨e,he⟩:=sortedHeap_at (out:=(arrOf st).map (·.2)) ho
 refine wpAny_pure ⟨_,rfl,h _ _ ss' e (fun b o hb=>?_) (by rw [Array.toArray_toList];exact he) a1 a2 a3⟩
 have hlt:=Heap.lt_size hb
 rw [sortedHeap_old (Nat.ne_of_lt hlt) (by rw [Heap.size_push];exact Nat.lt_succ_of_lt hlt)]
 exact Heap.get?_push_of_some _ hb
theorem CM {K:Fg}(hc:X.calm=true)(hK:X.K=K):CallR X (.builtin "sorted") (KZ K):=by
 subst hK
 intro pins s σ H xs us Q I r h
 obtain ⟨a,ss,rfl,hq,h64,q⟩:=h
 obtain ⟨u,rfl,ru⟩:=zY r
 obtain rfl:u=Value.ref a:=ru
 rcases hq with hq | ⟨kvs,hq,hk⟩
 ·obtain ⟨its,rv,p,hz⟩:=I.list hq
  have hS:=BG rv
  have hl:its.length=ss.length:=by have e:=rv.length;rw [List.length_map] at e;exact e.symm
  refine sorted_strs p.isList hS (by omega) fun out ss' a1 a2 a3=>?_
  obtain ⟨e,he⟩:=sortedAll_at s.heap its out
  refine ⟨.ref _,_,I.laid (t':=s.toks) (o:= .lst (ss'.map V.str)) (fun b o hb=>sortedAll_old hb) (Nat.le_succ _) ?_,rfl,q _ ss' (I.hok.fresh (Nat.le_succ _)) a2 (Bz a3)⟩
  exact ⟨by rw [List.length_map,a2.length_eq];exact Nat.le_of_lt (XQ (by omega)),out.toList,e,Yv a1,by simpa [seqObj] using he⟩
 ·obtain ⟨z,hd,vs,rel,dd⟩:=vO I.hok hq
  obtain ⟨ep,hat⟩:=dd.dictAt
  have ek:=MY rel hk
  have hvl:vs.length=ss.length:=by have:=congrArg List.length ek;rwa [List.length_map,List.length_map] at this
  refine Calls.call_function_entry (id := "sorted") kind_sorted plain_sorted entry_sorted (args_sorted1 _) ?_
  unfold Builtin.«sorted»;refine wpAny_bind (m:=checkCount "sorted" 1 1 _) (wpAny_pure ?_)
  refine wpAny_bind (PySem.W.kdu_collect (PySem.W.kdl_dict (knd:=qG X.prog X.w) (kvs:=vs) (ep:=ep) hd) (by simpa using I.ok.hd hc) hat (Nat.le_of_lt (XQ (by omega))) fun h1 tk acc k1 hacc=>?_)
  have hS:=MJ ek hacc
  have hal:acc.toList.length=ss.length:=by have:=hacc.1;simp;omega
  refine TC (s:={ s with heap:=h1,toks:=tk }) hS (by omega) fun h' out ss' e k2 he a1 a2 a3=>?_
  have I1:Inv X pins σ H { s with heap:=h1,toks:=tk }:=I.kept (t':=tk) k1
  refine ⟨.ref _,_,I1.laid (t':=tk) (o:= .lst (ss'.map V.str)) k2 (Nat.le_refl _) ?_,rfl,q _ ss' (I1.hok.fresh (Nat.le_refl _)) a2 (Bz a3)⟩
  exact ⟨by rw [List.length_map,a2.length_eq];exact Nat.le_of_lt (XQ (by omega)),out,e,Yv a1,he⟩
end
end L2
namespace L2
open PySem PySem.Spec PySem.Calls
section
variable {P:Program}{w:World}{A:Around}{E:Value->Shared->Prop}
theorem Li:typeLookup (.type "list") "keys"=pure none:=am_miss_of_fast (by kernel_rfl)
theorem Lh:typeLookup (.type "list") "__getattr__"=pure none:=am_miss_of_fast (by kernel_rfl)
theorem DP {hp:Heap}{g:Array GenState}{d:Drawn}{tk:Nat}{os:_}{a:Addr}{its:Array Value}{n:Nat}{u:Tok}{Q:PySem.Fin->Shared->Prop}(ho:hp.get? a=some { cls:= .type "list",data:= .seq its n }) (hh:A.handled=none)
  (h:∀ h' tk' e,Heap.NewAttrErr hp h' e (.ref a) "keys"->E (.ref e) ⟨h',g,d,tk',os⟩) :
  wpAny (model P w) A (Builtin.«object.__getattribute__» ⟨[.ref a,.str "keys" u],[]⟩) Q E ⟨hp,g,d,tk,os⟩:=by
 have hT:(⟨hp,g,d,tk,os⟩:Shared).TypeIs (.ref a) "list":=⟨_,ho,rfl⟩
 have f0:=Li
 unfold Builtin.«object.__getattribute__»
 (repeat (any_goals (first | assumption | wp_step)))
 exact wpAny_raiseAttrError (s:=⟨hp,g,d,tk,os⟩) hh h (attrMsg_fits (by decide +kernel) (by decide +kernel))
theorem PY {s:Shared}{a:Addr}{its:Array Value}{n:Nat}{Q:Option Value->Shared->Prop}(ho:s.heap.get? a=some { cls:= .type "list",data:= .seq its n }) (hh:A.handled=none)
  (h:∀ h' tk,(∀ b o,s.heap.get? b=some o->h'.get? b=some o)->Q none { s with heap:=h',toks:=tk }):wpAny (model P w) A (getAttr? (.ref a) "keys") Q E s:=by
 obtain ⟨hp,g,d,tk,os⟩:=s
 have hT:∀ t',(⟨hp,g,d,t',os⟩:Shared).TypeIs (.ref a) "list":=fun _=>⟨_,ho,rfl⟩
 have f1:=sub_AttributeError
 have f2:=PySem.F.slot_list_getattribute.lookup
 have f3:=PySem.F.slot_list_getattribute.bind (.ref a)
 have f5:=Lh
 unfold getAttr? getAttrBy? getAttrBy
 (repeat (any_goals (first | assumption | exact hT _ | wp_step)))
 refine codeAny_call_builtin PySem.F.slot_list_getattribute.plain PySem.F.entry_list_ga (PySem.F.slot_list_getattribute.check _ _ _ _ _ _ _ _ (hT _) (PySem.F.args_list_getattribute_2 _ _) (DP ho (by simpa using hh) fun h' tk' e hx=>?_))
 obtain ⟨t',u',he⟩:=hx.there
 have hk:=hx.keeps
 show wpAny _ _ (getattributeRaised _ _ _ _ _ _ _) _ _ _
 unfold getattributeRaised
 (repeat (any_goals (first | assumption | wp_step)))
 exact h _ _ hk
end
end L2
namespace L2
open PySem PySem.Spec PySem.Calls PyProof.Rows
section
variable {X:Cx}
def rIsB:R2:=fun x y H Q=>∃ b c,x = .bl b/\y = .bl c/\Q (.bl (decide (b=c))) H
def KS:R2:=fun x y H Q=>∃ b c,x = .bl b/\y = .bl c/\Q (.bl (!decide (b=c))) H
theorem Xo:OpR X (compareOp .Is) rIsB:=by
 intro pins s σ H x y v u Q I rx ry h
 obtain ⟨b,c,rfl,rfl,q⟩:=h
 cases rx
 cases ry
 refine wpAny_is_plain rfl (QM I q ?_)
 cases b <;> cases c <;> rfl
theorem Kt:OpR X (compareOp .IsNot) KS:=by
 intro pins s σ H x y v u Q I rx ry h
 obtain ⟨b,c,rfl,rfl,q⟩:=h
 cases rx
 cases ry
 refine wpAny_isNot_plain rfl (QM I q ?_)
 cases b <;> cases c <;> rfl
theorem Pf:∀ {xs:List V} {us:List Value},Vals xs us->Vals xs.reverse us.reverse
 | [],_,.nil=> .nil
 | _::_,_,.cons p r=>by rw [List.reverse_cons,List.reverse_cons];exact Vals.append (Pf r) (.cons p .nil)
theorem Ra {α:Type}(l:List α):(List.range l.length).filterMap (fun k=>l[l.length - 1 - k]?)=l.reverse:=by
 have e:∀ ks:List Nat,(∀ k ∈ ks,k < l.length)->ks.filterMap (fun k=>l[l.length - 1 - k]?)=ks.filterMap (fun k=>l.reverse[k]?):=by
  intro ks
  induction ks with
  | nil=>intro _;rfl
  | cons k ks ih =>
   intro h
   rw [List.filterMap_cons,List.filterMap_cons,ih fun j hj=>h j (List.mem_cons_of_mem _ hj),List.getElem?_reverse (h k List.mem_cons_self)]
 rw [e _ fun k hk=>List.mem_range.mp hk,<- List.length_reverse]
 generalize l.reverse=r
 induction r with
 | nil=>rfl
 | cons x r ih =>
  rw [List.length_cons,List.range_succ_eq_map,List.filterMap_cons,List.filterMap_map]
  simp only [List.getElem?_cons_zero]
  show x::(List.range r.length).filterMap (fun k=>(x::r)[k + 1]?)=_
  simp only [List.getElem?_cons_succ]
  rw [ih]
theorem HL (its:List Value):slicePick its.toArray none none (some (-1))=its.reverse.toArray:=by
 unfold slicePick
 congr 1
 rw [<- Ra its]
 have e:sliceRange (sliceBounds none none (some (-1)) its.toArray.size).1 (sliceBounds none none (some (-1)) its.toArray.size).2.1 (sliceBounds none none (some (-1)) its.toArray.size).2.2=(List.range its.length).map fun k=>its.length - 1 - k:=by
  show sliceRange ((its.toArray.size:Int) - 1) (-1) (-1)=_
  rw [List.size_toArray]
  unfold sliceRange
  have c:(if (-1:Int) > 0 then (if (its.length:Int) - 1 < -1 then (-1 - ((its.length:Int) - 1) + -1 - 1) / -1 else 0) else (if (its.length:Int) - 1 > -1 then ((its.length:Int) - 1 - -1 - -1 - 1) / (- -1) else 0))=(its.length:Int):=by
   rw [if_neg (by decide),show (- -1:Int)=1 from rfl,Int.ediv_one]
   split <;> omega
  simp only []
  rw [c,Int.toNat_natCast]
  refine List.map_congr_left fun k hk=>?_
  have:=List.mem_range.mp hk
  omega
 rw [e,List.filterMap_map]
 congr 1
 funext k
 show its.toArray[its.length - 1 - k]?=_
 simp
def tRev (K:Fg)(te:TE)(ts:TO):TE:=fun σ H Q=>te σ H fun x H1=>ts σ H1 fun o H2=>o=some (-1)/\∃ a xs,x = .ref a/\SqL K H2 a xs/\∀ l,H2 l=none->Q (.ref l) (j9 H2 l (.lst xs.reverse))
theorem Hy {K:Fg}{e st:Expr}{te:TE}{ts:TO}{pos p2:Pos}(hK:X.K=K)(he:PE X e te)(hs:PO X (some st) ts):PE X (.Subscript e (.Slice none none (some st) p2) pos) (tRev K te ts):=by
 subst hK
 intro pins s σ H Q I h
 refine Subscript_ (j3 (he pins s σ H _ I h) fun v s1 ⟨x,H1,I1,r1,q1⟩=>?_)
 refine wpAny_Slice ?_
 rw [evalPart_none]
 refine wpAny_pure (wpAny_pure (j3 (hs pins s1 σ H1 _ I1 q1) fun vs s3 ⟨o,H3,I3,ps,q3⟩=>?_))
 obtain ⟨rfl,a,xs,rfl,hx,q⟩:=q3
 cases r1
 have I4:Inv X pins σ H3 { s3 with heap:=s3.heap.push { cls:= .type "slice",data:= .fields #[.none,.none,vs] } }:=I3.kept (t':=s3.toks) fun b ob q=>Heap.get?_push_of_some _ q
 obtain ⟨its,r,ht,hz⟩:=I4.list hx
 have hlen:=r.length
 refine tail_any (ops:=[.ref a,.ref s3.heap.objs.size]) ht.isList.typeIs slot_list_getitem.lookup ?_ (by with_unfolding_all rfl)
 refine wpAny_getItem_list_slice ht.isList (Heap.IsSliceOf.new ..) .none .none ps (by decide) ?_ (by rw [List.size_toArray];omega)
 rw [HL]
 refine ⟨.ref _,_,I4.laid (t':=s3.toks) (o:= .lst xs.reverse) (fun b ob q=>Heap.get?_push_of_some _ q) (Nat.le_refl _) ?_,rfl,q _ (I4.hok.fresh (Nat.le_refl _))⟩
 exact ⟨by rw [List.length_reverse];exact hz,_,0,Pf r,Heap.get?_push_size _ rfl⟩
end
end L2
namespace L2
open PySem PySem.Spec PySem.Calls PyProof.Rows
theorem Cp:bootBuiltins "set"=some (.type "set"):=by decide +kernel
section
variable {P:Program}{w:World}{A:Around}{R:Result->Shared->Prop}{I:Addr}{fp wr:List Addr}{n:Nat}{Pp:Nat->Value->Prop}{St:Nat->Heap->Prop}
abbrev dfl:List (Str × Value):=[(Str.ofString "default",Value.none)]
theorem Lz (W:Walks P w A.in1 I fp wr n Pp St)(bt:Nat->Nat->Bool)(hcmp:CmpOf P w A.in1 .Gt Pp bt)(a:Addr)(ha:a ∉ fp) :
  ∀ (m j:Nat) (s:Shared) (vb:Value) (c:Nat),n - (j + 1)=m->j + 1<=n->St (j + 1) s.heap->Pp (argBest bt j) vb ->
  s.heap.get? a=some { cls:= .type "list",dict:=none,data:= .seq #[vb,vb] c,slots:=#[] } ->
  (∀ v h' tk,Pp (argBest bt (n - 1)) v->(∀ b o,b ∉ wr->b ≠ a->s.heap.get? b=some o->h'.get? b=some o)->R (.ok (.ret v)) { s with heap:=h',toks:=tk }) ->
  codeAny (model P w) A (.builtin "max.loop" ⟨[.ref I,.none,.ref a],dfl⟩) R s:=by
 have haw:a ∉ wr:=fun z=>ha (W.sub _ z)
 have nm:(toString "max"++toString ".loop":String) = "max.loop":=by decide
 intro m
 induction m with
 | zero =>
  intro j s vb c hm hj st hP hS hR
  have hin:j + 1=n:=by omega
  refine codeAny_builtin PySem.F.entry_max_loop ?_
  rw [Around.under_plainId PySem.F.plain_max_loop _];show wpAny _ A.in1 (seqItems? (.ref a) >>= _) _ _ s
  refine wpAny_bind (wpAny_seqItems hS rfl ?_);show wpAny _ A.in1 (tryCatch (pyNext (.ref I)) _ >>= _) _ _ s
  refine wpAny_bind (wpAny_tryCatch (W.done s _ _ (hin ▸ st) fun h' tk kk=>?_))
  have hS':=kk a _ haw hS;show wpAny _ A.in1 (updateSeq a (fun _=>#[]) >>= _) _ _ _
  refine wpAny_bind (wpAny_updateSeq hS' rfl (wpAny_bind (wpAny_letGo (wpAny_pure ?_))))
  exact hR vb _ tk (by rw [<- hin];exact hP) fun b o z1 z2 e=>(Heap.get?_update_other _ _ (Ne.symm z2)).trans (kk b o z1 e)
 | succ m ih =>
  intro j s vb c hm hj st hP hS hR
  have hlt:j + 1 < n:=by omega
  refine codeAny_builtin PySem.F.entry_max_loop ?_
  rw [Around.under_plainId PySem.F.plain_max_loop _];show wpAny _ A.in1 (seqItems? (.ref a) >>= _) _ _ s
  refine wpAny_bind (wpAny_seqItems hS rfl ?_);show wpAny _ A.in1 (tryCatch (pyNext (.ref I)) _ >>= _) _ _ s
  refine wpAny_bind (wpAny_tryCatch (W.item (j + 1) s _ _ hlt st fun v h' tk hPv st' kk=>?_))
  have hS':=kk a _ haw hS;show wpAny _ A.in1 (tryCatch (holding [v,v] (richCompare .Gt v vb >>= _)) _ >>= _) _ _ _
  refine wpAny_bind (wpAny_tryCatch (wpAny_holding (wpAny_bind (hcmp (j + 1) (argBest bt j) v vb _ _ _ hPv hP (wpAny_bind (wpAny_holding (wpAny_truthy_bool (wpAny_bind (wpAny_letGo (wpAny_pure ?_))))))))))
  cases hb:bt (j + 1) (argBest bt j) with
  | true =>
   simp only [if_true]
   refine wpAny_bind (wpAny_updateSeq hS' rfl (wpAny_bind (wpAny_letGo ?_)));rw [nm]
   refine wpAny_pure ⟨plainId_quiet PySem.F.plain_max_loop _,ih (j + 1) _ v _ (by omega) hlt (W.frame _ _ _ st' fun b z o e=>?_) (by simp only [argBest,hb,if_true];exact hPv) (Heap.get?_update_self _ hS' rfl) fun v' h2 tk2 hP2 k2=>?_⟩
   ·exact (Heap.get?_update_other _ _ (fun q:a=b=>ha (by rw [q];exact z))).trans e
   ·exact hR v' h2 tk2 hP2 fun b o z1 z2 e=>k2 b o z1 z2 ((Heap.get?_update_other _ _ (Ne.symm z2)).trans (kk b o z1 e))
  | false =>
   simp only [Bool.false_eq_true,if_false]
   refine wpAny_bind (wpAny_letGo ?_);rw [nm]
   refine wpAny_pure ⟨plainId_quiet PySem.F.plain_max_loop _,ih (j + 1) _ vb c (by omega) hlt st' (by simp only [argBest,hb,Bool.false_eq_true,if_false];exact hP) hS' fun v' h2 tk2 hP2 k2=>?_⟩
   exact hR v' h2 tk2 hP2 fun b o z1 z2 e=>k2 b o z1 z2 (kk b o z1 e)
theorem Ly (W:Walks P w A.in1 I fp wr n Pp St)(bt:Nat->Nat->Bool)(hcmp:CmpOf P w A.in1 .Gt Pp bt)(a:Addr)(ha:a ∉ fp){s:Shared}{c:Nat}(st:St 0 s.heap)
  (hS:s.heap.get? a=some { cls:= .type "list",dict:=none,data:= .seq #[] c,slots:=#[] })
  (hR:∀ v h' tk,(if n=0 then v = .none else Pp (argBest bt (n - 1)) v)->(∀ b o,b ∉ wr->b ≠ a->s.heap.get? b=some o->h'.get? b=some o)->R (.ok (.ret v)) { s with heap:=h',toks:=tk }) :
  codeAny (model P w) A (.builtin "max.loop" ⟨[.ref I,.none,.ref a],dfl⟩) R s:=by
 have haw:a ∉ wr:=fun z=>ha (W.sub _ z)
 have nm:(toString "max"++toString ".loop":String) = "max.loop":=by decide
 refine codeAny_builtin PySem.F.entry_max_loop ?_
 rw [Around.under_plainId PySem.F.plain_max_loop _];show wpAny _ A.in1 (seqItems? (.ref a) >>= _) _ _ s
 refine wpAny_bind (wpAny_seqItems hS rfl ?_);show wpAny _ A.in1 (tryCatch (pyNext (.ref I)) _ >>= _) _ _ s
 by_cases hn:n=0
 ·subst hn
  refine wpAny_bind (wpAny_tryCatch (W.done s _ _ st fun h' tk kk=>?_))
  show wpAny _ A.in1 (rule _ >>= _) _ _ _
  refine wpAny_bind (wpAny_rule ?_)
  exact wpAny_pure (hR .none h' tk (by rw [if_pos rfl]) fun b o z1 _ e=>kk b o z1 e)
 ·refine wpAny_bind (wpAny_tryCatch (W.item 0 s _ _ (by omega) st fun v h' tk hPv st' kk=>?_))
  have hS':=kk a _ haw hS;show wpAny _ A.in1 (updateSeq a (fun _=>#[v,v]) >>= _) _ _ _
  refine wpAny_bind (wpAny_updateSeq hS' rfl ?_);rw [nm]
  refine wpAny_pure ⟨plainId_quiet PySem.F.plain_max_loop _,Lz W bt hcmp a ha _ 0 _ v _ rfl (by omega) (W.frame _ _ _ st' fun b z o e=>?_) hPv (Heap.get?_update_self _ hS' rfl) fun v' h2 tk2 hP2 k2=>?_⟩
  ·exact (Heap.get?_update_other _ _ (fun q:a=b=>ha (by rw [q];exact z))).trans e
  ·exact hR v' h2 tk2 (by rw [if_neg hn];exact hP2) fun b o z1 z2 e=>k2 b o z1 z2 ((Heap.get?_update_other _ _ (Ne.symm z2)).trans (kk b o z1 e))
end
section
variable {P:Program}{w:World}{A:Around}{E:Value->Shared->Prop}{s:Shared}{l:Addr}{xs:Array (Int × Tok)}
theorem PU (v:Value):argsOk "max" ⟨[v],[(Str.ofString "default",Value.none)]⟩:=by unfold argsOk;kernel_rfl
theorem Ct:Builtin.Builtins.bindParams "max" ["key", "default"] 0 ⟨[],[(Str.ofString "default",Value.none)]⟩=pure [none,some Value.none]:=by kernel_rfl
theorem Lx {Q:Value->Shared->Prop}(hh:A.handled=none)(hl:s.heap.IsList l (intItems xs))
  (h:∀ v h' tk,(if xs.size=0 then v = .none else (intItems xs)[argBest (fun i j=>decide (numAt xs i > numAt xs j)) (xs.size - 1)]?=some v)->(∀ b o,s.heap.get? b=some o->h'.get? b=some o)->Q v { s with heap:=h',toks:=tk }) :
  wpAny (model P w) A (call (.builtin "max") [.ref l] [(Str.ofString "default",Value.none)]) Q E s:=by
 have nm:(toString "max"++toString ".loop":String) = "max.loop":=by decide
 refine kmb_tree PySem.F.kind_max PySem.F.plain_max PySem.F.entry_max (PU _) ?_
 show wpAny _ A.in1 (Builtin.Builtins.bindParams "max" ["key", "default"] 0 ⟨[],[(Str.ofString "default",Value.none)]⟩ >>= _) _ _ s
 refine wpAny_bind (wpAny_of_eq Ct ?_)
 refine wpAny_bind (wpAny_pure ?_)
 refine wpAny_bind (iter_intList hl fun s2 e st hfp hlI=>?_)
 subst e
 refine wpAny_bind (wpAny_newObj_type ?_)
 have hSf:=fun hm=>Nat.lt_irrefl _ (hfp _ hm)
 rw [nm]
 refine wpAny_pure ⟨plainId_quiet PySem.F.plain_max_loop _,Ly (Walks.list (A:=A.in1) hh _ l hlI (intItems xs)) _ (CmpOf.ints_gt (numAt xs) (fun _ _=>intItems_at)) _ hSf (((Walks.list (prog:=P) (w:=w) (A:=A.in1) hh _ l hlI (intItems xs))).frame _ _ _ st fun b _ o e=>Heap.get?_push_of_some _ e) (Heap.get?_push_size _ rfl) fun v h' tk hP kk=>?_⟩
 refine h v h' tk (by simpa [intItems] using hP) fun b o e=>?_
 have hlt:=Heap.lt_size e
 refine kk b o (by simp only [List.mem_singleton];exact Nat.ne_of_lt hlt) ?_ (Heap.get?_push_of_some _ (Heap.get?_push_of_some _ e))
 rw [Heap.size_push];exact Nat.ne_of_lt (Nat.lt_succ_of_lt hlt)
end
end L2
namespace L2
open PySem PySem.Spec PySem.Calls PyProof.Rows
theorem Km (e:Expr)(z:Str)(t:Tok):∀ r,letTemporaryGo e (.str z t) r=pure ():=fun r=>by cases e <;> rfl
section
variable {X:Cx}
theorem Hz {e:Expr}{te:TE}{lo hi:Option Expr}{tl th:TO}{pos p2:Pos}(he:PE X e te)(hl:PO X lo tl)(hu:PO X hi th):PE X (.Subscript e (.Slice lo hi none p2) pos) (tSlS te tl th):=by
 intro pins s σ H Q I h
 refine Subscript_ (j3 (he pins s σ H _ I h) fun v s1 ⟨x,H1,I1,r1,q1⟩=>?_)
 refine wpAny_Slice (j3 (hl pins s1 σ H1 _ I1 q1) fun vl s2 ⟨l,H2,I2,pl,q2⟩=>j3 (hu pins s2 σ H2 _ I2 q2) fun vu s3 ⟨u,H3,I3,pu,q3⟩=>?_)
 rw [evalPart_none]
 refine wpAny_pure ?_
 obtain ⟨z,e1,hz,alt,q⟩:=q3
 subst e1
 obtain ⟨t,rfl⟩:=r1
 have kp:KeptH (fun h=>∀ k,Inv X pins σ H3 { s3 with heap:=h,toks:=k }):=fun h ob a k=>(a k).kept (t':=k) fun b o e=>Heap.get?_push_of_some _ e
 have I0:∀ k,Inv X pins σ H3 { s3 with heap:=s3.heap,toks:=k }:=fun k=>I3.tok k
 rcases alt with ⟨rfl,j,rfl⟩ | ⟨rfl,i,rfl⟩
 ·cases pl
  cases pu with
  | int j' uj=>exact tail_of_ItemOn (SBH.sliceItem_ns kp I0 (fun h' t' k a=>⟨.str _,H3,a k,⟨_,rfl⟩,q⟩) hz) (by with_unfolding_all rfl) (Km _ _ _)
 ·cases pu
  cases pl with
  | int i' ui=>exact tail_of_ItemOn (SBH.sliceItem_sn kp I0 (fun h' t' k a=>⟨.str _,H3,a k,⟨_,rfl⟩,q⟩) hz) (by with_unfolding_all rfl) (Km _ _ _)
end
end L2
namespace L2
open PySem PySem.Spec PySem.Calls PyProof.Rows
section
variable {X:Cx}
def Yh (K:Fg)(t:TA):TE:=fun σ H Q=>t σ H fun vs H1=>∃ (a:Addr) (ns:List Int),vs=[.ref a]/\SqL K H1 a (ns.map V.int)/\(ns=[]->Q .non H1)/\(ns ≠ []->∀ m,m ∈ ns->(∀ y ∈ ns,y<=m)->Q (.int m) H1)
theorem Hu {K:Fg}{e:Expr}{t:TA}{p pos kp cp:Pos}{ct:Nat}(hK:X.K=K)(hc:X.calm=true)(hg:Gl X "max") (hm:X.mg "max"=none) (ha:PA X [e] t)
  (hs:backTo pos (starEach [e] X.env)=(false,eval e X.env)::backTo pos (starEach [] X.env):=by rfl) (hpl:(backTo pos (starEach [e] X.env)).any (·.1)=false:=by rfl):PE X (.Call (.Name "max" p) [e] [⟨some "default",.Constant .none ct cp,kp⟩] pos) (Yh K t):=by
 subst hK
 intro pins s σ H Q I h
 refine wpAny_Call_Name_kw (vi I hg hm Cn ?_ (by decide) (by decide))
 refine PyProof.Rows.callWith_kw (j3 (ha pos pins s σ H _ I h) fun us s1 ⟨vs,H1,I1,r1,q1⟩=>?_) hs hpl
 refine PyProof.Rows.kws_cons (Constant_none (PyProof.Rows.kws_nil ?_))
 obtain ⟨a,ns,rfl,hq,qe,qn⟩:=q1
 obtain ⟨u,rfl,ru⟩:=zY r1
 obtain rfl:u=Value.ref a:=ru
 obtain ⟨its,rv,pl,hz⟩:=I1.list hq
 obtain ⟨ys,ey,el,en⟩:=Mr rv
 have hl:s1.heap.IsList a its.toArray:=pl.isList
 rw [ey] at hl
 show wpAny _ _ (call (.builtin "max") [.ref a] [(Str.ofString "default",Value.none)]) _ _ _
 refine Lx (I1.ok.hd hc) hl fun v h' tk hv k=>?_
 by_cases hne:ns=[]
 ·have hz0:ys.size=0:=by rw [el,hne];rfl
  rw [if_pos hz0] at hv
  subst hv
  exact ⟨.non,H1,I1.kept (t':=tk) k,rfl,qe hne⟩
 ·have hp:0 < ns.length:=List.length_pos_iff.mpr hne
  rw [if_neg (by omega)] at hv
  obtain ⟨t,rfl⟩:=intItems_at hv
  obtain ⟨h1,h2⟩:=argBest_gt (numAt ys) (ys.size - 1)
  exact ⟨.int _,H1,I1.kept (t':=tk) k,⟨t,rfl⟩,qn hne _ (Cb en (by omega)) (Ca en fun j hj=>h2 j (by omega))⟩
end
section
variable {P:Program}{w:World}{κ:Type}[DecidableEq κ]{knd:PySem.KeyKind P w κ}
theorem GC:entryFor table "dict.update.loop"=some Builtin.«dict.update.loop»:=entryFor_of_tree (by kernel_rfl)
theorem Jd:plainId "dict.update.loop"=true:=by decide +kernel
theorem Dm {A:Around}{R:Result->Shared->Prop}{I:Addr}{fp wr:List Addr}{Pp:Nat->Value->Prop}{St:Nat->Heap->Prop}{more:List (κ × Value)}{lo:Addr}
  (W:Walks P w A.in1 I fp wr more.length Pp St) (d:Addr) (hdf:d ∉ fp) (hlo:lo<=d) (hwr:∀ b ∈ wr,lo<=b) (hsz:more.length<=sizeLine) :
  ∀ (m i:Nat) (z:Int) (tk:Tok) (s:Shared),more.length - i=m->i<=more.length->St i s.heap->s.heap.DictOf knd d (merged [] (more.take i)) ->
   (∀ j v kv,Pp j v->more[j]?=some kv->∃ t k,t < lo/\v = .ref t/\knd.is kv.1 k=true/\IsTup s.heap t #[k,kv.2]) ->
   (∀ h' tk',(∀ b o,b < lo->s.heap.get? b=some o->h'.get? b=some o)->h'.DictOf knd d (merged [] more)->R (.ok (.ret .none)) { s with heap:=h',toks:=tk' }) ->
   codeAny (model P w) A (.builtin "dict.update.loop" ⟨[.ref d,.ref I,.int z tk,.none],[]⟩) R s:=by
 have hdw:d ∉ wr:=fun q=>hdf (W.sub _ q)
 intro m
 induction m with
 | zero =>
  intro i z tk s hm hi st hd hp hR
  have hin:i=more.length:=by omega
  subst hin
  refine codeAny_builtin GC ?_
  rw [Around.under_plainId Jd _]
  show wpAny _ A.in1 (pyNext (.ref I) >>= _) _ _ s
  refine wpAny_bind (W.done s _ _ st fun h' tk' k=>?_)
  show wpAny _ A.in1 (Builtin.Dict.addKeywords d [] >>= _) _ _ _
  refine wpAny_bind (wpAny_pure ?_)
  refine wpAny_pure (hR h' tk' (fun b o hb e=>k b o (fun q=>absurd (hwr b q) (Nat.not_le.mpr hb)) e) ?_)
  rw [List.take_length] at hd
  obtain ⟨o,es,ep,ho,r⟩:=hd
  exact ⟨o,es,ep,k d o hdw ho,r⟩
 | succ m ih =>
  intro i z tk s hm hi st hd hp hR
  have hlt:i < more.length:=by omega
  refine codeAny_builtin GC ?_
  rw [Around.under_plainId Jd _]
  show wpAny _ A.in1 (pyNext (.ref I) >>= _) _ _ s
  refine wpAny_bind (W.item i s _ _ hlt st fun v h' tk' hPv st' k=>?_)
  obtain ⟨t,kk,ht,rfl,hk,o,ho,hc,n,hdt⟩:=hp i v more[i] hPv (List.getElem?_eq_getElem hlt)
  have ho':h'.get? t=some o:=k t o (fun q=>absurd (hwr t q) (Nat.not_le.mpr ht)) ho
  have hd':h'.DictOf knd d (merged [] (more.take i)):=by
   obtain ⟨o,es,ep,ho,r⟩:=hd
   exact ⟨o,es,ep,k d o hdw ho,r⟩
  have hT:Shared.TypeIs { s with heap:=h',toks:=tk' } (.ref t) "tuple":=⟨o,ho',hc⟩
  show wpAny _ A.in1 (holding [.ref t] _ >>= _) _ _ _
  refine wpAny_bind (wpAny_holding (wpAny_bind (wpAny_tryCatch ?_)))
  unfold Builtin.Dict.pairItems
  refine wpAny_bind (wpAny_typeOf hT ?_)
  rw [if_pos (by decide)]
  refine wpAny_bind (wpAny_seqItems ho' hdt (wpAny_pure ?_))
  show wpAny _ A.in1 (holding [kk,more[i].2] (dictSet d kk more[i].2)) _ _ _
  refine wpAny_holding (wpAny_dictSet_pairs (knd:=knd) hk hd' (fun h2 hd2 sb=>?_) ?_)
  ·rw [<- merged_take_succ [] more i more[i] (List.getElem?_eq_getElem hlt)] at hd2
   have keep2:∀ b o,b < lo->s.heap.get? b=some o->h2.get? b=some o:=fun b o hb e=>by
    rw [sb.2 b (Nat.ne_of_lt (Nat.lt_of_lt_of_le hb hlo))]
    exact k b o (fun q=>absurd (hwr b q) (Nat.not_le.mpr hb)) e
   refine wpAny_pure ⟨plainId_quiet Jd _,ih (i + 1) _ _ _ (by omega) hlt (W.frame _ _ _ st' fun b hb o e=>?_) hd2 (fun j v kv hv hj=>?_) fun h3 tk3 k3 hd3=>?_⟩
   ·rw [sb.2 b (fun q=>hdf (by rw [<- q];exact hb))];exact e
   ·obtain ⟨t,kk,ht,rfl,hk,o,ho,r⟩:=hp j v kv hv hj
    exact ⟨t,kk,ht,rfl,hk,o,keep2 t o ht ho,r⟩
   ·exact hR h3 tk3 (fun b o hb e=>k3 b o hb (keep2 b o hb e)) hd3
  ·have:=merged_length_le [] (more.take i)
   rw [List.length_take,List.length_nil] at this
   omega
theorem Cw {A:Around}{E:Value->Shared->Prop}{s:Shared}{l:Addr}{its:Array Value}{n:Nat}{more:List (κ × Value)}{Q:Value->Shared->Prop}(hh:A.handled=none)(ho:s.heap.get? l=some { cls:= .type "list",data:= .seq its n }) (hlen:its.size=more.length) (hsz:more.length<=sizeLine)
  (hp:∀ (j:Nat) (v:Value) (kv:κ × Value),its[j]?=some v->more[j]?=some kv->∃ t k,v = .ref t/\knd.is kv.1 k=true/\IsTup s.heap t #[k,kv.2])
  (h:∀ h' tk',(∀ b o,s.heap.get? b=some o->h'.get? b=some o)->h'.DictOf knd s.heap.objs.size (merged [] more)->Q (.ref s.heap.objs.size) { s with heap:=h',toks:=tk' }) :
  wpAny (model P w) A (call (.type "dict") [.ref l]) Q E s:=by
 refine callType_codes (Q₁:=fun ob s1=>ob = .ref s.heap.objs.size/\s1={ s with heap:=s.heap.push { cls:= .type "dict",data:= .dict #[] } }) PySem.F.kt_called_dict (PySem.F.kt_typeCall_dict_1 _) PySem.F.entry_dict_init (kt_code_dict_new _ ⟨rfl,rfl⟩) ?_
 rintro ob s1 ⟨rfl,rfl⟩
 have hnew:(s.heap.push { cls:= .type "dict",data:= .dict #[] }).DictOf knd s.heap.objs.size []:=Heap.DictOf.new s.heap
 have ho':(s.heap.push { cls:= .type "dict",data:= .dict #[] }).get? l=some { cls:= .type "list",data:= .seq its n }:=Heap.get?_push_of_some _ ho
 have hTl:Shared.TypeIs { s with heap:=s.heap.push { cls:= .type "dict",data:= .dict #[] } } (.ref l) "list":=⟨_,ho',rfl⟩
 have hlt:l < s.heap.objs.size:=Heap.lt_size ho
 refine ⟨hnew.typeIs,PySem.F.args_dict_init_2 _ _,?_⟩
 unfold Builtin.«dict.__init__»
 refine wpAny_bind ?_
 unfold Builtin.Dict.selfAndRest
 refine wpAny_bind (wpAny_notOrdered_dict hnew.typeIs ?_)
 show wpAny _ _ (pure (s.heap.objs.size,[Value.ref l])) _ _ _
 refine wpAny_pure ?_
 show wpAny _ _ (Builtin.Dict.updateFrom "dict.__init__" s.heap.objs.size (.ref l) [] .none) _ _ _
 unfold Builtin.Dict.updateFrom
 refine wpAny_bind (wpAny_typeOf hTl ?_)
 rw [if_pos (by decide)]
 refine wpAny_bind (PY ho' (by simpa using hh) fun h1 tk1 k1=>?_)
 rw [if_pos (show (none:Option Value).isNone=true from rfl)]
 refine wpAny_bind (wpAny_rule ?_)
 have ho1:=k1 _ _ ho'
 have hl1:h1.IsList l its:=⟨_,ho1,rfl,n,rfl⟩
 refine wpAny_bind (wpAny_pyIter_list (s:={ s with heap:=h1,toks:=tk1 }) hl1 ?_)
 have hd1:h1.DictOf knd s.heap.objs.size []:=by
  obtain ⟨o,es,ep,hq,r⟩:=hnew
  exact ⟨o,es,ep,k1 _ _ hq,r⟩
 have hdlt:s.heap.objs.size < h1.objs.size:=by obtain ⟨o,es,ep,hq,r⟩:=hd1;exact Heap.lt_size hq
 have hll:l < h1.objs.size:=Heap.lt_size ho1
 refine wpAny_pure ⟨plainId_quiet Jd _,?_⟩
 have W:=Walks.list (prog:=P) (w:=w) (A:=A.in1.in1) (by simpa using hh) h1.objs.size l (Nat.ne_of_lt hll) its
 rw [hlen] at W
 refine Dm (knd:=knd) (lo:=s.heap.objs.size) W s.heap.objs.size ?_ (Nat.le_refl _) (fun b hb=>?_) hsz more.length 0 _ _ { s with heap:=h1.push { cls:= .type "list_iterator",data:= .fields #[.ref l,.int 0 0] },toks:=tk1 } (by omega) (Nat.zero_le _) ⟨⟨_,Heap.get?_push_size _ rfl,rfl,rfl⟩,hl1.push _⟩ ?_ (fun j v kv hv hj=>?_) fun h' tk' kp hd=>?_
 ·simp only [List.mem_cons,List.not_mem_nil,or_false,not_or];exact ⟨Nat.ne_of_lt hdlt,Nat.ne_of_gt hlt⟩
 ·rw [List.mem_singleton.mp hb];exact Nat.le_of_lt hdlt
 ·obtain ⟨o,es,ep,hq,r⟩:=hd1
  exact ⟨o,es,ep,Heap.get?_push_of_some _ hq,r⟩
 ·obtain ⟨t,k,rfl,hk,o,hto,r⟩:=hp j v kv hv hj
  exact ⟨t,k,Heap.lt_size hto,rfl,hk,o,Heap.get?_push_of_some _ (k1 _ _ (Heap.get?_push_of_some _ hto)),r⟩
 ·exact ⟨rfl,h h' tk' (fun b o e=>kp b o (Heap.lt_size e) (Heap.get?_push_of_some _ (k1 _ _ (Heap.get?_push_of_some _ e)))) hd⟩
end
section
variable {X:Cx}
theorem Hl {pins:List (Addr × Obj)}{σ:St}{H:Hp}{s:Shared}(I:Inv X pins σ H s){ts:List Addr}{kvs:List (z8 × V)}(r:Paired (fun t (kv:z8 × V)=>H t=some (.tup [kV kv.1,kv.2])) ts kvs) :
  ∃ more:List (z8 × Value),KV kvs more/\∀ (j:Nat) (t:Addr) (m:z8 × Value),ts[j]?=some t->more[j]?=some m->∃ k,(qG X.prog X.w).is m.1 k=true/\IsTup s.heap t #[k,m.2]:=by
 induction r with
 | nil=>exact ⟨[],.nil,fun j t m h=>by simp at h⟩
 | @cons t kv ts kvs p _ ih =>
  obtain ⟨more,k1,k2⟩:=ih
  obtain ⟨_,its,rv,ht⟩:=(show ObjOk X.prog X.w H s.heap t (.tup [kV kv.1,kv.2]) from I.hok t _ p)
  cases rv with
  | cons p1 r1 =>
   cases r1 with
   | cons p2 r2 =>
    cases r2
    rename_i u1 u2
    refine ⟨(kv.1,u2)::more,.cons ⟨rfl,p2⟩ k1,fun j t' m h1 h2=>?_⟩
    cases j with
    | zero =>
     simp at h1 h2
     subst h1 h2
     exact ⟨u1,wS p1,ht⟩
    | succ j=>exact k2 j t' m (by simpa using h1) (by simpa using h2)
theorem Pe:∀ {ts:List Addr} {us:List Value},Vals (ts.map V.ref) us->us=ts.map Value.ref
 | [],_,.nil=>rfl
 | t::ts,_,.cons p r=>by
  obtain rfl:=(show _=Value.ref t from p)
  rw [Pe r];rfl
theorem YE:∀ {kvs:List (z8 × V)} {vs:List (z8 × Value)},KV kvs vs->vs.map (·.1)=kvs.map (·.1)
 | [],_,.nil=>rfl
 | _::_,_,.cons p r=>by rw [List.map_cons,List.map_cons,YE r,p.1]
end
end L2
namespace L2
open PySem PySem.Spec PyProof.Rows
section
variable {X:Cx}{pins:List (Addr × Obj)}{σ:St}{H:Hp}{s:Shared}{h1:Heap}{N':List Str}{cap:List (Option Nat)}{sc:Scope}{cl:List (Str × Addr)}{fp:List Addr}{C D:Addr}
end
section
variable {X:Cx}{pins:List (Addr × Obj)}{σ:St}{s₂:Shared}{N':List Str}{cap:List (Option Nat)}{sc:Scope}{cl:List (Str × Addr)}{fp:List Addr}
end
end L2
namespace L2
open PySem PySem.Spec PySem.Calls PyProof.Rows
theorem YD:∀ {kvs:List (z8 × V)} {vs:List (z8 × Value)} {i:Nat} {k:z8} {x:V},KV kvs vs->kvs[i]?=some (k,x)->∃ u,vs[i]?=some (k,u)/\RelV x u
 | [],_,i,_,_,_,e=>by simp at e
 | _::_,_,0,k,x,.cons (b:=q) p _,e=>by
  simp at e
  subst e
  refine ⟨q.2,?_,p.2⟩
  have e1:k=q.1:=p.1
  rw [e1]
  rfl
 | _::_,_,i + 1,k,x,.cons _ r,e=>by
  obtain ⟨u,h1,h2⟩:=YD (i:=i) (k:=k) (x:=x) r (by simpa using e)
  exact ⟨u,by simpa using h1,h2⟩
def Itv (a:Addr)(o:Obj)(kvs:List (z8 × V)):It :=
 ⟨fun i H=>H a=some (.frz o (.dK kvs))/\i < kvs.length,fun i H x H'=>H'=H/\∃ k,kvs[i]?=some (k,x),fun i H=>H a=some (.frz o (.dK kvs))/\kvs.length<=i⟩
theorem Zz {P:Program}{w:World}{H:Hp}{h:Heap}{a:Addr}{o:Obj}{es:Array DictEntry}{ep:Nat}{kvs:List (z8 × V)}(ok:HOk P w H h)(e:H a=some (.frz o (.dK kvs)))(hd:o.data = .dict es ep) :
  (a == sysModules)=false/\∃ vs,KV kvs vs/\h.DictAt (qG P w) a vs ep:=by
 obtain ⟨h1,h2,h3,vs,r,o',es',ep',h4,h5,h6,h7⟩:=(show ObjOk P w H h a (.frz o (.dK kvs)) from ok a _ e)
 rw [h1] at h4
 cases h4
 rw [hd] at h6
 cases h6
 exact ⟨h3,vs,r,o,es,h1,h5,hd,h7⟩
theorem TZ {P:Program}{w:World}{K:Fg}{tg:Expr}(a it:Addr){o:Obj}{es:Array DictEntry}{ep:Nat}(kvs:List (z8 × V))(hd:o.data = .dict es ep):jB P w K tg (Itv a o kvs) [it] it (fun i h=>h.IsValIter it a i kvs.length ep) where
 mem:=by simp
 obj:=fun i h st b hb=>by
  have e:b=it:=by simpa using hb
  subst e
  obtain ⟨o,e,c,d⟩:=st
  exact ⟨o,e,fun v z=>by rw [d] at z;cases z⟩
 keep:=fun i h h' st k=>by
  obtain ⟨o,e,c,d⟩:=st
  exact ⟨o,k it (by simp) o e,c,d⟩
 item:=by
  intro X hP hw hK hc i pins s σ H E I hf st hg
  subst hP hw hK
  obtain ⟨hq,hl⟩:=hg
  obtain ⟨_,vs,r,hm⟩:=Zz I.hok hq hd
  have lv:vs.length=kvs.length:=(KV.length r).symm
  obtain ⟨u,hu,ru⟩:=YD (i:=i) (k:=kvs[i].1) (x:=kvs[i].2) r (List.getElem?_eq_getElem hl)
  obtain ⟨f0,f1,f2,f3,f4,f5⟩:=hf it (by simp)
  have st1:s.heap.IsValIter it a i vs.length ep:=by rw [lv];exact st
  refine wpAny_pyNext_values_item st1 hm hu fun h' st' sb=>?_
  have I1:Inv X pins σ H { s with heap:=h' }:=I.turned (t':=s.toks) (fun b o hb e=>(sb.2 b hb).trans e) f0 f1 f3 f4 f5
  rw [lv] at st'
  obtain ⟨o1,e1,c1,d1⟩:=id st'
  exact ⟨u,rfl,ZB (s:={ s with heap:=h' }) e1 c1 d1 (by decide) ⟨kvs[i].2,H,I1,ru,⟨rfl,kvs[i].1,List.getElem?_eq_getElem hl⟩,st',fun b hb=>(hf b hb).1⟩⟩
 done:=by
  intro X hP hw hK hc i pins s σ H E I hf st hg
  subst hP hw hK
  obtain ⟨hq,hl⟩:=hg
  obtain ⟨_,vs,r,hm⟩:=Zz I.hok hq hd
  have lv:vs.length=kvs.length:=(KV.length r).symm
  obtain ⟨f0,f1,f2,f3,f4,f5⟩:=hf it (by simp)
  have st1:s.heap.IsValIter it a i vs.length ep:=by rw [lv];exact st
  exact wpAny_pyNext_values_end (I.ok.hd hc) st1 hm (List.getElem?_eq_none (by omega)) fun h' eb=>⟨rfl,I.turned (t':=s.toks) (fun b o hb e=>eb b o hb e) f0 f1 f3 f4 f5⟩
 self:=fun _ _ _ _ _ st h=>wpAny_pyIter_valiter st h
section
variable {X:Cx}{tg:Expr}
def GQ (td:TE):TI:=fun σ H R=>td σ H fun x H1=>∃ a o kvs,x = .ref a/\H1 a=some (.frz o (.dK kvs))/\R (Itv a o kvs) H1
theorem HI {d:Expr}{td:TE}{apos cpos:Pos}(ho:PE X d td)(hbase:attributeBase d "values" X.env (eval d X.env)=eval d X.env:=by rfl) (hline:(apos.endLine == cpos.line)=true:=by rfl) :
  PI X tg (.Call (.Attribute d "values" apos) [] [] cpos) (GQ td):=by
 intro pins s σ H R I h
 refine wpAny_Call_method0_late hbase hline (j3 (ho pins s σ H _ I h) fun v s1 ⟨x,H1,I1,r1,q1⟩=>?_)
 obtain ⟨a,o,kvs,e,hq,q⟩:=q1
 subst e
 cases r1
 obtain ⟨g1,g2,g3,ws,rw',o',es,ep,g4,g5,g6,g7⟩:=(show ObjOk X.prog X.w H1 s1.heap a (.frz o (.dK kvs)) from I1.hok a _ hq)
 rw [g1] at g4
 cases g4
 obtain ⟨hs,vs,r,hm⟩:=Zz I1.hok hq g6
 have lv:vs.length=kvs.length:=(KV.length r).symm
 refine ⟨"dict", "dict.values",PySem.F.plainAttrs_dict,PySem.F.slot_dict_values,PySem.F.type_dict_values,hm.dictOf.typeIs,fun b e=>?_,Calls.callWith_builtin rfl (PySem.evalArgs_none ?_)⟩
 ·cases e
  exact ⟨o,g1,g5.2.1⟩
 refine call_meetsIn PySem.F.slot_dict_values hm.dictOf.typeIs PySem.F.entry_dict_values (PySem.F.args_dict_values_1 _) (meets_dict_values (qG X.prog X.w) a hs) ⟨⟨vs,hm.dictOf⟩,?_⟩
 have I2:Inv X pins σ H1 { s1 with heap:=s1.heap.push { cls:= .type "dict_values",data:= .fields #[.ref a] } }:=I1.kept (t':=s1.toks) fun b o e=>Heap.get?_push_of_some _ e
 obtain ⟨_,vs2,r2,hm2⟩:=Zz I2.hok hq g6
 have lv2:vs2.length=kvs.length:=(KV.length r2).symm
 refine wpAny_pyIter_values (knd:=qG X.prog X.w) (kvs:=vs2) ⟨_,Heap.get?_push_size _ rfl,rfl,rfl⟩ hm2 ?_
 refine ⟨_,[_],_,Itv a o kvs,H1,rfl,I2.kept (t':=s1.toks) fun b o e=>Heap.get?_push_of_some _ e,TZ a _ kvs g6,⟨_,Heap.get?_push_size _ rfl,rfl,?_⟩,fun b hb=>?_,q⟩
 ·rw [lv2]
  rfl
 have e:b=(s1.heap.push { cls:= .type "dict_values",data:= .fields #[.ref a] }).objs.size:=by simpa using hb
 subst e
 exact I2.fpOk (Nat.le_refl _) (I2.hok.fresh (Nat.le_refl _))
def KO:List V->Hp->VK->Prop:=fun xs H Q=>∃ (a:Addr) (ts:List Addr) (kvs:List (z8 × V)),xs=[.ref a]/\H a=some (.lst (ts.map V.ref))/\Paired (fun t (kv:z8 × V)=>H t=some (.tup [kV kv.1,kv.2])) ts kvs/\(kvs.map (·.1)).Nodup/\kvs.length<=1000 /\
  ∀ l o,H l=none->Q (.ref l) (j9 H l (.frz o (.dK kvs)))
theorem Cv {K:Fg}(hc:X.calm=true)(_:X.K=K):CallR X (.type "dict") KO:=by
 intro pins s σ H xs us Q I r h
 obtain ⟨a,ts,kvs,rfl,hq,hp,hn,h1000,q⟩:=h
 obtain ⟨u,rfl,ru⟩:=zY r
 obtain rfl:u=Value.ref a:=ru
 obtain ⟨hz,its,n,rv,ho⟩:=(show ObjOk X.prog X.w H s.heap a (.lst (ts.map V.ref)) from I.hok a _ hq)
 have ei:=Pe rv
 obtain ⟨more,k1,k2⟩:=Hl I hp
 have lk:more.length=kvs.length:=k1.length.symm
 have lt:=hp.length
 have hsl:more.length<=sizeLine:=Nat.le_of_lt (XQ (by omega))
 refine Cw (knd:=qG X.prog X.w) (more:=more) (I.ok.hd hc) ho (by rw [List.size_toArray,ei,List.length_map];omega) hsl (fun j v m hv hm=>?_) fun h' tk k hd=>?_
 ·have hv':its[j]?=some v:=by simpa using hv
  rw [ei,List.getElem?_map] at hv'
  obtain ⟨t,ht,rfl⟩:=Option.map_eq_some_iff.mp hv'
  obtain ⟨kk,x1,x2⟩:=k2 j t m ht hm
  exact ⟨t,kk,rfl,x1,x2⟩
 ·rw [merged_nil_of_nodup more (by rw [YE k1];exact hn)] at hd
  obtain ⟨o,es,ep,ho',_⟩:=id hd
  refine ⟨.ref s.heap.objs.size,_,I.laid (t':=tk) (o:= .frz o (.dK kvs)) k (Nat.le_refl _) ⟨ho',Gz (by omega) (beq_eq_false_iff_ne.mpr (Ne.symm (Nat.ne_of_lt I.big))) k1 hd⟩,rfl,q _ _ (I.hok.fresh (Nat.le_refl _))⟩
end
end L2
namespace L2
open PySem PySem.Spec PySem.Calls PyProof.Rows
section
variable {X:Cx}
end
end L2
namespace Mi
open PySem L2
inductive PV where
 | at (v:V) | tup (xs:List PV) | lst (xs:List PV) | dk (ks:List z8) (xs:List PV) | fk (ks:List z8) (xs:List PV) | ob (C:Addr) (ns:List Str) (xs:List PV) | op (φ:Hp->V->Prop)
mutual
def Rep (H:Hp):PV->V->Prop
 | .at u,v=>v=u
 | .tup xs,v=>∃ a vs,v = .ref a/\H a=some (.tup vs)/\Reps H xs vs
 | .lst xs,v=>∃ a vs,v = .ref a/\H a=some (.lst vs)/\Reps H xs vs
 | .dk ks xs,v=>∃ a kvs,v = .ref a/\H a=some (.dK kvs)/\kvs.map (·.1)=ks/\Reps H xs (kvs.map (·.2))
 | .fk ks xs,v=>∃ a o kvs,v = .ref a/\H a=some (.frz o (.dK kvs))/\kvs.map (·.1)=ks/\Reps H xs (kvs.map (·.2))
 | .ob C ns xs,v=>∃ a dx fs,v = .ref a/\H a=some (.ins C dx fs)/\fs.map (·.1)=ns/\Reps H xs (fs.map (·.2))
 | .op φ,v=>∃ H',Same H' H/\φ H' v
def Reps (H:Hp):List PV->List V->Prop
 | [],vs=>vs=[]
 | x::xs,vs=>∃ v r,vs=v::r/\Rep H x v/\Reps H xs r
end
mutual
theorem Rep.mono {H H':Hp}(g:Same H H'):∀ {x:PV} {v:V},Rep H x v->Rep H' x v
 | .at u,v,h=>by unfold Rep at h ⊢;exact h
 | .tup xs,v,h=>by unfold Rep at h ⊢;obtain ⟨a,vs,e,p,r⟩:=h;exact ⟨a,vs,e,g _ _ p,Reps.mono g r⟩
 | .lst xs,v,h=>by unfold Rep at h ⊢;obtain ⟨a,vs,e,p,r⟩:=h;exact ⟨a,vs,e,g _ _ p,Reps.mono g r⟩
 | .dk ks xs,v,h=>by unfold Rep at h ⊢;obtain ⟨a,vs,e,p,q,r⟩:=h;exact ⟨a,vs,e,g _ _ p,q,Reps.mono g r⟩
 | .fk ks xs,v,h=>by unfold Rep at h ⊢;obtain ⟨a,o,vs,e,p,q,r⟩:=h;exact ⟨a,o,vs,e,g _ _ p,q,Reps.mono g r⟩
 | .ob C ns xs,v,h=>by unfold Rep at h ⊢;obtain ⟨a,dx,vs,e,p,q,r⟩:=h;exact ⟨a,dx,vs,e,g _ _ p,q,Reps.mono g r⟩
 | .op φ,v,h=>by unfold Rep at h ⊢;obtain ⟨H1,s,p⟩:=h;exact ⟨H1,s.trans g,p⟩
theorem Reps.mono {H H':Hp}(g:Same H H'):∀ {xs:List PV} {vs:List V},Reps H xs vs->Reps H' xs vs
 | [],vs,h=>by unfold Reps at h ⊢;exact h
 | x::xs,vs,h=>by unfold Reps at h ⊢;obtain ⟨v,r,e,p,q⟩:=h;exact ⟨v,r,e,Rep.mono g p,Reps.mono g q⟩
end
theorem rep_at {H:Hp}{u v:V}:Rep H (.at u) v ↔ v=u:=by unfold Rep;exact Iff.rfl
theorem rep_tup {H:Hp}{xs:List PV}{v:V}:Rep H (.tup xs) v ↔ ∃ a vs,v = .ref a/\H a=some (.tup vs)/\Reps H xs vs:=by unfold Rep;exact Iff.rfl
theorem rep_lst {H:Hp}{xs:List PV}{v:V}:Rep H (.lst xs) v ↔ ∃ a vs,v = .ref a/\H a=some (.lst vs)/\Reps H xs vs:=by unfold Rep;exact Iff.rfl
theorem rep_dk {H:Hp}{ks:List z8}{xs:List PV}{v:V}:Rep H (.dk ks xs) v ↔ ∃ a kvs,v = .ref a/\H a=some (.dK kvs)/\kvs.map (·.1)=ks/\Reps H xs (kvs.map (·.2)):=by unfold Rep;exact Iff.rfl
theorem rep_fk {H:Hp}{ks:List z8}{xs:List PV}{v:V}:Rep H (.fk ks xs) v ↔ ∃ a o kvs,v = .ref a/\H a=some (.frz o (.dK kvs))/\kvs.map (·.1)=ks/\Reps H xs (kvs.map (·.2)):=by unfold Rep;exact Iff.rfl
theorem rep_ob {H:Hp}{C:Addr}{ns:List Str}{xs:List PV}{v:V}:Rep H (.ob C ns xs) v ↔ ∃ a dx fs,v = .ref a/\H a=some (.ins C dx fs)/\fs.map (·.1)=ns/\Reps H xs (fs.map (·.2)):=by unfold Rep;exact Iff.rfl
theorem rep_op {H:Hp}{φ:Hp->V->Prop}{v:V}:Rep H (.op φ) v ↔ ∃ H',Same H' H/\φ H' v:=by unfold Rep;exact Iff.rfl
theorem reps_nil {H:Hp}{vs:List V}:Reps H [] vs ↔ vs=[]:=by unfold Reps;exact Iff.rfl
theorem reps_cons {H:Hp}{x:PV}{xs:List PV}{vs:List V}:Reps H (x::xs) vs ↔ ∃ v r,vs=v::r/\Rep H x v/\Reps H xs r:=by
 constructor
 ·intro h;unfold Reps at h;exact h
 ·intro h;unfold Reps;exact h
theorem Reps.nil {H:Hp}:Reps H [] []:=reps_nil.mpr rfl
theorem Reps.cons {H:Hp}{x:PV}{v:V}{xs:List PV}{vs:List V}(p:Rep H x v)(q:Reps H xs vs):Reps H (x::xs) (v::vs):=reps_cons.mpr ⟨v,vs,rfl,p,q⟩
theorem Reps.length {H:Hp}:∀ {xs:List PV} {vs:List V},Reps H xs vs->vs.length=xs.length
 | [],vs,h=>by rw [reps_nil.mp h];rfl
 | x::xs,vs,h=>by obtain ⟨v,r,rfl,_,q⟩:=reps_cons.mp h;rw [List.length_cons,List.length_cons,Reps.length q]
theorem Reps.append {H:Hp}:∀ {xs ys:List PV} {vs ws:List V},Reps H xs vs->Reps H ys ws->Reps H (xs++ys) (vs++ws)
 | [],ys,vs,ws,h,k=>by rw [reps_nil.mp h];exact k
 | x::xs,ys,vs,ws,h,k=>by obtain ⟨v,r,rfl,p,q⟩:=reps_cons.mp h;exact .cons p (Reps.append q k)
theorem Reps.one {H:Hp}{x:PV}{v:V}(p:Rep H x v):Reps H [x] [v]:= .cons p .nil
theorem Reps.get {H:Hp}:∀ {xs:List PV} {vs:List V} {i:Nat} {x:PV},Reps H xs vs->xs[i]?=some x->∃ v,vs[i]?=some v/\Rep H x v
 | [],_,i,x,_,e=>by simp at e
 | y::xs,vs,0,x,h,e=>by
  obtain ⟨v,r,rfl,p,q⟩:=reps_cons.mp h
  simp at e;subst e
  exact ⟨v,rfl,p⟩
 | y::xs,vs,i + 1,x,h,e=>by
  obtain ⟨v,r,rfl,p,q⟩:=reps_cons.mp h
  obtain ⟨w,e1,e2⟩:=Reps.get (i:=i) (x:=x) q (by simpa using e)
  exact ⟨w,by simpa using e1,e2⟩
theorem Reps.take {H:Hp}:∀ (n:Nat) {xs:List PV} {vs:List V},Reps H xs vs->Reps H (xs.take n) (vs.take n)
 | 0,_,_,_=>by rw [List.take_zero,List.take_zero];exact .nil
 | n + 1,[],vs,h=>by rw [reps_nil.mp h];exact .nil
 | n + 1,x::xs,vs,h=>by
  obtain ⟨v,r,rfl,p,q⟩:=reps_cons.mp h
  exact .cons p (Reps.take n q)
theorem Reps.drop {H:Hp}:∀ (n:Nat) {xs:List PV} {vs:List V},Reps H xs vs->Reps H (xs.drop n) (vs.drop n)
 | 0,_,_,h=>h
 | n + 1,[],vs,h=>by rw [reps_nil.mp h];exact .nil
 | n + 1,x::xs,vs,h=>by
  obtain ⟨v,r,rfl,p,q⟩:=reps_cons.mp h
  exact Reps.drop n q
theorem Reps.reverse {H:Hp}:∀ {xs:List PV} {vs:List V},Reps H xs vs->Reps H xs.reverse vs.reverse
 | [],vs,h=>by rw [reps_nil.mp h];exact .nil
 | x::xs,vs,h=>by
  obtain ⟨v,r,rfl,p,q⟩:=reps_cons.mp h
  rw [List.reverse_cons,List.reverse_cons]
  exact (Reps.reverse q).append (.one p)
theorem Reps.ats {H:Hp}:∀ {us vs:List V},Reps H (us.map .at) vs->vs=us
 | [],vs,h=>reps_nil.mp h
 | u::us,vs,h=>by
  obtain ⟨v,r,rfl,p,q⟩:=reps_cons.mp h
  rw [rep_at.mp p,Reps.ats q]
theorem Reps.ofAts {H:Hp}:∀ (us:List V),Reps H (us.map .at) us
 | []=> .nil
 | u::us=> .cons (rep_at.mpr rfl) (Reps.ofAts us)

structure Ext (Hs H Hs' H':Hp):Prop where
 s1:Same Hs Hs'
 s2:Same H H'
 s3:Same Hs' H'
 s4:∀ b,H b ≠ none->Hs b=none->Hs' b=none
theorem By {H H':Hp}(g:Same H H'){b:Addr}(h:H b ≠ none):H' b ≠ none:=fun z=>h (g.free z)
theorem Ext.refl {Hs H:Hp}(s:Same Hs H):Ext Hs H Hs H:=⟨.refl _,.refl _,s,fun _ _ z=>z⟩
theorem Ext.trans {A B A1 B1 A2 B2:Hp}(x:Ext A B A1 B1)(y:Ext A1 B1 A2 B2):Ext A B A2 B2:=⟨x.s1.trans y.s1,x.s2.trans y.s2,y.s3,fun b h z=>y.s4 b (By x.s2 h) (x.s4 b h z)⟩
theorem Ext.new {Hs H:Hp}(s:Same Hs H){p:Addr}{o:HO}(h:H p=none):Ext Hs H (j9 Hs p o) (j9 H p o):=by
 have hs:Hs p=none:=s.free h
 refine ⟨fun b u e=>?_,fun b u e=>?_,fun b u e=>?_,fun b e z=>?_⟩
 ·rw [v6 (n5 e hs)];exact e
 ·rw [v6 (n5 e h)];exact e
 ·by_cases hb:b=p
  ·subst hb;rw [g0] at e ⊢;exact e
  ·rw [v6 hb] at e ⊢;exact s _ _ e
 ·have hb:b ≠ p:=fun q=>e (by rw [q];exact h)
  rw [v6 hb];exact z
theorem Ext.newO {Hs H:Hp}(s:Same Hs H){p:Addr}{o:HO}(h:H p=none):Ext Hs H Hs (j9 H p o) :=
 ⟨.refl _,fun b u e=>by rw [v6 (n5 e h)];exact e,fun b u e=>by rw [v6 (n5 (s _ _ e) h)];exact s _ _ e,fun _ _ z=>z⟩
def Top (Hs H:Hp)(a:Addr):PV->Prop
 | .lst xs=>∃ vs,H a=some (.lst vs)/\Reps Hs xs vs
 | .dk ks xs=>∃ kvs,H a=some (.dK kvs)/\kvs.map (·.1)=ks/\Reps Hs xs (kvs.map (·.2))
 | .ob C ns xs=>∃ dx fs,H a=some (.ins C dx fs)/\fs.map (·.1)=ns/\Reps Hs xs (fs.map (·.2))
 | _=>False
theorem Top.there {Hs H:Hp}{a:Addr}:∀ {x:PV},Top Hs H a x->H a ≠ none
 | .lst _,h,z=>by obtain ⟨vs,e,_⟩:=h;rw [e] at z;cases z
 | .dk _ _,h,z=>by obtain ⟨vs,e,_⟩:=h;rw [e] at z;cases z
 | .ob _ _ _,h,z=>by obtain ⟨dx,vs,e,_⟩:=h;rw [e] at z;cases z
theorem Top.mono {Hs H Hs' H':Hp}{a:Addr}(g:Same Hs Hs')(e:∀ o,H a=some o->H' a=some o):∀ {x:PV},Top Hs H a x->Top Hs' H' a x
 | .lst _,h=>by obtain ⟨vs,q,r⟩:=h;exact ⟨vs,e _ q,r.mono g⟩
 | .dk _ _,h=>by obtain ⟨vs,q,k,r⟩:=h;exact ⟨vs,e _ q,k,r.mono g⟩
 | .ob _ _ _,h=>by obtain ⟨dx,vs,q,k,r⟩:=h;exact ⟨dx,vs,e _ q,k,r.mono g⟩
theorem Top.rep {Hs H:Hp}{a:Addr}:∀ {x:PV},Top Hs H a x->Hs a=none->∃ o,H a=some o/\Rep (j9 Hs a o) x (.ref a)
 | .lst _,h,n=>by
  obtain ⟨vs,q,r⟩:=h
  exact ⟨_,q,rep_lst.mpr ⟨a,vs,rfl,g0,r.mono fun b u e=>by rw [v6 (n5 e n)];exact e⟩⟩
 | .dk _ _,h,n=>by
  obtain ⟨vs,q,k,r⟩:=h
  exact ⟨_,q,rep_dk.mpr ⟨a,vs,rfl,g0,k,r.mono fun b u e=>by rw [v6 (n5 e n)];exact e⟩⟩
 | .ob _ _ _,h,n=>by
  obtain ⟨dx,vs,q,k,r⟩:=h
  exact ⟨_,q,rep_ob.mpr ⟨a,dx,vs,rfl,g0,k,r.mono fun b u e=>by rw [v6 (n5 e n)];exact e⟩⟩
theorem Ext.share {Hs H Hs' H':Hp}{a:Addr}{o:HO}(x:Ext Hs H Hs' H')(h:H a=none)(n:Hs' a=none)(e:H' a=some o):Ext Hs H (j9 Hs' a o) H':=by
 refine ⟨fun b u q=>?_,x.s2,fun b u q=>?_,fun b q z=>?_⟩
 ·rw [v6 (n5 (x.s1 _ _ q) n)];exact x.s1 _ _ q
 ·by_cases hb:b=a
  ·subst hb;rw [g0] at q;cases q;exact e
  ·rw [v6 hb] at q;exact x.s3 _ _ q
 ·have hb:b ≠ a:=fun r=>q (by rw [r];exact h)
  rw [v6 hb];exact x.s4 b q z
def RepB (Hs H:Hp)(x:PV)(v:V):Prop:=Rep Hs x v ∨ ∃ a,v = .ref a/\Hs a=none/\Top Hs H a x
theorem RepB.ext {Hs H Hs' H':Hp}{x:PV}{v:V}(e:Ext Hs H Hs' H')(h:RepB Hs H x v):RepB Hs' H' x v:=by
 rcases h with h | ⟨a,rfl,n,t⟩
 ·exact .inl (h.mono e.s1)
 ·exact .inr ⟨a,rfl,e.s4 a t.there n,t.mono e.s1 fun o q=>e.s2 _ _ q⟩

inductive MSlot where
 | no | sh (x:PV) | ow (x:PV) | bo (x:PV)
abbrev ME:=List MSlot
def Own (H0 Hs H:Hp)(a:Addr)(x:PV):Prop:=H0 a=none/\Hs a=none/\Top Hs H a x
structure RS (Hs0 H0 Hs H:Hp)(σ:St)(ε:ME):Prop where
 ext:Ext Hs0 H0 Hs H
 sh:∀ (i:Nat) (x:PV),ε[i]?=some (.sh x)->∃ v,σ[i]?=some (some v)/\Rep Hs x v
 ow:∀ (i:Nat) (x:PV),ε[i]?=some (.ow x)->∃ a,σ[i]?=some (some (.ref a))/\Own H0 Hs H a x
 nd:∀ (i j:Nat) (x y:PV) (a:Addr),ε[i]?=some (.ow x)->ε[j]?=some (.ow y)->σ[i]?=some (some (.ref a))->σ[j]?=some (some (.ref a))->i=j
 len:σ.length=ε.length
 bo:∀ (i:Nat) (x:PV),ε[i]?=some (.bo x)->∃ v,σ[i]?=some (some v)/\(Rep Hs x v ∨ ∃ a,v = .ref a/\H0 a ≠ none/\Hs a=none/\Top Hs H a x)
section
variable {Hs0 H0 Hs H Hs' H':Hp}{σ:St}{ε:ME}
theorem RS.go (r:RS Hs0 H0 Hs H σ ε)(e:Ext Hs H Hs' H'):RS Hs0 H0 Hs' H' σ ε where
 ext:=r.ext.trans e
 sh:=fun i x q=>by obtain ⟨v,a,b⟩:=r.sh i x q;exact ⟨v,a,b.mono e.s1⟩
 ow:=fun i x q=>by
  obtain ⟨a,b,n0,n,t⟩:=r.ow i x q
  exact ⟨a,b,n0,e.s4 a t.there n,t.mono e.s1 fun o z=>e.s2 _ _ z⟩
 nd:=r.nd
 len:=r.len
 bo:=fun i x q=>by
  obtain ⟨v,b,h | ⟨a,rfl,n0,n,t⟩⟩:=r.bo i x q
  ·exact ⟨v,b,.inl (h.mono e.s1)⟩
  ·exact ⟨_,b,.inr ⟨a,rfl,n0,e.s4 a t.there n,t.mono e.s1 fun o z=>e.s2 _ _ z⟩⟩
theorem RS.sub (r:RS Hs0 H0 Hs H σ ε):Same Hs H:=r.ext.s3
theorem RS.rebase (r:RS Hs0 H0 Hs H σ ε):RS Hs H0 Hs H σ ε:=⟨⟨.refl _,r.ext.s2,r.ext.s3,fun _ _ z=>z⟩,r.sh,r.ow,r.nd,r.len,r.bo⟩
theorem Ext.unbase {Hb:Hp}(r:Ext Hs0 H0 Hb H)(e:Ext Hb H0 Hs' H'):Ext Hs0 H0 Hs' H':=⟨r.s1.trans e.s1,e.s2,e.s3,fun b h z=>e.s4 b h (r.s4 b h z)⟩
theorem RS.unbase {Hb:Hp}{σ':St}{ε':ME}(r:Ext Hs0 H0 Hb H)(e:RS Hb H0 Hs' H' σ' ε'):RS Hs0 H0 Hs' H' σ' ε':=⟨r.unbase e.ext,e.sh,e.ow,e.nd,e.len,e.bo⟩
theorem RS.put (r:RS Hs0 H0 Hs H σ ε){i:Nat}{x:PV}{v:V}(h:Rep Hs x v):RS Hs0 H0 Hs H (σ.set i (some v)) (ε.set i (.sh x)) where
 ext:=r.ext
 sh:=fun j y q=>by
  rw [List.getElem?_set] at q ⊢
  split at q
  ·rename_i hij
   split at q
   ·rename_i hl
    injection q with q;injection q with q;subst q
    rw [if_pos hij,if_pos (by rw [r.len,hij];rw [hij] at hl;exact hl)]
    exact ⟨v,rfl,h⟩
   ·cases q
  ·rename_i hij
   rw [if_neg hij]
   exact r.sh j y q
 ow:=fun j y q=>by
  rw [List.getElem?_set] at q ⊢
  split at q
  ·split at q <;> cases q
  ·rename_i hij
   rw [if_neg hij]
   exact r.ow j y q
 nd:=fun j k x y a h1 h2 h3 h4=>by
  rw [List.getElem?_set] at h1 h2 h3 h4
  split at h1
  ·split at h1 <;> cases h1
  ·rename_i hj
   rw [if_neg hj] at h3
   split at h2
   ·split at h2 <;> cases h2
   ·rename_i hk
    rw [if_neg hk] at h4
    exact r.nd j k x y a h1 h2 h3 h4
 len:=by rw [List.length_set,List.length_set,r.len]
 bo:=fun j y q=>by
  rw [List.getElem?_set] at q ⊢
  split at q
  ·split at q <;> cases q
  ·rename_i hij
   rw [if_neg hij]
   exact r.bo j y q
theorem RS.putO (r:RS Hs0 H0 Hs H σ ε){i:Nat}{x:PV}{a:Addr}(h:Own H0 Hs H a x)(ne:∀ (j:Nat) (y:PV),ε[j]?=some (.ow y)->σ[j]? ≠ some (some (.ref a))):RS Hs0 H0 Hs H (σ.set i (some (.ref a))) (ε.set i (.ow x)) where
 ext:=r.ext
 sh:=fun j y q=>by
  rw [List.getElem?_set] at q ⊢
  split at q
  ·split at q <;> cases q
  ·rename_i hij
   rw [if_neg hij]
   exact r.sh j y q
 ow:=fun j y q=>by
  rw [List.getElem?_set] at q ⊢
  split at q
  ·rename_i hij
   split at q
   ·rename_i hl
    injection q with q;injection q with q;subst q
    rw [if_pos hij,if_pos (by rw [r.len,hij];rw [hij] at hl;exact hl)]
    exact ⟨a,rfl,h⟩
   ·cases q
  ·rename_i hij
   rw [if_neg hij]
   exact r.ow j y q
 nd:=fun j k x' y b h1 h2 h3 h4=>by
  rw [List.getElem?_set] at h1 h2 h3 h4
  split at h1
  ·rename_i hj
   rw [if_pos hj] at h3
   split at h1
   ·rename_i hl
    rw [if_pos (by rw [r.len];exact hl)] at h3
    injection h3 with h3;injection h3 with h3;injection h3 with h3;subst h3
    split at h2
    ·rename_i hk;exact hj.symm.trans hk
    ·rename_i hk
     rw [if_neg hk] at h4
     exact absurd h4 (ne k y h2)
   ·cases h1
  ·rename_i hj
   rw [if_neg hj] at h3
   split at h2
   ·rename_i hk
    rw [if_pos hk] at h4
    split at h2
    ·rename_i hl
     rw [if_pos (by rw [r.len];exact hl)] at h4
     injection h4 with h4;injection h4 with h4;injection h4 with h4;subst h4
     exact absurd h3 (ne j x' h1)
    ·cases h2
   ·rename_i hk
    rw [if_neg hk] at h4
    exact r.nd j k x' y b h1 h2 h3 h4
 len:=by rw [List.length_set,List.length_set,r.len]
 bo:=fun j y q=>by
  rw [List.getElem?_set] at q ⊢
  split at q
  ·split at q <;> cases q
  ·rename_i hij
   rw [if_neg hij]
   exact r.bo j y q
theorem RS.change (r:RS Hs0 H0 Hs H σ ε){i:Nat}{x y:PV}{a:Addr}{o:HO}(hi:ε[i]?=some (.ow x))(ha:σ[i]?=some (some (.ref a)))(t:Top Hs (j9 H a o) a y):RS Hs0 H0 Hs (j9 H a o) σ (ε.set i (.ow y)):=by
 obtain ⟨b,hb,n0,n,tx⟩:=r.ow i x hi
 rw [ha] at hb
 injection hb with hb;injection hb with hb;injection hb with hb
 subst hb
 refine ⟨⟨r.ext.s1,fun b u e=>?_,fun b u e=>?_,r.ext.s4⟩,fun j z q=>?_,fun j z q=>?_,fun j k z z' c h1 h2 h3 h4=>?_,by rw [List.length_set,r.len],fun j z q=>?_⟩
 ·rw [v6 (n5 e n0)];exact r.ext.s2 _ _ e
 ·rw [v6 (n5 e n)];exact r.ext.s3 _ _ e
 ·rw [List.getElem?_set] at q
  split at q
  ·split at q <;> cases q
  ·exact r.sh j z q
 ·rw [List.getElem?_set] at q
  split at q
  ·rename_i hij
   split at q
   ·injection q with q;injection q with q;subst q
    exact ⟨a,hij ▸ ha,n0,n,t⟩
   ·cases q
  ·rename_i hij
   obtain ⟨c,hc,m0,m,tc⟩:=r.ow j z q
   have hne:c ≠ a:=fun e=>hij (r.nd i j x z a hi q ha (e ▸ hc))
   exact ⟨c,hc,m0,m,tc.mono (.refl _) fun o' e=>by rw [v6 hne];exact e⟩
 ·have down:∀ {m:Nat} {w:PV},(ε.set i (.ow y))[m]?=some (.ow w)->∃ w',ε[m]?=some (.ow w'):=by
   intro m w q
   rw [List.getElem?_set] at q
   split at q
   ·rename_i him;exact ⟨x,him ▸ hi⟩
   ·exact ⟨w,q⟩
  obtain ⟨w1,q1⟩:=down h1
  obtain ⟨w2,q2⟩:=down h2
  exact r.nd j k w1 w2 c q1 q2 h3 h4
 ·rw [List.getElem?_set] at q
  split at q
  ·split at q <;> cases q
  ·obtain ⟨v,hv,h | ⟨c,rfl,m0,m,tc⟩⟩:=r.bo j z q
   ·exact ⟨v,hv,.inl h⟩
   ·have hne:c ≠ a:=fun e=>m0 (e ▸ n0)
    exact ⟨_,hv,.inr ⟨c,rfl,m0,m,tc.mono (.refl _) fun o' e=>by rw [v6 hne];exact e⟩⟩
def fz (i:Nat)(ε:ME):ME:=match ε[i]? with
 | some (.ow x)=>ε.set i (.sh x)
 | _=>ε
end
theorem Qd {ε:ME}{j:Nat}{s:MSlot}(h:∀ (i:Nat) (x:PV),ε[i]? ≠ some (.bo x))(hs:∀ x,s ≠ .bo x):∀ (i:Nat) (x:PV),(ε.set j s)[i]? ≠ some (.bo x):=fun i x q=>by
 rw [List.getElem?_set] at q
 split at q
 ·split at q
  ·injection q with q;exact hs x q
  ·cases q
 ·exact h i x q
abbrev M:=ME->Option PV
abbrev MB:=ME->Option Bool
abbrev MA:=ME->Option (List PV)
class SemE (te:TE)(f:M):Prop where
 h:∀ {ε y},f ε=some y->∀ {Hs0 H0 Hs H σ},RS Hs0 H0 Hs H σ ε->∀ {Q:VK},(∀ v Hs' H',Ext Hs H Hs' H'->Rep Hs' y v->Q v H')->te σ H Q
class qj (te:TE)(f:M):Prop where
 h:∀ {ε y},f ε=some y->∀ {Hs0 H0 Hs H σ},RS Hs0 H0 Hs H σ ε->∀ {Q:VK},(∀ v Hs' H',Ext Hs H Hs' H'->RepB Hs' H' y v->Q v H')->te σ H Q
class xv (te:TE)(f:M):Prop where
 h:∀ {ε y},f ε=some y->∀ {Hs0 H0 Hs H σ},RS Hs0 H0 Hs H σ ε->∀ {Q:VK},(∀ a Hs' H',Ext Hs H Hs' H'->H a=none->Hs' a=none->Top Hs' H' a y->Q (.ref a) H')->te σ H Q
class qT (tt:TT)(f:MB):Prop where
 h:∀ {ε y},f ε=some y->∀ {Hs0 H0 Hs H σ},RS Hs0 H0 Hs H σ ε->∀ {Q:Bool->Hp->Prop},(∀ Hs' H',Ext Hs H Hs' H'->Q y H')->tt σ H Q
class xC (ta:TA)(f:MA):Prop where
 h:∀ {ε ys},f ε=some ys->∀ {Hs0 H0 Hs H σ},RS Hs0 H0 Hs H σ ε->∀ {Q:List V->Hp->Prop},(∀ vs Hs' H',Ext Hs H Hs' H'->Reps Hs' ys vs->Q vs H')->ta σ H Q
def wH (Hs H:Hp):List PV->List V->Prop
 | [],vs=>vs=[]
 | x::xs,vs=>∃ v r,vs=v::r/\RepB Hs H x v/\wH Hs H xs r
class Qy (ta:TA)(f:MA):Prop where
 h:∀ {ε ys},f ε=some ys->∀ {Hs0 H0 Hs H σ},RS Hs0 H0 Hs H σ ε->∀ {Q:List V->Hp->Prop},(∀ vs Hs' H',Ext Hs H Hs' H'->wH Hs' H' ys vs->Q vs H')->ta σ H Q
class SemR (r:R2)(g:PV->PV->Option PV):Prop where
 h:∀ {x y z},g x y=some z->∀ {Hs H:Hp} {v w:V},Same Hs H->RepB Hs H x v->RepB Hs H y w->∀ {Q:VK},(∀ u Hs' H',Ext Hs H Hs' H'->Rep Hs' z u->Q u H')->r v w H Q
instance (priority:=50) semE_O {te:TE}{f:M}[s:xv te f]:SemE te f where
 h:=fun e _ _ _ _ _ r _ q=>s.h e r fun a Hs' H' x h n t=>by
  obtain ⟨o,ho,hr⟩:=t.rep n
  exact q _ _ _ (x.share h n ho) hr
instance (priority:=50) semB_E {te:TE}{f:M}[s:SemE te f]:qj te f where
 h:=fun e _ _ _ _ _ r _ q=>s.h e r fun v Hs' H' x h=>q v Hs' H' x (.inl h)

def x6 (i:Nat):M:=fun ε=>match ε[i]? with
 | some (.sh x)=>some x
 | _=>none
def z0 (i:Nat):M:=fun ε=>match ε[i]? with
 | some (.sh x)=>some x
 | some (.ow x)=>some x
 | some (.bo x)=>some x
 | _=>none
def dC (v:V):M:=fun _=>some (.at v)
instance {i:Nat}:SemE (xI i) (x6 i) where
 h:=fun {ε y} e {_ _ _ _ _} r {_} q=>by
  unfold x6 at e
  split at e
  ·rename_i x hx
   cases e
   obtain ⟨v,h1,h2⟩:=r.sh i _ hx
   exact ⟨v,h1,q v _ _ (.refl r.sub) h2⟩
  ·cases e
instance {i:Nat}:qj (xI i) (z0 i) where
 h:=fun {ε y} e {_ _ _ _ _} r {_} q=>by
  unfold z0 at e
  split at e
  ·rename_i x hx
   cases e
   obtain ⟨v,h1,h2⟩:=r.sh i _ hx
   exact ⟨v,h1,q v _ _ (.refl r.sub) (.inl h2)⟩
  ·rename_i x hx
   cases e
   obtain ⟨a,h1,_,n,t⟩:=r.ow i _ hx
   exact ⟨_,h1,q _ _ _ (.refl r.sub) (.inr ⟨a,rfl,n,t⟩)⟩
  ·rename_i x hx
   cases e
   obtain ⟨v,h1,h2 | ⟨a,rfl,_,n,t⟩⟩:=r.bo i _ hx
   ·exact ⟨v,h1,q v _ _ (.refl r.sub) (.inl h2)⟩
   ·exact ⟨_,h1,q _ _ _ (.refl r.sub) (.inr ⟨a,rfl,n,t⟩)⟩
  ·cases e
instance {v:V}:SemE (tC v) (dC v) where
 h:=fun e _ _ _ _ _ r _ q=>by cases e;exact q v _ _ (.refl r.sub) (rep_at.mpr rfl)
def z6 (g:PV->PV->Option PV)(a b:M):M:=fun ε=>(a ε).bind fun x=>(b ε).bind fun y=>g x y
theorem bind_some {α β:Type}{o:Option α}{f:α->Option β}{y:β}(h:o.bind f=some y):∃ x,o=some x/\f x=some y:=by
 cases o with
 | none=>cases h
 | some x=>exact ⟨x,rfl,h⟩
instance {r:R2}{g:PV->PV->Option PV}{ta tb:TE}{a b:M}[sr:SemR r g][sa:qj ta a][sb:qj tb b]:SemE (tOp r ta tb) (z6 g a b) where
 h:=fun e _ _ _ _ _ rs _ q=>by
  obtain ⟨x,ex,e⟩:=bind_some e
  obtain ⟨y,ey,e⟩:=bind_some e
  exact sa.h ex rs fun v Hs1 H1 x1 r1=>sb.h ey (rs.go x1) fun w Hs2 H2 x2 r2=>sr.h e x2.s3 (r1.ext x2) r2 fun u Hs3 H3 x3 r3=>q u _ _ (x1.trans (x2.trans x3)) r3
def x8:MA:=fun _=>some []
def q9 (a:M)(r:MA):MA:=fun ε=>(a ε).bind fun x=>(r ε).bind fun xs=>some (x::xs)
instance:xC xt x8 where
 h:=fun e _ _ _ _ _ r _ q=>by cases e;exact q [] _ _ (.refl r.sub) .nil
instance {te:TE}{ta:TA}{a:M}{f:MA}[sa:SemE te a][sr:xC ta f]:xC (xc te ta) (q9 a f) where
 h:=fun e _ _ _ _ _ rs _ q=>by
  obtain ⟨x,ex,e⟩:=bind_some e
  obtain ⟨xs,ey,e⟩:=bind_some e
  cases e
  exact sa.h ex rs fun v Hs1 H1 x1 r1=>sr.h ey (rs.go x1) fun vs Hs2 H2 x2 r2=>q _ _ _ (x1.trans x2) (.cons (r1.mono x2.s1) r2)
instance:Qy xt x8 where
 h:=fun e _ _ _ _ _ r _ q=>by cases e;exact q [] _ _ (.refl r.sub) rfl
instance {te:TE}{ta:TA}{a:M}{f:MA}[sa:qj te a][sr:Qy ta f]:Qy (xc te ta) (q9 a f) where
 h:=fun e _ _ _ _ _ rs _ q=>by
  obtain ⟨x,ex,e⟩:=bind_some e
  obtain ⟨xs,ey,e⟩:=bind_some e
  cases e
  exact sa.h ex rs fun v Hs1 H1 x1 r1=>sr.h ey (rs.go x1) fun vs Hs2 H2 x2 r2=>q _ _ _ (x1.trans x2) ⟨_,_,rfl,r1.ext x2,r2⟩
def lim:Nat:=1000000
theorem zb {n:Nat}(h:n<=lim):n<=sizeLine:=Nat.le_trans h (by rw [sizeLine_eq];decide)
theorem QS {n:Nat}(h:n<=lim):n < sizeLine:=Nat.lt_of_le_of_lt h (by rw [sizeLine_eq];decide)
def xD (a:MA):M:=fun ε=>(a ε).bind fun xs=>if xs.length<=lim then some (.tup xs) else none
def i8 (a:MA):M:=fun ε=>(a ε).bind fun xs=>if xs.length<=lim then some (.lst xs) else none
instance {ta:TA}{f:MA}[sa:xC ta f]:SemE (tTup ta) (xD f) where
 h:=fun e _ _ _ _ _ rs _ q=>by
  obtain ⟨xs,ex,e⟩:=bind_some e
  split at e
  ·rename_i hl
   cases e
   exact sa.h ex rs fun vs Hs1 H1 x1 r1=>⟨zb (r1.length ▸ hl),fun p hp=>q _ _ _ (x1.trans (.new x1.s3 hp)) (rep_tup.mpr ⟨p,vs,rfl,g0,r1.mono (Ext.new x1.s3 hp).s1⟩)⟩
  ·cases e
instance {ta:TA}{f:MA}[sa:xC ta f]:xv (tLst ta) (i8 f) where
 h:=fun e _ _ _ _ _ rs _ q=>by
  obtain ⟨xs,ex,e⟩:=bind_some e
  split at e
  ·rename_i hl
   cases e
   exact sa.h ex rs fun vs Hs1 H1 x1 r1=>⟨zb (r1.length ▸ hl),fun p hp=>q _ _ _ (x1.trans (.newO x1.s3 hp)) (x1.s2.free hp) (x1.s3.free hp) ⟨vs,g0,r1⟩⟩
  ·cases e
end Mi
namespace Mi
open PySem L2
theorem u8 {Hs H:Hp}{u v:V}(h:RepB Hs H (.at u) v):v=u:=by
 rcases h with h | ⟨a,_,_,t⟩
 ·exact rep_at.mp h
 ·exact t.elim
theorem qq {Hs H:Hp}{xs:List PV}{v:V}(s:Same Hs H)(h:RepB Hs H (.lst xs) v):∃ a vs,v = .ref a/\H a=some (.lst vs)/\Reps Hs xs vs:=by
 rcases h with h | ⟨a,rfl,_,vs,e,r⟩
 ·obtain ⟨a,vs,rfl,e,r⟩:=rep_lst.mp h
  exact ⟨a,vs,rfl,s _ _ e,r⟩
 ·exact ⟨a,vs,rfl,e,r⟩
theorem xG {Hs H:Hp}{xs:List PV}{v:V}(s:Same Hs H)(h:RepB Hs H (.tup xs) v):∃ a vs,v = .ref a/\H a=some (.tup vs)/\Reps Hs xs vs:=by
 rcases h with h | ⟨a,rfl,_,t⟩
 ·obtain ⟨a,vs,rfl,e,r⟩:=rep_tup.mp h
  exact ⟨a,vs,rfl,s _ _ e,r⟩
 ·exact t.elim
theorem XG {Hs H:Hp}{ks:List z8}{xs:List PV}{v:V}(s:Same Hs H)(h:RepB Hs H (.fk ks xs) v):∃ a o kvs,v = .ref a/\H a=some (.frz o (.dK kvs))/\kvs.map (·.1)=ks/\Reps Hs xs (kvs.map (·.2)):=by
 rcases h with h | ⟨a,rfl,n,t⟩
 ·obtain ⟨a,o,kvs,rfl,e,k,r⟩:=rep_fk.mp h
  exact ⟨a,o,kvs,rfl,s _ _ e,k,r⟩
 ·exact t.elim
theorem vz {Hs H:Hp}{ks:List z8}{xs:List PV}{v:V}(s:Same Hs H)(h:RepB Hs H (.dk ks xs) v):∃ a kvs,v = .ref a/\H a=some (.dK kvs)/\kvs.map (·.1)=ks/\Reps Hs xs (kvs.map (·.2)):=by
 rcases h with h | ⟨a,rfl,_,kvs,e,k,r⟩
 ·obtain ⟨a,kvs,rfl,e,k,r⟩:=rep_dk.mp h
  exact ⟨a,kvs,rfl,s _ _ e,k,r⟩
 ·exact ⟨a,kvs,rfl,e,k,r⟩
theorem Bk {Hs H:Hp}{C:Addr}{ns:List Str}{xs:List PV}{v:V}(s:Same Hs H)(h:RepB Hs H (.ob C ns xs) v):∃ a dx fs,v = .ref a/\H a=some (.ins C dx fs)/\fs.map (·.1)=ns/\Reps Hs xs (fs.map (·.2)):=by
 rcases h with h | ⟨a,rfl,_,dx,fs,e,k,r⟩
 ·obtain ⟨a,dx,fs,rfl,e,k,r⟩:=rep_ob.mp h
  exact ⟨a,dx,fs,rfl,s _ _ e,k,r⟩
 ·exact ⟨a,dx,fs,rfl,e,k,r⟩
def pI (g:Int->Int->Option V):PV->PV->Option PV
 | .at (.int i),.at (.int j)=>(g i j).map .at
 | _,_=>none
theorem Kw {g:Int->Int->Option V}{x y z:PV}(h:pI g x y=some z):∃ i j u,x = .at (.int i)/\y = .at (.int j)/\g i j=some u/\z = .at u:=by
 unfold pI at h
 split at h
 ·rename_i i j
  obtain ⟨u,e,rfl⟩:=Option.map_eq_some_iff.mp h
  exact ⟨i,j,u,rfl,rfl,e,rfl⟩
 ·cases h
instance {g:Int->Int->V}:SemR (rI0 g) (pI fun i j=>some (g i j)) where
 h:=fun e _ _ _ _ s a b _ q=>by
  obtain ⟨i,j,u,rfl,rfl,e,rfl⟩:=Kw e
  cases e
  exact ⟨i,j,u8 a,u8 b,q _ _ _ (.refl s) (rep_at.mpr rfl)⟩
instance {C:Int->Int->Prop}[d:∀ i j,Decidable (C i j)]{g:Int->Int->V}:SemR (rI C g) (pI fun i j=>if C i j then some (g i j) else none) where
 h:=fun e _ _ _ _ s a b _ q=>by
  obtain ⟨i,j,u,rfl,rfl,e',rfl⟩:=Kw e
  split at e'
  ·rename_i hc
   cases e'
   exact ⟨i,j,u8 a,u8 b,hc,q _ _ _ (.refl s) (rep_at.mpr rfl)⟩
  ·cases e'
def p8:PV->PV->Option PV
 | .lst xs,.at (.int i)=>atI xs i
 | .tup xs,.at (.int i)=>atI xs i
 | .at (.str z),.at (.int i)=>if z.length<=lim then (L2.atI z.cps.toList i).map fun c=> .at (.str ⟨#[c]⟩) else none
 | _,_=>none
theorem Reps.atI {H:Hp}{xs:List PV}{vs:List V}{i:Int}{x:PV}(r:Reps H xs vs)(h:atI xs i=some x):∃ v,L2.atI vs i=some v/\Rep H x v:=by
 unfold L2.atI at h ⊢
 rw [r.length]
 obtain ⟨j,ej,e⟩:=bind_some h
 rw [ej]
 exact r.get e
instance {K:Fg}:SemR (rIx K) p8 where
 h:=fun {x y z} e {Hs H v w} s a b {Q} q=>by
  unfold p8 at e
  split at e
  ·obtain ⟨p,vs,rfl,e1,r1⟩:=qq s a
   obtain ⟨u,hu,r⟩:=r1.atI e
   exact .inl ⟨p,vs,_,u,rfl,u8 b,SqL.of e1,hu,q _ _ _ (.refl s) r⟩
  ·obtain ⟨p,vs,rfl,e1,r1⟩:=xG s a
   obtain ⟨u,hu,r⟩:=r1.atI e
   exact .inr (.inl ⟨p,vs,_,u,rfl,u8 b,SqT.of e1,hu,q _ _ _ (.refl s) r⟩)
  ·split at e
   ·rename_i hz
    obtain ⟨c,hc,rfl⟩:=Option.map_eq_some_iff.mp e
    exact .inr (.inr ⟨_,_,c,u8 a,u8 b,zb hz,hc,q _ _ _ (.refl s) (rep_at.mpr rfl)⟩)
   ·cases e
  ·cases e
def ats:List PV->Option (List V)
 | []=>some []
 | .at u::xs=>(ats xs).map (u::·)
 | _::_=>none
theorem wJ:∀ {xs:List PV} {us:List V},ats xs=some us->xs=us.map .at
 | [],_,h=>by cases h;rfl
 | .at u::xs,us,h=>by
  unfold ats at h
  obtain ⟨r,e,rfl⟩:=Option.map_eq_some_iff.mp h
  rw [List.map_cons,wJ e]
 | .tup _::_,_,h=>by cases h
 | .lst _::_,_,h=>by cases h
 | .dk _ _::_,_,h=>by cases h
 | .fk _ _::_,_,h=>by cases h
 | .ob _ _ _::_,_,h=>by cases h
 | .op _::_,_,h=>by cases h
def pIn (neg:Bool):PV->PV->Option PV
 | .at u,.lst xs=>(ats xs).bind fun us=>if p0 u=true/\us.all p0=true then some (.at (.bl (if neg then !inV u us else inV u us))) else none
 | .at u,.tup xs=>(ats xs).bind fun us=>if p0 u=true/\us.all p0=true then some (.at (.bl (if neg then !inV u us else inV u us))) else none
 | _,_=>none
instance {K:Fg}{neg:Bool}:SemR (rIn K neg) (pIn neg) where
 h:=fun {x y z} e {Hs H v w} s a b {Q} q=>by
  unfold pIn at e
  split at e
  ·obtain ⟨us,e1,e⟩:=bind_some e
   split at e
   ·rename_i hf
    cases e
    obtain ⟨p,vs,rfl,e2,r2⟩:=qq s b
    rw [wJ e1] at r2
    cases r2.ats
    cases u8 a
    exact ⟨p,_,rfl,.inl (SqL.of e2),hf.1,hf.2,q _ _ _ (.refl s) (rep_at.mpr rfl)⟩
   ·cases e
  ·obtain ⟨us,e1,e⟩:=bind_some e
   split at e
   ·rename_i hf
    cases e
    obtain ⟨p,vs,rfl,e2,r2⟩:=xG s b
    rw [wJ e1] at r2
    cases r2.ats
    cases u8 a
    exact ⟨p,_,rfl,.inr (SqT.of e2),hf.1,hf.2,q _ _ _ (.refl s) (rep_at.mpr rfl)⟩
   ·cases e
  ·cases e
class SemU (r:V->Hp->VK->Prop)(g:PV->Option PV):Prop where
 h:∀ {x z},g x=some z->∀ {Hs H:Hp} {v:V},Same Hs H->RepB Hs H x v->∀ {Q:VK},(∀ u Hs' H',Ext Hs H Hs' H'->Rep Hs' z u->Q u H')->r v H Q
def dUn (g:PV->Option PV)(a:M):M:=fun ε=>(a ε).bind g
instance {r:V->Hp->VK->Prop}{g:PV->Option PV}{ta:TE}{a:M}[sr:SemU r g][sa:qj ta a]:SemE (tUn r ta) (dUn g a) where
 h:=fun e _ _ _ _ _ rs _ q=>by
  obtain ⟨x,ex,e⟩:=bind_some e
  exact sa.h ex rs fun v Hs1 H1 x1 r1=>sr.h e x1.s3 r1 fun u Hs3 H3 x3 r3=>q u _ _ (x1.trans x3) r3
def pU (g:Int->V):PV->Option PV
 | .at (.int i)=>some (.at (g i))
 | _=>none
instance {g:Int->V}:SemU (rU g) (pU g) where
 h:=fun {x z} e {_ _ _} s a {_} q=>by
  unfold pU at e
  split at e
  ·cases e;exact ⟨_,u8 a,q _ _ _ (.refl s) (rep_at.mpr rfl)⟩
  ·cases e
def pB:PV->Option Bool
 | .at (.bl b)=>some b
 | _=>none
theorem wd {x:PV}{b:Bool}(h:pB x=some b):x = .at (.bl b):=by
 unfold pB at h
 split at h
 ·cases h;rfl
 ·cases h
def dT (a:M):MB:=fun ε=>(a ε).bind pB
instance {te:TE}{a:M}[sa:qj te a]:qT (Vt te) (dT a) where
 h:=fun e _ _ _ _ _ rs _ q=>by
  obtain ⟨x,ex,e⟩:=bind_some e
  cases wd e
  exact sa.h ex rs fun v Hs1 H1 x1 r1=>⟨_,u8 r1,q _ _ x1⟩
instance {te:TE}{a:M}[sa:qj te a]:qT (tB te) (dT a) where
 h:=fun e _ _ _ _ _ rs _ q=>by
  obtain ⟨x,ex,e⟩:=bind_some e
  cases wd e
  exact sa.h ex rs fun v Hs1 H1 x1 r1=>⟨_,u8 r1,q _ _ x1⟩
def tTru (K:Fg)(ta:TE):TT:=fun σ H Q=>ta σ H fun x H'=>∃ k,TruV K x H' k/\Q k H'
def pTru:PV->Option Bool
 | .at .non=>some false
 | .at (.bl b)=>some b
 | .at (.int i)=>some (i != 0)
 | .at (.str y)=>if y.length<=lim then some ((y.length:Int) != 0) else none
 | .lst xs=>some (!xs.isEmpty)
 | .tup xs=>some (!xs.isEmpty)
 | .dk ks _=>some (!ks.isEmpty)
 | _=>none
def qv (a:M):MB:=fun ε=>(a ε).bind pTru
theorem Reps.isEmpty {H:Hp}{xs:List PV}{vs:List V}(r:Reps H xs vs):vs.isEmpty=xs.isEmpty:=by
 have:=r.length
 cases xs <;> cases vs <;> first | rfl | (simp at this)
instance {K:Fg}{te:TE}{a:M}[sa:qj te a]:qT (tTru K te) (qv a) where
 h:=fun e _ _ _ _ _ rs _ q=>by
  obtain ⟨x,ex,e⟩:=bind_some e
  refine sa.h ex rs fun v Hs1 H1 x1 r1=>?_
  unfold pTru at e
  split at e
  ·cases e;cases u8 r1;exact ⟨_,rfl,q _ _ x1⟩
  ·cases e;cases u8 r1;exact ⟨_,rfl,q _ _ x1⟩
  ·cases e;cases u8 r1;exact ⟨_,rfl,q _ _ x1⟩
  ·split at e
   ·rename_i hl
    cases e;cases u8 r1;exact ⟨_,⟨zb hl,rfl⟩,q _ _ x1⟩
   ·cases e
  ·cases e
   obtain ⟨p,vs,rfl,e1,r2⟩:=qq x1.s3 r1
   exact ⟨_,.inl ⟨vs,SqL.of e1,by rw [r2.isEmpty]⟩,q _ _ x1⟩
  ·cases e
   obtain ⟨p,vs,rfl,e1,r2⟩:=xG x1.s3 r1
   exact ⟨_,.inr (.inl ⟨vs,SqT.of e1,by rw [r2.isEmpty]⟩),q _ _ x1⟩
  ·cases e
   obtain ⟨p,kvs,rfl,e1,k,r2⟩:=vz x1.s3 r1
   refine ⟨_,.inr (.inr ⟨kvs,e1,?_⟩),q _ _ x1⟩
   rw [<- k]
   cases kvs <;> rfl
  ·cases e
def vd (a b:MB):MB:=fun ε=>(a ε).bind fun c=>if c=true then b ε else some false
def dOr (a b:MB):MB:=fun ε=>(a ε).bind fun c=>if c=true then some true else b ε
def qk (a:MB):MB:=fun ε=>(a ε).bind fun c=>some (!c)
instance {t u:TT}{a b:MB}[sa:qT t a][sb:qT u b]:qT (tAnd t u) (vd a b) where
 h:=fun e _ _ _ _ _ rs _ q=>by
  obtain ⟨c,ex,e⟩:=bind_some e
  refine sa.h ex rs fun Hs1 H1 x1=>?_
  cases c with
  | true=>exact qz (sb.h e (rs.go x1) fun Hs2 H2 x2=>q _ _ (x1.trans x2))
  | false=>cases e;exact o8 (q _ _ x1)
instance {t u:TT}{a b:MB}[sa:qT t a][sb:qT u b]:qT (tOr t u) (dOr a b) where
 h:=fun e _ _ _ _ _ rs _ q=>by
  obtain ⟨c,ex,e⟩:=bind_some e
  refine sa.h ex rs fun Hs1 H1 x1=>?_
  cases c with
  | true=>cases e;exact qz (q _ _ x1)
  | false=>exact o8 (sb.h e (rs.go x1) fun Hs2 H2 x2=>q _ _ (x1.trans x2))
instance {t:TT}{a:MB}[sa:qT t a]:qT (tNot t) (qk a) where
 h:=fun e _ _ _ _ _ rs _ q=>by
  obtain ⟨c,ex,e⟩:=bind_some e
  cases e
  exact sa.h ex rs fun Hs1 H1 x1=>q _ _ x1
def zm (a b:M):M:=fun ε=>(a ε).bind fun x=>(pB x).bind fun c=>if c=true then b ε else some (.at (.bl false))
def dOrV (a b:M):M:=fun ε=>(a ε).bind fun x=>(pB x).bind fun c=>if c=true then some (.at (.bl true)) else b ε
def Zr (a:M):M:=fun ε=>(a ε).bind fun x=>(pB x).bind fun c=>some (.at (.bl (!c)))
instance {t u:TE}{a b:M}[sa:SemE t a][sb:SemE u b]:SemE (BH t u) (zm a b) where
 h:=fun e _ _ _ _ _ rs _ q=>by
  obtain ⟨x,ex,e⟩:=bind_some e
  obtain ⟨c,ec,e⟩:=bind_some e
  cases wd ec
  refine sa.h ex rs fun v Hs1 H1 x1 r1=>⟨c,rep_at.mp r1,?_⟩
  cases c with
  | true=>exact qz (sb.h e (rs.go x1) fun w Hs2 H2 x2 r2=>q _ _ _ (x1.trans x2) r2)
  | false=>cases e;exact o8 (q _ _ _ x1 (rep_at.mpr rfl))
instance {t u:TE}{a b:M}[sa:SemE t a][sb:SemE u b]:SemE (tOrV t u) (dOrV a b) where
 h:=fun e _ _ _ _ _ rs _ q=>by
  obtain ⟨x,ex,e⟩:=bind_some e
  obtain ⟨c,ec,e⟩:=bind_some e
  cases wd ec
  refine sa.h ex rs fun v Hs1 H1 x1 r1=>⟨c,rep_at.mp r1,?_⟩
  cases c with
  | true=>cases e;exact qz (q _ _ _ x1 (rep_at.mpr rfl))
  | false=>exact o8 (sb.h e (rs.go x1) fun w Hs2 H2 x2 r2=>q _ _ _ (x1.trans x2) r2)
instance {t:TE}{a:M}[sa:qj t a]:SemE (BM t) (Zr a) where
 h:=fun e _ _ _ _ _ rs _ q=>by
  obtain ⟨x,ex,e⟩:=bind_some e
  obtain ⟨c,ec,e⟩:=bind_some e
  cases wd ec
  cases e
  exact sa.h ex rs fun v Hs1 H1 x1 r1=>⟨c,u8 r1,q _ _ _ x1 (rep_at.mpr rfl)⟩
def dIf (c:MB)(a b:M):M:=fun ε=>(c ε).bind fun k=>if k=true then a ε else b ε
instance {t:TT}{ta tb:TE}{c:MB}{a b:M}[sc:qT t c][sa:SemE ta a][sb:SemE tb b]:SemE (tIf t ta tb) (dIf c a b) where
 h:=fun e _ _ _ _ _ rs _ q=>by
  obtain ⟨k,ex,e⟩:=bind_some e
  refine sc.h ex rs fun Hs1 H1 x1=>?_
  cases k with
  | true=>exact qz (sa.h e (rs.go x1) fun w Hs2 H2 x2 r2=>q _ _ _ (x1.trans x2) r2)
  | false=>exact o8 (sb.h e (rs.go x1) fun w Hs2 H2 x2 r2=>q _ _ _ (x1.trans x2) r2)
def vK (g g':PV->PV->Option PV)(a b c:M):M:=fun ε=>(a ε).bind fun x=>(b ε).bind fun y=>(g x y).bind fun z=>(pB z).bind fun k=>if k=true then (c ε).bind fun w=>g' y w else some (.at (.bl false))
instance {r r':R2}{g g':PV->PV->Option PV}{ta tb tc:TE}{a b c:M}[sr:SemR r g][sr':SemR r' g'][sa:qj ta a][sb:qj tb b][sc:qj tc c]:SemE (Yg r r' ta tb tc) (vK g g' a b c) where
 h:=fun e _ _ _ _ _ rs _ q=>by
  obtain ⟨x,ex,e1⟩:=bind_some e
  obtain ⟨y,ey,e2⟩:=bind_some e1
  obtain ⟨z,ez,e3⟩:=bind_some e2
  obtain ⟨k,ek,e4⟩:=bind_some e3
  have ez':=wd ek
  subst ez'
  refine sa.h ex rs fun v Hs1 H1 x1 r1=>sb.h ey (rs.go x1) fun w Hs2 H2 x2 r2=>sr.h ez x2.s3 (r1.ext x2) r2 fun u Hs3 H3 x3 r3=>⟨k,rep_at.mp r3,?_⟩
  cases k with
  | true =>
   obtain ⟨w',ew,e5⟩:=bind_some e4
   exact qz (sc.h ew (((rs.go x1).go x2).go x3) fun u' Hs4 H4 x4 r4=>sr'.h e5 x4.s3 ((r2.ext x3).ext x4) r4 fun u'' Hs5 H5 x5 r5=>q _ _ _ (x1.trans (x2.trans (x3.trans (x4.trans x5)))) r5)
  | false=>cases e4;exact o8 (q _ _ _ (x1.trans (x2.trans x3)) (rep_at.mpr rfl))
end Mi
namespace Mi
open PySem L2
def v4 (m:List PV->Option PV):Sp:=fun vs H Q _=>∃ Hs xs y,Same Hs H/\Reps Hs xs vs/\m xs=some y/\∀ v Hs' H',Ext Hs H Hs' H'->Rep Hs' y v->Q v H'
def spO (m:List PV->Option PV):Sp:=fun vs H Q _=>∃ Hs xs y,Same Hs H/\Reps Hs xs vs/\m xs=some y/\∀ a Hs' H',Ext Hs H Hs' H'->H a=none->Hs' a=none->Top Hs' H' a y->Q (.ref a) H'
def z5 (m:List PV->Option PV)(as:MA):M:=fun ε=>(as ε).bind m
instance {m:List PV->Option PV}{ta:TA}{as:MA}{E:XK}[sa:xC ta as]:SemE (xy (v4 m) [] E ta) (z5 m as) where
 h:=fun e _ _ _ _ _ rs _ q=>by
  obtain ⟨xs,ex,e1⟩:=bind_some e
  refine sa.h ex rs fun vs Hs1 H1 x1 r1=>⟨Hs1,xs,_,x1.s3,by rw [List.append_nil];exact r1,e1,fun v Hs' H' x r=>q v _ _ (x1.trans x) r⟩
instance {m:List PV->Option PV}{ta:TA}{as:MA}{E:XK}[sa:xC ta as]:xv (xy (spO m) [] E ta) (z5 m as) where
 h:=fun e _ _ _ _ _ rs _ q=>by
  obtain ⟨xs,ex,e1⟩:=bind_some e
  refine sa.h ex rs fun vs Hs1 H1 x1 r1=>⟨Hs1,xs,_,x1.s3,by rw [List.append_nil];exact r1,e1,fun a Hs' H' x n n' r=>q a _ _ (x1.trans x) (x1.s2.free n) n' r⟩
def VV (m:List PV->Option PV)(ds:List V)(as:MA):M:=fun ε=>(as ε).bind fun xs=>m (xs++ds.map .at)
def qE (C:Addr)(nm:Str)(m:List PV->Option PV)(a:M)(as:MA):M:=fun ε=>(a ε).bind fun x=>match x with
 | .ob C' ns fs=>if C'=C/\nm ∉ ns then (as ε).bind fun xs=>m (x::xs) else none
 | _=>none
theorem QU {fs:List (Str × V)}{f:Str}(h:f ∉ fs.map (·.1)):fs.lookup f=none:=by
 induction fs with
 | nil=>rfl
 | cons p r ih =>
  rw [List.map_cons] at h
  rw [List.lookup_cons]
  have h1:(f == p.1)=false:=by
   rw [beq_eq_false_iff_ne]
   exact fun e=>h (e ▸ List.mem_cons_self)
  rw [h1]
  exact ih fun z=>h (List.mem_cons_of_mem _ z)
theorem VZ {C:Addr}{nm:Str}{m:List PV->Option PV}{a:M}{as:MA}{ε:ME}{y:PV}(h:qE C nm m a as ε=some y) :
  ∃ ns fs xs,a ε=some (.ob C ns fs)/\nm ∉ ns/\as ε=some xs/\m (.ob C ns fs::xs)=some y:=by
 unfold qE at h
 obtain ⟨x,ex,h1⟩:=bind_some h
 split at h1
 ·rename_i C' ns fs
  split at h1
  ·rename_i hc
   obtain ⟨xs,e2,h2⟩:=bind_some h1
   obtain ⟨rfl,hn⟩:=hc
   exact ⟨ns,fs,xs,ex,hn,e2,h2⟩
  ·cases h1
 ·cases h1
instance {C:Addr}{nm:Str}{m:List PV->Option PV}{te:TE}{ta:TA}{a:M}{as:MA}{E:XK}[so:SemE te a][sa:xC ta as]:SemE (js C nm (v4 m) [] E te ta) (qE C nm m a as) where
 h:=fun e _ _ _ _ _ rs _ q=>by
  obtain ⟨ns,fs,xs,ea,hn,e1,e2⟩:=VZ e
  refine so.h ea rs fun v Hs1 H1 x1 r1=>?_
  obtain ⟨p,dx,gs,rfl,hp,hk,hr⟩:=rep_ob.mp r1
  refine ⟨p,dx,gs,rfl,x1.s3 _ _ hp,QU (by rw [hk];exact hn),sa.h e1 (rs.go x1) fun vs Hs2 H2 x2 r2=>?_⟩
  exact ⟨Hs2,_,_,x2.s3,by rw [List.append_nil];exact .cons (r1.mono x2.s1) r2,e2,fun v Hs' H' x r=>q v _ _ (x1.trans (x2.trans x)) r⟩
instance {C:Addr}{nm:Str}{m:List PV->Option PV}{te:TE}{ta:TA}{a:M}{as:MA}{E:XK}[so:SemE te a][sa:xC ta as]:xv (js C nm (spO m) [] E te ta) (qE C nm m a as) where
 h:=fun e _ _ _ _ _ rs _ q=>by
  obtain ⟨ns,fs,xs,ea,hn,e1,e2⟩:=VZ e
  refine so.h ea rs fun v Hs1 H1 x1 r1=>?_
  obtain ⟨p,dx,gs,rfl,hp,hk,hr⟩:=rep_ob.mp r1
  refine ⟨p,dx,gs,rfl,x1.s3 _ _ hp,QU (by rw [hk];exact hn),sa.h e1 (rs.go x1) fun vs Hs2 H2 x2 r2=>?_⟩
  exact ⟨Hs2,_,_,x2.s3,by rw [List.append_nil];exact .cons (r1.mono x2.s1) r2,e2,fun v Hs' H' x n n' r=>q v _ _ (x1.trans (x2.trans x)) (x1.s2.free (x2.s2.free n)) n' r⟩
class jy (r:List V->Hp->VK->Prop)(g:List PV->Option PV):Prop where
 h:∀ {xs z},g xs=some z->∀ {Hs H:Hp} {vs:List V},Same Hs H->wH Hs H xs vs->∀ {Q:VK},(∀ u Hs' H',Ext Hs H Hs' H'->Rep Hs' z u->Q u H')->r vs H Q
class VJ (r:List V->Hp->VK->Prop)(g:List PV->Option PV):Prop where
 h:∀ {xs z},g xs=some z->∀ {Hs H:Hp} {vs:List V},Same Hs H->wH Hs H xs vs->∀ {Q:VK},(∀ a Hs' H',Ext Hs H Hs' H'->H a=none->Hs' a=none->Top Hs' H' a z->Q (.ref a) H')->r vs H Q
instance {r:List V->Hp->VK->Prop}{g:List PV->Option PV}{ta:TA}{as:MA}[sr:jy r g][sa:Qy ta as]:SemE (tCB r ta) (z5 g as) where
 h:=fun e _ _ _ _ _ rs _ q=>by
  obtain ⟨xs,ex,e1⟩:=bind_some e
  exact sa.h ex rs fun vs Hs1 H1 x1 r1=>sr.h e1 x1.s3 r1 fun v Hs' H' x r=>q v _ _ (x1.trans x) r
instance {r:List V->Hp->VK->Prop}{g:List PV->Option PV}{ta:TA}{as:MA}[sr:VJ r g][sa:Qy ta as]:xv (tCB r ta) (z5 g as) where
 h:=fun e _ _ _ _ _ rs _ q=>by
  obtain ⟨xs,ex,e1⟩:=bind_some e
  exact sa.h ex rs fun vs Hs1 H1 x1 r1=>sr.h e1 x1.s3 r1 fun v Hs' H' x n n' r=>q v _ _ (x1.trans x) (x1.s2.free n) n' r
theorem zr {Hs H:Hp}{x:PV}{vs:List V}(h:wH Hs H [x] vs):∃ v,vs=[v]/\RepB Hs H x v:=by
 obtain ⟨v,r,rfl,a,b⟩:=h
 cases (show r=[] from b)
 exact ⟨v,rfl,a⟩
theorem Ji {Hs H:Hp}{x y:PV}{vs:List V}(h:wH Hs H [x,y] vs):∃ v w,vs=[v,w]/\RepB Hs H x v/\RepB Hs H y w:=by
 obtain ⟨v,r,rfl,a,b⟩:=h
 obtain ⟨w,rfl,c⟩:=zr b
 exact ⟨v,w,rfl,a,c⟩
inductive Out where
 | nx (ε:ME) | rt (y:PV) | bk (ε:ME) | ct (ε:ME)
abbrev MS:=ME->Option Out
def OutK (fr:Bool)(Hs0 H0:Hp)(D:qL):Out->Prop
 | .nx ε=>∀ Hs H σ,RS Hs0 H0 Hs H σ ε->D.nx σ H
 | .bk ε=>∀ Hs H σ,RS Hs0 H0 Hs H σ ε->D.bk σ H
 | .ct ε=>∀ Hs H σ,RS Hs0 H0 Hs H σ ε->D.ct σ H
 | .rt y=>match fr with
  | true=>∀ a Hs H,Ext Hs0 H0 Hs H->H0 a=none->Hs a=none->Top Hs H a y->D.rt (.ref a) H
  | false=>∀ v Hs H,Ext Hs0 H0 Hs H->Rep Hs y v->D.rt v H
class qb (fr:Bool)(ts:TS)(f:MS):Prop where
 h:∀ {ε o},f ε=some o->∀ {Hs0 H0 Hs H σ},RS Hs0 H0 Hs H σ ε->∀ {D:qL},OutK fr Hs0 H0 D o->ts D σ H
variable {fr:Bool}
def qx:MS:=fun ε=>some (.nx ε)
instance:qb fr Vs qx where
 h:=fun e _ _ _ _ _ rs _ q=>by cases e;exact q _ _ _ rs
def u3 (a b:MS):MS:=fun ε=>(a ε).bind fun o=>match o with
 | .nx ε'=>b ε'
 | o=>some o
instance {t u:TS}{a b:MS}[sa:qb fr t a][sb:qb fr u b]:qb fr (tSeq t u) (u3 a b) where
 h:=fun e _ _ _ _ _ rs D q=>by
  obtain ⟨o,eo,e1⟩:=bind_some e
  refine sa.h eo rs ?_
  cases o with
  | nx ε'=>exact fun Hs H σ r=>sb.h e1 r q
  | rt y=>cases e1;exact q
  | bk ε'=>cases e1;exact q
  | ct ε'=>cases e1;exact q
def xZ (a:M):MS:=fun ε=>(a ε).bind fun _=>some (.nx ε)
instance (priority:=100){te:TE}{a:M}[sa:qj te a]:qb fr (xT te) (xZ a) where
 h:=fun e _ _ _ _ _ rs _ q=>by
  obtain ⟨x,ex,e1⟩:=bind_some e
  cases e1
  exact sa.h ex rs fun v Hs1 H1 x1 r1=>q _ _ _ (rs.go x1)
def y9 (a:M):MS:=fun ε=>(a ε).bind fun x=>some (.rt x)
instance {te:TE}{a:M}[sa:SemE te a]:qb false (wy te) (y9 a) where
 h:=fun e _ _ _ _ _ rs _ q=>by
  obtain ⟨x,ex,e1⟩:=bind_some e
  cases e1
  exact sa.h ex rs fun v Hs1 H1 x1 r1=>q _ _ _ (rs.ext.trans x1) r1
instance {te:TE}{a:M}[sa:xv te a]:qb true (wy te) (y9 a) where
 h:=fun e _ _ _ _ _ rs _ q=>by
  obtain ⟨x,ex,e1⟩:=bind_some e
  cases e1
  exact sa.h ex rs fun v Hs1 H1 x1 n n' r1=>q _ _ _ (rs.ext.trans x1) (rs.ext.s2.free n) n' r1
def oVar (i:Nat):M:=fun ε=>match ε[i]? with
 | some (.ow x)=>some x
 | _=>none
instance {i:Nat}:qb true (wy (xI i)) (y9 (oVar i)) where
 h:=fun e _ _ _ _ _ rs _ q=>by
  obtain ⟨x,ex,e1⟩:=bind_some e
  cases e1
  unfold oVar at ex
  split at ex
  ·rename_i y hy
   cases ex
   obtain ⟨a,ha,n0,n,t⟩:=rs.ow i _ hy
   exact ⟨_,ha,q _ _ _ rs.ext n0 n t⟩
  ·cases ex
def i9 (c:MB)(a b:MS):MS:=fun ε=>(c ε).bind fun k=>if k=true then a ε else b ε
instance {t:TT}{ta tb:TS}{c:MB}{a b:MS}[sc:qT t c][sa:qb fr ta a][sb:qb fr tb b]:qb fr (Qq t ta tb) (i9 c a b) where
 h:=fun e _ _ _ _ _ rs _ q=>by
  obtain ⟨k,ex,e1⟩:=bind_some e
  refine sc.h ex rs fun Hs1 H1 x1=>?_
  cases k with
  | true=>exact qz (sa.h e1 (rs.go x1) q)
  | false=>exact o8 (sb.h e1 (rs.go x1) q)
def za:MS:=fun _=>none
instance:qb fr BL za where
 h:=fun e=>by cases e
abbrev MG:=PV->ME->Option ME
def But (ts:List Nat)(σ σ':St):Prop:=σ'.length=σ.length/\∀ j,j ∉ ts->σ'[j]?=σ[j]?
theorem But.refl (σ:St):But [] σ σ:=⟨rfl,fun _ _=>rfl⟩
theorem But.trans {a b:List Nat}{σ σ1 σ2:St}(x:But a σ σ1)(y:But b σ1 σ2):But (a++b) σ σ2 :=
 ⟨y.1.trans x.1,fun j hj=>(y.2 j fun z=>hj (List.mem_append.mpr (.inr z))).trans (x.2 j fun z=>hj (List.mem_append.mpr (.inl z)))⟩
theorem But.wk {ts:List Nat}{σ σ':St}(b:But ts σ σ')(h:∀ i ∈ ts,σ[i]?=some none):Wk σ σ':=by
 refine ⟨b.1.symm,fun i v e=>?_⟩
 rw [b.2 i fun z=>by rw [h i z] at e;cases e]
 exact e
class jz (tg:TG)(ts:outParam (List Nat))(g:MG):Prop where
 h:∀ {x ε ε'},g x ε=some ε'->∀ {Hs0 H0 Hs H σ v},RS Hs0 H0 Hs H σ ε->Rep Hs x v->∀ {Q:St->Hp->Prop},(∀ σ',RS Hs0 H0 Hs H σ' ε'->But ts σ σ'->Q σ' H)->tg v σ H Q
class wI (tg:TGs)(ts:outParam (List Nat))(g:List PV->ME->Option ME):Prop where
 h:∀ {xs ε ε'},g xs ε=some ε'->∀ {Hs0 H0 Hs H σ vs},RS Hs0 H0 Hs H σ ε->Reps Hs xs vs->∀ {Q:St->Hp->Prop},(∀ σ',RS Hs0 H0 Hs H σ' ε'->But ts σ σ'->Q σ' H)->tg vs σ H Q
def v8 (i:Nat):MG:=fun x ε=>some (ε.set i (.sh x))
instance {i:Nat}:jz (xN i) [i] (v8 i) where
 h:=fun e _ _ _ _ _ _ rs r _ q=>by
  cases e
  exact q _ (rs.put r) ⟨List.length_set,fun j hj=>List.getElem?_set_ne fun z=>hj (by rw [<- z];exact List.mem_singleton.mpr rfl)⟩
def zc:List PV->ME->Option ME:=fun xs ε=>match xs with
 | []=>some ε
 | _=>none
def qi (g:MG)(r:List PV->ME->Option ME):List PV->ME->Option ME:=fun xs ε=>match xs with
 | x::xs=>(g x ε).bind (r xs)
 | _=>none
instance:wI gNil [] zc where
 h:=fun {xs ε ε'} e {_ _ _ _ _ _} rs r {_} q=>by
  unfold zc at e
  split at e
  ·cases e;exact ⟨reps_nil.mp r,q _ rs (.refl _)⟩
  ·cases e
instance Tp {t:TG}{u:TGs}{a b:List Nat}{g:MG}{r:List PV->ME->Option ME}[sg:jz t a g][sr:wI u b r]:wI (ZA t u) (a++b) (qi g r) where
 h:=fun {xs ε ε'} e {_ _ _ _ _ _} rs rr {_} q=>by
  unfold qi at e
  split at e
  ·obtain ⟨ε1,e1,e2⟩:=bind_some e
   obtain ⟨v,w,rfl,r1,r2⟩:=reps_cons.mp rr
   exact ⟨v,w,rfl,sg.h e1 rs r1 fun σ1 rs1 b1=>sr.h e2 rs1 r2 fun σ2 rs2 b2=>q _ rs2 (b1.trans b2)⟩
  ·cases e
instance (priority:=2000){i:Nat}{u:TGs}{b:List Nat}{r:List PV->ME->Option ME}[sr:wI u b r]:wI (ZA (xN i) u) (i::b) (qi (v8 i) r) where
 h:=fun e _ _ _ _ _ _ rs rr _ q=>(Tp (t:=xN i) (a:=[i]) (g:=v8 i)).h e rs rr q
def zd (n:Nat)(g:List PV->ME->Option ME):MG:=fun x ε=>match x with
 | .tup xs=>if xs.length=n then g xs ε else none
 | _=>none
instance {K:Fg}{n:Nat}{t:TGs}{ts:List Nat}{g:List PV->ME->Option ME}[sg:wI t ts g]:jz (gTup K n t) ts (zd n g) where
 h:=fun {x ε ε'} e {_ _ _ _ _ _} rs rr {_} q=>by
  unfold zd at e
  split at e
  ·split at e
   ·rename_i hl
    obtain ⟨a,vs,rfl,h,r⟩:=rep_tup.mp rr
    exact ⟨a,vs,rfl,SqT.of (rs.sub _ _ h),by rw [r.length];exact hl,sg.h e rs r fun σ' rs' b=>q _ rs' b⟩
   ·cases e
  ·cases e
def m6 (i:Nat)(a:M):MS:=fun ε=>(a ε).bind fun x=>some (.nx (ε.set i (.sh x)))
def QH (i:Nat)(a:M):MS:=fun ε=>(a ε).bind fun x=>some (.nx (ε.set i (.ow x)))
instance {i:Nat}{te:TE}{a:M}[sa:SemE te a]:qb fr (zG te (xN i)) (m6 i a) where
 h:=fun e _ _ _ _ _ rs _ q=>by
  obtain ⟨x,ex,e1⟩:=bind_some e
  cases e1
  exact sa.h ex rs fun v Hs1 H1 x1 r1=>q _ _ _ ((rs.go x1).put r1)
instance {i:Nat}{te:TE}{a:M}[sa:xv te a]:qb fr (zG te (xN i)) (QH i a) where
 h:=fun e _ _ _ _ _ rs _ q=>by
  obtain ⟨x,ex,e1⟩:=bind_some e
  cases e1
  refine sa.h ex rs fun p Hs1 H1 x1 n n' t=>q _ _ _ ((rs.go x1).putO ⟨rs.ext.s2.free n,n',t⟩ fun j y hj z=>?_)
  obtain ⟨b,hb,_,_,tb⟩:=rs.ow j y hj
  rw [z] at hb
  injection hb with hb;injection hb with hb;injection hb with hb
  subst hb
  exact tb.there n
def pIp (g:Int->Int->Int):PV->PV->Option PV
 | .at (.int i),.at (.int j)=>some (.at (.int (g i j)))
 | _,_=>none
def QE (i:Nat)(a:M):MS:=fun ε=>(a ε).bind fun x=>match ε[i]? with
 | some (.ow (.lst xs))=>if xs.length<=lim then some (.nx (ε.set i (.ow (.lst (xs++[x]))))) else none
 | _=>none
instance {K:Fg}{i:Nat}{te:TE}{a:M}[sa:SemE te a]:qb fr (xT (tBM K "list" wo (xI i) (xc te xt))) (QE i a) where
 h:=fun e _ _ _ _ _ rs _ q=>by
  obtain ⟨x,ex,e1⟩:=bind_some e
  split at e1
  ·rename_i xs hi
   split at e1
   ·rename_i hl
    cases e1
    obtain ⟨p,hp,n0,n,vs,hv,rv⟩:=rs.ow i _ hi
    refine ⟨_,hp,.inl ⟨rfl,vs,SqL.of hv⟩,sa.h ex rs fun v Hs1 H1 x1 r1=>?_⟩
    have hv1:=x1.s2 _ _ hv
    refine ⟨p,vs,v,rfl,rfl,hv1,QS (by rw [rv.length];exact hl),q _ _ _ ((rs.go x1).change hi hp ⟨_,g0,(rv.mono x1.s1).append (.one r1)⟩)⟩
   ·cases e1
  ·cases e1
def dExtend (i:Nat)(a:M):MS:=fun ε=>(a ε).bind fun x=>match x with
 | .lst ys=>(match ε[i]? with
  | some (.ow (.lst xs))=>if xs.length + ys.length<=lim then some (.nx (ε.set i (.ow (.lst (xs++ys))))) else none
  | _=>none)
 | _=>none
structure jW (J:It)(xs:List PV)(Hs:Hp):Prop where
 go:∀ (i:Nat) (x:PV) (Hs1 H1:Hp),xs[i]?=some x->Same Hs Hs1->Same Hs1 H1->J.go i H1/\∀ v H2,J.yld i H1 v H2->∃ Hs2,Ext Hs1 H1 Hs2 H2/\Rep Hs2 x v
 stop:∀ (Hs1 H1:Hp),Same Hs Hs1->Same Hs1 H1->J.stop xs.length H1
class zv (ti:TI)(f:MA):Prop where
 h:∀ {ε xs},f ε=some xs->∀ {Hs0 H0 Hs H σ},RS Hs0 H0 Hs H σ ε->∀ {R:It->Hp->Prop},(∀ J Hs' H',Ext Hs H Hs' H'->jW J xs Hs'->R J H')->ti σ H R
def i7 (a:M):MA:=fun ε=>(a ε).bind fun x=>match x with
 | .lst xs=>some xs
 | _=>none
theorem MK {K:Fg}{a:Addr}{xs:List PV}{vs:List V}{Hs:Hp}(h:Hs a=some (.lst vs))(r:Reps Hs xs vs):jW (Itl K a) xs Hs where
 go:=fun i x Hs1 H1 e g1 g2=>by
  obtain ⟨v,ev,rv⟩:=r.get e
  refine ⟨⟨vs,v,SqL.of (g2 _ _ (g1 _ _ h)),ev⟩,fun w H2 y=>?_⟩
  obtain ⟨rfl,y⟩:=y
  have z:=y vs (SqL.of (g2 _ _ (g1 _ _ h)))
  rw [ev] at z
  cases z
  exact ⟨Hs1,.refl g2,rv.mono g1⟩
 stop:=fun Hs1 H1 g1 g2=>⟨vs,SqL.of (g2 _ _ (g1 _ _ h)),by rw [r.length];exact Nat.le_refl _⟩
instance {K:Fg}{te:TE}{a:M}[sa:SemE te a]:zv (QO K te) (i7 a) where
 h:=fun e _ _ _ _ _ rs _ q=>by
  obtain ⟨x,ex,e1⟩:=bind_some e
  split at e1
  ·cases e1
   refine sa.h ex rs fun v Hs1 H1 x1 r1=>?_
   obtain ⟨p,vs,rfl,hp,r⟩:=rep_lst.mp r1
   exact ⟨p,rfl,⟨vs,SqL.of (x1.s3 _ _ hp)⟩,q _ _ _ x1 (MK hp r)⟩
  ·cases e1
def xn (lo:Int)(n:Nat):List PV:=(List.range n).map fun (i:Nat)=> .at (.int (lo + i))
theorem vA {lo:Int}{n:Nat}:(xn lo n).length=n:=by unfold xn;rw [List.length_map,List.length_range]
theorem Bn {lo:Int}{n i:Nat}{x:PV}(h:(xn lo n)[i]?=some x):i < n/\x = .at (.int (lo + i)):=by
 have hl:i < n:=by
  have:=(List.getElem?_eq_some_iff.mp h).1
  rw [vA] at this
  exact this
 refine ⟨hl,?_⟩
 unfold xn at h
 rw [List.getElem?_map,List.getElem?_range hl] at h
 cases h
 rfl
theorem GW {lo:Int}{n:Nat}{Hs:Hp}:jW (Itr lo n) (xn lo n) Hs where
 go:=fun i x Hs1 H1 e g1 g2=>by
  obtain ⟨hl,rfl⟩:=Bn e
  refine ⟨hl,fun v H2 y=>?_⟩
  obtain ⟨rfl,rfl⟩:=y
  exact ⟨Hs1,.refl g2,rep_at.mpr rfl⟩
 stop:=fun Hs1 H1 g1 g2=>by show n<=_;rw [vA];exact Nat.le_refl _
def zw (a:MA):MA:=fun ε=>(a ε).bind fun xs=>match xs with
 | [.at (.int j)]=>if -(lim:Int)<=j/\j<=lim then some (xn 0 j.toNat) else none
 | _=>none
instance {ta:TA}{a:MA}[sa:xC ta a]:zv (Wq ta) (zw a) where
 h:=fun e _ _ _ _ _ rs _ q=>by
  obtain ⟨xs,ex,e1⟩:=bind_some e
  split at e1
  ·rename_i j
   split at e1
   ·rename_i hl
    cases e1
    refine sa.h ex rs fun vs Hs1 H1 x1 r1=>?_
    obtain ⟨v,r,rfl,p1,p2⟩:=reps_cons.mp r1
    cases reps_nil.mp p2
    cases rep_at.mp p1
    have hlim:(lim:Int)=1000000:=rfl
    exact ⟨j,rfl,by omega,by omega,q _ _ _ x1 GW⟩
   ·cases e1
  ·cases e1
def zM (g:MG)(f:MS):List PV->ME->Option Out
 | [],ε=>some (.nx ε)
 | x::xs,ε=>(g x ε).bind fun ε1=>(f ε1).bind fun o=>match o with
  | .nx ε2=>zM g f xs ε2
  | .ct ε2=>zM g f xs ε2
  | .bk ε2=>some (.nx ε2)
  | .rt y=>some (.rt y)
def vN (i:MA)(g:MG)(f:MS):MS:=fun ε=>(i ε).bind fun xs=>zM g f xs ε
theorem OutK.unbase {Hs0 H0 Hb H:Hp}{D:qL}(x:Ext Hs0 H0 Hb H):∀ {o:Out},OutK fr Hs0 H0 D o->OutK fr Hb H0 D o
 | .nx _,h=>fun Hs H σ r=>h _ _ _ (RS.unbase x r)
 | .bk _,h=>fun Hs H σ r=>h _ _ _ (RS.unbase x r)
 | .ct _,h=>fun Hs H σ r=>h _ _ _ (RS.unbase x r)
 | .rt _,h=>by
  cases fr with
  | true=>exact fun a Hs H e n n' t=>h a Hs H (x.unbase e) n n' t
  | false=>exact fun a Hs H e r=>h a Hs H (x.unbase e) r
instance {wi:TI}{tg:TG}{ts:List Nat}{tb:TS}{i:MA}{g:MG}{f:MS}[si:zv wi i][sg:jz tg ts g][sf:qb fr tb f]:qb fr (tFor wi tg tb) (vN i g f) where
 h:=fun e Hs0 H0 _ _ _ rs D q=>by
  obtain ⟨xs,ex,e1⟩:=bind_some e
  refine si.h ex rs fun J Hs1 H1 x1 ok=>?_
  have rs1:=rs.go x1
  have q1:=OutK.unbase rs1.ext q
  refine ⟨fun k m σ H=>m=xs.length - k/\k<=xs.length/\∃ Hs ε,RS Hs1 H0 Hs H σ ε/\zM g f (xs.drop k) ε=some _,⟨xs.length,by simp,Nat.zero_le _,Hs1,_,rs1.rebase,e1⟩,?_⟩
  rintro k m σ H ⟨rfl,hk,Hs,ε,r,el⟩
  by_cases hlt:k < xs.length
  ·have hd:xs.drop k=xs[k]::xs.drop (k + 1):=List.drop_eq_getElem_cons hlt
   rw [hd] at el
   unfold zM at el
   obtain ⟨ε1,eg,el1⟩:=bind_some el
   obtain ⟨o,eo,el2⟩:=bind_some el1
   obtain ⟨go,yl⟩:=ok.go k xs[k] Hs H (by simp [hlt]) r.ext.s1 r.ext.s3
   refine .inr ⟨go,fun σ' H'=>k + 1<=xs.length/\∃ Hs ε,RS Hs1 H0 Hs H' σ' ε/\zM g f (xs.drop (k + 1)) ε=some _,fun σ' H' p=>⟨xs.length - (k + 1),by omega,rfl,p.1,p.2⟩,fun v H2 y=>?_⟩
   obtain ⟨Hs2,x2,r2⟩:=yl v H2 y
   refine sg.h eg (r.go x2) r2 fun σ2 rs2 _=>sf.h eo rs2 ?_
   cases o with
   | nx ε2=>exact fun Hs3 H3 σ3 r3=>⟨hlt,Hs3,ε2,r3,el2⟩
   | ct ε2=>exact fun Hs3 H3 σ3 r3=>⟨hlt,Hs3,ε2,r3,el2⟩
   | bk ε2 =>
    cases el2
    exact q1
   | rt y=>cases el2;exact q1
  ·have ek:k=xs.length:=by omega
   subst ek
   rw [List.drop_length] at el
   unfold zM at el
   cases el
   exact .inl ⟨ok.stop Hs H r.ext.s1 r.ext.s3,q1 _ _ _ r⟩
def qm (cap:List (Option Nat))(ε:ME):ME:=cap.map fun o=>match o with
 | none=> .no
 | some i=>(ε[i]?).getD .no
def qM (g:MG)(c:MB)(f:M)(ε0:ME):List PV->Option (List PV)
 | []=>some []
 | x::xs=>(g x ε0).bind fun ε1=>(c ε1).bind fun b=>if b=true then (f ε1).bind fun y=>(qM g c f ε0 xs).bind fun ys=>some (y::ys) else qM g c f ε0 xs
def i4:MB:=fun _=>some true
instance:qT tYes i4 where
 h:=fun e _ _ _ _ _ rs _ q=>by cases e;exact q _ _ (.refl rs.sub)
def jc (cap:List (Option Nat))(ts:List Nat):Bool:=decide (cap.filterMap id).Nodup && ts.all fun i=>decide (cap[i]?=some none)
def t6 (cap:List (Option Nat))(ts:List Nat)(i:MA)(g:MG)(c:MB)(f:M):M:=fun ε=>(i ε).bind fun xs=>if jc cap ts=true/\xs.length<=lim then (qM g c f (qm cap ε) xs).bind fun ys=>some (.lst ys) else none
theorem RS.cap {Hs0 H0 Hs H:Hp}{σ:St}{ε:ME}{cap:List (Option Nat)}(hc:(cap.filterMap id).Nodup)(r:RS Hs0 H0 Hs H σ ε):RS Hs0 H0 Hs H (r9 cap σ) (qm cap ε):=by
 have inj:∀ (i j k:Nat),cap[i]?=some (some k)->cap[j]?=some (some k)->i=j:=by
  clear r
  induction cap with
  | nil=>intro i j k h;simp at h
  | cons o cap ih =>
   intro i j k hi hj
   have no:∀ (l:Nat),o=some k->cap[l]?=some (some k)->False:=fun l ho hl=>by
    subst ho
    rw [List.filterMap_cons_some (by rfl)] at hc
    exact (List.nodup_cons.mp hc).1 (List.mem_filterMap.mpr ⟨some k,List.mem_of_getElem? hl,rfl⟩)
   have hc':(cap.filterMap id).Nodup:=by
    cases o with
    | none=>rwa [List.filterMap_cons_none (by rfl)] at hc
    | some m=>rw [List.filterMap_cons_some (by rfl)] at hc;exact (List.nodup_cons.mp hc).2
   cases i with
   | zero =>
    cases j with
    | zero=>rfl
    | succ j=>exact (no j (by simpa using hi) (by simpa using hj)).elim
   | succ i =>
    cases j with
    | zero=>exact (no i (by simpa using hj) (by simpa using hi)).elim
    | succ j=>rw [ih hc' i j k (by simpa using hi) (by simpa using hj)]
 have at1:∀ (i:Nat) (sl:MSlot),(qm cap ε)[i]?=some sl->sl = .no ∨ ∃ k,cap[i]?=some (some k)/\ε[k]?=some sl:=by
  intro i sl h
  unfold qm at h
  rw [List.getElem?_map] at h
  cases ho:cap[i]? with
  | none=>rw [ho] at h;cases h
  | some o =>
   rw [ho] at h
   cases o with
   | none=>cases h;exact .inl rfl
   | some k =>
    cases hk:ε[k]? with
    | none=>simp only [Option.map_some,hk,Option.getD_none] at h;cases h;exact .inl rfl
    | some s=>simp only [Option.map_some,hk,Option.getD_some] at h;cases h;exact .inr ⟨k,rfl,hk⟩
 have at2:∀ (i k:Nat),cap[i]?=some (some k)->∀ v,σ[k]?=some (some v)->(r9 cap σ)[i]?=some (some v):=by
  intro i k h v e
  unfold r9
  rw [List.getElem?_map,h]
  simp [e]
 have at3:∀ (i k:Nat) (v:V),cap[i]?=some (some k)->(r9 cap σ)[i]?=some (some v)->σ[k]?=some (some v):=by
  intro i k v h e
  unfold r9 at e
  rw [List.getElem?_map,h] at e
  simp only [Option.map_some,Option.bind_some,Option.some.injEq] at e
  cases hs:σ[k]? with
  | none=>rw [hs] at e;cases e
  | some o=>rw [hs] at e;simp at e;rw [e]
 refine ⟨r.ext,fun i x h=>?_,fun i x h=>?_,fun i j x y a h1 h2 h3 h4=>?_,by unfold r9 qm;rw [List.length_map,List.length_map],fun i x h=>?_⟩
 ·rcases at1 i _ h with z | ⟨k,hk,e⟩
  ·cases z
  ·obtain ⟨v,hv,rv⟩:=r.sh k x e
   exact ⟨v,at2 i k hk v hv,rv⟩
 ·rcases at1 i _ h with z | ⟨k,hk,e⟩
  ·cases z
  ·obtain ⟨v,hv,rv⟩:=r.ow k x e
   exact ⟨v,at2 i k hk _ hv,rv⟩
 ·rcases at1 i _ h1 with z | ⟨k,hk,e⟩
  ·cases z
  ·rcases at1 j _ h2 with z | ⟨l,hl,e'⟩
   ·cases z
   ·have kl:=r.nd k l x y a e e' (at3 i k _ hk h3) (at3 j l _ hl h4)
    subst kl
    exact inj i j k hk hl
 ·rcases at1 i _ h with z | ⟨k,hk,e⟩
  ·cases z
  ·obtain ⟨v,hv,rv⟩:=r.bo k x e
   exact ⟨v,at2 i k hk _ hv,rv⟩
theorem Reps.snoc {H:Hp}{xs:List PV}{vs:List V}{x:PV}{v:V}(r:Reps H xs vs)(p:Rep H x v):Reps H (xs++[x]) (vs++[v]):=r.append (.one p)
instance {wi:TI}{tg:TG}{ts:List Nat}{tt:TT}{te:TE}{cap:List (Option Nat)}{i:MA}{g:MG}{c:MB}{f:M}[si:zv wi i][sg:jz tg ts g][sc:qT tt c][sf:SemE te f]:xv (Qp wi tg tt te cap) (t6 cap ts i g c f) where
 h:=fun e Hs0 H0 Hs H σ rs Q q=>by
  obtain ⟨xs,ex,e1⟩:=bind_some e
  split at e1
  ·rename_i hcl
   obtain ⟨hcap,hl⟩:=hcl
   unfold jc at hcap
   rw [Bool.and_eq_true] at hcap
   obtain ⟨ys,ey,e2⟩:=bind_some e1
   cases e2
   refine si.h ex rs fun J Hs1 H1 x1 ok=>?_
   have rc:=((rs.go x1).cap (of_decide_eq_true hcap.1)).rebase
   have wk:∀ i ∈ ts,(r9 cap σ)[i]?=some none:=fun i hi=>by
    unfold r9
    rw [List.getElem?_map,of_decide_eq_true (List.all_eq_true.mp hcap.2 i hi)]
    rfl
   refine ⟨fun k m zs H=>m=xs.length - k/\k<=xs.length/\∃ Hs2 ws,Ext Hs1 H1 Hs2 H/\RS Hs1 H0 Hs2 H (r9 cap σ) (qm cap _)/\Reps Hs2 ws zs/\ws.length<=k/\∃ rest,qM g c f (qm cap _) (xs.drop k)=some rest/\ys=ws++rest,
    ⟨xs.length,by simp,Nat.zero_le _,Hs1,[],.refl x1.s3,rc,.nil,Nat.le_refl _,ys,ey,rfl⟩,?_⟩
   rintro k m zs H2 ⟨rfl,hk,Hs2,ws,x2,r2,rz,hw,rest,er,eys⟩
   refine ⟨zb (by rw [rz.length];omega),?_⟩
   by_cases hlt:k < xs.length
   ·have hd:xs.drop k=xs[k]::xs.drop (k + 1):=List.drop_eq_getElem_cons hlt
    rw [hd] at er
    unfold qM at er
    obtain ⟨ε1,eg,er1⟩:=bind_some er
    obtain ⟨b,eb,er2⟩:=bind_some er1
    obtain ⟨go,yl⟩:=ok.go k xs[k] Hs2 H2 (by simp [hlt]) x2.s1 x2.s3
    refine .inr ⟨go,fun v H3 y=>?_⟩
    obtain ⟨Hs3,x3,r3⟩:=yl v H3 y
    refine sg.h eg (r2.go x3) r3 fun σ2 rs2 bt=>⟨bt.wk wk,sc.h eb rs2 fun Hs4 H4 x4=>?_⟩
    cases b with
    | true =>
     rw [if_pos rfl] at er2
     obtain ⟨z,ez,er3⟩:=bind_some er2
     obtain ⟨rest',er4,er5⟩:=bind_some er3
     cases er5
     refine qz (sf.h ez (rs2.go x4) fun u Hs5 H5 x5 r5=>⟨xs.length - (k + 1),by omega,rfl,hlt,Hs5,ws++[z],x2.trans (x3.trans (x4.trans x5)),((r2.go x3).go x4).go x5,?_,?_,rest',er4,?_⟩)
     ·exact (rz.mono (x3.s1.trans (x4.s1.trans x5.s1))).snoc r5
     ·rw [List.length_append];simp;omega
     ·rw [List.append_assoc];exact eys
    | false =>
     rw [if_neg Bool.false_ne_true] at er2
     exact o8 ⟨xs.length - (k + 1),by omega,rfl,hlt,Hs4,ws,x2.trans (x3.trans x4),(r2.go x3).go x4,rz.mono (x3.s1.trans x4.s1),by omega,rest,er2,eys⟩
   ·have ek:k=xs.length:=by omega
    subst ek
    rw [List.drop_length] at er
    unfold qM at er
    cases er
    refine .inl ⟨ok.stop Hs2 H2 x2.s1 x2.s3,fun D hD=>?_⟩
    rw [List.append_nil] at eys
    subst eys
    have x12:=x1.trans x2
    exact q D Hs2 _ (x12.trans (.newO x2.s3 hD)) (x12.s2.free hD) (x2.s3.free hD) ⟨zs,g0,rz⟩
  ·cases e1
def i6 (n k:Nat)(f:MS):List PV->Option PV:=fun xs=>if xs.length=k then (f (xs.map .sh++List.replicate (n - k) .no)).bind fun o=>match o with
 | .rt y=>some y
 | .nx _=>some (.at .non)
 | _=>none else none
def zL (n k:Nat)(f:MS):List PV->Option PV:=fun xs=>if xs.length=k then (f (xs.map .sh++List.replicate (n - k) .no)).bind fun o=>match o with
 | .rt y=>some y
 | _=>none else none
end Mi
namespace Mi
open PySem PySem.Spec PyProof.Rows L2
theorem wu {N:List Str}{Hs H:Hp}{xs:List PV}{vs:List V}(s:Same Hs H)(r:Reps Hs xs vs):RS Hs H Hs H (L2.start N vs) (xs.map .sh++List.replicate (N.length - xs.length) .no):=by
 have el:=r.length
 have at1:∀ (i:Nat) (sl:MSlot),(xs.map MSlot.sh++List.replicate (N.length - xs.length) .no)[i]?=some sl->sl = .no ∨ ∃ x,xs[i]?=some x/\sl = .sh x:=by
  intro i sl h
  by_cases hi:i < xs.length
  ·rw [List.getElem?_append_left (by rw [List.length_map];exact hi),List.getElem?_map] at h
   obtain ⟨x,hx,rfl⟩:=Option.map_eq_some_iff.mp h
   exact .inr ⟨x,hx,rfl⟩
  ·rw [List.getElem?_append_right (by rw [List.length_map];omega),List.getElem?_replicate] at h
   split at h
   ·cases h;exact .inl rfl
   ·cases h
 refine ⟨.refl s,fun i x h=>?_,fun i x h=>?_,fun i j x y a h1 _ _ _=>?_,?_,fun i x h=>?_⟩
 ·rcases at1 i _ h with z | ⟨y,hy,z⟩
  ·cases z
  ·cases z
   obtain ⟨v,hv,rv⟩:=r.get hy
   refine ⟨v,?_,rv⟩
   unfold L2.start
   rw [List.getElem?_append_left (by rw [List.length_map];exact (List.getElem?_eq_some_iff.mp hv).1),List.getElem?_map,hv]
   rfl
 ·rcases at1 i _ h with z | ⟨y,hy,z⟩ <;> cases z
 ·rcases at1 i _ h1 with z | ⟨y,hy,z⟩ <;> cases z
 ·unfold L2.start
  rw [List.length_append,List.length_append,List.length_map,List.length_map,List.length_replicate,List.length_replicate,el]
 ·rcases at1 i _ h with z | ⟨y,hy,z⟩ <;> cases z
section
variable {P:Program}{w:World}{K:Fg}{mg:Str->Option Value}{base:Heap}
theorem qp {x qual:Str}{st:Stmt}{f:Addr}{fd:FuncData}{N ps:List Str}{k:Nat}{b:MS}{m:List PV->Option PV}(F:Fun K x qual st f fd)(S:v9 N ps (j5 st))(hm:m=i6 N.length ps.length b)
  (hb:∀ (cdv:Value) (A:Around) (outer:List Env) (s:Shared) (H:Hp) (E:XK),Room k (A.deeper (envOfC qual (j5 st) s.heap.objs.size f cdv)) ->
   ∃ t,PSs (xh v7 P w K mg base N qual (j5 st) f cdv A outer s H E).nox (qy st) t/\qb false t b):FnOk P w K mg base v7 (k + 1) f fd ps (v4 m):=by
 subst hm
 refine F.ok S (fun vs H Q E h=>?_) (fun cdv A outer s H vs Q E hr h=>?_)
 ·obtain ⟨Hs,xs,y,_,r,e,_⟩:=h
  unfold i6 at e
  split at e
  ·rename_i hl;rw [r.length];exact hl
  ·cases e
 ·obtain ⟨Hs,xs,y,sm,r,e,q⟩:=h
  obtain ⟨t,ht,sem⟩:=hb cdv A outer s H E hr
  refine ⟨t,ht,?_⟩
  unfold i6 at e
  split at e
  ·rename_i hl
   obtain ⟨o,eo,e1⟩:=bind_some e
   refine sem.h eo (by rw [<- hl];exact wu sm r) ?_
   cases o with
   | rt z=>cases e1;exact fun v Hs' H' x rv=>q v Hs' H' x rv
   | nx ε=>cases e1;exact fun Hs' H' σ rs=>q _ Hs' H' rs.ext (rep_at.mpr rfl)
   | bk ε=>cases e1
   | ct ε=>cases e1
  ·cases e
theorem okO {x qual:Str}{st:Stmt}{f:Addr}{fd:FuncData}{N ps:List Str}{k:Nat}{b:MS}{m:List PV->Option PV}(F:Fun K x qual st f fd)(S:v9 N ps (j5 st))(hm:m=zL N.length ps.length b)
  (hb:∀ (cdv:Value) (A:Around) (outer:List Env) (s:Shared) (H:Hp) (E:XK),Room k (A.deeper (envOfC qual (j5 st) s.heap.objs.size f cdv)) ->
   ∃ t,PSs (xh v7 P w K mg base N qual (j5 st) f cdv A outer s H E).nox (qy st) t/\qb true t b):FnOk P w K mg base v7 (k + 1) f fd ps (spO m):=by
 subst hm
 refine F.ok S (fun vs H Q E h=>?_) (fun cdv A outer s H vs Q E hr h=>?_)
 ·obtain ⟨Hs,xs,y,_,r,e,_⟩:=h
  unfold zL at e
  split at e
  ·rename_i hl;rw [r.length];exact hl
  ·cases e
 ·obtain ⟨Hs,xs,y,sm,r,e,q⟩:=h
  obtain ⟨t,ht,sem⟩:=hb cdv A outer s H E hr
  refine ⟨t,ht,?_⟩
  unfold zL at e
  split at e
  ·rename_i hl
   obtain ⟨o,eo,e1⟩:=bind_some e
   refine sem.h eo (by rw [<- hl];exact wu sm r) ?_
   cases o with
   | rt z=>cases e1;exact fun a Hs' H' x n n' t=>q a Hs' H' x n n' t
   | nx ε=>cases e1
   | bk ε=>cases e1
   | ct ε=>cases e1
  ·cases e
end
end Mi
namespace Mi
open PySem L2
theorem qY {X:Cx}{K:Fg}{a:Expr}{ta:TE}(h:X.K=K)(ha:PE X a ta)(he:∀ whole,isTrue a X.env whole=(do let v <- whole;standAt a.pos;holding [v] (truthy v))):PT X a (tTru K ta):=HX h ha he
abbrev zC:PV->PV->Option PV:=pI fun i j=>some (.int (i - j))
abbrev pLt:PV->PV->Option PV:=pI fun i j=>some (.bl (decide (i < j)))
abbrev pLe:PV->PV->Option PV:=pI fun i j=>some (.bl (decide (i<=j)))
abbrev pGt:PV->PV->Option PV:=pI fun i j=>some (.bl (decide (j < i)))
abbrev pGe:PV->PV->Option PV:=pI fun i j=>some (.bl (decide (j<=i)))
instance {i j:Int}:Decidable (wC i j):=by unfold wC;infer_instance
instance {i j:Int}:Decidable (jw i j):=by unfold jw;infer_instance
abbrev pMul:PV->PV->Option PV:=pI fun i j=>if wC i j then some (.int (i * j)) else none
abbrev vn:PV->PV->Option PV:=pI fun i j=>if jw i j then some (.int (i ^ j.toNat)) else none
abbrev wg:PV->Option PV:=pU fun i=> .int (-i)
theorem Reps.nil_of {H:Hp}{xs:List PV}(r:Reps H xs []):xs=[]:=List.length_eq_zero_iff.mp r.length.symm
def qa:PV->PV->Option PV
 | .at (.int i),.at (.int j)=>some (.at (.int (i + j)))
 | .at (.str x),.at (.str y)=>if x.length + y.length<=lim then some (.at (.str (x++y))) else none
 | .lst xs,.lst ys=>if xs.length + ys.length<=lim then some (.lst (xs++ys)) else none
 | .tup xs,.tup ys=>if xs ≠ []/\xs.length + ys.length<=lim then some (.tup (xs++ys)) else none
 | _,_=>none
instance {K:Fg}:SemR (KK K) qa where
 h:=fun {x y z} e {Hs H v w} s a b {Q} q=>by
  unfold qa at e
  split at e
  ·cases e
   exact .inl ⟨_,_,u8 a,u8 b,q _ _ _ (.refl s) (rep_at.mpr rfl)⟩
  ·split at e
   ·rename_i hl
    cases e
    exact .inr (.inl ⟨_,_,u8 a,u8 b,zb hl,q _ _ _ (.refl s) (rep_at.mpr rfl)⟩)
   ·cases e
  ·split at e
   ·rename_i hl
    cases e
    obtain ⟨p,vs,rfl,e1,r1⟩:=qq s a
    obtain ⟨p',ws,rfl,e2,r2⟩:=qq s b
    refine .inr (.inr (.inl ⟨p,p',vs,ws,rfl,rfl,SqL.of e1,SqL.of e2,zb (by rw [r1.length,r2.length];exact hl),fun l hl=>?_⟩))
    exact q _ _ _ (.new s hl) (rep_lst.mpr ⟨l,_,rfl,g0,(r1.append r2).mono (Ext.new s hl).s1⟩)
   ·cases e
  ·split at e
   ·rename_i hl
    cases e
    obtain ⟨p,vs,rfl,e1,r1⟩:=xG s a
    obtain ⟨p',ws,rfl,e2,r2⟩:=xG s b
    have hn:vs ≠ []:=fun z=>by
     have h1:=r1.length
     rw [z] at h1
     exact hl.1 (List.length_eq_zero_iff.mp h1.symm)
    refine .inr (.inr (.inr ⟨p,p',vs,ws,rfl,rfl,SqT.of e1,SqT.of e2,hn,zb (by rw [r1.length,r2.length];exact hl.2),fun z=>?_,fun z l hl=>?_⟩))
    ·subst z
     cases r2.nil_of
     rw [List.append_nil] at q
     rcases a with a | ⟨_,_,_,t⟩
     ·exact q _ _ _ (.refl s) a
     ·exact t.elim
    ·exact q _ _ _ (.new s hl) (rep_tup.mpr ⟨l,_,rfl,g0,(r1.append r2).mono (Ext.new s hl).s1⟩)
   ·cases e
  ·cases e
def qH:List PV->Option PV
 | [.at (.str x)]=>if x.length<=lim then some (.at (.int x.length)) else none
 | [.lst xs]=>some (.at (.int xs.length))
 | [.tup xs]=>some (.at (.int xs.length))
 | [.dk ks _]=>some (.at (.int ks.length))
 | _=>none
instance {K:Fg}:jy (rLen K) qH where
 h:=fun {xs z} e {Hs H vs} s r {Q} q=>by
  unfold qH at e
  split at e
  ·split at e
   ·rename_i hl
    cases e
    obtain ⟨v,rfl,a⟩:=zr r
    cases u8 a
    exact .inl ⟨_,_,rfl,⟨zb hl,rfl⟩,q _ _ _ (.refl s) (rep_at.mpr rfl)⟩
   ·cases e
  ·cases e
   obtain ⟨v,rfl,a⟩:=zr r
   obtain ⟨p,ws,rfl,e1,r1⟩:=qq s a
   exact .inl ⟨_,_,rfl,.inl ⟨ws,SqL.of e1,rfl⟩,q _ _ _ (.refl s) (rep_at.mpr (by rw [r1.length]))⟩
  ·cases e
   obtain ⟨v,rfl,a⟩:=zr r
   obtain ⟨p,ws,rfl,e1,r1⟩:=xG s a
   exact .inl ⟨_,_,rfl,.inr ⟨ws,SqT.of e1,rfl⟩,q _ _ _ (.refl s) (rep_at.mpr (by rw [r1.length]))⟩
  ·cases e
   obtain ⟨v,rfl,a⟩:=zr r
   obtain ⟨p,kvs,rfl,e1,k,r1⟩:=vz s a
   exact .inr ⟨p,kvs,rfl,e1,q _ _ _ (.refl s) (rep_at.mpr (by rw [<- k,List.length_map]))⟩
  ·cases e
def Qf:List PV->Option PV
 | [.lst xs]=>some (.lst xs)
 | [.tup xs]=>some (.lst xs)
 | _=>none
instance {K:Fg}:VJ (KQ K) Qf where
 h:=fun {xs z} e {Hs H vs} s r {Q} q=>by
  unfold Qf at e
  split at e
  ·cases e
   obtain ⟨v,rfl,a⟩:=zr r
   obtain ⟨p,ws,rfl,e1,r1⟩:=qq s a
   exact ⟨p,ws,rfl,.inl (SqL.of e1),fun l hl=>q l _ _ (.newO s hl) hl (s.free hl) ⟨ws,g0,r1⟩⟩
  ·cases e
   obtain ⟨v,rfl,a⟩:=zr r
   obtain ⟨p,ws,rfl,e1,r1⟩:=xG s a
   exact ⟨p,ws,rfl,.inr (SqT.of e1),fun l hl=>q l _ _ (.newO s hl) hl (s.free hl) ⟨ws,g0,r1⟩⟩
  ·cases e
def tyP:PV->Option String
 | .at .non=>some "NoneType"
 | .at (.bl _)=>some "bool"
 | .at (.int _)=>some "int"
 | .at (.str _)=>some "str"
 | .lst _=>some "list"
 | .tup _=>some "tuple"
 | .dk _ _=>some "dict"
 | _=>none
theorem Sb {K:Fg}{Hs H:Hp}{x:PV}{v:V}{T:String}(s:Same Hs H)(r:RepB Hs H x v)(e:tyP x=some T):xP K H v (.type T):=by
 unfold tyP at e
 split at e
 ·cases e;cases u8 r;exact .non
 ·cases e;cases u8 r;exact .bl _
 ·cases e;cases u8 r;exact .int _
 ·cases e;cases u8 r;exact .str _
 ·cases e;obtain ⟨p,ws,rfl,e1,r1⟩:=qq s r;exact .lst e1
 ·cases e;obtain ⟨p,ws,rfl,e1,r1⟩:=xG s r;exact .tup e1
 ·cases e;obtain ⟨p,ws,rfl,e1,_⟩:=vz s r;exact .dK e1
 ·cases e
def xj:List PV->Option PV
 | [x,.at (.ty n)]=>(tyP x).bind fun T=>(tyB T n).bind fun b=>some (.at (.bl b))
 | _=>none
instance {K:Fg}:jy (rIsi K) xj where
 h:=fun {xs z} e {Hs H vs} s r {Q} q=>by
  unfold xj at e
  split at e
  ·obtain ⟨T,eT,e1⟩:=bind_some e
   obtain ⟨b,eb,e2⟩:=bind_some e1
   cases e2
   obtain ⟨v,w,rfl,a,c⟩:=Ji r
   cases u8 c
   exact ⟨v,_,T,b,rfl,Sb s a eT,eb,q _ _ _ (.refl s) (rep_at.mpr rfl)⟩
  ·cases e
def bls:List PV->Option (List Bool)
 | []=>some []
 | .at (.bl b)::xs=>(bls xs).map (b::·)
 | _::_=>none
theorem Gd:∀ {xs:List PV} {bs:List Bool},bls xs=some bs->xs=bs.map fun b=> .at (.bl b)
 | [],_,h=>by cases h;rfl
 | x::xs,bs,h=>by
  unfold bls at h
  split at h
  ·rename_i heq;cases heq
  ·rename_i b ys heq
   injection heq with h1 h2
   obtain ⟨r,e,rfl⟩:=Option.map_eq_some_iff.mp h
   subst h2
   rw [h1,List.map_cons,Gd e]
  ·cases h
def jk:List PV->Option (List Int)
 | []=>some []
 | .at (.int b)::xs=>(jk xs).map (b::·)
 | _::_=>none
theorem Ws:∀ {xs:List PV} {bs:List Int},jk xs=some bs->xs=bs.map fun b=> .at (.int b)
 | [],_,h=>by cases h;rfl
 | x::xs,bs,h=>by
  unfold jk at h
  split at h
  ·rename_i heq;cases heq
  ·rename_i b ys heq
   injection heq with h1 h2
   obtain ⟨r,e,rfl⟩:=Option.map_eq_some_iff.mp h
   subst h2
   rw [h1,List.map_cons,Ws e]
  ·cases h
def zS:List PV->Option PV
 | [.lst xs]=>(bls xs).bind fun bs=>some (.at (.bl (bs.all id)))
 | _=>none
instance {K:Fg}:jy (KL K) zS where
 h:=fun {xs z} e {Hs H vs} s r {Q} q=>by
  unfold zS at e
  split at e
  ·obtain ⟨bs,eb,e1⟩:=bind_some e
   cases e1
   obtain ⟨v,rfl,a⟩:=zr r
   obtain ⟨p,ws,rfl,e1,r1⟩:=qq s a
   rw [Gd eb,show (bs.map fun b=>PV.at (.bl b))=(bs.map V.bl).map .at by rw [List.map_map];rfl] at r1
   cases r1.ats
   exact ⟨p,bs,rfl,SqL.of e1,q _ _ _ (.refl s) (rep_at.mpr rfl)⟩
  ·cases e
def pSum:List PV->Option PV
 | [.lst xs]=>(jk xs).bind fun bs=>some (.at (.int bs.sum))
 | _=>none
instance {K:Fg}:jy (Ba K) pSum where
 h:=fun {xs z} e {Hs H vs} s r {Q} q=>by
  unfold pSum at e
  split at e
  ·obtain ⟨bs,eb,e1⟩:=bind_some e
   cases e1
   obtain ⟨v,rfl,a⟩:=zr r
   obtain ⟨p,ws,rfl,e1,r1⟩:=qq s a
   rw [Ws eb,show (bs.map fun b=>PV.at (.int b))=(bs.map V.int).map .at by rw [List.map_map];rfl] at r1
   cases r1.ats
   exact ⟨p,bs,rfl,SqL.of e1,q _ _ _ (.refl s) (rep_at.mpr rfl)⟩
  ·cases e
def Xv:List PV->Option PV
 | [.at (.int i),.at (.int j)]=>some (.at (.int (if j < i then j else i)))
 | _=>none
instance:jy KR Xv where
 h:=fun {xs z} e {Hs H vs} s r {Q} q=>by
  unfold Xv at e
  split at e
  ·cases e
   obtain ⟨v,w,rfl,a,b⟩:=Ji r
   cases u8 a
   cases u8 b
   exact ⟨_,_,rfl,q _ _ _ (.refl s) (rep_at.mpr rfl)⟩
  ·cases e
def vT:PV->Bool
 | .at .non=>true
 | _=>false
def QP:PV->Bool
 | .op _=>true
 | _=>false
def pIsN:PV->PV->Option PV:=fun x y=>if vT y=true/\QP x=false then some (.at (.bl (vT x))) else none
def WH:PV->PV->Option PV:=fun x y=>if vT y=true/\QP x=false then some (.at (.bl (!vT x))) else none
theorem ZD {Hs H:Hp}{x:PV}{v:V}(s:Same Hs H)(r:RepB Hs H x v)(ho:QP x=false):decide (v = .non)=vT x:=by
 cases x with
 | «at» u =>
  cases u8 r
  cases v <;> first | rfl | (exact decide_eq_false (fun z=>nomatch z))
 | tup xs=>obtain ⟨p,ws,rfl,_⟩:=xG s r;exact decide_eq_false (fun z=>nomatch z)
 | lst xs=>obtain ⟨p,ws,rfl,_⟩:=qq s r;exact decide_eq_false (fun z=>nomatch z)
 | dk ks xs=>obtain ⟨p,ws,rfl,_⟩:=vz s r;exact decide_eq_false (fun z=>nomatch z)
 | fk ks xs=>obtain ⟨p,o,ws,rfl,_⟩:=XG s r;exact decide_eq_false (fun z=>nomatch z)
 | ob C ns xs=>obtain ⟨p,dx,ws,rfl,_⟩:=Bk s r;exact decide_eq_false (fun z=>nomatch z)
 | op φ=>cases ho
instance:SemR rIsN pIsN where
 h:=fun {x y z} e {Hs H v w} s a b {Q} q=>by
  unfold pIsN at e
  split at e
  ·rename_i hy
   cases e
   have hb:QP y=false:=by
    cases y <;> first | rfl | (exact absurd hy.1 (by simp [vT]))
   refine ⟨of_decide_eq_true ((ZD s b hb).trans hy.1),?_⟩
   rw [ZD s a hy.2]
   exact q _ _ _ (.refl s) (rep_at.mpr rfl)
  ·cases e
instance:SemR KU WH where
 h:=fun {x y z} e {Hs H v w} s a b {Q} q=>by
  unfold WH at e
  split at e
  ·rename_i hy
   cases e
   have hb:QP y=false:=by
    cases y <;> first | rfl | (exact absurd hy.1 (by simp [vT]))
   refine ⟨of_decide_eq_true ((ZD s b hb).trans hy.1),?_⟩
   rw [ZD s a hy.2]
   exact q _ _ _ (.refl s) (rep_at.mpr rfl)
  ·cases e
def zU (f:PV->PV->Option Bool):List PV->List PV->Option Bool
 | x::xs,y::ys=>(f x y).bind fun a=>(zU f xs ys).bind fun b=>some (a && b)
 | _,_=>some true
def peq0:PV->PV->Option Bool
 | .at u,.at v=>if p0 u=true/\p0 v=true then some (qw u v) else none
 | _,_=>none
def peq1 (f:PV->PV->Option Bool):PV->PV->Option Bool
 | .at u,.at v=>if p0 u=true/\p0 v=true then some (qw u v) else none
 | .lst xs,.lst ys=>if xs.length=ys.length then zU f xs ys else some false
 | .tup xs,.tup ys=>(zU f xs ys).bind fun b=>some (b && xs.length == ys.length)
 | .lst _,.tup _=>some false
 | .tup _,.lst _=>some false
 | .at u,.lst _=>if p0 u=true then some false else none
 | .at u,.tup _=>if p0 u=true then some false else none
 | .lst _,.at u=>if p0 u=true then some false else none
 | .tup _,.at u=>if p0 u=true then some false else none
 | _,_=>none
def peq:Nat->PV->PV->Option Bool
 | 0=>peq0
 | n + 1=>peq1 (peq n)
theorem WN {K:Fg}{Hs H:Hp}{n:Nat}(s:Same Hs H)(ih:∀ {x y:PV} {v w:V} {b:Bool},peq n x y=some b->Rep Hs x v->Rep Hs y w->EqP K H n v w b) :
  ∀ {xs ys:List PV} {vs ws:List V} {b:Bool},zU (peq n) xs ys=some b->Reps Hs xs vs->Reps Hs ys ws->∃ e:Nat->Bool,(∀ j (h1:j < vs.length) (h2:j < ws.length),EqP K H n vs[j] ws[j] (e j))/\b=(List.range (min vs.length ws.length)).all e
 | [],ys,vs,ws,b,h,r1,r2=>by
  cases reps_nil.mp r1
  unfold zU at h
  cases h
  exact ⟨fun _=>true,fun j h1=>absurd h1 (Nat.not_lt_zero _),by simp⟩
 | x::xs,[],vs,ws,b,h,r1,r2=>by
  cases reps_nil.mp r2
  unfold zU at h
  cases h
  exact ⟨fun _=>true,fun j h1 h2=>absurd h2 (Nat.not_lt_zero _),by simp⟩
 | x::xs,y::ys,vs,ws,b,h,r1,r2=>by
  obtain ⟨v,vr,rfl,p1,q1⟩:=reps_cons.mp r1
  obtain ⟨w,wr,rfl,p2,q2⟩:=reps_cons.mp r2
  unfold zU at h
  obtain ⟨a,ea,h1⟩:=bind_some h
  obtain ⟨c,ec,h2⟩:=bind_some h1
  cases h2
  obtain ⟨e,he,hb⟩:=WN s ih ec q1 q2
  refine ⟨fun j=>match j with | 0=>a | j + 1=>e j,fun j h1 h2=>?_,?_⟩
  ·cases j with
   | zero=>exact ih ea p1 p2
   | succ j=>exact he j (by simpa using h1) (by simpa using h2)
  ·rw [List.length_cons,List.length_cons,Nat.succ_min_succ,List.range_succ_eq_map,List.all_cons,List.all_map,hb]
   rfl
theorem WM {K:Fg}{Hs H:Hp}(s:Same Hs H):∀ (n:Nat) {x y:PV} {v w:V} {b:Bool},peq n x y=some b->RepB Hs H x v->RepB Hs H y w->EqP K H n v w b
 | 0,x,y,v,w,b,h,r1,r2=>by
  unfold peq peq0 at h
  split at h
  ·split at h
   ·rename_i hf
    cases h
    cases u8 r1
    cases u8 r2
    exact ⟨hf.1,hf.2,rfl⟩
   ·cases h
  ·cases h
 | n + 1,x,y,v,w,b,h,r1,r2=>by
  have ih:∀ {x y:PV} {v w:V} {b:Bool},peq n x y=some b->Rep Hs x v->Rep Hs y w->EqP K H n v w b:=fun h r1 r2=>WM s n h (.inl r1) (.inl r2)
  unfold peq peq1 at h
  split at h
  ·split at h
   ·rename_i hf
    cases h
    cases u8 r1
    cases u8 r2
    exact .inl ⟨hf.1,hf.2,rfl⟩
   ·cases h
  ·obtain ⟨a,vs,rfl,e1,q1⟩:=qq s r1
   obtain ⟨c,ws,rfl,e2,q2⟩:=qq s r2
   refine .inr (.inl ⟨a,c,vs,ws,rfl,rfl,SqL.of e1,SqL.of e2,?_⟩)
   split at h
   ·rename_i hl
    obtain ⟨e,he,hb⟩:=WN s ih h q1 q2
    have hl':vs.length=ws.length:=by rw [q1.length,q2.length,hl]
    exact .inr ⟨hl',e,he,by rw [hb,<- hl',Nat.min_self]⟩
   ·rename_i hl
    cases h
    exact .inl ⟨by rw [q1.length,q2.length];exact hl,rfl⟩
  ·obtain ⟨a,vs,rfl,e1,q1⟩:=xG s r1
   obtain ⟨c,ws,rfl,e2,q2⟩:=xG s r2
   obtain ⟨d,ed,h1⟩:=bind_some h
   cases h1
   obtain ⟨e,he,hb⟩:=WN s ih ed q1 q2
   exact .inr (.inr (.inl ⟨a,c,vs,ws,rfl,rfl,SqT.of e1,SqT.of e2,e,he,by rw [hb,q1.length,q2.length]⟩))
  ·cases h
   obtain ⟨a,vs,rfl,e1,q1⟩:=qq s r1
   obtain ⟨c,ws,rfl,e2,q2⟩:=xG s r2
   exact .inr (.inr (.inr (.inl ⟨a,c,vs,ws,rfl,rfl,SqL.of e1,SqT.of e2,rfl⟩)))
  ·cases h
   obtain ⟨a,vs,rfl,e1,q1⟩:=xG s r1
   obtain ⟨c,ws,rfl,e2,q2⟩:=qq s r2
   exact .inr (.inr (.inr (.inr (.inl ⟨a,c,vs,ws,rfl,rfl,SqT.of e1,SqL.of e2,rfl⟩))))
  ·split at h
   ·rename_i hf
    cases h
    cases u8 r1
    obtain ⟨c,ws,rfl,e2,q2⟩:=qq s r2
    exact .inr (.inr (.inr (.inr (.inr (.inl ⟨c,ws,hf,rfl,.inl (SqL.of e2),rfl⟩)))))
   ·cases h
  ·split at h
   ·rename_i hf
    cases h
    cases u8 r1
    obtain ⟨c,ws,rfl,e2,q2⟩:=xG s r2
    exact .inr (.inr (.inr (.inr (.inr (.inl ⟨c,ws,hf,rfl,.inr (SqT.of e2),rfl⟩)))))
   ·cases h
  ·split at h
   ·rename_i hf
    cases h
    cases u8 r2
    obtain ⟨c,ws,rfl,e2,q2⟩:=qq s r1
    exact .inr (.inr (.inr (.inr (.inr (.inr ⟨c,ws,hf,rfl,.inl (SqL.of e2),rfl⟩)))))
   ·cases h
  ·split at h
   ·rename_i hf
    cases h
    cases u8 r2
    obtain ⟨c,ws,rfl,e2,q2⟩:=xG s r1
    exact .inr (.inr (.inr (.inr (.inr (.inr ⟨c,ws,hf,rfl,.inr (SqT.of e2),rfl⟩)))))
   ·cases h
  ·cases h
def qd:PV->PV->Option PV:=fun x y=>(peq 6 x y).bind fun b=>some (.at (.bl b))
def qX:PV->PV->Option PV:=fun x y=>(peq 6 x y).bind fun b=>some (.at (.bl (!b)))
instance {K:Fg}:SemR (rEqD K 6 false) qd where
 h:=fun {x y z} e {Hs H v w} s a b {Q} q=>by
  obtain ⟨c,ec,e1⟩:=bind_some e
  cases e1
  exact ⟨c,WM s 6 ec a b,q _ _ _ (.refl s) (rep_at.mpr rfl)⟩
instance {K:Fg}:SemR (rEqD K 6 true) qX where
 h:=fun {x y z} e {Hs H v w} s a b {Q} q=>by
  obtain ⟨c,ec,e1⟩:=bind_some e
  cases e1
  exact ⟨c,WM s 6 ec a b,q _ _ _ (.refl s) (rep_at.mpr rfl)⟩
class vG (to:TO)(f:ME->Option (Option Int)):Prop where
 h:∀ {ε y},f ε=some y->∀ {Hs0 H0 Hs H σ},RS Hs0 H0 Hs H σ ε->∀ {Q:Option Int->Hp->Prop},(∀ Hs' H',Ext Hs H Hs' H'->Q y H')->to σ H Q
def pNo:ME->Option (Option Int):=fun _=>some none
def pInt:PV->Option Int
 | .at (.int i)=>some i
 | _=>none
def pSo (a:M):ME->Option (Option Int):=fun ε=>(a ε).bind fun x=>(pInt x).bind fun i=>some (some i)
instance:vG Yi pNo where
 h:=fun e _ _ _ _ _ rs _ q=>by cases e;exact q _ _ (.refl rs.sub)
instance {te:TE}{a:M}[sa:qj te a]:vG (Yj te) (pSo a) where
 h:=fun e _ _ _ _ _ rs _ q=>by
  obtain ⟨x,ex,e1⟩:=bind_some e
  obtain ⟨i,ei,e2⟩:=bind_some e1
  cases e2
  unfold pInt at ei
  split at ei
  ·cases ei
   exact sa.h ex rs fun v Hs1 H1 x1 r1=>⟨_,u8 r1,q _ _ x1⟩
  ·cases ei
def jf (xs:List PV)(lo hi:Option Int):List PV:=(xs.drop (HT.sIx xs.length 0 lo)).take (HT.sIx xs.length xs.length hi - HT.sIx xs.length 0 lo)
theorem Reps.cut {H:Hp}{xs:List PV}{vs:List V}(r:Reps H xs vs)(lo hi:Option Int):Reps H (jf xs lo hi) (va vs lo hi):=by
 unfold jf va
 rw [r.length]
 exact (r.drop _).take _
def wM (a:M)(l u:ME->Option (Option Int)):M:=fun ε=>(a ε).bind fun x=>(l ε).bind fun lo=>(u ε).bind fun hi=>match x with
 | .lst xs=>some (.lst (jf xs lo hi))
 | _=>none
instance {K:Fg}{te:TE}{tl th:TO}{a:M}{l u:ME->Option (Option Int)}[sa:qj te a][sl:vG tl l][su:vG th u]:xv (tSl (rSlL K) te tl th) (wM a l u) where
 h:=fun e _ _ _ _ _ rs _ q=>by
  obtain ⟨x,ex,e1⟩:=bind_some e
  obtain ⟨lo,el,e2⟩:=bind_some e1
  obtain ⟨hi,eu,e3⟩:=bind_some e2
  split at e3
  ·cases e3
   refine sa.h ex rs fun v Hs1 H1 x1 r1=>sl.h el (rs.go x1) fun Hs2 H2 x2=>su.h eu ((rs.go x1).go x2) fun Hs3 H3 x3=>?_
   obtain ⟨p,vs,rfl,e1,r⟩:=qq x3.s3 ((r1.ext x2).ext x3)
   have x13:=x1.trans (x2.trans x3)
   exact ⟨p,vs,rfl,SqL.of e1,fun d hd=>q d _ _ (x13.trans (.newO x3.s3 hd)) (x13.s2.free hd) (x3.s3.free hd) ⟨_,g0,r.cut lo hi⟩⟩
  ·cases e3
def zy (n:Nat):List PV->List PV
 | []=>[]
 | x::xs=> .tup [.at (.int n),x]::zy (n + 1) xs
theorem GE:∀ {xs:List PV} {n i:Nat} {z:PV},(zy n xs)[i]?=some z->∃ x,xs[i]?=some x/\z = .tup [.at (.int ((n + i:Nat):Int)),x]
 | [],n,i,z,h=>by simp [zy] at h
 | x::xs,n,0,z,h=>by simp [zy] at h;exact ⟨x,rfl,h.symm⟩
 | x::xs,n,i + 1,z,h=>by
  obtain ⟨y,h1,h2⟩:=GE (xs:=xs) (n:=n + 1) (i:=i) (z:=z) (by simpa [zy] using h)
  exact ⟨y,by simpa using h1,by rw [h2,show n + 1 + i=n + (i + 1) by omega]⟩
theorem GF:∀ {xs:List PV} {n:Nat},(zy n xs).length=xs.length
 | [],_=>rfl
 | x::xs,n=>by simp [zy,GF]
theorem MI {K:Fg}{a:Addr}{xs:List PV}{vs:List V}{Hs:Hp}(h:Hs a=some (.lst vs))(r:Reps Hs xs vs):jW (Ite K a) (zy 0 xs) Hs where
 go:=fun i x Hs1 H1 e g1 g2=>by
  obtain ⟨y,ey,rfl⟩:=GE e
  obtain ⟨v,ev,rv⟩:=r.get ey
  refine ⟨⟨vs,v,SqL.of (g2 _ _ (g1 _ _ h)),ev⟩,fun w H2 z=>?_⟩
  obtain ⟨p,u,hp,rfl,rfl,hu⟩:=z
  have e1:=hu vs (SqL.of (g2 _ _ (g1 _ _ h)))
  rw [ev] at e1
  cases e1
  refine ⟨_,.new g2 hp,rep_tup.mpr ⟨p,_,rfl,g0,.cons (rep_at.mpr (by rw [Nat.zero_add])) (.one (rv.mono (g1.trans (Ext.new g2 hp).s1)))⟩⟩
 stop:=fun Hs1 H1 g1 g2=>⟨vs,SqL.of (g2 _ _ (g1 _ _ h)),by rw [r.length,GF];exact Nat.le_refl _⟩
def VX (a:MA):MA:=fun ε=>(a ε).bind fun xs=>match xs with
 | [.lst ys]=>some (zy 0 ys)
 | _=>none
instance {K:Fg}{ta:TA}{a:MA}[sa:xC ta a]:zv (Wp K ta) (VX a) where
 h:=fun e _ _ _ _ _ rs _ q=>by
  obtain ⟨xs,ex,e1⟩:=bind_some e
  split at e1
  ·cases e1
   refine sa.h ex rs fun vs Hs1 H1 x1 r1=>?_
   obtain ⟨v,r,rfl,p1,p2⟩:=reps_cons.mp r1
   cases reps_nil.mp p2
   obtain ⟨p,ws,rfl,hp,rw⟩:=rep_lst.mp p1
   exact ⟨p,rfl,⟨ws,SqL.of (x1.s3 _ _ hp)⟩,q _ _ _ x1 (MI hp rw)⟩
  ·cases e1
def xW:List PV->List PV->List PV
 | x::xs,y::ys=> .tup [x,y]::xW xs ys
 | _,_=>[]
theorem PF:∀ {xs ys:List PV} {i:Nat} {z:PV},(xW xs ys)[i]?=some z->∃ x y,xs[i]?=some x/\ys[i]?=some y/\z = .tup [x,y]
 | [],_,i,z,h=>by simp [xW] at h
 | _::_,[],i,z,h=>by simp [xW] at h
 | x::xs,y::ys,0,z,h=>by simp [xW] at h;exact ⟨x,y,rfl,rfl,h.symm⟩
 | x::xs,y::ys,i + 1,z,h=>by
  obtain ⟨u,v,h1,h2,h3⟩:=PF (xs:=xs) (ys:=ys) (i:=i) (z:=z) (by simpa [xW] using h)
  exact ⟨u,v,by simpa using h1,by simpa using h2,h3⟩
theorem PH:∀ {xs ys:List PV},(xW xs ys).length=min xs.length ys.length
 | [],_=>by simp [xW]
 | _::_,[]=>by simp [xW]
 | x::xs,y::ys=>by simp [xW,PH,Nat.succ_min_succ]
theorem MO {K:Fg}{a b:Addr}{xs ys:List PV}{vs ws:List V}{Hs:Hp}(h:Hs a=some (.lst vs))(r:Reps Hs xs vs)(h':Hs b=some (.lst ws))(r':Reps Hs ys ws):jW (Itz K a b) (xW xs ys) Hs where
 go:=fun i x Hs1 H1 e g1 g2=>by
  obtain ⟨y,z,ey,ez,rfl⟩:=PF e
  obtain ⟨v,ev,rv⟩:=r.get ey
  obtain ⟨w,ew,rw⟩:=r'.get ez
  have q1:SqL K H1 a vs:=SqL.of (g2 _ _ (g1 _ _ h))
  have q2:SqL K H1 b ws:=SqL.of (g2 _ _ (g1 _ _ h'))
  refine ⟨⟨vs,ws,v,w,q1,q2,ev,ew⟩,fun u H2 z=>?_⟩
  obtain ⟨p,v',w',hp,rfl,rfl,hv,hw⟩:=z
  have e1:=hv vs q1
  have e2:=hw ws q2
  rw [ev] at e1
  rw [ew] at e2
  cases e1
  cases e2
  have g3:=g1.trans (Ext.new (o:= .tup [v,w]) g2 hp).s1
  exact ⟨_,.new g2 hp,rep_tup.mpr ⟨p,_,rfl,g0,.cons (rv.mono g3) (.one (rw.mono g3))⟩⟩
 stop:=fun Hs1 H1 g1 g2=>⟨vs,ws,SqL.of (g2 _ _ (g1 _ _ h)),SqL.of (g2 _ _ (g1 _ _ h')),by rw [r.length,r'.length,PH];omega⟩
def dZip (a:MA):MA:=fun ε=>(a ε).bind fun xs=>match xs with
 | [.lst ys,.lst zs]=>some (xW ys zs)
 | _=>none
instance {K:Fg}{ta:TA}{a:MA}[sa:xC ta a]:zv (iZip K ta) (dZip a) where
 h:=fun e _ _ _ _ _ rs _ q=>by
  obtain ⟨xs,ex,e1⟩:=bind_some e
  split at e1
  ·cases e1
   refine sa.h ex rs fun vs Hs1 H1 x1 r1=>?_
   obtain ⟨v,r,rfl,p1,p2⟩:=reps_cons.mp r1
   obtain ⟨v',r',rfl,p3,p4⟩:=reps_cons.mp p2
   cases reps_nil.mp p4
   obtain ⟨p,ws,rfl,hp,rw1⟩:=rep_lst.mp p1
   obtain ⟨p',ws',rfl,hp',rw2⟩:=rep_lst.mp p3
   exact ⟨p,p',rfl,⟨ws,SqL.of (x1.s3 _ _ hp)⟩,⟨ws',SqL.of (x1.s3 _ _ hp')⟩,q _ _ _ x1 (MO hp rw1 hp' rw2)⟩
  ·cases e1
end Mi
namespace Mi
open PySem L2
structure RD (S:List Addr)(Hs0 H0 Hs H:Hp)(σ:St)(ε:ME):Prop where
 s1:Same Hs0 Hs
 s2:∀ b o,H0 b=some o->b ∉ S->H b=some o
 s3:Same Hs H
 s4:∀ b,H0 b ≠ none->Hs0 b=none->Hs b=none
 sh:∀ (i:Nat) (x:PV),ε[i]?=some (.sh x)->∃ v,σ[i]?=some (some v)/\Rep Hs x v
 ow:∀ (i:Nat) (x:PV),ε[i]?=some (.ow x)->∃ a,σ[i]?=some (some (.ref a))/\(H0 a=none ∨ a ∈ S)/\Hs a=none/\Top Hs H a x
 nd:∀ (i j:Nat) (x y:PV) (a:Addr),ε[i]?=some (.ow x)->ε[j]?=some (.ow y)->σ[i]?=some (some (.ref a))->σ[j]?=some (some (.ref a))->i=j
 len:σ.length=ε.length
 pin:∀ a ∈ S,σ[0]?=some (some (.ref a))
 live:∀ a ∈ S,H a ≠ none
 str:∀ a ∈ S,∃ y,ε[0]?=some (.ow y)
 nb:∀ (i:Nat) (x:PV),ε[i]? ≠ some (.bo x)
section
variable {S:List Addr}{Hs0 H0 Hs H Hs' H':Hp}{σ:St}{ε:ME}
theorem RD.rs (r:RD S Hs0 H0 Hs H σ ε):RS Hs Hs Hs H σ ε where
 ext:=⟨.refl _,r.s3,r.s3,fun _ h z=>absurd z h⟩
 sh:=r.sh
 ow:=fun i x h=>by obtain ⟨a,h1,_,h3,h4⟩:=r.ow i x h;exact ⟨a,h1,h3,h3,h4⟩
 nd:=r.nd
 len:=r.len
 bo:=fun i x h=>absurd h (r.nb i x)
theorem RD.there (r:RD S Hs0 H0 Hs H σ ε){b:Addr}(h:H0 b ≠ none):H b ≠ none:=by
 by_cases hS:b ∈ S
 ·exact r.live b hS
 ·cases q:H0 b with
  | none=>exact absurd q h
  | some o=>rw [r.s2 b o q hS];exact fun z=>nomatch z
theorem RD.go (r:RD S Hs0 H0 Hs H σ ε)(e:Ext Hs H Hs' H'):RD S Hs0 H0 Hs' H' σ ε where
 s1:=r.s1.trans e.s1
 s2:=fun b o h n=>e.s2 _ _ (r.s2 b o h n)
 s3:=e.s3
 s4:=fun b h z=>e.s4 b (r.there h) (r.s4 b h z)
 sh:=fun i x q=>by obtain ⟨v,a,b⟩:=r.sh i x q;exact ⟨v,a,b.mono e.s1⟩
 ow:=fun i x q=>by
  obtain ⟨a,b,n0,n,t⟩:=r.ow i x q
  exact ⟨a,b,n0,e.s4 a t.there n,t.mono e.s1 fun o z=>e.s2 _ _ z⟩
 nd:=r.nd
 len:=r.len
 pin:=r.pin
 live:=fun a h=>By e.s2 (r.live a h)
 str:=r.str
 nb:=r.nb
theorem RD.change (r:RD S Hs0 H0 Hs H σ ε){i:Nat}{x y:PV}{a:Addr}{o:HO}(hi:ε[i]?=some (.ow x))(ha:σ[i]?=some (some (.ref a)))(t:Top Hs (j9 H a o) a y):RD S Hs0 H0 Hs (j9 H a o) σ (ε.set i (.ow y)):=by
 obtain ⟨b,hb,n0,n,tx⟩:=r.ow i x hi
 rw [ha] at hb
 injection hb with hb;injection hb with hb;injection hb with hb
 subst hb
 have q:=(r.rs).change hi ha t
 refine ⟨r.s1,fun b u e hS=>?_,fun b u e=>?_,r.s4,q.sh,fun j z hz=>?_,q.nd,q.len,r.pin,fun b hS=>?_,fun b hS=>?_,Qd r.nb fun _ z=>nomatch z⟩
 ·have hne:b ≠ a:=fun z=>by
   rcases n0 with n0 | n0
   ·rw [z,n0] at e;cases e
   ·exact hS (z ▸ n0)
  rw [v6 hne];exact r.s2 b u e hS
 ·rw [v6 (n5 e n)];exact r.s3 _ _ e
 ·obtain ⟨c,hc,m1,m2,tc⟩:=q.ow j z hz
  refine ⟨c,hc,?_,m2,tc⟩
  rw [List.getElem?_set] at hz
  split at hz
  ·rename_i hij
   rw [<- hij,ha] at hc
   injection hc with hc;injection hc with hc;injection hc with hc
   rw [<- hc];exact n0
  ·obtain ⟨d,hd,m0,_⟩:=r.ow j z hz
   rw [hd] at hc
   injection hc with hc;injection hc with hc;injection hc with hc
   rw [<- hc];exact m0
 ·by_cases hba:b=a
  ·rw [hba,g0];exact fun z=>nomatch z
  ·rw [v6 hba];exact r.live b hS
 ·obtain ⟨y',hy⟩:=r.str b hS
  rw [List.getElem?_set]
  split
  ·rename_i h0
   rw [if_pos (by rw [h0];exact (List.getElem?_eq_some_iff.mp hy).1)]
   exact ⟨y,rfl⟩
  ·exact ⟨y',hy⟩
theorem RD.put (r:RD S Hs0 H0 Hs H σ ε){i:Nat}{x:PV}{v:V}(h:Rep Hs x v):RD S Hs0 H0 Hs H (σ.set (i + 1) (some v)) (ε.set (i + 1) (.sh x)):=by
 have q:=(r.rs).put (i:=i + 1) h
 refine ⟨r.s1,r.s2,r.s3,r.s4,q.sh,fun j z hz=>?_,q.nd,q.len,fun a hS=>by rw [List.getElem?_set_ne (by omega)];exact r.pin a hS,r.live,fun a hS=>by rw [List.getElem?_set_ne (by omega)];exact r.str a hS,Qd r.nb fun _ z=>nomatch z⟩
 obtain ⟨c,hc,m1,m2,tc⟩:=q.ow j z hz
 refine ⟨c,hc,?_,m2,tc⟩
 rw [List.getElem?_set] at hz hc
 split at hz
 ·split at hz <;> cases hz
 ·rename_i hij
  rw [if_neg hij] at hc
  obtain ⟨d,hd,m0,_⟩:=r.ow j z hz
  rw [hd] at hc
  injection hc with hc;injection hc with hc;injection hc with hc
  rw [<- hc];exact m0
theorem RD.putO (r:RD S Hs0 H0 Hs H σ ε){i:Nat}{x:PV}{a:Addr}(h0:H0 a=none ∨ a ∈ S)(h1:Hs a=none)(h2:Top Hs H a x)(ne:∀ (j:Nat) (y:PV),ε[j]?=some (.ow y)->σ[j]? ≠ some (some (.ref a))):RD S Hs0 H0 Hs H (σ.set (i + 1) (some (.ref a))) (ε.set (i + 1) (.ow x)):=by
 have q:=(r.rs).putO (i:=i + 1) ⟨h1,h1,h2⟩ ne
 refine ⟨r.s1,r.s2,r.s3,r.s4,q.sh,fun j z hz=>?_,q.nd,q.len,fun a hS=>by rw [List.getElem?_set_ne (by omega)];exact r.pin a hS,r.live,fun a hS=>by rw [List.getElem?_set_ne (by omega)];exact r.str a hS,Qd r.nb fun _ z=>nomatch z⟩
 obtain ⟨c,hc,m1,m2,tc⟩:=q.ow j z hz
 refine ⟨c,hc,?_,m2,tc⟩
 rw [List.getElem?_set] at hz hc
 split at hz
 ·rename_i hij
  rw [if_pos hij] at hc
  split at hc
  ·injection hc with hc;injection hc with hc;injection hc with hc
   rw [<- hc];exact h0
  ·cases hc
 ·rename_i hij
  rw [if_neg hij] at hc
  obtain ⟨d,hd,m0,_⟩:=r.ow j z hz
  rw [hd] at hc
  injection hc with hc;injection hc with hc;injection hc with hc
  rw [<- hc];exact m0
theorem RD.free0 (r:RD S Hs0 H0 Hs H σ ε){a:Addr}(h:H a=none):H0 a=none:=by
 cases q:H0 a with
 | none=>rfl
 | some o=>exact absurd h (r.there (by rw [q];exact fun z=>nomatch z))
theorem RD.freeze (r:RD S Hs0 H0 Hs H σ ε)(i:Nat):∃ Hs',Same Hs Hs'/\RD S Hs0 H0 Hs' H σ (fz (i + 1) ε):=by
 by_cases h:∃ x,ε[i + 1]?=some (.ow x)
 ·obtain ⟨x,hi⟩:=h
  obtain ⟨a,ha,n0,n,t⟩:=r.ow (i + 1) x hi
  have hS:a ∉ S:=fun hS=>by
   obtain ⟨y,hy⟩:=r.str a hS
   exact absurd (r.nd 0 (i + 1) y x a hy hi (r.pin a hS) ha) (by omega)
  obtain ⟨o,ho,hr⟩:=t.rep n
  have g:Same Hs (j9 Hs a o):=fun b u e=>by rw [v6 (n5 e n)];exact e
  have ef:fz (i + 1) ε=ε.set (i + 1) (.sh x):=by unfold fz;rw [hi]
  have n0':H0 a=none:=n0.resolve_right hS
  rw [ef]
  have dn:∀ (j:Nat) (y:PV),(ε.set (i + 1) (.sh x))[j]?=some (.ow y)->i + 1 ≠ j/\ε[j]?=some (.ow y):=fun j y q=>by
   rw [List.getElem?_set] at q
   split at q
   ·split at q <;> cases q
   ·rename_i hij;exact ⟨hij,q⟩
  refine ⟨j9 Hs a o,g,r.s1.trans g,r.s2,fun b u e=>?_,fun b h z=>?_,fun j y q=>?_,fun j y q=>?_,fun j k z z' c h1 h2 h3 h4=>r.nd j k z z' c (dn j z h1).2 (dn k z' h2).2 h3 h4,by rw [List.length_set,r.len],r.pin,r.live,(fun b hb=>by rw [List.getElem?_set_ne (by omega)];exact r.str b hb),Qd r.nb fun _ z=>nomatch z⟩
  ·by_cases hb:b=a
   ·subst hb;rw [g0] at e;cases e;exact ho
   ·rw [v6 hb] at e;exact r.s3 _ _ e
  ·have hb:b ≠ a:=fun e=>h (e ▸ n0')
   rw [v6 hb];exact r.s4 b h z
  ·rw [List.getElem?_set] at q
   split at q
   ·rename_i hij
    split at q
    ·injection q with q;injection q with q;subst q
     exact ⟨.ref a,hij ▸ ha,hr⟩
    ·cases q
   ·obtain ⟨v,e,w⟩:=r.sh j y q
    exact ⟨v,e,w.mono g⟩
  ·obtain ⟨hij,hq⟩:=dn j y q
   obtain ⟨c,hc,m0,m,tc⟩:=r.ow j y hq
   have hne:c ≠ a:=fun e=>hij (r.nd (i + 1) j x y a hi hq ha (e ▸ hc))
   exact ⟨c,hc,m0,by rw [v6 hne];exact m,tc.mono g fun _ e=>e⟩
 ·refine ⟨Hs,.refl _,?_⟩
  unfold fz
  split
  ·rename_i x hx;exact absurd ⟨x,hx⟩ h
  ·exact r
end
abbrev W:=ME->(PV->ME->Prop)->Prop
abbrev WA:=ME->(List PV->ME->Prop)->Prop
abbrev WT:=ME->(Bool->ME->Prop)->Prop
abbrev WS:=ME->(ME->Prop)->(PV->ME->Prop)->Prop
class SemW (te:TE)(w:W):Prop where
 h:∀ {ε Q'},w ε Q'->∀ {S Hs0 H0 Hs H σ},RD S Hs0 H0 Hs H σ ε->∀ {Q:VK},(∀ y ε' v Hs' H',Q' y ε'->RD S Hs0 H0 Hs' H' σ ε'->Same Hs Hs'->Rep Hs' y v->Q v H')->te σ H Q
class vI (ta:TA)(w:WA):Prop where
 h:∀ {ε Q'},w ε Q'->∀ {S Hs0 H0 Hs H σ},RD S Hs0 H0 Hs H σ ε->∀ {Q:List V->Hp->Prop},(∀ ys ε' vs Hs' H',Q' ys ε'->RD S Hs0 H0 Hs' H' σ ε'->Same Hs Hs'->Reps Hs' ys vs->Q vs H')->ta σ H Q
class jA (tt:TT)(w:WT):Prop where
 h:∀ {ε Q'},w ε Q'->∀ {S Hs0 H0 Hs H σ},RD S Hs0 H0 Hs H σ ε->∀ {Q:Bool->Hp->Prop},(∀ b ε' Hs' H',Q' b ε'->RD S Hs0 H0 Hs' H' σ ε'->Same Hs Hs'->Q b H')->tt σ H Q
class SemWS (ts:TS)(w:WS):Prop where
 h:∀ {ε N R},w ε N R->∀ {S Hs0 H0 Hs H σ},RD S Hs0 H0 Hs H σ ε->∀ {D:qL},(∀ ε' σ' Hs' H',N ε'->RD S Hs0 H0 Hs' H' σ' ε'->Same Hs Hs'->D.nx σ' H') ->
  (∀ y ε' σ' v Hs' H',R y ε'->RD S Hs0 H0 Hs' H' σ' ε'->Same Hs Hs'->Rep Hs' y v->D.rt v H')->ts D σ H
def wP (f:M):W:=fun ε Q=>∃ y,f ε=some y/\Q y ε
def wPT (f:MB):WT:=fun ε Q=>∃ y,f ε=some y/\Q y ε
instance (priority:=50){te:TE}{f:M}[s:SemE te f]:SemW te (wP f) where
 h:=fun ⟨y,e,q⟩ _ _ _ _ _ _ r _ k=>s.h e r.rs fun v Hs' H' x rv=>k y _ v Hs' H' q (r.go x) x.s1 rv
instance (priority:=50){tt:TT}{f:MB}[s:qT tt f]:jA tt (wPT f) where
 h:=fun ⟨y,e,q⟩ _ _ _ _ _ _ r _ k=>s.h e r.rs fun Hs' H' x=>k y _ Hs' H' q (r.go x) x.s1
def qD (g:PV->PV->Option PV)(a b:W):W:=fun ε Q=>a ε fun x ε1=>b ε1 fun y ε2=>∃ z,g x y=some z/\Q z ε2
instance {r:R2}{g:PV->PV->Option PV}{ta tb:TE}{a b:W}[sr:SemR r g][sa:SemW ta a][sb:SemW tb b]:SemW (tOp r ta tb) (qD g a b) where
 h:=fun h _ _ _ _ _ _ rd _ k=>sa.h h rd fun x ε1 v Hs1 H1 h1 rd1 g1 r1=>sb.h h1 rd1 fun y ε2 w Hs2 H2 h2 rd2 g2 r2=>by
  obtain ⟨z,ez,h2⟩:=h2
  exact sr.h ez rd2.s3 (.inl (r1.mono g2)) (.inl r2) fun u Hs3 H3 x3 r3=>k z ε2 u Hs3 H3 h2 (rd2.go x3) (g1.trans (g2.trans x3.s1)) r3
def wT (a:W):WT:=fun ε Q=>a ε fun x ε1=>∃ b,pB x=some b/\Q b ε1
instance {te:TE}{a:W}[sa:SemW te a]:jA (Vt te) (wT a) where
 h:=fun h _ _ _ _ _ _ rd _ k=>sa.h h rd fun x ε1 v Hs1 H1 h1 rd1 g1 r1=>by
  obtain ⟨b,eb,h2⟩:=h1
  cases wd eb
  exact ⟨b,rep_at.mp r1,k b ε1 Hs1 H1 h2 rd1 g1⟩
def wAnd (a b:WT):WT:=fun ε Q=>a ε fun c ε1=>if c=true then b ε1 Q else Q false ε1
instance {t u:TT}{a b:WT}[sa:jA t a][sb:jA u b]:jA (tAnd t u) (wAnd a b) where
 h:=fun h _ _ _ _ _ _ rd _ k=>sa.h h rd fun c ε1 Hs1 H1 h1 rd1 g1=>by
  cases c with
  | true=>exact qz (sb.h (by simpa using h1) rd1 fun c2 ε2 Hs2 H2 h2 rd2 g2=>k c2 ε2 Hs2 H2 h2 rd2 (g1.trans g2))
  | false=>exact o8 (k false ε1 Hs1 H1 (by simpa using h1) rd1 g1)
def jt:WA:=fun ε Q=>Q [] ε
def xz (a:W)(r:WA):WA:=fun ε Q=>a ε fun x ε1=>r ε1 fun xs ε2=>Q (x::xs) ε2
instance:vI xt jt where
 h:=fun h _ _ _ _ _ _ rd _ k=>k [] _ [] _ _ h rd (.refl _) .nil
instance {te:TE}{ta:TA}{a:W}{r:WA}[sa:SemW te a][sr:vI ta r]:vI (xc te ta) (xz a r) where
 h:=fun h _ _ _ _ _ _ rd _ k=>sa.h h rd fun x ε1 v Hs1 H1 h1 rd1 g1 r1=>sr.h h1 rd1 fun xs ε2 vs Hs2 H2 h2 rd2 g2 r2=>k _ ε2 _ Hs2 H2 h2 rd2 (g1.trans g2) (.cons (r1.mono g2) r2)
def wTup (a:WA):W:=fun ε Q=>a ε fun xs ε1=>xs.length<=lim/\Q (.tup xs) ε1
instance {ta:TA}{a:WA}[sa:vI ta a]:SemW (tTup ta) (wTup a) where
 h:=fun h _ _ _ _ _ _ rd _ k=>sa.h h rd fun xs ε1 vs Hs1 H1 h1 rd1 g1 r1=>⟨zb (r1.length ▸ h1.1),fun p hp=>k _ ε1 _ _ _ h1.2 (rd1.go (.new rd1.s3 hp)) (g1.trans (Ext.new rd1.s3 hp).s1) (rep_tup.mpr ⟨p,vs,rfl,g0,r1.mono (Ext.new rd1.s3 hp).s1⟩)⟩
def vC:Sp:=fun vs H Q _=>∃ (a:Addr) (n m:Int),vs=[.ref a,.int m]/\H a=some (.lst [.int n])/\Zf n m/\Q (.int (n % m)) (j9 H a (.lst [.int (n / m)]))
def m7 (n:Int):MSlot:= .ow (.lst [.at (.int n)])
def wTake (i:Nat)(a:W):W:=fun ε Q=>a ε fun x ε1=>∃ n k,x = .at (.int k)/\ε1[i]?=some (m7 n)/\Zf n k/\Q (.at (.int (n % k))) (ε1.set i (m7 (n / k)))
theorem RD.strm_at {S:List Addr}{Hs0 H0 Hs H:Hp}{σ:St}{ε:ME}{i:Nat}{n:Int}(r:RD S Hs0 H0 Hs H σ ε)(h:ε[i]?=some (m7 n)):∃ a,σ[i]?=some (some (.ref a))/\H a=some (.lst [.int n])/\Hs a=none/\(H0 a=none ∨ a ∈ S):=by
 obtain ⟨a,ha,n0,n1,vs,hv,rv⟩:=r.ow i _ h
 obtain ⟨v,w,rfl,p1,p2⟩:=reps_cons.mp rv
 cases reps_nil.mp p2
 cases rep_at.mp p1
 exact ⟨a,ha,hv,n1,n0⟩
def zZ (i:Nat):ME->Prop:=fun ε=>∃ n,ε[i]?=some (m7 n)
def o5 (i:Nat)(a:W):W:=fun ε Q=>zZ i ε/\wTake i a ε Q
instance {i:Nat}{te:TE}{a:W}{E:XK}[sa:SemW te a]:SemW (xy vC [] E (xc (xI i) (xc te xt))) (o5 i a) where
 h:=fun h _ _ _ _ _ _ rd _ k=>by
  obtain ⟨⟨n0,hn0⟩,h⟩:=h
  obtain ⟨p,hp,_⟩:=rd.strm_at hn0
  refine ⟨_,hp,sa.h h rd fun x ε1 v Hs1 H1 h1 rd1 g1 r1=>?_⟩
  obtain ⟨n,m,rfl,hn,hc,h2⟩:=h1
  obtain ⟨p',hp',hH,hs,_⟩:=rd1.strm_at hn
  rw [hp] at hp'
  injection hp' with hp';injection hp' with hp';injection hp' with hp'
  subst hp'
  cases rep_at.mp r1
  exact ⟨p,n,m,rfl,hH,hc,k _ _ _ _ _ h2 (rd1.change hn hp ⟨_,g0,.one (rep_at.mpr rfl)⟩) g1 (rep_at.mpr rfl)⟩
end Mi
namespace Mi
open PySem L2
structure ExtD (p:Addr)(Hs H Hs' H':Hp):Prop where
 s1:Same Hs Hs'
 s2:∀ b o,H b=some o->b ≠ p->H' b=some o
 s3:Same Hs' H'
 s4:∀ b,H b ≠ none->Hs b=none->Hs' b=none
def spD (pre:List PV->Prop)(R:List PV->PV->Prop):Sp:=fun vs H Q _=>∃ Hs a n xs ws,vs = .ref a::ws/\Same Hs H/\Hs a=none/\H a=some (.lst [.int n])/\Reps Hs xs ws/\pre xs /\
 ∀ y v n' Hs' H',R xs y->ExtD a Hs H Hs' H'->Hs' a=none->H' a=some (.lst [.int n'])->Rep Hs' y v->Q v H'
section
variable {S:List Addr}{Hs0 H0 Hs H Hs' H':Hp}{σ:St}{ε:ME}
theorem RD.drawn (r:RD S Hs0 H0 Hs H σ ε){i:Nat}{n n':Int}{p:Addr}(hi:ε[i]?=some (m7 n))(hp:σ[i]?=some (some (.ref p)))(x:ExtD p Hs H Hs' H')(np:Hs' p=none)(ep:H' p=some (.lst [.int n'])) :
  RD S Hs0 H0 Hs' H' σ (ε.set i (m7 n')):=by
 obtain ⟨p',hp',hH,hs,h0⟩:=r.strm_at hi
 rw [hp] at hp'
 injection hp' with hp';injection hp' with hp';injection hp' with hp'
 subst hp'
 have up:∀ (j:Nat) (z:PV),(ε.set i (m7 n'))[j]?=some (.ow z)->(j=i/\z = .lst [.at (.int n')]) ∨ (j ≠ i/\ε[j]?=some (.ow z)):=fun j z q=>by
  rw [List.getElem?_set] at q
  split at q
  ·rename_i hij
   split at q
   ·injection q with q
    unfold m7 at q
    injection q with q
    exact .inl ⟨hij.symm,q.symm⟩
   ·cases q
  ·rename_i hij;exact .inr ⟨Ne.symm hij,q⟩
 have wasOw:∀ (j:Nat) (z:PV),(ε.set i (m7 n'))[j]?=some (.ow z)->∃ z',ε[j]?=some (.ow z'):=fun j z q=>by
  rcases up j z q with ⟨rfl,_⟩ | ⟨_,q⟩
  ·exact ⟨_,hi⟩
  ·exact ⟨z,q⟩
 refine ⟨r.s1.trans x.s1,fun b o e hS=>x.s2 b o (r.s2 b o e hS) fun z=>?_,x.s3,fun b h z=>x.s4 b (r.there h) (r.s4 b h z),fun j z q=>?_,fun j z q=>?_,fun j k z z' c h1 h2 h3 h4=>?_,by rw [List.length_set,r.len],r.pin,fun b hS=>?_,fun b hS=>?_,Qd r.nb fun _ z=>by unfold m7 at z;cases z⟩
 ·rcases h0 with h0 | h0
  ·rw [z,h0] at e;cases e
  ·exact hS (z ▸ h0)
 ·rw [List.getElem?_set] at q
  split at q
  ·split at q
   ·unfold m7 at q;cases q
   ·cases q
  ·obtain ⟨v,h1,h2⟩:=r.sh j z q
   exact ⟨v,h1,h2.mono x.s1⟩
 ·rcases up j z q with ⟨rfl,rfl⟩ | ⟨hij,q⟩
  ·exact ⟨p,hp,h0,np,_,ep,.one (rep_at.mpr rfl)⟩
  ·obtain ⟨c,hc,m0,m1,tc⟩:=r.ow j z q
   have hne:c ≠ p:=fun e=>hij (r.nd j i z _ p q hi (e ▸ hc) hp)
   exact ⟨c,hc,m0,x.s4 c tc.there m1,tc.mono x.s1 fun o e=>x.s2 c o e hne⟩
 ·obtain ⟨w1,q1⟩:=wasOw j z h1
  obtain ⟨w2,q2⟩:=wasOw k z' h2
  exact r.nd j k w1 w2 c q1 q2 h3 h4
 ·by_cases hb:b=p
  ·rw [hb,ep];exact fun z=>nomatch z
  ·have:=r.live b hS
   cases q:H b with
   | none=>exact absurd q this
   | some o=>rw [x.s2 b o q hb];exact fun z=>nomatch z
 ·obtain ⟨y',hy⟩:=r.str b hS
  rw [List.getElem?_set]
  split
  ·rename_i h0
   rw [if_pos (by rw [h0];exact (List.getElem?_eq_some_iff.mp hy).1)]
   exact ⟨_,rfl⟩
  ·exact ⟨y',hy⟩
end
def XY (i:Nat)(pre:List PV->Prop)(R:List PV->PV->Prop)(as:WA):W:=fun ε Q=>zZ i ε/\as ε fun xs ε1=>zZ i ε1/\pre xs/\∀ y n',R xs y->Q y (ε1.set i (m7 n'))
instance {i:Nat}{pre:List PV->Prop}{R:List PV->PV->Prop}{ta:TA}{as:WA}{E:XK}[sa:vI ta as]:SemW (xy (spD pre R) [] E (xc (xI i) ta)) (XY i pre R as) where
 h:=fun h _ _ _ _ _ _ rd _ k=>by
  obtain ⟨⟨n0,hn0⟩,h⟩:=h
  obtain ⟨p,hp,_⟩:=rd.strm_at hn0
  refine ⟨_,hp,sa.h h rd fun xs ε1 vs Hs1 H1 h1 rd1 g1 r1=>?_⟩
  obtain ⟨⟨n,hn⟩,hpre,h2⟩:=h1
  obtain ⟨p',hp',hH,hs,_⟩:=rd1.strm_at hn
  rw [hp] at hp'
  injection hp' with hp';injection hp' with hp';injection hp' with hp'
  subst hp'
  refine ⟨Hs1,p,n,xs,vs,by rw [List.append_nil],rd1.s3,hs,hH,r1,hpre,fun y v n' Hs' H' hR x np ep rv=>?_⟩
  exact k y _ v Hs' H' (h2 y n' hR) (rd1.drawn hn hp x np ep) (g1.trans x.s1) rv
def xU:WS:=fun ε N _=>N ε
def wSeq (a b:WS):WS:=fun ε N R=>a ε (fun ε1=>b ε1 N R) R
def qr (i:Nat)(a:W):WS:=fun ε N _=>a ε fun x ε1=>N (ε1.set i (.sh x))
def Za (i:Nat)(f:M):WS:=fun ε N _=>∃ x,f ε=some x/\N (ε.set i (.ow x))
def xA (a:W):WS:=fun ε _ R=>a ε R
def Pi (a:W):WS:=fun ε N _=>a ε fun _ ε1=>N ε1
def xJ (c:WT)(a b:WS):WS:=fun ε N R=>c ε fun k ε1=>if k=true then a ε1 N R else b ε1 N R
def wFz (i:Nat)(a:WS):WS:=fun ε N R=>a (fz i ε) N R
def XX (i:Nat)(a:W):WS:=fun ε N _=>(∃ xs,ε[i]?=some (.ow (.lst xs)))/\a ε fun x ε1=>∃ xs,ε1[i]?=some (.ow (.lst xs))/\xs.length<=lim/\N (ε1.set i (.ow (.lst (xs++[x]))))
instance:SemWS Vs xU where
 h:=fun h _ _ _ _ _ _ rd _ k _=>k _ _ _ _ h rd (.refl _)
instance {t u:TS}{a b:WS}[sa:SemWS t a][sb:SemWS u b]:SemWS (tSeq t u) (wSeq a b) where
 h:=fun h _ _ _ _ _ _ rd _ k r=>sa.h h rd (fun ε1 σ1 Hs1 H1 h1 rd1 g1=>sb.h h1 rd1 (fun ε2 σ2 Hs2 H2 h2 rd2 g2=>k ε2 σ2 Hs2 H2 h2 rd2 (g1.trans g2)) fun y ε2 σ2 v Hs2 H2 h2 rd2 g2 rv=>r y ε2 σ2 v Hs2 H2 h2 rd2 (g1.trans g2) rv) r
instance {i:Nat}{te:TE}{a:W}[sa:SemW te a]:SemWS (zG te (xN (i + 1))) (qr (i + 1) a) where
 h:=fun h _ _ _ _ _ _ rd _ k _=>sa.h h rd fun x ε1 v Hs1 H1 h1 rd1 g1 r1=>k _ _ _ _ h1 (rd1.put r1) g1
instance {i:Nat}{te:TE}{f:M}[sa:xv te f]:SemWS (zG te (xN (i + 1))) (Za (i + 1) f) where
 h:=fun ⟨x,e,h⟩ _ _ _ _ _ _ rd _ k _=>sa.h e rd.rs fun a Hs1 H1 x1 n n' t=>k _ _ _ _ h ((rd.go x1).putO (.inl (rd.free0 n)) n' t fun j y hj z=>by
  obtain ⟨b,hb,_,_,tb⟩:=rd.ow j y hj
  rw [z] at hb
  injection hb with hb;injection hb with hb;injection hb with hb
  subst hb
  exact tb.there n) x1.s1
instance {te:TE}{a:W}[sa:SemW te a]:SemWS (wy te) (xA a) where
 h:=fun h _ _ _ _ _ _ rd _ _ r=>sa.h h rd fun x ε1 v Hs1 H1 h1 rd1 g1 r1=>r x ε1 _ v Hs1 H1 h1 rd1 g1 r1
instance {te:TE}{a:W}[sa:SemW te a]:SemWS (xT te) (Pi a) where
 h:=fun h _ _ _ _ _ _ rd _ k _=>sa.h h rd fun x ε1 v Hs1 H1 h1 rd1 g1 r1=>k ε1 _ Hs1 H1 h1 rd1 g1
instance {t:TT}{ta tb:TS}{c:WT}{a b:WS}[sc:jA t c][sa:SemWS ta a][sb:SemWS tb b]:SemWS (Qq t ta tb) (xJ c a b) where
 h:=fun h _ _ _ _ _ _ rd _ k r=>sc.h h rd fun c ε1 Hs1 H1 h1 rd1 g1=>by
  cases c with
  | true=>exact qz (sa.h (by simpa using h1) rd1 (fun ε2 σ2 Hs2 H2 h2 rd2 g2=>k ε2 σ2 Hs2 H2 h2 rd2 (g1.trans g2)) fun y ε2 σ2 v Hs2 H2 h2 rd2 g2 rv=>r y ε2 σ2 v Hs2 H2 h2 rd2 (g1.trans g2) rv)
  | false=>exact o8 (sb.h (by simpa using h1) rd1 (fun ε2 σ2 Hs2 H2 h2 rd2 g2=>k ε2 σ2 Hs2 H2 h2 rd2 (g1.trans g2)) fun y ε2 σ2 v Hs2 H2 h2 rd2 g2 rv=>r y ε2 σ2 v Hs2 H2 h2 rd2 (g1.trans g2) rv)
instance {i:Nat}{t:TS}{a:WS}[sa:SemWS t a]:SemWS t (wFz (i + 1) a) where
 h:=fun h _ _ _ _ _ _ rd _ k r=>by
  obtain ⟨Hs',g,rd'⟩:=rd.freeze i
  exact sa.h h rd' (fun ε2 σ2 Hs2 H2 h2 rd2 g2=>k ε2 σ2 Hs2 H2 h2 rd2 (g.trans g2)) fun y ε2 σ2 v Hs2 H2 h2 rd2 g2 rv=>r y ε2 σ2 v Hs2 H2 h2 rd2 (g.trans g2) rv
instance {K:Fg}{i:Nat}{te:TE}{a:W}[sa:SemW te a]:SemWS (xT (tBM K "list" wo (xI i) (xc te xt))) (XX i a) where
 h:=fun h _ _ _ _ _ _ rd _ k _=>by
  obtain ⟨⟨xs0,hx0⟩,h⟩:=h
  obtain ⟨p,hp,n0,n,vs,hv,rv⟩:=rd.ow i _ hx0
  refine ⟨_,hp,.inl ⟨rfl,vs,SqL.of hv⟩,sa.h h rd fun x ε1 v Hs1 H1 h1 rd1 g1 r1=>?_⟩
  obtain ⟨xs,hx,hl,h2⟩:=h1
  obtain ⟨p',hp',_,n1,ws,hw,rw⟩:=rd1.ow i _ hx
  rw [hp] at hp'
  injection hp' with hp';injection hp' with hp';injection hp' with hp'
  subst hp'
  exact ⟨p,ws,v,rfl,rfl,hw,QS (by rw [rw.length];exact hl),k _ _ _ _ h2 (rd1.change hx hp ⟨_,g0,rw.append (.one r1)⟩) g1⟩
def wPop (i:Nat)(a:W):W:=fun ε Q=>(∃ xs,ε[i]?=some (.ow (.lst xs)))/\a ε fun x ε1=>∃ xs k y,ε1[i]?=some (.ow (.lst xs))/\x = .at (.int k)/\0<=k/\k < xs.length/\xs.length<=lim/\xs[k.toNat]?=some y/\Q y (ε1.set i (.ow (.lst (xs.eraseIdx k.toNat))))
theorem Reps.eraseIdx {H:Hp}:∀ (i:Nat) {xs:List PV} {vs:List V},Reps H xs vs->Reps H (xs.eraseIdx i) (vs.eraseIdx i)
 | i,[],vs,h=>by rw [reps_nil.mp h];exact .nil
 | 0,x::xs,vs,h=>by obtain ⟨v,r,rfl,p,q⟩:=reps_cons.mp h;exact q
 | i + 1,x::xs,vs,h=>by obtain ⟨v,r,rfl,p,q⟩:=reps_cons.mp h;exact .cons p (Reps.eraseIdx i q)
instance {K:Fg}{i:Nat}{te:TE}{a:W}[sa:SemW te a]:SemW (tBM K "list" KW (xI i) (xc te xt)) (wPop i a) where
 h:=fun h _ _ _ _ _ _ rd _ k=>by
  obtain ⟨⟨xs0,hx0⟩,h⟩:=h
  obtain ⟨p,hp,n0,n,vs,hv,rv⟩:=rd.ow i _ hx0
  refine ⟨_,hp,.inl ⟨rfl,vs,SqL.of hv⟩,sa.h h rd fun x ε1 v Hs1 H1 h1 rd1 g1 r1=>?_⟩
  obtain ⟨xs,j,y,hx,rfl,j0,j1,hl,hy,h2⟩:=h1
  obtain ⟨p',hp',_,n1,ws,hw,rw⟩:=rd1.ow i _ hx
  rw [hp] at hp'
  injection hp' with hp';injection hp' with hp';injection hp' with hp'
  subst hp'
  cases rep_at.mp r1
  obtain ⟨u,hu,ru⟩:=rw.get hy
  have hlim:lim=1000000:=rfl
  refine ⟨p,ws,j,j.toNat,u,rfl,rfl,hw,by omega,by omega,?_,hu,k _ _ _ _ _ h2 (rd1.change hx hp ⟨_,g0,rw.eraseIdx j.toNat⟩) g1 ru⟩
  unfold seqIndex?
  have e1:(if j < 0 then j + (ws.length:Int) else j)=j:=if_neg (by omega)
  simp only [e1]
  rw [if_pos]
  rw [rw.length]
  simp only [Bool.and_eq_true,decide_eq_true_eq]
  exact ⟨j0,j1⟩
class SemWI (ti:TI)(w:WA):Prop where
 h:∀ {ε Q'},w ε Q'->∀ {S Hs0 H0 Hs H σ},RD S Hs0 H0 Hs H σ ε->∀ {R:It->Hp->Prop},(∀ xs ε' J Hs' H',Q' xs ε'->RD S Hs0 H0 Hs' H' σ ε'->Same Hs Hs'->jW J xs Hs'->R J H')->ti σ H R
def wIp (f:MA):WA:=fun ε Q=>∃ xs,f ε=some xs/\Q xs ε
instance (priority:=50){ti:TI}{f:MA}[s:zv ti f]:SemWI ti (wIp f) where
 h:=fun ⟨xs,e,q⟩ _ _ _ _ _ _ r _ k=>s.h e r.rs fun J Hs' H' x ok=>k xs _ J Hs' H' q (r.go x) x.s1 ok
def Yx (a:W):WA:=fun ε Q=>a ε fun x ε1=>∃ j:Int,x = .at (.int j)/\-(lim:Int)<=j/\j<=lim/\Q (xn 0 j.toNat) ε1
instance {te:TE}{a:W}[sa:SemW te a]:SemWI (Wq (xc te xt)) (Yx a) where
 h:=fun h _ _ _ _ _ _ rd _ k=>sa.h h rd fun x ε1 v Hs1 H1 h1 rd1 g1 r1=>by
  obtain ⟨j,rfl,h2,h3,h4⟩:=h1
  cases rep_at.mp r1
  have hlim:(lim:Int)=1000000:=rfl
  exact ⟨j,rfl,by omega,by omega,k _ ε1 _ Hs1 H1 h4 rd1 g1 GW⟩
class SemWG (tg:TG)(g:MG):Prop where
 h:∀ {x ε ε'},g x ε=some ε'->∀ {S Hs0 H0 Hs H σ v},RD S Hs0 H0 Hs H σ ε->Rep Hs x v->∀ {Q:St->Hp->Prop},(∀ σ',RD S Hs0 H0 Hs H σ' ε'->Q σ' H)->tg v σ H Q
instance {i:Nat}:SemWG (xN (i + 1)) (v8 (i + 1)) where
 h:=fun e _ _ _ _ _ _ _ rd r _ q=>by cases e;exact q _ (rd.put r)
def XZ (g:MG)(f:WS):List PV->WS
 | []=>fun ε N _=>N ε
 | x::xs=>fun ε N R=>∃ ε1,g x ε=some ε1/\f ε1 (fun ε2=>XZ g f xs ε2 N R) R
def wFor (it:WA)(g:MG)(f:WS):WS:=fun ε N R=>it ε fun xs ε1=>XZ g f xs ε1 N R
theorem RD.rebase {S:List Addr}{Hs0 H0 Hs H:Hp}{σ:St}{ε:ME}(r:RD S Hs0 H0 Hs H σ ε):RD S Hs H0 Hs H σ ε :=
 ⟨.refl _,r.s2,r.s3,fun _ _ z=>z,r.sh,r.ow,r.nd,r.len,r.pin,r.live,r.str,r.nb⟩
theorem RD.unbase {S:List Addr}{Hs0 H0 Hb Hx Hs H:Hp}{σ σ':St}{ε ε':ME}(b:RD S Hs0 H0 Hb Hx σ ε)(r:RD S Hb H0 Hs H σ' ε'):RD S Hs0 H0 Hs H σ' ε' :=
 ⟨b.s1.trans r.s1,r.s2,r.s3,fun c h z=>r.s4 c h (b.s4 c h z),r.sh,r.ow,r.nd,r.len,r.pin,r.live,r.str,r.nb⟩
instance {wi:TI}{tg:TG}{tb:TS}{it:WA}{g:MG}{f:WS}[si:SemWI wi it][sg:SemWG tg g][sf:SemWS tb f]:SemWS (tFor wi tg tb) (wFor it g f) where
 h:=fun {ε N R} h S Hs0 H0 _ _ _ rd D k rt=>si.h h rd fun xs ε1 J Hs1 H1 h1 rd1 g1 ok=>by
  refine ⟨fun n m σ H=>m=xs.length - n/\n<=xs.length/\∃ Hs ε,RD S Hs1 H0 Hs H σ ε/\XZ g f (xs.drop n) ε N R,⟨xs.length,by simp,Nat.zero_le _,Hs1,ε1,rd1.rebase,h1⟩,?_⟩
  rintro n m σ H ⟨rfl,hn,Hs,ε2,r2,h2⟩
  by_cases hlt:n < xs.length
  ·have hd:xs.drop n=xs[n]::xs.drop (n + 1):=List.drop_eq_getElem_cons hlt
   rw [hd] at h2
   obtain ⟨ε3,e3,h3⟩:=h2
   obtain ⟨go,yl⟩:=ok.go n xs[n] Hs H (by simp [hlt]) r2.s1 r2.s3
   refine .inr ⟨go,fun σ' H'=>n + 1<=xs.length/\∃ Hs ε,RD S Hs1 H0 Hs H' σ' ε/\XZ g f (xs.drop (n + 1)) ε N R,fun σ' H' p=>⟨xs.length - (n + 1),by omega,rfl,p.1,p.2⟩,fun v H3 y=>?_⟩
   obtain ⟨Hs3,x3,r3⟩:=yl v H3 y
   refine sg.h e3 (r2.go x3) r3 fun σ4 rd4=>sf.h h3 rd4 (fun ε5 σ5 Hs5 H5 h5 rd5 g5=>⟨hlt,Hs5,ε5,rd5,h5⟩) fun y ε5 σ5 v Hs5 H5 h5 rd5 g5 rv=>rt y ε5 σ5 v Hs5 H5 h5 (rd1.unbase rd5) (g1.trans rd5.s1) rv
  ·have en:n=xs.length:=by omega
   subst en
   rw [List.drop_length] at h2
   exact .inl ⟨ok.stop Hs H r2.s1 r2.s3,k _ _ _ _ h2 (rd1.unbase r2) (g1.trans r2.s1)⟩
end Mi
namespace Mi
open PySem L2
def xf:List (Option Nat)->ME->ME->ME
 | some i::cap,s::ε2,ε1=>(xf cap ε2 ε1).set i s
 | none::cap,_::ε2,ε1=>xf cap ε2 ε1
 | _,_,ε1=>ε1
theorem XU:∀ (cap:List (Option Nat)) (ε2 ε1:ME),(xf cap ε2 ε1).length=ε1.length
 | some i::cap,s::ε2,ε1=>by unfold xf;rw [List.length_set,XU]
 | none::cap,_::ε2,ε1=>by unfold xf;exact XU cap ε2 ε1
 | [],_,_=>rfl
 | some _::_,[],_=>rfl
 | none::_,[],_=>rfl
theorem Ym:∀ (cap:List (Option Nat)) (ε2 ε1:ME) (i:Nat),some i ∉ cap->(xf cap ε2 ε1)[i]?=ε1[i]?
 | some k::cap,s::ε2,ε1,i,h=>by
  unfold xf
  rw [List.getElem?_set_ne (fun z=>h (by rw [z];exact List.mem_cons_self))]
  exact Ym cap ε2 ε1 i fun z=>h (List.mem_cons_of_mem _ z)
 | none::cap,_::ε2,ε1,i,h=>by unfold xf;exact Ym cap ε2 ε1 i fun z=>h (List.mem_cons_of_mem _ z)
 | [],_,_,_,_=>rfl
 | some _::_,[],_,_,_=>rfl
 | none::_,[],_,_,_=>rfl
theorem Yl:∀ (cap:List (Option Nat)) (ε2 ε1:ME) (i:Nat),cap.length=ε2.length->some i ∈ cap->i < ε1.length->(cap.filterMap id).Nodup->∃ j:Nat,cap[j]?=some (some i)/\(xf cap ε2 ε1)[i]?=ε2[j]?
 | some k::cap,s::ε2,ε1,i,hl,h,hi,nd=>by
  rw [List.filterMap_cons_some (by rfl)] at nd
  by_cases e:k=i
  ·subst e
   refine ⟨0,rfl,?_⟩
   unfold xf
   rw [List.getElem?_set_self (by rw [XU];exact hi)]
   rfl
  ·obtain ⟨j,h1,h2⟩:=Yl cap ε2 ε1 i (by simpa using hl) (by rcases List.mem_cons.mp h with z | z;exact absurd (Option.some.inj z).symm e;exact z) hi (List.nodup_cons.mp nd).2
   refine ⟨j + 1,by simpa using h1,?_⟩
   unfold xf
   rw [List.getElem?_set_ne e]
   simpa using h2
 | none::cap,s::ε2,ε1,i,hl,h,hi,nd=>by
  rw [List.filterMap_cons_none (by rfl)] at nd
  obtain ⟨j,h1,h2⟩:=Yl cap ε2 ε1 i (by simpa using hl) (by rcases List.mem_cons.mp h with z | z;exact nomatch z;exact z) hi nd
  exact ⟨j + 1,by simpa using h1,by unfold xf;simpa using h2⟩
 | [],_,_,_,_,h,_,_=>nomatch h
 | some _::_,[],_,_,hl,_,_,_=>by simp at hl
 | none::_,[],_,_,hl,_,_,_=>by simp at hl
def rst:List Nat->ME->ME
 | [],ε=>ε
 | t::ts,ε=>(rst ts ε).set t .no
theorem Bp:∀ (ts:List Nat) (ε:ME),(rst ts ε).length=ε.length
 | [],_=>rfl
 | t::ts,ε=>by unfold rst;rw [List.length_set,Bp]
theorem Bo:∀ (ts:List Nat) (ε:ME) (i:Nat) (s:MSlot),(rst ts ε)[i]?=some s->s = .no ∨ (i ∉ ts/\ε[i]?=some s)
 | [],_,_,_,h=> .inr ⟨List.not_mem_nil,h⟩
 | t::ts,ε,i,s,h=>by
  unfold rst at h
  rw [List.getElem?_set] at h
  split at h
  ·split at h
   ·cases h;exact .inl rfl
   ·cases h
  ·rename_i hne
   rcases Bo ts ε i s h with z | ⟨z1,z2⟩
   ·exact .inl z
   ·exact .inr ⟨fun m=>by rcases List.mem_cons.mp m with m | m;exact hne m.symm;exact z1 m,z2⟩
theorem RD.reset {Hs0 H0 Hs H:Hp}{σ σ':St}{ε:ME}{ts:List Nat}(r:RD [] Hs0 H0 Hs H σ' ε)(b:But ts σ σ'):RD [] Hs0 H0 Hs H σ (rst ts ε):=by
 have at1:∀ (i:Nat) (s:MSlot),(rst ts ε)[i]?=some s->s = .no ∨ (σ'[i]?=σ[i]?/\ε[i]?=some s):=fun i s h=>by
  rcases Bo ts ε i s h with z | ⟨z1,z2⟩
  ·exact .inl z
  ·exact .inr ⟨b.2 i z1,z2⟩
 refine ⟨r.s1,r.s2,r.s3,r.s4,fun i x h=>?_,fun i x h=>?_,fun i j x y a h1 h2 h3 h4=>?_,by rw [Bp,<- r.len,b.1],(fun _ z=>nomatch z),(fun _ z=>nomatch z),(fun _ z=>nomatch z),fun i x h=>by
  rcases at1 i _ h with z | ⟨_,z2⟩
  ·cases z
  ·exact r.nb i x z2⟩
 ·rcases at1 i _ h with z | ⟨z1,z2⟩
  ·cases z
  ·rw [<- z1];exact r.sh i x z2
 ·rcases at1 i _ h with z | ⟨z1,z2⟩
  ·cases z
  ·rw [<- z1];exact r.ow i x z2
 ·rcases at1 i _ h1 with z | ⟨z1,z2⟩
  ·cases z
  ·rcases at1 j _ h2 with w | ⟨w1,w2⟩
   ·cases w
   ·exact r.nd i j x y a z2 w2 (z1.trans h3) (w1.trans h4)
class YH (tg:TG)(ts:outParam (List Nat))(g:MG):Prop where
 h:∀ {x ε ε'},g x ε=some ε'->∀ {Hs0 H0 Hs H σ v},RD [] Hs0 H0 Hs H σ ε->Rep Hs x v->∀ {Q:St->Hp->Prop},(∀ σ',RD [] Hs0 H0 Hs H σ' ε'->But ts σ σ'->Q σ' H)->tg v σ H Q
theorem RD.put0 {Hs0 H0 Hs H:Hp}{σ:St}{ε:ME}(r:RD [] Hs0 H0 Hs H σ ε){i:Nat}{x:PV}{v:V}(h:Rep Hs x v):RD [] Hs0 H0 Hs H (σ.set i (some v)) (ε.set i (.sh x)):=by
 have q:=(r.rs).put (i:=i) h
 refine ⟨r.s1,r.s2,r.s3,r.s4,q.sh,fun j z hz=>?_,q.nd,q.len,(fun _ z=>nomatch z),(fun _ z=>nomatch z),(fun _ z=>nomatch z),Qd r.nb fun _ z=>nomatch z⟩
 obtain ⟨c,hc,m1,m2,tc⟩:=q.ow j z hz
 refine ⟨c,hc,?_,m2,tc⟩
 rw [List.getElem?_set] at hz hc
 split at hz
 ·split at hz <;> cases hz
 ·rename_i hij
  rw [if_neg hij] at hc
  obtain ⟨d,hd,m0,_⟩:=r.ow j z hz
  rw [hd] at hc
  injection hc with hc;injection hc with hc;injection hc with hc
  rw [<- hc];exact m0
instance {i:Nat}:YH (xN i) [i] (v8 i) where
 h:=fun e _ _ _ _ _ _ rd r _ q=>by
  cases e
  exact q _ (rd.put0 r) ⟨List.length_set,fun j hj=>List.getElem?_set_ne fun z=>hj (by rw [<- z];exact List.mem_singleton.mpr rfl)⟩
def vD (g:MG)(c:WT)(f:W)(ts:List Nat):List PV->List PV->ME->(List PV->ME->Prop)->Prop
 | [],ys,ε,Q=>Q ys ε
 | x::xs,ys,ε,Q=>∃ ε1,g x ε=some ε1/\c ε1 fun b ε2=>if b=true then f ε2 fun y ε3=>vD g c f ts xs (ys++[y]) (rst ts ε3) Q else vD g c f ts xs ys (rst ts ε2) Q
def Zb:WT:=fun ε Q=>Q true ε
instance:jA tYes Zb where
 h:=fun h _ _ _ _ _ _ rd _ k=>k true _ _ _ h rd (.refl _)
def VA (cap:List (Option Nat))(ts:List Nat)(it:WA)(g:MG)(c:WT)(f:W):W:=fun ε Q=>it ε fun xs ε1=>jc cap ts=true/\xs.length<=lim /\
 vD g c f ts xs [] (qm cap ε1) fun ys ε2=>((∃ y:PV,ε1[0]?=some (MSlot.ow y))->∃ y:PV,(xf cap ε2 ε1)[0]?=some (MSlot.ow y))/\Q (.lst ys) (xf cap ε2 ε1)
noncomputable def zn (σ:St)(ε:ME)(H:Hp):Hp:=fun b=>open Classical in if ∃ (i:Nat) (x:PV),ε[i]?=some (MSlot.ow x)/\σ[i]?=some (some (V.ref b)) then none else H b
theorem Ww {σ:St}{ε:ME}{H:Hp}{b:Addr}{o:HO}(h:zn σ ε H b=some o):H b=some o/\∀ (i:Nat) (x:PV),ε[i]?=some (MSlot.ow x)->σ[i]? ≠ some (some (V.ref b)):=by
 unfold zn at h
 split at h
 ·cases h
 ·rename_i hn
  exact ⟨h,fun i x h1 h2=>hn ⟨i,x,h1,h2⟩⟩
theorem Kh {σ:St}{ε:ME}{H:Hp}{b:Addr}(h:zn σ ε H b=none):H b=none ∨ ∃ (i:Nat) (x:PV),ε[i]?=some (MSlot.ow x)/\σ[i]?=some (some (V.ref b)):=by
 unfold zn at h
 split at h
 ·rename_i hn;exact .inr hn
 ·exact .inl h
theorem CQ {cap:List (Option Nat)}{ε:ME}(nb:∀ (i:Nat) (x:PV),ε[i]? ≠ some (.bo x)):∀ (i:Nat) (x:PV),(qm cap ε)[i]? ≠ some (.bo x):=fun i x h=>by
 unfold qm at h
 rw [List.getElem?_map] at h
 cases ho:cap[i]? with
 | none=>rw [ho] at h;cases h
 | some o =>
  rw [ho] at h
  cases o with
  | none=>cases h
  | some k =>
   cases hk:ε[k]? with
   | none=>simp only [Option.map_some,hk,Option.getD_none] at h;cases h
   | some s=>simp only [Option.map_some,hk,Option.getD_some] at h;cases h;exact nb k x hk
theorem RD.block {S:List Addr}{Hs0 H0 Hs H:Hp}{σ:St}{ε:ME}{cap:List (Option Nat)}(hc:(cap.filterMap id).Nodup)(r:RD S Hs0 H0 Hs H σ ε):RD [] Hs (zn (r9 cap σ) (qm cap ε) H) Hs H (r9 cap σ) (qm cap ε):=by
 have q:=(r.rs).cap hc
 refine ⟨.refl _,fun b o e _=>(Ww e).1,r.s3,fun _ _ z=>z,q.sh,fun i x h=>?_,q.nd,q.len,(fun _ z=>nomatch z),(fun _ z=>nomatch z),(fun _ z=>nomatch z),CQ r.nb⟩
 obtain ⟨a,h1,h2,h3,h4⟩:=q.ow i x h
 refine ⟨a,h1,.inl ?_,h3,h4⟩
 unfold zn
 rw [if_pos ⟨i,x,h,h1⟩]
theorem jZ {cap:List (Option Nat)}{σ:St}{i k:Nat}{v:V}(h:cap[i]?=some (some k))(e:(r9 cap σ)[i]?=some (some v)):σ[k]?=some (some v):=by
 unfold r9 at e
 rw [List.getElem?_map,h] at e
 simp only [Option.map_some,Option.bind_some,Option.some.injEq] at e
 cases hs:σ[k]? with
 | none=>rw [hs] at e;cases e
 | some o=>rw [hs] at e;simp at e;rw [e]
theorem Gk {cap:List (Option Nat)}{ε:ME}{i:Nat}{x:PV}(h:(qm cap ε)[i]?=some (.ow x)):∃ k:Nat,cap[i]?=some (some k)/\ε[k]?=some (.ow x):=by
 unfold qm at h
 rw [List.getElem?_map] at h
 cases ho:cap[i]? with
 | none=>rw [ho] at h;cases h
 | some o =>
  rw [ho] at h
  cases o with
  | none=>cases h
  | some k =>
   cases hk:ε[k]? with
   | none=>simp only [Option.map_some,hk,Option.getD_none] at h;cases h
   | some s=>simp only [Option.map_some,hk,Option.getD_some] at h;cases h;exact ⟨k,rfl,hk⟩
theorem RD.unblock {S:List Addr}{Hs0 H0 Hs1 H1 Hs2 H2:Hp}{σ:St}{ε1 ε2:ME}{cap:List (Option Nat)}(hc:(cap.filterMap id).Nodup)(r:RD S Hs0 H0 Hs1 H1 σ ε1)
  (q:RD [] Hs1 (zn (r9 cap σ) (qm cap ε1) H1) Hs2 H2 (r9 cap σ) ε2) (st:(∃ y,ε1[0]?=some (.ow y))->∃ y,(xf cap ε2 ε1)[0]?=some (.ow y)):RD S Hs0 H0 Hs2 H2 σ (xf cap ε2 ε1):=by
 have hl:cap.length=ε2.length:=by rw [<- q.len];unfold r9;rw [List.length_map]
 have at1:∀ (i:Nat) (s:MSlot),(xf cap ε2 ε1)[i]?=some s->(some i ∉ cap/\ε1[i]?=some s) ∨ ∃ j:Nat,cap[j]?=some (some i)/\ε2[j]?=some s:=fun i s h=>by
  by_cases hi:some i ∈ cap
  ·have hlt:i < ε1.length:=by
    have:=(List.getElem?_eq_some_iff.mp h).1
    rwa [XU] at this
   obtain ⟨j,h1,h2⟩:=Yl cap ε2 ε1 i hl hi hlt hc
   exact .inr ⟨j,h1,h2 ▸ h⟩
  ·exact .inl ⟨hi,Ym cap ε2 ε1 i hi ▸ h⟩
 have own0:∀ a,zn (r9 cap σ) (qm cap ε1) H1 a=none->H0 a=none ∨ a ∈ S:=fun a h=>by
  rcases Kh h with h | ⟨i,x,h1,h2⟩
  ·exact .inl (r.free0 h)
  ·obtain ⟨k,hk,hx⟩:=Gk h1
   obtain ⟨c,hc',m0,_⟩:=r.ow k x hx
   rw [jZ hk h2] at hc'
   injection hc' with hc';injection hc' with hc';injection hc' with hc'
   rw [hc'];exact m0
 have keep:∀ (k:Nat) (x:PV) (a:Addr),some k ∉ cap->ε1[k]?=some (.ow x)->σ[k]?=some (some (.ref a))->∀ o,H1 a=some o->zn (r9 cap σ) (qm cap ε1) H1 a=some o:=fun k x a hk hx ha o ho=>by
  cases z:zn (r9 cap σ) (qm cap ε1) H1 a with
  | some u=>rw [<- ho,(Ww z).1]
  | none =>
   rcases Kh z with z | ⟨i,y,h1,h2⟩
   ·rw [z] at ho;cases ho
   ·obtain ⟨m,hm,hy⟩:=Gk h1
    have:=r.nd k m x y a hx hy ha (jZ hm h2)
    subst this
    exact absurd (List.mem_of_getElem? hm) hk
 have ow':∀ (i:Nat) (x:PV),(xf cap ε2 ε1)[i]?=some (.ow x)->∃ a,σ[i]?=some (some (.ref a))/\(H0 a=none ∨ a ∈ S)/\Hs2 a=none/\Top Hs2 H2 a x:=fun i x h=>by
  rcases at1 i _ h with ⟨hi,e⟩ | ⟨j,hj,e⟩
  ·obtain ⟨a,ha,m0,m1,t⟩:=r.ow i x e
   refine ⟨a,ha,m0,?_,t.mono q.s1 fun o ho=>q.s2 a o (keep i x a hi e ha o ho) List.not_mem_nil⟩
   cases z:H1 a with
   | none=>exact absurd z t.there
   | some o=>exact q.s4 a (by rw [keep i x a hi e ha o z];exact fun w=>nomatch w) m1
  ·obtain ⟨a,ha,m0,m1,t⟩:=q.ow j x e
   exact ⟨a,jZ hj ha,own0 a (m0.resolve_right List.not_mem_nil),m1,t⟩
 have str':∀ a ∈ S,∃ y,(xf cap ε2 ε1)[0]?=some (.ow y):=fun a hS=>st (r.str a hS)
 refine ⟨r.s1.trans q.s1,fun b o e hS=>?_,q.s3,fun b h z=>?_,fun i x h=>?_,ow',fun i j x y a h1 h2 h3 h4=>?_,by rw [XU];exact r.len,r.pin,fun b hS=>?_,str',fun i x h=>by
  rcases at1 i _ h with ⟨_,e⟩ | ⟨j,_,e⟩
  ·exact r.nb i x e
  ·exact q.nb j x e⟩
 ·have e1:=r.s2 b o e hS
  refine q.s2 b o ?_ List.not_mem_nil
  cases z:zn (r9 cap σ) (qm cap ε1) H1 b with
  | some u=>rw [<- e1,(Ww z).1]
  | none =>
   rcases own0 b z with w | w
   ·rw [w] at e;cases e
   ·exact absurd w hS
 ·have z1:=r.s4 b h z
  by_cases hL:zn (r9 cap σ) (qm cap ε1) H1 b=none
  ·rcases own0 b hL with w | w
   ·exact absurd w h
   ·obtain ⟨y,hy⟩:=str' b w
    obtain ⟨a,ha,_,m1,_⟩:=ow' 0 y hy
    rw [r.pin b w] at ha
    injection ha with ha;injection ha with ha;injection ha with ha
    rw [ha];exact m1
  ·exact q.s4 b hL z1
 ·rcases at1 i _ h with ⟨hi,e⟩ | ⟨j,hj,e⟩
  ·obtain ⟨v,hv,rv⟩:=r.sh i x e
   exact ⟨v,hv,rv.mono q.s1⟩
  ·obtain ⟨v,hv,rv⟩:=q.sh j x e
   exact ⟨v,jZ hj hv,rv⟩
 ·rcases at1 i _ h1 with ⟨hi,e⟩ | ⟨k,hk,e⟩
  ·rcases at1 j _ h2 with ⟨hj,e'⟩ | ⟨l,hl',e'⟩
   ·exact r.nd i j x y a e e' h3 h4
   ·-- one of the block's own,one that it does not see
    obtain ⟨a',ha',m0,_,_⟩:=q.ow l y e'
    have ea:=jZ hl' ha'
    rw [h4] at ea
    injection ea with ea;injection ea with ea;injection ea with ea
    subst ea
    obtain ⟨c,hc1,_,_,t⟩:=r.ow i x e
    rw [h3] at hc1
    injection hc1 with hc1;injection hc1 with hc1;injection hc1 with hc1
    subst hc1
    cases z:H1 a with
    | none=>exact absurd z t.there
    | some o =>
     have w:=keep i x a hi e h3 o z
     rw [m0.resolve_right List.not_mem_nil] at w
     cases w
  ·rcases at1 j _ h2 with ⟨hj,e'⟩ | ⟨l,hl',e'⟩
   ·obtain ⟨a',ha',m0,_,_⟩:=q.ow k x e
    have ea:=jZ hk ha'
    rw [h3] at ea
    injection ea with ea;injection ea with ea;injection ea with ea
    subst ea
    obtain ⟨c,hc1,_,_,t⟩:=r.ow j y e'
    rw [h4] at hc1
    injection hc1 with hc1;injection hc1 with hc1;injection hc1 with hc1
    subst hc1
    cases z:H1 a with
    | none=>exact absurd z t.there
    | some o =>
     have w:=keep j y a hj e' h4 o z
     rw [m0.resolve_right List.not_mem_nil] at w
     cases w
   ·obtain ⟨a1,ha1,_⟩:=q.ow k x e
    obtain ⟨a2,ha2,_⟩:=q.ow l y e'
    have e1:=jZ hk ha1
    have e2:=jZ hl' ha2
    rw [h3] at e1
    rw [h4] at e2
    injection e1 with e1;injection e1 with e1;injection e1 with e1
    injection e2 with e2;injection e2 with e2;injection e2 with e2
    subst e1
    subst e2
    have kl:=q.nd k l x y a e e' ha1 ha2
    subst kl
    rw [hk] at hl'
    injection hl' with hl';injection hl' with hl'
 ·obtain ⟨y,hy⟩:=str' b hS
  obtain ⟨a,ha,_,_,t⟩:=ow' 0 y hy
  rw [r.pin b hS] at ha
  injection ha with ha;injection ha with ha;injection ha with ha
  rw [ha];exact t.there
instance {wi:TI}{tg:TG}{ts:List Nat}{tt:TT}{te:TE}{cap:List (Option Nat)}{it:WA}{g:MG}{c:WT}{f:W}[si:SemWI wi it][sg:YH tg ts g][sc:jA tt c][sf:SemW te f]:SemW (Qp wi tg tt te cap) (VA cap ts it g c f) where
 h:=fun {ε Q'} h S Hs0 H0 Hs H σ rd Q k=>si.h h rd fun xs ε1 J Hs1 H1 h1 rd1 g1 ok=>by
  obtain ⟨hcap,hl,h1⟩:=h1
  unfold jc at hcap
  rw [Bool.and_eq_true] at hcap
  have hnd:=of_decide_eq_true hcap.1
  have wk:∀ i ∈ ts,(r9 cap σ)[i]?=some none:=fun i hi=>by
   unfold r9
   rw [List.getElem?_map,of_decide_eq_true (List.all_eq_true.mp hcap.2 i hi)]
   rfl
  refine ⟨fun n m zs H=>m=xs.length - n/\n<=xs.length/\∃ Hs2 ws ε2,RD [] Hs1 (zn (r9 cap σ) (qm cap ε1) H1) Hs2 H (r9 cap σ) ε2/\Reps Hs2 ws zs/\ws.length<=n /\
    vD g c f ts (xs.drop n) ws ε2 (fun ys ε3=>((∃ y:PV,ε1[0]?=some (MSlot.ow y))->∃ y:PV,(xf cap ε3 ε1)[0]?=some (MSlot.ow y))/\Q' (PV.lst ys) (xf cap ε3 ε1)),
   ⟨xs.length,by simp,Nat.zero_le _,Hs1,[],_,rd1.block hnd,.nil,Nat.le_refl _,h1⟩,?_⟩
  rintro n m zs H2 ⟨rfl,hn,Hs2,ws,ε2,r2,rz,hw,h2⟩
  refine ⟨zb (by rw [rz.length];omega),?_⟩
  by_cases hlt:n < xs.length
  ·have hd:xs.drop n=xs[n]::xs.drop (n + 1):=List.drop_eq_getElem_cons hlt
   rw [hd] at h2
   obtain ⟨ε3,e3,h3⟩:=h2
   obtain ⟨go,yl⟩:=ok.go n xs[n] Hs2 H2 (by simp [hlt]) r2.s1 r2.s3
   refine .inr ⟨go,fun v H3 y=>?_⟩
   obtain ⟨Hs3,x3,r3⟩:=yl v H3 y
   refine sg.h e3 (r2.go x3) r3 fun σ4 rd4 bt=>⟨bt.wk wk,sc.h h3 rd4 fun b ε5 Hs5 H5 h5 rd5 g5=>?_⟩
   cases b with
   | true =>
    refine qz (sf.h (by simpa using h5) rd5 fun y ε6 u Hs6 H6 h6 rd6 g6 ru=>⟨xs.length - (n + 1),by omega,rfl,hlt,Hs6,ws++[y],_,rd6.reset bt,?_,by rw [List.length_append];simp;omega,h6⟩)
    exact (rz.mono (x3.s1.trans (g5.trans g6))).snoc ru
   | false=>exact o8 ⟨xs.length - (n + 1),by omega,rfl,hlt,Hs5,ws,_,rd5.reset bt,rz.mono (x3.s1.trans g5),by omega,by simpa using h5⟩
  ·have en:n=xs.length:=by omega
   subst en
   rw [List.drop_length] at h2
   refine .inl ⟨ok.stop Hs2 H2 r2.s1 r2.s3,fun D hD=>?_⟩
   have rd2:=rd1.unblock hnd r2 h2.1
   exact k _ _ _ _ _ h2.2 (rd2.go (.new rd2.s3 hD)) (g1.trans (r2.s1.trans (Ext.new rd2.s3 hD).s1)) (rep_lst.mpr ⟨D,zs,rfl,g0,rz.mono (Ext.new rd2.s3 hD).s1⟩)
section
variable {P:Program}{w:World}{K:Fg}{mg:Str->Option Value}{base:Heap}
theorem wq {xs:List PV}{n i:Nat}{x:PV}:(xs.map MSlot.sh++List.replicate n .no)[i]? ≠ some (.ow x):=fun h=>by
 by_cases hi:i < xs.length
 ·rw [List.getElem?_append_left (by rw [List.length_map];exact hi),List.getElem?_map] at h
  obtain ⟨y,_,z⟩:=Option.map_eq_some_iff.mp h
  cases z
 ·rw [List.getElem?_append_right (by rw [List.length_map];omega),List.getElem?_replicate] at h
  split at h <;> cases h
theorem WV {xs:List PV}{n i:Nat}{x:PV}:(xs.map MSlot.sh++List.replicate n .no)[i]? ≠ some (.bo x):=fun h=>by
 by_cases hi:i < xs.length
 ·rw [List.getElem?_append_left (by rw [List.length_map];exact hi),List.getElem?_map] at h
  obtain ⟨y,_,z⟩:=Option.map_eq_some_iff.mp h
  cases z
 ·rw [List.getElem?_append_right (by rw [List.length_map];omega),List.getElem?_replicate] at h
  split at h <;> cases h
theorem Rm {N:List Str}{Hs H:Hp}{a:Addr}{n:Int}{xs:List PV}{ws:List V}(s:Same Hs H)(ha:Hs a=none)(hH:H a=some (.lst [.int n]))(r:Reps Hs xs ws) :
  RD [a] Hs H Hs H (L2.start N (.ref a::ws)) (m7 n::xs.map .sh++List.replicate (N.length - (xs.length + 1)) .no):=by
 have q:=wu (N:=N) (xs:= .at (.ref a)::xs) s (.cons (rep_at.mpr rfl) r)
 have tl:∀ (i:Nat) (sl:MSlot),(m7 n::xs.map .sh++List.replicate (N.length - (xs.length + 1)) .no)[i + 1]?=some sl->((PV.at (.ref a)::xs).map MSlot.sh++List.replicate (N.length - (PV.at (.ref a)::xs).length) .no)[i + 1]?=some sl:=fun i sl h=>h
 refine ⟨.refl _,fun b o e _=>e,s,fun _ _ z=>z,fun i x h=>?_,fun i x h=>?_,fun i j x y b h1 h2 _ _=>?_,?_,fun b hb=>?_,fun b hb=>?_,(fun b hb=>⟨_,rfl⟩),fun i x h=>by
  cases i with
  | zero=>unfold m7 at h;simp at h
  | succ i=>exact WV (xs:=PV.at (.ref a)::xs) (tl i _ h)⟩
 ·cases i with
  | zero=>unfold m7 at h;simp at h
  | succ i=>exact q.sh (i + 1) x (tl i _ h)
 ·cases i with
  | zero =>
   unfold m7 at h
   simp at h
   subst h
   refine ⟨a,?_,.inr (List.mem_singleton.mpr rfl),ha,_,hH,.one (rep_at.mpr rfl)⟩
   unfold L2.start
   rfl
  | succ i =>
   obtain ⟨c,h1,_⟩:=q.ow (i + 1) x (tl i _ h)
   exact absurd (tl i _ h) fun z=>by
    have:=wq (i:=i + 1) (x:=x) (xs:=PV.at (.ref a)::xs) (n:=N.length - (PV.at (.ref a)::xs).length)
    exact this z
 ·cases i with
  | zero =>
   cases j with
   | zero=>rfl
   | succ j=>exact absurd (tl j _ h2) (wq (xs:=PV.at (.ref a)::xs))
  | succ i=>exact absurd (tl i _ h1) (wq (xs:=PV.at (.ref a)::xs))
 ·exact q.len
 ·rw [List.mem_singleton.mp hb];unfold L2.start;rfl
 ·rw [List.mem_singleton.mp hb,hH];exact fun z=>nomatch z
theorem okD {x qual:Str}{st:Stmt}{f:Addr}{fd:FuncData}{N ps:List Str}{k:Nat}{b:WS}{pre:List PV->Prop}{R:List PV->PV->Prop}(F:Fun K x qual st f fd)(S:v9 N ps (j5 st))
  (hpre:∀ xs,pre xs->xs.length + 1=ps.length)
  (hb:∀ (cdv:Value) (A:Around) (outer:List Env) (s:Shared) (H:Hp) (E:XK),Room k (A.deeper (PyProof.Rows.envOfC qual (j5 st) s.heap.objs.size f cdv)) ->
   ∃ t,PSs (xh v7 P w K mg base N qual (j5 st) f cdv A outer s H E).nox (qy st) t/\SemWS t b)
  (hw:∀ xs n,pre xs->b (m7 n::xs.map .sh++List.replicate (N.length - (xs.length + 1)) .no) (fun _=>False) fun y ε=>R xs y/\zZ 0 ε):FnOk P w K mg base v7 (k + 1) f fd ps (spD pre R):=by
 refine F.ok S (fun vs H Q E h=>?_) (fun cdv A outer s H vs Q E hr h=>?_)
 ·obtain ⟨Hs,a,n,xs,ws,rfl,_,_,_,r,hp,_⟩:=h
  rw [List.length_cons,r.length]
  exact hpre xs hp
 ·obtain ⟨Hs,a,n,xs,ws,rfl,sm,ha,hH,r,hp,q⟩:=h
  obtain ⟨t,ht,sem⟩:=hb cdv A outer s H E hr
  refine ⟨t,ht,sem.h (hw xs n hp) (Rm sm ha hH r) (fun ε σ Hs' H' z _ _=>z.elim) fun y ε σ v Hs' H' hR rd g rv=>?_⟩
  obtain ⟨hR,n',hn'⟩:=hR
  obtain ⟨a',ha',hH',hs',_⟩:=rd.strm_at hn'
  rw [rd.pin a (List.mem_singleton.mpr rfl)] at ha'
  injection ha' with ha';injection ha' with ha';injection ha' with ha'
  subst ha'
  refine q y v n' Hs' H' hR ⟨g,fun b o e hb=>rd.s2 b o e fun z=>hb (List.mem_singleton.mp z),rd.s3,fun b h z=>rd.s4 b h z⟩ hs' hH' rv
end
end Mi
namespace Mi
open PySem L2
def spN (pre:List PV->Prop)(R:List PV->PV->Prop):Sp:=fun vs H Q _=>∃ Hs xs,Same Hs H/\Reps Hs xs vs/\pre xs/\∀ y a Hs' H',R xs y->Ext Hs H Hs' H'->H a=none->Hs' a=none->Top Hs' H' a y->Q (.ref a) H'
def spV (pre:List PV->Prop)(R:List PV->PV->Prop):Sp:=fun vs H Q _=>∃ Hs xs,Same Hs H/\Reps Hs xs vs/\pre xs/\∀ y v Hs' H',R xs y->Ext Hs H Hs' H'->Rep Hs' y v->Q v H'
def Yy (i:Nat)(pre:List PV->Prop)(R:List PV->PV->Prop)(as:WA):WS:=fun ε N _=>as ε fun xs ε1=>pre xs/\∀ y,R xs y->N (ε1.set i (.ow y))
instance {i:Nat}{pre:List PV->Prop}{R:List PV->PV->Prop}{ta:TA}{as:WA}{E:XK}[sa:vI ta as]:SemWS (zG (xy (spN pre R) [] E ta) (xN (i + 1))) (Yy (i + 1) pre R as) where
 h:=fun h _ _ _ _ _ _ rd _ k _=>sa.h h rd fun xs ε1 vs Hs1 H1 h1 rd1 g1 r1=>by
  refine ⟨Hs1,xs,rd1.s3,by rw [List.append_nil];exact r1,h1.1,fun y a Hs' H' hR x n n' t=>?_⟩
  refine k _ _ _ _ (h1.2 y hR) ((rd1.go x).putO (.inl (rd1.free0 n)) n' t fun j z hj e=>?_) (g1.trans x.s1)
  obtain ⟨b,hb,_,_,tb⟩:=rd1.ow j z hj
  rw [e] at hb
  injection hb with hb;injection hb with hb;injection hb with hb
  subst hb
  exact tb.there n
def Ph (pre:List PV->Prop)(R:List PV->PV->Prop)(as:WA):W:=fun ε Q=>as ε fun xs ε1=>pre xs/\∀ y,R xs y->Q y ε1
instance {pre:List PV->Prop}{R:List PV->PV->Prop}{ta:TA}{as:WA}{E:XK}[sa:vI ta as]:SemW (xy (spV pre R) [] E ta) (Ph pre R as) where
 h:=fun h _ _ _ _ _ _ rd _ k=>sa.h h rd fun xs ε1 vs Hs1 H1 h1 rd1 g1 r1 =>
  ⟨Hs1,xs,rd1.s3,by rw [List.append_nil];exact r1,h1.1,fun y v Hs' H' hR x rv=>k y ε1 v Hs' H' (h1.2 y hR) (rd1.go x) (g1.trans x.s1) rv⟩
def Qr (pre0:List PV->Prop)(R0:List PV->PV->Prop)(a0:MA)(pre:List PV->Prop)(R:List PV->PV->Prop)(as:MA):W:=fun ε Q=>∃ xs0 xs,a0 ε=some xs0/\as ε=some xs/\pre0 xs0/\(∀ y,R0 xs0 y->∃ n,y = .lst [.at (.int n)])/\pre xs/\∀ y,R xs y->Q y ε
instance {pre0:List PV->Prop}{R0:List PV->PV->Prop}{t0:TA}{a0:MA}{pre:List PV->Prop}{R:List PV->PV->Prop}{ta:TA}{as:MA}{E E':XK}[s0:xC t0 a0][sa:xC ta as]:SemW (xy (spD pre R) [] E (xc (xy (spN pre0 R0) [] E' t0) ta)) (Qr pre0 R0 a0 pre R as) where
 h:=fun {ε Q'} hh S Hs0 H0 Hs H σ rd Q k=>by
  obtain ⟨xs0,xs,e0,e1,hp0,hR0,hp,h⟩:=hh
  refine s0.h e0 rd.rs fun vs0 Hs1 H1 x1 r1=>?_
  refine ⟨Hs1,xs0,x1.s3,by rw [List.append_nil];exact r1,hp0,fun y a Hs2 H2 hR x2 n n' t=>?_⟩
  obtain ⟨m,rfl⟩:=hR0 y hR
  have rd2:=(rd.go x1).go x2
  refine sa.h e1 rd2.rs fun vs Hs3 H3 x3 r3=>?_
  obtain ⟨ws,hw,rw⟩:=t
  obtain ⟨v,r,rfl,p1,p2⟩:=reps_cons.mp rw
  cases reps_nil.mp p2
  cases rep_at.mp p1
  have hw3:=x3.s2 _ _ hw
  have n3:Hs3 a=none:=x3.s4 a (by rw [hw];exact fun z=>nomatch z) n'
  refine ⟨Hs3,a,m,xs,vs,by rw [List.append_nil],x3.s3,n3,hw3,r3,hp,fun z u m' Hs' H' hRz xd na ea ru=>?_⟩
  have rd3:=rd2.go x3
  have an:∀ (j:Nat) (y:PV),ε[j]?=some (MSlot.ow y)->σ[j]? ≠ some (some (V.ref a)):=fun j y hj e=>by
   obtain ⟨b,hb,_,_,tb⟩:=(rd.go x1).ow j y hj
   rw [e] at hb
   injection hb with hb;injection hb with hb;injection hb with hb
   subst hb
   exact tb.there n
  have h0a:=(rd.go x1).free0 n
  refine k z _ u Hs' H' (h z hRz) ⟨rd3.s1.trans xd.s1,fun b o e hS=>xd.s2 b o (rd3.s2 b o e hS) (fun w=>by rw [w,h0a] at e;cases e),xd.s3,fun b hb w=>xd.s4 b (rd3.there hb) (rd3.s4 b hb w),fun i x hx=>?_,fun i x hx=>?_,rd3.nd,rd3.len,rd3.pin,fun b hS=>?_,rd3.str,rd3.nb⟩ (x1.s1.trans (x2.s1.trans (x3.s1.trans xd.s1))) ru
  ·obtain ⟨v,hv,rv⟩:=rd3.sh i x hx
   exact ⟨v,hv,rv.mono xd.s1⟩
  ·obtain ⟨b,hb,m0,m1,tb⟩:=rd3.ow i x hx
   have hne:b ≠ a:=fun w=>an i x hx (w ▸ hb)
   exact ⟨b,hb,m0,xd.s4 b tb.there m1,tb.mono xd.s1 fun o ho=>xd.s2 b o ho hne⟩
  ·have hl:=rd3.live b hS
   have hne:b ≠ a:=fun w=>by
    have:=(rd.go x1).live b hS
    rw [w] at this
    exact this n
   cases q:H3 b with
   | none=>exact absurd q hl
   | some o=>rw [xd.s2 b o q hne];exact fun z=>nomatch z
section
variable {P:Program}{w:World}{K:Fg}{mg:Str->Option Value}{base:Heap}
theorem Bf {N:List Str}{Hs H:Hp}{xs:List PV}{vs:List V}(s:Same Hs H)(r:Reps Hs xs vs):RD [] Hs H Hs H (L2.start N vs) (xs.map .sh++List.replicate (N.length - xs.length) .no):=by
 have q:=wu (N:=N) s r
 exact ⟨.refl _,fun b o e _=>e,s,fun _ _ z=>z,q.sh,fun i x h=>absurd h wq,q.nd,q.len,(fun _ z=>nomatch z),(fun _ z=>nomatch z),(fun _ z=>nomatch z),fun _ _=>WV⟩
theorem okV {x qual:Str}{st:Stmt}{f:Addr}{fd:FuncData}{N ps:List Str}{k:Nat}{b:WS}{pre:List PV->Prop}{R:List PV->PV->Prop}(F:Fun K x qual st f fd)(S:v9 N ps (j5 st))
  (hpre:∀ xs,pre xs->xs.length=ps.length)
  (hb:∀ (cdv:Value) (A:Around) (outer:List Env) (s:Shared) (H:Hp) (E:XK),Room k (A.deeper (PyProof.Rows.envOfC qual (j5 st) s.heap.objs.size f cdv)) ->
   ∃ t,PSs (xh v7 P w K mg base N qual (j5 st) f cdv A outer s H E).nox (qy st) t/\SemWS t b)
  (hw:∀ xs,pre xs->b (xs.map .sh++List.replicate (N.length - xs.length) .no) (fun _=>False) fun y _=>R xs y):FnOk P w K mg base v7 (k + 1) f fd ps (spV pre R):=by
 refine F.ok S (fun vs H Q E h=>?_) (fun cdv A outer s H vs Q E hr h=>?_)
 ·obtain ⟨Hs,xs,_,r,hp,_⟩:=h
  rw [r.length]
  exact hpre xs hp
 ·obtain ⟨Hs,xs,sm,r,hp,q⟩:=h
  obtain ⟨t,ht,sem⟩:=hb cdv A outer s H E hr
  refine ⟨t,ht,sem.h (hw xs hp) (Bf sm r) (fun ε σ Hs' H' z _ _=>z.elim) fun y ε σ v Hs' H' hR rd g rv=>?_⟩
  exact q y v Hs' H' hR ⟨g,fun b o e=>rd.s2 b o e List.not_mem_nil,rd.s3,rd.s4⟩ rv
def scr (K:Fg)(ns:List Int):PV:= .op fun H v=>∃ a,v = .ref a/\SqL K H a (ns.map V.int)
theorem Tn {K:Fg}{Hs H:Hp}{ns:List Int}{v:V}(s:Same Hs H)(r:Rep Hs (scr K ns) v):∃ a,v = .ref a/\SqL K H a (ns.map V.int):=by
 obtain ⟨H1,s1,a,rfl,q⟩:=rep_op.mp r
 exact ⟨a,rfl,(s1.trans s).seq q⟩
def XR (K:Fg):Sp:=fun vs H Q _=>∃ (a:Addr) (ns:List Int),vs=[.ref a]/\SqL K H a (ns.map V.int)/\ns.length<=63/\∀ H',Q (.bl true) H'
theorem okL {x qual:Str}{st:Stmt}{f:Addr}{fd:FuncData}{N:List Str}{k:Nat}{b:WS}(F:Fun K x qual st f fd)(S:v9 N ["script"] (j5 st))
  (hb:∀ (cdv:Value) (A:Around) (outer:List Env) (s:Shared) (H:Hp) (E:XK),Room k (A.deeper (PyProof.Rows.envOfC qual (j5 st) s.heap.objs.size f cdv)) ->
   ∃ t,PSs (xh v7 P w K mg base N qual (j5 st) f cdv A outer s H E).nox (qy st) t/\SemWS t b)
  (hw:∀ ns:List Int,ns.length<=63->b (.sh (scr K ns)::List.replicate (N.length - 1) .no) (fun _=>False) fun y _=>y = .at (.bl true)):FnOk P w K mg base v7 (k + 1) f fd ["script"] (XR K):=by
 refine F.ok S (fun vs H Q E h=>?_) (fun cdv A outer s H vs Q E hr h=>?_)
 ·obtain ⟨a,ns,rfl,_⟩:=h
  rfl
 ·obtain ⟨a,ns,rfl,hS,h63,q⟩:=h
  obtain ⟨t,ht,sem⟩:=hb cdv A outer s H E hr
  have r:Reps H [scr K ns] [.ref a]:= .one (rep_op.mpr ⟨H,.refl _,a,rfl,hS⟩)
  refine ⟨t,ht,sem.h (hw ns h63) (Bf (N:=N) (.refl H) r) (fun ε σ Hs' H' z _ _=>z.elim) fun y ε σ v Hs' H' hR rd g rv=>?_⟩
  subst hR
  cases rep_at.mp rv
  exact q H'
end
end Mi
namespace Mi
open PySem L2
variable {fr:Bool}
class Zk (tg:TGs)(g:List PV->ME->Option ME):Prop where
 h:∀ {xs ε ε'},g xs ε=some ε'->∀ {S Hs0 H0 Hs H σ vs},RD S Hs0 H0 Hs H σ ε->Reps Hs xs vs->∀ {Q:St->Hp->Prop},(∀ σ',RD S Hs0 H0 Hs H σ' ε'->Q σ' H)->tg vs σ H Q
instance:Zk gNil zc where
 h:=fun {xs ε ε'} e {_ _ _ _ _ _ _} rs r {_} q=>by
  unfold zc at e
  split at e
  ·cases e;exact ⟨reps_nil.mp r,q _ rs⟩
  ·cases e
instance {t:TG}{u:TGs}{g:MG}{r:List PV->ME->Option ME}[sg:SemWG t g][sr:Zk u r]:Zk (ZA t u) (qi g r) where
 h:=fun {xs ε ε'} e {_ _ _ _ _ _ _} rs rr {_} q=>by
  unfold qi at e
  split at e
  ·obtain ⟨ε1,e1,e2⟩:=bind_some e
   obtain ⟨v,w,rfl,r1,r2⟩:=reps_cons.mp rr
   exact ⟨v,w,rfl,sg.h e1 rs r1 fun σ1 rs1=>sr.h e2 rs1 r2 fun σ2 rs2=>q _ rs2⟩
  ·cases e
instance {K:Fg}{n:Nat}{t:TGs}{g:List PV->ME->Option ME}[sg:Zk t g]:SemWG (gTup K n t) (zd n g) where
 h:=fun {x ε ε'} e {_ _ _ _ _ _ _} rs rr {_} q=>by
  unfold zd at e
  split at e
  ·split at e
   ·rename_i hl
    obtain ⟨a,vs,rfl,h,r⟩:=rep_tup.mp rr
    exact ⟨a,vs,rfl,SqT.of (rs.s3 _ _ h),by rw [r.length];exact hl,sg.h e rs r fun σ' rs'=>q _ rs'⟩
   ·cases e
  ·cases e
end Mi
namespace Mi
open PySem L2
class xu (w:W):Prop where
 h:∀ {ε:ME} {P P':PV->ME->Prop},(∀ y e,P y e->P' y e)->w ε P->w ε P'
class Zh (w:WA):Prop where
 h:∀ {ε:ME} {P P':List PV->ME->Prop},(∀ y e,P y e->P' y e)->w ε P->w ε P'
class vF (w:WT):Prop where
 h:∀ {ε:ME} {P P':Bool->ME->Prop},(∀ y e,P y e->P' y e)->w ε P->w ε P'
class jx (w:WS):Prop where
 h:∀ {ε:ME} {N N':ME->Prop} {R R':PV->ME->Prop},(∀ e,N e->N' e)->(∀ y e,R y e->R' y e)->w ε N R->w ε N' R'
instance {f:M}:xu (wP f) where h:=fun k ⟨y,e,q⟩=>⟨y,e,k _ _ q⟩
instance {f:MB}:vF (wPT f) where h:=fun k ⟨y,e,q⟩=>⟨y,e,k _ _ q⟩
instance {g:PV->PV->Option PV}{a b:W}[A:xu a][B:xu b]:xu (qD g a b) where h:=fun k h=>A.h (fun _ _ h1=>B.h (fun _ _ ⟨z,e,q⟩=>⟨z,e,k _ _ q⟩) h1) h
instance:vF Zb where h:=fun k h=>k _ _ h
theorem ZE {c:Bool}{A B A' B':Prop}(h1:A->A')(h2:B->B')(h:if c=true then A else B):if c=true then A' else B':=by
 cases c with
 | true=>exact qz (h1 (by simpa using h))
 | false=>exact o8 (h2 (by simpa using h))
instance:Zh jt where h:=fun k h=>k _ _ h
instance {i:Nat}{a:W}[A:xu a]:xu (o5 i a) where h:=fun k h=>⟨h.1,A.h (fun _ _ ⟨n,m,e1,e2,e3,q⟩=>⟨n,m,e1,e2,e3,k _ _ q⟩) h.2⟩
instance {i:Nat}{pre:List PV->Prop}{R:List PV->PV->Prop}{a:WA}[A:Zh a]:xu (XY i pre R a) where h:=fun k h=>⟨h.1,A.h (fun _ _ ⟨h1,h2,h3⟩=>⟨h1,h2,fun y n r=>k _ _ (h3 y n r)⟩) h.2⟩
instance {pre0:List PV->Prop}{R0:List PV->PV->Prop}{a0:MA}{pre:List PV->Prop}{R:List PV->PV->Prop}{as:MA}:xu (Qr pre0 R0 a0 pre R as) where
 h:=fun k ⟨xs0,xs,e0,e1,h1,h2,h3,h4⟩=>⟨xs0,xs,e0,e1,h1,h2,h3,fun y r=>k _ _ (h4 y r)⟩
instance {i:Nat}{a:W}[A:xu a]:xu (wPop i a) where h:=fun k h=>⟨h.1,A.h (fun _ _ ⟨xs,j,y,e1,e2,e3,e4,e5,e6,q⟩=>⟨xs,j,y,e1,e2,e3,e4,e5,e6,k _ _ q⟩) h.2⟩
instance {f:MA}:Zh (wIp f) where h:=fun k ⟨y,e,q⟩=>⟨y,e,k _ _ q⟩
theorem Yw {g:MG}{c:WT}{f:W}{ts:List Nat}[C:vF c][F:xu f]{Q Q':List PV->ME->Prop}(k:∀ y e,Q y e->Q' y e):∀ (xs ys:List PV) (ε:ME),vD g c f ts xs ys ε Q->vD g c f ts xs ys ε Q'
 | [],ys,ε,h=>k _ _ h
 | x::xs,ys,ε,h=>by
  obtain ⟨ε1,e1,h1⟩:=h
  exact ⟨ε1,e1,C.h (fun b ε2 h2=>ZE (fun h3=>F.h (fun y ε3 h4=>Yw k xs _ _ h4) h3) (fun h3=>Yw k xs _ _ h3) h2) h1⟩
instance {cap:List (Option Nat)}{ts:List Nat}{it:WA}{g:MG}{c:WT}{f:W}[I:Zh it][C:vF c][F:xu f]:xu (VA cap ts it g c f) where
 h:=fun k h=>I.h (fun _ _ ⟨h1,h2,h3⟩=>⟨h1,h2,Yw (fun _ _ ⟨q1,q2⟩=>⟨q1,k _ _ q2⟩) _ _ _ h3⟩) h
instance:jx xU where h:=fun k _ h=>k _ h
instance {i:Nat}{a:W}[A:xu a]:jx (qr i a) where h:=fun k _ h=>A.h (fun _ _ h1=>k _ h1) h
instance {a:W}[A:xu a]:jx (xA a) where h:=fun _ r h=>A.h r h
instance {c:WT}{a b:WS}[C:vF c][A:jx a][B:jx b]:jx (xJ c a b) where h:=fun k r h=>C.h (fun _ _ h1=>ZE (fun h2=>A.h k r h2) (fun h2=>B.h k r h2) h1) h
instance {i:Nat}{a:W}[A:xu a]:jx (XX i a) where h:=fun k _ h=>⟨h.1,A.h (fun _ _ ⟨xs,e1,e2,q⟩=>⟨xs,e1,e2,k _ q⟩) h.2⟩
theorem VS {g:MG}{c:WT}{f:W}{ts:List Nat}{Q:List PV->ME->Prop}[C:vF c][F:xu f](I:List PV->List PV->ME->Prop)(hd:∀ ys ε,I [] ys ε->Q ys ε)
  (hs:∀ x xs ys ε,I (x::xs) ys ε->∃ ε1,g x ε=some ε1/\c ε1 fun b ε2=>if b=true then f ε2 fun y ε3=>I xs (ys++[y]) (rst ts ε3) else I xs ys (rst ts ε2)) :
  ∀ (xs ys:List PV) (ε:ME),I xs ys ε->vD g c f ts xs ys ε Q
 | [],ys,ε,h=>hd ys ε h
 | x::xs,ys,ε,h=>by
  obtain ⟨ε1,e1,h1⟩:=hs x xs ys ε h
  exact ⟨ε1,e1,C.h (fun b ε2 h2=>ZE (fun h3=>F.h (fun y ε3 h4=>VS I hd hs xs _ _ h4) h3) (fun h3=>VS I hd hs xs _ _ h3) h2) h1⟩
theorem Gu {g:MG}{f:W}{ts:List Nat}{Q:List PV->ME->Prop}[F:xu f](I:List PV->List PV->ME->Prop)(hd:∀ ys ε,I [] ys ε->Q ys ε)
  (hs:∀ x xs ys ε,I (x::xs) ys ε->∃ ε1,g x ε=some ε1/\f ε1 fun y ε3=>I xs (ys++[y]) (rst ts ε3)) (xs ys:List PV) (ε:ME) (h:I xs ys ε):vD g Zb f ts xs ys ε Q :=
 VS I hd (fun x xs ys ε h=>by
  obtain ⟨ε1,e,q⟩:=hs x xs ys ε h
  refine ⟨ε1,e,?_⟩
  show if true=true then (f ε1 fun y ε3=>I xs (ys++[y]) (rst ts ε3)) else I xs ys (rst ts ε1)
  rw [if_pos rfl]
  exact q) xs ys ε h
theorem ZJ {g:MG}{f:WS}{N:ME->Prop}{R:PV->ME->Prop}[F:jx f](I:List PV->ME->Prop)(hd:∀ ε,I [] ε->N ε)(hs:∀ x xs ε,I (x::xs) ε->∃ ε1,g x ε=some ε1/\f ε1 (fun ε2=>I xs ε2) R) :
  ∀ (xs:List PV) (ε:ME),I xs ε->XZ g f xs ε N R
 | [],ε,h=>hd ε h
 | x::xs,ε,h=>by
  obtain ⟨ε1,e1,h1⟩:=hs x xs ε h
  exact ⟨ε1,e1,F.h (fun ε2 h2=>ZJ I hd hs xs ε2 h2) (fun _ _ z=>z) h1⟩
end Mi
namespace Mi
open PySem L2
section
variable {ε ε1:ME}{a b:MS}{f g:M}{x y z:PV}{i:Nat}{o:Option Out}
theorem u5 (h:a ε=some (.nx ε1))(k:b ε1=o):u3 a b ε=o:=by unfold u3;rw [h];exact k
theorem Wh (h:a ε=some (.rt y)):u3 a b ε=some (.rt y):=by unfold u3;rw [h];rfl
theorem qg (h:f ε=some x):m6 i f ε=some (.nx (ε.set i (.sh x))):=by unfold m6;rw [h];rfl
theorem GL (h:f ε=some x):QH i f ε=some (.nx (ε.set i (.ow x))):=by unfold QH;rw [h];rfl
theorem p9 (h:f ε=some x):y9 f ε=some (.rt x):=by unfold y9;rw [h];rfl
theorem w6 {G:PV->PV->Option PV}{r:Option PV}(h1:f ε=some x)(h2:g ε=some y)(h:G x y=r):z6 G f g ε=r:=by unfold z6;rw [h1];show Option.bind (g ε) _=_;rw [h2];exact h
theorem j4 {m:List PV->Option PV}{as:MA}{xs:List PV}{r:Option PV}(h1:as ε=some xs)(h:m xs=r):z5 m as ε=r:=by unfold z5;rw [h1];exact h
theorem v5 {r:MA}{xs:List PV}(h1:f ε=some x)(h2:r ε=some xs):q9 f r ε=some (x::xs):=by unfold q9;rw [h1];show Option.bind (r ε) _=_;rw [h2];rfl
theorem vf {c:MB}(h:c ε=some true)(k:a ε=o):i9 c a b ε=o:=by unfold i9;rw [h];exact k
theorem m4 {c:MB}(h:c ε=some false)(k:b ε=o):i9 c a b ε=o:=by unfold i9;rw [h];exact k
theorem Zw {it:MA}{G:MG}{xs:List PV}(h:it ε=some xs)(k:zM G a xs ε=o):vN it G a ε=o:=by unfold vN;rw [h];exact k
theorem Wi {l u:ME->Option (Option Int)}{xs:List PV}{lo hi:Option Int}(h1:f ε=some (.lst xs))(h2:l ε=some lo)(h3:u ε=some hi):wM f l u ε=some (.lst (jf xs lo hi)):=by
 unfold wM;rw [h1];show Option.bind (l ε) _=_;rw [h2];show Option.bind (u ε) _=_;rw [h3];rfl
theorem xE {as:MA}{xs:List PV}(h:as ε=some xs)(hl:xs.length<=lim):i8 as ε=some (.lst xs):=by unfold i8;rw [h];show (if _ then _ else _)=_;rw [if_pos hl]
theorem vS {as:MA}{xs:List PV}(h:as ε=some xs)(hl:xs.length<=lim):xD as ε=some (.tup xs):=by unfold xD;rw [h];show (if _ then _ else _)=_;rw [if_pos hl]
theorem Wd {cap:List (Option Nat)}{ts:List Nat}{it:MA}{G:MG}{c:MB}{xs ys:List PV}(h:it ε=some xs)(hc:jc cap ts=true)(hl:xs.length<=lim)(k:qM G c f (qm cap ε) xs=some ys):t6 cap ts it G c f ε=some (.lst ys):=by
 unfold t6;rw [h];show (if _ then _ else _)=_;rw [if_pos ⟨hc,hl⟩,k];rfl
end
theorem Xs {xs ys:List PV}(h:xs.length + ys.length<=lim):qa (.lst xs) (.lst ys)=some (.lst (xs++ys)):=by show (if _ then _ else _)=_;rw [if_pos h]
theorem wO {n k:Nat}{b:MS}{xs:List PV}{y:PV}(hl:xs.length=k)(h:b (xs.map .sh++List.replicate (n - k) .no)=some (.rt y)):zL n k b xs=some y:=by unfold zL;rw [if_pos hl,h];rfl
theorem qO {n k:Nat}{b:MS}{xs:List PV}{y:PV}(hl:xs.length=k)(h:b (xs.map .sh++List.replicate (n - k) .no)=some (.rt y)):i6 n k b xs=some y:=by unfold i6;rw [if_pos hl,h];rfl
theorem WO {f:PV->PV->Option Bool}:∀ {xs:List PV},(∀ x ∈ xs,f x x=some true)->zU f xs xs=some true
 | [],_=>rfl
 | x::xs,h=>by unfold zU;rw [h x List.mem_cons_self];show Option.bind (zU f xs xs) _=_;rw [WO fun y hy=>h y (List.mem_cons_of_mem _ hy)];rfl
def jq:Nat->PV->Prop
 | _,.at u=>p0 u=true
 | n + 1,.lst xs=>∀ x ∈ xs,jq n x
 | n + 1,.tup xs=>∀ x ∈ xs,jq n x
 | _,_=>False
theorem Jc:∀ (n:Nat) {x:PV},jq n x->peq n x x=some true
 | 0,x,h=>by
  cases x with
  | «at» u=>show (if _ then _ else _)=_;rw [if_pos ⟨h,h⟩,Zv h]
  | _=>exact h.elim
 | n + 1,x,h=>by
  cases x with
  | «at» u=>show (if _ then _ else _)=_;rw [if_pos ⟨(show p0 u=true from h),h⟩,Zv h]
  | lst xs=>show (if _ then _ else _)=_;rw [if_pos rfl];exact WO fun y hy=>Jc n (h y hy)
  | tup xs=>show Option.bind (zU (peq n) xs xs) _=_;rw [WO fun y hy=>Jc n (h y hy)];show some (true && (xs.length == xs.length))=_;rw [beq_self_eq_true];rfl
  | _=>exact h.elim
theorem Kv {x:PV}(h:jq 6 x):qd x x=some (.at (.bl true)):=by unfold qd;rw [Jc 6 h];rfl
theorem WG {x:PV}(h:jq 6 x):qX x x=some (.at (.bl false)):=by unfold qX;rw [Jc 6 h];rfl
end Mi
namespace Mi
open PySem L2
class zk (K:Fg)(C:Addr):Prop where
 c:Cls K C
class ql (K:Fg)(C:Addr)(f:Str):Prop where
 n:NoAttr K C f
def wX (f:Str):List Str->List PV->Option PV
 | n::ns,x::xs=>if f=n then some x else wX f ns xs
 | _,_=>none
theorem Ki {H:Hp}{f:Str}{y:PV}:∀ {fs:List (Str × V)} {xs:List PV},Reps H xs (fs.map (·.2))->wX f (fs.map (·.1)) xs=some y->∃ v,fs.lookup f=some v/\Rep H y v
 | [],xs,r,h=>by cases xs <;> cases h
 | p::fs,xs,r,h=>by
  cases xs with
  | nil=>cases h
  | cons x xs =>
   obtain ⟨v,w,e,p1,p2⟩:=reps_cons.mp r
   rw [List.map_cons] at e
   injection e with e1 e2
   subst e1 e2
   rw [List.map_cons] at h
   unfold wX at h
   rw [List.lookup_cons]
   split at h
   ·rename_i hf
    cases h
    rw [hf,beq_self_eq_true]
    exact ⟨p.2,rfl,p1⟩
   ·rename_i hf
    rw [beq_eq_false_iff_ne.mpr hf]
    exact Ki p2 h
def qU (C:Addr)(f:Str)(a:M):M:=fun ε=>(a ε).bind fun x=>match x with
 | .ob C' ns xs=>if C'=C then wX f ns xs else none
 | _=>none
theorem De {C:Addr}{f:Str}{a:M}{ε:ME}{y:PV}(h:qU C f a ε=some y):∃ ns xs,a ε=some (.ob C ns xs)/\wX f ns xs=some y:=by
 unfold qU at h
 obtain ⟨x,ex,h1⟩:=bind_some h
 split at h1
 ·split at h1
  ·rename_i hc
   subst hc
   exact ⟨_,_,ex,h1⟩
  ·cases h1
 ·cases h1
instance {K:Fg}{C:Addr}{f:Str}{te:TE}{a:M}[c:zk K C][n:ql K C f][s:qj te a]:SemE (tFld K te f) (qU C f a) where
 h:=fun e _ _ _ _ _ rs _ q=>by
  obtain ⟨ns,xs,ea,el⟩:=De e
  refine s.h ea rs fun v Hs1 H1 x1 r1=>?_
  obtain ⟨p,dx,fs,rfl,hp,hk,hr⟩:=Bk x1.s3 r1
  rw [<- hk] at el
  obtain ⟨u,hu,ru⟩:=Ki hr el
  exact ⟨p,C,dx,fs,u,rfl,hp,c.c,n.n,hu,q u _ _ x1 ru⟩
theorem xS {X:Cx}{K:Fg}{e:Expr}{f:Str}{ta:TE}{pos:Pos}(hK:X.K=K)(he:PE X e ta)(hb:attributeBase e f X.env (eval e X.env)=eval e X.env:=by rfl):PE X (.Attribute e f pos) (tFld K ta f):=by
 subst hK;exact Hr he hb
structure Mt (P:Program)(w:World)(K:Fg)(mg:Str->Option Value)(base:Heap)(k:Nat)(C:Addr)(m:Str)(ps:List Str)(sp:Sp):Prop where
 ex:∃ f fd,FnOk P w K mg base v7 k f fd ps sp/\wE K C m f/\Cls K C/\Binds K fd ps []
section
variable {X:Cx}{k j:Nat}{C:Addr}{m:Str}{ps:List Str}{sp:Sp}{o e:Expr}{es:List Expr}{ta:TE}{t:TA}{apos pos:Pos}
theorem wj {pl:Sem Bool}(c:Mt X.prog X.w X.K X.mg X.base k C m ps sp)(hr:Room j X.A)(hj:k<=j)(ho:PE X o ta)(ha:PA X (e::es) t)
  (hst:starEach (e::es) X.env=(false,eval e X.env)::starEach es X.env:=by rfl) (hpl:(backTo pos (starEach es X.env)).any (·.1)=false:=by rfl)
  (ht:eval (.Call (.Attribute o m apos) (e::es) [] pos) X.env=(do
   let ov <- eval o X.env
   standAt apos.atName
   let (f,first) <- holding [ov] (getMethod ov m pl)
   callWith pos f first (backTo pos (starEach (e::es) X.env)) (backToKw pos (keywordEach [] X.env))):=by rfl) :
  PE X (.Call (.Attribute o m apos) (e::es) [] pos) (js C m sp [] E0 ta t):=by
 obtain ⟨f,fd,F,hm,hc,hb⟩:=c.ex
 exact Kz ho hc hm F (hr.mono hj) hb .nil Ja ha hst hpl ht
theorem Qh {pl:Sem Bool}(c:Mt X.prog X.w X.K X.mg X.base k C m ps sp)(hr:Room j X.A)(hj:k<=j)(ho:PE X o ta)
  (ht:eval (.Call (.Attribute o m apos) [] [] pos) X.env=(do
   let ov <- eval o X.env
   standAt apos.atName
   let (f,first) <- holding [ov] (getMethod ov m pl)
   callWith pos f first (backTo pos (starEach [] X.env)) (backToKw pos (keywordEach [] X.env))):=by rfl) :
  PE X (.Call (.Attribute o m apos) [] [] pos) (js C m sp [] E0 ta xt):=by
 obtain ⟨f,fd,F,hm,hc,hb⟩:=c.ex
 exact Hv ho hc hm F (hr.mono hj) hb .nil Ja ht
end
end Mi
namespace Mi
open PySem L2
variable {fr:Bool}
def zP:PV->Option z8
 | .at (.int i)=>some (.inl i)
 | .at (.str x)=>some (.inr x)
 | _=>none
theorem vg {Hs H:Hp}{x:PV}{v:V}{k:z8}(r:RepB Hs H x v)(h:zP x=some k):v=kV k:=by
 unfold zP at h
 split at h
 ·cases h;cases u8 r;rfl
 ·cases h;cases u8 r;rfl
 ·cases h
def xi (k:z8):List z8->List PV->Option PV
 | n::ns,x::xs=>if n=k then some x else xi k ns xs
 | _,_=>none
theorem ZH {H:Hp}{k:z8}:∀ {kvs:List (z8 × V)} {xs:List PV},Reps H xs (kvs.map (·.2))->match xi k (kvs.map (·.1)) xs with
  | some y=>∃ v,qC kvs k=some v/\Rep H y v
  | none=>qC kvs k=none
 | [],xs,r=>by
  have hx:xs=[]:=List.length_eq_zero_iff.mp r.length.symm
  subst hx
  rfl
 | p::kvs,xs,r=>by
  cases xs with
  | nil=>have:=r.length;simp at this
  | cons x xs =>
   obtain ⟨v,w,e,p1,p2⟩:=reps_cons.mp r
   rw [List.map_cons] at e
   injection e with e1 e2
   subst e1 e2
   rw [List.map_cons]
   unfold xi
   by_cases hk:p.1=k
   ·rw [if_pos hk]
    refine ⟨p.2,?_,p1⟩
    unfold qC
    rw [List.find?_cons,decide_eq_true hk]
    rfl
   ·rw [if_neg hk]
    have ih:=ZH (k:=k) p2
    have ev:qC (p::kvs) k=qC kvs k:=by
     unfold qC
     rw [List.find?_cons,decide_eq_false hk]
    rw [ev]
    exact ih
def vL (a b:M):M:=fun ε=>(a ε).bind fun x=>(b ε).bind fun y=>(zP y).bind fun k=>match x with
 | .dk ks xs=>xi k ks xs
 | .fk ks xs=>xi k ks xs
 | _=>none
instance {td ty:TE}{a b:M}[sa:qj td a][sb:qj ty b]:SemE (BI td ty) (vL a b) where
 h:=fun e _ _ _ _ _ rs _ q=>by
  obtain ⟨x,ex,e1⟩:=bind_some e
  obtain ⟨y,ey,e2⟩:=bind_some e1
  obtain ⟨k,ek,e3⟩:=bind_some e2
  split at e3
  ·refine sa.h ex rs fun v Hs1 H1 x1 r1=>sb.h ey (rs.go x1) fun w Hs2 H2 x2 r2=>?_
   obtain ⟨p,kvs,rfl,hp,hk,hr⟩:=vz x2.s3 (r1.ext x2)
   have l:=ZH (k:=k) hr
   rw [hk,e3] at l
   obtain ⟨u,hu,ru⟩:=l
   have ew:=vg r2 ek
   subst ew
   exact ⟨p,u,rfl,by rw [<- hu];exact DGet.k hp,q u _ _ (x1.trans x2) ru⟩
  ·refine sa.h ex rs fun v Hs1 H1 x1 r1=>sb.h ey (rs.go x1) fun w Hs2 H2 x2 r2=>?_
   obtain ⟨p,o,kvs,rfl,hp,hk,hr⟩:=XG x2.s3 (r1.ext x2)
   have l:=ZH (k:=k) hr
   rw [hk,e3] at l
   obtain ⟨u,hu,ru⟩:=l
   have ew:=vg r2 ek
   subst ew
   exact ⟨p,u,rfl,by rw [<- hu];exact .inl ⟨kvs,k,.inr ⟨o,hp⟩,rfl,rfl⟩,q u _ _ (x1.trans x2) ru⟩
  ·cases e3
def dDIn (b a:M):M:=fun ε=>(b ε).bind fun y=>(a ε).bind fun x=>(zP y).bind fun k=>match x with
 | .dk ks xs=>some (.at (.bl (xi k ks xs).isSome))
 | .fk ks xs=>some (.at (.bl (xi k ks xs).isSome))
 | _=>none
def Zp (b a:M):M:=fun ε=>(b ε).bind fun y=>(a ε).bind fun x=>(zP y).bind fun k=>match x with
 | .dk ks xs=>some (.at (.bl (!(xi k ks xs).isSome)))
 | .fk ks xs=>some (.at (.bl (!(xi k ks xs).isSome)))
 | _=>none
theorem QT {H:Hp}{k:z8}{kvs:List (z8 × V)}{xs:List PV}(r:Reps H xs (kvs.map (·.2))):(xi k (kvs.map (·.1)) xs).isSome=(qC kvs k).isSome:=by
 have l:=ZH (k:=k) r
 cases e:xi k (kvs.map (·.1)) xs with
 | none=>rw [e] at l;rw [show qC kvs k=none from l];rfl
 | some y=>rw [e] at l;obtain ⟨v,hv,_⟩:=l;rw [hv];rfl
instance {td ty:TE}{a b:M}[sa:qj td a][sb:qj ty b]:SemE (tDIn ty td) (dDIn b a) where
 h:=fun e _ _ _ _ _ rs _ q=>by
  obtain ⟨y,ey,e1⟩:=bind_some e
  obtain ⟨x,ex,e2⟩:=bind_some e1
  obtain ⟨k,ek,e3⟩:=bind_some e2
  split at e3
  ·cases e3
   refine sb.h ey rs fun w Hs1 H1 x1 r1=>sa.h ex (rs.go x1) fun v Hs2 H2 x2 r2=>?_
   obtain ⟨p,kvs,rfl,hp,hk,hr⟩:=vz x2.s3 r2
   have ew:=vg r1 ek
   subst ew
   exact ⟨p,_,rfl,DGet.k hp,q _ _ _ (x1.trans x2) (rep_at.mpr (by rw [<- hk,QT hr]))⟩
  ·cases e3
   refine sb.h ey rs fun w Hs1 H1 x1 r1=>sa.h ex (rs.go x1) fun v Hs2 H2 x2 r2=>?_
   obtain ⟨p,o,kvs,rfl,hp,hk,hr⟩:=XG x2.s3 r2
   have ew:=vg r1 ek
   subst ew
   exact ⟨p,_,rfl,.inl ⟨kvs,_,.inr ⟨o,hp⟩,rfl,rfl⟩,q _ _ _ (x1.trans x2) (rep_at.mpr (by rw [<- hk,QT hr]))⟩
  ·cases e3
instance {td ty:TE}{a b:M}[sa:qj td a][sb:qj ty b]:SemE (BK ty td) (Zp b a) where
 h:=fun e _ _ _ _ _ rs _ q=>by
  obtain ⟨y,ey,e1⟩:=bind_some e
  obtain ⟨x,ex,e2⟩:=bind_some e1
  obtain ⟨k,ek,e3⟩:=bind_some e2
  split at e3
  ·cases e3
   refine sb.h ey rs fun w Hs1 H1 x1 r1=>sa.h ex (rs.go x1) fun v Hs2 H2 x2 r2=>?_
   obtain ⟨p,kvs,rfl,hp,hk,hr⟩:=vz x2.s3 r2
   have ew:=vg r1 ek
   subst ew
   exact ⟨p,_,rfl,DGet.k hp,q _ _ _ (x1.trans x2) (rep_at.mpr (by rw [<- hk,QT hr]))⟩
  ·cases e3
   refine sb.h ey rs fun w Hs1 H1 x1 r1=>sa.h ex (rs.go x1) fun v Hs2 H2 x2 r2=>?_
   obtain ⟨p,o,kvs,rfl,hp,hk,hr⟩:=XG x2.s3 r2
   have ew:=vg r1 ek
   subst ew
   exact ⟨p,_,rfl,.inl ⟨kvs,_,.inr ⟨o,hp⟩,rfl,rfl⟩,q _ _ _ (x1.trans x2) (rep_at.mpr (by rw [<- hk,QT hr]))⟩
  ·cases e3
def Gx:M:=fun _=>some (.dk [] [])
instance:xv BJ Gx where
 h:=fun e _ _ _ _ _ rs _ q=>by
  cases e
  exact fun p hp=>q p _ _ (.newO rs.sub hp) hp (rs.sub.free hp) ⟨[],g0,rfl,.nil⟩
def XF (k:z8)(y:PV):List z8->List PV->List PV
 | n::ns,x::xs=>if n=k then y::XF k y ns xs else x::XF k y ns xs
 | _,xs=>xs
def Jf (k:z8)(y:PV)(ks:List z8)(xs:List PV):PV:=if (xi k ks xs).isSome=true then .dk ks (XF k y ks xs) else .dk (ks++[k]) (xs++[y])
theorem KJ {H:Hp}{k:z8}{y:PV}{v:V}(ry:Rep H y v):∀ {kvs:List (z8 × V)} {xs:List PV},Reps H xs (kvs.map (·.2))->Reps H (XF k y (kvs.map (·.1)) xs) ((kvs.map (fun kv=>if kv.1=k then (kv.1,v) else kv)).map (·.2))/\(kvs.map (fun kv=>if kv.1=k then (kv.1,v) else kv)).map (·.1)=kvs.map (·.1)
 | [],xs,r=>by
  have hx:xs=[]:=List.length_eq_zero_iff.mp r.length.symm
  subst hx
  exact ⟨.nil,rfl⟩
 | p::kvs,xs,r=>by
  cases xs with
  | nil=>have:=r.length;simp at this
  | cons x xs =>
   obtain ⟨u,w,e,p1,p2⟩:=reps_cons.mp r
   rw [List.map_cons] at e
   injection e with e1 e2
   subst e1 e2
   obtain ⟨h1,h2⟩:=KJ (k:=k) ry p2
   rw [List.map_cons,List.map_cons,List.map_cons,List.map_cons]
   unfold XF
   by_cases hk:p.1=k
   ·rw [if_pos hk,if_pos hk]
    exact ⟨.cons ry h1,by rw [h2]⟩
   ·rw [if_neg hk,if_neg hk]
    exact ⟨.cons p1 h1,by rw [h2]⟩
def dPut (i:Nat)(kk vv:M):MS:=fun ε=>(vv ε).bind fun y=>(kk ε).bind fun x=>(zP x).bind fun k=>match ε[i]? with
 | some (.ow (.dk ks xs))=>if ks.length<=lim then some (.nx (ε.set i (.ow (Jf k y ks xs)))) else none
 | _=>none
instance {i:Nat}{ty tv:TE}{kk vv:M}[sk:SemE ty kk][sv:SemE tv vv]:qb fr (Br (xI i) ty tv) (dPut i kk vv) where
 h:=fun e _ _ _ _ _ rs _ q=>by
  obtain ⟨y,ey,e1⟩:=bind_some e
  obtain ⟨x,ex,e2⟩:=bind_some e1
  obtain ⟨k,ek,e3⟩:=bind_some e2
  split at e3
  ·rename_i ks xs hi
   split at e3
   ·rename_i hl
    cases e3
    refine sv.h ey rs fun v Hs1 H1 x1 r1=>?_
    obtain ⟨p,hp,n0,n,t⟩:=(rs.go x1).ow i _ hi
    refine ⟨_,hp,sk.h ex (rs.go x1) fun w Hs2 H2 x2 r2=>?_⟩
    obtain ⟨p',hp',_,n2,kvs,hv,hk,hr⟩:=((rs.go x1).go x2).ow i _ hi
    rw [hp] at hp'
    injection hp' with hp';injection hp' with hp';injection hp' with hp'
    subst hp'
    have ew:=vg (.inl r2:RepB Hs2 H2 x w) ek
    subst ew
    have hlen:kvs.length<=lim:=by rw [<- hk,List.length_map] at hl;exact hl
    refine ⟨p,_,rfl,DPut.k hv (QS hlen),q _ _ _ (((rs.go x1).go x2).change hi hp ?_)⟩
    have hs:=QT (k:=k) hr
    unfold Jf zF
    rw [Yr,<- hs,hk]
    by_cases hc:(xi k ks xs).isSome=true
    ·rw [if_pos hc,if_pos hc]
     obtain ⟨q1,q2⟩:=KJ (k:=k) (r1.mono x2.s1) hr
     exact ⟨_,g0,by rw [q2,hk],by rw [<- hk];exact q1⟩
    ·rw [if_neg hc,if_neg hc]
     exact ⟨_,g0,by rw [List.map_append,hk];rfl,by rw [List.map_append];exact hr.append (.one (r1.mono x2.s1))⟩
   ·cases e3
  ·cases e3
end Mi
namespace Mi
open PySem L2
def rLeS:R2:=fun x y H Q=>∃ i j,x = .str i/\y = .str j/\Q (.bl (!decide (j.cps.toList < i.cps.toList))) H
theorem Ks {X:Cx}:OpR X (compareOp .LtE) rLeS:=Hg
def pLeS:PV->PV->Option PV
 | .at (.str i),.at (.str j)=>some (.at (.bl (!decide (j.cps.toList < i.cps.toList))))
 | _,_=>none
instance:SemR rLeS pLeS where
 h:=fun {x y z} e {Hs H v w} s a b {Q} q=>by
  unfold pLeS at e
  split at e
  ·cases e
   cases u8 a
   cases u8 b
   exact ⟨_,_,rfl,rfl,q _ _ _ (.refl s) (rep_at.mpr rfl)⟩
  ·cases e
def vB (z:Str):List PV:=z.cps.toList.map fun c=> .at (.str ⟨#[c]⟩)
def QG (a:M):MA:=fun ε=>(a ε).bind fun x=>match x with
 | .at (.str z)=>some (vB z)
 | _=>none
theorem ML {z:Str}{Hs:Hp}:jW (ItS z) (vB z) Hs where
 go:=fun i x Hs1 H1 e g1 g2=>by
  unfold vB at e
  rw [List.getElem?_map] at e
  obtain ⟨c,hc,rfl⟩:=Option.map_eq_some_iff.mp e
  rw [Array.getElem?_toList] at hc
  have hl:i < z.cps.size:=(Array.getElem?_eq_some_iff.mp hc).1
  refine ⟨hl,fun v H2 y=>?_⟩
  obtain ⟨rfl,c',hc',rfl⟩:=y
  rw [hc] at hc'
  cases hc'
  exact ⟨Hs1,.refl g2,rep_at.mpr rfl⟩
 stop:=fun Hs1 H1 g1 g2=>by
  show (vB z).length=z.cps.size
  unfold vB
  rw [List.length_map,Array.length_toList]
instance {te:TE}{a:M}[sa:SemE te a]:zv (iStr te) (QG a) where
 h:=fun e _ _ _ _ _ rs _ q=>by
  obtain ⟨x,ex,e1⟩:=bind_some e
  split at e1
  ·cases e1
   exact sa.h ex rs fun v Hs1 H1 x1 r1=>⟨_,rep_at.mp r1,q _ _ _ x1 ML⟩
  ·cases e1
end Mi
namespace Mi
open PySem L2
theorem KI {f:Str}{v:V}:∀ {fs:List (Str × V)},f ∉ fs.map (·.1)->xx f v fs=fs++[(f,v)]
 | [],_=>rfl
 | (g,x)::r,h=>by
  rw [List.map_cons] at h
  unfold xx
  rw [if_neg (show ¬ g=f from fun z=>h (by rw [<- z];exact List.mem_cons_self)),KI fun z=>h (List.mem_cons_of_mem _ z)]
  rfl
def Pj (C:Addr)(f:Str)(a:W):WS:=fun ε N _=>a ε fun y ε1=>∃ ns xs,ε1[0]?=some (.ow (.ob C ns xs))/\f ∉ ns/\ns.length < 1000/\N (ε1.set 0 (.ow (.ob C (ns++[f]) (xs++[y]))))
instance {K:Fg}{C:Addr}{f:Str}{te:TE}{a:W}[c:zk K C][n:ql K C f][sa:SemW te a]:SemWS (XN K (xI 0) te f) (Pj C f a) where
 h:=fun h _ _ _ _ _ _ rd _ k _=>sa.h h rd fun y ε1 v Hs1 H1 h1 rd1 g1 r1=>by
  obtain ⟨ns,xs,he,hf,hl,h2⟩:=h1
  obtain ⟨p,hp,h0,hs,dx,fs,hH,hk,hr⟩:=rd1.ow 0 _ he
  have hf':f ∉ fs.map (·.1):=by rw [hk];exact hf
  have hl':fs.length < 1000:=by rw [<- List.length_map (f:=(·.1)),hk];exact hl
  refine ⟨_,hp,p,C,dx,fs,rfl,hH,c.c,n.n,hl',?_⟩
  rw [KI hf']
  exact k _ _ _ _ h2 (rd1.change he hp ⟨dx,_,g0,by rw [List.map_append,hk];rfl,by rw [List.map_append];exact hr.append (.one r1)⟩) g1
def wL (C:Addr)(nm:Str)(m:List PV->Option PV)(i:Nat)(as:MA):M:=fun ε=>match ε[i]? with
 | some (.ow (.ob C' ns fs))=>if C'=C/\nm ∉ ns then (as ε).bind fun xs=>(m (.ob C ns fs::xs)).bind fun y=>match y with
  | .at u=>some (.at u)
  | _=>none else none
 | _=>none
instance {C:Addr}{nm:Str}{m:List PV->Option PV}{i:Nat}{ta:TA}{as:MA}{E:XK}[sa:xC ta as]:SemE (js C nm (v4 m) [] E (xI i) ta) (wL C nm m i as) where
 h:=fun {ε y} e {Hs0 H0 Hs H σ} rs {Q} q=>by
  unfold wL at e
  split at e
  ·rename_i C' ns fs hi
   split at e
   ·rename_i hc
    obtain ⟨rfl,hn⟩:=hc
    obtain ⟨xs,ex,e1⟩:=bind_some e
    obtain ⟨z,ez,e2⟩:=bind_some e1
    split at e2
    ·rename_i u
     cases e2
     obtain ⟨p,hp,n0,n,dx,gs,hH,hk,hr⟩:=rs.ow i _ hi
     refine ⟨_,hp,p,dx,gs,rfl,hH,QU (by rw [hk];exact hn),sa.h ex rs fun vs Hs1 H1 x1 r1=>?_⟩
     have hH1:=x1.s2 _ _ hH
     have n1:Hs1 p=none:=x1.s4 p (by rw [hH];exact fun z=>nomatch z) n
     have g:Same Hs1 (j9 Hs1 p (.ins C' dx gs)):=fun b w e=>by rw [v6 (n5 e n1)];exact e
     refine ⟨j9 Hs1 p (.ins C' dx gs),_,_,?_,?_,ez,fun v Hs' H' x r=>?_⟩
     ·intro b w e
      by_cases hb:b=p
      ·subst hb;rw [g0] at e;cases e;exact hH1
      ·rw [v6 hb] at e;exact x1.s3 _ _ e
     ·rw [List.append_nil]
      exact .cons (rep_ob.mpr ⟨p,dx,gs,rfl,g0,hk,(hr.mono x1.s1).mono g⟩) (r1.mono g)
     ·cases rep_at.mp r
      refine q _ (fun b=>if b=p then none else Hs' b) H' (x1.trans ⟨fun b w e=>?_,x.s2,fun b w e=>?_,fun b hb w=>?_⟩) (rep_at.mpr rfl)
      ·rw [if_neg (n5 e n1)];exact x.s1 _ _ (g _ _ e)
      ·split at e
       ·cases e
       ·exact x.s3 _ _ e
      ·by_cases hbp:b=p
       ·rw [if_pos hbp]
       ·rw [if_neg hbp];exact x.s4 b hb (by rw [v6 hbp];exact w)
    ·cases e2
   ·cases e
  ·cases e
def spI (C:Addr)(m:List PV->Option PV):Sp:=fun vs H Q _=>∃ Hs x dx xs ws y,vs = .ref x::ws/\Same Hs H/\H x=some (.ins C dx [])/\Hs x=none/\Reps Hs xs ws/\m xs=some y /\
 ∀ Hs' H',Same Hs Hs'->(∀ b o,H b=some o->b ≠ x->H' b=some o)->Same Hs' H'->(∀ b,H b ≠ none->b ≠ x->Hs b=none->Hs' b=none)->Rep Hs' y (.ref x)->Q .non H'
instance {C:Addr}{m:List PV->Option PV}{ta:TA}{as:MA}{E:XK}{ds:List V}[sa:xC ta as]:SemE (XS C (spI C m) ds E ta) (VV m ds as) where
 h:=fun e _ _ _ _ _ rs _ q=>by
  obtain ⟨xs,ex,e1⟩:=bind_some e
  refine sa.h ex rs fun vs Hs1 H1 x1 r1=>fun x dx hx hdx hne=>?_
  have s3:Same Hs1 (j9 (j9 H1 dx (.own x)) x (.ins C dx [])):=fun b o e=>by
   have e':=x1.s3 _ _ e
   rw [v6 (n5 e' hx),v6 (n5 e' hdx)]
   exact e'
  refine ⟨Hs1,x,dx,_,_,_,rfl,s3,g0,x1.s3.free hx,r1.append (.ofAts ds),e1,fun Hs' H' g1 g2 g3 g4 r=>⟨rfl,q _ _ _ (x1.trans ⟨g1,fun b o e=>?_,g3,fun b hb z=>?_⟩) r⟩⟩
  ·refine g2 b o ?_ (n5 e hx)
   rw [v6 (n5 e hx),v6 (n5 e hdx)]
   exact e
  ·have hbx:b ≠ x:=fun w=>hb (by rw [w];exact hx)
   have hbd:b ≠ dx:=fun w=>hb (by rw [w];exact hdx)
   exact g4 b (by rw [v6 hbx,v6 hbd];exact hb) hbx z
section
variable {P:Program}{w:World}{K:Fg}{mg:Str->Option Value}{base:Heap}
theorem Rn {N:List Str}{Hs H:Hp}{a:Addr}{y:PV}{xs:List PV}{ws:List V}(s:Same Hs H)(ha:Hs a=none)(t:Top Hs H a y)(r:Reps Hs xs ws) :
  RD [a] Hs H Hs H (L2.start N (.ref a::ws)) (.ow y::xs.map .sh++List.replicate (N.length - (xs.length + 1)) .no):=by
 have q:=wu (N:=N) (xs:= .at (.ref a)::xs) s (.cons (rep_at.mpr rfl) r)
 have tl:∀ (i:Nat) (sl:MSlot),(MSlot.ow y::xs.map .sh++List.replicate (N.length - (xs.length + 1)) .no)[i + 1]?=some sl->((PV.at (.ref a)::xs).map MSlot.sh++List.replicate (N.length - (PV.at (.ref a)::xs).length) .no)[i + 1]?=some sl:=fun i sl h=>h
 refine ⟨.refl _,fun b o e _=>e,s,fun _ _ z=>z,fun i x h=>?_,fun i x h=>?_,fun i j x y b h1 h2 _ _=>?_,?_,fun b hb=>?_,fun b hb=>?_,(fun b hb=>⟨_,rfl⟩),fun i x h=>by
  cases i with
  | zero=>simp at h
  | succ i=>exact WV (xs:=PV.at (.ref a)::xs) (tl i _ h)⟩
 ·cases i with
  | zero=>simp at h
  | succ i=>exact q.sh (i + 1) x (tl i _ h)
 ·cases i with
  | zero =>
   simp at h
   subst h
   exact ⟨a,by unfold L2.start;rfl,.inr (List.mem_singleton.mpr rfl),ha,t⟩
  | succ i=>exact absurd (tl i _ h) (wq (xs:=PV.at (.ref a)::xs))
 ·cases i with
  | zero =>
   cases j with
   | zero=>rfl
   | succ j=>exact absurd (tl j _ h2) (wq (xs:=PV.at (.ref a)::xs))
  | succ i=>exact absurd (tl i _ h1) (wq (xs:=PV.at (.ref a)::xs))
 ·exact q.len
 ·rw [List.mem_singleton.mp hb];unfold L2.start;rfl
 ·rw [List.mem_singleton.mp hb];exact t.there
end
end Mi
namespace Mi
open PySem L2
variable {fr:Bool}
def Qs (c:WT)(b:WS):Nat->WS
 | 0=>fun _ _ _=>False
 | n + 1=>fun ε N R=>c ε fun k ε1=>if k=true then b ε1 (fun ε2=>Qs c b n ε2 N R) R else N ε1
instance {t:TT}{tb:TS}{c:WT}{b:WS}{n:Nat}[sc:jA t c][sb:SemWS tb b]:SemWS (BO t tb) (Qs c b n) where
 h:=fun {ε N R} h S Hs0 H0 Hs H σ rd D k rt=>by
  refine ⟨fun m σ H=>∃ Hs1 ε,RD S Hs H0 Hs1 H σ ε/\Qs c b m ε N R,⟨n,Hs,ε,rd.rebase,h⟩,?_⟩
  rintro m σ1 H1 ⟨Hs1,ε1,r1,h1⟩
  cases m with
  | zero=>exact h1.elim
  | succ m =>
   refine sc.h h1 r1 fun v ε2 Hs2 H2 h2 r2 g2=>?_
   cases v with
   | true =>
    refine qz ⟨fun σ' H'=>∃ Hs3 ε,RD S Hs H0 Hs3 H' σ' ε/\Qs c b m ε N R,fun σ' H' p=>⟨m,Nat.lt_succ_self m,p⟩,sb.h (by simpa using h2) r2 (fun ε3 σ3 Hs3 H3 h3 r3 _=>⟨Hs3,ε3,r3,h3⟩) fun y ε3 σ3 v Hs3 H3 h3 r3 g3 rv=>?_⟩
    exact rt y ε3 σ3 v Hs3 H3 h3 (rd.unbase r3) r3.s1 rv
   | false=>exact o8 (k _ _ _ _ (by simpa using h2) (rd.unbase r2) r2.s1)
theorem Pk {c:WT}{b:WS}{N:ME->Prop}{R:PV->ME->Prop}[C:vF c][B:jx b](I:Nat->ME->Prop)
  (hs:∀ m ε,I m ε->c ε fun k ε1=>if k=true then ∃ m',m=m' + 1/\b ε1 (fun ε2=>I m' ε2) R else N ε1):∀ (n m:Nat) (ε:ME),I m ε->m < n->Qs c b n ε N R
 | 0,_,_,_,h=>absurd h (Nat.not_lt_zero _)
 | n + 1,m,ε,h,hn=>C.h (fun v ε1 h1=>ZE (fun ⟨m',e,h2⟩=>B.h (fun ε2 h3=>Pk I hs n m' ε2 h3 (by omega)) (fun _ _ q=>q) h2) (fun h2=>h2) h1) (hs m ε h)
structure ItOkB (J:It)(xs:List PV)(Hs H:Hp):Prop where
 go:∀ (i:Nat) (x:PV) (Hs1 H1:Hp),xs[i]?=some x->Same Hs Hs1->Same H H1->Same Hs1 H1->J.go i H1/\∀ v H2,J.yld i H1 v H2->∃ Hs2,Ext Hs1 H1 Hs2 H2/\Rep Hs2 x v
 stop:∀ (Hs1 H1:Hp),Same Hs Hs1->Same H H1->Same Hs1 H1->J.stop xs.length H1
class YG (ti:TI)(f:MA):Prop where
 h:∀ {ε xs},f ε=some xs->∀ {Hs0 H0 Hs H σ},RS Hs0 H0 Hs H σ ε->∀ {R:It->Hp->Prop},(∀ J Hs' H',Ext Hs H Hs' H'->ItOkB J xs Hs' H'->R J H')->ti σ H R
instance {K:Fg}{te:TE}{a:M}[sa:qj te a]:YG (QO K te) (i7 a) where
 h:=fun e _ _ _ _ _ rs _ q=>by
  obtain ⟨x,ex,e1⟩:=bind_some e
  split at e1
  ·cases e1
   refine sa.h ex rs fun v Hs1 H1 x1 r1=>?_
   obtain ⟨p,vs,rfl,hp,r⟩:=qq x1.s3 r1
   refine ⟨p,rfl,⟨vs,SqL.of hp⟩,q _ _ _ x1 ⟨fun i x Hs2 H2 ei g1 g2 g3=>?_,fun Hs2 H2 g1 g2 g3=>⟨vs,SqL.of (g2 _ _ hp),by rw [r.length];exact Nat.le_refl _⟩⟩⟩
   obtain ⟨v,ev,rv⟩:=r.get ei
   refine ⟨⟨vs,v,SqL.of (g2 _ _ hp),ev⟩,fun w H3 y=>?_⟩
   obtain ⟨rfl,y⟩:=y
   have z:=y vs (SqL.of (g2 _ _ hp))
   rw [ev] at z
   cases z
   exact ⟨Hs2,.refl g3,rv.mono g1⟩
  ·cases e1
def VW (cap:List (Option Nat))(ts:List Nat)(i:MA)(g:MG)(c:MB)(f:M):M:=fun ε=>(i ε).bind fun xs=>if jc cap ts=true/\xs.length<=lim then (qM g c f (qm cap ε) xs).bind fun ys=>some (.lst ys) else none
instance {wi:TI}{tg:TG}{ts:List Nat}{tt:TT}{te:TE}{cap:List (Option Nat)}{i:MA}{g:MG}{c:MB}{f:M}[si:YG wi i][sg:jz tg ts g][sc:qT tt c][sf:SemE te f]:xv (Qp wi tg tt te cap) (VW cap ts i g c f) where
 h:=fun e Hs0 H0 Hs H σ rs Q q=>by
  obtain ⟨xs,ex,e1⟩:=bind_some e
  split at e1
  ·rename_i hcl
   obtain ⟨hcap,hl⟩:=hcl
   unfold jc at hcap
   rw [Bool.and_eq_true] at hcap
   obtain ⟨ys,ey,e2⟩:=bind_some e1
   cases e2
   refine si.h ex rs fun J Hs1 H1 x1 ok=>?_
   have rc:=((rs.go x1).cap (of_decide_eq_true hcap.1)).rebase
   have wk:∀ i ∈ ts,(r9 cap σ)[i]?=some none:=fun i hi=>by
    unfold r9
    rw [List.getElem?_map,of_decide_eq_true (List.all_eq_true.mp hcap.2 i hi)]
    rfl
   refine ⟨fun k m zs H=>m=xs.length - k/\k<=xs.length/\∃ Hs2 ws,Ext Hs1 H1 Hs2 H/\RS Hs1 H0 Hs2 H (r9 cap σ) (qm cap _)/\Reps Hs2 ws zs/\ws.length<=k/\∃ rest,qM g c f (qm cap _) (xs.drop k)=some rest/\ys=ws++rest,
    ⟨xs.length,by simp,Nat.zero_le _,Hs1,[],.refl x1.s3,rc,.nil,Nat.le_refl _,ys,ey,rfl⟩,?_⟩
   rintro k m zs H2 ⟨rfl,hk,Hs2,ws,x2,r2,rz,hw,rest,er,eys⟩
   refine ⟨zb (by rw [rz.length];omega),?_⟩
   by_cases hlt:k < xs.length
   ·have hd:xs.drop k=xs[k]::xs.drop (k + 1):=List.drop_eq_getElem_cons hlt
    rw [hd] at er
    unfold qM at er
    obtain ⟨ε1,eg,er1⟩:=bind_some er
    obtain ⟨b,eb,er2⟩:=bind_some er1
    obtain ⟨go,yl⟩:=ok.go k xs[k] Hs2 H2 (by simp [hlt]) x2.s1 x2.s2 x2.s3
    refine .inr ⟨go,fun v H3 y=>?_⟩
    obtain ⟨Hs3,x3,r3⟩:=yl v H3 y
    refine sg.h eg (r2.go x3) r3 fun σ2 rs2 bt=>⟨bt.wk wk,sc.h eb rs2 fun Hs4 H4 x4=>?_⟩
    cases b with
    | true =>
     rw [if_pos rfl] at er2
     obtain ⟨z,ez,er3⟩:=bind_some er2
     obtain ⟨rest',er4,er5⟩:=bind_some er3
     cases er5
     refine qz (sf.h ez (rs2.go x4) fun u Hs5 H5 x5 r5=>⟨xs.length - (k + 1),by omega,rfl,hlt,Hs5,ws++[z],x2.trans (x3.trans (x4.trans x5)),((r2.go x3).go x4).go x5,?_,?_,rest',er4,?_⟩)
     ·exact (rz.mono (x3.s1.trans (x4.s1.trans x5.s1))).snoc r5
     ·rw [List.length_append];simp;omega
     ·rw [List.append_assoc];exact eys
    | false =>
     rw [if_neg Bool.false_ne_true] at er2
     exact o8 ⟨xs.length - (k + 1),by omega,rfl,hlt,Hs4,ws,x2.trans (x3.trans x4),(r2.go x3).go x4,rz.mono (x3.s1.trans x4.s1),by omega,rest,er2,eys⟩
   ·have ek:k=xs.length:=by omega
    subst ek
    rw [List.drop_length] at er
    unfold qM at er
    cases er
    refine .inl ⟨ok.stop Hs2 H2 x2.s1 x2.s2 x2.s3,fun D hD=>?_⟩
    rw [List.append_nil] at eys
    subst eys
    have x12:=x1.trans x2
    exact q D Hs2 _ (x12.trans (.newO x2.s3 hD)) (x12.s2.free hD) (x2.s3.free hD) ⟨zs,g0,rz⟩
  ·cases e1
def dSlS (a:M)(l u:ME->Option (Option Int)):M:=fun ε=>(a ε).bind fun x=>(l ε).bind fun lo=>(u ε).bind fun hi=>match x,lo,hi with
 | .at (.str z),none,some j=>if z.length<=lim then some (.at (.str (Txt.slice z none (some j)))) else none
 | .at (.str z),some i,none=>if z.length<=lim then some (.at (.str (Txt.slice z (some i) none))) else none
 | _,_,_=>none
instance {te:TE}{tl th:TO}{a:M}{l u:ME->Option (Option Int)}[sa:qj te a][sl:vG tl l][su:vG th u]:SemE (tSlS te tl th) (dSlS a l u) where
 h:=fun e _ _ _ _ _ rs _ q=>by
  obtain ⟨x,ex,e1⟩:=bind_some e
  obtain ⟨lo,el,e2⟩:=bind_some e1
  obtain ⟨hi,eu,e3⟩:=bind_some e2
  refine sa.h ex rs fun v Hs1 H1 x1 r1=>sl.h el (rs.go x1) fun Hs2 H2 x2=>su.h eu ((rs.go x1).go x2) fun Hs3 H3 x3=>?_
  split at e3
  ·split at e3
   ·rename_i hz
    cases e3
    exact ⟨_,u8 r1,zb hz,.inl ⟨rfl,_,rfl⟩,q _ _ _ (x1.trans (x2.trans x3)) (rep_at.mpr rfl)⟩
   ·cases e3
  ·split at e3
   ·rename_i hz
    cases e3
    exact ⟨_,u8 r1,zb hz,.inr ⟨rfl,_,rfl⟩,q _ _ _ (x1.trans (x2.trans x3)) (rep_at.mpr rfl)⟩
   ·cases e3
  ·cases e3
section
variable {ε:ME}{c d:MB}{f:M}{a b:WS}{N:ME->Prop}{R:PV->ME->Prop}
theorem vE (h:c ε=some false)(k:b ε N R):xJ (wPT c) a b ε N R:=by
 refine ⟨false,h,?_⟩
 show if false=true then a ε N R else b ε N R
 rw [if_neg Bool.false_ne_true]
 exact k
theorem VB (h:c ε=some true)(k:a ε N R):xJ (wPT c) a b ε N R:=by
 refine ⟨true,h,?_⟩
 show if true=true then a ε N R else b ε N R
 rw [if_pos rfl]
 exact k
theorem jg (h1:c ε=some false)(h2:d ε=some false):dOr c d ε=some false:=by
 unfold dOr;rw [h1];show (if false=true then some true else d ε)=_;rw [if_neg Bool.false_ne_true];exact h2
theorem Dd (h1:c ε=some false):vd c d ε=some false:=by unfold vd;rw [h1];rfl
theorem VU {v:Bool}(h1:c ε=some true)(h2:d ε=some v):vd c d ε=some v:=by
 unfold vd;rw [h1];show (if true=true then d ε else some false)=_;rw [if_pos rfl];exact h2
theorem qN (h:c ε=some true):qk c ε=some false:=by unfold qk;rw [h];rfl
theorem Df (h:c ε=some false):qk c ε=some true:=by unfold qk;rw [h];rfl
theorem qV {v:Bool}(h:f ε=some (.at (.bl v))):qv f ε=some v:=by unfold qv;rw [h];rfl
theorem w4 {v:Bool}(h:f ε=some (.at (.bl v))):dT f ε=some v:=by unfold dT;rw [h];rfl
theorem QQ {xs:List PV}:xj [.lst xs,.at (.ty "list")]=some (.at (.bl true)):=by
 unfold xj tyP
 simp only [Option.bind_some,Sf]
end
end Mi
namespace Mi
open PySem L2
variable {fr:Bool}
theorem Gv {g:MG}{f:M}{ε0:ME}{α:Type}(F G:α->PV):∀ (l:List α),(∀ a ∈ l,∃ ε1,g (F a) ε0=some ε1/\f ε1=some (G a))->qM g i4 f ε0 (l.map F)=some (l.map G)
 | [],_=>rfl
 | a::l,h=>by
  obtain ⟨ε1,e1,e2⟩:=h a List.mem_cons_self
  have ih:=Gv F G l fun b hb=>h b (List.mem_cons_of_mem _ hb)
  show Option.bind (g (F a) ε0) (fun ε1=>Option.bind (i4 ε1) fun b=>if b=true then (f ε1).bind fun y=>(qM g i4 f ε0 (l.map F)).bind fun ys=>some (y::ys) else qM g i4 f ε0 (l.map F))=_
  rw [e1,ih]
  show (if true=true then (f ε1).bind fun y=>some (y::l.map G) else some (l.map G))=_
  rw [if_pos rfl,e2]
  rfl
theorem VR {g:MG}{c:MB}{f:M}{ε0:ME}{α:Type}(F G:α->PV)(p:α->Bool):∀ (l:List α),(∀ a ∈ l,∃ ε1,g (F a) ε0=some ε1/\c ε1=some (p a)/\(p a=true->f ε1=some (G a)))->qM g c f ε0 (l.map F)=some ((l.filter p).map G)
 | [],_=>rfl
 | a::l,h=>by
  obtain ⟨ε1,e1,e2,e3⟩:=h a List.mem_cons_self
  have ih:=VR F G p l fun b hb=>h b (List.mem_cons_of_mem _ hb)
  show Option.bind (g (F a) ε0) (fun ε1=>Option.bind (c ε1) fun b=>if b=true then (f ε1).bind fun y=>(qM g c f ε0 (l.map F)).bind fun ys=>some (y::ys) else qM g c f ε0 (l.map F))=_
  rw [e1,ih]
  show Option.bind (c ε1) (fun b=>if b=true then (f ε1).bind fun y=>some (y::(l.filter p).map G) else some ((l.filter p).map G))=_
  rw [e2,Option.bind_some,List.filter_cons]
  cases hp:p a with
  | true=>rw [if_pos rfl,if_pos rfl,e3 hp];rfl
  | false=>rw [if_neg Bool.false_ne_true,if_neg Bool.false_ne_true]
theorem xp {cap:List (Option Nat)}{ts:List Nat}{it:MA}{g:MG}{f:M}{ε:ME}{α:Type}(F G:α->PV)(l:List α)(h:it ε=some (l.map F))(hc:jc cap ts=true)(hl:l.length<=lim)(k:∀ a ∈ l,∃ ε1,g (F a) (qm cap ε)=some ε1/\f ε1=some (G a)) :
  t6 cap ts it g i4 f ε=some (.lst (l.map G)):=Wd h hc (by rw [List.length_map];exact hl) (Gv F G l k)
theorem Wb {cap:List (Option Nat)}{ts:List Nat}{it:MA}{g:MG}{c:MB}{f:M}{ε:ME}{α:Type}(F G:α->PV)(p:α->Bool)(l:List α)(h:it ε=some (l.map F))(hc:jc cap ts=true)(hl:l.length<=lim)(k:∀ a ∈ l,∃ ε1,g (F a) (qm cap ε)=some ε1/\c ε1=some (p a)/\(p a=true->f ε1=some (G a))) :
  t6 cap ts it g c f ε=some (.lst ((l.filter p).map G)):=Wd h hc (by rw [List.length_map];exact hl) (VR F G p l k)
theorem QV {g:MG}{f:MS}{α:Type}(F:α->PV)(I:List α->ME->Prop)(h:∀ a l ε,I (a::l) ε->∃ ε1 ε2,g (F a) ε=some ε1/\f ε1=some (.nx ε2)/\I l ε2):∀ (l:List α) (ε:ME),I l ε->∃ ε',zM g f (l.map F) ε=some (.nx ε')/\I [] ε'
 | [],ε,i=>⟨ε,rfl,i⟩
 | a::l,ε,i=>by
  obtain ⟨ε1,ε2,e1,e2,i2⟩:=h a l ε i
  obtain ⟨ε',e3,i3⟩:=QV F I h l ε2 i2
  refine ⟨ε',?_,i3⟩
  show Option.bind (g (F a) ε) (fun ε1=>Option.bind (f ε1) fun o=>match o with
   | .nx ε2=>zM g f (l.map F) ε2
   | .ct ε2=>zM g f (l.map F) ε2
   | .bk ε2=>some (.nx ε2)
   | .rt y=>some (.rt y))=_
  rw [e1,Option.bind_some,e2]
  exact e3
section
variable {ε:ME}{a b:M}{v w:Bool}
theorem jF (h1:a ε=some (.at (.bl true)))(h2:b ε=some (.at (.bl w))):zm a b ε=some (.at (.bl w)):=by unfold zm;rw [h1];exact h2
theorem GJ (h1:a ε=some (.at (.bl false))):zm a b ε=some (.at (.bl false)):=by unfold zm;rw [h1];rfl
theorem DG (h1:a ε=some (.at (.bl true))):dOrV a b ε=some (.at (.bl true)):=by unfold dOrV;rw [h1];rfl
theorem DF (h1:a ε=some (.at (.bl v))):Zr a ε=some (.at (.bl (!v))):=by unfold Zr;rw [h1];rfl
theorem Zx {c:MB}{x:PV}(h:c ε=some true)(k:a ε=some x):dIf c a b ε=some x:=by unfold dIf;rw [h];exact k
theorem QK {c:MB}{x:PV}(h:c ε=some false)(k:b ε=some x):dIf c a b ε=some x:=by unfold dIf;rw [h];exact k
theorem Wc {g g':PV->PV->Option PV}{c:M}{x y z:PV}{r:Bool}(h1:a ε=some x)(h2:b ε=some y)(h3:g x y=some (.at (.bl true)))(h4:c ε=some z)(h5:g' y z=some (.at (.bl r))):vK g g' a b c ε=some (.at (.bl r)):=by
 unfold vK;rw [h1,Option.bind_some,h2,Option.bind_some,h3];show Option.bind (c ε) _=_;rw [h4];exact h5
theorem vQ {x:PV}(h:a ε=some x):xZ a ε=some (.nx ε):=by unfold xZ;rw [h];rfl
theorem qc:qx ε=some (.nx ε):=rfl
theorem vR {xs:List PV}(h:a ε=some (.lst xs)):i7 a ε=some xs:=by unfold i7;rw [h];rfl
theorem xR {C:Addr}{f:Str}{ns:List Str}{xs:List PV}{y:PV}(h:a ε=some (.ob C ns xs))(k:wX f ns xs=some y):qU C f a ε=some y:=by unfold qU;rw [h,Option.bind_some];show (if C=C then _ else _)=_;rw [if_pos rfl];exact k
theorem xF {C:Addr}{nm:Str}{m:List PV->Option PV}{as:MA}{ns:List Str}{fs xs:List PV}{y:Option PV}(h:a ε=some (.ob C ns fs))(hn:nm ∉ ns)(k:as ε=some xs)(e:m (.ob C ns fs::xs)=y):qE C nm m a as ε=y:=by
 unfold qE;rw [h,Option.bind_some];show (if C=C/\nm ∉ ns then _ else _)=_;rw [if_pos ⟨rfl,hn⟩,k];exact e
theorem Wf {n k:Nat}{bd:MS}{xs:List PV}{ε':ME}(hl:xs.length=k)(h:bd (xs.map .sh++List.replicate (n - k) .no)=some (.nx ε')):i6 n k bd xs=some (.at .non):=by unfold i6;rw [if_pos hl,h];rfl
theorem My {n:Int}:xj [.at (.int n),.at (.ty "int")]=some (.at (.bl true)):=by
 unfold xj tyP;simp only [Option.bind_some,Se]
theorem Mz {n:Int}:xj [.at (.int n),.at (.ty "bool")]=some (.at (.bl false)):=by
 unfold xj tyP;simp only [Option.bind_some,Sd]
theorem GT {n:Str}:xj [.at (.str n),.at (.ty "str")]=some (.at (.bl true)):=by
 unfold xj tyP;simp only [Option.bind_some,Sg]
theorem MC {n:List PV}:xj [.tup n,.at (.ty "tuple")]=some (.at (.bl true)):=by
 unfold xj tyP;simp only [Option.bind_some,Sh]
theorem Ge:∀ bs:List Bool,bls (bs.map fun b=> .at (.bl b))=some bs
 | []=>rfl
 | b::bs=>by
  have ih:=Ge bs
  rw [List.map_cons]
  unfold bls
  rw [ih];rfl
theorem Wt:∀ bs:List Int,jk (bs.map fun b=> .at (.int b))=some bs
 | []=>rfl
 | b::bs=>by
  have ih:=Wt bs
  rw [List.map_cons]
  unfold jk
  rw [ih];rfl
theorem YL (bs:List Bool):zS [.lst (bs.map fun b=> .at (.bl b))]=some (.at (.bl (bs.all id))):=by
 show (bls _).bind _=_;rw [Ge];rfl
theorem TN (bs:List Int):pSum [.lst (bs.map fun b=> .at (.int b))]=some (.at (.int bs.sum)):=by
 show (jk _).bind _=_;rw [Wt];rfl
theorem Qz {α:Type}(l:List α):zS [.lst (l.map fun _=> .at (.bl true))]=some (.at (.bl true)):=by
 have e:(l.map fun _=>PV.at (.bl true))=((l.map fun _=>true).map fun b=>PV.at (.bl b)):=by rw [List.map_map];rfl
 rw [e,YL]
 have:(l.map fun _=>true).all id=true:=by simp
 rw [this]
end
end Mi
namespace Mi
open PySem L2
def minI:List Int->Int
 | []=>0
 | x::l=>l.foldl (fun b y=>if y < b then y else b) x
theorem Wz (l:List Int):∀ b:Int,l.foldl (fun b y=>if y < b then y else b) b<=b/\(∀ y ∈ l,l.foldl (fun b y=>if y < b then y else b) b<=y)/\(l.foldl (fun b y=>if y < b then y else b) b=b ∨ l.foldl (fun b y=>if y < b then y else b) b ∈ l):=by
 induction l with
 | nil=>intro b;exact ⟨Int.le_refl _,(fun _ z=>nomatch z),.inl rfl⟩
 | cons x l ih =>
  intro b
  rw [List.foldl_cons]
  obtain ⟨h1,h2,h3⟩:=ih (if x < b then x else b)
  have hx:(if x < b then x else b)<=b/\(if x < b then x else b)<=x:=by split <;> omega
  refine ⟨by omega,fun y hy=>?_,?_⟩
  ·rcases List.mem_cons.mp hy with rfl | hy
   ·omega
   ·exact h2 y hy
  ·rcases h3 with h3 | h3
   ·rw [h3]
    by_cases hc:x < b
    ·rw [if_pos hc];exact .inr List.mem_cons_self
    ·rw [if_neg hc];exact .inl rfl
   ·exact .inr (List.mem_cons_of_mem _ h3)
theorem LB {l:List Int}(h:l ≠ []):minI l ∈ l:=by
 cases l with
 | nil=>exact absurd rfl h
 | cons x l =>
  rcases (Wz l x).2.2 with e | e
  ·show l.foldl _ x ∈ _;rw [e];exact List.mem_cons_self
  ·exact List.mem_cons_of_mem _ e
theorem LA {l:List Int}{y:Int}(h:y ∈ l):minI l<=y:=by
 cases l with
 | nil=>cases h
 | cons x l =>
  rcases List.mem_cons.mp h with rfl | h
  ·exact (Wz l y).1
  ·exact (Wz l x).2.1 y h
def wb (l:List Int):Int:=-minI (l.map fun x=>-x)
theorem Lv {l:List Int}(h:l ≠ []):wb l ∈ l:=by
 have:=LB (l:=l.map fun x=>-x) (by cases l with | nil=>exact absurd rfl h | cons x l=>simp)
 obtain ⟨x,hx,e⟩:=List.mem_map.mp this
 unfold wb
 rw [<- e,Int.neg_neg]
 exact hx
theorem Lu {l:List Int}{y:Int}(h:y ∈ l):y<=wb l:=by
 have:=LA (l:=l.map fun x=>-x) (y:=-y) (List.mem_map.mpr ⟨y,h,rfl⟩)
 unfold wb
 omega
def pMinL:List PV->Option PV
 | [.lst xs]=>(jk xs).bind fun ns=>if ns=[] then none else some (.at (.int (minI ns)))
 | _=>none
def leS (a b:Str):Bool:=!decide (b.cps.toList < a.cps.toList)
def zW (ss:List Str):List Str:=ss.mergeSort leS
theorem Vq (ss:List Str):(zW ss).Perm ss:=List.mergeSort_perm ss leS
theorem TB (ss:List Str):Zl (zW ss):=by
 have:=List.pairwise_mergeSort (le:=leS) (fun a b c h1 h2=>by
  unfold leS at h1 h2 ⊢
  simp only [Bool.not_eq_true',decide_eq_false_iff_not] at h1 h2 ⊢
  exact List.not_lt.mpr (List.le_trans (List.not_lt.mp h1) (List.not_lt.mp h2))) (fun a b=>by
  unfold leS
  by_cases h:b.cps.toList < a.cps.toList
  ·have h2:¬ (a.cps.toList < b.cps.toList):=fun k=>List.lt_irrefl _ (List.lt_trans h k)
   simp [h2]
  ·simp [h]) ss
 exact this.imp fun h=>by unfold leS at h;simpa using h
theorem Ya {ss ss':List Str}(p:ss'.Perm ss)(u:Zl ss'):ss'=zW ss :=
 List.Perm.eq_of_pairwise (fun a b _ _ h1 h2=>by
  have e:=List.le_antisymm (List.not_lt.mp h1) (List.not_lt.mp h2)
  cases a;cases b
  simp only [Str.mk.injEq]
  exact Array.toList_inj.mp e) u (TB ss) (p.trans (Vq ss).symm)
def jT:List PV->Option (List Str)
 | []=>some []
 | .at (.str s)::xs=>(jT xs).map (s::·)
 | _::_=>none
theorem Yf:∀ {xs:List PV} {ss:List Str},jT xs=some ss->xs=ss.map fun s=> .at (.str s)
 | [],_,h=>by cases h;rfl
 | x::xs,ss,h=>by
  unfold jT at h
  split at h
  ·rename_i e;cases e
  ·rename_i s' xs' e
   injection e with e1 e2
   subst e1 e2
   obtain ⟨r,hr,rfl⟩:=Option.map_eq_some_iff.mp h
   rw [Yf hr];rfl
  ·cases h
def vh:List z8->Option (List Str)
 | []=>some []
 | .inr s::xs=>(vh xs).map (s::·)
 | _::_=>none
theorem Wu:∀ {xs:List z8} {ss:List Str},vh xs=some ss->xs=ss.map Sum.inr
 | [],_,h=>by cases h;rfl
 | x::xs,ss,h=>by
  unfold vh at h
  split at h
  ·rename_i e;cases e
  ·rename_i s' xs' e
   injection e with e1 e2
   subst e1 e2
   obtain ⟨r,hr,rfl⟩:=Option.map_eq_some_iff.mp h
   rw [Wu hr];rfl
  ·cases h
def WI:List PV->Option PV
 | [.lst xs]=>(jT xs).bind fun ss=>if ss.length < 64 then some (.lst ((zW ss).map fun s=> .at (.str s))) else none
 | [.dk ks _]=>(vh ks).bind fun ss=>if ss.length < 64 then some (.lst ((zW ss).map fun s=> .at (.str s))) else none
 | [.fk ks _]=>(vh ks).bind fun ss=>if ss.length < 64 then some (.lst ((zW ss).map fun s=> .at (.str s))) else none
 | _=>none
theorem WR {H:Hp}(ss:List Str):Reps H (ss.map fun s=> .at (.str s)) (ss.map V.str):=by
 have:=Reps.ofAts (H:=H) (ss.map V.str)
 rwa [List.map_map] at this
instance {K:Fg}:VJ (KZ K) WI where
 h:=fun {xs z} e {Hs H vs} s r {Q} q=>by
  unfold WI at e
  split at e
  ·obtain ⟨ss,eb,e1⟩:=bind_some e
   split at e1
   ·rename_i hl
    cases e1
    obtain ⟨v,rfl,a⟩:=zr r
    obtain ⟨p,ws,rfl,e1,r1⟩:=qq s a
    rw [Yf eb,show (ss.map fun b=>PV.at (.str b))=(ss.map V.str).map .at by rw [List.map_map];rfl] at r1
    cases r1.ats
    refine ⟨p,ss,rfl,.inl (SqL.of e1),hl,fun l ss' hn p1 p2=>?_⟩
    rw [Ya p1 p2]
    exact q l _ _ (.newO s hn) hn (s.free hn) ⟨_,g0,WR _⟩
   ·cases e1
  ·obtain ⟨ss,eb,e1⟩:=bind_some e
   split at e1
   ·rename_i hl
    cases e1
    obtain ⟨v,rfl,a⟩:=zr r
    obtain ⟨p,kvs,rfl,hp,hk,hr⟩:=vz s a
    refine ⟨p,ss,rfl,.inr ⟨kvs,.inl hp,by rw [hk,Wu eb]⟩,hl,fun l ss' hn p1 p2=>?_⟩
    rw [Ya p1 p2]
    exact q l _ _ (.newO s hn) hn (s.free hn) ⟨_,g0,WR _⟩
   ·cases e1
  ·obtain ⟨ss,eb,e1⟩:=bind_some e
   split at e1
   ·rename_i hl
    cases e1
    obtain ⟨v,rfl,a⟩:=zr r
    obtain ⟨p,o,kvs,rfl,hp,hk,hr⟩:=XG s a
    refine ⟨p,ss,rfl,.inr ⟨kvs,.inr ⟨o,hp⟩,by rw [hk,Wu eb]⟩,hl,fun l ss' hn p1 p2=>?_⟩
    rw [Ya p1 p2]
    exact q l _ _ (.newO s hn) hn (s.free hn) ⟨_,g0,WR _⟩
   ·cases e1
  ·cases e
def KY (K:Fg):List V->Hp->VK->Prop:=fun xs H Q=>∃ (a:Addr) (ss:List Str),xs=[.ref a]/\SqL K H a (ss.map V.str)/\ss.length<=1000 /\
  ∀ l,H l=none->Q (.ref l) (j9 H l (vJ (m9 (fun i=>(Sum.inr (ss.getD i ⟨#[]⟩):z8)) ss.length).length l))
theorem CJ {X:Cx}{K:Fg}(hc:X.calm=true)(h:X.K=K):CallR X (.type "set") (KY K):=by subst h;exact CK hc
def Xk (ss:List Str):Nat:=(m9 (fun i=>(Sum.inr (ss.getD i ⟨#[]⟩):z8)) ss.length).length
def KP:List V->Hp->VK->Prop:=fun xs H Q=>∃ (a:Addr) (n:Nat),xs=[.ref a]/\H a=some (vJ n a)/\Q (.int n) H
theorem CD {X:Cx}:CallR X (.builtin "len") KP:=CC
def VY (a:M):M:=fun ε=>(a ε).bind fun x=>match x with
 | .lst xs=>(jT xs).bind fun ss=>if ss.length<=1000 then some (.at (.int (Xk ss))) else none
 | _=>none
instance {K:Fg}{te:TE}{a:M}[sa:qj te a]:SemE (tCB KP (xc (tCB (KY K) (xc te xt)) xt)) (VY a) where
 h:=fun e _ _ _ _ _ rs _ q=>by
  obtain ⟨x,ex,e1⟩:=bind_some e
  split at e1
  ·obtain ⟨ss,eb,e2⟩:=bind_some e1
   split at e2
   ·rename_i hl
    cases e2
    refine sa.h ex rs fun v Hs1 H1 x1 r1=>?_
    obtain ⟨p,ws,rfl,ep,r2⟩:=qq x1.s3 r1
    rw [Yf eb,show (ss.map fun b=>PV.at (.str b))=(ss.map V.str).map .at by rw [List.map_map];rfl] at r2
    cases r2.ats
    refine ⟨p,ss,rfl,SqL.of ep,hl,fun l hn=>⟨l,_,rfl,g0,q _ _ _ (x1.trans (.newO x1.s3 hn)) (rep_at.mpr rfl)⟩⟩
   ·cases e2
  ·cases e1
def dRev (a:M)(st:ME->Option (Option Int)):M:=fun ε=>(a ε).bind fun x=>(st ε).bind fun o=>match x with
 | .lst xs=>if o=some (-1) then some (.lst xs.reverse) else none
 | _=>none
instance {K:Fg}{te:TE}{ts:TO}{a:M}{st:ME->Option (Option Int)}[sa:qj te a][ss:vG ts st]:xv (tRev K te ts) (dRev a st) where
 h:=fun e _ _ _ _ _ rs _ q=>by
  obtain ⟨x,ex,e1⟩:=bind_some e
  obtain ⟨o,eo,e2⟩:=bind_some e1
  split at e2
  ·split at e2
   ·rename_i ho
    cases e2
    refine sa.h ex rs fun v Hs1 H1 x1 r1=>ss.h eo (rs.go x1) fun Hs2 H2 x2=>?_
    obtain ⟨p,ws,rfl,ep,r2⟩:=qq x2.s3 (r1.ext x2)
    refine ⟨ho,p,ws,rfl,SqL.of ep,fun l hn=>?_⟩
    exact q l _ _ ((x1.trans x2).trans (.newO x2.s3 hn)) ((x1.trans x2).s2.free hn) (x2.s3.free hn) ⟨_,g0,r2.reverse⟩
   ·cases e2
  ·cases e2
def we:PV->PV->Option PV
 | .at (.bl b),.at (.bl c)=>some (.at (.bl (decide (b=c))))
 | _,_=>none
def ZZ:PV->PV->Option PV
 | .at (.bl b),.at (.bl c)=>some (.at (.bl (!decide (b=c))))
 | _,_=>none
instance:SemR rIsB we where
 h:=fun {x y z} e {Hs H v w} s a b {Q} q=>by
  unfold we at e
  split at e
  ·cases e
   exact ⟨_,_,u8 a,u8 b,q _ _ _ (.refl s) (rep_at.mpr rfl)⟩
  ·cases e
instance:SemR KS ZZ where
 h:=fun {x y z} e {Hs H v w} s a b {Q} q=>by
  unfold ZZ at e
  split at e
  ·cases e
   exact ⟨_,_,u8 a,u8 b,q _ _ _ (.refl s) (rep_at.mpr rfl)⟩
  ·cases e
structure Mkr (P:Program)(w:World)(K:Fg)(mg:Str->Option Value)(base:Heap)(k:Nat)(C:Addr)(ps:List Str)(sp:Sp):Prop where
 ex:∃ f fd,FnOk P w K mg base v7 k f fd ps sp/\Mk K C f/\Binds K fd ps []
theorem WK {X:Cx}{k j:Nat}{C:Addr}{ps:List Str}{sp:Sp}{x:Str}{p pos:Pos}{e:Expr}{es:List Expr}{t:TA}(c:Mkr X.prog X.w X.K X.mg X.base k C ps sp)(hr:Room j X.A)(hj:k + 1<=j)(hg:Gl X x)(hm:X.mg x=some (.ref C))
  (ha:PA X (e::es) t) (hdb:(x == ("__debug__":Str))=false:=by decide) (he:starEach (e::es) X.env=(false,eval e X.env)::starEach es X.env:=by rfl) (hpl:(backTo pos (starEach es X.env)).any (·.1)=false:=by rfl) :
  PE X (.Call (.Name x p) (e::es) [] pos) (XS C sp [] E0 t):=by
 obtain ⟨f,fd,F,hm',hb⟩:=c.ex
 exact Ht hm' F (hr.mono hj) hg hm hb .nil Ja ha hdb he hpl
instance (priority:=1100){C:Addr}{m:List PV->Option PV}{ta:TA}{as:MA}{E:XK}[sa:xC ta as]:SemE (XS C (spI C m) [] E ta) (z5 m as) where
 h:=fun {ε y} e=>SemE.h (te:=XS C (spI C m) [] E ta) (f:=VV m [] as) (by
  unfold VV
  unfold z5 at e
  simpa using e)
structure FunD (K:Fg)(x qual:Str)(st:Stmt)(f:Addr)(fd:FuncData):Prop where
 ex:∃ (oc:Value) (od:Option Addr) (dV kV doc pm:Value) (an:Option Addr) (cdv ct:Value) (osl:Array (Option Value)),
  fd=PySem.W.fnOf x qual (zx st) (qy st) (j5 st) dV kV doc pm an cdv ct/\K.lookup f=some ⟨oc,od,.func fd,osl⟩/\PySem.W.codeIn K cdv qual=true
 kp:PySem.W.keepIn K (.ref f)=true
section
variable {P:Program}{w:World}{K:Fg}{mg:Str->Option Value}{base:Heap}
theorem FunD.ok {x qual:Str}{st:Stmt}{f:Addr}{fd:FuncData}{N ps:List Str}{k:Nat}{sp:Sp}(F:FunD K x qual st f fd)(S:v9 N ps (j5 st))(len:∀ vs H Q E,sp vs H Q E->vs.length=ps.length)
  (hbody:∀ (cdv:Value) (A:Around) (outer:List Env) (s:Shared) (H:Hp) (vs:List V) (Q:VK) (E:XK),Room k (A.deeper (PyProof.Rows.envOfC qual (j5 st) s.heap.objs.size f cdv))->sp vs H Q E ->
   ∃ t,PSs (xh v7 P w K mg base N qual (j5 st) f cdv A outer s H E).nox (qy st) t/\t { nx:=fun _ H'=>Q .non H',rt:=Q } (L2.start N vs) H):FnOk P w K mg base v7 (k + 1) f fd ps sp:=by
 obtain ⟨oc,od,dV,kV,doc,pm,an,cdv,ct,osl,rfl,lk,hcd⟩:=F.ex
 refine Wm lk hcd S len fun A outer s H vs Q E hr hsp=>?_
 obtain ⟨t,h,q⟩:=hbody cdv A outer s H vs Q E hr hsp
 exact ⟨t,h.nox,q⟩
theorem DO {x qual:Str}{st:Stmt}{f:Addr}{oc:Value}{od an:Option Addr}{osl:Array (Option Value)}{dV kV doc pm cdv ct:Value}(l:K.lookup f=some ⟨oc,od,.func (PySem.W.fnOf x qual (zx st) (qy st) (j5 st) dV kV doc pm an cdv ct),osl⟩)
  (c:PySem.W.codeIn K cdv qual=true) (k:PySem.W.keepIn K (.ref f)=true):FunD K x qual st f (PySem.W.fnOf x qual (zx st) (qy st) (j5 st) dV kV doc pm an cdv ct):=⟨⟨oc,od,dV,kV,doc,pm,an,cdv,ct,osl,rfl,l,c⟩,k⟩
theorem XE {X:Cx}{o value:Expr}{f:Str}{ta tv:TE}{pos pos':Pos}(hK:X.K=K)(ha:PE X o ta)(hv:PE X value tv)(hs:swapsWith value (some (.Attribute o f pos')) pos.line X.env=pure false:=by rfl):PS X (.Assign [.Attribute o f pos'] value pos) (XN K ta tv f):=by
 subst hK;exact HP ha hv hs
theorem okI' {x qual:Str}{st:Stmt}{f C:Addr}{fd:FuncData}{N ps:List Str}{k:Nat}{b:WS}{m:List PV->Option PV}(F:FunD K x qual st f fd)(S:v9 N ps (j5 st))
  (hm:∀ xs y,m xs=some y->xs.length + 1=ps.length)
  (hb:∀ (cdv:Value) (A:Around) (outer:List Env) (s:Shared) (H:Hp) (E:XK),Room k (A.deeper (PyProof.Rows.envOfC qual (j5 st) s.heap.objs.size f cdv)) ->
   ∃ t,PSs (xh v7 P w K mg base N qual (j5 st) f cdv A outer s H E).nox (qy st) t/\SemWS t b)
  (hw:∀ xs y,m xs=some y->b (.ow (.ob C [] [])::xs.map .sh++List.replicate (N.length - (xs.length + 1)) .no) (fun ε=>ε[0]?=some (.ow y)) fun _ _=>False):FnOk P w K mg base v7 (k + 1) f fd ps (spI C m):=by
 refine F.ok S (fun vs H Q E h=>?_) (fun cdv A outer s H vs Q E hr h=>?_)
 ·obtain ⟨Hs,x,dx,xs,ws,y,rfl,_,_,_,r,e,_⟩:=h
  rw [List.length_cons,r.length]
  exact hm xs y e
 ·obtain ⟨Hs,x,dx,xs,ws,y,rfl,sm,hx,hs,r,e,q⟩:=h
  obtain ⟨t,ht,sem⟩:=hb cdv A outer s H E hr
  refine ⟨t,ht,sem.h (hw xs y e) (Rn sm hs ⟨dx,[],hx,rfl,.nil⟩ r) (fun ε σ Hs' H' z rd g=>?_) fun _ _ _ _ _ _ z _ _ _=>z.elim⟩
  obtain ⟨a,ha,_,n,tp⟩:=rd.ow 0 y z
  rw [rd.pin x (List.mem_singleton.mpr rfl)] at ha
  injection ha with ha;injection ha with ha;injection ha with ha
  subst ha
  obtain ⟨o,ho,ro⟩:=tp.rep n
  have g2:Same Hs' (j9 Hs' x o):=fun b u e=>by rw [v6 (n5 e n)];exact e
  refine q (j9 Hs' x o) H' (g.trans g2) (fun b u e hb=>rd.s2 b u e fun w=>hb (List.mem_singleton.mp w)) (fun b u e=>?_) (fun b hb hbx w=>?_) ro
  ·by_cases hbx:b=x
   ·subst hbx;rw [g0] at e;cases e;exact ho
   ·rw [v6 hbx] at e;exact rd.s3 _ _ e
  ·rw [v6 hbx];exact rd.s4 b hb w
end
def ji (C:Addr)(f:Str)(a:M):MS:=fun ε=>(a ε).bind fun y=>match (ε[0]?:Option MSlot) with
 | some (.ow (.ob C' ns xs))=>if C'=C/\f ∉ ns/\ns.length < 1000 then some (.nx (ε.set 0 (.ow (.ob C (ns++[f]) (xs++[y]))))) else none
 | _=>none
def wPN (f:MS):WS:=fun ε N _=>∃ ε',f ε=some (.nx ε')/\N ε'
theorem Dg {C:Addr}{f:Str}{a:M}{ε:ME}{o:Out}(h:ji C f a ε=some o):∃ y ns xs,a ε=some y/\ε[0]?=some (.ow (.ob C ns xs))/\f ∉ ns/\ns.length < 1000/\o = .nx (ε.set 0 (.ow (.ob C (ns++[f]) (xs++[y])))):=by
 unfold ji at h
 obtain ⟨y,ey,h1⟩:=bind_some h
 split at h1
 ·rename_i C' ns xs he
  split at h1
  ·rename_i hc
   cases h1
   obtain ⟨rfl,h2,h3⟩:=hc
   exact ⟨y,ns,xs,ey,he,h2,h3,rfl⟩
  ·cases h1
 ·cases h1
instance {K:Fg}{C:Addr}{f:Str}{te:TE}{a:M}[c:zk K C][n:ql K C f][sa:SemE te a]:SemWS (XN K (xI 0) te f) (wPN (ji C f a)) where
 h:=fun {ε N R} h=>by
  obtain ⟨ε',e,h1⟩:=h
  obtain ⟨y,ns,xs,ey,he,h2,h3,e4⟩:=Dg e
  injection e4 with e4
  subst e4
  exact SemWS.h (ts:=XN K (xI 0) te f) (w:=Pj C f (wP a)) ⟨y,ey,ns,xs,he,h2,h3,h1⟩
instance {te:TE}{a:M}[sa:SemE te a]:SemWS (xT te) (wPN (xZ a)) where
 h:=fun {ε N R} h=>by
  obtain ⟨ε',e,h1⟩:=h
  obtain ⟨y,ey,e2⟩:=bind_some e
  cases e2
  exact SemWS.h (ts:=xT te) (w:=Pi (wP a)) ⟨y,ey,h1⟩
instance Tq {t u:TS}{a b:MS}[sa:SemWS t (wPN a)][sb:SemWS u (wPN b)]:SemWS (tSeq t u) (wPN (u3 a b)) where
 h:=fun {ε N R} h S Hs0 H0 Hs H σ rd D k rt=>by
  obtain ⟨ε',e,h1⟩:=h
  obtain ⟨o1,e1,e2⟩:=bind_some e
  refine SemWS.h (ts:=tSeq t u) (w:=wSeq (wPN a) (wPN b)) (ε:=ε) (N:=N) (R:=R) ?_ rd k rt
  cases o1 with
  | nx ε1=>exact ⟨ε1,e1,ε',e2,h1⟩
  | rt y=>cases e2
  | bk ε1=>cases e2
  | ct ε1=>cases e2
def QF (n k:Nat)(C:Addr)(f:MS):List PV->Option PV:=fun xs=>if xs.length + 1=k then (f (.ow (.ob C [] [])::xs.map .sh++List.replicate (n - k) .no)).bind fun o=>match o with
 | .nx ε=>(match (ε[0]?:Option MSlot) with
  | some (.ow y)=>some y
  | _=>none)
 | _=>none else none
theorem okID {P:Program}{w:World}{K:Fg}{mg:Str->Option Value}{base:Heap}{x qual:Str}{st:Stmt}{f C:Addr}{fd:FuncData}{N ps:List Str}{k:Nat}{b:MS}{m:List PV->Option PV}(F:FunD K x qual st f fd)(S:v9 N ps (j5 st))(hm:m=QF N.length ps.length C b)
  (hb:∀ (cdv:Value) (A:Around) (outer:List Env) (s:Shared) (H:Hp) (E:XK),Room k (A.deeper (PyProof.Rows.envOfC qual (j5 st) s.heap.objs.size f cdv)) ->
   ∃ t,PSs (xh v7 P w K mg base N qual (j5 st) f cdv A outer s H E).nox (qy st) t/\SemWS t (wPN b)):FnOk P w K mg base v7 (k + 1) f fd ps (spI C m):=by
 subst hm
 refine okI' F S (fun xs y e=>?_) hb (fun xs y e=>?_)
 ·unfold QF at e
  split at e
  ·rename_i hl;exact hl
  ·cases e
 ·unfold QF at e
  split at e
  ·rename_i hl
   obtain ⟨o,eo,e1⟩:=bind_some e
   rw [hl]
   cases o with
   | nx ε =>
    refine ⟨ε,eo,?_⟩
    have e2:(match (ε[0]?:Option MSlot) with
     | some (.ow y)=>some y
     | _=>none)=some y:=e1
    show ε[0]?=some (.ow y)
    split at e2
    ·rename_i z hz;cases e2;exact hz
    ·cases e2
   | rt z=>cases e1
   | bk z=>cases e1
   | ct z=>cases e1
  ·cases e
end Mi
namespace Mi
open PySem L2
def Zq (a:M):M:=fun ε=>(a ε).bind fun x=>match x with
 | .lst xs=>(jk xs).bind fun ns=>if ns=[] then some (.at .non) else some (.at (.int (wb ns)))
 | _=>none
instance {K:Fg}{te:TE}{a:M}[sa:qj te a]:SemE (Yh K (xc te xt)) (Zq a) where
 h:=fun e _ _ _ _ _ rs _ q=>by
  obtain ⟨x,ex,e1⟩:=bind_some e
  split at e1
  ·obtain ⟨ns,eb,e2⟩:=bind_some e1
   refine sa.h ex rs fun v Hs1 H1 x1 r1=>?_
   obtain ⟨p,ws,rfl,ep,r2⟩:=qq x1.s3 r1
   rw [Ws eb,show (ns.map fun b=>PV.at (.int b))=(ns.map V.int).map .at by rw [List.map_map];rfl] at r2
   cases r2.ats
   refine ⟨p,ns,rfl,SqL.of ep,fun hn=>?_,fun hn m m1 m2=>?_⟩
   ·rw [if_pos hn] at e2
    cases e2
    exact q _ _ _ x1 (rep_at.mpr rfl)
   ·rw [if_neg hn] at e2
    cases e2
    have em:m=wb ns:=Int.le_antisymm (Lu m1) (m2 _ (Lv hn))
    subst em
    exact q _ _ _ x1 (rep_at.mpr rfl)
  ·cases e1
def wn:List PV->Option (List (z8 × PV))
 | []=>some []
 | .tup [k,v]::xs=>(zP k).bind fun kk=>(wn xs).map ((kk,v)::·)
 | _::_=>none
def ZY:List PV->Option PV
 | [.lst xs]=>(wn xs).bind fun ps=>if (ps.map (·.1)).Nodup/\ps.length<=1000 then some (.fk (ps.map (·.1)) (ps.map (·.2))) else none
 | _=>none
theorem KC {Hs H:Hp}(s:Same Hs H):∀ {xs:List PV} {ps:List (z8 × PV)} {vs:List V},wn xs=some ps->Reps Hs xs vs->∃ (ts:List Addr) (kvs:List (z8 × V)),vs=ts.map V.ref/\Paired (fun t (kv:z8 × V)=>H t=some (.tup [kV kv.1,kv.2])) ts kvs/\kvs.map (·.1)=ps.map (·.1)/\Reps Hs (ps.map (·.2)) (kvs.map (·.2))
 | [],ps,vs,h,r=>by
  cases h
  cases reps_nil.mp r
  exact ⟨[],[],rfl,.nil,rfl,.nil⟩
 | x::xs,ps,vs,h,r=>by
  unfold wn at h
  split at h
  ·rename_i e;cases e
  ·rename_i k v xs' e
   injection e with e1 e2
   subst e1 e2
   obtain ⟨kk,ek,h1⟩:=bind_some h
   obtain ⟨ps',hp,rfl⟩:=Option.map_eq_some_iff.mp h1
   obtain ⟨w,ws,rfl,r1,r2⟩:=reps_cons.mp r
   obtain ⟨t,us,rfl,ht,ru⟩:=rep_tup.mp r1
   obtain ⟨u1,us1,rfl,p1,p2⟩:=reps_cons.mp ru
   obtain ⟨u2,us2,rfl,p3,p4⟩:=reps_cons.mp p2
   cases reps_nil.mp p4
   have ew:=vg (H:=H) (.inl p1) ek
   subst ew
   obtain ⟨ts,kvs,rfl,q1,q2,q3⟩:=KC s hp r2
   exact ⟨t::ts,(kk,u2)::kvs,rfl,.cons (s _ _ ht) q1,by rw [List.map_cons,List.map_cons,q2],.cons p3 q3⟩
  ·cases h
instance:jy KO ZY where
 h:=fun {xs z} e {Hs H vs} s r {Q} q=>by
  unfold ZY at e
  split at e
  ·obtain ⟨ps,eb,e1⟩:=bind_some e
   split at e1
   ·rename_i hl
    cases e1
    obtain ⟨v,rfl,a⟩:=zr r
    obtain ⟨p,ws,rfl,ep,r1⟩:=qq s a
    obtain ⟨ts,kvs,rfl,q1,q2,q3⟩:=KC s eb r1
    have hk:kvs.length=ps.length:=by have:=congrArg List.length q2;rwa [List.length_map,List.length_map] at this
    refine ⟨p,ts,kvs,rfl,ep,q1,by rw [q2];exact hl.1,by omega,fun l o hn=>?_⟩
    exact q _ _ _ (.new s hn) (rep_fk.mpr ⟨l,o,kvs,rfl,g0,q2,q3.mono (Ext.new s hn).s1⟩)
   ·cases e1
  ·cases e
def wAsg (g:MG)(a:W):WS:=fun ε N _=>a ε fun x ε1=>∃ ε2,g x ε1=some ε2/\N ε2
instance (priority:=500){te:TE}{tg:TG}{a:W}{g:MG}[sa:SemW te a][sg:SemWG tg g]:SemWS (zG te tg) (wAsg g a) where
 h:=fun h _ _ _ _ _ _ rd _ k _=>sa.h h rd fun x ε1 v Hs1 H1 h1 rd1 g1 r1=>by
  obtain ⟨ε2,e,h2⟩:=h1
  exact sg.h e rd1 r1 fun σ' rd2=>k _ _ _ _ h2 rd2 g1
def dItV (a:M):MA:=fun ε=>(a ε).bind fun x=>match x with
 | .fk _ xs=>some xs
 | _=>none
theorem MN {a:Addr}{o:Obj}{xs:List PV}{kvs:List (z8 × V)}{Hs:Hp}(h:Hs a=some (.frz o (.dK kvs)))(r:Reps Hs xs (kvs.map (·.2))):jW (Itv a o kvs) xs Hs where
 go:=fun i x Hs1 H1 e g1 g2=>by
  obtain ⟨v,ev,rv⟩:=r.get e
  have hl:i < kvs.length:=by
   have:=(List.getElem?_eq_some_iff.mp ev).1
   rwa [List.length_map] at this
  refine ⟨⟨g2 _ _ (g1 _ _ h),hl⟩,fun w H2 y=>?_⟩
  obtain ⟨rfl,k,y⟩:=y
  rw [List.getElem?_map,y] at ev
  cases ev
  exact ⟨Hs1,.refl g2,rv.mono g1⟩
 stop:=fun Hs1 H1 g1 g2=>⟨g2 _ _ (g1 _ _ h),by have:=r.length;rw [List.length_map] at this;omega⟩
instance {te:TE}{a:M}[sa:SemE te a]:zv (GQ te) (dItV a) where
 h:=fun e _ _ _ _ _ rs _ q=>by
  obtain ⟨x,ex,e1⟩:=bind_some e
  split at e1
  ·cases e1
   refine sa.h ex rs fun v Hs1 H1 x1 r1=>?_
   obtain ⟨p,o,kvs,rfl,hp,_,r⟩:=rep_fk.mp r1
   exact ⟨p,o,kvs,rfl,x1.s3 _ _ hp,q _ _ _ x1 (MN hp r)⟩
  ·cases e1
end Mi
namespace Mi
open PySem L2
end Mi
namespace Mi
open PySem PySem.Spec PyProof.Rows L2
variable {fr:Bool}
def RepsM (Hs H:Hp):List Bool->List PV->List V->Prop
 | [],xs,vs=>xs=[]/\vs=[]
 | b::ms,xs,vs=>∃ x xr v vr,xs=x::xr/\vs=v::vr/\(if b=true then RepB Hs H x v else Rep Hs x v)/\RepsM Hs H ms xr vr
theorem RepsM.length {Hs H:Hp}:∀ {ms:List Bool} {xs:List PV} {vs:List V},RepsM Hs H ms xs vs->xs.length=ms.length/\vs.length=ms.length
 | [],_,_,h=>by rw [h.1,h.2];exact ⟨rfl,rfl⟩
 | b::ms,_,_,h=>by
  obtain ⟨x,xr,v,vr,rfl,rfl,_,r⟩:=h
  have q:=RepsM.length r
  exact ⟨congrArg (· + 1) q.1,congrArg (· + 1) q.2⟩
def zi:List Bool->List PV->ME
 | b::ms,x::xs=>(if b=true then .bo x else .sh x)::zi ms xs
 | _,_=>[]
theorem Bx:∀ {ms:List Bool} {xs:List PV},xs.length=ms.length->(zi ms xs).length=ms.length
 | [],[],_=>rfl
 | _::ms,_::xs,h=>congrArg (· + 1) (Bx (ms:=ms) (xs:=xs) (by simpa using h))
theorem Bw {Hs H:Hp}:∀ {ms:List Bool} {xs:List PV} {vs:List V} {i:Nat} {sl:MSlot},RepsM Hs H ms xs vs->(zi ms xs)[i]?=some sl->∃ (x:PV) (v:V),vs[i]?=some v/\((sl = .bo x/\RepB Hs H x v) ∨ (sl = .sh x/\Rep Hs x v))
 | [],_,_,i,sl,h,e=>by rw [h.1] at e;simp [zi] at e
 | b::ms,_,_,0,sl,h,e=>by
  obtain ⟨x,xr,v,vr,rfl,rfl,p,r⟩:=h
  simp only [zi,List.getElem?_cons_zero,Option.some.injEq] at e
  refine ⟨x,v,rfl,?_⟩
  cases b with
  | true=>exact .inl ⟨e.symm,p⟩
  | false=>exact .inr ⟨e.symm,p⟩
 | b::ms,_,_,i + 1,sl,h,e=>by
  obtain ⟨x,xr,v,vr,rfl,rfl,p,r⟩:=h
  obtain ⟨y,w,h1,h2⟩:=Bw (i:=i) (sl:=sl) r (by simpa [zi] using e)
  exact ⟨y,w,by simpa using h1,h2⟩
theorem XJ {N:List Str}{Hs H:Hp}{ms:List Bool}{xs:List PV}{vs:List V}(s:Same Hs H)(r:RepsM Hs H ms xs vs):RS Hs H Hs H (L2.start N vs) (zi ms xs++List.replicate (N.length - ms.length) .no):=by
 obtain ⟨lx,lv⟩:=r.length
 have ls:=Bx lx
 have at1:∀ (i:Nat) (sl:MSlot),(zi ms xs++List.replicate (N.length - ms.length) .no)[i]?=some sl->sl = .no ∨ ∃ (x:PV) (v:V),(L2.start N vs)[i]?=some (some v)/\((sl = .bo x/\RepB Hs H x v) ∨ (sl = .sh x/\Rep Hs x v)):=by
  intro i sl h
  by_cases hi:i < ms.length
  ·rw [List.getElem?_append_left (by rw [ls];exact hi)] at h
   obtain ⟨x,v,h1,h2⟩:=Bw r h
   refine .inr ⟨x,v,?_,h2⟩
   unfold L2.start
   rw [List.getElem?_append_left (by rw [List.length_map,lv];exact hi),List.getElem?_map,h1]
   rfl
  ·rw [List.getElem?_append_right (by rw [ls];omega),List.getElem?_replicate] at h
   split at h
   ·cases h;exact .inl rfl
   ·cases h
 refine ⟨.refl s,fun i x h=>?_,fun i x h=>?_,fun i j x y a h1 _ _ _=>?_,?_,fun i x h=>?_⟩
 ·rcases at1 i _ h with z | ⟨y,v,hv,⟨z,_⟩ | ⟨z,q⟩⟩
  ·cases z
  ·cases z
  ·cases z;exact ⟨v,hv,q⟩
 ·rcases at1 i _ h with z | ⟨y,v,hv,⟨z,_⟩ | ⟨z,q⟩⟩ <;> cases z
 ·rcases at1 i _ h1 with z | ⟨y,v,hv,⟨z,_⟩ | ⟨z,q⟩⟩ <;> cases z
 ·unfold L2.start
  rw [List.length_append,List.length_append,List.length_map,List.length_replicate,List.length_replicate,ls,lv]
 ·rcases at1 i _ h with z | ⟨y,v,hv,⟨z,q⟩ | ⟨z,_⟩⟩
  ·cases z
  ·cases z
   refine ⟨v,hv,?_⟩
   rcases q with q | ⟨a,e,n,t⟩
   ·exact .inl q
   ·exact .inr ⟨a,e,t.there,n,t⟩
  ·cases z
class zJ (ms:List Bool)(ta:TA)(f:MA):Prop where
 h:∀ {ε ys},f ε=some ys->∀ {Hs0 H0 Hs H σ},RS Hs0 H0 Hs H σ ε->∀ {Q:List V->Hp->Prop},(∀ vs Hs' H',Ext Hs H Hs' H'->RepsM Hs' H' ms ys vs->Q vs H')->ta σ H Q
instance:zJ [] xt x8 where
 h:=fun e _ _ _ _ _ rs _ q=>by cases e;exact q _ _ _ (.refl rs.sub) ⟨rfl,rfl⟩
instance {ms:List Bool}{te:TE}{ta:TA}{a:M}{f:MA}[sa:SemE te a][sr:zJ ms ta f]:zJ (false::ms) (xc te ta) (q9 a f) where
 h:=fun e _ _ _ _ _ rs _ q=>by
  obtain ⟨x,ex,e⟩:=bind_some e
  obtain ⟨xs,ey,e⟩:=bind_some e
  cases e
  exact sa.h ex rs fun v Hs1 H1 x1 r1=>sr.h ey (rs.go x1) fun vs Hs2 H2 x2 r2=>q _ _ _ (x1.trans x2) ⟨_,_,_,_,rfl,rfl,r1.mono x2.s1,r2⟩
def xQ (n:Nat)(ms:List Bool)(f:MS):List PV->Option PV:=fun xs=>if xs.length=ms.length then (f (zi ms xs++List.replicate (n - ms.length) .no)).bind fun o=>match o with
 | .rt y=>some y
 | .nx _=>some (.at .non)
 | _=>none else none
def vM (n:Nat)(ms:List Bool)(f:MS):List PV->Option PV:=fun xs=>if xs.length=ms.length then (f (zi ms xs++List.replicate (n - ms.length) .no)).bind fun o=>match o with
 | .rt y=>some y
 | _=>none else none
section
variable {P:Program}{w:World}{K:Fg}{mg:Str->Option Value}{base:Heap}
theorem xM {n:Nat}{ms:List Bool}{b:MS}{xs:List PV}{y:PV}(hl:xs.length=ms.length)(h:b (zi ms xs++List.replicate (n - ms.length) .no)=some (.rt y)):xQ n ms b xs=some y:=by unfold xQ;rw [if_pos hl,h];rfl
theorem DD {n:Nat}{ms:List Bool}{b:MS}{xs:List PV}{ε:ME}(hl:xs.length=ms.length)(h:b (zi ms xs++List.replicate (n - ms.length) .no)=some (.nx ε)):xQ n ms b xs=some (.at .non):=by unfold xQ;rw [if_pos hl,h];rfl
theorem Wg {n:Nat}{ms:List Bool}{b:MS}{xs:List PV}{y:PV}(hl:xs.length=ms.length)(h:b (zi ms xs++List.replicate (n - ms.length) .no)=some (.rt y)):vM n ms b xs=some y:=by unfold vM;rw [if_pos hl,h];rfl
end
def wSlU (a:M)(u:W):W:=fun ε Q=>∃ xs,a ε=some (.lst xs)/\u ε fun y ε1=>∃ j:Int,y = .at (.int j)/\Q (.lst (jf xs none (some j))) ε1
instance {K:Fg}{te tu:TE}{a:M}{u:W}[sa:SemE te a][su:SemW tu u]:SemW (tSl (rSlL K) te Yi (Yj tu)) (wSlU a u) where
 h:=fun {ε Q'} h S Hs0 H0 Hs H σ rd Q k=>by
  obtain ⟨xs,ea,hu⟩:=h
  refine sa.h ea rd.rs fun v Hs1 H1 x1 r1=>?_
  refine su.h hu (rd.go x1) fun y ε1 w Hs2 H2 h2 rd2 g2 r2=>?_
  obtain ⟨j,rfl,h3⟩:=h2
  refine ⟨j,rep_at.mp r2,?_⟩
  obtain ⟨p,vs,rfl,hp,r⟩:=rep_lst.mp (r1.mono g2)
  refine ⟨p,vs,rfl,SqL.of (rd2.s3 _ _ hp),fun d hd=>?_⟩
  have x3:Ext Hs2 H2 (j9 Hs2 d (.lst (va vs none (some j)))) (j9 H2 d (.lst (va vs none (some j)))):= .new rd2.s3 hd
  exact k _ ε1 _ _ _ h3 (rd2.go x3) (x1.s1.trans (g2.trans x3.s1)) (rep_lst.mpr ⟨d,_,rfl,g0,(r.cut none (some j)).mono x3.s1⟩)
end Mi
namespace L2
open PySem PySem.Spec PyProof.Rows
theorem Kx {P:Program}{w:World}{X:Cx}:zI (o6 P w) X E0:=fun _ _ _ _ _ _ _ h=>by
 obtain ⟨_,_,_,_,_,_,_,_,_,q⟩:=h
 exact q.elim
structure Mx (P:Program)(w:World)(K:Fg)(mg:Str->Option Value)(base:Heap)(k:Nat)(C:Addr)(m:Str)(ps:List Str)(sp:Sp):Prop where
 ex:∃ f fd,FnOk P w K mg base (o6 P w) k f fd ps sp/\wE K C m f/\Cls K C/\Binds K fd ps []
def Zi (CX:CXT)(X:Cx)(σ:St)(E:XK):Prop:=∀ (pins:List (Addr × Obj)) (H:Hp) (s:Shared) (e:Value) (s':Shared),Inv X pins σ H s->CX X.stack H s E e s'->X.xe e s'
def PEa (X:Cx)(σ:St)(e:Expr)(t:TE):Prop:=∀ (pins:List (Addr × Obj)) (s:Shared) (H:Hp) (Q:VK),Inv X pins σ H s->t σ H Q->wpAny (model X.prog X.w) X.A (eval e X.env) (EP X pins σ Q) X.xe s
def PSa (X:Cx)(σ:St)(st:Stmt)(t:TS):Prop:=∀ (pins:List (Addr × Obj)) (s:Shared) (H:Hp) (D:qL),Inv X pins σ H s->t D σ H->wpAny (model X.prog X.w) X.A (exec st X.env) (SP X pins D) X.xe s
def PSsa (X:Cx)(σ:St)(st:List Stmt)(t:TS):Prop:=∀ (pins:List (Addr × Obj)) (s:Shared) (H:Hp) (D:qL),Inv X pins σ H s->t D σ H->wpAny (model X.prog X.w) X.A (execs st X.env) (SP X pins D) X.xe s
section
variable {X:Cx}{k j:Nat}{C:Addr}{m x:Str}{ps:List Str}{sp:Sp}{o e c:Expr}{es:List Expr}{te ta:TE}{t:TA}{tc:TT}{apos pos p:Pos}{E:XK}{σ:St}{st:Stmt}{a b:List Stmt}{u v:TS}
theorem WL {pl:Sem Bool}(c:Mx X.prog X.w X.K X.mg X.base k C m ps sp)(hr:Room j X.A)(hj:k<=j)(hx:zI (o6 X.prog X.w) X E)(ho:PE X o ta)(ha:PA X (e::es) t)
  (hst:starEach (e::es) X.env=(false,eval e X.env)::starEach es X.env:=by rfl) (hpl:(backTo pos (starEach es X.env)).any (·.1)=false:=by rfl)
  (ht:eval (.Call (.Attribute o m apos) (e::es) [] pos) X.env=(do
   let ov <- eval o X.env
   standAt apos.atName
   let (f,first) <- holding [ov] (getMethod ov m pl)
   callWith pos f first (backTo pos (starEach (e::es) X.env)) (backToKw pos (keywordEach [] X.env))):=by rfl) :
  PE X (.Call (.Attribute o m apos) (e::es) [] pos) (js C m sp [] E ta t):=by
 obtain ⟨f,fd,F,hm,hc,hb⟩:=c.ex
 exact Kz ho hc hm F (hr.mono hj) hb .nil hx ha hst hpl ht
theorem HW (h1:PSa X σ st u):PSsa X σ [st] u:=by
 intro pins s H D I h
 refine wpAny_execs_cons (j3 (h1 pins s H D I h) fun f s1 q=>?_)
 cases f with
 | next=>exact wpAny_execs_nil q
 | ret v=>exact q
 | brk=>exact q
 | cont=>exact q
theorem HV (he:PEa X σ e te)(hs:swapsWith e none pos.line X.env=pure false:=by rfl):PSa X σ (.Expr e pos) (xT te):=by
 intro pins s H D I h
 exact wpAny_Expr_any (j3 (he pins s H _ I h) fun v s1 ⟨x,H1,I1,r1,q1⟩=>⟨σ,H1,I1,q1⟩) I.quiet hs
theorem Rt {CX:CXT}{f:Addr}{fd:FuncData}{pins:List (Addr × Obj)}{H:Hp}{s:Shared}{Q:VK}{us:List Value}{vs:List V}(F:FnOk X.prog X.w X.K X.mg X.base CX k f fd ps sp)(hr:Room k X.A)(hb:Binds X.K fd ps [])(hx:Zi CX X σ E)
  (I:Inv X pins σ H s) (r:Vals vs us) (h:sp (vs++[]) H Q E):wpAny (model X.prog X.w) X.A (call (.ref f) us) (EP X pins σ Q) X.xe s:=by
 have r2:Vals (vs++[]) (us++[]):=r.append .nil
 have hl:(us++[]).length=ps.length:=by rw [<- r2.length];exact F.len _ _ _ _ h
 refine wpAny_call (codeAny_mono (F.run X.A X.stack s H ⟨us,[]⟩ (us++[]) (vs++[]) Q E hr I.env0 (hb s us I.kIn hl) r2 h) fun r s' hq=>?_)
 cases r with
 | error e=>exact hx pins H s e s' I hq
 | ok fl =>
  cases fl with
  | ret u=>exact I.after hq
  | next=>exact False.elim hq
  | brk=>exact False.elim hq
  | cont=>exact False.elim hq
theorem HB (c:Fx X.prog X.w X.K X.mg X.base k x ps sp)(hr:Room j X.A)(hj:k<=j)(hx:Zi (o6 X.prog X.w) X σ E)(hg:Gl X x)(ha:PA X (e::es) t)(hdb:(x == ("__debug__":Str))=false:=by decide)
  (he:starEach (e::es) X.env=(false,eval e X.env)::starEach es X.env:=by rfl) (hpl:(backTo pos (starEach es X.env)).any (·.1)=false:=by rfl) :
  PEa X σ (.Call (.Name x p) (e::es) [] pos) (xy sp [] E t):=by
 obtain ⟨f,fd,F,hm,hk,hb⟩:=c.ex
 intro pins s H Q I h
 refine wpAny_Call_Name_kw (wV I hg hm ?_ hdb)
 refine PySem.W.callWith_K (h₀:=X.base) I.ok.mod.kin hk (j3 (ha pos pins s σ H _ I h) fun us s1 ⟨vs,H1,I1,r,q⟩=>⟨I1.kIn,?_⟩) he hpl
 exact Rt F (hr.mono hj) hb hx I1 r q
end
def BN (K:Fg)(D0:Addr)(cs:List Addr)(i:Nat)(tb:XK->TS)(ts:Addr->Addr->TS):TS:=fun D σ H=>∃ E:XK,(∀ cls H',E cls none H'->∃ c,c ∈ cs/\cls = .ref c/\PySem.W.exmOne K cls (.ref D0)=some true)/\tb E D σ H /\
 ∀ (ea c:Addr) (H':Hp),E (.ref c) none H'->ts ea c { nx:=fun σ2 H2=>D.nx (σ2.set i none) H2,rt:=D.rt,bk:=fun σ2 H2=>D.bk (σ2.set i none) H2,ct:=fun σ2 H2=>D.ct (σ2.set i none) H2 } (σ.set i (some (.ref ea))) H'
section
variable {X:Cx}{K:Fg}{x n:Str}{i:Nat}{D0:Addr}{cs:List Addr}{body suite:List Stmt}{b₀:Stmt}{tb:XK->TS}{ts:Addr->Addr->TS}{np hpos pos:Pos}
theorem HR (hK:X.K=K)(hex:X.ex=[])(hst:X.stack=X.env::X.outer)(hf:X.env.frame=some X.env.locals)(hgx:Gl X x)(hmx:X.mg x=some (.ref D0))(hN:X.N.Nodup)(hi:X.N[i]?=some n)(hl:X.env.kindOf n=some .local)(hfn:X.fn n=true)
  (hb:∀ (E:XK) (σ:St) (pn:List (Addr × Obj)) (W:Value->Shared->Prop),Zi (o6 X.prog X.w) (X.tried pn W) σ E->PSsa (X.tried pn W) σ body (tb E))
  (hs:∀ (pn:List (Addr × Obj)) (ea:Addr) (oe:Obj) (c:Addr),oe.cls = .ref c->c ∈ cs->(ea,oe) ∈ pn->PSs (X.suite pn ea) (b₀::suite) (ts ea c)) (hd:(x == ("__debug__":Str))=false:=by decide) :
  PS X (.Try body [.ExceptHandler (some (.Name x np)) (some n) (b₀::suite) hpos] [] [] pos) (BN K D0 cs i tb ts):=by
 subst hK
 intro pins s σ H D I h
 obtain ⟨E,hm,h1,h2⟩:=h
 let W:Value->Shared->Prop:=fun e s'=>∃ (H' H1:Hp) (s1:Shared) (ea:Addr) (cls:Value),e = .ref ea/\Inv X pins σ H' s'/\Fly s1.heap s'.heap H' ea cls/\Inv X pins σ H1 s1/\E cls none H'
 have ps:Zi (o6 X.prog X.w) (X.tried (X.pn++pins) W) σ E:=by
  intro p2 H1 s1 e s' I1 q
  obtain ⟨ea,cls,H',rfl,os,bare,un,hok,F,q⟩:=q
  have I0:Inv X pins σ H1 s1:=I1.untried I.ok
  exact ⟨H',H1,s1,ea,cls,rfl,I0.call' (ch:=[]) os un hok bare (fun b z=>nomatch z),F,I0,q⟩
 refine wpAny_Try_except (wpAny_mono (hb E σ _ W ps [] s H D (I.tried W) h1) (fun f s1 q=>?_) fun e s1 q=>?_)
 ·have q':=SP.untried I.ok q
  cases f with
  | next=>exact wpAny_execs_nil q'
  | brk=>exact q'
  | cont=>exact q'
  | ret u=>exact q'
 obtain ⟨H',H1,s0,ea,cls,rfl,I',F,I0,q⟩:=q
 obtain ⟨c,hcs,rfl,hexm⟩:=hm cls H' q
 obtain ⟨⟨oe,vs,T,oT,ts',a0,e1,e2,e3,e4,e5,e6,e7,e8,e9,e10,e11⟩,e12,e13⟩:=F
 have apE:=I0.apart hex e13
 have apT:=I0.apart hex e11
 have hS:∀ c ∈ [ea,T],H' c=none/\VI X pins c:=fun c hc=>by
  have z:c=ea ∨ c=T:=by simpa using hc
  rcases z with rfl | rfl
  ·exact ⟨e12,apE⟩
  ·exact ⟨e10,apT⟩
 have fr:=I'.stack
 have hin:∀ y ∈ X.stack,∀ b,y.frame=some b->b ∈ [ea,T]++n6 X.stack:=fun y hy b hb=>List.mem_append_right _ (ZU hy hb)
 have fl:Heap.FlyingW (PySem.W.hideAll s1.heap ([ea,T]++n6 X.stack)) X.stack ea (.ref c) a0 s1.heap :=
  ⟨fun b o q=>PySem.W.of_hideAll _ q,PySem.W.hideAll_none _ (List.mem_append_left _ (by simp)),PySem.W.funFrames_hide fr hin,oe,vs,T,oT,ts',e1,⟨e2,e3⟩,e4,e5,PySem.W.hideAll_none _ (List.mem_append_left _ (by simp)),e6,e7,e8,e9⟩
 have fr':X.A.frames=some (X.env::X.outer):=by rw [<- hst];exact I'.ok.frames
 refine wpAny_looks_onW (outer:=X.outer) fr' hf (by rw [<- hst];exact fl) fun h4 held4 up4=>wpAny_landsW held4 fun h5 fl5 up5=>?_
 rw [<- hst] at fl5
 have up45:=Heap.UpToSlots.trans up4 up5
 have K5:=BD fr fl5.1 up45
 have I5:=I'.flown hf hst hS K5
 obtain ⟨oe5,vs5,g1,g2,g3,g4⟩:=fl5.first
 have J5:=I5.suite g1 e12 apE.loc apE.fs (fun v z=>by rw [g3] at z;cases z)
 refine wpAny_handleBy_cons (codeAny_handlers_test (wV J5 hgx hmx ?_ hd)) (by intro z;cases z)
 have LT:PySem.W.Looks (model X.prog X.w) h5 (typeOf (.ref ea)) (.ref c):=g2 ▸ (PySem.W.Looks.ld g1).andThen .now
 refine (PySem.W.exm_one I5.kIn LT hexm).here ?_
 refine codeAny_handlers_suite_as (lands_againW fl5 fun h6 fl6 up6=>?_)
 have K6:=BD fr fl6.1 (Heap.UpToSlots.trans up45 up6)
 have I6:=I'.flown hf hst hS K6
 obtain ⟨oe6,vs6,k1,k2,k3,k4⟩:=fl6.first
 have J6:=I6.suite k1 e12 apE.loc apE.fs (fun v z=>by rw [k3] at z;cases z)
 refine Ye (X:=X.suite (X.pn++pins++[(ea,oe6)]) ea) J6 hN hi (.inl hl) (v:= .ref ea) rfl (fun s7 I7=>?_) (.inl hfn)
 refine wpAny_mono (hs _ ea oe6 c k2 hcs (List.mem_append_right _ (by simp)) [] s7 _ H' _ I7 (h2 ea c H' q)) (fun f s8 q8=>?_) (fun _ _ z=>z.elim)
 cases f with
 | next =>
  obtain ⟨σ8,H8,I8,q⟩:=q8
  exact Inv.goes (I8.unsuite I.ok) hN hi hl fun s9 I9=>⟨_,_,I9,q⟩
 | brk =>
  obtain ⟨σ8,H8,I8,q⟩:=q8
  exact Inv.goes (I8.unsuite I.ok) hN hi hl fun s9 I9=>⟨_,_,I9,q⟩
 | cont =>
  obtain ⟨σ8,H8,I8,q⟩:=q8
  exact Inv.goes (I8.unsuite I.ok) hN hi hl fun s9 I9=>⟨_,_,I9,q⟩
 | ret u =>
  obtain ⟨v,σ8,H8,I8,r,q⟩:=q8
  exact Inv.goes (I8.unsuite I.ok) hN hi hl fun s9 I9=>⟨v,_,_,I9,r,q⟩
theorem HS {t:TS}(hK:X.K=K)(hb:∀ (pn:List (Addr × Obj)),PSs (X.tried pn fun _ _=>False) body t){h0:ExceptHandler}{hs:List ExceptHandler}:PS X (.Try body (h0::hs) [] [] pos) t:=by
 intro pins s σ H D I h
 refine wpAny_Try_except (wpAny_mono (hb (X.pn++pins) [] s σ H D (I.tried _) h) (fun f s1 q=>?_) fun e s1 q=>q.elim)
 have q':=SP.untried I.ok q
 cases f with
 | next=>exact wpAny_execs_nil q'
 | brk=>exact q'
 | cont=>exact q'
 | ret u=>exact q'
end
end L2
namespace Mi
open PySem L2
abbrev XM:=ME->Addr->Prop
class xY (E:XK)(te:TE)(f:XM):Prop where
 h:∀ {ε c},f ε c->∀ {Hs0 H0 Hs H σ},RS Hs0 H0 Hs H σ ε->(∀ Hs' H',Ext Hs H Hs' H'->E (.ref c) none H')->∀ {Q:VK},te σ H Q
class VL (E:XK)(ta:TA)(f:XM):Prop where
 h:∀ {ε c},f ε c->∀ {Hs0 H0 Hs H σ},RS Hs0 H0 Hs H σ ε->(∀ Hs' H',Ext Hs H Hs' H'->E (.ref c) none H')->∀ {Q:List V->Hp->Prop},ta σ H Q
class YJ (E:XK)(ti:TI)(f:XM):Prop where
 h:∀ {ε c},f ε c->∀ {Hs0 H0 Hs H σ},RS Hs0 H0 Hs H σ ε->(∀ Hs' H',Ext Hs H Hs' H'->E (.ref c) none H')->∀ {R:It->Hp->Prop},ti σ H R
class YI (E:XK)(ts:TS)(f:XM):Prop where
 h:∀ {ε c},f ε c->∀ {Hs0 H0 Hs H σ},RS Hs0 H0 Hs H σ ε->(∀ Hs' H',Ext Hs H Hs' H'->E (.ref c) none H')->∀ {D:qL},ts D σ H
class zl (E:XK)(ts:TS)(f:XM):Prop where
 h:∀ {ε c},f ε c->∀ {Hs0 H0 Hs H σ},RS Hs0 H0 Hs H σ ε->(∀ Hs' H',Ext Hs0 H0 Hs' H'->E (.ref c) none H')->∀ {D:qL},ts D σ H
def xNo:XM:=fun _ _=>False
instance (priority:=2000){E:XK}{ts:TS}:zl E ts xNo where
 h:=fun h=>h.elim
def Pm (C:Addr):XM:=fun _ c=>c=C
instance {E:XK}{C:Addr}:zl E (Yk C E) (Pm C) where
 h:=fun h _ _ _ _ _ rs q _=>by cases h;exact q _ _ rs.ext
instance {fr:Bool}{E:XK}{C:Addr}:qb fr (Yk C E) za where
 h:=fun e=>by cases e
def jU (fr:Bool)(a:MS)(xa xr:XM):XM:=fun ε c=>xa ε c ∨ ∃ ε',a ε=some (.nx ε')/\xr ε' c
instance {fr:Bool}{E:XK}{t u:TS}{a:MS}{xa xr:XM}[sa:qb fr t a][s1:zl E t xa][s2:zl E u xr]:zl E (tSeq t u) (jU fr a xa xr) where
 h:=fun h _ _ _ _ _ rs q D=>by
  rcases h with h | ⟨ε',e,h⟩
  ·exact s1.h h rs q
  ·exact sa.h e rs fun Hs H σ r=>s2.h h r q
def xIf (c:MB)(xa xb:XM):XM:=fun ε k=>∃ b,c ε=some b/\if b=true then xa ε k else xb ε k
instance {E:XK}{t:TT}{ta tb:TS}{c:MB}{xa xb:XM}[sc:qT t c][sa:zl E ta xa][sb:zl E tb xb]:zl E (Qq t ta tb) (xIf c xa xb) where
 h:=fun h _ _ _ _ _ rs q _=>by
  obtain ⟨b,e,h⟩:=h
  refine sc.h e rs fun Hs1 H1 x1=>?_
  cases b with
  | true=>exact qz (sa.h (by simpa using h) (rs.go x1) q)
  | false=>exact o8 (sb.h (by simpa using h) (rs.go x1) q)
def xX (f:XM):XM:=f
instance {E:XK}{te:TE}{f:XM}[s:xY E te f]:YI E (xT te) (xX f) where
 h:=fun h _ _ _ _ _ rs q _=>s.h h rs q
instance {E:XK}{te:TE}{f:XM}[s:xY E te f]:zl E (xT te) (xX f) where
 h:=fun h _ _ _ _ _ rs q _=>s.h h rs fun _ _ x=>q _ _ (rs.ext.trans x)
instance {E:XK}{te:TE}{f:XM}[s:xY E te f]:zl E (wy te) (xX f) where
 h:=fun h _ _ _ _ _ rs q _=>s.h h rs fun _ _ x=>q _ _ (rs.ext.trans x)
instance {E:XK}{te:TE}{g:TG}{f:XM}[s:xY E te f]:zl E (zG te g) (xX f) where
 h:=fun h _ _ _ _ _ rs q _=>s.h h rs fun _ _ x=>q _ _ (rs.ext.trans x)
instance {E:XK}{te:TE}{ta:TA}{f:XM}[s:xY E te f]:VL E (xc te ta) f where
 h:=fun h _ _ _ _ _ rs q _=>s.h h rs q
instance {E:XK}{r:List V->Hp->VK->Prop}{ta:TA}{f:XM}[s:VL E ta f]:xY E (tCB r ta) f where
 h:=fun h _ _ _ _ _ rs q _=>s.h h rs q
instance {E:XK}{K:Fg}{ta:TA}{f:XM}[s:VL E ta f]:xY E (Yh K ta) f where
 h:=fun h _ _ _ _ _ rs q _=>s.h h rs q
instance {E:XK}{K:Fg}{te:TE}{f:XM}[s:xY E te f]:YJ E (QO K te) f where
 h:=fun h _ _ _ _ _ rs q _=>s.h h rs q
instance {E:XK}{wi:TI}{g:TG}{tt:TT}{te:TE}{cap:List (Option Nat)}{f:XM}[s:YJ E wi f]:xY E (Qp wi g tt te cap) f where
 h:=fun h _ _ _ _ _ rs q _=>s.h h rs q
def n9 (ms:List Bool)(m:List PV->Option PV)(x:List PV->Addr->Prop):Sp:=fun vs H Q E=>∃ Hs xs,Same Hs H/\RepsM Hs H ms xs vs/\((∃ y,m xs=some y/\∀ v Hs' H',Ext Hs H Hs' H'->Rep Hs' y v->Q v H') ∨ ∃ c,x xs c/\∀ Hs' H',Ext Hs H Hs' H'->E (.ref c) none H')
def xH (ms:List Bool)(m:List PV->Option PV)(x:List PV->Addr->Prop):Sp:=fun vs H Q E=>∃ Hs xs,Same Hs H/\RepsM Hs H ms xs vs/\((∃ y,m xs=some y/\∀ a Hs' H',Ext Hs H Hs' H'->H a=none->Hs' a=none->Top Hs' H' a y->Q (.ref a) H') ∨ ∃ c,x xs c/\∀ Hs' H',Ext Hs H Hs' H'->E (.ref c) none H')
section
variable {ms:List Bool}{m:List PV->Option PV}{x:List PV->Addr->Prop}{ta:TA}{as:MA}{E:XK}{C:Addr}{nm:Str}{te:TE}{a:M}
instance [sa:zJ ms ta as]:SemE (xy (n9 ms m x) [] E ta) (z5 m as) where
 h:=fun e _ _ _ _ _ rs _ q=>by
  obtain ⟨xs,ex,e1⟩:=bind_some e
  exact sa.h ex rs fun vs Hs1 H1 x1 r1=>⟨Hs1,xs,x1.s3,by rw [List.append_nil];exact r1,.inl ⟨_,e1,fun v Hs' H' x r=>q v _ _ (x1.trans x) r⟩⟩
instance [sa:zJ ms ta as]:xv (xy (xH ms m x) [] E ta) (z5 m as) where
 h:=fun e _ _ _ _ _ rs _ q=>by
  obtain ⟨xs,ex,e1⟩:=bind_some e
  exact sa.h ex rs fun vs Hs1 H1 x1 r1=>⟨Hs1,xs,x1.s3,by rw [List.append_nil];exact r1,.inl ⟨_,e1,fun a Hs' H' x n n' r=>q a _ _ (x1.trans x) (x1.s2.free n) n' r⟩⟩
instance [so:SemE te a][sa:zJ ms ta as]:SemE (js C nm (n9 (false::ms) m x) [] E te ta) (qE C nm m a as) where
 h:=fun e _ _ _ _ _ rs _ q=>by
  obtain ⟨ns,fs,xs,ea,hn,e1,e2⟩:=VZ e
  refine so.h ea rs fun v Hs1 H1 x1 r1=>?_
  obtain ⟨p,dx,gs,rfl,hp,hk,hr⟩:=rep_ob.mp r1
  refine ⟨p,dx,gs,rfl,x1.s3 _ _ hp,QU (by rw [hk];exact hn),sa.h e1 (rs.go x1) fun vs Hs2 H2 x2 r2=>?_⟩
  exact ⟨Hs2,_,x2.s3,by rw [List.append_nil];exact ⟨_,_,_,_,rfl,rfl,r1.mono x2.s1,r2⟩,.inl ⟨_,e2,fun v Hs' H' x r=>q v _ _ (x1.trans (x2.trans x)) r⟩⟩
def qI (x:List PV->Addr->Prop)(as:MA):XM:=fun ε c=>∃ xs,as ε=some xs/\x xs c
def Yz (C:Addr)(nm:Str)(x:List PV->Addr->Prop)(a:M)(as:MA):XM:=fun ε c=>∃ ns fs xs,a ε=some (.ob C ns fs)/\nm ∉ ns/\as ε=some xs/\x (.ob C ns fs::xs) c
instance [sa:zJ ms ta as]:xY E (xy (n9 ms m x) [] E ta) (qI x as) where
 h:=fun h _ _ _ _ _ rs q _=>by
  obtain ⟨xs,ex,h⟩:=h
  exact sa.h ex rs fun vs Hs1 H1 x1 r1=>⟨Hs1,xs,x1.s3,by rw [List.append_nil];exact r1,.inr ⟨_,h,fun Hs' H' x=>q _ _ (x1.trans x)⟩⟩
instance [sa:zJ ms ta as]:xY E (xy (xH ms m x) [] E ta) (qI x as) where
 h:=fun h _ _ _ _ _ rs q _=>by
  obtain ⟨xs,ex,h⟩:=h
  exact sa.h ex rs fun vs Hs1 H1 x1 r1=>⟨Hs1,xs,x1.s3,by rw [List.append_nil];exact r1,.inr ⟨_,h,fun Hs' H' x=>q _ _ (x1.trans x)⟩⟩
instance [so:SemE te a][sa:zJ ms ta as]:xY E (js C nm (n9 (false::ms) m x) [] E te ta) (Yz C nm x a as) where
 h:=fun h _ _ _ _ _ rs q _=>by
  obtain ⟨ns,fs,xs,ea,hn,e1,h⟩:=h
  refine so.h ea rs fun v Hs1 H1 x1 r1=>?_
  obtain ⟨p,dx,gs,rfl,hp,hk,hr⟩:=rep_ob.mp r1
  refine ⟨p,dx,gs,rfl,x1.s3 _ _ hp,QU (by rw [hk];exact hn),sa.h e1 (rs.go x1) fun vs Hs2 H2 x2 r2=>?_⟩
  exact ⟨Hs2,_,x2.s3,by rw [List.append_nil];exact ⟨_,_,_,_,rfl,rfl,r1.mono x2.s1,r2⟩,.inr ⟨_,h,fun Hs' H' x=>q _ _ (x1.trans (x2.trans x))⟩⟩
end
def xV (n:Nat)(ms:List Bool)(f:XM):List PV->Addr->Prop:=fun xs c=>xs.length=ms.length/\f (zi ms xs++List.replicate (n - ms.length) .no) c
section
variable {P:Program}{w:World}{K:Fg}{mg:Str->Option Value}{base:Heap}
theorem jM {y qual:Str}{st:Stmt}{f:Addr}{fd:FuncData}{N ps:List Str}{k:Nat}{b:MS}{xb:XM}{ms:List Bool}{m:List PV->Option PV}{x:List PV->Addr->Prop}(F:Fun K y qual st f fd)(S:v9 N ps (j5 st))(hm:m=xQ N.length ms b)(hx:x=xV N.length ms xb)(hk:ms.length=ps.length)
  (hb:∀ (cdv:Value) (A:Around) (outer:List Env) (s:Shared) (H:Hp) (E:XK),Room k (A.deeper (PyProof.Rows.envOfC qual (j5 st) s.heap.objs.size f cdv)) ->
   ∃ t,PSs (xh (o6 P w) P w K mg base N qual (j5 st) f cdv A outer s H E) (qy st) t/\qb false t b/\zl E t xb):FnOk P w K mg base (o6 P w) (k + 1) f fd ps (n9 ms m x):=by
 subst hm
 subst hx
 refine F.ok1 S (fun vs H Q E h=>?_) (fun cdv A outer s H vs Q E hr h=>?_)
 ·obtain ⟨Hs,xs,_,r,_⟩:=h
  rw [r.length.2];exact hk
 ·obtain ⟨Hs,xs,sm,r,h⟩:=h
  obtain ⟨t,ht,sem,semx⟩:=hb cdv A outer s H E hr
  refine ⟨t,ht,?_⟩
  rcases h with ⟨y,e,q⟩ | ⟨c,h,q⟩
  ·unfold xQ at e
   split at e
   ·obtain ⟨o,eo,e1⟩:=bind_some e
    refine sem.h eo (XJ sm r) ?_
    cases o with
    | rt z=>cases e1;exact fun v Hs' H' x rv=>q v Hs' H' x rv
    | nx ε=>cases e1;exact fun Hs' H' σ rs=>q _ Hs' H' rs.ext (rep_at.mpr rfl)
    | bk ε=>cases e1
    | ct ε=>cases e1
   ·cases e
  ·exact semx.h h.2 (XJ sm r) q
theorem okOX {y qual:Str}{st:Stmt}{f:Addr}{fd:FuncData}{N ps:List Str}{k:Nat}{b:MS}{xb:XM}{ms:List Bool}{m:List PV->Option PV}{x:List PV->Addr->Prop}(F:Fun K y qual st f fd)(S:v9 N ps (j5 st))(hm:m=vM N.length ms b)(hx:x=xV N.length ms xb)(hk:ms.length=ps.length)
  (hb:∀ (cdv:Value) (A:Around) (outer:List Env) (s:Shared) (H:Hp) (E:XK),Room k (A.deeper (PyProof.Rows.envOfC qual (j5 st) s.heap.objs.size f cdv)) ->
   ∃ t,PSs (xh (o6 P w) P w K mg base N qual (j5 st) f cdv A outer s H E) (qy st) t/\qb true t b/\zl E t xb):FnOk P w K mg base (o6 P w) (k + 1) f fd ps (xH ms m x):=by
 subst hm
 subst hx
 refine F.ok1 S (fun vs H Q E h=>?_) (fun cdv A outer s H vs Q E hr h=>?_)
 ·obtain ⟨Hs,xs,_,r,_⟩:=h
  rw [r.length.2];exact hk
 ·obtain ⟨Hs,xs,sm,r,h⟩:=h
  obtain ⟨t,ht,sem,semx⟩:=hb cdv A outer s H E hr
  refine ⟨t,ht,?_⟩
  rcases h with ⟨y,e,q⟩ | ⟨c,h,q⟩
  ·unfold vM at e
   split at e
   ·obtain ⟨o,eo,e1⟩:=bind_some e
    refine sem.h eo (XJ sm r) ?_
    cases o with
    | rt z=>cases e1;exact fun a Hs' H' x n n' t=>q a Hs' H' x n n' t
    | nx ε=>cases e1
    | bk ε=>cases e1
    | ct ε=>cases e1
   ·cases e
  ·exact semx.h h.2 (XJ sm r) q
end
abbrev RM:=ME->Out->Prop
class jX (fr:Bool)(ts:TS)(r:RM):Prop where
 h:∀ {ε o},r ε o->∀ {Hs0 H0 Hs H σ},RS Hs0 H0 Hs H σ ε->∀ {D:qL},OutK fr Hs0 H0 D o->ts D σ H
variable {fr:Bool}
def rP (b:MS):RM:=fun ε o=>b ε=some o
instance {t:TS}{b:MS}[s:qb fr t b]:jX fr t (rP b) where
 h:=fun e=>s.h e
def wp (a b:RM):RM:=fun ε o=>(∃ ε',a ε (.nx ε')/\b ε' o) ∨ (∃ y,o = .rt y/\a ε (.rt y))
instance {t u:TS}{a b:RM}[sa:jX fr t a][sb:jX fr u b]:jX fr (tSeq t u) (wp a b) where
 h:=fun h _ _ _ _ _ rs D q=>by
  rcases h with ⟨ε',h1,h2⟩ | ⟨y,rfl,h⟩
  ·exact sa.h h1 rs fun Hs H σ r=>sb.h h2 r q
  ·exact sa.h h rs q
def Qn (g:MG)(f:RM):List PV->RM
 | []=>fun ε o=>o = .nx ε
 | x::xs=>fun ε o=>∃ ε1 o1,g x ε=some ε1/\f ε1 o1/\match o1 with
  | .nx ε2=>Qn g f xs ε2 o
  | .ct ε2=>Qn g f xs ε2 o
  | .bk ε2=>o = .nx ε2
  | .rt y=>o = .rt y
def rFor (i:MA)(g:MG)(f:RM):RM:=fun ε o=>∃ xs,i ε=some xs/\Qn g f xs ε o
instance {wi:TI}{tg:TG}{ts:List Nat}{tb:TS}{i:MA}{g:MG}{f:RM}[si:zv wi i][sg:jz tg ts g][sf:jX fr tb f]:jX fr (tFor wi tg tb) (rFor i g f) where
 h:=fun {ε0 o0} e Hs0 H0 _ _ _ rs D q=>by
  obtain ⟨xs,ex,e1⟩:=e
  refine si.h ex rs fun J Hs1 H1 x1 ok=>?_
  have rs1:=rs.go x1
  have q1:=OutK.unbase rs1.ext q
  refine ⟨fun k m σ H=>m=xs.length - k/\k<=xs.length/\∃ Hs ε,RS Hs1 H0 Hs H σ ε/\Qn g f (xs.drop k) ε o0,⟨xs.length,by simp,Nat.zero_le _,Hs1,_,rs1.rebase,e1⟩,?_⟩
  rintro k m σ H ⟨rfl,hk,Hs,ε,r,el⟩
  by_cases hlt:k < xs.length
  ·have hd:xs.drop k=xs[k]::xs.drop (k + 1):=List.drop_eq_getElem_cons hlt
   rw [hd] at el
   obtain ⟨ε1,o,eg,eo,el2⟩:=el
   obtain ⟨go,yl⟩:=ok.go k xs[k] Hs H (by simp [hlt]) r.ext.s1 r.ext.s3
   refine .inr ⟨go,fun σ' H'=>k + 1<=xs.length/\∃ Hs ε,RS Hs1 H0 Hs H' σ' ε/\Qn g f (xs.drop (k + 1)) ε o0,fun σ' H' p=>⟨xs.length - (k + 1),by omega,rfl,p.1,p.2⟩,fun v H2 y=>?_⟩
   obtain ⟨Hs2,x2,r2⟩:=yl v H2 y
   refine sg.h eg (r.go x2) r2 fun σ2 rs2 _=>sf.h eo rs2 ?_
   cases o with
   | nx ε2=>exact fun Hs3 H3 σ3 r3=>⟨hlt,Hs3,ε2,r3,el2⟩
   | ct ε2=>exact fun Hs3 H3 σ3 r3=>⟨hlt,Hs3,ε2,r3,el2⟩
   | bk ε2 =>
    have e2:o0 = .nx ε2:=el2
    subst e2
    exact q1
   | rt y =>
    have e2:o0 = .rt y:=el2
    subst e2
    exact q1
  ·have ek:k=xs.length:=by omega
   subst ek
   rw [List.drop_length] at el
   have e2:o0 = .nx ε:=el
   subst e2
   exact .inl ⟨ok.stop Hs H r.ext.s1 r.ext.s3,q1 _ _ _ r⟩
theorem RS.drop {Hs0 H0 Hs H:Hp}{σ:St}{ε:ME}(r:RS Hs0 H0 Hs H σ ε)(i:Nat):RS Hs0 H0 Hs H (σ.set i none) (ε.set i .no):=by
 have dn:∀ (j:Nat) (s:MSlot),(ε.set i .no)[j]?=some s->s = .no ∨ (i ≠ j/\ε[j]?=some s):=fun j s q=>by
  rw [List.getElem?_set] at q
  split at q
  ·split at q
   ·cases q;exact .inl rfl
   ·cases q
  ·rename_i h;exact .inr ⟨h,q⟩
 have up:∀ (j:Nat),i ≠ j->(σ.set i none)[j]?=σ[j]?:=fun j h=>List.getElem?_set_ne h
 refine ⟨r.ext,fun j x q=>?_,fun j x q=>?_,fun j k x y a h1 h2 h3 h4=>?_,by rw [List.length_set,List.length_set,r.len],fun j x q=>?_⟩
 ·rcases dn j _ q with z | ⟨h,q⟩
  ·cases z
  ·rw [up j h];exact r.sh j x q
 ·rcases dn j _ q with z | ⟨h,q⟩
  ·cases z
  ·rw [up j h];exact r.ow j x q
 ·rcases dn j _ h1 with z | ⟨g1,q1⟩
  ·cases z
  ·rcases dn k _ h2 with z | ⟨g2,q2⟩
   ·cases z
   ·rw [up j g1] at h3
    rw [up k g2] at h4
    exact r.nd j k x y a q1 q2 h3 h4
 ·rcases dn j _ q with z | ⟨h,q⟩
  ·cases z
  ·rw [up j h];exact r.bo j x q
def clr (i:Nat):Out->Out
 | .nx ε=> .nx (ε.set i .no)
 | .bk ε=> .bk (ε.set i .no)
 | .ct ε=> .ct (ε.set i .no)
 | .rt y=> .rt y
def rTry (K:Fg)(D0:Addr)(cs:List Addr)(i:Nat)(b:MS)(xb:XM)(s:Addr->Addr->MS):RM:=fun ε o=>b ε=some o ∨ ∃ c,c ∈ cs/\PySem.W.exmOne K (.ref c) (.ref D0)=some true/\xb ε c/\∀ ea:Addr,∃ o',s ea c (ε.set i (.sh (.at (.ref ea))))=some o'/\clr i o'=o
instance {K:Fg}{D0:Addr}{cs:List Addr}{i:Nat}{tb:XK->TS}{ts:Addr->Addr->TS}{b:MS}{xb:XM}{s:Addr->Addr->MS}[sb:∀ E,qb fr (tb E) b][sx:∀ E,YI E (tb E) xb][ss:∀ ea c,qb fr (ts ea c) (s ea c)]:jX fr (BN K D0 cs i tb ts) (rTry K D0 cs i b xb s) where
 h:=fun {ε o} h Hs0 H0 Hs H σ rs D q=>by
  rcases h with h | ⟨c,hc,hm,hx,hs⟩
  ·exact ⟨E0,fun _ _ z=>z.elim,(sb E0).h h rs q,fun _ _ _ z=>z.elim⟩
  ·refine ⟨fun cls _ H'=>cls = .ref c/\∃ Hs',Ext Hs H Hs' H',fun cls H' z=>⟨c,hc,z.1,by rw [z.1];exact hm⟩,(sx _).h hx rs fun Hs' H' x=>⟨rfl,Hs',x⟩,fun ea c' H' z=>?_⟩
   obtain ⟨z1,Hs',x⟩:=z
   cases z1
   obtain ⟨o',e',rfl⟩:=hs ea
   refine (ss ea c).h e' ((rs.go x).put (i:=i) (x:= .at (.ref ea)) (v:= .ref ea) (rep_at.mpr rfl)) ?_
   cases o' with
   | nx ε2=>exact fun Hs2 H2 σ2 r2=>q _ _ _ (r2.drop i)
   | bk ε2=>exact fun Hs2 H2 σ2 r2=>q _ _ _ (r2.drop i)
   | ct ε2=>exact fun Hs2 H2 σ2 r2=>q _ _ _ (r2.drop i)
   | rt y=>exact q
def rFn (n k:Nat)(r:RM):List PV->PV->Prop:=fun xs y=>xs.length=k/\∃ o,r (xs.map .sh++List.replicate (n - k) .no) o/\match o with
 | .rt z=>y=z
 | .nx _=>y = .at .non
 | _=>False
section
variable {P:Program}{w:World}{K:Fg}{mg:Str->Option Value}{base:Heap}
theorem okT {x qual:Str}{st:Stmt}{f:Addr}{fd:FuncData}{N ps:List Str}{k:Nat}{r:RM}{m:List PV->Option PV}(F:Fun K x qual st f fd)(S:v9 N ps (j5 st))(hm:∀ xs y,m xs=some y->rFn N.length ps.length r xs y)
  (hb:∀ (cdv:Value) (A:Around) (outer:List Env) (s:Shared) (H:Hp) (E:XK),Room k (A.deeper (PyProof.Rows.envOfC qual (j5 st) s.heap.objs.size f cdv)) ->
   ∃ t,PSs (xh v7 P w K mg base N qual (j5 st) f cdv A outer s H E).nox (qy st) t/\jX false t r):FnOk P w K mg base v7 (k + 1) f fd ps (v4 m):=by
 refine F.ok S (fun vs H Q E h=>?_) (fun cdv A outer s H vs Q E hr h=>?_)
 ·obtain ⟨Hs,xs,y,_,r,e,_⟩:=h
  rw [r.length];exact (hm xs y e).1
 ·obtain ⟨Hs,xs,y,sm,rr,e,q⟩:=h
  obtain ⟨t,ht,sem⟩:=hb cdv A outer s H E hr
  refine ⟨t,ht,?_⟩
  obtain ⟨hl,o,eo,e1⟩:=hm xs y e
  refine sem.h eo (by rw [<- hl];exact wu sm rr) ?_
  cases o with
  | rt z =>
   have e2:y=z:=e1
   subst e2
   exact fun v Hs' H' x rv=>q v Hs' H' x rv
  | nx ε =>
   have e2:y = .at .non:=e1
   subst e2
   exact fun Hs' H' σ rs=>q _ Hs' H' rs.ext (rep_at.mpr rfl)
  | bk ε=>exact e1.elim
  | ct ε=>exact e1.elim
end
def qC:V->Option Value
 | .ref a=>some (.ref a)
 | .ty n=>some (.type n)
 | _=>none
theorem BZ {v:V}{d:Value}(h:qC v=some d):∀ u,RelV v u->u=d:=by
 intro u r
 unfold qC at h
 split at h
 ·cases h;exact r
 ·cases h;exact r
 ·cases h
def XW:List V->Option (List Value)
 | []=>some []
 | v::vs=>(qC v).bind fun d=>(XW vs).bind fun ds=>some (d::ds)
theorem Pa:∀ {vs:List V} {ds:List Value},XW vs=some ds->∀ us,Vals vs us->us=ds
 | [],ds,h,us,r=>by cases h;cases r;rfl
 | v::vs,ds,h,us,r=>by
  unfold XW at h
  obtain ⟨d,e1,h⟩:=bind_some h
  obtain ⟨dr,e2,h⟩:=bind_some h
  cases h
  cases r with
  | cons r1 r2=>rw [BZ e1 _ r1,Pa e2 _ r2]
abbrev rIsx (K:Fg)(ea C:Addr):List V->Hp->VK->Prop:=fun xs H Q=>∃ (c:V) (d:Value) (b:Bool),xs=[.ref ea,c]/\(∀ u,RelV c u->u=d)/\PySem.W.kitOne K (.ref C) d=some b/\Q (.bl b) H
abbrev rIsxT (K:Fg)(ea C:Addr):List V->Hp->VK->Prop:=fun xs H Q=>∃ (t:Addr) (cs:List V) (ds:List Value) (b:Bool),xs=[.ref ea,.ref t]/\H t=some (.tup cs)/\(∀ us,Vals cs us->us=ds)/\PySem.W.kitAny K (.ref C) ds=some b/\Q (.bl b) H
def wf (K:Fg)(ea C:Addr):List PV->Option PV
 | [.at (.ref a),.at v]=>if a=ea then (qC v).bind fun d=>(PySem.W.kitOne K (.ref C) d).bind fun b=>some (.at (.bl b)) else none
 | _=>none
def Xu (K:Fg)(ea C:Addr):List PV->Option PV
 | [.at (.ref a),.tup xs]=>if a=ea then (ats xs).bind fun vs=>(XW vs).bind fun ds=>(PySem.W.kitAny K (.ref C) ds).bind fun b=>some (.at (.bl b)) else none
 | _=>none
instance {K:Fg}{ea C:Addr}:jy (rIsx K ea C) (wf K ea C) where
 h:=fun {xs z} e {Hs H vs} s r {Q} q=>by
  unfold wf at e
  split at e
  ·split at e
   ·rename_i ha
    subst ha
    obtain ⟨d,e1,e⟩:=bind_some e
    obtain ⟨b,e2,e⟩:=bind_some e
    cases e
    obtain ⟨v,w,rfl,a,c⟩:=Ji r
    cases u8 a
    cases u8 c
    exact ⟨_,d,b,rfl,BZ e1,e2,q _ _ _ (.refl s) (rep_at.mpr rfl)⟩
   ·cases e
  ·cases e
instance {K:Fg}{ea C:Addr}:jy (rIsxT K ea C) (Xu K ea C) where
 h:=fun {xs z} e {Hs H vs} s r {Q} q=>by
  unfold Xu at e
  split at e
  ·split at e
   ·rename_i ha
    subst ha
    obtain ⟨us,e0,e⟩:=bind_some e
    obtain ⟨ds,e1,e⟩:=bind_some e
    obtain ⟨b,e2,e⟩:=bind_some e
    cases e
    obtain ⟨v,w,rfl,a,c⟩:=Ji r
    cases u8 a
    obtain ⟨p,ws,rfl,hp,rt⟩:=xG s c
    rw [wJ e0] at rt
    cases rt.ats
    exact ⟨p,_,ds,b,rfl,hp,Pa e1,e2,q _ _ _ (.refl s) (rep_at.mpr rfl)⟩
   ·cases e
  ·cases e
theorem Wl {K:Fg}:∀ c ∈ ([]:List Addr),zt K c:=fun _ z=>nomatch z
theorem Wj {K:Fg}{C:Addr}{cs:List Addr}(h:zt K C)(r:∀ c ∈ cs,zt K c):∀ c ∈ C::cs,zt K c:=fun c hc=>by
 rcases List.mem_cons.mp hc with rfl | hc
 ·exact h
 ·exact r c hc
end Mi
namespace Mi
open PySem L2
inductive DT where
 | sh (x:PV) | ls (xs:List DT)
mutual
def DT.pv:DT->PV
 | .sh x=>x
 | .ls xs=> .lst (DT.pvs xs)
def DT.pvs:List DT->List PV
 | []=>[]
 | x::xs=>x.pv::DT.pvs xs
end
mutual
def Dp (Hs H:Hp):DT->V->List Addr->Prop
 | .sh x,v,F=>F=[]/\Rep Hs x v
 | .ls xs,v,F=>∃ a vs G,v = .ref a/\H a=some (.lst vs)/\Dps Hs H xs vs G/\F=a::G/\a ∉ G
def Dps (Hs H:Hp):List DT->List V->List Addr->Prop
 | [],vs,F=>vs=[]/\F=[]
 | x::xs,vs,F=>∃ v r F1 F2,vs=v::r/\Dp Hs H x v F1/\Dps Hs H xs r F2/\F=F1++F2/\∀ a ∈ F1,a ∉ F2
end
theorem dp_sh {Hs H:Hp}{x:PV}{v:V}{F:List Addr}:Dp Hs H (.sh x) v F ↔ F=[]/\Rep Hs x v:=by unfold Dp;exact Iff.rfl
theorem dp_ls {Hs H:Hp}{xs:List DT}{v:V}{F:List Addr}:Dp Hs H (.ls xs) v F ↔ ∃ a vs G,v = .ref a/\H a=some (.lst vs)/\Dps Hs H xs vs G/\F=a::G/\a ∉ G:=by
 constructor
 ·intro h;unfold Dp at h;exact h
 ·intro h;unfold Dp;exact h
theorem dps_nil {Hs H:Hp}{vs:List V}{F:List Addr}:Dps Hs H [] vs F ↔ vs=[]/\F=[]:=by unfold Dps;exact Iff.rfl
theorem dps_cons {Hs H:Hp}{x:DT}{xs:List DT}{vs:List V}{F:List Addr}:Dps Hs H (x::xs) vs F ↔ ∃ v r F1 F2,vs=v::r/\Dp Hs H x v F1/\Dps Hs H xs r F2/\F=F1++F2/\∀ a ∈ F1,a ∉ F2:=by
 constructor
 ·intro h;unfold Dps at h;exact h
 ·intro h;unfold Dps;exact h
mutual
theorem Dp.mono {Hs H Hs' H':Hp}(g:Same Hs Hs'):∀ {x:DT} {v:V} {F:List Addr},(∀ b ∈ F,∀ o,H b=some o->H' b=some o)->Dp Hs H x v F->Dp Hs' H' x v F
 | .sh x,v,F,k,h=>by obtain ⟨e,r⟩:=dp_sh.mp h;exact dp_sh.mpr ⟨e,r.mono g⟩
 | .ls xs,v,F,k,h=>by
  obtain ⟨a,vs,G,e,ha,hd,rfl,hn⟩:=dp_ls.mp h
  exact dp_ls.mpr ⟨a,vs,G,e,k a List.mem_cons_self _ ha,Dps.mono g (fun b hb=>k b (List.mem_cons_of_mem _ hb)) hd,rfl,hn⟩
theorem Dps.mono {Hs H Hs' H':Hp}(g:Same Hs Hs'):∀ {xs:List DT} {vs:List V} {F:List Addr},(∀ b ∈ F,∀ o,H b=some o->H' b=some o)->Dps Hs H xs vs F->Dps Hs' H' xs vs F
 | [],vs,F,k,h=>dps_nil.mpr (dps_nil.mp h)
 | x::xs,vs,F,k,h=>by
  obtain ⟨v,r,F1,F2,e,h1,h2,rfl,hn⟩:=dps_cons.mp h
  exact dps_cons.mpr ⟨v,r,F1,F2,e,Dp.mono g (fun b hb=>k b (List.mem_append_left _ hb)) h1,Dps.mono g (fun b hb=>k b (List.mem_append_right _ hb)) h2,rfl,hn⟩
end
mutual
theorem Dp.rep {Hs H Hp':Hp}(g:Same Hs Hp'):∀ {x:DT} {v:V} {F:List Addr},(∀ b ∈ F,∀ o,H b=some o->Hp' b=some o)->Dp Hs H x v F->Rep Hp' x.pv v
 | .sh x,v,F,k,h=>by obtain ⟨e,r⟩:=dp_sh.mp h;exact (show Rep Hp' x v from r.mono g)
 | .ls xs,v,F,k,h=>by
  obtain ⟨a,vs,G,e,ha,hd,rfl,hn⟩:=dp_ls.mp h
  exact (show Rep Hp' (.lst (DT.pvs xs)) v from rep_lst.mpr ⟨a,vs,e,k a List.mem_cons_self _ ha,Dps.reps g (fun b hb=>k b (List.mem_cons_of_mem _ hb)) hd⟩)
theorem Dps.reps {Hs H Hp':Hp}(g:Same Hs Hp'):∀ {xs:List DT} {vs:List V} {F:List Addr},(∀ b ∈ F,∀ o,H b=some o->Hp' b=some o)->Dps Hs H xs vs F->Reps Hp' (DT.pvs xs) vs
 | [],vs,F,k,h=>by rw [(dps_nil.mp h).1];exact .nil
 | x::xs,vs,F,k,h=>by
  obtain ⟨v,r,F1,F2,rfl,h1,h2,rfl,hn⟩:=dps_cons.mp h
  exact (show Reps Hp' (x.pv::DT.pvs xs) (v::r) from .cons (Dp.rep g (fun b hb=>k b (List.mem_append_left _ hb)) h1) (Dps.reps g (fun b hb=>k b (List.mem_append_right _ hb)) h2))
end
mutual
theorem Dp.live {Hs H:Hp}:∀ {x:DT} {v:V} {F:List Addr},Dp Hs H x v F->∀ b ∈ F,H b ≠ none
 | .sh x,v,F,h,b,hb=>by rw [(dp_sh.mp h).1] at hb;cases hb
 | .ls xs,v,F,h,b,hb=>by
  obtain ⟨a,vs,G,e,ha,hd,rfl,hn⟩:=dp_ls.mp h
  rcases List.mem_cons.mp hb with rfl | hb
  ·rw [ha];exact fun z=>nomatch z
  ·exact Dps.live hd b hb
theorem Dps.live {Hs H:Hp}:∀ {xs:List DT} {vs:List V} {F:List Addr},Dps Hs H xs vs F->∀ b ∈ F,H b ≠ none
 | [],vs,F,h,b,hb=>by rw [(dps_nil.mp h).2] at hb;cases hb
 | x::xs,vs,F,h,b,hb=>by
  obtain ⟨v,r,F1,F2,e,h1,h2,rfl,hn⟩:=dps_cons.mp h
  rcases List.mem_append.mp hb with hb | hb
  ·exact Dp.live h1 b hb
  ·exact Dps.live h2 b hb
end
theorem Dps.length {Hs H:Hp}:∀ {xs:List DT} {vs:List V} {F:List Addr},Dps Hs H xs vs F->vs.length=xs.length
 | [],vs,F,h=>by rw [(dps_nil.mp h).1];rfl
 | x::xs,vs,F,h=>by
  obtain ⟨v,r,F1,F2,rfl,h1,h2,rfl,hn⟩:=dps_cons.mp h
  rw [List.length_cons,List.length_cons,Dps.length h2]
theorem Dps.snoc {Hs H:Hp}{y:DT}{w:V}{Fy:List Addr}(hy:Dp Hs H y w Fy):∀ {xs:List DT} {vs:List V} {F:List Addr},Dps Hs H xs vs F->(∀ a ∈ F,a ∉ Fy)->Dps Hs H (xs++[y]) (vs++[w]) (F++Fy)
 | [],vs,F,h,hn=>by
  obtain ⟨rfl,rfl⟩:=dps_nil.mp h
  exact dps_cons.mpr ⟨w,[],Fy,[],rfl,hy,dps_nil.mpr ⟨rfl,rfl⟩,by simp,fun _ _ z=>nomatch z⟩
 | x::xs,vs,F,h,hn=>by
  obtain ⟨v,r,F1,F2,rfl,h1,h2,rfl,hd⟩:=dps_cons.mp h
  refine dps_cons.mpr ⟨v,r++[w],F1,F2++Fy,rfl,h1,Dps.snoc hy h2 fun a ha=>hn a (List.mem_append_right _ ha),by rw [List.append_assoc],fun a ha z=>?_⟩
  rcases List.mem_append.mp z with z | z
  ·exact hd a ha z
  ·exact hn a (List.mem_append_left _ ha) z
theorem Dps.ofSh {Hs H:Hp}:∀ {xs:List PV} {vs:List V},Reps Hs xs vs->Dps Hs H (xs.map .sh) vs []
 | [],vs,h=>dps_nil.mpr ⟨reps_nil.mp h,rfl⟩
 | x::xs,vs,h=>by
  obtain ⟨v,r,rfl,p,q⟩:=reps_cons.mp h
  exact dps_cons.mpr ⟨v,r,[],[],rfl,dp_sh.mpr ⟨rfl,p⟩,Dps.ofSh q,rfl,fun _ z=>nomatch z⟩
theorem Dps.focus {Hs H:Hp}:∀ {xs:List DT} {vs:List V} {G:List Addr} {k:Nat} {z:DT},Dps Hs H xs vs G->xs[k]?=some z->∃ w F1,vs[k]?=some w/\Dp Hs H z w F1/\(∀ c ∈ F1,c ∈ G) /\
  ∀ (H':Hp) (z':DT) (F1':List Addr),Dp Hs H' z' w F1'->(∀ c ∈ G,c ∉ F1->∀ o,H c=some o->H' c=some o)->(∀ c ∈ F1',c ∈ F1 ∨ c ∉ G)->∃ G',Dps Hs H' (xs.set k z') vs G'/\∀ c ∈ G',c ∈ G ∨ c ∈ F1'
 | [],vs,G,k,z,h,e=>by simp at e
 | x::xs,vs,G,0,z,h,e=>by
  obtain ⟨v,r,F1,F2,rfl,h1,h2,rfl,hd⟩:=dps_cons.mp h
  simp at e;subst e
  refine ⟨v,F1,rfl,h1,fun c hc=>List.mem_append_left _ hc,fun H' z' F1' h' keep new=>⟨F1'++F2,dps_cons.mpr ⟨v,r,F1',F2,rfl,h',h2.mono (.refl _) (fun b hb o ho=>keep b (List.mem_append_right _ hb) (fun q=>hd b q hb) o ho),rfl,fun a ha q=>?_⟩,fun c hc=>?_⟩⟩
  ·rcases new a ha with w | w
   ·exact hd a w q
   ·exact w (List.mem_append_right _ q)
  ·rcases List.mem_append.mp hc with w | w
   ·exact .inr w
   ·exact .inl (List.mem_append_right _ w)
 | x::xs,vs,G,k + 1,z,h,e=>by
  obtain ⟨v,r,F1,F2,rfl,h1,h2,rfl,hd⟩:=dps_cons.mp h
  obtain ⟨w,E,e1,e2,e3,e4⟩:=Dps.focus (k:=k) (z:=z) h2 (by simpa using e)
  refine ⟨w,E,by simpa using e1,e2,fun c hc=>List.mem_append_right _ (e3 c hc),fun H' z' F1' h' keep new=>?_⟩
  obtain ⟨G',g1,g2⟩:=e4 H' z' F1' h' (fun c hc hn o ho=>keep c (List.mem_append_right _ hc) hn o ho) (fun c hc=>(new c hc).imp id fun q w=>q (List.mem_append_right _ w))
  refine ⟨F1++G',dps_cons.mpr ⟨v,r,F1,G',rfl,h1.mono (.refl _) (fun b hb o ho=>keep b (List.mem_append_left _ hb) (fun q=>hd b hb (e3 b q)) o ho),g1,rfl,fun a ha q=>?_⟩,fun c hc=>?_⟩
  ·rcases g2 a q with y | y
   ·exact hd a ha y
   ·rcases new a y with u | u
    ·exact hd a ha (e3 a u)
    ·exact u (List.mem_append_left _ ha)
  ·rcases List.mem_append.mp hc with y | y
   ·exact .inl (List.mem_append_left _ y)
   ·exact (g2 c y).imp (fun u=>List.mem_append_right _ u) id
def jR (H:Hp):V->List Int->V->Prop
 | v,[],u=>u=v
 | v,i::p,u=>∃ a vs w,v = .ref a/\H a=some (.lst vs)/\atI vs i=some w/\jR H w p u
theorem Bg {H:Hp}{i:Int}{u:V}:∀ {is:List Int} {v:V},jR H v (is++[i]) u->∃ a vs,jR H v is (.ref a)/\H a=some (.lst vs)/\atI vs i=some u
 | [],v,h=>by
  obtain ⟨a,vs,w,rfl,ha,hw,e⟩:=h
  have e':u=w:=e
  subst e'
  exact ⟨a,vs,rfl,ha,hw⟩
 | k::is,v,h=>by
  obtain ⟨a,vs,w,rfl,ha,hw,e⟩:=h
  obtain ⟨b,ws,e1,e2,e3⟩:=Bg (is:=is) (v:=w) e
  exact ⟨b,ws,⟨a,vs,w,rfl,ha,hw,e1⟩,e2,e3⟩
def DT.chg (f:List DT->Option (List DT)):List Int->DT->Option DT
 | [],.ls xs=>(f xs).map .ls
 | i::p,.ls xs=>(qW xs.length i).bind fun k=>(xs[k]?).bind fun z=>(DT.chg f p z).bind fun z'=>some (.ls (xs.set k z'))
 | _,_=>none
theorem Dp.chg {Hs H:Hp}{f:List DT->Option (List DT)}:∀ {p:List Int} {x x':DT} {v:V} {F:List Addr},Dp Hs H x v F->DT.chg f p x=some x' ->
  ∃ (b:Addr) (ws:List V) (G:List Addr) (xs ys:List DT),jR H v p (.ref b)/\H b=some (.lst ws)/\Dps Hs H xs ws G/\b ∉ G/\(∀ c ∈ b::G,c ∈ F)/\f xs=some ys /\
   ∀ (H':Hp) (ws':List V) (G':List Addr),H' b=some (.lst ws')->(∀ c,c ≠ b->∀ o,H c=some o->H' c=some o)->Dps Hs H' ys ws' G'->b ∉ G'->(∀ c ∈ G',c ∈ G ∨ c ∉ F)->∃ F',Dp Hs H' x' v F'/\∀ c ∈ F',c ∈ F ∨ c ∈ G'
 | [],.sh y,x',v,F,h,e=>by cases e
 | _::_,.sh y,x',v,F,h,e=>by cases e
 | [],.ls xs,x',v,F,h,e=>by
  obtain ⟨a,vs,G,rfl,ha,hd,rfl,hn⟩:=dp_ls.mp h
  obtain ⟨ys,ef,rfl⟩:=Option.map_eq_some_iff.mp e
  refine ⟨a,vs,G,xs,ys,rfl,ha,hd,hn,fun c hc=>hc,ef,fun H' ws' G' h1 _ h2 h3 h4=>⟨a::G',dp_ls.mpr ⟨a,ws',G',rfl,h1,h2,rfl,h3⟩,fun c hc=>?_⟩⟩
  rcases List.mem_cons.mp hc with rfl | hc
  ·exact .inl List.mem_cons_self
  ·exact .inr hc
 | i::p,.ls xs,x',v,F,h,e=>by
  obtain ⟨a,vs,G,rfl,ha,hd,rfl,hn⟩:=dp_ls.mp h
  unfold DT.chg at e
  obtain ⟨k,ek,e⟩:=bind_some e
  obtain ⟨z,ez,e⟩:=bind_some e
  obtain ⟨z',ez',e⟩:=bind_some e
  cases e
  obtain ⟨w,F1,ew,dz,sub,put⟩:=hd.focus ez
  obtain ⟨b,ws,G1,us,ys,r1,r2,r3,r4,r5,r6,r7⟩:=Dp.chg (p:=p) dz ez'
  have hba:b ≠ a:=fun q=>hn (q ▸ sub b (r5 b List.mem_cons_self))
  refine ⟨b,ws,G1,us,ys,⟨a,vs,w,rfl,ha,?_,r1⟩,r2,r3,r4,fun c hc=>List.mem_cons_of_mem _ (sub c (r5 c hc)),r6,fun H' ws' G' h1 keep h2 h3 h4=>?_⟩
  ·unfold atI
   rw [hd.length,ek]
   exact ew
  ·obtain ⟨F1',d1,d2⟩:=r7 H' ws' G' h1 keep h2 h3 (fun c hc=>(h4 c hc).imp id fun q u=>q (List.mem_cons_of_mem _ (sub c u)))
   have new:∀ c ∈ F1',c ∈ F1 ∨ c ∉ G:=fun c hc=>by
    rcases d2 c hc with q | q
    ·exact .inl q
    ·rcases h4 c q with u | u
     ·exact .inl (r5 c (List.mem_cons_of_mem _ u))
     ·exact .inr fun y=>u (List.mem_cons_of_mem _ y)
   obtain ⟨G'',g1,g2⟩:=put H' z' F1' d1 (fun c hc hnc o ho=>keep c (fun q=>hnc (q ▸ r5 b List.mem_cons_self)) o ho) new
   have up:∀ c ∈ G'',c ∈ G ∨ c ∈ G':=fun c hc=>by
    rcases g2 c hc with q | q
    ·exact .inl q
    ·rcases d2 c q with u | u
     ·exact .inl (sub c u)
     ·exact .inr u
   refine ⟨a::G'',dp_ls.mpr ⟨a,vs,G'',rfl,keep a (Ne.symm hba) _ ha,g1,rfl,fun q=>?_⟩,fun c hc=>?_⟩
   ·rcases up a q with u | u
    ·exact hn u
    ·rcases h4 a u with y | y
     ·exact hn (sub a (r5 a (List.mem_cons_of_mem _ y)))
     ·exact y List.mem_cons_self
   ·rcases List.mem_cons.mp hc with rfl | hc
    ·exact .inl List.mem_cons_self
    ·exact (up c hc).imp (fun u=>List.mem_cons_of_mem _ u) id
end Mi
namespace Mi
open PySem L2
def AllSh (ε:ME):Prop:=∀ (i:Nat) (s:MSlot),ε[i]?=some s->s = .no ∨ ∃ x,s = .sh x
theorem AllSh.set {ε:ME}(h:AllSh ε)(i:Nat)(x:PV):AllSh (ε.set i (.sh x)):=fun k s q=>by
 rw [List.getElem?_set] at q
 split at q
 ·split at q
  ·cases q;exact .inr ⟨x,rfl⟩
  ·cases q
 ·exact h k s q
section
variable {j:Nat}{Hs0 H0 Hs H Hs' H':Hp}{σ σ':St}{ε ε':ME}
theorem RS.here (r:RS Hs0 H0 Hs H σ ε)(all:AllSh ε):RS Hs H Hs H σ ε where
 ext:= .refl r.sub
 sh:=r.sh
 ow:=fun i x h=>by rcases all i _ h with z | ⟨y,z⟩ <;> cases z
 nd:=fun i _ x _ _ h=>by rcases all i _ h with z | ⟨y,z⟩ <;> cases z
 len:=r.len
 bo:=fun i x h=>by rcases all i _ h with z | ⟨y,z⟩ <;> cases z
theorem RS.back (e:Ext Hs0 H0 Hs H)(r:RS Hs H Hs' H' σ' ε')(all:AllSh ε'):RS Hs0 H0 Hs' H' σ' ε' where
 ext:=e.trans r.ext
 sh:=r.sh
 ow:=fun i x h=>by rcases all i _ h with z | ⟨y,z⟩ <;> cases z
 nd:=fun i _ x _ _ h=>by rcases all i _ h with z | ⟨y,z⟩ <;> cases z
 len:=r.len
 bo:=fun i x h=>by rcases all i _ h with z | ⟨y,z⟩ <;> cases z
end
structure RX (j:Nat)(Hs0 H0 Hs H:Hp)(σ:St)(ε:ME)(x:DT):Prop where
 ex:∃ a F,RS Hs0 H0 Hs H σ (ε.set j (.sh (.at (.ref a))))/\Dp Hs H x (.ref a) F/\∀ b ∈ F,H0 b=none/\Hs b=none
 all:AllSh ε
 jl:j < ε.length
section
variable {j:Nat}{Hs0 H0 Hs H Hs' H':Hp}{σ σ':St}{ε ε':ME}{x x':DT}{fr:Bool}{D:qL}
theorem Vn {ε:ME}{j:Nat}(h:j < ε.length)(s:MSlot):(ε.set j s)[j]?=some s:=by rw [List.getElem?_set_self h]
theorem RX.shared (r:RX j Hs0 H0 Hs H σ ε x):∃ Hp',Same Hs Hp'/\RS Hp' H Hp' H σ (ε.set j (.sh x.pv)):=by
 obtain ⟨⟨a,F,rs,d,fr⟩,all,jl⟩:=r
 open Classical in
 let Hp':Hp:=fun b=>if b ∈ F then H b else Hs b
 have g:Same Hs Hp':=fun b o e=>by
  have hb:b ∉ F:=fun z=>by rw [(fr b z).2] at e;cases e
  show (if b ∈ F then H b else Hs b)=_
  rw [if_neg hb];exact e
 have g2:Same Hp' H:=fun b o e=>by
  by_cases hb:b ∈ F
  ·have e':(if b ∈ F then H b else Hs b)=some o:=e
   rw [if_pos hb] at e';exact e'
  ·have e':(if b ∈ F then H b else Hs b)=some o:=e
   rw [if_neg hb] at e';exact rs.sub _ _ e'
 have rp:Rep Hp' x.pv (.ref a):=d.rep g fun b hb o ho=>by
  show (if b ∈ F then H b else Hs b)=_
  rw [if_pos hb];exact ho
 have al2:AllSh (ε.set j (.sh x.pv)):=all.set j _
 refine ⟨Hp',g,.refl g2,fun i y h=>?_,fun i y h=>?_,fun i _ y _ _ h=>?_,by rw [List.length_set];have:=rs.len;rw [List.length_set] at this;exact this,fun i y h=>?_⟩
 ·rw [List.getElem?_set] at h
  split at h
  ·rename_i hij
   cases h
   obtain ⟨v,hv,rv⟩:=rs.sh j _ (Vn jl _)
   cases rep_at.mp rv
   exact ⟨_,hij ▸ hv,rp⟩
  ·rename_i hij
   obtain ⟨v,hv,rv⟩:=rs.sh i y (by rw [List.getElem?_set_ne hij];exact h)
   exact ⟨v,hv,rv.mono g⟩
 ·rcases al2 i _ h with z | ⟨_,z⟩ <;> cases z
 ·rcases al2 i _ h with z | ⟨_,z⟩ <;> cases z
 ·rcases al2 i _ h with z | ⟨_,z⟩ <;> cases z
theorem RX.grow (r:RX j Hs0 H0 Hs H σ ε x)(g:Same H H'):RX j Hs0 H0 Hs H' σ ε x:=by
 obtain ⟨⟨a,F,rs,d,fr⟩,all,jl⟩:=r
 exact ⟨⟨a,F,rs.go ⟨.refl _,g,rs.sub.trans g,fun _ _ z=>z⟩,d.mono (.refl _) (fun b _ o ho=>g _ _ ho),fr⟩,all,jl⟩
theorem Dv {tt:TT}{c:MB}{k:Bool}[s:qT tt c](r:RX j Hs0 H0 Hs H σ ε x)(e:c (ε.set j (.sh x.pv))=some k){Q:Bool->Hp->Prop}(q:∀ H',RX j Hs0 H0 Hs H' σ ε x->Q k H'):tt σ H Q:=by
 obtain ⟨Hp',g,rs⟩:=r.shared
 exact s.h e rs fun Hs1 H1 x1=>q H1 (r.grow x1.s2)
theorem GA {tt:TT}{ta tb:TS}{c:MB}{k:Bool}[s:qT tt c](r:RX j Hs0 H0 Hs H σ ε x)(e:c (ε.set j (.sh x.pv))=some k)(qt:k=true->∀ H',RX j Hs0 H0 Hs H' σ ε x->ta D σ H')(qf:k=false->∀ H',RX j Hs0 H0 Hs H' σ ε x->tb D σ H'):Qq tt ta tb D σ H :=
 Dv (s:=s) r e fun H' r'=>by
  cases k with
  | true=>exact qz (qt rfl H' r')
  | false=>exact o8 (qf rfl H' r')
theorem Zs {t:TS}{b:MS}[s:qb fr t b](r:RX j Hs0 H0 Hs H σ ε x)(e:∀ a:Addr,b (ε.set j (.sh (.at (.ref a))))=some (.nx (ε'.set j (.sh (.at (.ref a))))))(all':AllSh ε')(jl':j < ε'.length)
  (q:∀ Hs' H' σ',RX j Hs0 H0 Hs' H' σ' ε' x->D.nx σ' H'):t D σ H:=by
 obtain ⟨⟨a,F,rs,d,fre⟩,all,jl⟩:=r
 refine s.h (e a) (rs.here (all.set j _)) fun Hs1 H1 σ1 r1=>q Hs1 H1 σ1 ⟨⟨a,F,RS.back rs.ext r1 (all'.set j _),d.mono r1.ext.s1 (fun b _ o ho=>r1.ext.s2 _ _ ho),fun b hb=>⟨(fre b hb).1,r1.ext.s4 b (d.live b hb) (fre b hb).2⟩⟩,all',jl'⟩
class vH (K:Fg)(j:Nat)(to:TE)(is:outParam (List Int)):Prop where
 h:∀ {σ:St} {H:Hp} {v u:V} {Q:VK},σ[j]?=some (some v)->jR H v is u->Q u H->to σ H Q
instance {K:Fg}:vH K j (xI j) [] where
 h:=fun h r q=>⟨_,h,by cases r;exact q⟩
instance {K:Fg}{to:TE}{is:List Int}{i:Int}[s:vH K j to is]:vH K j (tOp (rIx K) to (tUn (rU fun i=> .int (-i)) (tC (.int i)))) (is++[-i]) where
 h:=fun h r q=>by
  obtain ⟨a,vs,r1,ha,hu⟩:=Bg r
  exact s.h h r1 ⟨i,rfl,.inl ⟨a,vs,-i,_,rfl,rfl,SqL.of ha,hu,q⟩⟩
theorem RX.put {a b:Addr}{F':List Addr}{o:HO}(rs:RS Hs0 H0 Hs H σ (ε.set j (.sh (.at (.ref a)))))(all:AllSh ε)(jl:j < ε.length)(h0:H0 b=none)(hs:Hs b=none)(d:Dp Hs (j9 H b o) x (.ref a) F')(fre:∀ c ∈ F',H0 c=none/\Hs c=none):RX j Hs0 H0 Hs (j9 H b o) σ ε x:=by
 refine ⟨⟨a,F',⟨⟨rs.ext.s1,fun c u e=>?_,fun c u e=>?_,rs.ext.s4⟩,rs.sh,fun i y h=>?_,fun i _ y _ _ h=>?_,rs.len,fun i y h=>?_⟩,d,fre⟩,all,jl⟩
 ·rw [v6 (n5 e h0)];exact rs.ext.s2 _ _ e
 ·rw [v6 (n5 e hs)];exact rs.ext.s3 _ _ e
 ·rcases (all.set j _) i _ h with z | ⟨_,z⟩ <;> cases z
 ·rcases (all.set j _) i _ h with z | ⟨_,z⟩ <;> cases z
 ·rcases (all.set j _) i _ h with z | ⟨_,z⟩ <;> cases z
def zj (y:DT):List DT->Option (List DT):=fun xs=>if xs.length<=lim then some (xs++[y]) else none
theorem Vp {y:DT}{xs ys:List DT}(h:zj y xs=some ys):xs.length<=lim/\ys=xs++[y]:=by
 unfold zj at h
 split at h
 ·rename_i hl;cases h;exact ⟨hl,rfl⟩
 ·cases h
theorem Dq {K:Fg}{to te:TE}{is:List Int}{f:M}{y:PV}[sp:vH K j to is][s:SemE te f](r:RX j Hs0 H0 Hs H σ ε x)(e:∀ a:Addr,f (ε.set j (.sh (.at (.ref a))))=some y)(hc:DT.chg (zj (.sh y)) is x=some x')
  (q:∀ Hs' H',RX j Hs0 H0 Hs' H' σ ε x'->D.nx σ H'):xT (tBM K "list" wo to (xc te xt)) D σ H:=by
 obtain ⟨⟨a,F,rs,d,fre⟩,all,jl⟩:=r
 obtain ⟨v,hv,rv⟩:=rs.sh j _ (Vn jl _)
 cases rep_at.mp rv
 obtain ⟨b,ws,G,xs,ys,r1,r2,r3,r4,r5,r6,r7⟩:=d.chg hc
 obtain ⟨hl,rfl⟩:=Vp r6
 refine sp.h hv r1 ⟨.inl ⟨rfl,ws,SqL.of r2⟩,s.h (e a) (rs.here (all.set j _)) fun u Hs1 H1 x1 ru=>?_⟩
 have hb1:=x1.s2 _ _ r2
 refine ⟨b,ws,u,rfl,rfl,hb1,QS (by rw [r3.length];exact hl),?_⟩
 have live:=d.live
 have fre1:∀ c ∈ F,H0 c=none/\Hs1 c=none:=fun c hc=>⟨(fre c hc).1,x1.s4 c (live c hc) (fre c hc).2⟩
 have hbF:b ∈ F:=r5 b List.mem_cons_self
 have d1:Dp Hs1 H1 x (.ref a) F:=d.mono x1.s1 fun c _ o ho=>x1.s2 _ _ ho
 obtain ⟨b',ws',G1,xs',ys',q1,q2,q3,q4,q5,q6,q7⟩:=d1.chg hc
 obtain ⟨hl',rfl⟩:=Vp q6
 -- the same node
 have eb:b'=b:=by
  have uni:∀ {is:List Int} {v u u':V},jR H v is u->jR H1 v is u'->u'=u:=by
   intro is
   induction is with
   | nil=>intro v u u' h1 h2;cases h1;cases h2;rfl
   | cons i is ih =>
    intro v u u' h1 h2
    obtain ⟨a1,vs1,w1,rfl,p1,p2,p3⟩:=h1
    obtain ⟨a2,vs2,w2,e2,p4,p5,p6⟩:=h2
    cases e2
    rw [x1.s2 _ _ p1] at p4
    cases p4
    rw [p2] at p5
    cases p5
    exact ih p3 p6
  have:=uni r1 q1
  injection this
 subst eb
 rw [hb1] at q2
 cases q2
 have hb2:(j9 H1 b' (HO.lst (ws++[u]))) b'=some (.lst (ws++[u])):=g0
 have keep:∀ c,c ≠ b'->∀ o,H1 c=some o->(j9 H1 b' (HO.lst (ws++[u]))) c=some o:=fun c hcb o ho=>by rw [v6 hcb];exact ho
 obtain ⟨F',d2,f2⟩:=q7 _ (ws++[u]) (G1++[]) hb2 keep (Dps.snoc (dp_sh.mpr ⟨rfl,ru⟩) (q3.mono (.refl _) fun c hcG o ho=>keep c (fun z=>q4 (z ▸ hcG)) o ho) (fun _ _ z=>nomatch z)) (by simpa using q4) (fun c hc=> .inl (by simpa using hc))
 refine q _ _ (RX.put (rs.go x1) all jl (fre1 b' hbF).1 (fre1 b' hbF).2 d2 fun c hc=>?_)
 rcases f2 c hc with z | z
 ·exact fre1 c z
 ·exact fre1 c (q5 c (List.mem_cons_of_mem _ (by simpa using z)))
theorem Do {K:Fg}{to te:TE}{is:List Int}{f:M}{ys0:List PV}[sp:vH K j to is][s:xv te f](r:RX j Hs0 H0 Hs H σ ε x)(e:∀ a:Addr,f (ε.set j (.sh (.at (.ref a))))=some (.lst ys0))(hc:DT.chg (zj (.ls (ys0.map .sh))) is x=some x')
  (q:∀ Hs' H',RX j Hs0 H0 Hs' H' σ ε x'->D.nx σ H'):xT (tBM K "list" wo to (xc te xt)) D σ H:=by
 obtain ⟨⟨a,F,rs,d,fre⟩,all,jl⟩:=r
 obtain ⟨v,hv,rv⟩:=rs.sh j _ (Vn jl _)
 cases rep_at.mp rv
 obtain ⟨b,ws,G,xs,ys,r1,r2,r3,r4,r5,r6,r7⟩:=d.chg hc
 obtain ⟨hl,rfl⟩:=Vp r6
 refine sp.h hv r1 ⟨.inl ⟨rfl,ws,SqL.of r2⟩,s.h (e a) (rs.here (all.set j _)) fun n Hs1 H1 x1 n0 n1 tn=>?_⟩
 obtain ⟨us,hn1,rn⟩:=tn
 have hb1:=x1.s2 _ _ r2
 refine ⟨b,ws,.ref n,rfl,rfl,hb1,QS (by rw [r3.length];exact hl),?_⟩
 have live:=d.live
 have fre1:∀ c ∈ F,H0 c=none/\Hs1 c=none:=fun c hc=>⟨(fre c hc).1,x1.s4 c (live c hc) (fre c hc).2⟩
 have hbF:b ∈ F:=r5 b List.mem_cons_self
 have d1:Dp Hs1 H1 x (.ref a) F:=d.mono x1.s1 fun c _ o ho=>x1.s2 _ _ ho
 have nF:n ∉ F:=fun z=>live n z n0
 obtain ⟨b',ws',G1,xs',ys',q1,q2,q3,q4,q5,q6,q7⟩:=d1.chg hc
 obtain ⟨hl',rfl⟩:=Vp q6
 have eb:b'=b:=by
  have uni:∀ {is:List Int} {v u u':V},jR H v is u->jR H1 v is u'->u'=u:=by
   intro is
   induction is with
   | nil=>intro v u u' h1 h2;cases h1;cases h2;rfl
   | cons i is ih =>
    intro v u u' h1 h2
    obtain ⟨a1,vs1,w1,rfl,p1,p2,p3⟩:=h1
    obtain ⟨a2,vs2,w2,e2,p4,p5,p6⟩:=h2
    cases e2
    rw [x1.s2 _ _ p1] at p4
    cases p4
    rw [p2] at p5
    cases p5
    exact ih p3 p6
  have:=uni r1 q1
  injection this
 subst eb
 rw [hb1] at q2
 cases q2
 have nb:n ≠ b':=fun z=>nF (z ▸ hbF)
 have hb2:(j9 H1 b' (HO.lst (ws++[.ref n]))) b'=some (.lst (ws++[.ref n])):=g0
 have keep:∀ c,c ≠ b'->∀ o,H1 c=some o->(j9 H1 b' (HO.lst (ws++[.ref n]))) c=some o:=fun c hcb o ho=>by rw [v6 hcb];exact ho
 have dn:Dp Hs1 (j9 H1 b' (HO.lst (ws++[.ref n]))) (.ls (ys0.map .sh)) (.ref n) [n]:=dp_ls.mpr ⟨n,us,[],rfl,keep n nb _ hn1,.ofSh rn,rfl,List.not_mem_nil⟩
 have nG:n ∉ G1:=fun z=>nF (q5 n (List.mem_cons_of_mem _ z))
 obtain ⟨F',d2,f2⟩:=q7 _ (ws++[.ref n]) (G1++[n]) hb2 keep (Dps.snoc dn (q3.mono (.refl _) fun c hcG o ho=>keep c (fun z=>q4 (z ▸ hcG)) o ho) (fun c hc z=>nG (List.mem_singleton.mp z ▸ hc))) (fun z=>by
   rcases List.mem_append.mp z with z | z
   ·exact q4 z
   ·exact nb (List.mem_singleton.mp z).symm) (fun c hc=>by
   rcases List.mem_append.mp hc with z | z
   ·exact .inl z
   ·rw [List.mem_singleton.mp z];exact .inr nF)
 refine q _ _ (RX.put (rs.go x1) all jl (fre1 b' hbF).1 (fre1 b' hbF).2 d2 fun c hc=>?_)
 rcases f2 c hc with z | z
 ·exact fre1 c z
 ·rcases List.mem_append.mp z with z | z
  ·exact fre1 c (q5 c (List.mem_cons_of_mem _ z))
  ·rw [List.mem_singleton.mp z]
   exact ⟨rs.ext.s2.free n0,n1⟩
theorem Dt {te:TE}{f:M}{ys:List PV}[s:xv te f](rs:RS Hs0 H0 Hs H σ ε)(all:AllSh ε)(jl:j < ε.length)(e:f ε=some (.lst ys))(q:∀ Hs' H' σ',RX j Hs0 H0 Hs' H' σ' ε (.ls (ys.map .sh))->D.nx σ' H'):zG te (xN j) D σ H:=by
 refine s.h e (rs.here all) fun n Hs1 H1 x1 n0 n1 tn=>?_
 obtain ⟨us,hn1,rn⟩:=tn
 have r1:=RS.back rs.ext ((rs.here all).go x1) all
 exact q Hs1 H1 _ ⟨⟨n,[n],r1.put (i:=j) (x:= .at (.ref n)) (v:= .ref n) (rep_at.mpr rfl),dp_ls.mpr ⟨n,us,[],rfl,hn1,.ofSh rn,rfl,List.not_mem_nil⟩,fun b hb=>by rw [List.mem_singleton.mp hb];exact ⟨rs.ext.s2.free n0,n1⟩⟩,all,jl⟩
theorem RX.rebase (r:RX j Hs0 H0 Hs H σ ε x):RX j Hs H0 Hs H σ ε x:=by
 obtain ⟨⟨a,F,rs,d,fre⟩,all,jl⟩:=r
 exact ⟨⟨a,F,rs.rebase,d,fre⟩,all,jl⟩
theorem RX.unbase {Hb:Hp}(e:Ext Hs0 H0 Hb H)(r:RX j Hb H0 Hs' H' σ' ε' x'):RX j Hs0 H0 Hs' H' σ' ε' x':=by
 obtain ⟨⟨a,F,rs,d,fre⟩,all,jl⟩:=r
 exact ⟨⟨a,F,RS.unbase e rs,d,fre⟩,all,jl⟩
theorem RX.ext (r:RX j Hs0 H0 Hs H σ ε x):Ext Hs0 H0 Hs H:=by
 obtain ⟨⟨a,F,rs,d,fre⟩,all,jl⟩:=r
 exact rs.ext
theorem Ds {α:Type}{wi:TI}{tg:TG}{ts:List Nat}{tb:TS}{it:MA}{g:MG}[si:zv wi it][sg:jz tg ts g](G:α->PV)(xs:List α)(I:List α->ME->DT->Prop)
  (r:RX j Hs0 H0 Hs H σ ε x) (e:∀ a:Addr,it (ε.set j (.sh (.at (.ref a))))=some (xs.map G)) (i0:I xs ε x)
  (hs:∀ (c:α) (l:List α) (ε:ME) (x:DT),I (c::l) ε x->∃ ε1,(∀ a:Addr,g (G c) (ε.set j (.sh (.at (.ref a))))=some (ε1.set j (.sh (.at (.ref a)))))/\AllSh ε1/\j < ε1.length /\
   ∀ (Hb Hs H:Hp) (σ:St) (D:qL),RX j Hb H0 Hs H σ ε1 x->(∀ (ε2:ME) (x2:DT) (Hs' H':Hp) (σ':St),I l ε2 x2->RX j Hb H0 Hs' H' σ' ε2 x2->D.nx σ' H')->tb D σ H)
  (q:∀ (ε2:ME) (x2:DT) (Hs' H':Hp) (σ':St),I [] ε2 x2->RX j Hs0 H0 Hs' H' σ' ε2 x2->D.nx σ' H'):tFor wi tg tb D σ H:=by
 obtain ⟨⟨a,F,rs,d,fre⟩,all,jl⟩:=r
 refine si.h (e a) (rs.here (all.set j _)) fun J Hs1 H1 x1 ok=>?_
 have rx1:RX j Hs0 H0 Hs1 H1 σ ε x:=⟨⟨a,F,rs.go x1,d.mono x1.s1 (fun b _ o ho=>x1.s2 _ _ ho),fun b hb=>⟨(fre b hb).1,x1.s4 b (d.live b hb) (fre b hb).2⟩⟩,all,jl⟩
 refine ⟨fun k m σ H=>m=xs.length - k/\k<=xs.length/\∃ Hs ε x,RX j Hs1 H0 Hs H σ ε x/\I (xs.drop k) ε x,⟨xs.length,by simp,Nat.zero_le _,Hs1,ε,x,rx1.rebase,i0⟩,?_⟩
 rintro k m σ H ⟨rfl,hk,Hs,ε,x,rx,hI⟩
 have g1:Same Hs1 Hs:=rx.ext.s1
 have sub:Same Hs H:=rx.ext.s3
 by_cases hlt:k < xs.length
 ·have hd:xs.drop k=xs[k]::xs.drop (k + 1):=List.drop_eq_getElem_cons hlt
  rw [hd] at hI
  obtain ⟨ε1,eg,al1,jl1,body⟩:=hs _ _ _ _ hI
  obtain ⟨go,yl⟩:=ok.go k (G xs[k]) Hs H (by rw [List.getElem?_map,List.getElem?_eq_getElem hlt];rfl) g1 sub
  refine .inr ⟨go,fun σ' H'=>k + 1<=xs.length/\∃ Hs ε x,RX j Hs1 H0 Hs H' σ' ε x/\I (xs.drop (k + 1)) ε x,fun σ' H' p=>⟨xs.length - (k + 1),by omega,rfl,p.1,p.2⟩,fun v H2 y=>?_⟩
  obtain ⟨Hs2,x2,r2⟩:=yl v H2 y
  obtain ⟨⟨a,F,rs,d,fre⟩,all,jl⟩:=rx
  refine sg.h (eg a) (((rs.here (all.set j _)).go x2)) r2 fun σ2 rs2 _=>?_
  have rx2:RX j Hs1 H0 Hs2 H2 σ2 ε1 x:=⟨⟨a,F,RS.back rs.ext rs2 (al1.set j _),d.mono x2.s1 (fun b _ o ho=>x2.s2 _ _ ho),fun b hb=>⟨(fre b hb).1,x2.s4 b (d.live b hb) (fre b hb).2⟩⟩,al1,jl1⟩
  exact body Hs1 Hs2 H2 σ2 _ rx2 fun ε3 x3 Hs3 H3 σ3 h3 rx3=>⟨hlt,Hs3,ε3,x3,rx3,h3⟩
 ·have ek:k=xs.length:=by omega
  subst ek
  rw [List.drop_length] at hI
  have st:=ok.stop Hs H g1 sub
  rw [List.length_map] at st
  exact .inl ⟨st,q ε x Hs H σ hI (RX.unbase rx1.ext rx)⟩
def Qo (ms:List Bool)(m:List PV->Option DT)(x:List PV->Addr->Prop):Sp:=fun vs H Q E=>∃ Hs xs,Same Hs H/\RepsM Hs H ms xs vs/\((∃ y,m xs=some y/\∀ a F Hs' H',Ext Hs H Hs' H'->(∀ b ∈ F,H b=none/\Hs' b=none)->Dp Hs' H' y (.ref a) F->Q (.ref a) H') ∨ ∃ c,x xs c/\∀ Hs' H',Ext Hs H Hs' H'->E (.ref c) none H')
theorem Ext.shareF {F:List Addr}(x:Ext Hs H Hs' H')(fre:∀ b ∈ F,H b=none/\Hs' b=none):∃ Hp',Ext Hs H Hp' H'/\Same Hs' Hp'/\∀ b ∈ F,Hp' b=H' b:=by
 open Classical in
 refine ⟨fun b=>if b ∈ F then H' b else Hs' b,⟨fun b o e=>?_,x.s2,fun b o e=>?_,fun b h z=>?_⟩,fun b o e=>?_,fun b hb=>if_pos hb⟩
 ·have e1:=x.s1 _ _ e
  have hb:b ∉ F:=fun z=>by rw [(fre b z).2] at e1;cases e1
  show (if b ∈ F then H' b else Hs' b)=_
  rw [if_neg hb];exact e1
 ·by_cases hb:b ∈ F
  ·have e':(if b ∈ F then H' b else Hs' b)=some o:=e
   rw [if_pos hb] at e';exact e'
  ·have e':(if b ∈ F then H' b else Hs' b)=some o:=e
   rw [if_neg hb] at e';exact x.s3 _ _ e'
 ·have hb:b ∉ F:=fun w=>h (fre b w).1
  show (if b ∈ F then H' b else Hs' b)=_
  rw [if_neg hb];exact x.s4 b h z
 ·have hb:b ∉ F:=fun z=>by rw [(fre b z).2] at e;cases e
  show (if b ∈ F then H' b else Hs' b)=_
  rw [if_neg hb];exact e
instance {ms:List Bool}{m:List PV->Option DT}{x:List PV->Addr->Prop}{ta:TA}{as:MA}{E:XK}[sa:zJ ms ta as]:SemE (xy (Qo ms m x) [] E ta) (z5 (fun xs=>(m xs).map DT.pv) as) where
 h:=fun e _ _ _ _ _ rs _ q=>by
  obtain ⟨xs,ex,e1⟩:=bind_some e
  obtain ⟨y,ey,rfl⟩:=Option.map_eq_some_iff.mp e1
  refine sa.h ex rs fun vs Hs1 H1 x1 r1=>⟨Hs1,xs,x1.s3,by rw [List.append_nil];exact r1,.inl ⟨y,ey,fun a F Hs' H' x2 fre d=>?_⟩⟩
  obtain ⟨Hp',x3,g,eq⟩:=x2.shareF fre
  exact q _ _ _ (x1.trans x3) (d.rep g fun b hb o ho=>by rw [eq b hb];exact ho)
instance {ms:List Bool}{m:List PV->Option DT}{x:List PV->Addr->Prop}{ta:TA}{as:MA}{E:XK}[sa:zJ ms ta as]:xY E (xy (Qo ms m x) [] E ta) (qI x as) where
 h:=fun h _ _ _ _ _ rs q _=>by
  obtain ⟨xs,ex,h⟩:=h
  exact sa.h ex rs fun vs Hs1 H1 x1 r1=>⟨Hs1,xs,x1.s3,by rw [List.append_nil];exact r1,.inr ⟨_,h,fun Hs' H' x=>q _ _ (x1.trans x)⟩⟩
theorem Du (r:RX j Hs0 H0 Hs H σ ε x)(q:∀ a F Hs' H',Ext Hs0 H0 Hs' H'->(∀ b ∈ F,H0 b=none/\Hs' b=none)->Dp Hs' H' x (.ref a) F->D.rt (.ref a) H'):wy (xI j) D σ H:=by
 obtain ⟨⟨a,F,rs,d,fre⟩,all,jl⟩:=r
 obtain ⟨v,hv,rv⟩:=rs.sh j _ (Vn jl _)
 cases rep_at.mp rv
 exact ⟨_,hv,q a F Hs H rs.ext fre d⟩
end
end Mi
namespace Mi
open PySem L2
section
variable {j:Nat}{Hs0 H0 Hs H Hs' H':Hp}{σ σ':St}{ε ε':ME}{x x':DT}{fr:Bool}{D:qL}{u t:TS}
theorem sq_S {b:MS}[s:qb fr t b](rs:RS Hs0 H0 Hs H σ ε)(e:b ε=some (.nx ε'))(q:∀ Hs' H' σ',RS Hs0 H0 Hs' H' σ' ε'->u D σ' H'):tSeq t u D σ H:=s.h (D:={ D with nx:=u D }) e rs fun Hs' H' σ' r=>q Hs' H' σ' r
theorem TF {te:TE}{f:M}{ys:List PV}[s:xv te f](rs:RS Hs0 H0 Hs H σ ε)(all:AllSh ε)(jl:j < ε.length)(e:f ε=some (.lst ys))(q:∀ Hs' H' σ',RX j Hs0 H0 Hs' H' σ' ε (.ls (ys.map .sh))->u D σ' H'):tSeq (zG te (xN j)) u D σ H:=Dt (D:={ D with nx:=u D }) rs all jl e q
theorem Yd {b:MS}[s:qb fr t b](r:RX j Hs0 H0 Hs H σ ε x)(e:∀ a:Addr,b (ε.set j (.sh (.at (.ref a))))=some (.nx (ε'.set j (.sh (.at (.ref a))))))(all':AllSh ε')(jl':j < ε'.length)
  (q:∀ Hs' H' σ',RX j Hs0 H0 Hs' H' σ' ε' x->u D σ' H'):tSeq t u D σ H:=Zs (s:=s) (D:={ D with nx:=u D }) r e all' jl' q
theorem BC {tt:TT}{ta tb:TS}{c:MB}{k:Bool}[s:qT tt c](r:RX j Hs0 H0 Hs H σ ε x)(e:c (ε.set j (.sh x.pv))=some k)(qt:k=true->∀ H',RX j Hs0 H0 Hs H' σ ε x->tSeq ta u D σ H')(qf:k=false->∀ H',RX j Hs0 H0 Hs H' σ ε x->tSeq tb u D σ H'):tSeq (Qq tt ta tb) u D σ H:=GA (D:={ D with nx:=u D }) r e qt qf
theorem TH (h:u D σ H):tSeq Vs u D σ H:=h
theorem Yc {K:Fg}{to te:TE}{is:List Int}{f:M}{y:PV}[sp:vH K j to is][s:SemE te f](r:RX j Hs0 H0 Hs H σ ε x)(e:∀ a:Addr,f (ε.set j (.sh (.at (.ref a))))=some y)(hc:DT.chg (zj (.sh y)) is x=some x')
  (q:∀ Hs' H',RX j Hs0 H0 Hs' H' σ ε x'->u D σ H'):tSeq (xT (tBM K "list" wo to (xc te xt))) u D σ H:=Dq (D:={ D with nx:=u D }) r e hc q
theorem BB {K:Fg}{to te:TE}{is:List Int}{f:M}{ys0:List PV}[sp:vH K j to is][s:xv te f](r:RX j Hs0 H0 Hs H σ ε x)(e:∀ a:Addr,f (ε.set j (.sh (.at (.ref a))))=some (.lst ys0))(hc:DT.chg (zj (.ls (ys0.map .sh))) is x=some x')
  (q:∀ Hs' H',RX j Hs0 H0 Hs' H' σ ε x'->u D σ H'):tSeq (xT (tBM K "list" wo to (xc te xt))) u D σ H:=Do (D:={ D with nx:=u D }) r e hc q
theorem TD {α:Type}{wi:TI}{tg:TG}{ts:List Nat}{tb:TS}{it:MA}{g:MG}[si:zv wi it][sg:jz tg ts g](G:α->PV)(xs:List α)(I:List α->ME->DT->Prop)
  (r:RX j Hs0 H0 Hs H σ ε x) (e:∀ a:Addr,it (ε.set j (.sh (.at (.ref a))))=some (xs.map G)) (i0:I xs ε x)
  (hs:∀ (c:α) (l:List α) (ε:ME) (x:DT),I (c::l) ε x->∃ ε1,(∀ a:Addr,g (G c) (ε.set j (.sh (.at (.ref a))))=some (ε1.set j (.sh (.at (.ref a)))))/\AllSh ε1/\j < ε1.length /\
   ∀ (Hb Hs H:Hp) (σ:St) (D:qL),RX j Hb H0 Hs H σ ε1 x->(∀ (ε2:ME) (x2:DT) (Hs' H':Hp) (σ':St),I l ε2 x2->RX j Hb H0 Hs' H' σ' ε2 x2->D.nx σ' H')->tb D σ H)
  (q:∀ (ε2:ME) (x2:DT) (Hs' H':Hp) (σ':St),I [] ε2 x2->RX j Hs0 H0 Hs' H' σ' ε2 x2->u D σ' H'):tSeq (tFor wi tg tb) u D σ H:=Ds (D:={ D with nx:=u D }) G xs I r e i0 hs q
end
end Mi
namespace L2
open PySem PySem.Spec PyProof.Rows PySem.SeqAt
theorem PS.nox {X:Cx}{st:Stmt}{t:TS}(h:PS X.nox st t):PS X st t:=fun pins s σ H D I hw =>
 wpAny_mono (h pins s σ H D (I.wish _) hw) (fun _ _ q=>q.unwish) fun _ _ z=>False.elim z
def rInF (K:Fg):R2:=fun x y H Q=>∃ p xs,y = .ref p/\SqL K H p xs/\(∀ z ∈ xs,EqP K H 1 z x false)/\Q (.bl false) H
theorem Pd:∀ {xs:List V} {us:List Value},Vals xs us->∀ u ∈ us,∃ x ∈ xs,RelV x u
 | _,_,.nil,u,h=>nomatch h
 | x::xs,v::us,.cons r t,u,h=>by
  rcases List.mem_cons.mp h with rfl | h
  ·exact ⟨x,List.mem_cons_self,r⟩
  ·obtain ⟨y,hy,q⟩:=Pd t u h
   exact ⟨y,List.mem_cons_of_mem _ hy,q⟩
theorem Hd {X:Cx}{K:Fg}(hu:X.A.units + 6 < cLine)(hK:X.K=K):OpR X (compareOp .In) (fun x y H Q=>rIn K false x y H Q ∨ rInF K x y H Q):=by
 subst hK
 intro pins s σ H x y v u Q I rx ry h
 rcases h with h | h
 ·exact Kq pins s σ H x y v u Q I rx ry h
 ·obtain ⟨p,xs,rfl,hq,he,q⟩:=h
  cases ry
  obtain ⟨its,r,pl,hz⟩:=I.list hq
  refine SeqAt.in_listAt (fun _=>false) pl.isList (fun w hw=>?_) ⟨.bl false,H,I,?_,q⟩
  ·obtain ⟨z,hz,rz⟩:=Pd r w (by simpa using hw)
   exact vP I 1 X.A.in1 (by show X.A.units + 1 + 1 < cLine;omega) (he z hz) rz rx
  ·show RelV (.bl false) (.bool (its.toArray.any fun _=>false))
   rw [show (its.toArray.any fun _=>false)=false by simp]
   rfl
end L2
namespace Mi
open PySem L2
def Xt:PV->PV->Option PV
 | .at u,y=>pIn false (.at u) y
 | .lst _,.lst xs=>(ats xs).bind fun us=>if us.all p0=true then some (.at (.bl false)) else none
 | .tup _,.lst xs=>(ats xs).bind fun us=>if us.all p0=true then some (.at (.bl false)) else none
 | _,_=>none
instance {K:Fg}:SemR (fun x y H Q=>rIn K false x y H Q ∨ rInF K x y H Q) Xt where
 h:=fun {x y z} e {Hs H v w} s a b {Q} q=>by
  unfold Xt at e
  split at e
  ·exact .inl (SemR.h (r:=rIn K false) e s a b q)
  ·obtain ⟨us,e1,e⟩:=bind_some e
   split at e
   ·rename_i hf
    cases e
    obtain ⟨p,vs,rfl,e2,r2⟩:=qq s b
    rw [wJ e1] at r2
    cases r2.ats
    obtain ⟨p',ws,rfl,e3,r3⟩:=qq s a
    exact .inr ⟨p,_,rfl,SqL.of e2,fun y hy=> .inr (.inr (.inr (.inr (.inr (.inl ⟨p',ws,List.all_eq_true.mp hf y hy,rfl,.inl (SqL.of e3),rfl⟩))))),q _ _ _ (.refl s) (rep_at.mpr rfl)⟩
   ·cases e
  ·obtain ⟨us,e1,e⟩:=bind_some e
   split at e
   ·rename_i hf
    cases e
    obtain ⟨p,vs,rfl,e2,r2⟩:=qq s b
    rw [wJ e1] at r2
    cases r2.ats
    obtain ⟨p',ws,rfl,e3,r3⟩:=xG s a
    exact .inr ⟨p,_,rfl,SqL.of e2,fun y hy=> .inr (.inr (.inr (.inr (.inr (.inl ⟨p',ws,List.all_eq_true.mp hf y hy,rfl,.inr (SqT.of e3),rfl⟩))))),q _ _ _ (.refl s) (rep_at.mpr rfl)⟩
   ·cases e
  ·cases e
theorem SM {E:XK}{te:TE}{u:TS}{f:XM}{ε:ME}{c:Addr}{Hs0 H0 Hs H:Hp}{σ:St}{D:qL}[s:xY E te f](rs:RS Hs0 H0 Hs H σ ε)(h:f ε c)(q:∀ Hs' H',Ext Hs H Hs' H'->E (.ref c) none H'):tSeq (xT te) u D σ H:=s.h h rs q
theorem Bm {g:MG}{f:RM}(I:ME->Prop):∀ (xs:List PV) (ε:ME),I ε->(∀ x ∈ xs,∀ ε,I ε->∃ ε1 ε2,g x ε=some ε1/\f ε1 (.nx ε2)/\I ε2)->∃ ε',Qn g f xs ε (.nx ε')/\I ε'
 | [],ε,h,_=>⟨ε,rfl,h⟩
 | x::xs,ε,h,k=>by
  obtain ⟨ε1,ε2,e1,e2,h2⟩:=k x List.mem_cons_self ε h
  obtain ⟨ε',e3,h3⟩:=Bm I xs ε2 h2 fun y hy=>k y (List.mem_cons_of_mem _ hy)
  exact ⟨ε',⟨ε1,.nx ε2,e1,e2,e3⟩,h3⟩
end Mi
namespace Lw
open PySem L2 Mi
variable {P:Program}{w:World}{K:Fg}{mg:Str->Option Value}{base:Heap}{f:Addr}{fd:FuncData}
theorem l0:0<=lim:=by decide
theorem l1:1<=lim:=by decide
theorem l2:2<=lim:=by decide
theorem l3:3<=lim:=by decide
theorem l4:4<=lim:=by decide
theorem l5:5<=lim:=by decide
theorem l6:6<=lim:=by decide
theorem l7:7<=lim:=by decide
theorem l8:8<=lim:=by decide
theorem l9:9<=lim:=by decide
structure xB (h:Nat)(rss:List (List Int)):Prop where
 len:rss.length=h + 1
 row:∀ r ∈ rss,r.length=h/\∀ v ∈ r,0<=v/\v < 10 ^ 30
def rin (rss:List (List Int))(f g:Int):Int:=((atI rss f).bind fun r=>atI r g).getD 0
def ja (rss:List (List Int)):Int->List Int->Int
 | _,[]=>0
 | f,h::r=>rin rss f h + ja rss h r
theorem Bl {rss:List (List Int)}{h:Nat}(e:rss.length=h + 1)(g:Int):rin rss (-1) g=rin rss (h:Int) g:=by
 unfold rin atI
 rw [e]
 have e1:qW (h + 1) (-1)=some h:=by
  unfold qW
  rw [if_neg (by decide),if_pos (by omega)]
  congr 1
  omega
 have e2:qW (h + 1) (h:Int)=some h:=by
  unfold qW
  rw [if_pos (by omega),if_pos (by omega)]
  congr 1
 rw [e1,e2]
abbrev Wy:=Int × List Int
def jm (a b:Wy):Wy:=if b.1 < a.1 then b else a
def zO (a b:Wy):Wy:=(a.1 + b.1,a.2++b.2)
def thr (ws:List Wy)(k:Nat)(onw:List Wy):List Wy:=List.zipWith (fun w m=>jm w (zO (ws.getD k (0,[])) m)) ws onw
def xw (T:List (List Wy))(k:Nat):List (List Wy):=T.map fun row=>thr row k (T.getD k [])
def zX (row:List Int):List Wy:=row.mapIdx fun i v=>(v,[(i:Int)])
def qo (rss:List (List Int)):Nat->List (List Wy)
 | 0=>rss.map zX
 | k + 1=>xw (qo rss k) k
def u6 (T:List (List Wy))(f g:Nat):Wy:=(T.getD f []).getD g (0,[])
def vW (rss:List (List Int))(h:Nat):List (List Int):=(qo rss h).map fun row=>row.map (·.1)
structure Shp (h:Nat)(T:List (List Wy)):Prop where
 len:T.length=h + 1
 row:∀ r ∈ T,r.length=h
theorem qh {α:Type}{l:List α}{i:Nat}{d:α}(h:i < l.length):l.getD i d=l[i]:=by
 rw [List.getD_eq_getElem?_getD,List.getElem?_eq_getElem h]
 rfl
theorem Shp.rowAt {h:Nat}{T:List (List Wy)}(S:Shp h T){f:Nat}(hf:f<=h):(T.getD f []).length=h:=by
 have hl:f < T.length:=by have:=S.len;omega
 rw [qh hl]
 exact S.row _ (List.getElem_mem hl)
theorem BP {ws onw:List Wy}{k:Nat}(h:ws.length=onw.length):(thr ws k onw).length=ws.length:=by
 unfold thr
 rw [List.length_zipWith,h,Nat.min_self]
theorem Shp.step {h:Nat}{T:List (List Wy)}(S:Shp h T){k:Nat}(hk:k < h):Shp h (xw T k):=by
 refine ⟨by unfold xw;rw [List.length_map];exact S.len,fun r hr=>?_⟩
 unfold xw at hr
 obtain ⟨row,hm,rfl⟩:=List.mem_map.mp hr
 have e1:=S.row row hm
 rw [BP (by rw [e1,S.rowAt (by omega)]),e1]
theorem wN {h:Nat}{T:List (List Wy)}(S:Shp h T){k f g:Nat}(hk:k < h)(hf:f<=h)(hg:g < h):u6 (xw T k) f g=jm (u6 T f g) (zO (u6 T f k) (u6 T k g)):=by
 have hl:f < T.length:=by have:=S.len;omega
 have hl2:f < (xw T k).length:=by unfold xw;rw [List.length_map];exact hl
 have e1:(xw T k).getD f []=thr (T.getD f []) k (T.getD k []):=by
  unfold xw
  rw [qh (by rw [List.length_map];exact hl),List.getElem_map,qh hl]
 have r1:=S.rowAt hf
 have r2:=S.rowAt (f:=k) (by omega)
 unfold u6
 rw [e1,qh (by rw [BP (by rw [r1,r2])];omega),qh (l:=T.getD f []) (i:=g) (by omega),qh (l:=T.getD k []) (i:=g) (by omega)]
 unfold thr
 rw [List.getElem_zipWith]
theorem Shp.start {h:Nat}{rss:List (List Int)}(G:xB h rss):Shp h (qo rss 0):=by
 refine ⟨by show (rss.map zX).length=_;rw [List.length_map];exact G.len,fun r hr=>?_⟩
 obtain ⟨row,hm,rfl⟩:=List.mem_map.mp hr
 unfold zX
 rw [List.length_mapIdx]
 exact (G.row row hm).1
theorem Shp.all {h:Nat}{rss:List (List Int)}(G:xB h rss):∀ k,k<=h->Shp h (qo rss k)
 | 0,_=>Shp.start G
 | k + 1,hk=>(Shp.all G k (by omega)).step (by omega)
theorem XH {h:Nat}{rss:List (List Int)}(G:xB h rss){f g:Nat}(hf:f<=h)(hg:g < h):rin rss (f:Int) (g:Int)=(rss.getD f []).getD g 0:=by
 have hl:f < rss.length:=by have:=G.len;omega
 have e1:atI rss (f:Int)=some rss[f]:=jD (List.getElem?_eq_getElem hl)
 have hg2:g < rss[f].length:=by rw [(G.row _ (List.getElem_mem hl)).1];exact hg
 have e2:atI rss[f] (g:Int)=some rss[f][g]:=jD (List.getElem?_eq_getElem hg2)
 unfold rin
 rw [e1]
 show (atI rss[f] (g:Int)).getD 0=_
 rw [e2,qh hl,qh hg2]
 rfl
theorem Zt {h:Nat}{rss:List (List Int)}(G:xB h rss){f g:Nat}(hf:f<=h)(hg:g < h):u6 (qo rss 0) f g=(rin rss (f:Int) (g:Int),[(g:Int)]):=by
 have hl:f < rss.length:=by have:=G.len;omega
 have hl2:f < (rss.map zX).length:=by rw [List.length_map];exact hl
 have hg2:g < rss[f].length:=by rw [(G.row _ (List.getElem_mem hl)).1];exact hg
 rw [XH G hf hg]
 unfold u6
 show ((rss.map zX).getD f []).getD g (0,[])=_
 rw [qh hl2,List.getElem_map,qh (by unfold zX;rw [List.length_mapIdx];exact hg2),qh hl,qh hg2]
 unfold zX
 rw [List.getElem_mapIdx]
theorem Rp {h:Nat}{rss:List (List Int)}(G:xB h rss){f g:Nat}(hf:f<=h)(hg:g < h):0<=rin rss (f:Int) (g:Int):=by
 have hl:f < rss.length:=by have:=G.len;omega
 have hg2:g < rss[f].length:=by rw [(G.row _ (List.getElem_mem hl)).1];exact hg
 rw [XH G hf hg,qh hl,qh hg2]
 exact ((G.row _ (List.getElem_mem hl)).2 _ (List.getElem_mem hg2)).1
theorem Pl {rss:List (List Int)}:∀ {xs ys:List Int} {f g:Int},xs.getLast?=some g->ja rss f (xs++ys)=ja rss f xs + ja rss g ys
 | [],_,_,_,e=>by simp at e
 | [x],ys,f,g,e=>by
  have e':x=g:=by simpa using e
  subst e'
  show rin rss f x + ja rss x ys=rin rss f x + 0 + ja rss x ys
  omega
 | x::y::r,ys,f,g,e=>by
  have q:=Pl (rss:=rss) (xs:=y::r) (ys:=ys) (f:=x) (g:=g) (by simpa [List.getLast?_cons_cons] using e)
  show rin rss f x + ja rss x (y::r++ys)=rin rss f x + ja rss x (y::r) + ja rss g ys
  rw [q]
  omega
structure WayOk (rss:List (List Int))(h:Nat)(f g:Nat)(w:Wy):Prop where
 sum:w.1=ja rss (f:Int) w.2
 last:w.2.getLast?=some (g:Int)
 ok:∀ x ∈ w.2,0<=x/\x < (h:Int)
structure FW (rss:List (List Int))(h k:Nat)(T:List (List Wy)):Prop where
 way:∀ f g,f<=h->g < h->WayOk rss h f g (u6 T f g)
 pos:∀ f g,f<=h->g < h->0<=(u6 T f g).1
 le:∀ f g,f<=h->g < h->(u6 T f g).1<=rin rss (f:Int) (g:Int)
 tri:∀ j f g,j < k->f<=h->g < h->(u6 T f g).1<=(u6 T f j).1 + (u6 T j g).1
 len:∀ f g,f<=h->g < h->(u6 T f g).2.length<=2 ^ k
theorem wW (a b:Wy):(jm a b=a/\a.1<=b.1) ∨ (jm a b=b/\b.1 < a.1):=by
 unfold jm
 by_cases h:b.1 < a.1
 ·rw [if_pos h];exact .inr ⟨rfl,h⟩
 ·rw [if_neg h];exact .inl ⟨rfl,by omega⟩
theorem Lg (a b:Wy):(jm a b).1<=a.1/\(jm a b).1<=b.1:=by
 rcases wW a b with ⟨e,q⟩ | ⟨e,q⟩
 ·rw [e];exact ⟨Int.le_refl _,q⟩
 ·rw [e];exact ⟨Int.le_of_lt q,Int.le_refl _⟩
theorem WayOk.join {rss:List (List Int)}{h f k g:Nat}{a b:Wy}(x:WayOk rss h f k a)(y:WayOk rss h k g b):WayOk rss h f g (zO a b):=by
 refine ⟨?_,?_,fun z hz=>?_⟩
 ·show a.1 + b.1=ja rss f (a.2++b.2)
  rw [Pl x.last,x.sum,y.sum]
 ·show (a.2++b.2).getLast?=_
  rw [List.getLast?_append,y.last]
  rfl
 ·rcases List.mem_append.mp hz with q | q
  ·exact x.ok z q
  ·exact y.ok z q
theorem FW.start {h:Nat}{rss:List (List Int)}(G:xB h rss):FW rss h 0 (qo rss 0):=by
 refine ⟨fun f g hf hg=>?_,fun f g hf hg=>?_,fun f g hf hg=>?_,fun j f g hj=>absurd hj (by omega),fun f g hf hg=>?_⟩
 ·rw [Zt G hf hg]
  refine ⟨?_,rfl,fun x hx=>?_⟩
  ·show rin rss f g=rin rss f g + 0
   omega
  ·have e:x=(g:Int):=by simpa using hx
   rw [e]
   omega
 ·rw [Zt G hf hg];exact Rp G hf hg
 ·rw [Zt G hf hg];exact Int.le_refl _
 ·rw [Zt G hf hg];exact Nat.le_refl 1
theorem FW.step {h k:Nat}{rss:List (List Int)}{T:List (List Wy)}(S:Shp h T)(x:FW rss h k T)(hk:k < h):FW rss h (k + 1) (xw T k):=by
 have kl:k<=h:=by omega
 have toK:∀ f,f<=h->(u6 (xw T k) f k).1=(u6 T f k).1:=fun f hf=>by
  rw [wN S hk hf hk]
  rcases wW (u6 T f k) (zO (u6 T f k) (u6 T k k)) with ⟨e,q⟩ | ⟨e,q⟩
  ·rw [e]
  ·have p:=x.pos k k kl hk
   have q':(u6 T f k).1 + (u6 T k k).1 < (u6 T f k).1:=q
   omega
 have ofK:∀ g,g < h->(u6 (xw T k) k g).1=(u6 T k g).1:=fun g hg=>by
  rw [wN S hk kl hg]
  rcases wW (u6 T k g) (zO (u6 T k k) (u6 T k g)) with ⟨e,q⟩ | ⟨e,q⟩
  ·rw [e]
  ·have p:=x.pos k k kl hk
   have q':(u6 T k k).1 + (u6 T k g).1 < (u6 T k g).1:=q
   omega
 have bound:∀ f g,f<=h->g < h->(u6 (xw T k) f g).1<=(u6 T f g).1/\(u6 (xw T k) f g).1<=(u6 T f k).1 + (u6 T k g).1:=fun f g hf hg=>by
  rw [wN S hk hf hg]
  exact Lg _ _
 have alt:∀ f g,f<=h->g < h->(u6 (xw T k) f g).1=(u6 T f g).1 ∨ (u6 (xw T k) f g).1=(u6 T f k).1 + (u6 T k g).1:=fun f g hf hg=>by
  rw [wN S hk hf hg]
  rcases wW (u6 T f g) (zO (u6 T f k) (u6 T k g)) with ⟨e,q⟩ | ⟨e,q⟩
  ·rw [e];exact .inl rfl
  ·rw [e];exact .inr rfl
 refine ⟨fun f g hf hg=>?_,fun f g hf hg=>?_,fun f g hf hg=>Int.le_trans (bound f g hf hg).1 (x.le f g hf hg),fun j f g hj hf hg=>?_,fun f g hf hg=>?_⟩
 ·rw [wN S hk hf hg]
  rcases wW (u6 T f g) (zO (u6 T f k) (u6 T k g)) with ⟨e,_⟩ | ⟨e,_⟩
  ·rw [e];exact x.way f g hf hg
  ·rw [e];exact (x.way f k hf hk).join (x.way k g kl hg)
 ·rcases alt f g hf hg with e | e
  ·rw [e];exact x.pos f g hf hg
  ·rw [e]
   have p1:=x.pos f k hf hk
   have p2:=x.pos k g kl hg
   omega
 ·by_cases hjk:j=k
  ·subst hjk
   rw [toK f hf,ofK g hg]
   exact (bound f g hf hg).2
  ·have hj':j < k:=by omega
   have jl:j<=h:=by omega
   have jh:j < h:=by omega
   have b:=bound f g hf hg
   have t1:=x.tri j f g hj' hf hg
   have t2:=x.tri j f k hj' hf hk
   have t3:=x.tri j k g hj' kl hg
   have t4:=x.pos k j kl jh
   have t5:=x.pos j k jl hk
   rcases alt f j hf jh with e1 | e1 <;> rcases alt j g jl hg with e2 | e2 <;> rw [e1,e2] <;> omega
 ·rw [wN S hk hf hg]
  have e:2 ^ (k + 1)=2 ^ k + 2 ^ k:=by rw [Nat.pow_succ];omega
  rcases wW (u6 T f g) (zO (u6 T f k) (u6 T k g)) with ⟨q,_⟩ | ⟨q,_⟩
  ·rw [q]
   have:=x.len f g hf hg
   omega
  ·rw [q]
   have a1:=x.len f k hf hk
   have a2:=x.len k g kl hg
   show ((u6 T f k).2++(u6 T k g).2).length<=_
   rw [List.length_append]
   omega
theorem FW.all {h:Nat}{rss:List (List Int)}(G:xB h rss):∀ k,k<=h->FW rss h k (qo rss k)
 | 0,_=>FW.start G
 | k + 1,hk=>FW.step (Shp.all G k (by omega)) (FW.all G k (by omega)) (by omega)
theorem Wx {h:Nat}{rss:List (List Int)}(G:xB h rss):xB h (vW rss h):=by
 have S:=Shp.all G h (Nat.le_refl _)
 have F:=FW.all G h (Nat.le_refl _)
 refine ⟨by unfold vW;rw [List.length_map];exact S.len,fun r hr=>?_⟩
 unfold vW at hr
 obtain ⟨row,hm,rfl⟩:=List.mem_map.mp hr
 refine ⟨by rw [List.length_map];exact S.row row hm,fun v hv=>?_⟩
 obtain ⟨w,hw,rfl⟩:=List.mem_map.mp hv
 obtain ⟨f,hf,rfl⟩:=List.getElem_of_mem hm
 obtain ⟨g,hg,rfl⟩:=List.getElem_of_mem hw
 have hf':f<=h:=by have:=S.len;omega
 have hg':g < h:=by rw [<- S.row _ hm];exact hg
 have e:u6 (qo rss h) f g=(qo rss h)[f][g]:=by unfold u6;rw [qh hf,qh hg]
 have p:=F.pos f g hf' hg'
 have l:=F.le f g hf' hg'
 rw [e] at p l
 refine ⟨p,Int.lt_of_le_of_lt l ?_⟩
 have hl:f < rss.length:=by have:=G.len;omega
 have hg2:g < rss[f].length:=by rw [(G.row _ (List.getElem_mem hl)).1];exact hg'
 rw [XH G hf' hg',qh hl,qh hg2]
 exact ((G.row _ (List.getElem_mem hl)).2 _ (List.getElem_mem hg2)).2
theorem WD {α:Type}[DecidableEq α]:∀ {ms left:List α},ms.Nodup->(∀ x ∈ ms,x ∈ left)->ms.length<=left.length
 | [],_,_,_=>Nat.zero_le _
 | x::r,left,hn,hs=>by
  have hn':=List.nodup_cons.mp hn
  have q:=WD (ms:=r) (left:=left.erase x) hn'.2 (fun y hy=>(List.mem_erase_of_ne (fun e=>hn'.1 (by rw [e] at hy;exact hy))).mpr (hs y (List.mem_cons_of_mem _ hy)))
  have hx:=hs x List.mem_cons_self
  rw [List.length_erase_of_mem hx] at q
  have pos:0 < left.length:=List.length_pos_of_mem hx
  show r.length + 1<=_
  omega
def y7 (i:Nat):Stmt:=PySem.Challenge.pw_rinsework_k15_no_plans.main.body.getD i (.Pass ⟨0,0,0,0⟩)
abbrev JX:Stmt:=y7 54
abbrev XO:Stmt:=y7 55
abbrev Vi:Stmt:=y7 56
theorem WX {H:Hp}{p:Addr}(h:H p=none)(o:HO):Same H (j9 H p o):=fun b u q=>by rw [v6 (n5 q h)];exact q
theorem sizes {n:Nat}(h:n<=1000):n<=sizeLine:=Nat.le_of_lt (XQ h)
def Yb:Sp:=fun vs H Q _=>∃ c k:Int,vs=[.int c,.int k]/\0<=k/\k<=100/\∀ v:Int,0<=v->v < 2147483648->Q (.int v) H
def BA (K:Fg):Sp:=fun vs H Q _=>∃ (a:Addr) (ns:List Int) (k:Int),vs=[.ref a,.int k]/\SqL K H a (ns.map V.int)/\ns.length<=63/\0<=k/\k<=12 /\
 ∀ (r:Addr) (n:Int) (H':Hp),H r=none->Same H H'->H' r=some (.lst [.int n])->Q (.ref r) H'
section
theorem sc_take:v9 ["stream", "many", "digit"] ["stream", "many"] (j5 Vi):=⟨rfl,rfl,rfl,by decide +kernel,rfl,by decide +kernel,by decide +kernel⟩
theorem NW (F:Fun K "_law_take" "_law_take" Vi f fd):FnOk P w K mg base v7 1 f fd ["stream", "many"] vC:=by
 refine F.ok sc_take (fun vs H Q E h=>?_) (fun cdv A outer s H vs Q E hr h=>?_)
 ·obtain ⟨a,n,m,rfl,_⟩:=h
  rfl
 obtain ⟨a,n,m,rfl,hH,hm,q⟩:=h
 refine ⟨_,(j7 (y6 (i:=2) sc_take.nd rfl (Or.inl rfl) (w5 wc (i5 (ZF (K:=K) rfl) (pv 0) z7 (fun _ _=>rfl)) (pv 1)))
  (j7 (KE (w5 Kp (i5 (ZF (K:=K) rfl) (pv 0) z7 (fun _ _=>rfl)) (pv 1)) (HC (pv 0) z7 Tr))
  (z9 (w9 (pv 2))))),?_⟩
 refine ⟨_,rfl,a,_,0,_,rfl,rfl,SqL.of hH,rfl,_,rfl,n,m,rfl,rfl,hm.1,?_⟩
 refine ⟨_,rfl,a,_,0,_,rfl,rfl,SqL.of hH,rfl,_,rfl,n,m,rfl,rfl,hm,?_⟩
 refine ⟨_,rfl,a,_,0,0,rfl,rfl,hH,rfl,?_⟩
 exact ⟨_,rfl,q⟩
theorem sc_mixed:v9 ["cell", "k", "one"] ["cell", "k"] (j5 JX):=⟨rfl,rfl,rfl,by decide +kernel,rfl,by decide +kernel,by decide +kernel⟩
theorem NJ (F:Fun K "_law_mixed" "_law_mixed" JX f fd):FnOk P w K mg base v7 1 f fd ["cell", "k"] Yb:=by
 refine F.ok sc_mixed (fun vs H Q E h=>?_) (fun cdv A outer s H vs Q E hr h=>?_)
 ·obtain ⟨c,k,rfl,_⟩:=h
  rfl
 obtain ⟨c,k,rfl,k0,k1,q⟩:=h
 refine ⟨_,(j7 (y6 (i:=2) sc_mixed.nd rfl (Or.inl rfl) (w5 wc (w5 Qe (w5 op_add (w5 op_add (w5 wc (pv 0) z7) (w5 Qe z7 (pv 1))) z7) z7) z7))
  (z9 (w9 (w5 wc (w5 Qe (w5 wc (w5 Qe (pv 2) (pv 2)) z7) z7) z7)))),?_⟩
 refine ⟨_,rfl,_,_,rfl,rfl,(by show (0:Int) < 1000000007;decide),_,rfl,_,_,rfl,rfl,.inl ⟨by decide,by decide⟩,_,_,rfl,rfl,_,_,rfl,rfl,_,_,rfl,rfl,.inr ⟨by decide,by decide⟩,_,_,rfl,rfl,(by show (0:Int) < 2147483647;decide),?_⟩
 generalize hone:(c % 1000000007 + 7919 * k + 101) * 48271 % 2147483647=one
 have o0:0<=one:=by rw [<- hone];exact Int.emod_nonneg _ (by decide)
 have o1:one < 2147483647:=by rw [<- hone];exact Int.emod_lt_of_pos _ (by decide)
 refine ⟨_,rfl,_,rfl,_,_,rfl,rfl,.inl ⟨by omega,by omega⟩,_,_,rfl,rfl,(by show (0:Int) < 2147483629;decide),_,_,rfl,rfl,.inr ⟨by decide,by decide⟩,_,_,rfl,rfl,(by show (0:Int) < 2147483647;decide),?_⟩
 exact q _ (Int.emod_nonneg _ (by decide)) (Int.lt_trans (Int.emod_lt_of_pos _ (by decide)) (by decide))
end
def MM:Int:=10 ^ (60:Int).toNat
theorem Zo:jw 10 60:=⟨by decide,by decide,by decide⟩
theorem Gw:jw 10 18:=⟨by decide,by decide,by decide⟩
theorem Zn:Builtin.Int.intBits MM<=2 ^ 20:=by decide +kernel
def M2:Int:=MM * MM
theorem Zg:0 < M2:=by decide +kernel
theorem Cd:Builtin.Int.intBits M2<=2 ^ 20:=by decide +kernel
theorem TJ {M c r:Int}{i:Nat}(hM:0 < M)(h0:0<=c)(h:c < M ^ i)(r0:0<=r)(r1:r < M):0<=c * M + r/\c * M + r < M ^ (i + 1):=by
 have e:M ^ (i + 1)=M ^ i * M:=Int.pow_succ M i
 have h1:(c + 1) * M<=M ^ i * M:=Int.mul_le_mul_of_nonneg_right (by omega) (Int.le_of_lt hM)
 have h2:(c + 1) * M=c * M + M:=by rw [Int.add_mul,Int.one_mul]
 have h3:0<=c * M:=Int.mul_nonneg h0 (Int.le_of_lt hM)
 rw [e]
 omega
theorem PL:∀ i:_root_.Fin 8,(M2 ^ (i:Nat)).toNat < 2 ^ 2800:=by decide +kernel
theorem Cf {c:Int}{i:Nat}(hi:i<=7)(h0:0<=c)(h:c < M2 ^ i):Builtin.Int.intBits c<=2 ^ 20:=by
 obtain ⟨n,rfl⟩:=Int.eq_ofNat_of_zero_le h0
 have q:=PL ⟨i,by omega⟩
 have q2:n < 2 ^ 2800:=by
  have q':(M2 ^ i).toNat < 2 ^ 2800:=q
  omega
 exact Nat.le_trans (PyProof.Rows.intBits_le (by rw [Int.natAbs_natCast];exact q2)) (by decide)
theorem Rr:∀ i:_root_.Fin 13,∀ j:_root_.Fin 64,Builtin.Range.small ((i:Nat):Int) ((j:Nat):Int) 12=true:=by decide +kernel
theorem WU {i j:Int}:Builtin.Range.rangeSize i j 12=if i < j then (j - i - 1) / 12 + 1 else 0:=rfl
theorem Rq {i j:Int}(h0:0<=i)(h1:i<=12)(h2:0<=j)(h3:j<=63):0<=Builtin.Range.rangeSize i j 12/\Builtin.Range.small i j 12=true/\jS i j 12<=6/\∀ t:Nat,t < jS i j 12->i + t * 12 < j:=by
 refine ⟨?_,?_,?_,fun t ht=>?_⟩
 ·rw [WU];split <;> omega
 ·have q:=Rr ⟨i.toNat,by omega⟩ ⟨j.toNat,by omega⟩
  have e1:((i.toNat:Nat):Int)=i:=by omega
  have e2:((j.toNat:Nat):Int)=j:=by omega
  have q':Builtin.Range.small ((i.toNat:Nat):Int) ((j.toNat:Nat):Int) 12=true:=q
  rw [e1,e2] at q'
  exact q'
 ·unfold jS;rw [WU];split <;> omega
 ·unfold jS at ht;rw [WU] at ht;split at ht <;> omega
theorem PX {ns:List Int}{k:Int}(h0:0<=k)(h:k < (ns.length:Int)):∃ v:Int,atI (ns.map V.int) k=some (.int v):=by
 have hk:k.toNat < ns.length:=by omega
 have ek:k=((k.toNat:Nat):Int):=by omega
 have q:atI (ns.map V.int) ((k.toNat:Nat):Int)=some (.int ns[k.toNat]):=jD (by rw [List.getElem?_map,List.getElem?_eq_getElem hk] <;> rfl)
 rw [<- ek] at q
 exact ⟨_,q⟩
section
theorem sc_stream:v9 ["script", "k", "cell", "j", "found"] ["script", "k"] (j5 XO):=⟨rfl,rfl,rfl,by decide +kernel,rfl,by decide +kernel,by decide +kernel⟩
theorem NU (F:Fun K "_law_stream" "_law_stream" XO f fd) (Ep:Fn P w K mg base 1 "_law_mixed" ["cell", "k"] Yb) (Ad:mg "len"=none) (Ag:mg "range"=none) (Ey:mg "sum"=none) :
  FnOk P w K mg base v7 2 f fd ["script", "k"] (BA K):=by
 refine F.ok sc_stream (fun vs H Q E h=>?_) (fun cdv A outer s H vs Q E hr h=>?_)
 ·obtain ⟨a,ns,k,rfl,_⟩:=h
  rfl
 obtain ⟨a,ns,k,rfl,hS,h63,k0,k1,q⟩:=h
 refine ⟨_,(j7 (y6 (i:=2) sc_stream.nd rfl (Or.inl rfl) z7)
  (j7 (zV PassesOwn.never rfl (HH rfl Ag (x0 (pv 1) (x0 (m8 (Gi (K:=K) rfl) rfl Ad PySem.boot_len (x0 (pv 0) x9)) (x0 z7 x9)))) (u9 (i:=3) sc_stream.nd rfl (Or.inl rfl))
   (z9 (y6 (i:=2) sc_stream.nd rfl (Or.inl rfl) (w5 op_add (w5 Xr (pv 2) (w5 Xr (w5 zp z7 z7) (w5 zp z7 z7))) (w5 wc (i5 (ZF (K:=K) rfl) (pv 0) (pv 3) (fun _ _=>rfl)) (w5 Xr (w5 zp z7 z7) (w5 zp z7 z7)))))))
  (j7 (n8 (t9 ZX (pv 2) (w5 zp z7 z7) (m3 _)) (z9 (w9 (qA (x0 (pv 2) x9)))) o4)
  (j7 (y6 (i:=2) sc_stream.nd rfl (Or.inl rfl) (w5 op_add (pv 2) (m8 (CN (K:=K) rfl rfl) rfl Ey Gg (x0 (qJ (N':=["one"]) (cap:=[none]) (qu rfl rfl rfl) rfl (qK (K:=K) rfl (pv 0)) (fun _ _ _ _ _ _=>(u9 (i:=0) (by show (["one"]:List Str).Nodup;decide +kernel) rfl (Or.inl rfl))) (fun _ _ _ _ _ _=>qR) (fun _ _ _ _ _ _=>(w5 wc (pv 0) (w5 zp z7 z7)))) x9))))
  (j7 (y6 (i:=4) sc_stream.nd rfl (Or.inl rfl) z7)
  (j7 (zV PassesOwn.never rfl (vx rfl Ag (x0 z7 x9)) (u9 (i:=3) sc_stream.nd rfl (Or.inl rfl))
   (z9 (y6 (i:=4) sc_stream.nd rfl (Or.inl rfl) (w5 op_add (w5 Qe (pv 4) z7) (v3 Ep hr (by decide) rfl (x0 (w5 op_add (w5 op_add (pv 2) (w5 Qe z7 (pv 1))) (m8 (Gi (K:=K) rfl) rfl Ad PySem.boot_len (x0 (pv 0) x9))) (x0 (pv 3) x9)))))))
  (z9 (w9 (qA (x0 (pv 4) x9)))))))))),?_⟩
 have hl:(((ns.map V.int).length:Nat):Int)=(ns.length:Int):=by rw [List.length_map]
 obtain ⟨z1,z2,z3,z4⟩:=Rq (i:=k) (j:=(((ns.map V.int).length:Nat):Int)) k0 k1 (by omega) (by omega)
 refine ⟨_,rfl,_,rfl,a,_,rfl,.inl hS,k,_,12,rfl,⟨by decide,by decide⟩,z1,z2,DM (fun i σ H2=>∃ (c:Int) (j:Option V),σ=[some (.ref a),some (.int k),some (.int c),j,none]/\H2=H/\0<=c/\c < M2 ^ i)
  ⟨0,none,rfl,rfl,Int.le_refl 0,by decide⟩ ?_ ?_⟩
 ·rintro i σ H2 hi ⟨c,j,rfl,rfl,c0,c1⟩
  obtain ⟨v,hv⟩:=PX (ns:=ns) (k:=k + i * 12) (by omega) (by have:=z4 i hi;omega)
  refine ⟨_,rfl,_,_,rfl,rfl,Zo,_,_,rfl,rfl,Zo,_,_,rfl,rfl,⟨Zn,Zn⟩,_,_,rfl,rfl,⟨Cf (by omega) c0 c1,Cd⟩,_,rfl,_,rfl,a,_,_,_,rfl,rfl,hS,hv,
   _,_,rfl,rfl,Zo,_,_,rfl,rfl,Zo,_,_,rfl,rfl,⟨Zn,Zn⟩,_,_,rfl,rfl,Zg,_,_,rfl,rfl,?_⟩
  have sb:=TJ (i:=i) Zg c0 c1 (Int.emod_nonneg v (Ne.symm (Int.ne_of_lt Zg))) (Int.emod_lt_of_pos v Zg)
  exact ⟨_,_,rfl,rfl,sb.1,sb.2⟩
 ·rintro σ H2 ⟨c,j,rfl,rfl,c0,c1⟩
  refine ⟨_,rfl,_,_,rfl,rfl,Gw,_,_,rfl,rfl,_,rfl,ite2 (fun _=>?_) (fun _=>?_)⟩
  ·refine ⟨_,rfl,(by show 1<=sizeLine;decide),fun p hp=>?_⟩
   exact q p c _ hp (WX hp _) g0
  ·refine ⟨_,rfl,_,rfl,a,rfl,⟨_,hS⟩,CU (K:=K) (a:=a) (xs:=ns.map V.int) (fun i ys H3=>H3=H2/\∃ ms:List Int,ys=ms.map V.int/\ms.length=i) ⟨rfl,[],rfl,rfl⟩ ?_ ?_ ?_ ?_⟩
   ·rintro i ys H3 hi ⟨_,ms,rfl,rfl⟩
    rw [List.length_map] at hi ⊢
    exact sizes (by omega)
   ·rintro i ys H3 hi ⟨rfl,_⟩
    exact hS
   ·rintro i x ys H3 R hx ⟨rfl,ms,rfl,rfl⟩ hR
    rw [List.getElem?_map] at hx
    obtain ⟨v,hv,rfl⟩:=Option.map_eq_some_iff.mp hx
    refine ⟨Wk.one rfl,⟨_,rfl,_,_,rfl,rfl,Gw,_,_,rfl,rfl,(by show (0:Int) < 10 ^ (18:Int).toNat;decide),?_⟩⟩
    exact hR _ _ ⟨rfl,ms++[_],by rw [List.map_append];rfl,by rw [List.length_append];rfl⟩
   ·rintro ys H3 ⟨rfl,ms,rfl,_⟩ D hD
    refine ⟨D,ms,rfl,SqL.of g0,_,_,rfl,rfl,?_⟩
    have g1:Same H3 (j9 H3 D (.lst (ms.map V.int))):=WX hD _
    refine ⟨12,rfl,by decide,by decide,DN (n:=12) (fun i σ H4=>∃ (f:Int) (j:Option V),σ=[some (.ref a),some (.int k),some (.int (c + ms.sum)),j,some (.int f)]/\H4=j9 H3 D (.lst (ms.map V.int))) ⟨0,_,rfl,rfl⟩ ?_ ?_⟩
    ·rintro i σ H4 hi ⟨f,j,rfl,rfl⟩
     refine ⟨_,rfl,_,_,rfl,rfl,.inr ⟨by decide,by decide⟩,_,rfl,_,rfl,_,_,rfl,rfl,.inl ⟨by decide,by decide⟩,_,_,rfl,rfl,_,rfl,a,_,rfl,.inl (g1.seq hS),_,_,rfl,rfl,_,rfl,_,_,rfl,by omega,by omega,fun v v0 v1=>?_⟩
     exact ⟨_,_,rfl,rfl,_,_,rfl,rfl⟩
    ·rintro σ H4 ⟨f,j,rfl,rfl⟩
     refine ⟨_,rfl,(by show 1<=sizeLine;decide),fun p hp=>?_⟩
     exact q p f _ (g1.free hp) (g1.trans (WX hp _)) g0
end
def jP (K:Fg):List PV->Prop:=fun xs=>∃ (ns:List Int) (k:Int),xs=[scr K ns,.at (.int k)]/\ns.length<=63/\0<=k/\k<=12
def zu:List PV->PV->Prop:=fun _ y=>∃ n:Int,y = .lst [.at (.int n)]
theorem TK {K:Fg}{vs:List V}{H:Hp}{Q:VK}{E:XK}(h:spN (jP K) zu vs H Q E):BA K vs H Q E:=by
 obtain ⟨Hs,xs,sm,r,⟨ns,k,rfl,h63,k0,k1⟩,q⟩:=h
 obtain ⟨v,w,rfl,p1,p2⟩:=reps_cons.mp r
 obtain ⟨u,z,rfl,p3,p4⟩:=reps_cons.mp p2
 cases reps_nil.mp p4
 cases rep_at.mp p3
 obtain ⟨a,rfl,hS⟩:=Tn sm p1
 exact ⟨a,ns,k,rfl,hS,h63,k0,k1,fun b n H' nb g e=>q _ b Hs H' ⟨n,rfl⟩ ⟨.refl _,g,sm.trans g,fun _ _ z=>z⟩ nb (sm.free nb) ⟨_,e,.one (rep_at.mpr rfl)⟩⟩
section
theorem NT (F:Fun K "_law_stream" "_law_stream" XO f fd) (Ep:Fn P w K mg base 1 "_law_mixed" ["cell", "k"] Yb) (Ad:mg "len"=none) (Ag:mg "range"=none) (Ey:mg "sum"=none) :
  FnOk P w K mg base v7 2 f fd ["script", "k"] (spN (jP K) zu):=(NU F Ep Ad Ag Ey).imp fun _ _ _ _ h=>TK h
theorem CZ:jw 10 40:=⟨by decide,by decide,by decide⟩
abbrev JY:Stmt:=y7 57
theorem Tf:v9 ["script"] ["script"] (j5 JY):=⟨rfl,rfl,rfl,by decide +kernel,rfl,by decide +kernel,by decide +kernel⟩
def WP (K:Fg):List PV->Prop:=fun xs=>∃ ns:List Int,xs=[scr K ns]/\ns.length<=63
theorem NK (F:Fun K "_law_more" "_law_more" JY f fd) (A8:Fn P w K mg base 2 "_law_stream" ["script", "k"] (spN (jP K) zu)):FnOk P w K mg base v7 3 f fd ["script"] (spN (WP K) zu):=by
 refine F.ok Tf (fun vs H Q E h=>?_) (fun cdv A outer s H vs Q E hr h=>?_)
 ·obtain ⟨Hs,xs,_,r,⟨ns,rfl,_⟩,_⟩:=h
  rw [r.length];rfl
 obtain ⟨Hs,xs,sm,r,⟨ns,rfl,h63⟩,q⟩:=h
 obtain ⟨v,w,rfl,p1,p2⟩:=reps_cons.mp r
 cases reps_nil.mp p2
 refine ⟨_,(z9 (w9 (qA (x0 (w5 Kp (i5 (ZF (K:=K) rfl) (v3 A8 hr (by decide) rfl (x0 (pv 0) (x0 z7 x9))) z7 (fun _ _=>rfl)) (w5 zp z7 z7)) x9)))),?_⟩
 refine ⟨_,rfl,Hs,[scr K ns,.at (.int 0)],sm,.cons p1 (.one (rep_at.mpr rfl)),⟨ns,0,rfl,h63,by decide,by decide⟩,fun y b Hs' H' hR x n n' t=>?_⟩
 obtain ⟨m,rfl⟩:=hR
 obtain ⟨ws,hw,rw⟩:=t
 obtain ⟨u,z,rfl,p3,p4⟩:=reps_cons.mp rw
 cases reps_nil.mp p4
 cases rep_at.mp p3
 refine ⟨b,_,0,_,rfl,rfl,SqL.of hw,rfl,_,_,rfl,rfl,CZ,_,_,rfl,rfl,⟨by decide +kernel,by decide +kernel⟩,(by show 1<=sizeLine;decide),fun p hp=>?_⟩
 exact q _ p Hs' _ ⟨_,rfl⟩ (x.trans (.newO x.s3 hp)) (x.s2.free hp) (x.s3.free hp) ⟨_,g0,.one (rep_at.mpr rfl)⟩
end
def j8:Int:=10 ^ 30
theorem jv:0 < j8:=by decide +kernel
theorem CY:jw 10 30:=⟨by decide,by decide,by decide⟩
theorem Qk:vn (.at (.int 10)) (.at (.int 30))=some (.at (.int j8)):=by
 show (if jw 10 30 then some (V.int (10 ^ (30:Int).toNat)) else none).map PV.at=_
 rw [if_pos CY];rfl
theorem Lj {k:Int}(h0:0<=k)(h1:k<=2 * j8):k.natAbs.log2 < 9000:=by
 have hb:(2 * j8).toNat < 2 ^ 9000:=Nat.lt_of_lt_of_le (show (2 * j8).toNat < 2 ^ 110 by decide +kernel) (Nat.pow_le_pow_right (by decide) (by decide))
 have:k.natAbs < 2 ^ 9000:=by omega
 by_cases hz:k.natAbs=0
 ·rw [hz];decide
 ·exact (Nat.log2_lt hz).mpr this
theorem je {n k:Int}(h0:0 < k)(h1:k<=2 * j8):Zf n k:=⟨h0,Lj (by omega) h1⟩
theorem Qt:(1000:Int)<=j8:=by decide +kernel
def qB (rss:List (List Int)):PV:= .lst (rss.map fun r=> .lst (r.map fun n=> .at (.int n)))
def XC:List PV->Prop:=fun xs=>xs=[]
def Qv:List PV->PV->Prop:=fun _ y=>∃ n:Int,y = .at (.int n)/\0<=n/\n < j8
abbrev Vd:Stmt:=y7 58
abbrev UP (K:Fg):WS:=(wSeq (qr 1 (o5 0 (wP (dC (.int 5)))))
  (wSeq (xJ (wPT (dT (z6 pLt (z0 1) (dC (.int 4))))) (xA (o5 0 (wP (z6 p8 (i8 (q9 (dC (.int 1)) (q9 (dC (.int 4)) (q9 (dC (.int 10)) (q9 (dC (.int 1000)) x8))))) (z0 1))))) xU)
  (xA (o5 0 (wP (z6 vn (dC (.int 10)) (dC (.int 30))))))))
theorem sc_rinse:v9 ["stream", "kind"] ["stream"] (j5 Vd):=⟨rfl,rfl,rfl,by decide +kernel,rfl,by decide +kernel,by decide +kernel⟩
theorem Md:∀ xs,XC xs->xs.length + 1=(["stream"]:List Str).length:=by
 rintro xs rfl;rfl
theorem Xm {m k:Int}(h0:0 < k)(h1:k<=j8):Qv [] (.at (.int (m % k))):=⟨_,rfl,Int.emod_nonneg _ (by omega),Int.lt_of_lt_of_le (Int.emod_lt_of_pos _ h0) h1⟩
theorem Mm {K:Fg}:∀ xs n,XC xs->UP K (m7 n::xs.map .sh++List.replicate ((["stream", "kind"]:List Str).length - (xs.length + 1)) .no) (fun _=>False) fun y ε=>Qv xs y/\zZ 0 ε:=by
 rintro xs n rfl
 have h0:0<=n % 5:=Int.emod_nonneg _ (by decide)
 have h5:n % 5 < 5:=Int.emod_lt_of_pos _ (by decide)
 have hB:=Qt
 refine ⟨⟨n,rfl⟩,_,rfl,n,5,rfl,rfl,⟨by decide,by decide⟩,?_⟩
 by_cases hk:n % 5 < 4
 ·refine VB (w4 (v:=true) (show some (PV.at (.bl (decide (n % 5 < 4))))=_ by rw [decide_eq_true hk])) ?_
  have c:n % 5=0 ∨ n % 5=1 ∨ n % 5=2 ∨ n % 5=3:=by omega
  rcases c with e | e | e | e
  ·exact ⟨⟨n / 5,rfl⟩,_,(by show z6 p8 _ (z0 1) [m7 (n / 5),.sh (.at (.int (n % 5)))]=_;rw [e];rfl),n / 5,1,rfl,rfl,⟨by decide,by decide⟩,Xm (by decide) (by omega),_,rfl⟩
  ·exact ⟨⟨n / 5,rfl⟩,_,(by show z6 p8 _ (z0 1) [m7 (n / 5),.sh (.at (.int (n % 5)))]=_;rw [e];rfl),n / 5,4,rfl,rfl,⟨by decide,by decide⟩,Xm (by decide) (by omega),_,rfl⟩
  ·exact ⟨⟨n / 5,rfl⟩,_,(by show z6 p8 _ (z0 1) [m7 (n / 5),.sh (.at (.int (n % 5)))]=_;rw [e];rfl),n / 5,10,rfl,rfl,⟨by decide,by decide⟩,Xm (by decide) (by omega),_,rfl⟩
  ·exact ⟨⟨n / 5,rfl⟩,_,(by show z6 p8 _ (z0 1) [m7 (n / 5),.sh (.at (.int (n % 5)))]=_;rw [e];rfl),n / 5,1000,rfl,rfl,⟨by decide,by decide⟩,Xm (by decide) (by omega),_,rfl⟩
 ·refine vE (w4 (v:=false) (show some (PV.at (.bl (decide (n % 5 < 4))))=_ by rw [decide_eq_false hk])) ?_
  exact ⟨⟨n / 5,rfl⟩,_,w6 rfl rfl Qk,n / 5,j8,rfl,rfl,je jv (by omega),Xm jv (Int.le_refl _),_,rfl⟩
theorem NP (F:Fun K "_law_rinse" "_law_rinse" Vd f fd) (Ae:Fn P w K mg base 1 "_law_take" ["stream", "many"] vC):FnOk P w K mg base v7 2 f fd ["stream"] (spD XC Qv) :=
 okD (k:=1) (b:=UP K) F sc_rinse Md (fun cdv A outer s H E hr=>⟨_,(@j7 _ _ _ _ _ (@y6 _ _ 1 _ _ _ _ sc_rinse.nd rfl (Or.inl rfl) (v3 Ae hr (by decide) rfl (@x0 _ _ _ _ _ (pv 0) (@x0 _ _ _ _ _ z7 x9 (by rfl)) (by rfl))) (by rfl) (.inl rfl))
  (@j7 _ _ _ _ _ (n8 (t9 (Xq) (pv 1) z7 (m3 _)) (@z9 _ _ _ (w9 (v3 Ae hr (by decide) rfl (@x0 _ _ _ _ _ (pv 0) (@x0 _ _ _ _ _ (i5 (o9 (K:=K) rfl) (@qA _ _ _ _ (@x0 _ _ _ _ _ z7 (@x0 _ _ _ _ _ z7 (@x0 _ _ _ _ _ z7 (@x0 _ _ _ _ _ z7 x9 (by rfl)) (by rfl)) (by rfl)) (by rfl))) (pv 1) (fun _ _=>rfl)) x9 (by rfl)) (by rfl))))) o4)
  (@z9 _ _ _ (w9 (v3 Ae hr (by decide) rfl (@x0 _ _ _ _ _ (pv 0) (@x0 _ _ _ _ _ (w5 (zp) z7 z7) x9 (by rfl)) (by rfl))))))),
  (by repeat' first | infer_instance | (refine @Mi.instSemWSTSeqWSeq _ _ _ _ ?_ ?_) | (apply @Mi.instSemWSTForWForOfSemWIOfSemWG))⟩) Mm
def Qm:List PV->Prop:=fun xs=>∃ h:Nat,xs=[.at (.int h)]/\1<=h/\h<=4
def Qw:List PV->PV->Prop:=fun xs y=>∃ (h:Nat) (rss:List (List Int)),xs=[.at (.int h)]/\y=qB rss/\xB h rss
abbrev Ve:Stmt:=y7 59
abbrev UQ (K:Fg):WS:=(xA (VA [none,some 1,some 0] [0] (wIp (zw (q9 (z6 qa (z0 1) (dC (.int 1))) x8))) (v8 0) Zb (VA [none,some 2] [0] (wIp (zw (q9 (x6 1) x8))) (v8 0) Zb (XY 1 XC Qv jt))))
theorem Th:v9 ["stream", "hues"] ["stream", "hues"] (j5 Ve):=⟨rfl,rfl,rfl,by decide +kernel,rfl,by decide +kernel,by decide +kernel⟩
theorem Me:∀ xs,Qm xs->xs.length + 1=(["stream", "hues"]:List Str).length:=by
 rintro xs ⟨h,rfl,_⟩;rfl
theorem XI {ε:ME}{a:MA}{k:Nat}(h:a ε=some [.at (.int (k:Int))])(hk:k<=lim):zw a ε=some (xn 0 k):=by
 have hlim:(lim:Int)=1000000:=rfl
 have hl:lim=1000000:=rfl
 unfold zw
 rw [h]
 show (if -(lim:Int)<=(k:Int)/\(k:Int)<=(lim:Int) then some (xn 0 (k:Int).toNat) else none)=_
 rw [if_pos ⟨by omega,by omega⟩,Int.toNat_natCast]
theorem Mn {K:Fg}:∀ xs n,Qm xs->UQ K (m7 n::xs.map .sh++List.replicate ((["stream", "hues"]:List Str).length - (xs.length + 1)) .no) (fun _=>False) fun y ε=>Qw xs y/\zZ 0 ε:=by
 rintro xs n ⟨h,rfl,h1,h4⟩
 have hl:lim=1000000:=rfl
 refine ⟨xn 0 (h + 1),XI rfl (by omega),rfl,by rw [vA];omega,?_⟩
 refine Gu (fun rest ys ε=>∃ (m:Int) (rss:List (List Int)),ε=[.no,.sh (.at (.int (h:Int))),m7 m]/\ys=rss.map (fun r=>PV.lst (r.map fun n=> .at (.int n)))/\rss.length + rest.length=h + 1/\(∀ r ∈ rss,r.length=h)/\(∀ r ∈ rss,∀ n ∈ r,0<=n/\n < j8)) ?_ ?_ _ [] _ ⟨n,[],rfl,rfl,by rw [vA];simp,(fun _ z=>nomatch z),(fun _ z=>nomatch z)⟩
 ·rintro ys ε ⟨m,rss,rfl,rfl,e1,e2,e3⟩
  exact ⟨fun _=>⟨_,rfl⟩,⟨h,rss,rfl,rfl,by simpa using e1,fun r hr=>⟨e2 r hr,e3 r hr⟩⟩,m,rfl⟩
 ·rintro x rest ys ε ⟨m,rss,rfl,rfl,e1,e2,e3⟩
  simp only [List.length_cons] at e1
  refine ⟨_,rfl,?_⟩
  refine ⟨xn 0 h,XI rfl (by omega),rfl,by rw [vA];omega,?_⟩
  refine Gu (fun rest2 zs ε=>∃ (m:Int) (r:List Int),ε=[.no,m7 m]/\zs=r.map (fun n=>PV.at (.int n))/\r.length + rest2.length=h/\(∀ n ∈ r,0<=n/\n < j8)) ?_ ?_ _ [] _ ⟨m,[],rfl,rfl,by rw [vA];simp,(fun _ z=>nomatch z)⟩
  ·rintro zs ε ⟨m2,r,rfl,rfl,g1,g2⟩
   refine ⟨(fun ⟨y,e⟩=>nomatch (show some (MSlot.sh x)=some (MSlot.ow y) from e)),⟨m2,rss++[r],rfl,by rw [List.map_append];rfl,by rw [List.length_append];simp;omega,?_,?_⟩⟩
   ·intro q hq
    rcases List.mem_append.mp hq with hq | hq
    ·exact e2 q hq
    ·rw [List.mem_singleton.mp hq];simpa using g1
   ·intro q hq
    rcases List.mem_append.mp hq with hq | hq
    ·exact e3 q hq
    ·rw [List.mem_singleton.mp hq];exact g2
  ·rintro x2 rest2 zs ε ⟨m2,r,rfl,rfl,g1,g2⟩
   simp only [List.length_cons] at g1
   refine ⟨_,rfl,⟨_,rfl⟩,⟨_,rfl⟩,rfl,?_⟩
   rintro y n' ⟨v,rfl,v0,v1⟩
   refine ⟨n',r++[v],rfl,by rw [List.map_append];rfl,by rw [List.length_append];simp;omega,fun q hq=>?_⟩
   rcases List.mem_append.mp hq with hq | hq
   ·exact g2 q hq
   ·rw [List.mem_singleton.mp hq];exact ⟨v0,v1⟩
theorem NQ (F:Fun K "_law_rinses" "_law_rinses" Ve f fd) (Io:Fn P w K mg base 2 "_law_rinse" ["stream"] (spD XC Qv)) (Ag:mg "range"=none):FnOk P w K mg base v7 3 f fd ["stream", "hues"] (spD Qm Qw) :=
 okD (k:=2) (b:=UQ K) F Th Me (fun cdv A outer s H E hr=>⟨_,(@z9 _ _ _ (w9 (qJ (N':=["j", "hues", "stream"]) (cap:=[none,some 1,some 0]) (qu rfl rfl rfl) rfl (vx rfl Ag (@x0 _ _ _ _ _ (w5 (qP (K:=K) rfl) (pv 1) z7) x9 (by rfl))) (fun _ _ _ _ _ _=>(u9 (i:=0) (by show (["j", "hues", "stream"]:List Str).Nodup;decide +kernel) rfl (Or.inl rfl))) (fun _ _ _ _ _ _=>qR) (fun _ _ _ _ _ _=>(qJ (N':=["k", "stream"]) (cap:=[none,some 2]) (qu rfl rfl rfl) rfl (vx rfl Ag (@x0 _ _ _ _ _ (pv 1) x9 (by rfl))) (fun _ _ _ _ _ _=>(u9 (i:=0) (by show (["k", "stream"]:List Str).Nodup;decide +kernel) rfl (Or.inl rfl))) (fun _ _ _ _ _ _=>qR) (fun _ _ _ _ _ _=>(v3 Io hr (by decide) rfl (@x0 _ _ _ _ _ (pv 1) x9 (by rfl))))))))),
  (by repeat' first | infer_instance | (refine @Mi.instSemWSTSeqWSeq _ _ _ _ ?_ ?_) | (apply @Mi.instSemWSTForWForOfSemWIOfSemWG))⟩) Mn
def j6 (ss:List Str):List PV:=ss.map fun s=> .at (.str s)
theorem qS (ss:List Str):(j6 ss).length=ss.length:=List.length_map _
def Low (x:Str):Prop:=∀ c ∈ x.cps.toList,97<=c/\c<=122
structure wF (x:Str):Prop where
 low:Low x
 one:1<=x.length
 eight:x.length<=8
def XA:List PV->Prop:=fun xs=>∃ ss:List Str,xs=[.lst (j6 ss)]/\ss.length<=10/\∀ s ∈ ss,wF s
def wG:List PV->PV->Prop:=fun xs y=>∃ (ss:List Str) (x:Str),xs=[.lst (j6 ss)]/\y = .at (.str x)/\wF x/\x ∉ ss
abbrev JZ:Stmt:=y7 60
abbrev UM (K:Fg):WS:=(wSeq (qr 2 (wP (dC (.str ""))))
  (wSeq (xJ (wAnd (wPT (dT (z6 qX (z0 1) (i8 x8)))) (wT (qD qd (o5 0 (wP (dC (.int 3)))) (wP (dC (.int 0)))))) (qr 2 (wP (dSlS (z6 p8 (z0 1) (dUn wg (dC (.int 1)))) pNo (pSo (dC (.int 7)))))) xU)
  (wSeq (wFor (Yx (qD qa (wP (dC (.int 1))) (o5 0 (wP (dC (.int 8)))))) (v8 3) (xJ (wPT (dT (z6 pLt (z5 qH (q9 (z0 2) x8)) (dC (.int 8))))) (qr 2 (qD qa (wP (x6 2)) (qD p8 (wP (dC (.str "abcdefghijklmnopqrstuvwxyz"))) (o5 0 (wP (dC (.int 26))))))) xU))
  (wSeq (xJ (wPT (dT (z6 (pIn false) (z0 2) (z0 1)))) (qr 2 (wP (z6 p8 (t6 [none,some 1] [0] (QG (dC (.str "abcdefghijk"))) (v8 0) (dT (z6 (pIn true) (z0 0) (z0 1))) (x6 0)) (dC (.int 0))))) xU)
  (xA (wP (x6 2)))))))
theorem sc_name:v9 ["stream", "names", "word", "k"] ["stream", "names"] (j5 JZ):=⟨rfl,rfl,rfl,by decide +kernel,rfl,by decide +kernel,by decide +kernel⟩
theorem Mb:∀ xs,XA xs->xs.length + 1=(["stream", "names"]:List Str).length:=by
 rintro xs ⟨ss,rfl,_⟩;rfl
theorem QB:∀ ss:List Str,ats (j6 ss)=some (ss.map V.str)
 | []=>rfl
 | s::ss=>by
  show (ats (j6 ss)).map (V.str s::·)=_
  rw [QB ss];rfl
theorem GR (x:Str):∀ ss:List Str,inV (.str x) (ss.map V.str)=decide (x ∈ ss)
 | []=>by simp [inV]
 | s::ss=>by
  have ih:=GR x ss
  unfold inV at ih ⊢
  rw [List.map_cons,List.any_cons,ih]
  have e:qw (.str s) (.str x)=decide (s=x):=rfl
  rw [e]
  by_cases h:s=x
  ·subst h;simp
  ·simp [h,Ne.symm h]
theorem Zy (ss:List Str):(ss.map V.str).all p0=true:=by
 rw [List.all_eq_true]
 intro v hv
 obtain ⟨s,_,rfl⟩:=List.mem_map.mp hv
 rfl
theorem wR (neg:Bool)(x:Str)(ss:List Str):pIn neg (.at (.str x)) (.lst (j6 ss))=some (.at (.bl (if neg then !decide (x ∈ ss) else decide (x ∈ ss)))):=by
 show (ats (j6 ss)).bind _=_
 rw [QB,Option.bind_some,if_pos ⟨rfl,Zy ss⟩,GR]
theorem Tx {x:Str}(h:Low x)(l u:Option Int):Low (Txt.slice x l u):=fun c hc=>by
 unfold Txt.slice at hc
 split at hc
 ·exact h c hc
 ·dsimp only at hc
  obtain ⟨i,_,e⟩:=List.mem_filterMap.mp hc
  refine h c ?_
  rw [Array.mem_toList_iff]
  exact Array.mem_of_getElem? e
theorem Tv {z:Str}{k:Nat}(h:z.length<=k)(l u:Option Int):(Txt.slice z l u).length<=k:=Nat.le_trans (Txt.slice_le z l u) h
def eleven:List Str:=[⟨#[97]⟩,⟨#[98]⟩,⟨#[99]⟩,⟨#[100]⟩,⟨#[101]⟩,⟨#[102]⟩,⟨#[103]⟩,⟨#[104]⟩,⟨#[105]⟩,⟨#[106]⟩,⟨#[107]⟩]
theorem PR {x y:Str}(hx:Low x)(hy:Low y):Low (x++y):=fun c hc=>by
 have e:(x++y).cps.toList=x.cps.toList++y.cps.toList:=by show (x.cps++y.cps).toList=_;simp
 rw [e] at hc
 rcases List.mem_append.mp hc with h | h
 ·exact hx c h
 ·exact hy c h
theorem PQ (x y:Str):(x++y).length=x.length + y.length:=by show (x.cps++y.cps).size=_;simp [Str.length]
theorem PP {k:Int}(h0:0<=k)(h1:k < 26):∃ c:Nat,p8 (.at (.str "abcdefghijklmnopqrstuvwxyz")) (.at (.int k))=some (.at (.str ⟨#[c]⟩))/\97<=c/\c<=122:=by
 have q:∀ j:_root_.Fin 26,L2.atI (("abcdefghijklmnopqrstuvwxyz":Str).cps.toList) ((j:Nat):Int)=some (97 + (j:Nat)):=by decide +kernel
 have e:=q ⟨k.toNat,by omega⟩
 have e2:((k.toNat:Nat):Int)=k:=by omega
 have e':L2.atI (("abcdefghijklmnopqrstuvwxyz":Str).cps.toList) ((k.toNat:Nat):Int)=some (97 + k.toNat):=e
 rw [e2] at e'
 refine ⟨97 + k.toNat,?_,by omega,by omega⟩
 show (if ("abcdefghijklmnopqrstuvwxyz":Str).length<=lim then (L2.atI (("abcdefghijklmnopqrstuvwxyz":Str).cps.toList) k).map _ else none)=_
 rw [if_pos (by decide +kernel),e']
 rfl
theorem CV (ss ls:List Str):qM (v8 0) (dT (z6 (pIn true) (z0 0) (z0 1))) (x6 0) [.no,.sh (.lst (j6 ss))] (j6 ls)=some (j6 (ls.filter fun x=>!decide (x ∈ ss))) :=
 VR (fun s:Str=>PV.at (.str s)) (fun s:Str=>PV.at (.str s)) (fun x=>!decide (x ∈ ss)) ls fun x _=>⟨_,rfl,w4 (w6 rfl rfl (wR true x ss)),fun _=>rfl⟩
theorem DH {a:M}{ε:ME}{z:Str}{j:Int}(h:a ε=some (.at (.str z)))(hz:z.length<=lim):dSlS a pNo (pSo (dC (.int j))) ε=some (.at (.str (Txt.slice z none (some j)))):=by
 unfold dSlS
 rw [h]
 show (if z.length<=lim then some (PV.at (.str (Txt.slice z none (some j)))) else none)=_
 rw [if_pos hz]
theorem Mj {K:Fg}:∀ xs n,XA xs->UM K (m7 n::xs.map .sh++List.replicate ((["stream", "names", "word", "k"]:List Str).length - (xs.length + 1)) .no) (fun _=>False) fun y ε=>wG xs y/\zZ 0 ε:=by
 rintro xs n ⟨ss,rfl,h10,hok⟩
 have hl:lim=1000000:=rfl
 have hlI:(lim:Int)=1000000:=rfl
 refine ⟨_,rfl,?_⟩
 have fin:∀ (m:Int) (x:Str) (s3:MSlot),Low x->1<=x.length->x.length<=8->(wSeq (xJ (wPT (dT (z6 (pIn false) (z0 2) (z0 1)))) (qr 2 (wP (z6 p8 (t6 [none,some 1] [0] (QG (dC (.str "abcdefghijk"))) (v8 0) (dT (z6 (pIn true) (z0 0) (z0 1))) (x6 0)) (dC (.int 0))))) xU) (xA (wP (x6 2)))) [m7 m,.sh (.lst (j6 ss)),.sh (.at (.str x)),s3] (fun _=>False) fun y ε=>wG [.lst (j6 ss)] y/\zZ 0 ε:=by
  intro m x s3 lx l1 l8
  by_cases hin:x ∈ ss
  ·refine VB (w4 (v:=true) (w6 rfl rfl ((wR false x ss).trans (by simp [hin])))) ?_
   have hs:vB "abcdefghijk"=j6 eleven:=by
    unfold vB
    rw [show ("abcdefghijk":Str).cps.toList=[97,98,99,100,101,102,103,104,105,106,107] by decide +kernel]
    rfl
   have hne:eleven.filter (fun x=>!decide (x ∈ ss)) ≠ []:=fun z=>by
    have:eleven.length<=ss.length:=WD (by decide +kernel) fun y hy=>by
     by_cases hys:y ∈ ss
     ·exact hys
     ·have:y ∈ eleven.filter (fun x=>!decide (x ∈ ss)):=List.mem_filter.mpr ⟨hy,by simp [hys]⟩
      rw [z] at this;exact nomatch this
    have e11:eleven.length=11:=rfl
    omega
   obtain ⟨y,rest,hy⟩:=List.exists_cons_of_ne_nil hne
   have hym:y ∈ eleven.filter (fun x=>!decide (x ∈ ss)):=by rw [hy];exact List.mem_cons_self
   obtain ⟨h1,h2⟩:=List.mem_filter.mp hym
   have hyn:y ∉ ss:=by simpa using h2
   have hyo:wF y:=by
    have q:∀ z ∈ eleven,(z.length=1/\∀ c ∈ z.cps.toList,97<=c/\c<=122):=by decide +kernel
    exact ⟨(q y h1).2,by rw [(q y h1).1];exact Nat.le_refl _,by rw [(q y h1).1];decide⟩
   refine ⟨.at (.str y),?_,_,rfl,⟨ss,y,rfl,rfl,hyo,hyn⟩,_,rfl⟩
   refine w6 (Wd (xs:=j6 eleven) (ys:=j6 (y::rest)) ?_ rfl (by decide) ?_) rfl (jD (j:=0) rfl)
   ·show some (vB "abcdefghijk")=_;rw [hs]
   ·rw [<- hy];exact CV ss eleven
  ·refine vE (w4 (v:=false) (w6 rfl rfl ((wR false x ss).trans (by simp [hin])))) ?_
   exact ⟨_,rfl,⟨ss,x,rfl,rfl,⟨lx,l1,l8⟩,hin⟩,_,rfl⟩
 have loop:∀ (m:Int) (x:Str),Low x->x.length<=8->(wSeq (wFor (Yx (qD qa (wP (dC (.int 1))) (o5 0 (wP (dC (.int 8)))))) (v8 3) (xJ (wPT (dT (z6 pLt (z5 qH (q9 (z0 2) x8)) (dC (.int 8))))) (qr 2 (qD qa (wP (x6 2)) (qD p8 (wP (dC (.str "abcdefghijklmnopqrstuvwxyz"))) (o5 0 (wP (dC (.int 26))))))) xU))
   (wSeq (xJ (wPT (dT (z6 (pIn false) (z0 2) (z0 1)))) (qr 2 (wP (z6 p8 (t6 [none,some 1] [0] (QG (dC (.str "abcdefghijk"))) (v8 0) (dT (z6 (pIn true) (z0 0) (z0 1))) (x6 0)) (dC (.int 0))))) xU) (xA (wP (x6 2))))) [m7 m,.sh (.lst (j6 ss)),.sh (.at (.str x)),.no] (fun _=>False) fun y ε=>wG [.lst (j6 ss)] y/\zZ 0 ε:=by
  intro m x lx l8
  have c0:0<=m % 8:=Int.emod_nonneg _ (by decide)
  have c1:m % 8 < 8:=Int.emod_lt_of_pos _ (by decide)
  refine ⟨_,rfl,⟨⟨m,rfl⟩,_,rfl,m,8,rfl,rfl,⟨by decide,by decide⟩,_,rfl,1 + m % 8,rfl,by omega,by omega,?_⟩⟩
  refine ZJ (fun rest ε=>∃ (m:Int) (y:Str) (s3:MSlot),ε=[m7 m,.sh (.lst (j6 ss)),.sh (.at (.str y)),s3]/\Low y/\y.length<=8/\(rest.length < (1 + m % 8 * 0 + 1)->True)/\(1<=y.length ∨ 1<=rest.length)) ?_ ?_ _ _ ⟨_,x,_,rfl,lx,l8,fun _=>trivial,.inr (by rw [vA];omega)⟩
  ·rintro ε ⟨m2,y,s3,rfl,ly,y8,_,h1⟩
   exact fin m2 y s3 ly (h1.resolve_right (by simp)) y8
  ·rintro z rest ε ⟨m2,y,s3,rfl,ly,y8,_,h1⟩
   refine ⟨_,rfl,?_⟩
   have ln:z6 pLt (z5 qH (q9 (z0 2) x8)) (dC (.int 8)) [m7 m2,.sh (.lst (j6 ss)),.sh (.at (.str y)),.sh z]=some (.at (.bl (decide ((y.length:Int) < 8)))):=by
    refine w6 (j4 rfl (show (if y.length<=lim then some (PV.at (.int y.length)) else none)=_ from if_pos (by omega))) rfl rfl
   by_cases h8:y.length < 8
   ·refine VB (w4 (v:=true) (ln.trans (by rw [decide_eq_true (by omega)]))) ?_
    have d0:0<=m2 % 26:=Int.emod_nonneg _ (by decide)
    have d1:m2 % 26 < 26:=Int.emod_lt_of_pos _ (by decide)
    obtain ⟨c,hc,c97,c122⟩:=PP d0 d1
    have ly2:Low (y++⟨#[c]⟩):=PR ly fun d hd=>by
     have:d=c:=by simpa using hd
     rw [this];exact ⟨c97,c122⟩
    have len2:(y++(⟨#[c]⟩:Str)).length=y.length + 1:=PQ _ _
    refine ⟨_,rfl,_,rfl,⟨m2,rfl⟩,_,rfl,m2,26,rfl,rfl,⟨by decide,by decide⟩,_,hc,_,(show (if y.length + (⟨#[c]⟩:Str).length<=lim then _ else none)=_ from if_pos (by show y.length + 1<=_;omega)),?_⟩
    exact ⟨_,_,_,rfl,ly2,by omega,fun _=>trivial,.inl (by omega)⟩
   ·refine vE (w4 (v:=false) (ln.trans (by rw [decide_eq_false (by omega)]))) ?_
    exact ⟨_,_,_,rfl,ly,y8,fun _=>trivial,.inl (by omega)⟩
 by_cases hne:ss=[]
 ·subst hne
  have e:wAnd (wPT (dT (z6 qX (z0 1) (i8 x8)))) (wT (qD qd (o5 0 (wP (dC (.int 3)))) (wP (dC (.int 0))))) [m7 n,.sh (.lst (j6 [])),.sh (.at (.str "")),.no]=wAnd (wPT (dT (z6 qX (z0 1) (i8 x8)))) (wT (qD qd (o5 0 (wP (dC (.int 3)))) (wP (dC (.int 0))))) [m7 n,.sh (.lst []),.sh (.at (.str "")),.no]:=rfl
  refine ⟨false,rfl,?_⟩
  exact loop n "" (fun c hc=>nomatch hc) (by decide)
 ·obtain ⟨s0,r0,rfl⟩:=List.exists_cons_of_ne_nil hne
  refine ⟨true,rfl,?_⟩
  have z3:0<=n % 3:=Int.emod_nonneg _ (by decide)
  refine ⟨⟨n,rfl⟩,_,rfl,n,3,rfl,rfl,⟨by decide,by decide⟩,_,rfl,?_⟩
  by_cases h3:n % 3=0
  ·refine ⟨_,(show qd (.at (.int (n % 3))) (.at (.int 0))=some (.at (.bl true)) from ?_),true,rfl,?_⟩
   ·rw [h3];rfl
   ·have hg:(s0::r0).getLast (List.cons_ne_nil _ _) ∈ s0::r0:=List.getLast_mem _
    have hk:=hok _ hg
    have ix:p8 (.lst (j6 (s0::r0))) (.at (.int (-1)))=some (.at (.str ((s0::r0).getLast (List.cons_ne_nil _ _)))):=by
     show atI (j6 (s0::r0)) (-1)=_
     unfold atI qW
     rw [if_neg (by decide),if_pos (by rw [qS,List.length_cons];omega),Option.bind_some,qS,show ((-1:Int) + ((s0::r0).length:Nat)).toNat=(s0::r0).length - 1 by rw [List.length_cons];omega]
     unfold j6
     rw [List.getElem?_map,List.getElem?_eq_getElem (by simp),List.getLast_eq_getElem]
     rfl
    have e8:=hk.eight
    exact ⟨_,DH (w6 rfl rfl ix) (by omega),loop _ _ (Tx hk.low _ _) (Tv hk.eight _ _)⟩
  ·refine ⟨_,(show qd (.at (.int (n % 3))) (.at (.int 0))=some (.at (.bl false)) from ?_),false,rfl,?_⟩
   ·show some (PV.at (.bl (qw (.int (n % 3)) (.int 0))))=_
    rw [show qw (.int (n % 3)) (.int 0)=decide (n % 3=0) from rfl,decide_eq_false h3]
   ·exact loop _ "" (fun c hc=>nomatch hc) (by decide)
theorem NL (F:Fun K "_law_name" "_law_name" JZ f fd) (Ae:Fn P w K mg base 1 "_law_take" ["stream", "many"] vC) (Ad:mg "len"=none) (Ag:mg "range"=none):FnOk P w K mg base v7 2 f fd ["stream", "names"] (spD XA wG) :=
 okD (k:=1) (b:=UM K) F sc_name Mb (fun cdv A outer s H E hr=>⟨_,(@j7 _ _ _ _ _ (@y6 _ _ 2 _ _ _ _ sc_name.nd rfl (Or.inl rfl) zD (by rfl) (.inl rfl))
  (@j7 _ _ _ _ _ (n8 (PW.pt (Jg (t9 (jN (K:=K) (qF hr) rfl) (pv 1) (@qA _ _ _ _ x9) (m3 _)) (Jh (t9 (zf (K:=K) (qF hr) rfl) (v3 Ae hr (by decide) rfl (@x0 _ _ _ _ _ (pv 0) (@x0 _ _ _ _ _ z7 x9 (by rfl)) (by rfl))) z7 (m3 _))))) (@z9 _ _ _ (@y6 _ _ 2 _ _ _ _ sc_name.nd rfl (Or.inl rfl) (Hz (i5 (o9 (K:=K) rfl) (pv 1) (wm wz z7) (fun _ _=>rfl)) Xz (Qj z7)) (by rfl) (.inl rfl))) o4)
  (@j7 _ _ _ _ _ (zV PassesOwn.never rfl (vx rfl Ag (@x0 _ _ _ _ _ (w5 (qP (K:=K) rfl) z7 (v3 Ae hr (by decide) rfl (@x0 _ _ _ _ _ (pv 0) (@x0 _ _ _ _ _ z7 x9 (by rfl)) (by rfl)))) x9 (by rfl))) (u9 (i:=3) sc_name.nd rfl (Or.inl rfl))
   (@z9 _ _ _ (n8 (t9 (Xq) (m8 (xL (K:=K) rfl) rfl Ad PySem.boot_len (@x0 _ _ _ _ _ (pv 2) x9 (by rfl))) z7 (m3 _)) (@z9 _ _ _ (@y6 _ _ 2 _ _ _ _ sc_name.nd rfl (Or.inl rfl) (w5 (qP (K:=K) rfl) (pv 2) (i5 (o9 (K:=K) rfl) zD (v3 Ae hr (by decide) rfl (@x0 _ _ _ _ _ (pv 0) (@x0 _ _ _ _ _ z7 x9 (by rfl)) (by rfl))) (fun _ _=>rfl))) (by rfl) (.inl rfl))) o4)))
  (@j7 _ _ _ _ _ (n8 (t9 (He (K:=K) rfl) (pv 2) (pv 1) (by with_unfolding_all rfl)) (@z9 _ _ _ (@y6 _ _ 2 _ _ _ _ sc_name.nd rfl (Or.inl rfl) (i5 (o9 (K:=K) rfl) (qJ (N':=["sign", "names"]) (cap:=[none,some 1]) (qu rfl rfl rfl) rfl (KB zD) (fun _ _ _ _ _ _=>(u9 (i:=0) (by show (["sign", "names"]:List Str).Nodup;decide +kernel) rfl (Or.inl rfl))) (fun _ _ _ _ _ _=>(Je (t9 (Ku (K:=K) rfl) (pv 0) (pv 1) (by with_unfolding_all rfl)))) (fun _ _ _ _ _ _=>(pv 0))) z7 (fun _ _=>rfl)) (by rfl) (.inl rfl))) o4)
  (@z9 _ _ _ (w9 (pv 2))))))),
  (by repeat' first | infer_instance | (refine @Mi.instSemWSTSeqWSeq _ _ _ _ ?_ ?_) | (apply @Mi.instSemWSTForWForOfSemWIOfSemWG))⟩) Mj
structure Cl where
 name:Str
 hue:Nat
 len:Int
 due:Int
 wt:Int
def Cl.pv (c:Cl):PV:= .tup [.at (.str c.name),.at (.int c.hue),.at (.int c.len),.at (.int c.due),.at (.int c.wt)]
structure Cl.Ok (h:Nat)(c:Cl):Prop where
 nm:wF c.name
 hu:c.hue < h
 l1:1<=c.len
 l2:c.len<=j8
 d1:-j8<=c.due
 d2:c.due<=j8
 w1:1<=c.wt
 w2:c.wt<=j8
theorem Kn {α β:Type}{f:α->β}(hf:∀ x y,f x=f y->x=y):∀ {a b:List α},a.map f=b.map f->a=b
 | [],[],_=>rfl
 | [],_::_,h=>by cases h
 | _::_,[],h=>by cases h
 | x::a,y::b,h=>by
  rw [List.map_cons,List.map_cons] at h
  injection h with h1 h2
  rw [hf x y h1,Kn hf h2]
theorem Vr {a b:List Str}(h:j6 a=j6 b):a=b:=Kn (fun x y e=>by injection e with e;injection e) h
def Ql:List PV->Prop:=fun xs=>∃ (ss:List Str) (h:Nat),xs=[.lst (j6 ss),.at (.int h)]/\ss.length<=10/\(∀ s ∈ ss,wF s)/\1<=h/\h<=4
def Qu:List PV->PV->Prop:=fun xs y=>∃ (ss:List Str) (h:Nat) (c:Cl),xs=[.lst (j6 ss),.at (.int h)]/\y=c.pv/\c.Ok h/\c.name ∉ ss
abbrev Jy:Stmt:=y7 61
abbrev Ul (K:Fg):WS:=(wSeq (qr 3 (XY 0 XA wG (xz (wP (x6 1)) jt)))
  (wSeq (qr 4 (o5 0 (wP (x6 2))))
  (wSeq (xJ (wT (qD pGt (o5 0 (wP (dC (.int 5)))) (wP (dC (.int 0))))) (xA (wTup (xz (wP (x6 3)) (xz (wP (x6 4)) (xz (qD qa (wP (dC (.int 1))) (o5 0 (wP (dC (.int 9))))) (xz (qD zC (o5 0 (wP (dC (.int 60)))) (wP (dC (.int 9)))) (xz (qD qa (wP (dC (.int 1))) (o5 0 (wP (dC (.int 9))))) jt))))))) xU)
  (xA (wTup (xz (wP (x6 3)) (xz (wP (x6 4)) (xz (qD qa (wP (dC (.int 1))) (o5 0 (wP (z6 zC (z6 vn (dC (.int 10)) (dC (.int 30))) (dC (.int 1)))))) (xz (qD qa (qD zC (o5 0 (wP (z6 zC (z6 pMul (dC (.int 2)) (z6 vn (dC (.int 10)) (dC (.int 30)))) (dC (.int 1))))) (wP (z6 vn (dC (.int 10)) (dC (.int 30))))) (wP (dC (.int 1)))) (xz (qD qa (wP (dC (.int 1))) (o5 0 (wP (z6 zC (z6 vn (dC (.int 10)) (dC (.int 30))) (dC (.int 1)))))) jt))))))))))
theorem sc_cloth:v9 ["stream", "names", "hues", "name", "hue"] ["stream", "names", "hues"] (j5 Jy):=⟨rfl,rfl,rfl,by decide +kernel,rfl,by decide +kernel,by decide +kernel⟩
theorem Ma:∀ xs,Ql xs->xs.length + 1=(["stream", "names", "hues"]:List Str).length:=by
 rintro xs ⟨ss,h,rfl,_⟩;rfl
theorem Cg:Builtin.Int.intBits 2<=2 ^ 20:=by decide +kernel
theorem Ce:Builtin.Int.intBits j8<=2 ^ 20:=by decide +kernel
theorem mul2:pMul (.at (.int 2)) (.at (.int j8))=some (.at (.int (2 * j8))):=by
 show (if wC 2 j8 then some (V.int (2 * j8)) else none).map PV.at=_
 rw [if_pos ⟨Cg,Ce⟩];rfl
theorem Mg {K:Fg}:∀ xs n,Ql xs->Ul K (m7 n::xs.map .sh++List.replicate ((["stream", "names", "hues", "name", "hue"]:List Str).length - (xs.length + 1)) .no) (fun _=>False) fun y ε=>Qu xs y/\zZ 0 ε:=by
 rintro xs n ⟨ss,h,rfl,h10,hok,h1,h4⟩
 have hB:=Qt
 refine ⟨⟨n,rfl⟩,_,rfl,⟨n,rfl⟩,⟨ss,rfl,h10,hok⟩,?_⟩
 rintro y n1 ⟨ss',x,e,rfl,hx,hn⟩
 have e':ss'=ss:=by injection e with e _;injection e with e;exact (Vr e).symm
 subst e'
 refine ⟨⟨n1,rfl⟩,_,rfl,n1,(h:Int),rfl,rfl,je (by omega) (by omega),?_⟩
 have u0:0<=n1 % (h:Int):=Int.emod_nonneg _ (by omega)
 have u1:n1 % (h:Int) < h:=Int.emod_lt_of_pos _ (by omega)
 obtain ⟨u,hu⟩:=Int.eq_ofNat_of_zero_le u0
 rw [hu] at u1 ⊢
 generalize n1 / (h:Int)=n2
 refine ⟨⟨n2,rfl⟩,_,rfl,n2,5,rfl,rfl,⟨by decide,by decide⟩,_,rfl,_,rfl,decide (0 < n2 % 5),rfl,?_⟩
 generalize n2 / 5=n3
 by_cases h5:0 < n2 % 5
 ·rw [decide_eq_true h5,if_pos rfl]
  refine ⟨_,rfl,_,rfl,_,rfl,⟨n3,rfl⟩,_,rfl,n3,9,rfl,rfl,⟨by decide,by decide⟩,_,rfl,⟨_,rfl⟩,_,rfl,n3 / 9,60,rfl,rfl,⟨by decide,by decide⟩,_,rfl,_,rfl,_,rfl,⟨_,rfl⟩,_,rfl,n3 / 9 / 60,9,rfl,rfl,⟨by decide,by decide⟩,_,rfl,l5,?_,_,rfl⟩
  have a0:0<=n3 % 9:=Int.emod_nonneg _ (by decide)
  have a1:n3 % 9 < 9:=Int.emod_lt_of_pos _ (by decide)
  have b0:0<=n3 / 9 % 60:=Int.emod_nonneg _ (by decide)
  have b1:n3 / 9 % 60 < 60:=Int.emod_lt_of_pos _ (by decide)
  have c0:0<=n3 / 9 / 60 % 9:=Int.emod_nonneg _ (by decide)
  have c1:n3 / 9 / 60 % 9 < 9:=Int.emod_lt_of_pos _ (by decide)
  exact ⟨ss',h,⟨x,u,1 + n3 % 9,n3 / 9 % 60 - 9,1 + n3 / 9 / 60 % 9⟩,rfl,rfl,⟨hx,(show u < h by omega),(show (1:Int)<=1 + n3 % 9 by omega),(show 1 + n3 % 9<=j8 by omega),(show -j8<=n3 / 9 % 60 - 9 by omega),(show n3 / 9 % 60 - 9<=j8 by omega),(show (1:Int)<=1 + n3 / 9 / 60 % 9 by omega),(show 1 + n3 / 9 / 60 % 9<=j8 by omega)⟩,hn⟩
 ·rw [decide_eq_false h5,if_neg Bool.false_ne_true]
  refine ⟨_,rfl,_,rfl,_,rfl,⟨n3,rfl⟩,_,w6 (w6 rfl rfl Qk) rfl rfl,n3,j8 - 1,rfl,rfl,je (by omega) (by omega),_,rfl,⟨_,rfl⟩,_,w6 (w6 rfl (w6 rfl rfl Qk) mul2) rfl rfl,n3 / (j8 - 1),2 * j8 - 1,rfl,rfl,je (by omega) (by omega),_,w6 rfl rfl Qk,_,rfl,_,rfl,_,rfl,_,rfl,⟨_,rfl⟩,_,w6 (w6 rfl rfl Qk) rfl rfl,n3 / (j8 - 1) / (2 * j8 - 1),j8 - 1,rfl,rfl,je (by omega) (by omega),_,rfl,l5,?_,_,rfl⟩
  have a0:0<=n3 % (j8 - 1):=Int.emod_nonneg _ (by omega)
  have a1:n3 % (j8 - 1) < j8 - 1:=Int.emod_lt_of_pos _ (by omega)
  have b0:0<=n3 / (j8 - 1) % (2 * j8 - 1):=Int.emod_nonneg _ (by omega)
  have b1:n3 / (j8 - 1) % (2 * j8 - 1) < 2 * j8 - 1:=Int.emod_lt_of_pos _ (by omega)
  have c0:0<=n3 / (j8 - 1) / (2 * j8 - 1) % (j8 - 1):=Int.emod_nonneg _ (by omega)
  have c1:n3 / (j8 - 1) / (2 * j8 - 1) % (j8 - 1) < j8 - 1:=Int.emod_lt_of_pos _ (by omega)
  generalize n3 % (j8 - 1)=p1 at a0 a1 ⊢
  generalize n3 / (j8 - 1) % (2 * j8 - 1)=p2 at b0 b1 ⊢
  generalize n3 / (j8 - 1) / (2 * j8 - 1) % (j8 - 1)=p3 at c0 c1 ⊢
  exact ⟨ss',h,⟨x,u,1 + p1,p2 - j8 + 1,1 + p3⟩,rfl,rfl,⟨hx,(show u < h by omega),(show (1:Int)<=1 + p1 by omega),(show 1 + p1<=j8 by omega),(show -j8<=p2 - j8 + 1 by omega),(show p2 - j8 + 1<=j8 by omega),(show (1:Int)<=1 + p3 by omega),(show 1 + p3<=j8 by omega)⟩,hn⟩
theorem Ni (F:Fun K "_law_cloth" "_law_cloth" Jy f fd) (Iz:Fn P w K mg base 2 "_law_name" ["stream", "names"] (spD XA wG)) (Ae:Fn P w K mg base 1 "_law_take" ["stream", "many"] vC):FnOk P w K mg base v7 3 f fd ["stream", "names", "hues"] (spD Ql Qu) :=
 okD (k:=2) (b:=Ul K) F sc_cloth Ma (fun cdv A outer s H E hr=>⟨_,(@j7 _ _ _ _ _ (@y6 _ _ 3 _ _ _ _ sc_cloth.nd rfl (Or.inl rfl) (v3 Iz hr (by decide) rfl (@x0 _ _ _ _ _ (pv 0) (@x0 _ _ _ _ _ (pv 1) x9 (by rfl)) (by rfl))) (by rfl) (.inl rfl))
  (@j7 _ _ _ _ _ (@y6 _ _ 4 _ _ _ _ sc_cloth.nd rfl (Or.inl rfl) (v3 Ae hr (by decide) rfl (@x0 _ _ _ _ _ (pv 0) (@x0 _ _ _ _ _ (pv 2) x9 (by rfl)) (by rfl))) (by rfl) (.inl rfl))
  (@j7 _ _ _ _ _ (n8 (t9 (WF) (v3 Ae hr (by decide) rfl (@x0 _ _ _ _ _ (pv 0) (@x0 _ _ _ _ _ z7 x9 (by rfl)) (by rfl))) z7 (m3 _)) (@z9 _ _ _ (w9 (@zT _ _ _ _ _ (@x0 _ _ _ _ _ (pv 3) (@x0 _ _ _ _ _ (pv 4) (@x0 _ _ _ _ _ (w5 (qP (K:=K) rfl) z7 (v3 Ae hr (by decide) rfl (@x0 _ _ _ _ _ (pv 0) (@x0 _ _ _ _ _ z7 x9 (by rfl)) (by rfl)))) (@x0 _ _ _ _ _ (w5 (jp) (v3 Ae hr (by decide) rfl (@x0 _ _ _ _ _ (pv 0) (@x0 _ _ _ _ _ z7 x9 (by rfl)) (by rfl))) z7) (@x0 _ _ _ _ _ (w5 (qP (K:=K) rfl) z7 (v3 Ae hr (by decide) rfl (@x0 _ _ _ _ _ (pv 0) (@x0 _ _ _ _ _ z7 x9 (by rfl)) (by rfl)))) x9 (by rfl)) (by rfl)) (by rfl)) (by rfl)) (by rfl))))) o4)
  (@z9 _ _ _ (w9 (@zT _ _ _ _ _ (@x0 _ _ _ _ _ (pv 3) (@x0 _ _ _ _ _ (pv 4) (@x0 _ _ _ _ _ (w5 (qP (K:=K) rfl) z7 (v3 Ae hr (by decide) rfl (@x0 _ _ _ _ _ (pv 0) (@x0 _ _ _ _ _ (w5 (jp) (w5 (zp) z7 z7) z7) x9 (by rfl)) (by rfl)))) (@x0 _ _ _ _ _ (w5 (qP (K:=K) rfl) (w5 (jp) (v3 Ae hr (by decide) rfl (@x0 _ _ _ _ _ (pv 0) (@x0 _ _ _ _ _ (w5 (jp) (w5 (Xr) z7 (w5 (zp) z7 z7)) z7) x9 (by rfl)) (by rfl))) (w5 (zp) z7 z7)) z7) (@x0 _ _ _ _ _ (w5 (qP (K:=K) rfl) z7 (v3 Ae hr (by decide) rfl (@x0 _ _ _ _ _ (pv 0) (@x0 _ _ _ _ _ (w5 (jp) (w5 (zp) z7 z7) z7) x9 (by rfl)) (by rfl)))) x9 (by rfl)) (by rfl)) (by rfl)) (by rfl)) (by rfl)))))))),
  (by repeat' first | infer_instance | (refine @Mi.instSemWSTSeqWSeq _ _ _ _ ?_ ?_) | (apply @Mi.instSemWSTForWForOfSemWIOfSemWG))⟩) Mg
structure Dr where
 h:Nat
 rss:List (List Int)
 cls:List Cl
 last:Int
 time:Int
def Dr.pv (d:Dr):PV:= .tup [qB d.rss,.lst (d.cls.map Cl.pv),.at (.int d.last),.at (.int d.time)]
structure Dr.Ok (d:Dr):Prop where
 h1:1<=d.h
 h4:d.h<=4
 rin:xB d.h d.rss
 ten:d.cls.length<=10
 cl:∀ c ∈ d.cls,c.Ok d.h
 nd:(d.cls.map Cl.name).Nodup
 l1:-1<=d.last
 l2:d.last < d.h
 t1:0<=d.time
 t2:d.time < 60 * j8
def XD (K:Fg):List PV->Prop:=fun xs=>∃ (ns:List Int) (m:Nat),xs=[scr K ns,.at (.int m)]/\ns.length<=63/\m<=10
def Qx:List PV->PV->Prop:=fun xs y=>∃ d:Dr,y=d.pv/\d.Ok/\d.time < j8/\∃ (s:PV) (m:Nat),xs=[s,.at (.int m)]/\d.cls.length<=m
abbrev Vm:Stmt:=y7 62
abbrev UW (K:Fg):WS:=(wSeq (Yy 2 (jP K) zu (xz (wP (x6 0)) (xz (wP (dC (.int 0))) jt)))
  (wSeq (qr 3 (qD qa (wP (dC (.int 1))) (o5 2 (wP (dC (.int 4))))))
  (wSeq (qr 4 (o5 2 (wP (dC (.int 8)))))
  (wSeq (xJ (wPT (dT (z6 qd (z0 4) (dC (.int 7))))) (qr 4 (qD qa (wP (dC (.int 7))) (o5 2 (wP (dC (.int 4)))))) xU)
  (wSeq (qr 5 (qD zC (o5 2 (wP (z6 qa (z0 3) (dC (.int 1))))) (wP (dC (.int 1)))))
  (wSeq (qr 6 (o5 2 (qD p8 (wP (i8 (q9 (dC (.int 1)) (q9 (dC (.int 50)) (q9 (z6 vn (dC (.int 10)) (dC (.int 30))) x8))))) (o5 2 (wP (dC (.int 3)))))))
  (wSeq (qr 7 (Qr (jP K) zu (q9 (x6 0) (q9 (dC (.int 1)) x8)) Qm Qw (q9 (x6 3) x8)))
  (wSeq (Za 8 (i8 x8))
  (wSeq (wFor (wIp (zw (q9 (z5 Xv (q9 (z0 4) (q9 (z0 1) x8))) x8))) (v8 9) (XX 8 (Qr (jP K) zu (q9 (x6 0) (q9 (z6 qa (dC (.int 2)) (z0 9)) x8)) Ql Qu (q9 (VW [none] [0] (i7 (z0 8)) (v8 0) i4 (z6 p8 (z0 0) (dC (.int 0)))) (q9 (x6 3) x8)))))
  (wFz 8 (xA (wP (xD (q9 (x6 7) (q9 (x6 8) (q9 (x6 5) (q9 (x6 6) x8)))))))))))))))))
theorem sc_works:v9 ["script", "most", "stream", "hues", "many", "last", "time", "rinses", "cloths", "k"] ["script", "most"] (j5 Vm):=⟨rfl,rfl,rfl,by decide +kernel,rfl,by decide +kernel,by decide +kernel⟩
theorem Mf {K:Fg}:∀ xs,XD K xs->xs.length=(["script", "most"]:List Str).length:=by
 rintro xs ⟨ns,m,rfl,_⟩;rfl
theorem LG (cs:List Cl):qM (v8 0) i4 (z6 p8 (z0 0) (dC (.int 0))) [.no] (cs.map Cl.pv)=some (j6 (cs.map Cl.name)):=by
 induction cs with
 | nil=>rfl
 | cons c cs ih =>
  show Option.bind (some (PV.at (.str c.name))) (fun y=>Option.bind (qM _ _ _ _ (cs.map Cl.pv)) fun ys=>some (y::ys))=_
  rw [ih];rfl
theorem Mo {K:Fg}:∀ xs,XD K xs->UW K (xs.map .sh++List.replicate ((["script", "most", "stream", "hues", "many", "last", "time", "rinses", "cloths", "k"]:List Str).length - xs.length) .no) (fun _=>False) fun y _=>Qx xs y:=by
 rintro xs ⟨ns,mo,rfl,h63,hmo⟩
 have hB:=Qt
 have hlim:lim=1000000:=rfl
 refine ⟨_,rfl,_,rfl,⟨ns,0,rfl,h63,by decide,by decide⟩,?_⟩
 rintro y ⟨n,rfl⟩
 -- hues
 refine ⟨_,rfl,⟨n,rfl⟩,_,rfl,n,4,rfl,rfl,⟨by decide,by decide⟩,_,rfl,?_⟩
 have a0:0<=n % 4:=Int.emod_nonneg _ (by decide)
 have a1:n % 4 < 4:=Int.emod_lt_of_pos _ (by decide)
 obtain ⟨h,hh⟩:=Int.eq_ofNat_of_zero_le (show 0<=1 + n % 4 by omega)
 generalize n / 4=n1
 have hh1:1<=h:=by omega
 have hh4:h<=4:=by omega
 rw [hh]
 clear a0 a1 hh
 -- many
 refine ⟨⟨n1,rfl⟩,_,rfl,n1,8,rfl,rfl,⟨by decide,by decide⟩,?_⟩
 have b0:0<=n1 % 8:=Int.emod_nonneg _ (by decide)
 have b1:n1 % 8 < 8:=Int.emod_lt_of_pos _ (by decide)
 obtain ⟨q,hq⟩:=Int.eq_ofNat_of_zero_le b0
 rw [hq] at b1 ⊢
 generalize n1 / 8=n2
 have rest:∀ (n2:Int) (q:Nat),q<=10->((wSeq (qr 5 (qD zC (o5 2 (wP (z6 qa (z0 3) (dC (.int 1))))) (wP (dC (.int 1)))))
  (wSeq (qr 6 (o5 2 (qD p8 (wP (i8 (q9 (dC (.int 1)) (q9 (dC (.int 50)) (q9 (z6 vn (dC (.int 10)) (dC (.int 30))) x8))))) (o5 2 (wP (dC (.int 3)))))))
  (wSeq (qr 7 (Qr (jP K) zu (q9 (x6 0) (q9 (dC (.int 1)) x8)) Qm Qw (q9 (x6 3) x8)))
  (wSeq (Za 8 (i8 x8))
  (wSeq (wFor (wIp (zw (q9 (z5 Xv (q9 (z0 4) (q9 (z0 1) x8))) x8))) (v8 9) (XX 8 (Qr (jP K) zu (q9 (x6 0) (q9 (z6 qa (dC (.int 2)) (z0 9)) x8)) Ql Qu (q9 (VW [none] [0] (i7 (z0 8)) (v8 0) i4 (z6 p8 (z0 0) (dC (.int 0)))) (q9 (x6 3) x8)))))
  (wFz 8 (xA (wP (xD (q9 (x6 7) (q9 (x6 8) (q9 (x6 5) (q9 (x6 6) x8))))))))))))):WS) [.sh (scr K ns),.sh (.at (.int (mo:Int))),m7 n2,.sh (.at (.int (h:Int))),.sh (.at (.int (q:Int))),.no,.no,.no,.no,.no] (fun _=>False) fun y _=>Qx [scr K ns,.at (.int mo)] y:=by
  clear b0 b1 hq q n2
  intro n2 q hq10
  -- last
  refine ⟨⟨n2,rfl⟩,_,rfl,n2,(h:Int) + 1,rfl,rfl,je (by omega) (by omega),_,rfl,_,rfl,?_⟩
  have c0:0<=n2 % ((h:Int) + 1):=Int.emod_nonneg _ (by omega)
  have c1:n2 % ((h:Int) + 1) < (h:Int) + 1:=Int.emod_lt_of_pos _ (by omega)
  generalize n2 % ((h:Int) + 1)=la at c0 c1
  generalize n2 / ((h:Int) + 1)=n3
  -- time
  refine ⟨⟨n3,rfl⟩,_,xE (v5 rfl (v5 rfl (v5 (w6 rfl rfl Qk) rfl))) (by decide),⟨n3,rfl⟩,_,rfl,n3,3,rfl,rfl,⟨by decide,by decide⟩,?_⟩
  have d0:0<=n3 % 3:=Int.emod_nonneg _ (by decide)
  have d1:n3 % 3 < 3:=Int.emod_lt_of_pos _ (by decide)
  have ixt:∃ k:Int,p8 (.lst [.at (.int 1),.at (.int 50),.at (.int j8)]) (.at (.int (n3 % 3)))=some (.at (.int k))/\0 < k/\k<=j8:=by
   have c:n3 % 3=0 ∨ n3 % 3=1 ∨ n3 % 3=2:=by omega
   rcases c with e | e | e <;> rw [e]
   ·exact ⟨1,rfl,by decide,by omega⟩
   ·exact ⟨50,rfl,by decide,by omega⟩
   ·exact ⟨j8,rfl,jv,Int.le_refl _⟩
  obtain ⟨k,ek,k0,k1⟩:=ixt
  refine ⟨_,ek,n3 / 3,k,rfl,rfl,je k0 (by omega),?_⟩
  have t0:0<=n3 / 3 % k:=Int.emod_nonneg _ (by omega)
  have t1:n3 / 3 % k < k:=Int.emod_lt_of_pos _ k0
  generalize n3 / 3 % k=ti at t0 t1
  generalize n3 / 3 / k=n4
  -- rinses
  refine ⟨_,_,rfl,rfl,⟨ns,1,rfl,h63,by decide,by decide⟩,fun y hy=>hy,⟨h,rfl,hh1,hh4⟩,?_⟩
  rintro y ⟨h',rss,e,rfl,hr⟩
  have e':h'=h:=by injection e with e _;injection e with e;injection e with e;omega
  subst e'
  -- cloths
  refine ⟨_,rfl,?_⟩
  have mn:zw (q9 (z5 Xv (q9 (z0 4) (q9 (z0 1) x8))) x8) [.sh (scr K ns),.sh (.at (.int (mo:Int))),m7 n4,.sh (.at (.int (h':Int))),.sh (.at (.int (q:Int))),.sh (.at (.int (la - 1))),.sh (.at (.int ti)),.sh (qB rss),.ow (.lst []),.no]=some (xn 0 (min q mo)):=by
   refine XI (v5 (j4 rfl ?_) rfl) (by omega)
   show some (PV.at (.int (if (mo:Int) < (q:Int) then (mo:Int) else (q:Int))))=_
   rw [show (if (mo:Int) < (q:Int) then (mo:Int) else (q:Int))=((min q mo:Nat):Int) by split <;> omega]
  refine ⟨_,mn,?_⟩
  refine ZJ (fun rest ε=>∃ (cs:List Cl) (s9:MSlot),ε=[.sh (scr K ns),.sh (.at (.int (mo:Int))),m7 n4,.sh (.at (.int (h':Int))),.sh (.at (.int (q:Int))),.sh (.at (.int (la - 1))),.sh (.at (.int ti)),.sh (qB rss),.ow (.lst (cs.map Cl.pv)),s9]/\(∃ m0:Nat,rest=(xn 0 (min q mo)).drop m0/\cs.length=m0/\m0<=min q mo)/\(∀ c ∈ cs,c.Ok h')/\(cs.map Cl.name).Nodup) ?_ ?_ _ _ ⟨[],_,rfl,⟨0,rfl,rfl,Nat.zero_le _⟩,(fun _ z=>nomatch z),List.nodup_nil⟩
  ·rintro ε ⟨cs,s9,rfl,⟨m0,e1,e2,e3⟩,g1,g2⟩
   exact ⟨_,rfl,⟨h',rss,cs,la - 1,ti⟩,rfl,⟨hh1,hh4,hr,(by show cs.length<=10;omega),g1,g2,(by show -1<=la - 1;omega),(by show la - 1 < (h':Int);omega),t0,(by have:=jv;show ti < 60 * j8;omega)⟩,(by show ti < j8;omega),_,mo,rfl,(by show cs.length<=mo;omega)⟩
  ·rintro x rest ε ⟨cs,s9,rfl,⟨m0,e1,e2,e3⟩,g1,g2⟩
   have hm:m0 < min q mo:=by
    have e5:(x::rest).length=((xn 0 (min q mo)).drop m0).length:=by rw [<- e1]
    rw [List.length_drop,vA,List.length_cons] at e5
    omega
   have ex:x = .at (.int ((0:Int) + m0)):=by
    have q0:(xn 0 (min q mo))[m0]?=some x:=by
     have:((xn 0 (min q mo)).drop m0)[0]?=some x:=by rw [<- e1];rfl
     rw [List.getElem?_drop] at this
     simpa using this
    exact (Bn q0).2
   have er:rest=(xn 0 (min q mo)).drop (m0 + 1):=by
    have:((xn 0 (min q mo)).drop m0).tail=rest:=by rw [<- e1];rfl
    rw [<- this,List.tail_drop]
   subst ex
   refine ⟨_,rfl,⟨_,rfl⟩,?_⟩
   refine ⟨[scr K ns,.at (.int (2 + (0 + (m0:Int))))],[.lst (j6 (cs.map Cl.name)),.at (.int (h':Int))],rfl,?_,⟨ns,2 + (0 + (m0:Int)),rfl,h63,by omega,by omega⟩,fun y hy=>hy,⟨cs.map Cl.name,h',rfl,by rw [List.length_map];omega,?_,hh1,hh4⟩,?_⟩
   ·refine v5 (x:= .lst (j6 (cs.map Cl.name))) ?_ rfl
    show Option.bind (some (cs.map Cl.pv)) (fun xs=>if jc [none] [0]=true/\xs.length<=lim then (qM _ _ _ _ xs).bind fun ys=>some (PV.lst ys) else none)=_
    rw [Option.bind_some,if_pos ⟨rfl,by rw [List.length_map];omega⟩]
    show (qM (v8 0) i4 (z6 p8 (z0 0) (dC (.int 0))) [.no] (cs.map Cl.pv)).bind _=_
    rw [LG];rfl
   ·intro s hs
    obtain ⟨c,hc,rfl⟩:=List.mem_map.mp hs
    exact (g1 c hc).nm
   ·rintro y ⟨ss,h2,c,e6,rfl,ok,hn⟩
    injection e6 with e6 e7
    injection e6 with e6
    injection e7 with e7 _
    injection e7 with e7
    injection e7 with e7
    have e8:=Vr e6
    have e9:h'=h2:=by omega
    subst e8 e9
    refine ⟨_,rfl,by rw [List.length_map];omega,cs++[c],.sh (.at (.int (0 + (m0:Int)))),?_,⟨m0 + 1,er,by rw [List.length_append];simp;omega,hm⟩,?_,?_⟩
    ·show [MSlot.sh (scr K ns),_,_,_,_,_,_,_,.ow (.lst (cs.map Cl.pv++[c.pv])),_]=_
     rw [List.map_append];rfl
    ·intro d hd
     rcases List.mem_append.mp hd with hd | hd
     ·exact g1 d hd
     ·rw [List.mem_singleton.mp hd];exact ok
    ·rw [List.map_append]
     refine List.nodup_append.mpr ⟨g2,(List.nodup_cons.mpr ⟨by simp,List.nodup_nil⟩),fun a ha b hb=>?_⟩
     rw [List.mem_singleton.mp hb]
     exact fun e=>hn (e ▸ ha)
 by_cases h7:q=7
 ·subst h7
  refine VB (w4 (v:=true) rfl) ?_
  have d0:0<=n2 % 4:=Int.emod_nonneg _ (by decide)
  have d1:n2 % 4 < 4:=Int.emod_lt_of_pos _ (by decide)
  refine ⟨_,rfl,⟨n2,rfl⟩,_,rfl,n2,4,rfl,rfl,⟨by decide,by decide⟩,_,rfl,?_⟩
  obtain ⟨q,hq⟩:=Int.eq_ofNat_of_zero_le (show 0<=7 + n2 % 4 by omega)
  rw [hq]
  exact rest _ q (by omega)
 ·refine vE (w4 (v:=false) ?_) (rest _ q (by omega))
  show some (PV.at (.bl (decide ((q:Int)=7))))=_
  rw [decide_eq_false (by omega)]
theorem Ha (F:Fun K "_law_works" "_law_works" Vm f fd) (Ii:Fn P w K mg base 3 "_law_cloth" ["stream", "names", "hues"] (spD Ql Qu)) (E3:Fn P w K mg base 3 "_law_rinses" ["stream", "hues"] (spD Qm Qw)) (A8:Fn P w K mg base 2 "_law_stream" ["script", "k"] (spN (jP K) zu)) (Ae:Fn P w K mg base 1 "_law_take" ["stream", "many"] vC) (Q3:mg "min"=none) (Ag:mg "range"=none):FnOk P w K mg base v7 4 f fd ["script", "most"] (spV (XD K) Qx) :=
 okV (k:=3) (b:=UW K) F sc_works Mf (fun cdv A outer s H E hr=>⟨_,(@j7 _ _ _ _ _ (@y6 _ _ 2 _ _ _ _ sc_works.nd rfl (Or.inl rfl) (v3 A8 hr (by decide) rfl (@x0 _ _ _ _ _ (pv 0) (@x0 _ _ _ _ _ z7 x9 (by rfl)) (by rfl))) (by rfl) (.inl rfl))
  (@j7 _ _ _ _ _ (@y6 _ _ 3 _ _ _ _ sc_works.nd rfl (Or.inl rfl) (w5 (qP (K:=K) rfl) z7 (v3 Ae hr (by decide) rfl (@x0 _ _ _ _ _ (pv 2) (@x0 _ _ _ _ _ z7 x9 (by rfl)) (by rfl)))) (by rfl) (.inl rfl))
  (@j7 _ _ _ _ _ (@y6 _ _ 4 _ _ _ _ sc_works.nd rfl (Or.inl rfl) (v3 Ae hr (by decide) rfl (@x0 _ _ _ _ _ (pv 2) (@x0 _ _ _ _ _ z7 x9 (by rfl)) (by rfl))) (by rfl) (.inl rfl))
  (@j7 _ _ _ _ _ (n8 (t9 (zf (K:=K) (qF hr) rfl) (pv 4) z7 (m3 _)) (@z9 _ _ _ (@y6 _ _ 4 _ _ _ _ sc_works.nd rfl (Or.inl rfl) (w5 (qP (K:=K) rfl) z7 (v3 Ae hr (by decide) rfl (@x0 _ _ _ _ _ (pv 2) (@x0 _ _ _ _ _ z7 x9 (by rfl)) (by rfl)))) (by rfl) (.inl rfl))) o4)
  (@j7 _ _ _ _ _ (@y6 _ _ 5 _ _ _ _ sc_works.nd rfl (Or.inl rfl) (w5 (jp) (v3 Ae hr (by decide) rfl (@x0 _ _ _ _ _ (pv 2) (@x0 _ _ _ _ _ (w5 (qP (K:=K) rfl) (pv 3) z7) x9 (by rfl)) (by rfl))) z7) (by rfl) (.inl rfl))
  (@j7 _ _ _ _ _ (@y6 _ _ 6 _ _ _ _ sc_works.nd rfl (Or.inl rfl) (v3 Ae hr (by decide) rfl (@x0 _ _ _ _ _ (pv 2) (@x0 _ _ _ _ _ (i5 (o9 (K:=K) rfl) (@qA _ _ _ _ (@x0 _ _ _ _ _ z7 (@x0 _ _ _ _ _ z7 (@x0 _ _ _ _ _ (w5 (zp) z7 z7) x9 (by rfl)) (by rfl)) (by rfl))) (v3 Ae hr (by decide) rfl (@x0 _ _ _ _ _ (pv 2) (@x0 _ _ _ _ _ z7 x9 (by rfl)) (by rfl))) (fun _ _=>rfl)) x9 (by rfl)) (by rfl))) (by rfl) (.inl rfl))
  (@j7 _ _ _ _ _ (@y6 _ _ 7 _ _ _ _ sc_works.nd rfl (Or.inl rfl) (v3 E3 hr (by decide) rfl (@x0 _ _ _ _ _ (v3 A8 hr (by decide) rfl (@x0 _ _ _ _ _ (pv 0) (@x0 _ _ _ _ _ z7 x9 (by rfl)) (by rfl))) (@x0 _ _ _ _ _ (pv 3) x9 (by rfl)) (by rfl))) (by rfl) (.inl rfl))
  (@j7 _ _ _ _ _ (@y6 _ _ 8 _ _ _ _ sc_works.nd rfl (Or.inl rfl) (@qA _ _ _ _ x9) (by rfl) (.inl rfl))
  (@j7 _ _ _ _ _ (zV PassesOwn.never rfl (vx rfl Ag (@x0 _ _ _ _ _ (m8 (CI rfl) rfl Q3 Co (@x0 _ _ _ _ _ (pv 4) (@x0 _ _ _ _ _ (pv 1) x9 (by rfl)) (by rfl))) x9 (by rfl))) (u9 (i:=9) sc_works.nd rfl (Or.inl rfl))
   (@z9 _ _ _ (zE (Qg (K:=K) rfl PySem.F.plainAttrs_list PySem.F.slot_list_append PySem.F.type_list_append Xn (pv 8) (x0 (v3 Ii hr (by decide) rfl (@x0 _ _ _ _ _ (v3 A8 hr (by decide) rfl (@x0 _ _ _ _ _ (pv 0) (@x0 _ _ _ _ _ (w5 (qP (K:=K) rfl) z7 (pv 9)) x9 (by rfl)) (by rfl))) (@x0 _ _ _ _ _ (qJ (N':=["cloth"]) (cap:=[none]) (qu rfl rfl rfl) rfl (@qK _ K _ _ _ rfl (pv 8)) (fun _ _ _ _ _ _=>(u9 (i:=0) (by show (["cloth"]:List Str).Nodup;decide +kernel) rfl (Or.inl rfl))) (fun _ _ _ _ _ _=>qR) (fun _ _ _ _ _ _=>(i5 (o9 (K:=K) rfl) (pv 0) z7 (fun _ _=>rfl)))) (@x0 _ _ _ _ _ (pv 3) x9 (by rfl)) (by rfl)) (by rfl))) x9)))))
  (@z9 _ _ _ (w9 (@zT _ _ _ _ _ (@x0 _ _ _ _ _ (pv 7) (@x0 _ _ _ _ _ (pv 8) (@x0 _ _ _ _ _ (pv 5) (@x0 _ _ _ _ _ (pv 6) x9 (by rfl)) (by rfl)) (by rfl)) (by rfl)))))))))))))),
  (by repeat' first | infer_instance | (refine @Mi.instSemWSTSeqWSeq _ _ _ _ ?_ ?_) | (apply @Mi.instSemWSTForWForOfSemWIOfSemWG))⟩) Mo
def XB:List PV->Prop:=fun xs=>∃ ss:List Str,xs=[.lst (j6 ss)]/\ss.length<=10
def Zj:List PV->PV->Prop:=fun xs y=>∃ ss os:List Str,xs=[.lst (j6 ss)]/\y = .lst (j6 os)/\os.Perm ss
abbrev Vb:Stmt:=y7 63
abbrev UO (K:Fg):WS:=(wSeq (Za 2 (z5 Qf (q9 (z0 1) x8)))
  (wSeq (Za 3 (i8 x8))
  (wSeq (Qs (wPT (dT (z6 qX (z0 2) (i8 x8)))) (XX 3 (wPop 2 (o5 0 (wP (z5 qH (q9 (z0 2) x8)))))) 11)
  (wFz 3 (xA (wP (x6 3)))))))
theorem sc_order:v9 ["stream", "names", "left", "found"] ["stream", "names"] (j5 Vb):=⟨rfl,rfl,rfl,by decide +kernel,rfl,by decide +kernel,by decide +kernel⟩
theorem Mc:∀ xs,XB xs->xs.length + 1=(["stream", "names"]:List Str).length:=by
 rintro xs ⟨ss,rfl,_⟩;rfl
theorem GI {α β:Type}(f:α->β):∀ (l:List α) (i:Nat),(l.map f).eraseIdx i=(l.eraseIdx i).map f
 | [],_=>rfl
 | _::_,0=>rfl
 | x::l,i + 1=>by simp [GI f l i]
theorem LH (ss:List Str):qX (.lst (j6 ss)) (.lst [])=some (.at (.bl (!ss.isEmpty))):=by
 cases ss with
 | nil=>rfl
 | cons s ss=>rfl
theorem KA {α:Type}:∀ {ss:List α} {j:Nat} (h:j < ss.length),(ss[j]::ss.eraseIdx j).Perm ss
 | x::ss,0,_=>List.Perm.refl _
 | x::ss,j + 1,h=>by
  have hj:j < ss.length:=by simpa using h
  have ih:=KA hj
  show (ss[j]::x::ss.eraseIdx j).Perm (x::ss)
  exact (List.Perm.swap _ _ _).trans (ih.cons x)
theorem Ml {K:Fg}:∀ xs n,XB xs->UO K (m7 n::xs.map .sh++List.replicate ((["stream", "names", "left", "found"]:List Str).length - (xs.length + 1)) .no) (fun _=>False) fun y ε=>Zj xs y/\zZ 0 ε:=by
 rintro xs n ⟨ss,rfl,h10⟩
 have hlim:lim=1000000:=rfl
 have hB:=Qt
 refine ⟨_,rfl,_,rfl,?_⟩
 refine Pk (fun m ε=>∃ (k:Int) (left found:List Str),ε=[m7 k,.sh (.lst (j6 ss)),.ow (.lst (j6 left)),.ow (.lst (j6 found))]/\left.length=m/\(found++left).Perm ss) ?_ 11 ss.length _ ⟨n,ss,[],rfl,rfl,List.Perm.refl _⟩ (by omega)
 rintro m ε ⟨k,left,found,rfl,hl,hp⟩
 refine ⟨!left.isEmpty,w4 (w6 rfl rfl (LH left)),?_⟩
 have hlen:=hp.length_eq
 rw [List.length_append] at hlen
 cases left with
 | nil =>
  show if false=true then _ else _
  rw [if_neg Bool.false_ne_true]
  rw [List.append_nil] at hp
  exact ⟨_,rfl,⟨ss,found,rfl,rfl,hp⟩,_,rfl⟩
 | cons s0 r0 =>
  show if true=true then _ else _
  rw [if_pos rfl]
  generalize hL:s0::r0=left at hl hp hlen ⊢
  have hpos:0 < left.length:=by rw [<- hL];simp
  have c0:0<=k % (((j6 left).length:Nat):Int):=Int.emod_nonneg _ (by rw [qS];omega)
  have c1:k % (((j6 left).length:Nat):Int) < (((j6 left).length:Nat):Int):=Int.emod_lt_of_pos _ (by rw [qS];omega)
  refine ⟨m - 1,by omega,⟨_,rfl⟩,⟨_,rfl⟩,⟨k,rfl⟩,_,rfl,k,(((j6 left).length:Nat):Int),rfl,rfl,je (by rw [qS];omega) (by rw [qS];omega),?_⟩
  generalize hj:k % (((j6 left).length:Nat):Int)=j at c0 c1
  rw [qS] at c1
  have hjl:j.toNat < left.length:=by omega
  refine ⟨j6 left,j,.at (.str left[j.toNat]),rfl,rfl,c0,by rw [qS];exact c1,by rw [qS];omega,?_,j6 found,rfl,by rw [qS];omega,?_⟩
  ·unfold j6
   rw [List.getElem?_map,List.getElem?_eq_getElem hjl]
   rfl
  ·refine ⟨k / (((j6 left).length:Nat):Int),left.eraseIdx j.toNat,found++[left[j.toNat]],?_,by rw [List.length_eraseIdx_of_lt hjl];omega,?_⟩
   ·show [m7 _,MSlot.sh (.lst (j6 ss)),MSlot.ow (.lst ((j6 left).eraseIdx j.toNat)),MSlot.ow (.lst (j6 found++[.at (.str left[j.toNat])]))]=_
    unfold j6
    rw [GI,List.map_append]
    rfl
   ·rw [List.append_assoc]
    exact ((KA hjl).append_left found).trans hp
theorem NN (F:Fun K "_law_order" "_law_order" Vb f fd) (Ae:Fn P w K mg base 1 "_law_take" ["stream", "many"] vC) (Ad:mg "len"=none) (Au:mg "list"=none):FnOk P w K mg base v7 2 f fd ["stream", "names"] (spD XB Zj) :=
 okD (k:=1) (b:=UO K) F sc_order Mc (fun cdv A outer s H E hr=>⟨_,(@j7 _ _ _ _ _ (@y6 _ _ 2 _ _ _ _ sc_order.nd rfl (Or.inl rfl) (Xw (VN (K:=K) rfl) rfl Au wK (@x0 _ _ _ _ _ (pv 1) x9 (by rfl))) (by rfl) (.inl rfl))
  (@j7 _ _ _ _ _ (@y6 _ _ 3 _ _ _ _ sc_order.nd rfl (Or.inl rfl) (@qA _ _ _ _ x9) (by rfl) (.inl rfl))
  (@j7 _ _ _ _ _ (HU PassesOwn.never (t9 (jN (K:=K) (qF hr) rfl) (pv 2) (@qA _ _ _ _ x9) (m3 _))
   (@z9 _ _ _ (zE (Qg (K:=K) rfl PySem.F.plainAttrs_list PySem.F.slot_list_append PySem.F.type_list_append Xn (pv 3) (x0 (Qg (K:=K) rfl PySem.F.plainAttrs_list PySem.F.slot_list_pop PySem.F.type_list_pop LD (pv 2) (x0 (v3 Ae hr (by decide) rfl (@x0 _ _ _ _ _ (pv 0) (@x0 _ _ _ _ _ (m8 (xL (K:=K) rfl) rfl Ad PySem.boot_len (@x0 _ _ _ _ _ (pv 2) x9 (by rfl))) x9 (by rfl)) (by rfl))) x9)) x9)))))
  (@z9 _ _ _ (w9 (pv 3)))))),
  (by repeat' first | infer_instance | (refine @Mi.instSemWSTSeqWSeq _ _ _ _ ?_ ?_) | (apply @Mi.instSemWSTForWForOfSemWIOfSemWG))⟩) Ml
abbrev JM:Stmt:=y7 4
abbrev UA:MS:=(y9 (zm (z5 xj (q9 (z0 0) (q9 (dC (.ty "int")) x8))) (Zr (z5 xj (q9 (z0 0) (q9 (dC (.ty "bool")) x8))))))
def vj:List PV->Option PV:=i6 1 1 UA
theorem RV:v9 ["thing"] ["thing"] (j5 JM):=⟨rfl,rfl,rfl,by decide +kernel,rfl,by decide +kernel,by decide +kernel⟩
theorem Nx (F:Fun K "is_whole" "is_whole" JM f fd) (J3:mg "bool"=none) (Q4:mg "int"=none) (Ac:mg "isinstance"=none):FnOk P w K mg base v7 1 f fd ["thing"] (v4 vj) :=
 qp (k:=0) (b:=UA) F RV rfl fun cdv A outer s H E hr=>⟨_,(@z9 _ _ _ (w9 (vo (m8 (jY (K:=K) rfl) rfl Ac zK (@x0 _ _ _ _ _ (pv 0) (@x0 _ _ _ _ _ (jO (v:= .ty "int") rfl Q4 Cm rfl) x9 (by rfl)) (by rfl))) (vq (Hw (m8 (jY (K:=K) rfl) rfl Ac zK (@x0 _ _ _ _ _ (pv 0) (@x0 _ _ _ _ _ (jO (v:= .ty "bool") rfl J3 Ci rfl) x9 (by rfl)) (by rfl)))))))),
  inferInstance⟩
abbrev Va:Stmt:=y7 7
abbrev UN:MS:=(y9 (z6 p8 (z0 0) (dC (.int 0))))
def zR:List PV->Option PV:=i6 1 1 UN
theorem Tg:v9 ["cloth"] ["cloth"] (j5 Va):=⟨rfl,rfl,rfl,by decide +kernel,rfl,by decide +kernel,by decide +kernel⟩
theorem NM (F:Fun K "name_of" "name_of" Va f fd) :FnOk P w K mg base v7 1 f fd ["cloth"] (v4 zR) :=
 qp (k:=0) (b:=UN) F Tg rfl fun cdv A outer s H E hr=>⟨_,(@z9 _ _ _ (w9 (i5 (o9 (K:=K) rfl) (pv 0) z7 (fun _ _=>rfl)))),
  inferInstance⟩
abbrev JF:Stmt:=y7 8
abbrev Ut:MS:=(y9 (z6 p8 (z0 0) (dC (.int 1))))
def ze:List PV->Option PV:=i6 1 1 Ut
theorem RL:v9 ["cloth"] ["cloth"] (j5 JF):=⟨rfl,rfl,rfl,by decide +kernel,rfl,by decide +kernel,by decide +kernel⟩
theorem Np (F:Fun K "hue_of" "hue_of" JF f fd) :FnOk P w K mg base v7 1 f fd ["cloth"] (v4 ze) :=
 qp (k:=0) (b:=Ut) F RL rfl fun cdv A outer s H E hr=>⟨_,(@z9 _ _ _ (w9 (i5 (o9 (K:=K) rfl) (pv 0) z7 (fun _ _=>rfl)))),
  inferInstance⟩
abbrev JU:Stmt:=y7 9
abbrev UJ:MS:=(y9 (z6 p8 (z0 0) (dC (.int 2))))
def Qa:List PV->Option PV:=i6 1 1 UJ
theorem Td:v9 ["cloth"] ["cloth"] (j5 JU):=⟨rfl,rfl,rfl,by decide +kernel,rfl,by decide +kernel,by decide +kernel⟩
theorem NG (F:Fun K "length_of" "length_of" JU f fd) :FnOk P w K mg base v7 1 f fd ["cloth"] (v4 Qa) :=
 qp (k:=0) (b:=UJ) F Td rfl fun cdv A outer s H E hr=>⟨_,(@z9 _ _ _ (w9 (i5 (o9 (K:=K) rfl) (pv 0) z7 (fun _ _=>rfl)))),
  inferInstance⟩
abbrev JB:Stmt:=y7 10
abbrev Up:MS:=(y9 (z6 p8 (z0 0) (dC (.int 3))))
def Xa:List PV->Option PV:=i6 1 1 Up
theorem RI:v9 ["cloth"] ["cloth"] (j5 JB):=⟨rfl,rfl,rfl,by decide +kernel,rfl,by decide +kernel,by decide +kernel⟩
theorem Nl (F:Fun K "due_of" "due_of" JB f fd) :FnOk P w K mg base v7 1 f fd ["cloth"] (v4 Xa) :=
 qp (k:=0) (b:=Up) F RI rfl fun cdv A outer s H E hr=>⟨_,(@z9 _ _ _ (w9 (i5 (o9 (K:=K) rfl) (pv 0) z7 (fun _ _=>rfl)))),
  inferInstance⟩
abbrev Vl:Stmt:=y7 11
abbrev UV:MS:=(y9 (z6 p8 (z0 0) (dC (.int 4))))
def Xj:List PV->Option PV:=i6 1 1 UV
theorem Tm:v9 ["cloth"] ["cloth"] (j5 Vl):=⟨rfl,rfl,rfl,by decide +kernel,rfl,by decide +kernel,by decide +kernel⟩
theorem NZ (F:Fun K "weight_of" "weight_of" Vl f fd) :FnOk P w K mg base v7 1 f fd ["cloth"] (v4 Xj) :=
 qp (k:=0) (b:=UV) F Tm rfl fun cdv A outer s H E hr=>⟨_,(@z9 _ _ _ (w9 (i5 (o9 (K:=K) rfl) (pv 0) z7 (fun _ _=>rfl)))),
  inferInstance⟩
abbrev JH:Stmt:=y7 12
abbrev Uv:MS:=(y9 (zm (z5 vj (q9 (x6 0) x8)) (z6 pGe (z0 0) (z0 1))))
def jo:List PV->Option PV:=i6 2 2 Uv
theorem RO:v9 ["thing", "least"] ["thing", "least"] (j5 JH):=⟨rfl,rfl,rfl,by decide +kernel,rfl,by decide +kernel,by decide +kernel⟩
theorem Nr (F:Fun K "is_from" "is_from" JH f fd) (Aq:Fn P w K mg base 1 "is_whole" ["thing"] (v4 vj)):FnOk P w K mg base v7 2 f fd ["thing", "least"] (v4 jo) :=
 qp (k:=1) (b:=Uv) F RO rfl fun cdv A outer s H E hr=>⟨_,(@z9 _ _ _ (w9 (vo (v3 Aq hr (by decide) rfl (@x0 _ _ _ _ _ (pv 0) x9 (by rfl))) (vq (zg (ZX) (pv 0) (pv 1) (m3 _)))))),
  inferInstance⟩
abbrev JJ:Stmt:=y7 3
abbrev Ux:MS:=(u3 (i9 (dOr (qk (qv (z5 xj (q9 (z0 0) (q9 (dC (.ty "str")) x8))))) (qk (dT (vK pLe pLe (dC (.int 1)) (z5 qH (q9 (z0 0) x8)) (dC (.int 8)))))) (y9 (dC (.bl false))) qx)
  (y9 (z5 zS (q9 (t6 [none] [0] (QG (x6 0)) (v8 0) i4 (vK pLeS pLeS (dC (.str "a")) (z0 0) (dC (.str "z")))) x8))))
def ZP:List PV->Option PV:=i6 1 1 Ux
theorem RQ:v9 ["thing"] ["thing"] (j5 JJ):=⟨rfl,rfl,rfl,by decide +kernel,rfl,by decide +kernel,by decide +kernel⟩
theorem Nu (F:Fun K "is_name" "is_name" JJ f fd) (D2:mg "all"=none) (Ac:mg "isinstance"=none) (Ad:mg "len"=none) (Ib:mg "str"=none) {D4:Tok} (B9:mg "LONGEST_NAME"=some (.int 8 D4)):FnOk P w K mg base v7 1 f fd ["thing"] (v4 ZP) :=
 qp (k:=0) (b:=Ux) F RQ rfl fun cdv A outer s H E hr=>⟨_,(@j7 _ _ _ _ _ (n8 (PW.pt (jr (xm (qY (K:=K) rfl (m8 (jY (K:=K) rfl) rfl Ac zK (@x0 _ _ _ _ _ (pv 0) (@x0 _ _ _ _ _ (jO (v:= .ty "str") rfl Ib Gf rfl) x9 (by rfl)) (by rfl))) (fun _=>rfl))) (vy (xm (KG (Xp) (Xp) z7 (m8 (xL (K:=K) rfl) rfl Ad PySem.boot_len (@x0 _ _ _ _ _ (pv 0) x9 (by rfl))) (vp (v:= .int 8) rfl B9 ⟨_,rfl⟩)))))) (@z9 _ _ _ (w9 qQ)) o4)
  (@z9 _ _ _ (w9 (m8 (QD (K:=K) rfl rfl) rfl D2 QC (@x0 _ _ _ _ _ (qJ (N':=["sign"]) (cap:=[none]) (qu rfl rfl rfl) rfl (KB (pv 0)) (fun _ _ _ _ _ _=>(u9 (i:=0) (by show (["sign"]:List Str).Nodup;decide +kernel) rfl (Or.inl rfl))) (fun _ _ _ _ _ _=>qR) (fun _ _ _ _ _ _=>(Ho (Ks) (Ks) zD (pv 0) zD))) x9 (by rfl)))))),
  inferInstance⟩
abbrev JG:Stmt:=y7 13
abbrev Uu:MS:=(u3 (i9 (dOr (qk (qv (z5 xj (q9 (z0 0) (q9 (dC (.ty "tuple")) x8))))) (dT (z6 qX (z5 qH (q9 (z0 0) x8)) (dC (.int 5))))) (y9 (dC (.bl false))) qx)
  (u3 (i9 (dOr (qk (qv (z5 ZP (q9 (z5 zR (q9 (x6 0) x8)) x8)))) (dOr (qk (qv (z5 jo (q9 (z5 ze (q9 (x6 0) x8)) (q9 (dC (.int 0)) x8))))) (dT (z6 pGe (z5 ze (q9 (x6 0) x8)) (z0 1))))) (y9 (dC (.bl false))) qx)
  (y9 (zm (z5 jo (q9 (z5 Qa (q9 (x6 0) x8)) (q9 (dC (.int 1)) x8))) (zm (z5 vj (q9 (z5 Xa (q9 (x6 0) x8)) x8)) (z5 jo (q9 (z5 Xj (q9 (x6 0) x8)) (q9 (dC (.int 1)) x8))))))))
def ZN:List PV->Option PV:=i6 2 2 Uu
theorem RN:v9 ["thing", "hues"] ["thing", "hues"] (j5 JG):=⟨rfl,rfl,rfl,by decide +kernel,rfl,by decide +kernel,by decide +kernel⟩
theorem Nq (F:Fun K "is_cloth" "is_cloth" JG f fd) (Eb:Fn P w K mg base 1 "due_of" ["cloth"] (v4 Xa)) (Ao:Fn P w K mg base 1 "hue_of" ["cloth"] (v4 ze)) (Ax:Fn P w K mg base 2 "is_from" ["thing", "least"] (v4 jo)) (Et:Fn P w K mg base 1 "is_name" ["thing"] (v4 ZP)) (Aq:Fn P w K mg base 1 "is_whole" ["thing"] (v4 vj)) (A5:Fn P w K mg base 1 "length_of" ["cloth"] (v4 Qa)) (An:Fn P w K mg base 1 "name_of" ["cloth"] (v4 zR)) (A6:Fn P w K mg base 1 "weight_of" ["cloth"] (v4 Xj)) (Ac:mg "isinstance"=none) (Ad:mg "len"=none) (Ie:mg "tuple"=none) {Im:Tok} (Ip:mg "PARTS"=some (.int 5 Im)):FnOk P w K mg base v7 3 f fd ["thing", "hues"] (v4 ZN) :=
 qp (k:=2) (b:=Uu) F RN rfl fun cdv A outer s H E hr=>⟨_,(@j7 _ _ _ _ _ (n8 (PW.pt (jr (xm (qY (K:=K) rfl (m8 (jY (K:=K) rfl) rfl Ac zK (@x0 _ _ _ _ _ (pv 0) (@x0 _ _ _ _ _ (jO (v:= .ty "tuple") rfl Ie Cr rfl) x9 (by rfl)) (by rfl))) (fun _=>rfl))) (vy (t9 (jN (K:=K) (qF hr) rfl) (m8 (xL (K:=K) rfl) rfl Ad PySem.boot_len (@x0 _ _ _ _ _ (pv 0) x9 (by rfl))) (vp (v:= .int 5) rfl Ip ⟨_,rfl⟩) (m3 _))))) (@z9 _ _ _ (w9 qQ)) o4)
  (@j7 _ _ _ _ _ (n8 (PW.pt (jr (xm (qY (K:=K) rfl (v3 Et hr (by decide) rfl (@x0 _ _ _ _ _ (v3 An hr (by decide) rfl (@x0 _ _ _ _ _ (pv 0) x9 (by rfl))) x9 (by rfl))) (fun _=>rfl))) (jr (xm (qY (K:=K) rfl (v3 Ax hr (by decide) rfl (@x0 _ _ _ _ _ (v3 Ao hr (by decide) rfl (@x0 _ _ _ _ _ (pv 0) x9 (by rfl))) (@x0 _ _ _ _ _ z7 x9 (by rfl)) (by rfl))) (fun _=>rfl))) (vy (t9 (ZX) (v3 Ao hr (by decide) rfl (@x0 _ _ _ _ _ (pv 0) x9 (by rfl))) (pv 1) (m3 _)))))) (@z9 _ _ _ (w9 qQ)) o4)
  (@z9 _ _ _ (w9 (vo (v3 Ax hr (by decide) rfl (@x0 _ _ _ _ _ (v3 A5 hr (by decide) rfl (@x0 _ _ _ _ _ (pv 0) x9 (by rfl))) (@x0 _ _ _ _ _ z7 x9 (by rfl)) (by rfl))) (vo (v3 Aq hr (by decide) rfl (@x0 _ _ _ _ _ (v3 Eb hr (by decide) rfl (@x0 _ _ _ _ _ (pv 0) x9 (by rfl))) x9 (by rfl))) (vq (v3 Ax hr (by decide) rfl (@x0 _ _ _ _ _ (v3 A6 hr (by decide) rfl (@x0 _ _ _ _ _ (pv 0) x9 (by rfl))) (@x0 _ _ _ _ _ z7 x9 (by rfl)) (by rfl)))))))))),
  inferInstance⟩
abbrev JL:Stmt:=y7 39
abbrev Uz:MS:=(u3 (i9 (dOr (qk (qv (z5 xj (q9 (z0 0) (q9 (dC (.ty "list")) x8))))) (dT (z6 qX (z5 qH (q9 (z0 0) x8)) (z0 1)))) (y9 (dC (.bl false))) qx)
  (y9 (z5 zS (q9 (t6 [none] [0] (i7 (x6 0)) (v8 0) i4 (zm (z5 vj (q9 (x6 0) x8)) (z6 pGe (z0 0) (dC (.int 0))))) x8))))
def Xc:List PV->Option PV:=i6 2 2 Uz
theorem RU:v9 ["row", "hues"] ["row", "hues"] (j5 JL):=⟨rfl,rfl,rfl,by decide +kernel,rfl,by decide +kernel,by decide +kernel⟩
theorem Nw (F:Fun K "is_rinse_row" "is_rinse_row" JL f fd) (Aq:Fn P w K mg base 1 "is_whole" ["thing"] (v4 vj)) (D2:mg "all"=none) (Ac:mg "isinstance"=none) (Ad:mg "len"=none) (Au:mg "list"=none):FnOk P w K mg base v7 2 f fd ["row", "hues"] (v4 Xc) :=
 qp (k:=1) (b:=Uz) F RU rfl fun cdv A outer s H E hr=>⟨_,(@j7 _ _ _ _ _ (n8 (PW.pt (jr (xm (qY (K:=K) rfl (m8 (jY (K:=K) rfl) rfl Ac zK (@x0 _ _ _ _ _ (pv 0) (@x0 _ _ _ _ _ (jO (v:= .ty "list") rfl Au wK rfl) x9 (by rfl)) (by rfl))) (fun _=>rfl))) (vy (t9 (jN (K:=K) (qF hr) rfl) (m8 (xL (K:=K) rfl) rfl Ad PySem.boot_len (@x0 _ _ _ _ _ (pv 0) x9 (by rfl))) (pv 1) (m3 _))))) (@z9 _ _ _ (w9 qQ)) o4)
  (@z9 _ _ _ (w9 (m8 (QD (K:=K) rfl rfl) rfl D2 QC (@x0 _ _ _ _ _ (qJ (N':=["number"]) (cap:=[none]) (qu rfl rfl rfl) rfl (@qK _ K _ _ _ rfl (pv 0)) (fun _ _ _ _ _ _=>(u9 (i:=0) (by show (["number"]:List Str).Nodup;decide +kernel) rfl (Or.inl rfl))) (fun _ _ _ _ _ _=>qR) (fun _ _ _ _ _ _=>(vo (v3 Aq hr (by decide) rfl (@x0 _ _ _ _ _ (pv 0) x9 (by rfl))) (vq (zg (ZX) (pv 0) z7 (m3 _)))))) x9 (by rfl)))))),
  inferInstance⟩
abbrev Jw:Stmt:=y7 40
abbrev Uj:MS:=(u3 (i9 (qk (qv (z5 xj (q9 (z0 0) (q9 (dC (.ty "list")) x8))))) za qx)
  (u3 (m6 1 (z6 zC (z5 qH (q9 (z0 0) x8)) (dC (.int 1))))
  (u3 (i9 (qk (dT (vK pLe pLe (dC (.int 1)) (z0 1) (dC (.int 4))))) za qx)
  (i9 (qk (qv (z5 zS (q9 (t6 [none,some 1] [0] (i7 (x6 0)) (v8 0) i4 (z5 Xc (q9 (x6 0) (q9 (x6 1) x8)))) x8)))) za qx))))
def ZL:List PV->Option PV:=i6 2 1 Uj
theorem sc_check_rinses:v9 ["rinses", "hues"] ["rinses"] (j5 Jw):=⟨rfl,rfl,rfl,by decide +kernel,rfl,by decide +kernel,by decide +kernel⟩
theorem Ng (F:Fun K "check_rinses" "check_rinses" Jw f fd) (B7:Fn P w K mg base 2 "is_rinse_row" ["row", "hues"] (v4 Xc)) (D2:mg "all"=none) (Ac:mg "isinstance"=none) (Ad:mg "len"=none) (Au:mg "list"=none) {El:Tok} (Ek:mg "MOST_HUES"=some (.int 4 El)):FnOk P w K mg base v7 3 f fd ["rinses"] (v4 ZL) :=
 qp (k:=2) (b:=Uj) F sc_check_rinses rfl fun cdv A outer s H E hr=>⟨_,(@j7 _ _ _ _ _ (n8 (xm (qY (K:=K) rfl (m8 (jY (K:=K) rfl) rfl Ac zK (@x0 _ _ _ _ _ (pv 0) (@x0 _ _ _ _ _ (jO (v:= .ty "list") rfl Au wK rfl) x9 (by rfl)) (by rfl))) (fun _=>rfl))) (@z9 _ _ _ jQ) o4)
  (@j7 _ _ _ _ _ (@y6 _ _ 1 _ _ _ _ sc_check_rinses.nd rfl (Or.inr rfl) (w5 (jp) (m8 (xL (K:=K) rfl) rfl Ad PySem.boot_len (@x0 _ _ _ _ _ (pv 0) x9 (by rfl))) z7) (by rfl) (.inl rfl))
  (@j7 _ _ _ _ _ (n8 (xm (KG (Xp) (Xp) z7 (pv 1) (vp (v:= .int 4) rfl Ek ⟨_,rfl⟩))) (@z9 _ _ _ jQ) o4)
  (@z9 _ _ _ (n8 (xm (qY (K:=K) rfl (m8 (QD (K:=K) rfl rfl) rfl D2 QC (@x0 _ _ _ _ _ (qJ (N':=["row", "hues"]) (cap:=[none,some 1]) (qu rfl rfl rfl) rfl (@qK _ K _ _ _ rfl (pv 0)) (fun _ _ _ _ _ _=>(u9 (i:=0) (by show (["row", "hues"]:List Str).Nodup;decide +kernel) rfl (Or.inl rfl))) (fun _ _ _ _ _ _=>qR) (fun _ _ _ _ _ _=>(v3 B7 hr (by decide) rfl (@x0 _ _ _ _ _ (pv 0) (@x0 _ _ _ _ _ (pv 1) x9 (by rfl)) (by rfl))))) x9 (by rfl))) (fun _=>rfl))) (@z9 _ _ _ jQ) o4))))),
  inferInstance⟩
abbrev Vg:Stmt:=y7 41
abbrev UR:MS:=(y9 (t6 [none,none] [0,1] (VX (q9 (x6 0) x8)) (zd 2 (qi (v8 0) (qi (v8 1) zc))) i4 (xD (q9 (x6 1) (q9 (i8 (q9 (x6 0) x8)) x8)))))
def Xi:List PV->Option PV:=zL 1 1 UR
theorem Ti:v9 ["row"] ["row"] (j5 Vg):=⟨rfl,rfl,rfl,by decide +kernel,rfl,by decide +kernel,by decide +kernel⟩
theorem NS (F:Fun K "straight_ways" "straight_ways" Vg f fd) (Eh:mg "enumerate"=none):FnOk P w K mg base v7 1 f fd ["row"] (spO Xi) :=
 okO (k:=0) (b:=UR) F Ti rfl fun cdv A outer s H E hr=>⟨_,(@z9 _ _ _ (w9 (qJ (N':=["hue", "number"]) (cap:=[none,none]) (qu rfl rfl rfl) rfl (HF (K:=K) rfl rfl Eh (@x0 _ _ _ _ _ (pv 0) x9 (by rfl))) (fun _ _ _ _ _ _=>(vt (K:=K) (n:=2) rfl rfl (xl (u9 (i:=0) (by show (["hue", "number"]:List Str).Nodup;decide +kernel) rfl (Or.inl rfl)) (xl (u9 (i:=1) (by show (["hue", "number"]:List Str).Nodup;decide +kernel) rfl (Or.inl rfl)) vw)))) (fun _ _ _ _ _ _=>qR) (fun _ _ _ _ _ _=>(@zT _ _ _ _ _ (@x0 _ _ _ _ _ (pv 1) (@x0 _ _ _ _ _ (@qA _ _ _ _ (@x0 _ _ _ _ _ (pv 0) x9 (by rfl))) x9 (by rfl)) (by rfl))))))),
  inferInstance⟩
abbrev JN:Stmt:=y7 42
abbrev UB:MS:=(y9 (xD (q9 (z6 qa (z6 p8 (z0 0) (dC (.int 0))) (z6 p8 (z0 1) (dC (.int 0)))) (q9 (z6 qa (z6 p8 (z0 0) (dC (.int 1))) (z6 p8 (z0 1) (dC (.int 1)))) x8))))
def Xd:List PV->Option PV:=i6 2 2 UB
theorem RW:v9 ["way", "onward"] ["way", "onward"] (j5 JN):=⟨rfl,rfl,rfl,by decide +kernel,rfl,by decide +kernel,by decide +kernel⟩
theorem Ny (F:Fun K "joined" "joined" JN f fd) :FnOk P w K mg base v7 1 f fd ["way", "onward"] (v4 Xd) :=
 qp (k:=0) (b:=UB) F RW rfl fun cdv A outer s H E hr=>⟨_,(@z9 _ _ _ (w9 (@zT _ _ _ _ _ (@x0 _ _ _ _ _ (w5 (qP (K:=K) rfl) (i5 (o9 (K:=K) rfl) (pv 0) z7 (fun _ _=>rfl)) (i5 (o9 (K:=K) rfl) (pv 1) z7 (fun _ _=>rfl))) (@x0 _ _ _ _ _ (w5 (qP (K:=K) rfl) (i5 (o9 (K:=K) rfl) (pv 0) z7 (fun _ _=>rfl)) (i5 (o9 (K:=K) rfl) (pv 1) z7 (fun _ _=>rfl))) x9 (by rfl)) (by rfl))))),
  inferInstance⟩
abbrev JV:Stmt:=y7 43
abbrev UK:MS:=(y9 (dIf (dT (z6 pLt (z6 p8 (z0 1) (dC (.int 0))) (z6 p8 (z0 0) (dC (.int 0))))) (x6 1) (x6 0)))
def Xh:List PV->Option PV:=i6 2 2 UK
theorem Te:v9 ["way", "other"] ["way", "other"] (j5 JV):=⟨rfl,rfl,rfl,by decide +kernel,rfl,by decide +kernel,by decide +kernel⟩
theorem NH (F:Fun K "lesser" "lesser" JV f fd) :FnOk P w K mg base v7 1 f fd ["way", "other"] (v4 Xh) :=
 qp (k:=0) (b:=UK) F Te rfl fun cdv A outer s H E hr=>⟨_,(@z9 _ _ _ (w9 (Xx (t9 (Xq) (i5 (o9 (K:=K) rfl) (pv 1) z7 (fun _ _=>rfl)) (i5 (o9 (K:=K) rfl) (pv 0) z7 (fun _ _=>rfl)) (m3 _)) (pv 1) (pv 0)))),
  inferInstance⟩
abbrev Vk:Stmt:=y7 44
abbrev UU:MS:=(y9 (t6 [none,none,some 0,some 1] [0,1] (dZip (q9 (x6 0) (q9 (x6 2) x8))) (zd 2 (qi (v8 0) (qi (v8 1) zc))) i4 (z5 Xh (q9 (x6 0) (q9 (z5 Xd (q9 (z6 p8 (z0 2) (z0 3)) (q9 (x6 1) x8))) x8)))))
def Qc:List PV->Option PV:=zL 3 3 UU
theorem Tl:v9 ["ways", "hue", "onward"] ["ways", "hue", "onward"] (j5 Vk):=⟨rfl,rfl,rfl,by decide +kernel,rfl,by decide +kernel,by decide +kernel⟩
theorem NY (F:Fun K "ways_through" "ways_through" Vk f fd) (E1:Fn P w K mg base 1 "joined" ["way", "onward"] (v4 Xd)) (Ez:Fn P w K mg base 1 "lesser" ["way", "other"] (v4 Xh)) (N6:mg "zip"=none):FnOk P w K mg base v7 2 f fd ["ways", "hue", "onward"] (spO Qc) :=
 okO (k:=1) (b:=UU) F Tl rfl fun cdv A outer s H E hr=>⟨_,(@z9 _ _ _ (w9 (qJ (N':=["way", "more", "ways", "hue"]) (cap:=[none,none,some 0,some 1]) (qu rfl rfl rfl) rfl (HK (K:=K) rfl rfl N6 (@x0 _ _ _ _ _ (pv 0) (@x0 _ _ _ _ _ (pv 2) x9 (by rfl)) (by rfl))) (fun _ _ _ _ _ _=>(vt (K:=K) (n:=2) rfl rfl (xl (u9 (i:=0) (by show (["way", "more", "ways", "hue"]:List Str).Nodup;decide +kernel) rfl (Or.inl rfl)) (xl (u9 (i:=1) (by show (["way", "more", "ways", "hue"]:List Str).Nodup;decide +kernel) rfl (Or.inl rfl)) vw)))) (fun _ _ _ _ _ _=>qR) (fun _ _ _ _ _ _=>(v3 Ez hr (by decide) rfl (@x0 _ _ _ _ _ (pv 0) (@x0 _ _ _ _ _ (v3 E1 hr (by decide) rfl (@x0 _ _ _ _ _ (i5 (o9 (K:=K) rfl) (pv 2) (pv 3) (fun _ _=>rfl)) (@x0 _ _ _ _ _ (pv 1) x9 (by rfl)) (by rfl))) x9 (by rfl)) (by rfl))))))),
  inferInstance⟩
abbrev JT:Stmt:=y7 45
abbrev UI:MS:=(u3 (m6 1 (t6 [none] [0] (i7 (x6 0)) (v8 0) i4 (z5 Xi (q9 (x6 0) x8))))
  (u3 (vN (zw (q9 (z6 zC (z5 qH (q9 (z0 0) x8)) (dC (.int 1))) x8)) (v8 2) (u3 (m6 3 (z6 p8 (z0 1) (z0 2)))
  (m6 1 (t6 [none,some 2,some 3] [0] (i7 (x6 1)) (v8 0) i4 (z5 Qc (q9 (x6 0) (q9 (x6 1) (q9 (x6 2) x8))))))))
  (y9 (x6 1))))
def ZR:List PV->Option PV:=i6 4 1 UI
theorem sc_least_ways:v9 ["rinses", "table", "hue", "onward"] ["rinses"] (j5 JT):=⟨rfl,rfl,rfl,by decide +kernel,rfl,by decide +kernel,by decide +kernel⟩
theorem NF (F:Fun K "least_ways" "least_ways" JT f fd) (A9:Fn P w K mg base 1 "straight_ways" ["row"] (spO Xi)) (B8:Fn P w K mg base 2 "ways_through" ["ways", "hue", "onward"] (spO Qc)) (Ad:mg "len"=none) (Ag:mg "range"=none):FnOk P w K mg base v7 3 f fd ["rinses"] (v4 ZR) :=
 qp (k:=2) (b:=UI) F sc_least_ways rfl fun cdv A outer s H E hr=>⟨_,(@j7 _ _ _ _ _ (WQ (i:=1) (N':=["row"]) (cap:=[none]) (qu rfl rfl rfl) rfl sc_least_ways.nd rfl rfl (@qK _ K _ _ _ rfl (pv 0)) (fun _ _ _ _ _ _=>(u9 (i:=0) (by show (["row"]:List Str).Nodup;decide +kernel) rfl (Or.inl rfl))) (fun _ _ _ _ _ _=>qR) (fun _ _ _ _ _ _=>(v3 A9 hr (by decide) rfl (@x0 _ _ _ _ _ (pv 0) x9 (by rfl)))))
  (@j7 _ _ _ _ _ (zV PassesOwn.never rfl (vx rfl Ag (@x0 _ _ _ _ _ (w5 (jp) (m8 (xL (K:=K) rfl) rfl Ad PySem.boot_len (@x0 _ _ _ _ _ (pv 0) x9 (by rfl))) z7) x9 (by rfl))) (u9 (i:=2) sc_least_ways.nd rfl (Or.inr rfl))
   (@j7 _ _ _ _ _ (@y6 _ _ 3 _ _ _ _ sc_least_ways.nd rfl (Or.inr rfl) (i5 (o9 (K:=K) rfl) (pv 1) (pv 2) (fun _ _=>rfl)) (by rfl) (.inl rfl))
  (@z9 _ _ _ (WQ (i:=1) (N':=["ways", "hue", "onward"]) (cap:=[none,some 2,some 3]) (qu rfl rfl rfl) rfl sc_least_ways.nd rfl rfl (@qK _ K _ _ _ rfl (pv 1)) (fun _ _ _ _ _ _=>(u9 (i:=0) (by show (["ways", "hue", "onward"]:List Str).Nodup;decide +kernel) rfl (Or.inl rfl))) (fun _ _ _ _ _ _=>qR) (fun _ _ _ _ _ _=>(v3 B8 hr (by decide) rfl (@x0 _ _ _ _ _ (pv 0) (@x0 _ _ _ _ _ (pv 1) (@x0 _ _ _ _ _ (pv 2) x9 (by rfl)) (by rfl)) (by rfl))))))))
  (@z9 _ _ _ (w9 (pv 1))))),
  inferInstance⟩
abbrev Vh:Stmt:=y7 46
abbrev US:MS:=(y9 (t6 [none] [0] (i7 (x6 0)) (v8 0) i4 (z6 p8 (z0 0) (dC (.int 0)))))
def ZS:List PV->Option PV:=zL 1 1 US
theorem Tj:v9 ["ways"] ["ways"] (j5 Vh):=⟨rfl,rfl,rfl,by decide +kernel,rfl,by decide +kernel,by decide +kernel⟩
theorem NV (F:Fun K "sums_of" "sums_of" Vh f fd) :FnOk P w K mg base v7 1 f fd ["ways"] (spO ZS) :=
 okO (k:=0) (b:=US) F Tj rfl fun cdv A outer s H E hr=>⟨_,(@z9 _ _ _ (w9 (qJ (N':=["way"]) (cap:=[none]) (qu rfl rfl rfl) rfl (@qK _ K _ _ _ rfl (pv 0)) (fun _ _ _ _ _ _=>(u9 (i:=0) (by show (["way"]:List Str).Nodup;decide +kernel) rfl (Or.inl rfl))) (fun _ _ _ _ _ _=>qR) (fun _ _ _ _ _ _=>(i5 (o9 (K:=K) rfl) (pv 0) z7 (fun _ _=>rfl)))))),
  inferInstance⟩
abbrev JS:Stmt:=y7 47
abbrev UH:MS:=(u3 (xZ (z5 ZL (q9 (x6 0) x8)))
  (y9 (t6 [none] [0] (i7 (z5 ZR (q9 (x6 0) x8))) (v8 0) i4 (z5 ZS (q9 (x6 0) x8)))))
def ZQ:List PV->Option PV:=zL 1 1 UH
theorem Tc:v9 ["rinses"] ["rinses"] (j5 JS):=⟨rfl,rfl,rfl,by decide +kernel,rfl,by decide +kernel,by decide +kernel⟩
theorem NE (F:Fun K "least_rinses" "least_rinses" JS f fd) (D1:Fn P w K mg base 3 "check_rinses" ["rinses"] (v4 ZL)) (Ef:Fn P w K mg base 3 "least_ways" ["rinses"] (v4 ZR)) (Ew:Fn P w K mg base 1 "sums_of" ["ways"] (spO ZS)):FnOk P w K mg base v7 4 f fd ["rinses"] (spO ZQ) :=
 okO (k:=3) (b:=UH) F Tc rfl fun cdv A outer s H E hr=>⟨_,(@j7 _ _ _ _ _ (zE (v3 D1 hr (by decide) rfl (@x0 _ _ _ _ _ (pv 0) x9 (by rfl))))
  (@z9 _ _ _ (w9 (qJ (N':=["ways"]) (cap:=[none]) (qu rfl rfl rfl) rfl (@qK _ K _ _ _ rfl (v3 Ef hr (by decide) rfl (@x0 _ _ _ _ _ (pv 0) x9 (by rfl)))) (fun _ _ _ _ _ _=>(u9 (i:=0) (by show (["ways"]:List Str).Nodup;decide +kernel) rfl (Or.inl rfl))) (fun _ _ _ _ _ _=>qR) (fun _ _ _ _ _ _=>(v3 Ew hr (by decide) rfl (@x0 _ _ _ _ _ (pv 0) x9 (by rfl)))))))),
  inferInstance⟩
abbrev Jx:Stmt:=y7 50
abbrev Uk:MS:=(u3 (i9 (vd (dT (z6 WH (z0 0) (dC .non))) (qk (vd (qv (z5 jo (q9 (x6 0) (q9 (dUn wg (dC (.int 1))) x8)))) (dT (z6 pLt (z0 0) (z0 2)))))) za qx)
  (i9 (qk (qv (z5 jo (q9 (x6 1) (q9 (dC (.int 0)) x8))))) za qx))
def ZM:List PV->Option PV:=i6 3 3 Uk
theorem RG:v9 ["last", "time", "hues"] ["last", "time", "hues"] (j5 Jx):=⟨rfl,rfl,rfl,by decide +kernel,rfl,by decide +kernel,by decide +kernel⟩
theorem Nh (F:Fun K "check_start" "check_start" Jx f fd) (Ax:Fn P w K mg base 2 "is_from" ["thing", "least"] (v4 jo)):FnOk P w K mg base v7 3 f fd ["last", "time", "hues"] (v4 ZM) :=
 qp (k:=2) (b:=Uk) F RG rfl fun cdv A outer s H E hr=>⟨_,(@j7 _ _ _ _ _ (n8 (PW.pt (Jg (t9 (Hj) (pv 0) Qi (m3 _)) (Jh (xm (PW.pt (Jg (qY (K:=K) rfl (v3 Ax hr (by decide) rfl (@x0 _ _ _ _ _ (pv 0) (@x0 _ _ _ _ _ (wm wz z7) x9 (by rfl)) (by rfl))) (fun _=>rfl)) (Jh (t9 (Xq) (pv 0) (pv 2) (m3 _))))))))) (@z9 _ _ _ jQ) o4)
  (@z9 _ _ _ (n8 (xm (qY (K:=K) rfl (v3 Ax hr (by decide) rfl (@x0 _ _ _ _ _ (pv 1) (@x0 _ _ _ _ _ z7 x9 (by rfl)) (by rfl))) (fun _=>rfl))) (@z9 _ _ _ jQ) o4))),
  inferInstance⟩
abbrev Ju:Stmt:=y7 51
abbrev Uh:MS:=(u3 (i9 (dT (z6 pGt (z5 qH (q9 (z0 0) x8)) (dC (.int 10)))) za qx)
  (u3 (QH 2 Gx)
  (vN (i7 (x6 0)) (v8 3) (u3 (i9 (qk (qv (z5 ZN (q9 (x6 3) (q9 (x6 1) x8))))) za qx)
  (u3 (i9 (dT (dDIn (z5 zR (q9 (x6 3) x8)) (z0 2))) za qx)
  (dPut 2 (z5 zR (q9 (x6 3) x8)) (dC (.bl true))))))))
def ZK:List PV->Option PV:=i6 4 2 Uh
theorem sc_check_cloths:v9 ["cloths", "hues", "seen", "cloth"] ["cloths", "hues"] (j5 Ju):=⟨rfl,rfl,rfl,by decide +kernel,rfl,by decide +kernel,by decide +kernel⟩
theorem Nd (F:Fun K "check_cloths" "check_cloths" Ju f fd) (Eo:Fn P w K mg base 3 "is_cloth" ["thing", "hues"] (v4 ZN)) (An:Fn P w K mg base 1 "name_of" ["cloth"] (v4 zR)) (Ad:mg "len"=none) {D5:Tok} (D9:mg "MOST_CLOTHS"=some (.int 10 D5)):FnOk P w K mg base v7 4 f fd ["cloths", "hues"] (v4 ZK) :=
 qp (k:=3) (b:=Uh) F sc_check_cloths rfl fun cdv A outer s H E hr=>⟨_,(@j7 _ _ _ _ _ (n8 (t9 (WF) (m8 (xL (K:=K) rfl) rfl Ad PySem.boot_len (@x0 _ _ _ _ _ (pv 0) x9 (by rfl))) (vp (v:= .int 10) rfl D9 ⟨_,rfl⟩) (m3 _)) (@z9 _ _ _ jQ) o4)
  (@j7 _ _ _ _ _ (@y6 _ _ 2 _ _ _ _ sc_check_cloths.nd rfl (Or.inl rfl) Hq (by rfl) (.inl rfl))
  (@z9 _ _ _ (zV PassesOwn.never rfl (@qK _ K _ _ _ rfl (pv 0)) (u9 (i:=3) sc_check_cloths.nd rfl (Or.inl rfl))
   (@j7 _ _ _ _ _ (n8 (xm (qY (K:=K) rfl (v3 Eo hr (by decide) rfl (@x0 _ _ _ _ _ (pv 3) (@x0 _ _ _ _ _ (pv 1) x9 (by rfl)) (by rfl))) (fun _=>rfl))) (@z9 _ _ _ jQ) o4)
  (@j7 _ _ _ _ _ (n8 (KH (Hm (wQ hr) (v3 An hr (by decide) rfl (@x0 _ _ _ _ _ (pv 3) x9 (by rfl))) (pv 2))) (@z9 _ _ _ jQ) o4)
  (@z9 _ _ _ (HN (wQ hr) (pv 2) (v3 An hr (by decide) rfl (@x0 _ _ _ _ _ (pv 3) x9 (by rfl))) qQ rfl)))))))),
  inferInstance⟩
abbrev Jm:Stmt:=jj (y7 52) 1
abbrev YZ (Aa:Addr):MS:=(y9 (z6 zC (z5 qH (q9 (qU Aa "least" (x6 0)) x8)) (dC (.int 1))))
def wY (Aa:Addr):List PV->Option PV:=i6 1 1 (YZ Aa)
theorem Rx:v9 ["self"] ["self"] (j5 Jm):=⟨rfl,rfl,rfl,by decide +kernel,rfl,by decide +kernel,by decide +kernel⟩
theorem LS {Aa:Addr}(F:Fun K "hues" "Works.hues" Jm f fd) (Ad:mg "len"=none) [zk K Aa] [ql K Aa "least"]:FnOk P w K mg base v7 1 f fd ["self"] (v4 (wY Aa)) :=
 qp (k:=0) (b:=(YZ Aa)) F Rx rfl fun cdv A outer s H E hr=>⟨_,(@z9 _ _ _ (w9 (w5 (jp) (m8 (xL (K:=K) rfl) rfl Ad PySem.boot_len (@x0 _ _ _ _ _ (xS (K:=K) rfl (pv 0) rfl) x9 (by rfl))) z7))),
  inferInstance⟩
abbrev Jr:Stmt:=jj (y7 52) 4
abbrev Ue (Aa:Addr):MS:=(y9 (z6 p8 (z6 p8 (qU Aa "least" (x6 0)) (z0 1)) (z0 2)))
def QY (Aa:Addr):List PV->Option PV:=i6 3 3 (Ue Aa)
theorem RE:v9 ["self", "first", "then"] ["self", "first", "then"] (j5 Jr):=⟨rfl,rfl,rfl,by decide +kernel,rfl,by decide +kernel,by decide +kernel⟩
theorem LZ {Aa:Addr}(F:Fun K "tray_rinse" "Works.tray_rinse" Jr f fd) [zk K Aa] [ql K Aa "least"]:FnOk P w K mg base v7 1 f fd ["self", "first", "then"] (v4 (QY Aa)) :=
 qp (k:=0) (b:=(Ue Aa)) F RE rfl fun cdv A outer s H E hr=>⟨_,(@z9 _ _ _ (w9 (i5 (o9 (K:=K) rfl) (i5 (o9 (K:=K) rfl) (xS (K:=K) rfl (pv 0) rfl) (pv 1) (fun _ _=>rfl)) (pv 2) (fun _ _=>rfl)))),
  inferInstance⟩
abbrev Jp:Stmt:=jj (y7 52) 3
abbrev Uc (Aa:Addr):MS:=(y9 (dIf (dT (z6 qd (z0 1) (z0 2))) (dC (.int 0)) (qE Aa "tray_rinse" (QY Aa) (x6 0) (q9 (x6 1) (q9 (x6 2) x8)))))
def wZ (Aa:Addr):List PV->Option PV:=i6 3 3 (Uc Aa)
theorem RB:v9 ["self", "first", "then"] ["self", "first", "then"] (j5 Jp):=⟨rfl,rfl,rfl,by decide +kernel,rfl,by decide +kernel,by decide +kernel⟩
theorem LX {Aa:Addr}(F:Fun K "rinse" "Works.rinse" Jp f fd) (A0:Mt P w K mg base 1 Aa "tray_rinse" ["self", "first", "then"] (v4 (QY Aa))):FnOk P w K mg base v7 2 f fd ["self", "first", "then"] (v4 (wZ Aa)) :=
 qp (k:=1) (b:=(Uc Aa)) F RB rfl fun cdv A outer s H E hr=>⟨_,(@z9 _ _ _ (w9 (Xx (t9 (zf (K:=K) (qF hr) rfl) (pv 1) (pv 2) (m3 _)) z7 (wj A0 hr (by decide) (pv 0) (@x0 _ _ _ _ _ (pv 1) (@x0 _ _ _ _ _ (pv 2) x9 (by rfl)) (by rfl)))))),
  inferInstance⟩
abbrev Jq:Stmt:=jj (y7 52) 5
abbrev Ud (Aa:Addr):MS:=(y9 (xD (q9 (qU Aa "last" (x6 0)) (q9 (qU Aa "time" (x6 0)) x8))))
def vZ (Aa:Addr):List PV->Option PV:=i6 1 1 (Ud Aa)
theorem RC:v9 ["self"] ["self"] (j5 Jq):=⟨rfl,rfl,rfl,by decide +kernel,rfl,by decide +kernel,by decide +kernel⟩
theorem LY {Aa:Addr}(F:Fun K "start" "Works.start" Jq f fd) [zk K Aa] [ql K Aa "last"] [ql K Aa "time"]:FnOk P w K mg base v7 1 f fd ["self"] (v4 (vZ Aa)) :=
 qp (k:=0) (b:=(Ud Aa)) F RC rfl fun cdv A outer s H E hr=>⟨_,(@z9 _ _ _ (w9 (@zT _ _ _ _ _ (@x0 _ _ _ _ _ (xS (K:=K) rfl (pv 0) rfl) (@x0 _ _ _ _ _ (xS (K:=K) rfl (pv 0) rfl) x9 (by rfl)) (by rfl))))),
  inferInstance⟩
abbrev Jn:Stmt:=jj (y7 52) 6
abbrev Ua (Aa:Addr):MS:=(y9 (z5 WI (q9 (qU Aa "held" (x6 0)) x8)))
def vX (Aa:Addr):List PV->Option PV:=zL 1 1 (Ua Aa)
theorem Rz:v9 ["self"] ["self"] (j5 Jn):=⟨rfl,rfl,rfl,by decide +kernel,rfl,by decide +kernel,by decide +kernel⟩
theorem LV {Aa:Addr}(F:Fun K "names" "Works.names" Jn f fd) (E4:mg "sorted"=none) [zk K Aa] [ql K Aa "held"]:FnOk P w K mg base v7 1 f fd ["self"] (spO (vX Aa)) :=
 okO (k:=0) (b:=(Ua Aa)) F Rz rfl fun cdv A outer s H E hr=>⟨_,(@z9 _ _ _ (w9 (m8 (CM (K:=K) rfl rfl) rfl E4 Cq (@x0 _ _ _ _ _ (xS (K:=K) rfl (pv 0) rfl) x9 (by rfl))))),
  inferInstance⟩
abbrev Jk:Stmt:=jj (y7 52) 7
abbrev YX (Aa:Addr):MS:=(u3 (i9 (dOr (qk (qv (z5 xj (q9 (z0 1) (q9 (dC (.ty "str")) x8))))) (dT (Zp (z0 1) (qU Aa "held" (x6 0))))) za qx)
  (y9 (vL (qU Aa "held" (x6 0)) (z0 1))))
def zo (Aa:Addr):List PV->Option PV:=i6 2 2 (YX Aa)
theorem Rv:v9 ["self", "name"] ["self", "name"] (j5 Jk):=⟨rfl,rfl,rfl,by decide +kernel,rfl,by decide +kernel,by decide +kernel⟩
theorem LO {Aa:Addr}(F:Fun K "cloth" "Works.cloth" Jk f fd) (Ac:mg "isinstance"=none) (Ib:mg "str"=none) [zk K Aa] [ql K Aa "held"]:FnOk P w K mg base v7 1 f fd ["self", "name"] (v4 (zo Aa)) :=
 qp (k:=0) (b:=(YX Aa)) F Rv rfl fun cdv A outer s H E hr=>⟨_,(@j7 _ _ _ _ _ (n8 (PW.pt (jr (xm (qY (K:=K) rfl (m8 (jY (K:=K) rfl) rfl Ac zK (@x0 _ _ _ _ _ (pv 1) (@x0 _ _ _ _ _ (jO (v:= .ty "str") rfl Ib Gf rfl) x9 (by rfl)) (by rfl))) (fun _=>rfl))) (vy (KH (Hn (wQ hr) (pv 1) (xS (K:=K) rfl (pv 0) rfl)))))) (@z9 _ _ _ jQ) o4)
  (@z9 _ _ _ (w9 (WJ (wQ hr) (xS (K:=K) rfl (pv 0) rfl) (pv 1) (fun _ _=>rfl))))),
  inferInstance⟩
abbrev JP:Stmt:=y7 14
abbrev UD:MS:=(y9 (z6 zC (z0 1) (z5 Xa (q9 (x6 0) x8))))
def vk:List PV->Option PV:=i6 2 2 UD
theorem RZ:v9 ["cloth", "end"] ["cloth", "end"] (j5 JP):=⟨rfl,rfl,rfl,by decide +kernel,rfl,by decide +kernel,by decide +kernel⟩
theorem NA (F:Fun K "late_by" "late_by" JP f fd) (Eb:Fn P w K mg base 1 "due_of" ["cloth"] (v4 Xa)):FnOk P w K mg base v7 2 f fd ["cloth", "end"] (v4 vk) :=
 qp (k:=1) (b:=UD) F RZ rfl fun cdv A outer s H E hr=>⟨_,(@z9 _ _ _ (w9 (w5 (jp) (pv 1) (v3 Eb hr (by decide) rfl (@x0 _ _ _ _ _ (pv 0) x9 (by rfl)))))),
  inferInstance⟩
abbrev JI:Stmt:=y7 15
abbrev Uw:MS:=(y9 (dOrV (z6 pIsN (z0 2) (dC .non)) (z6 pLe (z5 vk (q9 (x6 0) (q9 (x6 1) x8))) (z0 2))))
def ZO:List PV->Option PV:=i6 3 3 Uw
theorem RP:v9 ["cloth", "end", "bound"] ["cloth", "end", "bound"] (j5 JI):=⟨rfl,rfl,rfl,by decide +kernel,rfl,by decide +kernel,by decide +kernel⟩
theorem Nt (F:Fun K "is_kept" "is_kept" JI f fd) (Aw:Fn P w K mg base 2 "late_by" ["cloth", "end"] (v4 vk)):FnOk P w K mg base v7 3 f fd ["cloth", "end", "bound"] (v4 ZO) :=
 qp (k:=2) (b:=Uw) F RP rfl fun cdv A outer s H E hr=>⟨_,(@z9 _ _ _ (w9 (pe_or (zg (Kr) (pv 2) Qi (m3 _)) (vq (zg (Xp) (v3 Aw hr (by decide) rfl (@x0 _ _ _ _ _ (pv 0) (@x0 _ _ _ _ _ (pv 1) x9 (by rfl)) (by rfl))) (pv 2) (m3 _)))))),
  inferInstance⟩
abbrev Js:Stmt:=y7 26
abbrev Uf (Aa:Addr):MS:=(u3 (i9 (qk (qv (z5 xj (q9 (z0 1) (q9 (dC (.ty "list")) x8))))) (y9 (dC (.bl false))) qx)
  (u3 (m6 2 (qE Aa "names" (vX Aa) (x6 0) x8))
  (y9 (zm (z5 zS (q9 (t6 [none,some 2] [0] (i7 (x6 1)) (v8 0) i4 (z6 Xt (z0 0) (z0 1))) x8)) (z6 qd (VY (z0 1)) (z5 qH (q9 (z0 1) x8)))))))
def zQ (Aa:Addr):List PV->Option PV:=i6 3 2 (Uf Aa)
theorem sc_are_names:v9 ["works", "names", "known"] ["works", "names"] (j5 Js):=⟨rfl,rfl,rfl,by decide +kernel,rfl,by decide +kernel,by decide +kernel⟩
theorem Na {Aa:Addr}(F:Fun K "are_names" "are_names" Js f fd) (D2:mg "all"=none) (Ac:mg "isinstance"=none) (Ad:mg "len"=none) (Au:mg "list"=none) (N9:mg "set"=none) (As:Mt P w K mg base 1 Aa "names" ["self"] (spO (vX Aa))):FnOk P w K mg base v7 2 f fd ["works", "names"] (v4 (zQ Aa)) :=
 qp (k:=1) (b:=(Uf Aa)) F sc_are_names rfl fun cdv A outer s H E hr=>⟨_,(@j7 _ _ _ _ _ (n8 (xm (qY (K:=K) rfl (m8 (jY (K:=K) rfl) rfl Ac zK (@x0 _ _ _ _ _ (pv 1) (@x0 _ _ _ _ _ (jO (v:= .ty "list") rfl Au wK rfl) x9 (by rfl)) (by rfl))) (fun _=>rfl))) (@z9 _ _ _ (w9 qQ)) o4)
  (@j7 _ _ _ _ _ (@y6 _ _ 2 _ _ _ _ sc_are_names.nd rfl (Or.inr rfl) (Qh As hr (by decide) (pv 0)) (by rfl) (.inl rfl))
  (@z9 _ _ _ (w9 (vo (m8 (QD (K:=K) rfl rfl) rfl D2 QC (@x0 _ _ _ _ _ (qJ (N':=["thing", "known"]) (cap:=[none,some 2]) (qu rfl rfl rfl) rfl (@qK _ K _ _ _ rfl (pv 1)) (fun _ _ _ _ _ _=>(u9 (i:=0) (by show (["thing", "known"]:List Str).Nodup;decide +kernel) rfl (Or.inl rfl))) (fun _ _ _ _ _ _=>qR) (fun _ _ _ _ _ _=>(zg (Hd (K:=K) (qF hr) rfl) (pv 0) (pv 1) (by with_unfolding_all rfl)))) x9 (by rfl))) (vq (zg (zf (K:=K) (qF hr) rfl) (m8 CD rfl Ad PySem.boot_len (@x0 _ _ _ _ _ (Xw (CJ (K:=K) rfl rfl) rfl N9 Cp (@x0 _ _ _ _ _ (pv 1) x9 (by rfl))) x9 (by rfl))) (m8 (xL (K:=K) rfl) rfl Ad PySem.boot_len (@x0 _ _ _ _ _ (pv 1) x9 (by rfl))) (m3 _)))))))),
  inferInstance⟩
abbrev Jv:Stmt:=y7 27
abbrev Ui (Aa:Addr):MS:=(i9 (qk (qv (z5 (zQ Aa) (q9 (x6 0) (q9 (x6 1) x8))))) za qx)
abbrev Pr (Ab:Addr)(Aa:Addr):XM:=(xIf (qk (qv (z5 (zQ Aa) (q9 (x6 0) (q9 (x6 1) x8))))) (Pm Ab) xNo)
def jK (Aa:Addr):List PV->Option PV:=xQ 2 [false,false] (Ui Aa)
def ju (Ab:Addr)(Aa:Addr):List PV->Addr->Prop:=xV 2 [false,false] (Pr Ab Aa)
theorem RF:v9 ["works", "names"] ["works", "names"] (j5 Jv):=⟨rfl,rfl,rfl,by decide +kernel,rfl,by decide +kernel,by decide +kernel⟩
theorem Nf {Ab:Addr}{Aa:Addr}(F:Fun K "check_names" "check_names" Jv f fd) (A4:Fn P w K mg base 2 "are_names" ["works", "names"] (v4 (zQ Aa))) (Ec:mg "NoPlan"=some (.ref Ab)) (E6:PySem.W.excIn K Ab Pg "ValueError.__new__"=true):FnOk P w K mg base (o6 P w) 3 f fd ["works", "names"] (n9 [false,false] (jK Aa) (ju Ab Aa)) :=
 jM (k:=2) (b:=(Ui Aa)) (xb:=(Pr Ab Aa)) F RF rfl rfl rfl fun cdv A outer s H E hr=>⟨_,(@z9 _ _ _ (n8 (xm (qY (K:=K) rfl (v3 A4 hr (by decide) rfl (@x0 _ _ _ _ _ (pv 0) (@x0 _ _ _ _ _ (pv 1) x9 (by rfl)) (by rfl))) (fun _=>rfl))) (@z9 _ _ _ (HQ rfl rfl Ec E6 TR)) o4)),
  inferInstance,inferInstance⟩
abbrev JA:Stmt:=y7 29
abbrev YR (Aa:Addr):MS:=(xZ (z5 (jK Aa) (q9 (x6 0) (q9 (x6 1) x8))))
abbrev Uo (Aa:Addr):MS:=(u3 (YR Aa)
  (u3 (m6 2 (qE Aa "start" (vZ Aa) (x6 0) x8))
  (u3 (m6 3 (z6 p8 (z0 2) (dC (.int 0))))
  (u3 (m6 4 (z6 p8 (z0 2) (dC (.int 1))))
  (u3 (QH 5 (i8 x8))
  (u3 (vN (i7 (x6 1)) (v8 6) (u3 (m6 7 (qE Aa "cloth" (zo Aa) (x6 0) (q9 (x6 6) x8)))
  (u3 (m6 8 (z6 qa (z0 4) (qE Aa "rinse" (wZ Aa) (x6 0) (q9 (x6 3) (q9 (z5 ze (q9 (x6 7) x8)) x8)))))
  (u3 (m6 4 (z6 qa (z0 8) (z5 Qa (q9 (x6 7) x8))))
  (u3 (m6 3 (z5 ze (q9 (x6 7) x8)))
  (QE 5 (xD (q9 (x6 6) (q9 (x6 8) (q9 (x6 4) x8))))))))))
  (y9 (oVar 5))))))))
abbrev Pt (Ab:Addr)(Aa:Addr):XM:=(jU true (YR Aa) (xX (qI (ju Ab Aa) (q9 (x6 0) (q9 (x6 1) x8))))
  xNo)
def zA (Aa:Addr):List PV->Option PV:=vM 9 [false,false] (Uo Aa)
def jb (Ab:Addr)(Aa:Addr):List PV->Addr->Prop:=xV 9 [false,false] (Pt Ab Aa)
theorem sc_done_rows:v9 ["works", "names", "start", "last", "time", "rows", "name", "cloth", "begin"] ["works", "names"] (j5 JA):=⟨rfl,rfl,rfl,by decide +kernel,rfl,by decide +kernel,by decide +kernel⟩
theorem Nk {Ab:Addr}{Aa:Addr}(F:Fun K "done_rows" "done_rows" JA f fd) (Al:Fx P w K mg base 3 "check_names" ["works", "names"] (n9 [false,false] (jK Aa) (ju Ab Aa))) (Ao:Fn P w K mg base 1 "hue_of" ["cloth"] (v4 ze)) (A5:Fn P w K mg base 1 "length_of" ["cloth"] (v4 Qa)) (Af:Mt P w K mg base 1 Aa "cloth" ["self", "name"] (v4 (zo Aa))) (D8:Mt P w K mg base 2 Aa "rinse" ["self", "first", "then"] (v4 (wZ Aa))) (At:Mt P w K mg base 1 Aa "start" ["self"] (v4 (vZ Aa))):FnOk P w K mg base (o6 P w) 4 f fd ["works", "names"] (xH [false,false] (zA Aa) (jb Ab Aa)) :=
 okOX (k:=3) (b:=(Uo Aa)) (xb:=(Pt Ab Aa)) F sc_done_rows rfl rfl rfl fun cdv A outer s H E hr=>⟨_,(@j7 _ _ _ _ _ (zE (xq Al hr (by decide) xk rfl (@x0 _ _ _ _ _ (pv 0) (@x0 _ _ _ _ _ (pv 1) x9 (by rfl)) (by rfl))))
  (@j7 _ _ _ _ _ (@y6 _ _ 2 _ _ _ _ sc_done_rows.nd rfl (Or.inl rfl) (Qh At hr (by decide) (pv 0)) (by rfl) (.inl rfl))
  (@j7 _ _ _ _ _ (@y6 _ _ 3 _ _ _ _ sc_done_rows.nd rfl (Or.inl rfl) (i5 (o9 (K:=K) rfl) (pv 2) z7 (fun _ _=>rfl)) (by rfl) (.inl rfl))
  (@j7 _ _ _ _ _ (@y6 _ _ 4 _ _ _ _ sc_done_rows.nd rfl (Or.inl rfl) (i5 (o9 (K:=K) rfl) (pv 2) z7 (fun _ _=>rfl)) (by rfl) (.inl rfl))
  (@j7 _ _ _ _ _ (@y6 _ _ 5 _ _ _ _ sc_done_rows.nd rfl (Or.inl rfl) (@qA _ _ _ _ x9) (by rfl) (.inl rfl))
  (@j7 _ _ _ _ _ (PS.nox (zV PassesOwn.never rfl (@qK _ K _ _ _ rfl (pv 1)) (u9 (i:=6) sc_done_rows.nd rfl (Or.inl rfl))
   (@j7 _ _ _ _ _ (@y6 _ _ 7 _ _ _ _ sc_done_rows.nd rfl (Or.inl rfl) (wj Af hr (by decide) (pv 0) (@x0 _ _ _ _ _ (pv 6) x9 (by rfl))) (by rfl) (.inl rfl))
  (@j7 _ _ _ _ _ (@y6 _ _ 8 _ _ _ _ sc_done_rows.nd rfl (Or.inl rfl) (w5 (qP (K:=K) rfl) (pv 4) (wj D8 hr (by decide) (pv 0) (@x0 _ _ _ _ _ (pv 3) (@x0 _ _ _ _ _ (v3 Ao hr (by decide) rfl (@x0 _ _ _ _ _ (pv 7) x9 (by rfl))) x9 (by rfl)) (by rfl)))) (by rfl) (.inl rfl))
  (@j7 _ _ _ _ _ (@y6 _ _ 4 _ _ _ _ sc_done_rows.nd rfl (Or.inl rfl) (w5 (qP (K:=K) rfl) (pv 8) (v3 A5 hr (by decide) rfl (@x0 _ _ _ _ _ (pv 7) x9 (by rfl)))) (by rfl) (.inl rfl))
  (@j7 _ _ _ _ _ (@y6 _ _ 3 _ _ _ _ sc_done_rows.nd rfl (Or.inl rfl) (v3 Ao hr (by decide) rfl (@x0 _ _ _ _ _ (pv 7) x9 (by rfl))) (by rfl) (.inl rfl))
  (@z9 _ _ _ (zE (Qg (K:=K) rfl PySem.F.plainAttrs_list PySem.F.slot_list_append PySem.F.type_list_append Xn (pv 5) (x0 (@zT _ _ _ _ _ (@x0 _ _ _ _ _ (pv 6) (@x0 _ _ _ _ _ (pv 8) (@x0 _ _ _ _ _ (pv 4) x9 (by rfl)) (by rfl)) (by rfl))) x9))))))))))
  (@z9 _ _ _ (w9 (pv 5))))))))),
  inferInstance,inferInstance⟩
abbrev JE:Stmt:=y7 30
abbrev Us (Aa:Addr):MS:=(y9 (t6 [none,none,none,some 0] [0,1,2] (i7 (z5 (zA Aa) (q9 (x6 0) (q9 (x6 1) x8)))) (zd 3 (qi (v8 0) (qi (v8 1) (qi (v8 2) zc)))) i4 (xD (q9 (qE Aa "cloth" (zo Aa) (x6 3) (q9 (x6 0) x8)) (q9 (x6 2) x8)))))
abbrev Px (Ab:Addr)(Aa:Addr):XM:=(xX (qI (jb Ab Aa) (q9 (x6 0) (q9 (x6 1) x8))))
def jL (Aa:Addr):List PV->Option PV:=vM 2 [false,false] (Us Aa)
def jV (Ab:Addr)(Aa:Addr):List PV->Addr->Prop:=xV 2 [false,false] (Px Ab Aa)
theorem RK:v9 ["works", "names"] ["works", "names"] (j5 JE):=⟨rfl,rfl,rfl,by decide +kernel,rfl,by decide +kernel,by decide +kernel⟩
theorem No {Ab:Addr}{Aa:Addr}(F:Fun K "ended_cloths" "ended_cloths" JE f fd) (Ak:Fx P w K mg base 4 "done_rows" ["works", "names"] (xH [false,false] (zA Aa) (jb Ab Aa))) (Af:Mt P w K mg base 1 Aa "cloth" ["self", "name"] (v4 (zo Aa))):FnOk P w K mg base (o6 P w) 5 f fd ["works", "names"] (xH [false,false] (jL Aa) (jV Ab Aa)) :=
 okOX (k:=4) (b:=(Us Aa)) (xb:=(Px Ab Aa)) F RK rfl rfl rfl fun cdv A outer s H E hr=>⟨_,(@z9 _ _ _ (w9 (qJ (N':=["name", "begin", "end", "works"]) (cap:=[none,none,none,some 0]) (qu rfl rfl rfl) rfl (@qK _ K _ _ _ rfl (xq Ak hr (by decide) xk rfl (@x0 _ _ _ _ _ (pv 0) (@x0 _ _ _ _ _ (pv 1) x9 (by rfl)) (by rfl)))) (fun _ _ _ _ _ _=>(vt (K:=K) (n:=3) rfl rfl (xl (u9 (i:=0) (by show (["name", "begin", "end", "works"]:List Str).Nodup;decide +kernel) rfl (Or.inl rfl)) (xl (u9 (i:=1) (by show (["name", "begin", "end", "works"]:List Str).Nodup;decide +kernel) rfl (Or.inl rfl)) (xl (u9 (i:=2) (by show (["name", "begin", "end", "works"]:List Str).Nodup;decide +kernel) rfl (Or.inl rfl)) vw))))) (fun _ _ _ _ _ _=>qR) (fun _ _ _ _ _ _=>(@zT _ _ _ _ _ (@x0 _ _ _ _ _ (wj Af hr (by decide) (pv 3) (@x0 _ _ _ _ _ (pv 0) x9 (by rfl))) (@x0 _ _ _ _ _ (pv 2) x9 (by rfl)) (by rfl))))))),
  inferInstance,inferInstance⟩
abbrev Jz:Stmt:=y7 32
abbrev Um (Aa:Addr):MS:=(y9 (z5 pSum (q9 (t6 [none,none] [0,1] (i7 (z5 (jL Aa) (q9 (x6 0) (q9 (x6 1) x8)))) (zd 2 (qi (v8 0) (qi (v8 1) zc))) i4 (z6 pMul (z5 Xj (q9 (x6 0) x8)) (z0 1))) x8)))
abbrev Ps (Ab:Addr)(Aa:Addr):XM:=(xX (qI (jV Ab Aa) (q9 (x6 0) (q9 (x6 1) x8))))
def QZ (Aa:Addr):List PV->Option PV:=xQ 2 [false,false] (Um Aa)
def VD (Ab:Addr)(Aa:Addr):List PV->Addr->Prop:=xV 2 [false,false] (Ps Ab Aa)
theorem RH:v9 ["works", "names"] ["works", "names"] (j5 Jz):=⟨rfl,rfl,rfl,by decide +kernel,rfl,by decide +kernel,by decide +kernel⟩
theorem Nj {Ab:Addr}{Aa:Addr}(F:Fun K "cost_of" "cost_of" Jz f fd) (Aj:Fx P w K mg base 5 "ended_cloths" ["works", "names"] (xH [false,false] (jL Aa) (jV Ab Aa))) (A6:Fn P w K mg base 1 "weight_of" ["cloth"] (v4 Xj)) (Ey:mg "sum"=none):FnOk P w K mg base (o6 P w) 6 f fd ["works", "names"] (n9 [false,false] (QZ Aa) (VD Ab Aa)) :=
 jM (k:=5) (b:=(Um Aa)) (xb:=(Ps Ab Aa)) F RH rfl rfl rfl fun cdv A outer s H E hr=>⟨_,(@z9 _ _ _ (w9 (m8 (CO (K:=K) rfl rfl) rfl Ey Gg (@x0 _ _ _ _ _ (qJ (N':=["cloth", "end"]) (cap:=[none,none]) (qu rfl rfl rfl) rfl (@qK _ K _ _ _ rfl (xq Aj hr (by decide) xk rfl (@x0 _ _ _ _ _ (pv 0) (@x0 _ _ _ _ _ (pv 1) x9 (by rfl)) (by rfl)))) (fun _ _ _ _ _ _=>(vt (K:=K) (n:=2) rfl rfl (xl (u9 (i:=0) (by show (["cloth", "end"]:List Str).Nodup;decide +kernel) rfl (Or.inl rfl)) (xl (u9 (i:=1) (by show (["cloth", "end"]:List Str).Nodup;decide +kernel) rfl (Or.inl rfl)) vw)))) (fun _ _ _ _ _ _=>qR) (fun _ _ _ _ _ _=>(w5 (Xr) (v3 A6 hr (by decide) rfl (@x0 _ _ _ _ _ (pv 0) x9 (by rfl))) (pv 1)))) x9 (by rfl))))),
  inferInstance,inferInstance⟩
abbrev JR:Stmt:=y7 33
abbrev UF (Aa:Addr):MS:=(y9 (Zq (t6 [none,none] [0,1] (i7 (z5 (jL Aa) (q9 (x6 0) (q9 (x6 1) x8)))) (zd 2 (qi (v8 0) (qi (v8 1) zc))) i4 (z5 vk (q9 (x6 0) (q9 (x6 1) x8))))))
abbrev PB (Ab:Addr)(Aa:Addr):XM:=(xX (qI (jV Ab Aa) (q9 (x6 0) (q9 (x6 1) x8))))
def Xg (Aa:Addr):List PV->Option PV:=xQ 2 [false,false] (UF Aa)
def VG (Ab:Addr)(Aa:Addr):List PV->Addr->Prop:=xV 2 [false,false] (PB Ab Aa)
theorem Tb:v9 ["works", "names"] ["works", "names"] (j5 JR):=⟨rfl,rfl,rfl,by decide +kernel,rfl,by decide +kernel,by decide +kernel⟩
theorem NC {Ab:Addr}{Aa:Addr}(F:Fun K "lateness" "lateness" JR f fd) (Aj:Fx P w K mg base 5 "ended_cloths" ["works", "names"] (xH [false,false] (jL Aa) (jV Ab Aa))) (Aw:Fn P w K mg base 2 "late_by" ["cloth", "end"] (v4 vk)) (Q8:mg "max"=none):FnOk P w K mg base (o6 P w) 6 f fd ["works", "names"] (n9 [false,false] (Xg Aa) (VG Ab Aa)) :=
 jM (k:=5) (b:=(UF Aa)) (xb:=(PB Ab Aa)) F Tb rfl rfl rfl fun cdv A outer s H E hr=>⟨_,(@z9 _ _ _ (w9 (Hu (K:=K) rfl rfl rfl Q8 (@x0 _ _ _ _ _ (qJ (N':=["cloth", "end"]) (cap:=[none,none]) (qu rfl rfl rfl) rfl (@qK _ K _ _ _ rfl (xq Aj hr (by decide) xk rfl (@x0 _ _ _ _ _ (pv 0) (@x0 _ _ _ _ _ (pv 1) x9 (by rfl)) (by rfl)))) (fun _ _ _ _ _ _=>(vt (K:=K) (n:=2) rfl rfl (xl (u9 (i:=0) (by show (["cloth", "end"]:List Str).Nodup;decide +kernel) rfl (Or.inl rfl)) (xl (u9 (i:=1) (by show (["cloth", "end"]:List Str).Nodup;decide +kernel) rfl (Or.inl rfl)) vw)))) (fun _ _ _ _ _ _=>qR) (fun _ _ _ _ _ _=>(v3 Aw hr (by decide) rfl (@x0 _ _ _ _ _ (pv 0) (@x0 _ _ _ _ _ (pv 1) x9 (by rfl)) (by rfl))))) x9 (by rfl))))),
  inferInstance,inferInstance⟩

abbrev JO:Stmt:=y7 34
abbrev UC (Aa:Addr):MS:=(y9 (z5 zS (q9 (t6 [none,none,some 2] [0,1] (i7 (z5 (jL Aa) (q9 (x6 0) (q9 (x6 1) x8)))) (zd 2 (qi (v8 0) (qi (v8 1) zc))) i4 (z5 ZO (q9 (x6 0) (q9 (x6 1) (q9 (x6 2) x8))))) x8)))
abbrev Py (Ab:Addr)(Aa:Addr):XM:=(xX (qI (jV Ab Aa) (q9 (x6 0) (q9 (x6 1) x8))))
def Xe (Aa:Addr):List PV->Option PV:=xQ 3 [false,false,false] (UC Aa)
def VE (Ab:Addr)(Aa:Addr):List PV->Addr->Prop:=xV 3 [false,false,false] (Py Ab Aa)
theorem RY:v9 ["works", "names", "bound"] ["works", "names", "bound"] (j5 JO):=⟨rfl,rfl,rfl,by decide +kernel,rfl,by decide +kernel,by decide +kernel⟩
theorem Nz {Ab:Addr}{Aa:Addr}(F:Fun K "keeps" "keeps" JO f fd) (Aj:Fx P w K mg base 5 "ended_cloths" ["works", "names"] (xH [false,false] (jL Aa) (jV Ab Aa))) (Ev:Fn P w K mg base 3 "is_kept" ["cloth", "end", "bound"] (v4 ZO)) (D2:mg "all"=none):FnOk P w K mg base (o6 P w) 6 f fd ["works", "names", "bound"] (n9 [false,false,false] (Xe Aa) (VE Ab Aa)) :=
 jM (k:=5) (b:=(UC Aa)) (xb:=(Py Ab Aa)) F RY rfl rfl rfl fun cdv A outer s H E hr=>⟨_,(@z9 _ _ _ (w9 (m8 (QD (K:=K) rfl rfl) rfl D2 QC (@x0 _ _ _ _ _ (qJ (N':=["cloth", "end", "bound"]) (cap:=[none,none,some 2]) (qu rfl rfl rfl) rfl (@qK _ K _ _ _ rfl (xq Aj hr (by decide) xk rfl (@x0 _ _ _ _ _ (pv 0) (@x0 _ _ _ _ _ (pv 1) x9 (by rfl)) (by rfl)))) (fun _ _ _ _ _ _=>(vt (K:=K) (n:=2) rfl rfl (xl (u9 (i:=0) (by show (["cloth", "end", "bound"]:List Str).Nodup;decide +kernel) rfl (Or.inl rfl)) (xl (u9 (i:=1) (by show (["cloth", "end", "bound"]:List Str).Nodup;decide +kernel) rfl (Or.inl rfl)) vw)))) (fun _ _ _ _ _ _=>qR) (fun _ _ _ _ _ _=>(v3 Ev hr (by decide) rfl (@x0 _ _ _ _ _ (pv 0) (@x0 _ _ _ _ _ (pv 1) (@x0 _ _ _ _ _ (pv 2) x9 (by rfl)) (by rfl)) (by rfl))))) x9 (by rfl))))),
  inferInstance,inferInstance⟩
abbrev JQ:Stmt:=y7 35
abbrev UE (Aa:Addr):MS:=(y9 (t6 [none,none,none,some 0] [0,1,2] (i7 (z5 (zA Aa) (q9 (x6 0) (q9 (x6 1) x8)))) (zd 3 (qi (v8 0) (qi (v8 1) (qi (v8 2) zc)))) (dT (z6 pGt (z5 vk (q9 (qE Aa "cloth" (zo Aa) (x6 3) (q9 (x6 0) x8)) (q9 (x6 2) x8))) (dC (.int 0)))) (x6 0)))
abbrev Pz (Ab:Addr)(Aa:Addr):XM:=(xX (qI (jb Ab Aa) (q9 (x6 0) (q9 (x6 1) x8))))
def Xf (Aa:Addr):List PV->Option PV:=vM 2 [false,false] (UE Aa)
def VF (Ab:Addr)(Aa:Addr):List PV->Addr->Prop:=xV 2 [false,false] (Pz Ab Aa)
theorem Ta:v9 ["works", "names"] ["works", "names"] (j5 JQ):=⟨rfl,rfl,rfl,by decide +kernel,rfl,by decide +kernel,by decide +kernel⟩
theorem NB {Ab:Addr}{Aa:Addr}(F:Fun K "late_ones" "late_ones" JQ f fd) (Ak:Fx P w K mg base 4 "done_rows" ["works", "names"] (xH [false,false] (zA Aa) (jb Ab Aa))) (Aw:Fn P w K mg base 2 "late_by" ["cloth", "end"] (v4 vk)) (Af:Mt P w K mg base 1 Aa "cloth" ["self", "name"] (v4 (zo Aa))):FnOk P w K mg base (o6 P w) 5 f fd ["works", "names"] (xH [false,false] (Xf Aa) (VF Ab Aa)) :=
 okOX (k:=4) (b:=(UE Aa)) (xb:=(Pz Ab Aa)) F Ta rfl rfl rfl fun cdv A outer s H E hr=>⟨_,(@z9 _ _ _ (w9 (qJ (N':=["name", "begin", "end", "works"]) (cap:=[none,none,none,some 0]) (qu rfl rfl rfl) rfl (@qK _ K _ _ _ rfl (xq Ak hr (by decide) xk rfl (@x0 _ _ _ _ _ (pv 0) (@x0 _ _ _ _ _ (pv 1) x9 (by rfl)) (by rfl)))) (fun _ _ _ _ _ _=>(vt (K:=K) (n:=3) rfl rfl (xl (u9 (i:=0) (by show (["name", "begin", "end", "works"]:List Str).Nodup;decide +kernel) rfl (Or.inl rfl)) (xl (u9 (i:=1) (by show (["name", "begin", "end", "works"]:List Str).Nodup;decide +kernel) rfl (Or.inl rfl)) (xl (u9 (i:=2) (by show (["name", "begin", "end", "works"]:List Str).Nodup;decide +kernel) rfl (Or.inl rfl)) vw))))) (fun _ _ _ _ _ _=>(Je (t9 (WF) (v3 Aw hr (by decide) rfl (@x0 _ _ _ _ _ (wj Af hr (by decide) (pv 3) (@x0 _ _ _ _ _ (pv 0) x9 (by rfl))) (@x0 _ _ _ _ _ (pv 2) x9 (by rfl)) (by rfl))) z7 (m3 _)))) (fun _ _ _ _ _ _=>(pv 0))))),
  inferInstance,inferInstance⟩
abbrev JD:Stmt:=y7 31
abbrev YT (Aa:Addr):MS:=(m6 2 (z5 (zA Aa) (q9 (x6 0) (q9 (x6 1) x8))))
abbrev Ur (Aa:Addr):MS:=(u3 (YT Aa)
  (y9 (dIf (qv (z0 2)) (z6 p8 (z6 p8 (z0 2) (dUn wg (dC (.int 1)))) (dC (.int 2))) (z6 p8 (qE Aa "start" (vZ Aa) (x6 0) x8) (dC (.int 1))))))
abbrev Pw (Ab:Addr)(Aa:Addr):XM:=(jU false (YT Aa) (xX (qI (jb Ab Aa) (q9 (x6 0) (q9 (x6 1) x8))))
  xNo)
def wa (Aa:Addr):List PV->Option PV:=xQ 3 [false,false] (Ur Aa)
def wB (Ab:Addr)(Aa:Addr):List PV->Addr->Prop:=xV 3 [false,false] (Pw Ab Aa)
theorem sc_end_of:v9 ["works", "names", "rows"] ["works", "names"] (j5 JD):=⟨rfl,rfl,rfl,by decide +kernel,rfl,by decide +kernel,by decide +kernel⟩
theorem Nn {Ab:Addr}{Aa:Addr}(F:Fun K "end_of" "end_of" JD f fd) (Ak:Fx P w K mg base 4 "done_rows" ["works", "names"] (xH [false,false] (zA Aa) (jb Ab Aa))) (At:Mt P w K mg base 1 Aa "start" ["self"] (v4 (vZ Aa))):FnOk P w K mg base (o6 P w) 5 f fd ["works", "names"] (n9 [false,false] (wa Aa) (wB Ab Aa)) :=
 jM (k:=4) (b:=(Ur Aa)) (xb:=(Pw Ab Aa)) F sc_end_of rfl rfl rfl fun cdv A outer s H E hr=>⟨_,(@j7 _ _ _ _ _ (@y6 _ _ 2 _ _ _ _ sc_end_of.nd rfl (Or.inl rfl) (xq Ak hr (by decide) xk rfl (@x0 _ _ _ _ _ (pv 0) (@x0 _ _ _ _ _ (pv 1) x9 (by rfl)) (by rfl))) (by rfl) (.inl rfl))
  (@z9 _ _ _ (w9 (Xx (qY (K:=K) rfl (pv 2) (fun _=>rfl)) (i5 (o9 (K:=K) rfl) (i5 (o9 (K:=K) rfl) (pv 2) (wm wz z7) (fun _ _=>rfl)) z7 (fun _ _=>rfl)) (i5 (o9 (K:=K) rfl) (Qh At hr (by decide) (pv 0)) z7 (fun _ _=>rfl)))))),
  inferInstance,inferInstance⟩
abbrev JK:Stmt:=y7 28
abbrev Uy (Aa:Addr):MS:=(y9 (zm (z5 (zQ Aa) (q9 (x6 0) (q9 (x6 1) x8))) (z6 qd (z5 qH (q9 (z0 1) x8)) (z5 qH (q9 (qE Aa "names" (vX Aa) (x6 0) x8) x8)))))
def zB (Aa:Addr):List PV->Option PV:=i6 2 2 (Uy Aa)
theorem RT:v9 ["works", "names"] ["works", "names"] (j5 JK):=⟨rfl,rfl,rfl,by decide +kernel,rfl,by decide +kernel,by decide +kernel⟩
theorem Nv {Aa:Addr}(F:Fun K "is_plan" "is_plan" JK f fd) (A4:Fn P w K mg base 2 "are_names" ["works", "names"] (v4 (zQ Aa))) (Ad:mg "len"=none) (As:Mt P w K mg base 1 Aa "names" ["self"] (spO (vX Aa))):FnOk P w K mg base v7 3 f fd ["works", "names"] (v4 (zB Aa)) :=
 qp (k:=2) (b:=(Uy Aa)) F RT rfl fun cdv A outer s H E hr=>⟨_,(@z9 _ _ _ (w9 (vo (v3 A4 hr (by decide) rfl (@x0 _ _ _ _ _ (pv 0) (@x0 _ _ _ _ _ (pv 1) x9 (by rfl)) (by rfl))) (vq (zg (zf (K:=K) (qF hr) rfl) (m8 (xL (K:=K) rfl) rfl Ad PySem.boot_len (@x0 _ _ _ _ _ (pv 1) x9 (by rfl))) (m8 (xL (K:=K) rfl) rfl Ad PySem.boot_len (@x0 _ _ _ _ _ (Qh As hr (by decide) (pv 0)) x9 (by rfl))) (m3 _)))))),
  inferInstance⟩
abbrev Jl:Stmt:=jj (y7 52) 15
abbrev YY (Aa:Addr):MS:=(y9 (t6 [none,some 1] [0] (dItV (qU Aa "held" (x6 0))) (v8 0) (dT (z6 (pIn true) (z5 zR (q9 (x6 0) x8)) (z0 1))) (x6 0)))
def QX (Aa:Addr):List PV->Option PV:=zL 2 2 (YY Aa)
theorem Rw:v9 ["self", "names"] ["self", "names"] (j5 Jl):=⟨rfl,rfl,rfl,by decide +kernel,rfl,by decide +kernel,by decide +kernel⟩
theorem LQ {Aa:Addr}(F:Fun K "cloths_but" "Works.cloths_but" Jl f fd) (An:Fn P w K mg base 1 "name_of" ["cloth"] (v4 zR)) [zk K Aa] [ql K Aa "held"]:FnOk P w K mg base v7 2 f fd ["self", "names"] (spO (QX Aa)) :=
 okO (k:=1) (b:=(YY Aa)) F Rw rfl fun cdv A outer s H E hr=>⟨_,(@z9 _ _ _ (w9 (qJ (N':=["cloth", "names"]) (cap:=[none,some 1]) (qu rfl rfl rfl) rfl (HI (xS (K:=K) rfl (pv 0) rfl)) (fun _ _ _ _ _ _=>(u9 (i:=0) (by show (["cloth", "names"]:List Str).Nodup;decide +kernel) rfl (Or.inl rfl))) (fun _ _ _ _ _ _=>(Je (t9 (Ku (K:=K) rfl) (v3 An hr (by decide) rfl (@x0 _ _ _ _ _ (pv 0) x9 (by rfl))) (pv 1) (by with_unfolding_all rfl)))) (fun _ _ _ _ _ _=>(pv 0))))),
  inferInstance⟩
abbrev ww:Stmt:=jj (y7 52) 0
abbrev Zm (Aa:Addr):MS:=(u3 (ji Aa "least" (z5 ZQ (q9 (x6 1) x8)))
  (u3 (xZ (z5 ZM (q9 (x6 3) (q9 (x6 4) (q9 (wL Aa "hues" (wY Aa) 0 x8) x8)))))
  (u3 (xZ (z5 ZK (q9 (x6 2) (q9 (wL Aa "hues" (wY Aa) 0 x8) x8))))
  (u3 (ji Aa "given" (t6 [none] [0] (i7 (x6 1)) (v8 0) i4 (z5 Qf (q9 (z0 0) x8))))
  (u3 (ji Aa "held" (z5 ZY (q9 (t6 [none] [0] (i7 (x6 2)) (v8 0) i4 (xD (q9 (z5 zR (q9 (x6 0) x8)) (q9 (x6 0) x8)))) x8)))
  (u3 (ji Aa "last" (dIf (dT (z6 pIsN (z0 3) (dC .non))) (dUn wg (dC (.int 1))) (x6 3)))
  (ji Aa "time" (x6 4))))))))
def jn (Aa:Addr):List PV->Option PV:=QF 5 5 Aa (Zm Aa)
theorem Ry:v9 ["self", "rinses", "cloths", "last", "time"] ["self", "rinses", "cloths", "last", "time"] (j5 ww):=⟨rfl,rfl,rfl,by decide +kernel,rfl,by decide +kernel,by decide +kernel⟩
theorem LU {Aa:Addr}(F:FunD K "__init__" "Works.__init__" ww f fd) (D3:Fn P w K mg base 4 "check_cloths" ["cloths", "hues"] (v4 ZK)) (D6:Fn P w K mg base 3 "check_start" ["last", "time", "hues"] (v4 ZM)) (B6:Fn P w K mg base 4 "least_rinses" ["rinses"] (spO ZQ)) (An:Fn P w K mg base 1 "name_of" ["cloth"] (v4 zR)) (J9:mg "dict"=none) (Au:mg "list"=none) [zk K Aa] [ql K Aa "given"] [ql K Aa "held"] [ql K Aa "last"] [ql K Aa "least"] [ql K Aa "time"] (B3:Mt P w K mg base 1 Aa "hues" ["self"] (v4 (wY Aa))):FnOk P w K mg base v7 5 f fd ["self", "rinses", "cloths", "last", "time"] (spI Aa (jn Aa)) :=
 okID (k:=4) (b:=Zm Aa) F Ry rfl (fun cdv A outer s H E hr=>⟨_,(@j7 _ _ _ _ _ (XE (K:=K) rfl (pv 0) (v3 B6 hr (by decide) rfl (@x0 _ _ _ _ _ (pv 1) x9 (by rfl))))
  (@j7 _ _ _ _ _ (zE (v3 D6 hr (by decide) rfl (@x0 _ _ _ _ _ (pv 3) (@x0 _ _ _ _ _ (pv 4) (@x0 _ _ _ _ _ (Qh B3 hr (by decide) (pv 0)) x9 (by rfl)) (by rfl)) (by rfl))))
  (@j7 _ _ _ _ _ (zE (v3 D3 hr (by decide) rfl (@x0 _ _ _ _ _ (pv 2) (@x0 _ _ _ _ _ (Qh B3 hr (by decide) (pv 0)) x9 (by rfl)) (by rfl))))
  (@j7 _ _ _ _ _ (XE (K:=K) rfl (pv 0) (qJ (N':=["row"]) (cap:=[none]) (qu rfl rfl rfl) rfl (@qK _ K _ _ _ rfl (pv 1)) (fun _ _ _ _ _ _=>(u9 (i:=0) (by show (["row"]:List Str).Nodup;decide +kernel) rfl (Or.inl rfl))) (fun _ _ _ _ _ _=>qR) (fun _ _ _ _ _ _=>(Xw (VN (K:=K) rfl) rfl Au wK (@x0 _ _ _ _ _ (pv 0) x9 (by rfl))))))
  (@j7 _ _ _ _ _ (XE (K:=K) rfl (pv 0) (Xw (Cv (K:=K) rfl rfl) rfl J9 Cj (@x0 _ _ _ _ _ (qJ (N':=["cloth"]) (cap:=[none]) (qu rfl rfl rfl) rfl (@qK _ K _ _ _ rfl (pv 2)) (fun _ _ _ _ _ _=>(u9 (i:=0) (by show (["cloth"]:List Str).Nodup;decide +kernel) rfl (Or.inl rfl))) (fun _ _ _ _ _ _=>qR) (fun _ _ _ _ _ _=>(@zT _ _ _ _ _ (@x0 _ _ _ _ _ (v3 An hr (by decide) rfl (@x0 _ _ _ _ _ (pv 0) x9 (by rfl))) (@x0 _ _ _ _ _ (pv 0) x9 (by rfl)) (by rfl))))) x9 (by rfl))))
  (@j7 _ _ _ _ _ (XE (K:=K) rfl (pv 0) (Xx (t9 (Kr) (pv 3) Qi (m3 _)) (wm wz z7) (pv 3)))
  (@z9 _ _ _ (XE (K:=K) rfl (pv 0) (pv 4))))))))),
  (by repeat' first | infer_instance | (refine @Mi.Tq _ _ _ _ ?_ ?_))⟩)
abbrev Jo:Stmt:=jj (y7 52) 13
abbrev YO (Aa:Addr):MS:=(xZ (z5 (jK Aa) (q9 (x6 0) (q9 (x6 1) x8))))
abbrev Ub (Aa:Addr):MS:=(u3 (YO Aa)
  (y9 (z5 (jn Aa) (q9 (qU Aa "given" (x6 0)) (q9 (t6 [none,some 0] [0] (i7 (x6 1)) (v8 0) i4 (vL (qU Aa "held" (x6 1)) (z0 0))) (q9 (qU Aa "last" (x6 0)) (q9 (qU Aa "time" (x6 0)) x8)))))))
abbrev Po (Ab:Addr)(Aa:Addr):XM:=(jU false (YO Aa) (xX (qI (ju Ab Aa) (q9 (x6 0) (q9 (x6 1) x8))))
  xNo)
def vY (Aa:Addr):List PV->Option PV:=xQ 2 [false,false] (Ub Aa)
def Zc (Ab:Addr)(Aa:Addr):List PV->Addr->Prop:=xV 2 [false,false] (Po Ab Aa)
theorem RA:v9 ["self", "names"] ["self", "names"] (j5 Jo):=⟨rfl,rfl,rfl,by decide +kernel,rfl,by decide +kernel,by decide +kernel⟩
theorem LW {Ab:Addr}{Aa:Addr}(F:Fun K "only" "Works.only" Jo f fd) (Al:Fx P w K mg base 3 "check_names" ["works", "names"] (n9 [false,false] (jK Aa) (ju Ab Aa))) (B0:mg "Works"=some (.ref Aa)) [zk K Aa] [ql K Aa "given"] [ql K Aa "held"] [ql K Aa "last"] [ql K Aa "time"] (B5:Mkr P w K mg base 5 Aa ["self", "rinses", "cloths", "last", "time"] (spI Aa (jn Aa))):FnOk P w K mg base (o6 P w) 7 f fd ["self", "names"] (n9 [false,false] (vY Aa) (Zc Ab Aa)) :=
 jM (k:=6) (b:=(Ub Aa)) (xb:=(Po Ab Aa)) F RA rfl rfl rfl fun cdv A outer s H E hr=>⟨_,(@j7 _ _ _ _ _ (zE (xq Al hr (by decide) xk rfl (@x0 _ _ _ _ _ (pv 0) (@x0 _ _ _ _ _ (pv 1) x9 (by rfl)) (by rfl))))
  (@z9 _ _ _ (w9 (WK B5 hr (by decide) rfl B0 (@x0 _ _ _ _ _ (xS (K:=K) rfl (pv 0) rfl) (@x0 _ _ _ _ _ (qJ (N':=["name", "self"]) (cap:=[none,some 0]) (qu rfl rfl rfl) rfl (@qK _ K _ _ _ rfl (pv 1)) (fun _ _ _ _ _ _=>(u9 (i:=0) (by show (["name", "self"]:List Str).Nodup;decide +kernel) rfl (Or.inl rfl))) (fun _ _ _ _ _ _=>qR) (fun _ _ _ _ _ _=>(WJ (wQ hr) (xS (K:=K) rfl (pv 1) rfl) (pv 0) (fun _ _=>rfl)))) (@x0 _ _ _ _ _ (xS (K:=K) rfl (pv 0) rfl) (@x0 _ _ _ _ _ (xS (K:=K) rfl (pv 0) rfl) x9 (by rfl)) (by rfl)) (by rfl)) (by rfl)))))),
  inferInstance,inferInstance⟩
abbrev Jj:Stmt:=jj (y7 52) 14
abbrev YN (Aa:Addr):MS:=(m6 2 (z5 (wa Aa) (q9 (x6 0) (q9 (x6 1) x8))))
abbrev YW (Aa:Addr):MS:=(u3 (YN Aa)
  (u3 (m6 3 (dIf (qv (z0 1)) (z5 ze (q9 (vL (qU Aa "held" (x6 0)) (z6 p8 (z0 1) (dUn wg (dC (.int 1))))) x8)) (qU Aa "last" (x6 0))))
  (y9 (z5 (jn Aa) (q9 (qU Aa "given" (x6 0)) (q9 (qE Aa "cloths_but" (QX Aa) (x6 0) (q9 (x6 1) x8)) (q9 (x6 3) (q9 (x6 2) x8))))))))
abbrev Pn (Ab:Addr)(Aa:Addr):XM:=(jU false (YN Aa) (xX (qI (wB Ab Aa) (q9 (x6 0) (q9 (x6 1) x8))))
  xNo)
def QW (Aa:Addr):List PV->Option PV:=xQ 4 [false,false] (YW Aa)
def VC (Ab:Addr)(Aa:Addr):List PV->Addr->Prop:=xV 4 [false,false] (Pn Ab Aa)
theorem sc_Works_begun:v9 ["self", "names", "time", "last"] ["self", "names"] (j5 Jj):=⟨rfl,rfl,rfl,by decide +kernel,rfl,by decide +kernel,by decide +kernel⟩
theorem LN {Ab:Addr}{Aa:Addr}(F:Fun K "begun" "Works.begun" Jj f fd) (Ed:Fx P w K mg base 5 "end_of" ["works", "names"] (n9 [false,false] (wa Aa) (wB Ab Aa))) (Ao:Fn P w K mg base 1 "hue_of" ["cloth"] (v4 ze)) (B0:mg "Works"=some (.ref Aa)) [zk K Aa] [ql K Aa "given"] [ql K Aa "held"] [ql K Aa "last"] (A3:Mt P w K mg base 2 Aa "cloths_but" ["self", "names"] (spO (QX Aa))) (B5:Mkr P w K mg base 5 Aa ["self", "rinses", "cloths", "last", "time"] (spI Aa (jn Aa))):FnOk P w K mg base (o6 P w) 7 f fd ["self", "names"] (n9 [false,false] (QW Aa) (VC Ab Aa)) :=
 jM (k:=6) (b:=(YW Aa)) (xb:=(Pn Ab Aa)) F sc_Works_begun rfl rfl rfl fun cdv A outer s H E hr=>⟨_,(@j7 _ _ _ _ _ (@y6 _ _ 2 _ _ _ _ sc_Works_begun.nd rfl (Or.inl rfl) (xq Ed hr (by decide) xk rfl (@x0 _ _ _ _ _ (pv 0) (@x0 _ _ _ _ _ (pv 1) x9 (by rfl)) (by rfl))) (by rfl) (.inl rfl))
  (@j7 _ _ _ _ _ (@y6 _ _ 3 _ _ _ _ sc_Works_begun.nd rfl (Or.inl rfl) (Xx (qY (K:=K) rfl (pv 1) (fun _=>rfl)) (v3 Ao hr (by decide) rfl (@x0 _ _ _ _ _ (WJ (wQ hr) (xS (K:=K) rfl (pv 0) rfl) (i5 (o9 (K:=K) rfl) (pv 1) (wm wz z7) (fun _ _=>rfl)) (fun _ _=>rfl)) x9 (by rfl))) (xS (K:=K) rfl (pv 0) rfl)) (by rfl) (.inl rfl))
  (@z9 _ _ _ (w9 (WK B5 hr (by decide) rfl B0 (@x0 _ _ _ _ _ (xS (K:=K) rfl (pv 0) rfl) (@x0 _ _ _ _ _ (wj A3 hr (by decide) (pv 0) (@x0 _ _ _ _ _ (pv 1) x9 (by rfl))) (@x0 _ _ _ _ _ (pv 3) (@x0 _ _ _ _ _ (pv 2) x9 (by rfl)) (by rfl)) (by rfl)) (by rfl))))))),
  inferInstance,inferInstance⟩
theorem Yq (n:Int):vj [.at (.int n)]=some (.at (.bl true)):=qO rfl (p9 (jF (j4 rfl My) (DF (v:=false) (j4 rfl Mz))))
theorem So (n k:Int):jo [.at (.int n),.at (.int k)]=some (.at (.bl (decide (k<=n)))):=qO rfl (p9 (jF (j4 rfl (Yq n)) rfl))
theorem XV {n k:Int}(h:k<=n):jo [.at (.int n),.at (.int k)]=some (.at (.bl true)):=(So n k).trans (by rw [decide_eq_true h])
theorem Ss {s:Str}(h:wF s):ZP [.at (.str s)]=some (.at (.bl true)):=by
 have hl:lim=1000000:=rfl
 have l1:=h.one
 have l8:=h.eight
 have ln:qH [.at (.str s)]=some (.at (.int s.length)):=if_pos (by omega)
 refine qO rfl (u5 (m4 (jg (qN (qV (j4 rfl GT))) (qN (w4 (Wc (r:=true) rfl (j4 rfl ln) ?_ rfl ?_)))) qc) (p9 (j4 (v5 (xp (fun c:Nat=>PV.at (.str ⟨#[c]⟩)) (fun _=>PV.at (.bl true)) s.cps.toList rfl rfl ?_ ?_) rfl) (Qz _))))
 ·show some (PV.at (.bl (decide ((1:Int)<=(s.length:Int)))))=_
  rw [decide_eq_true (by omega)]
 ·show some (PV.at (.bl (decide ((s.length:Int)<=8))))=_
  rw [decide_eq_true (by omega)]
 ·have:s.cps.toList.length=s.length:=by simp [Str.length]
  omega
 ·intro c hc
  obtain ⟨c1,c2⟩:=h.low c hc
  refine ⟨_,rfl,Wc rfl rfl ?_ rfl ?_⟩
  ·show some (PV.at (.bl (!decide ([c] < ("a":Str).cps.toList))))=_
   have e:¬ ([c] < [97]):=by rw [List.cons_lt_cons_iff];simp;omega
   rw [show ("a":Str).cps.toList=[97] by decide +kernel,decide_eq_false e];rfl
  ·show some (PV.at (.bl (!decide (("z":Str).cps.toList < [c]))))=_
   have e:¬ ([122] < [c]):=by rw [List.cons_lt_cons_iff];simp;omega
   rw [show ("z":Str).cps.toList=[122] by decide +kernel,decide_eq_false e];rfl
theorem Sq {h:Nat}{c:Cl}(ok:c.Ok h):ZN [c.pv,.at (.int h)]=some (.at (.bl true)):=by
 refine qO rfl (u5 (m4 (jg (qN (qV (j4 rfl MC))) (w4 (v:=false) rfl)) qc) (u5 (m4 (jg (qN (qV (j4 (v5 (j4 rfl rfl) rfl) (Ss ok.nm)))) (jg (qN (qV (j4 (v5 (j4 rfl rfl) rfl) (XV (n:=(c.hue:Int)) (k:=0) (by omega))))) (w4 (v:=false) (w6 (j4 rfl rfl) rfl ?_)))) qc) (p9 (jF (j4 (v5 (j4 rfl rfl) rfl) (XV ok.l1)) (jF (j4 (v5 (j4 rfl rfl) rfl) (Yq _)) (j4 (v5 (j4 rfl rfl) rfl) (XV ok.w1)))))))
 show some (PV.at (.bl (decide ((h:Int)<=(c.hue:Int)))))=_
 have:=ok.hu
 rw [decide_eq_false (by omega)]
theorem Sl {l t:Int}{h:Nat}(h1:-1<=l)(h2:l < (h:Int))(h3:0<=t):ZM [.at (.int l),.at (.int t),.at (.int h)]=some (.at .non):=by
 refine Wf rfl (u5 (m4 (VU (v:=false) (w4 (v:=true) rfl) (qN (VU (v:=true) (qV (j4 rfl (XV h1))) (w4 (v:=true) ?_)))) qc) (m4 (qN (qV (j4 rfl (XV h3)))) qc))
 show some (PV.at (.bl (decide (l < (h:Int)))))=_
 rw [decide_eq_true h2]
def keysOf (cs:List Cl):List z8:=cs.map fun c=>Sum.inr c.name
theorem Kj {x:Str}{α:Type}(f:Cl->PV):∀ {cs:List Cl},x ∉ cs.map Cl.name->xi (.inr x) (keysOf cs) (cs.map f)=none
 | [],_=>rfl
 | c::cs,h=>by
  rw [List.map_cons] at h
  show (if (Sum.inr c.name:z8) = .inr x then _ else xi (.inr x) (keysOf cs) (cs.map f))=_
  rw [if_neg (fun e=>h (by injection e with e;rw [e];exact List.mem_cons_self)),Kj (α:=α) f fun z=>h (List.mem_cons_of_mem _ z)]
theorem ZI (f:Cl->PV):∀ {cs:List Cl},(cs.map Cl.name).Nodup->∀ c ∈ cs,xi (.inr c.name) (keysOf cs) (cs.map f)=some (f c)
 | [],_,_,h=>nomatch h
 | d::cs,nd,c,h=>by
  rw [List.map_cons] at nd
  have nd':=List.nodup_cons.mp nd
  show (if (Sum.inr d.name:z8) = .inr c.name then some (f d) else xi (.inr c.name) (keysOf cs) (cs.map f))=_
  rcases List.mem_cons.mp h with rfl | h
  ·rw [if_pos rfl]
  ·rw [if_neg (fun e=>nd'.1 (by injection e with e;rw [e];exact List.mem_map.mpr ⟨c,h,rfl⟩)),ZI f nd'.2 c h]
theorem Sj {cls:List Cl}{h:Nat}(hok:∀ c ∈ cls,c.Ok h)(nd:(cls.map Cl.name).Nodup)(ten:cls.length<=10):ZK [.lst (cls.map Cl.pv),.at (.int h)]=some (.at .non):=by
 have hl:lim=1000000:=rfl
 refine Wf rfl (u5 (m4 (w4 (v:=false) (w6 (j4 rfl rfl) rfl ?_)) qc) (u5 (GL rfl) (Zw rfl (QV Cl.pv (fun l ε=>∃ (done:List Cl) (s3:MSlot),done++l=cls/\ε=[.sh (.lst (cls.map Cl.pv)),.sh (.at (.int h)),.ow (.dk (keysOf done) (done.map fun _=>PV.at (.bl true))),s3]) ?_ cls _ ⟨[],.no,rfl,rfl⟩).choose_spec.1)))
 ·show some (PV.at (.bl (decide ((10:Int) < ((cls.map Cl.pv).length:Int)))))=_
  rw [List.length_map,decide_eq_false (by omega)]
 ·rintro c l ε ⟨done,s3,e,rfl⟩
  have hc:c ∈ cls:=by rw [<- e];exact List.mem_append_right _ List.mem_cons_self
  have hn:c.name ∉ done.map Cl.name:=fun z=>by
   rw [<- e,List.map_append,List.map_cons] at nd
   exact (List.nodup_append.mp nd).2.2 _ z _ List.mem_cons_self rfl
  have ln:=Kj (α:=Unit) (fun _=>PV.at (.bl true)) hn
  have hd:done.length<=10:=by rw [<- e] at ten;rw [List.length_append] at ten;omega
  refine ⟨_,_,rfl,u5 (m4 (qN (qV (j4 rfl (Sq (hok c hc))))) qc) (u5 (m4 (w4 (v:=false) ?_) qc) ?_),done++[c],.sh c.pv,by rw [<- e,List.append_assoc];rfl,rfl⟩
  ·show some (PV.at (.bl (xi (.inr c.name) (keysOf done) (done.map fun _=>PV.at (.bl true))).isSome))=_
   rw [ln];rfl
  ·show (if (keysOf done).length<=lim then some (Out.nx [_,_,.ow (Jf (.inr c.name) (.at (.bl true)) (keysOf done) (done.map fun _=>PV.at (.bl true))),_]) else none)=_
   unfold Jf
   rw [if_pos (by unfold keysOf;rw [List.length_map];omega),ln]
   simp only [Option.isSome_none,Bool.false_eq_true,if_false]
   unfold keysOf
   rw [List.map_append,List.map_append]
   rfl
def zN (n:Int):PV:= .at (.int n)
def qZ (r:List Int):PV:= .lst (r.map zN)
def wyP (w:Wy):PV:= .tup [.at (.int w.1),.lst (w.2.map zN)]
def xo (ws:List Wy):PV:= .lst (ws.map wyP)
theorem SD {r:List Int}{h:Nat}(hl:r.length=h)(h4:h<=4)(hv:∀ v ∈ r,0<=v):Xc [qZ r,.at (.int h)]=some (.at (.bl true)):=by
 have hlim:lim=1000000:=rfl
 refine qO rfl (u5 (m4 (jg (qN (qV (j4 rfl QQ))) (w4 (v:=false) (w6 (j4 rfl rfl) rfl ?_))) qc) (p9 (j4 (v5 (xp zN (fun _=>PV.at (.bl true)) r rfl rfl (by omega) fun v hvm=>?_) rfl) (Qz _))))
 ·show (peq 6 (.at (.int ((r.map zN).length:Int))) (.at (.int (h:Int)))).bind _=_
  rw [List.length_map,hl]
  exact WG (x:= .at (.int (h:Int))) rfl
 ·refine ⟨_,rfl,jF (j4 rfl (Yq v)) ?_⟩
  show some (PV.at (.bl (decide ((0:Int)<=v))))=_
  rw [decide_eq_true (hv v hvm)]
theorem Sk {rss:List (List Int)}{h:Nat}(G:xB h rss)(h1:1<=h)(h4:h<=4):ZL [qB rss]=some (.at .non):=by
 have hlim:lim=1000000:=rfl
 have hlen:=G.len
 have eh:((rss.map qZ).length:Int) - 1=(h:Int):=by rw [List.length_map,hlen];omega
 have step:∀ (k:Int),k=(h:Int)->u3 (i9 (qk (dT (vK pLe pLe (dC (.int 1)) (z0 1) (dC (.int 4))))) za qx)
  (i9 (qk (qv (z5 zS (q9 (t6 [none,some 1] [0] (i7 (x6 0)) (v8 0) i4 (z5 Xc (q9 (x6 0) (q9 (x6 1) x8)))) x8)))) za qx) [.sh (qB rss),.sh (.at (.int k))]=some (.nx [.sh (qB rss),.sh (.at (.int k))]):=by
  rintro k rfl
  refine u5 (m4 (qN (w4 (Wc (r:=true) rfl rfl ?_ rfl ?_))) qc) (m4 (qN (qV (j4 (v5 (xp qZ (fun _=>PV.at (.bl true)) rss rfl rfl (by omega) fun r hr=>⟨_,rfl,j4 rfl (SD (G.row r hr).1 h4 fun v hv=>((G.row r hr).2 v hv).1)⟩) rfl) (Qz _)))) qc)
  ·show some (PV.at (.bl (decide ((1:Int)<=(h:Int)))))=_
   rw [decide_eq_true (by omega)]
  ·show some (PV.at (.bl (decide ((h:Int)<=4))))=_
   rw [decide_eq_true (by omega)]
 exact Wf rfl (u5 (m4 (qN (qV (j4 rfl QQ))) qc) (u5 (qg rfl) (step _ eh)))
theorem GG {α:Type}(f:α->PV):∀ (l:List α) (n:Nat),zy n (l.map f)=(l.zipIdx n).map fun p=>PV.tup [.at (.int ((p.2:Nat):Int)),f p.1]
 | [],_=>rfl
 | x::l,n=>by
  rw [List.map_cons,List.zipIdx_cons,List.map_cons]
  show PV.tup [.at (.int n),f x]::zy (n + 1) (l.map f)=_
  rw [GG f l (n + 1)]
theorem SF {r:List Int}(h:r.length<=4):Xi [qZ r]=some (xo (zX r)):=by
 have hlim:lim=1000000:=rfl
 refine wO rfl (p9 ?_)
 have e:=xp (cap:=[none,none]) (ts:=[0,1]) (it:=VX (q9 (x6 0) x8)) (g:=zd 2 (qi (v8 0) (qi (v8 1) zc))) (f:=xD (q9 (x6 1) (q9 (i8 (q9 (x6 0) x8)) x8))) (ε:=[.sh (qZ r)])
  (fun p:Int × Nat=>PV.tup [.at (.int ((p.2:Nat):Int)),zN p.1]) (fun p:Int × Nat=>wyP (p.1,[(p.2:Int)])) (r.zipIdx 0) (by show some (zy 0 (r.map zN))=_;rw [GG]) rfl (by rw [List.length_zipIdx];omega) fun p _=>⟨_,rfl,rfl⟩
 refine e.trans ?_
 unfold xo zX
 rw [List.mapIdx_eq_zipIdx_map,List.map_map]
 rfl
theorem Su {a b:Wy}(h:a.2.length + b.2.length<=1000):Xd [wyP a,wyP b]=some (wyP (zO a b)):=by
 have hlim:lim=1000000:=rfl
 refine qO rfl (p9 (vS (v5 (w6 rfl rfl rfl) (v5 (w6 rfl rfl (Xs (by rw [List.length_map,List.length_map];omega))) rfl)) (by first | decide | (show 1<=lim;decide) | (show 2<=lim;decide) | (show 3<=lim;decide))) |>.trans ?_)
 unfold wyP zO
 rw [List.map_append]
theorem SB (a b:Wy):Xh [wyP a,wyP b]=some (wyP (jm a b)):=by
 unfold jm
 by_cases h:b.1 < a.1
 ·rw [if_pos h]
  exact qO rfl (p9 (Zx (w4 (v:=true) (w6 rfl rfl (show some (PV.at (.bl (decide (b.1 < a.1))))=_ by rw [decide_eq_true h]))) rfl))
 ·rw [if_neg h]
  exact qO rfl (p9 (QK (w4 (v:=false) (w6 rfl rfl (show some (PV.at (.bl (decide (b.1 < a.1))))=_ by rw [decide_eq_false h]))) rfl))
theorem PJ {α β:Type}(f:α->PV)(g:β->PV):∀ (l:List α) (m:List β),xW (l.map f) (m.map g)=(l.zip m).map fun p=>PV.tup [f p.1,g p.2]
 | [],_=>by cases ‹List β› <;> rfl
 | _::_,[]=>rfl
 | x::l,y::m=>by
  show PV.tup [f x,g y]::xW (l.map f) (m.map g)=_
  rw [PJ f g l m];rfl
theorem PK {α β γ:Type}(f:α->β->γ):∀ (l:List α) (m:List β),List.zipWith f l m=(l.zip m).map fun p=>f p.1 p.2
 | [],_=>by simp
 | _::_,[]=>rfl
 | x::l,y::m=>by
  show f x y::List.zipWith f l m=_
  rw [PK f l m];rfl
theorem SH {ws onw:List Wy}{k:Nat}(hk:k < ws.length)(h4:ws.length<=4)(l1:∀ w ∈ ws,w.2.length<=100)(l2:∀ w ∈ onw,w.2.length<=100):Qc [xo ws,.at (.int (k:Int)),xo onw]=some (xo (thr ws k onw)):=by
 have hlim:lim=1000000:=rfl
 have hg:ws.getD k (0,[])=ws[k]:=qh hk
 have hw:=List.getElem_mem hk
 refine wO rfl (p9 ?_)
 have e:=xp (cap:=[none,none,some 0,some 1]) (ts:=[0,1]) (it:=dZip (q9 (x6 0) (q9 (x6 2) x8))) (g:=zd 2 (qi (v8 0) (qi (v8 1) zc))) (f:=z5 Xh (q9 (x6 0) (q9 (z5 Xd (q9 (z6 p8 (z0 2) (z0 3)) (q9 (x6 1) x8))) x8))) (ε:=[.sh (xo ws),.sh (.at (.int (k:Int))),.sh (xo onw)])
  (fun p:Wy × Wy=>PV.tup [wyP p.1,wyP p.2]) (fun p:Wy × Wy=>wyP (jm p.1 (zO ws[k] p.2))) (ws.zip onw) (by show some (xW (ws.map wyP) (onw.map wyP))=_;rw [PJ]) rfl (by rw [List.length_zip];omega) fun p hp=>⟨_,rfl,j4 (v5 rfl (v5 (j4 (v5 (w6 rfl rfl (jD (v:=wyP ws[k]) (by rw [List.getElem?_map,List.getElem?_eq_getElem hk];rfl))) (v5 rfl rfl)) (Su (by
   have q1:=l1 _ hw
   have q2:=l2 p.2 (List.of_mem_zip hp).2
   omega))) rfl)) (SB _ _)⟩
 refine e.trans ?_
 unfold xo thr
 rw [hg,PK,List.map_map]
 rfl
theorem SL {h k:Nat}{rss:List (List Int)}(G:xB h rss)(hk:k<=h)(h4:h<=4):∀ r ∈ qo rss k,∀ w ∈ r,w.2.length<=100:=by
 intro r hr w hw
 have S:=Shp.all G k hk
 have F:=FW.all G k hk
 obtain ⟨f,hf,rfl⟩:=List.getElem_of_mem hr
 obtain ⟨g,hg,rfl⟩:=List.getElem_of_mem hw
 have hf':f<=h:=by have:=S.len;omega
 have hg':g < h:=by rw [<- S.row _ hr];exact hg
 have e:u6 (qo rss k) f g=(qo rss k)[f][g]:=by unfold u6;rw [qh hf,qh hg]
 have q:=F.len f g hf' hg'
 rw [e] at q
 have:2 ^ k<=2 ^ 4:=Nat.pow_le_pow_right (by decide) (by omega)
 omega
def XT (T:List (List Wy)):PV:= .lst (T.map xo)
theorem SA {rss:List (List Int)}{h:Nat}(G:xB h rss)(h1:1<=h)(h4:h<=4):ZR [qB rss]=some (XT (qo rss h)):=by
 have hlim:lim=1000000:=rfl
 have hlimI:(lim:Int)=1000000:=rfl
 have hlen:=G.len
 have st:t6 [none] [0] (i7 (x6 0)) (v8 0) i4 (z5 Xi (q9 (x6 0) x8)) [.sh (qB rss),.no,.no,.no]=some (XT (qo rss 0)):=by
  refine (xp qZ (fun r=>xo (zX r)) rss rfl rfl (by omega) fun r hr=>⟨_,rfl,j4 rfl (SF (by rw [(G.row r hr).1];exact h4))⟩).trans ?_
  show _=some (PV.lst ((rss.map zX).map xo))
  rw [List.map_map];rfl
 have rg:zw (q9 (z6 zC (z5 qH (q9 (z0 0) x8)) (dC (.int 1))) x8) [.sh (qB rss),.sh (XT (qo rss 0)),.no,.no]=some ((List.range h).map fun (i:Nat)=>PV.at (.int ((0:Int) + i))):=by
  refine XI (k:=h) (v5 (w6 (j4 rfl rfl) rfl ?_) rfl) (by omega)
  show some (PV.at (.int (((rss.map qZ).length:Int) - 1)))=_
  rw [List.length_map,hlen,show ((h + 1:Nat):Int) - 1=(h:Int) by omega]
 have lp:=QV (g:=v8 2) (f:=u3 (m6 3 (z6 p8 (z0 1) (z0 2))) (m6 1 (t6 [none,some 2,some 3] [0] (i7 (x6 1)) (v8 0) i4 (z5 Qc (q9 (x6 0) (q9 (x6 1) (q9 (x6 2) x8)))))))
  (fun (i:Nat)=>PV.at (.int ((0:Int) + i))) (fun l ε=>∃ (k:Nat) (s2 s3:MSlot),l=(List.range h).drop k/\k<=h/\ε=[.sh (qB rss),.sh (XT (qo rss k)),s2,s3]) (by
   rintro i l ε ⟨k,s2,s3,el,hk,rfl⟩
   have hkl:k < h:=by
    have e5:(i::l).length=((List.range h).drop k).length:=by rw [<- el]
    rw [List.length_drop,List.length_range,List.length_cons] at e5
    omega
   have ei:i=k:=by
    have:((List.range h).drop k)[0]?=some i:=by rw [<- el];rfl
    rw [List.getElem?_drop,List.getElem?_range (by omega)] at this
    simpa using this.symm
   have er:l=(List.range h).drop (k + 1):=by
    have:((List.range h).drop k).tail=l:=by rw [<- el];rfl
    rw [<- this,List.tail_drop]
   subst ei
   have S:=Shp.all G i hk
   have hT:i < (qo rss i).length:=by rw [S.len];omega
   have gD:(qo rss i).getD i []=(qo rss i)[i]:=qh hT
   have wl:=SL G hk h4
   refine ⟨_,_,rfl,u5 (qg (x:=xo (qo rss i)[i]) (w6 rfl rfl ?_)) (qg (x:=XT (qo rss (i + 1))) ?_),i + 1,_,_,er,hkl,rfl⟩
   ·show atI ((qo rss i).map xo) (0 + (i:Int))=_
    rw [Int.zero_add]
    exact jD (by rw [List.getElem?_map,List.getElem?_eq_getElem hT];rfl)
   ·refine (xp xo (fun row=>xo (thr row i (qo rss i)[i])) (qo rss i) rfl rfl (by rw [S.len];omega) fun row hr=>⟨_,rfl,j4 rfl ?_⟩).trans ?_
    ·show Qc [xo row,.at (.int (0 + (i:Int))),xo (qo rss i)[i]]=_
     rw [Int.zero_add]
     exact SH (by rw [S.row row hr];exact hkl) (by rw [S.row row hr];exact h4) (wl row hr) (wl _ (List.getElem_mem hT))
    ·show _=some (PV.lst ((xw (qo rss i) i).map xo))
     unfold xw
     rw [List.map_map,gD]
     rfl) (List.range h) _ ⟨0,.no,.no,rfl,Nat.zero_le _,rfl⟩
 obtain ⟨ε',e',k,s2,s3,el,hk,rfl⟩:=lp
 have ek:k=h:=by
  have:=congrArg List.length el
  rw [List.length_drop,List.length_range] at this
  simp at this
  omega
 subst ek
 exact qO rfl (u5 (qg st) (u5 (Zw rg e') (p9 rfl)))
theorem SG {ws:List Wy}(h4:ws.length<=4):ZS [xo ws]=some (qZ (ws.map (·.1))):=by
 have hlim:lim=1000000:=rfl
 refine wO rfl (p9 ((xp wyP (fun w=>zN w.1) ws rfl rfl (by omega) fun w _=>⟨_,rfl,rfl⟩).trans ?_))
 unfold qZ
 rw [List.map_map];rfl
theorem Sz {rss:List (List Int)}{h:Nat}(G:xB h rss)(h1:1<=h)(h4:h<=4):ZQ [qB rss]=some (qB (vW rss h)):=by
 have hlim:lim=1000000:=rfl
 have S:=Shp.all G h (Nat.le_refl _)
 refine wO rfl (u5 (vQ (j4 rfl (Sk G h1 h4))) (p9 ((xp xo (fun ws=>qZ (ws.map (·.1))) (qo rss h) (vR (j4 rfl (SA G h1 h4))) rfl (by rw [S.len];omega) fun ws hw=>⟨_,rfl,j4 rfl (SG (by rw [S.row ws hw];exact h4))⟩).trans ?_)))
 show _=some (PV.lst ((vW rss h).map qZ))
 unfold vW
 rw [List.map_map];rfl
def Dr.low (d:Dr):List (List Int):=vW d.rss d.h
def DL:List Str:=["least", "given", "held", "last", "time"]
def Dr.ob (C:Addr)(d:Dr):PV:= .ob C DL [qB d.low,qB d.rss,.fk (keysOf d.cls) (d.cls.map Cl.pv),.at (.int d.last),.at (.int d.time)]
def Dr.names (d:Dr):List Str:=d.cls.map Cl.name
section
variable {C:Addr}{d:Dr}
theorem BY:vZ C [d.ob C]=some (.tup [.at (.int d.last),.at (.int d.time)]):=qO rfl (p9 (vS (v5 (xR rfl rfl) (v5 (xR rfl rfl) rfl)) (by first | decide | (show 1<=lim;decide) | (show 2<=lim;decide) | (show 3<=lim;decide))))
theorem DB {a:M}{ε:ME}{i:Nat}{xs:List PV}{x:PV}(h1:a ε=some x)(h2:ε[i]?=some (.ow (.lst xs)))(h3:xs.length<=lim):QE i a ε=some (.nx (ε.set i (.ow (.lst (xs++[x]))))):=by
 unfold QE;rw [h1];show (match ε[i]? with | some (.ow (.lst xs))=>if xs.length<=lim then some (Out.nx (ε.set i (.ow (.lst (xs++[x]))))) else none | _=>none)=_;rw [h2];exact if_pos h3
theorem We {a b:M}{ε:ME}{ks:List z8}{xs:List PV}{y z:PV}{k:z8}(h1:a ε=some (.fk ks xs))(h2:b ε=some y)(h3:zP y=some k)(h4:xi k ks xs=some z):vL a b ε=some z:=by
 unfold vL;rw [h1,h2];show (zP y).bind _=_;rw [h3];exact h4
theorem DC {a b:M}{ε:ME}{ks:List z8}{xs:List PV}{y:PV}{k:z8}{o:Option PV}(h1:a ε=some (.fk ks xs))(h2:b ε=some y)(h3:zP y=some k)(h4:xi k ks xs=o):Zp b a ε=some (.at (.bl (!o.isSome))):=by
 unfold Zp;rw [h1,h2];show (zP y).bind _=_;rw [h3,<- h4];rfl
theorem Vv (ok:d.Ok){c:Cl}(hc:c ∈ d.cls):zo C [d.ob C,.at (.str c.name)]=some c.pv:=by
 have lk:=ZI Cl.pv ok.nd c hc
 refine qO rfl (u5 (m4 (jg (qN (qV (j4 rfl GT))) (w4 (v:=false) ?_)) qc) (p9 ?_))
 ·exact DC (xR rfl rfl) rfl rfl lk
 ·exact We (xR rfl rfl) rfl rfl lk
theorem Rs {rss:List (List Int)}{h:Nat}(G:xB h rss){f:Int}{g:Nat}(f0:-1<=f)(f1:f < (h:Int))(hg:g < h):∃ r:List Int,atI (rss.map qZ) f=some (qZ r)/\atI (r.map zN) (g:Int)=some (.at (.int (rin rss f (g:Int)))):=by
 have main:∀ n:Nat,n<=h->∃ r:List Int,(rss.map qZ)[n]?=some (qZ r)/\rss[n]?=some r/\atI (r.map zN) (g:Int)=some (.at (.int (rin rss (n:Int) (g:Int)))):=by
  intro n hn
  have hl:n < rss.length:=by have:=G.len;omega
  have hgl:g < rss[n].length:=by rw [(G.row _ (List.getElem_mem hl)).1];exact hg
  refine ⟨rss[n],by rw [List.getElem?_map,List.getElem?_eq_getElem hl];rfl,List.getElem?_eq_getElem hl,?_⟩
  rw [XH G hn hg,qh hl,qh hgl]
  exact jD (by rw [List.getElem?_map,List.getElem?_eq_getElem hgl];rfl)
 by_cases hf:f=-1
 ·subst hf
  obtain ⟨r,e1,e2,e3⟩:=main h (Nat.le_refl _)
  refine ⟨r,?_,?_⟩
  ·have hlen:(rss.map qZ).length=h + 1:=by rw [List.length_map];exact G.len
   have e:atI (rss.map qZ) (h:Int)=some (qZ r):=jD e1
   rw [<- e]
   unfold atI
   rw [hlen]
   have i1:qW (h + 1) (-1)=some h:=by
    unfold qW
    rw [if_neg (by decide),if_pos (by omega)]
    congr 1
    omega
   have i2:qW (h + 1) (h:Int)=some h:=by
    unfold qW
    rw [if_pos (by omega),if_pos (by omega)]
    congr 1
   rw [i1,i2]
  ·rw [Bl G.len];exact e3
 ·obtain ⟨n,rfl⟩:=Int.eq_ofNat_of_zero_le (show 0<=f by omega)
  obtain ⟨r,e1,e2,e3⟩:=main n (by omega)
  exact ⟨r,jD e1,e3⟩
def Dr.rz (d:Dr)(f:Int)(g:Nat):Int:=if f=(g:Int) then 0 else rin d.low f (g:Int)
theorem SI (ok:d.Ok){f:Int}{g:Nat}(f0:-1<=f)(f1:f < (d.h:Int))(hg:g < d.h):QY C [d.ob C,.at (.int f),.at (.int (g:Int))]=some (.at (.int (rin d.low f (g:Int)))):=by
 obtain ⟨r,e1,e2⟩:=Rs (Wx ok.rin) f0 f1 hg
 exact qO rfl (p9 (w6 (w6 (xR rfl rfl) rfl e1) rfl e2))
theorem QJ (a b:Int):qd (.at (.int a)) (.at (.int b))=some (.at (.bl (decide (a=b)))):=by
 show some (PV.at (.bl (qw (.int a) (.int b))))=_
 have:qw (.int a) (.int b)=decide (a=b):=rfl
 rw [this]
theorem Ko (a b:Int):qX (.at (.int a)) (.at (.int b))=some (.at (.bl (!decide (a=b)))):=by
 show some (PV.at (.bl (!qw (.int a) (.int b))))=_
 have:qw (.int a) (.int b)=decide (a=b):=rfl
 rw [this]
theorem SC (ok:d.Ok){f:Int}{g:Nat}(f0:-1<=f)(f1:f < (d.h:Int))(hg:g < d.h):wZ C [d.ob C,.at (.int f),.at (.int (g:Int))]=some (.at (.int (d.rz f g))):=by
 unfold Dr.rz
 by_cases h:f=(g:Int)
 ·rw [if_pos h]
  exact qO rfl (p9 (Zx (w4 (v:=true) (w6 rfl rfl ((QJ _ _).trans (by rw [decide_eq_true h])))) rfl))
 ·rw [if_neg h]
  exact qO rfl (p9 (QK (w4 (v:=false) (w6 rfl rfl ((QJ _ _).trans (by rw [decide_eq_false h])))) (xF rfl (by decide) rfl (SI ok f0 f1 hg))))
structure Lst (d:Dr)(ns:List Cl):Prop where
 sub:∀ c ∈ ns,c ∈ d.cls
 nd:(ns.map Cl.name).Nodup
def p7 (cs:List Cl):PV:= .lst (j6 (cs.map Cl.name))
theorem Lst.len {ns:List Cl}(ok:d.Ok)(L:Lst d ns):ns.length<=10:=by
 have:=WD L.nd (left:=d.cls.map Cl.name) fun x hx=>by
  obtain ⟨c,hc,rfl⟩:=List.mem_map.mp hx
  exact List.mem_map.mpr ⟨c,L.sub c hc,rfl⟩
 rw [List.length_map,List.length_map] at this
 have:=ok.ten
 omega
theorem Yn (ok:d.Ok){ns:List Cl}(L:Lst d ns)(hN:zQ C [d.ob C,p7 ns]=some (.at (.bl true))):jK C [d.ob C,p7 ns]=some (.at .non):=DD rfl (m4 (qN (qV (j4 rfl hN))) qc)
def Dr.go (d:Dr):Int->Int->List Cl->List (Cl × Int × Int)
 | _,_,[]=>[]
 | l,t,c::cs=>(c,t + d.rz l c.hue,t + d.rz l c.hue + c.len)::d.go c.hue (t + d.rz l c.hue + c.len) cs
def rwP (r:Cl × Int × Int):PV:= .tup [.at (.str r.1.name),.at (.int r.2.1),.at (.int r.2.2)]
theorem Sn (ok:d.Ok){ns:List Cl}(L:Lst d ns)(hN:zQ C [d.ob C,p7 ns]=some (.at (.bl true))):zA C [d.ob C,p7 ns]=some (.lst ((d.go d.last d.time ns).map rwP)):=by
 have hlim:lim=1000000:=rfl
 have l10:=L.len ok
 have en:j6 (ns.map Cl.name)=ns.map fun c=>PV.at (.str c.name):=by unfold j6;rw [List.map_map];rfl
 refine Wg rfl (u5 (vQ (j4 rfl (Yn ok L hN))) (u5 (qg (xF rfl (by decide) rfl BY)) (u5 (qg (x:= .at (.int d.last)) rfl) (u5 (qg (x:= .at (.int d.time)) rfl) (u5 (GL rfl) ?_)))))
 obtain ⟨ε',e',rest⟩:=QV (g:=v8 6) (f:=u3 (m6 7 (qE C "cloth" (zo C) (x6 0) (q9 (x6 6) x8)))
  (u3 (m6 8 (z6 qa (z0 4) (qE C "rinse" (wZ C) (x6 0) (q9 (x6 3) (q9 (z5 ze (q9 (x6 7) x8)) x8)))))
  (u3 (m6 4 (z6 qa (z0 8) (z5 Qa (q9 (x6 7) x8))))
  (u3 (m6 3 (z5 ze (q9 (x6 7) x8)))
  (QE 5 (xD (q9 (x6 6) (q9 (x6 8) (q9 (x6 4) x8)))))))))
  (fun c:Cl=>PV.at (.str c.name)) (fun l ε=>∃ (la ti:Int) (done:List (Cl × Int × Int)) (s6 s7 s8:MSlot),done++d.go la ti l=d.go d.last d.time ns/\(∀ c ∈ l,c ∈ ns)/\done.length + l.length=ns.length/\-1<=la/\la < (d.h:Int) /\
   ε=[.sh (d.ob C),.sh (p7 ns),.sh (.tup [.at (.int d.last),.at (.int d.time)]),.sh (.at (.int la)),.sh (.at (.int ti)),.ow (.lst (done.map rwP)),s6,s7,s8]) (by
   rintro c l ε ⟨la,ti,done,s6,s7,s8,e1,e2,e3,g1,g2,rfl⟩
   have hc:=e2 c List.mem_cons_self
   have hk:=ok.cl c (L.sub c hc)
   simp only [List.length_cons] at e3
   refine ⟨_,[.sh (d.ob C),.sh (p7 ns),.sh (.tup [.at (.int d.last),.at (.int d.time)]),.sh (.at (.int (c.hue:Int))),.sh (.at (.int (ti + d.rz la c.hue + c.len))),.ow (.lst ((done++[(c,ti + d.rz la c.hue,ti + d.rz la c.hue + c.len)]).map rwP)),.sh (.at (.str c.name)),.sh c.pv,.sh (.at (.int (ti + d.rz la c.hue)))],rfl,u5 (qg (xF rfl (by decide) rfl (Vv ok (L.sub c hc)))) (u5 (qg (w6 rfl (xF rfl (by decide) (v5 rfl (v5 (j4 rfl rfl) rfl)) (SC ok g1 g2 hk.hu)) rfl)) (u5 (qg (w6 rfl (j4 rfl rfl) rfl)) (u5 (qg (x:= .at (.int (c.hue:Int))) (j4 rfl rfl)) ?_))),?_⟩
   rotate_left
   ·refine ⟨(c.hue:Int),ti + d.rz la c.hue + c.len,done++[(c,ti + d.rz la c.hue,ti + d.rz la c.hue + c.len)],_,_,_,by rw [List.append_assoc];exact e1,fun x hx=>e2 x (List.mem_cons_of_mem _ hx),by rw [List.length_append];simp;omega,by omega,by have:=hk.hu;omega,rfl⟩
   ·rw [List.map_append]
    exact DB (vS rfl l3) rfl (by rw [List.length_map];omega)) ns _ ⟨d.last,d.time,[],.no,.no,.no,rfl,fun c h=>h,by simp,ok.l1,ok.l2,rfl⟩
 obtain ⟨la,ti,done,s6,s7,s8,e1,_,_,_,_,rfl⟩:=rest
 have e2:done=d.go d.last d.time ns:=by
  have:done++[]=d.go d.last d.time ns:=e1
  rwa [List.append_nil] at this
 subst e2
 exact u5 (Zw (by show some (j6 (ns.map Cl.name))=_;rw [en]) e') rfl
end
section
variable {C:Addr}{d:Dr}
theorem MZ (cs:List Cl):vh (keysOf cs)=some (cs.map Cl.name):=by
 induction cs with
 | nil=>rfl
 | cons c cs ih =>
  show (vh (keysOf cs)).map (c.name::·)=_
  rw [ih];rfl
theorem BF (ss:List Str):jT (j6 ss)=some ss:=by
 induction ss with
 | nil=>rfl
 | cons s ss ih =>
  show (jT (j6 ss)).map (s::·)=_
  rw [ih];rfl
theorem Vx (ok:d.Ok):vX C [d.ob C]=some (.lst (j6 (zW d.names))):=by
 refine wO rfl (p9 (j4 (v5 (xR rfl rfl) rfl) ?_))
 show (vh (keysOf d.cls)).bind _=_
 rw [MZ,Option.bind_some,if_pos (by rw [List.length_map];have:=ok.ten;omega)]
 rfl
theorem Bu {ss:List Str}(h:ss.Nodup):∀ i,i<=ss.length->m9 (fun i=>(Sum.inr (ss.getD i ⟨#[]⟩):z8)) i=(ss.take i).map Sum.inr
 | 0,_=>rfl
 | i + 1,hi=>by
  have ih:=Bu h i (by omega)
  have hl:i < ss.length:=by omega
  have eg:ss.getD i ⟨#[]⟩=ss[i]:=qh hl
  have hn:ss[i] ∉ ss.take i:=fun z=>by
   have e:ss=ss.take i++ss[i]::ss.drop (i + 1):=by rw [<- List.drop_eq_getElem_cons hl,List.take_append_drop]
   rw [e] at h
   exact (List.nodup_append.mp h).2.2 _ z _ List.mem_cons_self rfl
  unfold m9
  rw [ih,eg,if_neg (fun z=>hn (by
   obtain ⟨y,hy,e⟩:=List.mem_map.mp z
   injection e with e
   rw [<- e];exact hy)),List.take_add_one,List.getElem?_eq_getElem hl,List.map_append]
  rfl
theorem Lq {ss:List Str}(h:ss.Nodup):Xk ss=ss.length:=by
 unfold Xk
 rw [Bu h _ (Nat.le_refl _),List.length_map,List.take_length]
theorem Vu (ok:d.Ok){ns:List Cl}(L:Lst d ns):zQ C [d.ob C,p7 ns]=some (.at (.bl true)):=by
 have hlim:lim=1000000:=rfl
 have l10:=L.len ok
 have en:j6 (ns.map Cl.name)=(ns.map Cl.name).map fun s=>PV.at (.str s):=rfl
 refine qO rfl (u5 (m4 (qN (qV (j4 rfl QQ))) qc) (u5 (qg (xF rfl (by decide) rfl (Vx ok))) (p9 (jF (j4 (v5 (xp (fun s:Str=>PV.at (.str s)) (fun _=>PV.at (.bl true)) (ns.map Cl.name) rfl rfl (by rw [List.length_map];omega) fun s hs=>⟨_,rfl,w6 rfl rfl ((wR false s _).trans ?_)⟩) rfl) (Qz _)) (w6 (y:= .at (.int (ns.length:Int))) (x:= .at (.int (ns.length:Int))) ?_ ?_ (Kv rfl))))))
 ·obtain ⟨c,hc,rfl⟩:=List.mem_map.mp hs
  have:c.name ∈ zW d.names:=(Vq d.names).mem_iff.mpr (List.mem_map.mpr ⟨c,L.sub c hc,rfl⟩)
  simp [this]
 ·show (jT (j6 (ns.map Cl.name))).bind _=_
  rw [BF,Option.bind_some,if_pos (by rw [List.length_map];omega),Lq L.nd,List.length_map]
 ·refine j4 rfl ?_
  show some (PV.at (.int ((j6 (ns.map Cl.name)).length:Int)))=_
  rw [qS,List.length_map]
theorem Wo {ns:List Cl}:∀ {l t:Int},∀ r ∈ d.go l t ns,r.1 ∈ ns:=by
 induction ns with
 | nil=>intro l t r h;cases h
 | cons c cs ih =>
  intro l t r h
  rcases List.mem_cons.mp h with rfl | h
  ·exact List.mem_cons_self
  ·exact List.mem_cons_of_mem _ (ih r h)
theorem QN {ns:List Cl}:∀ {l t:Int},(d.go l t ns).length=ns.length:=by
 induction ns with
 | nil=>intro l t;rfl
 | cons c cs ih=>intro l t;show (d.go _ _ cs).length + 1=_;rw [ih];rfl
theorem Vw (ok:d.Ok){ns:List Cl}(L:Lst d ns):zA C [d.ob C,p7 ns]=some (.lst ((d.go d.last d.time ns).map rwP)):=Sn ok L (Vu ok L)
def edP (r:Cl × Int × Int):PV:= .tup [r.1.pv,.at (.int r.2.2)]
theorem Yo (ok:d.Ok){ns:List Cl}(L:Lst d ns):jL C [d.ob C,p7 ns]=some (.lst ((d.go d.last d.time ns).map edP)):=by
 have hlim:lim=1000000:=rfl
 have l10:=L.len ok
 exact Wg rfl (p9 (xp rwP edP (d.go d.last d.time ns) (vR (j4 rfl (Vw ok L))) rfl (by rw [QN];omega) fun r hr=>⟨_,rfl,vS (v5 (xF rfl (by decide) rfl (Vv ok (L.sub _ (Wo r hr)))) (v5 rfl rfl)) (by first | decide | (show 1<=lim;decide) | (show 2<=lim;decide) | (show 3<=lim;decide))⟩))
theorem Sw (c:Cl)(e:Int):vk [c.pv,.at (.int e)]=some (.at (.int (e - c.due))):=rfl
def ZG (r:Cl × Int × Int):Int:=r.2.2 - r.1.due
theorem Sx (ok:d.Ok){ns:List Cl}(L:Lst d ns):Xf C [d.ob C,p7 ns]=some (.lst (((d.go d.last d.time ns).filter fun r=>decide (0 < ZG r)).map fun r=>PV.at (.str r.1.name))):=by
 have hlim:lim=1000000:=rfl
 have l10:=L.len ok
 exact Wg rfl (p9 (Wb rwP (fun r=>PV.at (.str r.1.name)) (fun r=>decide (0 < ZG r)) (d.go d.last d.time ns) (vR (j4 rfl (Vw ok L))) rfl (by rw [QN];omega) fun r hr=>⟨_,rfl,w4 (w6 (j4 (v5 (xF rfl (by decide) rfl (Vv ok (L.sub _ (Wo r hr)))) (v5 rfl rfl)) rfl) rfl rfl),fun _=>rfl⟩))
theorem Sr (c:Cl)(e:Int):ZO [c.pv,.at (.int e),.at .non]=some (.at (.bl true)):=qO rfl (p9 (DG (w6 rfl rfl rfl)))
theorem Sv (ok:d.Ok){ns:List Cl}(L:Lst d ns):Xe C [d.ob C,p7 ns,.at .non]=some (.at (.bl true)):=by
 have hlim:lim=1000000:=rfl
 have l10:=L.len ok
 exact xM rfl (p9 (j4 (v5 (xp edP (fun _=>PV.at (.bl true)) (d.go d.last d.time ns) (vR (j4 rfl (Yo ok L))) rfl (by rw [QN];omega) fun r _=>⟨_,rfl,j4 rfl (Sr _ _)⟩) rfl) (Qz _)))
end
section
variable {C:Addr}{d:Dr}
theorem Bq (ok:d.Ok){f:Int}{g:Nat}(f0:-1<=f)(f1:f < (d.h:Int))(hg:g < d.h):0<=d.rz f g/\d.rz f g<=j8:=by
 unfold Dr.rz
 split
 ·exact ⟨Int.le_refl _,Int.le_of_lt jv⟩
 ·have G:xB d.h d.low:=Wx ok.rin
  have main:∀ n:Nat,n<=d.h->0<=rin d.low (n:Int) (g:Int)/\rin d.low (n:Int) (g:Int)<=j8:=by
   intro n hn
   have hl:n < d.low.length:=by rw [show d.low.length=d.h + 1 from G.len];omega
   have hgl:g < d.low[n].length:=by rw [(G.row _ (List.getElem_mem hl)).1];exact hg
   rw [XH G hn hg,qh hl,qh hgl]
   have:=(G.row _ (List.getElem_mem hl)).2 _ (List.getElem_mem hgl)
   have hB:j8=10 ^ 30:=rfl
   omega
  by_cases hf:f=-1
  ·rw [hf,Bl G.len];exact main d.h (Nat.le_refl _)
  ·obtain ⟨n,rfl⟩:=Int.eq_ofNat_of_zero_le (show 0<=f by omega)
   exact main n (by omega)
theorem GO (ok:d.Ok):∀ {ns:List Cl} {l t:Int},(∀ c ∈ ns,c ∈ d.cls)->-1<=l->l < (d.h:Int)->0<=t->∀ r ∈ d.go l t ns,0<=r.2.2/\r.2.2<=t + 2 * j8 * ns.length
 | [],_,_,_,_,_,_,_,h=>nomatch h
 | c::cs,l,t,hs,l1,l2,t0,r,h=>by
  have hk:=ok.cl c (hs c List.mem_cons_self)
  have z:=Bq ok l1 l2 hk.hu
  have a1:=hk.l1
  have a2:=hk.l2
  have hB:=jv
  have e:2 * j8 * ((c::cs).length:Int)=2 * j8 * (cs.length:Int) + 2 * j8:=by
   rw [List.length_cons];push_cast;rw [Int.mul_add,Int.mul_one]
  have nn:0<=2 * j8 * (cs.length:Int):=Int.mul_nonneg (by omega) (by omega)
  rcases List.mem_cons.mp h with rfl | h
  ·show 0<=t + d.rz l c.hue + c.len/\t + d.rz l c.hue + c.len<=_
   rw [e]
   omega
  ·have ih:=GO ok (ns:=cs) (l:=(c.hue:Int)) (t:=t + d.rz l c.hue + c.len) (fun x hx=>hs x (List.mem_cons_of_mem _ hx)) (by omega) (by have:=hk.hu;omega) (by omega) r h
   rw [e]
   omega
theorem Gc {n:Int}(h0:0<=n)(h1:n<=100 * j8):Builtin.Int.intBits n<=2 ^ 20:=by
 obtain ⟨m,rfl⟩:=Int.eq_ofNat_of_zero_le h0
 have q:(100 * j8).toNat < 2 ^ 120:=by decide +kernel
 exact Nat.le_trans (PyProof.Rows.intBits_le (k:=120) (by rw [Int.natAbs_natCast];omega)) (by decide)
theorem LE {a b:Int}(a0:0<=a)(a1:a<=100 * j8)(b0:0<=b)(b1:b<=100 * j8):pMul (.at (.int a)) (.at (.int b))=some (.at (.int (a * b))):=by
 show (if wC a b then some (V.int (a * b)) else none).map PV.at=_
 rw [if_pos ⟨Gc a0 a1,Gc b0 b1⟩];rfl
def CW (rs:List (Cl × Int × Int)):Int:=(rs.map fun r=>r.1.wt * r.2.2).sum
theorem Dw (ok:d.Ok){ns:List Cl}(L:Lst d ns){r:Cl × Int × Int}(hr:r ∈ d.go d.last d.time ns):0<=r.2.2/\r.2.2<=100 * j8:=by
 have q:=GO ok L.sub ok.l1 ok.l2 ok.t1 r hr
 have l10:=L.len ok
 have t2:=ok.t2
 have:2 * j8 * (ns.length:Int)<=2 * j8 * 10:=Int.mul_le_mul_of_nonneg_left (by omega) (by have:=jv;omega)
 omega
theorem Sm (ok:d.Ok){ns:List Cl}(L:Lst d ns):QZ C [d.ob C,p7 ns]=some (.at (.int (CW (d.go d.last d.time ns)))):=by
 have hlim:lim=1000000:=rfl
 have l10:=L.len ok
 refine xM rfl (p9 (j4 (v5 (xp edP (fun r=>PV.at (.int (r.1.wt * r.2.2))) (d.go d.last d.time ns) (vR (j4 rfl (Yo ok L))) rfl (by rw [QN];omega) fun r hr=>⟨_,rfl,w6 (j4 rfl rfl) rfl ?_⟩) rfl) ?_))
 ·have hk:=ok.cl r.1 (L.sub _ (Wo r hr))
  have q:=Dw ok L hr
  have w1:=hk.w1
  have w2:=hk.w2
  have:=jv
  exact LE (by omega) (by omega) q.1 q.2
 ·have e:((d.go d.last d.time ns).map fun r=>PV.at (.int (r.1.wt * r.2.2)))=((d.go d.last d.time ns).map fun r=>r.1.wt * r.2.2).map fun b=>PV.at (.int b):=by rw [List.map_map];rfl
  rw [e,TN];rfl
def Kd (rs:List (Cl × Int × Int)):List Int:=rs.map ZG
def topP (l:List Int):PV:=if l=[] then .at .non else .at (.int (wb l))
theorem Ls {a:M}{ε:ME}{l:List Int}(h:a ε=some (.lst (l.map zN))):Zq a ε=some (topP l):=by
 unfold Zq topP
 rw [h,Option.bind_some]
 show (jk (l.map fun b=>PV.at (.int b))).bind _=_
 rw [Wt,Option.bind_some]
 split <;> rfl
theorem DU (ok:d.Ok){ns:List Cl}(L:Lst d ns):(d.go d.last d.time ns).length<=lim:=by
 have hlim:lim=1000000:=rfl
 have l10:=L.len ok
 rw [QN];omega
theorem Sy (ok:d.Ok){ns:List Cl}(L:Lst d ns):Xg C [d.ob C,p7 ns]=some (topP (Kd (d.go d.last d.time ns))):=by
 refine xM rfl (p9 (Ls ((xp edP (fun r=>zN (ZG r)) (d.go d.last d.time ns) (vR (j4 rfl (Yo ok L))) rfl (DU ok L) fun r hr=>⟨_,rfl,j4 rfl (Sw _ _)⟩).trans ?_)))
 unfold Kd
 rw [List.map_map];rfl
end
section
variable {C:Addr}{d:Dr}
theorem QL {f:Str}{a:M}{ε:ME}{y:PV}{ns:List Str}{xs:List PV}(h1:a ε=some y)(h0:ε[0]?=some (.ow (.ob C ns xs)))(hf:f ∉ ns)(hl:ns.length < 1000):ji C f a ε=some (.nx (ε.set 0 (.ow (.ob C (ns++[f]) (xs++[y]))))):=by
 unfold ji
 rw [h1,Option.bind_some,h0]
 exact if_pos ⟨rfl,hf,hl⟩
theorem GK {nm:Str}{m:List PV->Option PV}{i:Nat}{as:MA}{ε:ME}{ns:List Str}{fs xs:List PV}{u:V}(h0:ε[i]?=some (.ow (.ob C ns fs)))(hn:nm ∉ ns)(k:as ε=some xs)(e:m (.ob C ns fs::xs)=some (.at u)):wL C nm m i as ε=some (.at u):=by
 unfold wL
 rw [h0]
 show (if C=C/\nm ∉ ns then _ else _)=_
 rw [if_pos ⟨rfl,hn⟩,k,Option.bind_some,e]
 rfl
theorem BT (ok:d.Ok):wY C [.ob C ["least"] [qB d.low]]=some (.at (.int d.h)):=by
 have G:=Wx ok.rin
 refine qO rfl (p9 (w6 (j4 (v5 (xR rfl rfl) rfl) rfl) rfl ?_))
 show some (PV.at (.int (((d.low.map qZ).length:Int) - 1)))=_
 rw [List.length_map,show d.low.length=d.h + 1 from G.len,show ((d.h + 1:Nat):Int) - 1=(d.h:Int) by omega]
theorem KD:∀ cs:List Cl,wn (cs.map fun c=>PV.tup [.at (.str c.name),c.pv])=some (cs.map fun c=>((.inr c.name:z8),c.pv))
 | []=>rfl
 | c::cs=>by
  show Option.bind (some (Sum.inr c.name)) (fun kk=>(wn (cs.map fun c=>PV.tup [.at (.str c.name),c.pv])).map ((kk,c.pv)::·))=_
  rw [Option.bind_some,KD cs]
  rfl
theorem La {cs:List Cl}(h:(cs.map Cl.name).Nodup):(keysOf cs).Nodup:=by
 induction cs with
 | nil=>exact List.nodup_nil
 | cons c cs ih =>
  rw [List.map_cons] at h
  have h':=List.nodup_cons.mp h
  refine List.nodup_cons.mpr ⟨fun z=>?_,ih h'.2⟩
  obtain ⟨y,hy,e⟩:=List.mem_map.mp z
  injection e with e
  exact h'.1 (List.mem_map.mpr ⟨y,hy,e⟩)
theorem Yp (ok:d.Ok):jn C [qB d.rss,.lst (d.cls.map Cl.pv),.at (.int d.last),.at (.int d.time)]=some (d.ob C):=by
 have hlim:lim=1000000:=rfl
 have ten:=ok.ten
 have glen:=ok.rin.len
 have h4:=ok.h4
 have cp:∀ (s0 s2 s3 s4:MSlot),t6 [none] [0] (i7 (x6 1)) (v8 0) i4 (z5 Qf (q9 (z0 0) x8)) [s0,.sh (qB d.rss),s2,s3,s4]=some (qB d.rss):=fun s0 s2 s3 s4 =>
  xp qZ qZ d.rss rfl rfl (by omega) fun r _=>⟨_,rfl,rfl⟩
 have dk:∀ (s0 s1 s3 s4:MSlot),z5 ZY (q9 (t6 [none] [0] (i7 (x6 2)) (v8 0) i4 (xD (q9 (z5 zR (q9 (x6 0) x8)) (q9 (x6 0) x8)))) x8) [s0,s1,.sh (.lst (d.cls.map Cl.pv)),s3,s4]=some (.fk (keysOf d.cls) (d.cls.map Cl.pv)):=fun s0 s1 s3 s4=>by
  refine j4 (v5 (xp Cl.pv (fun c=>PV.tup [.at (.str c.name),c.pv]) d.cls rfl rfl (by omega) fun c _=>⟨_,rfl,vS (v5 (j4 rfl rfl) (v5 rfl rfl)) l2⟩) rfl) ?_
  show (wn (d.cls.map fun c=>PV.tup [.at (.str c.name),c.pv])).bind _=_
  have k1:(d.cls.map fun c=>((.inr c.name:z8),c.pv)).map (·.1)=keysOf d.cls:=by rw [List.map_map];rfl
  have k2:(d.cls.map fun c=>((.inr c.name:z8),c.pv)).map (·.2)=d.cls.map Cl.pv:=by rw [List.map_map];rfl
  rw [KD,Option.bind_some,k1,k2]
  exact if_pos ⟨La ok.nd,by rw [List.length_map];omega⟩
 have run:Zm C [.ow (.ob C [] []),.sh (qB d.rss),.sh (.lst (d.cls.map Cl.pv)),.sh (.at (.int d.last)),.sh (.at (.int d.time))]=some (.nx [.ow (d.ob C),.sh (qB d.rss),.sh (.lst (d.cls.map Cl.pv)),.sh (.at (.int d.last)),.sh (.at (.int d.time))]) :=
  u5 (QL (j4 rfl (Sz ok.rin ok.h1 ok.h4)) rfl (by decide) (by decide)) (u5 (vQ (j4 (v5 rfl (v5 rfl (v5 (GK rfl (by decide) rfl (BT ok)) rfl))) (Sl ok.l1 ok.l2 ok.t1)))
   (u5 (vQ (j4 (v5 rfl (v5 (GK rfl (by decide) rfl (BT ok)) rfl)) (Sj ok.cl ok.nd ok.ten)))
   (u5 (QL (cp _ _ _ _) rfl (by decide) (by decide)) (u5 (QL (dk _ _ _ _) rfl (by decide) (by decide)) (u5 (QL (y:= .at (.int d.last)) (f := "last") (ns:=["least", "given", "held"]) (QK (w4 (v:=false) (w6 rfl rfl rfl)) rfl) rfl (by decide) (by decide)) (QL (y:= .at (.int d.time)) (f := "time") (ns:=["least", "given", "held", "last"]) (xs:=[qB d.low,qB d.rss,.fk (keysOf d.cls) (d.cls.map Cl.pv),.at (.int d.last)]) rfl rfl (by decide) (by decide)))))))
 unfold jn QF
 refine (if_pos rfl).trans ?_
 show (Zm C [.ow (.ob C [] []),.sh (qB d.rss),.sh (.lst (d.cls.map Cl.pv)),.sh (.at (.int d.last)),.sh (.at (.int d.time))]).bind _=_
 rw [run]
 rfl
end
def Dr.endT (d:Dr):Int->Int->List Cl->Int
 | _,t,[]=>t
 | l,t,c::cs=>d.endT (c.hue:Int) (t + d.rz l c.hue + c.len) cs
def butC (cs ns:List Cl):List Cl:=cs.filter fun c=>!decide (c.name ∈ ns.map Cl.name)
section
variable {C:Addr}{d:Dr}
theorem GP:∀ {ns:List Cl} {l t:Int},ns ≠ []->∃ r,(d.go l t ns).getLast?=some r/\r.2.2=d.endT l t ns
 | [],_,_,h=>absurd rfl h
 | [c],l,t,_=>⟨_,rfl,rfl⟩
 | c::c2::cs,l,t,_=>by
  obtain ⟨r,e1,e2⟩:=GP (ns:=c2::cs) (l:=(c.hue:Int)) (t:=t + d.rz l c.hue + c.len) (fun z=>nomatch z)
  refine ⟨r,?_,e2⟩
  show ((c,t + d.rz l c.hue,t + d.rz l c.hue + c.len)::d.go c.hue (t + d.rz l c.hue + c.len) (c2::cs)).getLast?=_
  rw [List.getLast?_cons,e1]
  rfl
theorem YM {α:Type}{xs:List α}{x:α}(h:xs.getLast?=some x):atI xs (-1)=some x:=by
 have hl:xs ≠ []:=fun z=>by rw [z] at h;cases h
 have hp:0 < xs.length:=List.length_pos_iff.mpr hl
 rw [List.getLast?_eq_getElem?] at h
 unfold atI qW
 rw [if_neg (by decide),if_pos (by omega)]
 show xs[((-1:Int) + (xs.length:Int)).toNat]?=_
 rw [show ((-1:Int) + (xs.length:Int)).toNat=xs.length - 1 by omega]
 exact h
theorem BS (ok:d.Ok){ns:List Cl}(L:Lst d ns):wa C [d.ob C,p7 ns]=some (.at (.int (d.endT d.last d.time ns))):=by
 refine xM rfl (u5 (qg (j4 rfl (Vw ok L))) (p9 ?_))
 by_cases h:ns=[]
 ·subst h
  exact QK rfl (w6 (xF rfl (by decide) rfl BY) rfl rfl)
 ·obtain ⟨r,e1,e2⟩:=GP (d:=d) (l:=d.last) (t:=d.time) h
  have ne:d.go d.last d.time ns ≠ []:=fun z=>by rw [z] at e1;cases e1
  refine Zx ?_ (w6 (w6 rfl rfl (YM (x:=rwP r) ?_)) rfl ?_)
  ·show some (!((d.go d.last d.time ns).map rwP).isEmpty)=_
   cases hg:d.go d.last d.time ns with
   | nil=>exact absurd hg ne
   | cons x xs=>rfl
  ·rw [List.getLast?_map,e1]
   rfl
  ·rw [<- e2]
   rfl
theorem DE {a:M}{ε:ME}{ks:List z8}{xs:List PV}(h:a ε=some (.fk ks xs)):dItV a ε=some xs:=by unfold dItV;rw [h];rfl
theorem v_but (ok:d.Ok){ns:List Cl}:QX C [d.ob C,p7 ns]=some (.lst ((butC d.cls ns).map Cl.pv)):=by
 have hlim:lim=1000000:=rfl
 have ten:=ok.ten
 refine wO rfl (p9 (Wb Cl.pv Cl.pv (fun c=>!decide (c.name ∈ ns.map Cl.name)) d.cls (DE (xR rfl rfl)) rfl (by omega) fun c hc=>⟨_,rfl,w4 (w6 (j4 rfl rfl) rfl (wR true c.name _)),fun _=>rfl⟩))
theorem Lst.part {ns ms:List Cl}(L:Lst d ns)(h:ms.Sublist ns):Lst d ms:=⟨fun c hc=>L.sub c (h.subset hc),L.nd.sublist (h.map _)⟩
end
def wU:Int->List Cl->Int
 | l,[]=>l
 | _,c::cs=>wU (c.hue:Int) cs
def Dr.begun (d:Dr)(ns:List Cl):Dr:=⟨d.h,d.rss,butC d.cls ns,wU d.last ns,d.endT d.last d.time ns⟩
section
variable {C:Addr}{d:Dr}
theorem Kb:∀ (ns:List Cl) (l:Int),-1<=l->l < (d.h:Int)->(∀ c ∈ ns,c.Ok d.h)->-1<=wU l ns/\wU l ns < (d.h:Int)
 | [],_,h1,h2,_=>⟨h1,h2⟩
 | c::cs,l,h1,h2,h3=>Kb cs (c.hue:Int) (by omega) (by have:=(h3 c List.mem_cons_self).hu;omega) fun x hx=>h3 x (List.mem_cons_of_mem _ hx)
theorem GB (ok:d.Ok):∀ (ns:List Cl) (l t:Int),-1<=l->l < (d.h:Int)->(∀ c ∈ ns,c.Ok d.h)->0<=t->0<=d.endT l t ns/\d.endT l t ns<=t + 2 * j8 * ns.length
 | [],_,t,_,_,_,h=>⟨h,by show t<=t + 2 * j8 * ((0:Nat):Int);omega⟩
 | c::cs,l,t,h1,h2,h3,h=>by
  have hk:=h3 c List.mem_cons_self
  have z:=Bq ok h1 h2 hk.hu
  have a1:=hk.l1
  have a2:=hk.l2
  have e:2 * j8 * ((c::cs).length:Int)=2 * j8 * (cs.length:Int) + 2 * j8:=by
   rw [List.length_cons];push_cast;rw [Int.mul_add,Int.mul_one]
  have q:=GB ok cs (c.hue:Int) (t + d.rz l c.hue + c.len) (by omega) (by have:=hk.hu;omega) (fun x hx=>h3 x (List.mem_cons_of_mem _ hx)) (by omega)
  show 0<=d.endT (c.hue:Int) (t + d.rz l c.hue + c.len) cs/\d.endT (c.hue:Int) (t + d.rz l c.hue + c.len) cs<=_
  rw [e]
  omega
theorem Nc (ok:d.Ok)(ht:d.time < 40 * j8){ns:List Cl}(L:Lst d ns):(d.begun ns).Ok/\(d.begun ns).time<=d.time + 20 * j8:=by
 have hc:∀ c ∈ ns,c.Ok d.h:=fun c h=>ok.cl c (L.sub c h)
 have l:=Kb (d:=d) ns d.last ok.l1 ok.l2 hc
 have e:=GB ok ns d.last d.time ok.l1 ok.l2 hc ok.t1
 have l10:=L.len ok
 have q:2 * j8 * (ns.length:Int)<=2 * j8 * 10:=Int.mul_le_mul_of_nonneg_left (by omega) (by have:=jv;omega)
 refine ⟨⟨ok.h1,ok.h4,ok.rin,Nat.le_trans (List.length_filter_le _ _) ok.ten,fun c h=>ok.cl c (List.mem_filter.mp h).1,ok.nd.sublist (List.filter_sublist.map _),l.1,l.2,e.1,?_⟩,?_⟩
 ·show d.endT d.last d.time ns < 60 * j8
  omega
 ·show d.endT d.last d.time ns<=_
  omega
theorem Kc:∀ {ns:List Cl} {l:Int} {c:Cl},ns.getLast?=some c->wU l ns=(c.hue:Int)
 | [],_,_,h=>by cases h
 | [x],_,c,h=>by
  have e:x=c:=by simpa using h
  subst e
  rfl
 | x::y::cs,l,c,h=>Kc (ns:=y::cs) (l:=(x.hue:Int)) (by rw [List.getLast?_cons_cons] at h;exact h)
theorem Si (ok:d.Ok)(ht:d.time < 40 * j8){ns:List Cl}(L:Lst d ns):QW C [d.ob C,p7 ns]=some ((d.begun ns).ob C):=by
 have okb:=(Nc ok ht L).1
 refine xM rfl (u5 (qg (j4 rfl (BS ok L))) (u5 (qg (x:= .at (.int (wU d.last ns))) ?_) (p9 (j4 (v5 (xR rfl rfl) (v5 (xF rfl (by decide) rfl (v_but ok)) rfl)) (Yp okb)))))
 by_cases h:ns=[]
 ·subst h
  exact QK rfl (xR rfl rfl)
 ·obtain ⟨c,e⟩:∃ c,ns.getLast?=some c:=⟨_,List.getLast?_eq_some_getLast h⟩
  have hc:c ∈ ns:=List.mem_of_getLast? e
  rw [Kc e]
  refine Zx ?_ (j4 (v5 (We (xR rfl rfl) (w6 rfl rfl (YM (x:= .at (.str c.name)) ?_)) rfl (ZI Cl.pv ok.nd c (L.sub c hc))) rfl) rfl)
  ·show some (!(j6 (ns.map Cl.name)).isEmpty)=_
   cases ns with
   | nil=>exact absurd rfl h
   | cons x xs=>rfl
  ·unfold j6
   rw [List.getLast?_map,List.getLast?_map,e]
   rfl
end
def Dr.with (d:Dr)(cs:List Cl):Dr:=⟨d.h,d.rss,cs,d.last,d.time⟩
section
variable {C:Addr}{d:Dr}
theorem WE (ok:d.Ok){cs:List Cl}(h10:cs.length<=10)(hc:∀ c ∈ cs,c ∈ d.cls)(nd:(cs.map Cl.name).Nodup):(d.with cs).Ok:=⟨ok.h1,ok.h4,ok.rin,h10,fun c h=>ok.cl c (hc c h),nd,ok.l1,ok.l2,ok.t1,ok.t2⟩
theorem BV (ok:d.Ok){ns:List Cl}(L:Lst d ns):vY C [d.ob C,p7 ns]=some ((d.with ns).ob C):=by
 have hlim:lim=1000000:=rfl
 have l10:=L.len ok
 have okw:(d.with ns).Ok:=WE ok l10 L.sub L.nd
 have cm:t6 [none,some 0] [0] (i7 (x6 1)) (v8 0) i4 (vL (qU C "held" (x6 1)) (z0 0)) [.sh (d.ob C),.sh (p7 ns)]=some (.lst (ns.map Cl.pv)):=by
  refine xp (fun c:Cl=>PV.at (.str c.name)) Cl.pv ns ?_ rfl (by omega) fun c hc=>⟨_,rfl,We (xR rfl rfl) rfl rfl (ZI Cl.pv ok.nd c (L.sub c hc))⟩
  show some (j6 (ns.map Cl.name))=_
  unfold j6
  rw [List.map_map]
  rfl
 exact xM rfl (u5 (vQ (j4 rfl (Yn ok L (Vu ok L)))) (p9 (j4 (v5 (xR rfl rfl) (v5 cm (v5 (xR rfl rfl) (v5 (xR rfl rfl) rfl)))) (Yp okw))))
end
def wv (pre:List (List Cl))(r:List Cl)(p:Cl):List Cl->List (List Cl)
 | []=>pre++[r]
 | c::cs=>if p.hue=c.hue then wv pre (r++[c]) c cs else wv (pre++[r]) [c] c cs
def XL:List Cl->List (List Cl)
 | []=>[]
 | c::cs=>wv [] [c] c cs
def nmD (r:List Cl):DT:= .ls (r.map fun c=> .sh (.at (.str c.name)))
def zh (rs:List (List Cl)):DT:= .ls (rs.map nmD)
theorem GM {cs:List Cl}(nd:(cs.map Cl.name).Nodup){c:Cl}(hc:c ∈ cs):cs.filter (fun x=>decide (x.name=c.name))=[c]:=by
 induction cs with
 | nil=>cases hc
 | cons x cs ih =>
  rw [List.map_cons] at nd
  have nd':=List.nodup_cons.mp nd
  rcases List.mem_cons.mp hc with rfl | hc
  ·rw [List.filter_cons,if_pos (by simp)]
   congr 1
   rw [List.filter_eq_nil_iff]
   intro y hy e
   have e':y.name=c.name:=by simpa using e
   exact nd'.1 (List.mem_map.mpr ⟨y,hy,e'⟩)
  ·rw [List.filter_cons,if_neg (by
    intro e
    have e':x.name=c.name:=by simpa using e
    exact nd'.1 (List.mem_map.mpr ⟨c,hc,e'.symm⟩)),ih nd'.2 hc]
theorem MP {n:Nat}:qW (n + 1) (-1)=some n:=by
 unfold qW
 rw [if_neg (by decide),if_pos (by omega)]
 congr 1
 omega
theorem VQ {P R:List DT}{y:DT}(h:R.length<=lim):DT.chg (zj y) [-1] (.ls (P++[.ls R]))=some (.ls (P++[.ls (R++[y])])):=by
 have e1:DT.chg (zj y) [-1] (.ls (P++[.ls R]))=(qW (P++[DT.ls R]).length (-1)).bind fun k=>((P++[DT.ls R])[k]?).bind fun z=>(DT.chg (zj y) [] z).bind fun z'=>some (.ls ((P++[DT.ls R]).set k z')):=by
  conv=>lhs;unfold DT.chg
 rw [e1,List.length_append,List.length_singleton,MP,Option.bind_some,List.getElem?_append_right (Nat.le_refl _),Nat.sub_self]
 show (DT.chg (zj y) [] (.ls R)).bind _=_
 have e2:DT.chg (zj y) [] (.ls R)=some (.ls (R++[y])):=by
  unfold DT.chg zj
  rw [if_pos h]
  rfl
 rw [e2,Option.bind_some,List.set_append_right _ _ (Nat.le_refl _),Nat.sub_self]
 rfl
theorem CS {P:List DT}{y:DT}(h:P.length<=lim):DT.chg (zj y) [] (.ls P)=some (.ls (P++[y])):=by
 unfold DT.chg zj
 rw [if_pos h]
 rfl
theorem HZ {c c':Cl}(h:c.pv=c'.pv):c=c':=by
 obtain ⟨a1,a2,a3,a4,a5⟩:=c
 obtain ⟨b1,b2,b3,b4,b5⟩:=c'
 injection h with h
 injection h with h1 h
 injection h with h2 h
 injection h with h3 h
 injection h with h4 h
 injection h with h5 h
 injection h1 with h1;injection h1 with h1
 injection h2 with h2;injection h2 with h2
 injection h3 with h3;injection h3 with h3
 injection h4 with h4;injection h4 with h4
 injection h5 with h5;injection h5 with h5
 have h2':a2=b2:=Int.ofNat.inj h2
 subst h1 h2' h3 h4 h5
 rfl
theorem mapI {α β:Type}{f:α->β}(hf:∀ x y,f x=f y->x=y):∀ {xs ys:List α},xs.map f=ys.map f->xs=ys
 | [],[],_=>rfl
 | [],_::_,h=>by cases h
 | _::_,[],h=>by cases h
 | x::xs,y::ys,h=>by
  rw [List.map_cons,List.map_cons] at h
  injection h with h1 h2
  rw [hf x y h1,mapI hf h2]
theorem LF {cs:List Cl}(nd:(cs.map Cl.name).Nodup){c c':Cl}(hc:c ∈ cs)(hc':c' ∈ cs)(h:c.name=c'.name):c=c':=by
 have e1:=GM nd hc
 have e2:=GM nd hc'
 rw [h,e2] at e1
 injection e1 with e1
 exact e1.symm
theorem LK {C:Addr}{d d':Dr}(h:d.ob C=d'.ob C):d.cls=d'.cls:=by
 unfold Dr.ob at h
 injection h with _ _ h
 injection h with _ h
 injection h with _ h
 injection h with h _
 injection h with _ h
 exact mapI (fun _ _=>HZ) h
theorem Kl {d:Dr}(ok:d.Ok):∀ {ns ms:List Cl},(∀ c ∈ ns,c ∈ d.cls)->(∀ c ∈ ms,c ∈ d.cls)->ns.map Cl.name=ms.map Cl.name->ns=ms
 | [],[],_,_,_=>rfl
 | [],_::_,_,_,h=>by cases h
 | _::_,[],_,_,h=>by cases h
 | a::ns,b::ms,h1,h2,h=>by
  rw [List.map_cons,List.map_cons] at h
  injection h with e1 e2
  rw [LF ok.nd (h1 a List.mem_cons_self) (h2 b List.mem_cons_self) e1,Kl ok (fun c hc=>h1 c (List.mem_cons_of_mem _ hc)) (fun c hc=>h2 c (List.mem_cons_of_mem _ hc)) e2]
def YF (C:Addr)(xs:List PV)(y:DT):Prop:=∃ (d:Dr) (ns:List Cl),d.Ok/\Lst d ns/\xs=[d.ob C,p7 ns]/\y=zh (XL ns)
open Classical in
noncomputable def jI (C:Addr):List PV->Option DT:=fun xs=>if h:∃ y,YF C xs y then some h.choose else none
theorem SE {C:Addr}{d:Dr}{ns:List Cl}(ok:d.Ok)(L:Lst d ns):jI C [d.ob C,p7 ns]=some (zh (XL ns)):=by
 have h:∃ y,YF C [d.ob C,p7 ns] y:=⟨_,d,ns,ok,L,rfl,rfl⟩
 unfold jI
 rw [dif_pos h]
 obtain ⟨d',ns',ok',L',e,ey⟩:=h.choose_spec
 rw [ey]
 injection e with e1 e2
 injection e2 with e2 _
 have ec:=LK e1
 have en:=Vr (by injection e2:j6 (ns.map Cl.name)=j6 (ns'.map Cl.name))
 rw [Kl ok L.sub (fun c hc=>by rw [ec];exact L'.sub c hc) en]
def Sh1 (s:MSlot):Prop:=s = .no ∨ ∃ x,s = .sh x
theorem jC:AllSh []:=fun i s h=>by simp at h
theorem u7 {s:MSlot}{ε:ME}(h1:Sh1 s)(h:AllSh ε):AllSh (s::ε):=fun i t q=>by
 cases i with
 | zero=>simp at q;subst q;exact h1
 | succ i=>exact h i t (by simpa using q)
theorem xO:Sh1 .no:= .inl rfl
theorem m5 {x:PV}:Sh1 (.sh x):= .inr ⟨x,rfl⟩
theorem Ro {Hs H:Hp}{x y:PV}{vs:List V}(h:RepsM Hs H [false,false] [x,y] vs):Reps Hs [x,y] vs:=by
 obtain ⟨x1,xr,v1,vr,e1,rfl,p1,h1⟩:=h
 obtain ⟨x2,xr2,v2,vr2,e2,rfl,p2,h2⟩:=h1
 obtain ⟨e3,rfl⟩:=h2
 cases e1
 cases e2
 exact .cons p1 (.cons p2 .nil)
abbrev Vf:Stmt:=y7 36
theorem sc_runs_of:v9 ["works", "names", "runs", "last", "name", "hue"] ["works", "names"] (j5 Vf):=⟨rfl,rfl,rfl,by decide +kernel,rfl,by decide +kernel,by decide +kernel⟩
def Ze (CP C:Addr):List PV->Addr->Prop:=xV 6 [false,false] (xX (qI (ju CP C) (q9 (x6 0) (q9 (x6 1) x8))))
noncomputable abbrev Ll (C:Addr):List PV->Option PV:=fun xs=>(jI C xs).map DT.pv
theorem DY {CP C:Addr}{vs:List V}{H:Hp}{Q:VK}{E:XK}(h:Qo [false,false] (jI C) (Ze CP C) vs H Q E):vs.length=2:=by
 obtain ⟨Hs,xs,_,r,_⟩:=h
 exact r.length.2
theorem NR {Ab:Addr}{Aa:Addr}(F:Fun K "runs_of" "runs_of" Vf f fd) (Al:Fx P w K mg base 3 "check_names" ["works", "names"] (n9 [false,false] (jK Aa) (ju Ab Aa))) (Ao:Fn P w K mg base 1 "hue_of" ["cloth"] (v4 ze)) (Af:Mt P w K mg base 1 Aa "cloth" ["self", "name"] (v4 (zo Aa))):FnOk P w K mg base (o6 P w) 4 f fd ["works", "names"] (Qo [false,false] (jI Aa) (Ze Ab Aa)):=by
 refine F.ok1 (k:=3) sc_runs_of (fun vs H Q E h=>DY h) (fun cdv A outer s H vs Q E hr h=>⟨_,(@j7 _ _ _ _ _ (zE (xq Al hr (by decide) xk rfl (@x0 _ _ _ _ _ (pv 0) (@x0 _ _ _ _ _ (pv 1) x9 (by rfl)) (by rfl))))
  (@j7 _ _ _ _ _ (@y6 _ _ 2 _ _ _ _ sc_runs_of.nd rfl (Or.inl rfl) (@qA _ _ _ _ x9) (by rfl) (.inl rfl))
  (@j7 _ _ _ _ _ (@y6 _ _ 3 _ _ _ _ sc_runs_of.nd rfl (Or.inl rfl) Qi (by rfl) (.inl rfl))
  (@j7 _ _ _ _ _ (PS.nox (zV PassesOwn.never rfl (@qK _ K _ _ _ rfl (pv 1)) (u9 (i:=4) sc_runs_of.nd rfl (Or.inl rfl))
   (@j7 _ _ _ _ _ (@y6 _ _ 5 _ _ _ _ sc_runs_of.nd rfl (Or.inl rfl) (v3 Ao hr (by decide) rfl (@x0 _ _ _ _ _ (wj Af hr (by decide) (pv 0) (@x0 _ _ _ _ _ (pv 4) x9 (by rfl))) x9 (by rfl))) (by rfl) (.inl rfl))
  (@j7 _ _ _ _ _ (n8 (t9 (jN (K:=K) (qF hr) rfl) (pv 5) (pv 3) (m3 _)) (@z9 _ _ _ (zE (Qg (K:=K) rfl PySem.F.plainAttrs_list PySem.F.slot_list_append PySem.F.type_list_append Xn (pv 2) (x0 (@qA _ _ _ _ x9) x9)))) o4)
  (@j7 _ _ _ _ _ (zE (Qg (K:=K) rfl PySem.F.plainAttrs_list PySem.F.slot_list_append PySem.F.type_list_append Xn (i5 (o9 (K:=K) rfl) (pv 2) (wm wz z7) (fun _ _=>rfl)) (x0 (pv 4) x9)))
  (@z9 _ _ _ (@y6 _ _ 3 _ _ _ _ sc_runs_of.nd rfl (Or.inl rfl) (pv 5) (by rfl) (.inl rfl))))))))
  (@z9 _ _ _ (w9 (pv 2))))))),?_⟩)
 have hlim:lim=1000000:=rfl
 obtain ⟨Hs,xs,sm,r,h⟩:=h
 rcases h with ⟨y,e,q⟩ | ⟨c,z,q⟩
 rotate_left
 ·exact SM (E:=E) (f:=qI (ju Ab Aa) (q9 (x6 0) (q9 (x6 1) x8))) (XJ (N:=["works", "names", "runs", "last", "name", "hue"]) sm r) z.2 q
 unfold jI at e
 split at e
 rotate_left
 ·cases e
 rename_i hex
 injection e with e
 obtain ⟨d,ns,ok,L,rfl,ey⟩:=hex.choose_spec
 rw [e] at ey
 subst ey
 have l10:=L.len ok
 have rs:=wu (N:=["works", "names", "runs", "last", "name", "hue"]) sm (Ro r)
 refine sq_S (fr:=false) (b:=xZ (z5 (jK Aa) (q9 (x6 0) (q9 (x6 1) x8)))) rs (vQ (j4 rfl (Yn ok L (Vu ok L)))) fun Hs1 H1 σ1 r1=>?_
 refine TF (f:=i8 x8) (j:=2) (ys:=[]) r1 (u7 m5 (u7 m5 (u7 xO (u7 xO (u7 xO (u7 xO jC)))))) (by show 2 < 6;decide) (xE rfl l0) fun Hs2 H2 σ2 r2=>?_
 refine Yd (fr:=false) (b:=m6 3 (dC .non)) (ε':=[.sh (d.ob Aa),.sh (p7 ns),.no,.sh (.at .non),.no,.no]) r2 (fun a=>rfl) (u7 m5 (u7 m5 (u7 xO (u7 m5 (u7 xO (u7 xO jC)))))) (by show 2 < 6;decide) fun Hs3 H3 σ3 r3=>?_
 refine TD (it:=i7 (x6 1)) (g:=v8 4) (fun c:Cl=>PV.at (.str c.name)) ns (fun l ε x=>∃ s4 s5:MSlot,Sh1 s4/\Sh1 s5/\(∀ c ∈ l,c ∈ ns)/\((l=ns/\x=zh []/\ε=[.sh (d.ob Aa),.sh (p7 ns),.no,.sh (.at .non),s4,s5]) ∨
   ∃ (pre:List (List Cl)) (g:List Cl) (p:Cl),x=zh (pre++[g])/\wv pre g p l=XL ns/\1<=g.length/\pre.length + g.length + l.length<=ns.length/\ε=[.sh (d.ob Aa),.sh (p7 ns),.no,.sh (.at (.int (p.hue:Int))),s4,s5])) r3 (fun a=>?_) ⟨.no,.no,xO,xO,fun c h=>h,.inl ⟨rfl,rfl,rfl⟩⟩ ?_ ?_
 ·show some (j6 (ns.map Cl.name))=_
  unfold j6
  rw [List.map_map];rfl
 ·rintro c l ε x ⟨s4,s5,h4,h5,sub,cas⟩
  have hc:=L.sub c (sub c List.mem_cons_self)
  have sub':∀ c ∈ l,c ∈ ns:=fun y hy=>sub y (List.mem_cons_of_mem _ hy)
  have vc:=Vv (C:=Aa) ok hc
  rcases cas with ⟨el,rfl,rfl⟩ | ⟨pre,g,p,rfl,erun,hg1,hlen,rfl⟩
  ·refine ⟨[.sh (d.ob Aa),.sh (p7 ns),.no,.sh (.at .non),.sh (.at (.str c.name)),s5],fun a=>rfl,u7 m5 (u7 m5 (u7 xO (u7 m5 (u7 m5 (u7 h5 jC))))),by show 2 < 6;decide,fun Hb Hs H σ D rx k=>?_⟩
   refine Yd (fr:=false) (b:=m6 5 (z5 ze (q9 (qE Aa "cloth" (zo Aa) (x6 0) (q9 (x6 4) x8)) x8))) (ε':=[.sh (d.ob Aa),.sh (p7 ns),.no,.sh (.at .non),.sh (.at (.str c.name)),.sh (.at (.int (c.hue:Int)))]) rx (fun a=>qg (j4 (v5 (xF rfl (by decide) rfl vc) rfl) rfl)) (u7 m5 (u7 m5 (u7 xO (u7 m5 (u7 m5 (u7 m5 jC)))))) (by show 2 < 6;decide) fun Hs4 H4 σ4 r4=>?_
   refine BC (c:=dT (z6 qX (z0 5) (z0 3))) (k:=true) r4 (w4 (w6 rfl rfl rfl)) (fun _ H5 r5=>?_) (fun z=>nomatch z)
   refine BB (f:=i8 x8) (ys0:=[]) r5 (fun a=>xE rfl l0) (x':=zh [[]]) rfl fun Hs6 H6 r6=>?_
   refine Yc (f:=x6 4) (y:= .at (.str c.name)) r6 (fun a=>rfl) (x':=zh [[c]]) (VQ (P:=[]) (R:=[]) l0) fun Hs7 H7 r7=>?_
   refine Zs (fr:=false) (b:=m6 3 (x6 5)) (ε':=[.sh (d.ob Aa),.sh (p7 ns),.no,.sh (.at (.int (c.hue:Int))),.sh (.at (.str c.name)),.sh (.at (.int (c.hue:Int)))]) r7 (fun a=>rfl) (u7 m5 (u7 m5 (u7 xO (u7 m5 (u7 m5 (u7 m5 jC)))))) (by show 2 < 6;decide) fun Hs8 H8 σ8 r8=>?_
   refine k _ _ _ _ _ ⟨_,_,m5,m5,sub',.inr ⟨[],[c],c,rfl,?_,Nat.le_refl _,?_,rfl⟩⟩ r8
   ·rw [<- el];rfl
   ·rw [<- el];simp;omega
  ·simp only [List.length_cons] at hlen
   refine ⟨[.sh (d.ob Aa),.sh (p7 ns),.no,.sh (.at (.int (p.hue:Int))),.sh (.at (.str c.name)),s5],fun a=>rfl,u7 m5 (u7 m5 (u7 xO (u7 m5 (u7 m5 (u7 h5 jC))))),by show 2 < 6;decide,fun Hb Hs H σ D rx k=>?_⟩
   refine Yd (fr:=false) (b:=m6 5 (z5 ze (q9 (qE Aa "cloth" (zo Aa) (x6 0) (q9 (x6 4) x8)) x8))) (ε':=[.sh (d.ob Aa),.sh (p7 ns),.no,.sh (.at (.int (p.hue:Int))),.sh (.at (.str c.name)),.sh (.at (.int (c.hue:Int)))]) rx (fun a=>qg (j4 (v5 (xF rfl (by decide) rfl vc) rfl) rfl)) (u7 m5 (u7 m5 (u7 xO (u7 m5 (u7 m5 (u7 m5 jC)))))) (by show 2 < 6;decide) fun Hs4 H4 σ4 r4=>?_
   have fin:∀ (pre':List (List Cl)) (g':List Cl),wv pre' (g'++[c]) c l=XL ns->g'.length<=lim->pre'.length + (g'.length + 1) + l.length<=ns.length->∀ (Hs5 H5:Hp),RX 2 Hb H Hs5 H5 σ4 [.sh (d.ob Aa),.sh (p7 ns),.no,.sh (.at (.int (p.hue:Int))),.sh (.at (.str c.name)),.sh (.at (.int (c.hue:Int)))] (zh (pre'++[g']))->True:=fun _ _ _ _ _ _ _ _=>trivial
   by_cases hh:p.hue=c.hue
   ·refine GA (c:=dT (z6 qX (z0 5) (z0 3))) (k:=false) r4 (w4 (w6 rfl rfl ((Ko _ _).trans (by rw [hh,decide_eq_true rfl];rfl)))) (fun z=>nomatch z) (fun _ H5 r5=>TH ?_)
    refine Yc (f:=x6 4) (y:= .at (.str c.name)) r5 (fun a=>rfl) (x':=zh (pre++[g++[c]])) ?_ fun Hs7 H7 r7=>?_
    ·unfold zh
     rw [List.map_append,List.map_append]
     have e1:nmD (g++[c]) = .ls ((g.map fun c=>DT.sh (.at (.str c.name)))++[.sh (.at (.str c.name))]):=by unfold nmD;rw [List.map_append];rfl
     show DT.chg _ [-1] (.ls (pre.map nmD++[nmD g]))=some (.ls (pre.map nmD++[nmD (g++[c])]))
     rw [e1]
     exact VQ (by rw [List.length_map];omega)
    refine Zs (fr:=false) (b:=m6 3 (x6 5)) (ε':=[.sh (d.ob Aa),.sh (p7 ns),.no,.sh (.at (.int (c.hue:Int))),.sh (.at (.str c.name)),.sh (.at (.int (c.hue:Int)))]) r7 (fun a=>rfl) (u7 m5 (u7 m5 (u7 xO (u7 m5 (u7 m5 (u7 m5 jC)))))) (by show 2 < 6;decide) fun Hs8 H8 σ8 r8=>?_
    refine k _ _ _ _ _ ⟨_,_,m5,m5,sub',.inr ⟨pre,g++[c],c,rfl,?_,?_,?_,rfl⟩⟩ r8
    ·rw [<- erun]
     show _=if p.hue=c.hue then wv pre (g++[c]) c l else _
     rw [if_pos hh]
    ·rw [List.length_append];omega
    ·rw [List.length_append];show pre.length + (g.length + 1) + l.length<=_;omega
   ·have hh':¬ ((c.hue:Int)=(p.hue:Int)):=fun z=>hh (Int.ofNat.inj z).symm
    refine BC (c:=dT (z6 qX (z0 5) (z0 3))) (k:=true) r4 (w4 (w6 rfl rfl ((Ko _ _).trans (by rw [decide_eq_false hh'];rfl)))) (fun _ H5 r5=>?_) (fun z=>nomatch z)
    refine BB (f:=i8 x8) (ys0:=[]) r5 (fun a=>xE rfl l0) (x':=zh ((pre++[g])++[[]])) ?_ fun Hs6 H6 r6=>?_
    ·unfold zh
     rw [List.map_append (l₁:=pre++[g])]
     exact CS (by rw [List.length_map,List.length_append];show pre.length + 1<=lim;omega)
    refine Yc (f:=x6 4) (y:= .at (.str c.name)) r6 (fun a=>rfl) (x':=zh ((pre++[g])++[[c]])) ?_ fun Hs7 H7 r7=>?_
    ·unfold zh
     rw [List.map_append (l₁:=pre++[g]),List.map_append (l₁:=pre++[g])]
     exact VQ (P:=(pre++[g]).map nmD) (R:=[]) l0
    refine Zs (fr:=false) (b:=m6 3 (x6 5)) (ε':=[.sh (d.ob Aa),.sh (p7 ns),.no,.sh (.at (.int (c.hue:Int))),.sh (.at (.str c.name)),.sh (.at (.int (c.hue:Int)))]) r7 (fun a=>rfl) (u7 m5 (u7 m5 (u7 xO (u7 m5 (u7 m5 (u7 m5 jC)))))) (by show 2 < 6;decide) fun Hs8 H8 σ8 r8=>?_
    refine k _ _ _ _ _ ⟨_,_,m5,m5,sub',.inr ⟨pre++[g],[c],c,rfl,?_,Nat.le_refl _,?_,rfl⟩⟩ r8
    ·rw [<- erun]
     show _=if p.hue=c.hue then _ else wv (pre++[g]) [c] c l
     rw [if_neg hh]
    ·rw [List.length_append];show pre.length + 1 + 1 + l.length<=_;omega
 ·rintro ε x Hs4 H4 σ4 ⟨s4,s5,h4,h5,sub,cas⟩ r4
  refine Du r4 fun a F Hs5 H5 x5 fre d5=>q a F Hs5 H5 x5 fre ?_
  rcases cas with ⟨el,rfl,rfl⟩ | ⟨pre,g,p,rfl,erun,hg1,hlen,rfl⟩
  ·rw [<- el];exact d5
  ·rw [<- erun];exact d5
noncomputable section
abbrev Vj:Stmt:=y7 64
abbrev UT:MS:=(u3 (i9 (qv (z0 1)) (y9 (z6 we (z0 0) (dC (.bl true)))) qx)
  (y9 (z6 we (z0 0) (dC (.bl false)))))
def ZT:List PV->Option PV:=i6 2 2 UT
theorem Tk:v9 ["found", "due"] ["found", "due"] (j5 Vj):=⟨rfl,rfl,rfl,by decide +kernel,rfl,by decide +kernel,by decide +kernel⟩
theorem NX (F:Fun K "_law_truth" "_law_truth" Vj f fd) :FnOk P w K mg base v7 1 f fd ["found", "due"] (v4 ZT) :=
 qp (k:=0) (b:=UT) F Tk rfl fun cdv A outer s H E hr=>⟨_,(@j7 _ _ _ _ _ (n8 (qY (K:=K) rfl (pv 1) (fun _=>rfl)) (@z9 _ _ _ (w9 (zg (Xo) (pv 0) qQ (m3 _)))) o4)
  (@z9 _ _ _ (w9 (zg (Xo) (pv 0) qQ (m3 _))))),
  inferInstance⟩
abbrev JC:Stmt:=y7 65
abbrev YS (Aa:Addr):MS:=(i9 (dT (z6 qd (z0 2) (dC (.int 0)))) (y9 (z5 (zA Aa) (q9 (x6 0) (q9 (x6 1) x8)))) qx)
abbrev YU (Aa:Addr):MS:=(i9 (dT (z6 qd (z0 2) (dC (.int 1)))) (y9 (z5 (wa Aa) (q9 (x6 0) (q9 (x6 1) x8)))) qx)
abbrev YV (Aa:Addr):MS:=(i9 (dT (z6 qd (z0 2) (dC (.int 2)))) (y9 (z5 (Xg Aa) (q9 (x6 0) (q9 (x6 1) x8)))) qx)
abbrev Uq (Aa:Addr):MS:=(u3 (YS Aa)
  (u3 (YU Aa)
  (u3 (YV Aa)
  (y9 (z5 (QZ Aa) (q9 (x6 0) (q9 (x6 1) x8)))))))
abbrev Pu (Ab:Addr)(Aa:Addr):XM:=(jU false (YS Aa) (xIf (dT (z6 qd (z0 2) (dC (.int 0)))) (xX (qI (jb Ab Aa) (q9 (x6 0) (q9 (x6 1) x8)))) xNo)
  (jU false (YU Aa) (xIf (dT (z6 qd (z0 2) (dC (.int 1)))) (xX (qI (wB Ab Aa) (q9 (x6 0) (q9 (x6 1) x8)))) xNo)
  (jU false (YV Aa) (xIf (dT (z6 qd (z0 2) (dC (.int 2)))) (xX (qI (VG Ab Aa) (q9 (x6 0) (q9 (x6 1) x8)))) xNo)
  (xX (qI (VD Ab Aa) (q9 (x6 0) (q9 (x6 1) x8)))))))
def Xb (Aa:Addr):List PV->Option PV:=xQ 3 [false,false,false] (Uq Aa)
def Zd (Ab:Addr)(Aa:Addr):List PV->Addr->Prop:=xV 3 [false,false,false] (Pu Ab Aa)
theorem RJ:v9 ["works", "names", "ask"] ["works", "names", "ask"] (j5 JC):=⟨rfl,rfl,rfl,by decide +kernel,rfl,by decide +kernel,by decide +kernel⟩
theorem Nm {Ab:Addr}{Aa:Addr}(F:Fun K "_law_early" "_law_early" JC f fd) (Eu:Fx P w K mg base 6 "cost_of" ["works", "names"] (n9 [false,false] (QZ Aa) (VD Ab Aa))) (Ak:Fx P w K mg base 4 "done_rows" ["works", "names"] (xH [false,false] (zA Aa) (jb Ab Aa))) (Ed:Fx P w K mg base 5 "end_of" ["works", "names"] (n9 [false,false] (wa Aa) (wB Ab Aa))) (En:Fx P w K mg base 6 "lateness" ["works", "names"] (n9 [false,false] (Xg Aa) (VG Ab Aa))):FnOk P w K mg base (o6 P w) 7 f fd ["works", "names", "ask"] (n9 [false,false,false] (Xb Aa) (Zd Ab Aa)) :=
 jM (k:=6) (b:=(Uq Aa)) (xb:=(Pu Ab Aa)) F RJ rfl rfl rfl fun cdv A outer s H E hr=>⟨_,(@j7 _ _ _ _ _ (n8 (t9 (zf (K:=K) (qF hr) rfl) (pv 2) z7 (m3 _)) (@z9 _ _ _ (w9 (xq Ak hr (by decide) xk rfl (@x0 _ _ _ _ _ (pv 0) (@x0 _ _ _ _ _ (pv 1) x9 (by rfl)) (by rfl))))) o4)
  (@j7 _ _ _ _ _ (n8 (t9 (zf (K:=K) (qF hr) rfl) (pv 2) z7 (m3 _)) (@z9 _ _ _ (w9 (xq Ed hr (by decide) xk rfl (@x0 _ _ _ _ _ (pv 0) (@x0 _ _ _ _ _ (pv 1) x9 (by rfl)) (by rfl))))) o4)
  (@j7 _ _ _ _ _ (n8 (t9 (zf (K:=K) (qF hr) rfl) (pv 2) z7 (m3 _)) (@z9 _ _ _ (w9 (xq En hr (by decide) xk rfl (@x0 _ _ _ _ _ (pv 0) (@x0 _ _ _ _ _ (pv 1) x9 (by rfl)) (by rfl))))) o4)
  (@z9 _ _ _ (w9 (xq Eu hr (by decide) xk rfl (@x0 _ _ _ _ _ (pv 0) (@x0 _ _ _ _ _ (pv 1) x9 (by rfl)) (by rfl)))))))),
  inferInstance,inferInstance⟩
abbrev Jt:Stmt:=y7 66
abbrev YQ (Aa:Addr):MS:=(i9 (dT (z6 pLt (z0 2) (dC (.int 4)))) (m6 3 (z5 (Xb Aa) (q9 (x6 0) (q9 (x6 1) (q9 (x6 2) x8))))) (i9 (dT (z6 qd (z0 2) (dC (.int 4)))) (m6 3 (z5 (Xf Aa) (q9 (x6 0) (q9 (x6 1) x8)))) (i9 (dT (z6 qd (z0 2) (dC (.int 5)))) (m6 3 (z5 (Xe Aa) (q9 (x6 0) (q9 (x6 1) (q9 (dC .non) x8))))) (i9 (dT (z6 qd (z0 2) (dC (.int 6)))) (m6 3 (z5 (Ll Aa) (q9 (x6 0) (q9 (x6 1) x8)))) (i9 (dT (z6 qd (z0 2) (dC (.int 7)))) (m6 3 (qE Aa "only" (vY Aa) (x6 0) (q9 (x6 1) x8))) (m6 3 (qE Aa "begun" (QW Aa) (x6 0) (q9 (x6 1) x8))))))))
abbrev Ug (Aa:Addr):MS:=(u3 (YQ Aa)
  (y9 (x6 3)))
abbrev Pq (Ab:Addr)(Aa:Addr):XM:=(jU false (YQ Aa) (xIf (dT (z6 pLt (z0 2) (dC (.int 4)))) (xX (qI (Zd Ab Aa) (q9 (x6 0) (q9 (x6 1) (q9 (x6 2) x8))))) (xIf (dT (z6 qd (z0 2) (dC (.int 4)))) (xX (qI (VF Ab Aa) (q9 (x6 0) (q9 (x6 1) x8)))) (xIf (dT (z6 qd (z0 2) (dC (.int 5)))) (xX (qI (VE Ab Aa) (q9 (x6 0) (q9 (x6 1) (q9 (dC .non) x8))))) (xIf (dT (z6 qd (z0 2) (dC (.int 6)))) (xX (qI (Ze Ab Aa) (q9 (x6 0) (q9 (x6 1) x8)))) (xIf (dT (z6 qd (z0 2) (dC (.int 7)))) (xX (Yz Aa "only" (Zc Ab Aa) (x6 0) (q9 (x6 1) x8))) (xX (Yz Aa "begun" (VC Ab Aa) (x6 0) (q9 (x6 1) x8))))))))
  xNo)
def jJ (Aa:Addr):List PV->Option PV:=xQ 4 [false,false,false] (Ug Aa)
def wA (Ab:Addr)(Aa:Addr):List PV->Addr->Prop:=xV 4 [false,false,false] (Pq Ab Aa)
theorem sc_ask:v9 ["works", "names", "ask", "found"] ["works", "names", "ask"] (j5 Jt):=⟨rfl,rfl,rfl,by decide +kernel,rfl,by decide +kernel,by decide +kernel⟩
theorem Nb {Ab:Addr}{Aa:Addr}(F:Fun K "_law_ask" "_law_ask" Jt f fd) (Iw:Fx P w K mg base 7 "_law_early" ["works", "names", "ask"] (n9 [false,false,false] (Xb Aa) (Zd Ab Aa))) (Iv:Fx P w K mg base 6 "keeps" ["works", "names", "bound"] (n9 [false,false,false] (Xe Aa) (VE Ab Aa))) (Ej:Fx P w K mg base 5 "late_ones" ["works", "names"] (xH [false,false] (Xf Aa) (VF Ab Aa))) (Es:Fx P w K mg base 4 "runs_of" ["works", "names"] (Qo [false,false] (jI Aa) (Ze Ab Aa))) (Ea:Mx P w K mg base 7 Aa "begun" ["self", "names"] (n9 [false,false] (QW Aa) (VC Ab Aa))) (Az:Mx P w K mg base 7 Aa "only" ["self", "names"] (n9 [false,false] (vY Aa) (Zc Ab Aa))):FnOk P w K mg base (o6 P w) 8 f fd ["works", "names", "ask"] (n9 [false,false,false] (jJ Aa) (wA Ab Aa)) :=
 jM (k:=7) (b:=(Ug Aa)) (xb:=(Pq Ab Aa)) F sc_ask rfl rfl rfl fun cdv A outer s H E hr=>⟨_,(@j7 _ _ _ _ _ (n8 (t9 (Xq) (pv 2) z7 (m3 _)) (@z9 _ _ _ (@y6 _ _ 3 _ _ _ _ sc_ask.nd rfl (Or.inl rfl) (xq Iw hr (by decide) xk rfl (@x0 _ _ _ _ _ (pv 0) (@x0 _ _ _ _ _ (pv 1) (@x0 _ _ _ _ _ (pv 2) x9 (by rfl)) (by rfl)) (by rfl))) (by rfl) (.inl rfl))) (@z9 _ _ _ (n8 (t9 (zf (K:=K) (qF hr) rfl) (pv 2) z7 (m3 _)) (@z9 _ _ _ (@y6 _ _ 3 _ _ _ _ sc_ask.nd rfl (Or.inl rfl) (xq Ej hr (by decide) xk rfl (@x0 _ _ _ _ _ (pv 0) (@x0 _ _ _ _ _ (pv 1) x9 (by rfl)) (by rfl))) (by rfl) (.inl rfl))) (@z9 _ _ _ (n8 (t9 (zf (K:=K) (qF hr) rfl) (pv 2) z7 (m3 _)) (@z9 _ _ _ (@y6 _ _ 3 _ _ _ _ sc_ask.nd rfl (Or.inl rfl) (xq Iv hr (by decide) xk rfl (@x0 _ _ _ _ _ (pv 0) (@x0 _ _ _ _ _ (pv 1) (@x0 _ _ _ _ _ Qi x9 (by rfl)) (by rfl)) (by rfl))) (by rfl) (.inl rfl))) (@z9 _ _ _ (n8 (t9 (zf (K:=K) (qF hr) rfl) (pv 2) z7 (m3 _)) (@z9 _ _ _ (@y6 _ _ 3 _ _ _ _ sc_ask.nd rfl (Or.inl rfl) (xq Es hr (by decide) xk rfl (@x0 _ _ _ _ _ (pv 0) (@x0 _ _ _ _ _ (pv 1) x9 (by rfl)) (by rfl))) (by rfl) (.inl rfl))) (@z9 _ _ _ (n8 (t9 (zf (K:=K) (qF hr) rfl) (pv 2) z7 (m3 _)) (@z9 _ _ _ (@y6 _ _ 3 _ _ _ _ sc_ask.nd rfl (Or.inl rfl) (WL Az hr (by decide) xk (pv 0) (@x0 _ _ _ _ _ (pv 1) x9 (by rfl))) (by rfl) (.inl rfl))) (@z9 _ _ _ (@y6 _ _ 3 _ _ _ _ sc_ask.nd rfl (Or.inl rfl) (WL Ea hr (by decide) xk (pv 0) (@x0 _ _ _ _ _ (pv 1) x9 (by rfl))) (by rfl) (.inl rfl))))))))))))
  (@z9 _ _ _ (w9 (pv 3)))),
  inferInstance,inferInstance⟩
abbrev JW:Stmt:=y7 68
abbrev UL (Aa:Addr):MS:=(u3 (m6 2 (i8 x8))
  (u3 (vN (zw (q9 (dC (.int 9)) x8)) (v8 3) (xZ (z5 (jJ Aa) (q9 (x6 0) (q9 (x6 1) (q9 (x6 3) x8))))))
  (y9 (z6 qd (z0 2) (i8 x8)))))
def Qb (Aa:Addr):List PV->Option PV:=i6 5 2 (UL Aa)
theorem sc_let:v9 ["works", "names", "kinds", "ask", "e"] ["works", "names"] (j5 JW):=⟨rfl,rfl,rfl,by decide +kernel,rfl,by decide +kernel,by decide +kernel⟩
theorem NI {Aa:Addr}(F:Fun K "_law_let" "_law_let" JW f fd) (Ia:Fx P w K mg base 8 "_law_ask" ["works", "names", "ask"] (n9 [false,false,false] (jJ Aa) (wA Ab Aa))) (Ag:mg "range"=none):FnOk P w K mg base v7 9 f fd ["works", "names"] (v4 (Qb Aa)) :=
 qp (k:=8) (b:=(UL Aa)) F sc_let rfl fun cdv A outer s H E hr=>⟨_,(@j7 _ _ _ _ _ (@y6 _ _ 2 _ _ _ _ sc_let.nd rfl (Or.inl rfl) (@qA _ _ _ _ x9) (by rfl) (.inl rfl))
  (@j7 _ _ _ _ _ (HS (K:=K) rfl (fun _=>by exact (@z9 _ _ _ (zV PassesOwn.never rfl (vx rfl Ag (@x0 _ _ _ _ _ z7 x9 (by rfl))) (u9 (i:=3) sc_let.nd rfl (Or.inl rfl))
   (@z9 _ _ _ (zE (xq Ia hr (by decide) Kx rfl (@x0 _ _ _ _ _ (pv 0) (@x0 _ _ _ _ _ (pv 1) (@x0 _ _ _ _ _ (pv 3) x9 (by rfl)) (by rfl)) (by rfl)))))))))
  (@z9 _ _ _ (w9 (zg (zf (K:=K) (qF hr) rfl) (pv 2) (@qA _ _ _ _ x9) (m3 _)))))),
  inferInstance⟩
end
def Thing (x:PV):Prop:=(∃ s,x = .at (.str s)) ∨ (∃ i,x = .at (.int i)) ∨ x = .at .non ∨ (∃ b,x = .at (.bl b)) ∨ (∃ zs,x = .lst zs/\∀ z ∈ zs,jq 4 z) ∨ (∃ zs,x = .tup zs/\∀ z ∈ zs,jq 4 z)
theorem Thing.plain {x:PV}(h:Thing x):jq 5 x:=by
 rcases h with ⟨s,rfl⟩ | ⟨i,rfl⟩ | rfl | ⟨b,rfl⟩ | ⟨zs,rfl,h⟩ | ⟨zs,rfl,h⟩
 ·rfl
 ·rfl
 ·rfl
 ·rfl
 ·exact h
 ·exact h
def itK (ks:List Str):PV->Bool
 | .at (.str s)=>decide (s ∈ ks)
 | _=>false
theorem Mp {u:V}(ks:List Str)(h:∀ s,qw (.str s) u=false):inV u (ks.map V.str)=false:=by
 unfold inV
 rw [List.any_eq_false]
 intro x hx
 obtain ⟨s,_,rfl⟩:=List.mem_map.mp hx
 rw [h s]
 exact Bool.false_ne_true
theorem Wr {u:V}(ks:List Str)(f:p0 u=true)(h:∀ s,qw (.str s) u=false):pIn false (.at u) (.lst (j6 ks))=some (.at (.bl false)):=by
 show (ats (j6 ks)).bind _=_
 rw [QB,Option.bind_some,if_pos ⟨f,Zy ks⟩,Mp ks h]
 rfl
theorem Mq {x:PV}(h:Thing x)(ks:List Str):Xt x (.lst (j6 ks))=some (.at (.bl (itK ks x))):=by
 rcases h with ⟨s,rfl⟩ | ⟨i,rfl⟩ | rfl | ⟨b,rfl⟩ | ⟨zs,rfl,h⟩ | ⟨zs,rfl,h⟩
 ·exact wR false s ks
 ·exact Wr ks rfl fun _=>rfl
 ·exact Wr ks rfl fun _=>rfl
 ·exact Wr ks rfl fun _=>rfl
 ·show (ats (j6 ks)).bind _=_
  rw [QB,Option.bind_some,if_pos (Zy ks)];rfl
 ·show (ats (j6 ks)).bind _=_
  rw [QB,Option.bind_some,if_pos (Zy ks)];rfl
theorem Bt {ss:List Str}:∀ i,i<=ss.length->∀ s ∈ ss.take i,(Sum.inr s:z8) ∈ m9 (fun i=>(Sum.inr (ss.getD i ⟨#[]⟩):z8)) i
 | 0,_,s,h=>by simp at h
 | i + 1,hi,s,h=>by
  have hl:i < ss.length:=by omega
  have eg:ss.getD i ⟨#[]⟩=ss[i]:=qh hl
  rw [List.take_add_one,List.getElem?_eq_getElem hl] at h
  unfold m9
  rcases List.mem_append.mp h with h | h
  ·have ih:=Bt i (by omega) s h
   split
   ·exact ih
   ·exact List.mem_append_left _ ih
  ·have e:s=ss[i]:=by simpa using h
   subst e
   rw [eg]
   split
   ·rename_i hm;exact hm
   ·exact List.mem_append_right _ (List.mem_singleton.mpr rfl)
theorem Bs {ss:List Str}:∀ i,i<=ss.length->(m9 (fun i=>(Sum.inr (ss.getD i ⟨#[]⟩):z8)) i).length=i->(ss.take i).Nodup
 | 0,_,_=>by simp
 | i + 1,hi,h=>by
  have hl:i < ss.length:=by omega
  have eg:ss.getD i ⟨#[]⟩=ss[i]:=qh hl
  have le:=WY (fun i=>(Sum.inr (ss.getD i ⟨#[]⟩):z8)) i
  unfold m9 at h
  rw [eg] at h
  split at h
  ·omega
  ·rename_i hn
   rw [List.length_append,List.length_singleton] at h
   have h':(m9 (fun i=>(Sum.inr (ss.getD i ⟨#[]⟩):z8)) i).length=i:=by omega
   have ih:=Bs i (by omega) h'
   rw [List.take_add_one,List.getElem?_eq_getElem hl]
   refine List.nodup_append.mpr ⟨ih,by simp,fun a ha b hb e=>?_⟩
   have e2:b=ss[i]:=by simpa using hb
   subst e2
   subst e
   exact hn (Bt i (by omega) _ ha)
theorem Lp {ss:List Str}(h:¬ ss.Nodup):Xk ss ≠ ss.length:=fun e=>h (by
 have:=Bs (ss:=ss) ss.length (Nat.le_refl _) e
 rwa [List.take_length] at this)
structure zH (d:Dr)(l:List PV):Prop where
 len:l.length<=100
 th:∀ x ∈ l,Thing x
 bad:(∃ x ∈ l,itK d.names x=false) ∨ ∃ ss:List Str,l=j6 ss/\¬ ss.Nodup
theorem MH {a b:List Str}(p:a.Perm b)(x:PV):itK a x=itK b x:=by
 unfold itK
 split
 ·exact decide_eq_decide.mpr p.mem_iff
 ·rfl
section
variable {C CP:Addr}{d:Dr}{l:List PV}
theorem BR (ok:d.Ok)(B:zH d l):zQ C [d.ob C,.lst l]=some (.at (.bl false)):=by
 have hlim:lim=1000000:=rfl
 have hl:=B.len
 have cm:∀ s2:MSlot,z5 zS (q9 (t6 [none,some 2] [0] (i7 (x6 1)) (v8 0) i4 (z6 Xt (z0 0) (z0 1))) x8) [.sh (d.ob C),.sh (.lst l),.sh (.lst (j6 (zW d.names)))]=some (.at (.bl (l.all (itK d.names)))):=fun _=>by
  refine j4 (v5 (xp (fun x:PV=>x) (fun x=>PV.at (.bl (itK d.names x))) l (by show some l=_;rw [List.map_id']) rfl (by omega) fun x hx=>⟨_,rfl,w6 rfl rfl ((Mq (B.th x hx) _).trans (by rw [MH (Vq d.names)]))⟩) rfl) ?_
  rw [show (l.map fun x=>PV.at (.bl (itK d.names x)))=(l.map (itK d.names)).map fun b=>PV.at (.bl b) by rw [List.map_map];rfl,YL,List.all_map]
  rfl
 by_cases ha:l.all (itK d.names)=true
 ·have cm':=cm .no
  rw [ha] at cm'
  refine qO rfl (u5 (m4 (qN (qV (j4 rfl QQ))) qc) (u5 (qg (xF rfl (by decide) rfl (Vx ok))) (p9 (jF cm' ?_))))
  rcases B.bad with ⟨x,hx,z⟩ | ⟨ss,rfl,nd⟩
  ·rw [List.all_eq_true] at ha
   rw [ha x hx] at z
   cases z
  ·have e1:VY (z0 1) [.sh (d.ob C),.sh (.lst (j6 ss)),.sh (.lst (j6 (zW d.names)))]=some (.at (.int (Xk ss:Int))):=by
    show (jT (j6 ss)).bind _=_
    rw [BF,Option.bind_some,if_pos (by rw [qS] at hl;omega)]
   refine w6 e1 (j4 rfl rfl) ((QJ _ _).trans ?_)
   rw [decide_eq_false]
   rw [qS]
   intro z
   exact Lp nd (by omega)
 ·have cm':=cm .no
  rw [Bool.eq_false_iff.mpr ha] at cm'
  exact qO rfl (u5 (m4 (qN (qV (j4 rfl QQ))) qc) (u5 (qg (xF rfl (by decide) rfl (Vx ok))) (p9 (GJ cm'))))
theorem BW (ok:d.Ok)(B:zH d l):zB C [d.ob C,.lst l]=some (.at (.bl false)):=qO rfl (p9 (GJ (j4 rfl (BR ok B))))
theorem Vy (ok:d.Ok){ns:List Cl}(L:Lst d ns):zB C [d.ob C,p7 ns]=some (.at (.bl (decide (ns.length=d.cls.length)))):=by
 refine qO rfl (p9 (jF (j4 rfl (Vu ok L)) (w6 (j4 rfl rfl) (j4 (v5 (xF rfl (by decide) rfl (Vx ok)) rfl) rfl) ((QJ _ _).trans ?_))))
 have e:(zW d.names).length=d.cls.length:=by rw [(Vq d.names).length_eq];unfold Dr.names;rw [List.length_map]
 rw [qS,qS,List.length_map,e]
 congr 3
 exact decide_eq_decide.mpr ⟨fun z=>by omega,fun z=>by omega⟩
theorem YA (ok:d.Ok)(B:zH d l):ju CP C [d.ob C,.lst l] CP:=⟨rfl,true,Df (qV (j4 rfl (BR ok B))),qz rfl⟩
theorem VH (ok:d.Ok)(B:zH d l):jb CP C [d.ob C,.lst l] CP:=⟨rfl,.inl ⟨_,rfl,YA ok B⟩⟩
theorem YB (ok:d.Ok)(B:zH d l):jV CP C [d.ob C,.lst l] CP:=⟨rfl,_,rfl,VH ok B⟩
theorem PD (ok:d.Ok)(B:zH d l):wB CP C [d.ob C,.lst l] CP:=⟨rfl,.inl ⟨_,rfl,VH ok B⟩⟩
theorem SN (ok:d.Ok)(B:zH d l){k:Nat}(hk:k < 9):wA CP C [d.ob C,.lst l,.at (.int ((0:Int) + (k:Int)))] CP:=by
 have early:∀ k:Nat,k < 4->Zd CP C [d.ob C,.lst l,.at (.int ((0:Int) + (k:Int)))] CP:=by
  intro k hk
  refine ⟨rfl,?_⟩
  have:k=0 ∨ k=1 ∨ k=2 ∨ k=3:=by omega
  rcases this with rfl | rfl | rfl | rfl
  ·exact .inl ⟨true,rfl,qz ⟨_,rfl,VH ok B⟩⟩
  ·exact .inr ⟨_,m4 (w4 (v:=false) rfl) qc,.inl ⟨true,rfl,qz ⟨_,rfl,PD ok B⟩⟩⟩
  ·exact .inr ⟨_,m4 (w4 (v:=false) rfl) qc,.inr ⟨_,m4 (w4 (v:=false) rfl) qc,.inl ⟨true,rfl,qz ⟨_,rfl,rfl,_,rfl,YB ok B⟩⟩⟩⟩
  ·exact .inr ⟨_,m4 (w4 (v:=false) rfl) qc,.inr ⟨_,m4 (w4 (v:=false) rfl) qc,.inr ⟨_,m4 (w4 (v:=false) rfl) qc,⟨_,rfl,rfl,_,rfl,YB ok B⟩⟩⟩⟩
 refine ⟨rfl,.inl ?_⟩
 by_cases h4:k < 4
 ·exact ⟨true,w4 (w6 rfl rfl (by show some (PV.at (.bl (decide ((0:Int) + (k:Int) < 4))))=_;rw [decide_eq_true (by omega)])),qz ⟨_,rfl,early k h4⟩⟩
 have:k=4 ∨ k=5 ∨ k=6 ∨ k=7 ∨ k=8:=by omega
 rcases this with rfl | rfl | rfl | rfl | rfl
 ·exact ⟨false,rfl,o8 ⟨true,rfl,qz ⟨_,rfl,rfl,_,rfl,VH ok B⟩⟩⟩
 ·exact ⟨false,rfl,o8 ⟨false,rfl,o8 ⟨true,rfl,qz ⟨_,rfl,rfl,_,rfl,YB ok B⟩⟩⟩⟩
 ·exact ⟨false,rfl,o8 ⟨false,rfl,o8 ⟨false,rfl,o8 ⟨true,rfl,qz ⟨_,rfl,rfl,_,rfl,YA ok B⟩⟩⟩⟩⟩
 ·exact ⟨false,rfl,o8 ⟨false,rfl,o8 ⟨false,rfl,o8 ⟨false,rfl,o8 ⟨true,rfl,qz ⟨_,_,_,rfl,by decide,rfl,rfl,.inl ⟨_,rfl,YA ok B⟩⟩⟩⟩⟩⟩⟩
 ·exact ⟨false,rfl,o8 ⟨false,rfl,o8 ⟨false,rfl,o8 ⟨false,rfl,o8 ⟨false,rfl,o8 ⟨_,_,_,rfl,by decide,rfl,rfl,.inl ⟨_,rfl,PD ok B⟩⟩⟩⟩⟩⟩⟩
theorem v_ask (ok:d.Ok)(ht:d.time < 40 * j8){ns:List Cl}(L:Lst d ns){k:Nat}(hk:k < 9):∃ y,jJ C [d.ob C,p7 ns,.at (.int ((0:Int) + (k:Int)))]=some y:=by
 have early:∀ k:Nat,k < 4->∃ y,Xb C [d.ob C,p7 ns,.at (.int ((0:Int) + (k:Int)))]=some y:=by
  intro k hk
  have:k=0 ∨ k=1 ∨ k=2 ∨ k=3:=by omega
  rcases this with rfl | rfl | rfl | rfl
  ·exact ⟨_,xM rfl (Wh (vf (w4 (v:=true) rfl) (p9 (j4 rfl (Vw ok L)))))⟩
  ·exact ⟨_,xM rfl (u5 (m4 (w4 (v:=false) rfl) qc) (Wh (vf (w4 (v:=true) rfl) (p9 (j4 rfl (BS ok L))))))⟩
  ·exact ⟨_,xM rfl (u5 (m4 (w4 (v:=false) rfl) qc) (u5 (m4 (w4 (v:=false) rfl) qc) (Wh (vf (w4 (v:=true) rfl) (p9 (j4 rfl (Sy ok L)))))))⟩
  ·exact ⟨_,xM rfl (u5 (m4 (w4 (v:=false) rfl) qc) (u5 (m4 (w4 (v:=false) rfl) qc) (u5 (m4 (w4 (v:=false) rfl) qc) (p9 (j4 rfl (Sm ok L))))))⟩
 by_cases h4:k < 4
 ·obtain ⟨y,e⟩:=early k h4
  exact ⟨y,xM rfl (u5 (vf (w4 (v:=true) (w6 rfl rfl (by show some (PV.at (.bl (decide ((0:Int) + (k:Int) < 4))))=_;rw [decide_eq_true (by omega)]))) (qg (j4 rfl e))) (p9 rfl))⟩
 have:k=4 ∨ k=5 ∨ k=6 ∨ k=7 ∨ k=8:=by omega
 rcases this with rfl | rfl | rfl | rfl | rfl
 ·exact ⟨_,xM rfl (u5 (m4 (w4 (v:=false) rfl) (vf (w4 (v:=true) rfl) (qg (j4 rfl (Sx ok L))))) (p9 rfl))⟩
 ·exact ⟨_,xM rfl (u5 (m4 (w4 (v:=false) rfl) (m4 (w4 (v:=false) rfl) (vf (w4 (v:=true) rfl) (qg (j4 rfl (Sv ok L)))))) (p9 rfl))⟩
 ·exact ⟨_,xM rfl (u5 (m4 (w4 (v:=false) rfl) (m4 (w4 (v:=false) rfl) (m4 (w4 (v:=false) rfl) (vf (w4 (v:=true) rfl) (qg (x:=(zh (XL ns)).pv) (j4 rfl (by show (jI C [d.ob C,p7 ns]).map DT.pv=_;rw [SE ok L];rfl))))))) (p9 rfl))⟩
 ·exact ⟨_,xM rfl (u5 (m4 (w4 (v:=false) rfl) (m4 (w4 (v:=false) rfl) (m4 (w4 (v:=false) rfl) (m4 (w4 (v:=false) rfl) (vf (w4 (v:=true) rfl) (qg (xF rfl (by decide) rfl (BV ok L)))))))) (p9 rfl))⟩
 ·exact ⟨_,xM rfl (u5 (m4 (w4 (v:=false) rfl) (m4 (w4 (v:=false) rfl) (m4 (w4 (v:=false) rfl) (m4 (w4 (v:=false) rfl) (m4 (w4 (v:=false) rfl) (qg (xF rfl (by decide) rfl (Si ok ht L)))))))) (p9 rfl))⟩
theorem BU (ok:d.Ok)(ht:d.time < 40 * j8){ns:List Cl}(L:Lst d ns):Qb C [d.ob C,p7 ns]=some (.at (.bl true)):=by
 obtain ⟨ε',e',s3,s4,rfl⟩:=QV (g:=v8 3) (f:=xZ (z5 (jJ C) (q9 (x6 0) (q9 (x6 1) (q9 (x6 3) x8))))) (fun (j:Nat)=>PV.at (.int ((0:Int) + j))) (fun l ε=>(∀ j ∈ l,j < 9)/\∃ s3:MSlot,ε=[.sh (d.ob C),.sh (p7 ns),.sh (.lst []),s3,.no]) (by
  rintro j l ε ⟨hj,s3,rfl⟩
  obtain ⟨y,e⟩:=v_ask (C:=C) ok ht L (hj j List.mem_cons_self)
  exact ⟨_,_,rfl,vQ (j4 rfl e),fun x hx=>hj x (List.mem_cons_of_mem _ hx),_,rfl⟩) (List.range 9) _ ⟨fun j hj=>List.mem_range.mp hj,.no,rfl⟩
 exact qO rfl (u5 (qg (x:= .lst []) (xE rfl l0)) (u5 (Zw (XI (k:=9) rfl (by decide)) e') (p9 (w6 rfl (xE rfl l0) (Kv (fun _ z=>nomatch z))))))
end
abbrev Vc:Stmt:=y7 67
abbrev Bb (K:Fg)(Am:Addr)(Ap:Addr)(Ab:Addr)(Ah:Addr)(Ay:Addr)(Aa:Addr):RM:=(wp (rP (m6 2 (z5 Qf (q9 (z0 1) x8))))
  (wp (rFor (zw (q9 (dC (.int 9)) x8)) (v8 3) (wp (rP (m6 4 (i8 x8)))
  (wp (rTry K Ah [Ab] 5 (xZ (z5 (jJ Aa) (q9 (x6 0) (q9 (x6 1) (q9 (x6 3) x8))))) (xX (qI (wA Ab Aa) (q9 (x6 0) (q9 (x6 1) (q9 (x6 3) x8)))))
   (fun ea c=>(m6 4 (i8 (q9 (z5 (wf K ea c) (q9 (z0 5) (q9 (dC (.ref Ab)) x8))) (q9 (z5 (wf K ea c) (q9 (z0 5) (q9 (dC (.ty "ValueError")) x8))) (q9 (z5 (Xu K ea c) (q9 (z0 5) (q9 (xD (q9 (dC (.ref Ap)) (q9 (dC (.ref Am)) (q9 (dC (.ref Ay)) x8)))) x8))) x8)))))))
  (rP (i9 (dOr (dT (z6 qX (z0 4) (i8 (q9 (dC (.bl true)) (q9 (dC (.bl true)) (q9 (dC (.bl false)) x8)))))) (dT (z6 qX (z0 1) (z0 2)))) (y9 (dC (.bl false))) qx)))))
  (rP (y9 (z6 we (z5 (zB Aa) (q9 (x6 0) (q9 (x6 1) x8))) (dC (.bl false)))))))
theorem sc_refused:v9 ["works", "names", "stayed", "ask", "kinds", "e"] ["works", "names"] (j5 Vc):=⟨rfl,rfl,rfl,by decide +kernel,rfl,by decide +kernel,by decide +kernel⟩
open Classical in
noncomputable def vm (C:Addr):List PV->Option PV:=fun xs=>if ∃ (d:Dr) (l:List PV),d.Ok/\zH d l/\xs=[d.ob C,.lst l] then some (.at (.bl true)) else none
theorem BX {C:Addr}{d:Dr}{l:List PV}(ok:d.Ok)(B:zH d l):vm C [d.ob C,.lst l]=some (.at (.bl true)):=if_pos ⟨d,l,ok,B,rfl⟩
theorem GU {K:Fg}{ea C:Addr}{v:V}{d:Value}{b:Bool}(h:qC v=some d)(i:PySem.W.kitOne K (.ref C) d=some b):wf K ea C [.at (.ref ea),.at v]=some (.at (.bl b)):=by
 show (if ea=ea then _ else _)=_
 rw [if_pos rfl,h,Option.bind_some,i]
 rfl
theorem MF {K:Fg}{ea C:Addr}{xs:List PV}{vs:List V}{ds:List Value}{b:Bool}(h0:ats xs=some vs)(h:XW vs=some ds)(i:PySem.W.kitAny K (.ref C) ds=some b):Xu K ea C [.at (.ref ea),.tup xs]=some (.at (.bl b)):=by
 show (if ea=ea then _ else _)=_
 rw [if_pos rfl,h0,Option.bind_some,h,Option.bind_some,i]
 rfl
theorem DZ {K:Fg}{Am Ap Ab Ah Ay Aa:Addr}(e1:PySem.W.exmOne K (.ref Ab) (.ref Ah)=some true)(i1:PySem.W.kitOne K (.ref Ab) (.ref Ab)=some true)(i2:PySem.W.kitOne K (.ref Ab) (.type "ValueError")=some true) (i3:PySem.W.kitAny K (.ref Ab) [.ref Ap,.ref Am,.ref Ay]=some false) :
  ∀ xs y,vm Aa xs=some y->rFn 6 2 (Bb K Am Ap Ab Ah Ay Aa) xs y:=by
 intro xs y h
 have hlim:lim=1000000:=rfl
 unfold vm at h
 split at h
 ·rename_i hx
  obtain ⟨d,l,ok,B,rfl⟩:=hx
  cases h
  have pl:jq 6 (.lst l):=fun x hx=>(B.th x hx).plain
  have pk:jq 6 (.lst [.at (.bl true),.at (.bl true),.at (.bl false)]):=by
   intro y hy
   have h:y = .at (.bl true) ∨ y = .at (.bl true) ∨ y = .at (.bl false):=by simpa using hy
   rcases h with rfl | rfl | rfl <;> rfl
  refine ⟨rfl,.rt (.at (.bl true)),?_,rfl⟩
  obtain ⟨ε',el,s3,s4,rfl⟩:=Bm (g:=v8 3) (f:=wp (rP (m6 4 (i8 x8)))
   (wp (rTry K Ah [Ab] 5 (xZ (z5 (jJ Aa) (q9 (x6 0) (q9 (x6 1) (q9 (x6 3) x8))))) (xX (qI (wA Ab Aa) (q9 (x6 0) (q9 (x6 1) (q9 (x6 3) x8)))))
    (fun ea c=>(m6 4 (i8 (q9 (z5 (wf K ea c) (q9 (z0 5) (q9 (dC (.ref Ab)) x8))) (q9 (z5 (wf K ea c) (q9 (z0 5) (q9 (dC (.ty "ValueError")) x8))) (q9 (z5 (Xu K ea c) (q9 (z0 5) (q9 (xD (q9 (dC (.ref Ap)) (q9 (dC (.ref Am)) (q9 (dC (.ref Ay)) x8)))) x8))) x8)))))))
   (rP (i9 (dOr (dT (z6 qX (z0 4) (i8 (q9 (dC (.bl true)) (q9 (dC (.bl true)) (q9 (dC (.bl false)) x8)))))) (dT (z6 qX (z0 1) (z0 2)))) (y9 (dC (.bl false))) qx))))
   (fun ε=>∃ s3 s4:MSlot,ε=[.sh (d.ob Aa),.sh (.lst l),.sh (.lst l),s3,s4,.no]) (xn 0 9) _ ⟨.no,.no,rfl⟩ (by
   rintro x hx ε ⟨s3,s4,rfl⟩
   obtain ⟨k,hk,rfl⟩:=List.mem_map.mp hx
   have hk9:=List.mem_range.mp hk
   refine ⟨_,[.sh (d.ob Aa),.sh (.lst l),.sh (.lst l),.sh (.at (.int ((0:Int) + (k:Int)))),.sh (.lst [.at (.bl true),.at (.bl true),.at (.bl false)]),.no],rfl,.inl ⟨[.sh (d.ob Aa),.sh (.lst l),.sh (.lst l),.sh (.at (.int ((0:Int) + (k:Int)))),.sh (.lst []),.no],qg (xE rfl l0),.inl ⟨[.sh (d.ob Aa),.sh (.lst l),.sh (.lst l),.sh (.at (.int ((0:Int) + (k:Int)))),.sh (.lst [.at (.bl true),.at (.bl true),.at (.bl false)]),.no],.inr ⟨Ab,List.mem_singleton.mpr rfl,e1,⟨_,rfl,SN ok B hk9⟩,fun ea=>⟨_,qg (x:= .lst [.at (.bl true),.at (.bl true),.at (.bl false)]) (xE (v5 (j4 rfl (GU rfl i1)) (v5 (j4 rfl (GU rfl i2)) (v5 (j4 (v5 rfl (v5 (vS rfl l3) rfl)) (MF rfl rfl i3)) rfl))) l3),rfl⟩⟩,?_⟩⟩,_,_,rfl⟩
   exact m4 (jg (w4 (v:=false) (w6 rfl (xE rfl l3) (WG pk))) (w4 (v:=false) (w6 rfl rfl (WG pl)))) qc)
  exact .inl ⟨[.sh (d.ob Aa),.sh (.lst l),.sh (.lst l),.no,.no,.no],qg (j4 rfl rfl),.inl ⟨_,⟨xn 0 9,rfl,el⟩,p9 (w6 (j4 rfl (BW ok B)) rfl rfl)⟩⟩
 ·cases h
theorem NO {Am:Addr}{Ap:Addr}{Ab:Addr}{Ah:Addr}{Ay:Addr}{Aa:Addr}(F:Fun K "_law_refused" "_law_refused" Vc f fd) (Ia:Fx P w K mg base 8 "_law_ask" ["works", "names", "ask"] (n9 [false,false,false] (jJ Aa) (wA Ab Aa))) (Ar:Fn P w K mg base 3 "is_plan" ["works", "names"] (v4 (zB Aa))) (Eg:mg "ValueError"=none) (Ac:mg "isinstance"=none) (Au:mg "list"=none) (Ag:mg "range"=none) (Ex:mg "NoCloth"=some (.ref Am)) (E2:mg "NoName"=some (.ref Ap)) (Ec:mg "NoPlan"=some (.ref Ab)) (Ee:mg "RinseError"=some (.ref Ah)) (Iu:mg "Twice"=some (.ref Ay)) (Ei:zt K Ab) (Av:PySem.W.exmOne K (.ref Ab) (.ref Ah)=some true) (A7:PySem.W.kitOne K (.ref Ab) (.ref Ab)=some true) (D7:PySem.W.kitOne K (.ref Ab) (.type "ValueError")=some true) (Ai:PySem.W.kitAny K (.ref Ab) [.ref Ap,.ref Am,.ref Ay]=some false):FnOk P w K mg base v7 9 f fd ["works", "names"] (v4 (vm Aa)) :=
 okT (k:=8) (r:=Bb K Am Ap Ab Ah Ay Aa) F sc_refused (DZ Av A7 D7 Ai) fun cdv A outer s H E hr=>⟨_,(@j7 _ _ _ _ _ (@y6 _ _ 2 _ _ _ _ sc_refused.nd rfl (Or.inl rfl) (Xw (VN (K:=K) rfl) rfl Au wK (@x0 _ _ _ _ _ (pv 1) x9 (by rfl))) (by rfl) (.inl rfl))
  (@j7 _ _ _ _ _ (zV PassesOwn.never rfl (vx rfl Ag (@x0 _ _ _ _ _ z7 x9 (by rfl))) (u9 (i:=3) sc_refused.nd rfl (Or.inl rfl))
   (@j7 _ _ _ _ _ (@y6 _ _ 4 _ _ _ _ sc_refused.nd rfl (Or.inl rfl) (@qA _ _ _ _ x9) (by rfl) (.inl rfl))
  (@j7 _ _ _ _ _ (HR (K:=K) (cs:=[Ab]) (i:=5) rfl rfl rfl rfl rfl Ee sc_refused.nd rfl rfl rfl (fun E _ _ _ hp=>(HW (HV (HB Ia hr (by decide) hp rfl (@x0 _ _ _ _ _ (pv 0) (@x0 _ _ _ _ _ (pv 1) (@x0 _ _ _ _ _ (pv 3) x9 (by rfl)) (by rfl)) (by rfl))))))
   (fun pn ea oe c hc hE hm=>(@z9 _ _ _ (@y6 _ _ 4 _ _ _ _ sc_refused.nd rfl (Or.inl rfl) (@qA _ _ _ _ (@x0 _ _ _ _ _ (m8 (Gh (K:=K) rfl hm hc ((Wj Ei Wl) c hE)) rfl Ac zK (@x0 _ _ _ _ _ (pv 5) (@x0 _ _ _ _ _ (vp (v:= .ref Ab) rfl Ec rfl) x9 (by rfl)) (by rfl))) (@x0 _ _ _ _ _ (m8 (Gh (K:=K) rfl hm hc ((Wj Ei Wl) c hE)) rfl Ac zK (@x0 _ _ _ _ _ (pv 5) (@x0 _ _ _ _ _ (jO (v:= .ty "ValueError") rfl Eg Ch rfl) x9 (by rfl)) (by rfl))) (@x0 _ _ _ _ _ (m8 (Cz (K:=K) rfl hm hc ((Wj Ei Wl) c hE)) rfl Ac zK (@x0 _ _ _ _ _ (pv 5) (@x0 _ _ _ _ _ (@zT _ _ _ _ _ (@x0 _ _ _ _ _ (vp (v:= .ref Ap) rfl E2 rfl) (@x0 _ _ _ _ _ (vp (v:= .ref Am) rfl Ex rfl) (@x0 _ _ _ _ _ (vp (v:= .ref Ay) rfl Iu rfl) x9 (by rfl)) (by rfl)) (by rfl))) x9 (by rfl)) (by rfl))) x9 (by rfl)) (by rfl)) (by rfl))) (by rfl) (.inl rfl)))))
  (@z9 _ _ _ (n8 (PW.pt (jr (t9 (jN (K:=K) (qF hr) rfl) (pv 4) (@qA _ _ _ _ (@x0 _ _ _ _ _ qQ (@x0 _ _ _ _ _ qQ (@x0 _ _ _ _ _ qQ x9 (by rfl)) (by rfl)) (by rfl))) (m3 _)) (vy (t9 (jN (K:=K) (qF hr) rfl) (pv 1) (pv 2) (m3 _))))) (@z9 _ _ _ (w9 qQ)) o4)))))
  (@z9 _ _ _ (w9 (zg (Xo) (v3 Ar hr (by decide) rfl (@x0 _ _ _ _ _ (pv 0) (@x0 _ _ _ _ _ (pv 1) x9 (by rfl)) (by rfl))) qQ (m3 _)))))),
  inferInstance⟩
abbrev wx:Stmt:=y7 69
abbrev UG (K:Fg)(Aa:Addr):WS:=(wSeq (wAsg (zd 4 (qi (v8 1) (qi (v8 2) (qi (v8 3) (qi (v8 4) zc))))) (Ph (XD K) Qx (xz (wP (x6 0)) (xz (wP (dC (.int 9))) jt))))
  (wSeq (Yy 5 (WP K) zu (xz (wP (x6 0)) jt))
  (wSeq (qr 2 (wP (t6 [none] [0] (i7 (x6 2)) (v8 0) (dT (z6 qX (z6 p8 (z0 0) (dC (.int 0))) (dC (.str "zebra")))) (x6 0))))
  (wSeq (qr 6 (XY 5 XB Zj (xz (wP (t6 [none] [0] (i7 (x6 2)) (v8 0) i4 (z6 p8 (z0 0) (dC (.int 0))))) jt)))
  (wSeq (qr 7 (wSlU (x6 6) (o5 5 (wP (z6 qa (z5 qH (q9 (z0 6) x8)) (dC (.int 1)))))))
  (wSeq (qr 8 (o5 5 (wP (z6 qa (z5 qH (q9 (z0 7) x8)) (dC (.int 1))))))
  (wSeq (qr 9 (wP (z5 (jn Aa) (q9 (x6 1) (q9 (x6 2) (q9 (x6 3) (q9 (x6 4) x8)))))))
  (wSeq (wFor (wIp (i7 (z6 qa (z0 7) (i8 (q9 (dC (.str "zebra")) (q9 (dC (.str "")) (q9 (dC (.str "A")) (q9 (dC (.int 1)) (q9 (dC (.int 0)) (q9 (dC .non) (q9 (dC (.bl true)) (q9 (i8 (q9 (dC (.str "a")) x8)) (q9 (xD (q9 (dC (.str "a")) (q9 (dC (.int 1)) x8))) x8))))))))))))) (v8 10) (xJ (wPT (qk (qv (z5 (vm Aa) (q9 (x6 9) (q9 (z6 qa (z6 qa (wM (z0 7) pNo (pSo (x6 8))) (i8 (q9 (x6 10) x8))) (wM (z0 7) (pSo (x6 8)) pNo)) x8)))))) (xA (wP (dC (.bl false)))) xU))
  (wSeq (xJ (wPT (dOr (qk (qv (z5 (Qb Aa) (q9 (x6 9) (q9 (x6 7) x8))))) (dOr (qk (qv (z5 (Qb Aa) (q9 (x6 9) (q9 (x6 6) x8))))) (dT (z6 ZZ (z5 (zB Aa) (q9 (x6 9) (q9 (x6 6) x8))) (dC (.bl true))))))) (xA (wP (dC (.bl false)))) xU)
  (wSeq (xJ (wPT (dOr (dT (z6 ZZ (z5 (zB Aa) (q9 (x6 9) (q9 (dRev (z0 6) (pSo (dUn wg (dC (.int 1))))) x8))) (dC (.bl true)))) (qk (qv (z5 ZT (q9 (z5 (zB Aa) (q9 (x6 9) (q9 (x6 7) x8))) (q9 (z6 qd (z5 qH (q9 (z0 7) x8)) (z5 qH (q9 (z0 6) x8))) x8))))))) (xA (wP (dC (.bl false)))) xU)
  (wSeq (qr 11 (wP (qE Aa "only" (vY Aa) (x6 9) (q9 (i8 x8) x8))))
  (wSeq (xJ (wPT (vd (dT (z6 qX (z0 6) (i8 x8))) (qk (qv (z5 (vm Aa) (q9 (x6 11) (q9 (wM (z0 6) pNo (pSo (dC (.int 1)))) x8))))))) (xA (wP (dC (.bl false)))) xU)
  (xA (wP (zm (z6 we (z5 (zB Aa) (q9 (x6 11) (q9 (i8 x8) x8))) (dC (.bl true))) (z6 we (z5 (zB Aa) (q9 (x6 9) (q9 (z6 qa (z0 6) (i8 (q9 (dC (.str "zebra")) x8))) x8))) (dC (.bl false))))))))))))))))))
theorem sc_law:v9 ["script", "rinses", "cloths", "last", "time", "stream", "order", "part", "at", "works", "thing", "empty"] ["script"] (j5 wx):=⟨rfl,rfl,rfl,by decide +kernel,rfl,by decide +kernel,by decide +kernel⟩
theorem Gr {cs:List Cl}:∀ {os:List Str},(∀ s ∈ os,s ∈ cs.map Cl.name)->∃ ns:List Cl,ns.map Cl.name=os/\∀ c ∈ ns,c ∈ cs
 | [],_=>⟨[],rfl,fun _ z=>nomatch z⟩
 | s::os,h=>by
  obtain ⟨ns,e,q⟩:=Gr (os:=os) fun x hx=>h x (List.mem_cons_of_mem _ hx)
  obtain ⟨c,hc,ec⟩:=List.mem_map.mp (h s List.mem_cons_self)
  refine ⟨c::ns,by rw [List.map_cons,e,ec],fun x hx=>?_⟩
  rcases List.mem_cons.mp hx with rfl | hx
  ·exact hc
  ·exact q x hx
theorem LI (a b:Str):qX (.at (.str a)) (.at (.str b))=some (.at (.bl (!decide (a=b)))):=by
 show some (PV.at (.bl (!qw (.str a) (.str b))))=_
 have:qw (.str a) (.str b)=decide (a=b):=rfl
 rw [this]
theorem TQ {α:Type}(l:List α)(i:Nat):l.take (min i l.length)=l.take i:=by
 rcases Nat.le_total i l.length with h | h
 ·rw [Nat.min_eq_left h]
 ·rw [Nat.min_eq_right h,List.take_length,List.take_of_length_le h]
theorem VT (cs:List Cl)(i:Nat):PV.lst (jf (j6 (cs.map Cl.name)) none (some (i:Int)))=p7 (cs.take i):=by
 unfold jf p7
 rw [HT.sIx_none,HT.sIx_nat,Nat.sub_zero,List.drop_zero,TQ]
 unfold j6
 rw [List.map_take,List.map_take]
theorem Db (cs:List Cl)(i:Nat):PV.lst (jf (j6 (cs.map Cl.name)) (some (i:Int)) none)=p7 (cs.drop i):=by
 unfold jf p7
 rw [HT.sIx_none,HT.sIx_nat]
 unfold j6
 rw [List.map_drop,List.map_drop,List.length_map,List.length_map]
 have e:(((cs.map Cl.name).map fun s=>PV.at (.str s)).drop (min i cs.length))=((cs.map Cl.name).map fun s=>PV.at (.str s)).drop i:=by
  rcases Nat.le_total i cs.length with h | h
  ·rw [Nat.min_eq_left h]
  ·rw [Nat.min_eq_right h,List.drop_eq_nil_of_le (by simp),List.drop_eq_nil_of_le (by simp;exact h)]
 rw [e,List.take_of_length_le (by simp;omega)]
theorem nm_ok {h:Nat}{c:Cl}(k:c.Ok h):c.name ≠ ("":Str):=fun z=>by
 have:=k.nm.one
 rw [z] at this
 exact absurd this (by decide +kernel)
theorem LJ {h:Nat}{c:Cl}(k:c.Ok h):c.name ≠ ("A":Str):=fun z=>by
 have:=k.nm.low 65 (by rw [z];show 65 ∈ ("A":Str).cps.toList;decide +kernel)
 omega
theorem UX {d:Dr}{xs ys:List Cl}{t:PV}(hx:∀ c ∈ xs,c ∈ d.cls)(hy:∀ c ∈ ys,c ∈ d.cls)(hl:xs.length + ys.length<=90)(ht:Thing t)(hb:itK d.names t=false ∨ ∃ c,t = .at (.str c.name)/\(c ∈ xs ∨ c ∈ ys)):zH d (j6 (xs.map Cl.name)++[t]++j6 (ys.map Cl.name)):=by
 refine ⟨?_,fun x h=>?_,?_⟩
 ·rw [List.length_append,List.length_append,qS,qS,List.length_map,List.length_map];show xs.length + 1 + ys.length<=100;omega
 ·rcases List.mem_append.mp h with h | h
  ·rcases List.mem_append.mp h with h | h
   ·obtain ⟨s,_,rfl⟩:=List.mem_map.mp h;exact .inl ⟨s,rfl⟩
   ·rw [List.mem_singleton.mp h];exact ht
  ·obtain ⟨s,_,rfl⟩:=List.mem_map.mp h;exact .inl ⟨s,rfl⟩
 ·rcases hb with hb | ⟨c,rfl,hc⟩
  ·exact .inl ⟨t,List.mem_append_left _ (List.mem_append_right _ (List.mem_singleton.mpr rfl)),hb⟩
  ·refine .inr ⟨xs.map Cl.name++[c.name]++ys.map Cl.name,?_,fun nd=>?_⟩
   ·unfold j6;rw [List.map_append,List.map_append];rfl
   ·rcases hc with hc | hc
    ·exact (List.nodup_append.mp (List.nodup_append.mp nd).1).2.2 _ (List.mem_map.mpr ⟨c,hc,rfl⟩) _ (List.mem_singleton.mpr rfl) rfl
    ·exact (List.nodup_append.mp nd).2.2 _ (List.mem_append_right _ (List.mem_singleton.mpr rfl)) _ (List.mem_map.mpr ⟨c,hc,rfl⟩) rfl
theorem Mh {K:Fg}{Aa:Addr}:∀ ns:List Int,ns.length<=63->UG K Aa (.sh (scr K ns)::List.replicate ((["script", "rinses", "cloths", "last", "time", "stream", "order", "part", "at", "works", "thing", "empty"]:List Str).length - 1) .no) (fun _=>False) fun y _=>y = .at (.bl true):=by
 intro ns h63
 have hlim:lim=1000000:=rfl
 have big:=Qt
 refine ⟨_,rfl,_,rfl,⟨ns,9,rfl,h63,by decide⟩,?_⟩
 rintro _ ⟨d,rfl,ok,ht,s0,m0,e0,hm⟩
 have em:m0=9:=by
  injection e0 with _ e0
  injection e0 with e0 _
  injection e0 with e0
  injection e0 with e0
  omega
 subst em
 have ten:=ok.ten
 refine ⟨_,rfl,_,rfl,⟨ns,rfl,h63⟩,?_⟩
 rintro _ ⟨n,rfl⟩
 have fl:(d.cls.filter fun c=>!decide (c.name=("zebra":Str))).length<=9:=Nat.le_trans (List.length_filter_le _ _) hm
 generalize hcs:(d.cls.filter fun c=>!decide (c.name=("zebra":Str)))=cs at fl
 have hsub:∀ c ∈ cs,c ∈ d.cls/\c.name ≠ ("zebra":Str):=fun c hc=>by
  rw [<- hcs] at hc
  obtain ⟨h1,h2⟩:=List.mem_filter.mp hc
  exact ⟨h1,by simpa using h2⟩
 have nd:(cs.map Cl.name).Nodup:=by rw [<- hcs];exact ok.nd.sublist (List.filter_sublist.map _)
 have ok1:(d.with cs).Ok:=WE ok (by omega) (fun c h=>(hsub c h).1) nd
 have ht1:(d.with cs).time < 40 * j8:=by show d.time < 40 * j8;omega
 refine ⟨.lst (cs.map Cl.pv),?_,?_⟩
 ·rw [<- hcs]
  exact Wb Cl.pv Cl.pv (fun c=>!decide (c.name=("zebra":Str))) d.cls rfl rfl (by omega) fun c _=>⟨_,rfl,w4 (w6 (w6 rfl rfl rfl) rfl (LI _ _)),fun _=>rfl⟩
 refine ⟨⟨n,rfl⟩,.lst (j6 (cs.map Cl.name)),?_,⟨n,rfl⟩,⟨cs.map Cl.name,rfl,by rw [List.length_map];omega⟩,?_⟩
 ·refine (xp Cl.pv (fun c=>PV.at (.str c.name)) cs rfl rfl (by omega) fun c _=>⟨_,rfl,w6 rfl rfl rfl⟩).trans ?_
  unfold j6
  rw [List.map_map];rfl
 rintro _ n2 ⟨ss,os,e,rfl,hp⟩
 injection e with e _
 injection e with e
 have e':=Vr e
 subst e'
 have hs:∀ s ∈ os,s ∈ cs.map Cl.name:=fun s h=>hp.mem_iff.mp h
 have ndo:os.Nodup:=hp.nodup_iff.mpr nd
 have ol:os.length=cs.length:=by rw [hp.length_eq,List.length_map]
 obtain ⟨O,rfl,q0⟩:=Gr (cs:=cs) hs
 rw [List.length_map] at ol
 have L0:Lst (d.with cs) O:=⟨q0,ndo⟩
 have sl:((j6 (O.map Cl.name)).length:Int)=(O.length:Int):=by rw [qS,List.length_map]
 refine ⟨j6 (O.map Cl.name),rfl,⟨n2,rfl⟩,_,rfl,n2,((j6 (O.map Cl.name)).length:Int) + 1,rfl,rfl,je (by omega) (by omega),_,rfl,?_⟩
 have hnn:0<=n2 % (((j6 (O.map Cl.name)).length:Int) + 1):=Int.emod_nonneg _ (by omega)
 obtain ⟨mn,hmn⟩:=Int.eq_ofNat_of_zero_le hnn
 rw [hmn,VT]
 generalize n2 / (((j6 (O.map Cl.name)).length:Int) + 1)=n3
 generalize hP:O.take mn=P
 have sbP:P.Sublist O:=by rw [<- hP];exact List.take_sublist _ _
 have LP:Lst (d.with cs) P:=L0.part sbP
 have lP:P.length<=O.length:=sbP.length_le
 have slP:((j6 (P.map Cl.name)).length:Int)=(P.length:Int):=by rw [qS,List.length_map]
 refine ⟨⟨n3,rfl⟩,_,rfl,n3,((j6 (P.map Cl.name)).length:Int) + 1,rfl,rfl,je (by omega) (by omega),?_⟩
 have hna:0<=n3 % (((j6 (P.map Cl.name)).length:Int) + 1):=Int.emod_nonneg _ (by omega)
 obtain ⟨an,han⟩:=Int.eq_ofNat_of_zero_le hna
 rw [han]
 generalize n3 / (((j6 (P.map Cl.name)).length:Int) + 1)=n4
 refine ⟨(d.with cs).ob Aa,j4 rfl (Yp ok1),?_⟩
 have knows:∀ s:Str,(∀ c ∈ cs,c.name ≠ s)->itK (d.with cs).names (.at (.str s))=false:=fun s h=>decide_eq_false fun z=>by
  obtain ⟨c,hc,e⟩:=List.mem_map.mp z
  exact h c hc e
 have zz:itK (d.with cs).names (.at (.str "zebra"))=false:=knows _ fun c hc=>(hsub c hc).2
 have cutX:∀ (t:PV),Thing t->(itK (d.with cs).names t=false ∨ ∃ c,t = .at (.str c.name)/\c ∈ P)->zH (d.with cs) (j6 ((P.take an).map Cl.name)++[t]++j6 ((P.drop an).map Cl.name)):=fun t h1 h2=>by
  refine UX (fun c hc=>LP.sub c (List.mem_of_mem_take hc)) (fun c hc=>LP.sub c (List.mem_of_mem_drop hc)) (by rw [List.length_take,List.length_drop];omega) h1 (h2.imp id fun ⟨c,e,hc⟩=>⟨c,e,?_⟩)
  rw [<- List.take_append_drop an P] at hc
  exact List.mem_append.mp hc
 refine ⟨j6 (P.map Cl.name)++[.at (.str "zebra"),.at (.str ""),.at (.str "A"),.at (.int 1),.at (.int 0),.at .non,.at (.bl true),.lst [.at (.str "a")],.tup [.at (.str "a"),.at (.int 1)]],?_,?_⟩
 ·exact vR (w6 rfl (xE (v5 rfl (v5 rfl (v5 rfl (v5 rfl (v5 rfl (v5 rfl (v5 rfl (v5 (xE rfl l1) (v5 (vS rfl l2) rfl))))))))) l9) (Xs (by show (j6 (P.map Cl.name)).length + 9<=lim;omega)))
 refine ZJ (fun rest ε=>(∀ x ∈ rest,Thing x/\(itK (d.with cs).names x=false ∨ ∃ c,x = .at (.str c.name)/\c ∈ P))/\∃ s10:MSlot,ε=[.sh (scr K ns),.sh (qB d.rss),.sh (.lst (cs.map Cl.pv)),.sh (.at (.int d.last)),.sh (.at (.int d.time)),m7 n4,.sh (p7 O),.sh (p7 P),.sh (.at (.int (an:Int))),.sh ((d.with cs).ob Aa),s10,.no]) ?_ ?_ _ _ ⟨?_,.no,rfl⟩
 ·rintro ε ⟨_,s10,rfl⟩
  have vl1:=BU (C:=Aa) ok1 ht1 LP
  have vl2:=BU (C:=Aa) ok1 ht1 L0
  have vp0:=Vy (C:=Aa) ok1 L0
  rw [show decide (O.length=(d.with cs).cls.length)=true from decide_eq_true ol] at vp0
  have LR:Lst (d.with cs) O.reverse:=⟨fun c hc=>q0 c (List.mem_reverse.mp hc),by rw [List.map_reverse];exact (List.reverse_perm _).nodup_iff.mpr ndo⟩
  have vpr:=Vy (C:=Aa) ok1 LR
  rw [show decide (O.reverse.length=(d.with cs).cls.length)=true from decide_eq_true (by rw [List.length_reverse];exact ol)] at vpr
  have vpp:=Vy (C:=Aa) ok1 LP
  have rv:∀ (s0 s1 s2 s3 s4 s5 s7 s8 s9 s10 s11:MSlot),dRev (z0 6) (pSo (dUn wg (dC (.int 1)))) [s0,s1,s2,s3,s4,s5,.sh (p7 O),s7,s8,s9,s10,s11]=some (p7 O.reverse):=fun _ _ _ _ _ _ _ _ _ _ _=>by
   show some (PV.lst (j6 (O.map Cl.name)).reverse)=_
   unfold p7 j6
   rw [List.map_reverse,List.map_reverse]
  have oke:((d.with cs).with []).Ok:=WE ok1 (Nat.zero_le _) (fun _ z=>nomatch z) List.nodup_nil
  have ve:=BV (C:=Aa) (ns:=[]) ok1 ⟨(fun _ z=>nomatch z),List.nodup_nil⟩
  have vpe:=Vy (C:=Aa) (ns:=[]) oke ⟨(fun _ z=>nomatch z),List.nodup_nil⟩
  have vpz:=BW (C:=Aa) ok1 (UX (d:=d.with cs) (xs:=O) (ys:=[]) (t:= .at (.str "zebra")) q0 (fun _ z=>nomatch z) (by show O.length + 0<=90;omega) (.inl ⟨_,rfl⟩) (.inl zz))
  refine vE (jg (qN (qV (j4 rfl vl1))) (jg (qN (qV (j4 rfl vl2))) (w4 (v:=false) (w6 (j4 rfl vp0) rfl rfl)))) ?_
  have eqn:∀ (s0 s1 s2 s3 s4 s5 s8 s9 s10 s11:MSlot),z6 qd (z5 qH (q9 (z0 7) x8)) (z5 qH (q9 (z0 6) x8)) [s0,s1,s2,s3,s4,s5,.sh (p7 O),.sh (p7 P),s8,s9,s10,s11]=some (.at (.bl (decide (P.length=(d.with cs).cls.length)))):=fun _ _ _ _ _ _ _ _ _ _=>by
   refine w6 (j4 rfl rfl) (j4 rfl rfl) ((QJ _ _).trans ?_)
   rw [slP,sl]
   congr 3
   have ol':O.length=(d.with cs).cls.length:=ol
   exact decide_eq_decide.mpr ⟨fun z=>by omega,fun z=>by omega⟩
  have tr:∀ b:Bool,ZT [.at (.bl b),.at (.bl b)]=some (.at (.bl true)):=fun b=>by cases b <;> rfl
  refine vE (jg (w4 (v:=false) (w6 (j4 (v5 rfl (v5 (rv _ _ _ _ _ _ _ _ _ _ _) rfl)) vpr) rfl rfl)) (qN (qV (j4 (v5 (j4 rfl vpp) (v5 (eqn _ _ _ _ _ _ _ _ _ _) rfl)) (tr _))))) ?_
  refine ⟨((d.with cs).with []).ob Aa,xF rfl (by decide) (v5 (xE rfl l0) rfl) ve,?_⟩
  refine vE ?_ ⟨_,jF (w6 (j4 (v5 rfl (v5 (xE rfl l0) rfl)) vpe) rfl rfl) (w6 (j4 (v5 rfl (v5 (w6 rfl (xE rfl l1) ((Xs (by show (j6 (O.map Cl.name)).length + 1<=lim;omega)).trans ?_)) rfl)) vpz) rfl rfl),rfl⟩
  ·cases hO:O with
   | nil=>exact Dd (w4 (v:=false) (w6 rfl (xE rfl l0) rfl))
   | cons c O' =>
    have vb:=BX (C:=Aa) oke (l:=j6 [c.name]) ⟨by show 1<=100;decide,fun x hx=>by rw [List.mem_singleton.mp hx];exact .inl ⟨_,rfl⟩,.inl ⟨.at (.str c.name),List.mem_singleton.mpr rfl,decide_eq_false (fun z:c.name ∈ ([]:List Str)=>nomatch z)⟩⟩
    have ec:PV.lst (jf (j6 ((c::O').map Cl.name)) none (some (1:Int))) = .lst (j6 [c.name]):=VT (c::O') 1
    refine VU (w4 (v:=true) (w6 rfl (xE rfl l0) rfl)) (qN (qV (j4 (v5 rfl (v5 ((Wi rfl rfl rfl).trans (congrArg some ec)) rfl)) vb)))
  ·rw [show j6 (([]:List Cl).map Cl.name)=[] from rfl,List.append_nil]
 ·rintro x rest ε ⟨hg,s10,rfl⟩
  obtain ⟨h1,h2⟩:=hg x List.mem_cons_self
  have B:=cutX x h1 h2
  have vb:=BX (C:=Aa) ok1 B
  refine ⟨_,rfl,vE (qN (qV (j4 (v5 rfl (v5 (w6 (w6 ((Wi rfl rfl rfl).trans (congrArg some (VT P an))) (xE rfl l1) (Xs ?_)) ((Wi rfl rfl rfl).trans (congrArg some (Db P an))) (Xs ?_)) rfl)) vb))) ?_⟩
  ·rw [qS,List.length_map,List.length_take];show min an P.length + 1<=lim;omega
  ·rw [List.length_append,qS,qS,List.length_map,List.length_map,List.length_take,List.length_drop];show min an P.length + 1 + (P.length - an)<=lim;omega
  ·exact ⟨fun y hy=>hg y (List.mem_cons_of_mem _ hy),_,rfl⟩
 ·intro x hx
  rcases List.mem_append.mp hx with hx | hx
  ·obtain ⟨s,hs',rfl⟩:=List.mem_map.mp hx
   obtain ⟨c,hc,rfl⟩:=List.mem_map.mp hs'
   exact ⟨.inl ⟨_,rfl⟩,.inr ⟨c,rfl,hc⟩⟩
  ·rcases List.mem_cons.mp hx with rfl | hx
   ·exact ⟨.inl ⟨_,rfl⟩,.inl zz⟩
   rcases List.mem_cons.mp hx with rfl | hx
   ·exact ⟨.inl ⟨_,rfl⟩,.inl (knows _ fun c hc=>nm_ok (ok1.cl c hc))⟩
   rcases List.mem_cons.mp hx with rfl | hx
   ·exact ⟨.inl ⟨_,rfl⟩,.inl (knows _ fun c hc=>LJ (ok1.cl c hc))⟩
   rcases List.mem_cons.mp hx with rfl | hx
   ·exact ⟨.inr (.inl ⟨_,rfl⟩),.inl rfl⟩
   rcases List.mem_cons.mp hx with rfl | hx
   ·exact ⟨.inr (.inl ⟨_,rfl⟩),.inl rfl⟩
   rcases List.mem_cons.mp hx with rfl | hx
   ·exact ⟨.inr (.inr (.inl rfl)),.inl rfl⟩
   rcases List.mem_cons.mp hx with rfl | hx
   ·exact ⟨.inr (.inr (.inr (.inl ⟨_,rfl⟩))),.inl rfl⟩
   rcases List.mem_cons.mp hx with rfl | hx
   ·exact ⟨.inr (.inr (.inr (.inr (.inl ⟨_,rfl,fun z hz=>by rw [List.mem_singleton.mp hz];rfl⟩)))),.inl rfl⟩
   rcases List.mem_cons.mp hx with rfl | hx
   ·refine ⟨.inr (.inr (.inr (.inr (.inr ⟨_,rfl,fun z hz=>?_⟩)))),.inl rfl⟩
    have h:z = .at (.str "a") ∨ z = .at (.int 1):=by simpa using hz
    rcases h with rfl | rfl <;> rfl
   cases hx
theorem ND {Aa:Addr}(F:Fun K "law" "law" wx f fd) (Ar:Fn P w K mg base 3 "is_plan" ["works", "names"] (v4 (zB Aa))) (N0:Fn P w K mg base 9 "_law_let" ["works", "names"] (v4 (Qb Aa))) (J4:Fn P w K mg base 3 "_law_more" ["script"] (spN (WP K) zu)) (Ik:Fn P w K mg base 2 "_law_order" ["stream", "names"] (spD XB Zj)) (Em:Fn P w K mg base 9 "_law_refused" ["works", "names"] (v4 (vm Aa))) (Ae:Fn P w K mg base 1 "_law_take" ["stream", "many"] vC) (Il:Fn P w K mg base 1 "_law_truth" ["found", "due"] (v4 ZT)) (Ij:Fn P w K mg base 4 "_law_works" ["script", "most"] (spV (XD K) Qx)) (Ad:mg "len"=none) (B0:mg "Works"=some (.ref Aa)) (Az:Mx P w K mg base 7 Aa "only" ["self", "names"] (n9 [false,false] (vY Aa) (Zc Ab Aa))) (B5:Mkr P w K mg base 5 Aa ["self", "rinses", "cloths", "last", "time"] (spI Aa (jn Aa))):FnOk P w K mg base v7 10 f fd ["script"] (XR K) :=
 okL (k:=9) (b:=UG K Aa) F sc_law (fun cdv A outer s H E hr=>⟨_,(@j7 _ _ _ _ _ (KE (v3 Ij hr (by decide) rfl (@x0 _ _ _ _ _ (pv 0) (@x0 _ _ _ _ _ z7 x9 (by rfl)) (by rfl))) (vt (K:=K) (n:=4) rfl rfl (xl (u9 (i:=1) sc_law.nd rfl (Or.inl rfl)) (xl (u9 (i:=2) sc_law.nd rfl (Or.inl rfl)) (xl (u9 (i:=3) sc_law.nd rfl (Or.inl rfl)) (xl (u9 (i:=4) sc_law.nd rfl (Or.inl rfl)) vw))))))
  (@j7 _ _ _ _ _ (@y6 _ _ 5 _ _ _ _ sc_law.nd rfl (Or.inl rfl) (v3 J4 hr (by decide) rfl (@x0 _ _ _ _ _ (pv 0) x9 (by rfl))) (by rfl) (.inl rfl))
  (@j7 _ _ _ _ _ (WQ (i:=2) (N':=["cloth"]) (cap:=[none]) (qu rfl rfl rfl) rfl sc_law.nd rfl rfl (@qK _ K _ _ _ rfl (pv 2)) (fun _ _ _ _ _ _=>(u9 (i:=0) (by show (["cloth"]:List Str).Nodup;decide +kernel) rfl (Or.inl rfl))) (fun _ _ _ _ _ _=>(Je (t9 (jN (K:=K) (qF hr) rfl) (i5 (o9 (K:=K) rfl) (pv 0) z7 (fun _ _=>rfl)) zD (m3 _)))) (fun _ _ _ _ _ _=>(pv 0)))
  (@j7 _ _ _ _ _ (@y6 _ _ 6 _ _ _ _ sc_law.nd rfl (Or.inl rfl) (v3 Ik hr (by decide) rfl (@x0 _ _ _ _ _ (pv 5) (@x0 _ _ _ _ _ (qJ (N':=["cloth"]) (cap:=[none]) (qu rfl rfl rfl) rfl (@qK _ K _ _ _ rfl (pv 2)) (fun _ _ _ _ _ _=>(u9 (i:=0) (by show (["cloth"]:List Str).Nodup;decide +kernel) rfl (Or.inl rfl))) (fun _ _ _ _ _ _=>qR) (fun _ _ _ _ _ _=>(i5 (o9 (K:=K) rfl) (pv 0) z7 (fun _ _=>rfl)))) x9 (by rfl)) (by rfl))) (by rfl) (.inl rfl))
  (@j7 _ _ _ _ _ (@y6 _ _ 7 _ _ _ _ sc_law.nd rfl (Or.inl rfl) (Jb (Vo (K:=K) rfl) (pv 6) Xz (Qj (v3 Ae hr (by decide) rfl (@x0 _ _ _ _ _ (pv 5) (@x0 _ _ _ _ _ (w5 (qP (K:=K) rfl) (m8 (xL (K:=K) rfl) rfl Ad PySem.boot_len (@x0 _ _ _ _ _ (pv 6) x9 (by rfl))) z7) x9 (by rfl)) (by rfl))))) (by rfl) (.inl rfl))
  (@j7 _ _ _ _ _ (@y6 _ _ 8 _ _ _ _ sc_law.nd rfl (Or.inl rfl) (v3 Ae hr (by decide) rfl (@x0 _ _ _ _ _ (pv 5) (@x0 _ _ _ _ _ (w5 (qP (K:=K) rfl) (m8 (xL (K:=K) rfl) rfl Ad PySem.boot_len (@x0 _ _ _ _ _ (pv 7) x9 (by rfl))) z7) x9 (by rfl)) (by rfl))) (by rfl) (.inl rfl))
  (@j7 _ _ _ _ _ (@y6 _ _ 9 _ _ _ _ sc_law.nd rfl (Or.inl rfl) (WK B5 hr (by decide) rfl B0 (@x0 _ _ _ _ _ (pv 1) (@x0 _ _ _ _ _ (pv 2) (@x0 _ _ _ _ _ (pv 3) (@x0 _ _ _ _ _ (pv 4) x9 (by rfl)) (by rfl)) (by rfl)) (by rfl))) (by rfl) (.inl rfl))
  (@j7 _ _ _ _ _ (zV PassesOwn.never rfl (@qK _ K _ _ _ rfl (w5 (qP (K:=K) rfl) (pv 7) (@qA _ _ _ _ (@x0 _ _ _ _ _ zD (@x0 _ _ _ _ _ zD (@x0 _ _ _ _ _ zD (@x0 _ _ _ _ _ z7 (@x0 _ _ _ _ _ z7 (@x0 _ _ _ _ _ Qi (@x0 _ _ _ _ _ qQ (@x0 _ _ _ _ _ (@qA _ _ _ _ (@x0 _ _ _ _ _ zD x9 (by rfl))) (@x0 _ _ _ _ _ (@zT _ _ _ _ _ (@x0 _ _ _ _ _ zD (@x0 _ _ _ _ _ z7 x9 (by rfl)) (by rfl))) x9 (by rfl)) (by rfl)) (by rfl)) (by rfl)) (by rfl)) (by rfl)) (by rfl)) (by rfl)) (by rfl))))) (u9 (i:=10) sc_law.nd rfl (Or.inl rfl))
   (@z9 _ _ _ (n8 (xm (qY (K:=K) rfl (v3 Em hr (by decide) rfl (@x0 _ _ _ _ _ (pv 9) (@x0 _ _ _ _ _ (w5 (qP (K:=K) rfl) (w5 (qP (K:=K) rfl) (Jb (Vo (K:=K) rfl) (pv 7) Xz (Qj (pv 8))) (@qA _ _ _ _ (@x0 _ _ _ _ _ (pv 10) x9 (by rfl)))) (Jb (Vo (K:=K) rfl) (pv 7) (Qj (pv 8)) Xz)) x9 (by rfl)) (by rfl))) (fun _=>rfl))) (@z9 _ _ _ (w9 qQ)) o4)))
  (@j7 _ _ _ _ _ (n8 (PW.pt (jr (xm (qY (K:=K) rfl (v3 N0 hr (by decide) rfl (@x0 _ _ _ _ _ (pv 9) (@x0 _ _ _ _ _ (pv 7) x9 (by rfl)) (by rfl))) (fun _=>rfl))) (jr (xm (qY (K:=K) rfl (v3 N0 hr (by decide) rfl (@x0 _ _ _ _ _ (pv 9) (@x0 _ _ _ _ _ (pv 6) x9 (by rfl)) (by rfl))) (fun _=>rfl))) (vy (t9 (Kt) (v3 Ar hr (by decide) rfl (@x0 _ _ _ _ _ (pv 9) (@x0 _ _ _ _ _ (pv 6) x9 (by rfl)) (by rfl))) qQ (m3 _)))))) (@z9 _ _ _ (w9 qQ)) o4)
  (@j7 _ _ _ _ _ (n8 (PW.pt (jr (t9 (Kt) (v3 Ar hr (by decide) rfl (@x0 _ _ _ _ _ (pv 9) (@x0 _ _ _ _ _ (Hy (K:=K) rfl (pv 6) (Qj (wm wz z7))) x9 (by rfl)) (by rfl))) qQ (m3 _)) (vy (xm (qY (K:=K) rfl (v3 Il hr (by decide) rfl (@x0 _ _ _ _ _ (v3 Ar hr (by decide) rfl (@x0 _ _ _ _ _ (pv 9) (@x0 _ _ _ _ _ (pv 7) x9 (by rfl)) (by rfl))) (@x0 _ _ _ _ _ (zg (zf (K:=K) (qF hr) rfl) (m8 (xL (K:=K) rfl) rfl Ad PySem.boot_len (@x0 _ _ _ _ _ (pv 7) x9 (by rfl))) (m8 (xL (K:=K) rfl) rfl Ad PySem.boot_len (@x0 _ _ _ _ _ (pv 6) x9 (by rfl))) (m3 _)) x9 (by rfl)) (by rfl))) (fun _=>rfl)))))) (@z9 _ _ _ (w9 qQ)) o4)
  (@j7 _ _ _ _ _ (@y6 _ _ 11 _ _ _ _ sc_law.nd rfl (Or.inl rfl) (WL Az hr (by decide) Kx (pv 9) (@x0 _ _ _ _ _ (@qA _ _ _ _ x9) x9 (by rfl))) (by rfl) (.inl rfl))
  (@j7 _ _ _ _ _ (n8 (PW.pt (Jg (t9 (jN (K:=K) (qF hr) rfl) (pv 6) (@qA _ _ _ _ x9) (m3 _)) (Jh (xm (qY (K:=K) rfl (v3 Em hr (by decide) rfl (@x0 _ _ _ _ _ (pv 11) (@x0 _ _ _ _ _ (Jb (Vo (K:=K) rfl) (pv 6) Xz (Qj z7)) x9 (by rfl)) (by rfl))) (fun _=>rfl)))))) (@z9 _ _ _ (w9 qQ)) o4)
  (@z9 _ _ _ (w9 (vo (zg (Xo) (v3 Ar hr (by decide) rfl (@x0 _ _ _ _ _ (pv 11) (@x0 _ _ _ _ _ (@qA _ _ _ _ x9) x9 (by rfl)) (by rfl))) qQ (m3 _)) (vq (zg (Xo) (v3 Ar hr (by decide) rfl (@x0 _ _ _ _ _ (pv 9) (@x0 _ _ _ _ _ (w5 (qP (K:=K) rfl) (pv 6) (@qA _ _ _ _ (@x0 _ _ _ _ _ zD x9 (by rfl)))) x9 (by rfl)) (by rfl))) qQ (m3 _)))))))))))))))))),
  (by repeat' first | infer_instance | (refine @Mi.instSemWSTSeqWSeq _ _ _ _ ?_ ?_) | (apply @Mi.instSemWSTForWForOfSemWIOfSemWG))⟩) Mh
theorem Dk {K:Fg}{C:Addr}(h:PySem.W.hasDictIn K C=true):(PySem.W.clsIn K C).isSome=true:=by
 unfold PySem.W.hasDictIn at h
 cases e:PySem.W.clsIn K C with
 | none=>rw [e] at h;cases h
 | some cd=>rfl
theorem Cc {K:Fg}{fd:FuncData}{ps:List Str}{T:Addr}{ob:Obj}{items:Array Value}{n:Nat}(hd:fd.defaults = .ref T)(q:K.lookup T=some ob)(hs:ob.data = .seq items n)
  (h:∀ us:List Value,us.length=ps.length->∃ k:Option (Array Value)->Sem (List (Str × Value)),bindArgs fd ⟨us,[]⟩=seqItems? fd.defaults >>= k/\k (some items)=pure (ps.zip us)):Binds K fd ps []:=fun s us X hl=>by
 rw [List.append_nil] at hl ⊢
 obtain ⟨k,e1,e2⟩:=h us hl
 exact BindsTo.of_defaults hd (X _ _ q) hs e1 e2
abbrev so (f:Addr):Option (Option Value):=some (some (.ref f))
abbrev fO (oc:Value)(od:Option Addr)(x q:Str)(st:Stmt)(dV kV dc pm:Value)(an:Option Addr)(cd ct:Value)(sl:Array (Option Value)):Option Obj:=some ⟨oc,od,.func (PySem.W.fnOf x q (zx st) (qy st) (j5 st) dV kV dc pm an cd ct),sl⟩
theorem o3 (P:Program)(w:World)(base:Heap){K:Fg}{mg:Str->Option Value}{k:Nat}{f:Addr}{fd:FuncData}{ps:List Str}{sp:Sp}{x:Str}(h:FnOk P w K mg base v7 k f fd ps sp)(a:mg x=some (.ref f))(kp:PySem.W.keepIn K (.ref f)=true)(b:Binds K fd ps []):Fn P w K mg base k x ps sp:=⟨f,fd,h,a,kp,b⟩
theorem fxM (P:Program)(w:World)(base:Heap){K:Fg}{mg:Str->Option Value}{k:Nat}{f:Addr}{fd:FuncData}{ps:List Str}{sp:Sp}{x:Str}(h:FnOk P w K mg base (o6 P w) k f fd ps sp)(a:mg x=some (.ref f))(kp:PySem.W.keepIn K (.ref f)=true)(b:Binds K fd ps []):Fx P w K mg base k x ps sp:=⟨f,fd,h,a,kp,b⟩
theorem bi1 {K:Fg}{x qual:Str}{st:Stmt}{f:Addr}{fd:FuncData}{p:Str}(F:Fun K x qual st f fd)(h:∀ (kV doc pm:Value) (an:Option Addr) (cdv ct u:Value),bindArgs (PySem.W.fnOf x qual (zx st) (qy st) (j5 st) .none kV doc pm an cdv ct) ⟨[u],[]⟩=pure [(p,u)]):Binds K fd [p] []:=F.binds fun a b c d e g us hl=>match us,hl with | [_],_=>h a b c d e g _
theorem o7 {K:Fg}{x qual:Str}{st:Stmt}{f:Addr}{fd:FuncData}{p q:Str}(F:Fun K x qual st f fd)(h:∀ (kV doc pm:Value) (an:Option Addr) (cdv ct u v:Value),bindArgs (PySem.W.fnOf x qual (zx st) (qy st) (j5 st) .none kV doc pm an cdv ct) ⟨[u,v],[]⟩=pure [(p,u),(q,v)]):Binds K fd [p,q] []:=F.binds fun a b c d e g us hl=>match us,hl with | [_,_],_=>h a b c d e g _ _
theorem all_mk {l:PySem.W.OpenLaw}{w:World}{K:Fg}{h:Heap}{mg:Str->Option Value}{fa f0 f1 f2 f3 f4 f5 f6 f7 f8 f9 f10 f11 f12 f13 f14 f15 f16 f17 f18 f19 f20 f21 f22 f23 f24 f25 f26 f27 f28 f29 f30 f31 f32 f33 f34 f35 f36 f37 f38 f39 f40 f41 f42 f43 f44 f45 f46 f47 f48 f49 f50 f51 f52 f53 f54 f55 f56 f57 f58:Addr}{od0 od1 od2 od3 od4 od5 od6 od7 od8 od9 od10 od11 od12 od13 od14 od15 od16 od17 od18 od19 od20 od21 od22 od23 od24 od25 od26 od27 od28 od29 od30 od31 od32 od33 od34 od35 od36 od37 od38 od39 od40 od41 od42 od43 od44 od45 od46 od47 od48 od49 od50 od51 od52 od53 od54 od55 od56 od57 od58 an0 an1 an2 an3 an4 an5 an6 an7 an8 an9 an10 an11 an12 an13 an14 an15 an16 an17 an18 an19 an20 an21 an22 an23 an24 an25 an26 an27 an28 an29 an30 an31 an32 an33 an34 an35 an36 an37 an38 an39 an40 an41 an42 an43 an44 an45 an46 an47 an48 an49 an50 an51 an52 an53 an54 an55 an56 an57 an58:Option Addr}{sl0 sl1 sl2 sl3 sl4 sl5 sl6 sl7 sl8 sl9 sl10 sl11 sl12 sl13 sl14 sl15 sl16 sl17 sl18 sl19 sl20 sl21 sl22 sl23 sl24 sl25 sl26 sl27 sl28 sl29 sl30 sl31 sl32 sl33 sl34 sl35 sl36 sl37 sl38 sl39 sl40 sl41 sl42 sl43 sl44 sl45 sl46 sl47 sl48 sl49 sl50 sl51 sl52 sl53 sl54 sl55 sl56 sl57 sl58:Array (Option Value)}{oc0 oc1 oc2 oc3 oc4 oc5 oc6 oc7 oc8 oc9 oc10 oc11 oc12 oc13 oc14 oc15 oc16 oc17 oc18 oc19 oc20 oc21 oc22 oc23 oc24 oc25 oc26 oc27 oc28 oc29 oc30 oc31 oc32 oc33 oc34 oc35 oc36 oc37 oc38 oc39 oc40 oc41 oc42 oc43 oc44 oc45 oc46 oc47 oc48 oc49 oc50 oc51 oc52 oc53 oc54 oc55 oc56 oc57 oc58 kV0 kV1 kV2 kV3 kV4 kV5 kV6 kV7 kV8 kV9 kV10 kV11 kV12 kV13 kV14 kV15 kV16 kV17 kV18 kV19 kV20 kV21 kV22 kV23 kV24 kV25 kV26 kV27 kV28 kV29 kV30 kV31 kV32 kV33 kV34 kV35 kV36 kV37 kV38 kV39 kV40 kV41 kV42 kV43 kV44 kV45 kV46 kV47 kV48 kV49 kV50 kV51 kV52 kV53 kV54 kV55 kV56 kV57 kV58 dc0 dc1 dc2 dc3 dc4 dc5 dc6 dc7 dc8 dc9 dc10 dc11 dc12 dc13 dc14 dc15 dc16 dc17 dc18 dc19 dc20 dc21 dc22 dc23 dc24 dc25 dc26 dc27 dc28 dc29 dc30 dc31 dc32 dc33 dc34 dc35 dc36 dc37 dc38 dc39 dc40 dc41 dc42 dc43 dc44 dc45 dc46 dc47 dc48 dc49 dc50 dc51 dc52 dc53 dc54 dc55 dc56 dc57 dc58 pm0 pm1 pm2 pm3 pm4 pm5 pm6 pm7 pm8 pm9 pm10 pm11 pm12 pm13 pm14 pm15 pm16 pm17 pm18 pm19 pm20 pm21 pm22 pm23 pm24 pm25 pm26 pm27 pm28 pm29 pm30 pm31 pm32 pm33 pm34 pm35 pm36 pm37 pm38 pm39 pm40 pm41 pm42 pm43 pm44 pm45 pm46 pm47 pm48 pm49 pm50 pm51 pm52 pm53 pm54 pm55 pm56 pm57 pm58 cd0 cd1 cd2 cd3 cd4 cd5 cd6 cd7 cd8 cd9 cd10 cd11 cd12 cd13 cd14 cd15 cd16 cd17 cd18 cd19 cd20 cd21 cd22 cd23 cd24 cd25 cd26 cd27 cd28 cd29 cd30 cd31 cd32 cd33 cd34 cd35 cd36 cd37 cd38 cd39 cd40 cd41 cd42 cd43 cd44 cd45 cd46 cd47 cd48 cd49 cd50 cd51 cd52 cd53 cd54 cd55 cd56 cd57 cd58 ct0 ct1 ct2 ct3 ct4 ct5 ct6 ct7 ct8 ct9 ct10 ct11 ct12 ct13 ct14 ct15 ct16 ct17 ct18 ct19 ct20 ct21 ct22 ct23 ct24 ct25 ct26 ct27 ct28 ct29 ct30 ct31 ct32 ct33 ct34 ct35 ct36 ct37 ct38 ct39 ct40 ct41 ct42 ct43 ct44 ct45 ct46 ct47 ct48 ct49 ct50 ct51 ct52 ct53 ct54 ct55 ct56 ct57 ct58:Value}{Am Ap Ab Ah Ay Aa:Addr}{T49:Addr}{qc49 qv49_0 qv49_1:Value}{qd49:Option Addr}{qn49:Nat}{qs49:Array (Option Value)}{D4 D5 El Im:Tok}(X:K.In h)(G:h.Ns mainGlobals mg)(hfa:mg "law"=some (.ref fa))
  (N1:W.nsIn K mainGlobals "NoCloth"=some (some (.ref Am)))
  (Q5:W.nsIn K mainGlobals "NoName"=some (some (.ref Ap)))
  (N5:W.nsIn K mainGlobals "NoPlan"=some (some (.ref Ab)))
  (Ih:W.nsIn K mainGlobals "RinseError"=some (some (.ref Ah)))
  (R7:W.nsIn K mainGlobals "Twice"=some (some (.ref Ay)))
  (R6:W.nsIn K mainGlobals "Works"=some (some (.ref Aa)))
  (N7:PySem.W.plainGet K Aa Str.empty=true) (Q1:PySem.W.hasDictIn K Aa=true) (Q7:PySem.W.plainOver K Aa=true) (N4:W.findIn K (.ref Aa) "__setattr__"=some (some (.builtin "object.__setattr__"))) (N8:PySem.W.makesIn K Aa=true) (Q0:W.keepIn K (.ref Aa)=true)
  (E7:W.findIn K (.ref Aa) "given"=some none)
  (Iq:W.findIn K (.ref Aa) "held"=some none)
  (Ir:W.findIn K (.ref Aa) "last"=some none)
  (E8:W.findIn K (.ref Aa) "least"=some none)
  (Ig:W.findIn K (.ref Aa) "time"=some none)
  (a0:W.nsIn K mainGlobals "_law_mixed"=so f0) (l0:K.lookup f0=fO oc0 od0 "_law_mixed" "_law_mixed" JX .none kV0 dc0 pm0 an0 cd0 ct0 sl0) (c0:W.codeIn K cd0 "_law_mixed"=true) (k0:W.keepIn K (.ref f0)=true)
  (a1:W.nsIn K mainGlobals "_law_take"=so f1) (l1:K.lookup f1=fO oc1 od1 "_law_take" "_law_take" Vi .none kV1 dc1 pm1 an1 cd1 ct1 sl1) (c1:W.codeIn K cd1 "_law_take"=true) (k1:W.keepIn K (.ref f1)=true)
  (a2:W.nsIn K mainGlobals "_law_stream"=so f2) (l2:K.lookup f2=fO oc2 od2 "_law_stream" "_law_stream" XO .none kV2 dc2 pm2 an2 cd2 ct2 sl2) (c2:W.codeIn K cd2 "_law_stream"=true) (k2:W.keepIn K (.ref f2)=true)
  (a3:W.nsIn K mainGlobals "_law_more"=so f3) (l3:K.lookup f3=fO oc3 od3 "_law_more" "_law_more" JY .none kV3 dc3 pm3 an3 cd3 ct3 sl3) (c3:W.codeIn K cd3 "_law_more"=true) (k3:W.keepIn K (.ref f3)=true)
  (a4:W.nsIn K mainGlobals "_law_rinse"=so f4) (l4:K.lookup f4=fO oc4 od4 "_law_rinse" "_law_rinse" Vd .none kV4 dc4 pm4 an4 cd4 ct4 sl4) (c4:W.codeIn K cd4 "_law_rinse"=true) (k4:W.keepIn K (.ref f4)=true)
  (a5:W.nsIn K mainGlobals "_law_rinses"=so f5) (l5:K.lookup f5=fO oc5 od5 "_law_rinses" "_law_rinses" Ve .none kV5 dc5 pm5 an5 cd5 ct5 sl5) (c5:W.codeIn K cd5 "_law_rinses"=true) (k5:W.keepIn K (.ref f5)=true)
  (a6:W.nsIn K mainGlobals "_law_name"=so f6) (l6:K.lookup f6=fO oc6 od6 "_law_name" "_law_name" JZ .none kV6 dc6 pm6 an6 cd6 ct6 sl6) (c6:W.codeIn K cd6 "_law_name"=true) (k6:W.keepIn K (.ref f6)=true)
  (a7:W.nsIn K mainGlobals "_law_cloth"=so f7) (l7:K.lookup f7=fO oc7 od7 "_law_cloth" "_law_cloth" Jy .none kV7 dc7 pm7 an7 cd7 ct7 sl7) (c7:W.codeIn K cd7 "_law_cloth"=true) (k7:W.keepIn K (.ref f7)=true)
  (a8:W.nsIn K mainGlobals "_law_works"=so f8) (l8:K.lookup f8=fO oc8 od8 "_law_works" "_law_works" Vm .none kV8 dc8 pm8 an8 cd8 ct8 sl8) (c8:W.codeIn K cd8 "_law_works"=true) (k8:W.keepIn K (.ref f8)=true)
  (a9:W.nsIn K mainGlobals "_law_order"=so f9) (l9:K.lookup f9=fO oc9 od9 "_law_order" "_law_order" Vb .none kV9 dc9 pm9 an9 cd9 ct9 sl9) (c9:W.codeIn K cd9 "_law_order"=true) (k9:W.keepIn K (.ref f9)=true)
  (a10:W.nsIn K mainGlobals "is_whole"=so f10) (l10:K.lookup f10=fO oc10 od10 "is_whole" "is_whole" JM .none kV10 dc10 pm10 an10 cd10 ct10 sl10) (c10:W.codeIn K cd10 "is_whole"=true) (k10:W.keepIn K (.ref f10)=true)
  (a11:W.nsIn K mainGlobals "name_of"=so f11) (l11:K.lookup f11=fO oc11 od11 "name_of" "name_of" Va .none kV11 dc11 pm11 an11 cd11 ct11 sl11) (c11:W.codeIn K cd11 "name_of"=true) (k11:W.keepIn K (.ref f11)=true)
  (a12:W.nsIn K mainGlobals "hue_of"=so f12) (l12:K.lookup f12=fO oc12 od12 "hue_of" "hue_of" JF .none kV12 dc12 pm12 an12 cd12 ct12 sl12) (c12:W.codeIn K cd12 "hue_of"=true) (k12:W.keepIn K (.ref f12)=true)
  (a13:W.nsIn K mainGlobals "length_of"=so f13) (l13:K.lookup f13=fO oc13 od13 "length_of" "length_of" JU .none kV13 dc13 pm13 an13 cd13 ct13 sl13) (c13:W.codeIn K cd13 "length_of"=true) (k13:W.keepIn K (.ref f13)=true)
  (a14:W.nsIn K mainGlobals "due_of"=so f14) (l14:K.lookup f14=fO oc14 od14 "due_of" "due_of" JB .none kV14 dc14 pm14 an14 cd14 ct14 sl14) (c14:W.codeIn K cd14 "due_of"=true) (k14:W.keepIn K (.ref f14)=true)
  (a15:W.nsIn K mainGlobals "weight_of"=so f15) (l15:K.lookup f15=fO oc15 od15 "weight_of" "weight_of" Vl .none kV15 dc15 pm15 an15 cd15 ct15 sl15) (c15:W.codeIn K cd15 "weight_of"=true) (k15:W.keepIn K (.ref f15)=true)
  (a16:W.nsIn K mainGlobals "is_from"=so f16) (l16:K.lookup f16=fO oc16 od16 "is_from" "is_from" JH .none kV16 dc16 pm16 an16 cd16 ct16 sl16) (c16:W.codeIn K cd16 "is_from"=true) (k16:W.keepIn K (.ref f16)=true)
  (a17:W.nsIn K mainGlobals "is_name"=so f17) (l17:K.lookup f17=fO oc17 od17 "is_name" "is_name" JJ .none kV17 dc17 pm17 an17 cd17 ct17 sl17) (c17:W.codeIn K cd17 "is_name"=true) (k17:W.keepIn K (.ref f17)=true)
  (a18:W.nsIn K mainGlobals "is_cloth"=so f18) (l18:K.lookup f18=fO oc18 od18 "is_cloth" "is_cloth" JG .none kV18 dc18 pm18 an18 cd18 ct18 sl18) (c18:W.codeIn K cd18 "is_cloth"=true) (k18:W.keepIn K (.ref f18)=true)
  (a19:W.nsIn K mainGlobals "is_rinse_row"=so f19) (l19:K.lookup f19=fO oc19 od19 "is_rinse_row" "is_rinse_row" JL .none kV19 dc19 pm19 an19 cd19 ct19 sl19) (c19:W.codeIn K cd19 "is_rinse_row"=true) (k19:W.keepIn K (.ref f19)=true)
  (a20:W.nsIn K mainGlobals "check_rinses"=so f20) (l20:K.lookup f20=fO oc20 od20 "check_rinses" "check_rinses" Jw .none kV20 dc20 pm20 an20 cd20 ct20 sl20) (c20:W.codeIn K cd20 "check_rinses"=true) (k20:W.keepIn K (.ref f20)=true)
  (a21:W.nsIn K mainGlobals "straight_ways"=so f21) (l21:K.lookup f21=fO oc21 od21 "straight_ways" "straight_ways" Vg .none kV21 dc21 pm21 an21 cd21 ct21 sl21) (c21:W.codeIn K cd21 "straight_ways"=true) (k21:W.keepIn K (.ref f21)=true)
  (a22:W.nsIn K mainGlobals "joined"=so f22) (l22:K.lookup f22=fO oc22 od22 "joined" "joined" JN .none kV22 dc22 pm22 an22 cd22 ct22 sl22) (c22:W.codeIn K cd22 "joined"=true) (k22:W.keepIn K (.ref f22)=true)
  (a23:W.nsIn K mainGlobals "lesser"=so f23) (l23:K.lookup f23=fO oc23 od23 "lesser" "lesser" JV .none kV23 dc23 pm23 an23 cd23 ct23 sl23) (c23:W.codeIn K cd23 "lesser"=true) (k23:W.keepIn K (.ref f23)=true)
  (a24:W.nsIn K mainGlobals "ways_through"=so f24) (l24:K.lookup f24=fO oc24 od24 "ways_through" "ways_through" Vk .none kV24 dc24 pm24 an24 cd24 ct24 sl24) (c24:W.codeIn K cd24 "ways_through"=true) (k24:W.keepIn K (.ref f24)=true)
  (a25:W.nsIn K mainGlobals "least_ways"=so f25) (l25:K.lookup f25=fO oc25 od25 "least_ways" "least_ways" JT .none kV25 dc25 pm25 an25 cd25 ct25 sl25) (c25:W.codeIn K cd25 "least_ways"=true) (k25:W.keepIn K (.ref f25)=true)
  (a26:W.nsIn K mainGlobals "sums_of"=so f26) (l26:K.lookup f26=fO oc26 od26 "sums_of" "sums_of" Vh .none kV26 dc26 pm26 an26 cd26 ct26 sl26) (c26:W.codeIn K cd26 "sums_of"=true) (k26:W.keepIn K (.ref f26)=true)
  (a27:W.nsIn K mainGlobals "least_rinses"=so f27) (l27:K.lookup f27=fO oc27 od27 "least_rinses" "least_rinses" JS .none kV27 dc27 pm27 an27 cd27 ct27 sl27) (c27:W.codeIn K cd27 "least_rinses"=true) (k27:W.keepIn K (.ref f27)=true)
  (a28:W.nsIn K mainGlobals "check_start"=so f28) (l28:K.lookup f28=fO oc28 od28 "check_start" "check_start" Jx .none kV28 dc28 pm28 an28 cd28 ct28 sl28) (c28:W.codeIn K cd28 "check_start"=true) (k28:W.keepIn K (.ref f28)=true)
  (a29:W.nsIn K mainGlobals "check_cloths"=so f29) (l29:K.lookup f29=fO oc29 od29 "check_cloths" "check_cloths" Ju .none kV29 dc29 pm29 an29 cd29 ct29 sl29) (c29:W.codeIn K cd29 "check_cloths"=true) (k29:W.keepIn K (.ref f29)=true)
  (a30:W.findIn K (.ref Aa) "hues"=so f30) (i30:W.isFn K (.ref f30)=true) (l30:K.lookup f30=fO oc30 od30 "hues" "Works.hues" Jm .none kV30 dc30 pm30 an30 cd30 ct30 sl30) (c30:W.codeIn K cd30 "Works.hues"=true) (k30:W.keepIn K (.ref f30)=true)
  (a31:W.findIn K (.ref Aa) "tray_rinse"=so f31) (i31:W.isFn K (.ref f31)=true) (l31:K.lookup f31=fO oc31 od31 "tray_rinse" "Works.tray_rinse" Jr .none kV31 dc31 pm31 an31 cd31 ct31 sl31) (c31:W.codeIn K cd31 "Works.tray_rinse"=true) (k31:W.keepIn K (.ref f31)=true)
  (a32:W.findIn K (.ref Aa) "rinse"=so f32) (i32:W.isFn K (.ref f32)=true) (l32:K.lookup f32=fO oc32 od32 "rinse" "Works.rinse" Jp .none kV32 dc32 pm32 an32 cd32 ct32 sl32) (c32:W.codeIn K cd32 "Works.rinse"=true) (k32:W.keepIn K (.ref f32)=true)
  (a33:W.findIn K (.ref Aa) "start"=so f33) (i33:W.isFn K (.ref f33)=true) (l33:K.lookup f33=fO oc33 od33 "start" "Works.start" Jq .none kV33 dc33 pm33 an33 cd33 ct33 sl33) (c33:W.codeIn K cd33 "Works.start"=true) (k33:W.keepIn K (.ref f33)=true)
  (a34:W.findIn K (.ref Aa) "names"=so f34) (i34:W.isFn K (.ref f34)=true) (l34:K.lookup f34=fO oc34 od34 "names" "Works.names" Jn .none kV34 dc34 pm34 an34 cd34 ct34 sl34) (c34:W.codeIn K cd34 "Works.names"=true) (k34:W.keepIn K (.ref f34)=true)
  (a35:W.findIn K (.ref Aa) "cloth"=so f35) (i35:W.isFn K (.ref f35)=true) (l35:K.lookup f35=fO oc35 od35 "cloth" "Works.cloth" Jk .none kV35 dc35 pm35 an35 cd35 ct35 sl35) (c35:W.codeIn K cd35 "Works.cloth"=true) (k35:W.keepIn K (.ref f35)=true)
  (a36:W.nsIn K mainGlobals "late_by"=so f36) (l36:K.lookup f36=fO oc36 od36 "late_by" "late_by" JP .none kV36 dc36 pm36 an36 cd36 ct36 sl36) (c36:W.codeIn K cd36 "late_by"=true) (k36:W.keepIn K (.ref f36)=true)
  (a37:W.nsIn K mainGlobals "is_kept"=so f37) (l37:K.lookup f37=fO oc37 od37 "is_kept" "is_kept" JI .none kV37 dc37 pm37 an37 cd37 ct37 sl37) (c37:W.codeIn K cd37 "is_kept"=true) (k37:W.keepIn K (.ref f37)=true)
  (a38:W.nsIn K mainGlobals "are_names"=so f38) (l38:K.lookup f38=fO oc38 od38 "are_names" "are_names" Js .none kV38 dc38 pm38 an38 cd38 ct38 sl38) (c38:W.codeIn K cd38 "are_names"=true) (k38:W.keepIn K (.ref f38)=true)
  (a39:W.nsIn K mainGlobals "check_names"=so f39) (l39:K.lookup f39=fO oc39 od39 "check_names" "check_names" Jv .none kV39 dc39 pm39 an39 cd39 ct39 sl39) (c39:W.codeIn K cd39 "check_names"=true) (k39:W.keepIn K (.ref f39)=true)
  (a40:W.nsIn K mainGlobals "done_rows"=so f40) (l40:K.lookup f40=fO oc40 od40 "done_rows" "done_rows" JA .none kV40 dc40 pm40 an40 cd40 ct40 sl40) (c40:W.codeIn K cd40 "done_rows"=true) (k40:W.keepIn K (.ref f40)=true)
  (a41:W.nsIn K mainGlobals "ended_cloths"=so f41) (l41:K.lookup f41=fO oc41 od41 "ended_cloths" "ended_cloths" JE .none kV41 dc41 pm41 an41 cd41 ct41 sl41) (c41:W.codeIn K cd41 "ended_cloths"=true) (k41:W.keepIn K (.ref f41)=true)
  (a42:W.nsIn K mainGlobals "cost_of"=so f42) (l42:K.lookup f42=fO oc42 od42 "cost_of" "cost_of" Jz .none kV42 dc42 pm42 an42 cd42 ct42 sl42) (c42:W.codeIn K cd42 "cost_of"=true) (k42:W.keepIn K (.ref f42)=true)
  (a43:W.nsIn K mainGlobals "lateness"=so f43) (l43:K.lookup f43=fO oc43 od43 "lateness" "lateness" JR .none kV43 dc43 pm43 an43 cd43 ct43 sl43) (c43:W.codeIn K cd43 "lateness"=true) (k43:W.keepIn K (.ref f43)=true)
  (a44:W.nsIn K mainGlobals "keeps"=so f44) (l44:K.lookup f44=fO oc44 od44 "keeps" "keeps" JO .none kV44 dc44 pm44 an44 cd44 ct44 sl44) (c44:W.codeIn K cd44 "keeps"=true) (k44:W.keepIn K (.ref f44)=true)
  (a45:W.nsIn K mainGlobals "late_ones"=so f45) (l45:K.lookup f45=fO oc45 od45 "late_ones" "late_ones" JQ .none kV45 dc45 pm45 an45 cd45 ct45 sl45) (c45:W.codeIn K cd45 "late_ones"=true) (k45:W.keepIn K (.ref f45)=true)
  (a46:W.nsIn K mainGlobals "end_of"=so f46) (l46:K.lookup f46=fO oc46 od46 "end_of" "end_of" JD .none kV46 dc46 pm46 an46 cd46 ct46 sl46) (c46:W.codeIn K cd46 "end_of"=true) (k46:W.keepIn K (.ref f46)=true)
  (a47:W.nsIn K mainGlobals "is_plan"=so f47) (l47:K.lookup f47=fO oc47 od47 "is_plan" "is_plan" JK .none kV47 dc47 pm47 an47 cd47 ct47 sl47) (c47:W.codeIn K cd47 "is_plan"=true) (k47:W.keepIn K (.ref f47)=true)
  (a48:W.findIn K (.ref Aa) "cloths_but"=so f48) (i48:W.isFn K (.ref f48)=true) (l48:K.lookup f48=fO oc48 od48 "cloths_but" "Works.cloths_but" Jl .none kV48 dc48 pm48 an48 cd48 ct48 sl48) (c48:W.codeIn K cd48 "Works.cloths_but"=true) (k48:W.keepIn K (.ref f48)=true)
  (a49:W.findIn K (.ref Aa) "__init__"=so f49) (i49:W.isFn K (.ref f49)=true) (l49:K.lookup f49=fO oc49 od49 "__init__" "Works.__init__" ww (.ref T49) kV49 dc49 pm49 an49 cd49 ct49 sl49) (c49:W.codeIn K cd49 "Works.__init__"=true) (k49:W.keepIn K (.ref f49)=true)
  (q49:K.lookup T49=some ⟨qc49,qd49,.seq #[qv49_0,qv49_1] qn49,qs49⟩)
  (a50:W.findIn K (.ref Aa) "only"=so f50) (i50:W.isFn K (.ref f50)=true) (l50:K.lookup f50=fO oc50 od50 "only" "Works.only" Jo .none kV50 dc50 pm50 an50 cd50 ct50 sl50) (c50:W.codeIn K cd50 "Works.only"=true) (k50:W.keepIn K (.ref f50)=true)
  (a51:W.findIn K (.ref Aa) "begun"=so f51) (i51:W.isFn K (.ref f51)=true) (l51:K.lookup f51=fO oc51 od51 "begun" "Works.begun" Jj .none kV51 dc51 pm51 an51 cd51 ct51 sl51) (c51:W.codeIn K cd51 "Works.begun"=true) (k51:W.keepIn K (.ref f51)=true)
  (a52:W.nsIn K mainGlobals "runs_of"=so f52) (l52:K.lookup f52=fO oc52 od52 "runs_of" "runs_of" Vf .none kV52 dc52 pm52 an52 cd52 ct52 sl52) (c52:W.codeIn K cd52 "runs_of"=true) (k52:W.keepIn K (.ref f52)=true)
  (a53:W.nsIn K mainGlobals "_law_truth"=so f53) (l53:K.lookup f53=fO oc53 od53 "_law_truth" "_law_truth" Vj .none kV53 dc53 pm53 an53 cd53 ct53 sl53) (c53:W.codeIn K cd53 "_law_truth"=true) (k53:W.keepIn K (.ref f53)=true)
  (a54:W.nsIn K mainGlobals "_law_early"=so f54) (l54:K.lookup f54=fO oc54 od54 "_law_early" "_law_early" JC .none kV54 dc54 pm54 an54 cd54 ct54 sl54) (c54:W.codeIn K cd54 "_law_early"=true) (k54:W.keepIn K (.ref f54)=true)
  (a55:W.nsIn K mainGlobals "_law_ask"=so f55) (l55:K.lookup f55=fO oc55 od55 "_law_ask" "_law_ask" Jt .none kV55 dc55 pm55 an55 cd55 ct55 sl55) (c55:W.codeIn K cd55 "_law_ask"=true) (k55:W.keepIn K (.ref f55)=true)
  (a56:W.nsIn K mainGlobals "_law_let"=so f56) (l56:K.lookup f56=fO oc56 od56 "_law_let" "_law_let" JW .none kV56 dc56 pm56 an56 cd56 ct56 sl56) (c56:W.codeIn K cd56 "_law_let"=true) (k56:W.keepIn K (.ref f56)=true)
  (a57:W.nsIn K mainGlobals "_law_refused"=so f57) (l57:K.lookup f57=fO oc57 od57 "_law_refused" "_law_refused" Vc .none kV57 dc57 pm57 an57 cd57 ct57 sl57) (c57:W.codeIn K cd57 "_law_refused"=true) (k57:W.keepIn K (.ref f57)=true)
  (a58:W.nsIn K mainGlobals "law"=so f58) (l58:K.lookup f58=fO oc58 od58 "law" "law" wx .none kV58 dc58 pm58 an58 cd58 ct58 sl58) (c58:W.codeIn K cd58 "law"=true) (k58:W.keepIn K (.ref f58)=true)
  (Id:W.nsIn K mainGlobals "ValueError"=some none)
  (S9:W.nsIn K mainGlobals "all"=some none)
  (S1:W.nsIn K mainGlobals "bool"=some none)
  (S0:W.nsIn K mainGlobals "dict"=some none)
  (Iy:W.nsIn K mainGlobals "enumerate"=some none)
  (T0:W.nsIn K mainGlobals "int"=some none)
  (Ic:W.nsIn K mainGlobals "isinstance"=some none)
  (S2:W.nsIn K mainGlobals "len"=some none)
  (R9:W.nsIn K mainGlobals "list"=some none)
  (S8:W.nsIn K mainGlobals "max"=some none)
  (S3:W.nsIn K mainGlobals "min"=some none)
  (R5:W.nsIn K mainGlobals "range"=some none)
  (S4:W.nsIn K mainGlobals "set"=some none)
  (N3:W.nsIn K mainGlobals "sorted"=some none)
  (S5:W.nsIn K mainGlobals "str"=some none)
  (S6:W.nsIn K mainGlobals "sum"=some none)
  (R8:W.nsIn K mainGlobals "tuple"=some none)
  (S7:W.nsIn K mainGlobals "zip"=some none)
  (E5:W.nsIn K mainGlobals "LONGEST_NAME"=some (some (.int 8 D4)))
  (E9:W.nsIn K mainGlobals "MOST_CLOTHS"=some (some (.int 10 D5)))
  (Ix:W.nsIn K mainGlobals "MOST_HUES"=some (some (.int 4 El)))
  (R4:W.nsIn K mainGlobals "PARTS"=some (some (.int 5 Im)))
  (E6:PySem.W.excIn K Ab [.type "ValueError",.type "Exception",.type "BaseException",.type "object"] "ValueError.__new__"=true)
  (N2:PySem.W.hasDictIn K Ab=true)
  (J1:W.findIn K (.ref Ab) "__getattribute__"=some (some (.builtin "BaseException.__getattribute__")))
  (J7:W.findIn K (.ref Ab) "__getattr__"=some none)
  (J2:W.findIn K (.ref Ab) "__class__"=some (some (.builtin "object.__class__")))
  (J0:PySem.W.mroIn K Ab (.type "object")=some true)
  (J8:PySem.W.mroIn K Ab (.type "BaseException")=some true)
  (usp:PySem.W.specialIn K (.builtin "object.__class__") "__get__"=some (some (.builtin "getset_descriptor.__get__"))) (utk:PySem.W.takesIn K (.builtin "object.__class__")=some true)
  (Av:PySem.W.exmOne K (.ref Ab) (.ref Ah)=some true)
  (A7:PySem.W.kitOne K (.ref Ab) (.ref Ab)=some true)
  (D7:PySem.W.kitOne K (.ref Ab) (.type "ValueError")=some true)
  (Ai:PySem.W.kitAny K (.ref Ab) [.ref Ap,.ref Am,.ref Ay]=some false)
  : ∃ fd:FuncData,(∀ (s:Shared) (v:Value),BindsTo s fd ⟨[v],[]⟩ [("script",v)])/\∀ base:Heap,K.In base->base.Ns mainGlobals mg->FnOk l.prog w K mg base v7 10 fa fd ["script"] (XR K):=by
 have e:=hfa.symm.trans (W.mg_of X G a58)
 cases e
 have Eg:=W.mg_none_of X G Id
 have D2:=W.mg_none_of X G S9
 have J3:=W.mg_none_of X G S1
 have J9:=W.mg_none_of X G S0
 have Eh:=W.mg_none_of X G Iy
 have Q4:=W.mg_none_of X G T0
 have Ac:=W.mg_none_of X G Ic
 have Ad:=W.mg_none_of X G S2
 have Au:=W.mg_none_of X G R9
 have Q8:=W.mg_none_of X G S8
 have Q3:=W.mg_none_of X G S3
 have Ag:=W.mg_none_of X G R5
 have N9:=W.mg_none_of X G S4
 have E4:=W.mg_none_of X G N3
 have Ib:=W.mg_none_of X G S5
 have Ey:=W.mg_none_of X G S6
 have Ie:=W.mg_none_of X G R8
 have N6:=W.mg_none_of X G S7
 have B9:=W.mg_of X G E5
 have D9:=W.mg_of X G E9
 have Ek:=W.mg_of X G Ix
 have Ip:=W.mg_of X G R4
 have Ex:=W.mg_of X G N1
 have E2:=W.mg_of X G Q5
 have Ec:=W.mg_of X G N5
 have Ee:=W.mg_of X G Ih
 have Iu:=W.mg_of X G R7
 have B0:=W.mg_of X G R6
 have Ei:zt K Ab:=⟨Dk N2,J1,J7,J2,usp,utk,J0,J8⟩
 have B4:zk K Aa:=⟨⟨N7,Q1,Q7,N4⟩⟩
 have Q6:ql K Aa "given":=⟨E7⟩
 have Q9:ql K Aa "held":=⟨Iq⟩
 have R3:ql K Aa "last":=⟨Ir⟩
 have Q2:ql K Aa "least":=⟨E8⟩
 have R1:ql K Aa "time":=⟨Ig⟩
 have F0:=u4 (st:=JX) l0 c0 k0
 have F1:=u4 (st:=Vi) l1 c1 k1
 have F2:=u4 (st:=XO) l2 c2 k2
 have F3:=u4 (st:=JY) l3 c3 k3
 have F4:=u4 (st:=Vd) l4 c4 k4
 have F5:=u4 (st:=Ve) l5 c5 k5
 have F6:=u4 (st:=JZ) l6 c6 k6
 have F7:=u4 (st:=Jy) l7 c7 k7
 have F8:=u4 (st:=Vm) l8 c8 k8
 have F9:=u4 (st:=Vb) l9 c9 k9
 have F10:=u4 (st:=JM) l10 c10 k10
 have F11:=u4 (st:=Va) l11 c11 k11
 have F12:=u4 (st:=JF) l12 c12 k12
 have F13:=u4 (st:=JU) l13 c13 k13
 have F14:=u4 (st:=JB) l14 c14 k14
 have F15:=u4 (st:=Vl) l15 c15 k15
 have F16:=u4 (st:=JH) l16 c16 k16
 have F17:=u4 (st:=JJ) l17 c17 k17
 have F18:=u4 (st:=JG) l18 c18 k18
 have F19:=u4 (st:=JL) l19 c19 k19
 have F20:=u4 (st:=Jw) l20 c20 k20
 have F21:=u4 (st:=Vg) l21 c21 k21
 have F22:=u4 (st:=JN) l22 c22 k22
 have F23:=u4 (st:=JV) l23 c23 k23
 have F24:=u4 (st:=Vk) l24 c24 k24
 have F25:=u4 (st:=JT) l25 c25 k25
 have F26:=u4 (st:=Vh) l26 c26 k26
 have F27:=u4 (st:=JS) l27 c27 k27
 have F28:=u4 (st:=Jx) l28 c28 k28
 have F29:=u4 (st:=Ju) l29 c29 k29
 have F30:=u4 (st:=Jm) l30 c30 k30
 have F31:=u4 (st:=Jr) l31 c31 k31
 have F32:=u4 (st:=Jp) l32 c32 k32
 have F33:=u4 (st:=Jq) l33 c33 k33
 have F34:=u4 (st:=Jn) l34 c34 k34
 have F35:=u4 (st:=Jk) l35 c35 k35
 have F36:=u4 (st:=JP) l36 c36 k36
 have F37:=u4 (st:=JI) l37 c37 k37
 have F38:=u4 (st:=Js) l38 c38 k38
 have F39:=u4 (st:=Jv) l39 c39 k39
 have F40:=u4 (st:=JA) l40 c40 k40
 have F41:=u4 (st:=JE) l41 c41 k41
 have F42:=u4 (st:=Jz) l42 c42 k42
 have F43:=u4 (st:=JR) l43 c43 k43
 have F44:=u4 (st:=JO) l44 c44 k44
 have F45:=u4 (st:=JQ) l45 c45 k45
 have F46:=u4 (st:=JD) l46 c46 k46
 have F47:=u4 (st:=JK) l47 c47 k47
 have F48:=u4 (st:=Jl) l48 c48 k48
 have F49:=DO (st:=ww) l49 c49 k49
 have F50:=u4 (st:=Jo) l50 c50 k50
 have F51:=u4 (st:=Jj) l51 c51 k51
 have F52:=u4 (st:=Vf) l52 c52 k52
 have F53:=u4 (st:=Vj) l53 c53 k53
 have F54:=u4 (st:=JC) l54 c54 k54
 have F55:=u4 (st:=Jt) l55 c55 k55
 have F56:=u4 (st:=JW) l56 c56 k56
 have F57:=u4 (st:=Vc) l57 c57 k57
 have F58:=u4 (st:=wx) l58 c58 k58
 have b0:=o7 (p := "cell") (q := "k") F0 fun _ _ _ _ _ _ _ _=>rfl
 have b1:=o7 (p := "stream") (q := "many") F1 fun _ _ _ _ _ _ _ _=>rfl
 have b2:=o7 (p := "script") (q := "k") F2 fun _ _ _ _ _ _ _ _=>rfl
 have b3:=bi1 (p := "script") F3 fun _ _ _ _ _ _ _=>rfl
 have b4:=bi1 (p := "stream") F4 fun _ _ _ _ _ _ _=>rfl
 have b5:=o7 (p := "stream") (q := "hues") F5 fun _ _ _ _ _ _ _ _=>rfl
 have b6:=o7 (p := "stream") (q := "names") F6 fun _ _ _ _ _ _ _ _=>rfl
 have b7:=F7.binds (ps:=["stream", "names", "hues"]) fun _ _ _ _ _ _ us hl=>match us,hl with | [_,_,_],_=>rfl
 have b8:=o7 (p := "script") (q := "most") F8 fun _ _ _ _ _ _ _ _=>rfl
 have b9:=o7 (p := "stream") (q := "names") F9 fun _ _ _ _ _ _ _ _=>rfl
 have b10:=bi1 (p := "thing") F10 fun _ _ _ _ _ _ _=>rfl
 have b11:=bi1 (p := "cloth") F11 fun _ _ _ _ _ _ _=>rfl
 have b12:=bi1 (p := "cloth") F12 fun _ _ _ _ _ _ _=>rfl
 have b13:=bi1 (p := "cloth") F13 fun _ _ _ _ _ _ _=>rfl
 have b14:=bi1 (p := "cloth") F14 fun _ _ _ _ _ _ _=>rfl
 have b15:=bi1 (p := "cloth") F15 fun _ _ _ _ _ _ _=>rfl
 have b16:=o7 (p := "thing") (q := "least") F16 fun _ _ _ _ _ _ _ _=>rfl
 have b17:=bi1 (p := "thing") F17 fun _ _ _ _ _ _ _=>rfl
 have b18:=o7 (p := "thing") (q := "hues") F18 fun _ _ _ _ _ _ _ _=>rfl
 have b19:=o7 (p := "row") (q := "hues") F19 fun _ _ _ _ _ _ _ _=>rfl
 have b20:=bi1 (p := "rinses") F20 fun _ _ _ _ _ _ _=>rfl
 have b21:=bi1 (p := "row") F21 fun _ _ _ _ _ _ _=>rfl
 have b22:=o7 (p := "way") (q := "onward") F22 fun _ _ _ _ _ _ _ _=>rfl
 have b23:=o7 (p := "way") (q := "other") F23 fun _ _ _ _ _ _ _ _=>rfl
 have b24:=F24.binds (ps:=["ways", "hue", "onward"]) fun _ _ _ _ _ _ us hl=>match us,hl with | [_,_,_],_=>rfl
 have b25:=bi1 (p := "rinses") F25 fun _ _ _ _ _ _ _=>rfl
 have b26:=bi1 (p := "ways") F26 fun _ _ _ _ _ _ _=>rfl
 have b27:=bi1 (p := "rinses") F27 fun _ _ _ _ _ _ _=>rfl
 have b28:=F28.binds (ps:=["last", "time", "hues"]) fun _ _ _ _ _ _ us hl=>match us,hl with | [_,_,_],_=>rfl
 have b29:=o7 (p := "cloths") (q := "hues") F29 fun _ _ _ _ _ _ _ _=>rfl
 have b30:=bi1 (p := "self") F30 fun _ _ _ _ _ _ _=>rfl
 have b31:=F31.binds (ps:=["self", "first", "then"]) fun _ _ _ _ _ _ us hl=>match us,hl with | [_,_,_],_=>rfl
 have b32:=F32.binds (ps:=["self", "first", "then"]) fun _ _ _ _ _ _ us hl=>match us,hl with | [_,_,_],_=>rfl
 have b33:=bi1 (p := "self") F33 fun _ _ _ _ _ _ _=>rfl
 have b34:=bi1 (p := "self") F34 fun _ _ _ _ _ _ _=>rfl
 have b35:=o7 (p := "self") (q := "name") F35 fun _ _ _ _ _ _ _ _=>rfl
 have b36:=o7 (p := "cloth") (q := "end") F36 fun _ _ _ _ _ _ _ _=>rfl
 have b37:=F37.binds (ps:=["cloth", "end", "bound"]) fun _ _ _ _ _ _ us hl=>match us,hl with | [_,_,_],_=>rfl
 have b38:=o7 (p := "works") (q := "names") F38 fun _ _ _ _ _ _ _ _=>rfl
 have b39:=o7 (p := "works") (q := "names") F39 fun _ _ _ _ _ _ _ _=>rfl
 have b40:=o7 (p := "works") (q := "names") F40 fun _ _ _ _ _ _ _ _=>rfl
 have b41:=o7 (p := "works") (q := "names") F41 fun _ _ _ _ _ _ _ _=>rfl
 have b42:=o7 (p := "works") (q := "names") F42 fun _ _ _ _ _ _ _ _=>rfl
 have b43:=o7 (p := "works") (q := "names") F43 fun _ _ _ _ _ _ _ _=>rfl
 have b44:=F44.binds (ps:=["works", "names", "bound"]) fun _ _ _ _ _ _ us hl=>match us,hl with | [_,_,_],_=>rfl
 have b45:=o7 (p := "works") (q := "names") F45 fun _ _ _ _ _ _ _ _=>rfl
 have b46:=o7 (p := "works") (q := "names") F46 fun _ _ _ _ _ _ _ _=>rfl
 have b47:=o7 (p := "works") (q := "names") F47 fun _ _ _ _ _ _ _ _=>rfl
 have b48:=o7 (p := "self") (q := "names") F48 fun _ _ _ _ _ _ _ _=>rfl
 have b49:Binds K (W.fnOf "__init__" "Works.__init__" (zx ww) (qy ww) (j5 ww) (.ref T49) kV49 dc49 pm49 an49 cd49 ct49) ["self", "rinses", "cloths", "last", "time"] []:=Cc (T:=T49) rfl q49 rfl fun us hl=>match us,hl with | [_,_,_,_,_],_=>⟨_,rfl,rfl⟩
 have b50:=o7 (p := "self") (q := "names") F50 fun _ _ _ _ _ _ _ _=>rfl
 have b51:=o7 (p := "self") (q := "names") F51 fun _ _ _ _ _ _ _ _=>rfl
 have b52:=o7 (p := "works") (q := "names") F52 fun _ _ _ _ _ _ _ _=>rfl
 have b53:=o7 (p := "found") (q := "due") F53 fun _ _ _ _ _ _ _ _=>rfl
 have b54:=F54.binds (ps:=["works", "names", "ask"]) fun _ _ _ _ _ _ us hl=>match us,hl with | [_,_,_],_=>rfl
 have b55:=F55.binds (ps:=["works", "names", "ask"]) fun _ _ _ _ _ _ us hl=>match us,hl with | [_,_,_],_=>rfl
 have b56:=o7 (p := "works") (q := "names") F56 fun _ _ _ _ _ _ _ _=>rfl
 have b57:=o7 (p := "works") (q := "names") F57 fun _ _ _ _ _ _ _ _=>rfl
 refine ⟨W.fnOf "law" "law" (zx wx) (qy wx) (j5 wx) .none kV58 dc58 pm58 an58 cd58 ct58,fun s v=> .of_eq rfl,fun base _ _=>?_⟩
 have Ep:=o3 l.prog w base (NJ F0 ) (W.mg_of X G a0) k0 b0
 have Ae:=o3 l.prog w base (NW F1 ) (W.mg_of X G a1) k1 b1
 have A8:=o3 l.prog w base (NT F2 Ep Ad Ag Ey) (W.mg_of X G a2) k2 b2
 have J4:=o3 l.prog w base (NK F3 A8) (W.mg_of X G a3) k3 b3
 have Io:=o3 l.prog w base (NP F4 Ae) (W.mg_of X G a4) k4 b4
 have E3:=o3 l.prog w base (NQ F5 Io Ag) (W.mg_of X G a5) k5 b5
 have Iz:=o3 l.prog w base (NL F6 Ae Ad Ag) (W.mg_of X G a6) k6 b6
 have Ii:=o3 l.prog w base (Ni F7 Iz Ae) (W.mg_of X G a7) k7 b7
 have Ij:=o3 l.prog w base (Ha F8 Ii E3 A8 Ae Q3 Ag) (W.mg_of X G a8) k8 b8
 have Ik:=o3 l.prog w base (NN F9 Ae Ad Au) (W.mg_of X G a9) k9 b9
 have Aq:=o3 l.prog w base (Nx F10 J3 Q4 Ac) (W.mg_of X G a10) k10 b10
 have An:=o3 l.prog w base (NM F11 ) (W.mg_of X G a11) k11 b11
 have Ao:=o3 l.prog w base (Np F12 ) (W.mg_of X G a12) k12 b12
 have A5:=o3 l.prog w base (NG F13 ) (W.mg_of X G a13) k13 b13
 have Eb:=o3 l.prog w base (Nl F14 ) (W.mg_of X G a14) k14 b14
 have A6:=o3 l.prog w base (NZ F15 ) (W.mg_of X G a15) k15 b15
 have Ax:=o3 l.prog w base (Nr F16 Aq) (W.mg_of X G a16) k16 b16
 have Et:=o3 l.prog w base (Nu F17 D2 Ac Ad Ib B9) (W.mg_of X G a17) k17 b17
 have Eo:=o3 l.prog w base (Nq F18 Eb Ao Ax Et Aq A5 An A6 Ac Ad Ie Ip) (W.mg_of X G a18) k18 b18
 have B7:=o3 l.prog w base (Nw F19 Aq D2 Ac Ad Au) (W.mg_of X G a19) k19 b19
 have D1:=o3 l.prog w base (Ng F20 B7 D2 Ac Ad Au Ek) (W.mg_of X G a20) k20 b20
 have A9:=o3 l.prog w base (NS F21 Eh) (W.mg_of X G a21) k21 b21
 have E1:=o3 l.prog w base (Ny F22 ) (W.mg_of X G a22) k22 b22
 have Ez:=o3 l.prog w base (NH F23 ) (W.mg_of X G a23) k23 b23
 have B8:=o3 l.prog w base (NY F24 E1 Ez N6) (W.mg_of X G a24) k24 b24
 have Ef:=o3 l.prog w base (NF F25 A9 B8 Ad Ag) (W.mg_of X G a25) k25 b25
 have Ew:=o3 l.prog w base (NV F26 ) (W.mg_of X G a26) k26 b26
 have B6:=o3 l.prog w base (NE F27 D1 Ef Ew) (W.mg_of X G a27) k27 b27
 have D6:=o3 l.prog w base (Nh F28 Ax) (W.mg_of X G a28) k28 b28
 have D3:=o3 l.prog w base (Nd F29 Eo An Ad D9) (W.mg_of X G a29) k29 b29
 have B3:Mt l.prog w K mg base _ Aa _ _ (v4 (wY Aa)):=⟨_,_,LS F30 Ad,⟨a30,i30,k30⟩,B4.c,b30⟩
 have A0:Mt l.prog w K mg base _ Aa _ _ (v4 (QY Aa)):=⟨_,_,LZ F31 ,⟨a31,i31,k31⟩,B4.c,b31⟩
 have D8:Mt l.prog w K mg base _ Aa _ _ (v4 (wZ Aa)):=⟨_,_,LX F32 A0,⟨a32,i32,k32⟩,B4.c,b32⟩
 have At:Mt l.prog w K mg base _ Aa _ _ (v4 (vZ Aa)):=⟨_,_,LY F33 ,⟨a33,i33,k33⟩,B4.c,b33⟩
 have As:Mt l.prog w K mg base _ Aa _ _ (spO (vX Aa)):=⟨_,_,LV F34 E4,⟨a34,i34,k34⟩,B4.c,b34⟩
 have Af:Mt l.prog w K mg base _ Aa _ _ (v4 (zo Aa)):=⟨_,_,LO F35 Ac Ib,⟨a35,i35,k35⟩,B4.c,b35⟩
 have Aw:=o3 l.prog w base (NA F36 Eb) (W.mg_of X G a36) k36 b36
 have Ev:=o3 l.prog w base (Nt F37 Aw) (W.mg_of X G a37) k37 b37
 have A4:Fn l.prog w K mg base _ _ _ (v4 (zQ Aa)):=⟨_,_,Na F38 D2 Ac Ad Au N9 As,W.mg_of X G a38,k38,b38⟩
 have Al:Fx l.prog w K mg base _ _ _ (n9 [false,false] (jK Aa) (ju Ab Aa)):=⟨_,_,Nf F39 A4 Ec E6,W.mg_of X G a39,k39,b39⟩
 have Ak:Fx l.prog w K mg base _ _ _ (xH [false,false] (zA Aa) (jb Ab Aa)):=⟨_,_,Nk F40 Al Ao A5 Af D8 At,W.mg_of X G a40,k40,b40⟩
 have Aj:Fx l.prog w K mg base _ _ _ (xH [false,false] (jL Aa) (jV Ab Aa)):=⟨_,_,No F41 Ak Af,W.mg_of X G a41,k41,b41⟩
 have Eu:Fx l.prog w K mg base _ _ _ (n9 [false,false] (QZ Aa) (VD Ab Aa)):=⟨_,_,Nj F42 Aj A6 Ey,W.mg_of X G a42,k42,b42⟩
 have En:Fx l.prog w K mg base _ _ _ (n9 [false,false] (Xg Aa) (VG Ab Aa)):=⟨_,_,NC F43 Aj Aw Q8,W.mg_of X G a43,k43,b43⟩
 have Iv:Fx l.prog w K mg base _ _ _ (n9 [false,false,false] (Xe Aa) (VE Ab Aa)):=⟨_,_,Nz F44 Aj Ev D2,W.mg_of X G a44,k44,b44⟩
 have Ej:Fx l.prog w K mg base _ _ _ (xH [false,false] (Xf Aa) (VF Ab Aa)):=⟨_,_,NB F45 Ak Aw Af,W.mg_of X G a45,k45,b45⟩
 have Ed:Fx l.prog w K mg base _ _ _ (n9 [false,false] (wa Aa) (wB Ab Aa)):=⟨_,_,Nn F46 Ak At,W.mg_of X G a46,k46,b46⟩
 have Ar:Fn l.prog w K mg base _ _ _ (v4 (zB Aa)):=⟨_,_,Nv F47 A4 Ad As,W.mg_of X G a47,k47,b47⟩
 have A3:Mt l.prog w K mg base _ Aa _ _ (spO (QX Aa)):=⟨_,_,LQ F48 An,⟨a48,i48,k48⟩,B4.c,b48⟩
 have B5:Mkr l.prog w K mg base _ Aa _ (spI Aa (jn Aa)):=⟨_,_,LU F49 D3 D6 B6 An J9 Au B3,⟨N8,a49,i49,Q0⟩,b49⟩
 have Az:Mx l.prog w K mg base _ Aa _ _ (n9 [false,false] (vY Aa) (Zc Ab Aa)):=⟨_,_,LW F50 Al B0 B5,⟨a50,i50,k50⟩,B4.c,b50⟩
 have Ea:Mx l.prog w K mg base _ Aa _ _ (n9 [false,false] (QW Aa) (VC Ab Aa)):=⟨_,_,LN F51 Ed Ao B0 A3 B5,⟨a51,i51,k51⟩,B4.c,b51⟩
 have Es:Fx l.prog w K mg base _ _ _ (Qo [false,false] (jI Aa) (Ze Ab Aa)):=⟨_,_,NR F52 Al Ao Af,W.mg_of X G a52,k52,b52⟩
 have Il:=o3 l.prog w base (NX F53 ) (W.mg_of X G a53) k53 b53
 have Iw:Fx l.prog w K mg base _ _ _ (n9 [false,false,false] (Xb Aa) (Zd Ab Aa)):=⟨_,_,Nm F54 Eu Ak Ed En,W.mg_of X G a54,k54,b54⟩
 have Ia:Fx l.prog w K mg base _ _ _ (n9 [false,false,false] (jJ Aa) (wA Ab Aa)):=⟨_,_,Nb F55 Iw Iv Ej Es Ea Az,W.mg_of X G a55,k55,b55⟩
 have N0:Fn l.prog w K mg base _ _ _ (v4 (Qb Aa)):=⟨_,_,NI F56 Ia Ag,W.mg_of X G a56,k56,b56⟩
 have Em:Fn l.prog w K mg base _ _ _ (v4 (vm Aa)):=⟨_,_,NO F57 Ia Ar Eg Ac Au Ag Ex E2 Ec Ee Iu Ei Av A7 D7 Ai,W.mg_of X G a57,k57,b57⟩
 exact ND F58 Ar N0 J4 Ik Em Ae Il Ij Ad B0 Az B5
theorem walk {l:PySem.W.OpenLaw}{q:Program}{loose:List Str}{XP:(Str->Option Value)->Heap->Prop}{YP:World->Heap->Prop}{d:DefRec}{K:Params->Fg}(hn:l.most=some 63)(hdf:d.params.defaults=[])
  (hY:∀ (w:World) (h:Heap),YP w h->(K w.params).In h)
  (F:∀ (w:World) (mg:Str->Option Value) (fa:Addr) (h:Heap),(K w.params).In h->h.Ns mainGlobals mg->mg d.name=some (.ref fa) ->
   ∃ fd:FuncData,(∀ (s:Shared) (u:Value),BindsTo s fd ⟨[u],[]⟩ [("script",u)])/\∀ base:Heap,(K w.params).In base->base.Ns mainGlobals mg->FnOk l.prog w (K w.params) mg base v7 10 fa fd ["script"] (XR (K w.params))) :
  PySem.W.WalkO q loose XP YP l.row.toRowW d [] (fun f vs=>PySem.call f vs) :=
 L2.SK (n:=63) (k:=10) (x := "script") (CX:=fun _=>v7) (sp:=fun w=>XR (K w.params)) hn (by decide) hdf ⟨rfl,by decide,by decide⟩ hY F (fun _ _ a ns hl _ hS=>⟨a,ns,rfl,hS,hl,fun _=>rfl⟩) fun _ _ _ _ _ z=>z
end Lw
open PySem PySem.W PyProof.Rows
set_option maxRecDepth 100000 in
set_option maxHeartbeats 0 in
theorem PySem.Challenge.cw_rinsework_k15_no_plans_holds : PySem.Challenge.rw_rinsework_k15_no_plans.Holds := by
  w_on; o_law; k_head; (case hw => w_witness2)
  k_fill
  refine Lw.walk (l := PySem.Challenge.rw_rinsework_k15_no_plans) rfl rfl (fun w h Y => PySem.W.kIn_of Y) ?F
  case F =>
    intro w mg fa h KX G hmg
    apply Lw.all_mk KX G hmg
    iterate 286 k_is
    iterate 1 k_exc
    iterate 8 k_is
    iterate 1 kts_exm
    iterate 3 kit_is

