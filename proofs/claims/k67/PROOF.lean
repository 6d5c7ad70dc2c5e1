import PyProof.Rows.All
import Wide.All
import OpenK.AllK
import Wide.FinOn
import Lean
import PyProof.EqAt
import PyProof.EqKinds
import PyProof.NeKinds
import PyProof.TupleCall
import PySem.Challenge.RW_rinsework_k67_tray_moves_refused
set_option Elab.async false
set_option linter.all false
set_option maxRecDepth 100000
namespace PySem.W.Fast
theorem tw4458352170074542880:True:=trivial
theorem tw11346780999274798468:True:=trivial
theorem tw12018579225783257028:True:=trivial
theorem tw11322421329190997798:True:=trivial
theorem tw9140060368013474569:True:=trivial
theorem tw17725138377376636458:True:=trivial
theorem tw1707413938211921645:True:=trivial
theorem tw6397430187045595568:True:=trivial
theorem tw7339527497251381425:True:=trivial
theorem tw18225574656424319185:True:=trivial
theorem tw3848997946767837010:True:=trivial
theorem tw486218372633669107:True:=trivial
theorem tw8836339874055447476:True:=trivial
theorem tw14887421525151534392:True:=trivial
theorem tw5306356438727061336:True:=trivial
theorem tw13541081675119451260:True:=trivial
theorem tw3669802709265249756:True:=trivial
theorem tw4484740128210188892:True:=trivial
theorem tw6596128144357322142:True:=trivial
theorem tw2482507121695839137:True:=trivial
theorem tw13775576590924990325:True:=trivial
theorem tw15385834883116844130:True:=trivial
theorem tw17876015553188340847:True:=trivial
theorem tw17068243582294124516:True:=trivial
theorem tw3956294206412616045:True:=trivial
theorem tw10631172706598766262:True:=trivial
theorem tw295551468246061755:True:=trivial
theorem tw6200827038917291804:True:=trivial
theorem tw8025675092339007060:True:=trivial
theorem tw17672150460211782500:True:=trivial
theorem tw13045900288856966140:True:=trivial
theorem tw3915278828264547485:True:=trivial
theorem tw1571505797074260257:True:=trivial
theorem tw14360695353926785570:True:=trivial
theorem tw10895010483662461120:True:=trivial
theorem tw9050681715757013701:True:=trivial
theorem tw16677871253249715800:True:=trivial
theorem tw5431343878714299243:True:=trivial
theorem tw12225963176339291765:True:=trivial
theorem tw340482631032429042:True:=trivial
theorem tw10965355980750084094:True:=trivial
theorem tw10492187601217661683:True:=trivial
theorem tw15345572555088925654:True:=trivial
theorem tw5077885111791222966:True:=trivial
theorem tw7464960527472478344:True:=trivial
theorem tw6081795202739628441:True:=trivial
theorem tw9035806625818881411:True:=trivial
theorem tw6772454447831375703:True:=trivial
theorem tw277346884782782675:True:=trivial
theorem tw6812007381531148235:True:=trivial
theorem tw10328598137216884025:True:=trivial
theorem tw12166658759487469810:True:=trivial
theorem tw13002487294230072764:True:=trivial
theorem tw718581319214370479:True:=trivial
theorem tw11878205895915027149:True:=trivial
theorem tw18438496732332770196:True:=trivial
theorem tw3292945448039026349:True:=trivial
theorem tw10662461564279696756:True:=trivial
theorem tw18355078057276513952:True:=trivial
theorem tw14308461194886454503:True:=trivial
theorem tw3156747257884045004:True:=trivial
theorem tw3450173382179852929:True:=trivial
theorem tw13122250308219672340:True:=trivial
theorem tw14095441937097276210:True:=trivial
theorem tw7633421974862484067:True:=trivial
theorem tw15169309079239191465:True:=trivial
theorem tw12973275830773103987:True:=trivial
theorem tw13078850109493563864:True:=trivial
theorem tw9675857927075101975:True:=trivial
theorem tw15669924546272170710:True:=trivial
theorem tw8449045288593374996:True:=trivial
theorem tw13207087845290433784:True:=trivial
theorem tw10942640649647711170:True:=trivial
theorem tw15848848119245054051:True:=trivial
theorem tw12247554356389534704:True:=trivial
theorem tw1283451527230711401:True:=trivial
theorem tw1286579600163681817:True:=trivial
theorem tw12577919153750531979:True:=trivial
theorem tw17400354652446980189:True:=trivial
end PySem.W.Fast
abbrev yZ:=@List.length_map
abbrev yY:=@PySem.wpAny_bind
abbrev yW:=@PySem.Heap.get?_push_of_some
abbrev yV:=@List.size_toArray
abbrev yU:=@Bool.false_ne_true
abbrev yT:=@PySem.Heap.lt_size
abbrev yS:=@Nat.le_refl
abbrev yR:=@List.mem_cons_of_mem
abbrev yQ:=@List.mem_cons_self
abbrev yP:=@List.mem_singleton
abbrev yO:=@List.getElem?_map
abbrev yN:=@List.getElem?_eq_getElem
abbrev yM:=@List.mem_cons
abbrev yL:=@List.length_append
abbrev yK:=@List.map_cons
abbrev yJ:=@Option.map_eq_some_iff
abbrev yI:=@PySem.wpAny_pure
abbrev yH:=@decide_eq_false
abbrev yG:=@Nat.ne_of_lt
abbrev yF:=@Option.bind_some
abbrev yE:=@List.getElem?_set
abbrev yD:=@List.getElem?_eq_some_iff
abbrev yC:=@List.length_cons
abbrev yB:=@Nat.lt_of_lt_of_le
abbrev yA:=@List.getD_eq_getElem?_getD
abbrev yz:=@decide_eq_true
abbrev yy:=@PySem.Heap.get?_push_size
abbrev yx:=@List.mem_append
abbrev yw:=@List.map_append
abbrev yv:=@List.mem_append_right
abbrev yu:=@Int.emod_lt_of_pos
abbrev yt:=@List.nodup_cons
abbrev yr:=@List.mem_map
abbrev yq:=@List.getElem?_set_ne
abbrev yp:=@List.mem_of_getElem?
abbrev yo:=@List.append_nil
abbrev yn:=@List.length_set
abbrev ym:=@Int.emod_nonneg
abbrev yk:=@List.flatten_cons
abbrev yj:=@List.getElem_mem
abbrev yi:=@List.map_map
abbrev yh:=@List.not_mem_nil
abbrev yg:=@List.mem_append_left
abbrev yf:=@PySem.Heap.get?_update_other
abbrev ye:=@List.getElem_toArray
abbrev yd:=@Int.eq_ofNat_of_zero_le
abbrev yc:=@Nat.le_trans
abbrev yb:=@List.drop_eq_getElem_cons
abbrev ya:=@Bool.and_eq_true
abbrev uZ:=@Nat.zero_le
abbrev uY:=@Nat.lt_irrefl
abbrev uX:=@List.lookup_cons
abbrev uW:=@PySem.Heap.get?_none_of_le
abbrev uV:=@of_decide_eq_true
abbrev uU:=@List.all_eq_true
abbrev uT:=@Nat.le_of_lt
abbrev uS:=@List.append_assoc
abbrev uR:=@List.mem_filterMap
abbrev uQ:=@Int.toNat_natCast
abbrev uP:=@List.find?_cons
abbrev uO:=@List.replicate_succ
abbrev uN:=@List.getElem?_set_self
abbrev uM:=@Array.getElem?_eq_some_iff
abbrev uL:=@PySem.Heap.size_push
abbrev uK:=@PySem.Heap.get?_update_self
abbrev uJ:=@List.getElem?_append_left
abbrev uI:=@Option.map_some
abbrev uH:=@Int.mul_le_mul_of_nonneg_right
abbrev uG:=@List.getElem_of_mem
abbrev uF:=@Nat.lt_succ_self
abbrev uE:=@List.drop_length
abbrev uD:=@Nat.le_succ
abbrev uC:=@List.getElem?_append_right
abbrev uB:=@List.mem_range
abbrev uA:=@List.perm_middle
abbrev uz:=@List.getElem?_replicate
abbrev uy:=@List.length_eq_zero_iff
abbrev ux:=@List.mem_filter
abbrev uw:=@Bool.false_eq_true
abbrev uu:=@List.length_replicate
abbrev ut:=@Bool.and_false
abbrev ur:=@List.filter_cons
namespace L2
abbrev Fg:=PySem.W.Frag
end L2
namespace L2
open PySem PySem.Spec PyProof.Rows
variable{us:List Value}{C a b dx it:Addr}{u:Value}{P:Program}{w:World}{base h:Heap}{g':Array GenState}{j n t':Nat}{d':Drawn}{ch fp:List Addr}{m qual x:Str}{c e tg:Expr}{N ps:List Str}{A:Around}{E Q:Value->Shared->Prop}{s':Shared}{α:Type}{pins:List (Addr×Obj)}{pos:Pos}{op op':CmpOp}{K:Fg}{f:Value->Value->Sem Value}{es:List Expr}{lo:Int}{pl:Sem Bool}{body:List Stmt}{mA mg:Str->Option Value}{kw:List (Str×Value)}{fd:FuncData}{outer:List Env}{scope:Scope}
abbrev j4:=Sum Int Str
def vb:j4->Value->Bool
 | .inl k,v=>Value.isInt k v
 | .inr x,v=>Value.isStrOf x v
def keyH (w:World):j4->Int
 | .inl k=>hashInt k
 | .inr x=>hashStr w x
theorem ja:∀{k:j4}{v:Value},vb k v=true->(∃ i t,k=Sum.inl i/\v=Value.int i t)∨(∃ x t,k=Sum.inr x/\v=Value.str x t)
 | .inl i,v,h=>by
  obtain ⟨t,e⟩:=Value.isInt_shape (k:=i) (v:=v) h;exact .inl ⟨i,t,rfl,e⟩
 | .inr x,v,h=>by
  obtain ⟨t,e⟩:=Value.isStrOf_shape (x:=x) (v:=v) h;exact .inr ⟨x,t,rfl,e⟩
theorem Ci (i:Int)(t:Tok):vb (.inl i) (.int i t)=true:=by simp [vb,Value.isInt]
theorem Uz (x:Str)(t:Tok):vb (.inr x) (.str x t)=true:=by simp [vb,Value.isStrOf]
theorem Cj (a b:Int):decide ((Sum.inl a:j4)=Sum.inl b)=(a==b):=by
 by_cases e:a=b
 ·subst e;simp
 ·have h:¬ (Sum.inl a:j4)=Sum.inl b:=λq=>e (Sum.inl.inj q);rw [yH h];exact (beq_eq_false_iff_ne.mpr e).symm
theorem Cn (a b:Str):decide ((Sum.inr a:j4)=Sum.inr b)=decide (a=b):=by
 by_cases e:a=b
 ·subst e;simp
 ·have h:¬ (Sum.inr a:j4)=Sum.inr b:=λq=>e (Sum.inr.inj q);rw [yH h,yH e]
theorem Ck (a:Int)(b:Str):decide ((Sum.inl a:j4)=Sum.inr b)=false:=yH (λq=>nomatch q)
theorem Cm (a:Str)(b:Int):decide ((Sum.inr a:j4)=Sum.inl b)=false:=yH (λq=>nomatch q)
def qz (prog:Program)(w:World):PySem.KeyKind prog w j4 where
 is:=vb
 hash:=keyH w
 inj:=λv a b ha hb=>by
  rcases ja ha with ⟨i,t,rfl,rfl⟩|⟨x,t,rfl,rfl⟩
  ·rcases ja hb with ⟨j,u,rfl,e⟩|⟨y,u,rfl,e⟩
   ·injection e with e1 _;rw [e1]
   ·exact nomatch e
  ·rcases ja hb with ⟨j,u,rfl,e⟩|⟨y,u,rfl,e⟩
   ·exact nomatch e
   ·injection e with e1 _;rw [e1]
 byValue:=λk v h=>by
  rcases ja h with ⟨i,t,rfl,rfl⟩|⟨x,t,rfl,rfl⟩<;>rfl
 pyHash:=λhv h=>by
  rcases ja hv with ⟨i,t,rfl,rfl⟩|⟨x,t,rfl,rfl⟩
  ·exact wpAny_pyHash_int h
  ·exact wpAny_pyHash_str h
 eqBool:=λhu hv h=>by
  rcases ja hu with ⟨i,t,rfl,rfl⟩|⟨x,t,rfl,rfl⟩
  ·rcases ja hv with ⟨j,u,rfl,rfl⟩|⟨y,u,rfl,rfl⟩
   ·rw [Cj] at h;exact wpAny_eqBool_int h
   ·rw [Ck] at h;exact SeqAt.EqAt.int_str i t y u _ _ _ _ h
  ·rcases ja hv with ⟨j,u,rfl,rfl⟩|⟨y,u,rfl,rfl⟩
   ·rw [Cm] at h;exact SeqAt.EqAt.str_int x t j u _ _ _ _ h
   ·rw [Cn] at h;exact wpAny_eqBool_str h
 «strs»:=λk x t v h=>by
  rcases ja h with ⟨i,u,rfl,e⟩|⟨y,u,rfl,e⟩
  ·exact nomatch e
  ·injection e with e1 _;subst e1;cases v<;>rfl
theorem CL (prog:Program)(w:World)(i:Int)(t:Tok):(qz prog w).is (.inl i) (.int i t)=true:=Ci i t
theorem Jc (prog:Program)(w:World)(x:Str)(t:Tok):(qz prog w).is (.inr x) (.str x t)=true:=Uz x t
inductive V where
 |non|bl (b:Bool)|int (i:Int)|str (x:Str)|byt (b:Array UInt8)|flt (b:UInt64)|ref (a:Addr)|ty (n:String)
 deriving DecidableEq
variable{vs xs:List V}{v y:V}
def RelV:V->Value->Prop
 | .non,u=>u=Value.none
 | .bl b,u=>u=Value.bool b
 | .int i,u=>∃ t,u=Value.int i t
 | .str x,u=>∃ t,u=Value.str x t
 | .byt b,u=>∃ t,u=Value.bytes b t
 | .flt b,u=>∃ t,u=Value.float b t
 | .ref a,u=>u=Value.ref a
 | .ty n,u=>u=Value.type n
abbrev Vals:List V->List Value->Prop:=Paired RelV
theorem Vals.length (r:Vals xs us):xs.length=us.length:=Paired.length r
theorem Vals.get:∀{xs:List V}{us:List Value}{i:Nat}{x:V},Vals xs us->xs[i]?=some x->∃ u,us[i]?=some u/\RelV x u
 |_,_,_,_,.nil,e=>by simp at e
 |_,_,0,_,.cons r _,e=>by simp at e;subst e;exact ⟨_,rfl,r⟩
 |_,_,i+1,x,.cons _ t,e=>by
  obtain ⟨u,h1,h2⟩:=Vals.get (i:=i) (x:=x) t (by simpa using e);exact ⟨u,by simpa using h1,h2⟩
theorem Vals.set {x:V}{u:Value}(r:RelV x u):∀{xs:List V}{us:List Value}(i:Nat),Vals xs us->Vals (xs.set i x) (us.set i u)
 |_,_,_,.nil=> .nil
 |_,_,0,.cons _ t=> .cons r t
 |_,_,i+1,.cons q t=> .cons q (Vals.set r i t)
theorem Vals.append:∀{xs ys:List V}{us ws:List Value},Vals xs us->Vals ys ws->Vals (xs++ys) (us++ws)
 |_,_,_,_,.nil,s=>s
 |_,_,_,_,.cons r t,s=> .cons r (Vals.append t s)
theorem Vals.take:∀{xs:List V}{us:List Value}(n:Nat),Vals xs us->Vals (xs.take n) (us.take n)
 |_,_,0,_=> .nil
 |_,_,_+1,.nil=> .nil
 |_,_,n+1,.cons r t=> .cons r (Vals.take n t)
theorem Vals.drop:∀{xs:List V}{us:List Value}(n:Nat),Vals xs us->Vals (xs.drop n) (us.drop n)
 |_,_,0,r=>r
 |_,_,_+1,.nil=> .nil
 |_,_,n+1,.cons _ t=>Vals.drop n t
def RelO:Option V->Option Value->Prop
 |some v,some u=>RelV v u
 |none,none=>True
 |_,_=>False
def KV {κ:Type}:List (κ×V)->List (κ×Value)->Prop:=Paired λ(p:κ×V) (q:κ×Value)=>p.1=q.1/\RelV p.2 q.2
def kV:j4->V
 | .inl i=> .int i
 | .inr x=> .str x
def TABS:List (Addr×Array Value×List (Pos×Str)):=[]
inductive HO where
 /-- a list -/
 |lst (xs:List V)
 /-- a tuple (never changes) -/
 |tup (xs:List V)
 /-- a dict whose keys are ints and texts;one whose keys are tuples of ints and texts (the empty one is both) -/
 |dK (kvs:List (j4×V))|dT (kvs:List (List j4×V))
 /-- a set of ints: its members,its size -/
 |set (S:Int->Bool) (n:Nat)
 /-- an instance of the class at C,its dict at dx,its attributes -/
 |ins (C dx:Addr) (fs:List (Str×V))
 /-- the dict of the instance at x -/
 |own (x:Addr)
 /-- the dict of an exception -/
 |xd (fs:List (Str×V))
 /-- a bound method,f of x -/
 |met (f x:Addr)
 /-- a range object lo,lo+1,.. below hi -/
 |rng (lo hi:Int)
 /-- a thing that is known to the object (the script;a dict while a loop walks it): read,never written while it is so -/
 |frz (o:Obj) (u:HO)
 /-- a code object's table -/
 |tbl (ps:Array Value) (q:List (Pos×Str))
 /-- any other thing,by what is true of its one object (a def of one's own: jP a S n:=HO.ext λh=> ..) -/
 |ext (φ:Heap->Prop)
variable{o:HO}
abbrev Hp:=Addr->Option HO
variable{H:Hp}{R:V->V->Hp->Prop}
def z8 (H:Hp)(a:Addr)(o:HO):Hp:=λb=>if b=a then some o else H b
theorem y7 :z8 H a o a=some o:=by unfold z8;rw [if_pos rfl]
theorem z9 (h:b≠a):z8 H a o b=H b:=by unfold z8;rw [if_neg h]
theorem ne_of {u:HO}(h:H a=some o)(h':H b=some u)(d:o≠u):a≠b:=by intro e;subst e;rw [h] at h';exact d (Option.some.inj h')
theorem p5 (h:H a=some o)(h':H b=none):a≠b:=by intro e;subst e;rw [h] at h';cases h'
section
variable (P:Program)(w:World)
def ObjOk (H:Hp)(h:Heap)(a:Addr):HO->Prop
 | .lst xs=>xs.length<=sizeLine/\∃ (its:List Value) (n:Nat),Vals xs its/\h.get? a=some { cls:= .type "list",data:= .seq its.toArray n }
 | .tup xs=>xs.length<=sizeLine/\∃ its:List Value,Vals xs its/\IsTup h a its.toArray
 | .dK kvs=>kvs.length<=sizeLine/\(a==sysModules)=false/\∃ vs,KV kvs vs/\h.DictOf (qz P w) a vs
 | .dT kvs=>kvs.length<=sizeLine/\(a==sysModules)=false/\∃ xs:List (List j4×Addr×Value),
   Paired (λ(p:List j4×V) (q:List j4×Addr×Value)=>p.1=q.1/\H q.2.1=some (.tup (p.1.map kV))/\RelV p.2 q.2.2) kvs xs /\
   ∃ o es ep,h.get? a=some o/\o.ExactDict/\o.data = .dict es ep/\es.toList=xs.map (entryOfKey (tupleKind (qz P w)))/\(xs.map (·.1)).Nodup
 | .set S n=>h.SetOf (intKind P w) a S n
 | .ins C dx fs=>H dx=some (.own a)/\fs.length<=1000/\dx≠a/\h.get? a=some (PySem.W.instObj C dx) /\
   ∃ mA,h.Ns1 dx mA/\(∀ f,RelO (fs.lookup f) (mA f))/\PySem.Within mA (fs.map (·.1))
 | .own _=>∃ o,h.get? a=some o
 | .xd fs=>∃ mA,h.Ns1 a mA/\∀ f,RelO (fs.lookup f) (mA f)
 | .rng lo hi=>∃ t u v,h.get? a=some { cls:= .type "range",data:= .fields #[.int lo t,.int hi u,.int 1 v] }
 | .frz o u=>h.get? a=some o/\ObjOk H h a u
 | .tbl ps q=>∃ more:Array Value,h.get? a=some { cls:= .none,data:= .fields (ps++more) }/\TriplesOk (ps++more).toList /\
   ∀ p∈q,codeAmong p.1 (ps++more).toList=none∨∃ c o vs t,codeAmong p.1 (ps++more).toList=some (.ref c)/\H c=some (.frz o (.own a))/\o.data = .fields vs/\vs[1]?=some (.str p.2 t)
 | .met f x=>h.get? a=some (PySem.W.methodObj (.ref f) (.ref x))
 | .ext φ=>φ h/\(∃ o,h.get? a=some o)/\∀ h1 h2:Heap,φ h1->(∀ o,h1.get? a=some o->h2.get? a=some o)->φ h2
def HOk (H:Hp)(h:Heap):Prop:=∀ a o,H a=some o->ObjOk P w H h a o
end
section
variable {P:Program}{w:World}{H H':Hp}{h h':Heap}{a:Addr}{o:HO}
theorem ObjOk.lt (x:ObjOk P w H h a o):a<h.objs.size:=by
 cases o with
 |lst xs=>obtain ⟨_,_,_,_,e⟩:=x;exact yT e
 |tup xs=>obtain ⟨_,_,_,p⟩:=x;exact p.lt
 |dK kvs=>obtain ⟨_,_,_,_,o,_,_,e,_⟩:=x;exact yT e
 |dT kvs=>obtain ⟨_,_,_,_,o,_,_,e,_⟩:=x;exact yT e
 |set S n=>obtain ⟨o,_,_,_,e,_⟩:=x;exact yT e
 |ins C dx fs=>obtain ⟨_,_,_,e,_⟩:=x;exact yT e
 |own y=>obtain ⟨_,e⟩:=x;exact yT e
 |xd fs=>obtain ⟨_,⟨_,_,_,e,_⟩,_⟩:=x;exact yT e
 |rng lo hi=>obtain ⟨_,_,_,e⟩:=x;exact yT e
 |frz ob u=>obtain ⟨e,_⟩:=x;exact yT e
 |tbl ps q=>obtain ⟨_,e,_⟩:=x;exact yT e
 |met f y=>exact yT (show h.get? a=some _ from x)
 |ext φ=>obtain ⟨_,⟨_,e⟩,_⟩:=x;exact yT e
theorem Paired.mapP {α β:Type}{F G:α->β->Prop}:∀{l₁:List α}{l₂:List β},Paired F l₁ l₂->(∀ a b,F a b->G a b)->Paired G l₁ l₂
 |_,_,.nil,_=> .nil
 |_,_,.cons r t,f=> .cons (f _ _ r) (Paired.mapP t f)
theorem ObjOk.stay (x:ObjOk P w H h a o)(k:∀ b u,(b=a∨H b=some (.own a))->h.get? b=some u->h'.get? b=some u)(ho:∀ b,H b=some (.own a)->H' b=some (.own a))(ht:∀ b xs,H b=some (.tup xs)->H' b=some (.tup xs))(hz:∀ b o u,H b=some (.frz o u)->H' b=some (.frz o u)):ObjOk P w H' h' a o:=by
 induction o with
 |lst xs=>obtain ⟨z,its,n,r,e⟩:=x;exact ⟨z,its,n,r,k _ _ (.inl rfl) e⟩
 |tup xs=>obtain ⟨z,its,r,ob,e,c⟩:=x;exact ⟨z,its,r,ob,k _ _ (.inl rfl) e,c⟩
 |dK kvs=>obtain ⟨z,y,vs,r,ob,es,ep,e,c⟩:=x;exact ⟨z,y,vs,r,ob,es,ep,k _ _ (.inl rfl) e,c⟩
 |dT kvs=>obtain ⟨z,y,xs,r,ob,es,ep,e,c⟩:=x;exact ⟨z,y,xs,Paired.mapP r λp q z=>⟨z.1,ht _ _ z.2.1,z.2.2⟩,ob,es,ep,k _ _ (.inl rfl) e,c⟩
 |set S n=>obtain ⟨ob,es,ep,t,e,c⟩:=x;exact ⟨ob,es,ep,t,k _ _ (.inl rfl) e,c⟩
 |ins C dx fs=>obtain ⟨d,z,ne,e,mA,⟨od,es,ep,e2,c⟩,r⟩:=x;exact ⟨ho _ d,z,ne,k _ _ (.inl rfl) e,mA,⟨od,es,ep,k _ _ (.inr d) e2,c⟩,r⟩
 |own y=>obtain ⟨ob,e⟩:=x;exact ⟨ob,k _ _ (.inl rfl) e⟩
 |xd fs=>obtain ⟨mA,⟨od,es,ep,e,c⟩,r⟩:=x;exact ⟨mA,⟨od,es,ep,k _ _ (.inl rfl) e,c⟩,r⟩
 |rng lo hi=>obtain ⟨t,u,v,e⟩:=x;exact ⟨t,u,v,k _ _ (.inl rfl) e⟩
 |frz ob u ih=>obtain ⟨e,q⟩:=x;exact ⟨k _ _ (.inl rfl) e,ih q⟩
 |tbl ps q =>
  obtain ⟨more,e,t,r⟩:=x;refine ⟨more,k a _ (.inl rfl) e,t,λp hp=>?_⟩;rcases r p hp with z|⟨c,o,vs,t,z,oc,e2⟩
  ·exact .inl z
  ·exact .inr ⟨c,o,vs,t,z,hz c o _ oc,e2⟩
 |met f y=>have e:h.get? a=some (PySem.W.methodObj (.ref f) (.ref y)):=x;show h'.get? a=some (PySem.W.methodObj (.ref f) (.ref y));exact k a _ (.inl rfl) e
 |ext φ=>obtain ⟨p,⟨o,e⟩,st⟩:=x;exact ⟨st _ _ p λo q=>k _ _ (.inl rfl) q,⟨o,k _ _ (.inl rfl) e⟩,st⟩
theorem HOk.lt (x:HOk P w H h)(e:H a=some o):a<h.objs.size:=(x a o e).lt
theorem HOk.fresh (x:HOk P w H h)(e:h.objs.size<=a):H a=none:=by
 cases q:H a with
 |none=>rfl
 |some u=>exact absurd (yB (x.lt q) e) (uY _)
theorem HOk.kept (x:HOk P w H h)(k:∀ b u,h.get? b=some u->h'.get? b=some u):HOk P w H h':=λa o e =>
 (x a o e).stay (λb u _ q=>k b u q) (λ_ q=>q) (λ_ _ q=>q) λ_ _ _ q=>q
theorem HOk.laid (x:HOk P w H h)(k:∀ b u,h.get? b=some u->h'.get? b=some u)(hp:h.objs.size<=a)(new:ObjOk P w (z8 H a o) h' a o):HOk P w (z8 H a o) h':=λb u e=>by
 have hn:=x.fresh hp;by_cases hb:b=a
 ·subst hb;rw [y7] at e;cases e;exact new
 ·rw [z9 hb] at e;exact (x b u e).stay (λc v _ q=>k c v q) (λc q=>by rw [z9 (p5 q hn)];exact q) (λc xs q=>by rw [z9 (p5 q hn)];exact q) λc _ _ q=>by rw [z9 (p5 q hn)];exact q
end
def Rd (H:Hp)(a:Addr)(u:HO):Prop:=H a=some u∨∃ o,H a=some (.frz o u)
theorem Rd.ok {u:HO}(r:Rd H a u)(x:HOk P w H h):ObjOk P w H h a u:=by
 rcases r with r|⟨o,r⟩
 ·exact x a u r
 ·obtain ⟨_,q⟩:=x a _ r;exact q
def Mut:Option HO->Prop
 |some (.lst _)=>True
 |some (.dK _)=>True
 |some (.dT _)=>True
 |some (.set _ _)=>True
 |some (.ins _ _ _)=>True
 |some (.ext _)=>True
 |_=>False
section
variable {P:Program}{w:World}{H:Hp}{h h':Heap}{x e:Addr}{o':HO}
theorem HOk.write (ok:HOk P w H h)(mu:Mut (H x))(he:e=x∨H e=some (.own x))(k:∀ b u,b≠e->h.get? b=some u->h'.get? b=some u)(heo:∃ u,h'.get? e=some u)(new:ObjOk P w (z8 H x o') h' x o'):HOk P w (z8 H x o') h':=λb u q=>by
 have nown:∀ c y,H c=some (.own y)->c≠x:=λc y r z=>by subst z;rw [r] at mu;exact mu
 have ntup:∀ c xs,H c=some (.tup xs)->c≠x:=λc xs r z=>by subst z;rw [r] at mu;exact mu
 have nfrz:∀ c ob xs,H c=some (.frz ob xs)->c≠x:=λc ob xs r z=>by subst z;rw [r] at mu;exact mu
 by_cases hb:b=x
 ·subst hb;rw [y7] at q;cases q;exact new
 ·rw [z9 hb] at q;by_cases hbe:b=e
  ·have q':H b=some (.own x):=by
    rcases he with z|z
    ·exact absurd (hbe.trans z) hb
    ·rw [hbe];exact z
   rw [q] at q';cases q';obtain ⟨v,hv⟩:=heo;exact ⟨v,by rw [hbe];exact hv⟩
  ·refine (ok b u q).stay (λc v hc r=>k c v ?_ r) (λc r=>by rw [z9 (nown c b r)];exact r) (λc xs r=>by rw [z9 (ntup c xs r)];exact r) λc ob xs r=>by rw [z9 (nfrz c ob xs r)];exact r
   rcases hc with rfl|hc
   ·exact hbe
   ·rintro rfl;rcases he with z|z
    ·exact nown c b hc z
    ·rw [hc] at z;cases z;exact hb rfl
end
structure Un (fs ex:List Addr)(H H':Hp)(h h':Heap):Prop where
 keep:∀ b o,h.get? b=some o->H b=none->b∉fs->b∉ex->h'.get? b=some o
 slot:∀ b o,h.get? b=some o->H b=none->b∈fs->b∉ex->∃ sl,h'.get? b=some { o with slots:=sl }
 free:∀ b o,h.get? b=some o->H b=none->b∉ex->H' b=none
 there:∀ b o,h.get? b=some o->b∉ex->∃ o',h'.get? b=some o'
 tups:∀ b xs,H b=some (.tup xs)->H' b=some (.tup xs)
 frzs:∀ b o u,H b=some (.frz o u)->H' b=some (.frz o u)
 tbls:∀ b ps q,H b=some (.tbl ps q)->H' b=some (.tbl ps q)
section
variable {fs fs' ex ex':List Addr}{H H1 H2:Hp}{h h1 h2 h':Heap}{a x e:Addr}{o:HO}
theorem Un.any (u:Un fs ex H H1 h h1){ob:Obj}(q:h.get? b=some ob)(n:H b=none)(hx:b∉ex):∃ sl,h1.get? b=some { ob with slots:=sl }:=by
 by_cases hb:b∈fs
 ·exact u.slot b ob q n hb hx
 ·exact ⟨ob.slots,u.keep b ob q n hb hx⟩
theorem Un.kept (k:∀ b u,h.get? b=some u->h'.get? b=some u):Un fs ex H H h h' :=
 ⟨λb ob q _ _ _=>k b ob q,λb ob q _ _ _=>⟨ob.slots,k b ob q⟩,λ_ _ _ n _=>n,λb ob q _=>⟨ob,k b ob q⟩,λ_ _ q=>q,λ_ _ _ q=>q,λ_ _ _ q=>q⟩
theorem Un.refl:Un fs ex H H h h:=Un.kept λ_ _ q=>q
theorem Un.laid (k:∀ b u,h.get? b=some u->h'.get? b=some u)(hp:h.objs.size<=a)(hn:H a=none):Un fs ex H (z8 H a o) h h' where
 keep:=λb u q _ _ _=>k b u q
 slot:=λb u q _ _ _=>⟨u.slots,k b u q⟩
 free:=λb u q n _=>by rw [z9 (yG (yB (yT q) hp))];exact n
 there:=λb u q _=>⟨u,k b u q⟩
 tups:=λb xs q=>by rw [z9 (p5 q hn)];exact q
 frzs:=λb u xs q=>by rw [z9 (p5 q hn)];exact q
 tbls:=λb ps z q=>by rw [z9 (p5 q hn)];exact q
theorem Un.write (mu:Mut (H x))(he:e=x∨H e=some (.own x))(k:∀ b u,b≠e->h.get? b=some u->h'.get? b=some u)(heo:∃ u,h'.get? e=some u):Un fs ex H (z8 H x o) h h':=by
 have hx:∀ b,H b=none->b≠x:=λb n z=>by subst z;rw [n] at mu;exact mu
 have hb:∀ b,H b=none->b≠e:=λb n z=>by
  subst z;rcases he with r|r
  ·exact hx b n r
  ·rw [n] at r;cases r
 have hm:∀ b u,H b=some u->¬ Mut (some u)->b≠x:=λb u q nm z=>by subst z;rw [q] at mu;exact nm mu
 refine ⟨λb u q n _ _=>k b u (hb b n) q,λb u q n _ _=>⟨u.slots,k b u (hb b n) q⟩,λb u q n _=>by rw [z9 (hx b n)];exact n,λb u q _=>?_,
  λb xs q=>by rw [z9 (hm b _ q λz=>z)];exact q,λb u xs q=>by rw [z9 (hm b _ q λz=>z)];exact q,λb ps r q=>by rw [z9 (hm b _ q λz=>z)];exact q⟩
 by_cases hbe:b=e
 ·subst hbe;exact heo
 ·exact ⟨u,k b u hbe q⟩
end
def trk (h:Heap)(H:Hp):List Addr:=(List.range h.objs.size).filter λa=>(H a).isSome
def zZ (h:Heap)(H:Hp):Heap:=PySem.W.hideAll h (trk h H)
theorem Px (h:Heap)(H:Hp):(zZ h H).objs.size=h.objs.size:=PySem.W.hideAll_size _ _
theorem Pw {o:Obj}(e:h.get? b=some o)(n:H b=none):(zZ h H).get? b=some o :=
 PySem.W.hideAll_get _ e λhm=>by
  have q:(H b).isSome=true:=(ux.mp hm).2;rw [n] at q;simp at q
theorem CY {o:Obj}(e:(zZ h H).get? b=some o):h.get? b=some o/\H b=none:=by
 have e':h.get? b=some o:=PySem.W.of_hideAll (trk h H) e;refine ⟨e',?_⟩;cases q:H b with
 |none=>rfl
 |some x=>have hm:b∈trk h H:=ux.mpr ⟨uB.mpr (yT e'),by simp [q]⟩;have z:(zZ h H).get? b=none:=PySem.W.hideAll_none (trk h H) hm;rw [z] at e;cases e
structure Mod (K:Fg)(mg:Str->Option Value)(base:Heap):Prop where
 kin:K.In base
 glob:base.Ns mainGlobals mg
 blt:∃ mb,base.Ns builtinsNs mb/\∀ x:Str,x ≠ "__name__"->mb x=bootBuiltins x
 nolimit:base.NoLimit
 bmn:∃ bm ob,mg "__builtins__"=some (.ref bm)/\bm≠builtinsNs/\base.get? bm=some ob/\ob.cls = .type "module"/\ob.dict=some builtinsNs/\ob.data = .plain
structure Cx where
 prog:Program
 w:World
 K:Fg
 mg:Str->Option Value
 base:Heap
 A:Around
 N:List Str
 s₀:Shared
 H₀:Hp
 env:Env
 outer:List Env
 stack:List Env
 ex:List Addr
 fn:Str->Bool
 calm:Bool
 pn:List (Addr×Obj)
 xe:Value->Shared->Prop
variable{X:Cx}
def c6 (l:List Env):List Addr:=l.filterMap (·.frame)
abbrev Cx.fs (X:Cx):List Addr:=c6 X.outer
def Vis (sc:Scope)(x:Str):Prop:=sc.names.lookup x=some .local∨sc.names.lookup x=some .cell∨sc.names.lookup x=some .free
def Loc (sc:Scope)(x:Str):Prop:=sc.names.lookup x=some .local∨sc.names.lookup x=some .cell
def Look (env:Env)(h:Heap)(m:Str->Option Value)(x:Str)(u:Value):Prop :=
 (env.kindOf x=some .local/\m x=some u)∨((env.kindOf x=some .cell∨env.kindOf x=some .free)/\∃ c,env.cells.lookup x=some c/\h.IsCell c (some u))
structure Cx.Ok (X:Cx):Prop where
 mod:Mod X.K X.mg X.base
 kind:X.env.scope.kind = .function
 glob:X.env.globals=mainGlobals
 blt:X.env.builtins=builtinsNs
 above:X.s₀.heap.objs.size<=X.env.locals
 inj:∀ x y c,X.env.cells.lookup x=some c->X.env.cells.lookup y=some c->x=y
 has:∀ x,(X.env.kindOf x=some .cell∨X.env.kindOf x=some .free)->∃ c,X.env.cells.lookup x=some c
 cab:∀ x c,X.fn x=true->X.env.cells.lookup x=some c->X.s₀.heap.objs.size<=c
 hd:X.calm=true->X.A.handled=none
 frames:X.A.frames=some X.stack
 stk:X.stack=X.outer∨(X.stack=X.env::X.outer/\X.env.frame=some X.env.locals)
 exf:∀ b∈X.ex,b≠X.env.locals/\∀ x c,X.env.cells.lookup x=some c->c≠b
 bs:∀ b o,X.base.get? b=some o->X.s₀.heap.get? b=some o/\X.H₀ b=none
 bsz:X.base.objs.size<=X.s₀.heap.objs.size
 noex:∀ b o,X.base.get? b=some o->b∉X.ex
 exfs:∀ b∈X.ex,b∉X.fs
 funs:X.s₀.heap.FunFrames X.base X.outer
 frf:∀ b∈X.fs,X.H₀ b=none
 tbs:∀ p∈TABS,X.H₀ p.1=some (.tbl p.2.1 p.2.2)
structure Inv (X:Cx)(pins:List (Addr×Obj))(σ:List (Option V))(H:Hp)(s:Shared):Prop where
 ok:X.Ok
 os:s.os=X.s₀.os
 bare:AllBare s.gens
 base:Un X.fs X.ex X.H₀ H X.s₀.heap s.heap
 loc:∃ m,s.heap.Ns X.env.locals m/\∀(i:Nat)(x:Str)(v:V),X.N[i]?=some x->σ[i]?=some (some v)->Vis X.env.scope x->∃ u,RelV v u/\Look X.env s.heap m x u
 cell:∀ x c,X.env.cells.lookup x=some c->∃ v,s.heap.IsCell c v
 free:H X.env.locals=none
 freeC:∀ x c,X.env.cells.lookup x=some c->H c=none
 pin:∀ p∈X.pn++pins,s.heap.get? p.1=some p.2/\H p.1=none/\p.1≠X.env.locals/\p.1∉X.fs/\∀ v,p.2.data ≠ .cell v
 hok:HOk X.prog X.w H s.heap
 len:σ.length=X.N.length
section
variable {X:Cx}{pins:List (Addr×Obj)}{σ:List (Option V)}{H H':Hp}{s:Shared}{h':Heap}
theorem Cx.Ok.nofr (ok:X.Ok){o:Obj}(e:X.base.get? b=some o):b∉X.fs:=λhb=>by
 have:=(ok.funs.mem hb).1;rw [e] at this;cases this
theorem Inv.bs (I:Inv X pins σ H s):∀ b o,X.base.get? b=some o->s.heap.get? b=some o/\H b=none:=λb o e =>
 ⟨I.base.keep b o (I.ok.bs b o e).1 (I.ok.bs b o e).2 (I.ok.nofr e) (I.ok.noex b o e),I.base.free b o (I.ok.bs b o e).1 (I.ok.bs b o e).2 (I.ok.noex b o e)⟩
theorem Inv.bk (I:Inv X pins σ H s):∀ b o,X.base.get? b=some o->s.heap.get? b=some o:=λb o e=>(I.bs b o e).1
theorem Inv.mod (I:Inv X pins σ H s):Mod X.K X.mg X.base:=I.ok.mod
theorem Inv.kIn (I:Inv X pins σ H s):X.K.In s.heap:=I.ok.mod.kin.keeps I.bk
theorem Inv.fr (I:Inv X pins σ H s):∃ m,Fr X.base X.env.locals s.heap m :=
 let ⟨m,hn,_⟩:=I.loc
 ⟨m,hn,I.bk,yc I.ok.bsz I.ok.above⟩
theorem Inv.lt (I:Inv X pins σ H s):X.env.locals<s.heap.objs.size:=let ⟨_,hn,_⟩:=I.loc;hn.lt
theorem Inv.sz (I:Inv X pins σ H s):X.s₀.heap.objs.size<=s.heap.objs.size:=yc I.ok.above (uT I.lt)
theorem Inv.nofs (I:Inv X pins σ H s)(h:s.heap.objs.size<=a):a∉X.fs:=λhb=>by
 obtain ⟨_,o,ho,_⟩:=I.ok.funs.mem hb;exact absurd (yB (yT ho) (yc I.sz h)) (uY _)
theorem Inv.cne (I:Inv X pins σ H s):∀ x c,X.env.cells.lookup x=some c->c≠X.env.locals:=λx c e z=>by
 obtain ⟨v,o,ho,hd⟩:=I.cell x c e;obtain ⟨m,⟨o',es,ep,ho',hd',_⟩,_⟩:=I.loc;rw [z,ho'] at ho;cases ho;rw [hd'] at hd;cases hd
theorem Inv.funs (I:Inv X pins σ H s):s.heap.FunFrames X.base X.outer:=by
 have all:∀(l:List Env),(∀ b∈c6 l,b∈X.fs)->X.s₀.heap.FunFrames X.base l->s.heap.FunFrames X.base l:=by
  intro l
  induction l with
  |nil=>intro _ _;trivial
  |cons env r ih=>intro hs hl;obtain ⟨hk,⟨L,o,hf,hn,ho,hd⟩,hr⟩:=hl;have hL:L∈X.fs:=hs L (by unfold c6;rw [List.filterMap_cons,hf];exact yQ);obtain ⟨sl,e⟩:=I.base.slot L o ho (I.ok.frf L hL) hL λz=>I.ok.exfs L z hL;exact ⟨hk,⟨L,_,hf,hn,e,hd⟩,ih (λb hb=>hs b (by unfold c6;rw [List.filterMap_cons,hf];exact yR _ hb)) hr⟩
 exact all X.outer (λ_ hb=>hb) I.ok.funs
theorem Inv.stack (I:Inv X pins σ H s):s.heap.FunFrames X.base X.stack:=by
 rcases I.ok.stk with e|⟨e,hf⟩
 ·rw [e];exact I.funs
 ·rw [e];obtain ⟨m,hn,_⟩:=I.loc;refine .cons (by rw [I.ok.kind];decide) hf hn ?_ I.funs;exact uW (yc I.ok.bsz I.ok.above)
theorem Inv.stkSub (I:Inv X pins σ H s):∀ b∈c6 X.stack,b∈X.env.locals::X.fs:=λb hb=>by
 rcases I.ok.stk with e|⟨e,hf⟩
 ·rw [e] at hb;exact yR _ hb
 ·rw [e] at hb;unfold c6 at hb;rw [List.filterMap_cons,hf] at hb;exact hb
theorem Inv.stkFree (I:Inv X pins σ H s):∀ b∈c6 X.stack,H b=none:=λb hb=>by
 rcases yM.mp (I.stkSub b hb) with e|hb
 ·rw [e];exact I.free
 ·obtain ⟨_,o,ho,_⟩:=I.ok.funs.mem hb;exact I.base.free b o ho (I.ok.frf b hb) λz=>I.ok.exfs b z hb
theorem Inv.step (I:Inv X pins σ H s)(hch:∀ b∈ch,(b∈X.ex∨X.s₀.heap.objs.size<=b)/\b≠X.env.locals/\(∀ x c,X.env.cells.lookup x=some c->c≠b)/\∀ p∈X.pn++pins,p.1≠b)(keep:∀ b o,b≠X.env.locals->b∉X.fs->b∉ch->s.heap.get? b=some o->H b=none->h'.get? b=some o)(slot:∀ b o,b≠X.env.locals->b∈X.fs->b∉ch->s.heap.get? b=some o->H b=none->∃ sl,h'.get? b=some { o with slots:=sl })(free:∀ b o,b∉ch->s.heap.get? b=some o->H b=none->H' b=none)(there:∀ b o,b∉ch->s.heap.get? b=some o->∃ o',h'.get? b=some o')(tups:∀ b xs,H b=some (.tup xs)->H' b=some (.tup xs))(frzs:∀ b o u,H b=some (.frz o u)->H' b=some (.frz o u))(tbls:∀ b ps q,H b=some (.tbl ps q)->H' b=some (.tbl ps q))(ns:∀ m,s.heap.Ns X.env.locals m->h'.Ns X.env.locals m)(hok:HOk X.prog X.w H' h')(hg:AllBare g'):Inv X pins σ H' { s with heap:=h',gens:=g',drawn:=d',toks:=t' }:=by
 have neL:∀ b o,X.s₀.heap.get? b=some o->b≠X.env.locals:=λb o e=>yG (yB (yT e) I.ok.above);have neC:∀ b o,X.s₀.heap.get? b=some o->b∉X.ex->b∉ch:=λb o e hx hb=>by
  rcases (hch b hb).1 with z|z
  ·exact hx z
  ·exact absurd (yB (yT e) z) (uY _)
 have cellK:∀ x c,X.env.cells.lookup x=some c->∀ v,s.heap.IsCell c v->h'.IsCell c v:=λx c e v ⟨o,ho,hd⟩=>by
  have nch:c∉ch:=λz=>(hch c z).2.2.1 x c e rfl;by_cases hc:c∈X.fs
  ·obtain ⟨sl,q⟩:=slot c o (I.cne x c e) hc nch ho (I.freeC x c e);exact ⟨_,q,hd⟩
  ·exact ⟨o,keep c o (I.cne x c e) hc nch ho (I.freeC x c e),hd⟩
 refine ⟨I.ok,I.os,hg,⟨λb o e n hb hx=>?_,λb o e n hb hx=>?_,λb o e n hx=>?_,λb o e hx=>?_,λb xs e=>tups b xs (I.base.tups b xs e),λb o xs e=>frzs b o xs (I.base.frzs b o xs e),λb ps q e=>tbls b ps q (I.base.tbls b ps q e)⟩,?_,λx c e=>?_,?_,λx c e=>?_,λp hp=>?_,hok,I.len⟩
 ·exact keep b o (neL b o e) hb (neC b o e hx) (I.base.keep b o e n hb hx) (I.base.free b o e n hx)
 ·obtain ⟨sl,e1⟩:=I.base.slot b o e n hb hx;obtain ⟨sl',e2⟩:=slot b _ (neL b o e) hb (neC b o e hx) e1 (I.base.free b o e n hx);exact ⟨sl',e2⟩
 ·obtain ⟨o',e1⟩:=I.base.there b o e hx;exact free b o' (neC b o e hx) e1 (I.base.free b o e n hx)
 ·obtain ⟨o',e1⟩:=I.base.there b o e hx;exact there b o' (neC b o e hx) e1
 ·obtain ⟨m,hn,hl⟩:=I.loc;refine ⟨m,ns m hn,λi x v e1 e2 e3=>?_⟩;obtain ⟨u,r,l⟩:=hl i x v e1 e2 e3;refine ⟨u,r,?_⟩;rcases l with l|⟨k,c,e,z⟩
  ·exact .inl l
  ·exact .inr ⟨k,c,e,cellK x c e _ z⟩
 ·obtain ⟨v,z⟩:=I.cell x c e;exact ⟨v,cellK x c e v z⟩
 ·obtain ⟨m,⟨o,_,_,ho,_⟩,_⟩:=I.loc;exact free _ o (λz=>(hch _ z).2.1 rfl) ho I.free
 ·obtain ⟨v,o,ho,hd⟩:=I.cell x c e;exact free c o (λz=>(hch c z).2.2.1 x c e rfl) ho (I.freeC x c e)
 ·obtain ⟨e,n,ne,nf,d⟩:=I.pin p hp;have nch:p.1∉ch:=λz=>(hch p.1 z).2.2.2 p hp rfl;exact ⟨keep p.1 p.2 ne nf nch e n,free p.1 p.2 nch e n,ne,nf,d⟩
theorem Inv.un (I:Inv X pins σ H s)(u:Un X.fs [] H H' s.heap h')(hok:HOk X.prog X.w H' h'):Inv X pins σ H' { s with heap:=h',toks:=t' }:=by
 obtain ⟨m,⟨o,es,ep,ho,r⟩,_⟩:=id I.loc;obtain ⟨sl,hL⟩:=u.any ho I.free (by simp);exact I.step (g':=s.gens) (d':=s.drawn) (ch:=[]) (λ_ z=>nomatch z) (λb o _ hb _ e n=>u.keep b o e n hb (by simp)) (λb o _ hb _ e n=>u.slot b o e n hb (by simp)) (λb o _ e n=>u.free b o e n (by simp)) (λb o _ e=>u.there b o e (by simp)) u.tups u.frzs u.tbls (λm' hm=>by
  obtain ⟨o',es',ep',ho',r'⟩:=hm;rw [ho] at ho';cases ho';exact ⟨_,es',ep',hL,r'⟩) hok I.bare
theorem Inv.call (I:Inv X pins σ H s)(u:Un (c6 X.stack) ch H H' s.heap h')(hok:HOk X.prog X.w H' h')(hg:AllBare g')(hch:∀ b∈ch,(b∈X.ex∨X.s₀.heap.objs.size<=b)/\b≠X.env.locals/\(∀ x c,X.env.cells.lookup x=some c->c≠b)/\∀ p∈X.pn++pins,p.1≠b):Inv X pins σ H' { s with heap:=h',gens:=g',drawn:=d',toks:=t' }:=by
 obtain ⟨m,⟨o,es,ep,ho,r⟩,_⟩:=id I.loc;obtain ⟨sl,hL⟩:=u.any ho I.free λz=>(hch _ z).2.1 rfl;exact I.step (ch:=ch) hch (λb o hL hb hc e n=>u.keep b o e n (λz=>(yM.mp (I.stkSub b z)).elim hL hb) hc) (λb o _ _ hc e n=>u.any e n hc) (λb o hc e n=>u.free b o e n hc) (λb o hc e=>u.there b o e hc) u.tups u.frzs u.tbls (λm' hm=>by
  obtain ⟨o',es',ep',ho',r'⟩:=hm;rw [ho] at ho';cases ho';exact ⟨_,es',ep',hL,r'⟩) hok hg
theorem Inv.turned (I:Inv X pins σ H s)(k:∀ b o,b≠it->s.heap.get? b=some o->h'.get? b=some o)(hn:H it=none)(hL:it≠X.env.locals)(h1:it∈X.ex∨X.s₀.heap.objs.size<=it)(h2:∀ x c,X.env.cells.lookup x=some c->c≠it)(h3:∀ p∈X.pn++pins,p.1≠it):Inv X pins σ H { s with heap:=h',toks:=t' }:=by
 have nit:∀ b u,H b=some u->b≠it:=λb u e z=>by rw [z,hn] at e;cases e
 refine I.step (g':=s.gens) (d':=s.drawn) (ch:=[it]) (λb hb=>?_) (λb o _ _ hc e _=>k b o (λz=>hc (by simp [z])) e) (λb o _ _ hc e _=>⟨o.slots,k b o (λz=>hc (by simp [z])) e⟩) (λ_ _ _ _ n=>n)
  (λb o hc e=>⟨o,k b o (λz=>hc (by simp [z])) e⟩) (λ_ _ e=>e) (λ_ _ _ e=>e) (λ_ _ _ e=>e) (λm hm=>?_) (λb u e=>?_) I.bare
 ·have e:b=it:=by simpa using hb
  subst e;exact ⟨h1,hL,h2,h3⟩
 ·obtain ⟨o,es,ep,ho,r⟩:=hm;exact ⟨o,es,ep,k _ o (Ne.symm hL) ho,r⟩
 ·refine (I.hok b u e).stay (λc v hc q=>k c v ?_ q) (λ_ q=>q) (λ_ _ q=>q) λ_ _ _ q=>q;rcases hc with z|z
  ·rw [z];exact nit b u e
  ·exact nit c _ z
theorem Inv.tok (I:Inv X pins σ H s)(t:Nat):Inv X pins σ H { s with toks:=t }:=I.un (h':=s.heap) (t':=t) Un.refl I.hok
theorem Inv.kept (I:Inv X pins σ H s)(k:∀ b u,s.heap.get? b=some u->h'.get? b=some u):Inv X pins σ H { s with heap:=h',toks:=t' }:=I.un (Un.kept k) (I.hok.kept k)
theorem Inv.laid (I:Inv X pins σ H s)(k:∀ b u,s.heap.get? b=some u->h'.get? b=some u)(hp:s.heap.objs.size<=a)(new:ObjOk X.prog X.w (z8 H a o) h' a o):Inv X pins σ (z8 H a o) { s with heap:=h',toks:=t' }:=I.un (Un.laid k hp (I.hok.fresh hp)) (I.hok.laid k hp new)
theorem Inv.write {x e:Addr}(I:Inv X pins σ H s)(mu:Mut (H x))(he:e=x∨H e=some (.own x))(k:∀ b u,b≠e->s.heap.get? b=some u->h'.get? b=some u)(heo:∃ u,h'.get? e=some u)(new:ObjOk X.prog X.w (z8 H x o) h' x o):Inv X pins σ (z8 H x o) { s with heap:=h',toks:=t' }:=I.un (Un.write mu he k heo) (I.hok.write mu he k heo new)
theorem Inv.weak {σ':List (Option V)}(I:Inv X pins σ H s)(hl:σ'.length=σ.length)(w:∀(i:Nat) v,σ'[i]?=some (some v)->σ[i]?=some (some v)):Inv X pins σ' H s :=
 ⟨I.ok,I.os,I.bare,I.base,let ⟨m,hn,hl'⟩:=I.loc;⟨m,hn,λi x v e1 e2 e3=>hl' i x v e1 (w i v e2) e3⟩,I.cell,I.free,I.freeC,I.pin,I.hok,hl.trans I.len⟩
theorem Inv.pins_of {pins':List (Addr×Obj)}(I:Inv X pins σ H s)(h:∀ p∈pins',s.heap.get? p.1=some p.2/\H p.1=none/\p.1≠X.env.locals/\p.1∉X.fs/\∀ v,p.2.data ≠ .cell v):Inv X pins' σ H s :=
 ⟨I.ok,I.os,I.bare,I.base,I.loc,I.cell,I.free,I.freeC,λp hp=>(yx.mp hp).elim (λz=>I.pin p (yg _ z)) (h p),I.hok,I.len⟩
theorem Jh (hN:N.Nodup){i:Nat}(a:N[i]?=some x)(b:N[j]?=some x):i=j:=by obtain ⟨h1,e1⟩:=yD.mp a;obtain ⟨h2,e2⟩:=yD.mp b;exact (List.getElem_inj hN).mp (e1.trans e2.symm)
theorem Kg {M:Model}{i:Nat}{Q:Unit->Shared->Prop}(I:Inv X pins σ H s)(hN:X.N.Nodup)(hi:X.N[i]?=some x)(hx:Loc X.env.scope x)(r:RelV v u)(h:∀ s',Inv X pins (σ.set i (some v)) H s'->(∃ a,Heap.SameBut a s.heap s'.heap/\(a=X.env.locals∨X.env.cells.lookup x=some a))->Q () s')(hf:X.fn x=true∨X.env.scope.names.lookup x=some .local:=by first|exact .inl rfl|exact .inr rfl|assumption):wpAny M A (storeName X.env x u) Q E s:=by
 obtain ⟨m,hn,hl⟩:=id I.loc;have hcls:(X.env.scope.kind == .class || (X.env.scope.kind == .module&&X.env.locals != X.env.globals))=false:=by rw [I.ok.kind];rfl
 have hiσ:i<σ.length:=by rw [I.len];exact (yD.mp hi).1
 have cne:=I.cne;have tracked:∀{a:Addr}{h':Heap},(∃ o,s.heap.get? a=some o/\H a=none)->Heap.SameBut a s.heap h'->HOk X.prog X.w H h':=λ{a h'} ha hs b ob e=>by
  obtain ⟨_,_,hfree⟩:=ha;refine (I.hok b ob e).stay (λc w' hc q=>(hs.2 c ?_).trans q) (λ_ q=>q) (λ_ _ q=>q) λ_ _ _ q=>q;rintro rfl;rcases hc with rfl|hc
  ·rw [hfree] at e;cases e
  ·rw [hfree] at hc;cases hc
 rcases hx with hk|hk
 ·refine wpAny_storeName_local hk hn (λh' hn' hs=>?_) hcls;obtain ⟨oL,_,_,hoL,_⟩:=id hn;refine h _ ⟨I.ok,I.os,I.bare,⟨λb o e n hb hx=>?_,λb o e n hb hx=>?_,I.base.free,λb o e hx=>?_,I.base.tups,I.base.frzs,I.base.tbls⟩,⟨_,hn',λj y v' e1 e2 e3=>?_⟩,λy c e=>?_,I.free,I.freeC,λp hp=>?_,tracked ⟨oL,hoL,I.free⟩ hs,by simpa using I.len⟩ ⟨_,hs,.inl rfl⟩
  ·exact (hs.2 b (yG (yB (yT e) I.ok.above))).trans (I.base.keep b o e n hb hx)
  ·obtain ⟨sl,e1⟩:=I.base.slot b o e n hb hx;exact ⟨sl,(hs.2 b (yG (yB (yT e) I.ok.above))).trans e1⟩
  ·obtain ⟨o',e1⟩:=I.base.there b o e hx;exact ⟨o',(hs.2 b (yG (yB (yT e) I.ok.above))).trans e1⟩
  ·by_cases hj:j=i
   ·subst hj;rw [hi] at e1;cases e1;rw [uN hiσ] at e2;cases e2;exact ⟨u,r,.inl ⟨hk,by simp⟩⟩
   ·rw [yq (Ne.symm hj)] at e2;obtain ⟨u',r',q⟩:=hl j y v' e1 e2 e3;refine ⟨u',r',?_⟩;rcases q with ⟨k,e⟩|⟨k,c,e,z⟩
    ·refine .inl ⟨k,?_⟩;have:y≠x:=λe=>hj (Jh hN e1 (e▸hi));simp [this,e]
    ·exact .inr ⟨k,c,e,z.sameBut hs (cne y c e)⟩
  ·obtain ⟨w',z⟩:=I.cell y c e;exact ⟨w',z.sameBut hs (cne y c e)⟩
  ·obtain ⟨e,n,ne,nf,d⟩:=I.pin p hp;exact ⟨(hs.2 p.1 ne).trans e,n,ne,nf,d⟩
 ·have hfn:X.fn x=true:=by
   rcases hf with z|z
   ·exact z
   ·rw [z] at hk;cases hk
  obtain ⟨c,hc⟩:=I.ok.has x (.inl hk);obtain ⟨w',z⟩:=I.cell x c hc;refine wpAny_storeName_cell I.ok.kind hk hc z (λh' hc' hs=>?_);obtain ⟨oc,hoc,hocd⟩:=id z;refine h { s with heap:=h' } ⟨I.ok,I.os,I.bare,⟨λb o e n hb hx=>?_,λb o e n hb hx=>?_,I.base.free,λb o e hx=>?_,I.base.tups,I.base.frzs,I.base.tbls⟩,⟨m,hn.sameBut hs (Ne.symm (cne x c hc)),λj y v' e1 e2 e3=>?_⟩,λy c' e=>?_,I.free,I.freeC,λp hp=>?_,tracked ⟨oc,hoc,I.freeC x c hc⟩ hs,by simpa using I.len⟩ ⟨c,hs,.inr hc⟩
  ·exact (hs.2 b (yG (yB (yT e) (I.ok.cab x c hfn hc)))).trans (I.base.keep b o e n hb hx)
  ·obtain ⟨sl,e1⟩:=I.base.slot b o e n hb hx;exact ⟨sl,(hs.2 b (yG (yB (yT e) (I.ok.cab x c hfn hc)))).trans e1⟩
  ·obtain ⟨o',e1⟩:=I.base.there b o e hx;exact ⟨o',(hs.2 b (yG (yB (yT e) (I.ok.cab x c hfn hc)))).trans e1⟩
  ·by_cases hj:j=i
   ·subst hj;rw [hi] at e1;cases e1;rw [uN hiσ] at e2;cases e2;exact ⟨u,r,.inr ⟨.inl hk,c,hc,hc'⟩⟩
   ·rw [yq (Ne.symm hj)] at e2;obtain ⟨u',r',q⟩:=hl j y v' e1 e2 e3;refine ⟨u',r',?_⟩;rcases q with q|⟨k,c',e,z'⟩
    ·exact .inl q
    ·refine .inr ⟨k,c',e,z'.sameBut hs ?_⟩;rintro rfl;exact hj (Jh hN e1 (I.ok.inj _ _ _ e hc▸hi))
  ·by_cases hcc:c'=c
   ·subst hcc;exact ⟨_,hc'⟩
   ·obtain ⟨w2,z2⟩:=I.cell y c' e;exact ⟨w2,z2.sameBut hs hcc⟩
  ·obtain ⟨e,n,ne,nf,d⟩:=I.pin p hp;refine ⟨(hs.2 p.1 ?_).trans e,n,ne,nf,d⟩;intro q;rw [q,hoc] at e;have q':oc=p.2:=Option.some.inj e;exact d w' (by rw [<- q'];exact hocd)
theorem VE {M:Model}{i:Nat}{Q:Unit->Shared->Prop}(I:Inv X pins σ H s)(hN:X.N.Nodup)(hi:X.N[i]?=some x)(hx:Loc X.env.scope x)(r:RelV v u)(h:∀ s',Inv X pins (σ.set i (some v)) H s'->Q () s')(hf:X.fn x=true∨X.env.scope.names.lookup x=some .local:=by first|exact .inl rfl|exact .inr rfl|assumption):wpAny M A (storeName X.env x u) Q E s :=
 Kg I hN hi hx r (λs' I' _=>h s' I') hf
theorem Inv.call' (I:Inv X pins σ H s)(ho:s'.os=s.os)(u:Un (c6 X.stack) ch H H' s.heap s'.heap)(hok:HOk X.prog X.w H' s'.heap)(hg:AllBare s'.gens)(hch:∀ b∈ch,(b∈X.ex∨X.s₀.heap.objs.size<=b)/\b≠X.env.locals/\(∀ x c,X.env.cells.lookup x=some c->c≠b)/\∀ p∈X.pn++pins,p.1≠b):Inv X pins σ H' s':=by obtain ⟨h',g',d',t',o'⟩:=s';have e:o'=s.os:=ho;subst e;exact I.call (g':=g') (t':=t') (d':=d') u hok hg hch
end
abbrev XK:=Value->Option Addr->Hp->Prop
abbrev St:=List (Option V)
variable{σ:St}
abbrev VK:=V->Hp->Prop
abbrev TE:=St->Hp->VK->Prop
variable{t te:TE}
abbrev TT:=St->Hp->(Bool->Hp->Prop)->Prop
abbrev TA:=St->Hp->(List V->Hp->Prop)->Prop
structure qM where
 nx:St->Hp->Prop
 rt:VK
 bk:St->Hp->Prop:=λ_ _=>False
 ct:St->Hp->Prop:=λ_ _=>False
variable{D:qM}
abbrev TS:=qM->St->Hp->Prop
variable{tb:TS}
def EP (X:Cx)(pins:List (Addr×Obj))(σ:St)(Q:VK)(u:Value)(s':Shared):Prop:=∃ v H',Inv X pins σ H' s'/\RelV v u/\Q v H'
def TP (X:Cx)(pins:List (Addr×Obj))(σ:St)(Q:Bool->Hp->Prop)(b:Bool)(s':Shared):Prop:=∃ H',Inv X pins σ H' s'/\Q b H'
def AP (X:Cx)(pins:List (Addr×Obj))(σ:St)(Q:List V->Hp->Prop)(us:List Value)(s':Shared):Prop:=∃ vs H',Inv X pins σ H' s'/\Vals vs us/\Q vs H'
def SP (X:Cx)(pins:List (Addr×Obj))(D:qM)(f:Flow)(s':Shared):Prop :=
 match f with
 | .next=>∃ σ' H',Inv X pins σ' H' s'/\D.nx σ' H'
 | .brk=>∃ σ' H',Inv X pins σ' H' s'/\D.bk σ' H'
 | .cont=>∃ σ' H',Inv X pins σ' H' s'/\D.ct σ' H'
 | .ret u=>∃ v σ' H',Inv X pins σ' H' s'/\RelV v u/\D.rt v H'
def PE (X:Cx)(e:Expr)(t:TE):Prop :=
 ∀(pins:List (Addr×Obj))(s:Shared)(σ:St)(H:Hp)(Q:VK),Inv X pins σ H s->t σ H Q->wpAny (model X.prog X.w) X.A (eval e X.env) (EP X pins σ Q) X.xe s
def PT (X:Cx)(e:Expr)(t:TT):Prop :=
 ∀(pins:List (Addr×Obj))(s:Shared)(σ:St)(H:Hp)(Q:Bool->Hp->Prop),Inv X pins σ H s->t σ H Q->wpAny (model X.prog X.w) X.A (isTrue e X.env (eval e X.env)) (TP X pins σ Q) X.xe s
def PW (X:Cx)(e:Expr)(t:TT):Prop :=
 ∀(whole:Sem Value)(pins:List (Addr×Obj))(s:Shared)(σ:St)(H:Hp)(Q:Bool->Hp->Prop),Inv X pins σ H s->t σ H Q->wpAny (model X.prog X.w) X.A (isTrue e X.env whole) (TP X pins σ Q) X.xe s
theorem PW.pt {t:TT}(h:PW X e t):PT X e t:=h _
def PA (X:Cx)(es:List Expr)(t:TA):Prop :=
 ∀(pos:Pos)(pins:List (Addr×Obj))(s:Shared)(σ:St)(H:Hp)(Q:List V->Hp->Prop),Inv X pins σ H s->t σ H Q->wpAny (model X.prog X.w) X.A (spliced (backTo pos (starEach es X.env))) (AP X pins σ Q) X.xe s
def PS (X:Cx)(st:Stmt)(t:TS):Prop :=
 ∀(pins:List (Addr×Obj))(s:Shared)(σ:St)(H:Hp)(D:qM),Inv X pins σ H s->t D σ H->wpAny (model X.prog X.w) X.A (exec st X.env) (SP X pins D) X.xe s
def PSs (X:Cx)(st:List Stmt)(t:TS):Prop :=
 ∀(pins:List (Addr×Obj))(s:Shared)(σ:St)(H:Hp)(D:qM),Inv X pins σ H s->t D σ H->wpAny (model X.prog X.w) X.A (execs st X.env) (SP X pins D) X.xe s
theorem j5 {t:Sem α}{Q Q':α->Shared->Prop}{M:Model}{s:Shared}(h:wpAny M A t Q E s)(hQ:∀ a s,Q a s->Q' a s):wpAny M A t Q' E s:=wpAny_mono h hQ λ_ _ x=>x
section
variable {X:Cx}
theorem bin {a b:Expr}{ta tb:TE}(ha:PE X a ta)(hb:PE X b tb){s:Shared}(I:Inv X pins σ H s)(h:ta σ H λx H1=>tb σ H1 λy H2=>R x y H2){Q:α->Shared->Prop}{f:Value->Value->Sem α}(hf:∀ v u s2 x y H2,Inv X pins σ H2 s2->RelV x v->RelV y u->R x y H2->wpAny (model X.prog X.w) X.A (f v u) Q X.xe s2):wpAny (model X.prog X.w) X.A (eval a X.env) (λv s₁=>wpAny (model X.prog X.w) X.A (eval b X.env) (λu s₂=>wpAny (model X.prog X.w) X.A (f v u) Q X.xe s₂) X.xe s₁) X.xe s:=by refine j5 (ha pins s σ H _ I h) λv s1 ⟨x,H1,I1,r1,q1⟩=>?_;refine j5 (hb pins s1 σ H1 _ I1 q1) λu s2 ⟨y,H2,I2,r2,q2⟩=>?_;exact hf v u s2 x y H2 I2 r1 r2 q2
def o4 (i:Nat):TE:=λσ H Q=>∃ v,σ[i]?=some (some v)/\Q v H
def tC (v:V):TE:=λ_ H Q=>Q v H
theorem MC {i:Nat}(hN:X.N[i]?=some x)(hv:Vis X.env.scope x)(hd:(x==("__debug__":Str))=false:=by decide)(hcd:(x==("__classdict__":Str))=false:=by decide):PE X (.Name x pos) (o4 i):=by
 intro pins s σ H Q I h;obtain ⟨v,e,h⟩:=h;obtain ⟨m,hn,hl⟩:=I.loc;obtain ⟨u,r,l⟩:=hl i x v hN e hv;have fin:EP X pins σ Q u s:=⟨v,H,I,r,h⟩;rcases l with ⟨hk,hm⟩|⟨hk,c,hc,hcell⟩
 ·exact wpAny_Name (wpAny_loadName_local I.ok.kind hk hn hm fin) hd
 ·rcases hk with hk|hk
  ·exact wpAny_Name (wpAny_loadName_cell I.ok.kind hk hc hcell fin) hd
  ·exact wpAny_Name (wpAny_loadName_free I.ok.kind hk hc hcell fin hcd) hd
theorem z7 {i j pos}:PE X (.Constant (.int i) j pos) (tC (.int i)):=λ_ _ _ H _ I h=>wpAny_Constant_int ⟨.int i,H,I.tok _,⟨_,rfl⟩,h⟩
theorem xZ {b j pos}:PE X (.Constant (.bool b) j pos) (tC (.bl b)):=λ_ _ _ H _ I h=>Constant_bool ⟨.bl b,H,I,rfl,h⟩
theorem XT {j pos}:PE X (.Constant .none j pos) (tC .non):=λ_ _ _ H _ I h=>Constant_none ⟨.non,H,I,rfl,h⟩
theorem xc {x j pos}:PE X (.Constant (.str x) j pos) (tC (.str x)):=λ_ _ _ H _ I h=>Calls.Constant_str ⟨.str x,H,I.tok _,⟨_,rfl⟩,h⟩
def Gl (X:Cx)(x:Str):Prop:=X.env.kindOf x=some .globalImplicit
theorem vc {s:Shared}(I:Inv X pins σ H s)(hg:Gl X x)(hm:X.mg x=some u)(h:Q u s)(hd:(x==("__debug__":Str))=false:=by decide):wpAny (model X.prog X.w) X.A (eval (.Name x pos) X.env) Q E s :=
 Calls.Name_function_global I.ok.kind hg (Calls.loadGlobal_global (by rw [I.ok.glob];exact I.mod.glob.keeps I.bk) hm h) hd
theorem jw {s:Shared}(I:Inv X pins σ H s)(hg:Gl X x)(hm:X.mg x=none)(hv:bootBuiltins x=some u)(h:Q u s)(hn:x ≠ "__name__":=by decide)(hd:(x==("__debug__":Str))=false:=by decide):wpAny (model X.prog X.w) X.A (eval (.Name x pos) X.env) Q E s:=by obtain ⟨mb,h1,h2⟩:=I.mod.blt;exact Calls.Name_function_global I.ok.kind hg (Calls.loadGlobal_builtin (by rw [I.ok.glob];exact I.mod.glob.keeps I.bk) hm (by rw [I.ok.blt];exact h1.keeps I.bk) ((h2 x hn).trans hv) h) hd
theorem vp (hg:Gl X x)(hm:X.mg x=some u)(r:RelV v u)(hd:(x==("__debug__":Str))=false:=by decide):PE X (.Name x pos) (tC v) :=
 λ_ _ _ H _ I h=>vc I hg hm ⟨v,H,I,r,h⟩ hd
theorem xP (hg:Gl X x)(hm:X.mg x=none)(hv:bootBuiltins x=some u)(r:RelV v u)(hn:x ≠ "__name__":=by decide)(hd:(x==("__debug__":Str))=false:=by decide):PE X (.Name x pos) (tC v) :=
 λ_ _ _ H _ I h=>jw I hg hm hv ⟨v,H,I,r,h⟩ hn hd
variable {a b:Expr}{ta tb:TE}{pos:Pos}
def PC (X:Cx)(op:CmpOp)(a b:Expr)(t:TE):Prop :=
 ∀(pins:List (Addr×Obj))(s:Shared)(σ:St)(H:Hp)(Q:VK),Inv X pins σ H s->t σ H Q ->
  wpAny (model X.prog X.w) X.A (eval a X.env) (λv s₁=>wpAny (model X.prog X.w) X.A (eval b X.env) (λu s₂=>wpAny (model X.prog X.w) X.A (compareOp op v u) (EP X pins σ Q) X.xe s₂) X.xe s₁) X.xe s
def tB (t:TE):TT:=λσ H Q=>t σ H λx H1=>∃ c,x = .bl c/\Q c H1
theorem Gr (h:PC X op a b t)(h1:behindInMarks op b=false:=by first|exact nobehind _ (by decide) (by decide)|rfl):PT X (.Compare a [op] [b] pos) (tB t):=by intro pins s σ H Q I hw;refine wpAny_isTrue_Compare1 (j5 (h pins s σ H _ I hw) λv s1 h1=>j5 h1 λu s2 h2=>j5 h2 λc s3 ⟨x,H1,I1,r1,q1⟩=>?_) h1;obtain ⟨d,rfl,q⟩:=q1;cases r1;exact wpAny_truthy_bool ⟨H1,I1,q⟩
variable {tA tB':TT}{rest:List Expr}
def tAnd (t u:TT):TT:=λσ H Q=>t σ H λc H1=>if c=true then u σ H1 Q else Q false H1
def tOr (t u:TT):TT:=λσ H Q=>t σ H λc H1=>if c=true then Q true H1 else u σ H1 Q
def tNot (t:TT):TT:=λσ H Q=>t σ H λc H1=>Q (!c) H1
theorem Jt (ha:PT X a tA):PW X (.BoolOp .And [a] pos) tA:=by
 intro wh pins s σ H Q I h;refine isTrue_and (j5 (ha pins s σ H Q I h) λc s1 e=>?_);cases c with
 |true=>exact isTrue_and_nil e
 |false=>exact e
theorem vy (ha:PT X a tA):PW X (.BoolOp .Or [a] pos) tA:=by
 intro wh pins s σ H Q I h;refine isTrue_or (j5 (ha pins s σ H Q I h) λc s1 e=>?_);cases c with
 |false=>exact isTrue_or_nil e
 |true=>exact e
theorem Za (ha:PT X a tA)(hb:PW X (.BoolOp .And (b::rest) pos) tB'):PW X (.BoolOp .And (a::b::rest) pos) (tAnd tA tB'):=by
 intro wh pins s σ H Q I h;refine isTrue_and (j5 (ha pins s σ H _ I h) λc s1 ⟨H1,I1,q1⟩=>?_);cases c with
 |true=>exact hb wh pins s1 σ H1 Q I1 q1
 |false=>exact ⟨H1,I1,q1⟩
theorem je (ha:PT X a tA)(hb:PW X (.BoolOp .Or (b::rest) pos) tB'):PW X (.BoolOp .Or (a::b::rest) pos) (tOr tA tB'):=by
 intro wh pins s σ H Q I h;refine isTrue_or (j5 (ha pins s σ H _ I h) λc s1 ⟨H1,I1,q1⟩=>?_);cases c with
 |true=>exact ⟨H1,I1,q1⟩
 |false=>exact hb wh pins s1 σ H1 Q I1 q1
theorem qG (ha:PT X a tA):PT X (.UnaryOp .Not a pos) (tNot tA):=by intro pins s σ H Q I h;exact isTrue_not (ha pins s σ H (λc H1=>Q (!c) H1) I h)
def Ki (ta tb:TE):TE:=λσ H Q=>ta σ H λx H1=>∃ c,x = .bl c/\if c=true then tb σ H1 Q else Q (.bl false) H1
def tOrV (ta tb:TE):TE:=λσ H Q=>ta σ H λx H1=>∃ c,x = .bl c/\if c=true then Q (.bl true) H1 else tb σ H1 Q
def Kn (ta:TE):TE:=λσ H Q=>ta σ H λx H1=>∃ c,x = .bl c/\Q (.bl (!c)) H1
theorem zJ {op}(h:PE X a t):PE X (.BoolOp op [a] pos) t:=λpins s σ H Q I hw=>BoolOp_one (h pins s σ H Q I hw)
theorem zH (ha:PE X a ta)(hb:PE X (.BoolOp .And (b::rest) pos) tb):PE X (.BoolOp .And (a::b::rest) pos) (Ki ta tb):=by
 intro pins s σ H Q I h;refine BoolOp_and (j5 (ha pins s σ H _ I h) λv s1 ⟨x,H1,I1,r1,q1⟩=>?_);obtain ⟨c,rfl,q1⟩:=q1;cases r1;refine wpAny_truthy_bool ?_;cases c with
 |true=>exact hb pins s1 σ H1 Q I1 q1
 |false=>exact ⟨.bl false,H1,I1,rfl,q1⟩
theorem pe_or (ha:PE X a ta)(hb:PE X (.BoolOp .Or (b::rest) pos) tb):PE X (.BoolOp .Or (a::b::rest) pos) (tOrV ta tb):=by
 intro pins s σ H Q I h;refine BoolOp_or (j5 (ha pins s σ H _ I h) λv s1 ⟨x,H1,I1,r1,q1⟩=>?_);obtain ⟨c,rfl,q1⟩:=q1;cases r1;refine wpAny_truthy_bool ?_;cases c with
 |false=>exact hb pins s1 σ H1 Q I1 q1
 |true=>exact ⟨.bl true,H1,I1,rfl,q1⟩
theorem Gg (ha:PE X a ta):PE X (.UnaryOp .Not a pos) (Kn ta):=by intro pins s σ H Q I h;refine UnaryOp_ (j5 (ha pins s σ H _ I h) λv s1 ⟨x,H1,I1,r1,q1⟩=>?_);obtain ⟨c,rfl,q1⟩:=q1;cases r1;exact not_of (wpAny_truthy_bool ⟨.bl (!c),H1,I1,rfl,q1⟩)
def tIf (t:TT)(ta tb:TE):TE:=λσ H Q=>t σ H λc H1=>if c=true then ta σ H1 Q else tb σ H1 Q
theorem Ge (hc:PT X c tA)(ha:PE X a ta)(hb:PE X b tb):PE X (.IfExp c a b pos) (tIf tA ta tb):=by
 intro pins s σ H Q I h;refine wpAny_IfExp (j5 (hc pins s σ H _ I h) λd s1 ⟨H1,I1,q1⟩=>?_);cases d with
 |true=>exact ha pins s1 σ H1 Q I1 q1
 |false=>exact hb pins s1 σ H1 Q I1 q1
end
def SqL (K:Fg)(H:Hp)(a:Addr)(xs:List V):Prop :=
 Rd H a (.lst xs) ∨
  ∃ (o:Obj) (its:Array Value) (n:Nat),K.lookup a=some o/\o.cls = .type "list"/\o.dict=none/\o.data = .seq its n/\its.size<=sizeLine/\Vals xs its.toList
def SqT (K:Fg)(H:Hp)(a:Addr)(xs:List V):Prop :=
 Rd H a (.tup xs) ∨
  ∃ (o:Obj) (its:Array Value) (n:Nat),K.lookup a=some o/\o.cls = .type "tuple"/\o.data = .seq its n/\its.size<=sizeLine/\Vals xs its.toList
def absV:Value->Option V
 | .none=>some .non
 | .bool b=>some (.bl b)
 | .int i _=>some (.int i)
 | .str x _=>some (.str x)
 | .bytes b _=>some (.byt b)
 | .float b _=>some (.flt b)
 | .ref a=>some (.ref a)
 | .type n=>some (.ty n)
 |_=>none
theorem RelV.abs {x:V}(r:RelV x u):absV u=some x:=by
 cases x with
 |non=>cases r;rfl
 |bl _=>cases r;rfl
 |int _=>obtain ⟨t,rfl⟩:=r;rfl
 |str _=>obtain ⟨t,rfl⟩:=r;rfl
 |byt _=>obtain ⟨t,rfl⟩:=r;rfl
 |flt _=>obtain ⟨t,rfl⟩:=r;rfl
 |ref _=>cases r;rfl
 |ty _=>cases r;rfl
theorem RelV.inj {x:V}(r:RelV x u)(q:RelV y u):x=y:=Option.some.inj (r.abs.symm.trans q.abs)
theorem Vals.inj:∀{xs ys:List V}{us:List Value},Vals xs us->Vals ys us->xs=ys
 |_,_,_,.nil,.nil=>rfl
 |_,_,_,.cons r t,.cons r' t'=>by rw [r.inj r',Vals.inj t t']
section
variable {X:Cx}{pins:List (Addr×Obj)}{σ:St}{H:Hp}{s:Shared}{a:Addr}{xs ys:List V}
theorem SqL.of (h:H a=some (.lst xs)):SqL K H a xs:= .inl (.inl h)
theorem SqT.of (h:H a=some (.tup xs)):SqT K H a xs:= .inl (.inl h)
theorem Inv.list (I:Inv X pins σ H s)(h:SqL X.K H a xs):∃ its:List Value,Vals xs its/\PlainL s.heap a its.toArray/\xs.length<=sizeLine:=by
 rcases h with h|⟨o,its,n,hk,hc,hd,hs,hz,r⟩
 ·obtain ⟨z,its,n,r,e⟩:=h.ok I.hok;exact ⟨its,r,⟨_,n,e,rfl,rfl,rfl⟩,z⟩
 ·refine ⟨its.toList,r,⟨o,n,I.kIn a o hk,hc,hd,by simpa using hs⟩,?_⟩;have e:=r.length;simp only [Array.length_toList] at e;omega
theorem Inv.tuple (I:Inv X pins σ H s)(h:SqT X.K H a xs):∃ its:List Value,Vals xs its/\IsTup s.heap a its.toArray/\xs.length<=sizeLine:=by
 rcases h with h|⟨o,its,n,hk,hc,hs,hz,r⟩
 ·obtain ⟨z,its,r,p⟩:=h.ok I.hok;exact ⟨its,r,p,z⟩
 ·refine ⟨its.toList,r,⟨o,I.kIn a o hk,hc,n,by simpa using hs⟩,?_⟩;have e:=r.length;simp only [Array.length_toList] at e;omega
theorem Inv.list_inj (I:Inv X pins σ H s)(h:SqL X.K H a xs)(h':SqL X.K H a ys):xs=ys:=by
 obtain ⟨its,r,⟨o,n,e,_,_,d⟩,_⟩:=I.list h;obtain ⟨its',r',⟨o',n',e',_,_,d'⟩,_⟩:=I.list h';rw [e] at e';cases e';rw [d] at d';injection d' with d1 _;have:its=its':=by simpa using congrArg Array.toList d1
 subst this;exact r.inj r'
theorem Inv.tuple_inj (I:Inv X pins σ H s)(h:SqT X.K H a xs)(h':SqT X.K H a ys):xs=ys:=by
 obtain ⟨its,r,⟨o,e,_,n,d⟩,_⟩:=I.tuple h;obtain ⟨its',r',⟨o',e',_,n',d'⟩,_⟩:=I.tuple h';rw [e] at e';cases e';rw [d] at d';injection d' with d1 _;have:its=its':=by simpa using congrArg Array.toList d1
 subst this;exact r.inj r'
end
abbrev Cx.wish (X:Cx)(E:Value->Shared->Prop):Cx:={ X with xe:=E }
abbrev Cx.nox (X:Cx):Cx:=X.wish λ_ _=>False
theorem Cx.Ok.wish (ok:X.Ok)(E:Value->Shared->Prop):(X.wish E).Ok :=
 ⟨ok.mod,ok.kind,ok.glob,ok.blt,ok.above,ok.inj,ok.has,ok.cab,ok.hd,ok.frames,ok.stk,ok.exf,ok.bs,ok.bsz,ok.noex,ok.exfs,ok.funs,ok.frf,ok.tbs⟩
theorem Cx.Ok.unwish (ok:(X.wish E).Ok):X.Ok :=
 ⟨ok.mod,ok.kind,ok.glob,ok.blt,ok.above,ok.inj,ok.has,ok.cab,ok.hd,ok.frames,ok.stk,ok.exf,ok.bs,ok.bsz,ok.noex,ok.exfs,ok.funs,ok.frf,ok.tbs⟩
section
variable {X:Cx}{pins:List (Addr×Obj)}{σ:St}{H:Hp}{s:Shared}{E:Value->Shared->Prop}
theorem Inv.wish (I:Inv X pins σ H s)(E:Value->Shared->Prop):Inv (X.wish E) pins σ H s:=⟨I.ok.wish E,I.os,I.bare,I.base,I.loc,I.cell,I.free,I.freeC,I.pin,I.hok,I.len⟩
theorem Inv.unwish (I:Inv (X.wish E) pins σ H s):Inv X pins σ H s:=⟨I.ok.unwish,I.os,I.bare,I.base,I.loc,I.cell,I.free,I.freeC,I.pin,I.hok,I.len⟩
theorem SP.unwish {f:Flow}(h:SP (X.wish E) pins D f s'):SP X pins D f s':=by
 cases f with
 |next=>obtain ⟨σ',H',I,q⟩:=h;exact ⟨σ',H',I.unwish,q⟩
 |brk=>obtain ⟨σ',H',I,q⟩:=h;exact ⟨σ',H',I.unwish,q⟩
 |cont=>obtain ⟨σ',H',I,q⟩:=h;exact ⟨σ',H',I.unwish,q⟩
 |ret u=>obtain ⟨v,σ',H',I,r,q⟩:=h;exact ⟨v,σ',H',I.unwish,r,q⟩
theorem PSs.nox {st:List Stmt}{t:TS}(h:PSs X.nox st t):PSs X st t:=λpins s σ H D I hw =>
 wpAny_mono (h pins s σ H D (I.wish _) hw) (λ_ _ q=>q.unwish) λ_ _ z=>False.elim z
end
section
variable {X:Cx}{st:Stmt}{rest:List Stmt}{t u:TS}{e:Expr}{te:TE}{pos:Pos}
def VH:TS:=λD σ H=>D.nx σ H
def tSeq (t u:TS):TS:=λD σ H=>t { D with nx:=u D } σ H
theorem m9:PSs X [] VH:=λ_ _ σ H _ I h=>wpAny_execs_nil ⟨σ,H,I,h⟩
theorem j7 (h1:PS X st t)(h2:PSs X rest u):PSs X (st::rest) (tSeq t u):=by
 intro pins s σ H D I h;refine wpAny_execs_cons (j5 (h1 pins s σ H { D with nx:=u D } I h) λf s1 q=>?_);cases f with
 |next=>obtain ⟨σ',H',I',q⟩:=q;exact h2 pins s1 σ' H' D I' q
 |ret v=>exact q
 |brk=>exact q
 |cont=>exact q
theorem j6 (h1:PS X st t):PSs X [st] t:=by
 intro pins s σ H D I h;refine wpAny_execs_cons (j5 (h1 pins s σ H D I h) λf s1 q=>?_);cases f with
 |next=>exact wpAny_execs_nil q
 |ret v=>exact q
 |brk=>exact q
 |cont=>exact q
theorem Inv.quiet {s:Shared}(I:Inv X pins σ H s):interactive X.env=false:=by simp [interactive,I.ok.kind]
def zO (te:TE):TS:=λD σ H=>te σ H λ_ H1=>D.nx σ H1
theorem zb (he:PE X e te)(hs:swapsWith e none pos.line X.env=pure false:=by rfl):PS X (.Expr e pos) (zO te):=by intro pins s σ H D I h;exact wpAny_Expr_any (j5 (he pins s σ H _ I h) λv s1 ⟨x,H1,I1,r1,q1⟩=>⟨σ,H1,I1,q1⟩) I.quiet hs
def tRet (te:TE):TS:=λD σ H=>te σ H D.rt
theorem u4 (he:PE X e te):PS X (.Return (some e) pos) (tRet te):=by intro pins s σ H D I h;exact wpAny_Return_some (j5 (he pins s σ H _ I h) λv s1 ⟨x,H1,I1,r1,q1⟩=>⟨x,σ,H1,I1,r1,q1⟩)
def tIfS (c:TT)(t u:TS):TS:=λD σ H=>c σ H λb H1=>if b=true then t D σ H1 else u D σ H1
theorem c8 {a b:List Stmt}{tc:TT}(hc:PT X c tc)(ha:PSs X a t)(hb:PSs X b u):PS X (.If c a b pos) (tIfS tc t u):=by
 intro pins s σ H D I h;refine wpAny_If (j5 (hc pins s σ H _ I h) λd s1 ⟨H1,I1,q1⟩=>?_);cases d with
 |true=>exact ha pins s1 σ H1 D I1 q1
 |false=>exact hb pins s1 σ H1 D I1 q1
def Km:TS:=λ_ _ _=>False
theorem zt:PS X st Km:=λ_ _ _ _ _ _ h=>h.elim
end
abbrev TG:=V->St->Hp->(St->Hp->Prop)->Prop
variable{g:TG}
abbrev TGs:=List V->St->Hp->(St->Hp->Prop)->Prop
def PG (X:Cx)(target:Expr)(t:TG):Prop :=
 ∀(pins:List (Addr×Obj))(s:Shared)(σ:St)(H:Hp)(v:V)(u:Value)(Q:St->Hp->Prop),Inv X pins σ H s->RelV v u->t v σ H Q ->
  wpAny (model X.prog X.w) X.A (assign target X.env u) (λ_ s'=>∃ σ' H',Inv X pins σ' H' s'/\Q σ' H') X.xe s
def PGs (X:Cx)(ts:List Expr)(t:TGs):Prop :=
 ∀(pins:List (Addr×Obj))(s:Shared)(σ:St)(H:Hp)(vs:List V)(us:List Value)(Q:St->Hp->Prop),Inv X pins σ H s->Vals vs us->t vs σ H Q ->
  wpAny (model X.prog X.w) X.A (assignInOrder ((assignEach ts X.env).map (·.2)) us) (λ_ s'=>∃ σ' H',Inv X pins σ' H' s'/\Q σ' H') X.xe s
abbrev TSet:=V->V->V->Hp->(Hp->Prop)->Prop
def PSet (X:Cx)(t:TSet):Prop :=
 ∀(pins:List (Addr×Obj))(s:Shared)(σ:St)(H:Hp)(o i v:V)(ov iv u:Value)(Q:Hp->Prop),Inv X pins σ H s->RelV o ov->RelV i iv->RelV v u->t o i v H Q ->
  wpAny (model X.prog X.w) X.A (setItem ov iv u) (λ_ s'=>∃ H',Inv X pins σ H' s'/\Q H') X.xe s
section
variable {X:Cx}{pos:Pos}
def qQ (i:Nat):TG:=λv σ H Q=>Q (σ.set i (some v)) H
theorem p8 {i:Nat}(hN:X.N.Nodup)(hi:X.N[i]?=some x)(hx:Loc X.env.scope x)(hf:X.fn x=true∨X.env.scope.names.lookup x=some .local:=by first|exact .inl rfl|exact .inr rfl|assumption):PG X (.Name x pos) (qQ i):=by intro pins s σ H v u Q I r h;exact wpAny_assign_Name (VE I hN hi hx r (λs' I'=>⟨_,H,I',h⟩) hf)
def gNil:TGs:=λvs σ H Q=>vs=[]/\Q σ H
def Xn (t:TG)(u:TGs):TGs:=λvs σ H Q=>∃ v r,vs=v::r/\t v σ H λσ' H'=>u r σ' H' Q
theorem vt:PGs X [] gNil:=by intro pins s σ H vs us Q I r h;obtain ⟨e,h⟩:=h;subst e;cases r;exact assignInOrder_nil ⟨σ,H,I,h⟩
theorem xD {t:TG}{u:TGs}(h1:PG X e t)(h2:PGs X es u)(hs:(assignEach (e::es) X.env).map (·.2)=assign e X.env::(assignEach es X.env).map (·.2):=by rfl):PGs X (e::es) (Xn t u):=by
 intro pins s σ H vs us Q I r h;obtain ⟨v,vr,e1,h⟩:=h;subst e1;cases r with
 |cons r rr=>rw [hs];refine assignInOrder_cons (j5 (h1 pins s σ H _ _ _ I r h) λ_ s1 ⟨σ1,H1,I1,q1⟩=>?_);exact h2 pins s1 σ1 H1 _ _ Q I1 rr q1
def gTup (K:Fg)(n:Nat)(t:TGs):TG:=λv σ H Q=>∃ a xs,v = .ref a/\SqT K H a xs/\xs.length=n/\t xs σ H Q
theorem MJ {k:Nat}{t:TGs}(hc:X.calm=true)(h:PGs X es t)(hn:(assignEach es X.env).length=n:=by rfl)(hst:(assignEach es X.env).findIdx? (·.1)=none:=by rfl):PG X (.Tuple es k pos) (gTup X.K n t):=by intro pins s σ H v u Q I r hw;obtain ⟨a,xs,e1,hq,hl,hw⟩:=hw;subst e1;cases r;obtain ⟨its,rv,ht,hz⟩:=I.tuple hq;refine assign_Tuple_tuple (I.ok.hd hc) ht (by simp [hn,<- hl,rv.length]) hst λh' hx=>?_;have I1:Inv X pins σ H { s with heap:=h' }:=I.kept (t':=s.toks) λb o e=>hx b o (yG (yT e)) e;exact h pins _ σ H xs _ Q I1 (by simpa using rv) hw
def gSub (to ti:TE)(t:TSet):TG:=λv σ H Q=>to σ H λo H1=>ti σ H1 λi H2=>t o i v H2 λH3=>Q σ H3
theorem MI {o i:Expr}{to ti:TE}{t:TSet}(ho:PE X o to)(hi:PE X i ti)(hs:PSet X t)
  (ha:∀ v,assign (.Subscript o i pos) X.env v=(do
   let ov <- holding [v] (eval o X.env)
   let iv <- holding [v,ov] (eval i X.env)
   standAt pos
   holding [v,ov,iv] (setItem ov iv v)
   release [v,ov,iv] []):=by intro _;rfl):PG X (.Subscript o i pos) (gSub to ti t):=by
 intro pins s σ H v u Q I r h;rw [ha];refine yY (wpAny_holding (j5 (ho pins s σ H _ I h) λov s1 ⟨x,H1,I1,r1,q1⟩=>?_));refine yY (wpAny_holding (j5 (hi pins s1 σ H1 _ I1 q1) λiv s2 ⟨y,H2,I2,r2,q2⟩=>?_));refine yY (wpAny_standAt (yY (wpAny_holding (j5 (hs pins s2 σ H2 x y v ov iv u _ I2 r1 r2 r q2) λ_ s3 ⟨H3,I3,q3⟩=>?_))));exact wpAny_release ⟨σ,H3,I3,q3⟩
def zx (te:TE)(g:TG):TS:=λD σ H=>te σ H λx H1=>g x σ H1 D.nx
theorem Gq (he:PE X e te)(hg:PG X tg g)(hs:swapsWithSole [tg] e pos.line X.env=pure false:=by rfl)(hw:swappedStores [tg] e X.env=pure none:=by rfl)(h1:(assignEach [tg] X.env).map (·.2)=[assign tg X.env]:=by rfl):PS X (.Assign [tg] e pos) (zx te g):=by intro pins s σ H D I h;refine wpAny_Assign_stores (j5 (he pins s σ H _ I h) λv s1 ⟨x,H1,I1,r1,q1⟩=>?_) hs hw;rw [h1];exact j5 (hg pins s1 σ H1 x v _ I1 r1 q1) λ_ s2 q=>q
theorem qv {i:Nat}{x:Str}{e:Expr}{te:TE}{pos':Pos}(hN:X.N.Nodup)(hi:X.N[i]?=some x)(hx:Loc X.env.scope x)(he:PE X e te)(hs:swapsWith e (some (.Name x pos')) pos.line X.env=pure false:=by rfl)(hf:X.fn x=true∨X.env.scope.names.lookup x=some .local:=by first|exact .inl rfl|exact .inr rfl|assumption):PS X (.Assign [.Name x pos'] e pos) (zx te (qQ i)):=by intro pins s σ H D I h;refine wpAny_Assign_Name (j5 (he pins s σ H _ I h) λv s1 ⟨y,H1,I1,r1,q1⟩=>?_) hs;exact VE I1 hN hi hx r1 (λs2 I2=>⟨_,H1,I2,q1⟩) hf
end
structure It where
 go:Nat->Hp->Prop
 yld:Nat->Hp->V->Hp->Prop
 stop:Nat->Hp->Prop
def xg (X:Cx)(pins:List (Addr×Obj))(H:Hp)(b:Addr):Prop :=
 H b=none/\b≠X.env.locals/\b∉X.fs/\(b∈X.ex∨X.s₀.heap.objs.size<=b)/\(∀ x c,X.env.cells.lookup x=some c->c≠b)/\∀ p∈X.pn++pins,p.1≠b
theorem Inv.fpOk {H':Hp}{s:Shared}(I:Inv X pins σ H s)(hb:s.heap.objs.size<=b)(hn:H' b=none):xg X pins H' b:=by
 refine ⟨hn,Nat.ne_of_gt (yB I.lt hb),I.nofs hb,.inr (yc I.sz hb),λx c e z=>?_,λp hp z=>?_⟩
 ·obtain ⟨v,q⟩:=I.cell x c e;exact absurd (yB q.lt (by rw [z];exact hb)) (uY _)
 ·exact absurd (yB (yT (I.pin p hp).1) (by rw [z];exact hb)) (uY _)
structure jn (P:Program)(w:World)(K:Fg)(tg:Expr)(J:It)(fp:List Addr)(it:Addr)(tn:Nat->Heap->Prop):Prop where
 mem:it∈fp
 obj:∀ i h,tn i h->∀ b∈fp,∃ o,h.get? b=some o/\∀ v,o.data ≠ .cell v
 keep:∀ i h h',tn i h->(∀ b∈fp,∀ o,h.get? b=some o->h'.get? b=some o)->tn i h'
 item:∀(X:Cx),X.prog=P->X.w=w->X.K=K->X.calm=true->∀(i:Nat)(pins:List (Addr×Obj))(s:Shared)(σ:St)(H:Hp)(E:Value->Shared->Prop),Inv X pins σ H s->(∀ b∈fp,xg X pins H b)->tn i s.heap->J.go i H ->
  wpAny (model P w) X.A (pyNext (.ref it)) (λr s1=>∃ u,r=some u /\
   wpAny (model P w) X.A (letOwnedTupleGo tg (.ref it) u) (λ_ s2=>∃ x H',Inv X pins σ H' s2/\RelV x u/\J.yld i H x H'/\tn (i+1) s2.heap/\∀ b∈fp,H' b=none) E s1) E s
 done:∀(X:Cx),X.prog=P->X.w=w->X.K=K->X.calm=true->∀(i:Nat)(pins:List (Addr×Obj))(s:Shared)(σ:St)(H:Hp)(E:Value->Shared->Prop),Inv X pins σ H s->(∀ b∈fp,xg X pins H b)->tn i s.heap->J.stop i H ->
  wpAny (model P w) X.A (pyNext (.ref it)) (λr s1=>r=none/\Inv X pins σ H s1) E s
 self:∀(A:Around)(i:Nat)(s:Shared)(Q:Value->Shared->Prop)(E:Value->Shared->Prop),tn i s.heap->Q (.ref it) s->wpAny (model P w) A (pyIter (.ref it)) Q E s
abbrev TI:=St->Hp->(It->Hp->Prop)->Prop
def PIE (X:Cx)(pins:List (Addr×Obj))(σ:St)(tg:Expr)(R:It->Hp->Prop)(itv:Value)(s2:Shared):Prop :=
 ∃(it:Addr)(fp:List Addr)(tn:Nat->Heap->Prop)(J:It)(H':Hp),itv = .ref it/\Inv X pins σ H' s2/\jn X.prog X.w X.K tg J fp it tn/\tn 0 s2.heap/\(∀ b∈fp,xg X pins H' b)/\R J H'
def PI (X:Cx)(tg iter:Expr)(wi:TI):Prop :=
 ∀(pins:List (Addr×Obj))(s:Shared)(σ:St)(H:Hp)(R:It->Hp->Prop),Inv X pins σ H s->wi σ H R ->
  wpAny (model X.prog X.w) X.A (eval iter X.env) (λv s1=>wpAny (model X.prog X.w) X.A (pyIter v) (PIE X pins σ tg R) X.xe s1) X.xe s
theorem ZM {M:Model}{s:Shared}{o:Obj}{n:String}{vs:Array Value}{Q:Unit->Shared->Prop}(ho:s.heap.get? it=some o)(hc:o.cls = .type n)(hd:o.data = .fields vs)(hn:["enumerate","zip","dict_itemiterator","dict_reverseitemiterator","odict_iterator","itertools.zip_longest","itertools.pairwise"].contains n=false)(hQ:Q () s):wpAny M A (letOwnedTupleGo tg (.ref it) u) Q E s:=by
  unfold letOwnedTupleGo;cases tg<;>first
    |exact yI hQ
    | (cases u <;> first
        |exact yI hQ
        | (refine yY (wpAny_load ho ?_)
           rw [hc,hd];show wpAny M A (if (["enumerate","zip","dict_itemiterator","dict_reverseitemiterator","odict_iterator","itertools.zip_longest","itertools.pairwise"].contains n&&vs[0]?==some (rawInt _))=true then _ else _) Q E s;rw [if_neg (by intro h;rw [hn,Bool.false_and] at h;cases h)];exact yI hQ))
def Itl (K:Fg)(a:Addr):It :=
 ⟨λi H=>∃ xs x,SqL K H a xs/\xs[i]?=some x,λi H x H'=>H'=H/\∀ xs,SqL K H a xs->xs[i]?=some x,λi H=>∃ xs,SqL K H a xs/\xs.length<=i⟩
def Itr (lo:Int)(n:Nat):It:=⟨λi _=>i<n,λi H x H'=>H'=H/\x = .int (lo+i),λi _=>n<=i⟩
theorem NE (a it:Addr):jn P w K tg (Itl K a) [it] it (λi h=>h.IsListIter it a i) where
 mem:=by simp
 obj:=λi h st b hb=>by
  have e:b=it:=by simpa using hb
  subst e;obtain ⟨o,e,c,d⟩:=st;exact ⟨o,e,λv z=>by rw [d] at z;cases z⟩
 keep:=λi h h' st k=>st.at λo e=>k it (by simp) o e
 item:=by intro X hP hw hK hc i pins s σ H E I hf st hg;subst hP hw hK;obtain ⟨xs,x,hq,hx⟩:=hg;obtain ⟨its,rv,p,hz⟩:=I.list hq;obtain ⟨u,hu,ru⟩:=rv.get hx;obtain ⟨f0,f1,f2,f3,f4,f5⟩:=hf it (by simp);refine wpAny_pyNext_list_item st p.isList (x:=u) (by simpa using hu) λh' st' sb=>?_;have I1:Inv X pins σ H { s with heap:=h' }:=I.turned (t':=s.toks) (λb o hb e=>(sb.2 b hb).trans e) f0 f1 f3 f4 f5;obtain ⟨o,e,c,d⟩:=id st';exact ⟨u,rfl,ZM (s:={ s with heap:=h' }) e c d (by decide) ⟨x,H,I1,ru,⟨rfl,λys hy=>by rw [I.list_inj hy hq];exact hx⟩,st',λb hb=>(hf b hb).1⟩⟩
 done:=by intro X hP hw hK hc i pins s σ H E I hf st hg;subst hP hw hK;obtain ⟨xs,hq,hx⟩:=hg;obtain ⟨its,rv,p,hz⟩:=I.list hq;obtain ⟨f0,f1,f2,f3,f4,f5⟩:=hf it (by simp);have hl:=rv.length;exact wpAny_pyNext_list_end (I.ok.hd hc) st p.isList (by simp;omega) λh' eb=>⟨rfl,I.turned (t':=s.toks) (λb o hb e=>eb b o hb e) f0 f1 f3 f4 f5⟩
 self:=λ_ _ _ _ _ st h=>wpAny_pyIter_listiter st h
theorem NF (it:Addr)(lo:Int)(n:Nat):jn P w K tg (Itr lo n) [it] it (λi h=>IsRangeIter h it (lo+(i:Nat)*1) ((n:Int)-(i:Nat)) 1) where
 mem:=by simp
 obj:=λi h st b hb=>by
  have e:b=it:=by simpa using hb
  subst e;exact ⟨_,st,λv z=>by
   have z':Data.fields _=Data.cell v:=z;cases z'⟩
 keep:=λi h h' st k=>k it (by simp) _ st
 item:=by intro X hP hw hK hc i pins s σ H E I hf st hg;subst hP hw hK;obtain ⟨f0,f1,f2,f3,f4,f5⟩:=hf it (by simp);have W:=Walks.range (prog:=X.prog) (w:=X.w) (I.ok.hd hc) it lo 1 n;refine W.item i s _ _ hg st λv h' tk hv st' kk=>?_;obtain ⟨t,rfl⟩:=hv;have I1:Inv X pins σ H { s with heap:=h',toks:=tk }:=I.turned (λb o hb e=>kk b o (by simpa using hb) e) f0 f1 f3 f4 f5;refine ⟨_,rfl,ZM (s:={ s with heap:=h',toks:=tk }) (n:="range_iterator") st' rfl rfl (by decide) ⟨.int (lo+i),H,I1,⟨t,?_⟩,⟨rfl,rfl⟩,st',λb hb=>(hf b hb).1⟩⟩;rw [Int.mul_one]
 done:=by intro X hP hw hK hc i pins s σ H E I hf st hg;subst hP hw hK;obtain ⟨f0,f1,f2,f3,f4,f5⟩:=hf it (by simp);exact wpAny_pyNext_range_end (I.ok.hd hc) st (by have:n<=i:=hg;omega) λh' eb=>⟨rfl,I.turned (t':=s.toks) (λb o hb e=>eb b o hb e) f0 f1 f3 f4 f5⟩
 self:=λ_ _ _ _ _ st h=>wpAny_pyIter_rangeiter st h
section
variable {X:Cx}{tg:Expr}
def Xo (K:Fg)(tl:TE):TI:=λσ H R=>tl σ H λx H1=>∃ a,x = .ref a/\(∃ xs,SqL K H1 a xs)/\R (Itl K a) H1
theorem ML {l:Expr}{tl:TE}(hl:PE X l tl):PI X tg l (Xo X.K tl):=by
 intro pins s σ H R I h;refine j5 (hl pins s σ H _ I h) λv s1 ⟨x,H1,I1,r1,q1⟩=>?_;obtain ⟨a,e,⟨xs,hq⟩,q⟩:=q1;subst e;cases r1;obtain ⟨its,rv,p,hz⟩:=I1.list hq;refine wpAny_pyIter_list p.isList ?_;refine ⟨s1.heap.objs.size,[s1.heap.objs.size],_,_,H1,rfl,I1.kept (t':=s1.toks) λb o e=>yW _ e,NE a _,⟨_,yy _ rfl,rfl,rfl⟩,λb hb=>?_,q⟩;have e:b=s1.heap.objs.size:=by simpa using hb
 subst e;exact I1.fpOk (yS _) (I1.hok.fresh (yS _))
theorem Lh {s:Shared}{R:It->Hp->Prop}{hi:Int}{t u v:Tok}{tk:Nat}(I:Inv X pins σ H s)(h1:-(2 ^ 62)<=lo)(h2:lo<2 ^ 62)(h3:-(2 ^ 62)<=hi)(h4:hi<2 ^ 62)(q:R (Itr lo (hi-lo).toNat) H):wpAny (model X.prog X.w) X.A (pyIter (.ref s.heap.objs.size)) (PIE X pins σ tg R) E { s with heap:=s.heap.push { cls:= .type "range",data:= .fields #[.int lo t,.int hi u,.int 1 v] },toks:=tk }:=by
 refine wpAny_pyIter_range (IsRange.new ..) (small_one h1 h2 h3 h4) ?_;have I1:Inv X pins σ H { s with heap:=s.heap.push { cls:= .type "range",data:= .fields #[.int lo t,.int hi u,.int 1 v] },toks:=tk }:=I.kept λb o e=>yW _ e;refine ⟨(s.heap.push { cls:= .type "range",data:= .fields #[.int lo t,.int hi u,.int 1 v] }).objs.size,[(s.heap.push { cls:= .type "range",data:= .fields #[.int lo t,.int hi u,.int 1 v] }).objs.size],_,_,H,rfl,
  I1.kept (t':=tk) λb o e=>yW _ e,NF _ lo (hi-lo).toNat,?_,λb hb=>?_,q⟩
 ·have e1:lo+((0:Nat):Int)*1=lo:=by simp
  have e2:(((hi-lo).toNat:Nat):Int)-((0:Nat):Int)=Builtin.Range.rangeSize lo hi 1:=by rw [rangeSize_one];split<;>omega
  show IsRangeIter _ _ (lo+((0:Nat):Int)*1) ((((hi-lo).toNat:Nat):Int)-((0:Nat):Int)) 1;rw [e1,e2];exact yy _ rfl
 ·have e:b=(s.heap.push { cls:= .type "range",data:= .fields #[.int lo t,.int hi u,.int 1 v] }).objs.size:=by simpa using hb
  subst e;exact I1.fpOk (yS _) (I1.hok.fresh (yS _))
def Qc (ta:TA):TI:=λσ H R=>ta σ H λvs H1=>∃ j:Int,vs=[.int j]/\-(2 ^ 62)<=j/\j<2 ^ 62/\R (Itr 0 j.toNat) H1
theorem vu {a:Expr}{ta:TA}{p:Pos}(hg:Gl X "range")(hm:X.mg "range"=none)(ha:PA X [a] ta)(hs:starEach [a] X.env=[(false,eval a X.env)]:=by rfl):PI X tg (.Call (.Name "range" p) [a] [] pos) (Qc ta):=by
 intro pins s σ H R I h;refine Call_ (jw I hg hm boot_range (PyProof.Rows.callWith_type1 (j5 (ha pos pins s σ H _ I h) λus s1 ⟨vs,H1,I1,r1,q1⟩=>?_) hs rfl));obtain ⟨j,e,q1,q2,q⟩:=q1;subst e;cases r1 with
 |cons r rr=>cases rr;obtain ⟨t,rfl⟩:=r;exact call_range_1 (Lh I1 (by omega) (by omega) q1 q2 (by simpa using q))
def tFor (wi:TI)(g:TG)(tb:TS):TS:=λD σ H=>wi σ H λJ H1=>∃ W:Nat->Nat->St->Hp->Prop,(∃ m,W 0 m σ H1)/\∀ i m σ H,W i m σ H ->
 (J.stop i H/\D.nx σ H)∨(J.go i H/\∃ N:St->Hp->Prop,(∀ σ' H',N σ' H'->∃ m',m'<m/\W (i+1) m' σ' H')/\∀ x H',J.yld i H x H'->g x σ H' λσ2 H2=>tb { D with nx:=N,ct:=N,bk:=D.nx } σ2 H2)
def Qz (fp:List Addr)(h:Heap):List (Addr×Obj):=fp.filterMap λb=>(h.get? b).map λo=>(b,o)
theorem XH {o:Obj}(hb:b∈fp)(e:h.get? b=some o):(b,o)∈Qz fp h:=uR.mpr ⟨b,hb,by rw [e];rfl⟩
theorem CZ {p:Addr×Obj}(hp:p∈Qz fp h):p.1∈fp/\h.get? p.1=some p.2:=by
 obtain ⟨b,hb,e⟩:=uR.mp hp;cases q:h.get? b with
 |none=>rw [q] at e;cases e
 |some o=>rw [q] at e;have e':(b,o)=p:=Option.some.inj e;subst e';exact ⟨hb,q⟩
theorem Inv.pinned {s:Shared}(I:Inv X pins σ H s)(hf:∀ b∈fp,xg X pins H b)(ho:∀ b∈fp,∃ o,s.heap.get? b=some o/\∀ v,o.data ≠ .cell v):Inv X (pins++Qz fp s.heap) σ H s :=
 I.pins_of λp hp=>(yx.mp hp).elim (λz=>I.pin p (yv _ z)) λz=>by
  obtain ⟨hb,e⟩:=CZ z;obtain ⟨f0,f1,f2,_⟩:=hf p.1 hb;obtain ⟨o,e',d⟩:=ho p.1 hb;rw [e] at e';cases e';exact ⟨e,f0,f1,f2,d⟩
theorem Inv.unpinned {pl:List (Addr×Obj)}{s:Shared}(I:Inv X (pins++pl) σ H s):Inv X pins σ H s:=I.pins_of λp hp=>I.pin p (yv _ (yg _ hp))
theorem xp {iter:Expr}{wi:TI}(hp:PassesOwn (model X.prog X.w) X.A X.env X.xe)(hc:X.calm=true)(hi:PI X tg iter wi)(hg:PG X tg g)(hb:PSs X body tb)(hs:∀ x,foldedSetIterable iter X.env x=pure x:=by intro _;rfl):PS X (.For tg iter body [] pos) (tFor wi g tb):=by
 intro pins s σ H D I h;refine wpAny_For (j5 (hi pins s σ H _ I h) λv s1 h1=>j5 h1 λitv s2 h2=>?_) hs;obtain ⟨it,fp,tn,J,H2,e,I2,T,st2,f2,W,⟨m0,w0⟩,turn⟩:=h2;subst e
 -- what stays true of the iterator's objects through the loop
 have stat:∀{H':Hp},(∀ b∈fp,H' b=none)->∀ b∈fp,xg X pins H' b:=λhn b hb=>⟨hn b hb,(f2 b hb).2⟩;refine codeAny_forLoop_any (λn s'=>∃ i σ' H',Inv X pins σ' H' s'/\tn i s'.heap/\(∀ b∈fp,H' b=none)/\W i n σ' H') ?_ m0 ⟨0,σ,H2,I2,st2,λb hb=>(f2 b hb).1,w0⟩;rintro n s3 ⟨i,σ3,H3,I3,st3,fr3,w3⟩;rcases turn i n σ3 H3 w3 with ⟨stop,qn⟩|⟨go,N,hN,step⟩
 ·refine wpAny_passesOwn hp (j5 (T.done X rfl rfl rfl hc i pins s3 σ3 H3 X.xe I3 (stat fr3) st3 stop) λr s4 ⟨hr,I4⟩=>?_);subst hr;exact wpAny_execs_nil ⟨σ3,H3,I4,qn⟩
 ·refine wpAny_passesOwn hp (j5 (T.item X rfl rfl rfl hc i pins s3 σ3 H3 X.xe I3 (stat fr3) st3 go) λr s4 ⟨u,hr,h4⟩=>?_);subst hr;refine wpAny_passesOwn hp (j5 h4 λ_ s5 ⟨x,H5,I5,r5,y5,st5,fr5⟩=>?_);have I5':=I5.pinned (stat fr5) (T.obj _ _ st5);refine wpAny_passesOwn hp (j5 (hg _ s5 σ3 H5 x u _ I5' r5 (step x H5 y5)) λ_ s6 ⟨σ6,H6,I6,q6⟩=>?_);refine wpAny_passesOwn hp (j5 (hb _ s6 σ6 H6 _ I6 q6) λf s7 q7=>?_);have again:∀{σ7:St}{H7:Hp},Inv X (pins++Qz fp s5.heap) σ7 H7 s7->N σ7 H7->∃ m,m<n/\∃ i σ' H',Inv X pins σ' H' s7/\tn i s7.heap/\(∀ b∈fp,H' b=none)/\W i m σ' H':=λ{σ7 H7} I7 n7=>by
   obtain ⟨m',hm,w7⟩:=hN σ7 H7 n7;refine ⟨m',hm,i+1,σ7,H7,I7.unpinned,T.keep _ _ _ st5 λb hb o e=>(I7.pin (b,o) (yv _ (yv _ (XH hb e)))).1,λb hb=>?_,w7⟩;obtain ⟨o,e,d⟩:=T.obj _ _ st5 b hb;exact (I7.pin (b,o) (yv _ (yv _ (XH hb e)))).2.1
  cases f with
  |next=>obtain ⟨σ7,H7,I7,n7⟩:=q7;exact again I7 n7
  |cont=>obtain ⟨σ7,H7,I7,n7⟩:=q7;exact again I7 n7
  |brk=>obtain ⟨σ7,H7,I7,q7⟩:=q7;exact ⟨σ7,H7,I7.unpinned,q7⟩
  |ret v=>obtain ⟨x7,σ7,H7,I7,r7,q7⟩:=q7;exact ⟨x7,σ7,H7,I7.unpinned,r7,q7⟩
end
theorem Ug (Pv:Nat->St->Hp->Prop)(h0:Pv 0 σ H)(hs:∀ i σ H,i<n->Pv i σ H->g (.int (lo+i)) σ H λσ2 H2=>tb { D with nx:=Pv (i+1),ct:=Pv (i+1),bk:=D.nx } σ2 H2)(hd:∀ σ H,Pv n σ H->D.nx σ H):∃ W:Nat->Nat->St->Hp->Prop,(∃ m,W 0 m σ H)/\∀ i m σ H,W i m σ H -> ((Itr lo n).stop i H/\D.nx σ H)∨((Itr lo n).go i H/\∃ N:St->Hp->Prop,(∀ σ' H',N σ' H'->∃ m',m'<m/\W (i+1) m' σ' H')/\∀ x H',(Itr lo n).yld i H x H'->g x σ H' λσ2 H2=>tb { D with nx:=N,ct:=N,bk:=D.nx } σ2 H2):=by
 refine ⟨λi m σ H=>m=n-i/\i<=n/\Pv i σ H,⟨n,by simp,uZ _,h0⟩,?_⟩;rintro i m σ H ⟨rfl,hi,p⟩;by_cases hlt:i<n
 ·refine .inr ⟨hlt,Pv (i+1),λσ' H' p'=>⟨n-(i+1),by omega,rfl,hlt,p'⟩,λx H' y=>?_⟩;obtain ⟨e,y⟩:=y;subst e y;exact hs i σ _ hlt p
 ·have e:i=n:=by omega
  subst e;exact .inl ⟨yS _,hd σ H p⟩
abbrev R2:=V->V->Hp->VK->Prop
variable{r r':R2}
def OpR (X:Cx)(f:Value->Value->Sem Value)(r:R2):Prop :=
 ∀(pins:List (Addr×Obj))(s:Shared)(σ:St)(H:Hp)(x y:V)(v u:Value)(Q:VK),Inv X pins σ H s->RelV x v->RelV y u->r x y H Q ->
  wpAny (model X.prog X.w) X.A (f v u) (EP X pins σ Q) X.xe s
def UnR (X:Cx)(f:Value->Sem Value)(r:V->Hp->VK->Prop):Prop :=
 ∀(pins:List (Addr×Obj))(s:Shared)(σ:St)(H:Hp)(x:V)(v:Value)(Q:VK),Inv X pins σ H s->RelV x v->r x H Q ->
  wpAny (model X.prog X.w) X.A (f v) (EP X pins σ Q) X.xe s
def CallR (X:Cx)(f:Value)(r:List V->Hp->VK->Prop):Prop :=
 ∀(pins:List (Addr×Obj))(s:Shared)(σ:St)(H:Hp)(xs:List V)(us:List Value)(Q:VK),Inv X pins σ H s->Vals xs us->r xs H Q ->
  wpAny (model X.prog X.w) X.A (call f us) (EP X pins σ Q) X.xe s
def TruR (X:Cx)(r:V->Hp->(Bool->Hp->Prop)->Prop):Prop :=
 ∀(pins:List (Addr×Obj))(s:Shared)(σ:St)(H:Hp)(x:V)(v:Value)(Q:Bool->Hp->Prop),Inv X pins σ H s->RelV x v->r x H Q ->
  wpAny (model X.prog X.w) X.A (truthy v) (TP X pins σ Q) X.xe s
def tOp (r:R2)(ta tb:TE):TE:=λσ H Q=>ta σ H λx H1=>tb σ H1 λy H2=>r x y H2 Q
def tUn (r:V->Hp->VK->Prop)(ta:TE):TE:=λσ H Q=>ta σ H λx H1=>r x H1 Q
def rI (C:Int->Int->Prop)(g:Int->Int->V):R2:=λx y H Q=>∃ i j,x = .int i/\y = .int j/\C i j/\Q (g i j) H
def rI0 (g:Int->Int->V):R2:=λx y H Q=>∃ i j,x = .int i/\y = .int j/\Q (g i j) H
def rU (g:Int->V):V->Hp->VK->Prop:=λx H Q=>∃ i,x = .int i/\Q (g i) H
section
variable {X:Cx}{a b c:Expr}{ta tb tc:TE}{pos:Pos}
theorem binT (ha:PE X a ta)(hb:PE X b tb){s:Shared}(I:Inv X pins σ H s)(h:ta σ H λx H1=>tb σ H1 λy H2=>R x y H2)(hf:∀ v u s2 x y H2,Inv X pins σ H2 s2->RelV x v->RelV y u->R x y H2->wpAny (model X.prog X.w) X.A (f v u) Q X.xe s2):wpAny (model X.prog X.w) X.A (eval a X.env) (λv s₁=>wpAny (model X.prog X.w) X.A (eval b X.env) (λu s₂=>wpAny (model X.prog X.w) X.A (f v u) Q X.xe s₂) X.xe s₁) X.xe s:=by refine j5 (ha pins s σ H _ I h) λv s1 ⟨x,H1,I1,r1,q1⟩=>?_;refine j5 (hb pins s1 σ H1 _ I1 q1) λu s2 ⟨y,H2,I2,r2,q2⟩=>?_;exact hf v u s2 x y H2 I2 r1 r2 q2
theorem u3 {op:Operator}(ho:OpR X (binaryOp op) r)(ha:PE X a ta)(hb:PE X b tb):PE X (.BinOp a op b pos) (tOp r ta tb):=by intro pins s σ H Q I h;exact wpAny_BinOp (binT ha hb I h λv u s2 x y H2 I2 rx ry q=>ho pins s2 σ H2 x y v u Q I2 rx ry q)
theorem zK {op:UnaryOp}{r:V->Hp->VK->Prop}(ho:UnR X (unaryOp op) r)(ha:PE X a ta):PE X (.UnaryOp op a pos) (tUn r ta):=by intro pins s σ H Q I h;exact UnaryOp_ (j5 (ha pins s σ H _ I h) λv s1 ⟨x,H1,I1,r1,q1⟩=>ho pins s1 σ H1 x v Q I1 r1 q1)
theorem opI {C:Int->Int->Prop}{g:Int->Int->Int}(rule:∀(i j:Int)(t u:Tok)(s:Shared)(Q:Value->Shared->Prop)(E:Value->Shared->Prop),C i j->Q (.int (g i j) s.toks) { s with toks:=s.toks+1 }->wpAny (model X.prog X.w) X.A (f (.int i t) (.int j u)) Q E s):OpR X f (rI C λi j=> .int (g i j)):=by intro pins s σ H x y v u Q I rx ry h;obtain ⟨i,j,rfl,rfl,hc,q⟩:=h;obtain ⟨t,rfl⟩:=rx;obtain ⟨t',rfl⟩:=ry;exact rule i j t t' s _ _ hc ⟨.int (g i j),H,I.tok _,⟨_,rfl⟩,q⟩
theorem opI0 {g:Int->Int->Int}(rule:∀(i j:Int)(t u:Tok)(s:Shared)(Q:Value->Shared->Prop)(E:Value->Shared->Prop),Q (.int (g i j) s.toks) { s with toks:=s.toks+1 }->wpAny (model X.prog X.w) X.A (f (.int i t) (.int j u)) Q E s):OpR X f (rI0 λi j=> .int (g i j)):=by intro pins s σ H x y v u Q I rx ry h;obtain ⟨i,j,rfl,rfl,q⟩:=h;obtain ⟨t,rfl⟩:=rx;obtain ⟨t',rfl⟩:=ry;exact rule i j t t' s _ _ ⟨.int (g i j),H,I.tok _,⟨_,rfl⟩,q⟩
theorem opB0 {g:Int->Int->Bool}(rule:∀(i j:Int)(t u:Tok)(s:Shared)(Q:Value->Shared->Prop)(E:Value->Shared->Prop),Q (.bool (g i j)) s->wpAny (model X.prog X.w) X.A (f (.int i t) (.int j u)) Q E s):OpR X f (rI0 λi j=> .bl (g i j)):=by intro pins s σ H x y v u Q I rx ry h;obtain ⟨i,j,rfl,rfl,q⟩:=h;obtain ⟨t,rfl⟩:=rx;obtain ⟨t',rfl⟩:=ry;exact rule i j t t' s _ _ ⟨.bl (g i j),H,I,rfl,q⟩
def jj (i j:Int):Prop:=0<=j/\j<=1000000/\i.natAbs<2 ^ 64
def CMul (i j:Int):Prop:=(-(2 ^ 64)<i/\i<2 ^ 64)∨(-(2 ^ 64)<j/\j<2 ^ 64)
theorem CMul.ok {i j:Int}(h:CMul i j):IntMulOk i j:=by
 rcases h with ⟨h1,h2⟩|⟨h1,h2⟩
 ·exact .of_left (intBits_le_64 h1 h2)
 ·exact .of_right (intBits_le_64 h1 h2)
theorem op_add:OpR X (binaryOp .Add) (rI0 λi j=> .int (i+j)):=opI0 λ_ _ _ _ _ _ _ q=>add_int q
theorem vm:OpR X (binaryOp .Sub) (rI0 λi j=> .int (i-j)):=opI0 λ_ _ _ _ _ _ _ q=>sub_int q
theorem wx:OpR X (binaryOp .Mult) (rI CMul λi j=> .int (i*j)):=opI λ_ _ _ _ _ _ _ hc q=>mul_int q hc.ok
theorem jA:OpR X (binaryOp .Mod) (rI (λ_ j=>0<j) λi j=> .int (i % j)):=opI λi j _ _ _ _ _ hc q=>by
 have h1:(0:Int)<j:=hc;exact mod_int' (by omega) (by rw [Int.fmod_eq_emod_of_nonneg i (by omega)];exact q)
theorem vl:OpR X (binaryOp .Pow) (rI jj λi j=> .int (i ^ j.toNat)):=opI λ_ _ _ _ _ _ _ hc q=>pow_int_small hc.1 hc.2.1 hc.2.2 q
theorem unI {f:Value->Sem Value}{g:Int->Int}(rule:∀(i:Int)(t:Tok)(s:Shared)(Q:Value->Shared->Prop)(E:Value->Shared->Prop),Q (.int (g i) s.toks) { s with toks:=s.toks+1 }->wpAny (model X.prog X.w) X.A (f (.int i t)) Q E s):UnR X f (rU λi=> .int (g i)):=by intro pins s σ H x v Q I rx h;obtain ⟨i,rfl,q⟩:=h;obtain ⟨t,rfl⟩:=rx;exact rule i t s _ _ ⟨.int (g i),H,I.tok _,⟨_,rfl⟩,q⟩
theorem zP:UnR X (unaryOp .USub) (rU λi=> .int (-i)):=unI λ_ _ _ _ _ q=>neg_int q
end
section
variable {X:Cx}{a b c:Expr}{ta tb tc:TE}{pos:Pos}
theorem ZF {s:Shared}{Q:VK}{k k':Bool}(I:Inv X pins σ H s)(q:Q (.bl k) H)(e:k=k'):EP X pins σ Q (.bool k') s:=by subst e;exact ⟨.bl k,H,I,rfl,q⟩
theorem XM:OpR X (compareOp .Lt) (rI0 λi j=> .bl (decide (i<j))):=opB0 λ_ _ _ _ _ _ _ q=>lt_int q
theorem Qu:OpR X (compareOp .LtE) (rI0 λi j=> .bl (decide (i<=j))):=opB0 λ_ _ _ _ _ _ _ q=>le_int q
theorem XL:OpR X (compareOp .Gt) (rI0 λi j=> .bl (decide (j<i))):=opB0 λ_ _ _ _ _ _ _ q=>gt_int q
theorem XJ:OpR X (compareOp .GtE) (rI0 λi j=> .bl (decide (j<=i))):=opB0 λ_ _ _ _ _ _ _ q=>ge_int q
theorem Me:OpR X (compareOp .Is) (λx y H Q=>y = .non/\Q (.bl (decide (x = .non))) H):=by
 intro pins s σ H x y v u Q I rx ry h;obtain ⟨rfl,q⟩:=h;cases ry;refine is_none_gen (ZF I q ?_);cases x<;>first
  |(cases rx;rfl)
  |(obtain ⟨t,rfl⟩:=rx;rfl)
theorem Mj:OpR X (compareOp .IsNot) (λx y H Q=>y = .non/\Q (.bl (!decide (x = .non))) H):=by
 intro pins s σ H x y v u Q I rx ry h;obtain ⟨rfl,q⟩:=h;cases ry;refine isnot_none_gen (ZF I q ?_);cases x<;>first
  |(cases rx;rfl)
  |(obtain ⟨t,rfl⟩:=rx;rfl)
theorem OpR.or (h:OpR X f r)(h':OpR X f r'):OpR X f (λx y H Q=>r x y H Q∨r' x y H Q):=by
 intro pins s σ H x y v u Q I rx ry q;rcases q with q|q
 ·exact h pins s σ H x y v u Q I rx ry q
 ·exact h' pins s σ H x y v u Q I rx ry q
theorem c7 (b:Expr)(h:op ≠ .In:=by decide)(h2:op ≠ .NotIn:=by decide):behindInMarks op b=false:=by
 have e1:(op==CmpOp.In)=false:=by cases op<;>first|rfl|exact absurd rfl h
 have e2:(op==CmpOp.NotIn)=false:=by cases op<;>first|rfl|exact absurd rfl h2
 cases b<;>simp [behindInMarks,e1,e2]
theorem zI (ho:OpR X (compareOp op) r)(ha:PE X a ta)(hb:PE X b tb)(hm:behindInMarks op b=false):PE X (.Compare a [op] [b] pos) (tOp r ta tb):=by intro pins s σ H Q I h;exact wpAny_Compare1 (binT ha hb I h λv u s2 x y H2 I2 rx ry q=>ho pins s2 σ H2 x y v u Q I2 rx ry q) hm
def VJ (t:TE):TT:=λσ H Q=>t σ H λx H'=>∃ k,x = .bl k/\Q k H'
theorem i4 (ho:OpR X (compareOp op) r)(ha:PE X a ta)(hb:PE X b tb)(hm:behindInMarks op b=false):PT X (.Compare a [op] [b] pos) (VJ (tOp r ta tb)):=by
 intro pins s σ H Q I h;refine wpAny_isTrue_Compare1 (j5 (ha pins s σ H _ I h) λv s1 ⟨x,H1,I1,r1,q1⟩=>j5 (hb pins s1 σ H1 _ I1 q1) λu s2 ⟨y,H2,I2,r2,q2⟩ =>
  j5 (ho pins s2 σ H2 x y v u _ I2 r1 r2 q2) λc s3 ⟨z,H3,I3,r3,k,e,q3⟩=>?_) hm
 subst e;cases r3;exact wpAny_truthy_bool ⟨H3,I3,q3⟩
def VG (r r':R2)(ta tb tc:TE):TE:=λσ H Q=>ta σ H λx H1=>tb σ H1 λy H2=>r x y H2 λz H3=>∃ k,z = .bl k /\
 (if k=true then tc σ H3 λw' H4=>r' y w' H4 Q else Q (.bl false) H3)
theorem Ms (ho:OpR X (compareOp op) r)(ho':OpR X (compareOp op') r')(ha:PE X a ta)(hb:PE X b tb)(hc:PE X c tc)(hm:lastMarks [op,op'] [b,c]=false:=by with_unfolding_all rfl):PE X (.Compare a [op,op'] [b,c] pos) (VG r r' ta tb tc):=by
 intro pins s σ H Q I h;refine Compare_chain (j5 (ha pins s σ H _ I h) λv s1 ⟨x,H1,I1,r1,q1⟩=>chain_link (j5 (hb pins s1 σ H1 _ I1 q1) λu s2 ⟨y,H2,I2,r2,q2⟩ =>
  j5 (ho pins s2 σ H2 x y v u _ I2 r1 r2 q2) λd s3 ⟨z,H3,I3,r3,k,e,q3⟩=>?_)) hm
 subst e;cases r3;refine wpAny_truthy_bool ?_;cases k with
 |false=>exact ite_ff ⟨.bl false,H3,I3,rfl,q3⟩
 |true=>exact ite_tt (chain_last (j5 (hc pins s3 σ H3 _ I3 q3) λw' s4 ⟨z',H4,I4,r4,q4⟩=>ho' pins s4 σ H4 y z' u w' Q I4 r2 r4 q4))
theorem Js (ho:OpR X (compareOp op) r)(ho':OpR X (compareOp op') r')(ha:PE X a ta)(hb:PE X b tb)(hc:PE X c tc)(hm:lastMarks [op,op'] [b,c]=false:=by with_unfolding_all rfl):PT X (.Compare a [op,op'] [b,c] pos) (VJ (VG r r' ta tb tc)):=by
 intro pins s σ H Q I h;refine isTrue_chain (j5 (ha pins s σ H _ I h) λv s1 ⟨x,H1,I1,r1,q1⟩=>test_link (j5 (hb pins s1 σ H1 _ I1 q1) λu s2 ⟨y,H2,I2,r2,q2⟩ =>
  j5 (ho pins s2 σ H2 x y v u _ I2 r1 r2 q2) λd s3 ⟨z,H3,I3,r3,k,e,q3⟩=>?_)) hm
 subst e;cases r3;refine wpAny_truthy_bool ?_;cases k with
 |false=>obtain ⟨k',e',q'⟩:=q3;cases e';exact ite_ff ⟨H3,I3,q'⟩
 |true=>refine ite_tt (test_last (j5 (hc pins s3 σ H3 _ I3 q3) λw' s4 ⟨z',H4,I4,r4,q4⟩=>j5 (ho' pins s4 σ H4 y z' u w' _ I4 r2 r4 q4) λd' s5 ⟨z2,H5,I5,r5,k2,e2,q5⟩=>?_));subst e2;cases r5;exact wpAny_truthy_bool ⟨H5,I5,q5⟩
def TruV (K:Fg)(x:V)(H:Hp)(k:Bool):Prop :=
 match x with
 | .non=>k=false
 | .bl b=>k=b
 | .int i=>k=(i != 0)
 | .str y=>y.length<=sizeLine/\k=((y.length:Int) != 0)
 | .byt y=>y.size<=sizeLine/\k=((y.size:Int) != 0)
 | .ref p=>(∃ xs,SqL K H p xs/\k=!xs.isEmpty)∨(∃ xs,SqT K H p xs/\k=!xs.isEmpty)∨∃ kvs,H p=some (.dK kvs)/\k=!kvs.isEmpty
 |_=>False
theorem PX {κ:Type}{kvs:List (κ×V)}{vs:List (κ×Value)}(r:KV kvs vs):(!vs.isEmpty)=!kvs.isEmpty:=by cases r<;>rfl
theorem Ur {its:List Value}(r:Vals xs its):(!its.toArray.isEmpty)=!xs.isEmpty:=by cases r<;>simp
theorem vd:(sizeLine:Nat)<2 ^ 63:=by rw [sizeLine_eq];decide
theorem NC:TruR X (λx H Q=>∃ k,TruV X.K x H k/\Q k H):=by
 intro pins s σ H x v Q I rx h;obtain ⟨k,e,q⟩:=h;have hl:=vd;have hs:sizeLine=16777216:=sizeLine_eq;cases x with
 |non=>cases rx;have e':k=false:=e;subst e';exact truthy_none ⟨H,I,q⟩
 |bl b=>cases rx;have e':k=b:=e;subst e';exact wpAny_truthy_bool ⟨H,I,q⟩
 |int i=>obtain ⟨t,rfl⟩:=rx;have e':k=(i != 0):=e;subst e';exact PySem.P.truthy_int ⟨H,I,q⟩
 |str y=>obtain ⟨t,rfl⟩:=rx;obtain ⟨hy,e'⟩:y.length<=sizeLine/\k=((y.length:Int) != 0):=e;subst e';exact PySem.P.truthy_str (by omega) ⟨H,I.tok _,q⟩
 |byt y=>obtain ⟨t,rfl⟩:=rx;obtain ⟨hy,e'⟩:y.size<=sizeLine/\k=((y.size:Int) != 0):=e;subst e';exact PySem.W.truthy_bytes (by omega) ⟨H,I.tok _,q⟩
 |ref p =>
  cases rx;have e':(∃ xs,SqL X.K H p xs/\k=!xs.isEmpty)∨(∃ xs,SqT X.K H p xs/\k=!xs.isEmpty)∨∃ kvs,H p=some (.dK kvs)/\k=!kvs.isEmpty:=e;rcases e' with ⟨xs,hx,e'⟩|⟨xs,hx,e'⟩|⟨kvs,hx,e'⟩
  ·subst e';obtain ⟨its,r,pl,hz⟩:=I.list hx;have hlen:=r.length;exact wpAny_truthy_list pl.isList (by simp only [yV];omega) ⟨H,I.tok _,by rw [Ur r];exact q⟩
  ·subst e';obtain ⟨its,r,pl,hz⟩:=I.tuple hx;have hlen:=r.length;exact truthy_tuple pl (by simp only [yV];omega) ⟨H,I.tok _,by rw [Ur r];exact q⟩
  ·subst e';obtain ⟨hz,hS,vs,r,m⟩:kvs.length<=sizeLine/\(p==sysModules)=false/\∃ vs,KV kvs vs/\s.heap.DictOf (qz X.prog X.w) p vs:=I.hok p _ hx;have hlen:kvs.length=vs.length:=Paired.length r;exact wpAny_truthy_dict hS m (by omega) ⟨H,I.tok _,by rw [PX r];exact q⟩
 |_=>exact (show False from e).elim
theorem Le (ha:PE X a ta)(he:∀ whole,isTrue a X.env whole=(do let v <- whole;standAt a.pos;holding [v] (truthy v))):
  PT X a (λσ H Q=>ta σ H λx H'=>∃ k,TruV X.K x H' k/\Q k H'):=by
 intro pins s σ H Q I h;exact isTrue_plain (j5 (ha pins s σ H _ I h) λv s1 ⟨x,H1,I1,r1,q1⟩=>NC pins s1 σ H1 x v Q I1 r1 q1) (he _)
theorem op_add_str:OpR X (binaryOp .Add) (λx y H Q=>∃ i j,x = .str i/\y = .str j/\i.length+j.length<=sizeLine/\Q (.str (i++j)) H):=by intro pins s σ H x y v u Q I rx ry h;obtain ⟨i,j,rfl,rfl,hz,q⟩:=h;obtain ⟨t,rfl⟩:=rx;obtain ⟨t',rfl⟩:=ry;exact add_str (λt' tk=>⟨.str (i++j),H,I.tok _,⟨_,rfl⟩,q⟩) hz
theorem zf {x:V}(r:Vals [x] us):∃ u,us=[u]/\RelV x u:=by
 cases r with
 |cons r1 r2=>cases r2;exact ⟨_,rfl,r1⟩
theorem KA {x:V}(r:Vals [x,y] us):∃ u w',us=[u,w']/\RelV x u/\RelV y w':=by
 cases r with
 |cons r1 r2 =>
  cases r2 with
  |cons r3 r4=>cases r4;exact ⟨_,_,rfl,r1,r3⟩
def LenV (K:Fg)(x:V)(H:Hp)(n:Nat):Prop :=
 match x with
 | .str y=>y.length<=sizeLine/\n=y.length
 | .byt y=>y.size<=sizeLine/\n=y.size
 | .ref p=>(∃ xs,SqL K H p xs/\n=xs.length)∨∃ xs,SqT K H p xs/\n=xs.length
 |_=>False
theorem Bt:CallR X (.builtin "len") (λxs H Q=>∃ x n,xs=[x]/\LenV X.K x H n/\Q (.int n) H):=by
 intro pins s σ H xs us Q I r h;obtain ⟨x,n,rfl,e,q⟩:=h;obtain ⟨u,rfl,rx⟩:=zf r;have hl:=vd;have hs:sizeLine=16777216:=sizeLine_eq;cases x with
 |str y=>obtain ⟨t,rfl⟩:=rx;obtain ⟨hy,e'⟩:y.length<=sizeLine/\n=y.length:=e;subst e';exact len_str (by omega) ⟨.int _,H,I.tok _,⟨_,rfl⟩,q⟩
 |byt y=>obtain ⟨t,rfl⟩:=rx;obtain ⟨hy,e'⟩:y.size<=sizeLine/\n=y.size:=e;subst e';exact PySem.W.len_bytes (by omega) ⟨.int _,H,I.tok _,⟨_,rfl⟩,q⟩
 |ref p =>
  cases rx;have e':(∃ xs,SqL X.K H p xs/\n=xs.length)∨∃ xs,SqT X.K H p xs/\n=xs.length:=e;rcases e' with ⟨xs,hx,e'⟩|⟨xs,hx,e'⟩
  ·subst e';obtain ⟨its,r',pl,hz⟩:=I.list hx;have hlen:=r'.length;exact Calls.call_len_list pl.isList (by simp only [yV];omega) ⟨.int xs.length,H,I.tok _,⟨_,by simp only [yV];rw [hlen]⟩,q⟩
  ·subst e';obtain ⟨its,r',pl,hz⟩:=I.tuple hx;have hlen:=r'.length;exact len_tuple pl (by simp only [yV];omega) ⟨.int xs.length,H,I.tok _,⟨_,by simp only [yV];rw [hlen]⟩,q⟩
 |_=>exact (show False from e).elim
end
structure ObjM (h:Heap)(x dx C:Addr)(mA:Str->Option Value):Prop where
 obj:h.get? x=some (PySem.W.instObj C dx)
 ns:h.Ns1 dx mA
 ne:dx≠x
theorem UH (n:h.Ns1 dx mA):∃ od,h.get? dx=some od/\∀ name,PySem.W.lookIn name od=some (mA name):=by
 obtain ⟨o,es,ep,ho,hd,hk,_,hm⟩:=n;refine ⟨o,ho,λname=>?_⟩;have e:=hm name;unfold nsFind findBy at e;rw [<- Array.find?_toList] at e;unfold PySem.W.lookIn;rw [hd]
 dsimp only
 split
 ·rename_i y q;rw [q] at e;exact congrArg some e
 ·rename_i q;rw [q] at e;have a:es.toList.any (·.refKey)=false:=by rw [List.any_eq_false];intro y hy;obtain ⟨z,t,hkey⟩:=hk y (Array.mem_toList_iff.mp hy);simp [DictEntry.refKey,hkey]
  have a':¬ es.toList.any (·.refKey)=true:=by rw [a];exact yU
  rw [if_neg a'];exact congrArg some e
theorem ObjM.look {x:Addr}(I:ObjM h x dx C mA):∃ od,PySem.W.InstAt h x (PySem.W.instObj C dx) C (some od)/\∀ name,PySem.W.lookIn name od=some (mA name) :=
 let ⟨od,ho,hl⟩:=UH I.ns
 ⟨od,⟨I.obj,rfl,rfl,ho⟩,hl⟩
section
variable {prog:Program}{w:World}{A:Around}{E:Value->Shared->Prop}{s:Shared}{K:Fg}{x dx C f:Addr}{mA:Str->Option Value}{name:Str}{v:Value}
theorem Ps {expr:Bool}(X:K.In s.heap)(I:ObjM s.heap x dx C mA)(hg:PySem.W.plainGet K C name=true)(hh:PySem.W.hasDictIn K C=true)(ha:PySem.W.findIn K (.ref C) name=some none)(hv:mA name=some v)(hv':PySem.W.handedIn v=true)(h:Q v { s with toks:=s.toks+1 }):wpAny (model prog w) A (getAttr (.ref x) name expr) Q E s:=by obtain ⟨od,J,hl⟩:=I.look;exact PySem.W.get_value X J (PySem.W.plainGet_of hg).1 (PySem.W.findObj_own hh ha rfl (by rw [hl,hv])) hv' h
theorem Pt {Q:Value×List Value->Shared->Prop}(X:K.In s.heap)(I:ObjM s.heap x dx C mA)(hg:PySem.W.plainGet K C name=true)(hf:PySem.W.findIn K (.ref C) name=some (some (.ref f)))(ht:PySem.W.isFn K (.ref f)=true)(hv:mA name=none)(h:Q (.ref f,[.ref x]) s):wpAny (model prog w) A (getMethod (.ref x) name pl) Q E s:=by obtain ⟨od,J,hl⟩:=I.look;exact PySem.W.method_fn X J (PySem.W.plainGet_of hg).1 (PySem.W.plainGet_of hg).2 hf (beq_iff_eq.mp ht) (by show (PySem.W.lookIn name od).map (·.isSome)=some false;rw [hl,hv];rfl) h
theorem Nn {ns:List Str}{Q:Unit->Shared->Prop}(X:K.In s.heap)(I:ObjM s.heap x dx C mA)(hs:PySem.W.findIn K (.ref C) "__setattr__"=some (some (.builtin "object.__setattr__")))(hp:PySem.W.plainOver K C=true)(ht:PySem.W.takerIn K C name=some none)(hh:PySem.W.hasDictIn K C=true)(hw:PySem.Within mA ns)(hsz:ns.length<=sizeLine)(h:∀ h',ObjM h' x dx C (λy=>if y=name then some v else mA y)->Heap.SameBut dx s.heap h'->Q () { s with heap:=h',toks:=s.toks+2 }):wpAny (model prog w) A (setAttr (.ref x) name v) Q E s:=by obtain ⟨od,J,hl⟩:=I.look;refine PySem.W.set_plain X J hs (PySem.W.osa_open (s:={ s with toks:=s.toks+1 }) (r:=none) X J hp ht λb=>?_);obtain ⟨cd,hc,hd'⟩:=PySem.W.any_some hh;have hx:s.heap.get? x=some ⟨.ref C,some dx,.plain,#[]⟩:=I.obj;refine yY (yI (yY (yY (wpAny_loadPart hx (yY (PySem.W.Looks.here (s:={ s with toks:=s.toks+1 }) (PySem.W.looks_clsIn X hc) ?_))))));rw [hd'];refine yI (a:=some dx) (yY (yI (yY ?_)));refine wpAny_nsSet1 (s:={ s with toks:=s.toks+1 }) I.ns λh' hn2 hs2=>?_;obtain ⟨oD,esD,epD,hoD,hdD,hcD⟩:=hn2.count (PySem.Within.cons name v hw);refine yY (wpAny_lookBehind hoD (by rw [hdD];exact pastItsLine_dict (yc hcD (by rw [yC];omega))) ?_);exact yI (h _ ⟨(hs2.2 _ (Ne.symm I.ne)).trans I.obj,hn2,I.ne⟩ hs2)
theorem CH {R:Result->Shared->Prop}{vs:List Value}(X:K.In s.heap)(hm:PySem.W.makesIn K C=true)(hi:PySem.W.findIn K (.ref C) "__init__"=some (some (.ref f)))(hf:PySem.W.typeIn K (.ref f)=some (.type "function"))(h:codeAny (model prog w) (A.under (.builtin "type.__call__" ⟨.ref C::vs,kw⟩)) (.call (.ref f) ⟨.ref (s.heap.objs.size+1)::vs,kw⟩) (PySem.W.InitBack (s.heap.objs.size+1) R) { s with heap:=(s.heap.push PySem.W.emptyDict).push (PySem.W.instObj C s.heap.objs.size) }):codeAny (model prog w) A (.call (.ref C) ⟨vs,kw⟩) R s:=by obtain ⟨hh,g,d,t,os⟩:=s;exact PySem.W.make_core (PySem.W.makes_of X hm) (PySem.W.looks_findIn X hi) (λself=>PySem.W.bind_fn X self hf) (.inl rfl) h
end
def qV (f:Str)(v:V):List (Str×V)->List (Str×V)
 |[]=>[(f,v)]
 |(g,x)::r=>if g=f then (g,v)::r else (g,x)::qV f v r
theorem UL (f g:Str)(v:V):∀ fs:List (Str×V),(qV f v fs).lookup g=if g=f then some v else fs.lookup g
 |[]=>by
  show List.lookup g [(f,v)]=_;by_cases h:g=f
  ·have hb:(g==f)=true:=beq_iff_eq.mpr h;simp only [List.lookup,hb,if_pos h]
  ·have hb:(g==f)=false:=beq_eq_false_iff_ne.mpr h;simp only [List.lookup,hb,if_neg h]
 |(k,x)::r=>by
  have ih:=UL f g v r;rw [show qV f v ((k,x)::r)=(if k=f then (k,v)::r else (k,x)::qV f v r) from rfl];by_cases hk:k=f
  ·rw [if_pos hk];by_cases h:g=k
   ·have hb:(g==k)=true:=beq_iff_eq.mpr h;simp only [List.lookup,hb,if_pos (h.trans hk)]
   ·have hb:(g==k)=false:=beq_eq_false_iff_ne.mpr h;simp only [List.lookup,hb,if_neg (λe:g=f=>h (e.trans hk.symm))]
  ·rw [if_neg hk];by_cases h:g=k
   ·have hb:(g==k)=true:=beq_iff_eq.mpr h;simp only [List.lookup,hb,if_neg (λe:g=f=>hk (h.symm.trans e))]
   ·have hb:(g==k)=false:=beq_eq_false_iff_ne.mpr h;simp only [List.lookup,hb];exact ih
theorem ZS (f:Str)(v:V):∀ fs:List (Str×V),f∈(qV f v fs).map (·.1)/\∀ g,g∈fs.map (·.1)->g∈(qV f v fs).map (·.1)
 |[]=>⟨by simp [qV],λg h=>by simp at h⟩
 |(k,x)::r=>by
  obtain ⟨i1,i2⟩:=ZS f v r;rw [show qV f v ((k,x)::r)=(if k=f then (k,v)::r else (k,x)::qV f v r) from rfl];by_cases hk:k=f
  ·rw [if_pos hk];subst hk;exact ⟨by simp,λg h=>by simpa using h⟩
  ·rw [if_neg hk];refine ⟨?_,λg h=>?_⟩
   ·rw [yK];exact yR _ i1
   ·rw [yK] at h ⊢;rcases yM.mp h with e|e
    ·exact yM.mpr (.inl e)
    ·exact yR _ (i2 g e)
theorem UD (f:Str)(v:V):∀ fs:List (Str×V),(qV f v fs).length<=fs.length+1
 |[]=>by simp [qV]
 |(k,x)::r=>by
  have ih:=UD f v r;rw [show qV f v ((k,x)::r)=(if k=f then (k,v)::r else (k,x)::qV f v r) from rfl];by_cases hk:k=f
  ·rw [if_pos hk,yC,yC];omega
  ·rw [if_neg hk,yC,yC];omega
theorem RelO.some_of {o:Option Value}(r:RelO (some v) o):∃ u,o=some u/\RelV v u:=by
 cases o with
 |none=>exact (show False from r).elim
 |some u=>exact ⟨u,rfl,r⟩
theorem RelO.none_of {o:Option Value}(r:RelO none o):o=none:=by
 cases o with
 |none=>rfl
 |some u=>exact (show False from r).elim
theorem Uh (r:RelV v u):PySem.W.handedIn u=true:=by
 cases v with
 |non=>cases (show u=Value.none from r);rfl
 |bl b=>cases (show u=Value.bool b from r);rfl
 |int i=>obtain ⟨t,e⟩:=(show ∃ t,u=Value.int i t from r);cases e;rfl
 |str x=>obtain ⟨t,e⟩:=(show ∃ t,u=Value.str x t from r);cases e;rfl
 |byt b=>obtain ⟨t,e⟩:=(show ∃ t,u=Value.bytes b t from r);cases e;rfl
 |flt b=>obtain ⟨t,e⟩:=(show ∃ t,u=Value.float b t from r);cases e;rfl
 |ref a=>cases (show u=Value.ref a from r);rfl
 |ty n=>cases (show u=Value.type n from r);rfl
section
variable {P:Program}{w:World}{H H':Hp}{h h':Heap}{a C dx:Addr}{fs fs':List (Str×V)}
theorem jY (hok:HOk P w H h)(e:H a=some (.ins C dx fs)):∃ mA,ObjM h a dx C mA/\(∀ f,RelO (fs.lookup f) (mA f))/\PySem.Within mA (fs.map (·.1))/\fs.length<=1000/\H dx=some (.own a):=by obtain ⟨d,z,ne,ob,mA,n,r,q⟩:=(show ObjOk P w H h a (.ins C dx fs) from hok a _ e);exact ⟨mA,⟨ob,n,ne⟩,r,q,z,d⟩
end
structure Cls (K:Fg)(C:Addr):Prop where
 pg:PySem.W.plainGet K C Str.empty=true
 hd:PySem.W.hasDictIn K C=true
 po:PySem.W.plainOver K C=true
 sa:PySem.W.findIn K (.ref C) "__setattr__"=some (some (.builtin "object.__setattr__"))
theorem Cls.get (c:Cls K C)(f:Str):PySem.W.plainGet K C f=true:=c.pg
def NoAttr (K:Fg)(C:Addr)(f:Str):Prop:=PySem.W.findIn K (.ref C) f=some none
theorem NoAttr.taker {f:Str}(n:NoAttr K C f):PySem.W.takerIn K C f=some none:=by unfold PySem.W.takerIn;rw [show PySem.W.findIn K (.ref C) f=some none from n];rfl
structure wS (K:Fg)(C:Addr)(m:Str)(f:Addr):Prop where
 at_:PySem.W.findIn K (.ref C) m=some (some (.ref f))
 fn:PySem.W.isFn K (.ref f)=true
 kp:PySem.W.keepIn K (.ref f)=true
section
variable {X:Cx}{pins:List (Addr×Obj)}{σ:St}{H:Hp}{s:Shared}{a C dx:Addr}{fs:List (Str×V)}{f:Str}{v:V}{A:Around}{E:Value->Shared->Prop}
theorem Pu {b:Bool}(I:Inv X pins σ H s)(e:H a=some (.ins C dx fs))(c:Cls X.K C)(n:NoAttr X.K C f)(l:fs.lookup f=some v)(h:∀ u s',Inv X pins σ H s'->RelV v u->Q u s'):wpAny (model X.prog X.w) A (getAttr (.ref a) f b) Q E s:=by obtain ⟨mA,O,r,_,_,_⟩:=jY I.hok e;obtain ⟨u,hu,ru⟩:=RelO.some_of (v:=v) (o:=mA f) (by rw [<- l];exact r f);exact Ps I.kIn O (c.get f) c.hd n hu (Uh ru) (h u _ (I.tok _) ru)
theorem ZL {g:Addr}{Q:Value×List Value->Shared->Prop}(I:Inv X pins σ H s)(e:H a=some (.ins C dx fs))(c:Cls X.K C)(k:wS X.K C m g)(l:fs.lookup m=none)(h:Q (.ref g,[.ref a]) s):wpAny (model X.prog X.w) A (getMethod (.ref a) m pl) Q E s:=by obtain ⟨mA,O,r,_,_,_⟩:=jY I.hok e;have hn:mA m=none:=RelO.none_of (by rw [<- l];exact r m);exact Pt I.kIn O (c.get m) k.at_ k.fn hn h
theorem Np {Q:Unit->Shared->Prop}(I:Inv X pins σ H s)(e:H a=some (.ins C dx fs))(c:Cls X.K C)(n:NoAttr X.K C f)(hl:fs.length<1000)(ry:RelV y u)(h:∀ s',Inv X pins σ (z8 H a (.ins C dx (qV f y fs))) s'->Q () s'):wpAny (model X.prog X.w) A (setAttr (.ref a) f u) Q E s:=by
 obtain ⟨mA,O,r,wi,_,ho⟩:=jY I.hok e;have hz:(fs.map (·.1)).length<=sizeLine:=by rw [yZ,sizeLine_eq];omega
 refine Nn I.kIn O c.sa c.po n.taker c.hd wi hz λh' O' sb=>h _ ?_;have hd:∃ o,h'.get? dx=some o:=let ⟨o,_,_,e',_⟩:=O'.ns;⟨o,e'⟩
 refine I.write (x:=a) (e:=dx) (by rw [e];exact True.intro) (.inr ho) (λb q hb z=>(sb.2 b hb).trans z) hd ?_;refine ⟨by rw [z9 O.ne];exact ho,?_,O.ne,O'.obj,_,O'.ns,λg=>?_,λg hg=>?_⟩
 ·have:=UD f y fs;omega
 ·show RelO ((qV f y fs).lookup g) (if g=f then some u else mA g);rw [UL];by_cases q:g=f
  ·rw [if_pos q,if_pos q];exact ry
  ·rw [if_neg q,if_neg q];exact r g
 ·by_cases q:g=f
  ·rw [q];exact (ZS f y fs).1
  ·refine (ZS f y fs).2 g (wi g λz=>hg ?_);show (if g=f then some u else mA g)=none;rw [if_neg q];exact z
theorem Inv.made (I:Inv X pins σ H s):Inv X pins σ (z8 (z8 H s.heap.objs.size (.own (s.heap.objs.size+1))) (s.heap.objs.size+1) (.ins C s.heap.objs.size [])) { s with heap:=(s.heap.push PySem.W.emptyDict).push (PySem.W.instObj C s.heap.objs.size) }:=by
 have e1:(s.heap.push PySem.W.emptyDict).get? s.heap.objs.size=some PySem.W.emptyDict:=yy s.heap rfl;have e2:((s.heap.push PySem.W.emptyDict).push (PySem.W.instObj C s.heap.objs.size)).get? (s.heap.objs.size+1)=some (PySem.W.instObj C s.heap.objs.size):=by have:=yy (s.heap.push PySem.W.emptyDict) (o:=PySem.W.instObj C s.heap.objs.size) rfl;rwa [uL] at this
 have e3:(s.heap.push PySem.W.emptyDict).Ns s.heap.objs.size (λ_=>none):=⟨PySem.W.emptyDict,#[],_,e1,rfl,(λe he=>absurd he (by simp)),λ_=>rfl⟩;have I1:=I.laid (a:=s.heap.objs.size) (o:= .own (s.heap.objs.size+1)) (h':=s.heap.push PySem.W.emptyDict) (t':=s.toks) (λb u q=>yW _ q) (yS _) ⟨_,e1⟩;refine I1.laid (a:=s.heap.objs.size+1) (o:= .ins C s.heap.objs.size []) (t':=s.toks) (λb u q=>yW _ q) (Nat.le_of_eq (uL _ _)) ?_;have ne:s.heap.objs.size≠s.heap.objs.size+1:=yG (uF _);refine ⟨by rw [z9 ne,y7],uZ _,ne,e2,λ_=>none,(Heap.Ns1.of_empty e3).at λo q=>yW _ q,λ_=>True.intro,λy hy=>absurd rfl hy⟩
theorem Wi {prog:Program}{env:Env}{f:Str}{s:Shared}(hb:attributeBase e f env (eval e env)=eval e env)(h:wpAny (model prog w) A (eval e env) (λo s₁=>wpAny (model prog w) A (getAttr o f true) Q E s₁) E s):wpAny (model prog w) A (eval (.Attribute e f pos) env) Q E s :=
 Attribute_any_ h (by rw [arm_eval_Attribute,hb])
end
def tFld (K:Fg)(ta:TE)(f:Str):TE:=λσ H Q=>ta σ H λx H1=>∃ a C dx fs v,x = .ref a/\H1 a=some (.ins C dx fs)/\Cls K C/\NoAttr K C f/\fs.lookup f=some v/\Q v H1
def QH (K:Fg)(ta tv:TE)(f:Str):TS:=λD σ H=>tv σ H λy H1=>ta σ H1 λx H2=>∃ a C dx fs,x = .ref a/\H2 a=some (.ins C dx fs)/\Cls K C/\NoAttr K C f/\fs.length<1000 /\
 D.nx σ (z8 H2 a (.ins C dx (qV f y fs)))
section
variable {X:Cx}{o e value:Expr}{f:Str}{pos pos' tpos:Pos}{ta tv:TE}
theorem Mv (he:PE X e ta)(hb:attributeBase e f X.env (eval e X.env)=eval e X.env):PE X (.Attribute e f pos) (tFld X.K ta f):=by intro pins s σ H Q I h;refine Wi hb (j5 (he pins s σ H _ I h) λu s1 ⟨x,H1,I1,rx,a,C,dx,fs,v,ex,ea,c,n,l,q⟩=>?_);subst ex;obtain rfl:u=Value.ref a:=rx;exact Pu I1 ea c n l λu' s2 I2 ru=>⟨v,H1,I2,ru,q⟩
theorem MW (ha:PE X o ta)(hv:PE X value tv)(hs:swapsWith value (some (.Attribute o f pos')) pos.line X.env=pure false):PS X (.Assign [.Attribute o f pos'] value pos) (QH X.K ta tv f):=by intro pins s σ H D I h;refine plainObj_wpAny_Assign_Attribute (j5 (hv pins s σ H _ I h) λu s1 ⟨y,H1,I1,ry,q⟩=>j5 (ha pins s1 σ H1 _ I1 q) λov s2 ⟨x,H2,I2,rx,a,C,dx,fs,ex,ea,c,n,l,q2⟩=>?_) hs;subst ex;obtain rfl:ov=Value.ref a:=rx;exact Np I2 ea c n l ry λs3 I3=>⟨σ,_,I3,q2⟩
theorem HI {apos:Pos}{args:List Expr}{s:Shared}(he:PE X e te)(I:Inv X pins σ H s)
  (h:te σ H λx H1=>∃ a C dx fs g,x = .ref a/\H1 a=some (.ins C dx fs)/\Cls X.K C/\wS X.K C m g/\fs.lookup m=none /\
   ∀ s1,Inv X pins σ H1 s1->wpAny (model X.prog X.w) X.A (callWith pos (.ref g) [.ref a] (backTo pos (starEach args X.env)) (backToKw pos (keywordEach [] X.env))) Q X.xe s1)
  (ht:eval (.Call (.Attribute e m apos) args [] pos) X.env=(do
   let ov <- eval e X.env
   standAt apos.atName
   let (f,first) <- holding [ov] (getMethod ov m pl)
   callWith pos f first (backTo pos (starEach args X.env)) (backToKw pos (keywordEach [] X.env)))) :
  wpAny (model X.prog X.w) X.A (eval (.Call (.Attribute e m apos) args [] pos) X.env) Q X.xe s:=by
 refine PySem.W.methodCall_KW (pl:=pl) (j5 (he pins s σ H _ I h) λu s1 ⟨x,H1,I1,rx,a,C,dx,fs,g,ex,ea,c,k,l,q⟩=>?_) ht;subst ex;obtain rfl:u=Value.ref a:=rx;exact ZL I1 ea c k l (q s1 I1)
end
section
variable {X:Cx}{pins:List (Addr×Obj)}{σ:St}{H:Hp}{s:Shared}{A:Around}{E:Value->Shared->Prop}{Q:Value->Shared->Prop}{c:Value}{b:Bool}
inductive xm (K:Fg)(H:Hp):V->Value->Prop where
 |non:xm K H .non (.type "NoneType")
 |bl (x:Bool):xm K H (.bl x) (.type "bool")
 |int (i:Int):xm K H (.int i) (.type "int")
 |str (x:Str):xm K H (.str x) (.type "str")
 |flt (x:UInt64):xm K H (.flt x) (.type "float")
 |lst {a:Addr} {xs:List V} (e:H a=some (.lst xs)):xm K H (.ref a) (.type "list")
 |frz {a:Addr} {o:Obj} {xs:List V} (e:H a=some (.frz o (.lst xs))):xm K H (.ref a) (.type "list")
 |tup {a:Addr} {xs:List V} (e:H a=some (.tup xs)):xm K H (.ref a) (.type "tuple")
 |dK {a:Addr} {kvs:List (j4×V)} (e:H a=some (.dK kvs)):xm K H (.ref a) (.type "dict")
 |dT {a:Addr} {kvs:List (List j4×V)} (e:H a=some (.dT kvs)):xm K H (.ref a) (.type "dict")
 |ins {a C dx:Addr} {fs:List (Str×V)} (e:H a=some (.ins C dx fs)) (cl:Cls K C) (ha:PySem.W.findIn K (.ref C) "__class__"=some (some (.builtin "object.__class__")))
   (hn:PySem.W.specialIn K (.builtin "object.__class__") "__get__"=some (some (.builtin "getset_descriptor.__get__"))) (htk:PySem.W.takesIn K (.builtin "object.__class__")=some true)
   (hm:PySem.W.mroIn K C (.type "object")=some true):xm K H (.ref a) (.ref C)
theorem PZ {x:V}{t:Value}(I:Inv X pins σ H s)(rx:RelV x u)(ty:xm X.K H x t)(e:PySem.W.kitOne X.K t c=some b)(h:∀ tk,Q (.bool b) { s with toks:=tk }):wpAny (model X.prog X.w) A (call (.builtin "isinstance") [u,c]) Q E s:=by
 cases ty with
 |non=>cases (show u=Value.none from rx);exact PySem.W.kia_one PySem.W.kitx_none I.kIn True.intro e (λz=>nomatch z) h
 |bl y=>cases (show u=Value.bool y from rx);exact PySem.W.kia_one PySem.W.kitx_bool I.kIn True.intro e (λz=>nomatch z) h
 |int i=>obtain ⟨t,q⟩:=(show ∃ t,u=Value.int i t from rx);cases q;exact PySem.W.kia_one PySem.W.kitx_int I.kIn True.intro e (λz=>nomatch z) h
 |str y=>obtain ⟨t,q⟩:=(show ∃ t,u=Value.str y t from rx);cases q;exact PySem.W.kia_one PySem.W.kitx_str I.kIn True.intro e (λz=>nomatch z) h
 |flt y=>obtain ⟨t,q⟩:=(show ∃ t,u=Value.float y t from rx);cases q;exact PySem.W.kia_one PySem.W.kitx_float I.kIn True.intro e (λz=>nomatch z) h
 |@lst a xs ea=>cases (show u=Value.ref a from rx);obtain ⟨_,_,n,_,h1⟩:=(show ObjOk X.prog X.w H s.heap a (.lst xs) from I.hok a _ ea);exact PySem.W.kia_one PySem.W.kitx_list I.kIn ⟨_,h1,rfl⟩ e (λz=>nomatch z) h
 |@frz a ob xs ea=>cases (show u=Value.ref a from rx);obtain ⟨_,_,_,n,_,h1⟩:=(show ObjOk X.prog X.w H s.heap a (.frz ob (.lst xs)) from I.hok a _ ea);exact PySem.W.kia_one PySem.W.kitx_list I.kIn ⟨_,h1,rfl⟩ e (λz=>nomatch z) h
 |@tup a xs ea=>cases (show u=Value.ref a from rx);obtain ⟨_,_,_,p⟩:=(show ObjOk X.prog X.w H s.heap a (.tup xs) from I.hok a _ ea);obtain ⟨o,h1,h2,_⟩:=p;exact PySem.W.kia_one PySem.W.kitx_tuple I.kIn ⟨o,h1,h2⟩ e (λz=>nomatch z) h
 |@dK a kvs ea=>cases (show u=Value.ref a from rx);obtain ⟨_,_,vs,_,p⟩:=(show ObjOk X.prog X.w H s.heap a (.dK kvs) from I.hok a _ ea);obtain ⟨o,es,ep,h1,h2,_⟩:=p;exact PySem.W.kia_one PySem.W.kitx_dict I.kIn ⟨o,h1,h2.1⟩ e (λz=>nomatch z) h
 |@dT a kvs ea=>cases (show u=Value.ref a from rx);obtain ⟨_,_,xs,_,o,es,ep,h1,h2,_⟩:=(show ObjOk X.prog X.w H s.heap a (.dT kvs) from I.hok a _ ea);exact PySem.W.kia_one PySem.W.kitx_dict I.kIn ⟨o,h1,h2.1⟩ e (λz=>nomatch z) h
 |@ins a C dx fs ea cl ha hn htk hm=>cases (show u=Value.ref a from rx);obtain ⟨mA,O,_⟩:=jY I.hok ea;obtain ⟨od,J,_⟩:=O.look;exact PySem.W.kia_one (PySem.W.kitx_own (cl.get _) cl.hd ha hn htk hm) I.kIn J e (λz=>nomatch z) h
end
structure Room (k:Nat)(A:Around):Prop where
 hd:A.handled=none
 dp:A.depth+3*k+5<recursionLimit
 un:A.units+16*k+200<cLine
theorem Room.mono {k:Nat}(r:Room k A)(h:j<=k):Room j A:=⟨r.hd,by have:=r.dp;omega,by have:=r.un;omega⟩
theorem Room.deeper {k:Nat}(r:Room (k+1) A)(env:Env):Room k (A.deeper env) :=
 ⟨r.hd,by have:=r.dp;show A.depth+1+3*k+5<_;omega,by have:=r.un;show A.units+3+16*k+200<_;omega⟩
theorem CG :(A.under (.builtin "type.__call__" ⟨.ref C::us,kw⟩)).depth=A.depth+1:=by first|rfl|simp [Around.under,Code.weight,Code.isCreation,Code.isGuard,Code.isCaller,Code.frames,Code.isFrame,guardIds]
theorem CI :(A.under (.builtin "type.__call__" ⟨.ref C::us,kw⟩)).units=A.units+1:=by first|rfl|simp [Around.under,Code.cUnits,Code.frames,Code.isFrame]
theorem Room.make {k:Nat}(r:Room (k+1) A)(C:Addr)(us:List Value)(kw:List (Str×Value)):Room k (A.under (.builtin "type.__call__" ⟨.ref C::us,kw⟩)) :=
 ⟨r.hd,by have:=r.dp;rw [CG];omega,by have:=r.un;rw [CI];omega⟩
theorem Room.depth {k:Nat}(r:Room k A):A.depth<recursionLimit:=by have:=r.dp;omega
theorem Room.units {k:Nat}(r:Room k A):A.units+64<cLine:=by have:=r.un;omega
def qa:TA:=λ_ H Q=>Q [] H
def i6 (ta:TE)(tr:TA):TA:=λσ H Q=>ta σ H λx H1=>tr σ H1 λxs H2=>Q (x::xs) H2
section
variable {X:Cx}{e:Expr}{es:List Expr}{te:TE}{t:TA}{pos:Pos}
theorem u6:PA X [] qa:=λ_ _ _ _ H Q I h=>Calls.spliced_nil ⟨[],H,I,.nil,h⟩
theorem j9 (ha:PE X e te)(hr:PA X es t)(hs:starEach (e::es) X.env=(false,eval e X.env)::starEach es X.env:=by rfl):PA X (e::es) (i6 te t):=by intro pos pins s σ H Q I h;rw [hs];show wpAny _ _ (spliced ((false,eval e X.env)::backTo pos (starEach es X.env))) _ _ s;refine Calls.spliced_cons (j5 (ha pins s σ H _ I h) λu s1 ⟨x,H1,I1,r1,q1⟩=>?_);exact j5 (hr pos pins s1 σ H1 _ I1 q1) λus s2 ⟨xs,H2,I2,r2,q2⟩=>⟨x::xs,H2,I2,.cons r1 r2,q2⟩
def tTup (t:TA):TE:=λσ H Q=>t σ H λxs H1=>xs.length<=sizeLine/\∀ p,H1 p=none->Q (.ref p) (z8 H1 p (.tup xs))
def tLst (t:TA):TE:=λσ H Q=>t σ H λxs H1=>xs.length<=sizeLine/\∀ p,H1 p=none->Q (.ref p) (z8 H1 p (.lst xs))
theorem qU {x1}(h:PA X es t):PE X (.Tuple es x1 pos) (tTup t):=by intro pins s σ H Q I hq;refine wpAny_Tuple_spliced (j5 (h pos pins s σ H _ I hq) λus s1 ⟨xs,H1,I1,r,z,q⟩=>⟨by rw [<- r.length];exact z,?_⟩);have hf:H1 s1.heap.objs.size=none:=I1.hok.fresh (yS _);refine ⟨.ref s1.heap.objs.size,z8 H1 s1.heap.objs.size (.tup xs),I1.laid (t':=s1.toks) (λb u e=>yW _ e) (yS _) ?_,rfl,q _ hf⟩;exact ⟨z,us,r,⟨_,yy _ rfl,rfl,_,rfl⟩⟩
theorem qL (h:PA X es t):PE X (.List es pos) (tLst t):=by intro pins s σ H Q I hq;refine wpAny_List_spliced (j5 (h pos pins s σ H _ I hq) λus s1 ⟨xs,H1,I1,r,z,q⟩=>⟨by rw [<- r.length];exact z,?_⟩);have hf:H1 s1.heap.objs.size=none:=I1.hok.fresh (yS _);refine ⟨.ref s1.heap.objs.size,z8 H1 s1.heap.objs.size (.lst xs),I1.laid (t':=s1.toks) (λb u e=>yW _ e) (yS _) ?_,rfl,q _ hf⟩;exact ⟨z,us,0,r,yy _ rfl⟩
end
abbrev Sp:=List V->Hp->VK->XK->Prop
variable{sp:Sp}
abbrev CXT:=List Env->Hp->Shared->XK->Value->Shared->Prop
variable{CX:CXT}
structure Env0 (P:Program)(w:World)(K:Fg)(mg:Str->Option Value)(base:Heap)(A:Around)(outer:List Env)(s:Shared)(H:Hp):Prop where
 frames:A.frames=some outer
 mod:Mod K mg base
 bs:∀ b o,base.get? b=some o->s.heap.get? b=some o/\H b=none
 bsz:base.objs.size<=s.heap.objs.size
 funs:s.heap.FunFrames base outer
 frf:∀ b∈c6 outer,H b=none
 hok:HOk P w H s.heap
 bare:AllBare s.gens
 tbs:∀ p∈TABS,H p.1=some (.tbl p.2.1 p.2.2)
def CE (outer:List Env)(P:Program)(w:World)(H:Hp)(s:Shared)(Q:VK)(u:Value)(s':Shared):Prop :=
 ∃ v H',s'.os=s.os/\AllBare s'.gens/\Un (c6 outer) [] H H' s.heap s'.heap/\HOk P w H' s'.heap/\RelV v u/\Q v H'
def CR (CX:CXT)(outer:List Env)(P:Program)(w:World)(H:Hp)(s:Shared)(Q:VK)(E:XK)(r:Result)(s':Shared):Prop :=
 match r with
 | .ok (.ret u)=>CE outer P w H s Q u s'
 | .ok _=>False
 | .error e=>CX outer H s E e s'
structure FnOk (P:Program)(w:World)(K:Fg)(mg:Str->Option Value)(base:Heap)(CX:CXT)(k:Nat)(f:Addr)(fd:FuncData)(ps:List Str)(sp:Sp):Prop where
 len:∀ vs H Q E,sp vs H Q E->vs.length=ps.length
 run:∀(A:Around)(outer:List Env)(s:Shared)(H:Hp)(args:Args)(us:List Value)(vs:List V)(Q:VK)(E:XK),Room k A->Env0 P w K mg base A outer s H->BindsTo s fd args (ps.zip us)->Vals vs us->sp vs H Q E ->
  codeAny (model P w) A (.call (.ref f) args) (CR CX outer P w H s Q E) s
theorem FnOk.imp {k:Nat}{f:Addr}{sp':Sp}(F:FnOk P w K mg base CX k f fd ps sp)(h:∀ vs H Q E,sp' vs H Q E->sp vs H Q E):FnOk P w K mg base CX k f fd ps sp' :=
 ⟨λvs H Q E q=>F.len vs H Q E (h _ _ _ _ q),λA outer s H args us vs Q E hr he hb hv hs=>F.run A outer s H args us vs Q E hr he hb hv (h _ _ _ _ hs)⟩
theorem Env0.make {s:Shared}(e:Env0 P w K mg base A outer s H)(C:Addr)(us:List Value)(kw:List (Str×Value)):Env0 P w K mg base (A.under (.builtin "type.__call__" ⟨.ref C::us,kw⟩)) outer s H:=⟨by first|exact e.frames|(simpa [Around.under,Code.envs,Code.isFrame,pushEnvs] using e.frames),e.mod,e.bs,e.bsz,e.funs,e.frf,e.hok,e.bare,e.tbs⟩
section
variable {X:Cx}{pins:List (Addr×Obj)}{σ:St}{H:Hp}{s s':Shared}
theorem Inv.env0 (I:Inv X pins σ H s):Env0 X.prog X.w X.K X.mg X.base X.A X.stack s H :=
 ⟨I.ok.frames,I.ok.mod,I.bs,yc I.ok.bsz I.sz,I.stack,I.stkFree,I.hok,I.bare,λp hp=>I.base.tbls _ _ _ (I.ok.tbs p hp)⟩
theorem Inv.after {Q:VK}(I:Inv X pins σ H s)(h:CE X.stack X.prog X.w H s Q u s'):EP X pins σ Q u s':=by obtain ⟨v,H',os,bare,un,hok,r,q⟩:=h;obtain ⟨hh,g,d,t,os'⟩:=s';obtain rfl:os'=s.os:=os;exact ⟨v,H',I.call (h':=hh) (g':=g) (d':=d) (t':=t) (ch:=[]) un hok bare (λb z=>absurd z (by simp)),r,q⟩
end
def xH (sp:Sp)(dvs:List V)(E:XK)(t:TA):TE:=λσ H Q=>t σ H λvs H1=>sp (vs++dvs) H1 Q E
def vC (C:Addr)(m:Str)(sp:Sp)(dvs:List V)(E:XK)(ta:TE)(t:TA):TE:=λσ H Q=>ta σ H λx H1=>∃ a dx fs,x = .ref a/\H1 a=some (.ins C dx fs)/\fs.lookup m=none /\
 t σ H1 λvs H2=>sp (x::(vs++dvs)) H2 Q E
def QK (C:Addr)(sp:Sp)(dvs:List V)(E:XK)(t:TA):TE:=λσ H Q=>t σ H λvs H1=>∀ x dx,H1 x=none->H1 dx=none->dx≠x ->
 sp (.ref x::(vs++dvs)) (z8 (z8 H1 dx (.own x)) x (.ins C dx [])) (λv H2=>v = .non/\Q (.ref x) H2) E
def Binds (K:Fg)(fd:FuncData)(ps:List Str)(ds:List Value):Prop :=
 ∀(s:Shared)(us:List Value),K.In s.heap->(us++ds).length=ps.length->BindsTo s fd ⟨us,[]⟩ (ps.zip (us++ds))
theorem Binds.all (h:∀ us:List Value,us.length=ps.length->bindArgs fd ⟨us,[]⟩=pure (ps.zip us)):Binds K fd ps []:=λs us _ hl=>by
 rw [yo] at hl ⊢;exact .of_eq (h us hl)
def jM (CX:CXT)(X:Cx)(E:XK):Prop:=∀(pins:List (Addr×Obj))(σ:St)(H:Hp)(s:Shared)(e:Value)(s':Shared),Inv X pins σ H s->CX X.stack H s E e s'->X.xe e s'
section
variable {X:Cx}{CX:CXT}{k:Nat}{f C:Addr}{fd:FuncData}{ps:List Str}{sp:Sp}{dvs:List V}{ds:List Value}{E:XK}{x m:Str}{p pos apos:Pos}{e o:Expr}{es:List Expr}{ta:TE}{t:TA}
theorem JB {s:Shared}{Q:VK}(F:FnOk X.prog X.w X.K X.mg X.base CX k f fd ps sp)(hr:Room k X.A)(hb:Binds X.K fd ps ds)(hd:Vals dvs ds)(hx:jM CX X E)(I:Inv X pins σ H s)(r:Vals vs us)(h:sp (vs++dvs) H Q E):wpAny (model X.prog X.w) X.A (call (.ref f) us) (EP X pins σ Q) X.xe s:=by
 have r2:Vals (vs++dvs) (us++ds):=r.append hd;have hl:(us++ds).length=ps.length:=by rw [<- r2.length];exact F.len _ _ _ _ h
 refine wpAny_call (codeAny_mono (F.run X.A X.stack s H ⟨us,[]⟩ (us++ds) (vs++dvs) Q E hr I.env0 (hb s us I.kIn hl) r2 h) λr s' hq=>?_);cases r with
 |error e=>exact hx pins σ H s e s' I hq
 |ok fl =>
  cases fl with
  |ret u=>exact I.after hq
  |next=>exact False.elim hq
  |brk=>exact False.elim hq
  |cont=>exact False.elim hq
theorem Mr (F:FnOk X.prog X.w X.K X.mg X.base CX k f fd ps sp)(hr:Room k X.A)(hg:Gl X x)(hm:X.mg x=some (.ref f))(hk:PySem.W.keepIn X.K (.ref f)=true)(hb:Binds X.K fd ps ds)(hd:Vals dvs ds)(hx:jM CX X E)(ha:PA X (e::es) t)(hdb:(x==("__debug__":Str))=false:=by decide)(he:starEach (e::es) X.env=(false,eval e X.env)::starEach es X.env:=by rfl)(hpl:(backTo pos (starEach es X.env)).any (·.1)=false:=by rfl):PE X (.Call (.Name x p) (e::es) [] pos) (xH sp dvs E t):=by intro pins s σ H Q I h;refine wpAny_Call_Name_kw (vc I hg hm ?_ hdb);refine PySem.W.callWith_K (h₀:=X.base) I.ok.mod.kin hk (j5 (ha pos pins s σ H _ I h) λus s1 ⟨vs,H1,I1,r,q⟩=>⟨I1.kIn,?_⟩) he hpl;exact JB F hr hb hd hx I1 r q
theorem Mx (he:PE X o ta)(c:Cls X.K C)(hm:wS X.K C m f)(F:FnOk X.prog X.w X.K X.mg X.base CX k f fd ps sp)(hr:Room k X.A)(hb:Binds X.K fd ps ds)(hd:Vals dvs ds)(hx:jM CX X E)(ha:PA X (e::es) t)
  (hst:starEach (e::es) X.env=(false,eval e X.env)::starEach es X.env:=by rfl) (hpl:(backTo pos (starEach es X.env)).any (·.1)=false:=by rfl)
  (ht:eval (.Call (.Attribute o m apos) (e::es) [] pos) X.env=(do
   let ov <- eval o X.env
   standAt apos.atName
   let (f,first) <- holding [ov] (getMethod ov m pl)
   callWith pos f first (backTo pos (starEach (e::es) X.env)) (backToKw pos (keywordEach [] X.env))):=by rfl) :
  PE X (.Call (.Attribute o m apos) (e::es) [] pos) (vC C m sp dvs E ta t):=by
 intro pins s σ H Q I h;refine PySem.W.methodCall_KW (pl:=pl) (j5 (he pins s σ H _ I h) λu s1 ⟨x,H1,I1,rx,a,dx,fs,ex,ea,l,q⟩=>?_) ht;subst ex;obtain rfl:u=Value.ref a:=rx;refine ZL I1 ea c hm l ?_;refine PySem.W.callWith_K (first:=[.ref a]) (h₀:=X.base) I.ok.mod.kin hm.kp (j5 (ha pos pins s1 σ H1 _ I1 q) λus s2 ⟨vs,H2,I2,r,q2⟩=>⟨I2.kIn,?_⟩) hst hpl;exact JB (us:= .ref a::us) (vs:= .ref a::vs) F hr hb hd hx I2 (.cons rfl r) q2
theorem My (he:PE X o ta)(c:Cls X.K C)(hm:wS X.K C m f)(F:FnOk X.prog X.w X.K X.mg X.base CX k f fd ps sp)(hr:Room k X.A)(hb:Binds X.K fd ps ds)(hd:Vals dvs ds)(hx:jM CX X E)
  (ht:eval (.Call (.Attribute o m apos) [] [] pos) X.env=(do
   let ov <- eval o X.env
   standAt apos.atName
   let (f,first) <- holding [ov] (getMethod ov m pl)
   callWith pos f first (backTo pos (starEach [] X.env)) (backToKw pos (keywordEach [] X.env))):=by rfl) :
  PE X (.Call (.Attribute o m apos) [] [] pos) (vC C m sp dvs E ta qa):=by
 intro pins s σ H Q I h;refine PySem.W.methodCall_KW (pl:=pl) (j5 (he pins s σ H _ I h) λu s1 ⟨x,H1,I1,rx,a,dx,fs,ex,ea,l,q⟩=>?_) ht;subst ex;obtain rfl:u=Value.ref a:=rx;refine ZL I1 ea c hm l ?_;exact PySem.W.callWith_K0 (first:=[.ref a]) I1.kIn hm.kp (JB (us:=[.ref a]) (vs:=[.ref a]) F hr hb hd hx I1 (.cons rfl .nil) q)
structure Mk (K:Fg)(C f:Addr):Prop where
 makes:PySem.W.makesIn K C=true
 init:PySem.W.findIn K (.ref C) "__init__"=some (some (.ref f))
 fn:PySem.W.isFn K (.ref f)=true
 kp:PySem.W.keepIn K (.ref C)=true
theorem LA {s:Shared}{Q:VK}(M:Mk X.K C f)(F:FnOk X.prog X.w X.K X.mg X.base CX k f fd ps sp)(hr:Room (k+1) X.A)(hb:Binds X.K fd ps ds)(hd:Vals dvs ds)(hx:jM CX X E)(I:Inv X pins σ H s)(r:Vals vs us)(h:∀ x dx,H x=none->H dx=none->dx≠x->sp (.ref x::(vs++dvs)) (z8 (z8 H dx (.own x)) x (.ins C dx [])) (λv H2=>v = .non/\Q (.ref x) H2) E):wpAny (model X.prog X.w) X.A (call (.ref C) us) (EP X pins σ Q) X.xe s:=by
 have hq:=h (s.heap.objs.size+1) s.heap.objs.size (I.hok.fresh (uD _)) (I.hok.fresh (yS _)) (yG (uF _));have I2:=Inv.made (C:=C) I;have r2:Vals (V.ref (s.heap.objs.size+1)::(vs++dvs)) (Value.ref (s.heap.objs.size+1)::(us++ds)):= .cons rfl (r.append hd);have hl:(Value.ref (s.heap.objs.size+1)::us++ds).length=ps.length:=by have e:=r2.length;rw [F.len _ _ _ _ hq] at e;exact e.symm
 refine wpAny_call (CH (f:=f) I.kIn M.makes M.init (beq_iff_eq.mp M.fn) (codeAny_mono (F.run _ X.stack _ _ ⟨Value.ref (s.heap.objs.size+1)::us,[]⟩ (Value.ref (s.heap.objs.size+1)::(us++ds)) _ _ E (hr.make C us [])
  (I2.env0.make C us []) (hb _ (Value.ref (s.heap.objs.size+1)::us) I2.kIn hl) r2 hq) λr s' hq'=>?_))
 cases r with
 |error e=>exact hx pins σ _ _ e s' I2 hq'
 |ok fl =>
  cases fl with
  |ret u=>obtain ⟨v,H',I3,rv,ev,q3⟩:=I2.after hq';subst ev;exact ⟨rv,⟨V.ref (s.heap.objs.size+1),H',I3,rfl,q3⟩⟩
  |next=>exact False.elim hq'
  |brk=>exact False.elim hq'
  |cont=>exact False.elim hq'
theorem Mw (M:Mk X.K C f)(F:FnOk X.prog X.w X.K X.mg X.base CX k f fd ps sp)(hr:Room (k+1) X.A)(hg:Gl X x)(hm:X.mg x=some (.ref C))(hb:Binds X.K fd ps ds)(hd:Vals dvs ds)(hx:jM CX X E)(ha:PA X (e::es) t)(hdb:(x==("__debug__":Str))=false:=by decide)(he:starEach (e::es) X.env=(false,eval e X.env)::starEach es X.env:=by rfl)(hpl:(backTo pos (starEach es X.env)).any (·.1)=false:=by rfl):PE X (.Call (.Name x p) (e::es) [] pos) (QK C sp dvs E t):=by intro pins s σ H Q I h;refine wpAny_Call_Name_kw (vc I hg hm ?_ hdb);refine PySem.W.callWith_K (h₀:=X.base) I.ok.mod.kin M.kp (j5 (ha pos pins s σ H _ I h) λus s1 ⟨vs,H1,I1,r,q⟩=>⟨I1.kIn,?_⟩) he hpl;exact LA M F hr hb hd hx I1 r q
end
structure w9 (N P:List Str)(sc:Scope):Prop where
 kind:sc.kind = .function
 co:sc.isCoroutine=false
 gen:sc.isGenerator=false
 nd:N.Nodup
 pre:N.take P.length=P
 par:∀ x∈P,sc.names.lookup x=some .local∨sc.names.lookup x=some .cell
 nofree:∀ y∈sc.names,y.2 ≠ .free
theorem Yl {kindOf:Str->Option NameKind}{x:Str}:∀{binds:List (Str×Value)}{m:Str->Option Value},(∀ v,(x,v)∉binds)->bindL kindOf binds m x=m x
 |[],_,_=>rfl
 |(n,v)::r,m,h=>by
  unfold bindL;rw [Yl λw hw=>h w (yR _ hw)];split
  ·have:x≠n:=by rintro rfl;exact h v yQ
   simp [this]
  ·rfl
theorem Yj {kindOf:Str->Option NameKind}{x:Str}:∀{binds:List (Str×Value)}{m:Str->Option Value},(∀ v,(x,v)∉binds)->bindC kindOf binds m x=m x
 |[],_,_=>rfl
 |(n,v)::r,m,h=>by
  unfold bindC;rw [Yj λw hw=>h w (yR _ hw)];split
  ·rfl
  ·have:x≠n:=by rintro rfl;exact h v yQ
   simp [this]
theorem Yk {kindOf:Str->Option NameKind}{x:Str}{v:Value}:∀{P:List Str}{vs:List Value}{i:Nat}{m:Str->Option Value},P.Nodup->P[i]?=some x->vs[i]?=some v->kindOf x=some .local -> bindL kindOf (P.zip vs) m x=some v
 |[],_,_,_,_,h,_,_=>by simp at h
 |_::_,[],_,_,_,_,h,_=>by simp at h
 |p::P,w::vs,0,m,nd,h1,h2,hk=>by
  simp at h1 h2;subst h1;subst h2;show bindL kindOf ((p,w)::P.zip vs) m p=_;unfold bindL;rw [Yl λv hv=>(yt.mp nd).1 (List.of_mem_zip hv).1,if_pos hk];simp
 |p::P,w::vs,i+1,m,nd,h1,h2,hk=>by
  show bindL kindOf ((p,w)::P.zip vs) m x=_;unfold bindL;exact Yk (i:=i) (yt.mp nd).2 (by simpa using h1) (by simpa using h2) hk
theorem Yi {kindOf:Str->Option NameKind}{x:Str}{v:Value}:∀{P:List Str}{vs:List Value}{i:Nat}{m:Str->Option Value},P.Nodup->P[i]?=some x->vs[i]?=some v->kindOf x≠some .local -> bindC kindOf (P.zip vs) m x=some v
 |[],_,_,_,_,h,_,_=>by simp at h
 |_::_,[],_,_,_,_,h,_=>by simp at h
 |p::P,w::vs,0,m,nd,h1,h2,hk=>by
  simp at h1 h2;subst h1;subst h2;show bindC kindOf ((p,w)::P.zip vs) m p=_;unfold bindC;rw [Yj λv hv=>(yt.mp nd).1 (List.of_mem_zip hv).1,if_neg hk];simp
 |p::P,w::vs,i+1,m,nd,h1,h2,hk=>by
  show bindC kindOf ((p,w)::P.zip vs) m x=_;unfold bindC;exact Yi (i:=i) (yt.mp nd).2 (by simpa using h1) (by simpa using h2) hk
def start (N:List Str)(vs:List V):St:=vs.map some++List.replicate (N.length-vs.length) none
def ql (CX:CXT)(P:Program)(w:World)(K:Fg)(mg:Str->Option Value)(base:Heap)(N:List Str)(qual:Str)(scope:Scope)(f:Addr)(cd:Value)(A:Around)(outer:List Env)(s:Shared)(H:Hp)(E:XK):Cx where
 prog:=P
 w:=w
 K:=K
 mg:=mg
 base:=base
 A:=A.deeper (envOfC qual scope s.heap.objs.size f cd)
 N:=N
 s₀:=s
 H₀:=H
 env:=envOfC qual scope s.heap.objs.size f cd
 outer:=outer
 stack:=envOfC qual scope s.heap.objs.size f cd::outer
 ex:=[]
 calm:=true
 fn:=λ_=>true
 pn:=[]
 xe:=λe s'=>wpAny (model P w) (A.deeper (envOfC qual scope s.heap.objs.size f cd)) (leaving (envOfC qual scope s.heap.objs.size f cd) e) (λ_ s''=>CX outer H s E e s'') (λe' s''=>CX outer H s E e' s'') s'
theorem Yx {sc:Scope}(h:sc.names.lookup x=some .cell):∃ c,(cellsFrom n sc.names []).lookup x=some c:=by have q:=PySem.W.cellsFrom_some sc.names n [] (.inl h);exact Option.isSome_iff_exists.mp q
theorem Uq {f:Addr}{cd:Value}{s s1:Shared}{E:XK}(S:w9 N ps scope)(hd:A.handled=none)(e0:Env0 P w K mg base A outer s H)(hl:vs.length=ps.length)(r:Vals vs us)(x:InCallC s s.heap.objs.size (bindL (envOfC qual scope s.heap.objs.size f cd).kindOf (ps.zip us) λ_=>none) (cellsFrom (s.heap.objs.size+1) scope.names []) (bindC (envOfC qual scope s.heap.objs.size f cd).kindOf (ps.zip us) λ_=>none) s1):Inv (ql CX P w K mg base N qual scope f cd A outer s H E) [] (start N vs) H s1:=by
 have hpl:ps.length<=N.length:=by have:=congrArg List.length S.pre;rw [List.length_take] at this;omega
 obtain ⟨h1,tk,rfl,hk⟩:=x.done;have noA:∀ b:Addr,b∉(ql CX P w K mg base N qual scope f cd A outer s H E).ex:=λb z=>absurd (show b∈([]:List Addr) from z) (by simp);refine ⟨⟨e0.mod,S.kind,rfl,rfl,yS _,λy z c h1 h2=>?_,λy hy=>?_,λy c _ h=>?_,λ_=>hd,Around.frames_deeper e0.frames,.inr ⟨rfl,rfl⟩,λb z=>absurd z (noA b),e0.bs,e0.bsz,λb _ _=>noA b,λb z=>absurd z (noA b),e0.funs,e0.frf,e0.tbs⟩,
  rfl,e0.bare,Un.kept hk,⟨_,x.toInCall.ns,λi y v h1 h2 h3=>?_⟩,λy c h=>⟨_,x.cell y c h⟩,e0.hok.fresh (yS _),λy c h=>?_,λp hp=>absurd (show p∈([]:List (Addr×Obj)) from hp) (by simp),e0.hok.kept hk,?_⟩
 ·exact name_of_addr x.apart (PySem.mem_of_lookup h1) (PySem.mem_of_lookup h2)
 ·have hy:scope.names.lookup y=some .cell∨scope.names.lookup y=some .free:=hy;rcases hy with hy|hy
  ·exact Yx hy
  ·exact absurd rfl (S.nofree _ (PySem.mem_of_lookup hy))
 ·exact uT (x.above y c (PySem.mem_of_lookup h))
 ·have hi:i<vs.length:=by
   unfold start at h2;by_cases hi:i<vs.length
   ·exact hi
   ·rw [uC (by simpa using hi)] at h2;rw [uz] at h2;split at h2<;>cases h2
  have ha:vs[i]?=some v:=by
   unfold start at h2;rw [uJ (by simpa using hi),yO] at h2;cases e:vs[i]? with
   |none=>rw [e] at h2;cases h2
   |some a=>rw [e] at h2;cases h2;rfl
  obtain ⟨u,hu,rv⟩:=r.get ha;have hp:ps[i]?=some y:=by rw [<- S.pre,List.getElem?_take_of_lt (by omega)];exact h1
  have ndP:ps.Nodup:=by rw [<- S.pre];exact S.nd.sublist (List.take_sublist _ _)
  refine ⟨u,rv,?_⟩;rcases S.par y (yp hp) with k|k
  ·exact .inl ⟨k,Yk ndP hp hu k⟩
  ·obtain ⟨c,e⟩:=Yx (n:=s.heap.objs.size+1) k;refine .inr ⟨.inl k,c,e,?_⟩;have q:=x.cell y c e;rw [Yi ndP hp hu (by show scope.names.lookup y≠_;rw [k];decide)] at q;exact q
 ·exact e0.hok.fresh (uT (x.above y c (PySem.mem_of_lookup h)))
 ·unfold start;show _=N.length;rw [yL,yZ,uu];omega
theorem ZK {k:Nat}{f:Addr}{name:Str}{params:Arguments}{dV kV doc pm cdv ct oc:Value}{an od:Option Addr}{osl:Array (Option Value)}(lk:K.lookup f=some ⟨oc,od,.func (PySem.W.fnOf name qual params body scope dV kV doc pm an cdv ct),osl⟩)(hcd:PySem.W.codeIn K cdv qual=true)(S:w9 N ps scope)(len:∀ vs H Q E,sp vs H Q E->vs.length=ps.length)(hbody:∀(A:Around)(outer:List Env)(s:Shared)(H:Hp)(vs:List V)(Q:VK)(E:XK),Room k (A.deeper (envOfC qual scope s.heap.objs.size f cdv))->sp vs H Q E -> ∃ t,PSs (ql CX P w K mg base N qual scope f cdv A outer s H E) body t/\t { nx:=λ_ H'=>Q .non H',rt:=Q } (start N vs) H):FnOk P w K mg base CX (k+1) f (PySem.W.fnOf name qual params body scope dV kV doc pm an cdv ct) ps sp:=by
 refine ⟨len,λA outer s H args us vs Q E hr e0 hb r hsp=>?_⟩;have hl:=len _ _ _ _ hsp;have KX:K.In s.heap:=e0.mod.kin.keeps λb o e=>(e0.bs b o e).1;have lim:s.heap.NoLimit:=e0.mod.nolimit.keeps λb o e=>(e0.bs b o e).1;have hkind:∀ y∈ps.zip us,scope.names.lookup y.1=some .local∨(scope.names.lookup y.1=some .cell/\((cellsFrom (s.heap.objs.size+1) scope.names []).lookup y.1).isSome=true):=λ⟨n,v⟩ hy=>by
  rcases S.par n (List.of_mem_zip hy).1 with q|q
  ·exact .inl q
  ·exact .inr ⟨q,PySem.W.cellsFrom_some _ _ _ (.inl q)⟩
 refine codeAny_call_function hr.depth (KX _ _ lk) rfl S.co S.gen rfl (PySem.W.codeRec_of KX hcd) (hb _ _ _ _ ?_);refine wpAny_newFunctionEnv_cells S.kind hkind λenv he s1 x=>?_;subst he;refine ⟨lim.keeps x.toInCall.keep,codeAny_func ?_⟩;obtain ⟨t,ht,hq⟩:=hbody A outer s H vs Q E (hr.deeper _) hsp;have I:Inv (ql CX P w K mg base N qual scope f cdv A outer s H E) [] (start N vs) H s1:=Uq S hr.hd e0 hl r x;refine wpAny_mono (ht [] s1 (start N vs) H _ I hq) (λfl s' hs=>?_) λe s' hs=>hs;have fin:∀{σ':St}{H':Hp}{v:V}{u:Value},Inv (ql CX P w K mg base N qual scope f cdv A outer s H E) [] σ' H' s'->RelV v u->Q v H'->CE outer P w H s Q u s' :=
  λ{σ' H' v u} J rv q=>⟨v,H',J.os,J.bare,J.base,J.hok,rv,q⟩
 cases fl with
 |ret u=>obtain ⟨v,σ',H',J,rv,q⟩:=hs;exact fin J rv q
 |next=>obtain ⟨σ',H',J,q⟩:=hs;exact fin (v:=V.non) (u:=Value.none) J rfl q
 |brk=>obtain ⟨_,_,_,q⟩:=hs;exact False.elim q
 |cont=>obtain ⟨_,_,_,q⟩:=hs;exact False.elim q
section
variable {X:Cx}{x:Str}{p pos:Pos}{e:Expr}{es:List Expr}{t:TA}{id T:String}{r:List V->Hp->VK->Prop}
def tCB (r:List V->Hp->VK->Prop)(t:TA):TE:=λσ H Q=>t σ H λvs H1=>r vs H1 Q
theorem u7 (hc:CallR X (.builtin id) r)(hg:Gl X x)(hm:X.mg x=none)(hv:bootBuiltins x=some (.builtin id))(ha:PA X (e::es) t)(hn:x ≠ "__name__":=by decide)(hdb:(x==("__debug__":Str))=false:=by decide)(he:starEach (e::es) X.env=(false,eval e X.env)::starEach es X.env:=by rfl)(hpl:(backTo pos (starEach es X.env)).any (·.1)=false:=by rfl):PE X (.Call (.Name x p) (e::es) [] pos) (tCB r t):=by intro pins s σ H Q I h;refine wpAny_Call_Name_kw (jw I hg hm hv ?_ hn hdb);exact PyProof.Rows.callWith_builtin1 (j5 (ha pos pins s σ H _ I h) λus s1 ⟨vs,H1,I1,r1,q1⟩=>hc pins s1 σ H1 vs us Q I1 r1 q1) he hpl
theorem wA (hc:CallR X (.type T) r)(hg:Gl X x)(hm:X.mg x=none)(hv:bootBuiltins x=some (.type T))(ha:PA X (e::es) t)(hn:x ≠ "__name__":=by decide)(hdb:(x==("__debug__":Str))=false:=by decide)(he:starEach (e::es) X.env=(false,eval e X.env)::starEach es X.env:=by rfl)(hpl:(backTo pos (starEach es X.env)).any (·.1)=false:=by rfl):PE X (.Call (.Name x p) (e::es) [] pos) (tCB r t):=by intro pins s σ H Q I h;refine wpAny_Call_Name_kw (jw I hg hm hv ?_ hn hdb);exact PyProof.Rows.callWith_type1 (j5 (ha pos pins s σ H _ I h) λus s1 ⟨vs,H1,I1,r1,q1⟩=>hc pins s1 σ H1 vs us Q I1 r1 q1) he hpl
end
end L2
namespace HT
open PySem PyProof.Rows
section
variable {prog:Program}{w:World}{A:Around}{E:Value->Shared->Prop}{s:Shared}
theorem cat_tup {t b:Addr}{vs ws:List Value}{Q:Value->Shared->Prop}(ht:IsTup s.heap t vs.toArray)(hb:IsTup s.heap b ws.toArray)(hv:vs≠[])(h1:ws=[]->Q (.ref t) s)(h2:ws≠[]->Q (.ref s.heap.objs.size) { s with heap:=s.heap.push { cls:= .type "tuple",data:= .seq (vs++ws).toArray } })(hsz:vs.length+ws.length<=sizeLine):wpAny (model prog w) A (binaryOp .Add (.ref t) (.ref b)) Q E s:=by
 obtain ⟨⟨cls,dd,data,sl⟩,ho,hc,n,hd⟩:=id ht;obtain ⟨⟨cls2,dd2,data2,sl2⟩,ho2,hc2,n2,hd2⟩:=id hb;simp only at hc hd hc2 hd2;subst hc hd hc2 hd2;have e:vs.toArray++ws.toArray=(vs++ws).toArray:=by simp
 by_cases hw:ws=[]
 ·exact concat_meets ⟨_,ho,rfl⟩ ⟨_,ho2,rfl⟩ noFill_tuple_add seq_tuple_add PySem.F.slot_tuple_add PySem.F.entry_tuple_add (PySem.F.args_tuple_add_2 _ _)
   (tuple_addW1 t b vs.toArray ws.toArray n n2 dd dd2 sl sl2 (by simpa using hv) (by simp [hw])) ⟨ho,ho2,h1 hw⟩
 ·refine concat_meets ⟨_,ho,rfl⟩ ⟨_,ho2,rfl⟩ noFill_tuple_add seq_tuple_add PySem.F.slot_tuple_add PySem.F.entry_tuple_add (PySem.F.args_tuple_add_2 _ _)
   (tuple_addW2 t b vs.toArray ws.toArray n n2 dd dd2 sl sl2 (by simpa using hv) (by simpa using hw) (by rw [yV,yV];exact hsz)) ⟨ho,ho2,?_⟩
  rw [e];exact h2 hw
end
end HT
namespace L2
open PySem PySem.Spec PyProof.Rows
variable{xs:List (List j4×Addr×Value)}{j n t':Nat}{α:Type}{r:R2}{pins:List (Addr×Obj)}{σ:St}{H H':Hp}{its its':List Value}{A:Around}{x y:V}{u v:Value}{T:String}{o:Option V}{P:Program}{w:World}{kvs:List (List j4×V)}{a:Addr}{Q:Value->Shared->Prop}{h':Heap}
section
variable {X:Cx}{e:Expr}{te:TE}{lo hi:Option Expr}{tl th:TO}{pos p2:Pos}
def Gw (K:Fg):R2:=λx y H Q=>∃ a b xs ys,x = .ref a/\y = .ref b/\SqT K H a xs/\SqT K H b ys/\xs≠[]/\xs.length+ys.length<=sizeLine /\
 (ys=[]->Q (.ref a) H)/\(ys≠[]->∀ p,H p=none->Q (.ref p) (z8 H p (.tup (xs++ys))))
theorem Vals.nil_iff {xs:List V}{us:List Value}(r:Vals xs us):us=[]↔xs=[]:=by
 cases r with
 |nil=>simp
 |cons _ _=>simp
theorem Mc:OpR X (binaryOp .Add) (Gw X.K):=by intro pins s σ H x y v u Q I rx ry h;obtain ⟨a,b,xs,ys,rfl,rfl,ha,hb,hx,hz,q1,q2⟩:=h;cases rx;cases ry;obtain ⟨its,r1,p1,_⟩:=I.tuple ha;obtain ⟨its2,r2,p2,_⟩:=I.tuple hb;refine HT.cat_tup p1 p2 (λz=>hx (r1.nil_iff.mp z)) (λz=>⟨.ref a,H,I,rfl,q1 (r2.nil_iff.mp z)⟩) (λz=>?_) (by rw [<- r1.length,<- r2.length];exact hz);refine ⟨.ref s.heap.objs.size,_,I.laid (t':=s.toks) (o:= .tup (xs++ys)) (λb ob q=>yW _ q) (yS _) ?_,rfl,q2 (λw=>z (r2.nil_iff.mpr w)) _ (I.hok.fresh (yS _))⟩;exact ⟨by rw [yL];exact hz,_,r1.append r2,IsTup.new _ _⟩
end
def ixN (n:Nat)(i:Int):Option Nat:=if 0<=i then (if i<n then some i.toNat else none) else if -(n:Int)<=i then some (i+n).toNat else none
def atI {α:Type}(xs:List α)(i:Int):Option α:=(ixN xs.length i).bind λj=>xs[j]?
theorem Uy {i:Int}(h:ixN n i=some j):seqIndex? i n=some j/\j<n/\-(n:Int)<=i/\i<n:=by
 unfold ixN at h;by_cases h0:0<=i
 ·rw [if_pos h0] at h;by_cases h1:i<n
  ·rw [if_pos h1] at h;have e:i.toNat=j:=Option.some.inj h;exact ⟨by rw [seqIndex_of h0 h1,e],by omega,by omega,h1⟩
  ·rw [if_neg h1] at h;cases h
 ·rw [if_neg h0] at h;by_cases h1:-(n:Int)<=i
  ·rw [if_pos h1] at h;have e:(i+n).toNat=j:=Option.some.inj h;exact ⟨by rw [seqIndex_neg (by omega) h1,e],by omega,h1,by omega⟩
  ·rw [if_neg h1] at h;cases h
theorem Zm {xs:List α}{i:Int}{v:α}(h:atI xs i=some v):∃ j,seqIndex? i xs.length=some j/\xs[j]?=some v/\j<xs.length/\-(xs.length:Int)<=i/\i<xs.length:=by
 unfold atI at h;cases e:ixN xs.length i with
 |none=>rw [e] at h;cases h
 |some j=>rw [e] at h;obtain ⟨h1,h2,h3,h4⟩:=Uy e;exact ⟨j,h1,h,h2,h3,h4⟩
theorem xS {xs:List α}{v:α}(h:xs[j]?=some v):atI xs (j:Int)=some v:=by
 have hj:j<xs.length:=(yD.mp h).1;have e:ixN xs.length (j:Int)=some j:=by unfold ixN;rw [if_pos (by omega),if_pos (by omega)];simp
 unfold atI;rw [e];exact h
def Wb (b:Expr):Prop:=∀ o i,subscripted b false o i=operate [o,i] (getItem o i)
def IxR (X:Cx)(r:R2):Prop :=
 ∀(value slice:Expr)(pins:List (Addr×Obj))(s:Shared)(σ:St)(H:Hp)(x y:V)(v u:Value)(Q:VK),Inv X pins σ H s->RelV x v->RelV y u->r x y H Q ->
  subscripted slice false v u=operate [v,u] (getItem v u)->wpAny (model X.prog X.w) X.A (subscriptTail value slice v u) (EP X pins σ Q) X.xe s
def MtR (X:Cx)(id:String)(r:V->List V->Hp->VK->Prop):Prop :=
 ∀(pins:List (Addr×Obj))(s:Shared)(σ:St)(H:Hp)(x:V)(xs:List V)(v:Value)(us:List Value)(Q:VK),Inv X pins σ H s->RelV x v->Vals xs us->r x xs H Q ->
  wpAny (model X.prog X.w) X.A (call (.builtin id) (v::us)) (EP X pins σ Q) X.xe s
section
variable {X:Cx}{a b:Expr}{ta tb:TE}{pos:Pos}
theorem IxR.or {r':R2}(h:IxR X r)(h':IxR X r'):IxR X (λx y H Q=>r x y H Q∨r' x y H Q):=by
 intro value slice pins s σ H x y v u Q I rx ry q hs;rcases q with q|q
 ·exact h value slice pins s σ H x y v u Q I rx ry q hs
 ·exact h' value slice pins s σ H x y v u Q I rx ry q hs
theorem XR (hr:IxR X r)(ha:PE X a ta)(hb:PE X b tb)(hs:Wb b):PE X (.Subscript a b pos) (tOp r ta tb):=by intro pins s σ H Q I h;exact Subscript_ (binT ha hb I h λv u s2 x y H2 I2 rx ry q=>hr a b pins s2 σ H2 x y v u Q I2 rx ry q (hs _ _))
def rIxL (K:Fg):R2:=λx y H Q=>∃ p xs i v,x = .ref p/\y = .int i/\SqL K H p xs/\atI xs i=some v/\Q v H
def rIxT (K:Fg):R2:=λx y H Q=>∃ p xs i v,x = .ref p/\y = .int i/\SqT K H p xs/\atI xs i=some v/\Q v H
def rIxS:R2:=λx y H Q=>∃ z i c,x = .str z/\y = .int i/\z.length<=sizeLine/\atI z.cps.toList i=some c/\Q (.str ⟨#[c]⟩) H
theorem ix_list:IxR X (rIxL X.K):=by
 intro value slice pins s σ H x y v u Q I rx ry h hs;obtain ⟨p,xs,i,z,rfl,rfl,hq,he,q⟩:=h;cases rx;obtain ⟨t,rfl⟩:=ry;obtain ⟨its,r,pl,hz⟩:=I.list hq;obtain ⟨j,h1,h2,h3,h4,h5⟩:=Zm he;obtain ⟨w,ew,rw'⟩:=r.get h2;have hl:=r.length;have hn:=vd;have fin:EP X pins σ Q w s:=⟨z,H,I,rw',q⟩;by_cases h0:0<=i
 ·have hj:i.toNat=j:=by rw [seqIndex_of h0 h5] at h1;exact Option.some.inj h1
  exact item_listR pl.isList h0 (by omega) (by rw [hj];simpa using ew) fin hs
 ·have hj:(i+(its.toArray.size:Int)).toNat=j:=by rw [seqIndex_neg (by omega) h4] at h1;rw [yV,<- hl];exact Option.some.inj h1
  exact subscriptTail_builtinR (x:=w) pl.isList.typeIs slot_list_getitem.lookup
   (wpAny_getItem_list_neg (Q:=λr s'=>r=w/\EP X pins σ Q r s') pl.isList (by omega) (by rw [yV]<;>omega) (by omega) (by rw [hj];simpa using ew) ⟨rfl,fin⟩) hs
theorem ix_tup:IxR X (rIxT X.K):=by
 intro value slice pins s σ H x y v u Q I rx ry h hs;obtain ⟨p,xs,i,z,rfl,rfl,hq,he,q⟩:=h;cases rx;obtain ⟨t,rfl⟩:=ry;obtain ⟨its,r,pl,hz⟩:=I.tuple hq;obtain ⟨j,h1,h2,h3,h4,h5⟩:=Zm he;obtain ⟨w,ew,rw'⟩:=r.get h2;have hl:=r.length;have hn:=vd;have fin:EP X pins σ Q w s:=⟨z,H,I,rw',q⟩;exact subscriptTail_builtinR (x:=w) pl.typeIs slot_tuple_getitem.lookup
  (getItem_tuple (j:=j) (Q:=λr s'=>r=w/\EP X pins σ Q r s') pl (by omega) (by omega) (by rw [yV,<- hl];exact h1) (by simpa using ew) ⟨rfl,fin⟩) hs
theorem Ch:IxR X rIxS:=by
 intro value slice pins s σ H x y v u Q I rx ry h hs;obtain ⟨z,i,c,rfl,rfl,hz,he,q⟩:=h;obtain ⟨t,rfl⟩:=rx;obtain ⟨t',rfl⟩:=ry;obtain ⟨j,h1,h2,h3,h4,h5⟩:=Zm he;have hl:z.cps.toList.length=z.length:=by simp [Str.length]
 rw [hl] at h1 h4 h5;have hn:=vd;exact tail_any (typeIs_str s z t) slot_str_getitem.lookup (getItem_str (c:=c) (by
  have e1:decide (i < -(2 ^ 63:Int))=false:=yH (by omega);have e2:decide (i >= 2 ^ 63)=false:=yH (by omega);rw [e1,e2,Bool.or_false]) (by rw [h1];simpa using h2) ⟨.str ⟨#[c]⟩,H,I.tok _,⟨_,rfl⟩,q⟩) hs
def rIx (K:Fg):R2:=λx y H Q=>rIxL K x y H Q∨rIxT K x y H Q∨rIxS x y H Q
theorem Cf:IxR X (rIx X.K):=ix_list.or (ix_tup.or Ch)
theorem CK (its:List Value)(n j:Nat)(u:Value):Obj.mapSeq (·.setIfInBounds j u) { cls:= .type "list",data:= .seq its.toArray n }={ cls:= .type "list",data:= .seq (its.set j u).toArray n }:=by simp [Obj.mapSeq]
theorem Inv.lst {pins:List (Addr×Obj)}{σ:St}{H:Hp}{s:Shared}{p:Addr}{xs:List V}(I:Inv X pins σ H s)(h:H p=some (.lst xs)):∃ (its:List Value) (n:Nat),Vals xs its/\s.heap.get? p=some { cls:= .type "list",data:= .seq its.toArray n }/\xs.length<=sizeLine:=by obtain ⟨z,its,n,r,e⟩:=I.hok p _ h;exact ⟨its,n,r,e,z⟩
theorem Inv.lstUpd {s:Shared}{p:Addr}{xs ys:List V}{n':Nat}{f:Obj->Obj}(I:Inv X pins σ H s)(h:H p=some (.lst xs))(ho:s.heap.get? p=some { cls:= .type "list",data:= .seq its.toArray n })(hf:f { cls:= .type "list",data:= .seq its.toArray n }={ cls:= .type "list",data:= .seq its'.toArray n' })(r:Vals ys its')(hz:ys.length<=sizeLine)(t:Nat):Inv X pins σ (z8 H p (.lst ys)) { s with heap:=s.heap.update p f,toks:=t }:=by
 have e:(s.heap.update p f).get? p=some { cls:= .type "list",data:= .seq its'.toArray n' }:=by rw [uK f ho (by rw [hf]<;>rfl),hf]
 refine I.write (x:=p) (e:=p) (by rw [h];trivial) (.inl rfl) (λb u hb q=>(yf _ _ (Ne.symm hb)).trans q) ⟨_,e⟩ ?_;exact ⟨hz,its',n',r,e⟩
def rSetL:V->V->V->Hp->(Hp->Prop)->Prop:=λo i v H Q=>∃ p xs k j,o = .ref p/\i = .int k/\H p=some (.lst xs)/\ixN xs.length k=some j/\Q (z8 H p (.lst (xs.set j v)))
theorem Nm:PSet X rSetL:=by
 intro pins s σ H o i v ov iv u Q I ro ri rv h;obtain ⟨p,xs,k,j,rfl,rfl,hp,hj,q⟩:=h;cases ro;obtain ⟨t,rfl⟩:=ri;obtain ⟨its,n,r,ho,hz⟩:=I.lst hp;obtain ⟨h1,h2,h3,h4⟩:=Uy hj;have hl:=r.length;have hn:=vd;have I':Inv X pins σ (z8 H p (.lst (xs.set j v))) { s with heap:=s.heap.update p (Obj.mapSeq (·.setIfInBounds j u)) } :=
  I.lstUpd hp ho (CK its n j u) (r.set rv j) (by rw [yn];exact hz) s.toks
 by_cases h0:0<=k
 ·have hk:k.toNat=j:=by rw [seqIndex_of h0 h4] at h1;exact Option.some.inj h1
  exact PySem.W.ki_setAt ho h0 (by omega) (by rw [yV,<- hl];exact h4) (by rw [hk];exact ⟨_,I',q⟩)
 ·have hk:(k+(its.toArray.size:Int)).toNat=j:=by rw [seqIndex_neg (by omega) h3] at h1;rw [yV,<- hl];exact Option.some.inj h1
  exact PySem.W.ki_setBack ho (by omega) (by rw [yV,<- hl];exact h3) (by omega) (by rw [hk];exact ⟨_,I',q⟩)
def k6:V->Bool
 | .non=>true
 | .bl _=>true
 | .int _=>true
 | .str _=>true
 |_=>false
def m7:V->V->Bool
 | .non,.non=>true
 | .bl a,.bl b=>a==b
 | .bl a,.int b=>(if a then 1 else 0)==b
 | .int a,.bl b=>a==(if b then 1 else 0)
 | .int a,.int b=>a==b
 | .str a,.str b=>a==b
 |_,_=>false
theorem Zz {s:Shared}(ry:RelV y u)(rx:RelV x v)(fy:k6 y=true)(fx:k6 x=true):SeqAt.EqAt A s u v (m7 y x):=by
 cases y with
 |non =>
  cases ry;cases x with
  |non=>cases rx;exact SeqAt.EqAt.same _
  |bl b=>cases rx;exact SeqAt.EqAt.none_bool b
  |int b=>obtain ⟨t,rfl⟩:=rx;exact SeqAt.EqAt.none_int b t
  |str b=>obtain ⟨t,rfl⟩:=rx;exact SeqAt.EqAt.none_str b t
  |_=>exact absurd (show false=true from fx) yU
 |bl a =>
  cases ry;cases x with
  |non=>cases rx;exact SeqAt.EqAt.bool_none a
  |bl b=>cases rx;exact SeqAt.EqAt.bool_bool a b
  |int b=>obtain ⟨t,rfl⟩:=rx;exact SeqAt.EqAt.bool_int a b t
  |str b=>obtain ⟨t,rfl⟩:=rx;exact SeqAt.EqAt.bool_str a b t
  |_=>exact absurd (show false=true from fx) yU
 |int a =>
  obtain ⟨t',rfl⟩:=ry;cases x with
  |non=>cases rx;exact SeqAt.EqAt.int_none a t'
  |bl b=>cases rx;exact SeqAt.EqAt.int_bool a t' b
  |int b=>obtain ⟨t,rfl⟩:=rx;exact SeqAt.EqAt.int_int a t' b t
  |str b=>obtain ⟨t,rfl⟩:=rx;exact SeqAt.EqAt.int_str a t' b t
  |_=>exact absurd (show false=true from fx) yU
 |str a =>
  obtain ⟨t',rfl⟩:=ry;cases x with
  |non=>cases rx;exact SeqAt.EqAt.str_none a t'
  |bl b=>cases rx;exact SeqAt.EqAt.str_bool a t' b
  |int b=>obtain ⟨t,rfl⟩:=rx;exact SeqAt.EqAt.str_int a t' b t
  |str b=>obtain ⟨t,rfl⟩:=rx;exact SeqAt.EqAt.str_str a t' b t
  |_=>exact absurd (show false=true from fx) yU
 |_=>exact absurd (show false=true from fy) yU
def eqU (x:V)(u:Value):Bool:=match u with
 | .none=>m7 .non x
 | .bool b=>m7 (.bl b) x
 | .int i _=>m7 (.int i) x
 | .str z _=>m7 (.str z) x
 |_=>false
theorem ZA (r:RelV y u)(f:k6 y=true):eqU x u=m7 y x:=by
 cases y with
 |non=>cases r;rfl
 |bl b=>cases r;rfl
 |int i=>obtain ⟨t,rfl⟩:=r;rfl
 |str z=>obtain ⟨t,rfl⟩:=r;rfl
 |_=>exact absurd (show false=true from f) yU
theorem wV {x:V}:∀{xs:List V}{us:List Value},Vals xs us->xs.all k6=true->us.any (eqU x)=xs.any λy=>m7 y x
 |_,_,.nil,_=>rfl
 |y::xs,u::us,.cons r t,f=>by
  rw [List.all_cons,ya] at f;rw [List.any_cons,List.any_cons,ZA r f.1,wV t f.2]
theorem wu {A:Around}{s:Shared}{x:V}{v:Value}(rx:RelV x v)(fx:k6 x=true):∀{xs:List V}{us:List Value},Vals xs us->xs.all k6=true->∀ u∈us,SeqAt.EqAt A s u v (eqU x u)
 |_,_,.nil,_=>λu hu=>by cases hu
 |y::xs,u::us,.cons r t,f=>λu' hu=>by
  rw [List.all_cons,ya] at f;rcases yM.mp hu with rfl|hu
  ·rw [ZA r f.1];exact Zz r rx f.1 fx
  ·exact wu rx fx t f.2 u' hu
def inV (x:V)(xs:List V):Bool:=xs.any λy=>m7 y x
def rIn (K:Fg)(neg:Bool):R2:=λx y H Q=>∃ p xs,y = .ref p/\(SqL K H p xs∨SqT K H p xs)/\k6 x=true/\xs.all k6=true/\Q (.bl (if neg then !inV x xs else inV x xs)) H
theorem Md:OpR X (compareOp .In) (rIn X.K false):=by
 intro pins s σ H x y v u Q I rx ry h;obtain ⟨p,xs,rfl,hq,fx,fs,q⟩:=h;cases ry;rcases hq with hq|hq
 ·obtain ⟨its,r,pl,hz⟩:=I.list hq;refine SeqAt.in_listAt (eqU x) pl.isList (λw hw=>wu rx fx r fs w (by simpa using hw)) ⟨.bl _,H,I,rfl,?_⟩;rw [show its.toArray.any (eqU x)=its.any (eqU x) by simp,wV r fs];exact q
 ·obtain ⟨its,r,pl,hz⟩:=I.tuple hq;refine SeqAt.in_tupleAt (eqU x) pl (λw hw=>wu rx fx r fs w (by simpa using hw)) ⟨.bl _,H,I,rfl,?_⟩;rw [show its.toArray.any (eqU x)=its.any (eqU x) by simp,wV r fs];exact q
theorem Mg:OpR X (compareOp .NotIn) (rIn X.K true):=by
 intro pins s σ H x y v u Q I rx ry h;obtain ⟨p,xs,rfl,hq,fx,fs,q⟩:=h;cases ry;rcases hq with hq|hq
 ·obtain ⟨its,r,pl,hz⟩:=I.list hq;refine SeqAt.notIn_listAt (eqU x) pl.isList (λw hw=>wu rx fx r fs w (by simpa using hw)) ⟨.bl _,H,I,rfl,?_⟩;rw [show its.toArray.any (eqU x)=its.any (eqU x) by simp,wV r fs];exact q
 ·obtain ⟨its,r,pl,hz⟩:=I.tuple hq;refine SeqAt.notIn_tupleAt (eqU x) pl (λw hw=>wu rx fx r fs w (by simpa using hw)) ⟨.bl _,H,I,rfl,?_⟩;rw [show its.toArray.any (eqU x)=its.any (eqU x) by simp,wV r fs];exact q
theorem Bx:CallR X (.builtin "len") (λxs H Q=>∃ p ys,xs=[.ref p]/\(SqL X.K H p ys∨SqT X.K H p ys)/\Q (.int ys.length) H):=by
 intro pins s σ H xs us Q I r h;obtain ⟨p,ys,rfl,hq,q⟩:=h;obtain ⟨u,rfl,rx⟩:=zf r;cases rx;have hn:=vd;rcases hq with hq|hq
 ·obtain ⟨its,r',pl,hz⟩:=I.list hq;have hlen:=r'.length;exact Calls.call_len_list pl.isList (by simp only [yV]<;>omega) ⟨.int ys.length,H,I.tok _,⟨s.toks+1,by rw [yV,hlen]⟩,q⟩
 ·obtain ⟨its,r',pl,hz⟩:=I.tuple hq;have hlen:=r'.length;exact len_tuple pl (by simp only [yV]<;>omega) ⟨.int ys.length,H,I.tok _,⟨s.toks+1,by rw [yV,hlen]⟩,q⟩
theorem CallR.or {f:Value}{r r':List V->Hp->VK->Prop}(h:CallR X f r)(h':CallR X f r'):CallR X f (λxs H Q=>r xs H Q∨r' xs H Q):=by
 intro pins s σ H xs us Q I rs q;rcases q with q|q
 ·exact h pins s σ H xs us Q I rs q
 ·exact h' pins s σ H xs us Q I rs q
theorem By:CallR X (.type "list") (λxs H Q=>∃ p ys,xs=[.ref p]/\(SqL X.K H p ys∨SqT X.K H p ys)/\∀ l,H l=none->Q (.ref l) (z8 H l (.lst ys))):=by
 intro pins s σ H xs us Q I r h;obtain ⟨p,ys,rfl,hq,q⟩:=h;obtain ⟨u,rfl,rx⟩:=zf r;cases rx;have fin:∀(its:List Value),Vals ys its->ys.length<=sizeLine->∀(h':Heap)(c':Nat),(∀ b o',s.heap.get? b=some o'->h'.get? b=some o') ->
   h'.get? s.heap.objs.size=some { cls:= .type "list",dict:=none,data:= .seq its.toArray c',slots:=#[] }->EP X pins σ Q (.ref s.heap.objs.size) { s with heap:=h' }:=λits r' hz h' c' kp e =>
  ⟨.ref s.heap.objs.size,_,I.laid (t':=s.toks) kp (yS _) (show ObjOk X.prog X.w _ h' _ (.lst ys) from ⟨hz,its,c',r',e⟩),rfl,q _ (I.hok.fresh (yS _))⟩
 rcases hq with hq|hq
 ·obtain ⟨its,r',pl,hz⟩:=I.list hq;have hlen:=r'.length;obtain ⟨o,ho,hc,n,hd⟩:=pl.isList;exact call_list_seq p (.inl rfl) ho hc hd (λh' c' kp e=>fin its r' hz h' c' kp e) (by simp only [yV]<;>omega)
 ·obtain ⟨its,r',pl,hz⟩:=I.tuple hq;have hlen:=r'.length;obtain ⟨o,ho,hc,n,hd⟩:=pl;exact call_list_seq p (.inr rfl) ho hc hd (λh' c' kp e=>fin its r' hz h' c' kp e) (by simp only [yV]<;>omega)
def tyV (K:Fg)(T:String)(x:V)(H:Hp):Prop:=match x with
 | .str _=>T = "str"
 | .int _=>T = "int"
 | .ref p=>(T = "list"/\∃ xs,SqL K H p xs)∨(T = "tuple"/\∃ o,K.lookup p=some o/\o.cls = .type "tuple"/\o.dict=none) ∨
   (T = "dict"/\((∃ kvs,H p=some (.dK kvs))∨∃ kvs,H p=some (.dT kvs)))∨(T = "set"/\∃ S n,H p=some (.set S n))
 |_=>False
theorem NQ {s:Shared}(I:Inv X pins σ H s)(r:RelV x v)(ty:tyV X.K T x H):s.TypeIs v T/\∀ a,v = .ref a->∃ ob,s.heap.get? a=some ob/\ob.dict=none:=by
 cases x with
 |str z=>obtain ⟨t,rfl⟩:=r;cases (show T = "str" from ty);exact ⟨typeIs_str s z t,λ_ e=>nomatch e⟩
 |int i=>obtain ⟨t,rfl⟩:=r;cases (show T = "int" from ty);exact ⟨typeIs_int s i t,λ_ e=>nomatch e⟩
 |ref p =>
  cases r;rcases ty with ⟨rfl,xs,hq⟩|⟨rfl,o,hk,hc,hd⟩|⟨rfl,hk⟩|⟨rfl,S,n,hk⟩
  ·obtain ⟨its,_,pl,_⟩:=I.list hq;refine ⟨pl.isList.typeIs,λa e=>?_⟩;cases e;obtain ⟨o,n,e,c,hd,_⟩:=pl;exact ⟨o,e,hd⟩
  ·refine ⟨⟨o,I.kIn p o hk,hc⟩,λa e=>?_⟩;cases e;exact ⟨o,I.kIn _ o hk,hd⟩
  ·have z:∃ o,s.heap.get? p=some o/\o.ExactDict:=by
    rcases hk with ⟨kvs,hk⟩|⟨kvs,hk⟩
    ·obtain ⟨_,_,_,_,o,_,_,e,ex,_⟩:=I.hok p _ hk;exact ⟨o,e,ex⟩
    ·obtain ⟨_,_,_,_,o,_,_,e,ex,_⟩:=I.hok p _ hk;exact ⟨o,e,ex⟩
   obtain ⟨o,e,ex⟩:=z;refine ⟨⟨o,e,ex.1⟩,λa e2=>?_⟩;cases e2;exact ⟨o,e,ex.2.1⟩
  ·obtain ⟨o,_,_,_,e,ex,_⟩:=I.hok p _ hk;refine ⟨⟨o,e,ex.1⟩,λa e2=>?_⟩;cases e2;exact ⟨o,e,ex.2.1⟩
 |_=>exact False.elim ty
def tBM (K:Fg)(T:String)(r:V->List V->Hp->VK->Prop)(to:TE)(t:TA):TE:=λσ H Q=>to σ H λx H1=>tyV K T x H1/\t σ H1 λxs H2=>r x xs H2 Q
variable {o e:Expr}{es:List Expr}{to:TE}{t:TA}{name:Str}{apos cpos:Pos}{T id:String}{r:V->List V->Hp->VK->Prop}
theorem pe_bm (pa:PlainAttrs T)(slot:Slot T name id)(hty:typeOf (.builtin id)=pure (.type "method_descriptor"))(hm:MtR X id r)(ho:PE X o to)(ha:PA X (e::es) t)(hbase:attributeBase o name X.env (eval o X.env)=eval o X.env:=by rfl)(hfew:((backTo cpos (starEach (e::es) X.env)).all (λx=>!x.1)&&(backToKw cpos (keywordEach [] X.env)).all (λx=>x.1.isSome)&&decide ((e::es).length+([]:List Keyword).length+(if ([]:List Keyword).isEmpty then 0 else 1)<30))=true:=by rfl)(hline:(apos.endLine==cpos.line)=true:=by rfl)(hs:starEach (e::es) X.env=(false,eval e X.env)::starEach es X.env:=by rfl)(hplain:(backTo cpos (starEach es X.env)).any (·.1)=false:=by rfl):PE X (.Call (.Attribute o name apos) (e::es) [] cpos) (tBM X.K T r to t):=by intro pins s σ H Q I h;refine wpAny_Call_method_late hbase hfew hline rfl (j5 (ho pins s σ H _ I h) λv s1 ⟨x,H1,I1,r1,ty,q1⟩=>?_);obtain ⟨h1,h2⟩:=NQ I1 r1 ty;refine ⟨T,id,pa,slot,hty,h1,h2,?_⟩;have hA:=ha cpos pins s1 σ H1 _ I1 q1;rw [hs] at hA ⊢;refine Calls.callWith_builtin (by show (false || (backTo cpos (starEach es X.env)).any (·.1))=false;rw [hplain]<;>rfl) (Calls.evalArgs_plain ?_);exact j5 hA λus s2 ⟨vs,H2,I2,r2,q2⟩=>hm pins s2 σ H2 x vs v us Q I2 r1 r2 q2
end
def MtM (X:Cx)(id:String)(r:V->List V->Hp->VK->Prop):Prop :=
 ∀(pins:List (Addr×Obj))(s:Shared)(σ:St)(H:Hp)(x:V)(xs:List V)(v:Value)(us:List Value)(Q:VK),Inv X pins σ H s->RelV x v->Vals xs us->r x xs H Q ->
  wpAny (model X.prog X.w) X.A (call (.builtin id) (v::us)) (EP X pins σ Q) X.xe s
theorem Vals.one:∀{x:V}{us:List Value},Vals [x] us->∃ u,us=[u]/\RelV x u
 |_,_,.cons r .nil=>⟨_,rfl,r⟩
theorem Vals.two:∀{x y:V}{us:List Value},Vals [x,y] us->∃ u v,us=[u,v]/\RelV x u/\RelV y v
 |_,_,_,.cons r (.cons q .nil)=>⟨_,_,rfl,r,q⟩
theorem Vals.eraseIdx:∀{xs:List V}{us:List Value}(i:Nat),Vals xs us->Vals (xs.eraseIdx i) (us.eraseIdx i)
 |_,_,_,.nil=> .nil
 |_,_,0,.cons _ t=>t
 |_,_,i+1,.cons r t=> .cons r (Vals.eraseIdx i t)
theorem Vals.rep {xs:List V}{us:List Value}(h:Vals xs us):∀ k:Nat,Vals (List.replicate k xs).flatten (List.replicate k us).flatten
 |0=> .nil
 |k+1=>by
  rw [uO,uO,yk,yk];exact Vals.append h (Vals.rep h k)
theorem UC {α:Type}:∀(l:List α)(i:Nat),(l.eraseIdx i).length<=l.length
 |[],_=>yS _
 |_::_,0=>uD _
 |_::r,i+1=>Nat.succ_le_succ (UC r i)
theorem Ue (its:List Value):∀(k:Nat)(acc:List Value), List.foldl (λx1 x2=>x1++x2) acc.toArray (List.replicate k its.toArray)=(acc++(List.replicate k its).flatten).toArray
 |0,acc=>by simp
 |k+1,acc=>by
  have e:acc.toArray++its.toArray=(acc++its).toArray:=by simp
  have e2:(acc++its)++(List.replicate k its).flatten=acc++(List.replicate (k+1) its).flatten:=by rw [uO,yk,uS]
  rw [<- e2,<- Ue its k (acc++its),<- e,uO,List.foldl_cons]
section
variable {X:Cx}{pins:List (Addr×Obj)}{σ:St}{H:Hp}{s:Shared}{l b:Addr}{xs ys zs:List V}
theorem Inv.lset {f:Array Value->Array Value}(I:Inv X pins σ H s)(hH:H l=some (.lst xs))(e:s.heap.get? l=some { cls:= .type "list",data:= .seq its.toArray n })(hf:f its.toArray=its'.toArray)(hv:Vals ys its')(hz:ys.length<=sizeLine):Inv X pins σ (z8 H l (.lst ys)) { s with heap:=s.heap.update l (Obj.mapSeq f),toks:=t' }:=by have q:=PySem.IsL.update e f;rw [hf] at q;refine I.write (x:=l) (e:=l) (by rw [hH];exact trivial) (.inl rfl) (λb' u hb hu=>(yf s.heap (Obj.mapSeq f) (Ne.symm hb)).trans hu) ⟨_,q⟩ ?_;exact ⟨hz,its',_,hv,q⟩
theorem Inv.lnew (I:Inv X pins σ H s)(hv:Vals ys its)(hz:ys.length<=sizeLine):Inv X pins σ (z8 H s.heap.objs.size (.lst ys)) { s with heap:=s.heap.push { cls:= .type "list",data:= .seq its.toArray },toks:=t' } :=
 I.laid (λ_ _ q=>yW _ q) (yS _) ⟨hz,its,0,hv,yy _ rfl⟩
theorem Inv.fresh (I:Inv X pins σ H s):H s.heap.objs.size=none:=I.hok.fresh (yS _)
theorem Inv.lstM (I:Inv X pins σ H s)(hH:H l=some (.lst xs)):xs.length<=sizeLine/\∃ (its:List Value) (n:Nat),Vals xs its/\xs.length=its.length/\s.heap.get? l=some { cls:= .type "list",data:= .seq its.toArray n }:=by obtain ⟨z,its,n,r,e⟩:=I.hok l _ hH;exact ⟨z,its,n,r,r.length,e⟩
theorem CU (h:n<=sizeLine):Builtin.List.listTooLong n=false:=by unfold Builtin.List.listTooLong;exact yH (by omega)
end
section
variable {X:Cx}
def Zc:V->List V->Hp->VK->Prop:=λx vs H Q=>∃ l xs y,x = .ref l/\vs=[y]/\H l=some (.lst xs)/\xs.length<sizeLine/\Q .non (z8 H l (.lst (xs++[y])))
theorem vk:MtM X "list.append" Zc:=by intro pins s σ H x vs v us Q I rx rv h;obtain ⟨l,xs,y,rfl,rfl,hH,hz,q⟩:=h;cases rx;obtain ⟨u,rfl,ru⟩:=rv.one;obtain ⟨z,its,n,r,hl,e⟩:=I.lstM hH;refine call_meets F.slot_list_append ⟨_,e,rfl⟩ F.entry_list_append (F.args_list_append_2 _ _) (PySem.list_append l its.toArray n u (by rw [yV];omega)) ⟨e,?_⟩;refine ⟨.non,_,I.lset (its':=its++[u]) hH e (by simp) (r.append (.cons ru .nil)) ?_,rfl,q⟩;rw [yL,List.length_singleton];omega
def GC:V->List V->Hp->VK->Prop:=λx vs H Q=>∃ l xs i k y,x = .ref l/\vs=[.int i]/\H l=some (.lst xs)/\-(2 ^ 63)<=i/\i<2 ^ 63/\seqIndex? i xs.length=some k/\xs[k]?=some y/\Q y (z8 H l (.lst (xs.eraseIdx k)))
theorem UQ:MtM X "list.pop" GC:=by
 intro pins s σ H x vs v us Q I rx rv h;obtain ⟨l,xs,i,k,y,rfl,rfl,hH,h1,h2,hk,hy,q⟩:=h;cases rx;obtain ⟨u,rfl,ru⟩:=rv.one;obtain ⟨t,rfl⟩:=ru;obtain ⟨z,its,n,r,hl,e⟩:=I.lstM hH;obtain ⟨w,hw,rw'⟩:=r.get hy;refine call_meets F.slot_list_pop ⟨_,e,rfl⟩ F.entry_list_pop (F.args_list_pop_2 _ _)
  (MeetsSeq.list_pop_at l its.toArray n i t k w (fitsIndex_both h1 h2) (by rw [yV,<- hl];exact hk) (by rw [<- Array.getElem?_toList];exact hw) (by rw [yV];omega)) ⟨e,?_⟩
 refine ⟨y,_,I.lset (its':=its.eraseIdx k) hH e ?_ (r.eraseIdx k) ?_,rw',q⟩
 ·show its.toArray.eraseIdxIfInBounds k=(its.eraseIdx k).toArray;rw [List.eraseIdxIfInBounds_toArray]
 ·have:=UC xs k;omega
def rRep:R2:=λx y H Q=>∃ l k xs,x = .ref l/\y = .int k/\H l=some (.lst xs)/\-(2 ^ 63)<=k/\k<2 ^ 63/\xs.length*k.toNat<=sizeLine /\
 ∀ p,H p=none->Q (.ref p) (z8 H p (.lst (List.replicate k.toNat xs).flatten))
theorem Cz (xs:List α)(k:Nat):(List.replicate k xs).flatten.length=k*xs.length:=by
 induction k with
 |zero=>simp
 |succ k ih=>rw [uO,yk,yL,ih,Nat.succ_mul,Nat.add_comm]
theorem Mm:OpR X (binaryOp .Mult) rRep:=by
 intro pins s σ H x y v u Q I rx ry h;obtain ⟨l,k,xs,rfl,rfl,hH,h1,h2,hz,q⟩:=h;cases rx;obtain ⟨t,rfl⟩:=ry;obtain ⟨z,its,n,r,hl,e⟩:=I.lstM hH;have hlen:its.toArray.size*k.toNat<=sizeLine:=by rw [yV,<- hl];exact hz
 have hcap:¬ its.toArray.size*k.toNat > (2 ^ 63-1) / 8:=by
  have:(sizeLine:Nat)<=(2 ^ 63-1) / 8:=by decide
  omega
 have hfit:¬ (!Builtin.List.listFitsIndex k)=true:=by rw [fitsIndex_both h1 h2];exact yU
 have hlong:¬ Builtin.List.listTooLong (its.toArray.size*k.toNat)=true:=by rw [CU hlen];exact yU
 have hnew:List.foldl (λx1 x2=>x1++x2) #[] (List.replicate (if its.toArray.isEmpty=true then 0 else k.toNat) its.toArray)=(List.replicate k.toNat its).flatten.toArray:=by
  have f0:∀ m:Nat,List.foldl (λx1 x2=>x1++x2) #[] (List.replicate m its.toArray)=(List.replicate m its).flatten.toArray:=λm=>by
   have:=Ue its m [];rw [List.nil_append] at this;exact this
  rw [f0];cases its with
  |nil=>simp
  |cons a r'=>rw [if_neg (by simp)]
 refine wpAny_binaryOp_repeat_ref (T:="list") (U:="int") (by decide) ⟨_,e,rfl⟩ (λs'=>typeIs_int s' k t) noFill_list_mul F.fills_int_mul F.slot_int_rmul repeat_list F.slot_int_index.lookup
  (call_meets F.slot_int_rmul (typeIs_int s k t) F.entry_int_rmul (F.args_int_rmul_2 _ _) (int___rmul___int_list k t l its.toArray n)
   ⟨e,rfl,⟨_,e,rfl⟩,call_meets F.slot_list_mul ⟨_,e,rfl⟩ F.entry_list_mul (F.args_list_mul_2 _ _) (AutoListH.list___mul___list_int_3 l its.toArray n k t hfit hcap hlong) ⟨e,?_⟩⟩)
 rw [hnew];exact ⟨.ref _,_,I.lnew (t':=s.toks) (r.rep k.toNat) (by rw [Cz,Nat.mul_comm];exact hz),rfl,q _ I.fresh⟩
end
section
variable {κ:Type}[DecidableEq κ]
def o5 (kvs:List (κ×V))(k:κ):Option V:=(kvs.find? λkv=>decide (kv.1=k)).map (·.2)
def zc (kvs:List (κ×V))(k:κ)(v:V):List (κ×V) :=
 if (kvs.any λkv=>decide (kv.1=k))=true then kvs.map (λkv=>if kv.1=k then (kv.1,v) else kv) else kvs++[(k,v)]
theorem VU {p:κ×V}{r:List (κ×V)}{k:κ}(e:p.1=k):o5 (p::r) k=some p.2:=by simp [o5,uP,e]
theorem VT {p:κ×V}{r:List (κ×V)}{k:κ}(e:¬ p.1=k):o5 (p::r) k=o5 r k:=by simp [o5,uP,e]
theorem VS (k:κ):∀ kvs:List (κ×V),(kvs.any λkv=>decide (kv.1=k))=(o5 kvs k).isSome
 |[]=>rfl
 |p::r=>by
  rw [List.any_cons];by_cases e:p.1=k
  ·simp only [VU e,yz e,Bool.true_or,Option.isSome_some]
  ·rw [VT e,yH e,Bool.false_or];exact VS k r
theorem UE (kvs:List (κ×V))(k:κ)(v:V):(zc kvs k v).length<=kvs.length+1:=by
 unfold zc;split
 ·rw [yZ];omega
 ·rw [yL,yC,List.length_nil];omega
theorem RelO.isSome_eq {u:Option Value}(r:RelO o u):o.isSome=u.isSome:=by
 cases o with
 |none=>cases u with
  |none=>rfl
  |some _=>exact (show False from r).elim
 |some _=>cases u with
  |none=>exact (show False from r).elim
  |some _=>rfl
theorem KV.val {kvs:List (κ×V)}{vs:List (κ×Value)}(r:KV kvs vs)(k:κ):RelO (o5 kvs k) (valueAt vs k):=by
 unfold KV at r
 induction r with
 |nil=>exact True.intro
 |@cons p q ps qs h t ih =>
  obtain ⟨h1,h2⟩:=h;by_cases e:p.1=k
  ·have e':q.1=k:=h1.symm.trans e;have b:valueAt (q::qs) k=some q.2:=by simp [valueAt,uP,e']
   rw [VU e,b];exact h2
  ·have e':¬ q.1=k:=λz=>e (h1.trans z);have b:valueAt (q::qs) k=valueAt qs k:=by simp [valueAt,uP,e']
   rw [VT e,b];exact ih
theorem KV.any {kvs:List (κ×V)}{vs:List (κ×Value)}(r:KV kvs vs)(k:κ):(kvs.any λkv=>decide (kv.1=k))=vs.any λkv=>decide (kv.1=k):=by
 unfold KV at r
 induction r with
 |nil=>rfl
 |cons h t ih=>rw [List.any_cons,List.any_cons,ih,h.1]
theorem KV.repl {kvs:List (κ×V)}{vs:List (κ×Value)}(r:KV kvs vs)(k:κ)(ry:RelV y u):KV (kvs.map λkv=>if kv.1=k then (kv.1,y) else kv) (vs.map λkv=>if kv.1=k then (kv.1,u) else kv):=by
 unfold KV at r ⊢
 induction r with
 |nil=>exact .nil
 |@cons p q ps qs h t ih =>
  rw [yK,yK];refine .cons ?_ ih;obtain ⟨h1,h2⟩:=h;by_cases e:p.1=k
  ·rw [if_pos e,if_pos (h1.symm.trans e)];exact ⟨h1,ry⟩
  ·rw [if_neg e,if_neg (λz=>e (h1.trans z))];exact ⟨h1,h2⟩
theorem KV.put {kvs:List (κ×V)}{vs:List (κ×Value)}(r:KV kvs vs)(k:κ)(ry:RelV y u):KV (zc kvs k y) (stored vs k u):=by
 unfold zc stored;rw [r.any k];by_cases e:(vs.any λkv=>decide (kv.1=k))=true
 ·rw [if_pos e,if_pos e];exact r.repl k ry
 ·rw [if_neg e,if_neg e];exact Paired.snoc r ⟨rfl,ry⟩
theorem KV.length {kvs:List (κ×V)}{vs:List (κ×Value)}(r:KV kvs vs):kvs.length=vs.length:=Paired.length r
end
theorem wj {k:j4}(r:RelV (kV k) u):(qz P w).is k u=true:=by
 cases k with
 |inl i=>obtain ⟨t,e⟩:=(show ∃ t,u=Value.int i t from r);subst e;exact CL P w i t
 |inr x=>obtain ⟨t,e⟩:=(show ∃ t,u=Value.str x t from r);subst e;exact Jc P w x t
theorem Uw {P:Program}{w:World}:∀{ks:List j4}{us:List Value},Vals (ks.map kV) us->ItemsAre (qz P w) ks us
 |[],_,r=>by rw [List.map_nil] at r;cases r;exact .nil
 |k::ks,_,r=>by
  rw [yK] at r;cases r with
  |cons h t=>exact .cons (wj h) (Uw t)
abbrev KT (H:Hp):List (List j4×V)->List (List j4×Addr×Value)->Prop:=Paired λp q=>p.1=q.1/\H q.2.1=some (.tup (p.1.map kV))/\RelV p.2 q.2.2
theorem KT.val (r:KT H kvs xs)(k:List j4):RelO (o5 kvs k) ((atKey xs k).map (·.2)):=by
 induction r with
 |nil=>exact True.intro
 |@cons p q ps qs h t ih =>
  obtain ⟨h1,_,h2⟩:=h;by_cases e:p.1=k
  ·have e':q.1=k:=h1.symm.trans e;have b:atKey (q::qs) k=some q.2:=by simp [atKey,uP,e']
   rw [VU e,b];exact h2
  ·have e':¬ q.1=k:=λz=>e (h1.trans z);have b:atKey (q::qs) k=atKey qs k:=by simp [atKey,uP,e']
   rw [VT e,b];exact ih
theorem KT.repl (r:KT H kvs xs)(k:List j4)(ry:RelV y u):KT H (kvs.map λkv=>if kv.1=k then (kv.1,y) else kv) (xs.map (putAt k u)):=by
 induction r with
 |nil=>exact .nil
 |@cons p q ps qs h t ih =>
  rw [yK,yK];refine .cons ?_ ih;obtain ⟨h1,h2,h3⟩:=h;unfold putAt;by_cases e:p.1=k
  ·rw [if_pos e,if_pos (h1.symm.trans e)];exact ⟨h1,h2,ry⟩
  ·rw [if_neg e,if_neg (λz=>e (h1.trans z))];exact ⟨h1,h2,h3⟩
theorem KT.put (r:KT H kvs xs)(k:List j4){b:Addr}(hb:H b=some (.tup (k.map kV)))(ry:RelV y u):KT H (zc kvs k y) (storedH xs k b u):=by
 have e:(kvs.any λkv=>decide (kv.1=k))=(atKey xs k).isSome:=by rw [VS,(r.val k).isSome_eq,Option.isSome_map]
 unfold zc storedH;rw [e];by_cases q:(atKey xs k).isSome=true
 ·rw [if_pos q,if_pos q];exact r.repl k ry
 ·rw [if_neg q,if_neg q];exact Paired.snoc r ⟨rfl,hb,ry⟩
theorem KT.keeps (r:KT H kvs xs)(ht:∀ b ys,H b=some (.tup ys)->H' b=some (.tup ys)):KT H' kvs xs :=
 Paired.mapP r λ_ _ z=>⟨z.1,ht _ _ z.2.1,z.2.2⟩
section
variable {P:Program}{w:World}{H:Hp}{h:Heap}{a:Addr}
theorem GK {u:HO}(ok:HOk P w H h)(e:Rd H a u):ObjOk P w H h a u:=e.ok ok
theorem jW {kvs:List (j4×V)}(ok:HOk P w H h)(e:Rd H a (.dK kvs)):kvs.length<=sizeLine/\(a==sysModules)=false/\∃ vs,KV kvs vs/\h.DictOf (qz P w) a vs :=
 show ObjOk P w H h a (.dK kvs) from GK ok e
theorem dk_of {kvs:List (j4×V)}(ok:HOk P w H h)(e:H a=some (.dK kvs)):kvs.length<=sizeLine/\(a==sysModules)=false/\∃ vs,KV kvs vs/\h.DictOf (qz P w) a vs:=jW ok (.inl e)
theorem Qf {ks:List j4}(ok:HOk P w H h)(e:H a=some (.tup (ks.map kV))):(tupleKind (qz P w)).is h ks a:=by obtain ⟨_,its,r,o,h1,h2,n,h3⟩:=(show ObjOk P w H h a (.tup (ks.map kV)) from ok a _ e);exact ⟨o,its.toArray,n,h1,h2,h3,by simpa using Uw r⟩
theorem wZ (ok:HOk P w H h)(e:Rd H a (.dT kvs)):kvs.length<=sizeLine/\(a==sysModules)=false /\ ∃ xs,KT H kvs xs/\h.DictOfH (tupleKind (qz P w)) a xs:=by
 obtain ⟨z,y,xs,r,o,es,ep,h1,h2,h3,h4,h5⟩:=(show ObjOk P w H h a (.dT kvs) from GK ok e);refine ⟨z,y,xs,r,o,es,ep,h1,h2,h3,h4,λx hx=>?_,h5⟩;have all:∀{l:List (List j4×V)}{m:List (List j4×Addr×Value)},KT H l m->∀ x∈m,(tupleKind (qz P w)).is h x.1 x.2.1:=by
  intro l m q
  induction q with
  |nil=>intro x hx;exact nomatch hx
  |@cons p q ps qs hq t ih =>
   intro x hx;rcases yM.mp hx with e|hx
   ·subst e;exact Qf ok (by rw [<- hq.1];exact hq.2.1)
   ·exact ih x hx
 exact all r x hx
theorem dt_of (ok:HOk P w H h)(e:H a=some (.dT kvs)):kvs.length<=sizeLine/\(a==sysModules)=false /\ ∃ xs,KT H kvs xs/\h.DictOfH (tupleKind (qz P w)) a xs:=wZ ok (.inl e)
end
def DGet (H:Hp)(a:Addr)(y:V)(r:Option V):Prop :=
 (∃ kvs k,Rd H a (.dK kvs)/\y=kV k/\r=o5 kvs k)∨∃ kvs k b,Rd H a (.dT kvs)/\y = .ref b/\H b=some (.tup (k.map kV))/\r=o5 kvs k
def DPut (H:Hp)(a:Addr)(y v:V)(H':Hp):Prop :=
 (∃ kvs k,H a=some (.dK kvs)/\y=kV k/\kvs.length<sizeLine/\H'=z8 H a (.dK (zc kvs k v))) ∨
 ∃ kvs k b,H a=some (.dT kvs)/\y = .ref b/\H b=some (.tup (k.map kV))/\kvs.length<sizeLine/\H'=z8 H a (.dT (zc kvs k v))
theorem DGet.k {kvs:List (j4×V)}{k:j4}(e:H a=some (.dK kvs)):DGet H a (kV k) (o5 kvs k):= .inl ⟨kvs,k,.inl e,rfl,rfl⟩
theorem DPut.k {kvs:List (j4×V)}{k:j4}{v:V}(e:H a=some (.dK kvs))(hl:kvs.length<sizeLine):DPut H a (kV k) v (z8 H a (.dK (zc kvs k v))):= .inl ⟨kvs,k,e,rfl,hl,rfl⟩
section
variable {X:Cx}{pins:List (Addr×Obj)}{σ:St}{H:Hp}{s:Shared}{a:Addr}{y v:V}{u r:Value}{o:Option V}{A:Around}{E:Value->Shared->Prop}
theorem Inv.big (I:Inv X pins σ H s):sysModules<s.heap.objs.size:=by have h:mainGlobals<s.heap.objs.size:=(I.mod.glob.keeps I.bk).lt;exact Nat.lt_trans (by decide) h
theorem BL (hu:A.units+1<cLine)(I:Inv X pins σ H s)(g:DGet H a y (some v))(ry:RelV y u)(h:∀ w' s',Inv X pins σ H s'->RelV v w'->Q w' s'):wpAny (model X.prog X.w) A (getItem (.ref a) u) Q E s:=by
 rcases g with ⟨kvs,k,e,ey,l⟩|⟨kvs,k,b,e,ey,eb,l⟩
 ·subst ey;obtain ⟨z,hd,vs,rel,dd⟩:=jW I.hok e;obtain ⟨w',hw,rw'⟩:=RelO.some_of (v:=v) (o:=valueAt vs k) (by rw [l];exact rel.val k);exact wpAny_getItem_of (wj ry) dd.mapOf hw (h w' _ (I.tok _) rw')
 ·subst ey;cases (show u=Value.ref b from ry);obtain ⟨z,hd,xs,rel,dd⟩:=wZ I.hok e;obtain ⟨w',hw,rw'⟩:=RelO.some_of (v:=v) (o:=(atKey xs k).map (·.2)) (by rw [l];exact rel.val k);obtain ⟨p,hp,hp2⟩:=yJ.mp hw;refine wpAny_getItem_heap (tupleKind_room_in1 hu) (Qf I.hok eb) dd hp ?_;rw [hp2];exact h w' _ (I.tok _) rw'
theorem d_in (hu:A.units+1<cLine)(I:Inv X pins σ H s)(g:DGet H a y o)(ry:RelV y u)(h:∀ s',Inv X pins σ H s'->Q (.bool o.isSome) s'):wpAny (model X.prog X.w) A (compareOp .In u (.ref a)) Q E s:=by
 rcases g with ⟨kvs,k,e,ey,l⟩|⟨kvs,k,b,e,ey,eb,l⟩
 ·subst ey;obtain ⟨z,hd,vs,rel,dd⟩:=jW I.hok e;refine wpAny_in_of (wj ry) hd dd.mapOf ?_;rw [<- (rel.val k).isSome_eq,<- l];exact h _ (I.tok _)
 ·subst ey;cases (show u=Value.ref b from ry);obtain ⟨z,hd,xs,rel,dd⟩:=wZ I.hok e;refine wpAny_in_heap (tupleKind_room_in1 hu) (Qf I.hok eb) hd dd ?_;have q:=(rel.val k).isSome_eq;rw [Option.isSome_map] at q;rw [<- q,<- l];exact h _ (I.tok _)
theorem BM (hu:A.units+1<cLine)(I:Inv X pins σ H s)(g:DGet H a y o)(ry:RelV y u)(h:∀ s',Inv X pins σ H s'->Q (.bool (!o.isSome)) s'):wpAny (model X.prog X.w) A (compareOp .NotIn u (.ref a)) Q E s:=by
 rcases g with ⟨kvs,k,e,ey,l⟩|⟨kvs,k,b,e,ey,eb,l⟩
 ·subst ey;obtain ⟨z,hd,vs,rel,dd⟩:=jW I.hok e;refine wpAny_notIn_of (wj ry) hd dd.mapOf ?_;rw [<- (rel.val k).isSome_eq,<- l];exact h _ (I.tok _)
 ·subst ey;cases (show u=Value.ref b from ry);obtain ⟨z,hd,xs,rel,dd⟩:=wZ I.hok e;refine wpAny_notIn_heap (tupleKind_room_in1 hu) (Qf I.hok eb) hd dd ?_;have q:=(rel.val k).isSome_eq;rw [Option.isSome_map] at q;rw [<- q,<- l];exact h _ (I.tok _)
theorem YL {ob:HO}(I:Inv X pins σ H s)(mu:Mut (H a))(hs:Heap.SameBut a s.heap h')(he:∃ q,h'.get? a=some q)(new:ObjOk X.prog X.w (z8 H a ob) h' a ob):Inv X pins σ (z8 H a ob) { s with heap:=h',toks:=t' } :=
 I.write (x:=a) (e:=a) mu (.inl rfl) (λb q hb z=>(hs.2 b hb).trans z) he new
theorem YN {kvs:List (j4×V)}{vs:List (j4×Value)}(z:kvs.length<=sizeLine)(hd:(a==sysModules)=false)(rel:KV kvs vs)(dd:h'.DictOf (qz P w) a vs):ObjOk P w H' h' a (.dK kvs):=⟨z,hd,vs,rel,dd⟩
theorem BN {Q:Unit->Shared->Prop}(hu:A.units+1<cLine)(I:Inv X pins σ H s)(g:DPut H a y v H')(ry:RelV y u)(rv:RelV v r)(h:∀ s',Inv X pins σ H' s'->Q () s'):wpAny (model X.prog X.w) A (setItem (.ref a) u r) Q E s:=by
 rcases g with ⟨kvs,k,e,ey,l,eH⟩|⟨kvs,k,b,e,ey,eb,l,eH⟩
 ·subst ey eH;obtain ⟨z,hd,vs,rel,dd⟩:=dk_of I.hok e;have hz:vs.length<=sizeLine:=by rw [<- rel.length];exact z
  have hl:(zc kvs k v).length<=sizeLine:=by have:=UE kvs k v;omega
  refine wpAny_setItem_pairs (hsz:=hz) (wj ry) dd λh' dd' hs=>h _ ?_;have he:∃ q,h'.get? a=some q:=let ⟨q,_,_,hq,_⟩:=dd';⟨q,hq⟩
  exact YL I (by rw [e];exact True.intro) hs he (YN hl hd (rel.put k rv) dd')
 ·subst ey eH;cases (show u=Value.ref b from ry);obtain ⟨z,hd,xs,rel,dd⟩:=dt_of I.hok e;have hz:xs.length<=sizeLine:=by rw [<- Paired.length rel];exact z
  have hl:(zc kvs k v).length<=sizeLine:=by have:=UE kvs k v;omega
  refine wpAny_setItem_heap (hsz:=hz) (tupleKind_room_in1 hu) (Qf I.hok eb) dd λh' dd' hs=>h _ ?_;obtain ⟨q,es,ep,hq,h2,h3,h4,_,h5⟩:=dd';refine YL I (by rw [e];exact True.intro) hs ⟨q,hq⟩ ⟨hl,hd,_,(rel.put k eb rv).keeps λc ys ec=>?_,q,es,ep,hq,h2,h3,h4,h5⟩;rw [z9 (ne_of ec e (λz=>nomatch z))];exact ec
end
section
variable {X:Cx}{pins:List (Addr×Obj)}{σ:St}{H:Hp}{s:Shared}{a:Addr}{kvs:List (j4×V)}{k:j4}{u:Value}{A:Around}{E:Value->Shared->Prop}
theorem d_len (I:Inv X pins σ H s)(e:Rd H a (.dK kvs))(h:∀ t s',Inv X pins σ H s'->Q (.int kvs.length t) s'):wpAny (model X.prog X.w) A (call (.builtin "len") [.ref a]) Q E s:=by obtain ⟨z,hd,vs,rel,dd⟩:=jW I.hok e;refine call_len_dict hd dd (by rw [<- rel.length];rw [sizeLine_eq] at z;omega) ?_;rw [<- rel.length];exact h _ _ (I.tok _)
end
def NoSl (i:Expr):Prop:=∀ ov iv,subscripted i false ov iv=operate [ov,iv] (getItem ov iv)
theorem Nx {prog:Program}{E:Value->Shared->Prop}{s:Shared}{env:Env}{value slice:Expr}{pos:Pos}{id:String}(hl:typeLookup (.type T) "__getitem__"=pure (some (.builtin id)))(hs:NoSl slice)(h:wpAny (model prog w) A (eval value env) (λo s₁=>wpAny (model prog w) A (eval slice env) (λi s₂=>s₂.TypeIs o T/\wpAny (model prog w) A (getItem o i) Q E s₂) E s₁) E s):wpAny (model prog w) A (eval (.Subscript value slice pos) env) Q E s:=by
 refine Subscript_ (wpAny_mono h (λo s₁ h₁=>wpAny_mono h₁ (λi s₂ h₂=>?_) λ_ _ x=>x) λ_ _ x=>x);obtain ⟨hT,h₂⟩:=h₂;unfold subscriptTail;refine yY ?_;rw [getitemInPython_of_ne hT.not_modules];refine yY (wpAny_specialOf hT hl ?_);have fin:wpAny (model prog w) A (subscripted slice false o i) (λr s₃=>wpAny (model prog w) A (letTemporaryGo value o r >>= λ_=>pure r) Q E s₃) E s₂:=by rw [hs o i];exact wpAny_operating (wpAny_mono h₂ (λr s₃ h₃=>yY (wpAny_letTemporaryGo (yI h₃))) λ_ _ x=>x)
 first
  |exact yI (yY fin)
  |exact yY (yI (yY fin))
  |exact yY fin
theorem BQ {X:Cx}{s:Shared}(I:Inv X pins σ H s)(g:DGet H a y o):s.TypeIs (.ref a) "dict":=by
 rcases g with ⟨kvs,k,e,_,_⟩|⟨kvs,k,b,e,_,_,_⟩
 ·obtain ⟨_,_,vs,_,dd⟩:=jW I.hok e;exact dd.typeIs
 ·obtain ⟨_,_,xs,_,dd⟩:=wZ I.hok e;exact dd.typeIs
def Kj (td ty:TE):TE:=λσ H Q=>td σ H λx H1=>ty σ H1 λy H2=>∃ a v,x = .ref a/\DGet H2 a y (some v)/\Q v H2
def tDIn (ty td:TE):TE:=λσ H Q=>ty σ H λy H1=>td σ H1 λx H2=>∃ a o,x = .ref a/\DGet H2 a y o/\Q (.bl o.isSome) H2
def Kl (ty td:TE):TE:=λσ H Q=>ty σ H λy H1=>td σ H1 λx H2=>∃ a o,x = .ref a/\DGet H2 a y o/\Q (.bl (!o.isSome)) H2
def GY (td ty tv:TE):TS:=λD σ H=>tv σ H λv H1=>td σ H1 λx H2=>ty σ H2 λy H3=>∃ a H4,x = .ref a/\DPut H3 a y v H4/\D.nx σ H4
section
variable {X:Cx}{o i e value:Expr}{pos pos' tpos:Pos}{td ty tv:TE}
theorem Jn (hu:X.A.units+1<cLine)(ho:PE X o td)(hi:PE X i ty)(hs:NoSl i):PE X (.Subscript o i pos) (Kj td ty):=by intro pins s σ H Q I h;refine Nx PySem.F.slot_dict_getitem.lookup hs (j5 (ho pins s σ H _ I h) λu s1 ⟨x,H1,I1,rx,q1⟩=>j5 (hi pins s1 σ H1 _ I1 q1) λiv s2 ⟨y,H2,I2,ry,a,v,ex,g,q2⟩=>?_);subst ex;obtain rfl:u=Value.ref a:=rx;exact ⟨BQ I2 g,BL hu I2 g ry λw' s3 I3 rw'=>⟨v,H2,I3,rw',q2⟩⟩
theorem Mp (hu:X.A.units+1<cLine)(hi:PE X i ty)(ho:PE X o td):PC X .In i o (tDIn ty td):=by intro pins s σ H Q I h;refine j5 (hi pins s σ H _ I h) λiv s1 ⟨y,H1,I1,ry,q1⟩=>j5 (ho pins s1 σ H1 _ I1 q1) λu s2 ⟨x,H2,I2,rx,a,ov,ex,g,q2⟩=>?_;subst ex;obtain rfl:u=Value.ref a:=rx;exact d_in hu I2 g ry λs3 I3=>⟨.bl ov.isSome,H2,I3,rfl,q2⟩
theorem Mq (hu:X.A.units+1<cLine)(hi:PE X i ty)(ho:PE X o td):PC X .NotIn i o (Kl ty td):=by intro pins s σ H Q I h;refine j5 (hi pins s σ H _ I h) λiv s1 ⟨y,H1,I1,ry,q1⟩=>j5 (ho pins s1 σ H1 _ I1 q1) λu s2 ⟨x,H2,I2,rx,a,ov,ex,g,q2⟩=>?_;subst ex;obtain rfl:u=Value.ref a:=rx;exact BM hu I2 g ry λs3 I3=>⟨.bl (!ov.isSome),H2,I3,rfl,q2⟩
theorem MV (hu:X.A.units+1<cLine)(ho:PE X o td)(hi:PE X i ty)(hv:PE X value tv)(hs:swapsWith value (some (.Subscript o i pos')) pos.line X.env=pure false):PS X (.Assign [.Subscript o i pos'] value pos) (GY td ty tv):=by intro pins s σ H D I h;refine wpAny_Assign_Subscript (j5 (hv pins s σ H _ I h) λr s1 ⟨v,H1,I1,rv,q1⟩=>j5 (ho pins s1 σ H1 _ I1 q1) λu s2 ⟨x,H2,I2,rx,q2⟩=>j5 (hi pins s2 σ H2 _ I2 q2) λiv s3 ⟨y,H3,I3,ry,a,H4,ex,g,q3⟩=>?_) hs;subst ex;obtain rfl:u=Value.ref a:=rx;exact BN hu I3 g ry rv λs4 I4=>⟨σ,H4,I4,q3⟩
end
theorem BS (h:Heap)(hb:sysModules<h.objs.size):ObjOk P w H (h.push { cls:= .type "dict",data:= .dict #[] }) h.objs.size (.dK []) :=
 ⟨uZ _,beq_eq_false_iff_ne.mpr (Ne.symm (yG hb)),[],.nil,Heap.DictOf.new h⟩
def Kk:TE:=λ_ H Q=>∀ p,H p=none->Q (.ref p) (z8 H p (.dK []))
section
variable {X:Cx}{pos:Pos}
theorem Mu:PE X (.Dict [] [] pos) Kk:=λpins s σ H Q I h =>
 wpAny_Dict_empty ⟨.ref s.heap.objs.size,_,I.laid (a:=s.heap.objs.size) (o:= .dK []) (t':=s.toks) (λ_ _ q=>yW _ q) (yS _) (BS s.heap I.big),rfl,h _ (I.hok.fresh (yS _))⟩
end
end L2
namespace Att
open PySem PySem.W PySem.Calls PyProof.Rows
variable{P:Params}{h:Heap}{l:OpenLaw}{n:Nat}
theorem PR :∀(ns:List Int)(vs:List Value),WellAll P h vs (ns.map WData.int)->IntsAre vs ns:=by
 intro ns
 induction ns with
 |nil=>intro vs w;rw [List.map_nil] at w;cases w;exact .nil
 |cons n ns ih =>
  intro vs w;rw [yK] at w;cases w with
  |cons a b=>cases a;exact .cons _ _ (ih _ b)
theorem Nj (hn:l.most=some n){args:List WData}{vals:List Value}(hpre:l.row.toRowW.claim.pre args=true)(hwl:WellAll P h vals args):∃ a vs ns,vals=[Value.ref a]/\args=[WData.list (ns.map WData.int)]/\h.get? a=some { cls:= .type "list",data:= .seq vs.toArray }/\IntsAre vs ns/\ns.length<=n:=by
 have hsh:WShape.hasAll [] args [.list .int]=true:=(pre_splitW hpre).1;have hc:l.pre.holds [] { args:=args }=true:=(pre_splitW hpre).2;obtain ⟨d,r,rfl,h1,h2⟩:=hasAllW_cons hsh;obtain rfl:=hasAllW_nil h2;obtain ⟨xs,rfl,h3⟩:=hasW_list h1;obtain ⟨ns,rfl⟩:=items_int h3;have hlen:ns.length<=n:=by
  unfold OpenLaw.pre at hc;have h4:(WTm.not (.lt (.lit (.int (n:Int))) (.len (.arg 0)))).holds [] { args:=[.list (ns.map .int)] }=true:=by have h4:=(holds_andW hc).1;rw [hn] at h4;exact h4
  have h5:=condW_of h4 (w_not (w_lt w_lit (w_len_list (w_arg rfl))));rw [yZ] at h5;refine Nat.le_of_not_lt λq=>?_;have q':(n:Int)<((ns.length:Nat):Int):=by omega
  first
   |(rw [yz q'] at h5;exact absurd h5 (by decide))
   |(simp at h5;omega)
 cases hwl with
 |cons w1 w2 =>
  cases w2;cases w1 with
  |list ho hall=>exact ⟨_,_,ns,rfl,rfl,ho,PR ns _ hall,hlen⟩
theorem MU (l:OpenLaw)(args:List WData):l.row.toRowW.claim.post args (.bool true) args=true :=
 postW_of (r:=l.row.toRowW) (X:=(true==true))
  (show WShape.has [] (.bool true) .bool=true by first|rfl|decide|simp [WShape.has,WShape.arms,WShape.armsAll])
  (show (WTm.eq .res (.lit (.bool true))).value [] { args:=args,res:=some (.bool true),after:=args }=some (.bool (true==true)) from w_eq_bool (w_res rfl) w_lit) rfl
theorem attach_call {q:Program}{loose:List Str}{XP:(Str->Option Value)->Heap->Prop}{YP:World->Heap->Prop}{d:DefRec}(hn:l.most=some n)(hdf:d.params.defaults=[])(call:∀ (w:World) (s₀ s₁:Shared) (mg mb:Str->Option Value) (fa:Addr) (o:Obj) (pm cd doc:Value) (a:Addr) (vs:List Value) (ns:List Int), Ground q loose [] XP w s₀ mg mb s₁.heap->YP w s₁.heap -> s₁.heap.get? fa=some o->o.data = .func (docDef d.name d.params d.body d.scope pm cd doc)->s₁.heap.CodeRec cd d.name->mg d.name=some (.ref fa) -> s₁.heap.get? a=some { cls:= .type "list",data:= .seq vs.toArray }->IntsAre vs ns->ns.length<=n->s₁.gens=#[] -> codeAny (model l.prog w) callerA (.call (.ref fa) ⟨[.ref a],[]⟩) (λr s'=>r = .ok (.ret (.bool true))/\OldK s₁.heap s'.heap/\s'.os=s₁.os/\AllBare s'.gens) s₁):WalkO q loose XP YP l.row.toRowW d [] (λf vs=>PySem.call f vs):=by intro w s₀ s₁ mg mb G Y fa o pm cd doc dV kV ho hd hcd hD hmg hg args vals as hpre hlay hrd hwl hlo;obtain rfl:dV = .none:=Dflts.none hD hdf;obtain rfl:kV = .none:=Dflts.noKw hD;obtain ⟨a,vs,ns,rfl,rfl,hobj,hints,hlen⟩:=Nj hn hpre hwl;refine enter_call (codeAny_mono (call w s₀ s₁ mg mb fa o pm cd doc a vs ns G Y ho (fd_plain hd) hcd hmg hobj hints hlen hg) λr s' hq=>?_);obtain ⟨rfl,h2,h3,h4⟩:=hq;exact ⟨.inl ⟨.bool true,.bool true,[],rfl,λ_=>rfl,.bool true,MU l _,λ_=>⟨List.Pairwise.nil,λ_ hm=>(nomatch hm)⟩⟩,h2,h3,h4⟩
end Att
namespace L2
open PySem PySem.Spec PyProof.Rows
variable{K:Fg}{a f:Addr}{fd:FuncData}{qual x:Str}{sp:Sp}{n:Nat}{st:Stmt}{ps:List Str}{A B:Prop}{H H':Hp}
theorem KC:∀{vs:List Value}{ns:List Int},IntsAre vs ns->Vals (ns.map V.int) vs
 |_,_,.nil=> .nil
 |_,_,.cons n t h=> .cons ⟨t,rfl⟩ (KC h)
def Only (H:Hp):Prop:=∀ b,H b=none∨(∃ o xs,H b=some (.frz o (.lst xs)))∨∃ p∈TABS,p.1=b/\H b=some (.tbl p.2.1 p.2.2)
structure vS (K:Fg)(h:Heap):Prop where
 at_:∀ p∈TABS,h.get? p.1=some { cls:= .none,data:= .fields p.2.1 }
 tri:∀ p∈TABS,TriplesOk p.2.1.toList
 non:∀ p∈TABS,∀ q∈p.2.2,codeAmong q.1 p.2.1.toList=none
 tab:∀ p∈TABS,isCodeTable h p.1
 one:∀ p∈TABS,∀ q∈TABS,p.1=q.1->p=q
 out:∀ p∈TABS,K.lookup p.1=none
def ze:Hp:=λb=>(TABS.find? λp=>p.1==b).map λp=> .tbl p.2.1 p.2.2
theorem Zh {b:Addr}{u:HO}(h:ze b=some u):∃ p∈TABS,p.1=b/\u = .tbl p.2.1 p.2.2:=by unfold ze at h;obtain ⟨p,e,r⟩:=yJ.mp h;exact ⟨p,List.mem_of_find?_eq_some e,by have:=List.find?_some e;simpa using this,r.symm⟩
theorem Kp {h:Heap}(T:vS K h){p:Addr×Array Value×List (Pos×Str)}(hp:p∈TABS):ze p.1=some (.tbl p.2.1 p.2.2):=by
 unfold ze;cases e:TABS.find? λq=>q.1==p.1 with
 |none=>exact absurd (List.find?_eq_none.mp e p hp) (by simp)
 |some q =>
  have e1:q.1=p.1:=by have:=List.find?_some e;simpa using this
  rw [T.one q (List.mem_of_find?_eq_some e) p hp e1];rfl
theorem Cu {P:Program}{w:World}{mg mb:Str->Option Value}{CX:CXT}{k:Nat}{fa:Addr}{s₁:Shared}{vs:List Value}{ns:List Int}(KX:K.In s₁.heap)(T:vS K s₁.heap)(hns:s₁.heap.Ns mainGlobals mg)(hb:s₁.heap.Ns builtinsNs mb)(hbb:∀ x:Str,x ≠ "__name__"->mb x=bootBuiltins x)(hlim:s₁.heap.NoLimit)(hbm:∃ bm ob,mg "__builtins__"=some (.ref bm)/\bm≠builtinsNs/\s₁.heap.get? bm=some ob/\ob.cls = .type "module"/\ob.dict=some builtinsNs/\ob.data = .plain)(hg:s₁.gens=#[])(ha:s₁.heap.get? a=some { cls:= .type "list",data:= .seq vs.toArray })(hi:IntsAre vs ns)(hl:ns.length<=sizeLine)(hr:Room k callerA)(F:∀ base:Heap,K.In base->base.Ns mainGlobals mg->FnOk P w K mg base CX k fa fd [x] sp)(hbind:∀ (s:Shared) (u:Value),BindsTo s fd ⟨[u],[]⟩ [(x,u)])(hsp:∀ H:Hp,Only H->SqL K H a (ns.map V.int)->sp [.ref a] H (λv _=>v = .bl true) λ_ _ _=>False)(hCX:∀ H e s',CX [] H s₁ (λ_ _ _=>False) e s'->False):codeAny (model P w) callerA (.call (.ref fa) ⟨[.ref a],[]⟩) (λr s'=>r = .ok (.ret (.bool true))/\OldK s₁.heap s'.heap/\s'.os=s₁.os/\AllBare s'.gens) s₁:=by
 have rv:=KC hi;have lenV:=hi.length;have naT:∀ p∈TABS,p.1≠a:=λp hp z=>by
  have e:=T.at_ p hp;rw [z,ha] at e;cases e
 have core:∀ H:Hp,Only H->SqL K H a (ns.map V.int)->HOk P w H s₁.heap->(∀ b,H b≠none->b=a∨∃ p∈TABS,p.1=b)->(∀ b,H b≠none->K.lookup b=none)->(∀ p∈TABS,H p.1=some (.tbl p.2.1 p.2.2)) ->
   codeAny (model P w) callerA (.call (.ref fa) ⟨[.ref a],[]⟩) (λr s'=>r = .ok (.ret (.bool true))/\OldK s₁.heap s'.heap/\s'.os=s₁.os/\AllBare s'.gens) s₁:=by
  intro H hO hS hok hA hK hT;have base_of:∀{b:Addr}{o:Obj},s₁.heap.get? b=some o->H b=none->(zZ s₁.heap H).get? b=some o:=λe n=>Pw e n;have noA:∀{b:Addr}{o:Obj}{es:Array DictEntry}{ep:Nat},s₁.heap.get? b=some o->o.data = .dict es ep->H b=none:=λ{b o es ep} e d=>by
   cases q:H b with
   |none=>rfl
   |some u =>
    rcases hA b (by rw [q];simp) with e'|⟨p,hp,e'⟩
    ·subst e';rw [ha] at e;cases e;have d':Data.seq vs.toArray _=Data.dict es ep:=d;cases d'
    ·subst e';rw [T.at_ p hp] at e;cases e;have d':Data.fields p.2.1=Data.dict es ep:=d;cases d'
  have nsK:∀{b:Addr}{m:Str->Option Value},s₁.heap.Ns b m->(zZ s₁.heap H).Ns b m:=λ{b m} ⟨o,es,ep,e,d,r⟩=>⟨o,es,ep,base_of e (noA e d),d,r⟩;have hKb:K.In (zZ s₁.heap H):=λb o e=>base_of (KX b o e) (by
   cases q:H b with
   |none=>rfl
   |some u=>rw [hK b (by rw [q];simp)] at e;cases e)
  have noP:∀{b:Addr}{o:Obj},s₁.heap.get? b=some o->o.data = .plain->H b=none:=λ{b o} e d=>by
   cases q:H b with
   |none=>rfl
   |some u =>
    rcases hA b (by rw [q];simp) with e'|⟨p,hp,e'⟩
    ·subst e';rw [ha] at e;cases e;have d':Data.seq vs.toArray _=Data.plain:=d;cases d'
    ·subst e';rw [T.at_ p hp] at e;cases e;have d':Data.fields p.2.1=Data.plain:=d;cases d'
  have hM:Mod K mg (zZ s₁.heap H):=⟨hKb,nsK hns,⟨mb,nsK hb,hbb⟩,let ⟨mc,h1,h2⟩:=hlim;⟨mc,nsK h1,h2⟩,let ⟨bm,ob,b1,b2,b3,b4,b5,b6⟩:=hbm;⟨bm,ob,b1,b2,base_of b3 (noP b3 b6),b4,b5,b6⟩⟩;have e0:Env0 P w K mg (zZ s₁.heap H) callerA [] s₁ H:=⟨rfl,hM,λb o e=>CY e,Nat.le_of_eq (Px _ _),trivial,λb hb=>absurd (show b∈([]:List Addr) from hb) (by simp),hok,.of_eq hg,hT⟩;refine codeAny_mono ((F _ hKb (nsK hns)).run callerA [] s₁ H ⟨[.ref a],[]⟩ [.ref a] [.ref a] _ _ hr e0 (hbind s₁ (.ref a)) (.cons rfl .nil) (hsp H hO hS)) λr s' h=>?_;cases r with
  |error e=>exact (hCX H e s' h).elim
  |ok fl =>
   cases fl with
   |next=>exact False.elim h
   |brk=>exact False.elim h
   |cont=>exact False.elim h
   |ret u =>
    obtain ⟨v,H',os,bare,un,hok',r',q⟩:=h;have q':v = .bl true:=q;subst q';obtain rfl:u=Value.bool true:=r';refine ⟨rfl,⟨λb o e=>?_,λb o e=>un.there b o e (by simp)⟩,os,bare⟩;rcases hO b with z|⟨ob,xs,z⟩|⟨p,hp,rfl,z⟩
    ·exact .inl (un.keep b o e z (by intro z;exact absurd (show b∈([]:List Addr) from z) (by simp)) (by simp))
    ·have z2:=un.frzs b ob _ z;obtain ⟨e1,_⟩:=hok b _ z;obtain ⟨e2,_⟩:=hok' b _ z2;rw [e] at e1;cases e1;exact .inl e2
    ·have z2:=un.tbls p.1 _ _ z;obtain ⟨more,e2,_⟩:=hok' p.1 _ z2;rw [T.at_ p hp] at e;cases e;exact .inr (.inl ⟨T.tab p hp,rfl,p.2.1,more,rfl,e2⟩)
 have tok:∀{H:Hp}{p:Addr×Array Value×List (Pos×Str)},p∈TABS->ObjOk P w H s₁.heap p.1 (.tbl p.2.1 p.2.2):=λ{H p} hp =>
  ⟨#[],by rw [Array.append_empty];exact T.at_ p hp,by rw [Array.append_empty];exact T.tri p hp,λq hq=> .inl (by rw [Array.append_empty];exact T.non p hp q hq)⟩
 have only:∀ b,ze b=none∨(∃ o xs,ze b=some (.frz o (.lst xs)))∨∃ p∈TABS,p.1=b/\ze b=some (.tbl p.2.1 p.2.2):=λb=>by
  cases q:ze b with
  |none=>exact .inl rfl
  |some u=>obtain ⟨p,hp,e1,rfl⟩:=Zh q;exact .inr (.inr ⟨p,hp,e1,rfl⟩)
 have mine:∀ b,ze b≠none->∃ p∈TABS,p.1=b:=λb z=>by
  cases q:ze b with
  |none=>exact absurd q z
  |some u=>obtain ⟨p,hp,e1,_⟩:=Zh q;exact ⟨p,hp,e1⟩
 cases hk:K.lookup a with
 |some o =>
  have e:=KX a o hk;rw [ha] at e;cases e;refine core ze only (.inr ⟨_,vs.toArray,_,hk,rfl,rfl,rfl,by rw [yV,lenV];exact hl,by simpa using rv⟩) (λb u z=>?_) (λb z=> .inr (mine b z)) (λb z=>?_) λp hp=>Kp T hp
  ·obtain ⟨p,hp,rfl,rfl⟩:=Zh z;exact tok hp
  ·obtain ⟨p,hp,rfl⟩:=mine b z;exact T.out p hp
 |none =>
  refine core (λb=>if b=a then some (.frz { cls:= .type "list",data:= .seq vs.toArray } (.lst (ns.map V.int))) else ze b) (λb=>?_) (.inl (.inr ⟨{ cls:= .type "list",data:= .seq vs.toArray },if_pos rfl⟩)) (λb u z=>?_) (λb z=>?_) (λb z=>?_) λp hp=>?_
  ·by_cases hb:b=a
   ·exact .inr (.inl ⟨_,_,if_pos hb⟩)
   ·rcases only b with z|⟨o,xs,z⟩|⟨p,hp,e1,z⟩
    ·exact .inl ((if_neg hb).trans z)
    ·exact .inr (.inl ⟨o,xs,(if_neg hb).trans z⟩)
    ·exact .inr (.inr ⟨p,hp,e1,(if_neg hb).trans z⟩)
  ·by_cases hb:b=a
   ·have z':=(if_pos hb).symm.trans z;cases z';subst hb;exact ⟨ha,by rw [yZ];exact hl,vs,_,rv,ha⟩
   ·have z':=(if_neg hb).symm.trans z;obtain ⟨p,hp,rfl,rfl⟩:=Zh z';exact tok hp
  ·by_cases hb:b=a
   ·exact .inl hb
   ·exact .inr (mine b λq=>z ((if_neg hb).trans q))
  ·by_cases hb:b=a
   ·rw [hb];exact hk
   ·obtain ⟨p,hp,rfl⟩:=mine b λq=>z ((if_neg hb).trans q);exact T.out p hp
  ·exact (if_neg (naT p hp)).trans (Kp T hp)
theorem HF {l:PySem.W.OpenLaw}{k:Nat}{q:Program}{loose:List Str}{XP:(Str->Option Value)->Heap->Prop}{YP:World->Heap->Prop}{d:DefRec}{K:Params->Fg}{CX:World->CXT}{sp:World->Sp}(hn:l.most=some n)(hn2:n<=sizeLine)(hdf:d.params.defaults=[])(hr:Room k callerA)(hY:∀(w:World)(h:Heap),YP w h->(K w.params).In h)(F:∀(w:World)(mg:Str->Option Value)(fa:Addr)(h:Heap),YP w h->(K w.params).In h->h.Ns mainGlobals mg->mg d.name=some (.ref fa) -> ∃ fd:FuncData,(∀(s:Shared)(u:Value),BindsTo s fd ⟨[u],[]⟩ [(x,u)])/\vS (K w.params) h /\ ∀ base:Heap,(K w.params).In base->base.Ns mainGlobals mg->FnOk l.prog w (K w.params) mg base (CX w) k fa fd [x] (sp w))(hsp:∀(w:World)(H:Hp)(a:Addr)(ns:List Int),ns.length<=n->Only H->SqL (K w.params) H a (ns.map V.int)->sp w [.ref a] H (λv _=>v = .bl true) λ_ _ _=>False)(hCX:∀(w:World)(H:Hp)(s:Shared)(e:Value)(s':Shared),CX w [] H s (λ_ _ _=>False) e s'->False):PySem.W.WalkO q loose XP YP l.row.toRowW d [] (λf vs=>PySem.call f vs):=by refine Att.attach_call hn hdf λw s₀ s₁ mg mb fa o pm cd doc a vs ns G Y ho hd hcd hmg hobj hints hlen hg=>?_;have KX:=hY w _ Y;obtain ⟨fd,hb,hT,hF⟩:=F w mg fa _ Y KX G.T.g hmg;exact Cu KX hT G.T.g G.T.b G.T.builtins G.T.nolimit G.T.bmain hg hobj hints (yc hlen hn2) hr hF hb (λH hO hS=>hsp w H a ns hlen hO hS) λH e s'=>hCX w H s₁ e s'
def Qd (s:Stmt)(j:Nat):Stmt:=match s with
 | .ClassDef _ _ _ body _ _ _ _ _ _ _=>body.getD j (.Pass ⟨0,0,0,0⟩)
 |_=> .Pass ⟨0,0,0,0⟩
def xK (s:Stmt):Arguments:=match s with
 | .FunctionDef _ a _ _ _ _ _ _ _ _=>a
 |_=>{ posonlyargs:=[],args:=[],vararg:=none,kwonlyargs:=[],kw_defaults:=[],kwarg:=none,defaults:=[] }
def t9 (s:Stmt):List Stmt:=match s with
 | .FunctionDef _ _ b _ _ _ _ _ _ _=>b
 |_=>[]
def j3 (s:Stmt):Scope:=match s with
 | .FunctionDef _ _ _ _ _ _ sc _ _ _=>sc
 |_=>{ kind:= .function,names:=[],isGenerator:=false,isCoroutine:=false }
abbrev v7:CXT:=λ_ _ _ _ _ _=>False
abbrev E0:XK:=λ_ _ _=>False
theorem XO {X:Cx}:jM v7 X E0:=λ_ _ _ _ _ _ _ h=>h.elim
structure Fun (K:Fg)(x qual:Str)(st:Stmt)(f:Addr)(fd:FuncData):Prop where
 ex:∃(oc:Value)(od:Option Addr)(kV doc pm:Value)(an:Option Addr)(cdv ct:Value)(osl:Array (Option Value)),
  fd=PySem.W.fnOf x qual (xK st) (t9 st) (j3 st) .none kV doc pm an cdv ct/\K.lookup f=some ⟨oc,od,.func fd,osl⟩/\PySem.W.codeIn K cdv qual=true
 kp:PySem.W.keepIn K (.ref f)=true
section
variable {P:Program}{w:World}{K:Fg}{mg:Str->Option Value}{base:Heap}
theorem Fun.ok {N:List Str}{k:Nat}(F:Fun K x qual st f fd)(S:w9 N ps (j3 st))(len:∀ vs H Q E,sp vs H Q E->vs.length=ps.length)(hbody:∀(cdv:Value)(A:Around)(outer:List Env)(s:Shared)(H:Hp)(vs:List V)(Q:VK)(E:XK),Room k (A.deeper (envOfC qual (j3 st) s.heap.objs.size f cdv))->sp vs H Q E -> ∃ t,PSs (ql v7 P w K mg base N qual (j3 st) f cdv A outer s H E).nox (t9 st) t/\t { nx:=λ_ H'=>Q .non H',rt:=Q } (start N vs) H):FnOk P w K mg base v7 (k+1) f fd ps sp:=by obtain ⟨oc,od,kV,doc,pm,an,cdv,ct,osl,rfl,lk,hcd⟩:=F.ex;refine ZK lk hcd S len λA outer s H vs Q E hr hsp=>?_;obtain ⟨t,h,q⟩:=hbody cdv A outer s H vs Q E hr hsp;exact ⟨t,h.nox,q⟩
theorem Fun.binds (F:Fun K x qual st f fd)(h:∀(kV doc pm:Value)(an:Option Addr)(cdv ct:Value)(us:List Value),us.length=ps.length->bindArgs (PySem.W.fnOf x qual (xK st) (t9 st) (j3 st) .none kV doc pm an cdv ct) ⟨us,[]⟩=pure (ps.zip us)):Binds K fd ps []:=by obtain ⟨oc,od,kV,doc,pm,an,cdv,ct,osl,rfl,lk,hcd⟩:=F.ex;exact .all (h kV doc pm an cdv ct)
theorem zm {oc:Value}{od an:Option Addr}{osl:Array (Option Value)}{kV doc pm cdv ct:Value}(l:K.lookup f=some ⟨oc,od,.func (PySem.W.fnOf x qual (xK st) (t9 st) (j3 st) .none kV doc pm an cdv ct),osl⟩)(c:PySem.W.codeIn K cdv qual=true)(k:PySem.W.keepIn K (.ref f)=true):Fun K x qual st f (PySem.W.fnOf x qual (xK st) (t9 st) (j3 st) .none kV doc pm an cdv ct):=⟨⟨oc,od,kV,doc,pm,an,cdv,ct,osl,rfl,l,c⟩,k⟩
end
theorem wf {A:Around}{k:Nat}(hr:Room k A):A.units+1<cLine:=Nat.lt_of_le_of_lt (Nat.add_le_add_left (by decide:1<=64) _) hr.units
theorem wE (h:n<=1000):n<sizeLine:=Nat.lt_of_le_of_lt h (by decide)
section
variable {X:Cx}
theorem pv (i:Nat){pos:Pos}(hN:X.N[i]?=some x:=by rfl)(hv:Vis X.env.scope x:=by first|exact Or.inl rfl|exact Or.inr (Or.inl rfl)|exact Or.inr (Or.inr rfl))(hd:(x==("__debug__":Str))=false:=by decide)(hcd:(x==("__classdict__":Str))=false:=by decide):PE X (.Name x pos) (o4 i):=MC hN hv hd hcd
theorem Bu:CallR X (.builtin "len") (λxs H Q=>∃ a kvs,xs=[V.ref a]/\H a=some (.dK kvs)/\Q (.int kvs.length) H):=by intro pins s σ H xs us Q I r h;obtain ⟨a,kvs,rfl,ha,q⟩:=h;obtain ⟨u,rfl,ru⟩:=zf r;cases ru;exact d_len I (.inl ha) λt s' I'=>⟨.int kvs.length,H,I',⟨t,rfl⟩,q⟩
end
theorem xz (h:B):if false=true then A else B:=by rw [if_neg yU];exact h
theorem xC (h:A):if true=true then A else B:=by rw [if_pos rfl];exact h
theorem ite2 {c:Prop}[Decidable c](h1:c->A)(h2:¬ c->B):if c then A else B:=by
 by_cases h:c
 ·rw [if_pos h];exact h1 h
 ·rw [if_neg h];exact h2 h
def Same (H H':Hp):Prop:=∀ b o,H b=some o->H' b=some o
theorem Same.refl (H:Hp):Same H H:=λ_ _ h=>h
theorem Same.trans {H1 H2:Hp}(a:Same H H1)(b:Same H1 H2):Same H H2:=λc o h=>b c o (a c o h)
theorem Same.free (e:Same H H'){l:Addr}(h:H' l=Option.none):H l=Option.none:=by
 cases q:H l with
 |none=>rfl
 |some o=>rw [e l o q] at h;cases h
theorem Same.seq {xs:List V}(e:Same H H')(h:SqL K H a xs):SqL K H' a xs:=by
 rcases h with (h|⟨o,h⟩)|h
 ·exact .inl (.inl (e _ _ h))
 ·exact .inl (.inr ⟨o,e _ _ h⟩)
 ·exact .inr h
end L2
set_option maxHeartbeats 4000000
set_option synthInstance.maxHeartbeats 4000000
set_option synthInstance.maxSize 4096
namespace L2
open PySem PySem.Spec PyProof.Rows
variable{c elt iter tg:Expr}{ifs:List Expr}{scope:Scope}{pos:Pos}{env:Env}{X:Cx}{o:Option V}{σ:St}{g:TG}{tt:TT}{te:TE}{wi:TI}{K:Fg}
section
variable {prog:Program}{w:World}{A:Around}{R:Result->Shared->Prop}{s:Shared}
theorem BH {target:Expr}{it acc:Value}(I:Nat->Shared->Prop)
  (turn:∀ n s,I n s->wpAny (model prog w) A (pyNext it) (λr s₁=>match r with
   |none=>R (.ok .next) s₁
   |some v=>wpAny (model prog w) A (letOwnedTupleGo target it v) (λ_ s₀=>wpAny (model prog w) A (assign target env v) (λ_ s₂ =>
     wpAny (model prog w) A (forIn ifs true λc r=>if r=true then do let ok <- isTrue c env (eval c env);pure (ForInStep.yield ok) else pure (ForInStep.yield r)) (λok s₃ =>
      if ok=true then wpAny (model prog w) A (eval elt env) (λx s₄ =>
       wpAny (model prog w) A (call (.builtin "list.append") [acc,x]) (λ_ s₅=>∃ m,m<n/\I m s₅) (λ_ _=>False) s₄) (λ_ _=>False) s₃
      else ∃ m,m<n/\I m s₃) (λ_ _=>False) s₂) (λ_ _=>False) s₀) (λ_ _=>False) s₁) (λ_ _=>False) s)
  (n:Nat) (h:I n s) :
  codeAny (model prog w) A (.compLoop (.ListComp elt [⟨target,iter,ifs,0⟩] scope pos) 0 it acc env) R s:=by
 refine codeAny_loop rfl I (λn s hI=>?_) n h;show wpAny _ A ((compTurn (.ListComp elt [⟨target,iter,ifs,0⟩] scope pos) 0 it acc env).onRaise (λx=>do noteFrame x env;theTreesLotGoes x)) _ _ s;refine wpAny_noted (wpAny_noRaise ?_);rw [compTurn_list];refine yY (wpAny_standAt (yY (j5 (turn n s hI) λr s₁ h₁=>?_)));cases r with
 |none=>exact yI h₁
 |some v =>
  refine yY (j5 h₁ λ_ s₀ h₀=>?_);refine yY (j5 h₀ λ_ s₂ h₂=>yY (j5 h₂ λok s₃ h₃=>?_));cases ok with
  |false=>exact yI ⟨rfl,h₃⟩
  |true=>exact yY (yY (j5 h₃ λx s₄ h₄=>yY (j5 h₄ λ_ s₅ h₅=>yI (yI ⟨rfl,h₅⟩))))
end
theorem Uf {α β:Type}{f:α->β->Sem (ForInStep β)}(g:α->β->β):∀(l:List α)(b:β),(∀ a∈l,∀ b,f a b=pure (.yield (g a b)))->forIn l b f=(pure (l.foldl (λb a=>g a b) b):Sem β)
 |[],_,_=>rfl
 |x::l,b,h=>by
  rw [List.forIn_cons,h x yQ,pure_bind];exact Uf g l (g x b) λy hy=>h y (yR _ hy)
def zU (env:Env)(y:Str×NameKind)(cs:List (Str×Addr)):List (Str×Addr):=if y.2 == .free then (y.1,(env.cells.lookup y.1).getD 0)::cs else cs
theorem Yz (env:Env):∀(l:List (Str×NameKind))(cs:List (Str×Addr)),(∀ y∈l,y.2 = .free->∃ c,env.cells.lookup y.1=some c)->(∀ x c,cs.lookup x=some c->env.cells.lookup x=some c) -> (∀ x c,(l.foldl (λb a=>zU env a b) cs).lookup x=some c->env.cells.lookup x=some c)
 |[],_,_,h=>h
 |(n,k)::l,cs,hl,h=>by
  refine Yz env l _ (λy hy=>hl y (yR _ hy)) λx c e=>?_;unfold zU at e
  dsimp only at e
  cases hk:(k==NameKind.free) with
  |false=>rw [hk,if_neg yU] at e;exact h x c e
  |true =>
   rw [hk,if_pos rfl] at e;obtain ⟨c0,e0⟩:=hl (n,k) yQ (by simpa using hk);cases hx:x==n with
   |true =>
    rw [uX,hx] at e;have hx':x=n:=by simpa using hx
    subst hx';have e':(List.lookup x env.cells).getD 0=c:=Option.some.inj e;have e0':List.lookup x env.cells=some c0:=e0;rw [e0'] at e';rw [e0',<- e'];rfl
   |false=>rw [uX,hx] at e;exact h x c e
theorem YA (env:Env)(x:Str):∀(l:List (Str×NameKind))(cs:List (Str×Addr)),(∃ c,cs.lookup x=some c)->∃ c,(l.foldl (λb a=>zU env a b) cs).lookup x=some c
 |[],_,h=>h
 |(n,k)::l,cs,h=>by
  refine YA env x l _ ?_;unfold zU
  dsimp only
  split
  ·rw [uX];cases hx:x==n with
   |true=>exact ⟨_,rfl⟩
   |false=>exact h
  ·exact h
theorem Yy (env:Env):∀(l:List (Str×NameKind))(cs:List (Str×Addr)),∀ y∈l,y.2 = .free->∃ c,(l.foldl (λb a=>zU env a b) cs).lookup y.1=some c
 |[],_,_,h,_=>nomatch h
 |z::l,cs,y,h,hf=>by
  rcases yM.mp h with e|h
  ·subst e;refine YA env y.1 l _ ?_;unfold zU
   dsimp only
   rw [hf,if_pos (by rfl),uX,beq_self_eq_true];exact ⟨_,rfl⟩
  ·exact Yy env l _ y h hf
theorem YB (h:∀ y∈scope.names,y.2 = .free->∃ c,env.cells.lookup y.1=some c):∃ cl,closureFor scope env=pure cl/\(∀ x c,cl.lookup x=some c->env.cells.lookup x=some c)/\∀ y∈scope.names,y.2 = .free->∃ c,cl.lookup y.1=some c:=by
 refine ⟨scope.names.foldl (λb a=>zU env a b) [],?_,Yz env _ _ h (λx c e=>by cases e),Yy env _ _⟩;simp only [closureFor];rw [Uf (zU env) scope.names [] (λy hy b=>?_)]
 ·rfl
 ·obtain ⟨n,k⟩:=y;unfold zU;cases hk:(k==NameKind.free) with
  |false=>simp only [hk,uw,if_false]<;>rfl
  |true=>obtain ⟨c,e⟩:=h (n,k) hy (by simpa using hk);have e':List.lookup n env.cells=some c:=e;simp only [hk,if_true,cellOf,e'];rfl
theorem GN (env:Env)(n:Str)(k:NameKind)(r:List (Str×NameKind))(x:Str):((List.map (λ(n,k)=>if (k==NameKind.free&&env.scope.kind == .function&&env.kindOf n==some .cell) then (n,NameKind.cell) else (n,k)) ((n,k)::r)).lookup x) = (if x==n then some (if (k==NameKind.free&&env.scope.kind == .function&&env.kindOf n==some .cell) then NameKind.cell else k) else (List.map (λ(n,k)=>if (k==NameKind.free&&env.scope.kind == .function&&env.kindOf n==some .cell) then (n,NameKind.cell) else (n,k)) r).lookup x):=by
 rw [yK];show List.lookup x ((if (k==NameKind.free&&env.scope.kind == .function&&env.kindOf n==some .cell)=true then (n,NameKind.cell) else (n,k))::_)=_;by_cases hc:(k==NameKind.free&&env.scope.kind == .function&&env.kindOf n==some .cell)=true
 ·rw [if_pos hc,if_pos hc,uX];cases x==n<;>rfl
 ·rw [if_neg hc,if_neg hc,uX];cases x==n<;>rfl
theorem GP {env:Env}{x:Str}{k:NameKind}:∀{names:List (Str×NameKind)}, (names.map λ(n,k)=>if (k==NameKind.free&&env.scope.kind == .function&&env.kindOf n==some .cell) then (n,NameKind.cell) else (n,k)).lookup x=some k -> ∃ k',names.lookup x=some k'/\(k'=k∨(k' = .free/\k = .cell))
 |[],h=>by simp at h
 |(n,q)::r,h=>by
  rw [GN] at h;rw [uX];cases hx:x==n with
  |true =>
   rw [hx,if_pos rfl] at h;have h':=Option.some.inj h;refine ⟨q,rfl,?_⟩;by_cases hc:(q==NameKind.free&&env.scope.kind == .function&&env.kindOf n==some .cell)=true
   ·rw [if_pos hc] at h';have hq:(q==NameKind.free)=true:=by
     cases z:(q==NameKind.free) with
     |true=>rfl
     |false=>rw [z] at hc;simp at hc
    exact .inr ⟨by simpa using hq,h'.symm⟩
   ·rw [if_neg hc] at h';exact .inl h'
  |false=>rw [hx,if_neg yU] at h;exact GP h
theorem GO {env:Env}{x:Str}:∀{names:List (Str×NameKind)},names.lookup x=some .free -> (names.map λ(n,k)=>if (k==NameKind.free&&env.scope.kind == .function&&env.kindOf n==some .cell) then (n,NameKind.cell) else (n,k)).lookup x=some .cell∨(names.map λ(n,k)=>if (k==NameKind.free&&env.scope.kind == .function&&env.kindOf n==some .cell) then (n,NameKind.cell) else (n,k)).lookup x=some .free
 |[],h=>by simp at h
 |(n,q)::r,h=>by
  rw [GN];rw [uX] at h;cases hx:x==n with
  |true =>
   rw [hx] at h;have h':q = .free:=Option.some.inj h;rw [if_pos rfl];by_cases hc:(q==NameKind.free&&env.scope.kind == .function&&env.kindOf n==some .cell)=true
   ·rw [if_pos hc];exact .inl rfl
   ·rw [if_neg hc,h'];exact .inr rfl
  |false=>rw [hx] at h;rw [if_neg yU];exact GO h
def p7 (cap:List (Option Nat))(σ:St):St:=cap.map λo=>o.bind λi=>(σ[i]?).join
structure vG (X:Cx)(N':List Str)(cap:List (Option Nat))(sc:Scope):Prop where
 kind:sc.kind = .function
 nocell:∀ y∈sc.names,y.2 ≠ .cell
 names:∀ y∈sc.names,y.2 = .local->sc.names.lookup y.1=some .local
 free:∀ y∈sc.names,y.2 = .free->X.env.kindOf y.1=some .cell∨X.env.kindOf y.1=some .free
 len:cap.length=N'.length
 cap:∀(j i:Nat),cap[j]?=some (some i)->∃ x,N'[j]?=some x/\X.N[i]?=some x/\sc.names.lookup x=some .free
def UA:Option NameKind->Bool
 |some .cell=>true
 |some .free=>true
 |_=>false
theorem Cr {k:Option NameKind}(h:UA k=true):k=some .cell∨k=some .free:=by
 cases k with
 |none=>cases h
 |some k=>cases k<;>first|exact .inl rfl|exact .inr rfl|cases h
def XI (names:List (Str×NameKind))(kd:Str->Option NameKind)(y:Str×NameKind):Bool :=
 match y.2 with
 | .cell=>false
 | .local=>names.lookup y.1==some .local
 | .free=>UA (kd y.1)
 |_=>true
def zB (N:List Str)(sc:Scope):List Str->List (Option Nat)->Bool
 |[],[]=>true
 |_::r,none::c=>zB N sc r c
 |x::r,some i::c=>N[i]?==some x&&(sc.names.lookup x==some .free&&zB N sc r c)
 |_,_=>false
theorem Zq {N:List Str}{sc:Scope}:∀{xs:List Str}{c:List (Option Nat)},zB N sc xs c=true->c.length=xs.length
 |[],[],_=>rfl
 |_::r,none::c,h=>by
  have h':zB N sc r c=true:=h;simp [Zq h']
 |x::r,some i::c,h=>by
  have h':(N[i]?==some x&&(sc.names.lookup x==some .free&&zB N sc r c))=true:=h;simp only [ya] at h';simp [Zq h'.2.2]
 |[],_::_,h=>by cases h
 |_::_,[],h=>by cases h
theorem Zp {N:List Str}{sc:Scope}:∀{xs:List Str}{c:List (Option Nat)},zB N sc xs c=true->∀(j i:Nat),c[j]?=some (some i)->∃ x,xs[j]?=some x/\N[i]?=some x/\sc.names.lookup x=some .free
 |[],[],_,j,i,e=>by simp at e
 |_::r,none::c,h,0,i,e=>by simp at e
 |_::r,none::c,h,j+1,i,e=>by
  have h':zB N sc r c=true:=h;obtain ⟨x,h1,h2⟩:=Zp h' j i (by simpa using e);exact ⟨x,by simpa using h1,h2⟩
 |x::r,some k::c,h,0,i,e=>by
  have h':(N[k]?==some x&&(sc.names.lookup x==some .free&&zB N sc r c))=true:=h;simp only [ya] at h';have e':k=i:=by simpa using e
  subst e';exact ⟨x,rfl,by simpa using h'.1,by simpa using h'.2.1⟩
 |x::r,some k::c,h,j+1,i,e=>by
  have h':(N[k]?==some x&&(sc.names.lookup x==some .free&&zB N sc r c))=true:=h;simp only [ya] at h';obtain ⟨x',h1,h2⟩:=Zp h'.2.2 j i (by simpa using e);exact ⟨x',by simpa using h1,h2⟩
 |[],_::_,h,_,_,_=>by cases h
 |_::_,[],h,_,_,_=>by cases h
theorem c4 {N':List Str}{cap:List (Option Nat)}{sc:Scope}(h1:sc.kind = .function)(h2:(sc.names.all λy=>XI sc.names X.env.kindOf y)=true)(h3:zB X.N sc N' cap=true):vG X N' cap sc:=by
 have h2':=uU.mp h2;refine ⟨h1,λy hy e=>?_,λy hy e=>?_,λy hy e=>?_,Zq h3,Zp h3⟩
 ·have q:=h2' y hy;unfold XI at q;rw [e] at q;cases q
 ·have q:=h2' y hy;unfold XI at q;rw [e] at q;simpa using q
 ·have q:=h2' y hy;unfold XI at q;rw [e] at q;exact Cr q
def qB (X:Cx)(N':List Str)(sc:Scope)(cl:List (Str×Addr))(C:Addr)(s:Shared)(H:Hp)(fp:List Addr)(pn:List (Addr×Obj)):Cx where
 prog:=X.prog
 w:=X.w
 K:=X.K
 mg:=X.mg
 base:=X.base
 A:=X.A
 N:=N'
 s₀:=s
 H₀:=H
 env:=compEnvC sc cl C X.env
 outer:=X.stack
 stack:=X.stack
 ex:=fp
 fn:=λ_=>false
 calm:=X.calm
 pn:=pn
 xe:=λ_ _=>False
section
variable {X:Cx}{pins:List (Addr×Obj)}{σ:St}{H:Hp}{s:Shared}{h1:Heap}{N':List Str}{cap:List (Option Nat)}{sc:Scope}{cl:List (Str×Addr)}{fp:List Addr}{C D:Addr}
theorem BI (I:Inv X pins σ H s)(S:vG X N' cap sc)(hc1:∀ x c,cl.lookup x=some c->X.env.cells.lookup x=some c)(hc2:∀ y∈sc.names,y.2 = .free->∃ c,cl.lookup y.1=some c)(hf:∀ b∈fp,xg X pins H b)(ho:∀ b∈fp,b<s.heap.objs.size)(hC:s.heap.objs.size<=C):(qB X N' sc cl C s H fp (X.pn++pins)).Ok where
 mod:=I.ok.mod
 kind:=S.kind
 glob:=I.ok.glob
 blt:=I.ok.blt
 above:=hC
 inj:=λx y c e1 e2=>I.ok.inj x y c (hc1 x c e1) (hc1 y c e2)
 has:=λx hx=>by
  have key:∀ k,(relabel sc X.env).names.lookup x=some k->(k = .cell∨k = .free)->∃ c,cl.lookup x=some c:=λk e hk=>by
   obtain ⟨k',e',q⟩:=GP e;have hm:=PySem.mem_of_lookup e';have hfree:k' = .free:=by
    rcases q with q|q
    ·rcases hk with z|z
     ·exact absurd (q.trans z) (S.nocell _ hm)
     ·exact q.trans z
    ·exact q.1
   exact hc2 (x,k') hm hfree
  rcases hx with e|e
  ·exact key _ e (.inl rfl)
  ·exact key _ e (.inr rfl)
 cab:=λx c hx _=>by cases hx
 hd:=I.ok.hd
 frames:=I.ok.frames
 stk:= .inl rfl
 exf:=λb hb=>⟨yG (yB (ho b hb) hC),λx c e=>(hf b hb).2.2.2.2.1 x c (hc1 x c e)⟩
 bs:=I.bs
 bsz:=yc I.ok.bsz I.sz
 noex:=λb o e hb=>by
  rcases (hf b hb).2.2.2.1 with z|z
  ·exact I.ok.noex b o e z
  ·exact absurd (yB (yT e) (yc I.ok.bsz z)) (uY _)
 exfs:=λb hb hz=>by
  rcases yM.mp (I.stkSub b hz) with e|e
  ·exact (hf b hb).2.1 e
  ·exact (hf b hb).2.2.1 e
 funs:=I.stack
 frf:=I.stkFree
 tbs:=λp hp=>I.base.tbls _ _ _ (I.ok.tbs p hp)
theorem PU {m0:Str->Option Value}{o:Obj}(I:Inv X pins σ H s)(S:vG X N' cap sc)(hc1:∀ x c,cl.lookup x=some c->X.env.cells.lookup x=some c)(hc2:∀ y∈sc.names,y.2 = .free->∃ c,cl.lookup y.1=some c)(hf:∀ b∈fp,xg X pins H b)(ho:∀ b∈fp,b<s.heap.objs.size)(hD:s.heap.objs.size<=D)(hC:D<C)(hDo:h1.get? D=some o)(hoc:∀ v,o.data ≠ .cell v)(hns:h1.Ns C m0)(hk:∀ b o,s.heap.get? b=some o->h1.get? b=some o)(t:Nat):Inv (qB X N' sc cl C s H fp (X.pn++pins)) [(D,o)] (p7 cap σ) H { s with heap:=h1,toks:=t }:=by
 have hCs:s.heap.objs.size<=C:=yc hD (uT hC);have lt_s:∀ b o,s.heap.get? b=some o->b≠C:=λb o e=>yG (yB (yT e) hCs);refine ⟨BI I S hc1 hc2 hf ho hCs,rfl,I.bare,Un.kept hk,⟨m0,hns,λj x v e1 e2 e3=>?_⟩,λx c e=>?_,I.hok.fresh hCs,λx c e=>I.freeC x c (hc1 x c e),λp hp=>?_,I.hok.kept hk,?_⟩
 ·obtain ⟨i,hi,hσ⟩:∃ i,cap[j]?=some (some i)/\σ[i]?=some (some v):=by
   unfold p7 at e2;rw [yO] at e2;cases hc:cap[j]? with
   |none=>rw [hc] at e2;cases e2
   |some o' =>
    rw [hc] at e2;have e2':(o'.bind λi=>(σ[i]?).join)=some v:=Option.some.inj e2;cases o' with
    |none=>cases e2'
    |some i =>
     refine ⟨i,rfl,?_⟩;have e3':(σ[i]?).join=some v:=e2';cases hs:σ[i]? with
     |none=>rw [hs] at e3';cases e3'
     |some q=>rw [hs] at e3';exact congrArg some e3'
  obtain ⟨x',n1,n2,n3⟩:=S.cap j i hi;have e1':N'[j]?=some x:=e1;rw [n1] at e1';obtain rfl:x'=x:=Option.some.inj e1';have hkd:=S.free (x',.free) (PySem.mem_of_lookup n3) rfl;obtain ⟨m,_,hl⟩:=I.loc;obtain ⟨u,r,l⟩:=hl i x' v n2 hσ (by
   rcases hkd with z|z
   ·exact .inr (.inl z)
   ·exact .inr (.inr z))
  refine ⟨u,r,?_⟩;rcases l with ⟨l1,_⟩|⟨_,c,ec,hcell⟩
  ·rcases hkd with z|z
   ·exact absurd (l1.symm.trans z) (by simp)
   ·exact absurd (l1.symm.trans z) (by simp)
  ·obtain ⟨c',ec'⟩:=hc2 (x',.free) (PySem.mem_of_lookup n3) rfl;have q:=hc1 x' c' ec';rw [ec] at q;obtain rfl:c=c':=Option.some.inj q;refine .inr ⟨GO n3,c,ec',?_⟩;obtain ⟨oc,hoc',hd⟩:=hcell;exact ⟨oc,hk _ _ hoc',hd⟩
 ·obtain ⟨v,oc,hoc',hd⟩:=I.cell x c (hc1 x c e);exact ⟨v,oc,hk _ _ hoc',hd⟩
 ·rcases yx.mp hp with hp|hp
  ·obtain ⟨e,n,ne,nf,d⟩:=I.pin p hp;refine ⟨hk _ _ e,n,lt_s _ _ e,λhz=>?_,d⟩;rcases yM.mp (I.stkSub _ hz) with e'|e'
   ·exact ne e'
   ·exact nf e'
  ·have e:p=(D,o):=by simpa using hp
   subst e;refine ⟨hDo,I.hok.fresh hD,yG hC,λhz=>?_,hoc⟩;rcases yM.mp (I.stkSub _ hz) with e'|e'
   ·exact absurd (yB I.lt hD) (by rw [show X.env.locals=D from e'.symm];exact uY _)
   ·exact I.nofs hD e'
 ·unfold p7;rw [yZ];exact S.len
end
structure Wk (σ σ':St):Prop where
 len:σ.length=σ'.length
 at':∀(i:Nat) v,σ[i]?=some (some v)->σ'[i]?=some (some v)
theorem Wk.refl (σ:St):Wk σ σ:=⟨rfl,λ_ _ h=>h⟩
theorem Wk.set {σ':St}{i:Nat}(w:Wk σ σ')(h:σ[i]?=some none):Wk σ (σ'.set i o):=by
 refine ⟨by rw [yn];exact w.len,λj v e=>?_⟩;have ne:i≠j:=λz=>by rw [<- z,h] at e;cases e
 rw [yq ne];exact w.at' j v e
theorem Wk.one {i:Nat}(h:σ[i]?=some none):Wk σ (σ.set i o):=(Wk.refl σ).set h
def PTs (X:Cx)(ifs:List Expr)(t:TT):Prop :=
 ∀(pins:List (Addr×Obj))(s:Shared)(σ:St)(H:Hp)(Q:Bool->Hp->Prop),Inv X pins σ H s->t σ H Q ->
  wpAny (model X.prog X.w) X.A (forIn ifs true λc r=>if r=true then do let ok <- isTrue c X.env (eval c X.env);pure (ForInStep.yield ok) else pure (ForInStep.yield r)) (TP X pins σ Q) X.xe s
def tYes:TT:=λ_ H Q=>Q true H
theorem i5 :PTs X [] tYes:=λ_ _ _ H _ I h=>wpAny_tests_nil ⟨H,I,h⟩
theorem vx {t:TT}(h:PT X c t):PTs X [c] t:=λpins s σ H Q I q=>wpAny_tests_one (h pins s σ H Q I q)
def VZ (J:It)(g:TG)(tt:TT)(te:TE)(Q:VK)(σ0:St)(H1:Hp):Prop:=∃ W:Nat->Nat->List V->Hp->Prop,(∃ m,W 0 m [] H1)/\∀ i m ys H,W i m ys H->ys.length<=sizeLine /\
  ((J.stop i H/\∀ D,H D=none->Q (.ref D) (z8 H D (.lst ys))) ∨
   (J.go i H/\∀ x H',J.yld i H x H'->g x σ0 H' λσ2 H2=>Wk σ0 σ2/\tt σ2 H2 λb H3 =>
      if b=true then te σ2 H3 λv H4=>∃ m',m'<m/\W (i+1) m' (ys++[v]) H4 else ∃ m',m'<m/\W (i+1) m' ys H3))
def wH (wi:TI)(g:TG)(tt:TT)(te:TE)(cap:List (Option Nat)):TE:=λσ H Q=>wi σ H λJ H1=>VZ J g tt te Q (p7 cap σ) H1
section
variable {X:Cx}{pins:List (Addr×Obj)}{σ:St}{s₂:Shared}{N':List Str}{cap:List (Option Nat)}{sc:Scope}{cl:List (Str×Addr)}{fp:List Addr}
theorem YC {Q:VK}{H2:Hp}{it:Addr}{tn:Nat->Heap->Prop}{J:It}{E:Value->Shared->Prop}{RR:Value->Addr->Result->Shared->Prop}(S:vG X N' cap sc)(hc:X.calm=true)(hc1:∀ x c,cl.lookup x=some c->X.env.cells.lookup x=some c)(hc2:∀ y∈sc.names,y.2 = .free->∃ c,cl.lookup y.1=some c)(hg:∀ C pn,PG (qB X N' sc cl C s₂ H2 fp pn) tg g)(ht:∀ C pn,PTs (qB X N' sc cl C s₂ H2 fp pn) ifs tt)(he:∀ C pn,PE (qB X N' sc cl C s₂ H2 fp pn) elt te)(I2:Inv X pins σ H2 s₂)(T:jn X.prog X.w X.K tg J fp it tn)(st2:tn 0 s₂.heap)(f2:∀ b∈fp,xg X pins H2 b)(W:Nat->Nat->List V->Hp->Prop)(w0:∃ m,W 0 m [] H2)(turn:∀ i m ys H,W i m ys H->ys.length<=sizeLine /\ ((J.stop i H/\∀ D,H D=none->Q (.ref D) (z8 H D (.lst ys)))∨(J.go i H/\∀ x H',J.yld i H x H'->g x (p7 cap σ) H' λσ2 H2=>Wk (p7 cap σ) σ2/\tt σ2 H2 λb H3 => if b=true then te σ2 H3 λv H4=>∃ m',m'<m/\W (i+1) m' (ys++[v]) H4 else ∃ m',m'<m/\W (i+1) m' ys H3)))(hRR:∀ D C H' s' m,Inv X pins σ H' s'->s'.heap.Ns C m->xg X pins H' C->Q (.ref D) H'->RR (.ref D) C (.ok .next) s'):wpAny (model X.prog X.w) X.A (newList []) (λacc s₃=>wpAny (model X.prog X.w) X.A (newFunctionEnv sc X.env.globals cl [] X.env.qual none .none (some X.env)) (λcenv s₄ => codeAny (model X.prog X.w) X.A (.compStart (.ListComp elt [⟨tg,iter,ifs,0⟩] sc pos) 0 (.ref it) acc { cenv with scope:=relabel sc X.env }) (RR acc cenv.locals) s₄) E s₃) E s₂:=by
  refine wpAny_newObj_type (wpAny_newFunctionEnv S.nocell (by intro y hy;simp at hy) (λh₁ hns₁ hsb₁=>?_) S.kind)
  dsimp only at hns₁ hsb₁ ⊢
  generalize hG:s₂.heap.push { cls:= .type "list",dict:=none,data:= .seq ([]:List Value).toArray }=G at hns₁ hsb₁ ⊢;have hC:G.objs.size=s₂.heap.objs.size+1:=by rw [<- hG,uL]
  have hDC:s₂.heap.objs.size<G.objs.size:=by rw [hC];exact uF _
  have old:∀ b o,s₂.heap.get? b=some o->h₁.get? b=some o:=λb o e =>
    hsb₁.extBut b o (yG (Nat.lt_trans (yT e) hDC)) (yW _ (hG▸yW _ e))
  have hacc:h₁.get? s₂.heap.objs.size=some (LCg.lst []):=hsb₁.extBut _ _ (yG hDC) (yW _ (hG▸yy _ rfl));have fl:∀ b∈fp,b<s₂.heap.objs.size:=λb hb=>by obtain ⟨o,e,_⟩:=T.obj _ _ st2 b hb;exact yT e
  have seqd:∀(us:List Value) v,(LCg.lst us).data ≠ .cell v:=λus v z=>by cases z
  have cellt:∀ x c,cl.lookup x=some c->c<s₂.heap.objs.size:=λx c e=>by obtain ⟨v,oc,ho,_⟩:=I2.cell x c (hc1 x c e);exact yT ho
  have pint:∀ p∈X.pn++pins,p.1<s₂.heap.objs.size:=λp hp=>yT (I2.pin p hp).1;have I0:Inv (qB X N' sc cl G.objs.size s₂ H2 fp (X.pn++pins)) [(s₂.heap.objs.size,LCg.lst [])] (p7 cap σ) H2 { s₂ with heap:=h₁,toks:=s₂.toks+([]:List (Str×Value)).length } :=
    PU I2 S hc1 hc2 f2 fl (yS _) hDC hacc (seqd []) hns₁ old _
  have stat:∀{H':Hp}{us:List Value},(∀ b∈fp,H' b=none)->∀ b∈fp,xg (qB X N' sc cl G.objs.size s₂ H2 fp (X.pn++pins)) [(s₂.heap.objs.size,LCg.lst us)] H' b:=λ{H' us} hn b hb=>by
    obtain ⟨f0,f1,f2',f3,f4,f5⟩:=f2 b hb;refine ⟨hn b hb,yG (Nat.lt_trans (fl b hb) hDC),λhz=>?_,.inl hb,λx c e=>f4 x c (hc1 x c e),λp hp=>?_⟩
    · rcases yM.mp (I2.stkSub b hz) with e|e
      · exact f1 e
      · exact f2' e
    · rcases yx.mp hp with hp|hp
      · exact f5 p hp
      · have e:p=(s₂.heap.objs.size,LCg.lst us):=by simpa using hp
        rw [e];exact Ne.symm (yG (fl b hb))
  have loop:∀ s₃:Shared,s₃={ s₂ with heap:=h₁,toks:=s₂.toks+([]:List (Str×Value)).length } ->
      codeAny (model X.prog X.w) X.A (.compLoop (.ListComp elt [⟨tg,iter,ifs,0⟩] sc pos) 0 (.ref it) (.ref s₂.heap.objs.size) (compEnvC sc cl G.objs.size X.env)) (RR (.ref s₂.heap.objs.size) G.objs.size) s₃:=by
    rintro s₃ rfl;obtain ⟨m0,w0⟩:=w0;refine BH
      (λn s'=>∃ i ys us H',Inv (qB X N' sc cl G.objs.size s₂ H2 fp (X.pn++pins)) [(s₂.heap.objs.size,LCg.lst us)] (p7 cap σ) H' s'/\Vals ys us/\tn i s'.heap/\(∀ b∈fp,H' b=none)/\W i n ys H') ?_ m0
      ⟨0,[],[],H2,I0,.nil,T.keep _ _ _ st2 λb _ o e=>old b o e,λb hb=>(f2 b hb).1,w0⟩
    rintro n s3 ⟨i,ys,us,H3,I3,rv,st3,fr3,w3⟩;obtain ⟨hz,alt⟩:=turn i n ys H3 w3;rcases alt with ⟨stop,fin⟩|⟨go,step⟩
    · refine j5 (T.done (qB X N' sc cl G.objs.size s₂ H2 fp (X.pn++pins)) rfl rfl rfl hc i _ s3 _ H3 _ I3 (stat fr3) st3 stop) λr s4 ⟨hr,I4⟩=>?_
      subst hr;obtain ⟨gD,nD,_,_,_⟩:=I4.pin (s₂.heap.objs.size,LCg.lst us) (yv _ (yP.mpr rfl));have nD':H3 s₂.heap.objs.size=none:=nD;have gD':s4.heap.get? s₂.heap.objs.size=some (LCg.lst us):=gD;have b4:Un (c6 X.stack) fp H2 H3 s₂.heap s4.heap:=I4.base;have n2:H2 s₂.heap.objs.size=none:=I2.hok.fresh (yS _);have un:Un (c6 X.stack) fp H2 (z8 H3 s₂.heap.objs.size (.lst ys)) s₂.heap s4.heap :=
        ⟨b4.keep,b4.slot,λb o e n hx=>by rw [z9 (yG (yT e))];exact b4.free b o e n hx,b4.there,
          λb xs e=>by rw [z9 (p5 e n2)];exact b4.tups b xs e,λb o u e=>by rw [z9 (p5 e n2)];exact b4.frzs b o u e,
          λb ps q e=>by rw [z9 (p5 e n2)];exact b4.tbls b ps q e⟩
      have hok:HOk X.prog X.w (z8 H3 s₂.heap.objs.size (.lst ys)) s4.heap:=λb u e=>by
        by_cases hb:b=s₂.heap.objs.size
        · subst hb
          rw [y7] at e;cases e;exact ⟨hz,us,us.length,rv,gD'⟩
        · rw [z9 hb] at e
          exact (I4.hok b u e).stay (λc v _ q=>q) (λc q=>by rw [z9 (p5 q nD')];exact q) (λc xs q=>by rw [z9 (p5 q nD')];exact q) λc _ _ q=>by rw [z9 (p5 q nD')];exact q
      have IF:Inv X pins σ (z8 H3 s₂.heap.objs.size (.lst ys)) s4:=I2.call' (ch:=fp) I4.os un hok I4.bare λb hb=>by
        obtain ⟨f0,f1,f2',f3,f4,f5⟩:=f2 b hb;exact ⟨f3,f1,f4,f5⟩
      obtain ⟨mF,hnF,_⟩:=I4.loc;refine hRR _ _ _ _ mF IF hnF (I2.fpOk (uT hDC) ?_) (fin _ nD');rw [z9 (Ne.symm (yG hDC))];exact I4.free
    · refine j5 (T.item (qB X N' sc cl G.objs.size s₂ H2 fp (X.pn++pins)) rfl rfl rfl hc i _ s3 _ H3 _ I3 (stat fr3) st3 go) λr s4 ⟨u,hr,h4⟩=>?_
      subst hr;refine j5 h4 λ_ s5 ⟨x,H5,I5,r5,y5,st5,fr5⟩=>?_;have I5':=I5.pinned (stat fr5) (T.obj _ _ st5);refine j5 (hg G.objs.size (X.pn++pins) _ s5 _ H5 x u _ I5' r5 (step x H5 y5)) λ_ s6 ⟨σ6,H6,I6,wk,q6⟩=>?_;refine j5 (ht G.objs.size (X.pn++pins) _ s6 σ6 H6 _ I6 q6) λok s7 ⟨H7,I7,q7⟩=>?_;have back:∀{σ8:St}{H8:Hp}{s8:Shared}{us8:List Value},Inv (qB X N' sc cl G.objs.size s₂ H2 fp (X.pn++pins)) ([(s₂.heap.objs.size,LCg.lst us8)]++Qz fp s5.heap) σ8 H8 s8 ->
          tn (i+1) s8.heap/\∀ b∈fp,H8 b=none:=λ{σ8 H8 s8 us8} I8=>by
        refine ⟨T.keep _ _ _ st5 λb hb o e=>(I8.pin (b,o) (yv _ (yv _ (XH hb e)))).1,λb hb=>?_⟩;obtain ⟨o,e,d⟩:=T.obj _ _ st5 b hb;exact (I8.pin (b,o) (yv _ (yv _ (XH hb e)))).2.1
      cases ok with
      |false=>obtain ⟨m',hm,w7⟩:=q7;obtain ⟨t7,f7⟩:=back I7;exact ⟨m',hm,i+1,ys,us,H7,I7.unpinned.weak wk.len wk.at',rv,t7,f7,w7⟩
      |true =>
        refine j5 (he G.objs.size (X.pn++pins) _ s7 σ6 H7 _ I7 q7) λuv s8 ⟨v,H8,I8,r8,m',hm,w8⟩=>?_;obtain ⟨t8,f8⟩:=back I8;obtain ⟨gD,nD,lD,fD,_⟩:=I8.pin (s₂.heap.objs.size,LCg.lst us) (yv _ (yg _ (yP.mpr rfl)));have gD':s8.heap.get? s₂.heap.objs.size=some { cls:= .type "list",data:= .seq us.toArray us.length }:=gD;refine append_at (hsz:=by rw [yV,<- rv.length];exact hz) gD' λh9 hs9 hD9=>?_;have I8a:Inv (qB X N' sc cl G.objs.size s₂ H2 fp (X.pn++pins)) [] σ6 H8 s8:=I8.pins_of λp hp=>nomatch hp;have I9:Inv (qB X N' sc cl G.objs.size s₂ H2 fp (X.pn++pins)) [] σ6 H8 { s8 with heap:=h9,toks:=s8.toks } :=
          I8a.turned (it:=s₂.heap.objs.size) (λb o hb e=>hs9.extBut b o hb e) nD lD (.inr (yS _)) (λx c e=>yG (cellt x c e)) λp hp=>by
            rw [yo] at hp;exact yG (pint p hp)
        have I10:Inv (qB X N' sc cl G.objs.size s₂ H2 fp (X.pn++pins)) [(s₂.heap.objs.size,LCg.lst (us++[uv]))] σ6 H8 { s8 with heap:=h9,toks:=s8.toks }:=I9.pins_of λp hp=>by
          have e:p=(s₂.heap.objs.size,LCg.lst (us++[uv])):=by simpa using hp
          subst e;exact ⟨hD9.trans (congrArg some (LCg.lst_snoc us uv)),nD,lD,fD,seqd _⟩
        refine ⟨m',hm,i+1,ys++[v],us++[uv],H8,I10.weak wk.len wk.at',rv.append (.cons r8 .nil),T.keep _ _ _ t8 λb hb o e=>hs9.extBut b o (yG (fl b hb)) e,f8,w8⟩
  have st1:tn 0 h₁:=T.keep _ _ _ st2 λb _ o e=>old b o e;exact codeAny_compStart_list (loop _ rfl) (T.self _ 0 _ _ _ st1 (loop _ rfl))
theorem qj (S:vG X N' cap sc)(hc:X.calm=true)(hi:PI X tg iter wi)(hg:∀ cl C s H fp pn,PG (qB X N' sc cl C s H fp pn) tg g)(ht:∀ cl C s H fp pn,PTs (qB X N' sc cl C s H fp pn) ifs tt)(he:∀ cl C s H fp pn,PE (qB X N' sc cl C s H fp pn) elt te)(hs:∀ x,foldedSetIterable iter X.env x=pure x:=by intro _;rfl):PE X (.ListComp elt [⟨tg,iter,ifs,0⟩] sc pos) (wH wi g tt te cap):=by intro pins s σ H Q I h;rw [eval_ListComp];obtain ⟨cl,hcl,hc1,hc2⟩:=YB (scope:=sc) (env:=X.env) λy hy e=>I.ok.has y.1 (S.free y hy e);refine wpAny_comprehension_free (use:=none) rfl hs hcl S.kind S.names (j5 (hi pins s σ H _ I h) λv s1 h1=>j5 h1 λitv s2 h2=>?_);obtain ⟨it,fp,tn,J,H2,e,I2,T,st2,f2,W,w0,turn⟩:=h2;subst e;refine YC (RR:=λacc C=>compPost (model X.prog X.w) X.A X.xe none (EP X pins σ Q) acc C) S hc hc1 hc2 (λC pn=>hg cl C s2 H2 fp pn) (λC pn=>ht cl C s2 H2 fp pn) (λC pn=>he cl C s2 H2 fp pn) I2 T st2 f2 W w0 turn ?_;intro D C H' s' m I' hn F q;obtain ⟨f0,f1,f2',f3,f4,f5⟩:=F;exact ⟨m,hn,λh' hs'=>⟨.ref D,H',I'.turned (t':=s'.toks) (λb o hb e=>hs'.extBut b o hb e) f0 f1 f3 f4 f5,rfl,q⟩⟩
theorem zu {i:Nat}{x:Str}{spos pos':Pos}(S:vG X N' cap sc)(hc:X.calm=true)(hN:X.N.Nodup)(hx:X.N[i]?=some x)(hk:X.env.scope.names.lookup x=some .local)(hi:PI X tg iter wi)
  (hg:∀ cl C s H fp pn,PG (qB X N' sc cl C s H fp pn) tg g) (ht:∀ cl C s H fp pn,PTs (qB X N' sc cl C s H fp pn) ifs tt) (he:∀ cl C s H fp pn,PE (qB X N' sc cl C s H fp pn) elt te)
  (hsw:swapsWith (.ListComp elt [⟨tg,iter,ifs,0⟩] sc pos) (some (.Name x pos')) spos.line X.env=pure true:=by rfl)
  (hs:∀ x,foldedSetIterable iter X.env x=pure x:=by intro _;rfl):PS X (.Assign [.Name x pos'] (.ListComp elt [⟨tg,iter,ifs,0⟩] sc pos) spos) (zx (wH wi g tt te cap) (qQ i)):=by
 intro pins s σ H D I h;rw [exec_Assign_Name_used _ _ _ _ hsw];refine yY (wpAny_standAt (yY ?_));show wpAny _ X.A (do let _ <- comprehension (.ListComp elt [⟨tg,iter,ifs,0⟩] sc pos) sc X.env _ (newList []) false (eval iter X.env) (some (assign (.Name x pos') X.env))) _ _ s;obtain ⟨cl,hcl,hc1,hc2⟩:=YB (scope:=sc) (env:=X.env) λy hy e=>I.ok.has y.1 (S.free y hy e);refine yY (j5 (wpAny_comprehension_free (use:=some (assign (.Name x pos') X.env)) (Q:=λ_ s'=>SP X pins D .next s') rfl hs hcl S.kind S.names
  (j5 (hi pins s σ H _ I h) λv s1 h1=>j5 h1 λitv s2 h2=>?_)) λ_ s' hq=>yI (yI hq))
 obtain ⟨it,fp,tn,J,H2,e,I2,T,st2,f2,W,w0,turn⟩:=h2;subst e;refine YC (Q:=λv H1=>qQ i v σ H1 D.nx) (RR:=λacc C=>compPost (model X.prog X.w) X.A X.xe (some (assign (.Name x pos') X.env)) (λ_ s'=>SP X pins D .next s') acc C) S hc hc1 hc2 (λC pn=>hg cl C s2 H2 fp pn) (λC pn=>ht cl C s2 H2 fp pn) (λC pn=>he cl C s2 H2 fp pn) I2 T st2 f2 W w0 turn ?_;intro E C H' s' m I' hn F q;obtain ⟨f0,f1,f2',f3,f4,f5⟩:=F;show wpAny _ X.A (assign (.Name x pos') X.env (.ref E)) _ _ _;refine wpAny_assign_Name (Kg I' hN hx (.inl hk) (v:= .ref E) rfl (λs'' I'' ch=>?_) (.inr hk));obtain ⟨a,sb,ha⟩:=ch;have nC:C≠a:=by
  rcases ha with z|z
  ·rw [z];exact f1
  ·exact Ne.symm (f4 x a z)
 exact ⟨m,hn.sameBut sb nC,λh' hs'=>⟨_,H',I''.turned (t':=s''.toks) (λb o hb e=>hs'.extBut b o hb e) f0 f1 f3 f4 f5,q⟩⟩
end
section
variable {g:TG}{tt:TT}{te:TE}{Q:VK}{H:Hp}{σ0:St}
theorem YD {a:Addr}{xs:List V}(Pv:Nat->List V->Hp->Prop)(h0:Pv 0 [] H)(hz:∀ i ys H,i<=xs.length->Pv i ys H->ys.length<=sizeLine)(hl:∀ i ys H,i<=xs.length->Pv i ys H->SqL K H a xs)(hs:∀ i x ys H (R:List V->Hp->Prop),xs[i]?=some x->Pv i ys H->(∀ ys' H',Pv (i+1) ys' H'->R ys' H')->g x σ0 H λσ2 H2=>Wk σ0 σ2/\tt σ2 H2 λb H3=>if b=true then te σ2 H3 λv H4=>R (ys++[v]) H4 else R ys H3)(hd:∀ ys H,Pv xs.length ys H->∀ D,H D=none->Q (.ref D) (z8 H D (.lst ys))):VZ (Itl K a) g tt te Q σ0 H:=by
 refine ⟨λi m ys H=>m=xs.length-i/\i<=xs.length/\Pv i ys H,⟨xs.length,by simp,uZ _,h0⟩,?_⟩;rintro i m ys H ⟨rfl,hi,p⟩;have q:=hl i ys H hi p;refine ⟨hz i ys H hi p,?_⟩;by_cases hlt:i<xs.length
 ·refine .inr ⟨⟨xs,xs[i],q,by simp [hlt]⟩,λx H' y=>?_⟩;obtain ⟨e,y⟩:=y;subst e;exact hs i x ys _ (λys' H'=>∃ m',m'<xs.length-i/\m'=xs.length-(i+1)/\i+1<=xs.length/\Pv (i+1) ys' H') (y xs q) p λys' H' p'=>⟨xs.length-(i+1),by omega,rfl,hlt,p'⟩
 ·have e:i=xs.length:=by omega
  subst e;exact .inl ⟨⟨xs,q,yS _⟩,hd ys H p⟩
end
def tyB (T c:String):Option Bool:=if (Value.type T==Value.type c)=true then some true else if PySem.W.kitMeta c=true then (fastBuiltinMro T).map (·.contains (Value.type c)) else none
theorem Cs {T c:String}{b:Bool}(h:tyB T c=some b):PySem.W.kitOne K (.type T) (.type c)=some b:=h
theorem NS:tyB "int" "int"=some true:=by decide +kernel
theorem NR:tyB "int" "bool"=some false:=by decide +kernel
theorem NT:tyB "list" "list"=some true:=by decide +kernel
theorem NU:tyB "str" "str"=some true:=by decide +kernel
theorem xh:bootBuiltins "isinstance"=some (.builtin "isinstance"):=by decide +kernel
theorem jo:bootBuiltins "list"=some (.type "list"):=by decide +kernel
theorem Yr:bootBuiltins "int"=some (.type "int"):=by decide +kernel
theorem Yp:bootBuiltins "bool"=some (.type "bool"):=by decide +kernel
theorem Ys:bootBuiltins "str"=some (.type "str"):=by decide +kernel
theorem jS:bootBuiltins "all"=some (.builtin "all"):=by decide +kernel
theorem Zn:bootBuiltins "sum"=some (.builtin "sum"):=by decide +kernel
theorem Bi:bootBuiltins "enumerate"=some (.type "enumerate"):=by decide +kernel
theorem Bm:bootBuiltins "zip"=some (.type "zip"):=by decide +kernel
section
variable {X:Cx}
theorem Bs:CallR X (.builtin "isinstance") (λxs H Q=>∃ x n T b,xs=[x,.ty n]/\xm X.K H x (.type T)/\tyB T n=some b/\Q (.bl b) H):=by intro pins s σ H xs us Q I r h;obtain ⟨x,n,T,b,rfl,ty,e,q⟩:=h;obtain ⟨u,w',rfl,rx,rw'⟩:=KA r;obtain rfl:w'=Value.type n:=rw';exact PZ I rx ty (Cs e) λtk=>⟨.bl b,H,I.tok _,rfl,q⟩
theorem KB:∀{bs:List Bool}{us:List Value}{i:Nat}{u:Value},Vals (bs.map V.bl) us->us[i]?=some u->u = .bool (bs.getD i false)
 |[],_,_,_,.nil,e=>by simp at e
 |b::_,_,0,_,.cons r _,e=>by
  have e':=Option.some.inj e;subst e';exact r
 |_::bs,_,i+1,u,.cons _ t,e=>by
  have q:=KB (i:=i) (u:=u) t (by simpa using e);simpa using q
theorem KU:∀(bs:List Bool),(List.range bs.length).all (λi=>bs.getD i false)=bs.all id:=by
 intro bs;rw [Bool.eq_iff_iff,uU,uU];constructor
 ·intro h b hb;obtain ⟨i,hi,e⟩:=uG hb;have q:=h i (uB.mpr hi);rw [yA,yN hi] at q;rw [<- e];exact q
 ·intro h i hi;have hi':=uB.mp hi;rw [yA,yN hi'];exact h _ (yj hi')
theorem Bp (hc:X.calm=true):CallR X (.builtin "all") (λxs H Q=>∃ (a:Addr) (bs:List Bool),xs=[.ref a]/\SqL X.K H a (bs.map V.bl)/\Q (.bl (bs.all id)) H):=by
 intro pins s σ H xs us Q I r h;obtain ⟨a,bs,rfl,hq,q⟩:=h;obtain ⟨u,rfl,ru⟩:=zf r;obtain rfl:u=Value.ref a:=ru;obtain ⟨its,rv,p,hz⟩:=I.list hq;have hlt:a<s.heap.objs.size:=by obtain ⟨_,_,e,_⟩:=p;exact yT e
 have hl:s.heap.IsList a its.toArray:=p.isList;refine call_all_walk (wpAny_pyIter_list hl ?_);refine ⟨s.heap.objs.size,_,_,_,_,_,λi=>bs.getD i false,rfl,Walks.list (A:=X.A.in1) (I.ok.hd hc) s.heap.objs.size a (yG hlt) its.toArray,⟨⟨_,yy _ rfl,rfl,rfl⟩,hl.push _⟩,?_,λh' tk k=>?_⟩
 ·intro i v s' Q' E' hP hQ;have e:=KB rv (by simpa using hP);subst e;exact wpAny_truthy_bool hQ
 ·have hn:its.toArray.size=bs.length:=by have e:=rv.length;rw [yZ] at e;rw [yV];exact e.symm
  rw [hn,KU];refine ⟨.bl (bs.all id),H,I.kept (t':=tk) (λb o e=>k b o (λhm=>?_) (yW _ e)),rfl,q⟩;have e':b=s.heap.objs.size:=by simpa using hm
  exact absurd (yT e) (by rw [e'];exact uY _)
theorem KD:∀{ns:List Int}{us:List Value},Vals (ns.map V.int) us->IntsAre us ns
 |[],_,.nil=> .nil
 |n::_,_,.cons ⟨t,e⟩ r=>by
  subst e;exact .cons n t (KD r)
theorem Yv (hc:X.calm=true):CallR X (.builtin "sum") (λxs H Q=>∃ (a:Addr) (ns:List Int),xs=[.ref a]/\SqL X.K H a (ns.map V.int)/\Q (.int ns.sum) H):=by
 intro pins s σ H xs us Q I r h;obtain ⟨a,ns,rfl,hq,q⟩:=h;obtain ⟨u,rfl,ru⟩:=zf r;obtain rfl:u=Value.ref a:=ru;obtain ⟨its,rv,p,hz⟩:=I.list hq;have hi:=KD rv;have hl:s.heap.IsList a its.toArray:=p.isList;obtain ⟨xs,ex⟩:=hi.allInts.items;have e2:(numsOf its.toArray.toList).sum=ns.sum:=by rw [show its.toArray.toList=its from rfl,hi.numsOf]
 rw [ex] at hl e2;rw [nums_intItems] at e2;refine sum_intListG (I.ok.hd hc) hl λh' tk t' k=>⟨.int ns.sum,H,I.kept (t':=tk) k,?_,q⟩;rw [preSum_eq,List.take_of_length_le (by simp),e2];exact ⟨_,rfl⟩
def wN (_i j:Int):Prop:=0<j/\j.natAbs.log2<9000
theorem Ga:OpR X (binaryOp .FloorDiv) (rI wN λi j=> .int (i / j)):=opI λi j _ _ _ _ _ hc q=>by
 have e:i.fdiv j=i / j:=Int.fdiv_eq_ediv_of_nonneg i (Int.le_of_lt hc.1);exact floordiv_int (Ne.symm (Int.ne_of_lt hc.1)) (by rw [e];exact q) (.inl (PyProof.noPylong_of_log2 hc.2))
def wO (i j:Int):Prop:=Builtin.Int.intBits i<=2 ^ 20/\Builtin.Int.intBits j<=2 ^ 20
theorem XN:OpR X (binaryOp .Mult) (rI wO λi j=> .int (i*j)):=opI λ_ _ _ _ _ _ _ hc q=>mul_int q (IntMulOk.of_bits hc.1 hc.2)
def Its (lo c:Int)(n:Nat):It:=⟨λi _=>i<n,λi H x H'=>H'=H/\x = .int (lo+i*c),λi _=>n<=i⟩
theorem NG {P:Program}{w:World}(it:Addr)(lo c:Int)(n:Nat):jn P w K tg (Its lo c n) [it] it (λi h=>IsRangeIter h it (lo+(i:Nat)*c) ((n:Int)-(i:Nat)) c) where
 mem:=by simp
 obj:=λi h st b hb=>by
  have e:b=it:=by simpa using hb
  subst e;exact ⟨_,st,λv z=>by
   have z':Data.fields _=Data.cell v:=z;cases z'⟩
 keep:=λi h h' st k=>k it (by simp) _ st
 item:=by intro X hP hw hK hc i pins s σ H E I hf st hg;subst hP hw hK;obtain ⟨f0,f1,f2,f3,f4,f5⟩:=hf it (by simp);have W:=Walks.range (prog:=X.prog) (w:=X.w) (I.ok.hd hc) it lo c n;refine W.item i s _ _ hg st λv h' tk hv st' kk=>?_;obtain ⟨t,rfl⟩:=hv;have I1:Inv X pins σ H { s with heap:=h',toks:=tk }:=I.turned (λb o hb e=>kk b o (by simpa using hb) e) f0 f1 f3 f4 f5;exact ⟨_,rfl,ZM (s:={ s with heap:=h',toks:=tk }) (n:="range_iterator") st' rfl rfl (by decide) ⟨.int (lo+i*c),H,I1,⟨t,rfl⟩,⟨rfl,rfl⟩,st',λb hb=>(hf b hb).1⟩⟩
 done:=by intro X hP hw hK hc i pins s σ H E I hf st hg;subst hP hw hK;obtain ⟨f0,f1,f2,f3,f4,f5⟩:=hf it (by simp);exact wpAny_pyNext_range_end (I.ok.hd hc) st (by have:n<=i:=hg;omega) λh' eb=>⟨rfl,I.turned (t':=s.toks) (λb o hb e=>eb b o hb e) f0 f1 f3 f4 f5⟩
 self:=λ_ _ _ _ _ st h=>wpAny_pyIter_rangeiter st h
def jf (i j c:Int):Nat:=(Builtin.Range.rangeSize i j c).toNat
def iRng3 (ta:TA):TI:=λσ H R=>ta σ H λvs H1=>∃ i j c:Int,vs=[.int i,.int j,.int c]/\(0<c/\c<1073741824)/\0<=Builtin.Range.rangeSize i j c/\Builtin.Range.small i j c=true/\R (Its i c (jf i j c)) H1
variable {tg:Expr}
theorem MN {a b:Expr}{ta:TA}{p:Pos}(hg:Gl X "range")(hm:X.mg "range"=none)(ha:PA X [a,b,c] ta)(hs:starEach [a,b,c] X.env=[(false,eval a X.env),(false,eval b X.env),(false,eval c X.env)]:=by rfl)(hs2:starEach [b,c] X.env=[(false,eval b X.env),(false,eval c X.env)]:=by rfl):PI X tg (.Call (.Name "range" p) [a,b,c] [] pos) (iRng3 ta):=by
 intro pins s σ H R I h;refine Call_ (jw I hg hm boot_range (PyProof.Rows.callWith_type1 (j5 (ha pos pins s σ H _ I h) λus s1 ⟨vs,H1,I1,r1,q1⟩=>?_) (by rw [hs,hs2]) (by rw [hs2];rfl)));obtain ⟨i,j,c,e,⟨q1,q2⟩,q3,q4,q⟩:=q1;subst e;cases r1 with
 |cons r rr =>
  cases rr with
  |cons r' rr =>
   cases rr with
   |cons r'' rr =>
    cases rr;obtain ⟨t,rfl⟩:=r;obtain ⟨t',rfl⟩:=r';obtain ⟨t'',rfl⟩:=r'';refine call_range_3 (Ne.symm (Int.ne_of_lt q1)) ?_ (.inl (PyProof.noPylong_small (by omega)));refine wpAny_pyIter_range (IsRange.new ..) q4 ?_;have I2:Inv X pins σ H1 { s1 with heap:=s1.heap.push { cls:= .type "range",data:= .fields #[.int i t,.int j t',.int c t''] },toks:=s1.toks }:=I1.kept λb o e=>yW _ e;refine ⟨(s1.heap.push { cls:= .type "range",data:= .fields #[.int i t,.int j t',.int c t''] }).objs.size,[(s1.heap.push { cls:= .type "range",data:= .fields #[.int i t,.int j t',.int c t''] }).objs.size],_,_,H1,rfl,
     I2.kept (t':=s1.toks) λb o e=>yW _ e,NG _ i c (jf i j c),?_,λb hb=>?_,q⟩
    ·have e1:i+((0:Nat):Int)*c=i:=by simp
     have e2:((jf i j c:Nat):Int)-((0:Nat):Int)=Builtin.Range.rangeSize i j c:=by unfold jf;omega
     show IsRangeIter _ _ (i+((0:Nat):Int)*c) (((jf i j c:Nat):Int)-((0:Nat):Int)) c;rw [e1,e2];exact yy _ rfl
    ·have e:b=(s1.heap.push { cls:= .type "range",data:= .fields #[.int i t,.int j t',.int c t''] }).objs.size:=by simpa using hb
     subst e;exact I2.fpOk (yS _) (I2.hok.fresh (yS _))
end
theorem Po {lo c:Int}{n:Nat}{tb:TS}{D:qM}{H:Hp}(Pv:Nat->St->Hp->Prop)(h0:Pv 0 σ H)(hs:∀ i σ H,i<n->Pv i σ H->g (.int (lo+i*c)) σ H λσ2 H2=>tb { D with nx:=Pv (i+1),ct:=Pv (i+1),bk:=D.nx } σ2 H2)(hd:∀ σ H,Pv n σ H->D.nx σ H):∃ W:Nat->Nat->St->Hp->Prop,(∃ m,W 0 m σ H)/\∀ i m σ H,W i m σ H -> ((Its lo c n).stop i H/\D.nx σ H)∨((Its lo c n).go i H/\∃ N:St->Hp->Prop,(∀ σ' H',N σ' H'->∃ m',m'<m/\W (i+1) m' σ' H')/\∀ x H',(Its lo c n).yld i H x H'->g x σ H' λσ2 H2=>tb { D with nx:=N,ct:=N,bk:=D.nx } σ2 H2):=by
 refine ⟨λi m σ H=>m=n-i/\i<=n/\Pv i σ H,⟨n,by simp,uZ _,h0⟩,?_⟩;rintro i m σ H ⟨rfl,hi,p⟩;by_cases hlt:i<n
 ·refine .inr ⟨hlt,Pv (i+1),λσ' H' p'=>⟨n-(i+1),by omega,rfl,hlt,p'⟩,λx H' y=>?_⟩;obtain ⟨e,y⟩:=y;subst e y;exact hs i σ _ hlt p
 ·have e:i=n:=by omega
  subst e;exact .inl ⟨yS _,hd σ H p⟩
section
open PySem.SeqAt
theorem xO {α β:Type}{F:α->β->Prop}:∀{l₁:List α}{l₂:List β},Paired F l₁ l₂->∀(j:Nat)(h1:j<l₁.length)(h2:j<l₂.length),F l₁[j] l₂[j]
 |_,_,.cons r _,0,_,_=>r
 |_,_,.cons _ t,j+1,h1,h2=>xO t j (by simpa using h1) (by simpa using h2)
variable {X:Cx}
end
structure Fn (P:Program)(w:World)(K:Fg)(mg:Str->Option Value)(base:Heap)(k:Nat)(x:Str)(ps:List Str)(sp:Sp):Prop where
 ex:∃ f fd,FnOk P w K mg base v7 k f fd ps sp/\mg x=some (.ref f)/\PySem.W.keepIn K (.ref f)=true/\Binds K fd ps []
section
variable {X:Cx}{k j:Nat}{x:Str}{ps:List Str}{sp:Sp}{e:Expr}{es:List Expr}{t:TA}{p pos:Pos}
theorem qu (c:Fn X.prog X.w X.K X.mg X.base k x ps sp)(hr:Room j X.A)(hj:k<=j)(hg:Gl X x)(ha:PA X (e::es) t)(hdb:(x==("__debug__":Str))=false:=by decide)(he:starEach (e::es) X.env=(false,eval e X.env)::starEach es X.env:=by rfl)(hpl:(backTo pos (starEach es X.env)).any (·.1)=false:=by rfl):PE X (.Call (.Name x p) (e::es) [] pos) (xH sp [] E0 t):=by obtain ⟨f,fd,F,hm,hk,hb⟩:=c.ex;exact Mr F (hr.mono hj) hg hm hk hb .nil XO ha hdb he hpl
end
end L2
namespace L2
open PySem PySem.Spec PyProof.Rows
variable{p pos px tp:Pos}{a:Expr}{b:Addr}{P:Program}{w:World}{K:Fg}{elts:List Expr}{x1:Nat}{ta:TA}{x:Str}{l:List Env}{S:List Addr}{h':Heap}{p2:List (Addr×Obj)}{oe:Obj}
section
variable {X:Cx}{pins:List (Addr×Obj)}{σ:St}{H:Hp}{s:Shared}{h':Heap}
theorem Inv.turnedL {t':Nat}{ch:List Addr}(I:Inv X pins σ H s)(k:∀ b o,b∉ch->s.heap.get? b=some o->h'.get? b=some o)(hf:∀ b∈ch,xg X pins H b):Inv X pins σ H { s with heap:=h',toks:=t' }:=by
 have nit:∀ b u,H b=some u->b∉ch:=λb u e z=>by rw [(hf b z).1] at e;cases e
 have nL:X.env.locals∉ch:=λz=>(hf _ z).2.1 rfl;refine I.step (g':=s.gens) (d':=s.drawn) (ch:=ch) (λb hb=>?_) (λb o _ _ hc e _=>k b o hc e) (λb o _ _ hc e _=>⟨o.slots,k b o hc e⟩) (λ_ _ _ _ n=>n)
  (λb o hc e=>⟨o,k b o hc e⟩) (λ_ _ e=>e) (λ_ _ _ e=>e) (λ_ _ _ e=>e) (λm hm=>?_) (λb u e=>?_) I.bare
 ·obtain ⟨f0,f1,f2,f3,f4,f5⟩:=hf b hb;exact ⟨f3,f1,f4,f5⟩
 ·obtain ⟨o,es,ep,ho,r⟩:=hm;exact ⟨o,es,ep,k _ o nL ho,r⟩
 ·refine (I.hok b u e).stay (λc v hc q=>k c v ?_ q) (λ_ q=>q) (λ_ _ q=>q) λ_ _ _ q=>q;rcases hc with z|z
  ·rw [z];exact nit b u e
  ·exact nit c _ z
theorem Inv.track {p:Addr}{o:HO}(I:Inv X pins σ H s)(hp:X.s₀.heap.objs.size<=p)(hn:H p=none)(nL:p≠X.env.locals)(nC:∀ x c,X.env.cells.lookup x=some c->c≠p)(nP:∀ q∈X.pn++pins,q.1≠p)(new:ObjOk X.prog X.w (z8 H p o) s.heap p o):Inv X pins σ (z8 H p o) s:=by
 refine ⟨I.ok,I.os,I.bare,⟨I.base.keep,I.base.slot,λb ob e n hx=>?_,I.base.there,λb xs e=>?_,λb ob u e=>?_,λb ps q e=>?_⟩,I.loc,I.cell,?_,λx c e=>?_,λq hq=>?_,λb u e=>?_,I.len⟩
 ·rw [z9 (yG (yB (yT e) hp))];exact I.base.free b ob e n hx
 ·have z:=I.base.tups b xs e;rw [z9 (p5 z hn)];exact z
 ·have z:=I.base.frzs b ob u e;rw [z9 (p5 z hn)];exact z
 ·have z:=I.base.tbls b ps q e;rw [z9 (p5 z hn)];exact z
 ·rw [z9 (Ne.symm nL)];exact I.free
 ·rw [z9 (nC x c e)];exact I.freeC x c e
 ·obtain ⟨a1,a2,a3⟩:=I.pin q hq;exact ⟨a1,by rw [z9 (nP q hq)];exact a2,a3⟩
 ·by_cases hb:b=p
  ·subst hb;rw [y7] at e;cases e;exact new
  ·rw [z9 hb] at e;exact (I.hok b u e).stay (λc v _ q=>q) (λc q=>by rw [z9 (p5 q hn)];exact q) (λc xs q=>by rw [z9 (p5 q hn)];exact q) λc _ _ q=>by rw [z9 (p5 q hn)];exact q
theorem Inv.seq_ne {a:Addr}{xs:List V}(I:Inv X pins σ H s)(hq:SqL X.K H a xs)(hf:xg X pins H b):a≠b:=by
 rintro rfl;rcases hq with (h|⟨o,h⟩)|⟨o,its,n,hk,_⟩
 ·rw [hf.1] at h;cases h
 ·rw [hf.1] at h;cases h
 ·have e:=I.ok.mod.kin a o hk;rcases hf.2.2.2.1 with z|z
  ·exact I.ok.noex a o e z
  ·exact absurd (yB (yT e) (yc I.ok.bsz z)) (uY _)
end
def Ite (K:Fg)(a:Addr):It :=
 ⟨λi H=>∃ xs x,SqL K H a xs/\xs[i]?=some x,λi H x H'=>∃ p y,H p=none/\x = .ref p/\H'=z8 H p (.tup [.int i,y])/\∀ xs,SqL K H a xs->xs[i]?=some y,λi H=>∃ xs,SqL K H a xs/\xs.length<=i⟩
theorem ND (a e it:Addr)(hne:e≠it):jn P w K (.Tuple elts x1 tp) (Ite K a) [e,it] e (λi h=>(∃ old,IsEnum h e it ((i:Nat):Int) old)/\h.IsListIter it a i) where
 mem:=by simp
 obj:=λi h st b hb=>by
  obtain ⟨⟨old,he⟩,hit⟩:=st;rcases yM.mp hb with rfl|hb
  ·exact ⟨_,he,λv z=>by
    have z':Data.fields _=Data.cell v:=z;cases z'⟩
  ·have eb:b=it:=by simpa using hb
   subst eb;obtain ⟨o,e1,c,d⟩:=hit;exact ⟨o,e1,λv z=>by rw [d] at z;cases z⟩
 keep:=λi h h' st k=>by
  obtain ⟨⟨old,he⟩,hit⟩:=st;exact ⟨⟨old,k e (by simp) _ he⟩,hit.at λo q=>k it (by simp) o q⟩
 item:=by
  intro X hP hw hK hc i pins s σ H E I hf st hg;subst hP hw hK;obtain ⟨⟨old,he⟩,hit⟩:=st;obtain ⟨xs,x,hq,hx⟩:=hg;obtain ⟨its,rv,p,hz⟩:=I.list hq;obtain ⟨u,hu,ru⟩:=rv.get hx;have fz:xg X pins H s.heap.objs.size:=I.fpOk (yS _) (I.hok.fresh (yS _));have lte:e<s.heap.objs.size:=yT he;have lti:it<s.heap.objs.size:=by obtain ⟨o,q,_⟩:=hit;exact yT q
  refine wpAny_pyNext_enum_item he hit p.isList (x:=u) (by simpa using hu) hne λh1 heo hit1 ht1 hz1 hk1=>⟨_,rfl,?_⟩;refine wpAny_letOwnedTupleGo_enum heo λh2 he2 hs2=>?_;have hs2':Heap.SameBut e h1 h2:=hs2;have I2:Inv X pins σ H { s with heap:=h2,toks:=s.toks+1 }:=I.turnedL (ch:=[e,it]) (λb o hb q=>by
   have n1:b≠e:=λz=>hb (by rw [z];simp);have n2:b≠it:=λz=>hb (by rw [z];simp);exact hs2'.extBut b o n1 (hk1 b o n1 n2 q)) hf
  obtain ⟨f0,f1,f2,f3,f4,f5⟩:=fz;have tup:h2.get? s.heap.objs.size=some { cls:= .type "tuple",data:= .seq #[.int i s.toks,u] }:=hs2'.extBut _ _ (Ne.symm (yG lte)) ht1;refine ⟨.ref s.heap.objs.size,z8 H s.heap.objs.size (.tup [.int i,x]),I2.track I.sz f0 f1 f4 f5 ?_,rfl,⟨s.heap.objs.size,x,f0,rfl,rfl,λys hy=>by rw [I.list_inj hy hq];exact hx⟩,⟨⟨u,?_⟩,?_⟩,λb hb=>?_⟩
  ·exact ⟨by show 2<=sizeLine;decide,[.int i s.toks,u],.cons ⟨_,rfl⟩ (.cons ru .nil),⟨_,tup,rfl,_,rfl⟩⟩
  ·have ei:(((i+1:Nat):Int))=(i:Int)+1:=by omega
   rw [ei];exact he2
  ·exact hit1.at λo q=>hs2'.extBut it o (Ne.symm hne) q
  ·have nb:b≠s.heap.objs.size:=by
    rcases yM.mp hb with rfl|hb
    ·exact yG lte
    ·have eb:b=it:=by simpa using hb
     rw [eb];exact yG lti
   rw [z9 nb];exact (hf b hb).1
 done:=by intro X hP hw hK hc i pins s σ H E I hf st hg;subst hP hw hK;obtain ⟨⟨old,he⟩,hit⟩:=st;obtain ⟨xs,hq,hx⟩:=hg;obtain ⟨its,rv,p,hz⟩:=I.list hq;have hl:=rv.length;exact wpAny_pyNext_enum_end (I.ok.hd hc) he hit p.isList (by simp;omega) λh1 eb=>⟨rfl,I.turnedL (t':=s.toks) (ch:=[e,it]) (λb o hb q=>eb b o (λz=>hb (by rw [z];simp)) q) hf⟩
 self:=λ_ _ _ _ _ st h=>by
  obtain ⟨⟨old,he⟩,hit⟩:=st;exact wpAny_pyIter_enum he h
section
variable {X:Cx}{elts:List Expr}{x1:Nat}{tp:Pos}
def ZN (K:Fg)(ta:TA):TI:=λσ H R=>ta σ H λvs H1=>∃ a,vs=[.ref a]/\(∃ xs,SqL K H1 a xs)/\R (Ite K a) H1
theorem MK (hg:Gl X "enumerate")(hm:X.mg "enumerate"=none)(ha:PA X [a] ta)(hs:starEach [a] X.env=[(false,eval a X.env)]:=by rfl):PI X (.Tuple elts x1 tp) (.Call (.Name "enumerate" p) [a] [] pos) (ZN X.K ta):=by
 intro pins s σ H R I h;refine Call_ (jw I hg hm Bi (PyProof.Rows.callWith_type1 (j5 (ha pos pins s σ H _ I h) λus s1 ⟨vs,H1,I1,r1,q1⟩=>?_) hs rfl));obtain ⟨a,e,⟨xs,hq⟩,q⟩:=q1;subst e;cases r1 with
 |cons r rr =>
  cases rr;cases r;obtain ⟨its,rv,p,hz⟩:=I1.list hq;refine call_enumerate_list p.isList λh' he hit hsz hk=>?_;refine wpAny_pyIter_enum he ?_;refine ⟨s1.heap.objs.size+1,[s1.heap.objs.size+1,s1.heap.objs.size],_,_,H1,rfl,I1.kept (t':=s1.toks) hk,ND a (s1.heap.objs.size+1) s1.heap.objs.size (Nat.ne_of_gt (uF _)),⟨⟨_,he⟩,hit⟩,λb hb=>?_,q⟩;rcases yM.mp hb with rfl|hb
  ·exact I1.fpOk (uD _) (I1.hok.fresh (uD _))
  ·have eb:b=s1.heap.objs.size:=by simpa using hb
   subst eb;exact I1.fpOk (yS _) (I1.hok.fresh (yS _))
end
def Itz (K:Fg)(a b:Addr):It :=
  ⟨λi H=>∃ xs ys x y,SqL K H a xs/\SqL K H b ys/\xs[i]?=some x/\ys[i]?=some y,
   λi H z H'=>∃ p x y,H p=none/\z = .ref p/\H'=z8 H p (.tup [x,y])/\(∀ xs,SqL K H a xs->xs[i]?=some x)/\∀ ys,SqL K H b ys->ys[i]?=some y,
   λi H=>∃ xs ys,SqL K H a xs/\SqL K H b ys/\(xs.length<=i∨ys.length<=i)⟩
theorem NH (a b z TI TO i1 i2:Addr)(d:[z,TI,TO,i1,i2].Nodup):jn P w K (.Tuple elts x1 tp) (Itz K a b) [z,TI,TO,i1,i2] z (λi h=>IsZip h z TI TO .none/\IsPair h TI (.ref i1) (.ref i2)/\(∃ u v,IsPair h TO u v)/\h.IsListIter i1 a i/\h.IsListIter i2 b i) where
 mem:=by simp
 obj:=λi h st c hc=>by
  obtain ⟨hz,hTI,⟨u,v,hTO⟩,h1,h2⟩:=st;have hc':c=z∨c=TI∨c=TO∨c=i1∨c=i2:=by simpa using hc
  rcases hc' with rfl|rfl|rfl|rfl|rfl
  ·exact ⟨_,hz,λv q=>by
    have q':Data.fields _=Data.cell v:=q;cases q'⟩
  ·exact ⟨_,hTI,λv q=>by
    have q':Data.seq _ _=Data.cell v:=q;cases q'⟩
  ·exact ⟨_,hTO,λv q=>by
    have q':Data.seq _ _=Data.cell v:=q;cases q'⟩
  ·obtain ⟨o,e1,cc,dd⟩:=h1;exact ⟨o,e1,λv q=>by rw [dd] at q;cases q⟩
  ·obtain ⟨o,e1,cc,dd⟩:=h2;exact ⟨o,e1,λv q=>by rw [dd] at q;cases q⟩
 keep:=λi h h' st k=>by
  obtain ⟨hz,hTI,⟨u,v,hTO⟩,h1,h2⟩:=st;exact ⟨k z (by simp) _ hz,k TI (by simp) _ hTI,⟨u,v,k TO (by simp) _ hTO⟩,h1.at λo e=>k i1 (by simp) o e,h2.at λo e=>k i2 (by simp) o e⟩
 item:=by
  intro X hP hw hK hc i pins s σ H E I hf st hg;subst hP hw hK;obtain ⟨hz,hTI,⟨u0,v0,hTO⟩,h1,h2⟩:=st;obtain ⟨xs,ys,x,y,hqa,hqb,hx,hy⟩:=hg;obtain ⟨its,rv,p,_⟩:=I.list hqa;obtain ⟨jts,rw',p',_⟩:=I.list hqb;obtain ⟨u,hu,ru⟩:=rv.get hx;obtain ⟨v,hv,rv'⟩:=rw'.get hy;simp only [yt,yM,not_or,yh,not_false_eq_true,List.nodup_nil,and_true] at d;obtain ⟨⟨d1,d2,d3,d4⟩,⟨d5,d6,d7⟩,⟨d8,d9⟩,d10⟩:=d;have ap:ZipApart z TI TO i1 i2 a b:=⟨Ne.symm d1,Ne.symm d2,Ne.symm d3,Ne.symm d4,d5,d6,d7,d8,d9,d10,
   I.seq_ne hqa (hf z (by simp)),I.seq_ne hqa (hf TO (by simp)),I.seq_ne hqa (hf i1 (by simp)),I.seq_ne hqa (hf i2 (by simp)),
   I.seq_ne hqb (hf z (by simp)),I.seq_ne hqb (hf TO (by simp)),I.seq_ne hqb (hf i1 (by simp)),I.seq_ne hqb (hf i2 (by simp))⟩
  have fz:xg X pins H s.heap.objs.size:=I.fpOk (yS _) (I.hok.fresh (yS _));have lt:∀ c∈[z,TI,TO,i1,i2],c<s.heap.objs.size:=λc hc=>by
   have hc':c=z∨c=TI∨c=TO∨c=i1∨c=i2:=by simpa using hc
   rcases hc' with rfl|rfl|rfl|rfl|rfl
   ·exact yT hz
   ·exact yT hTI
   ·exact yT hTO
   ·obtain ⟨o,q,_⟩:=h1;exact yT q
   ·obtain ⟨o,q,_⟩:=h2;exact yT q
  refine wpAny_pyNext_zip_item ap hz hTI hTO h1 h2 p.isList p'.isList (x:=u) (y:=v) (by simpa using hu) (by simpa using hv) λh3 hz3 hTO3 h13 h23 hp3 hs3 hk3=>⟨_,rfl,?_⟩;refine wpAny_letOwnedTupleGo_zip hz3 λh4 hz4 hs4=>?_;have hs4':Heap.SameBut z h3 h4:=hs4;have I4:Inv X pins σ H { s with heap:=h4,toks:=s.toks }:=I.turnedL (ch:=[z,TI,TO,i1,i2]) (λc o hc q=>by
   have n1:c≠z:=λe=>hc (by rw [e];simp);have n2:c≠TO:=λe=>hc (by rw [e];simp);have n3:c≠i1:=λe=>hc (by rw [e];simp);have n4:c≠i2:=λe=>hc (by rw [e];simp);exact hs4'.extBut c o n1 (hk3 c o n1 n2 n3 n4 q)) hf
  obtain ⟨f0,f1,f2,f3,f4,f5⟩:=fz;have tup:h4.get? s.heap.objs.size=some { cls:= .type "tuple",data:= .seq #[u,v] }:=hs4'.extBut _ _ (Ne.symm (yG (lt z (by simp)))) hp3;refine ⟨.ref s.heap.objs.size,z8 H s.heap.objs.size (.tup [x,y]),I4.track I.sz f0 f1 f4 f5 ?_,rfl,⟨s.heap.objs.size,x,y,f0,rfl,rfl,(λzs hy'=>by rw [I.list_inj hy' hqa];exact hx),λzs hy'=>by rw [I.list_inj hy' hqb];exact hy⟩,⟨hz4,?_,⟨u,v,?_⟩,?_,?_⟩,λc hc=>?_⟩
  ·exact ⟨by show 2<=sizeLine;decide,[u,v],.cons ru (.cons rv' .nil),⟨_,tup,rfl,_,rfl⟩⟩
  ·exact hs4'.extBut _ _ (Ne.symm d1) (hk3 _ _ (Ne.symm d1) d5 d6 d7 hTI)
  ·exact hs4'.extBut _ _ (Ne.symm d2) hTO3
  ·exact h13.at λo q=>hs4'.extBut i1 o (Ne.symm d3) q
  ·exact h23.at λo q=>hs4'.extBut i2 o (Ne.symm d4) q
  ·rw [z9 (yG (lt c hc))];exact (hf c hc).1
 done:=by
  intro X hP hw hK hc i pins s σ H E I hf st hg;subst hP hw hK;obtain ⟨hz,hTI,⟨u0,v0,hTO⟩,h1,h2⟩:=st;obtain ⟨xs,ys,hqa,hqb,hend⟩:=hg;obtain ⟨its,rv,p,_⟩:=I.list hqa;obtain ⟨jts,rw',p',_⟩:=I.list hqb;have l1:=rv.length;have l2:=rw'.length;simp only [yt,yM,not_or,yh,not_false_eq_true,List.nodup_nil,and_true] at d;obtain ⟨⟨d1,d2,d3,d4⟩,⟨d5,d6,d7⟩,⟨d8,d9⟩,d10⟩:=d;have ap:ZipApart z TI TO i1 i2 a b:=⟨Ne.symm d1,Ne.symm d2,Ne.symm d3,Ne.symm d4,d5,d6,d7,d8,d9,d10,
   I.seq_ne hqa (hf z (by simp)),I.seq_ne hqa (hf TO (by simp)),I.seq_ne hqa (hf i1 (by simp)),I.seq_ne hqa (hf i2 (by simp)),
   I.seq_ne hqb (hf z (by simp)),I.seq_ne hqb (hf TO (by simp)),I.seq_ne hqb (hf i1 (by simp)),I.seq_ne hqb (hf i2 (by simp))⟩
  refine wpAny_pyNext_zip_end (I.ok.hd hc) ap hz hTI hTO h1 h2 p.isList p'.isList (hend.elim (λq=> .inl (by simp;omega)) (λq=> .inr (by simp;omega))) λh3 hk3=>⟨rfl,I.turnedL (t':=s.toks) (ch:=[z,TI,TO,i1,i2]) (λc o hc q=>?_) hf⟩;exact hk3 c o (λe=>hc (by rw [e];simp)) (λe=>hc (by rw [e];simp)) (λe=>hc (by rw [e];simp)) (λe=>hc (by rw [e];simp)) q
 self:=λ_ _ _ _ _ st h=>wpAny_pyIter_zip st.1 h
section
variable {X:Cx}{elts:List Expr}{x1:Nat}{tp:Pos}
def iZip (K:Fg)(ta:TA):TI:=λσ H R=>ta σ H λvs H1=>∃ a b,vs=[.ref a,.ref b]/\(∃ xs,SqL K H1 a xs)/\(∃ ys,SqL K H1 b ys)/\R (Itz K a b) H1
theorem MP {b:Expr}(hg:Gl X "zip")(hm:X.mg "zip"=none)(ha:PA X [a,b] ta)(hs:starEach [a,b] X.env=[(false,eval a X.env),(false,eval b X.env)]:=by rfl)(hs2:starEach [b] X.env=[(false,eval b X.env)]:=by rfl):PI X (.Tuple elts x1 tp) (.Call (.Name "zip" p) [a,b] [] pos) (iZip X.K ta):=by
 intro pins s σ H R I h;refine Call_ (jw I hg hm Bm (PyProof.Rows.callWith_type1 (j5 (ha pos pins s σ H _ I h) λus s1 ⟨vs,H1,I1,r1,q1⟩=>?_) (by rw [hs,hs2]) (by rw [hs2];rfl)));obtain ⟨a,b,e,⟨xs,hq⟩,⟨ys,hq'⟩,q⟩:=q1;subst e;cases r1 with
 |cons r rr =>
  cases rr with
  |cons r' rr =>
   cases rr;cases r;cases r';obtain ⟨its,rv,p,hz⟩:=I1.list hq;obtain ⟨jts,rw',p',_⟩:=I1.list hq';refine call_zip_2 p.isList p'.isList λh' g1 g2 g3 g4 g5 hsz hk=>?_;refine wpAny_pyIter_zip g1 ?_;refine ⟨s1.heap.objs.size+4,[s1.heap.objs.size+4,s1.heap.objs.size+2,s1.heap.objs.size+3,s1.heap.objs.size,s1.heap.objs.size+1],_,_,H1,rfl,I1.kept (t':=s1.toks) hk,NH a b _ _ _ _ _ ?_,⟨g1,g2,⟨_,_,g3⟩,g4,g5⟩,λc hc=>?_,q⟩
   ·simp only [yt,yM,not_or,yh,not_false_eq_true,List.nodup_nil,and_true];refine ⟨⟨?_,?_,?_,?_⟩,⟨?_,?_,?_⟩,⟨?_,?_⟩,?_⟩<;>(show ¬ (_:Nat)=_;omega)
   ·have hc':s1.heap.objs.size<=c:=by
     have hc2:c=s1.heap.objs.size+4∨c=s1.heap.objs.size+2∨c=s1.heap.objs.size+3∨c=s1.heap.objs.size∨c=s1.heap.objs.size+1:=by simpa using hc
     rcases hc2 with e|e|e|e|e<;>(rw [e];first|exact yS _|exact Nat.le_add_right _ _)
    exact I1.fpOk hc' (I1.hok.fresh hc')
end
section
variable {X:Cx}{K:Fg}
theorem ZQ (h:X.K=K):IxR X (rIxL K):=by subst h;exact ix_list
theorem Yu (h:X.K=K):CallR X (.builtin "len") (λxs H Q=>∃ p ys,xs=[.ref p]/\(SqL K H p ys∨SqT K H p ys)/\Q (.int ys.length) H):=by subst h;exact Bx
theorem BD (hc:X.calm=true)(h:X.K=K):CallR X (.builtin "sum") (λxs H Q=>∃ (a:Addr) (ns:List Int),xs=[.ref a]/\SqL K H a (ns.map V.int)/\Q (.int ns.sum) H):=by subst h;exact Yv hc
theorem vq {es:List Expr}{k:Nat}{t:TGs}{n:Nat}(hc:X.calm=true)(hK:X.K=K)(h:PGs X es t)(hn:(assignEach es X.env).length=n:=by rfl)(hst:(assignEach es X.env).findIdx? (·.1)=none:=by rfl):PG X (.Tuple es k pos) (gTup K n t):=by subst hK;exact MJ hc h hn hst
theorem c5 {tg l:Expr}{tl:TE}(hK:X.K=K)(hl:PE X l tl):PI X tg l (Xo K tl):=by subst hK;exact ML hl
theorem Qy (hK:X.K=K)(hg:Gl X "enumerate")(hm:X.mg "enumerate"=none)(ha:PA X [a] ta)(hs:starEach [a] X.env=[(false,eval a X.env)]:=by rfl):PI X (.Tuple elts x1 tp) (.Call (.Name "enumerate" p) [a] [] pos) (ZN K ta):=by subst hK;exact MK hg hm ha hs
theorem MQ {b:Expr}(hK:X.K=K)(hg:Gl X "zip")(hm:X.mg "zip"=none)(ha:PA X [a,b] ta)(hs:starEach [a,b] X.env=[(false,eval a X.env),(false,eval b X.env)]:=by rfl)(hs2:starEach [b] X.env=[(false,eval b X.env)]:=by rfl):PI X (.Tuple elts x1 tp) (.Call (.Name "zip" p) [a,b] [] pos) (iZip K ta):=by subst hK;exact MP hg hm ha hs hs2
end
section
variable {X:Cx}
theorem Mf:OpR X (compareOp .LtE) (λx y H Q=>∃ i j,x = .str i/\y = .str j/\Q (.bl (!decide (j.cps.toList<i.cps.toList))) H):=by intro pins s σ H x y v u Q I rx ry h;obtain ⟨i,j,rfl,rfl,q⟩:=h;obtain ⟨t,rfl⟩:=rx;obtain ⟨t',rfl⟩:=ry;exact PySem.P.le_str (ZF I q rfl)
def ItS (z:Str):It:=⟨λi _=>i<z.cps.size,λi H x H'=>H'=H/\∃ c,z.cps[i]?=some c/\x = .str ⟨#[c]⟩,λi _=>i=z.cps.size⟩
theorem Ku (it:Addr)(ty:String)(z:Str)(t:Tok)(W:∀ A':Around,A'.handled=none->Walks P w A' it [it] [it] z.cps.size (SignAt z) (λi h=>h.IsStrIter it ty z t i))(sf:∀(A:Around)(i:Nat)(s:Shared)(Q:Value->Shared->Prop)(E:Value->Shared->Prop),s.heap.IsStrIter it ty z t i->Q (.ref it) s->wpAny (model P w) A (pyIter (.ref it)) Q E s):jn P w K (.Name x px) (ItS z) [it] it (λi h=>h.IsStrIter it ty z t i) where
 mem:=by simp
 obj:=λi h st b hb=>by
  have e:b=it:=by simpa using hb
  subst e;obtain ⟨o,e,c,d⟩:=st;exact ⟨o,e,λv q=>by rw [d] at q;cases q⟩
 keep:=λi h h' st k=>by
  obtain ⟨o,e,r⟩:=st;exact ⟨o,k it (by simp) o e,r⟩
 item:=by intro X hP hw hK hc i pins s σ H E I hf st hg;subst hP hw hK;obtain ⟨f0,f1,f2,f3,f4,f5⟩:=hf it (by simp);refine (W X.A (I.ok.hd hc)).item i s _ _ hg st λv h' tk hv st' kk=>?_;obtain ⟨c,u,e1,rfl⟩:=hv;have I1:Inv X pins σ H { s with heap:=h',toks:=tk }:=I.turned (λb o hb e=>kk b o (by simpa using hb) e) f0 f1 f3 f4 f5;refine ⟨_,rfl,?_⟩;show wpAny _ _ (pure ()) _ _ _;exact yI ⟨.str ⟨#[c]⟩,H,I1,⟨u,rfl⟩,⟨rfl,c,e1,rfl⟩,st',λb hb=>(hf b hb).1⟩
 done:=by intro X hP hw hK hc i pins s σ H E I hf st hg;subst hP hw hK;obtain ⟨f0,f1,f2,f3,f4,f5⟩:=hf it (by simp);have hg':i=z.cps.size:=hg;subst hg';exact (W X.A (I.ok.hd hc)).done s _ _ st λh' tk kk=>⟨rfl,I.turned (λb o hb e=>kk b o (by simpa using hb) e) f0 f1 f3 f4 f5⟩
 self:=sf
def iStr (tl:TE):TI:=λσ H R=>tl σ H λx H1=>∃ z,x = .str z/\R (ItS z) H1
theorem MO {l:Expr}{tl:TE}(hl:PE X l tl):PI X (.Name x px) l (iStr tl):=by
 intro pins s σ H R I h;refine j5 (hl pins s σ H _ I h) λv s1 ⟨x,H1,I1,r1,q1⟩=>?_;obtain ⟨z,e,q⟩:=q1;subst e;obtain ⟨t,rfl⟩:=r1;have fp:∀ b∈[s1.heap.objs.size],xg X pins H1 b:=λb hb=>by
  have e:b=s1.heap.objs.size:=by simpa using hb
  subst e;exact I1.fpOk (yS _) (I1.hok.fresh (yS _))
 cases ha:z.cps.all (·<128)
 ·refine wpAny_pyIter_wide ha ?_;exact ⟨s1.heap.objs.size,[s1.heap.objs.size],_,_,H1,rfl,I1.kept (t':=s1.toks) λb o e=>yW _ e,Ku _ "str_iterator" z t (λA' hA=>Walks.strWide hA _ z t) (λ_ _ _ _ _ st h=>wpAny_pyIter_striter_wide st h),⟨_,yy _ rfl,rfl,rfl⟩,fp,q⟩
 ·refine wpAny_pyIter_ascii ha ?_;exact ⟨s1.heap.objs.size,[s1.heap.objs.size],_,_,H1,rfl,I1.kept (t':=s1.toks) λb o e=>yW _ e,Ku _ "str_ascii_iterator" z t (λA' hA=>Walks.strAscii hA _ z t) (λ_ _ _ _ _ st h=>wpAny_pyIter_striter_ascii st h),⟨_,yy _ rfl,rfl,rfl⟩,fp,q⟩
end
section
variable {X:Cx}{K:Fg}
def Zd (K:Fg):R2:=λx y H Q=>∃ l b xs zs,x = .ref l/\y = .ref b/\SqL K H l xs/\SqL K H b zs/\xs.length+zs.length<=sizeLine/\∀ p,H p=none->Q (.ref p) (z8 H p (.lst (xs++zs)))
theorem op_catL:OpR X (binaryOp .Add) (Zd X.K):=by
 intro pins s σ H x y v u Q I rx ry h;obtain ⟨l,b,xs,zs,rfl,rfl,hH,hB,hz,q⟩:=h;cases rx;cases ry;obtain ⟨its,r,⟨⟨cls,dd,data,sl⟩,n,e,h1,h2,h3⟩,_⟩:=I.list hH;obtain ⟨its2,r2,⟨⟨cls2,dd2,data2,sl2⟩,n2,e2,k1,k2,k3⟩,_⟩:=I.list hB
 dsimp only at h1 h2 h3 k1 k2 k3
 subst h1 h2 h3 k1 k2 k3;have hl:=r.length;have hl2:=r2.length;have hsz:its.toArray.size+its2.toArray.size<=sizeLine:=by rw [yV,yV];omega
 refine concat_meets ⟨_,e,rfl⟩ ⟨_,e2,rfl⟩ noFill_list_add seq_list_add PySem.F.slot_list_add PySem.F.entry_list_add (PySem.F.args_list_add_2 _ _) (list_addW l b its.toArray its2.toArray n n2 none none sl sl2 hsz) ⟨e,e2,?_⟩;have ea:its.toArray++its2.toArray=(its++its2).toArray:=by simp
 rw [ea];exact ⟨.ref _,_,I.lnew (t':=s.toks) (r.append r2) (by rw [yL];omega),rfl,q _ I.fresh⟩
end
section
variable {P:Program}{w:World}{H H' H0:Hp}{h h' h0:Heap}{a:Addr}{o:HO}
theorem ObjOk.here (x:ObjOk P w H h a o):∃ u,h.get? a=some u:=by
 cases o with
 |lst xs=>obtain ⟨_,_,_,_,e⟩:=x;exact ⟨_,e⟩
 |tup xs=>obtain ⟨_,_,_,_,e,_⟩:=x;exact ⟨_,e⟩
 |dK kvs=>obtain ⟨_,_,_,_,_,_,_,e,_⟩:=x;exact ⟨_,e⟩
 |dT kvs=>obtain ⟨_,_,_,_,_,_,_,e,_⟩:=x;exact ⟨_,e⟩
 |set S n=>obtain ⟨_,_,_,_,e,_⟩:=x;exact ⟨_,e⟩
 |ins C dx fs=>obtain ⟨_,_,_,e,_⟩:=x;exact ⟨_,e⟩
 |own y=>obtain ⟨_,e⟩:=x;exact ⟨_,e⟩
 |xd fs=>obtain ⟨_,⟨_,_,_,e,_⟩,_⟩:=x;exact ⟨_,e⟩
 |rng lo hi=>obtain ⟨_,_,_,e⟩:=x;exact ⟨_,e⟩
 |frz ob u=>obtain ⟨e,_⟩:=x;exact ⟨_,e⟩
 |tbl ps q=>obtain ⟨_,e,_⟩:=x;exact ⟨_,e⟩
 |met f y=>exact ⟨_,(show h.get? a=some _ from x)⟩
 |ext φ=>obtain ⟨_,⟨_,e⟩,_⟩:=x;exact ⟨_,e⟩
theorem HOk.gone (x:HOk P w H h)(e:h.get? a=none):H a=none:=by
 cases q:H a with
 |none=>rfl
 |some u=>obtain ⟨v,z⟩:=(x a u q).here;rw [e] at z;cases z
theorem HOk.off (x:HOk P w H h)(k:∀ b u,b∉S->h.get? b=some u->h'.get? b=some u)(hS:∀ b∈S,H b=none):HOk P w H h':=λb u e=>by
 have out:∀ c v,H c=some v->c∉S:=λc v q z=>by
  have n:=hS c z;rw [q] at n;cases n
 refine (x b u e).stay (λc v hc q=>k c v ?_ q) (λ_ q=>q) (λ_ _ q=>q) λ_ _ _ q=>q;rcases hc with z|z
 ·rw [z];exact out b u e
 ·exact out c _ z
theorem Un.off {fs ex:List Addr}(u:Un fs ex H0 H h0 h)(k:∀ b o,b∉S->h.get? b=some o->h'.get? b=some o)(hS:∀ b∈S,b∈fs∨h0.get? b=none)(sl:∀ b o,b∈fs->h.get? b=some o->∃ z,h'.get? b=some { o with slots:=z }):Un fs ex H0 H h0 h' where
 keep:=λb o e n hb hx=>k b o (λz=>by
  rcases hS b z with q|q
  ·exact hb q
  ·rw [e] at q;cases q) (u.keep b o e n hb hx)
 slot:=λb o e n hb hx=>by
  obtain ⟨z,q⟩:=u.slot b o e n hb hx;obtain ⟨z2,q2⟩:=sl b _ hb q;exact ⟨z2,q2⟩
 free:=u.free
 there:=λb o e hx=>by
  obtain ⟨o',q⟩:=u.there b o e hx;by_cases hb:b∈fs
  ·obtain ⟨z,q2⟩:=sl b _ hb q;exact ⟨_,q2⟩
  ·exact ⟨o',k b o' (λz=>by
    rcases hS b z with y|y
    ·exact hb y
    ·rw [e] at y;cases y) q⟩
 tups:=u.tups
 frzs:=u.frzs
 tbls:=u.tbls
end
theorem Jb {env:Env}(h:env∈l)(hf:env.frame=some b):b∈c6 l:=uR.mpr ⟨env,h,hf⟩
section
variable {M:Model}{A:Around}{Er:Value->Shared->Prop}{s:Shared}{h0 base:Heap}{H:Hp}{P:Program}{w:World}{env:Env}{outer:List Env}{L e:Addr}{cls:Value}{Q:Unit->Shared->Prop}
structure wR (S:List Addr)(l:List Env)(h h':Heap):Prop where
 keep:∀ b o,b∉S->h.get? b=some o->h'.get? b=some o
 slot:∀ b o,b∈c6 l->h.get? b=some o->∃ z,h'.get? b=some { o with slots:=z }
theorem BU {B h1:Heap}{T:Addr}{oT:Obj}{ts:Array Value}(hok:HOk P w H h1)(hp:∀ b o,h0.get? b=some o->∃ o',h1.get? b=some o')(fr:h1.FunFrames base l)(hB:B=PySem.W.hideAll h1 (S++c6 l))(up:∀ b o,b∈c6 l->h1.get? b=some o->∃ z,h'.get? b=some { o with slots:=z })(hn:B.get? T=none)(hT:h'.get? T=some oT)(hd:oT.data = .fields ts)(hS:T∈S->H T=none/\h0.get? T=none):H T=none/\h0.get? T=none:=by
 cases q:h1.get? T with
 |none =>
  refine ⟨hok.gone q,?_⟩;cases z:h0.get? T with
  |none=>rfl
  |some o=>obtain ⟨o',z2⟩:=hp T o z;rw [q] at z2;cases z2
 |some o =>
  by_cases m:T∈S++c6 l
  ·rcases yx.mp m with m|m
   ·exact hS m
   ·obtain ⟨z,z2⟩:=up T o m q;obtain ⟨_,o2,z3,z4⟩:=fr.mem m;rw [q] at z3;cases z3;rw [hT] at z2;have e:=Option.some.inj z2;rw [e] at hd;exact absurd hd (z4 ts)
  ·rw [hB,PySem.W.hideAll_get _ q m] at hn;cases hn
end
def veMro:List Value:=[.type "ValueError",.type "Exception",.type "BaseException",.type "object"]
abbrev Cx.tried (X:Cx)(pn:List (Addr×Obj))(W:Value->Shared->Prop):Cx:={ X with pn:=pn,xe:=W }
abbrev Cx.suite (X:Cx)(pn:List (Addr×Obj))(ea:Addr):Cx:={ X with A:=X.A.mark (some (.ref ea)),calm:=false,pn:=pn,xe:=λ_ _=>False }
section
variable {X:Cx}{pins:List (Addr×Obj)}{σ:St}{H:Hp}{s:Shared}{W:Value->Shared->Prop}{b ea:Addr}
theorem Cx.Ok.tried (ok:X.Ok)(pn:List (Addr×Obj))(W:Value->Shared->Prop):(X.tried pn W).Ok :=
 ⟨ok.mod,ok.kind,ok.glob,ok.blt,ok.above,ok.inj,ok.has,ok.cab,ok.hd,ok.frames,ok.stk,ok.exf,ok.bs,ok.bsz,ok.noex,ok.exfs,ok.funs,ok.frf,ok.tbs⟩
theorem Cx.Ok.suite (ok:X.Ok)(pn:List (Addr×Obj))(ea:Addr):(X.suite pn ea).Ok :=
 ⟨ok.mod,ok.kind,ok.glob,ok.blt,ok.above,ok.inj,ok.has,ok.cab,(λz=>nomatch z),ok.frames,ok.stk,ok.exf,ok.bs,ok.bsz,ok.noex,ok.exfs,ok.funs,ok.frf,ok.tbs⟩
theorem Inv.tried (I:Inv X pins σ H s)(W:Value->Shared->Prop):Inv (X.tried (X.pn++pins) W) [] σ H s :=
 ⟨I.ok.tried _ _,I.os,I.bare,I.base,I.loc,I.cell,I.free,I.freeC,λp hp=>I.pin p (by simpa using hp),I.hok,I.len⟩
theorem Inv.untried (ok:X.Ok)(I:Inv (X.tried (X.pn++pins) W) p2 σ H s):Inv X pins σ H s :=
 ⟨ok,I.os,I.bare,I.base,I.loc,I.cell,I.free,I.freeC,λp hp=>I.pin p (yg _ hp),I.hok,I.len⟩
theorem Inv.suite (I:Inv X pins σ H s)(e1:s.heap.get? ea=some oe)(e2:H ea=none)(e3:ea≠X.env.locals)(e4:ea∉X.fs)(e5:∀ v,oe.data ≠ .cell v):Inv (X.suite (X.pn++pins++[(ea,oe)]) ea) [] σ H s :=
 ⟨I.ok.suite _ _,I.os,I.bare,I.base,I.loc,I.cell,I.free,I.freeC,λp hp=>by
  have hp':p∈X.pn++pins++[(ea,oe)]:=by simpa using hp
  rcases yx.mp hp' with z|z
  ·exact I.pin p z
  ·have q:p=(ea,oe):=by simpa using z
   subst q;exact ⟨e1,e2,e3,e4,e5⟩,I.hok,I.len⟩
theorem Inv.unsuite (ok:X.Ok)(I:Inv (X.suite (X.pn++pins++[(ea,oe)]) ea) p2 σ H s):Inv X pins σ H s :=
 ⟨ok,I.os,I.bare,I.base,I.loc,I.cell,I.free,I.freeC,λp hp=>I.pin p (yg _ (yg _ hp)),I.hok,I.len⟩
structure Zk (X:Cx)(pins:List (Addr×Obj))(b:Addr):Prop where
 s0:X.s₀.heap.get? b=none
 loc:b≠X.env.locals
 cel:∀ x c,X.env.cells.lookup x=some c->c≠b
 pin:∀ p∈X.pn++pins,p.1≠b
 fs:b∉X.fs
theorem Inv.apart (I:Inv X pins σ H s)(hex:X.ex=[])(n:s.heap.get? b=none):Zk X pins b where
 s0:=by
  cases z:X.s₀.heap.get? b with
  |none=>rfl
  |some o=>obtain ⟨o',q⟩:=I.base.there b o z (by rw [hex];exact λz=>nomatch z);rw [n] at q;cases q
 loc:=λz=>by
  obtain ⟨m,⟨o,es,ep,ho,_⟩,_⟩:=I.loc;rw [<- z,n] at ho;cases ho
 cel:=λx c e z=>by
  obtain ⟨v,o,ho,_⟩:=I.cell x c e;rw [z,n] at ho;cases ho
 pin:=λp hp z=>by
  have q:=(I.pin p hp).1;rw [z,n] at q;cases q
 fs:=λz=>by
  obtain ⟨_,o,ho,_⟩:=I.funs.mem z;rw [n] at ho;cases ho
theorem Inv.flown (I:Inv X pins σ H s)(hf:X.env.frame=some X.env.locals)(hst:X.stack=X.env::X.outer)(hS:∀ c∈S,H c=none/\Zk X pins c)(k:wR (S++c6 X.stack) X.stack s.heap h'):Inv X pins σ H { s with heap:=h' }:=by
 have hL:X.env.locals∈c6 X.stack:=by rw [hst];exact Jb yQ hf
 have sub:∀ c,c∈X.fs->c∈c6 X.stack:=λc hc=>by
  rw [hst];obtain ⟨x,hx,q⟩:=uR.mp hc;exact uR.mpr ⟨x,yR _ hx,q⟩
 have celK:∀ x c,X.env.cells.lookup x=some c->∀ v,s.heap.IsCell c v->h'.IsCell c v:=λx c e v ⟨o,ho,hd⟩=>by
  by_cases hc:c∈c6 X.stack
  ·obtain ⟨z,q⟩:=k.slot c o hc ho;exact ⟨_,q,hd⟩
  ·exact ⟨o,k.keep c o (λz=>(yx.mp z).elim (λy=>(hS c y).2.cel x c e rfl) hc) ho,hd⟩
 refine ⟨I.ok,I.os,I.bare,I.base.off k.keep (λc hc=>?_) (λc o hc q=>k.slot c o (sub c hc) q),?_,λx c e=>?_,I.free,I.freeC,λp hp=>?_,I.hok.off k.keep (λc hc=>?_),I.len⟩
 ·rcases yx.mp hc with z|z
  ·exact .inr (hS c z).2.s0
  ·rcases yM.mp (I.stkSub c z) with y|y
   ·refine .inr ?_;rw [y];exact uW I.ok.above
   ·exact .inl y
 ·obtain ⟨m,⟨o,es,ep,ho,r⟩,hl⟩:=I.loc;obtain ⟨z,q⟩:=k.slot _ o hL ho;refine ⟨m,⟨_,es,ep,q,r⟩,λi x v e1 e2 e3=>?_⟩;obtain ⟨u,r2,l⟩:=hl i x v e1 e2 e3;refine ⟨u,r2,?_⟩;rcases l with l|⟨k1,c,e,y⟩
  ·exact .inl l
  ·exact .inr ⟨k1,c,e,celK x c e _ y⟩
 ·obtain ⟨v,z⟩:=I.cell x c e;exact ⟨v,celK x c e v z⟩
 ·obtain ⟨e,n,ne,nf,d⟩:=I.pin p hp;refine ⟨k.keep p.1 p.2 (λz=>?_) e,n,ne,nf,d⟩;rcases yx.mp z with y|y
  ·exact (hS p.1 y).2.pin p hp rfl
  ·rcases yM.mp (I.stkSub p.1 y) with q|q
   ·exact ne q
   ·exact nf q
 ·rcases yx.mp hc with z|z
  ·exact (hS c z).1
  ·exact I.stkFree c z
theorem Inv.goes {M:Model}{A:Around}{Er:Value->Shared->Prop}{i:Nat}{n:Str}{Q:Unit->Shared->Prop}(I:Inv X pins σ H s)(hN:X.N.Nodup)(hi:X.N[i]?=some n)(hl:X.env.kindOf n=some .local)
  (h:∀ s',Inv X pins (σ.set i none) H s'->Q () s'):wpAny M A (do bindName X.env n .none;unbindBehindTheSuite X.env n pos) Q Er s:=by
 obtain ⟨m,hn,hv⟩:=id I.loc;have iσ:i<σ.length:=by rw [I.len];exact (yD.mp hi).1
 refine wpAny_nameGoes_keeps hl hn (by rw [I.ok.kind];rfl) λh' v hn' hs=>h _ ?_;obtain ⟨oL,_,_,hoL,_⟩:=id hn;have neL:∀ c o,X.s₀.heap.get? c=some o->c≠X.env.locals:=λc o e z=>by
  rw [z,uW I.ok.above] at e;cases e
 refine ⟨I.ok,I.os,I.bare,I.base.off (S:=[X.env.locals]) (λc o nc q=>(hs.2 c (λz=>nc (by simp [z]))).trans q) (λc hc=>?_) (λc o hc q=>⟨o.slots,(hs.2 c (λz=>?_)).trans q⟩),⟨_,hn',λj y v' e1 e2 e3=>?_⟩,λy c e=>?_,I.free,I.freeC,λp hp=>?_,
  I.hok.off (S:=[X.env.locals]) (λc o nc q=>(hs.2 c (λz=>nc (by simp [z]))).trans q) (λc hc=>?_),by simpa using I.len⟩
 ·have z:c=X.env.locals:=by simpa using hc
  refine .inr ?_;rw [z];exact uW I.ok.above
 ·rw [z] at hc;obtain ⟨_,o2,h2,_⟩:=I.ok.funs.mem hc;rw [uW I.ok.above] at h2;cases h2
 ·by_cases hj:j=i
  ·subst hj;rw [uN iσ] at e2;cases e2
  ·rw [yq (Ne.symm hj)] at e2;obtain ⟨u',r',q⟩:=hv j y v' e1 e2 e3;refine ⟨u',r',?_⟩;rcases q with ⟨k,e⟩|⟨k,c,e,z⟩
   ·refine .inl ⟨k,?_⟩;have ny:y≠n:=λe=>hj (Jh hN e1 (e▸hi));simp [ny,e]
   ·exact .inr ⟨k,c,e,z.sameBut hs (I.cne y c e)⟩
 ·obtain ⟨w',z⟩:=I.cell y c e;exact ⟨w',z.sameBut hs (I.cne y c e)⟩
 ·obtain ⟨e,n,ne,nf,d⟩:=I.pin p hp;exact ⟨(hs.2 p.1 ne).trans e,n,ne,nf,d⟩
 ·have z:c=X.env.locals:=by simpa using hc
  rw [z];exact I.free
end
theorem SP.untried {X:Cx}{pins:List (Addr×Obj)}{W:Value->Shared->Prop}{D:qM}{f:Flow}{s:Shared}(ok:X.Ok)(h:SP (X.tried (X.pn++pins) W) p2 D f s):SP X pins D f s:=by
 cases f with
 |next=>obtain ⟨σ',H',I,q⟩:=h;exact ⟨σ',H',I.untried ok,q⟩
 |brk=>obtain ⟨σ',H',I,q⟩:=h;exact ⟨σ',H',I.untried ok,q⟩
 |cont=>obtain ⟨σ',H',I,q⟩:=h;exact ⟨σ',H',I.untried ok,q⟩
 |ret u=>obtain ⟨v,σ',H',I,r,q⟩:=h;exact ⟨v,σ',H',I.untried ok,r,q⟩
theorem Kf {h base:Heap}(fr:h.FunFrames base l)(k:(PySem.W.hideAll h (S++c6 l)).StaysIn h')(up:h.UpToSlots h'):wR (S++c6 l) l h h' :=
 ⟨λb o nb q=>k b o (PySem.W.hideAll_get _ q nb),λb o hb q=>up b o q (by
  obtain ⟨_,o2,z3,z4⟩:=fr.mem hb;rw [q] at z3;cases z3;exact z4)⟩
end L2
namespace L2
open PySem PySem.Spec PyProof.Rows PySem.W Builtin Builtin.ObjectAttr Builtin.Getset_descriptor
variable{C ea:Addr}{h:Heap}
theorem Bh:bootBuiltins "ValueError"=some (.type "ValueError"):=by decide +kernel
structure xk (K:Fg)(C:Addr):Prop where
 cls:(clsIn K C).isSome=true
 ga:findIn K (.ref C) "__getattribute__"=some (some (.builtin "BaseException.__getattribute__"))
 gt:findIn K (.ref C) "__getattr__"=some none
 cl:findIn K (.ref C) "__class__"=some (some (.builtin "object.__class__"))
 sp:specialIn K (.builtin "object.__class__") "__get__"=some (some (.builtin "getset_descriptor.__get__"))
 tk:takesIn K (.builtin "object.__class__")=some true
 ob:mroIn K C (.type "object")=some true
 be:mroIn K C (.type "BaseException")=some true
def ExcAt (ea C:Addr)(h:Heap):Prop:=∃ o,h.get? ea=some o/\o.cls = .ref C
theorem ExcAt.ty {M:Model}(p:ExcAt ea C h):Looks M h (typeOf (.ref ea)) (.ref C):=by obtain ⟨o,a,b⟩:=p;exact b▸(Looks.ld a).andThen .now
section
variable {prog:Program}{w:World}{A:Around}{K:Fg}{s:Shared}{ea C:Addr}
theorem Pi {R:Result->Shared->Prop}{tp:Value}(T:xk K C)(X:K.In s.heap)(p:ExcAt ea C s.heap)(h:R (.ok (.ret (.ref C))) s):codeAny (model prog w) A (.call (.builtin "getset_descriptor.__get__") ⟨[.builtin "object.__class__",.ref ea,tp],[]⟩) R s:=by
 cases s with
 |mk hp gs dr tk os =>
  have y0:=p.ty (M:=model prog w);have y1:=looks_mroIn (M:=model prog w) X T.ob;refine codeAny_call_builtin KF.slot_gs.plain KF.entry_gs ?_;refine KF.slot_gs.check _ _ _ _ _ _ _ _ KF.type_class (KF.args_gs _ _ _) ?_;unfold Builtin.«getset_descriptor.__get__» descrGet;rw [dga_obj (.builtin "object.__class__") tp ea];apply yY;apply yI;unfold descrGetter descrCheckInstance descrNameAndClass isInstance;simp only [KF.owner_class]
  repeat lk
  constructor
  ·exact Code.quiet_builtin _ (by decide +kernel)
  ·refine codeAny_builtin KF.entry_class ?_;unfold Builtin.«object.__class__» shownTypeOf
   repeat lk
   exact h
theorem Pj {M:Model}(T:xk K C)(X:K.In h):Looks M h (find (.ref ea) (.ref C) "__class__") (.bind (.builtin "getset_descriptor.__get__") (.builtin "object.__class__")):=by have y1:=looks_findIn (M:=M) X T.cl;have y2:Looks M h (getOf (some (.builtin "object.__class__"))) (some (.builtin "getset_descriptor.__get__")):=looks_specialIn X T.sp;have y3:=looks_takesIn (M:=M) X T.tk;have y4:Looks M h (dataDescriptor? (some (.builtin "object.__class__")) (some (.builtin "getset_descriptor.__get__"))) (some (.builtin "getset_descriptor.__get__",.builtin "object.__class__")):=y3.andThen .now;exact y1.andThen (y2.andThen (y4.andThen (Looks.tag .now)))
theorem Ph {Q:Option Value->Shared->Prop}{Er:Value->Shared->Prop}(T:xk K C)(X:K.In s.heap)(p:ExcAt ea C s.heap)(h:Q (some (.ref C)) { s with toks:=s.toks+1 }):wpAny (model prog w) A (getAttr? (.ref ea) "__class__") Q Er s:=by
 cases s with
 |mk hp gs dr tk os =>
  have y0:=p.ty (M:=model prog w);have y1:=looks_findIn (M:=model prog w) X T.ga;have y2:=looks_findIn (M:=model prog w) X T.gt;have y3:=Pj (M:=model prog w) (ea:=ea) T X;have y4:=looks_mroIn (M:=model prog w) X T.be;unfold getAttr? getAttrBy? getAttrBy;refine yY (wpAny_mkText (yY (wpAny_attempt (wpAny_holding (yY (y0.at ?_))))));refine yY (y1.at ?_);have n1:(onTheHeap (Value.ref C)&&Value.builtin "BaseException.__getattribute__" == Value.builtin "object.__getattribute__")=false:=by rw [show (Value.builtin "BaseException.__getattribute__" == Value.builtin "object.__getattribute__")=false by decide +kernel,ut]
  dsimp only
  rw [n1,if_neg yU];unfold getAttrByItsOwn hookBefore;rw [show onTheHeap (Value.ref C)=true from rfl,if_pos rfl];refine yY (y2.at ?_);refine yY (wpAny_attempt (wpAny_holding ?_));unfold callGetattribute boundAndCalled;rw [Bool.false_and,if_neg yU];refine yY (wpAny_of_eq (PySem.F.excAttr_ValueError.ga.bind (.ref ea)) ?_);refine wpAny_call (codeAny_call_builtin PySem.F.excAttr_ValueError.ga.plain PySem.F.entry_bexc_ga ?_);have hk:builtinKind "BaseException.__getattribute__"=some .slot:=by decide +kernel
  have hq:splitId "BaseException.__getattribute__"=some ("BaseException","__getattribute__"):=by decide +kernel
  have ha:=PySem.F.args_bexc_ga (.ref ea) (.str "__class__" tk);simp only [checkBuiltinCall,hk,hq];have hb:Looks (model prog w) hp (isInstance (.ref ea) (.type "BaseException")) true:=y0.andThen y4;refine yY (hb.at ?_);rw [Bool.not_true];rw [if_neg yU];refine wpAny_of_eq ha ?_;unfold Builtin.«object.__getattribute__»;refine yY (yI ?_);refine yY (yI (yY (y0.at (yY (y3.at ?_)))));unfold bindTo;show wpAny _ _ (holding [Value.builtin "object.__class__"] (call (.builtin "getset_descriptor.__get__") [.builtin "object.__class__",.ref ea,.ref C]) >>= ret) _ _ _;refine yY (wpAny_holding (wpAny_call (Pi T X p (yI ?_))));refine handed_on rfl (yI h)
end
theorem Ct {K:Fg}(T:xk K C):KitX K (.ref ea) (.ref C) (ExcAt ea C) where
 ty:=λ_ _ _ p=>p.ty
 it:=λM h X _=>by
  have z:=T.cls;unfold clsIn at z;split at z
  next c' d' cd' sl' ho =>
   intro A' Q' E' s' k q;unfold isType loadHead;refine yY (wpAny_loadPart (k _ _ (X _ _ ho)) ?_);exact yI q
  next=>cases z
 ne:=λh tp dd its n sl X htp=>by
  cases hb:((.ref C:Value) == .ref tp) with
  |false=>rfl
  |true =>
   have e:C=tp:=Value.ref.inj (beq_iff_eq.mp hb);have z:=T.cls;unfold clsIn at z;split at z
   next c' d' cd' sl' ho =>
    have y:=X _ _ ho;rw [e,htp] at y;cases y
   next=>cases z
 ca:=λX p k=>Ph T X p k
section
variable {X:Cx}{K:Fg}{ea C:Addr}{oe:Obj}
theorem QX (hK:X.K=K)(hp:(ea,oe)∈X.pn)(hc:oe.cls = .ref C)(T:xk K C):CallR X (.builtin "isinstance") (λxs H Q=>∃ (c:V) (d:Value) (b:Bool),xs=[.ref ea,c]/\(∀ u,RelV c u->u=d)/\kitOne K (.ref C) d=some b/\Q (.bl b) H):=by subst hK;intro pins s σ H xs us Q I r h;obtain ⟨c,d,b,rfl,hd,e,q⟩:=h;obtain ⟨u,w',rfl,rx,rw'⟩:=KA r;obtain rfl:u=Value.ref ea:=rx;obtain rfl:=hd w' rw';have z:=(I.pin _ (yg _ hp)).1;exact kia_one (Ct T) I.kIn ⟨oe,z,hc⟩ e (λz=>nomatch z) λtk=>⟨.bl b,H,I.tok _,rfl,q⟩
end
end L2
namespace L2
open PySem PySem.Spec PyProof.Rows
section
variable {X:Cx}
def Lg:V->List V->Hp->VK->Prop:=λx vs H Q=>∃(l:Addr)(xs:List V)(i:Int)(y:V),x = .ref l/\vs=[.int i,y]/\H l=some (.lst xs)/\0<=i/\i<=(xs.length:Int)/\xs.length<1000/\Q .non (z8 H l (.lst (xs.take i.toNat++y::xs.drop i.toNat)))
theorem CO:MtM X "list.insert" Lg:=by
 intro pins s σ H x vs v us Q I rx rv h;obtain ⟨l,xs,i,y,rfl,rfl,hH,h0,hi,hz,q⟩:=h;cases rx;obtain ⟨u,w',rfl,⟨t,rfl⟩,rw'⟩:=rv.two;obtain ⟨z,its,n,r,hl,e⟩:=I.lstM hH;have hfit:¬ (!Builtin.List.listFitsIndex i)=true:=by rw [fitsIndex_both (k:=i) (by omega) (by omega)];decide
 have hsz:its.toArray.size<=sizeLine:=by rw [yV,<- hl];exact z
 refine call_meets F.slot_list_insert ⟨_,e,rfl⟩ F.entry_list_insert (F.args_list_insert_3 _ _ _) (AutoSeq1.list_insert_list_int_val_1 l its.toArray n i t w' hfit hsz) ⟨e,?_⟩;refine ⟨.non,_,I.lset (its':=its.take i.toNat++w'::its.drop i.toNat) hH e ?_ ((r.take i.toNat).append (.cons rw' (r.drop i.toNat))) ?_,rfl,q⟩
 ·have e1:¬ (i<0):=by omega
  have e2:min i.toNat its.toArray.size=i.toNat:=by rw [yV];omega
  show (its.toArray.extract 0 (if i<0 then (i+(its.toArray.size:Int)).toNat else min i.toNat its.toArray.size)).push w'++its.toArray.extract (if i<0 then (i+(its.toArray.size:Int)).toNat else min i.toNat its.toArray.size)=_;rw [if_neg e1,e2];apply Array.toList_inj.mp;simp [List.extract_eq_take_drop]
  try exact List.take_of_length_le (by rw [List.length_drop];exact yS _)
 ·rw [yL,yC,List.length_take,List.length_drop];have:=wE (n:=1000) (yS _);omega
end
end L2
namespace L2
open PySem PySem.Spec PyProof.Rows PySem.SeqAt
variable{x y:V}{A:Around}{u v:Value}{l:Addr}{items:Array Value}{n:Nat}{b:Bool}{K:Fg}
def EqP (K:Fg)(H:Hp):Nat->V->V->Bool->Prop
 |0,x,y,b=>k6 x=true/\k6 y=true/\b=m7 x y
 |n+1,x,y,b=>(k6 x=true/\k6 y=true/\b=m7 x y) ∨
  (∃(a c:Addr)(xs ys:List V),x = .ref a/\y = .ref c/\SqL K H a xs/\SqL K H c ys/\((xs.length≠ys.length/\b=false)∨(xs.length=ys.length/\∃ e:Nat->Bool,(∀ j (h1:j<xs.length) (h2:j<ys.length),EqP K H n xs[j] ys[j] (e j))/\b=(List.range xs.length).all e))) ∨
  (∃(a c:Addr)(xs ys:List V),x = .ref a/\y = .ref c/\SqT K H a xs/\SqT K H c ys/\∃ e:Nat->Bool,(∀ j (h1:j<xs.length) (h2:j<ys.length),EqP K H n xs[j] ys[j] (e j))/\b=((List.range (min xs.length ys.length)).all e&&xs.length==ys.length)) ∨
  (∃(a c:Addr)(xs ys:List V),x = .ref a/\y = .ref c/\SqL K H a xs/\SqT K H c ys/\b=false) ∨
  (∃(a c:Addr)(xs ys:List V),x = .ref a/\y = .ref c/\SqT K H a xs/\SqL K H c ys/\b=false) ∨
  (∃(c:Addr)(ys:List V),k6 x=true/\y = .ref c/\(SqL K H c ys∨SqT K H c ys)/\b=false) ∨
  (∃(a:Addr)(xs:List V),k6 y=true/\x = .ref a/\(SqL K H a xs∨SqT K H a xs)/\b=false)
theorem Xh (h:k6 x=true):m7 x x=true:=by cases x<;>first|rfl|exact beq_self_eq_true _|cases h
theorem GH {s:Shared}(ry:RelV y u)(rx:RelV x v)(fy:k6 y=true)(fx:k6 x=true):RcAt A s u v (m7 y x):=by
 cases y with
 |non =>
  cases ry;cases x with
  |non=>cases rx;exact RcAt.none_none
  |bl b=>cases rx;exact RcAt.none_bool b
  |int b=>obtain ⟨t2,rfl⟩:=rx;exact RcAt.none_int b t2
  |str b=>obtain ⟨t2,rfl⟩:=rx;exact RcAt.none_str b t2
  |_=>exact absurd (show false=true from fx) yU
 |bl a =>
  cases ry;cases x with
  |non=>cases rx;exact RcAt.bool_none a
  |bl b=>cases rx;exact RcAt.bool_bool a b
  |int b=>obtain ⟨t2,rfl⟩:=rx;exact RcAt.bool_int a b t2
  |str b=>obtain ⟨t2,rfl⟩:=rx;exact RcAt.bool_str a b t2
  |_=>exact absurd (show false=true from fx) yU
 |int a =>
  obtain ⟨t1,rfl⟩:=ry;cases x with
  |non=>cases rx;exact RcAt.int_none a t1
  |bl b=>cases rx;exact RcAt.int_bool a t1 b
  |int b=>obtain ⟨t2,rfl⟩:=rx;exact RcAt.int_int a t1 b t2
  |str b=>obtain ⟨t2,rfl⟩:=rx;exact RcAt.int_str a t1 b t2
  |_=>exact absurd (show false=true from fx) yU
 |str a =>
  obtain ⟨t1,rfl⟩:=ry;cases x with
  |non=>cases rx;exact RcAt.str_none a t1
  |bl b=>cases rx;exact RcAt.str_bool a t1 b
  |int b=>obtain ⟨t2,rfl⟩:=rx;exact RcAt.str_int a t1 b t2
  |str b=>obtain ⟨t2,rfl⟩:=rx;exact RcAt.str_str a t1 b t2
  |_=>exact absurd (show false=true from fx) yU
 |_=>exact absurd (show false=true from fy) yU
theorem GI {s:Shared}(ry:RelV y u)(rx:RelV x v)(fy:k6 y=true)(fx:k6 x=true):RcNeAt A s u v (!m7 y x):=by
 cases y with
 |non =>
  cases ry;cases x with
  |non=>cases rx;exact RcNeAt.none_none
  |bl b=>cases rx;exact RcNeAt.none_bool b
  |int b=>obtain ⟨t2,rfl⟩:=rx;exact RcNeAt.none_int b t2
  |str b=>obtain ⟨t2,rfl⟩:=rx;exact RcNeAt.none_str b t2
  |_=>exact absurd (show false=true from fx) yU
 |bl a =>
  cases ry;cases x with
  |non=>cases rx;exact RcNeAt.bool_none a
  |bl b=>cases rx;exact RcNeAt.bool_bool a b
  |int b=>obtain ⟨t2,rfl⟩:=rx;exact RcNeAt.bool_int a b t2
  |str b=>obtain ⟨t2,rfl⟩:=rx;exact RcNeAt.bool_str a b t2
  |_=>exact absurd (show false=true from fx) yU
 |int a =>
  obtain ⟨t1,rfl⟩:=ry;cases x with
  |non=>cases rx;exact RcNeAt.int_none a t1
  |bl b=>cases rx;exact RcNeAt.int_bool a t1 b
  |int b=>obtain ⟨t2,rfl⟩:=rx;exact RcNeAt.int_int a t1 b t2
  |str b=>obtain ⟨t2,rfl⟩:=rx;exact RcNeAt.int_str a t1 b t2
  |_=>exact absurd (show false=true from fx) yU
 |str a =>
  obtain ⟨t1,rfl⟩:=ry;cases x with
  |non=>cases rx;exact RcNeAt.str_none a t1
  |bl b=>cases rx;exact RcNeAt.str_bool a t1 b
  |int b=>obtain ⟨t2,rfl⟩:=rx;exact RcNeAt.str_int a t1 b t2
  |str b=>obtain ⟨t2,rfl⟩:=rx;exact RcNeAt.str_str a t1 b t2
  |_=>exact absurd (show false=true from fx) yU
 |_=>exact absurd (show false=true from fy) yU
theorem BV {s:Shared}(hl:s.heap.IsList l items)(hu:A.units<cLine)(ry:RelV y u)(fy:k6 y=true):EqAt A s u (.ref l) false:=by
 cases y with
 |non=>cases ry;exact EqAt.none_list hl hu
 |bl a=>cases ry;exact EqAt.bool_list a hl hu
 |int a=>obtain ⟨t1,rfl⟩:=ry;exact EqAt.int_list a t1 hl hu
 |str a=>obtain ⟨t1,rfl⟩:=ry;exact EqAt.str_list a t1 hl hu
 |_=>exact absurd (show false=true from fy) yU
theorem BX {s:Shared}(hl:s.heap.IsList l items)(hu:A.units<cLine)(ry:RelV y u)(fy:k6 y=true):EqAt A s (.ref l) u false:=by
 cases y with
 |non=>cases ry;exact EqAt.list_none hl hu
 |bl a=>cases ry;exact EqAt.list_bool a hl hu
 |int a=>obtain ⟨t1,rfl⟩:=ry;exact EqAt.list_int a t1 hl hu
 |str a=>obtain ⟨t1,rfl⟩:=ry;exact EqAt.list_str a t1 hl hu
 |_=>exact absurd (show false=true from fy) yU
theorem BW {s:Shared}(hl:s.heap.IsTuple l items)(hu:A.units<cLine)(ry:RelV y u)(fy:k6 y=true):EqAt A s u (.ref l) false:=by
 cases y with
 |non=>cases ry;exact EqAt.none_tuple hl hu
 |bl a=>cases ry;exact EqAt.bool_tuple a hl hu
 |int a=>obtain ⟨t1,rfl⟩:=ry;exact EqAt.int_tuple a t1 hl hu
 |str a=>obtain ⟨t1,rfl⟩:=ry;exact EqAt.str_tuple a t1 hl hu
 |_=>exact absurd (show false=true from fy) yU
theorem BY {s:Shared}(hl:s.heap.IsTuple l items)(hu:A.units<cLine)(ry:RelV y u)(fy:k6 y=true):EqAt A s (.ref l) u false:=by
 cases y with
 |non=>cases ry;exact EqAt.tuple_none hl hu
 |bl a=>cases ry;exact EqAt.tuple_bool a hl hu
 |int a=>obtain ⟨t1,rfl⟩:=ry;exact EqAt.tuple_int a t1 hl hu
 |str a=>obtain ⟨t1,rfl⟩:=ry;exact EqAt.tuple_str a t1 hl hu
 |_=>exact absurd (show false=true from fy) yU
theorem Li {s:Shared}(hl:s.heap.IsList l items)(hu:A.units<cLine)(ry:RelV y u)(fy:k6 y=true):RcAt A s u (.ref l) false:=by
 cases y with
 |non=>cases ry;exact RcAt.none_list hl hu
 |bl a=>cases ry;exact RcAt.bool_list a hl hu
 |int a=>obtain ⟨t1,rfl⟩:=ry;exact RcAt.int_list a t1 hl hu
 |str a=>obtain ⟨t1,rfl⟩:=ry;exact RcAt.str_list a t1 hl hu
 |_=>exact absurd (show false=true from fy) yU
theorem Lk {s:Shared}(hl:s.heap.IsList l items)(hu:A.units<cLine)(ry:RelV y u)(fy:k6 y=true):RcAt A s (.ref l) u false:=by
 cases y with
 |non=>cases ry;exact RcAt.list_none hl hu
 |bl a=>cases ry;exact RcAt.list_bool a hl hu
 |int a=>obtain ⟨t1,rfl⟩:=ry;exact RcAt.list_int a t1 hl hu
 |str a=>obtain ⟨t1,rfl⟩:=ry;exact RcAt.list_str a t1 hl hu
 |_=>exact absurd (show false=true from fy) yU
theorem Lj {s:Shared}(hl:s.heap.IsTuple l items)(hu:A.units<cLine)(ry:RelV y u)(fy:k6 y=true):RcAt A s u (.ref l) false:=by
 cases y with
 |non=>cases ry;exact RcAt.none_tuple hl hu
 |bl a=>cases ry;exact RcAt.bool_tuple a hl hu
 |int a=>obtain ⟨t1,rfl⟩:=ry;exact RcAt.int_tuple a t1 hl hu
 |str a=>obtain ⟨t1,rfl⟩:=ry;exact RcAt.str_tuple a t1 hl hu
 |_=>exact absurd (show false=true from fy) yU
theorem Ll {s:Shared}(hl:s.heap.IsTuple l items)(hu:A.units<cLine)(ry:RelV y u)(fy:k6 y=true):RcAt A s (.ref l) u false:=by
 cases y with
 |non=>cases ry;exact RcAt.tuple_none hl hu
 |bl a=>cases ry;exact RcAt.tuple_bool a hl hu
 |int a=>obtain ⟨t1,rfl⟩:=ry;exact RcAt.tuple_int a t1 hl hu
 |str a=>obtain ⟨t1,rfl⟩:=ry;exact RcAt.tuple_str a t1 hl hu
 |_=>exact absurd (show false=true from fy) yU
theorem Lm {s:Shared}(hl:s.heap.IsList l items)(hu:A.units<cLine)(ry:RelV y u)(fy:k6 y=true):RcNeAt A s u (.ref l) true:=by
 cases y with
 |non=>cases ry;exact RcNeAt.none_list hl hu
 |bl a=>cases ry;exact RcNeAt.bool_list a hl hu
 |int a=>obtain ⟨t1,rfl⟩:=ry;exact RcNeAt.int_list a t1 hl hu
 |str a=>obtain ⟨t1,rfl⟩:=ry;exact RcNeAt.str_list a t1 hl hu
 |_=>exact absurd (show false=true from fy) yU
theorem Lo {s:Shared}(hl:s.heap.IsList l items)(hu:A.units<cLine)(ry:RelV y u)(fy:k6 y=true):RcNeAt A s (.ref l) u true:=by
 cases y with
 |non=>cases ry;exact RcNeAt.list_none hl hu
 |bl a=>cases ry;exact RcNeAt.list_bool a hl hu
 |int a=>obtain ⟨t1,rfl⟩:=ry;exact RcNeAt.list_int a t1 hl hu
 |str a=>obtain ⟨t1,rfl⟩:=ry;exact RcNeAt.list_str a t1 hl hu
 |_=>exact absurd (show false=true from fy) yU
theorem Ln {s:Shared}(hl:s.heap.IsTuple l items)(hu:A.units<cLine)(ry:RelV y u)(fy:k6 y=true):RcNeAt A s u (.ref l) true:=by
 cases y with
 |non=>cases ry;exact RcNeAt.none_tuple hl hu
 |bl a=>cases ry;exact RcNeAt.bool_tuple a hl hu
 |int a=>obtain ⟨t1,rfl⟩:=ry;exact RcNeAt.int_tuple a t1 hl hu
 |str a=>obtain ⟨t1,rfl⟩:=ry;exact RcNeAt.str_tuple a t1 hl hu
 |_=>exact absurd (show false=true from fy) yU
theorem Lp {s:Shared}(hl:s.heap.IsTuple l items)(hu:A.units<cLine)(ry:RelV y u)(fy:k6 y=true):RcNeAt A s (.ref l) u true:=by
 cases y with
 |non=>cases ry;exact RcNeAt.tuple_none hl hu
 |bl a=>cases ry;exact RcNeAt.tuple_bool a hl hu
 |int a=>obtain ⟨t1,rfl⟩:=ry;exact RcNeAt.tuple_int a t1 hl hu
 |str a=>obtain ⟨t1,rfl⟩:=ry;exact RcNeAt.tuple_str a t1 hl hu
 |_=>exact absurd (show false=true from fy) yU
section
variable {X:Cx}{pins:List (Addr×Obj)}{σ:St}{H:Hp}{s:Shared}
theorem Xg (I:Inv X pins σ H s):∀(n:Nat){x:V}{b:Bool},EqP X.K H n x x b->b=true
 |0,x,b,h=>by obtain ⟨h1,_,rfl⟩:=h;exact Xh h1
 |n+1,x,b,h=>by
  rcases h with ⟨h1,_,rfl⟩|⟨a,c,xs,ys,rfl,e2,p1,p2,h⟩|⟨a,c,xs,ys,rfl,e2,p1,p2,e,he,rfl⟩|⟨a,c,xs,ys,rfl,e2,p1,p2,_⟩|⟨a,c,xs,ys,rfl,e2,p1,p2,_⟩|⟨c,ys,f,rfl,_⟩|⟨c,ys,f,rfl,_⟩
  ·exact Xh h1
  ·cases e2;cases I.list_inj p1 p2;rcases h with ⟨h,_⟩|⟨_,e,he,rfl⟩
   ·exact absurd rfl h
   ·rw [uU];exact λj hj=>Xg I n (he j (uB.mp hj) (uB.mp hj))
  ·cases e2;cases I.tuple_inj p1 p2;rw [Nat.min_self,beq_self_eq_true,Bool.and_true,uU];exact λj hj=>Xg I n (he j (uB.mp hj) (uB.mp hj))
  ·cases e2;obtain ⟨_,_,⟨o1,_,q1,c1,_⟩,_⟩:=I.list p1;obtain ⟨_,_,⟨o2,q2,c2,_⟩,_⟩:=I.tuple p2;rw [q1] at q2;cases q2;rw [c1] at c2;exact absurd c2 (by decide)
  ·cases e2;obtain ⟨_,_,⟨o2,q2,c2,_⟩,_⟩:=I.tuple p1;obtain ⟨_,_,⟨o1,_,q1,c1,_⟩,_⟩:=I.list p2;rw [q1] at q2;cases q2;rw [c1] at c2;exact absurd c2 (by decide)
  ·cases f
  ·cases f
theorem vY (I:Inv X pins σ H s):∀(n:Nat)(A:Around){x y:V}{u v:Value}{b:Bool},A.units+n<cLine->EqP X.K H n x y b->RelV x u->RelV y v->EqAt A s u v b
 |0,A,x,y,u,v,b,hu,h,r1,r2=>by obtain ⟨h1,h2,rfl⟩:=h;exact Zz r1 r2 h1 h2
 |n+1,A,x,y,u,v,b,hu,h,r1,r2=>by
  have h':=h;rcases h with ⟨h1,h2,rfl⟩|⟨a,c,xs,ys,rfl,rfl,p1,p2,h⟩|⟨a,c,xs,ys,rfl,rfl,p1,p2,e,he,rfl⟩|⟨a,c,xs,ys,rfl,rfl,p1,p2,rfl⟩|⟨a,c,xs,ys,rfl,rfl,p1,p2,rfl⟩|⟨c,ys,f,rfl,p,rfl⟩|⟨c,ys,f,rfl,p,rfl⟩
  ·exact Zz r1 r2 h1 h2
  ·cases r1;cases r2;by_cases hac:a=c
   ·subst hac;have hb:=Xg I (n+1) h';rw [hb];exact EqAt.same _
   obtain ⟨us,v1,q1,_⟩:=I.list p1;obtain ⟨ws,v2,q2,_⟩:=I.list p2;have l1:=v1.length;have l2:=v2.length;refine EqAt.of_refs hac ?_;rcases h with ⟨h,rfl⟩|⟨hl,e,he,rfl⟩
   ·exact RcAt.lists_lengths q1.isList q2.isList (by rw [yV,yV];simp;omega) (by omega)
   ·have q:=RcAt.lists (A:=A) (s:=s) q1.isList q2.isList (by rw [yV,yV];omega) (by omega) (e:=e) (λj j1 j2=>?_)
    ·rw [yV,<- l1] at q;exact q
    ·have j1':j<us.length:=by simpa using j1
     have j2':j<ws.length:=by simpa using j2
     rw [ye,ye];exact vY I n A.in1 (by show A.units+1+n<cLine;omega) (he j (by omega) (by omega)) (xO v1 j (by omega) j1') (xO v2 j (by omega) j2')
  ·cases r1;cases r2;by_cases hac:a=c
   ·subst hac;have hb:=Xg I (n+1) h';rw [hb];exact EqAt.same _
   obtain ⟨us,v1,q1,_⟩:=I.tuple p1;obtain ⟨ws,v2,q2,_⟩:=I.tuple p2;have l1:=v1.length;have l2:=v2.length;refine EqAt.of_refs hac ?_;have q:=RcAt.tuples (A:=A) (s:=s) q1 q2 (by omega) (e:=e) (λj j1 j2=>?_)
   ·rw [yV,yV,<- l1,<- l2] at q;exact q
   ·have j1':j<us.length:=by simpa using j1
    have j2':j<ws.length:=by simpa using j2
    rw [ye,ye];exact vY I n A.in1 (by show A.units+1+n<cLine;omega) (he j (by omega) (by omega)) (xO v1 j (by omega) j1') (xO v2 j (by omega) j2')
  ·cases r1;cases r2;obtain ⟨us,v1,q1,_⟩:=I.list p1;obtain ⟨ws,v2,q2,_⟩:=I.tuple p2;exact EqAt.list_tuple q1.isList q2 (by omega)
  ·cases r1;cases r2;obtain ⟨us,v1,q1,_⟩:=I.tuple p1;obtain ⟨ws,v2,q2,_⟩:=I.list p2;exact EqAt.tuple_list q1 q2.isList (by omega)
  ·cases r2;rcases p with p|p
   ·obtain ⟨us,v1,q1,_⟩:=I.list p;exact BV q1.isList (by omega) r1 f
   ·obtain ⟨us,v1,q1,_⟩:=I.tuple p;exact BW q1 (by omega) r1 f
  ·cases r1;rcases p with p|p
   ·obtain ⟨us,v1,q1,_⟩:=I.list p;exact BX q1.isList (by omega) r2 f
   ·obtain ⟨us,v1,q1,_⟩:=I.tuple p;exact BY q1 (by omega) r2 f
theorem rc_at (I:Inv X pins σ H s)(hu:A.units+n<cLine)(h:EqP X.K H n x y b)(r1:RelV x u)(r2:RelV y v):RcAt A s u v b:=by
 cases n with
 |zero=>obtain ⟨h1,h2,rfl⟩:=h;exact GH r1 r2 h1 h2
 |succ n =>
  rcases h with ⟨h1,h2,rfl⟩|⟨a,c,xs,ys,rfl,rfl,p1,p2,h⟩|⟨a,c,xs,ys,rfl,rfl,p1,p2,e,he,rfl⟩|⟨a,c,xs,ys,rfl,rfl,p1,p2,rfl⟩|⟨a,c,xs,ys,rfl,rfl,p1,p2,rfl⟩|⟨c,ys,f,rfl,p,rfl⟩|⟨c,ys,f,rfl,p,rfl⟩
  ·exact GH r1 r2 h1 h2
  ·cases r1;cases r2;obtain ⟨us,v1,q1,_⟩:=I.list p1;obtain ⟨ws,v2,q2,_⟩:=I.list p2;have l1:=v1.length;have l2:=v2.length;rcases h with ⟨h,rfl⟩|⟨hl,e,he,rfl⟩
   ·exact RcAt.lists_lengths q1.isList q2.isList (by rw [yV,yV];simp;omega) (by omega)
   ·have q:=RcAt.lists (A:=A) (s:=s) q1.isList q2.isList (by rw [yV,yV];omega) (by omega) (e:=e) (λj j1 j2=>?_)
    ·rw [yV,<- l1] at q;exact q
    ·have j1':j<us.length:=by simpa using j1
     have j2':j<ws.length:=by simpa using j2
     rw [ye,ye];exact vY I n A.in1 (by show A.units+1+n<cLine;omega) (he j (by omega) (by omega)) (xO v1 j (by omega) j1') (xO v2 j (by omega) j2')
  ·cases r1;cases r2;obtain ⟨us,v1,q1,_⟩:=I.tuple p1;obtain ⟨ws,v2,q2,_⟩:=I.tuple p2;have l1:=v1.length;have l2:=v2.length;have q:=RcAt.tuples (A:=A) (s:=s) q1 q2 (by omega) (e:=e) (λj j1 j2=>?_)
   ·rw [yV,yV,<- l1,<- l2] at q;exact q
   ·have j1':j<us.length:=by simpa using j1
    have j2':j<ws.length:=by simpa using j2
    rw [ye,ye];exact vY I n A.in1 (by show A.units+1+n<cLine;omega) (he j (by omega) (by omega)) (xO v1 j (by omega) j1') (xO v2 j (by omega) j2')
  ·cases r1;cases r2;obtain ⟨us,v1,q1,_⟩:=I.list p1;obtain ⟨ws,v2,q2,_⟩:=I.tuple p2;exact RcAt.list_tuple q1.isList q2 (by omega)
  ·cases r1;cases r2;obtain ⟨us,v1,q1,_⟩:=I.tuple p1;obtain ⟨ws,v2,q2,_⟩:=I.list p2;exact RcAt.tuple_list q1 q2.isList (by omega)
  ·cases r2;rcases p with p|p
   ·obtain ⟨us,v1,q1,_⟩:=I.list p;exact Li q1.isList (by omega) r1 f
   ·obtain ⟨us,v1,q1,_⟩:=I.tuple p;exact Lj q1 (by omega) r1 f
  ·cases r1;rcases p with p|p
   ·obtain ⟨us,v1,q1,_⟩:=I.list p;exact Lk q1.isList (by omega) r2 f
   ·obtain ⟨us,v1,q1,_⟩:=I.tuple p;exact Ll q1 (by omega) r2 f
theorem Lq (I:Inv X pins σ H s)(hu:A.units+n<cLine)(h:EqP X.K H n x y b)(r1:RelV x u)(r2:RelV y v):RcNeAt A s u v (!b):=by
 cases n with
 |zero=>obtain ⟨h1,h2,rfl⟩:=h;exact GI r1 r2 h1 h2
 |succ n =>
  rcases h with ⟨h1,h2,rfl⟩|⟨a,c,xs,ys,rfl,rfl,p1,p2,h⟩|⟨a,c,xs,ys,rfl,rfl,p1,p2,e,he,rfl⟩|⟨a,c,xs,ys,rfl,rfl,p1,p2,rfl⟩|⟨a,c,xs,ys,rfl,rfl,p1,p2,rfl⟩|⟨c,ys,f,rfl,p,rfl⟩|⟨c,ys,f,rfl,p,rfl⟩
  ·exact GI r1 r2 h1 h2
  ·cases r1;cases r2;obtain ⟨us,v1,q1,_⟩:=I.list p1;obtain ⟨ws,v2,q2,_⟩:=I.list p2;have l1:=v1.length;have l2:=v2.length;rcases h with ⟨h,rfl⟩|⟨hl,e,he,rfl⟩
   ·exact RcNeAt.lists_lengths q1.isList q2.isList (by rw [yV,yV];simp;omega) (by omega)
   ·have q:=RcNeAt.lists (A:=A) (s:=s) q1.isList q2.isList (by rw [yV,yV];omega) (by omega) (e:=e) (λj j1 j2=>?_)
    ·rw [yV,<- l1] at q;exact q
    ·have j1':j<us.length:=by simpa using j1
     have j2':j<ws.length:=by simpa using j2
     rw [ye,ye];exact vY I n A.in1 (by show A.units+1+n<cLine;omega) (he j (by omega) (by omega)) (xO v1 j (by omega) j1') (xO v2 j (by omega) j2')
  ·cases r1;cases r2;obtain ⟨us,v1,q1,_⟩:=I.tuple p1;obtain ⟨ws,v2,q2,_⟩:=I.tuple p2;have l1:=v1.length;have l2:=v2.length;have q:=RcNeAt.tuples (A:=A) (s:=s) q1 q2 (by omega) (e:=e) (λj j1 j2=>?_)
   ·rw [yV,yV,<- l1,<- l2] at q;exact q
   ·have j1':j<us.length:=by simpa using j1
    have j2':j<ws.length:=by simpa using j2
    rw [ye,ye];exact vY I n A.in1 (by show A.units+1+n<cLine;omega) (he j (by omega) (by omega)) (xO v1 j (by omega) j1') (xO v2 j (by omega) j2')
  ·cases r1;cases r2;obtain ⟨us,v1,q1,_⟩:=I.list p1;obtain ⟨ws,v2,q2,_⟩:=I.tuple p2;exact RcNeAt.list_tuple q1.isList q2 (by omega)
  ·cases r1;cases r2;obtain ⟨us,v1,q1,_⟩:=I.tuple p1;obtain ⟨ws,v2,q2,_⟩:=I.list p2;exact RcNeAt.tuple_list q1 q2.isList (by omega)
  ·cases r2;rcases p with p|p
   ·obtain ⟨us,v1,q1,_⟩:=I.list p;exact Lm q1.isList (by omega) r1 f
   ·obtain ⟨us,v1,q1,_⟩:=I.tuple p;exact Ln q1 (by omega) r1 f
  ·cases r1;rcases p with p|p
   ·obtain ⟨us,v1,q1,_⟩:=I.list p;exact Lo q1.isList (by omega) r2 f
   ·obtain ⟨us,v1,q1,_⟩:=I.tuple p;exact Lp q1 (by omega) r2 f
def rEqD (K:Fg)(n:Nat)(neg:Bool):R2:=λx y H Q=>∃ b,EqP K H n x y b/\Q (.bl (if neg then !b else b)) H
theorem xV (hu:X.A.units+n<cLine)(hK:X.K=K):OpR X (compareOp .Eq) (rEqD K n false):=by subst hK;intro pins s σ H x y v u Q I rx ry h;obtain ⟨b,h,q⟩:=h;exact rc_at I hu h rx ry X.prog X.w X.xe _ ⟨.bl b,H,I,rfl,q⟩
theorem jB (hu:X.A.units+n<cLine)(hK:X.K=K):OpR X (compareOp .NotEq) (rEqD K n true):=by subst hK;intro pins s σ H x y v u Q I rx ry h;obtain ⟨b,h,q⟩:=h;exact Lq I hu h rx ry X.prog X.w X.xe _ ⟨.bl (!b),H,I,rfl,q⟩
theorem qE {k:Nat}(hr:Room k A):A.units+6<cLine:=by have:=hr.units;omega
end
end L2
namespace L2
open PySem PySem.Spec PyProof.Rows
section
variable {X:Cx}{K:Fg}
def rAddS:R2:=λx y H Q=>∃ i j,x = .str i/\y = .str j/\i.length+j.length<=sizeLine/\Q (.str (i++j)) H
def Zb (K:Fg):R2:=λx y H Q=>(rI0 λi j=> .int (i+j)) x y H Q∨rAddS x y H Q∨Zd K x y H Q∨Gw K x y H Q
theorem qZ (h:X.K=K):OpR X (binaryOp .Add) (Zb K):=by subst h;exact op_add.or (op_add_str.or (op_catL.or Mc))
theorem Cg (h:X.K=K):IxR X (rIx K):=by subst h;exact Cf
def wD (K:Fg):List V->Hp->VK->Prop:=λxs H Q=>(∃ x n,xs=[x]/\LenV K x H n/\Q (.int n) H)∨∃ a kvs,xs=[V.ref a]/\H a=some (.dK kvs)/\Q (.int kvs.length) H
theorem qf (h:X.K=K):CallR X (.builtin "len") (wD K):=by subst h;exact CallR.or (f:= .builtin "len") Bt Bu
theorem Ld {a:Expr}{ta:TE}(h:X.K=K)(ha:PE X a ta)(he:∀ whole,isTrue a X.env whole=(do let v <- whole;standAt a.pos;holding [v] (truthy v))):PT X a (λσ H Q=>ta σ H λx H'=>∃ k,TruV K x H' k/\Q k H'):=by subst h;exact Le ha he
theorem Ji (h:X.K=K):OpR X (compareOp .In) (rIn K false):=by subst h;exact Md
theorem Mh (h:X.K=K):OpR X (compareOp .NotIn) (rIn K true):=by subst h;exact Mg
def GA (K:Fg):List V->Hp->VK->Prop:=λxs H Q=>∃ p ys,xs=[.ref p]/\(SqL K H p ys∨SqT K H p ys)/\∀ l,H l=none->Q (.ref l) (z8 H l (.lst ys))
theorem Zo (h:X.K=K):CallR X (.type "list") (GA K):=by subst h;exact By
def rIsi (K:Fg):List V->Hp->VK->Prop:=λxs H Q=>∃ x n T b,xs=[x,.ty n]/\xm K H x (.type T)/\tyB T n=some b/\Q (.bl b) H
theorem xT (h:X.K=K):CallR X (.builtin "isinstance") (rIsi K):=by subst h;exact Bs
def Gv (K:Fg):List V->Hp->VK->Prop:=λxs H Q=>∃(a:Addr)(bs:List Bool),xs=[.ref a]/\SqL K H a (bs.map V.bl)/\Q (.bl (bs.all id)) H
theorem jT (hc:X.calm=true)(h:X.K=K):CallR X (.builtin "all") (Gv K):=by subst h;exact Bp hc
def GF (K:Fg):List V->Hp->VK->Prop:=λxs H Q=>∃(a:Addr)(ns:List Int),xs=[.ref a]/\SqL K H a (ns.map V.int)/\Q (.int ns.sum) H
theorem BE (hc:X.calm=true)(h:X.K=K):CallR X (.builtin "sum") (GF K):=by subst h;exact Yv hc
def rIsN:R2:=λx y H Q=>y = .non/\Q (.bl (decide (x = .non))) H
def GB:R2:=λx y H Q=>y = .non/\Q (.bl (!decide (x = .non))) H
theorem Gb:OpR X (compareOp .Is) rIsN:=Me
theorem Ml:OpR X (compareOp .IsNot) GB:=Mj
theorem Bl:bootBuiltins "tuple"=some (.type "tuple"):=by decide +kernel
theorem Bk:bootBuiltins "sorted"=some (.builtin "sorted"):=by decide +kernel
theorem Yq:bootBuiltins "dict"=some (.type "dict"):=by decide +kernel
theorem NV:tyB "tuple" "tuple"=some true:=by decide +kernel
end
section
variable {X:Cx}{K:Fg}{o e:Expr}{es:List Expr}{to:TE}{t:TA}{name:Str}{apos cpos:Pos}{T id:String}{r:V->List V->Hp->VK->Prop}
theorem zq (hK:X.K=K)(pa:PlainAttrs T)(slot:Slot T name id)(hty:typeOf (.builtin id)=pure (.type "method_descriptor"))(hm:MtR X id r)(ho:PE X o to)(ha:PA X (e::es) t)(hbase:attributeBase o name X.env (eval o X.env)=eval o X.env:=by rfl)(hfew:((backTo cpos (starEach (e::es) X.env)).all (λx=>!x.1)&&(backToKw cpos (keywordEach [] X.env)).all (λx=>x.1.isSome)&&decide ((e::es).length+([]:List Keyword).length+(if ([]:List Keyword).isEmpty then 0 else 1)<30))=true:=by rfl)(hline:(apos.endLine==cpos.line)=true:=by rfl)(hs:starEach (e::es) X.env=(false,eval e X.env)::starEach es X.env:=by rfl)(hplain:(backTo cpos (starEach es X.env)).any (·.1)=false:=by rfl):PE X (.Call (.Attribute o name apos) (e::es) [] cpos) (tBM K T r to t):=by subst hK;exact pe_bm pa slot hty hm ho ha hbase hfew hline hs hplain
end
end L2
namespace L2
open PySem PySem.Spec PySem.Calls
variable{h:Heap}{a:Addr}{n:Nat}{A:Around}
section
variable {P:Program}{w:World}{κ:Type}[DecidableEq κ]{knd:PySem.KeyKind P w κ}
def c9 (val:Nat->κ):Nat->List κ
 |0=>[]
 |i+1=>if val i∈c9 val i then c9 val i else c9 val i++[val i]
theorem Ka (val:Nat->κ):∀ i,(c9 val i).length<=i
 |0=>yS _
 |i+1=>by
  have ih:=Ka val i;unfold c9;split
  ·omega
  ·rw [yL,List.length_singleton];omega
theorem Kc {S S':κ->Bool}{n':Nat}(x:h.SetOf knd a S n)(e:∀ k,S k=S' k)(en:n=n'):h.SetOf knd a S' n':=by cases (funext e:S=S');cases en;exact x
theorem Vz {h':Heap}{S:κ->Bool}(x:h.SetOf knd a S n)(e:∀ o,h.get? a=some o->h'.get? a=some o):h'.SetOf knd a S n:=by obtain ⟨o,es,ep,t,ho,r⟩:=x;exact ⟨o,es,ep,t,e _ ho,r⟩
theorem No {R:Result->Shared->Prop}{I:Addr}{fp wr:List Addr}{G:Array GenState->Array GenState->Prop}{Pp:Nat->Value->Prop}{St:Nat->Shared->Prop}(W:WalksS P w A.in1 I fp wr G n Pp St)(a:Addr)(ha:a∉fp)(val:Nat->κ)(hv:∀ i v,Pp i v->knd.is (val i) v=true/\v.scannable=true)(hb:n+1<scanBound):∀ (m i:Nat) (s:Shared),n-i=m->i<=n->St i s->s.heap.SetOf knd a (λx=>decide (x∈c9 val i)) (c9 val i).length -> (∀ s',Moved (a::wr) G s s'->s'.heap.SetOf knd a (λx=>decide (x∈c9 val n)) (c9 val n).length->R (.ok (.ret .none)) s') -> codeAny (model P w) A (.builtin "set.update.loop" ⟨[.ref a,.ref I],[]⟩) R s:=by
 have haw:a∉wr:=λz=>ha (W.sub _ z);have up:∀ b∈wr,b∈a::wr:=λb z=>yR _ z;intro m
 induction m with
 |zero =>
  intro i s hm hi st hS hR;obtain rfl:i=n:=by omega
  refine codeAny_builtin PyProof.Rows.F.entry_set_update_loop ?_;rw [Around.under_plainId PyProof.Rows.F.plain_set_update_loop _];show wpAny _ A.in1 (pyNext (.ref I) >>= _) _ _ s;refine yY (W.done s _ _ st λs' mv=>?_);show wpAny _ A.in1 (ret Value.none) _ _ s';exact yI (hR s' (mv.mono up) (Vz hS λo e=>mv.heap a o haw e))
 |succ m ih =>
  intro i s hm hi st hS hR;have hlt:i<n:=by omega
  refine codeAny_builtin PyProof.Rows.F.entry_set_update_loop ?_;rw [Around.under_plainId PyProof.Rows.F.plain_set_update_loop _];show wpAny _ A.in1 (pyNext (.ref I) >>= _) _ _ s;refine yY (W.item i s _ _ hlt st λv s' hP st' mv=>?_);obtain ⟨hk,hsc⟩:=hv i v hP;have hS':s'.heap.SetOf knd a (λx=>decide (x∈c9 val i)) (c9 val i).length:=Vz hS λo e=>mv.heap a o haw e;show wpAny _ A.in1 (holding [v] (setAdd a v) >>= _) _ _ s';refine yY (wpAny_holding ?_);unfold setAdd;refine wpAny_holding (yY (knd.pyHash (k:=val i) hk ?_));have room:(c9 val i).length+1<scanBound:=by have:=Ka val i;omega
  refine wpAny_setAddHashed_of (knd:=knd) (s:={ s' with toks:=s'.toks+1 }) hk hsc hS' room λh' sb hS2=>?_;have hSi:h'.SetOf knd a (λx=>decide (x∈c9 val (i+1))) (c9 val (i+1)).length:=by
   refine Kc hS2 (λx=>?_) ?_
   ·by_cases hc:val i∈c9 val i
    ·rw [show c9 val (i+1)=c9 val i from if_pos hc];by_cases hx:x=val i
     ·subst hx;simp [hc]
     ·simp [hx]
    ·rw [show c9 val (i+1)=c9 val i++[val i] from if_neg hc];simp
   ·by_cases hc:val i∈c9 val i
    ·rw [show c9 val (i+1)=c9 val i from if_pos hc];simp [hc]
    ·rw [show c9 val (i+1)=c9 val i++[val i] from if_neg hc];simp [hc]
  refine yI ⟨plainId_quiet PyProof.Rows.F.plain_set_update_loop _,ih (i+1) _ (by omega) hlt (W.frame _ s' _ _ st' (uD _) λb z o e=>?_) hSi λs2 mv2 hS3=>?_⟩
  ·rw [sb.2 b (λq:b=a=>ha (by rw [<- q];exact z))];exact e
  ·refine hR s2 (Moved.trans W.gtrans ((mv.mono up).then_heap (uD _) λb o z e=>?_) mv2) hS3;rw [sb.2 b (λq:b=a=>z (by rw [q];exact yQ))];exact e
theorem BB {E:Value->Shared->Prop}{s:Shared}{l:Addr}{its:Array Value}{val:Nat->κ}{Q:Value->Shared->Prop}(hh:A.handled=none)(hl:s.heap.IsList l its)(hv:∀ (i:Nat) (v:Value),its[i]?=some v->knd.is (val i) v=true/\v.scannable=true)(hb:its.size+1<scanBound)(h:∀ (h':Heap) (tk:Nat),h'.SetOf knd s.heap.objs.size (λx=>decide (x∈c9 val its.size)) (c9 val its.size).length -> (∀ b o,s.heap.get? b=some o->h'.get? b=some o)->Q (.ref s.heap.objs.size) { s with heap:=h',toks:=tk }):wpAny (model P w) A (call (.type "set") [.ref l]) Q E s:=by
 obtain ⟨c,tl,hmro⟩:=PySem.F.called_set.mro;have hmade:=PySem.F.called_set.made;have hsub:=PySem.F.called_set.sub;refine wpAny_call (codeAny_of_tree ?_);show wpAny _ _ (callAny (.type "set") _) _ _ _;refine yI ⟨Code.quiet_builtin _ (by decide +kernel),codeAny_builtin PySem.F.entry_type_call ?_⟩;rw [Around.under_plain (weight_type_call_type "set" [.ref l] []) rfl];have q1:=PySem.F.called_set.notType;have q2:=PySem.F.called_set.canCreate;have q3:=PySem.F.typeCall_set_1 (.ref l)
 (repeat (any_goals (first|assumption|wp_step)))
 refine codeAny_mono (code_set_new_1 (.ref l) (E:=E) (Q₁:=λob s1=>∃ led:Bool,ob = .ref s.heap.objs.size/\s1={ s with heap:=s.heap.push { cls:= .type "set",dict:=none,data:= .set #[] 0 (.fresh 0 0 led) } }) λled=>⟨led,rfl,rfl⟩) λr s1 hr=>?_;cases r with
 |error e=>exact hr
 |ok fl =>
  cases fl with
  |ret ob =>
   obtain ⟨led,rfl,rfl⟩:=hr;have hS:(s.heap.push { cls:= .type "set",dict:=none,data:= .set #[] 0 (.fresh 0 0 led) }).get? s.heap.objs.size=some { cls:= .type "set",dict:=none,data:= .set #[] 0 (.fresh 0 0 led) }:=yy _ rfl;have hT:Shared.TypeIs { s with heap:=s.heap.push { cls:= .type "set",dict:=none,data:= .set #[] 0 (.fresh 0 0 led) } } (.ref s.heap.objs.size) "set":=⟨_,hS,rfl⟩;have hli:=PySem.F.called_set.init.lookup;have hbi:=PySem.F.called_set.init.bind (.ref s.heap.objs.size)
   (repeat (any_goals (first|assumption|wp_step)))
   refine codeAny_mono (codeAny_call_builtin (R:=wants (λr s2=>r = .none/\∃ h' tk,s2={ s with heap:=h',toks:=tk }/\h'.SetOf knd s.heap.objs.size (λx=>decide (x∈c9 val its.size)) (c9 val its.size).length /\
     (∀ b o,s.heap.get? b=some o->h'.get? b=some o)) E) PySem.F.called_set.init.plain PySem.F.entry_set_init (check_set_init_1 hT ?_)) λr2 s2 hr2=>?_
   ·obtain ⟨ol,hol,hcl,nl,hdl⟩:=hl;obtain ⟨ocls,odict,odata,oslots⟩:=ol;simp only at hcl hdl;subst hcl;subst hdl;have hol':(s.heap.push { cls:= .type "set",dict:=none,data:= .set #[] 0 (.fresh 0 0 led) }).get? l=some { cls:= .type "list",dict:=odict,data:= .seq its nl,slots:=oslots }:=yW _ hol;have z1:=PySem.F.sub_list_set;have z2:=PySem.F.sub_list_frozenset;have z3:(Value.type "list" == Value.type "dict")=false:=by decide
    have hl1:(s.heap.push { cls:= .type "set",dict:=none,data:= .set #[] 0 (.fresh 0 0 led) }).IsList l its:=⟨_,hol',rfl,nl,rfl⟩;unfold Builtin.«set.__init__» noKeywords Builtin.Frozenset.updateFrom;generalize hPI:pyIter=PI
    wp_walk
    subst hPI;refine wpAny_pyIter_list hl1 ?_;refine yY (wpAny_runValue ?_);have hlS:l<s.heap.objs.size:=yT hol;have h3:A.in1.in1.in1.handled=none:=by simp [hh]
    have ne1:l≠(s.heap.push { cls:= .type "set",dict:=none,data:= .set #[] 0 (.fresh 0 0 led) }).objs.size:=by rw [uL];exact yG (Nat.lt_succ_of_lt hlS)
    have ne2:s.heap.objs.size∉[(s.heap.push { cls:= .type "set",dict:=none,data:= .set #[] 0 (.fresh 0 0 led) }).objs.size,l]:=by rw [uL];simp only [yM,yh,or_false,not_or];exact ⟨yG (uF _),Nat.ne_of_gt hlS⟩
    refine No (knd:=knd) ((Walks.list h3 _ l ne1 its).toS) s.heap.objs.size ne2 val hv hb (its.size-0) 0 _ (by omega) (uZ _) ⟨⟨_,yy _ rfl,rfl,rfl⟩,(hl1.push _)⟩ ?_ ?_
    ·have hg:((s.heap.push { cls:= .type "set",dict:=none,data:= .set #[] 0 (.fresh 0 0 led) }).push { cls:= .type "list_iterator",data:= .fields #[.ref l,.int 0 0] }).get? s.heap.objs.size=some { cls:= .type "set",dict:=none,data:= .set #[] 0 (.fresh 0 0 led) }:=yW _ hS;exact Kc ((PyProof.Rows.setObjOf_fresh (knd:=knd) led).setOf hg (by unfold scanBound;omega)) (λx=>by simp [c9]) rfl
    ·rintro ⟨h',g',d',tk',os'⟩ mv hS';have eg:g'=s.gens:=mv.gens;have ed:d'=s.drawn:=mv.drawn;have eo:os'=s.os:=mv.os;subst eg ed eo;show wpAny _ _ _ _ _ _;refine yI ?_;show wpAny _ _ (ret Value.none) _ _ _;refine yI ⟨rfl,h',tk',rfl,hS',λb o e=>?_⟩;have hb0:=yT e;refine mv.heap b o ?_ (yW _ (yW _ e));rw [uL];simp only [yM,yh,or_false,not_or];exact ⟨yG hb0,yG (Nat.lt_succ_of_lt hb0)⟩
   ·cases r2 with
    |error e=>exact hr2
    |ok fl2 =>
     cases fl2 with
     |ret r =>
      obtain ⟨rfl,h',tk,rfl,hS',hk'⟩:=hr2
      (repeat (any_goals (first|assumption|wp_step)))
      exact h _ _ hS' hk'
     |_=>exact False.elim hr2
  |_=>exact False.elim hr
end
def jP (n:Nat)(a:Addr):HO:= .ext λh=>∃(P:Program)(w:World)(S:j4->Bool),h.SetOf (qz P w) a S n
section
variable {X:Cx}
theorem HE {ss:List Str}{us:List Value}(r:Vals (ss.map V.str) us):∀(i:Nat)(v:Value),us[i]?=some v->∃ x t,ss[i]?=some x/\v = .str x t:=by
 have key:∀(ss:List Str)(us:List Value),Vals (ss.map V.str) us->∀(i:Nat)(v:Value),us[i]?=some v->∃ x t,ss[i]?=some x/\v = .str x t:=by
  intro ss
  induction ss with
  |nil=>intro us r i v e;cases r;simp at e
  |cons s ss ih =>
   intro us r i v e;cases r with
   |cons p q =>
    cases i with
    |zero=>obtain ⟨t,rfl⟩:=p;simp at e;exact ⟨s,t,rfl,e.symm⟩
    |succ i=>exact ih _ q i v (by simpa using e)
 intro i v e;exact key ss us r i v e
theorem BA (hc:X.calm=true):CallR X (.type "set") (λxs H Q=>∃ (a:Addr) (ss:List Str),xs=[.ref a]/\SqL X.K H a (ss.map V.str)/\ss.length<=1000 /\ ∀ l,H l=none->Q (.ref l) (z8 H l (jP (c9 (λi=>(Sum.inr (ss.getD i ⟨#[]⟩):j4)) ss.length).length l))):=by
 intro pins s σ H xs us Q I r h;obtain ⟨a,ss,rfl,hq,hl,q⟩:=h;obtain ⟨u,rfl,ru⟩:=zf r;obtain rfl:u=Value.ref a:=ru;obtain ⟨its,rv,p,hz⟩:=I.list hq;have hn:its.length=ss.length:=by have e:=rv.length;rw [yZ] at e;exact e.symm
 refine BB (knd:=qz X.prog X.w) (its:=its.toArray) (val:=λi=>(Sum.inr (ss.getD i ⟨#[]⟩):j4)) (I.ok.hd hc) p.isList (λi v e=>?_) (by rw [yV,hn];unfold scanBound;omega) λh' tk hS k=>?_
 ·obtain ⟨x,t,hx,rfl⟩:=HE rv i v (by simpa using e);rw [yA,hx];exact ⟨Jc _ _ _ _,rfl⟩
 ·have e8:its.toArray.size=ss.length:=by rw [yV];exact hn
  rw [e8] at hS;refine ⟨.ref s.heap.objs.size,_,I.laid (t':=tk) k (yS _) (show ObjOk X.prog X.w _ h' _ (jP _ _) from ⟨⟨_,_,_,hS⟩,?_,?_⟩),rfl,q _ (I.hok.fresh (yS _))⟩
  ·obtain ⟨o,_,_,_,ho,_⟩:=hS;exact ⟨o,ho⟩
  ·rintro h1 h2 ⟨P,w,S,x⟩ e;exact ⟨P,w,S,Vz x e⟩
theorem Bv:CallR X (.builtin "len") (λxs H Q=>∃ (a:Addr) (n:Nat),xs=[.ref a]/\H a=some (jP n a)/\Q (.int n) H):=by
 intro pins s σ H xs us Q I r h;obtain ⟨a,n,rfl,hq,q⟩:=h;obtain ⟨u,rfl,ru⟩:=zf r;obtain rfl:u=Value.ref a:=ru;obtain ⟨⟨P,w,S,o,es,ep,t,ho,hex,hd,_,_,hb,hf,hn⟩,_⟩:=(show ObjOk X.prog X.w H s.heap a (jP n a) from I.hok a _ hq);subst hn;have h63:((es.size:Nat):Int)<2 ^ 63:=by unfold scanBound at hb;omega
 exact call_len_set ho hex hd hf h63 ⟨.int es.size,H,I.tok _,⟨_,rfl⟩,q⟩
end
end L2
namespace L2
open PySem PySem.Spec PySem.Calls PyProof.Rows
variable{ss:List Str}{P:Program}{w:World}{vs:List Value}{A:Around}{E Q:Value->Shared->Prop}
section
variable {X:Cx}
def QU (ss:List Str):Prop:=ss.Pairwise λx y=>¬ (y.cps.toList<x.cps.toList)
theorem Kd (h:sortedS ss=true):QU ss:=by
 cases ss with
 |nil=>exact List.Pairwise.nil
 |cons x r =>
  have key:∀(l:List Str)(p:Str),risingS p l=true->(p::l).Pairwise λx y=>¬ (y.cps.toList<x.cps.toList):=by
   intro l
   induction l with
   |nil=>intro p _;exact List.pairwise_singleton _ _
   |cons y l ih =>
    intro p hp;have hp':(!ltCps y.cps.toList p.cps.toList&&risingS y l)=true:=hp;rw [ya] at hp';have i2:=ih y hp'.2;have hyp:¬ (y.cps.toList<p.cps.toList):=by have e:=hp'.1;rw [ltCps_eq] at e;simpa using e
    refine List.pairwise_cons.mpr ⟨λz hz=>?_,i2⟩;rcases yM.mp hz with rfl|hz
    ·exact hyp
    ·have hzy:=(List.pairwise_cons.mp i2).1 z hz;intro hlt;exact hyp (Std.lt_of_le_of_lt (Std.not_lt.mp hzy) hlt)
  exact key r x h
def GE (K:Fg):List V->Hp->VK->Prop:=λxs H Q=>∃(a:Addr)(ss:List Str),xs=[.ref a]/\(SqL K H a (ss.map V.str)∨∃ kvs,Rd H a (.dK kvs)/\kvs.map (·.1)=ss.map Sum.inr)/\ss.length<64 /\
 ∀ l ss',H l=none->ss'.Perm ss->QU ss'->Q (.ref l) (z8 H l (.lst (ss'.map V.str)))
theorem Kh:∀{ss:List Str}{us:List Value},Vals (ss.map V.str) us->StrsAre us ss
 |[],_,.nil=> .nil
 |x::_,_,.cons ⟨t,e⟩ r=>by subst e;exact .cons x t (Kh r)
theorem VV:∀{us:List Value}{ss:List Str},StrsAre us ss->Vals (ss.map V.str) us
 |_,_,.nil=> .nil
 |_,_,.cons x t r=> .cons ⟨t,rfl⟩ (VV r)
theorem Co:∀{kvs:List (j4×V)}{vs:List (j4×Value)}{ss:List Str},KV kvs vs->kvs.map (·.1)=ss.map Sum.inr->vs.map (·.1)=ss.map Sum.inr:=by
 intro kvs vs ss r e;rw [<- e];clear e
 induction r with
 |nil=>rfl
 |cons p _ ih=>rw [yK,yK,ih,p.1]
theorem Cb {vs:List (j4×Value)}{acc:Array Value}(e:vs.map (·.1)=ss.map Sum.inr)(h:ItemsOf (λi v=>∃ k x,vs[i]?=some (k,x)/\(qz P w).is k v=true) acc vs.length):StrsAre acc.toList ss:=by
 have hl:vs.length=ss.length:=by have:=congrArg List.length e;rwa [yZ,yZ] at this
 have h0:∀ v∈acc.toList,∃ x t,v = .str x t:=by
  intro v hv;obtain ⟨i,hi,rfl⟩:=uG hv;obtain ⟨k,x,hk,his⟩:=h.2 i acc.toList[i] (by simp at hi ⊢);have hk2:(vs.map (·.1))[i]?=some k:=by rw [yO,hk];rfl
  rw [e,yO] at hk2;obtain ⟨z,_,rfl⟩:=yJ.mp hk2;cases hv2:acc.toList[i] with
  |str y t=>exact ⟨y,t,rfl⟩
  |_=>rw [hv2] at his;cases his
 have h1:=strsAre_map acc.toList h0;have e2:acc.toList.map strOf=ss:=by
  apply List.ext_getElem?;intro i;rw [yO];by_cases hi:i<acc.size
  ·obtain ⟨k,x,hk,his⟩:=h.2 i acc[i] (Array.getElem?_eq_getElem hi);have hk2:(vs.map (·.1))[i]?=some k:=by rw [yO,hk];rfl
   rw [e,yO] at hk2;obtain ⟨z,hz,rfl⟩:=yJ.mp hk2;obtain ⟨y,t,hy⟩:=h0 acc[i] (by simp);rw [hy] at his;have:y=z:=by have q:vb (Sum.inr z) (.str y t)=true:=his;have q2:=Uz y t;have q3:=(qz P w).inj (.str y t) (Sum.inr z) (Sum.inr y) his (Jc P w y t);injection q3 with q3;exact q3.symm
   rw [hz,Array.getElem?_toList,Array.getElem?_eq_getElem hi,hy,<- this];rfl
  ·have h1:=h.1;rw [List.getElem?_eq_none (by simp;omega),List.getElem?_eq_none (by omega)];rfl
 rw [e2] at h1;exact h1
theorem HJ {s:Shared}(hS:StrsAre vs ss)(h64:vs.length<64)(h:∀ (h':Heap) (out:List Value) (ss':List Str) (e:Nat),(∀ b o,s.heap.get? b=some o->h'.get? b=some o)->h'.get? s.heap.objs.size=some (seqObj "list" out.toArray e)->StrsAre out ss'->ss'.Perm ss->sortedS ss'=true->Q (.ref s.heap.objs.size) { s with heap:=h' }):wpAny (model P w) A (newList vs >>= λl=>holding [l] (call (.builtin "list.sort") [l]) >>= λ_=>pure l) Q E s:=by
 refine yY (wpAny_newList ?_);have ho:(s.heap.push (seqObj "list" vs.toArray 0)).get? s.heap.objs.size=some (seqObj "list" vs.toArray 0):=yy _ rfl;refine yY (wpAny_holding (wpAny_call_entry slot_list_sort (s:={ s with heap:=s.heap.push (seqObj "list" vs.toArray 0) }) ⟨_,ho,rfl⟩ entry_list_sort
  (list_sort_treeK strKind_oneLt (s:={ s with heap:=s.heap.push (seqObj "list" vs.toArray 0) }) ho hS.keysOf (λv1 v2 rest e=>keyKind_strs (by rw [<- e];exact hS)) h64 λst p1 p2=>⟨_,rfl,?_⟩) (args_list_sort _)))
 obtain ⟨ss',a1,a2,a3⟩:=sorted_out_str hS p1 p2;obtain ⟨e,he⟩:=sortedHeap_at (out:=(arrOf st).map (·.2)) ho;refine yI (h _ _ ss' e (λb o hb=>?_) (by rw [Array.toArray_toList];exact he) a1 a2 a3);have hlt:=yT hb;rw [sortedHeap_old (yG hlt) (by rw [uL];exact Nat.lt_succ_of_lt hlt)];exact yW _ hb
theorem Nr {s:Shared}(hS:StrsAre vs ss)(h64:vs.length<64)(h:∀ (h':Heap) (out:List Value) (ss':List Str) (e:Nat),(∀ b o,s.heap.get? b=some o->h'.get? b=some o)->h'.get? s.heap.objs.size=some (seqObj "list" out.toArray e)->StrsAre out ss'->ss'.Perm ss->sortedS ss'=true->Q (.ref s.heap.objs.size) { s with heap:=h' }):wpAny (model P w) A (newList vs >>= λl=>holding [l] (call (.builtin "list.sort") [l] []) >>= λ_=>ret l) (λfin s'=>∃ v,fin=PySem.Fin.done (.ret v)/\Q v s') E s:=by
 refine yY (wpAny_newList ?_);have ho:(s.heap.push (seqObj "list" vs.toArray 0)).get? s.heap.objs.size=some (seqObj "list" vs.toArray 0):=yy _ rfl;refine yY (wpAny_holding (wpAny_call_entry slot_list_sort (s:={ s with heap:=s.heap.push (seqObj "list" vs.toArray 0) }) ⟨_,ho,rfl⟩ entry_list_sort
  (list_sort_treeK strKind_oneLt (s:={ s with heap:=s.heap.push (seqObj "list" vs.toArray 0) }) ho hS.keysOf (λv1 v2 rest e=>keyKind_strs (by rw [<- e];exact hS)) h64 λst p1 p2=>⟨_,rfl,?_⟩) (args_list_sort _)))
 obtain ⟨ss',a1,a2,a3⟩:=sorted_out_str hS p1 p2;obtain ⟨e,he⟩:=sortedHeap_at (out:=(arrOf st).map (·.2)) ho;refine yI ⟨_,rfl,h _ _ ss' e (λb o hb=>?_) (by rw [Array.toArray_toList];exact he) a1 a2 a3⟩;have hlt:=yT hb;rw [sortedHeap_old (yG hlt) (by rw [uL];exact Nat.lt_succ_of_lt hlt)];exact yW _ hb
theorem BC {K:Fg}(hc:X.calm=true)(hK:X.K=K):CallR X (.builtin "sorted") (GE K):=by
 subst hK;intro pins s σ H xs us Q I r h;obtain ⟨a,ss,rfl,hq,h64,q⟩:=h;obtain ⟨u,rfl,ru⟩:=zf r;obtain rfl:u=Value.ref a:=ru;rcases hq with hq|⟨kvs,hq,hk⟩
 ·obtain ⟨its,rv,p,hz⟩:=I.list hq;have hS:=Kh rv;have hl:its.length=ss.length:=by have e:=rv.length;rw [yZ] at e;exact e.symm
  refine sorted_strs p.isList hS (by omega) λout ss' a1 a2 a3=>?_;obtain ⟨e,he⟩:=sortedAll_at s.heap its out;refine ⟨.ref _,_,I.laid (t':=s.toks) (o:= .lst (ss'.map V.str)) (λb o hb=>sortedAll_old hb) (uD _) ?_,rfl,q _ ss' (I.hok.fresh (uD _)) a2 (Kd a3)⟩;exact ⟨by rw [yZ,a2.length_eq];exact uT (wE (by omega)),out.toList,e,VV a1,by simpa [seqObj] using he⟩
 ·obtain ⟨z,hd,vs,rel,dd⟩:=jW I.hok hq;obtain ⟨ep,hat⟩:=dd.dictAt;have ek:=Co rel hk;have hvl:vs.length=ss.length:=by have:=congrArg List.length ek;rwa [yZ,yZ] at this
  refine Calls.call_function_entry (id:="sorted") kind_sorted plain_sorted entry_sorted (args_sorted1 _) ?_;unfold Builtin.«sorted»;refine yY (m:=checkCount "sorted" 1 1 _) (yI ?_);refine yY (PySem.W.kdu_collect (PySem.W.kdl_dict (knd:=qz X.prog X.w) (kvs:=vs) (ep:=ep) hd) (by simpa using I.ok.hd hc) hat (uT (wE (by omega))) λh1 tk acc k1 hacc=>?_);have hS:=Cb ek hacc;have hal:acc.toList.length=ss.length:=by have:=hacc.1;simp;omega
  refine Nr (s:={ s with heap:=h1,toks:=tk }) hS (by omega) λh' out ss' e k2 he a1 a2 a3=>?_;have I1:Inv X pins σ H { s with heap:=h1,toks:=tk }:=I.kept (t':=tk) k1;refine ⟨.ref _,_,I1.laid (t':=tk) (o:= .lst (ss'.map V.str)) k2 (yS _) ?_,rfl,q _ ss' (I1.hok.fresh (yS _)) a2 (Kd a3)⟩;exact ⟨by rw [yZ,a2.length_eq];exact uT (wE (by omega)),out,e,VV a1,he⟩
end
end L2
namespace L2
open PySem PySem.Spec PySem.Calls
variable{a:Addr}{its:Array Value}{n:Nat}
section
variable {P:Program}{w:World}{A:Around}{E:Value->Shared->Prop}
theorem CC:typeLookup (.type "list") "keys"=pure none:=am_miss_of_fast (by kernel_rfl)
theorem CB:typeLookup (.type "list") "__getattr__"=pure none:=am_miss_of_fast (by kernel_rfl)
theorem Pr {hp:Heap}{g:Array GenState}{d:Drawn}{tk:Nat}{os:_}{u:Tok}{Q:PySem.Fin->Shared->Prop}(ho:hp.get? a=some { cls:= .type "list",data:= .seq its n })(hh:A.handled=none)(h:∀ h' tk' e,Heap.NewAttrErr hp h' e (.ref a) "keys"->E (.ref e) ⟨h',g,d,tk',os⟩):wpAny (model P w) A (Builtin.«object.__getattribute__» ⟨[.ref a,.str "keys" u],[]⟩) Q E ⟨hp,g,d,tk,os⟩:=by
 have hT:(⟨hp,g,d,tk,os⟩:Shared).TypeIs (.ref a) "list":=⟨_,ho,rfl⟩;have f0:=CC;unfold Builtin.«object.__getattribute__»
 (repeat (any_goals (first|assumption|wp_step)))
 exact wpAny_raiseAttrError (s:=⟨hp,g,d,tk,os⟩) hh h (attrMsg_fits (by decide +kernel) (by decide +kernel))
theorem Bd {s:Shared}{Q:Option Value->Shared->Prop}(ho:s.heap.get? a=some { cls:= .type "list",data:= .seq its n })(hh:A.handled=none)(h:∀ h' tk,(∀ b o,s.heap.get? b=some o->h'.get? b=some o)->Q none { s with heap:=h',toks:=tk }):wpAny (model P w) A (getAttr? (.ref a) "keys") Q E s:=by
 obtain ⟨hp,g,d,tk,os⟩:=s;have hT:∀ t',(⟨hp,g,d,t',os⟩:Shared).TypeIs (.ref a) "list":=λ_=>⟨_,ho,rfl⟩;have f1:=sub_AttributeError;have f2:=PySem.F.slot_list_getattribute.lookup;have f3:=PySem.F.slot_list_getattribute.bind (.ref a);have f5:=CB;unfold getAttr? getAttrBy? getAttrBy
 (repeat (any_goals (first|assumption|exact hT _|wp_step)))
 refine codeAny_call_builtin PySem.F.slot_list_getattribute.plain PySem.F.entry_list_ga (PySem.F.slot_list_getattribute.check _ _ _ _ _ _ _ _ (hT _) (PySem.F.args_list_getattribute_2 _ _) (Pr ho (by simpa using hh) λh' tk' e hx=>?_));obtain ⟨t',u',he⟩:=hx.there;have hk:=hx.keeps;show wpAny _ _ (getattributeRaised _ _ _ _ _ _ _) _ _ _;unfold getattributeRaised
 (repeat (any_goals (first|assumption|wp_step)))
 exact h _ _ hk
end
end L2
namespace L2
open PySem PySem.Spec PySem.Calls PyProof.Rows
variable{A:Around}
theorem Bj:bootBuiltins "set"=some (.type "set"):=by decide +kernel
section
variable {P:Program}{w:World}{κ:Type}[DecidableEq κ]{knd:PySem.KeyKind P w κ}
theorem YQ:entryFor table "dict.update.loop"=some Builtin.«dict.update.loop»:=entryFor_of_tree (by kernel_rfl)
theorem XW:plainId "dict.update.loop"=true:=by decide +kernel
theorem BR {R:Result->Shared->Prop}{I:Addr}{fp wr:List Addr}{Pp:Nat->Value->Prop}{St:Nat->Heap->Prop}{more:List (κ×Value)}{lo:Addr}(W:Walks P w A.in1 I fp wr more.length Pp St)(d:Addr)(hdf:d∉fp)(hlo:lo<=d)(hwr:∀ b∈wr,lo<=b)(hsz:more.length<=sizeLine):∀ (m i:Nat) (z:Int) (tk:Tok) (s:Shared),more.length-i=m->i<=more.length->St i s.heap->s.heap.DictOf knd d (merged [] (more.take i)) -> (∀ j v kv,Pp j v->more[j]?=some kv->∃ t k,t<lo/\v = .ref t/\knd.is kv.1 k=true/\IsTup s.heap t #[k,kv.2]) -> (∀ h' tk',(∀ b o,b<lo->s.heap.get? b=some o->h'.get? b=some o)->h'.DictOf knd d (merged [] more)->R (.ok (.ret .none)) { s with heap:=h',toks:=tk' }) -> codeAny (model P w) A (.builtin "dict.update.loop" ⟨[.ref d,.ref I,.int z tk,.none],[]⟩) R s:=by
 have hdw:d∉wr:=λq=>hdf (W.sub _ q);intro m
 induction m with
 |zero =>
  intro i z tk s hm hi st hd hp hR;have hin:i=more.length:=by omega
  subst hin;refine codeAny_builtin YQ ?_;rw [Around.under_plainId XW _];show wpAny _ A.in1 (pyNext (.ref I) >>= _) _ _ s;refine yY (W.done s _ _ st λh' tk' k=>?_);show wpAny _ A.in1 (Builtin.Dict.addKeywords d [] >>= _) _ _ _;refine yY (yI ?_);refine yI (hR h' tk' (λb o hb e=>k b o (λq=>absurd (hwr b q) (Nat.not_le.mpr hb)) e) ?_);rw [List.take_length] at hd;obtain ⟨o,es,ep,ho,r⟩:=hd;exact ⟨o,es,ep,k d o hdw ho,r⟩
 |succ m ih =>
  intro i z tk s hm hi st hd hp hR;have hlt:i<more.length:=by omega
  refine codeAny_builtin YQ ?_;rw [Around.under_plainId XW _];show wpAny _ A.in1 (pyNext (.ref I) >>= _) _ _ s;refine yY (W.item i s _ _ hlt st λv h' tk' hPv st' k=>?_);obtain ⟨t,kk,ht,rfl,hk,o,ho,hc,n,hdt⟩:=hp i v more[i] hPv (yN hlt);have ho':h'.get? t=some o:=k t o (λq=>absurd (hwr t q) (Nat.not_le.mpr ht)) ho;have hd':h'.DictOf knd d (merged [] (more.take i)):=by obtain ⟨o,es,ep,ho,r⟩:=hd;exact ⟨o,es,ep,k d o hdw ho,r⟩
  have hT:Shared.TypeIs { s with heap:=h',toks:=tk' } (.ref t) "tuple":=⟨o,ho',hc⟩;show wpAny _ A.in1 (holding [.ref t] _ >>= _) _ _ _;refine yY (wpAny_holding (yY (wpAny_tryCatch ?_)));unfold Builtin.Dict.pairItems;refine yY (wpAny_typeOf hT ?_);rw [if_pos (by decide)];refine yY (wpAny_seqItems ho' hdt (yI ?_));show wpAny _ A.in1 (holding [kk,more[i].2] (dictSet d kk more[i].2)) _ _ _;refine wpAny_holding (wpAny_dictSet_pairs (knd:=knd) hk hd' (λh2 hd2 sb=>?_) ?_)
  ·rw [<- merged_take_succ [] more i more[i] (yN hlt)] at hd2;have keep2:∀ b o,b<lo->s.heap.get? b=some o->h2.get? b=some o:=λb o hb e=>by
    rw [sb.2 b (yG (yB hb hlo))];exact k b o (λq=>absurd (hwr b q) (Nat.not_le.mpr hb)) e
   refine yI ⟨plainId_quiet XW _,ih (i+1) _ _ _ (by omega) hlt (W.frame _ _ _ st' λb hb o e=>?_) hd2 (λj v kv hv hj=>?_) λh3 tk3 k3 hd3=>?_⟩
   ·rw [sb.2 b (λq=>hdf (by rw [<- q];exact hb))];exact e
   ·obtain ⟨t,kk,ht,rfl,hk,o,ho,r⟩:=hp j v kv hv hj;exact ⟨t,kk,ht,rfl,hk,o,keep2 t o ht ho,r⟩
   ·exact hR h3 tk3 (λb o hb e=>k3 b o hb (keep2 b o hb e)) hd3
  ·have:=merged_length_le [] (more.take i);rw [List.length_take,List.length_nil] at this;omega
theorem Bq {E:Value->Shared->Prop}{s:Shared}{l:Addr}{its:Array Value}{n:Nat}{more:List (κ×Value)}{Q:Value->Shared->Prop}(hh:A.handled=none)(ho:s.heap.get? l=some { cls:= .type "list",data:= .seq its n })(hlen:its.size=more.length)(hsz:more.length<=sizeLine)(hp:∀ (j:Nat) (v:Value) (kv:κ×Value),its[j]?=some v->more[j]?=some kv->∃ t k,v = .ref t/\knd.is kv.1 k=true/\IsTup s.heap t #[k,kv.2])(h:∀ h' tk',(∀ b o,s.heap.get? b=some o->h'.get? b=some o)->h'.DictOf knd s.heap.objs.size (merged [] more)->Q (.ref s.heap.objs.size) { s with heap:=h',toks:=tk' }):wpAny (model P w) A (call (.type "dict") [.ref l]) Q E s:=by
 refine callType_codes (Q₁:=λob s1=>ob = .ref s.heap.objs.size/\s1={ s with heap:=s.heap.push { cls:= .type "dict",data:= .dict #[] } }) PySem.F.kt_called_dict (PySem.F.kt_typeCall_dict_1 _) PySem.F.entry_dict_init (kt_code_dict_new _ ⟨rfl,rfl⟩) ?_;rintro ob s1 ⟨rfl,rfl⟩;have hnew:(s.heap.push { cls:= .type "dict",data:= .dict #[] }).DictOf knd s.heap.objs.size []:=Heap.DictOf.new s.heap;have ho':(s.heap.push { cls:= .type "dict",data:= .dict #[] }).get? l=some { cls:= .type "list",data:= .seq its n }:=yW _ ho;have hTl:Shared.TypeIs { s with heap:=s.heap.push { cls:= .type "dict",data:= .dict #[] } } (.ref l) "list":=⟨_,ho',rfl⟩;have hlt:l<s.heap.objs.size:=yT ho;refine ⟨hnew.typeIs,PySem.F.args_dict_init_2 _ _,?_⟩;unfold Builtin.«dict.__init__»;refine yY ?_;unfold Builtin.Dict.selfAndRest;refine yY (wpAny_notOrdered_dict hnew.typeIs ?_);show wpAny _ _ (pure (s.heap.objs.size,[Value.ref l])) _ _ _;refine yI ?_;show wpAny _ _ (Builtin.Dict.updateFrom "dict.__init__" s.heap.objs.size (.ref l) [] .none) _ _ _;unfold Builtin.Dict.updateFrom;refine yY (wpAny_typeOf hTl ?_);rw [if_pos (by decide)];refine yY (Bd ho' (by simpa using hh) λh1 tk1 k1=>?_);rw [if_pos (show (none:Option Value).isNone=true from rfl)];refine yY (wpAny_rule ?_);have ho1:=k1 _ _ ho';have hl1:h1.IsList l its:=⟨_,ho1,rfl,n,rfl⟩;refine yY (wpAny_pyIter_list (s:={ s with heap:=h1,toks:=tk1 }) hl1 ?_);have hd1:h1.DictOf knd s.heap.objs.size []:=by obtain ⟨o,es,ep,hq,r⟩:=hnew;exact ⟨o,es,ep,k1 _ _ hq,r⟩
 have hdlt:s.heap.objs.size<h1.objs.size:=by obtain ⟨o,es,ep,hq,r⟩:=hd1;exact yT hq
 have hll:l<h1.objs.size:=yT ho1;refine yI ⟨plainId_quiet XW _,?_⟩;have W:=Walks.list (prog:=P) (w:=w) (A:=A.in1.in1) (by simpa using hh) h1.objs.size l (yG hll) its;rw [hlen] at W;refine BR (knd:=knd) (lo:=s.heap.objs.size) W s.heap.objs.size ?_ (yS _) (λb hb=>?_) hsz more.length 0 _ _ { s with heap:=h1.push { cls:= .type "list_iterator",data:= .fields #[.ref l,.int 0 0] },toks:=tk1 } (by omega) (uZ _) ⟨⟨_,yy _ rfl,rfl,rfl⟩,hl1.push _⟩ ?_ (λj v kv hv hj=>?_) λh' tk' kp hd=>?_
 ·simp only [yM,yh,or_false,not_or];exact ⟨yG hdlt,Nat.ne_of_gt hlt⟩
 ·rw [yP.mp hb];exact uT hdlt
 ·obtain ⟨o,es,ep,hq,r⟩:=hd1;exact ⟨o,es,ep,yW _ hq,r⟩
 ·obtain ⟨t,k,rfl,hk,o,hto,r⟩:=hp j v kv hv hj;exact ⟨t,k,yT hto,rfl,hk,o,yW _ (k1 _ _ (yW _ hto)),r⟩
 ·exact ⟨rfl,h h' tk' (λb o e=>kp b o (yT e) (yW _ (k1 _ _ (yW _ e)))) hd⟩
end
section
variable {X:Cx}
theorem Mo {pins:List (Addr×Obj)}{σ:St}{H:Hp}{s:Shared}(I:Inv X pins σ H s){ts:List Addr}{kvs:List (j4×V)}(r:Paired (λt (kv:j4×V)=>H t=some (.tup [kV kv.1,kv.2])) ts kvs):∃ more:List (j4×Value),KV kvs more/\∀(j:Nat)(t:Addr)(m:j4×Value),ts[j]?=some t->more[j]?=some m->∃ k,(qz X.prog X.w).is m.1 k=true/\IsTup s.heap t #[k,m.2]:=by
 induction r with
 |nil=>exact ⟨[],.nil,λj t m h=>by simp at h⟩
 |@cons t kv ts kvs p _ ih =>
  obtain ⟨more,k1,k2⟩:=ih;obtain ⟨_,its,rv,ht⟩:=(show ObjOk X.prog X.w H s.heap t (.tup [kV kv.1,kv.2]) from I.hok t _ p);cases rv with
  |cons p1 r1 =>
   cases r1 with
   |cons p2 r2 =>
    cases r2;rename_i u1 u2;refine ⟨(kv.1,u2)::more,.cons ⟨rfl,p2⟩ k1,λj t' m h1 h2=>?_⟩;cases j with
    |zero=>simp at h1 h2;subst h1 h2;exact ⟨u1,wj p1,ht⟩
    |succ j=>exact k2 j t' m (by simpa using h1) (by simpa using h2)
theorem KE:∀{ts:List Addr}{us:List Value},Vals (ts.map V.ref) us->us=ts.map Value.ref
 |[],_,.nil=>rfl
 |t::ts,_,.cons p r=>by
  obtain rfl:=(show _=Value.ref t from p);rw [KE r];rfl
theorem Wa:∀{kvs:List (j4×V)}{vs:List (j4×Value)},KV kvs vs->vs.map (·.1)=kvs.map (·.1)
 |[],_,.nil=>rfl
 |_::_,_,.cons p r=>by rw [yK,yK,Wa r,p.1]
end
section
variable {X:Cx}{tg:Expr}
def Gx:List V->Hp->VK->Prop:=λxs H Q=>∃(a:Addr)(ts:List Addr)(kvs:List (j4×V)),xs=[.ref a]/\H a=some (.lst (ts.map V.ref))/\Paired (λt (kv:j4×V)=>H t=some (.tup [kV kv.1,kv.2])) ts kvs/\(kvs.map (·.1)).Nodup/\kvs.length<=1000 /\
  ∀ l o,H l=none->Q (.ref l) (z8 H l (.frz o (.dK kvs)))
theorem Yt {K:Fg}(hc:X.calm=true)(_:X.K=K):CallR X (.type "dict") Gx:=by
 intro pins s σ H xs us Q I r h;obtain ⟨a,ts,kvs,rfl,hq,hp,hn,h1000,q⟩:=h;obtain ⟨u,rfl,ru⟩:=zf r;obtain rfl:u=Value.ref a:=ru;obtain ⟨hz,its,n,rv,ho⟩:=(show ObjOk X.prog X.w H s.heap a (.lst (ts.map V.ref)) from I.hok a _ hq);have ei:=KE rv;obtain ⟨more,k1,k2⟩:=Mo I hp;have lk:more.length=kvs.length:=k1.length.symm;have lt:=hp.length;have hsl:more.length<=sizeLine:=uT (wE (by omega));refine Bq (knd:=qz X.prog X.w) (more:=more) (I.ok.hd hc) ho (by rw [yV,ei,yZ];omega) hsl (λj v m hv hm=>?_) λh' tk k hd=>?_
 ·have hv':its[j]?=some v:=by simpa using hv
  rw [ei,yO] at hv';obtain ⟨t,ht,rfl⟩:=yJ.mp hv';obtain ⟨kk,x1,x2⟩:=k2 j t m ht hm;exact ⟨t,kk,rfl,x1,x2⟩
 ·rw [merged_nil_of_nodup more (by rw [Wa k1];exact hn)] at hd;obtain ⟨o,es,ep,ho',_⟩:=id hd;refine ⟨.ref s.heap.objs.size,_,I.laid (t':=tk) (o:= .frz o (.dK kvs)) k (yS _) ⟨ho',YN (by omega) (beq_eq_false_iff_ne.mpr (Ne.symm (yG I.big))) k1 hd⟩,rfl,q _ _ (I.hok.fresh (yS _))⟩
end
end L2
namespace Mi
open PySem L2
variable{H H' H0 Hb Hs Hs' Hs0:Hp}{u v:V}{ks:List j4}{C p:Addr}{ns:List Str}{vs:List V}{o:HO}{σ σ':St}{tb te:TE}{r:R2}{ta:TA}{n:Nat}{K:Fg}{t:TT}{E:XK}{nm:Str}{ts:List Nat}{lo:Int}{wi:TI}{tg:TG}
inductive PV where
 |at (v:V)|tup (xs:List PV)|lst (xs:List PV)|dk (ks:List j4) (xs:List PV)|fk (ks:List j4) (xs:List PV)|ob (C:Addr) (ns:List Str) (xs:List PV)|op (φ:Hp->V->Prop)
variable{xs:List PV}{x y:PV}{g:PV->PV->Option PV}{m:List PV->Option PV}
mutual
def Rep (H:Hp):PV->V->Prop
 | .at u,v=>v=u
 | .tup xs,v=>∃ a vs,v = .ref a/\H a=some (.tup vs)/\Reps H xs vs
 | .lst xs,v=>∃ a vs,v = .ref a/\H a=some (.lst vs)/\Reps H xs vs
 | .dk ks xs,v=>∃ a kvs,v = .ref a/\H a=some (.dK kvs)/\kvs.map (·.1)=ks/\Reps H xs (kvs.map (·.2))
 | .fk ks xs,v=>∃ a o kvs,v = .ref a/\H a=some (.frz o (.dK kvs))/\kvs.map (·.1)=ks/\Reps H xs (kvs.map (·.2))
 | .ob C ns xs,v=>∃ a dx fs,v = .ref a/\H a=some (.ins C dx fs)/\fs.map (·.1)=ns/\Reps H xs (fs.map (·.2))
 | .op φ,v=>∃ H',Same H' H/\φ H' v
def Reps (H:Hp):List PV->List V->Prop
 |[],vs=>vs=[]
 |x::xs,vs=>∃ v r,vs=v::r/\Rep H x v/\Reps H xs r
end
mutual
theorem Rep.mono {H H':Hp}(g:Same H H'):∀{x:PV}{v:V},Rep H x v->Rep H' x v
 | .at u,v,h=>by unfold Rep at h ⊢;exact h
 | .tup xs,v,h=>by unfold Rep at h ⊢;obtain ⟨a,vs,e,p,r⟩:=h;exact ⟨a,vs,e,g _ _ p,Reps.mono g r⟩
 | .lst xs,v,h=>by unfold Rep at h ⊢;obtain ⟨a,vs,e,p,r⟩:=h;exact ⟨a,vs,e,g _ _ p,Reps.mono g r⟩
 | .dk ks xs,v,h=>by unfold Rep at h ⊢;obtain ⟨a,vs,e,p,q,r⟩:=h;exact ⟨a,vs,e,g _ _ p,q,Reps.mono g r⟩
 | .fk ks xs,v,h=>by unfold Rep at h ⊢;obtain ⟨a,o,vs,e,p,q,r⟩:=h;exact ⟨a,o,vs,e,g _ _ p,q,Reps.mono g r⟩
 | .ob C ns xs,v,h=>by unfold Rep at h ⊢;obtain ⟨a,dx,vs,e,p,q,r⟩:=h;exact ⟨a,dx,vs,e,g _ _ p,q,Reps.mono g r⟩
 | .op φ,v,h=>by unfold Rep at h ⊢;obtain ⟨H1,s,p⟩:=h;exact ⟨H1,s.trans g,p⟩
theorem Reps.mono {H H':Hp}(g:Same H H'):∀{xs:List PV}{vs:List V},Reps H xs vs->Reps H' xs vs
 |[],vs,h=>by unfold Reps at h ⊢;exact h
 |x::xs,vs,h=>by unfold Reps at h ⊢;obtain ⟨v,r,e,p,q⟩:=h;exact ⟨v,r,e,Rep.mono g p,Reps.mono g q⟩
end
theorem rep_at :Rep H (.at u) v↔v=u:=by unfold Rep;exact Iff.rfl
theorem rep_tup :Rep H (.tup xs) v↔∃ a vs,v = .ref a/\H a=some (.tup vs)/\Reps H xs vs:=by unfold Rep;exact Iff.rfl
theorem rep_lst :Rep H (.lst xs) v↔∃ a vs,v = .ref a/\H a=some (.lst vs)/\Reps H xs vs:=by unfold Rep;exact Iff.rfl
theorem rep_dk :Rep H (.dk ks xs) v↔∃ a kvs,v = .ref a/\H a=some (.dK kvs)/\kvs.map (·.1)=ks/\Reps H xs (kvs.map (·.2)):=by unfold Rep;exact Iff.rfl
theorem rep_fk :Rep H (.fk ks xs) v↔∃ a o kvs,v = .ref a/\H a=some (.frz o (.dK kvs))/\kvs.map (·.1)=ks/\Reps H xs (kvs.map (·.2)):=by unfold Rep;exact Iff.rfl
theorem rep_ob :Rep H (.ob C ns xs) v↔∃ a dx fs,v = .ref a/\H a=some (.ins C dx fs)/\fs.map (·.1)=ns/\Reps H xs (fs.map (·.2)):=by unfold Rep;exact Iff.rfl
theorem rep_op {φ:Hp->V->Prop}:Rep H (.op φ) v↔∃ H',Same H' H/\φ H' v:=by unfold Rep;exact Iff.rfl
theorem reps_nil :Reps H [] vs↔vs=[]:=by unfold Reps;exact Iff.rfl
theorem reps_cons :Reps H (x::xs) vs↔∃ v r,vs=v::r/\Rep H x v/\Reps H xs r:=by
 constructor
 ·intro h;unfold Reps at h;exact h
 ·intro h;unfold Reps;exact h
theorem Reps.nil {H:Hp}:Reps H [] []:=reps_nil.mpr rfl
theorem Reps.cons {H:Hp}{x:PV}{v:V}{xs:List PV}{vs:List V}(p:Rep H x v)(q:Reps H xs vs):Reps H (x::xs) (v::vs):=reps_cons.mpr ⟨v,vs,rfl,p,q⟩
theorem Reps.length {H:Hp}:∀{xs:List PV}{vs:List V},Reps H xs vs->vs.length=xs.length
 |[],vs,h=>by rw [reps_nil.mp h];rfl
 |x::xs,vs,h=>by obtain ⟨v,r,rfl,_,q⟩:=reps_cons.mp h;rw [yC,yC,Reps.length q]
theorem Reps.append {H:Hp}:∀{xs ys:List PV}{vs ws:List V},Reps H xs vs->Reps H ys ws->Reps H (xs++ys) (vs++ws)
 |[],ys,vs,ws,h,k=>by rw [reps_nil.mp h];exact k
 |x::xs,ys,vs,ws,h,k=>by obtain ⟨v,r,rfl,p,q⟩:=reps_cons.mp h;exact .cons p (Reps.append q k)
theorem Reps.one (p:Rep H x v):Reps H [x] [v]:= .cons p .nil
theorem Reps.get {H:Hp}:∀{xs:List PV}{vs:List V}{i:Nat}{x:PV},Reps H xs vs->xs[i]?=some x->∃ v,vs[i]?=some v/\Rep H x v
 |[],_,i,x,_,e=>by simp at e
 |y::xs,vs,0,x,h,e=>by
  obtain ⟨v,r,rfl,p,q⟩:=reps_cons.mp h;simp at e;subst e;exact ⟨v,rfl,p⟩
 |y::xs,vs,i+1,x,h,e=>by
  obtain ⟨v,r,rfl,p,q⟩:=reps_cons.mp h;obtain ⟨w,e1,e2⟩:=Reps.get (i:=i) (x:=x) q (by simpa using e);exact ⟨w,by simpa using e1,e2⟩
theorem Reps.ats {H:Hp}:∀{us vs:List V},Reps H (us.map .at) vs->vs=us
 |[],vs,h=>reps_nil.mp h
 |u::us,vs,h=>by
  obtain ⟨v,r,rfl,p,q⟩:=reps_cons.mp h;rw [rep_at.mp p,Reps.ats q]
theorem Reps.ofAts {H:Hp}:∀(us:List V),Reps H (us.map .at) us
 |[]=> .nil
 |u::us=> .cons (rep_at.mpr rfl) (Reps.ofAts us)
structure Ext (Hs H Hs' H':Hp):Prop where
 s1:Same Hs Hs'
 s2:Same H H'
 s3:Same Hs' H'
 s4:∀ b,H b≠none->Hs b=none->Hs' b=none
theorem VA (g:Same H H'){b:Addr}(h:H b≠none):H' b≠none:=λz=>h (g.free z)
theorem Ext.refl (s:Same Hs H):Ext Hs H Hs H:=⟨.refl _,.refl _,s,λ_ _ z=>z⟩
theorem Ext.trans {A B A1 B1 A2 B2:Hp}(x:Ext A B A1 B1)(y:Ext A1 B1 A2 B2):Ext A B A2 B2:=⟨x.s1.trans y.s1,x.s2.trans y.s2,y.s3,λb h z=>y.s4 b (VA x.s2 h) (x.s4 b h z)⟩
theorem Ext.new (s:Same Hs H)(h:H p=none):Ext Hs H (z8 Hs p o) (z8 H p o):=by
 have hs:Hs p=none:=s.free h;refine ⟨λb u e=>?_,λb u e=>?_,λb u e=>?_,λb e z=>?_⟩
 ·rw [z9 (p5 e hs)];exact e
 ·rw [z9 (p5 e h)];exact e
 ·by_cases hb:b=p
  ·subst hb;rw [y7] at e ⊢;exact e
  ·rw [z9 hb] at e ⊢;exact s _ _ e
 ·have hb:b≠p:=λq=>e (by rw [q];exact h);rw [z9 hb];exact z
theorem Ext.newO (s:Same Hs H)(h:H p=none):Ext Hs H Hs (z8 H p o) :=
 ⟨.refl _,λb u e=>by rw [z9 (p5 e h)];exact e,λb u e=>by rw [z9 (p5 (s _ _ e) h)];exact s _ _ e,λ_ _ z=>z⟩
def Top (Hs H:Hp)(a:Addr):PV->Prop
 | .lst xs=>∃ vs,H a=some (.lst vs)/\Reps Hs xs vs
 | .dk ks xs=>∃ kvs,H a=some (.dK kvs)/\kvs.map (·.1)=ks/\Reps Hs xs (kvs.map (·.2))
 | .ob C ns xs=>∃ dx fs,H a=some (.ins C dx fs)/\fs.map (·.1)=ns/\Reps Hs xs (fs.map (·.2))
 |_=>False
theorem Top.there {a:Addr}:∀{x:PV},Top Hs H a x->H a≠none
 | .lst _,h,z=>by obtain ⟨vs,e,_⟩:=h;rw [e] at z;cases z
 | .dk _ _,h,z=>by obtain ⟨vs,e,_⟩:=h;rw [e] at z;cases z
 | .ob _ _ _,h,z=>by obtain ⟨dx,vs,e,_⟩:=h;rw [e] at z;cases z
theorem Top.mono {a:Addr}(g:Same Hs Hs')(e:∀ o,H a=some o->H' a=some o):∀{x:PV},Top Hs H a x->Top Hs' H' a x
 | .lst _,h=>by obtain ⟨vs,q,r⟩:=h;exact ⟨vs,e _ q,r.mono g⟩
 | .dk _ _,h=>by obtain ⟨vs,q,k,r⟩:=h;exact ⟨vs,e _ q,k,r.mono g⟩
 | .ob _ _ _,h=>by obtain ⟨dx,vs,q,k,r⟩:=h;exact ⟨dx,vs,e _ q,k,r.mono g⟩
theorem Top.rep {a:Addr}:∀{x:PV},Top Hs H a x->Hs a=none->∃ o,H a=some o/\Rep (z8 Hs a o) x (.ref a)
 | .lst _,h,n=>by
  obtain ⟨vs,q,r⟩:=h;exact ⟨_,q,rep_lst.mpr ⟨a,vs,rfl,y7,r.mono λb u e=>by rw [z9 (p5 e n)];exact e⟩⟩
 | .dk _ _,h,n=>by
  obtain ⟨vs,q,k,r⟩:=h;exact ⟨_,q,rep_dk.mpr ⟨a,vs,rfl,y7,k,r.mono λb u e=>by rw [z9 (p5 e n)];exact e⟩⟩
 | .ob _ _ _,h,n=>by
  obtain ⟨dx,vs,q,k,r⟩:=h;exact ⟨_,q,rep_ob.mpr ⟨a,dx,vs,rfl,y7,k,r.mono λb u e=>by rw [z9 (p5 e n)];exact e⟩⟩
theorem Ext.share {a:Addr}(x:Ext Hs H Hs' H')(h:H a=none)(n:Hs' a=none)(e:H' a=some o):Ext Hs H (z8 Hs' a o) H':=by
 refine ⟨λb u q=>?_,x.s2,λb u q=>?_,λb q z=>?_⟩
 ·rw [z9 (p5 (x.s1 _ _ q) n)];exact x.s1 _ _ q
 ·by_cases hb:b=a
  ·subst hb;rw [y7] at q;cases q;exact e
  ·rw [z9 hb] at q;exact x.s3 _ _ q
 ·have hb:b≠a:=λr=>q (by rw [r];exact h);rw [z9 hb];exact x.s4 b q z
def RepB (Hs H:Hp)(x:PV)(v:V):Prop:=Rep Hs x v∨∃ a,v = .ref a/\Hs a=none/\Top Hs H a x
theorem RepB.ext (e:Ext Hs H Hs' H')(h:RepB Hs H x v):RepB Hs' H' x v:=by
 rcases h with h|⟨a,rfl,n,t⟩
 ·exact .inl (h.mono e.s1)
 ·exact .inr ⟨a,rfl,e.s4 a t.there n,t.mono e.s1 λo q=>e.s2 _ _ q⟩
inductive MSlot where
 |no|sh (x:PV)|ow (x:PV)|bo (x:PV)
abbrev ME:=List MSlot
variable{ε:ME}
def Own (H0 Hs H:Hp)(a:Addr)(x:PV):Prop:=H0 a=none/\Hs a=none/\Top Hs H a x
structure RS (Hs0 H0 Hs H:Hp)(σ:St)(ε:ME):Prop where
 ext:Ext Hs0 H0 Hs H
 sh:∀(i:Nat)(x:PV),ε[i]?=some (.sh x)->∃ v,σ[i]?=some (some v)/\Rep Hs x v
 ow:∀(i:Nat)(x:PV),ε[i]?=some (.ow x)->∃ a,σ[i]?=some (some (.ref a))/\Own H0 Hs H a x
 nd:∀(i j:Nat)(x y:PV)(a:Addr),ε[i]?=some (.ow x)->ε[j]?=some (.ow y)->σ[i]?=some (some (.ref a))->σ[j]?=some (some (.ref a))->i=j
 len:σ.length=ε.length
 bo:∀(i:Nat)(x:PV),ε[i]?=some (.bo x)->∃ v,σ[i]?=some (some v)/\(Rep Hs x v∨∃ a,v = .ref a/\H0 a≠none/\Hs a=none/\Top Hs H a x)
section
variable {Hs0 H0 Hs H Hs' H':Hp}{σ:St}{ε:ME}
theorem RS.go (r:RS Hs0 H0 Hs H σ ε)(e:Ext Hs H Hs' H'):RS Hs0 H0 Hs' H' σ ε where
 ext:=r.ext.trans e
 sh:=λi x q=>by obtain ⟨v,a,b⟩:=r.sh i x q;exact ⟨v,a,b.mono e.s1⟩
 ow:=λi x q=>by
  obtain ⟨a,b,n0,n,t⟩:=r.ow i x q;exact ⟨a,b,n0,e.s4 a t.there n,t.mono e.s1 λo z=>e.s2 _ _ z⟩
 nd:=r.nd
 len:=r.len
 bo:=λi x q=>by
  obtain ⟨v,b,h|⟨a,rfl,n0,n,t⟩⟩:=r.bo i x q
  ·exact ⟨v,b,.inl (h.mono e.s1)⟩
  ·exact ⟨_,b,.inr ⟨a,rfl,n0,e.s4 a t.there n,t.mono e.s1 λo z=>e.s2 _ _ z⟩⟩
theorem RS.sub (r:RS Hs0 H0 Hs H σ ε):Same Hs H:=r.ext.s3
theorem RS.rebase (r:RS Hs0 H0 Hs H σ ε):RS Hs H0 Hs H σ ε:=⟨⟨.refl _,r.ext.s2,r.ext.s3,λ_ _ z=>z⟩,r.sh,r.ow,r.nd,r.len,r.bo⟩
theorem Ext.unbase (r:Ext Hs0 H0 Hb H)(e:Ext Hb H0 Hs' H'):Ext Hs0 H0 Hs' H':=⟨r.s1.trans e.s1,e.s2,e.s3,λb h z=>e.s4 b h (r.s4 b h z)⟩
theorem RS.unbase {ε':ME}(r:Ext Hs0 H0 Hb H)(e:RS Hb H0 Hs' H' σ' ε'):RS Hs0 H0 Hs' H' σ' ε':=⟨r.unbase e.ext,e.sh,e.ow,e.nd,e.len,e.bo⟩
theorem RS.put (r:RS Hs0 H0 Hs H σ ε){i:Nat}(h:Rep Hs x v):RS Hs0 H0 Hs H (σ.set i (some v)) (ε.set i (.sh x)) where
 ext:=r.ext
 sh:=λj y q=>by
  rw [yE] at q ⊢;split at q
  ·rename_i hij;split at q
   ·rename_i hl;injection q with q;injection q with q;subst q;rw [if_pos hij,if_pos (by rw [r.len,hij];rw [hij] at hl;exact hl)];exact ⟨v,rfl,h⟩
   ·cases q
  ·rename_i hij;rw [if_neg hij];exact r.sh j y q
 ow:=λj y q=>by
  rw [yE] at q ⊢;split at q
  ·split at q<;>cases q
  ·rename_i hij;rw [if_neg hij];exact r.ow j y q
 nd:=λj k x y a h1 h2 h3 h4=>by
  rw [yE] at h1 h2 h3 h4;split at h1
  ·split at h1<;>cases h1
  ·rename_i hj;rw [if_neg hj] at h3;split at h2
   ·split at h2<;>cases h2
   ·rename_i hk;rw [if_neg hk] at h4;exact r.nd j k x y a h1 h2 h3 h4
 len:=by rw [yn,yn,r.len]
 bo:=λj y q=>by
  rw [yE] at q ⊢;split at q
  ·split at q<;>cases q
  ·rename_i hij;rw [if_neg hij];exact r.bo j y q
theorem RS.putO (r:RS Hs0 H0 Hs H σ ε){i:Nat}{a:Addr}(h:Own H0 Hs H a x)(ne:∀(j:Nat)(y:PV),ε[j]?=some (.ow y)->σ[j]?≠some (some (.ref a))):RS Hs0 H0 Hs H (σ.set i (some (.ref a))) (ε.set i (.ow x)) where
 ext:=r.ext
 sh:=λj y q=>by
  rw [yE] at q ⊢;split at q
  ·split at q<;>cases q
  ·rename_i hij;rw [if_neg hij];exact r.sh j y q
 ow:=λj y q=>by
  rw [yE] at q ⊢;split at q
  ·rename_i hij;split at q
   ·rename_i hl;injection q with q;injection q with q;subst q;rw [if_pos hij,if_pos (by rw [r.len,hij];rw [hij] at hl;exact hl)];exact ⟨a,rfl,h⟩
   ·cases q
  ·rename_i hij;rw [if_neg hij];exact r.ow j y q
 nd:=λj k x' y b h1 h2 h3 h4=>by
  rw [yE] at h1 h2 h3 h4;split at h1
  ·rename_i hj;rw [if_pos hj] at h3;split at h1
   ·rename_i hl;rw [if_pos (by rw [r.len];exact hl)] at h3;injection h3 with h3;injection h3 with h3;injection h3 with h3;subst h3;split at h2
    ·rename_i hk;exact hj.symm.trans hk
    ·rename_i hk;rw [if_neg hk] at h4;exact absurd h4 (ne k y h2)
   ·cases h1
  ·rename_i hj;rw [if_neg hj] at h3;split at h2
   ·rename_i hk;rw [if_pos hk] at h4;split at h2
    ·rename_i hl;rw [if_pos (by rw [r.len];exact hl)] at h4;injection h4 with h4;injection h4 with h4;injection h4 with h4;subst h4;exact absurd h3 (ne j x' h1)
    ·cases h2
   ·rename_i hk;rw [if_neg hk] at h4;exact r.nd j k x' y b h1 h2 h3 h4
 len:=by rw [yn,yn,r.len]
 bo:=λj y q=>by
  rw [yE] at q ⊢;split at q
  ·split at q<;>cases q
  ·rename_i hij;rw [if_neg hij];exact r.bo j y q
theorem RS.change (r:RS Hs0 H0 Hs H σ ε){i:Nat}{a:Addr}(hi:ε[i]?=some (.ow x))(ha:σ[i]?=some (some (.ref a)))(t:Top Hs (z8 H a o) a y):RS Hs0 H0 Hs (z8 H a o) σ (ε.set i (.ow y)):=by
 obtain ⟨b,hb,n0,n,tx⟩:=r.ow i x hi;rw [ha] at hb;injection hb with hb;injection hb with hb;injection hb with hb;subst hb;refine ⟨⟨r.ext.s1,λb u e=>?_,λb u e=>?_,r.ext.s4⟩,λj z q=>?_,λj z q=>?_,λj k z z' c h1 h2 h3 h4=>?_,by rw [yn,r.len],λj z q=>?_⟩
 ·rw [z9 (p5 e n0)];exact r.ext.s2 _ _ e
 ·rw [z9 (p5 e n)];exact r.ext.s3 _ _ e
 ·rw [yE] at q;split at q
  ·split at q<;>cases q
  ·exact r.sh j z q
 ·rw [yE] at q;split at q
  ·rename_i hij;split at q
   ·injection q with q;injection q with q;subst q;exact ⟨a,hij▸ha,n0,n,t⟩
   ·cases q
  ·rename_i hij;obtain ⟨c,hc,m0,m,tc⟩:=r.ow j z q;have hne:c≠a:=λe=>hij (r.nd i j x z a hi q ha (e▸hc));exact ⟨c,hc,m0,m,tc.mono (.refl _) λo' e=>by rw [z9 hne];exact e⟩
 ·have down:∀{m:Nat}{w:PV},(ε.set i (.ow y))[m]?=some (.ow w)->∃ w',ε[m]?=some (.ow w'):=by
   intro m w q;rw [yE] at q;split at q
   ·rename_i him;exact ⟨x,him▸hi⟩
   ·exact ⟨w,q⟩
  obtain ⟨w1,q1⟩:=down h1;obtain ⟨w2,q2⟩:=down h2;exact r.nd j k w1 w2 c q1 q2 h3 h4
 ·rw [yE] at q;split at q
  ·split at q<;>cases q
  ·obtain ⟨v,hv,h|⟨c,rfl,m0,m,tc⟩⟩:=r.bo j z q
   ·exact ⟨v,hv,.inl h⟩
   ·have hne:c≠a:=λe=>m0 (e▸n0);exact ⟨_,hv,.inr ⟨c,rfl,m0,m,tc.mono (.refl _) λo' e=>by rw [z9 hne];exact e⟩⟩
def fz (i:Nat)(ε:ME):ME:=match ε[i]? with
 |some (.ow x)=>ε.set i (.sh x)
 |_=>ε
theorem RS.freeze (r:RS Hs0 H0 Hs H σ ε)(i:Nat):∃ Hs',Same Hs Hs'/\RS Hs0 H0 Hs' H σ (fz i ε):=by
 unfold fz;split
 ·rename_i x hi;obtain ⟨a,ha,n0,n,t⟩:=r.ow i x hi;obtain ⟨o,ho,hr⟩:=t.rep n;have g:Same Hs (z8 Hs a o):=λb u e=>by rw [z9 (p5 e n)];exact e
  refine ⟨z8 Hs a o,g,⟨r.ext.s1.trans g,r.ext.s2,λb u e=>?_,λb h z=>?_⟩,λj y q=>?_,λj y q=>?_,λj k z z' c h1 h2 h3 h4=>?_,by rw [yn,r.len],λj y q=>?_⟩
  ·by_cases hb:b=a
   ·subst hb;rw [y7] at e;cases e;exact ho
   ·rw [z9 hb] at e;exact r.ext.s3 _ _ e
  ·have hb:b≠a:=λe=>h (e▸n0);rw [z9 hb];exact r.ext.s4 b h z
  ·rw [yE] at q;split at q
   ·rename_i hij;split at q
    ·injection q with q;injection q with q;subst q;exact ⟨.ref a,hij▸ha,hr⟩
    ·cases q
   ·obtain ⟨v,e,w⟩:=r.sh j y q;exact ⟨v,e,w.mono g⟩
  ·rw [yE] at q;split at q
   ·split at q<;>cases q
   ·rename_i hij;obtain ⟨c,hc,m0,m,tc⟩:=r.ow j y q;have hne:c≠a:=λe=>hij (r.nd i j x y a hi q ha (e▸hc));exact ⟨c,hc,m0,by rw [z9 hne];exact m,tc.mono g λ_ e=>e⟩
  ·have down:∀{m:Nat}{w:PV},(ε.set i (.sh x))[m]?=some (.ow w)->ε[m]?=some (.ow w):=by
    intro m w q;rw [yE] at q;split at q
    ·split at q<;>cases q
    ·exact q
   exact r.nd j k z z' c (down h1) (down h2) h3 h4
  ·rw [yE] at q;split at q
   ·split at q<;>cases q
   ·obtain ⟨v,hv,h|⟨c,rfl,m0,m,tc⟩⟩:=r.bo j y q
    ·exact ⟨v,hv,.inl (h.mono g)⟩
    ·have hne:c≠a:=λe=>m0 (e▸n0);exact ⟨_,hv,.inr ⟨c,rfl,m0,by rw [z9 hne];exact m,tc.mono g λ_ e=>e⟩⟩
 ·exact ⟨Hs,.refl _,r⟩
end
theorem ww {j:Nat}{s:MSlot}(h:∀(i:Nat)(x:PV),ε[i]?≠some (.bo x))(hs:∀ x,s ≠ .bo x):∀(i:Nat)(x:PV),(ε.set j s)[i]?≠some (.bo x):=λi x q=>by
 rw [yE] at q;split at q
 ·split at q
  ·injection q with q;exact hs x q
  ·cases q
 ·exact h i x q
abbrev M:=ME->Option PV
variable{a b:M}
abbrev MB:=ME->Option Bool
variable{c:MB}
abbrev MA:=ME->Option (List PV)
variable{as f:MA}
class SemE (te:TE)(f:M):Prop where
 h:∀{ε y},f ε=some y->∀{Hs0 H0 Hs H σ},RS Hs0 H0 Hs H σ ε->∀{Q:VK},(∀ v Hs' H',Ext Hs H Hs' H'->Rep Hs' y v->Q v H')->te σ H Q
class i7 (te:TE)(f:M):Prop where
 h:∀{ε y},f ε=some y->∀{Hs0 H0 Hs H σ},RS Hs0 H0 Hs H σ ε->∀{Q:VK},(∀ v Hs' H',Ext Hs H Hs' H'->RepB Hs' H' y v->Q v H')->te σ H Q
class xw (te:TE)(f:M):Prop where
 h:∀{ε y},f ε=some y->∀{Hs0 H0 Hs H σ},RS Hs0 H0 Hs H σ ε->∀{Q:VK},(∀ a Hs' H',Ext Hs H Hs' H'->H a=none->Hs' a=none->Top Hs' H' a y->Q (.ref a) H')->te σ H Q
class qI (tt:TT)(f:MB):Prop where
 h:∀{ε y},f ε=some y->∀{Hs0 H0 Hs H σ},RS Hs0 H0 Hs H σ ε->∀{Q:Bool->Hp->Prop},(∀ Hs' H',Ext Hs H Hs' H'->Q y H')->tt σ H Q
class qY (ta:TA)(f:MA):Prop where
 h:∀{ε ys},f ε=some ys->∀{Hs0 H0 Hs H σ},RS Hs0 H0 Hs H σ ε->∀{Q:List V->Hp->Prop},(∀ vs Hs' H',Ext Hs H Hs' H'->Reps Hs' ys vs->Q vs H')->ta σ H Q
def vN (Hs H:Hp):List PV->List V->Prop
 |[],vs=>vs=[]
 |x::xs,vs=>∃ v r,vs=v::r/\RepB Hs H x v/\vN Hs H xs r
class wU (ta:TA)(f:MA):Prop where
 h:∀{ε ys},f ε=some ys->∀{Hs0 H0 Hs H σ},RS Hs0 H0 Hs H σ ε->∀{Q:List V->Hp->Prop},(∀ vs Hs' H',Ext Hs H Hs' H'->vN Hs' H' ys vs->Q vs H')->ta σ H Q
class xx (r:R2)(g:PV->PV->Option PV):Prop where
 h:∀{x y z},g x y=some z->∀{Hs H:Hp}{v w:V},Same Hs H->RepB Hs H x v->RepB Hs H y w->∀{Q:VK},(∀ u Hs' H',Ext Hs H Hs' H'->Rep Hs' z u->Q u H')->r v w H Q
class SemRO (r:R2)(g:PV->PV->Option PV):Prop where
 h:∀{x y z},g x y=some z->∀{Hs H:Hp}{v w:V},Same Hs H->RepB Hs H x v->RepB Hs H y w->∀{Q:VK},(∀ a Hs' H',Ext Hs H Hs' H'->H a=none->Hs' a=none->Top Hs' H' a z->Q (.ref a) H')->r v w H Q
instance (priority:=50) semE_O {f:M}[s:xw te f]:SemE te f where
 h:=λe _ _ _ _ _ r _ q=>s.h e r λa Hs' H' x h n t=>by
  obtain ⟨o,ho,hr⟩:=t.rep n;exact q _ _ _ (x.share h n ho) hr
instance (priority:=50) semB_E {f:M}[s:SemE te f]:i7 te f where
 h:=λe _ _ _ _ _ r _ q=>s.h e r λv Hs' H' x h=>q v Hs' H' x (.inl h)
def x6 (i:Nat):M:=λε=>match ε[i]? with
 |some (.sh x)=>some x
 |_=>none
def x8 (i:Nat):M:=λε=>match ε[i]? with
 |some (.sh x)=>some x
 |some (.ow x)=>some x
 |some (.bo x)=>some x
 |_=>none
def dC (v:V):M:=λ_=>some (.at v)
instance {i:Nat}:SemE (o4 i) (x6 i) where
 h:=λ{ε y} e {_ _ _ _ _} r {_} q=>by
  unfold x6 at e;split at e
  ·rename_i x hx;cases e;obtain ⟨v,h1,h2⟩:=r.sh i _ hx;exact ⟨v,h1,q v _ _ (.refl r.sub) h2⟩
  ·cases e
instance {i:Nat}:i7 (o4 i) (x8 i) where
 h:=λ{ε y} e {_ _ _ _ _} r {_} q=>by
  unfold x8 at e;split at e
  ·rename_i x hx;cases e;obtain ⟨v,h1,h2⟩:=r.sh i _ hx;exact ⟨v,h1,q v _ _ (.refl r.sub) (.inl h2)⟩
  ·rename_i x hx;cases e;obtain ⟨a,h1,_,n,t⟩:=r.ow i _ hx;exact ⟨_,h1,q _ _ _ (.refl r.sub) (.inr ⟨a,rfl,n,t⟩)⟩
  ·rename_i x hx;cases e;obtain ⟨v,h1,h2|⟨a,rfl,_,n,t⟩⟩:=r.bo i _ hx
   ·exact ⟨v,h1,q v _ _ (.refl r.sub) (.inl h2)⟩
   ·exact ⟨_,h1,q _ _ _ (.refl r.sub) (.inr ⟨a,rfl,n,t⟩)⟩
  ·cases e
instance :SemE (tC v) (dC v) where
 h:=λe _ _ _ _ _ r _ q=>by cases e;exact q v _ _ (.refl r.sub) (rep_at.mpr rfl)
def z0 (g:PV->PV->Option PV)(a b:M):M:=λε=>(a ε).bind λx=>(b ε).bind λy=>g x y
theorem bind_some {α β:Type}{o:Option α}{f:α->Option β}{y:β}(h:o.bind f=some y):∃ x,o=some x/\f x=some y:=by
 cases o with
 |none=>cases h
 |some x=>exact ⟨x,rfl,h⟩
instance {ta:TE}[sr:xx r g][sa:i7 ta a][sb:i7 tb b]:SemE (tOp r ta tb) (z0 g a b) where
 h:=λe _ _ _ _ _ rs _ q=>by
  obtain ⟨x,ex,e⟩:=bind_some e;obtain ⟨y,ey,e⟩:=bind_some e;exact sa.h ex rs λv Hs1 H1 x1 r1=>sb.h ey (rs.go x1) λw Hs2 H2 x2 r2=>sr.h e x2.s3 (r1.ext x2) r2 λu Hs3 H3 x3 r3=>q u _ _ (x1.trans (x2.trans x3)) r3
instance {ta:TE}[sr:SemRO r g][sa:i7 ta a][sb:i7 tb b]:xw (tOp r ta tb) (z0 g a b) where
 h:=λe _ _ _ _ _ rs _ q=>by
  obtain ⟨x,ex,e⟩:=bind_some e;obtain ⟨y,ey,e⟩:=bind_some e;exact sa.h ex rs λv Hs1 H1 x1 r1=>sb.h ey (rs.go x1) λw Hs2 H2 x2 r2=>sr.h e x2.s3 (r1.ext x2) r2 λu Hs3 H3 x3 n n' r3=>q u _ _ (x1.trans (x2.trans x3)) (x1.s2.free (x2.s2.free n)) n' r3
def x9:MA:=λ_=>some []
def q0 (a:M)(r:MA):MA:=λε=>(a ε).bind λx=>(r ε).bind λxs=>some (x::xs)
instance:qY qa x9 where
 h:=λe _ _ _ _ _ r _ q=>by cases e;exact q [] _ _ (.refl r.sub) .nil
instance [sa:SemE te a][sr:qY ta f]:qY (i6 te ta) (q0 a f) where
 h:=λe _ _ _ _ _ rs _ q=>by
  obtain ⟨x,ex,e⟩:=bind_some e;obtain ⟨xs,ey,e⟩:=bind_some e;cases e;exact sa.h ex rs λv Hs1 H1 x1 r1=>sr.h ey (rs.go x1) λvs Hs2 H2 x2 r2=>q _ _ _ (x1.trans x2) (.cons (r1.mono x2.s1) r2)
instance:wU qa x9 where
 h:=λe _ _ _ _ _ r _ q=>by cases e;exact q [] _ _ (.refl r.sub) rfl
instance [sa:i7 te a][sr:wU ta f]:wU (i6 te ta) (q0 a f) where
 h:=λe _ _ _ _ _ rs _ q=>by
  obtain ⟨x,ex,e⟩:=bind_some e;obtain ⟨xs,ey,e⟩:=bind_some e;cases e;exact sa.h ex rs λv Hs1 H1 x1 r1=>sr.h ey (rs.go x1) λvs Hs2 H2 x2 r2=>q _ _ _ (x1.trans x2) ⟨_,_,rfl,r1.ext x2,r2⟩
def lim:Nat:=1000000
theorem qR (h:n<=lim):n<=sizeLine:=yc h (by rw [sizeLine_eq];decide)
theorem Qg (h:n<=lim):n<sizeLine:=Nat.lt_of_le_of_lt h (by rw [sizeLine_eq];decide)
def t6 (a:MA):M:=λε=>(a ε).bind λxs=>if xs.length<=lim then some (.tup xs) else none
def o6 (a:MA):M:=λε=>(a ε).bind λxs=>if xs.length<=lim then some (.lst xs) else none
instance [sa:qY ta f]:SemE (tTup ta) (t6 f) where
 h:=λe _ _ _ _ _ rs _ q=>by
  obtain ⟨xs,ex,e⟩:=bind_some e;split at e
  ·rename_i hl;cases e;exact sa.h ex rs λvs Hs1 H1 x1 r1=>⟨qR (r1.length▸hl),λp hp=>q _ _ _ (x1.trans (.new x1.s3 hp)) (rep_tup.mpr ⟨p,vs,rfl,y7,r1.mono (Ext.new x1.s3 hp).s1⟩)⟩
  ·cases e
instance [sa:qY ta f]:xw (tLst ta) (o6 f) where
 h:=λe _ _ _ _ _ rs _ q=>by
  obtain ⟨xs,ex,e⟩:=bind_some e;split at e
  ·rename_i hl;cases e;exact sa.h ex rs λvs Hs1 H1 x1 r1=>⟨qR (r1.length▸hl),λp hp=>q _ _ _ (x1.trans (.newO x1.s3 hp)) (x1.s2.free hp) (x1.s3.free hp) ⟨vs,y7,r1⟩⟩
  ·cases e
theorem p0 (h:RepB Hs H (.at u) v):v=u:=by
 rcases h with h|⟨a,_,_,t⟩
 ·exact rep_at.mp h
 ·exact t.elim
theorem qd (s:Same Hs H)(h:RepB Hs H (.lst xs) v):∃ a vs,v = .ref a/\H a=some (.lst vs)/\Reps Hs xs vs:=by
 rcases h with h|⟨a,rfl,_,vs,e,r⟩
 ·obtain ⟨a,vs,rfl,e,r⟩:=rep_lst.mp h;exact ⟨a,vs,rfl,s _ _ e,r⟩
 ·exact ⟨a,vs,rfl,e,r⟩
theorem xq (s:Same Hs H)(h:RepB Hs H (.tup xs) v):∃ a vs,v = .ref a/\H a=some (.tup vs)/\Reps Hs xs vs:=by
 rcases h with h|⟨a,rfl,_,t⟩
 ·obtain ⟨a,vs,rfl,e,r⟩:=rep_tup.mp h;exact ⟨a,vs,rfl,s _ _ e,r⟩
 ·exact t.elim
theorem QG (s:Same Hs H)(h:RepB Hs H (.fk ks xs) v):∃ a o kvs,v = .ref a/\H a=some (.frz o (.dK kvs))/\kvs.map (·.1)=ks/\Reps Hs xs (kvs.map (·.2)):=by
 rcases h with h|⟨a,rfl,n,t⟩
 ·obtain ⟨a,o,kvs,rfl,e,k,r⟩:=rep_fk.mp h;exact ⟨a,o,kvs,rfl,s _ _ e,k,r⟩
 ·exact t.elim
theorem jC (s:Same Hs H)(h:RepB Hs H (.dk ks xs) v):∃ a kvs,v = .ref a/\H a=some (.dK kvs)/\kvs.map (·.1)=ks/\Reps Hs xs (kvs.map (·.2)):=by
 rcases h with h|⟨a,rfl,_,kvs,e,k,r⟩
 ·obtain ⟨a,kvs,rfl,e,k,r⟩:=rep_dk.mp h;exact ⟨a,kvs,rfl,s _ _ e,k,r⟩
 ·exact ⟨a,kvs,rfl,e,k,r⟩
theorem GQ (s:Same Hs H)(h:RepB Hs H (.ob C ns xs) v):∃ a dx fs,v = .ref a/\H a=some (.ins C dx fs)/\fs.map (·.1)=ns/\Reps Hs xs (fs.map (·.2)):=by
 rcases h with h|⟨a,rfl,_,dx,fs,e,k,r⟩
 ·obtain ⟨a,dx,fs,rfl,e,k,r⟩:=rep_ob.mp h;exact ⟨a,dx,fs,rfl,s _ _ e,k,r⟩
 ·exact ⟨a,dx,fs,rfl,e,k,r⟩
def pI (g:Int->Int->Option V):PV->PV->Option PV
 | .at (.int i),.at (.int j)=>(g i j).map .at
 |_,_=>none
theorem Gd {g:Int->Int->Option V}{z:PV}(h:pI g x y=some z):∃ i j u,x = .at (.int i)/\y = .at (.int j)/\g i j=some u/\z = .at u:=by
 unfold pI at h;split at h
 ·rename_i i j;obtain ⟨u,e,rfl⟩:=yJ.mp h;exact ⟨i,j,u,rfl,rfl,e,rfl⟩
 ·cases h
instance {g:Int->Int->V}:xx (rI0 g) (pI λi j=>some (g i j)) where
 h:=λe _ _ _ _ s a b _ q=>by
  obtain ⟨i,j,u,rfl,rfl,e,rfl⟩:=Gd e;cases e;exact ⟨i,j,p0 a,p0 b,q _ _ _ (.refl s) (rep_at.mpr rfl)⟩
instance {C:Int->Int->Prop}[d:∀ i j,Decidable (C i j)]{g:Int->Int->V}:xx (rI C g) (pI λi j=>if C i j then some (g i j) else none) where
 h:=λe _ _ _ _ s a b _ q=>by
  obtain ⟨i,j,u,rfl,rfl,e',rfl⟩:=Gd e;split at e'
  ·rename_i hc;cases e';exact ⟨i,j,p0 a,p0 b,hc,q _ _ _ (.refl s) (rep_at.mpr rfl)⟩
  ·cases e'
def vn:PV->PV->Option PV
 | .lst xs,.lst ys=>if xs.length+ys.length<=lim then some (.lst (xs++ys)) else none
 |_,_=>none
instance :SemRO (Zd K) vn where
 h:=λ{x y z} e {Hs H v w} s a b {Q} q=>by
  unfold vn at e;split at e
  ·split at e
   ·rename_i hl;cases e;obtain ⟨p,vs,rfl,e1,r1⟩:=qd s a;obtain ⟨p',ws,rfl,e2,r2⟩:=qd s b;refine ⟨p,p',vs,ws,rfl,rfl,SqL.of e1,SqL.of e2,qR (by rw [r1.length,r2.length];exact hl),λl hl=>?_⟩;exact q l _ _ (.newO s hl) hl (s.free hl) ⟨_,y7,r1.append r2⟩
   ·cases e
  ·cases e
def j8:PV->PV->Option PV
 | .lst xs,.at (.int i)=>atI xs i
 | .tup xs,.at (.int i)=>atI xs i
 | .at (.str z),.at (.int i)=>if z.length<=lim then (L2.atI z.cps.toList i).map λc=> .at (.str ⟨#[c]⟩) else none
 |_,_=>none
theorem Reps.atI {i:Int}(r:Reps H xs vs)(h:atI xs i=some x):∃ v,L2.atI vs i=some v/\Rep H x v:=by unfold L2.atI at h ⊢;rw [r.length];obtain ⟨j,ej,e⟩:=bind_some h;rw [ej];exact r.get e
instance :xx (rIx K) j8 where
 h:=λ{x y z} e {Hs H v w} s a b {Q} q=>by
  unfold j8 at e;split at e
  ·obtain ⟨p,vs,rfl,e1,r1⟩:=qd s a;obtain ⟨u,hu,r⟩:=r1.atI e;exact .inl ⟨p,vs,_,u,rfl,p0 b,SqL.of e1,hu,q _ _ _ (.refl s) r⟩
  ·obtain ⟨p,vs,rfl,e1,r1⟩:=xq s a;obtain ⟨u,hu,r⟩:=r1.atI e;exact .inr (.inl ⟨p,vs,_,u,rfl,p0 b,SqT.of e1,hu,q _ _ _ (.refl s) r⟩)
  ·split at e
   ·rename_i hz;obtain ⟨c,hc,rfl⟩:=yJ.mp e;exact .inr (.inr ⟨_,_,c,p0 a,p0 b,qR hz,hc,q _ _ _ (.refl s) (rep_at.mpr rfl)⟩)
   ·cases e
  ·cases e
def ats:List PV->Option (List V)
 |[]=>some []
 | .at u::xs=>(ats xs).map (u::·)
 |_::_=>none
theorem jR:∀{xs:List PV}{us:List V},ats xs=some us->xs=us.map .at
 |[],_,h=>by cases h;rfl
 | .at u::xs,us,h=>by
  unfold ats at h;obtain ⟨r,e,rfl⟩:=yJ.mp h;rw [yK,jR e]
 | .tup _::_,_,h=>by cases h
 | .lst _::_,_,h=>by cases h
 | .dk _ _::_,_,h=>by cases h
 | .fk _ _::_,_,h=>by cases h
 | .ob _ _ _::_,_,h=>by cases h
 | .op _::_,_,h=>by cases h
def pIn (neg:Bool):PV->PV->Option PV
 | .at u,.lst xs=>(ats xs).bind λus=>if k6 u=true/\us.all k6=true then some (.at (.bl (if neg then !inV u us else inV u us))) else none
 | .at u,.tup xs=>(ats xs).bind λus=>if k6 u=true/\us.all k6=true then some (.at (.bl (if neg then !inV u us else inV u us))) else none
 |_,_=>none
instance {neg:Bool}:xx (rIn K neg) (pIn neg) where
 h:=λ{x y z} e {Hs H v w} s a b {Q} q=>by
  unfold pIn at e;split at e
  ·obtain ⟨us,e1,e⟩:=bind_some e;split at e
   ·rename_i hf;cases e;obtain ⟨p,vs,rfl,e2,r2⟩:=qd s b;rw [jR e1] at r2;cases r2.ats;cases p0 a;exact ⟨p,_,rfl,.inl (SqL.of e2),hf.1,hf.2,q _ _ _ (.refl s) (rep_at.mpr rfl)⟩
   ·cases e
  ·obtain ⟨us,e1,e⟩:=bind_some e;split at e
   ·rename_i hf;cases e;obtain ⟨p,vs,rfl,e2,r2⟩:=xq s b;rw [jR e1] at r2;cases r2.ats;cases p0 a;exact ⟨p,_,rfl,.inr (SqT.of e2),hf.1,hf.2,q _ _ _ (.refl s) (rep_at.mpr rfl)⟩
   ·cases e
  ·cases e
class SemU (r:V->Hp->VK->Prop)(g:PV->Option PV):Prop where
 h:∀{x z},g x=some z->∀{Hs H:Hp}{v:V},Same Hs H->RepB Hs H x v->∀{Q:VK},(∀ u Hs' H',Ext Hs H Hs' H'->Rep Hs' z u->Q u H')->r v H Q
def dUn (g:PV->Option PV)(a:M):M:=λε=>(a ε).bind g
instance {r:V->Hp->VK->Prop}{g:PV->Option PV}{ta:TE}[sr:SemU r g][sa:i7 ta a]:SemE (tUn r ta) (dUn g a) where
 h:=λe _ _ _ _ _ rs _ q=>by
  obtain ⟨x,ex,e⟩:=bind_some e;exact sa.h ex rs λv Hs1 H1 x1 r1=>sr.h e x1.s3 r1 λu Hs3 H3 x3 r3=>q u _ _ (x1.trans x3) r3
def pU (g:Int->V):PV->Option PV
 | .at (.int i)=>some (.at (g i))
 |_=>none
instance {g:Int->V}:SemU (rU g) (pU g) where
 h:=λ{x z} e {_ _ _} s a {_} q=>by
  unfold pU at e;split at e
  ·cases e;exact ⟨_,p0 a,q _ _ _ (.refl s) (rep_at.mpr rfl)⟩
  ·cases e
def pB:PV->Option Bool
 | .at (.bl b)=>some b
 |_=>none
theorem wy {b:Bool}(h:pB x=some b):x = .at (.bl b):=by
 unfold pB at h;split at h
 ·cases h;rfl
 ·cases h
def dT (a:M):MB:=λε=>(a ε).bind pB
instance [sa:i7 te a]:qI (VJ te) (dT a) where
 h:=λe _ _ _ _ _ rs _ q=>by
  obtain ⟨x,ex,e⟩:=bind_some e;cases wy e;exact sa.h ex rs λv Hs1 H1 x1 r1=>⟨_,p0 r1,q _ _ x1⟩
instance [sa:i7 te a]:qI (tB te) (dT a) where
 h:=λe _ _ _ _ _ rs _ q=>by
  obtain ⟨x,ex,e⟩:=bind_some e;cases wy e;exact sa.h ex rs λv Hs1 H1 x1 r1=>⟨_,p0 r1,q _ _ x1⟩
def tTru (K:Fg)(ta:TE):TT:=λσ H Q=>ta σ H λx H'=>∃ k,TruV K x H' k/\Q k H'
def pTru:PV->Option Bool
 | .at .non=>some false
 | .at (.bl b)=>some b
 | .at (.int i)=>some (i != 0)
 | .at (.str y)=>if y.length<=lim then some ((y.length:Int) != 0) else none
 | .lst xs=>some (!xs.isEmpty)
 | .tup xs=>some (!xs.isEmpty)
 | .dk ks _=>some (!ks.isEmpty)
 |_=>none
def m6 (a:M):MB:=λε=>(a ε).bind pTru
theorem Reps.isEmpty (r:Reps H xs vs):vs.isEmpty=xs.isEmpty:=by have:=r.length;cases xs<;>cases vs<;>first|rfl|(simp at this)
instance [sa:i7 te a]:qI (tTru K te) (m6 a) where
 h:=λe _ _ _ _ _ rs _ q=>by
  obtain ⟨x,ex,e⟩:=bind_some e;refine sa.h ex rs λv Hs1 H1 x1 r1=>?_;unfold pTru at e;split at e
  ·cases e;cases p0 r1;exact ⟨_,rfl,q _ _ x1⟩
  ·cases e;cases p0 r1;exact ⟨_,rfl,q _ _ x1⟩
  ·cases e;cases p0 r1;exact ⟨_,rfl,q _ _ x1⟩
  ·split at e
   ·rename_i hl;cases e;cases p0 r1;exact ⟨_,⟨qR hl,rfl⟩,q _ _ x1⟩
   ·cases e
  ·cases e;obtain ⟨p,vs,rfl,e1,r2⟩:=qd x1.s3 r1;exact ⟨_,.inl ⟨vs,SqL.of e1,by rw [r2.isEmpty]⟩,q _ _ x1⟩
  ·cases e;obtain ⟨p,vs,rfl,e1,r2⟩:=xq x1.s3 r1;exact ⟨_,.inr (.inl ⟨vs,SqT.of e1,by rw [r2.isEmpty]⟩),q _ _ x1⟩
  ·cases e;obtain ⟨p,kvs,rfl,e1,k,r2⟩:=jC x1.s3 r1;refine ⟨_,.inr (.inr ⟨kvs,e1,?_⟩),q _ _ x1⟩;rw [<- k];cases kvs<;>rfl
  ·cases e
def jU (a b:MB):MB:=λε=>(a ε).bind λc=>if c=true then b ε else some false
def dOr (a b:MB):MB:=λε=>(a ε).bind λc=>if c=true then some true else b ε
def n9 (a:MB):MB:=λε=>(a ε).bind λc=>some (!c)
instance {u:TT}{a b:MB}[sa:qI t a][sb:qI u b]:qI (tAnd t u) (jU a b) where
 h:=λe _ _ _ _ _ rs _ q=>by
  obtain ⟨c,ex,e⟩:=bind_some e;refine sa.h ex rs λHs1 H1 x1=>?_;cases c with
  |true=>exact xC (sb.h e (rs.go x1) λHs2 H2 x2=>q _ _ (x1.trans x2))
  |false=>cases e;exact xz (q _ _ x1)
instance {u:TT}{a b:MB}[sa:qI t a][sb:qI u b]:qI (tOr t u) (dOr a b) where
 h:=λe _ _ _ _ _ rs _ q=>by
  obtain ⟨c,ex,e⟩:=bind_some e;refine sa.h ex rs λHs1 H1 x1=>?_;cases c with
  |true=>cases e;exact xC (q _ _ x1)
  |false=>exact xz (sb.h e (rs.go x1) λHs2 H2 x2=>q _ _ (x1.trans x2))
instance {a:MB}[sa:qI t a]:qI (tNot t) (n9 a) where
 h:=λe _ _ _ _ _ rs _ q=>by
  obtain ⟨c,ex,e⟩:=bind_some e;cases e;exact sa.h ex rs λHs1 H1 x1=>q _ _ x1
def xJ (a b:M):M:=λε=>(a ε).bind λx=>(pB x).bind λc=>if c=true then b ε else some (.at (.bl false))
def dOrV (a b:M):M:=λε=>(a ε).bind λx=>(pB x).bind λc=>if c=true then some (.at (.bl true)) else b ε
def wY (a:M):M:=λε=>(a ε).bind λx=>(pB x).bind λc=>some (.at (.bl (!c)))
instance {t u:TE}[sa:SemE t a][sb:SemE u b]:SemE (Ki t u) (xJ a b) where
 h:=λe _ _ _ _ _ rs _ q=>by
  obtain ⟨x,ex,e⟩:=bind_some e;obtain ⟨c,ec,e⟩:=bind_some e;cases wy ec;refine sa.h ex rs λv Hs1 H1 x1 r1=>⟨c,rep_at.mp r1,?_⟩;cases c with
  |true=>exact xC (sb.h e (rs.go x1) λw Hs2 H2 x2 r2=>q _ _ _ (x1.trans x2) r2)
  |false=>cases e;exact xz (q _ _ _ x1 (rep_at.mpr rfl))
instance {t u:TE}[sa:SemE t a][sb:SemE u b]:SemE (tOrV t u) (dOrV a b) where
 h:=λe _ _ _ _ _ rs _ q=>by
  obtain ⟨x,ex,e⟩:=bind_some e;obtain ⟨c,ec,e⟩:=bind_some e;cases wy ec;refine sa.h ex rs λv Hs1 H1 x1 r1=>⟨c,rep_at.mp r1,?_⟩;cases c with
  |true=>cases e;exact xC (q _ _ _ x1 (rep_at.mpr rfl))
  |false=>exact xz (sb.h e (rs.go x1) λw Hs2 H2 x2 r2=>q _ _ _ (x1.trans x2) r2)
instance {t:TE}[sa:i7 t a]:SemE (Kn t) (wY a) where
 h:=λe _ _ _ _ _ rs _ q=>by
  obtain ⟨x,ex,e⟩:=bind_some e;obtain ⟨c,ec,e⟩:=bind_some e;cases wy ec;cases e;exact sa.h ex rs λv Hs1 H1 x1 r1=>⟨c,p0 r1,q _ _ _ x1 (rep_at.mpr rfl)⟩
def dIf (c:MB)(a b:M):M:=λε=>(c ε).bind λk=>if k=true then a ε else b ε
instance {ta:TE}[sc:qI t c][sa:SemE ta a][sb:SemE tb b]:SemE (tIf t ta tb) (dIf c a b) where
 h:=λe _ _ _ _ _ rs _ q=>by
  obtain ⟨k,ex,e⟩:=bind_some e;refine sc.h ex rs λHs1 H1 x1=>?_;cases k with
  |true=>exact xC (sa.h e (rs.go x1) λw Hs2 H2 x2 r2=>q _ _ _ (x1.trans x2) r2)
  |false=>exact xz (sb.h e (rs.go x1) λw Hs2 H2 x2 r2=>q _ _ _ (x1.trans x2) r2)
def zV (g g':PV->PV->Option PV)(a b c:M):M:=λε=>(a ε).bind λx=>(b ε).bind λy=>(g x y).bind λz=>(pB z).bind λk=>if k=true then (c ε).bind λw=>g' y w else some (.at (.bl false))
instance {r':R2}{g':PV->PV->Option PV}{ta tc:TE}{c:M}[sr:xx r g][sr':xx r' g'][sa:i7 ta a][sb:i7 tb b][sc:i7 tc c]:SemE (VG r r' ta tb tc) (zV g g' a b c) where
 h:=λe _ _ _ _ _ rs _ q=>by
  obtain ⟨x,ex,e1⟩:=bind_some e;obtain ⟨y,ey,e2⟩:=bind_some e1;obtain ⟨z,ez,e3⟩:=bind_some e2;obtain ⟨k,ek,e4⟩:=bind_some e3;have ez':=wy ek;subst ez';refine sa.h ex rs λv Hs1 H1 x1 r1=>sb.h ey (rs.go x1) λw Hs2 H2 x2 r2=>sr.h ez x2.s3 (r1.ext x2) r2 λu Hs3 H3 x3 r3=>⟨k,rep_at.mp r3,?_⟩;cases k with
  |true=>obtain ⟨w',ew,e5⟩:=bind_some e4;exact xC (sc.h ew (((rs.go x1).go x2).go x3) λu' Hs4 H4 x4 r4=>sr'.h e5 x4.s3 ((r2.ext x3).ext x4) r4 λu'' Hs5 H5 x5 r5=>q _ _ _ (x1.trans (x2.trans (x3.trans (x4.trans x5)))) r5)
  |false=>cases e4;exact xz (q _ _ _ (x1.trans (x2.trans x3)) (rep_at.mpr rfl))
def v8 (m:List PV->Option PV):Sp:=λvs H Q _=>∃ Hs xs y,Same Hs H/\Reps Hs xs vs/\m xs=some y/\∀ v Hs' H',Ext Hs H Hs' H'->Rep Hs' y v->Q v H'
def spO (m:List PV->Option PV):Sp:=λvs H Q _=>∃ Hs xs y,Same Hs H/\Reps Hs xs vs/\m xs=some y/\∀ a Hs' H',Ext Hs H Hs' H'->H a=none->Hs' a=none->Top Hs' H' a y->Q (.ref a) H'
def z6 (m:List PV->Option PV)(as:MA):M:=λε=>(as ε).bind m
instance [sa:qY ta as]:SemE (xH (v8 m) [] E ta) (z6 m as) where
 h:=λe _ _ _ _ _ rs _ q=>by
  obtain ⟨xs,ex,e1⟩:=bind_some e;refine sa.h ex rs λvs Hs1 H1 x1 r1=>⟨Hs1,xs,_,x1.s3,by rw [yo];exact r1,e1,λv Hs' H' x r=>q v _ _ (x1.trans x) r⟩
instance [sa:qY ta as]:xw (xH (spO m) [] E ta) (z6 m as) where
 h:=λe _ _ _ _ _ rs _ q=>by
  obtain ⟨xs,ex,e1⟩:=bind_some e;refine sa.h ex rs λvs Hs1 H1 x1 r1=>⟨Hs1,xs,_,x1.s3,by rw [yo];exact r1,e1,λa Hs' H' x n n' r=>q a _ _ (x1.trans x) (x1.s2.free n) n' r⟩
def Zv (m:List PV->Option PV)(ds:List V)(as:MA):M:=λε=>(as ε).bind λxs=>m (xs++ds.map .at)
def zC (C:Addr)(nm:Str)(m:List PV->Option PV)(a:M)(as:MA):M:=λε=>(a ε).bind λx=>match x with
 | .ob C' ns fs=>if C'=C/\nm∉ns then (as ε).bind λxs=>m (x::xs) else none
 |_=>none
theorem ZU {fs:List (Str×V)}{f:Str}(h:f∉fs.map (·.1)):fs.lookup f=none:=by
 induction fs with
 |nil=>rfl
 |cons p r ih =>
  rw [yK] at h;rw [uX];have h1:(f==p.1)=false:=by rw [beq_eq_false_iff_ne];exact λe=>h (e▸yQ)
  rw [h1];exact ih λz=>h (yR _ z)
theorem YH (h:zC C nm m a as ε=some y):∃ ns fs xs,a ε=some (.ob C ns fs)/\nm∉ns/\as ε=some xs/\m (.ob C ns fs::xs)=some y:=by
 unfold zC at h;obtain ⟨x,ex,h1⟩:=bind_some h;split at h1
 ·rename_i C' ns fs;split at h1
  ·rename_i hc;obtain ⟨xs,e2,h2⟩:=bind_some h1;obtain ⟨rfl,hn⟩:=hc;exact ⟨ns,fs,xs,ex,hn,e2,h2⟩
  ·cases h1
 ·cases h1
instance [so:SemE te a][sa:qY ta as]:SemE (vC C nm (v8 m) [] E te ta) (zC C nm m a as) where
 h:=λe _ _ _ _ _ rs _ q=>by
  obtain ⟨ns,fs,xs,ea,hn,e1,e2⟩:=YH e;refine so.h ea rs λv Hs1 H1 x1 r1=>?_;obtain ⟨p,dx,gs,rfl,hp,hk,hr⟩:=rep_ob.mp r1;refine ⟨p,dx,gs,rfl,x1.s3 _ _ hp,ZU (by rw [hk];exact hn),sa.h e1 (rs.go x1) λvs Hs2 H2 x2 r2=>?_⟩;exact ⟨Hs2,_,_,x2.s3,by rw [yo];exact .cons (r1.mono x2.s1) r2,e2,λv Hs' H' x r=>q v _ _ (x1.trans (x2.trans x)) r⟩
instance [so:SemE te a][sa:qY ta as]:xw (vC C nm (spO m) [] E te ta) (zC C nm m a as) where
 h:=λe _ _ _ _ _ rs _ q=>by
  obtain ⟨ns,fs,xs,ea,hn,e1,e2⟩:=YH e;refine so.h ea rs λv Hs1 H1 x1 r1=>?_;obtain ⟨p,dx,gs,rfl,hp,hk,hr⟩:=rep_ob.mp r1;refine ⟨p,dx,gs,rfl,x1.s3 _ _ hp,ZU (by rw [hk];exact hn),sa.h e1 (rs.go x1) λvs Hs2 H2 x2 r2=>?_⟩;exact ⟨Hs2,_,_,x2.s3,by rw [yo];exact .cons (r1.mono x2.s1) r2,e2,λv Hs' H' x n n' r=>q v _ _ (x1.trans (x2.trans x)) (x1.s2.free (x2.s2.free n)) n' r⟩
class vP (r:List V->Hp->VK->Prop)(g:List PV->Option PV):Prop where
 h:∀{xs z},g xs=some z->∀{Hs H:Hp}{vs:List V},Same Hs H->vN Hs H xs vs->∀{Q:VK},(∀ u Hs' H',Ext Hs H Hs' H'->Rep Hs' z u->Q u H')->r vs H Q
class Zl (r:List V->Hp->VK->Prop)(g:List PV->Option PV):Prop where
 h:∀{xs z},g xs=some z->∀{Hs H:Hp}{vs:List V},Same Hs H->vN Hs H xs vs->∀{Q:VK},(∀ a Hs' H',Ext Hs H Hs' H'->H a=none->Hs' a=none->Top Hs' H' a z->Q (.ref a) H')->r vs H Q
instance {r:List V->Hp->VK->Prop}{g:List PV->Option PV}[sr:vP r g][sa:wU ta as]:SemE (tCB r ta) (z6 g as) where
 h:=λe _ _ _ _ _ rs _ q=>by
  obtain ⟨xs,ex,e1⟩:=bind_some e;exact sa.h ex rs λvs Hs1 H1 x1 r1=>sr.h e1 x1.s3 r1 λv Hs' H' x r=>q v _ _ (x1.trans x) r
instance {r:List V->Hp->VK->Prop}{g:List PV->Option PV}[sr:Zl r g][sa:wU ta as]:xw (tCB r ta) (z6 g as) where
 h:=λe _ _ _ _ _ rs _ q=>by
  obtain ⟨xs,ex,e1⟩:=bind_some e;exact sa.h ex rs λvs Hs1 H1 x1 r1=>sr.h e1 x1.s3 r1 λv Hs' H' x n n' r=>q v _ _ (x1.trans x) (x1.s2.free n) n' r
theorem zd (h:vN Hs H [x] vs):∃ v,vs=[v]/\RepB Hs H x v:=by obtain ⟨v,r,rfl,a,b⟩:=h;cases (show r=[] from b);exact ⟨v,rfl,a⟩
theorem GS (h:vN Hs H [x,y] vs):∃ v w,vs=[v,w]/\RepB Hs H x v/\RepB Hs H y w:=by obtain ⟨v,r,rfl,a,b⟩:=h;obtain ⟨w,rfl,c⟩:=zd b;exact ⟨v,w,rfl,a,c⟩
inductive Out where
 |nx (ε:ME)|rt (y:PV)|bk (ε:ME)|ct (ε:ME)
abbrev MS:=ME->Option Out
def OutK (fr:Bool)(Hs0 H0:Hp)(D:qM):Out->Prop
 | .nx ε=>∀ Hs H σ,RS Hs0 H0 Hs H σ ε->D.nx σ H
 | .bk ε=>∀ Hs H σ,RS Hs0 H0 Hs H σ ε->D.bk σ H
 | .ct ε=>∀ Hs H σ,RS Hs0 H0 Hs H σ ε->D.ct σ H
 | .rt y=>match fr with
  |true=>∀ a Hs H,Ext Hs0 H0 Hs H->H0 a=none->Hs a=none->Top Hs H a y->D.rt (.ref a) H
  |false=>∀ v Hs H,Ext Hs0 H0 Hs H->Rep Hs y v->D.rt v H
class n8 (fr:Bool)(ts:TS)(f:MS):Prop where
 h:∀{ε o},f ε=some o->∀{Hs0 H0 Hs H σ},RS Hs0 H0 Hs H σ ε->∀{D:qM},OutK fr Hs0 H0 D o->ts D σ H
variable {fr:Bool}
def m5:MS:=λε=>some (.nx ε)
instance:n8 fr VH m5 where
 h:=λe _ _ _ _ _ rs _ q=>by cases e;exact q _ _ _ rs
def y8 (a b:MS):MS:=λε=>(a ε).bind λo=>match o with
 | .nx ε'=>b ε'
 |o=>some o
instance {t u:TS}{a b:MS}[sa:n8 fr t a][sb:n8 fr u b]:n8 fr (tSeq t u) (y8 a b) where
 h:=λe _ _ _ _ _ rs D q=>by
  obtain ⟨o,eo,e1⟩:=bind_some e;refine sa.h eo rs ?_;cases o with
  |nx ε'=>exact λHs H σ r=>sb.h e1 r q
  |rt y=>cases e1;exact q
  |bk ε'=>cases e1;exact q
  |ct ε'=>cases e1;exact q
def dFz (i:Nat)(a:MS):MS:=λε=>a (fz i ε)
instance {i:Nat}{t:TS}{a:MS}[sa:n8 fr t a]:n8 fr t (dFz i a) where
 h:=λe _ _ _ _ _ rs _ q=>by
  obtain ⟨Hs',g,r⟩:=rs.freeze i;exact sa.h e r q
def zj (a:M):MS:=λε=>(a ε).bind λ_=>some (.nx ε)
instance (priority:=100)[sa:i7 te a]:n8 fr (zO te) (zj a) where
 h:=λe _ _ _ _ _ rs _ q=>by
  obtain ⟨x,ex,e1⟩:=bind_some e;cases e1;exact sa.h ex rs λv Hs1 H1 x1 r1=>q _ _ _ (rs.go x1)
def k8 (a:M):MS:=λε=>(a ε).bind λx=>some (.rt x)
instance [sa:SemE te a]:n8 false (tRet te) (k8 a) where
 h:=λe _ _ _ _ _ rs _ q=>by
  obtain ⟨x,ex,e1⟩:=bind_some e;cases e1;exact sa.h ex rs λv Hs1 H1 x1 r1=>q _ _ _ (rs.ext.trans x1) r1
instance [sa:xw te a]:n8 true (tRet te) (k8 a) where
 h:=λe _ _ _ _ _ rs _ q=>by
  obtain ⟨x,ex,e1⟩:=bind_some e;cases e1;exact sa.h ex rs λv Hs1 H1 x1 n n' r1=>q _ _ _ (rs.ext.trans x1) (rs.ext.s2.free n) n' r1
def oVar (i:Nat):M:=λε=>match ε[i]? with
 |some (.ow x)=>some x
 |_=>none
def p9 (c:MB)(a b:MS):MS:=λε=>(c ε).bind λk=>if k=true then a ε else b ε
instance {ta tb:TS}{a b:MS}[sc:qI t c][sa:n8 fr ta a][sb:n8 fr tb b]:n8 fr (tIfS t ta tb) (p9 c a b) where
 h:=λe _ _ _ _ _ rs _ q=>by
  obtain ⟨k,ex,e1⟩:=bind_some e;refine sc.h ex rs λHs1 H1 x1=>?_;cases k with
  |true=>exact xC (sa.h e1 (rs.go x1) q)
  |false=>exact xz (sb.h e1 (rs.go x1) q)
def qw:MS:=λ_=>none
instance:n8 fr Km qw where
 h:=λe=>by cases e
abbrev MG:=PV->ME->Option ME
def But (ts:List Nat)(σ σ':St):Prop:=σ'.length=σ.length/\∀ j,j∉ts->σ'[j]?=σ[j]?
theorem But.refl (σ:St):But [] σ σ:=⟨rfl,λ_ _=>rfl⟩
theorem But.trans {a b:List Nat}{σ1 σ2:St}(x:But a σ σ1)(y:But b σ1 σ2):But (a++b) σ σ2 :=
 ⟨y.1.trans x.1,λj hj=>(y.2 j λz=>hj (yx.mpr (.inr z))).trans (x.2 j λz=>hj (yx.mpr (.inl z)))⟩
theorem But.wk (b:But ts σ σ')(h:∀ i∈ts,σ[i]?=some none):Wk σ σ':=by refine ⟨b.1.symm,λi v e=>?_⟩;rw [b.2 i λz=>by rw [h i z] at e;cases e];exact e
class jm (tg:TG)(ts:outParam (List Nat))(g:MG):Prop where
 h:∀{x ε ε'},g x ε=some ε'->∀{Hs0 H0 Hs H σ v},RS Hs0 H0 Hs H σ ε->Rep Hs x v->∀{Q:St->Hp->Prop},(∀ σ',RS Hs0 H0 Hs H σ' ε'->But ts σ σ'->Q σ' H)->tg v σ H Q
class vQ (tg:TGs)(ts:outParam (List Nat))(g:List PV->ME->Option ME):Prop where
 h:∀{xs ε ε'},g xs ε=some ε'->∀{Hs0 H0 Hs H σ vs},RS Hs0 H0 Hs H σ ε->Reps Hs xs vs->∀{Q:St->Hp->Prop},(∀ σ',RS Hs0 H0 Hs H σ' ε'->But ts σ σ'->Q σ' H)->tg vs σ H Q
def v6 (i:Nat):MG:=λx ε=>some (ε.set i (.sh x))
instance {i:Nat}:jm (qQ i) [i] (v6 i) where
 h:=λe _ _ _ _ _ _ rs r _ q=>by
  cases e;exact q _ (rs.put r) ⟨yn,λj hj=>yq λz=>hj (by rw [<- z];exact yP.mpr rfl)⟩
def qS:List PV->ME->Option ME:=λxs ε=>match xs with
 |[]=>some ε
 |_=>none
def m8 (g:MG)(r:List PV->ME->Option ME):List PV->ME->Option ME:=λxs ε=>match xs with
 |x::xs=>(g x ε).bind (r xs)
 |_=>none
instance:vQ gNil [] qS where
 h:=λ{xs ε ε'} e {_ _ _ _ _ _} rs r {_} q=>by
  unfold qS at e;split at e
  ·cases e;exact ⟨reps_nil.mp r,q _ rs (.refl _)⟩
  ·cases e
instance Nk {t:TG}{u:TGs}{a b:List Nat}{g:MG}{r:List PV->ME->Option ME}[sg:jm t a g][sr:vQ u b r]:vQ (Xn t u) (a++b) (m8 g r) where
 h:=λ{xs ε ε'} e {_ _ _ _ _ _} rs rr {_} q=>by
  unfold m8 at e;split at e
  ·obtain ⟨ε1,e1,e2⟩:=bind_some e;obtain ⟨v,w,rfl,r1,r2⟩:=reps_cons.mp rr;exact ⟨v,w,rfl,sg.h e1 rs r1 λσ1 rs1 b1=>sr.h e2 rs1 r2 λσ2 rs2 b2=>q _ rs2 (b1.trans b2)⟩
  ·cases e
instance (priority:=2000){i:Nat}{u:TGs}{b:List Nat}{r:List PV->ME->Option ME}[sr:vQ u b r]:vQ (Xn (qQ i) u) (i::b) (m8 (v6 i) r) where
 h:=λe _ _ _ _ _ _ rs rr _ q=>(Nk (t:=qQ i) (a:=[i]) (g:=v6 i)).h e rs rr q
def qT (n:Nat)(g:List PV->ME->Option ME):MG:=λx ε=>match x with
 | .tup xs=>if xs.length=n then g xs ε else none
 |_=>none
instance {t:TGs}{g:List PV->ME->Option ME}[sg:vQ t ts g]:jm (gTup K n t) ts (qT n g) where
 h:=λ{x ε ε'} e {_ _ _ _ _ _} rs rr {_} q=>by
  unfold qT at e;split at e
  ·split at e
   ·rename_i hl;obtain ⟨a,vs,rfl,h,r⟩:=rep_tup.mp rr;exact ⟨a,vs,rfl,SqT.of (rs.sub _ _ h),by rw [r.length];exact hl,sg.h e rs r λσ' rs' b=>q _ rs' b⟩
   ·cases e
  ·cases e
def i8 (i:Nat)(a:M):MS:=λε=>(a ε).bind λx=>some (.nx (ε.set i (.sh x)))
def zl (i:Nat)(a:M):MS:=λε=>(a ε).bind λx=>some (.nx (ε.set i (.ow x)))
instance {i:Nat}[sa:SemE te a]:n8 fr (zx te (qQ i)) (i8 i a) where
 h:=λe _ _ _ _ _ rs _ q=>by
  obtain ⟨x,ex,e1⟩:=bind_some e;cases e1;exact sa.h ex rs λv Hs1 H1 x1 r1=>q _ _ _ ((rs.go x1).put r1)
instance {i:Nat}[sa:xw te a]:n8 fr (zx te (qQ i)) (zl i a) where
 h:=λe _ _ _ _ _ rs _ q=>by
  obtain ⟨x,ex,e1⟩:=bind_some e;cases e1;refine sa.h ex rs λp Hs1 H1 x1 n n' t=>q _ _ _ ((rs.go x1).putO ⟨rs.ext.s2.free n,n',t⟩ λj y hj z=>?_);obtain ⟨b,hb,_,_,tb⟩:=rs.ow j y hj;rw [z] at hb;injection hb with hb;injection hb with hb;injection hb with hb;subst hb;exact tb.there n
def pIp (g:Int->Int->Int):PV->PV->Option PV
 | .at (.int i),.at (.int j)=>some (.at (.int (g i j)))
 |_,_=>none
def wW (i:Nat)(a:M):MS:=λε=>(a ε).bind λx=>match ε[i]? with
 |some (.ow (.lst xs))=>if xs.length<=lim then some (.nx (ε.set i (.ow (.lst (xs++[x]))))) else none
 |_=>none
instance {i:Nat}[sa:SemE te a]:n8 fr (zO (tBM K "list" Zc (o4 i) (i6 te qa))) (wW i a) where
 h:=λe _ _ _ _ _ rs _ q=>by
  obtain ⟨x,ex,e1⟩:=bind_some e;split at e1
  ·rename_i xs hi;split at e1
   ·rename_i hl;cases e1;obtain ⟨p,hp,n0,n,vs,hv,rv⟩:=rs.ow i _ hi;refine ⟨_,hp,.inl ⟨rfl,vs,SqL.of hv⟩,sa.h ex rs λv Hs1 H1 x1 r1=>?_⟩;have hv1:=x1.s2 _ _ hv;refine ⟨p,vs,v,rfl,rfl,hv1,Qg (by rw [rv.length];exact hl),q _ _ _ ((rs.go x1).change hi hp ⟨_,y7,(rv.mono x1.s1).append (.one r1)⟩)⟩
   ·cases e1
  ·cases e1
def dExtend (i:Nat)(a:M):MS:=λε=>(a ε).bind λx=>match x with
 | .lst ys=>(match ε[i]? with
  |some (.ow (.lst xs))=>if xs.length+ys.length<=lim then some (.nx (ε.set i (.ow (.lst (xs++ys))))) else none
  |_=>none)
 |_=>none
structure jK (J:It)(xs:List PV)(Hs:Hp):Prop where
 go:∀(i:Nat)(x:PV)(Hs1 H1:Hp),xs[i]?=some x->Same Hs Hs1->Same Hs1 H1->J.go i H1/\∀ v H2,J.yld i H1 v H2->∃ Hs2,Ext Hs1 H1 Hs2 H2/\Rep Hs2 x v
 stop:∀(Hs1 H1:Hp),Same Hs Hs1->Same Hs1 H1->J.stop xs.length H1
class zA (ti:TI)(f:MA):Prop where
 h:∀{ε xs},f ε=some xs->∀{Hs0 H0 Hs H σ},RS Hs0 H0 Hs H σ ε->∀{R:It->Hp->Prop},(∀ J Hs' H',Ext Hs H Hs' H'->jK J xs Hs'->R J H')->ti σ H R
def y9 (a:M):MA:=λε=>(a ε).bind λx=>match x with
 | .lst xs=>some xs
 |_=>none
theorem Cc {a:Addr}(h:Hs a=some (.lst vs))(r:Reps Hs xs vs):jK (Itl K a) xs Hs where
 go:=λi x Hs1 H1 e g1 g2=>by
  obtain ⟨v,ev,rv⟩:=r.get e;refine ⟨⟨vs,v,SqL.of (g2 _ _ (g1 _ _ h)),ev⟩,λw H2 y=>?_⟩;obtain ⟨rfl,y⟩:=y;have z:=y vs (SqL.of (g2 _ _ (g1 _ _ h)));rw [ev] at z;cases z;exact ⟨Hs1,.refl g2,rv.mono g1⟩
 stop:=λHs1 H1 g1 g2=>⟨vs,SqL.of (g2 _ _ (g1 _ _ h)),by rw [r.length];exact yS _⟩
instance [sa:SemE te a]:zA (Xo K te) (y9 a) where
 h:=λe _ _ _ _ _ rs _ q=>by
  obtain ⟨x,ex,e1⟩:=bind_some e;split at e1
  ·cases e1;refine sa.h ex rs λv Hs1 H1 x1 r1=>?_;obtain ⟨p,vs,rfl,hp,r⟩:=rep_lst.mp r1;exact ⟨p,rfl,⟨vs,SqL.of (x1.s3 _ _ hp)⟩,q _ _ _ x1 (Cc hp r)⟩
  ·cases e1
def xQ (lo:Int)(n:Nat):List PV:=(List.range n).map λ(i:Nat)=> .at (.int (lo+i))
theorem jD :(xQ lo n).length=n:=by unfold xQ;rw [yZ,List.length_range]
theorem Lv {i:Nat}(h:(xQ lo n)[i]?=some x):i<n/\x = .at (.int (lo+i)):=by
 have hl:i<n:=by have:=(yD.mp h).1;rw [jD] at this;exact this
 refine ⟨hl,?_⟩;unfold xQ at h;rw [yO,List.getElem?_range hl] at h;cases h;rfl
theorem Ux :jK (Itr lo n) (xQ lo n) Hs where
 go:=λi x Hs1 H1 e g1 g2=>by
  obtain ⟨hl,rfl⟩:=Lv e;refine ⟨hl,λv H2 y=>?_⟩;obtain ⟨rfl,rfl⟩:=y;exact ⟨Hs1,.refl g2,rep_at.mpr rfl⟩
 stop:=λHs1 H1 g1 g2=>by show n<=_;rw [jD];exact yS _
def jq (a:MA):MA:=λε=>(a ε).bind λxs=>match xs with
 |[.at (.int j)]=>if -(lim:Int)<=j/\j<=lim then some (xQ 0 j.toNat) else none
 |_=>none
instance {a:MA}[sa:qY ta a]:zA (Qc ta) (jq a) where
 h:=λe _ _ _ _ _ rs _ q=>by
  obtain ⟨xs,ex,e1⟩:=bind_some e;split at e1
  ·rename_i j;split at e1
   ·rename_i hl;cases e1;refine sa.h ex rs λvs Hs1 H1 x1 r1=>?_;obtain ⟨v,r,rfl,p1,p2⟩:=reps_cons.mp r1;cases reps_nil.mp p2;cases rep_at.mp p1;have hlim:(lim:Int)=1000000:=rfl;exact ⟨j,rfl,by omega,by omega,q _ _ _ x1 Ux⟩
   ·cases e1
  ·cases e1
def qJ (g:MG)(f:MS):List PV->ME->Option Out
 |[],ε=>some (.nx ε)
 |x::xs,ε=>(g x ε).bind λε1=>(f ε1).bind λo=>match o with
  | .nx ε2=>qJ g f xs ε2
  | .ct ε2=>qJ g f xs ε2
  | .bk ε2=>some (.nx ε2)
  | .rt y=>some (.rt y)
def xi (i:MA)(g:MG)(f:MS):MS:=λε=>(i ε).bind λxs=>qJ g f xs ε
theorem OutK.unbase {D:qM}(x:Ext Hs0 H0 Hb H):∀{o:Out},OutK fr Hs0 H0 D o->OutK fr Hb H0 D o
 | .nx _,h=>λHs H σ r=>h _ _ _ (RS.unbase x r)
 | .bk _,h=>λHs H σ r=>h _ _ _ (RS.unbase x r)
 | .ct _,h=>λHs H σ r=>h _ _ _ (RS.unbase x r)
 | .rt _,h=>by
  cases fr with
  |true=>exact λa Hs H e n n' t=>h a Hs H (x.unbase e) n n' t
  |false=>exact λa Hs H e r=>h a Hs H (x.unbase e) r
instance {tb:TS}{i:MA}{g:MG}{f:MS}[si:zA wi i][sg:jm tg ts g][sf:n8 fr tb f]:n8 fr (tFor wi tg tb) (xi i g f) where
 h:=λe Hs0 H0 _ _ _ rs D q=>by
  obtain ⟨xs,ex,e1⟩:=bind_some e;refine si.h ex rs λJ Hs1 H1 x1 ok=>?_;have rs1:=rs.go x1;have q1:=OutK.unbase rs1.ext q;refine ⟨λk m σ H=>m=xs.length-k/\k<=xs.length/\∃ Hs ε,RS Hs1 H0 Hs H σ ε/\qJ g f (xs.drop k) ε=some _,⟨xs.length,by simp,uZ _,Hs1,_,rs1.rebase,e1⟩,?_⟩;rintro k m σ H ⟨rfl,hk,Hs,ε,r,el⟩;by_cases hlt:k<xs.length
  ·have hd:xs.drop k=xs[k]::xs.drop (k+1):=yb hlt;rw [hd] at el;unfold qJ at el;obtain ⟨ε1,eg,el1⟩:=bind_some el;obtain ⟨o,eo,el2⟩:=bind_some el1;obtain ⟨go,yl⟩:=ok.go k xs[k] Hs H (by simp [hlt]) r.ext.s1 r.ext.s3;refine .inr ⟨go,λσ' H'=>k+1<=xs.length/\∃ Hs ε,RS Hs1 H0 Hs H' σ' ε/\qJ g f (xs.drop (k+1)) ε=some _,λσ' H' p=>⟨xs.length-(k+1),by omega,rfl,p.1,p.2⟩,λv H2 y=>?_⟩;obtain ⟨Hs2,x2,r2⟩:=yl v H2 y;refine sg.h eg (r.go x2) r2 λσ2 rs2 _=>sf.h eo rs2 ?_;cases o with
   |nx ε2=>exact λHs3 H3 σ3 r3=>⟨hlt,Hs3,ε2,r3,el2⟩
   |ct ε2=>exact λHs3 H3 σ3 r3=>⟨hlt,Hs3,ε2,r3,el2⟩
   |bk ε2=>cases el2;exact q1
   |rt y=>cases el2;exact q1
  ·have ek:k=xs.length:=by omega
   subst ek;rw [uE] at el;unfold qJ at el;cases el;exact .inl ⟨ok.stop Hs H r.ext.s1 r.ext.s3,q1 _ _ _ r⟩
def m4 (cap:List (Option Nat))(ε:ME):ME:=cap.map λo=>match o with
 |none=> .no
 |some i=>(ε[i]?).getD .no
def qm (g:MG)(c:MB)(f:M)(ε0:ME):List PV->Option (List PV)
 |[]=>some []
 |x::xs=>(g x ε0).bind λε1=>(c ε1).bind λb=>if b=true then (f ε1).bind λy=>(qm g c f ε0 xs).bind λys=>some (y::ys) else qm g c f ε0 xs
def p6:MB:=λ_=>some true
instance:qI tYes p6 where
 h:=λe _ _ _ _ _ rs _ q=>by cases e;exact q _ _ (.refl rs.sub)
def xy (cap:List (Option Nat))(ts:List Nat):Bool:=decide (cap.filterMap id).Nodup&&ts.all λi=>decide (cap[i]?=some none)
def b8 (cap:List (Option Nat))(ts:List Nat)(i:MA)(g:MG)(c:MB)(f:M):M:=λε=>(i ε).bind λxs=>if xy cap ts=true/\xs.length<=lim then (qm g c f (m4 cap ε) xs).bind λys=>some (.lst ys) else none
theorem RS.cap {cap:List (Option Nat)}(hc:(cap.filterMap id).Nodup)(r:RS Hs0 H0 Hs H σ ε):RS Hs0 H0 Hs H (p7 cap σ) (m4 cap ε):=by
 have inj:∀(i j k:Nat),cap[i]?=some (some k)->cap[j]?=some (some k)->i=j:=by
  clear r
  induction cap with
  |nil=>intro i j k h;simp at h
  |cons o cap ih =>
   intro i j k hi hj;have no:∀(l:Nat),o=some k->cap[l]?=some (some k)->False:=λl ho hl=>by
    subst ho;rw [List.filterMap_cons_some (by rfl)] at hc;exact (yt.mp hc).1 (uR.mpr ⟨some k,yp hl,rfl⟩)
   have hc':(cap.filterMap id).Nodup:=by
    cases o with
    |none=>rwa [List.filterMap_cons_none (by rfl)] at hc
    |some m=>rw [List.filterMap_cons_some (by rfl)] at hc;exact (yt.mp hc).2
   cases i with
   |zero =>
    cases j with
    |zero=>rfl
    |succ j=>exact (no j (by simpa using hi) (by simpa using hj)).elim
   |succ i =>
    cases j with
    |zero=>exact (no i (by simpa using hj) (by simpa using hi)).elim
    |succ j=>rw [ih hc' i j k (by simpa using hi) (by simpa using hj)]
 have at1:∀(i:Nat)(sl:MSlot),(m4 cap ε)[i]?=some sl->sl = .no∨∃ k,cap[i]?=some (some k)/\ε[k]?=some sl:=by
  intro i sl h;unfold m4 at h;rw [yO] at h;cases ho:cap[i]? with
  |none=>rw [ho] at h;cases h
  |some o =>
   rw [ho] at h;cases o with
   |none=>cases h;exact .inl rfl
   |some k =>
    cases hk:ε[k]? with
    |none=>simp only [uI,hk,Option.getD_none] at h;cases h;exact .inl rfl
    |some s=>simp only [uI,hk,Option.getD_some] at h;cases h;exact .inr ⟨k,rfl,hk⟩
 have at2:∀(i k:Nat),cap[i]?=some (some k)->∀ v,σ[k]?=some (some v)->(p7 cap σ)[i]?=some (some v):=by intro i k h v e;unfold p7;rw [yO,h];simp [e]
 have at3:∀(i k:Nat)(v:V),cap[i]?=some (some k)->(p7 cap σ)[i]?=some (some v)->σ[k]?=some (some v):=by
  intro i k v h e;unfold p7 at e;rw [yO,h] at e;simp only [uI,yF,Option.some.injEq] at e;cases hs:σ[k]? with
  |none=>rw [hs] at e;cases e
  |some o=>rw [hs] at e;simp at e;rw [e]
 refine ⟨r.ext,λi x h=>?_,λi x h=>?_,λi j x y a h1 h2 h3 h4=>?_,by unfold p7 m4;rw [yZ,yZ],λi x h=>?_⟩
 ·rcases at1 i _ h with z|⟨k,hk,e⟩
  ·cases z
  ·obtain ⟨v,hv,rv⟩:=r.sh k x e;exact ⟨v,at2 i k hk v hv,rv⟩
 ·rcases at1 i _ h with z|⟨k,hk,e⟩
  ·cases z
  ·obtain ⟨v,hv,rv⟩:=r.ow k x e;exact ⟨v,at2 i k hk _ hv,rv⟩
 ·rcases at1 i _ h1 with z|⟨k,hk,e⟩
  ·cases z
  ·rcases at1 j _ h2 with z|⟨l,hl,e'⟩
   ·cases z
   ·have kl:=r.nd k l x y a e e' (at3 i k _ hk h3) (at3 j l _ hl h4);subst kl;exact inj i j k hk hl
 ·rcases at1 i _ h with z|⟨k,hk,e⟩
  ·cases z
  ·obtain ⟨v,hv,rv⟩:=r.bo k x e;exact ⟨v,at2 i k hk _ hv,rv⟩
theorem Reps.snoc (r:Reps H xs vs)(p:Rep H x v):Reps H (xs++[x]) (vs++[v]):=r.append (.one p)
instance {tt:TT}{cap:List (Option Nat)}{i:MA}{g:MG}{f:M}[si:zA wi i][sg:jm tg ts g][sc:qI tt c][sf:SemE te f]:xw (wH wi tg tt te cap) (b8 cap ts i g c f) where
 h:=λe Hs0 H0 Hs H σ rs Q q=>by
  obtain ⟨xs,ex,e1⟩:=bind_some e;split at e1
  ·rename_i hcl;obtain ⟨hcap,hl⟩:=hcl;unfold xy at hcap;rw [ya] at hcap;obtain ⟨ys,ey,e2⟩:=bind_some e1;cases e2;refine si.h ex rs λJ Hs1 H1 x1 ok=>?_;have rc:=((rs.go x1).cap (uV hcap.1)).rebase;have wk:∀ i∈ts,(p7 cap σ)[i]?=some none:=λi hi=>by
    unfold p7;rw [yO,uV (uU.mp hcap.2 i hi)];rfl
   refine ⟨λk m zs H=>m=xs.length-k/\k<=xs.length/\∃ Hs2 ws,Ext Hs1 H1 Hs2 H/\RS Hs1 H0 Hs2 H (p7 cap σ) (m4 cap _)/\Reps Hs2 ws zs/\ws.length<=k/\∃ rest,qm g c f (m4 cap _) (xs.drop k)=some rest/\ys=ws++rest,
    ⟨xs.length,by simp,uZ _,Hs1,[],.refl x1.s3,rc,.nil,yS _,ys,ey,rfl⟩,?_⟩
   rintro k m zs H2 ⟨rfl,hk,Hs2,ws,x2,r2,rz,hw,rest,er,eys⟩;refine ⟨qR (by rw [rz.length];omega),?_⟩;by_cases hlt:k<xs.length
   ·have hd:xs.drop k=xs[k]::xs.drop (k+1):=yb hlt;rw [hd] at er;unfold qm at er;obtain ⟨ε1,eg,er1⟩:=bind_some er;obtain ⟨b,eb,er2⟩:=bind_some er1;obtain ⟨go,yl⟩:=ok.go k xs[k] Hs2 H2 (by simp [hlt]) x2.s1 x2.s3;refine .inr ⟨go,λv H3 y=>?_⟩;obtain ⟨Hs3,x3,r3⟩:=yl v H3 y;refine sg.h eg (r2.go x3) r3 λσ2 rs2 bt=>⟨bt.wk wk,sc.h eb rs2 λHs4 H4 x4=>?_⟩;cases b with
    |true =>
     rw [if_pos rfl] at er2;obtain ⟨z,ez,er3⟩:=bind_some er2;obtain ⟨rest',er4,er5⟩:=bind_some er3;cases er5;refine xC (sf.h ez (rs2.go x4) λu Hs5 H5 x5 r5=>⟨xs.length-(k+1),by omega,rfl,hlt,Hs5,ws++[z],x2.trans (x3.trans (x4.trans x5)),((r2.go x3).go x4).go x5,?_,?_,rest',er4,?_⟩)
     ·exact (rz.mono (x3.s1.trans (x4.s1.trans x5.s1))).snoc r5
     ·rw [yL];simp;omega
     ·rw [uS];exact eys
    |false=>rw [if_neg yU] at er2;exact xz ⟨xs.length-(k+1),by omega,rfl,hlt,Hs4,ws,x2.trans (x3.trans x4),(r2.go x3).go x4,rz.mono (x3.s1.trans x4.s1),by omega,rest,er2,eys⟩
   ·have ek:k=xs.length:=by omega
    subst ek;rw [uE] at er;unfold qm at er;cases er;refine .inl ⟨ok.stop Hs2 H2 x2.s1 x2.s3,λD hD=>?_⟩;rw [yo] at eys;subst eys;have x12:=x1.trans x2;exact q D Hs2 _ (x12.trans (.newO x2.s3 hD)) (x12.s2.free hD) (x2.s3.free hD) ⟨zs,y7,rz⟩
  ·cases e1
def b7 (n k:Nat)(f:MS):List PV->Option PV:=λxs=>if xs.length=k then (f (xs.map .sh++List.replicate (n-k) .no)).bind λo=>match o with
 | .rt y=>some y
 | .nx _=>some (.at .non)
 |_=>none else none
def zk (n k:Nat)(f:MS):List PV->Option PV:=λxs=>if xs.length=k then (f (xs.map .sh++List.replicate (n-k) .no)).bind λo=>match o with
 | .rt y=>some y
 |_=>none else none
end Mi
namespace Mi
open PySem PySem.Spec PyProof.Rows L2
variable{N ps:List Str}{qual x:Str}{st:Stmt}{f:Addr}{fd:FuncData}{b:MS}{m:List PV->Option PV}
theorem zN {Hs H:Hp}{xs:List PV}{vs:List V}(s:Same Hs H)(r:Reps Hs xs vs):RS Hs H Hs H (L2.start N vs) (xs.map .sh++List.replicate (N.length-xs.length) .no):=by
 have el:=r.length;have at1:∀(i:Nat)(sl:MSlot),(xs.map MSlot.sh++List.replicate (N.length-xs.length) .no)[i]?=some sl->sl = .no∨∃ x,xs[i]?=some x/\sl = .sh x:=by
  intro i sl h;by_cases hi:i<xs.length
  ·rw [uJ (by rw [yZ];exact hi),yO] at h;obtain ⟨x,hx,rfl⟩:=yJ.mp h;exact .inr ⟨x,hx,rfl⟩
  ·rw [uC (by rw [yZ];omega),uz] at h;split at h
   ·cases h;exact .inl rfl
   ·cases h
 refine ⟨.refl s,λi x h=>?_,λi x h=>?_,λi j x y a h1 _ _ _=>?_,?_,λi x h=>?_⟩
 ·rcases at1 i _ h with z|⟨y,hy,z⟩
  ·cases z
  ·cases z;obtain ⟨v,hv,rv⟩:=r.get hy;refine ⟨v,?_,rv⟩;unfold L2.start;rw [uJ (by rw [yZ];exact (yD.mp hv).1),yO,hv];rfl
 ·rcases at1 i _ h with z|⟨y,hy,z⟩<;>cases z
 ·rcases at1 i _ h1 with z|⟨y,hy,z⟩<;>cases z
 ·unfold L2.start;rw [yL,yL,yZ,yZ,uu,uu,el]
 ·rcases at1 i _ h with z|⟨y,hy,z⟩<;>cases z
section
variable {P:Program}{w:World}{K:Fg}{mg:Str->Option Value}{base:Heap}
theorem r9 {k:Nat}(F:Fun K x qual st f fd)(S:w9 N ps (j3 st))(hm:m=b7 N.length ps.length b)(hb:∀(cdv:Value)(A:Around)(outer:List Env)(s:Shared)(H:Hp)(E:XK),Room k (A.deeper (envOfC qual (j3 st) s.heap.objs.size f cdv)) -> ∃ t,PSs (ql v7 P w K mg base N qual (j3 st) f cdv A outer s H E).nox (t9 st) t/\n8 false t b):FnOk P w K mg base v7 (k+1) f fd ps (v8 m):=by
 subst hm;refine F.ok S (λvs H Q E h=>?_) (λcdv A outer s H vs Q E hr h=>?_)
 ·obtain ⟨Hs,xs,y,_,r,e,_⟩:=h;unfold b7 at e;split at e
  ·rename_i hl;rw [r.length];exact hl
  ·cases e
 ·obtain ⟨Hs,xs,y,sm,r,e,q⟩:=h;obtain ⟨t,ht,sem⟩:=hb cdv A outer s H E hr;refine ⟨t,ht,?_⟩;unfold b7 at e;split at e
  ·rename_i hl;obtain ⟨o,eo,e1⟩:=bind_some e;refine sem.h eo (by rw [<- hl];exact zN sm r) ?_;cases o with
   |rt z=>cases e1;exact λv Hs' H' x rv=>q v Hs' H' x rv
   |nx ε=>cases e1;exact λHs' H' σ rs=>q _ Hs' H' rs.ext (rep_at.mpr rfl)
   |bk ε=>cases e1
   |ct ε=>cases e1
  ·cases e
theorem okO {k:Nat}(F:Fun K x qual st f fd)(S:w9 N ps (j3 st))(hm:m=zk N.length ps.length b)(hb:∀(cdv:Value)(A:Around)(outer:List Env)(s:Shared)(H:Hp)(E:XK),Room k (A.deeper (envOfC qual (j3 st) s.heap.objs.size f cdv)) -> ∃ t,PSs (ql v7 P w K mg base N qual (j3 st) f cdv A outer s H E).nox (t9 st) t/\n8 true t b):FnOk P w K mg base v7 (k+1) f fd ps (spO m):=by
 subst hm;refine F.ok S (λvs H Q E h=>?_) (λcdv A outer s H vs Q E hr h=>?_)
 ·obtain ⟨Hs,xs,y,_,r,e,_⟩:=h;unfold zk at e;split at e
  ·rename_i hl;rw [r.length];exact hl
  ·cases e
 ·obtain ⟨Hs,xs,y,sm,r,e,q⟩:=h;obtain ⟨t,ht,sem⟩:=hb cdv A outer s H E hr;refine ⟨t,ht,?_⟩;unfold zk at e;split at e
  ·rename_i hl;obtain ⟨o,eo,e1⟩:=bind_some e;refine sem.h eo (by rw [<- hl];exact zN sm r) ?_;cases o with
   |rt z=>cases e1;exact λa Hs' H' x n n' t=>q a Hs' H' x n n' t
   |nx ε=>cases e1
   |bk ε=>cases e1
   |ct ε=>cases e1
  ·cases e
end
end Mi
namespace Mi
open PySem L2
variable{X:Cx}{K:Fg}{ta:TA}{j:Int}{H H0 Hs Hs0:Hp}{xs ys:List PV}{x y:PV}{v:V}{vs ws:List V}{o:HO}{td te tv:TE}{f nm qual:Str}{tt:TT}{r:Option PV}{G g:MG}{t tb u:TS}{S:List Addr}{σ σ':St}{ε ε':ME}{n:Nat}{E:XK}{pre:List PV->Prop}{R:List PV->PV->Prop}{as:MA}{c:MB}{wi:TI}{tg:TG}{ts:List Nat}{N ns ps:List Str}{st:Stmt}{fd:FuncData}{m:List PV->Option PV}{C:Addr}{e:Expr}{pos:Pos}{pl:Sem Bool}{α:Type}{sp:Sp}
theorem qp {a:Expr}{ta:TE}(h:X.K=K)(ha:PE X a ta)(he:∀ whole,isTrue a X.env whole=(do let v <- whole;standAt a.pos;holding [v] (truthy v))):PT X a (tTru K ta):=Ld h ha he
abbrev xY:PV->PV->Option PV:=pI λi j=>some (.int (i-j))
abbrev pLt:PV->PV->Option PV:=pI λi j=>some (.bl (decide (i<j)))
abbrev pLe:PV->PV->Option PV:=pI λi j=>some (.bl (decide (i<=j)))
abbrev pGt:PV->PV->Option PV:=pI λi j=>some (.bl (decide (j<i)))
abbrev pGe:PV->PV->Option PV:=pI λi j=>some (.bl (decide (j<=i)))
instance {i:Int}:Decidable (wO i j):=by unfold wO;infer_instance
instance {i:Int}:Decidable (jj i j):=by unfold jj;infer_instance
abbrev Qx:PV->PV->Option PV:=pI λi j=>if wO i j then some (.int (i*j)) else none
abbrev pMod:PV->PV->Option PV:=pI λi j=>if 0<j then some (.int (i % j)) else none
abbrev wz:PV->PV->Option PV:=pI λi j=>if jj i j then some (.int (i ^ j.toNat)) else none
abbrev xX:PV->Option PV:=pU λi=> .int (-i)
theorem Reps.nil_of (r:Reps H xs []):xs=[]:=uy.mp r.length.symm
def qt:PV->PV->Option PV
 | .at (.int i),.at (.int j)=>some (.at (.int (i+j)))
 | .at (.str x),.at (.str y)=>if x.length+y.length<=lim then some (.at (.str (x++y))) else none
 | .lst xs,.lst ys=>if xs.length+ys.length<=lim then some (.lst (xs++ys)) else none
 | .tup xs,.tup ys=>if xs≠[]/\xs.length+ys.length<=lim then some (.tup (xs++ys)) else none
 |_,_=>none
instance :xx (Zb K) qt where
 h:=λ{x y z} e {Hs H v w} s a b {Q} q=>by
  unfold qt at e;split at e
  ·cases e;exact .inl ⟨_,_,p0 a,p0 b,q _ _ _ (.refl s) (rep_at.mpr rfl)⟩
  ·split at e
   ·rename_i hl;cases e;exact .inr (.inl ⟨_,_,p0 a,p0 b,qR hl,q _ _ _ (.refl s) (rep_at.mpr rfl)⟩)
   ·cases e
  ·split at e
   ·rename_i hl;cases e;obtain ⟨p,vs,rfl,e1,r1⟩:=qd s a;obtain ⟨p',ws,rfl,e2,r2⟩:=qd s b;refine .inr (.inr (.inl ⟨p,p',vs,ws,rfl,rfl,SqL.of e1,SqL.of e2,qR (by rw [r1.length,r2.length];exact hl),λl hl=>?_⟩));exact q _ _ _ (.new s hl) (rep_lst.mpr ⟨l,_,rfl,y7,(r1.append r2).mono (Ext.new s hl).s1⟩)
   ·cases e
  ·split at e
   ·rename_i hl;cases e;obtain ⟨p,vs,rfl,e1,r1⟩:=xq s a;obtain ⟨p',ws,rfl,e2,r2⟩:=xq s b;have hn:vs≠[]:=λz=>by
     have h1:=r1.length;rw [z] at h1;exact hl.1 (uy.mp h1.symm)
    refine .inr (.inr (.inr ⟨p,p',vs,ws,rfl,rfl,SqT.of e1,SqT.of e2,hn,qR (by rw [r1.length,r2.length];exact hl.2),λz=>?_,λz l hl=>?_⟩))
    ·subst z;cases r2.nil_of;rw [yo] at q;rcases a with a|⟨_,_,_,t⟩
     ·exact q _ _ _ (.refl s) a
     ·exact t.elim
    ·exact q _ _ _ (.new s hl) (rep_tup.mpr ⟨l,_,rfl,y7,(r1.append r2).mono (Ext.new s hl).s1⟩)
   ·cases e
  ·cases e
instance :SemRO (Zb K) vn where
 h:=λ{x y z} e {Hs H v w} s a b {Q} q=> .inr (.inr (.inl (SemRO.h (r:=Zd K) e s a b q)))
def o9:List PV->Option PV
 |[.at (.str x)]=>if x.length<=lim then some (.at (.int x.length)) else none
 |[.lst xs]=>some (.at (.int xs.length))
 |[.tup xs]=>some (.at (.int xs.length))
 |[.dk ks _]=>some (.at (.int ks.length))
 |_=>none
instance :vP (wD K) o9 where
 h:=λ{xs z} e {Hs H vs} s r {Q} q=>by
  unfold o9 at e;split at e
  ·split at e
   ·rename_i hl;cases e;obtain ⟨v,rfl,a⟩:=zd r;cases p0 a;exact .inl ⟨_,_,rfl,⟨qR hl,rfl⟩,q _ _ _ (.refl s) (rep_at.mpr rfl)⟩
   ·cases e
  ·cases e;obtain ⟨v,rfl,a⟩:=zd r;obtain ⟨p,ws,rfl,e1,r1⟩:=qd s a;exact .inl ⟨_,_,rfl,.inl ⟨ws,SqL.of e1,rfl⟩,q _ _ _ (.refl s) (rep_at.mpr (by rw [r1.length]))⟩
  ·cases e;obtain ⟨v,rfl,a⟩:=zd r;obtain ⟨p,ws,rfl,e1,r1⟩:=xq s a;exact .inl ⟨_,_,rfl,.inr ⟨ws,SqT.of e1,rfl⟩,q _ _ _ (.refl s) (rep_at.mpr (by rw [r1.length]))⟩
  ·cases e;obtain ⟨v,rfl,a⟩:=zd r;obtain ⟨p,kvs,rfl,e1,k,r1⟩:=jC s a;exact .inr ⟨p,kvs,rfl,e1,q _ _ _ (.refl s) (rep_at.mpr (by rw [<- k,yZ]))⟩
  ·cases e
def jd:List PV->Option PV
 |[.lst xs]=>some (.lst xs)
 |[.tup xs]=>some (.lst xs)
 |_=>none
instance :Zl (GA K) jd where
 h:=λ{xs z} e {Hs H vs} s r {Q} q=>by
  unfold jd at e;split at e
  ·cases e;obtain ⟨v,rfl,a⟩:=zd r;obtain ⟨p,ws,rfl,e1,r1⟩:=qd s a;exact ⟨p,ws,rfl,.inl (SqL.of e1),λl hl=>q l _ _ (.newO s hl) hl (s.free hl) ⟨ws,y7,r1⟩⟩
  ·cases e;obtain ⟨v,rfl,a⟩:=zd r;obtain ⟨p,ws,rfl,e1,r1⟩:=xq s a;exact ⟨p,ws,rfl,.inr (SqT.of e1),λl hl=>q l _ _ (.newO s hl) hl (s.free hl) ⟨ws,y7,r1⟩⟩
  ·cases e
def tyP:PV->Option String
 | .at .non=>some "NoneType"
 | .at (.bl _)=>some "bool"
 | .at (.int _)=>some "int"
 | .at (.str _)=>some "str"
 | .lst _=>some "list"
 | .tup _=>some "tuple"
 | .dk _ _=>some "dict"
 |_=>none
theorem NP {T:String}(s:Same Hs H)(r:RepB Hs H x v)(e:tyP x=some T):xm K H v (.type T):=by
 unfold tyP at e;split at e
 ·cases e;cases p0 r;exact .non
 ·cases e;cases p0 r;exact .bl _
 ·cases e;cases p0 r;exact .int _
 ·cases e;cases p0 r;exact .str _
 ·cases e;obtain ⟨p,ws,rfl,e1,r1⟩:=qd s r;exact .lst e1
 ·cases e;obtain ⟨p,ws,rfl,e1,r1⟩:=xq s r;exact .tup e1
 ·cases e;obtain ⟨p,ws,rfl,e1,_⟩:=jC s r;exact .dK e1
 ·cases e
def o8:List PV->Option PV
 |[x,.at (.ty n)]=>(tyP x).bind λT=>(tyB T n).bind λb=>some (.at (.bl b))
 |_=>none
instance :vP (rIsi K) o8 where
 h:=λ{xs z} e {Hs H vs} s r {Q} q=>by
  unfold o8 at e;split at e
  ·obtain ⟨T,eT,e1⟩:=bind_some e;obtain ⟨b,eb,e2⟩:=bind_some e1;cases e2;obtain ⟨v,w,rfl,a,c⟩:=GS r;cases p0 c;exact ⟨v,_,T,b,rfl,NP s a eT,eb,q _ _ _ (.refl s) (rep_at.mpr rfl)⟩
  ·cases e
def bls:List PV->Option (List Bool)
 |[]=>some []
 | .at (.bl b)::xs=>(bls xs).map (b::·)
 |_::_=>none
theorem Yn:∀{xs:List PV}{bs:List Bool},bls xs=some bs->xs=bs.map λb=> .at (.bl b)
 |[],_,h=>by cases h;rfl
 |x::xs,bs,h=>by
  unfold bls at h;split at h
  ·rename_i heq;cases heq
  ·rename_i b ys heq;injection heq with h1 h2;obtain ⟨r,e,rfl⟩:=yJ.mp h;subst h2;rw [h1,yK,Yn e]
  ·cases h
def xW:List PV->Option PV
 |[.lst xs]=>(bls xs).bind λbs=>some (.at (.bl (bs.all id)))
 |_=>none
instance :vP (Gv K) xW where
 h:=λ{xs z} e {Hs H vs} s r {Q} q=>by
  unfold xW at e;split at e
  ·obtain ⟨bs,eb,e1⟩:=bind_some e;cases e1;obtain ⟨v,rfl,a⟩:=zd r;obtain ⟨p,ws,rfl,e1,r1⟩:=qd s a;rw [Yn eb,show (bs.map λb=>PV.at (.bl b))=(bs.map V.bl).map .at by rw [yi];rfl] at r1;cases r1.ats;exact ⟨p,bs,rfl,SqL.of e1,q _ _ _ (.refl s) (rep_at.mpr rfl)⟩
  ·cases e
def va:PV->Bool
 | .at .non=>true
 |_=>false
def Qe:PV->Bool
 | .op _=>true
 |_=>false
def Qw:PV->PV->Option PV:=λx y=>if va y=true/\Qe x=false then some (.at (.bl (va x))) else none
def Jl:PV->PV->Option PV:=λx y=>if va y=true/\Qe x=false then some (.at (.bl (!va x))) else none
theorem Xq (s:Same Hs H)(r:RepB Hs H x v)(ho:Qe x=false):decide (v = .non)=va x:=by
 cases x with
 |«at» u=>cases p0 r;cases v<;>first|rfl|(exact yH (λz=>nomatch z))
 |tup xs=>obtain ⟨p,ws,rfl,_⟩:=xq s r;exact yH (λz=>nomatch z)
 |lst xs=>obtain ⟨p,ws,rfl,_⟩:=qd s r;exact yH (λz=>nomatch z)
 |dk ks xs=>obtain ⟨p,ws,rfl,_⟩:=jC s r;exact yH (λz=>nomatch z)
 |fk ks xs=>obtain ⟨p,o,ws,rfl,_⟩:=QG s r;exact yH (λz=>nomatch z)
 |ob C ns xs=>obtain ⟨p,dx,ws,rfl,_⟩:=GQ s r;exact yH (λz=>nomatch z)
 |op φ=>cases ho
instance:xx rIsN Qw where
 h:=λ{x y z} e {Hs H v w} s a b {Q} q=>by
  unfold Qw at e;split at e
  ·rename_i hy;cases e;have hb:Qe y=false:=by cases y<;>first|rfl|(exact absurd hy.1 (by simp [va]))
   refine ⟨uV ((Xq s b hb).trans hy.1),?_⟩;rw [Xq s a hy.2];exact q _ _ _ (.refl s) (rep_at.mpr rfl)
  ·cases e
instance:xx GB Jl where
 h:=λ{x y z} e {Hs H v w} s a b {Q} q=>by
  unfold Jl at e;split at e
  ·rename_i hy;cases e;have hb:Qe y=false:=by cases y<;>first|rfl|(exact absurd hy.1 (by simp [va]))
   refine ⟨uV ((Xq s b hb).trans hy.1),?_⟩;rw [Xq s a hy.2];exact q _ _ _ (.refl s) (rep_at.mpr rfl)
  ·cases e
def zr (f:PV->PV->Option Bool):List PV->List PV->Option Bool
 |x::xs,y::ys=>(f x y).bind λa=>(zr f xs ys).bind λb=>some (a&&b)
 |_,_=>some true
def peq0:PV->PV->Option Bool
 | .at u,.at v=>if k6 u=true/\k6 v=true then some (m7 u v) else none
 |_,_=>none
def peq1 (f:PV->PV->Option Bool):PV->PV->Option Bool
 | .at u,.at v=>if k6 u=true/\k6 v=true then some (m7 u v) else none
 | .lst xs,.lst ys=>if xs.length=ys.length then zr f xs ys else some false
 | .tup xs,.tup ys=>(zr f xs ys).bind λb=>some (b&&xs.length==ys.length)
 | .lst _,.tup _=>some false
 | .tup _,.lst _=>some false
 | .at u,.lst _=>if k6 u=true then some false else none
 | .at u,.tup _=>if k6 u=true then some false else none
 | .lst _,.at u=>if k6 u=true then some false else none
 | .tup _,.at u=>if k6 u=true then some false else none
 |_,_=>none
def peq:Nat->PV->PV->Option Bool
 |0=>peq0
 |n+1=>peq1 (peq n)
theorem Jp {K:Fg}{Hs H:Hp}{n:Nat}(s:Same Hs H)(ih:∀{x y:PV}{v w:V}{b:Bool},peq n x y=some b->Rep Hs x v->Rep Hs y w->EqP K H n v w b):∀{xs ys:List PV}{vs ws:List V}{b:Bool},zr (peq n) xs ys=some b->Reps Hs xs vs->Reps Hs ys ws->∃ e:Nat->Bool,(∀ j (h1:j<vs.length) (h2:j<ws.length),EqP K H n vs[j] ws[j] (e j))/\b=(List.range (min vs.length ws.length)).all e
 |[],ys,vs,ws,b,h,r1,r2=>by
  cases reps_nil.mp r1;unfold zr at h;cases h;exact ⟨λ_=>true,λj h1=>absurd h1 (Nat.not_lt_zero _),by simp⟩
 |x::xs,[],vs,ws,b,h,r1,r2=>by
  cases reps_nil.mp r2;unfold zr at h;cases h;exact ⟨λ_=>true,λj h1 h2=>absurd h2 (Nat.not_lt_zero _),by simp⟩
 |x::xs,y::ys,vs,ws,b,h,r1,r2=>by
  obtain ⟨v,vr,rfl,p1,q1⟩:=reps_cons.mp r1;obtain ⟨w,wr,rfl,p2,q2⟩:=reps_cons.mp r2;unfold zr at h;obtain ⟨a,ea,h1⟩:=bind_some h;obtain ⟨c,ec,h2⟩:=bind_some h1;cases h2;obtain ⟨e,he,hb⟩:=Jp s ih ec q1 q2;refine ⟨λj=>match j with|0=>a|j+1=>e j,λj h1 h2=>?_,?_⟩
  ·cases j with
   |zero=>exact ih ea p1 p2
   |succ j=>exact he j (by simpa using h1) (by simpa using h2)
  ·rw [yC,yC,Nat.succ_min_succ,List.range_succ_eq_map,List.all_cons,List.all_map,hb];rfl
theorem Jo {K:Fg}{Hs H:Hp}(s:Same Hs H):∀(n:Nat){x y:PV}{v w:V}{b:Bool},peq n x y=some b->RepB Hs H x v->RepB Hs H y w->EqP K H n v w b
 |0,x,y,v,w,b,h,r1,r2=>by
  unfold peq peq0 at h;split at h
  ·split at h
   ·rename_i hf;cases h;cases p0 r1;cases p0 r2;exact ⟨hf.1,hf.2,rfl⟩
   ·cases h
  ·cases h
 |n+1,x,y,v,w,b,h,r1,r2=>by
  have ih:∀{x y:PV}{v w:V}{b:Bool},peq n x y=some b->Rep Hs x v->Rep Hs y w->EqP K H n v w b:=λh r1 r2=>Jo s n h (.inl r1) (.inl r2);unfold peq peq1 at h;split at h
  ·split at h
   ·rename_i hf;cases h;cases p0 r1;cases p0 r2;exact .inl ⟨hf.1,hf.2,rfl⟩
   ·cases h
  ·obtain ⟨a,vs,rfl,e1,q1⟩:=qd s r1;obtain ⟨c,ws,rfl,e2,q2⟩:=qd s r2;refine .inr (.inl ⟨a,c,vs,ws,rfl,rfl,SqL.of e1,SqL.of e2,?_⟩);split at h
   ·rename_i hl;obtain ⟨e,he,hb⟩:=Jp s ih h q1 q2;have hl':vs.length=ws.length:=by rw [q1.length,q2.length,hl]
    exact .inr ⟨hl',e,he,by rw [hb,<- hl',Nat.min_self]⟩
   ·rename_i hl;cases h;exact .inl ⟨by rw [q1.length,q2.length];exact hl,rfl⟩
  ·obtain ⟨a,vs,rfl,e1,q1⟩:=xq s r1;obtain ⟨c,ws,rfl,e2,q2⟩:=xq s r2;obtain ⟨d,ed,h1⟩:=bind_some h;cases h1;obtain ⟨e,he,hb⟩:=Jp s ih ed q1 q2;exact .inr (.inr (.inl ⟨a,c,vs,ws,rfl,rfl,SqT.of e1,SqT.of e2,e,he,by rw [hb,q1.length,q2.length]⟩))
  ·cases h;obtain ⟨a,vs,rfl,e1,q1⟩:=qd s r1;obtain ⟨c,ws,rfl,e2,q2⟩:=xq s r2;exact .inr (.inr (.inr (.inl ⟨a,c,vs,ws,rfl,rfl,SqL.of e1,SqT.of e2,rfl⟩)))
  ·cases h;obtain ⟨a,vs,rfl,e1,q1⟩:=xq s r1;obtain ⟨c,ws,rfl,e2,q2⟩:=qd s r2;exact .inr (.inr (.inr (.inr (.inl ⟨a,c,vs,ws,rfl,rfl,SqT.of e1,SqL.of e2,rfl⟩))))
  ·split at h
   ·rename_i hf;cases h;cases p0 r1;obtain ⟨c,ws,rfl,e2,q2⟩:=qd s r2;exact .inr (.inr (.inr (.inr (.inr (.inl ⟨c,ws,hf,rfl,.inl (SqL.of e2),rfl⟩)))))
   ·cases h
  ·split at h
   ·rename_i hf;cases h;cases p0 r1;obtain ⟨c,ws,rfl,e2,q2⟩:=xq s r2;exact .inr (.inr (.inr (.inr (.inr (.inl ⟨c,ws,hf,rfl,.inr (SqT.of e2),rfl⟩)))))
   ·cases h
  ·split at h
   ·rename_i hf;cases h;cases p0 r2;obtain ⟨c,ws,rfl,e2,q2⟩:=qd s r1;exact .inr (.inr (.inr (.inr (.inr (.inr ⟨c,ws,hf,rfl,.inl (SqL.of e2),rfl⟩)))))
   ·cases h
  ·split at h
   ·rename_i hf;cases h;cases p0 r2;obtain ⟨c,ws,rfl,e2,q2⟩:=xq s r1;exact .inr (.inr (.inr (.inr (.inr (.inr ⟨c,ws,hf,rfl,.inr (SqT.of e2),rfl⟩)))))
   ·cases h
  ·cases h
def qi:PV->PV->Option PV:=λx y=>(peq 6 x y).bind λb=>some (.at (.bl b))
def pNe:PV->PV->Option PV:=λx y=>(peq 6 x y).bind λb=>some (.at (.bl (!b)))
instance :xx (rEqD K 6 false) qi where
 h:=λ{x y z} e {Hs H v w} s a b {Q} q=>by
  obtain ⟨c,ec,e1⟩:=bind_some e;cases e1;exact ⟨c,Jo s 6 ec a b,q _ _ _ (.refl s) (rep_at.mpr rfl)⟩
instance :xx (rEqD K 6 true) pNe where
 h:=λ{x y z} e {Hs H v w} s a b {Q} q=>by
  obtain ⟨c,ec,e1⟩:=bind_some e;cases e1;exact ⟨c,Jo s 6 ec a b,q _ _ _ (.refl s) (rep_at.mpr rfl)⟩
def r6 (n:Nat):List PV->List PV
 |[]=>[]
 |x::xs=> .tup [.at (.int n),x]::r6 (n+1) xs
theorem YR:∀{xs:List PV}{n i:Nat}{z:PV},(r6 n xs)[i]?=some z->∃ x,xs[i]?=some x/\z = .tup [.at (.int ((n+i:Nat):Int)),x]
 |[],n,i,z,h=>by simp [r6] at h
 |x::xs,n,0,z,h=>by simp [r6] at h;exact ⟨x,rfl,h.symm⟩
 |x::xs,n,i+1,z,h=>by
  obtain ⟨y,h1,h2⟩:=YR (xs:=xs) (n:=n+1) (i:=i) (z:=z) (by simpa [r6] using h);exact ⟨y,by simpa using h1,by rw [h2,show n+1+i=n+(i+1) by omega]⟩
theorem YS:∀{xs:List PV}{n:Nat},(r6 n xs).length=xs.length
 |[],_=>rfl
 |x::xs,n=>by simp [r6,YS]
theorem Ca {a:Addr}(h:Hs a=some (.lst vs))(r:Reps Hs xs vs):jK (Ite K a) (r6 0 xs) Hs where
 go:=λi x Hs1 H1 e g1 g2=>by
  obtain ⟨y,ey,rfl⟩:=YR e;obtain ⟨v,ev,rv⟩:=r.get ey;refine ⟨⟨vs,v,SqL.of (g2 _ _ (g1 _ _ h)),ev⟩,λw H2 z=>?_⟩;obtain ⟨p,u,hp,rfl,rfl,hu⟩:=z;have e1:=hu vs (SqL.of (g2 _ _ (g1 _ _ h)));rw [ev] at e1;cases e1;refine ⟨_,.new g2 hp,rep_tup.mpr ⟨p,_,rfl,y7,.cons (rep_at.mpr (by rw [Nat.zero_add])) (.one (rv.mono (g1.trans (Ext.new g2 hp).s1)))⟩⟩
 stop:=λHs1 H1 g1 g2=>⟨vs,SqL.of (g2 _ _ (g1 _ _ h)),by rw [r.length,YS];exact yS _⟩
def xn (a:MA):MA:=λε=>(a ε).bind λxs=>match xs with
 |[.lst ys]=>some (r6 0 ys)
 |_=>none
instance {a:MA}[sa:qY ta a]:zA (ZN K ta) (xn a) where
 h:=λe _ _ _ _ _ rs _ q=>by
  obtain ⟨xs,ex,e1⟩:=bind_some e;split at e1
  ·cases e1;refine sa.h ex rs λvs Hs1 H1 x1 r1=>?_;obtain ⟨v,r,rfl,p1,p2⟩:=reps_cons.mp r1;cases reps_nil.mp p2;obtain ⟨p,ws,rfl,hp,rw⟩:=rep_lst.mp p1;exact ⟨p,rfl,⟨ws,SqL.of (x1.s3 _ _ hp)⟩,q _ _ _ x1 (Ca hp rw)⟩
  ·cases e1
def xv:List PV->List PV->List PV
 |x::xs,y::ys=> .tup [x,y]::xv xs ys
 |_,_=>[]
theorem KO:∀{xs ys:List PV}{i:Nat}{z:PV},(xv xs ys)[i]?=some z->∃ x y,xs[i]?=some x/\ys[i]?=some y/\z = .tup [x,y]
 |[],_,i,z,h=>by simp [xv] at h
 |_::_,[],i,z,h=>by simp [xv] at h
 |x::xs,y::ys,0,z,h=>by simp [xv] at h;exact ⟨x,y,rfl,rfl,h.symm⟩
 |x::xs,y::ys,i+1,z,h=>by
  obtain ⟨u,v,h1,h2,h3⟩:=KO (xs:=xs) (ys:=ys) (i:=i) (z:=z) (by simpa [xv] using h);exact ⟨u,v,by simpa using h1,by simpa using h2,h3⟩
theorem KP:∀{xs ys:List PV},(xv xs ys).length=min xs.length ys.length
 |[],_=>by simp [xv]
 |_::_,[]=>by simp [xv]
 |x::xs,y::ys=>by simp [xv,KP,Nat.succ_min_succ]
theorem Ce {a b:Addr}(h:Hs a=some (.lst vs))(r:Reps Hs xs vs)(h':Hs b=some (.lst ws))(r':Reps Hs ys ws):jK (Itz K a b) (xv xs ys) Hs where
 go:=λi x Hs1 H1 e g1 g2=>by
  obtain ⟨y,z,ey,ez,rfl⟩:=KO e;obtain ⟨v,ev,rv⟩:=r.get ey;obtain ⟨w,ew,rw⟩:=r'.get ez;have q1:SqL K H1 a vs:=SqL.of (g2 _ _ (g1 _ _ h));have q2:SqL K H1 b ws:=SqL.of (g2 _ _ (g1 _ _ h'));refine ⟨⟨vs,ws,v,w,q1,q2,ev,ew⟩,λu H2 z=>?_⟩;obtain ⟨p,v',w',hp,rfl,rfl,hv,hw⟩:=z;have e1:=hv vs q1;have e2:=hw ws q2;rw [ev] at e1;rw [ew] at e2;cases e1;cases e2;have g3:=g1.trans (Ext.new (o:= .tup [v,w]) g2 hp).s1;exact ⟨_,.new g2 hp,rep_tup.mpr ⟨p,_,rfl,y7,.cons (rv.mono g3) (.one (rw.mono g3))⟩⟩
 stop:=λHs1 H1 g1 g2=>⟨vs,ws,SqL.of (g2 _ _ (g1 _ _ h)),SqL.of (g2 _ _ (g1 _ _ h')),by rw [r.length,r'.length,KP];omega⟩
def dZip (a:MA):MA:=λε=>(a ε).bind λxs=>match xs with
 |[.lst ys,.lst zs]=>some (xv ys zs)
 |_=>none
instance {a:MA}[sa:qY ta a]:zA (iZip K ta) (dZip a) where
 h:=λe _ _ _ _ _ rs _ q=>by
  obtain ⟨xs,ex,e1⟩:=bind_some e;split at e1
  ·cases e1;refine sa.h ex rs λvs Hs1 H1 x1 r1=>?_;obtain ⟨v,r,rfl,p1,p2⟩:=reps_cons.mp r1;obtain ⟨v',r',rfl,p3,p4⟩:=reps_cons.mp p2;cases reps_nil.mp p4;obtain ⟨p,ws,rfl,hp,rw1⟩:=rep_lst.mp p1;obtain ⟨p',ws',rfl,hp',rw2⟩:=rep_lst.mp p3;exact ⟨p,p',rfl,⟨ws,SqL.of (x1.s3 _ _ hp)⟩,⟨ws',SqL.of (x1.s3 _ _ hp')⟩,q _ _ _ x1 (Ce hp rw1 hp' rw2)⟩
  ·cases e1
structure RD (S:List Addr)(Hs0 H0 Hs H:Hp)(σ:St)(ε:ME):Prop where
 s1:Same Hs0 Hs
 s2:∀ b o,H0 b=some o->b∉S->H b=some o
 s3:Same Hs H
 s4:∀ b,H0 b≠none->Hs0 b=none->Hs b=none
 sh:∀(i:Nat)(x:PV),ε[i]?=some (.sh x)->∃ v,σ[i]?=some (some v)/\Rep Hs x v
 ow:∀(i:Nat)(x:PV),ε[i]?=some (.ow x)->∃ a,σ[i]?=some (some (.ref a))/\(H0 a=none∨a∈S)/\Hs a=none/\Top Hs H a x
 nd:∀(i j:Nat)(x y:PV)(a:Addr),ε[i]?=some (.ow x)->ε[j]?=some (.ow y)->σ[i]?=some (some (.ref a))->σ[j]?=some (some (.ref a))->i=j
 len:σ.length=ε.length
 pin:∀ a∈S,σ[0]?=some (some (.ref a))
 live:∀ a∈S,H a≠none
 str:∀ a∈S,∃ y,ε[0]?=some (.ow y)
 nb:∀(i:Nat)(x:PV),ε[i]?≠some (.bo x)
section
variable {S:List Addr}{Hs0 H0 Hs H Hs' H':Hp}{σ:St}{ε:ME}
theorem RD.rs (r:RD S Hs0 H0 Hs H σ ε):RS Hs Hs Hs H σ ε where
 ext:=⟨.refl _,r.s3,r.s3,λ_ h z=>absurd z h⟩
 sh:=r.sh
 ow:=λi x h=>by obtain ⟨a,h1,_,h3,h4⟩:=r.ow i x h;exact ⟨a,h1,h3,h3,h4⟩
 nd:=r.nd
 len:=r.len
 bo:=λi x h=>absurd h (r.nb i x)
theorem RD.there (r:RD S Hs0 H0 Hs H σ ε){b:Addr}(h:H0 b≠none):H b≠none:=by
 by_cases hS:b∈S
 ·exact r.live b hS
 ·cases q:H0 b with
  |none=>exact absurd q h
  |some o=>rw [r.s2 b o q hS];exact λz=>nomatch z
theorem RD.go (r:RD S Hs0 H0 Hs H σ ε)(e:Ext Hs H Hs' H'):RD S Hs0 H0 Hs' H' σ ε where
 s1:=r.s1.trans e.s1
 s2:=λb o h n=>e.s2 _ _ (r.s2 b o h n)
 s3:=e.s3
 s4:=λb h z=>e.s4 b (r.there h) (r.s4 b h z)
 sh:=λi x q=>by obtain ⟨v,a,b⟩:=r.sh i x q;exact ⟨v,a,b.mono e.s1⟩
 ow:=λi x q=>by
  obtain ⟨a,b,n0,n,t⟩:=r.ow i x q;exact ⟨a,b,n0,e.s4 a t.there n,t.mono e.s1 λo z=>e.s2 _ _ z⟩
 nd:=r.nd
 len:=r.len
 pin:=r.pin
 live:=λa h=>VA e.s2 (r.live a h)
 str:=r.str
 nb:=r.nb
theorem RD.change (r:RD S Hs0 H0 Hs H σ ε){i:Nat}{a:Addr}(hi:ε[i]?=some (.ow x))(ha:σ[i]?=some (some (.ref a)))(t:Top Hs (z8 H a o) a y):RD S Hs0 H0 Hs (z8 H a o) σ (ε.set i (.ow y)):=by
 obtain ⟨b,hb,n0,n,tx⟩:=r.ow i x hi;rw [ha] at hb;injection hb with hb;injection hb with hb;injection hb with hb;subst hb;have q:=(r.rs).change hi ha t;refine ⟨r.s1,λb u e hS=>?_,λb u e=>?_,r.s4,q.sh,λj z hz=>?_,q.nd,q.len,r.pin,λb hS=>?_,λb hS=>?_,ww r.nb λ_ z=>nomatch z⟩
 ·have hne:b≠a:=λz=>by
   rcases n0 with n0|n0
   ·rw [z,n0] at e;cases e
   ·exact hS (z▸n0)
  rw [z9 hne];exact r.s2 b u e hS
 ·rw [z9 (p5 e n)];exact r.s3 _ _ e
 ·obtain ⟨c,hc,m1,m2,tc⟩:=q.ow j z hz;refine ⟨c,hc,?_,m2,tc⟩;rw [yE] at hz;split at hz
  ·rename_i hij;rw [<- hij,ha] at hc;injection hc with hc;injection hc with hc;injection hc with hc;rw [<- hc];exact n0
  ·obtain ⟨d,hd,m0,_⟩:=r.ow j z hz;rw [hd] at hc;injection hc with hc;injection hc with hc;injection hc with hc;rw [<- hc];exact m0
 ·by_cases hba:b=a
  ·rw [hba,y7];exact λz=>nomatch z
  ·rw [z9 hba];exact r.live b hS
 ·obtain ⟨y',hy⟩:=r.str b hS;rw [yE];split
  ·rename_i h0;rw [if_pos (by rw [h0];exact (yD.mp hy).1)];exact ⟨y,rfl⟩
  ·exact ⟨y',hy⟩
theorem RD.put (r:RD S Hs0 H0 Hs H σ ε){i:Nat}(h:Rep Hs x v):RD S Hs0 H0 Hs H (σ.set (i+1) (some v)) (ε.set (i+1) (.sh x)):=by
 have q:=(r.rs).put (i:=i+1) h;refine ⟨r.s1,r.s2,r.s3,r.s4,q.sh,λj z hz=>?_,q.nd,q.len,λa hS=>by rw [yq (by omega)];exact r.pin a hS,r.live,λa hS=>by rw [yq (by omega)];exact r.str a hS,ww r.nb λ_ z=>nomatch z⟩;obtain ⟨c,hc,m1,m2,tc⟩:=q.ow j z hz;refine ⟨c,hc,?_,m2,tc⟩;rw [yE] at hz hc;split at hz
 ·split at hz<;>cases hz
 ·rename_i hij;rw [if_neg hij] at hc;obtain ⟨d,hd,m0,_⟩:=r.ow j z hz;rw [hd] at hc;injection hc with hc;injection hc with hc;injection hc with hc;rw [<- hc];exact m0
theorem RD.putO (r:RD S Hs0 H0 Hs H σ ε){i:Nat}{a:Addr}(h0:H0 a=none∨a∈S)(h1:Hs a=none)(h2:Top Hs H a x)(ne:∀(j:Nat)(y:PV),ε[j]?=some (.ow y)->σ[j]?≠some (some (.ref a))):RD S Hs0 H0 Hs H (σ.set (i+1) (some (.ref a))) (ε.set (i+1) (.ow x)):=by
 have q:=(r.rs).putO (i:=i+1) ⟨h1,h1,h2⟩ ne;refine ⟨r.s1,r.s2,r.s3,r.s4,q.sh,λj z hz=>?_,q.nd,q.len,λa hS=>by rw [yq (by omega)];exact r.pin a hS,r.live,λa hS=>by rw [yq (by omega)];exact r.str a hS,ww r.nb λ_ z=>nomatch z⟩;obtain ⟨c,hc,m1,m2,tc⟩:=q.ow j z hz;refine ⟨c,hc,?_,m2,tc⟩;rw [yE] at hz hc;split at hz
 ·rename_i hij;rw [if_pos hij] at hc;split at hc
  ·injection hc with hc;injection hc with hc;injection hc with hc;rw [<- hc];exact h0
  ·cases hc
 ·rename_i hij;rw [if_neg hij] at hc;obtain ⟨d,hd,m0,_⟩:=r.ow j z hz;rw [hd] at hc;injection hc with hc;injection hc with hc;injection hc with hc;rw [<- hc];exact m0
theorem RD.free0 (r:RD S Hs0 H0 Hs H σ ε){a:Addr}(h:H a=none):H0 a=none:=by
 cases q:H0 a with
 |none=>rfl
 |some o=>exact absurd h (r.there (by rw [q];exact λz=>nomatch z))
theorem RD.freeze (r:RD S Hs0 H0 Hs H σ ε)(i:Nat):∃ Hs',Same Hs Hs'/\RD S Hs0 H0 Hs' H σ (fz (i+1) ε):=by
 by_cases h:∃ x,ε[i+1]?=some (.ow x)
 ·obtain ⟨x,hi⟩:=h;obtain ⟨a,ha,n0,n,t⟩:=r.ow (i+1) x hi;have hS:a∉S:=λhS=>by
   obtain ⟨y,hy⟩:=r.str a hS;exact absurd (r.nd 0 (i+1) y x a hy hi (r.pin a hS) ha) (by omega)
  obtain ⟨o,ho,hr⟩:=t.rep n;have g:Same Hs (z8 Hs a o):=λb u e=>by rw [z9 (p5 e n)];exact e
  have ef:fz (i+1) ε=ε.set (i+1) (.sh x):=by unfold fz;rw [hi]
  have n0':H0 a=none:=n0.resolve_right hS;rw [ef];have dn:∀(j:Nat)(y:PV),(ε.set (i+1) (.sh x))[j]?=some (.ow y)->i+1≠j/\ε[j]?=some (.ow y):=λj y q=>by
   rw [yE] at q;split at q
   ·split at q<;>cases q
   ·rename_i hij;exact ⟨hij,q⟩
  refine ⟨z8 Hs a o,g,r.s1.trans g,r.s2,λb u e=>?_,λb h z=>?_,λj y q=>?_,λj y q=>?_,λj k z z' c h1 h2 h3 h4=>r.nd j k z z' c (dn j z h1).2 (dn k z' h2).2 h3 h4,by rw [yn,r.len],r.pin,r.live,(λb hb=>by rw [yq (by omega)];exact r.str b hb),ww r.nb λ_ z=>nomatch z⟩
  ·by_cases hb:b=a
   ·subst hb;rw [y7] at e;cases e;exact ho
   ·rw [z9 hb] at e;exact r.s3 _ _ e
  ·have hb:b≠a:=λe=>h (e▸n0');rw [z9 hb];exact r.s4 b h z
  ·rw [yE] at q;split at q
   ·rename_i hij;split at q
    ·injection q with q;injection q with q;subst q;exact ⟨.ref a,hij▸ha,hr⟩
    ·cases q
   ·obtain ⟨v,e,w⟩:=r.sh j y q;exact ⟨v,e,w.mono g⟩
  ·obtain ⟨hij,hq⟩:=dn j y q;obtain ⟨c,hc,m0,m,tc⟩:=r.ow j y hq;have hne:c≠a:=λe=>hij (r.nd (i+1) j x y a hi hq ha (e▸hc));exact ⟨c,hc,m0,by rw [z9 hne];exact m,tc.mono g λ_ e=>e⟩
 ·refine ⟨Hs,.refl _,?_⟩;unfold fz;split
  ·rename_i x hx;exact absurd ⟨x,hx⟩ h
  ·exact r
end
abbrev W:=ME->(PV->ME->Prop)->Prop
variable{a:W}
abbrev WA:=ME->(List PV->ME->Prop)->Prop
variable{it:WA}
abbrev WT:=ME->(Bool->ME->Prop)->Prop
abbrev WS:=ME->(ME->Prop)->(PV->ME->Prop)->Prop
variable{b:WS}
class SemW (te:TE)(w:W):Prop where
 h:∀{ε Q'},w ε Q'->∀{S Hs0 H0 Hs H σ},RD S Hs0 H0 Hs H σ ε->∀{Q:VK},(∀ y ε' v Hs' H',Q' y ε'->RD S Hs0 H0 Hs' H' σ ε'->Same Hs Hs'->Rep Hs' y v->Q v H')->te σ H Q
class jO (ta:TA)(w:WA):Prop where
 h:∀{ε Q'},w ε Q'->∀{S Hs0 H0 Hs H σ},RD S Hs0 H0 Hs H σ ε->∀{Q:List V->Hp->Prop},(∀ ys ε' vs Hs' H',Q' ys ε'->RD S Hs0 H0 Hs' H' σ ε'->Same Hs Hs'->Reps Hs' ys vs->Q vs H')->ta σ H Q
class QT (tt:TT)(w:WT):Prop where
 h:∀{ε Q'},w ε Q'->∀{S Hs0 H0 Hs H σ},RD S Hs0 H0 Hs H σ ε->∀{Q:Bool->Hp->Prop},(∀ b ε' Hs' H',Q' b ε'->RD S Hs0 H0 Hs' H' σ ε'->Same Hs Hs'->Q b H')->tt σ H Q
class SemWS (ts:TS)(w:WS):Prop where
 h:∀{ε N R},w ε N R->∀{S Hs0 H0 Hs H σ},RD S Hs0 H0 Hs H σ ε->∀{D:qM},(∀ ε' σ' Hs' H',N ε'->RD S Hs0 H0 Hs' H' σ' ε'->Same Hs Hs'->D.nx σ' H') ->
  (∀ y ε' σ' v Hs' H',R y ε'->RD S Hs0 H0 Hs' H' σ' ε'->Same Hs Hs'->Rep Hs' y v->D.rt v H')->ts D σ H
def wP (f:M):W:=λε Q=>∃ y,f ε=some y/\Q y ε
def wPT (f:MB):WT:=λε Q=>∃ y,f ε=some y/\Q y ε
instance (priority:=50){f:M}[s:SemE te f]:SemW te (wP f) where
 h:=λ⟨y,e,q⟩ _ _ _ _ _ _ r _ k=>s.h e r.rs λv Hs' H' x rv=>k y _ v Hs' H' q (r.go x) x.s1 rv
instance (priority:=50){f:MB}[s:qI tt f]:QT tt (wPT f) where
 h:=λ⟨y,e,q⟩ _ _ _ _ _ _ r _ k=>s.h e r.rs λHs' H' x=>k y _ Hs' H' q (r.go x) x.s1
def qW (g:PV->PV->Option PV)(a b:W):W:=λε Q=>a ε λx ε1=>b ε1 λy ε2=>∃ z,g x y=some z/\Q z ε2
instance {r:R2}{g:PV->PV->Option PV}{ta tb:TE}{b:W}[sr:xx r g][sa:SemW ta a][sb:SemW tb b]:SemW (tOp r ta tb) (qW g a b) where
 h:=λh _ _ _ _ _ _ rd _ k=>sa.h h rd λx ε1 v Hs1 H1 h1 rd1 g1 r1=>sb.h h1 rd1 λy ε2 w Hs2 H2 h2 rd2 g2 r2=>by
  obtain ⟨z,ez,h2⟩:=h2;exact sr.h ez rd2.s3 (.inl (r1.mono g2)) (.inl r2) λu Hs3 H3 x3 r3=>k z ε2 u Hs3 H3 h2 (rd2.go x3) (g1.trans (g2.trans x3.s1)) r3
def qq:WA:=λε Q=>Q [] ε
def k7 (a:W)(r:WA):WA:=λε Q=>a ε λx ε1=>r ε1 λxs ε2=>Q (x::xs) ε2
instance:jO qa qq where
 h:=λh _ _ _ _ _ _ rd _ k=>k [] _ [] _ _ h rd (.refl _) .nil
instance {r:WA}[sa:SemW te a][sr:jO ta r]:jO (i6 te ta) (k7 a r) where
 h:=λh _ _ _ _ _ _ rd _ k=>sa.h h rd λx ε1 v Hs1 H1 h1 rd1 g1 r1=>sr.h h1 rd1 λxs ε2 vs Hs2 H2 h2 rd2 g2 r2=>k _ ε2 _ Hs2 H2 h2 rd2 (g1.trans g2) (.cons (r1.mono g2) r2)
def wK (a:WA):W:=λε Q=>a ε λxs ε1=>xs.length<=lim/\Q (.tup xs) ε1
instance {a:WA}[sa:jO ta a]:SemW (tTup ta) (wK a) where
 h:=λh _ _ _ _ _ _ rd _ k=>sa.h h rd λxs ε1 vs Hs1 H1 h1 rd1 g1 r1=>⟨qR (r1.length▸h1.1),λp hp=>k _ ε1 _ _ _ h1.2 (rd1.go (.new rd1.s3 hp)) (g1.trans (Ext.new rd1.s3 hp).s1) (rep_tup.mpr ⟨p,vs,rfl,y7,r1.mono (Ext.new rd1.s3 hp).s1⟩)⟩
def zv:Sp:=λvs H Q _=>∃(a:Addr)(n m:Int),vs=[.ref a,.int m]/\H a=some (.lst [.int n])/\wN n m/\Q (.int (n % m)) (z8 H a (.lst [.int (n / m)]))
def b9 (n:Int):MSlot:= .ow (.lst [.at (.int n)])
def wTake (i:Nat)(a:W):W:=λε Q=>a ε λx ε1=>∃ n k,x = .at (.int k)/\ε1[i]?=some (b9 n)/\wN n k/\Q (.at (.int (n % k))) (ε1.set i (b9 (n / k)))
theorem RD.strm_at {i:Nat}{n:Int}(r:RD S Hs0 H0 Hs H σ ε)(h:ε[i]?=some (b9 n)):∃ a,σ[i]?=some (some (.ref a))/\H a=some (.lst [.int n])/\Hs a=none/\(H0 a=none∨a∈S):=by obtain ⟨a,ha,n0,n1,vs,hv,rv⟩:=r.ow i _ h;obtain ⟨v,w,rfl,p1,p2⟩:=reps_cons.mp rv;cases reps_nil.mp p2;cases rep_at.mp p1;exact ⟨a,ha,hv,n1,n0⟩
def zg (i:Nat):ME->Prop:=λε=>∃ n,ε[i]?=some (b9 n)
def qr (i:Nat)(a:W):W:=λε Q=>zg i ε/\wTake i a ε Q
instance {i:Nat}[sa:SemW te a]:SemW (xH zv [] E (i6 (o4 i) (i6 te qa))) (qr i a) where
 h:=λh _ _ _ _ _ _ rd _ k=>by
  obtain ⟨⟨n0,hn0⟩,h⟩:=h;obtain ⟨p,hp,_⟩:=rd.strm_at hn0;refine ⟨_,hp,sa.h h rd λx ε1 v Hs1 H1 h1 rd1 g1 r1=>?_⟩;obtain ⟨n,m,rfl,hn,hc,h2⟩:=h1;obtain ⟨p',hp',hH,hs,_⟩:=rd1.strm_at hn;rw [hp] at hp';injection hp' with hp';injection hp' with hp';injection hp' with hp';subst hp';cases rep_at.mp r1;exact ⟨p,n,m,rfl,hH,hc,k _ _ _ _ _ h2 (rd1.change hn hp ⟨_,y7,.one (rep_at.mpr rfl)⟩) g1 (rep_at.mpr rfl)⟩
structure ExtD (p:Addr)(Hs H Hs' H':Hp):Prop where
 s1:Same Hs Hs'
 s2:∀ b o,H b=some o->b≠p->H' b=some o
 s3:Same Hs' H'
 s4:∀ b,H b≠none->Hs b=none->Hs' b=none
def spD (pre:List PV->Prop)(R:List PV->PV->Prop):Sp:=λvs H Q _=>∃ Hs a n xs ws,vs = .ref a::ws/\Same Hs H/\Hs a=none/\H a=some (.lst [.int n])/\Reps Hs xs ws/\pre xs /\
 ∀ y v n' Hs' H',R xs y->ExtD a Hs H Hs' H'->Hs' a=none->H' a=some (.lst [.int n'])->Rep Hs' y v->Q v H'
section
variable {S:List Addr}{Hs0 H0 Hs H Hs' H':Hp}{σ:St}{ε:ME}
theorem RD.drawn (r:RD S Hs0 H0 Hs H σ ε){i:Nat}{n n':Int}{p:Addr}(hi:ε[i]?=some (b9 n))(hp:σ[i]?=some (some (.ref p)))(x:ExtD p Hs H Hs' H')(np:Hs' p=none)(ep:H' p=some (.lst [.int n'])):RD S Hs0 H0 Hs' H' σ (ε.set i (b9 n')):=by
 obtain ⟨p',hp',hH,hs,h0⟩:=r.strm_at hi;rw [hp] at hp';injection hp' with hp';injection hp' with hp';injection hp' with hp';subst hp';have up:∀(j:Nat)(z:PV),(ε.set i (b9 n'))[j]?=some (.ow z)->(j=i/\z = .lst [.at (.int n')])∨(j≠i/\ε[j]?=some (.ow z)):=λj z q=>by
  rw [yE] at q;split at q
  ·rename_i hij;split at q
   ·injection q with q;unfold b9 at q;injection q with q;exact .inl ⟨hij.symm,q.symm⟩
   ·cases q
  ·rename_i hij;exact .inr ⟨Ne.symm hij,q⟩
 have wasOw:∀(j:Nat)(z:PV),(ε.set i (b9 n'))[j]?=some (.ow z)->∃ z',ε[j]?=some (.ow z'):=λj z q=>by
  rcases up j z q with ⟨rfl,_⟩|⟨_,q⟩
  ·exact ⟨_,hi⟩
  ·exact ⟨z,q⟩
 refine ⟨r.s1.trans x.s1,λb o e hS=>x.s2 b o (r.s2 b o e hS) λz=>?_,x.s3,λb h z=>x.s4 b (r.there h) (r.s4 b h z),λj z q=>?_,λj z q=>?_,λj k z z' c h1 h2 h3 h4=>?_,by rw [yn,r.len],r.pin,λb hS=>?_,λb hS=>?_,ww r.nb λ_ z=>by unfold b9 at z;cases z⟩
 ·rcases h0 with h0|h0
  ·rw [z,h0] at e;cases e
  ·exact hS (z▸h0)
 ·rw [yE] at q;split at q
  ·split at q
   ·unfold b9 at q;cases q
   ·cases q
  ·obtain ⟨v,h1,h2⟩:=r.sh j z q;exact ⟨v,h1,h2.mono x.s1⟩
 ·rcases up j z q with ⟨rfl,rfl⟩|⟨hij,q⟩
  ·exact ⟨p,hp,h0,np,_,ep,.one (rep_at.mpr rfl)⟩
  ·obtain ⟨c,hc,m0,m1,tc⟩:=r.ow j z q;have hne:c≠p:=λe=>hij (r.nd j i z _ p q hi (e▸hc) hp);exact ⟨c,hc,m0,x.s4 c tc.there m1,tc.mono x.s1 λo e=>x.s2 c o e hne⟩
 ·obtain ⟨w1,q1⟩:=wasOw j z h1;obtain ⟨w2,q2⟩:=wasOw k z' h2;exact r.nd j k w1 w2 c q1 q2 h3 h4
 ·by_cases hb:b=p
  ·rw [hb,ep];exact λz=>nomatch z
  ·have:=r.live b hS;cases q:H b with
   |none=>exact absurd q this
   |some o=>rw [x.s2 b o q hb];exact λz=>nomatch z
 ·obtain ⟨y',hy⟩:=r.str b hS;rw [yE];split
  ·rename_i h0;rw [if_pos (by rw [h0];exact (yD.mp hy).1)];exact ⟨_,rfl⟩
  ·exact ⟨y',hy⟩
end
def xI (i:Nat)(pre:List PV->Prop)(R:List PV->PV->Prop)(as:WA):W:=λε Q=>zg i ε/\as ε λxs ε1=>zg i ε1/\pre xs/\∀ y n',R xs y->Q y (ε1.set i (b9 n'))
instance {i:Nat}{as:WA}[sa:jO ta as]:SemW (xH (spD pre R) [] E (i6 (o4 i) ta)) (xI i pre R as) where
 h:=λh _ _ _ _ _ _ rd _ k=>by
  obtain ⟨⟨n0,hn0⟩,h⟩:=h;obtain ⟨p,hp,_⟩:=rd.strm_at hn0;refine ⟨_,hp,sa.h h rd λxs ε1 vs Hs1 H1 h1 rd1 g1 r1=>?_⟩;obtain ⟨⟨n,hn⟩,hpre,h2⟩:=h1;obtain ⟨p',hp',hH,hs,_⟩:=rd1.strm_at hn;rw [hp] at hp';injection hp' with hp';injection hp' with hp';injection hp' with hp';subst hp';refine ⟨Hs1,p,n,xs,vs,by rw [yo],rd1.s3,hs,hH,r1,hpre,λy v n' Hs' H' hR x np ep rv=>?_⟩;exact k y _ v Hs' H' (h2 y n' hR) (rd1.drawn hn hp x np ep) (g1.trans x.s1) rv
def xR:WS:=λε N _=>N ε
def wSeq (a b:WS):WS:=λε N R=>a ε (λε1=>b ε1 N R) R
def qb (i:Nat)(a:W):WS:=λε N _=>a ε λx ε1=>N (ε1.set i (.sh x))
def wJ (i:Nat)(f:M):WS:=λε N _=>∃ x,f ε=some x/\N (ε.set i (.ow x))
def xu (a:W):WS:=λε _ R=>a ε R
def KH (a:W):WS:=λε N _=>a ε λ_ ε1=>N ε1
def xt (c:WT)(a b:WS):WS:=λε N R=>c ε λk ε1=>if k=true then a ε1 N R else b ε1 N R
def wFz (i:Nat)(a:WS):WS:=λε N R=>a (fz i ε) N R
def vD (i:Nat)(a:W):WS:=λε N _=>(∃ xs,ε[i]?=some (.ow (.lst xs)))/\a ε λx ε1=>∃ xs,ε1[i]?=some (.ow (.lst xs))/\xs.length<=lim/\N (ε1.set i (.ow (.lst (xs++[x]))))
instance:SemWS VH xR where
 h:=λh _ _ _ _ _ _ rd _ k _=>k _ _ _ _ h rd (.refl _)
instance {a:WS}[sa:SemWS t a][sb:SemWS u b]:SemWS (tSeq t u) (wSeq a b) where
 h:=λh _ _ _ _ _ _ rd _ k r=>sa.h h rd (λε1 σ1 Hs1 H1 h1 rd1 g1=>sb.h h1 rd1 (λε2 σ2 Hs2 H2 h2 rd2 g2=>k ε2 σ2 Hs2 H2 h2 rd2 (g1.trans g2)) λy ε2 σ2 v Hs2 H2 h2 rd2 g2 rv=>r y ε2 σ2 v Hs2 H2 h2 rd2 (g1.trans g2) rv) r
instance {i:Nat}[sa:SemW te a]:SemWS (zx te (qQ (i+1))) (qb (i+1) a) where
 h:=λh _ _ _ _ _ _ rd _ k _=>sa.h h rd λx ε1 v Hs1 H1 h1 rd1 g1 r1=>k _ _ _ _ h1 (rd1.put r1) g1
instance {i:Nat}{f:M}[sa:xw te f]:SemWS (zx te (qQ (i+1))) (wJ (i+1) f) where
 h:=λ⟨x,e,h⟩ _ _ _ _ _ _ rd _ k _=>sa.h e rd.rs λa Hs1 H1 x1 n n' t=>k _ _ _ _ h ((rd.go x1).putO (.inl (rd.free0 n)) n' t λj y hj z=>by
  obtain ⟨b,hb,_,_,tb⟩:=rd.ow j y hj;rw [z] at hb;injection hb with hb;injection hb with hb;injection hb with hb;subst hb;exact tb.there n) x1.s1
instance [sa:SemW te a]:SemWS (tRet te) (xu a) where
 h:=λh _ _ _ _ _ _ rd _ _ r=>sa.h h rd λx ε1 v Hs1 H1 h1 rd1 g1 r1=>r x ε1 _ v Hs1 H1 h1 rd1 g1 r1
instance [sa:SemW te a]:SemWS (zO te) (KH a) where
 h:=λh _ _ _ _ _ _ rd _ k _=>sa.h h rd λx ε1 v Hs1 H1 h1 rd1 g1 r1=>k ε1 _ Hs1 H1 h1 rd1 g1
instance {t:TT}{ta:TS}{c:WT}{a:WS}[sc:QT t c][sa:SemWS ta a][sb:SemWS tb b]:SemWS (tIfS t ta tb) (xt c a b) where
 h:=λh _ _ _ _ _ _ rd _ k r=>sc.h h rd λc ε1 Hs1 H1 h1 rd1 g1=>by
  cases c with
  |true=>exact xC (sa.h (by simpa using h1) rd1 (λε2 σ2 Hs2 H2 h2 rd2 g2=>k ε2 σ2 Hs2 H2 h2 rd2 (g1.trans g2)) λy ε2 σ2 v Hs2 H2 h2 rd2 g2 rv=>r y ε2 σ2 v Hs2 H2 h2 rd2 (g1.trans g2) rv)
  |false=>exact xz (sb.h (by simpa using h1) rd1 (λε2 σ2 Hs2 H2 h2 rd2 g2=>k ε2 σ2 Hs2 H2 h2 rd2 (g1.trans g2)) λy ε2 σ2 v Hs2 H2 h2 rd2 g2 rv=>r y ε2 σ2 v Hs2 H2 h2 rd2 (g1.trans g2) rv)
instance {i:Nat}{a:WS}[sa:SemWS t a]:SemWS t (wFz (i+1) a) where
 h:=λh _ _ _ _ _ _ rd _ k r=>by
  obtain ⟨Hs',g,rd'⟩:=rd.freeze i;exact sa.h h rd' (λε2 σ2 Hs2 H2 h2 rd2 g2=>k ε2 σ2 Hs2 H2 h2 rd2 (g.trans g2)) λy ε2 σ2 v Hs2 H2 h2 rd2 g2 rv=>r y ε2 σ2 v Hs2 H2 h2 rd2 (g.trans g2) rv
instance {i:Nat}[sa:SemW te a]:SemWS (zO (tBM K "list" Zc (o4 i) (i6 te qa))) (vD i a) where
 h:=λh _ _ _ _ _ _ rd _ k _=>by
  obtain ⟨⟨xs0,hx0⟩,h⟩:=h;obtain ⟨p,hp,n0,n,vs,hv,rv⟩:=rd.ow i _ hx0;refine ⟨_,hp,.inl ⟨rfl,vs,SqL.of hv⟩,sa.h h rd λx ε1 v Hs1 H1 h1 rd1 g1 r1=>?_⟩;obtain ⟨xs,hx,hl,h2⟩:=h1;obtain ⟨p',hp',_,n1,ws,hw,rw⟩:=rd1.ow i _ hx;rw [hp] at hp';injection hp' with hp';injection hp' with hp';injection hp' with hp';subst hp';exact ⟨p,ws,v,rfl,rfl,hw,Qg (by rw [rw.length];exact hl),k _ _ _ _ h2 (rd1.change hx hp ⟨_,y7,rw.append (.one r1)⟩) g1⟩
def wPop (i:Nat)(a:W):W:=λε Q=>(∃ xs,ε[i]?=some (.ow (.lst xs)))/\a ε λx ε1=>∃ xs k y,ε1[i]?=some (.ow (.lst xs))/\x = .at (.int k)/\0<=k/\k<xs.length/\xs.length<=lim/\xs[k.toNat]?=some y/\Q y (ε1.set i (.ow (.lst (xs.eraseIdx k.toNat))))
theorem Reps.eraseIdx {H:Hp}:∀(i:Nat){xs:List PV}{vs:List V},Reps H xs vs->Reps H (xs.eraseIdx i) (vs.eraseIdx i)
 |i,[],vs,h=>by rw [reps_nil.mp h];exact .nil
 |0,x::xs,vs,h=>by obtain ⟨v,r,rfl,p,q⟩:=reps_cons.mp h;exact q
 |i+1,x::xs,vs,h=>by obtain ⟨v,r,rfl,p,q⟩:=reps_cons.mp h;exact .cons p (Reps.eraseIdx i q)
instance {i:Nat}[sa:SemW te a]:SemW (tBM K "list" GC (o4 i) (i6 te qa)) (wPop i a) where
 h:=λh _ _ _ _ _ _ rd _ k=>by
  obtain ⟨⟨xs0,hx0⟩,h⟩:=h;obtain ⟨p,hp,n0,n,vs,hv,rv⟩:=rd.ow i _ hx0;refine ⟨_,hp,.inl ⟨rfl,vs,SqL.of hv⟩,sa.h h rd λx ε1 v Hs1 H1 h1 rd1 g1 r1=>?_⟩;obtain ⟨xs,j,y,hx,rfl,j0,j1,hl,hy,h2⟩:=h1;obtain ⟨p',hp',_,n1,ws,hw,rw⟩:=rd1.ow i _ hx;rw [hp] at hp';injection hp' with hp';injection hp' with hp';injection hp' with hp';subst hp';cases rep_at.mp r1;obtain ⟨u,hu,ru⟩:=rw.get hy;have hlim:lim=1000000:=rfl;refine ⟨p,ws,j,j.toNat,u,rfl,rfl,hw,by omega,by omega,?_,hu,k _ _ _ _ _ h2 (rd1.change hx hp ⟨_,y7,rw.eraseIdx j.toNat⟩) g1 ru⟩;unfold seqIndex?;have e1:(if j<0 then j+(ws.length:Int) else j)=j:=if_neg (by omega);simp only [e1];rw [if_pos];rw [rw.length];simp only [ya,decide_eq_true_eq];exact ⟨j0,j1⟩
class SemWI (ti:TI)(w:WA):Prop where
 h:∀{ε Q'},w ε Q'->∀{S Hs0 H0 Hs H σ},RD S Hs0 H0 Hs H σ ε->∀{R:It->Hp->Prop},(∀ xs ε' J Hs' H',Q' xs ε'->RD S Hs0 H0 Hs' H' σ ε'->Same Hs Hs'->jK J xs Hs'->R J H')->ti σ H R
def wIp (f:MA):WA:=λε Q=>∃ xs,f ε=some xs/\Q xs ε
instance (priority:=50){ti:TI}{f:MA}[s:zA ti f]:SemWI ti (wIp f) where
 h:=λ⟨xs,e,q⟩ _ _ _ _ _ _ r _ k=>s.h e r.rs λJ Hs' H' x ok=>k xs _ J Hs' H' q (r.go x) x.s1 ok
def KJ (a:W):WA:=λε Q=>a ε λx ε1=>∃ j:Int,x = .at (.int j)/\-(lim:Int)<=j/\j<=lim/\Q (xQ 0 j.toNat) ε1
instance [sa:SemW te a]:SemWI (Qc (i6 te qa)) (KJ a) where
 h:=λh _ _ _ _ _ _ rd _ k=>sa.h h rd λx ε1 v Hs1 H1 h1 rd1 g1 r1=>by
  obtain ⟨j,rfl,h2,h3,h4⟩:=h1;cases rep_at.mp r1;have hlim:(lim:Int)=1000000:=rfl;exact ⟨j,rfl,by omega,by omega,k _ ε1 _ Hs1 H1 h4 rd1 g1 Ux⟩
class SemWG (tg:TG)(g:MG):Prop where
 h:∀{x ε ε'},g x ε=some ε'->∀{S Hs0 H0 Hs H σ v},RD S Hs0 H0 Hs H σ ε->Rep Hs x v->∀{Q:St->Hp->Prop},(∀ σ',RD S Hs0 H0 Hs H σ' ε'->Q σ' H)->tg v σ H Q
instance {i:Nat}:SemWG (qQ (i+1)) (v6 (i+1)) where
 h:=λe _ _ _ _ _ _ _ rd r _ q=>by cases e;exact q _ (rd.put r)
def vE (g:MG)(f:WS):List PV->WS
 |[]=>λε N _=>N ε
 |x::xs=>λε N R=>∃ ε1,g x ε=some ε1/\f ε1 (λε2=>vE g f xs ε2 N R) R
def wFor (it:WA)(g:MG)(f:WS):WS:=λε N R=>it ε λxs ε1=>vE g f xs ε1 N R
theorem RD.rebase (r:RD S Hs0 H0 Hs H σ ε):RD S Hs H0 Hs H σ ε :=
 ⟨.refl _,r.s2,r.s3,λ_ _ z=>z,r.sh,r.ow,r.nd,r.len,r.pin,r.live,r.str,r.nb⟩
theorem RD.unbase {Hb Hx:Hp}(b:RD S Hs0 H0 Hb Hx σ ε)(r:RD S Hb H0 Hs H σ' ε'):RD S Hs0 H0 Hs H σ' ε' :=
 ⟨b.s1.trans r.s1,r.s2,r.s3,λc h z=>r.s4 c h (b.s4 c h z),r.sh,r.ow,r.nd,r.len,r.pin,r.live,r.str,r.nb⟩
instance {f:WS}[si:SemWI wi it][sg:SemWG tg g][sf:SemWS tb f]:SemWS (tFor wi tg tb) (wFor it g f) where
 h:=λ{ε N R} h S Hs0 H0 _ _ _ rd D k rt=>si.h h rd λxs ε1 J Hs1 H1 h1 rd1 g1 ok=>by
  refine ⟨λn m σ H=>m=xs.length-n/\n<=xs.length/\∃ Hs ε,RD S Hs1 H0 Hs H σ ε/\vE g f (xs.drop n) ε N R,⟨xs.length,by simp,uZ _,Hs1,ε1,rd1.rebase,h1⟩,?_⟩;rintro n m σ H ⟨rfl,hn,Hs,ε2,r2,h2⟩;by_cases hlt:n<xs.length
  ·have hd:xs.drop n=xs[n]::xs.drop (n+1):=yb hlt;rw [hd] at h2;obtain ⟨ε3,e3,h3⟩:=h2;obtain ⟨go,yl⟩:=ok.go n xs[n] Hs H (by simp [hlt]) r2.s1 r2.s3;refine .inr ⟨go,λσ' H'=>n+1<=xs.length/\∃ Hs ε,RD S Hs1 H0 Hs H' σ' ε/\vE g f (xs.drop (n+1)) ε N R,λσ' H' p=>⟨xs.length-(n+1),by omega,rfl,p.1,p.2⟩,λv H3 y=>?_⟩;obtain ⟨Hs3,x3,r3⟩:=yl v H3 y;refine sg.h e3 (r2.go x3) r3 λσ4 rd4=>sf.h h3 rd4 (λε5 σ5 Hs5 H5 h5 rd5 g5=>⟨hlt,Hs5,ε5,rd5,h5⟩) λy ε5 σ5 v Hs5 H5 h5 rd5 g5 rv=>rt y ε5 σ5 v Hs5 H5 h5 (rd1.unbase rd5) (g1.trans rd5.s1) rv
  ·have en:n=xs.length:=by omega
   subst en;rw [uE] at h2;exact .inl ⟨ok.stop Hs H r2.s1 r2.s3,k _ _ _ _ h2 (rd1.unbase r2) (g1.trans r2.s1)⟩
def qA:List (Option Nat)->ME->ME->ME
 |some i::cap,s::ε2,ε1=>(qA cap ε2 ε1).set i s
 |none::cap,_::ε2,ε1=>qA cap ε2 ε1
 |_,_,ε1=>ε1
theorem QM:∀(cap:List (Option Nat))(ε2 ε1:ME),(qA cap ε2 ε1).length=ε1.length
 |some i::cap,s::ε2,ε1=>by unfold qA;rw [yn,QM]
 |none::cap,_::ε2,ε1=>by unfold qA;exact QM cap ε2 ε1
 |[],_,_=>rfl
 |some _::_,[],_=>rfl
 |none::_,[],_=>rfl
theorem VP:∀(cap:List (Option Nat))(ε2 ε1:ME)(i:Nat),some i∉cap->(qA cap ε2 ε1)[i]?=ε1[i]?
 |some k::cap,s::ε2,ε1,i,h=>by
  unfold qA;rw [yq (λz=>h (by rw [z];exact yQ))];exact VP cap ε2 ε1 i λz=>h (yR _ z)
 |none::cap,_::ε2,ε1,i,h=>by unfold qA;exact VP cap ε2 ε1 i λz=>h (yR _ z)
 |[],_,_,_,_=>rfl
 |some _::_,[],_,_,_=>rfl
 |none::_,[],_,_,_=>rfl
theorem VO:∀(cap:List (Option Nat))(ε2 ε1:ME)(i:Nat),cap.length=ε2.length->some i∈cap->i<ε1.length->(cap.filterMap id).Nodup->∃ j:Nat,cap[j]?=some (some i)/\(qA cap ε2 ε1)[i]?=ε2[j]?
 |some k::cap,s::ε2,ε1,i,hl,h,hi,nd=>by
  rw [List.filterMap_cons_some (by rfl)] at nd;by_cases e:k=i
  ·subst e;refine ⟨0,rfl,?_⟩;unfold qA;rw [uN (by rw [QM];exact hi)];rfl
  ·obtain ⟨j,h1,h2⟩:=VO cap ε2 ε1 i (by simpa using hl) (by rcases yM.mp h with z|z;exact absurd (Option.some.inj z).symm e;exact z) hi (yt.mp nd).2;refine ⟨j+1,by simpa using h1,?_⟩;unfold qA;rw [yq e];simpa using h2
 |none::cap,s::ε2,ε1,i,hl,h,hi,nd=>by
  rw [List.filterMap_cons_none (by rfl)] at nd;obtain ⟨j,h1,h2⟩:=VO cap ε2 ε1 i (by simpa using hl) (by rcases yM.mp h with z|z;exact nomatch z;exact z) hi nd;exact ⟨j+1,by simpa using h1,by unfold qA;simpa using h2⟩
 |[],_,_,_,_,h,_,_=>nomatch h
 |some _::_,[],_,_,hl,_,_,_=>by simp at hl
 |none::_,[],_,_,hl,_,_,_=>by simp at hl
def rst:List Nat->ME->ME
 |[],ε=>ε
 |t::ts,ε=>(rst ts ε).set t .no
theorem GX:∀(ts:List Nat)(ε:ME),(rst ts ε).length=ε.length
 |[],_=>rfl
 |t::ts,ε=>by unfold rst;rw [yn,GX]
theorem GW:∀(ts:List Nat)(ε:ME)(i:Nat)(s:MSlot),(rst ts ε)[i]?=some s->s = .no∨(i∉ts/\ε[i]?=some s)
 |[],_,_,_,h=> .inr ⟨yh,h⟩
 |t::ts,ε,i,s,h=>by
  unfold rst at h;rw [yE] at h;split at h
  ·split at h
   ·cases h;exact .inl rfl
   ·cases h
  ·rename_i hne;rcases GW ts ε i s h with z|⟨z1,z2⟩
   ·exact .inl z
   ·exact .inr ⟨λm=>by rcases yM.mp m with m|m;exact hne m.symm;exact z1 m,z2⟩
theorem RD.reset (r:RD [] Hs0 H0 Hs H σ' ε)(b:But ts σ σ'):RD [] Hs0 H0 Hs H σ (rst ts ε):=by
 have at1:∀(i:Nat)(s:MSlot),(rst ts ε)[i]?=some s->s = .no∨(σ'[i]?=σ[i]?/\ε[i]?=some s):=λi s h=>by
  rcases GW ts ε i s h with z|⟨z1,z2⟩
  ·exact .inl z
  ·exact .inr ⟨b.2 i z1,z2⟩
 refine ⟨r.s1,r.s2,r.s3,r.s4,λi x h=>?_,λi x h=>?_,λi j x y a h1 h2 h3 h4=>?_,by rw [GX,<- r.len,b.1],(λ_ z=>nomatch z),(λ_ z=>nomatch z),(λ_ z=>nomatch z),λi x h=>by
  rcases at1 i _ h with z|⟨_,z2⟩
  ·cases z
  ·exact r.nb i x z2⟩
 ·rcases at1 i _ h with z|⟨z1,z2⟩
  ·cases z
  ·rw [<- z1];exact r.sh i x z2
 ·rcases at1 i _ h with z|⟨z1,z2⟩
  ·cases z
  ·rw [<- z1];exact r.ow i x z2
 ·rcases at1 i _ h1 with z|⟨z1,z2⟩
  ·cases z
  ·rcases at1 j _ h2 with w|⟨w1,w2⟩
   ·cases w
   ·exact r.nd i j x y a z2 w2 (z1.trans h3) (w1.trans h4)
class Wd (tg:TG)(ts:outParam (List Nat))(g:MG):Prop where
 h:∀{x ε ε'},g x ε=some ε'->∀{Hs0 H0 Hs H σ v},RD [] Hs0 H0 Hs H σ ε->Rep Hs x v->∀{Q:St->Hp->Prop},(∀ σ',RD [] Hs0 H0 Hs H σ' ε'->But ts σ σ'->Q σ' H)->tg v σ H Q
theorem RD.put0 (r:RD [] Hs0 H0 Hs H σ ε){i:Nat}(h:Rep Hs x v):RD [] Hs0 H0 Hs H (σ.set i (some v)) (ε.set i (.sh x)):=by
 have q:=(r.rs).put (i:=i) h;refine ⟨r.s1,r.s2,r.s3,r.s4,q.sh,λj z hz=>?_,q.nd,q.len,(λ_ z=>nomatch z),(λ_ z=>nomatch z),(λ_ z=>nomatch z),ww r.nb λ_ z=>nomatch z⟩;obtain ⟨c,hc,m1,m2,tc⟩:=q.ow j z hz;refine ⟨c,hc,?_,m2,tc⟩;rw [yE] at hz hc;split at hz
 ·split at hz<;>cases hz
 ·rename_i hij;rw [if_neg hij] at hc;obtain ⟨d,hd,m0,_⟩:=r.ow j z hz;rw [hd] at hc;injection hc with hc;injection hc with hc;injection hc with hc;rw [<- hc];exact m0
instance {i:Nat}:Wd (qQ i) [i] (v6 i) where
 h:=λe _ _ _ _ _ _ rd r _ q=>by
  cases e;exact q _ (rd.put0 r) ⟨yn,λj hj=>yq λz=>hj (by rw [<- z];exact yP.mpr rfl)⟩
def jG (g:MG)(c:WT)(f:W)(ts:List Nat):List PV->List PV->ME->(List PV->ME->Prop)->Prop
 |[],ys,ε,Q=>Q ys ε
 |x::xs,ys,ε,Q=>∃ ε1,g x ε=some ε1/\c ε1 λb ε2=>if b=true then f ε2 λy ε3=>jG g c f ts xs (ys++[y]) (rst ts ε3) Q else jG g c f ts xs ys (rst ts ε2) Q
def ji:WT:=λε Q=>Q true ε
instance:QT tYes ji where
 h:=λh _ _ _ _ _ _ rd _ k=>k true _ _ _ h rd (.refl _)
def jF (cap:List (Option Nat))(ts:List Nat)(it:WA)(g:MG)(c:WT)(f:W):W:=λε Q=>it ε λxs ε1=>xy cap ts=true/\xs.length<=lim /\
 jG g c f ts xs [] (m4 cap ε1) λys ε2=>((∃ y:PV,ε1[0]?=some (MSlot.ow y))->∃ y:PV,(qA cap ε2 ε1)[0]?=some (MSlot.ow y))/\Q (.lst ys) (qA cap ε2 ε1)
noncomputable def xM (σ:St)(ε:ME)(H:Hp):Hp:=λb=>open Classical in if ∃(i:Nat)(x:PV),ε[i]?=some (MSlot.ow x)/\σ[i]?=some (some (V.ref b)) then none else H b
theorem ZT {b:Addr}(h:xM σ ε H b=some o):H b=some o/\∀(i:Nat)(x:PV),ε[i]?=some (MSlot.ow x)->σ[i]?≠some (some (V.ref b)):=by
 unfold xM at h;split at h
 ·cases h
 ·rename_i hn;exact ⟨h,λi x h1 h2=>hn ⟨i,x,h1,h2⟩⟩
theorem UF {b:Addr}(h:xM σ ε H b=none):H b=none∨∃(i:Nat)(x:PV),ε[i]?=some (MSlot.ow x)/\σ[i]?=some (some (V.ref b)):=by
 unfold xM at h;split at h
 ·rename_i hn;exact .inr hn
 ·exact .inl h
theorem BF {cap:List (Option Nat)}(nb:∀(i:Nat)(x:PV),ε[i]?≠some (.bo x)):∀(i:Nat)(x:PV),(m4 cap ε)[i]?≠some (.bo x):=λi x h=>by
 unfold m4 at h;rw [yO] at h;cases ho:cap[i]? with
 |none=>rw [ho] at h;cases h
 |some o =>
  rw [ho] at h;cases o with
  |none=>cases h
  |some k =>
   cases hk:ε[k]? with
   |none=>simp only [uI,hk,Option.getD_none] at h;cases h
   |some s=>simp only [uI,hk,Option.getD_some] at h;cases h;exact nb k x hk
theorem RD.block {cap:List (Option Nat)}(hc:(cap.filterMap id).Nodup)(r:RD S Hs0 H0 Hs H σ ε):RD [] Hs (xM (p7 cap σ) (m4 cap ε) H) Hs H (p7 cap σ) (m4 cap ε):=by have q:=(r.rs).cap hc;refine ⟨.refl _,λb o e _=>(ZT e).1,r.s3,λ_ _ z=>z,q.sh,λi x h=>?_,q.nd,q.len,(λ_ z=>nomatch z),(λ_ z=>nomatch z),(λ_ z=>nomatch z),BF r.nb⟩;obtain ⟨a,h1,h2,h3,h4⟩:=q.ow i x h;refine ⟨a,h1,.inl ?_,h3,h4⟩;unfold xM;rw [if_pos ⟨i,x,h,h1⟩]
theorem jp {cap:List (Option Nat)}{i k:Nat}(h:cap[i]?=some (some k))(e:(p7 cap σ)[i]?=some (some v)):σ[k]?=some (some v):=by
 unfold p7 at e;rw [yO,h] at e;simp only [uI,yF,Option.some.injEq] at e;cases hs:σ[k]? with
 |none=>rw [hs] at e;cases e
 |some o=>rw [hs] at e;simp at e;rw [e]
theorem Yw {cap:List (Option Nat)}{i:Nat}(h:(m4 cap ε)[i]?=some (.ow x)):∃ k:Nat,cap[i]?=some (some k)/\ε[k]?=some (.ow x):=by
 unfold m4 at h;rw [yO] at h;cases ho:cap[i]? with
 |none=>rw [ho] at h;cases h
 |some o =>
  rw [ho] at h;cases o with
  |none=>cases h
  |some k =>
   cases hk:ε[k]? with
   |none=>simp only [uI,hk,Option.getD_none] at h;cases h
   |some s=>simp only [uI,hk,Option.getD_some] at h;cases h;exact ⟨k,rfl,hk⟩
theorem RD.unblock {Hs1 H1 Hs2 H2:Hp}{ε1 ε2:ME}{cap:List (Option Nat)}(hc:(cap.filterMap id).Nodup)(r:RD S Hs0 H0 Hs1 H1 σ ε1)(q:RD [] Hs1 (xM (p7 cap σ) (m4 cap ε1) H1) Hs2 H2 (p7 cap σ) ε2)(st:(∃ y,ε1[0]?=some (.ow y))->∃ y,(qA cap ε2 ε1)[0]?=some (.ow y)):RD S Hs0 H0 Hs2 H2 σ (qA cap ε2 ε1):=by
 have hl:cap.length=ε2.length:=by rw [<- q.len];unfold p7;rw [yZ]
 have at1:∀(i:Nat)(s:MSlot),(qA cap ε2 ε1)[i]?=some s->(some i∉cap/\ε1[i]?=some s)∨∃ j:Nat,cap[j]?=some (some i)/\ε2[j]?=some s:=λi s h=>by
  by_cases hi:some i∈cap
  ·have hlt:i<ε1.length:=by have:=(yD.mp h).1;rwa [QM] at this
   obtain ⟨j,h1,h2⟩:=VO cap ε2 ε1 i hl hi hlt hc;exact .inr ⟨j,h1,h2▸h⟩
  ·exact .inl ⟨hi,VP cap ε2 ε1 i hi▸h⟩
 have own0:∀ a,xM (p7 cap σ) (m4 cap ε1) H1 a=none->H0 a=none∨a∈S:=λa h=>by
  rcases UF h with h|⟨i,x,h1,h2⟩
  ·exact .inl (r.free0 h)
  ·obtain ⟨k,hk,hx⟩:=Yw h1;obtain ⟨c,hc',m0,_⟩:=r.ow k x hx;rw [jp hk h2] at hc';injection hc' with hc';injection hc' with hc';injection hc' with hc';rw [hc'];exact m0
 have keep:∀(k:Nat)(x:PV)(a:Addr),some k∉cap->ε1[k]?=some (.ow x)->σ[k]?=some (some (.ref a))->∀ o,H1 a=some o->xM (p7 cap σ) (m4 cap ε1) H1 a=some o:=λk x a hk hx ha o ho=>by
  cases z:xM (p7 cap σ) (m4 cap ε1) H1 a with
  |some u=>rw [<- ho,(ZT z).1]
  |none =>
   rcases UF z with z|⟨i,y,h1,h2⟩
   ·rw [z] at ho;cases ho
   ·obtain ⟨m,hm,hy⟩:=Yw h1;have:=r.nd k m x y a hx hy ha (jp hm h2);subst this;exact absurd (yp hm) hk
 have ow':∀(i:Nat)(x:PV),(qA cap ε2 ε1)[i]?=some (.ow x)->∃ a,σ[i]?=some (some (.ref a))/\(H0 a=none∨a∈S)/\Hs2 a=none/\Top Hs2 H2 a x:=λi x h=>by
  rcases at1 i _ h with ⟨hi,e⟩|⟨j,hj,e⟩
  ·obtain ⟨a,ha,m0,m1,t⟩:=r.ow i x e;refine ⟨a,ha,m0,?_,t.mono q.s1 λo ho=>q.s2 a o (keep i x a hi e ha o ho) yh⟩;cases z:H1 a with
   |none=>exact absurd z t.there
   |some o=>exact q.s4 a (by rw [keep i x a hi e ha o z];exact λw=>nomatch w) m1
  ·obtain ⟨a,ha,m0,m1,t⟩:=q.ow j x e;exact ⟨a,jp hj ha,own0 a (m0.resolve_right yh),m1,t⟩
 have str':∀ a∈S,∃ y,(qA cap ε2 ε1)[0]?=some (.ow y):=λa hS=>st (r.str a hS);refine ⟨r.s1.trans q.s1,λb o e hS=>?_,q.s3,λb h z=>?_,λi x h=>?_,ow',λi j x y a h1 h2 h3 h4=>?_,by rw [QM];exact r.len,r.pin,λb hS=>?_,str',λi x h=>by
  rcases at1 i _ h with ⟨_,e⟩|⟨j,_,e⟩
  ·exact r.nb i x e
  ·exact q.nb j x e⟩
 ·have e1:=r.s2 b o e hS;refine q.s2 b o ?_ yh;cases z:xM (p7 cap σ) (m4 cap ε1) H1 b with
  |some u=>rw [<- e1,(ZT z).1]
  |none =>
   rcases own0 b z with w|w
   ·rw [w] at e;cases e
   ·exact absurd w hS
 ·have z1:=r.s4 b h z;by_cases hL:xM (p7 cap σ) (m4 cap ε1) H1 b=none
  ·rcases own0 b hL with w|w
   ·exact absurd w h
   ·obtain ⟨y,hy⟩:=str' b w;obtain ⟨a,ha,_,m1,_⟩:=ow' 0 y hy;rw [r.pin b w] at ha;injection ha with ha;injection ha with ha;injection ha with ha;rw [ha];exact m1
  ·exact q.s4 b hL z1
 ·rcases at1 i _ h with ⟨hi,e⟩|⟨j,hj,e⟩
  ·obtain ⟨v,hv,rv⟩:=r.sh i x e;exact ⟨v,hv,rv.mono q.s1⟩
  ·obtain ⟨v,hv,rv⟩:=q.sh j x e;exact ⟨v,jp hj hv,rv⟩
 ·rcases at1 i _ h1 with ⟨hi,e⟩|⟨k,hk,e⟩
  ·rcases at1 j _ h2 with ⟨hj,e'⟩|⟨l,hl',e'⟩
   ·exact r.nd i j x y a e e' h3 h4
   ·-- one of the block's own,one that it does not see
    obtain ⟨a',ha',m0,_,_⟩:=q.ow l y e';have ea:=jp hl' ha';rw [h4] at ea;injection ea with ea;injection ea with ea;injection ea with ea;subst ea;obtain ⟨c,hc1,_,_,t⟩:=r.ow i x e;rw [h3] at hc1;injection hc1 with hc1;injection hc1 with hc1;injection hc1 with hc1;subst hc1;cases z:H1 a with
    |none=>exact absurd z t.there
    |some o=>have w:=keep i x a hi e h3 o z;rw [m0.resolve_right yh] at w;cases w
  ·rcases at1 j _ h2 with ⟨hj,e'⟩|⟨l,hl',e'⟩
   ·obtain ⟨a',ha',m0,_,_⟩:=q.ow k x e;have ea:=jp hk ha';rw [h3] at ea;injection ea with ea;injection ea with ea;injection ea with ea;subst ea;obtain ⟨c,hc1,_,_,t⟩:=r.ow j y e';rw [h4] at hc1;injection hc1 with hc1;injection hc1 with hc1;injection hc1 with hc1;subst hc1;cases z:H1 a with
    |none=>exact absurd z t.there
    |some o=>have w:=keep j y a hj e' h4 o z;rw [m0.resolve_right yh] at w;cases w
   ·obtain ⟨a1,ha1,_⟩:=q.ow k x e;obtain ⟨a2,ha2,_⟩:=q.ow l y e';have e1:=jp hk ha1;have e2:=jp hl' ha2;rw [h3] at e1;rw [h4] at e2;injection e1 with e1;injection e1 with e1;injection e1 with e1;injection e2 with e2;injection e2 with e2;injection e2 with e2;subst e1;subst e2;have kl:=q.nd k l x y a e e' ha1 ha2;subst kl;rw [hk] at hl';injection hl' with hl';injection hl' with hl'
 ·obtain ⟨y,hy⟩:=str' b hS;obtain ⟨a,ha,_,_,t⟩:=ow' 0 y hy;rw [r.pin b hS] at ha;injection ha with ha;injection ha with ha;injection ha with ha;rw [ha];exact t.there
instance {cap:List (Option Nat)}{c:WT}{f:W}[si:SemWI wi it][sg:Wd tg ts g][sc:QT tt c][sf:SemW te f]:SemW (wH wi tg tt te cap) (jF cap ts it g c f) where
 h:=λ{ε Q'} h S Hs0 H0 Hs H σ rd Q k=>si.h h rd λxs ε1 J Hs1 H1 h1 rd1 g1 ok=>by
  obtain ⟨hcap,hl,h1⟩:=h1;unfold xy at hcap;rw [ya] at hcap;have hnd:=uV hcap.1;have wk:∀ i∈ts,(p7 cap σ)[i]?=some none:=λi hi=>by
   unfold p7;rw [yO,uV (uU.mp hcap.2 i hi)];rfl
  refine ⟨λn m zs H=>m=xs.length-n/\n<=xs.length/\∃ Hs2 ws ε2,RD [] Hs1 (xM (p7 cap σ) (m4 cap ε1) H1) Hs2 H (p7 cap σ) ε2/\Reps Hs2 ws zs/\ws.length<=n /\
    jG g c f ts (xs.drop n) ws ε2 (λys ε3=>((∃ y:PV,ε1[0]?=some (MSlot.ow y))->∃ y:PV,(qA cap ε3 ε1)[0]?=some (MSlot.ow y))/\Q' (PV.lst ys) (qA cap ε3 ε1)),
   ⟨xs.length,by simp,uZ _,Hs1,[],_,rd1.block hnd,.nil,yS _,h1⟩,?_⟩
  rintro n m zs H2 ⟨rfl,hn,Hs2,ws,ε2,r2,rz,hw,h2⟩;refine ⟨qR (by rw [rz.length];omega),?_⟩;by_cases hlt:n<xs.length
  ·have hd:xs.drop n=xs[n]::xs.drop (n+1):=yb hlt;rw [hd] at h2;obtain ⟨ε3,e3,h3⟩:=h2;obtain ⟨go,yl⟩:=ok.go n xs[n] Hs2 H2 (by simp [hlt]) r2.s1 r2.s3;refine .inr ⟨go,λv H3 y=>?_⟩;obtain ⟨Hs3,x3,r3⟩:=yl v H3 y;refine sg.h e3 (r2.go x3) r3 λσ4 rd4 bt=>⟨bt.wk wk,sc.h h3 rd4 λb ε5 Hs5 H5 h5 rd5 g5=>?_⟩;cases b with
   |true=>refine xC (sf.h (by simpa using h5) rd5 λy ε6 u Hs6 H6 h6 rd6 g6 ru=>⟨xs.length-(n+1),by omega,rfl,hlt,Hs6,ws++[y],_,rd6.reset bt,?_,by rw [yL];simp;omega,h6⟩);exact (rz.mono (x3.s1.trans (g5.trans g6))).snoc ru
   |false=>exact xz ⟨xs.length-(n+1),by omega,rfl,hlt,Hs5,ws,_,rd5.reset bt,rz.mono (x3.s1.trans g5),by omega,by simpa using h5⟩
  ·have en:n=xs.length:=by omega
   subst en;rw [uE] at h2;refine .inl ⟨ok.stop Hs2 H2 r2.s1 r2.s3,λD hD=>?_⟩;have rd2:=rd1.unblock hnd r2 h2.1;exact k _ _ _ _ _ h2.2 (rd2.go (.new rd2.s3 hD)) (g1.trans (r2.s1.trans (Ext.new rd2.s3 hD).s1)) (rep_lst.mpr ⟨D,zs,rfl,y7,rz.mono (Ext.new rd2.s3 hD).s1⟩)
section
variable {P:Program}{w:World}{K:Fg}{mg:Str->Option Value}{base:Heap}
theorem vz {i:Nat}:(xs.map MSlot.sh++List.replicate n .no)[i]?≠some (.ow x):=λh=>by
 by_cases hi:i<xs.length
 ·rw [uJ (by rw [yZ];exact hi),yO] at h;obtain ⟨y,_,z⟩:=yJ.mp h;cases z
 ·rw [uC (by rw [yZ];omega),uz] at h;split at h<;>cases h
theorem JA {i:Nat}:(xs.map MSlot.sh++List.replicate n .no)[i]?≠some (.bo x):=λh=>by
 by_cases hi:i<xs.length
 ·rw [uJ (by rw [yZ];exact hi),yO] at h;obtain ⟨y,_,z⟩:=yJ.mp h;cases z
 ·rw [uC (by rw [yZ];omega),uz] at h;split at h<;>cases h
theorem Lr {a:Addr}{n:Int}(s:Same Hs H)(ha:Hs a=none)(hH:H a=some (.lst [.int n]))(r:Reps Hs xs ws):RD [a] Hs H Hs H (L2.start N (.ref a::ws)) (b9 n::xs.map .sh++List.replicate (N.length-(xs.length+1)) .no):=by
 have q:=zN (N:=N) (xs:= .at (.ref a)::xs) s (.cons (rep_at.mpr rfl) r);have tl:∀(i:Nat)(sl:MSlot),(b9 n::xs.map .sh++List.replicate (N.length-(xs.length+1)) .no)[i+1]?=some sl->((PV.at (.ref a)::xs).map MSlot.sh++List.replicate (N.length-(PV.at (.ref a)::xs).length) .no)[i+1]?=some sl:=λi sl h=>h;refine ⟨.refl _,λb o e _=>e,s,λ_ _ z=>z,λi x h=>?_,λi x h=>?_,λi j x y b h1 h2 _ _=>?_,?_,λb hb=>?_,λb hb=>?_,(λb hb=>⟨_,rfl⟩),λi x h=>by
  cases i with
  |zero=>unfold b9 at h;simp at h
  |succ i=>exact JA (xs:=PV.at (.ref a)::xs) (tl i _ h)⟩
 ·cases i with
  |zero=>unfold b9 at h;simp at h
  |succ i=>exact q.sh (i+1) x (tl i _ h)
 ·cases i with
  |zero=>unfold b9 at h;simp at h;subst h;refine ⟨a,?_,.inr (yP.mpr rfl),ha,_,hH,.one (rep_at.mpr rfl)⟩;unfold L2.start;rfl
  |succ i =>
   obtain ⟨c,h1,_⟩:=q.ow (i+1) x (tl i _ h);exact absurd (tl i _ h) λz=>by
    have:=vz (i:=i+1) (x:=x) (xs:=PV.at (.ref a)::xs) (n:=N.length-(PV.at (.ref a)::xs).length);exact this z
 ·cases i with
  |zero =>
   cases j with
   |zero=>rfl
   |succ j=>exact absurd (tl j _ h2) (vz (xs:=PV.at (.ref a)::xs))
  |succ i=>exact absurd (tl i _ h1) (vz (xs:=PV.at (.ref a)::xs))
 ·exact q.len
 ·rw [yP.mp hb];unfold L2.start;rfl
 ·rw [yP.mp hb,hH];exact λz=>nomatch z
theorem okD {x:Str}{f:Addr}{k:Nat}(F:Fun K x qual st f fd)(S:w9 N ps (j3 st))(hpre:∀ xs,pre xs->xs.length+1=ps.length)(hb:∀(cdv:Value)(A:Around)(outer:List Env)(s:Shared)(H:Hp)(E:XK),Room k (A.deeper (PyProof.Rows.envOfC qual (j3 st) s.heap.objs.size f cdv)) -> ∃ t,PSs (ql v7 P w K mg base N qual (j3 st) f cdv A outer s H E).nox (t9 st) t/\SemWS t b)(hw:∀ xs n,pre xs->b (b9 n::xs.map .sh++List.replicate (N.length-(xs.length+1)) .no) (λ_=>False) λy ε=>R xs y/\zg 0 ε):FnOk P w K mg base v7 (k+1) f fd ps (spD pre R):=by
 refine F.ok S (λvs H Q E h=>?_) (λcdv A outer s H vs Q E hr h=>?_)
 ·obtain ⟨Hs,a,n,xs,ws,rfl,_,_,_,r,hp,_⟩:=h;rw [yC,r.length];exact hpre xs hp
 ·obtain ⟨Hs,a,n,xs,ws,rfl,sm,ha,hH,r,hp,q⟩:=h;obtain ⟨t,ht,sem⟩:=hb cdv A outer s H E hr;refine ⟨t,ht,sem.h (hw xs n hp) (Lr sm ha hH r) (λε σ Hs' H' z _ _=>z.elim) λy ε σ v Hs' H' hR rd g rv=>?_⟩;obtain ⟨hR,n',hn'⟩:=hR;obtain ⟨a',ha',hH',hs',_⟩:=rd.strm_at hn';rw [rd.pin a (yP.mpr rfl)] at ha';injection ha' with ha';injection ha' with ha';injection ha' with ha';subst ha';refine q y v n' Hs' H' hR ⟨g,λb o e hb=>rd.s2 b o e λz=>hb (yP.mp z),rd.s3,λb h z=>rd.s4 b h z⟩ hs' hH' rv
end
def spN (pre:List PV->Prop)(R:List PV->PV->Prop):Sp:=λvs H Q _=>∃ Hs xs,Same Hs H/\Reps Hs xs vs/\pre xs/\∀ y a Hs' H',R xs y->Ext Hs H Hs' H'->H a=none->Hs' a=none->Top Hs' H' a y->Q (.ref a) H'
def spV (pre:List PV->Prop)(R:List PV->PV->Prop):Sp:=λvs H Q _=>∃ Hs xs,Same Hs H/\Reps Hs xs vs/\pre xs/\∀ y v Hs' H',R xs y->Ext Hs H Hs' H'->Rep Hs' y v->Q v H'
def Zj (i:Nat)(pre:List PV->Prop)(R:List PV->PV->Prop)(as:WA):WS:=λε N _=>as ε λxs ε1=>pre xs/\∀ y,R xs y->N (ε1.set i (.ow y))
instance {i:Nat}{as:WA}[sa:jO ta as]:SemWS (zx (xH (spN pre R) [] E ta) (qQ (i+1))) (Zj (i+1) pre R as) where
 h:=λh _ _ _ _ _ _ rd _ k _=>sa.h h rd λxs ε1 vs Hs1 H1 h1 rd1 g1 r1=>by
  refine ⟨Hs1,xs,rd1.s3,by rw [yo];exact r1,h1.1,λy a Hs' H' hR x n n' t=>?_⟩;refine k _ _ _ _ (h1.2 y hR) ((rd1.go x).putO (.inl (rd1.free0 n)) n' t λj z hj e=>?_) (g1.trans x.s1);obtain ⟨b,hb,_,_,tb⟩:=rd1.ow j z hj;rw [e] at hb;injection hb with hb;injection hb with hb;injection hb with hb;subst hb;exact tb.there n
def KG (pre:List PV->Prop)(R:List PV->PV->Prop)(as:WA):W:=λε Q=>as ε λxs ε1=>pre xs/\∀ y,R xs y->Q y ε1
instance {as:WA}[sa:jO ta as]:SemW (xH (spV pre R) [] E ta) (KG pre R as) where
 h:=λh _ _ _ _ _ _ rd _ k=>sa.h h rd λxs ε1 vs Hs1 H1 h1 rd1 g1 r1 =>
  ⟨Hs1,xs,rd1.s3,by rw [yo];exact r1,h1.1,λy v Hs' H' hR x rv=>k y ε1 v Hs' H' (h1.2 y hR) (rd1.go x) (g1.trans x.s1) rv⟩
section
variable {P:Program}{w:World}{K:Fg}{mg:Str->Option Value}{base:Heap}
theorem GL (s:Same Hs H)(r:Reps Hs xs vs):RD [] Hs H Hs H (L2.start N vs) (xs.map .sh++List.replicate (N.length-xs.length) .no):=by have q:=zN (N:=N) s r;exact ⟨.refl _,λb o e _=>e,s,λ_ _ z=>z,q.sh,λi x h=>absurd h vz,q.nd,q.len,(λ_ z=>nomatch z),(λ_ z=>nomatch z),(λ_ z=>nomatch z),λ_ _=>JA⟩
theorem okV {x:Str}{f:Addr}{k:Nat}(F:Fun K x qual st f fd)(S:w9 N ps (j3 st))(hpre:∀ xs,pre xs->xs.length=ps.length)(hb:∀(cdv:Value)(A:Around)(outer:List Env)(s:Shared)(H:Hp)(E:XK),Room k (A.deeper (PyProof.Rows.envOfC qual (j3 st) s.heap.objs.size f cdv)) -> ∃ t,PSs (ql v7 P w K mg base N qual (j3 st) f cdv A outer s H E).nox (t9 st) t/\SemWS t b)(hw:∀ xs,pre xs->b (xs.map .sh++List.replicate (N.length-xs.length) .no) (λ_=>False) λy _=>R xs y):FnOk P w K mg base v7 (k+1) f fd ps (spV pre R):=by
 refine F.ok S (λvs H Q E h=>?_) (λcdv A outer s H vs Q E hr h=>?_)
 ·obtain ⟨Hs,xs,_,r,hp,_⟩:=h;rw [r.length];exact hpre xs hp
 ·obtain ⟨Hs,xs,sm,r,hp,q⟩:=h;obtain ⟨t,ht,sem⟩:=hb cdv A outer s H E hr;refine ⟨t,ht,sem.h (hw xs hp) (GL sm r) (λε σ Hs' H' z _ _=>z.elim) λy ε σ v Hs' H' hR rd g rv=>?_⟩;exact q y v Hs' H' hR ⟨g,λb o e=>rd.s2 b o e yh,rd.s3,rd.s4⟩ rv
def scr (K:Fg)(ns:List Int):PV:= .op λH v=>∃ a,v = .ref a/\SqL K H a (ns.map V.int)
theorem GZ {K:Fg}{ns:List Int}(s:Same Hs H)(r:Rep Hs (scr K ns) v):∃ a,v = .ref a/\SqL K H a (ns.map V.int):=by obtain ⟨H1,s1,a,rfl,q⟩:=rep_op.mp r;exact ⟨a,rfl,(s1.trans s).seq q⟩
def QJ (K:Fg):Sp:=λvs H Q _=>∃(a:Addr)(ns:List Int),vs=[.ref a]/\SqL K H a (ns.map V.int)/\ns.length<=63/\∀ H',Q (.bl true) H'
theorem okL {x:Str}{f:Addr}{k:Nat}(F:Fun K x qual st f fd)(S:w9 N ["script"] (j3 st))(hb:∀ (cdv:Value) (A:Around) (outer:List Env) (s:Shared) (H:Hp) (E:XK),Room k (A.deeper (PyProof.Rows.envOfC qual (j3 st) s.heap.objs.size f cdv)) -> ∃ t,PSs (ql v7 P w K mg base N qual (j3 st) f cdv A outer s H E).nox (t9 st) t/\SemWS t b)(hw:∀ ns:List Int,ns.length<=63->b (.sh (scr K ns)::List.replicate (N.length-1) .no) (λ_=>False) λy _=>y = .at (.bl true)):FnOk P w K mg base v7 (k+1) f fd ["script"] (QJ K):=by
 refine F.ok S (λvs H Q E h=>?_) (λcdv A outer s H vs Q E hr h=>?_)
 ·obtain ⟨a,ns,rfl,_⟩:=h;rfl
 ·obtain ⟨a,ns,rfl,hS,h63,q⟩:=h;obtain ⟨t,ht,sem⟩:=hb cdv A outer s H E hr;have r:Reps H [scr K ns] [.ref a]:= .one (rep_op.mpr ⟨H,.refl _,a,rfl,hS⟩);refine ⟨t,ht,sem.h (hw ns h63) (GL (N:=N) (.refl H) r) (λε σ Hs' H' z _ _=>z.elim) λy ε σ v Hs' H' hR rd g rv=>?_⟩;subst hR;cases rep_at.mp rv;exact q H'
end
variable {fr:Bool}
class QS (tg:TGs)(g:List PV->ME->Option ME):Prop where
 h:∀{xs ε ε'},g xs ε=some ε'->∀{S Hs0 H0 Hs H σ vs},RD S Hs0 H0 Hs H σ ε->Reps Hs xs vs->∀{Q:St->Hp->Prop},(∀ σ',RD S Hs0 H0 Hs H σ' ε'->Q σ' H)->tg vs σ H Q
instance:QS gNil qS where
 h:=λ{xs ε ε'} e {_ _ _ _ _ _ _} rs r {_} q=>by
  unfold qS at e;split at e
  ·cases e;exact ⟨reps_nil.mp r,q _ rs⟩
  ·cases e
instance {t:TG}{u:TGs}{r:List PV->ME->Option ME}[sg:SemWG t g][sr:QS u r]:QS (Xn t u) (m8 g r) where
 h:=λ{xs ε ε'} e {_ _ _ _ _ _ _} rs rr {_} q=>by
  unfold m8 at e;split at e
  ·obtain ⟨ε1,e1,e2⟩:=bind_some e;obtain ⟨v,w,rfl,r1,r2⟩:=reps_cons.mp rr;exact ⟨v,w,rfl,sg.h e1 rs r1 λσ1 rs1=>sr.h e2 rs1 r2 λσ2 rs2=>q _ rs2⟩
  ·cases e
instance {t:TGs}{g:List PV->ME->Option ME}[sg:QS t g]:SemWG (gTup K n t) (qT n g) where
 h:=λ{x ε ε'} e {_ _ _ _ _ _ _} rs rr {_} q=>by
  unfold qT at e;split at e
  ·split at e
   ·rename_i hl;obtain ⟨a,vs,rfl,h,r⟩:=rep_tup.mp rr;exact ⟨a,vs,rfl,SqT.of (rs.s3 _ _ h),by rw [r.length];exact hl,sg.h e rs r λσ' rs'=>q _ rs'⟩
   ·cases e
  ·cases e
class qN (w:W):Prop where
 h:∀{ε:ME}{P P':PV->ME->Prop},(∀ y e,P y e->P' y e)->w ε P->w ε P'
class jL (w:WA):Prop where
 h:∀{ε:ME}{P P':List PV->ME->Prop},(∀ y e,P y e->P' y e)->w ε P->w ε P'
class vH (w:WT):Prop where
 h:∀{ε:ME}{P P':Bool->ME->Prop},(∀ y e,P y e->P' y e)->w ε P->w ε P'
class qX (w:WS):Prop where
 h:∀{ε:ME}{N N':ME->Prop}{R R':PV->ME->Prop},(∀ e,N e->N' e)->(∀ y e,R y e->R' y e)->w ε N R->w ε N' R'
instance {f:M}:qN (wP f) where h:=λk ⟨y,e,q⟩=>⟨y,e,k _ _ q⟩
instance {f:MB}:vH (wPT f) where h:=λk ⟨y,e,q⟩=>⟨y,e,k _ _ q⟩
instance {g:PV->PV->Option PV}{b:W}[A:qN a][B:qN b]:qN (qW g a b) where h:=λk h=>A.h (λ_ _ h1=>B.h (λ_ _ ⟨z,e,q⟩=>⟨z,e,k _ _ q⟩) h1) h
instance:vH ji where h:=λk h=>k _ _ h
theorem ZP {c:Bool}{A B A' B':Prop}(h1:A->A')(h2:B->B')(h:if c=true then A else B):if c=true then A' else B':=by
 cases c with
 |true=>exact xC (h1 (by simpa using h))
 |false=>exact xz (h2 (by simpa using h))
instance:jL qq where h:=λk h=>k _ _ h
instance {r:WA}[A:qN a][B:jL r]:jL (k7 a r) where h:=λk h=>A.h (λ_ _ h1=>B.h (λ_ _ h2=>k _ _ h2) h1) h
instance {i:Nat}[A:qN a]:qN (qr i a) where h:=λk h=>⟨h.1,A.h (λ_ _ ⟨n,m,e1,e2,e3,q⟩=>⟨n,m,e1,e2,e3,k _ _ q⟩) h.2⟩
instance {i:Nat}{a:WA}[A:jL a]:qN (xI i pre R a) where h:=λk h=>⟨h.1,A.h (λ_ _ ⟨h1,h2,h3⟩=>⟨h1,h2,λy n r=>k _ _ (h3 y n r)⟩) h.2⟩
instance {i:Nat}[A:qN a]:qN (wPop i a) where h:=λk h=>⟨h.1,A.h (λ_ _ ⟨xs,j,y,e1,e2,e3,e4,e5,e6,q⟩=>⟨xs,j,y,e1,e2,e3,e4,e5,e6,k _ _ q⟩) h.2⟩
instance {f:MA}:jL (wIp f) where h:=λk ⟨y,e,q⟩=>⟨y,e,k _ _ q⟩
theorem VW {g:MG}{c:WT}{f:W}{ts:List Nat}[C:vH c][F:qN f]{Q Q':List PV->ME->Prop}(k:∀ y e,Q y e->Q' y e):∀(xs ys:List PV)(ε:ME),jG g c f ts xs ys ε Q->jG g c f ts xs ys ε Q'
 |[],ys,ε,h=>k _ _ h
 |x::xs,ys,ε,h=>by
  obtain ⟨ε1,e1,h1⟩:=h;exact ⟨ε1,e1,C.h (λb ε2 h2=>ZP (λh3=>F.h (λy ε3 h4=>VW k xs _ _ h4) h3) (λh3=>VW k xs _ _ h3) h2) h1⟩
instance {cap:List (Option Nat)}{c:WT}{f:W}[I:jL it][C:vH c][F:qN f]:qN (jF cap ts it g c f) where
 h:=λk h=>I.h (λ_ _ ⟨h1,h2,h3⟩=>⟨h1,h2,VW (λ_ _ ⟨q1,q2⟩=>⟨q1,k _ _ q2⟩) _ _ _ h3⟩) h
instance:qX xR where h:=λk _ h=>k _ h
instance {a:WS}[A:qX a][B:qX b]:qX (wSeq a b) where h:=λk r h=>A.h (λ_ h1=>B.h k r h1) r h
instance {i:Nat}[A:qN a]:qX (qb i a) where h:=λk _ h=>A.h (λ_ _ h1=>k _ h1) h
instance {i:Nat}{f:M}:qX (wJ i f) where h:=λk _ ⟨x,e,q⟩=>⟨x,e,k _ q⟩
instance [A:qN a]:qX (xu a) where h:=λ_ r h=>A.h r h
instance {c:WT}{a:WS}[C:vH c][A:qX a][B:qX b]:qX (xt c a b) where h:=λk r h=>C.h (λ_ _ h1=>ZP (λh2=>A.h k r h2) (λh2=>B.h k r h2) h1) h
instance {i:Nat}{a:WS}[A:qX a]:qX (wFz i a) where h:=λk r h=>A.h (ε:=fz i _) k r h
instance {i:Nat}[A:qN a]:qX (vD i a) where h:=λk _ h=>⟨h.1,A.h (λ_ _ ⟨xs,e1,e2,q⟩=>⟨xs,e1,e2,k _ q⟩) h.2⟩
theorem KI {g:MG}{f:WS}[F:qX f]{N N':ME->Prop}{R R':PV->ME->Prop}(k:∀ e,N e->N' e)(r:∀ y e,R y e->R' y e):∀(xs:List PV)(ε:ME),vE g f xs ε N R->vE g f xs ε N' R'
 |[],ε,h=>k _ h
 |x::xs,ε,h=>by
  obtain ⟨ε1,e1,h1⟩:=h;exact ⟨ε1,e1,F.h (λε2 h2=>KI k r xs ε2 h2) r h1⟩
instance {f:WS}[I:jL it][F:qX f]:qX (wFor it g f) where h:=λk r h=>I.h (λ_ _ h1=>KI k r _ _ h1) h
theorem Zu {g:MG}{c:WT}{f:W}{ts:List Nat}{Q:List PV->ME->Prop}[C:vH c][F:qN f](I:List PV->List PV->ME->Prop)(hd:∀ ys ε,I [] ys ε->Q ys ε)(hs:∀ x xs ys ε,I (x::xs) ys ε->∃ ε1,g x ε=some ε1/\c ε1 λb ε2=>if b=true then f ε2 λy ε3=>I xs (ys++[y]) (rst ts ε3) else I xs ys (rst ts ε2)):∀(xs ys:List PV)(ε:ME),I xs ys ε->jG g c f ts xs ys ε Q
 |[],ys,ε,h=>hd ys ε h
 |x::xs,ys,ε,h=>by
  obtain ⟨ε1,e1,h1⟩:=hs x xs ys ε h;exact ⟨ε1,e1,C.h (λb ε2 h2=>ZP (λh3=>F.h (λy ε3 h4=>Zu I hd hs xs _ _ h4) h3) (λh3=>Zu I hd hs xs _ _ h3) h2) h1⟩
theorem QZ {f:W}{Q:List PV->ME->Prop}[F:qN f](I:List PV->List PV->ME->Prop)(hd:∀ ys ε,I [] ys ε->Q ys ε)(hs:∀ x xs ys ε,I (x::xs) ys ε->∃ ε1,g x ε=some ε1/\f ε1 λy ε3=>I xs (ys++[y]) (rst ts ε3))(xs ys:List PV)(ε:ME)(h:I xs ys ε):jG g ji f ts xs ys ε Q :=
 Zu I hd (λx xs ys ε h=>by
  obtain ⟨ε1,e,q⟩:=hs x xs ys ε h;refine ⟨ε1,e,?_⟩;show if true=true then (f ε1 λy ε3=>I xs (ys++[y]) (rst ts ε3)) else I xs ys (rst ts ε1)
  rw [if_pos rfl];exact q) xs ys ε h
theorem ve {g:MG}{f:WS}{N:ME->Prop}{R:PV->ME->Prop}[F:qX f](I:List PV->ME->Prop)(hd:∀ ε,I [] ε->N ε)(hs:∀ x xs ε,I (x::xs) ε->∃ ε1,g x ε=some ε1/\f ε1 (λε2=>I xs ε2) R):∀(xs:List PV)(ε:ME),I xs ε->vE g f xs ε N R
 |[],ε,h=>hd ε h
 |x::xs,ε,h=>by
  obtain ⟨ε1,e1,h1⟩:=hs x xs ε h;exact ⟨ε1,e1,F.h (λε2 h2=>ve I hd hs xs ε2 h2) (λ_ _ z=>z) h1⟩
section
variable {ε ε1:ME}{a b:MS}{f g:M}{x y z:PV}{i:Nat}{o:Option Out}
theorem k9 (h:a ε=some (.nx ε1))(k:b ε1=o):y8 a b ε=o:=by unfold y8;rw [h];exact k
theorem ZE (h:a ε=some (.rt y)):y8 a b ε=some (.rt y):=by unfold y8;rw [h];rfl
theorem qD (h:f ε=some x):i8 i f ε=some (.nx (ε.set i (.sh x))):=by unfold i8;rw [h];rfl
theorem wc (h:f ε=some x):zl i f ε=some (.nx (ε.set i (.ow x))):=by unfold zl;rw [h];rfl
theorem i0 (h:f ε=some x):k8 f ε=some (.rt x):=by unfold k8;rw [h];rfl
theorem w6 {G:PV->PV->Option PV}(h1:f ε=some x)(h2:g ε=some y)(h:G x y=r):z0 G f g ε=r:=by unfold z0;rw [h1];show Option.bind (g ε) _=_;rw [h2];exact h
theorem Ub {G:PV->Option PV}(h1:f ε=some x)(h:G x=r):dUn G f ε=r:=by unfold dUn;rw [h1];exact h
theorem v9 (h1:as ε=some xs)(h:m xs=r):z6 m as ε=r:=by unfold z6;rw [h1];exact h
theorem w4 {r:MA}(h1:f ε=some x)(h2:r ε=some xs):q0 f r ε=some (x::xs):=by unfold q0;rw [h1];show Option.bind (r ε) _=_;rw [h2];rfl
theorem jX (h:c ε=some true)(k:a ε=o):p9 c a b ε=o:=by unfold p9;rw [h];exact k
theorem qC (h:c ε=some false)(k:b ε=o):p9 c a b ε=o:=by unfold p9;rw [h];exact k
theorem jr {it:MA}(h:it ε=some xs)(k:qJ G a xs ε=o):xi it G a ε=o:=by unfold xi;rw [h];exact k
theorem jt (h:as ε=some xs)(hl:xs.length<=lim):o6 as ε=some (.lst xs):=by unfold o6;rw [h];show (if _ then _ else _)=_;rw [if_pos hl]
theorem Qb (h:as ε=some xs)(hl:xs.length<=lim):t6 as ε=some (.tup xs):=by unfold t6;rw [h];show (if _ then _ else _)=_;rw [if_pos hl]
theorem YV {cap:List (Option Nat)}{it:MA}(h:it ε=some xs)(hc:xy cap ts=true)(hl:xs.length<=lim)(k:qm G c f (m4 cap ε) xs=some ys):b8 cap ts it G c f ε=some (.lst ys):=by unfold b8;rw [h];show (if _ then _ else _)=_;rw [if_pos ⟨hc,hl⟩,k];rfl
end
theorem Jj (h:xs.length+ys.length<=lim):qt (.lst xs) (.lst ys)=some (.lst (xs++ys)):=by show (if _ then _ else _)=_;rw [if_pos h]
theorem wa {k:Nat}{b:MS}(hl:xs.length=k)(h:b (xs.map .sh++List.replicate (n-k) .no)=some (.rt y)):zk n k b xs=some y:=by unfold zk;rw [if_pos hl,h];rfl
theorem i9 {k:Nat}{b:MS}(hl:xs.length=k)(h:b (xs.map .sh++List.replicate (n-k) .no)=some (.rt y)):b7 n k b xs=some y:=by unfold b7;rw [if_pos hl,h];rfl
theorem Jq {f:PV->PV->Option Bool}:∀{xs:List PV},(∀ x∈xs,f x x=some true)->zr f xs xs=some true
 |[],_=>rfl
 |x::xs,h=>by unfold zr;rw [h x yQ];show Option.bind (zr f xs xs) _=_;rw [Jq λy hy=>h y (yR _ hy)];rfl
def wB:Nat->PV->Prop
 |_,.at u=>k6 u=true
 |n+1,.lst xs=>∀ x∈xs,wB n x
 |n+1,.tup xs=>∀ x∈xs,wB n x
 |_,_=>False
theorem XU:∀(n:Nat){x:PV},wB n x->peq n x x=some true
 |0,x,h=>by
  cases x with
  |«at» u=>show (if _ then _ else _)=_;rw [if_pos ⟨h,h⟩,Xh h]
  |_=>exact h.elim
 |n+1,x,h=>by
  cases x with
  |«at» u=>show (if _ then _ else _)=_;rw [if_pos ⟨(show k6 u=true from h),h⟩,Xh h]
  |lst xs=>show (if _ then _ else _)=_;rw [if_pos rfl];exact Jq λy hy=>XU n (h y hy)
  |tup xs=>show Option.bind (zr (peq n) xs xs) _=_;rw [Jq λy hy=>XU n (h y hy)];show some (true&&(xs.length==xs.length))=_;rw [beq_self_eq_true];rfl
  |_=>exact h.elim
theorem Mn (h:wB 6 x):qi x x=some (.at (.bl true)):=by unfold qi;rw [XU 6 h];rfl
theorem Jk (h:wB 6 x):pNe x x=some (.at (.bl false)):=by unfold pNe;rw [XU 6 h];rfl
class zS (K:Fg)(C:Addr):Prop where
 c:Cls K C
class NoA (K:Fg)(C:Addr)(f:Str):Prop where
 n:NoAttr K C f
def wn (f:Str):List Str->List PV->Option PV
 |n::ns,x::xs=>if f=n then some x else wn f ns xs
 |_,_=>none
theorem UI {H:Hp}{f:Str}{y:PV}:∀{fs:List (Str×V)}{xs:List PV},Reps H xs (fs.map (·.2))->wn f (fs.map (·.1)) xs=some y->∃ v,fs.lookup f=some v/\Rep H y v
 |[],xs,r,h=>by cases xs<;>cases h
 |p::fs,xs,r,h=>by
  cases xs with
  |nil=>cases h
  |cons x xs =>
   obtain ⟨v,w,e,p1,p2⟩:=reps_cons.mp r;rw [yK] at e;injection e with e1 e2;subst e1 e2;rw [yK] at h;unfold wn at h;rw [uX];split at h
   ·rename_i hf;cases h;rw [hf,beq_self_eq_true];exact ⟨p.2,rfl,p1⟩
   ·rename_i hf;rw [beq_eq_false_iff_ne.mpr hf];exact UI p2 h
def zX (C:Addr)(f:Str)(a:M):M:=λε=>(a ε).bind λx=>match x with
 | .ob C' ns xs=>if C'=C then wn f ns xs else none
 |_=>none
theorem BJ {a:M}(h:zX C f a ε=some y):∃ ns xs,a ε=some (.ob C ns xs)/\wn f ns xs=some y:=by
 unfold zX at h;obtain ⟨x,ex,h1⟩:=bind_some h;split at h1
 ·split at h1
  ·rename_i hc;subst hc;exact ⟨_,_,ex,h1⟩
  ·cases h1
 ·cases h1
instance {a:M}[c:zS K C][n:NoA K C f][s:i7 te a]:SemE (tFld K te f) (zX C f a) where
 h:=λe _ _ _ _ _ rs _ q=>by
  obtain ⟨ns,xs,ea,el⟩:=BJ e;refine s.h ea rs λv Hs1 H1 x1 r1=>?_;obtain ⟨p,dx,fs,rfl,hp,hk,hr⟩:=GQ x1.s3 r1;rw [<- hk] at el;obtain ⟨u,hu,ru⟩:=UI hr el;exact ⟨p,C,dx,fs,u,rfl,hp,c.c,n.n,hu,q u _ _ x1 ru⟩
theorem XQ {ta:TE}(hK:X.K=K)(he:PE X e ta)(hb:attributeBase e f X.env (eval e X.env)=eval e X.env:=by rfl):PE X (.Attribute e f pos) (tFld K ta f):=by subst hK;exact Mv he hb
structure Mt (P:Program)(w:World)(K:Fg)(mg:Str->Option Value)(base:Heap)(k:Nat)(C:Addr)(m:Str)(ps:List Str)(sp:Sp):Prop where
 ex:∃ f fd,FnOk P w K mg base v7 k f fd ps sp/\wS K C m f/\Cls K C/\Binds K fd ps []
section
variable {X:Cx}{k j:Nat}{C:Addr}{m:Str}{ps:List Str}{sp:Sp}{o e:Expr}{es:List Expr}{ta:TE}{t:TA}{apos pos:Pos}
theorem Gf (c:Mt X.prog X.w X.K X.mg X.base k C m ps sp)(hr:Room j X.A)(hj:k<=j)(ho:PE X o ta)(ha:PA X (e::es) t)
  (hst:starEach (e::es) X.env=(false,eval e X.env)::starEach es X.env:=by rfl) (hpl:(backTo pos (starEach es X.env)).any (·.1)=false:=by rfl)
  (ht:eval (.Call (.Attribute o m apos) (e::es) [] pos) X.env=(do
   let ov <- eval o X.env
   standAt apos.atName
   let (f,first) <- holding [ov] (getMethod ov m pl)
   callWith pos f first (backTo pos (starEach (e::es) X.env)) (backToKw pos (keywordEach [] X.env))):=by rfl) :
  PE X (.Call (.Attribute o m apos) (e::es) [] pos) (vC C m sp [] E0 ta t):=by
 obtain ⟨f,fd,F,hm,hc,hb⟩:=c.ex;exact Mx ho hc hm F (hr.mono hj) hb .nil XO ha hst hpl ht
theorem XS (c:Mt X.prog X.w X.K X.mg X.base k C m ps sp)(hr:Room j X.A)(hj:k<=j)(ho:PE X o ta)
  (ht:eval (.Call (.Attribute o m apos) [] [] pos) X.env=(do
   let ov <- eval o X.env
   standAt apos.atName
   let (f,first) <- holding [ov] (getMethod ov m pl)
   callWith pos f first (backTo pos (starEach [] X.env)) (backToKw pos (keywordEach [] X.env))):=by rfl) :
  PE X (.Call (.Attribute o m apos) [] [] pos) (vC C m sp [] E0 ta qa):=by
 obtain ⟨f,fd,F,hm,hc,hb⟩:=c.ex;exact My ho hc hm F (hr.mono hj) hb .nil XO ht
end
variable {fr:Bool}
def zo:PV->Option j4
 | .at (.int i)=>some (.inl i)
 | .at (.str x)=>some (.inr x)
 |_=>none
theorem ju {k:j4}(r:RepB Hs H x v)(h:zo x=some k):v=kV k:=by
 unfold zo at h;split at h
 ·cases h;cases p0 r;rfl
 ·cases h;cases p0 r;rfl
 ·cases h
def qF (k:j4):List j4->List PV->Option PV
 |n::ns,x::xs=>if n=k then some x else qF k ns xs
 |_,_=>none
theorem Xr {H:Hp}{k:j4}:∀{kvs:List (j4×V)}{xs:List PV},Reps H xs (kvs.map (·.2))->match qF k (kvs.map (·.1)) xs with
  |some y=>∃ v,o5 kvs k=some v/\Rep H y v
  |none=>o5 kvs k=none
 |[],xs,r=>by
  have hx:xs=[]:=uy.mp r.length.symm;subst hx;rfl
 |p::kvs,xs,r=>by
  cases xs with
  |nil=>have:=r.length;simp at this
  |cons x xs =>
   obtain ⟨v,w,e,p1,p2⟩:=reps_cons.mp r;rw [yK] at e;injection e with e1 e2;subst e1 e2;rw [yK];unfold qF;by_cases hk:p.1=k
   ·rw [if_pos hk];refine ⟨p.2,?_,p1⟩;unfold o5;rw [uP,yz hk];rfl
   ·rw [if_neg hk];have ih:=Xr (k:=k) p2;have ev:o5 (p::kvs) k=o5 kvs k:=by unfold o5;rw [uP,yH hk]
    rw [ev];exact ih
def Xc (a b:M):M:=λε=>(a ε).bind λx=>(b ε).bind λy=>(zo y).bind λk=>match x with
 | .dk ks xs=>qF k ks xs
 | .fk ks xs=>qF k ks xs
 |_=>none
instance {ty:TE}{a b:M}[sa:i7 td a][sb:i7 ty b]:SemE (Kj td ty) (Xc a b) where
 h:=λe _ _ _ _ _ rs _ q=>by
  obtain ⟨x,ex,e1⟩:=bind_some e;obtain ⟨y,ey,e2⟩:=bind_some e1;obtain ⟨k,ek,e3⟩:=bind_some e2;split at e3
  ·refine sa.h ex rs λv Hs1 H1 x1 r1=>sb.h ey (rs.go x1) λw Hs2 H2 x2 r2=>?_;obtain ⟨p,kvs,rfl,hp,hk,hr⟩:=jC x2.s3 (r1.ext x2);have l:=Xr (k:=k) hr;rw [hk,e3] at l;obtain ⟨u,hu,ru⟩:=l;have ew:=ju r2 ek;subst ew;exact ⟨p,u,rfl,by rw [<- hu];exact DGet.k hp,q u _ _ (x1.trans x2) ru⟩
  ·refine sa.h ex rs λv Hs1 H1 x1 r1=>sb.h ey (rs.go x1) λw Hs2 H2 x2 r2=>?_;obtain ⟨p,o,kvs,rfl,hp,hk,hr⟩:=QG x2.s3 (r1.ext x2);have l:=Xr (k:=k) hr;rw [hk,e3] at l;obtain ⟨u,hu,ru⟩:=l;have ew:=ju r2 ek;subst ew;exact ⟨p,u,rfl,by rw [<- hu];exact .inl ⟨kvs,k,.inr ⟨o,hp⟩,rfl,rfl⟩,q u _ _ (x1.trans x2) ru⟩
  ·cases e3
def dDIn (b a:M):M:=λε=>(b ε).bind λy=>(a ε).bind λx=>(zo y).bind λk=>match x with
 | .dk ks xs=>some (.at (.bl (qF k ks xs).isSome))
 | .fk ks xs=>some (.at (.bl (qF k ks xs).isSome))
 |_=>none
def Xd (b a:M):M:=λε=>(b ε).bind λy=>(a ε).bind λx=>(zo y).bind λk=>match x with
 | .dk ks xs=>some (.at (.bl (!(qF k ks xs).isSome)))
 | .fk ks xs=>some (.at (.bl (!(qF k ks xs).isSome)))
 |_=>none
theorem Qh {k:j4}{kvs:List (j4×V)}(r:Reps H xs (kvs.map (·.2))):(qF k (kvs.map (·.1)) xs).isSome=(o5 kvs k).isSome:=by
 have l:=Xr (k:=k) r;cases e:qF k (kvs.map (·.1)) xs with
 |none=>rw [e] at l;rw [show o5 kvs k=none from l];rfl
 |some y=>rw [e] at l;obtain ⟨v,hv,_⟩:=l;rw [hv];rfl
instance {ty:TE}{a b:M}[sa:i7 td a][sb:i7 ty b]:SemE (tDIn ty td) (dDIn b a) where
 h:=λe _ _ _ _ _ rs _ q=>by
  obtain ⟨y,ey,e1⟩:=bind_some e;obtain ⟨x,ex,e2⟩:=bind_some e1;obtain ⟨k,ek,e3⟩:=bind_some e2;split at e3
  ·cases e3;refine sb.h ey rs λw Hs1 H1 x1 r1=>sa.h ex (rs.go x1) λv Hs2 H2 x2 r2=>?_;obtain ⟨p,kvs,rfl,hp,hk,hr⟩:=jC x2.s3 r2;have ew:=ju r1 ek;subst ew;exact ⟨p,_,rfl,DGet.k hp,q _ _ _ (x1.trans x2) (rep_at.mpr (by rw [<- hk,Qh hr]))⟩
  ·cases e3;refine sb.h ey rs λw Hs1 H1 x1 r1=>sa.h ex (rs.go x1) λv Hs2 H2 x2 r2=>?_;obtain ⟨p,o,kvs,rfl,hp,hk,hr⟩:=QG x2.s3 r2;have ew:=ju r1 ek;subst ew;exact ⟨p,_,rfl,.inl ⟨kvs,_,.inr ⟨o,hp⟩,rfl,rfl⟩,q _ _ _ (x1.trans x2) (rep_at.mpr (by rw [<- hk,Qh hr]))⟩
  ·cases e3
instance {ty:TE}{a b:M}[sa:i7 td a][sb:i7 ty b]:SemE (Kl ty td) (Xd b a) where
 h:=λe _ _ _ _ _ rs _ q=>by
  obtain ⟨y,ey,e1⟩:=bind_some e;obtain ⟨x,ex,e2⟩:=bind_some e1;obtain ⟨k,ek,e3⟩:=bind_some e2;split at e3
  ·cases e3;refine sb.h ey rs λw Hs1 H1 x1 r1=>sa.h ex (rs.go x1) λv Hs2 H2 x2 r2=>?_;obtain ⟨p,kvs,rfl,hp,hk,hr⟩:=jC x2.s3 r2;have ew:=ju r1 ek;subst ew;exact ⟨p,_,rfl,DGet.k hp,q _ _ _ (x1.trans x2) (rep_at.mpr (by rw [<- hk,Qh hr]))⟩
  ·cases e3;refine sb.h ey rs λw Hs1 H1 x1 r1=>sa.h ex (rs.go x1) λv Hs2 H2 x2 r2=>?_;obtain ⟨p,o,kvs,rfl,hp,hk,hr⟩:=QG x2.s3 r2;have ew:=ju r1 ek;subst ew;exact ⟨p,_,rfl,.inl ⟨kvs,_,.inr ⟨o,hp⟩,rfl,rfl⟩,q _ _ _ (x1.trans x2) (rep_at.mpr (by rw [<- hk,Qh hr]))⟩
  ·cases e3
def YI:M:=λ_=>some (.dk [] [])
instance:xw Kk YI where
 h:=λe _ _ _ _ _ rs _ q=>by
  cases e;exact λp hp=>q p _ _ (.newO rs.sub hp) hp (rs.sub.free hp) ⟨[],y7,rfl,.nil⟩
def QF (k:j4)(y:PV):List j4->List PV->List PV
 |n::ns,x::xs=>if n=k then y::QF k y ns xs else x::QF k y ns xs
 |_,xs=>xs
def XZ (k:j4)(y:PV)(ks:List j4)(xs:List PV):PV:=if (qF k ks xs).isSome=true then .dk ks (QF k y ks xs) else .dk (ks++[k]) (xs++[y])
theorem Gu {H:Hp}{k:j4}{y:PV}{v:V}(ry:Rep H y v):∀{kvs:List (j4×V)}{xs:List PV},Reps H xs (kvs.map (·.2))->Reps H (QF k y (kvs.map (·.1)) xs) ((kvs.map (λkv=>if kv.1=k then (kv.1,v) else kv)).map (·.2))/\(kvs.map (λkv=>if kv.1=k then (kv.1,v) else kv)).map (·.1)=kvs.map (·.1)
 |[],xs,r=>by
  have hx:xs=[]:=uy.mp r.length.symm;subst hx;exact ⟨.nil,rfl⟩
 |p::kvs,xs,r=>by
  cases xs with
  |nil=>have:=r.length;simp at this
  |cons x xs =>
   obtain ⟨u,w,e,p1,p2⟩:=reps_cons.mp r;rw [yK] at e;injection e with e1 e2;subst e1 e2;obtain ⟨h1,h2⟩:=Gu (k:=k) ry p2;rw [yK,yK,yK,yK];unfold QF;by_cases hk:p.1=k
   ·rw [if_pos hk,if_pos hk];exact ⟨.cons ry h1,by rw [h2]⟩
   ·rw [if_neg hk,if_neg hk];exact ⟨.cons p1 h1,by rw [h2]⟩
def dPut (i:Nat)(kk vv:M):MS:=λε=>(vv ε).bind λy=>(kk ε).bind λx=>(zo x).bind λk=>match ε[i]? with
 |some (.ow (.dk ks xs))=>if ks.length<=lim then some (.nx (ε.set i (.ow (XZ k y ks xs)))) else none
 |_=>none
instance {i:Nat}{ty:TE}{kk vv:M}[sk:SemE ty kk][sv:SemE tv vv]:n8 fr (GY (o4 i) ty tv) (dPut i kk vv) where
 h:=λe _ _ _ _ _ rs _ q=>by
  obtain ⟨y,ey,e1⟩:=bind_some e;obtain ⟨x,ex,e2⟩:=bind_some e1;obtain ⟨k,ek,e3⟩:=bind_some e2;split at e3
  ·rename_i ks xs hi;split at e3
   ·rename_i hl;cases e3;refine sv.h ey rs λv Hs1 H1 x1 r1=>?_;obtain ⟨p,hp,n0,n,t⟩:=(rs.go x1).ow i _ hi;refine ⟨_,hp,sk.h ex (rs.go x1) λw Hs2 H2 x2 r2=>?_⟩;obtain ⟨p',hp',_,n2,kvs,hv,hk,hr⟩:=((rs.go x1).go x2).ow i _ hi;rw [hp] at hp';injection hp' with hp';injection hp' with hp';injection hp' with hp';subst hp';have ew:=ju (.inl r2:RepB Hs2 H2 x w) ek;subst ew;have hlen:kvs.length<=lim:=by rw [<- hk,yZ] at hl;exact hl
    refine ⟨p,_,rfl,DPut.k hv (Qg hlen),q _ _ _ (((rs.go x1).go x2).change hi hp ?_)⟩;have hs:=Qh (k:=k) hr;unfold XZ zc;rw [VS,<- hs,hk];by_cases hc:(qF k ks xs).isSome=true
    ·rw [if_pos hc,if_pos hc];obtain ⟨q1,q2⟩:=Gu (k:=k) (r1.mono x2.s1) hr;exact ⟨_,y7,by rw [q2,hk],by rw [<- hk];exact q1⟩
    ·rw [if_neg hc,if_neg hc];exact ⟨_,y7,by rw [yw,hk];rfl,by rw [yw];exact hr.append (.one (r1.mono x2.s1))⟩
   ·cases e3
  ·cases e3
def rLeS:R2:=λx y H Q=>∃ i j,x = .str i/\y = .str j/\Q (.bl (!decide (j.cps.toList<i.cps.toList))) H
theorem Gc :OpR X (compareOp .LtE) rLeS:=Mf
def pLeS:PV->PV->Option PV
 | .at (.str i),.at (.str j)=>some (.at (.bl (!decide (j.cps.toList<i.cps.toList))))
 |_,_=>none
instance:xx rLeS pLeS where
 h:=λ{x y z} e {Hs H v w} s a b {Q} q=>by
  unfold pLeS at e;split at e
  ·cases e;cases p0 a;cases p0 b;exact ⟨_,_,rfl,rfl,q _ _ _ (.refl s) (rep_at.mpr rfl)⟩
  ·cases e
def QI (z:Str):List PV:=z.cps.toList.map λc=> .at (.str ⟨#[c]⟩)
def dItS (a:M):MA:=λε=>(a ε).bind λx=>match x with
 | .at (.str z)=>some (QI z)
 |_=>none
theorem Cd {z:Str}:jK (ItS z) (QI z) Hs where
 go:=λi x Hs1 H1 e g1 g2=>by
  unfold QI at e;rw [yO] at e;obtain ⟨c,hc,rfl⟩:=yJ.mp e;rw [Array.getElem?_toList] at hc;have hl:i<z.cps.size:=(uM.mp hc).1;refine ⟨hl,λv H2 y=>?_⟩;obtain ⟨rfl,c',hc',rfl⟩:=y;rw [hc] at hc';cases hc';exact ⟨Hs1,.refl g2,rep_at.mpr rfl⟩
 stop:=λHs1 H1 g1 g2=>by
  show (QI z).length=z.cps.size;unfold QI;rw [yZ,Array.length_toList]
instance {a:M}[sa:SemE te a]:zA (iStr te) (dItS a) where
 h:=λe _ _ _ _ _ rs _ q=>by
  obtain ⟨x,ex,e1⟩:=bind_some e;split at e1
  ·cases e1;exact sa.h ex rs λv Hs1 H1 x1 r1=>⟨_,rep_at.mp r1,q _ _ _ x1 Cd⟩
  ·cases e1
theorem Gs {f:Str}{v:V}:∀{fs:List (Str×V)},f∉fs.map (·.1)->qV f v fs=fs++[(f,v)]
 |[],_=>rfl
 |(g,x)::r,h=>by
  rw [yK] at h;unfold qV;rw [if_neg (show ¬ g=f from λz=>h (by rw [<- z];exact yQ)),Gs λz=>h (yR _ z)];rfl
def KK (C:Addr)(f:Str)(a:W):WS:=λε N _=>a ε λy ε1=>∃ ns xs,ε1[0]?=some (.ow (.ob C ns xs))/\f∉ns/\ns.length<1000/\N (ε1.set 0 (.ow (.ob C (ns++[f]) (xs++[y]))))
instance [c:zS K C][n:NoA K C f][sa:SemW te a]:SemWS (QH K (o4 0) te f) (KK C f a) where
 h:=λh _ _ _ _ _ _ rd _ k _=>sa.h h rd λy ε1 v Hs1 H1 h1 rd1 g1 r1=>by
  obtain ⟨ns,xs,he,hf,hl,h2⟩:=h1;obtain ⟨p,hp,h0,hs,dx,fs,hH,hk,hr⟩:=rd1.ow 0 _ he;have hf':f∉fs.map (·.1):=by rw [hk];exact hf
  have hl':fs.length<1000:=by rw [<- yZ (f:=(·.1)),hk];exact hl
  refine ⟨_,hp,p,C,dx,fs,rfl,hH,c.c,n.n,hl',?_⟩;rw [Gs hf'];exact k _ _ _ _ h2 (rd1.change he hp ⟨dx,_,y7,by rw [yw,hk];rfl,by rw [yw];exact hr.append (.one r1)⟩) g1
def vU (C:Addr)(nm:Str)(m:List PV->Option PV)(i:Nat)(as:MA):M:=λε=>match ε[i]? with
 |some (.ow (.ob C' ns fs))=>if C'=C/\nm∉ns then (as ε).bind λxs=>(m (.ob C ns fs::xs)).bind λy=>match y with
  | .at u=>some (.at u)
  |_=>none else none
 |_=>none
instance {i:Nat}[sa:qY ta as]:SemE (vC C nm (v8 m) [] E (o4 i) ta) (vU C nm m i as) where
 h:=λ{ε y} e {Hs0 H0 Hs H σ} rs {Q} q=>by
  unfold vU at e;split at e
  ·rename_i C' ns fs hi;split at e
   ·rename_i hc;obtain ⟨rfl,hn⟩:=hc;obtain ⟨xs,ex,e1⟩:=bind_some e;obtain ⟨z,ez,e2⟩:=bind_some e1;split at e2
    ·rename_i u;cases e2;obtain ⟨p,hp,n0,n,dx,gs,hH,hk,hr⟩:=rs.ow i _ hi;refine ⟨_,hp,p,dx,gs,rfl,hH,ZU (by rw [hk];exact hn),sa.h ex rs λvs Hs1 H1 x1 r1=>?_⟩;have hH1:=x1.s2 _ _ hH;have n1:Hs1 p=none:=x1.s4 p (by rw [hH];exact λz=>nomatch z) n;have g:Same Hs1 (z8 Hs1 p (.ins C' dx gs)):=λb w e=>by rw [z9 (p5 e n1)];exact e
     refine ⟨z8 Hs1 p (.ins C' dx gs),_,_,?_,?_,ez,λv Hs' H' x r=>?_⟩
     ·intro b w e;by_cases hb:b=p
      ·subst hb;rw [y7] at e;cases e;exact hH1
      ·rw [z9 hb] at e;exact x1.s3 _ _ e
     ·rw [yo];exact .cons (rep_ob.mpr ⟨p,dx,gs,rfl,y7,hk,(hr.mono x1.s1).mono g⟩) (r1.mono g)
     ·cases rep_at.mp r;refine q _ (λb=>if b=p then none else Hs' b) H' (x1.trans ⟨λb w e=>?_,x.s2,λb w e=>?_,λb hb w=>?_⟩) (rep_at.mpr rfl)
      ·rw [if_neg (p5 e n1)];exact x.s1 _ _ (g _ _ e)
      ·split at e
       ·cases e
       ·exact x.s3 _ _ e
      ·by_cases hbp:b=p
       ·rw [if_pos hbp]
       ·rw [if_neg hbp];exact x.s4 b hb (by rw [z9 hbp];exact w)
    ·cases e2
   ·cases e
  ·cases e
def spI (C:Addr)(m:List PV->Option PV):Sp:=λvs H Q _=>∃ Hs x dx xs ws y,vs = .ref x::ws/\Same Hs H/\H x=some (.ins C dx [])/\Hs x=none/\Reps Hs xs ws/\m xs=some y /\
 ∀ Hs' H',Same Hs Hs'->(∀ b o,H b=some o->b≠x->H' b=some o)->Same Hs' H'->(∀ b,H b≠none->b≠x->Hs b=none->Hs' b=none)->Rep Hs' y (.ref x)->Q .non H'
instance {ds:List V}[sa:qY ta as]:SemE (QK C (spI C m) ds E ta) (Zv m ds as) where
 h:=λe _ _ _ _ _ rs _ q=>by
  obtain ⟨xs,ex,e1⟩:=bind_some e;refine sa.h ex rs λvs Hs1 H1 x1 r1=>λx dx hx hdx hne=>?_;have s3:Same Hs1 (z8 (z8 H1 dx (.own x)) x (.ins C dx [])):=λb o e=>by
   have e':=x1.s3 _ _ e;rw [z9 (p5 e' hx),z9 (p5 e' hdx)];exact e'
  refine ⟨Hs1,x,dx,_,_,_,rfl,s3,y7,x1.s3.free hx,r1.append (.ofAts ds),e1,λHs' H' g1 g2 g3 g4 r=>⟨rfl,q _ _ _ (x1.trans ⟨g1,λb o e=>?_,g3,λb hb z=>?_⟩) r⟩⟩
  ·refine g2 b o ?_ (p5 e hx);rw [z9 (p5 e hx),z9 (p5 e hdx)];exact e
  ·have hbx:b≠x:=λw=>hb (by rw [w];exact hx);have hbd:b≠dx:=λw=>hb (by rw [w];exact hdx);exact g4 b (by rw [z9 hbx,z9 hbd];exact hb) hbx z
section
variable {P:Program}{w:World}{K:Fg}{mg:Str->Option Value}{base:Heap}
theorem Ls {a:Addr}(s:Same Hs H)(ha:Hs a=none)(t:Top Hs H a y)(r:Reps Hs xs ws):RD [a] Hs H Hs H (L2.start N (.ref a::ws)) (.ow y::xs.map .sh++List.replicate (N.length-(xs.length+1)) .no):=by
 have q:=zN (N:=N) (xs:= .at (.ref a)::xs) s (.cons (rep_at.mpr rfl) r);have tl:∀(i:Nat)(sl:MSlot),(MSlot.ow y::xs.map .sh++List.replicate (N.length-(xs.length+1)) .no)[i+1]?=some sl->((PV.at (.ref a)::xs).map MSlot.sh++List.replicate (N.length-(PV.at (.ref a)::xs).length) .no)[i+1]?=some sl:=λi sl h=>h;refine ⟨.refl _,λb o e _=>e,s,λ_ _ z=>z,λi x h=>?_,λi x h=>?_,λi j x y b h1 h2 _ _=>?_,?_,λb hb=>?_,λb hb=>?_,(λb hb=>⟨_,rfl⟩),λi x h=>by
  cases i with
  |zero=>simp at h
  |succ i=>exact JA (xs:=PV.at (.ref a)::xs) (tl i _ h)⟩
 ·cases i with
  |zero=>simp at h
  |succ i=>exact q.sh (i+1) x (tl i _ h)
 ·cases i with
  |zero=>simp at h;subst h;exact ⟨a,by unfold L2.start;rfl,.inr (yP.mpr rfl),ha,t⟩
  |succ i=>exact absurd (tl i _ h) (vz (xs:=PV.at (.ref a)::xs))
 ·cases i with
  |zero =>
   cases j with
   |zero=>rfl
   |succ j=>exact absurd (tl j _ h2) (vz (xs:=PV.at (.ref a)::xs))
  |succ i=>exact absurd (tl i _ h1) (vz (xs:=PV.at (.ref a)::xs))
 ·exact q.len
 ·rw [yP.mp hb];unfold L2.start;rfl
 ·rw [yP.mp hb];exact t.there
end
variable {fr:Bool}
structure ItOkB (J:It)(xs:List PV)(Hs H:Hp):Prop where
 go:∀(i:Nat)(x:PV)(Hs1 H1:Hp),xs[i]?=some x->Same Hs Hs1->Same H H1->Same Hs1 H1->J.go i H1/\∀ v H2,J.yld i H1 v H2->∃ Hs2,Ext Hs1 H1 Hs2 H2/\Rep Hs2 x v
 stop:∀(Hs1 H1:Hp),Same Hs Hs1->Same H H1->Same Hs1 H1->J.stop xs.length H1
class Wc (ti:TI)(f:MA):Prop where
 h:∀{ε xs},f ε=some xs->∀{Hs0 H0 Hs H σ},RS Hs0 H0 Hs H σ ε->∀{R:It->Hp->Prop},(∀ J Hs' H',Ext Hs H Hs' H'->ItOkB J xs Hs' H'->R J H')->ti σ H R
instance {a:M}[sa:i7 te a]:Wc (Xo K te) (y9 a) where
 h:=λe _ _ _ _ _ rs _ q=>by
  obtain ⟨x,ex,e1⟩:=bind_some e;split at e1
  ·cases e1;refine sa.h ex rs λv Hs1 H1 x1 r1=>?_;obtain ⟨p,vs,rfl,hp,r⟩:=qd x1.s3 r1;refine ⟨p,rfl,⟨vs,SqL.of hp⟩,q _ _ _ x1 ⟨λi x Hs2 H2 ei g1 g2 g3=>?_,λHs2 H2 g1 g2 g3=>⟨vs,SqL.of (g2 _ _ hp),by rw [r.length];exact yS _⟩⟩⟩;obtain ⟨v,ev,rv⟩:=r.get ei;refine ⟨⟨vs,v,SqL.of (g2 _ _ hp),ev⟩,λw H3 y=>?_⟩;obtain ⟨rfl,y⟩:=y;have z:=y vs (SqL.of (g2 _ _ hp));rw [ev] at z;cases z;exact ⟨Hs2,.refl g3,rv.mono g1⟩
  ·cases e1
def jV (cap:List (Option Nat))(ts:List Nat)(i:MA)(g:MG)(c:MB)(f:M):M:=λε=>(i ε).bind λxs=>if xy cap ts=true/\xs.length<=lim then (qm g c f (m4 cap ε) xs).bind λys=>some (.lst ys) else none
instance {cap:List (Option Nat)}{i:MA}{f:M}[si:Wc wi i][sg:jm tg ts g][sc:qI tt c][sf:SemE te f]:xw (wH wi tg tt te cap) (jV cap ts i g c f) where
 h:=λe Hs0 H0 Hs H σ rs Q q=>by
  obtain ⟨xs,ex,e1⟩:=bind_some e;split at e1
  ·rename_i hcl;obtain ⟨hcap,hl⟩:=hcl;unfold xy at hcap;rw [ya] at hcap;obtain ⟨ys,ey,e2⟩:=bind_some e1;cases e2;refine si.h ex rs λJ Hs1 H1 x1 ok=>?_;have rc:=((rs.go x1).cap (uV hcap.1)).rebase;have wk:∀ i∈ts,(p7 cap σ)[i]?=some none:=λi hi=>by
    unfold p7;rw [yO,uV (uU.mp hcap.2 i hi)];rfl
   refine ⟨λk m zs H=>m=xs.length-k/\k<=xs.length/\∃ Hs2 ws,Ext Hs1 H1 Hs2 H/\RS Hs1 H0 Hs2 H (p7 cap σ) (m4 cap _)/\Reps Hs2 ws zs/\ws.length<=k/\∃ rest,qm g c f (m4 cap _) (xs.drop k)=some rest/\ys=ws++rest,
    ⟨xs.length,by simp,uZ _,Hs1,[],.refl x1.s3,rc,.nil,yS _,ys,ey,rfl⟩,?_⟩
   rintro k m zs H2 ⟨rfl,hk,Hs2,ws,x2,r2,rz,hw,rest,er,eys⟩;refine ⟨qR (by rw [rz.length];omega),?_⟩;by_cases hlt:k<xs.length
   ·have hd:xs.drop k=xs[k]::xs.drop (k+1):=yb hlt;rw [hd] at er;unfold qm at er;obtain ⟨ε1,eg,er1⟩:=bind_some er;obtain ⟨b,eb,er2⟩:=bind_some er1;obtain ⟨go,yl⟩:=ok.go k xs[k] Hs2 H2 (by simp [hlt]) x2.s1 x2.s2 x2.s3;refine .inr ⟨go,λv H3 y=>?_⟩;obtain ⟨Hs3,x3,r3⟩:=yl v H3 y;refine sg.h eg (r2.go x3) r3 λσ2 rs2 bt=>⟨bt.wk wk,sc.h eb rs2 λHs4 H4 x4=>?_⟩;cases b with
    |true =>
     rw [if_pos rfl] at er2;obtain ⟨z,ez,er3⟩:=bind_some er2;obtain ⟨rest',er4,er5⟩:=bind_some er3;cases er5;refine xC (sf.h ez (rs2.go x4) λu Hs5 H5 x5 r5=>⟨xs.length-(k+1),by omega,rfl,hlt,Hs5,ws++[z],x2.trans (x3.trans (x4.trans x5)),((r2.go x3).go x4).go x5,?_,?_,rest',er4,?_⟩)
     ·exact (rz.mono (x3.s1.trans (x4.s1.trans x5.s1))).snoc r5
     ·rw [yL];simp;omega
     ·rw [uS];exact eys
    |false=>rw [if_neg yU] at er2;exact xz ⟨xs.length-(k+1),by omega,rfl,hlt,Hs4,ws,x2.trans (x3.trans x4),(r2.go x3).go x4,rz.mono (x3.s1.trans x4.s1),by omega,rest,er2,eys⟩
   ·have ek:k=xs.length:=by omega
    subst ek;rw [uE] at er;unfold qm at er;cases er;refine .inl ⟨ok.stop Hs2 H2 x2.s1 x2.s2 x2.s3,λD hD=>?_⟩;rw [yo] at eys;subst eys;have x12:=x1.trans x2;exact q D Hs2 _ (x12.trans (.newO x2.s3 hD)) (x12.s2.free hD) (x2.s3.free hD) ⟨zs,y7,rz⟩
  ·cases e1
section
variable {ε:ME}{c d:MB}{f:M}{a b:WS}{N:ME->Prop}{R:PV->ME->Prop}
theorem zQ (h:c ε=some false)(k:b ε N R):xt (wPT c) a b ε N R:=by
 refine ⟨false,h,?_⟩;show if false=true then a ε N R else b ε N R
 rw [if_neg yU];exact k
theorem vF (h:c ε=some true)(k:a ε N R):xt (wPT c) a b ε N R:=by
 refine ⟨true,h,?_⟩;show if true=true then a ε N R else b ε N R
 rw [if_pos rfl];exact k
theorem zY (h1:c ε=some false)(h2:d ε=some false):dOr c d ε=some false:=by unfold dOr;rw [h1];show (if false=true then some true else d ε)=_;rw [if_neg yU];exact h2
theorem YK (h1:c ε=some true):dOr c d ε=some true:=by unfold dOr;rw [h1];rfl
theorem Zx (h1:c ε=some false)(h2:d ε=some true):dOr c d ε=some true:=by unfold dOr;rw [h1];show (if false=true then some true else d ε)=_;rw [if_neg yU];exact h2
theorem Xb {v:Bool}(h1:c ε=some true)(h2:d ε=some v):jU c d ε=some v:=by unfold jU;rw [h1];show (if true=true then d ε else some false)=_;rw [if_pos rfl];exact h2
theorem qO (h:c ε=some true):n9 c ε=some false:=by unfold n9;rw [h];rfl
theorem YJ (h:c ε=some false):n9 c ε=some true:=by unfold n9;rw [h];rfl
theorem qK {v:Bool}(h:f ε=some (.at (.bl v))):m6 f ε=some v:=by unfold m6;rw [h];rfl
theorem h8 {v:Bool}(h:f ε=some (.at (.bl v))):dT f ε=some v:=by unfold dT;rw [h];rfl
theorem ZO :o8 [.lst xs,.at (.ty "list")]=some (.at (.bl true)):=by unfold o8 tyP;simp only [yF,NT]
end
variable {fr:Bool}
theorem Xa {g:MG}{f:M}{ε0:ME}{α:Type}(F G:α->PV):∀(l:List α),(∀ a∈l,∃ ε1,g (F a) ε0=some ε1/\f ε1=some (G a))->qm g p6 f ε0 (l.map F)=some (l.map G)
 |[],_=>rfl
 |a::l,h=>by
  obtain ⟨ε1,e1,e2⟩:=h a yQ;have ih:=Xa F G l λb hb=>h b (yR _ hb);show Option.bind (g (F a) ε0) (λε1=>Option.bind (p6 ε1) λb=>if b=true then (f ε1).bind λy=>(qm g p6 f ε0 (l.map F)).bind λys=>some (y::ys) else qm g p6 f ε0 (l.map F))=_;rw [e1,ih];show (if true=true then (f ε1).bind λy=>some (y::l.map G) else some (l.map G))=_;rw [if_pos rfl,e2];rfl
theorem QY {g:MG}{c:MB}{f:M}{ε0:ME}{α:Type}(F G:α->PV)(p:α->Bool):∀(l:List α),(∀ a∈l,∃ ε1,g (F a) ε0=some ε1/\c ε1=some (p a)/\(p a=true->f ε1=some (G a)))->qm g c f ε0 (l.map F)=some ((l.filter p).map G)
 |[],_=>rfl
 |a::l,h=>by
  obtain ⟨ε1,e1,e2,e3⟩:=h a yQ;have ih:=QY F G p l λb hb=>h b (yR _ hb);show Option.bind (g (F a) ε0) (λε1=>Option.bind (c ε1) λb=>if b=true then (f ε1).bind λy=>(qm g c f ε0 (l.map F)).bind λys=>some (y::ys) else qm g c f ε0 (l.map F))=_;rw [e1,ih];show Option.bind (c ε1) (λb=>if b=true then (f ε1).bind λy=>some (y::(l.filter p).map G) else some ((l.filter p).map G))=_;rw [e2,yF,ur];cases hp:p a with
  |true=>rw [if_pos rfl,if_pos rfl,e3 hp];rfl
  |false=>rw [if_neg yU,if_neg yU]
theorem qy {cap:List (Option Nat)}{it:MA}{f:M}(F G:α->PV)(l:List α)(h:it ε=some (l.map F))(hc:xy cap ts=true)(hl:l.length<=lim)(k:∀ a∈l,∃ ε1,g (F a) (m4 cap ε)=some ε1/\f ε1=some (G a)):b8 cap ts it g p6 f ε=some (.lst (l.map G)):=YV h hc (by rw [yZ];exact hl) (Xa F G l k)
theorem YU {cap:List (Option Nat)}{it:MA}{f:M}(F G:α->PV)(p:α->Bool)(l:List α)(h:it ε=some (l.map F))(hc:xy cap ts=true)(hl:l.length<=lim)(k:∀ a∈l,∃ ε1,g (F a) (m4 cap ε)=some ε1/\c ε1=some (p a)/\(p a=true->f ε1=some (G a))):b8 cap ts it g c f ε=some (.lst ((l.filter p).map G)):=YV h hc (by rw [yZ];exact hl) (QY F G p l k)
theorem Xs {g:MG}{f:MS}{α:Type}(F:α->PV)(I:List α->ME->Prop)(h:∀ a l ε,I (a::l) ε->∃ ε1 ε2,g (F a) ε=some ε1/\f ε1=some (.nx ε2)/\I l ε2):∀(l:List α)(ε:ME),I l ε->∃ ε',qJ g f (l.map F) ε=some (.nx ε')/\I [] ε'
 |[],ε,i=>⟨ε,rfl,i⟩
 |a::l,ε,i=>by
  obtain ⟨ε1,ε2,e1,e2,i2⟩:=h a l ε i;obtain ⟨ε',e3,i3⟩:=Xs F I h l ε2 i2;refine ⟨ε',?_,i3⟩;show Option.bind (g (F a) ε) (λε1=>Option.bind (f ε1) λo=>match o with
   | .nx ε2=>qJ g f (l.map F) ε2
   | .ct ε2=>qJ g f (l.map F) ε2
   | .bk ε2=>some (.nx ε2)
   | .rt y=>some (.rt y))=_
  rw [e1,yF,e2];exact e3
section
variable {ε:ME}{a b:M}{v w:Bool}
theorem zE (h1:a ε=some (.at (.bl true)))(h2:b ε=some (.at (.bl w))):xJ a b ε=some (.at (.bl w)):=by unfold xJ;rw [h1];exact h2
theorem Pe (h1:a ε=some (.at (.bl false)))(h2:b ε=some (.at (.bl w))):dOrV a b ε=some (.at (.bl w)):=by unfold dOrV;rw [h1];exact h2
theorem Ua (h1:a ε=some (.at (.bl v))):wY a ε=some (.at (.bl (!v))):=by unfold wY;rw [h1];rfl
theorem Pd (h:c ε=some true)(k:a ε=some x):dIf c a b ε=some x:=by unfold dIf;rw [h];exact k
theorem YY (h:c ε=some false)(k:b ε=some x):dIf c a b ε=some x:=by unfold dIf;rw [h];exact k
theorem ZD {g g':PV->PV->Option PV}{c:M}{z:PV}{r:Bool}(h1:a ε=some x)(h2:b ε=some y)(h3:g x y=some (.at (.bl true)))(h4:c ε=some z)(h5:g' y z=some (.at (.bl r))):zV g g' a b c ε=some (.at (.bl r)):=by unfold zV;rw [h1,yF,h2,yF,h3];show Option.bind (c ε) _=_;rw [h4];exact h5
theorem vZ (h:a ε=some x):zj a ε=some (.nx ε):=by unfold zj;rw [h];rfl
theorem xj:m5 ε=some (.nx ε):=rfl
theorem js (h:a ε=some (.lst xs)):y9 a ε=some xs:=by unfold y9;rw [h];rfl
theorem Xj (h:a ε=some (.ob C ns xs))(k:wn f ns xs=some y):zX C f a ε=some y:=by unfold zX;rw [h,yF];show (if C=C then _ else _)=_;rw [if_pos rfl];exact k
theorem Xl {fs:List PV}{y:Option PV}(h:a ε=some (.ob C ns fs))(hn:nm∉ns)(k:as ε=some xs)(e:m (.ob C ns fs::xs)=y):zC C nm m a as ε=y:=by unfold zC;rw [h,yF];show (if C=C/\nm∉ns then _ else _)=_;rw [if_pos ⟨rfl,hn⟩,k];exact e
theorem Xk {k:Nat}{bd:MS}(hl:xs.length=k)(h:bd (xs.map .sh++List.replicate (n-k) .no)=some (.nx ε')):b7 n k bd xs=some (.at .non):=by unfold b7;rw [if_pos hl,h];rfl
theorem Us {n:Int}:o8 [.at (.int n),.at (.ty "int")]=some (.at (.bl true)):=by unfold o8 tyP;simp only [yF,NS]
theorem Ut {n:Int}:o8 [.at (.int n),.at (.ty "bool")]=some (.at (.bl false)):=by unfold o8 tyP;simp only [yF,NR]
theorem Uv {n:Str}:o8 [.at (.str n),.at (.ty "str")]=some (.at (.bl true)):=by unfold o8 tyP;simp only [yF,NU]
theorem PY {n:List PV}:o8 [.tup n,.at (.ty "tuple")]=some (.at (.bl true)):=by unfold o8 tyP;simp only [yF,NV]
theorem Yo:∀ bs:List Bool,bls (bs.map λb=> .at (.bl b))=some bs
 |[]=>rfl
 |b::bs=>by
  have ih:=Yo bs;rw [yK];unfold bls;rw [ih];rfl
theorem KW (bs:List Bool):xW [.lst (bs.map λb=> .at (.bl b))]=some (.at (.bl (bs.all id))):=by show (bls _).bind _=_;rw [Yo];rfl
theorem jQ (l:List α):xW [.lst (l.map λ_=> .at (.bl true))]=some (.at (.bl true)):=by
 have e:(l.map λ_=>PV.at (.bl true))=((l.map λ_=>true).map λb=>PV.at (.bl b)):=by rw [yi];rfl
 rw [e,KW];have:(l.map λ_=>true).all id=true:=by simp
 rw [this]
end
def leS (a b:Str):Bool:=!decide (b.cps.toList<a.cps.toList)
def jg (ss:List Str):List Str:=ss.mergeSort leS
theorem VC (ss:List Str):(jg ss).Perm ss:=List.mergeSort_perm ss leS
theorem Nq (ss:List Str):QU (jg ss):=by
 have:=List.pairwise_mergeSort (le:=leS) (λa b c h1 h2=>by
  unfold leS at h1 h2 ⊢;simp only [Bool.not_eq_true',decide_eq_false_iff_not] at h1 h2 ⊢;exact List.not_lt.mpr (List.le_trans (List.not_lt.mp h1) (List.not_lt.mp h2))) (λa b=>by
  unfold leS;by_cases h:b.cps.toList<a.cps.toList
  ·have h2:¬ (a.cps.toList<b.cps.toList):=λk=>List.lt_irrefl _ (List.lt_trans h k);simp [h2]
  ·simp [h]) ss
 exact this.imp λh=>by unfold leS at h;simpa using h
theorem VB {ss ss':List Str}(p:ss'.Perm ss)(u:QU ss'):ss'=jg ss :=
 List.Perm.eq_of_pairwise (λa b _ _ h1 h2=>by
  have e:=List.le_antisymm (List.not_lt.mp h1) (List.not_lt.mp h2);cases a;cases b;simp only [Str.mk.injEq];exact Array.toList_inj.mp e) u (Nq ss) (p.trans (VC ss).symm)
def jE:List PV->Option (List Str)
 |[]=>some []
 | .at (.str s)::xs=>(jE xs).map (s::·)
 |_::_=>none
theorem VF:∀{xs:List PV}{ss:List Str},jE xs=some ss->xs=ss.map λs=> .at (.str s)
 |[],_,h=>by cases h;rfl
 |x::xs,ss,h=>by
  unfold jE at h;split at h
  ·rename_i e;cases e
  ·rename_i s' xs' e;injection e with e1 e2;subst e1 e2;obtain ⟨r,hr,rfl⟩:=yJ.mp h;rw [VF hr];rfl
  ·cases h
def jv:List j4->Option (List Str)
 |[]=>some []
 | .inr s::xs=>(jv xs).map (s::·)
 |_::_=>none
theorem ZR:∀{xs:List j4}{ss:List Str},jv xs=some ss->xs=ss.map Sum.inr
 |[],_,h=>by cases h;rfl
 |x::xs,ss,h=>by
  unfold jv at h;split at h
  ·rename_i e;cases e
  ·rename_i s' xs' e;injection e with e1 e2;subst e1 e2;obtain ⟨r,hr,rfl⟩:=yJ.mp h;rw [ZR hr];rfl
  ·cases h
def Jm:List PV->Option PV
 |[.lst xs]=>(jE xs).bind λss=>if ss.length<64 then some (.lst ((jg ss).map λs=> .at (.str s))) else none
 |[.dk ks _]=>(jv ks).bind λss=>if ss.length<64 then some (.lst ((jg ss).map λs=> .at (.str s))) else none
 |[.fk ks _]=>(jv ks).bind λss=>if ss.length<64 then some (.lst ((jg ss).map λs=> .at (.str s))) else none
 |_=>none
theorem Jw (ss:List Str):Reps H (ss.map λs=> .at (.str s)) (ss.map V.str):=by have:=Reps.ofAts (H:=H) (ss.map V.str);rwa [yi] at this
instance :Zl (GE K) Jm where
 h:=λ{xs z} e {Hs H vs} s r {Q} q=>by
  unfold Jm at e;split at e
  ·obtain ⟨ss,eb,e1⟩:=bind_some e;split at e1
   ·rename_i hl;cases e1;obtain ⟨v,rfl,a⟩:=zd r;obtain ⟨p,ws,rfl,e1,r1⟩:=qd s a;rw [VF eb,show (ss.map λb=>PV.at (.str b))=(ss.map V.str).map .at by rw [yi];rfl] at r1;cases r1.ats;refine ⟨p,ss,rfl,.inl (SqL.of e1),hl,λl ss' hn p1 p2=>?_⟩;rw [VB p1 p2];exact q l _ _ (.newO s hn) hn (s.free hn) ⟨_,y7,Jw _⟩
   ·cases e1
  ·obtain ⟨ss,eb,e1⟩:=bind_some e;split at e1
   ·rename_i hl;cases e1;obtain ⟨v,rfl,a⟩:=zd r;obtain ⟨p,kvs,rfl,hp,hk,hr⟩:=jC s a;refine ⟨p,ss,rfl,.inr ⟨kvs,.inl hp,by rw [hk,ZR eb]⟩,hl,λl ss' hn p1 p2=>?_⟩;rw [VB p1 p2];exact q l _ _ (.newO s hn) hn (s.free hn) ⟨_,y7,Jw _⟩
   ·cases e1
  ·obtain ⟨ss,eb,e1⟩:=bind_some e;split at e1
   ·rename_i hl;cases e1;obtain ⟨v,rfl,a⟩:=zd r;obtain ⟨p,o,kvs,rfl,hp,hk,hr⟩:=QG s a;refine ⟨p,ss,rfl,.inr ⟨kvs,.inr ⟨o,hp⟩,by rw [hk,ZR eb]⟩,hl,λl ss' hn p1 p2=>?_⟩;rw [VB p1 p2];exact q l _ _ (.newO s hn) hn (s.free hn) ⟨_,y7,Jw _⟩
   ·cases e1
  ·cases e
def GD (K:Fg):List V->Hp->VK->Prop:=λxs H Q=>∃(a:Addr)(ss:List Str),xs=[.ref a]/\SqL K H a (ss.map V.str)/\ss.length<=1000 /\
  ∀ l,H l=none->Q (.ref l) (z8 H l (jP (c9 (λi=>(Sum.inr (ss.getD i ⟨#[]⟩):j4)) ss.length).length l))
theorem Bz (hc:X.calm=true)(h:X.K=K):CallR X (.type "set") (GD K):=by subst h;exact BA hc
def ZY (ss:List Str):Nat:=(c9 (λi=>(Sum.inr (ss.getD i ⟨#[]⟩):j4)) ss.length).length
def Gz:List V->Hp->VK->Prop:=λxs H Q=>∃(a:Addr)(n:Nat),xs=[.ref a]/\H a=some (jP n a)/\Q (.int n) H
theorem Bw :CallR X (.builtin "len") Gz:=Bv
def YG (a:M):M:=λε=>(a ε).bind λx=>match x with
 | .lst xs=>(jE xs).bind λss=>if ss.length<=1000 then some (.at (.int (ZY ss))) else none
 |_=>none
instance {a:M}[sa:i7 te a]:SemE (tCB Gz (i6 (tCB (GD K) (i6 te qa)) qa)) (YG a) where
 h:=λe _ _ _ _ _ rs _ q=>by
  obtain ⟨x,ex,e1⟩:=bind_some e;split at e1
  ·obtain ⟨ss,eb,e2⟩:=bind_some e1;split at e2
   ·rename_i hl;cases e2;refine sa.h ex rs λv Hs1 H1 x1 r1=>?_;obtain ⟨p,ws,rfl,ep,r2⟩:=qd x1.s3 r1;rw [VF eb,show (ss.map λb=>PV.at (.str b))=(ss.map V.str).map .at by rw [yi];rfl] at r2;cases r2.ats;refine ⟨p,ss,rfl,SqL.of ep,hl,λl hn=>⟨l,_,rfl,y7,q _ _ _ (x1.trans (.newO x1.s3 hn)) (rep_at.mpr rfl)⟩⟩
   ·cases e2
  ·cases e1
structure Mkr (P:Program)(w:World)(K:Fg)(mg:Str->Option Value)(base:Heap)(k:Nat)(C:Addr)(ps:List Str)(sp:Sp):Prop where
 ex:∃ f fd,FnOk P w K mg base v7 k f fd ps sp/\Mk K C f/\Binds K fd ps []
theorem pe_mk {k j:Nat}{x:Str}{p:Pos}{es:List Expr}{t:TA}(c:Mkr X.prog X.w X.K X.mg X.base k C ps sp)(hr:Room j X.A)(hj:k+1<=j)(hg:Gl X x)(hm:X.mg x=some (.ref C))(ha:PA X (e::es) t)(hdb:(x==("__debug__":Str))=false:=by decide)(he:starEach (e::es) X.env=(false,eval e X.env)::starEach es X.env:=by rfl)(hpl:(backTo pos (starEach es X.env)).any (·.1)=false:=by rfl):PE X (.Call (.Name x p) (e::es) [] pos) (QK C sp [] E0 t):=by obtain ⟨f,fd,F,hm',hb⟩:=c.ex;exact Mw hm' F (hr.mono hj) hg hm hb .nil XO ha hdb he hpl
instance (priority:=1100)[sa:qY ta as]:SemE (QK C (spI C m) [] E ta) (z6 m as) where
 h:=λ{ε y} e=>SemE.h (te:=QK C (spI C m) [] E ta) (f:=Zv m [] as) (by
  unfold Zv;unfold z6 at e;simpa using e)
structure FunD (K:Fg)(x qual:Str)(st:Stmt)(f:Addr)(fd:FuncData):Prop where
 ex:∃(oc:Value)(od:Option Addr)(dV kV doc pm:Value)(an:Option Addr)(cdv ct:Value)(osl:Array (Option Value)),
  fd=PySem.W.fnOf x qual (xK st) (t9 st) (j3 st) dV kV doc pm an cdv ct/\K.lookup f=some ⟨oc,od,.func fd,osl⟩/\PySem.W.codeIn K cdv qual=true
 kp:PySem.W.keepIn K (.ref f)=true
section
variable {P:Program}{w:World}{K:Fg}{mg:Str->Option Value}{base:Heap}
theorem FunD.ok {x:Str}{f:Addr}{k:Nat}(F:FunD K x qual st f fd)(S:w9 N ps (j3 st))(len:∀ vs H Q E,sp vs H Q E->vs.length=ps.length)(hbody:∀(cdv:Value)(A:Around)(outer:List Env)(s:Shared)(H:Hp)(vs:List V)(Q:VK)(E:XK),Room k (A.deeper (PyProof.Rows.envOfC qual (j3 st) s.heap.objs.size f cdv))->sp vs H Q E -> ∃ t,PSs (ql v7 P w K mg base N qual (j3 st) f cdv A outer s H E).nox (t9 st) t/\t { nx:=λ_ H'=>Q .non H',rt:=Q } (L2.start N vs) H):FnOk P w K mg base v7 (k+1) f fd ps sp:=by obtain ⟨oc,od,dV,kV,doc,pm,an,cdv,ct,osl,rfl,lk,hcd⟩:=F.ex;refine ZK lk hcd S len λA outer s H vs Q E hr hsp=>?_;obtain ⟨t,h,q⟩:=hbody cdv A outer s H vs Q E hr hsp;exact ⟨t,h.nox,q⟩
theorem Pq {x:Str}{f:Addr}{oc:Value}{od an:Option Addr}{osl:Array (Option Value)}{dV kV doc pm cdv ct:Value}(l:K.lookup f=some ⟨oc,od,.func (PySem.W.fnOf x qual (xK st) (t9 st) (j3 st) dV kV doc pm an cdv ct),osl⟩)(c:PySem.W.codeIn K cdv qual=true)(k:PySem.W.keepIn K (.ref f)=true):FunD K x qual st f (PySem.W.fnOf x qual (xK st) (t9 st) (j3 st) dV kV doc pm an cdv ct):=⟨⟨oc,od,dV,kV,doc,pm,an,cdv,ct,osl,rfl,l,c⟩,k⟩
theorem QE {o value:Expr}{ta:TE}{pos':Pos}(hK:X.K=K)(ha:PE X o ta)(hv:PE X value tv)(hs:swapsWith value (some (.Attribute o f pos')) pos.line X.env=pure false:=by rfl):PS X (.Assign [.Attribute o f pos'] value pos) (QH K ta tv f):=by subst hK;exact MW ha hv hs
theorem okI' {x:Str}{f:Addr}{k:Nat}(F:FunD K x qual st f fd)(S:w9 N ps (j3 st))(hm:∀ xs y,m xs=some y->xs.length+1=ps.length)(hb:∀(cdv:Value)(A:Around)(outer:List Env)(s:Shared)(H:Hp)(E:XK),Room k (A.deeper (PyProof.Rows.envOfC qual (j3 st) s.heap.objs.size f cdv)) -> ∃ t,PSs (ql v7 P w K mg base N qual (j3 st) f cdv A outer s H E).nox (t9 st) t/\SemWS t b)(hw:∀ xs y,m xs=some y->b (.ow (.ob C [] [])::xs.map .sh++List.replicate (N.length-(xs.length+1)) .no) (λε=>ε[0]?=some (.ow y)) λ_ _=>False):FnOk P w K mg base v7 (k+1) f fd ps (spI C m):=by
 refine F.ok S (λvs H Q E h=>?_) (λcdv A outer s H vs Q E hr h=>?_)
 ·obtain ⟨Hs,x,dx,xs,ws,y,rfl,_,_,_,r,e,_⟩:=h;rw [yC,r.length];exact hm xs y e
 ·obtain ⟨Hs,x,dx,xs,ws,y,rfl,sm,hx,hs,r,e,q⟩:=h;obtain ⟨t,ht,sem⟩:=hb cdv A outer s H E hr;refine ⟨t,ht,sem.h (hw xs y e) (Ls sm hs ⟨dx,[],hx,rfl,.nil⟩ r) (λε σ Hs' H' z rd g=>?_) λ_ _ _ _ _ _ z _ _ _=>z.elim⟩;obtain ⟨a,ha,_,n,tp⟩:=rd.ow 0 y z;rw [rd.pin x (yP.mpr rfl)] at ha;injection ha with ha;injection ha with ha;injection ha with ha;subst ha;obtain ⟨o,ho,ro⟩:=tp.rep n;have g2:Same Hs' (z8 Hs' x o):=λb u e=>by rw [z9 (p5 e n)];exact e
  refine q (z8 Hs' x o) H' (g.trans g2) (λb u e hb=>rd.s2 b u e λw=>hb (yP.mp w)) (λb u e=>?_) (λb hb hbx w=>?_) ro
  ·by_cases hbx:b=x
   ·subst hbx;rw [y7] at e;cases e;exact ho
   ·rw [z9 hbx] at e;exact rd.s3 _ _ e
  ·rw [z9 hbx];exact rd.s4 b hb w
end
def zD (C:Addr)(f:Str)(a:M):MS:=λε=>(a ε).bind λy=>match (ε[0]?:Option MSlot) with
 |some (.ow (.ob C' ns xs))=>if C'=C/\f∉ns/\ns.length<1000 then some (.nx (ε.set 0 (.ow (.ob C (ns++[f]) (xs++[y]))))) else none
 |_=>none
def wPN (f:MS):WS:=λε N _=>∃ ε',f ε=some (.nx ε')/\N ε'
theorem BK {a:M}{o:Out}(h:zD C f a ε=some o):∃ y ns xs,a ε=some y/\ε[0]?=some (.ow (.ob C ns xs))/\f∉ns/\ns.length<1000/\o = .nx (ε.set 0 (.ow (.ob C (ns++[f]) (xs++[y])))):=by
 unfold zD at h;obtain ⟨y,ey,h1⟩:=bind_some h;split at h1
 ·rename_i C' ns xs he;split at h1
  ·rename_i hc;cases h1;obtain ⟨rfl,h2,h3⟩:=hc;exact ⟨y,ns,xs,ey,he,h2,h3,rfl⟩
  ·cases h1
 ·cases h1
instance {a:M}[c:zS K C][n:NoA K C f][sa:SemE te a]:SemWS (QH K (o4 0) te f) (wPN (zD C f a)) where
 h:=λ{ε N R} h=>by
  obtain ⟨ε',e,h1⟩:=h;obtain ⟨y,ns,xs,ey,he,h2,h3,e4⟩:=BK e;injection e4 with e4;subst e4;exact SemWS.h (ts:=QH K (o4 0) te f) (w:=KK C f (wP a)) ⟨y,ey,ns,xs,he,h2,h3,h1⟩
instance {a:M}[sa:SemE te a]:SemWS (zO te) (wPN (zj a)) where
 h:=λ{ε N R} h=>by
  obtain ⟨ε',e,h1⟩:=h;obtain ⟨y,ey,e2⟩:=bind_some e;cases e2;exact SemWS.h (ts:=zO te) (w:=KH (wP a)) ⟨y,ey,h1⟩
instance Nl {a b:MS}[sa:SemWS t (wPN a)][sb:SemWS u (wPN b)]:SemWS (tSeq t u) (wPN (y8 a b)) where
 h:=λ{ε N R} h S Hs0 H0 Hs H σ rd D k rt=>by
  obtain ⟨ε',e,h1⟩:=h;obtain ⟨o1,e1,e2⟩:=bind_some e;refine SemWS.h (ts:=tSeq t u) (w:=wSeq (wPN a) (wPN b)) (ε:=ε) (N:=N) (R:=R) ?_ rd k rt;cases o1 with
  |nx ε1=>exact ⟨ε1,e1,ε',e2,h1⟩
  |rt y=>cases e2
  |bk ε1=>cases e2
  |ct ε1=>cases e2
def wX (n k:Nat)(C:Addr)(f:MS):List PV->Option PV:=λxs=>if xs.length+1=k then (f (.ow (.ob C [] [])::xs.map .sh++List.replicate (n-k) .no)).bind λo=>match o with
 | .nx ε=>(match (ε[0]?:Option MSlot) with
  |some (.ow y)=>some y
  |_=>none)
 |_=>none else none
theorem okID {P:Program}{w:World}{mg:Str->Option Value}{base:Heap}{x:Str}{f:Addr}{k:Nat}{b:MS}(F:FunD K x qual st f fd)(S:w9 N ps (j3 st))(hm:m=wX N.length ps.length C b)(hb:∀(cdv:Value)(A:Around)(outer:List Env)(s:Shared)(H:Hp)(E:XK),Room k (A.deeper (PyProof.Rows.envOfC qual (j3 st) s.heap.objs.size f cdv)) -> ∃ t,PSs (ql v7 P w K mg base N qual (j3 st) f cdv A outer s H E).nox (t9 st) t/\SemWS t (wPN b)):FnOk P w K mg base v7 (k+1) f fd ps (spI C m):=by
 subst hm;refine okI' F S (λxs y e=>?_) hb (λxs y e=>?_)
 ·unfold wX at e;split at e
  ·rename_i hl;exact hl
  ·cases e
 ·unfold wX at e;split at e
  ·rename_i hl;obtain ⟨o,eo,e1⟩:=bind_some e;rw [hl];cases o with
   |nx ε =>
    refine ⟨ε,eo,?_⟩;have e2:(match (ε[0]?:Option MSlot) with
     |some (.ow y)=>some y
     |_=>none)=some y:=e1
    show ε[0]?=some (.ow y);split at e2
    ·rename_i z hz;cases e2;exact hz
    ·cases e2
   |rt z=>cases e1
   |bk z=>cases e1
   |ct z=>cases e1
  ·cases e
def zL:List PV->Option (List (j4×PV))
 |[]=>some []
 | .tup [k,v]::xs=>(zo k).bind λkk=>(zL xs).map ((kk,v)::·)
 |_::_=>none
def Qv:List PV->Option PV
 |[.lst xs]=>(zL xs).bind λps=>if (ps.map (·.1)).Nodup/\ps.length<=1000 then some (.fk (ps.map (·.1)) (ps.map (·.2))) else none
 |_=>none
theorem Gn {Hs H:Hp}(s:Same Hs H):∀{xs:List PV}{ps:List (j4×PV)}{vs:List V},zL xs=some ps->Reps Hs xs vs->∃(ts:List Addr)(kvs:List (j4×V)),vs=ts.map V.ref/\Paired (λt (kv:j4×V)=>H t=some (.tup [kV kv.1,kv.2])) ts kvs/\kvs.map (·.1)=ps.map (·.1)/\Reps Hs (ps.map (·.2)) (kvs.map (·.2))
 |[],ps,vs,h,r=>by
  cases h;cases reps_nil.mp r;exact ⟨[],[],rfl,.nil,rfl,.nil⟩
 |x::xs,ps,vs,h,r=>by
  unfold zL at h;split at h
  ·rename_i e;cases e
  ·rename_i k v xs' e;injection e with e1 e2;subst e1 e2;obtain ⟨kk,ek,h1⟩:=bind_some h;obtain ⟨ps',hp,rfl⟩:=yJ.mp h1;obtain ⟨w,ws,rfl,r1,r2⟩:=reps_cons.mp r;obtain ⟨t,us,rfl,ht,ru⟩:=rep_tup.mp r1;obtain ⟨u1,us1,rfl,p1,p2⟩:=reps_cons.mp ru;obtain ⟨u2,us2,rfl,p3,p4⟩:=reps_cons.mp p2;cases reps_nil.mp p4;have ew:=ju (H:=H) (.inl p1) ek;subst ew;obtain ⟨ts,kvs,rfl,q1,q2,q3⟩:=Gn s hp r2;exact ⟨t::ts,(kk,u2)::kvs,rfl,.cons (s _ _ ht) q1,by rw [yK,yK,q2],.cons p3 q3⟩
  ·cases h
instance:vP Gx Qv where
 h:=λ{xs z} e {Hs H vs} s r {Q} q=>by
  unfold Qv at e;split at e
  ·obtain ⟨ps,eb,e1⟩:=bind_some e;split at e1
   ·rename_i hl;cases e1;obtain ⟨v,rfl,a⟩:=zd r;obtain ⟨p,ws,rfl,ep,r1⟩:=qd s a;obtain ⟨ts,kvs,rfl,q1,q2,q3⟩:=Gn s eb r1;have hk:kvs.length=ps.length:=by have:=congrArg List.length q2;rwa [yZ,yZ] at this
    refine ⟨p,ts,kvs,rfl,ep,q1,by rw [q2];exact hl.1,by omega,λl o hn=>?_⟩;exact q _ _ _ (.new s hn) (rep_fk.mpr ⟨l,o,kvs,rfl,y7,q2,q3.mono (Ext.new s hn).s1⟩)
   ·cases e1
  ·cases e
def wAsg (g:MG)(a:W):WS:=λε N _=>a ε λx ε1=>∃ ε2,g x ε1=some ε2/\N ε2
instance (priority:=500)[sa:SemW te a][sg:SemWG tg g]:SemWS (zx te tg) (wAsg g a) where
 h:=λh _ _ _ _ _ _ rd _ k _=>sa.h h rd λx ε1 v Hs1 H1 h1 rd1 g1 r1=>by
  obtain ⟨ε2,e,h2⟩:=h1;exact sg.h e rd1 r1 λσ' rd2=>k _ _ _ _ h2 rd2 g1
end Mi
namespace Mi
open PySem PySem.Spec PyProof.Rows L2
variable {fr:Bool}
section
variable {P:Program}{w:World}{K:Fg}{mg:Str->Option Value}{base:Heap}
theorem YW {ε:ME}{f:M}{cap:List (Option Nat)}{ts:List Nat}{it:MA}{G:MG}{c:MB}{xs ys:List PV}(h:it ε=some xs)(hc:xy cap ts=true)(hl:xs.length<=lim)(k:qm G c f (m4 cap ε) xs=some ys):jV cap ts it G c f ε=some (.lst ys):=by unfold jV;rw [h];show (if _ then _ else _)=_;rw [if_pos ⟨hc,hl⟩,k];rfl
end
end Mi
namespace L2
open PySem PySem.Spec PyProof.Rows
def wT (CX:CXT)(X:Cx)(σ:St)(E:XK):Prop:=∀(pins:List (Addr×Obj))(H:Hp)(s:Shared)(e:Value)(s':Shared),Inv X pins σ H s->CX X.stack H s E e s'->X.xe e s'
def PEa (X:Cx)(σ:St)(e:Expr)(t:TE):Prop:=∀(pins:List (Addr×Obj))(s:Shared)(H:Hp)(Q:VK),Inv X pins σ H s->t σ H Q->wpAny (model X.prog X.w) X.A (eval e X.env) (EP X pins σ Q) X.xe s
def PSa (X:Cx)(σ:St)(st:Stmt)(t:TS):Prop:=∀(pins:List (Addr×Obj))(s:Shared)(H:Hp)(D:qM),Inv X pins σ H s->t D σ H->wpAny (model X.prog X.w) X.A (exec st X.env) (SP X pins D) X.xe s
def PSsa (X:Cx)(σ:St)(st:List Stmt)(t:TS):Prop:=∀(pins:List (Addr×Obj))(s:Shared)(H:Hp)(D:qM),Inv X pins σ H s->t D σ H->wpAny (model X.prog X.w) X.A (execs st X.env) (SP X pins D) X.xe s
section
variable {X:Cx}{k j:Nat}{C:Addr}{m x:Str}{ps:List Str}{sp:Sp}{o e c:Expr}{es:List Expr}{te ta:TE}{t:TA}{tc:TT}{apos pos p:Pos}{E:XK}{σ:St}{st:Stmt}{a b:List Stmt}{u v:TS}
theorem Lc (h1:PSa X σ st u):PSsa X σ [st] u:=by
 intro pins s H D I h;refine wpAny_execs_cons (j5 (h1 pins s H D I h) λf s1 q=>?_);cases f with
 |next=>exact wpAny_execs_nil q
 |ret v=>exact q
 |brk=>exact q
 |cont=>exact q
theorem Lb (he:PEa X σ e te)(hs:swapsWith e none pos.line X.env=pure false:=by rfl):PSa X σ (.Expr e pos) (zO te):=by intro pins s H D I h;exact wpAny_Expr_any (j5 (he pins s H _ I h) λv s1 ⟨x,H1,I1,r1,q1⟩=>⟨σ,H1,I1,q1⟩) I.quiet hs
theorem Lz {CX:CXT}{f:Addr}{fd:FuncData}{pins:List (Addr×Obj)}{H:Hp}{s:Shared}{Q:VK}{us:List Value}{vs:List V}(F:FnOk X.prog X.w X.K X.mg X.base CX k f fd ps sp)(hr:Room k X.A)(hb:Binds X.K fd ps [])(hx:wT CX X σ E)(I:Inv X pins σ H s)(r:Vals vs us)(h:sp (vs++[]) H Q E):wpAny (model X.prog X.w) X.A (call (.ref f) us) (EP X pins σ Q) X.xe s:=by
 have r2:Vals (vs++[]) (us++[]):=r.append .nil;have hl:(us++[]).length=ps.length:=by rw [<- r2.length];exact F.len _ _ _ _ h
 refine wpAny_call (codeAny_mono (F.run X.A X.stack s H ⟨us,[]⟩ (us++[]) (vs++[]) Q E hr I.env0 (hb s us I.kIn hl) r2 h) λr s' hq=>?_);cases r with
 |error e=>exact hx pins H s e s' I hq
 |ok fl =>
  cases fl with
  |ret u=>exact I.after hq
  |next=>exact False.elim hq
  |brk=>exact False.elim hq
  |cont=>exact False.elim hq
end
end L2
namespace Mi
open PySem L2
variable{t:TS}{K:Fg}{C:Addr}
abbrev RM:=ME->Out->Prop
class vR (fr:Bool)(ts:TS)(r:RM):Prop where
 h:∀{ε o},r ε o->∀{Hs0 H0 Hs H σ},RS Hs0 H0 Hs H σ ε->∀{D:qM},OutK fr Hs0 H0 D o->ts D σ H
variable {fr:Bool}
def rP (b:MS):RM:=λε o=>b ε=some o
instance {b:MS}[s:n8 fr t b]:vR fr t (rP b) where
 h:=λe=>s.h e
def rSeq (a b:RM):RM:=λε o=>(∃ ε',a ε (.nx ε')/\b ε' o)∨(∃ y,o = .rt y/\a ε (.rt y))
instance {u:TS}{a b:RM}[sa:vR fr t a][sb:vR fr u b]:vR fr (tSeq t u) (rSeq a b) where
 h:=λh _ _ _ _ _ rs D q=>by
  rcases h with ⟨ε',h1,h2⟩|⟨y,rfl,h⟩
  ·exact sa.h h1 rs λHs H σ r=>sb.h h2 r q
  ·exact sa.h h rs q
theorem RS.drop {Hs0 H0 Hs H:Hp}{σ:St}{ε:ME}(r:RS Hs0 H0 Hs H σ ε)(i:Nat):RS Hs0 H0 Hs H (σ.set i none) (ε.set i .no):=by
 have dn:∀(j:Nat)(s:MSlot),(ε.set i .no)[j]?=some s->s = .no∨(i≠j/\ε[j]?=some s):=λj s q=>by
  rw [yE] at q;split at q
  ·split at q
   ·cases q;exact .inl rfl
   ·cases q
  ·rename_i h;exact .inr ⟨h,q⟩
 have up:∀(j:Nat),i≠j->(σ.set i none)[j]?=σ[j]?:=λj h=>yq h;refine ⟨r.ext,λj x q=>?_,λj x q=>?_,λj k x y a h1 h2 h3 h4=>?_,by rw [yn,yn,r.len],λj x q=>?_⟩
 ·rcases dn j _ q with z|⟨h,q⟩
  ·cases z
  ·rw [up j h];exact r.sh j x q
 ·rcases dn j _ q with z|⟨h,q⟩
  ·cases z
  ·rw [up j h];exact r.ow j x q
 ·rcases dn j _ h1 with z|⟨g1,q1⟩
  ·cases z
  ·rcases dn k _ h2 with z|⟨g2,q2⟩
   ·cases z
   ·rw [up j g1] at h3;rw [up k g2] at h4;exact r.nd j k x y a q1 q2 h3 h4
 ·rcases dn j _ q with z|⟨h,q⟩
  ·cases z
  ·rw [up j h];exact r.bo j x q
def clr (i:Nat):Out->Out
 | .nx ε=> .nx (ε.set i .no)
 | .bk ε=> .bk (ε.set i .no)
 | .ct ε=> .ct (ε.set i .no)
 | .rt y=> .rt y
def rFn (n k:Nat)(r:RM):List PV->PV->Prop:=λxs y=>xs.length=k/\∃ o,r (xs.map .sh++List.replicate (n-k) .no) o/\match o with
 | .rt z=>y=z
 | .nx _=>y = .at .non
 |_=>False
section
variable {P:Program}{w:World}{K:Fg}{mg:Str->Option Value}{base:Heap}
theorem okT {x qual:Str}{st:Stmt}{f:Addr}{fd:FuncData}{N ps:List Str}{k:Nat}{r:RM}{m:List PV->Option PV}(F:Fun K x qual st f fd)(S:w9 N ps (j3 st))(hm:∀ xs y,m xs=some y->rFn N.length ps.length r xs y)(hb:∀(cdv:Value)(A:Around)(outer:List Env)(s:Shared)(H:Hp)(E:XK),Room k (A.deeper (PyProof.Rows.envOfC qual (j3 st) s.heap.objs.size f cdv)) -> ∃ t,PSs (ql v7 P w K mg base N qual (j3 st) f cdv A outer s H E).nox (t9 st) t/\vR false t r):FnOk P w K mg base v7 (k+1) f fd ps (v8 m):=by
 refine F.ok S (λvs H Q E h=>?_) (λcdv A outer s H vs Q E hr h=>?_)
 ·obtain ⟨Hs,xs,y,_,r,e,_⟩:=h;rw [r.length];exact (hm xs y e).1
 ·obtain ⟨Hs,xs,y,sm,rr,e,q⟩:=h;obtain ⟨t,ht,sem⟩:=hb cdv A outer s H E hr;refine ⟨t,ht,?_⟩;obtain ⟨hl,o,eo,e1⟩:=hm xs y e;refine sem.h eo (by rw [<- hl];exact zN sm rr) ?_;cases o with
  |rt z=>have e2:y=z:=e1;subst e2;exact λv Hs' H' x rv=>q v Hs' H' x rv
  |nx ε=>have e2:y = .at .non:=e1;subst e2;exact λHs' H' σ rs=>q _ Hs' H' rs.ext (rep_at.mpr rfl)
  |bk ε=>exact e1.elim
  |ct ε=>exact e1.elim
end
def o5:V->Option Value
 | .ref a=>some (.ref a)
 | .ty n=>some (.type n)
 |_=>none
theorem HD {v:V}{d:Value}(h:o5 v=some d):∀ u,RelV v u->u=d:=by
 intro u r;unfold o5 at h;split at h
 ·cases h;exact r
 ·cases h;exact r
 ·cases h
abbrev rIsx (K:Fg)(ea C:Addr):List V->Hp->VK->Prop:=λxs H Q=>∃(c:V)(d:Value)(b:Bool),xs=[.ref ea,c]/\(∀ u,RelV c u->u=d)/\PySem.W.kitOne K (.ref C) d=some b/\Q (.bl b) H
def vo (K:Fg)(ea C:Addr):List PV->Option PV
 |[.at (.ref a),.at v]=>if a=ea then (o5 v).bind λd=>(PySem.W.kitOne K (.ref C) d).bind λb=>some (.at (.bl b)) else none
 |_=>none
instance {ea:Addr}:vP (rIsx K ea C) (vo K ea C) where
 h:=λ{xs z} e {Hs H vs} s r {Q} q=>by
  unfold vo at e;split at e
  ·split at e
   ·rename_i ha;subst ha;obtain ⟨d,e1,e⟩:=bind_some e;obtain ⟨b,e2,e⟩:=bind_some e;cases e;obtain ⟨v,w,rfl,a,c⟩:=GS r;cases p0 a;cases p0 c;exact ⟨_,d,b,rfl,HD e1,e2,q _ _ _ (.refl s) (rep_at.mpr rfl)⟩
   ·cases e
  ·cases e
theorem we :∀ c∈([]:List Addr),xk K c:=λ_ z=>nomatch z
theorem wd {cs:List Addr}(h:xk K C)(r:∀ c∈cs,xk K c):∀ c∈C::cs,xk K c:=λc hc=>by
 rcases yM.mp hc with rfl|hc
 ·exact h
 ·exact r c hc
end Mi
namespace L2
open PySem PySem.Spec PyProof.Rows
section
variable {P:Program}{w:World}{K:Fg}{mg:Str->Option Value}{base:Heap}{A:Around}{outer:List Env}{s:Shared}{H:Hp}{f c':Addr}{pm ctv:Value}{params:Arguments}{body:Expr}{scope:Scope}{qual:Str}{clos:List (Str×Addr)}{ps fr:List Str}
 {us:List Value} {vs cv:List V} {t:TE} {Q:VK} {E:XK}
end
section
variable {X:Cx}{K:Fg}
def Gy (K:Fg):V->List V->Hp->VK->Prop:=λo vs H Q=>∃ p xs x j,o = .ref p/\vs=[x]/\SqL K H p xs/\k6 x=true/\xs.all k6=true/\xs.length<=1000000/\(xs[j]?.map λy=>m7 y x)=some true/\(∀(m:Nat)(y:V),m<j->xs[m]?=some y->m7 y x=false)/\Q (.int j) H
theorem ZB {x:V}:∀{xs:List V}{us:List Value}{i:Nat}{y:V},Vals xs us->xs.all k6=true->xs[i]?=some y->∃ u,us[i]?=some u/\eqU x u=m7 y x
 |_,_,_,_,.nil,_,h=>by simp at h
 |z::xs,u::us,0,y,.cons r t,f,h=>by
  rw [List.all_cons,ya] at f;cases h;exact ⟨u,rfl,ZA r f.1⟩
 |z::xs,u::us,i+1,y,.cons r t,f,h=>by
  rw [List.all_cons,ya] at f;exact ZB (i:=i) t f.2 (by simpa using h)
theorem CN (hK:X.K=K):MtM X "list.index" (Gy K):=by
 subst hK;intro pins s σ H o vs v us Q I ro rv h;obtain ⟨p,xs,x,j,rfl,rfl,hq,fx,fs,hl,hj,hno,q⟩:=h;cases ro;obtain ⟨u,rfl,ru⟩:=rv.one;obtain ⟨its,r,⟨⟨cls,dd,data,sl⟩,n,ho,hc,hd,hs⟩,hz⟩:=I.list hq;simp only at hc hd hs;subst hc hd hs;obtain ⟨y,hy,hyt⟩:=yJ.mp hj;obtain ⟨w,hw,ew⟩:=ZB (x:=x) r fs hy;have hlen:=r.length;have jl:j<its.length:=(yD.mp hw).1;have ej:its.toArray[j]'(by simpa using jl)=w:=by have:=(yD.mp hw).2;simpa using this
 refine call_meets F.slot_list_index ⟨_,ho,rfl⟩ F.entry_list_index (F.args_list_index_2 _ _)
  (SeqAt.list_indexAt p its.toArray n none sl u (eqU x) j (by simpa using jl) (by omega) (by rw [ej,ew];exact hyt) (λm hm hmj=>?_)) ⟨ho,λw hw=>wu ru fx r fs w (by simpa using hw),?_⟩
 ·have ml:m<its.length:=by simpa using hm
  obtain ⟨z,hz⟩:∃ z,xs[m]?=some z:=⟨xs[m]'(by omega),yN _⟩;obtain ⟨w2,hw2,ew2⟩:=ZB (x:=x) r fs hz;have:its.toArray[m]'hm=w2:=by have:=(yD.mp hw2).2;simpa using this
  rw [this,ew2];exact hno m z hmj hz
 ·exact ⟨.int j,H,I.kept (t':=s.toks+1) λb o e=>e,⟨_,rfl⟩,q⟩
end
end L2
namespace Mi
open PySem L2
variable {fr:Bool}
def pRep:PV->PV->Option PV
 | .lst xs,.at (.int k)=>if -(lim:Int)<=k/\k<=lim/\xs.length*k.toNat<=lim then some (.lst (List.replicate k.toNat xs).flatten) else none
 |_,_=>none
theorem Reps.rep {H:Hp}{xs:List PV}{vs:List V}(r:Reps H xs vs):∀ k:Nat,Reps H (List.replicate k xs).flatten (List.replicate k vs).flatten
 |0=> .nil
 |k+1=>by
  rw [uO,uO,yk,yk];exact r.append (Reps.rep r k)
instance:SemRO rRep pRep where
 h:=λ{x y z} e {Hs H v w} s a b {Q} q=>by
  unfold pRep at e;split at e
  ·split at e
   ·rename_i xs k hl;cases e;obtain ⟨p,vs,rfl,e1,r1⟩:=qd s a;cases p0 b;have hlim:(lim:Int)=1000000:=rfl;exact ⟨p,k,vs,rfl,rfl,e1,by omega,by omega,qR (by rw [r1.length];exact hl.2.2),λl hl=>q l _ _ (.newO s hl) hl (s.free hl) ⟨_,y7,r1.rep _⟩⟩
   ·cases e
  ·cases e
def wg (u:V):List V->Option Nat
 |[]=>none
 |y::ys=>if m7 y u=true then some 0 else (wg u ys).map (·+1)
theorem Um {u:V}:∀{us:List V}{j:Nat},wg u us=some j->(us[j]?.map λy=>m7 y u)=some true/\∀(m:Nat)(y:V),m<j->us[m]?=some y->m7 y u=false
 |[],_,h=>by cases h
 |y::ys,j,h=>by
  unfold wg at h;split at h
  ·rename_i hy;cases h;exact ⟨by simp [hy],λm y hm=>absurd hm (Nat.not_lt_zero _)⟩
  ·rename_i hy;obtain ⟨k,hk,rfl⟩:=yJ.mp h;obtain ⟨h1,h2⟩:=Um hk;refine ⟨by simpa using h1,λm z hm hz=>?_⟩;cases m with
   |zero=>cases hz;simpa using hy
   |succ m=>exact h2 m z (by omega) (by simpa using hz)
def Zw (a b:M):M:=λε=>(a ε).bind λx=>(b ε).bind λy=>match x,y with
 | .lst xs,.at u=>(ats xs).bind λus=>if k6 u=true/\us.all k6=true/\us.length<=lim then (wg u us).map λ(j:Nat)=>PV.at (.int (j:Int)) else none
 |_,_=>none
instance {K:Fg}{to te:TE}{a b:M}[sa:i7 to a][sb:SemE te b]:SemE (tBM K "list" (Gy K) to (i6 te qa)) (Zw a b) where
 h:=λe _ _ _ _ _ rs _ q=>by
  obtain ⟨x,ex,e⟩:=bind_some e;obtain ⟨y,ey,e⟩:=bind_some e;split at e
  ·rename_i xs u;obtain ⟨us,eu,e⟩:=bind_some e;split at e
   ·rename_i hf;obtain ⟨j,hj,rfl⟩:=yJ.mp e;refine sa.h ex rs λv Hs1 H1 x1 r1=>?_;obtain ⟨p,vs,rfl,e1,r2⟩:=qd x1.s3 r1;rw [jR eu] at r2;cases r2.ats;refine ⟨.inl ⟨rfl,_,SqL.of e1⟩,sb.h ey (rs.go x1) λw Hs2 H2 x2 r3=>?_⟩;cases rep_at.mp r3;obtain ⟨j1,j2⟩:=Um hj;exact ⟨p,us,_,j,rfl,rfl,SqL.of (x2.s2 _ _ e1),hf.1,hf.2.1,hf.2.2,j1,j2,q _ _ _ (x1.trans x2) (rep_at.mpr rfl)⟩
   ·cases e
  ·cases e
end Mi
namespace L2
open PySem PySem.Spec PySem.Calls PyProof.Rows
variable{x:Str}{e:Expr}{te:TE}{p pos:Pos}{es:List Expr}{t:TA}{h0:Heap}
section
variable {X:Cx}{K:Fg}
theorem u8 {N P:List Str}{sc:Scope}(h1:sc.kind = .function:=by rfl)(h2:sc.isCoroutine=false:=by rfl)(h3:sc.isGenerator=false:=by rfl)(h4:N.Nodup:=by decide +kernel)(h5:N.take P.length=P:=by rfl)(h6:∀ x∈P,sc.names.lookup x=some .local∨sc.names.lookup x=some .cell:=by decide +kernel)(h7:∀ y∈sc.names,y.2 ≠ .free:=by decide +kernel):w9 N P sc:=⟨h1,h2,h3,h4,h5,h6,h7⟩
theorem sW (i:Nat){pos':Pos}(hN:X.N.Nodup)(he:PE X e te)(hi:X.N[i]?=some x:=by rfl)(hx:Loc X.env.scope x:=by first|exact Or.inl rfl|exact Or.inr rfl)(hs:swapsWith e (some (.Name x pos')) pos.line X.env=pure false:=by rfl)(hf:X.fn x=true∨X.env.scope.names.lookup x=some .local:=by first|exact .inl rfl|exact .inr rfl):PS X (.Assign [.Name x pos'] e pos) (zx te (qQ i)):=qv hN hi hx he hs hf
theorem aW (ha:PE X e te)(hs:starEach [e] X.env=(false,eval e X.env)::starEach [] X.env:=by rfl):PA X [e] (i6 te qa):=j9 ha u6 hs
theorem aC (ha:PE X e te)(hr:PA X es t)(hs:starEach (e::es) X.env=(false,eval e X.env)::starEach es X.env:=by rfl):PA X (e::es) (i6 te t):=j9 ha hr hs
theorem iW {a b:Expr}{ta tb:TE}(hK:X.K=K)(ha:PE X a ta)(hb:PE X b tb)(hs:Wb b:=by exact λ_ _=>rfl):PE X (.Subscript a b pos) (tOp (rIx K) ta tb):=XR (Cg hK) ha hb hs
end
section
variable {X:Cx}{K:Fg}
theorem fW {ps:List Str}{sp:Sp}{k j:Nat}(c:Fn X.prog X.w X.K X.mg X.base k x ps sp)(hr:Room j X.A)(ha:PA X (e::es) t)(hj:k<=j:=by decide)(hg:Gl X x:=by rfl)(hdb:(x==("__debug__":Str))=false:=by decide)(he:starEach (e::es) X.env=(false,eval e X.env)::starEach es X.env:=by rfl)(hpl:(backTo pos (starEach es X.env)).any (·.1)=false:=by rfl):PE X (.Call (.Name x p) (e::es) [] pos) (xH sp [] E0 t):=qu c hr hj hg ha hdb he hpl
theorem gW (i:Nat)(hN:X.N.Nodup)(hi:X.N[i]?=some x:=by rfl)(hx:Loc X.env.scope x:=by first|exact Or.inl rfl|exact Or.inr rfl)(hf:X.fn x=true∨X.env.scope.names.lookup x=some .local:=by first|exact .inl rfl|exact .inr rfl):PG X (.Name x pos) (qQ i):=p8 hN hi hx hf
end
section
variable {P:Program}{w:World}{A:Around}{R:Result->Shared->Prop}{I S:Addr}{fp wr:List Addr}{n:Nat}{Pp:Nat->Value->Prop}{St:Nat->Heap->Prop}
theorem BG (W:Walks P w A.in1 I fp wr n Pp St)(its:Nat->List Value)(hSf:S∉fp)(lo:h0.objs.size<=S)(hw:∀ b∈wr,h0.get? b=none)(lv:∀ i h,St i h->∀ b∈wr,b<h.objs.size)(hv:∀ i v,Pp i v->∃ b c,v = .ref b/\IsL h0 b (its i).toArray c):∀ (m i:Nat) (s:Shared) (t c ct:Nat) (acc:List Value),n-i=m->i<=n->St i s.heap->(∀ b o,h0.get? b=some o->s.heap.get? b=some o) -> s.heap.get? S=some { cls:= .type "list",dict:=none,data:= .seq #[.ref t] c,slots:=#[] }->IsL s.heap t acc.toArray ct->t∉wr->t≠S->h0.objs.size<=t -> acc.length+((List.range' i (n-i)).flatMap its).length<=sizeLine -> (∀ h' tk t' c',(∀ b o,h0.get? b=some o->h'.get? b=some o)->IsL h' t' (acc++(List.range' i (n-i)).flatMap its).toArray c'->h0.objs.size<=t'->R (.ok (.ret (.ref t'))) { s with heap:=h',toks:=tk }) -> codeAny (model P w) A (.builtin "sum.loop" ⟨[.ref I,.ref S,rawInt 2,rawInt 0],[]⟩) R s:=by
 have hSw:S∉wr:=λz=>hSf (W.sub _ z);have new:∀ b o,h0.get? b=some o->b≠S:=λb o e z=>uY _ (yB (z▸yT e) lo);intro m
 induction m with
 |zero =>
  intro i s t c ct acc hm hi st k0 hS ht tw tS lt sz hR;have hin:i=n:=by omega
  subst hin;refine codeAny_builtin PySem.F.entry_sum_loop ?_;rw [Around.under_plainId PySem.F.plain_sum_loop _];show wpAny _ A.in1 (seqItems? (.ref S) >>= _) _ _ s;refine yY (wpAny_seqItems hS rfl ?_);show wpAny _ A.in1 (tryCatch (pyNext (.ref I)) _ >>= _) _ _ s;refine yY (wpAny_tryCatch (W.done s _ _ st λh' tk kk=>?_));refine yI (hR h' tk t ct (λb o e=>kk b o (λz=>by rw [hw b z] at e;cases e) (k0 b o e)) ?_ lt);rw [Nat.sub_self];simp only [List.range'_zero,List.flatMap_nil,yo];exact kk t _ tw ht
 |succ m ih =>
  intro i s t c ct acc hm hi st k0 hS ht tw tS lt sz hR;have hlt:i<n:=by omega
  have er:List.range' i (n-i)=i::List.range' (i+1) (n-(i+1)):=by rw [show n-i=(n-(i+1))+1 by omega];rfl
  rw [er,List.flatMap_cons] at sz hR;rw [yL] at sz;refine codeAny_builtin PySem.F.entry_sum_loop ?_;rw [Around.under_plainId PySem.F.plain_sum_loop _];show wpAny _ A.in1 (seqItems? (.ref S) >>= _) _ _ s;refine yY (wpAny_seqItems hS rfl ?_);show wpAny _ A.in1 (tryCatch (pyNext (.ref I)) _ >>= _) _ _ s;refine yY (wpAny_tryCatch (W.item i s _ _ hlt st λv h' tk hP st' kk=>?_));obtain ⟨b,cb,rfl,hb⟩:=hv i v hP;have hS':=kk S _ hSw hS;have ht':=kk t _ tw ht;have k1:∀ b o,h0.get? b=some o->h'.get? b=some o:=λb o e=>kk b o (λz=>by rw [hw b z] at e;cases e) (k0 b o e);show wpAny _ A.in1 ((holding [Value.ref b] (binaryOp .Add (.ref t) (.ref b))).attempt >>= _) _ _ _;refine yY (wpAny_attempt (wpAny_holding (PySem.P.add_list ht' (k1 _ _ hb) ?_ (by rw [yV,yV];omega))));have hS1:=yW { cls:= .type "list",data:= .seq (acc.toArray++(its i).toArray) } hS';show wpAny _ A.in1 (updateSeq S (λ_=>#[Value.ref h'.objs.size]) >>= _) _ _ _;refine yY (wpAny_updateSeq hS1 rfl ?_);have hS2:=uK (Obj.mapSeq λ_=>#[Value.ref h'.objs.size]) hS1 rfl;refine yY (wpAny_letGo ?_);have ne:h'.objs.size≠S:=Nat.ne_of_gt (yT hS');have hlo:h0.objs.size<=h'.objs.size:=uT (Nat.lt_of_le_of_lt lo (yT hS'));have oth:∀ b o,b≠S->h'.get? b=some o->(((h'.push { cls:= .type "list",data:= .seq (acc.toArray++(its i).toArray) }).update S (Obj.mapSeq λ_=>#[Value.ref h'.objs.size])).update S (Obj.mapSeq λ_=>#[Value.ref h'.objs.size])).get? b=some o:=λb o nb e=>by
   rw [yf _ _ (Ne.symm nb),yf _ _ (Ne.symm nb)];exact yW _ e
  refine yY (wpAny_updateSeq hS2 rfl (yI ⟨plainId_quiet PySem.F.plain_sum_loop _,ih (i+1) _ h'.objs.size _ 0 (acc++its i) (by omega) hlt (W.frame _ _ _ st' λb z o e=>oth b o (λq=>hSf (q▸z)) e) (λb o e=>oth b o (new b o e) (k1 b o e)) (uK _ hS2 rfl) ?_ (λz=>uY _ (lv _ _ st' _ z)) ne hlo (by rw [yL];omega) λh2 tk2 t2 c2 k2 l2 lo2=>?_⟩))
  ·show (((h'.push { cls:= .type "list",data:= .seq (acc.toArray++(its i).toArray) }).update S _).update S _).get? h'.objs.size=_;rw [yf _ _ (Ne.symm ne),yf _ _ (Ne.symm ne),yy _ rfl,List.append_toArray]
  ·rw [uS] at l2;exact hR h2 tk2 t2 c2 k2 l2 lo2
end
section
variable {P:Program}{w:World}{A:Around}{E:Value->Shared->Prop}{s:Shared}{l z:Addr}{bs:List Addr}
theorem KY (v u:Value):argsOk "sum" ⟨[v],[(Str.ofString "start",u)]⟩:=by unfold argsOk;kernel_rfl
theorem Bo (u:Value):Builtin.Builtins.bindParams "sum" ["start"] 0 ⟨[],[(Str.ofString "start",u)]⟩=pure [some u]:=by kernel_rfl
theorem Pm:∀(its:List (List Value)),(List.range' 0 its.length).flatMap (λi=>its.getD i [])=its.flatten:=λits=>by
 have go:∀(m i:Nat),its.length-i=m->i<=its.length->(List.range' i m).flatMap (λi=>its.getD i [])=(its.drop i).flatten:=by
  intro m
  induction m with
  |zero=>intro i h hi;rw [List.drop_of_length_le (by omega)];rfl
  |succ m ih =>
   intro i h hi;have hl:i<its.length:=by omega
   rw [List.range'_succ,List.flatMap_cons,ih (i+1) (by omega) hl,yb hl,yk,yA,yN hl];rfl
 exact go its.length 0 rfl (uZ _)
theorem Ny:isSubtype (.type "list") (.type "bytearray")=pure false:=by rw [isSubtype_type];kernel_rfl
theorem Nz {Q:Value->Shared->Prop}{its:List (List Value)}{cz:Nat}(hh:A.handled=none)(k0:∀ b o,h0.get? b=some o->s.heap.get? b=some o)(hl:s.heap.IsList l (bs.map Value.ref).toArray)(hz:IsL s.heap z #[] cz)(lz:h0.objs.size<=z)(hb:∀ (i:Nat) (b:Addr),bs[i]?=some b->∃ c,IsL h0 b (its.getD i []).toArray c)(el:its.length=bs.length)(sz:its.flatten.length<=sizeLine)(h:∀ h' tk t' c',(∀ b o,h0.get? b=some o->h'.get? b=some o)->IsL h' t' its.flatten.toArray c'->h0.objs.size<=t'->Q (.ref t') { s with heap:=h',toks:=tk }):wpAny (model P w) A (call (.builtin "sum") [.ref l] [(Str.ofString "start",Value.ref z)]) Q E s:=by
 have hTz:s.TypeIs (.ref z) "list":=⟨_,hz,rfl⟩;refine kmb_tree PySem.F.kind_sum PySem.F.plain_sum PySem.F.entry_sum (KY _ _) ?_;show wpAny _ A.in1 (Builtin.Builtins.bindParams "sum" ["start"] 0 ⟨[],[(Str.ofString "start",Value.ref z)]⟩ >>= _) _ _ s;refine yY (wpAny_of_eq (Bo _) ?_);have hlt:l<s.heap.objs.size:=by obtain ⟨_,e,_⟩:=hl;exact yT e
 refine yY (wpAny_pyIter_list hl ?_);refine yY (yI ?_);have hz1:=yW { cls:= .type "list_iterator",data:= .fields #[.ref l,.int 0 0] } hz;have hT1:Shared.TypeIs { s with heap:=s.heap.push { cls:= .type "list_iterator",data:= .fields #[.ref l,.int 0 0] } } (.ref z) "list":=⟨_,hz1,rfl⟩;simp only [List.forIn_cons,List.forIn_nil];refine yY (yY (yY (wpAny_isInstance (b:=false) hT1 PySem.F.sub_list_str ?_)));simp only [uw,if_false];refine yI (yY (yY (wpAny_isInstance (b:=false) hT1 PySem.F.sub_list_bytes ?_)));simp only [uw,if_false];refine yI (yY (yY (wpAny_isInstance (b:=false) hT1 Ny ?_)));simp only [uw,if_false];refine yI (yI (yY (wpAny_newObj_type ?_)));have hI:l≠s.heap.objs.size:=yG hlt;have hlo:h0.objs.size<=s.heap.objs.size:=yc lz (uT (yT hz));have zz:z<s.heap.objs.size:=yT hz;have sp:(s.heap.push { cls:= .type "list_iterator",data:= .fields #[.ref l,.int 0 0] }).objs.size=s.heap.objs.size+1:=uL _ _;have en:(bs.map Value.ref).toArray.size=its.length:=by rw [yV,yZ,el]
 have ef:(List.range' 0 ((bs.map Value.ref).toArray.size-0)).flatMap (λi=>its.getD i [])=its.flatten:=by rw [en];exact Pm its
 refine yI ⟨plainId_quiet PySem.F.plain_sum_loop _,BG (h0:=h0) (S:=(s.heap.push { cls:= .type "list_iterator",data:= .fields #[.ref l,.int 0 0] }).objs.size) (Walks.list (A:=A.in1) hh s.heap.objs.size l hI (bs.map Value.ref).toArray) (λi=>its.getD i []) (λq=>?_) (by rw [sp];exact Nat.le_succ_of_le hlo) (λb hb=>?_) (λi h st b hb=>?_) (λi v hv=>?_) _ 0 _ z _ cz [] rfl (uZ _) ⟨⟨_,yW _ (yy _ rfl),rfl,rfl⟩,(hl.push _).push _⟩ (λb o e=>yW _ (yW _ (k0 b o e))) (yy _ rfl) (yW _ hz1) (λq=>?_) (λq=>?_) lz (by rw [ef];simpa using sz) λh' tk t' c' k l' lo'=>?_⟩
 ·rcases yM.mp q with q|q
  ·rw [sp] at q;exact absurd q (Nat.succ_ne_self _)
  ·have q:=yP.mp q;rw [sp] at q;exact uY _ (Nat.lt_trans (uF _) (q▸hlt))
 ·rw [yP.mp hb];exact uW hlo
 ·rw [yP.mp hb];obtain ⟨⟨o,e,_⟩,_⟩:=st;exact yT e
 ·rw [List.getElem?_toArray,yO] at hv;obtain ⟨b,e1,rfl⟩:=yJ.mp hv;obtain ⟨c,e2⟩:=hb i b e1;exact ⟨b,c,rfl,e2⟩
 ·exact uY _ (yP.mp q▸zz)
 ·rw [sp] at q;exact uY _ (Nat.lt_trans (uF _) (q▸zz))
 ·rw [ef,List.nil_append] at l';exact h h' tk t' c' k l' lo'
end
section
variable {X:Cx}
theorem GM:∀{bs:List Addr}{us:List Value},Vals (bs.map V.ref) us->us=bs.map Value.ref
 |[],us,r=>by cases r;rfl
 |b::bs,us,r=>by
  cases r with
  |cons r1 r2=>rw [GM r2,show _=Value.ref b from r1];rfl
theorem UG {pins:List (Addr×Obj)}{σ:St}{H:Hp}{s:Shared}(I:Inv X pins σ H s):∀{bs:List Addr}{xss:List (List V)},xss.length=bs.length->(∀(i:Nat)(b:Addr),bs[i]?=some b->H b=some (.lst (xss.getD i []))) -> ∃ iss:List (List Value),iss.length=bs.length/\Vals xss.flatten iss.flatten/\∀(i:Nat)(b:Addr),bs[i]?=some b->∃ c,IsL s.heap b (iss.getD i []).toArray c
 |[],[],_,_=>⟨[],rfl,.nil,λi b z=>by simp at z⟩
 |b::bs,xs::xss,hl,h=>by
  obtain ⟨iss,e1,e2,e3⟩:=UG I (bs:=bs) (xss:=xss) (by simpa using hl) λi b e=>h (i+1) b e;obtain ⟨z,its,n,r,hz,e⟩:=I.lstM (h 0 b rfl);refine ⟨its::iss,by simp [e1],r.append e2,λi b' q=>?_⟩;cases i with
  |zero=>cases q;exact ⟨n,e⟩
  |succ i=>exact e3 i b' q
def Ko (K:Fg)(t:TA):TE:=λσ H Q=>t σ H λvs H1=>∃(a:Addr)(bs:List Addr)(xss:List (List V)),vs=[.ref a]/\SqL K H1 a (bs.map V.ref)/\(∀(i:Nat)(b:Addr),bs[i]?=some b->H1 b=some (.lst (xss.getD i [])))/\xss.length=bs.length/\xss.flatten.length<=sizeLine/\∀ p,H1 p=none->Q (.ref p) (z8 H1 p (.lst xss.flatten))
theorem Mz {K:Fg}{kp lp:Pos}(hK:X.K=K)(hc:X.calm=true)(hg:Gl X "sum")(hm:X.mg "sum"=none)(ha:PA X [e] t)(hs:backTo pos (starEach [e] X.env)=(false,eval e X.env)::backTo pos (starEach [] X.env):=by rfl)(hpl:(backTo pos (starEach [e] X.env)).any (·.1)=false:=by rfl):PE X (.Call (.Name "sum" p) [e] [⟨some "start",.List [] lp,kp⟩] pos) (Ko K t):=by subst hK;intro pins s σ H Q I h;refine wpAny_Call_Name_kw (jw I hg hm Zn ?_ (by decide) (by decide));refine PyProof.Rows.callWith_kw (j5 (ha pos pins s σ H _ I h) λus s1 ⟨vs,H1,I1,r1,q1⟩=>?_) hs hpl;refine PyProof.Rows.kws_cons (wpAny_List_spliced ?_);obtain ⟨a,bs,xss,rfl,hq,hb,el,sz,q⟩:=q1;obtain ⟨u,rfl,ru⟩:=zf r1;obtain rfl:u=Value.ref a:=ru;obtain ⟨its,rv,pl,hz⟩:=I1.list hq;have ei:its=bs.map Value.ref:=GM rv;subst ei;obtain ⟨iss,e1,e2,e3⟩:=UG I1 el hb;have hl:s1.heap.IsList a (bs.map Value.ref).toArray:=pl.isList;refine Calls.spliced_nil ⟨uZ _,PyProof.Rows.kws_nil ?_⟩;show wpAny _ _ (call (.builtin "sum") [.ref a] [(Str.ofString "start",Value.ref s1.heap.objs.size)]) _ _ _;refine Nz (its:=iss) (bs:=bs) (h0:=s1.heap) (cz:=0) (I1.ok.hd hc) (λb o e=>yW _ e) (hl.push _) (yy _ rfl) (yS _) e3 e1 (by rw [<- e2.length];exact sz) λh' tk t' c' k l' lo'=>?_;exact ⟨.ref t',_,I1.laid (o:= .lst xss.flatten) (t':=tk) k lo' ⟨sz,_,c',e2,l'⟩,rfl,q t' (I1.hok.fresh lo')⟩
end
end L2
namespace Mi
open PySem L2
variable{a:M}
def xN:List PV->Option (List (List PV))
 |[]=>some []
 | .lst ys::xs=>(xN xs).map (ys::·)
 |_::_=>none
theorem UP {Hs:Hp}:∀{xs:List PV}{yss:List (List PV)}{ws:List V},xN xs=some yss->Reps Hs xs ws->∃(bs:List Addr)(xss:List (List V)),ws=bs.map V.ref/\xss.length=bs.length/\(∀(i:Nat)(b:Addr),bs[i]?=some b->Hs b=some (.lst (xss.getD i [])))/\Reps Hs yss.flatten xss.flatten
 |[],yss,ws,h,r=>by
  cases h;cases reps_nil.mp r;exact ⟨[],[],rfl,rfl,λi b z=>by simp at z,.nil⟩
 |x::xs,yss,ws,h,r=>by
  unfold xN at h;split at h
  ·rename_i e;cases e
  ·rename_i ys xs' e;injection e with e1 e2;subst e1 e2;obtain ⟨zss,hz,rfl⟩:=yJ.mp h;obtain ⟨w,ws',rfl,p,q⟩:=reps_cons.mp r;obtain ⟨b,us,rfl,hb,ru⟩:=rep_lst.mp p;obtain ⟨bs,xss,rfl,e1,e2,e3⟩:=UP hz q;refine ⟨b::bs,us::xss,rfl,by simp [e1],λi b' z=>?_,ru.append e3⟩;cases i with
   |zero=>cases z;exact hb
   |succ i=>exact e2 i b' z
  ·cases h
def Xe (a:M):M:=λε=>(a ε).bind λx=>match x with
 | .lst xs=>(xN xs).bind λyss=>if yss.flatten.length<=lim then some (.lst yss.flatten) else none
 |_=>none
instance {K:Fg}{te:TE}[sa:i7 te a]:xw (Ko K (i6 te qa)) (Xe a) where
 h:=λe _ _ _ _ _ rs _ q=>by
  obtain ⟨x,ex,e1⟩:=bind_some e;split at e1
  ·obtain ⟨yss,ey,e2⟩:=bind_some e1;split at e2
   ·rename_i hl;cases e2;refine sa.h ex rs λv Hs1 H1 x1 r1=>?_;obtain ⟨p,ws,rfl,ep,r2⟩:=qd x1.s3 r1;obtain ⟨bs,xss,rfl,a1,a2,a3⟩:=UP ey r2;exact ⟨p,bs,xss,rfl,SqL.of ep,λi b z=>x1.s3 _ _ (a2 i b z),a1,qR (by rw [a3.length];exact hl),λp' hp=>q _ _ _ (x1.trans (.newO x1.s3 hp)) (x1.s2.free hp) (x1.s3.free hp) ⟨_,y7,a3⟩⟩
   ·cases e2
  ·cases e1
theorem Pf {ε:ME}{xs:List PV}{yss:List (List PV)}(h:a ε=some (.lst xs))(k:xN xs=some yss)(l:yss.flatten.length<=lim):Xe a ε=some (.lst yss.flatten):=by unfold Xe;rw [h];show (xN xs).bind _=_;rw [k];exact if_pos l
end Mi
namespace L2
open PySem PySem.Spec PyProof.Rows
variable{oe:Obj}{vs:Array Value}{l:List Env}{h:Heap}
theorem BP (o:Obj)(f:Array Value->Array Value):(o.mapFields f).dict=o.dict:=by obtain ⟨c,d,dt,sl⟩:=o;cases dt<;>rfl
structure jJ (base h:Heap)(l:List Env)(e:Addr)(cls a0 fl:Value)(dx:Option Addr):Prop where
 st:base.StaysIn h
 new:base.get? e=none
 fun_:h.FunFrames base l
 ex:∃ oe vs T oT ts,h.get? e=some oe/\oe.cls=cls/\oe.dict=dx/\vs[0]?=some a0/\oe.data = .fields vs/\vs[1]?=some (.ref T)/\base.get? T=none/\T≠e/\h.get? T=some oT/\oT.data = .fields ts/\ts[3]?=some fl
section
variable {M:Model}{A:Around}{E:Value->Shared->Prop}{s:Shared}{base:Heap}{env:Env}{outer:List Env}{L e:Addr}{dx:Option Addr}{cls a0 fl:Value}{Q:Unit->Shared->Prop}
theorem UV {head:Value}{had:Bool}(fr:A.frames=some (env::outer))(ff:s.heap.FunFrames base (env::outer))(hf:env.frame=some L)
  (he:s.heap.get? e=some oe) (st:base.StaysIn s.heap) (ne:base.get? e=none) (hd:oe.data = .fields vs) (sz:1<vs.size) (h0:vs[0]?=some a0)
  (h:∀ h',jJ base h' (env::outer) e oe.cls a0 (rawInt L) oe.dict->s.heap.UpToSlots h'->Q () { s with heap:=h' }) :
  wpAny M A (do let a <- frameOf env;let pl <- entryPlaceOf L had;let b <- EntryCells.newEntry head a .none (rawInt L) .none pl;setField (.ref e) 1 b) Q E s:=by
 have out:e∉(env::outer).filterMap (·.frame):=λz=>by
  obtain ⟨_,o,z1,z2⟩:=ff.mem z;rw [he] at z1;cases z1;exact z2 vs hd
 refine yY (wpAny_frameOf_fun fr ff hf λh1 s1=>yY (wpAny_entryPlaceOf λpl hpl=>?_));unfold EntryCells.newEntry newFields;refine yY (wpAny_newObj_type ?_ (hpl.sizeOk5 _ _ _ _ _));have e1:h1.get? e=some oe:=(s1.2.1 e out).trans he;have k1:base.StaysIn h1:=λb o q=>(s1.2.1 b λz=>by rw [(ff.mem z).1] at q;cases q).trans (st b o q);generalize hob:({ cls:= .type "traceback",dict:=none,data:= .fields ([head,.ref L,.none,rawInt L,.none]++(if pl.isEmpty then List.replicate 6 Value.none else pl)).toArray }:Obj)=ob;have e2:=yW (h:=h1) ob e1;refine wpAny_setField e2 hd sz (h _ ?_ ?_)
 ·have nT:h1.objs.size≠e:=Nat.ne_of_gt (yT e1);have d3:=Obj.data_mapFields hd (·.setIfInBounds 1 (Value.ref h1.objs.size));have e3:=uK (Obj.mapFields (·.setIfInBounds 1 (Value.ref h1.objs.size))) e2 (Obj.isFreed_of_fields d3);have eT:=(yf (h1.push ob) (Obj.mapFields (·.setIfInBounds 1 (Value.ref h1.objs.size))) (Ne.symm nT)).trans (yy h1 (by subst hob;rfl));have keep:∀ b o,b≠e->h1.get? b=some o->((h1.push ob).update e (Obj.mapFields (·.setIfInBounds 1 (Value.ref h1.objs.size)))).get? b=some o:=λb o nb q=>by
   rw [yf _ _ (Ne.symm nb)];exact yW _ q
  refine ⟨λb o q=>keep b o (λz=>by rw [z,ne] at q;cases q) (k1 b o q),ne,ff.of_keeps λb o q nf=>?_,?_⟩
  ·obtain ⟨sl,q1⟩:=s1.2.2 b o q;exact ⟨_,keep b _ (λz=>by rw [z,he] at q;cases q;exact nf vs hd) q1,rfl⟩
  ·refine ⟨_,_,h1.objs.size,_,_,e3,Obj.cls_mapFields _ _,BP _ _,by rw [Array.getElem?_setIfInBounds_ne (by decide)];exact h0,d3,by simp [sz],k1.fresh,nT,eT,by subst hob;rfl,?_⟩
   first|(simp;done)|(rcases hpl with rfl|⟨_,_,_,_,_,_,_,rfl⟩<;>simp)
 ·intro b o q nf;obtain ⟨sl,q1⟩:=s1.2.2 b o q;refine ⟨sl,?_⟩;show ((h1.push ob).update e _).get? b=_;rw [yf _ _ (λz:e=b=>by rw [<- z,he] at q;cases q;exact nf vs hd)];exact yW _ q1
theorem Ja (F:jJ base s.heap l e cls a0 fl dx)(h:∀ h',jJ base h' l e cls a0 .none dx->s.heap.UpToSlots h'->Q () { s with heap:=h' }):wpAny M A (setFlight (.ref e) none) Q E s:=by
 obtain ⟨st,ne,ff,oe,vs,T,oT,ts,q1,q2,q3,q4,q5,q6,q7,q8,q9,q10,q11⟩:=F;have s3:3<ts.size:=(uM.mp q11).1;have oth:∀ b,b≠T->(s.heap.update T (Obj.mapFields (·.setIfInBounds 3 ((none:Option Addr).elim Value.none λf=>rawInt f)))).get? b=s.heap.get? b:=λb nb=>yf _ _ (Ne.symm nb);have nT:∀ b o,s.heap.get? b=some o->(∀ vs,o.data ≠ .fields vs)->b≠T:=λb o q nf z=>by
  rw [z,q9] at q;cases q;exact nf ts q10
 unfold setFlight;refine yY (wpAny_field q1 q5 q6 ?_);rw [if_pos (show (Value.ref T != Value.none)=true from by simp)];refine wpAny_setField q9 q10 s3 (h _ ⟨λb o q=>(oth b λz=>by rw [z,q7] at q;cases q).trans (st b o q),ne,ff.of_keeps λb o q nf=>⟨o,(oth b (nT b o q nf)).trans q,rfl⟩,?_⟩ λb o q nf=>⟨o.slots,(oth b (nT b o q nf)).trans q⟩);exact ⟨oe,vs,T,_,_,(oth e (Ne.symm q8)).trans q1,q2,q3,q4,q5,q6,q7,q8,uK _ q9 (Obj.isFreed_of_fields (Obj.data_mapFields q10 _)),Obj.data_mapFields q10 _,by simp [s3]⟩
theorem UpTo.trans {h1 h2 h3:Heap}(a:h1.UpToSlots h2)(b:h2.UpToSlots h3):h1.UpToSlots h3:=Heap.UpToSlots.trans a b
theorem CV (fr:A.frames=some (env::outer))(hf:env.frame=some L)(F:jJ base s.heap (env::outer) e cls a0 .none dx)(h:∀ h',jJ base h' (env::outer) e cls a0 (rawInt L) dx->s.heap.UpToSlots h'->Q () { s with heap:=h' }):wpAny M A (noteFrame (.ref e) env) Q E s:=by
 obtain ⟨st,ne,ff,oe,vs,T,oT,ts,q1,q2,q3,q4,q5,q6,q7,q8,q9,q10,q11⟩:=F;subst q2 q3;unfold noteFrame;simp only [hf];refine yY (wpAny_field q1 q5 q6 ?_);rw [if_pos (show (Value.ref T != Value.none)=true from by simp)];refine yY (wpAny_field q9 q10 q11 ?_);rw [if_neg (show ¬ ((Value.none==rawInt L)=true) from by simp [rawInt])];refine yY (wpAny_setField q9 q10 (uM.mp q11).1 ?_);have oth:∀ b,b≠T->(s.heap.update T (Obj.mapFields (·.setIfInBounds 3 Value.none))).get? b=s.heap.get? b:=λb nb=>yf _ _ (Ne.symm nb);have nT:∀ b o,s.heap.get? b=some o->(∀ vs,o.data ≠ .fields vs)->b≠T:=λb o q nf z=>by
  rw [z,q9] at q;cases q;exact nf ts q10
 refine UV fr (ff.of_keeps λb o q nf=>⟨o,(oth b (nT b o q nf)).trans q,rfl⟩) hf ((oth e (Ne.symm q8)).trans q1) (λb o q=>(oth b λz=>by rw [z,q7] at q;cases q).trans (st b o q)) ne q5 (uM.mp q6).1 q4 λh' F' up=>h h' F' λb o q nf=>?_;exact up b o ((oth b (nT b o q nf)).trans q) nf
theorem Cw (fr:A.frames=some (env::outer))(ff:s.heap.FunFrames base (env::outer))(hf:env.frame=some L)(he:s.heap.get? e=some oe)(st:base.StaysIn s.heap)(ne:base.get? e=none)(hd:oe.data = .fields vs)(h1:vs[1]?=some .none)(h0:vs[0]?=some a0)(h:∀ h',jJ base h' outer e oe.cls a0 .none oe.dict->s.heap.UpToSlots h'->Q () { s with heap:=h' }):wpAny M A (leaving env (.ref e)) Q E s:=by unfold leaving noteFrame;simp only [hf];refine yY (yY (wpAny_field he hd h1 ?_));rw [if_neg (by decide)];refine UV fr ff hf he st ne hd (uM.mp h1).1 h0 λh1 F1 u1=>?_;refine Ja F1 λh2 F2 u2=>h h2 ⟨F2.st,F2.new,F2.fun_.2.2,F2.ex⟩ (UpTo.trans u1 u2)
end
structure Fly2 (h0 h:Heap)(H:Hp)(e:Addr)(cls:Value)(dx:Option Addr):Prop where
 ex:∃ oe vs T oT ts a0,h.get? e=some oe/\oe.cls=cls/\oe.dict=dx/\vs[0]?=some a0/\oe.data = .fields vs/\vs[1]?=some (.ref T)/\T≠e/\h.get? T=some oT/\oT.data = .fields ts/\ts[3]?=some .none/\H T=none/\h0.get? T=none
 free:H e=none
 new:h0.get? e=none
def CX2 (P:Program)(w:World):CXT:=λouter H s E e s'=>∃ ea cls dx H',e = .ref ea/\s'.os=s.os/\AllBare s'.gens/\Un (c6 outer) [] H H' s.heap s'.heap/\HOk P w H' s'.heap/\Fly2 s.heap s'.heap H' ea cls dx/\E cls dx H'
section
variable {M:Model}{A:Around}{Er:Value->Shared->Prop}{s:Shared}{h0 base:Heap}{H:Hp}{P:Program}{w:World}{env:Env}{outer:List Env}{L e:Addr}{cls:Value}{dx:Option Addr}{Q:Unit->Shared->Prop}
theorem Fly2.hid (fr:h.FunFrames base l)(F:Fly2 h0 h H e cls dx):∃ T a0,T≠e/\H T=none/\h0.get? T=none/\(∃ o,h.get? T=some o)/\jJ (PySem.W.hideAll h ([e,T]++c6 l)) h l e cls a0 .none dx:=by obtain ⟨⟨oe,vs,T,oT,ts,a0,e1,e2,e2',e3,e4,e5,e6,e7,e8,e9,e10,e11⟩,e12,e13⟩:=F;have hin:∀ x∈l,∀ b,x.frame=some b->b∈[e,T]++c6 l:=λx hx b hb=>yv _ (Jb hx hb);exact ⟨T,a0,e6,e10,e11,⟨_,e7⟩,⟨λb o q=>PySem.W.of_hideAll _ q,PySem.W.hideAll_none _ (yg _ (by simp)),PySem.W.funFrames_hide fr hin,oe,vs,T,oT,ts,e1,e2,e2',e3,e4,e5,PySem.W.hideAll_none _ (yg _ (by simp)),e6,e7,e8,e9⟩⟩
theorem NW {h':Heap}(fr:h.FunFrames base l)(up:h.UpToSlots h'):∀ b o,b∈c6 l->h.get? b=some o->∃ z,h'.get? b=some { o with slots:=z }:=λb o hb q=>up b o q (by
 obtain ⟨_,o2,z3,z4⟩:=fr.mem hb;rw [q] at z3;cases z3;exact z4)
theorem Cv {a0:Value}(hfr:A.frames=some (env::outer))(hf:env.frame=some L)(fr:s.heap.FunFrames base (env::outer))(hok:HOk P w H s.heap)(hp:∀ b o,h0.get? b=some o->∃ o',s.heap.get? b=some o')(he:s.heap.get? e=some oe)(hd:oe.data = .fields vs)(v1:vs[1]?=some .none)(v0:vs[0]?=some a0)(e12:H e=none)(e13:h0.get? e=none)(hQ:∀ h',wR ([e]++c6 (env::outer)) (env::outer) s.heap h'->Fly2 h0 h' H e oe.cls oe.dict->Q () { s with heap:=h' }):wpAny M A (leaving env (.ref e)) Q Er s:=by have hin:∀ x∈env::outer,∀ b,x.frame=some b->b∈[e]++c6 (env::outer):=λx hx b hb=>yv _ (Jb hx hb);refine Cw (base:=PySem.W.hideAll s.heap ([e]++c6 (env::outer))) hfr (PySem.W.funFrames_hide fr hin) hf he (λb o q=>PySem.W.of_hideAll _ q) (PySem.W.hideAll_none _ (yg _ (by simp))) hd v1 v0 λh' x up=>?_;obtain ⟨f1,f2,f3,oe',vs',T',oT',ts',g1,g2,g2',g3,g4,g5,g6,g7,g8,g9,g10⟩:=x;have sl:=NW fr up;obtain ⟨n1,n2⟩:=BU (S:=[e]) hok hp fr rfl sl g6 g8 g9 (λz=>by rw [yP.mp z];exact ⟨e12,e13⟩);exact hQ h' ⟨λb o nb q=>f1 b o (PySem.W.hideAll_get _ q nb),sl⟩ ⟨⟨oe',vs',T',oT',ts',_,g1,g2,g2',g3,g4,g5,g7,g8,g9,g10,n1,n2⟩,e12,e13⟩
end
def Wg (X:Cx)(E:XK):Prop:=∀(pins:List (Addr×Obj))(σ:St)(H:Hp)(s:Shared)(ea C:Addr)(oe:Obj)(vs:Array Value)(a0:Value),Inv X pins σ H s->s.heap.get? ea=some oe->oe.cls = .ref C->oe.data = .fields vs->vs[1]?=some .none->vs[0]?=some a0->H ea=none->X.s₀.heap.get? ea=none->E (.ref C) oe.dict H->X.xe (.ref ea) s
section
variable {P:Program}{w:World}{K:Fg}{mg:Str->Option Value}{base:Heap}{N:List Str}{qual:Str}{scope:Scope}{f:Addr}{cd:Value}{A:Around}{outer:List Env}{s:Shared}{H:Hp}{E:XK}
theorem NB:Wg (ql (CX2 P w) P w K mg base N qual scope f cd A outer s H E) E:=by
 intro pins σ H1 s1 ea C oe vs a0 I he hc hd v1 v0 n1 n0 q;refine Cv (h0:=s.heap) (H:=H1) (P:=P) (w:=w) (base:=base) (L:=s.heap.objs.size) I.ok.frames rfl I.stack I.hok (λb o e=>I.base.there b o e (λz=>nomatch z)) he hd v1 v0 n1 n0 λh2 k F=>?_;refine ⟨ea,_,_,H1,rfl,I.os,I.bare,Un.off (S:=[ea]++c6 (envOfC qual scope s.heap.objs.size f cd::outer)) I.base k.keep (λb hb=>?_) (λb o hb e=>k.slot b o (uR.mpr ?_) e),I.hok.off k.keep (λb hb=>?_),F,by rw [hc];exact q⟩
 ·rcases yx.mp hb with z|z
  ·rw [yP.mp z];exact .inr n0
  ·rcases yM.mp (I.stkSub b z) with z|z
   ·refine .inr ?_;rw [z];exact uW (yS _)
   ·exact .inl z
 ·obtain ⟨x,hx,hf⟩:=uR.mp hb;exact ⟨x,yR _ hx,hf⟩
 ·rcases yx.mp hb with z|z
  ·rw [yP.mp z];exact n1
  ·exact I.stkFree b z
theorem Fun.ok2 {x qual:Str}{st:Stmt}{f:Addr}{fd:FuncData}{N ps:List Str}{k:Nat}{sp:Sp}(F:Fun K x qual st f fd)(S:w9 N ps (j3 st))(len:∀ vs H Q E,sp vs H Q E->vs.length=ps.length)(hbody:∀(cdv:Value)(A:Around)(outer:List Env)(s:Shared)(H:Hp)(vs:List V)(Q:VK)(E:XK),Room k (A.deeper (envOfC qual (j3 st) s.heap.objs.size f cdv))->sp vs H Q E -> ∃ t,PSs (ql (CX2 P w) P w K mg base N qual (j3 st) f cdv A outer s H E) (t9 st) t/\t { nx:=λ_ H'=>Q .non H',rt:=Q } (start N vs) H):FnOk P w K mg base (CX2 P w) (k+1) f fd ps sp:=by obtain ⟨oc,od,kV,doc,pm,an,cdv,ct,osl,rfl,lk,hcd⟩:=F.ex;exact ZK lk hcd S len λA outer s H vs Q E hr hsp=>hbody cdv A outer s H vs Q E hr hsp
end
structure Fy (P:Program)(w:World)(K:Fg)(mg:Str->Option Value)(base:Heap)(k:Nat)(x:Str)(ps:List Str)(sp:Sp):Prop where
 ex:∃ f fd,FnOk P w K mg base (CX2 P w) k f fd ps sp/\mg x=some (.ref f)/\PySem.W.keepIn K (.ref f)=true/\Binds K fd ps []
section
variable {X:Cx}{k j:Nat}{x:Str}{ps:List Str}{sp:Sp}{e:Expr}{es:List Expr}{t:TA}{p pos:Pos}{E:XK}{σ:St}
theorem MH (c:Fy X.prog X.w X.K X.mg X.base k x ps sp)(hr:Room j X.A)(hj:k<=j)(hx:wT (CX2 X.prog X.w) X σ E)(hg:Gl X x)(ha:PA X (e::es) t)(hdb:(x==("__debug__":Str))=false:=by decide)(he:starEach (e::es) X.env=(false,eval e X.env)::starEach es X.env:=by rfl)(hpl:(backTo pos (starEach es X.env)).any (·.1)=false:=by rfl):PEa X σ (.Call (.Name x p) (e::es) [] pos) (xH sp [] E t):=by obtain ⟨f,fd,F,hm,hk,hb⟩:=c.ex;intro pins s H Q I h;refine wpAny_Call_Name_kw (vc I hg hm ?_ hdb);refine PySem.W.callWith_K (h₀:=X.base) I.ok.mod.kin hk (j5 (ha pos pins s σ H _ I h) λus s1 ⟨vs,H1,I1,r,q⟩=>⟨I1.kIn,?_⟩) he hpl;exact Lz F (hr.mono hj) hb hx I1 r q
end
end L2
namespace L2
open PySem PySem.Spec PyProof.Rows PySem.W Builtin Builtin.ObjectAttr
variable{mN:Str->Option Value}{rest:List Value}{fI:Addr}{oI:Obj}
section
variable {prog:Program}{w:World}{A:Around}{E:Value->Shared->Prop}{s:Shared}{K:Frag}{e C R:Addr}{oe:Obj}{cd:ClassData}{name:Str}{v:Value}{vs:Array Value}{Q:Unit->Shared->Prop}
theorem xset (X:K.In s.heap)(he:s.heap.get? e=some oe)(hc:oe.cls = .ref C)(hdn:oe.dict=none)(hdf:oe.data = .fields vs)(hcd:clsIn K C=some cd)(hmro:cd.mro = .ref C:: .ref R::veMro)(hhd:cd.hasDict=true)(hs:findIn K (.ref C) "__setattr__"=some (some (.builtin "object.__setattr__")))(hn:findIn K (.ref C) name=some none)(h:∀ h' dx tk,h'.get? e=some { oe with dict:=some dx }->h'.Ns1 dx (λy=>if y=name then some v else none)->s.heap.objs.size<=dx->(∀ b o,b≠e->s.heap.get? b=some o->h'.get? b=some o)->Q () { s with heap:=h',toks:=tk }):wpAny (model prog w) A (setAttr (.ref e) name v) Q E s:=by
 have I:InstAt s.heap e oe C none:=⟨he,hc,by unfold notCls;rw [hdf],by rw [hdn];trivial⟩;refine set_plain X I hs ?_;obtain ⟨hp,gs,dr,tk,os⟩:=s;show codeAny _ _ _ _ (⟨hp,gs,dr,tk+1,os⟩:Shared)
 change K.In hp at X
 change hp.get? e=some oe at he
 change InstAt hp e oe C none at I
 have SF:=PySem.F.store_object;have sub:Looks (model prog w) hp (isInstance (.ref e) (.type "object")) true:=I.type.andThen (looks_mroIn X (by unfold mroIn;rw [hcd,yF,hmro];rfl));refine codeAny_call_builtin SF.slot.plain SF.entry (@check_slot (model prog w) _ _ _ "object.__setattr__" "object" "__setattr__" (.ref e) [.str name tk,v] [] _ SF.kind SF.split sub (SF.args (.ref e) (.str name tk) v) ?_);have hm:Looks (model prog w) hp (mroOf (.ref C)) cd.mro:=(looks_clsIn X hcd).andThen .now;rw [osa_eq,refuse_eq];refine yY (yY (I.type.here (yY (hm.here ?_))));rw [hmro,refuseLoop_ref,refuseLoop_ref,show veMro=[.type "ValueError",.type "Exception",.type "BaseException",.type "object"] from rfl,PySem.F.store_ValueError.passes];refine yI (yY (I.type.here (yY ((looks_findIn X hn).here (yY (yI ?_))))));show wpAny _ _ (storeInOwnDict (.ref e) (.ref C) (.str name tk) name v false) _ _ _;unfold storeInOwnDict ownDictForStores instanceDict;have he':(⟨hp,gs,dr,tk+1,os⟩:Shared).heap.get? e=some oe:=he;refine yY (yI (yY (yY (wpAny_loadPart he' ?_))));obtain ⟨ocl,odi,oda,osl⟩:=oe
 dsimp only at hc hdn hdf
 subst hc hdn hdf;refine yY ((looks_clsIn X hcd).here ?_);rw [hhd];have hx1:(hp.push { cls:= .type "dict",data:= .dict #[] }).get? e=some ⟨.ref C,none,.fields vs,osl⟩:=yW _ he;have hxs:e≠hp.objs.size:=yG (yT he);refine yY (wpAny_alloc' (yY (wpAny_update' hx1 (yI ?_))));have hg:((hp.push { cls:= .type "dict",data:= .dict #[] }).update e λo=>{ cls:=o.cls,dict:=some hp.objs.size,data:=o.data,slots:=o.slots }).get? hp.objs.size=some { cls:= .type "dict",data:= .dict #[] }:=(Heap.get?_update_ne _ _ _ _ hxs.symm).trans (Heap.get?_push_at rfl rfl);show wpAny _ _ (storeInDict hp.objs.size (.str name tk) name v) _ _ _;unfold storeInDict newKeyGuard;have hnd:((hp.push { cls:= .type "dict",data:= .dict #[] }).update e λo=>{ cls:=o.cls,dict:=some hp.objs.size,data:=o.data,slots:=o.slots }).Ns hp.objs.size (λ_=>none):=⟨_,#[],_,hg,rfl,λe he=>absurd he (by simp),λ_=>rfl⟩;refine yY (yI (yY (wpAny_nsSet1 (Heap.Ns1.of_empty hnd) λh' hn' hs'=>?_)));obtain ⟨oD,esD,epD,hoD,hdD,hcD⟩:=hn'.count (Within.cons name v Within.nil);refine yY (wpAny_lookBehind hoD (by rw [hdD];exact pastItsLine_dict (yc hcD (by rw [yC,List.length_nil,sizeLine_eq];omega))) ?_);refine yI (h h' hp.objs.size _ ?_ hn' (yS _) λb o nb q=>?_)
 ·refine (hs'.2 e hxs).trans (uK _ hx1 rfl)
 ·exact (hs'.2 b (yG (yT q))).trans ((Heap.get?_update_ne _ _ _ _ nb).trans (yW _ q))
end
section
variable {prog:Program}{w:World}{A:Around}{E:Value->Shared->Prop}{h:Heap}{g:Array GenState}{d:Drawn}{t:Nat}{os:OsState}
variable {nm q:Str}{C N:Addr}{bs bm bmB:List Value}{hdct:Bool}{sn:List Str}{sub:List Value}{ab:Bool}{col:Option Bool}{dd:Option Addr}{k0 k1 k2 k3 k5:Option Value}{B Bn newId nid initId inN:String}{bmN:List Value}
theorem NA (Fn:ExcBaseFacts Bn newId inN bmN)(hBn:bmB.contains (.type Bn)=true)(F:ExcBaseFacts B nid initId bmB)(T:OwnTail h bmB bm){Q:PySem.Fin->Shared->Prop}(hC:h.get? C=some (excClassObj nm q C N bs bm hdct sn sub ab col dd k0 k1 k2 k3 k5 newId))(hn:h.Ns N mN)(hi:mN "__init__"=some (.ref fI))(hfI:h.get? fI=some oI)(hfc:oI.cls = .type "function")(hq:∀ h' e,Heap.MadeExcOf h h' e (.ref C) rest->h.objs.size<=e->wpAny (model prog w) A (call (.ref fI) (.ref e::rest)) (λr s'=>r = .none/\Q (.done (.ret (.ref e))) s') E ⟨h',g,d,t,os⟩)(hrest:rest.length<=sizeLine):wpAny (model prog w) A (Builtin.«type.__call__» ⟨.ref C::rest,[]⟩) Q E ⟨h,g,d,t,os⟩:=by
 repeat (first|with_reducible refine wpAny_loadPart_at hC ?_|with_reducible refine wpAny_madeBy_exc hC ?_|wp_step)
 refine codeAny_call_builtin_code (Code.quiet_builtin _ Fn.quiet) (wpAny_check_new_subU Fn hBn T hC (codeAny_exc_new_subU Fn hBn F T hC ?_ hrest));show wpAny _ _ _ _ _ _;have up:∀ b o,h.get? b=some o->((h.push { cls:= .type "tuple",data:= .seq rest.toArray }).push { cls:= .ref C,data:= .fields #[.ref h.objs.size,.none,.none,.none,.bool false,.none] }).get? b=some o:=λb o z=>yW _ (yW _ z);have ge:((h.push { cls:= .type "tuple",data:= .seq rest.toArray }).push { cls:= .ref C,data:= .fields #[.ref h.objs.size,.none,.none,.none,.bool false,.none] }).get? (h.objs.size+1)=some { cls:= .ref C,data:= .fields #[.ref h.objs.size,.none,.none,.none,.bool false,.none] }:=by heap_get
 have n1:((h.push { cls:= .type "tuple",data:= .seq rest.toArray }).push { cls:= .ref C,data:= .fields #[.ref h.objs.size,.none,.none,.none,.bool false,.none] }).Ns N mN:=let ⟨o,es,ep,z,r⟩:=hn;⟨o,es,ep,up _ _ z,r⟩
 have hcC:(Value.ref C::bm).contains (.ref C)=true:=by simp
 have T1:=T.keeps up;unfold isInstance
 repeat (first|with_reducible refine wpAny_loadPart_at ge ?_|(with_reducible refine wpAny_isSubtype_exc (up _ _ hC) ?_;rw [hcC])|wp_step)
 show wpAny _ _ (typeLookup (.ref C) _) _ _ _;refine wpAny_typeLookup_tail (up _ _ hC) n1 T1 F.mroIs F.init.lookup ?_;rw [hi];refine wpAny_holding (yY ?_);unfold bindSpecial;refine yY (wpAny_typeOf (T:="function") ⟨_,up _ _ hfI,hfc⟩ ?_);rw [if_pos (by decide)];refine yI (yY (wpAny_mono (hq _ (h.objs.size+1) ⟨up,uW (uD _),h.objs.size,ge,uW (yS _),yW _ (Heap.get?_push_at rfl rfl)⟩ (uD _)) (λr s' hr=>?_) λ_ _ x=>x));obtain ⟨rfl,hQ⟩:=hr
 wp_walk
 exact hQ
theorem Br (Fn:ExcBaseFacts Bn newId inN bmN)(hBn:bmB.contains (.type Bn)=true)(F:ExcBaseFacts B nid initId bmB)(T:OwnTail h bmB bm){Q:Value->Shared->Prop}(hC:h.get? C=some (excClassObj nm q C N bs bm hdct sn sub ab col dd k0 k1 k2 k3 k5 newId))(hn:h.Ns N mN)(hi:mN "__init__"=some (.ref fI))(hfI:h.get? fI=some oI)(hfc:oI.cls = .type "function")(hq:∀ h' e,Heap.MadeExcOf h h' e (.ref C) rest->h.objs.size<=e->wpAny (model prog w) (A.under (.builtin "type.__call__" ⟨.ref C::rest,[]⟩)) (call (.ref fI) (.ref e::rest)) (λr s'=>r = .none/\Q (.ref e) s') E ⟨h',g,d,t,os⟩)(hrest:rest.length<=sizeLine):wpAny (model prog w) A (call (.ref C) rest) Q E ⟨h,g,d,t,os⟩:=by
 have f1:=tc_lookup;have f2:=tc_bind (.ref C);have hT:(⟨h,g,d,t,os⟩:Shared).TypeIs (.ref C) "type":=⟨_,hC,rfl⟩;refine wpAny_call (codeAny_of_tree ?_);show wpAny _ _ (callAny (.ref C) _) _ _ _
 repeat (any_goals (first|assumption|with_reducible refine wpAny_loadPart_at hC ?_|wp_step))
 refine ⟨rfl,codeAny_call_builtin_at (Code.quiet_builtin _ (by decide +kernel)) entry_typeCall (wpAny_check_type_call_sub hC (NA Fn hBn F T hC hn hi hfI hfc (λh' e hm hz=>?_) hrest))⟩;exact hq h' e hm hz
end
end L2
namespace L2
open PySem PySem.Spec PyProof.Rows PySem.W
variable{K:Frag}{h:Heap}{C dx e:Addr}{P:Program}{w:World}{H:Hp}{pins:List (Addr×Obj)}{σ:St}
def zR (K:Frag)(C R fI:Addr):Bool:=match K.lookup C with
 |some ⟨.type "type",_,.cls cd,sl⟩=>(match cd.mro,sl.toList with
  | .ref C':: .ref R'::bm,[_,_,_,_,some (.builtin n),_]=>C'==C&&R'==R&&bm==veMro&&n == "ValueError.__new__" && !cd.hasDel&&cd.hasDict&&tailIn K veMro (.ref R::veMro)&&nsOkIn K cd.ns&&nsIn K cd.ns "__init__" == some (some (.ref fI))
  |_,_=>false)
 |_=>false
theorem CW {N:Addr}{mg:Str->Option Value}{n:Str}{v:Value}(X:K.In h)(G:h.Ns N mg)(e:nsIn K N n=some (some v)):mg n=some v:=by
 obtain ⟨o,es,ep,ho,hd,_,hf⟩:=G;unfold nsIn at e;split at e
 next a b es' c lk =>
  have:=X _ _ lk;rw [ho] at this;cases this;cases hd;split at e
  ·rename_i en he;cases e;rw [<- hf];unfold nsFind findBy;rw [<- Array.find?_toList,he];rfl
  ·split at e<;>cases e
 next=>cases e
structure XCls (h:Heap)(K:Frag)(C R fI:Addr):Prop where
 ob:∃ nm q N bs sn sub ab col dd k0 k1 k2 k3 k5 mN,h.get? C=some (excClassObj nm q C N bs (.ref R::veMro) true sn sub ab col dd k0 k1 k2 k3 k5 "ValueError.__new__")/\h.Ns N mN/\mN "__init__"=some (.ref fI)
 tl:OwnTail h veMro (.ref R::veMro)
 cl:∃ cd,clsIn K C=some cd/\cd.mro = .ref C:: .ref R::veMro/\cd.hasDict=true
theorem VX {R fI:Addr}(X:K.In h)(q:zR K C R fI=true):XCls h K C R fI:=by
 unfold zR at q;split at q
 next dA cA sA lk =>
  split at q
  next D R' bm s0 s1 s2 s3 nw s5 em es =>
   simp only [ya,beq_iff_eq,Bool.not_eq_true'] at q;obtain ⟨⟨⟨⟨⟨⟨⟨⟨q1,q2⟩,q3⟩,q4⟩,q5⟩,q6⟩,q7⟩,q8⟩,q9⟩:=q;subst q1 q2 q3 q4;have cl:clsIn K D=some cA:=by unfold clsIn;rw [lk]
   refine ⟨?_,tail_of_in X q7,cA,cl,em,q6⟩;cases cA with
   |mk f1 f2 f3 f4 f5 f6 f7 f8 f9 f10 f11 =>
    have em':f3 = .ref D:: .ref R'::veMro:=em;have q5':f11=false:=q5;have q6':f6=true:=q6;have es':sA=#[s0,s1,s2,s3,some (.builtin "ValueError.__new__"),s5]:=by
     cases sA with
     |mk l=>exact congrArg Array.mk es
    subst em' q5' q6' es';have G:=Heap.Ns.of_isNs (isNs_of_in X (show nsOkIn K f4=true from q8));exact ⟨f1,f5,f4,f2,f7,f8,f9,f10,dA,s0,s1,s2,s3,s5,_,X _ _ lk,G,CW X G q9⟩
  next=>cases q
 next=>cases q
def XB (C e:Addr):Heap->Prop:=λh=>∃ t,h.get? e=some { cls:= .ref C,data:= .fields #[.ref t,.none,.none,.none,.bool false,.none] }
def XD (C e dx:Addr):Heap->Prop:=λh=>∃ t,h.get? e=some { cls:= .ref C,dict:=some dx,data:= .fields #[.ref t,.none,.none,.none,.bool false,.none] }
theorem xb_ok (x:XB C e h):ObjOk P w H h e (.ext (XB C e)):=⟨x,let ⟨_,q⟩:=x;⟨_,q⟩,λ_ _ ⟨t,q⟩ k=>⟨t,k _ q⟩⟩
theorem xd_ok (x:XD C e dx h):ObjOk P w H h e (.ext (XD C e dx)):=⟨x,let ⟨_,q⟩:=x;⟨_,q⟩,λ_ _ ⟨t,q⟩ k=>⟨t,k _ q⟩⟩
theorem NX {a b c:HO}(n:dx≠e):z8 (z8 (z8 H e a) dx b) e c=z8 (z8 H dx b) e c:=by
 funext y
 by_cases h1:y=e
 ·subst h1;rw [y7,y7]
 ·rw [z9 h1,z9 h1];by_cases h2:y=dx
  ·subst h2;rw [y7,y7]
  ·rw [z9 h2,z9 h2,z9 h1]
def wG (C:Addr)(f:Str):Sp:=λvs H Q _=>∃ e v,vs=[.ref e,v]/\H e=some (.ext (XB C e))/\∀ dx,H dx=none->dx≠e->Q .non (z8 (z8 H dx (.xd [(f,v)])) e (.ext (XD C e dx)))
def sFldX (C:Addr)(f:Str)(ta tv:TE):TS:=λD σ H=>tv σ H λy H1=>ta σ H1 λx H2=>∃ e,x = .ref e/\H2 e=some (.ext (XB C e))/\∀ dx,H2 dx=none->dx≠e->D.nx σ (z8 (z8 H2 dx (.xd [(f,y)])) e (.ext (XD C e dx)))
section
variable {X:Cx}{o value:Expr}{f:Str}{pos pos':Pos}{ta tv:TE}{C R fI:Addr}
theorem MX (q:zR X.K C R fI=true)(hs:findIn X.K (.ref C) "__setattr__"=some (some (.builtin "object.__setattr__")))(hn:findIn X.K (.ref C) f=some none)(ha:PE X o ta)(hv:PE X value tv)(hw:swapsWith value (some (.Attribute o f pos')) pos.line X.env=pure false):PS X (.Assign [.Attribute o f pos'] value pos) (sFldX C f ta tv):=by
 intro pins s σ H D I h;refine plainObj_wpAny_Assign_Attribute (j5 (hv pins s σ H _ I h) λu s1 ⟨y,H1,I1,ry,q1⟩=>j5 (ha pins s1 σ H1 _ I1 q1) λov s2 ⟨x,H2,I2,rx,e,ex,ee,q2⟩=>?_) hw;subst ex;obtain rfl:ov=Value.ref e:=rx;obtain ⟨⟨t,he⟩,_,_⟩:=(show ObjOk X.prog X.w H2 s2.heap e (.ext (XB C e)) from I2.hok e _ ee);obtain ⟨cd,c1,c2,c3⟩:=(VX I2.kIn q).cl;refine xset I2.kIn he rfl rfl rfl c1 c2 c3 hs hn λh' dx tk g1 g2 g3 g4=>?_;have nd:dx≠e:=λz=>by rw [z] at g3;exact uY _ (yB (yT he) g3)
 have fd:H2 dx=none:=I2.hok.fresh g3;refine ⟨σ,_,?_,q2 dx fd nd⟩;have oth:∀{b:Addr}{u:HO},b≠e->b≠dx->(z8 (z8 H2 dx (.xd [(f,y)])) e (.ext (XD C e dx)) b=some u↔H2 b=some u):=λ{b u} h1 h2=>by rw [z9 h1,z9 h2]
 have old:∀{b:Addr}{u:HO},H2 b=some u->b≠dx:=λ{b u} z1 z2=>by rw [z2,fd] at z1;cases z1
 refine I2.un ⟨λb u z n _ _=>g4 b u (λy=>by rw [y,ee] at n;cases n) z,λb u z n _ _=>⟨u.slots,g4 b u (λy=>by rw [y,ee] at n;cases n) z⟩,λb u z n _=>?_,λb u z _=>?_,λb xs z=>(oth (λy=>by rw [y,ee] at z;cases z) (old z)).mpr z,λb o u z=>(oth (λy=>by rw [y,ee] at z;cases z) (old z)).mpr z,λb ps q z=>(oth (λy=>by rw [y,ee] at z;cases z) (old z)).mpr z⟩ λb u z=>?_
 ·rw [z9 (λy=>by rw [y,ee] at n;cases n),z9 (λy=>by rw [y] at z;exact uY _ (yB (yT z) g3))];exact n
 ·by_cases hb:b=e
  ·rw [hb];exact ⟨_,g1⟩
  ·exact ⟨_,g4 b u hb z⟩
 ·by_cases hb:b=e
  ·subst hb;rw [y7] at z;cases z;exact xd_ok ⟨t,g1⟩
  ·by_cases hd:b=dx
   ·subst hd;rw [z9 hb,y7] at z;cases z;refine ⟨_,g2,λg=>?_⟩;by_cases hg:g=f
    ·subst hg;rw [if_pos rfl];show RelO (List.lookup g [(g,y)]) _;rw [uX,beq_self_eq_true];exact ry
    ·rw [if_neg hg];show RelO (List.lookup g [(f,y)]) _;rw [uX,show (g==f)=false from beq_eq_false_iff_ne.mpr hg];exact True.intro
   ·rw [oth hb hd] at z;refine (I2.hok b u z).stay (λc v hc e1=>g4 c v (λy=>?_) e1) (λc e1=>(oth (λy=>by rw [y,ee] at e1;cases e1) (old e1)).mpr e1) (λc xs e1=>(oth (λy=>by rw [y,ee] at e1;cases e1) (old e1)).mpr e1) λc o u e1=>(oth (λy=>by rw [y,ee] at e1;cases e1) (old e1)).mpr e1;rcases hc with hc|hc
    ·exact hb (hc.symm.trans y)
    ·rw [y,ee] at hc;cases hc
structure XMk (P:Program)(w:World)(K:Frag)(mg:Str->Option Value)(base:Heap)(k:Nat)(x:Str)(C:Addr)(f:Str):Prop where
 ex:∃ R fI fd ps,zR K C R fI=true/\isFn K (.ref fI)=true/\keepIn K (.ref C)=true/\mg x=some (.ref C)/\FnOk P w K mg base v7 k fI fd ps (wG C f)/\Binds K fd ps []
theorem LB {W:Value->Shared->Prop}{k:Nat}{fd:FuncData}{ps:List Str}{s:Shared}{u:Value}{v:V}(q:zR X.K C R fI=true)(hf:isFn X.K (.ref fI)=true)(F:FnOk X.prog X.w X.K X.mg X.base v7 k fI fd ps (wG C f))(hr:Room (k+1) X.A)(hb:Binds X.K fd ps [])(I:Inv X pins σ H s)(r:RelV v u)(h:∀ e dx s',s.heap.objs.size<=e->H e=none->H dx=none->dx≠e->Inv X pins σ (z8 (z8 H dx (.xd [(f,v)])) e (.ext (XD C e dx))) s'->W (.ref e) s'):wpAny (model X.prog X.w) X.A (call (.ref C) [u]) W X.xe s:=by
 obtain ⟨⟨nm,qn,N,bs,sn,sub,ab,col,dd,k0,k1,k2,k3,k5,mN,hC,hN,hi⟩,tl,_⟩:=VX I.kIn q;have hfn:∃ oI,s.heap.get? fI=some oI/\oI.cls = .type "function":=by have z:typeIn X.K (.ref fI)=some (.type "function"):=beq_iff_eq.mp hf;unfold typeIn at z;obtain ⟨oI,z1,z2⟩:=yJ.mp z;exact ⟨oI,I.kIn _ _ z1,z2⟩
 obtain ⟨oI,hI,hIc⟩:=hfn;obtain ⟨hp,gs,dr,tk,os⟩:=s;refine Br PySem.F.excBase_ValueError (by decide) PySem.F.excBase_ValueError tl hC hN hi hI hIc (λh' e mk ge=>?_) (by show 1<=sizeLine;rw [sizeLine_eq];decide);obtain ⟨t,m1,m2,m3⟩:=mk.there;have ne:H e=none:=I.hok.fresh ge;have I2:Inv X pins σ (z8 H e (.ext (XB C e))) ⟨h',gs,dr,tk,os⟩:=I.laid (s:=⟨hp,gs,dr,tk,os⟩) (t':=tk) mk.keeps ge (xb_ok ⟨t,m1⟩);have r2:Vals [V.ref e,v] [Value.ref e,u]:= .cons rfl (.cons r .nil);have hq:wG C f [V.ref e,v] (z8 H e (.ext (XB C e))) (λx H2=>x = .non/\∃ dx,H dx=none/\dx≠e/\H2=z8 (z8 H dx (.xd [(f,v)])) e (.ext (XD C e dx))) E0:=⟨e,v,rfl,y7,λdx n1 n2=>⟨rfl,dx,by rwa [z9 n2] at n1,n2,NX n2⟩⟩;have hl:([Value.ref e,u]++[]).length=ps.length:=by rw [<- F.len _ _ _ _ hq];rfl
 refine wpAny_call (codeAny_mono (F.run _ X.stack _ _ ⟨[Value.ref e,u],[]⟩ ([Value.ref e,u]++[]) [V.ref e,v] _ E0 (hr.make C [u] []) (I2.env0.make C [u] []) (hb _ [Value.ref e,u] I2.kIn hl) (by rw [yo];exact r2) hq) λr s' hq'=>?_);cases r with
 |error e=>exact hq'.elim
 |ok fl =>
  cases fl with
  |ret u=>obtain ⟨v,H',I3,rv,ev,dx,n1,n2,rfl⟩:=I2.after hq';subst ev;exact ⟨rv,h e dx _ ge ne n1 n2 I3⟩
  |next=>exact False.elim hq'
  |brk=>exact False.elim hq'
  |cont=>exact False.elim hq'
theorem Inv.forget {s:Shared}{φ:Heap->Prop}(I:Inv X pins σ H s)(h:H e=some (.ext φ))(n0:X.s₀.heap.get? e=none):Inv X pins σ (λb=>if b=e then none else H b) s:=by
 have g:∀{b:Addr}{u:HO},b≠e->((if b=e then none else H b)=some u↔H b=some u):=λ{b u} nb=>by rw [if_neg nb]
 have f:∀{b:Addr},H b=none->(if b=e then none else H b)=none:=λ{b} z=>by split;rfl;exact z
 have tup:∀{b:Addr}{xs:List V},H b=some (.tup xs)->(if b=e then none else H b)=some (.tup xs):=λ{b xs} z=>(g (λy=>by rw [y,h] at z;cases z)).mpr z;have frz:∀{b:Addr}{o:Obj}{u:HO},H b=some (.frz o u)->(if b=e then none else H b)=some (.frz o u):=λ{b o u} z=>(g (λy=>by rw [y,h] at z;cases z)).mpr z;refine ⟨I.ok,I.os,I.bare,⟨I.base.keep,I.base.slot,λb o z n hx=>f (I.base.free b o z n hx),I.base.there,λb xs z=>tup (I.base.tups b xs z),λb o u z=>frz (I.base.frzs b o u z),λb ps q z=>(g (λy=>by have:=I.base.tbls b ps q z;rw [y,h] at this;cases this)).mpr (I.base.tbls b ps q z)⟩,I.loc,I.cell,f I.free,λx c z=>f (I.freeC x c z),λp hp=>let ⟨a,b,c⟩:=I.pin p hp;⟨a,f b,c⟩,λb u z=>?_,I.len⟩;by_cases hb:b=e
 ·rw [if_pos hb] at z;cases z
 ·exact (I.hok b u ((g hb).mp z)).stay (λ_ _ _ z=>z) (λc z=>(g (λy=>by rw [y,h] at z;cases z)).mpr z) (λc xs z=>tup z) λc o u z=>frz z
def VI (C:Addr)(f:Str)(E:XK)(t:TA):TS:=λ_ σ H=>t σ H λvs H1=>∃ v,vs=[v]/\∀ dx,H1 dx=none->E (.ref C) (some dx) (z8 H1 dx (.xd [(f,v)]))
theorem MY {E:XK}{k j:Nat}{x:Str}{np cpos pos:Pos}{e:Expr}{t:TA}(hc:X.calm=true)(hex:X.ex=[])(c:XMk X.prog X.w X.K X.mg X.base k x C f)(hr:Room j X.A)(hj:k+1<=j)(hg:Gl X x)(ha:PA X [e] t)(ht:Wg X E)(hdb:(x==("__debug__":Str))=false:=by decide)(he:starEach [e] X.env=(false,eval e X.env)::starEach [] X.env:=by rfl)(hpl:(backTo cpos (starEach [] X.env)).any (·.1)=false:=by rfl):PS X (.Raise (some (.Call (.Name x np) [e] [] cpos)) none pos) (VI C f E t):=by
 obtain ⟨R,fI,fd,ps,q,hf,hk,hm,F,hb⟩:=c.ex;intro pins s σ H D I h;rw [arm_exec_Raise];refine yY (wpAny_standAt ?_);unfold raiseStmt;refine yY (yY (wpAny_Call_Name_kw (vc I hg hm ?_ hdb)));refine callWith_K (h₀:=X.base) I.ok.mod.kin hk (j5 (ha cpos pins s σ H _ I h) λus s1 ⟨vs,H1,I1,r,v,ev,q1⟩=>⟨I1.kIn,?_⟩) he hpl;subst ev;obtain ⟨u,rfl,ru⟩:=zf r;refine LB q hf F (hr.mono hj) hb I1 ru λea dx s' ge n1 n2 n3 I2=>?_;refine yY (wpAny_standAt (yI ?_));have n0:X.s₀.heap.get? ea=none:=by
  cases z:X.s₀.heap.get? ea with
  |none=>rfl
  |some o=>obtain ⟨o',z2⟩:=I1.base.there ea o z (by rw [hex];exact λz=>nomatch z);rw [uW ge] at z2;cases z2
 have I3:=Inv.forget I2 y7 n0;obtain ⟨⟨tt,hE⟩,_,_⟩:=(show ObjOk X.prog X.w _ s'.heap ea (.ext (XD C ea dx)) from I2.hok ea _ y7);have eH:(λb=>if b=ea then none else z8 (z8 H1 dx (.xd [(f,v)])) ea (.ext (XD C ea dx)) b)=z8 H1 dx (.xd [(f,v)]):=by
  funext b
  by_cases hb:b=ea
  ·rw [if_pos hb,hb,z9 (Ne.symm n3)];exact n1.symm
  ·rw [if_neg hb,z9 hb]
 rw [eH] at I3;have fin:X.xe (.ref ea) s':=ht pins σ _ s' ea C _ _ _ I3 hE rfl rfl rfl rfl (by rw [z9 (Ne.symm n3)];exact n1) n0 (q1 dx n2);obtain ⟨⟨nm,qn,N,bs,sn,sub,ab,col,dd,k0,k1,k2,k3,k5,mN,hC,hN,hi⟩,tl,_⟩:=VX I2.kIn q;have hcB:(Value.ref C:: .ref R::veMro).contains (.type "BaseException")=true:=by rw [List.contains_cons,List.contains_cons,show veMro.contains (.type "BaseException")=true by decide,Bool.or_true,Bool.or_true]
 obtain ⟨hp,gs,dr,tk,os⟩:=s'
 repeat (first|with_reducible refine wpAny_loadPart_at hE ?_|with_reducible refine wpAny_loadPart_at hC ?_|(with_reducible refine wpAny_isSubtype_exc hC ?_;rw [hcB])|wp_step)
 exact wpAny_raiseNew_none (I.ok.hd hc) fin
end
end L2
namespace L2
open PySem PySem.Spec PyProof.Rows PySem.W Builtin Builtin.ObjectAttr
section
variable {prog:Program}{w:World}{A:Around}{E:Value->Shared->Prop}{s:Shared}{K:Frag}{ea C dx:Addr}{oe:Obj}{vs:Array Value}{mA:Str->Option Value}{name:Str}{v:Value}{expr:Bool}{Q:Value->Shared->Prop}
theorem xget (T:xk K C)(hh:hasDictIn K C=true)(X:K.In s.heap)(he:s.heap.get? ea=some oe)(hc:oe.cls = .ref C)(hf:oe.data = .fields vs)(hd:oe.dict=some dx)(ns:s.heap.Ns1 dx mA)(ha:findIn K (.ref C) name=some none)(hv:mA name=some v)(hv':handedIn v=true)(h:Q v { s with toks:=s.toks+1 }):wpAny (model prog w) A (getAttr (.ref ea) name expr) Q E s:=by
 obtain ⟨hp,gs,dr,tk,os⟩:=s;obtain ⟨od,ho,hl⟩:=UH ns;have J:InstAt hp ea oe C (some od):=⟨he,hc,by unfold notCls;rw [hf],by rw [hd];exact ho⟩;have y0:=J.type (M:=model prog w);have y1:=looks_findIn (M:=model prog w) X T.ga;have y2:=looks_findIn (M:=model prog w) X T.gt;have y3:=looks_find (M:=model prog w) X J (findObj_own hh ha rfl (by rw [hl,hv]));have y4:=looks_mroIn (M:=model prog w) X T.be;unfold getAttr getAttrBy;refine yY (wpAny_mkText (wpAny_holding (yY (y0.at ?_))));refine yY (y1.at ?_);have n1:(onTheHeap (Value.ref C)&&Value.builtin "BaseException.__getattribute__" == Value.builtin "object.__getattribute__")=false:=by rw [show (Value.builtin "BaseException.__getattribute__" == Value.builtin "object.__getattribute__")=false by decide +kernel,ut]
 dsimp only
 rw [n1,if_neg yU];unfold getAttrByItsOwn hookBefore;rw [show onTheHeap (Value.ref C)=true from rfl,if_pos rfl];refine yY (y2.at ?_);refine yY (wpAny_attempt (wpAny_holding ?_));unfold callGetattribute boundAndCalled;have step:∀ E':Value->Shared->Prop,wpAny (model prog w) A (call (.builtin "BaseException.__getattribute__") [.ref ea,.str name tk]) (λa s'=>wpAny (model prog w) A (handedOut a) Q E s') E' ⟨hp,gs,dr,tk+1,os⟩:=by
  intro E';refine wpAny_call (codeAny_call_builtin PySem.F.excAttr_ValueError.ga.plain PySem.F.entry_bexc_ga ?_);have hk:builtinKind "BaseException.__getattribute__"=some .slot:=by decide +kernel
  have hq:splitId "BaseException.__getattribute__"=some ("BaseException","__getattribute__"):=by decide +kernel
  have ha:=PySem.F.args_bexc_ga (.ref ea) (.str name tk);simp only [checkBuiltinCall,hk,hq];have hb:Looks (model prog w) hp (isInstance (.ref ea) (.type "BaseException")) true:=y0.andThen y4;refine yY (hb.at ?_);rw [Bool.not_true,if_neg yU];refine wpAny_of_eq ha ?_;unfold Builtin.«object.__getattribute__»;refine yY (yI (yY (yI (yY (y0.at (yY (y3.at ?_)))))));refine yI ?_;show wpAny (model prog w) A (handedOut v) Q E _;rw [handedOut_of hv'];exact yI h
 rw [show onTheHeap (Value.builtin "BaseException.__getattribute__")=false from rfl,ut,if_neg yU];exact yY (wpAny_of_eq (PySem.F.excAttr_ValueError.ga.bind (.ref ea)) (step _))
end
section
variable {X:Cx}{K:Frag}{ea C dx:Addr}{oe:Obj}{vs:Array Value}
def tXAt (ea dx:Addr)(f:Str)(i:Nat):TE:=λσ H Q=>σ[i]?=some (some (.ref ea))/\∃ fs v,H dx=some (.xd fs)/\fs.lookup f=some v/\Q v H
theorem MD {e:Expr}{f:Str}{pos:Pos}{i:Nat}(hK:X.K=K)(T:xk K C)(hh:hasDictIn K C=true)(hn:findIn K (.ref C) f=some none)(hp:(ea,oe)∈X.pn)(hc:oe.cls = .ref C)(hf:oe.data = .fields vs)(hd:oe.dict=some dx)(he:PE X e (o4 i))(hb:attributeBase e f X.env (eval e X.env)=eval e X.env):PE X (.Attribute e f pos) (tXAt ea dx f i):=by subst hK;intro pins s σ H Q I h;obtain ⟨h1,fs,v,h2,h3,q⟩:=h;refine Wi hb (j5 (he pins s σ H (λx H1=>x = .ref ea/\H1=H) I ⟨_,h1,rfl,rfl⟩) λu s1 ⟨x,H1,I1,rx,ex,eH⟩=>?_);subst ex eH;obtain rfl:u=Value.ref ea:=rx;have z:=(I1.pin _ (yg _ hp)).1;obtain ⟨mA,ns,rel⟩:=(show ObjOk X.prog X.w H1 s1.heap dx (.xd fs) from I1.hok dx _ h2);obtain ⟨u,hu,ru⟩:=RelO.some_of (v:=v) (o:=mA f) (by rw [<- h3];exact rel f);exact xget T hh I1.kIn z hc hf hd ns hn hu (Uh ru) ⟨v,H1,I1.tok _,ru,q⟩
end
def VL (K:Frag)(D0:Addr)(cs:List Addr)(i:Nat)(tb:XK->TS)(ts:Addr->Addr->Option Addr->TS):TS:=λD σ H=>∃ E:XK,(∀ cls dx H',E cls dx H'->∃ c,c∈cs/\cls = .ref c/\exmOne K cls (.ref D0)=some true)/\tb E D σ H /\
 ∀(ea c:Addr)(dx:Option Addr)(H':Hp),E (.ref c) dx H'->ts ea c dx { nx:=λσ2 H2=>D.nx (σ2.set i none) H2,rt:=D.rt,bk:=λσ2 H2=>D.bk (σ2.set i none) H2,ct:=λσ2 H2=>D.ct (σ2.set i none) H2 } (σ.set i (some (.ref ea))) H'
section
variable {X:Cx}{K:Frag}{x n:Str}{i:Nat}{D0:Addr}{cs:List Addr}{body suite:List Stmt}{b₀:Stmt}{tb:XK->TS}{ts:Addr->Addr->Option Addr->TS}{np hpos pos:Pos}
theorem MZ (hK:X.K=K)(hex:X.ex=[])(hst:X.stack=X.env::X.outer)(hf:X.env.frame=some X.env.locals)(hgx:Gl X x)(hmx:X.mg x=some (.ref D0))(hN:X.N.Nodup)(hi:X.N[i]?=some n)(hl:X.env.kindOf n=some .local)(hfn:X.fn n=true)(hb:∀ (E:XK) (σ:St) (pn:List (Addr×Obj)) (W:Value->Shared->Prop),wT (CX2 X.prog X.w) (X.tried pn W) σ E->PSsa (X.tried pn W) σ body (tb E))(hs:∀ (pn:List (Addr×Obj)) (ea:Addr) (oe:Obj) (vs:Array Value) (c:Addr),oe.cls = .ref c->oe.data = .fields vs->c∈cs->(ea,oe)∈pn->PSs (X.suite pn ea) (b₀::suite) (ts ea c oe.dict))(hd:(x==("__debug__":Str))=false:=by decide):PS X (.Try body [.ExceptHandler (some (.Name x np)) (some n) (b₀::suite) hpos] [] [] pos) (VL K D0 cs i tb ts):=by
 subst hK;intro pins s σ H D I h;obtain ⟨E,hm,h1,h2⟩:=h
 let W:Value->Shared->Prop:=λe s'=>∃(H' H1:Hp)(s1:Shared)(ea:Addr)(cls:Value)(dx:Option Addr),e = .ref ea/\Inv X pins σ H' s'/\Fly2 s1.heap s'.heap H' ea cls dx/\Inv X pins σ H1 s1/\E cls dx H'
 have ps:wT (CX2 X.prog X.w) (X.tried (X.pn++pins) W) σ E:=by intro p2 H1 s1 e s' I1 q;obtain ⟨ea,cls,dx,H',rfl,os,bare,un,hok,F,q⟩:=q;have I0:Inv X pins σ H1 s1:=I1.untried I.ok;exact ⟨H',H1,s1,ea,cls,dx,rfl,I0.call' (ch:=[]) os un hok bare (λb z=>nomatch z),F,I0,q⟩
 refine wpAny_Try_except (wpAny_mono (hb E σ _ W ps [] s H D (I.tried W) h1) (λf s1 q=>?_) λe s1 q=>?_)
 ·have q':=SP.untried I.ok q;cases f with
  |next=>exact wpAny_execs_nil q'
  |brk=>exact q'
  |cont=>exact q'
  |ret u=>exact q'
 obtain ⟨H',H1,s0,ea,cls,dx,rfl,I',F,I0,q⟩:=q;obtain ⟨c,hcs,rfl,hexm⟩:=hm cls dx H' q;have fr:=I'.stack;obtain ⟨T,a0,eT,e10,e11,_,fl⟩:=F.hid fr;have e12:=F.free;have apE:=I0.apart hex F.new;have apT:=I0.apart hex e11;have hS:∀ c∈[ea,T],H' c=none/\Zk X pins c:=λc hc=>by
  have z:c=ea∨c=T:=by simpa using hc
  rcases z with rfl|rfl
  ·exact ⟨e12,apE⟩
  ·exact ⟨e10,apT⟩
 have fr':X.A.frames=some (X.env::X.outer):=by rw [<- hst];exact I'.ok.frames
 rw [hst] at fl;refine CV (outer:=X.outer) fr' hf fl λh4 F4 up4=>Ja F4 λh5 F5 up5=>?_;rw [<- hst] at F5;have up45:=Heap.UpToSlots.trans up4 up5;have K5:wR ([ea,T]++c6 X.stack) X.stack s1.heap h5:=Kf fr (by rw [hst] at F5 ⊢;exact F5.st) up45;have I5:=I'.flown hf hst hS K5;obtain ⟨oe5,vs5,T5,oT5,ts5,g1,g2,g2',g3,g4,gR⟩:=F5.ex;have J5:=I5.suite g1 e12 apE.loc apE.fs (λv z=>by rw [g4] at z;cases z);refine wpAny_handleBy_cons (codeAny_handlers_test (vc J5 hgx hmx ?_ hd)) (by intro z;cases z);have LT:Looks (model X.prog X.w) h5 (typeOf (.ref ea)) (.ref c):=g2▸(Looks.ld g1).andThen .now;refine (exm_one I5.kIn LT hexm).here ?_;refine codeAny_handlers_suite_as (Ja F5 λh6 F6 up6=>?_);have K6:wR ([ea,T]++c6 X.stack) X.stack s1.heap h6:=Kf fr (by rw [hst] at F6 ⊢;exact F6.st) (Heap.UpToSlots.trans up45 up6);have I6:=I'.flown hf hst hS K6;obtain ⟨oe6,vs6,T6,oT6,ts6,k1,k2,k2',k3,k4,kR⟩:=F6.ex;have J6:=I6.suite k1 e12 apE.loc apE.fs (λv z=>by rw [k4] at z;cases z);refine VE (X:=X.suite (X.pn++pins++[(ea,oe6)]) ea) J6 hN hi (.inl hl) (v:= .ref ea) rfl (λs7 I7=>?_) (.inl hfn);have hrun:=hs _ ea oe6 vs6 c k2 k4 hcs (yv _ (by simp)) [] s7 _ H' _ I7 (by rw [k2'];exact h2 ea c dx H' q);refine wpAny_mono hrun (λf s8 q8=>?_) (λ_ _ z=>z.elim);cases f with
 |next=>obtain ⟨σ8,H8,I8,q⟩:=q8;exact Inv.goes (I8.unsuite I.ok) hN hi hl λs9 I9=>⟨_,_,I9,q⟩
 |brk=>obtain ⟨σ8,H8,I8,q⟩:=q8;exact Inv.goes (I8.unsuite I.ok) hN hi hl λs9 I9=>⟨_,_,I9,q⟩
 |cont=>obtain ⟨σ8,H8,I8,q⟩:=q8;exact Inv.goes (I8.unsuite I.ok) hN hi hl λs9 I9=>⟨_,_,I9,q⟩
 |ret u=>obtain ⟨v,σ8,H8,I8,r,q⟩:=q8;exact Inv.goes (I8.unsuite I.ok) hN hi hl λs9 I9=>⟨v,_,_,I9,r,q⟩
end
end L2
namespace Mi
open PySem L2
variable{E:XK}{Hs:Hp}{C ea:Addr}{f:Str}{te:TE}{tb:TS}{b:MS}{dx:Option Addr}
abbrev XV:=Option (Str×V)
variable{y:XV}
def EOK (E:XK)(c:Addr)(y:XV)(Hs H:Hp):Prop:=match y with
 |none=>∀ Hs' H',Ext Hs H Hs' H'->E (.ref c) none H'
 |some p=>∀ Hs' H' dx,Ext Hs H Hs' H'->H dx=none->H' dx=some (.xd [p])->E (.ref c) (some dx) H'
theorem EOK.ext {c:Addr}{H Hs1 H1:Hp}(q:EOK E c y Hs H)(x:Ext Hs H Hs1 H1):EOK E c y Hs1 H1:=by
 cases y with
 |none=>exact λHs' H' e=>q Hs' H' (x.trans e)
 |some p=>exact λHs' H' dx e n h=>q Hs' H' dx (x.trans e) (x.s2.free n) h
abbrev YM:=ME->Addr->XV->Prop
variable{xa xb:YM}
class Wf (E:XK)(te:TE)(f:YM):Prop where
 h:∀{ε c y},f ε c y->∀{Hs0 H0 Hs H σ},RS Hs0 H0 Hs H σ ε->EOK E c y Hs H->∀{Q:VK},te σ H Q
class We (E:XK)(ts:TS)(f:YM):Prop where
 h:∀{ε c y},f ε c y->∀{Hs0 H0 Hs H σ},RS Hs0 H0 Hs H σ ε->EOK E c y Hs H->∀{D:qM},ts D σ H
class zi (E:XK)(ts:TS)(f:YM):Prop where
 h:∀{ε c y},f ε c y->∀{Hs0 H0 Hs H σ},RS Hs0 H0 Hs H σ ε->EOK E c y Hs0 H0->∀{D:qM},ts D σ H
def yNo:YM:=λ_ _ _=>False
instance (priority:=2000){ts:TS}:zi E ts yNo where
 h:=λh=>h.elim
def VY (C:Addr)(f:Str)(a:M):YM:=λε c y=>c=C/\∃ v,a ε=some (.at v)/\y=some (f,v)
instance {a:M}[sa:SemE te a]:zi E (VI C f E (i6 te qa)) (VY C f a) where
 h:=λh _ _ _ _ _ rs q _=>by
  obtain ⟨rfl,v,ea,rfl⟩:=h;refine sa.h ea rs λu Hs1 H1 x1 r1=>⟨u,rfl,λdx hd=>?_⟩;rw [rep_at.mp r1];exact q _ _ dx (rs.ext.trans (x1.trans (.newO x1.s3 hd))) (rs.ext.s2.free (x1.s2.free hd)) y7
instance {fr:Bool}{t:TA}:n8 fr (VI C f E t) qw where
 h:=λe=>by cases e
def wM (fr:Bool)(a:MS)(xa xr:YM):YM:=λε c y=>xa ε c y∨∃ ε',a ε=some (.nx ε')/\xr ε' c y
instance {fr:Bool}{t u:TS}{a:MS}{xr:YM}[sa:n8 fr t a][s1:zi E t xa][s2:zi E u xr]:zi E (tSeq t u) (wM fr a xa xr) where
 h:=λh _ _ _ _ _ rs q D=>by
  rcases h with h|⟨ε',e,h⟩
  ·exact s1.h h rs q
  ·exact sa.h e rs λHs H σ r=>s2.h h r q
def yIf (c:MB)(xa xb:YM):YM:=λε k y=>∃ b,c ε=some b/\if b=true then xa ε k y else xb ε k y
instance {t:TT}{ta:TS}{c:MB}[sc:qI t c][sa:zi E ta xa][sb:zi E tb xb]:zi E (tIfS t ta tb) (yIf c xa xb) where
 h:=λh _ _ _ _ _ rs q _=>by
  obtain ⟨b,e,h⟩:=h;refine sc.h e rs λHs1 H1 x1=>?_;cases b with
  |true=>exact xC (sa.h (by simpa using h) (rs.go x1) q)
  |false=>exact xz (sb.h (by simpa using h) (rs.go x1) q)
def yX (f:YM):YM:=f
instance {f:YM}[s:Wf E te f]:We E (zO te) (yX f) where
 h:=λh _ _ _ _ _ rs q _=>s.h h rs q
def wL (g:MG)(f:MS)(xf:YM):List PV->YM
 |[]=>λ_ _ _=>False
 |x::xs=>λε c y=>∃ ε1,g x ε=some ε1/\(xf ε1 c y∨∃ ε2,(f ε1=some (.nx ε2)∨f ε1=some (.ct ε2))/\wL g f xf xs ε2 c y)
def yFor (fr:Bool)(i:MA)(g:MG)(f:MS)(xf:YM):YM:=λε c y=>∃ xs,i ε=some xs/\wL g f xf xs ε c y
instance {fr:Bool}{wi:TI}{tg:TG}{ts:List Nat}{i:MA}{g:MG}{f:MS}{xf:YM}[si:zA wi i][sg:jm tg ts g][sf:n8 fr tb f][sx:zi E tb xf]:zi E (tFor wi tg tb) (yFor fr i g f xf) where
 h:=λ{ε0 c y} e Hs0 H0 _ _ _ rs q D=>by
  obtain ⟨xs,ex,e1⟩:=e;refine si.h ex rs λJ Hs1 H1 x1 ok=>?_;have rs1:=rs.go x1;have q1:EOK E c y Hs1 H0:=by
   cases y with
   |none=>exact λHs' H' z=>q Hs' H' (rs1.ext.unbase z)
   |some p=>exact λHs' H' dx z n h=>q Hs' H' dx (rs1.ext.unbase z) n h
  refine ⟨λk m σ H=>m=xs.length-k/\k<=xs.length/\∃ Hs ε,RS Hs1 H0 Hs H σ ε/\wL g f xf (xs.drop k) ε c y,⟨xs.length,by simp,uZ _,Hs1,_,rs1.rebase,e1⟩,?_⟩;rintro k m σ H ⟨rfl,hk,Hs,ε,r,el⟩;by_cases hlt:k<xs.length
  ·have hd:xs.drop k=xs[k]::xs.drop (k+1):=yb hlt;rw [hd] at el;obtain ⟨ε1,eg,el2⟩:=el;obtain ⟨go,yl⟩:=ok.go k xs[k] Hs H (by simp [hlt]) r.ext.s1 r.ext.s3;refine .inr ⟨go,λσ' H'=>k+1<=xs.length/\∃ Hs ε,RS Hs1 H0 Hs H' σ' ε/\wL g f xf (xs.drop (k+1)) ε c y,λσ' H' p=>⟨xs.length-(k+1),by omega,rfl,p.1,p.2⟩,λv H2 y'=>?_⟩;obtain ⟨Hs2,x2,r2⟩:=yl v H2 y';refine sg.h eg (r.go x2) r2 λσ2 rs2 _=>?_;rcases el2 with el2|⟨ε2,eo|eo,el2⟩
   ·exact sx.h el2 rs2 q1
   ·exact sf.h eo rs2 λHs3 H3 σ3 r3=>⟨hlt,Hs3,ε2,r3,el2⟩
   ·exact sf.h eo rs2 λHs3 H3 σ3 r3=>⟨hlt,Hs3,ε2,r3,el2⟩
  ·have ek:k=xs.length:=by omega
   subst ek;rw [uE] at el;exact el.elim
def wF (m:List PV->Option PV)(x:List PV->Addr->XV->Prop):Sp:=λvs H Q E=>∃ Hs xs,Same Hs H/\Reps Hs xs vs/\((∃ y,m xs=some y/\∀ v Hs' H',Ext Hs H Hs' H'->Rep Hs' y v->Q v H')∨∃ c y,x xs c y/\EOK E c y Hs H)
def KN (x:List PV->Addr->XV->Prop)(as:MA):YM:=λε c y=>∃ xs,as ε=some xs/\x xs c y
section
variable {m:List PV->Option PV}{x:List PV->Addr->XV->Prop}{ta:TA}{as:MA}{E:XK}
instance [sa:qY ta as]:SemE (xH (wF m x) [] E ta) (z6 m as) where
 h:=λe _ _ _ _ _ rs _ q=>by
  obtain ⟨xs,ex,e1⟩:=bind_some e;exact sa.h ex rs λvs Hs1 H1 x1 r1=>⟨Hs1,xs,x1.s3,by rw [yo];exact r1,.inl ⟨_,e1,λv Hs' H' x r=>q v _ _ (x1.trans x) r⟩⟩
instance [sa:qY ta as]:Wf E (xH (wF m x) [] E ta) (KN x as) where
 h:=λh _ _ _ _ _ rs q _=>by
  obtain ⟨xs,ex,h⟩:=h;exact sa.h ex rs λvs Hs1 H1 x1 r1=>⟨Hs1,xs,x1.s3,by rw [yo];exact r1,.inr ⟨_,_,h,q.ext x1⟩⟩
end
def yFn (n k:Nat)(f:YM):List PV->Addr->XV->Prop:=λxs c y=>xs.length=k/\f (xs.map .sh++List.replicate (n-k) .no) c y
section
variable {P:Program}{w:World}{K:Fg}{mg:Str->Option Value}{base:Heap}
theorem okPY {y qual:Str}{st:Stmt}{f:Addr}{fd:FuncData}{N ps:List Str}{k:Nat}{m:List PV->Option PV}{x:List PV->Addr->XV->Prop}(F:Fun K y qual st f fd)(S:w9 N ps (j3 st))(hm:m=b7 N.length ps.length b)(hx:x=yFn N.length ps.length xb)(hb:∀(cdv:Value)(A:Around)(outer:List Env)(s:Shared)(H:Hp)(E:XK),Room k (A.deeper (PyProof.Rows.envOfC qual (j3 st) s.heap.objs.size f cdv)) -> ∃ t,PSs (ql (CX2 P w) P w K mg base N qual (j3 st) f cdv A outer s H E) (t9 st) t/\n8 false t b/\zi E t xb):FnOk P w K mg base (CX2 P w) (k+1) f fd ps (wF m x):=by
 subst hm;subst hx;refine F.ok2 S (λvs H Q E h=>?_) (λcdv A outer s H vs Q E hr h=>?_)
 ·obtain ⟨Hs,xs,_,r,⟨y,e,_⟩|⟨c,y,h,_⟩⟩:=h
  ·rw [r.length];unfold b7 at e;split at e
   ·rename_i hl;exact hl
   ·cases e
  ·rw [r.length];exact h.1
 ·obtain ⟨Hs,xs,sm,r,h⟩:=h;obtain ⟨t,ht,sem,semx⟩:=hb cdv A outer s H E hr;refine ⟨t,ht,?_⟩;rcases h with ⟨y,e,q⟩|⟨c,y,h,q⟩
  ·unfold b7 at e;split at e
   ·rename_i hl;obtain ⟨o,eo,e1⟩:=bind_some e;refine sem.h eo (by rw [<- hl];exact zN sm r) ?_;cases o with
    |rt z=>cases e1;exact λv Hs' H' x rv=>q v Hs' H' x rv
    |nx ε=>cases e1;exact λHs' H' σ rs=>q _ Hs' H' rs.ext (rep_at.mpr rfl)
    |bk ε=>cases e1
    |ct ε=>cases e1
   ·cases e
  ·exact semx.h h.2 (by rw [<- h.1];exact zN sm r) q
end
def exV (ea:Addr)(y:XV)(dx:Option Addr):Hp->V->Prop:=λH u=>u = .ref ea/\match y,dx with
 |some p,some d=>H d=some (.xd [p])
 |none,none=>True
 |_,_=>False
open Classical in
noncomputable def zW (ea:Addr)(y:XV)(dx:Option Addr)(i:Nat):M:=λε=>if ε[i]?=some (.sh (.op (exV ea y dx))) then some (.at (.ref ea)) else none
theorem GR {v:V}(h:Rep Hs (.op (exV ea y dx)) v):v = .ref ea/\match y,dx with
 |some p,some d=>Hs d=some (.xd [p])
 |none,none=>True
 |_,_=>False:=by
 obtain ⟨H',s,e,h⟩:=rep_op.mp h;refine ⟨e,?_⟩;split at h
 ·exact s _ _ h
 ·trivial
 ·exact h.elim
instance {i:Nat}:SemE (o4 i) (zW ea y dx i) where
 h:=λe _ _ _ _ _ r _ q=>by
  unfold zW at e;split at e
  ·rename_i hi;cases e;obtain ⟨v,h1,h2⟩:=r.sh i _ hi;obtain ⟨rfl,_⟩:=GR h2;exact ⟨_,h1,q _ _ _ (.refl r.sub) (rep_at.mpr rfl)⟩
  ·cases e
def VM (ea:Addr)(dx:Option Addr)(f:Str)(i:Nat):TE:=match dx with
 |some d=>tXAt ea d f i
 |none=>λ_ _ _=>False
open Classical in
noncomputable def vW (ea:Addr)(y:XV)(dx:Option Addr)(f:Str)(i:Nat):M:=λε=>if ε[i]?=some (.sh (.op (exV ea y dx))) then (match y with|some (g,v)=>if g=f then some (.at v) else none|none=>none) else none
instance {i:Nat}:SemE (VM ea dx f i) (vW ea y dx f i) where
 h:=λe _ _ _ _ _ r _ q=>by
  unfold vW at e;split at e
  ·rename_i hi;split at e
   ·rename_i g v;split at e
    ·rename_i hg;subst hg;cases e;obtain ⟨u,h1,h2⟩:=r.sh i _ hi;obtain ⟨rfl,h3⟩:=GR h2;cases dx with
     |none=>exact h3.elim
     |some d=>exact ⟨h1,_,v,r.sub _ _ h3,by rw [uX,beq_self_eq_true],q _ _ _ (.refl r.sub) (rep_at.mpr rfl)⟩
    ·cases e
   ·cases e
  ·cases e
variable {fr:Bool}
def GG (K:Fg)(D0:Addr)(cs:List Addr)(i:Nat)(b:MS)(xb:YM)(s:Addr->Addr->XV->Option Addr->MS):RM:=λε o=>b ε=some o∨∃ c y,c∈cs/\PySem.W.exmOne K (.ref c) (.ref D0)=some true/\xb ε c y/\∀(ea:Addr)(dx:Option Addr),dx.isSome=y.isSome->∃ o',s ea c y dx (ε.set i (.sh (.op (exV ea y dx))))=some o'/\clr i o'=o
instance {K:Fg}{D0:Addr}{cs:List Addr}{i:Nat}{tb:XK->TS}{ts:Addr->Addr->Option Addr->TS}{s:Addr->Addr->XV->Option Addr->MS}[sb:∀ E,n8 fr (tb E) b][sx:∀ E,We E (tb E) xb][ss:∀ ea c y dx,n8 fr (ts ea c dx) (s ea c y dx)]:vR fr (VL K D0 cs i tb ts) (GG K D0 cs i b xb s) where
 h:=λ{ε o} h Hs0 H0 Hs H σ rs D q=>by
  rcases h with h|⟨c,y,hc,hm,hx,hs⟩
  ·exact ⟨E0,λ_ _ _ z=>z.elim,(sb E0).h h rs q,λ_ _ _ _ z=>z.elim⟩
  ·refine ⟨λcls dx H'=>cls = .ref c/\dx.isSome=y.isSome/\∃ Hs',Ext Hs H Hs' H'/\match y,dx with|some p,some d=>H d=none/\H' d=some (.xd [p])|none,none=>True|_,_=>False,λcls dx H' z=>⟨c,hc,z.1,by rw [z.1];exact hm⟩,(sx _).h hx rs ?_,λea c' dx H' z=>?_⟩
   ·cases y with
    |none=>exact λHs' H' x=>⟨rfl,rfl,Hs',x,trivial⟩
    |some p=>exact λHs' H' d x n h=>⟨rfl,rfl,Hs',x,n,h⟩
   ·obtain ⟨z1,z2,Hs',x,z3⟩:=z;cases z1;obtain ⟨o',e',rfl⟩:=hs ea dx z2;have ⟨Hs2,x2,h2⟩:∃ Hs2,Ext Hs H Hs2 H'/\exV ea y dx Hs2 (.ref ea):=by
     cases y with
     |none =>
      cases dx with
      |none=>exact ⟨Hs',x,rfl,trivial⟩
      |some d=>exact z3.elim
     |some p =>
      cases dx with
      |none=>exact z3.elim
      |some d =>
       cases hd:Hs' d with
       |none=>exact ⟨_,x.share z3.1 hd z3.2,rfl,y7⟩
       |some o=>have:=x.s3 _ _ hd;rw [z3.2] at this;cases this;exact ⟨Hs',x,rfl,hd⟩
    refine (ss ea c y dx).h e' ((rs.go x2).put (i:=i) (x:= .op (exV ea y dx)) (v:= .ref ea) (rep_op.mpr ⟨Hs2,.refl _,h2⟩)) ?_;cases o' with
    |nx ε2=>exact λHs2 H2 σ2 r2=>q _ _ _ (r2.drop i)
    |bk ε2=>exact λHs2 H2 σ2 r2=>q _ _ _ (r2.drop i)
    |ct ε2=>exact λHs2 H2 σ2 r2=>q _ _ _ (r2.drop i)
    |rt y=>exact q
end Mi
namespace Mi
open PySem L2
theorem MF {X:Cx}{K:Fg}{ea C:Addr}{oe:Obj}{vs:Array Value}{e:Expr}{f:Str}{pos:Pos}{i:Nat}(hK:X.K=K)(T:xk K C)(hh:PySem.W.hasDictIn K C=true)(hn:PySem.W.findIn K (.ref C) f=some none)(hp:(ea,oe)∈X.pn)(hc:oe.cls = .ref C)(hf:oe.data = .fields vs)(he:PE X e (o4 i))(hb:attributeBase e f X.env (eval e X.env)=eval e X.env):PE X (.Attribute e f pos) (VM ea oe.dict f i):=by
 cases hd:oe.dict with
 |none=>exact λ_ _ _ _ _ _ h=>h.elim
 |some d=>exact MD hK T hh hn hp hc hf hd he hb
end Mi
namespace L2
open PySem PySem.Spec PyProof.Rows PySem.W
section
variable {X:Cx}{K:Frag}{x n:Str}{i:Nat}{D0:Addr}{cs:List Addr}{body suite:List Stmt}{b₀:Stmt}{tb:XK->TS}{ts:Addr->Addr->Option Addr->TS}{np hpos pos:Pos}
theorem La (hK:X.K=K)(hex:X.ex=[])(hst:X.stack=X.env::X.outer)(hf:X.env.frame=some X.env.locals)(hgx:Gl X x)(hmx:X.mg x=some (.ref D0))(hN:X.N.Nodup)(hi:X.N[i]?=some n)(hl:X.env.kindOf n=some .local)(hfn:X.fn n=true)(hb:∀ (E:XK) (σ:St) (pn:List (Addr×Obj)) (W:Value->Shared->Prop),wT (CX2 X.prog X.w) (X.tried pn W) σ E->PSsa (X.tried pn W) σ body (tb E))(hs:∀ (pn:List (Addr×Obj)) (ea:Addr) (oe:Obj) (vs:Array Value) (c:Addr) (dx:Option Addr),oe.cls = .ref c->oe.data = .fields vs->oe.dict=dx->c∈cs->(ea,oe)∈pn->PSs (X.suite pn ea) (b₀::suite) (ts ea c dx))(hd:(x==("__debug__":Str))=false:=by decide):PS X (.Try body [.ExceptHandler (some (.Name x np)) (some n) (b₀::suite) hpos] [] [] pos) (VL K D0 cs i tb ts) :=
 MZ hK hex hst hf hgx hmx hN hi hl hfn hb (λpn ea oe vs c h1 h2 h3 h4=>hs pn ea oe vs c _ h1 h2 rfl h3 h4) hd
end
theorem okXI {P:Program}{w:World}{K:Frag}{mg:Str->Option Value}{base:Heap}{x qual:Str}{st:Stmt}{f fI C R:Addr}{fd:FuncData}{a b g:Str}{value:Expr}{o:Expr}{pos pos':Pos}(F:Fun K x qual st f fd)(S:w9 [a,b] [a,b] (j3 st))(hb:t9 st=[.Assign [.Attribute o g pos'] value pos])(q:zR K C R fI=true)(hs:findIn K (.ref C) "__setattr__"=some (some (.builtin "object.__setattr__")))(hn:findIn K (.ref C) g=some none)(h:∀ (cdv:Value) (A:Around) (outer:List Env) (s:Shared) (H:Hp) (E:XK),PE (ql v7 P w K mg base [a,b] qual (j3 st) f cdv A outer s H E).nox o (o4 0)/\PE (ql v7 P w K mg base [a,b] qual (j3 st) f cdv A outer s H E).nox value (o4 1) /\ swapsWith value (some (.Attribute o g pos')) pos.line (ql v7 P w K mg base [a,b] qual (j3 st) f cdv A outer s H E).nox.env=pure false):FnOk P w K mg base v7 1 f fd [a,b] (wG C g):=by
 refine F.ok (k:=0) S (λvs H Q E h=>?_) (λcdv A outer s H vs Q E hr h'=>?_)
 ·obtain ⟨e,v,rfl,_⟩:=h;rfl
 ·obtain ⟨h1,h2,h3⟩:=h cdv A outer s H E;obtain ⟨e,v,rfl,he,q'⟩:=h';refine ⟨_,by rw [hb];exact j6 (MX q hs hn h1 h2 h3),?_⟩;exact ⟨_,rfl,_,rfl,e,rfl,he,q'⟩
end L2
namespace Mi
open PySem L2
theorem Gh {X:Cx}{K:Fg}{ea c:Addr}{oe:Obj}{vs:Array Value}{dx:Option Addr}{e:Expr}{f:Str}{pos:Pos}{i:Nat}(hK:X.K=K)(T:xk K c)(hh:PySem.W.hasDictIn K c=true)(hn:PySem.W.findIn K (.ref c) f=some none)(hp:(ea,oe)∈X.pn)(hc:oe.cls = .ref c)(hf:oe.data = .fields vs)(hd:oe.dict=dx)(he:PE X e (o4 i))(hb:attributeBase e f X.env (eval e X.env)=eval e X.env):PE X (.Attribute e f pos) (VM ea dx f i):=by subst hd;exact MF hK T hh hn hp hc hf he hb
end Mi
namespace L2
open PySem PySem.Spec PyProof.Rows PySem.W
variable{A:Around}{j:Nat}{K:Frag}{f x:Str}{ps:List Str}{sp:Sp}{d:Addr}{cs:List Addr}
structure RoomS (k:Nat)(A:Around):Prop where
 dp:A.depth+3*k+5<recursionLimit
 un:A.units+16*k+200<cLine
theorem Room.s {k:Nat}(r:Room k A){b:Option Value}:RoomS k (A.mark b):=⟨r.dp,r.un⟩
theorem RoomS.mono {k:Nat}(r:RoomS k A)(h:j<=k):RoomS j A:=⟨by have:=r.dp;omega,by have:=r.un;omega⟩
structure wQ (P:Program)(w:World)(K:Frag)(mg:Str->Option Value)(base:Heap)(k:Nat)(f:Addr)(fd:FuncData)(ps:List Str)(sp:Sp):Prop where
 len:∀ vs H Q E,sp vs H Q E->vs.length=ps.length
 run:∀(A:Around)(outer:List Env)(s:Shared)(H:Hp)(args:Args)(us:List Value)(vs:List V)(Q:VK)(E:XK),RoomS k A->Env0 P w K mg base A outer s H->BindsTo s fd args (ps.zip us)->Vals vs us->sp vs H Q E ->
  codeAny (model P w) A (.call (.ref f) args) (CR v7 outer P w H s Q E) s
abbrev cxW (P:Program)(w:World)(K:Frag)(mg:Str->Option Value)(base:Heap)(N:List Str)(qual:Str)(scope:Scope)(f:Addr)(cd:Value)(A:Around)(outer:List Env)(s:Shared)(H:Hp):Cx :=
 { ql v7 P w K mg base N qual scope f cd A outer s H E0 with calm:=false,xe:=λ_ _=>False }
theorem Fun.okS {P:Program}{w:World}{mg:Str->Option Value}{base:Heap}{qual:Str}{st:Stmt}{f:Addr}{fd:FuncData}{N:List Str}{k:Nat}(F:Fun K x qual st f fd)(S:w9 N ps (j3 st))(len:∀ vs H Q E,sp vs H Q E->vs.length=ps.length)(hbody:∀(cdv:Value)(A:Around)(outer:List Env)(s:Shared)(H:Hp)(vs:List V)(Q:VK)(E:XK),sp vs H Q E -> ∃ t,PSs (cxW P w K mg base N qual (j3 st) f cdv A outer s H) (t9 st) t/\t { nx:=λ_ H'=>Q .non H',rt:=Q } (start N vs) H):wQ P w K mg base (k+1) f fd ps sp:=by
 obtain ⟨oc,od,kV,doc,pm,an,cdv,ct,osl,rfl,lk,hcd⟩:=F.ex;refine ⟨len,λA outer s H args us vs Q E hr e0 hb r hsp=>?_⟩;have hl:=len _ _ _ _ hsp;have KX:K.In s.heap:=e0.mod.kin.keeps λb o e=>(e0.bs b o e).1;have lim:s.heap.NoLimit:=e0.mod.nolimit.keeps λb o e=>(e0.bs b o e).1;have hkind:∀ y∈ps.zip us,(j3 st).names.lookup y.1=some .local∨((j3 st).names.lookup y.1=some .cell/\((cellsFrom (s.heap.objs.size+1) (j3 st).names []).lookup y.1).isSome=true):=λ⟨n,v⟩ hy=>by
  rcases S.par n (List.of_mem_zip hy).1 with q|q
  ·exact .inl q
  ·exact .inr ⟨q,PySem.W.cellsFrom_some _ _ _ (.inl q)⟩
 have dpt:A.depth<recursionLimit:=by have:=hr.dp;omega
 refine codeAny_call_function dpt (KX _ _ lk) rfl S.co S.gen rfl (PySem.W.codeRec_of KX hcd) (hb _ _ _ _ ?_);refine wpAny_newFunctionEnv_cells S.kind hkind λenv he s1 x=>?_;subst he;refine ⟨lim.keeps x.toInCall.keep,codeAny_func ?_⟩;obtain ⟨t,ht,hq⟩:=hbody cdv A outer s H vs Q E hsp;have e1:Env0 P w K mg base { A with handled:=none } outer s H:=⟨e0.frames,e0.mod,e0.bs,e0.bsz,e0.funs,e0.frf,e0.hok,e0.bare,e0.tbs⟩;have I0:Inv (ql v7 P w K mg base N qual (j3 st) f cdv { A with handled:=none } outer s H E0) [] (start N vs) H s1:=Uq S rfl e1 hl r x;have ok:=I0.ok;have I:Inv (cxW P w K mg base N qual (j3 st) f cdv A outer s H) [] (start N vs) H s1 :=
  ⟨⟨ok.mod,ok.kind,ok.glob,ok.blt,ok.above,ok.inj,ok.has,ok.cab,(λz=>nomatch z),ok.frames,ok.stk,ok.exf,ok.bs,ok.bsz,ok.noex,ok.exfs,ok.funs,ok.frf,ok.tbs⟩,I0.os,I0.bare,I0.base,I0.loc,I0.cell,I0.free,I0.freeC,I0.pin,I0.hok,I0.len⟩
 refine wpAny_mono (ht [] s1 (start N vs) H _ I hq) (λfl s' hs=>?_) λe s' hs=>hs.elim;have fin:∀{σ':St}{H':Hp}{v:V}{u:Value},Inv (cxW P w K mg base N qual (j3 st) f cdv A outer s H) [] σ' H' s'->RelV v u->Q v H'->CE outer P w H s Q u s' :=
  λ{σ' H' v u} J rv q=>⟨v,H',J.os,J.bare,J.base,J.hok,rv,q⟩
 cases fl with
 |ret u=>obtain ⟨v,σ',H',J,rv,q⟩:=hs;exact fin J rv q
 |next=>obtain ⟨σ',H',J,q⟩:=hs;exact fin (v:=V.non) (u:=Value.none) J rfl q
 |brk=>obtain ⟨_,_,_,q⟩:=hs;exact False.elim q
 |cont=>obtain ⟨_,_,_,q⟩:=hs;exact False.elim q
structure Fs (P:Program)(w:World)(K:Frag)(mg:Str->Option Value)(base:Heap)(k:Nat)(x:Str)(ps:List Str)(sp:Sp):Prop where
 ex:∃ f fd,wQ P w K mg base k f fd ps sp/\mg x=some (.ref f)/\keepIn K (.ref f)=true/\Binds K fd ps []
theorem pe_fs {X:Cx}{k:Nat}{e:Expr}{es:List Expr}{t:TA}{p pos:Pos}(c:Fs X.prog X.w X.K X.mg X.base k x ps sp)(hr:RoomS j X.A)(hj:k<=j)(hg:Gl X x)(ha:PA X (e::es) t)(hdb:(x==("__debug__":Str))=false:=by decide)(he:starEach (e::es) X.env=(false,eval e X.env)::starEach es X.env:=by rfl)(hpl:(backTo pos (starEach es X.env)).any (·.1)=false:=by rfl):PE X (.Call (.Name x p) (e::es) [] pos) (xH sp [] E0 t):=by
 obtain ⟨f,fd,F,hm,hk,hb⟩:=c.ex;intro pins s σ H Q I h;refine wpAny_Call_Name_kw (vc I hg hm ?_ hdb);refine PySem.W.callWith_K (h₀:=X.base) I.ok.mod.kin hk (j5 (ha pos pins s σ H _ I h) λus s1 ⟨vs,H1,I1,r,q⟩=>⟨I1.kIn,?_⟩) he hpl;have r2:Vals (vs++[]) (us++[]):=r.append .nil;have hl:(us++[]).length=ps.length:=by rw [<- r2.length];exact F.len _ _ _ _ q
 refine wpAny_call (codeAny_mono (F.run X.A X.stack s1 H1 ⟨us,[]⟩ (us++[]) (vs++[]) Q E0 (hr.mono hj) I1.env0 (hb s1 us I1.kIn hl) r2 q) λr s' hq=>?_);cases r with
 |error e=>exact hq.elim
 |ok fl =>
  cases fl with
  |ret u=>exact I1.after hq
  |next=>exact False.elim hq
  |brk=>exact False.elim hq
  |cont=>exact False.elim hq
theorem Uj :∀ c,c∈([]:List Addr)->hasDictIn K c=true:=λ_ h=>nomatch h
theorem Ui (h:hasDictIn K d=true)(r:∀ c,c∈cs->hasDictIn K c=true):∀ c,c∈d::cs->hasDictIn K c=true:=λc hc=>by
 rcases yM.mp hc with rfl|z
 ·exact h
 ·exact r c z
theorem UT :∀ c,c∈([]:List Addr)->findIn K (.ref c) f=some none:=λ_ h=>nomatch h
theorem US (h:findIn K (.ref d) f=some none)(r:∀ c,c∈cs->findIn K (.ref c) f=some none):∀ c,c∈d::cs->findIn K (.ref c) f=some none:=λc hc=>by
 rcases yM.mp hc with rfl|z
 ·exact h
 ·exact r c z
end L2
namespace Mi
open PySem L2
variable{K:Fg}
theorem okPS {P:Program}{w:World}{mg:Str->Option Value}{base:Heap}{x qual:Str}{st:Stmt}{f:Addr}{fd:FuncData}{N ps:List Str}{k:Nat}{b:MS}{m:List PV->Option PV}(F:Fun K x qual st f fd)(S:w9 N ps (j3 st))(hm:m=b7 N.length ps.length b)(hb:∀(cdv:Value)(A:Around)(outer:List Env)(s:Shared)(H:Hp),∃ t,PSs (cxW P w K mg base N qual (j3 st) f cdv A outer s H) (t9 st) t/\n8 false t b):wQ P w K mg base (k+1) f fd ps (v8 m):=by
 subst hm;refine F.okS S (λvs H Q E h=>?_) (λcdv A outer s H vs Q E h=>?_)
 ·obtain ⟨Hs,xs,y,_,r,e,_⟩:=h;unfold b7 at e;split at e
  ·rename_i hl;rw [r.length];exact hl
  ·cases e
 ·obtain ⟨Hs,xs,y,sm,r,e,q⟩:=h;obtain ⟨t,ht,sem⟩:=hb cdv A outer s H;refine ⟨t,ht,?_⟩;unfold b7 at e;split at e
  ·rename_i hl;obtain ⟨o,eo,e1⟩:=bind_some e;refine sem.h eo (by rw [<- hl];exact zN sm r) ?_;cases o with
   |rt z=>cases e1;exact λv Hs' H' x rv=>q v Hs' H' x rv
   |nx ε=>cases e1;exact λHs' H' σ rs=>q _ Hs' H' rs.ext (rep_at.mpr rfl)
   |bk ε=>cases e1
   |ct ε=>cases e1
  ·cases e
open Classical in
noncomputable def vV (K:Fg)(i:Nat):M:=λε=>if h:∃ ns,ε[i]?=some (.sh (scr K ns)) then some (.at (.int h.choose.sum)) else none
theorem Pg {i:Nat}{ε:ME}{ns:List Int}(h:ε[i]?=some (.sh (scr K ns))):∃ n:Int,vV K i ε=some (.at (.int n)):=by unfold vV;rw [dif_pos ⟨ns,h⟩];exact ⟨_,rfl⟩
instance {i:Nat}:SemE (tCB (GF K) (i6 (o4 i) qa)) (vV K i) where
 h:=λe _ _ _ _ _ r _ q=>by
  unfold vV at e;split at e
  ·rename_i h;cases e;obtain ⟨v,h1,h2⟩:=r.sh i _ h.choose_spec;obtain ⟨a,rfl,h3⟩:=GZ r.sub h2;exact ⟨_,h1,a,h.choose,rfl,h3,q _ _ _ (.refl r.sub) (rep_at.mpr rfl)⟩
  ·cases e
end Mi
namespace Mi
open PySem L2
variable{H Hs Hs':Hp}{b:Addr}{j n:Nat}{f x:M}{ε:ME}{ts:List Nat}{it:MA}{g:MG}{c:MB}
def Tops (Hs H:Hp):List Addr->List PV->Prop
 |[],[]=>True
 |a::as,w::ws=>Top Hs H a w/\Tops Hs H as ws
 |_,_=>False
theorem Tops.mono {H':Hp}(s1:Same Hs Hs')(s2:Same H H'):∀{as:List Addr}{ws:List PV},Tops Hs H as ws->Tops Hs' H' as ws
 |[],[],_=>trivial
 |_::_,_::_,h=>⟨h.1.mono s1 λo z=>s2 _ _ z,h.2.mono s1 s2⟩
 |[],_::_,h=>h.elim
 |_::_,[],h=>h.elim
theorem Tops.snoc {a:Addr}{w:PV}(t:Top Hs H a w):∀{as:List Addr}{ws:List PV},Tops Hs H as ws->Tops Hs H (as++[a]) (ws++[w])
 |[],[],_=>⟨t,trivial⟩
 |_::_,_::_,h=>⟨h.1,h.2.snoc t⟩
 |[],_::_,h=>h.elim
 |_::_,[],h=>h.elim
theorem Tops.mem :∀{as:List Addr}{ws:List PV},Tops Hs H as ws->b∈as->H b≠none
 |a::as,w::ws,h,hb=>by
  rcases yM.mp hb with rfl|z
  ·exact h.1.there
  ·exact h.2.mem z
 |[],_,_,hb=>nomatch hb
 |_::_,[],h,_=>h.elim
theorem Tops.at {Hs H:Hp}{l:List PV}:∀{as:List Addr}{ls:List (List PV)}{j:Nat},Tops Hs H as (ls.map .lst)->ls[j]?=some l->∃ b,as[j]?=some b/\Top Hs H b (.lst l)
 |a::as,x::ls,0,h,e=>by cases e;exact ⟨a,rfl,h.1⟩
 |a::as,x::ls,j+1,h,e=>Tops.at (as:=as) (ls:=ls) (j:=j) h.2 (by simpa using e)
 |_,[],_,_,e=>by simp at e
 |[],_::_,_,h,_=>h.elim
theorem UM:∀{ys:List PV}{ls:List (List PV)},xN ys=some ls->ys=ls.map .lst
 |[],ls,h=>by cases h;rfl
 |y::ys,ls,h=>by
  unfold xN at h;split at h
  ·rename_i e;cases e
  ·rename_i e;cases e;obtain ⟨zs,hz,rfl⟩:=yJ.mp h;rw [UM hz];rfl
  ·cases h
theorem UN:∀ ls:List (List PV),xN (ls.map .lst)=some ls
 |[]=>rfl
 |l::ls=>by
  show (xN (ls.map .lst)).map (l::·)=_;rw [UN ls];rfl
theorem Tops.share {v:V}{x:PV}{vs:List V}(s1:Same Hs Hs')(hx:Rep Hs x v)(hb:H b=some (.lst vs)):∀{as:List Addr}{ls:List (List PV)},Tops Hs H as (ls.map .lst)->as.Nodup->as[j]?=some b->(∀ a∈as,Hs' a=if a=b then some (.lst (vs++[v])) else H a) -> Reps Hs' ((ls.set j (ls.getD j []++[x])).map .lst) (as.map V.ref):=by
 have no:∀{as:List Addr}{ls:List (List PV)},Tops Hs H as (ls.map .lst)->b∉as->(∀ a∈as,Hs' a=if a=b then some (.lst (vs++[v])) else H a)->Reps Hs' (ls.map .lst) (as.map V.ref):=by
  intro as
  induction as with
  |nil =>
   intro ls t _ _;cases ls with
   |nil=>exact .nil
   |cons _ _=>exact t.elim
  |cons a as ih =>
   intro ls t nb h;cases ls with
   |nil=>exact t.elim
   |cons l ls=>obtain ⟨⟨ws,h1,h2⟩,t2⟩:=t;have ab:a≠b:=λz=>nb (z▸yQ);refine .cons (rep_lst.mpr ⟨a,ws,rfl,?_,h2.mono s1⟩) (ih t2 (λz=>nb (yR _ z)) λc hc=>h c (yR _ hc));rw [h a yQ,if_neg ab];exact h1
 intro as
 induction as generalizing j with
 |nil=>intro ls t _ e;simp at e
 |cons a as ih =>
  intro ls t nd e h;cases ls with
  |nil=>exact t.elim
  |cons l ls =>
   obtain ⟨⟨ws,h1,h2⟩,t2⟩:=t;obtain ⟨na,nd2⟩:=yt.mp nd;cases j with
   |zero=>obtain rfl:a=b:=Option.some.inj e;rw [h1] at hb;cases hb;refine .cons (rep_lst.mpr ⟨a,_,rfl,?_,(h2.mono s1).snoc (hx.mono s1)⟩) (no t2 na λc hc=>h c (yR _ hc));rw [h a yQ,if_pos rfl]
   |succ j =>
    have e':as[j]?=some b:=by simpa using e
    have ab:a≠b:=λz=>na (z▸yp e');refine .cons (rep_lst.mpr ⟨a,ws,rfl,?_,h2.mono s1⟩) (ih t2 nd2 e' λc hc=>h c (yR _ hc));rw [h a yQ,if_neg ab];exact h1
theorem RS.hide {Hs0 H0:Hp}{σ:St}(r:RS Hs0 H0 Hs H σ ε)(i:Nat)(v:Option V):RS Hs0 H0 Hs H (σ.set i v) (ε.set i .no):=by
 have dn:∀(j:Nat)(s:MSlot),(ε.set i .no)[j]?=some s->s = .no∨(i≠j/\ε[j]?=some s):=λj s q=>by
  rw [yE] at q;split at q
  ·split at q
   ·cases q;exact .inl rfl
   ·cases q
  ·rename_i h;exact .inr ⟨h,q⟩
 have up:∀(j:Nat),i≠j->(σ.set i v)[j]?=σ[j]?:=λj h=>yq h;refine ⟨r.ext,λj x q=>?_,λj x q=>?_,λj k x y a h1 h2 h3 h4=>?_,by rw [yn,yn,r.len],λj x q=>?_⟩
 ·rcases dn j _ q with z|⟨h,q⟩
  ·cases z
  ·rw [up j h];exact r.sh j x q
 ·rcases dn j _ q with z|⟨h,q⟩
  ·cases z
  ·rw [up j h];exact r.ow j x q
 ·rcases dn j _ h1 with z|⟨g1,q1⟩
  ·cases z
  ·rcases dn k _ h2 with z|⟨g2,q2⟩
   ·cases z
   ·rw [up j g1] at h3;rw [up k g2] at h4;exact r.nd j k x y a q1 q2 h3 h4
 ·rcases dn j _ q with z|⟨h,q⟩
  ·cases z
  ·rw [up j h];exact r.bo j x q
def vT (i:Nat)(cap:List (Option Nat))(ts:List Nat)(it:MA)(g:MG)(c:MB)(f k x:M):MS:=λε=>(it ε).bind λxs=>if xy cap ts=true/\xs.length<=lim/\i<ε.length then (qm g c f (m4 cap ε) xs).bind λys=>(xN ys).bind λls=>(k (ε.set i .no)).bind λkv=>match kv with
 | .at (.int n)=>(x (ε.set i .no)).bind λy=>if 0<=n/\n<ls.length/\(ls.getD n.toNat []).length<=lim then some (.nx (ε.set i (.ow (.lst ((ls.set n.toNat (ls.getD n.toNat []++[y])).map .lst))))) else none
 |_=>none else none
variable {fr:Bool}
instance (priority:=2000){K:Fg}{wi:TI}{tg:TG}{tt:TT}{te tk tx:TE}{cap:List (Option Nat)}{k:M}{u:TS}{r:MS}[si:zA wi it][sg:jm tg ts g][sc:qI tt c][sf:xw te f][sk:SemE tk k][sx:SemE tx x][sr:n8 fr u r]:n8 fr (tSeq (zx (wH wi tg tt te cap) (qQ n)) (tSeq (zO (tBM K "list" Zc (tOp (rIx K) (o4 n) tk) (i6 tx qa))) u)) (y8 (vT n cap ts it g c f k x) r) where
 h:=λ{ε o} e Hs0 H0 Hs H σ rs D q=>by
  obtain ⟨o1,e1,e2⟩:=bind_some e;unfold vT at e1;obtain ⟨xs,ex,e1⟩:=bind_some e1;split at e1
  rotate_left
  ·cases e1
  rename_i hcl;obtain ⟨hcap,hl,hn⟩:=hcl;unfold xy at hcap;rw [ya] at hcap;obtain ⟨ys,ey,e1⟩:=bind_some e1;obtain ⟨ls,el,e1⟩:=bind_some e1;obtain ⟨kv,ek,e1⟩:=bind_some e1;split at e1
  rotate_left
  ·cases e1
  rename_i kk;obtain ⟨y,exx,e1⟩:=bind_some e1;split at e1
  rotate_left
  ·cases e1
  rename_i hk;obtain ⟨k0,k1,k2⟩:=hk;cases e1;cases UM el;refine si.h ex rs λJ Hs1 H1 x1 ok=>?_;have rc:=((rs.go x1).cap (uV hcap.1)).rebase;have wk:∀ i∈ts,(p7 cap σ)[i]?=some none:=λi hi=>by
   unfold p7;rw [yO,uV (uU.mp hcap.2 i hi)];rfl
  refine ⟨λk m zs H=>m=xs.length-k/\k<=xs.length/\∃ Hs2 as ws,zs=as.map V.ref/\Ext Hs1 H1 Hs2 H/\RS Hs1 H0 Hs2 H (p7 cap σ) (m4 cap _)/\Tops Hs2 H as ws/\as.Nodup/\(∀ b∈as,H1 b=none/\Hs2 b=none)/\as.length<=k/\∃ rest,qm g c f (m4 cap _) (xs.drop k)=some rest/\ls.map PV.lst=ws++rest,
   ⟨xs.length,by simp,uZ _,Hs1,[],[],rfl,.refl x1.s3,rc,trivial,.nil,(λ_ z=>nomatch z),yS _,_,ey,rfl⟩,?_⟩
  rintro k m zs H2 ⟨rfl,hk,Hs2,as,ws,rfl,x2,r2,tp,nd,nw,hw,rest,er,eys⟩;refine ⟨qR (by rw [yZ];omega),?_⟩;by_cases hlt:k<xs.length
  ·have hd:xs.drop k=xs[k]::xs.drop (k+1):=yb hlt;rw [hd] at er;unfold qm at er;obtain ⟨ε1,eg,er1⟩:=bind_some er;obtain ⟨b,eb,er2⟩:=bind_some er1;obtain ⟨go,yl⟩:=ok.go k xs[k] Hs2 H2 (by simp [hlt]) x2.s1 x2.s3;refine .inr ⟨go,λv H3 y=>?_⟩;obtain ⟨Hs3,x3,r3⟩:=yl v H3 y;refine sg.h eg (r2.go x3) r3 λσ2 rs2 bt=>⟨bt.wk wk,sc.h eb rs2 λHs4 H4 x4=>?_⟩;cases b with
   |true =>
    rw [if_pos rfl] at er2;obtain ⟨z,ez,er3⟩:=bind_some er2;obtain ⟨rest',er4,er5⟩:=bind_some er3;cases er5;refine xC (sf.h ez (rs2.go x4) λa Hs5 H5 x5 na ns t5=>⟨xs.length-(k+1),by omega,rfl,hlt,Hs5,as++[a],ws++[z],by rw [yw];rfl,x2.trans (x3.trans (x4.trans x5)),((r2.go x3).go x4).go x5,(tp.mono (x3.s1.trans (x4.s1.trans x5.s1)) (x3.s2.trans (x4.s2.trans x5.s2))).snoc t5,?_,?_,?_,rest',er4,?_⟩)
    ·refine List.nodup_append.mpr ⟨nd,by simp,λb hb c hc z=>?_⟩;rw [yP.mp hc] at z;subst z;exact VA (x3.s2.trans x4.s2) (tp.mem hb) na
    ·intro b hb;rcases yx.mp hb with hb|hb
     ·exact ⟨(nw b hb).1,(x3.trans (x4.trans x5)).s4 b (tp.mem hb) (nw b hb).2⟩
     ·rw [yP.mp hb];exact ⟨(x2.s2.trans (x3.s2.trans x4.s2)).free na,ns⟩
    ·rw [yL];simp;omega
    ·rw [uS];exact eys
   |false=>rw [if_neg yU] at er2;exact xz ⟨xs.length-(k+1),by omega,rfl,hlt,Hs4,as,ws,rfl,x2.trans (x3.trans x4),(r2.go x3).go x4,tp.mono (x3.s1.trans x4.s1) (x3.s2.trans x4.s2),nd,λb hb=>⟨(nw b hb).1,(x3.trans x4).s4 b (tp.mem hb) (nw b hb).2⟩,by omega,rest,er2,eys⟩
  ·have ek':k=xs.length:=by omega
   subst ek';rw [uE] at er;unfold qm at er;cases er;refine .inl ⟨ok.stop Hs2 H2 x2.s1 x2.s3,λF hF=>?_⟩;rw [yo] at eys;subst eys;have x12:=x1.trans x2;have xF:Ext Hs2 H2 Hs2 (z8 H2 F (.lst (as.map V.ref))):= .newO x2.s3 hF;have hFl:z8 H2 F (.lst (as.map V.ref)) F=some (.lst (as.map V.ref)):=y7;generalize z8 H2 F (.lst (as.map V.ref))=H3 at xF hFl ⊢;have rs1:=(rs.go (x12.trans xF)).hide n (some (.ref F));have hnσ:(σ.set n (some (V.ref F)))[n]?=some (some (.ref F)):=uN (by rw [rs.len];exact hn);obtain ⟨l,hj⟩:∃ l,ls[kk.toNat]?=some l:=⟨_,yN (by omega)⟩;have gl:ls.getD kk.toNat []=l:=by rw [yA,hj];rfl
   obtain ⟨b,hb,vs,hv,rv⟩:=tp.at hj;have bm:=yp hb;have bF:b≠F:=λz=>by rw [z,hF] at hv;cases hv
   refine ⟨_,hnσ,sk.h ek rs1 λv Hs3 H4 x3 r3=>?_⟩;have ev:v = .int kk:=rep_at.mp r3;subst ev;have h4F:=x3.s2 _ _ hFl;have h4b:=x3.s2 _ _ (xF.s2 _ _ hv);refine .inl ⟨F,as.map V.ref,kk,.ref b,rfl,rfl,SqL.of h4F,?_,.inl ⟨rfl,vs,SqL.of h4b⟩,sx.h exx (rs1.go x3) λv Hs4 H5 x4 r4=>?_⟩
   ·have:kk=((kk.toNat:Nat):Int):=by omega
    rw [this];exact xS (by rw [yO,hb];rfl)
   have h5F:=x4.s2 _ _ h4F;have h5b:=x4.s2 _ _ h4b;rw [gl] at k2;refine ⟨b,vs,v,rfl,rfl,h5b,Qg (by rw [rv.length];exact k2),?_⟩;have x25:=xF.trans (x3.trans x4);have xA:=x12.trans x25;have asH:∀ a∈as,H a=none:=λa ha=>x1.s2.free (nw a ha).1;have as5:∀ a∈as,Hs4 a=none:=λa ha=>x25.s4 a (tp.mem ha) (nw a ha).2;have Fa:F∉as:=λz=>tp.mem z hF
   open Classical in
   let Hs6:Hp:=λa=>if a∈as then z8 H5 b (.lst (vs++[v])) a else Hs4 a
   have hin:∀ a,a∈as->Hs6 a=z8 H5 b (.lst (vs++[v])) a:=λa ha=>if_pos ha;have hout:∀ a,a∉as->Hs6 a=Hs4 a:=λa ha=>if_neg ha
   clear_value Hs6
   have s46:Same Hs4 Hs6:=λa w z=>by
    rw [hout a (λy=>by rw [as5 a y] at z;cases z)];exact z
   have xB:Ext Hs H Hs6 (z8 H5 b (.lst (vs++[v]))):=by
    refine ⟨xA.s1.trans s46,λa w z=>?_,λa w z=>?_,λa h1 h2=>?_⟩
    ·rw [z9 (λy=>by rw [y,asH b bm] at z;cases z)];exact xA.s2 _ _ z
    ·by_cases ha:a∈as
     ·rw [hin a ha] at z;exact z
     ·rw [hout a ha] at z;rw [z9 (λy=>ha (by rw [y];exact bm))];exact xA.s3 _ _ z
    ·rw [hout a (λy=>h1 (asH a y))];exact xA.s4 a h1 h2
   refine sr.h e2 ((rs.go xB).putO (i:=n) (a:=F) ⟨rs.ext.s2.free (x12.s2.free hF),?_,as.map V.ref,?_,?_⟩ λj w hj2 z=>?_) q
   ·rw [hout F Fa];exact (x3.trans x4).s4 F (by rw [hFl];exact λz=>nomatch z) (x2.s3.free hF)
   ·rw [z9 bF.symm];exact h5F
   ·refine Tops.share (Hs:=Hs4) (H:=H5) s46 r4 h5b (tp.mono (x3.s1.trans x4.s1) x25.s2) nd hb λa ha=>?_;rw [hin a ha];rfl
   ·obtain ⟨b',hb',_,_,tb⟩:=rs.ow j w hj2;rw [z] at hb';injection hb' with hb';injection hb' with hb';injection hb' with hb';subst hb';exact tb.there (x12.s2.free hF)
theorem YX {cap:List (Option Nat)}{k:M}{xs:List PV}{ls:List (List PV)}{y:PV}(h:it ε=some xs)(hc:xy cap ts=true)(hl:xs.length<=lim)(hn:n<ε.length)(hd:qm g c f (m4 cap ε) xs=some (ls.map .lst))(hk:k (ε.set n .no)=some (.at (.int (j:Int))))(hx:x (ε.set n .no)=some y)(hj:j<ls.length)(h2:(ls.getD j []).length<=lim):vT n cap ts it g c f k x ε=some (.nx (ε.set n (.ow (.lst ((ls.set j (ls.getD j []++[y])).map .lst))))):=by unfold vT;rw [h,yF,if_pos ⟨hc,hl,hn⟩,hd,yF,UN,yF,hk,yF];show (x (ε.set n .no)).bind _=_;rw [hx,yF,uQ];exact if_pos ⟨by omega,by omega,h2⟩
end Mi
namespace Lw
open PySem L2 Mi
variable{α:Type}{g h j n to:Nat}{rss:List (List Int)}{a:M}{b m:Str×Int}{H:Hp}{Aa Ab Ag Ak Al C R fI p:Addr}{r:List Int}{vs:List V}{Q:VK}{E:XK}{ε:ME}{A9 D1 Eb Ii:Tok}{l:PySem.W.OpenLaw}{rest xs:List PV}{q qual x:Str}{ks:List j4}{x1 x2 y:PV}{σ:St}{u:MSlot}{ms:List (Str×Int)}{ps:List Str}{sp:Sp}{st:Stmt}{cd ct dc oc pm:Value}{an od:Option Addr}{sl:Array (Option Value)}
variable {P:Program}{w:World}{K:Fg}{mg:Str->Option Value}{base:Heap}{f:Addr}{fd:FuncData}
theorem l0:0<=lim:=by decide
theorem l1:1<=lim:=by decide
theorem l2:2<=lim:=by decide
theorem l3:3<=lim:=by decide
theorem l4:4<=lim:=by decide
theorem l5:5<=lim:=by decide
theorem l6:6<=lim:=by decide
theorem l7:7<=lim:=by decide
theorem l8:8<=lim:=by decide
theorem l9:9<=lim:=by decide
structure xl (h:Nat)(rss:List (List Int)):Prop where
 len:rss.length=h+1
 row:∀ r∈rss,r.length=h/\∀ v∈r,0<=v/\v<10 ^ 30
def rin (rss:List (List Int))(f g:Int):Int:=((atI rss f).bind λr=>atI r g).getD 0
def zy (rss:List (List Int)):Int->List Int->Int
 |_,[]=>0
 |f,h::r=>rin rss f h+zy rss h r
abbrev Wy:=Int×List Int
variable{T:List (List Wy)}{onw ws:List Wy}
def zF (a b:Wy):Wy:=if b.1<a.1 then b else a
def zn (a b:Wy):Wy:=(a.1+b.1,a.2++b.2)
def thr (ws:List Wy)(k:Nat)(onw:List Wy):List Wy:=List.zipWith (λw m=>zF w (zn (ws.getD k (0,[])) m)) ws onw
def qP (T:List (List Wy))(k:Nat):List (List Wy):=T.map λrow=>thr row k (T.getD k [])
def zw (row:List Int):List Wy:=row.mapIdx λi v=>(v,[(i:Int)])
def o3 (rss:List (List Int)):Nat->List (List Wy)
 |0=>rss.map zw
 |k+1=>qP (o3 rss k) k
def u5 (T:List (List Wy))(f g:Nat):Wy:=(T.getD f []).getD g (0,[])
def vf (rss:List (List Int))(h:Nat):List (List Int):=(o3 rss h).map λrow=>row.map (·.1)
structure Shp (h:Nat)(T:List (List Wy)):Prop where
 len:T.length=h+1
 row:∀ r∈T,r.length=h
theorem qo {l:List α}{i:Nat}{d:α}(h:i<l.length):l.getD i d=l[i]:=by rw [yA,yN h];rfl
theorem Shp.rowAt (S:Shp h T){f:Nat}(hf:f<=h):(T.getD f []).length=h:=by
 have hl:f<T.length:=by have:=S.len;omega
 rw [qo hl];exact S.row _ (yj hl)
theorem Kq {k:Nat}(h:ws.length=onw.length):(thr ws k onw).length=ws.length:=by unfold thr;rw [List.length_zipWith,h,Nat.min_self]
theorem Shp.step (S:Shp h T){k:Nat}(hk:k<h):Shp h (qP T k):=by refine ⟨by unfold qP;rw [yZ];exact S.len,λr hr=>?_⟩;unfold qP at hr;obtain ⟨row,hm,rfl⟩:=yr.mp hr;have e1:=S.row row hm;rw [Kq (by rw [e1,S.rowAt (by omega)]),e1]
theorem vX (S:Shp h T){k f:Nat}(hk:k<h)(hf:f<=h)(hg:g<h):u5 (qP T k) f g=zF (u5 T f g) (zn (u5 T f k) (u5 T k g)):=by
 have hl:f<T.length:=by have:=S.len;omega
 have hl2:f<(qP T k).length:=by unfold qP;rw [yZ];exact hl
 have e1:(qP T k).getD f []=thr (T.getD f []) k (T.getD k []):=by unfold qP;rw [qo (by rw [yZ];exact hl),List.getElem_map,qo hl]
 have r1:=S.rowAt hf;have r2:=S.rowAt (f:=k) (by omega);unfold u5;rw [e1,qo (by rw [Kq (by rw [r1,r2])];omega),qo (l:=T.getD f []) (i:=g) (by omega),qo (l:=T.getD k []) (i:=g) (by omega)];unfold thr;rw [List.getElem_zipWith]
theorem Shp.start (G:xl h rss):Shp h (o3 rss 0):=by refine ⟨by show (rss.map zw).length=_;rw [yZ];exact G.len,λr hr=>?_⟩;obtain ⟨row,hm,rfl⟩:=yr.mp hr;unfold zw;rw [List.length_mapIdx];exact (G.row row hm).1
theorem Shp.all {h:Nat}{rss:List (List Int)}(G:xl h rss):∀ k,k<=h->Shp h (o3 rss k)
 |0,_=>Shp.start G
 |k+1,hk=>(Shp.all G k (by omega)).step (by omega)
theorem Jx (G:xl h rss){f:Nat}(hf:f<=h)(hg:g<h):rin rss (f:Int) (g:Int)=(rss.getD f []).getD g 0:=by
 have hl:f<rss.length:=by have:=G.len;omega
 have e1:atI rss (f:Int)=some rss[f]:=xS (yN hl);have hg2:g<rss[f].length:=by rw [(G.row _ (yj hl)).1];exact hg
 have e2:atI rss[f] (g:Int)=some rss[f][g]:=xS (yN hg2);unfold rin;rw [e1];show (atI rss[f] (g:Int)).getD 0=_;rw [e2,qo hl,qo hg2];rfl
theorem Xf (G:xl h rss){f:Nat}(hf:f<=h)(hg:g<h):u5 (o3 rss 0) f g=(rin rss (f:Int) (g:Int),[(g:Int)]):=by
 have hl:f<rss.length:=by have:=G.len;omega
 have hl2:f<(rss.map zw).length:=by rw [yZ];exact hl
 have hg2:g<rss[f].length:=by rw [(G.row _ (yj hl)).1];exact hg
 rw [Jx G hf hg];unfold u5;show ((rss.map zw).getD f []).getD g (0,[])=_;rw [qo hl2,List.getElem_map,qo (by unfold zw;rw [List.length_mapIdx];exact hg2),qo hl,qo hg2];unfold zw;rw [List.getElem_mapIdx]
theorem Lu (G:xl h rss){f:Nat}(hf:f<=h)(hg:g<h):0<=rin rss (f:Int) (g:Int):=by
 have hl:f<rss.length:=by have:=G.len;omega
 have hg2:g<rss[f].length:=by rw [(G.row _ (yj hl)).1];exact hg
 rw [Jx G hf hg,qo hl,qo hg2];exact ((G.row _ (yj hl)).2 _ (yj hg2)).1
theorem KL {rss:List (List Int)}:∀{xs ys:List Int}{f g:Int},xs.getLast?=some g->zy rss f (xs++ys)=zy rss f xs+zy rss g ys
 |[],_,_,_,e=>by simp at e
 |[x],ys,f,g,e=>by
  have e':x=g:=by simpa using e
  subst e';show rin rss f x+zy rss x ys=rin rss f x+0+zy rss x ys;omega
 |x::y::r,ys,f,g,e=>by
  have q:=KL (rss:=rss) (xs:=y::r) (ys:=ys) (f:=x) (g:=g) (by simpa [List.getLast?_cons_cons] using e);show rin rss f x+zy rss x (y::r++ys)=rin rss f x+zy rss x (y::r)+zy rss g ys;rw [q];omega
structure WayOk (rss:List (List Int))(h:Nat)(f g:Nat)(w:Wy):Prop where
 sum:w.1=zy rss (f:Int) w.2
 last:w.2.getLast?=some (g:Int)
 ok:∀ x∈w.2,0<=x/\x<(h:Int)
structure FW (rss:List (List Int))(h k:Nat)(T:List (List Wy)):Prop where
 way:∀ f g,f<=h->g<h->WayOk rss h f g (u5 T f g)
 pos:∀ f g,f<=h->g<h->0<=(u5 T f g).1
 le:∀ f g,f<=h->g<h->(u5 T f g).1<=rin rss (f:Int) (g:Int)
 tri:∀ j f g,j<k->f<=h->g<h->(u5 T f g).1<=(u5 T f j).1+(u5 T j g).1
 len:∀ f g,f<=h->g<h->(u5 T f g).2.length<=2 ^ k
theorem wm (a b:Wy):(zF a b=a/\a.1<=b.1)∨(zF a b=b/\b.1<a.1):=by
 unfold zF;by_cases h:b.1<a.1
 ·rw [if_pos h];exact .inr ⟨rfl,h⟩
 ·rw [if_neg h];exact .inl ⟨rfl,by omega⟩
theorem CA (a b:Wy):(zF a b).1<=a.1/\(zF a b).1<=b.1:=by
 rcases wm a b with ⟨e,q⟩|⟨e,q⟩
 ·rw [e];exact ⟨Int.le_refl _,q⟩
 ·rw [e];exact ⟨Int.le_of_lt q,Int.le_refl _⟩
theorem WayOk.join {f k:Nat}{a b:Wy}(x:WayOk rss h f k a)(y:WayOk rss h k g b):WayOk rss h f g (zn a b):=by
 refine ⟨?_,?_,λz hz=>?_⟩
 ·show a.1+b.1=zy rss f (a.2++b.2);rw [KL x.last,x.sum,y.sum]
 ·show (a.2++b.2).getLast?=_;rw [List.getLast?_append,y.last];rfl
 ·rcases yx.mp hz with q|q
  ·exact x.ok z q
  ·exact y.ok z q
theorem FW.start (G:xl h rss):FW rss h 0 (o3 rss 0):=by
 refine ⟨λf g hf hg=>?_,λf g hf hg=>?_,λf g hf hg=>?_,λj f g hj=>absurd hj (by omega),λf g hf hg=>?_⟩
 ·rw [Xf G hf hg];refine ⟨?_,rfl,λx hx=>?_⟩
  ·show rin rss f g=rin rss f g+0;omega
  ·have e:x=(g:Int):=by simpa using hx
   rw [e];omega
 ·rw [Xf G hf hg];exact Lu G hf hg
 ·rw [Xf G hf hg];exact Int.le_refl _
 ·rw [Xf G hf hg];exact yS 1
theorem FW.step {k:Nat}(S:Shp h T)(x:FW rss h k T)(hk:k<h):FW rss h (k+1) (qP T k):=by
 have kl:k<=h:=by omega
 have toK:∀ f,f<=h->(u5 (qP T k) f k).1=(u5 T f k).1:=λf hf=>by
  rw [vX S hk hf hk];rcases wm (u5 T f k) (zn (u5 T f k) (u5 T k k)) with ⟨e,q⟩|⟨e,q⟩
  ·rw [e]
  ·have p:=x.pos k k kl hk;have q':(u5 T f k).1+(u5 T k k).1<(u5 T f k).1:=q;omega
 have ofK:∀ g,g<h->(u5 (qP T k) k g).1=(u5 T k g).1:=λg hg=>by
  rw [vX S hk kl hg];rcases wm (u5 T k g) (zn (u5 T k k) (u5 T k g)) with ⟨e,q⟩|⟨e,q⟩
  ·rw [e]
  ·have p:=x.pos k k kl hk;have q':(u5 T k k).1+(u5 T k g).1<(u5 T k g).1:=q;omega
 have bound:∀ f g,f<=h->g<h->(u5 (qP T k) f g).1<=(u5 T f g).1/\(u5 (qP T k) f g).1<=(u5 T f k).1+(u5 T k g).1:=λf g hf hg=>by
  rw [vX S hk hf hg];exact CA _ _
 have alt:∀ f g,f<=h->g<h->(u5 (qP T k) f g).1=(u5 T f g).1∨(u5 (qP T k) f g).1=(u5 T f k).1+(u5 T k g).1:=λf g hf hg=>by
  rw [vX S hk hf hg];rcases wm (u5 T f g) (zn (u5 T f k) (u5 T k g)) with ⟨e,q⟩|⟨e,q⟩
  ·rw [e];exact .inl rfl
  ·rw [e];exact .inr rfl
 refine ⟨λf g hf hg=>?_,λf g hf hg=>?_,λf g hf hg=>Int.le_trans (bound f g hf hg).1 (x.le f g hf hg),λj f g hj hf hg=>?_,λf g hf hg=>?_⟩
 ·rw [vX S hk hf hg];rcases wm (u5 T f g) (zn (u5 T f k) (u5 T k g)) with ⟨e,_⟩|⟨e,_⟩
  ·rw [e];exact x.way f g hf hg
  ·rw [e];exact (x.way f k hf hk).join (x.way k g kl hg)
 ·rcases alt f g hf hg with e|e
  ·rw [e];exact x.pos f g hf hg
  ·rw [e];have p1:=x.pos f k hf hk;have p2:=x.pos k g kl hg;omega
 ·by_cases hjk:j=k
  ·subst hjk;rw [toK f hf,ofK g hg];exact (bound f g hf hg).2
  ·have hj':j<k:=by omega
   have jl:j<=h:=by omega
   have jh:j<h:=by omega
   have b:=bound f g hf hg;have t1:=x.tri j f g hj' hf hg;have t2:=x.tri j f k hj' hf hk;have t3:=x.tri j k g hj' kl hg;have t4:=x.pos k j kl jh;have t5:=x.pos j k jl hk;rcases alt f j hf jh with e1|e1<;>rcases alt j g jl hg with e2|e2<;>rw [e1,e2]<;>omega
 ·rw [vX S hk hf hg];have e:2 ^ (k+1)=2 ^ k+2 ^ k:=by rw [Nat.pow_succ];omega
  rcases wm (u5 T f g) (zn (u5 T f k) (u5 T k g)) with ⟨q,_⟩|⟨q,_⟩
  ·rw [q];have:=x.len f g hf hg;omega
  ·rw [q];have a1:=x.len f k hf hk;have a2:=x.len k g kl hg;show ((u5 T f k).2++(u5 T k g).2).length<=_;rw [yL];omega
theorem FW.all {h:Nat}{rss:List (List Int)}(G:xl h rss):∀ k,k<=h->FW rss h k (o3 rss k)
 |0,_=>FW.start G
 |k+1,hk=>FW.step (Shp.all G k (by omega)) (FW.all G k (by omega)) (by omega)
theorem CF (G:xl h rss):xl h (vf rss h):=by
 have S:=Shp.all G h (yS _);have F:=FW.all G h (yS _);refine ⟨by unfold vf;rw [yZ];exact S.len,λr hr=>?_⟩;unfold vf at hr;obtain ⟨row,hm,rfl⟩:=yr.mp hr;refine ⟨by rw [yZ];exact S.row row hm,λv hv=>?_⟩;obtain ⟨w,hw,rfl⟩:=yr.mp hv;obtain ⟨f,hf,rfl⟩:=uG hm;obtain ⟨g,hg,rfl⟩:=uG hw;have hf':f<=h:=by have:=S.len;omega
 have hg':g<h:=by rw [<- S.row _ hm];exact hg
 have e:u5 (o3 rss h) f g=(o3 rss h)[f][g]:=by unfold u5;rw [qo hf,qo hg]
 have p:=F.pos f g hf' hg';have l:=F.le f g hf' hg';rw [e] at p l;refine ⟨p,Int.lt_of_le_of_lt l ?_⟩;have hl:f<rss.length:=by have:=G.len;omega
 have hg2:g<rss[f].length:=by rw [(G.row _ (yj hl)).1];exact hg'
 rw [Jx G hf' hg',qo hl,qo hg2];exact ((G.row _ (yj hl)).2 _ (yj hg2)).2
theorem UZ {α:Type}[DecidableEq α]:∀{ms left:List α},ms.Nodup->(∀ x∈ms,x∈left)->ms.length<=left.length
 |[],_,_,_=>uZ _
 |x::r,left,hn,hs=>by
  have hn':=yt.mp hn;have q:=UZ (ms:=r) (left:=left.erase x) hn'.2 (λy hy=>(List.mem_erase_of_ne (λe=>hn'.1 (by rw [e] at hy;exact hy))).mpr (hs y (yR _ hy)));have hx:=hs x yQ;rw [List.length_erase_of_mem hx] at q;have pos:0<left.length:=List.length_pos_of_mem hx;show r.length+1<=_;omega
def top (i:Nat):Stmt:=PySem.Challenge.pw_rinsework_k67_tray_moves_refused.main.body.getD i (.Pass ⟨0,0,0,0⟩)
abbrev Vg:Stmt:=top 55
abbrev Zg:Stmt:=top 56
abbrev JO:Stmt:=top 57
theorem Vy (h:H p=none)(o:HO):Same H (z8 H p o):=λb u q=>by rw [z9 (p5 q h)];exact q
theorem sizes (h:n<=1000):n<=sizeLine:=uT (wE h)
def VD:Sp:=λvs H Q _=>∃ c k:Int,vs=[.int c,.int k]/\0<=k/\k<=100/\∀ v:Int,0<=v->v<2147483648->Q (.int v) H
def Ke (K:Fg):Sp:=λvs H Q _=>∃(a:Addr)(ns:List Int)(k:Int),vs=[.ref a,.int k]/\SqL K H a (ns.map V.int)/\ns.length<=63/\0<=k/\k<=12 /\
 ∀(r:Addr)(n:Int)(H':Hp),H r=none->Same H H'->H' r=some (.lst [.int n])->Q (.ref r) H'
section
theorem sc_digit:w9 ["row","many","digit"] ["row","many"] (j3 JO):=u8
theorem Do (F:Fun K "_law_digit" "_law_digit" JO f fd):FnOk P w K mg base v7 1 f fd ["row","many"] zv:=by
 refine F.ok sc_digit (λvs H Q E h=>?_) (λcdv A outer s H vs Q E hr h=>?_)
 ·obtain ⟨a,n,m,rfl,_⟩:=h;rfl
 obtain ⟨a,n,m,rfl,hH,hm,q⟩:=h;refine ⟨_,(j7 (qv (i:=2) sc_digit.nd rfl (Or.inl rfl) (u3 jA (XR (ZQ (K:=K) rfl) (pv 0) z7 (λ_ _=>rfl)) (pv 1)))
  (j7 (Gq (u3 Ga (XR (ZQ (K:=K) rfl) (pv 0) z7 (λ_ _=>rfl)) (pv 1)) (MI (pv 0) z7 Nm))
  (j6 (u4 (pv 2))))),?_⟩
 refine ⟨_,rfl,a,_,0,_,rfl,rfl,SqL.of hH,rfl,_,rfl,n,m,rfl,rfl,hm.1,?_⟩;refine ⟨_,rfl,a,_,0,_,rfl,rfl,SqL.of hH,rfl,_,rfl,n,m,rfl,rfl,hm,?_⟩;refine ⟨_,rfl,a,_,0,0,rfl,rfl,hH,rfl,?_⟩;exact ⟨_,rfl,q⟩
theorem sc_mixed:w9 ["cell","k","stir"] ["cell","k"] (j3 Vg):=u8
theorem DI (F:Fun K "_law_mixed" "_law_mixed" Vg f fd):FnOk P w K mg base v7 1 f fd ["cell","k"] VD:=by
 refine F.ok sc_mixed (λvs H Q E h=>?_) (λcdv A outer s H vs Q E hr h=>?_)
 ·obtain ⟨c,k,rfl,_⟩:=h;rfl
 obtain ⟨c,k,rfl,k0,k1,q⟩:=h;refine ⟨_,(j7 (qv (i:=2) sc_mixed.nd rfl (Or.inl rfl) (u3 jA (u3 wx (u3 op_add (u3 op_add (u3 jA (pv 0) z7) (u3 wx z7 (pv 1))) z7) z7) z7))
  (j6 (u4 (u3 jA (u3 wx (u3 jA (u3 wx (pv 2) (pv 2)) z7) z7) z7)))),?_⟩
 refine ⟨_,rfl,_,_,rfl,rfl,(by show (0:Int)<1000000007;decide),_,rfl,_,_,rfl,rfl,.inl ⟨by decide,by decide⟩,_,_,rfl,rfl,_,_,rfl,rfl,_,_,rfl,rfl,.inr ⟨by decide,by decide⟩,_,_,rfl,rfl,(by show (0:Int)<2147483647;decide),?_⟩;generalize hone:(c % 1000000007+7919*k+1)*48271 % 2147483647=one;have o0:0<=one:=by rw [<- hone];exact ym _ (by decide)
 have o1:one<2147483647:=by rw [<- hone];exact yu _ (by decide)
 refine ⟨_,rfl,_,rfl,_,_,rfl,rfl,.inl ⟨by omega,by omega⟩,_,_,rfl,rfl,(by show (0:Int)<2147483629;decide),_,_,rfl,rfl,.inr ⟨by decide,by decide⟩,_,_,rfl,rfl,(by show (0:Int)<2147483647;decide),?_⟩;exact q _ (ym _ (by decide)) (Int.lt_trans (yu _ (by decide)) (by decide))
end
def MM:Int:=10 ^ (60:Int).toNat
theorem QO:0<MM:=by decide +kernel
theorem YF:jj 10 60:=⟨by decide,by decide,by decide⟩
theorem YE:jj 10 18:=⟨by decide,by decide,by decide⟩
theorem Bf:Builtin.Int.intBits MM<=2 ^ 20:=by decide +kernel
theorem Nt {M c r:Int}{i:Nat}(hM:0<M)(h0:0<=c)(h:c<M ^ i)(r0:0<=r)(r1:r<M):0<=c*M+r/\c*M+r<M ^ (i+1):=by
 have e:M ^ (i+1)=M ^ i*M:=Int.pow_succ M i;have h1:(c+1)*M<=M ^ i*M:=uH (by omega) (Int.le_of_lt hM);have h2:(c+1)*M=c*M+M:=by rw [Int.add_mul,Int.one_mul]
 have h3:0<=c*M:=Int.mul_nonneg h0 (Int.le_of_lt hM);rw [e];omega
theorem KS:∀ i:_root_.Fin 14,(MM ^ (i:Nat)).toNat<2 ^ 2700:=by decide +kernel
theorem Bg {c:Int}{i:Nat}(hi:i<=13)(h0:0<=c)(h:c<MM ^ i):Builtin.Int.intBits c<=2 ^ 20:=by
 obtain ⟨n,rfl⟩:=yd h0;have q:=KS ⟨i,by omega⟩;have q2:n<2 ^ 2700:=by have q':(MM ^ i).toNat<2 ^ 2700:=q;omega
 exact yc (PyProof.Rows.intBits_le (by rw [Int.natAbs_natCast];exact q2)) (by decide)
theorem Ly:∀ i:_root_.Fin 13,∀ j:_root_.Fin 64,Builtin.Range.small ((i:Nat):Int) ((j:Nat):Int) 5=true:=by decide +kernel
theorem Jz {i j:Int}:Builtin.Range.rangeSize i j 5=if i<j then (j-i-1) / 5+1 else 0:=rfl
theorem Lx {i j:Int}(h0:0<=i)(h1:i<=12)(h2:0<=j)(h3:j<=63):0<=Builtin.Range.rangeSize i j 5/\Builtin.Range.small i j 5=true/\jf i j 5<=13/\∀ t:Nat,t<jf i j 5->i+t*5<j:=by
 refine ⟨?_,?_,?_,λt ht=>?_⟩
 ·rw [Jz];split<;>omega
 ·have q:=Ly ⟨i.toNat,by omega⟩ ⟨j.toNat,by omega⟩;have e1:((i.toNat:Nat):Int)=i:=by omega
  have e2:((j.toNat:Nat):Int)=j:=by omega
  have q':Builtin.Range.small ((i.toNat:Nat):Int) ((j.toNat:Nat):Int) 5=true:=q;rw [e1,e2] at q';exact q'
 ·unfold jf;rw [Jz];split<;>omega
 ·unfold jf at ht;rw [Jz] at ht;split at ht<;>omega
theorem Bc {ns:List Int}{k:Int}(h0:0<=k)(h:k<(ns.length:Int)):∃ v:Int,atI (ns.map V.int) k=some (.int v):=by
 have hk:k.toNat<ns.length:=by omega
 have ek:k=((k.toNat:Nat):Int):=by omega
 have q:atI (ns.map V.int) ((k.toNat:Nat):Int)=some (.int ns[k.toNat]):=xS (by rw [yO,yN hk]<;>rfl);rw [<- ek] at q;exact ⟨_,q⟩
section
theorem sc_stream:w9 ["script","k","cell","j","found"] ["script","k"] (j3 Zg):=u8
theorem DS (F:Fun K "_law_stream" "_law_stream" Zg f fd)(El:Fn P w K mg base 1 "_law_mixed" ["cell","k"] VD)(Ad:mg "len"=none)(Ah:mg "range"=none)(Eg:mg "sum"=none):FnOk P w K mg base v7 2 f fd ["script","k"] (Ke K):=by
 refine F.ok sc_stream (λvs H Q E h=>?_) (λcdv A outer s H vs Q E hr h=>?_)
 ·obtain ⟨a,ns,k,rfl,_⟩:=h;rfl
 obtain ⟨a,ns,k,rfl,hS,h63,k0,k1,q⟩:=h;refine ⟨_,(j7 (qv (i:=2) sc_stream.nd rfl (Or.inl rfl) z7)
  (j7 (xp PassesOwn.never rfl (MN rfl Ah (j9 (pv 1) (j9 (u7 (Yu (K:=K) rfl) rfl Ad PySem.boot_len (j9 (pv 0) u6)) (j9 z7 u6)))) (gW 3 sc_stream.nd)
   (j6 (qv (i:=2) sc_stream.nd rfl (Or.inl rfl) (u3 op_add (u3 XN (pv 2) (u3 vl z7 z7)) (u3 jA (XR (ZQ (K:=K) rfl) (pv 0) (pv 3) (λ_ _=>rfl)) (u3 vl z7 z7))))))
  (j7 (c8 (i4 XJ (pv 2) (u3 vl z7 z7) (c7 _)) (j6 (u4 (qL (j9 (pv 2) u6)))) m9)
  (j7 (qv (i:=2) sc_stream.nd rfl (Or.inl rfl) (u3 op_add (pv 2) (u7 (BD (K:=K) rfl rfl) rfl Eg Zn (j9 (qj (N':=["one"]) (cap:=[none]) (c4 rfl rfl rfl) rfl (c5 (K:=K) rfl (pv 0)) (λ_ _ _ _ _ _=>(p8 (i:=0) (by show (["one"]:List Str).Nodup;decide +kernel) rfl (Or.inl rfl))) (λ_ _ _ _ _ _=>i5) (λ_ _ _ _ _ _=>(u3 jA (pv 0) (u3 vl z7 z7)))) u6))))
  (j7 (qv (i:=4) sc_stream.nd rfl (Or.inl rfl) z7)
  (j7 (xp PassesOwn.never rfl (vu rfl Ah (j9 z7 u6)) (gW 3 sc_stream.nd)
   (j6 (qv (i:=4) sc_stream.nd rfl (Or.inl rfl) (u3 op_add (u3 wx (pv 4) z7) (fW El hr (j9 (u3 op_add (u3 op_add (pv 2) (u3 wx z7 (pv 1))) (u7 (Yu (K:=K) rfl) rfl Ad PySem.boot_len (j9 (pv 0) u6))) (j9 (pv 3) u6)))))))
  (j6 (u4 (qL (j9 (u3 Ga (pv 4) z7) u6)))))))))),?_⟩
 have hl:(((ns.map V.int).length:Nat):Int)=(ns.length:Int):=by rw [yZ]
 obtain ⟨z1,z2,z3,z4⟩:=Lx (i:=k) (j:=(((ns.map V.int).length:Nat):Int)) k0 k1 (by omega) (by omega);refine ⟨_,rfl,_,rfl,a,_,rfl,.inl hS,k,_,5,rfl,⟨by decide,by decide⟩,z1,z2,Po (λi σ H2=>∃(c:Int)(j:Option V),σ=[some (.ref a),some (.int k),some (.int c),j,none]/\H2=H/\0<=c/\c<MM ^ i)
  ⟨0,none,rfl,rfl,Int.le_refl 0,by decide⟩ ?_ ?_⟩
 ·rintro i σ H2 hi ⟨c,j,rfl,rfl,c0,c1⟩;obtain ⟨v,hv⟩:=Bc (ns:=ns) (k:=k+i*5) (by omega) (by have:=z4 i hi;omega);refine ⟨_,rfl,_,_,rfl,rfl,YF,_,_,rfl,rfl,⟨Bg (by omega) c0 c1,Bf⟩,_,rfl,_,rfl,a,_,_,_,rfl,rfl,hS,hv,
   _,_,rfl,rfl,YF,_,_,rfl,rfl,QO,_,_,rfl,rfl,?_⟩
  have sb:=Nt (i:=i) QO c0 c1 (ym v (Ne.symm (Int.ne_of_lt QO))) (yu v QO);exact ⟨_,_,rfl,rfl,sb.1,sb.2⟩
 ·rintro σ H2 ⟨c,j,rfl,rfl,c0,c1⟩;refine ⟨_,rfl,_,_,rfl,rfl,YE,_,_,rfl,rfl,_,rfl,ite2 (λ_=>?_) (λ_=>?_)⟩
  ·refine ⟨_,rfl,(by show 1<=sizeLine;decide),λp hp=>?_⟩;exact q p c _ hp (Vy hp _) y7
  ·refine ⟨_,rfl,_,rfl,a,rfl,⟨_,hS⟩,YD (K:=K) (a:=a) (xs:=ns.map V.int) (λi ys H3=>H3=H2/\∃ ms:List Int,ys=ms.map V.int/\ms.length=i) ⟨rfl,[],rfl,rfl⟩ ?_ ?_ ?_ ?_⟩
   ·rintro i ys H3 hi ⟨_,ms,rfl,rfl⟩;rw [yZ] at hi ⊢;exact sizes (by omega)
   ·rintro i ys H3 hi ⟨rfl,_⟩;exact hS
   ·rintro i x ys H3 R hx ⟨rfl,ms,rfl,rfl⟩ hR;rw [yO] at hx;obtain ⟨v,hv,rfl⟩:=yJ.mp hx;refine ⟨Wk.one rfl,⟨_,rfl,_,_,rfl,rfl,YE,_,_,rfl,rfl,(by show (0:Int)<10 ^ (18:Int).toNat;decide),?_⟩⟩;exact hR _ _ ⟨rfl,ms++[_],by rw [yw];rfl,by rw [yL];rfl⟩
   ·rintro ys H3 ⟨rfl,ms,rfl,_⟩ D hD;refine ⟨D,ms,rfl,SqL.of y7,_,_,rfl,rfl,?_⟩;have g1:Same H3 (z8 H3 D (.lst (ms.map V.int))):=Vy hD _;refine ⟨12,rfl,by decide,by decide,Ug (n:=12) (λi σ H4=>∃(f:Int)(j:Option V),σ=[some (.ref a),some (.int k),some (.int (c+ms.sum)),j,some (.int f)]/\H4=z8 H3 D (.lst (ms.map V.int))) ⟨0,_,rfl,rfl⟩ ?_ ?_⟩
    ·rintro i σ H4 hi ⟨f,j,rfl,rfl⟩;refine ⟨_,rfl,_,_,rfl,rfl,.inr ⟨by decide,by decide⟩,_,rfl,_,rfl,_,_,rfl,rfl,.inl ⟨by decide,by decide⟩,_,_,rfl,rfl,_,rfl,a,_,rfl,.inl (g1.seq hS),_,_,rfl,rfl,_,rfl,_,_,rfl,by omega,by omega,λv v0 v1=>?_⟩;exact ⟨_,_,rfl,rfl,_,_,rfl,rfl⟩
    ·rintro σ H4 ⟨f,j,rfl,rfl⟩;refine ⟨_,rfl,_,_,rfl,rfl,⟨by decide,by decide +kernel⟩,(by show 1<=sizeLine;decide),λp hp=>?_⟩;exact q p (f / 64) _ (g1.free hp) (g1.trans (Vy hp _)) y7
end
def vw (K:Fg):List PV->Prop:=λxs=>∃(ns:List Int)(k:Int),xs=[scr K ns,.at (.int k)]/\ns.length<=63/\0<=k/\k<=12
def jN:List PV->PV->Prop:=λ_ y=>∃ n:Int,y = .lst [.at (.int n)]
theorem Nu {K:Fg}(h:spN (vw K) jN vs H Q E):Ke K vs H Q E:=by obtain ⟨Hs,xs,sm,r,⟨ns,k,rfl,h63,k0,k1⟩,q⟩:=h;obtain ⟨v,w,rfl,p1,p2⟩:=reps_cons.mp r;obtain ⟨u,z,rfl,p3,p4⟩:=reps_cons.mp p2;cases reps_nil.mp p4;cases rep_at.mp p3;obtain ⟨a,rfl,hS⟩:=GZ sm p1;exact ⟨a,ns,k,rfl,hS,h63,k0,k1,λb n H' nb g e=>q _ b Hs H' ⟨n,rfl⟩ ⟨.refl _,g,sm.trans g,λ_ _ z=>z⟩ nb (sm.free nb) ⟨_,e,.one (rep_at.mpr rfl)⟩⟩
section
theorem DR (F:Fun K "_law_stream" "_law_stream" Zg f fd)(El:Fn P w K mg base 1 "_law_mixed" ["cell","k"] VD)(Ad:mg "len"=none)(Ah:mg "range"=none)(Eg:mg "sum"=none):FnOk P w K mg base v7 2 f fd ["script","k"] (spN (vw K) jN):=(DS F El Ad Ah Eg).imp λ_ _ _ _ h=>Nu h
end
def qe:Int:=10 ^ 30
theorem CD {k:Int}(h0:0<=k)(h1:k<=2*qe):k.natAbs.log2<9000:=by
 have hb:(2*qe).toNat<2 ^ 9000:=yB (show (2*qe).toNat<2 ^ 110 by decide +kernel) (Nat.pow_le_pow_right (by decide) (by decide));have:k.natAbs<2 ^ 9000:=by omega
 by_cases hz:k.natAbs=0
 ·rw [hz];decide
 ·exact (Nat.log2_lt hz).mpr this
theorem zT {n k:Int}(h0:0<k)(h1:k<=2*qe):wN n k:=⟨h0,CD (by omega) h1⟩
theorem jI:(1000:Int)<=qe:=by decide +kernel
def qk (rss:List (List Int)):PV:= .lst (rss.map λr=> .lst (r.map λn=> .at (.int n)))
theorem Ze {a:MA}{k:Nat}(h:a ε=some [.at (.int (k:Int))])(hk:k<=lim):jq a ε=some (xQ 0 k):=by have hlim:(lim:Int)=1000000:=rfl;have hl:lim=1000000:=rfl;unfold jq;rw [h];show (if -(lim:Int)<=(k:Int)/\(k:Int)<=(lim:Int) then some (xQ 0 (k:Int).toNat) else none)=_;rw [if_pos ⟨by omega,by omega⟩,uQ]
def u9 (ss:List Str):List PV:=ss.map λs=> .at (.str s)
theorem xG (ss:List Str):(u9 ss).length=ss.length:=yZ _
def Low (x:Str):Prop:=∀ c∈x.cps.toList,97<=c/\c<=122
structure vJ (x:Str):Prop where
 low:Low x
 one:1<=x.length
 eight:x.length<=8
 nq:x ≠ "qx"
theorem Wh:∀ ss:List Str,ats (u9 ss)=some (ss.map V.str)
 |[]=>rfl
 |s::ss=>by
  show (ats (u9 ss)).map (V.str s::·)=_;rw [Wh ss];rfl
theorem Up (x:Str):∀ ss:List Str,inV (.str x) (ss.map V.str)=decide (x∈ss)
 |[]=>by simp [inV]
 |s::ss=>by
  have ih:=Up x ss;unfold inV at ih ⊢;rw [yK,List.any_cons,ih];have e:m7 (.str s) (.str x)=decide (s=x):=rfl;rw [e];by_cases h:s=x
  ·subst h;simp
  ·simp [h,Ne.symm h]
theorem Pn (ss:List Str):(ss.map V.str).all k6=true:=by rw [uU];intro v hv;obtain ⟨s,_,rfl⟩:=yr.mp hv;rfl
theorem Xp (neg:Bool)(x:Str)(ss:List Str):pIn neg (.at (.str x)) (.lst (u9 ss))=some (.at (.bl (if neg then !decide (x∈ss) else decide (x∈ss)))):=by show (ats (u9 ss)).bind _=_;rw [Wh,yF,if_pos ⟨rfl,Pn ss⟩,Up]
structure Cl where
 name:Str
 hue:Nat
 len:Int
 due:Int
 wt:Int
variable{c:Cl}{cs ns t:List Cl}
def Cl.pv (c:Cl):PV:= .tup [.at (.str c.name),.at (.int c.hue),.at (.int c.len),.at (.int c.due),.at (.int c.wt)]
structure Cl.Ok (h:Nat)(c:Cl):Prop where
 nm:vJ c.name
 hu:c.hue<h
 l1:1<=c.len
 l2:c.len<=qe
 d1:-qe<=c.due
 d2:c.due<=qe
 w1:1<=c.wt
 w2:c.wt<=qe
theorem ZZ {α β:Type}{f:α->β}(hf:∀ x y,f x=f y->x=y):∀{a b:List α},a.map f=b.map f->a=b
 |[],[],_=>rfl
 |[],_::_,h=>by cases h
 |_::_,[],h=>by cases h
 |x::a,y::b,h=>by
  rw [yK,yK] at h;injection h with h1 h2;rw [hf x y h1,ZZ hf h2]
theorem Nw {a b:List Str}(h:u9 a=u9 b):a=b:=ZZ (λx y e=>by injection e with e;injection e) h
theorem ZC {α β:Type}(f:α->β):∀(l:List α)(i:Nat),(l.map f).eraseIdx i=(l.eraseIdx i).map f
 |[],_=>rfl
 |_::_,0=>rfl
 |x::l,i+1=>by simp [ZC f l i]
theorem Jr {α:Type}:∀{ss:List α}{j:Nat}(h:j<ss.length),(ss[j]::ss.eraseIdx j).Perm ss
 |x::ss,0,_=>List.Perm.refl _
 |x::ss,j+1,h=>by
  have hj:j<ss.length:=by simpa using h
  have ih:=Jr hj;show (ss[j]::x::ss.eraseIdx j).Perm (x::ss);exact (List.Perm.swap _ _ _).trans (ih.cons x)
structure Dr where
 h:Nat
 rss:List (List Int)
 cls:List Cl
 last:Int
 time:Int
variable{d e:Dr}
def Dr.pv (d:Dr):PV:= .tup [qk d.rss,.lst (d.cls.map Cl.pv),.at (.int d.last),.at (.int d.time)]
structure Dr.Ok (d:Dr):Prop where
 h1:1<=d.h
 h4:d.h<=4
 rin:xl d.h d.rss
 ten:d.cls.length<=10
 cl:∀ c∈d.cls,c.Ok d.h
 nd:(d.cls.map Cl.name).Nodup
 l1:-1<=d.last
 l2:d.last<d.h
 t1:0<=d.time
 t2:d.time<60*qe
theorem Lf {a b:Cl}(h:a.pv=b.pv):a=b:=by cases a;cases b;unfold Cl.pv at h;injection h with h;simp only [List.cons.injEq,PV.at.injEq,V.str.injEq,V.int.injEq] at h;obtain ⟨h1,h2,h3,h4,h5,_⟩:=h;have h2:=Int.ofNat.inj h2;subst h1 h2 h3 h4 h5;rfl
theorem YO (h:d.pv=e.pv):d.cls=e.cls:=by unfold Dr.pv at h;injection h with h;injection h with _ h;injection h with h _;injection h with h;exact ZZ (λ_ _=>Lf) h
def T26:Int:=10 ^ 26
def T27:Int:=10 ^ 27
theorem Ts:T27=10*T26/\qe=1000*T27/\1000<T26:=by decide +kernel
theorem pow26:wz (.at (.int 10)) (.at (.int 26))=some (.at (.int T26)):=by show (if jj 10 26 then some (V.int (10 ^ (26:Int).toNat)) else none).map PV.at=_;rw [if_pos ⟨by decide,by decide,by decide⟩];rfl
theorem pow27:wz (.at (.int 10)) (.at (.int 27))=some (.at (.int T27)):=by show (if jj 10 27 then some (V.int (10 ^ (27:Int).toNat)) else none).map PV.at=_;rw [if_pos ⟨by decide,by decide,by decide⟩];rfl
theorem Ym {n:Int}(h0:-qe<=n)(h1:n<=qe):Builtin.Int.intBits n<=2 ^ 20:=by
 have hb:qe<2 ^ 120:=by decide +kernel
 exact yc (PyProof.Rows.intBits_le (k:=120) (by omega)) (by decide)
theorem Jd {a b:Int}(a0:-qe<=a)(a1:a<=qe)(b0:-qe<=b)(b1:b<=qe):Qx (.at (.int a)) (.at (.int b))=some (.at (.int (a*b))):=by show (if wO a b then some (V.int (a*b)) else none).map PV.at=_;rw [if_pos ⟨Ym a0 a1,Ym b0 b1⟩];rfl
def za:List PV->Prop:=λxs=>∃ b:Bool,xs=[.at (.bl b)]
def zh:List PV->PV->Prop:=λ_ y=>∃ n:Int,y = .at (.int n)/\0<=n/\n<10*T27
abbrev Vj:Stmt:=top 58
abbrev WU (K:Fg):WS:=(wSeq (qb 2 (qr 0 (wP (dC (.int 10)))))
  (wSeq (xt (wPT (m6 (x8 1))) (qb 2 (qW qt (wP (z0 Qx (x8 2) (z0 wz (dC (.int 10)) (dC (.int 27))))) (qr 0 (wP (dC (.int 3)))))) xR)
  (xu (wP (x6 2)))))
theorem sc_number:w9 ["row","great","number"] ["row","great"] (j3 Vj):=u8
theorem PF:∀ xs,za xs->xs.length+1=(["row","great"]:List Str).length:=by rintro xs ⟨b,rfl⟩;rfl
theorem PO {K:Fg}:∀ xs n,za xs->WU K (b9 n::xs.map .sh++List.replicate ((["row","great","number"]:List Str).length-(xs.length+1)) .no) (λ_=>False) λy ε=>zh xs y/\zg 0 ε:=by
 rintro xs n ⟨b,rfl⟩;have hB:=jI;obtain ⟨t1,t2,t3⟩:=Ts;refine ⟨⟨n,rfl⟩,_,rfl,n,10,rfl,rfl,⟨by decide,by decide⟩,?_⟩;have a0:0<=n % 10:=ym _ (by decide);have a1:n % 10<10:=yu _ (by decide);cases b with
 |false=>exact zQ rfl ⟨_,rfl,⟨_,rfl,a0,by omega⟩,_,rfl⟩
 |true =>
  have b0:0<=n / 10 % 3:=ym _ (by decide);have b1:n / 10 % 3<3:=yu _ (by decide);refine vF rfl ⟨_,w6 rfl (w6 rfl rfl pow27) (Jd (a:=n % 10) (b:=T27) (by omega) (by omega) (by omega) (by omega)),⟨_,rfl⟩,_,rfl,n / 10,3,rfl,rfl,⟨by decide,by decide⟩,_,rfl,_,rfl,⟨_,rfl,?_,?_⟩,_,rfl⟩
  ·generalize n % 10=p at a0 a1 ⊢;have:=Int.mul_nonneg a0 (show 0<=T27 by omega);omega
  ·generalize n % 10=p at a0 a1 ⊢;have:p*T27<=9*T27:=uH (by omega) (by omega);omega
theorem DL (F:Fun K "_law_number" "_law_number" Vj f fd)(Ae:Fn P w K mg base 1 "_law_digit" ["row","many"] zv):FnOk P w K mg base v7 2 f fd ["row","great"] (spD za zh) :=
 okD (k:=1) (b:=WU K) F sc_number PF (λcdv A outer s H E hr=>⟨_,(@j7 _ _ _ _ _ (@qv _ _ 2 _ _ _ _ sc_number.nd rfl (Or.inl rfl) (qu Ae hr (by decide) rfl (@j9 _ _ _ _ _ (pv 0) (@j9 _ _ _ _ _ z7 u6 (by rfl)) (by rfl))) (by rfl) (.inl rfl))
  (@j7 _ _ _ _ _ (c8 (qp (K:=K) rfl (pv 1) (λ_=>rfl)) (@j6 _ _ _ (@qv _ _ 2 _ _ _ _ sc_number.nd rfl (Or.inl rfl) (u3 (qZ (K:=K) rfl) (u3 (XN) (pv 2) (u3 (vl) z7 z7)) (qu Ae hr (by decide) rfl (@j9 _ _ _ _ _ (pv 0) (@j9 _ _ _ _ _ z7 u6 (by rfl)) (by rfl)))) (by rfl) (.inl rfl))) m9)
  (@j6 _ _ _ (u4 (pv 2))))),
  (by repeat' first|infer_instance|(refine @Mi.instSemWSTSeqWSeq _ _ _ _ ?_ ?_)|(apply @Mi.instSemWSTForWForOfSemWIOfSemWG))⟩) PO
def zM (r:List Int):PV:= .lst (r.map λn=> .at (.int n))
def QD:List PV->Prop:=λxs=>∃(h:Nat)(b:Bool),xs=[.at (.int h),.at (.bl b)]/\1<=h/\h<=4
def vM:List PV->PV->Prop:=λxs y=>∃(h:Nat)(b:Bool)(rss:List (List Int)),xs=[.at (.int h),.at (.bl b)]/\y=qk rss/\xl h rss
abbrev Vn:Stmt:=top 59
abbrev WY (K:Fg):WS:=(wSeq (qb 3 (qr 0 (wP (dC (.int 4)))))
  (wSeq (wJ 4 (o6 x9))
  (wSeq (wFor (wIp (jq (q0 (z0 qt (x8 1) (dC (.int 1))) x9))) (v6 5) (wSeq (qb 6 (jF [none,some 0,some 2] [0] (wIp (jq (q0 (x6 1) x9))) (v6 0) ji (xI 1 za zh (k7 (wP (x6 2)) qq))))
  (wSeq (xt (wPT (dT (z0 qi (x8 3) (dC (.int 0))))) (qb 6 (wP (z0 pRep (o6 (q0 (dC (.int 0)) x9)) (x8 1)))) xR)
  (wSeq (xt (wPT (dT (z0 qi (x8 3) (dC (.int 1))))) (qb 6 (jF [none,some 0] [0] (wIp (y9 (x6 6))) (v6 0) ji (qW Qx (wP (x6 0)) (qr 1 (wP (dC (.int 2))))))) xR)
  (vD 4 (wP (x6 6)))))))
  (wFz 4 (xu (wP (x6 4)))))))
theorem sc_rinses:w9 ["row","hues","great","way","found","first","numbers"] ["row","hues","great"] (j3 Vn):=u8
theorem PJ:∀ xs,QD xs->xs.length+1=(["row","hues","great"]:List Str).length:=by rintro xs ⟨h,b,rfl,_⟩;rfl
structure vO (h:Nat)(r:List Int):Prop where
 len:r.length=h
 lo:∀ v∈r,0<=v/\v<10 ^ 30
theorem PQ {K:Fg}:∀ xs n,QD xs->WY K (b9 n::xs.map .sh++List.replicate ((["row","hues","great","way","found","first","numbers"]:List Str).length-(xs.length+1)) .no) (λ_=>False) λy ε=>vM xs y/\zg 0 ε:=by
 rintro xs n ⟨h,b,rfl,h1,h4⟩;have hl:lim=1000000:=rfl;obtain ⟨t1,t2,t3⟩:=Ts;have eB:qe=10 ^ 30:=rfl;refine ⟨⟨n,rfl⟩,_,rfl,n,4,rfl,rfl,⟨by decide,by decide⟩,_,rfl,?_⟩;generalize n % 4=way;generalize n / 4=n1;refine ⟨xQ 0 (h+1),Ze rfl (by omega),?_⟩;refine ve (λrest ε=>∃(m:Int)(rss:List (List Int))(s5 s6:MSlot),rss.length+rest.length=h+1/\(∀ r∈rss,vO h r)/\ε=[b9 m,.sh (.at (.int (h:Int))),.sh (.at (.bl b)),.sh (.at (.int way)),.ow (.lst (rss.map zM)),s5,s6]) ?_ ?_ _ _ ⟨n1,[],_,_,by rw [jD];simp,(λ_ z=>nomatch z),rfl⟩
 ·rintro ε ⟨m,rss,s5,s6,e1,e2,rfl⟩;exact ⟨_,rfl,⟨h,b,rss,rfl,rfl,by simpa using e1,λr hr=>⟨(e2 r hr).len,(e2 r hr).lo⟩⟩,m,rfl⟩
 ·rintro x rest ε ⟨m,rss,s5,s6,e1,e2,rfl⟩;simp only [yC] at e1;refine ⟨_,rfl,xQ 0 h,Ze rfl (by omega),rfl,by rw [jD];omega,?_⟩;have app:∀(m:Int)(r:List Int),vO h r->vD 4 (wP (x6 6)) [b9 m,.sh (.at (.int (h:Int))),.sh (.at (.bl b)),.sh (.at (.int way)),.ow (.lst (rss.map zM)),.sh x,.sh (zM r)] (λε=>∃(m:Int)(rss:List (List Int))(s5 s6:MSlot),rss.length+rest.length=h+1/\(∀ r∈rss,vO h r)/\ε=[b9 m,.sh (.at (.int (h:Int))),.sh (.at (.bl b)),.sh (.at (.int way)),.ow (.lst (rss.map zM)),s5,s6]) (λy ε=>vM [.at (.int h),.at (.bl b)] y/\zg 0 ε):=by
   intro m r hr;refine ⟨⟨_,rfl⟩,_,rfl,_,rfl,by rw [yZ];omega,m,rss++[r],.sh x,.sh (zM r),by rw [yL];simp;omega,?_,by rw [yw];rfl⟩;intro q hq;rcases yx.mp hq with hq|hq
   ·exact e2 q hq
   ·rw [yP.mp hq];exact hr
  have if1:∀(m:Int)(r:List Int),vO h r->(wSeq (xt (wPT (dT (z0 qi (x8 3) (dC (.int 1))))) (qb 6 (jF [none,some 0] [0] (wIp (y9 (x6 6))) (v6 0) ji (qW Qx (wP (x6 0)) (qr 1 (wP (dC (.int 2))))))) xR) (vD 4 (wP (x6 6)))) [b9 m,.sh (.at (.int (h:Int))),.sh (.at (.bl b)),.sh (.at (.int way)),.ow (.lst (rss.map zM)),.sh x,.sh (zM r)] (λε=>∃(m:Int)(rss:List (List Int))(s5 s6:MSlot),rss.length+rest.length=h+1/\(∀ r∈rss,vO h r)/\ε=[b9 m,.sh (.at (.int (h:Int))),.sh (.at (.bl b)),.sh (.at (.int way)),.ow (.lst (rss.map zM)),s5,s6]) (λy ε=>vM [.at (.int h),.at (.bl b)] y/\zg 0 ε):=by
   intro m r hr;by_cases hw:way=1
   ·subst hw;refine vF (h8 (v:=true) rfl) ⟨_,rfl,rfl,by rw [yZ,hr.len];omega,?_⟩;refine QZ (λtodo zs ε=>∃(m:Int)(done left:List Int),ε=[.no,b9 m]/\todo=left.map (λn=>PV.at (.int n))/\zs=done.map (λn=>PV.at (.int n))/\done.length+left.length=h/\(∀ v∈left,0<=v/\v<10 ^ 30)/\∀ v∈done,0<=v/\v<10 ^ 30) ?_ ?_ _ [] _ ⟨m,[],r,rfl,rfl,rfl,by rw [hr.len];simp,hr.lo,(λ_ z=>nomatch z)⟩
    ·rintro zs ε ⟨m2,done,left,rfl,z,rfl,g1,g2,g3⟩;have e:left=[]:=by cases left with|nil=>rfl|cons _ _=>cases z
     subst e;exact ⟨λ_=>⟨_,rfl⟩,app _ done ⟨by simpa using g1,g3⟩⟩
    ·rintro x2 rest2 zs ε ⟨m2,done,left,rfl,z,rfl,g1,g2,g3⟩;cases left with
     |nil=>cases z
     |cons v left =>
      rw [yK] at z;injection z with z1 z2;subst z1;simp only [yC] at g1;have v0:=g2 v yQ;rw [<- eB] at v0;have c0:0<=m2 % 2:=ym _ (by decide);have c1:m2 % 2<2:=yu _ (by decide);refine ⟨_,rfl,_,rfl,⟨_,rfl⟩,_,rfl,m2,2,rfl,rfl,⟨by decide,by decide⟩,_,Jd (a:=v) (b:=m2 % 2) (by omega) (by omega) (by omega) (by omega),m2 / 2,done++[v*(m2 % 2)],left,rfl,z2,by rw [yw];rfl,by rw [yL];simp;omega,λw hw=>g2 w (yR _ hw),λw hw=>?_⟩;rcases yx.mp hw with hw|hw
      ·exact g3 w hw
      ·rw [yP.mp hw,<- eB];have:m2 % 2=0∨m2 % 2=1:=by omega
       rcases this with e|e<;>rw [e]<;>omega
   ·refine zQ (h8 (v:=false) ?_) (app m r hr);show some (PV.at (.bl (decide (way=1))))=_;rw [yH hw]
  refine QZ (λrest2 zs ε=>∃(m:Int)(r:List Int),ε=[.no,b9 m,.sh (.at (.bl b))]/\zs=r.map (λn=>PV.at (.int n))/\r.length+rest2.length=h/\(∀ v∈r,0<=v/\v<10 ^ 30)) ?_ ?_ _ [] _ ⟨m,[],rfl,rfl,by rw [jD];simp,(λ_ z=>nomatch z)⟩
  ·rintro zs ε ⟨m2,r,rfl,rfl,g1,g2⟩;have hr:vO h r:=⟨by simpa using g1,g2⟩;refine ⟨λ_=>⟨_,rfl⟩,?_⟩;by_cases hw:way=0
   ·subst hw;refine vF (h8 (v:=true) rfl) ⟨zM (List.replicate h 0),?_,if1 m2 _ ⟨uu,λv hv=>?_⟩⟩
    ·refine w6 (jt (xs:=[.at (.int 0)]) rfl l1) rfl ?_;show (if -(lim:Int)<=(h:Int)/\(h:Int)<=lim/\[PV.at (.int 0)].length*(h:Int).toNat<=lim then some (PV.lst (List.replicate (h:Int).toNat [PV.at (.int 0)]).flatten) else none)=_;rw [if_pos ⟨by omega,by omega,by simp;omega⟩];unfold zM;simp
    ·rw [List.eq_of_mem_replicate hv];decide
   ·refine zQ (h8 (v:=false) ?_) (if1 m2 r hr);show some (PV.at (.bl (decide (way=0))))=_;rw [yH hw]
  ·rintro x2 rest2 zs ε ⟨m2,r,rfl,rfl,g1,g2⟩;simp only [yC] at g1;refine ⟨_,rfl,⟨_,rfl⟩,_,rfl,⟨_,rfl⟩,⟨b,rfl⟩,?_⟩;rintro y n' ⟨v,rfl,v0,v1⟩;refine ⟨n',r++[v],rfl,by rw [yw];rfl,by rw [yL];simp;omega,λq hq=>?_⟩;rcases yx.mp hq with hq|hq
   ·exact g2 q hq
   ·rw [yP.mp hq,<- eB];exact ⟨v0,by omega⟩
theorem DP (F:Fun K "_law_rinses" "_law_rinses" Vn f fd)(Ae:Fn P w K mg base 1 "_law_digit" ["row","many"] zv)(Au:Fn P w K mg base 2 "_law_number" ["row","great"] (spD za zh))(Ah:mg "range"=none):FnOk P w K mg base v7 3 f fd ["row","hues","great"] (spD QD vM) :=
 okD (k:=2) (b:=WY K) F sc_rinses PJ (λcdv A outer s H E hr=>⟨_,(@j7 _ _ _ _ _ (@qv _ _ 3 _ _ _ _ sc_rinses.nd rfl (Or.inl rfl) (qu Ae hr (by decide) rfl (@j9 _ _ _ _ _ (pv 0) (@j9 _ _ _ _ _ z7 u6 (by rfl)) (by rfl))) (by rfl) (.inl rfl))
  (@j7 _ _ _ _ _ (@qv _ _ 4 _ _ _ _ sc_rinses.nd rfl (Or.inl rfl) (@qL _ _ _ _ u6) (by rfl) (.inl rfl))
  (@j7 _ _ _ _ _ (xp PassesOwn.never rfl (vu rfl Ah (@j9 _ _ _ _ _ (u3 (qZ (K:=K) rfl) (pv 1) z7) u6 (by rfl))) (p8 (i:=5) sc_rinses.nd rfl (Or.inl rfl))
   (@j7 _ _ _ _ _ (zu (i:=6) (N':=["hue","row","great"]) (cap:=[none,some 0,some 2]) (c4 rfl rfl rfl) rfl sc_rinses.nd rfl rfl (vu rfl Ah (@j9 _ _ _ _ _ (pv 1) u6 (by rfl))) (λ_ _ _ _ _ _=>(p8 (i:=0) (by show (["hue","row","great"]:List Str).Nodup;decide +kernel) rfl (Or.inl rfl))) (λ_ _ _ _ _ _=>i5) (λ_ _ _ _ _ _=>(qu Au hr (by decide) rfl (@j9 _ _ _ _ _ (pv 1) (@j9 _ _ _ _ _ (pv 2) u6 (by rfl)) (by rfl)))))
  (@j7 _ _ _ _ _ (c8 (i4 (xV (K:=K) (qE hr) rfl) (pv 3) z7 (c7 _)) (@j6 _ _ _ (@qv _ _ 6 _ _ _ _ sc_rinses.nd rfl (Or.inl rfl) (u3 (Mm) (@qL _ _ _ _ (@j9 _ _ _ _ _ z7 u6 (by rfl))) (pv 1)) (by rfl) (.inl rfl))) m9)
  (@j7 _ _ _ _ _ (c8 (i4 (xV (K:=K) (qE hr) rfl) (pv 3) z7 (c7 _)) (@j6 _ _ _ (zu (i:=6) (N':=["number","row"]) (cap:=[none,some 0]) (c4 rfl rfl rfl) rfl sc_rinses.nd rfl rfl (@c5 _ K _ _ _ rfl (pv 6)) (λ_ _ _ _ _ _=>(p8 (i:=0) (by show (["number","row"]:List Str).Nodup;decide +kernel) rfl (Or.inl rfl))) (λ_ _ _ _ _ _=>i5) (λ_ _ _ _ _ _=>(u3 (XN) (pv 0) (qu Ae hr (by decide) rfl (@j9 _ _ _ _ _ (pv 1) (@j9 _ _ _ _ _ z7 u6 (by rfl)) (by rfl))))))) m9)
  (@j6 _ _ _ (zb (zq (K:=K) rfl PySem.F.plainAttrs_list PySem.F.slot_list_append PySem.F.type_list_append vk (pv 4) (j9 (pv 6) u6))))))))
  (@j6 _ _ _ (u4 (pv 4)))))),
  (by repeat' first|infer_instance|(refine @Mi.instSemWSTSeqWSeq _ _ _ _ ?_ ?_)|(apply @Mi.instSemWSTForWForOfSemWIOfSemWG))⟩) PQ
def twelve:List Str:=["b","ab","a","abc","ba","aa","z","abcdefgh","abcdefgi","zz","abcd","bb"]
theorem NN:twelve.Nodup:=by decide +kernel
theorem NO:∀ s∈twelve,vJ s:=by
 have:∀ s∈twelve,(∀ c∈s.cps.toList,97<=c/\c<=122)/\1<=s.length/\s.length<=8/\s ≠ "qx":=by decide +kernel
 exact λs hs=>⟨(this s hs).1,(this s hs).2.1,(this s hs).2.2.1,(this s hs).2.2.2⟩
def QB:List PV->Prop:=λxs=>∃ k:Nat,xs=[.at (.int k)]/\k<=12
def QQ:List PV->PV->Prop:=λxs y=>∃ ss:List Str,y = .lst (u9 ss)/\xs=[.at (.int ss.length)]/\ss.Nodup/\∀ s∈ss,vJ s
abbrev Vi:Stmt:=top 60
abbrev WR (K:Fg):WS:=(wSeq (wJ 2 (o6 (q0 (dC (.str "b")) (q0 (dC (.str "ab")) (q0 (dC (.str "a")) (q0 (dC (.str "abc")) (q0 (dC (.str "ba")) (q0 (dC (.str "aa")) (q0 (dC (.str "z")) (q0 (dC (.str "abcdefgh")) (q0 (dC (.str "abcdefgi")) (q0 (dC (.str "zz")) (q0 (dC (.str "abcd")) (q0 (dC (.str "bb")) x9))))))))))))))
  (xu (jF [none,some 2,some 0] [0] (wIp (jq (q0 (x6 1) x9))) (v6 0) ji (wPop 1 (qr 2 (wP (z6 o9 (q0 (x8 1) x9))))))))
theorem sc_names:w9 ["row","many","free"] ["row","many"] (j3 Vi):=u8
theorem PD:∀ xs,QB xs->xs.length+1=(["row","many"]:List Str).length:=by rintro xs ⟨k,rfl,_⟩;rfl
theorem MT {free got all:List Str}(h:j<free.length)(p:(got++free).Perm all):((got++[free[j]])++free.eraseIdx j).Perm all:=by rw [uS];exact ((Jr h).append_left got).trans p
theorem PN {K:Fg}:∀ xs n,QB xs->WR K (b9 n::xs.map .sh++List.replicate ((["row","many","free"]:List Str).length-(xs.length+1)) .no) (λ_=>False) λy ε=>QQ xs y/\zg 0 ε:=by
 rintro xs n ⟨k,rfl,hk⟩;have hl:lim=1000000:=rfl;have hB:=jI;refine ⟨_,rfl,?_⟩;refine ⟨xQ 0 k,Ze rfl (by omega),rfl,by rw [jD];omega,?_⟩;refine QZ (λrest ys ε=>∃(m:Int)(free got:List Str),ε=[.no,.ow (.lst (u9 free)),b9 m]/\ys=u9 got/\got.length+rest.length=k/\(got++free).Perm twelve) ?_ ?_ (xQ 0 k) [] _ ⟨n,twelve,[],rfl,rfl,by rw [jD];simp,.refl _⟩
 ·rintro ys ε ⟨m,free,got,rfl,rfl,h1,h2⟩;have nd:(got++free).Nodup:=h2.nodup_iff.mpr NN;refine ⟨λ_=>⟨_,rfl⟩,⟨got,rfl,?_,(List.nodup_append.mp nd).1,λs hs=>NO s (h2.mem_iff.mp (yg _ hs))⟩,m,rfl⟩;simp at h1;rw [h1]
 ·rintro x rest ys ε ⟨m,free,got,rfl,rfl,h1,h2⟩;simp only [yC] at h1;have hlen:=h2.length_eq;rw [yL,show twelve.length=12 from rfl] at hlen;refine ⟨_,rfl,?_⟩;have hf:0<free.length:=by omega
  have c0:0<=m % (((u9 free).length:Nat):Int):=ym _ (by rw [xG];omega);have c1:m % (((u9 free).length:Nat):Int)<(((u9 free).length:Nat):Int):=yu _ (by rw [xG];omega);refine ⟨⟨_,rfl⟩,⟨m,rfl⟩,_,rfl,m,(((u9 free).length:Nat):Int),rfl,rfl,zT (by rw [xG];omega) (by rw [xG];omega),?_⟩;generalize hj:m % (((u9 free).length:Nat):Int)=j at c0 c1;rw [xG] at c1;have hjl:j.toNat<free.length:=by omega
  refine ⟨u9 free,j,.at (.str free[j.toNat]),rfl,rfl,c0,by rw [xG];exact c1,by rw [xG];omega,?_,?_⟩
  ·unfold u9;rw [yO,yN hjl];rfl
  ·refine ⟨m / (((u9 free).length:Nat):Int),free.eraseIdx j.toNat,got++[free[j.toNat]],?_,?_,?_,MT hjl h2⟩
   ·show [MSlot.no,MSlot.ow (.lst ((u9 free).eraseIdx j.toNat)),b9 _]=_;unfold u9;rw [ZC]
   ·unfold u9;rw [yw];rfl
   ·rw [yL];simp only [yC,List.length_nil];omega
theorem DK (F:Fun K "_law_names" "_law_names" Vi f fd)(Ae:Fn P w K mg base 1 "_law_digit" ["row","many"] zv)(Ad:mg "len"=none)(Ah:mg "range"=none):FnOk P w K mg base v7 2 f fd ["row","many"] (spD QB QQ) :=
 okD (k:=1) (b:=WR K) F sc_names PD (λcdv A outer s H E hr=>⟨_,(@j7 _ _ _ _ _ (@qv _ _ 2 _ _ _ _ sc_names.nd rfl (Or.inr rfl) (@qL _ _ _ _ (@j9 _ _ _ _ _ xc (@j9 _ _ _ _ _ xc (@j9 _ _ _ _ _ xc (@j9 _ _ _ _ _ xc (@j9 _ _ _ _ _ xc (@j9 _ _ _ _ _ xc (@j9 _ _ _ _ _ xc (@j9 _ _ _ _ _ xc (@j9 _ _ _ _ _ xc (@j9 _ _ _ _ _ xc (@j9 _ _ _ _ _ xc (@j9 _ _ _ _ _ xc u6 (by rfl)) (by rfl)) (by rfl)) (by rfl)) (by rfl)) (by rfl)) (by rfl)) (by rfl)) (by rfl)) (by rfl)) (by rfl)) (by rfl))) (by rfl) (.inl rfl))
  (@j6 _ _ _ (u4 (qj (N':=["k","free","row"]) (cap:=[none,some 2,some 0]) (c4 rfl rfl rfl) rfl (vu rfl Ah (@j9 _ _ _ _ _ (pv 1) u6 (by rfl))) (λ_ _ _ _ _ _=>(p8 (i:=0) (by show (["k","free","row"]:List Str).Nodup;decide +kernel) rfl (Or.inl rfl))) (λ_ _ _ _ _ _=>i5) (λ_ _ _ _ _ _=>(zq (K:=K) rfl PySem.F.plainAttrs_list PySem.F.slot_list_pop PySem.F.type_list_pop UQ (pv 1) (j9 (qu Ae hr (by decide) rfl (@j9 _ _ _ _ _ (pv 2) (@j9 _ _ _ _ _ (u7 (qf (K:=K) rfl) rfl Ad PySem.boot_len (@j9 _ _ _ _ _ (pv 1) u6 (by rfl))) u6 (by rfl)) (by rfl))) u6))))))),
  (by repeat' first|infer_instance|(refine @Mi.instSemWSTSeqWSeq _ _ _ _ ?_ ?_)|(apply @Mi.instSemWSTForWForOfSemWIOfSemWG))⟩) PN
def wC:List PV->Prop:=λxs=>∃(s:Str)(h:Nat)(b:Bool),xs=[.at (.str s),.at (.int h),.at (.bl b)]/\vJ s/\1<=h/\h<=4
def vK:List PV->PV->Prop:=λxs y=>∃(s:Str)(h:Nat)(b:Bool)(c:Cl),xs=[.at (.str s),.at (.int h),.at (.bl b)]/\y=c.pv/\c.name=s/\c.Ok h
abbrev JM:Stmt:=top 61
abbrev Wu (K:Fg):WS:=(wSeq (qb 4 (qW xY (qr 0 (wP (dC (.int 40)))) (wP (dC (.int 6)))))
  (wSeq (xt (wPT (m6 (x8 3))) (qb 4 (qW qt (wP (z0 Qx (x8 4) (z0 wz (dC (.int 10)) (dC (.int 26))))) (qr 0 (wP (dC (.int 3)))))) xR)
  (xu (wK (k7 (wP (x6 1)) (k7 (qr 0 (wP (x6 2))) (k7 (qW qt (wP (dC (.int 1))) (xI 0 za zh (k7 (wP (x6 3)) qq))) (k7 (wP (x6 4)) (k7 (qW qt (wP (dC (.int 1))) (qr 0 (wP (dC (.int 9))))) qq)))))))))
theorem sc_cloth:w9 ["row","name","hues","great","due"] ["row","name","hues","great"] (j3 JM):=u8
theorem Pz:∀ xs,wC xs->xs.length+1=(["row","name","hues","great"]:List Str).length:=by rintro xs ⟨s,h,b,rfl,_⟩;rfl
theorem PK {K:Fg}:∀ xs n,wC xs->Wu K (b9 n::xs.map .sh++List.replicate ((["row","name","hues","great","due"]:List Str).length-(xs.length+1)) .no) (λ_=>False) λy ε=>vK xs y/\zg 0 ε:=by
 rintro xs n ⟨s,h,b,rfl,hs,h1,h4⟩;have hB:=jI;obtain ⟨t1,t2,t3⟩:=Ts;have rest:∀(n due:Int),-qe<=due->due<=qe->((xu (wK (k7 (wP (x6 1)) (k7 (qr 0 (wP (x6 2))) (k7 (qW qt (wP (dC (.int 1))) (xI 0 za zh (k7 (wP (x6 3)) qq))) (k7 (wP (x6 4)) (k7 (qW qt (wP (dC (.int 1))) (qr 0 (wP (dC (.int 9))))) qq))))))):WS) [b9 n,.sh (.at (.str s)),.sh (.at (.int (h:Int))),.sh (.at (.bl b)),.sh (.at (.int due))] (λ_=>False) λy ε=>vK [.at (.str s),.at (.int h),.at (.bl b)] y/\zg 0 ε:=by intro n due d1 d2;refine ⟨_,rfl,⟨_,rfl⟩,_,rfl,n,(h:Int),rfl,rfl,zT (by omega) (by omega),_,rfl,⟨_,rfl⟩,_,rfl,⟨_,rfl⟩,⟨b,rfl⟩,?_⟩;rintro y n' ⟨v,rfl,v0,v1⟩;have u0:0<=n % (h:Int):=ym _ (by omega);have u1:n % (h:Int)<h:=yu _ (by omega);obtain ⟨u,hu⟩:=yd u0;rw [hu] at u1 ⊢;have w0:0<=n' % 9:=ym _ (by decide);have w1:n' % 9<9:=yu _ (by decide);exact ⟨_,rfl,_,rfl,_,rfl,⟨_,rfl⟩,_,rfl,n',9,rfl,rfl,⟨by decide,by decide⟩,_,rfl,l5,⟨s,h,b,⟨s,u,1+v,due,1+n' % 9⟩,rfl,rfl,rfl,⟨hs,(show u<h by omega),(show (1:Int)<=1+v by omega),(show 1+v<=qe by omega),d1,d2,(show (1:Int)<=1+n' % 9 by omega),(show 1+n' % 9<=qe by omega)⟩⟩,_,rfl⟩
 refine ⟨⟨n,rfl⟩,_,rfl,n,40,rfl,rfl,⟨by decide,by decide⟩,_,rfl,_,rfl,?_⟩;have a0:0<=n % 40:=ym _ (by decide);have a1:n % 40<40:=yu _ (by decide);generalize n % 40=p at a0 a1 ⊢;generalize n / 40=n1;cases b with
 |false=>exact zQ rfl (rest _ _ (by omega) (by omega))
 |true=>have b0:0<=n1 % 3:=ym _ (by decide);have b1:n1 % 3<3:=yu _ (by decide);have m1:(p-6)*T26<=34*T26:=uH (by omega) (by omega);have m2:-6*T26<=(p-6)*T26:=uH (by omega) (by omega);exact vF rfl ⟨_,w6 rfl (w6 rfl rfl pow26) (Jd (a:=p-6) (b:=T26) (by omega) (by omega) (by omega) (by omega)),⟨_,rfl⟩,_,rfl,n1,3,rfl,rfl,⟨by decide,by decide⟩,_,rfl,rest _ _ (by omega) (by omega)⟩
theorem Dm (F:Fun K "_law_cloth" "_law_cloth" JM f fd)(Ae:Fn P w K mg base 1 "_law_digit" ["row","many"] zv)(Au:Fn P w K mg base 2 "_law_number" ["row","great"] (spD za zh)):FnOk P w K mg base v7 3 f fd ["row","name","hues","great"] (spD wC vK) :=
 okD (k:=2) (b:=Wu K) F sc_cloth Pz (λcdv A outer s H E hr=>⟨_,(@j7 _ _ _ _ _ (@qv _ _ 4 _ _ _ _ sc_cloth.nd rfl (Or.inl rfl) (u3 (vm) (qu Ae hr (by decide) rfl (@j9 _ _ _ _ _ (pv 0) (@j9 _ _ _ _ _ z7 u6 (by rfl)) (by rfl))) z7) (by rfl) (.inl rfl))
  (@j7 _ _ _ _ _ (c8 (qp (K:=K) rfl (pv 3) (λ_=>rfl)) (@j6 _ _ _ (@qv _ _ 4 _ _ _ _ sc_cloth.nd rfl (Or.inl rfl) (u3 (qZ (K:=K) rfl) (u3 (XN) (pv 4) (u3 (vl) z7 z7)) (qu Ae hr (by decide) rfl (@j9 _ _ _ _ _ (pv 0) (@j9 _ _ _ _ _ z7 u6 (by rfl)) (by rfl)))) (by rfl) (.inl rfl))) m9)
  (@j6 _ _ _ (u4 (@qU _ _ _ _ _ (@j9 _ _ _ _ _ (pv 1) (@j9 _ _ _ _ _ (qu Ae hr (by decide) rfl (@j9 _ _ _ _ _ (pv 0) (@j9 _ _ _ _ _ (pv 2) u6 (by rfl)) (by rfl))) (@j9 _ _ _ _ _ (u3 (qZ (K:=K) rfl) z7 (qu Au hr (by decide) rfl (@j9 _ _ _ _ _ (pv 0) (@j9 _ _ _ _ _ (pv 3) u6 (by rfl)) (by rfl)))) (@j9 _ _ _ _ _ (pv 4) (@j9 _ _ _ _ _ (u3 (qZ (K:=K) rfl) z7 (qu Ae hr (by decide) rfl (@j9 _ _ _ _ _ (pv 0) (@j9 _ _ _ _ _ z7 u6 (by rfl)) (by rfl)))) u6 (by rfl)) (by rfl)) (by rfl)) (by rfl)) (by rfl))))))),
  (by repeat' first|infer_instance|(refine @Mi.instSemWSTSeqWSeq _ _ _ _ ?_ ?_)|(apply @Mi.instSemWSTForWForOfSemWIOfSemWG))⟩) PK
def QC (K:Fg):List PV->Prop:=λxs=>∃(ns:List Int)(m:Nat),xs=[scr K ns,.at (.int m)]/\ns.length<=63/\m<=10
def vL:List PV->PV->Prop:=λxs y=>∃(d:Dr)(z:PV)(m:Nat),xs=[z,.at (.int m)]/\y=d.pv/\d.Ok/\d.cls.length<=m
abbrev Vk:Stmt:=top 62
abbrev WV (K:Fg):WS:=(wSeq (Zj 2 (vw K) jN (k7 (wP (x6 0)) (k7 (wP (dC (.int 0))) qq)))
  (wSeq (qb 3 (qW qi (qr 2 (wP (dC (.int 6)))) (wP (dC (.int 5)))))
  (wSeq (qb 4 (qW qt (wP (dC (.int 1))) (qr 2 (wP (dC (.int 4))))))
  (wSeq (qb 5 (xI 2 QD vM (k7 (wP (x6 4)) (k7 (wP (x6 3)) qq))))
  (wSeq (Zj 6 (vw K) jN (k7 (wP (x6 0)) (k7 (wP (dC (.int 1))) qq)))
  (wSeq (qb 7 (xI 6 QB QQ (k7 (qr 6 (wP (z0 qt (x8 1) (dC (.int 1))))) qq)))
  (wSeq (qb 8 (jF [none,some 6,some 4,some 3] [0] (wIp (y9 (x6 7))) (v6 0) ji (xI 1 wC vK (k7 (wP (x6 0)) (k7 (wP (x6 2)) (k7 (wP (x6 3)) qq))))))
  (xu (wK (k7 (wP (x6 5)) (k7 (wP (x6 8)) (k7 (qW xY (qr 2 (wP (z0 qt (x8 4) (dC (.int 1))))) (wP (dC (.int 1)))) (k7 (xI 2 za zh (k7 (wP (x6 3)) qq)) qq)))))))))))))
theorem sc_parts:w9 ["script","most","row","great","hues","rinses","more","names","cloths"] ["script","most"] (j3 Vk):=u8
theorem PH {K:Fg}:∀ xs,QC K xs->xs.length=(["script","most"]:List Str).length:=by rintro xs ⟨ns,m,rfl,_⟩;rfl
theorem PP {K:Fg}:∀ xs,QC K xs->WV K (xs.map .sh++List.replicate ((["script","most","row","great","hues","rinses","more","names","cloths"]:List Str).length-xs.length) .no) (λ_=>False) λy _=>vL xs y:=by
 rintro xs ⟨ns,mo,rfl,h63,hmo⟩;have hB:=jI;obtain ⟨t1,t2,t3⟩:=Ts;have hlim:lim=1000000:=rfl;refine ⟨_,rfl,_,rfl,⟨ns,0,rfl,h63,by decide,by decide⟩,?_⟩;rintro y ⟨n,rfl⟩
 -- great,hues
 refine ⟨⟨n,rfl⟩,_,rfl,n,6,rfl,rfl,⟨by decide,by decide⟩,_,rfl,_,rfl,?_⟩;generalize m7 (.int (n % 6)) (.int 5)=great;generalize n / 6=n1;refine ⟨_,rfl,⟨_,rfl⟩,_,rfl,n1,4,rfl,rfl,⟨by decide,by decide⟩,_,rfl,?_⟩;have a0:0<=n1 % 4:=ym _ (by decide);have a1:n1 % 4<4:=yu _ (by decide);obtain ⟨h,hh⟩:=yd (show 0<=1+n1 % 4 by omega);generalize n1 / 4=n2;have hh1:1<=h:=by omega
 have hh4:h<=4:=by omega
 rw [hh];clear a0 a1 hh
 -- rinses
 refine ⟨⟨_,rfl⟩,_,rfl,_,rfl,⟨_,rfl⟩,⟨h,great,rfl,hh1,hh4⟩,?_⟩;rintro y n3 ⟨h',b',rss,e,rfl,hr⟩;have e':h'=h:=by injection e with e _;injection e with e;injection e with e;omega
 subst e';have fin:∀(n3 m:Int)(z:MSlot)(cs:List Cl),cs.length<=10->cs.length<=mo->(∀ c∈cs,c.Ok h')->(cs.map Cl.name).Nodup->((xu (wK (k7 (wP (x6 5)) (k7 (wP (x6 8)) (k7 (qW xY (qr 2 (wP (z0 qt (x8 4) (dC (.int 1))))) (wP (dC (.int 1)))) (k7 (xI 2 za zh (k7 (wP (x6 3)) qq)) qq)))))):WS) [.sh (scr K ns),.sh (.at (.int (mo:Int))),b9 n3,.sh (.at (.bl great)),.sh (.at (.int (h':Int))),.sh (qk rss),b9 m,z,.sh (.lst (cs.map Cl.pv))] (λ_=>False) λy _=>vL [scr K ns,.at (.int (mo:Int))] y:=by intro n3 m z cs l10 lmo g1 nd;have d0:0<=n3 % ((h':Int)+1):=ym _ (by omega);have d1:n3 % ((h':Int)+1)<(h':Int)+1:=yu _ (by omega);refine ⟨_,rfl,_,rfl,⟨n3,rfl⟩,_,rfl,n3,(h':Int)+1,rfl,rfl,zT (by omega) (by omega),_,rfl,_,rfl,⟨_,rfl⟩,_,rfl,⟨_,rfl⟩,⟨great,rfl⟩,?_⟩;rintro y n4 ⟨ti,rfl,ti0,ti1⟩;exact ⟨by show 4<=lim;decide,⟨h',rss,cs,n3 % ((h':Int)+1)-1,ti⟩,scr K ns,mo,rfl,rfl,⟨hh1,hh4,hr,l10,g1,nd,(by show -1<=n3 % ((h':Int)+1)-1;omega),(by show n3 % ((h':Int)+1)-1<(h':Int);omega),ti0,(by show ti<60*qe;omega)⟩,lmo⟩
 -- cloths
 have cloths:∀(n3 q2:Int)(ss:List Str)(k:Nat),ss.length=k->k<=mo->ss.Nodup->(∀ s∈ss,vJ s)->((wSeq (qb 8 (jF [none,some 6,some 4,some 3] [0] (wIp (y9 (x6 7))) (v6 0) ji (xI 1 wC vK (k7 (wP (x6 0)) (k7 (wP (x6 2)) (k7 (wP (x6 3)) qq))))))
  (xu (wK (k7 (wP (x6 5)) (k7 (wP (x6 8)) (k7 (qW xY (qr 2 (wP (z0 qt (x8 4) (dC (.int 1))))) (wP (dC (.int 1)))) (k7 (xI 2 za zh (k7 (wP (x6 3)) qq)) qq))))))):WS) [.sh (scr K ns),.sh (.at (.int (mo:Int))),b9 n3,.sh (.at (.bl great)),.sh (.at (.int (h':Int))),.sh (qk rss),b9 q2,.sh (.lst (u9 ss)),.no] (λ_=>False) λy _=>vL [scr K ns,.at (.int (mo:Int))] y:=by
  intro n3 q2 ss k el hkm nd nok;refine ⟨_,rfl,rfl,by rw [xG];omega,?_⟩;refine QZ (λrest ys ε=>∃(m:Int)(todo:List Str)(cs:List Cl),rest=u9 todo/\ε=[.no,b9 m,.sh (.at (.int (h':Int))),.sh (.at (.bl great))]/\ys=cs.map Cl.pv/\cs.map Cl.name++todo=ss/\(∀ c∈cs,c.Ok h')) ?_ ?_ _ [] _ ⟨q2,ss,[],rfl,rfl,rfl,rfl,(λ_ z=>nomatch z)⟩
  ·rintro ys ε ⟨m,todo,cs,e2,rfl,rfl,e3,g1⟩;have:todo=[]:=by
    cases todo with
    |nil=>rfl
    |cons _ _=>cases e2
   subst this;rw [yo] at e3;have cl:cs.length=k:=by rw [<- el,<- e3,yZ]
   refine ⟨(λ⟨y,e⟩=>nomatch (show some (MSlot.sh (scr K ns))=some (MSlot.ow y) from e)),?_⟩;exact fin n3 m _ cs (by omega) (by omega) g1 (by rw [e3];exact nd)
  ·rintro x rest ys ε ⟨m,todo,cs,e2,rfl,rfl,e3,g1⟩;cases todo with
   |nil=>cases e2
   |cons s todo =>
    have e2':x = .at (.str s)/\rest=u9 todo:=by injection e2 with e4 e5;exact ⟨e4,e5⟩
    obtain ⟨rfl,rfl⟩:=e2';have hs:s∈ss:=by rw [<- e3];exact yv _ yQ
    refine ⟨_,rfl,⟨_,rfl⟩,_,rfl,_,rfl,_,rfl,⟨_,rfl⟩,⟨s,h',great,rfl,nok s hs,hh1,hh4⟩,?_⟩;rintro y m2 ⟨s2,h2,b2,c,e4,rfl,en,ok⟩;injection e4 with e4 e5;injection e4 with e4;injection e4 with e4;injection e5 with e5 _;injection e5 with e5;injection e5 with e5;have e6:h'=h2:=by omega
    subst e4 e6;refine ⟨m2,todo,cs++[c],rfl,rfl,by rw [yw];rfl,by rw [yw,uS,<- e3];show _++(c.name::todo)=_;rw [en],λx hx=>?_⟩;rcases yx.mp hx with hx|hx
    ·exact g1 x hx
    ·rw [yP.mp hx];exact ok
 -- names
 refine ⟨_,rfl,_,rfl,⟨ns,1,rfl,h63,by decide,by decide⟩,?_⟩;rintro y ⟨q,rfl⟩;have c0:0<=q % ((mo:Int)+1):=ym _ (by omega);have c1:q % ((mo:Int)+1)<(mo:Int)+1:=yu _ (by omega);obtain ⟨k,hk⟩:=yd c0;refine ⟨⟨_,rfl⟩,⟨_,rfl⟩,_,rfl,q,(mo:Int)+1,rfl,rfl,zT (by omega) (by omega),⟨_,rfl⟩,⟨k,by rw [hk],by omega⟩,?_⟩;rintro y q2 ⟨ss,rfl,e1,nd,nok⟩;have el:ss.length=k:=by injection e1 with e1 _;injection e1 with e1;injection e1 with e1;rw [hk] at e1;omega
 exact cloths n3 q2 ss k el (by omega) nd nok
theorem DM (F:Fun K "_law_parts" "_law_parts" Vk f fd)(Ip:Fn P w K mg base 3 "_law_cloth" ["row","name","hues","great"] (spD wC vK))(Ae:Fn P w K mg base 1 "_law_digit" ["row","many"] zv)(E9:Fn P w K mg base 2 "_law_names" ["row","many"] (spD QB QQ))(Au:Fn P w K mg base 2 "_law_number" ["row","great"] (spD za zh))(Ev:Fn P w K mg base 3 "_law_rinses" ["row","hues","great"] (spD QD vM))(B4:Fn P w K mg base 2 "_law_stream" ["script","k"] (spN (vw K) jN)):FnOk P w K mg base v7 4 f fd ["script","most"] (spV (QC K) vL) :=
 okV (k:=3) (b:=WV K) F sc_parts PH (λcdv A outer s H E hr=>⟨_,(@j7 _ _ _ _ _ (@qv _ _ 2 _ _ _ _ sc_parts.nd rfl (Or.inl rfl) (qu B4 hr (by decide) rfl (@j9 _ _ _ _ _ (pv 0) (@j9 _ _ _ _ _ z7 u6 (by rfl)) (by rfl))) (by rfl) (.inl rfl))
  (@j7 _ _ _ _ _ (@qv _ _ 3 _ _ _ _ sc_parts.nd rfl (Or.inr rfl) (zI (xV (K:=K) (qE hr) rfl) (qu Ae hr (by decide) rfl (@j9 _ _ _ _ _ (pv 2) (@j9 _ _ _ _ _ z7 u6 (by rfl)) (by rfl))) z7 (c7 _)) (by rfl) (.inl rfl))
  (@j7 _ _ _ _ _ (@qv _ _ 4 _ _ _ _ sc_parts.nd rfl (Or.inr rfl) (u3 (qZ (K:=K) rfl) z7 (qu Ae hr (by decide) rfl (@j9 _ _ _ _ _ (pv 2) (@j9 _ _ _ _ _ z7 u6 (by rfl)) (by rfl)))) (by rfl) (.inl rfl))
  (@j7 _ _ _ _ _ (@qv _ _ 5 _ _ _ _ sc_parts.nd rfl (Or.inl rfl) (qu Ev hr (by decide) rfl (@j9 _ _ _ _ _ (pv 2) (@j9 _ _ _ _ _ (pv 4) (@j9 _ _ _ _ _ (pv 3) u6 (by rfl)) (by rfl)) (by rfl))) (by rfl) (.inl rfl))
  (@j7 _ _ _ _ _ (@qv _ _ 6 _ _ _ _ sc_parts.nd rfl (Or.inr rfl) (qu B4 hr (by decide) rfl (@j9 _ _ _ _ _ (pv 0) (@j9 _ _ _ _ _ z7 u6 (by rfl)) (by rfl))) (by rfl) (.inl rfl))
  (@j7 _ _ _ _ _ (@qv _ _ 7 _ _ _ _ sc_parts.nd rfl (Or.inl rfl) (qu E9 hr (by decide) rfl (@j9 _ _ _ _ _ (pv 6) (@j9 _ _ _ _ _ (qu Ae hr (by decide) rfl (@j9 _ _ _ _ _ (pv 6) (@j9 _ _ _ _ _ (u3 (qZ (K:=K) rfl) (pv 1) z7) u6 (by rfl)) (by rfl))) u6 (by rfl)) (by rfl))) (by rfl) (.inl rfl))
  (@j7 _ _ _ _ _ (zu (i:=8) (N':=["name","more","hues","great"]) (cap:=[none,some 6,some 4,some 3]) (c4 rfl rfl rfl) rfl sc_parts.nd rfl rfl (@c5 _ K _ _ _ rfl (pv 7)) (λ_ _ _ _ _ _=>(p8 (i:=0) (by show (["name","more","hues","great"]:List Str).Nodup;decide +kernel) rfl (Or.inl rfl))) (λ_ _ _ _ _ _=>i5) (λ_ _ _ _ _ _=>(qu Ip hr (by decide) rfl (@j9 _ _ _ _ _ (pv 1) (@j9 _ _ _ _ _ (pv 0) (@j9 _ _ _ _ _ (pv 2) (@j9 _ _ _ _ _ (pv 3) u6 (by rfl)) (by rfl)) (by rfl)) (by rfl)))))
  (@j6 _ _ _ (u4 (@qU _ _ _ _ _ (@j9 _ _ _ _ _ (pv 5) (@j9 _ _ _ _ _ (pv 8) (@j9 _ _ _ _ _ (u3 (vm) (qu Ae hr (by decide) rfl (@j9 _ _ _ _ _ (pv 2) (@j9 _ _ _ _ _ (u3 (qZ (K:=K) rfl) (pv 4) z7) u6 (by rfl)) (by rfl))) z7) (@j9 _ _ _ _ _ (qu Au hr (by decide) rfl (@j9 _ _ _ _ _ (pv 2) (@j9 _ _ _ _ _ (pv 3) u6 (by rfl)) (by rfl))) u6 (by rfl)) (by rfl)) (by rfl)) (by rfl)))))))))))),
  (by repeat' first|infer_instance|(refine @Mi.instSemWSTSeqWSeq _ _ _ _ ?_ ?_)|(apply @Mi.instSemWSTForWForOfSemWIOfSemWG))⟩) PP
abbrev JZ:Stmt:=top 4
abbrev WI:MS:=(k8 (xJ (z6 o8 (q0 (x8 0) (q0 (dC (.ty "int")) x9))) (wY (z6 o8 (q0 (x8 0) (q0 (dC (.ty "bool")) x9))))))
def jy:List PV->Option PV:=b7 1 1 WI
theorem LU:w9 ["thing"] ["thing"] (j3 JZ):=u8
theorem DA (F:Fun K "is_whole" "is_whole" JZ f fd)(Eo:mg "bool"=none)(E7:mg "int"=none)(Ac:mg "isinstance"=none):FnOk P w K mg base v7 1 f fd ["thing"] (v8 jy) :=
 r9 (k:=0) (b:=WI) F LU rfl λcdv A outer s H E hr=>⟨_,(j6 (u4 (zH (u7 (xT (K:=K) rfl) rfl Ac xh (aC (pv 0) (aW (xP (v:= .ty "int") rfl E7 Yr rfl)))) (zJ (Gg (u7 (xT (K:=K) rfl) rfl Ac xh (aC (pv 0) (aW (xP (v:= .ty "bool") rfl Eo Yp rfl))))))))),
  inferInstance⟩
abbrev Vh:Stmt:=top 7
abbrev WQ:MS:=(k8 (z0 j8 (x8 0) (dC (.int 0))))
def jb:List PV->Option PV:=b7 1 1 WQ
theorem LZ:w9 ["cloth"] ["cloth"] (j3 Vh):=u8
theorem DJ (F:Fun K "name_of" "name_of" Vh f fd):FnOk P w K mg base v7 1 f fd ["cloth"] (v8 jb) :=
 r9 (k:=0) (b:=WQ) F LZ rfl λcdv A outer s H E hr=>⟨_,(j6 (u4 (iW (K:=K) rfl (pv 0) z7))),
  inferInstance⟩
abbrev JR:Stmt:=top 8
abbrev Wz:MS:=(k8 (z0 j8 (x8 0) (dC (.int 1))))
def jx:List PV->Option PV:=b7 1 1 Wz
theorem LM:w9 ["cloth"] ["cloth"] (j3 JR):=u8
theorem Ds (F:Fun K "hue_of" "hue_of" JR f fd):FnOk P w K mg base v7 1 f fd ["cloth"] (v8 jx) :=
 r9 (k:=0) (b:=Wz) F LM rfl λcdv A outer s H E hr=>⟨_,(j6 (u4 (iW (K:=K) rfl (pv 0) z7))),
  inferInstance⟩
abbrev Ve:Stmt:=top 9
abbrev WO:MS:=(k8 (z0 j8 (x8 0) (dC (.int 2))))
def ZW:List PV->Option PV:=b7 1 1 WO
theorem LX:w9 ["cloth"] ["cloth"] (j3 Ve):=u8
theorem DG (F:Fun K "length_of" "length_of" Ve f fd):FnOk P w K mg base v7 1 f fd ["cloth"] (v8 ZW) :=
 r9 (k:=0) (b:=WO) F LX rfl λcdv A outer s H E hr=>⟨_,(j6 (u4 (iW (K:=K) rfl (pv 0) z7))),
  inferInstance⟩
abbrev JP:Stmt:=top 10
abbrev Ww:MS:=(k8 (z0 j8 (x8 0) (dC (.int 3))))
def ZV:List PV->Option PV:=b7 1 1 Ww
theorem LL:w9 ["cloth"] ["cloth"] (j3 JP):=u8
theorem Dp (F:Fun K "due_of" "due_of" JP f fd):FnOk P w K mg base v7 1 f fd ["cloth"] (v8 ZV) :=
 r9 (k:=0) (b:=Ww) F LL rfl λcdv A outer s H E hr=>⟨_,(j6 (u4 (iW (K:=K) rfl (pv 0) z7))),
  inferInstance⟩
abbrev Vw:Stmt:=top 11
abbrev Yf:MS:=(k8 (z0 j8 (x8 0) (dC (.int 4))))
def ZX:List PV->Option PV:=b7 1 1 Yf
theorem Nh:w9 ["cloth"] ["cloth"] (j3 Vw):=u8
theorem Ma (F:Fun K "weight_of" "weight_of" Vw f fd):FnOk P w K mg base v7 1 f fd ["cloth"] (v8 ZX) :=
 r9 (k:=0) (b:=Yf) F Nh rfl λcdv A outer s H E hr=>⟨_,(j6 (u4 (iW (K:=K) rfl (pv 0) z7))),
  inferInstance⟩
abbrev JT:Stmt:=top 12
abbrev WC:MS:=(k8 (xJ (z6 jy (q0 (x6 0) x9)) (z0 pGe (x8 0) (x8 1))))
def zG:List PV->Option PV:=b7 2 2 WC
theorem LO:w9 ["thing","least"] ["thing","least"] (j3 JT):=u8
theorem Du (F:Fun K "is_from" "is_from" JT f fd)(Aj:Fn P w K mg base 1 "is_whole" ["thing"] (v8 jy)):FnOk P w K mg base v7 2 f fd ["thing","least"] (v8 zG) :=
 r9 (k:=1) (b:=WC) F LO rfl λcdv A outer s H E hr=>⟨_,(j6 (u4 (zH (fW Aj hr (aW (pv 0))) (zJ (zI (XJ) (pv 0) (pv 1) (c7 _)))))),
  inferInstance⟩
abbrev JU:Stmt:=top 3
abbrev WD:MS:=(y8 (p9 (dOr (n9 (m6 (z6 o8 (q0 (x8 0) (q0 (dC (.ty "str")) x9))))) (n9 (dT (zV pLe pLe (dC (.int 1)) (z6 o9 (q0 (x8 0) x9)) (dC (.int 8)))))) (k8 (dC (.bl false))) m5)
  (k8 (z6 xW (q0 (b8 [none] [0] (dItS (x6 0)) (v6 0) p6 (zV pLeS pLeS (dC (.str "a")) (x8 0) (dC (.str "z")))) x9))))
def Xz:List PV->Option PV:=b7 1 1 WD
theorem LP:w9 ["thing"] ["thing"] (j3 JU):=u8
theorem Dv (F:Fun K "is_name" "is_name" JU f fd)(As:mg "all"=none)(Ac:mg "isinstance"=none)(Ad:mg "len"=none)(E6:mg "str"=none)(B3:mg "LONGEST_NAME"=some (.int 8 A9)):FnOk P w K mg base v7 1 f fd ["thing"] (v8 Xz) :=
 r9 (k:=0) (b:=WD) F LP rfl λcdv A outer s H E hr=>⟨_,(j7 (c8 (PW.pt (je (qG (qp (K:=K) rfl (u7 (xT (K:=K) rfl) rfl Ac xh (aC (pv 0) (aW (xP (v:= .ty "str") rfl E6 Ys rfl)))) (λ_=>rfl))) (vy (qG (Js (Qu) (Qu) z7 (u7 (qf (K:=K) rfl) rfl Ad PySem.boot_len (aW (pv 0))) (vp (v:= .int 8) rfl B3 ⟨_,rfl⟩)))))) (j6 (u4 xZ)) m9)
  (j6 (u4 (u7 (jT (K:=K) rfl rfl) rfl As jS (aW (qj (N':=["sign"]) (cap:=[none]) (c4 rfl rfl rfl) rfl (MO (pv 0)) (λ_ _ _ _ _ _=>(p8 (i:=0) (by show (["sign"]:List Str).Nodup;decide +kernel) rfl (Or.inl rfl))) (λ_ _ _ _ _ _=>i5) (λ_ _ _ _ _ _=>(Ms (Gc) (Gc) xc (pv 0) xc)))))))),
  inferInstance⟩
abbrev JS:Stmt:=top 13
abbrev WB:MS:=(y8 (p9 (dOr (n9 (m6 (z6 o8 (q0 (x8 0) (q0 (dC (.ty "tuple")) x9))))) (dT (z0 pNe (z6 o9 (q0 (x8 0) x9)) (dC (.int 5))))) (k8 (dC (.bl false))) m5)
  (y8 (p9 (dOr (n9 (m6 (z6 Xz (q0 (z6 jb (q0 (x6 0) x9)) x9)))) (dOr (n9 (m6 (z6 zG (q0 (z6 jx (q0 (x6 0) x9)) (q0 (dC (.int 0)) x9))))) (dT (z0 pGe (z6 jx (q0 (x6 0) x9)) (x8 1))))) (k8 (dC (.bl false))) m5)
  (k8 (xJ (z6 zG (q0 (z6 ZW (q0 (x6 0) x9)) (q0 (dC (.int 1)) x9))) (xJ (z6 jy (q0 (z6 ZV (q0 (x6 0) x9)) x9)) (z6 zG (q0 (z6 ZX (q0 (x6 0) x9)) (q0 (dC (.int 1)) x9))))))))
def Xy:List PV->Option PV:=b7 2 2 WB
theorem LN:w9 ["thing","hues"] ["thing","hues"] (j3 JS):=u8
theorem Dt (F:Fun K "is_cloth" "is_cloth" JS f fd)(E1:Fn P w K mg base 1 "due_of" ["cloth"] (v8 ZV))(Ar:Fn P w K mg base 1 "hue_of" ["cloth"] (v8 jx))(Aq:Fn P w K mg base 2 "is_from" ["thing","least"] (v8 zG))(En:Fn P w K mg base 1 "is_name" ["thing"] (v8 Xz))(Aj:Fn P w K mg base 1 "is_whole" ["thing"] (v8 jy))(Ea:Fn P w K mg base 1 "length_of" ["cloth"] (v8 ZW))(Ao:Fn P w K mg base 1 "name_of" ["cloth"] (v8 jb))(Ed:Fn P w K mg base 1 "weight_of" ["cloth"] (v8 ZX))(Ac:mg "isinstance"=none)(Ad:mg "len"=none)(Ij:mg "tuple"=none)(Ig:mg "PARTS"=some (.int 5 Ii)):FnOk P w K mg base v7 3 f fd ["thing","hues"] (v8 Xy) :=
 r9 (k:=2) (b:=WB) F LN rfl λcdv A outer s H E hr=>⟨_,(j7 (c8 (PW.pt (je (qG (qp (K:=K) rfl (u7 (xT (K:=K) rfl) rfl Ac xh (aC (pv 0) (aW (xP (v:= .ty "tuple") rfl Ij Bl rfl)))) (λ_=>rfl))) (vy (i4 (jB (K:=K) (qE hr) rfl) (u7 (qf (K:=K) rfl) rfl Ad PySem.boot_len (aW (pv 0))) (vp (v:= .int 5) rfl Ig ⟨_,rfl⟩) (c7 _))))) (j6 (u4 xZ)) m9)
  (j7 (c8 (PW.pt (je (qG (qp (K:=K) rfl (fW En hr (aW (fW Ao hr (aW (pv 0))))) (λ_=>rfl))) (je (qG (qp (K:=K) rfl (fW Aq hr (aC (fW Ar hr (aW (pv 0))) (aW z7))) (λ_=>rfl))) (vy (i4 (XJ) (fW Ar hr (aW (pv 0))) (pv 1) (c7 _)))))) (j6 (u4 xZ)) m9)
  (j6 (u4 (zH (fW Aq hr (aC (fW Ea hr (aW (pv 0))) (aW z7))) (zH (fW Aj hr (aW (fW E1 hr (aW (pv 0))))) (zJ (fW Aq hr (aC (fW Ed hr (aW (pv 0))) (aW z7)))))))))),
  inferInstance⟩
abbrev JX:Stmt:=top 40
abbrev WG:MS:=(y8 (p9 (dOr (n9 (m6 (z6 o8 (q0 (x8 0) (q0 (dC (.ty "list")) x9))))) (dT (z0 pNe (z6 o9 (q0 (x8 0) x9)) (x8 1)))) (k8 (dC (.bl false))) m5)
  (k8 (z6 xW (q0 (b8 [none] [0] (y9 (x6 0)) (v6 0) p6 (xJ (z6 jy (q0 (x6 0) x9)) (z0 pGe (x8 0) (dC (.int 0))))) x9))))
def Qm:List PV->Option PV:=b7 2 2 WG
theorem LS:w9 ["row","hues"] ["row","hues"] (j3 JX):=u8
theorem Dy (F:Fun K "is_rinse_row" "is_rinse_row" JX f fd)(Aj:Fn P w K mg base 1 "is_whole" ["thing"] (v8 jy))(As:mg "all"=none)(Ac:mg "isinstance"=none)(Ad:mg "len"=none)(Ai:mg "list"=none):FnOk P w K mg base v7 2 f fd ["row","hues"] (v8 Qm) :=
 r9 (k:=1) (b:=WG) F LS rfl λcdv A outer s H E hr=>⟨_,(j7 (c8 (PW.pt (je (qG (qp (K:=K) rfl (u7 (xT (K:=K) rfl) rfl Ac xh (aC (pv 0) (aW (xP (v:= .ty "list") rfl Ai jo rfl)))) (λ_=>rfl))) (vy (i4 (jB (K:=K) (qE hr) rfl) (u7 (qf (K:=K) rfl) rfl Ad PySem.boot_len (aW (pv 0))) (pv 1) (c7 _))))) (j6 (u4 xZ)) m9)
  (j6 (u4 (u7 (jT (K:=K) rfl rfl) rfl As jS (aW (qj (N':=["number"]) (cap:=[none]) (c4 rfl rfl rfl) rfl (@c5 _ K _ _ _ rfl (pv 0)) (λ_ _ _ _ _ _=>(p8 (i:=0) (by show (["number"]:List Str).Nodup;decide +kernel) rfl (Or.inl rfl))) (λ_ _ _ _ _ _=>i5) (λ_ _ _ _ _ _=>(zH (fW Aj hr (aW (pv 0))) (zJ (zI (XJ) (pv 0) z7 (c7 _))))))))))),
  inferInstance⟩
abbrev JJ:Stmt:=top 41
abbrev Wr:MS:=(y8 (p9 (n9 (m6 (z6 o8 (q0 (x8 0) (q0 (dC (.ty "list")) x9))))) qw m5)
  (y8 (i8 1 (z0 xY (z6 o9 (q0 (x8 0) x9)) (dC (.int 1))))
  (y8 (p9 (n9 (dT (zV pLe pLe (dC (.int 1)) (x8 1) (dC (.int 4))))) qw m5)
  (p9 (n9 (m6 (z6 xW (q0 (b8 [none,some 1] [0] (y9 (x6 0)) (v6 0) p6 (z6 Qm (q0 (x6 0) (q0 (x6 1) x9)))) x9)))) qw m5))))
def Xw:List PV->Option PV:=b7 2 1 Wr
theorem sc_check_rinses:w9 ["rinses","hues"] ["rinses"] (j3 JJ):=u8
theorem Dj (F:Fun K "check_rinses" "check_rinses" JJ f fd)(A5:Fn P w K mg base 2 "is_rinse_row" ["row","hues"] (v8 Qm))(As:mg "all"=none)(Ac:mg "isinstance"=none)(Ad:mg "len"=none)(Ai:mg "list"=none)(Ef:mg "MOST_HUES"=some (.int 4 Eb)):FnOk P w K mg base v7 3 f fd ["rinses"] (v8 Xw) :=
 r9 (k:=2) (b:=Wr) F sc_check_rinses rfl λcdv A outer s H E hr=>⟨_,(j7 (c8 (qG (qp (K:=K) rfl (u7 (xT (K:=K) rfl) rfl Ac xh (aC (pv 0) (aW (xP (v:= .ty "list") rfl Ai jo rfl)))) (λ_=>rfl))) (j6 zt) m9)
  (j7 (sW 1 sc_check_rinses.nd (u3 (vm) (u7 (qf (K:=K) rfl) rfl Ad PySem.boot_len (aW (pv 0))) z7))
  (j7 (c8 (qG (Js (Qu) (Qu) z7 (pv 1) (vp (v:= .int 4) rfl Ef ⟨_,rfl⟩))) (j6 zt) m9)
  (j6 (c8 (qG (qp (K:=K) rfl (u7 (jT (K:=K) rfl rfl) rfl As jS (aW (qj (N':=["row","hues"]) (cap:=[none,some 1]) (c4 rfl rfl rfl) rfl (@c5 _ K _ _ _ rfl (pv 0)) (λ_ _ _ _ _ _=>(p8 (i:=0) (by show (["row","hues"]:List Str).Nodup;decide +kernel) rfl (Or.inl rfl))) (λ_ _ _ _ _ _=>i5) (λ_ _ _ _ _ _=>(fW A5 hr (aC (pv 0) (aW (pv 1)))))))) (λ_=>rfl))) (j6 zt) m9))))),
  inferInstance⟩
abbrev Vo:Stmt:=top 42
abbrev WZ:MS:=(k8 (b8 [none,none] [0,1] (xn (q0 (x6 0) x9)) (qT 2 (m8 (v6 0) (m8 (v6 1) qS))) p6 (t6 (q0 (x6 1) (q0 (o6 (q0 (x6 0) x9)) x9)))))
def Qr:List PV->Option PV:=zk 1 1 WZ
theorem Nb:w9 ["row"] ["row"] (j3 Vo):=u8
theorem DQ (F:Fun K "straight_ways" "straight_ways" Vo f fd)(Af:mg "enumerate"=none):FnOk P w K mg base v7 1 f fd ["row"] (spO Qr) :=
 okO (k:=0) (b:=WZ) F Nb rfl λcdv A outer s H E hr=>⟨_,(j6 (u4 (qj (N':=["hue","number"]) (cap:=[none,none]) (c4 rfl rfl rfl) rfl (Qy (K:=K) rfl rfl Af (aW (pv 0))) (λ_ _ _ _ _ _=>(vq (K:=K) (n:=2) rfl rfl (xD (p8 (i:=0) (by show (["hue","number"]:List Str).Nodup;decide +kernel) rfl (Or.inl rfl)) (xD (p8 (i:=1) (by show (["hue","number"]:List Str).Nodup;decide +kernel) rfl (Or.inl rfl)) vt)))) (λ_ _ _ _ _ _=>i5) (λ_ _ _ _ _ _=>(@qU _ _ _ _ _ (aC (pv 1) (aW (@qL _ _ _ _ (aW (pv 0)))))))))),
  inferInstance⟩
abbrev Va:Stmt:=top 43
abbrev WJ:MS:=(k8 (t6 (q0 (z0 qt (z0 j8 (x8 0) (dC (.int 0))) (z0 j8 (x8 1) (dC (.int 0)))) (q0 (z0 qt (z0 j8 (x8 0) (dC (.int 1))) (z0 j8 (x8 1) (dC (.int 1)))) x9))))
def Qn:List PV->Option PV:=b7 2 2 WJ
theorem LV:w9 ["way","onward"] ["way","onward"] (j3 Va):=u8
theorem DB (F:Fun K "joined" "joined" Va f fd):FnOk P w K mg base v7 1 f fd ["way","onward"] (v8 Qn) :=
 r9 (k:=0) (b:=WJ) F LV rfl λcdv A outer s H E hr=>⟨_,(j6 (u4 (@qU _ _ _ _ _ (aC (u3 (qZ (K:=K) rfl) (iW (K:=K) rfl (pv 0) z7) (iW (K:=K) rfl (pv 1) z7)) (aW (u3 (qZ (K:=K) rfl) (iW (K:=K) rfl (pv 0) z7) (iW (K:=K) rfl (pv 1) z7))))))),
  inferInstance⟩
abbrev Vf:Stmt:=top 44
abbrev WP:MS:=(k8 (dIf (dT (z0 pLt (z0 j8 (x8 1) (dC (.int 0))) (z0 j8 (x8 0) (dC (.int 0))))) (x6 1) (x6 0)))
def Qo:List PV->Option PV:=b7 2 2 WP
theorem LY:w9 ["way","other"] ["way","other"] (j3 Vf):=u8
theorem DH (F:Fun K "lesser" "lesser" Vf f fd):FnOk P w K mg base v7 1 f fd ["way","other"] (v8 Qo) :=
 r9 (k:=0) (b:=WP) F LY rfl λcdv A outer s H E hr=>⟨_,(j6 (u4 (Ge (i4 (XM) (iW (K:=K) rfl (pv 1) z7) (iW (K:=K) rfl (pv 0) z7) (c7 _)) (pv 1) (pv 0)))),
  inferInstance⟩
abbrev Vv:Stmt:=top 45
abbrev Ye:MS:=(k8 (b8 [none,none,some 0,some 1] [0,1] (dZip (q0 (x6 0) (q0 (x6 2) x9))) (qT 2 (m8 (v6 0) (m8 (v6 1) qS))) p6 (z6 Qo (q0 (x6 0) (q0 (z6 Qn (q0 (z0 j8 (x8 2) (x8 3)) (q0 (x6 1) x9))) x9)))))
def wq:List PV->Option PV:=zk 3 3 Ye
theorem Ng:w9 ["ways","hue","onward"] ["ways","hue","onward"] (j3 Vv):=u8
theorem DZ (F:Fun K "ways_through" "ways_through" Vv f fd)(Eu:Fn P w K mg base 1 "joined" ["way","onward"] (v8 Qn))(Et:Fn P w K mg base 1 "lesser" ["way","other"] (v8 Qo))(J7:mg "zip"=none):FnOk P w K mg base v7 2 f fd ["ways","hue","onward"] (spO wq) :=
 okO (k:=1) (b:=Ye) F Ng rfl λcdv A outer s H E hr=>⟨_,(j6 (u4 (qj (N':=["way","more","ways","hue"]) (cap:=[none,none,some 0,some 1]) (c4 rfl rfl rfl) rfl (MQ (K:=K) rfl rfl J7 (aC (pv 0) (aW (pv 2)))) (λ_ _ _ _ _ _=>(vq (K:=K) (n:=2) rfl rfl (xD (p8 (i:=0) (by show (["way","more","ways","hue"]:List Str).Nodup;decide +kernel) rfl (Or.inl rfl)) (xD (p8 (i:=1) (by show (["way","more","ways","hue"]:List Str).Nodup;decide +kernel) rfl (Or.inl rfl)) vt)))) (λ_ _ _ _ _ _=>i5) (λ_ _ _ _ _ _=>(fW Et hr (aC (pv 0) (aW (fW Eu hr (aC (iW (K:=K) rfl (pv 2) (pv 3)) (aW (pv 1))))))))))),
  inferInstance⟩
abbrev Vd:Stmt:=top 46
abbrev WN:MS:=(y8 (i8 1 (b8 [none] [0] (y9 (x6 0)) (v6 0) p6 (z6 Qr (q0 (x6 0) x9))))
  (y8 (xi (jq (q0 (z0 xY (z6 o9 (q0 (x8 0) x9)) (dC (.int 1))) x9)) (v6 2) (y8 (i8 3 (z0 j8 (x8 1) (x8 2)))
  (i8 1 (b8 [none,some 2,some 3] [0] (y9 (x6 1)) (v6 0) p6 (z6 wq (q0 (x6 0) (q0 (x6 1) (q0 (x6 2) x9))))))))
  (k8 (x6 1))))
def XE:List PV->Option PV:=b7 4 1 WN
theorem sc_least_ways:w9 ["rinses","table","hue","onward"] ["rinses"] (j3 Vd):=u8
theorem DF (F:Fun K "least_ways" "least_ways" Vd f fd)(A0:Fn P w K mg base 1 "straight_ways" ["row"] (spO Qr))(B6:Fn P w K mg base 2 "ways_through" ["ways","hue","onward"] (spO wq))(Ad:mg "len"=none)(Ah:mg "range"=none):FnOk P w K mg base v7 3 f fd ["rinses"] (v8 XE) :=
 r9 (k:=2) (b:=WN) F sc_least_ways rfl λcdv A outer s H E hr=>⟨_,(j7 (zu (i:=1) (N':=["row"]) (cap:=[none]) (c4 rfl rfl rfl) rfl sc_least_ways.nd rfl rfl (@c5 _ K _ _ _ rfl (pv 0)) (λ_ _ _ _ _ _=>(p8 (i:=0) (by show (["row"]:List Str).Nodup;decide +kernel) rfl (Or.inl rfl))) (λ_ _ _ _ _ _=>i5) (λ_ _ _ _ _ _=>(fW A0 hr (aW (pv 0)))))
  (j7 (xp PassesOwn.never rfl (vu rfl Ah (aW (u3 (vm) (u7 (qf (K:=K) rfl) rfl Ad PySem.boot_len (aW (pv 0))) z7))) (gW 2 sc_least_ways.nd)
   (j7 (sW 3 sc_least_ways.nd (iW (K:=K) rfl (pv 1) (pv 2)))
  (j6 (zu (i:=1) (N':=["ways","hue","onward"]) (cap:=[none,some 2,some 3]) (c4 rfl rfl rfl) rfl sc_least_ways.nd rfl rfl (@c5 _ K _ _ _ rfl (pv 1)) (λ_ _ _ _ _ _=>(p8 (i:=0) (by show (["ways","hue","onward"]:List Str).Nodup;decide +kernel) rfl (Or.inl rfl))) (λ_ _ _ _ _ _=>i5) (λ_ _ _ _ _ _=>(fW B6 hr (aC (pv 0) (aC (pv 1) (aW (pv 2))))))))))
  (j6 (u4 (pv 1))))),
  inferInstance⟩
abbrev Vp:Stmt:=top 47
abbrev Ya:MS:=(k8 (b8 [none] [0] (y9 (x6 0)) (v6 0) p6 (z0 j8 (x8 0) (dC (.int 0)))))
def XF:List PV->Option PV:=zk 1 1 Ya
theorem Nc:w9 ["ways"] ["ways"] (j3 Vp):=u8
theorem DT (F:Fun K "sums_of" "sums_of" Vp f fd):FnOk P w K mg base v7 1 f fd ["ways"] (spO XF) :=
 okO (k:=0) (b:=Ya) F Nc rfl λcdv A outer s H E hr=>⟨_,(j6 (u4 (qj (N':=["way"]) (cap:=[none]) (c4 rfl rfl rfl) rfl (@c5 _ K _ _ _ rfl (pv 0)) (λ_ _ _ _ _ _=>(p8 (i:=0) (by show (["way"]:List Str).Nodup;decide +kernel) rfl (Or.inl rfl))) (λ_ _ _ _ _ _=>i5) (λ_ _ _ _ _ _=>(iW (K:=K) rfl (pv 0) z7))))),
  inferInstance⟩
abbrev Vc:Stmt:=top 48
abbrev WM:MS:=(y8 (zj (z6 Xw (q0 (x6 0) x9)))
  (k8 (b8 [none] [0] (y9 (z6 XE (q0 (x6 0) x9))) (v6 0) p6 (z6 XF (q0 (x6 0) x9)))))
def XC:List PV->Option PV:=zk 1 1 WM
theorem LW:w9 ["rinses"] ["rinses"] (j3 Vc):=u8
theorem DE (F:Fun K "least_rinses" "least_rinses" Vc f fd)(B5:Fn P w K mg base 3 "check_rinses" ["rinses"] (v8 Xw))(D9:Fn P w K mg base 3 "least_ways" ["rinses"] (v8 XE))(Em:Fn P w K mg base 1 "sums_of" ["ways"] (spO XF)):FnOk P w K mg base v7 4 f fd ["rinses"] (spO XC) :=
 okO (k:=3) (b:=WM) F LW rfl λcdv A outer s H E hr=>⟨_,(j7 (zb (fW B5 hr (aW (pv 0))))
  (j6 (u4 (qj (N':=["ways"]) (cap:=[none]) (c4 rfl rfl rfl) rfl (@c5 _ K _ _ _ rfl (fW D9 hr (aW (pv 0)))) (λ_ _ _ _ _ _=>(p8 (i:=0) (by show (["ways"]:List Str).Nodup;decide +kernel) rfl (Or.inl rfl))) (λ_ _ _ _ _ _=>i5) (λ_ _ _ _ _ _=>(fW Em hr (aW (pv 0)))))))),
  inferInstance⟩
abbrev JK:Stmt:=top 51
abbrev Ws:MS:=(y8 (p9 (jU (dT (z0 Jl (x8 0) (dC .non))) (n9 (jU (m6 (z6 zG (q0 (x6 0) (q0 (dUn xX (dC (.int 1))) x9)))) (dT (z0 pLt (x8 0) (x8 2)))))) qw m5)
  (p9 (n9 (m6 (z6 zG (q0 (x6 1) (q0 (dC (.int 0)) x9))))) qw m5))
def Xx:List PV->Option PV:=b7 3 3 Ws
theorem LI:w9 ["last","time","hues"] ["last","time","hues"] (j3 JK):=u8
theorem Dk (F:Fun K "check_start" "check_start" JK f fd)(Aq:Fn P w K mg base 2 "is_from" ["thing","least"] (v8 zG)):FnOk P w K mg base v7 3 f fd ["last","time","hues"] (v8 Xx) :=
 r9 (k:=2) (b:=Ws) F LI rfl λcdv A outer s H E hr=>⟨_,(j7 (c8 (PW.pt (Za (i4 (Ml) (pv 0) XT (c7 _)) (Jt (qG (PW.pt (Za (qp (K:=K) rfl (fW Aq hr (aC (pv 0) (aW (zK zP z7)))) (λ_=>rfl)) (Jt (i4 (XM) (pv 0) (pv 2) (c7 _))))))))) (j6 zt) m9)
  (j6 (c8 (qG (qp (K:=K) rfl (fW Aq hr (aC (pv 1) (aW z7))) (λ_=>rfl))) (j6 zt) m9))),
  inferInstance⟩
abbrev JI:Stmt:=top 52
abbrev Wq:MS:=(y8 (p9 (dT (z0 pGt (z6 o9 (q0 (x8 0) x9)) (dC (.int 10)))) qw m5)
  (y8 (zl 2 YI)
  (xi (y9 (x6 0)) (v6 3) (y8 (p9 (n9 (m6 (z6 Xy (q0 (x6 3) (q0 (x6 1) x9))))) qw m5)
  (y8 (p9 (dT (dDIn (z6 jb (q0 (x6 3) x9)) (x8 2))) qw m5)
  (dPut 2 (z6 jb (q0 (x6 3) x9)) (dC (.bl true))))))))
def Xv:List PV->Option PV:=b7 4 2 Wq
theorem sc_check_cloths:w9 ["cloths","hues","seen","cloth"] ["cloths","hues"] (j3 JI):=u8
theorem Di (F:Fun K "check_cloths" "check_cloths" JI f fd)(Ei:Fn P w K mg base 3 "is_cloth" ["thing","hues"] (v8 Xy))(Ao:Fn P w K mg base 1 "name_of" ["cloth"] (v8 jb))(Ad:mg "len"=none)(D3:mg "MOST_CLOTHS"=some (.int 10 D1)):FnOk P w K mg base v7 4 f fd ["cloths","hues"] (v8 Xv) :=
 r9 (k:=3) (b:=Wq) F sc_check_cloths rfl λcdv A outer s H E hr=>⟨_,(j7 (c8 (i4 (XL) (u7 (qf (K:=K) rfl) rfl Ad PySem.boot_len (aW (pv 0))) (vp (v:= .int 10) rfl D3 ⟨_,rfl⟩) (c7 _)) (j6 zt) m9)
  (j7 (sW 2 sc_check_cloths.nd Mu)
  (j6 (xp PassesOwn.never rfl (@c5 _ K _ _ _ rfl (pv 0)) (gW 3 sc_check_cloths.nd)
   (j7 (c8 (qG (qp (K:=K) rfl (fW Ei hr (aC (pv 3) (aW (pv 1)))) (λ_=>rfl))) (j6 zt) m9)
  (j7 (c8 (Gr (Mp (wf hr) (fW Ao hr (aW (pv 3))) (pv 2))) (j6 zt) m9)
  (j6 (MV (wf hr) (pv 2) (fW Ao hr (aW (pv 3))) xZ rfl)))))))),
  inferInstance⟩
abbrev JD:Stmt:=Qd (top 53) 1
abbrev Wl (Aa:Addr):MS:=(k8 (z0 xY (z6 o9 (q0 (zX Aa "least" (x6 0)) x9)) (dC (.int 1))))
def wo (Aa:Addr):List PV->Option PV:=b7 1 1 (Wl Aa)
theorem LE:w9 ["self"] ["self"] (j3 JD):=u8
theorem Dc (F:Fun K "hues" "Works.hues" JD f fd)(Ad:mg "len"=none)[zS K Aa][NoA K Aa "least"]:FnOk P w K mg base v7 1 f fd ["self"] (v8 (wo Aa)) :=
 r9 (k:=0) (b:=(Wl Aa)) F LE rfl λcdv A outer s H E hr=>⟨_,(j6 (u4 (u3 (vm) (u7 (qf (K:=K) rfl) rfl Ad PySem.boot_len (aW (XQ (K:=K) rfl (pv 0) rfl))) z7))),
  inferInstance⟩
abbrev JE:Stmt:=Qd (top 53) 6
abbrev Wm (Aa:Addr):MS:=(k8 (z6 Jm (q0 (zX Aa "held" (x6 0)) x9)))
def vh (Aa:Addr):List PV->Option PV:=zk 1 1 (Wm Aa)
theorem LG:w9 ["self"] ["self"] (j3 JE):=u8
theorem De (F:Fun K "names" "Works.names" JE f fd)(Ez:mg "sorted"=none)[zS K Aa][NoA K Aa "held"]:FnOk P w K mg base v7 1 f fd ["self"] (spO (vh Aa)) :=
 okO (k:=0) (b:=(Wm Aa)) F LG rfl λcdv A outer s H E hr=>⟨_,(j6 (u4 (u7 (BC (K:=K) rfl rfl) rfl Ez Bk (aW (XQ (K:=K) rfl (pv 0) rfl))))),
  inferInstance⟩
abbrev JC:Stmt:=Qd (top 53) 7
abbrev Wj (Aa:Addr):MS:=(y8 (p9 (dOr (n9 (m6 (z6 o8 (q0 (x8 1) (q0 (dC (.ty "str")) x9))))) (dT (Xd (x8 1) (zX Aa "held" (x6 0))))) qw m5)
  (k8 (Xc (zX Aa "held" (x6 0)) (x8 1))))
def vg (Aa:Addr):List PV->Option PV:=b7 2 2 (Wj Aa)
theorem LD:w9 ["self","name"] ["self","name"] (j3 JC):=u8
theorem Db (F:Fun K "cloth" "Works.cloth" JC f fd)(Ac:mg "isinstance"=none)(E6:mg "str"=none)[zS K Aa][NoA K Aa "held"]:FnOk P w K mg base v7 1 f fd ["self","name"] (v8 (vg Aa)) :=
 r9 (k:=0) (b:=(Wj Aa)) F LD rfl λcdv A outer s H E hr=>⟨_,(j7 (c8 (PW.pt (je (qG (qp (K:=K) rfl (u7 (xT (K:=K) rfl) rfl Ac xh (aC (pv 1) (aW (xP (v:= .ty "str") rfl E6 Ys rfl)))) (λ_=>rfl))) (vy (Gr (Mq (wf hr) (pv 1) (XQ (K:=K) rfl (pv 0) rfl)))))) (j6 zt) m9)
  (j6 (u4 (Jn (wf hr) (XQ (K:=K) rfl (pv 0) rfl) (pv 1) (λ_ _=>rfl))))),
  inferInstance⟩
abbrev JG:Stmt:=top 25
abbrev Wo (Aa:Addr):MS:=(y8 (p9 (n9 (m6 (z6 o8 (q0 (x8 1) (q0 (dC (.ty "list")) x9))))) (k8 (dC (.bl false))) m5)
  (y8 (i8 2 (zC Aa "names" (vh Aa) (x6 0) x9))
  (k8 (xJ (z6 xW (q0 (b8 [none,some 2] [0] (y9 (x6 1)) (v6 0) p6 (z0 (pIn false) (x8 0) (x8 1))) x9)) (z0 qi (YG (x8 1)) (z6 o9 (q0 (x8 1) x9)))))))
def Qi (Aa:Addr):List PV->Option PV:=b7 3 2 (Wo Aa)
theorem sc_are_names:w9 ["works","names","known"] ["works","names"] (j3 JG):=u8
theorem Dg (F:Fun K "are_names" "are_names" JG f fd)(As:mg "all"=none)(Ac:mg "isinstance"=none)(Ad:mg "len"=none)(Ai:mg "list"=none)(N2:mg "set"=none)(Am:Mt P w K mg base 1 Aa "names" ["self"] (spO (vh Aa))):FnOk P w K mg base v7 2 f fd ["works","names"] (v8 (Qi Aa)) :=
 r9 (k:=1) (b:=(Wo Aa)) F sc_are_names rfl λcdv A outer s H E hr=>⟨_,(j7 (c8 (qG (qp (K:=K) rfl (u7 (xT (K:=K) rfl) rfl Ac xh (aC (pv 1) (aW (xP (v:= .ty "list") rfl Ai jo rfl)))) (λ_=>rfl))) (j6 (u4 xZ)) m9)
  (j7 (sW 2 sc_are_names.nd (XS Am hr (by decide) (pv 0)))
  (j6 (u4 (zH (u7 (jT (K:=K) rfl rfl) rfl As jS (aW (qj (N':=["thing","known"]) (cap:=[none,some 2]) (c4 rfl rfl rfl) rfl (@c5 _ K _ _ _ rfl (pv 1)) (λ_ _ _ _ _ _=>(p8 (i:=0) (by show (["thing","known"]:List Str).Nodup;decide +kernel) rfl (Or.inl rfl))) (λ_ _ _ _ _ _=>i5) (λ_ _ _ _ _ _=>(zI (Ji (K:=K) rfl) (pv 0) (pv 1) (by with_unfolding_all rfl)))))) (zJ (zI (xV (K:=K) (qE hr) rfl) (u7 Bw rfl Ad PySem.boot_len (aW (wA (Bz (K:=K) rfl rfl) rfl N2 Bj (aW (pv 1))))) (u7 (qf (K:=K) rfl) rfl Ad PySem.boot_len (aW (pv 1))) (c7 _)))))))),
  inferInstance⟩
abbrev JW:Stmt:=top 26
abbrev WF (Aa:Addr):MS:=(k8 (xJ (z6 (Qi Aa) (q0 (x6 0) (q0 (x6 1) x9))) (z0 qi (z6 o9 (q0 (x8 1) x9)) (z6 o9 (q0 (zC Aa "names" (vh Aa) (x6 0) x9) x9)))))
def Ql (Aa:Addr):List PV->Option PV:=b7 2 2 (WF Aa)
theorem LR:w9 ["works","names"] ["works","names"] (j3 JW):=u8
theorem Dx (F:Fun K "is_plan" "is_plan" JW f fd)(Ec:Fn P w K mg base 2 "are_names" ["works","names"] (v8 (Qi Aa)))(Ad:mg "len"=none)(Am:Mt P w K mg base 1 Aa "names" ["self"] (spO (vh Aa))):FnOk P w K mg base v7 3 f fd ["works","names"] (v8 (Ql Aa)) :=
 r9 (k:=2) (b:=(WF Aa)) F LR rfl λcdv A outer s H E hr=>⟨_,(j6 (u4 (zH (fW Ec hr (aC (pv 0) (aW (pv 1)))) (zJ (zI (xV (K:=K) (qE hr) rfl) (u7 (qf (K:=K) rfl) rfl Ad PySem.boot_len (aW (pv 1))) (u7 (qf (K:=K) rfl) rfl Ad PySem.boot_len (aW (XS Am hr (by decide) (pv 0)))) (c7 _)))))),
  inferInstance⟩
abbrev JN:Stmt:=top 28
abbrev Wv (Aa:Addr):MS:=(k8 (b8 [none,some 0] [0] (y9 (x6 1)) (v6 0) p6 (zC Aa "cloth" (vg Aa) (x6 1) (q0 (x6 0) x9))))
def Qj (Aa:Addr):List PV->Option PV:=b7 2 2 (Wv Aa)
theorem LK:w9 ["works","tray"] ["works","tray"] (j3 JN):=u8
theorem Dn (F:Fun K "cloths_of" "cloths_of" JN f fd)(An:Mt P w K mg base 1 Aa "cloth" ["self","name"] (v8 (vg Aa))):FnOk P w K mg base v7 2 f fd ["works","tray"] (v8 (Qj Aa)) :=
 r9 (k:=1) (b:=(Wv Aa)) F LK rfl λcdv A outer s H E hr=>⟨_,(j6 (u4 (qj (N':=["name","works"]) (cap:=[none,some 0]) (c4 rfl rfl rfl) rfl (@c5 _ K _ _ _ rfl (pv 1)) (λ_ _ _ _ _ _=>(p8 (i:=0) (by show (["name","works"]:List Str).Nodup;decide +kernel) rfl (Or.inl rfl))) (λ_ _ _ _ _ _=>i5) (λ_ _ _ _ _ _=>(Gf An hr (by decide) (pv 1) (aW (pv 0))))))),
  inferInstance⟩
abbrev Vq:Stmt:=top 29
abbrev Yb (Aa:Addr):MS:=(k8 (z6 jx (q0 (zC Aa "cloth" (vg Aa) (x6 0) (q0 (z0 j8 (x8 1) (dC (.int 0))) x9)) x9)))
def jz (Aa:Addr):List PV->Option PV:=b7 2 2 (Yb Aa)
theorem Nd:w9 ["works","tray"] ["works","tray"] (j3 Vq):=u8
theorem DU (F:Fun K "tray_hue" "tray_hue" Vq f fd)(Ar:Fn P w K mg base 1 "hue_of" ["cloth"] (v8 jx))(An:Mt P w K mg base 1 Aa "cloth" ["self","name"] (v8 (vg Aa))):FnOk P w K mg base v7 2 f fd ["works","tray"] (v8 (jz Aa)) :=
 r9 (k:=1) (b:=(Yb Aa)) F Nd rfl λcdv A outer s H E hr=>⟨_,(j6 (u4 (fW Ar hr (aW (Gf An hr (by decide) (pv 0) (aW (iW (K:=K) rfl (pv 1) z7))))))),
  inferInstance⟩
abbrev JV:Stmt:=top 30
abbrev WE (Aa:Addr):MS:=(k8 (z6 xW (q0 (b8 [none,some 0,some 1] [0] (y9 (z6 (Qj Aa) (q0 (x6 0) (q0 (x6 1) x9)))) (v6 0) p6 (z0 qi (z6 jx (q0 (x6 0) x9)) (z6 (jz Aa) (q0 (x6 1) (q0 (x6 2) x9))))) x9)))
def Qk (Aa:Addr):List PV->Option PV:=b7 2 2 (WE Aa)
theorem LQ:w9 ["works","tray"] ["works","tray"] (j3 JV):=u8
theorem Dw (F:Fun K "is_of_one_hue" "is_of_one_hue" JV f fd)(Ee:Fn P w K mg base 2 "cloths_of" ["works","tray"] (v8 (Qj Aa)))(Ar:Fn P w K mg base 1 "hue_of" ["cloth"] (v8 jx))(At:Fn P w K mg base 2 "tray_hue" ["works","tray"] (v8 (jz Aa)))(As:mg "all"=none):FnOk P w K mg base v7 3 f fd ["works","tray"] (v8 (Qk Aa)) :=
 r9 (k:=2) (b:=(WE Aa)) F LQ rfl λcdv A outer s H E hr=>⟨_,(j6 (u4 (u7 (jT (K:=K) rfl rfl) rfl As jS (aW (qj (N':=["cloth","works","tray"]) (cap:=[none,some 0,some 1]) (c4 rfl rfl rfl) rfl (@c5 _ K _ _ _ rfl (fW Ee hr (aC (pv 0) (aW (pv 1))))) (λ_ _ _ _ _ _=>(p8 (i:=0) (by show (["cloth","works","tray"]:List Str).Nodup;decide +kernel) rfl (Or.inl rfl))) (λ_ _ _ _ _ _=>i5) (λ_ _ _ _ _ _=>(zI (xV (K:=K) (qE hr) rfl) (fW Ar hr (aW (pv 0))) (fW At hr (aC (pv 1) (aW (pv 2)))) (c7 _)))))))),
  inferInstance⟩
abbrev JF:Stmt:=top 31
abbrev Wn:MS:=(k8 (xJ (z6 o8 (q0 (x8 0) (q0 (dC (.ty "list")) x9))) (z6 xW (q0 (b8 [none] [0] (y9 (x6 0)) (v6 0) p6 (xJ (z6 o8 (q0 (x8 0) (q0 (dC (.ty "list")) x9))) (z0 pGt (z6 o9 (q0 (x8 0) x9)) (dC (.int 0))))) x9))))
def Xt:List PV->Option PV:=b7 1 1 Wn
theorem LH:w9 ["trays"] ["trays"] (j3 JF):=u8
theorem Df (F:Fun K "are_full_lists" "are_full_lists" JF f fd)(As:mg "all"=none)(Ac:mg "isinstance"=none)(Ad:mg "len"=none)(Ai:mg "list"=none):FnOk P w K mg base v7 1 f fd ["trays"] (v8 Xt) :=
 r9 (k:=0) (b:=Wn) F LH rfl λcdv A outer s H E hr=>⟨_,(j6 (u4 (zH (u7 (xT (K:=K) rfl) rfl Ac xh (aC (pv 0) (aW (xP (v:= .ty "list") rfl Ai jo rfl)))) (zJ (u7 (jT (K:=K) rfl rfl) rfl As jS (aW (qj (N':=["tray"]) (cap:=[none]) (c4 rfl rfl rfl) rfl (@c5 _ K _ _ _ rfl (pv 0)) (λ_ _ _ _ _ _=>(p8 (i:=0) (by show (["tray"]:List Str).Nodup;decide +kernel) rfl (Or.inl rfl))) (λ_ _ _ _ _ _=>i5) (λ_ _ _ _ _ _=>(zH (u7 (xT (K:=K) rfl) rfl Ac xh (aC (pv 0) (aW (xP (v:= .ty "list") rfl Ai jo rfl)))) (zJ (zI (XL) (u7 (qf (K:=K) rfl) rfl Ad PySem.boot_len (aW (pv 0))) z7 (c7 _)))))))))))),
  inferInstance⟩
abbrev JL:Stmt:=top 32
abbrev Wt (Aa:Addr):MS:=(y8 (p9 (dOr (n9 (m6 (z6 Xt (q0 (x6 1) x9)))) (n9 (m6 (z6 (Ql Aa) (q0 (x6 0) (q0 (Xe (x8 1)) x9)))))) qw m5)
  (p9 (n9 (m6 (z6 xW (q0 (b8 [none,some 0] [0] (y9 (x6 1)) (v6 0) p6 (z6 (Qk Aa) (q0 (x6 1) (q0 (x6 0) x9)))) x9)))) qw m5))
def vi (Aa:Addr):List PV->Option PV:=b7 2 2 (Wt Aa)
theorem LJ:w9 ["works","trays"] ["works","trays"] (j3 JL):=u8
theorem Dl (F:Fun K "check_trays" "check_trays" JL f fd)(Ay:Fn P w K mg base 1 "are_full_lists" ["trays"] (v8 Xt))(A3:Fn P w K mg base 3 "is_of_one_hue" ["works","tray"] (v8 (Qk Aa)))(Es:Fn P w K mg base 3 "is_plan" ["works","names"] (v8 (Ql Aa)))(As:mg "all"=none)(Eg:mg "sum"=none):FnOk P w K mg base v7 4 f fd ["works","trays"] (v8 (vi Aa)) :=
 r9 (k:=3) (b:=(Wt Aa)) F LJ rfl λcdv A outer s H E hr=>⟨_,(j7 (c8 (PW.pt (je (qG (qp (K:=K) rfl (fW Ay hr (aW (pv 1))) (λ_=>rfl))) (vy (qG (qp (K:=K) rfl (fW Es hr (aC (pv 0) (aW (Mz (K:=K) rfl rfl rfl Eg (aW (pv 1)))))) (λ_=>rfl)))))) (j6 zt) m9)
  (j6 (c8 (qG (qp (K:=K) rfl (u7 (jT (K:=K) rfl rfl) rfl As jS (aW (qj (N':=["tray","works"]) (cap:=[none,some 0]) (c4 rfl rfl rfl) rfl (@c5 _ K _ _ _ rfl (pv 1)) (λ_ _ _ _ _ _=>(p8 (i:=0) (by show (["tray","works"]:List Str).Nodup;decide +kernel) rfl (Or.inl rfl))) (λ_ _ _ _ _ _=>i5) (λ_ _ _ _ _ _=>(fW A3 hr (aC (pv 1) (aW (pv 0)))))))) (λ_=>rfl))) (j6 zt) m9))),
  inferInstance⟩
abbrev Zf:Stmt:=Qd (top 23) 0
theorem LC:w9 ["self","at"] ["self","at"] (j3 Zf):=u8
theorem Da {P:Program}{w:World}{K:Fg}{mg:Str->Option Value}{base:Heap}{f:Addr}{fd:FuncData}(F:Fun K "__init__" "NoMove.__init__" Zf f fd)(q:zR K C R fI=true)(hs:PySem.W.findIn K (.ref C) "__setattr__"=some (some (.builtin "object.__setattr__")))(hn:PySem.W.findIn K (.ref C) "at"=some none):FnOk P w K mg base v7 1 f fd ["self","at"] (wG C "at") :=
 okXI F LC rfl q hs hn λcdv A outer s H E=>⟨pv 0,pv 1,rfl⟩
abbrev Vm:Stmt:=top 33
abbrev WX:MS:=(y8 (xi (xn (q0 (x6 0) x9)) (qT 2 (m8 (v6 2) (m8 (v6 3) qS))) (p9 (dT (z0 (pIn false) (x8 1) (x8 3))) (k8 (x6 2)) m5))
  (k8 (dC .non)))
def Qq:List PV->Option PV:=b7 4 2 WX
theorem sc_place_of:w9 ["trays","name","place","tray"] ["trays","name"] (j3 Vm):=u8
theorem DO (F:Fun K "place_of" "place_of" Vm f fd)(Af:mg "enumerate"=none):FnOk P w K mg base v7 1 f fd ["trays","name"] (v8 Qq) :=
 r9 (k:=0) (b:=WX) F sc_place_of rfl λcdv A outer s H E hr=>⟨_,(j7 (xp PassesOwn.never rfl (Qy (K:=K) rfl rfl Af (aW (pv 0))) (vq (K:=K) (n:=2) rfl rfl (xD (gW 2 sc_place_of.nd) (xD (gW 3 sc_place_of.nd) vt)))
   (j6 (c8 (i4 (Ji (K:=K) rfl) (pv 1) (pv 3) (by with_unfolding_all rfl)) (j6 (u4 (pv 2))) m9)))
  (j6 (u4 XT))),
  inferInstance⟩
abbrev Vt:Stmt:=top 34
abbrev Yd:MS:=(k8 (b8 [none,some 1] [0] (y9 (x6 0)) (v6 0) (dT (z0 pNe (x8 0) (x8 1))) (x6 0)))
def Qs:List PV->Option PV:=zk 2 2 Yd
theorem Nf:w9 ["tray","name"] ["tray","name"] (j3 Vt):=u8
theorem DX (F:Fun K "tray_without" "tray_without" Vt f fd):FnOk P w K mg base v7 1 f fd ["tray","name"] (spO Qs) :=
 okO (k:=0) (b:=Yd) F Nf rfl λcdv A outer s H E hr=>⟨_,(j6 (u4 (qj (N':=["other","name"]) (cap:=[none,some 1]) (c4 rfl rfl rfl) rfl (@c5 _ K _ _ _ rfl (pv 0)) (λ_ _ _ _ _ _=>(p8 (i:=0) (by show (["other","name"]:List Str).Nodup;decide +kernel) rfl (Or.inl rfl))) (λ_ _ _ _ _ _=>(vx (i4 (jB (K:=K) (qE hr) rfl) (pv 0) (pv 1) (c7 _)))) (λ_ _ _ _ _ _=>(pv 0))))),
  inferInstance⟩
abbrev Vr:Stmt:=top 35
abbrev Yc:MS:=(y8 (vT 2 [none,some 1] [0] (y9 (x6 0)) (v6 0) p6 (z6 Qs (q0 (x6 0) (q0 (z0 j8 (x8 1) (dC (.int 0))) x9))) (z0 j8 (x8 1) (dC (.int 1))) (z0 j8 (x8 1) (dC (.int 0))))
  (k8 (jV [none] [0] (y9 (x8 2)) (v6 0) (m6 (x8 0)) (x6 0))))
def vj:List PV->Option PV:=b7 3 2 Yc
theorem sc_tray_moved:w9 ["trays","move","found"] ["trays","move"] (j3 Vr):=u8
theorem DV (F:Fun K "tray_moved" "tray_moved" Vr f fd)(A8:Fn P w K mg base 1 "tray_without" ["tray","name"] (spO Qs)):FnOk P w K mg base v7 2 f fd ["trays","move"] (v8 vj) :=
 r9 (k:=1) (b:=Yc) F sc_tray_moved rfl λcdv A outer s H E hr=>⟨_,(j7 (zu (i:=2) (N':=["tray","move"]) (cap:=[none,some 1]) (c4 rfl rfl rfl) rfl sc_tray_moved.nd rfl rfl (@c5 _ K _ _ _ rfl (pv 0)) (λ_ _ _ _ _ _=>(p8 (i:=0) (by show (["tray","move"]:List Str).Nodup;decide +kernel) rfl (Or.inl rfl))) (λ_ _ _ _ _ _=>i5) (λ_ _ _ _ _ _=>(fW A8 hr (aC (pv 0) (aW (iW (K:=K) rfl (pv 1) z7))))))
  (j7 (zb (zq (K:=K) rfl PySem.F.plainAttrs_list PySem.F.slot_list_append PySem.F.type_list_append vk (iW (K:=K) rfl (pv 2) (iW (K:=K) rfl (pv 1) z7)) (j9 (iW (K:=K) rfl (pv 1) z7) u6)))
  (j6 (u4 (qj (N':=["tray"]) (cap:=[none]) (c4 rfl rfl rfl) rfl (@c5 _ K _ _ _ rfl (pv 2)) (λ_ _ _ _ _ _=>(p8 (i:=0) (by show (["tray"]:List Str).Nodup;decide +kernel) rfl (Or.inl rfl))) (λ_ _ _ _ _ _=>(vx (qp (K:=K) rfl (pv 0) (λ_=>rfl)))) (λ_ _ _ _ _ _=>(pv 0))))))),
  inferInstance⟩
abbrev JY:Stmt:=top 36
abbrev WH (Aa:Addr):MS:=(y8 (i8 3 (z6 Qq (q0 (x6 1) (q0 (z0 j8 (x8 2) (dC (.int 0))) x9))))
  (y8 (i8 4 (z0 j8 (x8 2) (dC (.int 1))))
  (y8 (p9 (dOr (dT (z0 Qw (x8 3) (dC .non))) (dOr (dT (z0 qi (x8 3) (x8 4))) (n9 (dT (zV pLe pLt (dC (.int 0)) (x8 4) (z6 o9 (q0 (x8 1) x9))))))) (k8 (dC (.bl false))) m5)
  (k8 (z0 qi (z6 (jz Aa) (q0 (x6 0) (q0 (z0 j8 (x8 1) (x8 3)) x9))) (z6 (jz Aa) (q0 (x6 0) (q0 (z0 j8 (x8 1) (x8 4)) x9))))))))
def xU (Aa:Addr):List PV->Option PV:=b7 5 3 (WH Aa)
theorem sc_is_tray_move:w9 ["works","trays","move","at","to"] ["works","trays","move"] (j3 JY):=u8
theorem Dz (F:Fun K "is_tray_move" "is_tray_move" JY f fd)(Eh:Fn P w K mg base 1 "place_of" ["trays","name"] (v8 Qq))(At:Fn P w K mg base 2 "tray_hue" ["works","tray"] (v8 (jz Aa)))(Ad:mg "len"=none):FnOk P w K mg base v7 3 f fd ["works","trays","move"] (v8 (xU Aa)) :=
 r9 (k:=2) (b:=(WH Aa)) F sc_is_tray_move rfl λcdv A outer s H E hr=>⟨_,(j7 (sW 3 sc_is_tray_move.nd (fW Eh hr (aC (pv 1) (aW (iW (K:=K) rfl (pv 2) z7)))))
  (j7 (sW 4 sc_is_tray_move.nd (iW (K:=K) rfl (pv 2) z7))
  (j7 (c8 (PW.pt (je (i4 (Gb) (pv 3) XT (c7 _)) (je (i4 (xV (K:=K) (qE hr) rfl) (pv 3) (pv 4) (c7 _)) (vy (qG (Js (Qu) (XM) z7 (pv 4) (u7 (qf (K:=K) rfl) rfl Ad PySem.boot_len (aW (pv 1))))))))) (j6 (u4 xZ)) m9)
  (j6 (u4 (zI (xV (K:=K) (qE hr) rfl) (fW At hr (aC (pv 0) (aW (iW (K:=K) rfl (pv 1) (pv 3))))) (fW At hr (aC (pv 0) (aW (iW (K:=K) rfl (pv 1) (pv 4))))) (c7 _))))))),
  inferInstance⟩
abbrev Vs:Stmt:=top 37
abbrev QW (Aa:Addr):MS:=(y8 (zj (z6 (vi Aa) (q0 (x6 0) (q0 (x6 1) x9))))
  (y8 (i8 3 (b8 [none] [0] (y9 (x6 1)) (v6 0) p6 (z6 jd (q0 (x8 0) x9))))
  (y8 (xi (xn (q0 (x6 2) x9)) (qT 2 (m8 (v6 4) (m8 (v6 5) qS))) (y8 (p9 (n9 (m6 (z6 (xU Aa) (q0 (x6 0) (q0 (x6 3) (q0 (x6 5) x9)))))) qw m5)
  (i8 3 (z6 vj (q0 (x6 3) (q0 (x6 5) x9))))))
  (k8 (x6 3)))))
abbrev KM (Ab:Addr)(Aa:Addr):YM:=(wM false (zj (z6 (vi Aa) (q0 (x6 0) (q0 (x6 1) x9)))) yNo
  (wM false (i8 3 (b8 [none] [0] (y9 (x6 1)) (v6 0) p6 (z6 jd (q0 (x8 0) x9)))) yNo
  (wM false (xi (xn (q0 (x6 2) x9)) (qT 2 (m8 (v6 4) (m8 (v6 5) qS))) (y8 (p9 (n9 (m6 (z6 (xU Aa) (q0 (x6 0) (q0 (x6 3) (q0 (x6 5) x9)))))) qw m5)
  (i8 3 (z6 vj (q0 (x6 3) (q0 (x6 5) x9)))))) (yFor false (xn (q0 (x6 2) x9)) (qT 2 (m8 (v6 4) (m8 (v6 5) qS))) (y8 (p9 (n9 (m6 (z6 (xU Aa) (q0 (x6 0) (q0 (x6 3) (q0 (x6 5) x9)))))) qw m5)
  (i8 3 (z6 vj (q0 (x6 3) (q0 (x6 5) x9))))) (wM false (p9 (n9 (m6 (z6 (xU Aa) (q0 (x6 0) (q0 (x6 3) (q0 (x6 5) x9)))))) qw m5) (yIf (n9 (m6 (z6 (xU Aa) (q0 (x6 0) (q0 (x6 3) (q0 (x6 5) x9)))))) (VY Ab "at" (x6 4)) yNo)
  yNo))
  yNo)))
def jc (Aa:Addr):List PV->Option PV:=b7 6 3 (QW Aa)
def jH (Ab:Addr)(Aa:Addr):List PV->Addr->XV->Prop:=yFn 6 3 (KM Ab Aa)
theorem sc_tray_walked:w9 ["works","trays","moves","found","number","move"] ["works","trays","moves"] (j3 Vs):=u8
theorem DW (F:Fun K "tray_walked" "tray_walked" Vs f fd)(D5:Fn P w K mg base 4 "check_trays" ["works","trays"] (v8 (vi Aa)))(A6:Fn P w K mg base 3 "is_tray_move" ["works","trays","move"] (v8 (xU Aa)))(D8:Fn P w K mg base 2 "tray_moved" ["trays","move"] (v8 vj))(Af:mg "enumerate"=none)(Ai:mg "list"=none)(Ey:XMk P w K mg base 1 "NoMove" Ab "at"):FnOk P w K mg base (CX2 P w) 5 f fd ["works","trays","moves"] (wF (jc Aa) (jH Ab Aa)) :=
 okPY (k:=4) (b:=(QW Aa)) (xb:=(KM Ab Aa)) F sc_tray_walked rfl rfl λcdv A outer s H E hr=>⟨_,(j7 (zb (fW D5 hr (aC (pv 0) (aW (pv 1)))))
  (j7 (zu (i:=3) (N':=["tray"]) (cap:=[none]) (c4 rfl rfl rfl) rfl sc_tray_walked.nd rfl rfl (@c5 _ K _ _ _ rfl (pv 1)) (λ_ _ _ _ _ _=>(p8 (i:=0) (by show (["tray"]:List Str).Nodup;decide +kernel) rfl (Or.inl rfl))) (λ_ _ _ _ _ _=>i5) (λ_ _ _ _ _ _=>(wA (Zo (K:=K) rfl) rfl Ai jo (aW (pv 0)))))
  (j7 (xp PassesOwn.leaving rfl (Qy (K:=K) rfl rfl Af (aW (pv 2))) (vq (K:=K) (n:=2) rfl rfl (xD (gW 4 sc_tray_walked.nd) (xD (gW 5 sc_tray_walked.nd) vt)))
   (j7 (c8 (qG (qp (K:=K) rfl (fW A6 hr (aC (pv 0) (aC (pv 3) (aW (pv 5))))) (λ_=>rfl))) (j6 (MY rfl rfl Ey hr (by decide) rfl (j9 (pv 4) u6) NB)) m9)
  (j6 (sW 3 sc_tray_walked.nd (fW D8 hr (aC (pv 3) (aW (pv 5))))))))
  (j6 (u4 (pv 3)))))),
  inferInstance,inferInstance⟩
abbrev vA:Stmt:=Qd (top 53) 0
abbrev QV (Aa:Addr):MS:=(y8 (zD Aa "least" (z6 XC (q0 (x6 1) x9)))
  (y8 (zj (z6 Xx (q0 (x6 3) (q0 (x6 4) (q0 (vU Aa "hues" (wo Aa) 0 x9) x9)))))
  (y8 (zj (z6 Xv (q0 (x6 2) (q0 (vU Aa "hues" (wo Aa) 0 x9) x9))))
  (y8 (zD Aa "given" (b8 [none] [0] (y9 (x6 1)) (v6 0) p6 (z6 jd (q0 (x8 0) x9))))
  (y8 (zD Aa "held" (z6 Qv (q0 (b8 [none] [0] (y9 (x6 2)) (v6 0) p6 (t6 (q0 (z6 jb (q0 (x6 0) x9)) (q0 (x6 0) x9)))) x9)))
  (y8 (zD Aa "last" (dIf (dT (z0 Qw (x8 3) (dC .non))) (dUn xX (dC (.int 1))) (x6 3)))
  (zD Aa "time" (x6 4))))))))
def wp (Aa:Addr):List PV->Option PV:=wX 5 5 Aa (QV Aa)
theorem LF:w9 ["self","rinses","cloths","last","time"] ["self","rinses","cloths","last","time"] (j3 vA):=u8
theorem Dd (F:FunD K "__init__" "Works.__init__" vA f fd)(B7:Fn P w K mg base 4 "check_cloths" ["cloths","hues"] (v8 Xv))(B9:Fn P w K mg base 3 "check_start" ["last","time","hues"] (v8 Xx))(B0:Fn P w K mg base 4 "least_rinses" ["rinses"] (spO XC))(Ao:Fn P w K mg base 1 "name_of" ["cloth"] (v8 jb))(Ep:mg "dict"=none)(Ai:mg "list"=none)[zS K Aa][NoA K Aa "given"][NoA K Aa "held"][NoA K Aa "last"][NoA K Aa "least"][NoA K Aa "time"](A4:Mt P w K mg base 1 Aa "hues" ["self"] (v8 (wo Aa))):FnOk P w K mg base v7 5 f fd ["self","rinses","cloths","last","time"] (spI Aa (wp Aa)) :=
 okID (k:=4) (b:=QV Aa) F LF rfl (λcdv A outer s H E hr=>⟨_,(j7 (QE (K:=K) rfl (pv 0) (fW B0 hr (aW (pv 1))))
  (j7 (zb (fW B9 hr (aC (pv 3) (aC (pv 4) (aW (XS A4 hr (by decide) (pv 0)))))))
  (j7 (zb (fW B7 hr (aC (pv 2) (aW (XS A4 hr (by decide) (pv 0))))))
  (j7 (QE (K:=K) rfl (pv 0) (qj (N':=["row"]) (cap:=[none]) (c4 rfl rfl rfl) rfl (@c5 _ K _ _ _ rfl (pv 1)) (λ_ _ _ _ _ _=>(p8 (i:=0) (by show (["row"]:List Str).Nodup;decide +kernel) rfl (Or.inl rfl))) (λ_ _ _ _ _ _=>i5) (λ_ _ _ _ _ _=>(wA (Zo (K:=K) rfl) rfl Ai jo (aW (pv 0))))))
  (j7 (QE (K:=K) rfl (pv 0) (wA (Yt (K:=K) rfl rfl) rfl Ep Yq (aW (qj (N':=["cloth"]) (cap:=[none]) (c4 rfl rfl rfl) rfl (@c5 _ K _ _ _ rfl (pv 2)) (λ_ _ _ _ _ _=>(p8 (i:=0) (by show (["cloth"]:List Str).Nodup;decide +kernel) rfl (Or.inl rfl))) (λ_ _ _ _ _ _=>i5) (λ_ _ _ _ _ _=>(@qU _ _ _ _ _ (aC (fW Ao hr (aW (pv 0))) (aW (pv 0)))))))))
  (j7 (QE (K:=K) rfl (pv 0) (Ge (i4 (Gb) (pv 3) XT (c7 _)) (zK zP z7) (pv 3)))
  (j6 (QE (K:=K) rfl (pv 0) (pv 4))))))))),
  (by repeat' first|infer_instance|(refine @Mi.Nl _ _ _ _ ?_ ?_))⟩)
abbrev Vb:Stmt:=top 64
abbrev WK:MS:=(y8 (vT 3 [none,some 1] [0] (y9 (x6 0)) (v6 0) p6 (b8 [none,some 1] [0] (y9 (x6 0)) (v6 0) (dT (z0 pNe (x8 0) (x8 1))) (x6 0)) (x6 2) (x6 1))
  (k8 (jV [none] [0] (y9 (x8 3)) (v6 0) (dT (z0 pGt (z6 o9 (q0 (x8 0) x9)) (dC (.int 0)))) (x6 0))))
def XA:List PV->Option PV:=b7 4 3 WK
theorem sc_l_tray_moved:w9 ["trays","name","to","here"] ["trays","name","to"] (j3 Vb):=u8
theorem DC (F:Fun K "_law_tray_moved" "_law_tray_moved" Vb f fd)(Ad:mg "len"=none):FnOk P w K mg base v7 1 f fd ["trays","name","to"] (v8 XA) :=
 r9 (k:=0) (b:=WK) F sc_l_tray_moved rfl λcdv A outer s H E hr=>⟨_,(j7 (zu (i:=3) (N':=["tray","name"]) (cap:=[none,some 1]) (c4 rfl rfl rfl) rfl sc_l_tray_moved.nd rfl rfl (@c5 _ K _ _ _ rfl (pv 0)) (λ_ _ _ _ _ _=>(p8 (i:=0) (by show (["tray","name"]:List Str).Nodup;decide +kernel) rfl (Or.inl rfl))) (λ_ _ _ _ _ _=>i5) (λ_ _ _ _ _ _=>(qj (N':=["other","name"]) (cap:=[none,some 1]) (c4 rfl rfl rfl) rfl (@c5 _ K _ _ _ rfl (pv 0)) (λ_ _ _ _ _ _=>(p8 (i:=0) (by show (["other","name"]:List Str).Nodup;decide +kernel) rfl (Or.inl rfl))) (λ_ _ _ _ _ _=>(vx (i4 (jB (K:=K) (qE hr) rfl) (pv 0) (pv 1) (c7 _)))) (λ_ _ _ _ _ _=>(pv 0)))))
  (j7 (zb (zq (K:=K) rfl PySem.F.plainAttrs_list PySem.F.slot_list_append PySem.F.type_list_append vk (iW (K:=K) rfl (pv 3) (pv 2)) (j9 (pv 1) u6)))
  (j6 (u4 (qj (N':=["tray"]) (cap:=[none]) (c4 rfl rfl rfl) rfl (@c5 _ K _ _ _ rfl (pv 3)) (λ_ _ _ _ _ _=>(p8 (i:=0) (by show (["tray"]:List Str).Nodup;decide +kernel) rfl (Or.inl rfl))) (λ_ _ _ _ _ _=>(vx (i4 (XL) (u7 (qf (K:=K) rfl) rfl Ad PySem.boot_len (aW (pv 0))) z7 (c7 _)))) (λ_ _ _ _ _ _=>(pv 0))))))),
  inferInstance⟩
abbrev Vl:Stmt:=top 65
abbrev WW:MS:=(k8 (Zw (b8 [none,some 1] [0] (y9 (x6 0)) (v6 0) p6 (z0 (pIn false) (x8 1) (x8 0))) (dC (.bl true))))
def Qp:List PV->Option PV:=b7 2 2 WW
theorem Na:w9 ["trays","name"] ["trays","name"] (j3 Vl):=u8
theorem DN (F:Fun K "_law_place" "_law_place" Vl f fd):FnOk P w K mg base v7 1 f fd ["trays","name"] (v8 Qp) :=
 r9 (k:=0) (b:=WW) F Na rfl λcdv A outer s H E hr=>⟨_,(j6 (u4 (zq (K:=K) rfl PySem.F.plainAttrs_list PySem.F.slot_list_index PySem.F.type_list_index (CN (K:=K) rfl) (qj (N':=["tray","name"]) (cap:=[none,some 1]) (c4 rfl rfl rfl) rfl (@c5 _ K _ _ _ rfl (pv 0)) (λ_ _ _ _ _ _=>(p8 (i:=0) (by show (["tray","name"]:List Str).Nodup;decide +kernel) rfl (Or.inl rfl))) (λ_ _ _ _ _ _=>i5) (λ_ _ _ _ _ _=>(zI (Ji (K:=K) rfl) (pv 1) (pv 0) (by with_unfolding_all rfl)))) (j9 xZ u6)))),
  inferInstance⟩
abbrev Vx:Stmt:=top 66
abbrev Yg:MS:=(k8 (xJ (z6 o8 (q0 (x8 0) (q0 (dC (.ty "int")) x9))) (wY (z6 o8 (q0 (x8 0) (q0 (dC (.ty "bool")) x9))))))
def XG:List PV->Option PV:=b7 1 1 Yg
theorem Ni:w9 ["thing"] ["thing"] (j3 Vx):=u8
theorem Mb (F:Fun K "_law_whole" "_law_whole" Vx f fd)(Eo:mg "bool"=none)(E7:mg "int"=none)(Ac:mg "isinstance"=none):wQ P w K mg base 1 f fd ["thing"] (v8 XG) :=
 okPS (k:=0) (b:=Yg) F Ni rfl λcdv A outer s H=>⟨_,(j6 (u4 (zH (u7 (xT (K:=K) rfl) rfl Ac xh (aC (pv 0) (aW (xP (v:= .ty "int") rfl E7 Yr rfl)))) (zJ (Gg (u7 (xT (K:=K) rfl) rfl Ac xh (aC (pv 0) (aW (xP (v:= .ty "bool") rfl Eo Yp rfl))))))))),
  inferInstance⟩
abbrev s_at:Stmt:=top 67
abbrev r_at (K:Fg)(Ab:Addr)(Ak:Addr)(Al:Addr)(Ag:Addr)(Aa:Addr):RM:=(rSeq (rP (i8 3 (dUn xX (dC (.int 1)))))
  (rSeq (GG K Ag [Ab] 4 (zj (z6 (jc Aa) (q0 (x6 0) (q0 (x6 1) (q0 (x6 2) x9))))) (yX (KN (jH Ab Aa) (q0 (x6 0) (q0 (x6 1) (q0 (x6 2) x9)))))
   (λea c y dx=>(y8 (i8 3 (dUn xX (dC (.int 2))))
  (y8 (i8 5 (dOrV (z6 (vo K ea c) (q0 (zW ea y dx 4) (q0 (dC (.ref Ak)) x9))) (z6 (vo K ea c) (q0 (zW ea y dx 4) (q0 (dC (.ref Al)) x9)))))
  (p9 (jU (m6 (z6 (vo K ea c) (q0 (zW ea y dx 4) (q0 (dC (.ref Ab)) x9)))) (jU (m6 (z6 (vo K ea c) (q0 (zW ea y dx 4) (q0 (dC (.ty "ValueError")) x9)))) (n9 (m6 (x8 5))))) (p9 (m6 (z6 XG (q0 (vW ea y dx "at" 4) x9))) (i8 3 (vW ea y dx "at" 4)) m5) m5)))))
  (rP (k8 (x6 3)))))
theorem sc_at:w9 ["works","trays","moves","told","e","odd"] ["works","trays","moves"] (j3 s_at):=u8
abbrev JH:Stmt:=top 68
abbrev Wp:MS:=(y8 (i8 3 (z6 o9 (q0 (x8 1) x9)))
  (y8 (zl 4 (o6 (q0 (t6 (q0 (dC (.str "qx")) (q0 (dC (.int 0)) x9))) (q0 (t6 (q0 (dC (.str "")) (q0 (dC (.int 0)) x9))) (q0 (t6 (q0 (dC (.str "q")) (q0 (dUn xX (dC (.int 1))) x9))) x9)))))
  (y8 (xi (y9 (z0 j8 (x8 0) (dC (.int 1)))) (v6 5) (y8 (i8 6 (z6 Qp (q0 (x6 1) (q0 (z0 j8 (x8 5) (dC (.int 0))) x9))))
  (y8 (zl 4 (z0 vn (x8 4) (o6 (q0 (t6 (q0 (z0 j8 (x8 5) (dC (.int 0))) (q0 (x6 6) x9))) (q0 (t6 (q0 (z0 j8 (x8 5) (dC (.int 0))) (q0 (dUn xX (dC (.int 1))) x9))) (q0 (t6 (q0 (z0 j8 (x8 5) (dC (.int 0))) (q0 (x6 3) x9))) (q0 (t6 (q0 (z0 j8 (x8 5) (dC (.int 0))) (q0 (z0 xY (dUn xX (dC (.int 1))) (x8 2)) x9))) x9)))))))
  (y8 (zl 4 (z0 vn (x8 4) (o6 (q0 (t6 (q0 (z0 j8 (x8 5) (dC (.int 0))) (q0 (z0 qt (x8 3) (x8 2)) x9))) (q0 (t6 (q0 (z0 j8 (x8 5) (dC (.int 0))) (q0 (z0 xY (x8 6) (x8 3)) x9))) x9)))))
  (xi (xn (q0 (x6 1) x9)) (qT 2 (m8 (v6 7) (m8 (v6 8) qS))) (p9 (dT (z0 pNe (b8 [none,some 8] [0] (y9 (z0 j8 (x8 0) (dC (.int 1)))) (v6 0) (dT (z0 qi (z0 j8 (x8 0) (dC (.int 0))) (z0 j8 (x8 1) (dC (.int 0))))) (z0 j8 (x8 0) (dC (.int 1)))) (o6 (q0 (z0 j8 (x8 5) (dC (.int 1))) x9)))) (wW 4 (t6 (q0 (z0 j8 (x8 5) (dC (.int 0))) (q0 (x6 7) x9)))) m5))))))
  (dFz 4 (k8 (x6 4))))))
def Xu:List PV->Option PV:=b7 9 3 Wp
theorem sc_bad:w9 ["parts","trays","far","many","found","cloth","place","k","tray"] ["parts","trays","far"] (j3 JH):=u8
theorem Dh (F:Fun K "_law_bad" "_law_bad" JH f fd)(Ic:Fn P w K mg base 1 "_law_place" ["trays","name"] (v8 Qp))(Af:mg "enumerate"=none)(Ad:mg "len"=none):FnOk P w K mg base v7 2 f fd ["parts","trays","far"] (v8 Xu) :=
 r9 (k:=1) (b:=Wp) F sc_bad rfl λcdv A outer s H E hr=>⟨_,(j7 (sW 3 sc_bad.nd (u7 (qf (K:=K) rfl) rfl Ad PySem.boot_len (aW (pv 1))))
  (j7 (sW 4 sc_bad.nd (@qL _ _ _ _ (aC (@qU _ _ _ _ _ (aC xc (aW z7))) (aC (@qU _ _ _ _ _ (aC xc (aW z7))) (aW (@qU _ _ _ _ _ (aC xc (aW (zK zP z7)))))))))
  (j7 (xp PassesOwn.never rfl (@c5 _ K _ _ _ rfl (iW (K:=K) rfl (pv 0) z7)) (gW 5 sc_bad.nd)
   (j7 (sW 6 sc_bad.nd (fW Ic hr (aC (pv 1) (aW (iW (K:=K) rfl (pv 5) z7)))))
  (j7 (sW 4 sc_bad.nd (u3 (qZ (K:=K) rfl) (pv 4) (@qL _ _ _ _ (aC (@qU _ _ _ _ _ (aC (iW (K:=K) rfl (pv 5) z7) (aW (pv 6)))) (aC (@qU _ _ _ _ _ (aC (iW (K:=K) rfl (pv 5) z7) (aW (zK zP z7)))) (aC (@qU _ _ _ _ _ (aC (iW (K:=K) rfl (pv 5) z7) (aW (pv 3)))) (aW (@qU _ _ _ _ _ (aC (iW (K:=K) rfl (pv 5) z7) (aW (u3 (vm) (zK zP z7) (pv 2))))))))))))
  (j7 (sW 4 sc_bad.nd (u3 (qZ (K:=K) rfl) (pv 4) (@qL _ _ _ _ (aC (@qU _ _ _ _ _ (aC (iW (K:=K) rfl (pv 5) z7) (aW (u3 (qZ (K:=K) rfl) (pv 3) (pv 2))))) (aW (@qU _ _ _ _ _ (aC (iW (K:=K) rfl (pv 5) z7) (aW (u3 (vm) (pv 6) (pv 3))))))))))
  (j6 (xp PassesOwn.never rfl (Qy (K:=K) rfl rfl Af (aW (pv 1))) (vq (K:=K) (n:=2) rfl rfl (xD (gW 7 sc_bad.nd) (xD (gW 8 sc_bad.nd) vt)))
   (j6 (c8 (i4 (jB (K:=K) (qE hr) rfl) (qj (N':=["other","tray"]) (cap:=[none,some 8]) (c4 rfl rfl rfl) rfl (@c5 _ K _ _ _ rfl (iW (K:=K) rfl (pv 0) z7)) (λ_ _ _ _ _ _=>(p8 (i:=0) (by show (["other","tray"]:List Str).Nodup;decide +kernel) rfl (Or.inl rfl))) (λ_ _ _ _ _ _=>(vx (i4 (xV (K:=K) (qE hr) rfl) (iW (K:=K) rfl (pv 0) z7) (iW (K:=K) rfl (pv 1) z7) (c7 _)))) (λ_ _ _ _ _ _=>(iW (K:=K) rfl (pv 0) z7))) (@qL _ _ _ _ (aW (iW (K:=K) rfl (pv 5) z7))) (c7 _)) (j6 (zb (zq (K:=K) rfl PySem.F.plainAttrs_list PySem.F.slot_list_append PySem.F.type_list_append vk (pv 4) (j9 (@qU _ _ _ _ _ (aC (iW (K:=K) rfl (pv 5) z7) (aW (pv 7)))) u6)))) m9))))))))
  (j6 (u4 (pv 4)))))),
  inferInstance⟩
theorem VR (n:Int):jy [.at (.int n)]=some (.at (.bl true)):=i9 rfl (i0 (zE (v9 rfl Us) (Ua (v:=false) (v9 rfl Ut))))
theorem Hg (n k:Int):zG [.at (.int n),.at (.int k)]=some (.at (.bl (decide (k<=n)))):=i9 rfl (i0 (zE (v9 rfl (VR n)) rfl))
theorem QN {n k:Int}(h:k<=n):zG [.at (.int n),.at (.int k)]=some (.at (.bl true)):=(Hg n k).trans (by rw [yz h])
theorem Hl {s:Str}(h:vJ s):Xz [.at (.str s)]=some (.at (.bl true)):=by
 have hl:lim=1000000:=rfl;have l1:=h.one;have l8:=h.eight;have ln:o9 [.at (.str s)]=some (.at (.int s.length)):=if_pos (by omega);refine i9 rfl (k9 (qC (zY (qO (qK (v9 rfl Uv))) (qO (h8 (ZD (r:=true) rfl (v9 rfl ln) ?_ rfl ?_)))) xj) (i0 (v9 (w4 (qy (λc:Nat=>PV.at (.str ⟨#[c]⟩)) (λ_=>PV.at (.bl true)) s.cps.toList rfl rfl ?_ ?_) rfl) (jQ _))))
 ·show some (PV.at (.bl (decide ((1:Int)<=(s.length:Int)))))=_;rw [yz (by omega)]
 ·show some (PV.at (.bl (decide ((s.length:Int)<=8))))=_;rw [yz (by omega)]
 ·have:s.cps.toList.length=s.length:=by simp [Str.length]
  omega
 ·intro c hc;obtain ⟨c1,c2⟩:=h.low c hc;refine ⟨_,rfl,ZD rfl rfl ?_ rfl ?_⟩
  ·show some (PV.at (.bl (!decide ([c]<("a":Str).cps.toList))))=_;have e:¬ ([c]<[97]):=by rw [List.cons_lt_cons_iff];simp;omega
   rw [show ("a":Str).cps.toList=[97] by decide +kernel,yH e];rfl
  ·show some (PV.at (.bl (!decide (("z":Str).cps.toList<[c]))))=_;have e:¬ ([122]<[c]):=by rw [List.cons_lt_cons_iff];simp;omega
   rw [show ("z":Str).cps.toList=[122] by decide +kernel,yH e];rfl
theorem Hj (ok:c.Ok h):Xy [c.pv,.at (.int h)]=some (.at (.bl true)):=by refine i9 rfl (k9 (qC (zY (qO (qK (v9 rfl PY))) (h8 (v:=false) rfl)) xj) (k9 (qC (zY (qO (qK (v9 (w4 (v9 rfl rfl) rfl) (Hl ok.nm)))) (zY (qO (qK (v9 (w4 (v9 rfl rfl) rfl) (QN (n:=(c.hue:Int)) (k:=0) (by omega))))) (h8 (v:=false) (w6 (v9 rfl rfl) rfl ?_)))) xj) (i0 (zE (v9 (w4 (v9 rfl rfl) rfl) (QN ok.l1)) (zE (v9 (w4 (v9 rfl rfl) rfl) (VR _)) (v9 (w4 (v9 rfl rfl) rfl) (QN ok.w1)))))));show some (PV.at (.bl (decide ((h:Int)<=(c.hue:Int)))))=_;have:=ok.hu;rw [yH (by omega)]
theorem He {l t:Int}(h1:-1<=l)(h2:l<(h:Int))(h3:0<=t):Xx [.at (.int l),.at (.int t),.at (.int h)]=some (.at .non):=by refine Xk rfl (k9 (qC (Xb (v:=false) (h8 (v:=true) rfl) (qO (Xb (v:=true) (qK (v9 rfl (QN h1))) (h8 (v:=true) ?_)))) xj) (qC (qO (qK (v9 rfl (QN h3)))) xj));show some (PV.at (.bl (decide (l<(h:Int)))))=_;rw [yz h2]
def keysOf (cs:List Cl):List j4:=cs.map λc=>Sum.inr c.name
theorem UK {x:Str}{α:Type}(f:Cl->PV):∀{cs:List Cl},x∉cs.map Cl.name->qF (.inr x) (keysOf cs) (cs.map f)=none
 |[],_=>rfl
 |c::cs,h=>by
  rw [yK] at h;show (if (Sum.inr c.name:j4) = .inr x then _ else qF (.inr x) (keysOf cs) (cs.map f))=_;rw [if_neg (λe=>h (by injection e with e;rw [e];exact yQ)),UK (α:=α) f λz=>h (yR _ z)]
theorem UJ (f:Cl->PV):∀{cs:List Cl},(cs.map Cl.name).Nodup->∀ c∈cs,qF (.inr c.name) (keysOf cs) (cs.map f)=some (f c)
 |[],_,_,h=>nomatch h
 |d::cs,nd,c,h=>by
  rw [yK] at nd;have nd':=yt.mp nd;show (if (Sum.inr d.name:j4) = .inr c.name then some (f d) else qF (.inr c.name) (keysOf cs) (cs.map f))=_;rcases yM.mp h with rfl|h
  ·rw [if_pos rfl]
  ·rw [if_neg (λe=>nd'.1 (by injection e with e;rw [e];exact yr.mpr ⟨c,h,rfl⟩)),UJ f nd'.2 c h]
theorem NY {cls:List Cl}(hok:∀ c∈cls,c.Ok h)(nd:(cls.map Cl.name).Nodup)(ten:cls.length<=10):Xv [.lst (cls.map Cl.pv),.at (.int h)]=some (.at .non):=by
 have hl:lim=1000000:=rfl;refine Xk rfl (k9 (qC (h8 (v:=false) (w6 (v9 rfl rfl) rfl ?_)) xj) (k9 (wc rfl) (jr rfl (Xs Cl.pv (λl ε=>∃(done:List Cl)(s3:MSlot),done++l=cls/\ε=[.sh (.lst (cls.map Cl.pv)),.sh (.at (.int h)),.ow (.dk (keysOf done) (done.map λ_=>PV.at (.bl true))),s3]) ?_ cls _ ⟨[],.no,rfl,rfl⟩).choose_spec.1)))
 ·show some (PV.at (.bl (decide ((10:Int)<((cls.map Cl.pv).length:Int)))))=_;rw [yZ,yH (by omega)]
 ·rintro c l ε ⟨done,s3,e,rfl⟩;have hc:c∈cls:=by rw [<- e];exact yv _ yQ
  have hn:c.name∉done.map Cl.name:=λz=>by
   rw [<- e,yw,yK] at nd;exact (List.nodup_append.mp nd).2.2 _ z _ yQ rfl
  have ln:=UK (α:=Unit) (λ_=>PV.at (.bl true)) hn;have hd:done.length<=10:=by rw [<- e] at ten;rw [yL] at ten;omega
  refine ⟨_,_,rfl,k9 (qC (qO (qK (v9 rfl (Hj (hok c hc))))) xj) (k9 (qC (h8 (v:=false) ?_) xj) ?_),done++[c],.sh c.pv,by rw [<- e,uS];rfl,rfl⟩
  ·show some (PV.at (.bl (qF (.inr c.name) (keysOf done) (done.map λ_=>PV.at (.bl true))).isSome))=_;rw [ln];rfl
  ·show (if (keysOf done).length<=lim then some (Out.nx [_,_,.ow (XZ (.inr c.name) (.at (.bl true)) (keysOf done) (done.map λ_=>PV.at (.bl true))),_]) else none)=_;unfold XZ;rw [if_pos (by unfold keysOf;rw [yZ];omega),ln];simp only [Option.isSome_none,uw,if_false];unfold keysOf;rw [yw,yw];rfl
def jZ (n:Int):PV:= .at (.int n)
def xE (r:List Int):PV:= .lst (r.map jZ)
def wyP (w:Wy):PV:= .tup [.at (.int w.1),.lst (w.2.map jZ)]
def qH (ws:List Wy):PV:= .lst (ws.map wyP)
theorem Hy (hl:r.length=h)(h4:h<=4)(hv:∀ v∈r,0<=v):Qm [xE r,.at (.int h)]=some (.at (.bl true)):=by
 have hlim:lim=1000000:=rfl;refine i9 rfl (k9 (qC (zY (qO (qK (v9 rfl ZO))) (h8 (v:=false) (w6 (v9 rfl rfl) rfl ?_))) xj) (i0 (v9 (w4 (qy jZ (λ_=>PV.at (.bl true)) r rfl rfl (by omega) λv hvm=>?_) rfl) (jQ _))))
 ·show (peq 6 (.at (.int ((r.map jZ).length:Int))) (.at (.int (h:Int)))).bind _=_;rw [yZ,hl];exact Jk (x:= .at (.int (h:Int))) rfl
 ·refine ⟨_,rfl,zE (v9 rfl (VR v)) ?_⟩;show some (PV.at (.bl (decide ((0:Int)<=v))))=_;rw [yz (hv v hvm)]
theorem NZ (G:xl h rss)(h1:1<=h)(h4:h<=4):Xw [qk rss]=some (.at .non):=by
 have hlim:lim=1000000:=rfl;have hlen:=G.len;have eh:((rss.map xE).length:Int)-1=(h:Int):=by rw [yZ,hlen];omega
 have step:∀(k:Int),k=(h:Int)->y8 (p9 (n9 (dT (zV pLe pLe (dC (.int 1)) (x8 1) (dC (.int 4))))) qw m5)
  (p9 (n9 (m6 (z6 xW (q0 (b8 [none,some 1] [0] (y9 (x6 0)) (v6 0) p6 (z6 Qm (q0 (x6 0) (q0 (x6 1) x9)))) x9)))) qw m5) [.sh (qk rss),.sh (.at (.int k))]=some (.nx [.sh (qk rss),.sh (.at (.int k))]):=by
  rintro k rfl;refine k9 (qC (qO (h8 (ZD (r:=true) rfl rfl ?_ rfl ?_))) xj) (qC (qO (qK (v9 (w4 (qy xE (λ_=>PV.at (.bl true)) rss rfl rfl (by omega) λr hr=>⟨_,rfl,v9 rfl (Hy (G.row r hr).1 h4 λv hv=>((G.row r hr).2 v hv).1)⟩) rfl) (jQ _)))) xj)
  ·show some (PV.at (.bl (decide ((1:Int)<=(h:Int)))))=_;rw [yz (by omega)]
  ·show some (PV.at (.bl (decide ((h:Int)<=4))))=_;rw [yz (by omega)]
 exact Xk rfl (k9 (qC (qO (qK (v9 rfl ZO))) xj) (k9 (qD rfl) (step _ eh)))
theorem YT {α:Type}(f:α->PV):∀(l:List α)(n:Nat),r6 n (l.map f)=(l.zipIdx n).map λp=>PV.tup [.at (.int ((p.2:Nat):Int)),f p.1]
 |[],_=>rfl
 |x::l,n=>by
  rw [yK,List.zipIdx_cons,yK];show PV.tup [.at (.int n),f x]::r6 (n+1) (l.map f)=_;rw [YT f l (n+1)]
theorem Hz (h:r.length<=4):Qr [xE r]=some (qH (zw r)):=by
 have hlim:lim=1000000:=rfl;refine wa rfl (i0 ?_);have e:=qy (cap:=[none,none]) (ts:=[0,1]) (it:=xn (q0 (x6 0) x9)) (g:=qT 2 (m8 (v6 0) (m8 (v6 1) qS))) (f:=t6 (q0 (x6 1) (q0 (o6 (q0 (x6 0) x9)) x9))) (ε:=[.sh (xE r)])
  (λp:Int×Nat=>PV.tup [.at (.int ((p.2:Nat):Int)),jZ p.1]) (λp:Int×Nat=>wyP (p.1,[(p.2:Int)])) (r.zipIdx 0) (by show some (r6 0 (r.map jZ))=_;rw [YT]) rfl (by rw [List.length_zipIdx];omega) λp _=>⟨_,rfl,rfl⟩
 refine e.trans ?_;unfold qH zw;rw [List.mapIdx_eq_zipIdx_map,yi];rfl
theorem Hm {a b:Wy}(h:a.2.length+b.2.length<=1000):Qn [wyP a,wyP b]=some (wyP (zn a b)):=by have hlim:lim=1000000:=rfl;refine i9 rfl (i0 (Qb (w4 (w6 rfl rfl rfl) (w4 (w6 rfl rfl (Jj (by rw [yZ,yZ];omega))) rfl)) (by first|decide|(show 1<=lim;decide)|(show 2<=lim;decide)|(show 3<=lim;decide))) |>.trans ?_);unfold wyP zn;rw [yw]
theorem Hq (a b:Wy):Qo [wyP a,wyP b]=some (wyP (zF a b)):=by
 unfold zF;by_cases h:b.1<a.1
 ·rw [if_pos h];exact i9 rfl (i0 (Pd (h8 (v:=true) (w6 rfl rfl (show some (PV.at (.bl (decide (b.1<a.1))))=_ by rw [yz h]))) rfl))
 ·rw [if_neg h];exact i9 rfl (i0 (YY (h8 (v:=false) (w6 rfl rfl (show some (PV.at (.bl (decide (b.1<a.1))))=_ by rw [yH h]))) rfl))
theorem KQ {α β:Type}(f:α->PV)(g:β->PV):∀(l:List α)(m:List β),xv (l.map f) (m.map g)=(l.zip m).map λp=>PV.tup [f p.1,g p.2]
 |[],_=>by cases ‹List β›<;>rfl
 |_::_,[]=>rfl
 |x::l,y::m=>by
  show PV.tup [f x,g y]::xv (l.map f) (m.map g)=_;rw [KQ f g l m];rfl
theorem KR {α β γ:Type}(f:α->β->γ):∀(l:List α)(m:List β),List.zipWith f l m=(l.zip m).map λp=>f p.1 p.2
 |[],_=>by simp
 |_::_,[]=>rfl
 |x::l,y::m=>by
  show f x y::List.zipWith f l m=_;rw [KR f l m];rfl
theorem HB {k:Nat}(hk:k<ws.length)(h4:ws.length<=4)(l1:∀ w∈ws,w.2.length<=100)(l2:∀ w∈onw,w.2.length<=100):wq [qH ws,.at (.int (k:Int)),qH onw]=some (qH (thr ws k onw)):=by
 have hlim:lim=1000000:=rfl;have hg:ws.getD k (0,[])=ws[k]:=qo hk;have hw:=yj hk;refine wa rfl (i0 ?_);have e:=qy (cap:=[none,none,some 0,some 1]) (ts:=[0,1]) (it:=dZip (q0 (x6 0) (q0 (x6 2) x9))) (g:=qT 2 (m8 (v6 0) (m8 (v6 1) qS))) (f:=z6 Qo (q0 (x6 0) (q0 (z6 Qn (q0 (z0 j8 (x8 2) (x8 3)) (q0 (x6 1) x9))) x9))) (ε:=[.sh (qH ws),.sh (.at (.int (k:Int))),.sh (qH onw)])
  (λp:Wy×Wy=>PV.tup [wyP p.1,wyP p.2]) (λp:Wy×Wy=>wyP (zF p.1 (zn ws[k] p.2))) (ws.zip onw) (by show some (xv (ws.map wyP) (onw.map wyP))=_;rw [KQ]) rfl (by rw [List.length_zip];omega) λp hp=>⟨_,rfl,v9 (w4 rfl (w4 (v9 (w4 (w6 rfl rfl (xS (v:=wyP ws[k]) (by rw [yO,yN hk];rfl))) (w4 rfl rfl)) (Hm (by
   have q1:=l1 _ hw;have q2:=l2 p.2 (List.of_mem_zip hp).2;omega))) rfl)) (Hq _ _)⟩
 refine e.trans ?_;unfold qH thr;rw [hg,KR,yi];rfl
theorem HG {k:Nat}(G:xl h rss)(hk:k<=h)(h4:h<=4):∀ r∈o3 rss k,∀ w∈r,w.2.length<=100:=by
 intro r hr w hw;have S:=Shp.all G k hk;have F:=FW.all G k hk;obtain ⟨f,hf,rfl⟩:=uG hr;obtain ⟨g,hg,rfl⟩:=uG hw;have hf':f<=h:=by have:=S.len;omega
 have hg':g<h:=by rw [<- S.row _ hr];exact hg
 have e:u5 (o3 rss k) f g=(o3 rss k)[f][g]:=by unfold u5;rw [qo hf,qo hg]
 have q:=F.len f g hf' hg';rw [e] at q;have:2 ^ k<=2 ^ 4:=Nat.pow_le_pow_right (by decide) (by omega);omega
def QL (T:List (List Wy)):PV:= .lst (T.map qH)
theorem Ho (G:xl h rss)(h1:1<=h)(h4:h<=4):XE [qk rss]=some (QL (o3 rss h)):=by
 have hlim:lim=1000000:=rfl;have hlimI:(lim:Int)=1000000:=rfl;have hlen:=G.len;have st:b8 [none] [0] (y9 (x6 0)) (v6 0) p6 (z6 Qr (q0 (x6 0) x9)) [.sh (qk rss),.no,.no,.no]=some (QL (o3 rss 0)):=by refine (qy xE (λr=>qH (zw r)) rss rfl rfl (by omega) λr hr=>⟨_,rfl,v9 rfl (Hz (by rw [(G.row r hr).1];exact h4))⟩).trans ?_;show _=some (PV.lst ((rss.map zw).map qH));rw [yi];rfl
 have rg:jq (q0 (z0 xY (z6 o9 (q0 (x8 0) x9)) (dC (.int 1))) x9) [.sh (qk rss),.sh (QL (o3 rss 0)),.no,.no]=some ((List.range h).map λ(i:Nat)=>PV.at (.int ((0:Int)+i))):=by refine Ze (k:=h) (w4 (w6 (v9 rfl rfl) rfl ?_) rfl) (by omega);show some (PV.at (.int (((rss.map xE).length:Int)-1)))=_;rw [yZ,hlen,show ((h+1:Nat):Int)-1=(h:Int) by omega]
 have lp:=Xs (g:=v6 2) (f:=y8 (i8 3 (z0 j8 (x8 1) (x8 2))) (i8 1 (b8 [none,some 2,some 3] [0] (y9 (x6 1)) (v6 0) p6 (z6 wq (q0 (x6 0) (q0 (x6 1) (q0 (x6 2) x9)))))))
  (λ(i:Nat)=>PV.at (.int ((0:Int)+i))) (λl ε=>∃(k:Nat)(s2 s3:MSlot),l=(List.range h).drop k/\k<=h/\ε=[.sh (qk rss),.sh (QL (o3 rss k)),s2,s3]) (by
   rintro i l ε ⟨k,s2,s3,el,hk,rfl⟩;have hkl:k<h:=by
    have e5:(i::l).length=((List.range h).drop k).length:=by rw [<- el]
    rw [List.length_drop,List.length_range,yC] at e5;omega
   have ei:i=k:=by
    have:((List.range h).drop k)[0]?=some i:=by rw [<- el];rfl
    rw [List.getElem?_drop,List.getElem?_range (by omega)] at this;simpa using this.symm
   have er:l=(List.range h).drop (k+1):=by
    have:((List.range h).drop k).tail=l:=by rw [<- el];rfl
    rw [<- this,List.tail_drop]
   subst ei;have S:=Shp.all G i hk;have hT:i<(o3 rss i).length:=by rw [S.len];omega
   have gD:(o3 rss i).getD i []=(o3 rss i)[i]:=qo hT;have wl:=HG G hk h4;refine ⟨_,_,rfl,k9 (qD (x:=qH (o3 rss i)[i]) (w6 rfl rfl ?_)) (qD (x:=QL (o3 rss (i+1))) ?_),i+1,_,_,er,hkl,rfl⟩
   ·show atI ((o3 rss i).map qH) (0+(i:Int))=_;rw [Int.zero_add];exact xS (by rw [yO,yN hT];rfl)
   ·refine (qy qH (λrow=>qH (thr row i (o3 rss i)[i])) (o3 rss i) rfl rfl (by rw [S.len];omega) λrow hr=>⟨_,rfl,v9 rfl ?_⟩).trans ?_
    ·show wq [qH row,.at (.int (0+(i:Int))),qH (o3 rss i)[i]]=_;rw [Int.zero_add];exact HB (by rw [S.row row hr];exact hkl) (by rw [S.row row hr];exact h4) (wl row hr) (wl _ (yj hT))
    ·show _=some (PV.lst ((qP (o3 rss i) i).map qH));unfold qP;rw [yi,gD];rfl) (List.range h) _ ⟨0,.no,.no,rfl,uZ _,rfl⟩
 obtain ⟨ε',e',k,s2,s3,el,hk,rfl⟩:=lp;have ek:k=h:=by have:=congrArg List.length el;rw [List.length_drop,List.length_range] at this;simp at this;omega
 subst ek;exact i9 rfl (k9 (qD st) (k9 (jr rg e') (i0 rfl)))
theorem HA (h4:ws.length<=4):XF [qH ws]=some (xE (ws.map (·.1))):=by have hlim:lim=1000000:=rfl;refine wa rfl (i0 ((qy wyP (λw=>jZ w.1) ws rfl rfl (by omega) λw _=>⟨_,rfl,rfl⟩).trans ?_));unfold xE;rw [yi];rfl
theorem Hn (G:xl h rss)(h1:1<=h)(h4:h<=4):XC [qk rss]=some (qk (vf rss h)):=by have hlim:lim=1000000:=rfl;have S:=Shp.all G h (yS _);refine wa rfl (k9 (vZ (v9 rfl (NZ G h1 h4))) (i0 ((qy qH (λws=>xE (ws.map (·.1))) (o3 rss h) (js (v9 rfl (Ho G h1 h4))) rfl (by rw [S.len];omega) λws hw=>⟨_,rfl,v9 rfl (HA (by rw [S.row ws hw];exact h4))⟩).trans ?_)));show _=some (PV.lst ((vf rss h).map xE));unfold vf;rw [yi];rfl
def Dr.low (d:Dr):List (List Int):=vf d.rss d.h
def Pk:List Str:=["least","given","held","last","time"]
def Dr.ob (C:Addr)(d:Dr):PV:= .ob C Pk [qk d.low,qk d.rss,.fk (keysOf d.cls) (d.cls.map Cl.pv),.at (.int d.last),.at (.int d.time)]
def Dr.names (d:Dr):List Str:=d.cls.map Cl.name
section
variable {C:Addr}{d:Dr}
theorem Pa {i:Nat}{x:PV}(h1:a ε=some x)(h2:ε[i]?=some (.ow (.lst xs)))(h3:xs.length<=lim):wW i a ε=some (.nx (ε.set i (.ow (.lst (xs++[x]))))):=by unfold wW;rw [h1];show (match ε[i]? with|some (.ow (.lst xs))=>if xs.length<=lim then some (Out.nx (ε.set i (.ow (.lst (xs++[x]))))) else none|_=>none)=_;rw [h2];exact if_pos h3
theorem Pb {b:M}{z:PV}{k:j4}(h1:a ε=some (.fk ks xs))(h2:b ε=some y)(h3:zo y=some k)(h4:qF k ks xs=some z):Xc a b ε=some z:=by unfold Xc;rw [h1,h2];show (zo y).bind _=_;rw [h3];exact h4
theorem Pc {b:M}{k:j4}{o:Option PV}(h1:a ε=some (.fk ks xs))(h2:b ε=some y)(h3:zo y=some k)(h4:qF k ks xs=o):Xd b a ε=some (.at (.bl (!o.isSome))):=by unfold Xd;rw [h1,h2];show (zo y).bind _=_;rw [h3,<- h4];rfl
theorem Kx (ok:d.Ok)(hc:c∈d.cls):vg C [d.ob C,.at (.str c.name)]=some c.pv:=by
 have lk:=UJ Cl.pv ok.nd c hc;refine i9 rfl (k9 (qC (zY (qO (qK (v9 rfl Uv))) (h8 (v:=false) ?_)) xj) (i0 ?_))
 ·exact Pc (Xj rfl rfl) rfl rfl lk
 ·exact Pb (Xj rfl rfl) rfl rfl lk
theorem Xi (a b:Int):qi (.at (.int a)) (.at (.int b))=some (.at (.bl (decide (a=b)))):=by show some (PV.at (.bl (m7 (.int a) (.int b))))=_;have:m7 (.int a) (.int b)=decide (a=b):=rfl;rw [this]
structure Lst (d:Dr)(ns:List Cl):Prop where
 sub:∀ c∈ns,c∈d.cls
 nd:(ns.map Cl.name).Nodup
def w5 (cs:List Cl):PV:= .lst (u9 (cs.map Cl.name))
theorem Lst.len (ok:d.Ok)(L:Lst d ns):ns.length<=10:=by
 have:=UZ L.nd (left:=d.cls.map Cl.name) λx hx=>by
  obtain ⟨c,hc,rfl⟩:=yr.mp hx;exact yr.mpr ⟨c,L.sub c hc,rfl⟩
 rw [yZ,yZ] at this;have:=ok.ten;omega
end
theorem Cy {K:Fg}{R:It->Hp->Prop}{i:Nat}{xs:List V}(hi:σ[i]?=some (some (.ref p)))(hp:SqL K H p xs)(hl:xs.length<=1000)(q:R (Itr 0 xs.length) H):Qc (i6 (tCB (wD K) (i6 (o4 i) qa)) qa) σ H R :=
 ⟨_,hi,.inl ⟨_,_,rfl,.inl ⟨xs,hp,rfl⟩,(xs.length:Int),rfl,by omega,by omega,by rw [uQ];exact q⟩⟩
structure Tray (t:List Cl):Prop where
 ne:t≠[]
 one:∀ c∈t,∀ e∈t,c.hue=e.hue
structure Trays (d:Dr)(T:List (List Cl)):Prop where
 perm:T.flatten.Perm d.cls
 each:∀ t∈T,Tray t
def XY:List PV->Prop:=λxs=>∃ d:Dr,xs=[d.pv]/\d.Ok
def QR:List PV->PV->Prop:=λxs y=>∃(d:Dr)(T:List (List Cl)),xs=[d.pv]/\y = .lst (T.map w5)/\Trays d T
theorem Py (h:spD XY QR vs H Q E):vs.length=(["row","parts"]:List Str).length:=by obtain ⟨Hs,a,n,xs,ws,rfl,_,_,_,r,⟨d,rfl,_⟩,_⟩:=h;rw [yC,r.length];rfl
def o7 (cs:List Cl):List V:=cs.map λc=>V.str c.name
theorem Qt (cs:List Cl):(o7 cs).length=cs.length:=yZ _
theorem UX (cs:List Cl):u9 (cs.map Cl.name)=(o7 cs).map PV.at:=by unfold u9 o7;rw [yi,yi];rfl
structure TI (H3:Hp)(a fr F:Addr)(H:Hp)(n:Int)(free:List Cl)(as:List Addr)(T:List (List Cl)):Prop where
 row:H a=some (.lst [.int n])
 fre:H fr=some (.lst (o7 free))
 top:H F=some (.lst (as.map V.ref))
 len:as.length=T.length
 tr:∀(i:Nat)(b:Addr)(t:List Cl),as[i]?=some b->T[i]?=some t->H b=some (.lst (o7 t))
 nd:(a::fr::F::as).Nodup
 new:∀ b∈as,H3 b=none
 kp:∀ b o,b≠a->b≠fr->b≠F->H3 b=some o->H b=some o
section
variable {H3 H:Hp}{a fr F p:Addr}{n m:Int}{free fre2:List Cl}{as:List Addr}{T:List (List Cl)}{o:HO}
theorem TI.ne (x:TI H3 a fr F H n free as T):a≠fr/\a≠F/\a∉as/\fr≠F/\fr∉as/\F∉as/\as.Nodup:=by obtain ⟨h1,h2⟩:=yt.mp x.nd;obtain ⟨h3,h4⟩:=yt.mp h2;obtain ⟨h5,h6⟩:=yt.mp h4;simp only [yM,not_or] at h1 h3;exact ⟨h1.1,h1.2.1,h1.2.2,h3.1,h3.2,h5,h6⟩
theorem TI.nb (x:TI H3 a fr F H n free as T){b:Addr}(hb:b∈as):b≠a/\b≠fr/\b≠F:=by obtain ⟨_,_,n3,_,n5,n6,_⟩:=x.ne;exact ⟨λz=>n3 (z▸hb),λz=>n5 (z▸hb),λz=>n6 (z▸hb)⟩
theorem TI.mem (x:TI H3 a fr F H n free as T){b:Addr}(hb:b∈as):∃(i:Nat)(t:List Cl),as[i]?=some b/\T[i]?=some t:=by obtain ⟨i,hi,e⟩:=List.mem_iff_getElem.mp hb;exact ⟨i,T[i]'(by rw [<- x.len];exact hi),by rw [yN hi,e],yN _⟩
theorem TI.setRow (x:TI H3 a fr F H n free as T):TI H3 a fr F (z8 H a (.lst [.int m])) m free as T:=by obtain ⟨n1,n2,n3,n4,n5,n6,_⟩:=x.ne;refine ⟨y7,by rw [z9 n1.symm];exact x.fre,by rw [z9 n2.symm];exact x.top,x.len,λi b t hb ht=>?_,x.nd,x.new,λb u h1 h2 h3 e=>by rw [z9 h1];exact x.kp b u h1 h2 h3 e⟩;rw [z9 (x.nb (yp hb)).1];exact x.tr i b t hb ht
theorem TI.setFre (x:TI H3 a fr F H n free as T):TI H3 a fr F (z8 H fr (.lst (o7 fre2))) n fre2 as T:=by obtain ⟨n1,n2,n3,n4,n5,n6,_⟩:=x.ne;refine ⟨by rw [z9 n1];exact x.row,y7,by rw [z9 n4.symm];exact x.top,x.len,λi b t hb ht=>?_,x.nd,x.new,λb u h1 h2 h3 e=>by rw [z9 h2];exact x.kp b u h1 h2 h3 e⟩;rw [z9 (x.nb (yp hb)).2.1];exact x.tr i b t hb ht
theorem TI.lay (x:TI H3 a fr F H n free as T)(hp:H p=none):TI H3 a fr F (z8 H p o) n free as T:=by
 have k:∀{b:Addr}{u:HO},H b=some u->z8 H p o b=some u:=λ{b u} e=>by rw [z9 (p5 e hp)];exact e
 exact ⟨k x.row,k x.fre,k x.top,x.len,λi b t hb ht=>k (x.tr i b t hb ht),x.nd,x.new,λb u h1 h2 h3 e=>k (x.kp b u h1 h2 h3 e)⟩
theorem TI.app (x:TI H3 a fr F H n free as T){i:Nat}{b:Addr}(hb:as[i]?=some b)(ht:T[i]?=some t):TI H3 a fr F (z8 H b (.lst (o7 (t++[c])))) n free as (T.set i (t++[c])):=by
 obtain ⟨n1,n2,n3,n4,n5,n6,nd⟩:=x.ne;have bm:=yp hb;have hi:i<T.length:=(yD.mp ht).1;refine ⟨by rw [z9 (x.nb bm).1.symm];exact x.row,by rw [z9 (x.nb bm).2.1.symm];exact x.fre,by rw [z9 (x.nb bm).2.2.symm];exact x.top,by rw [yn];exact x.len,λj e u he hu=>?_,x.nd,x.new,λe u h1 h2 h3 z=>?_⟩
 ·by_cases hj:i=j
  ·subst hj;rw [hb] at he;cases he;rw [uN hi] at hu;cases hu;exact y7
  ·rw [yq hj] at hu;rw [z9 (λz=>?_)]
   ·exact x.tr j e u he hu
   ·subst z;obtain ⟨q1,e1⟩:=yD.mp hb;obtain ⟨q2,e2⟩:=yD.mp he;exact hj ((List.getElem_inj (h₀:=q1) (h₁:=q2) nd).mp (e1.trans e2.symm))
 ·rw [z9 (λy=>by rw [y,x.new b bm] at z;cases z)];exact x.kp e u h1 h2 h3 z
theorem jY {l:List α}{i:Nat}{y b:α}(hj:j<=l.length)(h:(l.take j++y::l.drop j)[i]?=some b):(i<j/\l[i]?=some b)∨(i=j/\b=y)∨(j<i/\l[i-1]?=some b):=by
 rw [List.getElem?_append] at h;have tl:(l.take j).length=j:=by rw [List.length_take];omega
 split at h
 ·rename_i hi;rw [tl] at hi;rw [List.getElem?_take_of_lt hi] at h;exact .inl ⟨hi,h⟩
 ·rename_i hi;rw [tl] at hi h;cases hk:i-j with
  |zero=>rw [hk] at h;cases h;exact .inr (.inl ⟨by omega,rfl⟩)
  |succ k=>rw [hk,List.getElem?_cons_succ,List.getElem?_drop] at h;refine .inr (.inr ⟨by omega,?_⟩);rw [show i-1=j+k by omega];exact h
theorem TI.ins (x:TI H3 a fr F H n free as T)(hp:H p=none)(h3:H3 p=none){c:Cl}{j:Nat}(hj:j<=as.length):TI H3 a fr F (z8 (z8 H p (.lst (o7 [c]))) F (.lst ((as.take j++p::as.drop j).map V.ref))) n free (as.take j++p::as.drop j) (T.take j++[c]::T.drop j):=by
 obtain ⟨n1,n2,n3,n4,n5,n6,nd⟩:=x.ne;have k:∀{b:Addr}{u:HO},H b=some u->z8 H p (.lst (o7 [c])) b=some u:=λ{b u} e=>by rw [z9 (p5 e hp)];exact e
 have pa:p≠a:=λz=>by rw [z,x.row] at hp;cases hp
 have pf:p≠fr:=λz=>by rw [z,x.fre] at hp;cases hp
 have pF:p≠F:=λz=>by rw [z,x.top] at hp;cases hp
 have ps:p∉as:=λz=>by
  obtain ⟨i,t,h1,h2⟩:=x.mem z;rw [x.tr i p t h1 h2] at hp;cases hp
 have pm:(as.take j++p::as.drop j).Perm (p::as):=by have:=uA (a:=p) (l₁:=as.take j) (l₂:=as.drop j);rwa [List.take_append_drop] at this
 have hT:j<=T.length:=by rw [<- x.len];exact hj
 refine ⟨by rw [z9 n2];exact k x.row,by rw [z9 n4];exact k x.fre,y7,by simp [x.len],λi b t hb ht=>?_,?_,λb hb=>?_,λb u h1 h2 h4 e=>by rw [z9 h4];exact k (x.kp b u h1 h2 h4 e)⟩
 ·have fb:b≠F:=λz=>by
   have:=pm.mem_iff.mp (yp hb);rw [z] at this;rcases yM.mp this with h|h
   ·exact pF h.symm
   ·exact n6 h
  rw [z9 fb];rcases jY hj hb with ⟨q1,q2⟩|⟨q1,rfl⟩|⟨q1,q2⟩<;>rcases jY hT ht with ⟨w1,w2⟩|⟨w1,rfl⟩|⟨w1,w2⟩<;>first|omega|exact k (x.tr _ b t q2 w2)|exact y7
 ·have:(a::fr::F::(as.take j++p::as.drop j)).Perm (p::a::fr::F::as):=by refine (((pm.cons F).cons fr).cons a).trans ?_;exact (((List.Perm.swap p F as).cons fr).cons a).trans ((List.Perm.swap p fr (F::as)).cons a |>.trans (List.Perm.swap p a (fr::F::as)))
  refine this.nodup_iff.mpr (yt.mpr ⟨?_,x.nd⟩);simp only [yM,not_or];exact ⟨pa,pf,pF,ps⟩
 ·rcases yM.mp (pm.mem_iff.mp hb) with rfl|h
  ·exact h3
  ·exact x.new b h
end
section
variable {K:Fg}{σ:St}{H:Hp}{Q:VK}{i:Nat}{p a:Addr}{xs:List V}{n m:Int}
theorem Ju (hi:σ[i]?=some (some (.ref p)))(hp:H p=some (.lst xs))(q:Q (.int xs.length) H):tCB (wD K) (i6 (o4 i) qa) σ H Q:=⟨_,hi,.inl ⟨_,_,rfl,.inl ⟨xs,SqL.of hp,rfl⟩,q⟩⟩
theorem GJ (hi:σ[i]?=some (some (.ref p)))(hp:H p=some (.lst xs))(q:Q (.int (xs.length+1)) H):tOp (Zb K) (tCB (wD K) (i6 (o4 i) qa)) (tC (.int 1)) σ H Q:=Ju hi hp (.inl ⟨_,_,rfl,rfl,q⟩)
theorem Jv {te:TE}(hi:σ[0]?=some (some (.ref a)))(ha:H a=some (.lst [.int n]))(h:∀{R:VK},R (.int m) H->te σ H R)(hc:wN n m)(q:Q (.int (n % m)) (z8 H a (.lst [.int (n / m)]))):xH zv [] E0 (i6 (o4 0) (i6 te qa)) σ H Q :=
 ⟨_,hi,h ⟨a,n,m,rfl,ha,hc,q⟩⟩
end
theorem VN {K:Fg}{xs:List V}(h:H p=some (.lst xs)):tyV K "list" (.ref p) H:= .inl ⟨rfl,xs,SqL.of h⟩
theorem UB:∀{kvs:List (j4×V)}{cs:List Cl},kvs.map (·.1)=keysOf cs->(kvs.map (·.2)=cs.map λc=>V.int c.hue)->kvs=cs.map λc=>((Sum.inr c.name:j4),V.int c.hue)
 |[],[],_,_=>rfl
 |[],_::_,h,_=>by cases h
 |_::_,[],h,_=>by cases h
 |(k,v)::kvs,c::cs,h1,h2=>by
  injection h1 with a1 b1;injection h2 with a2 b2;rw [UB b1 b2,yK]
  congr 1
  exact Prod.ext a1 a2
theorem Gp (f:Cl->PV):∀ cs:List Cl,zL (cs.map λc=>PV.tup [.at (.str c.name),f c])=some (cs.map λc=>((.inr c.name:j4),f c))
 |[]=>rfl
 |c::cs=>by
  show Option.bind (some (Sum.inr c.name:j4)) (λkk=>(zL (cs.map λc=>PV.tup [.at (.str c.name),f c])).map ((kk,f c)::·))=_;rw [Gp f cs];rfl
theorem ZH {α:Type}:∀{T:List (List α)},(∀ t∈T,t≠[])->T.length<=T.flatten.length
 |[],_=>yS _
 |t::T,h=>by
  rw [yk,yL,yC];have:=ZH (T:=T) λx hx=>h x (yR _ hx);have:=List.length_pos_iff.mpr (h t yQ);omega
theorem ZG {α:Type}:∀{T:List (List α)}{t:List α},t∈T->t.length<=T.flatten.length
 |x::T,t,h=>by
  rw [yk,yL];rcases yM.mp h with rfl|h
  ·omega
  ·have:=ZG h;omega
theorem ZJ {α:Type}:∀{T:List (List α)}{i:Nat}{t:List α}{c:α},T[i]?=some t->(T.set i (t++[c])).flatten.Perm (c::T.flatten)
 |[],i,_,_,h=>by simp at h
 |x::T,0,t,c,h=>by
  cases h;rw [List.set_cons_zero,yk,yk,uS];exact uA
 |x::T,i+1,t,c,h=>by
  rw [List.set_cons_succ,yk,yk];exact ((ZJ (T:=T) (c:=c) (by simpa using h)).append_left x).trans uA
theorem Pl (T:List (List α))(j:Nat)(c:α):(T.take j++[c]::T.drop j).flatten.Perm (c::T.flatten):=by
 rw [List.flatten_append,yk];have:T.flatten=(T.take j).flatten++(T.drop j).flatten:=by rw [<- List.flatten_append,List.take_append_drop]
 rw [this];exact uA
theorem keyN (h:(cs.map Cl.name).Nodup):(keysOf cs).Nodup:=by
 have e:keysOf cs=(cs.map Cl.name).map λs=>(Sum.inr s:j4):=by unfold keysOf;rw [yi];rfl
 rw [e];exact List.Pairwise.map _ (λa b hab z=>hab (Sum.inr.inj z)) h
theorem nine {l:List α}(h:l.length=9):∃ a b c d e f g i j,l=[a,b,c,d,e,f,g,i,j]:=by
 match l,h with
 |[a,b,c,d,e,f,g,i,j],_=>exact ⟨a,b,c,d,e,f,g,i,j,rfl⟩
theorem Ul (nd:(cs.map Cl.name).Nodup)(hc:c∈cs):o5 (cs.map λc=>((Sum.inr c.name:j4),V.int c.hue)) (Sum.inr c.name)=some (.int c.hue):=by
 unfold L2.o5
 induction cs with
 |nil=>cases hc
 |cons x cs ih =>
  rw [yK,yt] at nd;rw [yK,uP];rcases yM.mp hc with rfl|hc
  ·simp
  ·have:x.name≠c.name:=λe=>nd.1 (e▸yr.mpr ⟨c,hc,rfl⟩);rw [show decide ((Sum.inr x.name:j4)=Sum.inr c.name)=false by simp [this]];exact ih nd.2 hc
theorem seqS {t u:TS}{f:MS}[sf:n8 false t f]{ε':ME}{Hs0 H0 Hs:Hp}{D:qM}(e:f ε=some (.nx ε'))(rs:RS Hs0 H0 Hs H σ ε)(k:∀ Hs H σ,RS Hs0 H0 Hs H σ ε'->u D σ H):tSeq t u D σ H:=sf.h e rs k
abbrev Vu:Stmt:=top 63
theorem sc_trays:w9 ["row","parts","hues","free","found","k","name","same","pick"] ["row","parts"] (j3 Vu):=u8
theorem DY (F:Fun K "_law_trays" "_law_trays" Vu f fd)(Ae:Fn P w K mg base 1 "_law_digit" ["row","many"] zv)(Ep:mg "dict"=none)(Ad:mg "len"=none)(Ah:mg "range"=none):FnOk P w K mg base v7 2 f fd ["row","parts"] (spD XY QR):=by
 refine F.ok (k:=1) sc_trays (λvs H Q E h=>Py h) (λcdv A outer s H vs Q E hr h=>⟨_,(j7 (sW 2 sc_trays.nd (wA (Yt (K:=K) rfl rfl) rfl Ep Yq (aW (qj (N':=["cloth"]) (cap:=[none]) (c4 rfl rfl rfl) rfl (@c5 _ K _ _ _ rfl (iW (K:=K) rfl (pv 1) z7)) (λ_ _ _ _ _ _=>(p8 (i:=0) (by show (["cloth"]:List Str).Nodup;decide +kernel) rfl (Or.inl rfl))) (λ_ _ _ _ _ _=>i5) (λ_ _ _ _ _ _=>(@qU _ _ _ _ _ (aC (iW (K:=K) rfl (pv 0) z7) (aW (iW (K:=K) rfl (pv 0) z7)))))))))
  (j7 (zu (i:=3) (N':=["cloth"]) (cap:=[none]) (c4 rfl rfl rfl) rfl sc_trays.nd rfl rfl (@c5 _ K _ _ _ rfl (iW (K:=K) rfl (pv 1) z7)) (λ_ _ _ _ _ _=>(p8 (i:=0) (by show (["cloth"]:List Str).Nodup;decide +kernel) rfl (Or.inl rfl))) (λ_ _ _ _ _ _=>i5) (λ_ _ _ _ _ _=>(iW (K:=K) rfl (pv 0) z7)))
  (j7 (sW 4 sc_trays.nd (@qL _ _ _ _ u6))
  (j7 (xp PassesOwn.never rfl (vu rfl Ah (aW (u7 (qf (K:=K) rfl) rfl Ad PySem.boot_len (aW (pv 3))))) (gW 5 sc_trays.nd)
   (j7 (sW 6 sc_trays.nd (zq (K:=K) rfl PySem.F.plainAttrs_list PySem.F.slot_list_pop PySem.F.type_list_pop UQ (pv 3) (j9 (fW Ae hr (aC (pv 0) (aW (u7 (qf (K:=K) rfl) rfl Ad PySem.boot_len (aW (pv 3)))))) u6)))
  (j7 (zu (i:=7) (N':=["tray","hues","name"]) (cap:=[none,some 2,some 6]) (c4 rfl rfl rfl) rfl sc_trays.nd rfl rfl (@c5 _ K _ _ _ rfl (pv 4)) (λ_ _ _ _ _ _=>(p8 (i:=0) (by show (["tray","hues","name"]:List Str).Nodup;decide +kernel) rfl (Or.inl rfl))) (λ_ _ _ _ _ _=>(vx (i4 (xV (K:=K) (qE hr) rfl) (Jn (wf hr) (pv 1) (iW (K:=K) rfl (pv 0) z7) (λ_ _=>rfl)) (Jn (wf hr) (pv 1) (pv 2) (λ_ _=>rfl)) (c7 _)))) (λ_ _ _ _ _ _=>(pv 0)))
  (j7 (sW 8 sc_trays.nd (fW Ae hr (aC (pv 0) (aW (u3 (qZ (K:=K) rfl) (u7 (qf (K:=K) rfl) rfl Ad PySem.boot_len (aW (pv 7))) z7)))))
  (j6 (c8 (i4 (XM) (pv 8) (u7 (qf (K:=K) rfl) rfl Ad PySem.boot_len (aW (pv 7))) (c7 _)) (j6 (zb (zq (K:=K) rfl PySem.F.plainAttrs_list PySem.F.slot_list_append PySem.F.type_list_append vk (iW (K:=K) rfl (pv 7) (pv 8)) (j9 (pv 6) u6)))) (j6 (zb (zq (K:=K) rfl PySem.F.plainAttrs_list PySem.F.slot_list_insert PySem.F.type_list_insert CO (pv 4) (j9 (fW Ae hr (aC (pv 0) (aW (u3 (qZ (K:=K) rfl) (u7 (qf (K:=K) rfl) rfl Ad PySem.boot_len (aW (pv 4))) z7)))) (j9 (@qL _ _ _ _ (aW (pv 6))) u6)))))))))))
  (j6 (u4 (pv 4))))))),?_⟩)
 obtain ⟨Hs,a,n,xs,ws,rfl,sm,na,ha,r,⟨d,rfl,ok⟩,q⟩:=h;obtain ⟨v1,rr,rfl,p1,p2⟩:=reps_cons.mp r;cases reps_nil.mp p2;have hlim:lim=1000000:=rfl;have ten:=ok.ten;have rs0:RS Hs H Hs H _ _:=zN (N:=["row","parts","hues","free","found","k","name","same","pick"]) (xs:=[.op λ_ v=>v = .ref a,d.pv]) (vs:=[.ref a,v1]) sm (.cons (rep_op.mpr ⟨Hs,.refl _,rfl⟩) (.one p1));have e1:i8 2 (z6 Qv (q0 (b8 [none] [0] (y9 (z0 j8 (x8 1) (dC (.int 1)))) (v6 0) p6 (t6 (q0 (z0 j8 (x8 0) (dC (.int 0))) (q0 (z0 j8 (x8 0) (dC (.int 1))) x9)))) x9)) [.sh (.op λ_ v=>v = .ref a),.sh d.pv,.no,.no,.no,.no,.no,.no,.no]=some (.nx [.sh (.op λ_ v=>v = .ref a),.sh d.pv,.sh (.fk (keysOf d.cls) (d.cls.map λc=> .at (.int c.hue))),.no,.no,.no,.no,.no,.no]):=by
  refine qD (v9 (w4 (qy Cl.pv (λc=>PV.tup [.at (.str c.name),.at (.int c.hue)]) d.cls (js (w6 rfl rfl rfl)) rfl (by omega) λc _=>⟨_,rfl,Qb (w4 (w6 rfl rfl rfl) (w4 (w6 rfl rfl rfl) rfl)) l2⟩) rfl) ?_);show (zL (d.cls.map λc=>PV.tup [.at (.str c.name),.at (.int c.hue)])).bind _=_;have q1:(d.cls.map λc=>((.inr c.name:j4),PV.at (.int c.hue))).map (·.1)=keysOf d.cls:=by rw [yi];rfl
  have q2:(d.cls.map λc=>((.inr c.name:j4),PV.at (.int c.hue))).map (·.2)=d.cls.map λc=>PV.at (.int c.hue):=by rw [yi];rfl
  rw [Gp,yF,q1,q2];exact if_pos ⟨keyN ok.nd,by rw [yZ];omega⟩
 have e2:zl 3 (b8 [none] [0] (y9 (z0 j8 (x8 1) (dC (.int 1)))) (v6 0) p6 (z0 j8 (x8 0) (dC (.int 0)))) [.sh (.op λ_ v=>v = .ref a),.sh d.pv,.sh (.fk (keysOf d.cls) (d.cls.map λc=> .at (.int c.hue))),.no,.no,.no,.no,.no,.no]=some (.nx [.sh (.op λ_ v=>v = .ref a),.sh d.pv,.sh (.fk (keysOf d.cls) (d.cls.map λc=> .at (.int c.hue))),.ow (.lst (d.cls.map λc=> .at (.str c.name))),.no,.no,.no,.no,.no]) :=
  wc (qy Cl.pv (λc=>PV.at (.str c.name)) d.cls (js (w6 rfl rfl rfl)) rfl (by omega) λc _=>⟨_,rfl,w6 rfl rfl rfl⟩)
 have e3:zl 4 (o6 x9) [.sh (.op λ_ v=>v = .ref a),.sh d.pv,.sh (.fk (keysOf d.cls) (d.cls.map λc=> .at (.int c.hue))),.ow (.lst (d.cls.map λc=> .at (.str c.name))),.no,.no,.no,.no,.no]=some (.nx [.sh (.op λ_ v=>v = .ref a),.sh d.pv,.sh (.fk (keysOf d.cls) (d.cls.map λc=> .at (.int c.hue))),.ow (.lst (d.cls.map λc=> .at (.str c.name))),.ow (.lst []),.no,.no,.no,.no]):=wc (jt rfl l0);refine seqS e1 rs0 λHs1 H1 σ1 r1=>seqS e2 r1 λHs2 H2 σ2 r2=>seqS e3 r2 λHs3 H3 σ3 r3=>?_;clear r1 r2 e1 e2 e3 rs0;obtain ⟨w0,g0,c0⟩:=r3.sh 0 _ rfl;obtain ⟨_,_,rfl⟩:=rep_op.mp c0;obtain ⟨w1,g1,c1⟩:=r3.sh 1 _ rfl;obtain ⟨w2,g2,c2⟩:=r3.sh 2 _ rfl;obtain ⟨hu,oo,kvs,rfl,hk,k1,k2⟩:=rep_fk.mp c2;obtain ⟨fr,g3,n3,s3,fv,hf,rf⟩:=r3.ow 3 _ rfl;obtain ⟨F0,g4,n4,s4,ov,hF,rF⟩:=r3.ow 4 _ rfl;cases reps_nil.mp rF;have ffr:fr≠F0:=λz=>by
  subst z;exact absurd (r3.nd 3 4 _ _ fr rfl rfl g3 g4) (by decide)
 have efv:fv=o7 d.cls:=by
  have:Reps Hs3 ((o7 d.cls).map PV.at) fv:=by rw [<- UX];unfold u9;rw [yi];exact rf
  exact this.ats
 subst efv;have a3:H3 a=some (.lst [.int n]):=r3.ext.s2 _ _ ha;have sa:Hs3 a=none:=r3.ext.s4 a (by rw [ha];exact λz=>nomatch z) na;have anf:a≠fr:=λz=>by rw [<- z,ha] at n3;cases n3
 have anF:a≠F0:=λz=>by rw [<- z,ha] at n4;cases n4
 have ekv:kvs=d.cls.map λc=>((Sum.inr c.name:j4),V.int c.hue):=by
  have k3:kvs.map (·.2)=d.cls.map λc=>V.int c.hue:=by
   have:Reps Hs3 ((d.cls.map λc=>V.int c.hue).map PV.at) (kvs.map (·.2)):=by rw [yi];exact k2
   exact this.ats
  exact UB k1 k3
 have T0:TI H3 a fr F0 H3 n d.cls [] []:=⟨a3,hf,hF,rfl,(λi b t z=>by simp at z),by simp [anf,anF,ffr],(λ_ z=>nomatch z),λ_ _ _ _ _ e=>e⟩;obtain ⟨x0,x1,x2,x3,x4,s5,s6,s7,s8,rfl⟩:=nine r3.len;obtain rfl:x0=some (.ref a):=Option.some.inj g0;obtain rfl:x1=some w1:=Option.some.inj g1;obtain rfl:x2=some (.ref hu):=Option.some.inj g2;obtain rfl:x3=some (.ref fr):=Option.some.inj g3;obtain rfl:x4=some (.ref F0):=Option.some.inj g4;show tFor (Qc (i6 (tCB (wD K) (i6 (o4 3) qa)) qa)) (qQ 5) _ _ [some (.ref a),some w1,some (.ref hu),some (.ref fr),some (.ref F0),s5,s6,s7,s8] _;refine Cy (K:=K) (i:=3) (p:=fr) (xs:=o7 d.cls) (σ:=[some (.ref a),some w1,some (.ref hu),some (.ref fr),some (.ref F0),s5,s6,s7,s8]) rfl (SqL.of hf) (by rw [Qt];omega) ?_;rw [Qt];have hua:hu≠a:=λz=>by rw [z,sa] at hk;cases hk
 have huf:hu≠fr:=λz=>by rw [z,s3] at hk;cases hk
 have huF:hu≠F0:=λz=>by rw [z,s4] at hk;cases hk
 have BT:=jI;refine Ug (λi σ H2=>∃(n:Int)(free:List Cl)(as:List Addr)(T:List (List Cl))(s5 s6 s7 s8:Option V),σ=[some (.ref a),some w1,some (.ref hu),some (.ref fr),some (.ref F0),s5,s6,s7,s8]/\TI H3 a fr F0 H2 n free as T/\free.length+i=d.cls.length/\(T.flatten++free).Perm d.cls/\∀ t∈T,Tray t) ⟨n,d.cls,[],[],_,_,_,_,rfl,T0,rfl,.refl _,(λ_ z=>nomatch z)⟩ ?_ ?_
 ·rintro i σ H2 hi ⟨n2,free,as,T,s5,s6,s7,s8,rfl,X,fl,pm,tr⟩;have hfl:0<free.length:=by omega
  have tl:T.length<=10:=by have:=ZH λt ht=>(tr t ht).ne;have:=pm.length_eq;rw [yL] at this;omega
  have c0:0<=n2 % (free.length:Int):=ym _ (by omega);have c1:n2 % (free.length:Int)<(free.length:Int):=yu _ (by omega);obtain ⟨j,hj⟩:=yd c0;have jl:j<free.length:=by omega
  refine ⟨_,rfl,VN X.fre,Jv (m:=(free.length:Int)) rfl X.row (λ{R} z=>Ju (K:=K) (i:=3) rfl X.fre (by rw [Qt];exact z)) (zT (by omega) (by omega)) ?_⟩;have X1:=X.setRow (m:=n2 / (free.length:Int));refine ⟨fr,o7 free,_,j,.str free[j].name,rfl,rfl,X1.fre,by omega,by omega,?_,?_,?_⟩
  ·rw [hj,PySem.StrLaws.seqIndex_nonneg (by omega) (by rw [Qt];omega),uQ]
  ·unfold o7;rw [yO,yN jl];rfl
  have X2:=X1.setFre (fre2:=free.eraseIdx j);rw [show (o7 free).eraseIdx j=o7 (free.eraseIdx j) from ZC _ _ _];generalize z8 (z8 H2 a (.lst [.int (n2 / (free.length:Int))])) fr (.lst (o7 (free.eraseIdx j)))=Ha at X2 ⊢;clear X X1;have pe:=Jr jl;generalize hc:free[j]=c at pe ⊢;have cm:c∈d.cls:=pm.mem_iff.mp (yv _ (hc▸yj jl));have lf:(free.eraseIdx j).length+(i+1)=d.cls.length:=by rw [List.length_eraseIdx_of_lt jl];omega
  have pm2:(T.flatten++c::free.eraseIdx j).Perm d.cls:=(pe.append_left _).trans pm;have hd:Rd Ha hu (.dK kvs):= .inr ⟨oo,X2.kp hu _ hua huf huF (r3.ext.s3 _ _ hk)⟩;have tm:∀ t∈T,∀ e∈t,e∈d.cls:=λt ht e he=>pm.mem_iff.mp (yg _ (List.mem_flatten.mpr ⟨t,ht,he⟩));have al:(as.map V.ref).length<=10:=by rw [yZ,X2.len];exact tl
  refine ⟨_,rfl,F0,rfl,⟨_,SqL.of X2.top⟩,YD (xs:=as.map V.ref) (λi ys H=>H=Ha/\ys.length<=i/\∀ y∈ys,∃(k:Nat)(b:Addr)(t:List Cl),as[k]?=some b/\T[k]?=some t/\y = .ref b/\∀ e∈t,e.hue=c.hue) ⟨rfl,yS _,(λ_ z=>nomatch z)⟩ (λi ys H hi h=>qR (by have:=h.2.1;omega)) (λi ys H _ h=>h.1▸SqL.of X2.top) ?_ ?_⟩
  ·rintro k x ys _ R hx ⟨rfl,hl,hy⟩ hR;rw [yO] at hx;obtain ⟨b,hb,rfl⟩:=yJ.mp hx;obtain ⟨kl,_⟩:=yD.mp hb;have kT:k<T.length:=by rw [<- X2.len];exact kl
   have ht:=yN kT;generalize T[k]=t at ht;have mt:=yp ht;have Tt:=tr t mt;have hH:=X2.tr k b t hb ht;obtain ⟨e0,t',rfl⟩:=List.exists_cons_of_ne_nil Tt.ne;have em:e0∈d.cls:=tm _ mt e0 yQ;refine ⟨Wk.one rfl,⟨_,rfl,⟨_,rfl,.inl ⟨b,o7 (e0::t'),0,.str e0.name,rfl,rfl,SqL.of hH,xS (j:=0) (show (o7 (e0::t'))[0]?=_ from rfl),⟨hu,.int e0.hue,rfl,.inl ⟨kvs,.inr e0.name,hd,rfl,by rw [ekv];exact (Ul ok.nd em).symm⟩,⟨_,rfl,⟨_,rfl,⟨hu,.int c.hue,rfl,.inl ⟨kvs,.inr c.name,hd,rfl,by rw [ekv];exact (Ul ok.nd cm).symm⟩,⟨m7 (.int e0.hue) (.int c.hue),.inl ⟨rfl,rfl,rfl⟩,⟨_,rfl,?_⟩⟩⟩⟩⟩⟩⟩⟩⟩⟩;have ev:m7 (.int e0.hue) (.int c.hue)=decide ((e0.hue:Int)=c.hue):=rfl;show (if m7 (.int e0.hue) (.int c.hue)=true then _ else _);rw [ev];by_cases he:(e0.hue:Int)=c.hue
   ·rw [if_pos (yz he)];refine ⟨_,rfl,hR _ _ ⟨rfl,by rw [yL];simp;omega,λy hm=>?_⟩⟩;rcases yx.mp hm with hm|hm
    ·exact hy y hm
    ·exact ⟨k,b,_,hb,ht,yP.mp hm,λe h=>by have:=Tt.one e h e0 yQ;omega⟩
   ·rw [if_neg (by rw [yH he];exact yU)];exact hR _ _ ⟨rfl,by omega,hy⟩
  rintro ys Ha ⟨rfl,hl,hy⟩ S hS;have X3:=X2.lay (o:= .lst ys) hS;have hSl:z8 Ha S (.lst ys) S=some (.lst ys):=y7;have Sa:S≠a:=λz=>by rw [z,X2.row] at hS;cases hS
  generalize z8 Ha S (.lst ys)=Hb at X3 hSl ⊢;clear X2 hd hS;refine Jv (m:=(ys.length:Int)+1) rfl X3.row (λ{R} z=>GJ (K:=K) (i:=7) rfl hSl z) (zT (by omega) (by omega)) ?_;generalize n2 / (free.length:Int)=n3 at X3 ⊢;have X4:=X3.setRow (m:=n3 / ((ys.length:Int)+1));have d0:0<=n3 % ((ys.length:Int)+1):=ym _ (by omega);have d1:n3 % ((ys.length:Int)+1)<(ys.length:Int)+1:=yu _ (by omega);obtain ⟨k,hk2⟩:=yd d0;rw [hk2];have hS2:z8 Hb a (.lst [.int (n3 / ((ys.length:Int)+1))]) S=some (.lst ys):=by rw [z9 Sa];exact hSl
  generalize n3 / ((ys.length:Int)+1)=n4 at X4 hS2 ⊢;generalize z8 Hb a (.lst [.int n4])=Hc at X4 hS2 ⊢;clear X3 hSl;refine ⟨_,rfl,Ju (K:=K) (i:=7) rfl hS2 ⟨_,_,rfl,rfl,⟨_,rfl,?_⟩⟩⟩;by_cases hp:(k:Int)<(ys.length:Int)
  ·refine Eq.mpr (if_pos (yz hp)) ?_;have kl:k<ys.length:=by omega
   obtain ⟨i2,b,t,hb,ht,ey,hh⟩:=hy ys[k] (yj kl);have mt:=yp ht;have tl2:(o7 t).length<sizeLine:=Qg (by
    have:=ZG mt;have:=pm.length_eq;rw [yL] at this;rw [Qt];omega)
   have hH:=X4.tr i2 b t hb ht;refine ⟨_,rfl,_,rfl,.inl ⟨S,ys,(k:Int),.ref b,rfl,rfl,SqL.of hS2,xS (by rw [yN kl,ey]),VN hH,_,rfl,b,o7 t,_,rfl,rfl,hH,tl2,?_⟩⟩;have X5:=X4.app (c:=c) hb ht;rw [show o7 t++[V.str c.name]=o7 (t++[c]) by unfold o7;rw [yw];rfl];refine ⟨n4,free.eraseIdx j,as,T.set i2 (t++[c]),_,_,_,_,rfl,X5,lf,?_,λu hu2=>?_⟩
   ·refine ((ZJ ht).append_right _).trans (List.Perm.trans ?_ pm2);exact uA.symm
   ·rcases List.mem_or_eq_of_mem_set hu2 with h|rfl
    ·exact tr u h
    ·refine ⟨by simp,λx hx e he=>?_⟩;have hx':x.hue=c.hue:=by
      rcases yx.mp hx with h|h
      ·exact hh x h
      ·rw [yP.mp h]
     have he':e.hue=c.hue:=by
      rcases yx.mp he with h|h
      ·exact hh e h
      ·rw [yP.mp h]
     rw [hx',he']
  ·refine Eq.mpr (if_neg (by rw [yH hp];exact yU)) ?_;have al2:(as.map V.ref).length=as.length:=yZ _;refine ⟨_,rfl,VN X4.top,Jv (m:=((as.map V.ref).length:Int)+1) rfl X4.row (λ{R} z=>GJ (K:=K) (i:=4) rfl X4.top z) (zT (by omega) (by omega)) ?_⟩;have X5:=X4.setRow (m:=n4 / (((as.map V.ref).length:Int)+1));have f0:0<=n4 % (((as.map V.ref).length:Int)+1):=ym _ (by omega);have f1:n4 % (((as.map V.ref).length:Int)+1)<((as.map V.ref).length:Int)+1:=yu _ (by omega);obtain ⟨z,hz⟩:=yd f0;rw [hz];generalize n4 / (((as.map V.ref).length:Int)+1)=n5 at X5 ⊢;generalize z8 Hc a (.lst [.int n5])=Hd at X5 ⊢;clear X4 hS2;refine ⟨_,rfl,(by show 1<=sizeLine;exact qR l1),λp hp2=>⟨F0,as.map V.ref,(z:Int),.ref p,rfl,rfl,?_,by omega,by omega,by omega,?_⟩⟩
   ·exact (X5.lay hp2).top
   have h3p:H3 p=none:=by
    cases hq:H3 p with
    |none=>rfl
    |some o =>
     by_cases h1:p=a
     ·rw [h1,X5.row] at hp2;cases hp2
     ·by_cases h2:p=fr
      ·rw [h2,X5.fre] at hp2;cases hp2
      ·by_cases h3:p=F0
       ·rw [h3,X5.top] at hp2;cases hp2
       ·rw [X5.kp p o h1 h2 h3 hq] at hp2;cases hp2
   have X6:=X5.ins hp2 h3p (c:=c) (j:=z) (by omega);rw [uQ];rw [show (as.map V.ref).take z++V.ref p::(as.map V.ref).drop z=(as.take z++p::as.drop z).map V.ref by rw [yw,yK,List.map_take,List.map_drop]];refine ⟨n5,free.eraseIdx j,_,_,_,_,_,_,rfl,X6,lf,?_,λu hu2=>?_⟩
   ·exact ((Pl T z c).append_right _).trans (uA.symm.trans pm2)
   ·rcases yx.mp hu2 with h|h
    ·exact tr u (List.mem_of_mem_take h)
    ·rcases yM.mp h with rfl|h
     ·exact ⟨by simp,λx hx e he=>by rw [yP.mp hx,yP.mp he]⟩
     ·exact tr u (List.mem_of_mem_drop h)
 ·rintro σ H2 ⟨n2,free,as,T,s5,s6,s7,s8,rfl,X,fl,pm,tr⟩;have f0:free=[]:=List.eq_nil_of_length_eq_zero (by omega);subst f0;rw [yo] at pm;have nn:∀ b,b=F0∨b∈as->H b=none:=λb hb=>by
   rcases hb with rfl|hb
   ·exact n4
   ·have:=X.new b hb;cases z:H b with
    |none=>rfl
    |some o=>rw [r3.ext.s2 _ _ z] at this;cases this
  have sn:∀ b,b=F0∨b∈as->Hs3 b=none:=λb hb=>by
   rcases hb with rfl|hb
   ·exact s4
   ·have:=X.new b hb;cases z:Hs3 b with
    |none=>rfl
    |some o=>rw [r3.ext.s3 _ _ z] at this;cases this
  have sm3:Same Hs3 H2:=λb o z=>X.kp b o (λy=>by rw [y,sa] at z;cases z) (λy=>by rw [y,s3] at z;cases z) (λy=>by rw [y,s4] at z;cases z) (r3.ext.s3 _ _ z)
  open Classical in
  let Hs':Hp:=λb=>if b=F0∨b∈as then H2 b else Hs3 b
  have hin:∀ b,(b=F0∨b∈as)->Hs' b=H2 b:=λb hb=>if_pos hb;have hout:∀ b,¬ (b=F0∨b∈as)->Hs' b=Hs3 b:=λb hb=>if_neg hb
  clear_value Hs'
  have ao:¬ (a=F0∨a∈as):=λy=>by rw [nn a y] at ha;cases ha
  refine ⟨_,rfl,q (.lst (T.map w5)) (.ref F0) n2 Hs' H2 ⟨d,T,rfl,rfl,pm,tr⟩ ⟨λb o z=>?_,λb o z nb=>?_,λb o z=>?_,λb hb z=>?_⟩ (by rw [hout a ao];exact sa) X.row (rep_lst.mpr ⟨F0,as.map V.ref,rfl,by rw [hin F0 (.inl rfl)];exact X.top,?_⟩)⟩
  ·have z1:=r3.ext.s1 _ _ z;rw [hout b (λy=>by rw [sn b y] at z1;cases z1)];exact z1
  ·have z1:=r3.ext.s2 _ _ z;exact X.kp b o nb (λy=>by rw [y,n3] at z;cases z) (λy=>by rw [y,n4] at z;cases z) z1
  ·by_cases hb:b=F0∨b∈as
   ·rw [hin b hb] at z;exact z
   ·rw [hout b hb] at z;exact sm3 _ _ z
  ·rw [hout b (λy=>hb (nn b y))];exact r3.ext.s4 b hb z
  ·have go:∀(as2:List Addr)(T2:List (List Cl)),as2.length=T2.length->(∀(i:Nat)(b:Addr)(t:List Cl),as2[i]?=some b->T2[i]?=some t->Hs' b=some (.lst (o7 t)))->Reps Hs' (T2.map w5) (as2.map V.ref):=by
    intro as2
    induction as2 with
    |nil =>
     intro T2 hl _;cases T2 with
     |nil=>exact .nil
     |cons _ _=>cases hl
    |cons b as2 ih =>
     intro T2 hl hr;cases T2 with
     |nil=>cases hl
     |cons t T2=>refine .cons (rep_lst.mpr ⟨b,o7 t,rfl,hr 0 b t rfl rfl,?_⟩) (ih T2 (by simpa using hl) λi e u he hu=>hr (i+1) e u he hu);rw [UX];exact Reps.ofAts _
   exact go as T X.len λi b t hb ht=>by rw [hin b (.inr (yp hb))];exact X.tr i b t hb ht
section
variable {C:Addr}{d:Dr}
theorem Qa {f:Str}{ns:List Str}(h1:a ε=some y)(h0:ε[0]?=some (.ow (.ob C ns xs)))(hf:f∉ns)(hl:ns.length<1000):zD C f a ε=some (.nx (ε.set 0 (.ow (.ob C (ns++[f]) (xs++[y]))))):=by unfold zD;rw [h1,yF,h0];exact if_pos ⟨rfl,hf,hl⟩
theorem YZ {nm:Str}{m:List PV->Option PV}{i:Nat}{as:MA}{ns:List Str}{fs:List PV}{u:V}(h0:ε[i]?=some (.ow (.ob C ns fs)))(hn:nm∉ns)(k:as ε=some xs)(e:m (.ob C ns fs::xs)=some (.at u)):vU C nm m i as ε=some (.at u):=by unfold vU;rw [h0];show (if C=C/\nm∉ns then _ else _)=_;rw [if_pos ⟨rfl,hn⟩,k,yF,e];rfl
theorem Ky (ok:d.Ok):wo C [.ob C ["least"] [qk d.low]]=some (.at (.int d.h)):=by have G:=CF ok.rin;refine i9 rfl (i0 (w6 (v9 (w4 (Xj rfl rfl) rfl) rfl) rfl ?_));show some (PV.at (.int (((d.low.map xE).length:Int)-1)))=_;rw [yZ,show d.low.length=d.h+1 from G.len,show ((d.h+1:Nat):Int)-1=(d.h:Int) by omega]
theorem Go:∀ cs:List Cl,zL (cs.map λc=>PV.tup [.at (.str c.name),c.pv])=some (cs.map λc=>((.inr c.name:j4),c.pv))
 |[]=>rfl
 |c::cs=>by
  show Option.bind (some (Sum.inr c.name)) (λkk=>(zL (cs.map λc=>PV.tup [.at (.str c.name),c.pv])).map ((kk,c.pv)::·))=_;rw [yF,Go cs];rfl
theorem Cq (h:(cs.map Cl.name).Nodup):(keysOf cs).Nodup:=by
 induction cs with
 |nil=>exact List.nodup_nil
 |cons c cs ih=>rw [yK] at h;have h':=yt.mp h;refine yt.mpr ⟨λz=>?_,ih h'.2⟩;obtain ⟨y,hy,e⟩:=yr.mp z;injection e with e;exact h'.1 (yr.mpr ⟨y,hy,e⟩)
theorem Hi (ok:d.Ok):wp C [qk d.rss,.lst (d.cls.map Cl.pv),.at (.int d.last),.at (.int d.time)]=some (d.ob C):=by
 have hlim:lim=1000000:=rfl;have ten:=ok.ten;have glen:=ok.rin.len;have h4:=ok.h4;have cp:∀(s0 s2 s3 s4:MSlot),b8 [none] [0] (y9 (x6 1)) (v6 0) p6 (z6 jd (q0 (x8 0) x9)) [s0,.sh (qk d.rss),s2,s3,s4]=some (qk d.rss):=λs0 s2 s3 s4 =>
  qy xE xE d.rss rfl rfl (by omega) λr _=>⟨_,rfl,rfl⟩
 have dk:∀(s0 s1 s3 s4:MSlot),z6 Qv (q0 (b8 [none] [0] (y9 (x6 2)) (v6 0) p6 (t6 (q0 (z6 jb (q0 (x6 0) x9)) (q0 (x6 0) x9)))) x9) [s0,s1,.sh (.lst (d.cls.map Cl.pv)),s3,s4]=some (.fk (keysOf d.cls) (d.cls.map Cl.pv)):=λs0 s1 s3 s4=>by
  refine v9 (w4 (qy Cl.pv (λc=>PV.tup [.at (.str c.name),c.pv]) d.cls rfl rfl (by omega) λc _=>⟨_,rfl,Qb (w4 (v9 rfl rfl) (w4 rfl rfl)) l2⟩) rfl) ?_;show (zL (d.cls.map λc=>PV.tup [.at (.str c.name),c.pv])).bind _=_;have k1:(d.cls.map λc=>((.inr c.name:j4),c.pv)).map (·.1)=keysOf d.cls:=by rw [yi];rfl
  have k2:(d.cls.map λc=>((.inr c.name:j4),c.pv)).map (·.2)=d.cls.map Cl.pv:=by rw [yi];rfl
  rw [Go,yF,k1,k2];exact if_pos ⟨Cq ok.nd,by rw [yZ];omega⟩
 have run:QV C [.ow (.ob C [] []),.sh (qk d.rss),.sh (.lst (d.cls.map Cl.pv)),.sh (.at (.int d.last)),.sh (.at (.int d.time))]=some (.nx [.ow (d.ob C),.sh (qk d.rss),.sh (.lst (d.cls.map Cl.pv)),.sh (.at (.int d.last)),.sh (.at (.int d.time))]) :=
  k9 (Qa (v9 rfl (Hn ok.rin ok.h1 ok.h4)) rfl (by decide) (by decide)) (k9 (vZ (v9 (w4 rfl (w4 rfl (w4 (YZ rfl (by decide) rfl (Ky ok)) rfl))) (He ok.l1 ok.l2 ok.t1)))
   (k9 (vZ (v9 (w4 rfl (w4 (YZ rfl (by decide) rfl (Ky ok)) rfl)) (NY ok.cl ok.nd ok.ten)))
   (k9 (Qa (cp _ _ _ _) rfl (by decide) (by decide)) (k9 (Qa (dk _ _ _ _) rfl (by decide) (by decide)) (k9 (Qa (y:= .at (.int d.last)) (f:="last") (ns:=["least","given","held"]) (YY (h8 (v:=false) (w6 rfl rfl rfl)) rfl) rfl (by decide) (by decide)) (Qa (y:= .at (.int d.time)) (f:="time") (ns:=["least","given","held","last"]) (xs:=[qk d.low,qk d.rss,.fk (keysOf d.cls) (d.cls.map Cl.pv),.at (.int d.last)]) rfl rfl (by decide) (by decide)))))))
 unfold wp wX;refine (if_pos rfl).trans ?_;show (QV C [.ow (.ob C [] []),.sh (qk d.rss),.sh (.lst (d.cls.map Cl.pv)),.sh (.at (.int d.last)),.sh (.at (.int d.time))]).bind _=_;rw [run];rfl
end
section
variable {C:Addr}{d:Dr}
theorem Cp (cs:List Cl):jv (keysOf cs)=some (cs.map Cl.name):=by
 induction cs with
 |nil=>rfl
 |cons c cs ih=>show (jv (keysOf cs)).map (c.name::·)=_;rw [ih];rfl
theorem Nv (ss:List Str):jE (u9 ss)=some ss:=by
 induction ss with
 |nil=>rfl
 |cons s ss ih=>show (jE (u9 ss)).map (s::·)=_;rw [ih];rfl
theorem Kz (ok:d.Ok):vh C [d.ob C]=some (.lst (u9 (jg d.names))):=by refine wa rfl (i0 (v9 (w4 (Xj rfl rfl) rfl) ?_));show (jv (keysOf d.cls)).bind _=_;rw [Cp,yF,if_pos (by rw [yZ];have:=ok.ten;omega)];rfl
theorem Kb {ss:List Str}(h:ss.Nodup):∀ i,i<=ss.length->c9 (λi=>(Sum.inr (ss.getD i ⟨#[]⟩):j4)) i=(ss.take i).map Sum.inr
 |0,_=>rfl
 |i+1,hi=>by
  have ih:=Kb h i (by omega);have hl:i<ss.length:=by omega
  have eg:ss.getD i ⟨#[]⟩=ss[i]:=qo hl;have hn:ss[i]∉ss.take i:=λz=>by
   have e:ss=ss.take i++ss[i]::ss.drop (i+1):=by rw [<- yb hl,List.take_append_drop]
   rw [e] at h;exact (List.nodup_append.mp h).2.2 _ z _ yQ rfl
  unfold c9;rw [ih,eg,if_neg (λz=>hn (by
   obtain ⟨y,hy,e⟩:=yr.mp z;injection e with e;rw [<- e];exact hy)),List.take_add_one,yN hl,yw]
  rfl
theorem CJ {ss:List Str}(h:ss.Nodup):ZY ss=ss.length:=by unfold ZY;rw [Kb h _ (yS _),yZ,List.take_length]
theorem v_are (ok:d.Ok)(L:Lst d ns):Qi C [d.ob C,w5 ns]=some (.at (.bl true)):=by
 have hlim:lim=1000000:=rfl;have l10:=L.len ok;have en:u9 (ns.map Cl.name)=(ns.map Cl.name).map λs=>PV.at (.str s):=rfl;refine i9 rfl (k9 (qC (qO (qK (v9 rfl ZO))) xj) (k9 (qD (Xl rfl (by decide) rfl (Kz ok))) (i0 (zE (v9 (w4 (qy (λs:Str=>PV.at (.str s)) (λ_=>PV.at (.bl true)) (ns.map Cl.name) rfl rfl (by rw [yZ];omega) λs hs=>⟨_,rfl,w6 rfl rfl ((Xp false s _).trans ?_)⟩) rfl) (jQ _)) (w6 (y:= .at (.int (ns.length:Int))) (x:= .at (.int (ns.length:Int))) ?_ ?_ (Mn rfl))))))
 ·obtain ⟨c,hc,rfl⟩:=yr.mp hs;have:c.name∈jg d.names:=(VC d.names).mem_iff.mpr (yr.mpr ⟨c,L.sub c hc,rfl⟩);simp [this]
 ·show (jE (u9 (ns.map Cl.name))).bind _=_;rw [Nv,yF,if_pos (by rw [yZ];omega),CJ L.nd,yZ]
 ·refine v9 rfl ?_;show some (PV.at (.int ((u9 (ns.map Cl.name)).length:Int)))=_;rw [xG,yZ]
end
theorem nm_F (l:List Cl):u9 (l.map Cl.name)=l.map λc=>PV.at (.str c.name):=by unfold u9;rw [yi];rfl
theorem Jg :(u9 (ns.map Cl.name)).length=ns.length:=by rw [xG,yZ]
theorem KZ {xs:List α}{x:α}(h:xs.getLast?=some x):atI xs (-1)=some x:=by
 have hl:xs≠[]:=λz=>by rw [z] at h;cases h
 have hp:0<xs.length:=List.length_pos_iff.mpr hl;rw [List.getLast?_eq_getElem?] at h;unfold atI ixN;rw [if_neg (by decide),if_pos (by omega)];show xs[((-1:Int)+(xs.length:Int)).toNat]?=_;rw [show ((-1:Int)+(xs.length:Int)).toNat=xs.length-1 by omega];exact h
def qg:List Cl->Nat
 |[]=>0
 |c::_=>c.hue
def y6 (T:List (List Cl)):PV:= .lst (T.map w5)
section
variable {C:Addr}{d:Dr}{T:List (List Cl)}{t:List Cl}
theorem Trays.sub (x:Trays d T)(ht:t∈T):∀ c∈t,c∈d.cls:=λc hc=>x.perm.mem_iff.mp (List.mem_flatten.mpr ⟨t,ht,hc⟩)
theorem Trays.fl (x:Trays d T)(ok:d.Ok):T.flatten.length<=10:=by rw [x.perm.length_eq];exact ok.ten
theorem Trays.len (x:Trays d T)(ok:d.Ok):T.length<=10:=yc (ZH λt ht=>(x.each t ht).ne) (x.fl ok)
theorem Trays.tl (x:Trays d T)(ok:d.Ok)(ht:t∈T):t.length<=10:=yc (ZG ht) (x.fl ok)
theorem Trays.lst (x:Trays d T)(ok:d.Ok):Lst d T.flatten:=⟨λc h=>x.perm.mem_iff.mp h,(x.perm.map Cl.name).nodup_iff.mpr ok.nd⟩
theorem Hf (ok:d.Ok)(h:∀ c∈t,c∈d.cls)(hl:t.length<=10):Qj C [d.ob C,w5 t]=some (.lst (t.map Cl.pv)):=by have hlim:lim=1000000:=rfl;exact i9 rfl (i0 (qy (λc:Cl=>PV.at (.str c.name)) Cl.pv t (by show some (u9 (t.map Cl.name))=_;rw [nm_F]) rfl (by omega) λc hc=>⟨_,rfl,Xl rfl (by decide) rfl (Kx ok (h c hc))⟩))
theorem ix0 (c:Cl)(t:List Cl):j8 (w5 (c::t)) (.at (.int 0))=some (.at (.str c.name)):=xS (xs:=u9 ((c::t).map Cl.name)) (j:=0) rfl
theorem VQ (ok:d.Ok)(h:∀ c∈t,c∈d.cls)(ne:t≠[]):jz C [d.ob C,w5 t]=some (.at (.int (qg t))):=by
 cases t with
 |nil=>exact absurd rfl ne
 |cons c t=>exact i9 rfl (i0 (v9 (w4 (Xl rfl (by decide) (w4 (w6 rfl rfl (ix0 c t)) rfl) (Kx ok (h c yQ))) rfl) rfl))
theorem Tray.hue (x:Tray t):∀ c∈t,c.hue=qg t:=λc hc=>by
 cases t with
 |nil=>cases hc
 |cons e t=>exact x.one c hc e yQ
theorem v_one (ok:d.Ok)(h:∀ c∈t,c∈d.cls)(hl:t.length<=10)(x:Tray t):Qk C [d.ob C,w5 t]=some (.at (.bl true)):=by have hlim:lim=1000000:=rfl;refine i9 rfl (i0 (v9 (w4 (qy Cl.pv (λ_=>PV.at (.bl true)) t (js (v9 rfl (Hf ok h hl))) rfl (by omega) λc hc=>⟨_,rfl,w6 (x:= .at (.int c.hue)) (v9 rfl rfl) (v9 rfl (VQ ok h x.ne)) ?_⟩) rfl) (jQ _)));rw [x.hue c hc];exact (Xi _ _).trans (by rw [yz rfl])
theorem Uu (xs:List PV):o8 [.lst xs,.at (.ty "list")]=some (.at (.bl true)):=by unfold o8 tyP;rfl
theorem Hh (ok:d.Ok)(x:Trays d T):Xt [y6 T]=some (.at (.bl true)):=by have hlim:lim=1000000:=rfl;have tl:=x.len ok;refine i9 rfl (i0 (zE (v9 rfl (Uu _)) (v9 (w4 (qy w5 (λ_=>PV.at (.bl true)) T rfl rfl (by omega) λt ht=>⟨_,rfl,zE (v9 rfl (Uu _)) (w6 (x:= .at (.int (t.length:Int))) (v9 rfl (by show some (PV.at (.int ((u9 (t.map Cl.name)).length:Int)))=_;rw [Jg])) rfl ?_)⟩) rfl) (jQ _))));have:=List.length_pos_iff.mpr (x.each t ht).ne;show some (PV.at (.bl (decide ((0:Int)<(t.length:Int)))))=_;rw [yz (by omega)]
theorem Hw (ok:d.Ok)(L:Lst d ns)(p:ns.Perm d.cls):Ql C [d.ob C,w5 ns]=some (.at (.bl true)):=by refine i9 rfl (i0 (zE (v9 rfl (v_are ok L)) (w6 (x:= .at (.int (ns.length:Int))) (y:= .at (.int (ns.length:Int))) (v9 rfl (by show some (PV.at (.int ((u9 (ns.map Cl.name)).length:Int)))=_;rw [Jg])) (v9 (w4 (Xl rfl (by decide) rfl (Kz ok)) rfl) ?_) ((Xi _ _).trans (by rw [yz rfl])))));show some (PV.at (.int ((u9 (jg d.names)).length:Int)))=_;rw [xG,(VC _).length_eq,p.length_eq];unfold Dr.names;rw [yZ]
theorem UO:∀ T:List (List Cl),xN (T.map w5)=some (T.map λt=>u9 (t.map Cl.name))
 |[]=>rfl
 |t::T=>by
  show (xN (T.map w5)).map (u9 (t.map Cl.name)::·)=_;rw [UO T];rfl
theorem Uc (T:List (List Cl)):(T.map λt=>u9 (t.map Cl.name)).flatten=u9 (T.flatten.map Cl.name):=by unfold u9;rw [List.map_flatten,List.map_flatten,yi];rfl
theorem Kw (ok:d.Ok)(x:Trays d T):vi C [d.ob C,y6 T]=some (.at .non):=by have hlim:lim=1000000:=rfl;have tl:=x.len ok;have fl:=x.fl ok;refine Xk rfl (k9 (qC (zY (qO (qK (v9 rfl (Hh ok x)))) (qO (qK (v9 (w4 rfl (w4 ((Pf rfl (UO T) ?_).trans (by rw [Uc];rfl)) rfl)) (Hw ok (x.lst ok) x.perm))))) xj) (qC (qO (qK (v9 (w4 (qy w5 (λ_=>PV.at (.bl true)) T rfl rfl (by omega) λt ht=>⟨_,rfl,v9 rfl (v_one ok (x.sub ht) (x.tl ok ht) (x.each t ht))⟩) rfl) (jQ _)))) xj));rw [Uc,Jg];omega
def xL (s:Str)(t:List Cl):Bool:=decide (s∈t.map Cl.name)
def qc:List (List Cl)->Str->Option Nat
 |[],_=>none
 |t::T,s=>if xL s t=true then some 0 else (qc T s).map (·+1)
theorem Gj {t:List Cl}{T:List (List Cl)}{s:Str}:qc (t::T) s=if xL s t=true then some 0 else (qc T s).map (·+1):=rfl
def plP:Option Nat->PV
 |some k=> .at (.int k)
 |none=> .at .non
theorem XX {s:Str}:∀{T:List (List Cl)}{k:Nat},qc T s=some k->∃ t,T[k]?=some t/\s∈t.map Cl.name
 |[],k,h=>by cases h
 |t::T,k,h=>by
  unfold qc at h;split at h
  ·rename_i h1;cases h;exact ⟨t,rfl,uV h1⟩
  ·obtain ⟨j,hj,rfl⟩:=yJ.mp h;obtain ⟨u,h1,h2⟩:=XX hj;exact ⟨u,by simpa using h1,h2⟩
theorem Gk {s:Str}:∀{T:List (List Cl)},(∀ t∈T,s∉t.map Cl.name)->qc T s=none
 |[],_=>rfl
 |t::T,h=>by
  unfold qc;rw [if_neg (by unfold xL;rw [yH (h t yQ)];exact yU),Gk λu hu=>h u (yR _ hu)];rfl
theorem Gm {s:Str}:∀{T:List (List Cl)}{t:List Cl},t∈T->s∈t.map Cl.name->∃ k,qc T s=some k
 |u::T,t,ht,hs=>by
  unfold qc;split
  ·exact ⟨0,rfl⟩
  ·rename_i h1;rcases yM.mp ht with rfl|ht
   ·exact absurd (yz hs) h1
   ·obtain ⟨k,hk⟩:=Gm ht hs;exact ⟨k+1,by rw [hk];rfl⟩
abbrev plG:MG:=qT 2 (m8 (v6 2) (m8 (v6 3) qS))
abbrev plB:MS:=p9 (dT (z0 (pIn false) (x8 1) (x8 3))) (k8 (x6 2)) m5
theorem Gi {x0:PV}{s:Str}:∀{T:List (List Cl)}{k:Nat}{u v:MSlot},(∃ j,qc T s=some j/\qJ plG plB (r6 k (T.map w5)) [.sh x0,.sh (.at (.str s)),u,v]=some (.rt (.at (.int ((k+j:Nat):Int)))))∨(qc T s=none/\∃ u' v',qJ plG plB (r6 k (T.map w5)) [.sh x0,.sh (.at (.str s)),u,v]=some (.nx [.sh x0,.sh (.at (.str s)),u',v']))
 |[],k,u,v=> .inr ⟨rfl,u,v,rfl⟩
 |t::T,k,u,v=>by
  have c1:dT (z0 (pIn false) (x8 1) (x8 3)) [.sh x0,.sh (.at (.str s)),.sh (.at (.int k)),.sh (w5 t)]=some (xL s t):=h8 (w6 rfl rfl (Xp false s (t.map Cl.name)));cases h:xL s t with
  |true=>refine .inl ⟨0,by unfold qc;rw [h];rfl,?_⟩;have b1:plB [.sh x0,.sh (.at (.str s)),.sh (.at (.int k)),.sh (w5 t)]=some (.rt (.at (.int k))):=jX (c1.trans (by rw [h])) rfl;show Option.bind (plB [.sh x0,.sh (.at (.str s)),.sh (.at (.int k)),.sh (w5 t)]) _=_;rw [b1];rfl
  |false =>
   have b1:plB [.sh x0,.sh (.at (.str s)),.sh (.at (.int k)),.sh (w5 t)]=some (.nx [.sh x0,.sh (.at (.str s)),.sh (.at (.int k)),.sh (w5 t)]):=qC (c1.trans (by rw [h])) rfl;have st:qJ plG plB (r6 k ((t::T).map w5)) [.sh x0,.sh (.at (.str s)),u,v]=qJ plG plB (r6 (k+1) (T.map w5)) [.sh x0,.sh (.at (.str s)),.sh (.at (.int k)),.sh (w5 t)]:=by show Option.bind (plB [.sh x0,.sh (.at (.str s)),.sh (.at (.int k)),.sh (w5 t)]) _=_;rw [b1];rfl
   have ep:qc (t::T) s=(qc T s).map (·+1):=by rw [Gj,h];rfl
   rcases Gi (x0:=x0) (s:=s) (T:=T) (k:=k+1) (u:= .sh (.at (.int k))) (v:= .sh (w5 t)) with ⟨j,e1,e2⟩|⟨e1,u',v',e2⟩
   ·refine .inl ⟨j+1,by rw [ep,e1];rfl,?_⟩;rw [st,e2,show k+1+j=k+(j+1) by omega]
   ·exact .inr ⟨by rw [ep,e1];rfl,u',v',by rw [st,e2]⟩
theorem Hv {s:Str}:Qq [y6 T,.at (.str s)]=some (plP (qc T s)):=by
 rcases Gi (x0:=y6 T) (s:=s) (T:=T) (k:=0) (u:= .no) (v:= .no) with ⟨j,e1,e2⟩|⟨e1,u',v',e2⟩
 ·rw [e1];refine i9 rfl ?_;show y8 (xi (xn (q0 (x6 0) x9)) plG plB) _ _=_;have:xi (xn (q0 (x6 0) x9)) plG plB [.sh (y6 T),.sh (.at (.str s)),.no,.no]=some (.rt (.at (.int ((0+j:Nat):Int)))):=jr (xs:=r6 0 (T.map w5)) rfl e2;unfold y8;show Option.bind (xi (xn (q0 (x6 0) x9)) plG plB [.sh (y6 T),.sh (.at (.str s)),.no,.no]) _=_;rw [this,Nat.zero_add];rfl
 ·rw [e1];exact i9 rfl (k9 (jr (xs:=r6 0 (T.map w5)) rfl e2) rfl)
def z5 (m:Str×Int):PV:= .tup [.at (.str m.1),.at (.int m.2)]
def qh (T:List (List Cl))(m:Str×Int):Bool:=match qc T m.1 with
 |none=>false
 |some k=>!decide ((k:Int)=m.2)&&(decide (0<=m.2/\m.2<T.length)&&decide (qg (T.getD k [])=qg (T.getD m.2.toNat [])))
theorem Ks {k:Nat}{t:List Cl}(h:T[k]?=some t):j8 (y6 T) (.at (.int (k:Int)))=some (w5 t):=xS (xs:=T.map w5) (by rw [yO,h];rfl)
theorem Hk (ok:d.Ok)(x:Trays d T):xU C [d.ob C,y6 T,z5 m]=some (.at (.bl (qh T m))):=by
 obtain ⟨s,to⟩:=m;have e0:z6 Qq (q0 (x6 1) (q0 (z0 j8 (x8 2) (dC (.int 0))) x9)) [.sh (d.ob C),.sh (y6 T),.sh (z5 (s,to)),.no,.no]=some (plP (qc T s)):=v9 (w4 rfl (w4 (w6 rfl rfl rfl) rfl)) Hv;unfold qh;cases hp:qc T s with
 |none=>rw [hp] at e0;refine i9 rfl (k9 (qD e0) (k9 (qD (x:= .at (.int to)) (w6 rfl rfl rfl)) (ZE (jX (YK rfl) rfl))))
 |some k =>
  rw [hp] at e0;obtain ⟨t,ht,hs⟩:=XX hp;have tl:=(yD.mp ht).1;have gk:T.getD k []=t:=by rw [yA,ht];rfl
  have en:dT (z0 Qw (x8 3) (dC .non)) [.sh (d.ob C),.sh (y6 T),.sh (z5 (s,to)),.sh (.at (.int k)),.sh (.at (.int to))]=some false:=rfl;have ee:dT (z0 qi (x8 3) (x8 4)) [.sh (d.ob C),.sh (y6 T),.sh (z5 (s,to)),.sh (.at (.int k)),.sh (.at (.int to))]=some (decide ((k:Int)=to)):=h8 (w6 rfl rfl (Xi _ _));have ec:dT (zV pLe pLt (dC (.int 0)) (x8 4) (z6 o9 (q0 (x8 1) x9))) [.sh (d.ob C),.sh (y6 T),.sh (z5 (s,to)),.sh (.at (.int k)),.sh (.at (.int to))]=some (decide (0<=to/\to<T.length)):=by
   refine h8 ?_;show Option.bind (some (decide ((0:Int)<=to))) (λc=>if c=true then some (PV.at (.bl (decide (to<((T.map w5).length:Int))))) else some (.at (.bl false)))=_;rw [yZ];by_cases h:(0:Int)<=to
   ·rw [yz h,yF,if_pos rfl];have:decide (to<(T.length:Int))=decide (0<=to/\to<(T.length:Int)):=by simp [h]
    rw [this]
   ·rw [yH h,yF,if_neg yU];have:decide (0<=to/\to<(T.length:Int))=false:=by simp [h]
    rw [this]
  refine i9 rfl (k9 (qD e0) (k9 (qD (x:= .at (.int to)) (w6 rfl rfl rfl)) ?_));show y8 _ _ _=some (Out.rt (.at (.bl (!decide ((k:Int)=to)&&(decide (0<=to/\to<(T.length:Int))&&decide (qg (T.getD k [])=qg (T.getD to.toNat [])))))));by_cases h1:(k:Int)=to
  ·rw [yz h1] at ee ⊢;exact ZE (jX (Zx en (YK ee)) rfl)
  ·rw [yH h1] at ee ⊢;by_cases h2:0<=to/\to<T.length
   ·rw [yz h2] at ec ⊢;obtain ⟨j,rfl⟩:=yd h2.1;have jl:j<T.length:=by omega
    have hj:=yN jl;have gj:T.getD j []=T[j]:=by rw [yA,hj];rfl
    have mt:=yp ht;have mj:=yj jl;refine k9 (qC (zY en (zY ee (qO ec))) rfl) (i0 (w6 (v9 (w4 rfl (w4 (w6 rfl rfl (Ks ht)) rfl)) (VQ ok (x.sub mt) (x.each t mt).ne)) (v9 (w4 rfl (w4 (w6 rfl rfl (Ks hj)) rfl)) (VQ ok (x.sub mj) (x.each _ mj).ne)) ?_));rw [Xi];show _=some (PV.at (.bl (!false&&(true&&decide (qg (T.getD k [])=qg (T.getD ((j:Int)).toNat []))))));rw [uQ,gk,gj];simp;omega
   ·rw [yH h2] at ec ⊢;exact ZE (jX (Zx en (Zx ee (YJ ec))) rfl)
end
section
variable {C:Addr}{d:Dr}{T:List (List Cl)}{t:List Cl}{s:Str}{c:Cl}
def rm (s:Str)(t:List Cl):List Cl:=t.filter λe=>!decide (e.name=s)
def xo (T:List (List Cl))(c:Cl)(to:Nat):List (List Cl):=((T.map (rm c.name)).set to ((T.map (rm c.name)).getD to []++[c])).filter λt=>!t.isEmpty
theorem CT (a b:Str):pNe (.at (.str a)) (.at (.str b))=some (.at (.bl (!decide (a=b)))):=by show some (PV.at (.bl (!m7 (.str a) (.str b))))=_;have:m7 (.str a) (.str b)=decide (a=b):=rfl;rw [this]
theorem BZ (a b:Str):qi (.at (.str a)) (.at (.str b))=some (.at (.bl (decide (a=b)))):=by show some (PV.at (.bl (m7 (.str a) (.str b))))=_;have:m7 (.str a) (.str b)=decide (a=b):=rfl;rw [this]
theorem GT (hl:t.length<=10):b8 [none,some 1] [0] (y9 (x6 0)) (v6 0) (dT (z0 pNe (x8 0) (x8 1))) (x6 0) [.sh (w5 t),.sh (.at (.str s))]=some (w5 (rm s t)):=by have hlim:lim=1000000:=rfl;refine (YU (λc:Cl=>PV.at (.str c.name)) (λc:Cl=>PV.at (.str c.name)) (λe=>!decide (e.name=s)) t (by show some (u9 (t.map Cl.name))=_;rw [nm_F]) rfl (by omega) λc _=>⟨_,rfl,h8 (w6 rfl rfl (CT _ _)),λ_=>rfl⟩).trans ?_;unfold w5 rm;rw [nm_F]
theorem HC (hl:t.length<=10):Qs [w5 t,.at (.str s)]=some (w5 (rm s t)):=wa rfl (i0 (GT hl))
abbrev nmL (T:List (List Cl)):List (List PV):=T.map λt=>u9 (t.map Cl.name)
theorem Je (T:List (List Cl)):(nmL T).map PV.lst=T.map w5:=by rw [yi];rfl
theorem Jf (T:List (List Cl))(j:Nat):(nmL T).getD j []=u9 ((T.getD j []).map Cl.name):=by rw [yA,yA,yO];cases T[j]?<;>rfl
theorem UW (T:List (List Cl))(j:Nat)(c:Cl):((nmL T).set j ((nmL T).getD j []++[.at (.str c.name)])).map PV.lst=(T.set j (T.getD j []++[c])).map w5:=by
 rw [List.map_set,List.map_set,Je,Jf]
 congr 1
 unfold w5 u9;rw [yw,yw];rfl
theorem Jy (e:Cl)(h:e∈rm s t):e∈t/\e.name≠s:=by obtain ⟨h1,h2⟩:=ux.mp h;exact ⟨h1,by simpa using h2⟩
theorem GU:(rm s t).length<=t.length:=List.length_filter_le _ _
theorem Hu (ok:d.Ok)(x:Trays d T)(hto:to<T.length):vj [y6 T,z5 (c.name,(to:Int))]=some (y6 (xo T c to)):=by
 have hlim:lim=1000000:=rfl;have tl:=x.len ok;have e1:=YX (n:=2) (cap:=[none,some 1]) (ts:=[0]) (it:=y9 (x6 0)) (g:=v6 0) (c:=p6) (f:=z6 Qs (q0 (x6 0) (q0 (z0 j8 (x8 1) (dC (.int 0))) x9))) (k:=z0 j8 (x8 1) (dC (.int 1))) (x:=z0 j8 (x8 1) (dC (.int 0))) (ε:=[.sh (y6 T),.sh (z5 (c.name,(to:Int))),.no]) (xs:=T.map w5) (ls:=nmL (T.map (rm c.name))) (j:=to) (y:= .at (.str c.name)) rfl rfl (by rw [yZ];omega) (by show 2<3;decide)
  (by rw [Je,yi];exact Xa w5 (λt=>w5 (rm c.name t)) T λt ht=>⟨_,rfl,v9 (w4 rfl (w4 (w6 rfl rfl rfl) rfl)) (HC (x.tl ok ht))⟩) rfl rfl (by rw [yZ,yZ];exact hto) (by
   rw [Jf,xG,yZ,yA,yO,yN hto];have:=GU (s:=c.name) (t:=T[to]);have:=x.tl ok (yj hto);show (rm c.name T[to]).length<=lim;omega)
 rw [UW] at e1;refine i9 rfl (k9 e1 (i0 ?_));have hl2:((T.map (rm c.name)).set to ((T.map (rm c.name)).getD to []++[c])).length=T.length:=by rw [yn,yZ]
 show jV [none] [0] (y9 (x8 2)) (v6 0) (m6 (x8 0)) (x6 0) _=some (y6 (xo T c to));unfold y6 xo;generalize (T.map (rm c.name)).set to ((T.map (rm c.name)).getD to []++[c])=T2 at hl2 ⊢;refine YW (xs:=T2.map w5) rfl rfl (by rw [yZ];omega) ?_;refine QY w5 w5 (λt=>!t.isEmpty) T2 λt _=>⟨_,rfl,?_,λ_=>rfl⟩;show (some (w5 t)).bind pTru=_;show some (!(u9 (t.map Cl.name)).isEmpty)=_;cases t<;>rfl
theorem Hr (ok:d.Ok)(x:Trays d T)(hto:to<T.length):XA [y6 T,.at (.str c.name),.at (.int (to:Int))]=some (y6 (xo T c to)):=by
 have hlim:lim=1000000:=rfl;have tl:=x.len ok;have e1:=YX (n:=3) (cap:=[none,some 1]) (ts:=[0]) (it:=y9 (x6 0)) (g:=v6 0) (c:=p6) (f:=b8 [none,some 1] [0] (y9 (x6 0)) (v6 0) (dT (z0 pNe (x8 0) (x8 1))) (x6 0)) (k:=x6 2) (x:=x6 1) (ε:=[.sh (y6 T),.sh (.at (.str c.name)),.sh (.at (.int (to:Int))),.no]) (xs:=T.map w5) (ls:=nmL (T.map (rm c.name))) (j:=to) (y:= .at (.str c.name)) rfl rfl (by rw [yZ];omega) (by show 3<4;decide)
  (by rw [Je,yi];exact Xa w5 (λt=>w5 (rm c.name t)) T λt ht=>⟨_,rfl,GT (x.tl ok ht)⟩) rfl rfl (by rw [yZ,yZ];exact hto) (by
   rw [Jf,xG,yZ,yA,yO,yN hto];have:=GU (s:=c.name) (t:=T[to]);have:=x.tl ok (yj hto);show (rm c.name T[to]).length<=lim;omega)
 rw [UW] at e1;refine i9 rfl (k9 e1 (i0 ?_));have hl2:((T.map (rm c.name)).set to ((T.map (rm c.name)).getD to []++[c])).length=T.length:=by rw [yn,yZ]
 show jV [none] [0] (y9 (x8 3)) (v6 0) (dT (z0 pGt (z6 o9 (q0 (x8 0) x9)) (dC (.int 0)))) (x6 0) _=some (y6 (xo T c to));unfold y6 xo;generalize (T.map (rm c.name)).set to ((T.map (rm c.name)).getD to []++[c])=T2 at hl2 ⊢;refine YW (xs:=T2.map w5) rfl rfl (by rw [yZ];omega) ?_;refine QY w5 w5 (λt=>!t.isEmpty) T2 λt _=>⟨_,rfl,h8 (w6 (v9 rfl rfl) rfl ?_),λ_=>rfl⟩;show some (PV.at (.bl (decide ((0:Int)<((u9 (t.map Cl.name)).length:Int)))))=_;cases t with
 |nil=>rfl
 |cons a t=>rw [yz (by rw [xG,yZ,yC];omega)];rfl
theorem ZI {α:Type}:∀ T:List (List α),(T.filter λt=>!t.isEmpty).flatten=T.flatten
 |[]=>rfl
 |[]::T=>by rw [ur];exact ZI T
 |(a::t)::T=>by
  show ((a::t)::T.filter λt=>!t.isEmpty).flatten=_;rw [yk,yk,ZI T]
theorem Ud (s:Str):∀ T:List (List Cl),(T.map (rm s)).flatten=rm s T.flatten
 |[]=>rfl
 |t::T=>by
  rw [yK,yk,yk,Ud s T];unfold rm;rw [List.filter_append]
theorem GV:∀{l:List Cl},(l.map Cl.name).Nodup->c∈l->(c::rm c.name l).Perm l
 |e::l,nd,hc=>by
  obtain ⟨h1,h2⟩:=yt.mp nd;by_cases he:e.name=c.name
  ·have ec:e=c:=by
    rcases yM.mp hc with z|z
    ·exact z.symm
    ·exact absurd (he▸yr.mpr ⟨c,z,rfl⟩) h1
   subst ec;have:rm e.name (e::l)=l:=by unfold rm;rw [ur,if_neg (by simp)];refine List.filter_eq_self.mpr λa ha=>?_;have:a.name≠e.name:=λz=>h1 (z▸yr.mpr ⟨a,ha,rfl⟩);simp [this]
   rw [this]
  ·have hc':c∈l:=by
    rcases yM.mp hc with z|z
    ·exact absurd (by rw [z]) he
    ·exact z
   have:rm c.name (e::l)=e::rm c.name l:=by unfold rm;rw [ur,if_pos (by simp [he])]
   rw [this];exact (List.Perm.swap e c _).trans ((GV h2 hc').cons e)
theorem Trays.mov (ok:d.Ok)(x:Trays d T)(hc:c∈d.cls)(hto:to<T.length)(hh:c.hue=qg (T.getD to [])):Trays d (xo T c to):=by
 have hL:to<(T.map (rm c.name)).length:=by rw [yZ];exact hto
 have gt:T.getD to []=T[to]:=by rw [yA,yN hto];rfl
 have g1:(T.map (rm c.name))[to]?=some (rm c.name T[to]):=by rw [yO,yN hto];rfl
 have g2:(T.map (rm c.name)).getD to []=rm c.name T[to]:=by rw [yA,g1];rfl
 rw [gt] at hh;have mt:=yj hto;refine ⟨?_,λu hu=>?_⟩
 ·unfold xo;rw [ZI,g2];refine (ZJ g1).trans ?_;rw [Ud];exact (GV (x.lst ok).nd (x.perm.mem_iff.mpr hc)).trans x.perm
 ·unfold xo at hu;rw [g2] at hu;obtain ⟨h1,h2⟩:=ux.mp hu;refine ⟨(λz=>by rw [z] at h2;cases h2),?_⟩;rcases List.mem_or_eq_of_mem_set h1 with h|rfl
  ·obtain ⟨w,hw,rfl⟩:=yr.mp h;exact λa ha b hb=>(x.each w hw).one a (Jy a ha).1 b (Jy b hb).1
  ·have hu2:∀ a∈rm c.name T[to]++[c],a.hue=c.hue:=λa ha=>by
    rcases yx.mp ha with h|h
    ·rw [hh];exact (x.each _ mt).hue a (Jy a h).1
    ·rw [yP.mp h]
   exact λa ha b hb=>by rw [hu2 a ha,hu2 b hb]
end
section
variable {C CM:Addr}{d:Dr}{T T':List (List Cl)}{t:List Cl}{s:Str}{c:Cl}
structure vI (d:Dr)(T:List (List Cl))(c:Cl)(to:Nat):Prop where
 mem:c∈d.cls
 lt:to<T.length
 hue:c.hue=qg (T.getD to [])
 yes:qh T (c.name,(to:Int))=true
inductive Walk (d:Dr):List (List Cl)->List (Str×Int)->List (List Cl)->Prop
 |nil {T:List (List Cl)}:Walk d T [] T
 |cons {T T':List (List Cl)} {c:Cl} {to:Nat} {ms:List (Str×Int)}:vI d T c to->Walk d (xo T c to) ms T'->Walk d T ((c.name,(to:Int))::ms) T'
theorem Walk.trays (ok:d.Ok)(w:Walk d T ms T')(x:Trays d T):Trays d T':=by
 induction w with
 |nil=>exact x
 |cons m _ ih=>exact ih (x.mov ok m.mem m.lt m.hue)
theorem Walk.snoc (w:Walk d T ms T')(m:vI d T' c to):Walk d T (ms++[(c.name,(to:Int))]) (xo T' c to):=by
 induction w with
 |nil=>exact .cons m .nil
 |cons m' _ ih=>exact .cons m' (ih m)
abbrev twG:MG:=qT 2 (m8 (v6 4) (m8 (v6 5) qS))
abbrev twC (C:Addr):MB:=n9 (m6 (z6 (xU C) (q0 (x6 0) (q0 (x6 3) (q0 (x6 5) x9)))))
abbrev twB (C:Addr):MS:=y8 (p9 (twC C) qw m5) (i8 3 (z6 vj (q0 (x6 3) (q0 (x6 5) x9))))
abbrev twY (CM C:Addr):YM:=wM false (p9 (twC C) qw m5) (yIf (twC C) (VY CM "at" (x6 4)) yNo) yNo
abbrev t0 (C:Addr)(d:Dr)(x1 x2:PV)(T:List (List Cl))(u v:MSlot):ME:=[.sh (d.ob C),.sh x1,.sh x2,.sh (y6 T),u,v]
theorem wI (ok:d.Ok)(x:Trays d T):twC C (t0 C d x1 x2 T u (.sh (z5 m)))=some (!qh T m):=by have e1:z6 (xU C) (q0 (x6 0) (q0 (x6 3) (q0 (x6 5) x9))) (t0 C d x1 x2 T u (.sh (z5 m)))=some (.at (.bl (qh T m))):=v9 (w4 rfl (w4 rfl (w4 rfl rfl))) (Hk ok x);show Option.bind (Option.bind (z6 (xU C) (q0 (x6 0) (q0 (x6 3) (q0 (x6 5) x9))) (t0 C d x1 x2 T u (.sh (z5 m)))) pTru) _=_;rw [e1];rfl
theorem Zi (ok:d.Ok)(x:Trays d T)(h:vI d T c to):twB C (t0 C d x1 x2 T u (.sh (z5 (c.name,(to:Int)))))=some (.nx (t0 C d x1 x2 (xo T c to) u (.sh (z5 (c.name,(to:Int)))))):=by refine k9 (ε1:=t0 C d x1 x2 T u (.sh (z5 (c.name,(to:Int))))) (qC (by rw [wI ok x,h.yes];rfl) rfl) ?_;exact qD (v9 (w4 rfl (w4 rfl rfl)) (Hu ok x h.lt))
theorem NJ (ok:d.Ok)(w:Walk d T ms T'):∀{k:Nat}{u v:MSlot},Trays d T->∃ u' v',qJ twG (twB C) (r6 k (ms.map z5)) (t0 C d x1 x2 T u v)=some (.nx (t0 C d x1 x2 T' u' v')):=by
 induction w with
 |nil=>exact λ_=>⟨_,_,rfl⟩
 |@cons T0 T1 c to ms m _ ih=>intro k u v x;obtain ⟨u',v',e⟩:=ih (k:=k+1) (u:= .sh (.at (.int k))) (v:= .sh (z5 (c.name,(to:Int)))) (x.mov ok m.mem m.lt m.hue);refine ⟨u',v',?_⟩;show Option.bind (twB C (t0 C d x1 x2 T0 (.sh (.at (.int k))) (.sh (z5 (c.name,(to:Int)))))) _=_;rw [Zi ok x m];exact e
theorem NI (ok:d.Ok)(w:Walk d T ms T')(hb:qh T' b=false):∀ {k:Nat} {u v:MSlot},Trays d T->wL twG (twB C) (twY CM C) (r6 k (ms.map z5++z5 b::rest)) (t0 C d x1 x2 T u v) CM (some (("at":Str),V.int ((k+ms.length:Nat):Int))):=by
 induction w with
 |nil=>intro k u v x;refine ⟨t0 C d x1 x2 _ (.sh (.at (.int k))) (.sh (z5 b)),rfl,.inl (.inl ⟨true,by rw [wI ok x,hb];rfl,rfl,_,rfl,rfl⟩)⟩
 |@cons T0 T1 c to ms m _ ih=>intro k u v x;have:=ih hb (k:=k+1) (u:= .sh (.at (.int k))) (v:= .sh (z5 (c.name,(to:Int)))) (x.mov ok m.mem m.lt m.hue);rw [show k+1+ms.length=k+(ms.length+1) by omega] at this;exact ⟨t0 C d x1 x2 _ (.sh (.at (.int k))) (.sh (z5 (c.name,(to:Int)))),rfl,.inr ⟨_,.inl (Zi ok x m),this⟩⟩
theorem NM (ok:d.Ok){c':Addr}{y:XV}(w:Walk d T ms T')(hb:qh T' b=false):∀ {k:Nat} {u v:MSlot},Trays d T->wL twG (twB C) (twY CM C) (r6 k (ms.map z5++z5 b::rest)) (t0 C d x1 x2 T u v) c' y->y=some (("at":Str),V.int ((k+ms.length:Nat):Int)):=by
 have st:∀{T:List (List Cl)}{k:Nat}{u v:MSlot}{m:Str×Int},twG (.tup [.at (.int (k:Int)),z5 m]) (t0 C d x1 x2 T u v)=some (t0 C d x1 x2 T (.sh (.at (.int k))) (.sh (z5 m))):=rfl;have nob:∀{T:List (List Cl)}{u:MSlot}{m:Str×Int}{ε2:ME},Trays d T->qh T m=false->¬ (twB C (t0 C d x1 x2 T u (.sh (z5 m)))=some (.nx ε2)∨twB C (t0 C d x1 x2 T u (.sh (z5 m)))=some (.ct ε2)):=λ{T u m ε2} x h z=>by
  have e:twB C (t0 C d x1 x2 T u (.sh (z5 m)))=none:=by show Option.bind (Option.bind (twC C (t0 C d x1 x2 T u (.sh (z5 m)))) _) _=_;rw [wI ok x,h];rfl
  rw [e] at z;rcases z with z|z<;>cases z
 have noy:∀{T:List (List Cl)}{u:MSlot}{m:Str×Int},Trays d T->qh T m=true->¬ twY CM C (t0 C d x1 x2 T u (.sh (z5 m))) c' y:=λ{T u m} x h z=>by
  rcases z with ⟨bb,e,z⟩|⟨_,_,z⟩
  ·rw [wI ok x,h] at e;cases e;exact z
  ·exact z
 induction w with
 |nil =>
  rintro k u v x ⟨ε1,e1,h⟩;rw [show k+List.length ([]:List (Str×Int))=k from rfl];cases (st.symm.trans e1);rcases h with h|⟨ε2,h,_⟩
  ·rcases h with ⟨bb,e,z⟩|⟨_,_,z⟩
   ·rw [wI ok x,hb] at e;cases e;obtain ⟨_,vv,ev,z⟩:=z;cases ev;exact z
   ·exact z.elim
  ·exact (nob x hb h).elim
 |@cons T0 T1 c to ms m _ ih =>
  rintro k u v x ⟨ε1,e1,h⟩;cases (st.symm.trans e1);rcases h with h|⟨ε2,h,r⟩
  ·exact (noy x m.yes h).elim
  ·have:ε2=t0 C d x1 x2 (xo T0 c to) (.sh (.at (.int k))) (.sh (z5 (c.name,(to:Int)))):=by rcases h with h|h<;>rw [Zi ok x m] at h<;>cases h;rfl
   subst this;have:=ih hb (k:=k+1) (x.mov ok m.mem m.lt m.hue) r;rw [this,yC,show k+1+ms.length=k+(ms.length+1) by omega]
end
theorem HH {z:Int}:XG [.at (.int z)]=some (.at (.bl true)):=i9 rfl (i0 (zE (v9 rfl Us) (Ua (v:=false) (v9 rfl Ut))))
open Classical in
noncomputable def zp (Ab Aa:Addr):List PV->Option PV:=λxs=>if (jc Aa xs).isSome=true then some (.at (.int (-1))) else if h:∃ z:Int,jH Ab Aa xs Ab (some (("at":Str),V.int z)) then some (.at (.int h.choose)) else none
theorem Kr (h:xs.length=3):∃ a b c,xs=[a,b,c]:=by
 match xs,h with
 |[a,b,c],_=>exact ⟨a,b,c,rfl⟩
theorem NK {r:PV}(h:jc C xs=some r):xs.length=3:=by
 unfold jc b7 at h;split at h
 ·assumption
 ·cases h
theorem hm_at {K:Fg}(v1:PySem.W.exmOne K (.ref Ab) (.ref Ag)=some true)(v2:PySem.W.kitOne K (.ref Ab) (.ref Ab)=some true)(v3:PySem.W.kitOne K (.ref Ab) (.type "ValueError")=some true)(v4:PySem.W.kitOne K (.ref Ab) (.ref Ak)=some false)(v5:PySem.W.kitOne K (.ref Ab) (.ref Al)=some false):∀ xs y,zp Ab Aa xs=some y->rFn 6 3 (r_at K Ab Ak Al Ag Aa) xs y:=by
 intro xs y h;unfold zp at h;split at h
 ·rename_i hw;cases h;obtain ⟨r,er⟩:=Option.isSome_iff_exists.mp hw;obtain ⟨a,b,c,rfl⟩:=Kr (NK er);refine ⟨rfl,.rt (.at (.int (-1))),.inl ⟨_,qD (x:= .at (.int (-1))) rfl,.inl ⟨[.sh a,.sh b,.sh c,.sh (.at (.int (-1))),.no,.no],.inl ?_,rfl⟩⟩,rfl⟩;exact vZ (v9 (w4 rfl (w4 rfl (w4 rfl rfl))) er)
 ·split at h
  ·rename_i hx;have wb:=hx.choose_spec;generalize hx.choose=z at h wb;cases h;obtain ⟨a,b,c,rfl⟩:=Kr wb.1;refine ⟨rfl,.rt (.at (.int z)),.inl ⟨_,qD (x:= .at (.int (-1))) rfl,.inl ⟨[.sh a,.sh b,.sh c,.sh (.at (.int z)),.no,.sh (.at (.bl false))],.inr ⟨Ab,some ("at",.int z),by simp,v1,⟨_,rfl,wb⟩,λea dx hd=>⟨.nx [.sh a,.sh b,.sh c,.sh (.at (.int z)),.sh (.op (exV ea (some ("at",.int z)) dx)),.sh (.at (.bl false))],?_,rfl⟩⟩,rfl⟩⟩,rfl⟩;have dE:∀ p q:MSlot,zW ea (some ("at",.int z)) dx 4 [.sh a,.sh b,.sh c,p,.sh (.op (exV ea (some ("at",.int z)) dx)),q]=some (.at (.ref ea)):=λp q=>by
    unfold zW;exact if_pos rfl
   have dX:∀ p q:MSlot,vW ea (some ("at",.int z)) dx "at" 4 [.sh a,.sh b,.sh c,p,.sh (.op (exV ea (some ("at",.int z)) dx)),q]=some (.at (.int z)):=λp q=>by
    unfold vW;exact (if_pos rfl).trans (if_pos rfl)
   have is1:∀ {d:V} {dv:Value} {t:Bool},o5 d=some dv->PySem.W.kitOne K (.ref Ab) dv=some t->∀ p q:MSlot,z6 (vo K ea Ab) (q0 (zW ea (some ("at",.int z)) dx 4) (q0 (dC d) x9)) [.sh a,.sh b,.sh c,p,.sh (.op (exV ea (some ("at",.int z)) dx)),q]=some (.at (.bl t)):=λ{d dv t} h1 h2 p q=>by
    refine v9 (w4 (dE p q) (w4 rfl rfl)) ?_;show (if ea=ea then (o5 d).bind λd=>(PySem.W.kitOne K (.ref Ab) d).bind λb=>some (PV.at (.bl b)) else none)=_;rw [if_pos rfl,h1,yF,h2];rfl
   refine k9 (qD (x:= .at (.int (-2))) rfl) (k9 (qD (x:= .at (.bl false)) ?_) (jX ?_ (jX ?_ (qD (x:= .at (.int z)) (dX _ _)))))
   ·exact Pe (is1 rfl v4 _ _) (is1 rfl v5 _ _)
   ·exact Xb (qK (is1 rfl v2 _ _)) (Xb (qK (is1 rfl v3 _ _)) (YJ (qK rfl)))
   ·exact qK (v9 (w4 (dX _ _) rfl) HH)
  ·cases h
theorem ok_at (F:Fun K "_law_at" "_law_at" s_at f fd)(D2:Fy P w K mg base 5 "tray_walked" ["works","trays","moves"] (wF (jc Aa) (jH Ab Aa)))(Iq:Fs P w K mg base 1 "_law_whole" ["thing"] (v8 XG))(D6:mg "ValueError"=none)(Ac:mg "isinstance"=none)(Ej:mg "NoMove"=some (.ref Ab))(E2:mg "NoName"=some (.ref Ak))(Ew:mg "NoPlan"=some (.ref Al))(D7:mg "RinseError"=some (.ref Ag))(B8:PySem.W.findIn K (.ref Ab) "at"=some none)(Ek:PySem.W.hasDictIn K Ab=true)(Az:xk K Ab)(Ap:PySem.W.exmOne K (.ref Ab) (.ref Ag)=some true)(Av:PySem.W.kitOne K (.ref Ab) (.ref Ab)=some true)(D4:PySem.W.kitOne K (.ref Ab) (.type "ValueError")=some true)(Ax:PySem.W.kitOne K (.ref Ab) (.ref Ak)=some false)(Aw:PySem.W.kitOne K (.ref Ab) (.ref Al)=some false):FnOk P w K mg base v7 6 f fd ["works","trays","moves"] (v8 (zp Ab Aa)) :=
 okT (k:=5) (r:=r_at K Ab Ak Al Ag Aa) F sc_at (hm_at Ap Av D4 Ax Aw) λcdv A outer s H E hr=>⟨_,(j7 (sW 3 sc_at.nd (zK zP z7))
  (j7 (La (K:=K) (cs:=[Ab]) (i:=4) rfl rfl rfl rfl rfl D7 sc_at.nd rfl rfl rfl (λE _ _ _ hp=>(Lc (Lb (MH D2 hr (by decide) hp rfl (aC (pv 0) (aC (pv 1) (aW (pv 2))))))))
   (λpn ea oe vs c dx hc hf hd hE hm=>(j7 (sW 3 sc_at.nd (zK zP z7))
  (j7 (sW 5 sc_at.nd (pe_or (u7 (QX (K:=K) rfl hm hc ((wd Az we) c hE)) rfl Ac xh (aC (pv 4) (aW (vp (v:= .ref Ak) rfl E2 rfl)))) (zJ (u7 (QX (K:=K) rfl hm hc ((wd Az we) c hE)) rfl Ac xh (aC (pv 4) (aW (vp (v:= .ref Al) rfl Ew rfl)))))))
  (j6 (c8 (PW.pt (Za (qp (K:=K) rfl (u7 (QX (K:=K) rfl hm hc ((wd Az we) c hE)) rfl Ac xh (aC (pv 4) (aW (vp (v:= .ref Ab) rfl Ej rfl)))) (λ_=>rfl)) (Za (qp (K:=K) rfl (u7 (QX (K:=K) rfl hm hc ((wd Az we) c hE)) rfl Ac xh (aC (pv 4) (aW (xP (v:= .ty "ValueError") rfl D6 Bh rfl)))) (λ_=>rfl)) (Jt (qG (qp (K:=K) rfl (pv 5) (λ_=>rfl))))))) (j6 (c8 (qp (K:=K) rfl (pe_fs Iq (L2.Room.s hr) (by decide) rfl (aW (Gh (K:=K) rfl ((wd Az we) c hE) ((Ui Ek Uj) c hE) ((US B8 UT) c hE) hm hc hf hd (pv 4) rfl))) (λ_=>rfl)) (j6 (sW 3 sc_at.nd (Gh (K:=K) rfl ((wd Az we) c hE) ((Ui Ek Uj) c hE) ((US B8 UT) c hE) hm hc hf hd (pv 4) rfl))) m9)) m9))))))
  (j6 (u4 (pv 3))))),
  inferInstance⟩
section
variable {C CM:Addr}{d:Dr}{T T':List (List Cl)}
theorem Kv (ok:d.Ok)(x:Trays d T)(h:x6 1 ε=some (y6 T)):b8 [none] [0] (y9 (x6 1)) (v6 0) p6 (z6 jd (q0 (x8 0) x9)) ε=some (y6 T):=by have hlim:lim=1000000:=rfl;have tl:=x.len ok;exact qy w5 w5 T (js h) rfl (by omega) λt _=>⟨_,rfl,v9 rfl rfl⟩
theorem Bb (ok:d.Ok)(x:Trays d T)(w:Walk d T ms T'):zp CM C [d.ob C,y6 T,.lst (ms.map z5)]=some (.at (.int (-1))):=by
 have e:jc C [d.ob C,y6 T,.lst (ms.map z5)]=some (y6 T'):=by obtain ⟨u,v,e⟩:=NJ (C:=C) ok w (x1:=y6 T) (x2:= .lst (ms.map z5)) (k:=0) (u:= .no) (v:= .no) x;exact i9 rfl (k9 (vZ (v9 rfl (Kw ok x))) (k9 (qD (Kv ok x rfl)) (k9 (jr (xs:=r6 0 (ms.map z5)) rfl e) rfl)))
 unfold zp;rw [if_pos (by rw [e];rfl)]
theorem NL (ok:d.Ok)(w:Walk d T ms T')(hb:qh T' b=false):∀{k:Nat}{u v:MSlot},Trays d T->qJ twG (twB C) (r6 k (ms.map z5++z5 b::rest)) (t0 C d x1 x2 T u v)=none:=by
 induction w with
 |@nil T0 =>
  intro k u v x;have e:twB C (t0 C d x1 x2 T0 (.sh (.at (.int k))) (.sh (z5 b)))=none:=by show Option.bind (Option.bind (twC C (t0 C d x1 x2 T0 (.sh (.at (.int k))) (.sh (z5 b)))) _) _=_;rw [wI ok x,hb];rfl
  show Option.bind (twB C (t0 C d x1 x2 T0 (.sh (.at (.int k))) (.sh (z5 b)))) _=_;rw [e];rfl
 |@cons T0 T1 c to ms m _ ih=>intro k u v x;show Option.bind (twB C (t0 C d x1 x2 T0 (.sh (.at (.int k))) (.sh (z5 (c.name,(to:Int)))))) _=_;rw [Zi ok x m];exact ih hb (x.mov ok m.mem m.lt m.hue)
theorem Ba (ok:d.Ok)(x:Trays d T)(w:Walk d T ms T')(hb:qh T' b=false):zp CM C [d.ob C,y6 T,.lst (ms.map z5++z5 b::rest)]=some (.at (.int ms.length)):=by
 have e1:zj (z6 (vi C) (q0 (x6 0) (q0 (x6 1) x9))) [.sh (d.ob C),.sh (y6 T),.sh (.lst (ms.map z5++z5 b::rest)),.no,.no,.no]=some (.nx [.sh (d.ob C),.sh (y6 T),.sh (.lst (ms.map z5++z5 b::rest)),.no,.no,.no]):=vZ (v9 rfl (Kw ok x));have e2:i8 3 (b8 [none] [0] (y9 (x6 1)) (v6 0) p6 (z6 jd (q0 (x8 0) x9))) [.sh (d.ob C),.sh (y6 T),.sh (.lst (ms.map z5++z5 b::rest)),.no,.no,.no]=some (.nx (t0 C d (y6 T) (.lst (ms.map z5++z5 b::rest)) T .no .no)):=qD (Kv ok x rfl);have n1:jc C [d.ob C,y6 T,.lst (ms.map z5++z5 b::rest)]=none:=by
  have e3:xi (xn (q0 (x6 2) x9)) twG (twB C) (t0 C d (y6 T) (.lst (ms.map z5++z5 b::rest)) T .no .no)=none:=jr (xs:=r6 0 (ms.map z5++z5 b::rest)) rfl (NL ok w hb x);show Option.bind (QW C [.sh (d.ob C),.sh (y6 T),.sh (.lst (ms.map z5++z5 b::rest)),.no,.no,.no]) _=none;have:QW C [.sh (d.ob C),.sh (y6 T),.sh (.lst (ms.map z5++z5 b::rest)),.no,.no,.no]=none:=k9 e1 (k9 e2 (by
   show Option.bind (xi (xn (q0 (x6 2) x9)) twG (twB C) (t0 C d (y6 T) (.lst (ms.map z5++z5 b::rest)) T .no .no)) _=none;rw [e3];rfl))
  rw [this];rfl
 have hx:jH CM C [d.ob C,y6 T,.lst (ms.map z5++z5 b::rest)] CM (some (("at":Str),V.int (ms.length:Int))):=by have:=NI (C:=C) (CM:=CM) ok (x1:=y6 T) (x2:= .lst (ms.map z5++z5 b::rest)) (rest:=rest) w hb (k:=0) (u:= .no) (v:= .no) x;rw [Nat.zero_add] at this;exact ⟨rfl,.inr ⟨_,e1,.inr ⟨_,e2,.inl ⟨r6 0 (ms.map z5++z5 b::rest),rfl,this⟩⟩⟩⟩
 have uq:∀ z:Int,jH CM C [d.ob C,y6 T,.lst (ms.map z5++z5 b::rest)] CM (some (("at":Str),V.int z))->z=ms.length:=by
  rintro z ⟨_,h|⟨ε1,h1,h|⟨ε2,h2,h|⟨ε3,h3,h⟩⟩⟩⟩
  ·exact h.elim
  ·exact h.elim
  ·have q1:=e1.symm.trans h1;cases q1;have q2:=e2.symm.trans h2;cases q2;obtain ⟨xs,hxs,h⟩:=h;cases (show some (r6 0 (ms.map z5++z5 b::rest))=some xs from hxs);have:=NM ok w hb x h;rw [Nat.zero_add] at this;injection this with this;injection this with _ this;injection this
  ·exact h.elim
 unfold zp;rw [if_neg (by rw [n1];exact yU),dif_pos ⟨_,hx⟩];have:∃ z:Int,jH CM C [d.ob C,y6 T,.lst (ms.map z5++z5 b::rest)] CM (some (("at":Str),V.int z)):=⟨_,hx⟩;rw [uq _ this.choose_spec]
end
section
variable {C:Addr}{d:Dr}{T:List (List Cl)}{t:List Cl}{s:Str}{c:Cl}
def enT (p:List Cl×Nat):PV:= .tup [.at (.int (p.2:Int)),w5 p.1]
theorem Zy:∀(T:List (List Cl))(n:Nat),r6 n (T.map w5)=(T.zipIdx n).map enT
 |[],_=>rfl
 |t::T,n=>by
  show PV.tup [.at (.int n),w5 t]::r6 (n+1) (T.map w5)=_;rw [Zy T (n+1),List.zipIdx_cons];rfl
theorem Uo (s:Str):∀ T:List (List Cl),wg (.bl true) (T.map λt=>V.bl (xL s t))=qc T s
 |[]=>rfl
 |t::T=>by
  show (if m7 (.bl (xL s t)) (.bl true)=true then some 0 else (wg (.bl true) (T.map λt=>V.bl (xL s t))).map (·+1))=_;rw [Uo s T,Gj];cases xL s t<;>rfl
theorem jR {α:Type}(f:α->V):∀ l:List α,ats (l.map λa=>PV.at (f a))=some (l.map f)
 |[]=>rfl
 |a::l=>by
  show (ats (l.map λa=>PV.at (f a))).map (f a::·)=_;rw [jR f l];rfl
theorem Ht {k:Nat}(hl:T.length<=10)(h:qc T s=some k):Qp [y6 T,.at (.str s)]=some (.at (.int k)):=by have hlim:lim=1000000:=rfl;have cp:b8 [none,some 1] [0] (y9 (x6 0)) (v6 0) p6 (z0 (pIn false) (x8 1) (x8 0)) [.sh (y6 T),.sh (.at (.str s))]=some (.lst (T.map λt=>PV.at (.bl (xL s t)))):=qy w5 (λt=>PV.at (.bl (xL s t))) T rfl rfl (by omega) λt _=>⟨_,rfl,w6 rfl rfl (Xp false s (t.map Cl.name))⟩;refine i9 rfl (i0 ?_);unfold Zw;show Option.bind (b8 [none,some 1] [0] (y9 (x6 0)) (v6 0) p6 (z0 (pIn false) (x8 1) (x8 0)) [.sh (y6 T),.sh (.at (.str s))]) _=_;rw [cp,yF];show (ats (T.map λt=>PV.at (.bl (xL s t)))).bind _=_;rw [jR (λt=>V.bl (xL s t)) T,yF,if_pos ⟨rfl,by simp [k6],by rw [yZ];omega⟩,Uo,h];rfl
theorem ne_l1 (a b:Int):pNe (.lst [.at (.int a)]) (.lst [.at (.int b)])=some (.at (.bl (!decide (a=b)))):=by show some (PV.at (.bl (!(decide (a=b)&&true))))=_;rw [Bool.and_true]
theorem eq_l1 (a b:Int):qi (.lst [.at (.int a)]) (.lst [.at (.int b)])=some (.at (.bl (decide (a=b)))):=by show some (PV.at (.bl (decide (a=b)&&true)))=_;rw [Bool.and_true]
theorem Xm:∀{l:List Cl}{c:Cl},(l.map Cl.name).Nodup->c∈l->l.filter (λe=>decide (e.name=c.name))=[c]
 |e::l,c,nd,hc=>by
  obtain ⟨h1,h2⟩:=yt.mp nd;rw [ur];by_cases he:e.name=c.name
  ·have ec:e=c:=by
    rcases yM.mp hc with z|z
    ·exact z.symm
    ·exact absurd (he▸yr.mpr ⟨c,z,rfl⟩) h1
   subst ec;rw [if_pos (yz rfl),List.filter_eq_nil_iff.mpr λa ha=>?_];have:a.name≠e.name:=λz=>h1 (z▸yr.mpr ⟨a,ha,rfl⟩);simp [this]
  ·have hc':c∈l:=by
    rcases yM.mp hc with z|z
    ·exact absurd (by rw [z]) he
    ·exact z
   rw [if_neg (by simp [he]),Xm h2 hc']
theorem Uk (ok:d.Ok)(ht:∀ e∈t,e∈d.cls)(ne:t≠[]){i:Nat}(h1:x8 i ε=some d.pv)(h2:m4 [none,some j] ε=[.no,.sh (w5 t)]):b8 [none,some j] [0] (y9 (z0 j8 (x8 i) (dC (.int 1)))) (v6 0) (dT (z0 qi (z0 j8 (x8 0) (dC (.int 0))) (z0 j8 (x8 1) (dC (.int 0))))) (z0 j8 (x8 0) (dC (.int 1))) ε=some (.lst [.at (.int (qg t))]):=by
 have hlim:lim=1000000:=rfl;have ten:=ok.ten;obtain ⟨c0,t',rfl⟩:=List.exists_cons_of_ne_nil ne;refine (YU Cl.pv (λc=>PV.at (.int c.hue)) (λe=>decide (e.name=c0.name)) d.cls (js (w6 h1 rfl rfl)) (by unfold xy;simp) (by omega) λe _=>?_).trans ?_
 ·rw [h2];exact ⟨_,rfl,h8 (w6 (w6 rfl rfl rfl) (w6 rfl rfl (ix0 c0 t')) (BZ _ _)),λ_=>w6 rfl rfl rfl⟩
 ·rw [Xm ok.nd (ht c0 yQ)];rfl
theorem wv (h:¬ (0<=m.2/\m.2<(T.length:Int))):qh T m=false:=by
 unfold qh;split
 ·rfl
 ·rw [yH h,Bool.false_and,ut]
theorem UR (h:qc T m.1=none):qh T m=false:=by unfold qh;rw [h]
theorem CQ {k:Nat}(h:qc T s=some k):qh T (s,(k:Int))=false:=by unfold qh;rw [h];show (!decide ((k:Int)=k)&&_)=false;rw [yz rfl];rfl
theorem Zs (x:Trays d T)(ok:d.Ok)(hc:c∈d.cls){k:Nat}(h:qc T c.name=some k):k<T.length/\qg (T.getD k [])=c.hue:=by
 obtain ⟨t,h1,h2⟩:=XX h;have mt:=yp h1;obtain ⟨e,he,en⟩:=yr.mp h2;have:e=c:=by have p:=Xm ok.nd hc;have q:e∈d.cls.filter (λe=>decide (e.name=c.name)):=ux.mpr ⟨x.sub mt e he,yz en⟩;rw [p] at q;exact yP.mp q
 subst this;refine ⟨(yD.mp h1).1,?_⟩;rw [yA,h1];exact ((x.each t mt).hue e he).symm
theorem Zr (x:Trays d T)(hc:c∈d.cls):∃ k,qc T c.name=some k:=by obtain ⟨t,ht,hct⟩:=List.mem_flatten.mp (x.perm.mem_iff.mpr hc);exact Gm ht (yr.mpr ⟨c,hct,rfl⟩)
theorem CP (x:Trays d T)(ok:d.Ok)(hc:c∈d.cls){k:Nat}(h:qg (T.getD k [])≠c.hue):qh T (c.name,(k:Int))=false:=by obtain ⟨j,hj⟩:=Zr x hc;unfold qh;rw [hj];show (!decide ((j:Int)=k)&&(_&&decide (qg (T.getD j [])=qg (T.getD ((k:Int)).toNat []))))=false;have e:decide (c.hue=qg (T.getD k []))=false:=yH λz=>h z.symm;rw [uQ,(Zs x ok hc hj).2,e,ut,ut]
theorem UY (x:Trays d T)(ok:d.Ok){s:Str}(h:∀ c∈d.cls,c.name≠s):qc T s=none:=Gk λt ht hs=>by
 obtain ⟨e,he,en⟩:=yr.mp hs;exact h e (x.sub ht e he) en
end
section
variable {C:Addr}{d:Dr}{T:List (List Cl)}{t:List Cl}{s:Str}{c:Cl}
abbrev bdE (d:Dr)(T:List (List Cl))(far:Int)(bs:List (Str×Int))(s5 s6 s7 s8:MSlot):ME:=[.sh d.pv,.sh (y6 T),.sh (.at (.int far)),.sh (.at (.int (T.length:Int))),.ow (.lst (bs.map z5)),s5,s6,s7,s8]
abbrev biG:MG:=qT 2 (m8 (v6 7) (m8 (v6 8) qS))
abbrev biB:MS:=p9 (dT (z0 pNe (b8 [none,some 8] [0] (y9 (z0 j8 (x8 0) (dC (.int 1)))) (v6 0) (dT (z0 qi (z0 j8 (x8 0) (dC (.int 0))) (z0 j8 (x8 1) (dC (.int 0))))) (z0 j8 (x8 0) (dC (.int 1)))) (o6 (q0 (z0 j8 (x8 5) (dC (.int 1))) x9)))) (wW 4 (t6 (q0 (z0 j8 (x8 5) (dC (.int 0))) (q0 (x6 7) x9)))) m5
structure Bads (T:List (List Cl))(n:Nat)(bs:List (Str×Int)):Prop where
 bad:∀ b∈bs,qh T b=false
 len:bs.length<=n
 three:3<=bs.length
theorem Bads.app {m:Nat}{bs:List (Str×Int)}(x:Bads T n bs)(h:∀ b∈ms,qh T b=false)(hm:n+ms.length<=m):Bads T m (bs++ms):=⟨λb hb=>by
 rcases yx.mp hb with z|z
 ·exact x.bad b z
 ·exact h b z,by rw [yL];have:=x.len;omega,by rw [yL];have:=x.three;omega⟩
theorem Yh (ok:d.Ok)(x:Trays d T)(hc:c∈d.cls){far:Int}{s6:MSlot}:∀{l:List (List Cl×Nat)}{n:Nat}{bs:List (Str×Int)}{s7 s8:MSlot},(∀ p∈l,T[p.2]?=some p.1)->n+l.length<=200->Bads T n bs -> ∃ bs' s7' s8',Bads T (n+l.length) bs'/\qJ biG biB (l.map enT) (bdE d T far bs (.sh c.pv) s6 s7 s8)=some (.nx (bdE d T far bs' (.sh c.pv) s6 s7' s8'))
 |[],n,bs,s7,s8,_,_,hb=>⟨bs,s7,s8,hb,rfl⟩
 |p::l,n,bs,s7,s8,hp,hn,hb=>by
  have hlim:lim=1000000:=rfl;have h0:=hp p yQ;have mt:=yp h0;have g0:T.getD p.2 []=p.1:=by rw [yA,h0];rfl
  rw [yC] at hn;have cd:dT (z0 pNe (b8 [none,some 8] [0] (y9 (z0 j8 (x8 0) (dC (.int 1)))) (v6 0) (dT (z0 qi (z0 j8 (x8 0) (dC (.int 0))) (z0 j8 (x8 1) (dC (.int 0))))) (z0 j8 (x8 0) (dC (.int 1)))) (o6 (q0 (z0 j8 (x8 5) (dC (.int 1))) x9))) (bdE d T far bs (.sh c.pv) s6 (.sh (.at (.int (p.2:Int)))) (.sh (w5 p.1)))=some (!decide ((qg p.1:Int)=(c.hue:Int))) :=
   h8 (w6 (Uk ok (x.sub mt) (x.each _ mt).ne rfl rfl) (jt (w4 (w6 rfl rfl rfl) rfl) l1) (ne_l1 _ _))
  have nxt:∀{bs1:List (Str×Int)},Bads T (n+1) bs1->biB (bdE d T far bs (.sh c.pv) s6 (.sh (.at (.int (p.2:Int)))) (.sh (w5 p.1)))=some (.nx (bdE d T far bs1 (.sh c.pv) s6 (.sh (.at (.int (p.2:Int)))) (.sh (w5 p.1))))->∃ bs' s7' s8',Bads T (n+(l.length+1)) bs'/\qJ biG biB ((p::l).map enT) (bdE d T far bs (.sh c.pv) s6 s7 s8)=some (.nx (bdE d T far bs' (.sh c.pv) s6 s7' s8')):=λ{bs1} h1 e1=>by
   obtain ⟨bs',s7',s8',h2,e2⟩:=Yh ok x hc (far:=far) (s6:=s6) (l:=l) (n:=n+1) (bs:=bs1) (s7:= .sh (.at (.int (p.2:Int)))) (s8:= .sh (w5 p.1)) (λq hq=>hp q (yR _ hq)) (by omega) h1;refine ⟨bs',s7',s8',by rw [show n+(l.length+1)=n+1+l.length by omega];exact h2,?_⟩;show Option.bind (biB (bdE d T far bs (.sh c.pv) s6 (.sh (.at (.int (p.2:Int)))) (.sh (w5 p.1)))) _=_;rw [e1];exact e2
  by_cases h:(qg p.1:Int)=(c.hue:Int)
  ·rw [yz h] at cd;exact nxt ⟨hb.bad,by have:=hb.len;omega,hb.three⟩ (qC cd rfl)
  ·rw [yH h] at cd;refine nxt (bs1:=bs++[(c.name,(p.2:Int))]) (hb.app (λb hb'=>?_) (by simp)) (jX cd ?_)
   ·rw [yP.mp hb'];exact CP x ok hc (by rw [g0];omega)
   ·refine (Pa (xs:=bs.map z5) (Qb (w4 (w6 rfl rfl rfl) (w4 rfl rfl)) (by exact l2)) rfl (by rw [yZ];have:=hb.len;omega)).trans ?_;show some (Out.nx (bdE d T far bs (.sh c.pv) s6 (.sh (.at (.int (p.2:Int)))) (.sh (w5 p.1)) |>.set 4 (.ow (.lst (bs.map z5++[z5 (c.name,(p.2:Int))])))))=_;rw [show bs.map z5++[z5 (c.name,(p.2:Int))]=(bs++[(c.name,(p.2:Int))]).map z5 by rw [yw];rfl];rfl
theorem v_bad (ok:d.Ok)(x:Trays d T){far:Int}(hf:0<=far):∃ bs,Bads T 200 bs/\Xu [d.pv,y6 T,.at (.int far)]=some (.lst (bs.map z5)):=by
 have hlim:lim=1000000:=rfl;have ten:=ok.ten;have tl:=x.len ok;have b0:Bads T 3 [("qx",0),("",0),("q",-1)]:=⟨λb hb=>by
  simp only [yM,yh,or_false] at hb;rcases hb with rfl|rfl|rfl
  ·exact UR (UY x ok λc hc=>(ok.cl c hc).nm.nq)
  ·exact UR (UY x ok λc hc z=>by
    have:=(ok.cl c hc).nm.one;rw [z] at this;exact absurd this (by decide))
  ·exact wv (by show ¬ ((0:Int)<=-1/\_);omega),yS _,yS _⟩
 have en:r6 0 (T.map w5)=T.zipIdx.map enT:=Zy T 0;obtain ⟨ε',e1,_,_,bs,s5,s6,s7,s8,hb,rfl⟩:=Xs (g:=v6 5) (f:=y8 (i8 6 (z6 Qp (q0 (x6 1) (q0 (z0 j8 (x8 5) (dC (.int 0))) x9))))
  (y8 (zl 4 (z0 vn (x8 4) (o6 (q0 (t6 (q0 (z0 j8 (x8 5) (dC (.int 0))) (q0 (x6 6) x9))) (q0 (t6 (q0 (z0 j8 (x8 5) (dC (.int 0))) (q0 (dUn xX (dC (.int 1))) x9))) (q0 (t6 (q0 (z0 j8 (x8 5) (dC (.int 0))) (q0 (x6 3) x9))) (q0 (t6 (q0 (z0 j8 (x8 5) (dC (.int 0))) (q0 (z0 xY (dUn xX (dC (.int 1))) (x8 2)) x9))) x9)))))))
  (y8 (zl 4 (z0 vn (x8 4) (o6 (q0 (t6 (q0 (z0 j8 (x8 5) (dC (.int 0))) (q0 (z0 qt (x8 3) (x8 2)) x9))) (q0 (t6 (q0 (z0 j8 (x8 5) (dC (.int 0))) (q0 (z0 xY (x8 6) (x8 3)) x9))) x9)))))
  (xi (xn (q0 (x6 1) x9)) biG biB)))) Cl.pv
  (λrest ε=>(∀ c∈rest,c∈d.cls)/\rest.length<=10/\∃ bs s5 s6 s7 s8,Bads T (3+(10-rest.length)*16) bs/\ε=bdE d T far bs s5 s6 s7 s8) (by
   rintro c l ε ⟨hc,hl,bs,s5,s6,s7,s8,hb,rfl⟩;rw [yC] at hl hb;have cm:=hc c yQ;obtain ⟨k,hk⟩:=Zr x cm;have kl:=(Zs x ok cm hk).1;have h4:∀ b∈[(c.name,(k:Int)),(c.name,(-1:Int)),(c.name,(T.length:Int)),(c.name,-1-far)],qh T b=false:=λb hb=>by
    simp only [yM,yh,or_false] at hb;rcases hb with rfl|rfl|rfl|rfl
    ·exact CQ hk
    ·exact wv (by show ¬ ((0:Int)<=-1/\_);omega)
    ·exact wv (by show ¬ (_/\(T.length:Int)<T.length);omega)
    ·exact wv (by show ¬ ((0:Int)<=-1-far/\_);omega)
   have h2:∀ b∈[(c.name,(T.length:Int)+far),(c.name,(k:Int)-T.length)],qh T b=false:=λb hb=>by
    simp only [yM,yh,or_false] at hb;rcases hb with rfl|rfl
    ·exact wv (by show ¬ (_/\(T.length:Int)+far<T.length);omega)
    ·exact wv (by show ¬ ((0:Int)<=(k:Int)-T.length/\_);omega)
   have hb2:=(hb.app h4 (m:=3+(10-(l.length+1))*16+4) (by simp)).app h2 (m:=3+(10-(l.length+1))*16+6) (by simp);obtain ⟨bs',s7',s8',hb3,e3⟩:=Yh ok x cm (far:=far) (s6:= .sh (.at (.int (k:Int)))) (l:=T.zipIdx) (s7:=s7) (s8:=s8) (λp hp=>by
    have:=List.mem_zipIdx_iff_getElem?.mp hp;exact this) (by rw [List.length_zipIdx];omega) hb2
   rw [List.length_zipIdx] at hb3;refine ⟨bdE d T far bs (.sh c.pv) s6 s7 s8,_,rfl,k9 (qD (v9 (w4 rfl (w4 (w6 rfl rfl rfl) rfl)) (Ht tl hk))) (k9 (ε1:=bdE d T far (bs++[(c.name,(k:Int)),(c.name,(-1:Int)),(c.name,(T.length:Int)),(c.name,-1-far)]) (.sh c.pv) (.sh (.at (.int (k:Int)))) s7 s8) ?_ (k9 (ε1:=bdE d T far (bs++[(c.name,(k:Int)),(c.name,(-1:Int)),(c.name,(T.length:Int)),(c.name,-1-far)]++[(c.name,(T.length:Int)+far),(c.name,(k:Int)-T.length)]) (.sh c.pv) (.sh (.at (.int (k:Int)))) s7 s8) ?_ (jr (xs:=T.zipIdx.map enT) (by show some (r6 0 (T.map w5))=_;rw [en]) e3))),λe he=>hc e (yR _ he),by omega,bs',_,_,_,_,⟨hb3.bad,by have:=hb3.len;omega,hb3.three⟩,rfl⟩
   ·have:(bs++[(c.name,(k:Int)),(c.name,(-1:Int)),(c.name,(T.length:Int)),(c.name,-1-far)]).map z5=bs.map z5++[z5 (c.name,(k:Int)),z5 (c.name,(-1:Int)),z5 (c.name,(T.length:Int)),z5 (c.name,-1-far)]:=by rw [yw];rfl
    show _=some (Out.nx (List.set (bdE d T far bs (.sh c.pv) (.sh (.at (.int (k:Int)))) s7 s8) 4 (.ow (.lst ((bs++[(c.name,(k:Int)),(c.name,(-1:Int)),(c.name,(T.length:Int)),(c.name,-1-far)]).map z5)))));rw [this];have hq:(bs.map z5).length+4<=lim:=by rw [yZ];have:=hb.len;omega
    exact wc (w6 rfl rfl (if_pos hq))
   ·generalize bs++[(c.name,(k:Int)),(c.name,(-1:Int)),(c.name,(T.length:Int)),(c.name,-1-far)]=bs1 at hb2;have:(bs1++[(c.name,(T.length:Int)+far),(c.name,(k:Int)-T.length)]).map z5=bs1.map z5++[z5 (c.name,(T.length:Int)+far),z5 (c.name,(k:Int)-T.length)]:=by rw [yw];rfl
    show _=some (Out.nx (List.set (bdE d T far bs1 (.sh c.pv) (.sh (.at (.int (k:Int)))) s7 s8) 4 (.ow (.lst ((bs1++[(c.name,(T.length:Int)+far),(c.name,(k:Int)-T.length)]).map z5)))));rw [this];have hq:(bs1.map z5).length+2<=lim:=by have:=hb2.len;rw [yL] at this;rw [yZ];omega
    exact wc (w6 rfl rfl (if_pos hq))) d.cls (bdE d T far [("qx",0),("",0),("q",-1)] .no .no .no .no) ⟨λ_ h=>h,ten,_,_,_,_,_,⟨b0.bad,by show 3<=_;omega,by decide⟩,rfl⟩
 refine ⟨bs,⟨hb.bad,by have:=hb.len;simp at this;omega,hb.three⟩,?_⟩;have eL:z6 o9 (q0 (x8 1) x9) [.sh d.pv,.sh (y6 T),.sh (.at (.int far)),.no,.no,.no,.no,.no,.no]=some (.at (.int (T.length:Int))):=v9 rfl (by show some (PV.at (.int ((T.map w5).length:Int)))=_;rw [yZ]);exact i9 rfl (k9 (qD eL) (k9 (wc (x:= .lst [z5 ("qx",0),z5 ("",0),z5 ("q",-1)]) rfl) (k9 (jr (xs:=d.cls.map Cl.pv) (js (w6 rfl rfl rfl)) e1) rfl)))
end
def QA:List PV->Prop:=λxs=>∃(d:Dr)(T:List (List Cl)),xs=[d.pv,y6 T]/\d.Ok/\Trays d T
def QP:List PV->PV->Prop:=λxs y=>∃(d:Dr)(T T':List (List Cl))(ms:List (Str×Int)),xs=[d.pv,y6 T]/\y = .tup [.lst (ms.map z5),y6 T']/\Trays d T/\Walk d T ms T'/\ms.length<=3
abbrev JQ:Stmt:=top 69
abbrev Wx (K:Fg):WS:=(wSeq (wJ 3 (o6 x9))
  (wSeq (qb 4 (wP (x6 2)))
  (wSeq (wFor (KJ (qr 0 (wP (dC (.int 4))))) (v6 5) (wSeq (wJ 6 (o6 x9))
  (wSeq (wFor (wIp (y9 (z0 j8 (x8 1) (dC (.int 1))))) (v6 7) (wFor (wIp (xn (q0 (x6 4) x9))) (qT 2 (m8 (v6 8) (m8 (v6 9) qS))) (xt (wPT (dT (z0 qi (b8 [none,some 9] [0] (y9 (z0 j8 (x8 1) (dC (.int 1)))) (v6 0) (dT (z0 qi (z0 j8 (x8 0) (dC (.int 0))) (z0 j8 (x8 1) (dC (.int 0))))) (z0 j8 (x8 0) (dC (.int 1)))) (o6 (q0 (z0 j8 (x8 7) (dC (.int 1))) x9))))) (xt (wPT (dT (z0 (pIn true) (z0 j8 (x8 7) (dC (.int 0))) (x8 9)))) (vD 6 (wP (t6 (q0 (z0 j8 (x8 7) (dC (.int 0))) (q0 (x6 8) x9))))) xR) xR)))
  (xt (wPT (dT (z0 pGt (z6 o9 (q0 (x8 6) x9)) (dC (.int 0))))) (wSeq (wFz 6 (vD 3 (qW j8 (wP (x6 6)) (qr 0 (wP (z6 o9 (q0 (x8 6) x9)))))))
  (qb 4 (wP (z6 XA (q0 (x6 4) (q0 (z0 j8 (z0 j8 (x8 3) (dUn xX (dC (.int 1)))) (dC (.int 0))) (q0 (z0 j8 (z0 j8 (x8 3) (dUn xX (dC (.int 1)))) (dC (.int 1))) x9))))))) xR))))
  (wFz 3 (xu (wP (t6 (q0 (x6 3) (q0 (x6 4) x9)))))))))
theorem sc_good:w9 ["row","parts","trays","moves","here","turn","some","cloth","k","tray"] ["row","parts","trays"] (j3 JQ):=u8
theorem PB:∀ xs,QA xs->xs.length+1=(["row","parts","trays"]:List Str).length:=by rintro xs ⟨d,T,rfl,_,_⟩;rfl
section
variable {d:Dr}{T T':List (List Cl)}{c:Cl}
theorem mv_ok (ok:d.Ok)(x:Trays d T)(hc:c∈d.cls){k:Nat}(hk:T[k]?=some t)(h1:(qg t:Int)=(c.hue:Int))(h2:c.name∉t.map Cl.name):vI d T c k:=by
 have kl:=(yD.mp hk).1;have gk:T.getD k []=t:=by rw [yA,hk];rfl
 obtain ⟨j,hj⟩:=Zr x hc;obtain ⟨jl,hh⟩:=Zs x ok hc hj;have jk:j≠k:=λz=>by
  subst z;obtain ⟨u,e1,e2⟩:=XX hj;rw [hk] at e1;cases e1;exact h2 e2
 refine ⟨hc,kl,by rw [gk];omega,?_⟩;unfold qh;rw [hj];show (!decide ((j:Int)=k)&&(decide (0<=(k:Int)/\(k:Int)<T.length)&&decide (qg (T.getD j [])=qg (T.getD ((k:Int)).toNat []))))=true;rw [uQ,hh,gk,yH (by omega),yz (show 0<=(k:Int)/\(k:Int)<T.length from ⟨by omega,by omega⟩),yz (show c.hue=qg t by omega)];rfl
end
abbrev gdE (d:Dr)(T T':List (List Cl))(m:Int)(ms gs:List (Str×Int))(s5 s7 s8 s9:MSlot):ME:=[b9 m,.sh d.pv,.sh (y6 T),.ow (.lst (ms.map z5)),.sh (y6 T'),s5,.ow (.lst (gs.map z5)),s7,s8,s9]
theorem PL {K:Fg}:∀ xs n,QA xs->Wx K (b9 n::xs.map .sh++List.replicate ((["row","parts","trays","moves","here","turn","some","cloth","k","tray"]:List Str).length-(xs.length+1)) .no) (λ_=>False) λy ε=>QP xs y/\zg 0 ε:=by
 rintro xs n ⟨d,T,rfl,ok,x⟩;have hlim:lim=1000000:=rfl;have ten:=ok.ten;have BT:=jI;have n0:0<=n % 4:=ym _ (by decide);have n1:n % 4<4:=yu _ (by decide);refine ⟨_,rfl,_,rfl,⟨n,rfl⟩,_,rfl,n,4,rfl,rfl,⟨by decide,by decide +kernel⟩,n % 4,rfl,by omega,by omega,?_⟩;refine ve (λrest ε=>∃(m:Int)(ms:List (Str×Int))(T':List (List Cl))(s5 s6 s7 s8 s9:MSlot),Walk d T ms T'/\ms.length+rest.length<=(n % 4).toNat/\ε=[b9 m,.sh d.pv,.sh (y6 T),.ow (.lst (ms.map z5)),.sh (y6 T'),s5,s6,s7,s8,s9]) ?_ ?_ _ _ ⟨n / 4,[],T,_,_,_,_,_,.nil,Nat.le_of_eq (by rw [jD];simp),rfl⟩
 ·rintro ε ⟨m,ms,T',s5,s6,s7,s8,s9,w,hl,rfl⟩;rw [List.length_nil] at hl;exact ⟨_,rfl,⟨d,T,T',ms,rfl,rfl,x,w,by omega⟩,m,rfl⟩
 ·rintro v rest ε ⟨m,ms,T',s5,s6,s7,s8,s9,w,hl,rfl⟩;rw [yC] at hl;have x':=w.trays ok x;have tl:=x'.len ok;refine ⟨_,rfl,_,rfl,d.cls.map Cl.pv,rfl,?_⟩;refine ve (λrest2 ε=>(∀ y∈rest2,∃ c∈d.cls,y=c.pv)/\∃(gs:List (Str×Int))(s7 s8 s9:MSlot),(∀ g∈gs,∃(c:Cl)(to:Nat),g=(c.name,(to:Int))/\vI d T' c to)/\gs.length+10*rest2.length<=100/\ε=gdE d T T' m ms gs (.sh v) s7 s8 s9) ?_ ?_ _ _ ⟨λy hy=>(by obtain ⟨c,hc,rfl⟩:=yr.mp hy;exact ⟨c,hc,rfl⟩),[],_,_,_,(λ_ z=>nomatch z),by rw [yZ];simp;omega,rfl⟩
  ·rintro ε ⟨_,gs,s7,s8,s9,hg,hgl,rfl⟩;by_cases h0:gs.length=0
   ·refine zQ (h8 (w6 (v9 rfl rfl) rfl (show _=some (PV.at (.bl (decide ((0:Int)<((gs.map z5).length:Int))))) from rfl) |>.trans ?_)) ?_
    ·rw [yZ,yH (by omega)]
    ·exact ⟨m,ms,T',_,_,_,_,_,w,by omega,rfl⟩
   ·refine vF (h8 (w6 (v9 rfl rfl) rfl (show _=some (PV.at (.bl (decide ((0:Int)<((gs.map z5).length:Int))))) from rfl) |>.trans ?_)) ?_
    ·rw [yZ,yz (by omega)]
    ·have gl:((gs.map z5).length:Int)=gs.length:=by rw [yZ]
     have c0:0<=m % ((gs.map z5).length:Int):=ym _ (by omega);have c1:m % ((gs.map z5).length:Int)<((gs.map z5).length:Int):=yu _ (by omega);obtain ⟨j,hj⟩:=yd c0;have jl:j<gs.length:=by omega
     obtain ⟨c,to,eg,mo⟩:=hg gs[j] (yj jl);refine ⟨⟨_,rfl⟩,_,rfl,⟨m,rfl⟩,_,rfl,m,_,rfl,rfl,zT (by omega) (by omega),z5 gs[j],?_,_,rfl,by rw [yZ];omega,?_⟩
     ·show atI (gs.map z5) (m % ((gs.map z5).length:Int))=_;rw [hj];exact xS (by rw [yO,yN jl];rfl)
     ·rw [eg];have el:atI (ms.map z5++[z5 (c.name,(to:Int))]) (-1)=some (z5 (c.name,(to:Int))):=KZ (by simp);refine ⟨y6 (xo T' c to),v9 (w4 rfl (w4 (w6 (w6 rfl (Ub rfl rfl) el) rfl rfl) (w4 (w6 (w6 rfl (Ub rfl rfl) el) rfl rfl) rfl))) (Hr ok x' mo.lt),?_⟩;refine ⟨m / ((gs.map z5).length:Int),ms++[(c.name,(to:Int))],xo T' c to,.sh v,.sh (.lst (gs.map z5)),s7,s8,s9,w.snoc mo,by rw [yL];simp;omega,?_⟩;rw [yw];rfl
  ·rintro y rest2 ε ⟨hy,gs,s7,s8,s9,hg,hgl,rfl⟩;obtain ⟨c,hc,rfl⟩:=hy y yQ;rw [yC] at hgl;refine ⟨_,rfl,T'.zipIdx.map enT,by show some (r6 0 (T'.map w5))=_;rw [Zy],?_⟩;refine ve (λrest3 ε=>(∀ y∈rest3,∃ p:List Cl×Nat,T'[p.2]?=some p.1/\y=enT p)/\∃(gs:List (Str×Int))(s8 s9:MSlot),(∀ g∈gs,∃(c:Cl)(to:Nat),g=(c.name,(to:Int))/\vI d T' c to)/\gs.length+rest3.length+10*rest2.length<=100/\ε=gdE d T T' m ms gs (.sh v) (.sh c.pv) s8 s9) ?_ ?_ _ _ ⟨λy hy=>(by obtain ⟨p,hp,rfl⟩:=yr.mp hy;exact ⟨p,List.mem_zipIdx_iff_getElem?.mp hp,rfl⟩),gs,_,_,hg,by rw [yZ,List.length_zipIdx];omega,rfl⟩
   ·rintro ε ⟨_,gs,s8,s9,hg,hgl,rfl⟩;exact ⟨λy hy'=>hy y (yR _ hy'),gs,_,_,_,hg,by simp at hgl;omega,rfl⟩
   ·rintro z rest3 ε ⟨hz,gs,s8,s9,hg,hgl,rfl⟩;obtain ⟨p,hp,rfl⟩:=hz z yQ;have mt:=yp hp;rw [yC] at hgl;refine ⟨gdE d T T' m ms gs (.sh v) (.sh c.pv) (.sh (.at (.int (p.2:Int)))) (.sh (w5 p.1)),rfl,?_⟩;have cd:z0 qi (b8 [none,some 9] [0] (y9 (z0 j8 (x8 1) (dC (.int 1)))) (v6 0) (dT (z0 qi (z0 j8 (x8 0) (dC (.int 0))) (z0 j8 (x8 1) (dC (.int 0))))) (z0 j8 (x8 0) (dC (.int 1)))) (o6 (q0 (z0 j8 (x8 7) (dC (.int 1))) x9)) (gdE d T T' m ms gs (.sh v) (.sh c.pv) (.sh (.at (.int (p.2:Int)))) (.sh (w5 p.1)))=some (.at (.bl (decide ((qg p.1:Int)=(c.hue:Int))))) :=
     w6 (Uk ok (x'.sub mt) (x'.each _ mt).ne rfl rfl) (jt (w4 (w6 rfl rfl rfl) rfl) l1) (eq_l1 _ _)
    have keep:(∀ y∈rest3,∃ p:List Cl×Nat,T'[p.2]?=some p.1/\y=enT p):=λy hy'=>hz y (yR _ hy');by_cases h1:(qg p.1:Int)=(c.hue:Int)
    ·rw [yz h1] at cd;refine vF (h8 cd) ?_;have ci:dT (z0 (pIn true) (z0 j8 (x8 7) (dC (.int 0))) (x8 9)) (gdE d T T' m ms gs (.sh v) (.sh c.pv) (.sh (.at (.int (p.2:Int)))) (.sh (w5 p.1)))=some (!decide (c.name∈p.1.map Cl.name)):=h8 (w6 (w6 rfl rfl rfl) rfl (Xp true c.name (p.1.map Cl.name)));by_cases h2:c.name∈p.1.map Cl.name
     ·rw [yz h2] at ci;exact zQ ci ⟨keep,gs,_,_,hg,by omega,rfl⟩
     ·rw [yH h2] at ci;refine vF ci ⟨⟨_,rfl⟩,_,Qb (w4 (w6 rfl rfl rfl) (w4 rfl rfl)) l2,_,rfl,by rw [yZ];omega,keep,gs++[(c.name,(p.2:Int))],.sh (.at (.int (p.2:Int))),.sh (w5 p.1),λg hg'=>?_,by rw [yL];simp;omega,?_⟩
      ·rcases yx.mp hg' with hg'|hg'
       ·exact hg g hg'
       ·exact ⟨c,p.2,yP.mp hg',mv_ok ok x' hc hp h1 h2⟩
      ·unfold gdE;rw [yw];rfl
    ·rw [yH h1] at cd;exact zQ (h8 cd) ⟨keep,gs,_,_,hg,by omega,rfl⟩
theorem Dq (F:Fun K "_law_good" "_law_good" JQ f fd)(Ae:Fn P w K mg base 1 "_law_digit" ["row","many"] zv)(A7:Fn P w K mg base 1 "_law_tray_moved" ["trays","name","to"] (v8 XA))(Af:mg "enumerate"=none)(Ad:mg "len"=none)(Ah:mg "range"=none):FnOk P w K mg base v7 2 f fd ["row","parts","trays"] (spD QA QP) :=
 okD (k:=1) (b:=Wx K) F sc_good PB (λcdv A outer s H E hr=>⟨_,(j7 (sW 3 sc_good.nd (@qL _ _ _ _ u6))
  (j7 (sW 4 sc_good.nd (pv 2))
  (j7 (xp PassesOwn.never rfl (vu rfl Ah (aW (fW Ae hr (aC (pv 0) (aW z7))))) (gW 5 sc_good.nd)
   (j7 (sW 6 sc_good.nd (@qL _ _ _ _ u6))
  (j7 (xp PassesOwn.never rfl (@c5 _ K _ _ _ rfl (iW (K:=K) rfl (pv 1) z7)) (gW 7 sc_good.nd)
   (j6 (xp PassesOwn.never rfl (Qy (K:=K) rfl rfl Af (aW (pv 4))) (vq (K:=K) (n:=2) rfl rfl (xD (gW 8 sc_good.nd) (xD (gW 9 sc_good.nd) vt)))
   (j6 (c8 (i4 (xV (K:=K) (qE hr) rfl) (qj (N':=["other","tray"]) (cap:=[none,some 9]) (c4 rfl rfl rfl) rfl (@c5 _ K _ _ _ rfl (iW (K:=K) rfl (pv 1) z7)) (λ_ _ _ _ _ _=>(p8 (i:=0) (by show (["other","tray"]:List Str).Nodup;decide +kernel) rfl (Or.inl rfl))) (λ_ _ _ _ _ _=>(vx (i4 (xV (K:=K) (qE hr) rfl) (iW (K:=K) rfl (pv 0) z7) (iW (K:=K) rfl (pv 1) z7) (c7 _)))) (λ_ _ _ _ _ _=>(iW (K:=K) rfl (pv 0) z7))) (@qL _ _ _ _ (aW (iW (K:=K) rfl (pv 7) z7))) (c7 _)) (j6 (c8 (i4 (Mh (K:=K) rfl) (iW (K:=K) rfl (pv 7) z7) (pv 9) (by with_unfolding_all rfl)) (j6 (zb (zq (K:=K) rfl PySem.F.plainAttrs_list PySem.F.slot_list_append PySem.F.type_list_append vk (pv 6) (j9 (@qU _ _ _ _ _ (aC (iW (K:=K) rfl (pv 7) z7) (aW (pv 8)))) u6)))) m9)) m9)))))
  (j6 (c8 (i4 (XL) (u7 (qf (K:=K) rfl) rfl Ad PySem.boot_len (aW (pv 6))) z7 (c7 _)) (j7 (zb (zq (K:=K) rfl PySem.F.plainAttrs_list PySem.F.slot_list_append PySem.F.type_list_append vk (pv 3) (j9 (iW (K:=K) rfl (pv 6) (fW Ae hr (aC (pv 0) (aW (u7 (qf (K:=K) rfl) rfl Ad PySem.boot_len (aW (pv 6))))))) u6)))
  (j6 (sW 4 sc_good.nd (fW A7 hr (aC (pv 4) (aC (iW (K:=K) rfl (iW (K:=K) rfl (pv 3) (zK zP z7)) z7) (aW (iW (K:=K) rfl (iW (K:=K) rfl (pv 3) (zK zP z7)) z7)))))))) m9)))))
  (j6 (u4 (@qU _ _ _ _ _ (aC (pv 3) (aW (pv 4))))))))),
  (by repeat' first|infer_instance|(refine @Mi.instSemWSTSeqWSeq _ _ _ _ ?_ ?_)|(apply @Mi.instSemWSTForWForOfSemWIOfSemWG))⟩) PL
theorem MR (T:List (List Cl)):wB 6 (y6 T):=λx hx=>by
 obtain ⟨t,_,rfl⟩:=yr.mp hx;intro y hy;obtain ⟨s,_,rfl⟩:=yr.mp hy;exact rfl
theorem CS (ok:d.Ok){e:Cl}(hc:c∈d.cls)(he:e∈d.cls)(h:e.name=c.name):e=c:=by have p:=Xm ok.nd hc;have q:e∈d.cls.filter (λe=>decide (e.name=c.name)):=ux.mpr ⟨he,yz h⟩;rw [p] at q;exact yP.mp q
theorem UU {d:Dr}(ok:d.Ok):∀{a b:List Cl},(∀ c∈a,c∈d.cls)->(∀ c∈b,c∈d.cls)->a.map Cl.name=b.map Cl.name->a=b
 |[],[],_,_,_=>rfl
 |[],_::_,_,_,h=>by cases h
 |_::_,[],_,_,h=>by cases h
 |x::a,y::b,ha,hb,h=>by
  injection h with h1 h2;rw [CS ok (hb y yQ) (ha x yQ) h1,UU ok (λc hc=>ha c (yR _ hc)) (λc hc=>hb c (yR _ hc)) h2]
theorem Kt {d:Dr}(ok:d.Ok):∀{S T:List (List Cl)},(∀ t∈S,∀ c∈t,c∈d.cls)->(∀ t∈T,∀ c∈t,c∈d.cls)->S.map w5=T.map w5->S=T
 |[],[],_,_,_=>rfl
 |[],_::_,_,_,h=>by cases h
 |_::_,[],_,_,h=>by cases h
 |x::a,y::b,ha,hb,h=>by
  injection h with h1 h2;injection h1 with h1;rw [UU ok (ha x yQ) (hb y yQ) (Nw h1),Kt ok (λc hc=>ha c (yR _ hc)) (λc hc=>hb c (yR _ hc)) h2]
theorem Walk.of_cls (h:e.cls=d.cls){S T:List (List Cl)}(w:Walk e S ms T):Walk d S ms T:=by
 induction w with
 |nil=>exact .nil
 |cons m _ ih=>exact .cons ⟨h▸m.mem,m.lt,m.hue,m.yes⟩ ih
abbrev vB:Stmt:=top 70
abbrev WL (K:Fg)(Ab:Addr)(Aa:Addr):WS:=(wSeq (qb 1 (KG (QC K) vL (k7 (wP (x6 0)) (k7 (wP (dC (.int 7))) qq))))
  (wSeq (qb 2 (wP (z6 (wp Aa) (q0 (z0 j8 (x8 1) (dC (.int 0))) (q0 (z0 j8 (x8 1) (dC (.int 1))) (q0 (z0 j8 (x8 1) (dC (.int 2))) (q0 (z0 j8 (x8 1) (dC (.int 3))) x9)))))))
  (wSeq (Zj 3 (vw K) jN (k7 (wP (x6 0)) (k7 (wP (dC (.int 2))) qq)))
  (wSeq (qb 4 (wP (z0 pMod (vV K 0) (z0 wz (dC (.int 10)) (dC (.int 29))))))
  (wSeq (qb 5 (xI 3 XY QR (k7 (wP (x6 1)) qq)))
  (wSeq (wAsg (qT 2 (m8 (v6 6) (m8 (v6 7) qS))) (xI 3 QA QP (k7 (wP (x6 1)) (k7 (wP (x6 5)) qq))))
  (wSeq (qb 8 (wP (b8 [none] [0] (y9 (x6 5)) (v6 0) p6 (z6 jd (q0 (x8 0) x9)))))
  (wSeq (xt (wPT (dT (z0 pNe (z6 (zp Ab Aa) (q0 (x6 2) (q0 (x6 8) (q0 (x6 6) x9)))) (dUn xX (dC (.int 1)))))) (xu (wP (dC (.bl false)))) xR)
  (wSeq (qb 9 (wP (z6 Xu (q0 (x6 1) (q0 (x6 7) (q0 (x6 4) x9))))))
  (wSeq (wFor (wIp (y9 (x6 9))) (v6 10) (wSeq (qb 11 (qW j8 (wP (x6 9)) (qr 3 (wP (z6 o9 (q0 (x8 9) x9))))))
  (wSeq (wFor (wIp (y9 (o6 (q0 (o6 (q0 (x6 10) x9)) (q0 (o6 (q0 (x6 10) (q0 (x6 11) x9))) (q0 (z0 qt (o6 (q0 (x6 10) x9)) (x8 6)) x9)))))) (v6 12) (xt (wPT (dT (z0 pNe (z6 (zp Ab Aa) (q0 (x6 2) (q0 (x6 8) (q0 (z0 qt (x8 6) (x8 12)) x9)))) (z6 o9 (q0 (x8 6) x9))))) (xu (wP (dC (.bl false)))) xR))
  (xt (wPT (dT (z0 pNe (x8 8) (x8 5)))) (xu (wP (dC (.bl false)))) xR))))
  (xu (wP (dC (.bl true))))))))))))))
theorem sc_law:w9 ["script","parts","works","row","far","trays","moves","here","handed","bad","one","other","some"] ["script"] (j3 vB):=u8
theorem PM {K:Fg}:∀ ns:List Int,ns.length<=63->WL K Ab Aa (.sh (scr K ns)::List.replicate ((["script","parts","works","row","far","trays","moves","here","handed","bad","one","other","some"]:List Str).length-1) .no) (λ_=>False) λy _=>y = .at (.bl true):=by
 intro ns h63;have hlim:lim=1000000:=rfl;have BT:=jI;refine ⟨_,rfl,_,rfl,⟨ns,7,rfl,h63,by decide⟩,?_⟩;rintro _ ⟨d,z,m,_,rfl,ok,_⟩;refine ⟨d.ob Aa,v9 (w4 (w6 rfl rfl rfl) (w4 (w6 rfl rfl rfl) (w4 (w6 rfl rfl rfl) (w4 (w6 rfl rfl rfl) rfl)))) (Hi ok),?_⟩;refine ⟨_,rfl,_,rfl,⟨ns,2,rfl,h63,by decide,by decide⟩,?_⟩;rintro _ ⟨n,rfl⟩;obtain ⟨t,et⟩:=Pg (K:=K) (i:=0) (ε:=[.sh (scr K ns),.sh d.pv,.sh (d.ob Aa),b9 n,.no,.no,.no,.no,.no,.no,.no,.no,.no]) (ns:=ns) rfl;have f0:0<=t % 100000000000000000000000000000:=ym _ (by decide);have em:z0 pMod (vV K 0) (z0 wz (dC (.int 10)) (dC (.int 29))) [.sh (scr K ns),.sh d.pv,.sh (d.ob Aa),b9 n,.no,.no,.no,.no,.no,.no,.no,.no,.no]=some (.at (.int (t % 100000000000000000000000000000))):=by
  refine w6 (y:= .at (.int 100000000000000000000000000000)) et ?_ ?_
  ·rfl
  ·rfl
 refine ⟨_,em,?_⟩;generalize t % 100000000000000000000000000000=far at f0;refine ⟨⟨n,rfl⟩,_,rfl,⟨n,rfl⟩,⟨d,rfl,ok⟩,?_⟩;rintro _ n1 ⟨e,T,he,rfl,X0⟩;have X:Trays d T:=by injection he with he _;exact ⟨by rw [YO he];exact X0.perm,X0.each⟩
 have tl:=X.len ok;refine ⟨⟨n1,rfl⟩,_,rfl,_,rfl,⟨n1,rfl⟩,⟨d,T,rfl,ok,X⟩,?_⟩;rintro _ n2 ⟨e2,T2,T',ms,he2,rfl,X2,w2,hms⟩;injection he2 with h1 h2;injection h2 with h2 _;have ec:d.cls=e2.cls:=YO h1;have X2':Trays d T2:=⟨by rw [ec];exact X2.perm,X2.each⟩;have eT:T=T2:=by injection h2 with h2;exact Kt ok (λt ht=>X.sub ht) (λt ht=>X2'.sub ht) h2
 subst eT;have w:Walk d T ms T':=w2.of_cls ec.symm;have X':=w.trays ok X;refine ⟨_,rfl,?_⟩;refine ⟨y6 T,qy w5 w5 T rfl rfl (by omega) λt _=>⟨_,rfl,v9 rfl rfl⟩,?_⟩;refine zQ (h8 (v:=false) (w6 (v9 rfl (Bb ok X w)) rfl rfl)) ?_;obtain ⟨bs,hb,eb⟩:=v_bad ok X' f0;have bl:=hb.len;have b3:=hb.three;refine ⟨_,v9 rfl eb,?_⟩;refine ⟨bs.map z5,rfl,?_⟩;refine ve (λrest ε=>(∀ x∈rest,∃ b∈bs,x=z5 b)/\∃(n:Int)(s10 s11 s12:MSlot),ε=[.sh (scr K ns),.sh d.pv,.sh (d.ob Aa),b9 n,.sh (.at (.int far)),.sh (y6 T),.sh (.lst (ms.map z5)),.sh (y6 T'),.sh (y6 T),.sh (.lst (bs.map z5)),s10,s11,s12]) ?_ ?_ _ _ ⟨λx hx=>(by obtain ⟨b,hb,rfl⟩:=yr.mp hx;exact ⟨b,hb,rfl⟩),n2,_,_,_,rfl⟩
 ·rintro ε ⟨_,n,s10,s11,s12,rfl⟩;exact ⟨.at (.bl true),rfl,rfl⟩
 ·rintro x rest ε ⟨hx,n,s10,s11,s12,rfl⟩;obtain ⟨one,ho,rfl⟩:=hx x yQ;have e2:((bs.map z5).length:Int)=bs.length:=by rw [yZ]
  have c0:0<=n % ((bs.map z5).length:Int):=ym _ (by omega);have c1:n % ((bs.map z5).length:Int)<((bs.map z5).length:Int):=yu _ (by omega);obtain ⟨j,hj0⟩:=yd c0;have hj:j<bs.length:=by omega
  refine ⟨_,rfl,_,rfl,⟨n,rfl⟩,_,rfl,n,_,rfl,rfl,zT (by omega) (by omega),z5 bs[j],?_,?_⟩
  ·show atI (bs.map z5) (n % ((bs.map z5).length:Int))=_;rw [hj0];exact xS (by rw [yO,yN hj];rfl)
  generalize n / ((bs.map z5).length:Int)=n3;refine ⟨[.lst [z5 one],.lst [z5 one,z5 bs[j]],.lst (z5 one::ms.map z5)],?_,?_⟩
  ·have ea:z0 qt (o6 (q0 (x6 10) x9)) (x8 6) [.sh (scr K ns),.sh d.pv,.sh (d.ob Aa),b9 n3,.sh (.at (.int far)),.sh (y6 T),.sh (.lst (ms.map z5)),.sh (y6 T'),.sh (y6 T),.sh (.lst (bs.map z5)),.sh (z5 one),.sh (z5 bs[j]),s12]=some (.lst (z5 one::ms.map z5)):=w6 (jt (w4 rfl rfl) l1) rfl (Jj (by rw [yZ];simp;omega));exact js (jt (w4 (jt (w4 rfl rfl) l1) (w4 (jt (w4 rfl (w4 rfl rfl)) l2) (w4 ea rfl))) l3)
  refine ve (λrest ε=>(∀ x∈rest,∃ ps:List PV,ps.length<=3/\x = .lst (z5 one::ps))/\∃(s12:MSlot),ε=[.sh (scr K ns),.sh d.pv,.sh (d.ob Aa),b9 n3,.sh (.at (.int far)),.sh (y6 T),.sh (.lst (ms.map z5)),.sh (y6 T'),.sh (y6 T),.sh (.lst (bs.map z5)),.sh (z5 one),.sh (z5 bs[j]),s12]) ?_ ?_ _ _ ⟨λx hx=>(by
   simp only [yM,yh,or_false] at hx;rcases hx with rfl|rfl|rfl
   ·exact ⟨[],by decide,rfl⟩
   ·exact ⟨[z5 bs[j]],by show 1<=3;decide,rfl⟩
   ·exact ⟨ms.map z5,by rw [yZ];exact hms,rfl⟩),_,rfl⟩
  ·rintro ε ⟨_,s12,rfl⟩;exact zQ (h8 (v:=false) (w6 rfl rfl (Jk (MR T)))) ⟨λx hx'=>hx x (yR _ hx'),n3,_,_,_,rfl⟩
  ·rintro x rest2 ε ⟨hx2,s12,rfl⟩;obtain ⟨ps,hp,rfl⟩:=hx2 x yQ;refine ⟨_,rfl,?_⟩;refine zQ (h8 (v:=false) (w6 (v9 (w4 rfl (w4 rfl (w4 (w6 rfl rfl (Jj (xs:=ms.map z5) (ys:=z5 one::ps) (by rw [yZ,yC];omega))) rfl))) (Ba ok X w (hb.bad one ho))) rfl ?_)) ⟨λx hx'=>hx2 x (yR _ hx'),_,rfl⟩;rw [yZ];exact Jk rfl
theorem DD (F:Fun K "law" "law" vB f fd)(Q8:Fn P w K mg base 6 "_law_at" ["works","trays","moves"] (v8 (zp Ab Aa)))(N3:Fn P w K mg base 2 "_law_bad" ["parts","trays","far"] (v8 Xu))(Ae:Fn P w K mg base 1 "_law_digit" ["row","many"] zv)(Iy:Fn P w K mg base 2 "_law_good" ["row","parts","trays"] (spD QA QP))(Ik:Fn P w K mg base 4 "_law_parts" ["script","most"] (spV (QC K) vL))(B4:Fn P w K mg base 2 "_law_stream" ["script","k"] (spN (vw K) jN))(Id:Fn P w K mg base 2 "_law_trays" ["row","parts"] (spD XY QR))(Ad:mg "len"=none)(Ai:mg "list"=none)(Eg:mg "sum"=none)(Im:mg "Works"=some (.ref Aa))(Ia:Mkr P w K mg base 5 Aa ["self","rinses","cloths","last","time"] (spI Aa (wp Aa))):FnOk P w K mg base v7 7 f fd ["script"] (QJ K) :=
 okL (k:=6) (b:=WL K Ab Aa) F sc_law (λcdv A outer s H E hr=>⟨_,(j7 (sW 1 sc_law.nd (fW Ik hr (aC (pv 0) (aW z7))))
  (j7 (sW 2 sc_law.nd (pe_mk Ia hr (by decide) rfl Im (aC (iW (K:=K) rfl (pv 1) z7) (aC (iW (K:=K) rfl (pv 1) z7) (aC (iW (K:=K) rfl (pv 1) z7) (aW (iW (K:=K) rfl (pv 1) z7)))))))
  (j7 (sW 3 sc_law.nd (fW B4 hr (aC (pv 0) (aW z7))))
  (j7 (sW 4 sc_law.nd (u3 (jA) (u7 (BE (K:=K) rfl rfl) rfl Eg Zn (aW (pv 0))) (u3 (vl) z7 z7)))
  (j7 (sW 5 sc_law.nd (fW Id hr (aC (pv 3) (aW (pv 1)))))
  (j7 (Gq (fW Iy hr (aC (pv 3) (aC (pv 1) (aW (pv 5))))) (vq (K:=K) (n:=2) rfl rfl (xD (gW 6 sc_law.nd) (xD (gW 7 sc_law.nd) vt))))
  (j7 (zu (i:=8) (N':=["tray"]) (cap:=[none]) (c4 rfl rfl rfl) rfl sc_law.nd rfl rfl (@c5 _ K _ _ _ rfl (pv 5)) (λ_ _ _ _ _ _=>(p8 (i:=0) (by show (["tray"]:List Str).Nodup;decide +kernel) rfl (Or.inl rfl))) (λ_ _ _ _ _ _=>i5) (λ_ _ _ _ _ _=>(wA (Zo (K:=K) rfl) rfl Ai jo (aW (pv 0)))))
  (j7 (c8 (i4 (jB (K:=K) (qE hr) rfl) (fW Q8 hr (aC (pv 2) (aC (pv 8) (aW (pv 6))))) (zK zP z7) (c7 _)) (j6 (u4 xZ)) m9)
  (j7 (sW 9 sc_law.nd (fW N3 hr (aC (pv 1) (aC (pv 7) (aW (pv 4))))))
  (j7 (xp PassesOwn.never rfl (@c5 _ K _ _ _ rfl (pv 9)) (gW 10 sc_law.nd)
   (j7 (sW 11 sc_law.nd (iW (K:=K) rfl (pv 9) (fW Ae hr (aC (pv 3) (aW (u7 (qf (K:=K) rfl) rfl Ad PySem.boot_len (aW (pv 9))))))))
  (j7 (xp PassesOwn.never rfl (@c5 _ K _ _ _ rfl (@qL _ _ _ _ (aC (@qL _ _ _ _ (aW (pv 10))) (aC (@qL _ _ _ _ (aC (pv 10) (aW (pv 11)))) (aW (u3 (qZ (K:=K) rfl) (@qL _ _ _ _ (aW (pv 10))) (pv 6))))))) (gW 12 sc_law.nd)
   (j6 (c8 (i4 (jB (K:=K) (qE hr) rfl) (fW Q8 hr (aC (pv 2) (aC (pv 8) (aW (u3 (qZ (K:=K) rfl) (pv 6) (pv 12)))))) (u7 (qf (K:=K) rfl) rfl Ad PySem.boot_len (aW (pv 6))) (c7 _)) (j6 (u4 xZ)) m9)))
  (j6 (c8 (i4 (jB (K:=K) (qE hr) rfl) (pv 8) (pv 5) (c7 _)) (j6 (u4 xZ)) m9)))))
  (j6 (u4 xZ)))))))))))),
  (by repeat' first|infer_instance|(refine @Mi.instSemWSTSeqWSeq _ _ _ _ ?_ ?_)|(apply @Mi.instSemWSTForWForOfSemWIOfSemWG))⟩) PM
theorem BO {K:Fg}(h:PySem.W.hasDictIn K C=true):(PySem.W.clsIn K C).isSome=true:=by
 unfold PySem.W.hasDictIn at h;cases e:PySem.W.clsIn K C with
 |none=>rw [e] at h;cases h
 |some cd=>rfl
theorem Be {K:Fg}{fd:FuncData}{T:Addr}{ob:Obj}{items:Array Value}(hd:fd.defaults = .ref T)(q:K.lookup T=some ob)(hs:ob.data = .seq items n)(h:∀ us:List Value,us.length=ps.length->∃ k:Option (Array Value)->Sem (List (Str×Value)),bindArgs fd ⟨us,[]⟩=seqItems? fd.defaults >>= k/\k (some items)=pure (ps.zip us)):Binds K fd ps []:=λs us X hl=>by
 rw [yo] at hl ⊢;obtain ⟨k,e1,e2⟩:=h us hl;exact BindsTo.of_defaults hd (X _ _ q) hs e1 e2
abbrev so (f:Addr):Option (Option Value):=some (some (.ref f))
abbrev fO (oc:Value)(od:Option Addr)(x q:Str)(st:Stmt)(dV kV dc pm:Value)(an:Option Addr)(cd ct:Value)(sl:Array (Option Value)):Option Obj:=some ⟨oc,od,.func (PySem.W.fnOf x q (xK st) (t9 st) (j3 st) dV kV dc pm an cd ct),sl⟩
theorem fnM (P:Program)(w:World)(base:Heap){K:Fg}{mg:Str->Option Value}{k:Nat}{f:Addr}{fd:FuncData}(h:FnOk P w K mg base v7 k f fd ps sp)(a:mg x=some (.ref f))(kp:PySem.W.keepIn K (.ref f)=true)(b:Binds K fd ps []):Fn P w K mg base k x ps sp:=⟨f,fd,h,a,kp,b⟩
theorem bi1 {K:Fg}{f:Addr}{fd:FuncData}{p:Str}(F:Fun K x qual st f fd)(h:∀(kV doc pm:Value)(an:Option Addr)(cdv ct u:Value),bindArgs (PySem.W.fnOf x qual (xK st) (t9 st) (j3 st) .none kV doc pm an cdv ct) ⟨[u],[]⟩=pure [(p,u)]):Binds K fd [p] []:=F.binds λa b c d e g us hl=>match us,hl with|[_],_=>h a b c d e g _
theorem bi2 {K:Fg}{f:Addr}{fd:FuncData}{p:Str}(F:Fun K x qual st f fd)(h:∀(kV doc pm:Value)(an:Option Addr)(cdv ct u v:Value),bindArgs (PySem.W.fnOf x qual (xK st) (t9 st) (j3 st) .none kV doc pm an cdv ct) ⟨[u,v],[]⟩=pure [(p,u),(q,v)]):Binds K fd [p,q] []:=F.binds λa b c d e g us hl=>match us,hl with|[_,_],_=>h a b c d e g _ _
structure Zt (P:Program)(w:World)(K:Fg)(mg:Str->Option Value)(base h:Heap):Prop where
 X:K.In h
 G:h.Ns mainGlobals mg
def FG (K:Fg)(x:Str)(st:Stmt):Prop:=∃ f oc od kV dc pm an cd ct sl,PySem.W.nsIn K mainGlobals x=so f/\K.lookup f=fO oc od x x st .none kV dc pm an cd ct sl/\PySem.W.codeIn K cd x=true/\PySem.W.keepIn K (.ref f)=true
theorem FG.i {K:Fg}{f:Addr}{kV:Value}(a:PySem.W.nsIn K mainGlobals x=so f)(l:K.lookup f=fO oc od x x st .none kV dc pm an cd ct sl)(c:PySem.W.codeIn K cd x=true)(k:PySem.W.keepIn K (.ref f)=true):FG K x st:=⟨_,_,_,_,_,_,_,_,_,_,a,l,c,k⟩
def FM (K:Fg)(C:Addr)(x q:Str)(st:Stmt):Prop:=∃ f oc od kV dc pm an cd ct sl,PySem.W.findIn K (.ref C) x=so f/\PySem.W.isFn K (.ref f)=true/\K.lookup f=fO oc od x q st .none kV dc pm an cd ct sl/\PySem.W.codeIn K cd q=true/\PySem.W.keepIn K (.ref f)=true
theorem FM.i {K:Fg}{f:Addr}{kV:Value}(a:PySem.W.findIn K (.ref C) x=so f)(i:PySem.W.isFn K (.ref f)=true)(l:K.lookup f=fO oc od x q st .none kV dc pm an cd ct sl)(c:PySem.W.codeIn K cd q=true)(k:PySem.W.keepIn K (.ref f)=true):FM K C x q st:=⟨_,_,_,_,_,_,_,_,_,_,a,i,l,c,k⟩
abbrev BdA (x q:Str)(st:Stmt)(ps:List Str):Prop:=∀(kV doc pm:Value)(an:Option Addr)(cdv ct:Value)(us:List Value),us.length=ps.length->bindArgs (PySem.W.fnOf x q (xK st) (t9 st) (j3 st) .none kV doc pm an cdv ct) ⟨us,[]⟩=pure (ps.zip us)
section
variable {P:Program}{w:World}{K:Fg}{mg:Str->Option Value}{base h:Heap}{k:Nat}{ps:List Str}{sp:Sp}{x q:Str}{st:Stmt}{C:Addr}
theorem fG (Z:Zt P w K mg base h)(a:FG K x st)(H:∀{f fd},Fun K x x st f fd->FnOk P w K mg base v7 k f fd ps sp)(b:BdA x x st ps:=by intro _ _ _ _ _ _ us hl;first|exact (match us,hl with|[_],_=>rfl)|exact (match us,hl with|[_,_],_=>rfl)|exact (match us,hl with|[_,_,_],_=>rfl)|exact (match us,hl with|[_,_,_,_],_=>rfl)|exact (match us,hl with|[_,_,_,_,_],_=>rfl)):Fn P w K mg base k x ps sp:=by obtain ⟨f,oc,od,kV,dc,pm,an,cd,ct,sl,a,l,c,kp⟩:=a;exact ⟨f,_,H (zm l c kp),PySem.W.mg_of Z.X Z.G a,kp,(zm l c kp).binds b⟩
theorem fM (Z:Zt P w K mg base h)(kc:zS K C)(a:FM K C x q st)(H:∀{f fd},Fun K x q st f fd->FnOk P w K mg base v7 k f fd ps sp)(b:BdA x q st ps:=by intro _ _ _ _ _ _ us hl;first|exact (match us,hl with|[_],_=>rfl)|exact (match us,hl with|[_,_],_=>rfl)|exact (match us,hl with|[_,_,_],_=>rfl)|exact (match us,hl with|[_,_,_,_],_=>rfl)|exact (match us,hl with|[_,_,_,_,_],_=>rfl)):Mt P w K mg base k C x ps sp:=by obtain ⟨f,oc,od,kV,dc,pm,an,cd,ct,sl,a,i,l,c,kp⟩:=a;exact ⟨f,_,H (zm l c kp),⟨a,i,kp⟩,kc.c,(zm l c kp).binds b⟩
end
theorem fGY {P:Program}{w:World}{K:Fg}{mg:Str->Option Value}{base h:Heap}{k:Nat}(Z:Zt P w K mg base h)(a:FG K x st)(H:∀{f fd},Fun K x x st f fd->FnOk P w K mg base (CX2 P w) k f fd ps sp)(b:BdA x x st ps:=by intro _ _ _ _ _ _ us hl;first|exact (match us,hl with|[_],_=>rfl)|exact (match us,hl with|[_,_],_=>rfl)|exact (match us,hl with|[_,_,_],_=>rfl)|exact (match us,hl with|[_,_,_,_],_=>rfl)|exact (match us,hl with|[_,_,_,_,_],_=>rfl)):Fy P w K mg base k x ps sp:=by obtain ⟨f,oc,od,kV,dc,pm,an,cd,ct,sl,a,l,c,kp⟩:=a;exact ⟨f,_,H (zm l c kp),PySem.W.mg_of Z.X Z.G a,kp,(zm l c kp).binds b⟩
theorem fGS {P:Program}{w:World}{K:Fg}{mg:Str->Option Value}{base h:Heap}{k:Nat}(Z:Zt P w K mg base h)(a:FG K x st)(H:∀{f fd},Fun K x x st f fd->wQ P w K mg base k f fd ps sp)(b:BdA x x st ps:=by intro _ _ _ _ _ _ us hl;first|exact (match us,hl with|[_],_=>rfl)|exact (match us,hl with|[_,_],_=>rfl)|exact (match us,hl with|[_,_,_],_=>rfl)|exact (match us,hl with|[_,_,_,_],_=>rfl)|exact (match us,hl with|[_,_,_,_,_],_=>rfl)):Fs P w K mg base k x ps sp:=by obtain ⟨f,oc,od,kV,dc,pm,an,cd,ct,sl,a,l,c,kp⟩:=a;exact ⟨f,_,H (zm l c kp),PySem.W.mg_of Z.X Z.G a,kp,(zm l c kp).binds b⟩
def FXI (K:Fg)(C R:Addr)(f q:Str)(st:Stmt):Prop:=∃ fI oc od kV dc pm an cd ct sl,PySem.W.findIn K (.ref C) "__init__"=so fI/\K.lookup fI=fO oc od "__init__" q st .none kV dc pm an cd ct sl/\PySem.W.codeIn K cd q=true/\PySem.W.keepIn K (.ref fI)=true/\PySem.W.isFn K (.ref fI)=true/\PySem.W.keepIn K (.ref C)=true/\PySem.W.findIn K (.ref C) "__setattr__"=some (some (.builtin "object.__setattr__"))/\PySem.W.findIn K (.ref C) f=some none/\zR K C R fI=true
theorem FXI.i {K:Fg}{f:Str}{kV:Value}(a:PySem.W.findIn K (.ref C) "__init__"=so fI)(l:K.lookup fI=fO oc od "__init__" q st .none kV dc pm an cd ct sl)(c:PySem.W.codeIn K cd q=true)(k:PySem.W.keepIn K (.ref fI)=true)(i:PySem.W.isFn K (.ref fI)=true)(k2:PySem.W.keepIn K (.ref C)=true)(s:PySem.W.findIn K (.ref C) "__setattr__"=some (some (.builtin "object.__setattr__")))(n:PySem.W.findIn K (.ref C) f=some none)(x:zR K C R fI=true):FXI K C R f q st:=⟨_,_,_,_,_,_,_,_,_,_,a,l,c,k,i,k2,s,n,x⟩
theorem fXI {P:Program}{w:World}{K:Fg}{mg:Str->Option Value}{base h:Heap}{f:Str}(Z:Zt P w K mg base h)(g:mg x=some (.ref C))(a:FXI K C R f q st)(H:∀ {fI fd},Fun K "__init__" q st fI fd->zR K C R fI=true->PySem.W.findIn K (.ref C) "__setattr__"=some (some (.builtin "object.__setattr__"))->PySem.W.findIn K (.ref C) f=some none->FnOk P w K mg base v7 1 fI fd ps (wG C f))(b:BdA "__init__" q st ps:=by intro _ _ _ _ _ _ us hl;first|exact (match us,hl with|[_],_=>rfl)|exact (match us,hl with|[_,_],_=>rfl)|exact (match us,hl with|[_,_,_],_=>rfl)|exact (match us,hl with|[_,_,_,_],_=>rfl)|exact (match us,hl with|[_,_,_,_,_],_=>rfl)):XMk P w K mg base 1 x C f:=by obtain ⟨fI,oc,od,kV,dc,pm,an,cd,ct,sl,a,l,c,kp,i,k2,s,n,q⟩:=a;exact ⟨R,fI,_,_,q,i,k2,g,H (zm l c kp) q s n,(zm l c kp).binds b⟩
theorem all_mk {w:World}{K:Fg}{h:Heap}{mg:Str->Option Value}{fa f43 f51:Addr}{od43 od51 an43 an51:Option Addr}{sl43 sl51:Array (Option Value)}{oc43 oc51 kV43 kV51 dc43 dc51 pm43 pm51 ct43 ct51 cd43 cd51:Value}{T43:Addr}{qc43 qv43_0 qv43_1:Value}{qd43:Option Addr}{qn43:Nat}{qs43:Array (Option Value)}(X:K.In h)(TT:∀ P∈[],h.get? P=some (PySem.W.tabObj #[]))(hTB:TABS=[])(G:h.Ns mainGlobals mg)(hfa:mg "law"=some (.ref fa))(N1:W.nsIn K mainGlobals "NoMove"=some (some (.ref Ab)))(J8:W.nsIn K mainGlobals "NoName"=some (some (.ref Ak)))(J4:W.nsIn K mainGlobals "NoPlan"=some (some (.ref Al)))(Il:W.nsIn K mainGlobals "RinseError"=some (some (.ref Ag)))(Q6:W.nsIn K mainGlobals "Works"=some (some (.ref Aa)))(J3:FXI K Ab Ag "at" "NoMove.__init__" Zf)(N6:PySem.W.plainGet K Aa Str.empty=true)(N5:PySem.W.hasDictIn K Aa=true)(N7:PySem.W.plainOver K Aa=true)(N8:W.findIn K (.ref Aa) "__setattr__"=some (some (.builtin "object.__setattr__")))(N9:PySem.W.makesIn K Aa=true)(Q0:W.keepIn K (.ref Aa)=true)(E5:W.findIn K (.ref Aa) "given"=some none)(Ih:W.findIn K (.ref Aa) "held"=some none)(Iu:W.findIn K (.ref Aa) "last"=some none)(E3:W.findIn K (.ref Aa) "least"=some none)(Ir:W.findIn K (.ref Aa) "time"=some none)(a0:FG K "_law_mixed" Vg)(a1:FG K "_law_digit" JO)(a2:FG K "_law_stream" Zg)(a3:FG K "_law_number" Vj)(a4:FG K "_law_rinses" Vn)(a5:FG K "_law_names" Vi)(a6:FG K "_law_cloth" JM)(a7:FG K "_law_parts" Vk)(a8:FG K "is_whole" JZ)(a9:FG K "name_of" Vh)(a10:FG K "hue_of" JR)(a11:FG K "length_of" Ve)(a12:FG K "due_of" JP)(a13:FG K "weight_of" Vw)(a14:FG K "is_from" JT)(a15:FG K "is_name" JU)(a16:FG K "is_cloth" JS)(a17:FG K "is_rinse_row" JX)(a18:FG K "check_rinses" JJ)(a19:FG K "straight_ways" Vo)(a20:FG K "joined" Va)(a21:FG K "lesser" Vf)(a22:FG K "ways_through" Vv)(a23:FG K "least_ways" Vd)(a24:FG K "sums_of" Vp)(a25:FG K "least_rinses" Vc)(a26:FG K "check_start" JK)(a27:FG K "check_cloths" JI)(a28:FM K Aa "hues" "Works.hues" JD)(a29:FM K Aa "names" "Works.names" JE)(a30:FM K Aa "cloth" "Works.cloth" JC)(a31:FG K "are_names" JG)(a32:FG K "is_plan" JW)(a33:FG K "cloths_of" JN)(a34:FG K "tray_hue" Vq)(a35:FG K "is_of_one_hue" JV)(a36:FG K "are_full_lists" JF)(a37:FG K "check_trays" JL)(a38:FG K "place_of" Vm)(a39:FG K "tray_without" Vt)(a40:FG K "tray_moved" Vr)(a41:FG K "is_tray_move" JY)(a42:FG K "tray_walked" Vs)(a43:W.findIn K (.ref Aa) "__init__"=so f43)(i43:W.isFn K (.ref f43)=true)(l43:K.lookup f43=fO oc43 od43 "__init__" "Works.__init__" vA (.ref T43) kV43 dc43 pm43 an43 cd43 ct43 sl43)(c43:W.codeIn K cd43 "Works.__init__"=true)(k43:W.keepIn K (.ref f43)=true)(q43:K.lookup T43=some ⟨qc43,qd43,.seq #[qv43_0,qv43_1] qn43,qs43⟩)(a44:FG K "_law_tray_moved" Vb)(a45:FG K "_law_place" Vl)(a46:FG K "_law_whole" Vx)(a47:FG K "_law_bad" JH)(a48:FG K "_law_trays" Vu)(a49:FG K "_law_at" s_at)(a50:FG K "_law_good" JQ)(a51:W.nsIn K mainGlobals "law"=so f51)(l51:K.lookup f51=fO oc51 od51 "law" "law" vB .none kV51 dc51 pm51 an51 cd51 ct51 sl51)(c51:W.codeIn K cd51 "law"=true)(k51:W.keepIn K (.ref f51)=true)(Ib:W.nsIn K mainGlobals "ValueError"=some none)(Rc:W.nsIn K mainGlobals "all"=some none)(Ra:W.nsIn K mainGlobals "bool"=some none)(Rb:W.nsIn K mainGlobals "dict"=some none)(Iv:W.nsIn K mainGlobals "enumerate"=some none)(Ri:W.nsIn K mainGlobals "int"=some none)(Ie:W.nsIn K mainGlobals "isinstance"=some none)(Rj:W.nsIn K mainGlobals "len"=some none)(Q9:W.nsIn K mainGlobals "list"=some none)(Q5:W.nsIn K mainGlobals "range"=some none)(Re:W.nsIn K mainGlobals "set"=some none)(N0:W.nsIn K mainGlobals "sorted"=some none)(Rh:W.nsIn K mainGlobals "str"=some none)(Rf:W.nsIn K mainGlobals "sum"=some none)(Q7:W.nsIn K mainGlobals "tuple"=some none)(Rg:W.nsIn K mainGlobals "zip"=some none)(Ex:W.nsIn K mainGlobals "LONGEST_NAME"=some (some (.int 8 A9)))(E4:W.nsIn K mainGlobals "MOST_CLOTHS"=some (some (.int 10 D1)))(Iw:W.nsIn K mainGlobals "MOST_HUES"=some (some (.int 4 Eb)))(Q4:W.nsIn K mainGlobals "PARTS"=some (some (.int 5 Ii)))(E8:PySem.W.hasDictIn K Ab=true)(J0:W.findIn K (.ref Ab) "__getattribute__"=some (some (.builtin "BaseException.__getattribute__")))(J1:W.findIn K (.ref Ab) "__getattr__"=some none)(Iz:W.findIn K (.ref Ab) "__class__"=some (some (.builtin "object.__class__")))(J2:PySem.W.mroIn K Ab (.type "object")=some true)(Ix:PySem.W.mroIn K Ab (.type "BaseException")=some true)(usp:PySem.W.specialIn K (.builtin "object.__class__") "__get__"=some (some (.builtin "getset_descriptor.__get__")))(utk:PySem.W.takesIn K (.builtin "object.__class__")=some true)(B8:W.findIn K (.ref Ab) "at"=some none)(Ap:PySem.W.exmOne K (.ref Ab) (.ref Ag)=some true)(Av:PySem.W.kitOne K (.ref Ab) (.ref Ab)=some true)(D4:PySem.W.kitOne K (.ref Ab) (.type "ValueError")=some true)(Ax:PySem.W.kitOne K (.ref Ab) (.ref Ak)=some false)(Aw:PySem.W.kitOne K (.ref Ab) (.ref Al)=some false):∃ fd:FuncData,(∀ (s:Shared) (v:Value),BindsTo s fd ⟨[v],[]⟩ [("script",v)])/\vS K h/\∀ base:Heap,K.In base->base.Ns mainGlobals mg->FnOk l.prog w K mg base v7 7 fa fd ["script"] (QJ K):=by
 have e:=hfa.symm.trans (W.mg_of X G a51);cases e;have D6:=W.mg_none_of X G Ib;have As:=W.mg_none_of X G Rc;have Eo:=W.mg_none_of X G Ra;have Ep:=W.mg_none_of X G Rb;have Af:=W.mg_none_of X G Iv;have E7:=W.mg_none_of X G Ri;have Ac:=W.mg_none_of X G Ie;have Ad:=W.mg_none_of X G Rj;have Ai:=W.mg_none_of X G Q9;have Ah:=W.mg_none_of X G Q5;have N2:=W.mg_none_of X G Re;have Ez:=W.mg_none_of X G N0;have E6:=W.mg_none_of X G Rh;have Eg:=W.mg_none_of X G Rf;have Ij:=W.mg_none_of X G Q7;have J7:=W.mg_none_of X G Rg;have B3:=W.mg_of X G Ex;have D3:=W.mg_of X G E4;have Ef:=W.mg_of X G Iw;have Ig:=W.mg_of X G Q4;have Ej:=W.mg_of X G N1;have E2:=W.mg_of X G J8;have Ew:=W.mg_of X G J4;have D7:=W.mg_of X G Il;have Im:=W.mg_of X G Q6;have Az:xk K Ab:=⟨BO E8,J0,J1,Iz,usp,utk,J2,Ix⟩;have Ek:=E8;have Io:zS K Aa:=⟨⟨N6,N5,N7,N8⟩⟩;have N4:NoA K Aa "given":=⟨E5⟩;have Q3:NoA K Aa "held":=⟨Ih⟩;have Q2:NoA K Aa "last":=⟨Iu⟩;have J9:NoA K Aa "least":=⟨E3⟩;have Q1:NoA K Aa "time":=⟨Ir⟩;have F43:=Pq (st:=vA) l43 c43 k43;have F51:=zm (st:=vB) l51 c51 k51;have b43:Binds K (W.fnOf "__init__" "Works.__init__" (xK vA) (t9 vA) (j3 vA) (.ref T43) kV43 dc43 pm43 an43 cd43 ct43) ["self","rinses","cloths","last","time"] []:=Be (T:=T43) rfl q43 rfl λus hl=>match us,hl with|[_,_,_,_,_],_=>⟨_,rfl,rfl⟩
 have TK:vS K h:=by refine ⟨λp hp=>?_,λp hp=>?_,λp hp q hq=>?_,λp hp=>?_,λp hp q hq e=>?_,λp hp=>?_⟩<;>rw [hTB] at hp<;>cases hp
 refine ⟨W.fnOf "law" "law" (xK vB) (t9 vB) (j3 vB) .none kV51 dc51 pm51 an51 cd51 ct51,λs v=> .of_eq rfl,TK,λbase _ _=>?_⟩;have Z:Zt l.prog w K mg base h:=⟨X,G⟩;have Ey:XMk l.prog w K mg base 1 "NoMove" Ab "at":=fXI (st:=Zf) Z Ej J3 λF q s n=>Da F q s n;have El:=fG Z a0 λF=>DI F;have Ae:=fG Z a1 λF=>Do F;have B4:=fG Z a2 λF=>DR F El Ad Ah Eg;have Au:=fG Z a3 λF=>DL F Ae;have Ev:=fG Z a4 λF=>DP F Ae Au Ah;have E9:=fG Z a5 λF=>DK F Ae Ad Ah;have Ip:=fG Z a6 λF=>Dm F Ae Au;have Ik:=fG Z a7 λF=>DM F Ip Ae E9 Au Ev B4;have Aj:=fG Z a8 λF=>DA F Eo E7 Ac;have Ao:=fG Z a9 λF=>DJ F;have Ar:=fG Z a10 λF=>Ds F;have Ea:=fG Z a11 λF=>DG F;have E1:=fG Z a12 λF=>Dp F;have Ed:=fG Z a13 λF=>Ma F;have Aq:=fG Z a14 λF=>Du F Aj;have En:=fG Z a15 λF=>Dv F As Ac Ad E6 B3;have Ei:=fG Z a16 λF=>Dt F E1 Ar Aq En Aj Ea Ao Ed Ac Ad Ij Ig;have A5:=fG Z a17 λF=>Dy F Aj As Ac Ad Ai;have B5:=fG Z a18 λF=>Dj F A5 As Ac Ad Ai Ef;have A0:=fG Z a19 λF=>DQ F Af;have Eu:=fG Z a20 λF=>DB F;have Et:=fG Z a21 λF=>DH F;have B6:=fG Z a22 λF=>DZ F Eu Et J7;have D9:=fG Z a23 λF=>DF F A0 B6 Ad Ah;have Em:=fG Z a24 λF=>DT F;have B0:=fG Z a25 λF=>DE F B5 D9 Em;have B9:=fG Z a26 λF=>Dk F Aq;have B7:=fG Z a27 λF=>Di F Ei Ao Ad D3;have A4:=fM (sp:=(v8 (wo Aa))) Z Io a28 λF=>Dc F Ad;have Am:=fM (sp:=(spO (vh Aa))) Z Io a29 λF=>De F Ez;have An:=fM (sp:=(v8 (vg Aa))) Z Io a30 λF=>Db F Ac E6;have Ec:=fG (sp:=(v8 (Qi Aa))) Z a31 λF=>Dg F As Ac Ad Ai N2 Am;have Es:=fG (sp:=(v8 (Ql Aa))) Z a32 λF=>Dx F Ec Ad Am;have Ee:=fG (sp:=(v8 (Qj Aa))) Z a33 λF=>Dn F An;have At:=fG (sp:=(v8 (jz Aa))) Z a34 λF=>DU F Ar An;have A3:=fG (sp:=(v8 (Qk Aa))) Z a35 λF=>Dw F Ee Ar At As;have Ay:=fG Z a36 λF=>Df F As Ac Ad Ai;have D5:=fG (sp:=(v8 (vi Aa))) Z a37 λF=>Dl F Ay A3 Es As Eg;have Eh:=fG Z a38 λF=>DO F Af;have A8:=fG Z a39 λF=>DX F;have D8:=fG Z a40 λF=>DV F A8;have A6:=fG (sp:=(v8 (xU Aa))) Z a41 λF=>Dz F Eh At Ad;have D2:=fGY (sp:=(wF (jc Aa) (jH Ab Aa))) Z a42 λF=>DW F D5 A6 D8 Af Ai Ey;have Ia:Mkr l.prog w K mg base _ Aa _ (spI Aa (wp Aa)):=⟨_,_,Dd F43 B7 B9 B0 Ao Ep Ai A4,⟨N9,a43,i43,Q0⟩,b43⟩;have A7:=fG Z a44 λF=>DC F Ad;have Ic:=fG Z a45 λF=>DN F;have Iq:=fGS Z a46 λF=>Mb F Eo E7 Ac;have N3:=fG Z a47 λF=>Dh F Ic Af Ad;have Id:=fG Z a48 λF=>DY F Ae Ep Ad Ah;have Q8:=fG (sp:=(v8 (zp Ab Aa))) Z a49 λF=>ok_at F D2 Iq D6 Ac Ej E2 Ew D7 B8 Ek Az Ap Av D4 Ax Aw;have Iy:=fG Z a50 λF=>Dq F Ae A7 Af Ad Ah;exact DD F51 Q8 N3 Ae Iy Ik B4 Id Ad Ai Eg Im Ia
theorem walk {q:Program}{loose:List Str}{XP:(Str->Option Value)->Heap->Prop}{YP:World->Heap->Prop}{d:DefRec}{K:Params->Fg}(hn:l.most=some 63)(hdf:d.params.defaults=[])(hY:∀ (w:World) (h:Heap),YP w h->(K w.params).In h)(F:∀ (w:World) (mg:Str->Option Value) (fa:Addr) (h:Heap),YP w h->(K w.params).In h->h.Ns mainGlobals mg->mg d.name=some (.ref fa) -> ∃ fd:FuncData,(∀ (s:Shared) (u:Value),BindsTo s fd ⟨[u],[]⟩ [("script",u)])/\vS (K w.params) h/\∀ base:Heap,(K w.params).In base->base.Ns mainGlobals mg->FnOk l.prog w (K w.params) mg base v7 7 fa fd ["script"] (QJ (K w.params))):PySem.W.WalkO q loose XP YP l.row.toRowW d [] (λf vs=>PySem.call f vs) :=
 L2.HF (n:=63) (k:=7) (x:="script") (CX:=λ_=>v7) (sp:=λw=>QJ (K w.params)) hn (by decide) hdf ⟨rfl,by decide,by decide⟩ hY F (λ_ _ a ns hl _ hS=>⟨a,ns,rfl,hS,hl,λ_=>rfl⟩) λ_ _ _ _ _ z=>z
end Lw
open PySem PySem.W PyProof.Rows
set_option maxRecDepth 100000 in
set_option maxHeartbeats 0 in
theorem PySem.Challenge.cw_rinsework_k67_tray_moves_refused_holds : PySem.Challenge.rw_rinsework_k67_tray_moves_refused.Holds := by
  w_on; o_law; k_head; (case hw => w_witness2)
  k_fill
  refine Lw.walk (l := PySem.Challenge.rw_rinsework_k67_tray_moves_refused) rfl rfl (λw h Y => PySem.W.kIn_of Y) ?F
  case F =>
    intro w mg fa h Y KX G hmg
    apply Lw.all_mk KX (λ_ z => nomatch z) rfl G hmg
    iterate 5 k_is
    iterate 1 (apply Lw.FXI.i;(iterate 8 k_is);kernel_rfl)
    iterate 11 k_is
    iterate 28 (apply Lw.FG.i;iterate 4 k_is)
    iterate 3 (apply Lw.FM.i;iterate 5 k_is)
    iterate 12 (apply Lw.FG.i;iterate 4 k_is)
    iterate 6 k_is
    iterate 7 (apply Lw.FG.i;iterate 4 k_is)
    iterate 33 k_is
    iterate 1 kts_exm
    iterate 4 kit_is
